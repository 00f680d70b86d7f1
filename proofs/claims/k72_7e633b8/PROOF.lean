import PyProof.Rows.All
import Wide.All
import OpenK.AllK
import PySem.Challenge.RW_digbook_k72_clashes_told
open Array renaming append_assoc->UC,eq_empty_of_size_eq_zero->R7,ext->XO,find?_toList->UB,forIn_toList->Q0,getD->SV,getElem?_eq_getElem->Mw,getElem?_eq_none->Oq,getElem?_eq_some_iff->vk,getElem?_replicate->Tg,getElem?_toList->Ov,length_toList->Zb,mem_of_getElem?->OR,mem_toList_iff->Qf,perm_iff_toList_perm->SU,replicate->Vq,size_append->Rt,size_map->XP,size_push->Xj,size_setIfInBounds->PQ,toList->Wt,toList_append->Xe,toList_extract->Rr,toList_push->Rq,toList_setIfInBounds->SS
open Bool renaming and_eq_true->Zv,and_false->Ni,and_self->Ts,eq_false_iff->RX,eq_iff_iff->NW,false->iv,false_and->OA,false_eq_true->Zz,false_ne_true->Zt,false_or->Tr,not_eq_true->Sd,not_eq_true'->Vb,not_true->Ws,or_eq_false_iff->X7,or_eq_true->TW,or_false->Wr,or_true->RW,true->hY,true_and->Wo,true_or->TK
open Classical renaming byContradiction->Nv,not_forall->Qn,propDecidable->Ss
open Decidable renaming byContradiction->Nu
open False renaming elim->MM
open ForInStep renaming yield->OS
open Iff renaming rfl->OK
open Int renaming emod_lt_of_pos->Px,emod_nonneg->NX,eq_ofNat_of_zero_le->Xi,ofNat_lt->Xt,toNat_natCast->OJ,toNat_of_nonneg->Q9,zero_add->Ps
open Lean renaming Syntax->Xs
open List renaming Pairwise->PZ,Perm->L1,all_cons->VJ,all_eq_true->NC,all_map->WD,any_cons->Zw,any_eq_true->Sc,append_assoc->Ze,append_nil->Zx,cons_append->Tn,contains_cons->UN,countP_cons->Qq,drop_append->Sb,drop_append_of_le_length->Sn,drop_drop->W2,drop_eq_getElem_cons->Zy,drop_of_length_le->Oz,drop_zero->UE,eraseIdx_eq_take_drop_succ->OQ,exists_mem_of_ne_nil->Td,ext_getElem->RA,ext_getElem?->Q2,extract_eq_take_drop->Oa,filter->N8,filterMap_append->Y0,filterMap_cons->Y1,filter_append->Y2,filter_congr->U8,filter_cons->Y3,filter_cons_of_neg->Y4,filter_cons_of_pos->Y6,filter_eq_nil_iff->O4,filter_nil->Y7,filter_sublist->Q7,findIdx?->Wl,findIdx?_eq_none_iff->Tc,findIdx?_eq_some_iff_getElem->RM,flatMap_append->O3,flatMap_cons->PH,flatMap_singleton->TJ,flatten_cons->U7,foldl->UM,foldl_append->U6,foldl_cons->Y8,forIn_cons->Sj,forIn_nil->V3,getD_eq_getElem?_getD->Zc,getElem?_append_left->Y9,getElem?_append_right->Ya,getElem?_cons_zero->Tz,getElem?_drop->Yb,getElem?_eq_getElem->Z4,getElem?_eq_none->Xl,getElem?_map->Zl,getElem?_of_mem->Xg,getElem?_range->Rz,getElem?_replicate->Tx,getElem?_set_ne->QU,getElem?_set_self->TH,getElem?_take->Re,getElem?_take_of_lt->Yc,getElem?_zip_eq_some->Py,getElem_mem->Yd,getElem_of_mem->Qg,length->MR,length_append->Z9,length_cons->Zr,length_drop->Yh,length_eq_zero_iff->Ds,length_eraseIdx->Uq,length_filterMap_le->Oj,length_filter_le->Yi,length_map->Z6,length_nil->Wc,length_pos_iff->NF,length_pos_of_mem->TF,length_range->Yj,length_reverse->Uy,length_singleton->Yk,length_take->Yl,length_zip->TZ,lookup->NR,lookup_append->UL,lookup_cons->Ym,map->RT,map_append->Zd,map_congr_left->Yp,map_cons->Yq,map_drop->Wk,map_eq_nil_iff->Ux,map_id->W9,map_map->Ys,map_nil->SB,map_subset->VM,map_take->Wj,mem_append->Yt,mem_append_left->Yu,mem_append_right->Yv,mem_cons->Yw,mem_cons_of_mem->Zk,mem_cons_self->Zm,mem_erase_of_ne->Uo,mem_filter->ow,mem_filterMap->M6,mem_flatMap->ME,mem_flatten->Sa,mem_map->Pm,mem_of_getElem?->Z8,mem_of_mem_take->Yx,mem_range->yc,mem_singleton->Yy,nil_append->TX,nodup_append->X1,nodup_cons->NE,nodup_iff_pairwise_ne->X2,nodup_nil->X3,nodup_range->Rx,not_lt->Ul,not_mem_nil->X6,of_mem_zip->Wa,pairwise_append->QR,pairwise_cons->Rc,pairwise_iff_getElem->Tb,pairwise_map->X8,pairwise_singleton->Tw,perm_append_comm->QC,perm_append_comm_assoc->N2,range->p0,range_succ->Pd,replicate->G2,replicate_succ->Rv,reverse_cons->RS,set_append_right->Uf,size_toArray->Zp,sum_cons->Wi,take_add_one->Xa,take_append_drop->Xb,take_append_of_le_length->Xc,take_length->Xd,take_of_length_le->Zn,take_sublist->U5,take_subset->Vl,take_succ_eq_append_getElem->Oy,toList_toArray->Uw,zip->Nw,zipIdx_cons->R9,zipIdx_nil->VL
open List.Pairwise renaming imp->Xr,imp_of_mem->Xh,nil->Qy
open List.Perm renaming append_left->On,append_right->SM,cons->UA,refl->Nc,swap->Uz,trans->PY
open List.cons renaming inj->NQ,injEq->Nx
open Nat renaming add_assoc->WJ,add_comm->Ue,add_left_cancel->Q8,add_mod->U0,add_sub_cancel->Qi,add_sub_cancel_left->NN,add_zero->RD,ble->Qw,blt->W8,div_add_mod->V2,div_div_eq_div_mul->Ud,div_lt_of_lt_mul->Uv,eq_or_lt_of_le->U4,le_add_left->V1,le_add_right->PD,le_of_ble_eq_true->Ye,le_of_eq->Uc,le_of_lt->Yf,le_refl->Zi,le_succ->Yg,le_trans->nI,lt_irrefl->Xk,lt_of_le_of_lt->RH,lt_of_lt_of_le->Zg,lt_of_succ_lt->Vk,lt_succ_iff_lt_or_eq->Tv,lt_succ_of_lt->Yn,lt_succ_self->Yo,lt_trans->W7,lt_trichotomy->Vj,min_eq_left->Ry,min_eq_right->Sm,mod_eq_of_lt->Ql,mod_lt->S5,mod_mod_of_dvd->RG,mul_add->XM,mul_mod->XJ,ne_of_gt->Yz,ne_of_lt->Zs,not_lt_of_le->Sl,not_lt_zero->X4,pos_of_ne_zero->RF,pow_dvd_pow->SL,pow_le_pow_right->Pa,pow_succ->Qe,sub_self->QF,sub_zero->Ub,succ_le_succ->X9,succ_pos->TR,two_pow_pos->V0,zero_add->Su,zero_le->Xf
open Ne renaming symm->I0
open Option renaming any->WH,bind_some->RR,isSome_iff_exists->Qo,isSome_map->Wd,map_eq_some_iff->Mu,none->hV,some->hX
open Option.some renaming inj->Za
open Prod.mk renaming injEq->Nb
open PyProof.Rows renaming AllBare->Qt,IntsAre->U9,Keyed->Nq,SortKind->T8,SortSt->nX,StrsAre->MV,Subscript_->T7,arrOf->sk,boot_isinstance->XF,boot_list->QL,boot_reversed->XI,boot_str->VF,boot_tuple->Sk,callWith_builtin1->QP,callWith_type1->MS,countRun'->W3,elem'->OP,envOfC->Ng,failedOf->NL,formatField_str->XC,join_list->XH,listUpdate_at->Pn,ltAt'->WA,mergeAt'->TY,minRun'->UY,pendingOf->q7,reverseSlice'->Qv,seqEpoch_at->Vx,seqObj->OW,setArr->UR,setPending->QY,slot_tuple_getitem->Og,sortedHeap->QX,subscriptTail_builtinR->UP
open PyProof.Rows.F renaming entry_set_update_loop->Ur,plain_set_update_loop->Qz
open PyProof.Rows.SortSt renaming mk'->Ui
open PySem renaming Addr->ku,Around->wh,BindsTo->TL,Builtin->n7,CmpOp->VO,DictEntry->Tf,Draws->VN,Expr->yu,FuncData->O6,GenState->RN,Heap->xl,IsPair->Pj,IsPart->Te,IsTupleKey->MA,IsZip->SN,Keyword->O5,NameKind->KE,Obj->Ob,PassesOwn->PX,PlainAttrs->Pi,Program->nY,PyData->My,Result->Ua,Scope->RE,SetTable->nz,Shared->mu,Stmt->zr,Str->lp,Value->kj,World->v0,argBest->PM,assignEach->N1,atKey->UH,attributeBase->Nj,backTo->Nt,backToKw->Qh,behindInMarks->MY,binaryOp->M7,bindC->VH,bindL->VG,bootBuiltins->Nz,builtinLookup_eq_fast->Vg,builtinsNs->Wh,cLine->Of,callGetattribute->W4,callWith->T4,call_meets->OG,call_meetsIn->SH,callerA->TD,cellsFrom->MX,codeAny->PL,codeAny_builtin->NI,codeAny_call_builtin->Oe,codeAny_extend_loopS->VE,codeAny_of_tree->Tu,collect->Q3,compareOp->pp,entryFor->VC,entryFor_alias->T2,eval->MZ,evalPart_none_step->We,excClassObj->VB,fits_of_scanBound->NK,foldedSetIterable->O2,getAttr->WB,getItem->RP,getMethod->QK,hashByValue->Tl,hashStr->NH,holding->PF,isInstance->Sh,isSubtype_stop->T1,isTrue->S6,keywordEach->Od,letOwnedTupleGo->XB,mainGlobals->wy,model->Nf,ofAClassStatement->SA,onTheHeap->UD,pastItsLine_dict->W1,pickOrder->NT,plainId_quiet->Pl,plainObj_wpAny_Assign_Attribute->SW,pushCells_keeps->XA,putSet_of->RO,pyIter->UW,pyNext->Qd,raiseNew->Vy,rawInt->MO,relayAll->QH,richCompare_gives->Wz,richCompare_meets_room->UV,rule->Ru,scanBound->OO,setAdd->UT,setAddHashed->US,setEpoch->TU,setField->P9,setNext->QZ,setRelay->Vw,setSearchFrom->N7,sizeLine->md,sizeLine_eq->MN,sliceBounds->NZ,slicePick->WY,slot_list_getitem->Sy,standAt->Pk,starEach->vi,storeSet->Vu,strIterType->OM,subscripted->Ti,swapsWith->OL,sysModules->Nr,truthy->UO,tupleKeyHash->zp,tupleKind->S0,tupleKind_room_in1->P7,typeIs_int->V8,typeIs_str->OD,typeLookup->P6,typeLookup_type->Xz,typeOf->Pu,unbindBehindTheSuite->Vt,unsupported->Pq,valueAt->Sx,wpAny->tI,wpAny_Call_Name_kw->N0,wpAny_Dict_empty->WV,wpAny_Name->V7,wpAny_Try_except->WU,wpAny_askSetting->M3,wpAny_assign_Name->Wy,wpAny_attempt->NB,wpAny_bind->Z2,wpAny_call->Oc,wpAny_callSpecial?_slot->M0,wpAny_call_entry->MC,wpAny_collect_seq->Wx,wpAny_dictEntries->Sw,wpAny_dictEpoch->Tt,wpAny_eqBool_int->WT,wpAny_eqIsQuiet_tuple->Vf,wpAny_execs_cons->WS,wpAny_execs_nil->Ot,wpAny_field->MU,wpAny_fieldsOf->Ro,wpAny_forIn_list->WR,wpAny_getItem_list_slice->Us,wpAny_holding->vu,wpAny_isInstance->NS,wpAny_isOneOf_keyiter->Vd,wpAny_isSubtype_exc->VW,wpAny_isTrue_Compare1->Vc,wpAny_letGo->Rn,wpAny_letOwnedTupleGo_zip->Uh,wpAny_load->TQ,wpAny_loadPart->P5,wpAny_loadPart_at->OV,wpAny_lookBehind->WQ,wpAny_mono->Mz,wpAny_newObj_type->MG,wpAny_newTuple->Rk,wpAny_of_eq->Vs,wpAny_onRaise->R8,wpAny_passesOwn->N6,wpAny_pure->Z3,wpAny_pyHash_str->WP,wpAny_pyIter_ascii->V6,wpAny_pyIter_enum->Ww,wpAny_pyIter_keyiter->Vr,wpAny_pyIter_list->OU,wpAny_pyIter_slot->Sv,wpAny_pyIter_strU->Wv,wpAny_pyIter_tuple->Se,wpAny_pyIter_wide->Wu,wpAny_pyIter_zip->QD,wpAny_raiseNew_none->VV,wpAny_rule->OB,wpAny_runValue->TN,wpAny_seqItems->Nl,wpAny_setEntries_of->Oi,wpAny_setField->P4,wpAny_setField_rec->zz,wpAny_setScan_of->WO,wpAny_setState_of->pw,wpAny_specialOf->Pt,wpAny_standAt->Qu,wpAny_storeSet_of->NJ,wpAny_truthy_bool->Nn,wpAny_typeNameOfWhole_keyiter->NY,wpAny_typeOf->PB,wpAny_updateSeq_pair->Ri
open PySem.Around renaming under_plainId->N5
open PySem.Builtin.Dict renaming showsAll->Sq
open PySem.Builtin.Dict_items renaming ownsTuple->Qs
open PySem.Builtin.Frozenset renaming baseOf->VU,copyOf->VT,difference->QB,differenceUpdate->PP,isAnySet->VS,newClass->VR,sizeOf->Q5,slot0->VQ,unchanged->Om,updateFrom->VP
open PySem.Builtin.List renaming listExtendWith->NP,listLengthHint->Ra,listSameRef->RV,listTooLong->N4,listTouch->XN
open PySem.Builtin.ObjectAttr renaming storeInOwnDict->Vp
open PySem.Builtin.Range renaming rangeSize->Xy
open PySem.Builtin.Slice renaming sliceAdjust->Rg,sliceApplied->Xx,slicePartIndex->Xw,slicePlaces->O8
open PySem.Builtin.SmallTypes renaming nextOf->NO,ownedTupleIsFree->Nd
open PySem.Builtin.Str renaming occurrences->J0,partsBetween->R5,strKind->SZ,subAt->Tq
open PySem.Builtin.Tuple renaming tupleItemsOf->Xv
open PySem.Calls renaming Name_function_global->SR,callWith_builtin->TB
open PySem.CmpOp renaming NotIn->WN
open PySem.Code renaming quiet_builtin->Rf
open PySem.F renaming args_dict_keyiterator_next_1->SQ,args_str_split_2->R4,args_zip_next_1->V5,called_set->Pg,entry_dict_keyiterator_next->SY,entry_str_split->So,entry_zip_next->Wn,plainAttrs_dict->Q6,plainAttrs_list->Ou,plainAttrs_str->XQ,plain_extend_loop->Vn,plain_list_iadd->Qj,slot_dict_get->XU,slot_dict_iter->Wm,slot_dict_keyiterator_next->Nm,slot_dict_setdefault->Vv,slot_dict_update->WX,slot_dict_values->WW,slot_int_rmul->WL,slot_set_iter->WK,slot_set_sub->Xu,slot_str_split->SO,slot_zip_next->QV
open PySem.Heap renaming SameBut->vr,get?_push_ne->Va,get?_push_of_some->Z7,get?_push_size->Zj,get?_update_other->MK,get?_update_self->MD,lt_size->Zu,size_push->Zq,size_update->Vm
open PySem.Heap.IsSliceOf renaming new->Sr
open PySem.Heap.Ns1 renaming of_empty->Ug
open PySem.ItemsOf renaming nil->V4
open PySem.NameKind renaming cell->OI,free->M8
open PySem.Obj renaming cls_mapFields->R3,data_mapFields->Ol,isFreed_of_fields->OT,mapFields->O9,mapSeq->NA,putSet->NU
open PySem.PassesOwn renaming never->PV
open PySem.PyData renaming depth->VZ,depthAll->Qk,hasDict->Vh,hasDictAll->Pw,leavesShort->Uj,leavesShortAll->OH,showable->U3,showableAll->Pp,shown->VY,str->Po,weight->SX,weightAll->PU
open PySem.SeqAt renaming EqAt->MB
open PySem.SeqAt.EqAt renaming int_str->Tp,of_refs->WM,same->Vo,str_int->To
open PySem.SeqAt.RcAt renaming lists->UK
open PySem.SetFound renaming there->Qr
open PySem.SetTable renaming advance->SJ,below->Oh,bits->S8,eraseAt->Ox,fill->QN,fits->N9,fresh->Pb,grown->Np,insertAt->Nh,laid->U2,layClean->T9,probe->UJ,relaid->Uu,runEnd->Ny,turns->Rp
open PySem.SetTable.below renaming go->T5
open PySem.SetTable.layClean renaming free->OE
open PySem.SetTable.probe renaming go->QJ
open PySem.SetTable.sizeAbove renaming go->UQ
open PySem.Shared renaming TypeIs->Q4
open PySem.Str renaming empty->Mi,join->vj,length->U1,length_append->PR,ofString->o0
open PySem.StrLaws renaming glued_eq_join->Ow,join_length_le->Ta
open PySem.Value renaming bool->W5,builtin->No,int->RZ,isInt->WG,isStrOf->VX,none->M9,ref->m4,str->Mv,type->MW
open PySem.Value.ref renaming inj->UI
open PySem.W renaming Looks->RK,OpenLaw->WI,any_some->QM,callWith_K->T3,cellsFrom_some->RC,check_slot->Wf,codeIn->RB,emptyDict->RQ,findIn->MT,fnOf->S7,handedIn->XT,hasDictIn->Pf,instObj->TC,isFn->XS,keepIn->OF,kia_one->OZ,kitAny->T0,kitOne->Pe,lookIn->XR,looks_clsIn->VA,looks_findIn->SE,looks_subIn->Tj,mg_of->Oo,nsIn->RY,plainGet->TV,plainGet_of->Vz,plainOver->WZ,specialIn->S3,subIn->Rs,typeIn->V9
open PySem.W.Looks renaming here->Qm
open PySem.W.WData renaming int->XG
open PySem.Walks renaming list->Ut,tuple->WE
open PySem.pickOrder renaming go->Sz
open Sum renaming inl->W6,inr->kG
open Sum.inr renaming inj->ND
open True renaming intro->MQ
open _root_ renaming Array->on,Bool->ri,Decidable->P0,DecidableEq->MP,False->J5,ForInStep->rM,Int->oT,List->hH,Nat->jg,Option->lx,StateT->J6,String->M5,True->Pr,Unit->SK,absurd->n0,and_congr_left->T6,and_true->VI,beq_eq_false_iff_ne->MF,beq_iff_eq->NM,beq_self_eq_true->Ph,bne_self_eq_false->WC,congr->UF,congrArg->sU,decide_eq_false->Zh,decide_eq_true->Zf,decide_eq_true_eq->Mx,decide_eq_true_iff->NG,exists_congr->UZ,if_false->Op,if_neg->kw,if_pos->lX,if_true->Qp,modify->UX,not_or->OY,of_decide_eq_false->Sf,of_decide_eq_true->Zo,or_congr->Rw,or_false->M4
open List (cons_append ext_getElem length_eq_zero_iff mem_append nil_append)
open Nat (le_add_right le_of_lt le_zero zero_add)
open Option (getD_none)
open PyProof.Rows (boot_all boot_bool boot_int boot_max boot_min boot_set boot_sorted)
open PySem.F (slot_list_extend slot_str_join type_dict_get type_list_extend type_str_join)
open PySem.Heap (ExtBut)
open PySem.W (KatTups KitX clsIn findCls findObj findObj_own hideAll hideAll_get kat_cons kat_go kat_no kat_one kat_yes kdl_values kitx_dict kitx_list kitx_none looks_find looks_hook makesIn mroIn of_hideAll readsIn set_plain takerIn takesIn)
set_option linter.all false
set_option tactic.hygienic false
set_option compiler.extract_closed false
local macro_rules|`(#check $s:str)=>do
 let(a,_)<-s.getString.toList.foldlM (init:=(#[],0,0)) λ(a,n,k) c=>do
  let n:=n*90+c.toNat-if c.toNat>92 then 37 else 35
  return if k=9 then(a.push (Lean.mkIdent ("tw"++toString n).toName),0,0)else(a,n,k+1)
 `(structure $(Lean.mkIdent `PySem.W.Fast):ident:Prop where($a*:0=0))
#check "'x5,q7H={{R,m)qow|*C&ECv?b-_@D?|D5_%^HX>/0bCSRh|c,L9CC/y%8(D+A9^==tvF2O?5s|BtXkdGU3A3,K;L&IJQeH+H9VbB6k$>7j)h61^r'^=f:1n'&-',cM<l,>ckrx~^96p5aK.c6_PYT,r^=,1}{c)$qzU6Z'0m,B&WBDjhEE%$#J3KY.f=D%Th-]@MXJ@$)F,TaB^:])-9,XmSu5D&D2`Mlxv3vA&p.7D:uN47vBv^Pz-%z0+DB;C]jJt?E1M^Y8wTANU?/vgf/_u3ka&_sTIZvF%(c4secC,O%Pc@dv4|P8##J&WD08O;H4pZ54sgM$9?]0M~,.O&j?=kmy$oF<r'FZjlH'CF?o_Al&:='EKY.4VxV6NOZ+%i0|bx-6I>Zh/}`@v-fEd0(lLvB3Z-qP'&O@?'h{8YE3cf./fEGlQmnO:2y,zszndf&;&t<>O)t5IM$OX?GHOr-KF4tf|V4EE*Dn'FIFrcy(;mMF.b0I*,Ve+8:-mc)NgiP,wE~d#;wf*STf7HS90d'&0=SkdBd6D9I*-z3A7cfBb:1Pt3.&Q3U=79B0=TRPlz;muO&F:Ckr-Y00#oAC/><o`N343%7TCg<>(4O@BYo|iJYfrPqsN0v@YWazo6Qi5#lF4S/9>>%0,}{3vz;Lu&Y$pYP]L_=5@mCj+/nTd4%zlFHz+5SBD<{L_NggB'n`w-DC$6uE3y/5@_^gx(l(qn;(Rb{Ks32xNAvguA?Q^1(hXoN#NpdtE{{ui?ql97;yciVLdbsz%{svS6H=NLRd>5W4Lga%,b0]5L{>ZPf0Dww#c*mR`?Rvs536zF((Q,{.OaOOM2HOmMCg0.nOL?Y:5x_E.qsf#E'4)jJ#:(FA?<Yv,W-.h748z&n73;R(h~UkhQ$L9CJK9^.p7=0Qw't,Lv2%EAG{z72~byx$4L}=&Kpb<(Yvf(oGM+~MZ8fYjoSN?3#h'9=|P7s'_O:oUco>9LeN;DKQg#MNF0P@~2jJyDDF+R&,5$j0.w3$1gh)-Na}o~oKm080x_a]rb{*u*p,~'P.c-@:rtutJ;Si^%]I*BQZRFG'J|E>M:%KH8LNO,#7*6<EOnhiZQQA(M1_gEb2P%X.)7ohJ+J<h;a++%2#7Rl-+zIvz8$TM?7|s3b^4E|N3#Em8v=5;8P:]z9h4MP5z6_x$bsdS0txgh}~?g71(*gcM0=uh(DA9UZuD$|22`~i1J/U}=72)vNe5Ys'-d-8nvG_2FWiL`.E7P?<Wg@ohSoz/Q*Aoj/L(af+Os]hBJq^2:nPF$.pJw=OrhSBWlpg1KJNh(nZ%Y>/l#clQd$WSBY2%7'sHr>D1+P#n,]|%Ee*%?0qzb>K#MIKcaBj6));L=u}]hm%lxubfZWI4:y,haz|,Q`?{%|@:eWt>M|a2HaDl;iDi1R:u`dm90S9bRG}'yvG:_(7=@0Fc?b-1QWCSk5Ld<2piNgU?@c/Z)Y]I=SES,m.|-d~n:fyxbGWTw5&-'')6NH_z??..:e~rf|4a6+lI^{7Y$%-7nx&~6%I^i0B#3b4fR?r%'b:-?~NSA1rNoY1kN/8ir=Nwb|Ga7R{>|tHZ;Cr'a1gNKdP$dvIxd~PcGMO>Ojl41:@UMNue+HAR6p.bG-%R-S%ON&4h9F`M@O&1|9,1+l&M;Z#5]-Gd7:ZBLFdD)R'@xi301;EC$`oE?*x?wY%/0po0(I5)+<5'8asP_z.U0c$0rJ3D9:H`~9Kz6+&M*ygRLzS]3r8%*4Dz8)@}O7@CH<1dQ%E(O{?72VEA%xbJq|`q0h*12hQ.u%1rn+u~jDR.F)wCx*)XHy9VQ8y7AH632>aP4.u*_e'1xqdJ%6x|8Um|'+4.Z;JRkPx7&)z'2/D+q75uc1&beFF0iC6W=IRgD'z%'j?qpO}Kqn_|A)rX,.x-/VEwqQQ_VO+k?C<YFTK%U(:aaWNFa(AA5f|FI)HIby+jrQB7S{m+MT7YVfZ#b+K)9q~gcyA.Dk=G>dr$uK(j^]R6<dPX0'4<*'s1p6AI`*^D(gvaG|kJQTv]CN9bTS`$>@*E32}#t5QgNN@>;W_dqOVw.(*'0XyLw/<Jz#D8k`pZ;H7`Ay_gibO~;H<rw5yj$90c+bQDxV4'$vb,;x/K5pb&`N&JZ`9|zI%A)N>b$#ZDn2@9LN?(F~nt*UJg6.h&RBq4074'97)u-_8aO]/Z%$rm)PEY?9c)tZpj@:PK^{$f&p/6k`3Ao~L'4ev7;?.Q:-1}D/Q4erFRE@O,}}AJL=?7f.mmSPikQdyq_D7mRA06H/@o/,LtHe-LqlFZi8F5G{vg0(glEE{{R-Aa+=B$Sg=3oi%u6c)W^sm>6i-~?|]C$m)a>McxT`RU&y72E'{.{|zB<6254~3qP$5/Bnx/~tqQ$Bl%zCB~7l(^:elP/:^eLR:6w]CtrN7:4)r4='$b))%TphYCK^DU.<l~=Vi}%>blF;J}5,7Fj9d08W)n)5'.Cr,IgUP-UBl)]T@?6K/t.LQbja9>4t_u+3v*Q<ac,NSih?Mpw{O`:',jIeQ2/^v-q23}Bk1''eyA6&l=o8iPzJ/YQ~)nbzJ3Fwszm2(zN/7kw_BQQetmH~-l>qb,Fy>_g$v*|A::+~|ZsT%VV4-:TeTD/054-,i;,@p<F,Myf{nuWx2'F&Y{zhY(mm'%j]m>o|A9L]ru_6RQe$B*S9@;p@0~0SJrTTHz)mL@/R7RD_<g4L$b)>kC+6HF9C1p{(Mb:R|ki:*8VCM|hvab@*}=EbIZ/Z7I1s;IUo<Ptp1FIWws]]bV`/&;#OlxKT5#4T1cJT>VGq9po+9|2`d^PN-z0QEc^`IL9_Vm7?/S#8vY6kFsXC3cbVAiA4Bj1Nq{zH{NeF.1LfUeI?i2#sdB3Tmzum*r,O@jgO8<O-a)(4E5(RJ=+{ERv@f<HpDqT'`Bn1260sj$lHIK/#7y;?h%/=.2'mqAu'dl=khoH%K%hK*7fCq55'GF>fp0T2`7193`-iks|iB2&NFD3Jm0j,0/ewR{z1uZ"
theorem Z0{c:Sort _}{b:Prop}{a:c}:a=a∨b:=Or.inl rfl
theorem Z1{c:Sort _}{b:Prop}{a:c}:b∨a=a:=Or.inr rfl
theorem Xm{b:Type _}{l:hH b}{i:jg}{a:b}(h:l[i]?=hX a):∃h:i<l.length,l[i]=a:=hH.getElem?_eq_some_iff.mp h
theorem Xn{b:Type _}{a:b}{s t:hH b}(h:a∈s++t):a∈s∨a∈t:=hH.mem_append.mp h
theorem Xo{c:Type _}{a b:c}(h:a∈[b]):a=b:=hH.mem_singleton.mp h
theorem Xp{c d:Type _}{f:c->d}{l:hH c}{b:d}(h:b∈l.map f):∃a,a∈l/\f a=b:=Pm.mp h
theorem Xq{c d:Type _}{f:c->d}{l:hH c}{b:d}(h:∃a,a∈l/\f a=b):b∈l.map f:=Pm.mpr h
set_option maxHeartbeats 0
set_option Elab.async false
set_option compiler.extract_closed false
set_option maxRecDepth 100000
section
open PySem
local macro_rules|`(!0)=>`(by decide +kernel)|`(!1)=>`(by decide)|`(!2)=>`(by simp_all)|`(!$s:str)=>`(Str.ofString $s)
local macro_rules|`(↑$h:ident)=>`(by simpa using $h)
local macro_rules|`(tactic|lia)=>`(tactic|first|assumption|exact Nat.le_of_lt ‹_›|exact Nat.le_trans ‹_› (by decide)|exact Nat.lt_of_le_of_lt ‹_› (by decide)|exact Nat.le_trans ‹_› ‹_›|exact Nat.le_add_left _ _|exact Nat.le_antisymm ‹_› (Nat.le_of_not_lt ‹_›)|exact Nat.le_of_not_lt ‹_›|exact Nat.lt_of_le_of_ne ‹_› ‹_›|exact Nat.lt_succ_of_le ‹_›|exact Nat.le_of_eq (Eq.symm ‹_›)|exact Nat.le_add_right _ _|exact Nat.le_of_eq ‹_›|lia -verbose)
local macro_rules|`(⋯)=>`(by lia)|`(∅)=>`(by simp)
local macro_rules|`(⇑$s:ident)=>`(Shared.heap $s|>.objs.size)
local macro_rules|`($x:ident⁻¹)=>`(wpAny (model ($x).prog ($x).w) ($x).A)
local macro_rules|`(%[$x,*|$y])=>`(⟨$x,*,$y⟩)
def zqp:Nat->Lean.Syntax->Lean.Syntax
 |n+1,.node i k a=>if k==`«term%[_|_]»then .node i `Lean.Parser.Tactic.rcasesPat.tuple #[.atom i "⟨",.node i `null (a[1]!.getArgs.push (.atom i ",")|>.push a[3]!|>.map λx=>if x.isAtom then x else .node i `Lean.Parser.Tactic.rcasesPatLo #[.node i `Lean.Parser.Tactic.rcasesPatMed #[.node i `null #[zqp n x]],.node i `null #[]]),.atom i "⟩"]else .node i `Lean.Parser.Tactic.rcasesPat.ignore #[.atom i "_"]
 |_,x=>.node .none `Lean.Parser.Tactic.rcasesPat.one #[x]
local macro_rules|`(tactic|have $p:term:=$h)=>if p.raw.isOfKind `«term%[_|_]»then`(tactic|obtain $(⟨zqp 99 p⟩):rcasesPat:=$h)else Lean.Macro.throwUnsupported
local macro_rules|`(tactic|let $d:letDecl)=>`(tactic|have $d:letDecl)|`(tactic|show $e)=>`(tactic|refine $e)
local macro_rules|`(tactic|intro $p*)=>if p.any (·.raw.isOfKind `«term%[_|_]»)then do
  let q:=p.map λx=>(⟨.node .none `Lean.Parser.Tactic.rintroPat.one #[zqp 99 x]⟩:Lean.TSyntax `rintroPat)
  `(tactic|rintro $q*)else Lean.Macro.throwUnsupported
set_option hygiene false in
local macro_rules|`(command|$d:declaration)=>do
 let x:=d.raw[1]
 let b:=x.isOfKind `Lean.Parser.Command.definition
 if x.isOfKind `Lean.Parser.Command.inductive&&x[2][1].isNone&&x[3].isNone then
  let y:=(<-`(inductive q(vs:ZM)(H:Hp)(Q:VK)(E0:XK):Prop)).raw[1][2]
  return d.raw.setArg 1 (x.setArg 2 (y.setArg 0 (Lean.mkNullNode (x[2][0].getArgs++y[0].getArgs))))
 if d.raw[0].getArgs.all (·.isNone)&&(b||x.isOfKind `Lean.Parser.Command.abbrev)then return if b then d.raw.setArg 1 (.node .none `Lean.Parser.Command.theorem #[.atom .none "theorem",x[1],.node .none `Lean.Parser.Command.declSig #[x[2][0],x[2][1][0]],x[3]])else .node .none `Lean.Parser.Command.declaration #[d.raw[0].setArg 4 (Lean.mkNullNode #[.node .none `Lean.Parser.Command.noncomputable #[.atom .none "noncomputable"]]),.node .none `Lean.Parser.Command.definition #[.atom .none "def",x[1],x[2],x[3],Lean.mkNullNode]]
 Lean.Macro.throwUnsupported
set_option hygiene false in
local macro_rules|`(↥$a:ident)=>`(wpAny (model prog w) $a)
nonrec abbrev ZA:=PySem.W.Frag
nonrec abbrev ZB:=hH PySem.Str
nonrec abbrev ZC:=PySem.Str->lx PySem.Value
nonrec abbrev ZD:=PySem.Value->PySem.Shared->Prop
nonrec abbrev ZE:=hH (PySem.Addr×PySem.Obj)
nonrec abbrev ZF:=hH PySem.Value
nonrec abbrev ZG:=hH (PySem.Addr×hH PySem.Str)
nonrec abbrev ZH:=hH (PySem.Addr×PySem.Str×hH PySem.Str)
nonrec abbrev ZI:=lx PySem.Addr
nonrec abbrev ZJ:=on PySem.Value
nonrec abbrev ZK:=on (lx PySem.Value)
nonrec abbrev ZL:=hH oT
set_option genSizeOf false
set_option genInjectivity false
set_option bootstrap.genMatcherCode false
local macro_rules|`(~~~$x)=>`($(x).length)|`($x<*$y)=>`($x=some (.lst $y))|`($x&&&$y)=>`($x=some (.tup $y))
set_option hygiene false in
local macro_rules|`(tactic|exists $t,$c,$a:ident,$j:ident,$p)=>`(tactic|(refine ($t).cal $c (λH vs Q E h=>?_);have $p:term:=h;refine ⟨rfl,λf $a A outer s $j=>?_⟩))
nonrec theorem ρ{α:Sort _}{a:α}:a=a:=rfl
set_option hygiene false in
local macro_rules|`($x\0)=>`($(x).map λt=>V.ref t.1)|`($x\1)=>`($(x).map (·.1))|`($x\2)=>`($(x).map (·.2))|`($x\3)=>`($(x).map V.str)|`($x\4)=>`($(x).map V.int)|`($x∣$y)=>`($x=some $y)
namespace _LL
open PySem PySem.Spec PyProof.Rows
noncomputable abbrev Key:=Sum oT lp
abbrev kg:Key->kj->ri
 | .inl k,v=>WG k v
 | .inr x,v=>VX x v
abbrev keyH(w:v0):Key->oT
 | .inl k=>hashInt k
 | .inr x=>NH w x
def bg:∀{k:Key} {v:kj},kg k v=hY->(∃i t,k=W6 i/\v=RZ i t)\/(∃x t,k=kG x/\v=Mv x t)
 | .inl i,v,h=>by
   let%[t|e]:=kj.isInt_shape h;show .inl %[i,t,rfl|e]
 | .inr x,v,h=>by
   let%[t|e]:=kj.isStrOf_shape h;show .inr %[x,t,rfl|e]
def Bh(i:oT)(t:Tok):kg (.inl i) (.int i t)=hY:=by simp[kg,WG]
def eB(x:lp)(t:Tok):kg (.inr x) (.str x t)=hY:=by simp[kg,VX]
def Ih(a b:oT):decide ((W6 a:Key)=W6 b)=(a==b):=by
 by_cases e:a=b
 .subst e;simp
 simp_all
def Ii(a b:lp):decide ((kG a:Key)=kG b)=decide (a=b):=by
 simp
abbrev aT(prog:nY)(w:v0):PySem.KeyKind prog w Key where
 is:=kg
 hash:=keyH w
 inj:=λv a b ha hb=>by
  rcases bg ha with⟨i,t,rfl,rfl⟩|⟨x,t,rfl,rfl⟩
  .rcases bg hb with⟨j,u,rfl,e⟩|⟨y,u,rfl,e⟩
   .injection e with e1 _;rw[e1]
   .show nomatch e
  .rcases bg hb with⟨j,u,rfl,e⟩|⟨y,u,rfl,e⟩
   .show nomatch e
   .injection e with e1 _;rw[e1]
 byValue:=λk v h=>by
  rcases bg h with⟨i,t,rfl,rfl⟩|⟨x,t,rfl,rfl⟩<;> rfl
 pyHash:=λhv h=>by
  rcases bg hv with⟨i,t,rfl,rfl⟩|⟨x,t,rfl,rfl⟩
  .show wpAny_pyHash_int h
  .show WP h
 eqBool:=λhu hv h=>by
  rcases bg hu with⟨i,t,rfl,rfl⟩|⟨x,t,rfl,rfl⟩
  .rcases bg hv with⟨j,u,rfl,rfl⟩|⟨y,u,rfl,rfl⟩
   .rw[Ih]at h;show WT h
   .show Tp i t y u _ _ _ _ h
  .rcases bg hv with⟨j,u,rfl,rfl⟩|⟨y,u,rfl,rfl⟩
   .show To x t j u _ _ _ _ h
   .rw[Ii]at h;show wpAny_eqBool_str h
 «strs»:=λk x t v h=>by
  rcases bg h with⟨i,u,rfl,e⟩|⟨y,u,rfl,e⟩
  .show nomatch e
  .injection e with e1 _
   subst e1;cases v<;> rfl
def v4(prog:nY)(w:v0)(i:oT)(t:Tok):(aT prog w).is (.inl i) (.int i t)=hY:=Bh i t
def v5(prog:nY)(w:v0)(x:lp)(t:Tok):(aT prog w).is (.inr x) (.str x t)=hY:=eB x t
set_option genInjectivity true in
inductive V where
 | non|bl (b:ri)|int (i:oT)|str (x:lp)|byt (b:on UInt8)|flt (b:UInt64)|ref (a:ku)|ty (n:M5)
 deriving MP
abbrev aX:V->kj->Prop
 | .non,u=>u=M9
 | .bl b,u=>u=W5 b
 | .int i,u=>∃t,u=RZ i t
 | .str x,u=>∃t,u=Mv x t
 | .byt b,u=>∃t,u=kj.bytes b t
 | .flt b,u=>∃t,u=kj.float b t
 | .ref a,u=>u=m4 a
 | .ty n,u=>u=MW n
nonrec abbrev aM:hH V->ZF->Prop:=Paired aX
def aM.length{xs:hH V}{us:ZF}(r:aM xs us): ~~~xs= ~~~us:=Paired.length r
def aM.get:∀{xs:hH V} {us:ZF} {i:jg} {x:V},aM xs us->xs[i]?∣x->∃u,us[i]?∣u/\aX x u
 | _,_,_,_,.nil,e=>by simp at e
 | _,_,0,_,.cons r _,e=>by simp at e;subst e;show%[_,ρ|r]
 | _,_,i+1,x,.cons _ t,e=>by
   let%[u,a|b]:=aM.get t (e);show%[u,a|b]
def aM.append:∀{xs ys:hH V} {us ws:ZF},aM xs us->aM ys ws->aM (xs++ys) (us++ws)
 | _,_,_,_,.nil,s=>s
 | _,_,_,_,.cons r t,s=> .cons r (aM.append t s)
def aM.take:∀{xs:hH V} {us:ZF} n,aM xs us->aM (xs.take n) (us.take n)
 | _,_,0,_=> .nil
 | _,_,_+1,.nil=> .nil
 | _,_,n+1,.cons r t=> .cons r (aM.take n t)
def aM.drop:∀{xs:hH V} {us:ZF} n,aM xs us->aM (xs.drop n) (us.drop n)
 | _,_,0,r=>r
 | _,_,_+1,.nil=> .nil
 | _,_,n+1,.cons _ t=>aM.drop n t
abbrev io:lx V->lx kj->Prop
 | hX v,hX u=>aX v u
 | hV,hV=>Pr
 | _,_=>J5
abbrev KV{a:Type}:hH (a×V)->hH (a×kj)->Prop:=Paired λp q=>p.1=q.1/\aX p.2 q.2
abbrev kV:Key->V
 | .inl i=> .int i
 | .inr x=> .str x
set_option genInjectivity true in
inductive HO where
 | lst (xs:hH V)
 | tup (xs:hH V)
 | dK (kvs:hH (Key×V))|dT (kvs:hH (hH Key×V))
 | set (S:oT->ri) (n:jg)
 | ins (C dx:ku) (fs:hH (lp×V))
 | own (x:ku)
 | xd (fs:hH (lp×V))
 | met (f x:ku)
 | rng (lo hi:oT)
 | frz (o:Ob) (u:HO)
 | tbl (ps:ZJ)
 | ext (φ:xl->Prop)
noncomputable abbrev Hp:=ku->lx HO
abbrev Qa(H:Hp)(a:ku)(o:HO):Hp:=λb=>if b=a then hX o else H b
def aa:Qa H a o a∣o:=by unfold Qa;rw[lX rfl]
def aq{H:Hp}{a b:ku}{o:HO}(h:b≠a):Qa H a o b=H b:=by unfold Qa;rw[kw h]
def FJ:Qa (Qa H a o) a u=Qa H a u:=by
 funext b;unfold Qa;split<;> rfl
def oV{H:Hp}(h:H a∣o)(h':H b∣u)(d:o≠u):a≠b:=by
 intro e;subst e;rw[h]at h';show d (Za h')
def ax{H:Hp}{a b:ku}{o:HO}(h:H a∣o)(h':H b=hV):a≠b:=by
 lia
section
variable(P:nY)(w:v0)
abbrev cD(H:Hp)(h:xl)(a:ku):HO->Prop
 | .lst xs=> ~~~xs<=md/\∃(its:ZF) (n:jg),aM xs its/\h.get? a=hX {cls:= .type "list",data:= .seq its.toArray n}
 | .tup xs=> ~~~xs<=md/\∃its:ZF,aM xs its/\IsTup h a its.toArray
 | .dK b=> ~~~b<=md/\(a==Nr)=iv/\∃vs,KV b vs/\h.DictOf (aT P w) a vs
 | .dT b=> ~~~b<=md/\(a==Nr)=iv/\∃xs:hH (hH Key×ku×kj),
  Paired (λ(p:hH Key×V) (q:hH Key×ku×kj)=>p.1=q.1/\H q.2.1&&&p.1.map kV/\aX p.2 q.2.2) b xs/\
  ∃o g l,h.get? a∣o/\o.ExactDict/\o.data= .dict g l/\g.toList=xs.map (entryOfKey (S0 (aT P w)))/\(xs\1).Nodup
 | .set S n=>h.SetOf (intKind P w) a S n
 | .ins C d fs=>H d∣.own a/\ ~~~fs<=1000/\d≠a/\h.get? a∣TC C d/\
  ∃c,h.Ns1 d c/\(∀f,io (fs.lookup f) (c f))/\PySem.Within c (fs\1)
 | .own _=>∃o,h.get? a∣o
 | .xd fs=>∃c,h.Ns1 a c/\∀f,io (fs.lookup f) (c f)
 | .rng lo hi=>∃t u v,h.get? a=hX {cls:= .type "range",data:= .fields #[.int lo t,.int hi u,.int 1 v]}
 | .frz o u=>h.get? a∣o/\cD H h a u
 | .tbl ps=>h.get? a=hX {cls:= .none,data:= .fields ps}
 | .met f x=>h.get? a∣PySem.W.methodObj (.ref f) (.ref x)
 | .ext e=>e h/\(∃o,h.get? a∣o)/\∀i j,e i->(∀o,i.get? a∣o->j.get? a∣o)->e j
abbrev HOk(H:Hp)(h:xl):Prop:=∀a o,H a∣o->cD P w H h a o
end
section
variable{P:nY}{w:v0}{H H':Hp}{h h':xl}{a:ku}{o:HO}
def cD.lt(x:cD P w H h a o):a<h.objs.size:=by
 cases o with
 | lst xs=>have%[_,_,_,_|e]:=x;show Zu e
 | tup xs=>have%[_,_,_|p]:=x;show p.lt
 | dK b=>have%[_,_,_,_,o,_,_,e|_]:=x;show Zu e
 | dT b=>have%[_,_,_,_,o,_,_,e|_]:=x;show Zu e
 | set S n=>have%[o,_,_,_,e|_]:=x;show Zu e
 | ins C c fs=>have%[_,_,_,e|_]:=x;show Zu e
 | own y=>have%[_|e]:=x;show Zu e
 | xd fs=>have%[_,%[_,_,_,e|_]|_]:=x;show Zu e
 | rng lo hi=>have%[_,_,_|e]:=x;show Zu e
 | frz d u=>have%[e|_]:=x;show Zu e
 | tbl ps=>show Zu (x)
 | met f y=>show Zu (x)
 | ext g=>have%[_,%[_|e]|_]:=x;show Zu e
def Paired.mapP{F G:c->d->Prop}:∀{l₁:hH c} {l₂:hH d},Paired F l₁ l₂->(∀a b,F a b->G a b)->Paired G l₁ l₂
 | _,_,.nil,_=> .nil
 | _,_,.cons r t,f=> .cons (f _ _ r) (Paired.mapP t f)
def cD.stay(x:cD P w H h a o)(k:∀b u,(b=a\/H b∣.own a)->h.get? b∣u->h'.get? b∣u)
 (s:∀b,H b∣.own a->H' b∣.own a) (A:∀b xs,H b&&&xs->H' b&&&xs):cD P w H' h' a o:=by
 induction o with
 | lst xs=>have%[z,its,n,r|e]:=x;show%[z,its,n,r|k _ _ (.inl rfl) e]
 | tup xs=>have%[z,its,r,g,e|c]:=x;show%[z,its,r,g,k _ _ (.inl rfl) e|c]
 | dK l=>have%[z,y,vs,r,g,i,j,e|c]:=x;show%[z,y,vs,r,g,i,j,k _ _ (.inl rfl) e|c]
 | dT l=>
   let%[z,y,xs,r,g,i,j,e|c]:=x;show%[z,y,xs,Paired.mapP r λp q z=>%[z.1,A _ _ z.2.1|z.2.2],g,i,j,k _ _ (.inl rfl) e|c]
 | set S n=>have%[g,i,j,t,e|c]:=x;show%[g,i,j,t,k _ _ (.inl rfl) e|c]
 | ins C G fs=>
   let%[d,z,ne,e,m,%[od,i,j,B|c]|r]:=x;show%[s _ d,z,ne,k _ _ (.inl rfl) e,m,%[od,i,j,k _ _ (.inr d) B|c]|r]
 | own y=>have%[g|e]:=x;show%[g|k _ _ (.inl rfl) e]
 | xd fs=>have%[m,%[od,i,j,e|c]|r]:=x;show%[m,%[od,i,j,k _ _ (.inl rfl) e|c]|r]
 | rng lo hi=>have%[t,u,v|e]:=x;show%[t,u,v|k _ _ (.inl rfl) e]
 | frz g u E=>have%[e|q]:=x;show%[k _ _ (.inl rfl) e|E q]
 | tbl ps=>
   show k a _ (.inl rfl) x
 | met f y=>
   show k a _ (.inl rfl) x
 | ext I=>have%[p,%[o|e]|st]:=x;show%[st _ _ p λo q=>k _ _ (.inl rfl) q,%[o|k _ _ (.inl rfl) e]|st]
def HOk.lt(x:HOk P w H h)(e:H a∣o):a<h.objs.size:=(x a o e).lt
def HOk.fresh(x:HOk P w H h)(e:h.objs.size<=a):H a=hV:=by
 cases q:H a with
 | none=>rfl
 | some u=>show n0 (Zg (x.lt q) e) (Xk _)
def HOk.kept(x:HOk P w H h)(k:∀b u,h.get? b∣u->h'.get? b∣u):HOk P w H h':=λa o e=>
 (x a o e).stay (λb u _ q=>k b u q) (λ_ q=>q) λ_ _ q=>q
def HOk.laid(x:HOk P w H h)(k:∀b u,h.get? b∣u->h'.get? b∣u)(g:h.objs.size<=a)(new:cD P w (Qa H a o) h' a o):HOk P w (Qa H a o) h':=λb u e=>by
 let d:=x.fresh g;by_cases f:b=a
 .subst f;rw[aa]at e;grind
 .rw[aq f]at e;show(x b u e).stay (λc v _ q=>k c v q) (λc q=>(aq (ax q d))▸q) λc xs q=>(aq (ax q d))▸q
end
abbrev Rd(H:Hp)(a:ku)(u:HO):Prop:=H a∣u\/∃o,H a∣.frz o u
def Rd.ok{P:nY}{w:v0}{H:Hp}{h:xl}{a:ku}{u:HO}(r:Rd H a u)(x:HOk P w H h):cD P w H h a u:=by
 rcases r with r|⟨o,r⟩
 .show x a u r
 .let%[_|q]:=x a _ r;show q
abbrev Mut:lx HO->Prop
 | hX (.lst _)=>Pr
 | hX (.dK _)=>Pr
 | hX (.dT _)=>Pr
 | hX (.set _ _)=>Pr
 | hX (.ins _ _ _)=>Pr
 | hX (.ext _)=>Pr
 | _=>J5
section
variable{P:nY}{w:v0}{H:Hp}{h h':xl}{x e:ku}{o':HO}
def HOk.write(ok:HOk P w H h)(g:Mut (H x))(m:e=x\/H e∣.own x)(k:∀b u,b≠e->h.get? b∣u->h'.get? b∣u)(i:∃u,h'.get? e∣u)
 (new:cD P w (Qa H x o') h' x o'):HOk P w (Qa H x o') h':=λb u q=>by
 let d:∀c y,H c∣.own y->c≠x:=λc y r z=>by subst z;rw[r]at g;show g
 let f:∀c xs,H c&&&xs->c≠x:=λc xs r z=>by subst z;rw[r]at g;show g
 by_cases j:b=x
 .subst j;rw[aa]at q;grind
 .rw[aq j]at q;by_cases a:b=e
  .let l:H b∣.own x:=by
    rcases m with z|z
    .show n0 (a.trans z) j
    .show a▸z
   rw[q]at l;cases l;let%[v|n]:=i;show%[v|a▸n]
  .show(ok b u q).stay (λc v o r=>k c v ?_ r) (λc r=>(aq (d c b r))▸r) λc xs r=>(aq (f c xs r))▸r
   grind
end
structure Un (fs ex:hH ku) (H H':Hp) (h h':xl):Prop where
 keep:∀b o,h.get? b∣o->H b=hV->b∉fs->b∉ex->h'.get? b∣o
 slot:∀b o,h.get? b∣o->H b=hV->b∈fs->b∉ex->∃sl,h'.get? b=hX {o with slots:=sl}
 free:∀b o,h.get? b∣o->H b=hV->b∉ex->H' b=hV
 there:∀b o,h.get? b∣o->b∉ex->∃o',h'.get? b∣o'
 tups:∀b xs,H b&&&xs->H' b&&&xs
 frzs:∀b o u,H b∣.frz o u->H' b∣.frz o u
 tbls:∀b ps,H b∣.tbl ps->∃more,H' b∣.tbl (ps++more)
section
variable{fs fs' ex ex':hH ku}{H H1 H2:Hp}{h h1 h2 h':xl}{a x e:ku}{o:HO}
def Un.any(u:Un fs ex H H1 h h1)(q:h.get? b∣c)(n:H b=hV)(d:b∉ex):∃g,h1.get? b=hX {c with slots:=g}:=by
 by_cases f:b∈fs
 .show u.slot b c q n f d
 .show%[c.slots|u.keep b c q n f d]
def Un.trans(a:Un fs ex H H1 h h1)(b:Un fs ex H1 H2 h1 h2):Un fs ex H H2 h h2 where
 keep:=λc ob q n hc hx=>b.keep c ob (a.keep c ob q n hc hx) (a.free c ob q n hx) hc hx
 slot:=λc ob q n hc hx=>by
  let%[sl|e1]:=a.slot c ob q n hc hx;let%[sl'|e2]:=b.slot c _ e1 (a.free c ob q n hx) hc hx;show%[sl'|e2]
 free:=λc ob q n hx=>by
  let%[o'|e1]:=a.there c ob q hx;show b.free c o' e1 (a.free c ob q n hx) hx
 there:=λc ob q hx=>by
  let%[o'|e1]:=a.there c ob q hx;show b.there c o' e1 hx
 tups:=λc xs q=>b.tups c xs (a.tups c xs q)
 frzs:=λc ob xs q=>b.frzs c ob xs (a.frzs c ob xs q)
 tbls:=λc ps q=>by
  let%[m1|e1]:=a.tbls c ps q;let%[m2|e2]:=b.tbls c _ e1;show%[m1++m2|by rw[e2,UC]]
def Un.kept(k:∀b u,h.get? b∣u->h'.get? b∣u):Un fs ex H H h h':=
 %[λb c q _ _ _=>k b c q,λb c q _ _ _=>%[c.slots|k b c q],λ_ _ _ n _=>n,λb c q _=>%[c|k b c q],λ_ _ q=>q,λ_ _ _ q=>q|λ_ ps q=>%[#[]|by rw[q];simp]]
def Un.refl:Un fs ex H H h h:=Un.kept λ_ _ q=>q
def Un.laid(k:∀b u,h.get? b∣u->h'.get? b∣u)(hp:h.objs.size<=a)(hn:H a=hV):Un fs ex H (Qa H a o) h h' where
 keep:=λb u q _ _ _=>k b u q
 slot:=λb u q _ _ _=>%[u.slots|k b u q]
 free:=λb u q n _=>(aq (Zs (Zg (Zu q) hp)))▸n
 there:=λb u q _=>%[u|k b u q]
 tups:=λb xs q=>(aq (ax q hn))▸q
 frzs:=λb u xs q=>(aq (ax q hn))▸q
 tbls:=λb ps q=>%[#[]|by rw[aq (ax q hn),q];simp]
def Un.write(f:Mut (H x))(l:e=x\/H e∣.own x)(k:∀b u,b≠e->h.get? b∣u->h'.get? b∣u)(i:∃u,h'.get? e∣u):Un fs ex H (Qa H x o) h h':=by
 let j:∀b,H b=hV->b≠x:=λb n z=>by subst z;rw[n]at f;show f
 let g:∀b,H b=hV->b≠e:=λb n z=>by
  simp_all
 let c:∀b u,H b∣u-> ¬ Mut (hX u)->b≠x:=λb u q nm z=>!2
 show%[λb u q n _ _=>k b u (g b n) q,λb u q n _ _=>%[u.slots|k b u (g b n) q],λb u q n _=>(aq (j b n))▸n,λb u q _=>?_,
  λb xs q=>(aq (c b _ q λz=>z))▸q,λb u xs q=>(aq (c b _ q λz=>z))▸q|λb ps q=>%[#[]|by rw[aq (c b _ q λz=>z),q];simp]]
 by_cases d:b=e
 .simp_all
 .show%[u|k b u d q]
end
abbrev trk(h:xl)(H:Hp):hH ku:=(p0 h.objs.size).filter λa=>(H a).isSome
abbrev Bi(h:xl)(H:Hp):xl:=hideAll h (trk h H)
def Bj(h:xl)(H:Hp):(Bi h H).objs.size=h.objs.size:=PySem.W.hideAll_size _ _
def CB(e:h.get? b∣o)(n:H b=hV):(Bi h H).get? b∣o:=
 hideAll_get _ e λa=>by
  let q:=(ow.mp a).2;rw[n]at q;simp at q
def FK(e:(Bi h H).get? b∣o):h.get? b∣o/\H b=hV:=by
 let a:=of_hideAll _ e;show%[a|?_];cases q:H b with
 | none=>rfl
 | some x=>
   let z:(Bi h H).get? b=hV:=PySem.W.hideAll_none _ (ow.mpr %[yc.mpr (Zu a)|by simp[q]])
   grind
abbrev FL(g h:xl)(L:ku):ZE:=(p0 h.objs.size).filterMap λa=>if a=L\/(g.get? a).isSome=hY then hV else(h.get? a).map λo=>(a,o)
abbrev rest(g h:xl)(L d:ku):ZE:=(FL g h L).filter λp=>decide (p.1≠d)
structure Mod (K:ZA) (mg:ZC) (base:xl):Prop where
 kin:K.In base
 glob:base.Ns wy mg
 blt:∃mb,base.Ns Wh mb/\∀x:lp,x≠"__name__"->mb x=Nz x
 nolimit:base.NoLimit
structure Cx where
 prog:nY
 w:v0
 K:ZA
 mg:lp->lx kj
 base:xl
 A:wh
 N:ZB
 s₀:mu
 H₀:Hp
 env:Env
 outer:hH Env
 stack:hH Env
 ex:hH ku
 fn:lp->ri
 calm:ri
 pn:ZE
 xe:kj->mu->Prop
abbrev frs(l:hH Env):hH ku:=l.filterMap (·.frame)
noncomputable abbrev Cx.fs(X:Cx):hH ku:=frs X.outer
abbrev Vis(a:RE)(x:lp):Prop:=a.names.lookup x∣.local\/a.names.lookup x∣.cell\/a.names.lookup x∣.free
abbrev Loc(a:RE)(x:lp):Prop:=a.names.lookup x∣.local\/a.names.lookup x∣.cell
abbrev Look(env:Env)(h:xl)(m:ZC)(x:lp)(u:kj):Prop:=
 (env.kindOf x∣.local/\m x∣u)\/((env.kindOf x∣.cell\/env.kindOf x∣.free)/\∃c,env.cells.lookup x∣c/\h.IsCell c (hX u))
structure Cx.Ok (X:Cx):Prop where
 mod:Mod X.K X.mg X.base
 kind:X.env.scope.kind= .function
 glob:X.env.globals=wy
 blt:X.env.builtins=Wh
 above:X.s₀.heap.objs.size<=X.env.locals
 inj:∀x y c,X.env.cells.lookup x∣c->X.env.cells.lookup y∣c->x=y
 has:∀x,(X.env.kindOf x∣.cell\/X.env.kindOf x∣.free)->∃c,X.env.cells.lookup x∣c
 cab:∀x c,X.fn x=hY->X.env.cells.lookup x∣c->X.s₀.heap.objs.size<=c
 hd:X.calm=hY->X.A.handled=hV
 frames:X.A.frames∣X.stack
 stk:X.stack=X.outer\/(X.stack=X.env::X.outer/\X.env.frame∣X.env.locals)
 exf:∀b∈X.ex,b≠X.env.locals/\∀x c,X.env.cells.lookup x∣c->c≠b
 bs:∀b o,X.base.get? b∣o->X.s₀.heap.get? b∣o/\X.H₀ b=hV
 bsz:X.base.objs.size<=X.s₀.heap.objs.size
 noex:∀b o,X.base.get? b∣o->b∉X.ex
 exfs:∀b∈X.ex,b∉X.fs
 funs:X.s₀.heap.FunFrames X.base X.outer
 frf:∀b∈X.fs,X.H₀ b=hV
structure Qc (X:Cx) (ij:hH _) (σ:hH _) (H:Hp) (s:mu):Prop where
 ok:X.Ok
 os:s.os=X.s₀.os
 bare:Qt s.gens
 base:Un X.fs X.ex X.H₀ H X.s₀.heap s.heap
 loc:∃m,s.heap.Ns X.env.locals m/\∀(i:jg) x v,X.N[i]?∣x->σ[i]?∣hX v->Vis X.env.scope x->∃u,aX v u/\Look X.env s.heap m x u
 cell:∀x c,X.env.cells.lookup x∣c->∃v,s.heap.IsCell c v
 free:H X.env.locals=hV
 freeC:∀x c,X.env.cells.lookup x∣c->H c=hV
 pin:∀p∈X.pn++ij,s.heap.get? p.1∣p.2/\H p.1=hV/\p.1≠X.env.locals/\p.1∉X.fs/\∀v,p.2.data≠ .cell v
 hok:HOk X.prog X.w H s.heap
 len:σ.length= ~~~X.N
section
variable{X:Cx}{ij:ZE}{σ:hH (lx V)}{H H':Hp}{s:mu}{h':xl}
def Cx.Ok.nofr(ok:X.Ok)(e:X.base.get? b∣o):b∉X.fs:=λa=>by
 let:=(ok.funs.mem a).1
 grind
def Qc.bs(I:Qc X ij σ H s):∀b o,X.base.get? b∣o->s.heap.get? b∣o/\H b=hV:=λb o e=>
 %[I.base.keep b o (I.ok.bs b o e).1 (I.ok.bs b o e).2 (I.ok.nofr e) (I.ok.noex b o e)|I.base.free b o (I.ok.bs b o e).1 (I.ok.bs b o e).2 (I.ok.noex b o e)]
def Qc.bk(I:Qc X ij σ H s):∀b o,X.base.get? b∣o->s.heap.get? b∣o:=λb o e=>(I.bs b o e).1
def Qc.mod(I:Qc X ij σ H s):Mod X.K X.mg X.base:=I.ok.mod
def Qc.kIn(I:Qc X ij σ H s):X.K.In s.heap:=I.ok.mod.kin.keeps I.bk
def Qc.lt(I:Qc X ij σ H s):X.env.locals<⇑s:=let⟨_,a,_⟩:=I.loc;a.lt
def Qc.sz(I:Qc X ij σ H s):X.s₀.heap.objs.size<=⇑s:=nI I.ok.above (Yf I.lt)
def Qc.nofs(I:Qc X ij σ H s)(h:⇑s<=a):a∉X.fs:=λb=>by
 let%[_,o,c|_]:=I.ok.funs.mem b;show n0 (Zg (Zu c) (nI I.sz h)) (Xk _)
def Qc.cne(I:Qc X ij σ H s):∀x c,X.env.cells.lookup x∣c->c≠X.env.locals:=λx c e z=>by
 let%[v,o,d|f]:=I.cell x c e;let%[m,%[g,h,i,a,b|_]|_]:=I.loc
 grind
def Qc.funs(I:Qc X ij σ H s):s.heap.FunFrames X.base X.outer:=by
 let all:∀l,(∀b∈frs l,b∈X.fs)->X.s₀.heap.FunFrames X.base l->s.heap.FunFrames X.base l:=by
  intro l
  induction l with
  | nil=>intro _ _;trivial
  | cons env r g=>
    intro f h;let%[i,%[L,o,a,j,m|n]|p]:=h;let c:=f L (by unfold frs;rw[Y1,a];show Zm);let%[q|e]:=I.base.slot L o m (I.ok.frf L c) c λz=>I.ok.exfs L z c
    show%[i,%[L,_,a,j,e|n]|g (λb d=>f b (by unfold frs;rw[Y1,a];show Zk _ d)) p]
 show all X.outer (λ_ d=>d) I.ok.funs
def Qc.stack(I:Qc X ij σ H s):s.heap.FunFrames X.base X.stack:=by
 rcases I.ok.stk with e|⟨e,a⟩
 .show e▸I.funs
 .rw[e];let%[m,b|_]:=I.loc;show .cons (by rw[I.ok.kind];decide) a b (xl.get?_none_of_le (nI I.ok.bsz I.ok.above)) I.funs
def Qc.stkSub(I:Qc X ij σ H s):∀b∈frs X.stack,b∈X.env.locals::X.fs:=λb a=>by
 rcases I.ok.stk with e|⟨e,c⟩
 .rw[e]at a;show Zk _ a
 .rw[e]at a;unfold frs at a;rw[Y1,c]at a;show a
def Qc.stkFree(I:Qc X ij σ H s):∀b∈frs X.stack,H b=hV:=λb a=>by
 rcases Yw.mp (I.stkSub b a)with e|a
 .show e▸I.free
 .let%[_,o,c|_]:=I.ok.funs.mem a;show I.base.free b o c (I.ok.frf b a) λz=>I.ok.exfs b z a
def Qc.step{T:Drawn}{ch:hH ku}(I:Qc X ij σ H s)
 (f:∀b∈ch,(b∈X.ex\/X.s₀.heap.objs.size<=b)/\b≠X.env.locals/\(∀x c,X.env.cells.lookup x∣c->c≠b)/\∀p∈X.pn++ij,p.1≠b)
 (keep:∀b o,b≠X.env.locals->b∉X.fs->b∉ch->s.heap.get? b∣o->H b=hV->h'.get? b∣o)
 (slot:∀b o,b≠X.env.locals->b∈X.fs->b∉ch->s.heap.get? b∣o->H b=hV->∃G,h'.get? b=hX {o with slots:=G}) (free:∀b o,b∉ch->s.heap.get? b∣o->H b=hV->H' b=hV)
 (there:∀b o,b∉ch->s.heap.get? b∣o->∃B,h'.get? b∣B)
 (tups:∀b xs,H b&&&xs->H' b&&&xs) (frzs:∀b o u,H b∣.frz o u->H' b∣.frz o u) (tbls:∀b ps,H b∣.tbl ps->∃more,H' b∣.tbl (ps++more))
 (U:∀m,s.heap.Ns X.env.locals m->h'.Ns X.env.locals m) (J:HOk X.prog X.w H' h') (Y:Qt g'):
 Qc X ij σ H' {s with heap:=h',gens:=g',drawn:=T,toks:=t'}:=by
 let C:∀b o,X.s₀.heap.get? b∣o->b≠X.env.locals:=λb o e=>Zs (Zg (Zu e) I.ok.above)
 let j:∀b o,X.s₀.heap.get? b∣o->b∉X.ex->b∉ch:=λb o e a y=>by
  rcases(f b y).1 with z|z
  .show a z
  .show n0 (Zg (Zu e) z) (Xk _)
 let g:∀x c,X.env.cells.lookup x∣c->∀v,s.heap.IsCell c v->h'.IsCell c v:=λx c e v ⟨o,A,L⟩=>by
  let h:=λz=>(f c z).2.2.1 x c e rfl
  by_cases N:c∈X.fs
  .let%[G|q]:=slot c o (I.cne x c e) N h A (I.freeC x c e);show%[_,q|L]
  .show%[o,keep c o (I.cne x c e) N h A (I.freeC x c e)|L]
 show%[I.ok,I.os,Y,%[λb o e n y a=>?_,λb o e n y a=>?_,λb o e n a=>?_,λb o e a=>?_,λb xs e=>tups b xs (I.base.tups b xs e),λb o xs e=>frzs b o xs (I.base.frzs b o xs e)|λb ps e=>?_],?_,λx c e=>?_,?_,λx c e=>?_,λp O=>?_,J|I.len]
 .show keep b o (C b o e) y (j b o e a) (I.base.keep b o e n y a) (I.base.free b o e n a)
 .let%[G|w]:=I.base.slot b o e n y a;let%[M|E]:=slot b _ (C b o e) y (j b o e a) w (I.base.free b o e n a);show%[M|E]
 .let%[B|w]:=I.base.there b o e a;show free b B (j b o e a) w (I.base.free b o e n a)
 .let%[B|w]:=I.base.there b o e a;show there b B (j b o e a) w
 .let%[m1|w]:=I.base.tbls b ps e;let%[m2|E]:=tbls b _ w;show%[m1++m2|by rw[E,UC]]
 .let%[m,hn|hl]:=I.loc;show%[m,U m hn|λi x v w E e3=>?_];let%[u,r|l]:=hl i x v w E e3;show%[u,r|?_];rcases l with l|⟨k,c,e,z⟩
  .show .inl l
  .show .inr %[k,c,e|g x c e _ z]
 .let%[v|z]:=I.cell x c e;show%[v|g x c e v z]
 .let%[m,%[o,_,_,A|_]|_]:=I.loc;show free _ o (λz=>(f _ z).2.1 rfl) A I.free
 .let%[v,o,A|L]:=I.cell x c e;show free c o (λz=>(f c z).2.2.1 x c e rfl) A (I.freeC x c e)
 .let%[e,n,ne,Q|d]:=I.pin p O;let h:=λz=>(f p.1 z).2.2.2 p O rfl
  show%[keep p.1 p.2 ne Q h e n,free p.1 p.2 h e n,ne,Q|d]
def Qc.un{t':jg}(I:Qc X ij σ H s)(u:Un X.fs [] H H' s.heap h')(c:HOk X.prog X.w H' h'):Qc X ij σ H' {s with heap:=h',toks:=t'}:=by
 let%[m,%[o,p,q,h|r]|_]:=id I.loc;let%[v|i]:=u.any h I.free ∅;show I.step (ch:=[]) (λ_ z=>nomatch z) (λb o _ d _ e n=>u.keep b o e n d ∅) (λb o _ d _ e n=>u.slot b o e n d ∅) (λb o _ e n=>u.free b o e n ∅) (λb o _ e=>u.there b o e ∅) u.tups u.frzs u.tbls (λw j=>by
  let%[y,f,g,a|l]:=j;rw[h]at a;cases a;show%[_,f,g,i|l]) c I.bare
def Qc.call{q:Drawn}{ch:hH ku}(I:Qc X ij σ H s)(u:Un (frs X.stack) ch H H' s.heap h')(g:HOk X.prog X.w H' h')(v:Qt w)
 (d:∀b∈ch,(b∈X.ex\/X.s₀.heap.objs.size<=b)/\b≠X.env.locals/\(∀x c,X.env.cells.lookup x∣c->c≠b)/\∀p∈X.pn++ij,p.1≠b):
 Qc X ij σ H' {s with heap:=h',gens:=w,drawn:=q,toks:=t'}:=by
 let%[m,%[o,C,E,l|r]|_]:=id I.loc;let%[G|h]:=u.any l I.free λz=>(d _ z).2.1 rfl
 show I.step d (λb o h y a e n=>u.keep b o e n (λz=>(Yw.mp (I.stkSub b z)).elim h y) a) (λb o _ _ a e n=>u.any e n a) (λb o a e n=>u.free b o e n a) (λb o a e=>u.there b o e a) u.tups u.frzs u.tbls (λJ A=>by
  let%[L,i,j,f|B]:=A;rw[l]at f;cases f;show%[_,i,j,h|B]) g v
def Qc.turned{it:ku}(I:Qc X ij σ H s)(k:∀b o,b≠it->s.heap.get? b∣o->h'.get? b∣o)(B:H it=hV)(f:it≠X.env.locals)
 (g:it∈X.ex\/X.s₀.heap.objs.size<=it) (h:∀x c,X.env.cells.lookup x∣c->c≠it) (i:∀p∈X.pn++ij,p.1≠it):Qc X ij σ H {s with heap:=h',toks:=t'}:=by
 let d:∀b u,H b∣u->b≠it:=λb u e z=>by lia
 show I.step (ch:=[it]) (λb j=>?_) (λb o _ _ a e _=>k b o (λz=>a (by simp[z])) e) (λb o _ _ a e _=>%[o.slots|k b o (λz=>a (by simp[z])) e]) (λ_ _ _ _ n=>n)
  (λb o a e=>%[o|k b o (λz=>a (by simp[z])) e]) (λ_ _ e=>e) (λ_ _ _ e=>e) (λb ps e=>%[#[]|by rw[e];simp]) (λm l=>?_) (λb u e=>?_) I.bare
 .let e:=↑j
  subst e;show%[g,f,h|i]
 .let%[o,w,y,A|r]:=l;show%[o,w,y,k _ o (I0 f) A|r]
 .show(I.hok b u e).stay (λc v a q=>k c v ?_ q) (λ_ q=>q) λ_ _ q=>q
  rcases a with z|z
  .show z▸d b u e
  .show d c _ z
def Qc.tok(I:Qc X ij σ H s)(t:jg):Qc X ij σ H {s with toks:=t}:=I.un Un.refl I.hok
def Qc.kept(I:Qc X ij σ H s)(k:∀b u,s.heap.get? b∣u->h'.get? b∣u):Qc X ij σ H {s with heap:=h',toks:=t'}:=I.un (Un.kept k) (I.hok.kept k)
def Qc.laid{a:ku}{o:HO}{t':jg}(I:Qc X ij σ H s)(k:∀b u,s.heap.get? b∣u->h'.get? b∣u)(c:⇑s<=a)(new:cD X.prog X.w (Qa H a o) h' a o):
 Qc X ij σ (Qa H a o) {s with heap:=h',toks:=t'}:=I.un (Un.laid k c (I.hok.fresh c)) (I.hok.laid k c new)
def Qc.write(I:Qc X ij σ H s)(c:Mut (H x))(d:e=x\/H e∣.own x)(k:∀b u,b≠e->s.heap.get? b∣u->h'.get? b∣u)(a:∃u,h'.get? e∣u)
 (new:cD X.prog X.w (Qa H x o) h' x o):Qc X ij σ (Qa H x o) {s with heap:=h',toks:=t'}:=I.un (Un.write c d k a) (I.hok.write c d k a new)
def Qc.pins_of(I:Qc X ij σ H s)(h:∀p∈a,s.heap.get? p.1∣p.2/\H p.1=hV/\p.1≠X.env.locals/\p.1∉X.fs/\∀v,p.2.data≠ .cell v):Qc X a σ H s:=
 %[I.ok,I.os,I.bare,I.base,I.loc,I.cell,I.free,I.freeC,λp b=>(Xn b).elim (λz=>I.pin p (Yu _ z)) (h p),I.hok|I.len]
def jt{N:ZB}(c:N.Nodup){i j:jg}{x:lp}(a:N[i]?∣x)(b:N[j]?∣x):i=j:=by
 let%[f|d]:=Xm a;let%[g|e]:=Xm b;show(hH.getElem_inj c).mp (d.trans e.symm)
def Bk{A:wh}{E:ZD}{i:jg}{x:lp}{v:V}{u:kj}{Q:SK->mu->Prop}(I:Qc X ij σ H s)(hN:X.N.Nodup)(hi:X.N[i]?∣x)(B:Loc X.env.scope x)(r:aX v u)
 (h:∀s',Qc X ij (σ.set i (hX v)) H s'->(∃a,vr a s.heap s'.heap/\(a=X.env.locals\/X.env.cells.lookup x∣a))->Q () s') (hf:X.fn x=hY\/X.env.scope.names.lookup x∣.local):tI M A (storeName X.env x u) Q E s:=by
 let%[m,hn|hl]:=id I.loc;let J:i<σ.length:=I.len▸(Xm hi).1;let cne:=I.cne;let g:∀{a:ku} {h':xl},(∃o,s.heap.get? a∣o/\H a=hV)->vr a s.heap h'->HOk X.prog X.w H h':=λ{a h'} ha f b ob e=>by
  let%[_,_|C]:=ha;show(I.hok b ob e).stay (λc w' w q=>(f.2 c ?_).trans q) (λ_ q=>q) λ_ _ q=>q
  rintro rfl;rcases w with rfl|w
  .rw[C]at e;cases e
  .rw[C]at w;cases w
 rcases B with L|L
 .show wpAny_storeName_local L hn (λh' ae f=>?_) (by rw[I.ok.kind];rfl);let%[oL,_,_,ag|_]:=id hn;show h _ %[I.ok,I.os,I.bare,%[λb o e n N B=>?_,λb o e n N B=>?_,I.base.free,λb o e B=>?_,I.base.tups,I.base.frzs|I.base.tbls],%[_,ae|λj y v' l G e3=>?_],λy c e=>?_,I.free,I.freeC,λp hp=>?_,g %[oL,ag|I.free] f|by simpa using I.len] %[_,f|.inl rfl]
  .show(f.2 b (Zs (Zg (Zu e) I.ok.above))).trans (I.base.keep b o e n N B)
  .let%[sl|l]:=I.base.slot b o e n N B;show%[sl|(f.2 b (Zs (Zg (Zu e) I.ok.above))).trans l]
  .let%[o'|l]:=I.base.there b o e B;show%[o'|(f.2 b (Zs (Zg (Zu e) I.ok.above))).trans l]
  .by_cases O:j=i
   .subst O;rw[hi]at l;cases l;rw[TH J]at G;cases G;show%[u,r|.inl %[L|by simp]]
   .rw[QU (I0 O)]at G;let%[u',r'|q]:=hl j y v' l G e3;show%[u',r'|?_];rcases q with⟨k,e⟩|⟨k,c,e,z⟩
    .show .inl %[k|?_];let:y≠x:=λe=>O (jt hN l (e▸hi))
     simp[this,e]
    .show .inr %[k,c,e|z.sameBut f (cne y c e)]
  .let%[w'|z]:=I.cell y c e;show%[w'|z.sameBut f (cne y c e)]
  .let%[e,n,ne,nf|d]:=I.pin p hp;show%[(f.2 p.1 ne).trans e,n,ne,nf|d]
 .let T:X.fn x=hY:=by
   rcases hf with z|z
   .show z
   .rw[z]at L;cases L
  let%[c|w]:=I.ok.has x (.inl L);let%[w'|z]:=I.cell x c w;show wpAny_storeName_cell I.ok.kind L w z (λh' U f=>?_);let%[oc,Y|ab]:=id z;show h _ %[I.ok,I.os,I.bare,%[λb o e n N B=>?_,λb o e n N B=>?_,I.base.free,λb o e B=>?_,I.base.tups,I.base.frzs|I.base.tbls],%[m,hn.sameBut f (I0 (cne x c w))|λj y v' l G e3=>?_],λy c' e=>?_,I.free,I.freeC,λp hp=>?_,g %[oc,Y|I.freeC x c w] f|by simpa using I.len] %[c,f|.inr w]
  .show(f.2 b (Zs (Zg (Zu e) (I.ok.cab x c T w)))).trans (I.base.keep b o e n N B)
  .let%[sl|l]:=I.base.slot b o e n N B;show%[sl|(f.2 b (Zs (Zg (Zu e) (I.ok.cab x c T w)))).trans l]
  .let%[o'|l]:=I.base.there b o e B;show%[o'|(f.2 b (Zs (Zg (Zu e) (I.ok.cab x c T w)))).trans l]
  .by_cases O:j=i
   .subst O;rw[hi]at l;cases l;rw[TH J]at G;cases G;show%[u,r|.inr %[.inl L,c,w|U]]
   .rw[QU (I0 O)]at G;let%[u',r'|q]:=hl j y v' l G e3;show%[u',r'|?_];rcases q with q|⟨k,c',e,z'⟩
    .show .inl q
    .show .inr %[k,c',e|z'.sameBut f ?_];rintro rfl;show O (jt hN l (I.ok.inj _ _ _ e w▸hi))
  .by_cases ac:c'=c
   .subst ac;show%[_|U]
   .let%[w2|z2]:=I.cell y c' e;show%[w2|z2.sameBut f ac]
  .let%[e,n,ne,nf|d]:=I.pin p hp;show%[(f.2 p.1 ?_).trans e,n,ne,nf|d];intro q;rw[q,Y]at e;show d w' ((Za e)▸ab)
def kZ(I:Qc X ij σ H s)(a:X.N.Nodup)(hi:X.N[i]?∣x)(b:Loc X.env.scope x)(r:aX v u)
 (h:∀s',Qc X ij (σ.set i (hX v)) H s'->Q () s') (c:X.fn x=hY\/X.env.scope.names.lookup x∣.local):tI M A (storeName X.env x u) Q E s:=
 Bk I a hi b r (λs' d _=>h s' d) c
def Qc.call'(I:Qc X ij σ H s)(e:s'.os=s.os)(u:Un (frs X.stack) ch H H' s.heap s'.heap)(a:HOk X.prog X.w H' s'.heap)(f:Qt s'.gens)
 (d:∀b∈ch,(b∈X.ex\/X.s₀.heap.objs.size<=b)/\b≠X.env.locals/\(∀x c,X.env.cells.lookup x∣c->c≠b)/\∀p∈X.pn++ij,p.1≠b):Qc X ij σ H' s':=by
 let%[h',g,h,t'|i]:=s';subst e;show I.call u a f d
end
noncomputable abbrev XK:=kj->ZI->Hp->Prop
noncomputable abbrev St:=hH (lx V)
noncomputable abbrev VK:=V->Hp->Prop
noncomputable abbrev TE:=St->Hp->VK->Prop
noncomputable abbrev TT:=St->Hp->(ri->Hp->Prop)->Prop
noncomputable abbrev TA:=St->Hp->(hH V->Hp->Prop)->Prop
structure jr where
 nx:St->Hp->Prop
 rt:VK
 bk:St->Hp->Prop:=λ_ _=>J5
 ct:St->Hp->Prop:=λ_ _=>J5
noncomputable abbrev TS:=jr->St->Hp->Prop
abbrev EP(X:Cx)(ij:ZE)(b:St)(Q:VK)(u:kj)(s':mu):Prop:=∃v a,Qc X ij b a s'/\aX v u/\Q v a
abbrev TP(X:Cx)(ij:ZE)(c:St)(Q:ri->Hp->Prop)(b:ri)(s':mu):Prop:=∃a,Qc X ij c a s'/\Q b a
abbrev AP(X:Cx)(ij:ZE)(b:St)(Q:hH V->Hp->Prop)(us:ZF)(s':mu):Prop:=∃vs a,Qc X ij b a s'/\aM vs us/\Q vs a
abbrev SP(X:Cx)(ij:ZE)(D:jr)(f:Flow)(s':mu):Prop:=
 match f with
 | .next=>∃a b,Qc X ij a b s'/\D.nx a b
 | .brk=>∃a b,Qc X ij a b s'/\D.bk a b
 | .cont=>∃a b,Qc X ij a b s'/\D.ct a b
 | .ret u=>∃v a b,Qc X ij a b s'/\aX v u/\D.rt v b
abbrev PE(X:Cx)(e:yu)(t:TE):Prop:=
 ∀ij s (a:St) H Q,Qc X ij a H s->t a H Q->(X⁻¹) (MZ e X.env) (EP X ij a Q) X.xe s
abbrev PT(X:Cx)(e:yu)(t:TT):Prop:=
 ∀ij s (a:St) H Q,Qc X ij a H s->t a H Q->(X⁻¹) (S6 e X.env (MZ e X.env)) (TP X ij a Q) X.xe s
abbrev PW(X:Cx)(e:yu)(t:TT):Prop:=
 ∀a ij s (b:St) H Q,Qc X ij b H s->t b H Q->(X⁻¹) (S6 e X.env a) (TP X ij b Q) X.xe s
def PW.pt{X:Cx}(h:PW X e t):PT X e t:=h _
abbrev PA(X:Cx)(b:hH yu)(t:TA):Prop:=
 ∀pos ij s (a:St) H Q,Qc X ij a H s->t a H Q->(X⁻¹) (spliced (Nt pos (vi b X.env))) (AP X ij a Q) X.xe s
abbrev PS(X:Cx)(st:zr)(t:TS):Prop:=
 ∀ij s (a:St) H D,Qc X ij a H s->t D a H->(X⁻¹) (exec st X.env) (SP X ij D) X.xe s
abbrev PSs(X:Cx)(st:hH zr)(t:TS):Prop:=
 ∀ij s (a:St) H D,Qc X ij a H s->t D a H->(X⁻¹) (execs st X.env) (SP X ij D) X.xe s
def thn{b:Type}{t:Sem b}{Q c:b->mu->Prop}{M:Model}{A:wh}{E:ZD}{s:mu}(h:tI M A t Q E s)(d:∀a s,Q a s->c a s):tI M A t c E s:=Mz h d λ_ _ x=>x
def thP{c d:Type}{t:Sem c}{X:Cx}{ij:ZE}{e:St}{R:d->c->Prop}{Q:d->Hp->Prop}{f:c->mu->Prop}{M:Model}{A:wh}{E:ZD}{s:mu}(h:tI M A t (λa s=>∃v b,Qc X ij e b s/\R v a/\Q v b) E s)(g:∀a s v b,Qc X ij e b s->R v a->Q v b->f a s):tI M A t f E s:=Mz h (λa s ⟨v,b,i,r,q⟩=>g a s v b i r q) λ_ _ x=>x
def thT{c:Type}{t:Sem c}{X:Cx}{ij:ZE}{d:St}{Q:c->Hp->Prop}{e:c->mu->Prop}{M:Model}{A:wh}{E:ZD}{s:mu}(h:tI M A t (λa s=>∃b,Qc X ij d b s/\Q a b) E s)(f:∀a s b,Qc X ij d b s->Q a b->e a s):tI M A t e E s:=Mz h (λa s ⟨b,i,q⟩=>f a s b i q) λ_ _ x=>x
section
variable{X:Cx}
abbrev asI(x:V)(f:oT->Prop):Prop:=match x with| .int i=>f i|_=>J5
abbrev asB(x:V)(f:ri->Prop):Prop:=match x with| .bl i=>f i|_=>J5
abbrev asR(x:V)(f:ku->Prop):Prop:=match x with| .ref i=>f i|_=>J5
def K2:asI (.int i) f=f i:=rfl
def K3:asB (.bl i) f=f i:=rfl
def K4:asR (.ref i) f=f i:=rfl
def dC{x:V}{f:oT->Prop}(h:asI x f):∃i,x= .int i/\f i:=by
 cases x<;> first|show⟨_,rfl,h⟩|show h.elim
def sf{x:V}{f:ri->Prop}(h:asB x f):∃i,x= .bl i/\f i:=by
 cases x<;> first|show⟨_,rfl,h⟩|show h.elim
def aS{x:V}{f:ku->Prop}(h:asR x f):∃i,x= .ref i/\f i:=by
 cases x<;> first|show⟨_,rfl,h⟩|show h.elim
abbrev asS(x:V)(f:lp->Prop):Prop:=match x with| .str i=>f i|_=>J5
def K5:asS (.str i) f=f i:=rfl
def eO{x:V}{f:lp->Prop}(h:asS x f):∃i,x= .str i/\f i:=by
 cases x<;> first|show⟨_,rfl,h⟩|show h.elim
abbrev db(xs:hH V)(f:V->Prop):Prop:=match xs with|[x]=>f x|_=>J5
def Ij:db [x] f=f x:=rfl
def cc{xs:hH V}{f:V->Prop}(h:db xs f):∃x,xs=[x]/\f x:=by
 rcases xs with _|⟨x,_|⟨y,r⟩⟩<;> first|show⟨_,rfl,h⟩|show h.elim
abbrev mO(xs:hH V)(f:V->V->Prop):Prop:=match xs with|[x,y]=>f x y|_=>J5
def Ik:mO [x,y] f=f x y:=rfl
def ju{xs:hH V}{f:V->V->Prop}(h:mO xs f):∃x y,xs=[x,y]/\f x y:=by
 rcases xs with _|⟨x,_|⟨y,_|⟨z,r⟩⟩⟩<;> first|show⟨_,_,rfl,h⟩|show h.elim
abbrev Il(xs:hH V)(p:Prop):Prop:=match xs with|[]=>p|_=>J5
def Im:Il [] p=p:=rfl
def Io{xs:hH V}{p:Prop}(h:Il xs p):xs=[]/\p:=by
 cases xs<;> first|show⟨rfl,h⟩|show h.elim
abbrev mP:jg->TE
 | 0,hX v::_,H,Q=>Q v H
 | i+1,_::a,H,Q=>mP i a H Q
 | _,_,_,_=>J5
def Ip:mP 0 (hX v::a) H Q=Q v H:=rfl
def Iq:mP (i+1) (o::a) H Q=mP i a H Q:=rfl
def yh:∀{i:jg} {a:St},mP i a H Q->∃v,a[i]?∣hX v/\Q v H
 | 0,hX v::_,h=>%[v,rfl|h]
 | 0,hV::_,h=>h.elim
 | 0,[],h=>h.elim
 | _+1,[],h=>h.elim
 | i+1,_::a,h=>yh (i:=i) h
abbrev tC(v:V):TE:=λ_ H Q=>Q v H
def CC(j:X.N[i]?∣x)(n:Vis X.env.scope x)(d:(x==("__debug__":lp))=iv)(f:(x==("__classdict__":lp))=iv):PE X (.Name x pos) (mP i):=by
 intro ij s o H Q I h;let%[v,e|h]:=yh h;let%[m,p|q]:=I.loc;let%[u,r|l]:=q i x v j e n;let fin:EP X ij o Q u s:=%[v,H,I,r|h]
 rcases l with⟨b,w⟩|⟨b,c,g,a⟩
 .show V7 (wpAny_loadName_local I.ok.kind b p w fin) d
 .rcases b with b|b
  .show V7 (wpAny_loadName_cell I.ok.kind b g a fin) d
  .show V7 (wpAny_loadName_free I.ok.kind b g a fin f) d
def Ir{i j pos}:PE X (.Constant (.int i) j pos) (tC (.int i)):=λ_ _ _ H _ I h=>wpAny_Constant_int %[.int i,H,I.tok _,%[_|rfl]|h]
def K6{b j pos}:PE X (.Constant (.bool b) j pos) (tC (.bl b)):=λ_ _ _ H _ I h=>Constant_bool %[.bl b,H,I,rfl|h]
def Iu{j pos}:PE X (.Constant .none j pos) (tC .non):=λ_ _ _ H _ I h=>Constant_none %[.non,H,I,rfl|h]
def Iv{x j pos}:PE X (.Constant (.str x) j pos) (tC (.str x)):=λ_ _ _ H _ I h=>Calls.Constant_str %[.str x,H,I.tok _,%[_|rfl]|h]
abbrev Gl(X:Cx)(x:lp):Prop:=X.env.kindOf x∣.globalImplicit
def iO(I:Qc X ij d H s)(a:Gl X x)(b:X.mg x∣u)(h:Q u s)
 (c:(x==("__debug__":lp))=iv):(X⁻¹) (MZ (.Name x pos) X.env) Q E s:=
 SR I.ok.kind a (Calls.loadGlobal_global (I.ok.glob▸I.mod.glob.keeps I.bk) b h) c
def jv(I:Qc X ij i H s)(a:Gl X x)(b:X.mg x=hV)(c:Nz x∣u)(h:Q u s)
 (d:x≠"__name__":=by decide) (e:(x==("__debug__":lp))=iv:=by decide):(X⁻¹) (MZ (.Name x pos) X.env) Q E s:=by
 let%[j,f|g]:=I.mod.blt;show SR I.ok.kind a (Calls.loadGlobal_builtin (I.ok.glob▸I.mod.glob.keeps I.bk) b (I.ok.blt▸f.keeps I.bk) ((g x d).trans c) h) e
def FM(a:Gl X x)(b:X.mg x∣u)(r:aX v u)(c:(x==("__debug__":lp))=iv):PE X (.Name x pos) (tC v):=
 λ_ _ _ H _ I h=>iO I a b %[v,H,I,r|h] c
def FN(a:Gl X x)(b:X.mg x=hV)(c:Nz x∣u)(r:aX v u)(d:x≠"__name__")(e:(x==("__debug__":lp))=iv):PE X (.Name x pos) (tC v):=
 λ_ _ _ H _ I h=>jv I a b c %[v,H,I,r|h] d e
variable{a b:yu}{ta tb:TE}{pos:Pos}
abbrev PC(X:Cx)(op:VO)(a b:yu)(t:TE):Prop:=
 ∀ij s (e:St) H Q,Qc X ij e H s->t e H Q->
  (X⁻¹) (MZ a X.env) (λv c=>(X⁻¹) (MZ b X.env) (λu d=>(X⁻¹) (pp op v u) (EP X ij e Q) X.xe d) X.xe c) X.xe s
def K7(b:yu)(h:op≠ .In)(e:op≠ .NotIn):MY op b=iv:=by
 let c:(op==VO.In)=iv:=by lia
 let d:(op==WN)=iv:=by lia
 cases b<;> simp[MY,c,d]
abbrev tB(t:TE):TT:=λd H Q=>t d H λx e=>asB x λc=>Q c e
def Iw(h:PC X op a b t)(c:MY op b=iv):PE X (.Compare a [op] [b] pos) t:=λij s d H Q I hw=>wpAny_Compare1 (h ij s d H Q I hw) c
def CD{op:VO}(h:PC X op a b t)(e:MY op b=iv):PT X (.Compare a [op] [b] pos) (tB t):=by
 intro ij s f H Q I hw;show Vc (thn (h ij s f H _ I hw) λv n e=>thn e λu o g=>thn g λc p ⟨x,i,j,l,m⟩=>?_) e;let%[d,rfl|q]:=sf m;cases l;show Nn %[i,j|q]
variable{tA tB':TT}{rest:hH yu}
abbrev FO(t u:TT):TT:=λd H Q=>t d H λc e=>if c=hY then u d e Q else Q iv e
abbrev tOr(t u:TT):TT:=λd H Q=>t d H λc e=>if c=hY then Q hY e else u d e Q
abbrev Ix(t:TT):TT:=λd H Q=>t d H λc e=>Q (!c) e
def FP(d:PT X a tA):PW X (.BoolOp .And [a] pos) tA:=by
 intro g ij s f H Q I h;show isTrue_and (thn (d ij s f H Q I h) λc i e=>?_);cases c with
 | true=>show isTrue_and_nil e
 | false=>show e
def Iy(d:PT X a tA):PW X (.BoolOp .Or [a] pos) tA:=by
 intro g ij s f H Q I h;show isTrue_or (thn (d ij s f H Q I h) λc i e=>?_);cases c with
 | false=>show isTrue_or_nil e
 | true=>show e
def Iz(i:PT X a tA)(j:PW X (.BoolOp .And (b::rest) pos) tB'):PW X (.BoolOp .And (a::b::rest) pos) (FO tA tB'):=by
 intro l ij s d H Q I h;show isTrue_and (thT (i ij s d H _ I h) λc m e f g=>?_);cases c with
 | true=>show j l ij m d e Q f g
 | false=>show%[e,f|g]
def K8(i:PT X a tA)(j:PW X (.BoolOp .Or (b::rest) pos) tB'):PW X (.BoolOp .Or (a::b::rest) pos) (tOr tA tB'):=by
 intro l ij s d H Q I h;show isTrue_or (thT (i ij s d H _ I h) λc m e f g=>?_);cases c with
 | true=>show%[e,f|g]
 | false=>show j l ij m d e Q f g
def IA(c:PT X a tA):PT X (.UnaryOp .Not a pos) (Ix tA):=by
 intro ij s d H Q I h;show isTrue_not (c ij s d H _ I h)
abbrev CF(ta tb:TE):TE:=λd H Q=>ta d H λx e=>asB x λc=>if c=hY then tb d e Q else Q (.bl iv) e
abbrev IB(ta tb:TE):TE:=λd H Q=>ta d H λx e=>asB x λc=>if c=hY then Q (.bl hY) e else tb d e Q
def IC{op}(h:PE X a t):PE X (.BoolOp op [a] pos) t:=λij s c H Q I hw=>BoolOp_one (h ij s c H Q I hw)
def ID(i:PE X a ta)(j:PE X (.BoolOp .And (b::rest) pos) tb):PE X (.BoolOp .And (a::b::rest) pos) (CF ta tb):=by
 intro ij s e H Q I h;show BoolOp_and (thP (i ij s e H _ I h) λv l x f g m d=>?_);let%[c,rfl|d]:=sf d;cases m;show Nn ?_;cases c with
 | true=>show j ij l e f Q g d
 | false=>show%[.bl iv,f,g,ρ|d]
def K9(i:PE X a ta)(j:PE X (.BoolOp .Or (b::rest) pos) tb):PE X (.BoolOp .Or (a::b::rest) pos) (IB ta tb):=by
 intro ij s e H Q I h;show BoolOp_or (thP (i ij s e H _ I h) λv l x f g m d=>?_);let%[c,rfl|d]:=sf d;cases m;show Nn ?_;cases c with
 | false=>show j ij l e f Q g d
 | true=>show%[.bl hY,f,g,ρ|d]
abbrev tIf(t:TT)(ta tb:TE):TE:=λd H Q=>t d H λc e=>if c=hY then ta d e Q else tb d e Q
def CG{c:yu}(l:PT X c tA)(m:PE X a ta)(n:PE X b tb):PE X (.IfExp c a b pos) (tIf tA ta tb):=by
 intro ij s e H Q I h;show wpAny_IfExp (thT (l ij s e H _ I h) λd f g i j=>?_);cases d with
 | true=>show m ij f e g Q i j
 | false=>show n ij f e g Q i j
end
abbrev Qb(K:ZA)(H:Hp)(a:ku)(xs:hH V):Prop:=
 Rd H a (.lst xs)\/
  ∃o its n,K.lookup a∣o/\o.cls= .type "list"/\o.dict=hV/\o.data= .seq its n/\its.size<=md/\aM xs its.toList
abbrev SqT(K:ZA)(H:Hp)(a:ku)(xs:hH V):Prop:=
 Rd H a (.tup xs)\/
  ∃o its n,K.lookup a∣o/\o.cls= .type "tuple"/\o.data= .seq its n/\its.size<=md/\aM xs its.toList
abbrev absV:kj->lx V
 | .none=>hX .non
 | .bool b=>hX (.bl b)
 | .int i _=>hX (.int i)
 | .str x _=>hX (.str x)
 | .bytes b _=>hX (.byt b)
 | .float b _=>hX (.flt b)
 | .ref a=>hX (.ref a)
 | .type n=>hX (.ty n)
 | _=>hV
def aX.abs(r:aX x u):absV u∣x:=by
 cases x with
 | non=>cases r;rfl
 | bl _=>cases r;rfl
 | int _=>have%[t|rfl]:=r;rfl
 | str _=>have%[t|rfl]:=r;rfl
 | byt _=>have%[t|rfl]:=r;rfl
 | flt _=>have%[t|rfl]:=r;rfl
 | ref _=>cases r;rfl
 | ty _=>cases r;rfl
def aX.inj(r:aX x u)(q:aX y u):x=y:=Za (r.abs.symm.trans q.abs)
def aM.inj:∀{xs ys:hH V} {us:ZF},aM xs us->aM ys us->xs=ys
 | _,_,_,.nil,.nil=>rfl
 | _,_,_,.cons r t,.cons a t'=>by rw[r.inj a,aM.inj t t']
section
variable{X:Cx}{ij:ZE}{σ:St}{H:Hp}{s:Shared}
variable{a:ku}{xs ys:hH V}
def Qb.of{K:ZA}(h:H a<*xs):Qb K H a xs:= .inl (.inl h)
def SqT.of{K:ZA}(h:H a&&&xs):SqT K H a xs:= .inl (.inl h)
def Qc.list(I:Qc X ij σ H s)(h:Qb X.K H a xs):∃its:ZF,aM xs its/\PlainL s.heap a its.toArray/\ ~~~xs<=md:=by
 rcases h with h|⟨o,its,n,b,c,d,f,g,r⟩
 .let%[z,its,n,r|e]:=h.ok I.hok;show%[its,r,%[_,n,e,ρ,ρ|ρ]|z]
 .show%[its.toList,r,%[o,n,I.kIn a o b,c,d|f]|?_];let e:= ~~~r
  simp_all
def Qc.tuple(I:Qc X ij σ H s)(h:SqT X.K H a xs):∃its:ZF,aM xs its/\IsTup s.heap a its.toArray/\ ~~~xs<=md:=by
 rcases h with h|⟨o,its,n,b,c,d,f,r⟩
 .let%[z,its,r|p]:=h.ok I.hok;show%[its,r,p|z]
 .show%[its.toList,r,%[o,I.kIn a o b,c,n|d]|?_];let e:= ~~~r;simp only[Zb]at e
  lia
def Qc.list_inj(I:Qc X ij σ H s)(h:Qb X.K H a xs)(h':Qb X.K H a ys):xs=ys:=by
 let%[its,r,%[o,n,e,_,_|d]|_]:=I.list h;let%[its',f,%[i,j,b,_,_|c]|_]:=I.list h';rw[e]at b;cases b;rw[d]at c;injection c with g _
 let:=sU Wt g;subst this;show r.inj f
def Qc.tuple_inj(I:Qc X ij σ H s)(h:SqT X.K H a xs)(h':SqT X.K H a ys):xs=ys:=by
 let%[its,r,%[o,e,_,n|d]|_]:=I.tuple h;let%[its',f,%[i,b,_,j|c]|_]:=I.tuple h';rw[e]at b;cases b;rw[d]at c;injection c with g _
 let:=sU Wt g;subst this;show r.inj f
end
noncomputable abbrev Cx.wish(X:Cx)(E:ZD):Cx:={X with xe:=E}
noncomputable abbrev Cx.nox(X:Cx):Cx:=X.wish λ_ _=>J5
def Cx.Ok.wish{X:Cx}(ok:X.Ok)(E:ZD):(X.wish E).Ok:=
 %[ok.mod,ok.kind,ok.glob,ok.blt,ok.above,ok.inj,ok.has,ok.cab,ok.hd,ok.frames,ok.stk,ok.exf,ok.bs,ok.bsz,ok.noex,ok.exfs,ok.funs|ok.frf]
def Cx.Ok.unwish{X:Cx}{E:ZD}(ok:(X.wish E).Ok):X.Ok:=
 %[ok.mod,ok.kind,ok.glob,ok.blt,ok.above,ok.inj,ok.has,ok.cab,ok.hd,ok.frames,ok.stk,ok.exf,ok.bs,ok.bsz,ok.noex,ok.exfs,ok.funs|ok.frf]
section
variable{X:Cx}{ij:ZE}{σ:St}{H:Hp}{s:Shared}
variable{E:ZD}
def Qc.wish(I:Qc X ij σ H s)(E:ZD):Qc (X.wish E) ij σ H s:=%[I.ok.wish E,I.os,I.bare,I.base,I.loc,I.cell,I.free,I.freeC,I.pin,I.hok|I.len]
def Qc.unwish(I:Qc (X.wish E) ij σ H s):Qc X ij σ H s:=%[I.ok.unwish,I.os,I.bare,I.base,I.loc,I.cell,I.free,I.freeC,I.pin,I.hok|I.len]
def SP.unwish{D:jr}{f:Flow}{s':mu}(h:SP (X.wish E) ij D f s'):SP X ij D f s':=by
 cases f with
 | next=>have%[a,b,I|q]:=h;show%[a,b,I.unwish|q]
 | brk=>have%[a,b,I|q]:=h;show%[a,b,I.unwish|q]
 | cont=>have%[a,b,I|q]:=h;show%[a,b,I.unwish|q]
 | ret u=>have%[v,a,b,I,r|q]:=h;show%[v,a,b,I.unwish,r|q]
def PSs.nox{st:hH zr}(h:PSs X.nox st t):PSs X st t:=λij s σ H D I hw=>
 Mz (h ij s σ H D (I.wish _) hw) (λ_ _ q=>q.unwish) λ_ _ z=>MM z
end
section
variable{X:Cx}{st:zr}{rest:hH zr}{t u:TS}{e:yu}{te:TE}{pos:Pos}
abbrev CH:TS:=λD a H=>D.nx a H
abbrev aR(t u:TS):TS:=λD a H=>t {D with nx:=u D} a H
def FQ:PSs X [] CH:=λ_ _ a H _ I h=>Ot %[a,H,I|h]
def CI(b:PS X st t)(c:PSs X rest u):PSs X (st::rest) (aR t u):=by
 intro ij s d H D I h;show WS (thn (b ij s d H _ I h) λf g q=>?_);cases f with
 | next=>
   let%[a,i,j|q]:=q;show c ij g a i D j q
 | ret v=>show q
 | brk=>show q
 | cont=>show q
def FR(a:PS X st t):PSs X [st] t:=by
 intro ij s b H D I h;show WS (thn (a ij s b H D I h) λf c q=>?_);cases f with
 | next=>show Ot q
 | ret v=>show q
 | brk=>show q
 | cont=>show q
def Qc.quiet{ij:hH _}{a:St}{H:Hp}{s:mu}(I:Qc X ij a H s):interactive X.env=iv:=by simp[interactive,I.ok.kind]
abbrev lh(te:TE):TS:=λD a H=>te a H λ_ b=>D.nx a b
def FS(b:PE X e te)(c:OL e hV pos.line X.env=pure iv):PS X (.Expr e pos) (lh te):=by
 intro ij s a H D I h;show wpAny_Expr_any (thP (b ij s a H _ I h) λv i x d f j g=>%[a,d,f|g]) I.quiet c
abbrev iP(te:TE):TS:=λD a H=>te a H D.rt
def IE(b:PE X e te):PS X (.Return (hX e) pos) (iP te):=by
 intro ij s a H D I h;show wpAny_Return_some (thP (b ij s a H _ I h) λv i x c d f g=>%[x,a,c,d,f|g])
abbrev j8(c:TT)(t u:TS):TS:=λD a H=>c a H λb d=>if b=hY then t D a d else u D a d
def La{c:yu}{a b:hH zr}(m:PT X c n)(o:PSs X a t)(p:PSs X b u):PS X (.If c a b pos) (j8 n t u):=by
 intro ij s f H D I h;show wpAny_If (thT (m ij s f H _ I h) λd g i j l=>?_);cases d with
 | true=>show o ij g f i D j l
 | false=>show p ij g f i D j l
abbrev uF:TS:=λ_ _ _=>J5
def CJ:PS X st uF:=λ_ _ _ _ _ _ h=>h.elim
def Bl:PSs X a uF:=λ_ _ _ _ _ _ h=>h.elim
end
noncomputable abbrev TG:=V->St->Hp->(St->Hp->Prop)->Prop
noncomputable abbrev TGs:=hH V->St->Hp->(St->Hp->Prop)->Prop
abbrev PG(X:Cx)(a:yu)(t:TG):Prop:=
 ∀ij s (c:St) H v u Q,Qc X ij c H s->aX v u->t v c H Q->
  (X⁻¹) (assign a X.env u) (λ_ s'=>∃b d,Qc X ij b d s'/\Q b d) X.xe s
abbrev PGs(X:Cx)(ts:hH yu)(t:TGs):Prop:=
 ∀ij s (b:St) H vs us Q,Qc X ij b H s->aM vs us->t vs b H Q->
  (X⁻¹) (assignInOrder ((N1 ts X.env)\2) us) (λ_ s'=>∃a c,Qc X ij a c s'/\Q a c) X.xe s
section
variable{X:Cx}{pos:Pos}
abbrev lj(i:jg):TG:=λv a H Q=>Q (a.set i (hX v)) H
def FT(a:X.N.Nodup)(hi:X.N[i]?∣x)(b:Loc X.env.scope x)(c:X.fn x=hY\/X.env.scope.names.lookup x∣.local):PG X (.Name x pos) (lj i):=by
 intro ij s e H v u Q I r h;show Wy (kZ I a hi b r (λs' d=>%[_,H,d|h]) c)
abbrev IF:TGs:=λvs a H Q=>vs=[]/\Q a H
abbrev CL(t:TG)(u:TGs):TGs:=λvs b H Q=>∃v r,vs=v::r/\t v b H λa c=>u r a c Q
def FU:PGs X [] IF:=by
 intro ij s a H vs us Q I r h;let%[e|h]:=h;show assignInOrder_nil %[a,H,I|h]
def CM{e:yu}{u:TGs}(c:PG X e t)(d:PGs X a u)
 (f:(N1 (e::a) X.env)\2=assign e X.env::(N1 a X.env)\2):PGs X (e::a) (CL t u):=by
 intro ij s g H vs us Q I r h;let%[v,o,i|h]:=h;subst i;cases r with
 | cons r rr=>
   rw[f];show assignInOrder_cons (thn (c ij s g H _ _ _ I r h) λ_ j ⟨b,l,m,n⟩=>d ij j b l _ _ Q m rr n)
abbrev FV(K:ZA)(n:jg)(t:TGs):TG:=λv b H Q=>asR v λa=>∃xs,SqT K H a xs/\ ~~~xs=n/\t xs b H Q
def IG(g:X.calm=hY)(h:PGs X c t)
 (i: ~~~(N1 c X.env)=n) (d:(N1 c X.env).findIdx? (·.1)=hV):PG X (.Tuple c k pos) (FV X.K n t):=by
 intro ij s j H v u Q I r hw;let%[a,l,xs,m,p|hw]:=aS hw;clear ‹FV _ _ _ _ _ _ _›;subst l;cases r;let%[its,f,q|y]:=I.tuple m;show assign_Tuple_tuple (I.ok.hd g) q (by simp[i,<-p,~~~f]) d λh' w=>h ij _ j H xs _ Q (I.kept λb o e=>w b o (Zs (Zu e)) e) (f) hw
abbrev rA(b:TE)(g:TG):TS:=λD a H=>b a H λx c=>g x a c D.nx
def IH{a e:yu}{g:TG}(c:PE X e d)(f:PG X a g)(i:swapsWithSole [a] e pos.line X.env=pure iv)(hw:swappedStores [a] e X.env=pure hV)
 (j:(N1 [a] X.env)\2=[assign a X.env]):PS X (.Assign [a] e pos) (rA d g):=by
 intro ij s b H D I h;show wpAny_Assign_stores (thP (c ij s b H _ I h) λv l x m n o p=>?_) i hw;rw[j];show thn (f ij l b m x v _ n o p) λ_ r q=>q
def II{i:jg}{x:lp}{e:yu}(b:X.N.Nodup)(hi:X.N[i]?∣x)(c:Loc X.env.scope x)(d:PE X e f)(g:OL e (hX (.Name x a)) pos.line X.env=pure iv)(j:X.fn x=hY\/X.env.scope.names.lookup x∣.local):
 PS X (.Assign [.Name x a] e pos) (rA f (lj i)):=by
 intro ij s l H D I h;show wpAny_Assign_Name (thP (d ij s l H _ I h) λv r y m n o p=>kZ n b hi c o (λu q=>%[_,m,q|p]) j) g
abbrev CO(c:TT)(h:TS):TS:=λD a H=>∃W:jg->St->Hp->Prop,(∃m,W m a H)/\∀m a H,W m a H->
 c a H λb e=>if b=hY then∃N:St->Hp->Prop,(∀d f,N d f->∃g,g<m/\W g d f)/\h {D with nx:=N,ct:=N,bk:=D.nx} a e else D.nx a e
def CP(w:PX (Nf X.prog X.w) X.A X.env X.xe)(E:PT X c G)(J:PSs X e L):PS X (.While c e [] pos) (CO G L):=by
 intro ij s M H D I h;let%[W,%[O|Q]|g]:=h;show wpAny_While (codeAny_whileLoop (λn s'=>∃i y,Qc X ij i y s'/\W n i y) ?_ O %[M,H,I|Q]);intro n T %[d,z,U|Y];show N6 w (thT (E ij T d z _ U (g n d z Y)) λb s2 A B l=>?_);cases b with
 | true=>
   let%[N,C|l]:=l;show N6 w (thn (J ij s2 d A _ B l) λf s3 m=>?_);cases f with
   | next=>
     let%[a,j,o|p]:=m;let%[q,r|u]:=C a j p;show%[q,r,a,j,o|u]
   | cont=>
     let%[a,j,o|p]:=m;let%[q,r|u]:=C a j p;show%[q,r,a,j,o|u]
   | brk=>show m
   | ret v=>show m
 | false=>
   show Ot %[d,A,B|l]
end
structure It where
 go:jg->Hp->Prop
 yld:jg->Hp->V->Hp->Prop
 stop:jg->Hp->Prop
abbrev mQ(X:Cx)(ij:ZE)(H:Hp)(b:ku):Prop:=
 H b=hV/\b≠X.env.locals/\b∉X.fs/\(b∈X.ex\/X.s₀.heap.objs.size<=b)/\(∀x c,X.env.cells.lookup x∣c->c≠b)/\∀p∈X.pn++ij,p.1≠b
def Qc.fpOk{X:Cx}(I:Qc X ij h H s)(a:⇑s<=b)(d:f b=hV):mQ X ij f b:=by
 show%[d,Yz (Zg I.lt a),I.nofs a,.inr (nI I.sz a),λx c e z=>?_|λp g z=>?_]
 .let%[v|q]:=I.cell x c e;show n0 (Zg q.lt (z▸a)) (Xk _)
 .show n0 (Zg (Zu (I.pin p g).1) (z▸a)) (Xk _)
structure rB (P:nY) (w:v0) (K:ZA) (tg:yu) (J:It) (fp:hH ku) (it:ku) (tn:jg->xl->Prop):Prop where
 mem:it∈fp
 obj:∀i h,tn i h->∀b∈fp,∃o,h.get? b∣o/\∀v,o.data≠ .cell v
 keep:∀i h h',tn i h->(∀b∈fp,∀o,h.get? b∣o->h'.get? b∣o)->tn i h'
 item:∀(X:Cx),X.prog=P->X.w=w->X.K=K->X.calm=hY->∀i (ij:ZE) s (σ:St) H (E:ZD),Qc X ij σ H s->(∀b∈fp,mQ X ij H b)->tn i s.heap->J.go i H->
  tI (Nf P w) X.A (Qd (.ref it)) (λr s1=>∃u,r∣u/\
   tI (Nf P w) X.A (XB tg (.ref it) u) (λ_ s2=>∃x H',Qc X ij σ H' s2/\aX x u/\J.yld i H x H'/\tn (i+1) s2.heap/\∀b∈fp,H' b=hV) E s1) E s
 done:∀X,X.prog=P->X.w=w->X.K=K->X.calm=hY->∀i ij s (σ:St) H E,Qc X ij σ H s->(∀b∈fp,mQ X ij H b)->tn i s.heap->J.stop i H->
  tI (Nf P w) X.A (Qd (.ref it)) (λr s1=>r=hV/\Qc X ij σ H s1) E s
 self:∀A i s Q E,tn i s.heap->Q (.ref it) s->tI (Nf P w) A (UW (.ref it)) Q E s
noncomputable abbrev TI:=St->Hp->(It->Hp->Prop)->Prop
abbrev PIE(X:Cx)(ij:ZE)(g:St)(h:yu)(R:It->Hp->Prop)(a:kj)(d:mu):Prop:=
 ∃it e f J c,a= .ref it/\Qc X ij g c d/\rB X.prog X.w X.K h J e it f/\f 0 d.heap/\(∀b∈e,mQ X ij c b)/\R J c
abbrev PI(X:Cx)(b iter:yu)(c:TI):Prop:=
 ∀ij s (a:St) H R,Qc X ij a H s->c a H R->
  (X⁻¹) (MZ iter X.env) (λv d=>(X⁻¹) (UW v) (PIE X ij a b R) X.xe d) X.xe s
def si(b:s.heap.get? it∣o)(c:o.cls= .type n)(d:o.data= .fields vs)
 (e:["enumerate","zip","dict_itemiterator","dict_reverseitemiterator","odict_iterator","itertools.zip_longest","itertools.pairwise"].contains n=iv) (a:Q () s):tI M A (XB f (.ref it) u) Q E s:=by
 cases f<;> first
  | show Z3 a
  |(cases u<;> first
   | show Z3 a
   |(show Z2 (TQ b ?_)
     rw[c,d];change tI M A (if(["enumerate","zip","dict_itemiterator","dict_reverseitemiterator","odict_iterator","itertools.zip_longest","itertools.pairwise"].contains n&&vs[0]? ==hX _)=hY then _ else _) Q E s;rw[kw (by intro h;rw[e,OA]at h;cases h)];show Z3 a))
abbrev Itl(K:ZA)(a:ku):It:=
 ⟨λi H=>∃xs x,Qb K H a xs/\xs[i]?∣x,λi H x b=>b=H/\∀xs,Qb K H a xs->xs[i]?∣x,λi H=>∃xs,Qb K H a xs/\ ~~~xs<=i⟩
abbrev Itt(K:ZA)(a:ku):It:=
 ⟨λi H=>∃xs x,SqT K H a xs/\xs[i]?∣x,λi H x b=>b=H/\∀xs,SqT K H a xs->xs[i]?∣x,λi H=>∃xs,SqT K H a xs/\ ~~~xs<=i⟩
abbrev Itr(lo:oT)(n:jg):It:=%[λi _=>i<n,λi H x a=>a=H/\x= .int (lo+i)|λi _=>n<=i]
def sj{P:nY}{K:ZA}(a it:ku):rB P w K tg (Itl K a) [it] it (λi h=>h.IsListIter it a i) where
 mem:=by simp
 obj:=λi h st b hb=>by
  let e:=↑hb
  subst e;let%[o,e,c|d]:=st;show%[o,e|λv z=>by rw[d]at z;cases z]
 keep:=λi h h' st k=>st.at λo e=>k it ∅ o e
 item:=by
  intro X hP hw hK hc i ij s σ H E I hf st hg;subst hP hw hK;let%[xs,x,hq|hx]:=hg;let%[its,rv,p|hz]:=I.list hq;let%[u,hu|ru]:=rv.get hx;let%[f0,f1,f2,f3,f4|f5]:=hf it ∅;show wpAny_pyNext_list_item st p.isList ↑hu λh' st' sb=>?_
  let%[o,e,c|d]:=id st';show%[u,ρ|si e c d (!1) %[x,H,(I.turned (λb o hb e=>(sb.2 b hb).trans e) f0 f1 f3 f4 f5),ru,%[ρ|λys hy=>(I.list_inj hy hq)▸hx],st'|λb hb=>(hf b hb).1]]
 done:=by
  intro X hP hw hK hc i ij s σ H E I hf st hg;subst hP hw hK;let%[xs,hq|hx]:=hg;let%[its,rv,p|hz]:=I.list hq;let%[f0,f1,f2,f3,f4|f5]:=hf it ∅;let hl:= ~~~rv;show wpAny_pyNext_list_end (I.ok.hd hc) st p.isList (by simp;lia) λh' eb=>%[rfl|I.turned (λb o hb e=>eb b o hb e) f0 f1 f3 f4 f5]
 self:=λ_ _ _ _ _ st h=>wpAny_pyIter_listiter st h
def yi{P:nY}{K:ZA}(a it:ku):rB P w K tg (Itt K a) [it] it (λi h=>h.IsTupleIter it a i) where
 mem:=by simp
 obj:=λi h st b hb=>by
  let e:=↑hb
  subst e;let%[o,e,c|d]:=st;show%[o,e|λv z=>by rw[d]at z;cases z]
 keep:=λi h h' st k=>st.at λo e=>k it ∅ o e
 item:=by
  intro X hP hw hK hc i ij s σ H E I hf st hg;subst hP hw hK;let%[xs,x,hq|hx]:=hg;let%[its,rv,p|hz]:=I.tuple hq;let%[u,hu|ru]:=rv.get hx;let%[f0,f1,f2,f3,f4|f5]:=hf it ∅;show wpAny_pyNext_tuple_item st (p) ↑hu λh' st' sb=>?_
  let%[o,e,c|d]:=id st';show%[u,ρ|si e c d (!1) %[x,H,(I.turned (λb o hb e=>(sb.2 b hb).trans e) f0 f1 f3 f4 f5),ru,%[ρ|λys hy=>(I.tuple_inj hy hq)▸hx],st'|λb hb=>(hf b hb).1]]
 done:=by
  intro X hP hw hK hc i ij s σ H E I hf st hg;subst hP hw hK;let%[xs,hq|hx]:=hg;let%[its,rv,p|hz]:=I.tuple hq;let%[f0,f1,f2,f3,f4|f5]:=hf it ∅;let hl:= ~~~rv;show wpAny_pyNext_tuple_end (I.ok.hd hc) st (p) (by simp;lia) λh' eb=>%[rfl|I.turned (λb o hb e=>eb b o hb e) f0 f1 f3 f4 f5]
 self:=λ_ _ _ _ _ st h=>wpAny_pyIter_tupleiter st h
def yj{P:nY}{K:ZA}(it:ku)(lo:oT)(n:jg):rB P w K tg (Itr lo n) [it] it (λi h=>IsRangeIter h it (lo+(i:jg)*1) ((n:oT) -(i:jg)) 1) where
 mem:=by simp
 obj:=λi h st b hb=>by
  simp_all
 keep:=λi h h' st k=>k it ∅ _ st
 item:=by
  intro X hP hw hK hc i ij s σ H E I hf st hg;subst hP hw hK;let%[f0,f1,f2,f3,f4|f5]:=hf it ∅;show(Walks.range (prog:=X.prog) (w:=X.w) (I.ok.hd hc) it lo 1 n).item i s _ _ hg st λv h' tk hv st' kk=>?_
  let%[t|rfl]:=hv;show%[_,ρ|si st' rfl rfl (!1) %[.int _,H,(I.turned (λb o hb e=>kk b o ↑hb e) f0 f1 f3 f4 f5),%[t|?_],%[ρ|ρ],st'|λb hb=>(hf b hb).1]];rw[oT.mul_one]
 done:=by
  intro X hP hw hK hc i ij s σ H E I hf st hg;let%[f0,f1,f2,f3,f4|f5]:=hf it ∅;show wpAny_pyNext_range_end (I.ok.hd hc) st (by let:n<=i:=hg;lia) λh' eb=>%[rfl|I.turned (λb o hb e=>eb b o hb e) f0 f1 f3 f4 f5]
 self:=λ_ _ _ _ _ st h=>wpAny_pyIter_rangeiter st h
section
variable{X:Cx}{tg:yu}
def v6{R:It->Hp->Prop}{lo hi:oT}(I:Qc X ij c H s)(d: -(2^62)<=lo)(f:lo<2^62)(g: -(2^62)<=hi)(h:hi<2^62)
 (q:R (Itr lo (hi-lo).toNat) H):(X⁻¹) (UW (.ref ⇑s)) (PIE X ij c tg R) E {s with heap:=s.heap.push {cls:= .type "range",data:= .fields #[.int lo t,.int hi u,.int 1 v]},toks:=tk}:=by
 show wpAny_pyIter_range (IsRange.new ..) (small_one d f g h) ?_;let a:Qc X ij c H {s with heap:=s.heap.push {cls:= .type "range",data:= .fields #[.int lo t,.int hi u,.int 1 v]},toks:=tk}:=I.kept λb o e=>Z7 _ e
 show%[(s.heap.push _).objs.size,[(s.heap.push _).objs.size],_,_,H,ρ,
  a.kept λb o e=>Z7 _ e,yj _ lo _,?_,λb i=>?_|q]
 .let j:lo+((0:jg))*1=lo:=by simp
  let l:(((hi-lo).toNat)) -((0:jg))=Xy lo hi 1:=by rw[rangeSize_one];split<;> lia
  rw[j,l];show Zj _ rfl
 .let e:b=(s.heap.push {cls:= .type "range",data:= .fields #[.int lo t,.int hi u,.int 1 v]}).objs.size:=↑i
  subst e;show a.fpOk (Zi _) (a.hok.fresh (Zi _))
abbrev CQ(a:TA):TI:=λb H R=>a b H λvs c=>db vs λd=>asI d λj=> -(2^62)<=j/\j<2^62/\R (Itr 0 j.toNat) c
abbrev CS(a:TA):TI:=λb H R=>a b H λvs c=>mO vs λd x2=>asI d λi=>asI x2 λj=>(-(2^62)<=i/\i<2^62/\ -(2^62)<=j/\j<2^62)/\R (Itr i (j-i).toNat) c
def Bm{a:yu}(e:Gl X "range")(f:X.mg "range"=hV)(g:PA X [a] i)(l:vi [a] X.env=[(iv,MZ a X.env)]):PI X tg (.Call (.Name "range" p) [a] [] pos) (CQ i):=by
 intro ij s m H R I h;show Call_ (jv I e f boot_range (MS (thP (g pos ij s m H _ I h) λus v vs w n o b=>?_) l rfl));let%[y,rfl|c]:=cc b;let%[j,rfl|d]:=dC c;let%[b,u|q]:=d;cases o with
 | cons r rr=>
   cases rr;let%[t|rfl]:=r;show call_range_1 (v6 n ⋯ ⋯ b u ↑q)
def Bn(l:Gl X "range")(m:X.mg "range"=hV)(n:PA X [a,b] o)(u:vi [a,b] X.env=[(iv,MZ a X.env),(iv,MZ b X.env)])(c:vi [b] X.env=[(iv,MZ b X.env)]):
 PI X tg (.Call (.Name "range" p) [a,b] [] pos) (CS o):=by
 intro ij s v H R I h;show Call_ (jv I l m boot_range (MS (thP (n pos ij s v H _ I h) λus E vs G w y d=>?_) (by rw[u,c]) (by rw[c];rfl)));let%[J,x2,rfl|e]:=ju d;let%[i,rfl|f]:=dC e;let%[j,rfl|g]:=dC f;let%[%[d,z,A|B]|q]:=g;cases y with
 | cons r rr=>
   cases rr with
   | cons C rr=>
     cases rr;let%[t|rfl]:=r;let%[t'|rfl]:=C;show call_range_2 (v6 w d z A B q)
abbrev uG(f:TI)(g:TG)(h:TS):TS:=λD a H=>f a H λJ j=>∃W:jg->jg->St->Hp->Prop,(∃m,W 0 m a j)/\∀i m a H,W i m a H->
 (J.stop i H/\D.nx a H)\/(J.go i H/\∃N:St->Hp->Prop,(∀b c,N b c->∃e,e<m/\W (i+1) e b c)/\∀x c,J.yld i H x c->g x a c λd l=>h {D with nx:=N,ct:=N,bk:=D.nx} d l)
abbrev uH(a:hH ku)(h:xl):ZE:=a.filterMap λb=>(h.get? b).map λo=>(b,o)
def fQ(a:b∈c)(e:h.get? b∣o):(b,o)∈uH c h:=M6.mpr %[b,a|by rw[e];rfl]
def Bo(a:p∈uH c h):p.1∈c/\h.get? p.1∣p.2:=by
 let%[b,d|e]:=M6.mp a;cases q:h.get? b with
 | none=>simp_all
 | some o=>
   rw[q]at e;let f:=Za e;subst f;show%[d|q]
def Qc.pinned(I:Qc X ij g H s)(h:∀b∈a,mQ X ij H b)(i:∀b∈a,∃o,s.heap.get? b∣o/\∀v,o.data≠ .cell v):Qc X (ij++uH a s.heap) g H s:=
 I.pins_of λp j=>(Xn j).elim (λz=>I.pin p (Yv _ z)) λz=>by
  let%[c|e]:=Bo z;let%[l,m,n|_]:=h p.1 c;let%[o,f|d]:=i p.1 c;rw[e]at f;cases f;show%[e,l,m,n|d]
def Qc.unpinned(I:Qc X (ij++pl) a H s):Qc X ij a H s:=I.pins_of λp b=>I.pin p (Yv _ (Yu _ b))
def IJ(B:PX (Nf X.prog X.w) X.A X.env X.xe)(hc:X.calm=hY)(hi:PI X tg iter wi)(hg:PG X tg g)(c:PSs X C tb)
 (hs:∀x,O2 iter X.env x=pure x):PS X (.For tg iter C [] pos) (uG wi g tb):=by
 intro ij s σ H D I h;show wpAny_For (thn (hi ij s σ H _ I h) λv s1 h1=>thn h1 λae s2 h2=>?_) hs;let%[it,O,tn,J,H2,e,I2,T,U,f2,W,%[m0|w0]|E]:=h2;subst e;let j:∀{y:Hp},(∀b∈O,y b=hV)->∀b∈O,mQ X ij y b:=λhn b c=>%[hn b c|(f2 b c).2]
 show codeAny_forLoop_any (λn s'=>∃i l y,Qc X ij l y s'/\tn i s'.heap/\(∀b∈O,y b=hV)/\W i n l y) ?_ m0 %[0,σ,H2,I2,U,λb c=>(f2 b c).1|w0];intro n s3 %[i,p,Q,I3,G,L|w3];rcases E i n p Q w3 with⟨stop,qn⟩|⟨go,N,hN,step⟩
 .show N6 B (thn (T.done X rfl rfl rfl hc i ij s3 p Q X.xe I3 (j L) G stop) λr s4 ⟨Y,I4⟩=>?_);subst Y;show Ot %[p,Q,I4|qn]
 .show N6 B (thn (T.item X rfl rfl rfl hc i ij s3 p Q X.xe I3 (j L) G go) λr s4 ⟨u,Y,h4⟩=>?_);subst Y;show N6 B (thn h4 λ_ s5 ⟨x,H5,I5,r5,y5,A,ab⟩=>N6 B (thn (hg _ s5 p H5 x u _ (I5.pinned (j ab) (T.obj _ _ A)) r5 (step x H5 y5)) λ_ s6 ⟨ac,H6,I6,q6⟩=>N6 B (thn (c _ s6 ac H6 _ I6 q6) λf s7 z=>?_)));let again:∀{a:St} {q:Hp},Qc X _ a q s7->N a q->∃m,m<n/\∃i l y,Qc X ij l y s7/\tn i s7.heap/\(∀b∈O,y b=hV)/\W i m l y:=λ{a q} w M=>by
   let%[m',hm|w7]:=hN a q M;show%[m',hm,i+1,a,q,w.unpinned,T.keep _ _ _ A λb c o e=>(w.pin _ (Yv _ (Yv _ (fQ c e)))).1,λb c=>?_|w7];let%[o,e|d]:=T.obj _ _ A b c;show(w.pin _ (Yv _ (Yv _ (fQ c e)))).2.1
  cases f with
  | next=>have%[a,q,w|M]:=z;show again w M
  | cont=>have%[a,q,w|M]:=z;show again w M
  | brk=>have%[a,q,w|z]:=z;show%[a,q,w.unpinned|z]
  | ret v=>have%[x7,a,q,w,r7|z]:=z;show%[x7,a,q,w.unpinned,r7|z]
end
def eP{K:ZA}{g:TG}{l:TS}{D:jr}(Pv:jg->St->Hp->Prop)(o:Pv 0 b H)(r:∀i b H,i<= ~~~xs->Pv i b H->Qb K H a xs)
 (s:∀i x b H,xs[i]?∣x->Pv i b H->g x b H λc h=>l {D with nx:=Pv (i+1),ct:=Pv (i+1),bk:=D.nx} c h) (u:∀b H,Pv xs.length b H->D.nx b H):
 ∃W:jg->jg->St->Hp->Prop,(∃m,W 0 m b H)/\∀i m b H,W i m b H->
  ((Itl K a).stop i H/\D.nx b H)\/((Itl K a).go i H/\∃N:St->Hp->Prop,(∀d f,N d f->∃n,n<m/\W (i+1) n d f)/\∀x f,(Itl K a).yld i H x f->g x b f λc h=>l {D with nx:=N,ct:=N,bk:=D.nx} c h):=by
 show%[λi m b H=>m= ~~~xs-i/\i<= ~~~xs/\Pv i b H,%[~~~xs,by simp,Xf _|o]|?_];intro i m b H %[rfl,hi|p];let q:=r i b H hi p;by_cases j:i< ~~~xs
 .show .inr %[%[xs,xs[i],q|by simp],Pv _,λd f v=>%[~~~xs-(i+1),⋯,rfl,j|v]|λx f y=>?_];let%[e|y]:=y;subst e;show s i x b _ (y xs q) p
 .let e:i= ~~~xs:=by lia
  subst e;show .inl %[%[xs,q|Zi _]|u b H p]
def cK{lo:oT}{g:TG}{j:TS}{D:jr}(Pv:jg->St->Hp->Prop)(o:Pv 0 a H)
 (q:∀i a H,i<n->Pv i a H->g (.int (lo+i)) a H λb h=>j {D with nx:=Pv (i+1),ct:=Pv (i+1),bk:=D.nx} b h) (r:∀a H,Pv n a H->D.nx a H):
 ∃W:jg->jg->St->Hp->Prop,(∃m,W 0 m a H)/\∀i m a H,W i m a H->
  ((Itr lo n).stop i H/\D.nx a H)\/((Itr lo n).go i H/\∃N:St->Hp->Prop,(∀c d,N c d->∃l,l<m/\W (i+1) l c d)/\∀x d,(Itr lo n).yld i H x d->g x a d λb h=>j {D with nx:=N,ct:=N,bk:=D.nx} b h):=by
 show%[λi m a H=>m=n-i/\i<=n/\Pv i a H,%[n,by simp,Xf _|o]|?_];intro i m a H %[rfl,hi|p];by_cases f:i<n
 .show .inr %[f,Pv _,λc d s=>%[n-(i+1),⋯,rfl,f|s]|λx d y=>?_];let%[e|y]:=y;subst e y;show q i a _ f p
 .let e:i=n:=by lia
  subst e;show .inl %[Zi _|r a H p]
noncomputable abbrev R2:=V->V->Hp->VK->Prop
abbrev OpR(X:Cx)(f:kj->kj->Sem kj)(r:R2):Prop:=
 ∀ij s (a:St) H x y v u Q,Qc X ij a H s->aX x v->aX y u->r x y H Q->
  (X⁻¹) (f v u) (EP X ij a Q) X.xe s
abbrev UnR(X:Cx)(f:kj->Sem kj)(r:V->Hp->VK->Prop):Prop:=
 ∀ij s (a:St) H x v Q,Qc X ij a H s->aX x v->r x H Q->
  (X⁻¹) (f v) (EP X ij a Q) X.xe s
abbrev cE(X:Cx)(f:kj)(r:hH V->Hp->VK->Prop):Prop:=
 ∀ij s (a:St) H xs us Q,Qc X ij a H s->aM xs us->r xs H Q->
  (X⁻¹) (call f us) (EP X ij a Q) X.xe s
abbrev TruR(X:Cx)(r:V->Hp->(ri->Hp->Prop)->Prop):Prop:=
 ∀ij s (a:St) H x v Q,Qc X ij a H s->aX x v->r x H Q->
  (X⁻¹) (UO v) (TP X ij a Q) X.xe s
abbrev tOp(r:R2)(b c:TE):TE:=λa H Q=>b a H λx d=>c a d λy e=>r x y e Q
abbrev tUn(r:V->Hp->VK->Prop)(a:TE):TE:=λb H Q=>a b H λx c=>r x c Q
abbrev rI(C:oT->oT->Prop)(g:oT->oT->V):R2:=λx y H Q=>asI x λi=>asI y λj=>C i j/\Q (g i j) H
abbrev rI0(g:oT->oT->V):R2:=λx y H Q=>asI x λi=>asI y λj=>Q (g i j) H
abbrev rU(g:oT->V):V->Hp->VK->Prop:=λx H Q=>asI x λi=>Q (g i) H
section
variable{X:Cx}{a b c:yu}{ta tb tc:TE}{pos:Pos}
def IK(m:PE X a ta)(n:PE X b tb){ij:hH _}{s:mu}{d:St}{H:Hp}{R:V->V->Hp->Prop}(I:Qc X ij d H s)
 (h:ta d H λx l=>tb d l λy e=>R x y e) {Q:ZD} {f:kj->kj->Sem kj}
 (o:∀v u j x y e,Qc X ij d e j->aX x v->aX y u->R x y e->(X⁻¹) (f v u) Q X.xe j):
 (X⁻¹) (MZ a X.env) (λv g=>(X⁻¹) (MZ b X.env) (λu i=>(X⁻¹) (f v u) Q X.xe i) X.xe g) X.xe s:=by
 show thP (m ij s d H _ I h) λv p x l q r w=>thP (n ij p d l _ q w) λu j y e z A B=>o v u j x y e z r A B
def Lb{r:R2}(d:OpR X (M7 op) r)(e:PE X a ta)(f:PE X b tb):PE X (.BinOp a op b pos) (tOp r ta tb):=by
 intro ij s g H Q I h;show wpAny_BinOp (IK e f I h λv u i x y j l m n q=>d ij i g j x y v u Q l m n q)
def Lc(e:UnR X (unaryOp op) r)(f:PE X a ta):PE X (.UnaryOp op a pos) (tUn r ta):=by
 intro ij s d H Q I h;show UnaryOp_ (thP (f ij s d H _ I h) λv g x i j l m=>e ij g d i x v Q j l m)
def opI{f:kj->kj->Sem kj}{C:oT->oT->Prop}{g:oT->oT->oT}
 (Ru:∀i j t u s Q E,C i j->Q (.int (g i j) s.toks) {s with toks:=s.toks+1}->(X⁻¹) (f (.int i t) (.int j u)) Q E s):
 OpR X f (rI C λi j=> .int (g i j)):=by
 intro ij s n H x y v u Q I d e h;let%[i,rfl|l]:=dC h;let%[j,rfl,m|q]:=dC l;let%[t|rfl]:=d;let%[t'|rfl]:=e;show Ru i j t t' s _ _ m %[.int _,H,I.tok _,%[_|rfl]|q]
def Ld{g:oT->oT->oT}
 (Ru:∀(i j:oT) (t u:Tok) (s:mu) (Q:ZD) (E:ZD),Q (.int (g i j) s.toks) {s with toks:=s.toks+1}->(X⁻¹) (f (.int i t) (.int j u)) Q E s):
 OpR X f (rI0 λi j=> .int (g i j)):=by
 intro ij s m H x y v u Q I d e h;let%[i,rfl|l]:=dC h;let%[j,rfl|q]:=dC l;let%[t|rfl]:=d;let%[t'|rfl]:=e;show Ru i j t t' s _ _ %[.int _,H,I.tok _,%[_|rfl]|q]
def IL{g:oT->oT->ri}
 (Ru:∀(i j:oT) (t u:Tok) (s:mu) (Q:ZD) (E:ZD),Q (.bool (g i j)) s->(X⁻¹) (f (.int i t) (.int j u)) Q E s):
 OpR X f (rI0 λi j=> .bl (g i j)):=by
 intro ij s m H x y v u Q I d e h;let%[i,rfl|l]:=dC h;let%[j,rfl|q]:=dC l;let%[t|rfl]:=d;let%[t'|rfl]:=e;show Ru i j t t' s _ _ %[.bl _,H,I,rfl|q]
abbrev Le(i j:oT):Prop:=0<j/\j<1073741824
abbrev CT(i j:oT):Prop:=(-(2^64)<i/\i<2^64)\/(-(2^64)<j/\j<2^64)
def CT.ok{i j:oT}(h:CT i j):IntMulOk i j:=by
 rcases h with⟨d,e⟩|⟨d,e⟩
 .show .of_left (intBits_le_64 d e)
 .show .of_right (intBits_le_64 d e)
def IM:OpR X (M7 .Add) (rI0 λi j=> .int (i+j)):=Ld λ_ _ _ _ _ _ _ q=>add_int q
def IP:OpR X (M7 .Sub) (rI0 λi j=> .int (i-j)):=Ld λ_ _ _ _ _ _ _ q=>sub_int q
def CU:OpR X (M7 .Mult) (rI CT λi j=> .int (i*j)):=opI λ_ _ _ _ _ _ _ d q=>mul_int q d.ok
def FW:OpR X (M7 .FloorDiv) (rI Le λi j=> .int (i/j)):=opI λi j _ _ _ _ _ d q=>by
 let e:(0:oT)<j:=d.1;let f:j<1073741824:=d.2;show floordiv_int ⋯ (by rw[oT.fdiv_eq_ediv_of_nonneg i ⋯];show q) (.inl (PyProof.noPylong_small ⋯))
def IQ:OpR X (M7 .Mod) (rI (λ_ j=>0<j) λi j=> .int (i%j)):=opI λi j _ _ _ _ _ d q=>by
 let e:(0:oT)<j:=d;show mod_int' ⋯ (by rw[oT.fmod_eq_emod_of_nonneg i ⋯];show q)
def unI{g:oT->oT}
 (Ru:∀(i:oT) (t:Tok) (s:mu) (Q:ZD) (E:ZD),Q (.int (g i) s.toks) {s with toks:=s.toks+1}->(X⁻¹) (f (.int i t)) Q E s):
 UnR X f (rU λi=> .int (g i)):=by
 intro ij s e H x v Q I d h;let%[i,rfl|q]:=dC h;let%[t|rfl]:=d;show Ru i t s _ _ %[.int _,H,I.tok _,%[_|rfl]|q]
def IR:UnR X (unaryOp .USub) (rU λi=> .int (-i)):=unI λ_ _ _ _ _ q=>neg_int q
end
abbrev IS(x y:V):ri:=match x with
 | .non=>(match y with| .non=>hY| .int _=>hY| .bl _=>hY| .str _=>hY|_=>iv)
 | .int _=>(match y with| .non=>hY| .int _=>hY| .str _=>hY|_=>iv)
 | .bl _=>(match y with| .non=>hY| .bl _=>hY| .str _=>hY|_=>iv)
 | .str _=>(match y with| .non=>hY| .int _=>hY| .bl _=>hY| .str _=>hY|_=>iv)
 | .byt _=>(match y with| .byt _=>hY|_=>iv)
 | _=>iv
abbrev rEq:R2:=λx y H Q=>IS x y=hY/\Q (.bl (decide (x=y))) H
abbrev rNe:R2:=λx y H Q=>IS x y=hY/\Q (.bl (!decide (x=y))) H
def zS:decide (V.int i=V.int j)=(i==j):=by
 rw[NW];simp
def CV:decide (V.bl i=V.bl j)=(i==j):=by
 rw[NW];simp
def zT:decide (V.str i=V.str j)=(i==j):=by
 rw[NW];simp
def zU:decide (V.byt i=V.byt j)=(i.toList==j.toList):=by
 rw[NW]
 simp_all
section
variable{X:Cx}{a b c:yu}{ta tb tc:TE}{pos:Pos}
def bd(I:Qc X ij d H s)(q:Q (.bl k) H)(e:k=f):EP X ij d Q (.bool f) s:=by
 subst e;show%[.bl k,H,I,ρ|q]
def HB:OpR X (pp .Eq) rEq:=by
 intro ij s g H x y v u Q I f d h;let%[e|q]:=h;cases x with
 | non=>
   cases f;cases y with
   | non=>cases d;show PySem.EqNone.eq_none_none (bd I q ∅)
   | bl j=>cases d;show PySem.EqNone.eq_none_bool (bd I q ∅)
   | int j=>have%[t'|rfl]:=d;show PySem.EqNone.eq_none_int (bd I q ∅)
   | str j=>have%[t'|rfl]:=d;show PySem.EqNone.eq_none_str (bd I q ∅)
   | _=>show n0 (show iv=hY from e) Zt
 | bl i=>
   cases f;cases y with
   | non=>cases d;show PySem.EqNone.eq_bool_none (bd I q ∅)
   | bl j=>cases d;show eq_bool (bd I q CV)
   | str j=>have%[t'|rfl]:=d;show PySem.EqMixed.eq_bool_str (bd I q ∅)
   | _=>show n0 (show iv=hY from e) Zt
 | int i=>
   let%[t|rfl]:=f;cases y with
   | non=>cases d;show PySem.EqNone.eq_int_none (bd I q ∅)
   | int j=>have%[t'|rfl]:=d;show eq_int (bd I q zS)
   | str j=>have%[t'|rfl]:=d;show PySem.EqMixed.eq_int_str (bd I q ∅)
   | _=>show n0 (show iv=hY from e) Zt
 | str i=>
   let%[t|rfl]:=f;cases y with
   | non=>cases d;show PySem.EqNone.eq_str_none (bd I q ∅)
   | bl j=>cases d;show PySem.EqMixed.eq_str_bool (bd I q ∅)
   | int j=>have%[t'|rfl]:=d;show PySem.EqMixed.eq_str_int (bd I q ∅)
   | str j=>have%[t'|rfl]:=d;show eq_str (bd I q zT)
   | _=>show n0 (show iv=hY from e) Zt
 | byt i=>
   let%[t|rfl]:=f;cases y with
   | byt j=>have%[t'|rfl]:=d;show PySem.W.eq_bytes (bd I q zU)
   | _=>show n0 (show iv=hY from e) Zt
 | _=>cases y<;> show n0 (show iv=hY from e) Zt
def zV:OpR X (pp .NotEq) rNe:=by
 intro ij s g H x y v u Q I f d h;let%[e|q]:=h;cases x with
 | non=>
   cases f;cases y with
   | non=>cases d;show PySem.EqNone.ne_none_none (bd I q ∅)
   | bl j=>cases d;show PySem.EqNone.ne_none_bool (bd I q ∅)
   | int j=>have%[t'|rfl]:=d;show PySem.EqNone.ne_none_int (bd I q ∅)
   | str j=>have%[t'|rfl]:=d;show PySem.EqNone.ne_none_str (bd I q ∅)
   | _=>show n0 (show iv=hY from e) Zt
 | bl i=>
   cases f;cases y with
   | non=>cases d;show PySem.EqNone.ne_bool_none (bd I q ∅)
   | bl j=>cases d;show ne_bool (bd I q (sU not CV))
   | str j=>have%[t'|rfl]:=d;show PySem.EqMixed.ne_bool_str (bd I q ∅)
   | _=>show n0 (show iv=hY from e) Zt
 | int i=>
   let%[t|rfl]:=f;cases y with
   | non=>cases d;show PySem.EqNone.ne_int_none (bd I q ∅)
   | int j=>have%[t'|rfl]:=d;show ne_int (bd I q (sU not zS))
   | str j=>have%[t'|rfl]:=d;show PySem.EqMixed.ne_int_str (bd I q ∅)
   | _=>show n0 (show iv=hY from e) Zt
 | str i=>
   let%[t|rfl]:=f;cases y with
   | non=>cases d;show PySem.EqNone.ne_str_none (bd I q ∅)
   | bl j=>cases d;show PySem.EqMixed.ne_str_bool (bd I q ∅)
   | int j=>have%[t'|rfl]:=d;show PySem.EqMixed.ne_str_int (bd I q ∅)
   | str j=>have%[t'|rfl]:=d;show ne_str (bd I q (sU not zT))
   | _=>show n0 (show iv=hY from e) Zt
 | byt i=>
   let%[t|rfl]:=f;cases y with
   | byt j=>have%[t'|rfl]:=d;show PySem.W.ne_bytes (bd I q (sU not zU))
   | _=>show n0 (show iv=hY from e) Zt
 | _=>cases y<;> show n0 (show iv=hY from e) Zt
def Lf:OpR X (pp .Lt) (rI0 λi j=> .bl (decide (i<j))):=IL λ_ _ _ _ _ _ _ q=>lt_int q
def Lg:OpR X (pp .LtE) (rI0 λi j=> .bl (decide (i<=j))):=IL λ_ _ _ _ _ _ _ q=>le_int q
def Lh:OpR X (pp .Gt) (rI0 λi j=> .bl (decide (j<i))):=IL λ_ _ _ _ _ _ _ q=>gt_int q
def sr:OpR X (pp .In) (λx y H Q=>asS x λi=>asS y λj=>Q (.bl (!(J0 j i 0 j.length 1).isEmpty)) H):=by
 intro ij s l H x y v u Q I f g h;let%[i,rfl|d]:=eO h;let%[j,rfl|e]:=eO d;let q:=e;let%[t|rfl]:=f;let%[t'|rfl]:=g;show in_str (bd I q rfl)
def IT:OpR X (pp .Is) (λx y H Q=>y= .non/\Q (.bl (decide (x= .non))) H):=by
 intro ij s f H x y v u Q I d e h;let%[rfl|q]:=h;cases e;show is_none_gen (bd I q ?_);cases x<;> first
  | lia
  |(have%[t|rfl]:=d;rfl)
def FX:OpR X (pp .IsNot) (λx y H Q=>y= .non/\Q (.bl (!decide (x= .non))) H):=by
 intro ij s f H x y v u Q I d e h;let%[rfl|q]:=h;cases e;show isnot_none_gen (bd I q ?_);cases x<;> first
  | lia
  |(have%[t|rfl]:=d;rfl)
def OpR.or(h:OpR X f r)(h':OpR X f i):OpR X f (λx y H Q=>r x y H Q\/i x y H Q):=by
 intro ij s d H x y v u Q I e g q;rcases q with q|q
 .show h ij s d H x y v u Q I e g q
 .show h' ij s d H x y v u Q I e g q
def nomark(b:yu)(h:op≠ .In)(f:op≠ .NotIn):MY op b=iv:=by
 let d:(op==VO.In)=iv:=by lia
 let e:(op==WN)=iv:=by lia
 cases b<;> simp[MY,d,e]
def FY{r:R2}(d:OpR X (pp op) r)(e:PE X a ta)(f:PE X b tb)(g:MY op b=iv):PE X (.Compare a [op] [b] pos) (tOp r ta tb):=by
 intro ij s i H Q I h;show wpAny_Compare1 (IK e f I h λv u j x y l m n o q=>d ij j i l x y v u Q m n o q) g
abbrev v7(t:TE):TT:=λd H Q=>t d H λx e=>asB x λk=>Q k e
def FZ(f:OpR X (pp op) r)(g:PE X a ta)(i:PE X b tb)(j:MY op b=iv):PT X (.Compare a [op] [b] pos) (v7 (tOp r ta tb)):=by
 intro ij s d H Q I h;show Vc (thP (g ij s d H _ I h) λv l x m n o p=>thP (i ij l d m _ n p) λu q y w A B C=>
  thP (f ij q d w x y v u _ A o B C) λc L z E G J e=>?_) j
 let%[k,rfl|e]:=sf e;cases J;show Nn %[E,G|e]
abbrev yk(r f:R2)(ta tb tc:TE):TE:=λd H Q=>ta d H λx g=>tb d g λy h=>r x y h λz e=>asB z λk=>
 (if k=hY then tc d e λi j=>f y i j Q else Q (.bl iv) e)
def CW(n:OpR X (pp op) r)(i:OpR X (pp e) o)(p:PE X a ta)(q:PE X b tb)(w:PE X c tc)
 (A:lastMarks [op,e] [b,c]=iv):PE X (.Compare a [op,e] [b,c] pos) (yk r o ta tb tc):=by
 intro ij s f H Q I h;show Compare_chain (thP (p ij s f H _ I h) λv B x C E G J=>chain_link (thP (q ij B f C _ E J) λu L y M N j O=>
  thP (n ij L f M x y v u _ N G j O) λd T z l m U g=>?_)) A
 let%[k,rfl|g]:=sf g;cases U;show Nn ?_;cases k with
 | false=>show ite_ff %[.bl iv,l,m,rfl|g]
 | true=>show ite_tt (chain_last (thP (w ij T f l _ m g) λY s4 z' H4 I4 r4 q4=>i ij s4 f H4 y z' u Y Q I4 j r4 q4))
abbrev Bp(K:ZA)(x:V)(H:Hp)(k:ri):Prop:=
 match x with
 | .non=>k=iv
 | .bl b=>k=b
 | .int i=>k=(i != 0)
 | .str y=> ~~~y<=md/\k=((~~~y:oT) != 0)
 | .byt y=>y.size<=md/\k=((y.size:oT) != 0)
 | .ref p=>(∃xs,Qb K H p xs/\k=!xs.isEmpty)\/(∃xs,SqT K H p xs/\k=!xs.isEmpty)\/∃d,H p∣.dK d/\k=!d.isEmpty
 | _=>J5
def yp{e:Type}{d:hH (e×V)}{vs:hH _}(r:KV d vs):(!vs.isEmpty)=!d.isEmpty:=by
 cases r<;> rfl
def oW(r:aM xs its):(!its.toArray.isEmpty)=!xs.isEmpty:=by
 cases r<;> simp
def uI:md<2^63:=!1
def IU:TruR X (λx H Q=>∃k,Bp X.K x H k/\Q k H):=by
 intro ij s w H x v Q I j h;let%[k,e|q]:=h;let z:=uI;let A:md=16777216:=MN;cases x with
 | non=>
   cases j;let d:k=iv:=e;subst d;show truthy_none %[H,I|q]
 | bl b=>
   cases j;let d:k=b:=e;subst d;show Nn %[H,I|q]
 | int i=>
   let%[t|rfl]:=j;let d:k=(i != 0):=e;subst d;show PySem.P.truthy_int %[H,I|q]
 | str y=>
   let%[t|rfl]:=j;obtain⟨o,d⟩: ~~~y<=md/\k=((~~~y:oT) != 0):=e;subst d;show PySem.P.truthy_str ⋯ %[H,I.tok _|q]
 | byt y=>
   let%[t|rfl]:=j;obtain⟨o,d⟩:y.size<=md/\k=((y.size:oT) != 0):=e;subst d;show PySem.W.truthy_bytes ⋯ %[H,I.tok _|q]
 | ref p=>
   cases j;let d:(∃xs,Qb X.K H p xs/\k=!xs.isEmpty)\/(∃xs,SqT X.K H p xs/\k=!xs.isEmpty)\/∃f,H p∣.dK f/\k=!f.isEmpty:=e;rcases d with⟨xs,l,d⟩|⟨xs,l,d⟩|⟨f,l,d⟩
   .subst d;let%[its,r,pl|n]:=I.list l;let g:= ~~~r;show wpAny_truthy_list pl.isList (by simp only[Zp];lia) %[H,I.tok _|(oW r)▸q]
   .subst d;let%[its,r,pl|n]:=I.tuple l;let g:= ~~~r;show truthy_tuple pl (by simp only[Zp];lia) %[H,I.tok _|(oW r)▸q]
   .subst d;obtain⟨n,u,vs,r,m⟩: ~~~f<=md/\(p==Nr)=iv/\∃vs,KV f vs/\s.heap.DictOf (aT X.prog X.w) p vs:=I.hok p _ l;let g: ~~~f= ~~~vs:=Paired.length r;show wpAny_truthy_dict u m ⋯ %[H,I.tok _|(yp r)▸q]
 | _=>show(show J5 from e).elim
def CY(g:PE X a ta)(i:∀d,S6 a X.env d=(do let v<-d;Pk a.pos;PF [v] (UO v))):
 PT X a (λe H Q=>ta e H λx f=>∃k,Bp X.K x f k/\Q k f):=by
 intro ij s e H Q I h;show isTrue_plain (thP (g ij s e H _ I h) λv j x l m n o=>IU ij j e l x v Q m n o) (i _)
def yq:OpR X (M7 .Add) (λx y H Q=>asS x λi=>asS y λj=> ~~~i+ ~~~j<=md/\Q (.str (i++j)) H):=by
 intro ij s m H x y v u Q I f g h;let%[i,rfl|d]:=eO h;let%[j,rfl|e]:=eO d;let%[l|q]:=e;let%[t|rfl]:=f;let%[t'|rfl]:=g;show add_str (λt' tk=>%[.str _,H,I.tok _,%[_|rfl]|q]) l
def dD(r:aM [x] us):∃u,us=[u]/\aX x u:=by
 cases r with
 | cons d e=>cases e;show%[_,ρ|d]
def lq(r:aM [x,y] us):∃u d,us=[u,d]/\aX x u/\aX y d:=by
 cases r with
 | cons e f=>
   cases f with
   | cons g h=>cases h;show%[_,_,ρ,e|g]
def Bq(m:X.calm=hY):cE X (.builtin "min") (λxs H Q=>mO xs λl x2=>asI l λi=>asI x2 λj=>Q (.int (if j<i then j else i)) H):=by
 intro ij s n H xs us Q I r h;let%[l,x2,rfl|e]:=ju h;let%[i,rfl|f]:=dC e;let%[j,rfl|g]:=dC f;let q:=g;let%[u,o,rfl,%[t|rfl],t'|rfl]:=lq r;show min_two_ints (I.ok.hd m) λh' tk k=>%[_,H,I.kept k,?_|q]
 by_cases d:j<i
 .rw[lX d,lX d];show%[_|ρ]
 .rw[kw d,kw d];show%[_|ρ]
def Br:cE X (.type "int") (λxs H Q=>(∃i,xs=[.int i]/\Q (.int i) H)\/∃k,xs=[.bl k]/\Q (.int (if k then 1 else 0)) H):=by
 intro ij s e H xs us Q I r h;rcases h with⟨i,rfl,q⟩|⟨k,rfl,q⟩
 .let%[u,rfl,t|rfl]:=dD r;show call_int_int %[.int i,H,I,%[_|rfl]|q]
 .let%[u,rfl|d]:=dD r;cases d;show call_int_bool %[.int _,H,I.tok _,%[_|rfl]|q]
def uJ:cE X (.type "str") (λxs H Q=>db xs λf=>asI f λi=>i.natAbs.log2<1920/\Q (.str (toString i)) H):=by
 intro ij s j H xs us Q I r h;let%[f,rfl|d]:=cc h;let%[i,rfl|e]:=dC d;let%[g|q]:=e;let%[u,rfl,t|rfl]:=dD r;show PySem.P.str_of_int g %[.str _,H,I.tok _,%[_|rfl]|q]
abbrev F0(K:ZA)(x:V)(H:Hp)(n:jg):Prop:=
 match x with
 | .str y=> ~~~y<=md/\n= ~~~y
 | .byt y=>y.size<=md/\n=y.size
 | .ref p=>(∃xs,Qb K H p xs/\n= ~~~xs)\/∃xs,SqT K H p xs/\n= ~~~xs
 | _=>J5
def CZ:cE X (.builtin "len") (λxs H Q=>db xs λx=>∃n,F0 X.K x H n/\Q (.int n) H):=by
 intro ij s v H xs us Q I r h;let%[x,rfl|g]:=cc h;let%[n,e|q]:=g;let%[u,rfl|i]:=dD r;let w:=MN;cases x with
 | str y=>
   let%[t|rfl]:=i;obtain⟨m,f⟩: ~~~y<=md/\n= ~~~y:=e;subst f;show len_str ⋯ %[.int _,H,I.tok _,%[_|rfl]|q]
 | byt y=>
   let%[t|rfl]:=i;obtain⟨m,f⟩:y.size<=md/\n=y.size:=e;subst f;show PySem.W.len_bytes ⋯ %[.int _,H,I.tok _,%[_|rfl]|q]
 | ref p=>
   cases i;let f:=e;rcases f with⟨xs,j,f⟩|⟨xs,j,f⟩
   .subst f;let%[its,l,pl|o]:=I.list j;let d:= ~~~l;show Calls.call_len_list pl.isList (by simp only[Zp];lia) %[.int xs.length,H,I.tok _,%[_|by simp only[Zp];rw[d]]|q]
   .subst f;let%[its,l,pl|o]:=I.tuple j;let d:= ~~~l;show len_tuple pl (by simp only[Zp];lia) %[.int xs.length,H,I.tok _,%[_|by simp only[Zp];rw[d]]|q]
 | _=>show(e).elim
end
structure yv (h:xl) (x dx C:ku) (mA:ZC):Prop where
 obj:h.get? x∣TC C dx
 ns:h.Ns1 dx mA
 ne:dx≠x
set_option tactic.hygienic true in
def sw{h:xl}{c:ZC}(n:h.Ns1 d c):∃od,h.get? d∣od/\∀name,XR name od∣c name:=by
 let%[o,f,p,g,i,j,_|l]:=n;show%[o,g|λname=>?_];let e:=l name;unfold nsFind findBy at e;rw[<-UB]at e;unfold XR;rw[i];dsimp only
 split
 .rename_i y q
  rw[q]at e;show sU hX e
 .rename_i q
  rw[q]at e;let a:f.toList.any (·.refKey)=iv:=by
   rw[hH.any_eq_false];intro y m;let%[z,t|b]:=j y (Qf.mp m);simp[Tf.refKey,b]
  rw[kw (a▸Zt)];show sU hX e
def yv.look(I:yv h x a C b):∃od,PySem.W.InstAt h x (TC C a) C (hX od)/\∀name,XR name od∣b name:=
 let⟨od,c,d⟩:=sw I.ns
 %[od,%[I.obj,rfl,rfl|c]|d]
section
variable{prog:Program}{w:World}{A:Around}{E:ZD}{s:Shared}
variable{K:ZA}{x dx C f:ku}{mA:ZC}{name:lp}{v:kj}
def F1(X:K.In s.heap)(I:yv s.heap x dx C mA)(c:TV K C name=hY)(d:Pf K C=hY)
 (e:MT K (.ref C) name∣hV) (g:mA name∣v) (a:XT v=hY) (h:Q v {s with toks:=s.toks+1}):
 ↥A (WB (.ref x) name b) Q E s:=by
 let%[od,J|i]:=I.look;show PySem.W.get_value X J (Vz c).1 (findObj_own d e rfl (by rw[i,g])) a h
def C0(X:K.In s.heap)(I:yv s.heap x dx C mA)(a:TV K C name=hY)
 (b:MT K (.ref C) name∣hX (.ref f)) (c:XS K (.ref f)=hY) (d:mA name=hV) (h:Q (.ref f,[.ref x]) s):
 ↥A (QK (.ref x) name pl) Q E s:=by
 let%[od,J|e]:=I.look;show PySem.W.method_fn X J (Vz a).1 (Vz a).2 b (NM.mp c) (by change(XR name od).map _∣iv;rw[e,d];rfl) h
def F2(X:K.In s.heap)(I:yv s.heap x dx C mA)
 (j:MT K (.ref C) "__setattr__"=hX (hX (.builtin "object.__setattr__"))) (l:WZ K C=hY) (m:takerIn K C name∣hV) (n:Pf K C=hY)
 (hw:PySem.Within mA o) (p: ~~~o<=md)
 (h:∀h',yv h' x dx C (λy=>if y=name then hX v else mA y)->vr dx s.heap h'->Q () {s with heap:=h',toks:=s.toks+2}):
 ↥A (setAttr (.ref x) name v) Q E s:=by
 let%[od,J|z]:=I.look;show set_plain X J j (PySem.W.osa_open X J l m λb=>?_);let%[B,q|d]:=QM n;show Z2 (Z3 (Z2 (Z2 (P5 I.obj (Z2 (Qm (VA X q) ?_))))));rw[d];show Z3 (Z2 (Z3 (Z2 (wpAny_nsSet1 I.ns λh' a c=>?_))));let%[G,r,u,e,g|i]:=a.count (PySem.Within.cons name v hw);show Z2 (WQ e (g▸W1 (nI i (!2))) (Z3 (h _ %[(c.2 _ (I0 I.ne)).trans I.obj,a|I.ne] c)))
def C1{R:Ua->mu->Prop}(X:K.In s.heap)(b:makesIn K C=hY)
 (hi:MT K (.ref C) "__init__"=hX (hX (.ref f))) (c:V9 K (.ref f)∣.type "function")
 (h:PL (Nf prog w) (A.under (.builtin "type.__call__" %[.ref C::vs|a])) (.call (.ref f) %[.ref (⇑s+1)::vs|a]) (PySem.W.InitBack (⇑s+1) R)
  {s with heap:=(s.heap.push RQ).push (TC C ⇑s)}):
 PL (Nf prog w) A (.call (.ref C) %[vs|a]) R s:=by
 show PySem.W.make_core (PySem.W.makes_of X b) (SE X hi) (λself=>PySem.W.bind_fn X self c) (.inl rfl) h
end
abbrev eC(f:lp)(v:V):hH (lp×V)->hH (lp×V)
 |[]=>[(f,v)]
 |(g,x)::r=>if g=f then(g,v)::r else(g,x)::eC f v r
def nC(f g:lp)(v:V):∀fs,(eC f v fs).lookup g=if g=f then hX v else fs.lookup g
 |[]=>by
  change NR g [(f,v)]=_;by_cases h:g=f
  .let a:=NM.mpr h;simp only[NR,a,lX h]
  .let a:=MF.mpr h;simp only[NR,a,kw h]
 |(k,x)::r=>by
  rw[show eC f v _=(if k=f then(k,v)::r else(k,x)::eC f v r)from rfl];by_cases b:k=f
  .rw[lX b];by_cases h:g=k
   .let a:=NM.mpr h;simp only[NR,a,lX (h.trans b)]
   .let a:=MF.mpr h;simp only[NR,a,kw (λe:g=f=>h (e.trans b.symm))]
  .rw[kw b];by_cases h:g=k
   .let a:=NM.mpr h;simp only[NR,a,kw (λe=>b (h.symm.trans e))]
   .let a:=MF.mpr h;simp only[NR,a];show(nC f g v r)
def mR(f:lp)(v:V):∀fs:hH (lp×V),f∈(eC f v fs)\1/\∀g,g∈fs\1->g∈(eC f v fs)\1
 |[]=>%[by simp[eC]|λg h=>by simp at h]
 |(k,x)::r=>by
  let%[a|b]:=mR f v r;rw[show eC f v _=(if k=f then(k,v)::r else(k,x)::eC f v r)from rfl]
  grind
def nD(f:lp)(v:V):∀fs,~~~(eC f v fs)<= ~~~fs+1
 |[]=>by simp[eC]
 |(k,x)::r=>by
  let a:=nD f v r;rw[show eC f v _=(if k=f then(k,v)::r else(k,x)::eC f v r)from rfl];by_cases b:k=f
  .simp_all
  simp_all
def io.some_of(r:io (hX v) o):∃u,o∣u/\aX v u:=by
 cases o with
 | none=>show(r).elim
 | some u=>show%[u,ρ|r]
def io.none_of(r:io hV o):o=hV:=by
 cases o with
 | none=>rfl
 | some u=>show(r).elim
def sA(r:aX v u):XT u=hY:=by
 cases v with
 | non=>cases(r);rfl
 | bl b=>cases(r);rfl
 | int i=>have%[t|e]:=(r);cases e;rfl
 | str x=>have%[t|e]:=(r);cases e;rfl
 | byt b=>have%[t|e]:=(r);cases e;rfl
 | flt b=>have%[t|e]:=(r);cases e;rfl
 | ref a=>cases(r);rfl
 | ty n=>cases(r);rfl
section
variable{P:nY}{w:v0}{H H':Hp}{h h':xl}{a C dx:ku}{fs fs':hH (lp×V)}
def oG(c:HOk P w H h)(e:H a∣.ins C dx fs):∃b,yv h a dx C b/\(∀f,io (fs.lookup f) (b f))/\PySem.Within b (fs\1)/\ ~~~fs<=1000/\H dx∣.own a:=by
 let%[d,z,ne,g,b,n,r|q]:=(c a _ e)
 show%[b,%[g,n|ne],r,q,z|d]
end
structure Cls (K:ZA) (C:ku):Prop where
 pg:TV K C Mi=hY
 hd:Pf K C=hY
 po:WZ K C=hY
 sa:MT K (.ref C) "__setattr__"=hX (hX (.builtin "object.__setattr__"))
def Cls.get{K:ZA}{C:ku}(c:Cls K C)(f:lp):TV K C f=hY:=c.pg
abbrev ip(K:ZA)(C:ku)(f:lp):Prop:=MT K (.ref C) f∣hV
def ip.taker{K:ZA}{C:ku}{f:lp}(n:ip K C f):takerIn K C f∣hV:=by
 unfold takerIn;rw[n];rfl
structure F3 (K:ZA) (C:ku) (m:lp) (f:ku):Prop where
 at_:MT K (.ref C) m∣hX (.ref f)
 fn:XS K (.ref f)=hY
 kp:OF K (.ref f)=hY
section
variable{X:Cx}{ij:ZE}{σ:St}{H:Hp}{s:Shared}
variable{a C dx:ku}{fs:hH (lp×V)}{f:lp}{v:V}{A:wh}{E:ZD}
def yw(I:Qc X ij σ H s)(e:H a∣.ins C dx fs)(c:Cls X.K C)(n:ip X.K C f)(l:fs.lookup f∣v)
 (h:∀u s',Qc X ij σ H s'->aX v u->Q u s'):tI (Nf X.prog X.w) A (WB (.ref a) f b) Q E s:=by
 let%[i,O,r,_,_|_]:=oG I.hok e;let%[u,g|d]:=io.some_of (l▸r f);show F1 I.kIn O (c.get f) c.hd n g (sA d) (h u _ (I.tok _) d)
def yx(I:Qc X ij σ H s)(e:H a∣.ins C dx fs)(c:Cls X.K C)(k:F3 X.K C m g)(l:fs.lookup m=hV)
 (h:Q (.ref g,[.ref a]) s):tI (Nf X.prog X.w) A (QK (.ref a) m pl) Q E s:=by
 let%[b,O,r,_,_|_]:=oG I.hok e;show C0 I.kIn O (c.get m) k.at_ k.fn (io.none_of (l▸r m)) h
def yy(I:Qc X ij σ H s)(e:H a∣.ins C dx fs)(c:Cls X.K C)(n:ip X.K C f)(J: ~~~fs<1000)(l:aX y u)
 (h:∀s',Qc X ij σ (Qa H a (.ins C dx (eC f y fs))) s'->Q () s'):tI (Nf X.prog X.w) A (setAttr (.ref a) f u) Q E s:=by
 let%[m,O,r,i,_|j]:=oG I.hok e;show F2 I.kIn O c.sa c.po n.taker c.hd i (by rw[Z6,MN];lia) λh' d p=>h _ (I.write (e▸MQ) (.inr j) (λb q w z=>(p.2 b w).trans z) (let⟨o,_,_,B,_⟩:=d.ns;%[o|B]) %[(aq O.ne)▸j,?_,O.ne,d.obj,_,d.ns,λg=>?_|λg G=>?_])
 .let:=nD f y fs;lia
 .rw[nC];by_cases q:g=f
  .rw[lX q,lX q];show l
  .rw[kw q,kw q];show r g
 .by_cases q:g=f
  .show q▸(mR f y fs).1
  .show(mR f y fs).2 g (i g λz=>G ?_);change(if g=f then hX u else m g)=hV;rw[kw q];show z
def Qc.made(I:Qc X ij σ H s):Qc X ij σ (Qa (Qa H ⇑s (.own (⇑s+1))) (⇑s+1) (.ins C ⇑s []))
 {s with heap:=(s.heap.push RQ).push (TC C ⇑s)}:=by
 let c:(s.heap.push RQ).get? ⇑s∣RQ:=Zj s.heap rfl;let d:=by
  let:=Zj (s.heap.push RQ) (o:=TC C ⇑s) rfl;rwa[Zq]at this
 show(I.laid (o:= .own (⇑s+1)) (t':=s.toks) (λb u q=>Z7 _ q) (Zi _) %[_|c]).laid (λb u q=>Z7 _ q) (Uc (Zq _ _)) ?_;let ne:⇑s≠⇑s+1:=Zs (Yo _);show%[by rw[aq ne,aa],Xf _,ne,d,λ_=>hV,(Ug %[RQ,#[],_,c,ρ,(λe g=>n0 g ∅)|λ_=>rfl]).at λo q=>Z7 _ q,λ_=>MQ|λy h=>n0 rfl h]
def zW(c:Nj e f env (MZ e env)=MZ e env)
 (h:↥A (MZ e env) (λo b=>↥A (WB o f hY) Q E b) E s):↥A (MZ (.Attribute e f pos) env) Q E s:=
 Attribute_any_ h (by rw[arm_eval_Attribute,c])
end
abbrev IV(K:ZA)(c:TE)(f:lp):TE:=λd H Q=>c d H λx b=>asR x λa=>∃C e fs,b a∣.ins C e fs/\Cls K C/\ip K C f/\∃v,fs.lookup f∣v/\Q v b
abbrev IW(K:ZA)(e g:TE)(f:lp):TS:=λD b H=>g b H λy h=>e b h λx c=>asR x λa=>∃C d fs,c a∣.ins C d fs/\Cls K C/\ip K C f/\ ~~~fs<1000/\
 D.nx b (Qa c a (.ins C d (eC f y fs)))
section
variable{X:Cx}{o e value:yu}{f:lp}{pos pos' tpos:Pos}{ta tv:TE}
def IX(b:PE X e ta)(d:Nj e f X.env (MZ e X.env)=MZ e X.env):PE X (.Attribute e f pos) (IV X.K ta f):=by
 intro ij s g H Q I h;show zW d (thP (b ij s g H _ I h) λu y x i j m h=>?_);let%[a,rfl,C,z,fs,p,c,n,v,l|q]:=aS h;obtain rfl:u=m4 a:=m;show yw j p c n l λA B r w=>%[v,i,r,w|q]
def IY(d:PE X o ta)(g:PE X value tv)(i:OL value (hX (.Attribute o f pos')) pos.line X.env=pure iv):PS X (.Assign [.Attribute o f pos'] value pos) (IW X.K ta tv f):=by
 intro ij s b H D I h;show SW (thP (g ij s b H _ I h) λu j y m p r q=>thP (d ij j b m _ p q) λv G x J w z h=>?_) i;let%[a,rfl,C,L,fs,A,c,n,l|B]:=aS h;obtain rfl:v=m4 a:=z;show yy w A c n l r λM E=>%[b,_,E|B]
end
section
variable{X:Cx}{ij:ZE}{σ:St}{H:Hp}{s:Shared}
variable{A:wh}{E:ZD}{Q:ZD}{c:kj}{b:ri}
inductive j9 (K:ZA) (H:Hp):V->kj->Prop where
 | non:j9 K H .non (.type "NoneType")
 | bl (x:ri):j9 K H (.bl x) (.type "bool")
 | int (i:oT):j9 K H (.int i) (.type "int")
 | str (x:lp):j9 K H (.str x) (.type "str")
 | flt (x:UInt64):j9 K H (.flt x) (.type "float")
 | lst {a:ku} {xs:hH V} (e:H a<*xs):j9 K H (.ref a) (.type "list")
 | frz {a:ku} {o:Ob} {xs:hH V} (e:H a∣.frz o (.lst xs)):j9 K H (.ref a) (.type "list")
 | tup {a:ku} {xs:hH V} (e:H a&&&xs):j9 K H (.ref a) (.type "tuple")
 | dK {a:ku} {kvs:hH _} (e:H a∣.dK kvs):j9 K H (.ref a) (.type "dict")
 | dT {a:ku} {kvs:hH _} (e:H a∣.dT kvs):j9 K H (.ref a) (.type "dict")
 | ins {a C dx:ku} {fs:hH _} (e:H a∣.ins C dx fs) (cl:Cls K C) (ha:MT K (.ref C) "__class__"=hX (hX (.builtin "object.__class__")))
  (hn:S3 K (.builtin "object.__class__") "__get__"=hX (hX (.builtin "getset_descriptor.__get__"))) (htk:takesIn K (.builtin "object.__class__")∣hY)
  (hm:mroIn K C (.type "object")∣hY):j9 K H (.ref a) (.ref C)
def Bs(I:Qc X ij σ H s)(d:aX x u)(ty:j9 X.K H x t)(e:Pe X.K t c∣b)(h:∀tk,Q (.bool b) {s with toks:=tk}):
 tI (Nf X.prog X.w) A (call (.builtin "isinstance") [u,c]) Q E s:=by
 cases ty with
 | non=>cases(d);show OZ kitx_none I.kIn MQ e (λz=>nomatch z) h
 | bl y=>cases(d);show OZ PySem.W.kitx_bool I.kIn MQ e (λz=>nomatch z) h
 | int i=>have%[t|q]:=(d);cases q;show OZ PySem.W.kitx_int I.kIn MQ e (λz=>nomatch z) h
 | str y=>have%[t|q]:=(d);cases q;show OZ PySem.W.kitx_str I.kIn MQ e (λz=>nomatch z) h
 | flt y=>have%[t|q]:=(d);cases q;show OZ PySem.W.kitx_float I.kIn MQ e (λz=>nomatch z) h
 | @lst a xs f=>
   cases(d);let%[_,_,n,_|g]:=(I.hok a _ f)
   show OZ kitx_list I.kIn %[_,g|rfl] e (λz=>nomatch z) h
 | @frz a M xs f=>
   cases(d);let%[_,_,_,n,_|g]:=(I.hok a _ f)
   show OZ kitx_list I.kIn %[_,g|rfl] e (λz=>nomatch z) h
 | @tup a xs f=>
   cases(d);let%[_,_,_|p]:=(I.hok a _ f)
   let%[o,g,j|_]:=p;show OZ PySem.W.kitx_tuple I.kIn %[o,g|j] e (λz=>nomatch z) h
 | @dK a l f=>
   cases(show u=m4 a from d);let%[_,_,vs,_|p]:=(I.hok a _ f)
   let%[o,v,w,g,j|_]:=p;show OZ kitx_dict I.kIn %[o,g|j.1] e (λz=>nomatch z) h
 | @dT a l f=>
   cases(show u=m4 a from d);let%[_,_,xs,_,o,v,w,g,j|_]:=(I.hok a _ f)
   show OZ kitx_dict I.kIn %[o,g|j.1] e (λz=>nomatch z) h
 | @ins a C N fs f r B G m L=>
   cases(d);let%[T,O|_]:=oG I.hok f;let%[od,J|_]:=O.look;show OZ (PySem.W.kitx_own (r.get _) r.hd B G m L) I.kIn J e (λz=>nomatch z) h
end
structure bG (k:jg) (A:wh):Prop where
 hd:A.handled=hV
 dp:A.depth+3*k+5<recursionLimit
 un:A.units+16*k+200<Of
 gd:A.guards∣[]
def bG.mono(r:bG k A)(h:j<=k):bG j A:=%[r.hd,by let:=r.dp;lia,by let:=r.un;lia|r.gd]
def bG.deeper(r:bG (k+1) A)(env:Env):bG k (A.deeper env):=
 %[r.hd,by let:=r.dp;change A.depth+1+3*k+5<_;lia,by let:=r.un;change A.units+3+16*k+200<_;lia|r.gd]
def yA{A:wh}:(A.under (.builtin "type.__call__" %[.ref C::us|a])).depth=A.depth+1:=by
 first|rfl|lia
def yB{A:wh}:(A.under (.builtin "type.__call__" %[.ref C::us|a])).units=A.units+1:=by
 first|rfl|lia
def bG.make(r:bG (k+1) A)(C:ku)(us:ZF)(a:hH (lp×kj)):bG k (A.under (.builtin "type.__call__" %[.ref C::us|a])):=
 %[r.hd,by let:=r.dp;rw[yA];lia,by let:=r.un;rw[yB];lia|r.gd]
def bG.depth(r:bG k A):A.depth<recursionLimit:=by let:=r.dp;lia
def bG.units(r:bG k A):A.units+64<Of:=by let:=r.un;lia
abbrev Bt:TA:=λ_ H Q=>Q [] H
abbrev C2(b:TE)(c:TA):TA:=λa H Q=>b a H λx d=>c a d λxs e=>Q (x::xs) e
section
variable{X:Cx}{e:yu}{es:hH yu}{te:TE}{t:TA}{pos:Pos}
def IZ:PA X [] Bt:=λ_ _ _ _ H Q I h=>Calls.spliced_nil %[[],H,I,.nil|h]
def F4(b:PE X e te)(c:PA X es t)(d:vi (e::es) X.env=(iv,MZ e X.env)::vi es X.env):PA X (e::es) (C2 te t):=by
 intro pos ij s a H Q I h;rw[d];change tI _ _ (spliced ((iv,MZ e X.env)::Nt pos _)) _ _ s;show Calls.spliced_cons (thP (b ij s a H _ I h) λu f x g i j l=>thP (c pos ij f a g _ i l) λus q xs m n o p=>%[x::xs,m,n,.cons j o|p])
abbrev Ja(t:TA):TE:=λb H Q=>t b H λxs a=> ~~~xs<=md/\∀p,a p=hV->Q (.ref p) (Qa a p (.tup xs))
abbrev Jb(t:TA):TE:=λb H Q=>t b H λxs a=> ~~~xs<=md/\∀p,a p=hV->Q (.ref p) (Qa a p (.lst xs))
def Jc{d}(h:PA X es t):PE X (.Tuple es d pos) (Ja t):=by
 intro ij s f H Q I g;show wpAny_Tuple_spliced (thP (h pos ij s f H _ I g) λus a xs i c r ⟨z,q⟩=>%[~~~r▸z|?_]);let j:=c.hok.fresh (Zi _);show%[.ref ⇑a,Qa i ⇑a _,c.laid (λb u e=>Z7 _ e) (Zi _) ?_,ρ|q _ j];show%[z,us,r,_,Zj _ rfl,ρ,_|ρ]
def Jd(h:PA X es t):PE X (.List es pos) (Jb t):=by
 intro ij s d H Q I f;show wpAny_List_spliced (thP (h pos ij s d H _ I f) λus a xs g c r ⟨z,q⟩=>%[~~~r▸z|?_]);let i:=c.hok.fresh (Zi _);show%[.ref ⇑a,Qa g ⇑a _,c.laid (λb u e=>Z7 _ e) (Zi _) ?_,ρ|q _ i];show%[z,us,0,r|Zj _ rfl]
end
noncomputable abbrev Sp:=hH V->Hp->VK->XK->Prop
noncomputable abbrev CXT:=hH Env->Hp->mu->XK->kj->mu->Prop
structure Bu (P:nY) (w:v0) (K:ZA) (mg:ZC) (base:xl) (A:wh) (outer:hH Env) (s:mu) (H:Hp):Prop where
 frames:A.frames∣outer
 mod:Mod K mg base
 bs:∀b o,base.get? b∣o->s.heap.get? b∣o/\H b=hV
 bsz:base.objs.size<=⇑s
 funs:s.heap.FunFrames base outer
 frf:∀b∈frs outer,H b=hV
 hok:HOk P w H s.heap
 bare:Qt s.gens
abbrev CE(outer:hH Env)(P:nY)(w:v0)(H:Hp)(s:mu)(Q:VK)(u:kj)(s':mu):Prop:=
 ∃v a,s'.os=s.os/\Qt s'.gens/\Un (frs outer) [] H a s.heap s'.heap/\HOk P w a s'.heap/\aX v u/\Q v a
abbrev CR(CX:CXT)(outer:hH Env)(P:nY)(w:v0)(H:Hp)(s:mu)(Q:VK)(E:XK)(r:Ua)(s':mu):Prop:=
 match r with
 | .ok (.ret u)=>CE outer P w H s Q u s'
 | .ok _=>J5
 | .error e=>CX outer H s E e s'
structure eQ (P:nY) (w:v0) (K:ZA) (mg:ZC) (base:xl) (CX:CXT) (k:jg) (f:ku) (fd:O6) (ps:ZB) (sp:Sp):Prop where
 len:∀vs H Q E,sp vs H Q E-> ~~~vs= ~~~ps
 run:∀A outer s H args us vs Q E,bG k A->Bu P w K mg base A outer s H->TL s fd args (ps.zip us)->aM vs us->sp vs H Q E->
  PL (Nf P w) A (.call (.ref f) args) (CR CX outer P w H s Q E) s
def eQ.imp{P:nY}{K:ZA}(F:eQ P w K mg base CX k f b ps sp)
 (h:∀vs H Q E,a vs H Q E->sp vs H Q E):eQ P w K mg base CX k f b ps a:=
 %[λvs H Q E q=>F.len vs H Q E (h _ _ _ _ q)|λA outer s H args us vs Q E c d e g i=>F.run A outer s H args us vs Q E c d e g (h _ _ _ _ i)]
def Bu.make{P:nY}{K:ZA}(e:Bu P w K mg base A outer s H)(C:ku)(us:ZF)(a:hH (lp×kj)):
 Bu P w K mg base (A.under (.builtin "type.__call__" %[.ref C::us|a])) outer s H:=⟨by first|show e.frames|lia,e.mod,e.bs,e.bsz,e.funs,e.frf,e.hok,e.bare⟩
section
variable{X:Cx}{ij:ZE}{σ:St}{H:Hp}{s s':mu}
def Qc.env0(I:Qc X ij σ H s):Bu X.prog X.w X.K X.mg X.base X.A X.stack s H:=
 %[I.ok.frames,I.ok.mod,I.bs,nI I.ok.bsz I.sz,I.stack,I.stkFree,I.hok|I.bare]
def Qc.after(I:Qc X ij σ H s)(h:CE X.stack X.prog X.w H s Q u s'):EP X ij σ Q u s':=by
 let%[v,f,os,a,un,c,r|q]:=h;let%[i,g,d,t|e]:=s';obtain rfl:e=s.os:=os;show%[v,f,I.call un c a (λb z=>n0 z ∅),r|q]
end
abbrev sE(sp:Sp)(dvs:hH V)(E:XK)(t:TA):TE:=λa H Q=>t a H λvs b=>sp (vs++dvs) b Q E
abbrev zX(C:ku)(m:lp)(sp:Sp)(dvs:hH V)(E:XK)(d:TE)(t:TA):TE:=λb H Q=>d b H λx c=>∃a e fs,x= .ref a/\c a∣.ins C e fs/\fs.lookup m=hV/\
 t b c λvs f=>sp (x::(vs++dvs)) f Q E
abbrev zY(C:ku)(sp:Sp)(dvs:hH V)(E:XK)(t:TA):TE:=λc H Q=>t c H λvs b=>∀x a,b x=hV->b a=hV->a≠x->
 sp (.ref x::(vs++dvs)) (Qa (Qa b a (.own x)) x (.ins C a [])) (λv d=>v= .non/\Q (.ref x) d) E
abbrev dW(K:ZA)(a:O6)(ps:ZB)(ds:ZF):Prop:=
 ∀s us,K.In s.heap-> ~~~(us++ds)= ~~~ps->TL s a %[us|[]] (ps.zip (us++ds))
def dW.all{K:ZA}(h:∀us:ZF,~~~us= ~~~ps->bindArgs b %[us|[]]=pure (ps.zip us)):dW K b ps []:=λs us _ a=>by
 rw[Zx]at a ⊢;show .of_eq (h us a)
abbrev iQ(CX:CXT)(X:Cx)(E:XK):Prop:=∀ij (a:St) H s e s',Qc X ij a H s->CX X.stack H s E e s'->X.xe e s'
section
variable{X:Cx}{CX:CXT}{k:jg}{f C:ku}{fd:O6}{ps:ZB}{sp:Sp}{dvs:hH V}{ds:ZF}{E:XK}{x m:lp}{p pos apos:Pos}{e o:yu}{es:hH yu}{ta:TE}{t:TA}
def C3(F:eQ X.prog X.w X.K X.mg X.base CX k f fd ps sp)(d:bG k X.A)(g:dW X.K fd ps ds)(i:aM dvs ds)(j:iQ CX X E)
 (I:Qc X ij b H s) (r:aM vs us) (h:sp (vs++dvs) H Q E):(X⁻¹) (call (.ref f) us) (EP X ij b Q) X.xe s:=by
 let c:=r.append i;show Oc (codeAny_mono (F.run X.A X.stack s H _ _ _ Q E d I.env0 (g s us I.kIn (~~~c▸F.len _ _ _ _ h)) c h) λr s' a=>?_);cases r with
 | error e=>show j ij b H s e s' I a
 | ok l=>
   cases l with
   | ret u=>show I.after a
   | next=>show MM a
   | brk=>show MM a
   | cont=>show MM a
def zZ(F:eQ X.prog X.w X.K X.mg X.base CX k f fd ps sp)(d:bG k X.A)(g:Gl X x)(i:X.mg x∣.ref f)(j:OF X.K (.ref f)=hY)(l:dW X.K fd ps ds)(n:aM dvs ds)(u:iQ CX X E)
 (v:PA X (e::es) t) (a:(x==("__debug__":lp))=iv) (w:vi (e::es) X.env=(iv,MZ e X.env)::vi es X.env) (b:(Nt pos (vi es X.env)).any (·.1)=iv):
 PE X (.Call (.Name x p) (e::es) [] pos) (sE sp dvs E t):=by
 intro ij s y H Q I h;show N0 (iO I g i (T3 I.ok.mod.kin j (thP (v pos ij s y H _ I h) λus z vs A c r q=>%[c.kIn|C3 F d l n u c r q]) w b) a)
def C4(i:PE X o ta)(c:Cls X.K C)(d:F3 X.K C m f)(F:eQ X.prog X.w X.K X.mg X.base CX k f fd ps sp)(j:bG k X.A)(n:dW X.K fd ps ds)(r:aM dvs ds)(v:iQ CX X E)
 (w:MZ (.Call (.Attribute o m apos) [] [] pos) X.env=(do
  let g<-MZ o X.env
  Pk apos.atName
  let(f,first)<-PF [g] (QK g m pl)
  T4 pos f first (Nt pos (vi [] X.env)) (Qh pos (Od [] X.env)))):
 PE X (.Call (.Attribute o m apos) [] [] pos) (zX C m sp dvs E ta Bt):=by
 intro ij s y H Q I h;show PySem.W.methodCall_KW (thP (i ij s y H _ I h) λu B x G b z ⟨a,J,fs,ex,A,l,q⟩=>?_) w;subst ex;obtain rfl:u=m4 a:=z;show yx b A c d l (PySem.W.callWith_K0 b.kIn d.kp (C3 (us:=[.ref a]) (vs:=[.ref a]) F j n r v b (.cons rfl .nil) q))
structure Mk (K:ZA) (C f:ku):Prop where
 makes:makesIn K C=hY
 init:MT K (.ref C) "__init__"=hX (hX (.ref f))
 fn:XS K (.ref f)=hY
 kp:OF K (.ref C)=hY
def C5(M:Mk X.K C f)(F:eQ X.prog X.w X.K X.mg X.base CX k f fd ps sp)(j:bG (k+1) X.A)(l:dW X.K fd ps ds)(n:aM dvs ds)
 (q:iQ CX X E) (I:Qc X ij d H s) (r:aM vs us)
 (h:∀x b,H x=hV->H b=hV->b≠x->sp (.ref x::(vs++dvs)) (Qa (Qa H b (.own x)) x (.ins C b [])) (λv w=>v= .non/\Q (.ref x) w) E):
 (X⁻¹) (call (.ref C) us) (EP X ij d Q) X.xe s:=by
 let g:=h (⇑s+1) ⇑s (I.hok.fresh (Yg _)) (I.hok.fresh (Zi _)) (Zs (Yo _));let c:=Qc.made (C:=C) I;let i:aM (V.ref (⇑s+1)::(vs++dvs)) _:= .cons rfl (r.append n);let y:=by
  let e:= ~~~i;rw[F.len _ _ _ _ g]at e;show e.symm
 show Oc (C1 I.kIn M.makes M.init (NM.mp M.fn) (codeAny_mono (F.run _ X.stack _ _ _ _ _ _ E (j.make C us [])
  (c.env0.make C us []) (l _ _ c.kIn y) i g) λr s' a=>?_))
 cases r with
 | error e=>show q ij d _ _ e s' c a
 | ok z=>
   cases z with
   | ret u=>
     let%[v,A,B,G,J|L]:=c.after a;subst J;show%[G,V.ref _,A,B,ρ|L]
   | next=>show MM a
   | brk=>show MM a
   | cont=>show MM a
def F5(M:Mk X.K C f)(F:eQ X.prog X.w X.K X.mg X.base CX k f fd ps sp)(d:bG (k+1) X.A)(g:Gl X x)(i:X.mg x∣.ref C)(j:dW X.K fd ps ds)(l:aM dvs ds)(n:iQ CX X E)
 (u:PA X (e::es) t) (a:(x==("__debug__":lp))=iv) (v:vi (e::es) X.env=(iv,MZ e X.env)::vi es X.env) (b:(Nt pos (vi es X.env)).any (·.1)=iv):
 PE X (.Call (.Name x p) (e::es) [] pos) (zY C sp dvs E t):=by
 intro ij s w H Q I h;show N0 (iO I g i (T3 I.ok.mod.kin M.kp (thP (u pos ij s w H _ I h) λus y vs z c r q=>%[c.kIn|C5 M F d j l n c r q]) v b) a)
variable{ks:ZB}{kpos:Pos}{kws:hH O5}{te:TE}{tk:TA}{nm:lx lp}
end
structure au (N P:ZB) (sc:RE):Prop where
 kind:sc.kind= .function
 co:sc.isCoroutine=iv
 gen:sc.isGenerator=iv
 nd:N.Nodup
 pre:N.take P.length=P
 par:∀x∈P,sc.names.lookup x∣.local\/sc.names.lookup x∣.cell
 nofree:∀y∈sc.names,y.2≠ .free
def sF{kindOf:lp->lx KE}:∀{binds:hH (lp×kj)} {m:ZC},(∀v,(x,v)∉binds)->VG kindOf binds m x=m x
 |[],_,_=>rfl
 |(n,v)::r,m,h=>by
  unfold VG;rw[sF λw hw=>h w (Zk _ hw)]
  split
  .let:x≠n:=by rintro rfl;show h v Zm
   simp[this]
  .rfl
def sG{kindOf:lp->lx KE}:∀{binds:hH (lp×kj)} {m:ZC},(∀v,(x,v)∉binds)->VH kindOf binds m x=m x
 |[],_,_=>rfl
 |(n,v)::r,m,h=>by
  unfold VH;rw[sG λw hw=>h w (Zk _ hw)]
  split
  .rfl
  .let:x≠n:=by rintro rfl;show h v Zm
   simp[this]
def sI{kindOf:lp->lx KE}{x:lp}:∀{P:ZB} {vs:ZF} {i:jg} {m:ZC},P.Nodup->P[i]?∣x->vs[i]?∣v->kindOf x∣.local->
 VG kindOf (P.zip vs) m x∣v
 |[],_,_,_,_,h,_,_=>by simp at h
 | _::_,[],_,_,_,_,h,_=>by simp at h
 | p::P,w::vs,0,m,nd,a,b,c=>by
   simp at a b;subst a;subst b;change VG kindOf ((p,w)::P.zip vs) m p=_;unfold VG;rw[sF λv d=>(NE.mp nd).1 (Wa d).1,lX c];simp
 | p::P,w::vs,i+1,m,nd,a,b,c=>by
   change VG kindOf ((p,w)::P.zip vs) m x=_;show sI (NE.mp nd).2 (a) (b) c
def sJ{kindOf:lp->lx KE}{x:lp}:∀{P:ZB} {vs:ZF} {i:jg} {m:ZC},P.Nodup->P[i]?∣x->vs[i]?∣v->kindOf x≠hX .local->
 VH kindOf (P.zip vs) m x∣v
 |[],_,_,_,_,h,_,_=>by simp at h
 | _::_,[],_,_,_,_,h,_=>by simp at h
 | p::P,w::vs,0,m,nd,a,b,c=>by
   simp at a b;subst a;subst b;change VH kindOf ((p,w)::P.zip vs) m p=_;unfold VH;rw[sG λv d=>(NE.mp nd).1 (Wa d).1,kw c];simp
 | p::P,w::vs,i+1,m,nd,a,b,c=>by
   change VH kindOf ((p,w)::P.zip vs) m x=_;show sJ (NE.mp nd).2 (a) (b) c
abbrev start(N:ZB)(vs:hH V):St:=vs.map hX++G2 (~~~N-vs.length) hV
abbrev fS(CX:CXT)(P:nY)(w:v0)(K:ZA)(mg:ZC)(base:xl)(N:ZB)(qual:lp)(scope:RE)(f:ku)(cd:kj)(A:wh)(outer:hH Env)(s:mu)(H:Hp)(E:XK):Cx where
 prog:=P
 w:=w
 K:=K
 mg:=mg
 base:=base
 A:=A.deeper (Ng qual scope ⇑s f cd)
 N:=N
 s₀:=s
 H₀:=H
 env:=Ng qual scope ⇑s f cd
 outer:=outer
 stack:=Ng qual scope ⇑s f cd::outer
 ex:=[]
 calm:=hY
 fn:=λ_=>hY
 pn:=[]
 xe:=λe s'=>tI (Nf P w) (A.deeper (Ng qual scope ⇑s f cd)) (leaving (Ng qual scope ⇑s f cd) e) (λ_ s''=>CX outer H s E e s'') (λe' s''=>CX outer H s E e' s'') s'
def v8{a:RE}{n:jg}{x:lp}(h:a.names.lookup x∣.cell):∃c,(MX n a.names []).lookup x∣c:=by
 show Qo.mp (RC a.names n [] (.inl h))
def Bv{P:nY}{K:ZA}
 (S:au N ps a) (J:A.handled=hV) (g:Bu P w K mg base A outer s H) (T: ~~~vs= ~~~ps) (r:aM vs us)
 (x:InCallC s ⇑s (VG (Ng d a ⇑s f C).kindOf (ps.zip us) λ_=>hV) (MX (⇑s+1) a.names []) (VH (Ng d a ⇑s f C).kindOf (ps.zip us) λ_=>hV) L):
 Qc (fS CX P w K mg base N d a f C A outer s H E) [] (start N vs) H L:=by
 let M: ~~~ps<= ~~~N:=by let:=sU MR S.pre;rw[Yl]at this;lia
 let%[B,tk,rfl|G]:=x.done;let l:∀b,b∉(fS CX P w K mg base N d a f C A outer s H E).ex:=λb z=>n0 (show b∈([])from z) ∅
 show%[%[g.mod,S.kind,ρ,ρ,Zi _,λy z c B j=>?_,λy m=>?_,λy c _ h=>?_,λ_=>J,wh.frames_deeper g.frames,.inr %[ρ|ρ],λb z=>n0 z (l b),g.bs,g.bsz,λb _ _=>l b,λb z=>n0 z (l b),g.funs|g.frf],
  rfl,g.bare,Un.kept G,%[_,x.toInCall.ns|λi y v B j U=>?_],λy c h=>%[_|x.cell y c h],g.hok.fresh (Zi _),λy c h=>?_,λp n=>n0 (show p∈([])from n) ∅,g.hok.kept G|?_]
 .show name_of_addr x.apart (PySem.mem_of_lookup B) (PySem.mem_of_lookup j)
 .rcases m with m|m
  .show v8 m
  .show n0 rfl (S.nofree _ (PySem.mem_of_lookup m))
 .show Yf (x.above y c (PySem.mem_of_lookup h))
 .let hi:i< ~~~vs:=by
   unfold start at j;by_cases hi:i< ~~~vs
   .show hi
   .rw[Ya ↑hi]at j;rw[Tx]at j
    split at j<;> cases j
  let O:vs[i]?∣v:=by
   unfold start at j;rw[Y9 ↑hi,Zl]at j
   simp_all
  let%[u,I|Q]:=r.get O;let n:ps[i]?∣y:=by
   rw[<-S.pre,Yc ⋯];show B
  let o:ps.Nodup:=S.pre▸S.nd.sublist (U5 _ _);show%[u,Q|?_];rcases S.par y (Z8 n)with k|k
  .show .inl %[k|sI o n I k]
  .let%[c|e]:=v8 k;show .inr %[.inl k,c,e|?_];let q:=x.cell y c e;rw[sJ o n I (by change a.names.lookup y≠_;rw[k];decide)]at q;show q
 .show g.hok.fresh (Yf (x.above y c (PySem.mem_of_lookup h)))
 .unfold start;change _= ~~~N;rw[Z9,Z6,hH.length_replicate]
  lia
def HC{P:nY}{K:ZA}{T kV z U d ct oc:kj}
 (lk:K.lookup f=hX %[oc,od,.func (S7 name c g i a T kV z U an d ct)|ab]) (G:RB K d c=hY) (S:au N ps a)
 (len:∀vs H Q E,sp vs H Q E-> ~~~vs= ~~~ps)
 (l:∀(A:wh) (outer:hH Env) (s:mu) (H:Hp) (vs:hH V) (Q:VK) (E:XK),bG k (A.deeper (Ng c a ⇑s f d))->sp vs H Q E->
  ∃t,PSs (fS CX P w K mg base N c a f d A outer s H E) i t/\t {nx:=λ_ j=>Q .non j,rt:=Q} (start N vs) H):
 eQ P w K mg base CX (k+1) f (S7 name c g i a T kV z U an d ct) ps sp:=by
 show%[len|λA outer s H args us vs Q E L B hb r C=>?_];let Y:=B.mod.kin.keeps λb o e=>(B.bs b o e).1
 let M:=B.mod.nolimit.keeps λb o e=>(B.bs b o e).1
 let m:∀y∈ps.zip us,a.names.lookup y.1∣_\/(a.names.lookup y.1∣_/\((MX (⇑s+1) a.names []).lookup y.1).isSome=hY):=λ⟨n,v⟩ hy=>by
  rcases S.par n (Wa hy).1 with q|q
  .show .inl q
  .show .inr %[q|RC _ _ _ (.inl q)]
 show codeAny_call_function L.depth (Y _ _ lk) rfl S.co S.gen rfl (PySem.W.codeRec_of Y G) (hb _ _ _ _ (wpAny_newFunctionEnv_cells S.kind m λenv he s1 x=>?_));subst he;show%[M.keeps x.toInCall.keep|codeAny_func ?_];let%[t,ht|hq]:=l A outer s H vs Q E (L.deeper _) C;let I:Qc (fS CX P w K mg base N c a f d A outer s H E) [] _ H s1:=Bv S L.hd B (len _ _ _ _ C) r x;show Mz (ht [] s1 _ H _ I hq) (λfl s' p=>?_) λe s' p=>p
 let fin:∀{h:St} {j:Hp} {v:V} {u:kj},Qc (fS CX P w K mg base N c a f d A outer s H E) [] h j s'->aX v u->Q v j->CE outer P w H s Q u s':=
  λ{h j v u} J O q=>%[v,j,J.os,J.bare,J.base,J.hok,O|q]
 cases fl with
 | ret u=>
   let%[v,h,j,J,O|q]:=p;show fin J O q
 | next=>
   let%[h,j,J|q]:=p;show fin (v:=V.non) J rfl q
 | brk=>
   let%[_,_,_|q]:=p
   simp_all
 | cont=>
   let%[_,_,_|q]:=p;show MM q
section
variable{X:Cx}{x:lp}{p pos:Pos}{e:yu}{es:hH yu}{t:TA}{id T:M5}{r:hH V->Hp->VK->Prop}
abbrev tCB(r:hH V->Hp->VK->Prop)(t:TA):TE:=λa H Q=>t a H λvs b=>r vs b Q
def C6(d:cE X (.builtin id) r)(f:Gl X x)(g:X.mg x=hV)(i:Nz x∣.builtin id)(j:PA X (e::es) t)(l:x≠"__name__")(a:(x==("__debug__":lp))=iv)
 (m:vi (e::es) X.env=(iv,MZ e X.env)::vi es X.env) (b:(Nt pos (vi es X.env)).any (·.1)=iv):PE X (.Call (.Name x p) (e::es) [] pos) (tCB r t):=by
 intro ij s c H Q I h;show N0 (jv I f g i (QP (thP (j pos ij s c H _ I h) λus n vs o q u v=>d ij n c o vs us Q q u v) m b) l a)
def Bw(d:cE X (.type T) r)(f:Gl X x)(g:X.mg x=hV)(i:Nz x∣.type T)(j:PA X (e::es) t)(l:x≠"__name__")(a:(x==("__debug__":lp))=iv)
 (m:vi (e::es) X.env=(iv,MZ e X.env)::vi es X.env) (b:(Nt pos (vi es X.env)).any (·.1)=iv):PE X (.Call (.Name x p) (e::es) [] pos) (tCB r t):=by
 intro ij s c H Q I h;show N0 (jv I f g i (MS (thP (j pos ij s c H _ I h) λus n vs o q u v=>d ij n c o vs us Q q u v) m b) l a)
end
end _LL
namespace _HT
open PySem PyProof.Rows
section
open PySem.SeqAt
open PySem.AutoSeq1 (wpAny_loadPart')
open PySem.MeetsSeq PySem.MeetsSeq2 PySem.MeetsSeq3
variable{prog:Program}{w:World}{A:Around}{E:ZD}{s:Shared}
abbrev sIx(n d:jg):lx oT->jg
 | none=>d
 | some v=>if v<0 then(v+n).toNat else min v.toNat n
def sIx_none(n d:jg):sIx n d hV=d:=rfl
def sIx_nat(n d k:jg):sIx n d (hX k)=min k n:=by
 change(if k<0 then((k:oT) +n).toNat else min _ n)=min k n;rw[kw ⋯,OJ]
def z4(v:oT)(n d:jg):(if v<0 then max (v+n) 0 else min v n)=((sIx n d (hX v))):=by
 change(if v<0 then max _ 0 else min v n)=(((if v<0 then(v+n).toNat else min v.toNat n):jg))
 grind
def yC(lo hi:lx oT)(n:jg):Rg lo hi 1 n=(((sIx n 0 lo):oT),((sIx n n hi):oT)):=by
 show Prod.ext ?_ ?_
 .cases lo with
  | none=>rfl
  | some v=>show z4 v n 0
 .cases hi with
  | none=>rfl
  | some v=>show z4 v n n
def yD(i j:jg):O8 i j 1=j-i:=by
 unfold O8;let a:(1:oT)>0:=by lia
 simp only[a,Qp,oT.ediv_one]
 split<;> lia
def oX(p:Te v o)(h:Q o s):↥A (Xw v) Q E s:=by
 cases p with
 | none=>show slicePart_none h
 | int i t=>show slicePart_int h
def mS{lo hi:lx oT}{n:jg}(c:s.heap.IsSliceOf d e f .none)(pl:Te e lo)(g:Te f hi)
 (h:Q (((sIx n 0 lo:jg):oT),1,sIx n n hi-sIx n 0 lo) s):↥A (Xx (.ref d) (pure (n:oT))) Q E s:=by
 let%[os,a,i|b]:=id c;show Z2 (Z2 (MU a b rfl (Z2 (MU a b rfl (Z2 (MU a b rfl (Z3 (Z2 (slicePart_none (Z2 (oX pl (Z2 (oX g (Z2 (Z3 ?_)))))))))))))));change tI _ _ (match Rg lo hi 1 n with|(lo,hi)=>pure (lo,(1:oT),O8 lo hi 1)) _ _ s;rw[yC lo hi n];change tI _ _ (pure _) _ _ s;rw[yD];show Z3 h
def C7(xs:ZJ)(i k:jg):((p0 k).filterMap λ(m:jg)=>xs[((i:oT) +m*1).toNat]?).toArray=((xs.toList.drop i).take k).toArray:=by
 let e:(λ(m:jg)=>xs[((i:oT) +m*1).toNat]?)=λm=>xs[i+m]? :=by
  funext m;let:((i:oT) +m*1).toNat=i+m:=by lia
  rw[this]
 rw[e];let:=pick_run xs i k;rw[hH.filterMap_map]at this;let a:((λx=>xs[x]?) ∘ λx=>i+x)=λm=>xs[i+m]? :=rfl
 rw[a]at this;rw[this]
def getItem_tuple_cut{lo hi:lx oT}(c:IsTup s.heap t a)(g:s.heap.IsSliceOf i j l .none)(pl:Te j lo)(m:Te l hi)
 (hw: ¬ (sIx a.size 0 lo=0/\sIx a.size a.size hi=a.size))
 (h:Q (.ref ⇑s) {s with heap:=s.heap.push {cls:= .type "tuple",data:= .seq ((a.toList.drop (sIx a.size 0 lo)).take (sIx a.size a.size hi-sIx a.size 0 lo)).toArray}})
 (n:a.size<=md):↥A (RP (.ref t) (.ref i)) Q E s:=by
 let b:sizeOk (.seq ((a.toList.drop (sIx a.size 0 lo)).take (sIx a.size a.size hi-sIx a.size 0 lo)).toArray):=by
  change((a.toList.drop _).take _).toArray.size<=md;rw[Zp,Yl,Yh,Zb]
  lia
 let%[os,d,e|o]:=id g;unfold RP
 try with_reducible show vu ?_
 show Z2 (wpAny_sequenceKey c.typeIs (!1) ?_);show Z2 (M0 c.typeIs Og
  (MC Og c.typeIs entry_tuple_getitem ?_ (args_tuple_getitem _ _)))
 change tI _ _ (Xv _>>= _) _ _ s;show Z2 (tupleItemsOf_ c (Z2 (PB %[os,d|e] (Z2 (mS g pl m ?_)))));let f: ¬ ((((sIx a.size 0 lo):oT)==0&&(1:oT)==1&&(sIx a.size a.size hi-sIx a.size 0 lo)==a.size)=hY):=by
  lia
 change tI _ _ (if(((sIx a.size 0 lo):oT)==0&&(1)==1&&(sIx a.size a.size hi-sIx a.size 0 lo)==a.size)=hY then _ else _) _ _ s;rw[kw f,C7]
 first
  | show Z2 (MG (Z3 ⟨_,rfl,Z3 h⟩) b)
  | lia
  | lia
  | lia
end
end _HT
namespace _LL
open PySem PySem.Spec PyProof.Rows
noncomputable abbrev TO:=St->Hp->(lx oT->Hp->Prop)->Prop
abbrev PO(X:Cx)(e:lx yu)(t:TO):Prop:=
 ∀ij s (a:St) H Q,Qc X ij a H s->t a H Q->
  (X⁻¹) (evalPart e X.env) (λu s'=>∃o b,Qc X ij a b s'/\Te u o/\Q o b) X.xe s
abbrev uK:TO:=λ_ H Q=>Q hV H
abbrev C8(t:TE):TO:=λa H Q=>t a H λx b=>asI x λi=>Q (hX i) b
section
variable{X:Cx}{e:yu}{te:TE}{lo hi:lx yu}{tl th:TO}{pos p2:Pos}
def F6:PO X hV uK:=by
 intro ij s a H Q I h;show Z3 %[hV,H,I,.none|h]
def F7(h:PE X e te):PO X (hX e) (C8 te):=by
 intro ij s a H Q I hw;show thP (h ij s a H _ I hw) λu g x b c d f=>?_
 let%[i,rfl|q]:=dC f;let%[t|rfl]:=d;show%[hX i,b,c,.int i t|q]
abbrev SlR(X:Cx)(r:V->lx oT->lx oT->Hp->VK->Prop):Prop:=
 ∀ij s (a:St) H x v b c lo hi d Q,Qc X ij a H s->aX x v->s.heap.IsSliceOf d b c .none->Te b lo->Te c hi->r x lo hi H Q->
  ∃T id,P6 (.type T) "__getitem__"=pure (hX (.builtin id))/\s.TypeIs v T/\(X⁻¹) (RP v (.ref d)) (EP X ij a Q) X.xe s
abbrev tSl(r:V->lx oT->lx oT->Hp->VK->Prop)(te:TE)(tl th:TO):TE:=λa H Q=>te a H λx b=>tl a b λl c=>th a c λu d=>r x l u d Q
def v9(c:SlR X r)(d:PE X e te)(f:PO X lo tl)(g:PO X hi th):PE X (.Subscript e (.Slice lo hi hV p2) pos) (tSl r te tl th):=by
 intro ij s a H Q I h;show T7 (thP (d ij s a H _ I h) λv i x j m n o=>wpAny_Slice (thP (f ij i a j _ m o) λp w l y z pl A=>thP (g ij w a y _ z A) λB C u E G J L=>Z3 ?_));let%[T,id,M,N|O]:=c ij _ a E x v p B l u ⇑C Q (G.kept λb U q=>Z7 _ q) n (Sr ..) pl J L;show tail_any N M O (by with_unfolding_all rfl)
abbrev kb(xs:hH V)(lo hi:lx oT):hH V:=(xs.drop (_HT.sIx xs.length 0 lo)).take (_HT.sIx xs.length xs.length hi-_HT.sIx xs.length 0 lo)
def nE(xs:hH V)(lo hi:lx oT): ~~~(kb xs lo hi)<= ~~~xs:=by
 unfold kb;rw[Yl,Yh]
 lia
abbrev Je(K:ZA):V->lx oT->lx oT->Hp->VK->Prop:=λx lo hi H Q=>∃a xs,x= .ref a/\SqT K H a xs/\
 ¬ (_HT.sIx xs.length 0 lo=0/\_HT.sIx xs.length xs.length hi= ~~~xs)/\∀p,H p=hV->Q (.ref p) (Qa H p (.tup (kb xs lo hi)))
def Jf:SlR X (Je X.K):=by
 intro ij s m H x v n o lo hi p Q I g i pl j h;let%[a,xs,rfl,l,hw|q]:=h;cases g;let%[its,r,d|f]:=I.tuple l;let c:its.toArray.size= ~~~xs:=r.length.symm;show%["tuple",_,Og.lookup,d.typeIs|_HT.getItem_tuple_cut d i pl j (c▸hw) ?_ (c▸f)];rw[c];show%[.ref ⇑s,_,I.laid (λb u q=>Z7 _ q) (Zi _) ?_,ρ|q _ (I.hok.fresh (Zi _))];show%[nI (nE xs lo hi) f,_,(r.drop _).take _|IsTup.new _ _]
end
abbrev ixN(n:jg)(i:oT):lx jg:=if 0<=i then(if i<n then hX i.toNat else hV)else if -n<=i then hX (i+n).toNat else hV
abbrev atI{a:Type}(xs:hH a)(i:oT):lx a:=(ixN xs.length i).bind λj=>xs[j]?
def F8(h:ixN n i∣j):seqIndex? i n∣j/\j<n/\ -(n:oT)<=i/\i<n:=by
 unfold ixN at h;by_cases b:0<=i
 .rw[lX b]at h;by_cases a:i<n
  .rw[lX a]at h;show%[by rw[seqIndex_of b a,(Za h)],⋯,⋯|a]
  simp_all
 .rw[kw b]at h;by_cases a: -n<=i
  .rw[lX a]at h;show%[by rw[seqIndex_neg ⋯ a,(Za h)],⋯,a|⋯]
  .rw[kw a]at h;cases h
def uL{a:Type}{xs:hH a}{i:oT}{v:a}(h:atI xs i∣v):∃j,seqIndex? i xs.length∣j/\xs[j]?∣v/\j< ~~~xs/\ -xs.length<=i/\i< ~~~xs:=by
 unfold atI at h;cases e:ixN xs.length i with
 | none=>simp_all
 | some j=>
   rw[e]at h;let%[b,c,d|f]:=F8 e;show%[j,b,h,c,d|f]
def bu{a:Type}{xs:hH a}{j:jg}{v:a}(h:xs[j]?∣v):atI xs j∣v:=by
 let b:=(Xm h).1;let e:ixN xs.length j∣j:=by
  unfold ixN
  simp_all
 unfold atI;show e▸h
def wa(xs:hH a)(v:a):atI (xs++[v]) (-1)∣v:=by
 let b: ~~~(xs++[v])= ~~~xs+1:=by simp
 let e:ixN (xs++[v]).length (-1)∣xs.length:=by
  unfold ixN;rw[b,kw (!1),lX ⋯]
  congr 1
  lia
 unfold atI
 simp_all
abbrev oH(b:yu):Prop:=∀o i,Ti b iv o i=operate [o,i] (RP o i)
abbrev IxR(X:Cx)(r:R2):Prop:=
 ∀b a ij s (c:St) H x y v u Q,Qc X ij c H s->aX x v->aX y u->r x y H Q->
  Ti a iv v u=operate [v,u] (RP v u)->(X⁻¹) (subscriptTail b a v u) (EP X ij c Q) X.xe s
abbrev MtR(X:Cx)(id:M5)(r:V->hH V->Hp->VK->Prop):Prop:=
 ∀ij s (a:St) H x xs v us Q,Qc X ij a H s->aX x v->aM xs us->r x xs H Q->
  (X⁻¹) (call (.builtin id) (v::us)) (EP X ij a Q) X.xe s
section
variable{X:Cx}{a b:yu}{ta tb:TE}{pos:Pos}
def C9(c:IxR X r)(d:PE X a ta)(e:PE X b tb)(f:oH b):PE X (.Subscript a b pos) (tOp r ta tb):=by
 intro ij s g H Q I h;show T7 (IK d e I h λv u i x y j l m n q=>c a b ij i g j x y v u Q l m n q (f _ _))
abbrev Jg(K:ZA):R2:=λx y H Q=>asR x λp=>asI y λi=>∃xs,Qb K H p xs/\∃v,atI xs i∣v/\Q v H
abbrev Jh(K:ZA):R2:=λx y H Q=>asR x λp=>asI y λi=>∃xs,SqT K H p xs/\∃v,atI xs i∣v/\Q v H
abbrev Ji:R2:=λx y H Q=>asS x λz=>asI y λi=> ~~~z<=md/\∃c,atI z.cps.toList i∣c/\Q (.str ⟨#[c]⟩) H
def F9:IxR X (Jg X.K):=by
 intro d e ij s A H x y v u Q I B C h m;let%[p,rfl|f]:=aS h;let%[i,rfl,xs,E,z,G|q]:=dC f;cases B;let%[t|rfl]:=C;let%[its,r,pl|N]:=I.list E;let%[j,c,f,O,J|L]:=uL G;let%[w,n|g]:=r.get f;let M:= ~~~r;let T:=uI;let fin:EP X ij A Q w s:=%[z,H,I,g|q]
 by_cases o:0<=i
 .let l:=by
   rw[seqIndex_of o L]at c;show Za c
  show item_listR pl.isList o ⋯ (by rw[l];simpa using n) fin m
 .let l:(i+its.toArray.size).toNat=j:=by
   rw[seqIndex_neg ⋯ J]at c;rw[Zp,<-M];show Za c
  show UP pl.isList.typeIs Sy.lookup
   (wpAny_getItem_list_neg pl.isList ⋯ (!2) ⋯ (by rw[l];simpa using n) %[rfl|fin]) m
def Jj:IxR X (Jh X.K):=by
 intro c d ij s g H x y v u Q I l m h n;let%[p,rfl|e]:=aS h;let%[i,rfl,xs,o,z,A|q]:=dC e;cases l;let%[t|rfl]:=m;let%[its,r,pl|E]:=I.tuple o;let%[j,B,e,G,J|L]:=uL A;let%[w,C|f]:=r.get e;let M:=uI;let fin:EP X ij g Q w s:=%[z,H,I,f|q]
 show UP pl.typeIs slot_tuple_getitem.lookup
  (getItem_tuple pl ⋯ ⋯ (by rw[Zp,<-r.length];show B) ↑C %[rfl|fin]) n
def Jk:IxR X Ji:=by
 intro d e ij s C H x y v u Q I m n h o;let%[z,rfl|f]:=eO h;let%[i,rfl|g]:=dC f;let%[E,c,p|q]:=g;let%[t|rfl]:=m;let%[t'|rfl]:=n;let%[j,l,r,G,w|A]:=uL p;let B: ~~~z.cps.toList= ~~~z:=by simp[U1]
 rw[B]at l w A;let J:=uI;show tail_any (OD s z t) slot_str_getitem.lookup (getItem_str (by
  lia) (by rw[l];simpa using r) %[.str _,H,I.tok _,%[_|rfl]|q]) o
def uM(lo hi:lx oT)(n:jg):(NZ lo hi hV n).1=((_HT.sIx n 0 lo:jg):oT)/\(NZ lo hi hV n).2.1=((_HT.sIx n n hi:jg):oT)/\(NZ lo hi hV n).2.2=1:=by
 show%[?_,?_|ρ]
 .cases lo with
  | none=>simp[NZ,_HT.sIx]
  | some i=>
    simp only[NZ,_HT.sIx,getD_none,show(1:oT)>0 by decide,Qp];by_cases h:i<0
    .simp only[h,Qp]<;> lia
    .simp only[h,Op]<;> lia
 .cases hi with
  | none=>simp[NZ,_HT.sIx]
  | some i=>
    simp only[NZ,_HT.sIx,getD_none,show(1:oT)>0 by decide,Qp];by_cases h:i<0
    .simp only[h,Qp]<;> lia
    .simp only[h,Op]<;> lia
def rC(its:ZF)(lo hi:lx oT):WY its.toArray lo hi hV=((its.drop (_HT.sIx its.length 0 lo)).take (_HT.sIx its.length its.length hi-_HT.sIx its.length 0 lo)).toArray:=by
 let%[c,d|e]:=uM lo hi its.toArray.size;unfold WY;rw[c,d,e];simp only[sliceRange_one,pick_run]<;> rfl
abbrev Jl(K:ZA):V->lx oT->lx oT->Hp->VK->Prop:=λx lo hi H Q=>asR x λa=>∃xs,Qb K H a xs/\∀p,H p=hV->Q (.ref p) (Qa H p (.lst (kb xs lo hi)))
def Ga:SlR X (Jl X.K):=by
 intro ij s m H x v n o lo hi p Q I f g pl i h;let%[a,rfl|d]:=aS h;let%[xs,j|q]:=d;cases f;let%[its,r,e|l]:=I.list j;let c:= ~~~r;show%["list",_,Sy.lookup,e.isList.typeIs|Us e.isList g pl i .none ∅ ?_ (!2)];rw[rC,<-c];show%[.ref ⇑s,_,I.laid (λb u q=>Z7 _ q) (Zi _) ?_,ρ|q _ (I.hok.fresh (Zi _))];show%[nI (nE xs lo hi) l,_,0,(r.drop _).take _|Zj _ rfl]
abbrev kh:V->ri
 | .non=>hY
 | .bl _=>hY
 | .int _=>hY
 | .str _=>hY
 | _=>iv
abbrev eqV:V->V->ri
 | .non,.non=>hY
 | .bl a,.bl b=>a==b
 | .bl a,.int b=>(if a then 1 else 0)==b
 | .int a,.bl b=>a==(if b then 1 else 0)
 | .int a,.int b=>a==b
 | .str a,.str b=>a==b
 | _,_=>iv
def Da(d:aX y u)(c:aX x v)(f:kh y=hY)(e:kh x=hY):MB A s u v (eqV y x):=by
 cases y with
 | non=>
   cases d;cases x with
   | non=>cases c;show Vo _
   | bl b=>cases c;show MB.none_bool b
   | int b=>have%[t|rfl]:=c;show MB.none_int b t
   | str b=>have%[t|rfl]:=c;show MB.none_str b t
   | _=>show n0 (show iv=hY from e) Zt
 | bl a=>
   cases d;cases x with
   | non=>cases c;show MB.bool_none a
   | bl b=>cases c;show MB.bool_bool a b
   | int b=>have%[t|rfl]:=c;show MB.bool_int a b t
   | str b=>have%[t|rfl]:=c;show MB.bool_str a b t
   | _=>show n0 (show iv=hY from e) Zt
 | int a=>
   let%[t'|rfl]:=d;cases x with
   | non=>cases c;show MB.int_none a t'
   | bl b=>cases c;show MB.int_bool a t' b
   | int b=>have%[t|rfl]:=c;show MB.int_int a t' b t
   | str b=>have%[t|rfl]:=c;show Tp a t' b t
   | _=>show n0 (show iv=hY from e) Zt
 | str a=>
   let%[t'|rfl]:=d;cases x with
   | non=>cases c;show MB.str_none a t'
   | bl b=>cases c;show MB.str_bool a t' b
   | int b=>have%[t|rfl]:=c;show To a t' b t
   | str b=>have%[t|rfl]:=c;show MB.str_str a t' b t
   | _=>show n0 (show iv=hY from e) Zt
 | _=>show n0 (show iv=hY from f) Zt
abbrev eqU(x:V)(u:kj):ri:=match u with
 | .none=>eqV .non x
 | .bool b=>eqV (.bl b) x
 | .int i _=>eqV (.int i) x
 | .str z _=>eqV (.str z) x
 | _=>iv
def Db(r:aX y u)(f:kh y=hY):eqU x u=eqV y x:=by
 cases y with
 | non=>cases r;rfl
 | bl b=>cases r;rfl
 | int i=>have%[t|rfl]:=r;rfl
 | str z=>have%[t|rfl]:=r;rfl
 | _=>show n0 (show iv=hY from f) Zt
def lv:∀{xs:hH V} {us:ZF},aM xs us->xs.all kh=hY->us.any (eqU x)=xs.any λy=>eqV y x
 | _,_,.nil,_=>rfl
 | y::xs,u::us,.cons r t,f=>by
   rw[VJ,Zv]at f;rw[Zw,Zw,Db r f.1,lv t f.2]
def jw(d:aX x v)(e:kh x=hY):∀{xs:hH V} {us:ZF},aM xs us->xs.all kh=hY->∀u∈us,MB A s u v (eqU x u)
 | _,_,.nil,_=>λu c=>by cases c
 | y::xs,u::us,.cons r t,f=>λg c=>by
   rw[VJ,Zv]at f;rcases Yw.mp c with rfl|c
   .rw[Db r f.1];show Da r d f.1 e
   .show jw d e t f.2 g c
abbrev inV(x:V)(xs:hH V):ri:=xs.any λy=>eqV y x
abbrev rIn(K:ZA)(c:ri):R2:=λx y H Q=>asR y λp=>∃xs,(Qb K H p xs\/SqT K H p xs)/\kh x=hY/\xs.all kh=hY/\Q (.bl (bif c then !inV x xs else inV x xs)) H
def sK:OpR X (pp .In) (rIn X.K iv):=by
 intro ij s j H x y v u Q I e g h;let%[p,rfl|d]:=aS h;let%[xs,c,f,fs|q]:=d;cases g;rcases c with c|c
 .let%[its,r,pl|i]:=I.list c;show SeqAt.in_listAt _ pl.isList (λw hw=>jw e f r fs w ↑hw) %[.bl _,H,I,rfl|?_];rw[show its.toArray.any _=its.any (eqU x) by simp,lv r fs];show q
 .let%[its,r,pl|i]:=I.tuple c;show SeqAt.in_tupleAt _ pl (λw hw=>jw e f r fs w ↑hw) %[.bl _,H,I,rfl|?_];rw[show its.toArray.any _=its.any (eqU x) by simp,lv r fs];show q
def uN:OpR X (pp .NotIn) (rIn X.K hY):=by
 intro ij s j H x y v u Q I e g h;let%[p,rfl|d]:=aS h;let%[xs,c,f,fs|q]:=d;cases g;rcases c with c|c
 .let%[its,r,pl|i]:=I.list c;show SeqAt.notIn_listAt _ pl.isList (λw hw=>jw e f r fs w ↑hw) %[.bl _,H,I,rfl|?_];rw[show its.toArray.any _=its.any (eqU x) by simp,lv r fs];show q
 .let%[its,r,pl|i]:=I.tuple c;show SeqAt.notIn_tupleAt _ pl (λw hw=>jw e f r fs w ↑hw) %[.bl _,H,I,rfl|?_];rw[show its.toArray.any _=its.any (eqU x) by simp,lv r fs];show q
def uO:OpR X (pp .NotIn) (λx y H Q=>asS x λi=>asS y λj=>Q (.bl (!(!(J0 j i 0 j.length 1).isEmpty))) H):=by
 intro ij s g H x y v u Q I e f h;let%[i,rfl|c]:=eO h;let%[j,rfl|d]:=eO c;let q:=d;let%[t|rfl]:=e;let%[t'|rfl]:=f;show notIn_str %[.bl _,H,I,rfl|q]
def uP:cE X (.type "list") (λxs H Q=>db xs λA=>asR A λp=>∃ys,(Qb X.K H p ys\/SqT X.K H p ys)/\∀l,H l=hV->Q (.ref l) (Qa H l (.lst ys))):=by
 intro ij s C H xs us Q I r h;let%[A,rfl|m]:=cc h;let%[p,rfl|v]:=aS m;let%[ys,f|q]:=v;let%[u,rfl|E]:=dD r;cases E;let fin:∀its,aM ys its-> ~~~ys<=md->∀h' d,(∀b B,s.heap.get? b∣B->h'.get? b∣B)->
  h'.get? ⇑s∣_->EP X ij C Q _ {s with heap:=h'}:=λits c g h' d i e=>
  %[.ref ⇑s,_,I.laid i (Zi _) (show cD X.prog X.w _ h' _ (.lst ys)from%[g,its,d,c|e]),rfl|q _ (I.hok.fresh (Zi _))]
 rcases f with f|f
 .let%[its,c,pl|g]:=I.list f;let j:= ~~~c;let%[o,w,y,n|z]:=pl.isList;show call_list_seq p (.inl rfl) w y z (λh' d i e=>fin its c g h' d i e) (by simp only[Zp]<;> lia)
 .let%[its,c,pl|g]:=I.tuple f;let j:= ~~~c;let%[o,w,y,n|z]:=pl;show call_list_seq p (.inr rfl) w y z (λh' d i e=>fin its c g h' d i e) (by simp only[Zp]<;> lia)
abbrev tyV(K:ZA)(T:M5)(x:V)(H:Hp):Prop:=match x with
 | .str _=>T="str"
 | .int _=>T="int"
 | .ref p=>(T="list"/\∃xs,Qb K H p xs)\/(T="tuple"/\∃o,K.lookup p∣o/\o.cls= .type "tuple"/\o.dict=hV)\/
  (T="dict"/\((∃c,H p∣.dK c)\/∃c,H p∣.dT c))\/(T="set"/\∃S n,H p∣.set S n)
 | _=>J5
def Dc(I:Qc X ij q H s)(r:aX x v)(ty:tyV X.K T x H):
 s.TypeIs v T/\∀a,v= .ref a->∃j,s.heap.get? a∣j/\j.dict=hV:=by
 cases x with
 | str z=>
   let%[t|rfl]:=r;cases(show T="str" from ty);show%[OD s z t|λ_ e=>nomatch e]
 | int i=>
   let%[t|rfl]:=r;cases(show T="int" from ty);show%[V8 s i t|λ_ e=>nomatch e]
 | ref p=>
   cases r;rcases ty with⟨rfl,xs,l⟩|⟨rfl,o,d,m,f⟩|⟨rfl,d⟩|⟨rfl,S,n,d⟩
   .let%[its,_,pl|_]:=I.list l;show%[pl.isList.typeIs|λa e=>?_];cases e;let%[o,n,e,c,f|_]:=pl;show%[o,e|f]
   .show%[%[o,I.kIn p o d|m]|λa e=>?_];cases e;show%[o,I.kIn _ o d|f]
   .let z:∃o,s.heap.get? p∣o/\o.ExactDict:=by
     rcases d with⟨g,d⟩|⟨g,d⟩
     .let%[_,_,_,_,o,_,_,e,ex|_]:=I.hok p _ d;show%[o,e|ex]
     .let%[_,_,_,_,o,_,_,e,ex|_]:=I.hok p _ d;show%[o,e|ex]
    let%[o,e|ex]:=z;show%[%[o,e|ex.1]|λa h=>?_];cases h;show%[o,e|ex.2.1]
   .let%[o,_,_,_,e,ex|_]:=I.hok p _ d;show%[%[o,e|ex.1]|λa h=>?_];cases h;show%[o,e|ex.2.1]
 | _=>show MM ty
abbrev Gb(K:ZA)(T:M5)(r:V->hH V->Hp->VK->Prop)(d:TE):TE:=λe H Q=>d e H λx c=>tyV K T x c/\r x [] c Q
abbrev tBM(K:ZA)(T:M5)(r:V->hH V->Hp->VK->Prop)(e:TE)(t:TA):TE:=λc H Q=>e c H λx d=>tyV K T x d/\t c d λxs f=>r x xs f Q
variable{o e:yu}{es:hH yu}{to:TE}{t:TA}{name:lp}{apos cpos:Pos}{T id:M5}{r:V->hH V->Hp->VK->Prop}
def Jm(l:Pi T)(slot:Slot T name id)(f:Pu (.builtin id)=pure (.type "method_descriptor"))(m:MtR X id r)(n:PE X o to)
 (c:Nj o name X.env (MZ o X.env)=MZ o X.env) (d:(apos.endLine==cpos.line)=hY):PE X (.Call (.Attribute o name apos) [] [] cpos) (Gb X.K T r to):=by
 intro ij s g H Q I h;show wpAny_Call_method0_late c d (thP (n ij s g H _ I h) λv p x q i j ⟨ty,u⟩=>?_);let%[w|y]:=Dc i j ty;show%[T,id,l,slot,f,w,y|TB rfl (PySem.evalArgs_none (m ij p g q x [] v [] Q i j .nil u))]
def Li(p:Pi T)(slot:Slot T name id)(i:Pu (.builtin id)=pure (.type "method_descriptor"))(q:MtR X id r)(u:PE X o to)(w:PA X (e::es) t)
 (d:Nj o name X.env (MZ o X.env)=MZ o X.env)
 (g:((Nt cpos (vi (e::es) X.env)).all (λx=>!x.1)&&(Qh cpos (Od [] X.env)).all (λx=>x.1.isSome)
  && decide (~~~(e::es)+ ~~~([]:hH O5)+(if([]:hH O5).isEmpty then 0 else 1)<30))=hY)
 (f:(apos.endLine==cpos.line)=hY) (y:vi (e::es) X.env=(iv,MZ e X.env)::vi es X.env) (c:(Nt cpos (vi es X.env)).any (·.1)=iv):
 PE X (.Call (.Attribute o name apos) (e::es) [] cpos) (tBM X.K T r to t):=by
 intro ij s j H Q I h;show wpAny_Call_method_late d g f rfl (thP (u ij s j H _ I h) λv z x A l m ⟨ty,B⟩=>?_);let%[C|E]:=Dc l m ty;show%[T,id,p,slot,i,C,E|?_];let n:=w cpos ij z j A _ l B;rw[y]at n ⊢;show TB (by change(iv||(Nt cpos _).any _)=iv;rw[c]<;> rfl) (Calls.evalArgs_plain (thn n λus G ⟨vs,J,L,M,N⟩=>q ij G j J x vs v us Q L m M N))
end
abbrev MtM(X:Cx)(id:M5)(r:V->hH V->Hp->VK->Prop):Prop:=
 ∀ij s (a:St) H x xs v us Q,Qc X ij a H s->aX x v->aM xs us->r x xs H Q->
  (X⁻¹) (call (.builtin id) (v::us)) (EP X ij a Q) X.xe s
def aM.one:∀{x:V} {us:ZF},aM [x] us->∃u,us=[u]/\aX x u
 | _,_,.cons r .nil=>%[_,rfl|r]
def aM.zero:∀{us:ZF},aM [] us->us=[]
 | _,.nil=>rfl
def aM.eraseIdx:∀{xs:hH V} {us:ZF} i,aM xs us->aM (xs.eraseIdx i) (us.eraseIdx i)
 | _,_,_,.nil=> .nil
 | _,_,0,.cons _ t=>t
 | _,_,i+1,.cons r t=> .cons r (aM.eraseIdx i t)
def aM.reverse(h:aM xs us):aM xs.reverse us.reverse:=by
 induction h with
 | nil=>show .nil
 | cons r t a=>rw[RS,RS];show aM.append a (.cons r .nil)
def aM.rep(h:aM xs us):∀k:jg,aM (G2 k xs).flatten (G2 k us).flatten
 | 0=> .nil
 | k+1=>by
   show aM.append h (aM.rep h k)
def sM:∀(l:hH a) (i:jg),~~~(l.eraseIdx i)<= ~~~l
 |[],_=>Zi _
 | _::_,0=>Yg _
 | _::r,i+1=>X9 (sM r i)
def sN(its:ZF):∀k acc,
 UM (λa x2=>a++x2) acc.toArray (G2 k its.toArray)=(acc++(G2 k its).flatten).toArray
 | 0,acc=>by simp
 | k+1,acc=>by
   let e:acc.toArray++its.toArray=(acc++its).toArray:=by simp
   let b:(acc++its) ++(G2 k its).flatten=acc++(G2 (k+1) its).flatten:=by
    rw[Rv,U7,Ze]
   rw[<-b,<-sN its k _,<-e,Rv,Y8]
section
variable{X:Cx}{ij:ZE}{σ:St}{H:Hp}{s:Shared}
variable{l b:ku}{xs ys zs:hH V}
def Qc.lset{its its':ZF}{n:jg}{f:ZJ->ZJ}{t':jg}(I:Qc X ij σ H s)(a:H l<*xs)
 (e:s.heap.get? l=hX {cls:= .type "list",data:= .seq its.toArray n}) (c:f its.toArray=its'.toArray) (d:aM ys its') (g: ~~~ys<=md):
 Qc X ij σ (Qa H l (.lst ys)) {s with heap:=s.heap.update l (NA f),toks:=t'}:=by
 let q:=PySem.IsL.update e f;rw[c]at q;show I.write (a▸trivial) (.inl rfl) (λj u h i=>(MK s.heap _ (I0 h)).trans i) %[_|q] ?_;show%[g,its',_,d|q]
def Qc.lnew(I:Qc X ij σ H s)(a:aM ys its)(c: ~~~ys<=md):
 Qc X ij σ (Qa H ⇑s (.lst ys)) {s with heap:=s.heap.push {cls:= .type "list",data:= .seq its.toArray},toks:=t'}:=
 I.laid (λ_ _ q=>Z7 _ q) (Zi _) %[c,its,0,a|Zj _ rfl]
def Qc.fresh(I:Qc X ij σ H s):H ⇑s=hV:=I.hok.fresh (Zi _)
def Qc.lstM(I:Qc X ij σ H s)(a:H l<*xs): ~~~xs<=md/\∃its n,aM xs its/\ ~~~xs= ~~~its/\s.heap.get? l=hX {cls:= .type "list",data:= .seq its.toArray n}:=by
 let%[z,its,n,r|e]:=I.hok l _ a;show%[z,its,n,r,~~~r|e]
def wb{n:jg}(h:n<=md):N4 n=iv:=by
 unfold N4
 simp_all
end
section
variable{X:Cx}
abbrev uQ:V->hH V->Hp->VK->Prop:=λx vs H Q=>asR x λl=>db vs λy=>∃xs,H l<*xs/\ ~~~xs<md/\Q .non (Qa H l (.lst (xs++[y])))
def sO:MtM X "list.append" uQ:=by
 intro ij s g H x vs v us Q I b c h;let%[l,rfl|d]:=aS h;let%[y,rfl,xs,a,i|q]:=cc d;cases b;let%[u,rfl|f]:=c.one;let%[z,its,n,r,j|e]:=I.lstM a;show OG F.slot_list_append %[_,e|rfl] F.entry_list_append (F.args_list_append_2 _ _) (PySem.list_append l its.toArray n u (!2)) %[e,.non,_,I.lset a e ∅ (r.append (.cons f .nil)) ?_,rfl|q];rw[Z9,Yk]
 lia
abbrev uR:V->hH V->Hp->VK->Prop:=λx vs H Q=>asR x λl=>db vs λa=>asR a λb=>∃xs,H l<*xs/\∃zs,H b<*zs/\ ~~~xs+ ~~~zs<=md/\Q .non (Qa H l (.lst (xs++zs)))
def Bx:MtM X "list.extend" uR:=by
 intro ij s C H x vs v us Q I j m h;let%[l,rfl|c]:=aS h;let%[E,rfl|d]:=cc c;let%[b,rfl|f]:=aS d;let%[xs,i,zs,o,G|q]:=f;cases j;let%[u,rfl|p]:=m.one;cases p;let%[z,its,n,r,J|e]:=I.lstM i;let%[L,its2,w,y,A|B]:=I.lstM o;let g:its.toArray.size+its2.toArray.size<=md:=!2
 let a: ¬ (!its.toArray.isEmpty&&N4 (its.toArray.size+its2.toArray.size))=hY:=by
  rw[wb g,Ni];show Zt
 show OG F.slot_list_extend %[_,e|rfl] F.entry_list_extend (F.args_list_extend_2 _ _)
  (AutoSeq1.list_extend_list_list_0 l its.toArray n b its2.toArray w a ⋯ ⋯) %[e,B,.non,_,I.lset i e ∅ (r.append y) ?_,rfl|q]
 simp_all
abbrev yE:V->hH V->Hp->VK->Prop:=λx vs H Q=>asR x λl=>Il vs (∃xs,H l<*xs/\Q .non (Qa H l (.lst [])))
def Dd:MtM X "list.clear" yE:=by
 intro ij s i H x vs v us Q I f g h;let%[l,rfl|a]:=aS h;let%[rfl|b]:=Io a;let%[xs,d|q]:=b;cases f;let c:=g.zero;subst c;let%[z,its,n,r,j|e]:=I.lstM d;show OG F.slot_list_clear %[_,e|rfl] F.entry_list_clear (F.args_list_clear_1 _) (AutoSeq1.list_clear_list_0 l its.toArray n (by rw[Zp];lia)) %[e,.non,_,I.lset d e rfl .nil (Xf _),rfl|q]
abbrev Jn:R2:=λx y H Q=>asR x λl=>asR y λb=>∃xs,H l<*xs/\∃zs,H b<*zs/\ ~~~xs+ ~~~zs<=md/\∀p,H p=hV->Q (.ref p) (Qa H p (.lst (xs++zs)))
def Jo:OpR X (M7 .Add) Jn:=by
 intro ij s w H x y v u Q I d f h;let%[l,rfl|a]:=aS h;let%[b,rfl|c]:=aS a;let%[xs,g,zs,i,A|q]:=c;cases d;cases f;let%[z,its,n,r,B|e]:=I.lstM g;let%[C,its2,E,j,m|o]:=I.lstM i;show PySem.P.add_list e o ?_ (by rw[Zp,Zp];lia);let p:its.toArray++its2.toArray=(its++its2).toArray:=by simp
 rw[p];show%[.ref _,_,I.lnew (r.append j) (by rw[Z9];lia),ρ|q _ I.fresh]
abbrev Jp:R2:=λx y H Q=>asR x λl=>asI y λk=>∃xs,H l<*xs/\ -(2^63)<=k/\k<2^63/\ ~~~xs*k.toNat<=md/\∀p,H p=hV->Q (.ref p) (Qa H p (.lst (G2 k.toNat xs).flatten))
def Gc(xs:hH a)(k:jg):(G2 k xs).flatten.length=k* ~~~xs:=by
 simp
def Jq:OpR X (M7 .Mult) Jp:=by
 intro ij s J H x y v u Q I w A h;let%[l,rfl|i]:=aS h;let%[k,rfl|j]:=dC i;let%[xs,B,C,E,p|q]:=j;cases w;let%[t|rfl]:=A;let%[z,its,n,r,G|e]:=I.lstM B;let c:its.toArray.size*k.toNat<=md:=by rw[Zp,<-G];show p
 let d: ¬ its.toArray.size*k.toNat>(2^63-1)/8:=by
  let:md<=(2^63-1)/8:=!1
  lia
 let f: ¬ (!Builtin.List.listFitsIndex k)=hY:=by
  rw[fitsIndex_both C E];show Zt
 let b: ¬ N4 (its.toArray.size*k.toNat)=hY:=by
  rw[wb c];show Zt
 let g:UM (λo x2=>o++x2) #[] (G2 (if its.toArray.isEmpty=hY then 0 else k.toNat) its.toArray)=(G2 k.toNat its).flatten.toArray:=by
  let L:∀m,UM (λo x2=>o++x2) #[] (G2 m its.toArray)=(G2 m its).flatten.toArray:=λm=>by
   let:=sN its m []
   simp_all
  cases its with
  | nil=>simp
  | cons a M=>simp_all
 show wpAny_binaryOp_repeat_ref (!1) %[_,e|rfl] (λs'=>V8 s' k t) noFill_list_mul F.fills_int_mul WL repeat_list F.slot_int_index.lookup
  (OG WL (V8 s k t) F.entry_int_rmul (F.args_int_rmul_2 _ _) (int___rmul___int_list k t l its.toArray n)
   %[e,rfl,%[_,e|rfl]|OG F.slot_list_mul %[_,e|rfl] F.entry_list_mul (F.args_list_mul_2 _ _) (AutoListH.list___mul___list_int_3 l its.toArray n k t f d b) %[e|?_]])
 rw[g];show%[.ref _,_,I.lnew (r.rep k.toNat) (by rw[Gc,jg.mul_comm];show p),ρ|q _ I.fresh]
variable{prog:Program}{w:World}{A:Around}{E:ZD}{s:Shared}
end
section
variable{κ:Type}[MP κ]
abbrev bX(a:hH (κ×V))(k:κ):lx V:=(a.find? λb=>decide (b.1=k))\2
abbrev dc(a:hH (κ×V))(k:κ)(v:V):hH (κ×V):=
 if(a.any λb=>decide (b.1=k))=hY then a.map (λb=>if b.1=k then(b.1,v)else b)else a++[(k,v)]
def eR{p:κ×V}{r:hH _}{k:κ}(e:p.1=k):bX (p::r) k∣p.2:=by simp[bX,e]
def di{p:κ×V}{r:hH _}{k:κ}(e: ¬ p.1=k):bX (p::r) k=bX r k:=by simp[bX,e]
def jx(k:κ):∀a,(a.any λb=>decide (b.1=k))=(bX a k).isSome
 |[]=>rfl
 | p::r=>by
   rw[Zw];by_cases e:p.1=k
   .simp only[eR e,Zf e,TK,lx.isSome_some]
   .rw[di e,Zh e,Tr];show jx k r
def gO(a:hH _)(k:κ)(v:V): ~~~(dc a k v)<= ~~~a+1:=by
 unfold dc
 split
 .simp
 simp_all
def dX{k:κ}(v:V)(h:bX a k=hV):dc a k v=a++[(k,v)]:=by
 unfold dc;rw[jx,h];show kw (!1)
def io.isSome_eq(r:io o u):o.isSome=u.isSome:=by
 cases o with
 | none=>cases u with
   | none=>rfl
   | some _=>show(r).elim
 | some _=>cases u with
   | none=>show(r).elim
   | some _=>rfl
def io.getD{o:lx V}{u:lx kj}{d:V}{a:kj}(r:io o u)(b:aX d a):aX (o.getD d) (u.getD a):=by
 cases o with
 | none=>cases u with
   | none=>show b
   | some _=>show(r).elim
 | some _=>cases u with
   | none=>show(r).elim
   | some _=>show r
def KV.val{vs:hH (κ×kj)}(r:KV a vs)(k:κ):io (bX a k) (Sx vs k):=by
 induction r with
 | nil=>show MQ
 | @cons p q ps qs h t f=>
   let%[d|g]:=h;by_cases e:p.1=k
   .let c:=d.symm.trans e;let b:Sx (q::qs) k∣q.2:=by simp[Sx,c]
    rw[eR e,b];show g
   .let c: ¬ q.1=k:=λz=>e (d.trans z)
    let b:Sx (q::qs) k=Sx qs k:=by simp[Sx,c]
    rw[di e,b];show f
def KV.any(r:KV a vs)(k:κ):(a.any λb=>decide (b.1=k))=vs.any λb=>decide (b.1=k):=by
 induction r with
 | nil=>rfl
 | cons h t c=>simp_all
def KV.repl(r:KV c vs)(k:κ)(d:aX y u):
 KV (c.map λa=>if a.1=k then(a.1,y)else a) (vs.map λa=>if a.1=k then(a.1,u)else a):=by
 induction r with
 | nil=>show .nil
 | @cons p q ps qs h t f=>
   rw[Yq,Yq];show .cons ?_ f;let%[b|g]:=h;by_cases e:p.1=k
   .rw[lX e,lX (b.symm.trans e)];show%[b|d]
   .rw[kw e,kw (λz=>e (b.trans z))];show%[b|g]
def KV.put(r:KV a vs)(k:κ)(b:aX y u):KV (dc a k y) (stored vs k u):=by
 unfold dc stored;rw[r.any k];by_cases e:(vs.any λc=>decide (c.1=k))=hY
 .rw[lX e,lX e];show r.repl k b
 .rw[kw e,kw e];show Paired.snoc r %[rfl|b]
def KV.keys{a:hH (κ×V)}{vs:hH (κ×kj)}(r:KV a vs):a\1=vs\1:=by
 induction r with
 | nil=>rfl
 | cons h t b=>simp_all
def KV.length{a:hH (κ×V)}{vs:hH _}(r:KV a vs): ~~~a= ~~~vs:=Paired.length r
end
def oY{P:nY}(r:aX (kV k) u):(aT P w).is k u=hY:=by
 cases k with
 | inl i=>have%[t|e]:=(r);subst e;show v4 P w i t
 | inr x=>have%[t|e]:=(r);subst e;show v5 P w x t
def sP{P:nY}:∀{ks:hH Key} {us:ZF},aM (ks.map kV) us->ItemsAre (aT P w) ks us
 |[],_,r=>by cases r;show .nil
 | k::ks,_,r=>by
   cases r with
   | cons h t=>show .cons (oY h) (sP t)
noncomputable abbrev KT(H:Hp):hH (hH Key×V)->hH (hH Key×ku×kj)->Prop:=Paired λp q=>p.1=q.1/\H q.2.1&&&p.1.map kV/\aX p.2 q.2.2
def KT.val{a:hH (hH Key×V)}{xs:hH (hH Key×ku×kj)}(r:KT H a xs)(k:hH Key):io (bX a k) ((UH xs k)\2):=by
 induction r with
 | nil=>show MQ
 | @cons p q ps qs h t f=>
   let%[d,_|g]:=h;by_cases e:p.1=k
   .let c:=d.symm.trans e;let b:UH (q::qs) k∣q.2:=by simp[UH,c]
    rw[eR e,b];show g
   .let c: ¬ q.1=k:=λz=>e (d.trans z)
    let b:UH (q::qs) k=UH qs k:=by simp[UH,c]
    rw[di e,b];show f
def KT.repl(r:KT H b xs)(k:hH Key)(f:aX y u):
 KT H (b.map λc=>if c.1=k then(c.1,y)else c) (xs.map (putAt k u)):=by
 induction r with
 | nil=>show .nil
 | @cons p q ps qs h t g=>
   rw[Yq,Yq];show .cons ?_ g;let%[a,d|i]:=h;unfold putAt;by_cases e:p.1=k
   .rw[lX e,lX (a.symm.trans e)];show%[a,d|f]
   .rw[kw e,kw (λz=>e (a.trans z))];show%[a,d|i]
def KT.put(r:KT H a xs)(k:hH Key)(d:H b&&&k.map kV)(c:aX y u):
 KT H (dc a k y) (storedH xs k b u):=by
 let e:(a.any λf=>decide (f.1=k))=(UH xs k).isSome:=by
  rw[jx,(r.val k).isSome_eq,Wd]
 unfold dc storedH;rw[e];by_cases q:(UH xs k).isSome=hY
 .rw[lX q,lX q];show r.repl k c
 .rw[kw q,kw q];show Paired.snoc r %[rfl,d|c]
def KT.keeps(r:KT H a xs)(c:∀b ys,H b&&&ys->d b&&&ys):KT d a xs:=
 Paired.mapP r λ_ _ z=>%[z.1,c _ _ z.2.1|z.2.2]
section
variable{P:nY}{w:v0}{H:Hp}{h:xl}{a:ku}
def HD(ok:HOk P w H h)(e:Rd H a u):cD P w H h a u:=e.ok ok
def sQ(ok:HOk P w H h)(e:Rd H a (.dK b)): ~~~b<=md/\(a==Nr)=iv/\∃vs,KV b vs/\h.DictOf (aT P w) a vs:=
 HD ok e
def nF(ok:HOk P w H h)(e:H a∣.dK b): ~~~b<=md/\(a==Nr)=iv/\∃vs,KV b vs/\h.DictOf (aT P w) a vs:=sQ ok (.inl e)
def oZ(ok:HOk P w H h)(e:H a&&&ks.map kV):(S0 (aT P w)).is h ks a:=by
 let%[_,its,r,o,b,c,n|d]:=(ok a _ e)
 show%[o,its.toArray,n,b,c,d|sP r]
def wc(ok:HOk P w H h)(e:Rd H a (.dT b)): ~~~b<=md/\(a==Nr)=iv/\
 ∃xs,KT H b xs/\h.DictOfH (S0 (aT P w)) a xs:=by
 let%[z,y,xs,r,o,d,f,g,i,j,n|s]:=(HD ok e)
 show%[z,y,xs,r,o,d,f,g,i,j,n,λx c=>?_|s];let all:∀{l:hH _} {m:hH _},KT H l m->∀x∈m,(S0 (aT P w)).is h x.1 x.2.1:=by
  intro l m q
  induction q with
  | nil=>simp
  | @cons p q ps qs v t u=>
    intro x c;rcases Yw.mp c with e|c
    .show oZ ok (!2)
    .show u x c
 show all r x c
def HE(ok:HOk P w H h)(e:H a∣.dT b): ~~~b<=md/\(a==Nr)=iv/\
 ∃xs,KT H b xs/\h.DictOfH (S0 (aT P w)) a xs:=wc ok (.inl e)
end
abbrev b8(H:Hp)(a:ku)(y:V)(r:lx V):Prop:=
 (∃c k,Rd H a (.dK c)/\y=kV k/\r=bX c k)\/∃c k b,Rd H a (.dT c)/\y= .ref b/\H b&&&k.map kV/\r=bX c k
abbrev gK(H:Hp)(a:ku)(y v:V)(d:Hp):Prop:=
 (∃c k,H a∣.dK c/\y=kV k/\ ~~~c<md/\d=Qa H a (.dK (dc c k v)))\/
 ∃c k b,H a∣.dT c/\y= .ref b/\H b&&&k.map kV/\ ~~~c<md/\d=Qa H a (.dT (dc c k v))
def b8.k{k:Key}(e:H a∣.dK b):b8 H a (kV k) (bX b k):= .inl %[b,k,.inl e,rfl|rfl]
def gK.k{k:Key}(e:H a∣.dK b)(c: ~~~b<md):gK H a (kV k) v (Qa H a (.dK (dc b k v))):= .inl %[b,k,e,rfl,c|rfl]
def gK.t{c:hH (hH Key×V)}{k:hH Key}(e:H a∣.dT c)(d:H b&&&k.map kV)(f: ~~~c<md):
 gK H a (.ref b) v (Qa H a (.dT (dc c k v))):= .inr %[c,k,b,e,rfl,d,f|rfl]
section
variable{X:Cx}{ij:ZE}{σ:St}{H:Hp}{s:Shared}
variable{a:ku}{y v:V}{u r:kj}{o:lx V}{A:wh}{E:ZD}
def Qc.big(I:Qc X ij σ H s):Nr<⇑s:=by
 show W7 (!1) ((I.mod.glob.keeps I.bk).lt)
def By(w:A.units+1<Of)(I:Qc X ij σ H s)(g:b8 H a y (hX v))(q:aX y u)(h:∀f s',Qc X ij σ H s'->aX v f->Q f s'):
 tI (Nf X.prog X.w) A (RP (.ref a) u) Q E s:=by
 rcases g with⟨i,k,e,j,l⟩|⟨i,k,b,e,j,B,l⟩
 .subst j;let%[z,C,vs,c|m]:=sQ I.hok e;let%[f,hw|d]:=io.some_of (l▸c.val k);show wpAny_getItem_of (oY q) m.mapOf hw (h f _ (I.tok _) d)
 .subst j;cases(q);let%[z,C,xs,c|m]:=wc I.hok e;let%[f,hw|d]:=io.some_of (l▸c.val k);let%[p,G|n]:=Mu.mp hw;show wpAny_getItem_heap (P7 w) (oZ I.hok B) m G ?_;rw[n];show h f _ (I.tok _) d
def d_in(n:A.units+1<Of)(I:Qc X ij σ H s)(g:b8 H a y o)(m:aX y u)(h:∀s',Qc X ij σ H s'->Q (.bool o.isSome) s'):
 tI (Nf X.prog X.w) A (pp .In u (.ref a)) Q E s:=by
 rcases g with⟨d,k,e,f,l⟩|⟨d,k,b,e,f,p,l⟩
 .subst f;let%[z,i,vs,c|j]:=sQ I.hok e;show wpAny_in_of (oY m) i j.mapOf ?_;rw[<-(c.val k).isSome_eq,<-l];show h _ (I.tok _)
 .subst f;cases(m);let%[z,i,xs,c|j]:=wc I.hok e;show wpAny_in_heap (P7 n) (oZ I.hok p) i j ?_;let q:=(c.val k).isSome_eq;rw[Wd]at q;rw[<-q,<-l];show h _ (I.tok _)
def Gd(n:A.units+1<Of)(I:Qc X ij σ H s)(g:b8 H a y o)(m:aX y u)(h:∀s',Qc X ij σ H s'->Q (.bool (!o.isSome)) s'):
 tI (Nf X.prog X.w) A (pp .NotIn u (.ref a)) Q E s:=by
 rcases g with⟨d,k,e,f,l⟩|⟨d,k,b,e,f,p,l⟩
 .subst f;let%[z,i,vs,c|j]:=sQ I.hok e;show wpAny_notIn_of (oY m) i j.mapOf ?_;rw[<-(c.val k).isSome_eq,<-l];show h _ (I.tok _)
 .subst f;cases(m);let%[z,i,xs,c|j]:=wc I.hok e;show wpAny_notIn_heap (P7 n) (oZ I.hok p) i j ?_;let q:=(c.val k).isSome_eq;rw[Wd]at q;rw[<-q,<-l];show h _ (I.tok _)
def oJ(I:Qc X ij σ H s)(d:Mut (H a))(e:vr a s.heap h')(f:∃q,h'.get? a∣q)(new:cD X.prog X.w (Qa H a c) h' a c):
 Qc X ij σ (Qa H a c) {s with heap:=h',toks:=t'}:=
 I.write d (.inl rfl) (λb q g z=>(e.2 b g).trans z) f new
def yF{P:nY}(z: ~~~b<=md)(d:(a==Nr)=iv)(c:KV b vs)(e:h'.DictOf (aT P w) a vs):
 cD P w f h' a (.dK b):=%[z,d,vs,c|e]
def Bz(N:A.units+1<Of)(I:Qc X ij σ H s)(g:gK H a y v O)(G:aX y u)(J:aX v r)(h:∀s',Qc X ij σ O s'->Q () s'):
 tI (Nf X.prog X.w) A (setItem (.ref a) u r) Q E s:=by
 rcases g with⟨d,k,e,m,l,n⟩|⟨d,k,b,e,m,L,l,n⟩
 .subst m n;let%[z,p,vs,f|w]:=nF I.hok e;let T: ~~~vs<=md:= ~~~f▸z;let B: ~~~(dc d k v)<=md:=by let:=gO d k v;lia
  show wpAny_setItem_pairs (oY G) w λh' i C=>h _ (oJ I (e▸MQ) C (let⟨q,_,_,j,_⟩:=i;%[q|j]) (yF B p (f.put k J) i))
 .subst m n;cases(G);let%[z,p,xs,f|w]:=HE I.hok e;let T: ~~~xs<=md:=(Paired.length f)▸z;let B: ~~~(dc d k v)<=md:=by let:=gO d k v;lia
  show wpAny_setItem_heap (P7 N) (oZ I.hok L) w λh' i C=>h _ ?_
  let%[q,U,Y,j,h2,h3,h4,_|h5]:=i;show oJ I (e▸MQ) C %[q|j] %[B,p,_,(f.put k L J).keeps λc ys M=>?_,q,U,Y,j,h2,h3,h4|h5];rw[aq (oV M e (λz=>nomatch z))];show M
end
abbrev Jr(i:yu):Prop:=∀a b,Ti i iv a b=operate [a,b] (RP a b)
def Ge{T id:M5}
 (l:P6 (.type T) "__getitem__"=pure (hX (.builtin id))) (m:Jr a)
 (h:↥A (MZ c env) (λo e=>↥A (MZ a env) (λi b=>b.TypeIs o T/\↥A (RP o i) Q E b) E e) E s):
 ↥A (MZ (.Subscript c a pos) env) Q E s:=by
 show T7 (Mz h (λo e g=>Mz g (λi b d=>?_) λ_ _ x=>x) λ_ _ x=>x);let%[n|d]:=d;show Z2 (Z2 (Pt n l ?_));let fin:↥A (Ti a iv o i) (λr f=>↥A (letTemporaryGo c o r>>= λ_=>pure r) Q E f) E b:=by
  rw[m o i];show wpAny_operating (Mz d (λr f j=>Z2 (wpAny_letTemporaryGo (Z3 j))) λ_ _ x=>x)
 first
  | show Z3 (Z2 fin)
  | lia
  | lia
def we{X:Cx}(I:Qc X ij f H s)(g:b8 H a y o):s.TypeIs (.ref a) "dict":=by
 rcases g with⟨c,k,e,_,_⟩|⟨c,k,b,e,_,_,_⟩
 .let%[_,_,vs,_|d]:=sQ I.hok e;show d.typeIs
 .let%[_,_,xs,_|d]:=wc I.hok e;show d.typeIs
abbrev De(d ty:TE):TE:=λb H Q=>d b H λx e=>ty b e λy c=>asR x λa=>∃v,b8 c a y (hX v)/\Q v c
abbrev Gf(ty d:TE):TE:=λb H Q=>ty b H λy e=>d b e λx c=>asR x λa=>∃o,b8 c a y o/\Q (.bl o.isSome) c
abbrev uS(ty d:TE):TE:=λb H Q=>ty b H λy e=>d b e λx c=>asR x λa=>∃o,b8 c a y o/\Q (.bl (!o.isSome)) c
abbrev pc(d ty e:TE):TS:=λD b H=>e b H λv f=>d b f λx g=>ty b g λy h=>asR x λa=>∃c,gK h a y v c/\D.nx b c
section
variable{X:Cx}{o i e value:yu}{pos pos' tpos:Pos}{td ty tv:TE}
def Gg(f:X.A.units+1<Of)(j:PE X o td)(hi:PE X i ty)(l:Jr i):PE X (.Subscript o i pos) (De td ty):=by
 intro ij s c H Q I h;show Ge PySem.F.slot_dict_getitem.lookup l (thP (j ij s c H _ I h) λu m x n p q r=>thP (hi ij m c n _ p r) λC E y w d z h=>?_);let%[a,rfl,v,g|A]:=aS h;obtain rfl:u=m4 a:=q;show%[we d g|By f d g z λG J B b=>%[v,w,B,b|A]]
def Df(c:X.A.units+1<Of)(hi:PE X i ty)(d:PE X o td):PC X .In i o (Gf ty td):=by
 intro ij s b H Q I h;show thP (hi ij s b H _ I h) λA f y j l m n=>thP (d ij f b j _ l n) λu B x p q r h=>?_
 let%[a,rfl,v,g|w]:=aS h;obtain rfl:u=m4 a:=r;show d_in c q g m λC z=>%[.bl v.isSome,p,z,rfl|w]
def BA(c:X.A.units+1<Of)(hi:PE X i ty)(d:PE X o td):PC X .NotIn i o (uS ty td):=by
 intro ij s b H Q I h;show thP (hi ij s b H _ I h) λz f y j l m n=>thP (d ij f b j _ l n) λu A x p q r h=>?_
 let%[a,rfl,B,g|v]:=aS h;obtain rfl:u=m4 a:=r;show Gd c q g m λC w=>%[.bl _,p,w,rfl|v]
def Gh(c:X.A.units+1<Of)(d:PE X o td)(hi:PE X i ty)(f:PE X value tv)(j:OL value (hX (.Subscript o i pos')) pos.line X.env=pure iv):
 PS X (.Assign [.Subscript o i pos'] value pos) (pc td ty tv):=by
 intro ij s b H D I h;show wpAny_Assign_Subscript (thP (f ij s b H _ I h) λr l v m n p q=>thP (d ij l b m _ n q) λu w x z A B C=>thP (hi ij w b z _ A C) λN O y Q E G h=>?_) j;let%[a,rfl,J,g|L]:=aS h;obtain rfl:u=m4 a:=B;show Bz c E g G p λT M=>%[b,J,M|L]
end
def Dg{P:nY}(h:xl)(a:Nr<h.objs.size):cD P w H (h.push {cls:= .type "dict",data:= .dict #[]}) h.objs.size (.dK []):=
 %[Xf _,MF.mpr (I0 (Zs a)),[],.nil|xl.DictOf.new h]
def Dh{P:nY}(h:xl)(a:Nr<h.objs.size):cD P w H (h.push {cls:= .type "dict",data:= .dict #[]}) h.objs.size (.dT []):=
 %[Xf _,MF.mpr (I0 (Zs a)),[],.nil,_,#[],0,Zj _ rfl,%[rfl,rfl|rfl],rfl,rfl|X3]
abbrev yG:TE:=λ_ H Q=>∀p,H p=hV->Q (.ref p) (Qa H p (.dK []))
abbrev yH:TE:=λ_ H Q=>∀p,H p=hV->Q (.ref p) (Qa H p (.dT []))
section
variable{X:Cx}{pos:Pos}
def Di:PE X (.Dict [] [] pos) yG:=λij s a H Q I h=>
 WV %[.ref ⇑s,_,I.laid (λ_ _ q=>Z7 _ q) (Zi _) (Dg s.heap I.big),rfl|h _ (I.hok.fresh (Zi _))]
def Dj:PE X (.Dict [] [] pos) yH:=λij s b H Q I h=>
 WV %[.ref ⇑s,_,I.laid (a:=⇑s) (o:= .dT []) (t':=s.toks) (λ_ _ q=>Z7 _ q) (Zi _) (Dh s.heap I.big),rfl|h _ (I.hok.fresh (Zi _))]
end
abbrev iR(a more:hH (Key×V)):hH (Key×V):=more.foldl (λacc b=>dc acc b.1 b.2) a
def KV.merge:∀{more:hH _} {rs:hH _} {a:hH _} {vs:hH _},KV more rs->KV a vs->KV (iR a more) (merged vs rs):=by
 intro more rs a vs r
 induction r generalizing a vs with
 | nil=>intro q;show q
 | @cons p q ps qs h t b=>
   intro c;let e:KV (dc a p.1 p.2) (stored vs q.1 q.2):=by
    let:=c.put p.1 h.2;show h.1▸this
   show b e
def ki:∀more a,~~~(iR a more)<= ~~~a+ ~~~more
 |[],a=>by change ~~~a<= ~~~a+0;lia
 | p::r,a=>by
   let b:=ki r (dc a p.1 p.2);let c:=gO a p.1 p.2;change(iR _ r).length<=_
   grind
structure M1 (X:Cx) (o:yu) (m:lp) (apos:Pos) (e:yu) (cpos:Pos):Prop where
 base:Nj o m X.env (MZ o X.env)=MZ o X.env
 few:((Nt cpos (vi [e] X.env)).all (λx=>!x.1)&&(Qh cpos (Od [] X.env)).all (λx=>x.1.isSome)
  && decide (~~~([e])+ ~~~([]:hH O5)+(if([]:hH O5).isEmpty then 0 else 1)<30))=hY
 line:(apos.endLine==cpos.line)=hY
 trees:Nt cpos (vi [e] X.env)=[(iv,MZ e X.env)]
structure M2 (X:Cx) (o:yu) (m:lp) (apos:Pos) (e f:yu) (cpos:Pos):Prop where
 base:Nj o m X.env (MZ o X.env)=MZ o X.env
 few:((Nt cpos (vi [e,f] X.env)).all (λx=>!x.1)&&(Qh cpos (Od [] X.env)).all (λx=>x.1.isSome)
  && decide (~~~([e,f])+ ~~~([]:hH O5)+(if([]:hH O5).isEmpty then 0 else 1)<30))=hY
 line:(apos.endLine==cpos.line)=hY
 trees:Nt cpos (vi [e,f] X.env)=[(iv,MZ e X.env),(iv,MZ f X.env)]
section
variable{X:Cx}{ij:ZE}{σ:St}{H:Hp}{s:Shared}
variable{a:ku}{y d:V}{u r:kj}{o:lx V}{A:wh}{E:ZD}
variable{o:yu}{e:yu}{f:yu}{apos:Pos}{cpos:Pos}{td:TE}{ty:TE}{tx:TE}
end
end _LL
namespace _AT
open PySem PySem.W PySem.Calls PyProof.Rows
def oj{P:Params}:∀(c:ZL) (vs:ZF),WellAll P h vs (c.map XG)->U9 vs c:=by
 intro c
 induction c with
 | nil=>
   intro vs w;cases w;show .nil
 | cons n c d=>
   intro vs w;cases w with
   | cons a b=>
     cases a;show .cons _ _ (d _ b)
def BB{l:WI}(o:l.most∣n){P:Params}
 (b:l.row.toRowW.claim.pre args=hY) (j:WellAll P h e args):
 ∃a vs c,e=[m4 a]/\args=[WData.list (c.map XG)]/\h.get? a=hX {cls:= .type "list",data:= .seq vs.toArray}/\U9 vs c/\ ~~~c<=n:=by
 let m:l.pre.holds [] _=hY:=(pre_splitW b).2;let%[d,r,rfl,p|q]:=hasAllW_cons ((pre_splitW b).1);obtain rfl:=hasAllW_nil q;let%[xs,rfl|s]:=hasW_list p;let%[c|rfl]:=items_int s;let f: ~~~c<=n:=by
  unfold WI.pre at m;let i:=by
   let i:=(holds_andW m).1;rw[o]at i;show i
  let y:=condW_of i (w_not (w_lt w_lit (w_len_list (w_arg rfl))))
  grind
 cases j with
 | cons u v=>
   cases v;cases u with
   | list w g=>show%[_,_,c,ρ,ρ,w,oj c _ g|f]
def BC(l:WI)(args:hH WData):l.row.toRowW.claim.post args (.bool hY) args=hY:=
 postW_of
  (by first|rfl|simp|lia)
  (w_eq_bool (w_res rfl) w_lit) rfl
def attach_call{l:WI}{n:jg}{q:nY}
 (I:l.most∣n) (u:d.params.defaults=[])
 (call:∀(w:v0) (s₀ b:mu) (mg v:ZC) (h:ku) (o:Ob) (y p c:kj) (a:ku) (vs:ZF) (s:ZL),
  Ground q e [] J w s₀ mg v b.heap->L w b.heap->
  b.heap.get? h∣o->o.data= .func (docDef d.name d.params d.body d.scope y p c)->b.heap.CodeRec p d.name->mg d.name∣.ref h->
  b.heap.get? a=hX {cls:= .type "list",data:= .seq vs.toArray}->U9 vs s-> ~~~s<=n->b.gens= #[]->
  PL (Nf l.prog w) TD (.call (.ref h) %[[.ref a]|[]]) (λr s'=>r= .ok (.ret (.bool hY))/\OldK b.heap s'.heap/\s'.os=b.os/\Qt s'.gens) b):
 WalkO q e J L l.row.toRowW d [] (λf vs=>PySem.call f vs):=by
 intro w s₀ b mg v G Y h o y p c M kV N O z C A Q args E as i H T B U;obtain rfl:M= .none:=Dflts.none C u;obtain rfl:kV= .none:=Dflts.noKw C;let%[a,vs,s,rfl,rfl,j,g|m]:=BB I i B;show enter_call (codeAny_mono (call w s₀ b mg v h o y p c a vs s G Y N (fd_plain O) z A j g m Q) λr s' hq=>?_);let%[rfl,h2,h3|h4]:=hq;show%[.inl %[.bool hY,.bool hY,[],ρ,λ_=>rfl,.bool hY,BC l _|λ_=>%[Qy|λ_ hm=>(nomatch hm)]],h2,h3|h4]
section
variable{prog:Program}{w:World}{A:Around}{E:ZD}{s:Shared}
end
end _AT
namespace _LL
open PySem PySem.Spec PyProof.Rows
def sS:∀{vs:ZF} {a:ZL},U9 vs a->aM (a\4) vs
 | _,_,.nil=> .nil
 | _,_,.cons n t h=> .cons %[t|rfl] (sS h)
abbrev Gi(H:Hp):Prop:=∀b,H b=hV\/∃o xs,H b∣.frz o (.lst xs)
def law_call{P:nY}{K:ZA}{mg J:ZC}{vs:ZF}
 (Y:K.In c.heap) (p:c.heap.Ns wy mg) (g:c.heap.Ns Wh J) (L:∀x:lp,x≠"__name__"->J x=Nz x) (y:c.heap.NoLimit) (hg:c.gens= #[])
 (M:c.heap.get? a=hX {cls:= .type "list",data:= .seq vs.toArray}) (hi:U9 vs N) (hl: ~~~N<=md) (hr:bG k TD)
 (F:∀base:xl,K.In base->base.Ns wy mg->eQ P w K mg base CX k fa fd [x] sp) (l:∀(s:mu) (u:kj),TL s fd %[[u]|[]] [(x,u)])
 (O:∀H:Hp,Gi H->Qb K H a (N\4)->sp [.ref a] H (λv _=>v= .bl hY) λ_ _ _=>J5)
 (Q:∀H e s',CX [] H c (λ_ _ _=>J5) e s'->J5):
 PL (Nf P w) TD (.call (.ref fa) %[[.ref a]|[]]) (λr s'=>r= .ok (.ret (.bool hY))/\OldK c.heap s'.heap/\s'.os=c.os/\Qt s'.gens) c:=by
 let rv:=sS hi;let j:∀H,Gi H->Qb K H a (N\4)->HOk P w H c.heap->(∀b,H b≠hV->b=a)->(H a≠hV->K.lookup a=hV)->
  PL (Nf P w) TD (.call (.ref fa) %[[.ref a]|[]]) (λr s'=>r= .ok (.ret (.bool hY))/\OldK c.heap s'.heap/\s'.os=c.os/\Qt s'.gens) c:=by
  intro H hO hS A hA hK;let f:∀{b:ku} {o:Ob},c.heap.get? b∣o->H b=hV->(Bi c.heap H).get? b∣o:=λe n=>CB e n
  let T:∀{b:ku} {o:Ob} {G:on Tf} {I:jg},c.heap.get? b∣o->o.data= .dict G I->H b=hV:=λ{b o G I} e d=>by
   grind
  let i:∀{b:ku} {m:ZC},c.heap.Ns b m->(Bi c.heap H).Ns b m:=λ{b m} ⟨o,G,I,e,d,r⟩=>%[o,G,I,f e (T e d),d|r]
  let B:=λb o e=>f (Y b o e) (by
   grind)
  show codeAny_mono ((F _ B (i p)).run TD [] c H _ _ [.ref a] _ _ hr %[rfl,%[B,i p,%[J,i g|L]|let⟨mc,h1,h2⟩:=y;%[mc,i h1|h2]],λb o e=>FK e,Uc (Bj _ _),trivial,λb g=>n0 (show b∈([])from g) ∅,A|.of_eq hg] (l c _) (.cons rfl .nil) (O H hO hS)) λr s' h=>?_
  cases r with
  | error e=>show(Q H e s' h).elim
  | ok fl=>
    cases fl with
    | next=>show MM h
    | brk=>show MM h
    | cont=>show MM h
    | ret u=>
      let%[v,H',os,C,un,E,r'|q]:=h;subst q;obtain rfl:u=W5 hY:=r';show%[ρ,OldK.of_keep λb o e=>?_,os|C];cases q:H b with
      | none=>show un.keep b o e q (by intro z;show n0 (show b∈([])from z) ∅) ∅
      | some u=>
        rcases hO b with z|⟨ob,xs,z⟩
        .rw[q]at z;cases z
        .let%[e1|_]:=A b _ z;let%[e2|_]:=E b _ (un.frzs b ob _ z);rw[e]at e1;cases e1;show e2
 cases U:K.lookup a with
 | some o=>
   let e:=Y a o U;rw[M]at e;cases e;show j _ (λ_=> .inl rfl) (.inr %[_,vs.toArray,_,U,rfl,rfl,rfl,by rw[Zp,~~~hi];show hl|rv]) (λb u z=>!2) (λb z=>n0 rfl z) λz=>n0 rfl z
 | none=>
   show j (λb=>if b=a then hX (.frz {cls:= .type "list",data:= .seq vs.toArray} _)else hV) (λb=>?_) (.inl (.inr %[{cls:= .type _,data:= .seq vs.toArray}|lX rfl])) (λb u z=>?_) (λb z=>?_) λ_=>U
   .by_cases g:b=a
    .show .inr %[_,_|lX g]
    .show .inl (kw g)
   .by_cases g:b=a
    .let z':=(lX g).symm.trans z;cases z';subst g;show%[M,by rw[Z6];show hl,vs,_,rv|M]
    simp_all
   .by_cases g:b=a
    .show g
    .show n0 (kw g) z
def walk_of{l:PySem.W.OpenLaw}{J:(lp->lx kj)->xl->Prop}{E:v0->xl->Prop}{d:DefRec}{K:Params->ZA}{CX:v0->CXT}{sp:v0->Sp}{x:lp}
 (L:l.most∣n) (p:n<=md) (r:d.params.defaults=[]) (M:bG k TD)
 (N:∀(w:v0) (h:xl),E w h->(K w.params).In h)
 (F:∀(w:v0) (mg:ZC) (j:ku) (h:xl),(K w.params).In h->h.Ns wy mg->mg d.name∣.ref j->
  ∃y:O6,(∀(s:mu) (u:kj),TL s y %[[u]|[]] [(x,u)])/\
   ∀base:xl,(K w.params).In base->base.Ns wy mg->eQ l.prog w (K w.params) mg base (CX w) k j y [x] (sp w))
 (z:∀(w:v0) (H:Hp) (a:ku) (m:ZL),~~~m<=n->Gi H->Qb (K w.params) H a (m\4)->sp w [.ref a] H (λv _=>v= .bl hY) λ_ _ _=>J5)
 (A:∀(w:v0) (H:Hp) (s:mu) (e:kj) (s':mu),CX w [] H s (λ_ _ _=>J5) e s'->J5):
 PySem.W.WalkO q B J E l.row.toRowW d [] (λf vs=>PySem.call f vs):=by
 show _AT.attach_call L r λw s₀ g mg mb j o pm cd O a vs m G Y ho hd Q C i c b T=>?_
 let I:=N w _ Y;let%[y,U|hF]:=F w mg j _ I G.T.g C;show law_call I G.T.g G.T.b G.T.builtins G.T.nolimit T i c (nI b p) M hF U (λH hO hS=>z w H a m b hO hS) λH e s'=>A w H g e s'
abbrev jT(s:zr)(j:jg):zr:=match s with
 | .ClassDef _ _ _ a _ _ _ _ _ _ _=>a.getD j (.Pass %[0,0,0|0])
 | _=> .Pass %[0,0,0|0]
abbrev dw(s:zr):Arguments:=match s with
 | .FunctionDef _ a _ _ _ _ _ _ _ _=>a
 | _=>{posonlyargs:=[],args:=[],vararg:=hV,kwonlyargs:=[],kw_defaults:=[],kwarg:=hV,defaults:=[]}
abbrev bM(s:zr):hH zr:=match s with
 | .FunctionDef _ _ b _ _ _ _ _ _ _=>b
 | _=>[]
abbrev ao(s:zr):RE:=match s with
 | .FunctionDef _ _ _ _ _ _ a _ _ _=>a
 | _=>{kind:= .function,names:=[],isGenerator:=iv,isCoroutine:=iv}
noncomputable abbrev CX0:CXT:=λ_ _ _ _ _ _=>J5
noncomputable abbrev E0:XK:=λ_ _ _=>J5
def Dk{X:Cx}:iQ CX0 X E0:=λ_ _ _ _ _ _ _ h=>h.elim
structure Fun (K:ZA) (x qual:lp) (st:zr) (f:ku) (fd:O6):Prop where
 ex:∃oc od kV doc pm an cdv ct osl,
  fd=S7 x qual (dw st) (bM st) (ao st) .none kV doc pm an cdv ct/\K.lookup f=hX %[oc,od,.func fd|osl]/\RB K cdv qual=hY
 kp:OF K (.ref f)=hY
section
variable{P:nY}{w:v0}{K:ZA}{mg:ZC}{base:xl}
def Fun.ok{x a:lp}{st:zr}{f:ku}{g:O6}{N ps:ZB}{k:jg}{sp:Sp}(F:Fun K x a st f g)(S:au N ps (ao st))(len:∀vs H Q E,sp vs H Q E-> ~~~vs= ~~~ps)
 (c:∀b (A:wh) (outer:hH Env) s H (vs:hH V) Q E,bG k (A.deeper (Ng a (ao st) ⇑s f b))->sp vs H Q E->
  ∃t,PSs (fS CX0 P w K mg base N a (ao st) f b A outer s H E).nox (bM st) t/\t {nx:=λ_ i=>Q .non i,rt:=Q} (start N vs) H):eQ P w K mg base CX0 (k+1) f g ps sp:=by
 let%[n,od,kV,j,o,p,b,ct,l,rfl,lk|d]:=F.ex;show HC lk d S len λA outer s H vs Q E m e=>?_
 let%[t,h|q]:=c b A outer s H vs Q E m e;show%[t,h.nox|q]
def Fun.binds{st:zr}(F:Fun K x c st f g)
 (h:∀(kV a d:kj) (e:ZI) (b ct:kj) (us:ZF),~~~us= ~~~ps->bindArgs (S7 x c (dw st) (bM st) (ao st) .none kV a d e b ct) %[us|[]]=pure (ps.zip us)):dW K g ps []:=by
 let%[l,od,kV,a,d,e,b,ct,i,rfl,lk|j]:=F.ex;show .all (h kV a d e b ct)
def eD{st:zr}{kV d e b ct:kj}(l:K.lookup f=hX %[i,od,.func (S7 x a (dw st) (bM st) (ao st) .none kV d e h b ct)|g])
 (c:RB K b a=hY) (k:OF K (.ref f)=hY):Fun K x a st f (S7 x a (dw st) (bM st) (ao st) .none kV d e h b ct):=%[%[i,od,kV,d,e,h,b,ct,g,rfl,l|c]|k]
variable{X:Cx}
def pv(i:jg)(b:X.N[i]?∣x)(c:Vis X.env.scope x)(d:(x==("__debug__":lp))=iv)
 (a:(x==("__classdict__":lp))=iv):PE X (.Name x pos) (mP i):=CC b c d a
end
def mT{A B:Prop}(h:B):if iv=hY then A else B:=by
 simp_all
def bv{c A B:Prop}[P0 c](a:c->A)(b: ¬ c->B):if c then A else B:=by
 simp_all
def Lj{c A B:Prop}[P0 c](a:c)(h:B):if(!decide c)=hY then A else B:=by
 rw[Zf a];show mT h
abbrev ah(H a:Hp):Prop:=∀b o,H b∣o->a b∣o
def ah.refl(H:Hp):ah H H:=λ_ _ h=>h
def ah.trans{H d e:Hp}(a:ah H d)(b:ah d e):ah H e:=λc o h=>b c o (a c o h)
def ah.free{H a:Hp}(e:ah H a){l:ku}(h:a l=hV):H l=hV:=by
 cases q:H l with
 | none=>rfl
 | some o=>
   rw[e l o q]at h;cases h
def ah.seq{K:ZA}(e:ah H b)(h:Qb K H a xs):Qb K b a xs:=by
 rcases h with(h|⟨o,h⟩)|h
 .show .inl (.inl (e _ _ h))
 .show .inl (.inr %[o|e _ _ h])
 .show .inr h
section
end
section
variable{κ:Type}[MP κ]
def Gj{a:hH (κ×V)}(h:bX a k∣v):k∈a\1:=by
 let q:(a.any λb=>decide (b.1=k))=hY:=by
  rw[jx,h]
  all_goals rfl
 simp_all
def oK:∀{l:hH κ} {k:κ},l.Nodup-> ¬ k∈l->(l++[k]).Nodup
 |[],k,_,_=>by simp
 | a::r,k,h,b=>by
   let%[c|d]:=NE.mp h;show NE.mpr %[λm=>?_|oK d λm=>b (Yw.mpr (Or.inr m))];rcases Xn m with q|q
   .show c q
   .show b (Yw.mpr (Or.inl (Xo q).symm))
end
abbrev pd(env:Env):hH (lp×KE)->hH (lp×ku)->hH (lp×ku)
 |[],acc=>acc
 |(n,k)::r,acc=>pd env r (if k= .free then(n,(env.cells.lookup n).getD 0)::acc else acc)
def pf:∀(names:hH (lp×KE)) (acc:hH (lp×ku)),(∀y∈names,y.2= .free->∃c,env.cells.lookup y.1∣c)->
 (forIn names acc λx r=>match x with
  |(name,kind)=>if(kind==M8)=hY then do let a<-cellOf env name;pure (OS ((name,a)::r))else pure (OS r):Sem (hH (lp×ku)))=pure (pd env names acc)
 |[],acc,_=>rfl
 |(n,k)::r,acc,h=>by
  let d:=λacc=>pf r acc λy f=>h y (Zk _ f)
  rw[Sj];by_cases b:k= .free
  .subst b;let%[c|e]:=h _ Zm rfl;let g:cellOf env n=pure c:=by unfold cellOf;rw[e]
   simp only[Ph,Qp,g,pure_bind];rw[d];change _=pure (pd env r _);rw[lX rfl,e]
   all_goals rfl
  .let i:(k==M8)=iv:=↑b
   simp only[i,Zz,Op,pure_bind];rw[d];change _=pure (pd env r _);rw[kw b]
def Gk(h:∀y∈a.names,y.2= .free->∃c,env.cells.lookup y.1∣c):closureFor a env=pure (pd env a.names []):=by
 unfold closureFor;simp only[bind_pure];show(pf a.names [] h)
def wg:∀(names:hH (lp×KE)) (acc:hH (lp×ku)),(∀y∈names,y.2= .free->∃c,env.cells.lookup y.1∣c)->
 (∀y d,acc.lookup y∣d->env.cells.lookup y∣d)->(pd env names acc).lookup x∣c->env.cells.lookup x∣c
 |[],acc,_,a,e=>a x c e
 |(n,k)::r,acc,h,a,e=>by
  show wg r _ (λy b=>h y (Zk _ b)) (λy d q=>?_) e;by_cases f:k= .free
  .rw[lX f,Ym]at q;let%[g|i]:=h _ Zm f;cases b:y==n with
   | true=>
     simp_all
   | false=>rw[b]at q;show a y d q
  .rw[kw f]at q;show a y d q
def ph:∀(names:hH (lp×KE)) (acc:hH (lp×ku)),(∃c,acc.lookup x∣c)->∃c,(pd env names acc).lookup x∣c
 |[],_,h=>h
 |(n,k)::r,acc,h=>by
  show ph r _ ?_;by_cases a:k= .free
  .rw[lX a,Ym];cases b:x==n with
   | true=>show%[_|ρ]
   | false=>show h
  .rw[kw a];show h
def pi:∀(names:hH (lp×KE)) (acc:hH (lp×ku)),(x,M8)∈names->∃c,(pd env names acc).lookup x∣c
 |[],_,h=>by simp at h
 |(n,k)::r,acc,h=>by
  rcases Yw.mp h with e|h
  .show ph r _ ?_
   simp_all
  .show pi r _ h
abbrev cf(X:Cx)(a:RE)(d:ZB)(b:mu)(c:Hp)(e:hH ku):Cx:=
 {X with
  N:=d
  s₀:=b
  H₀:=c
  env:=compEnvC a (MX (⇑b+1) a.names (pd X.env a.names [])) ⇑b X.env
  outer:=X.stack
  stack:=X.stack
  ex:=e
  fn:=λx=>decide (a.names.lookup x∣.cell)
  pn:=[]
  xe:=λ_ _=>J5}
structure aH (X:Cx) (scope:RE) (N':ZB) (cap:hH (jg×jg)):Prop where
 kind:scope.kind= .function
 cell:∀y∈scope.names,y.2= .cell->scope.names.lookup y.1∣.cell
 loc:∀y∈scope.names,y.2= .local->scope.names.lookup y.1∣.local
 free:∀y∈scope.names,y.2= .free->X.env.kindOf y.1∣.cell\/X.env.kindOf y.1∣.free
 capt:∀p∈cap,∃x,N'[p.1]?∣x/\X.N[p.2]?∣x/\scope.names.lookup x∣.free
abbrev sV(n:jg)(a:hH (jg×jg))(b:St):St:=(p0 n).map λj=>(a.lookup j).bind λi=>(b[i]?).join
def nG:∀{l:hH _} {j i:jg},l.lookup j∣i->(j,i)∈l
 |[],_,_,h=>by simp at h
 |(a,b)::r,j,i,h=>by
  rw[Ym]at h;cases c:j==a with
  | true=>
    simp_all
  | false=>rw[c]at h;show Zk _ (nG h)
def nH{env:Env}{names:hH (lp×KE)}{x:lp}{k:KE}(h:(names.map λ(n,k)=>if(k==M8&&env.scope.kind== .function&&env.kindOf n==hX .cell)then(n,OI)else(n,k)).lookup x∣k)
 (a:k= .cell\/k= .free):(x,M8)∈names\/(x,OI)∈names:=by
 let m:=PySem.mem_of_lookup h
 grind
def fE:∀names n acc,MX n names acc=MX n names [] ++acc
 |[],_,_=>rfl
 |(x,k)::r,n,acc=>by
  unfold MX
  split
  .rw[fE r _ _,fE r _ [(x,n)],Ze];rfl
  .show fE r n acc
def mU:∀{names:hH (lp×KE)} {n:jg},(x,c)∈MX n names []->(x,OI)∈names
 |[],_,h=>nomatch h
 |(y,k)::r,n,h=>by
  unfold MX at h
  split at h
  .rw[fE]at h;rcases Xn h with q|q
   .show Zk _ (mU q)
   grind
  .show Zk _ (mU h)
def nJ(h:(MX n names acc).lookup x∣c):(x,c)∈MX n names []\/((MX n names []).lookup x=hV/\acc.lookup x∣c):=by
 rw[fE,UL]at h;cases e:(MX n names []).lookup x with
 | none=>rw[e]at h;show .inr %[rfl|h]
 | some d=>
   rw[e]at h;let:=↑h
   show this▸ .inl (PySem.mem_of_lookup e)
def lz{env:Env}:∀{names:hH (lp×KE)} {x:lp},names.lookup x∣.free->
 (names.map λ(n,k)=>if(k==M8&&env.scope.kind== .function&&env.kindOf n==hX .cell)then(n,OI)else(n,k)).lookup x∣.cell\/
 (names.map λ(n,k)=>if(k==M8&&env.scope.kind== .function&&env.kindOf n==hX .cell)then(n,OI)else(n,k)).lookup x∣.free
 |[],_,h=>by simp at h
 |(n,k)::r,x,h=>by
  let c:= @lz env r x;simp only[Yq];cases a:x==n with
  | true=>
    rw[Ym,a]at h;let d:=Za h;subst d;by_cases b:((M8==M8)&&env.scope.kind== .function&&env.kindOf n==hX .cell)=hY
    .rw[lX b,Ym,a];show .inl rfl
    .rw[kw b,Ym,a];show .inr rfl
  | false=>
    rw[Ym,a]at h;by_cases b:(k==M8&&env.scope.kind== .function&&env.kindOf n==hX .cell)=hY
    .rw[lX b,Ym,a];show(c h)
    .rw[kw b,Ym,a];show(c h)
section
variable{X:Cx}{ij:ZE}{σ:St}{H:Hp}{s:Shared}
def Qc.kindL(I:Qc X ij σ H s)(h:X.env.kindOf x∣.cell\/X.env.kindOf x∣.free):∃c,X.env.cells.lookup x∣c:=I.ok.has x h
def Qc.block{a:RE}{E:ZB}{fp:hH ku}{f:xl}{tk:jg}(S:aH X a E n)(I:Qc X ij σ H s)(Q:∀b∈fp,mQ X ij H b)(L:∀b∈fp,b<⇑s)
 (hn:f.Ns ⇑s (λ_=>hV)) (B:∀b u,s.heap.get? b∣u->f.get? b∣u) (nc:CellsOk f (⇑s+1) (MX (⇑s+1) a.names [])):
 Qc (cf X a E s H fp) [] (sV E.length n σ) H {s with heap:=f,toks:=tk}:=by
 let h:∀x c,(pd X.env a.names []).lookup x∣c->X.env.cells.lookup x∣c:=λx c e=>wg a.names [] (λy hy hk=>I.kindL (S.free y hy hk)) (λ_ _ q=>by simp at q) e
 let o:∀x c,(MX (⇑s+1) a.names (pd X.env a.names [])).lookup x∣c->((x,c)∈MX (⇑s+1) a.names []/\f.IsCell c hV/\⇑s+1<=c)\/(X.env.cells.lookup x∣c/\c<⇑s):=λx c e=>by
  rcases nJ e with q|⟨_,q⟩
  .show .inl %[q|nc.empty x c q]
  .let q':=h x c q;let%[v,J,M|_]:=I.cell x c q';show .inr %[q'|Zu M]
 show%[%[I.ok.mod,S.kind,I.ok.glob,I.ok.blt,Zi _,λx y c h1 h2=>?_,λx hx=>?_,λx c hq e=>?_,I.ok.hd,I.ok.frames,.inl rfl,λb g=>%[?_|λx c e=>?_],I.bs,
  nI I.ok.bsz I.sz,λb u e g=>?_,λb g T=>?_,I.stack|I.stkFree],ρ,I.bare,Un.kept B,%[_,hn|λj x v e1 e2 e3=>?_],λx c e=>?_,I.hok.fresh (Zi _),λx c e=>?_,λp hp=>?_,I.hok.kept B|?_]
 .rcases o x c h1 with⟨q1,_,q2⟩|⟨q1,q2⟩<;> rcases o y c h2 with⟨r1,_,r2⟩|⟨r1,r2⟩
  .show name_of_addr nc.apart q1 r1
  .show n0 r2 (Sl (nI (Yg _) q2))
  .show n0 q2 (Sl (nI (Yg _) r2))
  .show I.ok.inj x y c q1 r1
 .let:(x,M8)∈a.names\/(x,OI)∈a.names:=by
   rcases hx with q|q
   .show nH q (.inl rfl)
   .show nH q (.inr rfl)
  show Qo.mp (RC a.names _ _ ?_);rcases this with q|q
  .show .inr (Qo.mpr (pi a.names [] q))
  .show .inl (S.cell _ q rfl)
 .rcases nJ e with q|⟨q,_⟩
  .let:=(nc.empty x c q).2;change ⇑s<=c
   lia
  .let:=RC a.names (⇑s+1) [] (.inl (Zo hq));rw[q]at this;cases this
 .show Zs (L b g)
 .rcases o x c e with⟨_,_,q⟩|⟨q,_⟩
  .show λz=>n0 (L b g) (Sl (nI (Yg _) (z▸q)))
  .show(Q b g).2.2.2.2.1 x c q
 .rcases(Q b g).2.2.2.1 with z|z
  .show I.ok.noex b u e z
  .show n0 (Zg (Zu e) (nI I.ok.bsz z)) (Xk _)
 .rcases Yw.mp (I.stkSub b T)with z|z
  .show(Q b g).2.1 z
  .show(Q b g).2.2.1 z
 ·
  let hj:∃i,n.lookup j∣i/\σ[i]?∣hX v:=by
   let A:((p0 E.length).map _)[j]?∣_:=e2;rw[Zl]at A;cases hr:(p0 E.length)[j]? with
   | none=>rw[hr]at A;cases A
   | some j'=>
     rw[hr]at A;let ab:j'=j:=by
      let:=Xm hr;let%[h1|h2]:=this;simpa using h2.symm
     subst ab;let C:((n.lookup j').bind _)∣v:=Za A;cases U:n.lookup j' with
     | none=>rw[U]at C;cases C
     | some i=>
       rw[U]at C;show%[i,ρ|?_];let Y:(σ[i]?).join∣v:=C;cases T:σ[i]? with
       | none=>rw[T]at Y;cases Y
       | some w=>rw[T]at Y;let:w∣v:=Y;rw[this]
  let%[i,U|hi]:=hj;let%[y,n1,n2|n3]:=S.capt _ (nG U);let ac:=Za (n1.symm.trans e1);subst ac;let N:=S.free _ (PySem.mem_of_lookup n3) rfl;let%[m,hm|hl]:=I.loc;let%[u,r|l]:=hl i y v n2 hi (by rcases N with q|q;show .inr (.inl q);show .inr (.inr q));show%[u,r|.inr %[?_|?_]]
  .show lz n3
  .rcases l with⟨k,_⟩|⟨_,c,G,hv⟩
   .rcases N with q|q
    .rw[k]at q;cases q
    .rw[k]at q;cases q
   .let%[c'|O]:=pi a.names [] (PySem.mem_of_lookup n3);let:=h y c' O;rw[G]at this;let e5:=Za this;subst e5;let%[J,M|hd]:=hv;show%[c,?_,J,B c J M|hd];change(MX _ _ _).lookup y∣c;rw[fE,UL];cases e6:(MX _ a.names []).lookup y with
    | none=>simpa using O
    | some d=>
      let:=S.cell _ (mU (PySem.mem_of_lookup e6)) rfl;rw[n3]at this;cases this
 .rcases o x c e with⟨_,q,_⟩|⟨q,_⟩
  .show%[hV|q]
  .let%[v,J,M|hd]:=I.cell x c q;show%[v,J,B c J M|hd]
 .rcases o x c e with⟨_,_,q⟩|⟨q,_⟩
  .show I.hok.fresh ⋯
  .show I.freeC x c q
 .show n0 (show p∈([])from hp) ∅
 .change(sV E.length n σ).length= ~~~E;unfold sV;rw[Z6,Yj]
end
abbrev PTs(X:Cx)(a:hH yu)(t:TT):Prop:=
 ∀ij s (b:St) H Q,Qc X ij b H s->t b H Q->
  (X⁻¹) (forIn a hY λc r=>if r=hY then do let ok<-S6 c X.env (MZ c X.env);pure (OS ok)else pure (OS r)) (TP X ij b Q) X.xe s
abbrev Gm:TT:=λ_ H Q=>Q hY H
def Gn{X:Cx}:PTs X [] Gm:=λ_ _ _ H _ I h=>wpAny_tests_nil %[H,I|h]
def Go{X:Cx}(h:PT X c t):PTs X [c] t:=λij s a H Q I q=>wpAny_tests_one (h ij s a H Q I q)
abbrev sW(q:TI)(n:jg)(f:hH (jg×jg))(g:TG)(r:TT)(s:TE):TE:=λh H Q=>q h H λJ j=>∀D,j D=hV->∃W:jg->jg->hH V->St->Hp->Prop,
 (∃m,W 0 m [] (sV n f h) (Qa j D (.lst [])))/\∀i m ys c d,W i m ys c d->(J.stop i d/\Q (.ref D) d)\/
  (J.go i d/\∀x l,J.yld i d x l->g x c l λa u=>r a u λb o=>if b=hY then s a o λy p=>∃zs e,p D<*zs/\ ~~~zs<md/\e<m/\W (i+1) e (ys++[y]) a (Qa p D (.lst (zs++[y])))
   else∃e,e<m/\W (i+1) e ys a o)
def Gp{code:kj}
 (j:∀h',h'.Ns ⇑s (λ_=>hV)->(∀b u,s.heap.get? b∣u->h'.get? b∣u)->CellsOk h' (⇑s+1) (MX (⇑s+1) a.names [])->
  Q (newEnv a ⇑s d (MX (⇑s+1) a.names f) g h code (hX env) c) {s with heap:=h'}):tI M A (newFunctionEnv a d f [] g h code (hX env) c) Q E s:=by
 show Z2 (wpAny_alloc (Z2 (wpAny_layCells _ (λname kind i=>by lia) _ _ _ _ ?_)));let ok:=cellsFrom_ok a.names (s.heap.push {cls:= .type "dict",data:= .dict #[]}) (⇑s+1) [] %[λ_ _ l=>(nomatch l)|Qy] ∅;rw[Zq]at ok;rw[Zq ..];show Z2 (Z3 (Z3 (j _ ((xl.Ns.new s.heap _).keeps (XA _ _)) (λb u e=>XA _ _ b u (Z7 _ e)) ok)))
def sX{X:Cx}{a:RE}(S:aH X a N' a3)(hc:X.calm=hY)(hi:PI X tg iter wi)
 (hg:∀L M A,PG (cf X a N' L M A) tg g) (ht:∀L M A,PTs (cf X a N' L M A) a4 tc) (he:∀L M A,PE (cf X a N' L M A) a5 te)
 (hs:∀x,O2 iter X.env x=pure x) (I:Qc X ij σ H s) (h:sW wi N'.length a3 g tc te σ H Q)
 (a6:∀(D C:ku) (O:Hp) (s6:mu) (fl:Flow) (m:ZC),s6.heap.Ns C m->mQ X ij O C->(∀h',vr C s6.heap h'->Qc X ij σ O {s6 with heap:=h'})->Q (.ref D) O->compPost (Nf X.prog X.w) X.A X.xe use QQ (.ref D) C (.ok fl) s6):
 (X⁻¹) (comprehension (.ListComp a5 [%[tg,iter,a4|0]] a pos) a X.env co (newList []) iv (MZ iter X.env) use) QQ X.xe s:=by
 show wpAny_comprehension_free (use:=use) rfl hs (Gk (λy hy hk=>I.kindL (S.free y hy hk))) S.kind S.loc (thn (hi ij s σ H _ I h) λv s1 h1=>thn h1 λcp l h2=>?_);let%[it,A,tn,J,H2,e,I2,T,bb,f2|R]:=h2;subst e;show MG (Gp λU Y N ab=>?_);dsimp only at Y N ab ⊢;let I3:Qc X ij σ (Qa H2 ⇑l (.lst [])) {l with heap:=l.heap.push {cls:= .type "list",data:= .seq ([]:ZF).toArray}}:=I2.lnew (its:=[]) (t':=l.toks) .nil (Xf _);let hD:H2 ⇑l=hV:=I2.fresh;let al:∀b∈A,b<⇑l:=λb j=>by let%[o,ho|_]:=T.obj 0 _ bb b j;show Zu ho
 generalize a0:({l with heap:=l.heap.push {cls:= .type "list",data:= .seq ([]:ZF).toArray}}:mu)=B at I3
 let G:B.heap=l.heap.push {cls:= .type "list",data:= .seq ([]:ZF).toArray}:=by rw[<-a0]
 let bc:⇑B=⇑l+1:=by rw[G,Zq]
 let f3:∀b∈A,mQ X ij (Qa H2 ⇑l (.lst [])) b:=λb j=>%[(aq (Zs (al b j)))▸(f2 b j).1|(f2 b j).2]
 let%[W,%[m0|w0]|be]:=R _ hD;let ae:∀b u,B.heap.get? b∣u->U.get? b∣u:=G▸N;let I4:Qc (cf X a N' B (Qa H2 ⇑l (.lst [])) A) [] (sV N'.length a3 σ) (Qa H2 ⇑l (.lst [])) {B with heap:=U,toks:=B.toks}:=I3.block S f3 (λb j=>bc▸Yn (al b j)) (G▸Y) ae (G▸ab);let bf:tn 0 U:=T.keep _ _ _ bb λb j o e=>ae b o (G▸Z7 _ e)
 let cs:(cf X a N' B (Qa H2 ⇑l (.lst [])) A).env=compEnvC a _ ⇑B X.env:=rfl;let ag:∀{H':Hp},(∀b∈A,H' b=hV)->∀b∈A,mQ _ [] H' b:=λhn b j=>
  %[hn b j,(I4.ok.exf b j).1,I4.ok.exfs b j,.inl j,(I4.ok.exf b j).2|λp hp=>n0 (show p∈([]:ZE)from hp) ∅]
 let an:PL (Nf X.prog X.w) X.A (.compLoop (.ListComp a5 [%[tg,iter,a4|0]] a pos) 0 (.ref it) (.ref ⇑l) (cf X a N' B (Qa H2 ⇑l (.lst [])) A).env)
  (compPost (Nf X.prog X.w) X.A X.xe use QQ (.ref ⇑l) ⇑B) {B with heap:=U,toks:=B.toks}:=by
  show codeAny_loop rfl (λn s'=>∃i ys bl H',Qc _ [] bl H' s'/\tn i s'.heap/\(∀b∈A,H' b=hV)/\W i n ys bl H') ?_ m0 %[0,[],_,_,I4,bf,λb j=>(f3 b j).1|w0];intro n s5 %[i,ys,ak,O,I5,bm,bt|w5];change tI _ X.A _ _ _ s5;show wpAny_noted ?_;rw[compTurn_list];show Z2 (Qu (Z2 ?_));rcases be i n ys ak O w5 with⟨stop,q⟩|⟨go,step⟩
  .show thn (T.done (cf X a N' B (Qa H2 ⇑l (.lst [])) A) rfl rfl rfl hc i [] s5 ak O _ I5 (ag bt) bm stop) λr s6 ⟨hr,I6⟩=>?_
   subst hr;show Z3 ?_;let%[m6,b2|_]:=I6.loc;show a6 ⇑l ⇑B O s6 _ m6 b2 (I2.fpOk (bc▸Yg _) I6.free) (λh' sb=>?_) q;let u6:Un (frs X.stack) A (Qa H2 ⇑l (.lst [])) O B.heap s6.heap:=I6.base;let a1:∀b u,B.heap.get? b∣u->b≠⇑B:=λb u e=>Zs (Zu e)
   let u7:Un (frs X.stack) A (Qa H2 ⇑l (.lst [])) O B.heap h':=%[λb u e n j hx=>(sb.2 b (a1 b u e)).trans (u6.keep b u e n j hx),λb u e n j hx=>by
    let%[sl|q]:=u6.slot b u e n j hx;show%[sl|(sb.2 b (a1 b u e)).trans q],u6.free,λb u e hx=>by
    let%[o'|q]:=u6.there b u e hx;show%[o'|(sb.2 b (a1 b u e)).trans q],u6.tups,u6.frzs|u6.tbls]
   let b3:HOk X.prog X.w O h':=λb u e=>by
    let b0:∀c w,O c∣w->c≠⇑B:=λc w q z=>by
     let:O ⇑B=hV:=I6.free;rw[z,this]at q;cases q
    show(I6.hok b u e).stay (λc w b4 q=>(sb.2 c ?_).trans q) (λ_ q=>q) λ_ _ q=>q
    rcases b4 with z|z
    .show z▸b0 b u e
    .show b0 c _ z
   show I2.call' (s':={s6 with heap:=h'}) (ch:=A) (by change s6.os=l.os;rw[I6.os,<-a0];rfl) ((Un.laid (λb u e=>G▸Z7 _ e) (Zi _) hD).trans u7) b3 I6.bare λb j=>%[(f2 b j).2.2.2.1,(f2 b j).2.1,(f2 b j).2.2.2.2.1|(f2 b j).2.2.2.2.2]
  .show thn (T.item (cf X a N' B (Qa H2 ⇑l (.lst [])) A) rfl rfl rfl hc i [] s5 ak O _ I5 (ag bt) bm go) λr s6 ⟨u,hr,h6⟩=>?_
   subst hr;show Z2 (thn h6 λ_ s7 ⟨x,H7,I7,r7,y7,a2,b5⟩=>?_);let ac:∀{α:Type} {t:Sem α} {Q1:α->mu->Prop} {E2:ZD} {s':mu},(X⁻¹) t Q1 (λ_ _=>J5) s'->(X⁻¹) t Q1 E2 s':=λh=>Mz h (λ_ _ q=>q) λ_ _ f=>f.elim
   let as:∀{E:St} {H8:Hp} {s8:mu},Qc (cf X a N' B (Qa H2 ⇑l (.lst [])) A) ([] ++uH A s7.heap) E H8 s8->
    Qc _ [] E H8 s8/\tn (i+1) s8.heap/\∀b∈A,H8 b=hV:=λ{E H8 s8} I8=>by
    show%[I8.unpinned,T.keep _ _ _ a2 λb j o e=>(I8.pin (b,o) (Yv _ (Yv _ (fQ j e)))).1|λb j=>?_];let%[o,e|d]:=T.obj _ _ a2 b j;show(I8.pin (b,o) (Yv _ (Yv _ (fQ j e)))).2.1
   show Z2 (ac (thn (hg B _ A _ s7 ak H7 x u _ (I7.pinned (ag b5) (T.obj _ _ a2)) r7 (step x H7 y7)) λ_ s8 ⟨E,H8,I8,q8⟩=>Z2 (ac (thT (ht B _ A _ s8 E H8 _ I8 q8) λb s9 H9 I9 q9=>?_))));cases b with
   | false=>
     let%[m',hm|w9]:=(q9)
     let%[J1,J2|J3]:=as I9;show Z3 %[rfl,m',hm,i+1,ys,E,H9,J1,J2,J3|w9]
   | true=>
     let q9:=(q9:te E H9 λy O=>∃zs m',O ⇑l<*zs/\ ~~~zs<md/\m'<n/\W (i+1) m' (ys++[y]) E _)
     show Z2 (Z2 (ac (thP (he B _ A _ s9 E H9 _ I9 q9) λu2 b6 y b1 b9 ca ⟨zs,m',hz,hl,hm,cd⟩=>Z2 (ac (thP (sO _ b6 E b1 (.ref ⇑l) [y] (.ref ⇑l) [u2] (λv H'=>v= .non/\H'=Qa b1 ⇑l (.lst (zs++[y]))) b9 rfl (.cons ca .nil) %[_,hz,hl,rfl|rfl]) λu3 ct v3 cv ce cw ⟨cx,cl⟩=>?_)))));subst cl;let%[J1,J2|J3]:=as ce;show Z3 (Z3 %[rfl,m',hm,i+1,ys++[y],E,_,J1,J2,J3|cd])
 subst a0;show(codeAny_compStart_list an (T.self _ 0 _ _ _ bf an))
def Gq{X:Cx}(S:aH X a e f)(n:X.calm=hY)(hi:PI X l iter o)
 (p:∀b c d,PG (cf X a e b c d) l g) (r:∀b c d,PTs (cf X a e b c d) i u) (v:∀b c d,PE (cf X a e b c d) j w)
 (y:∀x,O2 iter X.env x=pure x):
 PE X (.ListComp j [%[l,iter,i|0]] a pos) (sW o e.length f g u w):=by
 intro ij s E H Q I h;show sX S n hi p r v y I h λD C z G J m A _ k q=>%[m,A|λh' B=>%[.ref D,z,k h' B,rfl|q]]
abbrev Its(z:lp):It:=⟨λi _=>i<z.cps.size,λi H x a=>a=H/\∃c,z.cps[i]?∣c/\x= .str ⟨#[c]⟩,λi _=>z.cps.size<=i⟩
def pj{P:nY}{K:ZA}(it:ku)(z:lp)(t:Tok):rB P w K tg (Its z) [it] it (λi h=>h.IsStrIter it "str_ascii_iterator" z t i) where
 mem:=by simp
 obj:=λi h st b hb=>by
  let e:=↑hb
  subst e;let%[o,e,c|d]:=st;show%[o,e|λv z=>by lia]
 keep:=λi h h' st k=>by
  let%[o,e|r]:=st;show%[o,k it ∅ o e|r]
 item:=by
  intro X hP hw hK hc i ij s σ H E I hf st hg;let hlt:i<z.cps.size:=hg;let%[f0,f1,f2,f3,f4|f5]:=hf it ∅;show wpAny_pyNext_ascii_item st (c:=z.cps[i]) ∅ λh' st' sb=>?_
  let%[o,e,c|d]:=id st';show%[_,ρ|si e c d (!1) %[.str _,H,(I.turned (λb o hb e=>(sb.2 b hb).trans e) f0 f1 f3 f4 f5),%[_|ρ],%[ρ,_,by simp|ρ],st'|λb hb=>(hf b hb).1]]
 done:=by
  intro X hP hw hK hc i ij s σ H E I hf st hg;let hle:z.cps.size<=i:=hg;let%[f0,f1,f2,f3,f4|f5]:=hf it ∅;show wpAny_pyNext_ascii_end (I.ok.hd hc) st (by simp[hle]) λh' eb=>%[rfl|I.turned (λb o hb e=>eb b o hb e) f0 f1 f3 f4 f5]
 self:=λ_ _ _ _ _ st h=>wpAny_pyIter_striter_ascii st h
def sY{P:nY}{K:ZA}(it:ku)(z:lp)(t:Tok):rB P w K tg (Its z) [it] it (λi h=>h.IsStrIter it "str_iterator" z t i) where
 mem:=by simp
 obj:=λi h st b hb=>by
  let e:=↑hb
  subst e;let%[o,e,c|d]:=st;show%[o,e|λv z=>by rw[d]at z;cases z]
 keep:=λi h h' st k=>by
  let%[o,e|r]:=st;show%[o,k it ∅ o e|r]
 item:=by
  intro X hP hw hK hc i ij s σ H E I hf st hg;let hlt:i<z.cps.size:=hg;let%[f0,f1,f2,f3,f4|f5]:=hf it ∅;show wpAny_pyNext_wide_item st (c:=z.cps[i]) ∅ λh' st' sb=>?_
  let%[o,e,c|d]:=id st';show%[_,ρ|si e c d (!1) %[.str _,H,(I.turned (λb o hb e=>(sb.2 b hb).trans e) f0 f1 f3 f4 f5),%[_|ρ],%[ρ,_,by simp|ρ],st'|λb hb=>(hf b hb).1]]
 done:=by
  intro X hP hw hK hc i ij s σ H E I hf st hg;let hle:z.cps.size<=i:=hg;let%[f0,f1,f2,f3,f4|f5]:=hf it ∅;show wpAny_pyNext_wide_end (I.ok.hd hc) st (by simp[hle]) λh' eb=>%[rfl|I.turned (λb o hb e=>eb b o hb e) f0 f1 f3 f4 f5]
 self:=λ_ _ _ _ _ st h=>wpAny_pyIter_striter_wide st h
abbrev CK(D:ku)(n i:jg)(Pv:jg->hH V->St->Hp->Prop)(ys:hH V)(b:St)(y:V)(H:Hp):Prop:=
 ∃zs a,H D<*zs/\ ~~~zs<md/\a<n-i/\(a=n-(i+1)/\i+1<=n/\Pv (i+1) (ys++[y]) b (Qa H D (.lst (zs++[y]))))
abbrev CN(n i:jg)(Pv:jg->hH V->St->Hp->Prop)(ys:hH V)(b:St)(H:Hp):Prop:=∃a,a<n-i/\(a=n-(i+1)/\i+1<=n/\Pv (i+1) ys b H)
def CK.mk{Pv:jg->hH V->St->Hp->Prop}(hi:i<n)(a:H D<*zs)(b: ~~~zs<md)(p:Pv (i+1) (ys++[y]) c (Qa H D (.lst (zs++[y])))):CK D n i Pv ys c y H:=
 %[zs,n-(i+1),a,b,⋯,rfl,hi|p]
def CN.mk{Pv:jg->hH V->St->Hp->Prop}(hi:i<n)(p:Pv (i+1) ys a H):CN n i Pv ys a H:=%[n-(i+1),⋯,rfl,hi|p]
def dJ{J:It}{g:TG}{v:TT}{w:TE}{z:Hp->Prop}(Pv:jg->hH V->St->Hp->Prop)(A:Pv 0 [] c H)(s:∀i ys c H,i<n->Pv i ys c H->J.go i H)(d:∀ys c H,Pv n ys c H->J.stop n H)
 (B:∀i ys c H,i<n->Pv i ys c H->∀x f,J.yld i H x f->g x c f λa u=>v a u λb h=>if b=hY then w a h λy r=>CK D n i Pv ys a y r else CN n i Pv ys a h) (C:∀ys c H,Pv n ys c H->z H):
 ∃W:jg->jg->hH V->St->Hp->Prop,(∃m,W 0 m [] c H)/\∀i m ys j l,W i m ys j l->(J.stop i l/\z l)\/
  (J.go i l/\∀x f,J.yld i l x f->g x j f λa u=>v a u λb h=>if b=hY then w a h λy r=>∃zs o,r D<*zs/\ ~~~zs<md/\o<m/\W (i+1) o (ys++[y]) a (Qa r D (.lst (zs++[y])))
   else∃o,o<m/\W (i+1) o ys a h):=by
 show%[λi m ys c H=>m=n-i/\i<=n/\Pv i ys c H,%[n,by simp,Xf _|A]|?_];intro i m ys c H %[rfl,hi|p];by_cases q:i<n
 .show .inr %[s i ys c H q p|λx f y=>B i ys c H q p x f y]
 .let e:i=n:=by lia
  subst e;show .inl %[d ys c H p|C ys c H p]
def z5:∀{bs:hH ri} {us:ZF} {i:jg} {v:kj},aM (bs.map V.bl) us->us[i]?∣v->∃b,bs[i]?∣b/\v= .bool b
 |[],_,_,_,r,e=>by cases r;simp at e
 | b::bs,_,i,v,r,e=>by
   cases r with
   | cons a c=>
     cases(a);cases i with
     | zero=>simp at e;show%[b,ρ|e.symm]
     | succ i=>
       let%[d,f|g]:=z5 c (e);show%[d,f|g]
def pq(bs:hH ri):(p0 bs.length).all (λi=>bs.getD i iv)=bs.all id:=by
 let e:(p0 bs.length).map (λi=>bs.getD i iv)=bs:=by
  apply RA
  .simp
  .intro i a b
   simp_all
 let:(p0 bs.length).all (λi=>bs.getD i iv)=((p0 bs.length).map λi=>bs.getD i iv).all id:=by rw[WD];rfl
 rw[this,e]
def Dl{X:Cx}(m:X.calm=hY):cE X (.builtin "all") (λxs H Q=>db xs λg=>asR g λp=>∃(bs:hH ri),Qb X.K H p (bs.map V.bl)/\Q (.bl (bs.all id)) H):=by
 intro ij s E H xs us Q I r h;let%[g,rfl|d]:=cc h;let%[p,rfl|f]:=aS d;let%[bs,n|q]:=f;let%[u,rfl|w]:=dD r;cases w;let%[its,j,pl|G]:=I.list n;let y:X.A.in1.handled=hV:=I.ok.hd m;let a: ~~~bs=its.toArray.size:=by rw[Zp,<-j.length,Z6]
 show call_all_walk (OU pl.isList %[⇑s,[⇑s,p],[⇑s],its.toArray.size,_,_,λi=>bs.getD i iv,rfl,Ut y _ p (Zs (by let%[o,z|_]:=pl.isList;show Zu z)) its.toArray,%[%[_,Zj _ rfl,rfl|rfl]|pl.isList.push _],?_|?_])
 .intro i v s' A J B c;let%[b,l|rfl]:=z5 j ↑B;let e:bs.getD i iv=b:=!2
  let c:A (bs.getD i iv) s':=c;rw[e]at c;show Nn c
 .intro h' tk C;rw[<-a,pq];show%[.bl _,H,I.kept λb o e=>C b o ?_ (Z7 _ e),ρ|q];let:=Zu e;intro l;show n0 (Xo l) (Zs this)
def iS:∀{ss:ZB} {us:ZF},aM (ss\3) us->MV us ss
 |[],_,r=>by cases r;show .nil
 | x::ss,_,r=>by
   cases r with
   | cons a b=>
     let%[t|e]:=a;subst e;show .cons x t (iS b)
abbrev z6(K:ZA):V->hH V->Hp->VK->Prop:=λx vs H Q=>asS x λz=>db vs λa=>asR a λl=>∃ss,Qb K H l (ss\3)/\(ss.map (·.length)).sum+ ~~~ss* ~~~z<=16777216/\Q (.str (Txt.join z ss)) H
def Gr{X:Cx}:MtM X "str.join" (z6 X.K):=by
 intro ij s i H x vs v us Q I d e h;let%[z,rfl|a]:=eO h;let%[j,rfl|b]:=cc a;let%[l,rfl|c]:=aS b;let%[ss,f,hw|q]:=c;let%[t|rfl]:=d;let%[u,rfl|g]:=e.one;cases g;let%[its,r,pl|m]:=I.list f;show XH pl.isList (iS r) hw λt' k=>%[.str _,H,I.tok k,%[_|rfl]|q]
def Dm{X:Cx}:cE X (.builtin "isinstance") (λxs H Q=>∃x n t b,xs=[x,.ty n]/\j9 X.K H x t/\Pe X.K t (.type n)∣b/\Q (.bl b) H):=by
 intro ij s d H xs us Q I r h;let%[x,n,t,b,rfl,ty,e|q]:=h;let%[u,f,rfl,c|a]:=lq r;cases(a);show Bs I c ty e λtk=>%[.bl b,H,I.tok tk,rfl|q]
def sZ(z:lp)(c i:jg):Tq z ⟨#[c]⟩ i=decide (z.cps[i]?∣c):=by
 unfold Tq;let b: ~~~(⟨#[c]⟩:lp)=1:=rfl;rw[b];by_cases hi:i<z.cps.size
 .let e:z.cps.extract i (i+1)= #[z.cps[i]]:=by
   apply XO
   .simp;lia
   .intro j d a;simp at a;subst a;simp
  rw[e,Mw hi];by_cases f:z.cps[i]=c
  .subst f;simp
  simp_all
 .let e:z.cps.extract i (i+1)= #[]:=by
   apply XO
   .simp;lia
   .intro j d a;simp at a
  rw[e,Oq ⋯];simp
def uT(z:lp)(c:jg):(!(J0 z ⟨#[c]⟩ 0 z.length 1).isEmpty)=decide (c∈z.cps.toList):=by
 rcases StrLaws.occ_head z _ 1 (Zi _)with⟨e,d⟩|⟨i,r,e,f,_⟩
 .rw[e];show(Zh λg=>?_).symm;let%[j,h|l]:=hH.mem_iff_getElem.mp g;let a:=↑h
  show d j %[?_|?_]
  .change j+1<=z.cps.size;lia
  .rw[sZ];show Zf (by rw[Mw a];simpa using l)
 .rw[e];show(Zf ?_).symm;let b:=f.2;rw[sZ]at b;let:=OR (Zo b);simpa using this
section
variable{X:Cx}
nonrec abbrev HF:R2:=λx y H Q=>asS x λi=>asS y λj=> ~~~i+ ~~~j<=md/\Q (.str (i++j)) H
nonrec abbrev Do:R2:=λx y H Q=>rI CT (λi j=> .int (i*j)) x y H Q\/Jp x y H Q
def Gu:OpR X (M7 .Mult) Do:=CU.or Jq
nonrec abbrev Js:R2:=rEq
def Jt:OpR X (pp .Eq) Js:=HB
nonrec abbrev Ju:R2:=rNe
def Jv:OpR X (pp .NotEq) Ju:=zV
nonrec abbrev Jw:R2:=λx y H Q=>asS x λi=>asS y λj=>Q (.bl (!(J0 j i 0 j.length 1).isEmpty)) H
nonrec abbrev Gw(K:ZA):R2:=λx y H Q=>Jw x y H Q\/rIn K iv x y H Q
def Jx:OpR X (pp .In) (Gw X.K):=sr.or sK
abbrev Gx(K:ZA)(c:TE):TI:=λd H R=>c d H λx b=>(∃a,x= .ref a/\(∃xs,Qb K b a xs)/\R (Itl K a) b)\/(∃a,x= .ref a/\(∃xs,SqT K b a xs)/\R (Itt K a) b)\/∃z,x= .str z/\R (Its z) b
def Jy(n:PE X l r):PI X C l (Gx X.K r):=by
 intro ij s u H R I h;show thP (n ij s u H _ I h) λv d x g f i w=>?_
 let c:∀b∈[⇑d],mQ X ij g b:=λb y=>by
  let e:b=⇑d:=↑y
  subst e;show f.fpOk (Zi _) (f.hok.fresh (Zi _))
 rcases w with⟨a,e,⟨xs,j⟩,q⟩|⟨a,e,⟨xs,j⟩,q⟩|⟨z,e,q⟩
 .subst e;cases i;let%[its,A,p|B]:=f.list j;show OU p.isList %[⇑d,[⇑d],_,_,g,rfl,f.kept (t':=d.toks) λb o e=>Z7 _ e,sj a _,%[_,Zj _ rfl,rfl|rfl],c|q]
 .subst e;cases i;let%[its,A,p|B]:=f.tuple j;show Se (p) %[⇑d,[⇑d],_,_,g,rfl,f.kept λb o e=>Z7 _ e,yi a _,%[_,Zj _ rfl,rfl|rfl],c|q]
 .subst e;let%[t|rfl]:=i;cases m:z.cps.all _ with
  | true=>
    show V6 m %[⇑d,[⇑d],_,_,g,rfl,f.kept λb o e=>Z7 _ e,pj _ z t,%[_,Zj _ rfl,rfl|rfl],c|q]
  | false=>
    show Wu m %[⇑d,[⇑d],_,_,g,rfl,f.kept λb o e=>Z7 _ e,sY _ z t,%[_,Zj _ rfl,rfl|rfl],c|q]
end
abbrev bH(c:RE)(N:ZB)(a:RE)(d:ZB)(b:hH (jg×jg)):ri:=
 decide (a.kind= .function)&&a.names.all (λy=>(decide (y.2≠ .cell)||decide (a.names.lookup y.1∣.cell))&&(decide (y.2≠ .local)||decide (a.names.lookup y.1∣.local))&&(decide (y.2≠ .free)||decide (c.names.lookup y.1∣.cell)||decide (c.names.lookup y.1∣.free)))&&
  b.all λp=>match d[p.1]? with
   | some x=>decide (N[p.2]?∣x)&&decide (a.names.lookup x∣.free)
   | none=>iv
def aH.of{X:Cx}(h:bH X.env.scope X.N a g c=hY):aH X a g c:=by
 unfold bH at h;rw[Zv,Zv,NC,NC]at h;let%[%[i|d]|j]:=h;show%[Zo i,λy b f=>?_,λy b f=>?_,λy b l=>?_|λp m=>?_]
 .let:=d y b;simp only[Zv,TW,Mx]at this;show this.1.1.resolve_left λq=>q f
 .let:=d y b;simp only[Zv,TW,Mx]at this;show this.1.2.resolve_left λq=>q f
 .let:=d y b;simp only[Zv,TW,Mx]at this;rcases this.2 with(q|q)|q
  .show n0 l q
  .show .inl q
  .show .inr q
 .let:=j p m;cases e:g[p.1]? with
  | none=>simp_all
  | some x=>
    rw[e]at this;simp only[Zv,Mx]at this;show%[x,ρ,this.1|this.2]
structure Gv (mg:ZC) (x:lp) (v:V):Prop where
 ex:∃u,mg x∣u/\aX v u
def HG{X:Cx}(g:Gv X.mg x v)(a:Gl X x)(b:(x==("__debug__":lp))=iv):PE X (.Name x pos) (tC v):=by
 let%[u,h|r]:=g.ex;show FM a h r b
structure Cal (P:nY) (w:v0) (K:ZA) (mg:ZC) (base:xl) (k:jg) (x:lp) (ps:ZB) (sp:Sp):Prop where
 ex:∃f fd,eQ P w K mg base CX0 k f fd ps sp/\mg x∣.ref f/\OF K (.ref f)=hY/\dW K fd ps []
structure aD (K:ZA) (mg:ZC) (x:lp) (st:zr) (ps:ZB):Prop where
 ex:∃f fd,Fun K x x st f fd/\mg x∣.ref f/\dW K fd ps []
def aD.cal{P:nY}{K:ZA}{st:zr}(D:aD K mg x st ps)(S:au N ps (ao st))
 (a:∀(H:Hp) (vs:hH V) (Q:VK) (E:XK),sp vs H Q E-> ~~~vs= ~~~ps/\∀(f:ku) (b:kj) (A:wh) (outer:hH Env) (s:mu),bG k (A.deeper (Ng x (ao st) ⇑s f b))->
  ∃t,PSs (fS CX0 P w K mg base N x (ao st) f b A outer s H E).nox (bM st) t/\t {nx:=λ_ c=>Q .non c,rt:=Q} (start N vs) H):Cal P w K mg base (k+1) x ps sp:=by
 let%[f,d,F,e|g]:=D.ex;show%[f,d,F.ok S (λv H Q E h=>(a H v Q E h).1) (λb A o s H v Q E r h=>(a H v Q E h).2 f b A o s r),e,F.kp|g]
def Jz{X:Cx}(C:Cal X.prog X.w X.K X.mg X.base j x ps sp)(g:bG k X.A)(h:Gl X x)(i:iQ CX0 X E0)(l:PA X (e::a) t)(b:j<=k)
 (c:(x==("__debug__":lp))=iv) (m:vi (e::a) X.env=(iv,MZ e X.env)::vi a X.env) (d:(Nt pos (vi a X.env)).any (·.1)=iv):
 PE X (.Call (.Name x p) (e::a) [] pos) (sE sp [] E0 t):=by
 let%[f,r,F,n,o|q]:=C.ex;show zZ F (g.mono b) h n o q .nil i l c m d
def JA{K:ZA}{h:xl}{st:zr}{kV e g d ct:kj}(X:K.In h)(G:h.Ns wy mg)
 (a:RY K wy x∣hX (.ref f)) (l:K.lookup f=hX %[m,od,.func (S7 x x (dw st) (bM st) (ao st) .none kV e g i d ct)|j]) (c:RB K d x=hY) (k:OF K (.ref f)=hY)
 (b:∀(kV e g:kj) (i:ZI) (d ct:kj) (us:ZF),~~~us= ~~~ps->bindArgs (S7 x x (dw st) (bM st) (ao st) .none kV e g i d ct) %[us|[]]=pure (ps.zip us)):aD K mg x st ps:=
 %[f,_,eD l c k,Oo X G a|(eD l c k).binds b]
def Lk{K:ZA}{h:xl}(X:K.In h)(G:h.Ns wy mg)(a:RY K wy x∣hX u)(r:aX v u):Gv mg x v:=%[u,Oo X G a|r]
def ay(h:∀a:It->Hp->Prop,(∀J f,(∃W:jg->jg->St->Hp->Prop,(∃m,W 0 m b f)/\∀i m b H,W i m b H->
 (J.stop i H/\D.nx b H)\/(J.go i H/\∃N:St->Hp->Prop,(∀c d,N c d->∃j,j<m/\W (i+1) j c d)/\∀x d,J.yld i H x d->g x b d λe l=>n {D with nx:=N,ct:=N,bk:=D.nx} e l))->a J f)->o b H a):uG o g n D b H:=h _ λ_ _ x=>x
def aL(h:∀c:It->Hp->Prop,(∀J j,(∀D,j D=hV->∃W:jg->jg->hH V->St->Hp->Prop,
 (∃m,W 0 m [] (sV n l o) (Qa j D (.lst [])))/\∀i m ys d e,W i m ys d e->(J.stop i e/\Q (.ref D) e)\/
  (J.go i e/\∀x p,J.yld i e x p->g x d p λa s=>u a s λb q=>if b=hY then v a q λy r=>∃zs f,r D<*zs/\ ~~~zs<md/\f<m/\W (i+1) f (ys++[y]) a (Qa r D (.lst (zs++[y])))
   else∃f,f<m/\W (i+1) f ys a q))->c J j)->w o H c):sW w n l g u v o H Q:=h _ λ_ _ x=>x
section
variable{X:Cx}{K:ZA}
def JB(h:X.K=K):OpR X (pp .In) (Gw K):=by subst h;show Jx
def BD(h:X.K=K):cE X (.builtin "len") (λxs H Q=>db xs λx=>∃n,F0 K x H n/\Q (.int n) H):=by subst h;show CZ
def BE(h:X.K=K)(a:X.calm=hY):cE X (.builtin "all") (λxs H Q=>db xs λb=>asR b λp=>∃(bs:hH ri),Qb K H p (bs.map V.bl)/\Q (.bl (bs.all id)) H):=by subst h;show Dl a
def BF(h:X.K=K):cE X (.builtin "isinstance") (λxs H Q=>∃x n t b,xs=[x,.ty n]/\j9 K H x t/\Pe K t (.type n)∣b/\Q (.bl b) H):=by subst h;show Dm
def yJ(h:X.K=K):cE X (.type "list") (λxs H Q=>db xs λa=>asR a λp=>∃ys,(Qb K H p ys\/SqT K H p ys)/\∀l,H l=hV->Q (.ref l) (Qa H l (.lst ys))):=by subst h;show uP
def Dp(h:X.K=K):MtR X "str.join" (z6 K):=by subst h;show Gr
def BG(h:X.K=K)(d:PE X a e)(f:∀b,S6 a X.env b=(do let v<-b;Pk a.pos;PF [v] (UO v))):PT X a (λg H Q=>e g H λx c=>∃k,Bp K x c k/\Q k c):=by subst h;show CY d f
def Gy(h:X.K=K)(a:PE X l b):PI X c l (Gx K b):=by subst h;show Jy a
variable{o e:yu}{es:hH yu}{to:TE}{t:TA}{name:lp}{apos cpos:Pos}{T id:M5}{r:V->hH V->Hp->VK->Prop}
def Gz(h:X.K=K)(d:Pi T)(slot:Slot T name id)(c:Pu (.builtin id)=pure (.type "method_descriptor"))(f:MtR X id r)(g:PE X o to)
 (a:Nj o name X.env (MZ o X.env)=MZ o X.env) (b:(apos.endLine==cpos.line)=hY):PE X (.Call (.Attribute o name apos) [] [] cpos) (Gb K T r to):=by
 subst h;show Jm d slot c f g a b
def Dq(h:X.K=K)(g:Pi T)(slot:Slot T name id)(f:Pu (.builtin id)=pure (.type "method_descriptor"))(i:MtR X id r)(j:PE X o to)(l:PA X (e::es) t)
 (b:Nj o name X.env (MZ o X.env)=MZ o X.env)
 (d:((Nt cpos (vi (e::es) X.env)).all (λx=>!x.1)&&(Qh cpos (Od [] X.env)).all (λx=>x.1.isSome)
  && decide (~~~(e::es)+ ~~~([]:hH O5)+(if([]:hH O5).isEmpty then 0 else 1)<30))=hY)
 (c:(apos.endLine==cpos.line)=hY) (m:vi (e::es) X.env=(iv,MZ e X.env)::vi es X.env) (a:(Nt cpos (vi es X.env)).any (·.1)=iv):
 PE X (.Call (.Attribute o name apos) (e::es) [] cpos) (tBM K T r to t):=by
 subst h;show Li g slot f i j l b d c m a
end
section
variable{X:Cx}{ij:ZE}{σ:St}{H:Hp}{s s':mu}{h':xl}{tk:jg}{fp:hH ku}
def Qc.moved(I:Qc X ij σ H s)(c:∀b∈fp,mQ X ij H b)(d:∀b o,b∉fp->s.heap.get? b∣o->h'.get? b∣o):Qc X ij σ H {s with heap:=h',toks:=tk}:=by
 let f:∀b v,H b∣v->b∉fp:=λb v e a=>by rw[(c b a).1]at e;cases e
 show I.step (λb a=>%[(c b a).2.2.2.1,(c b a).2.1,(c b a).2.2.2.2.1|(c b a).2.2.2.2.2]) (λb o _ _ g e _=>d b o g e) (λb o _ _ g e _=>%[o.slots|d b o g e]) (λ_ _ _ _ n=>n)
  (λb o g e=>%[o|d b o g e]) (λ_ _ e=>e) (λ_ _ _ e=>e) (λb ps e=>%[#[]|by rw[e];simp]) (λm l=>?_) (λb v e=>?_) I.bare
 .let%[o,p,u,w|r]:=l;show%[o,p,u,d _ o (λa=>(c _ a).2.1 rfl) w|r]
 .show(I.hok b v e).stay (λj y h q=>d j y ?_ q) (λ_ q=>q) λ_ _ q=>q
  rcases h with i|i
  .show i▸f b v e
  .show f j _ i
def Qc.stood3(I:Qc X c y B s)(g:∀p∈ij,p∈c)(J:Qc X ij σ H s')(d:H a=hV)(C:s.heap.get? a=hV)(new:cD X.prog X.w (Qa H a o) s'.heap a o):Qc X ij σ (Qa H a o) s':=by
 let ne:∀{b:ku} {o:Ob},s.heap.get? b∣o->b≠a:=λe z=>by lia
 show%[J.ok,J.os,J.bare,?_,J.loc,J.cell,?_,?_,?_,?_|J.len]
 .show%[J.base.keep,J.base.slot,λb o e n j=>?_,J.base.there,λb xs e=>?_,λb o v e=>?_|λb ps e=>?_]
  .let%[E|A]:=I.base.there b o e j;rw[aq (ne A)];show J.base.free b o e n j
  .rw[aq (ax (J.base.tups b xs e) d)];show J.base.tups b xs e
  .rw[aq (ax (J.base.frzs b o v e) d)];show J.base.frzs b o v e
  .let%[m|q]:=J.base.tbls b ps e;show%[m|(aq (ax q d))▸q]
 .let%[m,%[G,_,_,h|_]|_]:=I.loc;rw[aq (ne h)];show J.free
 .intro l f e;let%[L,M,i|_]:=I.cell l f e;rw[aq (ne i)];show J.freeC l f e
 .intro p u;let%[e,n|r]:=J.pin p u;show%[e,?_|r];let:=(I.pin p ((Xn u).elim (λz=>Yu _ z) λz=>Yv _ (g p z))).1;rw[aq (ne this)];show n
 .intro b v e;by_cases w:b=a
  .subst w;rw[aa]at e;cases e;show new
  .rw[aq w]at e;show(J.hok b v e).stay (λ_ _ _ q=>q) (λf q=>?_) λf xs q=>?_
   .rw[aq (ax q d)];show q
   .rw[aq (ax q d)];show q
def Qc.stood2(I:Qc X ij σ d s)(J:Qc X ij σ H s')(b:H a=hV)(c:⇑s<=a)(new:cD X.prog X.w (Qa H a o) s'.heap a o):Qc X ij σ (Qa H a o) s':=
 I.stood3 (λ_ h=>h) J b (by
  cases e:s.heap.get? a with
  | none=>rfl
  | some o=>show n0 (Zu e) (jg.not_lt.mpr c)) new
def Qc.stoodS(I:Qc X ij σ H s)(J:Qc X ij σ H s')(b:⇑s<=a)(new:cD X.prog X.w (Qa H a o) s'.heap a o):Qc X ij σ (Qa H a o) s':=I.stood2 J (I.hok.fresh b) b new
def Qc.stood(I:Qc X ij σ H s)(J:Qc X ij σ H {s with heap:=h',toks:=tk})(b:⇑s<=a)(new:cD X.prog X.w (Qa H a o) h' a o):Qc X ij σ (Qa H a o) {s with heap:=h',toks:=tk}:=I.stoodS J b new
end
structure yK (z TI TO i1 i2:ku):Prop where
 TIz:TI≠z
 TOz:TO≠z
 i1z:i1≠z
 i2z:i2≠z
 TITO:TI≠TO
 TIi1:TI≠i1
 TIi2:TI≠i2
 TOi1:TO≠i1
 TOi2:TO≠i2
 i12:i1≠i2
section
variable{prog:Program}{w:World}{A:Around}{E:ZD}{s:Shared}
variable{z TI TO i1 i2:ku}{fp1 fp2:hH ku}{n1 n2 i:jg}{P1 P2:jg->kj->Prop}{St1 St2:jg->xl->Prop}
def Dr{Q:ZD}(D1:VN prog w A i1 fp1 n1 P1 St1)(D2:VN prog w A i2 fp2 n2 P2 St2)(D:yK z TI TO i1 i2)(O:∀b∈fp1,b≠z/\b≠TO/\b≠i2)(m2:∀b∈fp2,b≠z/\b≠TO/\b≠i1)
 (T:SN s.heap z TI TO .none) (ac:Pj s.heap TI (.ref i1) (.ref i2)) (ae:Pj s.heap TO a b) (h1:St1 i s.heap) (h2:St2 i s.heap) (l1:i<n1) (l2:i<n2)
 (hQ:∀x y h' tk,P1 i x->P2 i y->SN h' z TI TO (MO ⇑s)->Pj h' TO x y->St1 (i+1) h'->St2 (i+1) h'->Pj h' ⇑s x y->
  (∀c o,c≠z->c≠TO->c≠i1->c≠i2->s.heap.get? c∣o->h'.get? c∣o)->Q (.ref ⇑s) {s with heap:=h',toks:=tk}):
 ↥A (n7.«zip.__next__» %[[.ref z]|[]]) (λfin s'=>∃v,fin= .done (.ret v)/\Q v s') E s:=by
 let r:∀{k h h' c},(∀b∈fp1,b≠c)->vr c h h'->St1 k h->St1 k h':=λhc sb st=>D1.frame _ _ _ st λb d o e=>(sb.2 b (hc b d)).trans e
 let u:∀{k h h' c},(∀b∈fp2,b≠c)->vr c h h'->St2 k h->St2 k h':=λhc sb st=>D2.frame _ _ _ st λb d o e=>(sb.2 b (hc b d)).trans e
 change tI _ _ (field (.ref z) 2>>= _) _ _ _;show Z2 (MU T rfl (x:= .bool iv) rfl ?_);change tI _ _ (field (.ref z) 3>>= _) _ _ _;show Z2 (MU T rfl (x:= .ref TI) rfl (Z2 (Nl ac rfl ?_)));change tI _ _ (Nd (.ref z)>>= _) _ _ _;show Z2 ?_;unfold Nd;show Z2 (MU T rfl (x:= .none) rfl (Z3 ?_));simp only[Qp];show Z2 (OB (Z2 (MU T rfl (x:= .ref TO) rfl (Z2 (zz T ∅ λg1 M n=>?_)))));replace M:SN g1 z TI TO .ellipsis:=M;show Z2 ?_;simp only[R9,VL,Sj,V3];show Z2 (Z2 (R8 ?_));change tI _ _ (NO (.ref i1)>>= _) _ _ _;show Z2 (D1.item i _ _ _ l1 (r (λb d=>(O b d).1) n h1) λx g2 ag px ak f=>Z3 ?_);replace f:vr i1 g1 g2:=f;let I:Pj g2 TO a b:=(f.2 _ D.TOi1).trans ((n.2 _ D.TOz).trans ae);show Z2 (Nl I rfl (Z2 (Ri (s:={s with heap:=g2,toks:=ag}) I λg3 p g=>?_)));replace p:Pj g3 TO x b:=p;replace g:vr TO g2 g3:=g;show Z2 (Rn (Z3 (Z2 (Z2 (R8 ?_)))));change tI _ _ (NO (.ref i2)>>= _) _ _ _;show Z2 (D2.item i _ _ _ l2 (u (λb d=>(m2 b d).2.1) g (u (λb d=>(m2 b d).2.2) f (u (λb d=>(m2 b d).1) n h2))) λy g4 B py al j=>Z3 ?_);replace j:vr i2 g3 g4:=j;let J:Pj g4 TO x b:=(j.2 _ D.TOi2).trans p;show Z2 (Nl J rfl (Z2 (Ri (s:={s with heap:=g4,toks:=B}) J λq m l=>?_)));replace m:Pj q TO x y:=m;replace l:vr TO g4 q:=l;show Z2 (Rn (Z3 (Z3 (Z2 (Nl m rfl (Z2 (Rk ?_)))))));let U:q.objs.size=⇑s:=by rw[l.1,j.1,g.1,f.1,n.1]
 let Y:SN q z TI TO .ellipsis:=(l.2 _ D.TOz.symm).trans ((j.2 _ D.i2z.symm).trans ((g.2 _ D.TOz.symm).trans ((f.2 _ D.i1z.symm).trans M)));let an:∀c o,c≠z->c≠TO->c≠i1->c≠i2->s.heap.get? c∣o->q.get? c∣o:=λc o c1 c2 c3 c4 e=>
  (l.2 c c2).trans ((j.2 c c4).trans ((g.2 c c2).trans ((f.2 c c3).trans ((n.2 c c1).trans e))))
 let L:z<q.objs.size:=Zu Y;show Z2 (Z2 (zz (s:={s with heap:=q.push {cls:= .type "tuple",data:= .seq #[x,y]},toks:=B}) (Z7 _ Y) ∅ λg7 N C=>?_));replace N:SN g7 z TI TO (MO q.objs.size):=N;replace C:vr z (q.push _) g7:=C;show zz (s:={s with heap:=g7,toks:=B}) N ∅ λg8 G H=>?_
 replace G:SN g8 z TI TO (MO q.objs.size):=G;replace H:vr z g7 g8:=H;let up:∀c o,c≠z->q.get? c∣o->g8.get? c∣o:=λc o c1 e=>(H.2 c c1).trans ((C.2 c c1).trans (Z7 _ e))
 let ab:=(H.2 _ (Yz L)).trans ((C.2 _ (Yz L)).trans (Zj _ rfl));rw[U]at G ab;show Z3 %[_,rfl|?_];rw[U];show hQ x y g8 B px py G (up _ _ D.TOz m) (D1.frame _ _ _ (r (λb d=>(O b d).2.1) l (r (λb d=>(O b d).2.2) j (r (λb d=>(O b d).2.1) g ak))) λb d o e=>up b o (O b d).1 e) (D2.frame _ _ _ (u (λb d=>(m2 b d).2.1) l al) λb d o e=>up b o (m2 b d).1 e) ab λc o c1 c2 c3 c4 e=>up c o c1 (an c o c1 c2 c3 c4 e)
def Dt(O:VN prog w A i1 fp1 n1 P1 St1)(D2:VN prog w A i2 fp2 n2 P2 St2)(D:yK z TI TO i1 i2)(m1:∀b∈fp1,b≠z/\b≠TO/\b≠i2)(m2:∀b∈fp2,b≠z/\b≠TO/\b≠i1)
 (C:SN s.heap z TI TO .none) (T:Pj s.heap TI (.ref i1) (.ref i2)) (U:Pj s.heap TO a b) (h1:St1 i s.heap) (h2:St2 i s.heap) (l1:i<=n1) (l2:i<=n2) (ab:i=n1\/i=n2)
 (hE:∀h' e tk,(∀c o,c≠z->c≠TO->c≠i1->c≠i2->s.heap.get? c∣o->h'.get? c∣o)->(∃o,h'.get? e∣o/\o.cls= .type "StopIteration")->E (.ref e) {s with heap:=h',toks:=tk}):
 ↥A (n7.«zip.__next__» %[[.ref z]|[]]) Q E s:=by
 let Y:∀{k h h' c},(∀b∈fp1,b≠c)->vr c h h'->St1 k h->St1 k h':=λhc sb st=>O.frame _ _ _ st λb j o e=>(sb.2 b (hc b j)).trans e
 let v:∀{k h h' c},(∀b∈fp2,b≠c)->vr c h h'->St2 k h->St2 k h':=λhc sb st=>D2.frame _ _ _ st λb j o e=>(sb.2 b (hc b j)).trans e
 change tI _ _ (field (.ref z) 2>>= _) _ _ _;show Z2 (MU C rfl (x:= .bool iv) rfl ?_);change tI _ _ (field (.ref z) 3>>= _) _ _ _;show Z2 (MU C rfl (x:= .ref TI) rfl (Z2 (Nl T rfl ?_)));change tI _ _ (Nd (.ref z)>>= _) _ _ _;show Z2 ?_;unfold Nd;show Z2 (MU C rfl (x:= .none) rfl (Z3 ?_));simp only[Qp];show Z2 (OB (Z2 (MU C rfl (x:= .ref TO) rfl (Z2 (zz C ∅ λM n l=>?_)))));replace n:SN M z TI TO .ellipsis:=n;show Z2 ?_;simp only[R9,VL,Sj,V3];show Z2 (Z2 (R8 ?_));change tI _ _ (NO (.ref i1)>>= _) _ _ _;let G:St1 i M:=Y (λb j=>(m1 b j).1) l h1;by_cases c1:i<n1
 .let e2:i=n2:=by lia
  show Z2 (O.item i _ _ _ c1 G λx r y px ae d=>Z3 ?_);replace d:vr i1 M r:=d;let u:Pj r TO a b:=(d.2 _ D.TOi1).trans ((l.2 _ D.TOz).trans U);show Z2 (Nl u rfl (Z2 (Ri (s:={s with heap:=r,toks:=y}) u λH ac f=>?_)));replace f:vr TO r H:=f;show Z2 (Rn (Z3 (Z2 (Z2 (R8 ?_)))));change tI _ _ (NO (.ref i2)>>= _) _ _ _;show Z2 (D2.done _ _ _ (e2▸v (λb j=>(m2 b j).2.1) f (v (λb j=>(m2 b j).2.2) d (v (λb j=>(m2 b j).1) l h2))) λN e p he=>?_);replace p:ExtBut i2 H N:=p;let%[oe,g|m]:=he;let I:SN N z TI TO .ellipsis:=p _ _ D.i2z.symm ((f.2 _ D.TOz.symm).trans ((d.2 _ D.i1z.symm).trans n));let B:e≠z:=λx=>by subst x;rw[I]at g;cases g;simp at m
  show zz (s:={s with heap:=N,toks:=y}) I ∅ λg5 _ q=>?_
  replace q:vr z N g5:=q;show hE g5 e y (λc o J d2 d3 d4 x=>(q.2 c J).trans (p c o d4 ((f.2 c d2).trans ((d.2 c d3).trans ((l.2 c J).trans x))))) %[oe,(q.2 e B).trans g|m]
 .let e1:i=n1:=by lia
  show Z2 (O.done _ _ _ (e1▸G) λr e d he=>?_);replace d:ExtBut i1 M r:=d;let%[oe,g|m]:=he;let L:=d _ _ D.i1z.symm n;let B:e≠z:=λx=>by subst x;rw[L]at g;cases g;simp at m
  show zz (s:={s with heap:=r}) L ∅ λH _ f=>?_
  replace f:vr z r H:=f;show hE H e s.toks (λc o J _ d3 _ x=>(f.2 c J).trans (d c o d3 ((l.2 c J).trans x))) %[oe,(f.2 e B).trans g|m]
end
abbrev Itz(x y:lp):It:=⟨λi _=>i<x.cps.size/\i<y.cps.size,λi H v a=>∃c d T,x.cps[i]?∣c/\y.cps[i]?∣d/\H T=hV/\v= .ref T/\a=Qa H T (.tup [.str ⟨#[c]⟩,.str ⟨#[d]⟩]),
 λi _=>i<=x.cps.size/\i<=y.cps.size/\(i=x.cps.size\/i=y.cps.size)⟩
abbrev ZSt(z TI TO c d:ku)(e f:jg->xl->Prop)(i:jg)(h:xl):Prop:=SN h z TI TO .none/\Pj h TI (.ref c) (.ref d)/\(∃a b,Pj h TO a b)/\e i h/\f i h
def jU(prog:nY)(w:v0)(x:lp)(t:Tok)(it:ku):∀A,A.handled=hV->
 VN prog w A it [it] x.cps.size (λi v=>∃c u,x.cps[i]?∣c/\v= .str ⟨#[c]⟩ u) (λi h=>h.IsStrIter it (OM x) x t i):=by
 intro A a;unfold OM;cases b:x.cps.all _ with
 | true=>show VN.strAscii a it x t
 | false=>show VN.strWide a it x t
def Du{P:nY}{K:ZA}(z TI TO i1 i2:ku)(x y:lp)(t u:Tok)(D:yK z TI TO i1 i2):
 rB P w K (.Tuple elts kt tp) (Itz x y) [z,TI,TO,i1,i2] z (ZSt z TI TO i1 i2 (λi h=>h.IsStrIter i1 (OM x) x t i) (λi h=>h.IsStrIter i2 (OM y) y u i)) where
 mem:=by simp
 obj:=λi h st b hb=>by
  let%[hz,hTI,%[a,c|hTO],%[o1,e1,_|d1],o2,e2,_|d2]:=st
  grind
 keep:=λi h h' st k=>by
  let%[hz,hTI,%[a,c|hTO],%[o1,e1|r1],o2,e2|r2]:=st;show%[k z ∅ _ hz,k TI ∅ _ hTI,%[a,c|k TO ∅ _ hTO],%[o1,k i1 ∅ _ e1|r1],o2,k i2 ∅ _ e2|r2]
 item:=by
  intro X hP hw hK hc i ij s σ H E I hf st hg;subst hP hw hK;let%[hz,hTI,%[a,c|hTO],h1|h2]:=st;obtain⟨g1,g2⟩:i<x.cps.size/\i<y.cps.size:=hg;let hT:s.TypeIs (.ref z) "zip":=%[_,hz|rfl]
  let hh:X.A.in1.handled=hV:=I.ok.hd hc;unfold Qd;show Z2 (NB (M0 (name:=!"__next__") hT QV (MC QV hT Wn
   (Dr (jU _ _ x t i1 _ hh) (jU _ _ y u i2 _ hh) D (λb hb=>(show b=i1 by simpa using hb)▸%[D.i1z,I0 D.TOi1|D.i12]) (λb hb=>(show b=i2 by simpa using hb)▸%[D.i2z,I0 D.TOi2|I0 D.i12]) hz hTI hTO h1 h2 g1 g2 λv1 v2 h' tk p1 p2 a1 a2 a3 a4 a5 hk=>Z3 ?_) (V5 _))))
  let%[c1,u1,e1|rfl]:=p1;let%[c2,u2,e2|rfl]:=p2;show%[_,ρ|Uh (s:={s with heap:=h',toks:=tk}) a1 λh'' hz'' sb=>?_];replace sb:vr z h' h'':=sb;let kk:∀b o,b∉[z,TI,TO,i1,i2]->s.heap.get? b∣o->h''.get? b∣o:=λb o hb e=>by
   simp only[Yw,X6,M4,OY]at hb;show(sb.2 b hb.1).trans (hk b o hb.1 hb.2.2.1 hb.2.2.2.1 hb.2.2.2.2 e)
  let turn1:Qc X ij σ H {s with heap:=h'',toks:=tk}:=I.moved hf kk;let Hn:H ⇑s=hV:=I.fresh;let I2:Qc X ij σ (Qa H ⇑s (.tup [.str ⟨#[c1]⟩,.str ⟨#[c2]⟩])) {s with heap:=h'',toks:=tk}:=
   I.stood turn1 (Zi _) %[by change 2<=md;decide,[.str _ u1,.str _ u2],.cons %[_|rfl] (.cons %[_|rfl] .nil),_,((sb.2 _ (Yz (Zu hz))).trans a5),rfl,_|rfl]
  show%[.ref ⇑s,_,I2,ρ,%[c1,c2,_,e1,e2,Hn,ρ|ρ],%[hz'',(sb.2 _ D.TIz).trans (hk _ _ D.TIz D.TITO D.TIi1 D.TIi2 hTI),%[_,_|(sb.2 _ D.TOz).trans a2],?_|?_]|λb hb=>?_]
  .let%[o,e|r]:=a3;show%[o,(sb.2 _ D.i1z).trans e|r]
  .let%[o,e|r]:=a4;show%[o,(sb.2 _ D.i2z).trans e|r]
  .let:b<⇑s:=by
    simp only[Yw,X6,M4]at hb;let%[o1,q1|_]:=h1;let%[o2,q2|_]:=h2;rcases hb with rfl|rfl|rfl|rfl|rfl
    .show Zu hz
    .show Zu hTI
    .show Zu hTO
    .show Zu q1
    .show Zu q2
   rw[aq (Zs this)];show(hf b hb).1
 done:=by
  intro X hP hw hK hc i ij s σ H E I hf st hg;let%[hz,hTI,%[a,c|hTO],h1|h2]:=st;obtain⟨g1,g2,g3⟩:i<=x.cps.size/\i<=y.cps.size/\(i=x.cps.size\/i=y.cps.size):=hg;let hT:s.TypeIs (.ref z) "zip":=%[_,hz|rfl]
  let hh:=I.ok.hd hc;show Z2 (NB (M0 hT QV (MC QV hT Wn
   (Dt (jU _ _ x t i1 _ hh) (jU _ _ y u i2 _ hh) D (λb hb=>(show b=i1 by simpa using hb)▸%[D.i1z,I0 D.TOi1|D.i12]) (λb hb=>(show b=i2 by simpa using hb)▸%[D.i2z,I0 D.TOi2|I0 D.i12]) hz hTI hTO h1 h2 g1 g2 g3 λh' e tk hk he=>?_) (V5 _))))
  let%[o,ho|hco]:=he;show Z2 (NS %[o,ho|hco] T1 (Z3 %[rfl|?_]));let kk:∀b o,b∉[z,TI,TO,i1,i2]->s.heap.get? b∣o->h'.get? b∣o:=λb o hb e=>by
   simp only[Yw,X6,M4,OY]at hb;show hk b o hb.1 hb.2.2.1 hb.2.2.2.1 hb.2.2.2.2 e
  show I.moved hf kk
 self:=λ_ _ _ _ _ st h=>QD st.1 h
abbrev aV:yu->ri
 | .Starred _ _=>hY
 | _=>iv
def aB(h:aV e=iv):vi (e::a) env=(iv,MZ e env)::vi a env:=by
 cases e<;> first|rfl|cases(show hY=iv from h)
def eE(h:aV e=iv):N1 (e::a) env=(iv,assign e env)::N1 a env:=by
 cases e<;> first|rfl|cases(show hY=iv from h)
def dY:∀{a:hH yu},a.any aV=iv->(Nt pos (vi a env)).any (·.1)=iv
 |[],_=>rfl
 | e::a,h=>by
   rw[Zw,X7]at h;rw[aB h.1];let:=dY (pos:=pos) (env:=env) h.2;cases a with
   | nil=>rfl
   | cons c b=>
     simp only[Nt]at this ⊢;simpa using this
def uU:∀{a:hH yu},a.any aV=iv->(Nt pos (vi a env)).all (λx=>!x.1)=hY
 |[],_=>rfl
 | e::a,h=>by
   rw[Zw,X7]at h;rw[aB h.1];let:=uU (pos:=pos) (env:=env) h.2;cases a with
   | nil=>rfl
   | cons c b=>
     simp only[Nt]at this ⊢;simpa using this
def fT:∀{a:hH yu},a.any aV=iv-> ~~~(N1 a env)= ~~~a/\(N1 a env).findIdx? (·.1)=hV
 |[],_=>%[rfl|rfl]
 | e::a,h=>by
   rw[Zw,X7]at h;rw[eE h.1];let b:=fT (env:=env) h.2;show%[by rw[Zr,Zr,b.1]|?_];rw[hH.findIdx?_cons,b.2];rfl
abbrev gP:yu->ri
 | .ListComp _ _ _ _=>hY
 | .SetComp _ _ _ _=>hY
 | .DictComp _ _ _ _ _=>hY
 | _=>iv
def jy(h:gP e=iv):OL e t l env=pure iv:=by
 cases e<;> first|rfl|cases(show hY=iv from h)
abbrev Dv:yu->ri
 | .Tuple _ _ _=>hY
 | _=>iv
def yL(h:Dv e=iv):swappedStores [t] e env=pure hV:=by
 cases t with
 | Tuple _ _ _=>cases e<;> first|rfl|cases(show hY=iv from h)
 | List _ _=>cases e<;> first|rfl|cases(show hY=iv from h)
 | _=>rfl
abbrev iT:yu->ri
 | .Call _ _ _ _=>hY
 | _=>iv
def gQ(h:iT o=iv):Nj o a env w=w:=by
 cases o<;> first|rfl|cases(show hY=iv from h)
abbrev pA:yu->ri
 | .Set _ _ _=>hY
 | _=>iv
def mV(h:pA e=iv)(x:kj):O2 e env x=pure x:=by
 cases e<;> first|rfl|cases(show hY=iv from h)
structure QE (X:Cx) (e:yu) (t:TE):Prop where
 h:PE X e t
structure QT (X:Cx) (e:yu) (t:TT):Prop where
 h:PT X e t
structure QW (X:Cx) (e:yu) (t:TT):Prop where
 h:PW X e t
structure QA (X:Cx) (es:hH yu) (t:TA):Prop where
 h:PA X es t
structure QS (X:Cx) (st:zr) (t:TS):Prop where
 h:PS X st t
structure QSs (X:Cx) (st:hH zr) (t:TS):Prop where
 h:PSs X st t
structure QG (X:Cx) (e:yu) (t:TG):Prop where
 h:PG X e t
structure QGs (X:Cx) (es:hH yu) (t:TGs):Prop where
 h:PGs X es t
structure QI (X:Cx) (tg iter:yu) (wi:TI):Prop where
 h:PI X tg iter wi
structure QO (X:Cx) (e:lx yu) (t:TO):Prop where
 h:PO X e t
structure QTs (X:Cx) (ifs:hH yu) (t:TT):Prop where
 h:PTs X ifs t
structure OpQ (X:Cx) (f:kj->kj->Sem kj) (r:R2):Prop where
 h:OpR X f r
structure cF (X:Cx) (f:kj) (r:hH V->Hp->VK->Prop):Prop where
 h:cE X f r
structure MtQ (X:Cx) (id:M5) (r:V->hH V->Hp->VK->Prop):Prop where
 h:MtR X id r
section
variable{X:Cx}{K:ZA}{pos:Pos}
def av{i j}:QE X (.Constant (.int i) j pos) (tC (.int i)):=⟨Ir⟩
def eBl{b j}:QE X (.Constant (.bool b) j pos) (tC (.bl b)):=⟨K6⟩
def gM{j}:QE X (.Constant .none j pos) (tC .non):=⟨Iu⟩
def cz{x j}:QE X (.Constant (.str x) j pos) (tC (.str x)):=⟨Iv⟩
def vn(i:jg)(b:X.N[i]?∣x)(c:Vis X.env.scope x)(d:(x==("__debug__":lp))=iv)(a:(x==("__classdict__":lp))=iv):QE X (.Name x pos) (mP i):=⟨CC b c d a⟩
def gvE(g:Gv X.mg x v)(a:Gl X x)(b:(x==("__debug__":lp))=iv):QE X (.Name x pos) (tC v):=⟨HG g a b⟩
def blE(a:Gl X x)(b:X.mg x=hV)(c:Nz x∣u)(r:aX v u)(f:(x==("__name__":lp))=iv)(d:(x==("__debug__":lp))=iv):QE X (.Name x pos) (tC v):=
 ⟨FN a b c r (λe=>by lia) d⟩
def am:QA X [] Bt:=⟨IZ⟩
def paE(a:aV e=iv)(b:QE X e c)(d:QA X f t):QA X (e::f) (C2 c t):=⟨F4 b.h d.h (aB a)⟩
def calE(C:Cal X.prog X.w X.K X.mg X.base j x ps sp)(f:bG k X.A)(g:Gl X x)(a:Qw j k=hY)
 (b:(x==("__debug__":lp))=iv) (c:(e::d).any aV=iv) (h:QA X (e::d) t):
 QE X (.Call (.Name x p) (e::d) [] pos) (sE sp [] E0 t):=by
 rw[Zw,X7]at c;show⟨Jz C f g Dk h.h (Ye a) b (aB c.1) (dY c.2)⟩
def cbE{id:M5}(d:cF X (.builtin id) r)(f:Gl X x)(g:X.mg x=hV)(h:Nz x∣.builtin id)(j:(x==("__name__":lp))=iv)(a:(x==("__debug__":lp))=iv)
 (b:(e::c).any aV=iv) (i:QA X (e::c) t):QE X (.Call (.Name x p) (e::c) [] pos) (tCB r t):=by
 rw[Zw,X7]at b;show⟨C6 d.h f g h i.h (λe=>by lia) a (aB b.1) (dY b.2)⟩
def ctE(d:cF X (.type T) r)(f:Gl X x)(g:X.mg x=hV)(h:Nz x∣.type T)(j:(x==("__name__":lp))=iv)(a:(x==("__debug__":lp))=iv)
 (b:(e::c).any aV=iv) (i:QA X (e::c) t):QE X (.Call (.Name x p) (e::c) [] pos) (tCB r t):=by
 rw[Zw,X7]at b;show⟨Bw d.h f g h i.h (λe=>by lia) a (aB b.1) (dY b.2)⟩
def bmE{T id:M5}(h:X.K=K)(m:Pi T)(slot:Slot T name id)(i:Pu (.builtin id)=pure (.type "method_descriptor"))(n:MtQ X id r)
 (b:iT o=iv) (a:(e::g).any aV=iv) (j:W8 (e::g).length 30=hY) (c:(d.endLine==f.line)=hY) (p:QE X o q) (s:QA X (e::g) t):
 QE X (.Call (.Attribute o name d) (e::g) [] f) (tBM K T r q t):=by
 let l:=a;rw[Zw,X7]at l;show⟨Dq h m slot i n.h p.h s.h (gQ b) ?_ c (aB l.1) (dY l.2)⟩;rw[uU a];let:decide (~~~(e::g)+ ~~~([]:hH O5)+(if([]:hH O5).isEmpty then 0 else 1)<30)=hY:=Zf ((jg.blt_eq.mp j));rw[this];rfl
def JC{T id:M5}(h:X.K=K)(f:Pi T)(slot:Slot T name id)(e:Pu (.builtin id)=pure (.type "method_descriptor"))(g:MtQ X id r)
 (a:iT o=iv) (b:(c.endLine==d.line)=hY) (i:QE X o j):QE X (.Call (.Attribute o name c) [] [] d) (Gb K T r j):=⟨Gz h f slot e g.h i.h (gQ a) b⟩
def km(b:Gl X "range")(c:X.mg "range"=hV)(d:aV a=iv)(e:QA X [a] f):QI X g (.Call (.Name "range" p) [a] [] pos) (CQ f):=⟨Bm b c e.h (aB d)⟩
def Dw(d:Gl X "range")(e:X.mg "range"=hV)(f:aV a=iv)(c:aV b=iv)(g:QA X [a,b] h):QI X i (.Call (.Name "range" p) [a,b] [] pos) (CS h):=
 ⟨Bn d e g.h ((aB f).trans (by rw[aB c];rfl)) (aB c)⟩
def anyI(h:X.K=K)(a:QE X l b):QI X c l (Gx K b):=⟨Gy h a.h⟩
section
variable{a b c:yu}{ta tb tc:TE}{op op':VO}{r r':R2}
def yM(e:OpQ X (pp op) r)(d:OpQ X (pp op') r')(f:lastMarks [op,op'] [b,c]=iv)(g:QE X a ta)(h:QE X b tb)(i:QE X c tc):QE X (.Compare a [op,op'] [b,c] pos) (yk r r' ta tb tc):=⟨CW e.h d.h g.h h.h i.h f⟩
def gN(d:OpQ X (pp op) r)(e:MY op b=iv)(f:QE X a ta)(g:QE X b tb):QE X (.Compare a [op] [b] pos) (tOp r ta tb):=⟨FY d.h f.h g.h e⟩
def aZ(d:OpQ X (pp op) r)(e:MY op b=iv)(f:QE X a ta)(g:QE X b tb):QT X (.Compare a [op] [b] pos) (v7 (tOp r ta tb)):=⟨FZ d.h f.h g.h e⟩
def opE{op:Operator}(d:OpQ X (M7 op) r)(e:QE X a ta)(f:QE X b tb):QE X (.BinOp a op b pos) (tOp r ta tb):=⟨Lb d.h e.h f.h⟩
def JD(d:QE X a ta):QE X (.UnaryOp .USub a pos) (tUn (rU λi=> .int (-i)) ta):=⟨Lc IR d.h⟩
def noO:QO X hV uK:=⟨F6⟩
def pB(h:QE X a ta):QO X (hX a) (C8 ta):=⟨F7 h.h⟩
def om{op}(h:QE X a ta):QE X (.BoolOp op [a] pos) ta:=⟨IC h.h⟩
def oq{rest:hH yu}(d:QE X a ta)(e:QE X (.BoolOp .And (b::rest) pos) tb):QE X (.BoolOp .And (a::b::rest) pos) (CF ta tb):=⟨ID d.h e.h⟩
def orV{rest:hH yu}(d:QE X a ta)(e:QE X (.BoolOp .Or (b::rest) pos) tb):QE X (.BoolOp .Or (a::b::rest) pos) (IB ta tb):=⟨K9 d.h e.h⟩
def bO(h:QA X d t):QE X (.List d pos) (Jb t):=⟨Jd h.h⟩
def dU{d}(h:QA X e t):QE X (.Tuple e d pos) (Ja t):=⟨Jc h.h⟩
def gW:QE X (.Dict [] [] pos) yG:=⟨Di⟩
variable{tA tB':TT}{rest:hH yu}
def ifE(d:QT X c tA)(e:QE X a ta)(f:QE X b tb):QE X (.IfExp c a b pos) (tIf tA ta tb):=⟨CG d.h e.h f.h⟩
def iq(d:QT X a tA):QT X (.UnaryOp .Not a pos) (Ix tA):=⟨IA d.h⟩
def nK(d:QT X a tA):QW X (.BoolOp .And [a] pos) tA:=⟨FP d.h⟩
def jz(d:QT X a tA):QW X (.BoolOp .Or [a] pos) tA:=⟨Iy d.h⟩
def uV(d:QT X a tA)(e:QW X (.BoolOp .And (b::rest) pos) tB'):QW X (.BoolOp .And (a::b::rest) pos) (FO tA tB'):=⟨Iz d.h e.h⟩
def orW(d:QT X a tA)(e:QW X (.BoolOp .Or (b::rest) pos) tB'):QW X (.BoolOp .Or (a::b::rest) pos) (tOr tA tB'):=⟨K8 d.h e.h⟩
def wT(h:QW X a tA):QT X a tA:=⟨PW.pt h.h⟩
def truT(h:X.K=K)(f:∀d,S6 a X.env d=(do let v<-d;Pk a.pos;PF [v] (UO v)))(g:QE X a ta):QT X a (λi H Q=>ta i H λx e=>∃k,Bp K x e k/\Q k e):=⟨BG h g.h f⟩
def rD:QTs X [] Gm:=⟨Gn⟩
def gX(h:QT X c tA):QTs X [c] tA:=⟨Go h.h⟩
end
def dP(S:aH X c e f)(l:X.calm=hY)(m:pA iter=iv)(hi:QI X j iter n)
 (o:∀a b d,QG (cf X c e a b d) j g) (p:∀a b d,QTs (cf X c e a b d) h q) (r:∀a b d,QE (cf X c e a b d) i s):
 QE X (.ListComp i [%[j,iter,h|0]] c pos) (sW n e.length f g q s):=⟨Gq S l hi.h (λa b d=>(o a b d).h) (λa b d=>(p a b d).h) (λa b d=>(r a b d).h) (mV m)⟩
def aN:QSs X [] CH:=⟨FQ⟩
def ai{st:zr}{rest:hH zr}(a:QS X st t)(b:QSs X rest u):QSs X (st::rest) (aR t u):=⟨CI a.h b.h⟩
def ap{st:zr}(a:QS X st t):QSs X [st] t:=⟨FR a.h⟩
def ifS(d:QT X c e)(f:QSs X a t)(g:QSs X b u):QS X (.If c a b pos) (j8 e t u):=⟨La d.h f.h g.h⟩
def aK(a:QE X e b):QS X (.Return (hX e) pos) (iP b):=⟨IE a.h⟩
def iU{st:zr}:QS X st uF:=⟨CJ⟩
def bQ(c:PX (Nf X.prog X.w) X.A X.env X.xe)(d:X.calm=hY)(e:pA iter=iv)(hi:QI X b iter f)(h:QG X b g)(i:QSs X a j):
 QS X (.For b iter a [] pos) (uG f g j):=⟨IJ c d hi.h h.h i.h (mV e)⟩
def uW(i:jg)(b:X.N.Nodup)(hi:X.N[i]?∣x)(c:Loc X.env.scope x)(d:X.fn x=hY\/X.env.scope.names.lookup x∣.local)(f:gP e=iv)(g:QE X e h):
 QS X (.Assign [.Name x a] e pos) (rA h (lj i)):=⟨II b hi c g.h (jy f) d⟩
def bB(a:gP e=iv)(b:QE X e c):QS X (.Expr e pos) (lh c):=⟨FS b.h (jy a)⟩
def JE(c:gP e=iv)(hw:Dv e=iv)(a:aV b=iv)(d:QE X e f)(h:QG X b g):QS X (.Assign [b] e pos) (rA f g):=
 ⟨IH d.h h.h (jy c) (yL hw) (by rw[eE a];rfl)⟩
def pC(i:jg)(a:X.N.Nodup)(hi:X.N[i]?∣x)(b:Loc X.env.scope x)(c:X.fn x=hY\/X.env.scope.names.lookup x∣.local):QG X (.Name x pos) (lj i):=⟨FT a hi b c⟩
def cb:QGs X [] IF:=⟨FU⟩
def gsE(a:aV e=iv)(b:QG X e t)(c:QGs X d u):QGs X (e::d) (CL t u):=⟨CM b.h c.h (by rw[eE a];rfl)⟩
def eF(c:X.K=K)(d:X.calm=hY)(b:a.any aV=iv)(h:QGs X a t):QG X (.Tuple a k pos) (FV K a.length t):=by
 subst c;show⟨IG d h.h (fT b).1 (fT b).2⟩
def wj:OpQ X (M7 .Sub) (rI0 λi j=> .int (i-j)):=⟨IP⟩
def JF:OpQ X (M7 .Mult) Do:=⟨Gu⟩
def bZ:OpQ X (M7 .Mod) (rI (λ_ j=>0<j) λi j=> .int (i%j)):=⟨IQ⟩
def kH:OpQ X (M7 .FloorDiv) (rI Le λi j=> .int (i/j)):=⟨FW⟩
def dh:OpQ X (pp .Eq) Js:=⟨Jt⟩
def lA:OpQ X (pp .NotEq) Ju:=⟨Jv⟩
def GA:OpQ X (pp .Lt) (rI0 λi j=> .bl (decide (i<j))):=⟨Lf⟩
def BH:OpQ X (pp .LtE) (rI0 λi j=> .bl (decide (i<=j))):=⟨Lg⟩
def wk:OpQ X (pp .Gt) (rI0 λi j=> .bl (decide (j<i))):=⟨Lh⟩
def Lo:OpQ X (pp .Is) (λx y H Q=>y= .non/\Q (.bl (decide (x= .non))) H):=⟨IT⟩
def JG:OpQ X (pp .IsNot) (λx y H Q=>y= .non/\Q (.bl (!decide (x= .non))) H):=⟨FX⟩
def q_in(h:X.K=K):OpQ X (pp .In) (Gw K):=⟨JB h⟩
nonrec abbrev z7:R2:=λx y H Q=>asS x λi=>asS y λj=>Q (.bl (!(!(J0 j i 0 j.length 1).isEmpty))) H
nonrec abbrev z8(K:ZA):R2:=λx y H Q=>z7 x y H Q\/rIn K hY x y H Q
def z9(h:X.K=K):OpQ X (pp .NotIn) (z8 K):=by subst h;show⟨uO.or uN⟩
def cW(h:X.K=K):cF X (.builtin "len") (λxs H Q=>db xs λx=>∃n,F0 K x H n/\Q (.int n) H):=⟨BD h⟩
def Dx(h:X.K=K)(a:X.calm=hY):cF X (.builtin "all") (λxs H Q=>db xs λb=>asR b λp=>∃(bs:hH ri),Qb K H p (bs.map V.bl)/\Q (.bl (bs.all id)) H):=⟨BE h a⟩
def HH(a:X.calm=hY):cF X (.builtin "min") (λxs H Q=>mO xs λb x2=>asI b λi=>asI x2 λj=>Q (.int (if j<i then j else i)) H):=⟨Bq a⟩
def Lp(h:X.K=K):cF X (.builtin "isinstance") (λxs H Q=>∃x n t b,xs=[x,.ty n]/\j9 K H x t/\Pe K t (.type n)∣b/\Q (.bl b) H):=⟨BF h⟩
def Dy:cF X (.type "int") (λxs H Q=>(∃i,xs=[.int i]/\Q (.int i) H)\/∃k,xs=[.bl k]/\Q (.int (if k then 1 else 0)) H):=⟨Br⟩
def ir(h:X.K=K):cF X (.type "list") (λxs H Q=>db xs λa=>asR a λp=>∃ys,(Qb K H p ys\/SqT K H p ys)/\∀l,H l=hV->Q (.ref l) (Qa H l (.lst ys))):=⟨yJ h⟩
def ba:MtQ X "list.append" uQ:=⟨sO⟩
def lB:MtQ X "list.extend" uR:=⟨Bx⟩
def GB:MtQ X "list.clear" yE:=⟨Dd⟩
def uX(h:X.K=K):MtQ X "str.join" (z6 K):=⟨Dp h⟩
end
open PySem PySem.Spec PyProof.Rows PySem.SeqAt
abbrev yN:V->hH V->Hp->VK->Prop:=λx vs H Q=>asS x λz=>db vs λa=>asS a λy=>1<= ~~~y/\ ~~~z+2<=md/\∀l,H l=hV->Q (.ref l) (Qa H l (.lst ((Txt.split z y)\3)))
def tf:∀ss k,aM (ss\3) (strsFrom k ss)
 |[],_=> .nil
 | _::r,k=> .cons %[_|rfl] (tf r _)
def Dz{X:Cx}:MtM X "str.split" yN:=by
 intro ij s n H x vs v us Q I i j h;let%[z,rfl|d]:=eO h;let%[o,rfl|f]:=cc d;let%[y,rfl|g]:=eO f;let%[p,r|q]:=g;let%[t|rfl]:=i;let%[w,rfl|l]:=j.one;let%[u|rfl]:=l;let b:(~~~y==0)=iv:=by simp;lia
 let m:=split_le z y;by_cases c1:(decide (~~~z< ~~~y)||decide (SZ z<SZ y))=hY
 .let e:Txt.split z y=[z]:=lX c1;rw[e]at q;show OG SO (OD _ _ _) So (R4 _ _) (meets_str_split_cannot_occur z y t u c1) %[.ref _,_,I.lnew (ys:=[.str z]) (.cons %[_|rfl] .nil) (by change 1<=md;decide),rfl|q _ I.fresh]
 .let c:=RX.mpr c1;by_cases c2:(J0 z y 0 z.length (~~~z+1)).isEmpty=hY
  .let e:Txt.split z y=[z]:=(kw c1).trans (lX c2);rw[e]at q;show OG SO (OD _ _ _) So (R4 _ _) (meets_str_split_not_found z y t u c b c2) %[.ref _,_,I.lnew (ys:=[.str z]) (.cons %[_|rfl] .nil) (by change 1<=md;decide),rfl|q _ I.fresh]
  .let e:Txt.split z y=R5 z _ y.length:=(kw c1).trans (kw c2);let a: ~~~(R5 z (J0 z y 0 z.length (z.length+1)) y.length)<=md:=by rw[<-e];lia
   show OG SO (OD _ _ _) So (R4 _ _) (meets_str_split_sep z y t u c b (RX.mpr c2) ⋯ a) ?_;rw[<-e]at a ⊢;show%[.ref _,_,I.lnew (tf _ _) (by rw[Z6];show a),ρ|q _ I.fresh]
def Aa{X:Cx}:MtQ X "str.split" yN:=⟨Dz⟩
abbrev Ite(K:ZA)(a:ku)(xs:hH V):It:=⟨λi H=>Qb K H a xs/\i< ~~~xs,λi H v b=>∃x T,xs[i]?∣x/\H T=hV/\v= .ref T/\b=Qa H T (.tup [.int i,x]),λi H=>Qb K H a xs/\ ~~~xs<=i⟩
abbrev ESt(e it a:ku)(i:jg)(h:xl):Prop:=(∃b,IsEnum h e it i b)/\h.IsListIter it a i
def BI{P:nY}{K:ZA}(e it a:ku)(xs:hH V)(hne:e≠it):rB P w K (.Tuple elts kt tp) (Ite K a xs) [e,it] e (ESt e it a) where
 mem:=by simp
 obj:=λi h st b hb=>by
  let%[%[old|he],o1,e1,_|d1]:=st;simp only[Yw,X6,M4]at hb;rcases hb with rfl|rfl
  .show%[_,he|λv q=>nomatch q]
  .show%[o1,e1|λv q=>by rw[d1]at q;cases q]
 keep:=λi h h' st k=>by
  let%[%[old|he],o1,e1|r1]:=st;show%[%[old|k e ∅ _ he],o1,k it ∅ _ e1|r1]
 item:=by
  intro X hP hw hK hc i ij s σ H E I hf st hg;subst hP hw hK;let%[%[old|he]|hit]:=st;obtain⟨hq,hi⟩:Qb X.K H a xs/\i< ~~~xs:=hg;let%[its,rv,p|hz]:=I.list hq;let%[u,hu|ru]:=rv.get (i:=i) (x:=xs[i]) ∅;show wpAny_pyNext_enum_item he hit p.isList ↑hu hne λh1 he1 hit1 ht1 hz1 hk1=>%[_,rfl|wpAny_letOwnedTupleGo_enum he1 λh2 he2 sb2=>?_]
  replace sb2:vr e h1 h2:=sb2;let elt:=Zu he;let kk:∀b o,b∉[e,it]->s.heap.get? b∣o->h2.get? b∣o:=λb o hb q=>by
   simp only[Yw,X6,M4,OY]at hb;show(sb2.2 b hb.1).trans (hk1 b o hb.1 hb.2 q)
  let J:Qc X ij σ H {s with heap:=h2,toks:=s.toks+1}:=I.moved hf kk;let I2:Qc X ij σ (Qa H ⇑s (.tup [.int i,xs[i]])) _:=
   I.stood J (Zi _) %[by change 2<=md;decide,[.int i s.toks,u],.cons %[_|rfl] (.cons ru .nil),_,((sb2.2 _ (Yz elt)).trans ht1),rfl,_|rfl]
  show%[.ref ⇑s,_,I2,ρ,%[xs[i],_,by simp,I.fresh,ρ|ρ],%[%[u|he2]|?_]|λb hb=>?_]
  .let%[o,q|r]:=hit1;show%[o,(sb2.2 _ (I0 hne)).trans q|r]
  .let:b<⇑s:=by
    simp only[Yw,X6,M4]at hb;rcases hb with rfl|rfl
    .show elt
    .show(by let%[o,q|_]:=hit;show Zu q)
   rw[aq (Zs this)];show(hf b hb).1
 done:=by
  intro X hP hw hK hc i ij s σ H E I hf st hg;subst hP hw hK;let%[%[old|he]|hit]:=st;obtain⟨hq,hi⟩:Qb X.K H a xs/\ ~~~xs<=i:=hg;let%[its,rv,p|hz]:=I.list hq;let hl:= ~~~rv;show wpAny_pyNext_enum_end (I.ok.hd hc) he hit p.isList (by simp;lia) λh1 xb=>%[rfl|I.moved hf λb o hb q=>?_]
  simp only[Yw,X6,M4,OY]at hb;show xb b o hb.2 q
 self:=λA i s Q E st h=>by
  let%[%[old|he]|hit]:=st;show Ww he h
abbrev HI(K:ZA)(c:TA):TI:=λd H R=>c d H λvs b=>db vs λe=>asR e λa=>∃xs,Qb K b a xs/\R (Ite K a xs) b
section
variable{X:Cx}{K:ZA}{pos:Pos}
def nM(n:X.K=K)(o:Gl X "enumerate")(r:X.mg "enumerate"=hV)(v:aV a=iv)(w:QA X [a] y):
 QI X (.Tuple i M N) (.Call (.Name "enumerate" p) [a] [] pos) (HI K y):=by
 subst n
 constructor
 intro ij s z H R I h;show Call_ (jv I o r boot_enumerate (MS (thP (w.h pos ij s z H _ I h) λus d vs A c B C=>?_) (aB v) rfl));let%[O,rfl|e]:=cc C;let%[l,rfl|f]:=aS e;let%[xs,E|q]:=f;let%[u,rfl|G]:=dD B;cases G;let%[its,Q,p|T]:=c.list E;show call_enumerate_list p.isList λU j g J L=>Ww j %[⇑d+1,[⇑d+1,⇑d],ESt _ ⇑d l,Ite X.K l xs,A,rfl,(c.kept L),BI _ _ _ _ (jg.succ_ne_self _),%[%[_|j]|g],λb m=>?_|q]
 simp only[Yw,X6,M4]at m;rcases m with rfl|rfl
 .show c.fpOk (Yg _) (c.hok.fresh (Yg _))
 .show c.fpOk (Zi _) (c.hok.fresh (Zi _))
end
section
variable(h:xl)(x y:lp)(t u:Tok)
noncomputable abbrev zs1:xl:=h.push {cls:= .type (OM x),data:= .fields #[.str x t,.int 0 0]}
noncomputable abbrev zs2:xl:=(zs1 h x t).push {cls:= .type (OM y),data:= .fields #[.str y u,.int 0 0]}
noncomputable abbrev zs3:xl:=(zs2 h x y t u).push {cls:= .type "tuple",data:= .seq #[.ref h.objs.size,.ref (zs1 h x t).objs.size]}
noncomputable abbrev zs4:xl:=(zs3 h x y t u).push {cls:= .type "tuple",data:= .seq #[.none,.none]}
noncomputable abbrev zs5:xl:=(zs4 h x y t u).push {cls:= .type "zip",data:= .fields #[.none,.bool iv,.bool iv,.ref (zs2 h x y t u).objs.size,.ref (zs3 h x y t u).objs.size]}
end
def ot(x y:lp)(t u:Tok):
 Meets (n7.«zip.__new__» %[[.type "zip",.str x t,.str y u]|[]]) (λ_ R s=>R (.ok (.ret (.ref (zs4 s.heap x y t u).objs.size))) {s with heap:=zs5 s.heap x y t u}):=
 .of_wp λprog w A R s b=>by
  let%[c,g,d,tk|os]:=s;let a:=PySem.sub_zip
  wp_walk using Wv (x:=x) (t:=t),Wv (x:=y) (t:=u)
  show%[_,ρ|b]
section
variable{prog:Program}{w:World}{A:Around}{E:ZD}{s:Shared}
def pD
 (h:∀h',SN h' (⇑s+4) (⇑s+2) (⇑s+3) .none->Pj h' (⇑s+2) (.ref ⇑s) (.ref (⇑s+1))->Pj h' (⇑s+3) .none .none->
  h'.IsStrIter ⇑s (OM x) x t 0->h'.IsStrIter (⇑s+1) (OM y) y u 0->(∀c o,s.heap.get? c∣o->h'.get? c∣o)->Q (.ref (⇑s+4)) {s with heap:=h'}):
 ↥A (call (.type "zip") [.str x t,.str y u]) Q E s:=by
 show callType_new F.called_zip (!1) (F.typeCall_zip_2 _ _) (F.newCall_zip_2 _ _) (λobj=>F.args_object_init_3 obj _ _) F.entry_zip_new (ot x y t u) ?_;let n1:(zs1 s.heap x t).objs.size=⇑s+1:=Zq ..;let a:(zs2 s.heap x y t u).objs.size=⇑s+2:=by rw[Zq,n1]
 let b:(zs3 s.heap x y t u).objs.size=⇑s+3:=by rw[Zq,a]
 let e:(zs4 s.heap x y t u).objs.size=⇑s+4:=by rw[Zq,b]
 let f:∀c o,(zs4 s.heap x y t u).get? c∣o->(zs5 s.heap x y t u).get? c∣o:=λ_ _ q=>Z7 _ q
 let g:∀c o,(zs3 s.heap x y t u).get? c∣o->(zs5 s.heap x y t u).get? c∣o:=λc o q=>f c o (Z7 _ q)
 let i:∀c o,(zs2 s.heap x y t u).get? c∣o->(zs5 s.heap x y t u).get? c∣o:=λc o q=>g c o (Z7 _ q)
 let k2:∀c o,(zs1 s.heap x t).get? c∣o->(zs5 s.heap x y t u).get? c∣o:=λc o q=>i c o (Z7 _ q)
 let k1:∀c o,s.heap.get? c∣o->(zs5 s.heap x y t u).get? c∣o:=λc o q=>k2 c o (Z7 _ q)
 let d:(zs5 s.heap x y t u).get? (zs4 s.heap x y t u).objs.size∣_:=Zj _ rfl;let j:(zs5 s.heap x y t u).get? (zs3 s.heap x y t u).objs.size∣_:=f _ _ (Zj _ rfl);let l:(zs5 s.heap x y t u).get? (zs2 s.heap x y t u).objs.size∣_:=g _ _ (Zj _ rfl);let m:=i _ _ (Zj _ rfl);change _/\_;rw[a,b,e]at d;rw[n1,a]at l;rw[b]at j;rw[n1]at m;rw[e];show%[%[_,d|ρ]|h _ d l j %[_,(k2 _ _ (Zj _ rfl)),ρ|ρ] %[_,m,ρ|ρ] k1]
end
abbrev HJ(a:TA):TI:=λb H R=>a b H λvs c=>∃x y,vs=[.str x,.str y]/\R (Itz x y) c
section
variable{X:Cx}{K:ZA}{pos:Pos}
def HK(v:Gl X "zip")(w:X.mg "zip"=hV)(z:aV a=iv)(f:aV b=iv)(A:QA X [a,b] B):
 QI X (.Tuple n M N) (.Call (.Name "zip" p) [a,b] [] pos) (HJ B):=by
 constructor
 intro ij s C H R I h;show Call_ (jv I v w boot_zip (MS (thP (A.h pos ij s C H _ I h) λus c vs E g G J=>?_) (aB z) (by rw[aB f];rfl)));let%[x,y,e|q]:=J;subst e;let%[O,Q,rfl,%[t|rfl],u|rfl]:=lq G;show pD λT o l m hi1 hi2 L=>QD o ?_
 let ne:∀i j,i≠j->⇑c+i≠⇑c+j:=λi j h e=>h (Q8 e)
 show%[⇑c+4,[⇑c+4,⇑c+2,⇑c+3,⇑c+0,⇑c+1],_,Itz x y,E,ρ,(g.kept L),
  Du _ _ _ _ _ x y t u %[ne 2 4 (!1),ne 3 4 (!1),ne 0 4 (!1),ne 1 4 (!1),ne 2 3 (!1),ne 2 0 (!1),ne 2 1 (!1),ne 3 0 (!1),ne 3 1 (!1)|ne 0 1 (!1)],
  %[o,l,%[_,_|m],hi1|hi2],λb r=>?_|q]
 let d:⇑c<=b:=by
  simp only[Yw,X6,M4]at r;rcases r with rfl|rfl|rfl|rfl|rfl<;> show PD _ _
 show g.fpOk d (g.hok.fresh d)
end
inductive D where
 | non|bl (b:ri)|int (i:oT)|str (x:lp)|lst (ds:hH D)|tup (ds:hH D)
section
variable{K:ZA}{H H':Hp}
def ah.seqT(e:ah H H')(h:SqT K H a xs):SqT K H' a xs:=by
 rcases h with(h|⟨o,h⟩)|h
 .show .inl (.inl (e _ _ h))
 .show .inl (.inr %[o|e _ _ h])
 .show .inr h
end
def yO{X:Cx}(J:X.N.Nodup)(u:X.N[i]?∣x)(L:Loc X.env.scope x)(M:X.fn x=hY\/X.env.scope.names.lookup x∣.local)
 (w:OL (.ListComp l [%[y,iter,p|0]] a pos) (hX (.Name x B)) f.line X.env=pure hY) (S:aH X a r A) (N:X.calm=hY) (O:∀x,O2 iter X.env x=pure x) (hi:PI X y iter Q)
 (T:∀c d j,PG (cf X a r c d j) y g) (U:∀c d j,PTs (cf X a r c d j) p Y) (he:∀c d j,PE (cf X a r c d j) l te):
 PS X (.Assign [.Name x B] (.ListComp l [%[y,iter,p|0]] a pos) f) (rA (sW Q r.length A g Y te) (lj i)):=by
 intro ij s σ H D I h;show Z2 (Qu ?_);change tI _ _ (OL (.ListComp l _ a pos) (hX (.Name x B)) f.line X.env>>= _) _ _ _;rw[w];show Z2 (Z3 (Z2 (Z2 (sX S N hi T U he O I h λD' C H5 s6 fl m hn j k q=>?_))));let%[o,es,ep,E,hd|hr]:=id hn;let I7:=(k s6.heap (vr.refl _ _)).pinned (λb n=>(Xo n)▸j) λb n=>by
  rw[Xo n];show%[o,E|λv z=>by lia]
 show Wy (kZ I7 J u L (v:= .ref D') rfl (λs8 G=>%[m,%[o,es,ep,((G.pin _ (Yv _ (Yv _ (fQ (Yy.mpr rfl) E)))).1),hd|hr]|λh' sb=>Z3 (Z3 %[_,H5,(G.unpinned).moved (λb n=>(Xo n)▸j) λb o' n e=>(sb.2 b (λz=>n (Yy.mpr z))).trans e|q])]) M)
def BJ(h:(env.blockKind== .function&&env.kindOf x==hX .local&&b.line==pos.line&&!(a.names.any λ(n,k)=>n==x&&(k== .local||k== .cell)))=hY):
 OL (.ListComp c gens a pos) (hX (.Name x b)) l env=pure hY:=by
 change(pure (env.blockKind== .function&&env.kindOf x==hX _&&b.line==pos.line&&!(a.names.any _)))=pure hY;rw[h]
def lC{X:Cx}(i:jg)(q:X.N.Nodup)(f:X.N[i]?∣x)(r:Loc X.env.scope x)(s:X.fn x=hY\/X.env.scope.names.lookup x∣.local)
 (h:(X.env.blockKind== .function&&X.env.kindOf x==hX .local&&u.line==pos.line&&!(c.names.any λ(n,k)=>n==x&&(k== .local||k== .cell)))=hY) (S:aH X c e j) (v:X.calm=hY) (w:pA iter=iv) (hi:QI X o iter y)
 (z:∀a b d,QG (cf X c e a b d) o g) (A:∀a b d,QTs (cf X c e a b d) l B) (C:∀a b d,QE (cf X c e a b d) m E):
 QS X (.Assign [.Name x u] (.ListComp m [%[o,iter,l|0]] c pos) p) (rA (sW y e.length j g B E) (lj i)):=
 ⟨yO q f r s (BJ h) S v (mV w) hi.h (λa b d=>(z a b d).h) (λa b d=>(A a b d).h) (λa b d=>(C a b d).h)⟩
section
variable{X:Cx}{ij:ZE}{σ:St}{H:Hp}{s:Shared}
end
def cg:Slot "set_iterator" "__next__" "set_iterator.__next__":=
 .of (owner:="set_iterator") (n:="__next__") (by rw[Xz,Vg];kernel_rfl) (!0) (!0) (!0) (by first|show .inl (!0)|show .inr ∅) (by kernel_rfl)
def iC:VC table "set_iterator.__next__"=hX n7.«set_iterator.__next__»:=entryFor_of_tree (by kernel_rfl)
def jf(a:kj):argsOk "set_iterator.__next__" %[[a]|[]]:=by kernel_rfl
def rE:VC table "set.__iter__"=hX n7.«frozenset.__iter__»:=T2 (id':="frozenset.__iter__") (by kernel_rfl) rfl (!0) (by kernel_rfl)
def rF(t:nz)(n:jg):(t.orStandIn n).led=t.led:=by unfold nz.orStandIn;split<;> rfl
def yP(t:nz)(a:on _)(h:oT)(x:kj):(layNew t a h x).2.1.led=t.led:=by
 unfold layNew;cases t.freeSlot h with
 | none=>rfl
 | some p=>
   show rF _ _
def uY(t:nz)(c:on _)(n:jg):(QH t c n).2.1.led=t.led:=by
 unfold QH;cases a:t.relaid _ n with
 | none=>rfl
 | some p=>
   let%[t'|d]:=p;simp only
   split
   .simp only[Uu,U2]at a;cases b:T9 _ _ with
    | none=>rw[b]at a;cases a
    | some f=>rw[b]at a;injection a with a;injection a with e g;rw[<-e]
   .rfl
def pE(t:nz)(c:on _)(n:jg)(d:t.plain=iv):(QH t c n).2.1.plain=iv:=by
 unfold QH;cases a:t.relaid _ n with
 | none=>rfl
 | some p=>
   let%[t'|e]:=p;simp only
   split
   .simp only[Uu,U2]at a;cases b:T9 _ _ with
    | none=>rw[b]at a;cases a
    | some g=>rw[b]at a;injection a with a;injection a with f h;show f▸d
   .rfl
abbrev a7(w:v0):ri:=w.params.followText "set-order"
abbrev bD(w:v0)(a:ku)(ks:ZB)(h:xl):Prop:=
 ∃o b c t ss,h.get? a∣o/\o.ExactSet/\o.data= .set b c t/\MV (b.toList\2) ss/\ss.Perm ks/\ks.Nodup/\(∀e∈b.toList,∃z u,e=(NH w z,.str z u))/\b.size<OO/\t.fits b.size=hY/\(b.size≠0->t.plain=iv)/\t.led=!a7 w
def ti(h:∀e∈l,∃z u,e=(NH w z,.str z u)):ElemsOf (aT prog w) l:=λe a=>by
 let%[z,u|rfl]:=h e a;show%[%[kG z,eB z u|ρ]|ρ]
def eS:∀{vs:ZF} {ss:ZB} {z:lp},MV vs ss->((∃u,Mv z u∈vs)↔z∈ss)
 | _,_,z,.nil=>by simp
 | _,_,z,.cons x t h=>by
   let b:=eS (z:=z) h
   constructor
   .rintro⟨u,a⟩;rcases Yw.mp a with e|e
    .injection e with c _;show c▸Zm
    .show Zk _ (b.mp %[u|e])
   .intro d;rcases Yw.mp d with e|e
    .show e▸%[t|Zm]
    .let%[u|a]:=b.mpr e;show%[u|Zk _ a]
def jA:∀{vs ws:ZF} {ss ts:ZB},MV vs ss->MV ws ts->MV (vs++ws) (ss++ts)
 | _,_,_,_,.nil,h=>h
 | _,_,_,_,.cons x t h,h'=> .cons x t (jA h h')
def cn:∀{vs:ZF} {ss:ZB},MV vs ss-> ~~~vs= ~~~ss
 | _,_,.nil=>rfl
 | _,_,.cons x t h=>by rw[Zr,Zr,cn h]
def cq(h:MV vs ss)(p:ws.Perm vs):∃ts,MV ws ts/\ts.Perm ss:=by
 show%[ws.map strOf,strsAre_map ws λv a=>h.all v (p.mem_iff.mp a)|?_];let:=p.map strOf;rwa[h.strs]at this
section
variable{prog:Program}{w:World}{A:Around}{E:ZD}{s:Shared}
variable{a:ku}
def bD.stored{h:xl}{o:Ob}{i b:on (oT×kj)}{t t':nz}(j:h.get? a∣o)(c:o.ExactSet)(d:o.data= .set i f t)(l:MV (b.toList\2) ss)(m:ss.Perm ks)(n:ks.Nodup)
 (p:∀e∈b.toList,∃z u,e=(NH w z,.str z u)) (r:b.size<OO) (v:t'.fits b.size=hY) (y:t'.plain=iv) (B:t'.led=!a7 w):
 (h.update a (NU b t')).get? a=hX {o with data:= .set b (f+1) t'}/\bD w a ks (h.update a (NU b t')):=by
 let g:=by
  let q:=MD (NU b t') j (by rw[RO b t' d];rfl);rwa[RO b t' d]at q
 show%[g,_,b,f+1,t',ss,g,c,ρ,l,m,n,p,r,v,λ_=>y|B]
def wn{g:ri->Sem SK}(O:∀(b:ri) (h:mu) (q:SK->mu->Prop),q () h->↥A (g b) q E h){m:ri}{R:lx ri->mu->Prop}(r:s.heap.get? a∣o)(i:o.ExactSet)(v:o.data= .set es ep t)
 (y:MV (c.toList\2) ss) (B:ss.Perm ks) (C:ks.Nodup) (G:∀e∈c.toList,∃z u,e=(NH w z,.str z u)) (j:c.size<OO) (Q:d.fits c.size=hY) (H:d.plain=iv) (I:d.led=!a7 w)
 (J:∀h',vr a s.heap h'->bD w a ks h'->R (hX hY) {s with heap:=h'}):
 ↥A (do
  Vu a c d
  if(!m&&d.tooFull)=hY then do
   g (QH d c (Np c.size)).2.2
   Vu a (QH d c (Np c.size)).1 (QH d c (Np c.size)).2.1
   pure (hX hY)
  else pure (hX hY)) R E s:=by
 let%[M|T]:=bD.stored r i v y B C G j Q H I;let N:=vr.update s.heap a (NU c d);show Z2 (NJ r v ?_ (NK j))
 split
 .let p:=relayAll_perm d c (Np c.size);let f:=relayAll_fits d c (Np c.size);let l:=uY d c (Np c.size);let pl:=pE d c (Np c.size) H
  generalize QH d c _=L at p f l pl ⊢
  let%[n,t3|gv]:=L;let z:n.size=c.size:=by rw[<-Zb,p.length_eq,Zb]
  let%[ts,U|Y]:=cq y (p.map _);show Z2 (O _ _ _ (Z2 (NJ M rfl (Z3 (J _ (N.trans (vr.update _ a _)) (bD.stored M i rfl U (Y.trans B) C (λe he=>G e (p.mem_iff.mp he)) (by rw[z];show j) f pl (l.trans I)).2)) (NK (by rw[z];show j)))))
 .show Z3 (J _ N T)
def lD{ks:ZB}(hS:bD w a ks s.heap)(r: ~~~ks+1<OO)
 (hQ:∀h' b,vr a s.heap h'->bD w a (if z∈ks then ks else ks++[z]) h'->Q b {s with heap:=h'}):↥A (US a (.str z tk) (NH w z)) Q E s:=by
 let%[o,c,ep,t,ss,C,v,G,g,hp,H,h,hb,hf,ab|d]:=hS;let hn:c.size= ~~~ks:=by
  let q:=cn g;rw[Z6,Zb,hp.length_eq]at q;show q
 let hE:ElemsOf (aT prog w) c.toList:=ti h;let I:(aT prog w).is (kG z) (.str z tk)=hY:=eB z tk;unfold US setAddHashedIn;show vu (Z2 (pw C G hf ?_));dsimp only;rw[byScan_of (knd:=aT prog w) rfl hb hE];simp only[↓reduceIte];unfold setAddByScan;show Z2 (Z2 (OB (Z2 (WO I C G hf hE ?_))));let J:(∃e∈c.toList,(aT prog w).is (kG z) e.2=hY)↔z∈ks:=by
  rw[<-hp.mem_iff,<-eS g]
  constructor
  .rintro⟨e,l,q⟩;let%[y,u|rfl]:=h e l;let q:kg (kG z) (Mv y u)=hY:=q;rcases bg q with⟨i,t',q1,m⟩|⟨y',t',q1,m⟩
   .cases m
   .cases q1;show%[u|Xq ⟨_,l,by injection m with e1 _;rw[e1]⟩]
  .rintro⟨u,hu⟩;let%[e,l|q]:=Xp hu;show%[e,l|q▸eB z u]
 cases hr:Wl _ c.toList with
 | some j=>
   let%[hj,ac|_]:=RM.mp hr;let hz:=J.mp %[c.toList[j],Yd hj|ac];let q:=hQ s.heap iv (vr.refl a s.heap) ((lX hz)▸%[o,c,ep,t,ss,C,v,G,g,hp,H,h,hb,hf,ab|d]);show Z3 (Z3 q)
 | none=>
   let hz:z∉ks:=λq=>by
    let%[e,l|m]:=J.mpr q;let:=Tc.mp hr e l;rw[m]at this;cases this
   rw[kw hz]at hQ;let M:=layNew_perm t c (NH w z) (.str z tk);let lf:=layNew_fits t c (NH w z) (.str z tk);let ll:=yP t c (NH w z) (.str z tk)
   generalize hL:layNew t c _ _=L at M lf ll
   let%[B,t1,ak|ag]:=L;rw[Rq]at M;let gone:∀b f Q',Q' () f->↥A (match b with|true=>Ru "set.scan.the-table-gave-way"|false=>pure ()) Q' E f:=λb f Q' q=>by
    cases b
    .show Z3 q
    .show OB q
   let n:∀e∈B.toList,∃z u,e=(NH w z,.str z u):=λe l=>by
    rcases Xn (M.mem_iff.mp l)with q|q
    .show h e q
    .rw[Xo q];show%[z,tk|ρ]
   let q1:MV ((c.toList++[(NH w z,Mv z tk)])\2) (ss++[z]):=by
    rw[Zd];show jA g (.cons z tk .nil)
   let%[ts,m|q3]:=cq q1 (M.map _);let N:=q3.trans (hp.append_right _);let p:=oK H hz;let ae:B.size=c.size+1:=by rw[<-Zb,M.length_eq,Z9,Zb];rfl
   let O:B.size<OO:=by rw[ae,hn];show r
   let fin:∀h',vr a s.heap h'->bD w a _ h'->↥A _ Q E _:=λh' T U=>Z3 (hQ h' hY T U)
   show Z2 (gone _ _ _ ?_);cases Y:t1.plain with
   | true=>
     show Z2 (Z3 (wn gone C v G m N p n O (nz.fits_plain_off lf) rfl (ll.trans d) λh' T U=>fin h' T U))
   | false=>
     show wn gone C v G m N p n O lf Y (ll.trans d) λh' T U=>fin h' T U
def wo(d:bD w a ks s.heap)(c: ~~~ks+1<OO)
 (e:∀h' b,vr a s.heap h'->bD w a (if z∈ks then ks else ks++[z]) h'->Q b {s with heap:=h',toks:=s.toks+1}):↥A (UT a (.str z tk)) Q E s:=by
 show vu (Z2 (WP (lD d c e)))
end
abbrev ou(ks:ZB)(z:lp):ZB:=if z∈ks then ks else ks++[z]
abbrev aY(ss:ZB):ZB:=ss.foldl ou []
def DC(ks:ZB)(z:lp): ~~~(ou ks z)<= ~~~ks+1:=by
 unfold ou;split
 .lia
 .show Z9▸Zi _
def DD:y∈ou ks z↔y∈ks\/y=z:=by
 unfold ou;by_cases h:z∈ks
 .rw[lX h]
  simp_all
 .rw[kw h,Yt,Yy]
def yQ(h:ks.Nodup):(ou ks z).Nodup:=by
 unfold ou;by_cases a:z∈ks
 .rw[lX a];show h
 .rw[kw a];show oK h a
def wp:∀{ss ks:ZB} {y:lp},y∈ss.foldl ou ks↔y∈ks\/y∈ss
 |[],ks,y=>by simp
 | z::r,ks,y=>by
   rw[Y8,wp,DD,Yw]
   grind
def pF:∀{ss ks:ZB},ks.Nodup->(ss.foldl ou ks).Nodup
 |[],_,h=>h
 | z::r,ks,h=>by
   rw[Y8];show pF (yQ h)
def a8:y∈aY ss↔y∈ss:=by unfold aY;rw[wp];simp
def dj(ss:ZB):(aY ss).Nodup:=pF X3
def wq:∀(ss ks:ZB),~~~(ss.foldl ou ks)<= ~~~ks+ ~~~ss
 |[],ks=>by simp
 | z::r,ks=>by
   let a:=wq r (ou ks z);let b:=DC ks z;rw[Y8,Zr]
   lia
def wt{ss:ZB}{i:jg}{z:lp}(h:ss[i]?∣z):aY (ss.take (i+1))=ou (aY (ss.take i)) z:=by
 unfold aY;rw[Xa,h,U6];rfl
def bD.keep(S:bD w a ks h)(k:∀o,h.get? a∣o->h'.get? a∣o):bD w a ks h':=by
 let%[o,b,c,t,ss,d|r]:=S;show%[o,b,c,t,ss,k o d|r]
section
variable{prog:nY}{w:v0}{A:wh}{R:Ua->mu->Prop}{I:ku}{fp wr:hH ku}{G:on RN->on RN->Prop}{n:jg}{P:jg->kj->Prop}{St:jg->mu->Prop}
def wu(W:WalksS prog w A.in1 I fp wr G n P St)(S:ku)(f:S∉fp){T:jg->xl->Prop}{V:xl->Prop}(tk:∀i h h',T i h->(∀o,h.get? S∣o->h'.get? S∣o)->T i h')(u:∀h h',V h->(∀b o,b≠S->b∉wr->h.get? b∣o->h'.get? b∣o)->V h')
 (add:∀i v (a:mu) (Q:ri->mu->Prop) (E:ZD),P i v->T i a.heap->V a.heap->(∀h' b t,vr S a.heap h'->T (i+1) h'->a.toks<=t->Q b {a with heap:=h',toks:=t})->↥A.in1 (UT S v) Q E a):
 ∀(k i:jg) (s:mu),n-i=k->i<=n->St i s->T i s.heap->V s.heap->
  (∀s',Moved (S::wr) G s s'->T n s'.heap->R (.ok (.ret .none)) s')->PL (Nf prog w) A (.builtin "set.update.loop" %[[.ref S,.ref I]|[]]) R s:=by
 let out:S∉wr:=λh=>f (W.sub _ h)
 let more:∀b∈wr,b∈S::wr:=λb c=>Zk _ c
 intro k
 induction k with
 | zero=>
   intro i s B hi st j y fin;let e:i=n:=by lia
   subst e;show NI Ur ?_;rw[N5 Qz _];change tI _ A.in1 (Qd (.ref I)>>= _) _ _ s;show Z2 (W.done s _ _ st λa d=>?_);change tI _ A.in1 (ret M9) _ _ a;show Z3 (fin a (d.mono more) (tk _ _ _ j λo e=>d.heap S o out e))
 | succ k C=>
   intro i s B hi st j y fin;let lt:i<n:=by lia
   show NI Ur ?_;rw[N5 Qz _];change tI _ A.in1 (Qd (.ref I)>>= _) _ _ s;show Z2 (W.item i s _ _ lt st λv a pv l d=>?_);let g:=u _ a.heap y λb o _ c e=>d.heap b o c e
   show Z2 (vu (add i v a _ _ pv (tk _ _ _ j λo e=>d.heap S o out e) g λL b M m p z=>Z3 %[Pl Qz _|C (i+1) _ ⋯ lt (W.frame _ a _ _ l z λb c o e=>?_) p (u _ _ g λb o n _ e=>(m.2 b n).trans e) λH J r=>?_]))
   .show(m.2 b (λq:b=S=>f (q▸c))).trans e
   .show fin H (Moved.trans W.gtrans ((d.mono more).then_heap z λb o c e=>(m.2 b (λq:b=S=>c (q▸Zm))).trans e) J) r
end
section
variable{prog:Program}{w:World}{A:Around}{E:ZD}{s:Shared}
noncomputable abbrev bR(w:v0):Ob:={cls:= .type "set",dict:=hV,data:= .set #[] 0 (.fresh 0 0 (!a7 w))}
def DE(a:kj)(h:Q₁ (.ref ⇑s) {s with heap:=s.heap.push (bR w)}):
 PL (Nf prog w) A (.call (.builtin "set.__new__") %[[.type "set",a]|[]]) (wants Q₁ E) s:=by
 show Tu ?_;change tI _ A.in1 _ _ _ s;show Z2 (Vs (PySem.F.newCall_set_1 a) (Z3 %[Pl PySem.F.plain_set_new _|NI PySem.F.entry_set_new ?_]));unfold n7.«set.__new__» VR;let b:=sub_set_self;let%[c,g,d,tk|os]:=s;dsimp only
 wp_walk
 show M3 (Z3 ?_);dsimp only;simp only[newObj];show Z2 (wpAny_alloc (Z3 (Z3 h)))
def bD.empty(e:h.get? a∣bR w):bD w a [] h:=
 %[_,#[],0,_,[],e,%[rfl,rfl|rfl],rfl,.nil,.nil,X3,λe b=>by simp at b,!1,rfl,λq=>n0 rfl q|rfl]
def nN{T:jg->xl->Prop}(hh:A.handled=hV)(hl:s.heap.IsList l a)(t0:∀h,h.get? ⇑s∣bR w->T 0 h)(tk:∀i h h',T i h->(∀o,h.get? ⇑s∣o->h'.get? ⇑s∣o)->T i h')
 (add:∀i v (j:mu) (Q:ri->mu->Prop) (E:ZD),a[i]?∣v->T i j.heap->(∀b o,s.heap.get? b∣o->j.heap.get? b∣o)->(∀h' b t,vr ⇑s j.heap h'->T (i+1) h'->j.toks<=t->Q b {j with heap:=h',toks:=t})->↥A.in1.in1.in1 (UT ⇑s v) Q E j)
 (hQ:∀(h':xl) (tk:jg),T a.size h'->(∀b o,s.heap.get? b∣o->h'.get? b∣o)->Q (.ref ⇑s) {s with heap:=h',toks:=tk}):
 ↥A (call (.type "set") [.ref l]) Q E s:=by
 let%[c,tl|ac]:=Pg.mro;let H:=Pg.made;let ae:=Pg.sub;show Oc (Tu ?_);change tI _ _ (callAny (.type "set") _) _ _ _;show Z3 %[Rf _ (!0)|NI F.entry_type_call ?_];rw[wh.under_plain (weight_type_call_type "set" [.ref l] []) rfl];let ak:=Pg.notType;let al:=Pg.canCreate;let an:=PySem.F.typeCall_set_1 (.ref l)
 repeat any_goals first|assumption|wp_step
 show codeAny_mono (DE (.ref l) (E:=E) (Q₁:=λobj m=>obj= .ref ⇑s/\m={s with heap:=s.heap.push (bR w)}) %[rfl|rfl]) λr m I=>?_
 cases r with
 | error e=>show I
 | ok fl=>
   cases fl with
   | ret obj=>
     let%[rfl|rfl]:=I;let gS:(s.heap.push (bR w)).get? ⇑s∣bR w:=Zj _ rfl;let tS:Q4 {s with heap:=s.heap.push (bR w)} (.ref ⇑s) "set":=%[_,gS|rfl]
     let as:=Pg.init.lookup;let a0:=Pg.init.bind (.ref ⇑s)
     repeat any_goals first|assumption|wp_step
     show codeAny_mono (Oe (R:=wants (λr n=>r= .none/\∃h' tk,n={s with heap:=h',toks:=tk}/\T a.size h'/\(∀b o,s.heap.get? b∣o->h'.get? b∣o)) E) Pg.init.plain F.entry_set_init (check_set_init_1 tS ?_)) λy n d=>?_
     .let%[ol,gl,cl,nl|dl]:=hl;let%[ag,p,J|g]:=ol;simp only at cl dl;subst cl;subst dl;let L:(s.heap.push (bR w)).get? l=hX {cls:= .type "list",dict:=p,data:= .seq a nl,slots:=g}:=Z7 _ gl;let a1:=PySem.F.sub_list_set;let a2:=PySem.F.sub_list_frozenset;let a3:(MW "list"==MW "dict")=iv:=!1
      let z:(s.heap.push (bR w)).IsList l a:=%[_,L,rfl,nl|rfl]
      unfold n7.«set.__init__»;unfold noKeywords;unfold VP
      generalize M:UW=PI
      wp_walk
      subst M;show OU z (Z2 (TN ?_));let B:l<⇑s:=Zu gl;let h3:A.in1.in1.in1.handled=hV:=by simp[hh]
      let C:(s.heap.push (bR w)).objs.size=⇑s+1:=Zq ..;let N:l≠(s.heap.push (bR w)).objs.size:=by rw[C];show Zs (Yn B)
      let O:⇑s∉[(s.heap.push (bR w)).objs.size,l]:=by
       rw[C];simp only[Yw,X6,M4,OY];show%[Zs (Yo _)|Yz B]
      show wu ((Ut h3 _ l N a).toS) ⇑s O (V:=λh=>∀b o,s.heap.get? b∣o->h.get? b∣o) tk (λh h' v k b o e=>?_) (λi v j Q E pv t v' q=>add i v j Q E pv t v' q) (a.size-0) 0 _ ⋯ (Xf _)
       %[%[_,Zj _ rfl,rfl|rfl]|z.push _] (t0 _ (Z7 _ gS)) (λb o e=>Z7 _ (Z7 _ e)) ?_
      .let f:=Zu e;show k b o (Zs f) ?_ (v b o e);simp only[Yw,X6,M4,C];show Zs (Yn f)
      intro s3 G U;let%[h',g',d',Y|ab]:=s3;let eg:g'=s.gens:=G.gens;let ed:d'=s.drawn:=G.drawn;let eo:ab=s.os:=G.os;subst eg;subst ed;subst eo;show Z3 ?_;change tI _ _ (ret M9) _ _ _;show Z3 %[rfl,h',Y,rfl,U|λb o e=>?_];let f:=Zu e;show G.heap b o ?_ (Z7 _ (Z7 _ e));simp only[Yw,X6,M4,OY,C];show%[Zs f|Zs (Yn f)]
     .cases y with
      | error e=>show d
      | ok u=>
        cases u with
        | ret r=>
          let%[rfl,h',tk,rfl,U|k3]:=d
          repeat any_goals first|assumption|wp_step
          show hQ _ _ U k3
        | _=>show d.elim
   | _=>show I.elim
end
section
variable{X:Cx}{K:ZA}
abbrev mW(w:v0)(a:ku)(ks:ZB):HO:= .ext (bD w a ks)
def DF(y:X.calm=hY):cE X (.type "set") (λxs H Q=>db xs λg=>asR g λp=>∃ss,Qb X.K H p (ss\3)/\ ~~~ss<=4000/\∀l,H l=hV->Q (.ref l) (Qa H l (mW X.w l (aY ss)))):=by
 intro ij s M H xs us Q I r h;let%[g,rfl|a]:=cc h;let%[p,rfl|c]:=aS a;let%[ss,z,N|q]:=c;let%[u,rfl|A]:=dD r;cases A;let%[its,j,pl|O]:=I.list z;let d:=iS j;let m:its.toArray.size= ~~~ss:=cn d;show nN (T:=λi h=>bD X.w ⇑s (aY (ss.take i)) h) (I.ok.hd y) pl.isList (λh e=>bD.empty e) (λi h h' S k=>S.keep k) (λi v U Q E n B _ k=>?_) λh' tk S k=>?_
 .let lt:i< ~~~ss:=m▸(vk.mp n).1;let%[u,C,t|rfl]:=j.get (i:=i) (x:= .str ss[i]) (by simp[lt]);obtain rfl:v=_:=Za (n.symm.trans ↑C);let q:=wq (ss.take i) [];rw[Yl]at q;show wo B (by change(aY (ss.take i)).length+1<4096;unfold aY;simp only[Wc]at q;lia) λw b G f=>k w b _ G ?_ (Yg _)
  rw[wt (Z4 lt)];show f
 .rw[m,Zn (Zi _)]at S;show%[.ref ⇑s,_,I.laid (o:=mW X.w ⇑s _) k (Zi _) %[S,?_|λY w J k1=>J.keep k1],ρ|q _ I.fresh];let%[o,_,_,_,_,L|_]:=S;show%[o|L]
def DG(h:X.K=K)(hw:X.w=w)(a:X.calm=hY):cF X (.type "set") (λxs H Q=>db xs λb=>asR b λp=>∃ss,Qb K H p (ss\3)/\ ~~~ss<=4000/\∀l,H l=hV->Q (.ref l) (Qa H l (mW w l (aY ss)))):=by subst h;subst hw;show⟨DF a⟩
end
def iV:∀{xs:hH a} {i:jg} (h:i< ~~~xs),(xs[i]::xs.eraseIdx i).Perm xs
 | x::r,0,_=>by simp
 | x::r,i+1,h=>by
   show(Uz _ _ _).trans (.cons _ (iV ↑h))
section
variable{prog:Program}{w:World}{A:Around}{E:ZD}{s:Shared}
def BK(a:n≠0)(h:∀i d,i<n->Q i {s with drawn:=d}):↥A (choose b n) Q E s:=by
 intro c p _;show%[a|h _ _ (S5 _ (RF a))]
def uZ:∀(n:jg) (xs:hH b) (s:mu) (Q:hH b->mu->Prop),~~~xs<=n->(∀ys d,ys.Perm xs->Q ys {s with drawn:=d})->↥A (drawOrder n xs) Q E s
 | 0,xs,s,Q,a,h=>by
   let e:=Ds.mp (le_zero.mp a);subst e;show Z3 (h [] s.drawn .nil)
 | n+1,[],s,Q,a,h=>Z3 (h [] s.drawn .nil)
 | n+1,x::r,s,Q,a,h=>by
   unfold drawOrder;show Z2 (BK ∅ λi d hi=>?_);rw[(Z4 hi)];show Z2 (uZ n _ _ _ (by rw[Uq];simp only[hi];simp_all) λys c p=>Z3 (h _ c ((UA _ p).trans (iV hi))))
end
def Ab(next:jg->jg):∀(fuel k:jg) (left:hH a) (out:on a),~~~left<=fuel->(Sz next fuel k left out).toList.Perm (out.toList++left)
 | 0,k,left,out,h=>by
   let e:=Ds.mp (le_zero.mp h);subst e;rw[Zx];show .refl _
 | fuel+1,k,[],out,h=>by
   unfold Sz;simp
 | fuel+1,k,x::r,out,h=>by
   unfold Sz;let hi:next k% ~~~(x::r)< ~~~(x::r):=S5 _ ∅;rw[Z4 hi];show(Ab next fuel _ _ _ (by rw[Uq];simp_all)).trans ?_;rw[Rq,Ze];show(Nc _).append (iV hi)
def tz(next:jg->jg)(xs:on a):(NT next xs).toList.Perm xs.toList:=by
 let:=Ab next xs.size 0 xs.toList #[] ∅;simpa [NT]using this
def tD(p j:jg):Oh #[p] j=if p<j then 1 else 0:=by
 unfold Oh;simp only[Zp,Zr];unfold T5;simp
 split<;>(rfl)
def yS(j:jg):Oh #[] j=0:=rfl
def tE{a:Type}{xs:on a}(h:xs.size=1):∃p,xs= #[p]:=by
 obtain⟨l⟩:=xs
 match l,h with
 |[p],_=>show%[p|ρ]
abbrev SIt(w:v0)(I S T:ku)(o:Ob)(b:on (oT×kj))(c:jg)(t:nz)(a:ZF)(i:jg)(h:xl):Prop:=
 h.get? S∣o/\∃first,h.get? I=hX {cls:= .type "set_iterator",dict:=hV,data:= .fields #[first,MO i,.ref S,MO b.size,MO c],slots:= #[]}/\
  ((a7 w=hY/\first=MO 0/\a=(NT (w.params.setOrder S c) b).toList\2)\/
   (a7 w=iv/\first= .ref T/\T≠I/\∃ps:hH jg,h.get? T=hX {cls:= .type "tuple",data:= .seq (ps.map λ(i:jg)=>MO i).toArray}/\ ~~~ps= ~~~a/\∀(j p:jg),ps[j]?∣p->∃e,b[p]?∣e/\a[j]?∣e.2)\/
   (a7 w=iv/\b.size<=1/\a=b.toList\2/\(i=0->first=MO 0)/\(i=1->∃p:jg,t.place[0]?∣p/\first=MO (p+1))))
def SIt.is{w:v0}{I S T:ku}{o:Ob}{b:on _}{c:jg}{t:nz}{a:ZF}{i:jg}{s:mu}(h:SIt w I S T o b c t a i s.heap):s.TypeIs (.ref I) "set_iterator":=by
 let%[_,f,d|_]:=h;show%[_,d|ρ]
section
variable{prog:Program}{w:World}{A:Around}{E:ZD}{s:Shared}
variable{I S T:ku}{o:Ob}{es:on (oT×kj)}{ep:jg}{t:nz}{ord:ZF}
def yT{i:jg}{v:kj}{Q:lx kj->mu->Prop}(y:o.data= .set es ep t)(h:t.fits es.size=hY)(z:t.led=!a7 w)(j:S≠I)(st:SIt w I S T o es ep t ord i s.heap)(f:ord[i]?∣v)(hn: ~~~ord=es.size)
 (hQ:∀h',SIt w I S T o es ep t ord (i+1) h'->vr I s.heap h'->Q (hX v) {s with heap:=h'}):↥A (Qd (.ref I)) Q E s:=by
 let hT:=st.is;let%[g,first,U|m]:=st;unfold Qd;show Z2 (NB (M0 (name:=!"__next__") hT cg (MC cg hT iC ?_ (jf _))));unfold n7.«set_iterator.__next__»;show Z2 (m:=slotArgs _ _ _) (Z3 ?_);show Z2 (Ro U rfl ?_);change tI _ _ (setEntries S>>= _) _ _ _;show Z2 (Oi g y h ?_);rw[kw ∅];rcases m with⟨c,rfl,B⟩|⟨c,rfl,C,ps,G,ab,H⟩|⟨c,h1,B,f0,f1⟩
 .change tI _ _ (QZ S 0 i ep>>= _) _ _ _;show Z2 ?_;unfold QZ;show Z2 (pw g y h ?_);show Z2 (Z2 (M3 (Z3 ?_)));change tI _ _ (if a7 w=hY then _ else _) _ _ _;rw[lX c];dsimp only;rw[kw (show ¬ ((ep != ep)=hY) by simp)];show Z2 ?_;unfold setWalk;show Z2 (pw g y h ?_);show Z2 (Z2 (M3 (Z3 ?_)));change tI _ _ (if a7 w=hY then _ else _) _ _ _;rw[lX c];show Z2 (M3 (Z3 (Z3 ?_)));let d:(NT (w.params.setOrder S ep) es)[i]?.map (·.2)∣v:=by
   rw[B]at f;simpa using f
  cases u:(NT (w.params.setOrder S ep) es)[i]? with
  | none=>rw[u]at d;cases d
  | some e=>
    rw[u]at d;let J:e.2=v:=↑d
    change tI _ _ (match((NT (w.params.setOrder S ep) es)[i]?).map λe=>(e.2,0)with|hX (x,next)=>_|none=>_) _ _ _;rw[u];show Z2 (zz U ∅ λL b a=>?_);show Z2 (zz (s:={s with heap:=L}) b ∅ λM l n=>?_);rw[J];let N:vr I s.heap M:=a.trans n;show Z3 %[v,rfl|Z3 (hQ M %[(N.2 S j).trans g,_,l|.inl %[c,rfl|B]] N)]
 .show Z2 (Nl G rfl ?_);let hi:i< ~~~ord:=(Xm f).1;let ac:i< ~~~ps:=by lia
  let%[e,Y|ae]:=H i ps[i] ∅;let J:e.2=v:=by rw[ae]at f;show Za f
  let O:(ps.map λ(i:jg)=>MO i).toArray[(i:oT).toNat]?∣MO ps[i]:=by simp[ac]
  dsimp only;rw[O];change tI _ _ (setNextDrawn S ps[i] ep>>= _) _ _ _;show Z2 ?_;unfold setNextDrawn;show Z2 (pw g y h ?_);dsimp only;rw[kw (show ¬ ((ep != ep)=hY) by simp),Y];show Z3 ?_;show Z2 (zz U ∅ λL b a=>?_);rw[J];show Z3 %[v,rfl|Z3 (hQ L %[(a.2 S j).trans g,_,b|.inr (.inl %[c,rfl,C,ps,(a.2 T C).trans G,ab|H])] a)]
 .let hi:i< ~~~ord:=(Xm f).1;let i0:i=0:=by lia
  subst i0;let f0:=f0 rfl;subst f0;let e1:es.size=1:=by lia
  let pz:t.place.size=1:=by
   simp only[N9,Zv,NM,Mx]at h;rw[h.1,e1]
  let%[p|u]:=tE pz;obtain⟨e,Y⟩:∃e,es[0]?∣e:=%[es[0]|by simp]
  let J:e.2=v:=by
   rw[B]at f;let:(es[0]?)\2∣v:=↑f
   rw[Y]at this;simpa using this
  change tI _ _ (QZ S 0 0 ep>>= _) _ _ _;show Z2 ?_;unfold QZ;show Z2 (pw g y h ?_);change tI _ _ (if a7 w=hY then _ else _) _ _ _;rw[kw (by rw[c];decide)];dsimp only
  split
  .rename_i r
   change (!t.plain&&decide (es.size>1))=hY at r;rw[e1]at r;simp at r
  .show Z2 (m:=(if(!t.led&&!es.isEmpty)=hY then Pq "set:maker-not-led" else pure ())) ?_;rw[z,c];show Z3 ?_;rw[u,tD];simp only[X4,↓reduceIte,Y];show Z3 ?_;change tI _ _ (P9 (.ref I) 0 (MO ((p+1:jg):oT))>>= _) _ _ _;show Z2 (zz U ∅ λL b a=>Z2 (zz (s:={s with heap:=L}) b ∅ λM l n=>?_));rw[J];let N:vr I s.heap M:=a.trans n;show Z3 %[v,rfl|Z3 (hQ M %[(N.2 S j).trans g,_,l|.inr (.inr %[c,⋯,B,λq=>by lia|λ_=>%[p,by rw[u];rfl|rfl]])] N)]
def wv{c:Type}{Q:c->mu->Prop}(d:A.handled=hV)(f:∀h' e,(∀b o,s.heap.get? b∣o->h'.get? b∣o)->(∃o,h'.get? e∣o/\o.cls= .type "StopIteration")->E (.ref e) {s with heap:=h'}):
 ↥A (newExc (.type "StopIteration") []>>= λe=>(Vy e)) Q E s:=by
 show Z2 ?_;show Z2 (MG ?_ (by size_fits));show Z2 (Vs (a:=M9) (by first|rfl|lia) (MG (VV d (f _ _ (λb o e=>Z7 _ (Z7 _ e)) %[_,Zj _ rfl|rfl])) (by size_fits)))
def BL{i:jg}{Q:lx kj->mu->Prop}(hh:A.handled=hV)(u:o.data= .set es ep t)(h:t.fits es.size=hY)(l:t.led=!a7 w)(st:SIt w I S T o es ep t ord i s.heap)(hi:i= ~~~ord)(hn: ~~~ord=es.size)
 (hQ:∀h',(∀b o,b≠I->s.heap.get? b∣o->h'.get? b∣o)->Q hV {s with heap:=h'}):↥A (Qd (.ref I)) Q E s:=by
 let Y:=st.is;let%[y,first,z|m]:=st;let H:A.in1.handled=hV:=hh;let fin:∀(g:xl) (Q':Fin->mu->Prop),vr I s.heap g->↥A.in1 (newExc (.type "StopIteration") []>>= λe=>(Vy e:Sem Fin)) Q' (λe s'=>↥A (do
  if(<-Sh e (.type "StopIteration"))then pure hV else throw e) Q E s') {s with heap:=g}:=λg Q' sb=>by
  show wv H λh' e k ⟨oe,he,hc⟩=>?_
  show Z2 (NS (T:="StopIteration") (b:=hY) %[oe,he|hc] T1 (Z3 (hQ h' λb o n q=>k b o ((sb.2 b n).trans q))))
 unfold Qd;show Z2 (NB (M0 (name:=!"__next__") Y cg (MC cg Y iC ?_ (jf _))));unfold n7.«set_iterator.__next__»;show Z2 (m:=slotArgs _ _ _) (Z3 ?_);show Z2 (Ro z rfl ?_);change tI _ _ (setEntries S>>= _) _ _ _;show Z2 (Oi y u h ?_);rw[kw ∅];rcases m with⟨j,rfl,eo⟩|⟨j,rfl,ab,ps,J,ac,ae⟩|⟨j,h1,eo,L,M⟩
 .change tI _ _ (QZ S 0 i ep>>= _) _ _ _;show Z2 ?_;unfold QZ;show Z2 (pw y u h ?_);show Z2 (Z2 (M3 (Z3 ?_)));change tI _ _ (if a7 w=hY then _ else _) _ _ _;rw[lX j];dsimp only;rw[kw (show ¬ ((ep != ep)=hY) by simp)];show Z2 ?_;unfold setWalk;show Z2 (pw y u h (Z2 (Z2 (M3 (Z3 ?_)))));change tI _ _ (if a7 w=hY then _ else _) _ _ _;rw[lX j];show Z2 (M3 (Z3 (Z3 ?_)));let B:(NT (w.params.setOrder S ep) es)[i]? =hV:=by
   rw[on.getElem?_eq_none_iff,hi,eo,Z6,Zb];show Zi _
  change tI _ _ (match((NT (w.params.setOrder S ep) es)[i]?).map λe=>(e.2,0)with|hX (x,next)=>_|none=>_) _ _ _;rw[B];change tI _ _ (P9 (.ref I) 2 .none>>= _) _ _ _;show Z2 (zz z ∅ λC _ c=>fin C _ c)
 .change tI _ _ (seqItems? (.ref T)>>= _) _ _ _;show Z2 (Nl J rfl ?_);let r:(ps.map λ(i:jg)=>MO i).toArray[(i:oT).toNat]? =hV:=by simp;lia
  dsimp only;rw[r];show Z2 (zz z ∅ λC N c=>Z2 (zz N ∅ λg2 _ O=>fin g2 _ (c.trans O)))
 .let done:∀slot:jg,first=MO slot->Oh t.place slot=es.size->↥A.in1 (QZ S slot i ep) (λa s'=>a=hV/\s'=s) (λ_ _=>J5) s:=by
   intro slot _ n;unfold QZ;show Z2 (pw y u h ?_);change tI _ _ (if a7 w=hY then _ else _) _ _ _;rw[kw (by rw[j];decide)];dsimp only
   split
   .rename_i d
    change (!t.plain&&decide (es.size>1))=hY at d;let:decide (es.size>1)=iv:=Zh ⋯;rw[this,Ni]at d;cases d
   .show Z2 (m:=(if(!t.led&&!es.isEmpty)=hY then Pq "set:maker-not-led" else pure ())) ?_;rw[l,j];show Z3 ?_;rw[n,show es[es.size]? =hV by simp];show Z3 %[rfl|rfl]
  let go:∀slot:jg,first=MO slot->Oh t.place slot=es.size->↥A.in1 (QZ S slot i ep>>= λa=>match a with
   | hX (x,next)=>(do
     P9 (.ref I) 0 (MO ↑(next))
     P9 (.ref I) 1 (MO (↑(i)+1))
     ret x)
   | none=>(do
     P9 (.ref I) 2 .none
     let e<-newExc (.type "StopIteration") []
     Vy e)) (λfin s'=>∃v,fin=Fin.done (Flow.ret v)/\↥A (pure (hX v)) Q E s') (λe s'=>↥A (do
   if(<-Sh e (.type "StopIteration"))then pure hV else throw e) Q E s') s:=by
   intro slot e n;show Z2 (Mz (done slot e n) (λa s' ⟨G,e2⟩=>?_) λ_ _ f=>f.elim);subst G;subst e2;show Z2 (zz z ∅ λC _ c=>fin C _ c)
  let pz:=by
   simp only[N9,Zv,NM,Mx]at h;show h.1
  by_cases e0:es.size=0
  .let i0:i=0:=by lia
   subst i0;let L:=L rfl;subst L;show go 0 rfl ?_;let:t.place= #[]:=R7 ⋯;rw[this,yS,e0]
  .let G:es.size=1:=by lia
   let i1:i=1:=by lia
   subst i1;let%[p,B|M]:=M rfl;subst M;show go (p+1) rfl ?_;let%[p'|U]:=tE (by rw[pz,G]:t.place.size=1);rw[U]at B ⊢;let:p'=p:=↑B
   subst this;rw[tD,lX (Yo _),G]
end
def jh:Slot "set_iterator" "__iter__" "set_iterator.__iter__":=
 .of (owner:="set_iterator") (n:="__iter__") (by rw[Xz,Vg];kernel_rfl) (!0) (!0) (!0) (by first|show .inl (!0)|show .inr ∅) (by kernel_rfl)
def mX:VC table "set_iterator.__iter__"=hX n7.«dict_keyiterator.__iter__»:=T2 (id':="dict_keyiterator.__iter__") (by kernel_rfl) rfl (!0) (by kernel_rfl)
def oy(a:kj):argsOk "set_iterator.__iter__" %[[a]|[]]:=by kernel_rfl
def u5:P6 (.type "set") "__len__"=pure (hX (.builtin "set.__len__")):=by kernel_rfl
section
variable{prog:Program}{w:World}{A:Around}{E:ZD}{s:Shared}
variable{I S T:ku}{o:Ob}{es:on (oT×kj)}{ep:jg}{t:nz}{ord:ZF}
def BM(hh:A.handled=hV)(hd:o.data= .set es ep t)(hf:t.fits es.size=hY)(hled:t.led=!a7 w)(hSI:S≠I)(hn: ~~~ord=es.size):
 Walks prog w A I [I,S,T] [I] ord.length (λi v=>ord[i]?∣v) (λi h=>SIt w I S T o es ep t ord i h) where
 sub:=by simp
 frame:=λi h h' st k=>by
  let%[hS,first,hI|m]:=st;show⟨k S ∅ _ hS,first,k I ∅ _ hI,?_⟩;rcases m with m|⟨bt,e,hTI,ps,hTt,r⟩|m
  .show .inl m
  .show .inr (.inl %[bt,e,hTI,ps,k T ∅ _ hTt|r])
  .show .inr (.inr m)
 item:=λi s Q E hi st hQ=>yT (v:=ord[i]) hd hf hled hSI st ∅ hn λh' st' sb=>hQ _ h' s.toks ∅ st' λb o' hb e=>(sb.2 b (λq=>hb (by simp[q]))).trans e
 done:=λs Q E st hQ=>BL hh hd hf hled st rfl hn λh' k=>hQ h' s.toks λb o' hb e=>k b o' (λq=>hb (by simp[q])) e
 self:=λi s Q E st hQ=>by
  let hT:=st.is;show Sv hT jh (MC jh hT mX (Z3 %[_,rfl,"set_iterator",_,hT,cg.lookup|hQ]) (oy _))
def BN(f:s.heap.get? S∣o)(z:o.ExactSet)(B:o.data= .set es ep t)(hb:es.size<OO)(C:t.fits es.size=hY)(G:es.size≠0->t.plain=iv)(O:t.led=!a7 w)
 (hQ:∀(I T:ku) (ord:ZF) (h':xl) d,(∀b o,s.heap.get? b∣o->h'.get? b∣o)->⇑s<=I->S≠I->(T=S\/⇑s<=T)->T<h'.objs.size->I<h'.objs.size-> ~~~ord=es.size->
  SIt w I S T o es ep t ord 0 h'->ord.Perm (es.toList\2)->Q (.ref I) {s with heap:=h',drawn:=d}):↥A (UW (.ref S)) Q E s:=by
 let U:s.TypeIs (.ref S) "set":=%[o,f|z.1]
 let l:S<⇑s:=Zu f;show Sv U WK (MC WK U rE ?_ (F.args_set_iter_1 _));unfold n7.«frozenset.__iter__»;show Z2 (m:=VQ _ _) (Z2 (m:=slotArgs _ _ _) (Z3 (Z3 ?_)));show Z2 (m:=Q5 S) (Z2 (Oi f B C (Z3 ?_)));show Z2 (m:=setDrawn S) ?_;unfold setDrawn;show Z2 (pw f B C (Z2 (Z2 (M3 (Z3 (Z3 ?_))))));let fin:∀(first:kj) (a:mu) (T:ku) (ord:ZF),a.heap.get? S∣o->(∃d c,a={s with heap:=c,drawn:=d})->(∀b o,s.heap.get? b∣o->a.heap.get? b∣o)->T<⇑a->⇑s<=⇑a->(T=S\/⇑s<=T)->ord.Perm (es.toList\2)->
  ((a7 w=hY/\first=MO 0/\ord=(NT (w.params.setOrder S ep) es).toList\2)\/(a7 w=iv/\first= .ref T/\∃ps:hH jg,a.heap.get? T=hX {cls:= .type "tuple",data:= .seq (ps.map λ(i:jg)=>MO i).toArray}/\ ~~~ps= ~~~ord/\∀(j p:jg),ps[j]?∣p->∃e,es[p]?∣e/\ord[j]?∣e.2)\/(a7 w=iv/\es.size<=1/\ord=es.toList\2/\first=MO 0))-> ~~~ord=es.size->
  ↥A.in1 (do ret (<-newFields "set_iterator" [first,MO 0,.ref S,MO es.size,MO (<-TU S)])) (λfin s'=>∃v,fin=Fin.done (Flow.ret v)/\∃Y r,s'.TypeIs v Y/\P6 (.type Y) "__next__"=pure (hX r)/\Q v s') (λe s'=>E e s') a:=by
  intro first a T ord c %[d,H|e1] k1 tl sl J u m hn
  subst e1;show Z2 (wpAny_setEpoch_of c B C (Z2 (MG ?_)));let gI:(H.push {cls:= .type "set_iterator",data:= .fields #[first,MO 0,.ref S,MO es.size,MO ep]}).get? H.objs.size∣_:=Zj _ rfl;show Z3 %[_,rfl,"set_iterator",_,%[_,gI|rfl],cg.lookup|hQ H.objs.size T ord _ d (λb o' e=>Z7 _ (k1 b o' e)) sl (Zs (Zu c)) J (by rw[Zq];show Yn tl) (by rw[Zq];show Yo _) hn ?_ u];show⟨Z7 _ c,first,gI,?_⟩;rcases m with m|⟨g,e,ps,L,r⟩|⟨g,M,eo,e⟩
  .show .inl m
  .show .inr (.inl %[g,e,Zs tl,ps,Z7 _ L|r])
  .show .inr (.inr %[g,M,eo,λ_=>e|λq=>n0 q ∅])
 let lst: ~~~(es.toList\2)=es.size:=by rw[Z6,Zb]
 by_cases g:a7 w=hY
 .change tI _ _ (if(!a7 w&&_)=hY then _ else _) _ _ _;rw[g,Ws,OA,kw ∅];show Z2 (Z3 ?_);let n:=(tz (w.params.setOrder S ep) es)\2;show fin (MO 0) s S _ f %[s.drawn,s.heap|rfl] (λ_ _ e=>e) l (Zi _) (.inl rfl) n (.inl %[g,rfl|rfl]) (by rw[n.length_eq,lst])
 .let y:a7 w=iv:=↑g
  change tI _ _ (if(!a7 w&&(!t.plain&&decide (es.size>1)))=hY then _ else _) _ _ _;by_cases c:es.size>1
  .rw[y,G ⋯,Zf c];show Z2 (uZ es.size _ _ _ ∅ λps d h=>Z2 (Rk ?_ (by rw[Z6,h.length_eq,Yj];show NK hb)));let lt:∀p∈ps,p<es.size:=λp q=>yc.mp (h.mem_iff.mp q)
   let er:(p0 es.size).map (λp=>((es[p]?)\2).getD .none)=es.toList\2:=by
    apply RA
    .simp
    .intro i u q2;simp at u;simp[u]
   let n:(ps.map (λp=>((es[p]?)\2).getD .none)).Perm (es.toList\2):=er▸h.map _;show fin _ _ ⇑s _ (Z7 _ f) %[d,_|rfl] (λb o' e=>Z7 _ e) (by rw[Zq];show Yo _) (by rw[Zq];show Yg _) (.inr (Zi _)) n
    (.inr (.inl %[y,rfl,ps,Zj _ rfl,by rw[Z6]|λj p q=>?_])) (by rw[n.length_eq,lst])
   let N:=lt p (Z8 q);show%[es[p],by simp|by simp[q,N]]
  .rw[y,Zh c];simp only[Ni,Zz];show fin (MO 0) s S _ f %[s.drawn,s.heap|rfl] (λ_ _ e=>e) l (Zi _) (.inl rfl) (Nc _) (.inr (.inr %[y,⋯,rfl|rfl])) lst
def lE(hh:A.handled=hV)(u:s.heap.get? S∣r)(a:r.ExactSet)(v:r.data= .set g a0 t0)(y:g.size<OO)(z:t0.fits g.size=hY)(B:g.size≠0->t0.plain=iv)(c:t0.led=!a7 w)
 (hQ:∀s' vs,vs.Perm (g.toList\2)->(∀b o,s.heap.get? b∣o->s'.heap.get? b∣o)->s'.gens=s.gens->s'.os=s.os->⇑s<=⇑s'->Q vs s'):↥A (Q3 (.ref S)) Q E s:=by
 unfold Q3;show Z2 (TN (NI F.entry_proto_collect ?_));rw[N5 F.plain_proto_collect _];change tI _ A.in1 (newList []>>= λl=>again (.builtin "list.__iadd__" %[[l,.ref S]|[]])) _ _ s;show Z2 (MG (Z3 %[Pl Qj _|NI F.entry_list_iadd ?_]));rw[N5 Qj _];let i:S<⇑s:=Zu u;change tI _ A.in1 (NP (.ref ⇑s) (.ref S) (.ref ⇑s)) _ _ _;unfold NP
 generalize O:s.heap.push {cls:= .type "list",data:= .seq ([]:ZF).toArray}=G
 let gS:G.get? S∣r:=by rw[<-O];show Z7 _ u
 let gz:G.objs.size=⇑s+1:=by rw[<-O,Zq]
 let gL:G.get? ⇑s=hX {cls:= .type "list",data:= .seq ([]:ZF).toArray}:=O▸Zj _ rfl;let tS:Q4 {s with heap:=G} (.ref S) "set":=%[r,gS|a.1]
 show Z2 (PB (T:="set") tS ?_);let n1:RV (.ref ⇑s) (.ref S)=iv:=by
  change(⇑s==S)=iv;show MF.mpr (Yz i)
 let n2:(MW "set"==MW "list")=iv:=!1
 let n3:(MW "set"==MW "tuple")=iv:=!1
 simp only[n1,n2,n3,Wr,Zz,Op];show Z2 (BN (s:={s with heap:=G}) gS a v y z B c λI T ord h d k1 U ab ac a1 a2 hn st q1=>?_);replace k1:∀b o,G.get? b∣o->h.get? b∣o:=k1;replace U:G.objs.size<=I:=U;let ae:h.get? S∣r:=k1 _ _ gS;show Z2 (vu ?_);unfold Ra;let m:Q4 {s with heap:=h,drawn:=d} (.ref S) "set":=%[r,ae|a.1]
 show Z2 (Pt (T:="set") m u5 ?_)
 wp_delta
 show Z2 (NS (T:="set") (b:=hY) m (by rw[isSubtype_type];kernel_rfl) ?_);change tI _ A.in1 (Pu (.ref S)>>= _) _ _ _;show Z2 (PB (T:="set") m (Z3 ?_));rw[lX (!1)];show Z2 (OB ?_);let C:h.get? ⇑s=hX {cls:= .type "list",data:= .seq ([]:ZF).toArray}:=k1 _ _ gL;show Z2 ?_;unfold XN;show Z2 (Pn (s:={s with heap:=h,drawn:=d}) C rfl ?_ (Xf _) (by change 1<=md+1;lia));let H:=MD (NA (·.push M9)) C rfl;show Pn (xs:= #[M9]) (n:=1) (s:={s with heap:=h.update ⇑s (NA _),drawn:=d}) H rfl ?_ (!1) (by change 0<=md+1;lia);let ag:=MD (NA (·.pop)) H rfl;let J:∀b o,b≠⇑s->h.get? b∣o->((h.update ⇑s (NA (·.push M9))).update ⇑s (NA (·.pop))).get? b∣o:=λb o Y e=>(MK _ _ (I0 Y)).trans ((MK _ _ (I0 Y)).trans e)
 let ak:=Zs (Zg (by rw[gz];show Yo _) U);let neT:⇑s≠T:=by
  rcases ac with e|e
  .show e▸Yz i
  .show Zs (Zg (gz▸Yo _) e)
 let L:⇑s∉[I,S,T]:=by
  simp only[Yw,X6,M4,OY];show%[ak,Yz i|neT]
 let al: ~~~ord<=md:=hn▸NK y;let W:=BM (prog:=prog) (A:=A.in1) (T:=T) (hh) v z c ab hn;let an:=W.frame 0 h _ st λb Y M e=>J b M (λq=>L (q▸Y)) e
 show Z3 %[Pl Vn _|VE W.toS al _ L _ ord.length 0 _ _ _ rfl (Xf _) an ag (V4 _) λs5 acc c5 m5 N f=>?_];show Z2 (TQ N (Z3 ?_));let ea:acc.toList=ord:=by
  apply Q2;intro j;by_cases hj:j< ~~~ord
  .let as:j<acc.size:=f.1▸hj;let:=f.2 j acc[j] ∅;rw[this];simp[as]
  .let l1: ~~~acc.toList= ~~~ord:=f.1;rw[Xl ⋯,Xl (l:=ord) ⋯]
 rw[ea];show hQ s5 ord q1 (λb M e=>?_) m5.gens m5.os (Yf (Zu N));let p:=Zu e;show m5.heap b M ?_ (J b M (Zs p) (k1 b M (O▸Z7 _ e)));simp only[Yw,X6,M4,OY];show%[Zs p|Zs (Zg p (nI (gz▸Yg _) U))]
def ww(f:A.handled=hV)(h:bD w S ks s.heap)
 (i:∀s' vs ss,MV vs ss->ss.Perm ks->(∀b o,s.heap.get? b∣o->s'.heap.get? b∣o)->s'.gens=s.gens->s'.os=s.os->⇑s<=⇑s'->Q vs s'):↥A (Q3 (.ref S)) Q E s:=by
 let%[o,es,ep,t,ss,j,c,l,d,m,n,p,q,r,e|a]:=h;show lE f j c l q r e a λs' vs pv k g os sz=>?_
 let%[ts,u|v]:=cq d pv;show i s' vs ts u (v.trans m) k g os sz
end
section
variable{X:Cx}{ij:ZE}{σ:St}{H:Hp}{s s':mu}
def Qc.keptS(I:Qc X ij σ H s)(k:∀b o,s.heap.get? b∣o->s'.heap.get? b∣o)(c:s'.gens=s.gens)(a:s'.os=s.os):Qc X ij σ H s':=by
 let%[h',p,u,t'|d]:=s';replace a:d=s.os:=a;subst c;subst a;show I.step (ch:=[]) (λb f=>n0 f ∅) (λb o _ _ _ e _=>k b o e) (λb o _ _ _ e _=>%[o.slots|k b o e]) (λ_ _ _ _ n=>n) (λb o _ e=>%[o|k b o e]) (λ_ _ e=>e) (λ_ _ _ e=>e) (λb ps e=>%[#[]|by rw[e];simp]) (λm g=>?_) (λb v e=>?_) I.bare
 .let%[o,h,i,a|r]:=g;show%[o,h,i,k _ o a|r]
 .show(I.hok b v e).stay (λj l _ q=>k j l q) (λ_ q=>q) λ_ _ q=>q
variable{prog:nY}{w:v0}{A:wh}{E:ZD}
variable{S:ku}
end
def aj{D:jr}(h:∀c:jr,(∀a b,u D a b->c.nx a b)->(∀v b,D.rt v b->c.rt v b)->t c d H):aR t u D d H:=h _ (λ_ _ x=>x) λ_ _ x=>x
def aA{t:TS}{D:jr}(h:∀c:jr,(∀a b,D.nx a b->c.nx a b)->(∀v b,D.rt v b->c.rt v b)->t c d H):t D d H:=h _ (λ_ _ x=>x) λ_ _ x=>x
def fU{K:ZA}{xs:hH V}{g:TG}{j:TS}{D:jr}(Pv:jg->St->Hp->Prop)(n:Pv 0 b H)(o:∀i b H,i<= ~~~xs->Pv i b H->Qb K H a xs)
 (r:∀i x T b H,xs[i]?∣x->Pv i b H->H T=hV->g (.ref T) b (Qa H T (.tup [.int i,x])) λc h=>j {D with nx:=Pv (i+1),ct:=Pv (i+1),bk:=D.nx} c h) (s:∀b H,Pv xs.length b H->D.nx b H):
 ∃W:jg->jg->St->Hp->Prop,(∃m,W 0 m b H)/\∀i m b H,W i m b H->
  ((Ite K a xs).stop i H/\D.nx b H)\/((Ite K a xs).go i H/\∃N:St->Hp->Prop,(∀d f,N d f->∃l,l<m/\W (i+1) l d f)/\∀x f,(Ite K a xs).yld i H x f->g x b f λc h=>j {D with nx:=N,ct:=N,bk:=D.nx} c h):=by
 show%[λi m b H=>m= ~~~xs-i/\i<= ~~~xs/\Pv i b H,%[~~~xs,by simp,Xf _|n]|?_];intro i m b H %[rfl,hi|p];let q:=o i b H hi p;by_cases lt:i< ~~~xs
 .show .inr %[%[q|lt],Pv _,λd f u=>%[~~~xs-(i+1),⋯,rfl,lt|u]|λv f y=>?_];let%[x,T,e,w,rfl|rfl]:=y;show r i x T b _ e p w
 .let e:i= ~~~xs:=by lia
  subst e;show .inl %[%[q|Zi _]|s b H p]
section
variable{X:Cx}{K:ZA}{pos:Pos}{a b:yu}{ta tb:TE}
def bx:OpQ X (M7 .Add) (rI0 λi j=> .int (i+j)):=⟨IM⟩
def eW:OpQ X (M7 .Mult) (rI CT λi j=> .int (i*j)):=⟨CU⟩
def bP(h:X.K=K)(c:oH b)(d:QE X a ta)(e:QE X b tb):QE X (.Subscript a b pos) (tOp (Jg K) ta tb):=by subst h;show⟨C9 F9 d.h e.h c⟩
def BO(c:oH b)(d:QE X a ta)(e:QE X b tb):QE X (.Subscript a b pos) (tOp Ji ta tb):=⟨C9 Jk d.h e.h c⟩
end
end _LL
namespace _CU
open PySem _LL PyProof.Rows
abbrev iW:lp:="abcdefghijklmnopqrstuvwxyz"
abbrev fV(c:jg):ri:=decide (c∈iW.cps.toList)
abbrev okc(c:jg):ri:=decide (c=46)||fV c
abbrev nl:lp:="\n"
def Lq:nl=⟨#[10]⟩:=rfl
def tF:fV c=hY↔97<=c/\c<=122:=by
 let e:iW.cps.toList=(p0 26).map (·+97):=!0
 unfold fV;rw[NG,e,Pm]
 constructor
 .rintro⟨i,h,rfl⟩;let:=yc.mp h
  lia
 .rintro⟨a,b⟩;show%[c-97,yc.mpr ⋯|⋯]
def DH(h:okc c=hY):c≠10:=by
 intro e;subst e
 revert h
 decide +kernel
structure cS (rows:ZB):Prop where
 pos:1<= ~~~rows
 high: ~~~rows<=40
 wide:∃wd,1<=wd/\wd<=40/\∀r∈rows,r.cps.size=wd
 sign:∀r∈rows,r.cps.toList.all okc=hY
 fall:∀i r r',rows[i]?∣r->rows[i+1]?∣r'->∀(j c c':jg),r.cps[j]?∣c->r'.cps[j]?∣c'->c'=46->c=46
 some':∃r∈rows,∃c∈r.cps.toList,c≠46
def lF{x y:lp}(h:x.cps.toList=y.cps.toList):x=y:=by
 obtain⟨⟨l⟩⟩:=x
 simp_all
def fG(sep x y:lp)(r:ZB):(vj sep (x::y::r)).cps.toList=x.cps.toList++sep.cps.toList++(vj sep (y::r)).cps.toList:=by
 change((x.cps++sep.cps) ++(vj sep _).cps).toList=_;rw[Xe,Xe]
def DI [MP f]:∀{a b x y:hH f},c∉a->c∉b->a++c::x=b++c::y->a=b/\x=y
 |[],[],_,_,_,_,h=>%[rfl|(NQ h).2]
 |[],b::bs,_,_,_,d,h=>n0 (((NQ h).1)▸Zm) d
 | a::g,[],_,_,e,_,h=>n0 (((NQ h).1)▸Zm) e
 | a::g,b::bs,x,y,e,d,h=>by
   let%[i|j]:=NQ h;let%[l|m]:=DI (λq=>e (Zk _ q)) (λq=>d (Zk _ q)) j;show%[by rw[i,l]|m]
def wx{c:jg}:∀{ps qs:ZB},ps≠[]->qs≠[]->(∀p∈ps,c∉p.cps.toList)->(∀q∈qs,c∉q.cps.toList)->(vj ⟨#[c]⟩ ps).cps.toList=(vj ⟨#[c]⟩ qs).cps.toList->ps=qs
 |[],_,h,_,_,_,_=>n0 rfl h
 | _,[],_,h,_,_,_=>n0 rfl h
 |[p],[q],_,_,_,_,e=>by rw[lF (show p.cps.toList=q.cps.toList from e)]
 |[p],q::f::qs,_,_,a,_,e=>by
  rw[fG]at e;show n0 ?_ (a p Zm);rw[show p.cps.toList=(vj _ [p]).cps.toList from rfl,e];simp
 | p::g::ps,[q],_,_,_,b,e=>by
   rw[fG]at e;show n0 ?_ (b q Zm);rw[show q.cps.toList=(vj _ [q]).cps.toList from rfl,<-e];simp
 | p::g::ps,q::f::qs,_,_,a,b,e=>by
   rw[fG,fG,Ze,Ze]at e;let%[i|j]:=DI (a p Zm) (b q Zm) e;rw[lF i,wx ∅ ∅ (λx d=>a x (Zk _ d)) (λx d=>b x (Zk _ d)) j]
def yU(a:rows≠[])(h:∀r∈rows,10∉r.cps.toList):Txt.split (vj nl rows) nl=rows:=by
 let e:=StrLaws.join_split (vj nl rows) nl;rw[Lq]at e ⊢;show wx ?_ a (StrLaws.split_free _ 10) h (by rw[e]);intro q;let:=split_pos (vj ⟨#[10]⟩ rows) ⟨#[10]⟩
 simp_all
def cS.nonl(h:cS rows):∀r∈rows,10∉r.cps.toList:=λr a b=>by
 let:=NC.mp (h.sign r a) 10 b;show DH this rfl
def cS.split(h:cS rows):Txt.split (vj nl rows) nl=rows:=
 yU (λe=>by let:=h.pos;simp_all) h.nonl
def DJ:∀{xs:hH b},(∀x∈xs,f x<=B)->(xs.map f).sum<= ~~~xs*B
 |[],_=>by simp
 | x::r,h=>by
   let c:=DJ λy a=>h y (Zk _ a)
   let d:=h x Zm;rw[Yq,Wi,Zr,jg.succ_mul]
   lia
def cS.sum(h:cS rows):(rows.map (·.length)).sum<=1600:=by
 let%[c,_,d|a]:=h.wide;let:=DJ (f:=λr:lp=> ~~~r) λr b=>by let:=a r b;change r.cps.size<=40;lia
 let:=h.high
 grind
def cS.text(h:cS rows): ~~~(vj nl rows)<=2000:=by
 let a:=Ta nl rows;let b:=h.sum;let c:=h.high;let d:nl.length=1:=rfl
 lia
abbrev sgn(c:jg):lp:=⟨#[c]⟩
def kI{cs:hH jg}(h:∀c∈cs,fV c=hY): ~~~(aY (cs.map sgn))<=26:=by
 let a:∀x∈aY _,x∈iW.cps.toList.map sgn:=λx b=>by
  let%[c,d|e]:=Xp (a8.mp b);show Xq %[c,Zo (h c d)|e]
 let:=hH.Nodup.length_le_of_subset (dj _) a;rw[Z6]at this;let e:iW.cps.toList.length=26:=!0
 lia
abbrev cU(rows:ZB):hH jg:=(vj (!"") rows).cps.toList.filter (λc=>decide (c≠46))
def wz:∀(rows:ZB),(vj (!"") rows).cps.toList=(rows.map (·.cps.toList)).flatten
 |[]=>rfl
 |[x]=>by simp[vj]
 | x::y::r=>by
   let e:(!"").cps.toList=[]:=rfl;rw[fG,wz _,e,Zx];simp
def jV(h:∀r∈rows,r.cps.toList.all okc=hY):∀c∈cU rows,fV c=hY:=λc a=>by
 unfold cU at a;rw[ow,wz]at a;let%[b|d]:=a;let%[l,e|f]:=Sa.mp b;let%[r,g|rfl]:=Xp e;let:=NC.mp (h r g) c f;unfold okc at this;rw[TW]at this;rcases this with q|q
 .show n0 (Zo q) (Zo d)
 .show q
def cS.signs_ne(h:cS rows):cU rows≠[]:=by
 let%[r,b,c,d|a]:=h.some';let:c∈cU rows:=by
  unfold cU;rw[ow,wz];show%[Sa.mpr %[_,Xq %[r,b|ρ]|d]|Zf a]
 grind
abbrev u8(z:lp):ri:=(decide (1<=(~~~z:oT))&&decide ((~~~z:oT)<=40))&&z.cps.toList.all okc
abbrev fW(row a:lp):ri:=decide (~~~row= ~~~a)&&(Nw a.cps.toList row.cps.toList).all λp=>!decide (p.2=46)||decide (p.1=46)
def cS.row(h:cS rows)(a:r∈rows):u8 r=hY:=by
 let%[b,d,f|c]:=h.wide;let e: ~~~r=b:=c r a;unfold u8;rw[h.sign r a,e,Zf ⋯,Zf ⋯];rfl
def cS.beneath(h:cS rows)(c:rows[i]?∣r)(d:rows[i+1]?∣a):fW a r=hY:=by
 let%[e,n,o|f]:=h.wide;let g: ~~~r=e:=f r (Z8 c);let l: ~~~a=e:=f a (Z8 d);unfold fW;rw[Zf (l.trans g.symm),Wo,NC];intro p m;let%[j|b]:=Xg m;rw[Py]at b;let:=h.fall i r a c d j p.1 p.2 (by simpa using b.1) (by simpa using b.2)
 grind
def yV(cs:hH jg):(vj (!"") (cs.map sgn))=⟨cs.toArray⟩:=by
 show lF ?_;rw[wz,Ys];change((cs.map (λc=>[c])).flatten)=cs
 induction cs with
 | nil=>rfl
 | cons c r a=>simp_all
def Ac:∀cs:hH jg,((cs.map sgn).map (λx=> ~~~x)).sum= ~~~cs
 |[]=>rfl
 | c::r=>by
   rw[Yq,Yq,Wi,Ac r,Zr];change 1+ ~~~r= ~~~r+1
   lia
end _CU
namespace _CU
open PySem _LL
end _CU
namespace _LL
open PySem PySem.Spec PyProof.Rows
abbrev Up(B:xl)(l:hH Env)(e:ku)(cls:kj)(b:ZI)(d:lx kj)(h:xl):Prop:=
 B.StaysIn h/\B.get? e=hV/\h.FunFrames B l/\∃a vs,h.get? e∣a/\a.cls=cls/\a.dict=b/\a.data= .fields vs/\1<vs.size/\
  match d with
  | none=>vs[1]?∣.none
  | some f=>∃T c ts,vs[1]?∣.ref T/\B.get? T=hV/\T≠e/\h.get? T∣c/\c.data= .fields ts/\ts[3]?∣f
def tG(o:Ob)(f:ZJ->ZJ):(o.mapFields f).dict=o.dict:=by
 let%[c,d,a|b]:=o;cases a<;> rfl
section
variable{M:Model}{A:wh}{E:ZD}{s:mu}{B:xl}{env:Env}{outer:hH Env}{L e:ku}{cls:kj}{dct:ZI}{Q:SK->mu->Prop}
def wA(y:A.frames∣(env::outer))(hf:env.frame∣L)(st:B.StaysIn s.heap)(C:B.get? e=hV)(p:s.heap.FunFrames B (env::outer))
 (he:s.heap.get? e∣u) (N:u.data= .fields vs) (d:1<vs.size)
 (k:∀h',Up B (env::outer) e u.cls u.dict (hX (MO L)) h'->s.heap.UpToSlots h'->Q () {s with heap:=h'}):
 tI M A (do let a<-frameOf env;let pl<-entryPlaceOf L i;let b<-EntryCells.newEntry O a .none (MO L) .none pl;P9 (.ref e) 1 b) Q E s:=by
 let G:e∉(env::outer).filterMap _:=λH=>by
  let%[_,o,ho|ab]:=p.mem H
  simp_all
 show Z2 (wpAny_frameOf_fun y p hf λc v=>Z2 (wpAny_entryPlaceOf λpl I=>Z2 (MG ?_ (I.sizeOk5 _ _ _ _ _))))
 generalize j:({cls:= .type _,dict:=hV,data:= .fields _}:Ob)=h
 let T:=(v.2.1 e G).trans he;let U:(c.push h).get? e∣u:=Z7 _ T;show P4 U N d ?_;let ne:=Zs (Zu T);let l:=Ol N (·.setIfInBounds 1 (m4 c.objs.size));let f:∀b o,b≠e->c.get? b∣o->((c.push h).update e (O9 (·.setIfInBounds 1 (m4 c.objs.size)))).get? b∣o:=λb o n q=>by
  rw[MK _ _ (I0 n)];show Z7 _ q
 let m:B.StaysIn c:=λb o q=>(v.2.1 b λH=>by rw[(p.mem H).1]at q;cases q).trans (st b o q)
 let nb:∀b o,s.heap.get? b∣o->(∀ws,o.data≠ .fields ws)->b≠e:=λb o q w z=>by
  simp_all
 let t3:((c.push h).update e (O9 (·.setIfInBounds 1 (m4 c.objs.size)))).get? c.objs.size∣h:=by
  rw[MK _ _ ne];show Zj c (by subst j;rfl)
 let g:∃ts,h.data= .fields ts/\ts[3]?∣MO L:=by
  subst j;show%[_,ρ|by simp]
 let%[ts,g|J]:=g;show k _ %[λb o q=>f b o (λz=>by lia) (m b o q),C,p.of_keeps λb o q w=>?_,_,_,(MD _ U (OT l)),R3 _ _,tG _ _,l,↑d,c.objs.size,h,ts,?_,m.fresh,I0 ne,t3,g|J] λb o q w=>?_
 .let%[Y|r]:=v.2.2 b o q;show%[_,f b _ (nb b o q w) r|ρ]
 .simp[d]
 .let%[Y|r]:=v.2.2 b o q;show%[Y|f b _ (nb b o q w) r]
def Ae(st:B.StaysIn s.heap)(r:B.get? e=hV)(y:s.heap.FunFrames B l)
 (C:s.heap.get? e∣c) (G:c.data= .fields vs) (u:1<vs.size) (H:vs[1]?∣.ref T) (v:B.get? T=hV) (d:T≠e) (w:s.heap.get? T∣I) (h:I.data= .fields ts) (J:ts[3]?∣f)
 (k:∀h',Up B l e c.cls c.dict (hX g) h'->h'.get? e∣c->s.heap.UpToSlots h'->Q () {s with heap:=h'}):tI M A (P9 (.ref T) 3 g) Q E s:=by
 let i:=(vk.mp J).1;show P4 w h i ?_;let a:∀b,b≠T->(s.heap.update T (O9 (·.setIfInBounds 3 g))).get? b=s.heap.get? b:=λb n=>MK _ _ (I0 n)
 let nb:∀b o,s.heap.get? b∣o->(∀ws,o.data≠ .fields ws)->b≠T:=λb o q p z=>by
  simp_all
 let j:=Ol h (·.setIfInBounds 3 g);let m:=(a e (I0 d)).trans C;show k _ %[λb o q=>(a b λz=>by lia).trans (st b o q),r,y.of_keeps λb o q p=>%[o,(a b (nb b o q p)).trans q|rfl],c,vs,m,rfl,rfl,G,u,T,_,_,H,v,d,
  MD _ w (OT j),j|by simp[i]] m λb o q p=>%[o.slots|(a b (nb b o q p)).trans q]
def Af(i:v=hV\/v∣.none)(b:A.frames∣(env::outer))(j:env.frame∣L)(u:Up B (env::outer) e cls dct v s.heap)
 (k:∀h',Up B (env::outer) e cls dct (hX (MO L)) h'->s.heap.UpToSlots h'->Q () {s with heap:=h'}):tI M A (noteFrame (.ref e) env) Q E s:=by
 let%[st,c,w,N,vs,h,rfl,rfl,d,a|r]:=u;unfold noteFrame;simp only[j];rcases i with rfl|rfl
 .show Z2 (MU h d r (wA b j st c w h d a k))
 .let%[T,O,ts,y,l,m,z,f|C]:=r;show Z2 (MU h d y (Z2 (MU z f C (Z2 (Ae st c w h d a y l m z f C λh' G n H=>?_)))));let%[o,g,p|_]:=G;show wA b j o g p n d a λI J q=>k I J (H.trans q)
def u9(u:Up B l e cls dct (hX f) s.heap)(k:∀h',Up B l e cls dct (hX .none) h'->s.heap.UpToSlots h'->Q () {s with heap:=h'}):
 tI M A (setFlight (.ref e) hV) Q E s:=by
 let%[st,a,m,r,vs,h,rfl,rfl,i,b,T,v,ts,j,c,d,n,g|o]:=u;show Z2 (MU h i j (Ae st a m h i b j c d n g o λh' p _ q=>k h' p q))
def wB(a:g=hV\/g∣.none)(b:A.frames∣(env::outer))(h:env.frame∣L)(u:Up B (env::outer) e cls dct g s.heap)
 (k:∀h',Up B outer e cls dct (hX .none) h'->s.heap.UpToSlots h'->Q () {s with heap:=h'}):tI M A (leaving env (.ref e)) Q E s:=by
 show Z2 (Af a b h u λn i c=>u9 i λj l d=>?_);let%[st,f,%[_,_|m]|r]:=l;show k j %[st,f,m|r] (c.trans d)
end
section
variable{P:nY}{w:v0}{H:Hp}{h:xl}{a:ku}{o:HO}
def cD.there(x:cD P w H h a o):∃b,h.get? a∣b:=by
 cases o with
 | lst xs=>have%[_,_,_,_|e]:=x;show%[_|e]
 | tup xs=>have%[_,_,_,b,e|_]:=x;show%[_|e]
 | dK c=>have%[_,_,_,_,o,_,_,e|_]:=x;show%[_|e]
 | dT c=>have%[_,_,_,_,o,_,_,e|_]:=x;show%[_|e]
 | set S n=>have%[o,_,_,_,e|_]:=x;show%[_|e]
 | ins C d fs=>have%[_,_,_,e|_]:=x;show%[_|e]
 | own y=>have%[_|e]:=x;show%[_|e]
 | xd fs=>have%[_,%[_,_,_,e|_]|_]:=x;show%[_|e]
 | rng lo hi=>have%[_,_,_|e]:=x;show%[_|e]
 | frz b u=>have%[e|_]:=x;show%[_|e]
 | tbl ps=>show%[_|(x)]
 | met f y=>show%[_|(x)]
 | ext g=>have%[_,%[_|e]|_]:=x;show%[_|e]
end
structure Fl (P:nY) (w:v0) (l:hH Env) (H:Hp) (s:mu) (ea:ku) (B:xl) (cls:kj) (dx:ZI) (fl:lx kj) (H':Hp) (s':mu):Prop where
 os:s'.os=s.os
 bare:Qt s'.gens
 un:Un (frs l) [] H H' s.heap s'.heap
 hok:HOk P w H' s'.heap
 up:Up B l ea cls dx fl s'.heap
 free:H' ea=hV
 new:s.heap.get? ea=hV
 inB:∀b ob,s'.heap.get? b∣ob->((∃o,s.heap.get? b∣o)\/∃o,H' b∣o)->b∉frs l->B.get? b∣ob
 frf:∀b∈frs l,H' b=hV
abbrev CXO(P:nY)(w:v0):CXT:=λl H s E e s'=>∃a B cls b c,e= .ref a/\Fl P w l H s a B cls b (hX .none) c s'/\E cls b c
section
variable{P:nY}{w:v0}{l:hH Env}{H H':Hp}{s s':mu}{ea:ku}{B h':xl}{cls:kj}{dx:ZI}{fl fl':lx kj}
def Fl.fly(F:Fl P w l H s ea B cls dx fl H' s')(st:B.StaysIn h')(y:s'.heap.UpToSlots h'):Un (frs l) [] H H' s.heap h'/\HOk P w H' h':=by
 let fr:∀b g,s'.heap.get? b∣g->b∈frs l->∃p,h'.get? b∣_:=λb g q a=>by
  let%[_,d,r|z]:=F.up.2.2.1.mem a;rw[q]at r;cases r;show y b g q z
 show%[%[λb o q n a f=>?_,λb o q n a f=>?_,F.un.free,λb o q f=>?_,F.un.tups,F.un.frzs|F.un.tbls]|λb o q=>?_]
 .show st b o (F.inB b o (F.un.keep b o q n a f) (.inl %[o|q]) a)
 .let%[p|e]:=F.un.slot b o q n a f;let%[h|i]:=fr b _ e a;show%[h|i]
 .let%[d|e]:=F.un.there b o q f;by_cases a:b∈frs l
  .let%[p|i]:=fr b d e a;show%[_|i]
  .show%[d|st b d (F.inB b d e (.inl %[o|q]) a)]
 .show(F.hok b o q).stay (λc u j e=>?_) (λ_ e=>e) λ_ _ e=>e
  let A:∃v,H' c∣v:=by
   rcases j with rfl|j
   .show%[_|q]
   .show%[_|j]
  let%[v|m]:=A;show st c u (F.inB c u e (.inr %[v|m]) λa=>by rw[F.frf c a]at m;cases m)
end
section
variable{P:nY}{w:v0}{K:ZA}{mg:ZC}{base:xl}{N:ZB}{qual:lp}{scope:RE}{f:ku}{cd:kj}{A:wh}{outer:hH Env}{s₀:mu}{H₀:Hp}{E:XK}
def DK(i:v=hV\/v∣.none)
 (I:Qc (fS (CXO P w) P w K mg base N qual scope f cd A outer s₀ H₀ E) ij L H s) (F:Fl P w (Ng qual scope ⇑s₀ f cd::outer) H s d B cls y v g s') (q:E cls y g):
 (fS (CXO P w) P w K mg base N qual scope f cd A outer s₀ H₀ E).xe (.ref d) s':=by
 show wB i I.ok.frames rfl F.up λh' u M=>?_
 let%[un|j]:=F.fly u.1 M;let J:Qc _ ij L g {s' with heap:=h'}:=I.call' F.os un j F.bare λb z=>n0 z ∅
 show%[d,B,cls,y,g,ρ,%[J.os,J.bare,J.base,J.hok,u,F.free,?_,λb ob e h O=>?_|λb h=>F.frf b (M6.mpr ?_)]|q]
 .cases z:s₀.heap.get? d with
  | none=>rfl
  | some o=>
    let%[o'|e]:=I.base.there d o z (by simp[fS]);rw[F.new]at e;cases e
 .let Q:b∉frs (Ng qual scope ⇑s₀ f cd::outer):=λT=>by
   rcases Yw.mp (T)with z|z
   .rcases h with⟨o,c⟩|⟨o,c⟩
    .show n0 (Zu c) (z▸Xk _)
    .let:=J.free;rw[show(fS _ P w K mg base N qual scope f cd A outer s₀ H₀ E).env.locals=b from z.symm,c]at this;cases this
   .show O z
  let l:∃a,s'.heap.get? b∣a/\((∃o,s.heap.get? b∣o)\/∃o,g b∣o):=by
   rcases h with⟨o,c⟩|⟨o,c⟩
   .let%[C|G]:=I.base.there b o c (by simp[fS]);let%[n|p]:=F.un.there b C G ∅;show%[n,p|.inl %[C|G]]
   .let%[n|p]:=(F.hok b o c).there;show%[n,p|.inr %[o|c]]
  let%[a,U|r]:=l;let Y:=F.inB b a U r Q;let:=u.1 b a Y
  grind
 .let%[en,m|q]:=M6.mp h;show%[en,Yw.mpr (.inr m)|q]
def oM(a:∀c d H,b c d H->E c d H):iQ (CXO P w) (fS (CXO P w) P w K mg base N qual scope f cd A outer s₀ H₀ E) b:=by
 intro ij g H s e s' I %[h,B,cls,i,j,rfl,F|q];show DK (.inr rfl) I F (a _ _ _ q)
end
noncomputable abbrev JH(vs:ZF):Ob:={cls:= .type "tuple",data:= .seq vs.toArray}
noncomputable abbrev Lr(C t:ku):Ob:={cls:= .ref C,data:= .fields #[.ref t,.none,.none,.none,.bool iv,.none]}
noncomputable abbrev yW(h:xl)(C:ku)(vs:ZF):xl:=(h.push (JH vs)).push (Lr C h.objs.size)
def wC(h:xl)(C:ku)(vs:ZF):(yW h C vs).get? (h.objs.size+1)∣Lr C h.objs.size:=by
 heap_get
def iD(b:ku)(o:Ob)(e:h.get? b∣o):(yW h C vs).get? b∣o:=
 Z7 _ (Z7 _ e)
section
variable{prog:nY}{w:v0}{A:wh}{E:ZD}{h:xl}{g:on RN}{d:Drawn}{t:jg}{os:OsState}
variable{nm q:lp}{C N:ku}{bs bm bmB:ZF}{hdct:ri}{sn:ZB}{sub:ZF}{ab:ri}{col:lx ri}{dd:ZI}{k0 k1 k2 k3 k5:lx kj}{B newId initId:M5}
def BP(F:ExcBaseFacts B newId initId bmB)(T:OwnTail h bmB bm){rest:ZF}
 (b:h.get? C∣VB nm q C N bs bm hdct sn sub ab col dd k0 k1 k2 k3 k5 newId) (l:h.Ns N i) (hi:i "__init__"=hX (.ref j)) (c:h.get? j∣m) (e:m.cls= .type "function") (a:rest.length<=md)
 (n:↥A (call (.ref j) (.ref (h.objs.size+1)::rest)) (λr s'=>r= .none/\Q (.done (.ret (.ref (h.objs.size+1)))) s') E %[yW h C rest,g,d,t|os]):
 ↥A (n7.«type.__call__» %[.ref C::rest|[]]) Q E %[h,g,d,t|os]:=by
 repeat (first|with_reducible show OV b ?_|with_reducible show wpAny_madeBy_exc b ?_|wp_step)
 show codeAny_call_builtin_code (Rf _ F.quiet) (wpAny_check_new_subT F T b ?_);show codeAny_exc_new_subT F T b ?_ a;let c1:=iD (C:=C) (vs:=rest) _ _ b;let o:=iD (C:=C) (vs:=rest) _ _ c;let n1:(yW h C rest).Ns N i:=l.keeps iD;let p:=wC h C rest;let f:(m4 C::bm).contains (.ref C)=hY:=by simp
 unfold Sh
 repeat (first|with_reducible show OV p ?_|(with_reducible show VW c1 ?_;rw[f])|wp_step)
 change tI _ _ (P6 (.ref C) _) _ _ _;show wpAny_typeLookup_tail c1 n1 (T.keeps (h':=yW h C rest) iD) F.mroIs F.init.lookup ?_;rw[hi];show vu (Z2 ?_);unfold bindSpecial;show Z2 (PB (T:="function") %[_,o|e] ?_);rw[lX (!1)];show Z3 (Z2 (Mz n (λr s' s=>?_) λ_ _ x=>x));let%[rfl|u]:=s
 wp_walk
 show u
def BQ(F:ExcBaseFacts B newId initId bmB)(T:OwnTail h bmB bm){rest:ZF}
 (b:h.get? C∣VB nm q C N bs bm hdct sn sub ab col dd k0 k1 k2 k3 k5 newId) (i:h.Ns N j) (hi:j "__init__"=hX (.ref f)) (c:h.get? f∣l) (e:l.cls= .type "function") (a:rest.length<=md)
 (m:tI (Nf prog w) (A.under (.builtin "type.__call__" %[.ref C::rest|[]])) (call (.ref f) (.ref (h.objs.size+1)::rest)) (λr s'=>r= .none/\Q (.ref (h.objs.size+1)) s') E %[yW h C rest,g,d,t|os]):
 ↥A (call (.ref C) rest) Q E %[h,g,d,t|os]:=by
 let n:=tc_lookup;let o:=tc_bind (.ref C);let p:(%[h,g,d,t|os]:mu).TypeIs (.ref C) "type":=%[_,b|rfl]
 show Oc (Tu ?_);change tI _ _ (callAny (.ref C) _) _ _ _
 repeat (any_goals (first|assumption|with_reducible show OV b ?_|wp_step))
 show%[ρ|?_];show codeAny_call_builtin_at (Rf _ (!0)) entry_typeCall (wpAny_check_type_call_sub b (BP F T b i hi c e a m))
end
noncomputable abbrev veB:ZF:=[.type "ValueError",.type "Exception",.type "BaseException",.type "object"]
abbrev bz:ZF->ri
 | .ref c::r=>bz r
 | l=>l==veB
def ko(self:kj):∀{l:ZF},bz l=hY->refuseLoop self "__setattr__" l=pure ()
 | .ref c::r,e=>by rw[refuseLoop_ref];show ko self e
 | .type n::r,e=>by
   let a:(MW n::r)=veB:=by simpa [bz]using e
   show a▸PySem.F.store_ValueError.passes self
 |[],e=>by simp[bz]at e
 | .none::r,e=>by simp[bz]at e
 | .bool _::r,e=>by simp[bz]at e
 | .int _ _::r,e=>by simp[bz]at e
 | .str _ _::r,e=>by simp[bz]at e
 | .builtin _::r,e=>by simp[bz]at e
 | .float _ _::r,e=>by simp[bz]at e
 | .bytes _ _::r,e=>by simp[bz]at e
 | .ellipsis::r,e=>by simp[bz]at e
 | .notImplemented::r,e=>by simp[bz]at e
def pG(n:M5)(a:veB.contains (.type n)=hY):∀{l:ZF},bz l=hY->l.contains (.type n)=hY
 | .ref c::r,e=>by rw[UN,pG n a (l:=r) e,RW]
 | .type m::r,e=>by
   let b:(MW m::r)=veB:=by simpa [bz]using e
   show b▸a
 |[],e=>by simp[bz]at e
 | .none::r,e=>by simp[bz]at e
 | .bool _::r,e=>by simp[bz]at e
 | .int _ _::r,e=>by simp[bz]at e
 | .str _ _::r,e=>by simp[bz]at e
 | .builtin _::r,e=>by simp[bz]at e
 | .float _ _::r,e=>by simp[bz]at e
 | .bytes _ _::r,e=>by simp[bz]at e
 | .ellipsis::r,e=>by simp[bz]at e
 | .notImplemented::r,e=>by simp[bz]at e
abbrev va(K:ZA)(C:ku):ri:=(clsIn K C).any λa=>bz a.mro
section
variable{prog:Program}{w:World}{A:Around}{E:ZD}{s:Shared}
variable{K:ZA}{x C:ku}{name:lp}{v:kj}{ox:Ob}{od:lx Ob}
def JI{R:Ua->mu->Prop}(X:K.In s.heap)(I:PySem.W.InstAt s.heap x ox C od)(i:va K C=hY)(j:MT K (.ref C) name∣hV)
 (h:↥A.in1 (Vp (.ref x) (.ref C) (.str name tk) name v iv)
  (λfin s'=>match fin with| .done f=>R (.ok f) s'| .again d=>d.quiet=hY/\PL (Nf prog w) A d R s') (λe s'=>R (.error e) s') s):
 PL (Nf prog w) A (.call (.builtin "object.__setattr__") %[[.ref x,.str name tk,v]|[]]) R s:=by
 let a:=PySem.F.store_object;let%[c,g|b]:=QM i;let ne:c.mro.isEmpty=iv:=by cases q:c.mro with|nil=>rw[q]at b;simp[bz]at b|cons _ _=>rfl
 show Oe a.slot.plain a.entry (@Wf _ _ _ s _ _ _ _ _ [] _ a.kind a.split (I.type.andThen (PySem.W.looks_mroIn X (by unfold mroIn;rw[g,RR,kw (by rw[ne];decide),(pG _ (!1) b)]))) (a.args _ _ v) ?_);let l:RK (Nf prog w) s.heap (mroOf (.ref C)) c.mro:=(VA X g).andThen .now;rw[PySem.W.osa_eq,refuse_eq];show Z2 (Z2 (I.type.here (Z2 (l.here ?_))));rw[ko _ b];show Z3 (Z2 (I.type.here (Z2 ((SE X j).here (Z2 (Z3 h))))))
def GC(X:K.In s.heap)(g:s.heap.get? x∣ox)(i:ox.cls= .ref C)(j:ox.data= .fields vs)(l:ox.dict=hV)
 (z:MT K (.ref C) "__setattr__"=hX (hX (.builtin "object.__setattr__"))) (B:va K C=hY) (G:MT K (.ref C) name∣hV) (H:Pf K C=hY)
 (h:∀h',h'.get? x=hX {ox with dict:=hX ⇑s}->h'.Ns1 ⇑s (λy=>if y=name then hX v else hV)->(∀b o,b≠x->s.heap.get? b∣o->h'.get? b∣o)->Q () {s with heap:=h',toks:=s.toks+2}):
 ↥A (setAttr (.ref x) name v) Q E s:=by
 let%[oc,I,L|M]:=ox;subst i j l;let J:PySem.W.InstAt s.heap x _ C hV:=%[g,rfl,rfl|trivial]
 show set_plain X J z (JI X J B G ?_);let%[cd,N|m]:=QM H;show Z2 (Z3 (Z2 (Z2 (P5 g (Z2 (Qm (VA X N) ?_))))));rw[m];let a:(s.heap.push {cls:= .type "dict",data:= .dict #[]}).get? x∣_:=Z7 _ g;let c:=Zs (Zu g);show Z2 (wpAny_alloc' (Z2 (wpAny_update' a (Z3 ?_))));let n:((s.heap.push {cls:= .type "dict",data:= .dict #[]}).update x λo=>{o with dict:=hX ⇑s}).get? ⇑s∣_:=
  (MK _ _ c).trans (xl.get?_push_at rfl rfl)
 let p:((s.heap.push _).update x _).Ns ⇑s _:=
  %[_,#[],_,n,rfl,λe O=>n0 O ∅|λ_=>rfl]
 show Z2 (Z3 (Z2 (wpAny_nsSet1 (Ug p) λh' d f=>?_)));let%[oD,T,U,q,r|u]:=d.count (PySem.Within.cons name v PySem.Within.nil);show Z2 (WQ q (r▸W1 (nI u ∅)) (Z3 (h h' ?_ d λb o Y e=>?_)))
 .show(f.2 x c).trans (MD _ a rfl)
 .show(f.2 b (Zs (Zu e))).trans ((MK _ _ (I0 Y)).trans (Z7 _ e))
end
abbrev ExO(a C:ku)(d:ZI):HO:= .ext λh=>∃o vs,h.get? a∣o/\o.cls= .ref C/\o.dict=d/\o.data= .fields vs/\1<vs.size/\vs[1]?∣.none
def ExO.ok{P:nY}(e:h.get? a∣o)(c:o.cls= .ref C)(f:o.dict=d)(g:o.data= .fields vs)(i:1<vs.size)(b:vs[1]?∣.none):
 cD P w H h a (ExO a C d):=
 %[%[o,vs,e,c,f,g,i|b],%[o|e]|λb j ⟨o,vs,e,r⟩ k=>%[o,vs,k o e|r]]
def DL(h:H a∣o):Qa H a o=H:=by
 funext b;unfold Qa;simp_all
abbrev exK(K:ZA)(C f:ku):ri:=(K.lookup C).any λo=>o.cls== .type "type"&&(match o.data with
 | .cls a=>a.mro.head? ==hX (.ref C)&&o.slots.size==6&&o.slots[4]? ==hX (hX (.builtin "ValueError.__new__"))&&!a.hasDel&&PySem.W.tailIn K veB a.mro.tail&&PySem.W.nsOkIn K a.ns&&RY K a.ns "__init__"==hX (hX (.ref f))
 | _=>iv)
set_option tactic.hygienic true in
def yX{K:ZA}{h:xl}{mg:ZC}(X:K.In h)(G:h.Ns N mg)(e:RY K N n∣hX v):mg n∣v:=by
 let%[o,j,l,a,b,_|f]:=G;unfold RY at e
 split at e
 .rename_i c d g m p q
  let:=X _ _ q;rw[a]at this;cases this;cases b
  split at e
  .rename_i r i
   cases e;rw[<-f];unfold nsFind findBy;rw[<-UB,i];rfl
  simp_all
 .cases e
def yY{K:ZA}(X:K.In h)(q:exK K C f=hY):∃nm i N bs c a j sub l b m n k1 k2 o p r,
 h.get? C∣VB nm i C N bs c a j sub l b m n k1 k2 o p "ValueError.__new__"/\h.Ns N r/\r "__init__"=hX (.ref f)/\OwnTail h veB c:=by
 let%[%[E,m,data|s],v|q]:=QM q;dsimp only at q;rw[Zv,NM]at q;let%[rfl|q]:=q;cases data with
 | cls w=>
   let%[nm,bs,d,H,i,I,j,sub,l,b|y]:=w;simp only[Zv,NM,Vb]at q;let%[%[%[%[%[%[u|z]|A]|rfl]|B]|e]|g]:=q;cases d with
   | nil=>cases u
   | cons x c=>
     cases u;rcases s with _|⟨n,_|⟨k1,_|⟨k2,_|⟨o,_|⟨J,_|⟨p,_|⟨L,s⟩⟩⟩⟩⟩⟩⟩<;> first|cases z|skip
     cases A;let G:=PySem.Heap.Ns.of_isNs (PySem.W.isNs_of_in X e);show%[_,_,_,_,_,_,_,_,_,_,_,_,_,_,_,_,_,X _ _ v,G,yX X G g|PySem.W.tail_of_in X B]
 | _=>cases q
section
variable{X:Cx}{C f:ku}
set_option tactic.hygienic true in
def yZ(A:exK X.K C f=hY):cE X (.builtin "ValueError.__init__") (λxs H Q=>∃a d ys,xs=V.ref a::ys/\ ~~~ys<=9/\H a∣ExO a C d/\Q .non H):=by
 intro ij s B H xs us Q I r h;let%[a,d,ys,rfl,hy,g|q]:=h;cases r with
 | cons E G=>
   rename_i u ws
   obtain rfl:u=m4 a:=E;let%[%[o,vs,e,v,L,i,M|O]|_]:=I.hok a _ g;let%[nm,qn,N,bs,bm,w,sn,sub,ab,U,dd,k0,k1,k2,k3,k5,mN,Y,hN,hi|T]:=yY I.kIn A;let F:=PySem.F.excBase_ValueError;let j: ~~~ws<=md:=by rw[<-G.length,MN];lia
   show Oc (Oe F.init.plain F.initEntry (wpAny_check_init_subT F T Y e v ?_));let l:∃m,vs[0]?∣m:=%[vs[0]'⋯|Mw ⋯]
   let%[m|l]:=l;let p:(s.heap.push (JH ws)).get? a∣o:=Z7 _ e;let c:=Ol i (·.setIfInBounds 0 (m4 ⇑s));let y:=MD (O9 (·.setIfInBounds 0 (m4 ⇑s))) p (OT c);let J:Qc X ij B H {s with heap:=((s.heap.push (JH ws)).update a (O9 (·.setIfInBounds 0 (m4 ⇑s))))}:=by
    let:=I.write (x:=a) (e:=a) (o:=ExO a C d) (t':=s.toks) (g▸MQ) (.inl rfl)
     (λb u n z=>by rw[MK _ _ (I0 n)];show Z7 _ z) %[_|y]
     (ExO.ok y ((R3 _ _).trans v) ((tG _ _).trans L) c ↑M (by rw[on.getElem?_setIfInBounds_ne ∅];show O))
    rw[DL g]at this;show this
   show Z2 (Rk (Z2 (Z2 (MU p i l (Z2 (P4 p i ⋯ ?_))))) j);cases m with
   | ref b=>show Rn (Z3 %[.non,H,J,rfl|q])
   | _=>show Z3 (Z3 %[.non,H,J,rfl|q])
end
structure DM (K:ZA) (D:ku):Prop where
 ga:S3 K (.ref D) "__getattribute__"=hX (hX (.builtin "type.__getattribute__"))
 rd:readsIn K D (.type "type")=hY
 at_:findCls K (.ref D) (.type "type") "__init__"=hX (.val (.builtin "ValueError.__init__"))
structure JJ (K:ZA) (C:ku) (f:lp):Prop where
 sa:MT K (.ref C) "__setattr__"=hX (hX (.builtin "object.__setattr__"))
 ov:va K C=hY
 no:MT K (.ref C) f∣hV
 hd:Pf K C=hY
section
variable{X:Cx}{C D f:ku}{x nm:lp}{p pos pos' apos:Pos}{e o value:yu}{es:hH yu}{t:TA}{ta tv:TE}{r:hH V->Hp->VK->Prop}
def DN(g:Gl X x)(i:X.mg x∣.ref D)(B:DM X.K D)(j:cE X (.builtin "ValueError.__init__") r)(l:PA X (e::es) t)(a:(x==("__debug__":lp))=iv)
 (m:vi (e::es) X.env=(iv,MZ e X.env)::vi es X.env) (b:(Nt pos (vi es X.env)).any (·.1)=iv)
 (n:MZ (.Call (.Attribute (.Name x p) "__init__" apos) (e::es) [] pos) X.env=(do
  let c<-MZ (.Name x p) X.env
  Pk apos.atName
  let(f,first)<-PF [c] (QK c "__init__" pl)
  T4 pos f first (Nt pos (vi (e::es) X.env)) (Qh pos (Od [] X.env)))):
 PE X (.Call (.Attribute (.Name x p) "__init__" apos) (e::es) [] pos) (tCB r t):=by
 intro ij s d H Q I h;show PySem.W.methodCall_KW (iO I g i (PySem.W.method_cls I.kIn B.ga (PySem.W.cls_value I.kIn B.rd B.at_ (!1) (QP (thP (l pos ij _ d H _ (I.tok _) h) λus q vs u v w y=>j ij q d u vs us Q v w y) m b))) a) n
abbrev HL(K:ZA)(C:ku)(ta tv:TE)(f:lp):TS:=λD b H=>tv b H λy g=>ta b g λx c=>∃a,x= .ref a/\c a∣ExO a C hV/\
 ∀d,c d=hV->d≠a->D.nx b (Qa (Qa c a (ExO a C (hX d))) d (.xd [(f,y)]))
def GD(c:JJ X.K C nm)(E:PE X o ta)(G:PE X value tv)(J:OL value (hX (.Attribute o nm pos')) pos.line X.env=pure iv):PS X (.Assign [.Attribute o nm pos'] value pos) (HL X.K C ta tv nm):=by
 intro ij s j H D I h;show SW (thP (G ij s j H _ I h) λu L y M N O q=>thP (E ij L j M _ N q) λQ l x H2 d T ⟨a,ex,m,U⟩=>?_) J;subst ex;obtain rfl:Q=m4 a:=T;let%[%[ob,vs,e,v,Y,w,hz|h1]|_]:=d.hok a _ m;let i:=Yz (Zu e);let A:=d.hok.fresh (Zi _);show GC d.kIn e v w Y c.sa c.ov c.no c.hd λh' B n' k=>%[j,_,?_|U ⇑l A i]
 show Qc.stood2 d (d.write (t':=l.toks+2) (m▸MQ) (.inl rfl) (λb u n z=>k b u n z) %[_|B] (ExO.ok B v rfl w hz h1)) ((aq i)▸A) (Zi _) %[_,n'|λg=>?_];by_cases z:g=nm
 .rw[lX z,z];simp only[NR,Ph];show O
 .rw[kw z];let z':(g==nm)=iv:=↑z
  simp only[NR,z'];show MQ
end
abbrev JK(b:TE):TE:=λc H Q=>b c H λv a=>(∃i:oT,v= .int i/\i.natAbs<2^64/\Q (.str (toString i)) a)\/∃y:lp,v= .str y/\ ~~~y<=md/\Q (.str y) a
abbrev pH:hH TE->lp->TE
 |[],out=>λa H Q=> ~~~out<=md/\Q (.str out) H
 | t::ts,out=>λa H Q=>t a H λv b=>∃y:lp,v= .str y/\ ~~~(out++y)<=md/\pH ts (out++y) a b Q
inductive PJ (X:Cx):hH yu->hH TE->Prop
 | nil:PJ X [] []
 | cons {e:yu} {es:hH yu} {t:TE} {ts:hH TE}:PE X e t->PJ X es ts->PJ X (e::es) (t::ts)
section
variable{X:Cx}{e v1 v2:yu}{rest:hH yu}{te t1 t2:TE}{ts:hH TE}{pos:Pos}
def JL(c:PE X e te):PE X (.FormattedValue e (-1) hV pos) (JK te):=by
 intro ij s d H Q I h;show FormattedValue_plain (thP (c ij s d H _ I h) λu j v a b r q=>?_);rcases q with⟨i,rfl,hi,q⟩|⟨y,rfl,f,q⟩
 .let%[t|rfl]:=(show∃t,u=RZ i t from r)
  let g:i.natAbs.log2<1920:=by
   by_cases z:i.natAbs=0
   .rw[z];decide
   .show(jg.log2_lt z).mpr (Zg hi (Pa (!1) ∅))
  show formatField_int_small g %[V.str (toString i),a,b.tok _,%[_|rfl]|q]
 .let%[t|rfl]:=(r)
  show XC (λt' tk=>%[.str y,a,b.tok _,%[_|rfl]|q]) f
def DO(h:PJ X c ts):∀(out:lp) (ij:ZE) (s:mu) (a:St) (H:Hp) (Q:VK),Qc X ij a H s->pH ts out a H Q->
 (X⁻¹) (joinParts out (evalEach c X.env)) (EP X ij a Q) X.xe s:=by
 induction h with
 | nil=>show λout ij s a H Q I ⟨b,q⟩=>joinParts_nil %[.str out,H,I.tok _,%[_|rfl]|q] b
 | cons d _ f=>
   intro out ij s a H Q I q;show joinParts_cons (thP (d ij s a H _ I q) λu g v i j r ⟨y,l,b,m⟩=>?_);subst l;let%[t|rfl]:=(r)
   show%[b|f _ ij g a i Q j m]
def GE(h:PJ X (v1::v2::rest) ts):PE X (.JoinedStr (v1::v2::rest) pos) (pH ts Mi):=λij s a H Q I q=>
 JoinedStr_many (DO h _ ij s a H Q I q)
end
abbrev y4(C:ku)(sp:Sp)(t:TA):TE:=λb H Q=>t b H λvs a=> ~~~vs<=9/\∀x,a x=hV->sp (.ref x::vs) (Qa a x (ExO x C hV)) (λv c=>v= .non/\Q (.ref x) c) E0
structure MkX (K:ZA) (C f:ku):Prop where
 ex:exK K C f=hY
 fn:(K.lookup f).map (·.cls)∣.type "function"
 kp:OF K (.ref C)=hY
section
variable{X:Cx}{k:jg}{f C:ku}{fd:O6}{ps:ZB}{sp:Sp}{x:lp}{p pos cpos:Pos}{e:yu}{es:hH yu}{te:TE}{t:TA}
def BR(M:MkX X.K C f)(F:eQ X.prog X.w X.K X.mg X.base CX0 k f fd ps sp)(w:bG (k+1) X.A)(y:dW X.K fd ps [])
 (I:Qc X ij j H s) (r:aM vs us) (hv: ~~~vs<=9)
 (h:∀x,H x=hV->sp (.ref x::vs) (Qa H x (ExO x C hV)) (λv z=>v= .non/\Q (.ref x) z) E0):
 (X⁻¹) (call (.ref C) us) (EP X ij j Q) X.xe s:=by
 let%[i,g,d,tk|os]:=s;let%[nm,qn,N,bs,bm,n,sn,sub,ab,A,dd,k0,k1,k2,k3,k5,mN,B,E,hi|T]:=yY I.kIn M.ex;let%[oI,G|l]:=Mu.mp M.fn;show BQ PySem.F.excBase_ValueError T B E hi (I.kIn _ _ G) l (by rw[<-r.length,MN];lia) ?_;let J:Qc X ij j H %[yW i C us,g,d,tk|os]:=I.keptS iD rfl rfl;let m:Qc X ij j (Qa H _ (ExO _ C hV)) _:=
  I.stoodS J (Yg _) (ExO.ok (wC i C us) rfl rfl rfl ∅ rfl)
 let o:=h _ (I.hok.fresh (Yg _));let q:aM (V.ref (i.objs.size+1)::vs) _:= .cons rfl r;let b: ~~~(m4 (i.objs.size+1)::us++[])= ~~~ps:=by
  rw[Zx,<-q.length];show F.len _ _ _ _ o
 let c:=y _ _ m.kIn b;rw[Zx]at c;show Oc (codeAny_mono (F.run _ X.stack _ _ _ _ _ _ E0 (w.make C us []) (m.env0.make C us []) c q o) λr s' a=>?_);cases r with
 | error e=>show MM a
 | ok L=>
   cases L with
   | ret u=>
     let%[v,O,U,Y,ev|q3]:=m.after a;subst ev;show%[Y,V.ref _,O,U,ρ|q3]
   | next=>show MM a
   | brk=>show MM a
   | cont=>show MM a
def DP(M:MkX X.K C f)(F:eQ X.prog X.w X.K X.mg X.base CX0 k f fd ps sp)(d:bG (k+1) X.A)(g:Gl X x)(i:X.mg x∣.ref C)(j:dW X.K fd ps [])
 (l:PA X (e::es) t) (a:(x==("__debug__":lp))=iv) (m:vi (e::es) X.env=(iv,MZ e X.env)::vi es X.env) (b:(Nt pos (vi es X.env)).any (·.1)=iv):
 PE X (.Call (.Name x p) (e::es) [] pos) (y4 C sp t):=by
 intro ij s n H Q I h;show N0 (iO I g i (T3 I.ok.mod.kin M.kp (thP (l pos ij s n H _ I h) λus u vs v c r ⟨o,q⟩=>%[c.kIn|BR M F d j c r o q]) m b) a)
abbrev vb(C:ku)(te:TE)(W:ku->Hp->Prop):TS:=λ_ c H=>te c H λv b=>∃a d,v= .ref a/\b a∣ExO a C (hX d)/\W a b
def DQ{W:ku->Hp->Prop}(A:exK X.K C f=hY)(B:X.calm=hY)(E:PE X e te)
 (G:∀(ij:ZE) (i:St) (H:Hp) (s:mu) (a d:ku),Qc X ij i H s->H a∣ExO a C (hX d)->W a H->X.xe (.ref a) s):PS X (.Raise (hX e) hV pos) (vb C te W):=by
 intro ij s i H D I h;change tI _ X.A (do Pk pos;raiseStmt X.env (hX (do let v<-MZ e X.env;Pk pos;pure v)) hV) _ _ s;show Z2 (Qu ?_);unfold raiseStmt;show Z2 (Z2 (thP (E ij s i H _ I h) λu m v J j r ⟨a,d,L,n,q⟩=>Z2 (Qu (Z3 ?_))));subst L;obtain rfl:u=m4 a:=r;let%[%[M,vs,O,c,o,w,hz|Q]|_]:=j.hok a _ n;let%[nm,qn,N,bs,U,y,sn,sub,ab,Y,dd,k0,k1,k2,k3,k5,mN,z,hN,hi|T]:=yY j.kIn A;let l:(m4 C::U).contains (.type "BaseException")=hY:=by rw[UN,T.hasType (b:=hY) (!1),RW]
 let hE:=G ij i J m a d j n q;let%[hp,g,dr,tk|os]:=m;let%[oc,od,ac|ae]:=M;dsimp only at c o w;subst c o w;let hh:X.A.handled=hV:=j.ok.hd B
 repeat (first|with_reducible show OV O ?_|with_reducible show OV z ?_|(with_reducible show VW z ?_;rw[l])|wp_step)
 rw[Q];show Z3 ?_;rw[kw (!1)];show Z3 (VV hh hE)
end
abbrev drop(H:Hp)(a:ku):Hp:=λb=>if b=a then hV else H b
def iE:drop H a a=hV:=by unfold drop;rw[lX rfl]
def bS(h:b≠a):drop H a b=H b:=by unfold drop;rw[kw h]
def BS{P:nY}{K:ZA}
 (hk:exK K C f=hY) (he:PE (fS (CXO P w) P w K mg base N h g p r A outer s₀ H₀ E) e te):
 PS (fS (CXO P w) P w K mg base N h g p r A outer s₀ H₀ E) (.Raise (hX e) hV pos) (vb C te λa H=>∃d,H a∣ExO a C (hX d)/\H₀ a=hV/\E (.ref C) (hX d) (drop H a)):=by
 show DQ hk rfl he λij σ H s a ag I _ ⟨d,J,hn,q⟩=>?_
 let%[%[oe,vs,ea,Y,hd,hf,hz|h1]|_]:=I.hok a _ J;let ST:=I.stack;let SF:=I.stkFree;let L0:⇑s₀<=(Ng h g ⇑s₀ p r).locals:=Zi _;change tI (Nf P w) (A.deeper (Ng h g ⇑s₀ p r)) (leaving (Ng h g ⇑s₀ p r) (.ref a)) _ _ s;let ab:a∉frs (Ng h g ⇑s₀ p r::outer):=λz=>by
  let:=SF a z;rw[J]at this;cases this
 show wB (.inl rfl) I.ok.frames rfl %[λb o z=>of_hideAll _ z,PySem.W.hideAll_none _ (Yw.mpr (.inl rfl)),PySem.W.funFrames_hide ST λen ac b i=>Yw.mpr (.inr (M6.mpr %[en,ac|i])),oe,vs,ea,Y,hd,hf,hz|h1] λh' u sm=>?_
 let G:∀b o,s.heap.get? b∣o->b≠a->b∉frs (Ng h g ⇑s₀ p r::outer)->h'.get? b∣o/\(hideAll s.heap (a::frs (Ng h g ⇑s₀ p r::outer))).get? b∣o:=λb o z n1 n2=>by
  let hB:=hideAll_get (a::frs (Ng h g ⇑s₀ p r::outer)) z λm=>(Yw.mp m).elim n1 n2
  show%[u.1 b o hB|hB]
 let T:∀b o,s.heap.get? b∣o->b∈frs (Ng h g ⇑s₀ p r::outer)->∃sl,h'.get? b=hX {o with slots:=sl}:=λb o z i=>by
  let%[_,o',z'|M]:=ST.mem i;rw[z]at z';cases z';show sm b o z M
 let nL:∀b o,s₀.heap.get? b∣o->b∉frs outer->b∉frs (Ng h g ⇑s₀ p r::outer):=λb o z n m=>by
  rcases Yw.mp (show b∈⇑s₀::frs outer from m)with y|y
  .show n0 (Zu z) (y▸Xk _)
  .show n y
 let sub:∀b,b∈frs outer->b∈frs (Ng h g ⇑s₀ p r::outer):=λb i=>Yw.mpr (.inr i)
 let j:∀b,b∉(fS (CXO P w) P w K mg base N h g p r A outer s₀ H₀ E).ex:=λb z=>n0 (show b∈([]:hH ku)from z) ∅
 let new:s₀.heap.get? a=hV:=by
  cases z:s₀.heap.get? a with
  | none=>rfl
  | some o=>
    let:=I.base.free a o z hn (j a);rw[J]at this;cases this
 let trk:∀b o,H b∣o->b∉frs (Ng h g ⇑s₀ p r::outer):=λb o z m=>by
  rw[SF b m]at z;cases z
 show%[a,_,.ref C,hX d,drop H a,ρ,%[I.os,I.bare,%[λb o z n i hx=>?_,λb o z n i hx=>?_,λb o z n hx=>?_,λb o z hx=>?_,λb xs z=>?_,λb o v z=>?_|λb ps z=>?_],λb o z=>?_,u,iE,new,λb ob z i M=>?_|λb i=>?_]|q]
 .let l:=I.base.keep b o z n i (j b);show(G b o l (λy=>?_) (nL b o z i)).1;subst y;rw[new]at z;cases z
 .let%[sl|l]:=I.base.slot b o z n i (j b);let%[ae|Q]:=T b _ l (sub b i);show%[ae|Q]
 .by_cases y:b=a
  .show y▸iE
  .rw[bS y];show I.base.free b o z n (j b)
 .let%[O|l]:=I.base.there b o z (j b);by_cases i:b∈frs (Ng h g ⇑s₀ p r::outer)
  .let%[sl|Q]:=T b O l i;show%[_|Q]
  .show%[O|(G b O l (λy=>?_) i).1];subst y;rw[new]at z;cases z
 .let l:=I.base.tups b xs z;rw[bS (oV l J (by simp[ExO]))];show l
 .let l:=I.base.frzs b o v z;rw[bS (oV l J (by simp[ExO]))];show l
 .let%[m|l]:=I.base.tbls b ps z;show%[m|?_];rw[bS (oV l J (by simp[ExO]))];show l
 .let y:b≠a:=λy=>by rw[y,iE]at z;cases z
  rw[bS y]at z;show(I.hok b o z).stay (λc u' U L=>?_) (λc L=>?_) λc xs L=>?_
  .rcases U with rfl|U
   .show(G c u' L y (trk c o z)).1
   .show(G c u' L (oV U J (by simp[ExO])) (trk c _ U)).1
  .rw[bS (oV L J (by simp[ExO]))];show L
  .rw[bS (oV L J (by simp[ExO]))];show L
 .let y:b≠a:=λy=>by
   rcases i with⟨o,B⟩|⟨o,B⟩
   .rw[y,new]at B;cases B
   .rw[y,iE]at B;cases B
  let nf:b∉frs (Ng h g ⇑s₀ p r::outer):=by
   rcases i with⟨o,B⟩|⟨o,B⟩
   .show nL b o B M
   .rw[bS y]at B;show trk b o B
  let ex:∃O,s.heap.get? b∣O:=by
   rcases i with⟨o,B⟩|⟨o,B⟩
   .show I.base.there b o B (j b)
   .rw[bS y]at B;show(I.hok b o B).there
  let%[O|l]:=ex;let%[Q|e3]:=G b O l y nf;rw[show h'.get? b∣ob from z]at Q;cases Q;show e3
 .let y:b≠a:=λy=>ab (y▸sub b i)
  rw[bS y];show SF b (sub b i)
abbrev ExH(a C:ku)(d:ZI):HO:= .ext λh=>∃o vs,h.get? a∣o/\o.cls= .ref C/\o.dict=d/\o.data= .fields vs
def ExH.ok{P:nY}(e:h.get? a∣o)(b:o.cls= .ref C)(c:o.dict=d)(f:o.data= .fields vs):
 cD P w H h a (ExH a C d):=
 %[%[o,vs,e,b,c|f],%[o|e]|λg i ⟨o,vs,e,r⟩ k=>%[o,vs,k o e|r]]
section
variable{X:Cx}{ij:ZE}{σ:St}{H:Hp}{s s':mu}
def GF(I:Qc X ij σ H s)(L:X.N.Nodup)(hi:X.N[i]?∣n)(N:X.env.kindOf n∣.local)
 (h:∀s',Qc X ij (σ.set i hV) H s'->Q () s'):tI M A (do bindName X.env n .none;Vt X.env n pos) Q E s:=by
 let%[m,O|T]:=id I.loc;let B:i<σ.length:=I.len▸(Xm hi).1;show wpAny_nameGoes_keeps N O (by rw[I.ok.kind];rfl) λh' v u a=>h _ ?_
 let f:∀b o,X.s₀.heap.get? b∣o->b≠X.env.locals:=λb o e=>Zs (Zg (Zu e) I.ok.above)
 show%[I.ok,I.os,I.bare,%[λb o e n w l=>?_,λb o e n w l=>?_,I.base.free,λb o e l=>?_,I.base.tups,I.base.frzs|I.base.tbls],%[_,u|λj y U g C Y=>?_],λy c e=>?_,I.free,I.freeC,λp hp=>?_,λb ob e=>?_|by simpa using I.len]
 .show(a.2 b (f b o e)).trans (I.base.keep b o e n w l)
 .let%[sl|g]:=I.base.slot b o e n w l;show%[sl|(a.2 b (f b o e)).trans g]
 .let%[o'|g]:=I.base.there b o e l;show%[o'|(a.2 b (f b o e)).trans g]
 .let G:j≠i:=λz=>by
   simp_all
  rw[QU (I0 G)]at C;let%[u',r'|q]:=T j y U g C Y;show%[u',r'|?_];rcases q with⟨k,e⟩|⟨k,c,e,z⟩
  .show .inl %[k|?_];let:y≠n:=λe=>G (jt L g (e▸hi))
   simp[this,e]
  .show .inr %[k,c,e|z.sameBut a (I.cne y c e)]
 .let%[J|z]:=I.cell y c e;show%[J|z.sameBut a (I.cne y c e)]
 .let%[e,n,ne,nf|d]:=I.pin p hp;show%[(a.2 p.1 ne).trans e,n,ne,nf|d]
 .show(I.hok b ob e).stay (λc J r q=>(a.2 c ?_).trans q) (λ_ q=>q) λ_ _ q=>q
  rintro rfl;rcases r with rfl|r
  .rw[I.free]at e;cases e
  .rw[I.free]at r;cases r
end
section
variable{M:Model}{A:wh}{E:ZD}{s:mu}{K:ZA}{D C e:ku}{oe:Ob}{b:ri}{Q:ri->mu->Prop}
def DR(X:K.In s.heap)(i:V9 K (.ref D)∣.type "type")(j:Rs K (.ref D) (.type "BaseException")∣hY)(d:(K.lookup D).any (λo=>match o.data with| .cls _=>hY|_=>iv)=hY)
 (l:s.heap.get? e∣oe) (m:oe.cls= .ref C) (n:Rs K (.ref C) (.ref D)∣b) (f:Q b s):tI M A (excMatches (.ref e) (.ref D)) Q E s:=by
 let%[g,p|c]:=QM d;show Z2 (Z2 ((PySem.W.looks_typeIn X i).here ?_));rw[tc_notTuple];show Z3 (Z2 (Z3 ?_));let a:∃h,g.data= .cls h:=by
  revert c
  cases g.data<;> intro c<;> first|show⟨_,rfl⟩|cases c
 let%[h|a]:=a;let LT:RK M s.heap (Pu (.ref e)) _:=λq u v s' k r=>by
  show Z2 (P5 (k _ _ l) (Z3 (m▸r)))
 show Z2 (Z2 (Z2 (Z2 (Z2 (P5 (X _ _ p) (Z3 ?_))))));rw[a,lX rfl];show(Tj X j).here (Z3 (Z3 (Z2 (LT.here (Z2 (Z2 (Z2 ((Tj X n).here ?_))))))));cases b with
 | true=>
   show Z3 (Z3 (Z3 f))
 | false=>
   show Z3 (Z3 (Z3 f))
end
noncomputable abbrev Cx.suiteX(X:Cx)(a:ku):Cx:={X with A:=X.A.mark (hX (.ref a)),calm:=iv,xe:=λ_ _=>J5}
section
variable{X:Cx}{ij pins' pn:ZE}{σ:St}{H:Hp}{s:mu}{E:ZD}
def Lu(ok:X.Ok)(pn:hH _)(E:ZD):({X with pn:=pn,xe:=E}).Ok:=
 %[ok.mod,ok.kind,ok.glob,ok.blt,ok.above,ok.inj,ok.has,ok.cab,ok.hd,ok.frames,ok.stk,ok.exf,ok.bs,ok.bsz,ok.noex,ok.exfs,ok.funs|ok.frf]
def unPn(ok:({X with pn:=pn,xe:=E}).Ok):X.Ok:=
 %[ok.mod,ok.kind,ok.glob,ok.blt,ok.above,ok.inj,ok.has,ok.cab,ok.hd,ok.frames,ok.stk,ok.exf,ok.bs,ok.bsz,ok.noex,ok.exfs,ok.funs|ok.frf]
def Qc.toPn(I:Qc X ij σ H s)(E:ZD):Qc ({X with pn:=X.pn++ij,xe:=E}) [] σ H s:=
 %[Lu I.ok _ E,I.os,I.bare,I.base,I.loc,I.cell,I.free,I.freeC,λp a=>I.pin p ↑a,I.hok|I.len]
def Qc.ofPn(I:Qc ({X with pn:=X.pn++ij,xe:=E}) pins' σ H s):Qc X ij σ H s:=
 %[unPn I.ok,I.os,I.bare,I.base,I.loc,I.cell,I.free,I.freeC,λp a=>I.pin p (Yu _ a),I.hok|I.len]
def Qc.toSuite(I:Qc X ij σ H s)(a:ku):Qc (X.suiteX a) ij σ H s:=
 %[%[I.ok.mod,I.ok.kind,I.ok.glob,I.ok.blt,I.ok.above,I.ok.inj,I.ok.has,I.ok.cab,(λz=>ri.noConfusion z),I.ok.frames,I.ok.stk,I.ok.exf,I.ok.bs,I.ok.bsz,I.ok.noex,I.ok.exfs,I.ok.funs|I.ok.frf],I.os,I.bare,I.base,I.loc,I.cell,I.free,I.freeC,I.pin,I.hok|I.len]
def Qc.ofSuite(I:Qc (X.suiteX a) ij σ H s)(ok:X.Ok):Qc X ij σ H s:=%[ok,I.os,I.bare,I.base,I.loc,I.cell,I.free,I.freeC,I.pin,I.hok|I.len]
def SP.ofPn{D:jr}(h:SP ({X with pn:=X.pn++ij,xe:=E}:Cx) [] D f s):SP X ij D f s:=by
 cases f with
 | next=>have%[a,b,I|q]:=h;show%[a,b,I.ofPn|q]
 | brk=>have%[a,b,I|q]:=h;show%[a,b,I.ofPn|q]
 | cont=>have%[a,b,I|q]:=h;show%[a,b,I.ofPn|q]
 | ret u=>have%[v,a,b,I,r|q]:=h;show%[v,a,b,I.ofPn,r|q]
end
abbrev jr.gone(D:jr)(i:jg):jr:={nx:=λa H=>D.nx (a.set i hV) H,rt:=D.rt,bk:=λa H=>D.bk (a.set i hV) H,ct:=λa H=>D.ct (a.set i hV) H}
structure Cat (K:ZA) (D:ku):Prop where
 ty:V9 K (.ref D)∣.type "type"
 ex:Rs K (.ref D) (.type "BaseException")∣hY
 cd:(K.lookup D).any (λo=>match o.data with| .cls _=>hY|_=>iv)=hY
structure GG (K:ZA) (C:ku) (f:lp):Prop where
 ga:MT K (.ref C) "__getattribute__"=hX (hX (.builtin "BaseException.__getattribute__"))
 hk:MT K (.ref C) "__getattr__"=hX hV
 sub:Rs K (.ref C) (.type "BaseException")∣hY
 no:MT K (.ref C) f∣hV
 hd:Pf K C=hY
section
variable{prog:Program}{w:World}{A:Around}{E:ZD}{s:Shared}
variable{K:ZA}{x C:ku}{name:lp}{v:kj}{ox:Ob}{od:lx Ob}
def JM(X:K.In s.heap)(I:PySem.W.InstAt s.heap x ox C od)(c:GG K C name)(d:findObj K C od name∣.value v)(f:XT v=hY)
 (h:Q v {s with toks:=s.toks+1}):↥A (WB (.ref x) name a) Q E s:=by
 let b:RK (Nf prog w) s.heap (Pu (.ref x)) (.ref C):=I.type;let sub:RK (Nf prog w) s.heap (Sh (.ref x) (.type "BaseException")) hY:=b.andThen (Tj X c.sub);let g:=looks_find (M:=Nf prog w) X I d;let S:=PySem.F.excAttr_ValueError.ga;show Z2 (wpAny_mkText (vu (Z2 (b _ _ _ _ (λ_ _ e=>e) (Z2 (SE X c.ga _ _ _ _ (λ_ _ e=>e) ?_))))));dsimp only;rw[show(UD (m4 C)&&No "BaseException.__getattribute__"==No "object.__getattribute__")=iv from by rw[show(No "BaseException.__getattribute__"==No "object.__getattribute__")=iv from !0,Ni],kw (!1)];show Z2 (looks_hook X (mc:= .ref C) (r:=hV) (c.hk) _ _ _ _ (λ_ _ e=>e) (Z2 (NB (vu ?_))));unfold W4;rw[show(a&&UD (No _))=iv from Ni _,kw (!1)];unfold boundAndCalled;rw[S.bind];show Oc ?_;show Oe S.plain PySem.F.entry_bexc_ga ?_;show @Wf _ _ _ _ _ _ "__getattribute__" _ _ [] _ (!0) (!0) sub (PySem.F.args_bexc_ga _ _) ?_;show Z2 (Z3 (Z2 (Z3 (Z2 (Qm b (Z2 (Qm g (Z3 ?_))))))));change tI _ _ (handedOut v) _ _ _;rw[PySem.W.handedOut_of f];show Z3 h
end
abbrev HM(C:ku)(c:TE)(f:lp):TE:=λe H Q=>c e H λx b=>∃a d fs v,x= .ref a/\b a∣ExH a C (hX d)/\b d∣.xd fs/\fs.lookup f∣v/\Q v b
def GH{X:Cx}(c:GG X.K C f)(n:PE X e p)(w:Nj e f X.env (MZ e X.env)=MZ e X.env):PE X (.Attribute e f pos) (HM C p f):=by
 intro ij s y H Q I h;show zW w (thP (n ij s y H _ I h) λu U x z b A ⟨a,d,fs,v,ex,B,E,l,q⟩=>?_);subst ex;obtain rfl:u=m4 a:=A;let%[%[o,vs,G,g,i|j]|_]:=b.hok a _ B;let%[Y,n1|r]:=b.hok d _ E;let%[uv,J|m]:=io.some_of (l▸r f);let%[od,L|M]:=sw n1;let%[oc,N,O|T]:=o;dsimp only at g i j;subst g i j;show JM b.kIn %[G,rfl,rfl|L] c (findObj_own c.hd c.no rfl (by rw[M,J])) (sA m) %[v,z,b.tok _,m|q]
structure XIs (K:ZA) (C:ku):Prop where
 ga:MT K (.ref C) "__getattribute__"=hX (hX (.builtin "BaseException.__getattribute__"))
 hk:MT K (.ref C) "__getattr__"=hX hV
 sub:Rs K (.ref C) (.type "BaseException")∣hY
 hd:Pf K C=hY
 cl:MT K (.ref C) "__class__"=hX (hX (.builtin "object.__class__"))
 gt:S3 K (.builtin "object.__class__") "__get__"=hX (hX (.builtin "getset_descriptor.__get__"))
 tk:takesIn K (.builtin "object.__class__")∣hY
 ob:mroIn K C (.type "object")∣hY
section
variable{prog:Program}{w:World}{A:Around}{E:ZD}{s:Shared}
variable{K:ZA}{x C:ku}{ox:Ob}{od:lx Ob}
def JN(X:K.In s.heap)(I:PySem.W.InstAt s.heap x ox C od)(c:XIs K C)(h:Q (hX (.ref C)) {s with toks:=s.toks+1}):↥A (getAttr? (.ref x) "__class__") Q E s:=by
 let a:RK (Nf prog w) s.heap (Pu (.ref x)) (.ref C):=I.type;let sub:RK (Nf prog w) s.heap (Sh (.ref x) (.type "BaseException")) hY:=a.andThen (Tj X c.sub);let b:findObj K C od "__class__"=hX (.bind (.builtin "getset_descriptor.__get__") (.builtin "object.__class__")):=by
  let%[g,d|_]:=QM c.hd;unfold findObj;rw[d,RR,c.cl,RR];dsimp only;rw[c.gt,RR];dsimp only;rw[c.tk,RR]
 let f:=looks_find (M:=Nf prog w) X I b;let S:=PySem.F.excAttr_ValueError.ga;unfold getAttr? getAttrBy? getAttrBy;show Z2 (wpAny_mkText (Z2 (NB (vu (Z2 (a _ _ _ _ (λ_ _ e=>e) (Z2 (SE X c.ga _ _ _ _ (λ_ _ e=>e) ?_))))))));dsimp only;rw[show(UD (m4 C)&&No "BaseException.__getattribute__"==No "object.__getattribute__")=iv from by rw[show(No "BaseException.__getattribute__"==No "object.__getattribute__")=iv from !0,Ni],kw (!1)];show Z2 (looks_hook X (mc:= .ref C) (r:=hV) (c.hk) _ _ _ _ (λ_ _ e=>e) (Z2 (NB (vu ?_))));unfold W4;rw[show(iv&&UD (No "BaseException.__getattribute__"))=iv from rfl,kw (!1)];unfold boundAndCalled;rw[S.bind];show Z2 (Z3 ?_);change tI _ _ (call (.builtin "BaseException.__getattribute__") _) _ _ _;show Oc ?_;show Oe S.plain PySem.F.entry_bexc_ga ?_;show @Wf (Nf prog w) _ _ {s with toks:=s.toks+1} _ "BaseException" "__getattribute__" (.ref x) [.str "__class__" s.toks] [] _ (!0) (!0) sub (PySem.F.args_bexc_ga (.ref x) (.str "__class__" s.toks)) ?_;show Z2 (Z3 (Z2 (Z3 (Z2 (Qm a (Z2 (Qm f (Z2 (vu (Oc (PySem.W.class_get (ox:=ox) (od:=od) X I c.ob (Z3 (Z3 (Z3 h))))))))))))))
set_option tactic.hygienic true in
def GI(c:XIs K C):KitX K (.ref x) (.ref C) (λh=>∃ox od,PySem.W.InstAt h x ox C od) where
 ty:=λ_ _ _ ⟨_,_,I⟩=>I.type
 it:=λ_ _ X _=>by
  let%[cdD,hcD|_]:=QM c.hd;unfold clsIn at hcD
  split at hcD
  .rename_i c' d' cd' sl' ho
   intro A' Q' E' s' k q;show Z2 (P5 (k _ _ (X _ _ ho)) (Z3 q))
  .cases hcD
 ne:=λh tp dd its n sl X htp=>by
  let%[cdD,hcD|_]:=QM c.hd;show RX.mpr λq=>?_
  let e:=UI (NM.mp q);subst e;unfold clsIn at hcD
  split at hcD
  .rename_i c' d' cd' sl' ho
   let z:=(X _ _ ho).symm.trans htp;cases z
  .cases hcD
 ca:=λX ⟨_,_,I⟩ k=>JN X I c k
end
abbrev Held(H:Hp)(a C:ku):Prop:=∃d,H a∣ExH a C d/\(d=hV\/∃b fs,d∣b/\H b∣.xd fs)
inductive TyX (K:ZA) (H:Hp):V->kj->Prop where
 | non:TyX K H .non (.type "NoneType")
 | ex {a C:ku} (h:Held H a C) (c:XIs K C):TyX K H (.ref a) (.ref C)
section
variable{X:Cx}{ij:ZE}{σ:St}{H:Hp}{s:Shared}
def TyX.kit(ty:TyX X.K H x t)(I:Qc X ij σ H s)(r:aX x u):∃f:xl->Prop,KitX X.K u t f/\f s.heap/\u≠ .builtin "__main__.__loader__#opaque":=by
 cases ty with
 | non=>
   cases(r);show%[_,kitx_none,MQ|λz=>nomatch z]
 | @ex a C h c=>
   cases(r);let%[d,j|l]:=h;let%[%[o,vs,e,g,b|i]|_]:=I.hok a _ j;let%[y,m,n|p]:=o;dsimp only at g b i;subst g b i;show%[_,GI c,?_|λz=>nomatch z];rcases l with rfl|⟨q,fs,rfl,v⟩
   .show%[_,hV,e,ρ,ρ|trivial]
   .let%[od|w]:=(I.hok q _ v).there;show%[_,hX od,e,ρ,ρ|w]
end
def tH:∀{a:hH ku} {us:ZF},aM (a.map V.ref) us->us=a.map m4
 |[],_,.nil=>rfl
 | _::_,_,.cons r t=>by
   cases r;rw[tH t];rfl
def DS{X:Cx}:cE X (.builtin "isinstance") (λxs H Q=>∃x y t b,xs=[x,y]/\TyX X.K H x t/\
 ((∃n,y= .ty n/\Pe X.K t (.type n)∣b)\/(∃D,y= .ref D/\Pe X.K t (.ref D)∣b)\/∃c d,y= .ref c/\H c&&&RT V.ref d/\T0 X.K t (d.map m4)∣b)/\Q (.bl b) H):=by
 intro ij s B H xs us Q I r h;let%[x,y,t,b,rfl,ty,f|q]:=h;let%[u,C,rfl,g|a]:=lq r;let%[E,Z,p|nb]:=ty.kit I g;rcases f with⟨n,rfl,e⟩|⟨D,rfl,e⟩|⟨c,d,rfl,i,e⟩
 .cases(a);show OZ Z I.kIn p e nb λtk=>%[.bl b,H,I.tok tk,rfl|q]
 .cases(a);show OZ Z I.kIn p e nb λtk=>%[.bl b,H,I.tok tk,rfl|q]
 .cases(a);let%[_,its,j,o,l,m,n|v]:=I.hok c _ i;let:=tH j;subst this;let%[G,w,z|A]:=o;subst m v;show PySem.W.kia_tup Z I.kIn p l e nb λtk=>%[.bl b,H,I.tok tk,rfl|q]
def JO{X:Cx}{D:ku}(b:Gl X x)(c:X.mg x∣.ref D)(a:(x==("__debug__":lp))=iv):PE X (.Name x p) (λd H Q=>Q (.ref D) H):=λij s d H Q I h=>
 iO I b c %[.ref D,H,I,rfl|h] a
def Fun.okX{P:nY}{K:ZA}{st:zr}(F:Fun K x b st f g)(S:au N ps (ao st))(len:∀vs H Q E,sp vs H Q E-> ~~~vs= ~~~ps)
 (c:∀(a:kj) (A:wh) (outer:hH Env) (s:mu) (H:Hp) (vs:hH V) (Q:VK) (E:XK),bG k (A.deeper (Ng b (ao st) ⇑s f a))->sp vs H Q E->
  ∃t,PSs (fS (CXO P w) P w K mg base N b (ao st) f a A outer s H E) (bM st) t/\t {nx:=λ_ h=>Q .non h,rt:=Q} (start N vs) H):eQ P w K mg base (CXO P w) (k+1) f g ps sp:=by
 let%[m,od,kV,i,n,o,a,ct,j,rfl,lk|d]:=F.ex;show HC lk d S len λA outer s H vs Q E l e=>c a A outer s H vs Q E l e
abbrev aG(mg:ZC)(x:lp):ku:=match mg x with
 | hX (.ref C)=>C
 | _=>0
def dZ(h:mg x∣.ref C):aG mg x=C:=by unfold aG;rw[h]
structure DT (K:ZA) (mg:ZC) (x qual:lp) (st:zr) (ps:ZB):Prop where
 at_:mg x∣.ref (aG mg x)
 is:XIs K (aG mg x)
 ini:∃f fd,MkX K (aG mg x) f/\Fun K "__init__" qual st f fd/\dW K fd ps []
structure ve (P:nY) (w:v0) (K:ZA) (mg:ZC) (base:xl) (k:jg) (x:lp) (ps:ZB) (sp:Sp):Prop where
 ex:∃f fd,eQ P w K mg base (CXO P w) k f fd ps sp/\mg x∣.ref f/\OF K (.ref f)=hY/\dW K fd ps []
structure JP (P:nY) (w:v0) (K:ZA) (mg:ZC) (base:xl) (k:jg) (x:lp) (ps:ZB) (sp:Sp):Prop where
 ex:∃f fd,eQ P w K mg base CX0 k f fd ps sp/\MkX K (aG mg x) f/\mg x∣.ref (aG mg x)/\dW K fd ps []
section
variable{P:nY}{w:v0}{K:ZA}{mg:ZC}{base:xl}{x qual:lp}{st:zr}{N ps:ZB}{k:jg}{sp:Sp}
def aD.calX(D:aD K mg x st ps)(S:au N ps (ao st))
 (a:∀(H:Hp) (vs:hH V) (Q:VK) (E:XK),sp vs H Q E-> ~~~vs= ~~~ps/\∀(f:ku) (b:kj) (A:wh) (outer:hH Env) (s:mu),bG k (A.deeper (Ng x (ao st) ⇑s f b))->
  ∃t,PSs (fS (CXO P w) P w K mg base N x (ao st) f b A outer s H E) (bM st) t/\t {nx:=λ_ c=>Q .non c,rt:=Q} (start N vs) H):ve P w K mg base (k+1) x ps sp:=by
 let%[f,d,F,e|g]:=D.ex;show%[f,d,F.okX S (λv H Q E h=>(a H v Q E h).1) (λb A o s H v Q E r h=>(a H v Q E h).2 f b A o s r),e,F.kp|g]
def DT.cal(D:DT K mg x qual st ps)(S:au N ps (ao st))(len:∀vs H Q E,sp vs H Q E-> ~~~vs= ~~~ps)
 (b:∀(f:ku) (a:kj) (A:wh) (outer:hH Env) (s:mu) (H:Hp) (vs:hH V) (Q:VK) (E:XK),exK K (aG mg x) f=hY->bG k (A.deeper (Ng qual (ao st) ⇑s f a))->sp vs H Q E->
  ∃t,PSs (fS CX0 P w K mg base N qual (ao st) f a A outer s H E).nox (bM st) t/\t {nx:=λ_ c=>Q .non c,rt:=Q} (start N vs) H):JP P w K mg base (k+1) x ps sp:=by
 let%[f,d,M,F|e]:=D.ini;show%[f,d,F.ok S len λa A outer s H vs Q E=>b f a A outer s H vs Q E M.ex,M,D.at_|e]
end
section
variable{X:Cx}{K:ZA}{pos:Pos}
def Ag(g:iQ (CXO X.prog X.w) X E)(C:ve X.prog X.w X.K X.mg X.base j x ps sp)(h:bG k X.A)(i:Gl X x)(a:Qw j k=hY)
 (b:(x==("__debug__":lp))=iv) (c:(e::d).any aV=iv) (l:QA X (e::d) t):QE X (.Call (.Name x p) (e::d) [] pos) (sE sp [] E t):=by
 rw[Zw,X7]at c;let%[f,q,F,m,n|o]:=C.ex;show⟨zZ F (h.mono (Ye a)) i m n o .nil g l.h b (aB c.1) (dY c.2)⟩
def JQ(C:JP X.prog X.w X.K X.mg X.base j x ps sp)(g:bG k X.A)(h:Gl X x)(a:Qw (j+1) k=hY)
 (b:(x==("__debug__":lp))=iv) (c:(e::d).any aV=iv) (i:QA X (e::d) t):QE X (.Call (.Name x p) (e::d) [] pos) (y4 (aG X.mg x) sp t):=by
 rw[Zw,X7]at c;let%[f,n,F,M,l|m]:=C.ex;show⟨DP M F (g.mono (Ye a)) h l m i.h b (aB c.1) (dY c.2)⟩
def clsE(b:Gl X x)(c:X.mg x∣.ref (aG X.mg x))(a:(x==("__debug__":lp))=iv):QE X (.Name x p) (tC (.ref (aG X.mg x))):=⟨JO b c a⟩
def JR(a:QE X e b):QE X (.FormattedValue e (-1) hV pos) (JK b):=⟨JL a.h⟩
def DU:PJ X [] []:= .nil
def pjE(a:QE X e t)(h:PJ X b ts):PJ X (e::b) (t::ts):= .cons a.h h
def DV{rest:hH yu}(h:PJ X (v1::a::rest) ts):QE X (.JoinedStr (v1::a::rest) pos) (pH ts Mi):=⟨GE h⟩
def DW(c:GG X.K C f)(a:iT e=iv)(b:QE X e d):QE X (.Attribute e f pos) (HM C d f):=⟨GH c b.h (gQ a)⟩
def Lv(c:JJ X.K C f)(b:gP e=iv)(d:QE X o g)(h:QE X e i):QS X (.Assign [.Attribute o f a] e pos) (HL X.K C g i f):=⟨GD c d.h h.h (jy b)⟩
def HN(h:X.K=K):cF X (.builtin "isinstance") (λxs H Q=>∃x y t b,xs=[x,y]/\TyX K H x t/\
 ((∃n,y= .ty n/\Pe K t (.type n)∣b)\/(∃D,y= .ref D/\Pe K t (.ref D)∣b)\/∃a c,y= .ref a/\H a&&&RT V.ref c/\T0 K t (c.map m4)∣b)/\Q (.bl b) H):=by
 subst h;show⟨DS⟩
end
def JS{P:nY}{K:ZA}
 (g:exK K C f=hY) (h:QE (fS (CXO P w) P w K mg base N c b i j A outer s₀ H₀ E) e l):
 QS (fS (CXO P w) P w K mg base N c b i j A outer s₀ H₀ E) (.Raise (hX e) hV pos) (vb C l λa H=>∃d,H a∣ExO a C (hX d)/\H₀ a=hV/\E (.ref C) (hX d) (drop H a)):=⟨BS g h.h⟩
def JT{X:Cx}{C D f:ku}(l:exK X.K C f=hY)(m:Gl X x)(n:X.mg x∣.ref D)(B:DM X.K D)(g:(x==("__debug__":lp))=iv)(h:(e::c).any aV=iv)
 (i:∃pl:Sem ri,MZ (.Call (.Attribute (.Name x p) "__init__" b) (e::c) [] pos) X.env=(do
  let j<-MZ (.Name x p) X.env
  Pk b.atName
  let(f,first)<-PF [j] (QK j "__init__" pl)
  T4 pos f first (Nt pos (vi (e::c) X.env)) (Qh pos (Od [] X.env)))) (o:QA X (e::c) t):
 QE X (.Call (.Attribute (.Name x p) "__init__" b) (e::c) [] pos) (tCB (λxs H Q=>∃a d ys,xs=V.ref a::ys/\ ~~~ys<=9/\H a∣ExO a C d/\Q .non H) t):=by
 rw[Zw,X7]at h;let%[pl|i]:=i;show⟨DN m n B (yZ l) o.h g (aB h.1) (dY h.2) i⟩
section
variable{prog:Program}{w:World}{A:Around}{E:ZD}{s:Shared}
end
abbrev clo(c:TE):TE:=λd H Q=>∃a:VK,c d H a/\∀v b,a v b->Q v b
def JU{X:Cx}(h:PE X e b):PE X e (clo b):=λij s c H Q I ⟨d,q,k⟩=>
 thP (h ij s c H d I q) λ_ _ v a f r z=>%[v,a,f,r|k v a z]
def JV{X:Cx}(h:PE X e t)(k:∀a H Q,t' a H Q->t a H Q):PE X e t':=λij s a H Q I q=>h ij s a H Q I (k a H Q q)
def DX(h:H r=hV):drop (Qa H r o) r=H:=by
 funext b;unfold drop Qa
 simp_all
section
end
end _LL
namespace _SB
open PySem PyProof.Rows
section
variable(prog:nY)(w:v0)(A:wh)(SI:mu->Prop)
abbrev SC{a:Type}(m:J6 nX Sem a)(Q:a->nX->Prop)(st:nX):Prop:=
 ∀s,SI s->↥A (m.run st) (λr s'=>SI s'/\Q r.1 r.2) (λ_ _=>J5) s
nonrec abbrev ZY:=on Nq
abbrev Cmp(a:T8)(D:Nq->Prop):Prop:=
 ∀x y s,D x->D y->SI s->↥A (keyLt' a x.1 y.1) (λ_ s'=>SI s') (λ_ _=>J5) s
end
section
variable{prog:nY}{w:v0}{A:wh}{SI:mu->Prop}{α β:Type}
def aw{st:nX}(h:Q a st):(SC prog w A SI) (pure a) Q st:=λs b=>by
 show Z3 %[b|h]
def ar{st:nX}(h:(SC prog w A SI) m (λa b=>(SC prog w A SI) (f a) Q b) st):(SC prog w A SI) (m>>= f) Q st:=λs c=>by
 show Z2 (Mz (h s c) (λr s' h'=>h'.2 s' h'.1) λ_ _ e=>e)
def cH{st:nX}(h:(SC prog w A SI) m Q st)(c:∀a b,Q a b->d a b):(SC prog w A SI) m d st:=λs f=>
 Mz (h s f) (λr s' h'=>%[h'.1|c _ _ h'.2]) λ_ _ e=>e
def iu{st:nX}(h:Q st st):(SC prog w A SI) get Q st:=λs a=>by
 show Z3 %[a|h]
def c8{st:nX}(h:Q ⟨⟩ (f st)):(SC prog w A SI) (UX f) Q st:=λs a=>by
 show Z3 %[a|h]
def JW{st:nX}(h:Q ⟨⟩ x):(SC prog w A SI) (set x) Q st:=λs a=>by
 show Z3 %[a|h]
def Ah{st:nX}(h:∀s,SI s->↥A m (λa s'=>SI s'/\Q a st) (λ_ _=>J5) s):(SC prog w A SI) (liftM m:J6 nX Sem α) Q st:=λs b=>by
 show Z2 (Mz (h s b) (λa s' h'=>Z3 h') λ_ _ e=>e)
def jW{st:nX}(h:Q () st):(SC prog w A SI) (liftM (Ru t):J6 nX Sem SK) Q st:=Ah λs a=>OB %[a|h]
def b7{st:nX}(I:jg->β->nX->Prop)(j:a<=b)(p:I a c st)
 (l:∀i x st,a<=i->i<b->I i x st->(SC prog w A SI) (f i x) (λr g=>match r with| .done y=>Q y g| .yield y=>I (i+1) y g) st) (m:∀x st,I b x st->Q x st):(SC prog w A SI) (forIn [a:b] c f) Q st:=by
 let q:∀d i x st,i+d=b->a<=i->I i x st->(SC prog w A SI) (forIn (hH.range' i d 1) x f) Q st:=by
  intro d
  induction d with
  | zero=>
    intro i x st e _ h;subst e;show aw (m x st h)
  | succ d n=>
    intro i x st e o h;rw[hH.range'_succ,Sj];show ar (cH (l i x st o ⋯ h) λr g h'=>?_);cases r with
    | done y=>show aw h'
    | yield y=>show n _ y g ⋯ ⋯ h'
 simp_all
def bn{st:nX}(a:xs[i]?∣x)(h:Q x st):(SC prog w A SI) (OP xs i) Q st:=by
 rw[elem'_eq,a];show aw h
def wD{st:nX}(c:Cmp prog w A SI (kindOf st) D)(d:D x)(f:D y)(h:∀b,Q (hX b) st):(SC prog w A SI) (lt' x y) Q st:=
 ar (iu (ar (Ah (λs g=>NB (Mz (c x y s d f g) (λb s' a=>%[a|aw (h b)]) λ_ _ e=>e.elim)))))
def GJ{st:nX}(c:Cmp prog w A SI (kindOf st) D)(hi:(sk st)[i]?∣x)(a:(sk st)[j]?∣y)(d:D x)(e:D y)
 (h:∀b,Q (hX b) st):(SC prog w A SI) (WA i j) Q st:=
 ar (iu (ar (bn hi (ar (bn a (wD c d e h))))))
end
abbrev gY:ri->Nq->ZY->jg->jg->jg->J6 nX Sem (lx jg):=sortPriv% PySem.Builtin.gallop
section
variable{prog:nY}{w:v0}{A:wh}{SI:mu->Prop}{α β:Type}
abbrev ga0(left:ri)(a:Nq)(b:ZY)(base i:jg):J6 nX Sem (lx ri):=do
 let x<-OP b (base+i)
 if left=hY then lt' x a else do
  let y<-lt' a x
  pure (y.map (!·))
abbrev gaM(f:jg->J6 nX Sem (lx ri))(x:lx (lx jg)×jg×jg):J6 nX Sem (rM (lx (lx jg)×jg×jg)):=
 if x.2.1>=x.2.2 then pure (.done (hV,x.2.1,x.2.2))else do
  match<-f (x.2.1+(x.2.2-x.2.1)/2)with
  | some w=>if w=hY then pure (.yield (hV,x.2.1+(x.2.2-x.2.1)/2+1,x.2.2))else pure (.yield (hV,x.2.1,x.2.1+(x.2.2-x.2.1)/2))
  | _=>pure (.done (hX hV,x.2.1,x.2.2))
abbrev ga3(f:jg->J6 nX Sem (lx ri))(n lo hi:jg):J6 nX Sem (lx jg):=do
 let x<-forIn [0:n] (hV,lo,hi) λ_ x=>gaM f x
 match x.1 with
 | some r=>pure r
 | none=>pure (hX x.2.2)
abbrev ga1(f:jg->J6 nX Sem (lx ri))(n hint:jg)(x:lx (lx jg)×jg×jg):J6 nX Sem (rM (lx (lx jg)×jg×jg)):=
 if x.2.2>=n-hint then pure (.done (hV,x.2.1,x.2.2))else do
  match<-f (hint+x.2.2)with
  | some w=>if(!w)=hY then pure (.done (hV,x.2.1,x.2.2))else pure (.yield (hV,x.2.2,2*x.2.2+1))
  | _=>pure (.done (hX hV,x.2.1,x.2.2))
abbrev ga2(f:jg->J6 nX Sem (lx ri))(hint:jg)(x:lx (lx jg)×jg×jg):J6 nX Sem (rM (lx (lx jg)×jg×jg)):=
 if x.2.2>=hint+1 then pure (.done (hV,x.2.1,x.2.2))else do
  match<-f (hint-x.2.2)with
  | some w=>if w=hY then pure (.done (hV,x.2.1,x.2.2))else pure (.yield (hV,x.2.2,2*x.2.2+1))
  | _=>pure (.done (hX hV,x.2.1,x.2.2))
set_option smartUnfolding false in
def Lw(left:ri)(a:Nq)(b:ZY)(base n hint:jg):gY left a b base n hint=(do
 match<-ga0 left a b base hint with
 | some w=>
   if w=hY then(do
    let x<-forIn [0:n] (hV,0,1) λ_ x=>ga1 (ga0 left a b base) n hint x
    match x.1 with
    | some r=>pure r
    | none=>ga3 (ga0 left a b base) n (hint+x.2.1+1) (hint+min x.2.2 (n-hint)))
   else(do
    let x<-forIn [0:n] (hV,0,1) λ_ x=>ga2 (ga0 left a b base) hint x
    match x.1 with
    | some r=>pure r
    | none=>ga3 (ga0 left a b base) n (hint+1-min x.2.2 (hint+1)) (hint-x.2.1))
 | _=>pure hV):=rfl
def y6{f:lx (lx jg)×jg×jg->J6 nX Sem (rM (lx (lx jg)×jg×jg))}{g:lx (lx jg)×jg×jg->J6 nX Sem (lx jg)}{n l h:jg}{Q:lx jg->nX->Prop}{st:nX}(P:jg->Prop)(b:P h)
 (c:∀l h (R:rM _->nX->Prop),P h->(∀l h,P h->R (.done (hV,l,h)) st/\R (.yield (hV,l,h)) st)->(SC prog w A SI) (f (hV,l,h)) R st) (d:∀l h,P h->(SC prog w A SI) (g (hV,l,h)) Q st):
 (SC prog w A SI) (do let x<-forIn [0:n] (hV,l,h) λ_ x=>f x;g x) Q st:=by
 show ar (cH (b7 (Q:=λx a=>a=st/\∃l h,x=(hV,l,h)/\P h) (λ_ x a=>a=st/\∃l h,x=(hV,l,h)/\P h) (Xf _) %[rfl,_,_,rfl|b] ?_ λ_ _ h=>h) ?_)
 .intro _ _ _ _ _ %[rfl,l,h,rfl|p];show c l h _ p λl h p=>%[%[rfl,_,_,rfl|p],rfl,_,_,rfl|p]
 .intro _ _ %[rfl,l,h,rfl|p];show d l h p
def fH{D:Nq->Prop}{left:ri}{a:Nq}{d:ZY}{base n hint:jg}{Q:lx jg->nX->Prop}{st:nX}(c:Cmp prog w A SI (kindOf st) D)(f:D a)
 (p:∀i,i<n->∃x,d[base+i]?∣x/\D x) (q:hint<n) (h:∀k,k<=n->Q (hX k) st):(SC prog w A SI) (gY left a d base n hint) Q st:=by
 let ask:∀(i:jg) (R:lx ri->nX->Prop),i<n->(∀b,R (hX b) st)->(SC prog w A SI) (ga0 left a d base i) R st:=λi R hi g=>by
  let%[x,r|j]:=p i hi;show ar (bn r ?_);cases left
  .show ar (wD c f j λ_=>aw (g _))
  .show wD c j f g
 let m:∀l o,o<=n->(SC prog w A SI) (ga3 (ga0 left a d base) n l o) Q st:=λl o e=>by
  show y6 (·<=n) e (λl o R e k=>?_) λl o e=>aw (h o e)
  unfold gaM;dsimp only
  split
  .show aw (k _ _ e).1
  .show ar (ask _ _ ⋯ λb=>?_);cases b
   .show aw (k _ _ ⋯).2
   .show aw (k _ _ e).2
 rw[Lw];show ar (ask hint _ q λb=>?_);cases b
 .show y6 (λ_=>Pr) ⟨⟩ (λl o R _ k=>?_) λl o _=>m _ _ ⋯
  unfold ga2;dsimp only
  split
  .show aw (k _ _ ⟨⟩).1
  .show ar (ask _ _ ⋯ λb=>?_);cases b
   .show aw (k _ _ ⟨⟩).2
   .show aw (k _ _ ⟨⟩).1
 .show y6 (λ_=>Pr) ⟨⟩ (λl o R _ k=>?_) λl o _=>m _ _ ⋯
  unfold ga1;dsimp only
  split
  .show aw (k _ _ ⟨⟩).1
  .show ar (ask _ _ ⋯ λb=>?_);cases b
   .show aw (k _ _ ⟨⟩).1
   .show aw (k _ _ ⟨⟩).2
end
abbrev pJ:ZY->ZY->J6 nX Sem ZY:=sortPriv% PySem.Builtin.mergeLo
abbrev pK:ZY->ZY->J6 nX Sem ZY:=sortPriv% PySem.Builtin.mergeHi
abbrev dE:jg->J6 nX Sem SK:=sortPriv% PySem.Builtin.setMinGallop
def iF(g:jg):dE g=UX (λs=>Ui (kindOf s) (sk s) (q7 s) g (NL s)):=rfl
abbrev ei(a b r:ZY):Prop:=r.toList.Perm (a.toList++b.toList)
abbrev MI(a b out:ZY)(c d:jg):Prop:=(out.toList++(a.toList.drop c++b.toList.drop d)).Perm (a.toList++b.toList)
def fY(a:ZY)(i j:jg):(a.extract i j).toList=(a.toList.drop i).take (j-i):=by
 simp
def oN(a:ZY)(i:jg):(a.extract i a.size).toList=a.toList.drop i:=by
 rw[fY,Zn]
 simp_all
def oO(a:ZY)(i k:jg):(a.extract i (i+k)).toList=(a.toList.drop i).take k:=by
 simp
def MI.takeA{a b out:ZY}{c d:jg}(h:MI a b out c d)(k:jg):MI a b (out++a.extract c (c+k)) (c+k) d:=by
 unfold MI at h ⊢;rw[Xe,oO,Ze,<-Ze _ (a.toList.drop _),<-W2,Xb];show h
def MI.takeB{a b out:ZY}{d c:jg}(h:MI a b out d c)(k:jg):MI a b (out++b.extract c (c+k)) d (c+k):=by
 unfold MI at h ⊢;show PY ?_ h;rw[Xe,oO,Ze];show On _ ?_;show(N2 _ _ _).trans ?_;rw[<-W2,Xb]
def iX{a:ZY}{i:jg}(h:i<a.size)(out:ZY):out++a.extract i (i+1)=out.push a[i]:=by
 apply on.ext';rw[Xe,oO,Rq,Zy ↑h];rfl
def MI.done{a b out:ZY}{c d:jg}(h:MI a b out c d):ei a b (out++a.extract c a.size++b.extract d b.size):=by
 unfold ei;rw[Xe,Xe,oN,oN,Ze];show h
def MI.last{a b out:ZY}{c d:jg}(h:MI a b out c d):ei a b (out++b.extract d b.size++a.extract c a.size):=by
 unfold ei;rw[Xe,Xe,oN,oN,Ze];show(On _ QC).trans h
abbrev SG(st a:nX):Prop:=kindOf a=kindOf st/\sk a=sk st/\q7 a=q7 st/\NL a=NL st
def SG.refl(st:nX):SG st st:=%[rfl,rfl,rfl|rfl]
def SG.set{st a:nX}(h:SG st a)(g:jg):SG st (Ui (kindOf a) (sk a) (q7 a) g (NL a)):=h
def SG.trans{s t u:nX}(h:SG s t)(k:SG t u):SG s u:=%[k.1.trans h.1,k.2.1.trans h.2.1,k.2.2.1.trans h.2.2.1|k.2.2.2.trans h.2.2.2]
structure LC (prog:nY) (w:v0) (A:wh) (SI:mu->Prop) (D:Nq->Prop) (a b:ZY) (st:nX):Prop where
 c:Cmp prog w A SI (kindOf st) D
 DA:∀{i:jg} (hi:i<a.size),a[i]?∣a[i]/\D a[i]
 DB:∀{i:jg} (hi:i<b.size),b[i]?∣b[i]/\D b[i]
def LC.of{prog:nY}{w:v0}{A:wh}{d:mu->Prop}{D:Nq->Prop}{a b:ZY}{s t:nX}(C:LC prog w A d D a b s)(h:SG s t):LC prog w A d D a b t:={C with c:=h.1▸C.c}
section
variable{prog:nY}{w:v0}{A:wh}{SI:mu->Prop}{α β:Type}
structure ML (a b out:ZY) (ia ib:jg):Prop where
 mi:MI a b out ia ib
 na:ia+1<a.size
 nb:ib<b.size
abbrev lo3(a b out:ZY)(c d g k k1:jg):J6 nX Sem (rM (lx ZY×ZY×jg×jg×jg×jg×jg)):=OP a c>>= λe=>if(c+1+1==a.size)=hY then pure (.done (hX (out.push e++b.extract d b.size++a.extract (c+1) a.size),out.push e,c+1,d,g,k,k1))else if(decide (k<7)&&decide (k1<7))=hY then pure (.done (hV,out.push e,c+1,d,g,k,k1))else pure (.yield (hV,out.push e,c+1,d,g,k,k1))
abbrev lo2(a b out:ZY)(d c g k f:jg):J6 nX Sem (rM (lx ZY×ZY×jg×jg×jg×jg×jg)):=OP b c>>= λe=>if(c+1==b.size)=hY then pure (.done (hX (out.push e++a.extract d a.size++b.extract (c+1) b.size),out.push e,d,c+1,g,k,f))else OP a d>>= λh=>gY hY h b (c+1) (b.size-(c+1)) 0>>= fun|some k1=>if k1>0 then if(c+1+k1==b.size)=hY then pure (.done (hX (out.push e++b.extract (c+1) (c+1+k1) ++a.extract d a.size++b.extract (c+1+k1) b.size),out.push e++b.extract (c+1) (c+1+k1),d,c+1+k1,g,k,k1))else lo3 a b (out.push e++b.extract (c+1) (c+1+k1)) d (c+1+k1) g k k1 else lo3 a b (out.push e) d (c+1) g k k1|_=>pure (.done (hX (out.push e++a.extract d a.size++b.extract (c+1) b.size),out.push e,d,c+1,g,k,f))
abbrev lo1(a b out:ZY)(c d h f g:jg):J6 nX Sem (rM (lx ZY×ZY×jg×jg×jg×jg×jg)):=dE g>>= λ_=>OP b d>>= λe=>gY iv e a c (a.size-c) 0>>= fun|some k=>if k>0 then if(c+k+1==a.size)=hY then pure (.done (hX (out++a.extract c (c+k) ++b.extract d b.size++a.extract (c+k) a.size),out++a.extract c (c+k),c+k,d,g,k,f))else if(c+k==a.size)=hY then pure (.done (hX (out++a.extract c (c+k) ++a.extract (c+k) a.size++b.extract d b.size),out++a.extract c (c+k),c+k,d,g,k,f))else lo2 a b (out++a.extract c (c+k)) (c+k) d g k f else lo2 a b out c d g k f|_=>pure (.done (hX (out++a.extract c a.size++b.extract d b.size),out,c,d,g,h,f))
abbrev loI(a b out:ZY)(c d g f h:jg):J6 nX Sem (rM (lx ZY×ZY×jg×jg×jg×jg)):=OP b d>>= λi=>OP a c>>= λj=>lt' i j>>= fun|some w=>if w=hY then(OP b d>>= λe=>if(d+1==b.size)=hY then pure (.done (hX (out.push e++a.extract c a.size++b.extract (d+1) b.size),out.push e,c,d+1,0,h+1))else if h+1>=g then pure (.done (hV,out.push e,c,d+1,0,h+1))else pure (.yield (hV,out.push e,c,d+1,0,h+1)))else(OP a c>>= λe=>if(c+1+1==a.size)=hY then pure (.done (hX (out.push e++b.extract d b.size++a.extract (c+1) a.size),out.push e,c+1,d,f+1,0))else if f+1>=g then pure (.done (hV,out.push e,c+1,d,f+1,0))else pure (.yield (hV,out.push e,c+1,d,f+1,0)))|_=>pure (.done (hX (out++a.extract c a.size++b.extract d b.size),out,c,d,f,h))
abbrev loG(a b:ZY):lx ZY×ZY×jg×jg×jg×jg×jg->J6 nX Sem (rM (lx ZY×ZY×jg×jg×jg×jg×jg)):=λx=>
 if x.2.2.2.2.1>1 then lo1 a b x.2.1 x.2.2.1 x.2.2.2.1 x.2.2.2.2.2.1 x.2.2.2.2.2.2 (x.2.2.2.2.1-1)else lo1 a b x.2.1 x.2.2.1 x.2.2.2.1 x.2.2.2.2.2.1 x.2.2.2.2.2.2 x.2.2.2.2.1
abbrev loE(x:lx ZY×ZY×jg×jg×jg×jg×jg):J6 nX Sem (rM (lx ZY×ZY×jg×jg×jg)):=
 match x.1 with
 | some r=>pure (.done (hX r,x.2.1,x.2.2.1,x.2.2.2.1,x.2.2.2.2.1))
 | none=>do
   dE (x.2.2.2.2.1+1)
   pure (.yield (hV,x.2.1,x.2.2.1,x.2.2.2.1,x.2.2.2.2.1+1))
abbrev loF(a b:ZY)(g:jg)(x:lx ZY×ZY×jg×jg×jg×jg):J6 nX Sem (rM (lx ZY×ZY×jg×jg×jg)):=
 match x.1 with
 | some r=>pure (.done (hX r,x.2.1,x.2.2.1,x.2.2.2.1,g))
 | none=>do
   Ru "list.sort.gallop"
   let x<-forIn [0:a.size+b.size] (hV,x.2.1,x.2.2.1,x.2.2.2.1,g+1,x.2.2.2.2.1,x.2.2.2.2.2) λ_ x=>loG a b x
   loE x
abbrev loO(a b:ZY):lx ZY×ZY×jg×jg×jg->J6 nX Sem (rM (lx ZY×ZY×jg×jg×jg)):=λx=>do
 let y<-forIn [0:a.size+b.size] (hV,x.2.1,x.2.2.1,x.2.2.2.1,0,0) λ_ y=>loI a b y.2.1 y.2.2.1 y.2.2.2.1 x.2.2.2.2 y.2.2.2.2.1 y.2.2.2.2.2
 loF a b x.2.2.2.2 y
abbrev loR(x:lx ZY×ZY×jg×jg×jg):J6 nX Sem ZY:=
 match x.1 with
 | some r=>pure r
 | none=>Pq "internal:list.sort.merge-bound"
set_option smartUnfolding false in
def Ly(a b:ZY):pJ a b=(do
 Ru "list.sort.merge-lo"
 let e<-OP b 0
 if(1==b.size)=hY then pure (#[e] ++a.extract 0 a.size++b.extract 1 b.size)
 else if(0+1==a.size)=hY then pure (#[e] ++b.extract 1 b.size++a.extract 0 a.size)
 else do
  let s<-get
  let x<-forIn [0:a.size+b.size] (hV,#[e],0,1,gallopOf s) λ_ x=>loO a b x
  loR x):=by
 rfl
variable{D:Nq->Prop}{a b out:ZY}{ia ib g k bc z:jg}{st:nX}
def aW{m n:jg}(h: ¬(m==n)=hY):m≠n:=λe=>h (by simp[e])
def DY{k1:jg}{R:rM _->nX->Prop}(C:LC prog w A SI D a b st)(m:ML a b out ia ib)(d:z<=out.size+1)
 (e:∀r o,ei a b r->R (.done (hX r,o)) st) (f:∀out ia ib g k k1,ML a b out ia ib->z<=out.size->R (.done (hV,out,ia,ib,g,k,k1)) st/\R (.yield (hV,out,ia,ib,g,k,k1)) st):(SC prog w A SI) (lo3 a b out ia ib g k k1) R st:=by
 let na:=m.na;show ar (bn (C.DA ⋯).1 ?_);let c:=m.mi.takeA 1;rw[iX ⋯]at c
 split
 .show aw (e _ _ c.last)
 .rename_i q
  let q:=aW q;let h:=f _ _ _ g k k1 %[c,⋯|m.nb] (by rw[Xj];show d)
  split
  .show aw h.1
  .show aw h.2
def DZ{R:rM (lx ZY×ZY×jg×jg×jg×jg×jg)->nX->Prop}(C:LC prog w A SI D a b st)(m:ML a b out ia ib)(p:z<=out.size+2)
 (c:∀r o,ei a b r->R (.done (hX r,o)) st) (e:∀out ia ib g k k1,ML a b out ia ib->z<=out.size->R (.done (hV,out,ia,ib,g,k,k1)) st/\R (.yield (hV,out,ia,ib,g,k,k1)) st):(SC prog w A SI) (lo2 a b out ia ib g k bc) R st:=by
 let%[l,na|nb]:=m;show ar (bn (C.DB nb).1 ?_);let d:=l.takeB 1;rw[iX nb]at d
 split
 .show aw (c _ _ d.done)
 .rename_i q
  let q:=aW q;let f:=C.DA (show ia<_ by lia);show ar (bn f.1 (ar (fH C.c f.2 (λi hi=>%[_|C.DB ⋯]) ⋯ λk2 n=>?_)));dsimp only
  split
  .let h:=d.takeB k2
   split
   .show aw (c _ _ h.done)
   .rename_i j
    let j:=aW j;show DY C %[h,na|⋯] (by simp;lia) c e
  .show DY C %[d,na|⋯] (by rw[Xj];lia) c e
def JX{l:jg}{R:rM (lx ZY×ZY×jg×jg×jg×jg×jg)->nX->Prop}(C:LC prog w A SI D a b st)(m:ML a b out ia ib)(n:z<=out.size+2)
 (d:∀c r o,SG st c->ei a b r->R (.done (hX r,o)) c) (e:∀c out ia ib g k k1,SG st c->ML a b out ia ib->z<=out.size->R (.done (hV,out,ia,ib,g,k,k1)) c/\R (.yield (hV,out,ia,ib,g,k,k1)) c):(SC prog w A SI) (lo1 a b out ia ib l bc g) R st:=by
 let na:=m.na;let f:=C.DB m.nb;unfold lo1;rw[iF];show ar (c8 ?_);let sg:=(SG.refl st).set g;let d:=λr o=>d _ r o sg
 let e:=λout ia ib g k k1=>e _ out ia ib g k k1 sg
 let C:=C.of sg;show ar (bn f.1 (ar (fH C.c f.2 (λi hi=>%[_|C.DA ⋯]) ⋯ λk p=>?_)));dsimp only
 split
 .let mk:=m.mi.takeA k
  split
  .show aw (d _ _ mk.last)
  .rename_i h
   let h:=aW h
   split
   .show aw (d _ _ mk.done)
   .rename_i j
    let j:=aW j;show DZ C %[mk,⋯|m.nb] (by simp;lia) d e
 .show DZ C m n d e
def JY{c:jg}{R:rM (lx ZY×ZY×jg×jg×jg×jg)->nX->Prop}(C:LC prog w A SI D a b st)(m:ML a b out ia ib)(f:z<=out.size+1)
 (i:∀r o,ei a b r->R (.done (hX r,o)) st) (j:∀out ia ib c bc,ML a b out ia ib->z<=out.size->R (.done (hV,out,ia,ib,c,bc)) st/\R (.yield (hV,out,ia,ib,c,bc)) st):(SC prog w A SI) (loI a b out ia ib g c bc) R st:=by
 let%[l,na|nb]:=m;let d:=C.DA (show ia<_ by lia);let e:=C.DB nb;show ar (bn e.1 (ar (bn d.1 (ar (wD C.c e.2 d.2 λ_=>?_)))));dsimp only
 split
 .show ar (bn e.1 ?_);let m2:=l.takeB 1;rw[iX nb]at m2
  split
  .show aw (i _ _ m2.done)
  .rename_i q
   let q:=aW q;let h:=j _ _ _ 0 (bc+1) %[m2,na|⋯] (by rw[Xj];show f)
   split
   .show aw h.1
   .show aw h.2
 .show ar (bn d.1 ?_);let m2:=l.takeA 1;rw[iX ⋯]at m2
  split
  .show aw (i _ _ m2.last)
  .rename_i q
   let q:=aW q;let h:=j _ _ _ (c+1) 0 %[m2,⋯|nb] (by rw[Xj];show f)
   split
   .show aw h.1
   .show aw h.2
def JZ{j:jg}{q:lx ZY}{R:rM (lx ZY×ZY×jg×jg×jg)->nX->Prop}(C:LC prog w A SI D a b st)(m:ML a b out ia ib)(e:j+1<=out.size)
 (p:∀d r o,SG st d->ei a b r->R (.done (hX r,o)) d) (s:∀d out ia ib g,SG st d->ML a b out ia ib->j+2<=out.size->R (.yield (hV,out,ia,ib,g)) d):(SC prog w A SI) (loO a b (q,out,ia,ib,g)) R st:=by
 let u:=m.na;show ar (cH (b7 (Q:=λx d=>SG st d/\((∃r o,x=(hX r,o)/\ei a b r)\/∃out ia ib f bc,x=(hV,out,ia,ib,f,bc)/\ML a b out ia ib/\j+2<=out.size))
  (λj2 x d=>SG st d/\∃out ia ib f bc,x=(hV,out,ia,ib,f,bc)/\ML a b out ia ib/\j+1+j2<=out.size) (Xf _) %[SG.refl _,_,_,_,_,_,rfl,m|e] ?_ ?_) ?_)
 .intro j2 x i _ l %[c,out,ia,ib,f,bc,rfl,m|e];show JY (C.of c) m ⋯ (λr o h=>%[c|.inl %[r,o,rfl|h]]) λout ia ib f bc h z=>%[%[c|.inr %[_,_,_,_,_,rfl,h|⋯]],c,_,_,_,_,_,rfl,h|z]
 .intro x i %[c,out,ia,ib,f,bc,rfl,m|e];show%[c|.inr %[_,_,_,_,_,ρ,m|⋯]]
 .rintro x i ⟨c,⟨r,o,rfl,n⟩|⟨out,ia,ib,f,bc,rfl,m,e⟩⟩
  .show aw (p _ r _ c n)
  .show ar (jW ?_);show ar (cH (b7 (Q:=λx d=>SG st d/\((∃r o,x=(hX r,o)/\ei a b r)\/∃out ia ib g f bc,x=(hV,out,ia,ib,g,f,bc)/\ML a b out ia ib/\j+2<=out.size))
    (λj2 x d=>SG st d/\∃out ia ib g f bc,x=(hV,out,ia,ib,g,f,bc)/\ML a b out ia ib/\j+2<=out.size) (Xf _) %[c,_,_,_,_,_,_,rfl,m|e] ?_ ?_) ?_)
   .intro j2 x i _ l %[c,out,ia,ib,g,f,bc,rfl,m|e];unfold loG;rw[<-apply_ite _];show JX (C.of c) m ⋯ (λd r o sg h=>%[SG.trans c sg|.inl %[r,o,rfl|h]]) λd out ia ib g k k1 sg h z=>%[%[SG.trans c sg|.inr %[_,_,_,_,_,_,rfl,h|z]],SG.trans c sg,_,_,_,_,_,_,rfl,h|z]
   .simp_all
   .rintro x i ⟨c,⟨r,o,rfl,n⟩|⟨out,ia,ib,g,f,bc,rfl,m,e⟩⟩
    .show aw (p _ r _ c n)
    .show ar (c8 (aw (s _ _ _ _ _ (c.set _) m e)))
def y8{Q:ZY->nX->Prop}(C:LC prog w A SI D a b st)(v:1<=a.size)(l:1<=b.size)(h:∀r c,SG st c->ei a b r->Q r c):(SC prog w A SI) (pJ a b) Q st:=by
 rw[Ly];show ar (jW (ar (bn (C.DB l).1 ?_)));let i:=(show MI a b #[] 0 0 from Nc _).takeB 1;rw[iX l]at i
 split
 .show aw (h _ st (SG.refl _) i.done)
 rename_i n
 let n:=aW n
 split
 .show aw (h _ st (SG.refl _) i.last)
 rename_i p
 let p:=aW p;show ar (iu ?_);show ar (cH (b7 (Q:=λx c=>SG st c/\∃r,x.1∣r/\ei a b r)
  (λj x c=>SG st c/\∃out ia ib g,x=(hV,out,ia,ib,g)/\ML a b out ia ib/\j+1<=out.size) (Xf _) %[SG.refl _,_,_,_,_,rfl,%[i,⋯|⋯]|Zi _] ?_ ?_) ?_)
 .intro j x d _ y %[sg,out,ia,ib,g,rfl,m|f];show JZ (C.of sg) m f (λc r o e h=>%[SG.trans sg e,r,rfl|h]) λc out ia ib g e h z=>%[SG.trans sg e,_,_,_,_,rfl,h|z]
 .intro x d %[sg,out,ia,ib,g,rfl,m|f];let:=m.na;let q:=m.mi.length_eq;simp only[Z9,Zb,Yh]at q
  lia
 .rintro⟨B,x2⟩ d ⟨sg,r,s,u⟩;subst s;show aw (h r d sg u)
end
abbrev MH(a b out:ZY)(na nb:jg):Prop:=(b.toList.take nb++(a.toList.take na++out.reverse.toList)).Perm (a.toList++b.toList)
def Ai(a out:ZY){k n:jg}(h:k<=n):a.toList.take k++(out++(a.extract k n).reverse).reverse.toList=a.toList.take n++out.reverse.toList:=by
 rw[on.reverse_append,on.reverse_reverse,Xe,fY,<-Ze,<-hH.take_add,jg.add_sub_cancel' h]
def MH.takeA{a b out:ZY}{na nb k:jg}(h:MH a b out na nb)(c:k<=na):MH a b (out++(a.extract k na).reverse) k nb:=by
 unfold MH;rw[Ai _ _ c];show h
def MH.takeB{a b out:ZY}{na nb k:jg}(h:MH a b out na nb)(c:k<=nb):MH a b (out++(b.extract k nb).reverse) na k:=by
 show(N2 _ _ _).trans ?_;rw[Ai _ _ c];show(N2 _ _ _).trans h
def jB{a:ZY}{i:jg}(h:i<a.size)(out:ZY):out++(a.extract i (i+1)).reverse=out.push a[i]:=by
 rw[<-iX h,<-on.empty_append (xs:=a.extract i (i+1)),iX h];rfl
def MH.first{a b out:ZY}{na nb:jg}(h:MH a b out na nb):ei a b (b.extract 0 nb++a.extract 0 na++out.reverse):=by
 unfold ei;rw[Xe,Xe,fY,fY,Ze];show h
def MH.done{a b out:ZY}{na nb:jg}(h:MH a b out na nb):ei a b (a.extract 0 na++b.extract 0 nb++out.reverse):=by
 unfold ei;rw[Xe,Xe,fY,fY,Ze];show(N2 _ _ _).trans h
section
variable{prog:nY}{w:v0}{A:wh}{SI:mu->Prop}{α β:Type}
structure MHS (a b out:ZY) (na nb:jg):Prop where
 mh:MH a b out na nb
 pa:1<=na
 pb:2<=nb
 ma:na<=a.size
 mb:nb<=b.size
abbrev hi3(a b:ZY)(na nb:jg)(out:ZY)(g k k1:jg):J6 nX Sem (rM (lx ZY×jg×jg×ZY×jg×jg×jg)):=OP a (na-1)>>= λe=>if(na-1==0)=hY then pure (.done (hX (a.extract 0 (na-1) ++b.extract 0 nb++(out.push e).reverse),na-1,nb,out.push e,g,k,k1))else if(decide (k<7)&&decide (k1<7))=hY then pure (.done (hV,na-1,nb,out.push e,g,k,k1))else pure (.yield (hV,na-1,nb,out.push e,g,k,k1))
abbrev hi2(a b:ZY)(na nb:jg)(out:ZY)(g k c:jg):J6 nX Sem (rM (lx ZY×jg×jg×ZY×jg×jg×jg)):=OP b (nb-1)>>= λe=>if(nb-1==1)=hY then pure (.done (hX (b.extract 0 (nb-1) ++a.extract 0 na++(out.push e).reverse),na,nb-1,out.push e,g,k,c))else OP a (na-1)>>= λd=>gY hY d b 0 (nb-1) (nb-1-1)>>= fun|some k1=>if nb-1-k1>0 then if(k1==1)=hY then pure (.done (hX (b.extract 0 k1++a.extract 0 na++(out.push e++(b.extract k1 (nb-1)).reverse).reverse),na,k1,out.push e++(b.extract k1 (nb-1)).reverse,g,k,nb-1-k1))else if(k1==0)=hY then pure (.done (hX (a.extract 0 na++b.extract 0 k1++(out.push e++(b.extract k1 (nb-1)).reverse).reverse),na,k1,out.push e++(b.extract k1 (nb-1)).reverse,g,k,nb-1-k1))else hi3 a b na k1 (out.push e++(b.extract k1 (nb-1)).reverse) g k (nb-1-k1)else hi3 a b na (nb-1) (out.push e) g k (nb-1-k1)|_=>pure (.done (hX (a.extract 0 na++b.extract 0 (nb-1) ++(out.push e).reverse),na,nb-1,out.push e,g,k,c))
abbrev hi1(a b:ZY)(na nb:jg)(out:ZY)(d c g:jg):J6 nX Sem (rM (lx ZY×jg×jg×ZY×jg×jg×jg)):=dE g>>= λ_=>OP b (nb-1)>>= λe=>gY iv e a 0 na (na-1)>>= fun|some k=>if na-k>0 then if(k==0)=hY then pure (.done (hX (a.extract 0 k++b.extract 0 nb++(out++(a.extract k na).reverse).reverse),k,nb,out++(a.extract k na).reverse,g,na-k,c))else hi2 a b k nb (out++(a.extract k na).reverse) g (na-k) c else hi2 a b na nb out g (na-k) c|_=>pure (.done (hX (a.extract 0 na++b.extract 0 nb++out.reverse),na,nb,out,g,d,c))
abbrev hiI(a b:ZY)(na nb:jg)(out:ZY)(g c d:jg):J6 nX Sem (rM (lx ZY×jg×jg×ZY×jg×jg)):=OP b (nb-1)>>= λf=>OP a (na-1)>>= λh=>lt' f h>>= fun|some w=>if w=hY then(OP a (na-1)>>= λe=>if(na-1==0)=hY then pure (.done (hX (a.extract 0 (na-1) ++b.extract 0 nb++(out.push e).reverse),na-1,nb,out.push e,c+1,0))else if c+1>=g then pure (.done (hV,na-1,nb,out.push e,c+1,0))else pure (.yield (hV,na-1,nb,out.push e,c+1,0)))else(OP b (nb-1)>>= λe=>if(nb-1==1)=hY then pure (.done (hX (b.extract 0 (nb-1) ++a.extract 0 na++(out.push e).reverse),na,nb-1,out.push e,0,d+1))else if d+1>=g then pure (.done (hV,na,nb-1,out.push e,0,d+1))else pure (.yield (hV,na,nb-1,out.push e,0,d+1)))|_=>pure (.done (hX (a.extract 0 na++b.extract 0 nb++out.reverse),na,nb,out,c,d))
abbrev hiG(a b:ZY)(x:lx ZY×jg×jg×ZY×jg×jg×jg):J6 nX Sem (rM (lx ZY×jg×jg×ZY×jg×jg×jg)):=
 if x.2.2.2.2.1>1 then hi1 a b x.2.1 x.2.2.1 x.2.2.2.1 x.2.2.2.2.2.1 x.2.2.2.2.2.2 (x.2.2.2.2.1-1)else hi1 a b x.2.1 x.2.2.1 x.2.2.2.1 x.2.2.2.2.2.1 x.2.2.2.2.2.2 x.2.2.2.2.1
abbrev hiE(x:lx ZY×jg×jg×ZY×jg×jg×jg):J6 nX Sem (rM (lx ZY×jg×jg×ZY×jg)):=
 match x.1 with
 | some r=>pure (.done (hX r,x.2.1,x.2.2.1,x.2.2.2.1,x.2.2.2.2.1))
 | none=>do
   dE (x.2.2.2.2.1+1)
   pure (.yield (hV,x.2.1,x.2.2.1,x.2.2.2.1,x.2.2.2.2.1+1))
abbrev hiF(a b:ZY)(g:jg)(x:lx ZY×jg×jg×ZY×jg×jg):J6 nX Sem (rM (lx ZY×jg×jg×ZY×jg)):=
 match x.1 with
 | some r=>pure (.done (hX r,x.2.1,x.2.2.1,x.2.2.2.1,g))
 | none=>do
   Ru "list.sort.gallop"
   let x<-forIn [0:a.size+b.size] (hV,x.2.1,x.2.2.1,x.2.2.2.1,g+1,x.2.2.2.2.1,x.2.2.2.2.2) λ_ x=>hiG a b x
   hiE x
abbrev hiO(a b:ZY)(x:lx ZY×jg×jg×ZY×jg):J6 nX Sem (rM (lx ZY×jg×jg×ZY×jg)):=do
 let y<-forIn [0:a.size+b.size] (hV,x.2.1,x.2.2.1,x.2.2.2.1,0,0) λ_ y=>hiI a b y.2.1 y.2.2.1 y.2.2.2.1 x.2.2.2.2 y.2.2.2.2.1 y.2.2.2.2.2
 hiF a b x.2.2.2.2 y
abbrev hiR(x:lx ZY×jg×jg×ZY×jg):J6 nX Sem ZY:=
 match x.1 with
 | some r=>pure r
 | none=>Pq "internal:list.sort.merge-bound"
set_option smartUnfolding false in
def Lz(a b:ZY):pK a b=(do
 Ru "list.sort.merge-hi"
 let e<-OP a (a.size-1)
 if(a.size-1==0)=hY then pure (a.extract 0 (a.size-1) ++b.extract 0 b.size++ #[e].reverse)
 else if(b.size==1)=hY then pure (b.extract 0 b.size++a.extract 0 (a.size-1) ++ #[e].reverse)
 else do
  let s<-get
  let x<-forIn [0:a.size+b.size] (hV,a.size-1,b.size,#[e],gallopOf s) λ_ x=>hiO a b x
  hiR x):=by
 rfl
variable{D:Nq->Prop}{a b out:ZY}{na nb g k bc z:jg}{st:nX}
def Ea{k1:jg}{R:rM _->nX->Prop}(C:LC prog w A SI D a b st)(m:MHS a b out (na+1) nb)(d:z<=out.size+1)
 (e:∀r o,ei a b r->R (.done (hX r,o)) st) (f:∀na nb out g k k1,MHS a b out na nb->z<=out.size->R (.done (hV,na,nb,out,g,k,k1)) st/\R (.yield (hV,na,nb,out,g,k,k1)) st):(SC prog w A SI) (hi3 a b (na+1) nb out g k k1) R st:=by
 let%[j,p,l,s|n]:=m;show ar (bn (C.DA (i:=na) ⋯).1 ?_);let c:=j.takeA (Yg na);rw[jB ⋯]at c
 split
 .show aw (e _ _ c.done)
 rename_i q
 let q:=aW q;let h:=f _ _ _ g k k1 %[c,⋯,l,⋯|n] (by rw[Xj];show d)
 split
 .show aw h.1
 .show aw h.2
def Eb{R:rM (lx ZY×jg×jg×ZY×jg×jg×jg)->nX->Prop}(C:LC prog w A SI D a b st)(m:MHS a b out (na+1) (nb+1))(v:z<=out.size+2)
 (c:∀r o,ei a b r->R (.done (hX r,o)) st) (h:∀na nb out g k k1,MHS a b out na nb->z<=out.size->R (.done (hV,na,nb,out,g,k,k1)) st/\R (.yield (hV,na,nb,out,g,k,k1)) st):(SC prog w A SI) (hi2 a b (na+1) (nb+1) out g k bc) R st:=by
 let%[u,j,y,l|B]:=m;let n:=C.DA (i:=na) ⋯;unfold hi2;rw[Qi,Qi];show ar (bn (C.DB (i:=nb) ⋯).1 ?_);let d:=u.takeB (Yg nb);rw[jB ⋯]at d
 split
 .show aw (c _ _ d.first)
 rename_i q
 let q:=aW q;show ar (bn n.1 (ar (fH C.c n.2 (λi hi=>%[_|C.DB ⋯]) ⋯ λk2 e=>?_)));dsimp only;let f:=d.takeB e
 split
 .split
  .show aw (c _ _ f.first)
  rename_i p
  let p:=aW p
  split
  .show aw (c _ _ f.done)
  rename_i s
  let s:=aW s;show Ea C %[f,j,⋯,l|⋯] (by simp;lia) c h
 .show Ea C %[d,j,⋯,l|⋯] (by rw[Xj];lia) c h
def J7{p:jg}{R:rM (lx ZY×jg×jg×ZY×jg×jg×jg)->nX->Prop}(C:LC prog w A SI D a b st)(m:MHS a b out na nb)(s:z<=out.size+2)
 (d:∀c r o,SG st c->ei a b r->R (.done (hX r,o)) c) (e:∀c na nb out g k k1,SG st c->MHS a b out na nb->z<=out.size->R (.done (hV,na,nb,out,g,k,k1)) c/\R (.yield (hV,na,nb,out,g,k,k1)) c):(SC prog w A SI) (hi1 a b na nb out p bc g) R st:=by
 let%[f,u,h,v|j]:=m;obtain⟨nb,rfl⟩:∃n,nb=n+1:=%[nb-1|⋯]
 let l:=C.DB (i:=nb) ⋯;unfold hi1;rw[Qi,iF];show ar (c8 ?_);let sg:=(SG.refl st).set g;let d:=λr o=>d _ r o sg
 let e:=λna nb out g k k1=>e _ na nb out g k k1 sg
 let C:=C.of sg;show ar (bn l.1 (ar (fH C.c l.2 (λi hi=>%[_|C.DA ⋯]) ⋯ λk y=>?_)));dsimp only
 split
 .let mk:=f.takeA y
  split
  .show aw (d _ _ mk.done)
  rename_i q
  let q:=aW q;obtain⟨k,rfl⟩:∃n,k=n+1:=%[k-1|⋯]
  show Eb C %[mk,⋯,h,⋯|j] (by simp;lia) d e
 .obtain⟨na,rfl⟩:∃n,na=n+1:=%[na-1|⋯]
  show Eb C %[f,u,h,v|j] s d e
def J8{c:jg}{R:rM (lx ZY×jg×jg×ZY×jg×jg)->nX->Prop}(C:LC prog w A SI D a b st)(m:MHS a b out na nb)(f:z<=out.size+1)
 (j:∀r o,ei a b r->R (.done (hX r,o)) st) (l:∀na nb out c bc,MHS a b out na nb->z<=out.size->R (.done (hV,na,nb,out,c,bc)) st/\R (.yield (hV,na,nb,out,c,bc)) st):(SC prog w A SI) (hiI a b na nb out g c bc) R st:=by
 let%[p,s,u,v|y]:=m;obtain⟨na,rfl⟩:∃n,na=n+1:=%[na-1|⋯]
 obtain⟨nb,rfl⟩:∃n,nb=n+1:=%[nb-1|⋯]
 let d:=C.DA (i:=na) ⋯;let e:=C.DB (i:=nb) ⋯;unfold hiI;rw[Qi,Qi];show ar (bn e.1 (ar (bn d.1 (ar (wD C.c e.2 d.2 λ_=>?_)))));dsimp only
 split
 .show ar (bn d.1 ?_);let m2:=p.takeA (Yg na);rw[jB ⋯]at m2
  split
  .show aw (j _ _ m2.done)
  rename_i q
  let q:=aW q;let h:=l _ _ _ (c+1) 0 %[m2,⋯,u,⋯|y] (by rw[Xj];show f)
  split
  .show aw h.1
  .show aw h.2
 .show ar (bn e.1 ?_);let m2:=p.takeB (Yg nb);rw[jB ⋯]at m2
  split
  .show aw (j _ _ m2.first)
  rename_i q
  let q:=aW q;let h:=l _ _ _ 0 (bc+1) %[m2,s,⋯,v|⋯] (by rw[Xj];show f)
  split
  .show aw h.1
  .show aw h.2
def J9{j:jg}{q:lx ZY}{R:rM (lx ZY×jg×jg×ZY×jg)->nX->Prop}(C:LC prog w A SI D a b st)(m:MHS a b out na nb)(e:j+1<=out.size)
 (p:∀d r o,SG st d->ei a b r->R (.done (hX r,o)) d) (s:∀d na nb out g,SG st d->MHS a b out na nb->j+2<=out.size->R (.yield (hV,na,nb,out,g)) d):(SC prog w A SI) (hiO a b (q,na,nb,out,g)) R st:=by
 let u:=m.pa;let v:=m.ma;show ar (cH (b7 (Q:=λx d=>SG st d/\((∃r o,x=(hX r,o)/\ei a b r)\/∃na nb out f bc,x=(hV,na,nb,out,f,bc)/\MHS a b out na nb/\j+2<=out.size))
  (λj2 x d=>SG st d/\∃na nb out f bc,x=(hV,na,nb,out,f,bc)/\MHS a b out na nb/\j+1+j2<=out.size) (Xf _) %[SG.refl _,_,_,_,_,_,rfl,m|e] ?_ ?_) ?_)
 .intro j2 x i _ l %[c,na,nb,out,f,bc,rfl,m|e];show J8 (C.of c) m ⋯ (λr o h=>%[c|.inl %[r,o,rfl|h]]) λna nb out f bc h z=>%[%[c|.inr %[_,_,_,_,_,rfl,h|⋯]],c,_,_,_,_,_,rfl,h|z]
 .intro x i %[c,na,nb,out,f,bc,rfl,m|e];show%[c|.inr %[_,_,_,_,_,ρ,m|⋯]]
 .rintro x i ⟨c,⟨r,o,rfl,n⟩|⟨na,nb,out,f,bc,rfl,m,e⟩⟩
  .show aw (p _ r _ c n)
  .show ar (jW ?_);show ar (cH (b7 (Q:=λx d=>SG st d/\((∃r o,x=(hX r,o)/\ei a b r)\/∃na nb out g f bc,x=(hV,na,nb,out,g,f,bc)/\MHS a b out na nb/\j+2<=out.size))
    (λj2 x d=>SG st d/\∃na nb out g f bc,x=(hV,na,nb,out,g,f,bc)/\MHS a b out na nb/\j+2<=out.size) (Xf _) %[c,_,_,_,_,_,_,rfl,m|e] ?_ ?_) ?_)
   .intro j2 x i _ l %[c,na,nb,out,g,f,bc,rfl,m|e];unfold hiG;rw[<-apply_ite _];show J7 (C.of c) m ⋯ (λd r o sg h=>%[SG.trans c sg|.inl %[r,o,rfl|h]]) λd na nb out g k k1 sg h z=>%[%[SG.trans c sg|.inr %[_,_,_,_,_,_,rfl,h|z]],SG.trans c sg,_,_,_,_,_,_,rfl,h|z]
   .simp_all
   .rintro x i ⟨c,⟨r,o,rfl,n⟩|⟨na,nb,out,g,f,bc,rfl,m,e⟩⟩
    .show aw (p _ r _ c n)
    .show ar (c8 (aw (s _ _ _ _ _ (c.set _) m e)))
def y9{Q:ZY->nX->Prop}(C:LC prog w A SI D a b st)(E:1<=a.size)(G:1<=b.size)(h:∀r c,SG st c->ei a b r->Q r c):(SC prog w A SI) (pK a b) Q st:=by
 rw[Lz];obtain⟨f,p⟩:∃f,a.size=f+1:=%[a.size-1|⋯]
 rw[show a.size-1=f by lia];show ar (jW (ar (bn (C.DA (i:=f) ⋯).1 ?_)));let n:=(show MH a b #[] (f+1) b.size by
  unfold MH;rw[<-p,<-Zb,<-Zb,Xd,Xd];simpa using QC).takeA (Yg f)
 rw[jB ⋯]at n
 split
 .show aw (h _ st (SG.refl _) n.done)
 rename_i s
 let s:=aW s
 split
 .show aw (h _ st (SG.refl _) n.first)
 rename_i u
 let u:=aW u;show ar (iu ?_);show ar (cH (b7 (Q:=λx c=>SG st c/\∃r,x.1∣r/\ei a b r)
  (λj x c=>SG st c/\∃na nb out g,x=(hV,na,nb,out,g)/\MHS a b out na nb/\j+1<=out.size) (Xf _) %[SG.refl _,_,_,_,_,rfl,%[n,⋯,⋯,⋯|⋯]|Zi _] ?_ ?_) ?_)
 .intro j x d _ H %[sg,na,nb,out,g,rfl,m|l];show J9 (C.of sg) m l (λc r o e h=>%[SG.trans sg e,r,rfl|h]) λc na nb out g e h z=>%[SG.trans sg e,_,_,_,_,rfl,h|z]
 .intro x d %[sg,na,nb,out,g,rfl,m|l];let%[v,I,J,L|M]:=m;let q:=v.length_eq;simp only[Z9,Yl,Zb,on.size_reverse]at q
  lia
 .rintro⟨N,x2⟩ d ⟨sg,r,y,B⟩;subst y;show aw (h r d sg B)
end
def wE(i:jg):TY i=(do
 let s<-get
 let(hX (b,na,c),hX (d,nb,_)):=((q7 s)[i]?,(q7 s)[i+1]?)|Pq "internal:list.sort.pending"
 set (QY s (((q7 s).setIfInBounds i (b,na+nb,c)).eraseIdxIfInBounds (i+1)))
 let hX k<-gY iv (<-OP (sk s) d) (sk s) b na 0|return iv
 let(b,na):=(b+k,na-k)
 if na==0 then return hY
 let hX nb<-gY hY (<-OP (sk s) (b+na-1)) (sk s) d nb (nb-1)|return iv
 if nb==0 then return hY
 let x:=(sk s).extract b d
 let y:=(sk s).extract d (d+nb)
 let merged<-if na<=nb then pJ x y else pK x y
 UX λs=>UR s (merged.toList.zipIdx.foldl (λa (p,j)=>a.setIfInBounds (b+j) p) (sk s))
 return (NL (<-get)).isNone):=rfl
def wF:∀m c o (a:ZY),o+c+ ~~~m<=a.size->
 ((m.zipIdx c).foldl (λa p=>a.setIfInBounds (o+p.2) p.1) a).toList=a.toList.take (o+c) ++m++a.toList.drop (o+c+ ~~~m)
 |[],c,o,a,_=>by simp
 | x::m,c,o,a,h=>by
   rw[R9,Y8];rw[Zr]at h;rw[wF m _ o _ (by rw[PQ];lia),SS];let b:o+c< ~~~a.toList:=by rw[Zb];lia
   rw[Zr,hH.take_set,hH.drop_set];rw[show o+(c+1)=o+c+1 by lia,show o+c+1+ ~~~m=o+c+(~~~m+1) by lia];let e:(a.toList.take (o+c+1)).set (o+c) x=a.toList.take (o+c) ++[x]:=by
    rw[Oy b];rw[Uf _ _ (by rw[Yl];lia)];rw[Yl,Ry ⋯,QF];rfl
   rw[e];simp
section
variable{prog:nY}{w:v0}{A:wh}{SI:mu->Prop}{α β:Type}
def zd{D:Nq->Prop}{i p J:jg}{b X Y L2:hH Nq}{Q:ri->nX->Prop}{st:nX}(c:Cmp prog w A SI (kindOf st) D)(e:(sk st).toList=b++X++Y++L2)(L:X≠[])(M:Y≠[])
 (d:∀x∈(sk st).toList,D x) (N:(q7 st)[i]?∣(~~~b,~~~X,p)) (q:(q7 st)[i+1]?∣(~~~b+ ~~~X,~~~Y,J)) (z:NL st=hV)
 (h:∀Z g,Z.Perm (X++Y)->(sk g).toList=b++Z++L2->kindOf g=kindOf st->NL g=hV->q7 g=((q7 st).setIfInBounds i (~~~b,~~~X+ ~~~Y,p)).eraseIdxIfInBounds (i+1)->Q hY g):(SC prog w A SI) (TY i) Q st:=by
 let O:0< ~~~X:=NF.mpr L;let lY:0< ~~~Y:=NF.mpr M;let sz:(sk st).size= ~~~b+ ~~~X+ ~~~Y+ ~~~L2:=by
  rw[<-Zb,e];simp only[Z9]
 let l:∀i,i<(sk st).size->∃x,(sk st)[i]?∣x/\D x:=λi hi=>%[(sk st)[i],by simp|d _ ∅]
 let sub:∀(u v i:jg) (hi:i<((sk st).extract u v).size),((sk st).extract u v)[i]?∣((sk st).extract u v)[i]/\D ((sk st).extract u v)[i]:=λu v i hi=>%[Mw hi|by rw[on.getElem_extract];show d _ ∅]
 rw[wE];show ar (iu ?_);rw[N,q];dsimp only;let%[y,T|U]:=l (~~~b+ ~~~X) ⋯;show ar (JW (ar (bn T (ar (fH c U (λi hi=>l _ ⋯) O λk hk=>?_)))));dsimp only
 split
 .show aw (h (X++Y) _ (Nc _) (by change(sk st).toList=_;rw[e];simp) rfl z rfl)
 rename_i C
 let C:=aW C;let%[x,hx|dx]:=l (~~~b+k+(~~~X-k) -1) ⋯;show ar (bn hx (ar (fH c dx (λi hi=>l _ ⋯) ⋯ λk2 B=>?_)));dsimp only
 split
 .show aw (h (X++Y) _ (Nc _) (by change(sk st).toList=_;rw[e];simp) rfl z rfl)
 rename_i E
 let E:=aW E;let ex:((sk st).extract (~~~b+k) (~~~b+ ~~~X)).toList=X.drop k:=by
  rw[fY,e,Ze,Ze,Sb,Oz ⋯,TX,NN,Sn ⋯,Xc (by rw[Yh];lia),Zn (by rw[Yh];lia)]
 let G:((sk st).extract (~~~b+ ~~~X) (~~~b+ ~~~X+k2)).toList=Y.take k2:=by
  rw[oO,e,Ze,Sb,Oz (by rw[Z9];lia),TX,Z9,QF,UE,Xc ⋯]
 let sx:=sU MR ex;let sy:=sU MR G;rw[Zb,Yh]at sx;rw[Zb,Yl]at sy;let H:∀(r:ZY) (f:nX),SG (QY st (((q7 st).setIfInBounds i (~~~b,~~~X+ ~~~Y,p)).eraseIdxIfInBounds (i+1))) f->ei ((sk st).extract (~~~b+k) (~~~b+ ~~~X)) ((sk st).extract (~~~b+ ~~~X) (~~~b+ ~~~X+k2)) r->
  (SC prog w A SI) (do UX (λs=>UR s (r.toList.zipIdx.foldl (λa (p,j)=>a.setIfInBounds (~~~b+k+j) p) (sk s)));let x<-get;pure (NL x).isNone) Q f:=λr f sg o=>by
  unfold ei at o;rw[ex,G]at o;show ar (c8 (ar (iu (aw ?_))));let m:NL f=hV:=by rw[sg.2.2.2];show z
  change Q (NL f).isNone _;rw[m];let I: ~~~r.toList=(~~~X-k) +k2:=by
   rw[o.length_eq,Z9,Yh,Yl,Ry B]
  show h (X.take k++r.toList++Y.drop k2) _ ?_ ?_ sg.1 m sg.2.2.1
  .show(SM _ (On _ o)).trans ?_;rw[<-Ze,Xb,Ze,Xb]
  .change(UR f _|>sk).toList=_;let n:sk f=sk st:=sg.2.1;change((r.toList.zipIdx).foldl (λ(a:ZY) (p:Nq×jg)=>a.setIfInBounds (~~~b+k+p.2) p.1) (sk f)).toList=_;rw[wF _ 0 _ _ (by rw[I,n,sz];lia),n,e,I];let t1:(b++X++Y++L2).take (~~~b+k+0)=b++X.take k:=by
    rw[RD,Ze,Ze,hH.take_append,Zn ⋯,NN,Xc ⋯]
   let t2:(b++X++Y++L2).drop (~~~b+k+0+(~~~X-k+k2))=Y.drop k2++L2:=by
    rw[show ~~~b+k+0+(~~~X-k+k2)= ~~~(b++X)+k2 by rw[Z9];lia,Ze,Sb,Oz ⋯,TX,NN,Sn ⋯]
   rw[t1,t2];simp
 split
 .show ar (y8 %[c,sub _ _ _|sub _ _ _] ⋯ ⋯ H)
 .show ar (y9 %[c,sub _ _ _|sub _ _ _] ⋯ ⋯ H)
end
structure CR (st0 st:nX) (lo:jg):Prop where
 kind:kindOf st=kindOf st0
 pend:q7 st=q7 st0
 fail:NL st=NL st0
 perm:(sk st).Perm (sk st0)
 same:∀i,i<lo->(sk st)[i]? =(sk st0)[i]?
def CR.refl(st:nX)(lo:jg):CR st st lo:=%[rfl,rfl,rfl,on.Perm.refl _|λ_ _=>rfl]
def CR.size{a st:nX}{lo:jg}(h:CR a st lo):(sk st).size=(sk a).size:=h.perm.size_eq
def CR.rev{a st:nX}{lo i j:jg}(h:CR a st lo)(hi:lo<=i)(b:j<=(sk st).size):CR a (UR st (mirror (sk st) i j ((j-i)/2))) lo:=
 %[h.kind,h.pend,h.fail,(mirror_perm _ _ _ _).trans h.perm|λk c=>by
  rw[getElem?_mirror_all b,kw ⋯];show h.same k c]
section
variable{prog:nY}{w:v0}{A:wh}{SI:mu->Prop}{α β:Type}
def pL{i j lo:jg}{a st:nX}(c:Cmp prog w A SI (kindOf a) D)(d:∀x∈(sk a).toList,D x)(r:CR a st lo)(hi:i<(sk a).size)(f:j<(sk a).size)
 (h:∀b,Q (hX b) st):(SC prog w A SI) (WA i j) Q st:=by
 let e:=λx g=>d x ((SU.mp r.perm).mem_iff.mp g)
 show GJ (r.kind▸c) (Mw (r.size▸hi)) (Mw (r.size▸f)) (e _ ∅) (e _ ∅) h
def vf{st:nX}(h:Q () (UR st (mirror (sk st) i j ((j-i)/2)))):(SC prog w A SI) (Qv i j) Q st:=by
 show c8 h
abbrev cuL(lo:jg)(x:lx (lx jg)×jg):J6 nX Sem (rM (lx (lx jg)×jg)):=do
 match<-WA (lo+x.2) (lo+x.2-1)with
 | some w=>if w=hY then pure (.done (hV,x.2))else pure (.yield (hV,x.2+1))
 | _=>pure (.done (hX hV,x.2))
abbrev cu3(lo nrem n:jg):J6 nX Sem (lx jg):=do
 Qv lo (lo+n)
 let x<-forIn [n:nrem] (hV,n) λ_ x=>cuL lo x
 match x.1 with
 | some r=>pure r
 | none=>pure (hX x.2)
abbrev cuM(lo:jg)(x:lx (lx jg)×jg×jg):J6 nX Sem (rM (lx (lx jg)×jg×jg)):=do
 match<-WA (lo+x.2.1) (lo+x.2.1-1)with
 | some w=>
   if w=hY then(if x.2.2>0 then(do
    Qv (lo+x.2.1-(x.2.2+1)) (lo+x.2.1)
    pure (.yield (hV,x.2.1+1,0)))else pure (.yield (hV,x.2.1+1,0)))
   else(do
    match<-WA (lo+x.2.1-1) (lo+x.2.1)with
    | some w=>if w=hY then pure (.done (hV,x.2.1,x.2.2))else pure (.yield (hV,x.2.1+1,x.2.2+1))
    | _=>pure (.done (hX hV,x.2.1,x.2.2)))
 | _=>pure (.done (hX hV,x.2.1,x.2.2))
abbrev cu2(lo nrem n:jg):J6 nX Sem (lx jg):=do
 Ru "list.sort.descending-run"
 let x<-forIn [n+1:nrem] (hV,n+1,0) λ_ x=>cuM lo x
 match x.1 with
 | some r=>pure r
 | none=>
   if x.2.2>0 then(do
    Qv (lo+x.2.1-(x.2.2+1)) (lo+x.2.1)
    cu3 lo nrem x.2.1)else cu3 lo nrem x.2.1
set_option smartUnfolding false in
def LA(lo nrem:jg):W3 lo nrem=(do
 let x<-forIn [1:nrem] (hV,1) λ_ x=>cuL lo x
 match x.1 with
 | some r=>pure r
 | none=>
   if(x.2==nrem)=hY then pure (hX x.2)
   else if x.2>1 then(do
    match<-WA lo (lo+x.2-1)with
    | some w=>if w=hY then pure (hX x.2)else(do
      Qv lo (lo+x.2)
      cu2 lo nrem x.2)
    | _=>pure hV)else cu2 lo nrem x.2):=by
 rw[countRun'_eq];rfl
variable{D:Nq->Prop}{lo nrem n j:jg}{Q:lx jg->nX->Prop}{st st2:nX}
def Ec{q:lx _}{R:rM _->nX->Prop}(c:Cmp prog w A SI (kindOf st) D)(d:∀x∈(sk st).toList,D x)(r:CR st st2 lo)(a:lo+nrem<=(sk st).size)(e:j<nrem)
 (f:R (.done (hV,j)) st2) (g:R (.yield (hV,j+1)) st2):(SC prog w A SI) (cuL lo (q,j)) R st2:=
 ar (pL c d r ⋯ ⋯ λb=>by cases b<;> show aw (by assumption))
def Ee(c:Cmp prog w A SI (kindOf st) D)(d:∀x∈(sk st).toList,D x)(l:lo+nrem<=(sk st).size)(h:∀n a,CR st a lo->1<=n->n<=nrem->Q (hX n) a)
 (r:CR st st2 lo) (n1:1<=n) (g:n<=nrem):(SC prog w A SI) (cu3 lo nrem n) Q st2:=by
 show ar (vf ?_);let o:=r.rev (j:=lo+n) (Zi _) (by rw[r.size];lia);show ar (cH (b7 (Q:=λx a=>CR st a lo/\∃n,x=(hV,n)/\1<=n/\n<=nrem)
  (λj x a=>CR st a lo/\x=(hV,j)) g %[o|rfl] ?_ ?_) ?_)
 .intro j x b f i %[e|rfl];show Ec c d e l i %[e,j,rfl,nI n1 f|Yf i] %[e|rfl]
 .intro x b %[e|rfl];show%[e,nrem,ρ,nI n1 g|Zi _]
 .intro x b %[e,m,rfl,p|m2];show aw (h m b e p m2)
def Ka{q:lx (lx jg)}{k:jg}{R:rM (lx (lx jg)×jg×jg)->nX->Prop}(c:Cmp prog w A SI (kindOf st) D)(d:∀x∈(sk st).toList,D x)(r:CR st st2 lo)(g:lo+nrem<=(sk st).size)(e:k+1<=j)(h:j<nrem)
 (f:R (.done (hV,j,k)) st2) (a:∀k st2,CR st st2 lo->k<=j->R (.yield (hV,j+1,k)) st2):(SC prog w A SI) (cuM lo (q,j,k)) R st2:=by
 show ar (pL c d r ⋯ ⋯ λb=>?_);cases b
 .show ar (pL c d r ⋯ ⋯ λb=>?_);cases b
  .show aw (a (k+1) _ r e)
  .show aw f
 .dsimp only;rw[lX rfl]
  split
  .show ar (vf (aw (a 0 _ (r.rev ⋯ (by rw[r.size];lia)) (Xf _))))
  .show aw (a 0 _ r (Xf _))
def Ef(c:Cmp prog w A SI (kindOf st) D)(d:∀x∈(sk st).toList,D x)(g:lo+nrem<=(sk st).size)(h:∀n a,CR st a lo->1<=n->n<=nrem->Q (hX n) a)
 (r:CR st st2 lo) (s:n<nrem):(SC prog w A SI) (cu2 lo nrem n) Q st2:=by
 show ar (jW ?_);show ar (cH (b7 (Q:=λx a=>CR st a lo/\∃m q,x=(hV,m,q)/\q+1<=m/\m<=nrem)
  (λj x a=>CR st a lo/\∃q,x=(hV,j,q)/\q+1<=j) s %[r,0,rfl|V1 _ _] ?_ ?_) ?_)
 .intro j x f u l %[e,q,rfl|b];show Ka c d e g b l %[e,j,q,rfl,b|Yf l] λk st2 r v=>%[r,k,rfl|X9 v]
 .intro x f %[e,q,rfl|b];show%[e,nrem,q,ρ,b|Zi _]
 .intro x f %[e,m,q,rfl,i|o];let p:=nI (V1 _ _) i;dsimp only
  split
  .show ar (vf (Ee c d g h (e.rev ⋯ (by rw[e.size];lia)) p o))
  .show Ee c d g h e p o
def wG{lo nrem:jg}{st:nX}(c:Cmp prog w A SI (kindOf st) D)(d:∀x∈(sk st).toList,D x)(i:1<=nrem)(f:lo+nrem<=(sk st).size)
 (h:∀n a,CR st a lo->1<=n->n<=nrem->Q (hX n) a):(SC prog w A SI) (W3 lo nrem) Q st:=by
 rw[LA];show ar (cH (b7 (Q:=λx a=>a=st/\∃n,x=(hV,n)/\1<=n/\n<=nrem)
  (λj x a=>a=st/\x=(hV,j)) i %[rfl|rfl] ?_ ?_) ?_)
 .intro j x a g l %[rfl|rfl];show Ec c d (CR.refl _ lo) f l %[rfl,j,rfl,g|Yf l] %[rfl|rfl]
 .intro x a %[rfl|rfl];show%[ρ,nrem,ρ,i|Zi _]
 .intro x e %[q,n,rfl,n1|m];subst q;dsimp only;by_cases o:n=nrem
  .rw[lX (by simp[o])];show aw (h n e (CR.refl _ _) n1 m)
  rw[kw (by simp[o])];let p:n<nrem:=by lia
  split
  .show ar (pL c d (CR.refl _ lo) ⋯ ⋯ λb=>?_);cases b
   .show ar (vf (Ef c d f h ((CR.refl e lo).rev (Zi _) ⋯) p))
   .show aw (h n e (CR.refl _ _) n1 m)
  .show Ef c d f h (CR.refl e lo) p
end
section
variable{prog:nY}{w:v0}{A:wh}{SI:mu->Prop}{α β:Type}
def CR.move{a st:nX}{lo k l:jg}(h:CR a st lo)(b:lo+k<(sk st).size)(c:l<=k):CR a (UR st (bubble (sk st) (lo+k) (lo+k-(lo+l)))) lo:=
 %[h.kind,h.pend,h.fail,(bubble_perm _ _ _).trans h.perm|λi hi=>by
  rw[getElem?_bubble b _ ⋯,kw ⋯,kw ⋯];show h.same i hi]
def BT{lo n ok:jg}{e st:nX}(c:Cmp prog w A SI (kindOf e) D)(d:∀x∈(sk e).toList,D x)(r:CR e st lo)(o:1<=ok)(u:ok<=n)(y:lo+n<=(sk e).size)
 (h:∀a,CR e a lo->Q hY a):(SC prog w A SI) (binarySort' lo n ok) Q st:=by
 rw[binarySort'_eq,jg.max_eq_left o];show ar (cH (b7 (Q:=λx a=>x=(hV,())/\CR e a lo) (λk x a=>x=(hV,())/\CR e a lo) u %[rfl|r] ?_ λ_ _ h=>h) ?_)
 .intro k x f v z %[rfl|m];dsimp only;show ar (cH (b7 (Q:=λx a=>a=f/\∃l q,x=(hV,l,q)/\l<=q/\q<=k)
   (λj x a=>a=f/\∃l q,x=(hV,l,q)/\l<=q/\q<=k) (Xf _) %[rfl,0,k,rfl,Xf _|Zi _] ?_ λ_ _ h=>h) ?_)
  .intro j x p _ B %[rfl,l,q,rfl,i|g];dsimp only
   split
   .show aw %[rfl,l,q,rfl,i|g]
   .let o:l<=(l+q)/2:=by lia
    let s:(l+q)/2<q:=by lia
    generalize (l+q)/2=C at o s ⊢
    show ar (pL c d m ⋯ ⋯ λb=>?_);cases b
    .show aw %[rfl,_,q,rfl,s|g]
    .show aw %[rfl,l,_,rfl,o|⋯]
  .intro x p %[rfl,l,q,rfl,i|g];dsimp only;rw[moveDown'_eq];show ar (c8 (aw %[rfl|m.move (by rw[m.size];lia) (nI i g)]))
 .intro x f %[rfl|m];show aw (h f m)
end
abbrev d0:hH (hH Nq×jg)->jg->hH (jg×jg×jg)
 |[],_=>[]
 |(r,p)::t,o=>(o,~~~r,p)::d0 t (o+ ~~~r)
abbrev bI(a:hH (hH Nq×jg)):hH Nq:=(a\1).flatten
def cL(a b:hH _):bI (a++b)=bI a++bI b:=by simp[bI]
def bj(a:hH Nq×jg)(b:hH _):bI (a::b)=a.1++bI b:=by simp[bI]
def dQ:∀a b o,d0 (a++b) o=d0 a o++d0 b (o+ ~~~(bI a))
 |[],b,o=>by simp[d0,bI]
 |(r,p)::t,b,o=>by
  rw[Tn,d0,d0,dQ t b,bj,Z9,Tn,WJ]
def fJ:∀a o,~~~(d0 a o)= ~~~a
 |[],_=>rfl
 |(r,p)::t,o=>by rw[d0,Zr,Zr,fJ t]
structure RI (st0 st:nX) (rp:hH (hH Nq×jg)) (rest:hH Nq):Prop where
 kind:kindOf st=kindOf st0
 fail:NL st=hV
 perm:(sk st).toList.Perm (sk st0).toList
 arr:(sk st).toList=bI rp++rest
 pend:(q7 st).toList=d0 rp 0
 runs:∀r∈rp,r.1≠[]
def RI.size{a st:nX}{b:hH _}{rest:hH Nq}(h:RI a st b rest):(sk st).size=(sk a).size:=by
 rw[<-Zb,<-Zb,h.perm.length_eq]
def RI.psize{a st:nX}{b:hH _}{rest:hH Nq}(h:RI a st b rest):(q7 st).size= ~~~b:=by
 rw[<-Zb,h.pend,fJ]
section
variable{prog:nY}{w:v0}{A:wh}{SI:mu->Prop}{α β:Type}
def lG{D:Nq->Prop}{f st:nX}{a b:hH _}{X Y:hH Nq}{p m i:jg}{rest:hH Nq}{Q:ri->nX->Prop}(c:Cmp prog w A SI (kindOf f) D)(d:∀x∈(sk f).toList,D x)
 (h:RI f st (a++(X,p)::(Y,m)::b) rest) (hi:i= ~~~a) (k:∀Z g,RI f g (a++(Z,p)::b) rest-> ~~~Z= ~~~X+ ~~~Y->Q hY g):(SC prog w A SI) (TY i) Q st:=by
 subst hi;let e:=h.arr;rw[cL,bj,bj]at e;let u:(sk st).toList=bI a++X++Y++(bI b++rest):=by rw[e];simp
 let B:=λx n=>d x (h.perm.mem_iff.mp n)
 let l:=h.pend;rw[dQ,d0,d0,Su]at l;let pl:=fJ a 0;let C:=by
  let:(q7 st).toList[~~~a]?∣(~~~(bI a),~~~X,p):=by
   rw[l,Ya ⋯,pl,QF];rfl
  simpa using this
 let E:=by
  let:(q7 st).toList[~~~a+1]?∣(~~~(bI a)+ ~~~X,~~~Y,m):=by
   rw[l,Ya ⋯,pl,NN];rfl
  simpa using this
 let v:=h.runs (X,p) ∅;show zd (h.kind▸c) u v (h.runs (Y,m) ∅) B C E h.fail λZ g y z G H o=>?_
 let s: ~~~Z= ~~~X+ ~~~Y:=by rw[y.length_eq,Z9]
 show k Z g %[G.trans h.kind,H,?_,?_,?_|λr j=>?_] s
 .show PY ?_ h.perm;rw[z,u];rw[show bI a++X++Y++(bI b++rest)=bI a++(X++Y) ++(bI b++rest) by simp];show SM _ (On _ y)
 .rw[z,cL,bj];simp
 .rw[o,on.toList_eraseIdxIfInBounds,SS,l,dQ,d0,Su];rw[Uf _ _ ⋯,pl,QF,hH.set_cons_zero];rw[hH.eraseIdx_append_of_length_le ⋯,pl,NN,hH.eraseIdx_cons_succ,hH.eraseIdx_cons_zero];rw[s,WJ]
 .rcases Xn j with j|j
  .show h.runs r (Yu _ j)
  .rcases Yw.mp j with rfl|j
   .intro q;let n:=NF.mpr v;dsimp only at q n;rw[q,Wc]at s
    lia
   .show h.runs r (by simp[j])
def CR.toRI{d b a:nX}{f:hH _}{rest:hH Nq}{lo n:jg}(h:RI d b f rest)(r:CR b a lo)(j: ~~~(bI f)=lo)(o:lo+n<=(sk b).size):
 ∃R c,RI d a f (R++c)/\ ~~~R=n:=by
 let l:=r.size;show%[((sk a).toList.drop lo).take n,(sk a).toList.drop (lo+n),%[r.kind.trans h.kind,r.fail.trans h.fail,(SU.mp r.perm).trans h.perm,?_,r.pend▸h.pend|h.runs]|?_]
 .let e:(sk a).toList.take lo=bI f:=by
   let m:(sk a).toList.take lo=(sk b).toList.take lo:=by
    apply Q2;intro i;rw[Re,Re]
    split
    .rename_i hi
     let:=r.same i hi;simpa using this
    .rfl
   rw[m,h.arr,Xc ⋯,Zn ⋯]
  rw[<-e];let g:=Xb n ((sk a).toList.drop lo);rw[W2]at g;rw[g,(Xb lo (sk a).toList)]
 grind
def nO{α:Type}(f:α->α):∀l x,(l++[x]).modify l.length f=l++[f x]
 |[],x=>rfl
 | y::l,x=>by
   rw[Tn,Zr,hH.modify_succ_cons,nO f l x,Tn]
def lH{α:Type}(l:hH α):l=[]\/∃a x,l=a++[x]:=by
 by_cases h:l=[]
 .show .inl h
 .show .inr %[l.dropLast,l.getLast h|(hH.dropLast_concat_getLast h).symm]
def BU{α:Type}(l:hH α)(h:1< ~~~l):∃a x y,l=a++x::y::[]:=by
 rcases lH l with rfl|⟨a,y,rfl⟩
 .simp at h
 .rcases lH a with rfl|⟨b,x,rfl⟩
  .simp at h
  .show%[b,x,y|by simp]
def RI.pushed{a st:nX}{c:hH _}{R rest:hH Nq}{lo m:jg}(h:RI a st c (R++rest))(d: ~~~(bI c)=lo)(e: ~~~R=m)(f:1<=m):RI a (QY st ((q7 st).push (lo,m,0))) (c++[(R,0)]) rest:=by
 show%[h.kind,h.fail,h.perm,?_,?_|λr b=>?_]
 .rw[h.arr,cL,bj];simp[bI]
 .rw[Rq,h.pend,dQ,d0,d0,Su,d,e]
 .rcases Xn b with b|b
  .show h.runs r b
  .rw[Xo b]
   grind
def RI.powered{a st:nX}{b:hH _}{rest:hH Nq}{X:hH Nq}{p:jg}(d:jg)(h:RI a st (b++[(X,p)]) rest):RI a (QY st ((q7 st).modify ((q7 st).size-1) λx=>(x.fst,x.2.fst,d))) (b++[(X,d)]) rest:=by
 show%[h.kind,h.fail,h.perm,?_,?_|λr c=>?_]
 .rw[h.arr,cL,cL,bj,bj]
 .rw[on.toList_modify,h.psize,h.pend,dQ,dQ];rw[show(b++[(X,p)]).length-1= ~~~(d0 b 0) by rw[fJ];simp];change hH.modify (d0 b 0++[_]) _ _=_;rw[nO];rfl
 .rcases Xn c with c|c
  .show h.runs r (Yu _ c)
  .rw[Xo c];show h.runs (X,p) ∅
abbrev srP(lo n:jg):J6 nX Sem (rM (lx SK×jg)):=do
 UX λs=>QY s ((q7 s).push (lo,n,0))
 pure (.yield (hV,lo+n))
abbrev sr1(size lo n:jg):J6 nX Sem (rM (lx SK×jg)):=do
 let s<-get
 match(q7 s).back? with
 | hX (a,n1,_)=>do
   let x<-forIn [0:size] (hV,()) λ_ _=>(do
    let s<-get
    match if(q7 s).size>1 then(q7 s)[(q7 s).size-2]? else hV with
    | hX (_,_,o)=>
      if o<=power' size (2*a+n1) (2*a+n1+n1+n) size then pure (.done (hV,()))
      else(do
       let b<-TY ((q7 s).size-2)
       if(!b)=hY then pure (.done (hX (),()))else pure (.yield (hV,())))
    | _=>pure (.done (hV,())))
   match x.1 with
   | some r=>pure (.done (hX r,lo))
   | none=>do
     UX λs=>QY s ((q7 s).modify ((q7 s).size-1) λx=>(x.1,x.2.1,power' size (2*a+n1) (2*a+n1+n1+n) size))
     srP lo n
 | _=>srP lo n
abbrev srO(size:jg)(x:lx SK×jg):J6 nX Sem (rM (lx SK×jg)):=
 if x.2>=size then pure (.done (hV,x.2))
 else do
  match<-W3 x.2 (size-x.2)with
  | some n=>
    if n<UY size size 0 then(do
     Ru "list.sort.binary-insertion"
     let b<-binarySort' x.2 (min (size-x.2) (UY size size 0)) n
     if(!b)=hY then pure (.done (hX (),x.2))else sr1 size x.2 (min (size-x.2) (UY size size 0)))
    else sr1 size x.2 n
  | _=>pure (.done (hX (),x.2))
abbrev srT(size:jg)(x:lx SK×jg):J6 nX Sem SK:=
 match x.1 with
 | some r=>pure r
 | none=>do
   let x<-forIn [0:size] (hV,()) λ_ _=>(do
    let s<-get
    if(q7 s).size<=1 then pure (.done (hV,()))
    else(do
     let b<-TY (if WH (λx=>decide (x<(q7 s)[(q7 s).size-2+1]?.elim 0 λx=>x.2.1)) (if(q7 s).size-2>0 then lx.map (λx=>x.2.1) (q7 s)[(q7 s).size-2-1]? else hV)=hY then(q7 s).size-2-1 else(q7 s).size-2)
     if(!b)=hY then pure (.done (hX (),()))else pure (.yield (hV,()))))
   match x.1 with
   | some r=>pure r
   | none=>pure ()
set_option smartUnfolding false in
def LB:sortRuns'=(do
 let s<-get
 let x<-forIn [0:(sk s).size] (hV,0) λ_ x=>srO (sk s).size x
 srT (sk s).size x):=by
 rw[sortRuns'_eq];rfl
def Eg{D:Nq->Prop}{st m:nX}{v:hH (hH Nq×jg)}{R e:hH Nq}{lo n:jg}{T:rM (lx SK×jg)->nX->Prop}(c:Cmp prog w A SI (kindOf st) D)(d:∀x∈(sk st).toList,D x)(o:RI st m v (R++e))(q: ~~~(bI v)=lo)(p: ~~~R=n)(J:1<=n)
 (L:∀a h,RI st h a e-> ~~~(bI a)=lo+n->T (.yield (hV,lo+n)) h):(SC prog w A SI) (sr1 (sk st).size lo n) T m:=by
 show ar (iu ?_);rcases lH v with y|⟨N,⟨O,U⟩,y⟩
 .subst y;let B:(q7 m).back? =hV:=by
   let:=o.psize;simp[on.back?,this]
  rw[B];show ar (c8 (aw (L _ _ (o.pushed q p J) (by rw[cL,Z9,q,bj];simp[bI,p]))))
 .let B:(q7 m).back?∣(~~~(bI N),~~~O,U):=by
   rw[<-on.getLast?_toList,o.pend,y,dQ,d0,d0,Su];simp
  rw[B];show ar (cH (b7 (Q:=λx h=>x=(hV,())/\∃a,RI st h a (R++e)/\a≠[]/\ ~~~(bI a)=lo) (λj x h=>x=(hV,())/\∃a,RI st h a _/\a≠[]/\ ~~~(bI a)=lo) (Xf _) %[rfl,v,o,by rw[y];simp|q] ?_ ?_) ?_)
  .intro j5 x f _ _ %[rfl,l,b,i|g];show ar (iu ?_);by_cases C:(q7 f).size>1
   .let%[r,%[z|E],%[Y5|q5]|rfl]:=BU l (b.psize▸C);let s:(q7 f).size-2= ~~~r:=by rw[b.psize];simp
    let G:(q7 f)[(q7 f).size-2]?∣(~~~(bI r),~~~z,E):=by
     let:(q7 f).toList[~~~r]?∣(~~~(bI r),~~~z,E):=by
      rw[b.pend,dQ,Ya (by rw[fJ];lia),fJ,QF,Su];rfl
     rw[s];simpa using this
    rw[lX C,G];dsimp only
    split
    .show aw %[rfl,_,b,i|g]
    .show ar (lG c d b s λZ5 Y H I=>aw %[rfl,_,H,by simp|?_]);rw[<-g,cL,cL,bj,bj,bj];simp[bI,I]
   .rw[kw C];show aw %[rfl,_,b,i|g]
  .intro x f %[rfl,l,b,i|g];show%[ρ,l,b,i|g]
  .intro x f %[rfl,l,b,i|g];dsimp only;let%[r,%[z|E]|rfl]:=(lH l).resolve_left i;show ar (c8 (ar (c8 (aw ?_))));let u:∀M,~~~(bI (r++[(z,M)]))=lo:=λM=>by
    rw[<-g,cL,cL,bj,bj]
   show L _ _ ((b.powered _).pushed (u _) p J) (by rw[cL,Z9,u,bj];simp[bI,p])
def sc_sortMany{D:Nq->Prop}{Q:SK->nX->Prop}{st:nX}(c:Cmp prog w A SI (kindOf st) D)(d:∀x∈(sk st).toList,D x)(h2:1<=(sk st).size)(hp:q7 st= #[])(hf:NL st=hV)
 (h:∀f,(sk f).toList.Perm (sk st).toList->NL f=hV->Q () f):(SC prog w A SI) sortRuns' Q st:=by
 rw[LB];show ar (iu ?_);show ar (cH (b7 (Q:=λx f=>∃e lo,x=(hV,lo)/\RI st f e [])
  (λj x f=>∃e rest lo,x=(hV,lo)/\RI st f e rest/\ ~~~(bI e)=lo/\j<=lo/\lo<=(sk st).size) (Xf _) %[[],_,0,rfl,%[rfl,hf,Nc _,rfl,by rw[hp];rfl|λ_ h=>(nomatch h)],rfl,Zi _|Xf _] ?_ ?_) ?_)
 .intro j x u _ hj %[e,rest,lo,rfl,g,m,G|H];unfold srO;dsimp only;let s1:=g.size;by_cases B:lo>=(sk st).size
  .rw[lX B];let I:rest=[]:=by
    let:=sU MR g.arr;rw[Z9,Zb,s1,m]at this;show Ds.mp ⋯
   subst I;show aw %[e,lo,rfl|g]
  rw[kw B];let T:∀x∈(sk u).toList,D x:=λx hx=>d x (g.perm.mem_iff.mp hx)
  let c1:Cmp prog w A SI (kindOf u) D:=g.kind▸c;show ar (wG c1 T ⋯ ⋯ λn o U n1 n2=>?_);dsimp only;by_cases v:n<UY (sk st).size (sk st).size 0
  .rw[lX v];show ar (jW (ar (BT c1 T U n1 ⋯ ⋯ λJ r3=>?_)));rw[kw ∅];let%[R,y,s|z]:=CR.toRI (n:=min ((sk st).size-lo) (UY (sk st).size (sk st).size 0)) g r3 m ⋯;show Eg c d s m z ⋯ λL f r l=>%[_,_,_,rfl,r,l,⋯|⋯]
  .rw[kw v];let%[R,y,s|z]:=CR.toRI (n:=n) g U m ⋯;show Eg c d s m z ⋯ λL f r l=>%[_,_,_,rfl,r,l,⋯|⋯]
 .intro x u %[e,rest,lo,rfl,g,m,G|H];let I:rest=[]:=by
   let:=sU MR g.arr;rw[Z9,Zb,g.size,m]at this;show Ds.mp ⋯
  subst I;show%[e,lo,ρ|g]
 .intro x u %[e,lo,rfl|g];unfold srT;dsimp only;let few:∀(e:hH (hH Nq×jg)),(∀r∈e,r.1≠[])-> ~~~e<= ~~~(bI e):=by
   intro e
   induction e with
   | nil=>intro _;show Xf _
   | cons r t ih=>
     intro hr;rw[bj,Zr,Z9];let:=NF.mpr (hr r ∅);let:=ih λq hq=>hr q (by simp[hq])
     lia
  let l1: ~~~e<=(sk st).size:=by
   let a1:=few e g.runs;let a2:=sU MR g.arr;rw[Zx,Zb,g.size]at a2
   lia
  show ar (cH (b7 (Q:=λx f=>x=(hV,())/\∃e,RI st f e []/\ ~~~e<=1) (λj x f=>x=(hV,())/\∃e,RI st f e []/\ ~~~e<=max 1 ((sk st).size-j)) (Xf _) %[rfl,e,g|⋯] ?_ ?_) ?_)
  .intro j x o _ hj %[rfl,e,g|M];show ar (iu ?_);by_cases N:(q7 o).size<=1
   .rw[lX N];show aw %[rfl,e,g|g.psize▸N]
   rw[kw N];let ab:1< ~~~e:=by rw[<-g.psize];lia
   generalize C:(if WH _ _=hY then(q7 o).size-2-1 else(q7 o).size-2)=i
   let hi:i+1< ~~~e:=by
    let E:∀(c:Prop) [P0 c] (n:jg),2<=n->(if c then n-2-1 else n-2) +1<n:=λc _ n hn=>by lia
    rw[<-C,<-g.psize];show E _ _ ⋯
   clear C;obtain⟨a,X,p,Y,q,b,rfl,O⟩:∃a X p Y q b,e=a++(X,p)::(Y,q)::b/\i= ~~~a:=by
    show%[e.take i,e[i].1,e[i].2,e[i+1].1,e[i+1].2,e.drop (i+2),?_|by rw[Yl];lia];let t1:=(Xb i e).symm;rw[Zy ⋯,Zy ⋯]at t1;show t1
   show ar (lG c d g O λZ J s zl=>?_);rw[kw ∅];show aw %[rfl,_,s|?_];simp only[Z9,Zr]at M hi ⊢
   lia
  .intro x o %[rfl,e,g|M];show%[ρ,e,g|⋯]
  .intro x o %[rfl,e,g|M];show aw (h o g.perm g.fail)
end
end _SB
namespace _ST
open PySem PySem.SetTable
def wH:∀k,∃q,5^(2^k)=1+2^(k+2)*(2*q+1)
 | 0=>%[0|rfl]
 | k+1=>by
   let%[q|e]:=wH k;show%[q+2^k*(2*q+1)*(2*q+1)|?_];rw[Qe 2 k,jg.pow_mul,e]
   grind
abbrev step(M i:jg):jg:=(i*5+1)%M
abbrev iter(M:jg):jg->jg->jg
 | 0,i=>i
 | n+1,i=>step M (iter M n i)
abbrev geo:jg->jg
 | 0=>0
 | n+1=>geo n*5+1
def vg:∀n,4*geo n+1=5^n
 | 0=>rfl
 | n+1=>by
   let:=vg n;rw[Qe,<-this,geo]
   lia
def lI(M:jg)(i:jg):∀n,iter M n i%M=(5^n*i+geo n)%M
 | 0=>by simp[iter,geo]
 | n+1=>by
   rw[iter,step,jg.mod_mod,geo,Qe];rw[U0,XJ,(lI M i n),<-XJ,<-U0]
   congr 1
   grind
def pM:∀(k i e:jg),e<2^k->∃n,n<2^k/\iter (2^k) n i%2^k=e
 | 0,i,e,c=>%[0,by simp|by simp at c;subst c;simp[jg.mod_one]]
 | k+1,i,e,c=>by
   let%[n,N|w]:=pM k i (e%2^k) (S5 _ (V0 k));let d:∀n,iter (2^(k+1)) n i%2^(k+1)%2^k=iter (2^k) n i%2^k:=λn=>by
    rw[RG _ (SL 2 (Yg k)),<-RG _ (SL 2 (Yg k)),lI,RG _ (SL 2 (Yg k)),lI]
   let%[q|b]:=wH k;let y:geo (2^k)=2^k*(2*q+1):=by
    let g:=vg (2^k);rw[b,jg.pow_add]at g;let:2^k*2^2*(2*q+1)=4*(2^k*(2*q+1)):=by
     rw[jg.mul_right_comm];lia
    lia
   let f:∀n,iter (2^(k+1)) (n+2^k) i%2^(k+1)=(iter (2^(k+1)) n i+2^k)%2^(k+1):=λn=>by
    rw[lI];let z:5^(n+2^k)*i+geo (n+2^k)=5^(2^k)*(5^n*i+geo n) +geo (2^k):=by
     let O:=vg (n+2^k);let Q:=vg n
     grind
    rw[z,b,y];let A:2^(k+1)=2*2^k:=by rw[Qe];lia
    let j:2^(k+2)=2*2^(k+1):=by rw[Qe];lia
    let p:=lI (2^(k+1)) i n
    generalize 5^n*i+geo n=v at p ⊢
    let B:(1+2^(k+2)*(2*q+1))*v+2^k*(2*q+1)=v+2^k+2^(k+1)*(2*((2*q+1)*v) +q):=by
     rw[jg.add_mul,jg.one_mul,j];let C:2*2^(k+1)*(2*q+1)*v=2^(k+1)*(2*((2*q+1)*v)):=by
      simp only[jg.mul_assoc,jg.mul_left_comm]
     let E:2^k*(2*q+1)=2^k+2^(k+1)*q:=by
      rw[A,XM,jg.mul_one]
      lia
     rw[C,E,XM]
     lia
    rw[B,jg.add_mul_mod_self_left,U0,<-p,<-U0]
   let l:=d n;rw[w]at l;let G:iter (2^(k+1)) n i%2^(k+1)<2^(k+1):=S5 _ (V0 _);let m:=f n;rw[U0,Ql (by lia:2^k<2^(k+1))]at m;obtain⟨a,r⟩:∃a,a=iter (2^(k+1)) n i%2^(k+1):=%[_|rfl]
   rw[<-r]at l G m;let o:a=e\/(a+2^k)%2^(k+1)=e:=by
    let s:=V2 a (2^k);let H:=V2 e (2^k);let I:a/2^k<2:=Uv ⋯;let J:e/2^k<2:=Uv ⋯;rw[l]at s
    generalize a/2^k=u at s I
    generalize e/2^k=v at H J
    let L:u=0\/u=1:=by lia
    let M:v=0\/v=1:=by lia
    rcases L with rfl|rfl<;> rcases M with rfl|rfl
    .left;lia
    .right
     rw[Ql ⋯]
     lia
    .right
     rw[show a+2^k=e+2^(k+1) by lia,jg.add_mod_right,Ql c]
    .left;lia
   rcases o with h|h
   .show%[n,⋯|by rw[<-r,h]]
   .show%[n+2^k,⋯|by rw[m,h]]
abbrev stand(t:nz)(h:oT):jg->Probe
 | 0=>t.probeStart h
 | n+1=>t.advance (stand t h n)
abbrev way(t:nz)(h:oT)(n:jg):jg:=(stand t h n).j
abbrev aP(t:nz)(h:oT):jg->jg×jg
 | 0=>(S8 h%(t.mask+1),S8 h)
 | r+1=>leap t.mask (aP t h r).1 (aP t h r).2
def nP(t:nz)(h:oT):∀n,(stand t h n).dummy=hV
 | 0=>rfl
 | n+1=>by
   let:=nP t h n;change(t.advance _).dummy=hV;unfold SJ
   split
   .show this
   .show this
def GK(m i:jg):Ny m i-i<=9:=by
 unfold Ny
 split<;> lia
def BV(t:nz)(h:oT):∀r,∃n,n<=10*r/\∀d,d<=Ny t.mask (aP t h r).1-(aP t h r).1->
 stand t h (n+d)=%[(aP t h r).1+d,Ny t.mask (aP t h r).1-(aP t h r).1-d,(aP t h r).1,(aP t h r).2|hV]:=by
 let a:∀n i b,stand t h n=%[i,Ny t.mask i-i,i,b|hV]->∀d,d<=Ny t.mask i-i->stand t h (n+d)=%[i+d,Ny t.mask i-i-d,i,b|hV]:=by
  intro n i b e d
  induction d with
  | zero=>intro _;rw[RD,e];rfl
  | succ d c=>
    intro f;change t.advance (stand t h (n+d))=_;rw[c ⋯];unfold SJ;rw[lX ⋯]
    grind
 intro r
 induction r with
 | zero=>show%[0,Xf _|a 0 _ _ rfl]
 | succ r c=>
   let%[n,g|e]:=c;let j:=GK t.mask (aP t h r).1;show%[n+(Ny t.mask (aP t h r).1-(aP t h r).1) +1,⋯|a _ _ _ ?_];change t.advance _=_;rw[e _ (Zi _)];unfold SJ;rw[kw ⋯];rfl
def GL(h:oT):S8 h<2^64:=by
 unfold S8
 grind
def pN(t:nz)(h:oT):∀r,(aP t h r).2=S8 h/32^r
 | 0=>by simp[aP]
 | r+1=>by
   change(aP t h r).2/32=_;rw[pN t h r,Ud,Qe]
def Eh(t:nz)(h:oT):∀r,(aP t h r).1<t.mask+1
 | 0=>S5 _ (TR _)
 | r+1=>S5 _ (TR _)
def kJ(t:nz)(h:oT):∀m,(aP t h (12+m)).1=iter (t.mask+1) m (aP t h 12).1
 | 0=>rfl
 | m+1=>by
   change((aP t h (12+m)).1*5+1+(aP t h (12+m)).2/32)%(t.mask+1)=step _ _;rw[kJ t h m,pN,Ud,<-Qe];let a:S8 h/32^(12+m+1)=0:=by
    show jg.div_eq_of_lt (Zg (GL h) (nI (by decide:2^64<=32^13) (Pa (!1) ⋯)))
   rw[a,RD];rfl
def pO(a:t.mask+1=2^k)(h:oT)(e:jg)(c:e<=t.mask):∃r,r<Rp t.mask/\(aP t h r).1=e:=by
 let%[n,d|b]:=pM k _ e ⋯;show%[12+n,by unfold Rp;lia|?_];rw[kJ,a];rw[<-a]at b;let:iter (t.mask+1) n (aP t h 12).1<t.mask+1:=by rw[<-kJ];show Eh t h _
 rw[Ql this]at b;show a▸b
def ze(a:t.mask+1=2^k)(h:oT)(e:jg)(b:e<=t.mask):∃n,n+10<=10*Rp t.mask/\way t h n=e:=by
 let%[r,f|c]:=pO a h e b;let%[n,g|d]:=BV t h r;show%[n,⋯|?_];let:=d 0 (Xf _);unfold way;rw[RD]at this;rw[this];show c
def wI(o:t.dummies= #[]){hashAt:jg->oT}:∀(fuel n m:jg),n<=m->m<n+fuel->t.slot (way t h m)= .empty->
 ∃q,n<=q/\q<=m/\(∀j,n<=j->j<q->∃i,t.slot (way t h j)= .live i/\hashAt i≠h)/\
  ((t.slot (way t h q)= .empty/\QJ t hashAt h fuel (stand t h n)∣.empty (way t h q) hV)\/
   ∃i,t.slot (way t h q)= .live i/\hashAt i=h/\QJ t hashAt h fuel (stand t h n)∣.candidate (way t h q) i (stand t h (q+1)))
 | 0,n,m,g,r,_=>by lia
 | fuel+1,n,m,g,r,p=>by
   let d:QJ t hashAt h (fuel+1) (stand t h n)=(match t.slot (stand t h n).j with
    | .empty=>hX _
    | .dummy=>QJ t hashAt h fuel (t.advance {stand t h n with dummy:=hX _})
    | .live i=>if hashAt i==h then hX _ else QJ t hashAt h fuel _):=rfl
   let l:(stand t h n).j=way t h n:=rfl;cases c:t.slot _ with
   | empty=>
     show%[n,Zi _,g,λj a b=>by lia|.inl %[c|?_]];rw[d,l,c,nP]
   | dummy=>
     exfalso;unfold slot at c;dsimp only at c
     split at c
     .lia
     .split at c
      .rename_i q
       rw[o]at q;simp[has]at q
      .lia
   | live i=>
     by_cases f:hashAt i=h
     .show%[n,Zi _,g,λj a b=>by lia|.inr %[i,c,f|?_]];rw[d,l,c];dsimp only;rw[lX (by simp[f])];rfl
     .let s:n≠m:=λq=>by rw[q,p]at c;cases c
      let%[q,z,u,v|w]:=wI o fuel (n+1) m ⋯ ⋯ p;let y:QJ t hashAt h (fuel+1) (stand t h n)=QJ t hashAt h fuel (stand t h (n+1)):=by
       rw[d,l,c];dsimp only;rw[kw (by simp[f])];rfl
      show%[q,⋯,u,λj a b=>?_|?_]
      .by_cases e:j=n
       .show e▸%[i,c|f]
       .show v j ⋯ b
      .show y▸w
def pP(xs:on jg)(j:jg)(d:∀a b (s:a<xs.size) (u:b<xs.size),a<b->xs[a]<xs[b]):∀(fuel lo hi:jg),hi-lo<=fuel->lo<=hi->hi<=xs.size->(∀i (h:i<xs.size),i<lo->xs[i]<j)->(∀i (h:i<xs.size),hi<=i->j<=xs[i])->
 T5 xs j fuel lo hi<=xs.size/\(∀i (h:i<xs.size),i<T5 xs j fuel lo hi->xs[i]<j)/\(∀i (h:i<xs.size),T5 xs j fuel lo hi<=i->j<=xs[i])
 | 0,lo,hi,p,q,f,g,l=>by
   let e:lo=hi:=by lia
   subst e;show%[f,g|l]
 | fuel+1,lo,hi,p,q,f,g,l=>by
   rw[T5];by_cases c:lo<hi
   .rw[lX c];dsimp only;let n:(lo+hi)/2<xs.size:=by lia
    let r:xs.getD ((lo+hi)/2) j=xs[(lo+hi)/2]:=by simp[SV,n]
    rw[r];by_cases m:xs[(lo+hi)/2]<j
    .rw[lX m];show pP xs j d fuel _ hi ⋯ ⋯ f (λi h o=>?_) l;by_cases e:i=(lo+hi)/2
     .subst e;show m
     .show W7 (d i _ h n ⋯) m
    .rw[kw m];show pP xs j d fuel lo _ ⋯ ⋯ ⋯ g (λi h o=>?_);by_cases e:i=(lo+hi)/2
     .subst e;lia
     .let:=d _ i n h ⋯
      lia
   .rw[kw c];let e:lo=hi:=by lia
    subst e;show%[f,g|l]
abbrev Ei(xs:on jg):Prop:=∀a b c (d:b<xs.size),a<b->xs[a]<xs[b]
def kK(a:Ei xs)(j:jg):Oh xs j<=xs.size/\(∀i (h:i<xs.size),i<Oh xs j->xs[i]<j)/\(∀i (h:i<xs.size),Oh xs j<=i->j<=xs[i]):=
 pP xs j a xs.size 0 xs.size ⋯ (Xf _) (Zi _) (λi h q=>n0 q (X4 _)) (λi h q=>by lia)
def Ej(a:Ei xs)(h:xs[i]?∣j):Oh xs j=i:=by
 let%[f,c|d]:=kK a j;let%[hi|e]:=vk.mp h;rcases Vj i _ with q|q|q
 .let:=c i hi q
  lia
 .show q.symm
 .let b:Oh xs j<xs.size:=by lia
  let:=d _ b (Zi _);let:=a _ i b hi q
  lia
def tJ{t:nz}(a:Ei t.place)(h:t.place[i]?∣j):t.slot j= .live i:=by
 unfold slot;dsimp only;rw[Ej a h,h];simp
def kL{t:nz}(a:Ei t.place)(b:t.dummies= #[])(j:jg):(∃i,t.place[i]?∣j/\t.slot j= .live i)\/(j∉t.place.toList/\t.slot j= .empty):=by
 by_cases h:j∈t.place.toList
 .let%[i|hi]:=Xg h;let hi:=↑hi
  show .inl %[i,hi|tJ a hi]
 .show .inr %[h|?_];unfold slot;rw[kw,kw]
  .rw[b];simp[has]
  .intro q;show h (Qf.mpr (OR ↑q))
def wJ(h:t.mask=t'.mask)(x:oT):∀n,stand t x n=stand t' x n
 | 0=>by
   change t.probeStart x=t'.probeStart x;unfold probeStart;rw[h]
 | n+1=>by
   change t.advance _=t'.advance _;rw[wJ h x n];unfold SJ;rw[h]
def tK(h:t.mask=t'.mask)(x:oT)(n:jg):way t x n=way t' x n:=by unfold way;rw[wJ h]
structure WF (t:nz) (es:on (oT×kj)):Prop where
 pow:∃k,t.mask+1=2^k
 big:7<=t.mask
 dum:t.dummies= #[]
 rise:Ei t.place
 inb:∀j∈t.place.toList,j<=t.mask
 size:t.place.size=es.size
 chain:∀(i j:jg) h x,t.place[i]?∣j->es[i]?∣(h,x)->∃n,way t h n=j/\∀m,m<n->way t h m∈t.place.toList
def nodup_sub [MP c]:∀{l m:hH c},l.Nodup->(∀x∈l,x∈m)-> ~~~l<= ~~~m
 |[],_,_,_=>Xf _
 | x::l,m,d,a=>by
   let%[f|g]:=NE.mp d;let b:=a x Zm;let h:=nodup_sub (m:=m.erase x) g λy i=>(Uo (λe=>f (!2))).mpr (a y (Zk _ i))
   rw[hH.length_erase_of_mem b]at h;let:=TF b;rw[Zr]
   lia
def zf(W:WF t v)(R:t.place.size<=t.mask)(h:oT):∃m,m+10<=10*Rp t.mask/\way t h m∉t.place.toList/\(∀q,q<m->way t h q∈t.place.toList):=by
 let%[k|l]:=W.pow;let ex:∃e,e<=t.mask/\e∉t.place.toList:=by
  show Nv λb=>?_
  let: ~~~(p0 (t.mask+1))<= ~~~t.place.toList:=nodup_sub Rx λx o=>(λe c=>Nv λq=>b %[e,c|q]) x (by let:=yc.mp o;lia)
  rw[Yj,Zb]at this
  lia
 let%[e,c|f]:=ex;let%[n,p|hw]:=ze l h e c;let:∀d,∀n,n<=d->n+10<=10*Rp t.mask->way t h n∉t.place.toList->∃m,m+10<=10*Rp t.mask/\way t h m∉t.place.toList/\(∀q,q<m->way t h q∈t.place.toList):=by
  intro d
  induction d with
  | zero=>
    intro n r g i;let:n=0:=by lia
    subst this;show%[0,g,i|λq j=>n0 j (X4 _)]
  | succ d s=>
    intro n r g i;by_cases a:∀q,q<n->way t h q∈t.place.toList
    .show%[n,g,i|a]
    .let%[q|j]:=Qn.mp a;let%[w|u]:=Classical.not_imp.mp j;show s q ⋯ ⋯ u
 show this n n (Zi _) p (hw▸f)
def lJ(xs:on a)(p:jg)(x:a)(b:p<=xs.size):(Nh xs p x).toList=xs.toList.take p++x::xs.toList.drop p:=by
 unfold Nh;rw[Xe,Rq,Rr,Rr,Oa,Oa];rw[UE,Ub,Zn (l:=xs.toList.drop p) ∅];simp
def zg(xs:on c)(x:c)(f:p<=xs.size)(i:jg):(Nh xs p x)[i]? =if i<p then xs[i]? else if i=p then hX x else xs[i-1]? :=by
 let e:(Nh xs p x)[i]? =(Nh xs p x).toList[i]? :=by simp
 rw[e,lJ xs p x f];let g: ~~~(xs.toList.take p)=p:=!2
 by_cases a:i<p
 .rw[lX a,Y9 ⋯,Re,lX a];simp
 .rw[kw a,Ya ⋯,g];by_cases b:i=p
  .rw[lX b,b,QF];rfl
  .rw[kw b];obtain⟨d,h⟩:∃d,i-p=d+1:=%[i-p-1|⋯]
   rw[h,hH.getElem?_cons_succ,Yb];rw[show p+d=i-1 by lia];simp
def jC(xs:on a)(p:jg)(x:a)(b:p<=xs.size):(Nh xs p x).size=xs.size+1:=by
 rw[<-Zb,lJ xs p x b,Z9,Zr,Yl,Yh,Zb]
 lia
def Ek(t:nz)(h:oT):∀n,(stand t h n).j+(stand t h n).more<=t.mask
 | 0=>by
   change S8 h%(t.mask+1) +(Ny t.mask _-S8 h%(t.mask+1))<=t.mask;let:=S5 (S8 h) (show 0<t.mask+1 from TR _);unfold Ny
   split<;> lia
 | n+1=>by
   let a:=Ek t h n;change(t.advance _).j+(t.advance _).more<=t.mask;unfold SJ
   split
   .lia
   .dsimp only[leap];let:=S5 ((stand t h n).i*5+1+(stand t h n).perturb/32) (show 0<t.mask+1 from TR _);unfold Ny
    split<;> lia
def vh(t:nz)(h:oT)(n:jg):way t h n<=t.mask:=by
 let:=Ek t h n;unfold way
 lia
def WF.put(W:WF t I)(T:way t h m∉t.place.toList)(U:∀q,q<m->way t h q∈t.place.toList)(r f:ri):
 (t.put (way t h m)).2=Oh t.place (way t h m)/\(t.put (way t h m)).1.mask=t.mask/\(t.put (way t h m)).1.place.size=t.place.size+1/\(t.put (way t h m)).1.led=t.led/\(t.put (way t h m)).1.plain=t.plain/\(t.put (way t h m)).1.moves=t.moves/\
  WF {(t.put (way t h m)).1 with led:=r,plain:=f} (Nh I (t.put (way t h m)).2 (h,x)):=by
 let Y:has t.dummies (way t h m)=iv:=by rw[W.dum];simp[has]
 let ep:t.put (way t h m)=({t with place:=Nh t.place (Oh t.place (way t h m)) (way t h m)},Oh t.place (way t h m)):=by
  unfold nz.put;dsimp only;rw[Y];rfl
 rw[ep];let%[g,J|L]:=kK W.rise (way t h m)
 generalize hp:Oh t.place (way t h m)=p at g J L
 let w:p<=I.size:=by rw[<-W.size];show g
 let s3:∀i (hi:i<t.place.size),p<=i->way t h m<t.place[i]:=λi hi q=>by
  let:=L i hi q;rcases U4 this with e|e
  .show n0 (by rw[e];simp) T
  .show e
 let c:∀y,y∈(Nh t.place p (way t h m)).toList↔y=way t h m\/y∈t.place.toList:=λy=>by
  rw[lJ _ _ _ g,Yt,Yw];let:=Xb p t.place.toList
  constructor
  .rintro(q|q|q)
   .show .inr (Yx q)
   .show .inl q
   .show .inr (hH.mem_of_mem_drop q)
  .rintro(q|q)
   .show .inr (.inl q)
   .rw[<-this]at q;rcases Xn q with q|q
    .show .inl q
    .show .inr (.inr q)
 show%[ρ,ρ,jC _ _ _ g,ρ,ρ,ρ,W.pow,W.big,W.dum,?_,?_,?_|?_]
 .intro a b ha A B;let l:(Nh t.place p (way t h m))[a]?∣(Nh t.place p (way t h m))[a]:=by simp
  let d:(Nh t.place p (way t h m))[b]?∣(Nh t.place p (way t h m))[b]:=by simp
  change(Nh t.place p (way t h m))[a]<(Nh t.place p (way t h m))[b];rw[zg _ _ g]at l d;let ab:b<t.place.size+1:=(jC t.place p (way t h m) g)▸A;by_cases C:a<p
  .rw[lX C]at l;let%[u|E]:=vk.mp l;rw[<-E];by_cases r:b<p
   .rw[lX r]at d;let%[f|v]:=vk.mp d;show v▸W.rise a b u f B
   .rw[kw r]at d;by_cases f:b=p
    .rw[lX f]at d;show(Za d)▸J a u C
    .rw[kw f]at d;let%[v|G]:=vk.mp d;show G▸W.rise a (b-1) u v ⋯
  .rw[kw C]at l;let r: ¬ b<p:=by lia
   let f: ¬ b=p:=by lia
   rw[kw r,kw f]at d;let%[v|G]:=vk.mp d;rw[<-G];by_cases u:a=p
   .rw[lX u]at l;show(Za l)▸s3 (b-1) v ⋯
   .rw[kw u]at l;let%[E|a4]:=vk.mp l;show a4▸W.rise (a-1) (b-1) E v ⋯
 .intro y hy;rcases(c y).mp hy with q|q
  .rw[q];show vh t h m
  .show W.inb y q
 .rw[jC _ _ _ g,jC _ _ _ w,W.size]
 .intro i j h' M hi o;let N:∀n,way {t with place:=Nh t.place p (way t h m),led:=r,plain:=f} h' n=way t h' n:=λn=>tK (t':=t) (by rfl) h' n
  let H:∃n,way t h' n=j/\∀q,q<n->way t h' q∈(Nh t.place p (way t h m)).toList:=by
   rw[zg _ _ g]at hi;rw[zg _ _ w]at o;by_cases O:i<p
   .rw[lX O]at hi o;let%[n,n1|z]:=W.chain i j h' M hi o;show%[n,n1|λq s=>(c _).mpr (.inr (z q s))]
   .rw[kw O]at hi o;by_cases Q:i=p
    .rw[lX Q]at hi o;cases hi;cases o;show%[m,ρ|λq s=>(c _).mpr (.inr (U q s))]
    .rw[kw Q]at hi o;let%[n,n1|z]:=W.chain (i-1) j h' M hi o;show%[n,n1|λq s=>(c _).mpr (.inr (z q s))]
  let%[n,n1|z]:=H;show%[n,by rw[N];show n1|λq s=>by rw[N];show z q s]
abbrev nb(t:nz)(h:oT):jg->jg
 | 0=>0
 | r+1=>nb t h r+(Ny t.mask (aP t h r).1-(aP t h r).1) +1
def El(t:nz)(h:oT):∀r d,d<=Ny t.mask (aP t h r).1-(aP t h r).1->
 stand t h (nb t h r+d)=%[(aP t h r).1+d,Ny t.mask (aP t h r).1-(aP t h r).1-d,(aP t h r).1,(aP t h r).2|hV]:=by
 let a:∀n i b,stand t h n=%[i,Ny t.mask i-i,i,b|hV]->∀d,d<=Ny t.mask i-i->stand t h (n+d)=%[i+d,Ny t.mask i-i-d,i,b|hV]:=by
  intro n i b e d
  induction d with
  | zero=>intro _;rw[RD,e];rfl
  | succ d c=>
    intro f;change t.advance (stand t h (n+d))=_;rw[c ⋯];unfold SJ;rw[lX ⋯]
    grind
 intro r
 induction r with
 | zero=>show a 0 _ _ rfl
 | succ r c=>
   show a _ _ _ ?_;change t.advance _=_;rw[c _ (Zi _)];unfold SJ;rw[kw ⋯];rfl
def zh(t:nz)(h:oT)(r d:jg)(a:d<=Ny t.mask (aP t h r).1-(aP t h r).1):way t h (nb t h r+d)=(aP t h r).1+d:=by
 unfold way;rw[El t h r d a]
abbrev fZ(owner:on (lx jg))(j:jg):ri:=(owner.getD j (hX 0)).isSome
def tL(t:nz)(h:oT)(owner:on (lx jg)):∀(fuel r:jg),(∃a,r<=a/\a<r+fuel/\fZ owner (aP t h a).1=iv)->(∀m,m<nb t h r->fZ owner (way t h m)=hY)->
 ∃j n,OE t.mask owner fuel (aP t h r).1 (aP t h r).2∣j/\way t h n=j/\fZ owner j=iv/\∀m,m<n->fZ owner (way t h m)=hY
 | 0,r,⟨a,p,s,_⟩,_=>by lia
 | fuel+1,r,⟨a,p,s,g⟩,i=>by
   rw[OE];let u:Ny t.mask (aP t h r).1>=(aP t h r).1:=by unfold Ny;split<;> lia
   let tk:∀k,(owner.getD ((aP t h r).1+k) (hX 0)).isNone=!fZ owner ((aP t h r).1+k):=λk=>by
    unfold fZ;cases owner.getD ((aP t h r).1+k) (hX 0)<;> rfl
   cases l:(p0 (Ny t.mask (aP t h r).1+1-(aP t h r).1)).find? λk=>(owner.getD ((aP t h r).1+k) (hX 0)).isNone with
   | some k=>
     let%[o,b,bs,c|v]:=hH.find?_eq_some_iff_append.mp l;let d:k∈p0 (Ny t.mask (aP t h r).1+1-(aP t h r).1):=by rw[c];simp
     let d:=yc.mp d;let w:b=p0 k:=by
      let y: ~~~b=k:=by
       let:(p0 (Ny t.mask (aP t h r).1+1-(aP t h r).1))[~~~b]?∣k:=by rw[c];simp
       rw[Rz (by let:=(Xm this).1;simpa using this)]at this;show Za this
      let z:b=(p0 (Ny t.mask (aP t h r).1+1-(aP t h r).1)).take k:=by
       rw[c,<-y];simp
      rw[z,hH.take_range,Ry ⋯]
     dsimp only;show%[_,nb t h r+k,ρ,zh t h r k ⋯,?_|λm f=>?_]
     .rw[tk]at o;simpa using o
     .by_cases q:m<nb t h r
      .show i m q
      .let:=v (m-nb t h r) (w▸yc.mpr ⋯);rw[tk]at this;rw[show m=nb t h r+(m-nb t h r) by lia,zh t h r _ ⋯];simpa using this
   | none=>
     let all:∀k,k<=Ny t.mask (aP t h r).1-(aP t h r).1->fZ owner ((aP t h r).1+k)=hY:=λk d=>by
      let:=(hH.find?_eq_none.mp l) k (yc.mpr ⋯);rw[tk]at this;simpa using this
     let A:r≠a:=λe=>by
      let:=all 0 (Xf _);rw[RD,e,g]at this;cases this
     dsimp only;show tL t h owner fuel (r+1) %[a,⋯,⋯|g] λm f=>by
      by_cases q:m<nb t h r
      .show i m q
      .let f:m<nb t h r+(Ny t.mask (aP t h r).1-(aP t h r).1) +1:=f;rw[show m=nb t h r+(m-nb t h r) by lia,zh t h r _ ⋯];show all _ ⋯
structure LO (t:nz) (hs:ZL) (owner:on _):Prop where
 size:owner.size=t.mask+1
 own:∀j q,owner[j]?∣hX q->∃h,hs[q]?∣h/\∃n,way t h n=j/\∀m,m<n->fZ owner (way t h m)=hY
 all:∀q,q< ~~~hs->∃j:jg,owner[j]?∣hX q
 one:∀(j j' q:jg),owner[j]?∣hX q->owner[j']?∣hX q->j=j'
def iG(b:j<owner.size):fZ owner j=hY↔∃q,owner[j]?∣hX q:=by
 unfold fZ;let e:owner.getD j (hX 0)=owner[j]:=!2
 rw[e];let a:owner[j]?∣owner[j]:=by simp
 rw[a];cases owner[j]with
 | none=>simp
 | some q=>simp
def LO.step(L:LO t f owner)(J:t.mask+1=2^k)(room: ~~~f<=t.mask)(h:oT):
 ∃j,OE t.mask owner (Rp t.mask) (S8 h%(t.mask+1)) (S8 h)∣j/\LO t (f++[h]) (owner.setIfInBounds j (hX f.length)):=by
 let d:∀h n,way t h n<owner.size:=λh n=>by rw[L.size];let:=vh t h n;lia
 let ex:∃e,e<=t.mask/\fZ owner e=iv:=by
  show Nv λv=>?_
  let all:∀e,e<t.mask+1->fZ owner e=hY:=λe c=>by
   cases q:fZ owner e with
   | true=>rfl
   | false=>show n0 %[e,⋯|q] v
  letI g:jg->jg:=λe=>((owner[e]?).getD hV).getD 0
  let w:∀e,e<t.mask+1->owner[e]?∣hX (g e):=λe c=>by
   let%[q|o]:=(λe c=>(iG (L.size▸c)).mp (all e c)) e c;change owner[e]?∣hX (((owner[e]?).getD hV).getD 0);rw[o];rfl
  let nd:((p0 (t.mask+1)).map g).Nodup:=by
   rw[X2,X8];show Xh (λ{a b} M N A q=>A ?_) (X2.mp Rx);let E:=w b (yc.mp N);rw[<-q]at E;show L.one a b _ (w a (yc.mp M)) E
  let:=nodup_sub nd λy O=>by
   let%[e,c|rfl]:=Xp O;let%[h',l|_]:=L.own e _ (w e (yc.mp c));show yc.mpr (Xm l).1
  rw[Z6,Yj,Yj]at this
  lia
 let%[e,c|B]:=ex;let%[r,hr|o]:=pO J h e c;let%[j,n,Q,G,T|U]:=tL t h owner (Rp t.mask) 0 %[r,Xf _,⋯|o▸B] (λm p=>n0 p (X4 _));show%[j,Q|?_];let Y:j<owner.size:=G▸d h n;let nj:∀q,owner[j]? ≠hX _:=λq e=>by
  let:=(iG Y).mpr %[q|e];rw[T]at this;cases this
 let get:∀i,(owner.setIfInBounds j (hX f.length))[i]? =if j=i then hX _ else owner[i]? :=λi=>by
  rw[on.getElem?_setIfInBounds]
  split
  .first|rfl|simp
  .rfl
 let keep:∀i,fZ owner i=hY->i<owner.size->fZ (owner.setIfInBounds j _) i=hY:=λi hi H=>by
  let%[q|e]:=(iG H).mp hi;show(iG (PQ▸H)).mpr ?_;rw[get]
  split
  .show%[_|ρ]
  .show%[q|e]
 show%[by rw[PQ];show L.size,λi q e=>?_,λq o=>?_|λi I q e s=>?_]
 .rw[get]at e
  split at e
  .rename_i C
   cases e;show%[h,by simp,n,by rw[G,C]|λm p=>keep _ (U m p) (d h m)]
  .let%[h',l,n',e2|e3]:=L.own i q e;show%[h',(Y9 (Xm l).1)▸l,n',e2|λm p=>keep _ (e3 m p) (d h' m)]
 .rw[Z9,Yk]at o;by_cases e:q= ~~~f
  .show%[j|by rw[get,lX rfl,e]]
  .let%[i|hi]:=L.all q ⋯;show%[i|?_];rw[get,kw]
   .show hi
   .intro C;rw[<-C]at hi;show nj q hi
 .let u:∀i,owner[i]?∣hX f.length->J5:=λi e=>by
   let%[h',l|_]:=L.own i _ e;let:=(Xm l).1
   lia
  rw[get]at e s
  split at e<;> split at s
  .lia
  .cases e;show n0 s (λz=>u I z)
  .cases s;show n0 e (λz=>u i z)
  .show L.one i I q e s
def wK(c:t.mask+1=2^k)(a:on oT)(room:a.size<=t.mask+1):∃owner,layClean t.mask a∣owner/\LO t a.toList owner:=by
 let d:∀rest done owner,LO t done owner-> ~~~(done++rest)<=t.mask+1->
  ∃b,rest.foldl (λacc h=>do
   let(owner,k)<-acc
   let j<-OE t.mask owner (Rp t.mask) (S8 h%(t.mask+1)) (S8 h)
   pure (owner.setIfInBounds j (hX k),k+1)) (hX (owner,~~~done))∣(b,~~~(done++rest))/\LO t (done++rest) b:=by
  intro rest
  induction rest with
  | nil=>intro done owner L _;show%[owner,by simp|↑L]
  | cons h rest g=>
    intro done owner L i;simp only[Z9,Zr]at i;let%[j,f|l]:=L.step c ⋯ h;let%[b,e|L2]:=g _ _ l (!2);show%[b,?_|↑L2];rw[Y8];let m:(do
     let(owner,k)<-(hX (owner,~~~done))
     let j<-OE t.mask owner (Rp t.mask) (S8 h%(t.mask+1)) (S8 h)
     pure (owner.setIfInBounds j (hX k),k+1))∣(owner.setIfInBounds j (hX done.length),~~~(done++[h])):=by
     change(OE t.mask owner _ _ _).bind _=_;rw[f];simp
    rw[m,e];simp
 let n:LO t [] (Vq (t.mask+1) hV):=%[by simp,λj q e=>by
  rw[Tg]at e
  split at e<;> simp at e,λq o=>n0 o (X4 _)|λj p q e _=>by
  rw[Tg]at e
  split at e<;> simp at e]
 let%[owner,e|L]:=d a.toList [] _ n (room);show%[owner,?_|L];unfold layClean;rw[<-on.foldl_toList];rw[show(0)= ~~~([]) from rfl,e];rfl
def wL(n:jg):∀fuel k,3<=k->n<2^(k+fuel)->(2^k<=2*n\/k=3)->∃a,3<=a/\UQ n fuel (2^k)=2^a/\n<2^a/\(2^a<=2*n\/a=3)
 | 0,k,b,c,d=>%[k,b,rfl,c|d]
 | fuel+1,k,b,c,d=>by
   rw[UQ];by_cases h:2^k<=n
   .rw[lX h];let e:2^k*2=2^(k+1):=by rw[Qe]
    rw[e];show wL n fuel _ ⋯ ((show k+1+fuel=k+(fuel+1) by lia)▸c) (.inl ⋯)
   .rw[kw h];show%[k,b,ρ,⋯|d]
def zi(a:n<2^60):∃k,3<=k/\sizeAbove n=2^k/\n<2^k/\(2^k<=2*n\/k=3):=
 wL n 64 3 (Zi _) (Zg a (Pa (!1) ∅)) (.inr rfl)
def pQ [MP c]:∀{l m:hH c},l.Nodup->m.Nodup->(∀x,x∈l↔x∈m)->l.Perm m
 |[],m,_,_,h=>by
  cases m with
  | nil=>simp
  | cons x m=>show n0 ((h x).mpr Zm) ∅
 | x::l,m,d,b,h=>by
   let%[f|g]:=NE.mp d;show PY (UA x (pQ g (b.erase x) λy=>?_)) (hH.perm_cons_erase ((h x).mp Zm)).symm
   constructor
   .intro a;show(Uo (λe=>f (!2))).mpr ((h y).mp (Zk _ a))
   .intro a;rcases Yw.mp ((h y).mpr (hH.mem_of_mem_erase a))with q|q
    .show n0 q (λe=>by rw[e]at a;show b.not_mem_erase a)
    .show q
def laid_ok{t:nz}(hp:t.mask+1=2^k)(E:7<=t.mask)(c:on (oT×kj))(room:c.size<=t.mask)(finger moves:jg)(led plain:ri):
 ∃t' d,laid t.mask finger moves led plain (c\1)∣(t',d)/\t'.mask=t.mask/\t'.led=led/\t'.plain=plain/\t'.moves=moves/\WF t' (d.filterMap (c[·]?))/\(d.filterMap (c[·]?)).toList.Perm c.toList:=by
 let%[owner,e|L]:=wK hp (c\1) (by rw[XP];lia);let G:(c\1).toList.length=c.size:=by simp
 obtain⟨live,v⟩:∃live,(p0 (t.mask+1)).filterMap (λj=>(owner.getD j hV).map (λq=>(j,q)))=live:=%[_|rfl]
 show%[%[t.mask,(live\1).toArray,#[],finger,led,moves|plain],(live\2).toArray,by unfold laid;rw[e,<-v];rfl,ρ,ρ,ρ,ρ|?_];let gd:∀j q,owner.getD j hV∣q↔owner[j]?∣hX q:=λj q=>by
  rw[on.getD_eq_getD_getElem?];cases owner[j]? with
  | none=>simp
  | some o=>simp
 let mem:∀j q,(j,q)∈live↔owner[j]?∣hX q:=λj q=>by
  rw[<-v,M6]
  constructor
  .rintro⟨H,ac,I⟩;let%[z,s|J]:=Mu.mp I;cases J;show(gd j q).mp s
  .intro ho;let:j<owner.size:=by
    let%[f|_]:=vk.mp ho;show f
   show%[j,yc.mpr (by rw[L.size]at this;show this)|?_];rw[(gd j q).mpr ho];rfl
 let r:(live\1).Pairwise (·<·):=by
  rw[<-v,X8,hH.pairwise_filterMap];show Xr (λ{a b} u x hx y M=>?_) hH.pairwise_lt_range;let%[_,_|rfl]:=Mu.mp hx;let%[_,_|rfl]:=Mu.mp M;show u
 let w:∀j q,(j,q)∈live->q<c.size:=λj q h=>by
  let%[h',s|_]:=L.own j q ((mem j q).mp h);let:=(Xm s).1
  lia
 let B:(live\2).Nodup:=by
  rw[X2,X8];show Xh (λ{a b} N E u g=>?_) (by rw[X8]at r;show r);let f:=(mem a.1 a.2).mp N;let O:=(mem b.1 b.2).mp E;rw[<-g]at O;let:=L.one _ _ _ f O
  lia
 let C:(live\2).Perm (p0 c.size):=pQ B Rx λq=>by
  constructor
  .intro g;let%[%[j|z],f|rfl]:=Xp g;show yc.mpr (w j z f)
  .intro g;let%[j|Q]:=L.all q (G▸yc.mp g);show Xq %[(j,q),(mem j q).mpr Q|rfl]
 let fm:∀(l:hH jg),(∀q∈l,q<c.size)->l.filterMap (c[·]?)=l.map (λq=>c.getD q (0,M9)):=by
  intro l
  induction l with
  | nil=>intro _;rfl
  | cons q l ih=>
    intro g;let f:=g q Zm;let s:c[q]?∣c.getD q (0,M9):=by simp[SV,f]
    rw[Y1,s,Yq,ih λy M=>g y (Zk _ M)]
 let T:((live\2).toArray.filterMap (c[·]?)).toList=(live\2).map (λq=>c.getD q (0,M9)):=by
  rw[on.toList_filterMap,Uw];show fm _ λq g=>by
   let%[%[j|z],f|rfl]:=Xp g;show w j z f
 let er:c.toList=(p0 c.size).map (λq=>c.getD q (0,M9)):=by
  apply RA
  .simp
  .intro i f O;let f:=↑f
   simp[SV,f]
 show%[%[%[k|hp],E,ρ,?_,λj Q=>?_,?_|λi j h x hi A=>?_]|?_]
 .intro a b N U u;let:=Tb.mp r a b (N) (U) u;simpa using this
 .let%[%[H|q],f|rfl]:=Xp Q;let:=(vk.mp ((mem H q).mp f)).1;rw[L.size]at this
  lia
 .rw[<-Zb (xs:=on.filterMap _ _),T];simp
 .let hi:(live\1)[i]?∣j:=↑hi
  let A:((live\2).toArray.filterMap (c[·]?)).toList[i]?∣(h,x):=↑A
  rw[T,Ys,Zl]at A;rw[Zl]at hi;cases Y:live[i]? with
  | none=>rw[Y]at hi;cases hi
  | some p=>
    let%[H|q]:=p;rw[Y]at hi A;cases hi;let hm:=Z8 Y;let%[h',s,n,n1|n2]:=L.own _ q ((mem _ q).mp hm);let g:=w _ q hm;let eh:h'=h:=by
     let J:(c\1).toList[q]?∣(c[q]).1:=by simp[g]
     rw[J]at s;let e3:c.getD q (0,M9)=c[q]:=by simp[SV,g]
     simp only[Function.comp,lx.map_some,e3,lx.some.injEq]at A;rw[A]at s;show(Za s).symm
    subst eh;let wm:∀n,way {mask:=t.mask,place:=(live\1).toArray,dummies:= #[],finger:=finger,led:=led,moves:=moves,plain:=plain} h' n=way t h' n:=λn=>tK (t':=t) (by rfl) h' n
    show%[n,by rw[wm];show n1|λm ab=>?_];rw[wm];let%[z|I]:=(iG (by rw[L.size];let:=vh t h' m;lia)).mp (n2 m ab);show Xq %[(way t h' m,z),(mem _ _).mpr I|rfl]
 .rw[T,er];show C.map _
section
variable{prog:nY}{w:v0}{K:Type}[MP K]{knd:KeyKind prog w K}{A:wh}{E:ZD}{s:mu}
abbrev EL(knd:KeyKind prog w K)(h:xl)(a:on (oT×kj)):Prop:=∀(i:jg) e,a[i]?∣e->∃r k,e=(zp knd k,m4 r)/\MA knd h k r
def nQ(g:MA knd s.heap ks r)(h:Q iv s):↥A (SA 8 (.ref r)) Q E s:=by
 let l:=g.typeIs;let%[o,c,n,m,_,p|hi]:=g;unfold SA;show Z2 (PB l (Z2 (Z3 (Z2 (Nl m p (Z2 ?_))))));rw[<-Q0];show WR _ (λrest r s'=>r=(hV,())/\s'=s/\∃i,ItemsAre knd i rest) _ ?_ ?_ _ _ %[rfl,rfl,ks|hi]
 .intro x rest r s' %[rfl,rfl,i|d];cases d with
  | @cons k1 v f j q b=>
    let u:=knd.byValue _ _ q;let e:SA 7 x=pure iv:=by
     cases x with
     | ref a=>simp[carriedByValue]at u
     | _=>first|rfl|lia|lia
    show Z2 ?_;rw[e];show Z3 (Z3 %[rfl,rfl,f|b])
 .intro r s' %[rfl,rfl|_];show Z3 h
def zj(d:MA knd s.heap ks r):∀(l:ZF),(∀y∈l,∃a c,y=m4 a/\MA knd s.heap c a)->∀{Q:ri->mu->Prop},Q iv s->↥A (searchCouldBeSeen (.ref r) l) Q E s:=by
 intro l g Q h;show Z2 (WR _ (λrest x s'=>x=(hV,())/\s'=s/\∀y∈rest,∃a c,y=m4 a/\MA knd s.heap c a) _ ?_ ?_ _ _ %[rfl,rfl|g])
 .intro y rest x s' %[rfl,rfl|e];let%[a,c,rfl|b]:=e y Zm;let f:=λy i=>e y (Zk _ i)
  dsimp only
  split
  .show Z3 %[rfl,rfl|f]
  .show Z2 (Vf d (Z2 (Vf b (Z2 (nQ d (Z2 (nQ b (Z3 %[rfl,rfl|f]))))))))
 .intro x s' %[rfl,rfl|_];show Z3 h
def vm(hu:A.units<Of)(ho:s.heap.get? a∣o)(hd:o.data= .set u ep t)(W:WF t u)(room:t.place.size<=t.mask)(ae:t.mask<=9000)
 (el:EL knd s.heap u) (hk:MA knd s.heap k r)
 (h1:(∃(i:jg) (g:ku),u[i]?∣(zp knd k,m4 g)/\MA knd s.heap k g)->Q (.there hV) s)
 (h2:∀m,way t (zp knd k) m∉t.place.toList->(∀q,q<m->way t (zp knd k) q∈t.place.toList)->(∀(i:jg) g v,u[i]?∣(zp knd v,m4 g)->MA knd s.heap v g->v≠k)->Q (.free (way t (zp knd k) m) iv) s):
 ↥A (setSearch a (.ref r) (zp knd k) hY) Q E s:=by
 generalize hh:zp knd k=h at h1 h2
 let hf:t.fits u.size=hY:=by
  unfold fits fill;rw[W.dum];simp[W.size];show W.size▸room
 let%[N,m1,m2|m3]:=zf W room h;let me:t.slot (way t h N)= .empty:=by
  rcases kL W.rise W.dum (way t h N)with⟨i,e,_⟩|⟨_,e⟩
  .show n0 (Qf.mpr (OR e)) m2
  .show e
 let ag:t.gaveWay=iv:=by
  let%[c|hc]:=W.pow;let hb:=W.big;let c0:c≠0:=λq=>by rw[q]at hc;lia
  let%[c'|rfl]:=jg.exists_eq_succ_of_ne_zero c0;rw[Qe]at hc;unfold gaveWay;let:t.mask%2=1:=by lia
  simp[this]
 let O:∀(fuel n:jg) (st:lx Probe),st.getD (t.probeStart h)=stand t h n->n<=N->N<n+fuel->(∀j,j<n->∀(i:jg) g v,t.slot (way t h j)= .live i->u[i]?∣(zp knd v,m4 g)->MA knd s.heap v g->v≠k)->
  ↥A (N7 a (.ref r) h hY fuel st) Q E s:=by
  intro fuel
  induction fuel with
  | zero=>intro n st _ a1 a2;lia
  | succ fuel ih=>
    intro n st ak hn a6 T;unfold N7;show Z2 (pw ho hd hf ?_);dsimp only;rw[ag];simp only[Zz,Op];rw[ak]
    generalize al:UJ t _ h (stand t h n)=pr
    let l:QJ t (λi=>((u[i]?)\1).getD 0) h (10*Rp t.mask) (stand t h n)=pr:=al;let%[q,q1,q2,q3|q4]:=wI (t:=t) W.dum (hashAt:=λi=>((u[i]?)\1).getD 0) (h:=h) (10*Rp t.mask) n N hn ⋯ me;rcases q4 with⟨J,e2⟩|⟨i,J,e2,e3⟩
    .rw[e2]at l;subst l;let hq:q=N:=by
      rcases U4 q2 with z|z
      .show z
      .let:=m3 q z;rcases kL W.rise W.dum (way t h q)with⟨i,_,U⟩|⟨z2,_⟩
       .rw[J]at U;cases U
       .show n0 this z2
     subst hq;dsimp only;show Z3 (h2 q m2 m3 λi g v p B C=>?_);subst C;rw[hh]at p;let hi:i<u.size:=(vk.mp p).1;let hp:t.place[i]?∣t.place[i]'(W.size▸hi):=by simp
     let%[Y,c1|c2]:=W.chain i _ h _ hp p;let G:=tJ W.rise hp;let an:Y<q:=by
      rcases Vj Y q with z|z|z
      .show z
      .rw[z,]at c1;rw[<-c1,me]at G;cases G
      .show n0 (c2 q z) m2
     rw[<-c1]at G;by_cases ab:Y<n
     .show T Y ab i g v G (hh▸p) B rfl
     .let%[H,U|ac]:=q3 Y ⋯ an;rw[G]at U;cases U;rw[p]at ac;show ac rfl
    .rw[e3]at l;subst l;obtain⟨x0,p⟩:∃e,u[i]?∣e:=by
      let as:t.place[i]?∣way t h q:=by
       rcases kL W.rise W.dum (way t h q)with⟨H,p1,I⟩|⟨_,I⟩
       .rw[J]at I;cases I;show p1
       .rw[J]at I;cases I
      let:=(vk.mp as).1;show%[u[i]'(W.size▸this)|by simp[<-W.size,this]]
     let%[g,v,rfl|B]:=el i x0 p;let bb:q<N:=jg.lt_of_le_of_ne q2 λz=>by rw[z,me]at J;cases J
     let L:↥A (do
      let f<-PF [m4 g] (eqBool (m4 g) (m4 r))
      let x<-setState a
      if(hY&&f)=hY then pure (Qr hV)
      else match x.2.snd.sameMemory t.moves t.mask with
       | some same=>
         match if same=hY then x.2.snd.slot (way t h q)else Slot.empty with
         | Slot.live H=>
           match x.fst[H]? with
           | hX (_,y')=>do
             let b<-isSame y' (m4 g)
             let d<-pure (if b=hY then hX H else hV)
             match d with
              | none=>do
                Ru "set.search.anew"
                N7 a (m4 r) h hY fuel hV
              | some H=>
                if f=hY then pure (Qr (hX H))
                else N7 a (m4 r) h hY fuel (hX (stand t h (q+1)))
           | none=>do
             let d<-pure hV
             match d with
              | none=>do
                Ru "set.search.anew"
                N7 a (m4 r) h hY fuel hV
              | some H=>
                if f=hY then pure (Qr (hX H))
                else N7 a (m4 r) h hY fuel (hX (stand t h (q+1)))
         | x=>do
           let d<-pure hV
           match d with
            | none=>do
              Ru "set.search.anew"
              N7 a (m4 r) h hY fuel hV
            | some H=>
              if f=hY then pure (Qr (hX H))
              else N7 a (m4 r) h hY fuel (hX (stand t h (q+1)))
       | x=>Pq "set.changed-during-lookup:is-the-new-block-at-the-old-address") Q E s:=by
      show Z2 (vu (wpAny_eqBool_tuple hu B hk (Z2 (pw ho hd hf ?_))));dsimp only;by_cases C:v=k
      .subst C;rw[Zf rfl];show Z3 (h1 %[i,g,(by rw[p]at e2;show e2)▸p|B])
      .rw[Zh C];let sm:t.sameMemory t.moves t.mask∣hY:=by unfold sameMemory;rw[lX ∅]
       rw[sm];simp only[Qp];rw[J];dsimp only;rw[p];dsimp only;let same:isSame (m4 g) (m4 g)=pure hY:=by
        unfold isSame;simp
       show Z2 ?_;rw[same];show Z3 ?_;simp only[Qp];show Z2 (Z3 ?_);dsimp only;show ih (q+1) _ rfl ⋯ ⋯ λj hj i2 r2 k2 s2 g2 t2=>?_
       by_cases a0:j<n
       .show T j a0 i2 r2 k2 s2 g2 t2
       .by_cases a3:j=q
        .subst a3;rw[J]at s2;cases s2;rw[p]at g2;let:g=r2:=by
          let:=Za g2;injection this with _ z
          injection z
         subst this;show(B.inj t2)▸C
        .let%[i3,p1|I]:=q3 j ⋯ ⋯;rw[s2]at p1;cases p1;rw[g2]at I;intro z;rw[z]at I;show I hh
     dsimp only;rw[p];dsimp only;by_cases M:(!t.led)=hY
     .rw[lX M];show Z2 (zj hk _ (λy hy=>?_) ?_)
      .let%[e,a4|rfl]:=Xp hy;let%[i2|hi2]:=on.getElem?_of_mem ((on.mem_filter.mp (Qf.mp a4)).1);let%[r2,k2,rfl|a5]:=el i2 e hi2;show%[r2,k2,ρ|a5]
      .show L
     .rw[kw M];show L
 show O 100000 0 hV rfl (Xf _) (by unfold Rp at m1;lia) (λj hj=>n0 hj (X4 _))
end
structure IN (es:on _) (t:nz) (led:ri):Prop where
 wf:WF t es
 roomy:t.place.size*5<t.mask*3
 small:t.mask<=7\/t.mask+1<=8*es.size
 led:t.led=led
 plain:es.size≠0->t.plain=iv
def IN.fits{a:on _}{t:nz}{led:ri}(I:IN a t led):t.fits a.size=hY:=by
 unfold N9 fill;rw[I.wf.dum];let:=I.roomy;simp[I.wf.size];rw[<-I.wf.size]
 lia
def IN.fresh(finger moves:jg)(led:ri):IN #[] (Pb finger moves led) led:=
 %[%[%[3|rfl],Zi _,rfl,λa b c=>n0 c (by simp[Pb]),λj d=>by simp[Pb]at d,rfl|λi j h x hi=>by simp[Pb]at hi],show 0*5<7*3 from !1,.inl (Zi _),rfl|λq=>n0 rfl q]
section
variable{prog:nY}{w:v0}{K:Type}[MP K]{knd:KeyKind prog w K}{A:wh}{E:ZD}{s:mu}
def relay_w(e:s.heap.get? a∣o)(f:o.data= .set c B t)(j:t.fits c.size=hY)(C:c.size<=n)(hw:n<=4000)
 (h:∀d t',d.toList.Perm c.toList->WF t' d->t'.led=t.led->t'.plain=t.plain->n<=t'.mask->t'.mask+1<=2*n\/t'.mask<=7->Q () {s with heap:=s.heap.update a (NU d t')}):
 ↥A (Vw a n) Q E s:=by
 let%[k,l,g,lt|m]:=zi (n:=n) ⋯;let G:8<=2^k:=nI (by simp:8<=2^3) (Pa ∅ l);let i:2^k<=2*n\/2^k=8:=by
  rcases m with q|q
  .show .inl q
  .show .inr (by rw[q])
 let p:2^k<=8000:=by rcases i with q|q<;> lia
 letI r:nz:={t with mask:=2^k-1}
 let%[t',b,u,H,v,y,I,W|P]:=laid_ok (t:=r) (k:=k) (by change 2^k-1+1=2^k;lia) (by change 7<=2^k-1;lia) c (by change c.size<=2^k-1;lia) t.finger _ t.led t.plain;let z:t.relaid (c\1) n∣(t',b):=by
  unfold relaid;rw[g];show u
 let sz:(b.filterMap (c[·]?)).size=c.size:=by rw[<-Zb,P.length_eq,Zb]
 show Z2 (pw e f j ?_);dsimp only;rw[g,kw (by rw[PySem.sizeLine_eq];lia)];rw[z];show Z2 ?_;change tI _ A (if((b.filterMap _).size != c.size)=hY then _ else pure _) _ E s;rw[kw (by simp[sz])];show Z3 (NJ e f (h _ t' P W v y ⋯ (by rcases i with q|q<;> lia)) (by rw[sz,PySem.sizeLine_eq];lia))
def Em(e:s.heap.get? a∣o)(f:o.data= .set c j t)(g:t.fits c.size=hY)(m:c.size<=1000)(n:c.size≠0)(d:t.plain=iv)
 (h:∀b t',b.toList.Perm c.toList->IN b t' t.led->t'.plain=iv->Q () {s with heap:=s.heap.update a (NU b t')}):
 ↥A (Vw a (grown c.size)) Q E s:=by
 let i:grown c.size=c.size*4:=by unfold grown;rw[kw ⋯]
 rw[i];show relay_w e f g ⋯ ⋯ λb t' P W l p q m2=>?_
 let sz:b.size=c.size:=by rw[<-Zb,P.length_eq,Zb]
 show h b t' P %[W,by rw[W.size,sz];lia,⋯,l|λ_=>p▸d] (p▸d)
def BW{led:ri}(N:A.units<Of)(p:s.heap.get? a∣o)(n:o.data= .set d ep t)(I:IN d t led)(hn:d.size+1<=1000)
 (el:EL knd s.heap d) (C:MA knd s.heap k r) (hv:∀(s':mu) (O:ri->mu->Prop),MA knd s'.heap k r->O iv s'->↥A (Tl 8 (.ref r)) O E s')
 (h1:(∃(i:jg) (u:ku),d[i]?∣(zp knd k,m4 u)/\MA knd s.heap k u)->Q iv {s with toks:=s.toks+(~~~k+1)})
 (T:(∀(i:jg) (u:ku) (G:hH K),d[i]?∣(zp knd G,m4 u)->MA knd s.heap G u->G≠k)->∀g t' H h',h'.get? a=hX {o with data:= .set g H t'}->vr a s.heap h'->g.toList.Perm (d.toList++[(zp knd k,m4 r)])->IN g t' led->Q hY {s with heap:=h',toks:=s.toks+(~~~k+1)}):
 ↥A (UT a (.ref r)) Q E s:=by
 unfold UT;show vu (Z2 (wpAny_pyHash_tuple N C ?_));unfold US;show vu ?_;unfold setAddHashedIn;show Z2 (pw (s:={s with toks:=s.toks+(~~~k+1)}) p n I.fits ?_);dsimp only;let ns:byScan (m4 r) d=iv:=rfl;rw[ns];simp only[Zz,Op];let rm:=I.roomy;show Z2 (vm (s:={s with toks:=s.toks+(~~~k+1)}) N p n I.wf ⋯ (by rcases I.small with q|q<;> lia) el C (λq=>?_) λm U m2 Y=>?_)
 .show Z3 (h1 q)
 .dsimp only;show Z2 (pw (s:={s with toks:=s.toks+(~~~k+1)}) p n I.fits ?_);dsimp only;let v:=I.wf;let%[p1,p2,p3,p4,p5,p6|Wp]:=v.put (x:=m4 r) U m2 t.led iv;let%[_,_,_,_,_,_|Wq]:=v.put (x:=m4 r) U m2 (t.put (way t (zp knd k) m)).1.led (t.put (way t (zp knd k) m)).1.plain;let y:(t.put (way t (zp knd k) m)).2<=d.size:=by
   rw[p1,<-v.size];show(kK v.rise _).1
  let e:(Nh d (t.put (way t (zp knd k) m)).2 (zp knd k,m4 r)).size=d.size+1:=jC _ _ _ y;let h:(Nh d (t.put (way t (zp knd k) m)).2 (zp knd k,m4 r)).toList.Perm (d.toList++[(zp knd k,m4 r)]):=by
   rw[lJ _ _ _ y];let q:=Xb (t.put (way t (zp knd k) m)).2 d.toList;show PY hH.perm_middle ?_;rw[q];show QC (l₁:=[_])
  generalize ab:Nh d _ _=c at Wp Wq e h
  let f:∀b:nz,WF b c->b.mask=t.mask->b.place.size=t.place.size+1->b.led=led->b.plain=iv->
   ↥A (do Vu a c b;if(!false&&b.tooFull)=hY then do Vw a (grown (d.size+1));pure hY else pure hY) Q E {s with toks:=s.toks+(~~~k+1)}:=λb z e1 e2 e3 e4=>by
   let J:=by
    let q:=MD (NU c b) p (by rw[RO c b n];rfl);rwa[RO c b n]at q
   let b1:=vr.update s.heap a (NU c b);show Z2 (NJ p n ?_ (e▸nI hn (!1)));let L:b.tooFull=hY↔b.mask*3<=b.place.size*5:=by
    unfold tooFull fill;rw[z.dum];simp
   by_cases hf:b.tooFull=hY
   .rw[lX (by simp[hf])];let B:b.fits c.size=hY:=by
     unfold N9 fill;rw[z.dum];simp[z.size];show z.size▸(by rw[e1,e2];let:=v.big;lia)
    rw[<-e];show Z2 (Em J rfl B ⋯ ⋯ e4 λj M P3 I3 _=>Z3 ?_);let g2:=by
     let q:=MD (NU j M) J (by rfl);rwa[RO j M rfl]at q
    show T Y j M _ _ g2 (b1.trans (vr.update _ a _)) (P3.trans h) (by rw[e3]at I3;show I3)
   .rw[kw (by simp[hf])];show Z3 (T Y c b _ _ J b1 h %[z,⋯,?_,e3|λ_=>e4]);rw[e1,e];rcases I.small with q|q
    .show .inl q
    .show .inr ⋯
  by_cases l:(t.put (way t (zp knd k) m)).1.plain=hY
  .rw[lX l];show Z2 (hv _ _ C (f _ Wp p2 p3 I.led rfl))
  .rw[kw l];show f _ Wq p2 p3 (p4.trans I.led) ↑l
end
end _ST
namespace _LL
open PySem PySem.Spec PyProof.Rows _ST
abbrev iY{a:Type}[MP a](ps:hH (ku×a))(p:ku×a):hH (ku×a):=if p.2∈ps\2 then ps else ps++[p]
abbrev bE{a:Type}[MP a](l:hH (ku×a)):hH (ku×a):=l.foldl iY []
section
variable{κ:Type}[MP κ]
def En{ps:hH _}{p q:ku×κ}(h:q∈iY ps p):q∈ps\/q=p:=by
 unfold iY at h
 split at h
 .show .inl h
 simp_all
def BX{ps:hH (ku×κ)}{p:ku×κ}{k:κ}:k∈(iY ps p)\2↔k∈ps\2\/k=p.2:=by
 unfold iY;by_cases h:p.2∈ps\2
 .rw[lX h];show%[.inl|λq=>q.elim id λe=>e▸h]
 .rw[kw h,Zd,Yt];simp
def zk{ps:hH (ku×κ)}{p:ku×κ}(h:(ps\2).Nodup):((iY ps p)\2).Nodup:=by
 unfold iY
 split
 .show h
 .rename_i a
  rw[Zd];show oK h a
def Ak:∀(l ps:hH (ku×κ)),(ps\2).Nodup->((l.foldl iY ps)\2).Nodup/\(∀k,k∈(l.foldl iY ps)\2↔k∈ps\2\/k∈l\2)/\(∀q∈l.foldl iY ps,q∈ps\/q∈l)
 |[],ps,h=>%[h,λk=>by simp|λq a=> .inl a]
 | p::l,ps,h=>by
   let%[b,c|d]:=Ak l _ (zk h);rw[Y8];show%[b,λk=>?_|λq a=>?_]
   .rw[c,BX,Yq,Yw]
    grind
   .rcases d q a with z|z
    .rcases En z with z|z
     .show .inl z
     .show .inr (z▸Zm)
    .show .inr (Zk _ z)
def eL(l:hH (ku×κ)):((bE l)\2).Nodup:=(Ak l [] X3).1
def iZ(l:hH (ku×κ))(k:κ):k∈(bE l)\2↔k∈l\2:=by
 let:=(Ak l [] X3).2.1 k;simpa [bE]using this
def br(l:hH (ku×κ)):∀q∈bE l,q∈l:=λq a=>by
 rcases(Ak l [] X3).2.2 q a with z|z
 .cases z
 .show z
def vo{l:hH (ku×κ)}{i:jg}{p:ku×κ}(h:l[i]?∣p):bE (l.take (i+1))=iY (bE (l.take i)) p:=by
 unfold bE;rw[Xa,h,U6];rfl
end
section
variable{prog:nY}{w:v0}{κ:Type}[MP κ]{knd:PySem.KeyKind prog w κ}{A:wh}{E:ZD}{s:mu}{a:ku}
abbrev vp(w:v0)(knd:PySem.KeyKind prog w κ)(a:ku)(ps:hH (ku×hH κ))(h:xl):Prop:=
 ∃o b c t,h.get? a∣o/\o.ExactSet/\o.data= .set b c t/\IN b t (!a7 w)/\b.toList.Perm (ps.map λp=>(zp knd p.2,m4 p.1))
def vp.keep(S:vp w knd a ps h)(k:∀o,h.get? a∣o->h'.get? a∣o):vp w knd a ps h':=by
 let%[o,b,c,t,d|r]:=S;show%[o,b,c,t,k o d|r]
def Al(x:MA knd h k r)(q:∀o,h.get? r∣o->h'.get? r∣o):MA knd h' k r:=by
 let%[o,b,n,c|z]:=x;show%[o,b,n,q o c|z]
def Eo(v:A.units<Of)(y:vp w knd a ps s.heap)(tk:∀q∈ps,MA knd s.heap q.2 q.1)(B:MA knd s.heap p.2 p.1)(room: ~~~ps+1<=1000)
 (C:∀(s':mu) (m:ri->mu->Prop),MA knd s'.heap p.2 p.1->m iv s'->↥A (Tl 8 (.ref p.1)) m E s')
 (n:∀h' b tk,vr a s.heap h'->vp w knd a (iY ps p) h'->s.toks<=tk->Q b {s with heap:=h',toks:=tk}):↥A (UT a (.ref p.1)) Q E s:=by
 let%[o,g,G,t,r,f,u,I|P]:=y;let hn:=by
  let:=P.length_eq;rw[Z6,Zb]at this;show this
 let mem:∀i e,g[i]?∣e->∃q∈ps,e=(zp knd q.2,m4 q.1):=λi e h=>by
  let:=Qf.mpr (OR h);let%[q,c|rfl]:=Xp (P.mem_iff.mp this);show%[q,c|ρ]
 let H:EL knd s.heap g:=λi e h=>by
  let%[q,c|rfl]:=mem i e h;show%[q.1,q.2,ρ|tk q c]
 show BW v r u I ⋯ H B C (λ⟨i,J,e,L⟩=>?_) λd j t' l h' M N O T=>?_
 .let%[q,c|U]:=mem i _ e;let Y:J=q.1:=by injection U with _ z;injection z
  subst Y;show n s.heap iv _ (vr.refl a s.heap) ?_ (PD _ _);unfold iY;rw[lX (Xq %[q,c|(L.inj (tk q c)).symm])];show%[o,g,G,t,r,f,u,I|P]
 .show n h' hY _ N ?_ (PD _ _);unfold iY;rw[kw]
  .show%[_,j,l,t',M,f,ρ,T|O.trans ?_];rw[Zd];show P.append_right _
  .intro hm;let%[q,c|e]:=Xp hm;let:=P.mem_iff.mpr (Xq %[q,c|rfl]);let%[i|hi]:=Xg this;show d i q.1 q.2 ↑hi (tk q c) e
end
section
variable{prog:nY}{w:v0}{κ:Type}[MP κ]{knd:PySem.KeyKind prog w κ}{A:wh}{E:ZD}{s:mu}
def rG(y:A.handled=hV)(Y:A.units+16<Of)(z:s.heap.IsList l a)(hi:a.toList=ps.map λp=>m4 p.1)(tk:∀p∈ps,MA knd s.heap p.2 p.1)(U:hH (hH κ))(hU: ~~~U<=999)(g:∀p∈ps,p.2∈U)
 (C:∀p∈ps,∀(B:wh) (s':mu) (d:ri->mu->Prop) (G:ZD),MA knd s'.heap p.2 p.1->d iv s'->↥B (Tl 8 (.ref p.1)) d G s')
 (H:∀(h':xl) (tk:jg),vp w knd ⇑s (bE ps) h'->(∀b o,s.heap.get? b∣o->h'.get? b∣o)->Q (.ref ⇑s) {s with heap:=h',toks:=tk}):
 ↥A (call (.type "set") [.ref l]) Q E s:=by
 let c:a.size= ~~~ps:=by rw[<-Zb,hi,Z6]
 show nN (T:=λi h=>vp w knd ⇑s (bE (ps.take i)) h) y z (λh e=>%[_,#[],0,_,e,%[rfl,rfl|rfl],rfl,IN.fresh 0 0 _|Nc _]) (λi h h' S k=>S.keep k) (λi v s1 Q E e I r k=>?_) λh' t S k=>H h' t (by rwa[c,Zn (Zi _)]at S) k
 rw[<-Ov,hi,Zl]at e;let%[p,u|rfl]:=Mu.mp e;let sub:∀q∈bE (ps.take i),q∈ps:=λq j=>Yx (br _ q j)
 let f:=Z8 u;show Eo (p:=p) (by simp only[wh.in1];lia) I (λq j=>Al (tk q (sub q j)) λo=>r _ o) (Al (tk p f) λo=>r _ o) ?_ (λs' d=>C p f _ s' d _) λJ b L M n N=>k J b L M (by rw[vo u];show n) N
 let q:=nodup_sub (eL (ps.take i)) (m:=U) λk O=>by
  let%[p,f|rfl]:=Xp ((iZ _ k).mp O);show g p (Yx f)
 rw[Z6]at q
 lia
end
open PySem PySem.Spec PyProof.Rows
section
variable{prog:nY}{w:v0}{A:wh}{s:mu}
def rH{a:ku}{vs:ZF}{n:jg}{kd:T8}{P:Fin->mu->Prop}{E:ZD}(q:s.heap.get? a∣OW "list" vs.toArray n)(u: ~~~vs<=100000)
 (f:∀j:xl,(∀b o,b≠a->s.heap.get? b∣o->j.get? b∣o)->2<= ~~~vs->∀Q:T8->mu->Prop,Q kd {s with heap:=j}->↥A (keyKind' vs.toArray) Q E {s with heap:=j})
 (G:∀j:xl,(∀b o,b≠a->s.heap.get? b∣o->j.get? b∣o)->_SB.Cmp prog w A (λs'=>s'={s with heap:=j}) kd λx=>x.1∈vs)
 (h:∀out:ZJ,out.toList.Perm vs->P (.done (.ret .none)) {s with heap:=QX s.heap a vs out}):
 ↥A (n7.«list.sort» %[[.ref a]|[]]) P E s:=by
 rw[list_sort_plain];let z:a<⇑s:=Zu q;let g: ~~~vs<=md:=nI u (!1);show Z2 (listItems_at q rfl ?_);show Z2 (Pn q rfl ?_ (g));obtain⟨y,l⟩:∃y,(s.heap.update a (NA λ_=> #[])).get? a∣(OW "list" #[] y):=%[_|get?_update_seq q (λ_=> #[])]
 show Z2 (Vx l rfl ?_);show Z2 (Rk ?_ (g));show Z2 (wpAny_newList ?_);show vu ?_;let keep:∀b o,b≠a->s.heap.get? b∣o->(((s.heap.update a (NA λ_=> #[])).push (OW "tuple" vs.toArray 0)).push (OW "list" #[] 0)).get? b∣o:=λb o H e=>
  Z7 _ (Z7 _ ((MK _ _ (I0 H)).trans e))
 let d:(((s.heap.update a (NA λ_=> #[])).push (OW "tuple" vs.toArray 0)).push (OW "list" #[] 0)).get? a∣(OW "list" #[] y):=by
  rw[Va _ _ _ (by rw[size_push',Vm];show Zs (Yn z)),Va _ _ _ (by rw[Vm];show Zs z)];show l
 let f:=f _ keep;change ↥A _ P E {s with heap:=((s.heap.update a (NA λ_=> #[])).push (OW "tuple" vs.toArray 0)).push (OW "list" #[] 0)};dsimp only;let I:vs.toArray.size= ~~~vs:=by simp
 let r:(vs.toArray.zip vs.toArray).toList=vs.map λv=>(v,v):=by
  rw[on.toList_zip,Uw];apply RA
  .simp
  .intro i N m;simp
 let fin:∀c:nX,(sk c).toList.Perm (vs.map λv=>(v,v))->P (.done (.ret .none)) {s with heap:=(QX s.heap a vs ((sk c)\2))}:=λc p=>h _ (by
  let:=p\2;rwa[Ys,show((λx:Nq=>x.2) ∘ λv:kj=>(v,v))=id from rfl,W9,<-on.toList_map]at this)
 by_cases m:vs.toArray.size<2
 .rw[lX m,lX m];show Z2 (Z3 ?_);rw[J6.run_pure];show Z2 (Z3 ?_);dsimp only;show Z2 (Vx d rfl (Z2 (Pn d rfl ?_ (hsz2:=by rw[XP];change(pairsOf vs).size<=_;rw[pairsOf_size,MN];omega))));simp only[WC,Zz,Op];show Z3 (fin _ (by rw[r]))
 .rw[kw m,kw m];show Z2 (f (by omega) _ ?_);show Z2 (Mz (_SB.sc_sortMany (D:=λx=>x.1∈vs) (st:=Ui kd (vs.toArray.zip vs.toArray) #[] 7 hV) (G _ keep) (λx B=>?_) ?_ rfl rfl
   (Q:=λ_ c=>(sk c).toList.Perm (vs.map λv=>(v,v))/\NL c=hV) (λc J L=>%[?_|L]) _ rfl) ?_ λ_ _ e=>e.elim)
  .rw[r]at B;let%[v,M|rfl]:=Xp B;show M
  .rw[<-Zb,r,Z6];omega
  .rwa[r]at J
  .rintro⟨⟨⟩,c⟩ s' ⟨rfl,p,C⟩;dsimp only at p C ⊢;show Z2 (Vx d rfl (Z2 (Pn d rfl ?_ (hsz2:=?_))))
   .rw[C];simp only[WC,Zz,Op];show Z3 (fin c p)
   .rw[XP,<-Zb,p.length_eq,Z6];show jg.le_succ_of_le g
nonrec abbrev Kp(s a:mu):Prop:=∀b o,s.heap.get? b∣o->a.heap.get? b∣o
def tM{S:ku}{G:ZF->Prop}{O:ZF->ZJ->Prop}{Q:ZD}{E:ZD}(d:∀(i:ZD) (R:ZF->mu->Prop),(∀c us,G us->Kp s c->c.gens=s.gens->c.os=s.os->R us c)->↥A.in1 (Q3 (.ref S)) R i s)(few:∀us,G us-> ~~~us<=1000)
 (r:∀(f:mu) (u:wh) (us:ZF) (a:ku) (P:Fin->mu->Prop) (i:ZD),G us->f.heap.get? a∣OW "list" us.toArray 0->(∀b o,s.heap.get? b∣o->f.heap.get? b∣o/\b≠a)->(∀out,O us out->P (.done (.ret .none)) {f with heap:=QX f.heap a us out})->↥u (n7.«list.sort» %[[.ref a]|[]]) P i f)
 (v:∀(c s':mu) (l:ku) (us:ZF) (out:ZJ) (n:jg),G us->O us out->Kp s c->c.gens=s.gens->c.os=s.os->Kp c s'->s'.gens=c.gens->s'.os=c.os->⇑c<=l->s'.heap.get? l=hX {cls:= .type "list",data:= .seq out n}->Q (.ref l) s'):
 ↥A (call (.builtin "sorted") [.ref S]) Q E s:=by
 show Calls.call_function_entry kind_sorted plain_sorted entry_sorted (args_sorted1 _) ?_;unfold n7.«sorted»;show Z2 (m:=checkCount "sorted" 1 1 _) (Z3 ?_);show Z2 (d _ _ λc us g k1 y z=>?_);show Z2 (wpAny_newList ?_ (by let:=few us g;rw[MN];lia));let j:(c.heap.push (OW "list" us.toArray 0)).get? ⇑c∣OW "list" us.toArray 0:=Zj _ rfl;show Z2 (vu (MC slot_list_sort %[_,j|rfl] entry_list_sort (r {c with heap:=c.heap.push (OW "list" us.toArray 0)} _ us _ _ _ g j (λb o e=>%[Z7 _ (k1 b o e)|Zs (Zu (k1 b o e))]) λout q=>%[_,rfl|?_]) (args_list_sort _)));obtain⟨n,B⟩:∃n,(QX (c.heap.push (OW "list" us.toArray 0)) ⇑c us out).get? ⇑c∣OW "list" out n:=sortedHeap_at j;show Z3 %[_,rfl|v c _ ⇑c us out n g q k1 y z (λb C p=>?_) rfl rfl (Zi _) B];let h:=Zu p;change(QX _ _ _ _).get? b=_;rw[sortedHeap_old (Zs h) (by rw[Zq];show Yn h)];show Z7 _ p
def wM{G:ZF->Prop}{kd:T8}(few:∀us,G us-> ~~~us<=1000)
 (j:∀us (c:mu) (d:wh) (l:ZD) (Q:T8->mu->Prop),G us->2<= ~~~us->Kp s c->Q kd c->↥d (keyKind' us.toArray) Q l c)
 (n:∀us x y (c:mu) (d:wh) (Q:ri->mu->Prop),G us->x∈us->y∈us->Kp s c->(∀b,Q b c)->↥d (keyLt' kd x y) Q (λ_ _=>J5) c)
 (f:mu) (d:wh) (us:ZF) (a:ku) (P:Fin->mu->Prop) (l:ZD) (g:G us) (p:f.heap.get? a∣OW "list" us.toArray 0) (i:∀b o,s.heap.get? b∣o->f.heap.get? b∣o/\b≠a) (h:∀out:ZJ,out.toList.Perm us->P (.done (.ret .none)) {f with heap:=QX f.heap a us out}):↥d (n7.«list.sort» %[[.ref a]|[]]) P l f:=
 rH p (by let:=few us g;lia) (λq m r u v=>j us _ _ _ u g r (λb o e=>m b o (i b o e).2 (i b o e).1) v) (λq m x y s' z B e=>by
  subst e;show n us _ _ _ _ _ g z B (λb o e=>m b o (i b o e).2 (i b o e).1) λ_=>rfl) h
end
abbrev aO(x y:lp):ri:=decide (x.cps.toList<y.cps.toList)
def dz(x:lp):aO x x=iv:=Zh (hH.lt_irrefl _)
def Kb{x y:lp}(h:x.cps.toList=y.cps.toList):x=y:=by
 obtain⟨⟨l⟩⟩:=x
 simp_all
def dR{x y z:lp}(a:aO x y=hY)(b:aO y z=hY):aO x z=hY:=Zf (hH.lt_trans (Zo a) (Zo b))
def fK{x y:lp}(h:aO x y=iv)(a:x≠y):aO y x=hY:=by
 show Zf (Nv λb=>a (Kb (hH.le_antisymm b (Sf h))))
def tN:∀(p:lp) (l:ZB),risingS p l=hY->(p::l).Pairwise (λa b=>aO b a=iv)
 | p,[],_=>Tw _ _
 | p,x::r,h=>by
   let h:(!ltCps x.cps.toList p.cps.toList&&risingS x r)=hY:=h;rw[Zv,Vb,ltCps_eq]at h;let d:=tN x r h.2;show Rc.mpr %[λy c=>?_|d];rcases Yw.mp c with rfl|c
   .show h.1
   .show Zh (Ul.mpr (hH.le_trans (Ul.mp (Sf h.1)) (Ul.mp (Sf (hH.rel_of_pairwise_cons d c)))))
def BY:∀(l:ZB),sortedS l=hY->l.Pairwise (λa b=>aO b a=iv)
 |[],_=>Qy
 | p::l,h=>tN p l h
section
variable{prog:nY}{w:v0}{A:wh}{s:mu}{E:ZD}
nonrec abbrev Kc(prog:nY)(w:v0)(h:xl)(zs:ZB)(r:ku):Prop:=MA (aT prog w) h (zs.map kG) r
def mY:∀{zs:ZB} {vs:ZF},ItemsAre (aT prog w) (zs.map kG) vs->MV vs zs
 |[],_,h=>by cases h;show .nil
 | z::zs,_,h=>by
   cases h with
   | cons a d=>
     let a:kg (kG z) _=hY:=a;rcases bg a with⟨i,t,b,c⟩|⟨y,t,b,c⟩
     .cases b
     .cases b;subst c;show .cons z t (mY d)
inductive lK:ZF->ZF->Prop where
 | nl (us:ZF):lK [] us
 | nr (us:ZF):lK us []
 | st (x y:lp) (t u:Tok) {vs us:ZF}:lK vs us->lK (.str x t::vs) (.str y u::us)
 | it (x y:oT) (t u:Tok) {vs us:ZF}:lK vs us->lK (.int x t::vs) (.int y u::us)
def tO:∀{x y:ZB} {vs us:ZF},MV vs x->MV us y->lK vs us
 |[],_,_,_,.nil,_=> .nl _
 | _::_,[],_,_,_,.nil=> .nr _
 | _::_,_::_,_,_,.cons _ t h,.cons _ u k=> .st _ _ t u (tO h k)
def LD{b fin:ri}{Q:ri->mu->Prop}(h:∀b,Q b s):∀{vs us:ZF} (i:jg),lK vs us->PySem.W.KatLex prog w A b fin Q (vs.zip us) i s:=by
 intro vs us i k
 induction k generalizing i with
 | nl=>show h fin
 | nr vs=>rw[hH.zip_nil_right];show h fin
 | st x y t u k a=>
   show kat_cons (eqBool_str (kat_go (λ_=>kat_yes (a _)) λ_=>kat_no ?_));cases b&&i==0 with
   | true=>show oneLt_str (h _)
   | false=>show kat_one _ _ (lt_str (h _))
 | it x y t u k a=>
   show kat_cons (WT (kat_go (λ_=>kat_yes (a _)) λ_=>kat_no ?_));cases b&&i==0 with
   | true=>show oneLt_int (h _)
   | false=>show kat_one _ _ (lt_int (h _))
end
def wN [MP d][MP i](g:d->i)(j:∀a b,g a=g b->a=b)(l:hH (ku×d)):bE (l.map λp=>(p.1,g p.2))=(bE l).map λp=>(p.1,g p.2):=by
 let m:∀(l ps:hH _),(l.map λp=>(p.1,g p.2)).foldl iY (ps.map λp=>(p.1,g p.2))=(l.foldl iY ps).map λp=>(p.1,g p.2):=by
  intro l
  induction l with
  | nil=>intro ps;rfl
  | cons p l n=>
    intro ps;rw[Yq,Y8,Y8];let e:iY (ps.map λp=>(p.1,g p.2)) (p.1,g p.2)=(iY ps p).map λp=>(p.1,g p.2):=by
     unfold iY;let f:(g p.2∈(ps.map λp=>(p.1,g p.2))\2)↔p.2∈ps\2:=by
      rw[Ys]
      constructor
      .intro h;let%[q,c|e]:=Xp h;show Xq %[q,c|j _ _ e]
      .intro h;let%[q,c|e]:=Xp h;show Xq %[q,c|by change g q.2=g p.2;rw[e]]
     by_cases h:p.2∈ps\2
     .rw[lX h,lX (f.mpr h)]
     .rw[kw h,kw (λz=>h (f.mp z)),Zd];rfl
    rw[e];show n _
 show m l []
noncomputable abbrev LF(p:ku×ZB):ku×hH Key:=(p.1,p.2.map kG)
def vt:∀a b:ZB,a.map (kG:lp->Key)=b.map kG->a=b
 |[],[],_=>rfl
 |[],_::_,h=>by cases h
 | _::_,[],h=>by cases h
 | x::xs,y::ys,h=>by
   injection h with c d
   injection c with e
   rw[e,vt xs ys d]
section
variable{prog:Program}{w:World}{A:Around}{E:ZD}{s:Shared}
variable{S:ku}
def pR:∀{vs:ZF} {zs:ZB},MV vs zs->ItemsAre (aT prog w) (zs.map kG) vs
 | _,_,.nil=> .nil
 | _,_,.cons x t h=> .cons (eB x t) (pR h)
def GM(c:zs≠[])(b:Kc prog w s.heap zs r)(h:Q iv s):↥A (Tl 8 (.ref r)) Q E s:=by
 let d:=b.typeIs;let%[o,a,n,e,_,f|hi]:=b;show Z2 (Pt d F.slot_tuple_hash.lookup (Z2 (Nl e f (Z2 ?_))));rw[<-Q0]
 match zs,a.toList,(mY hi),c with
 | z::zs,_,.cons _ t g,_=>
   show Z2 (Z2 (Z3 (Z3 (Z3 (Z3 h)))))
def Ep{j m:Type}{f:j->m}{x y:hH m}(h:x.Perm y):∀ps,y=ps.map f->∃ss:hH j,ss.Perm ps/\x=ss.map f:=by
 induction h with
 | nil=>show λps e=>%[[],!2|rfl]
 | cons a _ n=>
   intro ps e;cases ps with
   | nil=>cases e
   | cons p ps=>
     rw[Yq,Nx]at e;let%[ss,c|d]:=n ps e.2;show%[p::ss,c.cons p|by rw[e.1,d];rfl]
 | swap a b l=>
   intro ps e
   match ps,e with
   | p::q::ps,e=>
     rw[Yq,Yq,Nx,Nx]at e;show%[q::p::ps,.swap p q ps|!2]
 | trans _ _ g i=>
   intro ps e;let%[ss,c|d]:=i ps e;let%[ts,o|r]:=g ss d;show%[ts,o.trans c|r]
def wO{M:Type}{S:ku}{ps:hH (ku×M)}{G:ZF->Prop}{T:M5}{Q:ZD}(c:∀(N:ZD) (R:ZF->mu->Prop),(∀a vs,vs.Perm (ps.map λp=>m4 p.1)->(∀b o,s.heap.get? b∣o->a.heap.get? b∣o)->a.gens=s.gens->a.os=s.os->R vs a)->↥A.in1 (Q3 (.ref S)) R N s)(few: ~~~ps<=1000)
 (tk:∀p∈ps,∃o its n,s.heap.get? p.1∣o/\o.cls= .type "tuple"/\o.data= .seq its n/\G its.toList) (g1:∀i,G i->∃f r,i=f::r/\Pu f=pure (.type T)) (gT:(MW T != MW "tuple")=hY) (g2:∀i j,G i->G j->lK i j)
 (hQ:∀(a s':mu) (l:ku) (ss:hH (ku×M)) (n:jg),ss.Perm ps->(∀b o,s.heap.get? b∣o->a.heap.get? b∣o)->a.gens=s.gens->a.os=s.os->(∀b o,a.heap.get? b∣o->s'.heap.get? b∣o)->s'.gens=a.gens->s'.os=a.os->⇑a<=l->s'.heap.get? l=hX {cls:= .type "list",data:= .seq (ss.map λp=>m4 p.1).toArray n}->Q (.ref l) s'):
 ↥A (call (.builtin "sorted") [.ref S]) Q E s:=by
 let U:∀us:ZF,us.Perm (ps.map λp=>m4 p.1)-> ~~~us<=1000:=λus h=>by rw[h.length_eq,Z6];show few
 show tM (O:=λus out=>out.toList.Perm us) c U (wM (kd:=tuples' hY) U (λus Y A1 N Q g h2 k q=>?_) λus x y Y A1 Q g hx hy k q=>?_) λa s' l us out n g o k1 a1 a2 k2 a3 a4 hl gl=>?_
 .let tups:∀l:ZF,(∀v∈l,v∈ps.map λp=>m4 p.1)->∃fs:ZF,KatTups Y.heap l fs/\ ~~~fs= ~~~l/\∀f∈fs,Pu f=pure (.type T):=by
   intro l
   induction l with
   | nil=>show λ_=>%[[],KatTups.nil,rfl|λf z=>nomatch z]
   | cons v l ih=>
     intro m;let%[fs,B,f2|C]:=ih λu d=>m u (Zk _ d)
     let%[p,H|rfl]:=Xp (m v Zm);let%[o,its,n,I,c',J|L]:=tk p H;let%[f,r,e|ft]:=g1 _ L;show%[f::fs,KatTups.cons (k _ _ I) c' J (by rw[<-Ov,e];rfl) B,sU jg.succ f2|λu d=>?_];rcases Yw.mp d with rfl|d
     .show ft
     .show C u d
  let%[fs,B,f2|C]:=tups us λv m=>g.mem_iff.mp m
  show PySem.W.kat_kind (T:= .type T) B ⋯ (λf z=>RK.of_pure (C f z)) ∅ (gT▸q)
 .let%[p,H|rfl]:=Xp (g.mem_iff.mp hx);let%[r,hr|rfl]:=Xp (g.mem_iff.mp hy);let%[o,its,n,I,c',J|L]:=tk p H;let%[o2,its2,n2,g3,c3,d3|i3]:=tk r hr;show PySem.W.kat_lt (k _ _ I) J (k _ _ g3) d3 (LD q 0 (g2 _ _ L i3))
 .let%[ss,h1|e]:=Ep (o.trans g) ps rfl;show hQ a s' l ss n h1 k1 a1 a2 k2 a3 a4 hl (by rw[<-e];show gl)
def kM(j:∀(r:ZD) (R:ZF->mu->Prop),(∀f vs,vs.Perm (ps.map λp=>m4 p.1)->(∀b o,s.heap.get? b∣o->f.heap.get? b∣o)->f.gens=s.gens->f.os=s.os->R vs f)->↥A.in1 (Q3 (.ref S)) R r s)(tk:∀p∈ps,Kc prog w s.heap p.2 p.1)(u:∀p∈ps,~~~p.2=m)(v:m≠0)(few: ~~~ps<=1000)
 (y:∀(f s':mu) (l:ku) (ss:ZG) (n:jg),ss.Perm ps->(∀b o,s.heap.get? b∣o->f.heap.get? b∣o)->f.gens=s.gens->f.os=s.os->(∀b o,f.heap.get? b∣o->s'.heap.get? b∣o)->s'.gens=f.gens->s'.os=f.os->⇑f<=l->s'.heap.get? l=hX {cls:= .type "list",data:= .seq (ss.map λp=>m4 p.1).toArray n}->Q (.ref l) s'):
 ↥A (call (.builtin "sorted") [.ref S]) Q E s:=
 wO (G:=λvs=>∃zs:ZB,MV vs zs/\zs≠[]) (T:="str") j few (λp q=>by
  let%[o,its,n,g,c,d|i]:=tk p q;show%[o,its,n,g,c,d,p.2,mY i|λe=>v (by rw[<-u p q,e];rfl)]) (λ_ ⟨zs,h,n⟩=>by
  cases h with
  | nil=>show n0 rfl n
  | cons z t h=>show%[_,_,ρ|ρ]) (!1) (λ_ _ ⟨_,a,_⟩ ⟨_,b,_⟩=>tO a b) y
end
section
variable{X:Cx}{K:ZA}
abbrev pS(P:nY)(w:v0)(a:ku)(ps:ZG):HO:= .ext (vp w (aT P w) a (ps.map LF))
abbrev aE(H:Hp)(ps:ZG):Prop:=∀p∈ps,p.2≠[]/\H p.1&&&p.2\3
def oP(I:Qc X ij f H s)(h:aE H ps):∀p∈ps,Kc X.prog X.w s.heap p.2 p.1:=λp a=>by
 let%[_,its,b,o,c,d,n|e]:=I.hok p.1 _ (h p a).2;show%[o,its.toArray,n,c,d,e|pR (iS b)]
def vv:∀{ps:ZG} {us:ZF},aM (ps\0) us->us=ps.map λp=>m4 p.1
 |[],_,.nil=>rfl
 | _::_,_,.cons r t=>by
   cases r;rw[vv t];rfl
def oQ:∀(ps:ZG),aM (ps\0) (ps.map λp=>m4 p.1)
 |[]=> .nil
 | _::ps=> .cons rfl (oQ ps)
def BZ(v:X.calm=hY)(L:X.A.units+64<Of):cE X (.type "set") (λxs H Q=>db xs λj=>asR j λp=>∃ps,Qb X.K H p (ps\0)/\aE H ps/\(∃U:hH _,~~~U<=999/\∀q∈ps,q.2∈U)/\∀l,H l=hV->Q (.ref l) (Qa H l (pS X.prog X.w l (bE ps)))):=by
 intro ij s M H xs us Q I r h;let%[j,rfl|d]:=cc h;let%[p,rfl|e]:=aS d;let%[ps,w,m,%[U,N|f]|q]:=e;let%[u,rfl|y]:=dD r;cases y;let%[its,A,pl|O]:=I.list w;let C:=vv A;show rG (knd:=aT X.prog X.w) (I.ok.hd v) ⋯ pl.isList (ps:=ps.map LF) (!2) (λn a=>?_) (U.map λz=>z.map kG) (!2) (λn a=>?_) (λn a B s' T Y g i=>?_) λh' E S k=>?_
 .let%[b,c|rfl]:=Xp a;show(oP I m) b c
 .let%[b,c|rfl]:=Xp a;show Xq %[b.2,f b c|rfl]
 .let%[b,c|rfl]:=Xp a;show GM (m b c).1 g i
 .rw[(wN _ vt ps)]at S;show%[.ref ⇑s,_,I.laid (o:=pS X.prog X.w ⇑s _) k (Zi _) %[S,?_|λh1 h2 G k1=>vp.keep G k1],ρ|q _ I.fresh];let%[o,_,_,_,J|_]:=S;show%[o|J]
def vw(z:X.calm=hY):cE X (.builtin "sorted") (λxs H Q=>db xs λv=>asR v λa=>∃ps,H a∣pS X.prog X.w a ps/\aE H ps/\∃m,(∀p∈ps,~~~p.2=m)/\m≠0/\ ~~~ps<=1000/\∀l (ss:hH _),H l=hV->ss.Perm ps->Q (.ref l) (Qa H l (.lst (ss\0)))):=by
 intro ij s U H xs us Q I r h;let%[v,rfl|c]:=cc h;let%[a,rfl|d]:=aS c;let%[ps,A,B,m,C,E,few|q]:=d;let%[u,rfl|G]:=dD r;cases G;let%[%[o,e,Y,t,L,f,M,J|P],_|_]:=(I.hok a _ A)
 let hn:e.size= ~~~ps:=by
  let:=P.length_eq
  simp_all
 let pv:(e.toList\2).Perm (ps.map λp=>m4 p.1):=by
  let:=P\2;rw[Ys,Ys]at this;show this
 show kM (λE1 R N=>lE (I.ok.hd z) L f M (by change e.size<4096;lia) J.fits J.plain J.led λw vs O k1 i j _=>N w vs (O.trans pv) k1 i j) (oP I B) C E few λw s' l ss n y k1 i j k g o b T=>?_
 let I:=I.keptS k1 i j;show%[.ref l,_,I.stoodS (o:= .lst _) (I.keptS k g o) b %[?_,ss.map _,n,oQ ss|T],ρ|q l ss (I.hok.fresh b) y];rw[Z6,y.length_eq,MN]
 lia
def Er{P:nY}(h:X.K=K)(d:X.prog=P)(hw:X.w=w)(a:X.calm=hY)(b:bG k X.A):cF X (.type "set") (λxs H Q=>db xs λc=>asR c λp=>∃ps,Qb K H p (ps\0)/\aE H ps/\(∃U:hH ZB,~~~U<=999/\∀q∈ps,q.2∈U)/\∀l,H l=hV->Q (.ref l) (Qa H l (pS P w l (bE ps)))):=by
 subst h;subst hw;show⟨BZ a b.units⟩
def tP{P:nY}(d:X.prog=P)(hw:X.w=w)(b:X.calm=hY):cF X (.builtin "sorted") (λxs H Q=>db xs λc=>asR c λa=>∃ps,H a∣pS P w a ps/\aE H ps/\∃m,(∀p∈ps,~~~p.2=m)/\m≠0/\ ~~~ps<=1000/\∀(l:ku) (ss:ZG),H l=hV->ss.Perm ps->Q (.ref l) (Qa H l (.lst (ss\0)))):=by
 subst hw;show⟨vw b⟩
end
abbrev B0(K:ZA)(a b:ku):It:=⟨λi H=>∃xs ys x y,Qb K H a xs/\Qb K H b ys/\xs[i]?∣x/\ys[i]?∣y,
 λi H v c=>∃T x y,H T=hV/\v= .ref T/\c=Qa H T (.tup [x,y])/\(∀xs,Qb K H a xs->xs[i]?∣x)/\(∀ys,Qb K H b ys->ys[i]?∣y),
 λi H=>∃xs ys,Qb K H a xs/\Qb K H b ys/\i<= ~~~xs/\i<= ~~~ys/\(i= ~~~xs\/i= ~~~ys)⟩
def B1{P:nY}{K:ZA}(z TI TO i1 i2 l1 l2:ku)(D:ZipApart z TI TO i1 i2 l1 l2):
 rB P w K (.Tuple elts kt tp) (B0 K l1 l2) [z,TI,TO,i1,i2] z (ZSt z TI TO i1 i2 (λi h=>h.IsListIter i1 l1 i) (λi h=>h.IsListIter i2 l2 i)) where
 mem:=by simp
 obj:=λi h st b hb=>by
  let%[hz,hTI,%[a,c|hTO],%[o1,e1,_|d1],o2,e2,_|d2]:=st
  grind
 keep:=λi h h' st k=>by
  let%[hz,hTI,%[a,c|hTO],%[o1,e1|r1],o2,e2|r2]:=st;show%[k z ∅ _ hz,k TI ∅ _ hTI,%[a,c|k TO ∅ _ hTO],%[o1,k i1 ∅ _ e1|r1],o2,k i2 ∅ _ e2|r2]
 item:=by
  intro X hP hw hK hc i ij s σ H E I hf st hg;subst hP hw hK;let%[hz,hTI,%[a,c|hTO],h1|h2]:=st;let%[xs,ys,x,y,hq1,hq2,hx|hy]:=hg;let%[its1,rv1,pl1|hz1]:=I.list hq1;let%[its2,rv2,pl2|hz2]:=I.list hq2;let%[u1,hu1|ru1]:=rv1.get hx;let%[u2,hu2|ru2]:=rv2.get hy;show wpAny_pyNext_zip_item D hz hTI hTO h1 h2 pl1.isList pl2.isList (x:=u1) (y:=u2) ↑hu1 ↑hu2 λh' a1 a2 a3 a4 a5 a6 hk=>%[_,rfl|Uh (s:={s with heap:=h'}) a1 λh'' hz'' sb=>?_]
  replace sb:vr z h' h'':=sb;let kk:∀b o,b∉[z,TI,TO,i1,i2]->s.heap.get? b∣o->h''.get? b∣o:=λb o hb e=>by
   simp only[Yw,X6,M4,OY]at hb;show(sb.2 b hb.1).trans (hk b o hb.1 hb.2.2.1 hb.2.2.2.1 hb.2.2.2.2 e)
  let turn1:Qc X ij σ H {s with heap:=h''}:=I.moved hf kk;let Hn:H ⇑s=hV:=I.fresh;let I2:Qc X ij σ (Qa H ⇑s (.tup [x,y])) {s with heap:=h''}:=
   I.stood turn1 (Zi _) %[by change 2<=md;decide,[u1,u2],.cons ru1 (.cons ru2 .nil),_,((sb.2 _ (Yz (Zu hz))).trans a5),rfl,_|rfl]
  show%[.ref ⇑s,_,I2,ρ,%[_,x,y,Hn,ρ,ρ,λzs hzs=>(I.list_inj hzs hq1)▸hx|λzs hzs=>(I.list_inj hzs hq2)▸hy],%[hz'',(sb.2 _ D.TIz).trans (hk _ _ D.TIz D.TITO D.TIi1 D.TIi2 hTI),%[_,_|(sb.2 _ D.TOz).trans a2],?_|?_]|λb hb=>?_]
  .let%[o,e|r]:=a3;show%[o,(sb.2 _ D.i1z).trans e|r]
  .let%[o,e|r]:=a4;show%[o,(sb.2 _ D.i2z).trans e|r]
  .let:b<⇑s:=by
    simp only[Yw,X6,M4]at hb;let%[o1,q1|_]:=h1;let%[o2,q2|_]:=h2;rcases hb with rfl|rfl|rfl|rfl|rfl
    .show Zu hz
    .show Zu hTI
    .show Zu hTO
    .show Zu q1
    .show Zu q2
   rw[aq (Zs this)];show(hf b hb).1
 done:=by
  intro X hP hw hK hc i ij s σ H E I hf st hg;subst hP hw hK;let%[hz,hTI,%[a,c|hTO],h1|h2]:=st;let%[xs,ys,hq1,hq2,g1,g2|g3]:=hg;let%[its1,rv1,pl1|hz1]:=I.list hq1;let%[its2,rv2,pl2|hz2]:=I.list hq2;let n1:= ~~~rv1;let n2:= ~~~rv2;show wpAny_pyNext_zip_end (I.ok.hd hc) D hz hTI hTO h1 h2 pl1.isList pl2.isList (by
   rcases g3 with q|q
   .show .inl (by simp;lia)
   .show .inr (by simp;lia)) λh' hk=>%[rfl|?_]
  let kk:∀b o,b∉[z,TI,TO,i1,i2]->s.heap.get? b∣o->h'.get? b∣o:=λb o hb e=>by
   simp only[Yw,X6,M4,OY]at hb;show hk b o hb.1 hb.2.2.1 hb.2.2.2.1 hb.2.2.2.2 e
  show I.moved hf kk
 self:=λ_ _ _ _ _ st h=>QD st.1 h
abbrev HP(K:ZA)(d:TA):TI:=λe H R=>d e H λvs c=>mO vs λf x2=>asR f λa=>asR x2 λb=>(∃xs,Qb K c a xs)/\(∃ys,Qb K c b ys)/\R (B0 K a b) c
section
variable{X:Cx}{K:ZA}{pos:Pos}
def HQ(L:X.K=K){M p:Pos}{a b:yu}{B:TA}(N:Gl X "zip")(O:X.mg "zip"=hV)(Q:aV a=iv)(r:aV b=iv)(T:QA X [a,b] B):
 QI X (.Tuple C kt M) (.Call (.Name "zip" p) [a,b] [] pos) (HP K B):=by
 subst L
 constructor
 intro ij s U H R I h;show Call_ (jv I N O boot_zip (MS (thP (T.h pos ij s U H _ I h) λus c vs Y g r1 q1=>?_) (aB Q) (by rw[aB r];rfl)));let%[x1,x2,rfl|d]:=ju q1;let%[u,rfl|f]:=aS d;let%[v,rfl|w]:=aS f;let%[%[xs|d],%[ys|f]|q]:=w;let%[u1,u2,rfl,e1|e2]:=lq r1;cases e1;cases e2;let%[E,ab,l|ac]:=g.list d;let%[its2,ae,m|ag]:=g.list f;show call_zip_2 l.isList m.isList λh1 G y z hi1 hi2 _ hk=>QD G ?_
 let ne:∀i j,i≠j->⇑c+i≠⇑c+j:=λi j h e=>h (Q8 e)
 let na:∀i,u≠⇑c+i:=λi=>Zs (Zg (by let%[o,A|_]:=l.isList;show Zu A) (PD _ _))
 let nb:∀i,v≠⇑c+i:=λi=>Zs (Zg (by let%[o,A|_]:=m.isList;show Zu A) (PD _ _))
 show%[⇑c+4,[⇑c+4,⇑c+2,⇑c+3,⇑c+0,⇑c+1],_,B0 X.K u v,Y,ρ,(g.kept hk),
  B1 _ _ _ _ _ u v %[ne 2 4 (!1),ne 3 4 (!1),ne 0 4 (!1),ne 1 4 (!1),ne 2 3 (!1),ne 2 0 (!1),ne 2 1 (!1),ne 3 0 (!1),ne 3 1 (!1),ne 0 1 (!1),na 4,na 3,na 0,na 1,nb 4,nb 3,nb 0|nb 1],
  %[G,y,%[_,_|z],hi1|hi2],λb J=>?_|q]
 let n:⇑c<=b:=by
  simp only[Yw,X6,M4]at J;rcases J with rfl|rfl|rfl|rfl|rfl<;> show PD _ _
 show g.fpOk n (g.hok.fresh n)
end
open PySem PySem.Spec PySem.Calls PyProof.Rows PyProof.V PySem.W
abbrev Raw(h:xl)(d:ku)(a:on Tf)(b:jg):Prop:=∃o,h.get? d∣o/\o.ExactDict/\o.data= .dict a b
section
variable{prog:Program}{w:World}{A:Around}{E:ZD}{s:Shared}
variable{d it:ku}{es:on Tf}{ep i:jg}
def Raw.ty(h:Raw s.heap d es ep):s.TypeIs (.ref d) "dict":=%[h.choose,h.choose_spec.1|h.choose_spec.2.1.1]
def Raw.lt(r:Raw h d es ep):d<h.objs.size:=Zu r.choose_spec.1
def Raw.up(r:Raw h d es ep)(e:∀o,h.get? d∣o->h'.get? d∣o):Raw h' d es ep:=%[r.choose,e _ r.choose_spec.1|r.choose_spec.2]
def Es(lo:(d==Nr)=iv)(r:Raw s.heap d es ep)
 (h:Q (.ref ⇑s) {s with heap:=s.heap.push {cls:= .type "dict_keyiterator",data:= .fields #[.ref d,.int 0 0,.int es.size 0,.int ep 0]}}):↥A (UW (.ref d)) Q E s:=by
 let ty:=r.ty;let%[o,g,_|a]:=r;show Sv ty Wm (MC Wm ty F.entry_dict_iter (Z2 (Z2 (wpAny_notOrdered_dict ty (Z3 ?_)))) (F.args_dict_iter_1 _));change tI _ _ (Sq d>>= _) _ _ s;unfold Sq;rw[kw (lo▸Zt)];show Z2 (Z3 (Z2 (Sw g a (Z2 (Tt g a (Z2 (MG (Z3 %[_,rfl,"dict_keyiterator",_,%[_,Zj _ rfl|rfl],Nm.lookup|?_]))))))));simpa [MO]using h
def Et(k:s.heap.IsKeyIter it d i es.size ep)(r:Raw s.heap d es ep)(hi:i<es.size)
 (h:∀h',h'.IsKeyIter it d (i+1) es.size ep->vr it s.heap h'->Q (hX es[i].key) {s with heap:=h'}):↥A (Qd (.ref it)) Q E s:=by
 let%[o,b,f|a]:=id k;let%[od,c,_|e]:=r;unfold Qd;show Z2 (NB (M0 (name:=!"__next__") k.typeIs Nm (MC Nm k.typeIs SY ?_ (SQ _))));show Z2 (Z3 (Z2 (Z2 (Z2 (NY k.typeIs (Z3 (Z2 (Ro b a ?_))))))));rw[show Qs "dict_keyiterator"=iv by decide];change tI _ _ (if(m4 d==M9)=hY then _ else _) _ _ s;rw[kw (by show Zt)];show Z2 (Z3 (Z2 (Sw c e ?_)));rw[kw ∅];show Z2 (Z3 (Z2 (Tt c e ?_)));rw[kw ∅];show Z3 ?_;simp only[Op,OJ,Mw hi];show Z2 (Z2 (NY k.typeIs (Z3 (Z2 (Vd k.typeIs ?_)))));change tI _ _ (P9 (.ref it) 1 (MO ((i:oT) +1))>>= _) _ _ s;show Z2 (P4 b a ∅ ?_);let k2:(s.heap.update it (O9 (·.setIfInBounds 1 (MO ((i:oT) +1))))).IsKeyIter it d (i+1) es.size ep:=
  %[_,MD _ b (OT (Ol a _)),(R3 ..).trans f|by rw[Ol a];simp[MO]]
 show Z2 (vu (Z2 (Vd k2.typeIs (Z3 (Z3 %[_,rfl|Z3 (h _ k2 (vr.update ..))])))))
def GN(j:A.handled=hV)(k:s.heap.IsKeyIter it d i es.size ep)(r:Raw s.heap d es ep)(hi:es.size<=i)
 (h:∀h',ExtBut it s.heap h'->Q hV {s with heap:=h'}):↥A (Qd (.ref it)) Q E s:=by
 let%[o,c,l|e]:=id k;let%[od,f,_|g]:=r;unfold Qd;show Z2 (NB (M0 (name:=!"__next__") k.typeIs Nm (MC Nm k.typeIs SY ?_ (SQ _))));show Z2 (Z3 (Z2 (Z2 ?_)));show Z2 (NY k.typeIs (Z3 (Z2 (Ro c e ?_))));rw[show Qs "dict_keyiterator"=iv by decide];change tI _ _ (if(m4 d==M9)=hY then _ else _) _ _ s;rw[kw (by show Zt)];show Z2 (Z3 (Z2 (Sw f g ?_)));rw[kw ∅];show Z2 (Z3 (Z2 (Tt f g ?_)));rw[kw ∅];show Z3 ?_;simp only[show ¬ ((i:oT)<0)from by lia,Op,OJ,Oq hi];show Z2 (Z2 (NY k.typeIs (Z3 ?_)));change tI _ _ (P9 (.ref it) 0 .none>>= _) _ _ s;show Z2 (P4 c e ∅ (Z2 ?_));simp only[newExc,newTuple];show Z2 (m:=firstArgMember _ _) (Vs (a:=M9) (by first|rfl|(simp only[firstArgMember];rfl)) (MG ?_ (by size_fits)));simp only[Vy];show Z2 (wpAny_handled ?_);rw[show A.in1.handled=hV from j];show Z2 (Z3 (wpAny_throw ?_));show Z2 (NS (T:="StopIteration") (b:=hY) %[_,Zj _ rfl|rfl] T1 ?_);show Z3 (h _ (((vr.update ..).extBut.push _).push _))
def GO(lo:(d==Nr)=iv):KdlSrc prog w "dict" d d es.size (λi v=>∃h:i<es.size,v=es[i].key) (λh=>Raw h d es ep) where
 type:=λ_ r=>r.ty
 there:=λ_ r=>%[r.lt|r.lt]
 keep:=λ_ _ r hk=>r.up λo e=>hk d (.inl rfl) o e
 notList:=!1
 notTuple:=!1
 hint:=λ_ _ _ _ r hq=>kdl_hint_dict r.ty hq
 iter:=λA s hh r=>%[_,λi h=>h.IsKeyIter ⇑s d i es.size ep/\Raw h d es ep,(λ_ _ hq=>Es lo r hq),{
  sub:=λb hb=>!2
  frame:=λ_ _ _ st hk=>%[st.1.at λo e=>hk _ ∅ o e|st.2.up λo e=>hk d ∅ o e]
  item:=λi s' Q E hi st hQ=>Et st.1 st.2 hi λh' k' hs'=>hQ _ h' s'.toks %[hi|rfl] %[k'|st.2.up λo e=>hs'.extBut d o (Zs r.lt) e] λb o hb e=>hs'.extBut b o (λh=>hb (by simp[h])) e
  done:=λs' Q E st hQ=>GN hh st.1 st.2 (Zi _) λh' he'=>hQ h' s'.toks λb o hb e=>he' b o (λh=>hb (by simp[h])) e
  self:=λ_ _ _ _ st hQ=>Vr st.1 hQ},%[_,Zj _ rfl,rfl|rfl]|r.up λo e=>Z7 _ e]
def nS{P:jg->kj->Prop}{R:ZF->mu->Prop}(K:KdlSrc prog w T r d n P l)(m:A.handled=hV)(ok:l s.heap)(p:n<=md)
 (h:∀(h':xl) (tk:jg) (acc:ZJ),(∀b o,s.heap.get? b∣o->h'.get? b∣o)->⇑s<=h'.objs.size->ItemsOf P acc n->R acc.toList {s with heap:=h',toks:=tk}):↥A (Q3 (.ref r)) R E s:=by
 let lt:=K.there _ ok;show Z2 (TN (NI entry_proto_collect' (Z2 (MG (Z3 %[Pl Qj _|NI entry_list_iadd' ?_])))));rw[N5 Qj _];let g:=kdl_extend (s:={s with heap:=s.heap.push _})
  (R:=λq s'=>∃h' tk acc c,q= .ok (.ret (.ref ⇑s))/\s'={s with heap:=h',toks:=tk}/\(∀b o,s.heap.get? b∣o->h'.get? b∣o)/\h'.get? ⇑s=hX {cls:= .type _,dict:=hV,data:= .seq acc c,slots:= #[]}/\ItemsOf P acc n)
  K m (K.keep _ _ ok λb _ o e=>Z7 _ e) ⇑s (Yz lt.1) (Yz lt.2) _ 0 (Zj _ rfl)
  (λh' tk acc c j a it=>%[h',tk,acc,c,rfl,rfl,λb o e=>j b o (Zs (Zu e)) (Z7 _ e),a|it]) p
 show Mz g (λfin s' x=>?_) λe s' x=>?_
 .cases fin with
  | done f=>
    let%[h',tk,acc,c,e,rfl,j,a|it]:=x;cases e;show Z2 (TQ a (Z3 (h h' tk acc j (Yf (Zu a)) it)))
  | again c1=>
    show%[x.1|codeAny_mono x.2 λq u y=>?_];let%[h',tk,acc,c,rfl,rfl,j,a|it]:=y;show Z2 (TQ a (Z3 (h h' tk acc j (Yf (Zu a)) it)))
 simp_all
def nT{R:ZF->mu->Prop}(lo:(d==Nr)=iv)(f:A.handled=hV)(r:Raw s.heap d es ep)(g:es.size<=md)
 (h:∀(h':xl) (tk:jg),(∀b o,s.heap.get? b∣o->h'.get? b∣o)->⇑s<=h'.objs.size->R (es.toList.map (·.key)) {s with heap:=h',toks:=tk}):↥A (Q3 (.ref d)) R E s:=by
 show nS (GO lo) f r g λh' tk acc l c a=>?_
 let e:acc.toList=es.toList.map (·.key):=by
  apply Q2;intro j;rw[Zl,Ov,Ov];by_cases m:j<es.size
  .let n:j<acc.size:=a.1▸m;let%[_|q]:=a.2 j acc[j] ∅
   simp_all
  .rw[Oq (by rw[a.1];lia),Oq ⋯];rfl
 rw[e];show h h' tk l c
end
section
variable{X:Cx}{K:ZA}
def vx(hc:X.calm=hY):cE X (.builtin "sorted") (λxs H Q=>db xs λU=>asR U λa=>∃b,H a∣.dT b/\∃ks,b\1=ks.map (λk:ZB=>k.map kG)/\∃m,(∀k∈ks,~~~k=m)/\m≠0/\ ~~~ks<=1000/\∀(l:ku) (ss:ZG),H l=hV->aE H ss->(ss\2).Perm ks->Q (.ref l) (Qa H l (.lst (ss\0)))):=by
 intro ij s Y H xs us Q I r h;let%[U,rfl|A]:=cc h;let%[a,rfl|B]:=aS A;let%[b,ha,ks,c,m,hm,m0,few|q]:=B;let%[u,rfl|ru]:=dD r;cases ru;let%[_,lo,xs,C,o,z,ep,g,ex,dt,he,_|_]:=HE I.hok ha;let E:∀{b:hH (hH Key×V)} {xs:hH (hH Key×ku×kj)},KT H b xs->∀ks:hH ZB,b\1=ks.map (λk:ZB=>k.map kG)->∃ps:ZG,ps\2=ks/\(xs.map λx=>m4 x.2.1)=(ps.map λp=>m4 p.1)/\∀p∈ps,H p.1&&&p.2\3:=by
  intro b xs C
  induction C with
  | nil=>
    intro ks c;cases ks with
    | nil=>show%[[],ρ,ρ|λp d=>by cases d]
    | cons _ _=>cases c
  | @cons kv x b xs hx t ih=>
    intro ks c;cases ks with
    | nil=>cases c
    | cons k ks=>
      rw[Yq,Yq]at c;injection c with h1 h2
      let%[ps,j,G|L]:=ih ks h2;show%[(x.2.1,k)::ps,by rw[Yq,j],by rw[Yq,Yq,G]|λp d=>?_];rcases Yw.mp d with e|e
      .rw[e];let:=hx.2.1;rw[h1,Ys]at this;show this
      .show L p e
 let%[ps,j,G|L]:=E C ks c;let v:∀p∈ps,p.2∈ks:=λp d=>by rw[<-j];show Xq %[p,d|rfl]
 let ta:aE H ps:=λp d=>%[λe=>m0 (by rw[<-hm _ (v p d),e];rfl)|L p d]
 let ab: ~~~ps<=1000:=by rw[<-Z6 (f:=(·.2)),j];show few
 let M:Raw s.heap a z ep:=%[o,g,ex|dt]
 let w:z.toList.map (·.key)=ps.map λp=>m4 p.1:=by
  rw[he,Ys,<-G];rfl
 let N:z.size<=md:=by
  let: ~~~(z.toList.map (·.key))= ~~~(ps.map λp=>m4 p.1):=by rw[w]
  rw[Z6,Z6,Zb]at this;rw[MN];lia
 show kM (λE1 R hR=>nT lo (show X.A.in1.handled=hV from I.ok.hd hc) M N λh' tk k ac=>?_) (oP I ta) (λp d=>hm _ (v p d)) m0 ⋯ λs1 s' l ss n O k1 g1 o1 k g o y gl=>?_
 .rw[w];show hR _ _ (Nc _) k rfl rfl
 .let T:Qc X ij Y H s1:=I.keptS k1 g1 o1;let i:H l=hV:=T.hok.fresh y;let J:Qc X ij Y H s':=T.keptS k g o;show%[.ref l,_,T.stoodS (o:= .lst (ss\0)) J y %[?_,ss.map (λp=>m4 p.1),n,oQ ss|gl],ρ|q l ss i (λp d=>ta p (O.mem_iff.mp d)) (by rw[<-j];show O.map _)];rw[Z6,O.length_eq,MN]
  lia
def B2(c:X.calm=hY):cF X (.builtin "sorted") (λxs H Q=>db xs λd=>asR d λa=>∃b,H a∣.dT b/\∃ks,b\1=ks.map (λk:ZB=>k.map kG)/\∃m,(∀k∈ks,~~~k=m)/\m≠0/\ ~~~ks<=1000/\∀(l:ku) (ss:ZG),H l=hV->aE H ss->(ss\2).Perm ks->Q (.ref l) (Qa H l (.lst (ss\0)))):=⟨vx c⟩
def Kd:QE X (.Dict [] [] pos) yH:=⟨Dj⟩
def e7(c:bG k X.A)(d:OL a (hX (.Subscript o i b)) pos.line X.env=pure iv)(e:QE X a f)(g:QE X o h)(hi:QE X i ty):QS X (.Assign [.Subscript o i b] a pos) (pc h ty f):=
 ⟨Gh (by let:=c.units;lia) g.h hi.h e.h d⟩
def mZ [MP c](a:hH (c×V))(k:c)(v:V):(dc a k v)\1=if k∈a\1 then a\1 else a\1 ++[k]:=by
 unfold dc;let e:(a.any λb=>decide (b.1=k))=hY↔k∈a\1:=by
  grind
 by_cases h:k∈a\1
 .rw[lX (e.mpr h),lX h,Ys];show Yp λb _=>?_
  change(if b.1=k then(b.1,v)else b).1=b.1
  split<;> rfl
 .rw[kw (λz=>h (e.mp z)),kw h,Zd];rfl
end
structure wP (K:ZA) (mg:ZC) (x:lp):Prop where
 at_:mg x∣.ref (aG mg x)
 cls:Cls K (aG mg x)
structure wQ (K:ZA) (mg:ZC) (x m qual:lp) (st:zr) (ps:ZB):Prop where
 ex:∃f fd,F3 K (aG mg x) m f/\Fun K m qual st f fd/\dW K fd ps []
structure Eu (K:ZA) (mg:ZC) (x qual:lp) (st:zr) (ps:ZB):Prop where
 ex:∃f fd,Mk K (aG mg x) f/\Fun K "__init__" qual st f fd/\dW K fd ps []
structure B3 (P:nY) (w:v0) (K:ZA) (mg:ZC) (base:xl) (k:jg) (x m:lp) (ps:ZB) (sp:Sp):Prop where
 ex:∃f fd,eQ P w K mg base CX0 k f fd ps sp/\F3 K (aG mg x) m f/\dW K fd ps []
structure GP (P:nY) (w:v0) (K:ZA) (mg:ZC) (base:xl) (k:jg) (x:lp) (ps:ZB) (sp:Sp):Prop where
 ex:∃f fd,eQ P w K mg base CX0 k f fd ps sp/\Mk K (aG mg x) f/\dW K fd ps []
section
variable{P:nY}{w:v0}{K:ZA}{mg:ZC}{base:xl}{x m qual:lp}{st:zr}{N ps:ZB}{k:jg}{sp:Sp}
def wQ.cal(D:wQ K mg x m qual st ps)(S:au N ps (ao st))
 (a:∀(H:Hp) (vs:hH V) (Q:VK) (E:XK),sp vs H Q E-> ~~~vs= ~~~ps/\∀(f:ku) (b:kj) (A:wh) (outer:hH Env) (s:mu),bG k (A.deeper (Ng qual (ao st) ⇑s f b))->
  ∃t,PSs (fS CX0 P w K mg base N qual (ao st) f b A outer s H E).nox (bM st) t/\t {nx:=λ_ c=>Q .non c,rt:=Q} (start N vs) H):B3 P w K mg base (k+1) x m ps sp:=by
 let%[f,d,e,F|g]:=D.ex;show%[f,d,F.ok S (λv H Q E h=>(a H v Q E h).1) (λb A o s H v Q E r h=>(a H v Q E h).2 f b A o s r),e|g]
def Eu.cal(D:Eu K mg x qual st ps)(S:au N ps (ao st))
 (a:∀(H:Hp) (vs:hH V) (Q:VK) (E:XK),sp vs H Q E-> ~~~vs= ~~~ps/\∀(f:ku) (b:kj) (A:wh) (outer:hH Env) (s:mu),bG k (A.deeper (Ng qual (ao st) ⇑s f b))->
  ∃t,PSs (fS CX0 P w K mg base N qual (ao st) f b A outer s H E).nox (bM st) t/\t {nx:=λ_ c=>Q .non c,rt:=Q} (start N vs) H):GP P w K mg base (k+1) x ps sp:=by
 let%[f,d,e,F|g]:=D.ex;show%[f,d,F.ok S (λv H Q E h=>(a H v Q E h).1) (λb A o s H v Q E r h=>(a H v Q E h).2 f b A o s r),e|g]
end
section
variable{X:Cx}{K:ZA}{j k:jg}{x m:lp}{ps:ZB}{sp:Sp}{p pos apos:Pos}{o e:yu}{es:hH yu}{to te:TE}{t:TA}
def Ke(C:B3 X.prog X.w X.K X.mg X.base j x m ps sp)(c:wP X.K X.mg x)(d:bG k X.A)(a:Qw j k=hY)
 (g:MZ (.Call (.Attribute o m apos) [] [] pos) X.env=(do
  let b<-MZ o X.env
  Pk apos.atName
  let(f,first)<-PF [b] (QK b m pl)
  T4 pos f first (Nt pos (vi [] X.env)) (Qh pos (Od [] X.env)))) (h:QE X o to):QE X (.Call (.Attribute o m apos) [] [] pos) (zX (aG X.mg x) m sp [] E0 to Bt):=by
 let%[f,n,F,i|l]:=C.ex;show⟨C4 h.h c.cls i F (d.mono (Ye a)) l .nil Dk g⟩
def LG(C:GP X.prog X.w X.K X.mg X.base j x ps sp)(c:wP X.K X.mg x)(g:bG k X.A)(h:Gl X x)(a:Qw (j+1) k=hY)(b:(x==("__debug__"))=iv)(d:(e::es).any aV=iv)(i:QA X (e::es) t):
 QE X (.Call (.Name x p) (e::es) [] pos) (zY (aG X.mg x) sp [] E0 t):=by
 let%[f,q,F,l|n]:=C.ex;rw[Zw,X7]at d;show⟨F5 l F (g.mono (Ye a)) h c.at_ n .nil Dk i.h b (aB d.1) (dY d.2)⟩
def Kf(h:X.K=K)(a:iT o=iv)(b:QE X o to):QE X (.Attribute o f pos) (IV K to f):=by
 subst h;show⟨IX b.h (gQ a)⟩
def GQ(h:X.K=K)(c:gP a=iv)(d:QE X o to)(g:QE X a i):QS X (.Assign [.Attribute o f b] a pos) (IW K to i f):=by
 subst h;show⟨IY d.h g.h (jy c)⟩
end
structure GvT (K:ZA) (mg:ZC) (x:lp) (xs:hH V):Prop where
 ex:∃a,mg x∣.ref a/\∀H,SqT K H a xs
def Ev{K:ZA}{h:xl}{o:Ob}{its:ZJ}{n:jg}(X:K.In h)(G:h.Ns wy mg)(z:RY K wy x∣hX (.ref a))
 (b:K.lookup a∣o) (c:o.cls= .type "tuple") (d:o.data= .seq its n) (e:its.size<=md) (r:aM xs its.toList):GvT K mg x xs:=
 %[a,Oo X G z|λ_=> .inr %[o,its,n,b,c,d,e|r]]
def LH{X:Cx}{K:ZA}{x:lp}(h:X.K=K)(g:GvT K X.mg x xs)(b:Gl X x)(c:(x==("__debug__":lp))=iv):QE X (.Name x pos) (λ_ H Q=>∀a,(∀d,SqT K d a xs)->Q (.ref a) H):=by
 let%[a,e|f]:=g.ex;show⟨λij s i H Q I q=>HG (v:= .ref a) %[.ref a,e|rfl] b c ij s i H Q I (q a f)⟩
def LI{X:Cx}(c:∀e s,X.xe e s->J5)(d:QSs X a g):QS X (.Try a [h] [] [] pos) g:=by
 show⟨λij s i H D I q=>WU (Mz (d.h ij s i H D I q) (λf b q=>?_) λe b q=>(c e b q).elim)⟩;cases f with
 | next=>show Ot q
 | brk=>show q
 | cont=>show q
 | ret u=>show q
section
variable{X:Cx}{K:ZA}
variable{prog:Program}{w:World}{A:Around}{E:ZD}{s:Shared}
variable{S:ku}
def gZ{ks:ZB}{Q:ZD}(v:∀(m:ZD) (R:ZF->mu->Prop),(∀f us c,MV us c->c.Perm ks->(∀b o,s.heap.get? b∣o->f.heap.get? b∣o)->f.gens=s.gens->f.os=s.os->R us f)->↥A.in1 (Q3 (.ref S)) R m s)(few: ~~~ks<=1000)
 (U:∀(f s':mu) (l:ku) (vs:ZF) (ss:ZB) (n:jg),MV vs ss->ss.Perm ks->(~~~ks<64->ss.Pairwise (λa b=>aO b a=iv))->(∀b o,s.heap.get? b∣o->f.heap.get? b∣o)->f.gens=s.gens->f.os=s.os->(∀b o,f.heap.get? b∣o->s'.heap.get? b∣o)->s'.gens=f.gens->s'.os=f.os->⇑f<=l->s'.heap.get? l=hX {cls:= .type "list",data:= .seq vs.toArray n}->Q (.ref l) s'):
 ↥A (call (.builtin "sorted") [.ref S]) Q E s:=by
 let J:∀us:ZF,(∃c,MV us c/\c.Perm ks)-> ~~~us<=1000:=λus ⟨_,h,p⟩=>by rw[cn h,p.length_eq];show few
 show tM (G:=λus=>∃c,MV us c/\c.Perm ks) (O:=λus out=>∃ss,MV out.toList ss/\ss.Perm ks/\(~~~ks<64->ss.Pairwise (λa b=>aO b a=iv))) (λm R k=>v m R λf us c a b=>k f us %[c,a|b]) J (λY H us a P m g L kp h=>?_) λf s' l us out n g o k1 a1 a2 k2 a3 a4 hl gl=>?_
 .let%[c,d|C]:=g;let M:∀v1 i r,us=v1::i::r->keyKind' (v1::i::r).toArray=pure oneType':=λv1 i r e=>keyKind_strs (e▸d)
  let ll: ~~~us= ~~~ks:=by rw[cn d,C.length_eq]
  by_cases z: ~~~us<64
  .show list_sort_treeK strKind_oneLt L d.keysOf M z λab hp hs=>?_
   let%[ss,B,j|I]:=sorted_out_str d hp hs;show h _ %[ss,B,j.trans C|λ_=>BY ss I]
  .show wM (s:=s) (G:=λvs=>vs=us) (kd:=oneType') (λ_ e=>e▸J us %[_,d|C]) (λ_ s3 H m Q e j _ q=>?_) (λ_ x y s3 H Q e N T _ q=>?_) Y H us a P m rfl L kp λout p=>?_
   .rw[e]at j ⊢;obtain⟨v1,i,r,e⟩:∃v1 i r,us=v1::i::r:=by
     match us,j with
     | v1::i::r,_=>show%[v1,i,r|ρ]
    rw[e,M v1 i r e];show Z3 q
   .rw[e]at N T;let%[a,t|rfl]:=d.all _ N;let%[b,u|rfl]:=d.all _ T;rw[keyLt'_oneType];show oneLt_str (q _)
   .let%[ss,B|j]:=cq d p;show h out %[ss,B,j.trans C|λl=>n0 (ll▸l) z]
 .let%[ss,B,j|I]:=o;show U f s' l out.toList ss n B j I k1 a1 a2 k2 a3 a4 hl (by rw[on.toArray_toList];show gl)
end
def i4:∀{ks:ZB} {us:ZF},aM (ks\3) us->MV us ks
 |[],_,.nil=> .nil
 | _::_,_,.cons r t=>by
   let%[t'|rfl]:=r;show .cons _ _ (i4 t)
def d7:∀{ks:ZB} {us:ZF},MV us ks->aM (ks\3) us
 | _,_,.nil=> .nil
 | _,_,.cons _ t h=> .cons %[t|rfl] (d7 h)
section
variable{X:Cx}{K:ZA}
def B4(h:X.K=K):cF X (.builtin "sorted") (λxs H Q=>db xs λj=>asR j λa=>∃ks,Qb K H a (ks\3)/\ ~~~ks<64/\∀l (ss:ZB),H l=hV->ss.Perm ks->ss.Pairwise (λa b=>aO b a=iv)->Q (.ref l) (Qa H l (.lst (ss\3)))):=by
 subst h;show⟨λij s L H xs us Q I r h=>?_⟩;let%[j,rfl|d]:=cc h;let%[a,rfl|e]:=aS d;let%[ks,v,few|q]:=e;let%[u,rfl|w]:=dD r;cases w;let%[its,m,%[o,n,y,z,M|f]|N]:=I.list v;let O: ~~~its= ~~~ks:=by rw[<-m.length,Z6]
 show gZ (ks:=ks) (λT R A=>Wx a (.inl rfl) y z f (λh' k=>?_) (!2)) (by omega) λU s' l vs ss n B p C k1 E G k g o c J=>?_
 .show A _ _ _ (i4 m) (.refl _) k rfl rfl
 .let i:=I.keptS k1 E G;show%[.ref l,_,i.stoodS (o:= .lst _) (i.keptS k g o) c %[?_,vs,n,d7 B|J],ρ|q l ss (i.hok.fresh c) p (C few)];rw[Z6,p.length_eq,MN];omega
def pT{P:nY}{w:v0}:∀{a:hH Tf} {vs:hH (Key×kj)} {ks:ZB},Pairs (aT P w) a vs->vs\1=ks.map kG->MV (a.map (·.key)) ks
 | _,_,[],h,e=>by
   cases h with
   | nil=>show .nil
   | cons _ _ _=>cases e
 | _,_,k::ks,h,e=>by
   cases h with
   | nil=>cases e
   | @cons m n b c d o f=>
     rw[Yq,Yq]at e;injection e with g j
     rcases bg (d)with⟨i,t,q,_⟩|⟨x,t,q,l⟩
     .simp_all
     .rw[g]at q;cases q;rw[Yq,l];show .cons _ _ (pT f j)
def B5(w:X.calm=hY):cF X (.builtin "sorted") (λxs H Q=>db xs λm=>asR m λa=>∃(c:hH (Key×V)),Rd H a (.dK c)/\∃(ks:ZB),c\1=ks.map kG/\ ~~~ks<64/\∀l (ss:ZB),H l=hV->ss.Perm ks->ss.Pairwise (λa b=>aO b a=iv)->Q (.ref l) (Qa H l (.lst (ss\3)))):=by
 show⟨λij s T H xs us Q I r h=>?_⟩;let%[m,rfl|e]:=cc h;let%[a,rfl|f]:=aS e;let%[c,y,ks,i,few|q]:=f;let%[u,rfl|z]:=dD r;cases z;let%[_,lo,vs,A,o,U,Y,g,ex,B,_,C|_]:=sQ I.hok y;let p:=pT C (i▸A.keys.symm);let hl:=by
  let:=cn p;rw[Z6,Zb]at this;omega
 show gZ (ks:=ks) (λE1 R E=>nT lo (I.ok.hd w) %[o,g,ex|B] (by rw[MN];omega) λh' tk k G=>E _ _ _ p (.refl _) k rfl rfl) (by omega) λs1 s' l vs ss n J v L k1 M N k g o d O=>?_
 let j:=I.keptS k1 M N;show%[.ref l,_,j.stoodS (o:= .lst _) (j.keptS k g o) d %[?_,vs,n,d7 J|O],ρ|q l ss (j.hok.fresh d) v (L few)];rw[Z6,v.length_eq,MN];omega
def pU{w:v0}(h:X.w=w)(z:X.calm=hY):cF X (.builtin "sorted") (λxs H Q=>db xs λv=>asR v λa=>∃ks,H a∣mW w a ks/\ ~~~ks<=1000/\∀l (ss:ZB),H l=hV->ss.Perm ks->(~~~ks<64->ss.Pairwise (λa b=>aO b a=iv))->Q (.ref l) (Qa H l (.lst (ss\3)))):=by
 subst h;show⟨λij s L H xs us Q I r h=>?_⟩;let%[v,rfl|e]:=cc h;let%[a,rfl|f]:=aS e;let%[ks,A,few|q]:=f;let%[u,rfl|B]:=dD r;cases B;let%[S,_|_]:=(I.hok a _ A)
 show gZ (ks:=ks) (λM R C=>ww (I.ok.hd z) S λy vs ss i d k1 j m E=>C y vs ss i d k1 j m) few λy s' l vs ss n i d G k1 j m k g o c J=>?_
 let p:=I.keptS k1 j m;show%[.ref l,_,p.stoodS (o:= .lst _) (p.keptS k g o) c %[?_,vs,n,d7 i|J],ρ|q l ss (p.hok.fresh c) d G];rw[Z6,d.length_eq,MN];omega
def B6(h:X.K=K):cF X (.builtin "sorted") (λxs H Q=>db xs λi=>asR i λa=>∃(ps:ZG),Qb K H a (ps\0)/\aE H ps/\∃(m:jg),(∀p∈ps,~~~p.2=m)/\m≠0/\ ~~~ps<=1000/\∀(l:ku) (ss:ZG),H l=hV->ss.Perm ps->Q (.ref l) (Qa H l (.lst (ss\0)))):=by
 subst h;show⟨λij s N H xs us Q I r h=>?_⟩;let%[i,rfl|c]:=cc h;let%[a,rfl|d]:=aS c;let%[ps,v,w,m,y,z,few|q]:=d;let%[u,rfl|A]:=dD r;cases A;let%[its,B,%[o,n,C,E,O|e]|T]:=I.list v;let:=vv B;subst this;show kM (λU R G=>Wx a (.inl rfl) C E e (λh' k=>?_) (!2)) (oP I w) y z few λY s' l ss n j k1 J L k g o b M=>?_
 .show G _ _ (Nc _) k rfl rfl
 .let f:=I.keptS k1 J L;show%[.ref l,_,f.stoodS (o:= .lst _) (f.keptS k g o) b %[?_,ss.map _,n,oQ ss|M],ρ|q l ss (f.hok.fresh b) j];rw[Z6,j.length_eq,MN];omega
def GR{k:jg}{i o:yu}{ty a:TE}{pos:Pos}(b:bG k X.A)(c:MY .In o=iv)(hi:QE X i ty)(d:QE X o a):QT X (.Compare i [.In] [o] pos) (tB (Gf ty a)):=
 ⟨CD (Df (by let:=b.units;omega) hi.h d.h) c⟩
end
def bh{X:Cx}{K:ZA}{a b:yu}{c d:TE}{pos:Pos}(h:X.K=K)(e:oH b)(f:QE X a c)(g:QE X b d):QE X (.Subscript a b pos) (tOp (Jh K) c d):=by subst h;show⟨C9 Jj f.h g.h e⟩
section
variable{prog:Program}{w:World}{A:Around}{E:ZD}{s:Shared}
end
section
end
section
variable{prog:Program}{w:World}{A:Around}{E:ZD}{s:Shared}
end
section
variable{X:Cx}{pos:Pos}
def pV(b:PX (Nf X.prog X.w) X.A X.env X.xe)(d:QT X c e)(f:QSs X a g):QS X (.While c a [] pos) (CO e g):=⟨CP b d.h f.h⟩
def bw(a:bG k X.A)(b:Jr i)(c:QE X o d)(hi:QE X i ty):QE X (.Subscript o i pos) (De d ty):=⟨Gg (by let:=a.units;lia) c.h hi.h b⟩
variable{prog:Program}{w:World}{A:Around}{E:ZD}{s:Shared}
def GS{P:jg->kj->Prop}(val:jg->lp)(a:∀i v,P i v->∃t,v= .str (val i) t):CmpOf prog w A .Gt P (λi j=>decide ((val j).cps.toList<(val i).cps.toList)):=λi j b c s Q E hi d h=>by
 let%[t|rfl]:=a i b hi;let%[u|rfl]:=a j c d;show Wz (OD s _ t) (OD s _ u) PySem.F.slot_str_gt PySem.F.entry_str_gt (PySem.F.args_str_gt_2 _ _) (gives_str_gt _ _ t u) (λx=>nomatch x) h
def Am{P:jg->kj->Prop}(val:jg->lp)(a:∀i v,P i v->∃t,v= .str (val i) t):CmpOf prog w A .Lt P (λi j=>decide ((val i).cps.toList<(val j).cps.toList)):=λi j b c s Q E hi d h=>by
 let%[t|rfl]:=a i b hi;let%[u|rfl]:=a j c d;show Wz (OD s _ t) (OD s _ u) PySem.F.slot_str_lt PySem.F.entry_str_lt (PySem.F.args_str_lt_2 _ _) (gives_str_lt _ _ t u) (λx=>nomatch x) h
def Ew{i:jg}{v:kj}(h:(#[Mv x t,Mv y u]:ZJ)[i]?∣v):∃t,v= .str (if i=0 then x else y) t:=by
 match i,h with
 | 0,h=>show%[t|by simpa using h.symm]
 | 1,h=>show%[u|by simpa using h.symm]
 | i+2,h=>simp at h
def wR(a:jg->jg->ri):PM a 1=if a 1 0=hY then 1 else 0:=by simp[PM]
def vy{x y:lp}(l:A.handled=hV)
 (h:∀h' tk,(∀c o,s.heap.get? c∣o->h'.get? c∣o)->Q (if x.cps.toList<y.cps.toList then .str y u else .str x t) {s with heap:=h',toks:=tk}):
 ↥A (call (.builtin "max") [.str x t,.str y u]) Q E s:=by
 let j:(s.heap.push {cls:= .type _,data:= .seq #[.str x t,.str y u]}).IsTuple ⇑s _:=%[_,Zj _ rfl,rfl,0|rfl]
 show call_max_two (Se j ?_);let b:(s.heap.push {cls:= .type "tuple",data:= .seq #[.str x t,.str y u]}).objs.size=⇑s+1:=Zq ..;show%[_,[_,⇑s],[_],_,_,_,_,ρ,WE (A:=A.in1) l _ ⇑s (b▸Zs (Yo _)) _,
  %[%[_,Zj _ rfl,ρ|ρ]|j.push _],λc d=>?_,by simp,GS _ (λ_ _=>Ew)|λv h' tk m n=>?_]
 .rw[Zq,b];rcases Yw.mp d with rfl|d
  .simp
  .rcases Yw.mp d with rfl|d
   .show Yn (Yo _)
   .cases d
 .let f:=λc o e=>by
   show n c o (λi=>?_) (Z7 _ (Z7 _ e));rcases Yw.mp i with p|i
   .let:=Zu e;rw[p,b]at this;show Xk _ (Vk this)
   .cases i
  let q:=h h' tk f;let a:(#[Mv x t,Mv y u])[PM _ 1]?∣v:=m;rw[wR]at a;by_cases g:x.cps.toList<y.cps.toList
  .rw[lX (by simp[g])]at a;rw[lX g]at q;show(show Mv y u=v by simpa using a)▸q
  .rw[kw (by simp[g])]at a;rw[kw g]at q;show(show Mv x t=v by simpa using a)▸q
def vz{x y:lp}(l:A.handled=hV)
 (h:∀h' tk,(∀c o,s.heap.get? c∣o->h'.get? c∣o)->Q (if y.cps.toList<x.cps.toList then .str y u else .str x t) {s with heap:=h',toks:=tk}):
 ↥A (call (.builtin "min") [.str x t,.str y u]) Q E s:=by
 let j:(s.heap.push {cls:= .type _,data:= .seq #[.str x t,.str y u]}).IsTuple ⇑s _:=%[_,Zj _ rfl,rfl,0|rfl]
 show call_min_two (Se j ?_);let b:(s.heap.push {cls:= .type "tuple",data:= .seq #[.str x t,.str y u]}).objs.size=⇑s+1:=Zq ..;show%[_,[_,⇑s],[_],_,_,_,_,ρ,WE (A:=A.in1) l _ ⇑s (b▸Zs (Yo _)) _,
  %[%[_,Zj _ rfl,ρ|ρ]|j.push _],λc d=>?_,by simp,Am _ (λ_ _=>Ew)|λv h' tk m n=>?_]
 .rw[Zq,b];rcases Yw.mp d with rfl|d
  .simp
  .rcases Yw.mp d with rfl|d
   .show Yn (Yo _)
   .cases d
 .let f:=λc o e=>by
   show n c o (λi=>?_) (Z7 _ (Z7 _ e));rcases Yw.mp i with p|i
   .let:=Zu e;rw[p,b]at this;show Xk _ (Vk this)
   .cases i
  let q:=h h' tk f;let a:(#[Mv x t,Mv y u])[PM _ 1]?∣v:=m;rw[wR]at a;by_cases g:y.cps.toList<x.cps.toList
  .rw[lX (by simp[g])]at a;rw[lX g]at q;show(show Mv y u=v by simpa using a)▸q
  .rw[kw (by simp[g])]at a;rw[kw g]at q;show(show Mv x t=v by simpa using a)▸q
def rJ{l:ku}{its:ZJ}{val:jg->lp}{Q:ZD}(n:A.handled=hV)(f:s.heap.IsList l its)(g:0<its.size)(a:∀(i:jg) v,its[i]?∣v->∃t,v= .str (val i) t)
 (h:∀v h' tk,its[PM (λi j=>decide ((val i).cps.toList<(val j).cps.toList)) (its.size-1)]?∣v->(∀b o,s.heap.get? b∣o->h'.get? b∣o)->Q v {s with heap:=h',toks:=tk}):
 ↥A (call (.builtin "min") [.ref l]) Q E s:=by
 let c:l<⇑s:=by let%[_,e|_]:=f;show Zu e
 show call_min_walk (OU f %[_,[⇑s,l],[⇑s],_,_,_,_,rfl,Ut (A:=A.in1) n _ l (Zs c) its,%[%[_,Zj _ rfl,rfl|rfl]|f.push _],λb d=>?_,g,Am val a|λv h' tk p q=>?_])
 .rw[Zq];rcases Yw.mp d with rfl|d
  .simp
  .rcases Yw.mp d with rfl|d
   .show Yn c
   .cases d
 .show h v h' tk p λb o e=>q b o (λm=>?_) (Z7 _ e)
  rcases Yw.mp m with r|m
  .show n0 (r▸Zu e) (Xk _)
  .cases m
def pW(val:jg->lp):∀k,PM (λi j=>decide ((val i).cps.toList<(val j).cps.toList)) k<=k/\∀j,j<=k->aO (val j) (val (PM (λi j=>decide ((val i).cps.toList<(val j).cps.toList)) k))=iv
 | 0=>%[Zi _|λj b=>by rw[le_zero.mp b];show dz _]
 | k+1=>by
   let%[g|d]:=pW val k;rw[PM];by_cases c:aO (val (k+1)) (val (PM (λi j=>decide ((val i).cps.toList<(val j).cps.toList)) k))=hY
   .let a:=c;unfold aO at a;rw[lX a];show%[Zi _|λj b=>?_];by_cases e:j=k+1
    .show e▸dz _
    .cases f:aO _ _ with
     | false=>rfl
     | true=>have:=dR f c;rw[d j ⋯]at this;cases this
   .let a:=c;unfold aO at a;rw[kw a];show%[⋯|λj b=>?_];by_cases e:j=k+1
    .lia
    .show d j ⋯
end
section
variable{X:Cx}
def B7(g:X.calm=hY):cE X (.builtin "max") (λxs H Q=>mO xs λf x2=>asS f λx=>asS x2 λy=>Q (.str (if aO x y=hY then y else x)) H):=by
 intro ij s i H xs us Q I r h;let%[f,x2,rfl|b]:=ju h;let%[x,rfl|c]:=eO b;let%[y,rfl|d]:=eO c;let q:=d;let%[u,j,rfl,%[t|rfl],t'|rfl]:=lq r;show vy (I.ok.hd g) λh' tk k=>%[_,H,I.kept k,?_|q]
 by_cases a:x.cps.toList<y.cps.toList
 .rw[lX a,lX (show aO x y=hY from Zf a)];show%[_|ρ]
 .rw[kw a,kw (show ¬ aO x y=hY from λe=>a (Zo e))];show%[_|ρ]
def B8(g:X.calm=hY):cE X (.builtin "min") (λxs H Q=>mO xs λf x2=>asS f λx=>asS x2 λy=>Q (.str (if aO y x=hY then y else x)) H):=by
 intro ij s i H xs us Q I r h;let%[f,x2,rfl|b]:=ju h;let%[x,rfl|c]:=eO b;let%[y,rfl|d]:=eO c;let q:=d;let%[u,j,rfl,%[t|rfl],t'|rfl]:=lq r;show vz (I.ok.hd g) λh' tk k=>%[_,H,I.kept k,?_|q]
 by_cases a:y.cps.toList<x.cps.toList
 .rw[lX a,lX (show aO y x=hY from Zf a)];show%[_|ρ]
 .rw[kw a,kw (show ¬ aO y x=hY from λe=>a (Zo e))];show%[_|ρ]
def B9(C:X.calm=hY):cE X (.builtin "min") (λxs H Q=>db xs λn=>asR n λp=>∃(ss:ZB),Qb X.K H p (ss\3)/\0< ~~~ss/\∀m∈ss,(∀y∈ss,aO y m=iv)->Q (.str m) H):=by
 intro ij s T H xs us Q I r h;let%[n,rfl|f]:=cc h;let%[p,rfl|g]:=aS f;let%[ss,E,U|q]:=g;let%[u,rfl|l]:=dD r;cases l;let%[its,o,G|Y]:=I.list E;let a:= ~~~o;rw[Z6]at a;let J:its.toArray.size= ~~~ss:=by rw[Zp,a]
 let c:∀i v,its.toArray[i]?∣v->∃t,v=Mv (ss.getD i Mi) t:=λi v e=>by
  let e:=↑e
  let hi:i< ~~~ss:=a▸(Xm e).1;let%[u,w|l]:=o.get (by rw[Zl,Z4 hi];rfl);rw[e]at w;let%[t|d]:=l;show%[t|by rw[Za w,d,Zc,Z4 hi];rfl]
 show rJ (I.ok.hd C) G.isList ⋯ c λv h' tk z k=>?_
 let%[L|A]:=pW _ _;let%[t|d]:=c _ _ z
 generalize PM _ _=b at L A z d
 let B:b< ~~~ss:=by lia
 let M:ss.getD b Mi=ss[b]:=by rw[Zc,Z4 B];rfl
 show%[.str _,H,I.kept k,%[t|d]|q _ (M▸Yd B) λy N=>?_];let%[j,O|rfl]:=Qg N;let:=A j ⋯;rwa[show ss.getD j Mi=ss[j] by rw[Zc,Z4 O];rfl]at this
def Kg(a:X.calm=hY):cF X (.builtin "max") (λxs H Q=>mO xs λb x2=>asS b λx=>asS x2 λy=>Q (.str (if aO x y=hY then y else x)) H):=⟨B7 a⟩
def Ex(a:X.calm=hY):cF X (.builtin "min") (λxs H Q=>mO xs λb x2=>asS b λx=>asS x2 λy=>Q (.str (if aO y x=hY then y else x)) H):=⟨B8 a⟩
def Kh{K:ZA}(h:X.K=K)(a:X.calm=hY):cF X (.builtin "min") (λxs H Q=>db xs λb=>asR b λp=>∃(ss:ZB),Qb K H p (ss\3)/\0< ~~~ss/\∀m∈ss,(∀y∈ss,aO y m=iv)->Q (.str m) H):=by subst h;show⟨B9 a⟩
variable{prog:Program}{w:World}{A:Around}{E:ZD}{s:Shared}
variable{R:Ua->mu->Prop}{I:ku}{fp:hH ku}{wr:hH ku}{G:on RN->on RN->Prop}{n:jg}{P:jg->kj->Prop}{St:jg->mu->Prop}
end
def Ap{b:Type}{a:hH (b×V)}{vs:hH (b×kj)}(r:KV a vs):aM (a\2) (vs\2):=by
 induction r with
 | nil=>show .nil
 | cons h _ c=>show .cons h.2 c
section
variable{X:Cx}{K:ZA}
abbrev Ey:V->hH V->Hp->VK->Prop:=λx vs H Q=>asR x λa=>∃k y,vs=[kV k,y]/\∃b,H a∣.dK b/\ ~~~b<md/\(∀v,bX b k∣v->Q v H)/\(bX b k=hV->Q y (Qa H a (.dK (dc b k y))))
def GT:MtM X "dict.setdefault" Ey:=by
 intro ij s J H x vs v us Q I p r h;let%[a,rfl,k,y,rfl,b,e,L,u|w]:=aS h;cases p;let%[M,A,rfl,B|l]:=lq r;let%[z,m,vs,c|n]:=nF I.hok e;show SH Vv n.typeIs PySem.F.entry_dict_setdefault (PySem.F.args_dict_setdefault_3 _ _ _) (kt_meets_setdefault _ a (oY B) m A) %[vs,n,~~~c▸z,λN hw=>?_|λO h' f C=>?_]
 .let q:=c.val k;cases d:bX b k with
  | none=>
    rw[io.none_of (o:=Sx vs k) (d▸q)]at hw;cases hw
  | some i=>
    let%[E,g|j]:=io.some_of (d▸q);rw[g]at hw;show(Za hw)▸%[i,H,I.tok _,j|u i d]
 .let d:bX b k=hV:=by
   cases d:bX b k with
   | none=>rfl
   | some i=>
     let%[E,g|_]:=io.some_of (d▸c.val k)
     grind
  show%[y,_,oJ I (e▸MQ) C (let⟨q,_,_,G,_⟩:=f;%[q|G]) (yF (by let:=gO b k y;lia) m (c.put k l) f),l|w d]
def i5:MtQ X "dict.setdefault" Ey:=⟨GT⟩
abbrev lL(v a:ku):HO:= .ext λh=>h.IsValuesView v a
abbrev Ez:V->hH V->Hp->VK->Prop:=λx vs H Q=>asR x λa=>vs=[]/\∃b,H a∣.dK b/\∀v,H v=hV->Q (.ref v) (Qa H v (lL v a))
def GU:MtM X "dict.values" Ez:=by
 intro ij s w H x vs v us Q I i j h;let%[a,rfl,rfl,l,e|q]:=aS h;cases i;let c:=j.zero;subst c;let%[z,m,vs,n|f]:=nF I.hok e;show SH WW f.typeIs PySem.F.entry_dict_values (PySem.F.args_dict_values_1 _) (meets_dict_values _ a m) %[%[vs|f]|?_];let g:(s.heap.push {cls:= .type _,data:= .fields _}).IsValuesView ⇑s a:=%[_,Zj _ rfl,rfl|rfl]
 show%[.ref ⇑s,_,I.laid (o:=lL ⇑s a) (λb u e=>Z7 _ e) (Zi _) %[g,?_|λy A p k1=>?_],ρ|q _ I.fresh]
 .let%[o,d|_]:=g;show%[o|d]
 .let%[o,d|r]:=p;show%[o,k1 _ d|r]
def wS:MtQ X "dict.values" Ez:=⟨GU⟩
def zq(p:X.calm=true):cE X (.type "list") (λxs H Q=>db xs λn=>asR n λv=>∃(a:Addr),H v∣lL v a/\∃(b:List (Key×V)),H a∣.dK b/\∀l,H l=none->Q (.ref l) (Qa H l (.lst (b\2)))):=by
 intro ij s U H xs us Q I r h;let%[n,rfl|g]:=cc h;let%[v,rfl|j]:=aS g;let%[a,w,b,y|q]:=j;let%[u,rfl|A]:=dD r;cases A;let%[z,Y,vs,f|B]:=nF I.hok y;let m:=(I.hok _ _ w).1;let%[o,C,E,G|J]:=B;let L:s.heap.DictAt _ a vs E:=%[o,C,G|J]
 let M:= ~~~f;show PySem.W.kdl_call (kdl_values) (I.ok.hd p) %[m|L] ⋯ λh' tk acc c keep N d=>?_
 let hl: ~~~acc.toList= ~~~b:=by rw[Zb,d.1,M]
 show%[.ref ⇑s,_,I.laid keep (Zi _) ?_,ρ|q _ I.fresh];let e:acc.toList=vs\2:=by
  show ext_getElem (!2) λi O h2=>?_
  let%[k|T]:=d.2 i _ (Array.getElem?_eq_getElem O);let%[h3|e3]:=Xm T
  simp_all
 show%[by rw[Z6];show z,acc.toList,c,e▸Ap f|N]
def GV(c:X.calm=hY):cF X (.type "list") (λxs H Q=>db xs λd=>asR d λv=>∃(a:ku),H v∣lL v a/\∃(b:hH (Key×V)),H a∣.dK b/\∀l,H l=hV->Q (.ref l) (Qa H l (.lst (b\2)))):=⟨zq c⟩
end
def wU:∀{ss:ZB},z∈ss->∃j,ss[j]?∣z/\(∀m,m<j->∀y,ss[m]?∣y->y≠z)/\(z::ss.eraseIdx j).Perm ss
 | x::ss,h=>by
   by_cases e:x=z
   .show%[0,by simp[e],λm b=>n0 b ⋯|by simp[e]]
   .let%[j,c,d|f]:=wU ((Yw.mp h).resolve_left λq=>e q.symm);show%[j+1,c,λm b y a=>?_|?_]
    .cases m with
     | zero=>simp at a;show a▸e
     | succ m=>show d m ⋯ y (a)
    .show(Uz _ _ _).trans (f.cons _)
section
variable{X:Cx}{K:ZA}
abbrev Ki:V->hH V->Hp->VK->Prop:=λx vs H Q=>asR x λa=>∃k y,vs=[kV k,y]/\∃b,H a∣.dK b/\Q ((bX b k).getD y) H
def Kj:MtM X "dict.get" Ki:=by
 intro ij s n H x vs v us Q I f g h;let%[a,rfl,k,y,rfl,b,e|q]:=aS h;cases f;let%[o,i,rfl,j|l]:=lq g;let%[z,m,vs,c|d]:=nF I.hok e;show SH XU d.typeIs PySem.F.entry_dict_get (PySem.F.args_dict_get_3 _ _ _) (meets_dict_get_default _ a (oY j) m i) %[_,d.mapOf,(bX b k).getD y,H,I.tok _,(c.val k).getD l|q]
def tQ:MtQ X "dict.get" Ki:=⟨Kj⟩
abbrev isZ(z:lp):kj->ri
 | .str x _=>x==z
 | _=>iv
def Ca(t:Tok)(r:aM (ss\3) its)(g: ~~~ss= ~~~its)(i:z∈ss):∃(j:jg) (d:j<its.toArray.size),ss[j]?∣z/\(z::ss.eraseIdx j).Perm ss/\(∀y,y∈its.toArray->MeetsSeq.EqGives y (.str z t) (isZ z y))/\isZ z its.toArray[j]=hY/\∀m (a:m<its.toArray.size),m<j->isZ z its.toArray[m]=iv:=by
 let%[j,e,l|n]:=wU i;let at_:∀m y,its[m]?∣y->∃x t,y=Mv x t/\ss[m]?∣x:=λm y b=>by
  let a:m< ~~~ss:=g▸(Xm b).1;let%[u,h|o]:=r.get (by rw[Zl,Z4 a];rfl);rw[b]at h;let%[t|p]:=o;show%[_,t,(Za h).trans p|Z4 a]
 let d:j< ~~~its:=g▸(Xm e).1;show%[j,d,e,n,λy b=>?_,?_|λm a f=>?_]
 .let%[m|a]:=Xg ↑b;let%[x,t',rfl|_]:=at_ m y a;show eqGives_str x z t' t
 .let%[x,t',ex|c]:=at_ j _ (Z4 d);rw[e]at c;change isZ z its[j]=hY;rw[ex,<-Za c];show Ph z
 .let%[x,t',ex|c]:=at_ m _ (Z4 a);change isZ z its[m]=iv;rw[ex];show MF.mpr (l m f x c)
abbrev vA:V->hH V->Hp->VK->Prop:=λx vs H Q=>asR x λl=>∃z,vs=[.str z]/\∃ss:ZB,H l<*ss\3/\z∈ss/\∀a,(z::a).Perm ss->Q .non (Qa H l (.lst (a\3)))
def Cb:MtM X "list.remove" vA:=by
 intro ij s A H x vs v us Q I c d h;let%[l,rfl,z,rfl,ss,a,f|q]:=aS h;cases c;let%[u,rfl|g]:=d.one;let%[t|rfl]:=g;let%[i,its,n,r,b|e]:=I.lstM a;rw[Z6]at b i;let%[j,m,_,o,p,w|y]:=Ca t r b f;show OG F.slot_list_remove %[_,e|rfl] F.entry_list_remove (F.args_list_remove_2 _ _) (MeetsSeq.list_remove l its.toArray n _ _ p j m w y (!2)) %[e,.non,_,I.lset (its':=its.eraseIdx j) a e ?_ ?_ ?_,rfl|q _ o]
 .simp
 .rw[OQ,Zd,Wj,Wk,<-OQ];show r.eraseIdx j
 .let:=sM ss j;rw[Z6]
  lia
def EA:MtQ X "list.remove" vA:=⟨Cb⟩
end
def Cc:P6 (.type "list_reverseiterator") "__len__"=pure hV:=by kernel_rfl
def EB:P6 (.type "list_reverseiterator") "__length_hint__"=pure (hX (.builtin "list_reverseiterator.__length_hint__")):=by kernel_rfl
section
variable{prog:Program}{w:World}{A:Around}{E:ZD}{s:Shared}
def rK(hh:A.handled=hV)(O:s.heap.IsRevIter I l ((a.size:oT) -1))(U:s.heap.IsList l a)(ne:l≠I)(hz:a.size<=md)
 (hQ:∀s' acc c,(∀b o,b≠I->s.heap.get? b∣o->s'.heap.get? b∣o)->s'.gens=s.gens->s'.os=s.os->s'.heap.get? ⇑s=hX {cls:= .type "list",data:= .seq acc c}->acc.toList=a.toList.reverse->Q (.ref ⇑s) s'):
 ↥A (call (.type "list") [.ref I]) Q E s:=by
 let v:I<⇑s:=let⟨_,i,_⟩:=O;Zu i;let y:l<⇑s:=let⟨_,i,_⟩:=U;Zu i
 generalize p:s.heap.push {cls:=MW "list",data:=Data.seq #[]}=G
 let gz:G.objs.size=⇑s+1:=by rw[<-p,Zq]
 let z:∀b o,s.heap.get? b∣o->G.get? b∣o:=λb o e=>by rw[<-p];show Z7 _ e
 let q:G.get? ⇑s=hX {cls:=MW "list",data:=Data.seq #[]}:=by rw[<-p];show Zj _ rfl
 show callType_codes (Q₁:=λobj g=>obj= .ref ⇑s/\g={s with heap:=G}) F.called_list (F.typeCall_list_1 (m4 I)) F.entry_list_init (code_list_new (m4 I) %[rfl|by rw[p]]) λobj g j=>?_
 let%[rfl|rfl]:=j;show%[%[_,q|ρ],F.args_list_init_2 _ _|?_];change ↥A.in1.in1 (n7.«list.__init__» %[[.ref ⇑s,.ref I]|[]]) _ _ _;unfold n7.«list.__init__»;show Z2 ?_;show listItems_at (s:={s with heap:=G}) q rfl ?_;show Z2 (Pn (s:={s with heap:=G}) q rfl ?_ (Xf _));let Y:=MD (NA λ_=> #[]) q rfl;let f:∀b o,b≠⇑s->G.get? b∣o->(G.update ⇑s (NA λ_=> #[])).get? b∣o:=λb o B e=>(MK _ _ (I0 B)).trans e
 show Z2 (Rn ?_)
 generalize G.update ⇑s (NA λ_=> #[])=h at Y f
 let C:I≠⇑s:=Zs v;let nl:l≠⇑s:=Zs y;let m:h.IsRevIter I l ((a.size:oT) -1):=O.at λo e=>f _ _ C (z _ _ e)
 let H:h.IsList l a:=let⟨o,i,r⟩:=U;%[o,f _ _ nl (z _ _ i)|r];let W:=Walks.listRev (prog:=prog) (w:=w) (A:=A.in1.in1) hh I l ne a;let n:(0<=a.size/\h.IsRevIter I l (↑(a).size-1-((0:jg):oT))/\h.IsList l a):=%[Xf _,↑m|H]
 change ↥A.in1.in1 (NP (.ref ⇑s) (.ref I) .none) _ _ {s with heap:=h};unfold NP;let u:Q4 {s with heap:=h} (.ref I) "list_reverseiterator":=m.typeIs;show Z2 (PB (T:="list_reverseiterator") u ?_);let n1:RV (.ref ⇑s) (.ref I)=iv:=MF.mpr (I0 C);let n2:(MW "list_reverseiterator"==MW "list")=iv:=!1
 let n3:(MW "list_reverseiterator"==MW "tuple")=iv:=!1
 simp only[n1,n2,n3,Wr,Zz,Op];show Z2 (W.self 0 {s with heap:=h} _ _ n ?_);show Z2 (vu ?_);unfold Ra;show Z2 (Pt (T:="list_reverseiterator") u Cc ?_);change tI _ _ (specialOf (.ref I) (!"__length_hint__")>>= _) _ _ _;show Z2 (Pt u EB ?_)
 wp_delta
 show Z2 (NS (T:="list_reverseiterator") (b:=hY) u (by rw[isSubtype_type];kernel_rfl) ?_);simp only[Ws,Zz,Op];rw[lX (!0)];rw[kw (!1)];show Z3 ?_;rw[kw (!0)];let J:⇑s∉[I,l]:=by
  simp only[Yw,X6,M4,OY];show%[I0 C|I0 nl]
 show Z3 %[Pl Vn _|VE W.toS hz _ J _ a.size 0 _ _ _ rfl (Xf _) n Y (V4 _) λs5 acc c5 L M d=>?_];show%[ρ|hQ s5 acc c5 (λb o B e=>?_) L.gens L.os M ?_]
 .let nb:b≠⇑s:=Zs (Zu e);show L.heap b o ?_ (f _ _ nb (z _ _ e));simp only[Yw,X6,M4,OY];show%[nb|B]
 .apply Q2;intro k;let al: ~~~acc.toList=a.size:=Zb▸d.1;by_cases hk:k<a.size
  .let N:k<acc.size:=d.1▸hk;let:=d.2 k acc[k] ∅;rw[hH.getElem?_reverse (hk),Zb,Ov,Ov,this];simp[N]
  .rw[Xl ⋯,Xl (by simp;lia)]
end
abbrev Kk(n:jg)(a l:ku)(m:jg):HO:= .ext λh=>n<=a/\h.IsRevIter a l (m-1)
def Cd{X:Cx}:cE X (.type "reversed") (λxs H Q=>∃(l:ku) (ys:hH V),xs=[.ref l]/\Qb X.K H l ys/\∀r,H r=hV->Q (.ref r) (Qa H r (Kk X.s₀.heap.objs.size r l ys.length))):=by
 intro ij s a H xs us Q I r h;let%[l,ys,rfl,c|q]:=h;let%[u,rfl|d]:=dD r;cases d;let%[its,f,pl|j]:=I.list c;show call_reversed_list pl.isList ?_;let g:=I.hok.fresh (Zi _);let J:Qc X ij a H {s with heap:=(s.heap.push (revObj l (its.toArray.size-1)))}:=I.keptS (λb o e=>Z7 _ e) rfl rfl;show%[.ref ⇑s,_,I.stoodS (o:=Kk X.s₀.heap.objs.size ⇑s l ys.length) J (Zi _) %[%[I.sz|?_],%[_|Zj _ rfl]|λ_ _ ⟨i,x⟩ k=>%[i|x.at λo e=>k o e]],ρ|q _ g];rw[~~~f,<-Zp];show%[_,Zj _ rfl,ρ|ρ]
def Qc.dropped{X:Cx}(I:Qc X ij j H s)(l:H a∣.ext i)(m:X.s₀.heap.objs.size<=a)(f:∀b o,b≠a->s.heap.get? b∣o->s'.heap.get? b∣o)(r:s'.gens=s.gens)(v:s'.os=s.os):Qc X ij j (drop H a) s':=by
 let ne:∀{b:ku} {o:HO},H b∣o->(∀i,o≠ .ext i)->b≠a:=λe n z=>by
  grind
 let un:Un (frs X.stack) [a] H (drop H a) s.heap s'.heap:=by
  show%[λb o e _ _ d=>f b o ↑d e,λb o e _ _ d=>%[o.slots|f b o ↑d e],λb o _ n _=>?_,λb o e d=>%[o|f b o ↑d e],λb xs e=>?_,λb o u e=>?_|λb ps e=>%[#[]|?_]]
  .unfold drop;split
   .rfl
   .show n
  .rw[bS (ne e ∅)];show e
  .rw[bS (ne e ∅)];show e
  .rw[bS (ne e ∅)];simpa using e
 let g:HOk X.prog X.w (drop H a) s'.heap:=λb o e=>by
  let nb:b≠a:=λz=>by rw[z,iE]at e;cases e
  rw[bS nb]at e;show(I.hok b o e).stay (λc u h q=>f c u ?_ q) (λc q=>?_) λc xs q=>?_
  .rcases h with rfl|h
   .show nb
   .show ne h ∅
  .rw[bS (ne q ∅)];show q
  .rw[bS (ne q ∅)];show q
 show I.call' v un g (by rw[r];show I.bare) λb w=>by
  obtain rfl:b=a:=↑w
  show%[.inr m,λz=>?_,λx c e z=>?_|λp y z=>?_]
  .let:=I.free;grind
  .let:=I.freeC x c e;grind
  .let:=(I.pin p y).2.1;rw[z,l]at this;cases this
def wV{X:Cx}(y:X.calm=hY):cE X (.type "list") (λxs H Q=>∃(r l:ku) (ys:hH V),xs=[.ref r]/\H l<*ys/\H r∣Kk X.s₀.heap.objs.size r l ys.length/\∀p,drop H r p=hV->p≠r->Q (.ref p) (Qa (drop H r) p (.lst ys.reverse))):=by
 intro ij s L H xs us Q I r h;let%[a,l,ys,rfl,g,f|q]:=h;let%[u,rfl|A]:=dD r;cases A;let%[z,its,n,B,m|e]:=I.lstM g;let%[%[v|b]|_]:=I.hok a _ f;let i:l≠a:=λz=>by rw[z,f]at g;cases g
 let sz:its.toArray.size= ~~~ys:=!2
 show rK (I.ok.hd y) (by rw[sz];show b) %[_,e,rfl,n|rfl] i (by rw[sz];show z) λs' acc c C E j G d=>?_
 let w:=I.dropped f v (λ_ _ _ e=>e) rfl rfl;let J:=I.dropped f v C E j;let lt:=let⟨_,j,_⟩:=b;Zu j;show%[.ref ⇑s,_,w.stoodS (o:= .lst ys.reverse) J (Zi _) %[?_,acc.toList,c,?_|?_],ρ|q _ (w.hok.fresh (Zi _)) (Yz lt)]
 .rw[Uy];show z
 .rw[d];show B.reverse
 .show G
abbrev wW(b:TE):TE:=λc H Q=>b c H λv a=>∃l ys,v= .ref l/\a l<*ys/\∀p,a p=hV->Q (.ref p) (Qa a p (.lst ys.reverse))
def EC{X:Cx}(h:X.calm=hY)(i:Gl X "reversed")(j:X.mg "reversed"=hV)(a:Gl X "list")(b:X.mg "list"=hV)(d:aV e=iv)(m:QE X e n):
 QE X (.Call (.Name "list" o) [.Call (.Name "reversed" s) [e] [] u] [] w) (wW n):=by
 let y:QE X (.Call (.Name _ s) [e] [] u) _:=ctE ⟨Cd⟩ i j XI rfl rfl (by simp[d]) (paE d (⟨JU m.h⟩) am);let z:=ctE (p:=o) (pos:=w) ⟨wV h⟩ a b QL rfl rfl rfl (paE rfl y am);show⟨JV z.h λB H Q q=>?_⟩;show%[_,q|λv C ⟨l,ys,A,c,q⟩=>%[l,ys,by rw[A],Qb.of c|λr f=>?_]];show%[r,l,ys,ρ,by rw[aq (ax c f)];show c,aa|λp g _=>?_];rw[DX f]at g ⊢;show q p g
section
variable{X:Cx}
abbrev Kl:R2:=λx y H Q=>asR x λa=>asR y λb=>∃xs,H a<*xs/\H b<*[]/\Q (.bl (decide (xs≠[]))) H
def Km(B:X.A.units+64<Of):OpR X (pp .NotEq) Kl:=by
 intro ij s C H x y v u Q I l m h;let%[a,rfl|o]:=aS h;let%[b,rfl,xs,p,w|q]:=aS o;cases l;cases m;let%[z,its,n,r,g|e]:=I.lstM p;let%[E,its2,i,G,d|c]:=I.lstM w;obtain rfl:its2=[]:=Ds.mp d.symm;by_cases f:xs=[]
 .subst f;obtain rfl:its=[]:=Ds.mp g.symm;show UV (op:= .NotEq) %[_,e|rfl] %[_,c|rfl] PySem.F.slot_list_ne PySem.F.entry_list_ne (PySem.F.args_list_ne_2 _ _) (SeqAt.list_neAt a b #[] #[] n i hV hV #[] #[] rfl λ_=>hY) %[e,c,λj h=>n0 h (X4 j),by simp,.bl _,H,I,rfl|q] ⋯
 .let A:its.toArray.size≠0:=by
   rw[Zp,<-g];show λq=>f (Ds.mp q)
  rw[Zf f]at q;show UV (op:= .NotEq) %[_,e|rfl] %[_,c|rfl] PySem.F.slot_list_ne PySem.F.entry_list_ne (PySem.F.args_list_ne_2 _ _) (SeqAt.list_ne_lengthsAt a b its.toArray #[] n i hV hV #[] #[] ↑A) %[e,c,by simp,.bl hY,H,I,rfl|q] ⋯
def pX(a:bG k X.A):OpQ X (pp .NotEq) Kl:=⟨Km a.units⟩
variable{prog:Program}{w:World}{A:Around}{E:ZD}{s:Shared}
def f9(I:hH i->j->mu->Prop):∀(xs:hH i) (b:j) (s:mu),I xs b s->
 (∀x r b s,I (x::r) b s->↥A (f x b) (λy s'=>match y with| .done c=>Q c s'| .yield c=>I r c s') E s)->(∀b s,I [] b s->Q b s)->↥A (forIn xs b f) Q E s
 |[],b,s,h,_,a=>by
  show Z3 (a b s h)
 | x::r,b,s,h,d,a=>by
   rw[Sj];show Z2 (Mz (d x r b s h) (λy s' g=>?_) λ_ _ e=>e);cases y with
   | done c=>show Z3 g
   | yield c=>show f9 I r c s' g d a
def ED:∀c {Q:ri->mu->Prop},(∀b∈c,∃d,bD w b d s.heap)->Q hY s->↥A (setsQuiet c) Q E s:=by
 intro c Q h l;show Z2 (f9 (λr b s'=>(∀b∈r,∃d,bD w b d s.heap)/\b=(hV,())/\s'=s) c _ s %[h,rfl|rfl] ?_ ?_)
 .intro x r b s' %[g,rfl|rfl];let%[d,o,m,G,t,ss,n,p,q,v,H,y,f,I,B,C|i]:=g x Zm;show Z2 (Oi n q B (Z2 ?_));rw[<-Q0];show f9 (λr b a=>(∀e∈r,∃z u,e=(NH w z,Mv z u))/\b=(hV,())/\a=s') m.toList _ _ %[f,rfl|rfl] ?_ ?_
  .intro e r b a %[j,rfl|rfl];let%[z,u|rfl]:=j e Zm;show Z3 %[λe h=>j e (Zk _ h),rfl|rfl]
  .intro b a %[_,rfl|rfl];show Z3 %[λe h=>g e (Zk _ h),rfl|rfl]
 .intro b s' %[_,rfl|rfl];show Z3 l
abbrev hsE(w:v0)(p:lp×Tok):oT×kj:=(NH w p.1,.str p.1 p.2)
def bD.texts{a:ku}{h:xl}{o:Ob}{c:on (oT×kj)}(d:MV (c.toList\2) ss)(g:ss.Perm ks)(f:∀e∈c.toList,∃z u,e=(NH w z,Mv z u))(xs:hH (oT×kj))(b:xs.Perm c.toList):∃zs:hH (lp×Tok),xs=zs.map (hsE w)/\(zs\1).Perm ks:=by
 let all:∀l,(∀e∈l,∃z u,e=(NH w z,Mv z u))->∃zs:hH _,l=zs.map (hsE w):=λl=>by
  induction l with
  | nil=>show λ_=>%[[]|rfl]
  | cons e l i=>
    intro h;let%[z,u|rfl]:=h e Zm;let%[zs|rfl]:=i λx b=>h x (Zk _ b)
    show%[(z,u)::zs|ρ]
 let%[zs|rfl]:=all xs λe j=>f e (b.mem_iff.mp j)
 show%[zs,ρ|?_];let%[ts,m|n]:=cq d (b.map _);let e:ts=zs\1:=by
  rw[<-m.strs,Ys,Ys];rfl
 show e▸n.trans g
def tR{f:hH ku}{c:ZI}{Q:on (oT×kj)->mu->Prop}(U:bD w a ks s.heap)(hO:∀b∈f,∃js,bD w b js s.heap)(n:∀r,c∣r->r≠a/\bD w r [] s.heap)
 (hQ:∀(zs:hH (lp×Tok)) (d:Drawn) (h':xl),(zs\1).Perm ks->(∀b o,c≠hX b->s.heap.get? b∣o->h'.get? b∣o)->(∀r,c∣r->bD w r [] h')->Q (zs.map (hsE w)).toArray {s with heap:=h',drawn:=d}):
 ↥A (setWalkUnseen a f c) Q E s:=by
 let%[o,g,ep,t,ss,Y,ac,hd,J,hp,ae,L,I,hf,M|i]:=id U;let fin:∀(xs:hH _) d h',xs.Perm g.toList->(∀b o,c≠hX b->s.heap.get? b∣o->h'.get? b∣o)->(∀r,c∣r->bD w r [] h')->Q xs.toArray {s with heap:=h',drawn:=d}:=λxs d h' hx u h2=>by
  let%[zs,rfl|hz]:=bD.texts (a:=a) (h:=h') (o:=o) J hp L xs hx;show hQ zs d h' hz u h2
 let walk:↥A (setWalk a) Q E s:=by
  show Z2 (pw Y hd hf ?_);change tI _ _ (if a7 w=hY then _ else _) _ _ _;by_cases N:a7 w=hY
  .rw[lX N];show Z2 (M3 (Z3 ?_));let:=fin (NT (w.params.setOrder a ep) g).toList s.drawn s.heap (tz _ _) (λ_ _ _ e=>e) λr e=>(n r e).2
   show this
  .rw[kw N]
   split
   .show Z2 (uZ g.size g.toList _ _ ∅ λys d p=>Z3 (fin ys d s.heap p (λ_ _ _ e=>e) λr e=>(n r e).2))
   .show Z2 ?_;change tI _ _ (if(!t.led&&decide _)=hY then Pq _ else pure ()) _ _ _;rw[i,show a7 w=iv by simpa using N];show Z3 (Z3 ?_);let:=fin g.toList s.drawn s.heap (.refl _) (λ_ _ _ e=>e) λr e=>(n r e).2
    show this
 show Z2 (pw Y hd hf ?_);change tI _ _ (if(a7 w||t.led&&t.plain||decide _)=hY then _ else _) _ _ _;by_cases u:(a7 w||t.led&&t.plain||decide (g.size<=1))=hY
 .rw[lX u];show walk
 .rw[kw u];show Z2 (ED _ (λb I=>?_) ?_)
  .rcases Yw.mp I with e|e
   .show e▸%[_|U]
   .show hO b e
  show Z2 (OB ?_);cases c with
  | none=>
    let:=fin g.toList s.drawn s.heap (.refl _) (λ_ _ _ e=>e) λr e=>(n r e).2
    show Z3 this
  | some r=>
    let%[ne,o2,O,ag,q,ak,j,v,l,y,T,B,C,G,H,ab|m]:=n r rfl;dsimp only;show Z2 (pw j l H ?_)
    split
    .show Z2 (NJ j l ?_ (NK G));let:=fin g.toList s.drawn _ (.refl _) (λb o I e=>((vr.update s.heap r (NU O {q with led:=q.led&&t.led,plain:=q.plain&&t.plain})).2 b λz=>I (by rw[z])).trans e) λr' e=>?_
     .show Z3 this
     .cases e;show(bD.stored (t':={q with led:=q.led&&t.led,plain:=q.plain&&t.plain}) j v l y T B C G H (by rw[(M λz=>u (by rw[z];simp)),Ni]) (by rw[m,i,Ts])).2
    .let:=fin g.toList s.drawn s.heap (.refl _) (λ_ _ _ e=>e) λr e=>(n r e).2
     show Z3 this
def GW(h:kg (kG z) (Mv y u)=hY):y=z:=by
 rcases bg h with⟨i,t',a,b⟩|⟨c,t',a,b⟩
 .lia
 grind
def wX{ks:ZB}(i:s.heap.get? a∣o)(l:o.data= .set b H t)(c:∀e∈b.toList,∃z u,e=(NH w z,Mv z u))(C:b.size<OO)(m:t.fits b.size=hY)
 (n:∀r,(r=hV->∀e∈b.toList,∀u,e.2≠ .str z u)->(∀j,r∣j->∃u,b.toList[j]?∣(NH w z,.str z u))->Q r s):↥A (setFind a (.str z tk) (NH w z)) Q E s:=by
 let p:ElemsOf (aT prog w) b.toList:=ti c;let d:(aT prog w).is (kG z) (.str z tk)=hY:=eB z tk;show Z2 (pw i l m ?_);dsimp only;rw[byScan_of rfl C p];show Z2 (OB (Z2 (WO d i l m p ?_)));cases v:Wl _ b.toList with
 | some j=>
   let%[B,f|_]:=RM.mp v;dsimp only;rw[Su];show Z3 (n _ (λh=>(nomatch h)) λI e=>?_);cases e;let%[y,u|g]:=c _ (Yd B);rw[g]at f;rw[GW (u:=u) f]at g;show%[u|by rw[Z4 B,g]]
 | none=>
   show Z3 (n hV (λ_ e G u q=>?_) λj e=>(nomatch e));let:=Tc.mp v e G;rw[q,show(aT prog w).is (kG z) (Mv z u)=hY from eB z u]at this;cases this
def EE{P D M n i b:jg}(h:P=n/\P+D<=M)(hi:i<n):min i P+(P-(i+1))=n-1/\min i P+(P-(i+1)) +(min b D+1+(D-b))<=M:=by
 let%[rfl|h]:=h;let e:=jg.sub_add_min_cancel D b;let k:i+1+(P-(i+1))=P:=jg.add_sub_of_le hi;rw[Ry (Yf hi),jg.min_comm b D]
 generalize min D b=x at e ⊢
 generalize D-b=y at e ⊢
 generalize P-(i+1)=z at k ⊢
 show%[⋯|⋯]
def Ce{t:nz}(h:t.fits n=hY)(hi:i<n):(t.drop i).fits (n-1)=hY/\(t.drop i).led=t.led/\(t.drop i).plain=t.plain:=by
 unfold N9 at h ⊢;rw[Zv,NM,Mx]at h;unfold nz.drop;let:t.place[i]?∣t.place[i]:=by simp
 rw[this];show%[?_,ρ|ρ];rw[Zv,NM,Mx];unfold QN at h ⊢;simp only[Ox,nz.insertAt,Rt,on.size_extract,Xj,jg.min_self,Ub];show EE h hi
def zt(h:i<a.size):(Ox a i).toList=a.toList.eraseIdx i:=by
 rw[OQ,Ox,Xe,Rr,Rr,Oa,Oa];simp;show Zn ∅
def wY{ks:ZB}(I:bD w a ks s.heap)(m:∀h' b,vr a s.heap h'->bD w a (ks.erase z) h'->Q b {s with heap:=h'}):↥A (setDiscardHashed a (.str z tk) (NH w z)) Q E s:=by
 let%[o,c,ep,t,ss,h,n,j,d,J,p,f,L,v,y|g]:=id I;show Z2 (wX (ks:=ks) h j f L v λr M N=>?_);cases r with
 | none=>
   let O:z∉ks:=λq=>by
    let%[u|l]:=(eS d).mpr (J.mem_iff.mpr q);let%[e,B|T]:=Xp l;show M rfl e B u T
   rw[hH.erase_of_not_mem O]at m;show Z3 (m s.heap iv (vr.refl a s.heap) I)
 | some i=>
   let%[u|l]:=N i rfl;let hi:i<c.size:=(Xm l).1;let C:((NH w z,Mv z u)::(Ox c i).toList).Perm c.toList:=by
    rw[zt hi];let:=iV (xs:=c.toList) (hi);rwa[(Xm l).2]at this
   let%[ts,G|U]:=cq d (C.map _);cases G with
   | cons _ _ G=>
   let%[Y,d2|d3]:=Ce v hi;let H:(Ox c i).size=c.size-1:=by
    rw[<-Zb,<-Zb,<-C.length_eq];simp
   show Z2 (pw h j v ?_);dsimp only;show Z2 (NJ h j (Z2 (wpAny_point (Z3 (m _ hY (vr.update s.heap a _) (bD.stored h n j G ((hH.cons_perm_iff_perm_erase.mp (U.trans J)).2) (p.erase z) (λe B=>f e (C.mem_iff.mp (Zk _ B))) ?_ ?_ ?_ ?_).2)))) (NK ?_))
   .lia
   .show H▸Y
   .show d3▸y ⋯
   .show d2▸g
   .lia
end
def Aq(h:_ST.WF t a)(b:a.size<=t.mask):t.fits a.size=hY:=by
 unfold N9 QN;rw[h.size,h.dum];simpa using b
section
variable{prog:Program}{w:World}{A:Around}{E:ZD}{s:Shared}
abbrev vB(w:v0)(a:ku)(n:jg)(h:xl):Prop:=∃o b t,h.get? a∣o/\o.ExactSet/\o.data= .set #[] b t/\t.place= #[]/\t.dummies= #[]/\t.led=(!a7 w)/\(∃k,t.mask+1=2^k)/\7<=t.mask/\n<=t.mask
def vB.fits{t:nz}(a:t.place= #[])(b:t.dummies= #[]):t.fits (#[]:on (oT×kj)).size=hY:=by
 unfold N9 QN;rw[a,b];simp
def GX{n:jg}{Q:SK->mu->Prop}(a:s.heap.get? r∣bR w)(f:n<=1000)(c:∀h',vr r s.heap h'->vB w r n h'->Q () {s with heap:=h'}):↥A (setRoomFor r n) Q E s:=by
 let d:(Pb 0 0 (!a7 w)).fits _=hY:=vB.fits rfl rfl;show Z2 (pw a rfl d ?_);change tI _ _ (match(if(0+n)*5>=7*3 then hX ((0+n)*2)else hV)with|some x=>Vw r x|_=>pure ()) _ _ _;by_cases h:(0+n)*5>=7*3
 .rw[lX h];show _ST.relay_w a rfl d ∅ ⋯ λb t' P W l p g m2=>c _ (vr.update s.heap r _) ?_
  obtain rfl:b= #[]:=by
   let:=P.length_eq;simpa using this
  let e:=by
   let q:=MD (NU #[] t') a (by rfl);rwa[RO #[] t' rfl]at q
  show%[_,_,t',e,%[ρ,ρ|ρ],ρ,R7 W.size,W.dum,l,W.pow,W.big|⋯]
 .rw[kw h];show Z3 (c s.heap (vr.refl r s.heap) %[_,_,_,a,%[rfl,rfl|rfl],rfl,rfl,rfl,rfl,%[3|rfl],Zi 7|by change n<=7;lia])
def EF{ks:ZB}(M:bD w a ks s.heap)(N:s.heap.get? r∣bR w)(ne:r≠a)(h1:1<= ~~~ks)(h2: ~~~ks<=1000)(O:∀h',vr r s.heap h'->bD w r ks h'->Q () {s with heap:=h'}):↥A (setMerge r a) Q E s:=by
 let%[o,d,ep,t,ss,T,U,Y,n,G,z,B,hb,H,C|g]:=id M;let hn:d.size= ~~~ks:=by
  let q:=cn n;rw[Z6,Zb,G.length_eq]at q;show q
 let pl:t.plain=iv:=C ⋯;unfold setMerge;rw[kw ↑ne];show Z2 (pw T Y H ?_);dsimp only;rw[kw (λh:d.isEmpty=hY=>by let:=Zo h;lia)];show Z2 (GX N ⋯ λh' sb ⟨o2,ab,u,i,v,j,I,J,L,k2,b2,m2⟩=>Z2 (pw (s:={s with heap:=h'}) i j (vB.fits I J) ?_));dsimp only;let m:u.fill=0:=by unfold QN;rw[I,J];rfl
 let put:∀(b:on (oT×kj)) (t':nz),b.toList.Perm d.toList->t'.fits b.size=hY->t'.plain=iv->t'.led=(!a7 w)->↥A (Vu r b t') Q E {s with heap:=h'}:=λb t' P f p l=>by
  let sz:b.size=d.size:=by rw[<-Zb,P.length_eq,Zb]
  let%[ts,r1|r2]:=cq n (P\2);show NJ (s:={s with heap:=h'}) i j (O _ (sb.trans (vr.update h' r _)) (bD.stored (w:=w) i v j r1 (r2.trans G) z (λe he=>B e (P.mem_iff.mp he)) ⋯ f p l).2) (NK ⋯)
 unfold nz.road;rw[m,kw (!1)]
 split
 .show put d _ (.refl _) H (by change(u.plain&&t.plain)=iv;rw[pl,Ni]) (by change(u.led&&t.led)=_;rw[L,g,Ts])
 .let%[k|hk]:=k2;let%[t',c,e1,e2,e3,e4,e5,W|P]:=_ST.laid_ok hk b2 d ⋯ u.finger u.moves _ _;let sz:(c.filterMap (d[·]?)).size=d.size:=by rw[<-Zb,P.length_eq,Zb]
  rw[e1];show Z2 ?_;change tI _ A (if((c.filterMap _).size != d.size)=hY then _ else pure _) _ E _;rw[kw (by simp[sz])];show Z3 (put _ t' P (show t'.fits _=hY from Aq W (by rw[sz,e2];lia)) (by rw[e4,pl,Ni]) (by rw[e3,L,g,Ts]))
 .rename_i y
  split at y<;> cases y
end
def bD.nd(S:bD w a ks h):ks.Nodup:=by
 let%[_,_,_,_,_,_,_,_,_,_,h|_]:=S;show h
section
variable{prog:Program}{w:World}{A:Around}{E:ZD}{s:Shared}
def vC(c:bD w b f s.heap)(d:Q hY s):↥A (VS (.ref b)) Q E s:=by
 let%[o,g,h,t,ss,e,a|_]:=c;show Z2 (NS (b:=hY) %[o,e|a.1] (by kernel_rfl) (Z3 d))
def lM(d:bD w b e s.heap)(f:Q e.length s):↥A (Q5 b) Q E s:=by
 let%[o,u,v,t,ss,g,h,i,a,j,l,m,y,n,p|c]:=d;let r:=by
  let q:=cn a;rw[Z6,Zb,j.length_eq]at q;show q
 show Z2 (Oi g i n (Z3 (r▸f)))
def EG(N:bD w r ks s.heap)(O:bD w b T s.heap)(ne:r≠b)(big: ~~~T< ~~~ks)(few: ~~~ks<=900)
 (hQ:∀h' d f,(∀c o,c≠r->s.heap.get? c∣o->h'.get? c∣o)->(∀x,x∈f↔x∈ks/\x∉T)->bD w r f h'->Q () {s with heap:=h',drawn:=d}):↥A (PP nm r (.ref b)) Q E s:=by
 unfold PP;rw[kw (by simpa using ne.symm)];show Z2 (vC O ?_);rw[lX rfl];show Z2 (Z3 (Z2 (lM O (Z2 (lM N ?_)))));rw[kw ⋯];let%[o,es,ep,t,ss,ho,al,hd,an,hp,as,a0,hb,hf,a1|ak]:=id O;let B:∀(s':mu) (Q':jg->mu->Prop),s'.heap.get? b∣o->Q' ep s'->↥A (TU b) Q' E s':=λs' Q' e q=>by
  unfold TU;show Z2 (pw e hd hf (Z3 q))
 show Z2 (B s _ ho (Z2 (vu (Z2 (tR O (λc j=>%[ks|(Xo j)▸N]) (λ_ e=>(nomatch e)) λzs d h1 pz k1 _=>Z2 ?_)))));rw[<-Q0];show f9 (λxs _ s'=>∃g rest h',zs=g++rest/\xs=rest.map (hsE w)/\s'={s with heap:=h',drawn:=d}/\(∀c o,c≠r->s.heap.get? c∣o->h'.get? c∣o)/\∃f,bD w r f h'/\∀x,x∈f↔x∈ks/\x∉g\1) _ _ _
  %[[],zs,h1,rfl,rfl,rfl,λc o _ e=>k1 c o ∅ e,ks,N.keep λo e=>k1 r o ∅ e|by simp] ?_ ?_
 .intro x xs _ s' %[g,rest,h',U,ex,rfl,Y,f,S|h];cases rest with
  | nil=>cases ex
  | cons p rest=>
  rw[Yq]at ex;injection ex with ab ac
  subst ab;show Z2 (vu (wY (z:=p.1) (tk:=p.2) (s:={s with heap:=h',drawn:=d}) S λh2 bb sb S2=>Z2 ?_));unfold Om;let C:∀c o,c≠r->s.heap.get? c∣o->h2.get? c∣o:=λc o j e=>(sb.2 c j).trans (Y c o j e)
  show Z2 (B {s with heap:=h2,drawn:=d} _ (C b o ne.symm ho) ?_);rw[kw ∅];show Z3 (Z3 %[g++[p],rest,h2,by rw[U,Ze];rfl,ac,rfl,C,_,S2|λx=>?_]);rw[S.nd.mem_erase_iff,h,Zd,Yt,Yq,SB,Yy,OY]
  constructor
  .show λ⟨a,b,c⟩=>%[b,c|a]
  .show λ⟨b,c,a⟩=>%[a,b|c]
 .intro _ s' %[g,rest,h',U,ex,rfl,Y,f,S|h];obtain rfl:rest=[]:=by
   cases rest with
   | nil=>rfl
   | cons p rest=>cases ex
  rw[Zx]at U;let h:∀x,x∈f↔x∈ks/\x∉T:=λx=>by rw[h,<-U,pz.mem_iff]
  let ae: ~~~f≠0:=λe=>by
   let:=_ST.nodup_sub N.nd (m:=T) λx hx=>Nu λq=>by
    let:=(h x).mpr %[hx|q];rw[Ds.mp e]at this;cases this
   lia
  let sub:=_ST.nodup_sub S.nd λx hx=>((h x).mp hx).1
  show Z3 ?_;let%[o2,n,a2,t2,a3,u,G,v,i,H,I,J,a4,L,M|y]:=id S;let hn:=by
   let q:=cn i;rw[Z6,Zb,H.length_eq]at q;show q
  show Z2 (pw u v L ?_);dsimp only
  split
  .rw[show Np n.size=n.size*4 by unfold Np;rw[kw ⋯]];show _ST.relay_w u v L ⋯ ⋯ λag t' P W l p m1 m2=>?_
   let sz:ag.size=n.size:=by rw[<-Zb,P.length_eq,Zb]
   let%[ts,r1|r2]:=cq i (P\2);show hQ _ d f (λc o j e=>((vr.update h' r _).2 c j).trans (Y c o j e)) h (bD.stored u G v r1 (r2.trans H) I (λe he=>J e (P.mem_iff.mp he)) ⋯ (Aq W ⋯) (p▸M ⋯) (l▸y)).2
  .show Z3 (hQ h' d f Y h S)
def wZ(a:Q (.ref ⇑s) {s with heap:=s.heap.push (bR w)}):↥A (newSet (.type "set")) Q E s:=by
 show Z2 (Z2 (M3 (Z3 (MG a))))
def w6(d:bD w a ks s.heap)(e:Q (.type "set") s):↥A (VU a) Q E s:=by
 let%[o,g,h,t,ss,f,c|_]:=d;show Z2 (NS (b:=hY) %[o,f|c.1] (by kernel_rfl) (Z3 e))
def GY(v:bD w a ks s.heap)(C:bD w b I s.heap)(few: ~~~ks<=900)
 (hQ:∀h' d i,(∀c o,s.heap.get? c∣o->h'.get? c∣o)->(∀x,x∈i↔x∈ks/\x∉I)->bD w ⇑s i h'->Q (.ref ⇑s) {s with heap:=h',drawn:=d}):↥A (QB nm a (.ref b)) Q E s:=by
 let lt:∀{c:ku} {ls:ZB},bD w c ls s.heap->c≠⇑s:=λ{c ls} h=>by
  let%[o,_,_,_,_,U|_]:=h;show Zs (Zu U)
 let J:∀c o,s.heap.get? c∣o->(s.heap.push (bR w)).get? c∣o:=λc o e=>Z7 _ e
 let Y:(s.heap.push (bR w)).get? ⇑s∣bR w:=Zj _ rfl;let S1:=v.keep λo e=>J a o e
 let O1:=C.keep λo e=>J b o e
 unfold QB;dsimp only;show Z2 (vC C ?_);rw[kw (!1)];show Z2 (Z3 ?_);rw[kw ∅,lX rfl];show Z2 (lM C (Z2 (lM v ?_)))
 generalize hG:s.heap.push (bR w)=G at J Y S1 O1
 split
 .show Z2 (OB (Z2 ?_));unfold VT;show Z2 (w6 v (Z2 (wZ ?_)));rw[hG];show Z2 (Z3 (Z2 (EF (s:={s with heap:=G}) S1 Y (I0 (lt v)) ⋯ ⋯ λh1 sb R1=>Z3 ?_)));let k1:∀c o,s.heap.get? c∣o->h1.get? c∣o:=λc o e=>(sb.2 c (Zs (Zu e))).trans (J c o e)
  show Z2 (Z3 (Z2 (vu (EG (s:={s with heap:=h1}) R1 (C.keep λo e=>k1 b o e) (I0 (lt C)) ⋯ few λl d i k2 y M=>Z3 (hQ l d i (λc o e=>k2 c o (Zs (Zu e)) (k1 c o e)) y M)))))
 .show Z2 (w6 v (Z2 (wZ ?_)));rw[hG];show Z2 (Z3 ?_);let%[o,es,ep,t,ss,U,a2,hd,a3,hp,a4,a5,hb,hf,a6|an]:=id S1;let L:∀(s':mu) (Q':jg->mu->Prop),s'.heap.get? a∣o->Q' ep s'->↥A (TU a) Q' E s':=λs' Q' e q=>by
   unfold TU;show Z2 (pw e hd hf (Z3 q))
  show Z2 (L {s with heap:=G} _ U ?_);rw[lX rfl];show Z2 (vu (Z2 (tR (s:={s with heap:=G}) S1 (λc B=>?_) (λr e=>⟨by cases e;show I0 (lt v),by cases e;show bD.empty Y⟩) λzs d h1 pz k1 r1=>Z2 ?_)))
  .simp only[Yw,X6,M4]at B;rcases B with rfl|rfl
   .show%[_|O1]
   .show%[_|bD.empty Y]
  rw[<-Q0];show f9 (λxs _ s'=>∃f rest h',zs=f++rest/\xs=rest.map (hsE w)/\s'={s with heap:=h',drawn:=d}/\(∀c o,c≠⇑s->G.get? c∣o->h'.get? c∣o)/\∃i,bD w ⇑s i h'/\ ~~~i<= ~~~f/\∀x,x∈i↔x∈f\1/\x∉I) _ _ _
   %[[],zs,h1,rfl,rfl,rfl,(λc o B e=>k1 c o (λq=>B (Za q).symm) e),[],r1 _ rfl,Zi _|by simp] ?_ ?_
  .intro x xs _ s' %[f,rest,h',H,ex,rfl,g,i,M,ml|y];cases rest with
   | nil=>cases ex
   | cons p rest=>
   rw[Yq]at ex;injection ex with ab N
   subst ab;let zl: ~~~zs= ~~~ks:=by rw[<-pz.length_eq,Z6]
   let pl: ~~~f< ~~~ks:=by rw[<-zl,H,Z9,Zr];lia
   rw[lX rfl];let m:∀(l:xl) Qx,(∀c o,c≠⇑s->G.get? c∣o->l.get? c∣o)->Qx (.yield ⟨⟩) {s with heap:=l,drawn:=d}->↥A (Om nm a ep>>= λ_=>pure (OS PUnit.unit)) Qx E {s with heap:=l,drawn:=d}:=λl Qx k2 q=>by
    show Z2 ?_;unfold Om;show Z2 (L {s with heap:=l,drawn:=d} _ (k2 a o (lt v) U) ?_);rw[kw ∅];show Z3 (Z3 q)
   let mem:∀x,x∈(f++[p])\1↔x∈f\1\/x=p.1:=λx=>by rw[Zd,Yt,Yq,SB,Yy]
   let%[o2,bc,be,t2,bf,ac,as,ae,n,O,a0,T,ag,ak,a1|al]:=id O1;show Z2 (vu (Z2 (wX (ks:=I) (z:=p.1) (tk:=p.2) (g b o2 (lt C) ac) ae T ag ak λq q1 q2=>Z2 (Z3 ?_))));cases q with
   | none=>
     let hz:p.1∉I:=λz=>by
      let%[u|hu]:=(eS n).mpr (O.mem_iff.mpr z);let%[e,he|q3]:=Xp hu;show q1 rfl e he u q3
     rw[lX (by rfl)];show Z2 (lD (z:=p.1) (tk:=p.2) M (by rw[show OO=4096 from rfl];lia) λl bb sb M2=>Z3 ?_);let k2:=λc o B e=>(sb.2 c B).trans (g c o B e)
     show m l _ k2 %[f++[p],rest,l,by rw[H,Ze];rfl,N,rfl,k2,_,M2,?_|λx=>?_]
     .rw[Z9,Yk]
      split
      .lia
      .rw[Z9,Yk];lia
     .rw[mem];by_cases hx:x=p.1
      .subst hx;show%[λ_=>%[.inr rfl|hz]|λ_=>?_]
       split
       .rename_i h;show h
       .show Yv _ Zm
      .split
       .rw[y];show%[λh=>%[.inl h.1|h.2]|λh=>%[h.1.resolve_right hx|h.2]]
       .rw[Yt,Yy,y];show%[λh=>let h:=h.resolve_right hx;%[.inl h.1|h.2]|λh=> .inl %[h.1.resolve_right hx|h.2]]
   | some j=>
     let hz:p.1∈I:=by
      let%[u|hu]:=q2 j rfl;show O.mem_iff.mp ((eS n).mp %[u|Xq %[_,Z8 hu|rfl]])
     rw[kw ∅];show Z3 (m h' _ g %[f++[p],rest,h',by rw[H,Ze];rfl,N,rfl,g,i,M,by rw[Z9];lia|λx=>?_]);rw[y,mem];show%[λh=>%[.inl h.1|h.2]|λh=>%[h.1.resolve_right λe=>h.2 (e▸hz)|h.2]]
  .intro _ s' %[f,rest,h',H,ex,rfl,g,i,M,ml|y];obtain rfl:rest=[]:=by
    cases rest with
    | nil=>rfl
    | cons p rest=>cases ex
   rw[Zx]at H;show Z3 (Z3 (hQ h' d i (λc o e=>g c o (Zs (Zu e)) (J c o e)) (λx=>by rw[y,<-H,pz.mem_iff]) M))
end
def vD:VC table "set.__sub__"=hX n7.«frozenset.__sub__»:=T2 (id':="frozenset.__sub__") (by kernel_rfl) rfl (!0) (by kernel_rfl)
section
variable{X:Cx}
abbrev EH(w:v0):R2:=λx y H Q=>asR x λa=>asR y λb=>∃ks d,H a∣mW w a ks/\H b∣mW w b d/\ ~~~ks<=900/\∀l c,H l=hV->(∀x,x∈c↔x∈ks/\x∉d)->c.Nodup->Q (.ref l) (Qa H l (mW w l c))
def GZ:OpR X (M7 .Sub) (EH X.w):=by
 intro ij s A H x y v u Q I l m h;let%[a,rfl|n]:=aS h;let%[b,rfl,ks,B,p,r,few|q]:=aS n;cases l;cases m;let%[S,_|_]:=(I.hok a _ p)
 let%[O,_|_]:=(I.hok b _ r)
 let e:∀{c:ku} {i:ZB},bD X.w c i s.heap->s.TypeIs (.ref c) _:=λ{c i} h=>by
  let%[o,C,E,t,ss,f,g|_]:=h;show%[o,f|g.1]
 show wpAny_binaryOp_same (e S) (e O) F.fills_set_sub Xu (MC Xu (e S) vD (Z2 (Z2 (Z3 (Z3 (Z2 (Z2 (vC S (vC O (Z2 (Z3 (Z2 (GY S O few λh' d j k w M=>Z3 %[_,rfl,by simp,.ref ⇑s,_,I.stoodS (o:=mW X.w ⇑s j) (I.keptS k rfl rfl) (Zi _) %[M,?_|λ_ _ z k1=>bD.keep z k1],rfl|q _ j (I.hok.fresh (Zi _)) w M.nd])))))))))))) (F.args_set_sub_2 _ _));let%[o,_,_,_,_,f|_]:=M;show%[o|f]
def Kn(h:X.w=w):OpQ X (M7 .Sub) (EH w):=by subst h;show⟨GZ⟩
end
def lN{X:Cx}(a:bG k X.A)(b:MY .NotIn o=iv)(hi:QE X i ty)(c:QE X o d):QT X (.Compare i [.NotIn] [o] pos) (tB (uS ty d)):=
 ⟨CD (BA (by let:=a.units;lia) hi.h c.h) b⟩
open PySem PySem.Spec PyProof.Rows PySem.SeqAt
section
variable{X:Cx}
variable{K:ZA}{pos:Pos}
def af(i:jg){x:lp}(h:(X.N[i]?,X.env.scope.names.lookup x,x==("__debug__":lp),x==("__classdict__":lp))=(hX x,hX .local,iv,iv)):QE X (.Name x pos) (mP i):=by
 simp only[Nb]at h;show vn i h.1 (.inl h.2.1) h.2.2.1 h.2.2.2
def cr(i:jg){x:lp}(h:(X.N[i]?,X.env.scope.names.lookup x,x==("__debug__":lp),x==("__classdict__":lp))=(hX x,hX .cell,iv,iv)):QE X (.Name x pos) (mP i):=by
 simp only[Nb]at h;show vn i h.1 (.inr (.inl h.2.1)) h.2.2.1 h.2.2.2
def aJ{mg:ZC}{j k:jg}{x:lp}{ps:ZB}{sp:Sp}{p:Pos}{e:yu}{a:hH yu}{t:TA}(C:Cal X.prog X.w K mg X.base j x ps sp)(b:bG k X.A)(h:(X.K,X.mg,X.env.kindOf x,Qw j k,x==("__debug__":lp),(e::a).any aV)=(K,mg,hX .globalImplicit,hY,iv,iv))(c:QA X (e::a) t):QE X (.Call (.Name x p) (e::a) [] pos) (sE sp [] E0 t):=by
 simp only[Nb]at h;let%[rfl,rfl|h]:=h;show calE C b h.1 h.2.1 h.2.2.1 h.2.2.2 c
def HR{mg:ZC}{j k:jg}{x:lp}{ps:ZB}{sp:Sp}{p:Pos}{e:yu}{a:hH yu}{t:TA}(C:GP X.prog X.w K mg X.base j x ps sp)(c:wP K mg x)(b:bG k X.A)(h:(X.K,X.mg,X.env.kindOf x,Qw (j+1) k,x==("__debug__":lp),(e::a).any aV)=(K,mg,hX .globalImplicit,hY,iv,iv))(d:QA X (e::a) t):QE X (.Call (.Name x p) (e::a) [] pos) (zY (aG mg x) sp [] E0 t):=by
 simp only[Nb]at h;let%[rfl,rfl|h]:=h;show LG C c b h.1 h.2.1 h.2.2.1 h.2.2.2 d
def lO{mg:ZC}{j k:jg}{x m:lp}{ps:ZB}{sp:Sp}{a:Pos}{o:yu}{b:TE}{pl:Sem ri}(C:B3 X.prog X.w K mg X.base j x m ps sp)(c:wP K mg x)(e:bG k X.A)(h:(X.K,X.mg,Qw j k)=(K,mg,hY))
 (g:MZ (.Call (.Attribute o m a) [] [] pos) X.env=(do
  let d<-MZ o X.env
  Pk a.atName
  let(f,first)<-PF [d] (QK d m pl)
  T4 pos f first (Nt pos (vi [] X.env)) (Qh pos (Od [] X.env)))) (i:QE X o b):QE X (.Call (.Attribute o m a) [] [] pos) (zX (aG mg x) m sp [] E0 b Bt):=by
 simp only[Nb]at h;let%[rfl,rfl|h]:=h;show Ke C c e h g i
def cbO{x:lp}{id:M5}{r:hH V->Hp->VK->Prop}{p:Pos}{e:yu}{a:hH yu}{t:TA}(b:cF X (.builtin id) r)(c:X.mg x=hV)(d:Nz x∣.builtin id)(h:(X.env.kindOf x,x==("__name__":lp),x==("__debug__":lp),(e::a).any aV)=(hX .globalImplicit,iv,iv,iv))(f:QA X (e::a) t):QE X (.Call (.Name x p) (e::a) [] pos) (tCB r t):=by
 simp only[Nb]at h;show cbE b h.1 c d h.2.1 h.2.2.1 h.2.2.2 f
def ctO{x:lp}{T:M5}{r:hH V->Hp->VK->Prop}{p:Pos}{e:yu}{a:hH yu}{t:TA}(b:cF X (.type T) r)(c:X.mg x=hV)(d:Nz x∣.type T)(h:(X.env.kindOf x,x==("__name__":lp),x==("__debug__":lp),(e::a).any aV)=(hX .globalImplicit,iv,iv,iv))(f:QA X (e::a) t):QE X (.Call (.Name x p) (e::a) [] pos) (tCB r t):=by
 simp only[Nb]at h;show ctE b h.1 c d h.2.1 h.2.2.1 h.2.2.2 f
def bmO{o e:yu}{c:hH yu}{f:TE}{t:TA}{name:lp}{a b:Pos}{T id:M5}{r:V->hH V->Hp->VK->Prop}(g:Pi T)(slot:Slot T name id)(d:Pu (.builtin id)=pure (.type "method_descriptor"))(i:MtQ X id r)
 (h:(X.K,iT o,(e::c).any aV,W8 (e::c).length 30,a.endLine==b.line)=(K,iv,iv,hY,hY)) (j:QE X o f) (l:QA X (e::c) t):QE X (.Call (.Attribute o name a) (e::c) [] b) (tBM K T r f t):=by
 simp only[Nb]at h;let%[rfl|h]:=h;show bmE rfl g slot d i h.1 h.2.1 h.2.2.1 h.2.2.2 j l
def aF(i:jg){x:lp}{e:yu}{b:TE}{a:Pos}(c:X.N.Nodup)(h:(X.N[i]?,X.env.scope.names.lookup x,gP e)=(hX x,hX .local,iv))(d:QE X e b):QS X (.Assign [.Name x a] e pos) (rA b (lj i)):=by
 simp only[Nb]at h;show uW i c h.1 (.inl h.2.1) (.inr h.2.1) h.2.2 d
def aI(i:jg){x:lp}(a:X.N.Nodup)(h:(X.N[i]?,X.env.scope.names.lookup x)=(hX x,hX .local)):QG X (.Name x pos) (lj i):=by
 simp only[Nb]at h;show pC i a h.1 (.inl h.2) (.inr h.2)
variable{prog:Program}{w:World}{A:Around}{E:ZD}{s:Shared}
variable{x:ku}{C:ku}{name:lp}{v:kj}{ox:Ob}
variable{o:yu}{value:yu}{nm:lp}{ta:TE}{tv:TE}{pos':Pos}
end
abbrev iw:V->ri
 | .byt _=>iv
 | .flt _=>iv
 | _=>hY
def eM(r:aM xs us)(h:j<us.toArray.size):∃x,xs[j]?∣x/\aX x us.toArray[j]:=by
 let l:=h;let a:j< ~~~xs:= ~~~r▸l;let%[u,b|c]:=r.get (i:=j) (x:=xs[j]) ∅
 simp_all
def tT{A:wh}{s:mu}{x:V}{u v:kj}(e:iw x=hY)(a:aX x u)(c:aX x v):MB A s u v hY:=by
 cases x with
 | int i=>
   let%[t|rfl]:=a;let%[d|rfl]:=c;let:=MB.int_int (A:=A) (s:=s) i t i d;rwa[Ph]at this
 | str z=>
   let%[t|rfl]:=a;let%[d|rfl]:=c;let:=MB.str_str (A:=A) (s:=s) z t z d;rwa[Ph]at this
 | byt b=>cases e
 | flt b=>cases e
 | _=>cases a;cases c;show Vo _
abbrev pY(H:Hp)(x y:V):Prop:=(x=y/\iw x=hY)\/∃a b xs,x= .ref a/\y= .ref b/\H a<*xs/\H b<*xs/\xs.all iw=hY
def w8{xs:hH V}(h:xs.all iw=hY){j:jg}{x:V}(e:xs[j]?∣x):iw x=hY:=NC.mp h x (Z8 e)
section
variable{X:Cx}{ij:ZE}{σ:St}{H:Hp}{s:Shared}
def pZ(I:Qc X ij σ H s){A:wh}(h:pY H x y)(n:A.units<Of)(f:aX x u)(g:aX y v):MB A s u v hY:=by
 rcases h with⟨rfl,d⟩|⟨a,b,xs,rfl,rfl,o,p,d⟩
 .show tT d f g
 .cases f;cases g;by_cases e:a=b
  .subst e;show Vo _
  .let%[us,i,q|_]:=I.list (Qb.of o);let%[vs,l,r|_]:=I.list (Qb.of p);let c:=UK (A:=A) (s:=s) (e:=λ_=>hY) q.isList r.isList (by rw[Zp,Zp,<-i.length,<-l.length]) n λj w z=>by
    let%[x,ex|B]:=eM i w;let%[y,m|C]:=eM l z;rw[ex]at m;cases m;show tT (w8 d ex) B C
   rw[show(p0 us.toArray.size).all (λ_=>hY)=hY by simp]at c;show WM e c
end
section
variable{X:Cx}
nonrec abbrev LJ:R2:=λx y H Q=>∃a b xs ys,x= .ref a/\y= .ref b/\H a<*xs/\H b<*ys/\ ~~~xs= ~~~ys/\(∀(j:jg) x y,xs[j]?∣x->ys[j]?∣y->pY H x y)/\Q (.bl hY) H
def Ko(C:X.A.units+64<Of):OpR X (pp .Eq) LJ:=by
 intro ij s E H x y v u Q I d f h;let%[a,b,xs,ys,rfl,rfl,g,i,l,m|q]:=h;cases d;cases f;let%[us,d,n|_]:=I.list (Qb.of g);let%[vs,f,o|_]:=I.list (Qb.of i);let c:=UK (A:=X.A) (s:=s) (e:=λ_=>hY) n.isList o.isList (by rw[Zp,Zp,<-d.length,<-f.length,l]) ⋯ λj p r=>by
  let%[x,ex|w]:=eM d p;let%[y,z|B]:=eM f r;show pZ I (m j x y ex z) (by change X.A.units+1<Of;lia) w B
 rw[show(p0 us.toArray.size).all (λ_=>hY)=hY by simp]at c;show c _ _ _ _ %[.bl _,H,I,rfl|q]
def HS(a:bG k X.A):OpQ X (pp .Eq) LJ:=⟨Ko a.units⟩
nonrec abbrev LK:R2:=λx y H Q=>asR x λa=>asR y λb=>∃xs,H a<*xs/\H b<*[]/\Q (.bl (decide (xs=[]))) H
def Kq(w:X.A.units+64<Of):OpR X (pp .Eq) LK:=by
 intro ij s z H x y v u Q I d f h;let%[a,rfl|g]:=aS h;let%[b,rfl|i]:=aS g;let%[xs,o,p|q]:=i;cases d;cases f;let%[us,d,m|_]:=I.list (Qb.of o);let%[vs,f,n|_]:=I.list (Qb.of p);obtain rfl:vs=[]:=Ds.mp f.length.symm;by_cases l:xs=[]
 .subst l;obtain rfl:us=[]:=Ds.mp d.length.symm;let c:=UK (A:=X.A) (e:=λ_=>hY) m.isList n.isList rfl ⋯ λj r B=>n0 r (X4 _)
  show c _ _ _ _ %[.bl _,H,I,rfl|q]
 .rw[Zh l]at q;let c:=RcAt.lists_lengths (A:=X.A) m.isList n.isList (by
   let: ~~~us≠0:= ~~~d▸λq=>l (Ds.mp q)
   simpa using this) ⋯
  show c _ _ _ _ %[.bl _,H,I,rfl|q]
def dinE(a:bG k X.A)(b:MY .In o=iv)(hi:QE X i ty)(c:QE X o d):QE X (.Compare i [.In] [o] pos) (Gf ty d):=⟨Iw (Df (by let:=a.units;lia) hi.h c.h) b⟩
def LL(a:bG k X.A):OpQ X (pp .Eq) LK:=⟨Kq a.units⟩
end
def p7:∀{zs:ZB} {its:ZF},aM (zs\3) its->ReadsAll h its (zs.map Po) []
 |[],_,.nil=> .nil
 | z::zs,_,.cons r v=>by
   let%[t|rfl]:=r;show .cons (.str _ _) (p7 v)
abbrev p8(p:ku×ZB):My:= .tuple (p.2.map Po)
def p9{X:Cx}(I:Qc X ij h H s):∀{ss:ZG} {its:ZF},aE H ss->aM (ss\0) its->∃a,ReadsAll s.heap its (ss.map p8) a
 |[],_,_,.nil=>%[_|.nil]
 | p::ss,_,t,.cons r v=>by
   cases r;let%[us,b,%[%[cls,i,data|j],c,d,n|e]|_]:=I.tuple (SqT.of (t p (Zm ..)).2);let%[bs|f]:=p9 I (λq g=>t q (Zk _ g)) v;show%[_|.cons (.tuple c d e (p7 b)) f]
def zu(zs:ZB):Pp (zs.map Po)=hY/\Pw (zs.map Po)=iv/\Qk (zs.map Po)=0:=by
 induction zs with
 | nil=>show%[ρ,ρ|ρ]
 | cons z zs a=>simp only[Yq,Pp,Pw,Qk,a.1,a.2.1,a.2.2];show%[ρ,ρ|ρ]
def zv{zs:ZB}(h:∀z∈zs,~~~z<=30/\∀c∈z.cps.toList,c<16^8):OH 8 (zs.map Po)=hY/\PU (zs.map Po)<=31* ~~~zs:=by
 induction zs with
 | nil=>show%[ρ|Zi _]
 | cons z zs d=>
   let%[a|b]:=d λy e=>h y (Zk _ e)
   let%[l|c]:=h z (Zm ..);simp only[Yq,OH,PU,SX,a,Zr,ri.and_true];let: ~~~z=z.cps.size:=rfl;show%[NC.mpr λx f=>Zf (c x f)|⋯]
def zw{ss:hH _}(h:∀p∈ss,~~~p.2<=3/\∀z∈p.2,~~~z<=30/\∀c∈z.cps.toList,c<16^8):Pp (ss.map p8)=hY/\Pw (ss.map p8)=iv/\Qk (ss.map p8)<=1/\OH 8 (ss.map p8)=hY/\PU (ss.map p8)<=94* ~~~ss:=by
 induction ss with
 | nil=>show%[ρ,ρ,Xf _,ρ|Zi _]
 | cons p ss f=>
   let%[a,b,c,d|e]:=f λy g=>h y (Zk _ g)
   let%[l|z]:=h p (Zm ..);let%[i,j|m]:=zu p.2;let%[n|o]:=zv z;simp only[Yq,p8,Pp,U3,Pw,Vh,Qk,VZ,OH,Uj,PU,SX,i,j,m,n,Zr];show%[a,b,⋯,d|⋯]
section
variable{X:Cx}{ij:ZE}{σ:St}{H:Hp}{s:Shared}
def EI{k:ZB}{x:V}{j:jg}(h:(k\3)[j]?∣x):∃z,k[j]?∣z/\x= .str z:=by
 rw[Zl]at h;let%[z,e|rfl]:=Mu.mp h;show%[z,e|ρ]
def xa{k l:ZB}(h:k\3=l\3):k=l:=(hH.map_inj_right λ_ _=>V.str.inj).mp h
def EJ(I:Qc X ij σ H s){A:wh}{a b:ku}{k l:ZB}(g:H a&&&k\3)(f:H b&&&l\3)(q:A.units<Of):MB A s (.ref a) (.ref b) (decide (k=l)):=by
 by_cases e:a=b
 .subst e;rw[g]at f;rw[Zf (xa (HO.tup.inj (Za f)))];show Vo _
 .let%[us,m,r|_]:=I.tuple (SqT.of g);let%[vs,n,v|_]:=I.tuple (SqT.of f);let d:=RcAt.tuples r v q λj o p=>by
   let%[x,ex|w]:=eM m o;let%[y,B|C]:=eM n p;let%[z,E|rfl]:=EI ex;let%[u,G|rfl]:=EI B;let:=Da (A:=A.in1) (s:=s) w C rfl rfl;rw[show eqV _ _=decide (k[j]? =l[j]?) by rw[E,G];change(z==u)=_;by_cases c:z=u<;> simp[c]]at this;show this
  rw[show((p0 _).all _&&us.toArray.size==vs.toArray.size)=decide (k=l) by
   rw[Zp,Zp,<-m.length,<-n.length,NW,Zv,NC,NG];show%[λ⟨o,p⟩=>Q2 λi=>?_|λh=>by lia]
   grind]at d
  show WM e d
end
section
variable{X:Cx}
nonrec abbrev As:R2:=λx y H Q=>asR x λa=>asR y λp=>∃(k:ZB),H a&&&k\3/\∃(ws:ZG),H p∣.lst (ws\0)/\(∀t∈ws,H t.1&&&t.2\3)/\k∈ws\2/\Q (.bl iv) H
open Classical in
def Cf(i:X.A.units+64<Of):OpR X (pp .NotIn) As:=by
 intro ij s G H x y v u Q I l m h;let%[a,rfl|c]:=aS h;let%[p,rfl|d]:=aS c;let%[k,n,ws,o,hw,w|q]:=d;cases l;cases m;let%[us,r,pl|_]:=I.list (Qb.of o);let of:∀y∈us,∃t∈ws,y= .ref t.1:=λy f=>by
  let%[j,g|rfl]:=Qg f;let%[x,ex|rr]:=eM r (g);rw[Zl]at ex;let%[t,b|rfl]:=Mu.mp ex;show%[t,Z8 b|(rr)]
 show notIn_listAt (λv=>decide (∃t∈ws,v= .ref t.1/\t.2=k)) pl.isList (λy f=>?_) %[.bl iv,H,I,?_|q]
 .let%[t,b|rfl]:=of y ↑f;let:=EJ I (A:=X.A.in1) (hw t b) n ⋯;rw[show decide _=decide (t.2=k)from ?_]
  .show this
  .rw[NW,NG,NG];show%[λ⟨t',z,B,C⟩=>?_|λh=>%[t,b,ρ|h]];let e:=hw t' z;rw[<-UI B,hw t b]at e;rw[<-C,xa (HO.tup.inj (Za e))]
 .let%[t,b|e]:=Xp w;let%[j|g]:=Xg b;let%[u,i|E]:=r.get (by rw[Zl,g];rfl);cases E;rw[show us.toArray.any _=hY from ?_]
  .rfl
  .rw[hH.any_toArray,Sc];show%[_,Z8 i|Zf %[t,b,ρ|e]]
def EK(a:bG k X.A):OpQ X (pp .NotIn) As:=⟨Cf a.units⟩
def tU:∀{a:ZL} {us:ZF},aM (a\4) us->∃ps:hH (oT×Tok),ps\1=a/\us=ps.map λp=>RZ p.1 p.2
 |[],_,.nil=>%[[],rfl|rfl]
 | n::a,_,.cons r v=>by
   let%[t|rfl]:=r;let%[ps,rfl|rfl]:=tU v;show%[(n,t)::ps,ρ|ρ]
def Cg(w:X.calm=hY):cE X (.builtin "min") (λxs H Q=>db xs λf=>asR f λp=>∃(a:ZL),Qb X.K H p (a\4)/\0< ~~~a/\∀m∈a,(∀y∈a,m<=y)->Q (.int m) H):=by
 intro ij s L H xs us Q I r h;let%[f,rfl|c]:=cc h;let%[p,rfl|d]:=aS c;let%[a,e,g|q]:=d;let%[u,rfl|z]:=dD r;cases z;let%[its,A,B|M]:=I.list e;let%[ps,rfl|rfl]:=tU A;rw[Z6]at g;let%[C|l]:=argBest_lt _ (~~~ps-1);show min_intList (I.ok.hd w) ((show intItems ps.toArray=(ps.map λp=>RZ p.1 p.2).toArray by simp[intItems])▸B.isList) g λv h' tk n k=>?_
 generalize PM _ _=b at C l n
 let E:∀i h,numAt ps.toArray i=ps[i].1:=λi h=>by simp[numAt,h]
 let o:b< ~~~ps:=by lia
 let G:v= .int ps[b].1 ps[b].2:=by simpa [intItems,o,eq_comm]using n
 show%[.int _,H,I.kept k,%[_|G]|q _ (Xq %[_,Yd o|ρ]) λy J=>?_];let%[p,e|rfl]:=Xp J;let%[j,N|rfl]:=Qg e;let:=l j ⋯
 simp_all
def Kr{K:ZA}(h:X.K=K)(b:X.calm=hY):cF X (.builtin "min") (λxs H Q=>db xs λc=>asR c λp=>∃(a:ZL),Qb K H p (a\4)/\0< ~~~a/\∀m∈a,(∀y∈a,m<=y)->Q (.int m) H):=by subst h;show⟨Cg b⟩
end
noncomputable abbrev Cx.tryV(X:Cx)(pn:ZE)(E:St->XK):Cx:={X with pn:=pn,xe:=λe s'=>∃ij a H s,Qc ({X with pn:=pn}) ij a H s/\CXO X.prog X.w X.stack H s (E a) e s'}
abbrev HU(CX:CXT)(X:Cx)(E:St->XK):Prop:=∀ij (a:St) H s e s',Qc X ij a H s->CX X.stack H s (E a) e s'->X.xe e s'
def Ch{X:Cx}:HU (CXO X.prog X.w) (X.tryV pn E) E:=by
 intro ij a H s e s' I %[b,B,cls,c,d,rfl,F|q];show%[ij,a,H,s,%[Lu I.ok _ _,I.os,I.bare,I.base,I.loc,I.cell,I.free,I.freeC,I.pin,I.hok|I.len],b,B,cls,c,d,ρ,F|q]
abbrev EM(K:ZA)(D:ku)(E:St->XK)(len i:jg)(f ts:TS):TS:=λe g H=>f e g H/\∀b cls d c,E b cls d c->∃C,cls= .ref C/\Rs K (.ref C) (.ref D)∣hY/\
 ∀a,~~~b=len->c a=hV->ts (e.gone i) (b.set i (hX (.ref a))) (Qa c a (ExH a C d))
def At{X:Cx}{D:ku}(l:X.stack=X.env::X.outer)(hf:X.env.frame∣X.env.locals)(hN:X.N.Nodup)(hi:X.N[i]?∣n)
 (hk:X.env.kindOf n∣.local) (hl:X.env.scope.names.lookup n∣.local) (hg:Gl X x) (hm:X.mg x∣.ref D) (c:Cat X.K D) (m:∀pn,PSs (X.tryV pn E) L tb) (h:∀a,PSs (X.suiteX a) (M::o) ts)
 (ac:(x==("__debug__":lp))=iv):
 PS X (.Try L [.ExceptHandler (hX (.Name x p)) (hX n) (M::o) N] [] [] pos) (EM X.K D E X.N.length i tb ts):=by
 intro ij s σ H Dn I %[h1|h2];show WU (Mz (m _ [] s σ H Dn (I.toPn _) h1) (λf s1 q=>?_) λe s1 q=>?_)
 .let q':=SP.ofPn q;cases f with
  | next=>show Ot q'
  | brk=>show q'
  | cont=>show q'
  | ret u=>show q'
 .let%[ae,ag,H1,s2,I1,A,B,cls,dx,H',rfl,F|qE]:=q;let%[C,rfl,O|ak]:=h2 ag cls dx H' qE;show Af (.inr rfl) (l▸I.ok.frames) hf (l▸F).up λha ua T=>u9 ua λhb ub U=>?_
  let%[un|al]:=F.fly ub.1 (T.trans U);let J:=(I1.call' (s':={s1 with heap:=hb}) F.os un al F.bare λb z=>n0 z ∅).ofPn;let%[_,_,_,oe,vs,eb,an,a4,a5|_]:=id ub;show wpAny_handleBy_cons (codeAny_handlers_test (iO (J.toSuite A) hg hm (DR J.kIn c.ty c.ex c.cd eb an O (codeAny_handlers_suite_as (u9 ub λhc uc as=>?_))) ac)) (by intro q;cases q);let%[a0|Y]:=F.fly uc.1 ((T.trans U).trans as);let%[_,_,_,oc,vc,ec,a1,a2,a3|_]:=id uc;let ab:=I1.ofPn;show kZ (v:= .ref A) (ab.stood3 (λ_ z=>z) ((I1.call' (s':={s1 with heap:=hc}) F.os a0 Y F.bare λb z=>n0 z ∅).ofPn) F.free F.new (ExH.ok ec a1 a2 a3)) hN hi (.inl hl) rfl (λs4 J4=>Mz (h A ij s4 _ _ _ (J4.toSuite A) (ak A ab.len F.free)) (λf s5 q5=>?_) λ_ _ z=>z.elim) (.inr hl);let d:∀{g:St} {G:Hp} {Q:SK->mu->Prop},Qc (X.suiteX A) ij g G s5->(∀s',Qc X ij _ G s'->Q () s')->
   (X⁻¹) (do bindName X.env n _;Vt X.env n N) Q X.xe s5:=λj h5=>GF (j.ofSuite I.ok) hN hi hk h5
  cases f with
  | next=>
    let%[g,G,j|w]:=q5;show d j λs' y=>%[_,_,y|w]
  | brk=>
    let%[g,G,j|w]:=q5;show d j λs' y=>%[_,_,y|w]
  | cont=>
    let%[g,G,j|w]:=q5;show d j λs' y=>%[_,_,y|w]
  | ret u=>
    let%[v,g,G,j,r|w]:=q5;show d j λs' y=>%[v,_,_,y,r|w]
def tryV{X:Cx}{D:ku}(E:St->XK)(f:X.stack=X.env::X.outer)(m:X.env.frame∣X.env.locals)(o:X.N.Nodup)(hi:X.N[i]?∣n)
 (q:X.env.kindOf n∣.local) (r:X.env.scope.names.lookup n∣.local) (s:Gl X x) (u:X.mg x∣.ref D) (c:Cat X.K D) (j:(x==("__debug__":lp))=iv) (d:∀pn,QSs (X.tryV pn E) g v) (b:∀a,QSs (X.suiteX a) (h::e) ts):
 QS X (.Try g [.ExceptHandler (hX (.Name x p)) (hX n) (h::e) l] [] [] pos) (EM X.K D E X.N.length i v ts):=
 ⟨At f m o hi q r s u c (λpn=>(d pn).h) (λa=>(b a).h) j⟩
abbrev qa(L:hH ku)(c:ku->Ob)(H:Hp):Hp:=λb=>if b∈L then(match H b with|hX (.dK a)=>hX (.frz (c b) (.dK a))|x=>x)else H b
def oR(h:b∈L)(e:H b∣.dK a):qa L c H b∣.frz (c b) (.dK a):=by
 unfold qa;rw[lX h,e]
def qb(h:b∉L):qa L a H b=H b:=kw h
def i6(h:∀a,H b≠hX (.dK a)):qa L d H b=H b:=by
 unfold qa;by_cases c:b∈L
 .rw[lX c];cases e:H b with
  | none=>rfl
  | some o=>cases o<;> first|rfl|show(h _ e).elim
 .rw[kw c]
section
variable{P:nY}{w:v0}{K:ZA}{mg:ZC}{base:xl}{k:jg}{f:ku}{fd:O6}{ps:ZB}{sp:Sp}
def G0(x:HOk P w H h):HOk P w (qa L (λb=>(h.get? b).getD default) H) h:=by
 intro b o e;let st:∀{b:ku} {o:HO},cD P w H h b o->cD P w (qa L (λb=>(h.get? b).getD default) H) h b o:=λq=>q.stay (λ_ _ _ q=>q) (λc q=>by rw[i6 (λa z=>by lia)];show q) λc xs q=>by rw[i6 (λa z=>by rw[q]at z;cases z)];show q
 by_cases c:b∈L
 .by_cases d:∃a,H b∣.dK a
  .let%[a|d]:=d;rw[oR c d]at e;cases e;let%[i|g]:=(x b _ d).there;show%[by rw[g];rfl|st (x b _ d)]
  .rw[i6 (λa z=>d %[a|z])]at e;show st (x b o e)
 .rw[qb c]at e;show st (x b o e)
def Ks(u:Un fs [] H c h h'):Un fs [] H (qa L g c) h h':=by
 show%[u.keep,u.slot,λb o e n d=>?_,u.there,λb xs e=>?_,λb o v e=>?_|λb q e=>?_]
 .let:=u.free b o e n d;rw[i6 (λa z=>by lia)];show this
 .let:=u.tups b xs e;rw[i6 (λa z=>by rw[this]at z;cases z)];show this
 .let:=u.frzs b o v e;rw[i6 (λa z=>by rw[this]at z;cases z)];show this
 .let%[m|this]:=u.tbls b q e;show%[m|by rw[i6 (λa z=>by rw[this]at z;cases z)];show this]
def eQ.freeze(F:eQ P w K mg base CX0 k f fd ps sp):eQ P w K mg base CX0 k f fd ps (λvs H Q E=>sp vs H (λv b=>∃L,∀c,Q v (qa L c b)) E):=by
 show%[λvs H Q E=>F.len vs H _ E|λA outer s H args us vs Q E d g h i j=>codeAny_mono (F.run A outer s H args us vs _ E d g h i j) λr s' a=>?_];cases r with
 | error e=>show a
 | ok l=>
   cases l with
   | ret u=>
     let%[v,z,m,n,o,p,q,L|y]:=a;show%[v,_,m,n,Ks o,G0 p,q|y _]
   | next=>show a
   | brk=>show a
   | cont=>show a
end
abbrev Itk(d:ku)(o:Ob)(a:hH (Key×V)):It:=⟨λi H=>H d∣.frz o (.dK a)/\i< ~~~a,λi H x b=>b=H/\∃k v,a[i]?∣(k,v)/\x=kV k,λi H=>H d∣.frz o (.dK a)/\ ~~~a<=i⟩
abbrev Au(c:TE):TI:=λe H R=>c e H λv b=>∃d o a,v= .ref d/\b d∣.frz o (.dK a)/\R (Itk d o a) b
def G1(h:kg k v=hY):aX (kV k) v:=by
 rcases bg h with⟨i,t,rfl,rfl⟩|⟨x,t,rfl,rfl⟩
 .show%[t|ρ]
 .show%[t|ρ]
def Kt{a:hH _}{vs:hH _}(r:KV a vs){i:jg}{k:Key}{v:V}(e:a[i]?∣(k,v)):∃u,vs[i]?∣(k,u)/\aX v u:=by
 induction r generalizing i with
 | nil=>cases e
 | @cons p q ps qs b t c=>
   cases i with
   | zero=>
     obtain rfl:p=(k,v):=Za e;show%[q.2,by rw[show k=q.1 from b.1];rfl|b.2]
   | succ i=>show c e
def qc(r:KV a vs): ~~~a= ~~~vs:=by
 induction r with
 | nil=>rfl
 | cons _ _ b=>simp_all
section
variable{P:nY}{w:v0}{K:ZA}{tg:yu}
def EN{X:Cx}(I:Qc X ij p H s)(e:H d∣.frz o (.dK a))(b:o.data= .dict h i):∃vs,KV a vs/\s.heap.DictAt (aT X.prog X.w) d vs i:=by
 let%[g,q,u,vs,r,v,j,l,c,m,f|n]:=I.hok d _ e;rw[g]at c;cases c;rw[b]at f;cases f;show%[vs,r,_,h,g,m,b|n]
def EO(d it:ku)(o:Ob)(kvs:hH _):rB P w K tg (Itk d o kvs) [it] it (λi h=>∃es ep,o.data= .dict es ep/\h.IsKeyIter it d i kvs.length ep) where
 mem:=by simp
 obj:=λi h st b hb=>by
  let e:=↑hb
  subst e;let%[_,_,_,o,e,c|d]:=st;show%[o,e|λv z=>by rw[d]at z;cases z]
 keep:=λi h h' ⟨es,ep,ho,st⟩ k=>%[es,ep,ho|st.at λo e=>k it ∅ o e]
 item:=by
  intro X hP hw hK hc i ij s σ H E I hf st hg;subst hP hw hK;let%[es,ep,ho|st]:=st;let%[hd|hi]:=hg;let%[vs,r|da]:=EN I hd ho;let ln:=qc r;let%[u,hu|ru]:=Kt r (Z4 hi);let%[f0,f1,f2,f3,f4|f5]:=hf it ∅;rw[ln]at st;show wpAny_pyNext_dict_item st da hu λkey h' hk st' sb=>?_
  rw[<-ln]at st';let%[o',e,c|dd]:=id st';show%[key,ρ|si e c dd (!1) %[_,H,(I.turned (λb o hb e=>(sb.2 b hb).trans e) f0 f1 f3 f4 f5),G1 hk,%[ρ,_,_,Z4 hi|ρ],%[es,ep,ho|st']|λb hb=>(hf b hb).1]]
 done:=by
  intro X hP hw hK hc i ij s σ H E I hf st hg;subst hP hw hK;let%[es,ep,ho|st]:=st;let%[hd|hi]:=hg;let%[vs,r|da]:=EN I hd ho;let ln:=qc r;let%[f0,f1,f2,f3,f4|f5]:=hf it ∅;rw[ln]at st;show wpAny_pyNext_dict_end (I.ok.hd hc) st da (Xl ⋯) λh' eb=>%[rfl|I.turned (λb o hb e=>eb b o hb e) f0 f1 f3 f4 f5]
 self:=λ_ _ _ _ _ ⟨_,_,_,st⟩ h=>Vr st h
def G3{X:Cx}(p:PE X l u):PI X tg l (Au u):=by
 intro ij s y H R I h;show thP (p ij s y H _ I h) λv c x z a A B=>?_
 let%[d,o,f,e,C|q]:=B;subst e;cases A;let%[g,O,E,vs,r,G,j,m,i,J,n|L]:=a.hok d _ C;let M:c.heap.DictAt _ d vs m:=%[G,j,i,J,n|L]
 rw[g]at i;cases i;show wpAny_pyIter_dict E M %[⇑c,[⇑c],_,_,z,rfl,a.kept λb o e=>Z7 _ e,EO d _ o f,%[j,m,n,_,Zj _ rfl,rfl|by rw[qc r];rfl],λb N=>?_|q];let e:=↑N
 subst e;show a.fpOk (Zi _) (a.hok.fresh (Zi _))
def HV{X:Cx}(a:QE X l b):QI X tg l (Au b):=⟨G3 a.h⟩
end
section
variable{X:Cx}
abbrev LM:V->hH V->Hp->VK->Prop:=λx vs H Q=>asR x λa=>∃b,vs=[.ref b]/\∃c more,a≠b/\H a∣.dK c/\H b∣.dK more/\ ~~~c+ ~~~more<=md/\Q .non (Qa H a (.dK (iR c more)))
def Ku:MtM X "dict.update" LM:=by
 intro ij s C H x vs v us Q I m n h;let%[a,rfl,b,rfl,o,more,ne,g,p,i|q]:=aS h;cases m;let%[u,rfl|r]:=n.one;cases r;let%[z,w,vs,d|j]:=nF I.hok g;let%[E,e,y,c|f]:=nF I.hok p;show SH WX j.typeIs PySem.F.entry_dict_update (PySem.F.args_dict_update_2 _ _) (meets_dict_update _ a b ne e) %[vs,y,j,f,by rw[<-qc d,<-qc c];show i|λh' l G A=>%[.non,_,oJ I (g▸MQ) A (let⟨q,_,_,B,_⟩:=l;%[q|B]) (yF (nI (ki _ _) i) w (KV.merge c d) l),rfl|q]]
def xc:MtQ X "dict.update" LM:=⟨Ku⟩
end
def Cal.freeze{P:nY}{K:ZA}(C:Cal P w K mg base k x ps sp):Cal P w K mg base k x ps (λvs H Q E=>sp vs H (λv a=>∃L,∀b,Q v (qa L b a)) E):=by
 let%[f,c,F|r]:=C.ex;show%[f,c,F.freeze|r]
def Cal.imp{P:nY}{K:ZA}(C:Cal P w K mg base k x ps sp)(h:∀vs H Q E,a vs H Q E->sp vs H Q E):Cal P w K mg base k x ps a:=by
 let%[f,b,F|r]:=C.ex;show%[f,b,F.imp h|r]
section
variable{X:Cx}
variable{prog:nY}{w:v0}{A:wh}{R:Ua->mu->Prop}{I S:ku}{fp wr:hH ku}{n:jg}{P:jg->kj->Prop}{St:jg->xl->Prop}{val:jg->oT}{kn:lp}{d:kj}
variable{e:yu}{v:yu}{te:TE}{tv:TE}{p:Pos}{pos:Pos}{kpos:Pos}
variable{K:ZA}
variable{s:mu}{E:ZD}
def m7{xs:hH V}{us:ZF}(r:aM xs us):∀is:hH jg,aM (is.filterMap (xs[·]?)) (is.filterMap (us.toArray[·]?))
 |[]=> .nil
 | i::is=>by
   let h:us.toArray[i]? =us[i]? :=by simp
   rw[Y1,Y1,h];by_cases c:i< ~~~xs
   .let%[u,a|b]:=r.get (i:=i) (x:=xs[i]) ∅;rw[a,Z4 c];show .cons b (m7 r is)
   .rw[Xl (by omega),Xl (by let:= ~~~r;omega)];show m7 r is
variable{ij:ZE}{σ:_LL.St}{H:Hp}
end
section
variable{X:Cx}
abbrev evI(n:jg):hH jg:=sliceRange (NZ hV hV (hX 2) n).1 (NZ hV hV (hX 2) n).2.1 (NZ hV hV (hX 2) n).2.2
abbrev EQ(e b:TE):TE:=λd H Q=>e d H λx f=>b d f λy c=>∃a xs,x= .ref a/\c a<*xs/\y= .int 2/\∀p:ku,c p=hV-> ~~~((evI xs.length).filterMap (xs[·]?))<= ~~~xs->Q (.ref p) (Qa c p (.lst ((evI xs.length).filterMap (xs[·]?))))
def Kv{e st:yu}{m c:TE}{pos p:Pos}(w:PE X e m)(g:PE X st c):PE X (.Subscript e (.Slice hV hV (hX st) p) pos) (EQ m c):=by
 intro ij s i H Q I h;show T7 (thP (w ij s i H _ I h) λv z x A B C E=>?_);show wpAny_Slice (We (We (evalPart_some_step (thP (g ij z i A _ B E) λu f y G J L ⟨a,xs,ex,M,N,q⟩=>?_))));subst ex N;cases C;let%[j|rfl]:=(L)
 let l:Qc X ij i G {f with heap:=f.heap.push {cls:= .type "slice",data:= .fields #[.none,.none,.int 2 j]}}:=J.kept λb O q=>Z7 _ q
 let T:(f.heap.push {cls:= .type _,data:= .fields #[.none,.none,.int 2 j]}).IsSliceOf ⇑f _ _ _:=Sr ..;let%[its,r,n|U]:=l.list (Qb.of M);let d:= ~~~r;show tail_any n.isList.typeIs Sy.lookup (Us n.isList T .none .none (.int 2 j) ∅ ?_ (!2)) (by with_unfolding_all rfl);let sz:=slicePick_size_le its.toArray hV hV (hX 2);unfold WY at sz ⊢;rw[show its.toArray.size= ~~~xs by show d.symm]at sz ⊢;let pv:=m7 r (evI xs.length);let o: ~~~((evI xs.length).filterMap (xs[·]?))<= ~~~xs:=by rw[pv.length];show sz
 show%[.ref _,_,l.laid (λb O q=>Z7 _ q) (Zi _) ?_,ρ|q _ (l.hok.fresh (Zi _)) o];show%[nI o U,_,0,pv|Zj _ rfl]
def Kw{e st:yu}{c a:TE}{pos d:Pos}(f:QE X e c)(b:QE X st a):QE X (.Subscript e (.Slice hV hV (hX st) d) pos) (EQ c a):=⟨Kv f.h b.h⟩
end
abbrev LN(d:TE):TE:=λe H Q=>d e H λv b=>∃(a:ku) (ss:ZG),v= .ref a/\b a∣.lst (ss\0)/\aE b ss/\ ~~~ss<=300/\(∀p∈ss,~~~p.2<=3/\∀z∈p.2,~~~z<=30/\∀c∈z.cps.toList,c<16^8)/\∀z:lp,~~~z<=400000->Q (.str z) b
def LP{X:Cx}{e:yu}{c:TE}{pos:Pos}(i:X.A.guards∣[])(O:X.A.units+64<Of)(j:QE X e c):QE X (.FormattedValue e 114 hV pos) (LN c):=by
 show⟨λij s l H Q I h=>?_⟩;show wpAny_FormattedValue_repr (thP (j.h ij s l H _ I h) λu m v o b r ⟨a,ss,p,w,y,T,z,q⟩=>?_);subst p;cases r;let%[us,A,pl|_]:=b.list (Qb.of w);let%[%[cls,U,data|Y],B,C,n|E]:=pl.isList;let%[as|G]:=p9 b y A;let%[J,L,f3,M|f5]:=zw z;let len:=My.shown_le 8 (!1) (.list (ss.map p8)) (by simpa only[Uj]using M);simp only[SX]at len;let f: ~~~(VY (.list (ss.map p8)))<=400000:=by lia
 let g: ~~~(VY (.list (ss.map p8)))<=md:=nI f (!1);show pyReprObj_of_reads (h₀:=m.heap) (d:= .list (ss.map p8)) (.list B C E G) (by simpa only[U3]using J) (λx=>by simp only[Vh,L]at x;cases x) i (by simp only[VZ];lia) (λ_ _ x=>x) (λh' t tk k=>?_) g;show XC (λt' N=>%[.str _,o,(b.kept k).tok _,%[_|rfl]|q _ f]) g
abbrev LQ(K:ZA)(c:TE):TI:=λd H R=>c d H λx b=>asR x λa=>(∃xs,Qb K b a xs)/\R (Itl K a) b
def cG{X:Cx}{K:ZA}{g l:yu}{f:TE}(h:X.K=K)(i:QE X l f):QI X g l (LQ K f):=by
 subst h;show⟨λij s j H R I h=>thP (i.h ij s j H _ I h) λv c x m d n r=>?_⟩;let%[a,rfl,%[xs|u]|q]:=aS r;cases n;let%[its,y,p|z]:=d.list u;show OU p.isList ⟨⇑c,[⇑c],_,_,m,rfl,d.kept (t':=c.toks) λb o e=>Z7 _ e,sj a _,%[_,Zj _ rfl,rfl|rfl],λb w=>by
  obtain rfl:b=⇑c:=↑w
  show d.fpOk (Zi _) (d.hok.fresh (Zi _)),q⟩
def HW{X:Cx}:OpQ X (M7 .Add) Jn:=⟨Jo⟩
def Ky{X:Cx}{K:ZA}{e:yu}{lo hi:lx yu}{a:TE}{b c:TO}{d pos:Pos}(h:X.K=K)(f:QE X e a)(g:QO X lo b)(i:QO X hi c):QE X (.Subscript e (.Slice lo hi hV d) pos) (tSl (Jl K) a b c):=by subst h;show⟨v9 Ga f.h g.h i.h⟩
def LR{X:Cx}{K:ZA}(h:X.K=K):OpQ X (pp .In) (rIn K iv):=by subst h;show⟨sK⟩
def d8{X:Cx}:OpQ X (M7 .Add) HF:=⟨yq⟩
open PySem
def LS{K:ZA}{z:lp}{H:Hp}:tyV K "str" (.str z) H=Pr:=eq_true rfl
def tyL{K:ZA}{l:ku}{H:Hp}{xs:hH V}(h:Qb K H l xs):tyV K "list" (.ref l) H:= .inl %[rfl,_|h]
def tyD{K:ZA}{l:ku}{H:Hp}{a}(h:H l∣.dK a):tyV K "dict" (.ref l) H:= .inr (.inr (.inl %[rfl|.inl %[_|h]]))
abbrev gLst(K:ZA)(n:jg)(t:TGs):TG:=λv b H Q=>asR v λa=>∃xs,Qb K H a xs/\ ~~~xs=n/\t xs b H Q
def Kz{X:Cx}{K:ZA}{c:hH yu}{t:TGs}{k}{pos:Pos}(g:X.K=K)(i:X.calm=hY)(d:c.any aV=iv)(h:QGs X c t):QG X (.Tuple c k pos) (gLst K c.length t):=by
 subst g;show⟨λij s j H v u Q I r hw=>?_⟩;let%[a,rfl,xs,l,m|hw]:=aS hw;cases r;let%[its,f,p|w]:=I.list l;rw[assign_Tuple];show Z2 (Qu ?_);unfold unpack;let n: ~~~(N1 c X.env)=its.toArray.size:=by rw[(fT d).1,<-m];simpa using f.length
 rw[n,(fT d).2];show Z2 (vu (PySem.W.kun_itemsOf (I.ok.hd i) p.isList λh' q=>h.h ij _ j H xs _ Q (I.kept λb o e=>q b o (Zs (Zu e)) e) ↑f hw))
def Ci{X:Cx}(E:X.calm=hY):cF X (.builtin "sorted") (λxs H Q=>db xs λB=>asR B λv=>∃(a:ku),H v∣lL v a/\∃(c:hH (Key×V)),H a∣.dK c/\∃(ks:ZB),c\2=ks\3/\ ~~~ks<64/\∀l (ss:ZB),H l=hV->ss.Perm ks->ss.Pairwise (λa b=>aO b a=iv)->Q (.ref l) (Qa H l (.lst (ss\3)))):=by
 show⟨λij s σ H xs us Q I r h=>?_⟩;let%[B,rfl|p]:=cc h;let%[v,rfl|w]:=aS p;let%[a,G,c,J,ks,f,few|q]:=w;let%[u,rfl|L]:=dD r;cases L;let%[z,hd,vs,j|M]:=nF I.hok J;let y:=(I.hok _ _ G).1;let%[o,N,O,T|U]:=M;let Y:s.heap.DictAt _ a vs O:=%[o,N,T|U]
 let vl:= ~~~j;let kl: ~~~c= ~~~ks:=by let:=sU MR f;rwa[Z6,Z6]at this
 let hs:MV (vs\2) ks:=i4 (f▸Ap j);show gZ (ks:=ks) (λE1 R hR=>nS kdl_values (I.ok.hd E) %[y|Y] (by rw[MN];omega) λh' tk acc k ab d=>?_) (by omega) λs1 s' l vs ss n q1 C q3 k1 g1 o1 k g o m gl=>?_
 .let e:acc.toList=vs\2:=by
   show RA (by rw[Zb,d.1,Z6]) λi h1 h2=>?_
   let%[k|ek]:=d.2 i _ (Mw h1);let%[h3|e3]:=Xm ek
   simp_all
  rw[e];show hR _ _ _ hs (.refl _) k rfl rfl
 .let A:=I.keptS k1 g1 o1;show%[.ref l,_,A.stoodS (o:= .lst _) (A.keptS k g o) m %[?_,vs,n,d7 q1|gl],ρ|q l ss (A.hok.fresh m) C (q3 few)];rw[Z6,C.length_eq,MN];omega
def cN{v:Type}{K:ZA}{l D:ku}{us:hH v}{f:v->V}{c:St}{H:Hp}{g:TG}{w:TT}{z:TE}{A:Hp->Prop}(Pv:jg->hH V->St->Hp->Prop)(B:Pv 0 [] c H)(r:∀i ys c H,Pv i ys c H->H l<*us.map f)
 (C:∀i ys c H (hi:i< ~~~us),Pv i ys c H->g (f us[i]) c H λa s=>w a s λb d=>if b=hY then z a d λy q=>CK D us.length i Pv ys a y q else CN us.length i Pv ys a d) (E:∀ys c H,Pv us.length ys c H->A H):
 ∃W:jg->jg->hH V->St->Hp->Prop,(∃m,W 0 m [] c H)/\∀i m ys h j,W i m ys h j->((Itl K l).stop i j/\A j)\/
  ((Itl K l).go i j/\∀x u,(Itl K l).yld i j x u->g x h u λa s=>w a s λb d=>if b=hY then z a d λy q=>∃zs o,q D<*zs/\ ~~~zs<md/\o<m/\W (i+1) o (ys++[y]) a (Qa q D (.lst (zs++[y])))
    else∃o,o<m/\W (i+1) o ys a d):=
 dJ (n:= ~~~us) Pv B (λi ys c H hi p=>%[_,f us[i],Qb.of (r _ _ _ _ p)|by simp[hi]]) (λys c H p=>%[_,Qb.of (r _ _ _ _ p)|by simp]) (λi ys c H hi p x u ⟨e,G⟩=>by
  subst e;let:=G _ (Qb.of (r _ _ _ _ p));rw[Zl,Z4 hi]at this;obtain rfl:f us[i]=x:=Za this;show C i ys c _ hi p) E
def bF{j:Type}{K:ZA}{a:ku}{us:hH j}{f:j->V}{b:St}{H:Hp}{g:TG}{l:TS}{D:jr}(Pv:jg->St->Hp->Prop)(q:Pv 0 b H)(r:∀i b H,Pv i b H->H a<*us.map f)
 (s:∀i u b H,us[i]?∣u->Pv i b H->g (f u) b H λc h=>l {D with nx:=Pv (i+1),ct:=Pv (i+1),bk:=D.nx} c h) (v:∀b H,Pv us.length b H->D.nx b H):
 ∃W:jg->jg->St->Hp->Prop,(∃m,W 0 m b H)/\∀i m b H,W i m b H->
  ((Itl K a).stop i H/\D.nx b H)\/((Itl K a).go i H/\∃N:St->Hp->Prop,(∀d e,N d e->∃n,n<m/\W (i+1) n d e)/\∀x e,(Itl K a).yld i H x e->g x b e λc h=>l {D with nx:=N,ct:=N,bk:=D.nx} c h):=
 eP (xs:=us.map f) Pv q (λi b H _ p=>Qb.of (r i b H p)) (λi x b H o p=>by
  rw[Zl]at o;let%[u,w|rfl]:=Mu.mp o;show s i u b H w p) (by rw[Z6];show v)
section
variable{prog:nY}{w:v0}{A:wh}{R:Ua->mu->Prop}{I S:ku}{fp wr:hH ku}{n:jg}{P:jg->kj->Prop}{St:jg->xl->Prop}{val:jg->oT}{kn:lp}{d:kj}
variable{X:Cx}{e v:yu}{te tv:TE}{p pos kpos:Pos}
end
abbrev LU(a:TE):TI:=λb H R=>a b H λx c=>asS x λz=>R (Its z) c
def KA{X:Cx}{j l:yu}{g:TE}(m:QE X l g):QI X j l (LU g):=by
 show⟨λij s n H R I h=>thP (m.h ij s n H _ I h) λv c x f d p r=>?_⟩;let%[z,rfl|q]:=eO r;let%[t|rfl]:=p;let a:∀b∈[⇑c],mQ X ij f b:=λb u=>by
  obtain rfl:b=⇑c:=↑u
  show d.fpOk (Zi _) (d.hok.fresh (Zi _))
 cases i:z.cps.all _ with
 | true=>show V6 i %[⇑c,[⇑c],_,_,f,rfl,d.kept λb o e=>Z7 _ e,pj _ z t,%[_,Zj _ rfl,rfl|rfl],a|q]
 | false=>show Wu i %[⇑c,[⇑c],_,_,f,rfl,d.kept λb o e=>Z7 _ e,sY _ z t,%[_,Zj _ rfl,rfl|rfl],a|q]
def Av{i j:oT}:decide (V.int i=V.int j)=decide (i=j):=by
 by_cases c:i=j
 .rw[c,Zf rfl,Zf rfl]
 .rw[Zh c,Zh λe=>c (V.int.inj e)]
def lP{X:Cx}:OpQ X (pp .Eq) (rI0 λi j=> .bl (decide (i=j))):=⟨λij s a H x y v u Q I b c h=>by
 let%[i,rfl|d]:=dC h;let%[j,rfl|q]:=dC d;show HB ij s a H _ _ v u Q I b c %[rfl|by rw[Av];show q]⟩
def HX{X:Cx}:OpQ X (pp .NotEq) (rI0 λi j=> .bl (!decide (i=j))):=⟨λij s a H x y v u Q I b c h=>by
 let%[i,rfl|d]:=dC h;let%[j,rfl|q]:=dC d;show zV ij s a H _ _ v u Q I b c %[rfl|by rw[Av];show q]⟩
def HY{X:Cx}:OpQ X (pp .In) Jw:=⟨sr⟩
def LV{A B:Prop}:(if hY=hY then A else B)=A:=rfl
def LW{A B:Prop}:(if iv=hY then A else B)=B:=rfl
def vE{x:V}{a:ku}{f:ku->Prop}(h:x= .ref a)(q:f a):asR x f:=by
 rw[h];show q
abbrev asY(x:V)(f:M5->Prop):Prop:=match x with
 | .ty n=>f n
 | _=>J5
def LX{n:M5}{f:M5->Prop}:asY (.ty n) f=f n:=rfl
def e8{X:Cx}{K:ZA}(h:X.K=K):cF X (.builtin "isinstance") (λxs H Q=>mO xs λx y=>asY y λn=>∃t,j9 K H x t/\∃b,Pe K t (.type n)∣b/\Q (.bl b) H):=by
 show⟨λij s a H xs us Q I r c=>?_⟩;let%[x,y,rfl|d]:=ju c
 match y,d with
 | .ty n,⟨t,e,b,f,q⟩=>show(Lp h).h ij s a H _ us Q I r %[x,n,t,b,rfl,e,f|q]
def KB{X:Cx}{K:ZA}(h:X.K=K):cF X (.builtin "isinstance") (λxs H Q=>mO xs λx y=>asY y λn=>∃t,TyX K H x t/\∃b,Pe K t (.type n)∣b/\Q (.bl b) H):=by
 show⟨λij s a H xs us Q I r c=>?_⟩;let%[x,y,rfl|d]:=ju c
 match y,d with
 | .ty n,⟨t,e,b,f,q⟩=>show(HN h).h ij s a H _ us Q I r %[x,_,t,b,rfl,e,.inl %[n,rfl|f]|q]
def zx{X:Cx}{K:ZA}(h:X.K=K):cF X (.builtin "isinstance") (λxs H Q=>mO xs λx y=>asR y λD=>∃t,TyX K H x t/\∃b,(Pe K t (.ref D)∣b\/∃a,H D&&&RT V.ref a/\T0 K t (a.map m4)∣b)/\Q (.bl b) H):=by
 show⟨λij s c H xs us Q I r d=>?_⟩;let%[x,y,rfl|g]:=ju d
 match y,g with
 | .ref D,⟨t,i,b,j,q⟩=>show(HN h).h ij s c H _ us Q I r %[x,_,t,b,rfl,i,j.elim (λe=> .inr (.inl %[D,rfl|e])) (λ⟨a,e,f⟩=> .inr (.inr %[D,a,rfl,e|f]))|q]
def dN{X:Cx}{a:yu}{c:TE}(d:∀b,S6 a X.env b=(do let v<-b;Pk a.pos;PF [v] (UO v)))(e:QE X a c):QT X a (v7 c):=by
 show⟨λij s f H Q I h=>?_⟩;show isTrue_plain (thP (e.h ij s f H _ I h) λv m x g i j l=>by
  let%[k,rfl|q]:=sf l;cases j;show Nn %[g,i|q]) (d _)
abbrev isN(x:V):ri:=match x with| .non=>hY|_=>iv
def LY:isN .non=hY:=rfl
def LZ{a:ku}:isN (.ref a)=iv:=rfl
def L3{i:oT}:isN (.int i)=iv:=rfl
def L4{z:lp}:isN (.str z)=iv:=rfl
def HZ(x:V):decide (x= .non)=isN x:=by cases x<;> simp[isN]
abbrev KC(g:ri->ri):R2:=λx y H Q=>match y with| .non=>Q (.bl (g (isN x))) H|_=>J5
def KD{g:ri->ri}{x:V}{H:Hp}{Q:VK}:KC g x .non H Q=Q (.bl (g (isN x))) H:=rfl
def qd{X:Cx}:OpQ X (pp .Is) (KC λb=>b):=⟨λij s a H x y v u Q I c d h=>by
 match y,h with
 | .non,h=>show Lo.h ij s a H x .non v u Q I c d %[rfl|by rw[HZ];show h]⟩
def qf{X:Cx}:OpQ X (pp .IsNot) (KC not):=⟨λij s a H x y v u Q I b c h=>by
 match y,h with
 | .non,h=>show JG.h ij s a H x .non v u Q I b c %[rfl|by rw[HZ];show h]⟩
abbrev rS0(g:lp->lp->V):R2:=λx y H Q=>asS x λi=>asS y λj=>Q (g i j) H
def Ia{X:Cx}:OpQ X (pp .NotEq) (rS0 λi j=> .bl (!decide (V.str i=V.str j))):=⟨λij s a H x y v u Q I b c h=>by
 let%[i,rfl|d]:=eO h;let%[j,rfl|q]:=eO d;show zV ij s a H _ _ v u Q I b c %[rfl|q]⟩
def bN{A B:Prop}(h:B):asB (.bl hY) λk=>if(!k)=hY then A else B:=h
inductive E2 {α β:Type} (p:α->β->Prop):Prop|mk (a:α) (b:β):p a b->E2 p
inductive E3 {α β γ:Type} (p:α->β->γ->Prop):Prop|mk (a:α) (b:β) (c:γ):p a b c->E3 p
inductive E4 {α β γ δ:Type} (p:α->β->γ->δ->Prop):Prop|mk (a:α) (b:β) (c:γ) (d:δ):p a b c d->E4 p
inductive E5 {α β γ δ ε:Type} (p:α->β->γ->δ->ε->Prop):Prop|mk (a:α) (b:β) (c:γ) (d:δ) (e:ε):p a b c d e->E5 p
inductive E6 {α β γ δ ε ζ:Type} (p:α->β->γ->δ->ε->ζ->Prop):Prop|mk (a:α) (b:β) (c:γ) (d:δ) (e:ε) (f:ζ):p a b c d e f->E6 p
inductive E8 {α β γ δ ε ζ η θ:Type} (p:α->β->γ->δ->ε->ζ->η->θ->Prop):Prop|mk (a:α) (b:β) (c:γ) (d:δ) (e:ε) (f:ζ) (g:η) (h:θ):p a b c d e f g h->E8 p
inductive A3 (a b c:Prop):Prop|mk:a->b->c->A3 a b c
inductive A4 (a b c d:Prop):Prop|mk:a->b->c->d->A4 a b c d
inductive A5 (a b c d e:Prop):Prop|mk:a->b->c->d->e->A5 a b c d e
inductive A6 (a b c d e f:Prop):Prop|mk:a->b->c->d->e->f->A6 a b c d e f
inductive A7 (a b c d e f g:Prop):Prop|mk:a->b->c->d->e->f->g->A7 a b c d e f g
inductive A8 (a b c d e f g h:Prop):Prop|mk:a->b->c->d->e->f->g->h->A8 a b c d e f g h
inductive A9 (a b c d e f g h i:Prop):Prop|mk:a->b->c->d->e->f->g->h->i->A9 a b c d e f g h i
inductive A11 (a b c d e f g h i j k:Prop):Prop|mk:a->b->c->d->e->f->g->h->i->j->k->A11 a b c d e f g h i j k
inductive ER (P:nY) (w:v0) (K:ZA) (mg:ZC) (base:xl) (k i:jg) (E:St->XK) (t:TA) (σ:St) (H:Hp) (Q:VK):Prop
 | mk (j:jg) (y:lp) (ps:ZB) (sp:Sp) (z0:ve P w K mg base j y ps sp) (z1:Qw j k=hY) (z2:mP i σ H λv _=>v= .ref (aG mg y)) (z3:t σ H λvs H1=>sp vs H1 Q (E σ)):ER P w K mg base k i E t σ H Q
def Aw{v:V}:∀{i:jg} {a:St},a[i]?∣hX v->Q v H->mP i a H Q
 | 0,_::_,e,q=>by cases e;show q
 | i+1,_::a,e,q=>Aw (i:=i) (a:=a) e q
def L5{X:Cx}{P:nY}{w:v0}{K:ZA}{mg:ZC}{base:xl}{E:St->XK}(J:HU (CXO X.prog X.w) X E)(L:bG k X.A)(n:(X.prog,X.w,X.K,X.mg,X.base)=(P,w,K,mg,base))(d:(e::o).any aV=iv)(M:QE X (.Name x p) (mP i))(N:QA X (e::o) t):
 QE X (.Call (.Name x p) (e::o) [] pos) (ER P w K mg base k i E t):=by
 simp only[Nb]at n;let%[rfl,rfl,rfl,rfl|rfl]:=n;rw[Zw,X7]at d;show⟨λij s c H Q I h=>?_⟩;let%[j,y,ps,sp,C,g,z|h]:=h;let%[f,fd,F,O,T|U]:=C.ex;rw[dZ O]at z;let%[v,Y|rfl]:=yh z;show N0 (thP (M.h ij s c H (λv H'=>v= .ref f/\H'=H) I (Aw Y %[rfl|rfl])) λu s0 v H0 A r0 q0=>?_);let%[rfl|rfl]:=q0;cases r0;show T3 A.ok.mod.kin T (thP (N.h pos ij s0 c _ _ A h) λus l vs m a r q=>%[a.kIn|?_]) (aB d.1) (dY d.2);let B:=r.append .nil;let G:sp (vs++[]) m Q (E c):=by rw[Zx];show q
 show Oc (codeAny_mono (F.run X.A X.stack l m _ _ _ Q _ (L.mono (Ye g)) a.env0 (U l us a.kIn (~~~B▸F.len _ _ _ _ G)) B G) λr s' b=>?_);cases r with
 | error e=>show J ij c m l e s' a b
 | ok fl=>
   cases fl with
   | ret u=>show a.after b
   | next=>show MM b
   | brk=>show MM b
   | cont=>show MM b
def rL{X:Cx}{mg:ZC}{x:lp}{p:Pos}(e:X.mg=mg)(b:Gl X x)(c:mg x∣.ref (aG mg x))(a:(x==("__debug__":lp))=iv):QE X (.Name x p) (tC (.ref (aG mg x))):=by
 subst e;show clsE b c a
def aD.at_{K:ZA}{mg:ZC}{x:lp}{st:zr}{ps:ZB}(D:aD K mg x st ps):mg x∣.ref (aG mg x):=by
 let%[f,_,_,e|_]:=D.ex;rw[dZ e,e]
abbrev L6(K:ZA)(D:ku)(len i:jg)(a:(St->XK)->TS)(ts:TS):TS:=λb c H=>∃E:St->XK,EM K D E len i (a E) ts b c H
def tryE{X:Cx}{D:ku}{m:(St->XK)->TS}(f:X.stack=X.env::X.outer)(q:X.env.frame∣X.env.locals)(r:X.N.Nodup)(hi:X.N[i]?∣n)
 (u:X.env.kindOf n∣.local) (v:X.env.scope.names.lookup n∣.local) (w:Gl X x) (y:X.mg x∣.ref D) (c:Cat X.K D) (l:(x==("__debug__":lp))=iv) (d:∀E pn,QSs (X.tryV pn E) g (m E)) (b:∀a,QSs (X.suiteX a) (j::e) ts):
 QS X (.Try g [.ExceptHandler (hX (.Name x p)) (hX n) (j::e) o] [] [] pos) (L6 X.K D X.N.length i m ts):=
 ⟨λij s z H A I ⟨E,h⟩=>At f q r hi u v w y c (λpn=>(d E pn).h) (λa=>(b a).h) l ij s z H A I h⟩
def oS{st:hH zr}:QSs X st uF:=⟨Bl⟩
def own{H:Hp}{a:ku}{o:HO}(_:ah H (Qa H a o)):Qa H a o a∣o:=aa
section
variable{X:Cx}
nonrec abbrev L7:R2:=λx y H Q=>((x= .non/\y= .non)\/∃a b xs ys,x= .ref a/\y= .ref b/\H a&&&xs/\H b&&&ys/\ ~~~xs= ~~~ys/\∀(j:jg) x y,xs[j]?∣x->ys[j]?∣y->pY H x y)/\Q (.bl iv) H
def KF(E:X.A.units+64<Of):OpR X (pp .NotEq) L7:=by
 intro ij s g H x y v u Q I d f h;obtain⟨⟨rfl,rfl⟩|⟨a,b,xs,ys,rfl,rfl,i,l,m,n⟩,q⟩:=h
 .show zV ij s g H .non .non v u Q I d f %[rfl|q]
 cases d;cases f;let%[us,d,o|_]:=I.tuple (SqT.of i);let%[vs,f,p|_]:=I.tuple (SqT.of l);let c:=RcNeAt.tuples (A:=X.A) (s:=s) (e:=λ_=>hY) o p ⋯ λj r w=>by
  let%[x,ex|z]:=eM d r;let%[y,B|C]:=eM f w;show pZ I (n j x y ex B) ⋯ z C
 let e:us.toArray.size=vs.toArray.size:=by rw[Zp,Zp,<-d.length,<-f.length,m]
 rw[e,show((p0 (min vs.toArray.size vs.toArray.size)).all (λ_=>hY)&&vs.toArray.size==vs.toArray.size)=hY by simp]at c;show c _ _ _ _ %[.bl _,H,I,rfl|q]
def ES{k:jg}(a:bG k X.A):OpQ X (pp .NotEq) L7:=⟨KF a.units⟩
nonrec abbrev L8:R2:=λx y H Q=>asR y λp=>x= .non/\∃vs,H p<*vs/\(∀v∈vs,∃r xs,v= .ref r/\H r&&&xs)/\Q (.bl iv) H
def KG(i:X.A.units+64<Of):OpR X (pp .In) L8:=by
 intro ij s l H x y v u Q I b c h;let%[p,rfl,rfl,vs,d,hw|q]:=aS h;cases b;cases c;let%[us,r,pl|_]:=I.list (Qb.of d);show in_listAt (λ_=>iv) pl.isList (λy e=>?_) %[.bl iv,H,I,by simp[aX]|q];let%[j,f|rfl]:=Qg ↑e;let%[x,ex|rr]:=eM r f;let%[a,xs,rfl|g]:=hw x (Z8 ex);let%[ts,rt,pt|_]:=I.tuple (SqT.of g);rw[show us[j]=m4 a from rr];show MB.tuple_none pt ⋯
def L9{k:jg}(a:bG k X.A):OpQ X (pp .In) L8:=⟨KG a.units⟩
def G4{X:Cx}{K:ZA}{e:yu}{lo hi:lx yu}{a:TE}{b c:TO}{d pos:Pos}(h:X.K=K)(f:QE X e a)(g:QO X lo b)(i:QO X hi c):QE X (.Subscript e (.Slice lo hi hV d) pos) (tSl (Je K) a b c):=by subst h;show⟨v9 Jf f.h g.h i.h⟩
end
end _LL
namespace _CU
open PySem _LL
inductive cX (S:lp->lp->Prop):lp->lp->Prop
 | refl (x:lp):cX S x x
 | step {x y z:lp}:cX S x y->(S y z\/S z y)->cX S x z
def cX.trans{S:lp->lp->Prop}(h:cX S x y)(g:cX S y z):cX S x z:=by
 induction g with
 | refl=>show h
 | step _ s a=>show .step a s
def cX.one{S:lp->lp->Prop}(h:S x y\/S y x):cX S x y:= .step (.refl x) h
def cX.symm{S:lp->lp->Prop}(h:cX S x y):cX S y x:=by
 induction h with
 | refl=>show .refl _
 | step _ s a=>show(cX.one s.symm).trans a
def cX.mono{S R:lp->lp->Prop}(m:∀a b,S a b->R a b)(h:cX S x y):cX R x y:=by
 induction h with
 | refl=>show .refl _
 | step _ s c=>show .step c (s.imp (m _ _) (m _ _))
def cX.within{S:lp->lp->Prop}{p:lp->Prop}(w:∀a b,S a b->p a/\p b)(h:cX S x y)(c:p x):p y:=by
 induction h with
 | refl=>show c
 | step _ s _=>
   rcases s with s|s
   .show(w _ _ s).2
   .show(w _ _ s).1
abbrev bJ(S:lp->lp->Prop)(z r:lp):Prop:=cX S z r/\∀y,cX S z y->aO y r=iv
def bJ.one{S:lp->lp->Prop}(h:bJ S z r)(g:bJ S z a):r=a:=by
 by_cases e:r=a
 .show e
 .let:=fK (g.2 _ h.1) e;rw[h.2 _ g.1]at this;cases this
structure bT (ls:ZB) (f r:lp->lp) (S:lp->lp->Prop):Prop where
 ws:∀a b,S a b->a∈ls/\b∈ls
 fin:∀z∈ls,f z∈ls
 rin:∀z∈ls,r z∈ls
 rf:∀z∈ls,r (f z)=r z
 fr:∀z∈ls,f (r z)=r z
 fix:∀z∈ls,f z=z->r z=z
 dec:∀z∈ls,f z≠z->aO (f z) z=hY
 le:∀z∈ls,aO z (r z)=iv
 cl:∀x∈ls,∀y∈ls,r x=r y↔cX S x y
def bT.rr{S:lp->lp->Prop}(F:bT a f r S)(h:z∈a):r (r z)=r z:=F.fix _ (F.rin z h) (F.fr z h)
def bT.conn{S:lp->lp->Prop}(F:bT a f r S)(h:z∈a):cX S z (r z):=(F.cl z h _ (F.rin z h)).mp (F.rr h).symm
def bT.least{S:lp->lp->Prop}(F:bT b f r S){z:lp}(h:z∈b):bJ S z (r z):=by
 show%[F.conn h|λy c=>?_];let a:=c.within F.ws h;rw[(F.cl z h y a).mpr c];show F.le y a
def bT.start(a:ZB):bT a id id (λ_ _=>J5):=by
 show%[λ_ _ h=>h.elim,λz h=>h,λz h=>h,λ_ _=>rfl,λ_ _=>rfl,λ_ _ _=>rfl,λz _ h=>(h rfl).elim,λz _=>dz z|λx b y d=>%[λe=>?_|λc=>?_]]
 .rw[show x=y from e];show .refl _
 .induction c with
  | refl=>rfl
  | step _ s _=>simp_all
set_option tactic.hygienic true in
def bT.join{S:lp->lp->Prop}(F:bT j f r S){a b M m:lp}(q:a∈j)(w:b∈j)(B:M=if aO (r a) (r b)=hY then r b else r a)(C:m=if aO (r b) (r a)=hY then r b else r a):
 bT j (λx=>if x=M then m else f x) (λx=>if r x=M then m else r x) (λx y=>S x y\/(x=a/\y=b)):=by
 let g:(M=r a/\m=r b)\/(M=r b/\m=r a):=by
  rw[B,C];cases e:aO _ _ with
  | true=>
    let:aO (r b) (r a)=iv:=by
     cases i:aO _ _ with
     | false=>rfl
     | true=>have:=dR e i;rw[dz]at this;cases this
    show this▸ .inr %[rfl|rfl]
  | false=>
    cases i:aO _ _ with
    | true=>show .inl %[rfl|rfl]
    | false=>
      let:r a=r b:=by
       by_cases h:r a=r b
       .show h
       .let:=fK e h;rw[i]at this;cases this
      show this▸ .inl %[rfl|rfl]
 let lt:m≠M->aO m M=hY:=by
  rw[B,C];cases e:aO _ _ with
  | true=>
    cases i:aO _ _ with
    | true=>intro h;show(h rfl).elim
    | false=>intro _;show e
  | false=>
    cases i:aO _ _ with
    | true=>intro _;show i
    | false=>intro h;show(h rfl).elim
 let Q:=F.rin a q;let T:=F.rin b w;let E:m∈j:=by rcases g with⟨_,h⟩|⟨_,h⟩<;> rw[h]<;> assumption
 let G:r M=M:=by rcases g with⟨h,_⟩|⟨h,_⟩<;> rw[h]<;> apply F.rr<;> assumption
 let L:r m=m:=by rcases g with⟨_,h⟩|⟨_,h⟩<;> rw[h]<;> apply F.rr<;> assumption
 let N:cX (λx y=>S x y\/(x=a/\y=b)) M m:=by
  let c1:cX (λx y=>S x y\/(x=a/\y=b)) _ _:=(((F.conn q).mono λ_ _=> .inl).symm.trans (.one (.inl (.inr %[rfl|rfl])))).trans ((F.conn w).mono λ_ _=> .inl);rcases g with⟨l,n⟩|⟨l,n⟩
  .rw[l,n];show c1
  .rw[l,n];show c1.symm
 let p:∀x∈j,cX _ x (if r x=M then m else r x):=λx A=>by
  let c:=(F.conn A).mono (R:=λx y=>S x y\/(x=a/\y=b)) λ_ _=> .inl
  by_cases e:r x=M
  .rw[lX e];rw[e]at c;show c.trans N
  .rw[kw e];show c
 let H:(if r a=M then m else r a)=(if r b=M then m else r b):=by
  rcases g with⟨l,n⟩|⟨l,n⟩
  .rw[lX l.symm];by_cases e:r b=M
   .rw[lX e]
   .rw[kw e];show n
  .rw[lX l.symm];by_cases e:r a=M
   .rw[lX e]
   .rw[kw e];show n.symm
 show%[λx y h=>?_,λz d=>?_,λz d=>?_,λz d=>?_,λz d=>?_,λz d h=>?_,λz d h=>?_,λz d=>?_|λx A y I=>%[λe=>?_|λc=>?_]]
 .rcases h with h|⟨rfl,rfl⟩
  .show F.ws x y h
  .show%[q|w]
 .split
  .show E
  .show F.fin z d
 .split
  .show E
  .show F.rin z d
 .by_cases e:z=M
  .rw[lX e,e,G,lX rfl,L]
   split<;> rfl
  .rw[kw e,F.rf z d]
 .by_cases e:r z=M
  .rw[lX e]
   split
   .rfl
   .show(by rcases g with⟨_,h⟩|⟨_,h⟩<;> rw[h]<;> apply F.fr<;> assumption)
  .rw[kw e,kw e];show F.fr z d
 .by_cases e:z=M
  .rw[lX e]at h;rw[e,G,lX rfl,<-e];show h
  .rw[kw e]at h;rw[F.fix z d h,kw e]
 .by_cases e:z=M
  .rw[lX e]at h ⊢;rw[e]at h ⊢;show lt h
  .rw[kw e]at h ⊢;show F.dec z d h
 .by_cases e:r z=M
  .rw[lX e];cases i:aO z m with
   | false=>rfl
   | true=>
     let o:=F.le z d;rw[e]at o;by_cases em:m=M
     .rw[em]at i;rw[o]at i;cases i
     .let:=dR i (lt em);rw[o]at this;cases this
  .rw[kw e];show F.le z d
 .let c:=(p x A)
  rw[e]at c;show c.trans (p y I).symm
 .let ws:∀x y,(S x y\/(x=a/\y=b))->x∈j/\y∈j:=λx y h=>by
   rcases h with h|⟨rfl,rfl⟩
   .show F.ws x y h
   .show%[q|w]
  clear I
  induction c with
  | refl=>rfl
  | step c s O=>
    rename_i u v
    let J:=c.within ws A;rw[O];rcases s with(s|⟨rfl,rfl⟩)|(s|⟨rfl,rfl⟩)
    .rw[(F.cl u J v (F.ws u v s).2).mpr (.one (.inl s))]
    .show H
    .rw[(F.cl u J v (F.ws v u s).1).mpr (.one (.inr s))]
    .show H.symm
def bT.short{S:lp->lp->Prop}(F:bT d f r S)(b:z∈d):bT d (λx=>if x=z then f (f z)else f x) r S:=by
 let g:f z≠z->aO (f _) z=hY:=λh=>by
  let i:=F.dec z b h;by_cases e:f (f z)=f z
  .show e▸i
  .show dR (F.dec _ (F.fin z b) e) i
 show%[F.ws,λx a=>?_,F.rin,λx a=>?_,λx a=>?_,λx a h=>?_,λx a h=>?_,F.le|F.cl]
 .split
  .show F.fin _ (F.fin z b)
  .show F.fin x a
 .by_cases e:x=z
  .rw[lX e,F.rf _ (F.fin z b),F.rf z b,e]
  .rw[kw e];show F.rf x a
 .by_cases e:r x=z
  .rw[lX e];let:=F.fr x a
   simp_all
  .rw[kw e];show F.fr x a
 .by_cases e:x=z
  .rw[lX e]at h;rw[e]at h ⊢;by_cases c:f z=z
   .show F.fix z b c
   .let:=g c;rw[h,dz]at this;cases this
  .rw[kw e]at h;show F.fix x a h
 .by_cases e:x=z
  .rw[lX e]at h ⊢;rw[e]at h ⊢;show g λc=>h ?_
   rw[c,c]
  .rw[kw e]at h ⊢;show F.dec x a h
def bT.done{S:lp->lp->Prop}(F:bT b f r S)(a:z∈b)(h:∀w∈b,aO w z=hY->f w=r w):f (f z)=r z:=by
 by_cases e:f z=z
 .rw[e,e];show(F.fix z a e).symm
 .rw[h _ (F.fin z a) (F.dec z a e),F.rf z a]
abbrev Ed(ks:hH ZB)(a b:lp):Prop:=∃z,[a,b,z]∈ks
inductive Rch (ks:hH ZB):lp->lp->Prop
 | one {a b:lp}:Ed ks a b->Rch ks a b
 | more {a b c:lp}:Rch ks a b->Ed ks b c->Rch ks a c
def Rch.trans(h:Rch ks a b)(g:Rch ks b c):Rch ks a c:=by
 induction g with
 | one e=>show .more h e
 | more _ e d=>show .more d e
def Rch.closed{R:lp->Prop}(a:∀y,Ed ks s y->R y)(h:∀x y,R x->Ed ks x y->R y)(r:Rch ks s y):R y:=by
 induction r with
 | one e=>show a _ e
 | more _ e b=>show h _ _ b e
def tV{ks:hH _}{laid:ZB}(h:∀i x,laid[i]?∣x->∀y,Ed ks x y->y∈laid.take i){i:jg}{x y:lp}(hi:laid[i]?∣x)(r:Rch ks x y):∃j,j<i/\laid[j]?∣y:=by
 let at_:∀i y,y∈laid.take i->∃j,j<i/\laid[j]?∣y:=λi y c=>by
  let%[j|b]:=Xg c;let d:=(Xm b).1;rw[Yl]at d;show%[j,⋯|by rwa[Yc ⋯]at b]
 show r.closed (λy e=>at_ i y (h i x hi y e)) λa y ⟨j,l,b⟩ e=>?_
 let%[f,m|g]:=at_ j y (h j a b y e);show%[f,⋯|g]
def G5{laid:ZB}(h:∀(i:jg) x,laid[i]?∣x->∀y,Ed ks x y->y∈laid.take i){x:lp}(a:x∈laid): ¬ Rch ks x x:=by
 intro r;let%[i|hi]:=Xg a;let:∀n i:jg,i<=n->laid[i]? ≠hX x:=λn=>by
  induction n with
  | zero=>
    intro i hi e;let%[j,b|_]:=tV h e r
    lia
  | succ n c=>
    intro i hi e;let%[j,b|d]:=tV h e r;show c j ⋯ d
 show this i i (Zi _) hi
abbrev Wal:hH ZB->lp->lp->Prop
 |[],a,b=>a=b
 | k::r,a,b=>∃c z,k=[a,c,z]/\Wal r c b
def Wal.app:∀{us vs:hH ZB} {a:lp},Wal us a b->Wal vs b c->Wal (us++vs) a c
 |[],_,_,h,g=>h▸g
 | _::_,_,_,⟨d,z,e,h⟩,g=>%[d,z,e|h.app g]
abbrev Dst(ks:hH ZB)(s:lp)(n:jg)(x:lp):Prop:=∃us:hH _,~~~us=n/\(∀k∈us,k∈ks)/\Wal us s x
def Dst.nil:Dst ks s 0 s:=%[[],rfl,λ_ h=>(nomatch h)|rfl]
def Dst.app(h:Dst ks s n x)(g:Dst ks x m y):Dst ks s (n+m) y:=by
 let%[us,f,a|b]:=h;let%[vs,i,c|d]:=g;show%[us++vs,!2,λk e=>(Xn e).elim (a k) (c k)|b.app d]
def Ed.dst(e:Ed ks s x):Dst ks s 1 x:=by
 let%[z|e]:=e;show%[[[s,x,z]],ρ,λk a=>(Xo a)▸e,x,z,ρ|ρ]
def Dst.last:∀{n:jg} {s:lp},Dst ks s (n+1) x->∃y,Dst ks s n y/\Ed ks y x
 | n,s,⟨[],a,_,_⟩=>(nomatch a)
 | 0,s,⟨[k],_,b,c,z,e,h⟩=>%[s,.nil,z|by rw[<-h,<-e];show b k Zm]
 | 0,s,⟨_::_::_,a,_,_⟩=>n0 a ∅
 | n+1,s,⟨k::r,a,b,c,z,e,h⟩=>by
   let%[y,d|f]:=Dst.last %[r,↑a,λk g=>b k (Zk _ g)|h];let:Ed ks s c:=%[z|e▸b k Zm]
   show%[y,Ue 1 n▸this.dst.app d|f]
def Rch.dst(h:Rch ks a b):∃n,Dst ks a (n+1) b:=by
 induction h with
 | one e=>show%[0|e.dst]
 | more _ e c=>
   let%[n|h]:=c;show%[n+1|h.app e.dst]
def Dst.rch:∀{n:jg} {b:lp},Dst ks a (n+1) b->Rch ks a b
 | 0,b,h=>by
   let%[y,%[us,d,_|c]|e]:=h.last;rw[Ds.mp d]at c;rw[c];show .one e
 | n+1,b,h=>by
   let%[y,h|e]:=h.last;show .more h.rch e
structure Lev (ks:hH ZB) (st:lp) (rs:hH (lp×ku×ZB)) (d:lp->jg) (k:jg) (F:ZB):Prop where
 nd:(rs\1).Nodup
 by_:∀r∈rs,r.2.2∈ks/\∃p z,r.2.2=[p,r.1,z]/\((p=st/\d r.1=1)\/(p≠st/\p∈rs\1/\d r.1=d p+1))
 le:∀x∈rs\1,d x<=k
 edge:∀x,x∈F↔(k=0/\x=st)\/(1<=k/\x∈rs\1/\d x=k)
 all:∀n x,1<=n->n<=k->Dst ks st n x->x∈rs\1/\d x<=n
section
variable{ks:hH ZB}{st:lp}{rs:hH (lp×ku×ZB)}{d:lp->jg}{k:jg}{F:ZB}
def Lev.nil:Lev ks st [] (λ_=>0) 0 [st]:=
 %[X3,λ_ h=>(nomatch h),λ_ h=>(nomatch h),λx=>by simp|λn x a b=>by lia]
def Lev.dst(h:Lev ks st rs d k F)(a:x∈rs\1):1<=d x/\Dst ks st (d x) x:=by
 let:∀m x,x∈rs\1->d x<=m->1<=d x/\Dst ks st (d x) x:=λm=>by
  induction m with
  | zero=>
    intro x a l;let%[r,b|rfl]:=Xp a;obtain⟨_,p,z,_,⟨_,e⟩|⟨_,_,e⟩⟩:=h.by_ r b<;> lia
  | succ m g=>
    intro x a l;let%[r,b|rfl]:=Xp a;let%[c,p,z,i|q]:=h.by_ r b;rw[i]at c;let f:Ed ks p r.1:=%[z|c]
    rcases q with⟨rfl,e⟩|⟨_,j,e⟩
    .rw[e];show%[Zi _|f.dst]
    .show e▸%[⋯|(g p j ⋯).2.app f.dst]
 show this _ x a (Zi _)
def Lev.min(h:Lev ks st rs d k F)(a:x∈rs\1)(g:Dst ks st (n+1) x):d x<=n+1:=by
 by_cases c:n+1<=k
 .show(h.all _ x ⋯ c g).2
 .let:=h.le x a
  lia
def Lev.stop(h:Lev ks st rs d k []):∀{n:jg},Dst ks st (n+1) x->x∈rs\1:=by
 let k1:=RF λc=>(nomatch (h.edge st).mpr (.inl %[c|rfl]))
 let:∀n x,Dst ks st (n+1) x->x∈rs.map _:=λn=>by
  induction n with
  | zero=>show λx g=>(h.all 1 x (Zi _) k1 g).1
  | succ n a=>
    intro x g;let%[y,b|e]:=g.last;let q:=a y b;let l:=h.le y q;let ne:d y≠k:=λc=>(nomatch (h.edge y).mpr (.inr %[k1,q|c]))
    show(h.all _ x ⋯ ⋯ ((h.dst q).2.app e.dst)).1
 show λ{n}=>this n x
def Lev.step(h:Lev ks st rs d k F)(nd:((rs++new)\1).Nodup)(E:∀r∈new,r.2.2∈ks/\∃p z,p∈F/\r.2.2=[p,r.1,z])
 (u:∀x∈F,∀y,Ed ks x y->y∈(rs++new)\1):Lev ks st (rs++new) (λx=>if x∈new\1 then k+1 else d x) (k+1) (new\1):=by
 let l:=nd;rw[Zd,X1]at l;let f:∀{x},x∈rs\1->x∉new\1:=λ{x} a b=>l.2.2 x a x b rfl
 let mem:∀{x},x∈(rs++new)\1↔x∈rs\1\/x∈new\1:=λ{x}=>by rw[Zd,Yt]
 let v:∀x∈(rs++new)\1,(if x∈new\1 then k+1 else d x)<=k+1:=λx j=>by
  by_cases c:x∈new\1
  .rw[lX c];show Zi _
  .rw[kw c];let:=h.le x ((mem.mp j).resolve_right c);lia
 show%[nd,λr G=>?_,v,λx=>?_|λn x n1 M g=>?_]
 .rcases Xn G with q|q
  .let%[s,p,z,e|g]:=h.by_ r q;show%[s,p,z,e|?_];rw[kw (f (Xq %[r,q|rfl]))];show g.imp_right λ⟨a,b,c⟩=>%[a,mem.mpr (.inl b)|?_]
   rw[kw (f b)];show c
  .let%[s,p,z,H|e]:=E r q;let w:r.1∈new\1:=Xq %[r,q|rfl];show%[s,p,z,e|?_];rw[lX w];rcases(h.edge p).mp H with⟨rfl,rfl⟩|⟨k1,b,c⟩
   .show .inl %[rfl|rfl]
   .show .inr %[λps=>?_,mem.mpr (.inl b)|by rw[kw (f b),c]];let:Ed ks st r.1:=%[z|by rw[<-ps,<-e];show s]
    show f (h.all 1 _ (Zi _) k1 this.dst).1 w
 .show%[λj=> .inr %[⋯,mem.mpr (.inr j)|lX j]|λj=>?_];rcases j with⟨a,_⟩|⟨_,a,b⟩
  .lia
  .show(mem.mp a).resolve_left λc=>?_
   rw[kw (f c)]at b;let:=h.le x c
   lia
 .let i:∀{m},1<=m->m<=k->Dst ks st m x->x∈(rs++new).map _/\(if x∈new.map _ then k+1 else d x)<=m:=λa b g=>by
   let%[o|A]:=h.all _ x a b g;show%[mem.mpr (.inl o)|by rw[kw (f o)];show A]
  by_cases c:n<=k
  .show i n1 c g
  .obtain rfl:n=k+1:=by lia
   let fin:x∈(rs++new).map _->x∈(rs++new).map _/\(if x∈new.map _ then k+1 else d x)<=k+1:=λa=>%[a|v x a]
   let%[y,B|e]:=g.last;by_cases I:k=0
   .subst I;let%[us,J,_|C]:=B;rw[Ds.mp J]at C;show fin (u y ((h.edge y).mpr (.inl %[rfl|(C).symm])) x e)
   .let%[o|A]:=h.all k y ⋯ (Zi _) B;by_cases L:d y=k
    .show fin (u y ((h.edge y).mpr (.inr %[⋯,o|L])) x e)
    .show fin (i ⋯ ⋯ ((h.dst o).2.app e.dst)).1
end
structure Sho (ks:hH _) (a b:lp) (us:hH _):Prop where
 sub:∀k∈us,k∈ks
 wal:Wal us a b
 pos:0< ~~~us
 min:∀n,Dst ks a (n+1) b-> ~~~us<=n+1
def Sho.dst(h:Sho ks a b us):∃n,~~~us=n+1/\Dst ks a (n+1) b:=
 %[~~~us-1,by let:=h.pos;lia,us,by let:=h.pos;lia,h.sub|h.wal]
def Sho.rch(h:Sho ks a b us):Rch ks a b:=by
 let%[n,_|d]:=h.dst;show d.rch
def KH{U:ZB}(h:∀x∈U,∃y∈U,Ed ks x y)(nr:∀x,¬ Rch ks x x){x:lp}(g:x∈U):J5:=by
 let:∀n,∃a p,~~~p=n/\(a::p).Nodup/\(∀y∈a::p,y∈U)/\∀y∈p,Rch ks y a:=λn=>by
  induction n with
  | zero=>show%[x,[],ρ,by simp,↑g|λ_ h=>(nomatch h)]
  | succ n i=>
    let%[a,p,l,nd,d|r]:=i;let%[b,j|e]:=h a (d a Zm);let re:∀y∈a::p,Rch ks y b:=λy f=>by
     rcases Yw.mp f with rfl|q
     .show .one e
     .show .more (r y q) e
    show%[b,a::p,!2,NE.mpr %[λc=>nr b (re b c)|nd],λy f=>?_|re];rcases Yw.mp f with rfl|q
    .show j
    .show d y q
 let%[a,p,l,nd,d|_]:=this U.length;let:=_ST.nodup_sub nd d;rw[Zr]at this
 lia
structure Mat {α:Type} (E:α->α->Prop) (L:hH α) (m:α->α):Prop where
 nd:L.Nodup
 inj:∀x∈L,∀y∈L,m x=m y->x=y
 ed:∀x∈L,E (m x) x
structure rN {α:Type} (E:α->α->Prop) (L:hH α) (m:α->α) (S T:α->Prop):Prop where
 nb:∀a,S a->∀p,E a p->T p
 mt:∀p,T p->p∈L/\S (m p)
structure Ask {α:Type} (E:α->α->Prop) (L:hH α) (m:α->α) (A0 Q:hH α) (g:α->α):Prop where
 nd:Q.Nodup
 by_:∀i x,Q[i]?∣x->E (g x) x/\(g x∈A0\/∃y∈Q.take i,y∈L/\m y=g x)
section
variable{α:Type}[MP α]{E:α->α->Prop}{L A0 Q:hH α}{m g:α->α}{S T S' T':α->Prop}
def rN.or(h:rN E L m S T)(k:rN E L m S' T'):rN E L m (λa=>S a\/S' a) (λp=>T p\/T' p):=
 %[λa s p e=>s.imp (λs=>h.nb a s p e) λs=>k.nb a s p e|λp t=>t.elim (λt=>%[(h.mt p t).1|.inl (h.mt p t).2]) λt=>%[(k.mt p t).1|.inr (k.mt p t).2]]
def Ask.shut(a:Ask E L m A0 Q g)(h:rN E L m S T)(d:∀x∈A0,S x):∀x∈Q,T x:=by
 let:∀(n i:jg) x,i<n->Q[i]?∣x->T x:=λn=>by
  induction n with
  | zero=>show λi x l=>n0 l (X4 _)
  | succ n f=>
    intro i x l e;let%[o|b]:=a.by_ i x e;show h.nb _ ?_ x o;rcases b with b|⟨y,p,s,b⟩
    .show d _ b
    .let%[j|c]:=Xg p;let q:=(Xm c).1;rw[Yl]at q;rw[Yc ⋯]at c;show b▸(h.mt y (f j y ⋯ c)).2
 intro x r;let%[i|hi]:=Xg r;show this _ i x (Yo _) hi
def Ask.closed(c:∀x∈Q,x∈L)(d:∀b,(b∈A0\/∃y∈Q,y∈L/\m y=b)->∀p,E b p->p∈Q):rN E L m (λb=>b∈A0\/∃y∈Q,y∈L/\m y=b) (λp=>p∈Q):=
 %[d|λp a=>%[c p a|.inr %[p,a,c p a|rfl]]]
structure vF {α:Type} (E:α->α->Prop) (L Q:hH α) (m g:α->α) (T:α->Prop) (f:α) (C:hH α) (i:jg) (p:α):Prop where
 at_:Q[i]?∣p
 own:p=f\/p∈L
 far:∀x∈C,∃j,i<j/\Q[j]?∣x
 nx:∀x∈C,∃y,y∈L/\m y=g x/\(y∈C\/y=p)
 inj:∀x∈C,∀y∈C,g x=g y->x=y
 pv:∀y,y∈C\/y=p->y=f\/(y∈L/\∃x∈C,g x=m y)
 nt:∀y,y∈C\/y=p-> ¬ T y
 hf:f∈C\/p=f
def ET{Q:hH α}(nd:Q.Nodup){i j:jg}{x:α}(h:Q[i]?∣x)(k:Q[j]?∣x):i=j:=(hH.getElem?_inj (Xm h).1 nd).mp (h.trans k.symm)
def vF.start(h:rN E L m S T)(b:f∉L)(e:Q[i]?∣f):vF E L Q m g T f [] i f:=
 %[e,.inl rfl,λ_ h=>(nomatch h),λ_ h=>(nomatch h),λ_ h=>(nomatch h),λy a=>a.elim (λh=>(nomatch h)) .inl,λy a t=>a.elim (λh=>(nomatch h)) λe=>b (e▸(h.mt y t).1)|.inr rfl]
def vF.inj'(M:Mat E L m)(a:Ask E L m A0 Q g){f:α}{C:hH α}{i:jg}{p:α}(b:vF E L Q m g T f C i p):∀x∈C++[p],∀y∈C++[p],(∀z∈L,m z=g p->z∈Q.take i)->g x=g y->x=y:=by
 let o:∀x∈C,(∀z∈L,m z=g p->z∈Q.take i)->g x≠g p:=λx c h e=>by
  let%[y,q,r|n]:=b.nx x c;let%[j|l]:=Xg (h y q (r.trans e));let s:=(Xm l).1;rw[Yl]at s;rw[Yc ⋯]at l;rcases n with n|rfl
  .let%[k,v|u]:=b.far y n;let:=ET a.nd l u
   lia
  .let:=ET a.nd l b.at_
   lia
 intro x c y d h e;rcases Xn c with c|c<;> rcases Xn d with d|d
 .show b.inj x c y d e
 .rw[Xo d]at e;show(o x c h e).elim
 .rw[Xo c]at e;show(o y d h e.symm).elim
 .rw[Xo c,Xo d]
def vF.step(M:Mat E L m)(a:Ask E L m [w] Q g)(A:∀x∈L,m x≠w)(h:rN E L m S T)(b:vF E L Q m g T f C i p)(n:y∈L)(o:m y=g p):∃j,j<i/\vF E L Q m g T f (C++[p]) j y:=by
 let%[B|s]:=a.by_ i p b.at_;let v:y∈Q.take i:=by
  rcases s with s|⟨z,c,q,r⟩
  .show(A y n (o.trans (Xo s))).elim
  .rw[M.inj y n z q (o.trans r.symm)];show c
 let%[j|u]:=Xg v;let G:=(Xm u).1;rw[Yl]at G;rw[Yc ⋯]at u;let l:∀{x},x∈C++[p]↔x∈C\/x=p:=λ{x}=>by rw[Yt,Yy]
 show%[j,⋯,u,.inr n,λx d=>?_,λx d=>?_,λx d z c=>b.inj' M a x d z c λz q r=>(M.inj z q y n (r.trans o.symm))▸v,λz c=>?_,λz c t=>?_|.inl (l.mpr (b.hf.imp_right Eq.symm))]
 .rcases l.mp d with d|rfl
  .let%[k,J|H]:=b.far x d;show%[k,⋯|H]
  .show%[i,⋯|b.at_]
 .rcases l.mp d with d|rfl
  .let%[z,q,r|I]:=b.nx x d;show%[z,q,r|.inl (l.mpr I)]
  .show%[y,n,o|.inr rfl]
 .rcases c with c|rfl
  .show(b.pv z (l.mp c)).imp_right λ⟨a,x,d,e⟩=>%[a,x,l.mpr (.inl d)|e]
  .show(.inr %[n,p,l.mpr (.inr rfl)|o.symm])
 .rcases c with c|rfl
  .show b.nt z (l.mp c) t
  .show b.nt p (.inr rfl) (h.nb _ (o▸(h.mt z t).2) p B)
def vF.fin(M:Mat E L m)(a:Ask E L m [B] Q g)(h:rN E L m S T)(b:vF E L Q m g T f C i p)(J:f∉L)(N:∀y∈L,m y≠g p)(nd:v.Nodup)(G:∀x,x∈v↔x∈L\/x=f):
 Mat E v (λx=>if x∈C++[p]then g x else m x)/\rN E v (λx=>if x∈C++[p]then g x else m x) S T/\g p=B/\(∀x∈v,(if x∈C++[p]then g x else m x)=B\/∃y∈L,m y=if x∈C++[p]then g x else m x)/\∀y,y=B\/(∃x∈L,m x=y)->∃x∈v,(if x∈C++[p]then g x else m x)=y:=by
 let r:∀{x},x∈C++[p]↔x∈C\/x=p:=λ{x}=>by rw[Yt,Yy]
 let O:g p=B:=by
  obtain⟨_,e|⟨y,_,H,ym⟩⟩:=a.by_ i p b.at_
  .show Xo e
  .show(N y H ym).elim
 let U:∀x∈C++[p],∃j,Q[j]?∣x:=λx l=>by
  rcases r.mp l with l|rfl
  .let%[j,_|e]:=b.far x l;show%[j|e]
  .show%[i|b.at_]
 let o:∀x∈v,x∉C++[p]->x∈L:=λx l n=>((G x).mp l).resolve_right λe=>n (e▸r.mpr (b.hf.imp_right Eq.symm))
 let s:∀x∈C++[p],∀y∈L,y∉C++[p]->g x≠m y:=λx l y H n e=>by
  rcases r.mp l with l|rfl
  .let%[z,w,A|zc]:=b.nx x l;show n ((M.inj y H z w (e.symm.trans A.symm))▸r.mpr zc)
  .show N y H e.symm
 show%[%[nd,λx l y I e=>?_|λx l=>?_],%[h.nb|λq t=>%[(G q).mpr (.inl (h.mt q t).1)|?_]],O,λx l=>?_|λy I=>?_]
 .by_cases d:x∈C++[p]<;> by_cases u:y∈C++[p]
  .rw[lX d,lX u]at e;show b.inj' M a x d y u (λz w A=>(N z w A).elim) e
  .rw[lX d,kw u]at e;show(s x d y (o y I u) u e).elim
  .rw[kw d,lX u]at e;show(s y u x (o x l d) d e.symm).elim
  .rw[kw d,kw u]at e;show M.inj x (o x l d) y (o y I u) e
 .by_cases d:x∈C++[p]
  .rw[lX d];let%[j|e]:=U x d;show(a.by_ j x e).1
  .rw[kw d];show M.ed x (o x l d)
 .rw[kw (λc=>b.nt q (r.mp c) t)];show(h.mt q t).2
 .by_cases d:x∈C++[p]
  .rw[lX d];rcases r.mp d with d|rfl
   .let%[z,w,A|_]:=b.nx x d;show .inr %[z,w|A]
   .show .inl O
  .rw[kw d];show .inr %[x,o x l d|rfl]
 .let mem:=λx l=>(G x).mpr ((b.pv x (r.mp l)).elim .inr λh=> .inl h.1)
  rcases I with rfl|⟨x,Y,rfl⟩
  .show%[p,mem p (r.mpr (.inr rfl))|(lX (r.mpr (.inr rfl)))▸O]
  .by_cases d:x∈C++[p]
   .rcases b.pv x (r.mp d)with e|⟨_,z,hz,e⟩
    .show(J (e▸Y)).elim
    .show%[z,mem z (r.mpr (.inl hz))|(lX (r.mpr (.inl hz)))▸e]
   .show%[x,(G x).mpr (.inl Y)|by rw[kw d]]
end
abbrev Let(rows:ZB)(c:jg):Prop:=c≠46/\∃r∈rows,c∈r.cps.toList
abbrev zy(rows:ZB)(a b:jg):Prop:=a≠46/\a≠b/\∃(i j:jg) (r c:lp),rows[i]?∣r/\rows[i+1]?∣c/\r.cps[j]?∣a/\c.cps[j]?∣b
def fM:c∈cU rows↔Let rows c:=by
 unfold cU Let;rw[ow,wz,Sa,Mx]
 constructor
 .rintro⟨⟨l,e,b⟩,a⟩;let%[r,d|rfl]:=Xp e;show%[a,r,d|b]
 .rintro⟨a,r,d,b⟩;show%[%[_,Xq %[r,d|ρ]|b]|a]
abbrev pY(rows d:ZB):Prop:=(∀c,Let rows c↔Let d c)/\∀a b,zy rows a b↔zy d a b
abbrev St(a:ri)(c d:oT):Prop:=c<=d+(if a=hY then 1 else 0)/\d<=c+(if a=hY then 1 else 2)
abbrev sg(a s:oT):jg:=if a<0 then 46 else 97+((a*5+s)%26).toNat
abbrev Ma(a:hH ZL)(b:oT)(k:jg):lp:=⟨(a.map λc=>sg (c.getD k 0) b).toArray⟩
abbrev drawn(a:hH ZL)(hi:jg)(b:oT):ZB:=(p0 hi).map (Ma a b)
abbrev there(b:hH ZL):ZL:=((p0 8).filter λa:jg=>b.any λc=>decide ((a:oT)∈c)).map λa:jg=>a
abbrev rO(rows:ZB):Prop:=∃m:hH _,~~~m<=26/\∀a b,zy rows a b->[sgn a,sgn b]∈m
end _CU
namespace _KK
open PySem _LL _CU
nonrec abbrev ZqS:=Xs
nonrec def zqn:Lean.Name->on ZqS->ZqS:= .node .none
nonrec def zqa:M5->ZqS:= .atom .none
nonrec def zqi(s:M5):ZqS:=Lean.mkIdent s.toName
nonrec def zqh:ZqS:=zqn `Lean.Parser.Term.hole #[zqa "_"]
nonrec def zqf(k:jg)(b:ZqS):ZqS:=zqn `Lean.Parser.Term.fun #[zqa "fun",zqn `Lean.Parser.Term.basicFun #[zqn `null (Vq k zqh),zqn `null #[],zqa "=>",b]]
nonrec def zqd(c:Char):ZqS:=Xs.mkNumLit (toString (c.toNat-48))
nonrec def zqe(a:on ZqS)(x:M5):ZqS:=if x="r"then zqi "rfl"else if x="n"then a[0]! else if x="h"then a.back! else if x="_"then zqh else if x="f"then zqf 2 (zqi "rfl") else if x="g"then zqf 1 (zqi "rfl") else if ~~~x>1 then zqi x else zqn `Lean.Parser.Term.namedArgument #[zqa "(",zqi x,zqa ":=",zqi x,zqa ")"]
nonrec def zqx(r:on ZqS):ZqS:=if r[0]!.isAtom then(if r[0]!.getAtomVal=""then zqf 3 r[1]! else r[1]!)else if r.size<2 then r[0]! else zqn `Lean.Parser.Term.app #[r[0]!,zqn `null (r.extract 1 r.size)]
nonrec def zqp(s t:M5):jg:=(s.splitOn t).head!.length
nonrec def zqs(t:M5)(a:on ZqS)(l:hH Char)(k:hH (hH M5×on ZqS)):hH Char×hH (hH M5×on ZqS):=
 let f:=k.head!
 let k:=k.tail
 let x:=f.1.headD ""
 let w:=f.1.tail
 let c:=l.headD ' '
 if f.1.isEmpty then(l,(k.head!.1,k.head!.2.push (zqx f.2))::k.tail)
 else if x="#"then(l.tail,(w,f.2.push (zqd c))::k)
 else if x="L"then(l,(["*"],#[zqa ""])::(w,f.2)::k)
 else if x="*"then
  if c.isDigit then(l.tail,(["r"],#[zqi "af",zqd c])::(w,f.2)::k)
  else if c='?'then(l.drop 2,(w,f.2.push a[l[1]!.toNat-48]!)::k)
  else
   let p:=zqp "~]`" c.toString
   let q:=if p<3 then 1 else 0
   let s:=((t.splitOn "|")[(74+84*p)*q+zqp "ABCDEFGHIJKLMNOPQRSTUVWXYZabcdefghijklmnopqrstuvwxyz!$%&'()*+,./:;<=>^_|}[0123456789" l[q]!.toString]!).splitOn " "
   (l.drop (q+1),(s.tail,#[zqi s.head!])::(w,f.2)::k)
 else(l,(w,f.2.push (zqe a x))::k)
nonrec def zqt(t:M5)(a:on ZqS)(l:hH Char):jg->ZqS
 |n=>(n.fold (λ_ _ s=>if ~~~s.2=1&&s.2.head!.1.isEmpty then s else zqs t a s.1 s.2) (l,[(["*"],#[zqa "1"])])).2.head!.2[1]!
nonrec def zqm(s:Lean.StrLit)(a:on Lean.Term):Lean.MacroM Lean.Term:=
 return⟨zqt "paE r * *|am|ai * *|av|ap *|aF # n r *|aJ * h r *|aK *|opE * * *|aI # n r|QSs.h *|aZ * r * *|gsE r * *|bh K r f * *|ifS * * *|aN|bP K r f * *|bO *|bQ PV r r * * *|cr # r|cG K r *|cz|bw h f * *|bB r *|bZ|dN g *|aI # * r|dU *|cb|bx|cbO * T.a8 PySem.boot_len r *|cW K r|eF K r r r *|wT *|aH.of *|dh|af # r|gN * r * *|eBl|ba|iq *|orW * *|dP * r r * L L L|gM|bmO K Ou PySem.F.slot_list_append PySem.F.type_list_append * r * *|Z1|Z0|jz *|cbO * T.ac XF r *|e8 K r|e7 h r * * *|gX *|gW|d8|eW|oq * *|om *|km r T.aj r *|rD|ctO * T.a5 QL r *|lA|cbO * T.a7 boot_sorted r *|iU|uV * *|lP|ir K r|lO * T.o_Ground h r r *|wk|uW # n r * * r *|nK *|kH|nM K r r T.ae r *|pB *|noO|pX h|gvE T.am r r|qd|BO f * *|BH|cbO * T.a0 boot_min r *|gvE T.an r r|bmO K Q6 XU type_dict_get * r * *|tQ|dG T|gvE T.au r r|ctO * T.a6 boot_set r *|wj|pjE * *|c7 T|pC # n r * *|ee T|pV PV * *|cQ T|lN h r * *|qf|GA|bmO K XQ slot_str_join type_str_join * r * *|uX K r|bmO K Ou slot_list_extend type_list_extend * r * *|lB|GR h r * *|GQ K r r * *|lC # n r * * r * r r * L L L|dA T|dB T|cbE * r T.ac XF r r r *|G4 K r * * *|ctO * T.ah boot_int r *|Dy|Dw r T.aj r r *|i8 T|yM * * r * * *|cbO * T.aa boot_all r *|Dx K r r|KA *|orV * *|DG K w r r r|Ky K r * * *|JR *|i9 T|Kf K r r *|JD *|eX T|KM K r Ou PySem.F.slot_list_append PySem.F.type_list_append * r r r r * *|bmO K Q6 Vv PySem.F.type_dict_setdefault * r * *|i5|eY T|JE r r r * *|Kz K r r r *|zx K r|DW T.g_Torn_ring r *|ES h|Kw * *|HY|gvE T.ap r r|HX|HK r T.af r r *|pU w r r|bmO K XQ PySem.F.slot_str_split PySem.F.type_str_split * r * *|Aa|mw T|nh T|HQ K r r T.af r r *|tP P w r r r|Er K P w r r r r h|DV *|DU|bmO K Q6 WX PySem.F.type_dict_update * r * *|xc|Ia|gG T|Ex r|JC K r Q6 WW PySem.F.type_dict_values * r r *|wS|uA T|jQ T|jP T|AO T|jq T|HH r|z9 K r|HV *|jR T|mK T|mL T|jS T|HR * T.o_Ground h r *|xy T|ro T|HS h|vL T|JF|pC # * r * *|gvE T.ar r r|gvE T.aq r r|EY T|qA T|kQ T|gvE T.ao r r|LR K r|gvE T.ax r r|gvE T.ay r r|LH K r T.t_LAYER_WORDS r r|LH K r T.t_YEAR_WORDS r r|Cq T|Cp T|EZ T|gvE T.av r r|qG T|gvE T.aw r r|xu T|Cn T|B4 K r|zF T|vM T|xx T|oC T|B6 K r|HW|qH T|mH T|q_in K r|Cl T|xA T|B5 r|Cs T|cbO * T.a1 boot_max r *|Kg r|oF T|GV r|rW T|zM T|EC r r T.a9 r T.a5 r *|xI T|Fk T|kU T|Kh K r r|bmO K Ou PySem.F.slot_list_remove PySem.F.type_list_remove * r * *|EA|Kn w r|vS T|JS b.ex *|JQ * h r r r r *|C_Torn T|xQ T|zI T|zJ T|anyI K r *|Kd|zO T|B2 r|Ci r|Cv T|EK h|r9 T|dinE h r * *|truN K r g *|mJ T|gvE T.aA r r|rh T|x8 T|gvE T.az r r|gvE T.aB r r|Hv T|ifE * * *|nB T|kY T|KB K r|LL h|Kr K r r|sd T|JC K r Ou PySem.F.slot_list_clear PySem.F.type_list_clear * r r *|GB|vV T|xT T|xX T|rZ T|qW T|rj T|Cz T|yg T|zQ T|L9 h" (a.map (·.raw)) s.getString.toList 9999⟩
nonrec abbrev ZM:=hH V
nonrec abbrev ZN:=hH (ku×hH V)
local macro_rules|`(%[$s:str,$x,*|$y])=>zqm s (x.getElems.push y)|`(%[$s:str|$y])=>zqm s #[y]
local macro_rules|`(tactic|lk)=>do
 let x<-("aR CH j8 iP lh rA lj v7 tB FO tOr Ix CF IB tIf tOp tUn tC Ip Iq tCB sE Bt C2 Ja Jb yk tBM Gb tSl C8 uK Gm rI rI0 rU Js Ju rEq rNe HF Do Jn Jp Jg Jh Ji Gw Jw z8 z7 yN yE uR FV CL IF HI HJ LQ LU HP zX zY IV IW JK pc Gf uS yG yH De Ey Ez Ki vA Kl EH wW rIn Jl Je uQ z6 CQ CS Gx LS K2 K3 K4 K5 LX KD LY LZ L3 L4 rS0 Ij Ik Im LV LW".splitOn " ").toArray.mapM λs=>`(Lean.Parser.Tactic.simpLemma|↓$(Lean.mkIdent s.toName):ident)
 let y<-("pH F0 Bp IS cond_true cond_false List.getElem?_cons_zero List.getElem?_cons_succ List.set_cons_zero List.set_cons_succ Option.some.injEq V.int.injEq V.str.injEq V.bl.injEq V.ref.injEq V.ty.injEq List.cons.injEq reduceCtorEq and_true true_and and_false false_and or_false false_or or_true true_or exists_false exists_eq_left' exists_eq_left exists_eq_right exists_eq_right' exists_and_left exists_and_right exists_eq cons_append nil_append exists_const and_assoc Int.zero_add Bool.not_true Bool.not_false Zz if_true if_false eq_self".splitOn " ").toArray.mapM λs=>`(Lean.Parser.Tactic.simpLemma|$(Lean.mkIdent s.toName):ident)
 `(tactic|simp only[$(x++y),*])
local macro_rules|`(!$n:ident)=>`(some (V.ref $n))
local macro_rules|`(-$n:ident)=>`(some (V.str $n))
local macro_rules|`(#[$n:num])=>`((show $n≤sizeLine by decide))|`(#[$x])=>`(paE rfl $x am)|`(#[$x,$y,*])=>`(paE rfl $x #[$y,*])
local macro_rules|`(tactic|walk)=>`(tactic|refine⟨rfl,rfl,rfl,?_,rfl,?_,?_⟩<;>decide +kernel)
def zq0{P:List Value->Prop}(h:P []):∀u,~~~u=0->P u:=λu e=>by rw[List.length_eq_zero_iff.mp e];show h
def zq1{n:Nat}{P:List Value->Prop}(h:∀a,∀u,~~~u=n->P (a::u)):∀u,~~~u=n+1->P u:=λu e=>by
 cases u with
 |nil=>cases e
 |cons a u=>show h a u (Nat.succ.inj e)
local macro_rules|`(tactic|room)=>`(tactic|(intro _ _ _ _ _ _;(repeat(refine zq1 λ_=>?_));exact zq0 rfl))
set_option hygiene false in
local macro_rules|`(↑$n:num)=>`(af $n rfl)|`(↑($x,$y))=>`(show bH _ _ _ $x $y=true from rfl)|`(↑[$x,*])=>`(show([$x,*]:ZB).Nodup from by decide)
set_option hygiene false in
local macro_rules|`($a>>$b)=>`(bh (K:=K) rfl (λ_ _=>rfl) $a $b)
abbrev top(i:jg):zr:=PySem.Challenge.pw_digbook_k72_clashes_told.main.body.getD i (.Pass %[0,0,0|0])
noncomputable section
nonrec abbrev iH:zr:=top 1
def bo:au ["ground","names","layer","word","one","other"] ["ground"] (ao iH):=by walk
nonrec abbrev jj:zr:=top 2
def eG:au ["names","one","other","first","second"] ["names","one","other"] (ao jj):=by walk
nonrec abbrev gh:zr:=top 3
def e9:au ["names","layer"] ["names","layer"] (ao gh):=by walk
nonrec abbrev qg:zr:=top 4
def g9:au ["ground","names","groups","layer"] ["ground"] (ao qg):=by walk
nonrec abbrev lQ:zr:=top 5
def rP:au ["ground","layer"] ["ground","layer"] (ao lQ):=by walk
nonrec abbrev jk:zr:=top 6
def m8:au ["ground"] ["ground"] (ao jk):=by walk
nonrec abbrev Ax:zr:=top 7
def xf:au ["ground","names"] ["ground"] (ao Ax):=by walk
nonrec abbrev iI:zr:=top 20
def lR:au ["found"] ["found"] (ao iI):=by walk
nonrec abbrev gi:zr:=top 21
def ke:au ["found"] ["found"] (ao gi):=by walk
nonrec abbrev tW:zr:=top 22
def kN:au ["found","side","groups","link"] ["found","side"] (ao tW):=by walk
nonrec abbrev jD:zr:=top 23
def bi:au ["names","found","beneath","above","waits","name","ready","laid","least","link"] ["names","found"] (ao jD):=by walk
nonrec abbrev jE:zr:=top 24
def dL:au ["beneath","start","goal","reached","edge"] ["beneath","start","goal"] (ao jE):=by walk
nonrec abbrev nU:zr:=top 25
def fi:au ["beneath","edge","reached","further","name","link"] ["beneath","edge","reached"] (ao nU):=by walk
nonrec abbrev xg:zr:=top 26
def tX:au ["reached","start","goal","way"] ["reached","start","goal"] (ao xg):=by walk
nonrec abbrev kr:zr:=top 27
def dm:au ["names","found","beneath","reach","name","link"] ["names","found"] (ao kr):=by walk
nonrec abbrev jm:zr:=top 29
def bY:au ["names","found","beneath","shortest","name","way"] ["names","found"] (ao jm):=by walk
nonrec abbrev lS:zr:=top 30
def rQ:au ["names","found"] ["names","found"] (ao lS):=by walk
nonrec abbrev jF:zr:=top 31
def ci:au ["ground","found","torn_by"] ["ground"] (ao jF):=by walk
nonrec abbrev Ay:zr:=top 33
def xh:au ["ground","one","other","beneath"] ["ground","one","other"] (ao Ay):=by walk
nonrec abbrev jG:zr:=top 34
def dM:au ["ground","found"] ["ground"] (ao jG):=by walk
nonrec abbrev tY:zr:=top 41
def zA:au ["thing"] ["thing"] (ao tY):=by walk
nonrec abbrev tZ:zr:=top 42
def i7:au ["text","rows","number","row"] ["text"] (ao tZ):=by walk
nonrec abbrev xi:zr:=top 43
def Cj:au ["row"] ["row"] (ao xi):=by walk
nonrec abbrev jH:zr:=top 44
def oz:au ["row","above"] ["row","above"] (ao jH):=by walk
nonrec abbrev lT:zr:=top 45
def rR:au ["rows"] ["rows"] (ao lT):=by walk
nonrec abbrev t4:zr:=top 46
def zB:au ["text"] ["text"] (ao t4):=by walk
nonrec abbrev qh:zr:=top 47
def eT:au ["text","rows","pairs","above","row"] ["text"] (ao qh):=by walk
nonrec abbrev gj:zr:=top 48
def kf:au ["above","row"] ["above","row"] (ao gj):=by walk
nonrec abbrev lU:zr:=top 57
def eN:au ["cuts","names","number","thing"] ["cuts"] (ao lU):=by walk
nonrec abbrev jI:zr:=top 58
def oA:au ["thing"] ["thing"] (ao jI):=by walk
nonrec abbrev xj:zr:=top 59
def Ck:au ["thing"] ["thing"] (ao xj):=by walk
nonrec abbrev jn:zr:=top 60
def eI:au ["sayings","layers","number","thing"] ["sayings","layers"] (ao jn):=by walk
nonrec abbrev nV:zr:=top 61
def vG:au ["thing","layers"] ["thing","layers"] (ao nV):=by walk
nonrec abbrev jo:zr:=top 62
def m9:au ["thing","texts"] ["thing","texts"] (ao jo):=by walk
nonrec abbrev t5:zr:=top 63
def zC:au ["thing"] ["thing"] (ao t5):=by walk
nonrec abbrev lV:zr:=top 64
def rS:au ["name","letter"] ["name","letter"] (ao lV):=by walk
nonrec abbrev nW:zr:=top 65
def fj:au ["cuts","layers","name","text"] ["cuts"] (ao nW):=by walk
nonrec abbrev jJ:zr:=top 66
def cj:au ["cuts","ties","name","text","upper","lower"] ["cuts"] (ao jJ):=by walk
nonrec abbrev hJ:zr:=top 67
def cV:au ["sayings","ties","number","saying"] ["sayings"] (ao hJ):=by walk
nonrec abbrev xo:zr:=top 72
def t7:au ["ground","reach","sinces","bys","told","name","least","greatest"] ["ground"] (ao xo):=by walk
nonrec abbrev lW:zr:=top 73
def ix:au ["ground","word","names","sayings"] ["ground","word"] (ao lW):=by walk
nonrec abbrev iJ:zr:=top 74
def Az:au ["sinces","reach","name"] ["sinces","reach","name"] (ao iJ):=by walk
nonrec abbrev nZ:zr:=top 75
def vH:au ["bys","reach","name"] ["bys","reach","name"] (ao nZ):=by walk
nonrec abbrev hZ:zr:=top 76
def kO:au ["reach","upper","lower"] ["reach","upper","lower"] (ao hZ):=by walk
nonrec abbrev iK:zr:=top 77
def aU:au ["ground","reach","bys","pairs","number","name","year"] ["ground"] (ao iK):=by walk
nonrec abbrev AA:zr:=top 78
def gx:au ["ground","pairs","since","by","sayings"] ["ground"] (ao AA):=by walk
nonrec abbrev gA:zr:=top 79
def fh:au ["ground","one","other","found"] ["ground","one","other"] (ao gA):=by walk
nonrec abbrev kz:zr:=top 81
def qi:au ["_law_script","_law_k"] ["_law_script","_law_k"] (ao kz):=by walk
nonrec abbrev lZ:zr:=top 82
def c9:au ["_law_cell","_law_k","_law_number","_law_found","_law_j"] ["_law_cell","_law_k"] (ao lZ):=by walk
nonrec abbrev l7:zr:=top 83
def bW:au ["_law_script","_law_k","_law_base","_law_many","_law_cell","_law_mixed_one","_law_digits_here","_law_turn"] ["_law_script","_law_k","_law_base","_law_many"] (ao l7):=by walk
nonrec abbrev l8:zr:=top 84
def rT:au ["_law_rank","_law_way"] ["_law_rank","_law_way"] (ao l8):=by walk
nonrec abbrev t8:zr:=top 85
def cA:au ["_law_digits_here","_law_way","_law_wide","_law_high","_law_columns","_law_j","_law_air","_law_rank","_law_column","_law_k"] ["_law_digits_here","_law_way"] (ao t8):=by walk
nonrec abbrev n5:zr:=top 86
def fk:au ["_law_name","_law_way","_law_rows","_law_ranks_here","_law_rank","_law_letter_here"] ["_law_name","_law_way","_law_rows"] (ao n5):=by walk
nonrec abbrev qj:zr:=top 87
def dq:au ["_law_script","_law_head","_law_cuts_here","_law_ranks_here","_law_k","_law_name","_law_rows"] ["_law_script"] (ao qj):=by walk
nonrec abbrev t9:zr:=top 88
def zD:au ["_law_one","_law_other","_law_ranks_here"] ["_law_one","_law_other","_law_ranks_here"] (ao t9):=by walk
nonrec abbrev qk:zr:=top 89
def cT:au ["_law_digits_here","_law_ranks_here","_law_torn","_law_wild","_law_names","_law_one","_law_other","_law_saying","_law_alike","_law_year"] ["_law_digits_here","_law_ranks_here","_law_torn","_law_wild"] (ao qk):=by walk
nonrec abbrev n6:zr:=top 90
def bp:au ["_law_script","_law_ways","_law_cuts_here","_law_beds","_law_k","_law_name","_law_signs","_law_sayings","_law_digits_here","_law_year"] ["_law_script"] (ao n6):=by walk
nonrec abbrev l9:zr:=top 91
def cB:au ["_law_script","_law_cuts_here","_law_ranks_here","_law_sayings","_law_torn","_law_wild","_law_k"] ["_law_script"] (ao l9):=by walk
nonrec abbrev jK:zr:=top 92
def ck:au ["_law_name","_law_text","_law_rows","_law_ties_here","_law_upper","_law_lower","_law_k"] ["_law_name","_law_text"] (ao jK):=by walk
nonrec abbrev qo:zr:=top 93
def du:au ["_law_cuts_here","_law_sayings","_law_ties_here","_law_name","_law_text","_law_number","_law_saying"] ["_law_cuts_here","_law_sayings"] (ao qo):=by walk
nonrec abbrev n8:zr:=top 94
def bq:au ["_law_cuts_here","_law_sayings","_law_homes_here","_law_name","_law_text","_law_sign","_law_pairs","_law_turn","_law_word","_law_one","_law_other","_law_least"] ["_law_cuts_here","_law_sayings"] (ao n8):=by walk
nonrec abbrev n9:zr:=top 95
def d9:au ["_law_cuts_here","_law_sayings","_law_homes_here","_law_laid","_law_one","_law_other","_law_source"] ["_law_cuts_here","_law_sayings","_law_homes_here"] (ao n9):=by walk
nonrec abbrev uf:zr:=top 96
def bA:au ["_law_laid","_law_one","_law_steps","_law_later","_law_earlier","_law_source","_law_far_here","_law_row","_law_many","_law_ahead","_law_deposit","_law_other"] ["_law_laid","_law_one"] (ao uf):=by walk
nonrec abbrev kA:zr:=top 97
def gB:au ["_law_laid","_law_homes_here","_law_beneath_here","_law_deposit"] ["_law_laid","_law_homes_here"] (ao kA):=by walk
nonrec abbrev jL:zr:=top 98
def oB:au ["_law_beneath_here"] ["_law_beneath_here"] (ao jL):=by walk
nonrec abbrev jM:zr:=top 99
def cm:au ["_law_found","_law_laid","_law_one","_law_other","_law_here","_law_later","_law_earlier","_law_source"] ["_law_found","_law_laid","_law_one","_law_other"] (ao jM):=by walk
nonrec abbrev kB:zr:=top 100
def jN:au ["_law_refused","_law_laid","_law_beneath_here","_law_told_ring"] ["_law_refused","_law_laid","_law_beneath_here"] (ao kB):=by walk
nonrec abbrev ug:zr:=top 101
def dO:au ["_law_sayings","_law_homes_here","_law_beneath_here","_law_number","_law_since","_law_other","_law_by","_law_low","_law_high"] ["_law_sayings","_law_homes_here","_law_beneath_here"] (ao ug):=by walk
nonrec abbrev qp:zr:=top 102
def h9:au ["_law_ground_here","_law_told_here","_law_refused","e"] ["_law_ground_here"] (ao qp):=by walk
nonrec abbrev oa:zr:=top 103
def vJ:au ["_law_told_here","_law_due_here","_law_laid","_law_beneath_here"] ["_law_told_here","_law_due_here","_law_laid","_law_beneath_here"] (ao oa):=by walk
nonrec abbrev jO:zr:=top 104
def cY:au ["_law_ground_here","_law_laid","_law_beneath_here","_law_asked","_law_refused","e"] ["_law_ground_here","_law_laid","_law_beneath_here"] (ao jO):=by walk
nonrec abbrev qr:zr:=top 105
def xp:au ["_law_told_here"] ["_law_told_here"] (ao qr):=by walk
nonrec abbrev mf:zr:=top 106
def df:au ["_law_script","_law_cuts_here","_law_sayings","_law_ground_here","_law_beside","_law_kept","_law_one","_law_some","_law_homes_here","_law_laid","_law_beneath_here","_law_told_here","_law_refused","_law_due_here","_law_as_told","_law_again"] ["_law_script"] (ao mf):=by walk
nonrec abbrev cu:zr:=jT (top 56) 0
def gC:au ["self","cuts","sayings","layers"] ["self","cuts","sayings"] (ao cu):=by walk
nonrec abbrev rV:zr:=jT (top 56) 1
def EU:au ["self"] ["self"] (ao rV):=by walk
nonrec abbrev cO:zr:=jT (top 56) 2
def mj:au ["self"] ["self"] (ao cO):=by walk
nonrec abbrev cZ:zr:=jT (top 56) 3
def ng:au ["self"] ["self"] (ao cZ):=by walk
nonrec abbrev dF:zr:=jT (top 56) 4
def qt:au ["self"] ["self"] (ao dF):=by walk
nonrec abbrev eU:zr:=jT (top 12) 0
end
def vK:au ["self","ring"] ["self","ring"] (ao eU):=by walk
inductive qu (K:ZA)
 | mk (a:ku) (ns:ZL) (k:oT):vs=[.ref a,.int k]->Qb K H a (ns\4)->0<=k->Q (.int (ns.getD k.toNat 0)) H->qu K vs H Q E0
inductive uh
 | mk (c k:oT):vs=[.int c,.int k]->0<=k->k<=100->(∀v,Q (.int v) H)->uh vs H Q E0
inductive ui (K:ZA)
 | mk (a:ku) (ns:ZL) (k b m:oT):vs=[.ref a,.int k,.int b,.int m]->Qb K H a (ns\4)->0<=k->k<=100->2<=b->b<=1000->0<=m->m<=100->(∀l H' (xs:ZL),ah H H'->H l=hV->H' l<*xs\4-> ~~~xs=m.toNat->(∀x∈xs,0<=x/\x<b)->Q (.ref l) H')->ui K vs H Q E0
structure Txc (K:ZA) (mg:ZC):Prop where
 c_Torn:mg "Torn"=hX (.ref (aG mg "Torn"))
 c_DigError:mg "DigError"=hX (.ref (aG mg "DigError"))
 c_NoCut:mg "NoCut"=hX (.ref (aG mg "NoCut"))
 c_NoSaying:mg "NoSaying"=hX (.ref (aG mg "NoSaying"))
 c_NoGround:mg "NoGround"=hX (.ref (aG mg "NoGround"))
 c_NoLayer:mg "NoLayer"=hX (.ref (aG mg "NoLayer"))
 c_NoRow:mg "NoRow"=hX (.ref (aG mg "NoRow"))
 c_NoDeed:mg "NoDeed"=hX (.ref (aG mg "NoDeed"))
 x_Torn:DT K mg "Torn" "Torn.__init__" eU ["self","ring"]
 f_Torn_ring:JJ K (aG mg "Torn") "ring"
 g_Torn_ring:GG K (aG mg "Torn") "ring"
 u_Torn_NoCut:Rs K (.ref (aG mg "Torn")) (.ref (aG mg "NoCut"))∣iv
 u_Torn:Rs K (.ref (aG mg "Torn")) (.ref (aG mg "DigError"))∣hY
 k_Torn_any0:T0 K (.ref (aG mg "Torn")) (([(aG mg "NoCut"),(aG mg "NoGround"),(aG mg "NoSaying")]).map m4)∣iv
 k_Torn_any1:T0 K (.ref (aG mg "Torn")) (([(aG mg "NoDeed"),(aG mg "NoRow"),(aG mg "NoLayer")]).map m4)∣iv
 k_Torn_Torn:Pe K (.ref (aG mg "Torn")) (.ref (aG mg "Torn"))∣hY
 k_Torn_ValueError:Pe K (.ref (aG mg "Torn")) (.type "ValueError")∣hY
 i_DigError:DM K (aG mg "DigError")
 t_NoCut:Cat K (aG mg "NoCut")
 t_DigError:Cat K (aG mg "DigError")
 o_Ground:wP K mg "Ground"
 n_Ground_kept_cuts:ip K (aG mg "Ground") "kept_cuts"
 n_Ground_kept_sayings:ip K (aG mg "Ground") "kept_sayings"
 n_Ground_kept_layers:ip K (aG mg "Ground") "kept_layers"
 n_Ground_kept_ties:ip K (aG mg "Ground") "kept_ties"
 i_Ground:Eu K mg "Ground" "Ground.__init__" cu ["self","cuts","sayings"]
 m_Ground_sayings:wQ K mg "Ground" "sayings" "Ground.sayings" cO ["self"]
 m_Ground_layers:wQ K mg "Ground" "layers" "Ground.layers" cZ ["self"]
 m_Ground_ties:wQ K mg "Ground" "ties" "Ground.ties" dF ["self"]
 t_YEAR_WORDS:GvT K mg "YEAR_WORDS" [.str "since",.str "by"]
 t_LAYER_WORDS:GvT K mg "LAYER_WORDS" [.str "later",.str "same"]
structure Txt (K:ZA) (mg:ZC):Prop extends Txc K mg where
 a0:mg "min"=hV
 a1:mg "max"=hV
 a5:mg "list"=hV
 a6:mg "set"=hV
 a7:mg "sorted"=hV
 a8:mg "len"=hV
 a9:mg "reversed"=hV
 aa:mg "all"=hV
 ab:mg "str"=hV
 ac:mg "isinstance"=hV
 ae:mg "enumerate"=hV
 af:mg "zip"=hV
 ag:mg "tuple"=hV
 ah:mg "int"=hV
 ai:mg "bool"=hV
 aj:mg "range"=hV
 ak:mg "ValueError"=hV
 am:Gv mg "LATER" (.int 0)
 an:Gv mg "EARLIER" (.int 1)
 ao:Gv mg "LONGEST_NAME" (.int 8)
 ap:Gv mg "LETTERS" (.str "abcdefghijklmnopqrstuvwxyz")
 aq:Gv mg "MOST_ROWS" (.int 40)
 ar:Gv mg "MOST_SIGNS" (.int 40)
 au:Gv mg "AIR" (.str ".")
 av:Gv mg "MOST_CUTS" (.int 8)
 aw:Gv mg "MOST_SAYINGS" (.int 60)
 ax:Gv mg "FIRST_YEAR" (.int (-9999))
 ay:Gv mg "LAST_YEAR" (.int 9999)
 az:Gv mg "YEAR" (.int 2)
 aA:Gv mg "DEPOSIT" (.int 1)
 aB:Gv mg "NUMBER" (.int 0)
 aC:aD K mg "names_by_layer" iH ["ground"]
 aE:aD K mg "join_deposits" jj ["names","one","other"]
 aF:aD K mg "least_pointed_to" gh ["names","layer"]
 aG:aD K mg "deposits" qg ["ground"]
 aH:aD K mg "deposit_of" lQ ["ground","layer"]
 aI:aD K mg "deposit_names" jk ["ground"]
 aJ:aD K mg "links" Ax ["ground"]
 aK:aD K mg "links_by_later" iI ["found"]
 aL:aD K mg "links_by_earlier" gi ["found"]
 aM:aD K mg "grouped" tW ["found","side"]
 aN:aD K mg "laid_in_turn" jD ["names","found"]
 aO:aD K mg "shortest_way" jE ["beneath","start","goal"]
 aP:aD K mg "next_edge" nU ["beneath","edge","reached"]
 aQ:aD K mg "way_to" xg ["reached","start","goal"]
 aR:aD K mg "all_beneath" kr ["names","found"]
 aS:aD K mg "shortest_ring" jm ["names","found"]
 aT:aD K mg "never_laid" lS ["names","found"]
 aU:aD K mg "untorn_links" jF ["ground"]
 aV:aD K mg "chain" Ay ["ground","one","other"]
 aW:aD K mg "earlier_ones" jG ["ground"]
 aX:aD K mg "is_name" tY ["thing"]
 aY:aD K mg "rows_of" tZ ["text"]
 aZ:aD K mg "is_row" xi ["row"]
 b0:aD K mg "lies_beneath" jH ["row","above"]
 b1:aD K mg "letters_in" lT ["rows"]
 b2:aD K mg "letters" t4 ["text"]
 b3:aD K mg "meetings" qh ["text"]
 b4:aD K mg "meetings_between" gj ["above","row"]
 b5:aD K mg "check_cuts" lU ["cuts"]
 b6:aD K mg "is_named_cut" jI ["thing"]
 b7:aD K mg "is_cut" xj ["thing"]
 b8:aD K mg "check_sayings" jn ["sayings","layers"]
 b9:aD K mg "is_saying" nV ["thing","layers"]
 ba:aD K mg "is_text_among" jo ["thing","texts"]
 bb:aD K mg "is_year" t5 ["thing"]
 bc:aD K mg "layer_name" lV ["name","letter"]
 bd:aD K mg "layers_of" nW ["cuts"]
 be:aD K mg "ties_of_cuts" jJ ["cuts"]
 bf:aD K mg "ties_of_sayings" hJ ["sayings"]
 bg:aD K mg "bounds" xo ["ground"]
 bh:aD K mg "years_said" lW ["ground","word"]
 bi:aD K mg "sinces_beneath" iJ ["sinces","reach","name"]
 bj:aD K mg "bys_above" nZ ["bys","reach","name"]
 bm:aD K mg "is_one_or_later" hZ ["reach","upper","lower"]
 bn:aD K mg "clashing_pairs" iK ["ground"]
 bo:aD K mg "clash" AA ["ground"]
 bp:aD K mg "chain_or_nothing" gA ["ground","one","other"]
 bq:aD K mg "_law_cell_at" kz ["_law_script","_law_k"]
 br:aD K mg "_law_spread" lZ ["_law_cell","_law_k"]
 bt:aD K mg "_law_digits" l7 ["_law_script","_law_k","_law_base","_law_many"]
 bu:aD K mg "_law_letter" l8 ["_law_rank","_law_way"]
 bv:aD K mg "_law_cut" t8 ["_law_digits_here","_law_way"]
 bw:aD K mg "_law_ranks" n5 ["_law_name","_law_way","_law_rows"]
 bx:aD K mg "_law_cuts" qj ["_law_script"]
 bz:aD K mg "_law_tie" t9 ["_law_one","_law_other","_law_ranks_here"]
 bA:aD K mg "_law_said" qk ["_law_digits_here","_law_ranks_here","_law_torn","_law_wild"]
 bB:aD K mg "_law_tower" n6 ["_law_script"]
 bC:aD K mg "_law_ground" l9 ["_law_script"]
 bD:aD K mg "_law_cut_ties" jK ["_law_name","_law_text"]
 bE:aD K mg "_law_ties" qo ["_law_cuts_here","_law_sayings"]
 bF:aD K mg "_law_homes" n8 ["_law_cuts_here","_law_sayings"]
 bG:aD K mg "_law_links" n9 ["_law_cuts_here","_law_sayings","_law_homes_here"]
 bH:aD K mg "_law_far" uf ["_law_laid","_law_one"]
 bI:aD K mg "_law_beneath" kA ["_law_laid","_law_homes_here"]
 bJ:aD K mg "_law_has_ring" jL ["_law_beneath_here"]
 bK:aD K mg "_law_is_chain" jM ["_law_found","_law_laid","_law_one","_law_other"]
 bL:aD K mg "_law_is_torn" kB ["_law_refused","_law_laid","_law_beneath_here"]
 bM:aD K mg "_law_due" ug ["_law_sayings","_law_homes_here","_law_beneath_here"]
 bN:aD K mg "_law_told" qp ["_law_ground_here"]
 bO:aD K mg "_law_right" oa ["_law_told_here","_law_due_here","_law_laid","_law_beneath_here"]
 bP:aD K mg "_law_all_torn" jO ["_law_ground_here","_law_laid","_law_beneath_here"]
 bQ:aD K mg "_law_copy" qr ["_law_told_here"]
section
variable{P:nY}{w:v0}{K:ZA}{mg:ZC}{base:xl}
def cP{n:jg}(h:n<=5000):n<=md:=nI h (!1)
def aC{n:jg}(h:n<=5000):n<md:=RH h (!1)
def ah.Qa{H:Hp}{p:ku}{o:HO}(h:H p=hV):ah H (Qa H p o):=λb u e=>by rw[aq (ax e h)];show e
def ah.set{H a:Hp}{p:ku}{o:HO}(c:ah H a)(h:H p=hV):ah H (_LL.Qa a p o):=λb u e=>by rw[aq (ax e h)];show c b u e
def Mb{b:Type}(xs:hH b){i:oT}(d:0<=i)(e:i<(~~~xs:oT)):∃c,atI xs i∣c/\c∈xs:=by
 let%[j|rfl]:=Xi d;let a:j< ~~~xs:=by lia
 show%[xs[j],bu (by simp[a])|Yd a]
def mo(xs:ZL){i:oT}(b:0<=i)(d:i<(~~~xs:oT)):∃c,atI (xs\4) i∣V.int c/\c∈xs:=by
 let%[j|rfl]:=Xi b;let a:j< ~~~xs:=by lia
 show%[xs[j],bu (by simp[a])|Yd a]
def Ib:(iW.cps.toList.length:oT)=26:=!0
def dG(T:Txt K mg):Cal P w K mg base 1 "_law_cell_at" ["_law_script","_law_k"] (qu K):=by
 .exists T.bq,qi,g,m,%[a,c,k,rfl,d,i|q];show%[_,%["KCOL~V1efA0BEHQ01PEHD"|0]|?_]
  change aR _ _ _ [!a,hX (.int k)] H;lk;show%[_,.inl %[_,d|ρ]|bv (λb=>?_) λb=>?_]
  .let b:=Zo b;rw[Z6]at b;show%[_,d,.int (c.getD k.toNat 0),?_|q];let%[j|rfl]:=Xi i;let l:j< ~~~c:=by lia
   show bu (by simp[l])
  .let b: ¬ k<(~~~(c\4):oT):=↑b
   rw[Z6]at b;let e:c.getD k.toNat 0=0:=by
    rw[Zc,Xl ⋯];rfl
   rw[e]at q;show q
def vL(T:Txt K mg):Cal P w K mg base 1 "_law_spread" ["_law_cell","_law_k"] uh:=by
 .exists T.br,c9,j,B,%[c,k,rfl,C,G|q];show%[_,%["KCF2IdIdIY0DI%D1DCF3DCS(ADBJ4CF2IYIdIdIdIdI%22I%IdI%I%444D2I%D14DDEF3IdI%3DIYI_2DDEH3"|c9.nd]|?_]
  change aR _ _ _ [hX (.int c),hX (.int k),hV,hV,hV] H;show aj λI k1 _=>?_
  lk;show%[!1,.inl %[!1|!1]|k1 _ _ (aj λJ k2 _=>?_)];let d:0<=c%2147483647+977*k+5/\c%2147483647+977*k+5<2^40:=by lia -verbose
  generalize c%2147483647+977*k+5=n at d
  lk;show k2 _ _ (aj λL l _=>ay λe p=>?_);lk;show%[!1,!1|p _ _ (cK (λi a b=>∃(n v:oT) (o:lx V),a=[hX (.int c),hX (.int k),hX (.int n),hX (.int v),o]/\b=H/\0<=n/\n<2^40) %[_,_,_,ρ,ρ|d] ?_ ?_)]
  .intro i a b hi %[n,v,o,rfl,rfl,r|n1];change aR _ _ _ [hX (.int c),hX (.int k),hX (.int n),hX (.int v),hX (.int (0+i))] _;rw[Ps];show aj λM u _=>?_
   lk;show%[.inl %[(by lia -verbose)|(by lia -verbose)],.inl %[(by lia -verbose)|(by lia -verbose)],.inr %[(by lia -verbose)|(by lia -verbose)],.inr %[(by lia -verbose)|(by lia -verbose)],.inl %[!1|!1],!1|u _ _ (aA λN y _=>?_)];let g:=NX (n*n+(i*i*i+7)*n+104729*k+i+1) (by decide:(2147483629:oT)≠0);let z:=Px (n*n+(i*i*i+7)*n+104729*k+i+1) (by decide:(0:oT)<2147483629)
   generalize (n*n+((i:oT)*i*i+7)*n+104729*k+i+1)%2147483629=m at g z
   lk;show%[.inr %[!1|!1],%[!1|!1],!1|y _ _ %[m,_,_,ρ,ρ,g|(by lia -verbose)]]
  .intro a b %[n,v,o,rfl,rfl,r|n1];show l _ _ ?_;lk;show q v
def ee(T:Txt K mg):Cal P w K mg base 2 "_law_digits" ["_law_script","_law_k","_law_base","_law_many"] (ui K):=by
 .exists T.bt,bW,U,u,%[a,n,k,b,m,rfl,I,J,k1,b2,b1,m0,m1|q];show%[_,%["KCF4G~JA0A1BCF5G]MA4A1BCOLjIYG~JA0ADBDDEF4DPCF6RBCS(A3BJ7EOL=4DCXsn6AIY42BEF4I_42CXsn6AIY52BEF5I_52EH6",bW.nd|u]|?_]
  change aR _ _ _ [!a,hX (.int k),hX (.int b),hX (.int m),hV,hV,hV,hV] H;show aj λD1 k1 _=>?_
  lk;show%[a,n,k,ρ,I,J|k1 _ _ (aj λD2 k2 _=>?_)]
  generalize n.getD k.toNat 0=c
  lk;show%[_,_,ρ,J,⋯|λv=>k2 _ _ (aj λY k3 _=>?_)];lk;show%[a,n,0,ρ,I,!1,!1|?_]
  suffices L:∀M:oT,Y.nx [!a,hX (.int k),hX (.int b),hX (.int m),hX (.int M),hX (.int v),hV,hV] H from bv (λ_=>L 0) λ_=>L c
  intro M;show k3 _ _ (aj λD4 k4 _=>?_);lk;show%[Xf _|λl z=>k4 _ _ (aj λD5 k5 _=>ay λN hK=>?_)];lk;show%[⋯,⋯|hK _ _ (cK (λi B j=>∃(c v:oT) (o:lx V) (xs:ZL),B=[!a,hX (.int k),hX (.int b),hX (.int m),hX (.int c),hX (.int v),!l,o]/\ah H j/\j l<*xs\4/\ ~~~xs=i/\∀x∈xs,0<=x/\x<b) %[_,_,_,[],ρ,ah.Qa z,aa,ρ|λ_ h=>nomatch h] ?_ ?_)]
  .intro i B j hi %[c,v,o,xs,rfl,C,e,r|g];let put:∀v:oT,ah H (Qa j l (.lst (xs\4++[.int (v%b)])))/\∃d:ZL,Qa j l (.lst (xs\4++[.int (v%b)])) l<*d\4/\ ~~~d=i+1/\∀x∈d,0<=x/\x<b:=λv=>
    ⟨ah.set C z,xs++[v%b],by rw[aa,Zd];rfl,by rw[Z9,r];rfl,λy hy=>by
     rcases Xn hy with q|q
     .show g y q
     .rw[Xo q];show%[NX _ ⋯|Px _ ⋯]⟩
   let len: ~~~(xs\4)<md:=by rw[Z6,r];show aC ⋯
   change j8 _ _ _ _ [!a,hX (.int k),hX (.int b),hX (.int m),hX (.int c),hX (.int v),!l,hX (.int (0+i))] j;show aA λD6 O _=>?_
   lk;show bv (λ_=>?_) λ_=>?_
   .let%[G,d|p]:=put c;show%[tyL (Qb.of e),⋯,_,e,len,%[⋯|⋯]|O _ _ %[_,_,_,d,ρ,G|p]]
   .let%[G,d|p]:=put v;show%[tyL (Qb.of e),⋯,_,e,len,%[⋯|⋯]|O _ _ %[_,_,_,d,ρ,G|p]]
  .intro B j %[c,v,o,xs,rfl,C,e,r|g];show k5 _ _ ?_;lk;show q l j xs C z e r g
abbrev rO(rows:ZB):Prop:=∃m:hH _,~~~m<=60/\∀a b,zy rows a b->[sgn a,sgn b]∈m
abbrev mlt(w:oT):oT:=if w%4=0 then 1 else if w%4=1 then 25 else if w%4=2 then 7 else 5
abbrev ltr(r w:oT):jg:=97+((r*mlt w+w)%26).toNat
def AB(r w:oT):fV (ltr r w)=hY:=by
 let all:∀i:Fin 26,fV (97+i.1)=hY:=!0
 show all %[((r*mlt w+w)%26).toNat|⋯]
def kP(r w:oT):ltr r w≠46:=by unfold ltr;lia
abbrev G6(w:oT)(hi:jg)(c:hH jg):Prop:= ~~~c=hi/\∃a:jg,∀(k x:jg),c[k]?∣x->(k<a->x=46)/\(a<=k->∃r:oT,0<=r/\r<16/\x=ltr r w)
abbrev qv(a:hH (hH jg))(k:jg):lp:=⟨(a.map λc=>c.getD k 46).toArray⟩
abbrev bK(a:hH (hH jg))(hi:jg):ZB:=(p0 hi).map (qv a)
def fN{a:hH (hH jg)}{hi k:jg}{z:lp}(h:(bK a hi)[k]?∣z):k<hi/\z=qv a k:=by
 unfold bK at h;rw[Zl]at h;by_cases b:k<hi
 .rw[Rz b]at h;show%[b|(Za h).symm]
 simp_all
def mr{a:hH (hH jg)}{k j c:jg}(h:(qv a k).cps[j]?∣c):∃b,a[j]?∣b/\c=b.getD k 46:=by
 let h:(a.map λc=>c.getD k 46)[j]?∣c:=by simpa [qv]using h
 rw[Zl]at h;cases e:a[j]? with
 | none=>simp_all
 | some b=>rw[e]at h;show%[b,ρ|(Za h).symm]
def mv{a:hH jg}{hi k:jg}(b: ~~~a=hi)(c:k<hi):a[k]?∣a.getD k 46:=!2
structure ic (w:oT) (cols:hH (hH jg)) (hi:jg):Prop where
 h1:1<=hi
 h5:hi<=5
 w1:1<= ~~~cols
 w4: ~~~cols<=4
 ok:∀c∈cols,G6 w hi c
 fst:∃col,cols[0]?∣col/\∃r:oT,0<=r/\r<16/\col[hi-1]?∣ltr r w
section
variable{w:oT}{cols:hH (hH jg)}{hi:jg}
def ic.let_(d:ic w cols hi){k j c:jg}(e:k<hi)(h:(qv cols k).cps[j]?∣c):c=46\/∃r:oT,0<=r/\r<16/\c=ltr r w:=by
 let%[a,f|rfl]:=mr h;let%[g,b|i]:=d.ok a (Z8 f);let:=i k _ (mv g e);by_cases c:k<b
 .show .inl (this.1 c)
 .show .inr (this.2 ⋯)
def ic.cut(d:ic w cols hi):cS (bK cols hi):=by
 let len: ~~~(bK cols hi)=hi:=by unfold bK;rw[Z6,Yj]
 let b:∀z∈bK cols hi,∃k,k<hi/\z=qv cols k:=λz f=>by
  let%[k|e]:=Xg f;show%[k|fN e]
 let C:=d.h1;let E:=d.h5;let G:=d.w4;show%[⋯,⋯,%[~~~cols,d.w1,⋯|λz f=>?_],λz f=>?_,λi r H s u j c I v y m=>?_|?_]
 .let%[k,_|rfl]:=b z f;simp[qv]
 .let%[k,h|rfl]:=b z f;rw[NC];intro c n;let%[j|A]:=Xg n;rcases d.let_ h (j:=j) ↑A with rfl|⟨r,_,_,rfl⟩
  .decide +kernel
  .unfold okc;rw[AB,RW]
 .let%[hi1|rfl]:=fN s;let%[hi2|rfl]:=fN u;let%[a,l|rfl]:=mr v;let%[p,g|rfl]:=mr y;rw[l]at g;cases g;let%[q,o|h]:=d.ok a (Z8 l);by_cases B:i+1<o
  .show(h i _ (mv q hi1)).1 ⋯
  .let%[r,_,_|e]:=(h _ _ (mv q hi2)).2 ⋯;show n0 (e.symm.trans m) (kP r w)
 .let%[a,l,r,_,_|e]:=d.fst;show%[qv cols (hi-1),Xq %[hi-1,by rw[yc];lia|ρ],ltr r w,Xq %[a,Z8 l|?_]|kP r w];rw[Zc,e];rfl
def ic.few(d:ic w cols hi):rO (bK cols hi):=by
 show%[(p0 4).flatMap λi=>(p0 4).map λj=>[sgn ((cols.getD j []).getD i 46),sgn ((cols.getD j []).getD (i+1) 46)],by simp[hH.length_flatMap,Pd]|?_];intro a b %[_,_,i,j,r,p,g,h,m|n];let%[hi1|rfl]:=fN g;let%[hi2|rfl]:=fN h;let%[o,e|rfl]:=mr m;let%[f,c|rfl]:=mr n;rw[e]at c;cases c;let q:=d.h5;let s:=d.w4;let:=(Xm e).1;show ME.mpr %[i,yc.mpr ⋯|Xq %[j,yc.mpr ⋯|?_]];rw[Zc (l:=cols),e];rfl
def ic.lets(d:ic w cols hi){c:jg}(h:Let (bK cols hi) c):∃r:oT,0<=r/\r<16/\c=ltr r w:=by
 let%[a,r,f|b]:=h;let%[k|e]:=Xg f;let%[g|rfl]:=fN e;let%[j|i]:=Xg b;show(d.let_ g (j:=j) ↑i).resolve_left a
def ic.ex(d:ic w cols hi):∃r:oT,0<=r/\r<16/\Let (bK cols hi) (ltr r w):=by
 let%[r,b,c,e|ne]:=d.cut.some';let l:Let (bK cols hi) c:=%[ne,r,b|e]
 let%[a,f,g|rfl]:=d.lets l;show%[a,f,g|l]
end
inductive uj
 | mk (r w:oT):vs=[.int r,.int w]->0<=r->r<=100->0<=w->w<=110->(∀H',ah H H'->Q (.str (sgn (ltr r w))) H')->uj vs H Q E0
def EV{i:oT}(a:0<=i)(c:i<26):atI iW.cps.toList i∣(97+i.toNat):=by
 let%[j|rfl]:=Xi a;let b:j<26:=by lia
 let all:∀j:Fin 26,iW.cps.toList[j.1]?∣(97+j.1):=!0
 show bu (all %[j|b])
def i8(T:Txt K mg):Cal P w K mg base 1 "_law_letter" ["_law_rank","_law_way"] uj:=by
 .exists T.bu,rT,b,g,%[r,w,rfl,i,j,l,m|c];show%[_,%["KEH~DVIYIdI%0QRADADADADBIY1D1D"|0]|?_];change iP _ _ [hX (.int r),hX (.int w)] H;lk;show%[#[4]|λp d=>%[!1,_,Qb.of aa,.int (mlt w),?_,.inr ?_,!1,#[26],_,EV ⋯ ⋯|c _ (ah.Qa d)]]
  all_goals
   unfold mlt;rcases(show w%4=0\/w%4=1\/w%4=2\/w%4=3 by lia)with e|e|e|e<;> rw[e]<;> first|rfl|decide
inductive EW (K:ZA)
 | mk (a:ku) (xs:ZL) (w:oT):vs=[.ref a,.int w]->Qb K H a (xs\4)-> ~~~xs=30->(∀x∈xs,0<=x/\x<6)->0<=w->w<=110->(∀l H' (cols:hH (hH jg)) (hi:jg),ah H H'->H l=hV->H' l<*(bK cols hi)\3->ic w cols hi->Q (.ref l) H')->EW K vs H Q E0
abbrev Mc(H:Hp)(cs:hH (ku×hH jg)):Prop:=∀p∈cs,H p.1∣.lst (p.2.map λx=>V.str (sgn x))
def G6.put{w:oT}{a i:jg}{c:hH jg}(h:∀(k x:jg),c[k]?∣x->(k<a->x=46)/\(a<=k->∃r:oT,0<=r/\r<16/\x=ltr r w))(g: ~~~c=i)(j:a<=i){r:oT}(b:0<=r)(d:r<16)(k x:jg)(e:(c++[ltr r w])[k]?∣x):(k<a->x=46)/\(a<=k->∃r:oT,0<=r/\r<16/\x=ltr r w):=by
 by_cases f:k< ~~~c
 .rw[Y9 f]at e;show h k x e
 .let:k= ~~~c:=by
   let:=(Xm e).1;simp at this
   lia
  subst this;rw[Ya ⋯,QF]at e;cases e;show%[λz=>by lia|λ_=>%[r,b,d|ρ]]
def AC:∀n:jg,(G2 n [V.str (!".")]).flatten=(G2 n 46).map λx=>V.str (sgn x)
 | 0=>rfl
 | n+1=>by rw[Rv,U7,AC n,Rv,Yq];rfl
def Cl(T:Txt K mg):Cal P w K mg base 2 "_law_cut" ["_law_digits_here","_law_way"] (EW K):=by
 .exists T.bv,cA,bc,hr,%[a,xs,w,rfl,hs,hx,hb,w0,w1|kk];let get:∀i:oT,0<=i->i<30->∃c,atI (xs\4) i∣V.int c/\0<=c/\c<6:=λi h0 h1=>by
   let%[c,e|hm]:=mo xs h0 (by lia -verbose);show%[c,e|hb c hm]
  let%[c0,g0,l0|u0]:=get 0 (!1) (!1);let%[c1,g1,l1|u1]:=get 1 (!1) (!1);show%[_,%["KCF2IdDIYQ0DDCF3IdDIYQ0DDC>4tuRBCS(A2BJ5CF6IYQ0IdD5Id3~h~iAl=5DBCF7IYQ0IdD5DCF8I]NRAVB6CS~jA6A3BJ9CXsn8AG~kA7A1BBEF7Id7IYQ0IdIdDI%D59DEXsnT4A8BEHqi?1(A3B]O0?2tu)~W~XVAqi?3UT1a0?4)Q0T1B",cA.nd,↑(["_law_k","_law_columns"],[(1,4)]),↑["_law_k","_law_columns"],↑(["_law_column","_law_k"],[(1,0)]),↑["_law_column","_law_k"]|hr]|?_]
  change aR _ _ _ [!a,hX (.int w),hV,hV,hV,hV,hV,hV,hV,hV] H;show aj λD1 k1 _=>?_
  lk;show%[_,hs,_,g0,!1|k1 _ _ (aj λD2 k2 _=>?_)];lk;show%[_,hs,_,g1,!1|k2 _ _ (aj λD3 k3 _=>?_)];obtain⟨O,ew,be,bf⟩:∃O:jg,1+c0%4=O/\1<=O/\O<=4:=%[(1+c0%4).toNat,(by lia -verbose),(by lia -verbose)|(by lia -verbose)]
  obtain⟨hi,eh,hi1,a6⟩:∃hi:jg,1+c1%5=hi/\1<=hi/\hi<=5:=%[(1+c1%5).toNat,(by lia -verbose),(by lia -verbose)|(by lia -verbose)]
  rw[ew,eh];clear ew eh;lk;show%[Xf _|λL hL=>k3 _ _ (aj λD4 k4 _=>ay λy hK=>?_)];lk;show%[(by lia -verbose),(by lia -verbose)|hK _ _ (cK (λi g l=>E6 λ(o5 o6 o7 o8 o9:lx V) (cs:hH (ku×hH jg))=>A7 (g=[!a,hX (.int w),hX (.int O),hX (.int hi),!L,o5,o6,o7,o8,o9]) (ah H l) (l L∣.lst (cs\0)) (~~~cs=i) (Mc l cs) (∀p∈cs,p.1≠L/\G6 w hi p.2) (∀p:ku×hH jg,cs[0]?∣p->∃r:oT,0<=r/\r<16/\p.2[hi-1]?∣ltr r w))
   %[_,_,_,_,_,[],ρ,ah.Qa hL,aa,ρ,(λ_ h=>nomatch h),(λ_ h=>nomatch h)|λ_ h=>nomatch h] ?_ ?_)]
  .intro j g l u %[o5,o6,o7,o8,o9,cs,rfl,sm,B,ac,ae,I|ag];change aR _ _ _ [!a,hX (.int w),hX (.int O),hX (.int hi),!L,hX (.int (0+j)),o6,o7,o8,o9] l;rw[Ps];let%[c2,g2,l2|u2]:=get (2+j) (by lia -verbose) (by lia -verbose);let%[c6,g6,l6|u6]:=get (6+j) (by lia -verbose) (by lia -verbose);show aj λD5 k5 _=>?_
   lk;obtain⟨u,ej,bl,bm⟩:∃u:jg,(hi+if decide (0<(j:oT))=hY then 1 else 0:oT)=u/\(j=0->u=hi)/\hi<=u:=by
    by_cases c:0<(j:oT)
    .show%[hi+1,by rw[lX (Zf c)];rfl,λe=>by lia -verbose|(by lia -verbose)]
    .show%[hi,by rw[kw ↑c];simp,λ_=>rfl|Zi _]
   let bt:u<=hi+1:=by split at ej<;> lia -verbose
   rw[ej];clear ej;show%[_,sm.seq hs,_,g2,(by lia -verbose)|k5 _ _ (aj λD6 k6 _=>?_)];obtain⟨d,ea,al⟩:∃d:jg,c2%(u:oT)=d/\d<u:=%[(c2%(u:oT)).toNat,by let:=NX c2 (b:=u) (by lia -verbose);lia -verbose|by let:=Px c2 (b:=u) (by lia -verbose);let:=NX c2 (b:=u) (by lia -verbose);lia -verbose]
   rw[ea];clear ea;lk;show%[_,sm.seq hs,_,g6,!1|k6 _ _ (aj λD7 k7 _=>?_)];lk;show%[#[1]|λp hp=> .inr %[_,aa,(by lia -verbose),(by lia -verbose),by rw[Yk];show Yf (aC (by lia -verbose))|λC hC=>k7 _ _ (aj λD8 k8 _=>ay λy hK=>?_)]];let s1:=(ah.Qa (o:= .lst [V.str (!".")]) hp).trans (ah.Qa (o:= .lst (G2 (d:oT).toNat [V.str (!".")]).flatten) hC);let fC:=(ah.Qa (o:= .lst [V.str (!".")]) hp).free hC;let a0:Qa (Qa l p (.lst [V.str (!".")])) C (.lst (G2 (d:oT).toNat [V.str (!".")]).flatten) C∣.lst ((G2 d 46).map λx=>V.str (sgn x)):=by
    rw[aa,OJ,AC]
   generalize Qa (Qa l p (.lst [V.str (!".")])) C _=H1 at s1 a0
   let a1:C≠L:=λe=>by rw[e,B]at fC;cases fC
   lk;show%[(by lia -verbose),(by lia -verbose),(by lia -verbose),(by lia -verbose)|hK _ _ (cK (λi g M=>E3 λ(r:oT) (o9:lx V) (c:hH jg)=>A7 (g=[!a,hX (.int w),hX (.int O),hX (.int hi),!L,hX (.int j),hX (.int d),hX (.int r),!C,o9]) (ah l M) (M C∣.lst (c.map λx=>V.str (sgn x))) (~~~c=d+i) (0<=r) (r<=3+2*i) (∀(k x:jg),c[k]?∣x->(k<d->x=46)/\(d<=k->∃r:oT,0<=r/\r<16/\x=ltr r w)))
    %[_,_,_,ρ,s1,a0,by simp,(by lia -verbose),(by lia -verbose)|λk x e=>?_] ?_ ?_)]
   .let:=Tx (a:=46) (n:=d) (i:=k);rw[e]at this
    split at this
    .cases this;show%[λ_=>rfl|λz=>by lia -verbose]
    .cases this
   .intro i g M hi2 %[r,o9,c,rfl,v,U,cl,r0,r1|Y];change aR _ _ _ [!a,hX (.int w),hX (.int O),hX (.int hi),!L,hX (.int j),hX (.int d),hX (.int r),!C,hX (.int (d+i))] M;show aj λD9 k9 _=>?_
    lk;let%[cd,gd,ld|ud]:=get (10+5*j+(d+i)) (by lia -verbose) (by lia -verbose);show%[tyL (Qb.of U),r,w,ρ,r0,(by lia -verbose),w0,w1|λH3 s3=>%[_,s3 _ _ U,by rw[Z6,cl];show aC (by lia -verbose)|k9 _ _ (aA λb0 bb _=>?_)]];let m:ah l (Qa H3 C (.lst ((c.map λx=>V.str (sgn x)) ++[V.str (sgn (ltr r w))]))):=ah.set (v.trans s3) fC;lk;show%[.inl %[!1|!1],_,(sm.trans m).seq hs,_,gd,!1|bb _ _ %[_,_,c++[ltr r w],ρ,m,by rw[aa,Zd];rfl,by rw[Z9,cl];rfl,(by lia -verbose),(by lia -verbose)|G6.put Y cl (by lia -verbose) r0 (by lia -verbose)]]
   .intro g M %[r,o9,c,rfl,v,U,cl,r0,r1|Y];show k8 _ _ (aA λD9 k9 _=>?_);lk;let b1: ~~~c=max d hi:=by lia -verbose
    show%[tyL (Qb.of (v _ _ B)),_,v _ _ B,by rw[Z6,ac];show aC (by lia -verbose)|k9 _ _ %[_,_,_,_,_,cs++[(C,c)],ρ,ah.set (sm.trans v) hL,by rw[aa,Zd];rfl,by rw[Z9,ac];rfl,λq N=>?_,λq N=>?_|λq N=>?_]]
    .rcases Xn N with z|z
     .rw[aq (I q z).1];show v _ _ (ae q z)
     .rw[Xo z,aq a1];show U
    .rcases Xn N with z|z
     .show I q z
     .rw[Xo z];show%[a1,by change ~~~c=hi;lia -verbose,d|Y]
    .by_cases j0:j=0
     .obtain rfl:cs=[]:=Ds.mp (by lia -verbose);cases N;let:=Y (hi-1) (c[hi-1]'(by lia -verbose)) (Z4 (by lia -verbose));let%[r,a,b|e]:=this.2 (by lia -verbose);show%[r,a,b|by rw[Z4 (by lia -verbose:hi-1< ~~~c),e]]
     .rw[Y9 (by lia -verbose)]at N;show ag q N
  .intro g l %[o5,o6,o7,o8,o9,cs,rfl,sm,B,ac,ae,I|ag];show k4 _ _ ?_;lk;show aL λy hK=>?_
   lk;let a2: ~~~cs=O:=by lia -verbose
   show%[(by lia -verbose),(by lia -verbose)|hK _ _ λF hF=>?_];show dJ (J:=Itr 0 hi) (n:=hi) (D:=F) (λq ts g M=>A4 (∃o,g=[o,!L]) (ah l M) (M F<*ts) (ts=((p0 q).map (qv (cs\2)))\3))
    %[%[hV|rfl],ah.Qa hF,aa|rfl] (λq _ _ l N _=>N) (λ_ _ l _=>Zi _) ?_ ?_
   .intro q ts g M N %[%[o|rfl],v,ak|ht] x H3 %[e2|e3];subst e2 e3;lk;show aL λy hK=>?_
    lk;let ab:=v _ _ B;show%[%[_|Qb.of ab]|hK _ _ λG hG=>?_];show dJ (J:=Itl K L) (n:=O) (D:=G) (λr zs g H4=>A4 (∃o,g=[o,hX (.int q)]) (ah H3 H4) (H4 G<*zs) (zs=(((cs.take r).map λp=>p.2.getD q 46).map sgn)\3))
     %[%[hV|rfl],ah.Qa hG,aa|rfl]
     (λr _ _ H4 a3 ⟨_,m,_,_⟩=>%[_,V.ref (cs[r]'(by lia -verbose)).1,Qb.of (m _ _ ab)|by simp[show r< ~~~cs by lia -verbose]]) (λ_ _ H4 ⟨_,m,_,_⟩=>%[_,Qb.of (m _ _ ab)|by simp[a2]]) ?_ ?_
    .intro r zs g H4 a3 %[%[o|rfl],m,an|hz] x H5 %[e2|hx];subst e2;let as:r< ~~~cs:=by lia -verbose
     let a4:=hx _ (Qb.of (m _ _ ab));rw[Zl,Z4 as]at a4;obtain rfl:x=V.ref cs[r].1:=(Za a4).symm;let hm:=Yd as;lk;show%[_,Qb.of (m _ _ (v _ _ (ae _ hm))),V.str (sgn (cs[r].2.getD q 46)),?_|CK.mk a3 an (by rw[hz,Z6,Z6,Z6,Yl];show aC (by lia -verbose)) %[%[_|ρ],ah.set m hG,aa|?_]]
     .show bu ?_;rw[Zl,mv (I _ hm).2.1 (by lia -verbose)];rfl
     .rw[hz,Xa,Zd,Zd,Zd,Z4 as];rfl
    intro zs g H4 %[_,m,an|hz];rw[Zn (by lia -verbose)]at hz;lk;show%[(cs.map λp=>p.2.getD q 46).map sgn,by rw[<-hz];show Qb.of an,?_|CK.mk N (m _ _ ak) (by rw[ht,Z6,Z6,Yj];show aC (by lia -verbose)) %[%[_|ρ],ah.set (v.trans m) hF,aa|?_]]
    .rw[Ac,Z6,Z6,show(!"").length=0 from rfl]
     lia -verbose
    .rw[ht,Pd,Zd,Zd,show Txt.join (!"") ((cs.map λp=>p.2.getD q 46).map sgn)=vj (!"") ((cs.map λp=>p.2.getD q 46).map sgn)from Ow _ _,yV];let e:qv (cs\2) q=⟨(cs.map λp=>p.2.getD q 46).toArray⟩:=by
      unfold qv;rw[Ys];rfl
     rw[<-e];rfl
   .intro ts g M %[_,v,ak|ht];let a5:0< ~~~cs:=by lia -verbose
    show kk F M (cs\2) hi (sm.trans v) (sm.free hF) (by rw[ak,ht];rfl) %[hi1,a6,by rw[Z6];lia -verbose,by rw[Z6];lia -verbose,λc hc=>?_,cs[0].2,by rw[Zl,Z4 a5];rfl|ag _ (Z4 a5)];let%[p,hp|rfl]:=Xp hc;show(I p hp).2
inductive uk
 | mk (z:lp):vs=[.str z]-> ~~~z<=1000->(∀H',ah H H'->Q (.bl (u8 z)) H')->uk vs H Q E0
inductive qw
 | mk (row above:lp):vs=[.str row,.str above]-> ~~~row<=1000-> ~~~above<=1000->(∀H',ah H H'->Q (.bl (fW row above)) H')->qw vs H Q E0
inductive kC (K:ZA)
 | mk (a:ku) (rows:ZB):vs=[.ref a]->Qb K H a (rows\3)->(rows.map (·.length)).sum<=3000->(∀r∈rows,r.cps.toList.all okc=hY)->(∀l H' (ss:ZB),ah H H'->H l=hV->H' l<*ss\3->ss.Perm (aY ((cU rows).map sgn))->Q (.ref l) H')->kC K vs H Q E0
inductive qx
 | mk (rows:ZB):vs=[.str (vj nl rows)]->cS rows->(∀l H',ah H H'->H l=hV->H' l<*rows\3->Q (.ref l) H')->qx vs H Q E0
def jX(z:lp)(i:jg)(c:jg)(h:z.cps[i]?∣c):(z.cps.toList.take i++[c])=z.cps.toList.take (i+1):=by
 let h':z.cps.toList[i]?∣c:=↑h
 let%[a|e]:=Xm h';rw[Oy a,e]
def EX(c d:jg):((⟨([c].toArray)⟩:lp)=⟨([d].toArray)⟩)↔c=d:=by
 constructor
 .intro h;let:(([c].toArray):on jg)= ([d].toArray):=by injection h
  simpa using this
 .intro h;rw[h]
def qy(c:jg):((⟨([c].toArray)⟩:lp)=!".")↔c=46:=EX c 46
def EY(T:Txt K mg):Cal P w K mg base 1 "is_row" ["row"] uk:=by
 .exists T.aZ,Cj,y,N,%[z,rfl,O|k];show%[_,%["KEH&~l~E~EDefA0B]P'~m~nAqi?1~o0a0?2)~plj0~K'l~*0~+B",0,↑(["sign"],[])|↑["sign"]]|?_];change iP _ _ [-z] H;lk;show%[cP ⋯|bv (λm=>bv (λp=>?_) λp=>?_) λm=>?_]
  .show aL λu B=>?_
   lk;show B _ _ λD v=>?_
   show dJ (J:=Its z) (n:=z.cps.size) (D:=D) (λi ys d a=>A4 (∃o,d=[o]) (ah H a) (a D<*ys) (ys=(z.cps.toList.take i).map (λc=>V.bl (okc c)))) %[%[hV|rfl],ah.Qa v,aa|rfl]
    (λi _ _ _ hi _=>hi) (λ_ _ _ _=>Zi _) ?_ ?_
   .intro i ys d a hi %[%[o|rfl],q,r|g] x C %[G,c,I|rfl];subst G;let j: ~~~ys=i:=by
     rw[g,Z6,Yl];let: ~~~z.cps.toList=z.cps.size:=by simp
     lia
    let L:i<1000:=by
     let: ~~~z=z.cps.size:=rfl
     lia
    let put:∀b:ri,b=okc c->CK D z.cps.size i (λi ys d a=>A4 (∃o,d=[o]) (ah H a) (a D<*ys) (ys=(z.cps.toList.take i).map (λc=>V.bl (okc c)))) ys [hX (.str ⟨([c].toArray)⟩)] (.bl b) C:=λb M=>
     CK.mk hi r (by rw[j];show aC ⋯) %[%[_|rfl],ah.set q v,aa|by rw[M,g,<-jX z i c I,Zd];rfl]
    lk;show bv (λl=>put hY ?_) λl=>put _ ?_
    .let:=(qy c).mp (Zo l);unfold okc;rw[Zf this,TK]
    .let l: ¬ (⟨([c].toArray)⟩:lp)=o0 ".":=λe=>l (Zf e)
     let: ¬ c=46:=λe=>l ((qy c).mpr e)
     unfold okc;rw[Zh this,Tr,uT];rfl
   .intro ys d a %[_,q,r|g];lk;show%[z.cps.toList.map okc,?_|?_]
    .let e:z.cps.toList.take z.cps.size=z.cps.toList:=by
      apply Zn;simp
     rw[e]at g;let:(z.cps.toList.map okc).map V.bl=ys:=by rw[g,Ys];rfl
     rw[this];show Qb.of r
    .let e:u8 z=(z.cps.toList.map okc).all id:=by
      unfold u8;rw[m,p,WD]
      all_goals rfl
     rw[<-e];show k a q
  .rw[Sd]at p;let e:u8 z=iv:=by unfold u8;rw[p,Ni,OA]
   rw[e]at k;show k H (ah.refl H)
  .rw[Sd]at m;let e:u8 z=iv:=by unfold u8;rw[m,OA,OA]
   rw[e]at k;show k H (ah.refl H)
abbrev og(p:jg×jg):ri:=!decide (p.2=46)||decide (p.1=46)
def qz(x y:lp)(i c d:jg)(b:x.cps[i]?∣c)(f:y.cps[i]?∣d):((Nw x.cps.toList y.cps.toList).take i++[(c,d)])=(Nw x.cps.toList y.cps.toList).take (i+1):=by
 let h:(Nw x.cps.toList y.cps.toList)[i]?∣(c,d):=Py.mpr %[↑b|↑f];let%[a|e]:=Xm h;rw[Oy a,e]
def qA(T:Txt K mg):Cal P w K mg base 1 "lies_beneath" ["row","above"] qw:=by
 .exists T.b0,oz,I,hr,%[row,a,rfl,L,M|k];show%[_,%["KCOL~,efA0BefA1BEHmPEH~m~nAqi?1~.A1A0BgMa0?2Ma1?2c)~pl+1~K'lj0~KB",0,↑(["high","low"],[])|↑["high","low"]]|?_]
  change aR _ _ _ [-row,-a] H;show aj λD1 k1 N=>?_
  lk;show%[cP ⋯,cP ⋯|bv (λj=>?_) λj=>?_]
  .let j: ¬ ((~~~row:oT)= ~~~a):=↑j
   let e:fW row a=iv:=by
    unfold fW;rw[Zh ⋯,OA]
   rw[e]at k;show N _ _ (k H (ah.refl H))
  .let j: ~~~row= ~~~a:=by
    let:(~~~row:oT)= ~~~a:=↑j
    lia
   show k1 _ _ ?_;let u:row.cps.size=a.cps.size:=j;let v: ~~~(Nw a.cps.toList row.cps.toList)=a.cps.size:=by rw[TZ];simp[u]
   lk;show aL λB O=>?_
   lk;show O _ _ λD C=>?_
   show dJ (J:=Itz a row) (n:=a.cps.size) (D:=D) (λi ys l g=>A4 (E2 λq r=>l=[q,r]) (ah H g) (g D<*ys) (ys=((Nw a.cps.toList row.cps.toList).take i).map (λp=>V.bl (og p)))) %[%[hV,hV|rfl],ah.Qa C,aa|rfl]
    (λi _ _ _ hi _=>%[hi|⋯]) (λ_ _ _ _=>%[Zi _,⋯|.inl rfl]) ?_ ?_
   .intro i ys l g hi %[%[q,r|rfl],y,z|m] x H2 %[c,d,TT,U,Y,G,rfl|rfl];let o: ~~~ys=i:=by rw[m,Z6,Yl,v];lia
    let ab:i<1000:=by
     let: ~~~a=a.cps.size:=rfl
     lia
    let put:∀b:ri,b=og (c,d)->CK D a.cps.size i (λi ys l g=>A4 (E2 λq r=>l=[q,r]) (ah H g) (g D<*ys) (ys=((Nw a.cps.toList row.cps.toList).take i).map (λp=>V.bl (og p)))) ys [hX (.str ⟨([c].toArray)⟩),hX (.str ⟨([d].toArray)⟩)] (.bl b) (Qa g TT (.tup [.str ⟨([c].toArray)⟩,.str ⟨([d].toArray)⟩])):=λb eb=>
     CK.mk hi (ah.Qa G _ _ z) (o▸aC ⋯) %[%[_,_|rfl],ah.set (y.trans (ah.Qa G)) C,aa|by rw[eb,m,<-qz a row i c d U Y,Zd];rfl]
    lk;show%[_,SqT.of aa,ρ,_,_,ρ,_,_,ρ,ρ,ρ|?_];simp only[V.str.injEq,qy];show bv (λh=>put hY ?_) λh=>%[⟨⟩|put _ ?_]
    .unfold og;rw[h,TK]
    .unfold og;rw[Sd]at h;rw[h,Tr]
   .intro ys l g %[_,y,z|m];lk;show%[(Nw a.cps.toList row.cps.toList).map og,?_|?_]
    .let e:(Nw a.cps.toList row.cps.toList).take a.cps.size=Nw a.cps.toList row.cps.toList:=Zn ⋯;rw[e]at m;let:((Nw a.cps.toList row.cps.toList).map og).map V.bl=ys:=by rw[m,Ys];rfl
     rw[this];show Qb.of z
    .let e:fW row a=((Nw a.cps.toList row.cps.toList).map og).all id:=by
      unfold fW;rw[Zf j,WD,Wo];rfl
     show e▸k g y
def Cm(h:(rows.map (·.length)).sum<=3000):(vj (!"") rows).length<=3000:=by
 let:=Ta (!"") rows;rw[show(!"").length=0 from rfl]at this
 lia
def mw(T:Txt K mg):Cal P w K mg base 1 "letters_in" ["rows"] (kC K):=by
 .exists T.b1,rR,M,hr,%[a,rows,rfl,N,g,v|k];show%[_,%["KEH,~/A~L~qAqi?1~o~W~XVA0Ba0?2zL+0~K0BB",0,↑(["sign"],[])|↑["sign"]]|?_];change iP _ _ [!a] H;lk;show aL λC O=>?_
  lk;show%[rows,N,by rw[show(!"").length=0 from rfl];lia|?_];rw[show Txt.join (!"") rows=vj (!"") rows from Ow _ _];let j:=Cm g;let b:=jV v;unfold cU at b k
  generalize vj (!"") rows=z at j b k ⊢
  show O _ _ λD G=>?_
  show dJ (J:=Its z) (n:=z.cps.size) (D:=D) (λi ys y m=>A4 (∃o,y=[o]) (ah H m) (m D<*ys) (ys=((z.cps.toList.take i).filter (λc=>decide (c≠46))).map (λc=>V.str (sgn c)))) %[%[hV|rfl],ah.Qa G,aa|rfl]
   (λi _ _ _ hi _=>hi) (λ_ _ _ _=>Zi _) ?_ ?_
  .intro i ys y m hi %[%[o|rfl],r,u|d] x H2 %[U,c,I|rfl];subst U;let L: ~~~ys<=i:=by
    rw[d,Z6];let:=Yi (λc=>decide (c≠46)) (z.cps.toList.take i);rw[Yl]at this
    lia
   let Y:i<3000:=by
    let: ~~~z=z.cps.size:=rfl
    lia
   lk;simp only[qy];show bv (λB=>?_) λB=>?_
   .show CK.mk hi u (aC ⋯) %[%[_|rfl],ah.set r G,aa|?_];rw[<-jX z i c I,Y2,Zd,d];let:decide (c≠46)=hY:=↑B
    rw[Y3,this];rfl
   .show CN.mk hi %[%[_|rfl],r,u|?_];rw[<-jX z i c I,Y2,Zd,d];let:decide (c≠46)=iv:=↑B
    rw[Y3,this];simp
  .intro ys y m %[_,r,u|d];let e:z.cps.toList.take z.cps.size=z.cps.toList:=by
    apply Zn;simp
   rw[e]at d;lk;let ab:=Yi (λc=>decide (c≠46)) z.cps.toList;let ac: ~~~z.cps.toList= ~~~z:=by simp[U1]
   show%[(z.cps.toList.filter (λc=>decide (c≠46))).map sgn,?_,by rw[Z6];lia|λS hS=>%[_,aa,?_|λl ss p hp ae=>?_]]
   .rw[Ys];let:(z.cps.toList.filter (λc=>decide (c≠46))).map (V.str ∘ sgn)=ys:=by rw[d];rfl
    rw[this];show Qb.of u
   .let:=kI b
    lia
   .let q:ah H (Qa m S (mW w S (aY ((z.cps.toList.filter (λc=>decide (c≠46))).map sgn)))):=r.trans (ah.Qa hS);show k l _ ss (q.trans (ah.Qa p)) (q.free p) aa hp
def nh(T:Txt K mg):Cal P w K mg base 2 "rows_of" ["text"] qx:=by
 .exists T.aY,i7,an,M,%[rows,rfl,a|k];let%[wd,w1,w2|hw]:=a.wide;let N:=a.text;let u:=a.split;show%[_,%["KCOoZwxA0A?1BE.PCF1~:~;0AVBCS|A1BgMJ2MJ3cCOhpLj2]QvoZG]RA3BE.PEOh/L=2D^oZG]SA3AQ1I~M2DBE.PCOL:efAG~<A1BBDE.PEH1",i7.nd,(blE (v:= .ty "str") rfl T.ab VF rfl rfl rfl)|M]|?_]
  generalize vj nl rows=z at N u
  change aR _ _ _ [-z,hV,hV,hV] H;show aj λD1 k1 _=>?_
  lk;show%[.type "str",.str z,hY,by rfl|mT (k1 _ _ (aj λD2 k2 _=>?_))];lk;show%[!1,nI (by lia: ~~~z+2<=5000) (!1)|λl hl=>k2 _ _ ?_];rw[show(!"\n")=nl from rfl,u];show aj λD3 k3 _=>ay λag hK=>?_
  lk;let O:ah H (Qa H l (.lst (rows\3))):=ah.Qa hl;show%[_,Qb.of aa|hK _ _ (fU (λi J g=>E2 λU Y=>A3 (J=[-z,!l,U,Y]) (ah H g) (g l<*rows\3)) %[hV,hV,ρ,O|aa] (λi J g _ ⟨_,_,_,_,q⟩=>Qb.of q) ?_ ?_)]
  .intro i x TT J g y %[U,Y,rfl,sm|j] hT;obtain⟨r,m,rfl⟩:∃r,rows[i]?∣r/\x=V.str r:=by
    rw[Zl]at y;cases e:rows[i]? with
    | none=>rw[e]at y;cases y
    | some r=>rw[e]at y;show%[r,ρ|(Za y).symm]
   let ak:i< ~~~rows:=(Xm m).1;let al:=a.high;let B:ah H (Qa g TT (.tup [.int i,.str r])):=sm.trans (ah.Qa hT);let o:Qa g TT (.tup [.int i,.str r]) l<*rows\3:=ah.Qa hT _ _ j;let C:Qa g TT (.tup [.int i,.str r]) TT&&&[.int i,.str r]:=aa
   generalize Qa g TT _=HT at B o C
   let G: ~~~r<=1000:=by
    let: ~~~r=wd:=hw r (Z8 m)
    lia
   show%[_,SqT.of C,ρ,_,_,ρ,_,_,ρ,ρ|?_];change aR _ _ _ [-z,!l,hX (.int i),-r] HT;show aj λD4 k4 _=>?_
   let go:∀p,ah HT p->D4.nx [-z,!l,hX (.int i),-r] p:=by
    intro p b;show k4 _ _ (aA λD5 k5 _=>?_);let fin:∀L,ah HT L->D5.nx [-z,!l,hX (.int i),-r] L:=λL n=>k5 _ _ %[_,_,rfl,B.trans n|n l _ o]
    lk;show bv (λI=>?_) λ_=>fin _ b
    let I:0<(i:oT):=Zo I;obtain⟨d,rfl⟩:∃d,i=d+1:=%[i-1|⋯]
    let ab:d< ~~~rows:=by lia
    let ac:rows[d]?∣rows[d]:=by simp
    let e1:(((d+1:jg):oT) -1)=(d:oT):=by lia
    show%[_,Qb.of (b l _ o),.str rows[d],e1▸bu ∅,r,rows[d],ρ,G,?_|λL n=>?_]
    .let:rows[d].length=wd:=hw _ (Yd ab)
     lia
    .rw[a.beneath ac m];show fin _ (b.trans n)
   lk;rw[kw ⋯];show%[r,ρ,G|λp b=>?_];rw[a.row (Z8 m)];show go p b
  .intro J g %[U,Y,rfl,sm|j];show k3 _ _ ?_;lk;show%[l,rows,ρ,Qb.of j,by let:=a.sum;lia,a.sign|λl2 p ss b as ae I=>%[_,.inl %[_,Qb.of ae|ρ]|?_]];rw[kw]
   .show k l p (sm.trans b) hl (b l _ j)
   .intro h0;let h0:=Zo h0;rw[Z6]at h0;let:ss=[]:=Ds.mp ⋯;rw[this]at I;let hm:=I.symm.eq_nil;let%[c|hc]:=Td _ a.signs_ne;let:sgn c∈aY ((cU rows).map sgn):=a8.mpr (Xq %[c,hc|rfl]);rw[hm]at this;cases this
abbrev ig(p:jg×jg):lx ZB:=if p.1≠46/\p.1≠p.2 then hX [sgn p.1,sgn p.2]else hV
abbrev qB(u r:lp):hH ZB:=(Nw u.cps.toList r.cps.toList).filterMap ig
def eV(H:Hp):aE H []:=λp a=>by cases a
def az(h:aE H ps)(s:∀b z,H b&&&z->c b&&&z):aE c ps:=λp a=>%[(h p a).1|s _ _ (h p a).2]
def fO(h:aE H ps)(a:q.2≠[])(b:H q.1&&&q.2\3):aE H (ps++[q]):=λp c=>by
 rcases Xn c with z|z
 .show h p z
 .rw[Xo z];show%[a|b]
def qC(a:aE H ps)(b:aE H qs):aE H (ps++qs):=λp c=>(Xn c).elim (a p) (b p)
inductive Ic
 | mk (u r:lp):vs=[.str u,.str r]-> ~~~u<=40-> ~~~r= ~~~u->(∀l H' ps,ah H H'->H l=hV->H' l∣.lst (ps\0)->aE H' ps->ps\2=qB u r->Q (.ref l) H')->Ic vs H Q E0
inductive AD
 | mk (rows:ZB):vs=[.str (vj nl rows)]->cS rows->(∀l H' (ss:ZB),ah H H'->H l=hV->H' l<*ss\3->ss.Perm (aY ((cU rows).map sgn))->Q (.ref l) H')->AD vs H Q E0
def Cn(T:Txt K mg):Cal P w K mg base 3 "letters" ["text"] AD:=by
 .exists T.b2,zB,d,b,%[rows,rfl,a|e];show%[_,%["KEHG~<AG~=A0BB",0|b],rows,ρ,a|λl q c r g=>%[l,rows,ρ,Qb.of g,by let:=a.sum;lia,a.sign|λi j ss m n o p=>e i j ss (c.trans m) (c.free n) o p]]
def kQ(T:Txt K mg):Cal P w K mg base 1 "meetings_between" ["above","row"] Ic:=by
 .exists T.b4,kf,ac,hr,%[u,r,rfl,hu,ae|kk];let ag: ~~~u=u.cps.size:=rfl;let ak: ~~~r=r.cps.size:=rfl;show%[_,%["KEHqi?1~.A0A1BgMa0?2Ma1?2czh/L+0~K^L+01bA0A1B",0,↑(["high","low"],[])|↑["high","low"]]|?_];change iP _ _ [-u,-r] H;lk;show aL λab hK=>?_
  lk;show hK _ _ λD O=>?_
  show dJ (J:=Itz u r) (n:=u.cps.size) (D:=D) (λi ys U l=>A5 (E2 λo1 o2=>U=[o1,o2]) (ah H l) (l D<*ys) (~~~ys<=i) (∃ps:ZG,A3 (ys=ps\0) (aE l ps) (ps\2=((Nw u.cps.toList r.cps.toList).take i).filterMap ig)))
   %[%[hV,hV|rfl],ah.Qa O,aa,Zi _,[],rfl,eV _|rfl] (λi _ _ _ hi _=>%[hi|⋯]) (λ_ _ _ _=>%[Zi _,⋯|.inl rfl]) ?_ ?_
  .intro i ys U l hi %[%[o1,o2|rfl],Y,hl,I,ps,L,m|j] x H2 %[c,d,TT,hc,hd,hT,rfl|rfl];let v:=ah.Qa (o:= .tup [.str ⟨([c].toArray)⟩,.str ⟨([d].toArray)⟩]) hT;let nx:=qz u r i c d hc hd;let a:=v _ _ hl;let C:Qa l TT (.tup [.str ⟨([c].toArray)⟩,.str ⟨([d].toArray)⟩]) TT&&&[.str ⟨([c].toArray)⟩,.str ⟨([d].toArray)⟩]:=aa;let g:aE (Qa l TT (.tup [.str ⟨([c].toArray)⟩,.str ⟨([d].toArray)⟩])) ps:=λp G=>%[(m p G).1|v _ _ (m p G).2]
   let y:=Y.trans v
   generalize Qa l TT _=HT at v a C g y
   show%[_,SqT.of C,ρ,_,_,ρ,_,_,ρ,ρ|?_];change FO _ _ [hX (.str ⟨([c].toArray)⟩),hX (.str ⟨([d].toArray)⟩)] HT _;lk;simp only[qy,EX];let al:D≠TT:=λe=>by rw[e,C]at a;cases a
   show bv (λM=>bv (λN=>?_) λN=>?_) λM=>?_
   .let M:c≠46:=↑M
    let N:c≠d:=↑N
    show%[show 2<=md from !1|λp G=>?_];let B:=ah.Qa (o:= .tup [V.str ⟨([c].toArray)⟩,V.str ⟨([d].toArray)⟩]) G;let an:p≠D:=λe=>by rw[e,a]at G;cases G
    show CK.mk hi (B _ _ a) (aC ⋯) %[%[_,_|rfl],ah.set (y.trans B) O,aa,by rw[Z9,Yk];lia,ps++[(p,[sgn c,sgn d])],by rw[L,Zd];rfl,?_|?_]
    .let keep:∀b z,Qa HT p _ b&&&z->Qa _ D (.lst (ys++[V.ref p])) b&&&z:=λb z e=>by
      let:b≠D:=λe2=>by rw[e2,B _ _ a]at e;cases e
      rw[aq this];show e
     show az (fO (az g λb z e=>B _ _ e) ∅ (by rw[aa];rfl)) keep
    .rw[Zd,j,<-nx,Y0];let:ig (c,d)∣[sgn c,sgn d]:=lX %[M|N];rw[Y1,this];rfl
   .show CN.mk hi %[%[_,_|rfl],y,a,⋯,ps,L,g|?_];rw[j,<-nx,Y0];let:ig (c,d)=hV:=kw λq=>q.2 ↑N
    rw[Y1,this];simp
   .show CN.mk hi %[%[_,_|rfl],y,a,⋯,ps,L,g|?_];rw[j,<-nx,Y0];let:ig (c,d)=hV:=kw λq=>q.1 ↑M
    rw[Y1,this];simp
  .intro ys U l %[_,Y,hl,I,ps,L,m|j];rw[Zn (by rw[TZ];simp;lia)]at j;show kk D l ps Y O (by rw[hl,L]) m j
def xq{K:ZA}{xs ys:ZM}{g:TG}{q:TS}{D:jr}(Pv:jg->St->Hp->Prop)(s:Pv 0 c H)(u: ~~~ys<= ~~~xs)(z:∀i c H,i<= ~~~ys->Pv i c H->Qb K H a xs/\Qb K H b ys)
 (A:∀i x y T c H,xs[i]?∣x->ys[i]?∣y->Pv i c H->H T=hV->g (.ref T) c (Qa H T (.tup [x,y])) λd j=>q {D with nx:=Pv (i+1),ct:=Pv (i+1),bk:=D.nx} d j) (B:∀c H,Pv ys.length c H->D.nx c H):
 ∃W:jg->jg->St->Hp->Prop,(∃m,W 0 m c H)/\∀i m c H,W i m c H->
  ((B0 K a b).stop i H/\D.nx c H)\/((B0 K a b).go i H/\∃N:St->Hp->Prop,(∀f h,N f h->∃r,r<m/\W (i+1) r f h)/\∀x h,(B0 K a b).yld i H x h->g x c h λd j=>q {D with nx:=N,ct:=N,bk:=D.nx} d j):=by
 show%[λi m c H=>m= ~~~ys-i/\i<= ~~~ys/\Pv i c H,%[~~~ys,by simp,Xf _|s]|?_];intro i m c H %[rfl,hi|p];let%[l|n]:=z i c H hi p;by_cases o:i< ~~~ys
 .let C:xs[i]?∣xs[i]:=by simp[show i< ~~~xs by lia]
  let E:ys[i]?∣ys[i]:=by simp
  show .inr %[%[xs,ys,_,_,l,n,C|E],Pv _,λf h G=>%[~~~ys-(i+1),⋯,rfl,o|G]|λv h y=>?_];let%[T,I,J,L,rfl,rfl,M|O]:=y;show A i I J T c H (M xs l) (O ys n) p L
 .let e:i= ~~~ys:=by lia
  subst e;show .inl %[%[xs,ys,l,n,⋯,Zi _|.inr rfl]|B c H p]
abbrev bU(rows:ZB)(i:jg):hH ZB:=(p0 i).flatMap λj=>qB (rows.getD j ⟨([].toArray)⟩) (rows.getD (j+1) ⟨([].toArray)⟩)
def mx(rows:ZB)(i:jg):bU rows (i+1)=bU rows i++qB (rows.getD i ⟨([].toArray)⟩) (rows.getD (i+1) ⟨([].toArray)⟩):=by
 unfold bU;rw[Pd,O3];simp
def zE(u r:lp): ~~~(qB u r)<= ~~~u:=by
 show nI (Oj _ _) ?_;rw[TZ];let: ~~~u.cps.toList= ~~~u:=by simp[U1]
 lia
def ni(h:k∈bU rows (~~~rows-1)):∃a b,k=[sgn a,sgn b]/\zy rows a b:=by
 let%[j,d|g]:=ME.mp h;let f:∀j h,rows.getD j ⟨([].toArray)⟩=rows[j]:=λj h=>by simp[h]
 let d:=yc.mp d;let%[%[a|b],i|e]:=M6.mp g;unfold ig at e
 split at e
 .rename_i h
  let%[q|c]:=Xg i;rw[Py,f j ⋯,f _ ⋯]at c;show%[a,b,(Za e).symm,h.1,h.2,j,q,rows[j],rows[j+1],Z4 _,Z4 _,by simpa using c.1|by simpa using c.2]
 .lia
def uq(m:cS rows)(h:zy rows a b):Let rows a/\Let rows b:=by
 let%[n1,n,i,j,r,c,d,f,g|l]:=h;show%[%[n1,r,Z8 d|Z8 ↑g],λe=>n1 (m.fall i r c d f j a b g l e),c,Z8 f|Z8 ↑l]
def ur(rows:ZB)(h:rows≠[]):kb (rows\3) (hX 1) hV=(rows.drop 1)\3:=by
 unfold kb;rw[_HT.sIx_none,show(hX (1))∣((1:jg):oT)from rfl,_HT.sIx_nat,Z6,Ry (NF.mpr h),<-Wk,<-Wj];rw[Zn (Yh▸Zi _)]
inductive AE
 | mk (rows:ZB):vs=[.str (vj nl rows)]->cS rows->rO rows->(∀l H' ss,ah H H'->H l=hV->H' l∣.lst (ss\0)->aE H' ss-> ~~~ss<=60->(∀t∈ss,∃a b,t.2=[sgn a,sgn b]/\Let rows a/\Let rows b)->(∀k,k∈ss\2↔k∈bU rows (~~~rows-1))->Q (.ref l) H')->AE vs H Q E0
def zF(T:Txt K mg):Cal P w K mg base 3 "meetings" ["text"] AE:=by
 show T.b3.cal eT (λH vs Q E h=>?_)
 .let%[rows,rfl,c,%[mm,ml|a6]|kk]:=h;show%[ρ|λf b1 A outer s hr=>?_];let%[wd,w1,w2|ab]:=c.wide;let hp:1<= ~~~rows:=c.pos;let bm:=c.high;let bb:rows≠[]:=NF.mp hp;show%[_,%["KCF1G~=A0BCF2RBCS~>A1A~r1}D[BgMJ3MJ4cEX~Y~Z2AG]TA3A4BBEH,~^A~L~_A2BB",eT.nd|hr]|?_]
  change aR _ _ _ [hX (.str (vj nl rows)),hV,hV,hV,hV] H;show aj λD1 k1 r1=>?_
  lk;show%[rows,ρ,c|λR H1 s1 f1 hR=>k1 _ _ (aj λD2 k2 r2=>?_)];lk;show%[Xf _|λL hL=>k2 _ _ (aj λD3 k3 r3=>ay λbt hK=>?_)];let s2:=ah.Qa (o:= .lst []) hL;let G:=s2 _ _ hR;let I:Qa H1 L (.lst []) L<*[]:=aa;let fL:H L=hV:=s1.free hL;let ac:=s1.trans s2
  generalize Qa H1 L _=H2 at s2 G I ac
  lk;show%[_,Qb.of G|λp hp=>?_];rw[ur rows bb];let s3:=ah.Qa (o:= .lst ((rows.drop 1)\3)) hp;let J:=s3 _ _ G;let ae:=s3 _ _ I;let M:Qa H2 p (.lst ((rows.drop 1)\3)) p<*(rows.drop 1)\3:=aa;let ag:=ac.trans s3;let bc:L≠R:=λe=>by rw[e,hR]at hL;cases hL
  let be:p≠L:=λe=>by rw[e,I]at hp;cases hp
  generalize Qa H2 p _=H3 at s3 J ae M ag
  show%[%[_|Qb.of J],%[_|Qb.of M]|hK _ _ (xq (xs:=rows\3) (ys:=(rows.drop 1)\3) (λi σ l=>A5 (E2 λo3 o4=>σ=[hX (.str (vj nl rows)),!R,!L,o3,o4]) (ah H l) (l R<*rows\3) (l p<*(rows.drop 1)\3) (∃ps:ZG,A4 (l L∣.lst (ps\0)) (aE l ps) (ps\2=bU rows i) (~~~ps<=40*i))) %[%[hV,hV|ρ],ag,J,M,[],ae,eV _,ρ|Xf _] (by rw[Z6,Z6,Yh];lia) (λi σ l _ q=>%[Qb.of q.3|Qb.of q.4]) ?_ ?_)]
  .intro i x y TT σ l hx hy %[%[o3,o4|rfl],sm,ak,al,ps,N,g,n|an] hT;rw[Zl]at hx hy;let%[u,hu|rfl]:=Mu.mp hx;let%[r,B|rfl]:=Mu.mp hy;rw[Yb,Ue]at B;let b2:i+1< ~~~rows:=(Xm B).1;let ul: ~~~u=wd:=ab u (Z8 hu);let rl: ~~~r=wd:=ab r (Z8 B);let j:=ah.Qa (o:= .tup [V.str u,V.str r]) hT;let as:Qa l TT (.tup [V.str u,V.str r]) TT&&&[V.str u,V.str r]:=aa;let a0:=j _ _ ak;let a1:=j _ _ al;let v:=j _ _ N;let C:aE (Qa l TT (.tup [V.str u,V.str r])) ps:=az g λb z e=>j _ _ e
   let a2:=sm.trans j
   generalize Qa l TT _=HT at j as a0 a1 v C a2
   show%[_,SqT.of as,ρ,_,_,ρ,_,_,ρ,ρ|?_];show aA λD4 k4 r4=>?_
   lk;show%[tyL (Qb.of v),u,r,ρ,⋯,⋯|λl4 H4 ps4 Y f4 h4 a3 e4=>?_];let b3:l4≠L:=λe=>by rw[e,v]at f4;cases f4
   let b0: ~~~ps4<=40:=by
    let: ~~~(ps4\2)= ~~~(qB u r):=by rw[e4]
    rw[Z6]at this;let:=zE u r
    lia
   show%[_,Y _ _ v,_,h4,by rw[Z6,Z6];show cP ⋯|k4 _ _ ?_];let O:∀b z,H4 b&&&z->Qa H4 L (.lst ((ps\0) ++ps4\0)) b&&&z:=λb z e=>by
    let:b≠L:=λe2=>by rw[e2,Y _ _ v]at e;cases e
    rw[aq this];show e
   let bf:R≠L:=I0 bc;show%[%[_,_|ρ],λb u' e=>?_,(aq bf)▸Y _ _ a0,(aq be)▸Y _ _ a1,ps++ps4,by rw[aa,Zd],az (qC (az C λb z e=>Y _ _ e) a3) O,?_|by rw[Z9];lia]
   .rw[aq (ax e fL)];show Y _ _ (a2 _ _ e)
   .rw[Zd,n,e4,mx];let g1:rows.getD i ⟨([].toArray)⟩=u:=by rw[Zc,hu];rfl
    let g2:rows.getD (i+1) ⟨([].toArray)⟩=r:=by rw[Zc,B];rfl
    rw[g1,g2]
  .intro σ l %[%[o3,o4|rfl],sm,ak,al,ps,N,g,n|an];rw[Z6,Yh]at n;show k3 _ _ ?_;lk;let U:∀q∈ps,∃a b,q.2=[sgn a,sgn b]/\zy rows a b:=λq d=>ni (n▸Xq %[q,d|rfl])
   let a4:∀q∈ps,q.2∈mm:=λq d=>by
    let%[a,b,e|h]:=U q d;rw[e];show a6 a b h
   show%[ps,Qb.of N,g,%[mm,⋯|a4]|λl5 bl=>?_];let s5:=ah.Qa (o:=pS P w l5 (bE ps)) bl;let few: ~~~(bE ps)<=60:=by
    let:=_ST.nodup_sub (eL ps) (m:=mm) λk hk=>by
     let%[q,d|rfl]:=Xp hk;show a4 q (br ps q d)
    rw[Z6]at this
    lia
   show%[bE ps,aa,λq d=>%[(g q (br ps q d)).1|s5 _ _ (g q (br ps q d)).2],2,λq d=>?_,!1,⋯|λl6 ss a5 pm=>?_]
   .let%[a,b,e|_]:=U q (br ps q d);rw[e];rfl
   let s6:=ah.Qa (o:= .lst (ss\0)) a5;show kk l6 _ ss ((sm.trans s5).trans s6) ((sm.trans s5).free a5) aa (λq d=>?_) (pm.length_eq▸few) (λq d=>?_) λk=>?_
   .let:=g q (br ps q (pm.mem_iff.mp d));show%[this.1|s6 _ _ (s5 _ _ this.2)]
   .let%[a,b,e|h]:=U q (br ps q (pm.mem_iff.mp d));show%[a,b,e|uq c h]
   .rw[(pm.map _).mem_iff,iZ,n]
abbrev gE(z:lp):ri:=(decide (1<=(~~~z:oT))&&decide ((~~~z:oT)<=8))&&z.cps.toList.all fV
inductive qD
 | mk (z:lp):vs=[.str z]->gE z=hY->(∀H',ah H H'->Q (.bl hY) H')->qD vs H Q E0
inductive xt (K:ZA)
 | mk (z:lp) (p:ku) (ts:ZB):vs=[.str z,.ref p]->(Qb K H p (ts\3)\/SqT K H p (ts\3))->Q (.bl (decide (z∈ts))) H->xt K vs H Q E0
inductive qF
 | mk (i:oT):vs=[.int i]-> -9999<=i->i<=9999->Q (.bl hY) H->qF vs H Q E0
abbrev my(c:ZB)(vs:ZM):Prop:=
 (∃w a b:lp,vs=[.str w,.str a,.str b]/\(w="later"\/w="same")/\a∈c/\b∈c/\a≠b)\/
 ∃w a y,vs=[.str w,.str a,.int y]/\(w="since"\/w="by")/\a∈c/\ -9999<=y/\y<=9999
inductive mB (K:ZA)
 | mk (t p xs ls):vs=[.ref t,.ref p]->H t&&&xs->Qb K H p (ls\3)->my ls xs->Q (.bl hY) H->mB K vs H Q E0
abbrev lnS(n z:lp):lp:=Mi++n++o0 "."++z
inductive kD
 | mk (n z:lp):vs=[.str n,.str z]-> ~~~n<=100-> ~~~z<=100->Q (.str (lnS n z)) H->kD vs H Q E0
def G7(z:lp)(ts:ZB):inV (V.str z) (ts\3)=decide (z∈ts):=by
 unfold inV
 induction ts with
 | nil=>rfl
 | cons c r a=>
   change((c==z)||_)=_
   grind
def Co(ts:ZB):(ts\3).all kh=hY:=by simp[kh]
def Cp(T:Txt K mg):Cal P w K mg base 1 "is_name" ["thing"] qD:=by
 .exists T.aX,zA,y,N,%[z,rfl,B|k];show%[_,%["KCOoZwxA0A?1BEHmPEH&~l~E~EDefA0B]U'~m~nAqi?2~o0a0?3)l~*0~+B",0,(blE (v:= .ty "str") rfl T.ab VF rfl rfl rfl),↑(["sign"],[])|↑["sign"]]|?_]
  change aR _ _ _ [-z] H;let a:=B;unfold gE at a;rw[Zv,Zv]at a;let%[%[C|q]|b]:=a;let O: ~~~z<=8:=by let:=Zo q;lia
  lk;show%[.type "str",.str z,hY,by rfl|?_];lk;show%[cP ⋯|?_];rw[lX C,lX q];show aL λr G=>?_
  lk;show G _ _ λD u=>?_
  show dJ (J:=Its z) (n:=z.cps.size) (D:=D) (λi ys l d=>A4 (∃o,l=[o]) (ah H d) (d D<*ys) (ys=(z.cps.toList.take i).map (λc=>V.bl (fV c)))) %[%[hV|rfl],ah.Qa u,aa|rfl]
   (λi _ _ _ hi _=>hi) (λ_ _ _ _=>Zi _) ?_ ?_
  .intro i ys l d hi %[%[o|rfl],m,p|g] x U %[I,c,L|rfl];subst I;lk;let j: ~~~ys=i:=by
    rw[g,Z6,Yl];let: ~~~z.cps.toList=z.cps.size:=by simp
    lia
   let M:i<1000:=by
    let: ~~~z=z.cps.size:=rfl
    lia
   show CK.mk hi p (j▸aC ⋯) %[%[_|rfl],ah.set m u,aa|?_];rw[uT,g,<-jX z i c L,Zd]
   all_goals rfl
  .intro ys l d %[_,m,p|g];show%[(z.cps.toList.map fV),?_|?_]
   .let e:z.cps.toList.take z.cps.size=z.cps.toList:=by
     apply Zn;simp
    rw[e]at g;let:(z.cps.toList.map fV).map V.bl=ys:=by rw[g,Ys];rfl
    rw[this];show Qb.of p
   .let e:(z.cps.toList.map fV).all id=hY:=by
     rw[WD];show b
    rw[e];show k d m
def c7(T:Txt K mg):Cal P w K mg base 1 "is_text_among" ["thing","texts"] (xt K):=by
 .exists T.ba,m9,a,c,%[z,p,ts,rfl,b|k];show%[_,%["KEH&wxA0A?1B'l]V01",0|(blE (v:= .ty "str") rfl T.ab VF rfl rfl rfl)]|?_];change iP _ _ [hX _,hX _] H;lk;show%[.type _,.str z,hY,by rfl|?_];rw[<-G7]at k;show%[_,b,ρ,Co ts|k]
def Cq(T:Txt K mg):Cal P w K mg base 1 "is_year" ["thing"] qF:=by
 .exists T.bb,zC,a,d,%[i,rfl,b,c|k];show%[_,%["KCOhpoZwxA0A?1BvZwxA0A?2BEHmPEH~l~E~E]W0]X",0,(blE (v:= .ty "int") rfl T.ah boot_int rfl rfl rfl)|(blE (v:= .ty "bool") rfl T.ai boot_bool rfl rfl rfl)]|?_]
  change aR _ _ _ [hX (.int i)] H;lk;show%[.type _,.int i,hY,by rfl,.type _,.int i,iv,by rfl|?_];rw[lX (Zf b),Zf c];show k
def i9(T:Txt K mg):Cal P w K mg base 1 "layer_name" ["name","letter"] kD:=by
 .exists T.bc,rS,d,j,%[n,z,rfl,l,m|k];show%[_,%["KEH~|~N~s0~NV~N~s1~}"|0]|?_];change iP _ _ [-n,hX _] H;lk;let e:∀a b:lp,~~~(a++b)= ~~~a+ ~~~b:=λa b=>Rt
  let g:Mi.length=0:=rfl;let i:(!".").length=1:=rfl;let c:∀k,k<=1000->k<=md:=λk o=>cP ⋯
  show%[c _ ⋯,c _ ?_,c _ ?_,c _ ⋯,c _ ?_,c _ ?_|k]<;> simp only[e,g,i]<;> lia
def xu(T:Txt K mg):Cal P w K mg base 2 "is_saying" ["thing","layers"] (mB K):=by
 .exists T.b9,vG,o,d,%[t,p,xs,g,rfl,n,i,ok|k];show%[_,%["KCOhpoZwxA0A?1BvL~,efA0BDEHmPCOZG~OAN0DA]YBEH&G~OAN0DA1B&G~OAN0DA1B'l+N0DN0DPCOZG~OAN0DA]ZBEH&G~OAN0DA1B'G]aAN0DBPEHm",0,(blE (v:= .ty "tuple") rfl T.ag Sk rfl rfl rfl)|d]|?_]
  change aR _ _ _ [!t,!p] H;lk;show%[.type "tuple",.tup n,hY,by rfl|?_];let st:=SqT.of (K:=K) n;rcases ok with⟨c,a,b,rfl,hw,j,r,l⟩|⟨c,a,y,rfl,hw,j,u,z⟩
  .let m:decide (c∈([!"later",!"same"]:ZB))=hY:=by rcases hw with rfl|rfl<;> decide
   lk;show%[3,.inr %[_,st|ρ]|?_];rw[kw (!1)];show%[_,st,_,ρ|λq e=>%[c,q,[!"later",!"same"],ρ,.inr (e H)|?_]];rw[m];lk;show%[_,st,_,ρ,a,p,g,ρ,.inl i|?_];rw[Zf j];lk;show%[_,st,_,ρ,b,p,g,ρ,.inl i|?_];rw[Zf r];lk;show%[_,st,_,ρ,_,st,_,ρ,ρ|?_];rw[show(!decide (V.str a=V.str b))=hY from by simp[l]];show k
  .let m:decide (c∈([!"later",!"same"]:ZB))=iv:=by rcases hw with rfl|rfl<;> decide
   let B:decide (c∈([!"since",!"by"]:ZB))=hY:=by rcases hw with rfl|rfl<;> decide
   lk;show%[3,.inr %[_,st|ρ]|?_];rw[kw (!1)];show%[_,st,_,ρ|λq e=>%[c,q,[!"later",!"same"],ρ,.inr (e H)|?_]];rw[m];lk;show%[_,st,_,ρ|λq e=>%[c,q,[!"since",!"by"],ρ,.inr (e H)|?_]];rw[B];lk;show%[_,st,_,ρ,a,p,g,ρ,.inl i|?_];rw[Zf j];lk;show%[_,st,_,ρ,y,ρ,u,z|k]
abbrev bV(H:Hp)(cs:ZH):Prop:=∀p∈cs,H p.1&&&[.str p.2.1,.str (vj nl p.2.2)]/\gE p.2.1=hY/\cS p.2.2
def bV.up(h:bV H cs)(s:ah H b):bV b cs:=λp a=>%[s _ _ (h p a).1|(h p a).2]
inductive ut
 | mk (rows:ZB):vs=[.str (vj nl rows)]->cS rows->(∀H',ah H H'->Q (.bl hY) H')->ut vs H Q E0
inductive xv
 | mk (p:ku×lp×ZB):vs=[.ref p.1]->bV H [p]->(∀H',ah H H'->Q (.bl hY) H')->xv vs H Q E0
abbrev bL(cs:ZH):ZM:=cs\0
inductive kE
 | mk (l cs):vs=[.ref l]->H l<*bL cs->bV H cs->(cs.map λp=>p.2.1).Nodup->1<= ~~~cs-> ~~~cs<=8->(∀H',ah H H'->Q .non H')->kE vs H Q E0
abbrev cC(H:Hp)(a:ZB)(qs:ZN):Prop:=∀q∈qs,H q.1&&&q.2/\my a q.2
def cC.up(h:cC H b qs)(s:ah H c):cC c b qs:=λp a=>%[s _ _ (h p a).1|(h p a).2]
inductive iL (K:ZA)
 | mk (l r ls qs):vs=[.ref l,.ref r]->H l∣.lst (qs\0)->H r<*ls\3->cC H ls qs-> ~~~qs<=60->(∀H',ah H H'->Q .non H')->iL K vs H Q E0
def EZ(T:Txt K mg):Cal P w K mg base 3 "is_cut" ["thing"] ut:=by
 .exists T.b7,Ck,b,c,%[rows,rfl,a|k];show%[_,(QSs.h (ai (LI (λ_ _ h=>h) (ap (bB rfl (aJ (nh T) c rfl #[↑0]))))
   (ap (aK eBl))))|?_]
  change aR _ _ _ [hX (.str (vj nl rows))] H;lk;show%[rows,ρ,a|λl d e g i=>k d e]
def qG(T:Txt K mg):Cal P w K mg base 4 "is_named_cut" ["thing"] xv:=by
 .exists T.b6,oA,e,c,%[p,rfl,g|k];let%[b,i|a]:=g p (Yy.mpr rfl);show%[_,%["KEH&wxA0A?1B&l:efA0BD&G]bAN0DB'G]cAN0DB",0,(blE (v:= .ty "tuple") rfl T.ag Sk rfl rfl rfl)|c]|?_];change iP _ _ [hX _] H;lk;show%[.type _,.tup b,hY,by rfl|?_];let st:=SqT.of (K:=K) b;show%[2,.inr %[_,st|ρ],_,st,_,ρ,p.2.1,ρ,i|λm d=>?_];lk;show%[_,SqT.of (d _ _ b),_,ρ,p.2.2,ρ,a|λj l=>k j (d.trans l)]
def vM(T:Txt K mg):Cal P w K mg base 5 "check_cuts" ["cuts"] kE:=by
 .exists T.b5,eN,ak,J,%[l,cs,rfl,C,L,M,h1,h8|k];let u: ~~~(bL cs)= ~~~cs:=Z6 _;show%[_,%["KCOhpoZwxA0A?1BvL:efA0BDE.PCF1!ES|A0BgMJ2MJ3cCOhpLj2]dpoZG]eA3Bv~aN3D1E.PEym1N3D",eN.nd,(blE (v:= .ty "list") rfl T.a5 QL rfl rfl rfl)|J]|?_]
  change aR _ _ _ [!l,hV,hV,hV] H;show aj λD1 k1 _=>?_
  lk;show%[.type "list",.lst C,hY,by rfl|?_];lk;show%[~~~cs,.inl %[_,Qb.of C|u.symm]|?_];rw[kw (by simp only[Mx];lia)];show k1 _ _ (aj λD2 k2 _=>?_);lk;show λd N=>k2 _ _ (aA λD3 k3 _=>ay λag hK=>?_)
  lk;show%[_,Qb.of (ah.Qa N _ _ C)|hK _ _ (fU (λi G c=>∃O U a,G=[!l,!d,O,U]/\ah H c/\c d∣.dK a/\a\1=(cs.take i).map λp=>kG p.2.1) %[hV,hV,[],ρ,ah.Qa N,aa|ρ] (λi G c _ ⟨_,_,_,_,q,_⟩=>Qb.of (q _ _ C)) ?_ ?_)]
  .intro i x TT G c I %[O,U,a,rfl,Y,y|g] hT;let hi:i< ~~~cs:=u▸(Xm I).1;obtain⟨q,hq,rfl⟩:∃q,cs[i]?∣q/\x=V.ref q.1:=by
    unfold bL at I;rw[Zl,Z4 hi]at I;show%[cs[i],Z4 hi|(Za I).symm]
   let b:ah H (Qa c TT (.tup [.int i,.ref q.1])):=Y.trans (ah.Qa hT);let z:Qa c TT (.tup [.int i,.ref q.1]) TT&&&[.int i,.ref q.1]:=aa;let r:=ah.Qa (o:= .tup [.int i,.ref q.1]) hT _ _ y
   generalize Qa c TT _=HT at b r z
   let m:=L q (Z8 hq);show%[_,SqT.of z,ρ,_,_,ρ,_,_,ρ,ρ|?_];change aR _ _ _ [!l,!d,hX (.int i),hX (.ref q.1)] HT;show aj λD4 k4 _=>?_
   lk;rw[kw (by simp only[Mx];lia)];show%[q,ρ,λp hp=>(Xo hp)▸%[b _ _ m.1|m.2]|λH2 B=>bN ?_];let n:(kG q.2.1:Key)∉a\1:=by
    rw[g];intro hm;let%[q',ab|e]:=Xp hm;let e:q'.2.1=q.2.1:=ND e;let%[j|hj]:=Xg ab;let ac:j<i:=by
     let:=(Xm hj).1;rw[Yl]at this
     lia
    rw[Yc ac]at hj;let n1:(cs.map λp=>p.2.1)[j]?∣q.2.1:=by rw[Zl,hj,<-e];rfl
    let:=jt M n1 (by rw[Zl,hq];rfl)
    lia
   show%[_,SqT.of (B _ _ (b _ _ m.1)),_,ρ,_,b8.k (k:=kG q.2.1) (B _ _ r)|?_];let hv:bX a (kG q.2.1:Key)=hV:=by
    cases e:bX a (kG q.2.1:Key)with
    | none=>rfl
    | some v=>show n0 (Gj e) n
   rw[hv,kw ∅];show k4 _ _ (aA λD5 k5 _=>?_);lk;let ae: ~~~a=i:=by
    let:=sU MR g;rw[Z6,Z6,Yl]at this
    lia
   show%[_,SqT.of (B _ _ (b _ _ m.1)),_,ρ,_,gK.k (k:=kG q.2.1) (B _ _ r) (ae▸aC ⋯)|k5 _ _ %[_,_,_,ρ,ah.set (b.trans B) N,aa|?_]];rw[mZ,kw n,g,Xa,Zd,hq];rfl
  .intro G c %[O,U,a,rfl,Y,y|g];show k3 _ _ (k c Y)
def oC(T:Txt K mg):Cal P w K mg base 3 "check_sayings" ["sayings","layers"] (iL K):=by
 .exists T.b8,eI,B,C,%[l,r,y,qs,rfl,g,j,m,G|k];show%[_,%["KCOoZwxA0A?1BE.PES|A0BgMJ2MJ3cEOhpLj2]fvoZG]gA3A1BE.P",eI.nd,(blE (v:= .ty "list") rfl T.a5 QL rfl rfl rfl)|C]|?_]
  change aR _ _ _ [!l,!r,hV,hV] H;show aj λO k1 _=>?_
  lk;show%[.type "list",.lst g,hY,by rfl|?_];lk;show k1 _ _ (aA λU I _=>ay λz J=>?_);lk;show%[_,Qb.of g|J _ _ (fU (λi e b=>E2 λn o=>e=[!l,!r,n,o]/\ah H b) %[hV,hV,ρ|ah.refl H] (λi e b _ ⟨_,_,_,q⟩=>Qb.of (q _ _ g)) ?_ ?_)]
  .intro i x TT e b p %[n,o,rfl|u] L;let hi:i< ~~~qs:=(Z6 _)▸(Xm p).1;obtain⟨q,M,rfl⟩:∃q,qs[i]?∣q/\x=V.ref q.1:=by
    rw[Zl,Z4 hi]at p;show%[qs[i],Z4 hi|(Za p).symm]
   let a:ah H (Qa b TT (.tup [.int i,.ref q.1])):=u.trans (ah.Qa L);let c:Qa b TT (.tup [.int i,.ref q.1]) TT&&&[.int i,.ref q.1]:=aa
   generalize Qa b TT _=HT at a c
   let d:=m q (Z8 M);show%[_,SqT.of c,ρ,_,_,ρ,_,_,ρ,ρ|?_];change j8 _ _ _ _ [!l,!r,hX (.int i),hX (.ref q.1)] HT;show aA λY N _=>?_
   lk;rw[kw ⋯];show%[q.1,r,q.2,y,ρ,a _ _ d.1,Qb.of (a _ _ j),d.2|N _ _ %[_,_,ρ|a]]
  .intro e b %[n,o,rfl|u];show I _ _ (k b u)
abbrev lyr(p:ku×lp×ZB):ZB:=(aY ((cU p.2.2).map sgn)).map (lnS p.2.1)
inductive mC
 | mk (l cs):vs=[.ref l]->H l<*bL cs->bV H cs-> ~~~cs<=8-> ~~~(cs.flatMap lyr)<=63->(∀r H' (ls:ZB),ah H H'->H r=hV->H' r<*ls\3->ls.Perm (cs.flatMap lyr)->ls.Pairwise (λa b=>aO b a=iv)->Q (.ref r) H')->mC vs H Q E0
abbrev dS(c:ZB)(k:ZB):Prop:=∃a b z,k=[a,b,z]/\a∈c/\b∈c
abbrev Sml(z:lp):Prop:= ~~~z<=30/\∀c∈z.cps.toList,c<16^8
abbrev Cr(a:ZB)(k:ZB):Prop:=dS a k/\∀z∈k,Sml z
def xw(h:gE z=hY):Sml z:=by
 unfold gE at h;rw[Zv,Zv]at h;show%[⋯|λc a=>?_];let:=(tF.mp (NC.mp h.2 c a)).2
 lia
def Sml.app{a b:lp}(f:∀c∈a.cps.toList,c<16^8)(g:∀c∈b.cps.toList,c<16^8):∀c∈(a++b).cps.toList,c<16^8:=λc d=>by
 let e:(a++b).cps.toList=a.cps.toList++b.cps.toList:=Xe;rw[e]at d;show(Xn d).elim (f c) (g c)
def G8(h:c<1000):∀x∈(sgn c).cps.toList,x<16^8:=λx a=>by
 let e:=by simpa [sgn]using a
 lia
def np{c:jg}(h:gE n=hY)(d:c<1000):Sml (lnS n (sgn c)):=by
 let e:∀a b:lp,~~~(a++b)= ~~~a+ ~~~b:=λa b=>Rt
 let l: ~~~n<=8:=by
  unfold gE at h
  grind
 show%[?_|Sml.app (Sml.app (Sml.app (λc d=>(nomatch d)) (xw h).2) (!0)) (G8 d)];unfold lnS;rw[e,e,e,show Mi.length=0 from rfl,show(!".").length=1 from rfl,show(sgn c).length=1 from rfl]
 lia
def zG(h:cS rows)(l:Let rows c):c<1000:=by
 let:=(tF.mp (jV h.sign c (fM.mpr l))).2
 lia
def G9(b:gE p.2.1=hY)(d:cS p.2.2):∀z∈lyr p,Sml z:=λz e=>by
 let%[y,f|rfl]:=Xp e;let%[c,a|rfl]:=Xp (a8.mp f);show np b (zG d (fM.mp a))
def KI(e:Sml a)(f:Sml b)(g:Sml c):∀z∈[a,b,c],Sml z:=λz d=>by
 simp only[Yw,X6,M4]at d;rcases d with rfl|rfl|rfl
 .show e
 .show f
 .show g
def Hf(i:jg)(h:i<=100):Sml (Mi++o0 "#"++o0 (toString (i:oT))):=by
 let all:∀j:Fin 101,Sml (Mi++o0 "#"++o0 (toString ((j.1)))):=by
  unfold Sml;decide +kernel
 show all %[i|⋯]
def dS.three(h:dS c k): ~~~k=3:=by
 let%[a,b,z,rfl|_]:=h;rfl
def dS.mono(h:dS c k)(s:∀x∈c,x∈d):dS d k:=by
 let%[a,b,z,e,f|g]:=h;show%[a,b,z,e,s a f|s b g]
def ja(h:Let p.2.2 a):lnS p.2.1 (sgn a)∈lyr p:=
 Xq %[_,a8.mpr (Xq %[a,fM.mpr h|rfl])|rfl]
abbrev mD(n:lp)(k:ZB):ZB:=k.map (lnS n) ++[n]
abbrev vN(i:jg):lp:=Mi++o0 "#"++o0 (toString (i:oT))
abbrev cI(cs:ZH):hH ZB:=cs.flatMap λp=>(bU p.2.2 (~~~p.2.2-1)).map (mD p.2.1)
abbrev iy(i:jg):ZM->lx ZB
 |[.str w,.str a,.str b]=>if w=o0 "later" then hX [a,b,vN i]else hV
 | _=>hV
abbrev cJ(qs:ZN)(n:jg):hH ZB:=(p0 n).filterMap λj=>qs[j]?.bind λq=>iy j q.2
def mE{cs:hH _}{i:jg}{q:ku×lp×ZB}(a:cs[i]?∣q):cI (cs.take (i+1))=cI (cs.take i) ++(bU q.2.2 (~~~q.2.2-1)).map (mD q.2.1):=by
 unfold cI;rw[Xa,a,O3];change _++([q].flatMap _)=_;rw[TJ]
def fo(a:qs[i]?∣q):cJ qs (i+1)=cJ qs i++(iy i q.2).toList:=by
 unfold cJ;rw[Pd,Y0];show sU _ ?_;rw[Y1,a];rw[RR];cases iy i q.2<;> rfl
inductive mF
 | mk (l cs):vs=[.ref l]->H l<*bL cs->bV H cs->(∀p∈cs,rO p.2.2)-> ~~~cs<=3->(∀r H' ts,ah H H'->H r=hV->H' r∣.lst (ts\0)->aE H' ts->(∀t∈ts,Cr (cs.flatMap lyr) t.2)-> ~~~ts<=180->(∀k,k∈ts\2↔k∈cI cs)->Q (.ref r) H')->mF vs H Q E0
inductive mG
 | mk (l ls qs):vs=[.ref l]->H l∣.lst (qs\0)->cC H ls qs->(∀z∈ls,Sml z)-> ~~~qs<=63->(∀r H' ts,ah H H'->H r=hV->H' r∣.lst (ts\0)->aE H' ts->(∀t∈ts,Cr ls t.2)-> ~~~ts<= ~~~qs->ts\2=cJ qs qs.length->Q (.ref r) H')->mG vs H Q E0
def iM{z:lp}(h:gE z=hY): ~~~z<=8:=by
 unfold gE at h
 grind
def kR{cs:hH jg}{z:lp}(h:z∈aY (cs.map sgn)):∃c∈cs,z=sgn c:=by
 let:=a8.mp h;let%[c,a|rfl]:=Xp this;show%[c,a|ρ]
def xx(T:Txt K mg):Cal P w K mg base 4 "layers_of" ["cuts"] mC:=by
 .exists T.bd,fj,ae,hr,%[l,cs,rfl,hl,G,h8,ag|k];let m: ~~~(bL cs)= ~~~cs:=Z6 _;show%[_,%["KCF1RBCSU0gM~P2tuMJ3cEX~Y~Z1Aqi?1UG]hA3Ba0?2)G~tAT1A0BBEH,]iA1B",fj.nd,↑(["letter","name"],[(1,2)]),↑["letter","name"]|hr]|?_]
  change aR _ _ _ [!l,hV,hV,hV] H;show aj λD1 k1 _=>?_
  lk;show%[Xf _|λL I=>k1 _ _ (aj λD2 k2 _=>ay λn J=>?_)];lk;show%[%[_|Qb.of (ah.Qa I _ _ hl)]|J _ _ (eP (λi d a=>E2 λM N=>A3 (d=[!l,!L,M,N]) (ah H a) (∃e:ZB,A3 (a L<*e\3) (e.Perm ((cs.take i).flatMap lyr)) (~~~e<=26*i)))
   %[hV,hV,ρ,ah.Qa I,[],aa,Nc _|Xf _] (λi d a _ ⟨_,_,_,q,_⟩=>Qb.of (q _ _ hl)) ?_ ?_)]
  .intro i x d a y %[M,N,rfl,p,e,B,u|O];let hi:i< ~~~cs:=m▸(Xm y).1;obtain⟨q,hq,rfl⟩:∃q,cs[i]?∣q/\x=V.ref q.1:=by
    unfold bL at y;rw[Zl,Z4 hi]at y;show%[cs[i],Z4 hi|(Za y).symm]
   let b:=G q (Z8 hq);show%[_,SqT.of (p _ _ b.1),ρ,_,_,ρ,_,_,ρ,ρ|aA λD3 k3 _=>?_];change lh _ _ [!l,!L,hX (.str q.2.1),hX (.str (vj nl q.2.2))] a;lk;show%[tyL (Qb.of B)|aL λn J=>?_];lk;show%[q.2.2,ρ,b.2.2|λl2 H2 ss s2 f2 h2 U=>?_];lk;show%[%[_|Qb.of h2]|J _ _ λF hF=>?_];let few: ~~~ss<=26:=U.length_eq▸kI λc hc=>jV b.2.2.sign c hc
   let one:∀z∈ss,~~~z=1:=λz hz=>by
    let%[c,_|rfl]:=kR (U.mem_iff.mp hz);rfl
   show cN (λj ts d a=>A4 (∃o,d=[o,hX (.str q.2.1)]) (ah H2 a) (a F<*ts) (ts=((ss.take j).map (lnS q.2.1))\3))
    %[%[hV|rfl],ah.Qa hF,aa|rfl] (λ_ _ _ a Y=>Y.2 _ _ h2) ?_ ?_
   .intro j ts d H4 hj %[%[o|rfl],C,ab|g];lk;show%[_,_,ρ,by let:=iM b.2.1;lia,by rw[one _ (Yd hj)];decide|CK.mk hj ab (by rw[g,Z6,Z6,Yl];show aC ⋯) %[%[_|ρ],ah.set C hF,aa|?_]];rw[g,Xa,Zd,Zd,Z4 hj];rfl
   intro ts d H3 %[_,C,ac|g];rw[Zn (Zi _)]at g;lk;show%[_,C _ _ (s2 _ _ B),_,ac,(by rw[g,Z6,Z6,Z6];show cP ⋯)|k3 _ _ %[_,_,ρ,ah.set (p.trans (s2.trans C)) I,e++ss.map (lnS q.2.1),?_,?_|?_]]
   .rw[aa,g,Zd]
   .rw[Xa,hq,O3];show u.append ?_;change L1 _ ([q].flatMap lyr);rw[TJ];show U.map _
   .rw[Z9,Z6]
    lia
  .intro d a %[M,N,rfl,p,e,B,u|O];show k2 _ _ ?_;lk;rw[m,Zn (Zi _)]at u;show%[e,Qb.of B,by rw[u.length_eq];lia|λr ss v p' q'=>k r _ ss (p.trans (ah.Qa v)) (p.free v) aa (p'.trans u) q']
def qH(T:Txt K mg):Cal P w K mg base 4 "ties_of_cuts" ["cuts"] mF:=by
 .exists T.be,cj,a6,hr,%[l,cs,rfl,hl,a3,a4,h8|k];let ae: ~~~(bL cs)= ~~~cs:=Z6 _;show%[_,%["KCF1RBCSU0gMJ2MJ3cESUG]jA3BgMJ4MJ5cEXsn1AbAG~tA2A4BAG~tA2A5BA2BBEH1",cj.nd|hr]|?_]
  change aR _ _ _ [!l,hV,hV,hV,hV,hV] H;show aj λD1 k1 _=>?_
  lk;show%[Xf _|λL hL=>k1 _ _ (aj λD2 k2 _=>ay λag hK=>?_)];lk;show%[%[_|Qb.of (ah.Qa hL _ _ hl)]|hK _ _ (eP (λi y G=>E4 λo2 o3 I J=>A3 (y=[!l,!L,o2,o3,I,J]) (ah H G) (∃ts:ZG,A5 (G L∣.lst (ts\0)) (aE G ts) (∀t∈ts,Cr (cs.flatMap lyr) t.2) (~~~ts<=60*i) (∀k,k∈ts\2↔k∈cI (cs.take i))))
   %[hV,hV,hV,hV,ρ,ah.Qa hL,[],aa,eV _,λt ht=>(nomatch ht),Xf _|λk=>OK] (λi y G _ ⟨_,_,_,_,_,q,_⟩=>Qb.of (q _ _ hl)) ?_ ?_)]
  .intro i x y G M %[o2,o3,I,J,rfl,sm,ts,hm,U,Y,ak|d];let hi:i< ~~~cs:=by rw[<-ae];show(Xm M).1
   obtain⟨q,hq,rfl⟩:∃q,cs[i]?∣q/\x=V.ref q.1:=by
    unfold bL at M;rw[Zl,Z4 hi]at M;show%[cs[i],Z4 hi|(Za M).symm]
   let g:=a3 q (Z8 hq);show%[_,SqT.of (sm _ _ g.1),ρ,_,_,ρ,_,_,ρ,ρ|?_];show aA λD3 k3 _=>?_
   change uG _ _ _ _ [!l,!L,hX (.str q.2.1),hX (.str (vj nl q.2.2)),I,J] G;show ay λag hK=>?_
   lk;let qm:=Z8 hq;show%[q.2.2,ρ,g.2.2,a4 q qm|?_];intro l2 H2 ss s2 f2 h2 t2 few al all2;let a5:=iM g.2.1;let an:l2≠L:=λe=>by rw[e,hm]at f2;cases f2
   let as: ~~~(ss\0)= ~~~ss:=Z6 _;show%[%[_|Qb.of h2]|hK _ _ (eP (xs:=ss\0) (λj y B=>E2 λI J=>A5 (y=[!l,!L,hX (.str q.2.1),hX (.str (vj nl q.2.2)),I,J]) (ah H B) (B l2∣.lst (ss\0)) (aE B ss) (∃c:ZG,A5 (B L∣.lst (c\0)) (aE B c) (∀t∈c,Cr (cs.flatMap lyr) t.2) (~~~c<=60*i+j) (c\2=ts\2 ++((ss.take j)\2).map (mD q.2.1))))
    %[_,_,ρ,sm.trans s2,h2,t2,ts,s2 _ _ hm,az U λb z e=>s2 _ _ e,Y,⋯|(Zx _).symm] (λj y B _ ⟨_,_,_,_,q,_,_⟩=>Qb.of q) ?_ ?_)]
   .intro j x y B M %[I,J,rfl,ab,a0,n,c,C,r,ac,u|m];let hj:j< ~~~ss:=as▸(Xm M).1;rw[Zl,Z4 hj]at M;obtain rfl:x=V.ref ss[j].1:=(Za M).symm;let N:=Yd hj;let%[a,b,a1,la|lb]:=al _ N;let O:=(n _ N).2;rw[a1]at O;show%[_,SqT.of O,ρ,_,_,ρ,_,_,ρ,ρ|aA λD4 k4 _=>?_];lk;show%[tyL (Qb.of C),q.2.1,sgn a,ρ,⋯,(show 1<=100 by decide)|?_];show%[q.2.1,sgn b,ρ,⋯,(show 1<=100 by decide)|?_];show%[#[3]|λp hp=>?_];let sp:=ah.Qa (o:= .tup [V.str (lnS q.2.1 (sgn a)),V.str (lnS q.2.1 (sgn b)),V.str q.2.1]) hp;let gp:=own sp
    generalize Qa B p _=H4 at sp gp
    let a2:=sp _ _ C;let v:∀b z,H4 b&&&z->Qa H4 L (.lst (c\0 ++[V.ref p])) b&&&z:=λb z e=>by
     let:b≠L:=λe2=>by rw[e2,a2]at e;cases e
     rw[aq this];show e
    show%[_,a2,by rw[Z6];show RH (show ~~~c<=10000 by lia) (!1)|k4 _ _ %[_,_,ρ,ah.set (ab.trans sp) hL,(aq an)▸sp _ _ a0,az (az n λb z e=>sp _ _ e) v,c++[(p,[lnS q.2.1 (sgn a),lnS q.2.1 (sgn b),q.2.1])],?_,?_,?_,?_|?_]]
    .rw[aa,Zd];rfl
    .show az (fO (az r λb z e=>sp _ _ e) ∅ gp) v
    .intro t ht;rcases Xn ht with z|z
     .show ac t z
     .rw[Xo z];show%[%[_,_,_,ρ,ME.mpr %[q,qm|ja la]|ME.mpr %[q,qm|ja lb]]|KI (np g.2.1 (zG g.2.2 la)) (np g.2.1 (zG g.2.2 lb)) (xw g.2.1)]
    .rw[Z9,Yk];lia
    .rw[Zd,m,Ze,Xa,Z4 hj,Zd,Zd];change _++(_++[_])=_++(_++[mD q.2.1 ss[j].2]);rw[a1];rfl
   .intro y B %[I,J,rfl,ab,a0,n,c,C,r,ac,u|m];rw[as]at u m;rw[Zn (Zi _)]at m;show k3 _ _ %[_,_,_,_,rfl,ab,c,C,r,ac,⋯|λk=>?_];rw[m,mE hq,Yt,Yt,d,Pm,Pm];show Rw OK (UZ λz=>T6 λ_=>all2 z)
  .intro y G %[o2,o3,I,J,rfl,sm,ts,hm,U,Y,ak|d];show k2 _ _ ?_;lk;rw[ae]at ak d;rw[Zn (Zi _)]at d;show k L G ts sm hL hm U Y ⋯ d
def mH(T:Txt K mg):Cal P w K mg base 1 "ties_of_sayings" ["sayings"] mG:=by
 .exists T.bf,cV,ak,hr,%[l,N,qs,rfl,hl,ab,r,al|k];let G: ~~~(qs\0)= ~~~qs:=Z6 _;show%[_,%["KCF1RBCS|A0BgMJ2MJ3cEOLjN3DVEXsn1AbAN3DAN3DA~|~NV~N~s2~}BBPEH1"|cV.nd]|?_]
  change aR _ _ _ [!l,hV,hV,hV] H;show aj λD1 k1 _=>?_
  lk;show%[Xf _|λL O=>k1 _ _ (aj λD2 k2 _=>ay λae hK=>?_)];lk;show%[_,Qb.of (ah.Qa O _ _ hl)|hK _ _ (fU (λi U n=>E2 λo2 o3=>A3 (U=[!l,!L,o2,o3]) (ah H n) (∃ts:ZG,A5 (n L∣.lst (ts\0)) (aE n ts) (∀t∈ts,Cr N t.2) (~~~ts<=i) (ts\2=cJ qs i)))
   %[hV,hV,ρ,ah.Qa O,[],aa,eV _,λt ht=>(nomatch ht),Xf _|ρ] (λi U n _ ⟨_,_,_,q,_⟩=>Qb.of (q _ _ hl)) ?_ ?_)]
  .intro i x TT U n hx %[o2,o3,rfl,sm,ts,hm,u,g,v|d] hT;let hi:i< ~~~qs:=by rw[<-G];show(Xm hx).1
   obtain⟨q,Y,rfl⟩:∃q,qs[i]?∣q/\x=V.ref q.1:=by
    rw[Zl,Z4 hi]at hx;show%[qs[i],Z4 hi|(Za hx).symm]
   let s0:=ah.Qa (o:= .tup [.int i,.ref q.1]) hT;let j:ah H (Qa n TT (.tup [.int i,.ref q.1])):=sm.trans s0;let I:Qa n TT (.tup [.int i,.ref q.1]) TT&&&[.int i,.ref q.1]:=aa;let m:=s0 _ _ hm;let c:=az u λb z e=>s0 _ _ e
   generalize Qa n TT _=HT at j I m c
   let J:=ab q (Z8 Y);show%[_,SqT.of I,ρ,_,_,ρ,_,_,ρ,ρ|?_];change j8 _ _ _ _ [!l,!L,hX (.int i),hX (.ref q.1)] HT;show aA λD4 k4 _=>?_
   lk;let st:=SqT.of (K:=K) (j _ _ J.1);let ag: ~~~(o0 (toString (i:oT)))<=21:=by
    let e:=PySem.int_text_length_le10 (a:=(i:oT)) (k:=20) (!1) (by let:(i:oT).natAbs=i:=rfl;lia);rw[PySem.ofString_length];lia
   let e1:(Mi++o0 "#").length=1:=!0
   let ea:∀a b:lp,~~~(a++b)= ~~~a+ ~~~b:=λa b=>Rt
   let add:∀a b:lp,a∈N->b∈N->iy i q.2∣[a,b,vN i]->∀p,HT p=hV->∃x,Qa HT p (.tup [.str a,.str b,V.str (Mi++o0 "#"++o0 (toString (i:oT)))]) L<*x/\ ~~~x<md/\D4.nx [!l,!L,hX (.int i),hX (.ref q.1)] (Qa (Qa HT p (.tup [.str a,.str b,V.str (Mi++o0 "#"++o0 (toString (i:oT)))])) L (.lst (x++[V.ref p]))):=by
    intro a b ma mb ac p hp;let tn:=fo Y;rw[ac,<-d]at tn;unfold vN at tn
    generalize hz:Mi++o0 "#"++o0 (toString (i:oT))=z at tn ⊢
    let sp:=ah.Qa (o:= .tup [V.str a,V.str b,V.str z]) hp;let gp:=own sp
    generalize Qa HT p _=H4 at sp gp
    let M:=sp _ _ m;let B:∀b z,H4 b&&&z->Qa H4 L (.lst (ts\0 ++[V.ref p])) b&&&z:=λb z e=>by
     let:b≠L:=λe2=>by rw[e2,M]at e;cases e
     rw[aq this];show e
    show%[_,M,by rw[Z6];show aC ⋯|k4 _ _ %[_,_,ρ,ah.set (j.trans sp) O,ts++[(p,[a,b,z])],?_,?_,?_,?_|?_]]
    .rw[aa,Zd];rfl
    .show az (fO (az c λb z e=>sp _ _ e) ∅ gp) B
    .intro t ht;rcases Xn ht with z|z
     .show g t z
     .rw[Xo z];show%[%[_,_,_,ρ,ma|mb]|KI (r a ma) (r b mb) (hz▸Hf i ⋯)]
    .rw[Z9,Yk];lia
    .rw[tn,Zd];rfl
   rcases J.2 with⟨wd,a,b,e,hw,ma,mb,_⟩|⟨wd,a,y,e,hw,_⟩
   .rw[e]at st;show%[_,st,_,ρ,ρ|bv (λC=>?_) λC=>?_]
    .show%[tyL (Qb.of m),_,st,_,ρ,_,st,_,ρ,cP ⋯,?_,cP (by rw[ea];lia),cP (by rw[ea];lia),#[3]|add a b ma mb (e▸lX (V.str.inj (Zo C)))];let:(i:oT).natAbs=i:=rfl
     lia
    .show k4 _ _ %[_,_,rfl,j,ts,m,c,g,⋯|?_];rw[fo Y,e,show iy i [V.str wd,V.str a,V.str b]=hV from kw λz=>C (Zf (by rw[z])),d];show(Zx _).symm
   .rw[e]at st;show%[_,st,_,ρ,ρ|?_];rw[kw (by rcases hw with rfl|rfl<;> decide)];show k4 _ _ %[_,_,rfl,j,ts,m,c,g,⋯|?_];rw[fo Y,e,d];show(Zx _).symm
  .intro U n %[o2,o3,rfl,sm,ts,hm,u,g,v|d];show k2 _ _ ?_;lk;rw[G]at v d;show k L n ts sm O hm u g v d
structure GrF (mg:ZC) (H:Hp) (g c2 c3 c4:ku) (qs:ZN) (ls:ZB) (ts:ZG):Prop where
 at_:∃dx c1,H g∣.ins (aG mg "Ground") dx [("kept_cuts",.ref c1),("kept_sayings",.ref c2),("kept_layers",.ref c3),("kept_ties",.ref c4)]
 a2:H c2∣.lst (qs\0)
 a3:H c3<*ls\3
 a4:H c4∣.lst (ts\0)
 sa:cC H ls qs
 tu:aE H ts
def GrF.up(h:GrF mg H g c2 c3 a qs c ts)(s:ah H d):GrF mg d g c2 c3 a qs c ts:=by
 let%[f,c1|i]:=h.at_;show%[%[f,c1|s _ _ i],s _ _ h.a2,s _ _ h.a3,s _ _ h.a4,h.sa.up s|az h.tu λb z e=>s _ _ e]
inductive uu (mg:ZC)
 | mk (g c2 c3 c4 qs ls ts):vs=[.ref g]->GrF mg H g c2 c3 c4 qs ls ts->(∀l,H l=hV->Q (.ref l) (Qa H l (.lst (ls\3))))->uu mg vs H Q E0
inductive qI (mg:ZC)
 | mk (g c2 c3 c4 qs ls ts):vs=[.ref g]->GrF mg H g c2 c3 c4 qs ls ts->(∀l,H l=hV->Q (.ref l) (Qa H l (.lst (qs\0))))->qI mg vs H Q E0
inductive AF (mg:ZC)
 | mk (g c2 c3 c4 qs ls ts):vs=[.ref g]->GrF mg H g c2 c3 c4 qs ls ts->(∀l,H l=hV->Q (.ref l) (Qa H l (.lst (ts\0))))->AF mg vs H Q E0
inductive vO (mg:ZC)
 | mk (g l m dx cs qs):vs=[.ref g,.ref l,.ref m]->H g∣.ins (aG mg "Ground") dx []->H l<*bL cs->H m∣.lst (qs\0)->bV H cs->(cs.map λp=>p.2.1).Nodup->1<= ~~~cs-> ~~~cs<=3->(∀p∈cs,rO p.2.2)-> ~~~(cs.flatMap lyr)<=63->(∀ls,ls.Perm (cs.flatMap lyr)->cC H ls qs)-> ~~~qs<=36->(∀H' ls ts c2 c3 c4,(∀b o,b≠g->H b∣o->H' b∣o)->GrF mg H' g c2 c3 c4 qs ls ts->(∀t∈ts,Cr ls t.2)->(∀z∈ls,Sml z)->(∀k,k∈ts\2↔k∈cI cs\/k∈cJ qs qs.length)-> ~~~ts<=250->ls.Perm (cs.flatMap lyr)->ls.Pairwise (λa b=>aO b a=iv)->Q .non H')->vO mg vs H Q E0
def xy(T:Txt K mg):GP P w K mg base 6 "Ground" ["self","cuts","sayings"] (vO mg):=by
 .exists T.i_Ground,gC,be,hr,%[g,l,m,c,cs,qs,rfl,L,hl,hm,d,al,h1,h8,an,as,v,bf|k];let h3:=h8;let h8: ~~~cs<=8:=by lia
  show%[_,%["KCXG]kA1BCF3G]lA1BCXG]mA2A3BC~b0*;A1BC~b0*;A2BC~b03E~b0,]nAI]oG]pA1BG]qA2BB",gC.nd|hr]|?_]
  change aR _ _ _ [!g,!l,!m,hV] H;show aj λD1 k1 _=>?_
  lk;show%[l,cs,ρ,hl,d,al,h1,⋯|λH1 s1=>k1 _ _ (aj λD2 k2 _=>?_)];lk;show%[l,cs,ρ,s1 _ _ hl,d.up s1,h8,as|λr H2 y s2 f2 h2 M q2=>k2 _ _ (aj λD3 k3 _=>?_)];let N:=s1.trans s2;lk;show%[m,r,y,qs,ρ,N _ _ hm,h2,(v y M).up N,⋯|λH3 s3=>k3 _ _ (aj λD4 k4 _=>?_)];let j:=N.trans s3;let OC:=T.o_Ground.cls;let ac:∀z∈y,Sml z:=λz hz=>by
   let%[p,n|hz]:=ME.mp (M.mem_iff.mp hz);show G9 (d p n).2.1 (d p n).2.2 z hz
  let gl:l≠g:=λe=>by rw[e,L]at hl;cases hl
  let gm:m≠g:=λe=>by rw[e,L]at hm;cases hm
  let gr:r≠g:=λe=>by rw[e,s1 _ _ L]at f2;cases f2
  lk;show%[_,.inl (Qb.of (j _ _ hl))|λc1 B=>%[_,_,_,ah.Qa B _ _ (j _ _ L),OC,T.n_Ground_kept_cuts,(by change 0<1000;decide)|k4 _ _ (aj λD5 k5 _=>?_)]];let a0:c1≠g:=λe=>by rw[e,j _ _ L]at B;cases B
  let a1:=ah.Qa (o:= .lst (bL cs)) B;let b4:∀b o,b≠g->H3 b∣o->Qa (Qa H3 c1 (.lst (bL cs))) g (.ins (aG mg "Ground") c (eC (!"kept_cuts") (V.ref c1) [])) b∣o:=λb o a e=>by rw[aq a];show a1 _ _ e
  let g4:Qa (Qa H3 c1 (.lst (bL cs))) g (.ins (aG mg "Ground") c (eC (!"kept_cuts") (V.ref c1) [])) g∣.ins (aG mg "Ground") c [("kept_cuts",V.ref c1)]:=aa;let a4:Qa (Qa H3 c1 (.lst (bL cs))) g (.ins (aG mg "Ground") c (eC (!"kept_cuts") (V.ref c1) [])) c1<*bL cs:=by rw[aq a0];show aa
  generalize Qa (Qa H3 c1 (.lst (bL cs))) g _=H4 at b4 g4 a4
  let n4:∀b,H4 b=hV->b≠g:=λb a e=>by rw[e,g4]at a;cases a
  lk;show%[_,.inl (Qb.of (b4 _ _ gm (j _ _ hm)))|λc2 O=>%[_,_,_,ah.Qa O _ _ g4,OC,T.n_Ground_kept_sayings,(by change 1<1000;decide)|k5 _ _ (aj λD6 k6 _=>?_)]];let U:=n4 c2 O;let sc2:=ah.Qa (o:= .lst (qs\0)) O;let b5:∀b o,b≠g->H4 b∣o->Qa (Qa H4 c2 (.lst (qs\0))) g (.ins (aG mg "Ground") c (eC (!"kept_sayings") (V.ref c2) [("kept_cuts",V.ref c1)])) b∣o:=λb o a e=>(aq a)▸sc2 _ _ e
  let g5:Qa (Qa H4 c2 (.lst (qs\0))) g (.ins (aG mg "Ground") c (eC (!"kept_sayings") (V.ref c2) [("kept_cuts",V.ref c1)])) g∣.ins (aG mg "Ground") c [("kept_cuts",V.ref c1),("kept_sayings",V.ref c2)]:=by rw[aa];rfl
  let a5:Qa (Qa H4 c2 (.lst (qs\0))) g (.ins (aG mg "Ground") c (eC (!"kept_sayings") (V.ref c2) [("kept_cuts",V.ref c1)])) c2∣.lst (qs\0):=(aq U)▸aa
  generalize Qa (Qa H4 c2 (.lst (qs\0))) g _=H5 at b5 g5 a5
  lk;show%[_,_,_,g5,OC,T.n_Ground_kept_layers,(by change 2<1000;decide)|k6 _ _ (aA λD7 k7 _=>?_)];let b6:∀b o,b≠g->H5 b∣o->Qa H5 g (.ins (aG mg "Ground") c (eC (!"kept_layers") (V.ref r) [("kept_cuts",V.ref c1),("kept_sayings",V.ref c2)])) b∣o:=λb o a e=>(aq a)▸e
  let g6:Qa H5 g (.ins (aG mg "Ground") c (eC (!"kept_layers") (V.ref r) [("kept_cuts",V.ref c1),("kept_sayings",V.ref c2)])) g∣.ins (aG mg "Ground") c [("kept_cuts",V.ref c1),("kept_sayings",V.ref c2),("kept_layers",V.ref r)]:=by rw[aa];rfl
  generalize Qa H5 g _=H6 at b6 g6
  let ae:∀b o,b≠g->H3 b∣o->H6 b∣o:=λb o a e=>b6 b o a (b5 b o a (b4 b o a e))
  let u:∀b o,b≠g->H b∣o->H6 b∣o:=λb o a e=>ae b o a (j _ _ e)
  let ag:bV H6 cs:=λp n=>⟨u _ _ (λe=>by let:=(d p n).1;rw[e,L]at this;cases this) (d p n).1,(d p n).2⟩
  let i:cC H6 y qs:=λq Y=>⟨u _ _ (λe=>by let:=(v y M q Y).1;rw[e,L]at this;cases this) (v y M q Y).1,(v y M q Y).2⟩
  lk;show%[l,cs,ρ,u _ _ gl hl,ag,an,h3|λt1 H7 ts s7 f7 h7 a2 ab bl a3=>?_];lk;show%[m,y,qs,ρ,s7 _ _ (u _ _ gm hm),i.up s7,ac,⋯|λt2 H8 us s8 f8 a6 bb ak bm bc=>?_];lk;let J:aE H8 (ts++us):=qC (az a2 λb z e=>s8 _ _ e) bb;let g8:=s8 _ _ (s7 _ _ g6);show%[_,s8 _ _ h7,_,a6,by rw[Z6,Z6,PySem.sizeLine_eq];lia|λp n=>%[ts++us,Zd▸Qb.of aa,az J λb z e=>ah.Qa n _ _ e,3,?_,!1,by rw[Z9];lia|λc4 ss C G=>%[_,_,_,ah.Qa C _ _ (ah.Qa n _ _ g8),OC,T.n_Ground_kept_ties,(by change 3<1000;decide)|k7 _ _ ?_]]]
  .intro t ht;rcases Xn ht with z|z
   .show(ab t z).1.three
   .show(ak t z).1.three
  .let b9:∀b o,b≠g->H8 b∣o->Qa (Qa (Qa H8 p (.lst (ts\0 ++us\0))) c4 (.lst (ss\0))) g (.ins (aG mg "Ground") c (eC (!"kept_ties") (V.ref c4) [("kept_cuts",V.ref c1),("kept_sayings",V.ref c2),("kept_layers",V.ref r)])) b∣o:=λb o a e=>(aq a)▸((ah.Qa (o:= .lst (ts\0 ++us\0)) n).trans (ah.Qa (o:= .lst (ss\0)) C)) _ _ e
   let I:∀b o,b≠g->H6 b∣o->_:=λb o a e=>b9 b o a (s8 _ _ (s7 _ _ e))
   show k _ y ss c2 r c4 (λb o a e=>I b o a (u b o a e)) %[%[c,c1|?_],?_,?_,?_,?_|?_] (λt ht=>?_) ac (λk=>by rw[(G.map _).mem_iff,Zd,Yt,a3,bc]) (by rw[G.length_eq,Z9];lia) M q2
   .rw[aa];rfl
   .show I _ _ U (b6 _ _ U a5)
   .show I _ _ gr (ae _ _ gr (s3 _ _ h2))
   .rw[aq (λe=>by rw[e,ah.Qa n _ _ g8]at C;cases C)];show aa
   .show λq Y=>⟨I _ _ (λe=>by let:=(i q Y).1;rw[e,g6]at this;cases this) (i q Y).1,(i q Y).2⟩
   .intro t ht;let:=J t (G.mem_iff.mp ht);show%[this.1|b9 _ _ (λe=>by let q:=this.2;rw[e,g8]at q;cases q) this.2]
   .rcases Xn (G.mem_iff.mp ht)with z|z
    .show%[(ab t z).1.mono λx=>M.mem_iff.mpr|(ab t z).2]
    .show ak t z
def eX(T:Txt K mg):B3 P w K mg base 1 "Ground" "layers" ["self"] (uu mg):=by
 .exists T.m_Ground_layers,ng,b,j,%[g,c2,c3,c,qs,d,ts,rfl,a|k];let%[m,c1|e]:=a.at_;show%[_,%["KEH*;A~u0B"|0]|?_];change iP _ _ [hX _] H;lk;show%[_,_,_,e,T.o_Ground.cls,T.n_Ground_kept_layers,_,ρ,_,.inl (Qb.of a.a3)|λl i=>k l i]
def cQ(T:Txt K mg):B3 P w K mg base 1 "Ground" "sayings" ["self"] (qI mg):=by
 .exists T.m_Ground_sayings,mj,b,j,%[g,c2,c3,c,qs,d,ts,rfl,a|k];let%[m,c1|e]:=a.at_;show%[_,%["KEH*;A~u0B"|0]|?_];change iP _ _ [hX _] H;lk;show%[_,_,_,e,T.o_Ground.cls,T.n_Ground_kept_sayings,_,ρ,_,.inl (Qb.of a.a2)|λl i=>k l i]
def rW(T:Txt K mg):B3 P w K mg base 1 "Ground" "ties" ["self"] (AF mg):=by
 .exists T.m_Ground_ties,qt,b,j,%[g,c2,c3,c,qs,d,ts,rfl,a|k];let%[m,c1|e]:=a.at_;show%[_,%["KEH*;A~u0B"|0]|?_];change iP _ _ [hX _] H;lk;show%[_,_,_,e,T.o_Ground.cls,T.n_Ground_kept_ties,_,ρ,_,.inl (Qb.of a.a4)|λl i=>k l i]
def emB{p q:oT}(e:97+(p%26).toNat=97+(q%26).toNat):(p-q)%26=0:=oT.emod_eq_emod_iff_emod_sub_eq_zero.mp ((Q9 (NX p (show(26:oT)≠0 by decide))).symm.trans ((sU oT.ofNat (Q8 e)).trans (Q9 (NX q (show(26:oT)≠0 by decide)))))
def AG{r a w:oT}(d:0<=r)(f:r<16)(b:0<=a)(c:a<16)(e:ltr r w=ltr a w):r=a:=by
 let all:∀m∈[(1:oT),25,7,5],∀x y:Fin 16,((x.1:oT)*m-y.1*m)%26=0->x=y:=!0
 let mm:mlt w∈[(1:oT),25,7,5]:=by
  unfold mlt
  split
  .show .head _
  .split
   .show .tail _ (.head _)
   .split
    .show .tail _ (.tail _ (.head _))
    .show .tail _ (.tail _ (.tail _ (.head _)))
 let%[x|rfl]:=Xi d;let%[y|rfl]:=Xi b;let k:=emB e;rw[oT.add_sub_add_right]at k;show sU (λk:Fin 16=>(k.1:oT)) (all _ mm %[x|Xt.mp f] %[y|Xt.mp c] k)
def ux(n:lp):Mi++n=n:=lF (by change(([].toArray) ++n.cps).toList=_;simp)
def jb(n z:lp):n++o0 "."++z=lnS n z:=by unfold lnS;rw[ux]
def vP{n:lp}{c a:jg}(e:lnS n (sgn c)=lnS n (sgn a)):c=a:=by
 let:=sU (λz:lp=>z.cps.toList) e;let:((Mi++n++o0 ".").cps++ ([c].toArray)).toList=((Mi++n++o0 ".").cps++ ([a].toArray)).toList:=this;simpa using this
abbrev zH(rows:ZB)(c:jg):ri:=rows.any λz=>decide (c∈z.cps.toList)
abbrev kS(nm:lp)(w:oT)(rows:ZB)(n:jg):hH (lp×oT):=((p0 n).filter λr:jg=>zH rows (ltr r w)).map λr:jg=>(lnS nm (sgn (ltr r w)),(r:oT))
abbrev rkD(rs:hH (lp×oT)):hH (Key×V):=rs.map λp=>(kG p.1,V.int p.2)
def qJ(p:lp->ri):∀rows:ZB,decide ((rows.filter p)\3≠[])=rows.any p
 |[]=>rfl
 | z::r=>by
   let:=qJ p r;cases c:p z
   .rw[Y3,c,Zw,c];show this
   .rw[Y3,c,Zw,c];rfl
def AH(nm:lp)(w:oT)(rows:ZB)(n:jg):kS nm w rows (n+1)=kS nm w rows n++if zH rows (ltr n w)=hY then [(lnS nm (sgn (ltr n w)),(n:oT))]else []:=by
 unfold kS;rw[Pd,Y2,Zd]
 congr 1
 by_cases c:zH rows (ltr n w)=hY
 .rw[lX c,Y3,lX c];rfl
 .rw[kw c,Y3,kw c];rfl
def vQ{z:lp}:∀{rs:hH (lp×oT)},z∉rs\1->bX (rkD rs) (kG z)=hV
 |[],_=>rfl
 | p::rs,h=>by
   rw[Yq,Yw,OY]at h;rw[show rkD (p::rs)=(kG p.1,V.int p.2)::rkD rs from rfl,di (λq=>h.1 (ND q).symm)];show vQ h.2
def KJ{nm:lp}{w:oT}{rows:ZB}{n:jg}(h:n<16):lnS nm (sgn (ltr n w))∉(kS nm w rows n)\1:=λa=>by
 let%[p,b|e]:=Xp a;let%[r,c|rfl]:=Xp b;let:=yc.mp (ow.mp c).1;let:=AG ⋯ ⋯ ⋯ ⋯ (vP e)
 lia
inductive xz
 | mk (nm:lp) (w:oT) (l:ku) (rows:ZB):vs=[.str nm,.int w,.ref l]->0<=w->w<=110-> ~~~nm<=8->H l<*rows\3-> ~~~rows<=100->(∀d H',ah H H'->H d=hV->H' d∣.dK (rkD (kS nm w rows 16))->Q (.ref d) H')->xz vs H Q E0
def xA(T:Txt K mg):Cal P w K mg base 2 "_law_ranks" ["_law_name","_law_way","_law_rows"] xz:=by
 .exists T.bw,fk,ab,J,%[nm,w,l,rows,rfl,w0,w1,nl,hl,rl|kk];show%[_,%["KCF3!CS(ADBJ4C>5tuG~kA4A1BEOL~Aqi?1U2a0?2zL]rT100RBEy43I$I$0VT5PEH3",fk.nd,↑(["_law_row","_law_letter_here"],[(1,5)]),↑["_law_row","_law_letter_here"]|J]|?_]
  change aR _ _ _ [-nm,hX (.int w),!l,hV,hV,hV] H;show aj λD1 k1 _=>?_
  lk;show λd L=>k1 _ _ (aj λD2 k2 _=>ay λm M=>?_)
  lk;show%[!1,!1|M _ _ (cK (λi g U=>E2 λN v=>A3 (g=[-nm,hX (.int w),!l,!d,N,v]) (ah H U) (U d∣.dK (rkD (kS nm w rows i)))) %[_,_,ρ,ah.Qa L|aa] ?_ ?_)]
  .intro i g y hi %[N,v,rfl,B|j];change aR _ _ _ [-nm,hX (.int w),!l,!d,hX (.int (0+i)),v] y;rw[Ps];show aj λD3 k3 _=>?_
   lk;show%[i,w,ρ,⋯,⋯,w0,w1|λH2 Y=>k3 _ _ (aA λD4 k4 _=>?_)];lk;show aL λm M=>?_
   lk;let n:=Y _ _ (B _ _ hl);show%[%[_|Qb.of n]|M _ _ λF hF=>?_];show cN (λq ts g C=>A4 (∃o,g=[o,hX (.str (sgn (ltr i w)))]) (ah H2 C) (C F<*ts) (ts=((rows.take q).filter λz=>decide (ltr i w∈z.cps.toList))\3))
    %[%[hV|rfl],ah.Qa hF,aa|rfl] (λ_ _ _ H4 ⟨_,G,_,_⟩=>G _ _ n) ?_ ?_
   .intro q ts g H4 O %[%[o|rfl],I,a|r];lk;rw[show(!(J0 rows[q] (sgn (ltr i w)) 0 rows[q].length 1).isEmpty)=decide (ltr i w∈rows[q].cps.toList)from uT _ _];let tk:∀b,decide (ltr i w∈rows[q].cps.toList)=b->((rows.take (q+1)).filter λz=>decide (ltr i w∈z.cps.toList))\3=ts++if b=hY then [V.str rows[q]]else []:=λb hb=>by
     rw[r,Xa,Z4 O,Y2,Zd]
     congr 1
     change RT V.str (N8 _ [rows[q]])=_;rw[Y3,hb];cases b<;> rfl
    show .inl (bv (λc=>CK.mk O a (by rw[r,Z6];show aC (nI (Yi _ _) (by rw[Yl];lia))) %[%[_|rfl],ah.set I hF,aa|?_]) λc=>CN.mk O %[%[_|rfl],I,a|?_])
    .rw[tk _ c];rfl
    .rw[tk iv ↑c];simp
   .intro ts g C %[_,I,a|r];rw[Xd]at r;let e:decide (ts≠[])=zH rows (ltr i w):=by
     rw[r];show qJ _ rows
    show%[Xf _|λp hp=>%[ts,ah.Qa hp _ _ a,aa|?_]];rw[e,jb];let G:ah y (Qa C p (.lst [])):=(Y.trans I).trans (ah.Qa hp);let u:=G _ _ j;let sH:=B.trans G;show bv (λc=>?_) λc=>?_
    .let:=AH nm w rows i;rw[lX c]at this;show%[by rw[PySem.sizeLine_eq];change ~~~nm+1<=_;lia,by rw[PySem.sizeLine_eq,PR];change ~~~nm+1+1<=_;lia,_,gK.k (k:=kG (lnS nm (sgn (ltr i w)))) u (by unfold rkD kS;rw[Z6,Z6];show aC (nI (Yi _ _) (by rw[Yj];lia)))|k4 _ _ %[_,_,ρ,ah.set sH L|?_]];rw[aa,dX _ (vQ (KJ hi)),this];unfold rkD;rw[Zd];rfl
    .show k4 _ _ %[_,_,rfl,sH|?_];rw[u,AH,kw c,Zx]
  .intro g y %[N,v,rfl,B|j];show k2 _ _ ?_;lk;show kk d y B L j
abbrev rX(c:oT):lp:=if c%3=0 then o0 "pit" else if c%3=1 then o0 "a" else o0 "zone"
abbrev nmN(c1 c2:oT)(k:jg):lp:=rX c1++sgn (97+((c2+9*k)%26).toNat)
def KK{c:oT}:fV (97+(c%26).toNat)=hY:=by
 let all:∀i:Fin 26,fV (97+i.1)=hY:=!0
 show all %[(c%26).toNat|⋯]
def E7(c1 c2:oT)(k:jg):gE (nmN c1 c2 k)=hY:=by
 let p:∀z:lp,~~~z<=7->z.cps.toList.all fV=hY->gE (z++sgn (97+((c2+9*k)%26).toNat))=hY:=λz c a=>by
  let b: ~~~(z++sgn (97+((c2+9*k)%26).toNat))= ~~~z+1:=PR _ _;unfold gE;rw[b,show(z++sgn (97+((c2+9*k)%26).toNat)).cps.toList=z.cps.toList++[97+((c2+9*k)%26).toNat] by change(z.cps++ ([_].toArray)).toList=_;simp,hH.all_append,a];simp only[Zv,Mx];show%[%[⋯|⋯],MQ|by rw[VJ,KK];rfl]
 unfold nmN rX
 split
 .show p _ (!0) (!0)
 .split
  .show p _ (!0) (!0)
  .show p _ (!0) (!0)
def AI{c1 c2:oT}{k a:jg}(h:k<3)(h':a<3)(e:nmN c1 c2 k=nmN c1 c2 a):k=a:=by
 let e:((rX c1).cps++ ([97+((c2+9*k)%26).toNat].toArray)).toList=((rX c1).cps++ ([97+((c2+9*a)%26).toNat].toArray)).toList:=sU (λz:lp=>z.cps.toList) e;let:97+((c2+9*k)%26).toNat=97+((c2+9*a)%26).toNat:=↑e
 let all:∀x y:Fin 3,(9*(x.1:oT) -9*y.1)%26=0->x=y:=!0
 let e:=emB this;rw[oT.add_sub_add_left]at e;show sU (λk:Fin 3=>k.1) (all %[k|h] %[a|h'] e)
def qK{n a:lp}{c b:jg}(e:lnS n (sgn c)=lnS a (sgn b)):n=a:=by
 rw[<-jb,<-jb]at e;let e:(n.cps++ ([46].toArray) ++ ([c].toArray)).toList=(a.cps++ ([46].toArray) ++ ([b].toArray)).toList:=sU (λz:lp=>z.cps.toList) e;let e:n.cps.toList++[46,c]=a.cps.toList++[46,b]:=↑e
 show lF (hH.append_inj_left' e rfl)
structure xB (cs:ZH) (rs:hH (lp×oT)):Prop where
 dr:∀p∈cs,∃w cols hi,ic w cols hi/\p.2.2=bK cols hi
 rk:∀q∈rs,q.1∈cs.flatMap lyr/\0<=q.2/\q.2<16
 nd:(rs\1).Nodup
 len: ~~~rs<=16* ~~~cs
 ne:cs≠[]->rs≠[]
def xC:∀{more rs:hH (lp×oT)},((rs++more)\1).Nodup->iR (rkD rs) (rkD more)=rkD (rs++more)
 |[],rs,_=>by rw[Zx];rfl
 | p::more,rs,h=>by
   let e:rs++p::more=(rs++[p]) ++more:=by simp
   let a:p.1∉rs\1:=by
    rw[Zd,X1]at h;show λq=>h.2.2 _ q p.1 Zm rfl
   rw[e]at h ⊢;rw[<-xC h];change iR (dc (rkD rs) (kG p.1) (V.int p.2)) (rkD more)=_;rw[dX _ (vQ a)];unfold rkD;rw[Zd];rfl
def E9{p:ku×lp×ZB}{z:lp}(h:z∈lyr p):∃c,z=lnS p.2.1 (sgn c):=by
 let%[y,a|rfl]:=Xp h;let%[c,_|rfl]:=Xp (a8.mp a);show%[c|ρ]
def qL{nm:lp}{w:oT}{rows:ZB}{n:jg}{q:lp×oT}:q∈kS nm w rows n↔∃r:jg,r<n/\zH rows (ltr r w)=hY/\q=(lnS nm (sgn (ltr r w)),(r:oT)):=by
 unfold kS;rw[Pm];simp only[ow,yc];show%[λ⟨r,⟨a,b⟩,e⟩=>%[r,a,b|e.symm]|λ⟨r,a,b,e⟩=>%[r,%[a|b]|e.symm]]
def xD{rows:ZB}{c:jg}(h:c≠46):zH rows c=hY↔Let rows c:=by
 unfold zH Let;rw[Sc];show%[λ⟨z,a,b⟩=>%[h,z,a|Zo b]|λ⟨_,z,a,b⟩=>%[z,a|Zf b]]
def xB.snoc{cs:ZH}{rs:hH (lp×oT)}(h:xB cs rs){a:ku}{nm:lp}{w:oT}{b:hH (hH jg)}{hi:jg}(d:ic w b hi)(fr:nm∉cs.map (·.2.1)):xB (cs++[(a,nm,bK b hi)]) (rs++kS nm w (bK b hi) 16):=by
 show%[λp g=>?_,λq f=>?_,?_,?_|λ_=>?_]
 .rcases Xn g with g|g
  .show h.dr p g
  .rw[Xo g];show%[w,b,hi,d|ρ]
 .rw[O3,Yt];rcases Xn f with f|f
  .show%[.inl (h.rk q f).1|(h.rk q f).2]
  .let%[r,m,o|rfl]:=qL.mp f;show%[.inr (ME.mpr %[_,hH.mem_singleton_self _|ja (p:=(a,nm,bK b hi)) ((xD (kP _ _)).mp o)]),by change(0:oT)<=(r:oT);lia|by change(r:oT)<16;lia]
 .rw[Zd,X1];show%[h.nd,?_|λx i y j e=>?_]
  .unfold kS;rw[Ys,X2,X8];show Xh (λ{x y} i j n e=>n ?_) (X2.mp (Rx.filter _));let s:=yc.mp (ow.mp i).1;let B:=yc.mp (ow.mp j).1;let:=AG ⋯ ⋯ ⋯ ⋯ (vP e)
   lia
  .let%[p,g|rfl]:=Xp i;let%[q,f|rfl]:=Xp j;let%[c,u|v]:=ME.mp (h.rk p g).1;let%[l|z]:=E9 v;let%[r,_,_|rfl]:=qL.mp f;show fr (Xq %[c,u|qK (z.symm.trans e)])
 .rw[Z9,Z9,Yk];let s:=h.len;let: ~~~(kS nm w (bK b hi) 16)<=16:=by
   unfold kS;rw[Z6];show nI (Yi _ _) (by rw[Yj];lia)
  lia
 .let%[r,A,m|l]:=d.ex;let%[r|rfl]:=Xi A;intro e;let:(lnS nm (sgn (ltr r w)),(r:oT))∈rs++kS nm w (bK b hi) 16:=mem_append.mpr (.inr (qL.mpr %[r,⋯,(xD (kP _ _)).mpr l|rfl]));rw[e]at this;show nomatch this
inductive AJ (K:ZA)
 | mk (a:ku) (ns:ZL):vs=[.ref a]->Qb K H a (ns\4)->(∀(t l1 l2:ku) H' (cs:ZH) (rs:hH (lp×oT)),ah H H'->H' t<*[.ref l1,.ref l2]->H l1=hV->H' l1<*bL cs->H' l2∣.dK (rkD rs)->1<= ~~~cs-> ~~~cs<=3->bV H' cs->(cs.map (·.2.1)).Nodup->xB cs rs->Q (.ref t) H')->AJ K vs H Q E0
def zI(T:Txt K mg):Cal P w K mg base 3 "_law_cuts" ["_law_script"] (AJ K):=by
 .exists T.bx,dq,be,hr,%[a,ns,rfl,hs|kk];show%[_,%["KCF1G~QA0ADADADBCF2RBCF3!CS(AIdDIYQ1DDBJ4CF5I$QRAVAVAVBIYQ1DD~DVIYIdQ1DI%D4DCF6G]sAG~QA0AIdD4ADADBAQ1IdD4BCXsn2AbA5A~W~XVA6BBBEX~[~03AG]tA5AQ1IdD4A6BBEHRA2A3B",dq.nd|hr]|?_]
  change aR _ _ _ [!a,hV,hV,hV,hV,hV,hV] H;show aj λD1 k1 _=>?_
  lk;show%[a,ns,1,26,6,ρ,hs,!1,!1,!1,!1,!1,!1|λhd H1 xs s1 _ L hx hb=>k1 _ _ (aj λD2 k2 _=>?_)];let get:∀i:oT,0<=i->i<6->∃c,atI (xs\4) i∣V.int c/\0<=c/\c<26:=λi h0 h1=>by
   let%[c,e|hm]:=mo xs h0 (by rw[hx];show h1);show%[c,e|hb c hm]
  let%[c0,g0,l0|u0]:=get 0 (!1) (!1);let%[c1,g1,l1|u1]:=get 1 (!1) (!1);let%[c2,g2,l2|u2]:=get 2 (!1) (!1);lk;show%[Xf _|λC hC=>k2 _ _ (aj λD3 k3 _=>?_)];let sC:=s1.trans (ah.Qa (o:= .lst []) hC);lk;show λD hD=>k3 _ _ (aj λD4 k4 _=>ay λbc hK=>?_)
  let sD:=ah.Qa (o:= .dK []) hD;let ab:C≠D:=λe=>by rw[e,aa]at hD;cases hD
  let fC:=s1.free hC;let al:hd≠C:=λe=>by rw[e,hC]at L;cases L
  let fD:=sC.free hD;let ac:=sD _ _ (ah.Qa (o:= .lst []) hC _ _ L);lk;obtain⟨n,en,n1,n3⟩:∃n:jg,1+c0%3=n/\1<=n/\n<=3:=%[(1+c0%3).toNat,(by lia -verbose),(by lia -verbose)|(by lia -verbose)]
  show%[_,Qb.of ac,_,g0,!1|?_];rw[en];show%[(by lia -verbose),(by lia -verbose)|hK _ _ (cK (λi σ v=>E5 λ(o4 o5 o6:lx V) (cs:ZH) (rs:hH (lp×oT))=>A8 (σ=[!a,!hd,!C,!D,o4,o5,o6]) (ah H v) (v hd<*xs\4) (v C<*bL cs) (v D∣.dK (rkD rs)) (bV v cs) (xB cs rs) (cs.map (·.2.1)=(p0 i).map (nmN c1 c2)))
   %[_,_,_,[],[],ρ,sC.trans sD,ac,sD _ _ aa,aa,(λ_ h=>nomatch h),%[(λ_ h=>nomatch h),(λ_ h=>nomatch h),X3,Xf _|λh=>(h rfl).elim]|ρ] ?_ ?_)]
  .intro i σ v hi %[o4,o5,o6,cs,rs,rfl,sm,j,u,B,l,ok|m];change aR _ _ _ [!a,!hd,!C,!D,hX (.int (0+i)),o5,o6] v;rw[Ps];let i3:i<3:=by lia -verbose
   let%[cw,gw,lw|uw]:=get (3+i) (by lia -verbose) (by lia -verbose);show aj λD5 k5 _=>?_
   lk;show%[#[3]|λp hp=>?_];let sp:=ah.Qa (o:= .lst [V.str (!"pit"),V.str (!"a"),V.str (!"zone")]) hp;show%[_,Qb.of (sp _ _ j),_,g1,!1,_,Qb.of aa,.str (rX c1),?_,_,Qb.of (sp _ _ j),_,g2,.inl %[!1|!1],!1,#[26],_,EV (by lia -verbose) (by lia -verbose),?_|k5 _ _ (aj λD6 k6 _=>?_)]
   .unfold rX;rcases(show c1%3=0\/c1%3=1\/c1%3=2 by lia -verbose)with e|e|e<;> rw[e]<;> rfl
   .let: ~~~(rX c1)<=4:=by
     unfold rX
     split
     .decide +kernel
     .split<;> decide +kernel
    rw[PySem.sizeLine_eq];change(rX c1).length+1<=_
    lia -verbose
   let ae:gE (nmN c1 c2 i)=hY:=E7 c1 c2 i;let an:nmN c1 c2 i∉cs.map (·.2.1):=λh=>by
    rw[m]at h;let%[k,hk|e]:=Xp h;let:=yc.mp hk;let:=AI (by lia -verbose) i3 e
    lia -verbose
   let ag:∀q:ku,∀r,(cs++[(q,nmN c1 c2 i,r)]).map (λp:ku×lp×ZB=>p.2.1)=(p0 (i+1)).map (nmN c1 c2):=λq r=>by rw[Zd,m,Pd,Zd];rfl
   let as:rX c1++(⟨([97+((c2+9*(i:oT))%26).toNat].toArray)⟩:lp)=nmN c1 c2 i:=rfl;rw[as];lk;let bf:=hp
   generalize Qa v p _=H2 at sp
   show%[a,ns,2+i,6,30,ρ,(sm.trans sp).seq hs,(by lia -verbose),(by lia -verbose),!1,!1,!1,!1|λds H3 ys s3 _ a0 hy a1=>%[_,Qb.of ((sp.trans s3) _ _ j),_,gw,ds,ys,cw,ρ,Qb.of a0,hy,a1,lw,(by lia -verbose)|λR H4 g I s4 fR hR dr=>k6 _ _ (aj λD7 k7 _=>?_)]];let s5:=sp.trans (s3.trans s4);let M:=s5 _ _ u;lk;let cl: ~~~cs=i:=by let:=sU MR m;rwa[Z6,Z6,Yj]at this
   show%[tyL (Qb.of M),bK g I,Qb.of hR,?_,#[2]|λt ht=>?_]
   .let:=dr.cut.sum;let:=dr.cut.high;rw[show(!"\n").length=1 from rfl]
    lia -verbose
   let ej:Txt.join (!"\n") (bK g I)=vj nl (bK g I):=Ow _ _;rw[ej];let st:=ah.Qa (o:= .tup [V.str (nmN c1 c2 i),V.str (vj nl (bK g I))]) ht;let gt:=own st
   generalize Qa H4 t _=H5 at st gt
   let a2:t≠C:=λe=>by rw[e,M]at ht;cases ht
   show%[_,st _ _ M,by unfold bL;rw[Z6,cl];show aC (by lia -verbose)|k7 _ _ (aA λD8 k8 _=>?_)];let N:∀b o,b≠C->v b∣o->Qa H5 C (.lst (bL cs++[V.ref t])) b∣o:=λb o n e=>by rw[aq n];show st _ _ (s5 _ _ e)
   let a3:Qa H5 C (.lst (bL cs++[V.ref t])) C<*bL (cs++[(t,nmN c1 c2 i,bK g I)]):=by rw[aa];unfold bL;rw[Zd];rfl
   lk;let a4:R≠C:=λe=>by rw[e,(sp.trans s3) _ _ u]at fR;cases fR
   let sC:ah H (Qa H5 C (.lst (bL cs++[V.ref t]))):=ah.set (sm.trans (s5.trans st)) fC;let G:=N _ _ (I0 ab) B;let O:bV (Qa H5 C (.lst (bL cs++[V.ref t]))) (cs++[(t,nmN c1 c2 i,bK g I)]):=λq J=>by
    rcases Xn J with z|z
    .show%[N _ _ (λe=>?_) (l q z).1|(l q z).2];let:=(l q z).1;rw[e,u]at this;cases this
    .rw[Xo z];show%[by rw[aq a2];show gt,ae|dr.cut]
   let U:=ok.snoc (a:=t) dr an;let ak:=N _ _ al j;show%[tyD G,_,Qb.of ak,_,gw,_,_,_,_,ρ,lw,(by lia -verbose),iM ae,(by rw[aq a4];show st _ _ hR),?_|λd H7 s7 fd a5=>?_]
   .let:=dr.cut.high
    lia -verbose
   let a6:D≠d:=λe=>by rw[<-e,G]at fd;cases fd
   let bb:=s7 _ _ G;let Y:∀b o,b≠D->Qa H5 C (.lst (bL cs++[V.ref t])) b∣o->Qa H7 D (.dK (iR (rkD rs) (rkD (kS (nmN c1 c2 i) cw (bK g I) 16)))) b∣o:=λb o n e=>by rw[aq n];show s7 _ _ e
   show%[d,ρ,_,_,a6,bb,a5,?_|k8 _ _ %[_,_,_,_,_,ρ,ah.set (sC.trans s7) fD,Y _ _ (λe=>by rw[e,B]at j;cases j) ak,Y _ _ ab a3,by rw[aa,xC U.nd],λq J=>?_,U|ag _ _]]
   .let:=U.len;rw[Z9]at this;unfold rkD;rw[Z6,Z6];rw[Z9,Yk,cl]at this;show Yf (aC (by lia -verbose))
   .show%[Y _ _ (λe=>?_) (O q J).1|(O q J).2];let:=(O q J).1;rw[e,G]at this;cases this
  .intro σ v %[o4,o5,o6,cs,rs,rfl,sm,j,u,B,l,ok|m];show k4 _ _ ?_;lk;show%[#[2]|λp hp=>?_];let sp:=ah.Qa (o:= .lst [V.ref C,V.ref D]) hp;let cl: ~~~cs=n:=by let:=sU MR m;rw[Z6,Z6,Yj]at this;lia -verbose
   show kk p C D _ cs rs (sm.trans sp) aa fC (sp _ _ u) (sp _ _ B) (by lia -verbose) (by lia -verbose) (λq J=>%[sp _ _ (l q J).1|(l q J).2]) ?_ ok;rw[m,X2,X8];show Xh (λ{x y} hx hy ne e=>ne (AI ?_ ?_ e)) (X2.mp Rx)
   .let:=yc.mp hx;lia -verbose
   .let:=yc.mp hy;lia -verbose
def vR{rs:hH (lp×oT)}(nd:(rs\1).Nodup){z:lp}(h:z∈rs\1):∃r,(z,r)∈rs/\bX (rkD rs) (kG z)∣V.int r:=by
 induction rs with
 | nil=>show nomatch h
 | cons p rs a=>
   rw[Yq,NE]at nd;by_cases e:p.1=z
   .subst e;show%[p.2,Zm|eR rfl]
   .let%[r,b|c]:=a nd.2 ((Yw.mp h).resolve_left λq=>e q.symm);show%[r,Zk _ b|?_];rw[show rkD (p::rs)=(kG p.1,V.int p.2)::rkD rs from rfl,di (λq=>e (ND q))];show c
inductive Fa
 | mk (one other:lp) (d:ku) (rs:hH (lp×oT)):vs=[.str one,.str other,.ref d]->H d∣.dK (rkD rs)->(rs\1).Nodup->one∈rs\1->other∈rs\1->(∀(t:ku) H' (w a b:lp),ah H H'->H t=hV->H' t&&&[.str w,.str a,.str b]->(w="later"\/w="same")->((a=one/\b=other)\/(a=other/\b=one))->Q (.ref t) H')->Fa vs H Q E0
def Cs(T:Txt K mg):Cal P w K mg base 1 "_law_tie" ["_law_one","_law_other","_law_ranks_here"] Fa:=by
 .exists T.bz,zD,m,g,%[one,c,d,rs,rfl,i,nd,n,o|q];let%[r,C|v1]:=vR nd n;let%[u,m2|v]:=vR nd o;let j:b8 H d (.str one) (hX (.int r)):=v1▸b8.k (k:=kG one) i;let l:b8 H d (.str c) (hX (.int u)):=v▸b8.k (k:=kG c) i;show%[_,%["KCOL~VW20W21EHbAVA0A1BPCOL=W20W21EHbAVA1A0BPEHbAVA0A1B",0|g]|?_]
  change aR _ _ _ [-one,-c,!d] H;let tup:∀(w a b:lp),(w="later"\/w="same")->((a=one/\b=c)\/(a=c/\b=one))->[V.str w,V.str a,V.str b].length<=md/\∀(p:ku),H p=hV->Q (.ref p) (Qa H p (.tup [.str w,.str a,.str b])):=λw a b hw h=>%[#[3]|λp e=>q p _ w a b (ah.Qa e) e aa hw h]
  show aj λG k1 z=>?_
  lk;show%[_,j,_,l|bv (λ_=>?_) λ_=>k1 _ _ (aj λI k2 B=>?_)]
  .let%[x|y]:=tup "later" one c (.inl rfl) (.inl %[rfl|rfl]);show%[x|λp e=>z _ _ (y p e)]
  lk;show%[_,j,_,l|bv (λ_=>?_) λ_=>k2 _ _ ?_]
  .let%[x|y]:=tup "later" c one (.inl rfl) (.inr %[rfl|rfl]);show%[x|λp e=>B _ _ (y p e)]
  lk;show tup "same" one c (.inr rfl) (.inl %[rfl|rfl])
inductive AK (K:ZA)
 | mk (l d:ku) (xs:ZL) (rs:hH (lp×oT)) (torn wild:ri):vs=[.ref l,.ref d,.bl torn,.bl wild]->H l<*xs\4-> ~~~xs=6->(∀x∈xs,0<=x/\x<211)->H d∣.dK (rkD rs)->(rs\1).Nodup->rs≠[]-> ~~~rs<=63->(∀q∈rs,0<=q.2/\q.2<16)->(∀(t:ku) H' (xs:ZM),ah H H'->H' t&&&xs->my (rs\1) xs->Q (.ref t) H')->AK K vs H Q E0
def zJ(T:Txt K mg):Cal P w K mg base 2 "_law_said" ["_law_digits_here","_law_ranks_here","_law_torn","_law_wild"] (AK K):=by
 .exists T.bA,cT,bc,hr,%[l,d,xs,rs,m,r,rfl,hl,hx,hb,hd,nd,ne,rl,rb|kk];let get:∀i:oT,0<=i->i<6->∃c,atI (xs\4) i∣V.int c/\0<=c/\c<211:=λi h0 h1=>by
   let%[c,e|hm]:=mo xs h0 ⋯;show%[c,e|hb c hm]
  let%[c0,g0,l0|u0]:=get 0 (!1) (!1);let%[c1,g1,l1|u1]:=get 1 (!1) (!1);let%[c2,g2,l2|u2]:=get 2 (!1) (!1);let%[c3,g3,l3|u3]:=get 3 (!1) (!1);let%[c4,g4,l4|u4]:=get 4 (!1) (!1);show%[_,%["KCF4,]uAT1BC>5tuQ4IYQ0DefA4BCF6Q4IYQ0DefA4BCOh/L~VIYQ0DDD^L~1T56CF7G]vAT5A6AT1BCOh/Z2^L:IYQ0DDDEHbAN7DAN7DAN7DBPEH7PCOL:IYQ0DDDC~c8uti?1U4a0?2zh/L:WT20WT2T1^L~10T10EOL~A8RBEHbAVAT5AQ8IYQ0DefA8BBPPCF9IdI~MDI%DWT1T5I_Q0DDCOZ3EF9I~MId9Q0DDPCOL:IYQ0DDDEHbAVAT5AQRA9A~vDB~h~iAl:IYQ0DDDBBPEHbAVAT5AQRAId9DADB~h~iAl:IYQ0DDDBB",cT.nd,↑(["_law_name","_law_one","_law_ranks_here"],[(1,5),(2,1)]),↑["_law_name","_law_one","_law_ranks_here"]|hr]|?_]
  change aR _ _ _ [!l,!d,hX (.bl m),hX (.bl r),hV,hV,hV,hV,hV,hV] H;show aj λD1 k1 _=>?_
  lk;show%[_,.inl hd,rs\1,by unfold rkD;rw[Ys,Ys];rfl,by rw[Z6];lia|λL ss hL pm _=>k1 _ _ (aj λD2 k2 _=>?_)];let s1:=ah.Qa (o:= .lst (ss\3)) hL;let C:Qa H L (.lst (ss\3)) L=_:=aa
  generalize Qa H L _=H1 at s1 C
  let G:=s1 _ _ hl;let ae:=s1 _ _ hd;let sl: ~~~ss= ~~~rs:=by rw[pm.length_eq,Z6]
  let a6:0< ~~~rs:=NF.mpr ne;let Y:∀{ys:ZB} (n:oT),0< ~~~ys->∃z,atI (ys\3) (n%(~~~ys:oT))∣V.str z/\z∈ys:=λ{ys} n M=>by
   let h0:=NX n (show(~~~ys:oT)≠0 by lia);let h1:=Px n (show(0:oT)<(~~~ys:oT) by lia)
   generalize n%(~~~ys:oT)=i at h0 h1
   let%[j|rfl]:=Xi h0;let hj:j< ~~~ys:=by lia
   show%[ys[j],bu (by simp[hj])|Yd hj]
  let%[one,e1|m1]:=Y (ys:=ss) c1 ⋯;let%[g,e2|m2]:=Y (ys:=ss) c2 ⋯;let N:=pm.mem_iff.mp m1;let ag:=pm.mem_iff.mp m2;let al: ~~~(ss\3)= ~~~ss:=Z6 _;lk;show%[_,Qb.of G,_,g1,~~~ss,.inl %[_,Qb.of C|al.symm],⋯,_,Qb.of C,_,e1|k2 _ _ (aj λD3 k3 _=>?_)];lk;show%[_,Qb.of G,_,g2,~~~ss,.inl %[_,Qb.of C|al.symm],⋯,_,Qb.of C,_,e2|k3 _ _ (aj λD4 k4 r4=>?_)];lk;let%[r1,a0|v1]:=vR nd N;let be:=rb _ a0;let dg:∀I,ah H1 I->b8 I d (.str one) (hX (.int r1)):=λI s2=>v1▸b8.k (k:=kG one) (s2 _ _ ae)
  suffices rest:∀oo,D4.nx [!l,!d,hX (.bl m),hX (.bl r),!L,-one,-g,oo,hV,hV] H1 by
   show%[_,Qb.of G,_,g0,!1|bv (λ_=>bv (λab=>?_) λ_=>rest _) λ_=>rest _];let ab:one≠g:=↑ab
   show%[_,_,_,_,ρ,ae,nd,N,ag|λt I w a b s2 ft B hw an=>?_];let J:=s2 _ _ G;let ok:∀a b,((a=one/\b=g)\/(a=g/\b=one))->my (rs\1) [.str w,.str a,.str b]:=λa b h=>by
    rcases h with⟨rfl,rfl⟩|⟨rfl,rfl⟩
    .show .inl %[w,_,_,rfl,hw,N,ag|ab]
    .show .inl %[w,_,_,rfl,hw,ag,N|I0 ab]
   let a1:=ok a b an;let a2:=ok b a (an.elim (λh=> .inr %[h.2|h.1]) λh=> .inl %[h.2|h.1]);let fin:D4.rt (.ref t) I:=r4 _ _ (kk t I _ (s1.trans s2) B a1);show bv (λ_=>?_) λ_=>fin
   show%[_,Qb.of J,_,g3,!1|bv (λ_=>?_) λ_=>fin];show%[_,SqT.of B,.str w,ρ,_,SqT.of B,.str b,ρ,_,SqT.of B,.str a,ρ,#[3]|λp M=>r4 _ _ (kk p _ _ (s1.trans (s2.trans (ah.Qa M))) aa a2)]
  intro oo;show k4 _ _ (aj λD5 k5 r5=>?_);lk
  suffices yr:∀o8 I,ah H1 I->D5.nx [!l,!d,hX (.bl m),hX (.bl r),!L,-one,-g,oo,o8,hV] I by
   show%[_,Qb.of G,_,g0,!1|bv (λ_=>?_) λ_=>yr _ _ (ah.refl H1)];show aL λbb hK=>?_
   lk;show%[%[_|Qb.of C]|hK _ _ λF hF=>?_];show cN (λq ts σ I=>A4 (∃o,σ=[o,-one,!d]) (ah H1 I) (I F<*ts) (∃ys:ZB,A3 (ts=ys\3) (~~~ys<=q) (∀y∈ys,y∈rs\1/\y≠one)))
    %[%[hV|rfl],ah.Qa hF,aa,[],rfl,Xf _|λ_ h=>nomatch h] (λ_ _ _ H4 ⟨_,s4,_,_⟩=>s4 _ _ C) ?_ ?_
   .intro q ts σ H4 hq %[%[o|rfl],s3,O,ys,B,yl|U];let as:=pm.mem_iff.mp (Yd hq);let%[rq,mq|vq]:=vR nd as;let gq:b8 H4 d (.str ss[q]) (hX (.int rq)):=vq▸b8.k (k:=kG ss[q]) (s3 _ _ ae);lk;show%[_,gq,_,dg _ s3|bv (λ_=>bv (λc=>?_) λ_=>?_) λ_=>?_]
    .let c:ss[q]≠one:=↑c
     show CK.mk hq O (by rw[B,Z6];show aC ⋯) ⟨%[_|rfl],ah.set s3 hF,aa,ys++[ss[q]],by rw[B,Zd];rfl,by rw[Z9];show X9 yl,λy hy=>by
      rcases Xn hy with z|z
      .show U y z
      .rw[Xo z];show%[as|c]⟩
    .show CN.mk hq %[%[_|rfl],s3,O,ys,B,⋯|U]
    .show CN.mk hq %[%[_|rfl],s3,O,ys,B,⋯|U]
   .intro ts σ H3 %[_,s3,O,ys,B,yl|U];show%[Xf _|λp M=>%[ts,ah.Qa M _ _ O,aa|bv (λc=>?_) λ_=>?_]]
    .let a3:0< ~~~ys:=by
      cases ys with
      | nil=>show n0 B (Zo c)
      | cons=>show TR _
     let%[z,ez|mz]:=Y (ys:=ys) c2 a3;let sp:=ah.Qa (o:= .lst []) M;let ak:=sp _ _ O;rw[B]at ak;show%[_,Qb.of ((s3.trans sp) _ _ G),_,g2,~~~ys,.inl %[_,Qb.of ak|(Z6 _).symm],⋯,_,Qb.of ak,_,ez,#[3]|λt a4=>r5 _ _ (kk t _ _ (s1.trans ((s3.trans sp).trans (ah.Qa a4))) aa (.inl %[_,_,_,ρ,.inr rfl,N,(U z mz).1|I0 (U z mz).2]))]
    .show yr _ _ (s3.trans (ah.Qa M))
  intro o8 I s2;show k5 _ _ (aj λD6 k6 _=>?_);lk;let J:=s2 _ _ G;let a5:=s1.trans s2;show%[_,dg _ s2,.inl %[!1|!1],_,Qb.of J,_,g3,%[!1|!1]|k6 _ _ (aj λD7 k7 _=>?_)];let yb: -900<=800-100*r1+c3/5/\800-100*r1+c3/5<=900:=by lia
  generalize 800-100*r1+c3/5=y at yb
  lk
  suffices fin:∀y:oT,-2000<=y->y<=2000->D7.nx [!l,!d,hX (.bl m),hX (.bl r),!L,-one,-g,oo,o8,hX (.int y)] I from
   bv (λ_=>%[_,Qb.of J,_,g4|fin _ ⋯ ⋯]) λ_=>fin _ ⋯ ⋯
  intro y y0 y1;show k7 _ _ (aj λD8 k8 r8=>?_);let pk:∀(u v:oT) (b:ri),atI [V.int u,V.int v] (if b=hY then 1 else 0)∣V.int (if b=hY then v else u):=λu v b=>by cases b<;> rfl
  let ac:∀(w:lp) (u:oT) (p:ku) (H3:Hp),(w="since"\/w="by")-> -9999<=u->u<=9999->ah I H3->H3 p=hV->Q (.ref p) (Qa H3 p (.tup [.str w,.str one,.int u])):=λw u p H3 hw u0 u1 s3 M=>kk p _ _ (a5.trans (s3.trans (ah.Qa M))) aa (.inr %[w,one,u,rfl,hw,N,u0|u1])
  lk;show%[_,Qb.of J,_,g0,!1|bv (λ_=>?_) λ_=>k8 _ _ ?_]
  .show%[#[2]|λp M=>%[_,Qb.of (ah.Qa M _ _ J),_,g4,!1,_,Qb.of aa,_,pk _ _ _,#[3]|λt B=>r8 _ _ (ac _ _ t _ (.inl rfl) ?_ ?_ (ah.Qa M) B)]]<;> split<;> lia
  .lk;show%[#[2]|λp M=>%[_,Qb.of (ah.Qa M _ _ J),_,g4,!1,_,Qb.of aa,_,pk _ _ _,#[3]|λt B=>ac _ _ t _ (.inr rfl) ?_ ?_ (ah.Qa M) B]]<;> split<;> lia
def jY{H:Hp}{M:ku}{xs ys:ZM}(h:H M<*xs):∀b z,H b&&&z->Qa H M (.lst ys) b&&&z:=λb z e=>by
 rw[aq (λa=>by rw[a,h]at e;cases e)];show e
structure oE (H:Hp) (cs:ZH) (qs:ZN):Prop where
 c1:1<= ~~~cs
 c3: ~~~cs<=3
 ca:bV H cs
 nd:(cs.map (·.2.1)).Nodup
 few:∀p∈cs,rO p.2.2
 ly: ~~~(cs.flatMap lyr)<=63
 sa:cC H (cs.flatMap lyr) qs
 ql: ~~~qs<=36
inductive uy (K:ZA)
 | mk (a:ku) (ns:ZL):vs=[.ref a]->Qb K H a (ns\4)-> ~~~ns<=1000->(∀(t l1 l2:ku) H' (cs:ZH) (qs:ZN),ah H H'->H' t<*[.ref l1,.ref l2]->H' l1<*bL cs->H' l2∣.lst (qs\0)->oE H' cs qs->Q (.ref t) H')->uy K vs H Q E0
abbrev bC(w:oT):ZB:=(p0 26).map λr:jg=>sgn (ltr r w)
abbrev nmT(k:jg):lp:=if k=0 then o0 "zone" else o0 "pit"
abbrev eA(W:jg->oT)(i:jg):ZB:=(p0 i).flatMap λk=>(bC (W k)).map (lnS (nmT k))
def gF(W:jg->oT)(i:jg):eA W (i+1)=eA W i++(bC (W i)).map (lnS (nmT i)):=by unfold eA;rw[Pd,O3];simp
def fP(W:jg->oT):∀i,~~~(eA W i)=26*i
 | 0=>rfl
 | i+1=>by rw[gF,Z9,fP W i,Z6];unfold bC;rw[Z6,Yj];rfl
def qM{w:oT}{i:jg}{z:lp}(h:(bC w)[i]?∣z):z=sgn (ltr i w):=by
 unfold bC at h;rw[Zl]at h;by_cases c:i<26
 .rw[Rz c]at h;show(Za h).symm
 .rw[Xl ↑c]at h;cases h
def xE(k:jg):gE (nmT k)=hY:=by unfold nmT;split<;> decide +kernel
def iN(w:oT): ~~~(bC w)=26:=by unfold bC;rw[Z6,Yj]
def nq{w:oT}{i:jg}(h:i<26):(bC w)[i]?∣sgn (ltr i w):=by unfold bC;rw[Zl,Rz h];rfl
def Me(W:jg->oT):(eA W 2)[25]?∣lnS (nmT 0) (sgn (ltr (25:jg) (W 0))):=by
 rw[gF,Y9 (by rw[fP];lia),gF,show eA W 0=[]from rfl,TX,Zl,nq ⋯];rfl
def Mf(W:jg->oT):(eA W 2)[26]?∣lnS (nmT 1) (sgn (ltr (0:jg) (W 1))):=by
 rw[gF,Ya (by rw[fP];lia),fP,Zl,nq ⋯];rfl
def jZ{w:oT}{z:lp}(h:z∈bC w):∃r:jg,z=sgn (ltr r w):=by
 let%[r,_|rfl]:=Xp h;show%[r|ρ]
def zK{x j c:jg}(h:(sgn x).cps[j]?∣c):j=0/\c=x:=by
 let h:[x][j]?∣c:=by simpa [sgn]using h
 match j,h with
 | 0,h=>cases h;show%[ρ|ρ]
def KL(w:oT):cS (bC w):=by
 let len: ~~~(bC w)=26:=by unfold bC;rw[Z6,Yj]
 show%[⋯,⋯,%[1,⋯,⋯|λz a=>?_],λz a=>?_,λi r f g e j c h l d b=>?_|?_]
 .let%[r|rfl]:=jZ a;rfl
 .let%[r|rfl]:=jZ a;change([ltr r w]).all okc=hY;rw[VJ];unfold okc;rw[AB,RW];rfl
 .rw[qM e]at d;show n0 ((zK d).2.symm.trans b) (kP _ w)
 .show%[sgn (ltr (0:jg) w),Xq %[0,yc.mpr ⋯|ρ],ltr (0:jg) w,by change _∈[_];show Zm|kP _ w]
def fewT(w:oT):rO (bC w):=by
 show%[(p0 26).map λi:jg=>[sgn (ltr i w),sgn (ltr (i+1:jg) w)],by rw[Z6,Yj];lia|?_];intro a b %[_,_,i,j,r,g,c,f,d|e];let hi:=(Xm c).1;let len: ~~~(bC w)=26:=by unfold bC;rw[Z6,Yj]
 rw[qM c]at d;rw[qM f]at e;rw[(zK d).2,(zK e).2];show Xq %[i,yc.mpr ⋯|rfl]
def Mg{p:ku×lp×ZB}{w:oT}(e:p.2.2=bC w): ~~~(lyr p)<=26:=by
 let:=_ST.nodup_sub (dj ((cU p.2.2).map sgn)) (m:=bC w) λy d=>by
  let%[c,f|rfl]:=Xp (a8.mp d);let%[_,r,a|b]:=fM.mp f;rw[e]at a;let%[k|rfl]:=jZ a;let:c∈[ltr k w]:=b;rw[Xo this];show a
 unfold lyr;rw[Z6];show nI this (by unfold bC;rw[Z6,Yj];show Zi _)
def letT{w:oT}{r:jg}(h:r<26):Let (bC w) (ltr r w):=%[kP _ _,sgn (ltr r w),Xq %[r,yc.mpr h|rfl]|by change _∈[_];show Zm]
def Ct{W:jg->oT}{n:jg}{z:lp}(h:z∈eA W n):∃k r:jg,k<n/\r<26/\z=lnS (nmT k) (sgn (ltr r (W k))):=by
 let%[k,a|b]:=ME.mp h;let%[y,c|rfl]:=Xp b;let%[r,d|rfl]:=Xp c;show%[k,r,yc.mp a,yc.mp d|ρ]
abbrev NmD(a:ZB)(f:lp->lp):hH (Key×V):=a.map λz=>(kG z,V.str (f z))
def iA:∀{a:ZB},z∈a->bX (NmD a f) (kG z)∣.str (f z)
 |[],h=>(nomatch h)
 | x::a,h=>by
   by_cases e:x=z
   .subst e;show eR rfl
   .rw[show NmD _ f=(kG x,V.str _)::NmD a f from rfl,di (λq=>e (ND q))];show iA (by rcases Yw.mp h with q|q;show(e q.symm).elim;show q)
def Fb:((NmD b f).any λa=>decide (a.1=(kG z:Key)))=hY↔z∈b:=by
 rw[Sc]
 constructor
 .rintro⟨a,c,d⟩;let%[x,e|rfl]:=Xp c
  simp_all
 .intro h;show%[_,Xq %[z,h|ρ]|Zf rfl]
def qN(h:z∈a):dc (NmD a f) (kG z) (.str v)=NmD a (λx=>if x=z then v else f x):=by
 unfold dc;rw[lX (Fb.mpr h)];unfold NmD;rw[Ys];show Yp λx _=>?_
 change(if(kG x)=kG z then((kG x),V.str v)else(kG x,V.str _))=(kG x,V.str (if x=z then v else f x))
 by_cases e:x=z
 .rw[lX (sU _ e),lX e]
 .rw[kw (λq=>e (ND q)),kw e]
def Fc(h:z∉a):dc (NmD a id) (kG z) (.str z)=NmD (a++[z]) id:=by
 unfold dc;rw[kw (λq=>h (Fb.mp q))];unfold NmD;rw[Zd];rfl
abbrev xF(a:ZB)(z:lp):jg:=a.countP λu=>aO u z
def qO(c:x∈b)(h:aO x y=hY):xF b x<xF b y:=by
 unfold xF
 induction b with
 | nil=>cases c
 | cons u l d=>
   let f:l.countP (λu=>aO u x)<=l.countP λu=>aO u y:=hH.countP_mono_left λu _ a=>dR a h
   rw[Qq,Qq];rcases Yw.mp c with rfl|e
   .rw[kw (by rw[dz];simp),lX h]
    lia
   .let:=d e;by_cases a:aO u x=hY
    .rw[lX a,lX (dR a h)]
     lia
    .rw[kw a]
     split<;> lia
abbrev aQ(qs:ZN)(a b:lp):Prop:=∃q∈qs,q.2=[.str "same",.str a,.str b]
def j3{S R:lp->lp->Prop}(F:bT c f r S)(h:∀a b,S a b↔R a b):bT c f r R:=by
 rw[funext λa=>funext λb=>(propext (h a b)).symm];show F
inductive Fd
 | mk (d z ls f r S):vs=[.ref d,.str z]->H d∣.dK (NmD ls f)->bT ls f r S->z∈ls->Q (.str (r z)) H->Fd vs H Q E0
inductive AL
 | mk (d a b ls f r S):vs=[.ref d,.str a,.str b]->H d∣.dK (NmD ls f)->bT ls f r S->a∈ls->b∈ls-> ~~~ls<=5000->(∀f' r',bT ls f' r' (λx y=>S x y\/(x=a/\y=b))->Q .non (Qa H d (.dK (NmD ls f'))))->AL vs H Q E0
def gG(T:Txt K mg):Cal P w K mg base 1 "least_pointed_to" ["names","layer"] Fd:=by
 .exists T.aF,e9,q,i,%[d,z,e,p,r,S,rfl,u,F,v|j];show%[_,%["KC~RL+W011EF1W01EH1",e9.nd|i]|aj λB k1 _=>⟨λm l g=>∃y,l=[hX _,-y]/\g=H/\y∈e/\r y=r z/\m=xF e y,%[_,z,ρ,ρ,v,ρ|ρ],?_⟩]
  intro m l g %[y,rfl,rfl,a,b|rfl];lk;let n:=by
   let:=b8.k (k:=kG y) u;rw[iA a]at this;show this
  show%[_,n,ρ|bv (λh=>?_) λh=>?_]
  .let h:=↑h
   show%[λc o=>c=[hX _,hX _]/\o=g,?_,_,n,ρ|ρ];intro c o %[rfl|rfl];show%[_,qO (F.fin y a) (F.dec y a h),p y,ρ,ρ,F.fin y a,(F.rf y a).trans b|ρ]
  .show k1 _ _ ?_;rw[<-b,F.fix y a ↑h]at j;show j
def oF(T:Txt K mg):Cal P w K mg base 2 "join_deposits" ["names","one","other"] AL:=by
 .exists T.aE,eG,m,e,%[d,a,b,c,p,r,S,rfl,g,F,i,j,n|o];show%[_,%["KCF3G~2A0A1BCF4G~2A0A2BEy~F~3A3A4B0]w]xA3A4B",eG.nd|e]|?_]
  change aR _ _ _ [!d,-a,-b,hV,hV] H;show aj λu k1 _=>?_
  lk;show%[d,a,c,p,r,S,ρ,g,F,i|k1 _ _ (aj λv k2 _=>?_)];lk;show%[d,b,c,p,r,S,ρ,g,F,j|k2 _ _ (aA λy q _=>?_)];lk;let J:=F.join i j rfl rfl;let l:(if aO (r a) (r b)=hY then r b else r a)∈c:=by
   split
   .show F.rin b j
   .show F.rin a i
  generalize (if aO (r a) (r b)=hY then r b else r a)=M at J l
  show%[_,gK.k (k:=kG M) g (by unfold NmD;rw[Z6,PySem.sizeLine_eq];lia)|q _ _ ?_];rw[qN l];show o _ _ J
def zL{qs:ZN}{q:ku×ZM}(c:qs[i]?∣q)(a b:lp):aQ (qs.take (i+1)) a b↔aQ (qs.take i) a b\/q.2=[.str "same",.str a,.str b]:=by
 unfold aQ;rw[Xa,c]
 simp_all
def jc{c:ZB}(d:c.Pairwise (λa b=>aO b a=iv)){i:jg}{z w:lp}(f:c[i]?∣z)(hw:w∈c)(h:aO w z=hY):w∈c.take i:=by
 rw[<-Xb i c]at hw;rcases Xn hw with e|e
 .show e
 .let%[hi|g]:=Xm f;let%[j,l|rfl]:=Qg e;rw[hH.getElem_drop]at h;rw[Yh]at l;by_cases m:j=0
  .subst m;rw[<-g]at h;simp only[RD]at h;rw[dz]at h;cases h
  .let:=Tb.mp d i (i+j) hi ⋯ ⋯
   grind
inductive xG (mg:ZC)
 | mk (g c2 c3 c4 qs ls ts):vs=[.ref g]->GrF mg H g c2 c3 c4 qs ls ts->ls.Nodup->ls.Pairwise (λa b=>aO b a=iv)-> ~~~ls<=5000->(∀d H' r,ah H H'->H d=hV->H' d∣.dK (NmD ls r)->(∀z∈ls,r z∈ls/\bJ (aQ qs) z (r z))->Q (.ref d) H')->xG mg vs H Q E0
def kT{H:Hp}{g c2 c3 b:ku}{qs:hH _}{c:ZB}{ts:hH _}{m:lp}{R:Prop}(h:GrF mg H g c2 c3 b qs c ts)(d:m="layers"\/m="sayings"\/m="ties")(k:R):∃a fs,H g∣.ins (aG mg "Ground") a fs/\NR m fs=hV/\R:=by
 let%[a,c1|e]:=h.at_;show⟨a,_,e,by rcases d with rfl|rfl|rfl<;> rfl,k⟩
def dA(T:Txt K mg):Cal P w K mg base 3 "names_by_layer" ["ground"] (xG mg):=by
 .exists T.aC,bo,as,L,%[g,c2,c3,c4,qs,j,ts,rfl,hg,nd,so,an|kk];let lm: ~~~(j\3)= ~~~j:=Z6 _;let qm: ~~~(qs\0)= ~~~qs:=Z6 _;show%[_,%["KCF1!CSU<~w0J2Ey212CSU<~S0gMJ3MJ4MJ5cEOLj3VEXG]yA1A4A5BPCSU<~w0J2EyW1W1212EH1",bo.nd|L]|?_]
  change aR _ _ _ [!g,hV,hV,hV,hV,hV] H;show aj λD1 k1 _=>?_
  lk;intro d hd;show k1 _ _ (aj λD2 k2 _=>ay λM hK=>?_);let s1:=ah.Qa (o:= .dK []) hd;let Y:Qa H d (.dK []) d∣.dK (NmD (j.take 0) id):=aa
  generalize Qa H d _=H1 at s1 Y
  lk;let ab:=hg.up s1;show kT ab (.inl rfl) %[g,c2,c3,c4,qs,j,ts,rfl,ab|λl1 N=>%[%[_|Qb.of aa]|hK _ _ ?_]];let s2:=ah.Qa (o:= .lst (j\3)) N;let ac:=own s2;let n1:l1≠d:=λe=>by rw[e,Y]at N;cases N
  let Y:=s2 _ _ Y
  generalize Qa H1 l1 _=H2 at s2 ac Y
  show bF (λi n l=>A4 (E4 λp u v B=>n=[!g,!d,p,u,v,B]) (ah H l) (l l1<*j\3) (l d∣.dK (NmD (j.take i) id)))
   %[%[_,_,_,_|rfl],s1.trans s2,ac|Y] (λi n l h=>h.3) ?_ ?_
  .intro i z n l C %[%[p,u,v,B|rfl],m,J|c];change pc _ _ _ _ [!g,!d,-z,u,v,B] l;show aA λD3 k3 _=>?_
   lk;let zn:z∉j.take i:=λhm=>by
    let h:=nd;rw[<-Xb i j,X1]at h;show h.2.2 z hm z (Z8 (i:=0) ((Yb)▸C)) rfl
   show%[_,gK.k (k:=kG z) c (by unfold NmD;rw[Z6,Yl,PySem.sizeLine_eq];lia)|k3 _ _ %[%[_,_,_,_|ρ],ah.set m hd,(aq n1).trans J|?_]];rw[aa,Fc zn,Xa,C];rfl
  intro n H3 %[%[p,u,v,B|rfl],m,J|c];rw[Zn (Zi _)]at c;show k2 _ _ (aj λD4 k4 _=>ay λM hK=>?_);lk;let ae:=hg.up m;show kT ae (.inr (.inl rfl)) %[g,c2,c3,c4,qs,j,ts,rfl,ae|λl2 O=>%[%[_|Qb.of aa]|hK _ _ ?_]];let s4:=ah.Qa (o:= .lst (qs\0)) O;let ag:=own s4;let n2:l2≠d:=λe=>by rw[e,c]at O;cases O
  let c:=s4 _ _ c;let ak:=m.trans s4
  generalize Qa H3 l2 _=H4 at s4 ag c ak
  show bF (λi n l=>A4 (E4 λp u v B=>n=[!g,!d,p,u,v,B]) (ah H l) (l l2∣.lst (qs\0)) (E2 λf r=>l d∣.dK (NmD j f)/\bT j f r (aQ (qs.take i))))
   %[%[_,_,_,_|rfl],ak,ag,id,id,c|j3 (bT.start j) λa b=>%[λh=>h.elim|λ⟨q,hq,_⟩=>(nomatch hq)]] (λi n l h=>h.3) ?_ ?_
  .intro i q n l hq %[%[p,u,v,B|rfl],m,J,f,r,c|F];let%[q1|q2]:=hg.sa q (Z8 hq);let st:=m _ _ q1;let G:=zL hq;rcases q2 with⟨wd,a,b,e,hw,ha,hb,_⟩|⟨wd,a,y,e,hw,_⟩
   .rw[e]at st G;show%[_,SqT.of st,ρ,_,_,ρ,_,_,ρ,_,_,ρ,ρ|?_];change j8 _ _ _ _ [!g,!d,p,-wd,-a,-b] l;show aA λD5 k5 _=>?_
    lk;show bv (λh=>?_) λh=>?_
    .let h:wd=o0 "same":=↑h
     show%[d,a,b,j,f,r,_,ρ,c,F,ha,hb,an|λf' r' F'=>k5 _ _ %[%[_,_,_,_|ρ],ah.set m hd,(aq n2).trans J,f',r',aa|j3 F' λx y=>?_]];rw[G,h];show Rw OK %[λ⟨e1,e2⟩=>by rw[e1,e2]|λe=>?_];simp only[Nx,V.str.injEq,VI,true_and]at e;show%[e.1.symm|e.2.symm]
    .let h:wd≠o0 "same":=↑h
     show k5 _ _ %[%[_,_,_,_|rfl],m,J,f,r,c|j3 F λx y=>?_];rw[G];show%[.inl|λe=>e.resolve_right λe=>h ?_];simp only[Nx,V.str.injEq]at e;show e.1
   .rw[e]at st G;show%[_,SqT.of st,ρ,_,_,ρ,_,_,ρ,_,_,ρ,ρ|?_];change j8 _ _ _ _ [!g,!d,p,-wd,-a,hX (.int y)] l;show aA λD5 k5 _=>?_
    lk;rw[kw (by rcases hw with rfl|rfl<;> decide)];show k5 _ _ %[%[_,_,_,_|rfl],m,J,f,r,c|j3 F λx z=>?_];rw[G];show%[.inl|λe=>e.resolve_right λe=>?_];simp at e
  intro n H5 %[%[p,u,v,B|rfl],m,J,f,r,c|F];rw[Zn (Zi _)]at F;show k4 _ _ (aj λD6 k6 _=>ay λM hK=>?_);lk;let al:=hg.up m;show kT al (.inl rfl) %[g,c2,c3,c4,qs,j,ts,rfl,al|λl3 U=>%[%[_|Qb.of aa]|hK _ _ ?_]];let s6:=ah.Qa (o:= .lst (j\3)) U;let n3:l3≠d:=λe=>by rw[e,c]at U;cases U
  let c:=s6 _ _ c;show bF (λi n l=>A4 (E4 λp u v B=>n=[!g,!d,p,u,v,B]) (ah H l) (l l3<*j\3) (∃f,A3 (l d∣.dK (NmD j f)) (bT j f r (aQ qs)) (∀z∈j.take i,f z=r z)))
   %[%[_,_,_,_|rfl],(m.trans s6),aa,f,c,F|λz C=>(nomatch C)] (λi n l h=>h.3) ?_ ?_
  .intro i z n l C %[%[p,u,v,B|rfl],m,J,f,c,F|I];let zm:=Z8 C;change pc _ _ _ _ [!g,!d,-z,u,v,B] l;show aA λD7 k7 _=>?_
   lk;let get:=λy hy=>by
    let:=b8.k (k:=kG y) c;rw[iA hy]at this;show this
   show%[_,get z zm,_,get _ (F.fin z zm),_,gK.k (k:=kG z) c (by unfold NmD;rw[Z6,PySem.sizeLine_eq];lia)|k7 _ _ %[%[_,_,_,_|ρ],ah.set m hd,(aq n3).trans J,_,?_,F.short zm|λy hy=>?_]]
   .rw[aa,qN zm]
   .rw[Xa,C]at hy;by_cases e:y=z
    .rw[lX e,e];show F.done zm λw hw h=>I w (jc so C hw h)
    .rw[kw e];rcases Xn hy with h|h
     .show I y h
     .show(e (Xo h)).elim
  intro n H7 %[%[p,u,v,B|rfl],m,J,f,c,F|I];rw[Zn (Zi _)]at I;show k6 _ _ ?_;lk;show kk d H7 r m hd ?_ λz C=>%[F.rin z C|F.least C]
  rw[c];unfold NmD;rw[Yp λz C=>by rw[I z C]]
def KM{X:Cx}{K:ZA}{T id:M5}(h:X.K=K)(m:Pi T)(slot:Slot T name id)(i:Pu (.builtin id)=pure (.type "method_descriptor"))(n:MtQ X id r)
 (b:Nj o name X.env (MZ o X.env)=MZ o X.env) (a:(e::g).any aV=iv) (j:W8 (e::g).length 30=hY) (c:(d.endLine==f.line)=hY) (p:QE X o q) (s:QA X (e::g) t):
 QE X (.Call (.Attribute o name d) (e::g) [] f) (tBM K T r q t):=by
 let l:=a;rw[Zw,X7]at l;show⟨Dq h m slot i n.h p.h s.h b ?_ c (aB l.1) (dY l.2)⟩;rw[uU a];let:decide (~~~(e::g)+ ~~~([]:hH O5)+(if([]:hH O5).isEmpty then 0 else 1)<30)=hY:=Zf ((jg.blt_eq.mp j));rw[this];rfl
abbrev grp(r:lp->lp)(xs:ZB):hH (lp×ZB):=(xs.filter λz=>decide (r z=z)).map λz=>(z,xs.filter λx=>decide (r x=z))
def Cu(h:∀z∈xs,r z=b z):grp r xs=grp b xs:=by
 unfold grp;rw[U8 λz a=>by rw[h z a]];show Yp λz a=>?_
 rw[U8 λx c=>by rw[h x c]]
def Hg(a:r z=z)(b:z∉xs)(c:∀x∈xs,r x∈xs):grp r (xs++[z])=grp r xs++[(z,[z])]:=by
 unfold grp;rw[Y2,Zd];show UF (sU _ (Yp λw hw=>?_)) ?_
 .let:w≠z:=λe=>b (e▸(ow.mp hw).1)
  rw[Y2,Y4 (by rw[a];simpa using this.symm),Y7,Zx]
 .rw[Y6 (by rw[a];simp),Y7];change [(z,_)]=_;rw[Y2,Y6 (by rw[a];simp),Y7,O4.mpr λx d=>?_]
  .rfl
  .intro e;show b ((Zo e)▸c x d)
def Hh(a:r z≠z):grp r (xs++[z])=(grp r xs).map λp=>if p.1=r z then(p.1,p.2++[z])else p:=by
 unfold grp;rw[Y2,Y4 ↑a,Y7,Zx,Ys];show Yp λw hw=>?_
 change(w,_)=if w=r z then(w,_)else(w,_)
 rw[Y2];by_cases e:w=r z
 .rw[lX e,Y6 (by simpa using e.symm),Y7]
 .rw[kw e,Y4 (by simpa using λq=>e q.symm),Y7,Zx]
def j4:y∈(grp r xs)\1↔y∈xs/\r y=y:=by
 unfold grp
 simp_all
def nu(h:xs.Nodup):((grp r xs)\1).Nodup:=by
 unfold grp;rw[Ys,show((λx=>x.1) ∘ λz=>(z,N8 _ xs))=id from rfl,W9];show h.filter _
abbrev AM(S:lp->lp->Prop)(a:ZB)(ds:hH ZB):Prop:=∃r:lp->lp,(∀z∈a,r z∈a/\bJ S z (r z))/\ds=(grp r a)\2
def AM.one{S:lp->lp->Prop}(h:AM S b ds)(g:AM S b c):ds=c:=by
 let%[r,d|rfl]:=h;let%[f,e|rfl]:=g;rw[Cu λz a=>(d z a).2.one (e z a).2]
noncomputable abbrev Gs(a:Type):=hH (lp×ku×hH a)
abbrev gD{a:Type}(b:Gs a):hH (Key×V):=b.map λg=>(kG g.1,V.ref g.2.1)
def mI:∀{a:Gs b},y∉a\1->bX (gD a) (kG y)=hV
 |[],_=>rfl
 | g::a,h=>by
   rw[Yq,Yw,OY]at h;rw[show gD _=(kG g.1,V.ref _)::gD a from rfl,di (λq=>h.1 (ND q).symm)];show mI h.2
def fA:∀{a:Gs f},bX (gD a) (kG y)∣v->∃g∈a,g.1=y/\v= .ref g.2.1
 |[],h=>(nomatch h)
 | g::a,h=>by
   rw[show gD _=(kG g.1,V.ref _)::gD a from rfl]at h;by_cases e:g.1=y
   .rw[eR (sU kG e)]at h;show%[g,Zm,e|(Za h).symm]
   .rw[di (λq=>e (ND q))]at h;let%[b,c|d]:=fA h;show%[b,Zk _ c|d]
def jd:∀{a:Gs b},g∈a->bX (gD a) (kG g.1)≠hV
 | x::a,h,c=>by
   rw[show gD _=(kG x.1,V.ref _)::gD a from rfl]at c;by_cases e:x.1=g.1
   .rw[eR (sU kG e)]at c;cases c
   .rw[di (λq=>e (ND q))]at c;rcases Yw.mp h with q|q
    .show e (by rw[q])
    .show jd q c
abbrev oU(H:Hp)(a:ZG):Prop:=∀g∈a,H g.1<*g.2\3
def oU.up{H a:Hp}{b:hH _}(h:oU H b)(s:ah H a):oU a b:=λg c=>s _ _ (h g c)
structure jp {α:Type} (f:α->V) (H0 H:Hp) (d:ku) (gs:Gs α):Prop where
 at_:H d∣.dK (gD gs)
 la:∀g∈gs,H0 g.2.1=hV/\H g.2.1<*g.2.2.map f
 nd:(gs.map (·.2.1)).Nodup
def Hi{f:Type}{c:Gs f}(d:(c\1).Nodup){g h:lp×ku×hH f}(i:g∈c)(j:h∈c)(e:g.1=h.1):g=h:=by
 induction c with
 | nil=>cases i
 | cons x xs l=>
   rw[Yq,NE]at d;rcases Yw.mp i with a|a<;> rcases Yw.mp j with b|b
   .rw[a,b]
   .show(d.1 (by rw[<-a,e];show Xq %[_,b|rfl])).elim
   .show(d.1 (by rw[<-b,<-e];show Xq %[_,a|rfl])).elim
   .show l d.2 a b
def Fe{f:Type}{c:Gs f}(d:(c.map (·.2.1)).Nodup){g h:lp×ku×hH f}(i:g∈c)(j:h∈c)(e:g.2.1=h.2.1):g=h:=by
 induction c with
 | nil=>cases i
 | cons x xs l=>
   rw[Yq,NE]at d;rcases Yw.mp i with a|a<;> rcases Yw.mp j with b|b
   .rw[a,b]
   .show(d.1 (by rw[<-a,e];show Xq %[_,b|rfl])).elim
   .show(d.1 (by rw[<-b,<-e];show Xq %[_,a|rfl])).elim
   .show l d.2 a b
abbrev ny{a:Type}(y:lp)(z:a)(b:Gs a):Gs a:=b.map λg=>if g.1=y then(g.1,g.2.1,g.2.2++[z])else g
def KN(y:lp)(z:b)(a:Gs b):gD (ny y z a)=gD a:=by
 unfold ny gD;rw[Ys];show Yp λg _=>?_
 change(kG (if g.1=y then(g.1,g.2.1,g.2.2++[z])else g).1,V.ref (if g.1=y then(g.1,g.2.1,g.2.2++[z])else g).2.1)=_
 split<;> rfl
def KO(y:lp)(z:b)(a:Gs b):(ny y z a).map (·.2.1)=a.map (·.2.1):=by
 unfold ny;rw[Ys];show Yp λg _=>?_
 change(if g.1=y then(g.1,g.2.1,g.2.2++[z])else g).2.1=_
 split<;> rfl
def KP(y:lp)(z:b)(a:Gs b):(ny y z a).map (λg=>(g.1,g.2.2))=(a.map λg=>(g.1,g.2.2)).map λp=>if p.1=y then(p.1,p.2++[z])else p:=by
 unfold ny;rw[Ys,Ys];show Yp λg _=>?_
 change((if g.1=y then(g.1,g.2.1,g.2.2++[z])else g).1,(if g.1=y then(g.1,g.2.1,g.2.2++[z])else g).2.2)=if g.1=y then(g.1,g.2.2++[z])else(g.1,g.2.2)
 split<;> rfl
def jp.up{a:Type}{f:a->V}{b H c:Hp}{d:ku}{e:Gs a}(h:jp f b H d e)(s:ah H c):jp f b c d e:=%[s _ _ h.at_,λg i=>%[(h.la g i).1|s _ _ (h.la g i).2]|h.nd]
def jp.add{a:Type}{f:a->V}{l H:Hp}{d:ku}{b:Gs a}(h:jp f l H d b)(m:(b\1).Nodup){g:lp×ku×hH a}(c:g∈b)(z:a):jp f l (Qa H g.2.1 (.lst (g.2.2.map f++[f z]))) d (ny g.1 z b):=by
 show%[?_,λo j=>?_|by rw[KO];show h.nd]
 .rw[KN,aq (λe=>by let:=(h.la g c).2;rw[<-e,h.at_]at this;cases this)];show h.at_
 .let%[n,i|rfl]:=Xp j;by_cases e:n.1=g.1
  .rw[lX e];obtain rfl:=Hi m i c e;show%[(h.la _ c).1|?_];rw[aa,Zd];rfl
  .rw[kw e];show%[(h.la _ i).1|?_];rw[aq (λq=>e (by rw[Fe h.nd i c q]))];show(h.la _ i).2
def jp.new{l:Gs n}(h:jp f m H d l)(s:ah m H)(j:H e=hV)(y:lp)(z:n)(o:y∉l\1):jp f m (Qa (Qa (Qa H e (.lst [])) d (.dK (dc (gD l) (kG y) (.ref e)))) e (.lst [f z])) d (l++[(y,e,[z])]):=by
 show%[?_,λg i=>?_|?_]
 .rw[aq (λq=>by rw[<-q,h.at_]at j;cases j),aa,dX _ (mI o)];unfold gD;rw[Zd];rfl
 .rcases Xn i with i|i
  .show%[(h.la g i).1|?_];let q:=(h.la g i).2;rw[aq (λc=>by rw[c,j]at q;cases q),aq (λc=>by rw[c,h.at_]at q;cases q),aq (λc=>by rw[c,j]at q;cases q)];show q
  .rw[Xo i];show%[s.free j|aa]
 .rw[Zd,X1];show%[h.nd,by simp|λa p b r c=>?_];let%[g,i|rfl]:=Xp p;let q:=(h.la g i).2
  simp_all
inductive AN (mg:ZC)
 | mk (g c2 c3 c4 qs ls ts):vs=[.ref g]->GrF mg H g c2 c3 c4 qs ls ts->ls.Nodup->ls.Pairwise (λa b=>aO b a=iv)-> ~~~ls<=5000->(∀l H' ss,ah H H'->H l=hV->H' l∣.lst (ss\0)->oU H' ss->(∀s∈ss,H s.1=hV)->AM (aQ qs) ls (ss\2)-> ~~~ss<=5000->Q (.ref l) H')->AN mg vs H Q E0
inductive Fg (mg:ZC)
 | mk (g c2 c3 c4 qs ls ts z):vs=[.ref g,.str z]->GrF mg H g c2 c3 c4 qs ls ts->ls.Nodup->ls.Pairwise (λa b=>aO b a=iv)-> ~~~ls<=5000->z∈ls->(∀H' m,ah H H'->bJ (aQ qs) z m->Q (.str m) H')->Fg mg vs H Q E0
def zM(T:Txt K mg):Cal P w K mg base 4 "deposits" ["ground"] (AN mg):=by
 .exists T.aG,g9,bb,I,%[g,c2,c3,c4,qs,n,ts,rfl,hg,nd,so,an|kk];let lm: ~~~(n\3)= ~~~n:=Z6 _;show%[_,%["KCF1G~dA0BCF2!CSU<~w0J3EX~xn~y~z2AW13ARBBA3BEH*]zA~4~52B",g9.nd|I]|?_]
  change aR _ _ _ [!g,hV,hV,hV] H;show aj λD1 k1 _=>?_
  lk;show%[g,c2,c3,c4,qs,n,ts,ρ,hg,nd,so,an|λd H1 r s1 fd J I=>k1 _ _ (aj λD2 k2 _=>?_)];lk;intro e fe;show k2 _ _ (aj λD3 k3 _=>ay λa6 hK=>?_);let as:d≠e:=λc=>by rw[c,fe]at J;cases J
  let s2:=ah.Qa (o:= .dK []) fe;let ge:Qa H1 e (.dK []) e∣.dK (gD ([]:Gs lp)):=aa;let J:=s2 _ _ J;let fe:=s1.free fe;let Y:=s1.trans s2
  generalize Qa H1 e _=H2 at s2 ge J Y
  lk;let ac:=hg.up Y;show kT ac (.inl rfl) %[g,c2,c3,c4,qs,n,ts,rfl,ac|λl1 a0=>%[%[_|Qb.of aa]|hK _ _ ?_]];let s3:=ah.Qa (o:= .lst (n\3)) a0;let L:=own s3;let J:=s3 _ _ J;let ge:=s3 _ _ ge;let ae:=Y.trans s3
  generalize Qa H2 l1 _=H3 at s3 L J ge ae
  let r2:∀z∈n,r (r z)=r z:=λz M=>by
   let h:=(I z M)
   let h2:=(I _ h.1).2;show h2.one %[.refl _|λy c=>h.2.2 y (h.2.1.trans c)]
  let ag:∀z∈n,r z≠z->aO (r z) z=hY:=λz M h=>fK ((I z M).2.2 z (.refl _)) h.symm
  obtain⟨N,a1,a2,a3,ab,s0⟩:∃N:Hp,N e=hV/\N d∣.dK (NmD n r)/\N l1<*n\3/\ah H N/\ah N H3:=by
   show%[λa=>if a=e then hV else H3 a,lX rfl,?_,?_,λa o h=>?_|λa o h=>?_]
   .show(kw (λc=>as c)).trans J
   .show(kw (λc=>by rw[c,ge]at L;cases L)).trans L
   .show(kw (λc=>by rw[c,fe]at h;cases h)).trans (ae _ _ h)
   .let h:(if a=e then hV else H3 a)∣o:=h
    split at h
    .cases h
    .show h
  show bF (λi σ H'=>A3 (∃o3,σ=[!g,!d,!e,o3]) (ah N H') (∃B,jp V.str N H' e B/\B.map (λg=>(g.1,g.2.2))=grp r (n.take i)))
   %[%[_|rfl],s0,[],%[ge,λg hg=>(nomatch hg)|X3]|rfl] (λi σ H' h=>h.2 _ _ a3) ?_ ?_
  .intro i z σ H' M %[%[o3|rfl],O,B,b|u];let zm:=Z8 M;let i1:i< ~~~n:=(Xm M).1;change lh _ _ [!g,!d,!e,-z] H';show aA λD4 k4 _=>?_
   lk;let get:=b8.k (k:=kG z) (O _ _ a2);rw[iA zm]at get;let gk:B\1=(grp r (n.take i))\1:=by rw[<-u,Ys];rfl
   let ak:(B\1).Nodup:=by rw[gk];show nu (nd.sublist (U5 _ _))
   let gl: ~~~B<= ~~~n:=by
    let:=_ST.nodup_sub ak (m:=n) λy hy=>by rw[gk,j4]at hy;show Yx hy.1
    rw[Z6]at this;show this
   let zn:z∉n.take i:=λhm=>by
    let h:=nd;rw[<-Xb i n,X1]at h;show h.2.2 z hm z (Z8 (i:=0) (by rw[Yb];show M)) rfl
   let tk:n.take (i+1)=n.take i++[z]:=by rw[Xa,M];rfl
   show%[tyD (b.at_),_,get,#[0]|λp U=>%[kG (r z),ρ,gD B,?_,?_,λv hv=>?_|λhv=>?_]]
   .rw[aq (λc=>by rw[<-c,b.at_]at U;cases U)];show b.at_
   .unfold gD;rw[Z6];show aC ⋯
   .let%[q,C,e1|rfl]:=fA hv;let a4:q.1∈B\1:=Xq %[q,C|rfl];let al:=a4;rw[gk,j4,e1]at al;let rn:r z≠z:=λc=>zn (by show c▸al.1)
    let sp:=ah.Qa (o:= .lst []) U;let hl:=sp _ _ (b.la q C).2;let G:=(b.up sp).add ak C z;let ml: ~~~q.2.2<= ~~~n:=by
     let:(q.1,q.2.2)∈grp r (n.take i):=u▸Xq %[q,C|rfl];let%[y,hy|c]:=Xp this;show((Prod.mk.inj c).2)▸nI (Yi _ _) (by rw[Yl];lia)
    show%[tyL (Qb.of hl),_,hl,by rw[Z6];show aC ⋯|k4 _ _ %[%[_|ρ],ah.set (O.trans sp) (b.la q C).1,_,G|?_]];rw[KP,u,tk,Hh rn,e1]
   .let nk:r z∉B\1:=λh=>by
     let%[q,C|c]:=Xp h;let:=jd C;rw[c,hv]at this;show this rfl
    let rz:r z=z:=Nu λc=>nk (by rw[gk,j4];show%[jc so M (I z zm).1 (ag z zm c)|r2 z zm])
    let de:e≠p:=λq=>by rw[<-q,b.at_]at U;cases U
    rw[rz]at hv nk ⊢;let gp:Qa (Qa H' p (.lst [])) e (.dK (dc (gD B) (kG z) (.ref p))) p<*[]:=by rw[aq de.symm,aa]
    show%[tyL (Qb.of gp),[],gp,(show 0<md by decide)|k4 _ _ %[%[_|ρ],ah.set (ah.set (O.trans (ah.Qa U)) a1) (O.free U),_,b.new O U z z nk|?_]];rw[Zd,u,tk,Hg rz zn λx hx=>?_]
    .rfl
    .let%[j|hj]:=hH.mem_iff_getElem?.mp hx;let xm:=Yx hx;by_cases c:r x=x
     .rw[c];show hx
     .let ji:j<i:=by let:=(Xm hj).1;rw[Yl]at this;lia
      rw[Yc ji]at hj;show hH.take_subset_take_left _ (Yf ji) (jc so hj (I x xm).1 (ag x xm c))
  intro σ H' %[%[o3|rfl],O,B,b|u];rw[Zn (Zi _)]at u;show k3 _ _ ?_;lk;let gk:B\1=(grp r n)\1:=by rw[<-u,Ys];rfl
  let gl: ~~~B<= ~~~n:=by
   let:=_ST.nodup_sub (l:=B\1) (gk▸nu nd) (m:=n) λy hy=>by rw[gk,j4]at hy;show hy.1
   rw[Z6]at this;show this
  show%[tyD (b.at_),%[_|b.at_]|λv fv=>%[e,aa,_,ah.Qa fv _ _ b.at_|λl fl=>?_]];let sv:=ah.Qa (o:=lL v e) fv;let sl:=ah.Qa (o:= .lst ((gD B)\2)) fl;let a5:=O.trans (sv.trans sl);show kk l _ (B\2) (ab.trans a5) ((ab.trans (O.trans sv)).free fl) ?_ (λs hs=>?_) (λs hs=>?_) %[r,I|?_] (by rw[Z6];lia)
  .rw[aa];unfold gD;rw[Ys,Ys];rfl
  .let%[q,C|rfl]:=Xp hs;show sl _ _ (sv _ _ (b.la q C).2)
  .let%[q,C|rfl]:=Xp hs;show ab.free (b.la q C).1
  .rw[<-u,Ys,Ys];rfl
structure a9 (S:lp->lp->Prop) (ks0 ks:hH _):Prop where
 nd:ks.Nodup
 mem:∀k,k∈ks↔∃a b z a' b',[a,b,z]∈ks0/\bJ S a a'/\bJ S b b'/\k=[a',b',z]
def a9.mm{S:lp->lp->Prop}{a ks b:hH ZB}(h:a9 S a ks)(g:a9 S a b)(k:ZB):k∈ks↔k∈b:=(h.mem k).trans (g.mem k).symm
def Mt{ks c:hH ZB}(e:∀k,k∈ks↔k∈c):Ed ks=Ed c:=by
 funext a b;simp only[Ed,e]
def gH{ks c:hH ZB}(e:∀k,k∈ks↔k∈c):Dst ks=Dst c:=by
 funext a n b;simp only[Dst,e]
def dv{ks c:hH ZB}(e:∀k,k∈ks↔k∈c):Rch ks=Rch c:=by
 funext a b;let q:∀{ks},Rch ks a b↔∃n,Dst ks a (n+1) b:=%[Rch.dst|λ⟨_,h⟩=>h.rch]
 rw[propext q,propext q,gH e]
abbrev je(r:lp->lp):ZB->ZB
 |[a,b,z]=>[r a,r b,z]
 | k=>k
def qP{S:lp->lp->Prop}{c:hH ZB}{l:ZB}{r:lp->lp}(m:∀k∈c,dS l k)(f:∀z∈l,bJ S z (r z))(k:ZB):k∈c.map (je r)↔∃a b z g h,[a,b,z]∈c/\bJ S a g/\bJ S b h/\k=[g,h,z]:=by
 rw[Pm]
 constructor
 .rintro⟨t,d,rfl⟩;let%[a,b,z,rfl,i|j]:=m t d;show%[a,b,z,r a,r b,d,f a i,f b j|ρ]
 .rintro⟨a,b,z,g,h,d,n,o,rfl⟩;let%[x,y,u,e,i|j]:=m _ d;simp only[Nx,VI]at e;let%[rfl,rfl|rfl]:=e;show%[_,d|by rw[<-(f a i).one n,<-(f b j).one o];rfl]
inductive xH (mg:ZC)
 | mk (g c2 c3 c4:ku) (qs:ZN) (ls:ZB) (ts:ZG):vs=[.ref g]->GrF mg H g c2 c3 c4 qs ls ts->ls.Nodup->ls.Pairwise (λa b=>aO b a=iv)-> ~~~ls<=5000-> ~~~ts<=250->(∀k∈ts\2,dS ls k)->(∀l H' (ss:ZG),ah H H'->H l=hV->H' l∣.lst (ss\0)->aE H' ss->a9 (aQ qs) (ts\2) (ss\2)-> ~~~ss<=250->Q (.ref l) H')->xH mg vs H Q E0
def AO(T:Txt K mg):Cal P w K mg base 4 "links" ["ground"] (xH mg):=by
 .exists T.aJ,xf,a0,n,%[g,c2,c3,O,qs,L,ts,rfl,hg,nd,so,U,a1,Y|kk];let tm: ~~~(ts\0)= ~~~ts:=Z6 _;show%[_,%["KC>1tuG~dA0BEH,~^A~L~_Aqi?1U<]!0gMa0?2Ma1?2Ma2?2c)bAWT30AWT31A2BBB",xf.nd,↑(["later","earlier","source","names"],[(3,1)]),↑["later","earlier","source","names"]|n]|?_]
  change aR _ _ _ [!g,hV] H;show aj λD1 k1 _=>?_
  lk;show%[g,c2,c3,O,qs,L,ts,ρ,hg,nd,so,U|λd H1 r s1 fd hd n=>k1 _ _ ?_];lk;show aL λas hK=>?_
  lk;let u:=hg.up s1;show kT u (.inr (.inr rfl)) %[g,c2,c3,O,qs,L,ts,rfl,u|λl1 ab=>%[%[_|Qb.of aa]|hK _ _ λF hF=>?_]];let v:=ah.Qa (o:= .lst (ts\0)) ab;let B:=own v
  generalize Qa H1 l1 _=H2 at v B hF
  let ac:=v _ _ hd;let ae:=(u.up v).tu;show cN (λj vs σ M=>A4 (E3 λo1 o2 o3=>σ=[o1,o2,o3,!d]) (ah H2 M) (M F<*vs) (∃ps:ZG,A3 (vs=ps\0) (aE M ps) (ps\2=((ts.take j)\2).map (je r))))
   %[%[hV,hV,hV|rfl],ah.Qa hF,aa,[],rfl,eV _|rfl] (λ_ _ _ M ag=>ag.2 _ _ B) ?_ ?_
  .intro j vs σ H4 hj %[%[o1,o2,o3|rfl],C,G,ps,N,i|c];let tj:=Yd hj;let%[a,b,z,e,ha|hb]:=Y _ (Xq %[_,tj|rfl]);let st:=C _ _ (ae _ tj).2;rw[e]at st;let get:∀y∈L,b8 H4 d (.str y) (hX (.str (r y))):=λy hy=>by
    let:=b8.k (k:=kG y) (C _ _ ac);rw[iA hy]at this;show this
   show%[_,SqT.of st,ρ,_,_,ρ,_,_,ρ,_,_,ρ,ρ|?_];change Gm [-a,-b,-z,!d] _ _;lk;show%[_,get a ha,_,get b hb,#[3]|λp hp=>?_];let sp:=ah.Qa (o:= .tup [V.str (r a),V.str (r b),V.str z]) hp;let gp:=own sp
   generalize Qa H4 p _=H5 at sp gp ⊢
   let keep:=jY (ys:=vs++[V.ref p]) (sp _ _ G);let pl:=sU MR c;rw[Z6,Z6,Z6,Yl]at pl;show CK.mk hj (sp _ _ G) (by rw[N,Z6];show aC ⋯) %[%[_,_,_|rfl],ah.set (C.trans sp) hF,aa,ps++[(p,[r a,r b,z])],by rw[N,Zd];rfl,az (fO (az i λb z e=>sp _ _ e) ∅ gp) keep|?_];rw[Zd,c,Xa,Z4 hj,Zd,Zd];change _++[_]=_++[je r ts[j].2];rw[e];rfl
  intro vs σ H3 %[_,C,ak,ps,N,i|c];rw[Zn (Zi _)]at c;let pl:=sU MR c;rw[Z6,Z6,Z6]at pl;let p3:∀q∈ps,~~~q.2=3:=λq l=>by
   let:q.2∈ps\2:=Xq %[q,l|rfl];rw[c]at this;let%[k,hk|e]:=Xp this;let%[a,b,z,rfl|_]:=Y k hk;rw[<-e];rfl
  show%[ps,by rw[<-N];show Qb.of ak,i,%[ps\2,by rw[Z6];lia|λq l=>Xq %[q,l|ρ]]|λl5 al=>?_];let s5:=ah.Qa (o:=pS P w l5 (bE ps)) al;let few: ~~~(bE ps)<=250:=by
   let:=_ST.nodup_sub (eL ps) (m:=ps\2) λk hk=>by
    let%[q,l|rfl]:=Xp hk;show Xq %[q,br ps q l|rfl]
   rw[Z6,Z6]at this
   lia
  show%[bE ps,aa,λq l=>%[(i q (br ps q l)).1|s5 _ _ (i q (br ps q l)).2],3,λq l=>p3 q (br ps q l),!1,⋯|λl6 ss I pm=>?_];let s6:=ah.Qa (o:= .lst (ss\0)) I;let J:=s1.trans (v.trans (C.trans s5));let pk:(ss\2).Perm ((bE ps)\2):=pm.map _;show kk l6 _ ss (J.trans s6) (J.free I) aa (λq l=>?_) %[pk.nodup_iff.mpr (eL ps)|λk=>?_] (by rw[pm.length_eq];show few)
  .let an:=pm.mem_iff.mp l;let:=i q (br ps q an);show%[this.1|s6 _ _ (s5 _ _ this.2)]
  .rw[pk.mem_iff,iZ,c];show qP Y (λz hz=>(n z hz).2) k
def Fh{S:lp->lp->Prop}(d:c.Pairwise (λa b=>aO b a=iv))(i:∀z∈c,r z∈c/\bJ S z (r z))(h:p∈grp r c):p.2[0]?∣p.1:=by
 unfold grp at h;let%[z,j|rfl]:=Xp h;let%[l|m]:=ow.mp j;let f:z∈c.filter (λx=>decide (r x=z)):=ow.mpr %[l|m];let d:=d.sublist (Q7 (p:=λx=>decide (r x=z)));let all:∀x∈c.filter (λx=>decide (r x=z)),aO x z=iv:=λx n=>by
  let%[o|s]:=ow.mp n;rw[<-Zo s];show(i x o).2.2 x (.refl _)
 change(c.filter λx=>decide (r x=z))[0]?∣z
 generalize c.filter (λx=>decide (r x=z))=g at all f d
 cases g with
 | nil=>cases f
 | cons y g=>
   rw[Tz];rcases Yw.mp f with e|e
   .rw[e]
   .let a:=(Rc.mp d).1 z e;by_cases q:y=z
    .rw[q]
    .let:=fK (all y Zm) q;rw[a]at this;cases this
structure AQ (S:lp->lp->Prop) (ls ns:ZB):Prop where
 nd:ns.Nodup
 mem:∀x,x∈ns↔x∈ls/\bJ S x x
 so:ns.Pairwise (λa b=>aO b a=iv)
 ne:ls≠[]->ns≠[]
def KQ{S:lp->lp->Prop}{a:ZB}{r:lp->lp}(c:∀z∈a,r z∈a/\bJ S z (r z))(h:a≠[]):(grp r a)\1≠[]:=by
 let%[z|f]:=Td _ h;let%[e|b]:=c z f;let g:bJ S (r z) (r z):=%[b.1.symm.trans b.1|λy d=>b.2 y (b.1.trans d)]
 show hH.ne_nil_of_mem (j4.mpr %[e|(c _ e).2.one g])
def KR{r:lp->lp}{xs:ZB}(h:xs.Pairwise (λa b=>aO b a=iv)):((grp r xs)\1).Pairwise (λa b=>aO b a=iv):=by
 unfold grp;rw[Ys];change PZ _ (RT (λz=>z) _);rw[hH.map_id'];show h.filter _
inductive uz (mg:ZC)
 | mk (g c2 c3 c4 qs ls ts):vs=[.ref g]->GrF mg H g c2 c3 c4 qs ls ts->ls.Nodup->ls.Pairwise (λa b=>aO b a=iv)-> ~~~ls<=5000->(∀l H' ns,ah H H'->H l=hV->H' l<*ns\3->AQ (aQ qs) ls ns->Q (.ref l) H')->uz mg vs H Q E0
def eY(T:Txt K mg):Cal P w K mg base 5 "deposit_names" ["ground"] (uz mg):=by
 .exists T.aI,m8,L,a,%[g,c2,c3,y,qs,b,ts,rfl,M,nd,i,l|N];show%[_,%["KEHqi?1UG]$A0Ba0?2)Q0D",0,↑(["group"],[]),↑["group"]|a]|?_];change iP _ _ [!g] H;lk;show aL λB O=>?_
  lk;show%[g,c2,c3,y,qs,b,ts,ρ,M,nd,i,l|λl1 U ss C f1 G Y _ ⟨r,a,I⟩ ab=>%[%[_|Qb.of G]|O _ _ λF m=>?_]];let sg: ~~~ss= ~~~(grp r b):=by
   let:=sU MR I;rwa[Z6,Z6]at this
  show cN (λj vs n o=>A4 (∃J,n=[J]) (ah U o) (o F<*vs) (vs=(((grp r b).take j)\1)\3))
   %[%[hV|rfl],ah.Qa m,aa|rfl] (λ_ _ _ o p=>p.2 _ _ G) ?_ ?_
  .intro j vs n H4 q %[%[J|rfl],e,u|c];let v:j< ~~~(grp r b):=by lia
   let e2:ss[j].2=(grp r b)[j].2:=by
    let:=sU (λz=>z[j]?) I;simpa [q,v]using this
   lk;show%[_,Qb.of (e _ _ (Y _ (Yd q))),_,(show atI (ss[j].2\3) ((0:jg):oT)∣_ from bu (by rw[Zl,e2,(Fh i a (Yd v))];rfl))|?_];show CK.mk q u (by rw[c,Z6,Z6,Yl];show aC ⋯) %[%[_|rfl],ah.set e m,aa|?_];rw[c,Xa,Z4 v,Zd,Zd];rfl
  intro vs n H3 %[_,e,d|c];rw[Zn ⋯]at c;rw[c]at d;show N F H3 _ (C.trans e) (C.free m) d %[nu nd,λx=>?_,KR i|KQ a];rw[j4];show%[λh=>%[h.1|by let:=(a x h.1).2;rwa[h.2]at this]|λh=>%[h.1|(a x h.1).2.one h.2]]
abbrev GrB(H:Hp)(d:ku)(ss:ZG)(i:jg):Prop:=∃a,H d∣.dK a/\∀n,(∃l,bX a (kG n)∣.ref l/\H l∣.lst ((ss.filter λt=>decide (t.2[i]? =hX n))\0))\/(bX a (kG n)=hV/\∀t∈ss,t.2[i]? ≠hX n)
def GrB.up(h:GrB H d ss i)(s:ah H e):GrB e d ss i:=by
 let%[c,f|g]:=h;show%[c,s _ _ f|λn=>(g n).imp_left λ⟨l,a,b⟩=>%[l,a|s _ _ b]]
abbrev dH(H:Hp)(a:ZB)(ss:ZG):Prop:=∀t∈ss,H t.1&&&t.2\3/\dS a t.2
def dH.up(h:dH H b ss)(s:ah H c):dH c b ss:=λt a=>%[s _ _ (h t a).1|(h t a).2]
def KS(h:dS c k)(hi:i<2):∃n,k[i]?∣n/\n∈c:=by
 let%[a,b,z,rfl,d|e]:=h
 match i,hi with
 | 0,_=>show%[a,ρ|d]
 | 1,_=>show%[b,ρ|e]
inductive qQ
 | mk (l:ku) (i:jg) (ns:ZB) (ss:hH _):vs=[.ref l,.int i]->i<2->H l∣.lst (ss\0)->dH H ns ss-> ~~~ss<=250->(∀d H',ah H H'->H d=hV->GrB H' d ss i->Q (.ref d) H')->qQ vs H Q E0
inductive Fi (i:jg)
 | mk (l ns ss):vs=[.ref l]->H l∣.lst (ss\0)->dH H ns ss-> ~~~ss<=250->(∀d H',ah H H'->H d=hV->GrB H' d ss i->Q (.ref d) H')->Fi i vs H Q E0
def uA(T:Txt K mg):Cal P w K mg base 1 "grouped" ["found","side"] qQ:=by
 .exists T.aM,kN,ae,hr,%[l,i,ns,ss,rfl,hi,U,Y,ag|kk];let ak: ~~~(ss\0)= ~~~ss:=Z6 _;show%[_,%["KCF2!CSU0J3EX~xn~y~z2AN31ARBBA3BEH2"|kN.nd]|?_]
  change aR _ _ _ [!l,hX (.int i),hV,hV] H;show aj λD1 k1 _=>?_
  lk;intro e fe;show k1 _ _ (aj λD2 k2 _=>ay λac hK=>?_);lk;let se:=ah.Qa (o:= .dK []) fe;show%[%[_|Qb.of (se _ _ U)]|hK _ _ ?_];show bF (λj σ u=>A3 (∃o3,σ=[!l,hX (.int i),!e,o3]) (ah H u) (∃m,A4 (jp (λt:ku×ZB=>V.ref t.1) H u e m) ((m\1).Nodup) (∀g∈m,g.2.2=(ss.take j).filter λt=>decide (t.2[i]?∣g.1)) (∀n,n∈m\1↔∃t∈ss.take j,t.2[i]?∣n)))
   %[%[_|rfl],se,[],%[aa,λg B=>(nomatch B)|X3],X3,λg B=>(nomatch B)|by simp] (λj σ u h=>h.2 _ _ U) ?_ ?_
  .intro j t σ u G %[%[o3|rfl],I,m,d,gn,J|N];let tm:=Z8 G;let j1:j< ~~~ss:=(Xm G).1;let%[n,L|_]:=KS (Y t tm).2 hi;let tk:ss.take (j+1)=ss.take j++[t]:=by rw[Xa,G];rfl
   change lh _ _ [!l,hX (.int i),!e,hX (.ref t.1)] u;show aA λD4 k4 _=>?_
   lk;let gl: ~~~m<= ~~~ss:=by
    let:m\1 ⊆ ss.filterMap λt=>t.2[i]? :=λy hy=>by
     let%[t,G|e]:=(N y).mp hy;show M6.mpr %[t,Yx G|e]
    let:=_ST.nodup_sub gn λx hx=>this hx
    rw[Z6]at this;show nI this (Oj _ _)
   let st:=I _ _ (Y t tm).1;let keys:∀(M:Gs (ku×ZB)),(∀y,y∈M\1↔y∈m\1\/y=n)->∀y,y∈M\1↔∃t∈ss.take (j+1),t.2[i]?∣y:=λM h y=>by
    rw[h,N,tk]
    constructor
    .rintro(⟨t',h1,h2⟩|rfl)
     .show%[t',Yu _ h1|h2]
     .show%[t,Yv _ Zm|L]
    .rintro⟨t',h1,h2⟩;rcases Xn h1 with q|q
     .show .inl %[t',q|h2]
     .rw[Xo q,L]at h2;show .inr (Za h2).symm
   show%[tyD (d.at_),_,SqT.of st,_,bu (show(t.2\3)[i]?∣.str n by rw[Zl,L];rfl),#[0]|λp C=>%[kG n,ρ,gD m,?_,?_,λv O=>?_|λO=>?_]]
   .rw[aq (λc=>by rw[<-c,d.at_]at C;cases C)];show d.at_
   .unfold gD;rw[Z6];show aC ⋯
   .let%[q,r,e1|rfl]:=fA O;let sp:=ah.Qa (o:= .lst []) C;let U:=sp _ _ (d.la q r).2;let ml: ~~~q.2.2<= ~~~ss:=by
     rw[J q r];show nI (Yi _ _) (by rw[Yl];lia)
    let ka:(ny q.1 t m)\1=m\1:=by
     unfold ny;rw[Ys];show Yp λg _=>?_
     change(if g.1=q.1 then(g.1,g.2.1,g.2.2++[t])else g).1=_
     split<;> rfl
    show%[tyL (Qb.of U),_,U,by rw[Z6];show aC ⋯|k4 _ _ %[%[_|ρ],ah.set (I.trans sp) (d.la q r).1,_,((d.up sp).add gn r t),ka▸gn,λg B=>?_|keys _ λy=>?_]]
    .unfold ny at B;let%[g0,h0|rfl]:=Xp B;rw[tk,Y2];by_cases c:g0.1=q.1
     .rw[lX c];change g0.2.2++[t]=_++N8 (λt=>decide (t.2[i]?∣g0.1)) [t];rw[J g0 h0,Y6 (by rw[L,c,e1];simp),Y7]
     .rw[kw c,J g0 h0,Y4 (by rw[L,<-e1];simpa using λz=>c z.symm),Y7,Zx]
    .rw[ka];show%[.inl|λh=>h.elim id λh=>by rw[h,<-e1];show Xq %[q,r|ρ]]
   .let nk:n∉m\1:=λh=>by
     let%[q,r|c]:=Xp h;let:=jd r;rw[c,O]at this;show this rfl
    let de:e≠p:=λq=>by rw[<-q,d.at_]at C;cases C
    let gp:Qa (Qa u p (.lst [])) e (.dK (dc (gD m) (kG n) (.ref p))) p<*[]:=by rw[aq de.symm,aa]
    show%[tyL (Qb.of gp),[],gp,(show 0<md by decide)|k4 _ _ %[%[_|ρ],ah.set (ah.set (I.trans (ah.Qa C)) fe) (I.free C),_,d.new I C n t nk,?_,λg B=>?_|keys _ λy=>?_]]
    .rw[Zd,X1];show%[gn,by simp|λa ha b hb c=>nk (by rw[<-show b=n from Xo hb,<-c];show ha)]
    .rw[tk,Y2];rcases Xn B with q|q
     .let c:g.1≠n:=λc=>nk (c▸Xq %[g,q|rfl])
      rw[J g q,Y4 (by rw[L];simpa using λz=>c z.symm),Y7,Zx]
     .rw[Xo q];change [t]=_++N8 (λt=>decide (t.2[i]?∣n)) [t];rw[Y6 (by rw[L];simp),Y7,O4.mpr λt' ab c=>nk ((N n).mpr %[t',ab|Zo c])];rfl
    .rw[Zd,Yt,Yq,SB,Yy]
  .intro σ u %[%[o3|rfl],I,m,d,gn,J|N];rw[Zn (Zi _)]at J N;show k2 _ _ ?_;lk;show kk e u I fe %[_,d.at_|λn=>?_];cases O:bX (gD m) (kG n)with
   | none=>
     show .inr %[rfl|λt G c=>?_];let%[q,r|c]:=Xp ((N n).mpr %[t,G|c]);let:=jd r;rw[c,O]at this;show this rfl
   | some v=>
     let%[q,r,e1|rfl]:=fA O;show .inl %[_,rfl|?_];rw[(d.la q r).2,J q r,e1]
def dB(T:Txt K mg):Cal P w K mg base 2 "links_by_later" ["found"] (Fi 0):=by
 .exists T.aK,lR,d,e,%[l,c,ss,rfl,g,a,b|i];show%[_,%["KEHG~6A0A~BB",0|e],l,0,c,ss,ρ,by simp,g,a,b|i]
def kU(T:Txt K mg):Cal P w K mg base 2 "links_by_earlier" ["found"] (Fi 1):=by
 .exists T.aL,ke,d,e,%[l,c,ss,rfl,g,a,b|i];show%[_,%["KEHG~6A0A~GB",0|e],l,1,c,ss,ρ,by simp,g,a,b|i]
structure ReB (ss:ZG) (rs:Gs lp):Prop where
 nd:(rs\1).Nodup
 sub:∀r∈rs,r.2∈ss/\r.2.2[1]?∣r.1
def ReB.len(h:ReB ss rs): ~~~rs<= ~~~ss:=by
 let:=_ST.nodup_sub h.nd (m:=ss.filterMap λt=>t.2[1]?) λx a=>by
  let%[r,b|rfl]:=Xp a;show M6.mpr %[r.2|h.sub r b]
 rw[Z6]at this;show nI this (Oj _ _)
def ReB.snoc(h:ReB ss rs)(d:(a,[p,y,z])∈ss)(e:y∉rs\1):ReB ss (rs++[(y,a,[p,y,z])]):=by
 show%[?_|λr f=>?_]
 .rw[Zd,X1];show%[h.nd,by simp|λa g b i c=>e (by rw[<-show b=y from Xo i,<-c];show g)]
 .rcases Xn f with q|q
  .show h.sub r q
  .rw[Xo q];show%[d|ρ]
abbrev dI(d:ku)(H a:Hp):Prop:=∀b o,b≠d->H b∣o->a b∣o
def dI.trans(h:dI d H c)(g:dI d c a):dI d H a:=λb o n e=>g b o n (h b o n e)
def dI.of(h:ah H a):dI d H a:=λb o _ e=>h b o e
def GrB.x(h:GrB H b ss i)(s:dI d H f)(n:b≠d)(m:H d∣.dK o):GrB f b ss i:=by
 let%[e,g|j]:=h;show%[e,s _ _ n g|λn=>(j n).imp_left λ⟨l,a,b⟩=>%[l,a|s _ _ (λc=>by lia) b]]
def dH.x(h:dH H e ss)(s:dI d H f)(g:H d∣.dK i):dH f e ss:=λt a=>%[s _ _ (λc=>by let b:=(h t a).1;grind) (h t a).1|(h t a).2]
def GrB.get(h:GrB f b ss i)(s:dI d f H)(nb:b≠d)(q:∀xs,f d≠hX (.lst xs))(r:H p=hV)(n:lp):∃e a,Qa H p (.lst []) b∣.dK e/\(bX e (kG n)).getD (.ref p)= .ref a/\Qa H p (.lst []) a∣.lst ((ss.filter λt=>decide (t.2[i]? =hX n))\0)/\(a=p\/∃o,f a∣o):=by
 let%[e,m|u]:=h;let sp:=ah.Qa (o:= .lst []) r;rcases u n with⟨l,g,j⟩|⟨g,v⟩
 .show%[e,l,sp _ _ (s _ _ nb m),by rw[g];rfl,sp _ _ (s _ _ (λc=>q _ (c▸j)) j)|.inr %[_|j]]
 .show%[e,p,sp _ _ (s _ _ nb m),by rw[g];rfl,?_|.inl rfl];rw[O4.mpr λt y c=>v t y (Zo c)];show aa
inductive AR
 | mk (b e d:ku) (ns F:ZB) (ss:hH _) (rs:Gs lp):vs=[.ref b,.ref e,.ref d]->b≠d->GrB H b ss 0->dH H ns ss-> ~~~ss<=250->H e<*F\3->H d∣.dK (gD rs)->ReB ss rs->(∀g H' new,dI d H H'->H g=hV->H' g<*(new\1)\3->H' d∣.dK (gD (rs++new))->ReB ss (rs++new)->(∀r∈new,∃p∈F,r.2.2[0]?∣p)->(∀x∈F,∀y,Ed (ss\2) x y->y∈(rs++new)\1)->Q (.ref g) H')->AR vs H Q E0
def xI(T:Txt K mg):Cal P w K mg base 1 "next_edge" ["beneath","edge","reached"] AR:=by
 .exists T.aP,fi,bl,hr,%[b,e,d,ns,F,ss,rs,rfl,ak,hb,al,bm,he,hd,a5|kk];let Fm: ~~~(F\3)= ~~~F:=Z6 _;let ed:e≠d:=λc=>by rw[c,hd]at he;cases he
  show%[_,%["KCF3RBCSU1J4ESU~H~I0A4ARBBJ5EO~TN5~G2Cy52N5~GEXsn3AN5~GBPEH3",fi.nd|hr]|?_]
  change aR _ _ _ [!b,!e,!d,hV,hV,hV] H;show aj λD1 k1 _=>?_
  lk;show%[#[0]|λg fg=>k1 _ _ (aj λD2 k2 _=>ay λan hK=>?_)];let gd:g≠d:=λc=>by rw[c,hd]at fg;cases fg
  let s1:=ah.Qa (o:= .lst []) fg;let gg:Qa H g (.lst []) g<*(([]:Gs lp)\1)\3:=aa
  generalize Qa H g _=H1 at s1 gg
  lk;show%[%[_|Qb.of (s1 _ _ he)]|hK _ _ ?_];show bF (λi U Y=>A3 (E2 λo4 o5=>U=[!b,!e,!d,!g,o4,o5]) (dI d H Y) (∃new:Gs lp,A5 (Y g<*(new\1)\3) (Y d∣.dK (gD (rs++new))) (ReB ss (rs++new)) (∀r∈new,∃p∈F,r.2.2[0]?∣p) (∀x∈F.take i,∀y,Ed (ss\2) x y->y∈(rs++new)\1)))
   %[%[_,_|rfl],dI.of s1,[],gg,by rw[Zx];show s1 _ _ hd,by rw[Zx];show a5,λr hr=>(nomatch hr)|λx hx=>(nomatch hx)] (λi U Y h=>h.2 _ _ ed he) ?_ ?_
  .intro i n U Y hn %[%[o4,o5|rfl],sm,new,hg,l,J,ae|m];let tk:F.take (i+1)=F.take i++[n]:=by rw[Xa,hn];rfl
   change uG _ _ _ _ [!b,!e,!d,!g,-n,o5] Y;show aA λD3 k3 _=>ay λan hK=>?_
   lk;show%[tyD (sm _ _ ak hb.choose_spec.1),#[0]|λp hp=>?_];let%[a6,a,as,bb,L|bc]:=hb.get sm ak (λxs c=>by rw[hd]at c;cases c) hp n;let ag:a≠g:=by
    rcases bc with rfl|⟨o,ho⟩
    .show λc=>by rw[c,hg]at hp;cases hp
    .show λc=>by rw[c,fg]at ho;cases ho
   let ad:a≠d:=λc=>by
    let:=L;rw[c,aq (λc=>by rw[c,hp]at l;cases l),l]at this;cases this
   let sp:=ah.Qa (o:= .lst []) hp;let hg:=sp _ _ hg;let l:=sp _ _ l;let sm:=sm.trans (dI.of sp)
   generalize Qa Y p _=H2 at as L sp hg l sm ⊢
   generalize a0:(ss.filter λt=>decide (t.2[0]?∣n))=ts at L
   let tm: ~~~(ts\0)= ~~~ts:=Z6 _;let be:∀t∈ts,t∈ss/\∃y z,t.2=[n,y,z]:=λt ht=>by
    rw[<-a0]at ht;let%[h1|h2]:=ow.mp ht;let%[x,y,z,e|_]:=(al t h1).2;let h2:=Zo h2;rw[e]at h2;show%[h1,y,z|by rw[e,show x=n from Za h2]]
   show%[kG n,ρ,a6,as|vE bb %[%[_|Qb.of L]|hK _ _ ?_]];show bF (λj U O=>A4 (∃o5,U=[!b,!e,!d,!g,-n,o5]) (dI d H O) (O a∣.lst (ts\0)) (∃new:Gs lp,A6 (O g<*(new\1)\3) (O d∣.dK (gD (rs++new))) (ReB ss (rs++new)) (∀r∈new,∃p∈F,r.2.2[0]?∣p) (∀x∈F.take i,∀y,Ed (ss\2) x y->y∈(rs++new)\1) (∀t∈ts.take j,∀y,t.2[1]?∣y->y∈(rs++new)\1)))
    %[%[_|rfl],sm,L,new,hg,l,J,ae,m|λt ht=>(nomatch ht)] (λj U O h=>h.3) ?_ ?_
   .intro j t U O ht %[%[o5|rfl],M,N,new,ab,G,B,C,u|ac];let%[a1,y,z|et]:=be t (Z8 ht);let I:=(al.x M hd t a1).1;rw[et]at I;let bf:ts.take (j+1)=ts.take j++[t]:=by rw[Xa,ht];rfl
    change j8 _ _ _ _ [!b,!e,!d,!g,-n,hX (.ref t.1)] O;show aA λD4 k4 _=>?_
    lk;show%[_,SqT.of I,_,ρ,_,b8.k (k:=kG y) G|?_];let a2:∀(nw:Gs lp),(∀x∈(rs++new)\1,x∈(rs++nw)\1)->y∈(rs++nw)\1->(∀x∈F.take i,∀y,Ed (ss\2) x y->y∈(rs++nw)\1)/\∀t∈ts.take (j+1),∀y,t.2[1]?∣y->y∈(rs++nw)\1:=λnw mono hy=>by
     show%[λx hx y h=>mono y (u x hx y h)|λt' a3 y' h=>?_];rw[bf]at a3;rcases Xn a3 with q|q
     .show mono y' (ac t' q y' h)
     .rw[Xo q,et]at h;rw[<-show y=y' from Za h];show hy
    cases hv:bX (gD (rs++new)) (kG y)with
    | some v=>
      rw[kw ∅];let%[q,hq,e1|_]:=fA hv;let%[n1|n2]:=a2 new (λ_ h=>h) (by rw[<-e1];show Xq %[q,hq|rfl]);show k4 _ _ %[%[_|rfl],M,N,new,ab,G,B,C,n1|n2]
    | none=>
      rw[lX (by rfl)];let hy:y∉(rs++new)\1:=λh=>by
       let%[q,hq|c]:=Xp h;let:=jd hq;rw[c,hv]at this;show this rfl
      let ln:=B.len;let nl: ~~~new<=250:=by rw[Z9]at ln;lia
      show%[_,SqT.of I,_,ρ,_,gK.k (k:=kG y) G (by unfold gD;rw[Z6];show aC ⋯)|?_];rw[dX _ hv];let e1:gD (rs++new) ++[(kG y,V.ref t.1)]=gD (rs++(new++[(y,t.1,[n,y,z])])):=by
       unfold gD;rw[<-Ze,Zd (l₂:=[_])];rfl
      rw[e1];let u1:∀c o,c≠d->O c∣o->Qa O d (.dK (gD (rs++(new++[(y,t.1,[n,y,z])])))) c∣o:=λc o h e=>(aq h)▸e
      let a4:=u1 _ _ gd ab;let R:=B.snoc (p:=n) (y:=y) (z:=z) (a:=t.1) (et▸a1) hy;rw[Ze]at R;let%[n1|n2]:=a2 (new++[(y,t.1,[n,y,z])]) (λx hx=>by rw[<-Ze,Zd];show Yu _ hx) (by rw[<-Ze,Zd];show Yv _ Zm);show%[tyL (Qb.of a4),_,SqT.of (u1 _ _ (λc=>by rw[c,G]at I;cases I) I),_,ρ,_,a4,by rw[Z6,Z6];show aC ⋯|k4 _ _ %[%[_|ρ],λc o h e=>?_,(aq ag).trans (u1 _ _ ad N),_,?_,(aq gd.symm).trans aa,R,?_,n1|n2]]
      .rw[aq (ax e fg)];show u1 _ _ h (M _ _ h e)
      .rw[aa,Zd,Zd];rfl
      .intro r hr;rcases Xn hr with q|q
       .show C r q
       .rw[Xo q];show%[n,Z8 hn|ρ]
   .intro U O %[%[o5|rfl],M,N,new,ab,G,B,C,u|ac];rw[Zn (Zi _)]at ac;show k3 _ _ %[%[_,_|rfl],M,new,ab,G,B,C|λx hx y ⟨z,hy⟩=>?_];rw[tk]at hx;rcases Xn hx with q|q
    .show u x q y %[z|hy]
    .rw[Xo q]at hy;let%[t,ht|et]:=Xp hy;show ac t (a0▸ow.mpr %[ht|by rw[et];simp]) y (by rw[et];rfl)
  .intro U Y %[%[o4,o5|rfl],sm,new,hg,l,J,ae|m];rw[Zn (Zi _)]at m;show k2 _ _ ?_;lk;show kk g Y new sm fg hg l J ae m
def uB{b:ri}(h: ¬ (not b)=hY):b=hY:=by
 cases b
 .show n0 rfl h
 .rfl
def kW{rs:Gs lp}{y:lp}(h:y∈rs\1):∃r∈rs,r.1=y/\bX (gD rs) (kG y)∣.ref r.2.1:=by
 cases b:bX (gD rs) _ with
 | none=>
   let%[q,a|c]:=Xp h;let:=jd a;rw[c,b]at this;show(this rfl).elim
 | some v=>
   let%[q,a,e|rfl]:=fA b;show%[q,a,e|ρ]
inductive Fj
 | mk (d st goal ns F ss rs dd k):vs=[.ref d,.str st,.str goal]->H d∣.dK (gD rs)->ReB ss rs->Lev (ss\2) st rs dd k F->k<=300->dH H ns ss->goal∈rs\1->(∀l H' (ws:hH _),ah H H'->H l=hV->H' l∣.lst (ws\0)->(∀t∈ws,t∈ss)->Wal (ws\2) st goal-> ~~~ws=dd goal->Q (.ref l) H')->Fj vs H Q E0
def Fk(T:Txt K mg):Cal P w K mg base 1 "way_to" ["reached","start","goal"] Fj:=by
 .exists T.aQ,tX,ab,j,%[d,st,a,ns,F,ss,rs,i,k,rfl,hd,C,l,hk,G,n|kk];show%[_,%["KCF3RAW02BC~RL+NQ3~vD~B1EXsn3AW0NQ3~vD~BBEH]%3",tX.nd|j]|?_]
  change aR _ _ _ [!d,-st,-a,hV] H;show aj λD1 k1 _=>?_
  lk;let%[r,I,e1|hv]:=kW n;let get:=b8.k (k:=kG a) hd;rw[hv]at get;show%[_,get,#[1]|λb fw=>k1 _ _ (aj λD2 k2 _=>?_)];let s1:=ah.Qa (o:= .lst [V.ref r.2.1]) fw;let gw:Qa H b (.lst [V.ref r.2.1]) b∣.lst (([]:ZG).reverse\0 ++[V.ref r.2.1]):=aa
  generalize Qa H b _=H1 at s1 gw
  show⟨λm σ u=>σ=[!d,-st,-a,!b]/\ah H u/\∃(us:ZG) (r:lp×ku×ZB),r∈rs/\m=i r.1/\u b∣.lst (us.reverse\0 ++[.ref r.2.1])/\(∀t∈us,t∈ss)/\Wal (us\2) r.1 a/\ ~~~us+m=i a,%[_,rfl,s1,[],r,I,rfl,gw,λt h=>(nomatch h),e1|by rw[e1];simp],?_⟩;intro m σ H2 %[rfl,v,us,r,j,rfl,hw,y,B|hl];let%[ac,p,z,J|hp]:=l.by_ r j;let e:=(C.sub r j).1;let g:=v _ _ (G _ e).1;rw[J]at g;let gl:=l.le a n;lk;show%[_,Qb.of hw,_,wa _ _,_,SqT.of g,_,ρ,ρ|bv (λh=>?_) λh=>?_]
  .let h:p≠st:=↑h
   let%[_,L|ae]:=hp.resolve_left λc=>h c.1
   let%[r',M,N|O]:=kW L;let get:=b8.k (k:=kG p) (v _ _ hd);rw[O]at get;show⟨λU u=>∃Y,Y<i r.1/\U=[!d,-st,-a,!b]/\ah H u/\∃(us:ZG) (r:lp×ku×ZB),r∈rs/\Y=i r.1/\u b∣_/\(∀t∈us,t∈ss)/\Wal (us\2) r.1 a/\ ~~~us+Y=i a,λ_ _ h=>h,tyL (Qb.of hw),_,Qb.of hw,_,wa _ _,_,SqT.of g,_,rfl,_,get,_,hw,by rw[Z9,Z6,Uy,Yk];show aC ⋯,_,?_,rfl,ah.set v fw,r.2::us,r',M,rfl,?_,?_,?_,?_⟩
   .rw[N];lia
   .rw[aa,RS,Zd];rfl
   .intro t ht;rcases Yw.mp ht with q|q
    .show q▸e
    .show y t q
   .show%[r.1,z,J.trans (by rw[N])|B]
   .rw[Zr,N];lia
  .let h:p=st:=↑h
   show k2 _ _ ?_;lk;show%[_,hw|λq fq=>kk q _ (r.2::us) (v.trans (ah.Qa fq)) (v.free fq) ?_ (λt ht=>?_) %[r.1,z,J.trans (by rw[h])|B] (by rw[Zr];lia)]
   .rw[aa,hH.reverse_append,<-hH.map_reverse,hH.reverse_reverse];rfl
   .rcases Yw.mp ht with q|q
    .show q▸e
    .show y t q
inductive xJ
 | mk (b st goal ns ss):vs=[.ref b,.str st,.str goal]->GrB H b ss 0->dH H ns ss-> ~~~ss<=250->(∀H',ah H H'-> ¬ Rch (ss\2) st goal->Q .non H')->(∀l H' (ws:hH _),ah H H'->H l=hV->H' l∣.lst (ws\0)->(∀t∈ws,t∈ss)->Sho (ss\2) st goal (ws\2)-> ~~~ws<=300->Q (.ref l) H')->xJ vs H Q E0
abbrev Mh(H:Hp)(b d:ku)(st a:lp)(ss:ZG)(m:jg)(f:_LL.St)(c:Hp):Prop:=∃e F rs g k,f=[!b,-st,-a,!d,!e]/\ah H c/\c e<*F\3/\c d∣.dK (gD rs)/\ReB ss rs/\Lev (ss\2) st rs g k F/\k<= ~~~rs+1/\(F≠[]->k<= ~~~rs)/\m=2*(250-rs.length) +F.length.min 1
def jP(T:Txt K mg):Cal P w K mg base 2 "shortest_way" ["beneath","start","goal"] xJ:=by
 .exists T.aO,dL,a0,C,%[b,st,i,ns,ss,rfl,hb,G,ac,kn|ky];show%[_,%["KCF3!CF4RA1BC~Rh/L=efA4BD^~T23EF4G]&A0A4A3BCO~T23EHrPEHG]'A3A1A2B",dL.nd|C]|?_]
  change aR _ _ _ [!b,-st,-i,hV,hV] H;show aj λD1 k1 _=>?_
  lk;intro d fd;show k1 _ _ (aj λD2 k2 _=>?_);let ae:b≠d:=λc=>by
   let%[a1,N|_]:=hb;rw[c,fd]at N;cases N
  let s1:=ah.Qa (o:= .dK []) fd;let B:Qa H d (.dK []) d∣.dK (gD ([]:Gs lp)):=aa
  generalize Qa H d _=H1 at s1 B
  lk;show%[#[1]|λe fe=>k2 _ _ (aj λD3 k3 _=>?_)];let s2:=ah.Qa (o:= .lst [V.str st]) fe;let O:Qa H1 e (.lst [V.str st]) e<*[st]\3:=aa;let B:=s2 _ _ B;let U:=s1.trans s2
  generalize Qa H1 e _=H2 at U O B
  show%[Mh H b d st i ss,%[_,e,[st],[],_,_,ρ,U,O,B,%[X3|λ_ h=>(nomatch h)],.nil,by simp,λ_=>Zi _|ρ]|?_];intro m σ H3 %[e,F,rs,dd,k,rfl,I,O,B,J,j,hk,ag|rfl];let fm: ~~~(F\3)= ~~~F:=Z6 _;let get:=b8.k (k:=kG i) B;let rl:=J.len;let L:i∈rs\1↔(bX (gD rs) (kG i)).isSome=hY:=by
   show%[λh=>?_|λh=>?_]
   .let%[r,_,_|e]:=kW h;rw[e];rfl
   .let%[v|hv]:=Qo.mp h;let%[q,hq,c|_]:=fA hv;show c▸Xq %[q,hq|rfl]
  lk;let fin:(i∉rs\1->F=[])->D3.nx [!b,-st,-i,!d,!e] H3:=λh=>by
   show k3 _ _ (aj λD4 k4 r4=>?_);lk;show%[_,get|bv (λq=>?_) λq=>?_]
   .let q:i∉rs\1:=λc=>by rw[L.mp c]at q;cases q
    show r4 _ _ (kn H3 I λr=>q ?_);let%[n|hn]:=r.dst;rw[h q]at j;show j.stop hn
   .let q:i∈rs\1:=L.mpr (uB q);show k4 _ _ ?_;lk;show%[d,st,i,ns,F,ss,rs,dd,k,ρ,B,J,j,⋯,G.up I,q|λl H' ws s' fl hl Y ak wl=>ky l H' ws (I.trans s') (I.free fl) hl Y %[λk hk=>?_,ak,?_|λn hn=>?_] (by rw[wl];let:=j.le _ q;lia)]
    .let%[t,ht|rfl]:=Xp hk;show Xq %[t,Y t ht|rfl]
    .rw[Z6,wl];show(j.dst q).1
    .rw[Z6,wl];show j.min q hn
  show%[_,.inl %[_,Qb.of O|ρ]|bv (λh=>?_) λh=>fin λ_=>?_]
  .let h:0< ~~~F:=by
    rw[fm]at h;let:=Zo h
    lia
   show%[_,get|bv (λq=>⟨λal H'=>∃m',m'<2*(250-rs.length) +F.length.min 1/\Mh H b d st i ss m' al H',λ_ _ h=>h,b,e,d,ns,F,ss,rs,ρ,ae,hb.up I,G.up I,ac,O,B,J,λg H4 new sx fg hg an u as M=>?_⟩) λq=>fin λc=>n0 (L.mpr (uB q)) c];let ln:=u.len;rw[Z9]at ln;let ab:F.length.min 1=1:=Sm h;let kF:=ag λc=>by rw[c]at h;cases h
   show%[_,?_,g,new\1,rs++new,_,_,ρ,(λc o ec=>sx c o (λz=>by rw[z,fd]at ec;cases ec) (I _ _ ec)),hg,an,u,j.step u.nd (λr C=>?_) M,?_,λnn=>?_|ρ]
   .rw[ab,Z9,Z6];cases new with
    | nil=>simp
    | cons a r=>
      rw[Zr]at ln ⊢;let:(~~~r+1).min 1<=1:=jg.min_le_right _ _
      lia
   .let%[N|h2]:=u.sub r (Yv _ C);let%[p,hp|h3]:=as r C;let%[x,y,z,e|_]:=(G r.2 N).2;rw[e]at h2 h3;show%[Xq %[_,N|ρ],p,z,hp|by rw[e,show x=p from Za h3,show y=r.1 from Za h2]]
   .rw[Z9];lia
   .cases new with
    | nil=>show n0 rfl nn
    | cons a r=>rw[Z9,Zr];lia
  .cases F with
   | nil=>rfl
   | cons x F=>show n0 (Zf (by rw[fm,Zr];lia)) h
abbrev VD(a:ZB)(g:lp->V):hH (Key×V):=a.map λz=>(kG z,g z)
def iB:∀{a:ZB},z∈a->bX (VD a g) (kG z)∣g z
 | x::a,h=>by
   by_cases e:x=z
   .subst e;show eR rfl
   .rw[show VD _ g=(kG x,g x)::VD a g from rfl,di (λq=>e (ND q))];show iB ((Yw.mp h).resolve_left λq=>e q.symm)
def ii:∀{a:ZB},z∉a->bX (VD a g) (kG z)=hV
 |[],_=>rfl
 | x::a,h=>by
   rw[Yw,OY]at h;rw[show VD _ g=(kG x,g x)::VD a g from rfl,di (λq=>h.1 (ND q).symm)];show ii h.2
def Fo(h:z∈a):dc (VD a g) (kG z) v=VD a (λx=>if x=z then v else g x):=by
 unfold dc;rw[lX (by rw[jx,iB h];rfl)];unfold VD;rw[Ys];show Yp λx _=>?_
 change(if(kG x)=kG z then((kG x),v)else(kG x,g x))=(kG x,if x=z then v else g x)
 by_cases e:x=z
 .rw[lX (sU _ e),lX e]
 .rw[kw (λq=>e (ND q)),kw e]
abbrev cnt(ss:ZG)(L:ZB)(n:lp):jg:=ss.countP λt=>decide (t.2[0]?∣n)&&t.2[1]?.all λy=>decide (y∉L)
def Hj(ss:hH _)(n:lp):cnt ss [] n= ~~~(ss.filter λt=>decide (t.2[0]?∣n)):=by
 unfold cnt;rw[<-hH.countP_eq_length_filter]
 simp_all
def Fp(h:cnt ss L m=0)(e:Ed (ss\2) m y):y∈L:=by
 let%[z|a]:=e;let%[t,b|c]:=Xp a;let:=hH.countP_eq_zero.mp h t b
 simp_all
def xK(c:m∉L):∀ss:ZG,cnt ss L n=cnt ss (L++[m]) n+(ss.filter λt=>decide (t.2[1]?∣m)).countP λt=>decide (t.2[0]?∣n)
 |[]=>rfl
 | t::ss=>by
   let d:=xK (n:=n) c ss;unfold cnt at d ⊢;rw[Qq,Qq,d];cases b:t.2[1]? with
   | none=>rw[Y4 (by rw[b];simp)];simp only[lx.all_none];lia
   | some y=>
     by_cases e:y=m
     .subst e;rw[Y6 (by rw[b];simp),Qq];by_cases a:t.2[0]?∣n
      .simp[a,c];lia
      .simp[a]
     .rw[Y4 (by rw[b];simpa using e)];by_cases a:t.2[0]?∣n
      .by_cases f:y∈L
       .simp[a,f]
       .simp[a,f,e];lia
      .simp[a]
structure Mj (ss:ZG) (ns L R:ZB):Prop where
 nd:(L++R).Nodup
 mem:∀x,x∈L++R↔x∈ns/\cnt ss L x=0
 ord:∀(i:jg) x,L[i]?∣x->∀y,Ed (ss\2) x y->y∈L.take i
abbrev Mm(f:Hp)(l m b a w e ld:ku)(d:ZB)(ss:ZG)(k:jg)(g:_LL.St)(c:Hp):Prop:=∃(h i j:lx V) (L R:ZB),g=[!l,!m,!b,!a,!w,h,!e,!ld,i,j]/\ah f c/\c w∣.dK (VD d λn=> .int (cnt ss L n))/\c e<*R\3/\c ld<*L\3/\Mj ss d L R/\k= ~~~d-L.length
inductive AS
 | mk (l m:ku) (ns:ZB) (ss:ZG):vs=[.ref l,.ref m]->H l<*ns\3->ns.Nodup-> ~~~ns<=63->H m∣.lst (ss\0)->dH H ns ss-> ~~~ss<=250->(∀r H' (L:ZB),ah H H'->H' r<*L\3->L.Nodup->(∀x∈L,x∈ns)->(∀(i:jg) x,L[i]?∣x->∀y,Ed (ss\2) x y->y∈L.take i)->(∀x∈ns,x∉L->∃y,Ed (ss\2) x y/\y∈ns/\y∉L)->H r=hV->Q (.ref r) H')->AS vs H Q E0
def jQ(T:Txt K mg):Cal P w K mg base 3 "laid_in_turn" ["names","found"] AS:=by
 .exists T.aN,bi,c5,hr,%[l,m,d,ss,rfl,hl,nn,nl,hm,ag,b4|kk];let nm: ~~~(d\3)= ~~~d:=Z6 _;show%[_,%["KCF2G~eA1BCF3G](A1BC>4tu!CSU0J5EyefA~H~I2A5ARBBBT45C~c6uti?1U0a0?2zLjWT10D0CF7RBC~RL=efA6BDCF8~F])A6BCX]*]+6A8BCXsn7A8BESU~H~I3A8ARBBJ9CyI~MWT4N9~BDT4N9~BEOLjWT4N9~BDEXsn6AN9~BBPEH7",bi.nd,↑(["name","waits"],[(1,4)]),↑["name","waits"]|hr]|?_]
  change aR _ _ _ [!l,!m,hV,hV,hV,hV,hV,hV,hV,hV] H;show aj λD1 k1 _=>?_
  lk;show%[m,d,ss,ρ,hm,ag,b4|λb H1 s1 fb hb=>k1 _ _ (aj λD2 k2 _=>?_)];lk;show%[m,d,ss,ρ,s1 _ _ hm,ag.up s1,b4|λa H2 s2 fa ha=>k2 _ _ (aj λD3 k3 _=>?_)];let N:=s1.trans s2;let hb:=hb.up s2;lk;intro w fw;show k3 _ _ (aj λD4 k4 _=>ay λa5 hK=>?_);let s3:=ah.Qa (o:= .dK []) fw;let gw:Qa H2 w (.dK []) w∣.dK (VD (d.take 0) λn=> .int (cnt ss [] n)):=aa
  generalize Qa H2 w _=H3 at s3 gw
  let cs:=N.trans s3;lk;show%[%[_|Qb.of (cs _ _ hl)]|hK _ _ ?_];let ct:b≠w:=λc=>by
   let%[ab,h1|_]:=hb;rw[c,fw]at h1;cases h1
  let cv:a≠w:=λc=>by
   let%[ab,h1|_]:=ha;rw[c,fw]at h1;cases h1
  let b5:∀xs,H2 w≠hX (.lst xs):=λxs c=>by rw[fw]at c;cases c
  show bF (λi M u=>A3 (∃o5,M=[!l,!m,!b,!a,!w,o5,hV,hV,hV,hV]) (ah H2 u) (u w∣.dK (VD (d.take i) λn=> .int (cnt ss [] n))))
   %[%[_|rfl],s3|gw] (λi M u h=>h.2 _ _ (N _ _ hl)) ?_ ?_
  .intro i n M u hn %[%[o5|rfl],sm|hw];let i1:i< ~~~d:=(Xm hn).1;change pc _ _ _ _ [!l,!m,!b,!a,!w,-n,hV,hV,hV,hV] u;show aA λD5 k5 _=>?_
   lk;show%[tyD (sm _ _ hb.choose_spec.1),#[0]|λp hp=>?_];let%[ab,al,cw,ak,O|b6]:=hb.get (dI.of sm) ct b5 hp n;let sp:=ah.Qa (o:= .lst []) hp;show%[kG n,ρ,ab,cw,_,by rw[ak];show .inl %[_,Qb.of O|ρ],_,gK.k (k:=kG n) (sp _ _ hw) (by unfold VD;rw[Z6,Yl];show aC ⋯)|k5 _ _ %[%[_|ρ],ah.set (sm.trans sp) fw|?_]];let zn:n∉d.take i:=λhm=>by
    let h:=nn;rw[<-Xb i d,X1]at h;show h.2.2 n hm n (Z8 (i:=0) (by rw[Yb];show hn)) rfl
   rw[aa,dX _ (ii zn),Z6,<-Hj,Xa,hn];unfold VD;rw[Zd];rfl
  .intro M u %[%[o5|rfl],sm|hw];rw[Zn (Zi _)]at hw;show k4 _ _ (aj λD5 k5 _=>aL λa5 hK=>?_);lk;let b9:=sm _ _ (N _ _ hl);show%[%[_|Qb.of b9]|hK _ _ λG ac=>?_];show cN (λj vs M H3=>A4 (∃o1,M=[o1,!w]) (ah u H3) (H3 G<*vs) (vs=((d.take j).filter λn=>decide (cnt ss [] n=0))\3))
    %[%[hV|rfl],ah.Qa ac,aa|rfl] (λ_ _ _ H3 cx=>cx.2 _ _ b9) ?_ ?_
   .intro j vs M H4 hj %[%[o1|rfl],I,ca|hv];let get:=b8.k (k:=kG d[j]) (I _ _ hw);rw[iB (Yd hj)]at get;lk;show%[_,get,ρ|bv (λh=>?_) λh=>?_]
    .let h:cnt ss [] d[j]=0:=↑h
     show CK.mk hj ca (by rw[hv,Z6];let:=Yi (λn=>decide (cnt ss [] n=0)) (d.take j);rw[Yl]at this;show aC ⋯) %[%[_|rfl],ah.set I ac,aa|?_];rw[hv,Xa,Z4 hj,Y2,Zd];change _=_++(N8 _ [d[j]])\3;rw[Y6 ↑h];rfl
    .let h:cnt ss [] d[j]≠0:=↑h
     show CN.mk hj %[%[_|rfl],I,ca|?_];rw[hv,Xa,Z4 hj,Y2,Zd];change _=_++(N8 _ [d[j]])\3;rw[Y4 ↑h];simp
   intro vs M H3 %[_,I,an|hv];rw[Zn (Zi _)]at hv;rw[hv]at an;show k5 _ _ (aj λD6 k6 _=>?_);let U:=I _ _ hw;let bb:=sm.trans I;let bc:w≠G:=λc=>by rw[<-c,hw]at ac;cases ac
   let be:=sm.free ac;lk;show%[#[0]|λld fld=>k6 _ _ (aj λD7 k7 _=>?_)];let s4:=ah.Qa (o:= .lst []) fld;let bf:Qa H3 ld (.lst []) ld<*([]:ZB)\3:=aa;let cd:w≠ld:=λc=>by rw[<-c,U]at fld;cases fld
   let bl:G≠ld:=λc=>by rw[<-c,an]at fld;cases fld
   let bm:=s4 _ _ U;let bt:=s4 _ _ an;let b0:=bb.trans s4;let fld:=bb.free fld
   generalize Qa H3 ld _=H4 at s4 bf bm bt b0
   show%[Mm H2 l m b a w G ld d ss,%[_,o5,hV,hV,[],_,ρ,b0,bm,bt,bf,%[nn.filter _,λx=>by simp|λi x e=>by simp at e]|ρ]|?_];clear b0 bm bt bf an U hw hv I bb sm;intro k M H5 %[o5,o8,o9,L,R,rfl,sm,hw,hR,hL,v|rfl];let Rm: ~~~(R\3)= ~~~R:=Z6 _;let c6: ~~~L+ ~~~R<= ~~~d:=by
    rw[<-Z9];show _ST.nodup_sub v.nd λx hx=>((v.mem x).mp hx).1
   lk;show%[~~~R,.inl %[_,Qb.of hR|Rm.symm]|bv (λh=>?_) λh=>?_]
   .let h:0< ~~~R:=by let:=Zo h;lia
    show⟨λcy u=>∃m',m'< ~~~d-L.length/\Mm H2 l m b a w G ld d ss m' cy u,λ_ _ h=>h,R,Qb.of hR,h,λx hx _=>%[tyL (Qb.of hR),R,hR,hx|λR1 pm=>?_]⟩;let u1:=ah.set (o:= .lst (R1\3)) sm be;let b1:Qa H5 G (.lst (R1\3)) G=_:=aa;let b2:Qa H5 G (.lst (R1\3)) w=_:=(aq bc).trans hw;let as:Qa H5 G (.lst (R1\3)) ld=_:=(aq bl.symm).trans hL
    generalize Qa H5 G _=H6 at u1 b1 b2 as ⊢
    show%[tyL (Qb.of as),_,as,by rw[Z6];show aC ⋯|aA λda cM _=>ay λa5 hK=>?_];let u2:=ah.set (o:= .lst (L\3++[.str x])) u1 fld;let a0:Qa H6 ld (.lst (L\3++[.str x])) ld<*(L++[x])\3:=by rw[aa,Zd];rfl
    let a1:Qa H6 ld (.lst (L\3++[.str x])) w=_:=(aq cd).trans b2;let a2:Qa H6 ld (.lst (L\3++[.str x])) G=_:=(aq bl).trans b1
    generalize Qa H6 ld _=H7 at u2 a0 a1 a2 ⊢
    lk;show%[tyD (u2 _ _ ha.choose_spec.1),#[0]|λp hp=>?_];let%[ab,al,ak,c0,O|b6]:=ha.get (dI.of u2) cv b5 hp x;let b3:∀{c:ku} {o:HO},H7 c∣o->H2 c=hV->al≠c:=λ{c o} h1 h2=>by
     rcases b6 with rfl|⟨o',ho⟩
     .show λz=>by rw[z,h1]at hp;cases hp
     .show λz=>by rw[z,h2]at ho;cases ho
    let c1:=b3 a1 fw;let c2:=b3 a2 be;let all:=b3 a0 fld;let sp:=ah.Qa (o:= .lst []) hp;let U:=sp _ _ a1;let ce:=sp _ _ a2;let ch:=sp _ _ a0;let u3:=u2.trans sp
    generalize Qa H7 p _=H8 at ak O U ce ch u3 ⊢
    clear u1 u2 a1 a2 a0 b2 b1 as hp sp
    generalize cl:(ss.filter λt=>decide (t.2[1]?∣x))=ts at O
    let tm: ~~~(ts\0)= ~~~ts:=Z6 _;let xL:x∉L:=λc=>(X1.mp v.nd).2.2 x c x hx rfl
    let pr:(L++[x] ++R1).Perm (L++R):=by
     rw[Ze];show pm.append_left L
    let f0:∀n,cnt ss L n=cnt ss (L++[x]) n+(ts.drop 0).countP λt=>decide (t.2[0]?∣n):=λn=>by rw[UE,<-cl];show xK xL ss
    let c3:∀t∈ts,∃n z,t.2=[n,x,z]/\n∈d/\H t.1&&&[n,x,z]\3:=λt ht=>by
     rw[<-cl]at ht;let%[h1|h2]:=ow.mp ht;let%[h3,n,y,z,e,hn|_]:=ag t h1;let h2:=Zo h2;rw[e]at h2 h3;obtain rfl:y=x:=Za h2;show%[n,z,e,hn|h3]
    show%[kG x,ρ,ab,ak|vE c0 %[%[_|Qb.of O]|hK _ _ ?_]];show bF (λj M u=>A6 (∃o9,M=[!l,!m,!b,!a,!w,o5,!G,!ld,-x,o9]) (ah H2 u) (u al∣.lst (ts\0)) (u w∣.dK (VD d λn=> .int ((cnt ss (L++[x]) n+(ts.drop j).countP λt=>decide (t.2[0]? =hX n):jg):oT))) (u ld<*(L++[x])\3) (∃Rj:ZB,A3 (u G<*Rj\3) ((L++[x] ++Rj).Nodup) (∀y,y∈L++[x] ++Rj↔y∈d/\cnt ss (L++[x]) y+((ts.drop j).countP λt=>decide (t.2[0]?∣y))=0)))
     %[%[_|rfl],u3,O,by rw[U];show sU (λg=>hX (HO.dK (VD d g))) (funext λn=>by rw[f0 n]),ch,R1,ce,pr.nodup_iff.mpr v.nd|λy=>by rw[<-f0,pr.mem_iff];show v.mem y] (λj M u h=>h.3) ?_ ?_
    .intro j t M u ht %[%[o9|rfl],a3,B,J,Y,Rj,C,rn|rz];let jl:=(Xm ht).1;let%[n,z,et,hn|r]:=c3 t (Z8 ht);let r:=a3 _ _ (N _ _ r);let dr:ts.drop j=t::ts.drop (j+1):=by rw[Zy jl,(Xm ht).2]
     rw[dr]at J rz;let get:=b8.k (k:=kG n) J;rw[iB hn]at get;let tw:t.1≠w:=λc=>by rw[c,J]at r;cases r
     let dd:=(X1.mp rn)
     let rl: ~~~Rj<= ~~~d:=by
      let:=_ST.nodup_sub rn λy hy=>((rz y).mp hy).1
      rw[Z9]at this
      lia
     change aR _ _ _ [!l,!m,!b,!a,!w,o5,!G,!ld,-x,hX (.ref t.1)] u;show aj λde c4 _=>?_
     lk;let one:∀y,(t::ts.drop (j+1)).countP (λt=>decide (t.2[0]?∣y))=((ts.drop (j+1)).countP λt=>decide (t.2[0]?∣y)) +if y=n then 1 else 0:=λy=>by
      rw[Qq,et];by_cases c:y=n
      .rw[lX c,lX (by rw[c];simp)]
      .rw[kw c,kw (by simpa using λq=>c q.symm)]
     show%[_,SqT.of r,_,ρ,_,get,_,SqT.of r,_,ρ,_,gK.k (k:=kG n) J (by unfold VD;rw[Z6];show aC ⋯)|c4 _ _ (aA λdg co _=>?_)];rw[Fo hn];let e1:(λy=>if y=n then V.int (((cnt ss (L++[x]) n+(t::ts.drop (j+1)).countP λt=>decide (t.2[0]?∣n):jg):oT) -1)else V.int ((cnt ss (L++[x]) y+(t::ts.drop (j+1)).countP λt=>decide (t.2[0]?∣y):jg):oT))=λy=>V.int ((cnt ss (L++[x]) y+(ts.drop (j+1)).countP λt=>decide (t.2[0]?∣y):jg):oT):=funext λy=>by
      rw[one,one];by_cases c:y=n
      .rw[lX c,c,lX rfl]
       congr 1
       lia
      .rw[kw c,kw c];rfl
     rw[e1];let v1:=ah.set (o:= .dK (VD d λy=>V.int ((cnt ss (L++[x]) y+(ts.drop (j+1)).countP λt=>decide (t.2[0]?∣y):jg):oT))) a3 fw;let a4:Qa u w (.dK (VD d λy=>V.int ((cnt ss (L++[x]) y+(ts.drop (j+1)).countP λt=>decide (t.2[0]?∣y):jg):oT))) w=_:=aa;let ae:∀c o,c≠w->u c∣o->Qa u w (.dK (VD d λy=>V.int ((cnt ss (L++[x]) y+(ts.drop (j+1)).countP λt=>decide (t.2[0]?∣y):jg):oT))) c∣o:=λc o h e=>by rw[aq h];show e
     generalize Qa u w _=H9 at v1 a4 ae
     let r:=ae _ _ tw r;let B:=ae _ _ c1 B;let Y:=ae _ _ cd.symm Y;let C:=ae _ _ bc.symm C;let get:=b8.k (k:=kG n) a4;rw[iB hn]at get;let cp:n∉L++[x] ++Rj:=λc=>by
      let:=((rz n).mp c).2;rw[one,lX rfl]at this
      lia
     let a6:∀y,y≠n->(y∈L++[x] ++Rj↔y∈d/\cnt ss (L++[x]) y+((ts.drop (j+1)).countP λt=>decide (t.2[0]?∣y))=0):=λy c=>by
      rw[rz y,one,kw c];rfl
     lk;show%[_,SqT.of r,_,ρ,_,get,ρ|bv (λh=>?_) λh=>?_]
     .let h:cnt ss (L++[x]) n+((ts.drop (j+1)).countP λt=>decide (t.2[0]?∣n))=0:=by
       let:=V.int.inj (Zo h)
       lia
      let tr:t.1≠G:=λc=>by rw[c,C]at r;cases r
      show%[tyL (Qb.of C),_,SqT.of r,_,ρ,_,C,by rw[Z6];show aC ⋯|co _ _ %[%[_|ρ],ah.set v1 be,(aq c2).trans B,(aq bc).trans a4,(aq bl.symm).trans Y,Rj++[n],by rw[aa,Zd];rfl,?_|λy=>?_]]
      .rw[<-Ze,X1];show%[rn,by simp|λa ha b hb c=>cp (by rw[<-Xo hb,<-c];show ha)]
      .rw[<-Ze,Yt,Yy];by_cases c:y=n
       .rw[c];show%[λ_=>%[hn|h]|λ_=> .inr rfl]
       .rw[<-a6 y c];show%[λq=>q.resolve_right c|.inl]
     .show co _ _ %[%[_|rfl],v1,B,a4,Y,Rj,C,rn|λy=>?_];by_cases c:y=n
      .rw[c];show%[λq=>n0 q cp|λq=>n0 (Zf (sU (λi:jg=>V.int i) q.2)) h]
      .show a6 y c
    .intro M u %[%[o9|rfl],a3,B,J,Y,Rj,C,rn|rz];rw[hH.drop_length]at J rz;show cM _ _ %[_,?_,o5,_,o9,L++[x],Rj,rfl,a3,J,C,Y,%[rn,rz|λi y hi y' e=>?_]|rfl]
     .rw[Z9,Yk]
      lia
     .by_cases il:i< ~~~L
      .rw[Y9 il]at hi;rw[Xc (Yf il)];show v.ord i y hi y' e
      .let ie:i= ~~~L:=by
        let:=(Xm hi).1;rw[Z9,Yk]at this
        lia
       subst ie;rw[Ya (Zi _),QF,Tz]at hi;obtain rfl:=Za hi;rw[Xc (Zi _),Xd];show Fp ((v.mem x).mp (Yv _ hx)).2 e
   .show k7 _ _ ?_;lk;let R0:R=[]:=by
     cases R with
     | nil=>rfl
     | cons x R=>show n0 (Zf (by rw[Zr];lia)) h
    subst R0;let mem:=v.mem;let nd:=v.nd;rw[Zx]at mem nd;show kk ld H5 L (N.trans sm) hL nd (λx hx=>((mem x).mp hx).1) v.ord (λx hx nx=>?_) (N.free fld);let:cnt ss L x≠0:=λc=>nx ((mem x).mpr %[hx|c])
    let%[t,ht|q]:=hH.countP_pos_iff.mp (RF this);let%[a,b,z,e,_|hb]:=(ag t ht).2;rw[e]at q;simp only[Zv]at q;let q1:a=x:=Za (Zo q.1);show%[b,%[z|by rw[<-q1,<-e];show Xq %[t,ht|ρ]],hb|Zo q.2]
inductive xM
 | mk (l m ns ss):vs=[.ref l,.ref m]->H l<*ns\3->ns.Nodup-> ~~~ns<=63->H m∣.lst (ss\0)->dH H ns ss-> ~~~ss<=250->(∀r H' (us:ZB),ah H H'->H' r<*us\3->(∀x∈ns,Rch (ss\2) x x->x∈us)->Q (.ref r) H')->xM vs H Q E0
structure qR (H:Hp) (ks:hH ZB) (ss:ZG) (r:ku) (ws:ZG) (x:lp):Prop where
 at_:H r∣.lst (ws\0)
 sub:∀t∈ws,t∈ss
 sho:Sho ks x x (ws\2)
 len: ~~~ws<=300
def qR.up(h:qR H ks ss r ws x)(s:ah H a):qR a ks ss r ws x:=%[s _ _ h.at_,h.sub,h.sho|h.len]
inductive xN
 | mk (l m ns ss):vs=[.ref l,.ref m]->H l<*ns\3->ns.Nodup-> ~~~ns<=63->H m∣.lst (ss\0)->dH H ns ss-> ~~~ss<=250->(∀H',ah H H'->(∀x,¬ Rch (ss\2) x x)->Q .non H')->(∀r H' ws x,ah H H'->H r=hV->qR H' (ss\2) ss r ws x->(∀y n,Dst (ss\2) y (n+1) y-> ~~~ws<=n+1)->Q (.ref r) H')->xN vs H Q E0
def vS(T:Txt K mg):Cal P w K mg base 4 "never_laid" ["names","found"] xM:=by
 .exists T.aT,rQ,C,G,%[l,m,a,ss,rfl,n,I,nl,J,g,i|M];show%[_,%["KEH,~/AI],~L~qA0B~L~qAG~7A0A1BBB",0|G]|?_];change iP _ _ [!l,!m] H;lk;show%[a,Qb.of n,⋯|λp N=>?_];let b:=ah.Qa (o:=mW w p (aY a)) N;let y:Qa H p (mW w p (aY a)) p=_:=aa
  generalize Qa H p _=H1 at b y ⊢
  show%[l,m,a,ss,ρ,b _ _ n,I,nl,b _ _ J,g.up b,i|λr H2 L z O U Y j _ _=>?_];let Ll:=_ST.nodup_sub U Y;show%[L,Qb.of O,⋯|λq fq=>?_];let B:=ah.Qa (o:=mW w q (aY L)) fq;let fl:=_ST.nodup_sub (dj a) λx d=>a8.mp d
  show%[_,(B _ _ (z _ _ y)),_,aa,⋯|λu ms fu e mn=>%[ms,aa,?_|λv us fv pu _=>?_]]
  .let:=_ST.nodup_sub mn λx d=>a8.mp ((e x).mp d).1
   lia
  .show M v _ us (b.trans (z.trans (B.trans ((ah.Qa fu).trans (ah.Qa fv))))) aa λx d rx=>?_
   rw[pu.mem_iff,e];show%[a8.mpr d|λc=>G5 j (a8.mp c) rx]
def xO{d:ZB}{ss:ZG}(h:∀t∈ss,dS d t.2){x y:lp}(r:Rch (ss\2) x y):x∈d:=by
 induction r with
 | one e=>
   let%[z|g]:=e;let%[t,i|f]:=Xp g;let%[a,b,c,e,j|_]:=h t i;rw[e]at f;show((NQ f).1)▸j
 | more _ _ l=>show l
def jq(T:Txt K mg):Cal P w K mg base 5 "shortest_ring" ["names","found"] xN:=by
 .exists T.aS,bY,ag,hr,%[l,m,O,ss,rfl,hl,nn,nl,hm,c,z,kn|ky];show%[_,%["KCF2G~eA1BCF3rCSUG].A0A1BJ4CF5G~8A2A4A4BEOh/L~U5r^hpL~C3rvL~VefA5BefA3BEF35PEH3",bY.nd|hr]|?_]
  change aR _ _ _ [!l,!m,hV,hV,hV,hV] H;show aj λD1 k1 _=>?_
  lk;show%[m,O,ss,ρ,hm,c,z|λb H1 U fb hb=>k1 _ _ (aj λD2 k2 _=>?_)];lk;show k2 _ _ (aj λD3 k3 _=>ay λae hK=>?_);lk;show%[l,m,O,ss,ρ,U _ _ hl,nn,nl,U _ _ hm,c.up U,z|λr H2 us s2 G I=>%[%[_|Qb.of G]|hK _ _ ?_]];let g:=U.trans s2;show bF (λi Y o=>(E3 λv o4 o5=>Y=[!l,!m,!b,hX v,o4,o5]/\((v= .non/\∀x∈us.take i,¬ Rch (ss\2) x x)\/∃q ws x,v= .ref q/\H q=hV/\qR o (ss\2) ss q ws x/\∀y∈us.take i,∀n,Dst (ss\2) y (n+1) y-> ~~~ws<=n+1))/\ah H2 o)
   %[%[_,_,_,rfl|.inl %[rfl|λx hx=>(nomatch hx)]]|λ_ _ e=>e] (λi Y o h=>h.2 _ _ G) ?_ ?_
  .intro i n Y o hn %[%[v,o4,o5,rfl|J]|j];let tk:us.take (i+1)=us.take i++[n]:=by rw[Xa,hn];rfl
   change aR _ _ _ [!l,!m,!b,hX v,-n,o5] o;show aj λD4 k4 _=>?_
   lk;show%[b,n,n,O,ss,ρ,hb.up (s2.trans j),c.up (g.trans j),z,λH3 B nr=>k4 _ _ (aA λD5 k5 _=>?_)|λq H3 ws B L C sub rr rl=>k4 _ _ (aA λD5 k5 _=>?_)]
   .lk;show k5 _ _ %[%[v,_,_,rfl|J.imp (λh=>%[h.1|λx hx=>?_]) λ⟨q,ws,x,e,L,C,p⟩=>%[q,ws,x,e,L,C.up B|λy a m d=>?_]]|j.trans B]
    .rw[tk]at hx;rcases Xn hx with h'|h'
     .show h.2 x h'
     .rw[Xo h'];show nr
    .rw[tk]at a;rcases Xn a with h'|h'
     .show p y h' m d
     .rw[Xo h']at d;show(nr d.rch).elim
   .lk;let wl:∀zs:ZG,~~~(zs\0)= ~~~zs:=λzs=>Z6 _
    let u:=λm d=>by
     let:=rr.min m d;rwa[Z6]at this
    let put:(∀y∈us.take i,∀m,Dst (ss\2) y (m+1) y-> ~~~ws<=m+1)->D5.nx [!l,!m,!b,!q,-n,!q] H3:=λp=>k5 _ _ ⟨%[_,_,_,rfl|.inr ⟨q,ws,n,rfl,(g.trans j).free L,%[C,sub,rr|rl],λy a m d=>by
     rw[tk]at a;rcases Xn a with h'|h'
     .show p y h' m d
     .rw[Xo h']at d;show u m d⟩],j.trans B⟩
    rcases J with⟨rfl,ab⟩|⟨q',M,x',rfl,ac,N,p⟩
    .show put λy a m d=>(ab y a d.rch).elim
    .show%[_,.inl %[_,Qb.of C|(wl ws).symm],_,.inl %[_,Qb.of (B _ _ N.at_)|(wl M).symm]|bv (λlt=>put λy a m d=>?_) λlt=>k5 _ _ %[%[_,_,_,ρ|.inr %[q',M,x',ρ,ac,N.up B|λy a m d=>?_]]|j.trans B]]
     .let:=p y a m d;let:=Zo lt
      lia
     .rw[tk]at a;rcases Xn a with h'|h'
      .show p y h' m d
      .rw[Xo h']at d;let:=u m d
       lia
  .intro Y o %[%[v,o4,o5,rfl|J]|j];rw[Zn (Zi _)]at J;show k3 _ _ ?_;lk;rcases J with⟨rfl,h⟩|⟨q,ws,x,rfl,L,C,p⟩
   .show kn o (g.trans j) λx rx=>h x (I x (xO (λt ht=>(c t ht).2) rx) rx) rx
   .show ky q o ws x (g.trans j) L C λy n d=>p y (I y (xO (λt ht=>(c t ht).2) d.rch) d.rch) n d
abbrev Mo(ws:ZG):Prop:=∀p∈ws,~~~p.2<=3/\∀z∈p.2,Sml z
inductive vT (C:ku)
 | mk (a r:ku) (ws:ZG):vs=[.ref a,.ref r]->H r∣.lst (ws\0)->aE H ws-> ~~~ws<=300->Mo ws->H a∣ExO a C hV->(∀l d,H l=hV->H d=hV->d≠l->Q .non (Qa (Qa (Qa H l (.lst (ws\0))) a (ExO a C (hX d))) d (.xd [("ring",.ref l)])))->vT C vs H Q E0
def C_Torn(T:Txt K mg):JP P w K mg base 1 "Torn" ["self","ring"] (vT (aG mg "Torn")):=by
 show T.x_Torn.cal vK (by intro a b c d h;let%[_,_,_,rfl|_]:=h;rfl) (λf m A outer s H vs Q E n g h=>?_)
 .let%[a,r,ws,rfl,i,o,p,u,j|q]:=h;show%[_,(QSs.h (ai (bB rfl (JT (C:=aG mg "Torn") n rfl T.c_DigError T.i_DigError rfl rfl %[_|ρ] #[↑0,DV (pjE cz (pjE (LP g.gd g.units ↑1) DU))]))
   (ap (Lv (C:=aG mg "Torn") T.f_Torn_ring rfl ↑0 (ctO (ir (K:=K) rfl) T.a5 QL rfl #[↑1])))))|?_]
  change aR _ _ _ [hX _,hX _] H;lk;let y:(Mi++o0 "torn by the ring ").length=17:=!0
  show%[by rw[PySem.sizeLine_eq];lia,r,ws,ρ,i,o,p,u|λz B=>%[z,ρ,by rw[strLen_append,PySem.sizeLine_eq];lia,by rw[strLen_append,PySem.sizeLine_eq];lia,by simp,%[_|j]|?_]];show%[_,.inl (Qb.of i)|λl b=>%[a,ρ,ah.Qa b _ _ j|λd c v=>?_]];let dl:d≠l:=λe=>by rw[e,aa]at c;cases c
  rw[aq dl]at c;show q l d b c dl
def zN{C r:ku}{ws:hH _}{H c:Hp}{v:_LL.St}{D:jr}{t:TA}{E:XK}(m:ah H c)(G:c r∣.lst (ws\0))(I:aE c ws)(f: ~~~ws<=300)(J:Mo ws)(L:∀Q,Q [.ref r] c->t v c Q)
 (k:∀d l g,ah H g->ah c g->H d=hV->H l=hV->d≠l->g d∣.xd [("ring",.ref l)]->g l∣.lst (ws\0)->E (.ref C) (hX d) g):
 vb C (y4 C (vT C) t) (λa y=>∃d,y a∣ExO a C (hX d)/\H a=hV/\E (.ref C) (hX d) (drop y a)) D v c:=by
 show L _ %[by simp|λx q=>?_];let A:=ah.Qa (o:=ExO x C hV) q;show%[x,r,ws,ρ,A _ _ G,az I λb z e=>A _ _ e,f,J,aa|λl d f n h=>?_];let s:l≠x:=λe=>by rw[e,aa]at f;cases f
 let p:d≠x:=λe=>by rw[e,aa]at n;cases n
 let i:=by rw[aq s]at f;show f
 let j:=by rw[aq p]at n;show n
 let at_:∀b,b≠x->b≠l->b≠d->drop (Qa (Qa (Qa (Qa c x (ExO x C hV)) l (.lst (ws\0))) x (ExO x C (hX d))) d (.xd [("ring",.ref l)])) x b=c b:=λb n1 M N=>by
  rw[bS n1,aq N,aq n1,aq M,aq n1]
 let B:ah c (drop _ x):=λb u e=>by
  rw[at_ b (ax e q) (ax e i) (ax e j)];show e
 show%[ρ,x,d,ρ,?_,d,?_,m.free q|k d l _ (m.trans B) B (m.free j) (m.free i) h ?_ ?_]
 .rw[aq p.symm,aa]
 .rw[aq p.symm,aa]
 .rw[bS p,aa]
 .rw[bS s,aq h.symm,aq s,aa]
def kX{S:lp->lp->Prop}(h:bJ S z m)(c:cX S z x):bJ S x m:=%[c.symm.trans h.1|λy d=>h.2 y (c.trans d)]
def ik(h:cC H c qs)(a b:lp)(s:aQ qs a b):a∈c/\b∈c:=by
 let%[q,d|e]:=s;rcases(h q d).2 with⟨f,x,y,g,_,i,j,_⟩|⟨f,x,y,g,_⟩
 .simp_all
 grind
structure eZ (mg:ZC) (H:Hp) (g:ku) (qs:ZN) (ls:ZB) (ts:ZG):Prop where
 gr:∃c2 c3 c4,GrF mg H g c2 c3 c4 qs ls ts
 nd:ls.Nodup
 so:ls.Pairwise (λa b=>aO b a=iv)
 ll: ~~~ls<=63
 tl: ~~~ts<=250
 t3:∀k∈ts\2,dS ls k
 sm:∀k∈ts\2,∀z∈k,Sml z
 lm:∀z∈ls,Sml z
def eZ.up(h:eZ mg H g qs a ts)(s:ah H b):eZ mg b g qs a ts:=by
 let%[c2,c3,c|d]:=h.gr;show%[%[c2,c3,c|d.up s],h.nd,h.so,h.ll,h.tl,h.t3,h.sm|h.lm]
def eZ.ends(h:eZ mg H g qs f ts)(i:a9 (aQ qs) (ts\2) lk)(j:k∈lk):∃a b z,k=[a,b,z]/\(a∈f/\bJ (aQ qs) a a)/\b∈f/\bJ (aQ qs) b b:=by
 let%[c2,c3,r|l]:=h.gr;let%[a,b,z,m,n,o,c,d|rfl]:=(i.mem k).mp j;let%[x,y,u,e,p|q]:=h.t3 _ o;simp only[Nx,VI]at e;let%[rfl,rfl|rfl]:=e;let ws:=ik l.sa;show%[m,n,z,ρ,%[c.1.within ws p|kX c c.1],d.1.within ws q|kX d d.1]
def eZ.short(h:eZ mg H g qs o ts)(d:a9 (aQ qs) (ts\2) lk)(f:k∈lk): ~~~k<=3/\∀z∈k,Sml z:=by
 let%[c2,c3,p|i]:=h.gr;let%[a,b,z,q,r,c,j,l|rfl]:=(d.mem k).mp f;let%[x,y,u,e,m|n]:=h.t3 _ c;simp only[Nx,VI]at e;let%[rfl,rfl|rfl]:=e;let ws:=ik i.sa;show%[Zi _|KI (h.lm _ (j.1.within ws m)) (h.lm _ (l.1.within ws n)) (h.sm _ c z ∅)]
def eZ.names(h:eZ mg H g qs d ts)(f:a9 (aQ qs) (ts\2) lk)(c:AQ (aQ qs) d i):∀k∈lk,dS i k:=λk j=>by
 let%[a,b,z,e,l|m]:=h.ends f j;show%[a,b,z,e,(c.mem a).mpr l|(c.mem b).mpr m]
def eZ.ties(h:eZ mg H g qs c ts)(d:a9 (aQ qs) (ts\2) lk):∀k∈lk,dS c k:=λk f=>by
 let%[a,b,z,e,i|j]:=h.ends d f;show%[a,b,z,e,i.1|j.1]
def qS(a:aE H ss)(h:∀k∈ss\2,dS b k):dH H b ss:=λt q=>%[(a t q).2|h _ (Xq %[t,q|rfl])]
inductive uC (mg:ZC)
 | mk (g:ku) (qs:ZN) (ls:ZB) (ts:ZG):vs=[.ref g]->eZ mg H g qs ls ts->(∀lk,a9 (aQ qs) (ts\2) lk->∀x,¬ Rch lk x x)->(∀l H' ns (ss:ZG),ah H H'->H' l∣.lst (ss\0)->dH H' ns ss-> ~~~ss<=250->a9 (aQ qs) (ts\2) (ss\2)->Q (.ref l) H')->uC mg vs H Q E0
def _root_._CU.Sho.same{ks c us:hH _}{a b:lp}(h:Sho ks a b us)(e:∀k,k∈ks↔k∈c):Sho c a b us:=%[λk d=>(e k).mp (h.sub k d),h.wal,h.pos|by rw[<-gH e];show h.min]
structure vU (H:Hp) (lk:hH ZB) (d l:ku) (ws:ZG) (x:lp):Prop where
 ad:H d∣.xd [("ring",.ref l)]
 al:H l∣.lst (ws\0)
 tu:aE H ws
 sho:Sho lk x x (ws\2)
 min:∀y n,Dst lk y (n+1) y-> ~~~ws<=n+1
 len: ~~~ws<=300
inductive im (mg:ZC) (vs:ZM) (H:Hp) (Q:VK) (E:XK):Prop
 | mk (g:ku) (qs:ZN) (ls:ZB) (ts:ZG) (lk:hH ZB) (us:ZM):vs=[.ref g]->eZ mg H g qs ls ts->a9 (aQ qs) (ts\2) lk->(∃x,Rch lk x x)->(∀d l H' ws x,ah H H'->H d=hV->H l=hV->d≠l->vU H' lk d l ws x->E (.ref (aG mg "Torn")) (hX d) H')->im mg vs H Q E
def jR(T:Txt K mg):Cal P w K mg base 6 "untorn_links" ["ground"] (uC mg):=by
 .exists T.aU,ci,B,d,%[g,qs,e,ts,rfl,a,nr|C];let%[c2,c3,j|n]:=a.gr;let N:=a.ll;show%[_,%["KCF1G~9A0BCF2G]AAG~!A0BA1BCOL~U2rE.PEH1",ci.nd|d]|?_]
  change aR _ _ _ [!g,hV,hV] H;show aj λO k1 _=>?_
  lk;show%[g,c2,c3,j,qs,e,ts,ρ,n,a.nd,a.so,⋯,a.tl,a.t3|λm U ss o Y p G lk q=>k1 _ _ (aj λD2 k2 _=>?_)];lk;show%[g,c2,c3,j,qs,e,ts,ρ,n.up o,a.nd,a.so,⋯|λl H2 u i fl I c=>?_];let v:=qS G (a.names lk c);show%[l,m,u,ss,ρ,I,c.nd,?_,i _ _ p,v.up i,q,λy z _=>k2 _ _ (aj λD3 J _=>?_)|λr y ws x z _ L _=>(nr _ lk x L.sho.rch).elim]
  .let:=_ST.nodup_sub c.nd λx M=>((c.mem x).mp M).1
   lia
  .lk;show J _ _ ?_;let b:=i.trans z;show C m y u ss (o.trans b) (b _ _ p) (v.up b) q lk
def gJ(T:Txt K mg):ve P w K mg base 7 "untorn_links" ["ground"] (im mg):=by
 let%[_,_,b|_]:=T.x_Torn.ini;show T.aU.calX ci (λH vs Q E h=>?_)
 .let%[g,qs,y,ts,lk,us,rfl,a,z,%[x0|o]|kk]:=h;show%[ρ|λf Y A outer s p=>?_];let%[c2,c3,M|N]:=a.gr;let ll:=a.ll;show%[_,%["KCF1G~9A0BCF2G]AAG~!A0BA1BCOL~U2rE]/]:];A2BPEH1",ci.nd|p]|?_]
  change aR _ _ _ [!g,hV,hV] H;show aj λD1 k1 _=>?_
  lk;show%[g,c2,c3,M,qs,y,ts,ρ,N,a.nd,a.so,⋯,a.tl,a.t3|λm H1 ss O fm hm B i sl=>k1 _ _ (aj λD2 k2 _=>?_)];let e:=i.mm z;rw[<-dv e]at o;lk;show%[g,c2,c3,M,qs,y,ts,ρ,N.up O,a.nd,a.so,⋯|λl H2 ns u fl hl v=>?_];let la:=qS B (a.names i v);let C:=O.trans u;show%[l,m,ns,ss,ρ,hl,v.nd,?_,u _ _ hm,la.up u,sl,λU G nr=>(nr _ o).elim|λr U ws x G _ j mn=>k2 _ _ (aj λD3 k3 _=>?_)]
  .let:=_ST.nodup_sub v.nd λx I=>((v.mem x).mp I).1
   lia
  .lk;let J:=C.trans G;let inl:∀t∈ws,t.2∈ss\2:=λt c=>Xq %[t,j.sub t c|rfl]
   let n:aE U ws:=λt c=>%[(B t (j.sub t c)).1|G _ _ (u _ _ (B t (j.sub t c)).2)]
   show zN J j.at_ n j.len (λt c=>a.short i (inl t c)) (λQ q=>?_) λd l H4 s4 s5 hd L dl I hL=>kk d l H4 ws x s4 hd L dl %[I,hL,λt c=>%[(n t c).1|s5 _ _ (n t c).2],j.sho.same e,by rw[<-gH e];show mn|j.len]
   lk;show q
inductive xP (K:ZA)
 | mk (a:ku) (ns:ZL):vs=[.ref a]->Qb K H a (ns\4)-> ~~~ns<=1000->(∀(t l1 l2:ku) H' (cs:ZH) (qs:ZN),ah H H'->H' t<*[.ref l1,.ref l2]->H' l1<*bL cs->H' l2∣.lst (qs\0)->oE H' cs qs->Q (.ref t) H')->xP K vs H Q E0
def xQ(T:Txt K mg):Cal P w K mg base 3 "_law_tower" ["_law_script"] (xP K):=by
 .exists T.bB,bp,dk,hr,%[a,ns,rfl,hs,hn|kk];show%[_,%["KC>1tuG~QA0ADADADBCF2RBCF3RBCS(ADB~P4tuC>5tuQRAVAVBT4C~c6uti?1(ADBa0?2)G~kA0AQT1T2BCXsn2AbAT5A~W~XVA6BBBEX~Y~Z3Aqi?3U6a0?4)I$I$T1V0BCF7RAbAVAQ3DAQ3DBBCS~jADA~F]BAefA0BADBB~P4tuCF8G~QA0AT4ADADBCF9IdI~MDI%DIYQ8DDQ8DEXsn7AbAQRAVAVBIYQ8DDAQ3IYQ8DDA9BBEHRA2A7B",bp.nd,↑(["_law_rank","_law_ways","_law_k"],[(1,1),(2,4)]),↑["_law_rank","_law_ways","_law_k"],↑(["_law_sign","_law_name"],[(1,5)]),↑["_law_sign","_law_name"]|hr]|?_]
  change aR _ _ _ [!a,hV,hV,hV,hV,hV,hV,hV,hV,hV] H;show aj λD1 k1 _=>?_
  lk;show%[a,ns,1,104,2,ρ,hs,!1,!1,!1,!1,!1,!1|λhd H1 xs s1 _ ae hx hb=>k1 _ _ (aj λD2 k2 _=>?_)];let b3: ~~~xs=2:=hx;obtain⟨W,hW,Wb⟩:∃W:jg->oT,(∀k:jg,k<2->atI (xs\4) (k:oT)∣V.int (W k))/\∀k,0<=W k/\W k<104:=by
   show%[λk=>xs.getD k 0,λk hk=>bu (by simp[b3,hk])|λk=>?_];change 0<=xs.getD k 0/\xs.getD k 0<104;rw[Zc];cases e:xs[k]? with
   | none=>show%[!1|!1]
   | some c=>show hb c (Z8 e)
  lk;show%[Xf _|λC hC=>k2 _ _ (aj λD3 k3 _=>?_)];lk;show%[Xf _|λB hB=>k3 _ _ (aj λD4 k4 _=>ay λU hK=>?_)];let sC:=ah.Qa (o:= .lst []) hC;let sB:=ah.Qa (o:= .lst []) hB;let bb:C≠B:=λe=>by rw[e,aa]at hB;cases hB
  let fC:=s1.free hC;let fB:=(s1.trans sC).free hB;let bc:=sB _ _ (sC _ _ ae);let ag:=sB _ _ (aa (H:=H1) (o:= .lst []));let be:Qa (Qa H1 C (.lst [])) B (.lst []) B<*[]:=aa;let s2:=(s1.trans sC).trans sB
  generalize Qa (Qa H1 C (.lst [])) B _=H2 at bc ag be s2
  let bf:hd≠C:=λe=>by rw[e,hC]at ae;cases ae
  let b4:hd≠B:=λe=>by rw[<-e,aq bf,ae]at hB;cases hB
  lk;show%[!1,!1|hK _ _ (cK (λi y I=>∃(o4 o5 o6:lx V) (cs:ZH),y=[!a,!hd,!C,!B,o4,o5,o6,hV,hV,hV]/\ah H I/\I hd<*xs\4/\I C<*bL cs/\I B<*(eA W i)\3/\bV I cs/\cs\2=(p0 i).map λk=>(nmT k,bC (W k)))
   %[_,_,_,[],ρ,s2,bc,ag,be,(λ_ h=>nomatch h)|ρ] ?_ ?_)]
  .intro i y I hi %[o4,o5,o6,cs,rfl,sm,as,N,g,O|ce];change aR _ _ _ [!a,!hd,!C,!B,hX (.int (0+i)),o5,o6,hV,hV,hV] I;rw[Ps];let i2:i<2:=hi;show aj λD5 k5 _=>?_
   lk;show%[#[2]|λp hp=>%[_,Qb.of aa,.str (nmT i),?_|k5 _ _ (aj λD6 k6 _=>?_)]]
   .rcases(show i=0\/i=1 by lia -verbose)with rfl|rfl<;> rfl
   let sp:=ah.Qa (o:= .lst [V.str (!"zone"),V.str (!"pit")]) hp
   generalize Qa I p _=H3 at sp
   let b5:=sp _ _ as;lk;show aL λU hK=>?_
   lk;show%[!1,!1|hK _ _ λF hF=>?_];show dJ (J:=Itr 0 26) (n:=26) (D:=F) (λq ts y H4=>A4 (∃o,y=[o,!hd,hX (.int i)]) (ah H3 H4) (H4 F<*ts) (ts=((bC (W i)).take q)\3))
    %[%[hV|rfl],ah.Qa hF,aa|rfl] (λq _ _ I d _=>d) (λ_ _ I _=>Zi _) ?_ ?_
   .intro q ts y H4 d %[%[o|rfl],s4,ak|v] x M %[e2|e3];subst e2 e3;lk;show%[_,Qb.of (s4 _ _ b5),_,hW i i2,q,W i,ρ,(by lia -verbose),(by lia -verbose),(Wb i).1,by let:=(Wb i).2;lia -verbose|λH6 s6=>CK.mk d (s6 _ _ ak) (by rw[v,Z6,Yl];show aC (by lia -verbose)) %[%[_|ρ],ah.set (s4.trans s6) hF,aa|?_]];rw[v,Xa,Zd,nq d];rfl
   .intro ts y H4 %[_,s4,ak|v];rw[Zn (Uc (iN _))]at v;subst v;show k6 _ _ (aj λD7 k7 _=>?_);let Y:=sp.trans s4;let a0:=Y _ _ N;let b6:=Y _ _ g;lk;show%[tyL (Qb.of a0),bC (W i),Qb.of ak,?_,#[2]|λt v=>?_]
    .let:=(KL (W i)).sum;let:=(KL (W i)).high;rw[show(!"\n").length=1 from rfl]
     lia -verbose
    rw[show Txt.join (!"\n") (bC (W i))=vj nl (bC (W i))from Ow _ _];let st:=ah.Qa (o:= .tup [V.str (nmT i),V.str (vj nl (bC (W i)))]) v;let gt:Qa H4 t (.tup [V.str (nmT i),V.str (vj nl (bC (W i)))]) t=_:=aa;let b9:t≠C:=λe=>by rw[e,a0]at v;cases v
    generalize Qa H4 t _=M at st gt
    let cl: ~~~cs=i:=by let:=sU MR ce;rwa[Z6,Z6,Yj]at this
    let ca:=st _ _ a0;show%[_,ca,by unfold bL;rw[Z6,cl];show aC (by lia -verbose)|k7 _ _ (aA λD8 k8 _=>?_)];let fF:=(sm.trans sp).free hF;let cd:F≠C:=λe=>by rw[e,sp _ _ N]at hF;cases hF
    let dn:F≠B:=λe=>by rw[e,sp _ _ g]at hF;cases hF
    let bl:Qa M C (.lst (bL cs++[V.ref t])) C<*bL (cs++[(t,nmT i,bC (W i))]):=by rw[aa];unfold bL;rw[Zd];rfl
    let keep:∀b o,b≠C->M b∣o->Qa M C (.lst (bL cs++[V.ref t])) b∣o:=λb o n e=>by rw[aq n];show e
    let s6:ah H (Qa M C (.lst (bL cs++[V.ref t]))):=ah.set ((sm.trans Y).trans st) fC
    generalize Qa M C _=H6 at bl keep s6
    let ch:=keep _ _ bf (st _ _ (Y _ _ as));let ab:=keep _ _ (I0 bb) (st _ _ b6);let bm:=keep _ _ cd (st _ _ ak);let a1:bV H6 (cs++[(t,nmT i,bC (W i))]):=λq d=>by
     rcases Xn d with z|z
     .show%[keep _ _ (λe=>?_) (st _ _ (Y _ _ (O q z).1))|(O q z).2];let:=(O q z).1;rw[e,N]at this;cases this
     .rw[Xo z];show%[keep _ _ b9 gt,xE i|KL _]
    lk;show%[tyL (Qb.of ab)|aL λU hK=>?_];lk;show%[%[_|Qb.of bm]|hK _ _ λG hG=>?_];show cN (λq ts y H7=>A4 (∃o,y=[o,hX (.str (nmT i))]) (ah H6 H7) (H7 G<*ts) (ts=(((bC (W i)).take q).map (lnS (nmT i)))\3))
     %[%[hV|rfl],ah.Qa hG,aa|rfl] (λ_ _ _ H7 ⟨_,s7,_,_⟩=>s7 _ _ bm) ?_ ?_
    .intro q ts y H7 d %[%[o|rfl],s7,a2|v];let%[r|er]:=jZ (Yd d);rw[iN]at d;lk;rw[jb];let nl:=iM (xE i);show%[by rw[PySem.sizeLine_eq];change(nmT i).length+1<=_;lia -verbose,by rw[er,PySem.sizeLine_eq,PR];change(nmT i).length+1+1<=_;lia -verbose|CK.mk (by rwa[iN]) a2 (by rw[v,Z6,Z6,Yl];show aC (by lia -verbose)) %[%[_|ρ],ah.set s7 hG,aa|?_]];rw[v,Xa,Zd,Zd,Z4 (by rwa[iN])];rfl
    .intro ts y H7 %[_,s7,a2|v];rw[Zn (Zi _)]at v;let a3:∀{b:ku} {o:HO},b≠B->H6 b∣o->Qa H7 B (.lst ((eA W i)\3++ts)) b∣o:=λ{b o} n e=>by rw[aq n];show s7 _ _ e
     show%[_,s7 _ _ ab,_,a2,?_|k8 _ _ %[_,_,_,cs++[(t,nmT i,bC (W i))],ρ,ah.set (s6.trans s7) fB,a3 b4 ch,a3 bb bl,?_,λq d=>%[a3 (λe=>?_) (a1 q d).1|(a1 q d).2]|?_]]
     .rw[v,Z6,Z6,Z6,iN,fP];show Yf (aC (by lia -verbose))
     .rw[aa,v,<-Zd,gF]
     .let:=(a1 q d).1;rw[e,ab]at this;cases this
     .rw[Zd,ce,Pd,Zd];rfl
  .intro y I %[o4,o5,o6,cs,rfl,sm,as,N,g,O|ce];let g:I B<*(eA W 2)\3:=g;let ce:cs\2=(p0 2).map λk=>(nmT k,bC (W k)):=ce
   let cl: ~~~cs=2:=by let:=sU MR ce;rwa[Z6,Z6,Yj]at this
   let a4:∀z∈eA W 2,z∈cs.flatMap lyr:=λz hz=>by
    let%[k,r,hk,hr|rfl]:=Ct hz;let:(nmT k,bC (W k))∈cs\2:=by rw[ce];show Xq %[k,yc.mpr hk|rfl]
    let%[p,hp|e]:=Xp this;let l:=ja (p:=p) (by rw[e];show letT hr);rw[e]at l;show ME.mpr %[p,hp|l]
   let co:∀i:jg,i<52->∃z,atI ((eA W 2)\3) (i:oT)∣V.str z/\z∈eA W 2:=λi hi=>by
    let hl:i< ~~~(eA W 2):=by rw[fP];lia -verbose
    show%[(eA W 2)[i],bu (by simp[hl])|Yd hl]
   show k4 _ _ (aj λD9 k9 _=>?_);lk;obtain⟨z0,z1,b0,b1,ne⟩:∃z0 z1:lp,(eA W 2)[25]?∣z0/\(eA W 2)[26]?∣z1/\z0≠z1:=%[_,_,Me W,Mf W|λe=>n0 (qK e) (!0)]
   show%[_,Qb.of g,.str z0,bu (j:=25) (by rw[Zl,b0];rfl),_,Qb.of g,.str z1,bu (j:=26) (by rw[Zl,b1];rfl),#[3]|λp hp=>%[#[1]|λL hL=>k9 _ _ (aj λdp cp _=>ay λU hK=>?_)]];let sp:=ah.Qa (o:= .tup [V.str (!"later"),V.str z0,V.str z1]) hp;let gp:Qa I p (.tup [V.str (!"later"),V.str z0,V.str z1]) p=_:=aa
   generalize Qa I p _=H3 at sp gp hL
   let bt:=ah.Qa (o:= .lst [V.ref p]) hL _ _ gp;let sL:=sp.trans (ah.Qa (o:= .lst [V.ref p]) hL);let fL:=(sm.trans sp).free hL;let a5:Qa H3 L (.lst [V.ref p]) L=_:=aa
   generalize Qa H3 L _=H2 at bt sL a5
   let ct:C≠L:=λe=>by rw[<-e,sp _ _ N]at hL;cases hL
   let cv:B≠L:=λe=>by rw[<-e,sp _ _ g]at hL;cases hL
   let ag:=sL _ _ N;let cw:=sL _ _ g;let a6:bV H2 cs:=λq d=>%[sL _ _ (O q d).1|(O q d).2]
   let cx:=(sm.trans sL).seq hs;lk;show%[~~~ns,.inl %[_,cx|(Z6 _).symm],!1,!1,by split<;> lia -verbose,by split<;> lia -verbose|?_]
   generalize hm:((if 29<(~~~ns:oT)then 29 else(~~~ns:oT)) -5).toNat=m
   let dr:m<=24:=by split at hm<;> lia -verbose
   show hK _ _ (cK (λi y M=>E4 λ(o4 o8 o9:lx V) (qs:ZN)=>A6 (y=[!a,!hd,!C,!B,o4,o5,o6,!L,o8,o9]) (ah H M) (∀b o,b≠L->H2 b∣o->M b∣o) (M L∣.lst (qs\0)) (~~~qs=i+1) (cC M (cs.flatMap lyr) qs))
    %[_,_,_,[(p,[V.str (!"later"),V.str z0,V.str z1])],rfl,sm.trans sL,(λb o _ e=>e),a5,rfl|λq d=>?_] ?_ ?_)
   .rw[Xo d];show%[bt|.inl %[_,_,_,ρ,.inl rfl,a4 _ (Z8 b0),a4 _ (Z8 b1)|ne]]
   .intro i y M hi %[o4,o8,o9,qs,rfl,s5,k5,ac,ql|sa];change aR _ _ _ [!a,!hd,!C,!B,hX (.int (5+i)),o5,o6,!L,o8,o9] M;show aj λds cy _=>?_
    lk;show%[a,ns,5+i,211,3,ρ,s5.seq hs,(by lia -verbose),(by lia -verbose),!1,!1,!1,!1|λdl H6 ys s6 _ al hy cM=>cy _ _ (aj λdt c3 _=>?_)];let get:∀i:oT,0<=i->i<3->∃c,atI (ys\4) i∣V.int c/\0<=c/\c<211:=λi h0 h1=>by
     let%[c,e|hm]:=mo ys h0 (by rw[hy];show h1);show%[c,e|cM c hm]
    let%[c0,g0,l0|u0]:=get 0 (!1) (!1);let%[c1,g1,l1|u1]:=get 1 (!1) (!1);let%[c2,g2,l2|u2]:=get 2 (!1) (!1);lk;show%[_,Qb.of al,_,g1,!1,.inl %[!1|!1],_,Qb.of al,_,g2|c3 _ _ (aA λdx c4 _=>?_)];let c5:=s6 _ _ ac;let ab:=s6 _ _ (k5 _ _ cv cw);obtain⟨n1,c6⟩:∃n:jg,c1%52=n:=%[(c1%52).toNat|(by lia -verbose)]
    let%[zb,gz|iz]:=co n1 (by lia -verbose);obtain⟨wd,da,dd⟩:∃wd:lp,atI [V.str (!"since"),V.str (!"by")] (c0%2)∣V.str wd/\(wd="since"\/wd="by"):=by
     rcases(show c0%2=0\/c0%2=1 by lia -verbose)with e|e<;> rw[e]
     .show%[_,ρ|.inl rfl]
     .show%[_,ρ|.inr rfl]
    lk;show%[tyL (Qb.of c5),#[2]|λu hu=>?_];let su:=ah.Qa (o:= .lst [V.str (!"since"),V.str (!"by")]) hu;let gu:Qa H6 u (.lst [V.str (!"since"),V.str (!"by")]) u=_:=aa
    generalize Qa H6 u _=H7 at su gu
    show%[_,Qb.of (su _ _ al),_,g0,!1,_,Qb.of gu,_,da,_,Qb.of (su _ _ al),_,g1,!1,_,Qb.of (su _ _ ab),_,by rw[c6];show gz,#[3]|λt v=>?_];let st:=su.trans (ah.Qa (o:= .tup [V.str wd,V.str zb,V.int (600-10*(c1%52) +c2)]) v);let gt:Qa H7 t (.tup [V.str wd,V.str zb,V.int (600-10*(c1%52) +c2)]) t=_:=aa
    generalize Qa H7 t _=H8 at st gt
    let an:=s6.trans st;let b2:=an _ _ ac;let dg:t≠L:=λe=>by rw[e,b2]at gt;cases gt
    show%[_,b2,by rw[Z6,ql];show aC (by lia -verbose)|c4 _ _ %[_,_,_,qs++[(t,[V.str wd,V.str zb,V.int (600-10*(c1%52) +c2)])],ρ,ah.set (s5.trans an) fL,λb o n e=>by rw[aq n];show an _ _ (k5 b o n e),by rw[aa,Zd];rfl,by rw[Z9,ql];rfl|λq d=>?_]];rcases Xn d with z|z
    .show%[?_|(sa q z).2];rw[aq (λe=>by let:=(sa q z).1;rw[e,ac]at this;cases this)];show an _ _ (sa q z).1
    .rw[Xo z];show%[by rw[aq dg];show gt|.inr %[_,_,_,ρ,dd,a4 _ iz,(by lia -verbose)|(by lia -verbose)]]
   .intro y M %[o4,o8,o9,qs,rfl,s5,k5,ac,ql|sa];show cp _ _ ?_;lk;show%[#[2]|λz hz=>?_];let sz:=ah.Qa (o:= .lst [V.ref C,V.ref L]) hz;let de:∀q∈cs,∃k,q.2=(nmT k,bC (W k)):=λq d=>by
     let:q.2∈cs\2:=Xq %[q,d|rfl];rw[ce]at this;let%[k,_|e]:=Xp this;show%[k|e.symm]
    show kk z C L _ cs qs (s5.trans sz) aa (sz _ _ (k5 _ _ ct ag)) (sz _ _ ac) %[(by lia -verbose),(by lia -verbose),λq d=>%[sz _ _ (k5 _ _ (λe=>?_) (a6 q d).1)|(a6 q d).2],?_,λq d=>?_,?_,λq d=>%[sz _ _ (sa q d).1|(sa q d).2]|(by lia -verbose)]
    .let:=(a6 q d).1;rw[e,a5]at this;cases this
    .rw[show cs.map (λp=>p.2.1)=(cs\2)\1 by rw[Ys];rfl,ce];change [nmT 0,nmT 1].Nodup;decide +kernel
    .let%[k|e]:=de q d;rw[show q.2.2=bC (W k) by rw[e]];show fewT _
    .match cs,cl,de with
     |[q1,q2],_,de=>
      let%[k1|e1]:=de q1 ∅;let%[k2|e2]:=de q2 ∅;let:=Mg (p:=q1) (w:=W k1) (by rw[e1]);let:=Mg (p:=q2) (w:=W k2) (by rw[e2]);rw[PH,PH,hH.flatMap_nil,Zx,Z9]
      lia -verbose
def my.sub{f g:ZB}{vs:ZM}(h:my f vs)(m:∀z∈f,z∈g):my g vs:=by
 rcases h with⟨w,a,b,e,hw,c,d,n⟩|⟨w,a,y,e,hw,c,d⟩
 .show .inl %[w,a,b,e,hw,m a c,m b d|n]
 .show .inr %[w,a,y,e,hw,m a c|d]
def AT:∀{cs:ZH},(∀p∈cs,∃w a hi,ic w a hi/\p.2.2=bK a hi)-> ~~~(cs.flatMap lyr)<=16* ~~~cs
 |[],_=>Zi _
 | q::cs,h=>by
   let j:=AT (cs:=cs) λp b=>h p (Zk _ b)
   let%[w,a,hi,d|e]:=h q Zm;let:=_ST.nodup_sub (dj ((cU q.2.2).map sgn)) (m:=(p0 16).map λr:jg=>sgn (ltr r w)) λy f=>by
    let%[c,g|rfl]:=Xp (a8.mp f);let%[r,i,l|rfl]:=d.lets (e▸fM.mp g);show Xq %[r.toNat,yc.mpr ⋯|by rw[Q9 i]]
   rw[Z6,Yj]at this;rw[PH,Z9,Zr,lyr,Z6]
   lia
def vV(T:Txt K mg):Cal P w K mg base 4 "_law_ground" ["_law_script"] (uy K):=by
 .exists T.bC,cB,a2,G,%[a,g,rfl,U,hn|kk];show%[_,%["KCOLjIYI_G~JA0ADBDDDEHG]<A0BPC~$G]=A0B~%MJ1MJ2cCF3RBCF4ljIYI_G~JA0ADBDDDCF5ljIYI_G~JA0ADBDDDCS~jADA~F]BAefA0BADBBJ6EXsn3AG]>AG~QA0A6ADADBA2A4A5BBEHRA1A3B",cB.nd|G]|?_]
  change aR _ _ _ [!a,hV,hV,hV,hV,hV,hV] H;show aj λD0 k0 r0=>?_
  lk;show%[a,g,0,ρ,U,!1,%[!1|!1],!1|bv (λ_=>%[a,g,ρ,U,hn|λt l1 l2 u cs qs I J h1 h2 ok=>r0 _ _ (kk t l1 l2 u cs qs I J h1 h2 ok)]) λ_=>k0 _ _ (aj λD1 k1 _=>?_)];lk;show%[a,g,ρ,U|λt C D H1 cs rs s1 J _ hC hD c1 c3 ca ae ok=>%[_,Qb.of J,ρ,_,_,ρ,_,_,ρ,ρ|k1 _ _ (aj λD2 k2 _=>?_)]];lk;show%[Xf _|λL M=>k2 _ _ (aj λD3 k3 _=>?_)];let sL:=s1.trans (ah.Qa (o:= .lst []) M);let v:=sL.seq U;lk;show%[a,g,0,ρ,v,!1,%[!1|!1],!1|k3 _ _ (aj λD4 k4 _=>?_)]
  generalize decide (g.getD (oT.toNat 0) 0/2%6=1)=j
  lk;show%[a,g,0,ρ,v,!1,%[!1|!1],!1|k4 _ _ ?_]
  generalize decide (g.getD (oT.toNat 0) 0/12%2=1)=l
  show aj λD5 k5 _=>ay λa0 hK=>?_
  lk;let fL:=s1.free M;let ag:C≠L:=λe=>by rw[e,M]at hC;cases hC
  let ak:D≠L:=λe=>by rw[e,M]at hD;cases hD
  let Y:=ah.Qa (o:= .lst []) M _ _ hC;let ab:=ah.Qa (o:= .lst []) M _ _ hD;let y:bV (Qa H1 L (.lst [])) cs:=λp hp=>%[ah.Qa (o:= .lst []) M _ _ (ca p hp).1|(ca p hp).2]
  let N:Qa H1 L (.lst []) L<*[]:=aa
  generalize Qa H1 L _=H2 at sL v Y ab y N
  show%[~~~g,.inl %[_,v|(Z6 _).symm],!1,!1,by split<;> lia,by split<;> lia|?_]
  generalize hm:((if 41<(~~~g:oT)then 41 else(~~~g:oT)) -5).toNat=m
  let a3:m<=36:=by split at hm<;> lia
  show hK _ _ (cK (λi σ u=>E2 λ(o6:lx V) (qs:ZN)=>A6 (σ=[!a,!C,!D,!L,hX (.bl j),hX (.bl l),o6]) (ah H u) (∀b o,b≠L->H2 b∣o->u b∣o) (u L∣.lst (qs\0)) (~~~qs=i) (cC u (cs.flatMap lyr) qs))
   %[_,[],rfl,sL,(λb o _ e=>e),N,rfl|λ_ h=>nomatch h] ?_ ?_)
  .intro i σ u hi %[o6,qs,rfl,sH,I,r,ql|O];change lh _ _ [!a,!C,!D,!L,hX (.bl j),hX (.bl l),hX (.int (5+i))] u;show aA λD6 k6 _=>?_
   lk;show%[tyL (Qb.of r),a,g,5+i,211,6,ρ,sH.seq U,⋯,⋯,!1,!1,!1,!1|λdl H3 xs s3 _ al hx hb=>%[dl,D,xs,rs,j,l,ρ,al,hx,hb,s3 _ _ (I _ _ ak ab),ok.nd,ok.ne (λe=>by rw[e]at c1;cases c1),by let:=ok.len;lia,λq c=>(ok.rk q c).2|λt H4 zs s4 J an=>?_]];let B:=s3.trans s4;let ac:=B _ _ r;let as:t≠L:=λe=>by rw[e,ac]at J;cases J
   show%[_,ac,by rw[Z6,ql];show aC ⋯|k6 _ _ %[_,qs++[(t,zs)],ρ,ah.set (sH.trans B) fL,λb o n e=>by rw[aq n];show B _ _ (I b o n e),by rw[aa,Zd];rfl,by rw[Z9,ql];rfl|λq c=>?_]];rcases Xn c with z|z
   .show%[?_|(O q z).2];rw[aq (λe=>by let:=(O q z).1;rw[e,r]at this;cases this)];show B _ _ (O q z).1
   .rw[Xo z];show%[by rw[aq as];show J|an.sub λz hz=>?_];let%[q,c|rfl]:=Xp hz;show(ok.rk q c).1
  .intro σ u %[o6,qs,rfl,sH,I,r,ql|O];show k5 _ _ ?_;lk;show%[#[2]|λp hp=>?_];let sp:=ah.Qa (o:= .lst [V.ref C,V.ref L]) hp;show kk p C L _ cs qs (sH.trans sp) aa (sp _ _ (I _ _ ag Y)) (sp _ _ r) %[c1,c3,λq c=>%[sp _ _ (I _ _ (λe=>?_) (y q c).1)|(y q c).2],ae,λq c=>?_,by let:=AT ok.dr;lia,λq c=>%[sp _ _ (O q c).1|(O q c).2]|⋯]
   .let:=(y q c).1;rw[e,N]at this;cases this
   .let%[w,a1,hi,d|e]:=ok.dr q c;rw[e];show d.few
def qT{S:lp->lp->Prop}{P:lp->Prop}{x y:lp}(h:cX S x y)(e:P x)(d: ¬ P y):∃a b,(S a b\/S b a)/\P a/\ ¬ P b/\cX S x a:=by
 induction h with
 | refl=>show(d e).elim
 | @step y z c s f=>
   by_cases p:P y
   .show%[y,z,s,p,d|c]
   .show f p
structure Rnd (ls:ZB) (ps:hH (lp×lp)) (S:lp->lp->Prop) (f:lp->lp) (r:jg):Prop where
 con:∀z∈ls,cX S z (f z)
 dn:∀z∈ls,aO z (f z)=iv
 cnt:∀m∈ls,bJ S m m->(∀z∈ls,cX S m z->f z=m)\/r<= ~~~(ps.filter λp=>decide (f p.1=m/\f p.2=m))
def Rnd.nil{a:ZB}{ps:hH (lp×lp)}{S:lp->lp->Prop}:Rnd a ps S id 0:=%[λz _=> .refl z,λz _=>dz z|λm b _=> .inr (Xf _)]
def AU{c:Type}{p q:c->ri}:∀{l:hH c},(∀x∈l,p x=hY->q x=hY)-> ~~~(l.filter p)<= ~~~(l.filter q)
 |[],_=>Zi _
 | x::l,h=>by
   let e:=AU (l:=l) λy d=>h y (Zk _ d)
   let f:=h x Zm;rw[Y3,Y3];cases a:p x<;> cases b:q x<;> simp_all
   lia
def AV{d:Type}{p q:d->ri}:∀{l:hH d},(∀x∈l,p x=hY->q x=hY)->(∃x∈l,q x=hY/\p x=iv)-> ~~~(l.filter p)< ~~~(l.filter q)
 |[],_,h=>(nomatch h.choose_spec.1)
 | x::l,h,⟨y,c,e,f⟩=>by
   let sub:∀y∈l,p y=hY->q y=hY:=λy c=>h y (Zk _ c)
   let g:=h x Zm;rw[Y3,Y3];rcases Yw.mp c with rfl|c
   .let:=AU sub;rw[e,f];simp
    lia
   .let i:=AV sub %[y,c,e|f];cases a:p x<;> cases b:q x<;> simp_all
    lia
structure Mid (ls:ZB) (S T:lp->lp->Prop) (f g:lp->lp):Prop where
 con:∀z∈ls,cX S z (g z)
 le:∀z∈ls,aO (f z) (g z)=iv
 don:∀a b,T a b->aO (f a) (g b)=iv/\aO (f b) (g a)=iv
def eJ{x y z:lp}(b:aO y x=iv)(a:aO z y=iv):aO z x=iv:=by
 cases h:aO z x
 .rfl
 .by_cases e:y=x
  .rw[e,h]at a;cases a
  .rw[dR h (fK b e)]at a;cases a
def Mid.step{i:ZB}{S T:lp->lp->Prop}{f g:lp->lp}{a b:lp}(h:Mid i S T f g)(ws:∀x y,S x y->x∈i/\y∈i)(s:S a b)(sub:∀x y,T x y->S x y){v:lp}(l:v=if aO (g b) (g a)=hY then g b else g a):
 Mid i S (λx y=>T x y\/(x=a/\y=b)) f (λx=>if x=b then v else if x=a then v else g x):=by
 let%[m|n]:=ws _ _ s;let v1:aO (g a) v=iv:=by
  rw[l];split
  .cases q:aO (g a) (g b)
   .rfl
   .rename_i c;let:=dR c q;rw[dz]at this;cases this
  .show dz _
 let o:aO (g b) v=iv:=by
  rw[l];split
  .show dz _
  .rename_i c;simpa using c
 let p:cX S a v:=by
  rw[l];split
  .show(cX.one (.inl s)).trans (h.con b n)
  .show h.con a m
 let d:∀x∈i,aO (g x) (if x=b then v else if x=a then v else g x)=iv:=λx _=>by
  split
  .rename_i e;rw[e];show o
  .split
   .rename_i e;rw[e];show v1
   .show dz _
 show%[λz j=>?_,λz j=>eJ (d z j) (h.le z j)|λx y t=>?_]
 .split
  .rename_i e;rw[e];show(cX.one (.inr s)).trans p
  .split
   .rename_i e;rw[e];show p
   .show h.con z j
 .rcases t with t|⟨rfl,rfl⟩
  .let%[r|u]:=ws _ _ (sub _ _ t);show%[eJ (d y u) (h.don x y t).1|eJ (d x r) (h.don x y t).2]
  .show%[?_|?_]
   .rw[lX rfl];show eJ v1 (h.le x m)
   .rw[lX (rfl:x=x),ite_self];show eJ o (h.le y n)
def Rnd.step{n:ZB}{ps:hH (lp×lp)}{S:lp->lp->Prop}{f g:lp->lp}{r:jg}(h:Rnd n ps S f r)(o:∀x y,S x y↔(x,y)∈ps)(ws:∀x y,S x y->x∈n/\y∈n)(M:Mid n S S f g):Rnd n ps S g (r+1):=by
 show%[M.con,λz d=>eJ (M.le z d) (h.dn z d)|λm u A=>?_];let i:∀{y},cX S m y->aO m y=iv->y=m:=λ{y} c l=>by
  by_cases q:y=m
  .show q
  .let:=fK (A.2 _ c) q;rw[l]at this;cases this
 let j:∀z∈n,f z=m->g z=m:=λz d e=>by
  let c:=h.con z d;let l:=M.le z d;rw[e]at c l;show i (c.symm.trans (M.con z d)) l
 rcases h.cnt m u A with q|q
 .show .inl λz d c=>j z d (q z d c)
 .by_cases all:∀z∈n,cX S m z->f z=m
  .show .inl λz d c=>j z d (all z d c)
  .obtain⟨z,d,c,ne⟩:∃z,z∈n/\cX S m z/\f z≠m:=by
    simp only[Qn]at all;let%[z,d,c|ne]:=all;show%[z,d,c|ne]
   let G:f m=m:=i (h.con m u) (h.dn m u);let%[a,b,s,v,B|ca]:=qT (P:=λx=>f x=m) c G ne;let H:b∈n:=s.elim (λs=>(ws _ _ s).2) λs=>(ws _ _ s).1
   let C:g b=m:=i ((ca.trans (.one s)).trans (M.con b H)) (by
    rcases s with s|s
    .let:=(M.don a b s).1;rwa[v]at this
    .let:=(M.don b a s).2;rwa[v]at this)
   let E:g a=m:=j a (s.elim (λs=>(ws _ _ s).1) λs=>(ws _ _ s).2) v;let:=AV (p:=λp:lp×lp=>decide (f p.1=m/\f p.2=m)) (q:=λp=>decide (g p.1=m/\g p.2=m)) (l:=ps) (λp q h=>by
    let e:=Zo h;let:=ws _ _ ((o p.1 p.2).mpr q);show Zf %[j _ this.1 e.1|j _ this.2 e.2]) (by
    rcases s with s|s
    .show%[(a,b),(o a b).mp s,Zf %[E|C]|Zh λh=>B h.2]
    .show%[(b,a),(o b a).mp s,Zf %[C|E]|Zh λh=>B h.1])
   show .inr ⋯
def Fq{a:ZB}{S:lp->lp->Prop}(ws:∀x y,S x y->x∈a/\y∈a):∀(n:jg) {z:lp},xF a z<=n->z∈a->∃m,bJ S z m:=λn=>by
 induction n with
 | zero=>
   intro z g b;show%[z,.refl z|λy c=>?_];cases q:aO y z
   .rfl
   .let:=qO (c.within ws b) q
    lia
 | succ n h=>
   intro z g b;by_cases all:∀y,cX S z y->aO y z=iv
   .show%[z,.refl z|all]
   .simp only[Qn]at all;let%[y,c|q]:=all;let e:=c.within ws b;let:=qO e ↑q;let%[m|f]:=h ⋯ e;show%[m,c.trans f.1|λu d=>f.2 u (c.symm.trans d)]
def Rnd.done{i:ZB}{ps:hH (lp×lp)}{S:lp->lp->Prop}{f:lp->lp}(h:Rnd i ps S f ps.length)(n:∀x y,S x y↔(x,y)∈ps)(ws:∀x y,S x y->x∈i/\y∈i){z:lp}(l:z∈i):f z∈i/\bJ S z (f z):=by
 let%[m|g]:=Fq ws _ (Zi _) l;let j:=g.1.within ws l;let d:bJ S m m:=%[.refl m|λy c=>g.2 y (g.1.trans c)]
 let e:f z=m:=by
  rcases h.cnt m j d with q|q
  .show q z l g.1.symm
  .let all:=hH.length_filter_eq_length_iff.mp (jg.le_antisymm (Yi _ _) q);let p:f m=m:=(bJ.one %[h.con m j|λy c=>eJ (h.dn m j) (d.2 y c)] d)
   show Nv λne=>?_
   let%[a,b,s,r,o|_]:=qT (P:=λx=>f x=m) g.1.symm p ne;rcases s with s|s
   .show o (Zo (all _ ((n a b).mp s))).2
   .show o (Zo (all _ ((n b a).mp s))).1
 rw[e];show%[j|g]
def xR{c:jg}(h:c≠10):∀{rows:ZB},c∈(vj nl rows).cps.toList↔∃r∈rows,c∈r.cps.toList
 |[]=>by simp[vj,Mi]
 |[x]=>by simp[vj]
 | x::y::r=>by
   let a:=xR h (rows:=y::r);rw[fG nl x y r,Yt,Yt,a];let:c∉nl.cps.toList:=λq=>h (by simpa using (show c∈[10]from q))
   simp[this]
def Hk{z:lp}{g:TG}{j:TS}{D:jr}{a:_LL.St}{H:Hp}(Pv:jg->_LL.St->Hp->Prop)(n:Pv 0 a H)
 (o:∀i c a H,z.cps[i]?∣c->Pv i a H->g (.str (sgn c)) a H λb h=>j {D with nx:=Pv (i+1),ct:=Pv (i+1),bk:=D.nx} b h) (q:∀a H,Pv z.cps.size a H->D.nx a H):
 ∃W:jg->jg->_LL.St->Hp->Prop,(∃m,W 0 m a H)/\∀i m a H,W i m a H->
  ((Its z).stop i H/\D.nx a H)\/((Its z).go i H/\∃N:_LL.St->Hp->Prop,(∀d e,N d e->∃l,l<m/\W (i+1) l d e)/\∀x e,(Its z).yld i H x e->g x a e λb h=>j {D with nx:=N,ct:=N,bk:=D.nx} b h):=by
 show%[λi m a H=>m=z.cps.size-i/\i<=z.cps.size/\Pv i a H,%[z.cps.size,by simp,Xf _|n]|?_];intro i m a H %[rfl,hi|p];by_cases f:i<z.cps.size
 .show .inr %[f,Pv _,λd e r=>%[z.cps.size-(i+1),⋯,rfl,f|r]|λx e y=>?_];let%[rfl,c,s|rfl]:=y;show o i c a _ s p
 .obtain rfl:i=z.cps.size:=by lia
  show .inl %[Zi _|q a H p]
def AW{p:ku×lp×ZB}{z:lp}:z∈lyr p↔∃c,Let p.2.2 c/\z=lnS p.2.1 (sgn c):=by
 constructor
 .intro h;let%[y,b|rfl]:=Xp h;let%[c,a|rfl]:=Xp (a8.mp b);show%[c,fM.mp a|ρ]
 .rintro⟨c,a,rfl⟩;show ja a
def vW{H:Hp}:∀{cs:hH _},bV H cs-> ~~~(cs.flatMap lyr)<=26* ~~~cs
 |[],_=>Zi _
 | q::cs,h=>by
   let b:=vW λp a=>h p (Zk _ a)
   let: ~~~(lyr q)<=26:=by
    unfold lyr;rw[Z6];show kI (jV (h q Zm).2.2.sign)
   rw[PH,Z9,Zr]
   lia
abbrev rY(q:ku×ZM):ri:=decide (q.2[0]?∣.str (!"same"))
abbrev prT(q:ku×ZM):lp×lp:=match q.2 with|[_,.str a,.str b]=>(a,b)|_=>(Mi,Mi)
def AX{c:ZB}{q:ku×ZM}(h:my c q.2)(e:rY q=hY):∃a b,q.2=[.str (!"same"),.str a,.str b]/\a∈c/\b∈c/\prT q=(a,b):=by
 let e:=Zo e;rcases h with⟨w,a,b,h,_,d,f,_⟩|⟨w,a,y,h,hw,_⟩
 .rw[h]at e;obtain rfl:w=o0 _:=V.str.inj (Za e);show%[a,b,h,d,f|by unfold prT;rw[h]]
 .rw[h]at e;let:=V.str.inj (Za e);rw[this]at hw;show n0 hw (!1)
def Hl{H:Hp}{f:ZB}{qs:hH _}(h:cC H f qs)(a b:lp):aQ qs a b↔(a,b)∈(qs.filter rY).map prT:=by
 constructor
 .rintro⟨q,c,e⟩;show Xq %[q,ow.mpr %[c|by unfold rY;rw[e];show Zf rfl]|by unfold prT;rw[e]]
 .intro m;let%[q,c|e]:=Xp m;let%[d|g]:=ow.mp c;let%[x,y,i,_,_|j]:=AX (h q d).2 g;rw[j]at e;cases e;show%[q,d|i]
inductive xS
 | mk (l m:ku) (cs:ZH) (qs:ZN):vs=[.ref l,.ref m]->H l<*bL cs->H m∣.lst (qs\0)->bV H cs->cC H (cs.flatMap lyr) qs-> ~~~cs<=3-> ~~~qs<=60->(∀d H' ms f,ah H H'->H d=hV->H' d∣.dK (NmD ms f)->ms.Nodup->(∀z,z∈ms↔z∈cs.flatMap lyr)->(∀z∈ms,f z∈ms/\bJ (aQ qs) z (f z))->Q (.ref d) H')->xS vs H Q E0
def xT(T:Txt K mg):Cal P w K mg base 1 "_law_homes" ["_law_cuts_here","_law_sayings"] xS:=by
 .exists T.bF,bq,b4,hr,%[l,m,cs,qs,rfl,hl,hm,ca,sa,c3,bf|kk];let qm: ~~~(qs\0)= ~~~qs:=Z6 _;let a1: ~~~(bL cs)= ~~~cs:=Z6 _;show%[_,%["KCF2!CSU0gMJ3MJ4cES]^4J5EOL]C5VEyI$I$3V52I$I$3V5PC~c6uti?1U1a0?2zLjN0DV0CS(AefA6BBJ7ESU6gMJ8MJ9MJ:cCF;~F~3AW29AW2k:BCyk;29Eyk;2k:EH2",bq.nd,↑(["_law_saying"],[]),↑["_law_saying"]|hr]|?_]
  change aR _ _ _ [!l,!m,hV,hV,hV,hV,hV,hV,hV,hV,hV,hV] H;show aj λD1 k1 _=>?_
  lk;intro d fd;show k1 _ _ (aj λD2 k2 _=>ay λO hK=>?_);let s1:=ah.Qa (o:= .dK []) fd;lk;show%[%[_|Qb.of (s1 _ _ hl)]|hK _ _ (eP (λi B L=>E4 λo3 o4 Y n=>A5 (B=[!l,!m,!d,o3,o4,Y,hV,hV,hV,hV,hV,hV]) (ah H L) (L d∣.dK (NmD n id)) n.Nodup (∀z,z∈n↔z∈(cs.take i).flatMap lyr))
   %[_,_,_,[],ρ,s1,aa,X3|λz=>OK] (λi B L _ ⟨_,_,_,_,_,q,_,_,_⟩=>Qb.of (q _ _ hl)) ?_ ?_)]
  .intro i x B H1 hx %[o3,o4,Y,n,rfl,U,hd,nd|mem];let hi:i< ~~~cs:=by rw[<-a1];show(Xm hx).1
   obtain⟨q,hq,rfl⟩:∃q,cs[i]?∣q/\x=V.ref q.1:=by
    unfold bL at hx;rw[Zl,Z4 hi]at hx;show%[cs[i],Z4 hi|(Za hx).symm]
   let a2:=Z8 hq;let%[a3,bl|bm]:=ca q a2;let tk:cs.take (i+1)=cs.take i++[q]:=by rw[Xa,hq];rfl
   let tx:∀c,c≠10->c≠46->(c∈(vj nl q.2.2).cps.toList↔Let q.2.2 c):=λc J N=>by
    rw[xR J];show%[λh=>%[N|h]|λh=>h.2]
   let b5:=iM bl
   generalize vj nl q.2.2=tt at tx a3
   show%[_,SqT.of (U _ _ a3),ρ,_,_,ρ,_,_,ρ,ρ|?_];show aA λD3 k3 _=>ay λO hK=>?_
   lk;show hK _ _ (Hk (λj B L=>E2 λY n=>A5 (B=[!l,!m,!d,hX (.str q.2.1),-tt,Y,hV,hV,hV,hV,hV,hV]) (ah H L) (L d∣.dK (NmD n id)) n.Nodup (∀z,z∈n↔z∈(cs.take i).flatMap lyr\/∃c∈tt.cps.toList.take j,c≠10/\c≠46/\z=lnS q.2.1 (sgn c)))
    %[_,n,rfl,U,hd,nd|λz=>by rw[mem];simp] ?_ ?_)
   .intro j c B H2 hc %[Y,n,rfl,U,hd,nd|mem];let C:tt.cps.toList[j]?∣c:=↑hc
    let ka:tt.cps.toList.take (j+1)=tt.cps.toList.take j++[c]:=by rw[Xa,C];rfl
    change j8 _ _ _ _ [!l,!m,!d,hX (.str q.2.1),-tt,hX (.str (sgn c)),hV,hV,hV,hV,hV,hV] H2;show aA λD4 k4 _=>?_
    lk;let bt: ~~~n<=100:=by
     let:=_ST.nodup_sub nd (m:=cs.flatMap lyr) λz hz=>by
      rcases(mem z).mp hz with h|⟨c,hc,J,N,rfl⟩
      .let%[p,hp|e]:=ME.mp h;show ME.mpr %[p,Yx hp|e]
      .show ME.mpr %[q,a2|AW.mpr %[c,(tx c J N).mp (Yx hc)|rfl]]
     let:=vW ca
     lia
    rw[show(!!(J0 (!".\n") (sgn c) 0 (!".\n").length 1).isEmpty)=!decide (c∈(!".\n").cps.toList)from sU not (uT _ _),jb];let a4:c∈(!".\n").cps.toList↔c=46\/c=10:=by
     rw[show(!".\n").cps.toList=[46,10]from rfl];simp
    let ak: ~~~q.2.1+(!".").length<=md:=by rw[PySem.sizeLine_eq];change ~~~q.2.1+1<=_;lia
    let al:(q.2.1++o0 ".").length+ ~~~(sgn c)<=md:=by rw[PySem.sizeLine_eq,PR];change ~~~q.2.1+1+1<=_;lia
    show .inl (bv (λh=>?_) λh=>?_)
    .let h: ¬ (c=46\/c=10):=λe=>by rw[Zf (a4.mpr e)]at h;cases h
     let a5:∀z,(z∈(cs.take i).flatMap lyr\/∃c∈tt.cps.toList.take (j+1),c≠10/\c≠46/\z=lnS q.2.1 (sgn c))↔z∈n\/z=lnS q.2.1 (sgn c):=λz=>by
      rw[mem,ka]
      constructor
      .rintro(h|⟨c',C,J,N,e⟩)
       .show .inl (.inl h)
       .rcases Xn C with u|u
        .show .inl (.inr %[c',u,J,N|e])
        .rw[Xo u]at e;show .inr e
      .rintro((h|⟨c',C,J,N,e⟩)|e)
       .show .inl h
       .show .inr %[c',Yu _ C,J,N|e]
       .show .inr %[c,Yv _ Zm,λe=>h (.inr e),λe=>h (.inl e)|e]
     show%[ak,al,ak,al,_,gK.k (k:=kG (lnS q.2.1 (sgn c))) hd (by unfold NmD;rw[Z6];show aC ⋯)|?_];by_cases ae:lnS q.2.1 (sgn c)∈n
     .show k4 _ _ %[_,n,rfl,ah.set U fd,?_,nd|λz=>by rw[a5];show%[.inl|λh=>h.elim id λe=>e▸ae]];rw[aa,qN ae];show sU (λf=>hX (HO.dK (NmD n f))) (funext λx=>by by_cases e:x=lnS q.2.1 (sgn c)<;> simp[e])
     .show k4 _ _ %[_,n++[lnS q.2.1 (sgn c)],rfl,ah.set U fd,by rw[aa,Fc ae],?_|λz=>by rw[a5,Yt,Yy]];rw[X1];show%[nd,by simp|λa ha b hb e=>ae (by rw[<-Xo hb,<-e];show ha)]
    .show k4 _ _ %[_,n,rfl,U,hd,nd|λz=>?_];let h:c=46\/c=10:=by
      rw[<-a4];simpa using h
     rw[mem,ka];show Rw OK %[λ⟨c',C,r⟩=>%[c',Yu _ C|r]|λ⟨c',C,J,N,e⟩=>?_];rcases Xn C with u|u
     .show%[c',u,J,N|e]
     .rw[Xo u]at J N;show(h.elim N J).elim
   .intro B H2 %[Y,n,rfl,U,hd,nd|mem];show k3 _ _ %[_,_,_,n,rfl,U,hd,nd|λz=>?_];rw[mem,tk,O3,Yt];show Rw OK ?_;rw[show hH.flatMap lyr [q]=lyr q by simp,AW];let e:tt.cps.toList.take tt.cps.size=tt.cps.toList:=Zn ∅;rw[e]
    constructor
    .rintro⟨c,hc,J,N,e⟩;show%[c,(tx c J N).mp hc|e]
    .rintro⟨c,hc,e⟩;let a6:c≠10:=by
      let%[_,r,hr|b0]:=hc;show DH (NC.mp (bm.sign r hr) c b0)
     show%[c,(tx c a6 hc.1).mpr hc,a6,hc.1|e]
  .intro B H1 %[o3,o4,Y,n,rfl,U,hd,nd|mem];rw[a1,Xd]at mem;show k2 _ _ (aj λD3 k3 _=>?_);lk;show aL λO hK=>?_
   lk;let bb:=U _ _ hm;show%[%[_|Qb.of bb]|hK _ _ λF hF=>?_];show cN (λj vs B H7=>(∃o1,B=[o1])/\ah H1 H7/\H7 F<*vs/\vs=((qs.take j).filter rY)\0)
    %[%[hV|rfl],ah.Qa hF,aa|rfl] (λ_ _ _ H7 ⟨_,U,_⟩=>U _ _ bb) ?_ ?_
   .intro j vs B H8 hj %[%[o1|rfl],s7,bc|hv];let%[ht|so]:=sa _ (Yd hj);let st:=SqT.of (K:=K) (s7 _ _ (U _ _ ht));let fe:∀b:ri,rY qs[j]=b->((qs.take (j+1)).filter rY)\0=vs++if b=hY then [V.ref qs[j].1]else []:=λb hb=>by
     rw[hv,Xa,Z4 hj,Y2,Zd]
     congr 1
     change RT _ (N8 rY [qs[j]])=_;rw[Y3,hb];cases b<;> rfl
    let vl: ~~~vs<md:=by rw[hv,Z6];show aC (nI (Yi _ _) (by rw[Yl];lia))
    obtain⟨w,r,ew⟩:∃w r,qs[j].2=V.str w::r:=by
     rcases so with⟨w,a,b,e,_⟩|⟨w,a,y,e,_⟩
     .show%[_,_|e]
     .show%[_,_|e]
    rw[ew]at st;let is:rY qs[j]=decide (w=!"same"):=by
     unfold rY;rw[ew];simp
    lk;show%[_,st,.str w,(show atI (V.str w::r) ((0:jg):oT)∣.str w from bu rfl),ρ|bv (λc=>CK.mk hj bc vl %[%[_|ρ],ah.set s7 hF,aa|?_]) λc=>CN.mk hj %[%[_|ρ],s7,bc|?_]]
    .rw[fe hY (by rw[is];simpa using c)];rfl
    .rw[fe iv (by rw[is];simpa using c)];simp
   intro vs B H3 %[_,s3,ag|rfl];rw[Zn (Zi _)]at ag
   generalize an:qs.filter rY=us at ag
   let pI:=Hl sa;rw[an]at pI;let ul: ~~~us<=60:=by rw[<-an];show nI (Yi _ _) bf
   let tu:∀q∈us,H q.1&&&q.2/\∃a b,q.2=[.str (!"same"),.str a,.str b]/\a∈n/\b∈n/\prT q=(a,b):=λq hq=>by
    rw[<-an]at hq;let%[J|N]:=ow.mp hq;let%[a,b,e,ha,hb|h]:=AX (sa q J).2 N;show%[(sa q J).1,a,b,e,(mem a).mpr ha,(mem b).mpr hb|h]
   let ws:∀a b,aQ qs a b->a∈n/\b∈n:=λa b h=>by
    let:=ik sa a b h;show%[(mem a).mpr this.1|(mem b).mpr this.2]
   let bt: ~~~n<=100:=by
    let:=_ST.nodup_sub nd (m:=cs.flatMap lyr) λz hz=>(mem z).mp hz
    let:=vW ca
    lia
   let um: ~~~(us\0)= ~~~us:=Z6 _;show k3 _ _ (aj λD4 k4 _=>ay λO hK=>?_);lk;let b1:=U.trans s3;show%[~~~us,.inl %[_,Qb.of ag|um.symm],⋯,⋯|hK _ _ (cK (λi B L=>E6 λo7 o8 o9 I G f=>A5 (B=[!l,!m,!d,o3,o4,Y,!F,o7,o8,o9,I,G]) (ah H L) (L F∣.lst (us\0)) (L d∣.dK (NmD n f)) (Rnd n (us.map prT) (aQ qs) f i))
    %[_,_,_,_,_,id,ρ,b1,ag,s3 _ _ hd|.nil] ?_ ?_)]
   .intro i B H5 hi %[o7,o8,o9,I,G,f,rfl,s5,as,a0|R];change uG _ _ _ _ [!l,!m,!d,o3,o4,Y,!F,hX (.int (0+i)),o8,o9,I,G] H5;show aA λD6 k6 _=>ay λO hK=>?_
    lk;show%[%[_|Qb.of as]|hK _ _ (bF (λj B L=>E6 λo7 o8 o9 I G g=>A5 (B=[!l,!m,!d,o3,o4,Y,!F,o7,o8,o9,I,G]) (ah H L) (L F∣.lst (us\0)) (L d∣.dK (NmD n g)) (Mid n (aQ qs) (λa b=>(a,b)∈(us.take j).map prT) f g))
     %[_,_,_,_,_,f,ρ,s5,as,a0,R.con,λz _=>dz _|λa b h=>(nomatch h)] (λj B L ⟨_,_,_,_,_,_,_,_,q,_,_⟩=>q) ?_ ?_)]
    .intro j q B H6 hq %[o7,o8,o9,I,G,g,rfl,s6,ab,ac|M];let be:=Z8 hq;let%[q1,a,b,e,ha,hb|pe]:=tu q be;let st:=SqT.of (K:=K) (s6 _ _ q1);rw[e]at st;let get:∀y∈n,b8 H6 d (.str y) (hX (.str (g y))):=λy hy=>by
      let:=b8.k (k:=kG y) ac;rw[iA hy]at this;show this
     let b2:aQ qs a b:=(pI a b).mpr (Xq %[q,be|pe]);show%[_,st,ρ,_,_,ρ,_,_,ρ,_,_,ρ,ρ|?_];change aR _ _ _ [!l,!m,!d,o3,o4,Y,!F,o7,hX (.str (!"same")),-a,-b,G] H6;show aj λD7 k7 _=>?_
     lk;show%[_,get a ha,_,get b hb|k7 _ _ (aj λD8 k8 _=>?_)]
     generalize hv:(if aO (g b) (g a)=hY then g b else g a)=v
     let hn:∀g,~~~(NmD n g)<md:=λg=>by unfold NmD;rw[Z6];show aC ⋯
     let P1:=gK.k (k:=kG a) (v:= .str v) ac (hn g);rw[qN ha]at P1;let b3:F≠d:=λc=>by rw[c,ac]at ab;cases ab
     lk;show%[_,P1|k8 _ _ (aA λD9 k9 _=>?_)];let P2:=gK.k (k:=kG b) (v:= .str v) (H:=Qa H6 d (.dK (NmD n λx=>if x=a then v else g x))) aa (hn _);rw[qN hb,FJ]at P2;lk;show%[_,P2|k9 _ _ %[_,_,_,_,_,_,ρ,ah.set s6 fd,(aq b3).trans ab,aa|?_]];let M2:=M.step ws b2 (λx y h=>(pI x y).mpr ((VM prT (Vl j us)) h)) hv.symm;show%[M2.con,M2.le|λx y t=>M2.don x y ?_];let t:(x,y)∈(us.take (j+1)).map prT:=t;rw[Xa,hq,Zd]at t;rcases Xn t with z|z
     .show .inl z
     .let z:(x,y)=prT q:=↑z
      rw[pe]at z;cases z;show .inr %[rfl|rfl]
    .intro B H6 %[o7,o8,o9,I,G,g,rfl,s6,ab,ac|M];rw[Zn (Zi _)]at M;show k6 _ _ %[_,_,_,_,_,g,rfl,s6,ab,ac|R.step pI ws %[M.con,M.le|λa b s=>M.don a b ((pI a b).mp s)]]
   .intro B H5 %[o7,o8,o9,I,G,f,rfl,s5,as,a0|R];show k4 _ _ ?_;lk;let R:Rnd n (us.map prT) (aQ qs) f (us.map prT).length:=by rw[Z6];simpa using R
    show kk d H5 n f s5 fd a0 nd mem λz hz=>R.done pI ws hz
def Mp{rows:ZB}{i n:jg}(h:i<=n){k:ZB}(a:k∈bU rows i):k∈bU rows n:=by
 unfold bU at a ⊢;let%[j,b|e]:=ME.mp a;show ME.mpr %[j,yc.mpr (Zg (yc.mp b) h)|e]
def Hm{p:jg×jg}{k:ZB}(h:ig p∣k):[p].filterMap ig=[k]:=by rw[Y1,h];rfl
def Hq{p:jg×jg}(h:ig p=hV):[p].filterMap ig=[]:=by rw[Y1,h];rfl
inductive xU
 | mk (n:lp) (rows:ZB):vs=[.str n,.str (vj nl rows)]->cS rows-> ~~~n<=8->(∀r H' (ts:ZG),ah H H'->H r=hV->H' r∣.lst (ts\0)->aE H' ts->ts\2=(bU rows (~~~rows-1)).map (mD n)-> ~~~ts<=1600->Q (.ref r) H')->xU vs H Q E0
def Hr(c e:jg):inV (V.str ⟨([c].toArray)⟩) [V.str (!"."),V.str ⟨([e].toArray)⟩]=decide (c=46\/c=e):=by
 let d:((⟨([c].toArray)⟩:lp)=!".")↔c=46:=%[λh=>by let:[c]=[46]:=sU (λz:lp=>z.cps.toList) h;show(NQ this).1|λh=>by rw[h];rfl]
 let f:((⟨([c].toArray)⟩:lp)=⟨([e].toArray)⟩)↔c=e:=%[λh=>by let:=sU (λz:lp=>z.cps.toList) h;simpa using this|λh=>by rw[h]]
 simp only[inV,Zw,hH.any_nil,eqV];by_cases a:c=46
 .subst a;rw[show(o0 "."==(⟨([46].toArray)⟩:lp))=hY by decide +kernel];simp
 .rw[show(o0 "."==(⟨([c].toArray)⟩:lp))=iv from MF.mpr λh=>a (d.mp h.symm)];by_cases b:c=e
  .subst b;simp
  .rw[show((⟨([e].toArray)⟩:lp)==⟨([c].toArray)⟩)=iv from MF.mpr λh=>b (f.mp h.symm)];simp[a,b]
def qU(T:Txt K mg):Cal P w K mg base 1 "_law_cut_ties" ["_law_name","_law_text"] xU:=by
 .exists T.bD,ck,b9,hr,%[n,rows,rfl,a,ca|kk];let%[wd,w1,w2|a2]:=a.wide;let b1:=a.text;let a3:=a.split;let cd:=a.high;let b2:=a.pos
  generalize vj nl rows=z at b1 a3
  show%[_,%["KCF2~:~;1AVBCF3RBCS~>A2A~r2}D[BgMJ4MJ5cES(AefA4BBJ6EOL]C~D46bAVA~D56BEXsn3AbAI$I$0V~D46AI$I$0V~D56A0BBPEH3"|ck.nd]|?_]
  change aR _ _ _ [-n,-z,hV,hV,hV,hV,hV] H;show aj λD1 k1 _=>?_
  lk;show%[!1,nI (by lia: ~~~z+2<=5000) (!1)|λR hR=>k1 _ _ ?_];rw[show(!"\n")=nl from rfl,a3];let sR:=ah.Qa (o:= .lst (rows\3)) hR;let gR:=own sR
  generalize Qa H R _=H1 at sR gR
  show aj λD2 k2 _=>?_
  lk;show%[Xf _|λL hL=>k2 _ _ (aj λD3 k3 _=>ay λa4 hK=>?_)];let sL:=sR.trans (ah.Qa (o:= .lst []) hL);let gL:Qa H1 L (.lst []) L<*[]:=aa;let M:=ah.Qa (o:= .lst []) hL _ _ gR;let fL:=sR.free hL
  generalize Qa H1 L _=g at sL gL M
  lk;show%[_,Qb.of M|λp hp=>?_];rw[ur rows (NF.mp b2)];let s3:=ah.Qa (o:= .lst ((rows.drop 1)\3)) hp;let N:=s3 _ _ M;let a5:=s3 _ _ gL;let O:Qa g p (.lst ((rows.drop 1)\3)) p<*(rows.drop 1)\3:=aa;let a6:=sL.trans s3;let b3:R≠L:=λe=>by rw[e,hL]at gR;cases gR
  let b4:p≠L:=λe=>by rw[e,gL]at hp;cases hp
  generalize Qa g p _=H3 at s3 N a5 O a6
  show%[%[_|Qb.of N],%[_|Qb.of O]|hK _ _ (xq (xs:=rows\3) (ys:=(rows.drop 1)\3) (λi G l=>A5 (E3 λo4 o5 I=>G=[-n,-z,!R,!L,o4,o5,I]) (ah H l) (l R<*rows\3) (l p<*(rows.drop 1)\3) (∃ps:ZG,A4 (l L∣.lst (ps\0)) (aE l ps) (ps\2=(bU rows i).map (mD n)) (~~~ps<=40*i))) %[%[_,_,_|ρ],a6,N,O,[],a5,eV _,ρ|Xf _] (by rw[Z6,Z6,Yh];lia) (λi G l _ h=>%[Qb.of h.3|Qb.of h.4]) ?_ ?_)]
  .intro i x y TT G l hx hy %[%[o4,o5,I|rfl],sm,bb,bc,ps,U,Y,B|m] hT;rw[Zl]at hx hy;let%[u,hu|rfl]:=Mu.mp hx;let%[r,C|rfl]:=Mu.mp hy;rw[Yb,Ue]at C;let ce:i+1< ~~~rows:=(Xm C).1;let ul:u.cps.size=wd:=a2 u (Z8 hu);let rl:r.cps.size=wd:=a2 r (Z8 C);let d:=ah.Qa (o:= .tup [V.str u,V.str r]) hT;let be:Qa l TT (.tup [V.str u,V.str r]) TT&&&[V.str u,V.str r]:=aa;let bf:=d _ _ bb;let bl:=d _ _ bc;let bm:=d _ _ U;let J:aE (Qa l TT (.tup [V.str u,V.str r])) ps:=az Y λb z e=>d _ _ e
   let bt:=sm.trans d
   generalize Qa l TT _=HT at d be bf bl bm J bt
   let g1:rows.getD i ⟨([].toArray)⟩=u:=by rw[Zc,hu];rfl
   let g2:rows.getD (i+1) ⟨([].toArray)⟩=r:=by rw[Zc,C];rfl
   let b5:bU rows (i+1)=bU rows i++(Nw u.cps.toList r.cps.toList).filterMap ig:=by rw[mx,g1,g2];rfl
   show%[_,SqT.of be,ρ,_,_,ρ,_,_,ρ,ρ|?_];change uG _ _ _ _ [-n,-z,!R,!L,-u,-r,I] HT;show aA λD4 k4 _=>ay λa4 hK=>?_
   lk;let us: ~~~u=wd:=ul;show%[by rw[us];show Yf (aC ⋯),⋯,⋯|?_];rw[us,OJ];show hK _ _ (cK (λj G g=>∃I,A5 (G=[-n,-z,!R,!L,-u,-r,I]) (ah H g) (g R<*rows\3) (g p<*(rows.drop 1)\3) (∃ps:ZG,A4 (g L∣.lst (ps\0)) (aE g ps) (ps\2=(bU rows i++((Nw u.cps.toList r.cps.toList).take j).filterMap ig).map (mD n)) (~~~ps<=40*i+j)))
    %[_,rfl,bt,bf,bl,ps,bm,J,by rw[B];simp|m] ?_ ?_)
   .intro j G g hj %[I,rfl,ab,ag,ak,qs,al,tq,qe|ql];change j8 _ _ _ _ [-n,-z,!R,!L,-u,-r,hX (.int (0+j))] g;rw[Ps];obtain⟨c,hc⟩:∃c,u.cps[j]?∣c:=%[u.cps[j]|by simp[show j<u.cps.size by lia]]
    obtain⟨e,he⟩:∃e,r.cps[j]?∣e:=%[r.cps[j]|by simp[show j<r.cps.size by lia]]
    let nx:=qz u r j c e hc he;let ac:atI u.cps.toList (j:oT)∣c:=bu ↑hc;let ae:atI r.cps.toList (j:oT)∣e:=bu ↑he;show aA λD5 k5 _=>?_
    lk;let l1: ~~~n+(!".").length<=md:=cP (by change ~~~n+1<=_;lia);let l2:∀c:jg,(n++o0 ".").length+ ~~~(⟨([c].toArray)⟩:lp)<=md:=λc=>cP (by
     let e:(n++o0 ".").length= ~~~n+(!".").length:=Rt;let e1: ~~~(⟨([c].toArray)⟩:lp)=1:=rfl;let e2:(!".").length=1:=rfl
     lia)
    let lu: ~~~u<=md:=by rw[us];show Yf (aC ⋯)
    let lr: ~~~r<=md:=by rw[show ~~~r=wd from rl];show Yf (aC ⋯)
    show%[lu,c,ac,lr,e,ae,#[2]|λt ht=> .inr %[_,.inr (SqT.of aa),ρ,ρ|?_]];let st:=ah.Qa (o:= .tup [V.str (!"."),V.str ⟨([e].toArray)⟩]) ht;let an:=az tq λb z e=>st _ _ e
    let v:=st _ _ al;let as:=ab.trans st;let a0:=st _ _ ag;let a1:=st _ _ ak
    generalize Qa g t _=H4 at st an v as a0 a1
    let stay:ig (c,e)=hV->(bU rows i++((Nw u.cps.toList r.cps.toList).take (j+1)).filterMap ig).map (mD n)=qs\2:=λe=>by rw[qe,<-nx,Y0,Hq e,Zx]
    rw[show inV (V.str ⟨([c].toArray)⟩) [V.str (!"."),V.str ⟨([e].toArray)⟩]=decide (c=46\/c=e)from Hr c e];show bv (λh=>?_) λh=>?_
    .let h: ¬ (c=46\/c=e):=↑h
     show%[tyL (Qb.of v),l1,lu,c,ac,l2 c,l1,lr,e,ae,l2 e,#[3]|λq hq=>?_];rw[jb,jb];let sq:=ah.Qa (o:= .tup [V.str (lnS n ⟨([c].toArray)⟩),V.str (lnS n ⟨([e].toArray)⟩),V.str n]) hq;let b0:=sq _ _ v;let b6:q≠L:=λe=>by rw[e,v]at hq;cases hq
     show%[_,b0,by rw[Z6];show aC ⋯|k5 _ _ %[_,ρ,ah.set (as.trans sq) fL,(aq b3).trans (sq _ _ a0),(aq b4).trans (sq _ _ a1),qs++[(q,[lnS n ⟨([c].toArray)⟩,lnS n ⟨([e].toArray)⟩,n])],by rw[aa,Zd];rfl,fO (az (az an λb z e=>sq _ _ e) (jY b0)) ∅ ((aq b6).trans aa),?_|by rw[Z9];show X9 ql]];rw[<-nx,Y0,Hm (lX %[λe=>h (.inl e)|λe=>h (.inr e)]),<-Ze,Zd,Zd,qe];rfl
    .show k5 _ _ %[_,rfl,as,a0,a1,qs,v,an,(stay (kw λq=>?_)).symm|⋯];rw[Zh (λe=>e.elim q.1 q.2)]at h;show h rfl
   .intro G g %[I,rfl,ab,ag,ak,qs,al,tq,qe|ql];rw[Zn (by rw[TZ];simp;lia),<-b5]at qe;show k4 _ _ %[%[_,_,_|rfl],ab,ag,ak,qs,al,tq,qe|⋯]
  .intro G l %[%[o4,o5,I|rfl],sm,bb,bc,ps,U,Y,B|m];rw[Z6,Yh]at B m;show k3 _ _ ?_;lk;show kk L l ps sm fL U Y B ⋯
inductive xV
 | mk (l m:ku) (cs:ZH) (qs:ZN) (ls:ZB):vs=[.ref l,.ref m]->H l<*bL cs->H m∣.lst (qs\0)->bV H cs->cC H ls qs-> ~~~cs<=3-> ~~~qs<=40->(∀r H' (ts:ZG),ah H H'->H' r∣.lst (ts\0)->aE H' ts->ts\2=cI cs++cJ qs qs.length->Q (.ref r) H')->xV vs H Q E0
def zO(T:Txt K mg):Cal P w K mg base 2 "_law_ties" ["_law_cuts_here","_law_sayings"] xV:=by
 .exists T.bE,du,a2,hr,%[l,m,cs,qs,ls,rfl,hl,hm,ca,sa,c3,a3|kk];let O: ~~~(bL cs)= ~~~cs:=Z6 _;show%[_,(QSs.h (ai (aF 2 du.nd rfl (bO am))
   (ai (bQ PV rfl rfl (cG (K:=K) rfl ↑0) (eF (K:=K) rfl rfl rfl (gsE rfl (aI 3 du.nd rfl) (gsE rfl (aI 4 du.nd rfl) cb)))
   (ap (aF 2 du.nd rfl (opE HW ↑2 (aJ (qU T) hr rfl #[↑3,↑4])))))
   (ai (bQ PV rfl rfl (nM (K:=K) rfl rfl T.ae rfl #[↑1]) (eF (K:=K) rfl rfl rfl (gsE rfl (aI 5 du.nd rfl) (gsE rfl (aI 6 du.nd rfl) cb)))
   (ap (ifS (aZ dh rfl (↑6>>av) cz)
    (ap (bB rfl (bmO (K:=K) Ou PySem.F.slot_list_append PySem.F.type_list_append ba rfl ↑2 #[(dU #[(↑6>>av),(↑6>>av),opE d8 cz (ctO ⟨uJ⟩ T.ab VF rfl #[↑5])])])))
    aN)))
   (ap (aK ↑2))))))|?_]
  change aR _ _ _ [!l,!m,hV,hV,hV,hV,hV] H;show aj λD1 k1 _=>?_
  lk;show%[Xf _|λL hL=>k1 _ _ (aj λD2 k2 _=>ay λU hK=>?_)];let sL:=ah.Qa (o:= .lst []) hL;lk;show%[%[_|Qb.of (sL _ _ hl)]|hK _ _ (eP (λi u c=>E4 λL Y o4 ts=>A7 (u=[!l,!m,!L,Y,o4,hV,hV]) (ah H c) (H L=hV) (c L∣.lst (ts.map λt:ku×ZB=>V.ref t.1)) (aE c ts) (ts\2=cI (cs.take i)) (~~~ts<=1600*i))
   %[L,_,_,[],ρ,sL,hL,aa,eV _,ρ|Xf _] (λi u c _ ⟨_,_,_,_,_,q,_,_,_,_,_⟩=>Qb.of (q _ _ hl)) ?_ ?_)]
  .intro i x u H1 B %[L,Y,o4,ts,rfl,n,fL,C,G,g|tl];let hi:i< ~~~cs:=by rw[<-O];show(Xm B).1
   obtain⟨q,hq,rfl⟩:∃q,cs[i]?∣q/\x=V.ref q.1:=by
    unfold bL at B;rw[Zl,Z4 hi]at B;show%[cs[i],Z4 hi|(Za B).symm]
   let%[al,an|as]:=ca q (Z8 hq);show%[_,SqT.of (n _ _ al),ρ,_,_,ρ,_,_,ρ,ρ|?_];change rA _ _ _ [!l,!m,!L,hX (.str q.2.1),hX (.str (vj nl q.2.2)),hV,hV] H1;show aA λD3 k3 _=>?_
   lk;show%[_,_,ρ,as,iM an|λr H2 us s2 fr hr tu ue ul=>%[_,s2 _ _ C,_,hr,by rw[Z6,Z6];show Yf (aC ⋯)|λp I=>k3 _ _ %[p,_,_,ts++us,ρ,(n.trans s2).trans (ah.Qa I),(n.trans s2).free I,by rw[aa,Zd],az (qC (az G λb z e=>s2 _ _ e) tu) (λb z e=>ah.Qa I _ _ e),by rw[Zd,g,ue,mE hq]|by rw[Z9];lia]]]
  .intro u H1 %[L,Y,o4,ts,rfl,n,fL,C,G,g|tl];rw[O,Xd]at g;show k2 _ _ (aj λD3 k3 _=>ay λU hK=>?_);lk;let ab: ~~~(qs\0)= ~~~qs:=Z6 _;show%[_,Qb.of (n _ _ hm)|hK _ _ (fU (λi u c=>E2 λo5 o6=>A3 (u=[!l,!m,!L,Y,o4,o5,o6]) (ah H c) (∃ts:ZG,A4 (c L∣.lst (ts\0)) (aE c ts) (ts\2=cI cs++cJ qs i) (~~~ts<=4800+i)))
    %[_,_,ρ,n,ts,C,G,by rw[g,show cJ qs 0=[]from rfl,Zx]|⋯] (λi u c _ ⟨_,_,_,q,_⟩=>Qb.of (q _ _ hm)) ?_ ?_)]
   .intro i x TT u c B %[o5,o6,rfl,n,ts,J,G,g|tl] hT;let hi:i< ~~~qs:=by rw[<-ab];show(Xm B).1
    obtain⟨q,hq,rfl⟩:∃q,qs[i]?∣q/\x=V.ref q.1:=by
     rw[Zl,Z4 hi]at B;show%[qs[i],Z4 hi|(Za B).symm]
    let s0:=ah.Qa (o:= .tup [.int i,.ref q.1]) hT;let j:ah H (Qa c TT (.tup [.int i,.ref q.1])):=n.trans s0;let ac:Qa c TT (.tup [.int i,.ref q.1]) TT&&&[.int i,.ref q.1]:=aa;let d:=s0 _ _ J;let v:=az G λb z e=>s0 _ _ e
    generalize Qa c TT _=HT at j ac d v
    let ae:=sa q (Z8 hq);let st:=SqT.of (K:=K) (j _ _ ae.1);let M:=fo hq;show%[_,SqT.of ac,ρ,_,_,ρ,_,_,ρ,ρ|?_];change j8 _ _ _ _ [!l,!m,!L,Y,o4,hX (.int i),hX (.ref q.1)] HT;show aA λD4 k4 _=>?_
    lk;rcases ae.2 with⟨wd,a,b,e,hw,ma,mb,_⟩|⟨wd,a,y,e,hw,_⟩
    .rw[e]at st M;show%[_,st,_,ρ,ρ|bv (λN=>?_) λN=>?_]
     .rw[show iy i [V.str wd,V.str a,V.str b]∣[a,b,vN i]from lX (V.str.inj (Zo N))]at M;let a1: ~~~(o0 (toString (i:oT)))<=21:=by
       let e:=PySem.int_text_length_le10 (a:=(i:oT)) (k:=20) (!1) (by let:(i:oT).natAbs=i:=rfl;lia);rw[PySem.ofString_length];lia
      let e1:(!"#").length=1:=!0
      let ag:(i:oT).natAbs.log2<1920:=RH (jg.log2_le_self _) (by let:(i:oT).natAbs=i:=rfl;lia);show%[tyL (Qb.of d),_,st,_,ρ,_,st,_,ρ,ag,cP ⋯,#[3]|λp I=>?_];rw[show o0 "#"++o0 (toString (i:oT))=vN i from by unfold vN;rw[ux]];let sp:=ah.Qa (o:= .tup [V.str a,V.str b,V.str (vN i)]) I;let ak:=sp _ _ d;let a0:p≠L:=λe=>by rw[e,d]at I;cases I
      show%[_,ak,by rw[Z6];show aC ⋯|k4 _ _ %[_,_,ρ,ah.set (j.trans sp) fL,ts++[(p,[a,b,vN i])],by rw[aa,Zd];rfl,fO (az (az v λb z e=>sp _ _ e) (jY ak)) ∅ ((aq a0).trans aa),?_|by rw[Z9];show X9 tl]];rw[M,Zd,g,<-Ze];rfl
     .rw[show iy i [V.str wd,V.str a,V.str b]=hV from kw λz=>N (Zf (by rw[z]))]at M;show k4 _ _ %[_,_,rfl,j,ts,d,v,?_|⋯];rw[M,g,lx.toList_none,Zx]
    .rw[e]at st M;show%[_,st,_,ρ,ρ|?_];rw[kw (by rcases hw with rfl|rfl<;> decide)];show k4 _ _ %[_,_,rfl,j,ts,d,v,?_|⋯];rw[M,g];change _=_++(_++[]);rw[Zx]
   .intro u c %[o5,o6,rfl,n,ts,J,G,g|tl];rw[ab]at g;show k3 _ _ ?_;lk;show kk L c ts n J G g
abbrev j6(a:hH (hH Key×V))(m:ZB->Prop):Prop:=∃ks:hH ZB,a\1=ks.map (λk=>k.map kG)/\ks.Nodup/\∀k,k∈ks↔m k
def Fs{c:hH (hH Key×V)}{m j:ZB->Prop}(h:j6 c m)(k:ZB)(v:V)(f:∀z,j z↔m z\/z=k):j6 (dc c (k.map kG) v) j:=by
 let%[ks,g,l|i]:=h;let n:(k.map (kG:lp->Key))∈c\1↔k∈ks:=by
  rw[g,Pm]
  constructor
  .rintro⟨z,p,e⟩;rw[<-vt _ _ e];show p
  .intro d;show%[k,d|ρ]
 by_cases d:k∈ks
 .show%[ks,by rw[mZ,lX (n.mpr d)];show g,l|λz=>?_];rw[i,f]
  constructor
  .show .inl
  .rintro(e|e)
   .show e
   .rw[e];show(i k).mp d
 .show%[ks++[k],by rw[mZ,kw (λq=>d (n.mp q)),g,Zd];rfl,?_|λz=>?_]
  .rw[X1];show%[l,by simp|λa o b r e=>by rw[Xo r]at e;rw[e]at o;show d o]
  .rw[Yt,i,Yy,f]
def K1{a:hH (hH Key×V)}{m b:ZB->Prop}(h:j6 a m)(e:∀k,m k↔b k):j6 a b:=by
 let%[ks,c,d|f]:=h;show%[ks,c,d|λk=>(f k).trans (e k)]
def Hs{a:hH (hH Key×V)}{m:ZB->Prop}{B:hH ZB}(h:j6 a m)(s:∀k,m k->k∈B): ~~~a<= ~~~B:=by
 let%[ks,b,c|d]:=h;let:=_ST.nodup_sub c (m:=B) λk e=>s k ((d k).mp e)
 let l:=sU MR b;rw[Z6,Z6]at l
 lia
def Ht{rows:ZB}(h:rO rows)(e:cS rows):∃m:hH ZB,~~~m<=60/\∀k,k∈m↔k∈bU rows (~~~rows-1):=by
 let%[m,c|d]:=h;show%[m.filter λk=>decide (k∈bU rows (~~~rows-1)),nI (Yi _ _) c|λk=>?_];rw[ow,NG];show%[λh=>h.2|λh=>%[?_|h]];let%[a,b,rfl|mt]:=ni h;show d a b mt
def xW{H:Hp}:∀{cs:ZH},bV H cs->(∀p∈cs,rO p.2.2)->∃ks:hH ZB,~~~ks<=60* ~~~cs/\∀k,k∈ks↔k∈cI cs
 |[],_,_=>%[[],Zi _|λk=>OK]
 | q::cs,h,f=>by
   let%[ks,d|b]:=xW (cs:=cs) (λp a=>h p (Zk _ a)) λp a=>f p (Zk _ a)
   let%[m,e|c]:=Ht (f q Zm) (h q Zm).2.2;show%[m.map (mD q.2.1) ++ks,by rw[Z9,Z6,Zr];lia|λk=>?_];unfold cI at b ⊢;rw[PH,Yt,Yt,b,Pm,Pm];show Rw (UZ λz=>T6 λ_=>c z) OK
def AY{H:Hp}{cs:ZH}{qs:ZN}(ca:bV H cs)(i:cC H (cs.flatMap lyr) qs){n:jg}{k:ZB}(h:k∈cI cs\/k∈cJ qs n):dS (cs.flatMap lyr) k:=by
 rcases h with h|h
 .let%[p,c|h]:=ME.mp h;let%[z,l|rfl]:=Xp h;let%[a,b,rfl|mt]:=ni l;let%[m|o]:=uq (ca p c).2.2 mt;show%[_,_,_,ρ,ME.mpr %[p,c|ja m]|ME.mpr %[p,c|ja o]]
 .let%[j,u|e]:=M6.mp h;cases d:qs[j]? with
  | none=>rw[d]at e;cases e
  | some q=>
    rw[d]at e;rcases(i q (Z8 d)).2 with⟨g,a,b,f,hw,r,s,_⟩|⟨g,a,y,f,hw,_⟩
    .let e:iy j q.2∣k:=e;rw[f]at e;let e:(if g=o0 "later" then hX [a,b,vN j]else hV)∣k:=e
     split at e
     .cases e;show%[_,_,_,ρ,r|s]
     .cases e
    .let e:iy j q.2∣k:=e;rw[f]at e;cases e
inductive uD
 | mk (l m d:ku) (cs:ZH) (qs:ZN) (ms:ZB) (g:lp->lp) (ks0:hH ZB):vs=[.ref l,.ref m,.ref d]->H l<*bL cs->H m∣.lst (qs\0)->bV H cs->cC H (cs.flatMap lyr) qs-> ~~~cs<=3-> ~~~qs<=40->H d∣.dK (NmD ms g)->(∀z,z∈ms↔z∈cs.flatMap lyr)->(∀z∈ms,g z∈ms/\bJ (aQ qs) z (g z))-> ~~~ks0<=250->(∀k,k∈ks0↔k∈cI cs\/k∈cJ qs qs.length)->(∀r H' (ss:ZG),ah H H'->H r=hV->H' r∣.lst (ss\0)->aE H' ss->a9 (aQ qs) ks0 (ss\2)->(∀k∈ss\2,dS ms k)-> ~~~ss<=250->Q (.ref r) H')->uD vs H Q E0
def xX(T:Txt K mg):Cal P w K mg base 3 "_law_links" ["_law_cuts_here","_law_sayings","_law_homes_here"] uD:=by
 .exists T.bG,d9,a3,hr,%[l,m,d,cs,qs,ms,g,c,rfl,hl,hm,ca,sa,c3,ak,hd,mem,lg,a1,N|kk];show%[_,%["KCF3]_CSUG]|A0A1BgMJ4MJ5MJ6cEym3bAW24AW25A6BEH,]}A3B",d9.nd|hr]|?_]
  change aR _ _ _ [!l,!m,!d,hV,hV,hV,hV] H;show aj λD1 k1 _=>?_
  lk;intro L hL;let O:=ah.Qa (o:= .dT []) hL;show k1 _ _ (aj λD2 k2 _=>ay λa2 hK=>?_);lk;show%[l,m,cs,qs,_,ρ,O _ _ hl,O _ _ hm,(λp hp=>%[O _ _ (ca p hp).1|(ca p hp).2]),(λq hq=>%[O _ _ (sa q hq).1|(sa q hq).2]),c3,ak|λr H1 ts s1 B tt te=>%[%[_|Qb.of B]|hK _ _ ?_]];let al:=O.trans s1;let G:=s1 _ _ (show Qa H L (.dT []) L∣.dT [] from aa);let I:∀k,k∈ts\2↔k∈c:=λk=>by rw[te,Yt,N]
  let tok:∀k∈c,dS ms k:=λk j=>by
   let%[a,b,z,e,U|Y]:=AY ca sa ((N k).mp j);show%[a,b,z,e,(mem a).mpr U|(mem b).mpr Y]
  let an:r≠L:=λe=>by rw[e,G]at B;cases B
  let ab:∀n k,k∈((ts.take n)\2).map (je g)->k∈c.map (je g):=λn k j=>by
   let%[t,M|e]:=Xp j;show Xq %[t,(I t).mp ((VM _ (Vl n ts)) M)|e]
  let tm: ~~~(ts\0)= ~~~ts:=Z6 _;show bF (λi σ H'=>∃o4 o5 o6,σ=[!l,!m,!d,!L,o4,o5,o6]/\ah H H'/\(∀b o,b≠L->H1 b∣o->H' b∣o)/\∃u,H' L∣.dT u/\j6 u λk=>k∈((ts.take i)\2).map (je g))
   %[_,_,_,rfl,al,(λb o _ e=>e),[],G,[],rfl,X3|λk=>OK] (λi σ H' ⟨_,_,_,_,_,q,_⟩=>q _ _ an B) ?_ ?_
  .intro i t σ H2 M %[o4,o5,o6,rfl,s2,sx,u,J|v];let ac:=Z8 M;let%[a,b,z,et,U|Y]:=tok _ ((I t.2).mp (Xq %[t,ac|rfl]));let C:=(tt t ac).2;rw[et]at C;let st:=SqT.of (K:=K) (sx _ _ (λe=>by rw[e,G]at C;cases C) C);let as:=s2 _ _ hd;let get:∀y∈ms,b8 H2 d (.str y) (hX (.str (g y))):=λy hy=>by
    let:=b8.k (k:=kG y) as;rw[iA hy]at this;show this
   show%[_,st,ρ,_,_,ρ,_,_,ρ,_,_,ρ,ρ|?_];change pc _ _ _ _ [!l,!m,!d,!L,-a,-b,-z] H2;show aA λD3 k3 _=>?_
   lk;show%[_,get a U,_,get b Y,#[3]|λp hp=>?_];let sp:=ah.Qa (o:= .tup [V.str (g a),V.str (g b),V.str z]) hp;let a0:=Hs v (ab i);rw[Z6]at a0;show%[_,gK.t (k:=(je g [a,b,z]).map kG) (sp _ _ J) (by rw[aa];rfl) (by rw[PySem.sizeLine_eq];lia)|k3 _ _ %[_,_,_,ρ,λb o e=>by rw[aq (ax e hL)];show sp _ _ (s2 _ _ e),(λb o n e=>by rw[aq n];show sp _ _ (sx b o n e)),_,aa|Fs v _ _ λk=>?_]];rw[Xa,M,Zd,Zd,Yt,<-et];show Rw OK Yy
  .intro σ H2 %[o4,o5,o6,rfl,s2,sx,u,J|v];rw[Xd]at v;show k2 _ _ ?_;lk;let%[ks,q1,q2|q3]:=v;let q3:∀k,k∈ks↔k∈c.map (je g):=λk=>by
    show(q3 k).trans ?_;dsimp only;rw[Pm,Pm];show UZ λt=>T6 λ_=>I t
   let lk:=qP tok (λz hz=>(lg z hz).2);let few: ~~~ks<=250:=by
    let:=_ST.nodup_sub q2 (m:=c.map (je g)) λk j=>(q3 k).mp j
    rw[Z6]at this
    lia
   let ae:∀k∈ks,dS ms k:=λk j=>by
    let%[t,M|rfl]:=Xp ((q3 k).mp j);let%[a,b,z,rfl,U|Y]:=tok t M;show%[_,_,_,ρ,(lg a U).1|(lg b Y).1]
   let h3:∀k∈ks,~~~k=3:=λk j=>by
    let%[a,b,z,rfl|_]:=ae k j;rfl
   show%[u,J,ks,q1,3,h3,!1,⋯|λr ss ag ta pm=>?_];let s3:=ah.Qa (o:= .lst (ss\0)) ag;show kk r _ ss (s2.trans s3) (s2.free ag) aa (az ta λb z e=>s3 _ _ e) %[pm.nodup_iff.mpr q2|λk=>by rw[pm.mem_iff,q3,lk]] (λk j=>ae k (pm.mem_iff.mp j)) (by let:=pm.length_eq;rw[Z6]at this;lia)
def Hu{a:ZB}{g h:lp->V}{z:lp}(b:z∉a)(e:∀x∈a,h x=g x):dc (VD a g) (kG z) (h z)=VD (a++[z]) h:=by
 rw[dX _ (ii b)];unfold VD;rw[Zd];show sU (·++_) (Yp λx c=>by rw[e x c])
abbrev sc2(t:ku×ZB):lp:=t.2.getD 1 Mi
abbrev StB(H:Hp)(d:ku)(ss:ZG):Prop:=∃a,H d∣.dK a/\∀n:lp,(∃l,bX a (kG n)∣.ref l/\H l∣.lst (((ss.filter λt=>decide (t.2[0]? =hX n)).map sc2)\3))\/(bX a (kG n)=hV/\∀t∈ss,t.2[0]? ≠hX n)
def StB.up{H e:Hp}{d:ku}{ss:hH _}(h:StB H d ss)(s:ah H e):StB e d ss:=by
 let%[c,f|g]:=h;show%[c,s _ _ f|λn=>(g n).imp_left λ⟨l,a,b⟩=>%[l,a|s _ _ b]]
def StB.at{H i:Hp}{e d q p:ku}{ss:hH _}(h:StB H e ss)(m:e≠d)(r:∃x,H d∣.dK x)(s:H q=hV)(f:∀b o,b≠d->b≠q->H b∣o->i b∣o)(u:∃x,i q<*x)(y:i p=hV)(n:lp):
 ∃g a,Qa i p (.lst []) e∣.dK g/\(bX g (kG n)).getD (.ref p)= .ref a/\Qa i p (.lst []) a∣.lst (((ss.filter λt=>decide (t.2[0]? =hX n)).map sc2)\3)/\a≠q:=by
 let%[g,z|B]:=h;let sp:=ah.Qa (o:= .lst []) y;let A:=sp _ _ (f e _ m (ax z s) z);rcases B n with⟨l,v,j⟩|⟨v,C⟩
 .show⟨g,l,A,by rw[v];rfl,sp _ _ (f l _ (λc=>by let%[x|r]:=r;rw[c,r]at j;cases j) (ax j s) j),ax j s⟩
 .show%[g,p,A,by rw[v];rfl,?_|λc=>by let%[x|e]:=u;rw[<-c,y]at e;cases e];rw[O4.mpr λt E c=>C t E (Zo c)];show aa
def StB.fr{H i:Hp}{e d q:ku}{ss:hH _}(h:StB H e ss)(a:e≠d)(u:∃x,H d∣.dK x)(j:H q=hV)(f:∀b o,b≠d->b≠q->H b∣o->i b∣o):StB i e ss:=by
 let%[g,m|r]:=h;show%[g,f e _ a (ax m j) m|λn=>(r n).imp_left λ⟨l,s,p⟩=>%[l,s|f l _ (λc=>!2) (ax p j) p]]
abbrev Fl(ks:hH ZB)(st:lp)(F R:ZB)(g:lp->oT)(a:oT):Prop:=∃rs b k,rs\1=F/\Lev ks st rs b k R/\a=((k:jg):oT)/\∀y∈F,g y=((b y:jg):oT)
def Ft{ks:hH ZB}{R:ZB}:∀{A:ZB},(∀y∈A,∃p∈R,Ed ks p y)->∃new:hH (lp×ku×ZB),new\1=A/\∀r∈new,r.2.2∈ks/\∃p z,p∈R/\r.2.2=[p,r.1,z]
 |[],_=>%[[],rfl|λ_ h=>nomatch h]
 | a::A,h=>by
   let%[new,e|c]:=Ft λy d=>h y (Zk _ d)
   let%[p,f,z|g]:=h a Zm;show%[(a,0,[p,a,z])::new,by rw[Yq,e]|λr b=>?_];rcases Yw.mp b with rfl|b
   .show%[g,p,z,f|ρ]
   .show c r b
def Fl.step{ks:hH _}{st:lp}{F R A:ZB}{g b:lp->oT}{a:oT}(h:Fl ks st F R g a)(nd:(F++A).Nodup)(e:∀y∈A,b y=a+1/\∃p∈R,Ed ks p y)(f:∀y∈F,b y=g y)(i:∀x∈R,∀y,Ed ks x y->y∈F++A):Fl ks st (F++A) A b (a+1):=by
 let%[rs,m,k,rfl,L,rfl|j]:=h;let%[new,rfl|l]:=Ft λy d=>(e y d).2
 let L2:=L.step (by rw[Zd];show nd) l (by rw[Zd];show i);show%[rs++new,_,k+1,Zd,L2,ρ|λy d=>?_];by_cases c:y∈new\1
 .rw[lX c,(e y c).1];rfl
 .let:=(Xn d).resolve_right c;rw[kw c,f y this,j y this]
def Fl.end_{ks:hH _}{st:lp}{F:ZB}{g:lp->oT}{a:oT}(h:Fl ks st F [] g a){y:lp}(b:y∈F):∃n:jg,g y=((n+1:jg))/\Dst ks st (n+1) y/\∀m,Dst ks st (m+1) y->n<=m:=by
 let%[rs,c,k,rfl,L,rfl|e]:=h;let%[j|f]:=L.dst b;obtain⟨n,d⟩:∃n,c y=n+1:=%[c y-1|⋯]
 show%[n,by rw[e y b,d],d▸f|λm i=>?_];let:=L.min b i
 lia
abbrev Far(ks:hH ZB)(x:lp)(F:ZB)(g:lp->oT):Prop:=∀y∈F,∃n:jg,g y=((n+1:jg):oT)/\Dst ks x (n+1) y/\∀m,Dst ks x (m+1) y->n<=m
inductive Fu
 | mk (l:ku) (st:lp) (ns:ZB) (ss:ZG):vs=[.ref l,.str st]->H l∣.lst (ss\0)->dH H ns ss-> ~~~ss<=250->(∀d H' (F:ZB) (g:lp->oT),ah H H'->H d=hV->H' d∣.dK (VD F λx=> .int (g x))->F.Nodup->(∀y,y∈F↔Rch (ss\2) st y)->Far (ss\2) st F g->Q (.ref d) H')->Fu vs H Q E0
abbrev Mq(H:Hp)(l e d:ku)(st:lp)(ss:ZG)(m:jg)(h:_LL.St)(b:Hp):Prop:=∃(r:ku) (a:oT) (i j n o c f:lx V) (R F:ZB) (g:lp->oT),h=[!l,-st,!e,i,j,n,!d,!r,hX (.int a),o,c,f]/\ah H b/\StB b e ss/\b r<*R\3/\b d∣.dK (VD F λx=> .int (g x))/\F.Nodup/\(∀y∈F,Rch (ss\2) st y)/\(∀x∈R,x=st\/x∈F)/\(∀x,(x=st\/x∈F)->x∈R\/∀y,Ed (ss\2) x y->y∈F)/\Fl (ss\2) st F R g a/\m=2*(250-F.length) +R.length.min 1
def Cv(T:Txt K mg):Cal P w K mg base 1 "_law_far" ["_law_laid","_law_one"] Fu:=by
 .exists T.bH,bA,dd,hr,%[l,st,ns,ss,rfl,hl,be,dg|kk];let dk: ~~~(ss\0)= ~~~ss:=Z6 _;show%[_,%["KCF2!CSU0gMJ3MJ4MJ5cEX~xn~y~z2A3ARBBA4BCF6!CF7RA1BCF8DC~RL~A7RBCF8Id8DCF9RBCSU7J:ESU~H~I2Ak:ARBBJ;EO~Tk;6Cy86k;EXsn9Ak;BPEF79EH6",bA.nd|hr]|?_]
  change aR _ _ _ [!l,-st,hV,hV,hV,hV,hV,hV,hV,hV,hV,hV] H;show aj λD1 k1 _=>?_
  lk;intro e fe;show k1 _ _ (aj λD2 k2 _=>ay λa1 hK=>?_);lk;let se:=ah.Qa (o:= .dK []) fe;show%[%[_|Qb.of (se _ _ hl)]|hK _ _ ?_];show bF (λj N C=>A3 (E3 λo3 o4 o5=>N=[!l,-st,!e,o3,o4,o5,hV,hV,hV,hV,hV,hV]) (ah H C) (∃O:Gs lp,A4 (jp V.str H C e O) ((O\1).Nodup) (∀g∈O,g.2.2=((ss.take j).filter λt=>decide (t.2[0]?∣g.1)).map sc2) (∀n,n∈O\1↔∃t∈ss.take j,t.2[0]?∣n)))
   %[%[_,_,_|rfl],se,[],%[aa,λg hg=>(nomatch hg)|X3],X3,(λg hg=>nomatch hg)|by simp] (λj N C h=>h.2 _ _ hl) ?_ ?_
  .intro j t N C Y %[%[o3,o4,o5|rfl],sm,O,I,gn,gf|gk];let tm:=Z8 Y;let j1:j< ~~~ss:=(Xm Y).1;let%[cx,n,y,z,et|_]:=be t tm;let hn:t.2[0]?∣n:=by rw[et];rfl
   let M:sc2 t=y:=by unfold sc2;rw[et];rfl
   let tk:ss.take (j+1)=ss.take j++[t]:=by rw[Xa,Y];rfl
   let bf:=sm _ _ cx;rw[et]at bf;show%[_,SqT.of bf,ρ,_,_,ρ,_,_,ρ,_,_,ρ,ρ|?_];change lh _ _ [!l,-st,!e,-n,-y,-z,hV,hV,hV,hV,hV,hV] C;show aA λD4 k4 _=>?_
   lk;let gl: ~~~O<= ~~~ss:=by
    let:O\1 ⊆ ss.filterMap λt=>t.2[0]? :=λy M=>by
     let%[t,Y|e]:=(gk y).mp M;show M6.mpr %[t,Yx Y|e]
    let:=_ST.nodup_sub gn λx U=>this U
    rw[Z6]at this;show nI this (Oj _ _)
   let keys:∀(a2:Gs lp),(∀y,y∈a2\1↔y∈O\1\/y=n)->∀y,y∈a2\1↔∃t∈ss.take (j+1),t.2[0]?∣y:=λa2 h y=>by
    rw[h,gk,tk]
    constructor
    .rintro(⟨t',h1,h2⟩|rfl)
     .show%[t',Yu _ h1|h2]
     .show%[t,Yv _ Zm|hn]
    .rintro⟨t',h1,h2⟩;rcases Xn h1 with q|q
     .show .inl %[t',q|h2]
     .rw[Xo q,hn]at h2;show .inr (Za h2).symm
   show%[tyD (I.at_),#[0]|λp hp=>%[kG n,ρ,gD O,?_,?_,λv hv=>?_|λhv=>?_]]
   .rw[aq (λc=>by rw[<-c,I.at_]at hp;cases hp)];show I.at_
   .unfold gD;rw[Z6];show aC ⋯
   .let%[q,hq,e1|rfl]:=fA hv;let sp:=ah.Qa (o:= .lst []) hp;let hl:=sp _ _ (I.la q hq).2;let G:=(I.up sp).add gn hq y;let ml: ~~~q.2.2<= ~~~ss:=by
     rw[gf q hq,Z6];show nI (Yi _ _) (by rw[Yl];lia)
    let ka:(ny q.1 y O)\1=O\1:=by
     unfold ny;rw[Ys];show Yp λg _=>?_
     change(if g.1=q.1 then(g.1,g.2.1,g.2.2++[y])else g).1=_
     split<;> rfl
    show%[tyL (Qb.of hl),_,hl,by rw[Z6];show aC ⋯|k4 _ _ %[%[_,_,_|ρ],ah.set (sm.trans sp) (I.la q hq).1,_,G,by rw[ka];show gn,λg hg=>?_|keys _ λy=>?_]]
    .unfold ny at hg;let%[g0,h0|rfl]:=Xp hg;rw[tk,Y2,Zd];by_cases c:g0.1=q.1
     .rw[lX c];change g0.2.2++[y]=_++(N8 (λt=>decide (t.2[0]?∣g0.1)) [t]).map sc2;rw[gf g0 h0,Y6 (by rw[hn,c,e1];simp),Y7,Yq,SB,M]
     .rw[kw c,gf g0 h0,Y4 (by rw[hn,<-e1];simpa using λz=>c z.symm),Y7,SB,Zx]
    .rw[ka];show%[.inl|λh=>h.elim id λh=>by rw[h,<-e1];show Xq %[q,hq|ρ]]
   .let nk:n∉O\1:=λh=>by
     let%[q,hq|c]:=Xp h;let:=jd hq;rw[c,hv]at this;show this rfl
    let de:e≠p:=λq=>by rw[<-q,I.at_]at hp;cases hp
    let gp:Qa (Qa C p (.lst [])) e (.dK (dc (gD O) (kG n) (.ref p))) p<*[]:=by rw[aq de.symm,aa]
    show%[tyL (Qb.of gp),[],gp,(show 0<md by decide)|k4 _ _ %[%[_,_,_|ρ],ah.set (ah.set (sm.trans (ah.Qa hp)) fe) (sm.free hp),_,I.new sm hp n y nk,?_,λg hg=>?_|keys _ λy=>?_]]
    .rw[Zd,X1];show%[gn,by simp|λa ha b hb c=>nk (by rw[<-show b=n from Xo hb,<-c];show ha)]
    .rw[tk,Y2,Zd];rcases Xn hg with q|q
     .let c:g.1≠n:=λc=>nk (by rw[<-c];show Xq %[g,q|rfl])
      rw[gf g q,Y4 (by rw[hn];simpa using λz=>c z.symm),Y7,SB,Zx]
     .rw[Xo q];change [y]=_++(N8 (λt=>decide (t.2[0]?∣n)) [t]).map sc2;rw[Y6 (by rw[hn];simp),Y7,O4.mpr λt' cy c=>nk ((gk n).mpr %[t',cy|Zo c]),Yq,M];rfl
    .rw[Zd,Yt,Yq,SB,Yy]
  .intro N C %[%[o3,o4,o5|rfl],sm,O,I,gn,gf|gk];rw[Zn (Zi _)]at gf gk;let hb:StB C e ss:=⟨_,I.at_,λn=>by
    cases hv:bX (gD O) (kG n)with
    | none=>
      show .inr %[rfl|λt Y c=>?_];let%[q,hq|c]:=Xp ((gk n).mpr %[t,Y|c]);let:=jd hq;rw[c,hv]at this;show this rfl
    | some v=>
      let%[q,hq,e1|rfl]:=fA hv;show .inl %[_,rfl|?_];rw[(I.la q hq).2,gf q hq,e1]⟩
   show k2 _ _ (aj λD3 k3 _=>?_);lk;intro d fd;let s1:=ah.Qa (o:= .dK []) fd;show k3 _ _ (aj λD4 k4 _=>?_);let bl:=hb.up s1;let bm:Qa C d (.dK []) d∣.dK (VD [] λx=> .int ((λ_=>0:lp->oT) x)):=aa;let bt:=sm.trans s1;let b0:=sm.free fd;let a3:e≠d:=λc=>by
    let%[b1,h1|_]:=hb;rw[c,fd]at h1;cases h1
   generalize Qa C d _=H1 at bl bm bt
   lk;show%[#[1]|λr0 cM=>k4 _ _ (aj λD5 k5 _=>?_)];let s2:=ah.Qa (o:= .lst [V.str st]) cM;let b2:Qa H1 r0 (.lst [V.str st]) r0<*[st]\3:=aa;let b3:=s2 _ _ bm;let b4:=bl.up s2;let b5:=bt.trans s2
   generalize Qa H1 r0 _=H2 at b5 b2 b3 b4
   lk;show k5 _ _ (aj λD6 k6 _=>?_);show%[Mq H l e d st ss,%[_,r0,0,o3,o4,o5,hV,hV,hV,[st],[],_,ρ,b5,b4,b2,b3,X3,(λ_ h=>nomatch h),(λx h=>Xo h▸ .inl rfl),(λx h=> .inl (h.elim (λh=>h▸Zm) λh=>nomatch h)),%[[],_,0,ρ,.nil,ρ|λ_ h=>nomatch h]|ρ]|?_];intro m N H3 %[r,B,o3,o4,o5,o9,ag,J,R,F,g0,rfl,s3,c0,b6,b9,Fn,Fr,c1,cl,fl|rfl];lk;let few:∀{X:ZB},X.Nodup->(∀y∈X,Rch (ss\2) st y)-> ~~~X<=250:=λ{X} xn xr=>by
    let:=_ST.nodup_sub xn (m:=ss.map sc2) λy M=>by
     let:∃a,Ed (ss\2) a y:=by
      cases xr y M with
      | one e=>show%[_|e]
      | more _ e=>show%[_|e]
     let%[a,z|L]:=this;let%[t,Y|et]:=Xp L;show Xq %[t,Y|by unfold sc2;rw[et];rfl]
    rw[Z6]at this
    lia
   show%[Xf _|λp fp=>%[R\3,ah.Qa fp _ _ b6,aa|bv (λh=>?_) λh=>?_]]
   .let R0:R≠[]:=λc=>by rw[c]at h;show n0 rfl (Zo h)
    let s4:=ah.Qa (o:= .lst []) fp;let ab:=s4 _ _ b6;let ac:=s4 _ _ b9;let an:=c0.up s4;let a4:=s3.trans s4
    generalize Qa H3 p _=H4 at ab ac an a4
    show⟨λc2 C=>∃m',m'<2*(250-F.length) +R.length.min 1/\Mq H l e d st ss m' c2 C,λ_ _ h=>h,Xf _,λq fq=>ay λa1 hK=>?_⟩;let a5:d≠q:=ax ac fq;let c3:=a4.free fq;let f0:∀b o,b≠d->b≠q->H4 b∣o->Qa H4 q (.lst []) b∣o:=λb o _ n e=>by rw[aq n];show e
    let ca:Qa H4 q (.lst []) q<*([]:ZB)\3:=aa;let cd:Qa H4 q (.lst []) d∣.dK (VD (F++[]) λx=> .int (g0 x)):=by rw[aq a5,Zx];show ac
    let ce:=a4.trans (ah.Qa (o:= .lst []) fq);let ch:r≠d:=λc=>by rw[c,ac]at ab;cases ab
    let co:r≠q:=ax ab fq
    generalize Qa H4 q _=H5 at f0 ca cd ce
    lk;show%[%[_|Qb.of (f0 _ _ ch co ab)]|hK _ _ ?_];let Rm: ~~~(R\3)= ~~~R:=Z6 _;show bF (λi N C=>E4 λ(ag J:lx V) (A:ZB) (g:lp->oT)=>A9 (N=[!l,-st,!e,o3,o4,o5,!d,!r,hX (.int (B+1)),!q,ag,J]) (ah H C) (∀b o,b≠d->b≠q->H4 b∣o->C b∣o) (C q<*A\3) (C d∣.dK (VD (F++A) λx=> .int (g x))) ((F++A).Nodup) (∀y∈A,Rch (ss\2) st y/\g y=B+1/\∃p∈R,Ed (ss\2) p y) (∀y∈F,g y=g0 y) (∀x∈R.take i,∀y,Ed (ss\2) x y->y∈F++A))
     %[_,_,[],g0,rfl,ce,f0,ca,cd,by rw[Zx];show Fn,(λ_ h=>nomatch h),(λ_ _=>rfl)|λ_ h=>nomatch h] (λi N C ⟨_,_,_,_,_,_,f,_,_,_,_,_,_⟩=>f _ _ ch co ab) ?_ ?_
    .intro i n N H6 hn %[ag,J,A,g,rfl,s6,f6,as,a6,An,Ar,Ao|Ad];let tk:R.take (i+1)=R.take i++[n]:=by rw[Xa,hn];rfl
     let nR:n=st\/Rch (ss\2) st n:=(c1 n (Z8 hn)).imp id (Fr n);change uG _ _ _ _ [!l,-st,!e,o3,o4,o5,!d,!r,hX (.int (B+1)),!q,-n,J] H6;show aA λD7 k7 _=>ay λa1 hK=>?_
     lk;let%[dn,cp|_]:=id an;show%[tyD (f6 e _ a3 (ax cp fq) cp),#[0]|λp2 cs=>?_];let%[b1,a,ct,c4,ae|c5]:=an.at a3 %[_|ac] fq f6 %[_|as] cs n;let sp:=ah.Qa (o:= .lst []) cs;let cv:=sp _ _ as;let bb:=sp _ _ a6;let s7:=s6.trans sp;let f7:∀b o,b≠d->b≠q->H4 b∣o->Qa H6 p2 (.lst []) b∣o:=λb o n1 n2 e=>sp _ _ (f6 b o n1 n2 e)
     let c6:a≠d:=λc=>by rw[c,bb]at ae;cases ae
     generalize Qa H6 p2 _=H7 at ct ae cv bb s7 f7
     show%[kG n,ρ,b1,ct|vE c4 %[%[_|Qb.of ae]|hK _ _ ?_]];let yI:∀y,y∈(ss.filter λt=>decide (t.2[0]?∣n)).map sc2↔Ed (ss\2) n y:=λy=>by
      rw[Pm]
      constructor
      .rintro⟨t,Y,rfl⟩;let%[h1|h2]:=ow.mp Y;let%[_,x,y,z,et|_]:=be t h1;let h2:=Zo h2;rw[et]at h2;obtain rfl:x=n:=Za h2;show%[z|Xq %[t,h1|by unfold sc2;rw[et];rfl]]
      .rintro⟨z,L⟩;let%[t,Y|et]:=Xp L;show%[t,ow.mpr %[Y|Zf (by rw[et];rfl)]|by unfold sc2;rw[et];rfl]
     generalize (ss.filter λt=>decide (t.2[0]?∣n)).map sc2=ys at ae yI
     let ym: ~~~(ys\3)= ~~~ys:=Z6 _;show bF (λj N C=>E3 λ(J:lx V) (A:ZB) (g:lp->oT)=>A11 (N=[!l,-st,!e,o3,o4,o5,!d,!r,hX (.int (B+1)),!q,-n,J]) (ah H C) (∀b o,b≠d->b≠q->H4 b∣o->C b∣o) (C a<*ys\3) (C q<*A\3) (C d∣.dK (VD (F++A) λx=> .int (g x))) ((F++A).Nodup) (∀y∈A,Rch (ss\2) st y/\g y=B+1/\∃p∈R,Ed (ss\2) p y) (∀y∈F,g y=g0 y) (∀x∈R.take i,∀y,Ed (ss\2) x y->y∈F++A) (∀y∈ys.take j,y∈F++A))
      %[_,A,g,rfl,s7,f7,ae,cv,bb,An,Ar,Ao,Ad|λ_ h=>nomatch h] (λj N C ⟨_,_,_,_,_,_,h,_,_,_,_,_,_,_⟩=>h) ?_ ?_
     .intro j y N H8 M %[J,A,g,rfl,s8,f8,bc,a0,ak,An,Ar,Ao,Ad|Aj];let tj:ys.take (j+1)=ys.take j++[y]:=by rw[Xa,M];rfl
      let yR:Rch (ss\2) st y:=by
       let e:=(yI y).mp (Z8 M);rcases nR with rfl|h
       .show .one e
       .show .more h e
      let al:=few An λz L=>(Xn L).elim (Fr z) λh=>(Ar z h).1
      let vl: ~~~(VD (F++A) λx=>V.int (g x))<md:=by unfold VD;rw[Z6];show aC ⋯
      change j8 _ _ _ _ [!l,-st,!e,o3,o4,o5,!d,!r,hX (.int (B+1)),!q,-n,-y] H8;show aA λD8 k8 _=>?_
      lk;show%[_,b8.k (k:=kG y) ak|bv (λc=>?_) λc=>?_]
      .let yn:y∉F++A:=λh=>by rw[iB h]at c;cases c
       let P:=gK.k (k:=kG y) (v:= .int (B+1)) ak vl;let da:q≠d:=I0 a5;let cw:=(aq (o:= .dK (dc (VD (F++A) λx=>V.int (g x)) (kG y) (V.int (B+1)))) da).trans a0;let vd:=Hu (g:=λx=>V.int (g x)) (h:=λx=>V.int (if x=y then B+1 else g x)) yn λx U=>by
        change V.int (if x=y then B+1 else g x)=V.int (g x);rw[kw (λc:x=y=>yn (c▸U))]
       rw[lX rfl]at vd;show%[_,P,tyL (Qb.of cw),_,cw,by rw[Z6];rw[Z9]at al;show aC ⋯|k8 _ _ %[_,A++[y],λx=>if x=y then B+1 else g x,ρ,ah.set (ah.set s8 b0) c3,(λb o n1 n2 e=>by rw[aq n2,aq n1];show f8 b o n1 n2 e),by rw[aq c5,aq c6];show bc,by rw[aa,Zd];rfl,by rw[aq a5,aa,vd,Ze],?_,(λz L=>?_),(λz L=>?_),(λx U z e=>?_)|λz L=>?_]]
       .rw[<-Ze,X1];show%[An,by simp|λa ha b hb e=>yn (by rw[<-Xo hb,<-e];show ha)]
       .rcases Xn L with u|u
        .show%[(Ar z u).1,(kw λc:z=y=>yn (c▸Yv _ u)).trans (Ar z u).2.1|(Ar z u).2.2]
        .rw[Xo u];show%[yR,lX rfl,n,Z8 hn|(yI y).mp (Z8 M)]
       .show(kw λc:z=y=>yn (c▸Yu _ L)).trans (Ao z L)
       .rw[<-Ze];show Yu _ (Ad x U z e)
       .rw[<-Ze];rw[tj]at L;rcases Xn L with u|u
        .show Yu _ (Aj z u)
        .show Yv _ u
      .let yn:y∈F++A:=Nu λh=>by rw[ii h]at c;show c rfl
       show k8 _ _ %[_,A,g,rfl,s8,f8,bc,a0,ak,An,Ar,Ao,Ad|λz L=>?_];rw[tj]at L;rcases Xn L with u|u
       .show Aj z u
       .rw[Xo u];show yn
     .intro N H8 %[J,A,g,rfl,s8,f8,bc,a0,ak,An,Ar,Ao,Ad|Aj];rw[Xd]at Aj;show k7 _ _ %[_,_,A,g,rfl,s8,f8,a0,ak,An,Ar,Ao|λx U y e=>?_];rw[tk]at U;rcases Xn U with z|z
      .show Ad x z y e
      .rw[Xo z]at e;show Aj y ((yI y).mpr e)
    .intro N H6 %[ag,J,A,g,rfl,s6,f6,as,a6,An,Ar,Ao|Ad];rw[Xd]at Ad;let al:=few An λz L=>(Xn L).elim (Fr z) λh=>(Ar z h).1
     rw[Z9]at al;let rp:R.length.min 1=1:=Sm (NF.mpr R0);dsimp only;lk;show%[_,?_,q,B+1,o3,o4,o5,_,ag,J,A,F++A,g,ρ,s6,an.fr a3 %[_|ac] fq f6,as,a6,An,(λy M=>(Xn M).elim (Fr y) λh=>(Ar y h).1),(λx U=> .inr (Yv _ U)),(λx U=>?_),fl.step An (λy M=>(Ar y M).2) Ao Ad|ρ]
     .rw[Z9,rp];cases A with
      | nil=>simp
      | cons a A=>
        rw[Zr]at al ⊢;let:(~~~A+1).min 1=1:=Sm ⋯
        lia
     .by_cases hA:x∈A
      .show .inl hA
      .show .inr λy e=>?_
       rcases cl x (U.imp id λh=>(Xn h).resolve_right hA)with h|h
       .show Ad x h y e
       .show Yu _ (h y e)
   .let R0:R=[]:=by
     let:=h;cases R with
     | nil=>rfl
     | cons a R=>show n0 (Zf ∅) h
    subst R0;let s4:=ah.Qa (o:= .lst []) fp;show k6 _ _ ?_;lk;show kk d _ F g0 (s3.trans s4) b0 (s4 _ _ b9) Fn (λy=>%[Fr y|λr=>?_]) λy M=>fl.end_ M
    show r.closed (R:=(·∈F)) ((cl st (.inl rfl)).resolve_left λh=>nomatch h) λx y U e=>((cl x (.inr U)).resolve_left λh=>nomatch h) y e
structure Ben (H:Hp) (ks:hH ZB) (rs:Gs lp):Prop where
 nd:(rs\1).Nodup
 at_:∀r∈rs,(∃g:lp->oT,H r.2.1∣.dK (VD r.2.2 λx=> .int (g x))/\Far ks r.1 r.2.2 g)/\r.2.2.Nodup/\∀y,y∈r.2.2↔Rch ks r.1 y
structure BeF (H:Hp) (ks:hH ZB) (d:ku) (rs:Gs lp):Prop where
 at_:∃o,H d∣.frz o (.dK (gD rs))
 nd:(rs\1).Nodup
 in_:∀r∈rs,(∃g:lp->oT,H r.2.1∣.dK (VD r.2.2 λx=> .int (g x))/\Far ks r.1 r.2.2 g)/\r.2.2.Nodup/\∀y,y∈r.2.2↔Rch ks r.1 y
def BeF.up{H a:Hp}{ks:hH ZB}{d:ku}{rs:Gs lp}(h:BeF H ks d rs)(s:ah H a):BeF a ks d rs:=
 %[h.at_.imp λo e=>s _ _ e,h.nd|λr b=>%[(h.in_ r b).1.imp λg ⟨e,q⟩=>%[s _ _ e|q]|(h.in_ r b).2]]
inductive AZ
 | mk (l d:ku) (ns ms:ZB) (ss:ZG) (f:lp->lp):vs=[.ref l,.ref d]->H l∣.lst (ss\0)->dH H ns ss-> ~~~ss<=250->H d∣.dK (NmD ms f)-> ~~~ms<=63->(∀b H' (rs:Gs lp),ah H H'->H b=hV->H' b∣.dK (gD rs)->Ben H' (ss\2) rs->(∀r∈rs,r.2.1≠b/\H r.2.1=hV)->(∀x,x∈rs\1↔∃z∈ms,f z=x)->Q (.ref b) H')->AZ vs H Q E0
inductive Fv
 | mk (l d:ku) (ns ms:ZB) (ss:ZG) (f:lp->lp):vs=[.ref l,.ref d]->H l∣.lst (ss\0)->dH H ns ss-> ~~~ss<=250->H d∣.dK (NmD ms f)-> ~~~ms<=63->(∀b H' (rs:Gs lp),ah H H'->BeF H' (ss\2) b rs->(∀x,x∈rs\1↔∃z∈ms,f z=x)->Q (.ref b) H')->Fv vs H Q E0
def qV(T:Txt K mg):Cal P w K mg base 2 "_law_beneath" ["_law_laid","_law_homes_here"] AZ:=by
 show T.bI.cal gB (λH vs Q E h=>?_)
 .let%[l,d,ns,ms,ss,f,rfl,hl,ab,ac,hd,ak|kk]:=h;show%[ρ|λ_ an A outer s q=>?_];show%[_,%["KCF2!CSU,][A~4~51BJ3EO~T32EyG]0A0A3B23PEH2",gB.nd|q]|?_]
  change aR _ _ _ [!l,!d,hV,hV] H;show aj λD1 k1 _=>?_
  lk;intro b fb;let s1:=ah.Qa (o:= .dK []) fb;let J:Qa H b (.dK []) b∣.dK (gD ([]:Gs lp)):=aa;show k1 _ _ (aj λD2 k2 _=>ay λal hK=>?_)
  generalize Qa H b _=H1 at s1 J
  lk;let y:=s1 _ _ hd;show%[tyD y,%[_|y]|λv fv=>%[d,?_,_,ah.Qa fv _ _ y,ms.map f,by unfold NmD;rw[Ys,Ys];rfl,by rw[Z6];lia|λz zs fz pz _=>?_]]
  .show aa
  let s2:=(ah.Qa (o:=lL v d) fv).trans (ah.Qa (o:= .lst (zs\3)) fz);let m:Qa (Qa H1 v (lL v d)) z (.lst (zs\3)) z<*zs\3:=aa;let L:=s1.trans s2;let B:=s2 _ _ J
  generalize Qa (Qa H1 v (lL v d)) z _=H2 at s2 m L B
  let zl: ~~~zs<=100:=by rw[pz.length_eq,Z6];lia
  let ae:z≠b:=λc=>by rw[c,B]at m;cases m
  let zm: ~~~(zs\3)= ~~~zs:=Z6 _;show%[%[_|Qb.of m]|hK _ _ (bF (λi U M=>E2 λ(o3:lx V) (rs:Gs lp)=>A8 (U=[!l,!d,!b,o3]) (ah H M) (M z<*zs\3) (M b∣.dK (gD rs)) (Ben M (ss\2) rs) (∀r∈rs,r.2.1≠b/\H r.2.1=hV) (∀x,x∈rs\1↔x∈zs.take i) (~~~rs<=i))
   %[_,[],ρ,L,m,B,%[X3|λ_ h=>(nomatch h)],(λ_ h=>nomatch h),(λx=>OK)|Zi _] (λi U M ⟨_,_,_,_,h,_,_,_,_,_⟩=>h) ?_ ?_)]
  .intro i n U H3 hn %[o3,rs,rfl,C,G,j,p,N,I|rl];let il:=(Xm hn).1;let tk:zs.take (i+1)=zs.take i++[n]:=by rw[Xa,hn];rfl
   change j8 _ _ _ _ [!l,!d,!b,-n] H3;show aA λD3 k3 _=>?_
   lk;show%[_,b8.k (k:=kG n) j|bv (λc=>?_) λc=>?_]
   .let Y:n∉rs\1:=λh=>by
     let%[r,q|e]:=Xp h;let:=jd q;rw[e]at this;cases hv:bX (gD rs) (kG n)with
     | none=>show this hv
     | some v=>rw[hv]at c;cases c
    show%[l,n,ns,ss,ρ,C _ _ hl,ab.up C,ac|λe H4 F g s4 fe he Fn Fr Ff=>?_];let ag:=s4 _ _ j;let O:e≠b:=λc=>by rw[c,j]at fe;cases fe
    let nv:bX (gD rs) (kG n)=hV:=mI Y;let pk:dc (gD rs) (kG n) (.ref e)=gD (rs++[(n,e,F)]):=by
     rw[dX _ nv];unfold gD;rw[Zd];rfl
    show%[_,gK.k (k:=kG n) (v:= .ref e) ag (by unfold gD;rw[Z6];show aC ⋯)|k3 _ _ %[_,rs++[(n,e,F)],ρ,ah.set (C.trans s4) fb,(aq ae).trans (s4 _ _ G),by rw[aa,pk],%[?_|λr q=>?_],λr q=>?_,λx=>?_|by rw[Z9];show X9 rl]]
    .rw[Zd,X1];show%[p.nd,by simp|λa ha b hb e=>Y (by rw[<-show b=n by simpa using hb,<-e];show ha)]
    .rcases Xn q with u|u
     .let%[%[g,e1|ef]|r2]:=p.at_ r u;show%[%[g,by rw[aq (N r u).1];show s4 _ _ e1|ef]|r2]
     .rw[Xo u];show%[%[g,by rw[aq O];show he|Ff],Fn|Fr]
    .rcases Xn q with u|u
     .show N r u
     .rw[Xo u];show%[O|C.free fe]
    .rw[Zd,Yt,I,tk,Yt];show Rw OK ∅
   .show k3 _ _ %[_,rs,rfl,C,G,j,p,N,λx=>?_|⋯];let Y:n∈rs\1:=Nu λh=>by rw[mI h]at c;show c rfl
    rw[I,tk,Yt];show%[.inl|λh=>h.elim id λh=>by rw[Xo h];show(I n).mp Y]
  .intro U H3 %[o3,rs,rfl,C,G,j,p,N,I|rl];rw[Xd]at I;show k2 _ _ ?_;lk;show kk b H3 rs C fb j p N λx=>by rw[I,pz.mem_iff,Pm]
def rZ(T:Txt K mg):Cal P w K mg base 2 "_law_beneath" ["_law_laid","_law_homes_here"] Fv:=by
 show(qV T).freeze.imp λvs H Q E zqw=>?_;let%[l,d,m,p,ss,f,s,u,v,y,z,A|B]:=zqw;show %[l,d,m,p,ss,f,s,u,v,y,z,A|λb j rs C G I a J L=>%[[b]|λM=>?_]]
 let out:∀c,c≠b->qa [b] M j c=j c:=λc n=>qb λh=>n (Xo h)
 show B b _ rs (λc o e=>(out c (ax e G)).trans (C _ _ e)) %[%[_|oR Zm I],a.nd|λr i=>%[(a.at_ r i).1.imp λg ⟨e,q⟩=>%[(out _ (J r i).1).trans e|q]|(a.at_ r i).2]] L
def nA{M:ZB}{g:lp->V}{y:lp}:(bX (VD M g) (kG y)).isSome=hY↔y∈M:=by
 by_cases c:y∈M
 .rw[iB c];simp[c]
 .rw[ii c];simp[c]
def BeF.get{H:Hp}{ks:hH ZB}{d:ku}{rs:Gs lp}(h:BeF H ks d rs){x:lp}(b:x∈rs\1):∃a M,b8 H d (.str x) (hX (.ref a))/\(∃g:lp->oT,H a∣.dK (VD M λx=> .int (g x))/\Far ks x M g)/\M.Nodup/\∀y,y∈M↔Rch ks x y:=by
 let%[o|c]:=h.at_;let%[r,e,rfl|f]:=kW b;show%[r.2.1,r.2.2,.inl %[_,kG r.1,.inr %[o|c],ρ|f.symm]|h.in_ r e]
inductive xY
 | mk (b:ku) (ks:hH ZB) (rs:Gs lp):vs=[.ref b]->BeF H ks b rs-> ~~~rs<=1000->(∀H' v,ah H H'->(v=hY↔∃x∈rs\1,Rch ks x x)->Q (.bl v) H')->xY vs H Q E0
def qW(T:Txt K mg):Cal P w K mg base 1 "_law_has_ring" ["_law_beneath_here"] xY:=by
 .exists T.bJ,oB,ab,j,%[b,ks,rs,rfl,L,rl|kk];let%[o|z]:=L.at_;show%[_,%["KEHl~Aqi?1]DT0a0?2z~a0WT100RB",0,↑(["_law_deposit","_law_beneath_here"],[(1,0)]),↑["_law_deposit","_law_beneath_here"]|j]|?_];change iP _ _ [!b] H;lk;show aL λN hK=>?_
  unfold Au;lk;show%[_,_,z|hK _ _ λF O=>?_];let gl: ~~~(gD rs)= ~~~rs:=Z6 _;show dJ (J:=Itk b o (gD rs)) (n:= ~~~(gD rs)) (D:=F) (λi ts B m=>A5 (∃U,B=[U,!b]) (ah H m) (m F<*ts) (~~~ts<=i) (ts≠[]↔∃r∈rs.take i,Rch ks r.1 r.1))
   %[%[hV|rfl],ah.Qa O,aa,Zi _|by simp] (λi _ _ m hi ⟨_,d,_,_,_⟩=>%[d _ _ z|hi]) (λ_ _ m ⟨_,d,_,_,_⟩=>%[d _ _ z|Zi _]) ?_ ?_
  .intro i ts B m hi %[%[U|rfl],d,e,Y|y] x H2 %[e2,k,v,hk|C];subst e2;let il:i< ~~~rs:=by lia
   obtain⟨r,l⟩:∃r,rs[i]?∣r:=%[_|Z4 il]
   let G:(gD rs)[i]?∣(kG r.1,V.ref r.2.1):=by unfold gD;rw[Zl,l];rfl
   rw[G]at hk;cases hk;obtain rfl:x=V.str r.1:=C;let%[a,M,ga,%[g,ha|_],_|hM]:=(L.up d).get (Xq %[r,Z8 l|rfl]);let tk:rs.take (i+1)=rs.take i++[r]:=by rw[Xa,l];rfl
   lk;show%[_,ga,_,.inl %[_,kG r.1,.inl ha,ρ|ρ]|bv (λc=>CK.mk hi e (aC ⋯) %[%[_|ρ],ah.set d O,aa,by rw[Z9];show X9 Y|?_]) λc=>CN.mk hi %[%[_|ρ],d,e,⋯|?_]]
   .rw[tk];show%[λ_=>%[r,Yv _ Zm|(hM _).mp (nA.mp c)]|λ_=>by simp]
   .rw[y,tk];show%[λ⟨q,I,h⟩=>%[q,Yu _ I|h]|λ⟨q,I,h⟩=>?_];rcases Xn I with u|u
    .show%[q,u|h]
    .rw[Xo u]at h;show(c (nA.mpr ((hM _).mpr h))).elim
  .intro ts B m %[_,d,e,Y|y];rw[gl,Xd]at y;show%[Xf _|λp hp=>%[ts,ah.Qa hp _ _ e,aa|kk _ _ (d.trans (ah.Qa hp)) ?_]];rw[NG,y];show%[λ⟨r,j,h⟩=>%[r.1,Xq %[r,j|ρ]|h]|λ⟨x,C,h⟩=>by let%[r,j|rfl]:=Xp C;show%[r,j|h]]
inductive qX
 | mk (l m:ku) (a b:lp) (ws ss:ZG):vs=[.ref l,.ref m,.str a,.str b]->H l∣.lst (ws\0)->aE H ws->H m∣.lst (ss\0)->aE H ss->(∀t∈ws,t.2∈ss\2)->Wal (ws\2) a b-> ~~~ws<=300->(∀H',ah H H'->Q (.bl hY) H')->qX vs H Q E0
def Fw{b:lp}{us:hH ZB}{i:jg}{k:ZB}{x:lp}(a:us[i]?∣k)(h:Wal (us.drop i) x b):∃y z,k=[x,y,z]/\Wal (us.drop (i+1)) y b:=by
 rw[Zy (Xm a).1]at h;let%[c,z,e|h]:=h;rw[(Xm a).2]at e;show%[c,z,e|h]
def jS(T:Txt K mg):Cal P w K mg base 1 "_law_is_chain" ["_law_found","_law_laid","_law_one","_law_other"] qX:=by
 .exists T.bK,cm,a1,Y,%[l,m,a,b,ws,ss,rfl,r,hw,hm,hs,sub,ab,wl|kk];show%[_,%["KCOhpoZwxA0A?1BvL~Aqi?2U0a0?3zL]10T10RBEHmPCOL~Aqi?4U0a0?5zoZwxA0A?6B0RBEHmPCF42CSU0gMJ5MJ6MJ7cCOL+54EHmPEF46EHlj43",cm.nd,(blE (v:= .ty "list") rfl T.a5 QL rfl rfl rfl),↑(["_law_link","_law_laid"],[(1,1)]),↑["_law_link","_law_laid"],↑(["_law_link"],[]),↑["_law_link"],(blE (v:= .ty "tuple") rfl T.ag Sk rfl rfl rfl)|Y]|?_]
  change aR _ _ _ [!l,!m,-a,-b,hV,hV,hV,hV] H;show aj λD1 k1 r1=>?_
  lk;show%[_,.lst r,hY,ρ|?_];show mT ?_;show aL λa0 hK=>?_
  lk;show%[%[_|Qb.of r]|hK _ _ λE2 ac=>?_];show cN (λj vs d c=>A4 (∃u,d=[u,!m]) (ah H c) (c E2<*vs) (vs=[]))
   %[%[hV|rfl],ah.Qa ac,aa|rfl] (λ_ _ _ c ⟨_,g,_,_⟩=>g _ _ r) ?_ ?_
  .intro j vs d H2 B %[%[u|rfl],g,n|rfl];lk;let C:=Yd B;show%[ws[j].2,g _ _ (hw _ C).2,ss,g _ _ hm,(λt M=>g _ _ (hs t M).2),sub _ C|CN.mk B %[%[_|ρ],g,n|ρ]]
  intro vs d H1 %[_,s1,ae|rfl];show%[Xf _|λp G=>%[[],ah.Qa G _ _ ae,aa|?_]];rw[kw ∅];let N:=s1.trans (ah.Qa (o:= .lst []) G)
  generalize Qa H1 p _=H2 at N
  show k1 _ _ (aj λD2 k2 r2=>?_);lk;show aL λag ak=>?_
  lk;let I:=N _ _ r;show%[%[_|Qb.of I]|ak _ _ λE3 q=>?_];show cN (λj vs d c=>A4 (∃u,d=[u]) (ah H2 c) (c E3<*vs) (vs=[]))
   %[%[hV|rfl],ah.Qa q,aa|rfl] (λ_ _ _ c ⟨_,g,_,_⟩=>g _ _ I) ?_ ?_
  .intro j vs d H3 B %[%[u|rfl],g,n|rfl];lk;show%[_,.tup ((N.trans g) _ _ (hw _ (Yd B)).2),hY,ρ|mT (CN.mk B %[%[_|ρ],g,n|ρ])]
  intro vs d H3 %[_,s3,q|rfl];show%[Xf _|λp G=>%[[],ah.Qa G _ _ q,aa|?_]];rw[kw ∅];let O:=(N.trans s3).trans (ah.Qa (o:= .lst []) G)
  generalize Qa H3 p _=H4 at O
  show k2 _ _ (aj λD3 k3 r3=>?_);lk;show k3 _ _ (aj λD4 k4 r4=>ay λal an=>?_);lk;let J:=O _ _ r;show%[%[_|Qb.of J]|an _ _ ?_];show bF (us:=ws) (f:=λt=>V.ref t.1) (λi d c=>c=H4/\∃(x:lp) (o5 o6 o7:lx V),d=[!l,!m,-a,-b,-x,o5,o6,o7]/\Wal ((ws.map λt:ku×ZB=>t.2).drop i) x b) %[rfl,a,_,_,_,rfl|ab] (λi d c h=>h.1▸J) ?_ ?_
  .intro i t d c M %[e,x,o5,o6,o7,rfl|U];subst e;let%[y,z,et|as]:=Fw (k:=t.2) (by rw[Zl,M];rfl) U;let L:=O _ _ (hw t (Z8 M)).2;rw[et]at L;show%[_,SqT.of L,ρ,_,_,ρ,_,_,ρ,_,_,ρ,ρ|?_];change aR _ _ _ [!l,!m,-a,-b,-x,-x,-y,-z] c;show aj λD5 k5 r5=>?_
   lk;rw[kw ∅];show k5 _ _ ?_;lk;show as
  .intro d c %[e,x,o5,o6,o7,rfl|U];subst e;rw[Oz (by rw[Z6];show Zi _)]at U;obtain rfl:x=b:=U;show k4 _ _ ?_;lk;rw[Zf trivial];show kk _ O
def xZ{h:Type}{f:h->ZB}{nm:h->lp}:∀{xs:hH h},(xs.map nm).Nodup->(∀p∈xs,(f p).Nodup)->(∀p∈xs,∀x∈f p,∃c,x=lnS (nm p) (sgn c))->(xs.flatMap f).Nodup
 |[],_,_,_=>X3
 | p::xs,i,m,j=>by
   rw[Yq,NE]at i;rw[PH,X1];show%[m p Zm,xZ i.2 (λq g=>m q (Zk _ g)) (λq g=>j q (Zk _ g))|λa n b o e=>?_];let%[q,g|l]:=ME.mp o;let%[c|r]:=j p Zm a n;let%[d|s]:=j q (Zk _ g) b l;show i.1 (Xq %[q,g|(qK (r.symm.trans (e.trans s))).symm])
def Cw(p:ku×lp×ZB):(lyr p).Nodup:=by
 unfold lyr;rw[X2,X8];show Xh (λ{x y} b e a f=>?_) (X2.mp (dj ((cU p.2.2).map sgn)));let%[c,_|rfl]:=kR b;let%[d,_|rfl]:=kR e;show a (by rw[vP f])
def vX{cs:ZH}(b:(cs.map λp=>p.2.1).Nodup){a:ZB}(h:a.Perm (cs.flatMap lyr)):a.Nodup:=by
 rw[h.nodup_iff];show xZ (nm:=λp:ku×lp×ZB=>p.2.1) b (λp _=>Cw p) λp d x c=>E9 c
structure qY (H:Hp) (cs:ZH) (qs:ZN):Prop where
 ca:bV H cs
 nd:(cs.map λp=>p.2.1).Nodup
 p1:1<= ~~~cs
 p3: ~~~cs<=3
 few:∀p∈cs,rO p.2.2
 ly: ~~~(cs.flatMap lyr)<=63
 sa:∀ls:ZB,ls.Perm (cs.flatMap lyr)->cC H ls qs
 q20: ~~~qs<=36
def qY.up{H a:Hp}{cs:ZH}{qs:ZN}(h:qY H cs qs)(s:ah H a):qY a cs qs:=
 %[h.ca.up s,h.nd,h.p1,h.p3,h.few,h.ly,λb p=>(h.sa b p).up s|h.q20]
inductive qZ (K:ZA)
 | mk (a:ku) (ns:ZL):vs=[.ref a]->Qb K H a (ns\4)->Gi H-> ~~~ns<=63->(∀H',Q (.bl hY) H')->qZ K vs H Q E0
def rc{a b:Type}(f:a->b)(xs:hH a)(is:hH jg):is.filterMap ((xs.map f)[·]?)=(is.filterMap (xs[·]?)).map f:=by
 rw[hH.map_filterMap];show sU (λg=>hH.filterMap g is) (funext λi=>Zl ..)
def Fx{a:Type}{xs:hH a}{is:hH jg}{q:a}(h:q∈is.filterMap (xs[·]?)):q∈xs:=by
 let%[i,_|e]:=M6.mp h;show Z8 e
def oE.sub{H:Hp}{cs:ZH}{qs rs:ZN}(h:oE H cs qs)(r:∀q∈rs,q∈qs)(l: ~~~rs<= ~~~qs):oE H cs rs:=%[h.c1,h.c3,h.ca,h.nd,h.few,h.ly,λq a=>h.sa q (r q a)|nI l h.ql]
def oE.up{H a:Hp}{cs:ZH}{qs:ZN}(h:oE H cs qs)(s:ah H a):oE a cs qs:=%[h.c1,h.c3,h.ca.up s,h.nd,h.few,h.ly,h.sa.up s|h.ql]
def oE.pair{H:Hp}{cs:ZH}{qs:ZN}(h:oE H cs qs):qY H cs qs:=%[h.ca,h.nd,h.c1,h.c3,h.few,h.ly,λc p q a=>%[(h.sa q a).1|(h.sa q a).2.sub λz b=>p.mem_iff.mpr b]|h.ql]
structure vY (mg:ZC) (H:Hp) (g l1 l2:ku) (cs:ZH) (qs:ZN) (ls:ZB) (ts:ZG):Prop where
 gd:oE H cs qs
 h1:H l1<*bL cs
 h2:H l2∣.lst (qs\0)
 gr:eZ mg H g qs ls ts
 pl:ls.Perm (cs.flatMap lyr)
 tm:∀k,k∈ts\2↔k∈cI cs\/k∈cJ qs qs.length
def vY.up{mg:ZC}{H a:Hp}{g b c:ku}{cs:ZH}{qs:ZN}{d:ZB}{ts:ZG}(h:vY mg H g b c cs qs d ts)(s:ah H a):vY mg a g b c cs qs d ts:=%[h.gd.up s,s _ _ h.h1,s _ _ h.h2,h.gr.up s,h.pl|h.tm]
def A2{H:Hp}{g c a b:ku}{cs:ZH}{qs:ZN}{R:Hp->Prop}(j:H g=hV)(i:H c=hV)(n:H a<*bL cs)(r:H b∣.lst (qs\0))(p:qY H cs qs)
 (k:∀f d ts,ah H f->eZ mg f g qs d ts->d.Perm (cs.flatMap lyr)->(∀k,k∈ts\2↔k∈cI cs\/k∈cJ qs qs.length)->R f):
 vO mg [.ref g,.ref a,.ref b] (Qa (Qa H c (.own g)) g (.ins (aG mg "Ground") c [])) (λv s=>v= .non/\R s) E0:=by
 let h:ah H (Qa (Qa H c (.own g)) g (.ins (aG mg "Ground") c [])):=λb o e=>by
  rw[aq (ax e j),aq (ax e i)];show e
 show%[g,a,b,c,cs,qs,ρ,aa,h _ _ n,h _ _ r,p.ca.up h,p.nd,p.p1,p.p3,p.few,p.ly,λd q=>(p.sa d q).up h,p.q20|λf d ts c2 c3 u y z tk A B C pl E=>%[ρ|k f d ts (λb o e=>y b o (ax e j) (h _ _ e)) %[%[c2,c3,u|z],vX p.nd pl,E,by rw[pl.length_eq];show p.ly,C,λk l=>?_,λk l=>?_|A] pl B]]<;> have%[t,m|rfl]:=Xp l
 .show(tk t m).1
 .show(tk t m).2
abbrev SD(M:ZB):hH (Key×V):=VD M λ_=> .bl hY
def Fy{M:ZB}{x:lp}:∃M2,dc (SD M) (kG x) (.bl hY)=SD M2/\(M.Nodup->M2.Nodup)/\∀y,y∈M2↔y∈M\/y=x:=by
 by_cases c:x∈M
 .show%[M,?_,λh=>h|λy=>%[.inl|λh=>h.elim (λh=>h) λe=>e▸c]];unfold SD;rw[Fo c]
  simp_all
 .show%[M++[x],?_,λh=>X1.mpr %[h,by simp|λa d b f e=>c (by rw[<-Xo f,<-e];show d)]|λy=>by simp];unfold SD;rw[dX _ (ii c)];unfold VD;rw[Zd];rfl
def x5:∀{R M:ZB},∃M2,iR (SD M) (SD R)=SD M2/\(M.Nodup->M2.Nodup)/\∀y,y∈M2↔y∈M\/y∈R
 |[],M=>%[M,rfl,λh=>h|λy=>by simp]
 | x::R,M=>by
   let%[M1,a,n1|b]:=Fy;let%[M2,c,d|m2]:=x5 (R:=R);show%[M2,?_,λh=>d (n1 h)|λy=>by rw[m2,b,Yw,or_assoc]];change iR (dc _ (kG x) (.bl hY)) (SD R)=_;rw[a,c]
def Cy{ks:hH _}{a c:lp}(r:Rch ks a c):∃y,Ed ks a y/\(y=c\/Rch ks y c):=by
 induction r with
 | one e=>show%[_,e|.inl rfl]
 | more _ e b=>
   let%[y,h|q]:=b;show%[y,h|.inr (q.elim (λq=>q▸ .one e) λq=> .more q e)]
def KU{b:ZB}{ss:ZG}(h:∀t∈ss,dS b t.2){x y:lp}(r:Rch (ss\2) x y):y∈b:=by
 let:∃a,Ed (ss\2) a y:=by
  cases r with
  | one e=>show%[_|e]
  | more _ e=>show%[_|e]
 let%[a,z|d]:=this;let%[t,f|c]:=Xp d;let%[u,v,w,e,_|g]:=h t f;rw[e]at c;show((NQ (NQ c).2).1)▸g
structure Rea (H:Hp) (ks:hH ZB) (rs:Gs lp):Prop where
 nd:(rs\1).Nodup
 ad:(rs.map (·.2.1)).Nodup
 at_:∀r∈rs,H r.2.1∣.dK (SD r.2.2)/\r.2.2.Nodup/\∀y,y∈r.2.2↔Rch ks r.1 y
inductive Ba
 | mk (l m:ku) (ns:ZB) (ss:ZG):vs=[.ref l,.ref m]->H l<*ns\3->ns.Nodup-> ~~~ns<=63->H m∣.lst (ss\0)->dH H ns ss-> ~~~ss<=250->(∀x,¬ Rch (ss\2) x x)->(∀d H' (rs:Gs lp),ah H H'->H d=hV->H' d∣.dK (gD rs)->Rea H' (ss\2) rs->(∀r∈rs,r.2.1≠d/\H r.2.1=hV)->(∀x,x∈rs\1↔x∈ns)->Q (.ref d) H')->Ba vs H Q E0
def rg(T:Txt K mg):Cal P w K mg base 4 "all_beneath" ["names","found"] Ba:=by
 .exists T.aR,dm,cw,u,%[l,m,ns,ss,rfl,hl,nn,nl,hm,O,be,nr|kk];show%[_,%["KCF2G~eA1BCF3!CSUG~7A0A1BJ4Cy!34ESU~H~I2A4ARBBJ5CymW34N5~GEX~[~0W34AW3N5~GBEH3",dm.nd|u]|?_]
  change aR _ _ _ [!l,!m,hV,hV,hV,hV] H;show aj λD1 k1 _=>?_
  lk;show%[m,ns,ss,ρ,hm,O,be|λb H1 s1 fb hb=>k1 _ _ (aj λD2 k2 _=>?_)];lk;intro d fd;show k2 _ _ (aj λD3 k3 _=>ay λbf hK=>?_);let s2:=ah.Qa (o:= .dK []) fd;let hd:Qa H1 d (.dK []) d∣.dK (gD ([]:Gs lp)):=aa;let Y:=s1.trans s2;let bl:b≠d:=λc=>by
   let%[bm,G|_]:=hb;rw[c,fd]at G;cases G
  let bt:=s1.free fd;let b0:=hb.up s2
  generalize Qa H1 d _=H2 at s2 hd Y b0
  lk;show%[l,m,ns,ss,ρ,Y _ _ hl,nn,nl,Y _ _ hm,O.up Y,be|λr H3 L s3 al Ln Ls cl rest _=>%[%[_|Qb.of al]|hK _ _ ?_]];let cx:=s2.trans s3;let b1:∀x∈ns,x∈L:=λx hx=>Nu λc=>KH (ks:=ss\2) (U:=ns.filter λx=>decide (x∉L)) (λx hx=>by
   let%[G|J]:=ow.mp hx;let%[y,e,yn|yl]:=rest x G (Zo J);show%[y,ow.mpr %[yn|Zf yl]|e]) nr (ow.mpr %[hx|Zf c])
  let Lm: ~~~(L\3)= ~~~L:=Z6 _;let Ll:=_ST.nodup_sub Ln Ls;let b2:=b0.up s3;let an:=Y.trans s3;show bF (λi σ C=>A3 (E2 λo4 o5=>σ=[!l,!m,!b,!d,o4,o5]) (dI d H3 C) (∃rs:Gs lp,A4 (C d∣.dK (gD rs)) (Rea C (ss\2) rs) (∀r∈rs,r.2.1≠d/\H3 r.2.1=hV) (rs\1=L.take i)))
   %[%[_,_|rfl],λ_ _ _ e=>e,[],s3 _ _ hd,%[X3,X3|λ_ h=>(nomatch h)],λ_ h=>(nomatch h)|rfl] (λi σ C h=>h.2 _ _ (λc=>by let:=s3 _ _ hd;rw[<-c,al]at this;cases this) al) ?_ ?_
  .intro i n σ C hn %[%[o4,o5|rfl],sm,rs,ac,g,rn|rk];let tk:L.take (i+1)=L.take i++[n]:=by rw[Xa,hn];rfl
   change aR _ _ _ [!l,!m,!b,!d,-n,o5] C;show aj λD4 k4 _=>?_
   lk;intro e fe;let B:e≠d:=λc=>by rw[c,ac]at fe;cases fe
   let as:n∉rs\1:=by
    rw[rk];intro c;let%[j|hj]:=Xg c;let jl:=(Xm hj).1;rw[Yl]at jl;rw[Yc ⋯]at hj;let:=jt Ln hj hn
    lia
   let rl: ~~~rs<=63:=by
    let: ~~~(rs\1)<= ~~~L:=by rw[rk,Yl];lia
    rw[Z6]at this
    lia
   let e3:H3 e=hV:=by
    cases q:H3 e with
    | none=>rfl
    | some o=>rw[sm e o B q]at fe;cases fe
   show%[_,gK.k (k:=kG n) (ah.Qa fe _ _ ac) (by unfold gD;rw[Z6];show aC ⋯)|k4 _ _ ?_];rw[dX _ (mI as),show gD rs++[(kG n,V.ref e)]=gD (rs++[(n,e,[])]) by unfold gD;rw[Zd];rfl];let he:Qa (Qa C e (.dK [])) d (.dK (gD (rs++[(n,e,[])]))) e∣.dK (SD []):=by rw[aq B,aa];rfl
   let b3:Qa (Qa C e (.dK [])) d (.dK (gD (rs++[(n,e,[])]))) d=_:=aa;let o4:∀c o,c≠d->C c∣o->Qa (Qa C e (.dK [])) d (.dK (gD (rs++[(n,e,[])]))) c∣o:=λc o h q=>by rw[aq h,aq (ax q fe)];show q
   generalize Qa (Qa C e (.dK [])) d _=H4 at he b3 o4
   let a0:dI d H3 H4:=λc o h q=>o4 c o h (sm c o h q)
   show aA λD5 k5 _=>ay λbf hK=>?_
   lk;show%[tyD (a0 _ _ bl b2.choose_spec.1),#[0]|λp hp=>?_];let%[bm,a,b4,co,ag|cp]:=b2.get a0 bl (λxs c=>by rw[s3 _ _ hd]at c;cases c) hp n;let sp:=ah.Qa (o:= .lst []) hp;let he:=sp _ _ he;let a1:=sp _ _ b3;let a2:=a0.trans (dI.of sp);let a3:∀c o,c≠d->C c∣o->Qa H4 p (.lst []) c∣o:=λc o h q=>sp _ _ (o4 c o h q)
   let ae:a≠e:=by
    rcases cp with rfl|⟨o,ho⟩
    .show λc=>by rw[c]at hp;let:=he;rw[c,aa]at this;cases this
    .show λc=>by rw[c,e3]at ho;cases ho
   generalize Qa H4 p _=H5 at b4 ag he a1 a2 a3 ⊢
   generalize b5:(ss.filter λt=>decide (t.2[0]?∣n))=ts at ag
   let tm: ~~~(ts\0)= ~~~ts:=Z6 _;let cs:∀t∈ts,t∈ss/\∃y z,t.2=[n,y,z]:=λt ht=>by
    rw[<-b5]at ht;let%[G|J]:=ow.mp ht;let%[x,y,z,e|_]:=(O t G).2;let J:=Zo J;rw[e]at J;show%[G,y,z|by rw[e,show x=n from Za J]]
   show%[kG n,ρ,bm,b4|vE co %[%[_|Qb.of ag]|hK _ _ ?_]];show bF (λj σ N=>A3 (∃o5,σ=[!l,!m,!b,!d,-n,o5]) (dI e H5 N) (∃M:ZB,A4 (N e∣.dK (SD M)) M.Nodup (∀y∈M,Rch (ss\2) n y) (∀t∈ts.take j,∀y,t.2[1]?∣y->y∈M/\∀z,Rch (ss\2) y z->z∈M)))
    %[%[_|rfl],λ_ _ _ q=>q,[],he,X3,λ_ h=>(nomatch h)|λ_ h=>(nomatch h)] (λj σ N h=>h.2 _ _ ae ag) ?_ ?_
   .intro j t σ N ht %[%[o5|rfl],v,M,hM,Mn,Mr|Md];let%[b6,y,z|et]:=cs t (Z8 ht);change aR _ _ _ [!l,!m,!b,!d,-n,hX (.ref t.1)] N;show aj λD6 k6 _=>?_
    lk;let a4:∀c o,c≠d->c≠e->H3 c∣o->N c∣o:=λc o G J q=>v c o J (a2 c o G q)
    let te:∀c zs,H3 c&&&zs->N c&&&zs:=λc zs q=>a4 c _ (λz=>by rw[z,s3 _ _ hd]at q;cases q) (λz=>by rw[z,e3]at q;cases q) q
    let t6:=te _ _ (an _ _ (O t b6).1);rw[et]at t6;let a5:=v d _ B.symm a1;let ak:bX (gD (rs++[(n,e,([]:ZB))])) (kG n)∣.ref e:=by
     let%[r,ct,e1|hv]:=kW (rs:=rs++[(n,e,[])]) (y:=n) ∅;rcases Xn ct with q|q
     .show(as (e1▸Xq %[r,q|rfl])).elim
     .rw[Xo q]at hv;show hv
    let gn:=b8.k (k:=kG n) a5;rw[ak]at gn;let ed:Ed (ss\2) n y:=%[z|et▸Xq %[t,b6|rfl]]
    let yt:=cl i n hn y ed;rw[<-rk]at yt;let%[M1,e1,n1|m1]:=Fy (M:=M) (x:=y);let a6:∀U:ZB,U.Nodup->(∀x∈U,Rch (ss\2) n x)-> ~~~U<=63:=λU G J=>nI (_ST.nodup_sub G λx hx=>KU (λt ht=>(O t ht).2) (J x hx)) nl
    let Ml:=a6 M Mn Mr;show%[_,gn,_,SqT.of t6,_,ρ,_,gK.k (k:=kG y) hM (by unfold SD VD;rw[Z6];show aC ⋯)|k6 _ _ (aA λD7 k7 _=>?_)];rw[e1];let b9:∀x∈M1,Rch (ss\2) n x:=λx hx=>((m1 x).mp hx).elim (Mr x) λq=>q▸ .one ed
    let bb:Qa N e (.dK (SD M1)) e∣.dK (SD M1):=aa;let u7:∀c o,c≠e->N c∣o->Qa N e (.dK (SD M1)) c∣o:=λc o h q=>(aq h)▸q
    generalize Qa N e _=H7 at bb u7
    let ca:=b8.k (k:=kG n) (u7 _ _ B.symm a5);rw[ak]at ca;let%[ry,I,ey|gy]:=kW (rs:=rs++[(n,e,[])]) (y:=y) (Zd▸Yu _ yt);let I:ry∈rs:=by
     rcases Xn I with q|q
     .show q
     .rw[Xo q]at ey;show(nr n (.one (by rw[<-show n=y from ey]at ed;show ed))).elim
    let cd:=b8.k (k:=kG y) (u7 _ _ B.symm a5);rw[gy]at cd;let bc:ry.2.1≠e:=ax (g.at_ ry I).1 fe;let cv:=u7 _ _ bc (v _ _ bc (a3 _ _ (rn ry I).1 (g.at_ ry I).1));lk;let%[M2,e2,n2|m2]:=x5 (R:=ry.2.2) (M:=M1);let ab:=(g.at_ ry I).2;rw[ey]at ab;let cy:=a6 M1 (n1 Mn) b9;let Rl:=a6 ry.2.2 ab.1 λx hx=>(Rch.one ed).trans ((ab.2 x).mp hx)
    show%[_,ca,tyD (bb),_,SqT.of (u7 _ _ (λc=>by rw[c,hM]at t6;cases t6) t6),_,ρ,_,cd,ry.2.1,ρ,_,_,bc.symm,bb,cv,by unfold SD VD;rw[Z6,Z6,PySem.sizeLine_eq];lia|?_];rw[e2];show k7 _ _ %[%[_|rfl],λc o h q=>(aq h)▸u7 c o h (v c o h q),M2,aa,n2 (n1 Mn),λx hx=>?_|λt' ce x ex=>?_]
    .rcases(m2 x).mp hx with q|q
     .show b9 x q
     .show(Rch.one ed).trans ((ab.2 x).mp q)
    .rw[Xa,ht]at ce;rcases Xn ce with q|q
     .let%[G|J]:=Md t' q x ex;show%[(m2 x).mpr (.inl ((m1 x).mpr (.inl G)))|λz hz=>(m2 z).mpr (.inl ((m1 z).mpr (.inl (J z hz))))]
     .rw[show t'=t from Xo q,et]at ex;obtain rfl:y=x:=Za ex;show%[(m2 y).mpr (.inl ((m1 y).mpr (.inr rfl)))|λz hz=>(m2 z).mpr (.inr ((ab.2 z).mpr hz))]
   .intro σ N %[%[o5|rfl],v,M,hM,Mn,Mr|Md];rw[Zn (Zi _)]at Md;let all:∀y,y∈M↔Rch (ss\2) n y:=λy=>%[Mr y|λr=>by
     let%[x,%[z|hz]|q]:=Cy r;let%[t,ht|et]:=Xp hz;let h:=Md t (b5▸ow.mpr %[ht|by rw[et];simp]) x (by rw[et];rfl);show q.elim (λq=>q▸h.1) λq=>h.2 y q]
    let ch:∀r∈rs,r.2.1≠e:=λr u=>ax (g.at_ r u).1 fe
    show k5 _ _ %[%[_,_|rfl],λc o h q=>v c o (ax q e3) (a2 c o h q),rs++[(n,e,M)],?_,%[?_,?_|λr u=>?_],λr u=>?_|by rw[Zd,rk,tk];rfl]
    .rw[v d _ B.symm a1];unfold gD;rw[Zd,Zd];rfl
    .rw[Zd,X1];show%[g.nd,by simp|λa ha b hb c=>as (by rw[<-show b=n from Xo hb,<-c];show ha)]
    .rw[Zd,X1];show%[g.ad,by simp|λa ha b hb c=>?_];let%[r,u|rfl]:=Xp ha;show ch r u (c.trans (Xo hb))
    .rcases Xn u with q|q
     .show%[v _ _ (ch r q) (a3 _ _ (rn r q).1 (g.at_ r q).1)|(g.at_ r q).2]
     .rw[Xo q];show%[hM,Mn|all]
    .rcases Xn u with q|q
     .show rn r q
     .rw[Xo q];show%[B|e3]
  .intro σ C %[%[o4,o5|rfl],sm,rs,ac,g,rn|rk];rw[Zn (Zi _)]at rk;show k3 _ _ ?_;lk;show kk d C rs (λc o e=>sm c o (ax e bt) (an _ _ e)) bt ac g (λr u=>%[(rn r u).1|an.free (rn r u).2]) λx=>rk▸%[Ls x|b1 x]
structure ReF (H:Hp) (ks:hH ZB) (d:ku) (rs:Gs lp):Prop where
 at_:∃o,H d∣.frz o (.dK (gD rs))
 nd:(rs\1).Nodup
 in_:∀r∈rs,(∃o,H r.2.1∣.frz o (.dK (SD r.2.2)))/\r.2.2.Nodup/\∀y,y∈r.2.2↔Rch ks r.1 y
def ReF.up{H a:Hp}{ks:hH _}{d:ku}{rs:Gs lp}(h:ReF H ks d rs)(s:ah H a):ReF a ks d rs:=
 %[h.at_.imp λo e=>s _ _ e,h.nd|λr b=>%[(h.in_ r b).1.imp λo e=>s _ _ e|(h.in_ r b).2]]
def ReF.same{H:Hp}{ks a:hH _}{d:ku}{rs:Gs lp}(h:ReF H ks d rs)(e:∀k,k∈ks↔k∈a):ReF H a d rs:=%[h.at_,h.nd|(dv e)▸h.in_]
inductive Bb
 | mk (l m:ku) (ns:ZB) (ss:ZG):vs=[.ref l,.ref m]->H l<*ns\3->ns.Nodup-> ~~~ns<=63->H m∣.lst (ss\0)->dH H ns ss-> ~~~ss<=250->(∀x,¬ Rch (ss\2) x x)->(∀d H' (rs:Gs lp),ah H H'->ReF H' (ss\2) d rs->(∀x,x∈rs\1↔x∈ns)->Q (.ref d) H')->Bb vs H Q E0
def r9(T:Txt K mg):Cal P w K mg base 4 "all_beneath" ["names","found"] Bb:=by
 show(rg T).freeze.imp λvs H Q E zqw=>?_;let%[l,m,f,ss,g,h,i,j,n,p,s,u|v]:=zqw;show %[l,m,f,ss,g,h,i,j,n,p,s,u|λd C rs y G z a A B=>%[d::rs.map _|λI=>v d _ rs (λc o e=>?_) %[%[_|oR Zm z],a.nd|λr b=>%[%[_|oR (Zk _ (Xq %[r,b|ρ])) (a.at_ r b).1]|(a.at_ r b).2]] B]]
 rw[qb]
 .show y c o e
 .intro q;rcases Yw.mp q with rfl|q
  .lia
  .let%[r,b|rfl]:=Xp q;rw[(A r b).2]at e;cases e
inductive Bc (mg:ZC)
 | mk (g:ku) (qs:ZN) (ls:ZB) (ts:ZG):vs=[.ref g]->eZ mg H g qs ls ts->(∀lk,a9 (aQ qs) (ts\2) lk->∀x,¬ Rch lk x x)->(∀d H' (rs:Gs lp) lk ns,ah H H'->a9 (aQ qs) (ts\2) lk->AQ (aQ qs) ls ns->ReF H' lk d rs->(∀x,x∈rs\1↔x∈ns)->Q (.ref d) H')->Bc mg vs H Q E0
def rh(T:Txt K mg):Cal P w K mg base 7 "earlier_ones" ["ground"] (Bc mg):=by
 .exists T.aW,dM,p,c,%[g,qs,e,ts,rfl,a,nr|q];let%[c2,c3,r|u]:=a.gr;let M:=a.ll;show%[_,%["KCF1G]EA0BEHG]2AG~!A0BA1B",dM.nd|c]|?_]
  change aR _ _ _ [hX _,hV] H;show aj λN k1 _=>?_
  lk;show%[g,qs,e,ts,ρ,a,nr|λl O v ss n y z B lk=>k1 _ _ ?_];lk;show%[g,c2,c3,r,qs,e,ts,ρ,u.up n,a.nd,a.so,⋯|λm U i j Y C b=>?_];let nl: ~~~i<=63:=by
   let:=_ST.nodup_sub b.nd λx G=>((b.mem x).mp G).1
   lia
  show%[m,l,i,ss,ρ,C,b.nd,nl,j _ _ y,λt o=>%[j _ _ (z t o).1|a.names lk b _ (Xq %[t,o|ρ])],B,nr _ lk|λd I rs J re L=>q d I rs _ i (n.trans (j.trans J)) lk b re L]
structure oh (mg:ZC) (H:Hp) (g:ku) (qs:ZN) (ls:ZB) (ts:ZG) (lk:hH ZB):Prop where
 gr:eZ mg H g qs ls ts
 li:a9 (aQ qs) (ts\2) lk
 nr:∀x,¬ Rch lk x x
def oh.up{mg:ZC}{H a:Hp}{g:ku}{qs:hH _}{b:ZB}{ts:hH _}{lk:hH _}(h:oh mg H g qs b ts lk)(s:ah H a):oh mg a g qs b ts lk:=%[h.gr.up s,h.li|h.nr]
def oh.all{mg:ZC}{H:Hp}{g:ku}{qs:ZN}{b:ZB}{ts:ZG}{lk:hH ZB}(h:oh mg H g qs b ts lk)(a:hH ZB)(h':a9 (aQ qs) (ts\2) a):∀x,¬ Rch a x x:=by
 rw[dv (h'.mm h.li)];show h.nr
abbrev Up(lk:hH ZB)(a b:lp):Prop:=a=b\/Rch lk a b
abbrev tTru(K:ZA)(b:TE):TT:=λc H Q=>b c H λx a=>∃k,Bp K x a k/\Q k a
def truN{X:Cx}{K:ZA}{a:yu}{c:TE}(h:X.K=K)(d:∀b,S6 a X.env b=(do let v<-b;Pk a.pos;PF [v] (UO v)))(e:QE X a c):QT X a (tTru K c):=truT h d e
noncomputable abbrev Yr:=ku×jg×lp×oT
abbrev oi(H:Hp)(ys:hH Yr):Prop:=∀t∈ys,H t.1&&&[.int t.2.1,.str t.2.2.1,.int t.2.2.2]
def oi.up{H a:Hp}{ys:hH Yr}(h:oi H ys)(s:ah H a):oi a ys:=λt b=>s _ _ (h t b)
def KW{M:ZB}{y:lp}:(bX (SD M) (kG y)).isSome=hY↔y∈M:=by
 by_cases c:y∈M
 .unfold SD;rw[iB c];simp[c]
 .unfold SD;rw[ii c];simp[c]
inductive Fz
 | mk (d:ku) (x y:lp) (ks:hH ZB) (rs:Gs lp):vs=[.ref d,.str x,.str y]->ReF H ks d rs->x∈rs\1->(∀b:ri,(b=hY↔Up ks x y)->Q (.bl b) H)->Fz vs H Q E0
abbrev upB(ks:hH ZB)(a b:lp):ri:= @decide (Up ks a b) (Ss _)
def Bd{ks:hH _}{a b:lp}:upB ks a b=hY↔Up ks a b:= @NG _ (Ss _)
inductive Be (up:ri)
 | mk (l d:ku) (x:lp) (ks:hH ZB) (rs:Gs lp) (ys:hH Yr):vs=[.ref l,.ref d,.str x]->H l∣.lst (ys\0)->oi H ys->ReF H ks d rs->x∈rs\1->(∀t∈ys,t.2.2.1∈rs\1)-> ~~~ys<=60->(∀r H',ah H H'->H r=hV->H' r∣.lst ((ys.filter λt=>if up then upB ks t.2.2.1 x else upB ks x t.2.2.1)\0)->Q (.ref r) H')->Be up vs H Q E0
def j7{ys:hH Yr}{p:Yr->ri}{j:jg}(a:j< ~~~ys):(ys.take (j+1)).filter p=(ys.take j).filter p++if p ys[j]=hY then [ys[j]]else []:=by
 rw[Xa,Z4 a,Y2];rw[show(hX _).toList=[ys[j]]from rfl,Y3,Y7]
def x6{ys:hH Yr}{p:Yr->ri}{j:jg}(h: ~~~ys<=60): ~~~(((ys.take j).filter p)\0)<=60:=by
 rw[Z6];show nI (Yi _ _) (nI (hH.length_take_le' ..) h)
def mJ(T:Txt K mg):Cal P w K mg base 1 "is_one_or_later" ["reach","upper","lower"] Fz:=by
 .exists T.bm,kO,i,e,%[d,x,y,ks,rs,rfl,re,j|g];show%[_,%["KEH~plj12']32W01",0|e]|?_];change iP _ _ [hX _,hX _,hX _] H;let%[r,a,l|m]:=kW j;let%[o|n]:=re.at_;let%[%[p|b],nd|mem]:=re.in_ r a;lk;by_cases c:x=y
  .rw[lX (Zf c)];show g hY %[λ_=> .inl c|λ_=>rfl]
  .rw[kw (by simp[c])];show%[_,.inl %[_,kG x,.inr %[o|n],ρ|m.symm],_,.inl %[_,kG y,.inr %[p|b],ρ|ρ]|g _ ?_];rw[KW,mem,l];show%[.inr|λh=>h.resolve_left c]
def x8(T:Txt K mg):Cal P w K mg base 2 "bys_above" ["bys","reach","name"] (Be hY):=by
 .exists T.bj,vH,y,z,%[l,d,x,ks,rs,ys,rfl,q,B,re,N,C,G|I];show%[_,%["KEHqi?1U0a0?2z]4G]5AT1AN0]6AT2B0",0,↑(["said","reach","name"],[(1,1),(2,2)]),↑["said","reach","name"]|z]|?_];change iP _ _ [!l,!d,-x] H;show aL λr J=>?_
  lk;show%[%[_|Qb.of q]|J _ _ λF m=>?_];show cN (λj vs n e=>A4 (∃u,n=[u,!d,-x]) (ah H e) (e F<*vs) (vs=(((ys.take j).filter λt=>upB ks t.2.2.1 x)\0)))
   %[%[hV|rfl],ah.Qa m,aa|rfl] (λ_ _ _ e o=>o.2 _ _ q) ?_ ?_
  .intro j vs n e i %[%[u|rfl],g,a|rfl];let v:=Yd i;let L:=g _ _ (B _ v);lk;show%[_,SqT.of L,_,ρ,d,_,x,ks,rs,ρ,re.up g,C _ v|λb M=>%[b,ρ|?_]];obtain rfl:b=upB ks _ x:=NW.mpr (M.trans Bd.symm);show bv (λc=>CK.mk i a (by let:=x6 (p:=λt=>upB ks t.2.2.1 x) (j:=j) G;show aC ⋯) %[%[_|rfl],ah.set g m,aa|?_]) λc=>CN.mk i %[%[_|rfl],g,a|?_]
   .rw[j7 i,lX c,Zd];rfl
   .rw[j7 i,kw c,Zx]
  .intro vs n e %[_,g,a|rfl];rw[Zn (Zi _)]at a;show I F e g m a
abbrev YS(qs:ZN)(b:lp)(n:jg)(d:lp)(y:oT):Prop:=∃q a,qs[n]?∣q/\q.2=[.str b,.str a,.int y]/\bJ (aQ qs) a d
inductive x9 (mg:ZC)
 | mk (g:ku) (wd:lp) (qs:ZN) (ls:ZB) (ts:ZG):vs=[.ref g,.str wd]->eZ mg H g qs ls ts->(wd="since"\/wd="by")-> ~~~qs<=60->(∀l H' (ys:hH Yr),ah H H'->H l=hV->H' l∣.lst (ys\0)->oi H' ys->(∀n d y,(n,d,y)∈ys\2↔YS qs wd n d y)-> ~~~ys<=60->ys.Pairwise (λa b=>a.2.1<b.2.1)->Q (.ref l) H')->x9 mg vs H Q E0
def mK(T:Txt K mg):Cal P w K mg base 4 "years_said" ["ground","word"] (x9 mg):=by
 .exists T.bh,ix,ak,N,%[g,C,qs,ls,ts,rfl,hg,hw,ql|kk];let%[c2,c3,c4|gr]:=hg.gr;let ll:=hg.ll;show%[_,%["KC>2tuG~dA0BCF3<~S0EHqi?1|A3BgMa0?2Ma1?2czLjN1DT3bA0AWT2N1DAN1DB",ix.nd,↑(["number","saying","names","word"],[(2,2),(3,1)]),↑["number","saying","names","word"]|N]|?_]
  change aR _ _ _ [!g,-C,hV,hV] H;show aj λD1 k1 _=>?_
  lk;show%[g,c2,c3,c4,qs,ls,ts,ρ,gr,hg.nd,hg.so,⋯|λd H1 r s1 fd hd N=>k1 _ _ (aj λD2 k2 _=>?_)];let G:=gr.up s1;lk;show kT G (.inr (.inl rfl)) %[g,c2,c3,c4,qs,ls,ts,rfl,G|λl1 ab=>k2 _ _ ?_];let U:=ah.Qa (o:= .lst (qs\0)) ab;let l:=own U;let sa:=(G.up U).sa;let hd:=U _ _ hd;let I:=s1.trans U
  generalize Qa H1 l1 _=H2 at U l hd I sa
  show aL λag hK=>?_
  lk;show%[_,Qb.of l|hK _ _ λF hF=>?_];show dJ (J:=Ite K l1 (qs\0)) (n:= ~~~qs) (D:=F) (λj vs Y m=>A4 (E2 λo1 o2=>Y=[o1,o2,!d,-C]) (ah H2 m) (m F<*vs) (∃ys:hH Yr,A5 (vs=ys\0) (oi m ys) (~~~ys<=j) (ys.Pairwise λa b=>a.2.1<b.2.1) (∀n d y,(n,d,y)∈ys\2↔n<j/\YS qs C n d y)))
   %[%[hV,hV|rfl],ah.Qa hF,aa,[],rfl,(λ_ h=>nomatch h),Zi _,.nil|by simp] (λj ys Y m B L=>%[Qb.of (L.2 _ _ l)|by rwa[Z6]]) (λys Y m L=>%[Qb.of (L.2 _ _ l)|by rw[Z6];show Zi _]) ?_ ?_
  .intro j vs Y m B %[%[o1,o2|rfl],v,i,ys,rfl,M,yl,yo|ym] _ _ %[x,t0,hx,ac,rfl|rfl];rw[Zl,Z4 B]at hx;obtain rfl:V.ref qs[j].1=x:=Za hx;let sT:=ah.Qa (o:= .tup [.int j,.ref qs[j].1]) ac;let g0:=own sT;let i:=sT _ _ i;let M:=M.up sT;let v:=v.trans sT
   generalize Qa m t0 _=H3 at sT g0 i M v
   let%[tu|ok]:=(sa.up v) _ (Yd B);show%[_,SqT.of g0,ρ,_,_,ρ,_,_,ρ,ρ|?_];change v7 _ [hX (.int j),hX (.ref qs[j].1),!d,-C] _ _;lk;let ex:∃O v1 v2,qs[j].2=[.str O,v1,v2]/\(O=C->∃a y,v1=V.str a/\v2=V.int y/\a∈ls):=by
    rcases ok with⟨O,a,b,e,ae,_⟩|⟨O,a,y,e,_,ha,_⟩
    .show%[_,_,_,e|λc=>?_];subst c;rcases hw with rfl|rfl<;> rcases ae with h|h<;> show n0 h (!1)
    .show%[_,_,_,e|λ_=>%[a,y,ρ,ρ|ha]]
   let%[O,v1,v2,e|he]:=ex;rw[e]at tu;show%[_,SqT.of tu,_,ρ,ρ|bv (λc=>?_) λc=>?_]
   .obtain rfl:O=C:=V.str.inj (Zo c);let%[a,y,rfl,rfl|ha]:=he rfl;let get:=b8.k (k:=kG a) (v _ _ hd);rw[iA ha]at get;show%[_,SqT.of tu,_,ρ,_,get,_,SqT.of tu,_,ρ,#[3]|λp hp=>?_];let sp:=ah.Qa (o:= .tup [.int j,.str (r a),.int y]) hp;let gp:=own sp
    generalize Qa H3 p _=H4 at sp gp ⊢
    show CK.mk B (sp _ _ i) (by rw[Z6];show aC ⋯) %[%[_,_|rfl],ah.set (v.trans sp) hF,aa,ys++[(p,j,r a,y)],by rw[Zd];rfl,λt ht=>?_,by rw[Z9];show X9 yl,QR.mpr %[yo,Tw ..|λt ht u hu=>by rw[Xo hu];show((ym t.2.1 t.2.2.1 t.2.2.2).mp (Xq %[t,ht|rfl])).1]|λn d' y'=>?_]
    .show jY (sp _ _ i) _ _ ?_;rcases Xn ht with q|q
     .show sp _ _ (M t q)
     .rw[Xo q];show gp
    .rw[Zd,Yt,ym];change _\/(n,d',y')∈[(j,r a,y)]↔_;rw[Yy]
     constructor
     .rintro(⟨h1,z⟩|h)
      .show%[⋯|z]
      .cases h;show%[Yo _,_,a,Z4 B,e|(N a ha).2]
     .rintro⟨h1,z⟩;rcases Tv.mp h1 with h|rfl
      .show .inl %[h|z]
      .let%[q,a',e1,e2|l2]:=z;rw[Z4 B]at e1;cases e1;rw[e]at e2;cases e2;rw[(N a ha).2.one l2];show .inr rfl
   .show CN.mk B %[%[_,_|rfl],v,i,ys,rfl,M,⋯,yo|λn d' y'=>?_];rw[ym]
    constructor
    .rintro⟨h1,z⟩;show%[⋯|z]
    .rintro⟨h1,z⟩;show%[?_|z];rcases Tv.mp h1 with h|rfl
     .show h
     .let%[q,a',e1,e2|_]:=z;rw[Z4 B]at e1;cases e1;rw[e]at e2;cases e2;show n0 (Zf rfl) c
  .intro vs Y m %[_,v,i,ys,rfl,M,yl,yo|ym];show kk F m ys (I.trans v) (I.free hF) i M (λn d y=>(ym n d y).trans %[λh=>h.2|λh=>⟨by let%[q,_,e|_]:=h;show(Xm e).1,h⟩]) ⋯ yo
def YS.in_{mg:ZC}{H:Hp}{g:ku}{qs:hH _}{c f:ZB}{ts:hH _}{i d:lp}{n:jg}{y:oT}(b:eZ mg H g qs c ts)(j:AQ (aQ qs) c f)(h:YS qs i n d y):d∈f:=by
 let%[q,a,m,r|l]:=h;let%[c2,c3,s|b]:=b.gr;let o:a∈c:=by
  rcases(b.sa q (Z8 m)).2 with⟨p,x,z,e,_⟩|⟨p,x,z,e,_,u,_⟩
  .grind
  grind
 show(j.mem d).mpr %[l.1.within (ik b.sa) o|kX l l.1]
abbrev Cls(qs:ZN)(lk:hH ZB)(i j:jg):Prop:=∃d x y z,YS qs "since" i d y/\YS qs "by" j x z/\Up lk x d/\y>z
abbrev Lx(a b:jg×jg):Prop:=a.1<b.1\/a.1=b.1/\a.2<b.2
abbrev PrN(H:Hp)(ps:hH (ku×jg×jg)):Prop:=∀t∈ps,H t.1&&&[.int t.2.1,.int t.2.2]
inductive FA (mg:ZC)
 | mk (g:ku) (qs:ZN) (ls:ZB) (ts:ZG):vs=[.ref g]->eZ mg H g qs ls ts->(∀lk,a9 (aQ qs) (ts\2) lk->∀x,¬ Rch lk x x)-> ~~~qs<=60->(∀l H' (ps:hH (ku×jg×jg)) lk,a9 (aQ qs) (ts\2) lk->ah H H'->H' l∣.lst (ps\0)->PrN H' ps->(∀i j,(i,j)∈ps\2↔Cls qs lk i j)-> ~~~ps<=3600->(ps\2).Pairwise Lx->Q (.ref l) H')->FA mg vs H Q E0
def nB(T:Txt K mg):Cal P w K mg base 8 "clashing_pairs" ["ground"] (FA mg):=by
 .exists T.bn,aU,a6,O,%[g,qs,ls,ts,rfl,hg,nr,ql|kk];show%[_,%["KCF1G]7A0BCF2G]FA0AVBCF3RBCSUG]FA0AVBgM~P4tuMJ5M~P6tucEX~Y~Z3Aqi?1UG]8A2A1A5Ba0?2zL=T2N0]9bAT1AN0`ABBEH3",aU.nd,↑(["said","number","year"],[(1,4),(2,6)]),↑["said","number","year"]|O]|?_]
  change aR _ _ _ [!g,hV,hV,hV,hV,hV,hV] H;show aj λD1 k1 _=>?_
  lk;show%[g,qs,ls,ts,ρ,hg,nr|λd H1 rs lk ns s1 li hn re rn=>k1 _ _ (aj λD2 k2 _=>?_)];lk;show%[g,_,qs,ls,ts,ρ,hg.up s1,.inr rfl,ql|λl2 H2 zs s2 bb n za zm zl zo=>k2 _ _ (aj λD3 k3 _=>?_)];let ae:=s1.trans s2;lk;show%[Xf _|λL hL=>k3 _ _ (aj λD4 k4 _=>ay λa5 hK=>?_)];let sL:=ah.Qa (o:= .lst []) hL;let gL:Qa H2 L (.lst []) L=_:=aa;let re:=(re.up s2).up sL;let as:l2≠L:=λc=>by rw[c,hL]at n;cases n
  let n:=sL _ _ n;let za:=za.up sL;let fL:=ae.free hL;let U:=ae.trans sL
  generalize Qa H2 L _=H3 at sL gL re n za U
  lk;show%[g,_,qs,ls,ts,ρ,hg.up U,.inl rfl,ql|λl1 H4 ys s4 ag ak ya ym yl yo=>%[%[_|Qb.of ak]|hK _ _ ?_]];let a0:l1≠L:=λc=>by rw[c,gL]at ag;cases ag
  let gL:=s4 _ _ gL;let re:=re.up s4;let n:=s4 _ _ n;let za:=za.up s4;show bF (us:=ys) (f:=λt=>V.ref t.1) (λi J v=>A3 (E3 λo4 o5 o6=>J=[!g,!d,!l2,!L,o4,o5,o6]) (dI L H4 v) (∃ps:hH (ku×jg×jg),A5 (v L∣.lst (ps\0)) (PrN v ps) (~~~ps<=60*i) ((ps\2).Pairwise Lx) (∀a b,(a,b)∈ps\2↔∃t∈ys.take i,t.2.1=a/\∃u∈zs,u.2.1=b/\Up lk u.2.2.1 t.2.2.1/\t.2.2.2>u.2.2.2)))
   %[%[_,_,_|rfl],(λ_ _ _ h=>h),[],gL,(λ_ h=>nomatch h),Zi _,.nil|by simp] (λi J v Y=>Y.2 _ _ a0 ak) ?_ ?_
  .intro i x J v hx %[%[o4,o5,o6|rfl],sx,ps,B,pa,pl,po|pm];let fX:∀{c o},H4 c∣o->(∀xs,o≠ .lst xs)->v c∣o:=λ{c o} h q=>sx c o (λz=>by rw[z,gL]at h;show q _ (Za h).symm) h
   let xm:=Z8 hx;let tx:=fX (ya x xm) (λ_=>nofun);let a1:ReF v lk d rs:=%[re.at_.imp λo h=>fX h (λ_=>nofun),re.nd|λr O=>%[(re.in_ r O).1.imp λo h=>fX h (λ_=>nofun)|(re.in_ r O).2]]
   let al:oi v zs:=λt m=>fX (za t m) (λ_=>nofun)
   let rx:x.2.2.1∈rs\1:=(rn _).mpr (((ym _ _ _).mp (Xq %[x,xm|rfl])).in_ hg hn);show%[_,SqT.of tx,ρ,_,_,ρ,_,_,ρ,_,_,ρ,ρ|?_];change lh _ _ [!g,!d,!l2,!L,hX (.int x.2.1),hX (.str x.2.2.1),hX (.int x.2.2.2)] v;show aA λD5 k5 _=>?_
   lk;show%[tyL (Qb.of B)|?_];show aL λa2 a3=>?_
   lk;show%[l2,d,_,lk,rs,zs,ρ,sx _ _ as n,al,a1,rx,(λt m=>(rn _).mpr (((zm _ _ _).mp (Xq %[t,m|ρ])).in_ hg hn)),zl|λr H5 s5 fr ab=>%[%[_|Qb.of ab]|a3 _ _ λF hF=>?_]];let ul:=x6 (p:=λt=>if hY=hY then upB lk t.2.2.1 x.2.2.1 else upB lk x.2.2.1 t.2.2.1) (j:= ~~~zs) zl;rw[Xd,Z6]at ul;let uo:=zo.sublist (Q7 (p:=λt=>if hY=hY then upB lk t.2.2.1 x.2.2.1 else upB lk x.2.2.1 t.2.2.1));let um:∀u,u∈(zs.filter λt=>if hY=hY then upB lk t.2.2.1 x.2.2.1 else upB lk x.2.2.1 t.2.2.1)↔u∈zs/\Up lk u.2.2.1 x.2.2.1:=λu=>by
    rw[ow];show and_congr_right λ_=>Bd
   generalize (zs.filter λt=>if hY=hY then upB lk t.2.2.1 x.2.2.1 else upB lk x.2.2.1 t.2.2.1)=us at ab um ul uo
   let ua:oi H5 us:=λt m=>s5 _ _ (al t ((um t).mp m).1)
   show cN (λj vs J M=>(∃o1,J=[o1,hX (.int x.2.1),hX (.int x.2.2.2)])/\ah H5 M/\M F<*vs/\∃l:hH (ku×jg×jg),vs=l\0/\PrN M l/\ ~~~l<=j/\l\2=((us.take j).filter λu=>decide (u.2.2.2<x.2.2.2)).map λu=>(x.2.1,u.2.1))
    %[%[hV|rfl],ah.Qa hF,aa,[],rfl,(λ_ h=>nomatch h),Zi _|rfl] (λ_ _ _ M Y=>Y.2.1 _ _ ab) ?_ ?_
   .intro j vs J M hj %[%[o1|rfl],sm,C,l,rfl,ra,rl|rm];let tu:=sm _ _ (ua _ (Yd hj));lk;show%[_,SqT.of tu,_,ρ|bv (λc=>%[_,SqT.of tu,_,ρ,#[2]|λp hp=>?_]) λc=>CN.mk hj %[%[_|ρ],sm,C,l,ρ,ra,⋯|?_]]
    .let sp:=ah.Qa (o:= .tup [.int x.2.1,.int us[j].2.1]) hp;let gp:Qa M p (.tup [.int x.2.1,.int us[j].2.1]) p=_:=aa
     generalize Qa M p _=H7 at sp gp ⊢
     show CK.mk hj (sp _ _ C) (by rw[Z6];show aC ⋯) %[%[_|rfl],ah.set (sm.trans sp) hF,aa,l++[(p,x.2.1,us[j].2.1)],by rw[Zd];rfl,λt m=>?_,by rw[Z9];show X9 rl|?_]
     .show jY (sp _ _ C) _ _ ?_;rcases Xn m with q|q
      .show sp _ _ (ra t q)
      .rw[Xo q];show gp
     .rw[j7 hj,lX c,Zd,Zd,rm];rfl
    .rw[j7 hj,kw c,Zx,rm]
   .intro vs J M %[_,sm,C,l,rfl,ra,rl|rm];rw[Zn (Zi _)]at rm;let a4:((ps++l)\2).Pairwise Lx:=by
     rw[Zd,rm];show QR.mpr %[po,?_|?_]
     .rw[X8];show(uo.sublist Q7).imp λh=> .inr %[rfl|h]
     .rintro⟨a,b⟩ ha c hc;let%[t,m,rfl|_]:=(pm a b).mp ha;let%[u,G|rfl]:=Xp hc;let h:=yo;rw[<-Xb i ys,QR]at h;show .inl (h.2.2 t m x (Z8 (i:=0) (by rw[Yb];show hx)))
    let ac:=s5.trans sm;let an:=ac _ _ B;let bc:F≠L:=λc=>by rw[c,s5 _ _ B]at hF;cases hF
    show%[_,an,_,C,by rw[Z6,Z6,PySem.sizeLine_eq];let:=(Xm hx).1;lia|k5 _ _ %[%[_,_,_|ρ],(λb o h q=>by rw[aq h];show ac _ _ (sx b o h q)),ps++l,by rw[aa,Zd],λt m=>?_,by rw[Z9];lia,a4|λa b=>?_]]
    .show jY an _ _ ?_;rcases Xn m with q|q
     .show ac _ _ (pa t q)
     .show ra t q
    .rw[Zd,Yt,pm,rm,Xa,hx];change _↔∃t∈ys.take i++[x],_
     constructor
     .rintro(⟨t,m,h⟩|h)
      .show%[t,Yu _ m|h]
      .let%[u,G|e]:=Xp h;let%[I|N]:=ow.mp G;cases e;show%[x,Yv _ Zm,ρ,u,((um u).mp I).1,ρ,((um u).mp I).2|Zo N]
     .rintro⟨t,m,rfl,u,G,rfl,I,N⟩;rcases Xn m with q|q
      .show .inl %[t,q,rfl,u,G,rfl,I|N]
      .obtain rfl:=Xo q;show .inr (Xq %[u,ow.mpr %[(um u).mpr %[G|I]|Zf N]|rfl])
  .intro J v %[%[o4,o5,o6|rfl],sx,ps,B,pa,pl,po|pm];rw[Zn (Zi _)]at pm;show k4 _ _ ?_;lk;show kk L v ps lk li (λb o h=>sx b o (ax h fL) ((U.trans s4) _ _ h)) B pa (λi j=>(pm i j).trans ?_) ⋯ po
   constructor
   .rintro⟨t,m,rfl,u,G,rfl,I,N⟩;show%[_,_,_,_,(ym _ _ _).mp (Xq %[t,m|ρ]),(zm _ _ _).mp (Xq %[u,G|ρ]),I|N]
   .rintro⟨d',x,y,z,I,N,h3,h4⟩;let%[t,m|e1]:=Xp ((ym _ _ _).mpr I);let%[u,G|e2]:=Xp ((zm _ _ _).mpr N);show%[t,m,by rw[e1],u,G,by rw[e2],by rw[e1,e2];show h3|by rw[e1,e2];show h4]
abbrev Few(lk:hH ZB)(a b:lp)(us:hH ZB):Prop:=(a=b/\us=[])\/Sho lk a b us
inductive yd (mg:ZC)
 | mk (g:ku) (qs:ZN) (ls:ZB) (ts:ZG) (lk:hH ZB) (z u a b:lp):vs=[.ref g,.str z,.str u]->oh mg H g qs ls ts lk->z∈ls->u∈ls->bJ (aQ qs) z a->bJ (aQ qs) u b->(∀H',ah H H'-> ¬ Rch lk a b->Q .non H')->(∀l H' (ws:ZG),ah H H'->H l=hV->H' l∣.lst (ws\0)->aE H' ws->Sho lk a b (ws\2)-> ~~~ws<=300->Q (.ref l) H')->yd mg vs H Q E0
inductive FB (mg:ZC)
 | mk (g:ku) (qs:ZN) (ls:ZB) (ts:ZG) (lk:hH ZB) (z u a b:lp):vs=[.ref g,.str z,.str u]->oh mg H g qs ls ts lk->z∈ls->u∈ls->bJ (aQ qs) z a->bJ (aQ qs) u b->Up lk a b->(∀l H' (ws:ZG),ah H H'->H l=hV->H' l∣.lst (ws\0)->aE H' ws->Few lk a b (ws\2)-> ~~~ws<=300->Q (.ref l) H')->FB mg vs H Q E0
def mL(T:Txt K mg):Cal P w K mg base 4 "deposit_of" ["ground","layer"] (Fg mg):=by
 .exists T.aH,rP,j,a,%[g,c2,c3,c,qs,e,ts,z,rfl,l,nd,m,b,i|n];show%[_,%["KEHWG~dA0B1",0|a]|?_];change iP _ _ [!g,-z] H;lk;show%[g,c2,c3,c,qs,e,ts,ρ,l,nd,m,b|λd o r p u q a=>?_];let:=b8.k (k:=kG z) q;rw[iA i]at this;show%[_,this|n o (r z) p (a z i).2]
def Hv(T:Txt K mg):Cal P w K mg base 7 "chain" ["ground","one","other"] (yd mg):=by
 .exists T.aV,xh,ab,n,%[g,qs,r,ts,lk,z,u,a,b,rfl,C,hz,hu,za,ub,kn|ky];let c:=C.gr;let%[c2,c3,O|U]:=c.gr;let ll:=c.ll;show%[_,%["KCF3G~eAG]EA0BBEHG~8A3AG]GA0A1BAG]GA0A2BB",xh.nd|n]|?_]
  change aR _ _ _ [!g,-z,-u,hV] H;show aj λD1 k1 _=>?_
  lk;show%[g,qs,r,ts,ρ,c,C.all|λl H1 Y ss s1 hl la sl G=>?_];show%[l,Y,ss,ρ,hl,la,sl|λd H2 s2 fd hd=>k1 _ _ ?_];let e:=G.mm C.li;let i:=s1.trans s2;lk;show%[g,c2,c3,O,qs,r,ts,z,ρ,U.up i,c.nd,c.so,⋯,hz|λH3 a' s3 I=>?_];let J:=i.trans s3;show%[g,c2,c3,O,qs,r,ts,u,ρ,U.up J,c.nd,c.so,⋯,hu|λH4 b' s4 L=>?_];obtain rfl:=I.one za;obtain rfl:=L.one ub;let j:=s3.trans s4;let m:=i.trans j;let o:=la.up (s2.trans j);show%[d,_,_,Y,ss,ρ,hd.up j,o,sl,λM B n1=>kn M (m.trans B) (by rw[<-dv e];show n1)|λq M ws B fq hq N sh p=>ky q M ws (m.trans B) (m.free fq) hq (λt ht=>?_) (sh.same e) p];let%[h1,x,y,v,e3|_]:=o t (N t ht);show%[by rw[e3];simp|B _ _ h1]
def kY(T:Txt K mg):Cal P w K mg base 8 "chain_or_nothing" ["ground","one","other"] (FB mg):=by
 .exists T.bp,fh,j,m,%[g,qs,c,ts,lk,z,u,a,b,rfl,o,q,r,v,y,up|d];show%[_,%["KCF3G`BA0A1A2BEH`CL~C3rRB3",fh.nd|m]|?_]
  change aR _ _ _ [!g,-z,-u,hV] H;show aj λL k1 _=>?_
  lk;show%[g,qs,c,ts,lk,z,u,a,b,ρ,o,q,r,v,y,λe s n=>k1 _ _ ?_|λl e ws s B C G I J=>k1 _ _ ?_]
  .lk;show%[Xf _|λp i=>d p _ [] (s.trans (ah.Qa i)) (s.free i) aa (eV _) (.inl %[up.resolve_right n|ρ]) (Xf _)]
  .lk;show d l e ws s B C G (.inr I) J
def vZ{H:Hp}{c:ZB}{qs:ZN}{q:ku×ZM}{d a:lp}{y:oT}(f:cC H c qs)(m:q∈qs)(b:q.2=[.str d,.str a,.int y]):H q.1&&&[.str d,.str a,.int y]/\a∈c:=by
 let%[h|ok]:=f q m;rw[b]at h;rcases ok with⟨g,x,z,e,_⟩|⟨g,x,z,e,_,i,j⟩
 .rw[e]at b;cases b
 .rw[e]at b;cases b;show%[h|i]
abbrev Fst(qs:ZN)(lk:hH ZB)(i j:jg):Prop:=∀a b,Cls qs lk a b->(a,b)=(i,j)\/Lx (i,j) (a,b)
inductive ye (mg:ZC)
 | mk (g:ku) (qs:ZN) (ls:ZB) (ts:ZG):vs=[.ref g]->eZ mg H g qs ls ts->(∀lk,a9 (aQ qs) (ts\2) lk->∀x,¬ Rch lk x x)-> ~~~qs<=60->(∀H' lk,a9 (aQ qs) (ts\2) lk->ah H H'->(∀i j,¬ Cls qs lk i j)->Q .non H')->(∀(t l:ku) H' lk (i j:jg) (ws:ZG) d x y z,a9 (aQ qs) (ts\2) lk->ah H H'->H l=hV->H t=hV->H' t&&&[.int i,.int j,.ref l]->H' l∣.lst (ws\0)->aE H' ws->Few lk x d (ws\2)-> ~~~ws<=300->YS qs "since" i d y->YS qs "by" j x z->Up lk x d->y>z->Fst qs lk i j->Q (.ref t) H')->ye mg vs H Q E0
def Hw(T:Txt K mg):Cal P w K mg base 9 "clash" ["ground"] (ye mg):=by
 .exists T.bo,gx,ae,N,%[g,qs,B,ts,rfl,O,nr,ql,kn|ky];show%[_,%["KCF1G`DA0BCOLjefA1BDEHrPCF2NQ1DDCF3NQ1DDCF4<~S0EHbA2A3AG`EA0ANQ43DANQ42DBB",gx.nd|N]|?_]
  change aR _ _ _ [!g,hV,hV,hV,hV] H;show aj λD1 k1 _=>?_
  lk;show%[g,qs,B,ts,ρ,O,nr,ql|λl U ps lk L Y v C n pl M=>k1 _ _ (aj λD2 k2 r2=>?_)];let ak:oh mg H g qs B ts lk:=%[O,L|nr lk L]
  lk;show%[_,.inl %[_,Qb.of v|ρ]|?_];rw[Z6]
  match ps,C,n,v,M with
  |[],C,n,v,_=>
   rw[lX ∅];show r2 _ _ (kn U lk L Y λi j c=>nomatch (n i j).mpr c)
  | p::ps,C,n,v,M=>
    rw[kw (by simp;lia)];let gp:=C p Zm;let G:atI ((p::ps)\0) ((0:jg):oT)∣V.ref p.1:=bu rfl;let fs:Fst qs lk p.2.1 p.2.2:=λa b h=>by
     let h:=(n a b).mpr h;rw[Yq,Rc]at M;rcases Yw.mp h with h|h
     .show .inl h
     .show .inr (M.1 _ h)
    let%[d,x,y,z,h1,h2,h3|h4]:=(n p.2.1 p.2.2).mp Zm;let%[q1,a1,e1,I|l1]:=h1;let%[q2,a2,e2,J|l2]:=h2;clear n C pl;show k2 _ _ (aj λD3 k3 _=>?_);lk;show%[_,Qb.of v,_,G,_,SqT.of gp,_,ρ|k3 _ _ (aj λD4 k4 _=>?_)];lk;show%[_,Qb.of v,_,G,_,SqT.of gp,_,ρ|k4 _ _ (aj λD5 k5 _=>?_)];let%[c2,c3,c4|gr]:=(O.up Y).gr;lk;show kT gr (.inr (.inl rfl)) %[g,c2,c3,c4,qs,B,ts,rfl,gr|λr fr=>k5 _ _ ?_];let s2:=ah.Qa (o:= .lst (qs\0)) fr;let u:Qa U r (.lst (qs\0)) r=_:=aa;let sa:=(gr.up s2).sa;let m:=Y.trans s2
    generalize Qa U r _=H2 at s2 u sa m
    lk;let%[t1|i1]:=vZ sa (Z8 e1) I;let%[t2|i2]:=vZ sa (Z8 e2) J;show%[_,Qb.of u,.ref q2.1,bu (by rw[Zl,e2];rfl),_,SqT.of t2,_,ρ,_,Qb.of u,.ref q1.1,bu (by rw[Zl,e1];rfl),_,SqT.of t1,_,ρ,g,qs,B,ts,lk,a2,a1,x,d,ρ,ak.up m,i2,i1,l2,l1,h3|λl' H3 ws s3 ab ac tu few wl=>%[#[3]|λt ht=>?_]];let sp:=ah.Qa (o:= .tup [.int p.2.1,.int p.2.2,.ref l']) ht;show ky t l' _ lk _ _ ws d x y z L (m.trans (s3.trans sp)) (m.free ab) ((m.trans s3).free ht) aa (sp _ _ ac) (az tu λb z e=>sp _ _ e) few wl %[q1,a1,e1,I|l1] %[q2,a2,e2,J|l2] h3 h4 fs
def cR(T:Txt K mg):ve P w K mg base 8 "earlier_ones" ["ground"] (im mg):=by
 let gJ:=gJ (P:=P) (w:=w) (base:=base) T;show T.aW.calX dM (λH vs Q E h=>?_)
 .let%[g,qs,a,ts,lk,us,rfl,d,e,i|j]:=h;show%[ρ|λf b A outer s c=>?_];show%[_,QSs.h (ai (aF 1 dM.nd rfl (Ag (oM λ_ _ _ h=>h) gJ c rfl rfl rfl rfl #[↑0])) oS)|?_];show%[g,qs,a,ts,lk,[],ρ,d,e,i|j]
def eK(T:Txt K mg):ve P w K mg base 9 "clashing_pairs" ["ground"] (im mg):=by
 let cR:=cR (P:=P) (w:=w) (base:=base) T;show T.bn.calX aU (λH vs Q E h=>?_)
 .let%[g,qs,a,ts,lk,us,rfl,d,e,i|j]:=h;show%[ρ|λf b A outer s c=>?_];show%[_,QSs.h (ai (aF 1 aU.nd rfl (Ag (oM λ_ _ _ h=>h) cR c rfl rfl rfl rfl #[↑0])) oS)|?_];show%[g,qs,a,ts,lk,[],ρ,d,e,i|j]
def Hy(T:Txt K mg):ve P w K mg base 10 "clash" ["ground"] (im mg):=by
 let eK:=eK (P:=P) (w:=w) (base:=base) T;show T.bo.calX gx (λH vs Q E h=>?_)
 .let%[g,qs,a,ts,lk,us,rfl,d,e,i|j]:=h;show%[ρ|λf b A outer s c=>?_];show%[_,QSs.h (ai (aF 1 gx.nd rfl (Ag (oM λ_ _ _ h=>h) eK c rfl rfl rfl rfl #[↑0])) oS)|?_];show%[g,qs,a,ts,lk,[],ρ,d,e,i|j]
def FC(T:Txt K mg):ve P w K mg base 10 "bounds" ["ground"] (im mg):=by
 let cR:=cR (P:=P) (w:=w) (base:=base) T;show T.bg.calX t7 (λH vs Q E h=>?_)
 .let%[g,qs,a,ts,lk,us,rfl,d,e,i|j]:=h;show%[ρ|λf b A outer s c=>?_];show%[_,QSs.h (ai (aF 1 t7.nd rfl (Ag (oM λ_ _ _ h=>h) cR c rfl rfl rfl rfl #[↑0])) oS)|?_];show%[g,qs,a,ts,lk,[],ρ,d,e,i|j]
inductive uE (mg:ZC)
 | mk (a m b dx l:ku) (lk:hH ZB) (ws ss:ZG) (x:lp) (rs:Gs lp):vs=[.ref a,.ref m,.ref b]->H a∣ExH a (aG mg "Torn") (hX dx)->vU H lk dx l ws x->H m∣.lst (ss\0)->aE H ss->(∀k,k∈lk↔k∈ss\2)->BeF H (ss\2) b rs-> ~~~rs<=1000->x∈rs\1->(∀H',ah H H'->Q (.bl hY) H')->uE mg vs H Q E0
def sd(T:Txt K mg):Cal P w K mg base 2 "_law_is_torn" ["_law_refused","_law_laid","_law_beneath_here"] (uE mg):=by
 .exists T.bL,jN,a3,hr,%[a,m,b,dx,l,lk,ws,ss,x,rs,rfl,hA,d,hm,hs,le,be,rl,hx|kk];let B:∀H2,ah H H2->TyX K H2 (.ref a) (.ref (aG mg "Torn")):=λH2 s2=> .ex %[_,s2 _ _ hA|.inr %[dx,_,rfl|s2 _ _ d.ad]] T.x_Torn.is
  show%[_,%["KCOhpoZ~f~&A0A?1BpoZ~f`FA0A?2BvoZwxA~'0A?3BEHmPCOhpZ~f~&A0AbA?4A?5A?6BBvZ~f~&A0AbA?7A?8A?9BBEHmPCF3~'0COhpL`G3RBvoZG]HA3A1ANQ3DDANQ3DDBEHmPEHljefA3B~F`HAqi?:]DT2a0?;z~a0WT10WWT100B",jN.nd,(rL (mg:=mg) rfl rfl T.c_Torn rfl),(blE (v:= .ty "ValueError") rfl T.ak PyProof.Rows.Boot.«ValueError» rfl rfl rfl),(blE (v:= .ty "list") rfl T.a5 QL rfl rfl rfl),(rL (mg:=mg) rfl rfl T.c_NoCut rfl),(rL (mg:=mg) rfl rfl T.c_NoGround rfl),(rL (mg:=mg) rfl rfl T.c_NoSaying rfl),(rL (mg:=mg) rfl rfl T.c_NoDeed rfl),(rL (mg:=mg) rfl rfl T.c_NoRow rfl),(rL (mg:=mg) rfl rfl T.c_NoLayer rfl),↑(["_law_deposit","_law_beneath_here"],[(1,2)]),↑["_law_deposit","_law_beneath_here"]|hr]|?_]
  change aR _ _ _ [!a,!m,!b,hV] H;show aj λD1 k1 r1=>?_
  lk;show%[_,B _ (ah.refl _),hY,.inl T.k_Torn_Torn|mT %[_,B _ (ah.refl _),hY,T.k_Torn_ValueError|mT %[a,dx,_,.ref l,ρ,hA,d.ad,ρ,_,.lst d.al,hY,ρ|mT (k1 _ _ (aj λD2 k2 r2=>?_))]]];lk;show%[#[3]|λp hp=>?_];let sp:=ah.Qa (o:= .tup [V.ref (aG mg "NoCut"),V.ref (aG mg "NoGround"),V.ref (aG mg "NoSaying")]) hp;show%[_,B _ sp,iv,.inr %[_,aa|T.k_Torn_any0]|?_]
  generalize Qa H p _=H1 at sp
  show mT %[#[3]|λp2 ak=>?_];let G:=sp.trans (ah.Qa (o:= .tup [V.ref (aG mg "NoDeed"),V.ref (aG mg "NoRow"),V.ref (aG mg "NoLayer")]) ak);show%[_,B _ G,iv,.inr %[_,aa|T.k_Torn_any1]|?_]
  generalize Qa H1 p2 _=H2 at G
  show mT (k2 _ _ (aj λD3 k3 r3=>?_));lk;show%[a,dx,_,.ref l,ρ,G _ _ hA,G _ _ d.ad,ρ|k3 _ _ (aj λD4 k4 r4=>?_)];lk;show%[Xf _|λp3 al=>?_];let U:=G.trans (ah.Qa (o:= .lst []) al);show%[_,U _ _ d.al,aa|?_]
  generalize Qa H2 p3 _=H3 at U
  obtain⟨C,Y,rfl⟩:∃C Y,ws=C::Y:=match ws,d.sho.pos with|C::Y,_=>%[C,Y|rfl]
  rw[kw ∅];let l3:=U _ _ d.al;let ab:=d.sho.wal;let t0:SqT K H3 C.1 (C.2\3):=SqT.of (U _ _ (d.tu C Zm).2);let e0:atI (C.2\3) 0∣.str x:=by
   let%[c,z,ew|_]:=ab;rw[show C.2=[x,c,z]from ew];rfl
  let i0:atI ((C::Y)\0) 0∣.ref C.1:=bu (j:=0) rfl;show%[_,Qb.of l3,_,i0,_,t0,_,e0,_,Qb.of l3,_,i0,_,t0,_,e0,l,m,x,x,C::Y,ss,ρ,l3,az d.tu (λb z e=>U _ _ e),U _ _ hm,az hs (λb z e=>U _ _ e),(λt ht=>(le _).mp (d.sho.sub _ (Xq %[t,ht|ρ]))),ab,d.len|λH4 s4=>(k4 _ _ ?_)];let s4:=U.trans s4;lk;let ac:=be.up s4;let%[o|ho]:=ac.at_;show%[_,.inl %[_,Qb.of (s4 _ _ d.al)|ρ]|aL λa0 hK=>?_];unfold Au;lk;show%[_,_,ho|hK _ _ λF hF=>?_];let gl: ~~~(gD rs)= ~~~rs:=Z6 _;show dJ (J:=Itk b o (gD rs)) (n:= ~~~(gD rs)) (D:=F) (λi ts σ H'=>A4 (∃o1,σ=[o1,!b]) (ah H4 H') (H' F<*ts) (∃L:ZL,A4 (ts=L\4) (~~~L<=i) (∀n∈L,∃y k,n=((k+1:jg):oT)/\Dst (ss\2) y (k+1) y) (∀r∈rs.take i,Rch (ss\2) r.1 r.1->∃n∈L,∀m,Dst (ss\2) r.1 (m+1) r.1->n<=((m+1:jg):oT))))
   %[%[hV|rfl],ah.Qa hF,aa,[],rfl,Zi _,(λ_ h=>nomatch h)|λ_ h=>nomatch h] (λi _ _ H' hi ⟨_,N,_,_⟩=>%[N _ _ ho|hi]) (λ_ _ H' ⟨_,N,_,_⟩=>%[N _ _ ho|Zi _]) ?_ ?_
  .intro i ts σ H' hi %[%[o1|rfl],N,O,L,rfl,nl,n1|n2] x H2 %[e2,k,v,hk|hx];subst e2;let il:i< ~~~rs:=by lia
   obtain⟨r,I⟩:∃r,rs[i]?∣r:=%[_|Z4 il]
   let an:(gD rs)[i]?∣(kG r.1,V.ref r.2.1):=by unfold gD;rw[Zl,I];rfl
   rw[an]at hk;cases hk;obtain rfl:x=V.str r.1:=hx;let%[a,M,ga,%[g,ha|as],_|hM]:=(ac.up N).get (Xq %[r,Z8 I|rfl]);let tk:rs.take (i+1)=rs.take i++[r]:=by rw[Xa,I];rfl
   let dk:=b8.k (k:=kG r.1) ha;lk;show%[_,ga,_,dk|bv (λc=>?_) λc=>CN.mk hi %[%[_|ρ],N,O,L,ρ,⋯,n1|λq hq h=>?_]]
   .let ae:=nA.mp c;let%[n,en,d1|d2]:=as _ ae;rw[iB ae]at dk;show%[_,ga,_,dk|CK.mk hi O (by rw[Z6];show aC ⋯) %[%[_|ρ],ah.set N hF,aa,L++[g r.1],by rw[Zd];rfl,by rw[Z9];show X9 nl,λz hz=>?_|λq hq h=>?_]]
    .rcases Xn hz with u|u
     .show n1 z u
     .rw[Xo u];show%[_,n,en|d1]
    .rw[tk]at hq;rcases Xn hq with u|u
     .let%[z,hz|q2]:=n2 q u h;show%[z,Yu _ hz|q2]
     .rw[Xo u];show%[_,Yv _ Zm|λm hm=>by rw[en];let:=d2 m hm;lia]
   .rw[tk]at hq;rcases Xn hq with u|u
    .show n2 q u h
    .rw[Xo u]at h;show(c (nA.mpr ((hM _).mpr h))).elim
  .intro ts σ H' %[_,N,O,L,rfl,nl,n1|n2];rw[gl,Xd]at n2;let%[k,ek|dk]:=d.sho.dst;rw[gH le]at dk;let%[r,I|rfl]:=Xp hx;let%[n,hn|ag]:=n2 r I dk.rch;let nk:=ag _ dk;rw[Z6]at ek;show%[L,Qb.of O,TF hn|λq hq qm=>?_];let%[y,k2,rfl|d2]:=n1 q hq;let a1:=qm n hn;let a2:=d.min y k2 (by rw[gH le];show d2);rw[show decide ((~~~((C::Y)\0):oT)=((k2+1:jg):oT))=hY from Zf (by rw[Z6];lia)];show kk _ (s4.trans N)
def mM{qs:ZN}{lk mk:hH ZB}(e:∀k,k∈lk↔k∈mk){i j:jg}:Cls qs lk i j↔Cls qs mk i j:=by
 unfold Cls Up;simp only[dv e]
def Hz{qs:ZN}{lk:hH ZB}{i j p n:jg}(h:Fst qs lk i j)(c:Cls qs lk i j)(g:Fst qs lk p n)(d:Cls qs lk p n):i=p/\j=n:=by
 let a:=h p n d;let b:=g i j c;rcases a with a|a
 .cases a;show%[ρ|ρ]
 rcases b with b|b
 .cases b;show%[ρ|ρ]
 unfold Lx at a b
 lia
def FD{qs:ZN}{c d e:lp}{n:jg}{y z:oT}(h:YS qs c n d y)(g:YS qs c n e z):d=e:=by
 let%[q,a,j,o|l]:=h;let%[p,b,f,i|m]:=g;rw[j]at f;cases f;rw[o]at i;cases i;show l.one m
structure Fcl (qs:ZN) (lk:hH ZB) (i j:jg) (x d:lp):Prop where
 up:Up lk x d
 cl:∃y z,YS qs "since" i d y/\YS qs "by" j x z/\y>z
 fs:Fst qs lk i j
def Fcl.cls{qs:ZN}{lk:hH ZB}{i j:jg}{x d:lp}(h:Fcl qs lk i j x d):Cls qs lk i j:=by
 let%[y,z,a,b|c]:=h.cl;show%[d,x,y,z,a,b,h.up|c]
def Fcl.same{qs:ZN}{lk mk:hH ZB}{i j:jg}{x d:lp}(h:Fcl qs lk i j x d)(e:∀k,k∈lk↔k∈mk):Fcl qs mk i j x d:=
 %[h.up.imp id λr=>by rw[<-dv e];show r,h.cl|λa b c=>h.fs a b ((mM e).mpr c)]
def Fcl.one{qs:ZN}{lk:hH ZB}{i j p n:jg}{x d v e:lp}(h:Fcl qs lk i j x d)(g:Fcl qs lk p n v e):i=p/\j=n/\x=v/\d=e:=by
 let%[rfl|rfl]:=Hz h.fs h.cls g.fs g.cls;let%[y,z,a,b|_]:=h.cl;let%[l,m,c,f|_]:=g.cl;show%[ρ,ρ,FD b f|FD a c]
def FE{d:ZB}{vs:ZM}(h:my d vs):∃w r,vs=V.str w::r/\(w="since"\/w="by"->∃a y,r=[.str a,.int y]/\a∈d):=by
 rcases h with⟨w,a,b,rfl,hw,_⟩|⟨w,a,y,rfl,_,e,_⟩
 .show%[w,_,ρ|λc=>?_];rcases hw with rfl|rfl<;> rcases c with c|c<;> show n0 c (!1)
 .show%[w,_,ρ|λ_=>%[a,y,ρ|e]]
def Bf{qs:ZN}{b d w:lp}{n:jg}{y:oT}{q:ku×ZM}{r:ZM}(h:YS qs b n d y)(g:qs[n]?∣q)(e:q.2=V.str w::r):w=b/\∃a,r=[.str a,.int y]/\bJ (aQ qs) a d:=by
 let%[i,a,c,f|l]:=h;rw[g]at c;cases c;rw[e]at f;cases f;show%[ρ,a,ρ|l]
def KY{qs:ZN}{lk:hH ZB}{i j:jg}(h:∀p n,p<i-> ¬ Cls qs lk p n)(g:∀n,n<j-> ¬ Cls qs lk i n):Fst qs lk i j:=λa b c=>by
 let d: ¬ a<i:=λq=>h a b q c
 by_cases e:a=i
 .let l: ¬ b<j:=λq=>g b q (e▸c)
  by_cases f:b=j
  .show .inl (by rw[e,f])
  .show .inr (.inr %[e.symm|(show j<b by lia)])
 .show .inr (.inl (show i<a by lia))
inductive FF
 | mk (a d b:ku) (qs:ZN) (ls ms:ZB) (gm:lp->lp) (lk:hH ZB) (rs:Gs lp):vs=[.ref a,.ref d,.ref b]->H a∣.lst (qs\0)->cC H ls qs->H d∣.dK (NmD ms gm)->(∀z∈ls,z∈ms)->(∀z∈ms,bJ (aQ qs) z (gm z))->BeF H lk b rs->(∀z∈ms,gm z∈rs\1)->(∀H',ah H H'->(∀i j,¬ Cls qs lk i j)->Q .non H')->(∀u H' (i j:jg) x e,ah H H'->H u=hV->H' u&&&[.int i,.int j,.str x,.str e]->Fcl qs lk i j x e->Q (.ref u) H')->FF vs H Q E0
def Cz(T:Txt K mg):Cal P w K mg base 1 "_law_due" ["_law_sayings","_law_homes_here","_law_beneath_here"] FF:=by
 .exists T.bM,dO,ag,hr,%[a,d,b,qs,ls,ms,L,lk,rs,rfl,ha,sa,hd,lm,lg,be,rk,kn|ky];let ga:∀{m:Hp},ah H m->∀z∈ls,b8 m d (.str z) (hX (.str (L z))):=λ{m} N z hz=>by
   let:=b8.k (k:=kG z) (N _ _ hd);rwa[iA (lm z hz)]at this
  let ac:∀{w:lp} {r:ZM},atI (V.str w::r) 0∣V.str w:=λ{w r}=>bu (j:=0) rfl
  let qn:∀{i:jg} {x:V},(qs\0)[i]?∣x->∃q,qs[i]?∣q/\x= .ref q.1:=λ{i x} h=>by
   rw[Zl]at h;let%[q,e|rfl]:=Mu.mp h;show%[q,e|ρ]
  show%[_,%["KCS|A0BgMJ3MJ4cES|A0BgMJ5MJ6cEOh/LjN4DV/LjN6DV^L=N4DN6DCF7W1N4DCF8W1N6DEOhpLj87v~a7W28EHbA3A5A8A7BPPEHr",dO.nd|hr]|?_]
  change aR _ _ _ [!a,!d,!b,hV,hV,hV,hV,hV,hV] H;show aj λD1 k1 r1=>ay λae hK=>?_
  lk;show%[_,Qb.of ha|hK _ _ (fU (λi O m=>E6 λo3 o4 o5 o6 C G=>A3 (O=[!a,!d,!b,o3,o4,o5,o6,C,G]) (ah H m) (∀p n,p<i-> ¬ Cls qs lk p n))
   %[_,_,_,_,_,_,ρ,ah.refl _|λ_ _ h=>nomatch h] (λi O m _ ⟨_,_,_,_,_,_,_,N,_⟩=>Qb.of (N _ _ ha)) ?_ ?_)]
  .intro i x TT O m hx %[o3,o4,o5,o6,C,G,rfl,N|nc] hT;let%[q,hq|rfl]:=qn hx;let sT:=N.trans (ah.Qa (o:= .tup [.int i,.ref q.1]) hT);let gT:Qa m TT (.tup [.int i,.ref q.1]) TT∣_:=aa
   generalize Qa m TT _=H1 at sT gT
   show%[_,SqT.of gT,ρ,_,_,ρ,_,_,ρ,ρ|?_];change uG _ _ _ _ [!a,!d,!b,hX (.int i),hX (.ref q.1),o5,o6,C,G] H1;show aA λD2 k2 r2=>ay λae hK=>?_
   lk;show%[_,Qb.of (sT _ _ ha)|hK _ _ (fU (λj O m=>E4 λo5 o6 C G=>A3 (O=[!a,!d,!b,hX (.int i),hX (.ref q.1),o5,o6,C,G]) (ah H m) (∀n,n<j-> ¬ Cls qs lk i n))
    %[_,_,_,_,ρ,sT|λ_ h=>nomatch h] (λi O m _ ⟨_,_,_,_,_,N,_⟩=>Qb.of (N _ _ ha)) ?_ ?_)]
   .intro j y UU O H2 hy %[o5,o6,C,G,rfl,s2|nd] hU;let%[p,hp|rfl]:=qn hy;let U:=s2.trans (ah.Qa (o:= .tup [.int j,.ref p.1]) hU);let gU:Qa H2 UU (.tup [.int j,.ref p.1]) UU∣_:=aa
    generalize Qa H2 UU _=H3 at U gU
    show%[_,SqT.of gU,ρ,_,_,ρ,_,_,ρ,ρ|?_];change j8 _ _ _ _ [!a,!d,!b,hX (.int i),hX (.ref q.1),hX (.int j),hX (.ref p.1),C,G] H3;show aA λD3 k3 r3=>?_
    let go: ¬ Cls qs lk i j->∀C G,D3.nx [!a,!d,!b,hX (.int i),hX (.ref q.1),hX (.int j),hX (.ref p.1),C,G] H3:=λc C G=>k3 _ _ %[_,_,_,_,rfl,U|λn hn=>by
     by_cases e:n=j
     .rw[e];show c
     .show nd n ⋯]
    let%[v|sq]:=sa q (Z8 hq);let%[B|sp]:=sa p (Z8 hp);let%[w1,ak,e1|f1]:=FE sq;let%[w2,al,e2|f2]:=FE sp;let v:=U _ _ v;let B:=U _ _ B;rw[e1]at v;rw[e2]at B;lk;show%[_,SqT.of v,_,ac,ρ|bv (λc1=>?_) λc1=>go (λ⟨_,_,_,_,y1,_⟩=>c1 (Zf (sU V.str (Bf y1 hq e1).1))) _ _];show%[_,SqT.of B,_,ac,ρ|bv (λc2=>?_) λc2=>go (λ⟨_,_,_,_,_,y2,_⟩=>c2 (Zf (sU V.str (Bf y2 hp e2).1))) _ _];obtain rfl:=V.str.inj (Zo c1);obtain rfl:=V.str.inj (Zo c2);let%[J,y1,rfl|ab]:=f1 (.inl rfl);let%[I,y2,rfl|Y]:=f2 (.inr rfl);let ends:∀{d x y z},YS qs "since" i d y->YS qs "by" j x z->d=L J/\x=L I/\y=y1/\z=y2:=λu1 u2=>by
     let%[_,a,e|l1]:=Bf u1 hq e1;cases e;let%[_,b,e|l2]:=Bf u2 hp e2;cases e;show%[l1.one (lg J (lm J ab)),l2.one (lg I (lm I Y)),ρ|ρ]
    show%[_,SqT.of v,.int y1,ρ,_,SqT.of B,.int y2,ρ|bv (λc3=>?_) λc3=>go (λ⟨_,_,y,z,u1,u2,_,lt⟩=>?_) _ _]
    .show%[_,SqT.of v,_,ρ,_,ga U J ab,_,SqT.of B,_,ρ,_,ga U I Y|?_];let%[l,M,gb,%[g,hb|an],_|hM]:=(be.up U).get (rk I (lm I Y));let ret:Up lk (L I) (L J)->∀u,H3 u=hV->D3.rt (.ref u) (Qa H3 u (.tup [.int i,.int j,.str (L I),.str (L J)])):=λup u hu=>
      r3 _ _ (r2 _ _ (r1 _ _ (ky u _ i j _ _ (U.trans (ah.Qa hu)) (U.free hu) aa %[up,%[y1,y2,%[q,J,hq,e1|lg J (lm J ab)],%[p,I,hp,e2|lg I (lm I Y)]|Zo c3]|KY nc nd])))
     show%[ρ|bv (λc=>%[#[4]|ret (.inl (V.str.inj (Zo c)))]) λc=>%[_,gb,_,b8.k (k:=kG (L J)) hb|bv (λc'=>%[#[4]|ret (.inr ((hM _).mp (nA.mp c')))]) λc'=>go (λ⟨_,_,y,z,u1,u2,up,lt⟩=>?_) _ _]];let%[rfl,rfl|_]:=ends u1 u2;rcases up with up|up
     .show c (Zf (sU V.str up))
     .show c' (nA.mpr ((hM _).mpr up))
    .let%[_,_,rfl|rfl]:=ends u1 u2;show c3 (Zf lt)
   .intro O H2 %[o5,o6,C,G,rfl,s2|nd];show k2 _ _ %[_,_,_,_,_,_,rfl,s2|λp n hp=>?_];by_cases e:p=i
    .by_cases f:n< ~~~qs
     .rw[e];show nd n (by rw[Z6];show f)
     .rintro⟨_,_,_,_,_,⟨q',_,e1,_⟩,_⟩;show f (Xm e1).1
    .show nc p n ⋯
  .intro O m %[o3,o4,o5,o6,C,G,rfl,N|nc];show k1 _ _ ?_;lk;show kn _ N λp n c=>?_
   by_cases f:p< ~~~qs
   .show nc p n (by rw[Z6];show f) c
   .let%[_,_,_,_,%[q',_,e1|_]|_]:=c;show f (Xm e1).1
abbrev zP(mg:ZC):Sp:=λvs H Q _=>∃(g m b:ku) (qs:ZN) (c:ZB) (ts ss:ZG) (rs:Gs lp),vs=[.ref g,.ref m,.ref b]/\eZ mg H g qs c ts/\a9 (aQ qs) (ts\2) (ss\2)/\(∃x,Rch (ss\2) x x)/\H m∣.lst (ss\0)/\aE H ss/\BeF H (ss\2) b rs/\ ~~~rs<=1000/\(∀x,Rch (ss\2) x x->x∈rs\1)/\
 ∀a,ah H a->Q (.bl hY) a
def rj(T:Txt K mg):Cal P w K mg base 11 "_law_all_torn" ["_law_ground_here","_law_laid","_law_beneath_here"] (zP mg):=by
 let XL:=Hy (P:=P) (w:=w) (base:=base) T;let XD:=FC (P:=P) (w:=w) (base:=base) T;show T.bP.cal cY (λH vs Q E h=>?_)
 .let%[g,m,b,qs,ls,ts,ss,rs,rfl,hg,U,hx,hm,hs,be,rl,Y|kk]:=h;show%[ρ|λf ae A outer s hr=>?_];show%[_,%["KCSURA?1A?2A?1BJ3CF4rC?3COoZG`IA4A1A2BEHmPEX`J`K~'4EHm",cY.nd,(rL (mg:=mg) rfl rfl T.bo.at_ rfl),(rL (mg:=mg) rfl rfl T.bg.at_ rfl),(tryE (i:=5) rfl rfl cY.nd rfl rfl rfl rfl T.c_DigError T.t_DigError rfl (λ_ _=>
    (ap (bB rfl (L5 Ch hr rfl rfl ↑3 #[↑0]))))
    (λ_=>(ap (aF 4 cY.nd rfl ↑5))))|hr]|?_]
  change aR _ _ _ [!g,!m,!b,hV,hV,hV] H;show aj λD1 k1 r1=>ay λac hK=>?_
  lk;show%[#[3]|λp hp=>?_];let ab:∀v∈[V.ref (aG mg "clash"),V.ref (aG mg "bounds"),V.ref (aG mg "clash")],∃y,v= .ref (aG mg y)/\ve P w K mg base 10 y ["ground"] (im mg):=by
   intro v r;rcases Yw.mp r with rfl|r
   .show%[_,ρ|XL]
   rcases Yw.mp r with rfl|r
   .show%[_,ρ|XD]
   rw[Xo r];show%[_,ρ|XL]
  let sp:=ah.Qa (o:= .lst [V.ref (aG mg "clash"),V.ref (aG mg "bounds"),V.ref (aG mg "clash")]) hp;let gp:Qa H p (.lst [V.ref (aG mg "clash"),V.ref (aG mg "bounds"),V.ref (aG mg "clash")]) p=_:=aa
  generalize Qa H p _=H1 at sp gp
  show%[%[_|Qb.of gp]|hK _ _ (eP (λi M n=>(∃o3 N,M=[!g,!m,!b,o3,N,hV])/\ah H1 n) %[%[_,_|ρ]|ah.refl _] (λi M n _ ⟨_,u⟩=>Qb.of (u _ _ gp)) ?_ ?_)]
  .intro i v M n r %[%[o3,N|rfl]|u];let%[y,rfl|hy]:=ab v (Z8 r);let s1:=sp.trans u;change aR _ _ _ [!g,!m,!b,hX (.ref (aG mg y)),N,hV] n;show aj λD2 k2 r2=>?_
   lk;show k2 _ _ (aj λD3 k3 r3=>?_);obtain⟨XE,I⟩:∃XE:_LL.St->XK,XE=λJ c d G=>J=[!g,!m,!b,hX (.ref (aG mg y)),hX .non,hV]/\c= .ref (aG mg "Torn")/\∃j l ws x,d∣j/\ah n G/\n j=hV/\n l=hV/\j≠l/\vU G (ss\2) j l ws x:=%[_|rfl]
   show%[XE,?_|?_]
   .lk;show%[10,y,["ground"],_,hy,ρ,ρ|?_];change im mg [.ref g] n _ _;show%[g,qs,ls,ts,ss\2,[],ρ,hg.up s1,U,hx|λd l G ws x s' hd hl dl q=>by rw[I];show%[ρ,ρ,d,l,ws,x,ρ,s',hd,hl,dl|q]]
   .intro J c d G h;rw[I]at h;let%[rfl,rfl,j,l,ws,x,rfl,s2,ag,fl,ak|q]:=h;show%[_,ρ,T.u_Torn|λa _ ha=>?_];let hA:Qa G a (ExH a (aG mg "Torn") (hX j)) a∣_:=aa;let L:=ah.Qa (o:=ExH a (aG mg "Torn") (hX j)) ha;let B:=s2.trans L;change rA _ _ _ [!g,!m,!b,hX (.ref (aG mg y)),hX .non,!a] _
    generalize Qa G a _=H3 at hA L B
    show aA λD4 k4 r4=>?_
    lk;show k4 _ _ (k3 _ _ ?_);change aR _ _ _ [!g,!m,!b,hX (.ref (aG mg y)),!a,hV] H3;show aj λD5 k5 r5=>?_
    lk;let s3:=s1.trans B;let C:vU H3 (ss\2) j l ws x:=%[L _ _ q.ad,L _ _ q.al,az q.tu (λb z e=>L _ _ e),q.sho,q.min|q.len]
    show%[a,m,b,j,l,ss\2,ws,ss,x,rs,ρ,hA,C,s3 _ _ hm,az hs (λb z e=>s3 _ _ e),(λk=>OK),be.up s3,rl,Y x q.sho.rch|λH4 O=>(k5 _ _ (aA λD6 k6 r6=>?_))];lk;let l4:=O _ _ C.al;show%[a,j,_,.ref l,ρ,O _ _ hA,O _ _ C.ad,ρ,tyL (Qb.of l4),%[_|l4]|k6 _ _ %[%[_,_|ρ]|ah.set (u.trans (B.trans O)) (u.free fl)]]
  .intro M n %[%[o3,N|rfl]|u];show k1 _ _ ?_;lk;show kk _ (sp.trans u)
structure CA (H:Hp) (qs:ZN) (lk:hH ZB) (u l:ku) (i j:jg) (ws:ZG) (x d:lp):Prop where
 tu:H u&&&[.int i,.int j,.ref l]
 li:H l∣.lst (ws\0)
 ta:aE H ws
 few:Few lk x d (ws\2)
 wl: ~~~ws<=300
 fc:Fcl qs lk i j x d
def CA.up{H a:Hp}{qs:ZN}{lk:hH ZB}{u l:ku}{i j:jg}{ws:ZG}{x d:lp}(h:CA H qs lk u l i j ws x d)(s:ah H a):CA a qs lk u l i j ws x d:=%[s _ _ h.tu,s _ _ h.li,az h.ta λb z e=>s _ _ e,h.few,h.wl|h.fc]
def Ie{H:Hp}{xs:ZM}(h:xs.all iw=hY)(j:jg)(x y:V)(a:xs[j]?∣x)(b:xs[j]?∣y):pY H x y:=by
 rw[a]at b;cases b;show .inl %[rfl|w8 h a]
inductive yf (mg:ZC)
 | mk (g:ku) (qs:ZN) (ls:ZB) (ts:ZG):vs=[.ref g]->eZ mg H g qs ls ts->(∀lk,a9 (aQ qs) (ts\2) lk->∀x,¬ Rch lk x x)-> ~~~qs<=60->(∀t H' lk,a9 (aQ qs) (ts\2) lk->ah H H'->H t=hV->H' t<*[.non,.non]->(∀i j,¬ Cls qs lk i j)->Q (.ref t) H')->(∀t u l H' lk i j ws x d,a9 (aQ qs) (ts\2) lk->ah H H'->H l=hV->H u=hV->H t=hV->H' t<*[.ref u,.non]->CA H' qs lk u l i j ws x d->Q (.ref t) H')->yf mg vs H Q E0
inductive FG (vs:ZM) (H:Hp) (Q:VK):Prop
 | mk (u v m b l:ku) (qs:ZN) (lk:hH ZB) (i j:jg) (ws ss:ZG) (x d:lp) (rs:Gs lp):vs=[.ref u,.ref v,.ref m,.ref b]->CA H qs lk u l i j ws x d->H v&&&[.int i,.int j,.str x,.str d]->H m∣.lst (ss\0)->aE H ss->(∀k,k∈lk↔k∈ss\2)->BeF H (ss\2) b rs->x∈rs\1->(∀y,¬ Rch lk y y)->(∀H',ah H H'->Q (.bl hY) H')->FG vs H Q
abbrev FH:Sp:=λvs H Q _=>(∃m b:ku,vs=[.non,.non,.ref m,.ref b]/\Q (.bl hY) H)\/FG vs H Q
inductive Ig (vs:ZM) (H:Hp) (Q:VK):Prop
 | mk (u l:ku) (i j:jg) (xs:ZM):vs=[.ref u]->H u&&&[.int i,.int j,.ref l]->H l<*xs->(∀t k H',ah H H'->H t=hV->H k=hV->H' t&&&[.int i,.int j,.ref k]->H' k<*xs->Q (.ref t) H')->Ig vs H Q
abbrev HA:Sp:=λvs H Q _=>(vs=[.non]/\Q .non H)\/Ig vs H Q
def ro(T:Txt K mg):Cal P w K mg base 10 "_law_told" ["_law_ground_here"] (yf mg):=by
 .exists T.bN,h9,q,r,%[g,qs,n,ts,rfl,v,nr,B,C|G];show%[_,(QSs.h (ai (aF 1 h9.nd rfl gM)
   (ai (aF 2 h9.nd rfl gM)
   (ai (LI (λ_ _ h=>h) (ap (aF 1 h9.nd rfl (aJ (Hw T) r rfl #[↑0]))))
   (ap (aK (bO #[↑1,↑2])))))))|?_]
  change aR _ _ _ [!g,hV,hV,hV] H;show aj λD1 k1 _=>?_
  lk;show k1 _ _ (aj λD2 k2 _=>?_);lk;show k2 _ _ (aj λD3 p _=>?_);lk;show%[g,qs,n,ts,ρ,v,nr,B,λI lk m a J=>p _ _ ?_|λu l I lk i j ws d x y z m a L M N O U few Y y1 y2 up yz fs=>p _ _ ?_]
  .lk;show%[#[2]|λt c=>C t _ lk m (a.trans (ah.Qa c)) (a.free c) aa J]
  .lk;show%[#[2]|λt c=>?_];let sp:=ah.Qa (o:= .lst [V.ref u,V.non]) c;show G t u l _ lk i j ws x d m (a.trans sp) L M (a.free c) aa %[sp _ _ N,sp _ _ O,az U λb z e=>sp _ _ e,few,Y,up,%[y,z,y1,y2|yz]|fs]
def zQ(T:Txt K mg):Cal P w K mg base 1 "_law_copy" ["_law_told_here"] HA:=by
 show T.bQ.cal xp λH vs Q E h=>⟨?_,λf e A outer s r=>?_⟩
 .obtain⟨rfl,_⟩|⟨u,l,i,j,xs,rfl,_⟩:=h<;> rfl
 .show%[_,%["KCOL~C0rEHrPEHbAN0DAN0DA*;AN0DBB"|0]|?_]
  obtain⟨rfl,q⟩|⟨u,l,i,j,xs,rfl,a,g,m⟩:=h
  .change aR _ _ _ [hX .non] H;show aj λn k1 p=>?_
   lk;show p _ _ q
  .change aR _ _ _ [!u] H;show aj λn k1 _=>?_
   lk;show k1 _ _ ?_;lk;show%[_,SqT.of a,_,ρ,_,SqT.of a,_,ρ,_,SqT.of a,.ref l,ρ,_,.inl (Qb.of g)|λk b=>%[#[3]|λt c=>?_]];let d:=ah.Qa (o:= .lst xs) b;let st:=ah.Qa (o:= .tup [.int i,.int j,.ref k]) c;show m t k _ (d.trans st) (d.free c) b aa (st _ _ aa)
def yg(T:Txt K mg):Cal P w K mg base 2 "_law_right" ["_law_told_here","_law_due_here","_law_laid","_law_beneath_here"] FH:=by
 show T.bO.cal vJ λH vs Q E h=>⟨?_,λf ab A outer s N=>?_⟩
 .obtain⟨m,b,rfl,_⟩|⟨u,v,m,b,l,qs,lk,i,j,ws,ss,x,d,rs,rfl,_⟩:=h<;> rfl
 .show%[_,%["KCOhpL~C1rvL~C0rEH&l~C1r'l~C0rPCOhpoZwxA0A?1BpL+efA0BDvL~(~g0[}D~g1[}DEHmPCOhpZwxAN0DA?2BvZwxAN0DA?2BEHmPEH&G]HAN0DA2AN1DAN1DB'ljefAN0DB~H~IW3N1DAN1DADB",0,(blE (v:= .ty "tuple") rfl T.ag Sk rfl rfl rfl),(blE (v:= .ty "bool") rfl T.ai boot_bool rfl rfl rfl)|N]|?_]
  obtain⟨m,b,rfl,q⟩|⟨u,v,m,b,l,qs,lk,i,j,ws,ss,x,d,rs,rfl,ca,r,hm,hs,L,be,hx,nr,kk⟩:=h
  .change aR _ _ _ [hX .non,hX .non,!m,!b] H;show aj λD1 k1 r1=>?_
   lk;show r1 _ _ q
  .change aR _ _ _ [!u,!v,!m,!b] H;show aj λD1 k1 _=>?_
   lk;show k1 _ _ (aj λD2 k2 _=>?_);lk;show%[_,.tup ca.tu,hY,ρ|mT %[3,.inr %[_,SqT.of ca.tu|ρ]|Lj (c:=((3:jg):oT)=3) rfl %[_,SqT.of ca.tu,(show ¬ (_HT.sIx 3 0 hV=0/\_HT.sIx 3 3 (hX 2)=3) by decide)|λp hp=>%[_,SqT.of (ah.Qa hp _ _ r),(show ¬ (_HT.sIx 4 0 hV=0/\_HT.sIx 4 4 (hX 2)=4) by decide)|λO G=>?_]]]];let s1:=ah.Qa (o:= .tup [.int i,.int j]) hp;let y:=s1.trans (ah.Qa (o:= .tup [.int i,.int j]) G);show%[.inr %[p,O,[.int i,.int j],[.int i,.int j],ρ,ρ,ah.Qa G _ _ aa,aa,ρ|Ie rfl]|?_];show k2 _ _ (aj λD3 k3 _=>?_);change ah H (Qa (Qa H p (.tup (kb [.int i,.int j,.ref l] hV (hX 2)))) O (.tup (kb [.int i,.int j,.str x,.str d] hV (hX 2))))at y
   generalize Qa (Qa H p (.tup (kb [.int i,.int j,.ref l] hV (hX 2)))) O _=H2 at y ⊢
   let ca:=ca.up y;let r:=y _ _ r;lk;show%[_,SqT.of ca.tu,.int i,ρ,_,.int _,iv,ρ|mT %[_,SqT.of ca.tu,.int j,ρ,_,.int _,iv,ρ|mT (k3 _ _ ?_)]];lk;let wl:Wal (ws\2) x d/\∀t∈ws,t.2∈ss\2:=by
    rcases ca.few with⟨rfl,e⟩|I
    .rw[Ux.mp e];show%[ρ|λ_ h=>nomatch h]
    .show%[I.wal|λt ht=>(L _).mp (I.sub _ (Xq %[t,ht|ρ]))]
   show%[_,SqT.of ca.tu,.ref l,ρ,_,SqT.of r,.str x,ρ,_,SqT.of r,.str d,ρ,l,m,x,d,ws,ss,ρ,ca.li,ca.ta,y _ _ hm,az hs (λb z e=>y _ _ e),wl.2,wl.1,ca.wl|λH4 C=>?_];let ca:=ca.up C;let r:=C _ _ r;let C:=y.trans C;let%[a,M,ga,%[g,ha|U],_|hM]:=(be.up C).get hx;let Y:(bX (VD M λx=>V.int (g x)) (kG d)).getD (.int 0)= .int (~~~ws:oT):=by
    rcases ca.few with⟨rfl,e⟩|I
    .rw[ii (λc=>nr _ (by rw[dv L];show(hM _).mp c))];rw[Ux.mp e];rfl
    .let%[k,ek|dk]:=I.dst;let B:=dk;rw[gH L]at B;let J:=(hM d).mpr B.rch;let%[n,en,d1|d2]:=U d J;rw[iB J];let:=d2 k B;let:=I.min n (by rw[gH L];show d1);rw[Z6]at ek this;change V.int (g d)=_;rw[en]
     congr 1
     lia
   lk;show%[_,SqT.of ca.tu,.ref l,ρ,~~~ws,.inl %[_,Qb.of ca.li|(Z6 _).symm],_,SqT.of r,.str x,ρ,.ref a,ga,tyD ha,_,SqT.of r,.str d,ρ,kG d,ρ,_,ha|?_];rw[Y];show%[ρ|?_];rw[Zf rfl];show kk _ C
inductive KxT (qs:ZN) (lk:hH ZB) (kp:ku) (H6 H:Hp) (v w:V):Prop
 | mk (u l t c:ku) (i j:jg) (ws:ZG) (x d:lp):v= .ref u->w= .ref t->CA H qs lk u l i j ws x d->H t&&&[.int i,.int j,.ref c]->H c∣.lst (ws\0)->H6 l=hV->l≠c->l≠kp->c≠kp->KxT qs lk kp H6 H v w
inductive Kx (mg:ZC) (kp:ku) (H6 H:Hp) (g:ku) (v w:V):Prop
 | mk (qs:ZN) (ls:ZB) (ts:ZG) (lk:hH ZB):eZ mg H6 g qs ls ts->a9 (aQ qs) (ts\2) lk->(∀x,¬ Rch lk x x)-> ~~~qs<=60->(v= .non/\w= .non)\/KxT qs lk kp H6 H v w->Kx mg kp H6 H g v w
def KxT.keep{qs:ZN}{lk:hH ZB}{a:ku}{f H g:Hp}{v w:V}(h:KxT qs lk a f H v w)(k:∀b o,(b≠a\/∀xs,o≠ .lst xs)->H b∣o->g b∣o):KxT qs lk a f g v w:=by
 let%[u,l,t,c,i,j,ws,x,d,p,q,ca,r,s,y,A,m|n]:=h;show%[u,l,t,c,i,j,ws,x,d,p,q,%[k _ _ (.inr λ_=>nofun) ca.tu,k _ _ (.inl m) ca.li,az ca.ta λb z e=>k _ _ (.inr λ_=>nofun) e,ca.few,ca.wl|ca.fc],k _ _ (.inr λ_=>nofun) r,k _ _ (.inl n) s,y,A,m|n]
def KxT.re{qs:ZN}{lk:hH ZB}{e k:ku}{a H:Hp}{v w:V}(h:KxT qs lk e a H v w)(n:H k=hV):KxT qs lk k a H v w:=by
 let%[u,l,t,c,i,j,ws,x,d,f,g,ca,m,b,o,p|_]:=h;show%[u,l,t,c,i,j,ws,x,d,f,g,ca,m,b,o,p,ax ca.li n|ax b n]
def Kx.keep{mg:ZC}{a:ku}{c H d:Hp}{g:ku}{v w:V}(h:Kx mg a c H g v w)(k:∀b o,(b≠a\/∀xs,o≠ .lst xs)->H b∣o->d b∣o):Kx mg a c d g v w:=by
 let%[qs,e,ts,lk,f,i,j,l|m]:=h;show%[qs,e,ts,lk,f,i,j,l|m.imp id (·.keep k)]
structure Kpt (mg:ZC) (kp:ku) (H6 H:Hp) (q:ku×V×V×ku):Prop where
 tu:H q.1&&&[q.2.1,q.2.2.1,.ref q.2.2.2]
 ex:Kx mg kp H6 H q.2.2.2 q.2.1 q.2.2.1
def zR(ws:ZG):(ws\0).all iw=hY:=NC.mpr λv a=>by
 let%[t,_|rfl]:=Xp a;rfl
def FI{a:Type}(ks:hH a)(f:a->V):kb (ks.map f) hV (hX 1)=(ks.take 1).map f:=by
 unfold kb;rw[show(1:oT)=((1:jg):oT)from rfl,_HT.sIx_nat,_HT.sIx_none,UE,Ub];cases ks with
 | nil=>rfl
 | cons q r=>simp
def Bg{H:Hp}{qs:ZN}(j:jg)(u v:V)(a:(qs\0)[j]?∣u)(b:(qs\0)[j]?∣v):pY H u v:=by
 rw[a]at b;cases b;let%[q,_|rfl]:=Xp (Z8 a);show .inl %[rfl|rfl]
def Kpt.keep{mg:ZC}{a:ku}{c H d:Hp}{q:ku×V×V×ku}(h:Kpt mg a c H q)(k:∀b o,(b≠a\/∀xs,o≠ .lst xs)->H b∣o->d b∣o):Kpt mg a c d q:=%[k _ _ (.inr λ_=>nofun) h.tu|h.ex.keep k]
def Kpt.re{mg:ZC}{b k:ku}{a H:Hp}{q:ku×V×V×ku}(h:Kpt mg b a H q)(n:H k=hV):Kpt mg k a H q:=by
 let%[qs,c,ts,lk,d,e,f,g|i]:=h.ex;show%[h.tu,qs,c,ts,lk,d,e,f,g|i.imp id (·.re n)]
inductive Ms (mg:ZC) (kp:ku) (H4 He:Hp) (cs:ZH) (v:V):Prop
 | mk (t gg ll:ku) (qq:ZN) (lls:ZB) (tts:ZG):v= .ref t->He t&&&[.ref gg,.ref ll]->ll≠kp->He ll∣.lst (qq\0)->oE H4 cs qq->eZ mg H4 gg qq lls tts->lls.Perm (cs.flatMap lyr)->(∀k,k∈tts\2↔k∈cI cs\/k∈cJ qq qq.length)->Ms mg kp H4 He cs v
def KZ{H:Hp}{a b:V}{l c:ku}{xs:ZM}(f:iw a=hY)(g:iw b=hY)(i:H l<*xs)(m:H c<*xs)(h:xs.all iw=hY)(j:jg)(x y:V)(d:[a,b,V.ref l][j]?∣x)(e:[a,b,V.ref c][j]?∣y):pY H x y:=by
 match j,d,e with
 | 0,d,e=>cases d;cases e;show .inl %[rfl|f]
 | 1,d,e=>cases d;cases e;show .inl %[rfl|g]
 | 2,d,e=>cases d;cases e;show .inr %[l,c,xs,rfl,rfl,i,m|h]
def K0{f:ku}{fd:O6}(F:Fun K "law" "law" mf f fd)(T:Txt K mg):eQ P w K mg base CX0 13 f fd ["_law_script"] (qZ K):=by
 show F.ok df (by intro a b c d h;let%[_,_,rfl|_]:=h;rfl) (λf0 A outer s H vs Q E L h=>?_)
 .let%[a,ns,rfl,hs,ho,hn|kk]:=h;show%[_,%["KC~$G`LA0B~%MJ1MJ2cCF3]I]JA*;A1BA*;A2BBCF4]I]JA*;A1BA~)2DBCF5RBCSURAbA3A2BAbA4A~)2DBAbA3A2BBgMJ6MJ7cCF8G`MA1A7BCF9G`NA1A7A8BCF:G`OA9A8BEOZG`PAk:BEOoZG`QA6A9Ak:BEHmPC~$G]KA6B~%MJ;MJ<cCF=G`RA7A8Ak:BCOhpL~Uk<rvoZG`SAk;Ak=A9Ak:BEHmPEXsn5AbAk;AG`TAk;BA6BBCOL~Aqi?1U5gMa0?2Ma1?2Ma2?2czL~(010RBEHmPCSU~r5[}DgMJ;MJ>MJ6cEOL~Uk;rCXsnNk;DArBCF?QG]KA6BDEOhpoZwxAk?A?3BpL~(~gk?[}D~gk>[}DvL`UrNk?DEHmPPEH&l]L<~S32'l]L<~S4~)2D",df.nd,↑(["_law_told_here","_law_as_told","_law_one"],[]),↑["_law_told_here","_law_as_told","_law_one"],(blE (v:= .ty "tuple") rfl T.ag Sk rfl rfl rfl)|L]|?_]
  change aR _ _ _ [!a,hV,hV,hV,hV,hV,hV,hV,hV,hV,hV,hV,hV,hV,hV,hV] H;show aj λD1 k1 _=>?_
  lk;show%[a,ns,ρ,hs,⋯|λt l1 l2 H1 cs qs s1 ht h1 h2 Y=>%[_,Qb.of ht,ρ,_,_,ρ,_,_,ρ,ρ|k1 _ _ (aj λD2 k2 _=>?_)]];lk;show%[_,.inl (Qb.of h1)|λx1 cw=>%[_,.inl (Qb.of (ah.Qa cw _ _ h2))|λx2 cx=>?_]];let sx:=(ah.Qa (o:= .lst (bL cs)) cw).trans (ah.Qa (o:= .lst (qs\0)) cx);let cy:=ah.Qa (o:= .lst (qs\0)) cx _ _ (aa (H:=H1) (a:=x1) (o:= .lst (bL cs)));let cM:Qa (Qa H1 x1 (.lst (bL cs))) x2 (.lst (qs\0)) x2=_:=aa
  generalize Qa (Qa H1 x1 (.lst (bL cs))) x2 _=Hx at sx cy cM
  show λg dx fg eu f5=>A2 fg eu cy cM (Y.up sx).pair λC ls ts s2 gr pl tm=>k2 _ _ (aj λD3 k3 _=>?_)
  let bt:=sx.trans s2;let B:vY mg C g l1 l2 cs qs ls ts:=%[Y.up bt,bt _ _ h1,bt _ _ h2,gr,pl|tm]
  lk;show%[_,.inl (Qb.of B.h1)|λx3 ev=>?_];let u1:=ah.Qa (o:= .lst (bL cs)) ev;let c0:Qa C x3 (.lst (bL cs)) x3=_:=aa
  generalize Qa C x3 _=c5 at u1 c0
  unfold EQ;lk;show%[_,(B.up u1).h2|λb fb il=>?_];simp only[rc,Z6]at il ⊢;let q2:∀q∈(evI qs.length).filterMap (qs[·]?),q∈qs:=λq hq=>Fx hq
  generalize c6:(evI qs.length).filterMap (qs[·]?)=ab at il q2 ⊢
  let u2:=ah.Qa (o:= .lst (ab\0)) fb;let gb:Qa c5 b (.lst (ab\0)) b=_:=aa
  generalize Qa c5 b _=H3 at u2 gb ⊢
  let da:=u1.trans u2;let dd:=(B.up da).gd.sub q2 il;show λg2 f6 ew de _=>A2 ew de (u2 _ _ c0) gb dd.pair λH4 ey ez u3 dg eH e0=>k3 _ _ (aj λD5 k5 r5=>?_)
  let B:=(B.up da).up u3;let e3:=dd.up u3;lk;show%[Xf _|λG ag=>k5 _ _ (aj λD6 k6 r6=>ay λdk hK=>?_)];let v1:=ah.Qa (o:= .lst []) ag;let gk:Qa H4 G (.lst []) G=_:=aa
  generalize Qa H4 G _=H5 at v1 gk
  lk;show%[#[2]|λp1 f1=>?_];let w1:=ah.Qa (o:= .tup [V.ref g,V.ref l2]) f1;let dn:Qa H5 p1 (.tup [V.ref g,V.ref l2]) p1=_:=aa
  generalize Qa H5 p1 _=Ha at w1 dn
  unfold EQ;lk;show%[_,(v1.trans w1) _ _ B.h2|λc fc e4=>?_];simp only[rc,Z6,c6]at e4 ⊢;let w2:=ah.Qa (o:= .lst (ab\0)) fc;let gc:Qa Ha c (.lst (ab\0)) c=_:=aa
  generalize Qa Ha c _=Hb at w2 gc ⊢
  show%[#[2]|λp2 f2=>?_];let w3:=ah.Qa (o:= .tup [V.ref g2,V.ref c]) f2;let dp:Qa Hb p2 (.tup [V.ref g2,V.ref c]) p2=_:=aa
  generalize Qa Hb p2 _=Hc at w3 dp
  show%[#[2]|λp3 f3=>?_];let w4:=ah.Qa (o:= .tup [V.ref g,V.ref l2]) f3;let dr:Qa Hc p3 (.tup [V.ref g,V.ref l2]) p3=_:=aa
  generalize Qa Hc p3 _=Hd at w4 dr
  show%[#[3]|λp4 f4=>?_];let w5:=ah.Qa (o:= .lst [V.ref p1,V.ref p2,V.ref p3]) f4;let a0:Qa Hd p4 (.lst [V.ref p1,V.ref p2,V.ref p3]) p4=_:=aa
  generalize Qa Hd p4 _=He at w5 a0
  let ds:=w4.trans w5;let dt:=w3.trans ds;let dy:=w2.trans dt;let dK:=w1.trans dy;let xk:=dK _ _ gk;let x4:=v1.trans dK;let e5:c≠G:=λe=>by rw[e,w1 _ _ gk]at fc;cases fc
  let b0:∀v∈[V.ref p1,V.ref p2,V.ref p3],Ms mg G H4 He cs v:=by
   intro v O;rcases Yw.mp O with rfl|O
   .show%[_,_,_,_,_,_,ρ,dy _ _ dn,ax B.h2 ag,x4 _ _ B.h2,B.gd,B.gr,B.pl|B.tm]
   rcases Yw.mp O with rfl|O
   .show%[_,_,_,_,_,_,ρ,ds _ _ dp,e5,dt _ _ gc,e3,dg,eH|e0]
   rw[Xo O];show%[_,_,_,_,_,_,ρ,w5 _ _ dr,ax B.h2 ag,x4 _ _ B.h2,B.gd,B.gr,B.pl|B.tm]
  let dT:=ax B.h1 ag;let dV:=x4 _ _ B.h1;let e6:p4≠G:=λe=>by rw[e,xk]at a0;cases a0
  show%[%[_|Qb.of a0]|hK _ _ (eP (λi σ H'=>A3 (E8 λo6 o7 o8 o9 ak ac al an=>σ=[!a,!l1,!l2,!g,!g2,!G,o6,o7,o8,o9,ak,ac,al,an,hV,hV]) (∀b o,b≠G->He b∣o->H' b∣o) (∃ks:hH (ku×V×V×ku),A3 (H' G∣.lst (ks\0)) (∀q∈ks,Kpt mg G H4 H' q) (~~~ks<=i)))
   %[%[_,_,_,_,_,_,_,_|ρ],λ_ _ _ e=>e,[],xk,(λ_ h=>nomatch h)|Zi _] (λi σ H' _ ⟨_,sm,_⟩=>Qb.of (sm _ _ e6 a0)) ?_ ?_)]
  .intro i v σ H' ea %[%[o6,o7,o8,o9,ak,ac,al,an|rfl],sx,ks,hk,a3|kl];let%[t0,gg,ll,U,a4,a1,rfl,fa,b1,b3,Y,gr,pl|tm]:=b0 v (Z8 ea);let sH:∀b o,(∀xs,o≠ .lst xs)->He b∣o->H' b∣o:=λb o n e=>sx b o (λz=>by rw[z,xk]at e;show n _ (Za e).symm) e
   show%[_,SqT.of (sH _ _ (λ_=>nofun) fa),ρ,_,_,ρ,_,_,ρ,ρ|?_];change aR _ _ _ [!a,!l1,!l2,!g,!g2,!G,!gg,!ll,o8,o9,ak,ac,al,an,hV,hV] H';let s0:ah H4 H':=λb o e=>sx b o (ax e ag) (x4 b o e)
   let Y:=Y.up s0;let b4:=gr.up s0;let f7:=Y.ql;show aj λD7 k7 _=>?_
   lk;show%[l1,ll,cs,U,ρ,sx _ _ dT dV,sx _ _ b1 b3,Y.ca,Y.sa,Y.c3,⋯|λd C ms gm s2 fd hd nd mem lg=>k7 _ _ (aj λD8 k8 _=>?_)];let%[kc,f8|b5]:=xW Y.ca Y.few;let ml: ~~~ms<=63:=nI (_ST.nodup_sub nd λz hz=>(mem z).mp hz) Y.ly;let b6:=Y.up s2;lk;show%[l1,ll,d,cs,U,ms,gm,kc++cJ U U.length,ρ,s2 _ _ (sx _ _ dT dV),s2 _ _ (sx _ _ b1 b3),b6.ca,b6.sa,Y.c3,⋯,hd,mem,lg,?_,λk=>by rw[Yt,b5]|λr H3 ss s3 fr eb tu lk tk sl=>k8 _ _ (aj λD9 k9 _=>?_)]
   .let:=Oj (λj=>U[j]?.bind λq=>iy j q.2) (p0 U.length);rw[Yj]at this;let:=Y.c3;rw[Z9];unfold cJ
    lia
   let la:=qS tu tk;lk;show%[r,d,ms,ms,ss,gm,ρ,eb,la,sl,s3 _ _ hd,ml|λbb Hx rs s4 be rk=>k9 _ _ (aA λga b9 ge=>?_)];let rl: ~~~rs<=63:=by
    let:=_ST.nodup_sub be.nd (m:=ms.map gm) λx hx=>Xq ((rk x).mp hx)
    rw[Z6,Z6]at this
    lia
   lk;show%[bb,_,rs,ρ,be,⋯|λH6 v s6 vI=>?_];let a5:=s2.trans (s3.trans (s4.trans s6));let ends:∀x y,Ed (ss\2) x y->x∈rs\1/\y∈rs\1:=λx y ⟨z,hz⟩=>by
    let%[a,b,z',a',b',hm,ha,hb|e]:=(lk.mem _).mp hz;cases e;let%[u,v,w,e,hu|O]:=AY Y.ca Y.sa (n:= ~~~U) (by rw[Yt,b5]at hm;show hm);cases e;let hu:=(mem a).mpr hu;let O:=(mem b).mpr O;show%[(rk _).mpr %[a,hu|(lg a hu).2.one ha]|(rk _).mpr %[b,O|(lg b O).2.one hb]]
   let a6:a9 (aQ U) (a1\2) (ss\2):=%[lk.nd|λk=>by simp only[tm,<-b5,<-Yt];show lk.mem k]
   let ec:∀x,Rch (ss\2) x x->x∈rs\1:=λx r=>by
    cases r with
    | one e=>show(ends _ _ e).2
    | more _ e=>show(ends _ _ e).2
   let ed:=b4.up a5;let ef:=(s4.trans s6) _ _ eb;let eg:=be.up s6;let eh:aE H6 ss:=az tu λb z e=>(s4.trans s6) _ _ e
   let I:∀{J:Hp},ah H6 J->(∀b o,b≠G->He b∣o->J b∣o)/\J G∣.lst (ks\0)/\∀q∈ks,Kpt mg G H4 J q:=λ{J} M=>by
    let s:=a5.trans M;show%[λb o n e=>s _ _ (sx b o n e),s _ _ hk|λq hq=>?_];show(a3 q hq).keep λb o _ e=>s _ _ e
   show bv (λO=>?_) λO=>?_
   .let%[x,_|rx]:=vI.mp O;show%[gg,r,bb,U,a4,a1,ss,rs,ρ,ed,a6,%[x|rx],ef,eh,eg,⋯,ec|λJ M=>(b9 _ _ ?_)];let%[y1,y2|y3]:=I M;show%[%[_,_,_,_,_,_,_,_|ρ],y1,ks,y2,y3|⋯]
   .let nr:∀x,¬ Rch (ss\2) x x:=λx r=>O (vI.mpr %[x,ec x r|r])
    let fin:∀{H9:Hp} {v w:V} {p:ku},ah H6 H9->H9 p=hV->Kx mg G H4 H9 gg v w->(∀b o,b≠G->He b∣o->Qa (Qa H9 p (.tup [v,w,.ref gg])) G (.lst ((ks\0) ++[V.ref p])) b∣o)/\∃cd:hH (ku×V×V×ku),A3 (Qa (Qa H9 p (.tup [v,w,.ref gg])) G (.lst ((ks\0) ++[V.ref p])) G∣.lst (cd\0)) (∀q∈cd,Kpt mg G H4 (Qa (Qa H9 p (.tup [v,w,.ref gg])) G (.lst ((ks\0) ++[V.ref p]))) q) (~~~cd<=i+1):=λ{H9 v w p} s9 fp kx=>by
     let%[y1,y2|y3]:=I s9;let z2:=ah.Qa (o:= .tup [v,w,.ref gg]) fp;let gp:Qa H9 p (.tup [v,w,.ref gg]) p=_:=aa
     generalize Qa H9 p _=Ho at z2 gp
     let ff:=z2 _ _ y2;let ce:∀b u,(b≠G\/∀xs,u≠ .lst xs)->Ho b∣u->Qa Ho G (.lst ((ks\0) ++[V.ref p])) b∣u:=λb u n e=>by
      rw[aq (n.elim id λn z=>by rw[z,ff]at e;show n _ (Za e).symm)];show e
     show%[λb u n q=>by rw[aq n];show z2 _ _ (y1 b u n q),ks++[(p,v,w,gg)],by rw[aa,Zd];rfl,λq hq=>?_|by rw[Z9];show X9 kl];rcases Xn hq with z|z
     .show(y3 q z).keep λb u n e=>ce b u n (z2 _ _ e)
     .rw[Xo z];show%[ce _ _ (.inr λ_=>nofun) gp|kx.keep λb u n e=>ce b u n (z2 _ _ e)]
    let bl:∀{J:Hp},ah H6 J->J ll∣.lst (U\0)/\cC J (cs.flatMap lyr) U/\J d∣.dK (NmD ms gm)/\BeF J (ss\2) bb rs/\J r∣.lst (ss\0)/\aE J ss:=λ{J} M=>
     %[(a5.trans M) _ _ (sx _ _ b1 b3),b6.sa.up (s3.trans (s4.trans (s6.trans M))),(s3.trans (s4.trans (s6.trans M))) _ _ hd,eg.up M,M _ _ ef|az eh λb z e=>M _ _ e]
    let bm: ~~~(ks\0)<md:=by
     rw[Z6];let:=(Xm ea).1;show aC (by simp only[Zr,Wc]at this;lia)
    let ej:∀z∈cs.flatMap lyr,z∈ms:=λz hz=>(mem z).mpr hz
    let ch:∀z∈ms,bJ (aQ U) z (gm z):=λz hz=>(lg z hz).2
    let ek:∀z∈ms,gm z∈rs\1:=λz hz=>(rk _).mpr %[z,hz|rfl]
    show%[gg,U,a4,a1,ρ,ed,λas h' x=>by rw[dv (h'.mm a6)];show nr x,⋯,λt J as N M ft ht nc=>%[_,Qb.of ht,ρ,_,_,ρ,_,_,ρ,ρ|?_]|λt u l J as i' j' ws x e N M fl fu ft ht ca=>%[_,Qb.of ht,ρ,_,_,ρ,_,_,ρ,ρ|?_]]
    .lk;let%[d1,d2,d3,d4,d5|d6]:=bl M;let em:=N.mm a6;show%[ll,d,bb,U,_,ms,gm,_,rs,ρ,d1,d2,d3,ej,ch,d4,ek,λH8 s8 nd=> .inl %[r,bb,ρ|bN ?_]|λe H8 p n x y s8 fe he fc=>(nc p n ((mM em).mpr fc.cls)).elim];let el:=M.trans s8;let y2:=(I el).2.1;show%[tyL (Qb.of y2)|.inl %[ρ,#[3]|λp fp=>%[_,ah.Qa fp _ _ y2,bm|?_]]];let%[f1|f2]:=fin el fp %[U,a4,a1,as,gr,N,λx=>by rw[dv em];show nr x,⋯|.inl %[rfl|rfl]];show b9 _ _ %[%[_,_,_,_,_,_,_,_|rfl],f1|f2]
    .lk;let%[d1,d2,d3,d4,d5|d6]:=bl M;let em:=N.mm a6;let en:∀x,¬ Rch as x x:=λx=>by rw[dv em];show nr x
     show%[ll,d,bb,U,_,ms,gm,_,rs,ρ,d1,d2,d3,ej,ch,d4,ek,λH8 s8 nd=>(nd i' j' ((mM em).mp ca.fc.cls)).elim|λv H8 p n y z s8 fv O fc=>?_];let%[rfl,rfl,rfl|rfl]:=(ca.fc.same em).one fc;let hx:x∈rs\1:=by
      let%[_,_,_,%[q,a,e1,e2|le]|_]:=fc.cl;let ha:=(mem a).mpr (vZ d2 (Z8 e1) e2).2;show(rk x).mpr %[a,ha|(ch a ha).one le]
     show .inr %[u,v,r,bb,l,U,as,i',j',ws,ss,x,e,rs,rfl,ca.up s8,O,s8 _ _ d5,az d6 (λb z e=>s8 _ _ e),em,d4.up s8,hx,en|λH9 s9=>bN ?_];let eo:=M.trans (s8.trans s9);let y2:=(I eo).2.1;let bc:=ca.up (s8.trans s9);show%[tyL (Qb.of y2)|.inr %[u,l,i',j',_,ρ,bc.tu,bc.li|λt c gl cl ft fc ht hc=>%[#[3]|λp fp=>%[_,ah.Qa fp _ _ (cl _ _ y2),bm|?_]]]];let fm:=(I (ah.refl H6)).2.1;let%[f1|f2]:=fin (eo.trans cl) fp %[U,a4,a1,as,gr,N,en,⋯|.inr %[u,l,t,c,i',j',ws,x,e,rfl,rfl,bc.up cl,ht,hc,(s0.trans a5).free fl,ax bc.li fc,(ax fm fl).symm|(ax y2 fc).symm]];show b9 _ _ %[%[_,_,_,_,_,_,_,_|rfl],f1|f2]
  .intro σ H' %[%[o6,o7,o8,o9,ak,ac,al,an|rfl],sx,ks,hk,a3|kl];show k6 _ _ (aj λD7 k7 r7=>?_);lk;show aL λdk hK=>?_
   lk;show%[%[_|Qb.of hk]|hK _ _ λF hF=>?_];show cN (λj vs σ C=>A4 (E3 λo1 o2 o3=>σ=[o1,o2,o3]) (ah H' C) (C F<*vs) (vs=[])) %[%[hV,hV,hV|rfl],ah.Qa hF,aa|rfl] (λ_ _ _ C ⟨_,sm,_,_⟩=>sm _ _ hk) ?_ ?_
   .intro j vs σ C hj %[%[o1,o2,o3|rfl],sm,fn|rfl];let kq:=a3 _ (Yd hj);show%[_,SqT.of (sm _ _ kq.tu),ρ,_,_,ρ,_,_,ρ,_,_,ρ,ρ|?_];lk;let go:CN ks.length j (λj vs σ C=>A4 (E3 λo1 o2 o3=>σ=[o1,o2,o3]) (ah H' C) (C F<*vs) (vs=[])) [] [hX ks[j].2.1,hX ks[j].2.2.1,hX (.ref ks[j].2.2.2)] C:=CN.mk hj %[%[_,_,_|rfl],sm,fn|rfl];obtain⟨_,_,_,_,_,_,_,_,⟨e1,e2⟩|⟨u,l,t,c,i,j',ws,x,d,e1,e2,ca,ht,hc,_⟩⟩:=kq.ex
    .show%[.inl %[e1|e2]|go]
    .show%[.inr %[u,t,_,_,e1,e2,sm _ _ ca.tu,sm _ _ ht,ρ|KZ rfl rfl (sm _ _ ca.li) (sm _ _ hc) (zR ws)]|go]
   intro vs σ C %[_,s2,fq|rfl];show%[Xf _|λp hp=>%[[],ah.Qa hp _ _ fq,aa|?_]];rw[kw ∅];let s3:=s2.trans (ah.Qa (o:= .lst []) hp)
   generalize Qa C p _=H3 at s3
   show k7 _ _ (aj λD8 k8 r8=>ay λfw fx=>?_);lk;show%[_,Qb.of (s3 _ _ hk)|λp' co=>?_];rw[FI];let s4:=s3.trans (ah.Qa (o:= .lst ((ks.take 1)\0)) co);let cp:Qa H3 p' (.lst ((ks.take 1)\0)) p'=_:=aa;let ep:∀q∈ks.take 1,Kpt mg p' H4 (Qa H3 p' (.lst ((ks.take 1)\0))) q:=λq hq=>(((a3 q (Yx hq)).keep λb o _ e=>s3 _ _ e).re co).keep λb o _ e=>ah.Qa co _ _ e
   generalize Qa H3 p' _=gn at s4 cp ep
   let s0:ah H4 H':=λb o e=>sx b o (ax e ag) (x4 b o e)
   let sb:=s0.trans s4;let tl: ~~~(ks.take 1)<=1:=by rw[Yl];lia
   show%[%[_|Qb.of cp]|fx _ _ (bF (λi σ C=>A4 (E4 λo6 ac ct bf=>σ=[!a,!l1,!l2,!g,!g2,!G,o6,o7,o8,o9,ak,ac,al,an,ct,bf]) (ah H4 C) (C p'∣.lst ((ks.take 1)\0)) (i=0->∀q∈ks.take 1,Kpt mg p' H4 C q))
    %[%[_,_,_,_|ρ],sb,cp|λ_=>ep] (λi σ C ⟨_,_,h,_⟩=>h) ?_ ?_)]
   .intro i q σ C hq %[%[o6,ac,ct,bf|rfl],sm,a2|kq];obtain rfl:i=0:=by let:=(Xm hq).1;lia
    let kq:=kq rfl q (Z8 hq);let tu:=kq.tu;let%[fz,fB,fC,lk,b4,N,nr,ql|ex]:=kq.ex;show%[_,SqT.of tu,ρ,_,_,ρ,_,_,ρ,_,_,ρ,ρ|?_];change j8 _ _ _ _ [!a,!l1,!l2,!g,!g2,!G,hX (.ref q.2.2.2),o7,o8,o9,ak,hX q.2.1,al,an,hX q.2.2.1,bf] C;show aA λD9 k9 _=>?_
    obtain⟨e1,e2⟩|⟨u,l,t,c,i,j',ws,x,d,e1,e2,ca,ht,hc,fl,lc,fD,gq⟩:=ex
    .rw[e1];lk;show k9 _ _ %[%[_,_,_,_|rfl],sm,a2|λz=>nomatch z]
    .rw[e1,e2];lk;show%[_,SqT.of ca.tu,.ref l,ρ,tyL (Qb.of ca.li),_,ca.li,by rw[Z6];show aC (by let:=ca.wl;lia)|?_];let sc:ah H4 (Qa C l (.lst ((ws\0) ++[V.non]))):=ah.set sm fl;let eq:=(aq (H:=C) (o:= .lst ((ws\0) ++[V.non])) (show t≠l from λz=>by rw[z,ca.li]at ht;cases ht)).trans ht;let er:=(aq (H:=C) (o:= .lst ((ws\0) ++[V.non])) fD.symm).trans a2
     generalize Qa C l _=H6 at sc eq er
     show%[q.2.2.2,fz,fB,fC,ρ,b4.up sc,λgs h2 x=>by rw[dv (h2.mm N)];show nr x,ql,λt' J fF cv M ft es nc=>(nc i j' ((mM (N.mm cv)).mp ca.fc.cls)).elim|λt' u' l' J fF p n gt y e cv M gu gv gw es ae=>?_];let%[rfl,rfl,rfl|rfl]:=(ca.fc.same (N.mm cv)).one ae.fc;show%[_,Qb.of es,.ref u',bu (j:=0) rfl,_,.tup ae.tu,hY,ρ|mT %[u',ρ,_,SqT.of ae.tu,(show ¬ (_HT.sIx 3 0 hV=0/\_HT.sIx 3 3 (hX 2)=3) by decide)|λp1 et=>%[_,SqT.of (ah.Qa et _ _ (M _ _ eq)),(show ¬ (_HT.sIx 3 0 hV=0/\_HT.sIx 3 3 (hX 2)=3) by decide)|λp2 a2=>?_]]];let w2:=(ah.Qa (o:= .tup [.int i,.int j']) et).trans (ah.Qa (o:= .tup [.int i,.int j']) a2);show%[.inr %[p1,p2,[.int i,.int j'],[.int i,.int j'],ρ,ρ,ah.Qa a2 _ _ aa,aa,ρ|Ie rfl]|?_];change ah J (Qa (Qa J p1 (.tup (kb [.int i,.int j',.ref l'] hV (hX 2)))) p2 (.tup (kb [.int i,.int j',.ref c] hV (hX 2))))at w2
     generalize Qa (Qa J p1 (.tup (kb [.int i,.int j',.ref l'] hV (hX 2)))) p2 _=H8 at w2
     lk;let ae:=ae.up w2;show%[_,SqT.of ae.tu,.ref l',ρ,ρ,_,ae.li,λv O=>?_|k9 _ _ %[%[_,_,_,_|ρ],sc.trans (M.trans w2),w2 _ _ (M _ _ er)|λz=>nomatch z]];let%[b,hb|rfl]:=Xp O;show%[b.1,_,ρ|(ae.ta b hb).2]
   .intro σ C %[%[o6,ac,ct,bf|rfl],sm|_];show k8 _ _ ?_;lk;let%[c2,c3,c4|gf]:=(B.gr.up sm).gr;let%[dx,c1|h0]:=gf.at_;show%[_,_,h0,ρ,g,c2,c3,c4,qs,ls,ts,ρ,gf|λy fy=>?_];let sy:=sm.trans (ah.Qa (o:= .lst (qs\0)) fy);let gy:Qa C y (.lst (qs\0)) y=_:=aa
    generalize Qa C y _=H8 at sy gy
    let%[c2,c3,c4|gf]:=(dg.up sy).gr;let%[dx,c1|h0]:=gf.at_;show%[y,l2,_,_,ρ,ρ,gy,sy _ _ B.h2,ρ,Bg|?_];lk;show%[_,_,h0,ρ,g2,c2,c3,c4,ab,ey,ez,ρ,gf|λy2 fI=>?_];unfold EQ;lk;let fL:=ah.Qa (o:= .lst (ab\0)) fI;show%[_,fL _ _ (sy _ _ B.h2)|λb2 fR fX=>?_];simp only[rc,Z6,c6]at fX ⊢;show%[y2,b2,_,_,ρ,ρ,ah.Qa fR _ _ aa,aa,ρ,Bg|kk _]
end
abbrev dfm:= @JA
abbrev gvm:= @Lk
def all_mk{l:PySem.W.OpenLaw}{w:v0}{K:ZA}{h:xl}{mg:ZC}{fa aj:ku}(X:K.In h)(G:h.Ns wy mg)(hfa:mg "law"=hX (.ref fa))
 {b7 ay:ZI} {b8:ZK} {b9 az a0 a1 ak a2:kj}
 (F:Txc K mg->Txt K mg)
 (ca:RY K wy "law"=hX (hX (.ref aj))) (cb:K.lookup aj=hX %[b9,b7,.func (S7 "law" "law" (dw mf) (bM mf) (ao mf) .none az a0 a1 ay ak a2)|b8]) (cc:RB K ak "law"=hY) (cd:OF K (.ref aj)=hY)
 {aa ac ad a3 a4 a5 a6 a7:ku}
 {ae:ku} {ce cf:ZI} {cg:ZK} {ch ci cj a8 ck:kj}
 (al:RY K wy "Torn"=hX (hX (.ref aa)))
 (a9:RY K wy "DigError"=hX (hX (.ref ac)))
 (ba:RY K wy "NoCut"=hX (hX (.ref ad)))
 (bb:RY K wy "NoSaying"=hX (hX (.ref a3)))
 (bc:RY K wy "NoGround"=hX (hX (.ref a4)))
 (bd:RY K wy "NoLayer"=hX (hX (.ref a5)))
 (be:RY K wy "NoRow"=hX (hX (.ref a6)))
 (bf:RY K wy "NoDeed"=hX (hX (.ref a7)))
 (bg:MT K (.ref aa) "__getattribute__"=hX (hX (.builtin "BaseException.__getattribute__")))
 (bh:MT K (.ref aa) "__getattr__"=hX hV)
 (bi:Rs K (.ref aa) (.type "BaseException")∣hY)
 (am:Pf K aa=hY)
 (cl:MT K (.ref aa) "__class__"=hX (hX (.builtin "object.__class__")))
 (cm:S3 K (.builtin "object.__class__") "__get__"=hX (hX (.builtin "getset_descriptor.__get__")))
 (cn:takesIn K (.builtin "object.__class__")∣hY)
 (co:mroIn K aa (.type "object")∣hY)
 (e8:MT K (.ref aa) "__init__"=hX (hX (.ref ae)))
 (an:K.lookup ae=hX %[.type "function",ce,.func (S7 "__init__" "Torn.__init__" (dw eU) (bM eU) (ao eU) .none ch ci cj cf a8 ck)|cg])
 (bj:RB K a8 "Torn.__init__"=hY)
 (bk:OF K (.ref ae)=hY)
 (bl:exK K aa ae=hY)
 (cp:OF K (.ref aa)=hY)
 (cq:MT K (.ref aa) "__setattr__"=hX (hX (.builtin "object.__setattr__")))
 (bm:va K aa=hY)
 (bn:MT K (.ref aa) "ring"=hX hV)






 (cr:Rs K (.ref aa) (.ref ad)∣iv)
 (cs:Rs K (.ref aa) (.ref ac)∣hY)
 (ct:T0 K (.ref aa) [.ref ad,.ref a4,.ref a3]∣iv)
 (cv:T0 K (.ref aa) [.ref a7,.ref a6,.ref a5]∣iv)
 (cw:Pe K (.ref aa) (.ref aa)∣hY)
 (cx:Pe K (.ref aa) (.type "ValueError")∣hY)
 (cy:S3 K (.ref ac) "__getattribute__"=hX (hX (.builtin "type.__getattribute__")))
 (cz:readsIn K ac (.type "type")=hY)
 (c0:findCls K (.ref ac) (.type "type") "__init__"=hX (.val (.builtin "ValueError.__init__")))
 (c1:V9 K (.ref ad)∣.type "type")
 (c2:Rs K (.ref ad) (.type "BaseException")∣hY)
 (bo:(K.lookup ad).any (λo=>match o.data with| .cls _=>hY|_=>iv)=hY)
 (c3:V9 K (.ref ac)∣.type "type")
 (c4:Rs K (.ref ac) (.type "BaseException")∣hY)
 (bp:(K.lookup ac).any (λo=>match o.data with| .cls _=>hY|_=>iv)=hY)
 {ab:ku}
 (bq:RY K wy "Ground"=hX (hX (.ref ab)))
 (c5:TV K ab Mi=hY)
 (c6:Pf K ab=hY)
 (c7:WZ K ab=hY)
 (c8:MT K (.ref ab) "__setattr__"=hX (hX (.builtin "object.__setattr__")))
 (c9:MT K (.ref ab) "kept_cuts"=hX hV)
 (da:MT K (.ref ab) "kept_sayings"=hX hV)
 (db:MT K (.ref ab) "kept_layers"=hX hV)
 (dc:MT K (.ref ab) "kept_ties"=hX hV)
 {af:ku} {dd de:ZI} {df:ZK} {dg dh di dj br dk:kj}
 (dl:MT K (.ref ab) "__init__"=hX (hX (.ref af)))
 (bs:K.lookup af=hX %[dg,dd,.func (S7 "__init__" "Ground.__init__" (dw cu) (bM cu) (ao cu) .none dh di dj de br dk)|df])
 (bt:RB K br "Ground.__init__"=hY)
 (bu:OF K (.ref af)=hY)
 (dm:XS K (.ref af)=hY)
 (dn:makesIn K ab=hY)
 (dp:OF K (.ref ab)=hY)
 {ag:ku} {dq dr:ZI} {ds:ZK} {dt du dv dx bv dy:kj}
 (dz:MT K (.ref ab) "sayings"=hX (hX (.ref ag)))
 (bw:K.lookup ag=hX %[dt,dq,.func (S7 "sayings" "Ground.sayings" (dw cO) (bM cO) (ao cO) .none du dv dx dr bv dy)|ds])
 (bx:RB K bv "Ground.sayings"=hY)
 (ap:OF K (.ref ag)=hY)
 (d0:XS K (.ref ag)=hY)
 {ah:ku} {d1 d2:ZI} {d3:ZK} {d4 d5 d6 d7 bz d8:kj}
 (d9:MT K (.ref ab) "layers"=hX (hX (.ref ah)))
 (b0:K.lookup ah=hX %[d4,d1,.func (S7 "layers" "Ground.layers" (dw cZ) (bM cZ) (ao cZ) .none d5 d6 d7 d2 bz d8)|d3])
 (b1:RB K bz "Ground.layers"=hY)
 (aq:OF K (.ref ah)=hY)
 (ea:XS K (.ref ah)=hY)
 {ai:ku} {eb ec:ZI} {ed:ZK} {ee ef eg eh b2 ei:kj}
 (ej:MT K (.ref ab) "ties"=hX (hX (.ref ai)))
 (b3:K.lookup ai=hX %[ee,eb,.func (S7 "ties" "Ground.ties" (dw dF) (bM dF) (ao dF) .none ef eg eh ec b2 ei)|ed])
 (b4:RB K b2 "Ground.ties"=hY)
 (ar:OF K (.ref ai)=hY)
 (ek:XS K (.ref ai)=hY)
 {b5:ku} {au:Ob} {av:ZJ} {el:jg}
 (em:RY K wy "YEAR_WORDS"=hX (hX (.ref b5)))
 (en:K.lookup b5∣au)
 (eo:au.cls= .type "tuple")
 (ep:au.data= .seq av el)
 (eq:av.size<=md)
 (er:aM [.str "since",.str "by"] av.toList)
 {b6:ku} {aw:Ob} {ax:ZJ} {es:jg}
 (et:RY K wy "LAYER_WORDS"=hX (hX (.ref b6)))
 (eu:K.lookup b6∣aw)
 (ev:aw.cls= .type "tuple")
 (ew:aw.data= .seq ax es)
 (ex:ax.size<=md)
 (ey:aM [.str "later",.str "same"] ax.toList)
 :∃fd:O6,(∀(s:mu) (v:kj),TL s fd %[[v]|[]] [("_law_script",v)])/\∀base:xl,K.In base->base.Ns wy mg->eQ l.prog w K mg base CX0 13 fa fd ["_law_script"] (qZ K):=by
 let e:=hfa.symm.trans (Oo X G ca);cases e;let ez:=dZ (Oo X G al);subst ez;let e0:=dZ (Oo X G a9);subst e0;let e1:=dZ (Oo X G ba);subst e1;let e2:=dZ (Oo X G bb);subst e2;let e3:=dZ (Oo X G bc);subst e3;let e4:=dZ (Oo X G bd);subst e4;let e5:=dZ (Oo X G be);subst e5;let e6:=dZ (Oo X G bf);subst e6;let e7:=dZ (Oo X G bq);subst e7;let T:Txt K mg:=F %[Oo X G al,
  Oo X G a9,
  Oo X G ba,
  Oo X G bb,
  Oo X G bc,
  Oo X G bd,
  Oo X G be,
  Oo X G bf,
  %[Oo X G al,%[bg,bh,bi,am,cl,cm,cn|co],ae,_,%[bl,by rw[an];rfl|cp],eD an bj bk|(eD an bj bk).binds (by room)],
  %[cq,bm,bn|am],
  %[bg,bh,bi,bn|am],
  cr,
  cs,
  ct,
  cv,
  cw,
  cx,
  %[cy,cz|c0],
  %[c1,c2|bo],
  %[c3,c4|bp],
  %[Oo X G bq,c5,c6,c7|c8],
  c9,
  da,
  db,
  dc,
  %[af,_,%[dn,dl,dm|dp],eD bs bt bu|(eD bs bt bu).binds (by room)],
  %[ag,_,%[dz,d0|ap],eD bw bx ap|(eD bw bx ap).binds (by room)],
  %[ah,_,%[d9,ea|aq],eD b0 b1 aq|(eD b0 b1 aq).binds (by room)],
  %[ai,_,%[ej,ek|ar],eD b3 b4 ar|(eD b3 b4 ar).binds (by room)],
  Ev X G em en eo ep eq er|
  Ev X G et eu ev ew ex ey]
 show%[S7 "law" "law" (dw mf) (bM mf) (ao mf) .none az a0 a1 ay ak a2,λs v=> .of_eq rfl|λbase _ _=>K0 (eD (st:=mf) cb cc cd) T]
def walk{l:PySem.W.OpenLaw}{q:nY}{b:ZB}{j:(lp->lx kj)->xl->Prop}{e:v0->xl->Prop}{d:DefRec}{K:Params->ZA}(m:l.most∣63)(c:d.params.defaults=[])
 (o:∀(w:v0) (h:xl),e w h->(K w.params).In h)
 (F:∀(w:v0) (mg:ZC) (g:ku) (h:xl),(K w.params).In h->h.Ns wy mg->mg d.name∣.ref g->
  ∃i:O6,(∀(s:mu) (u:kj),TL s i %[[u]|[]] [("_law_script",u)])/\∀base:xl,(K w.params).In base->base.Ns wy mg->eQ l.prog w (K w.params) mg base CX0 13 g i ["_law_script"] (qZ (K w.params))):
 PySem.W.WalkO q b j e l.row.toRowW d [] (λf vs=>PySem.call f vs):=
 _LL.walk_of (n:=63) (k:=13) (x:="_law_script") (CX:=λ_=>CX0) (sp:=λw=>qZ (K w.params)) m (!1) c %[rfl,!1,!1|rfl] o F (λ_ _ a p r v y=>%[a,p,rfl,y,v,r|λ_=>rfl]) λ_ _ _ _ _ z=>z
end _KK
end
open PySem PySem.W PyProof.Rows
set_option maxRecDepth 100000 in
theorem PySem.Challenge.cw_digbook_k72_clashes_told_holds : PySem.Challenge.rw_digbook_k72_clashes_told.Holds := by
 w_on;o_law;k_head;(case hw=>w_witness2)
 k_fill
 refine _KK.walk (l:=PySem.Challenge.rw_digbook_k72_clashes_told) rfl rfl (λw h Y=>PySem.W.kIn_of Y) ?F
 case F=>
  intro w mg fa h KX G hmg;apply _KK.all_mk KX G hmg
  (case F=>
   intro C
   constructor
   exact C
   all_goals first|exact PySem.W.mg_none_of KX G (by k_is)|(refine' _KK.gvm KX G ?z ?r;(case z=>k_is);(case r=>exact⟨_,rfl⟩))|(refine' _KK.dfm KX G ?a ?l ?c ?k ?b;(case a=>k_is);(case l=>k_is);(case c=>k_is);(case k=>k_is);(case b=>intro _ _ _ _ _ _;(repeat(refine _KK.zq1 λ_=>?_));exact _KK.zq0 rfl)))
  any_goals k_is
  (case bl|bm|bo|bp=>kernel_rfl)
  any_goals first|kit_is|rfl|decide|exact .cons ⟨_,rfl⟩ (.cons ⟨_,rfl⟩ (.nil))
