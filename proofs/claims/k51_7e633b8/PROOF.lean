import PyProof.Rows.All
import Wide.All
import OpenK.AllK
import PySem.Challenge.RW_digbook_k51_direct_pairs_told
open Array renaming append_assoc->TF,eq_empty_of_size_eq_zero->Rc,ext->WD,find?_toList->TD,forIn_toList->P6,getD->RY,getD_eq_getD_getElem?->Zs,getElem?_eq_getElem->Mh,getElem?_eq_none->NR,getElem?_eq_some_iff->vr,getElem?_replicate->Sk,getElem?_toList->NU,length_toList->Zb,mem_of_getElem?->Ob,mem_toList_iff->Pc,perm_iff_toList_perm->RX,replicate->Uz,size_append->Qr,size_map->WE,size_push->Xp,size_setIfInBounds->OV,toList->VB,toList_append->Xk,toList_extract->Qo,toList_push->N6,toList_setIfInBounds->RW
open Bool renaming and_eq_true->Zx,and_false->Mv,and_self->Sw,eq_false_iff->Q3,eq_iff_iff->NH,false->hX,false_and->NX,false_eq_true->Y2,false_ne_true->Zu,false_or->Sv,not_eq_true->Rn,not_eq_true'->Uj,not_true->VA,or_eq_false_iff->Xd,or_eq_true->Rq,or_false->Vz,or_true->SR,true->hW,true_and->Vy,true_or->SQ
open Classical renaming byContradiction->J0,not_forall->Po
open Decidable renaming byContradiction->MN
open False renaming elim->LR
open ForInStep renaming yield->Oc
open Iff renaming rfl->N5
open Int renaming emod_lt_of_pos->NN,emod_nonneg->MB,eq_ofNat_of_zero_le->Xo,ofNat_lt->Wm,toNat_natCast->No,toNat_of_nonneg->Qg,zero_add->OK
open Lean renaming Syntax->Wl
open List renaming Pairwise->Mc,Perm->KE,all_cons->WL,all_eq_true->MV,all_map->VP,any_cons->Zy,any_eq_true->Sq,append_assoc->Ze,append_nil->Zz,cons_append->So,cons_lt_cons_iff->Tl,contains_cons->T0,countP_cons->Y0,countP_mono_left->PD,drop_append->Ri,drop_append_of_le_length->Op,drop_drop->TL,drop_eq_getElem_cons->Y1,drop_of_length_le->Ol,drop_zero->TK,eraseIdx_eq_take_drop_succ->Oa,exists_mem_of_ne_nil->Si,ext_getElem->OI,ext_getElem?->P7,extract_eq_take_drop->NA,filter->Nu,filterMap_append->Y3,filterMap_cons->Y4,filter_append->Y6,filter_congr->Ug,filter_cons->Y7,filter_cons_of_neg->Y8,filter_cons_of_pos->Y9,filter_eq_nil_iff->Oj,filter_nil->Ya,find?_eq_none->TY,findIdx?->Vv,findIdx?_eq_none_iff->Sh,findIdx?_eq_some_iff_getElem->QK,flatMap_append->Pd,flatMap_cons->RL,flatMap_singleton->SM,flatten_cons->Uf,foldl->TX,foldl_append->Ue,foldl_cons->Yb,forIn_cons->Rt,forIn_nil->Vd,getD_eq_getElem?_getD->Zc,getElem?_append_left->Yc,getElem?_append_right->Yd,getElem?_cons_zero->Sz,getElem?_drop->Ye,getElem?_eq_getElem->Z4,getElem?_eq_none->Xs,getElem?_map->Zl,getElem?_of_mem->Xm,getElem?_range->Tz,getElem?_replicate->Pi,getElem?_set_ne->PY,getElem?_set_self->SL,getElem?_take->Yf,getElem?_take_of_lt->Yg,getElem?_zip_eq_some->OP,getElem_mem->Yh,getElem_of_mem->Yi,le_antisymm->Uv,length->Mf,length_append->Z9,length_cons->Zr,length_drop->Yn,length_eq_zero_iff->zz,length_eraseIdx->Tr,length_filterMap_le->NL,length_filter_le->Yo,length_map->Z6,length_nil->Vm,length_pos_iff->M0,length_pos_of_mem->SK,length_range->Yp,length_reverse->Tx,length_singleton->Yq,length_take->Yr,length_zip->S5,lookup->Nd,lookup_append->TW,lookup_cons->Ys,lt_irrefl->R4,lt_trans->Vu,map->Q0,map_append->Zd,map_congr_left->Yv,map_cons->Yw,map_drop->Vt,map_id->Wk,map_inj_right->TV,map_map->Yx,map_nil->QR,map_subset->UU,map_take->Vs,mem_append->Yy,mem_append_left->Yz,mem_append_right->X1,mem_cons->X2,mem_cons_of_mem->Zk,mem_cons_self->Zm,mem_erase_of_ne->Tq,mem_filter->ow,mem_filterMap->Mg,mem_flatMap->L4,mem_flatten->Rh,mem_map->OD,mem_of_getElem?->Z8,mem_of_mem_drop->ON,mem_of_mem_take->X3,mem_range->J6,mem_singleton->X4,nil_append->Vl,nodup_append->X8,nodup_cons->Mw,nodup_iff_pairwise_ne->X9,nodup_nil->Xa,nodup_range->Qw,not_mem_nil->Xc,of_mem_zip->Vk,pairwise_append->yc,pairwise_cons->Rf,pairwise_iff_getElem->Nz,pairwise_map->Xe,perm_append_comm->Ou,range->q7,range_succ->O9,replicate->vu,replicate_succ->Qt,reverse_cons->QZ,set_append_right->Tk,size_toArray->Zp,sum_cons->Vr,take_add_one->Xg,take_append_drop->Xh,take_append_of_le_length->Xi,take_length->Xj,take_of_length_le->Zn,take_sublist->QY,take_subset->Uu,take_succ_eq_append_getElem->M5,take_take->Vc,toList_toArray->Tw,zip->MO,zipIdx_cons->Rg,zipIdx_nil->UT
open List.Pairwise renaming imp->R5,imp_of_mem->Xn,nil->M9,sublist->Rk
open List.Perm renaming append_left->Nf,append_right->Xr,cons->TC,refl->MC,swap->TB,trans->MQ
open List.cons renaming inj->Nc,injEq->MP
open Nat renaming add_assoc->VU,add_comm->Tj,add_left_cancel->Qf,add_mod->Ua,add_sub_cancel->Ph,add_sub_cancel_left->Zw,add_zero->Pg,ble->Px,blt->Wj,div_add_mod->Vb,div_div_eq_div_mul->Ti,div_lt_of_lt_mul->Tv,eq_or_lt_of_le->QH,le_add_left->Va,le_add_right->OQ,le_of_ble_eq_true->Yj,le_of_eq->Wi,le_of_lt->Yk,le_of_not_lt->US,le_refl->Zi,le_succ->Yl,le_trans->Ym,lt_irrefl->Xq,lt_of_le_of_lt->QF,lt_of_lt_of_le->Zg,lt_of_succ_lt->Ut,lt_succ_of_lt->Yt,lt_succ_self->Yu,lt_trans->Wh,lt_trichotomy->Ur,min_eq_left->X6,min_eq_right->Rv,mod_eq_of_lt->Pm,mod_lt->Sa,mod_mod_of_dvd->QD,mul_add->WB,mul_mod->WA,ne_of_gt->X7,ne_of_lt->Zt,not_lt_of_le->Ru,not_lt_zero->Xb,one_pos->VJ,pos_of_ne_zero->QC,pow_dvd_pow->RQ,pow_le_pow_right->Oq,pow_succ->Pb,sub_self->PK,sub_zero->Th,succ_le_succ->Xf,succ_pos->SW,two_pow_pos->U9,zero_add->PF,zero_le->Xl
open Ne renaming symm->Lx
open Option renaming any->VS,bind_some->QX,isSome_iff_exists->Pp,isSome_map->Vn,map_eq_some_iff->Ly,map_some->WH,none->hV,some->hY
open Option.some renaming inj->Za,injEq->PV
open Prod.mk renaming injEq->Mo
open PyProof.Rows renaming AllBare->Pt,IntsAre->Uh,Keyed->ny,SortKind->Tf,SortSt->lx,StrsAre->Me,Subscript_->Te,arrOf->nz,boot_bool->Wz,boot_isinstance->Wv,boot_list->OW,boot_reversed->Wy,boot_str->UO,boot_tuple->Tb,callWith_builtin1->PX,callWith_type1->LY,countRun'->Wc,elem'->NQ,envOfC->Mt,failedOf->M3,formatField_str->Wu,getElem?_bubble->Qe,getElem?_mirror_all->Q5,join_list->Wx,listUpdate_at->OE,ltAt'->VM,mergeAt'->S4,minRun'->VL,mirror->T8,pendingOf->rM,reverseSlice'->Pw,seqEpoch_at->UH,seqObj->Of,setArr->SY,setPending->O7,sortedHeap->P4,subscriptTail_builtinR->T2
open PyProof.Rows.F renaming entry_set_update_loop->Ts,plain_set_update_loop->Pz
open PyProof.Rows.SortSt renaming mk'->Ry
open PySem renaming Addr->jg,Around->wy,BindsTo->SS,Builtin->oy,CmpOp->T1,DictEntry->Sj,Draws->UV,Expr->G2,FuncData->On,GenState->QL,Heap->z4,IsPair->OA,IsTupleKey->LM,IsZip->RR,Keyword->Om,NameKind->LB,Obj->NB,PassesOwn->O0,PlainAttrs->Oz,Program->n7,PyData->LI,Result->Sg,Scope->QB,SetTable->nI,Shared->kG,Stmt->J5,Str->ku,Value->iy,World->xl,argBest->OS,assignEach->Nn,atKey->TN,attributeBase->Mx,backTo->MM,backToKw->Pe,behindInMarks->L7,binaryOp->Mi,bindC->UQ,bindL->UP,bootBuiltins->MS,builtinLookup_eq_fast->Uo,builtinsNs->Vq,cLine->Nx,callGetattribute->Wd,callWith->Ta,call_meets->N2,call_meetsIn->RN,callerA->SJ,cellsFrom->L6,codeAny->OR,codeAny_builtin->M6,codeAny_call_builtin->NG,codeAny_extend_loopS->UN,codeAny_of_tree->Sy,collect->QV,compareOp->pw,entryFor->UM,entryFor_alias->S8,eval->L9,evalPart_none_step->Vo,excClassObj->UL,fits_of_scanBound->M8,foldedSetIterable->Oi,getAttr->VN,getItem->SH,getMethod->PQ,hashByValue->Sn,hashStr->M4,holding->RK,isInstance->Rs,isSubtype_stop->S7,keywordEach->ND,letOwnedTupleGo->Wt,mainGlobals->yu,model->Mq,ofAClassStatement->RG,onTheHeap->TJ,pastItsLine_dict->Wb,pickOrder->Nh,plainId_quiet->OB,plainObj_wpAny_Assign_Attribute->RZ,pushCells_keeps->Ws,putSet_of->QN,pyIter->T7,pyNext->Pa,raiseNew->UI,rawInt->LU,relayAll->PM,richCompare_gives->VI,richCompare_meets_room->T6,rule->Qs,scanBound->N9,setAdd->T5,setAddHashed->T4,setEpoch->SX,setField->O8,setNext->P5,setRelay->UG,setSearchFrom->Nt,sizeLine->lp,sizeLine_eq->L3,sliceBounds->Nk,slicePick->V9,slot_list_getitem->RE,standAt->QM,starEach->vi,storeSet->UE,strIterType->N8,subscripted->Sl,swapsWith->N7,sysModules->MY,tupleKeyHash->Ds,tupleKind->R8,tupleKind_room_in1->O6,typeIs_int->Vi,typeIs_str->NZ,typeLookup->O5,typeLookup_type->Wr,typeOf->OM,unbindBehindTheSuite->UD,unsupported->OH,valueAt->RD,wpAny->vk,wpAny_Call_Name_kw->Nl,wpAny_Dict_empty->V6,wpAny_Name->Vh,wpAny_Try_except->V5,wpAny_askSetting->Ma,wpAny_assign_Name->VH,wpAny_attempt->MU,wpAny_bind->Z2,wpAny_call->NC,wpAny_callSpecial?_slot->MF,wpAny_call_entry->LX,wpAny_collect_seq->VG,wpAny_dictEntries->RC,wpAny_dictEpoch->Sx,wpAny_eqIsQuiet_tuple->Um,wpAny_execs_cons->V4,wpAny_execs_nil->NS,wpAny_field->MA,wpAny_fieldsOf->Qm,wpAny_forIn_list->V3,wpAny_getItem_list_slice->Tt,wpAny_holding->zp,wpAny_isInstance->Ng,wpAny_isOneOf_keyiter->Ul,wpAny_isSubtype_exc->U5,wpAny_isTrue_Compare1->Uk,wpAny_letGo->Ql,wpAny_letOwnedTupleGo_zip->To,wpAny_load->SV,wpAny_loadPart->O4,wpAny_loadPart_at->Oe,wpAny_lookBehind->V2,wpAny_mono->LL,wpAny_newObj_type->L1,wpAny_newTuple->Qk,wpAny_of_eq->UC,wpAny_onRaise->Re,wpAny_passesOwn->Nr,wpAny_pure->Z3,wpAny_pyHash_str->V1,wpAny_pyIter_ascii->Vg,wpAny_pyIter_enum->VF,wpAny_pyIter_keyiter->UA,wpAny_pyIter_list->Nw,wpAny_pyIter_slot->RA,wpAny_pyIter_strU->VE,wpAny_pyIter_tuple->Ro,wpAny_pyIter_wide->VC,wpAny_pyIter_zip->PH,wpAny_raiseNew_none->U4,wpAny_rule->NY,wpAny_runValue->SU,wpAny_seqItems->Mz,wpAny_setEntries_of->NK,wpAny_setField->O3,wpAny_setField_rec->I0,wpAny_setScan_of->VZ,wpAny_setState_of->oT,wpAny_specialOf->OL,wpAny_standAt->Pu,wpAny_storeSet_of->M7,wpAny_truthy_bool->ME,wpAny_typeNameOfWhole_keyiter->Nj,wpAny_typeOf->P0,wpAny_updateSeq_pair->Qj
open PySem.Around renaming under_plainId->Nq
open PySem.Builtin.Dict renaming showsAll->Rx
open PySem.Builtin.Dict_items renaming ownsTuple->Ps
open PySem.Builtin.Frozenset renaming baseOf->U3,copyOf->U2,difference->PB,differenceUpdate->OU,isAnySet->U1,newClass->UZ,sizeOf->P9,slot0->UY,unchanged->NO,updateFrom->UX
open PySem.Builtin.List renaming listExtendWith->Nb,listLengthHint->Qh,listSameRef->Q2,listTooLong->Np,listTouch->WC
open PySem.Builtin.ObjectAttr renaming storeInOwnDict->Uy
open PySem.Builtin.Range renaming rangeSize->Wo
open PySem.Builtin.SmallTypes renaming nextOf->Na,ownedTupleIsFree->Mp
open PySem.Builtin.Str renaming occurrences->LA,partsBetween->Rb,strKind->R7,subAt->Su
open PySem.Calls renaming Name_function_global->RV,callWith_builtin->SB
open PySem.CmpOp renaming NotIn->VY
open PySem.Code renaming quiet_builtin->Qi
open PySem.F renaming args_dict_keyiterator_next_1->RU,args_str_split_2->Ra,args_zip_next_1->Vf,called_set->Ox,entry_dict_keyiterator_next->R6,entry_str_split->Rw,entry_zip_next->Vx,plainAttrs_dict->Qd,plainAttrs_list->NT,plainAttrs_str->WG,plain_extend_loop->Ux,plain_list_iadd->Pj,slot_dict_get->WM,slot_dict_iter->Vw,slot_dict_keyiterator_next->MD,slot_dict_setdefault->UF,slot_dict_update->V8,slot_dict_values->V7,slot_int_rmul->VW,slot_set_iter->VV,slot_set_sub->Wn,slot_str_split->RT,slot_zip_next->PZ
open PySem.Heap renaming SameBut->v0,get?_push_ne->Ui,get?_push_of_some->Z7,get?_push_size->Zj,get?_update_other->LQ,get?_update_self->LP,lt_size->Zv,size_push->Zq,size_update->Uw
open PySem.Heap.IsSliceOf renaming new->Rz
open PySem.Heap.Ns1 renaming of_empty->Tn
open PySem.ItemsOf renaming nil->Ve
open PySem.NameKind renaming cell->N4,free->Mj
open PySem.Obj renaming cls_mapFields->Q9,data_mapFields->NM,isFreed_of_fields->Od,mapFields->Oo,mapSeq->MT,putSet->Ni
open PySem.PassesOwn renaming never->OZ
open PySem.PyData renaming depth->U8,depthAll->Pl,hasDict->Uq,hasDictAll->OO,leavesShort->Tp,leavesShortAll->N3,showable->Ud,showableAll->OG,shown->U7,str->OF,weight->R3,weightAll->OY
open PySem.SeqAt renaming EqAt->LN
open PySem.SeqAt.EqAt renaming int_str->Ss,of_refs->SO,same->SA,str_int->Sr
open PySem.SeqAt.RcAt renaming lists->TU,tuples->Wg
open PySem.SetFound renaming there->Pr
open PySem.SetTable renaming advance->RO,below->NI,bits->Se,eraseAt->NW,fill->PU,fits->Ny,fresh->Os,grown->MJ,insertAt->Mu,laid->Uc,layClean->Tg,probe->TR,relaid->Tu,runEnd->MR,turns->Qn
open PySem.SetTable.below renaming go->Tc
open PySem.SetTable.layClean renaming free->N0
open PySem.SetTable.probe renaming go->PP
open PySem.SetTable.sizeAbove renaming go->T3
open PySem.Shared renaming TypeIs->P8
open PySem.Str renaming empty->LD,join->wh,length->Ub,length_append->Q8,ofString->pp
open PySem.StrLaws renaming glued_eq_join->NV,join_length_le->Sf
open PySem.Value renaming bool->We,builtin->MG,int->Q6,isInt->VR,isStrOf->U6,none->L5,ref->m4,str->LH,type->Mm
open PySem.Value.ref renaming inj->TQ
open PySem.W renaming Looks->QJ,OpenLaw->VT,any_some->PR,callWith_K->S9,cellsFrom_some->Qz,check_slot->Vp,codeIn->Qy,emptyDict->QU,findIn->LZ,fnOf->Sb,handedIn->WK,hasDictIn->Ow,instObj->SE,isFn->WJ,keepIn->N1,kia_one->Oh,kitAny->S6,kitOne->Ov,lookIn->WI,looks_clsIn->UK,looks_findIn->RH,looks_subIn->Sm,mg_of->NP,nsIn->Q4,plainGet->S0,plainGet_of->UJ,plainOver->Wa,specialIn->R9,subIn->Qp,typeIn->Vj
open PySem.W.Looks renaming here->Pn
open PySem.W.WData renaming int->Ww
open PySem.Walks renaming list->RP,tuple->VQ
open PySem.pickOrder renaming go->RF
open Sum renaming inl->Wf,inr->kj
open Sum.inr renaming inj->MW
open True renaming intro->LW
open _root_ renaming Array->o0,Bool->su,Decidable->O2,DecidableEq->LV,False->LG,ForInStep->tI,Int->ri,List->hH,Nat->iv,Option->kw,StateT->Lw,String->L8,True->OT,Unit->Q7,absurd->on,and_congr_left->Td,and_true->UR,beq_eq_false_iff_ne->LF,beq_iff_eq->MK,beq_self_eq_true->Oy,bne_self_eq_false->VO,congr->TM,congrArg->vj,decide_eq_decide->Sd,decide_eq_false->Zh,decide_eq_true->Zf,decide_eq_true_eq->Lz,decide_eq_true_iff->Nm,exists_congr->T9,if_false->NE,if_neg->ij,if_pos->ix,if_true->Pq,modify->S3,not_or->Og,of_decide_eq_false->Rr,of_decide_eq_true->Zo,or_congr->Qu,or_false->Mb
open List (cons_append length_eq_zero_iff mem_append nil_append)
open Nat (le_add_right le_of_lt le_trans le_zero not_lt zero_add)
open Option (getD_none getD_some)
open PyProof.Rows (boot_all boot_any boot_int boot_max boot_min boot_set boot_sorted)
open PySem.F (slot_list_extend slot_str_join type_dict_get type_list_extend type_str_join)
open PySem.Heap (ExtBut)
open PySem.W (KatTups KitX clsIn findCls findObj findObj_own hideAll hideAll_get kdl_values kitx_dict kitx_list kitx_none looks_find looks_hook makesIn mroIn of_hideAll readsIn set_plain takerIn takesIn)
set_option linter.all false
set_option tactic.hygienic false
set_option compiler.extract_closed false
local macro_rules|`(#check $s:str)=>do
 let(a,_)<-s.getString.toList.foldlM (init:=(#[],0,0)) λ(a,n,k) c=>do
  let n:=n*90+c.toNat-if c.toNat>92 then 37 else 35
  return if k=9 then(a.push (Lean.mkIdent ("tw"++toString n).toName),0,0)else(a,n,k+1)
 `(structure $(Lean.mkIdent `PySem.W.Fast):ident:Prop where($a*:0=0))
#check ",?KSF73$n%3<TO?M+jNb<pgM|bcZnb:`0zP%z(gf<2$vUs]~g5>.cwxT>0iAQytWrP|ArZ(6&J.j<4^-431xu9u7nC5}`9{Rp$Ol6iW.n9sCK?M<Yfi~17wbCt#5ze)AEL>E@0U.<7`6:vh#Yz@Fkh#tgT4Ns,B0I,KuLyr}ZH?TZZWK(Z<qKYSzQp~$rNPfEWn2l-YKK]x@XpL.t&+.2dXyR#Ev+&q2s1>5SLK/W~/w{cvI1<X3sTL}@VGUT:h=|tr7PTL>e]BFsc=hpHl=)80'NOX5J(78k>(w3DIH$u,}Ewi.zW:^_D#_Rgmw9>CH.w:5HKwc/pD*In%np)'QP:6_RJzj1RHDs&W~wBja32''+BT~y7.>|ylw<C(+L&4:i>1PMp;ZnA3h:MX*=z5P{)U==LK>>$ZH@oBJNUZzU,.6J*1-sY`s>HZy%J^mM>7(G&MJG,<wQNln/>8];6^<]-1#i}<XXE`-6g%Y^'TmTw<POv{H8cGOJW;k>YQ8$1M4lx~'*fzwEO3~K.MRUU)YHP>iI6{7PrcdsJ=UPC=.%_Jh)}(P<Y#E$|aT-|#|(i4+p,K77CuU2<Cc:zMXNTvBhO?_<Xtg*F:^.F7'%BmF9(#C<#|Z{ru]YTN-UW(Y6MW8+MZ-9pFaq~@UOc1_Y=hPFDW>eYW.m='SJLT1K|MiL|Ho>cTt9U?@$0B.Cm''DxE&yD/k3qN>qyLUU$5z*t7n0t8m&%7?@t)9xg:+NF-t74]IB}E4mu:yRLUYEW{Q&3K#%Y/&~4I6}5~}6HUe@5p#?W?n~H:~:s?8G#dGWx{^Iw3ehiYvOnB'7sGM|>>h0^/iVZ'l%2C>HUVmGW|LJ4)><GKuIOkv,U*B/X?rul1]Bf1`@nB;<3w#s;a+Y*MxN.p$<&o:7sh$7~5-#M-v7XJoBQ(TE:bx=h0d^cL,,_6PCl'i25`QqWv?p|8Urz/Hc'avK4b_S^`t{,=Pf|1}5KZ(-qJ3L^%.6^.Xu%`+=TH(5h@/Sc(rtOBKv-7:08~42n6WjtCzGNDu_U`)],)@IVo%S~3Q;w9b<6/Yv6:$%'Y/Z*E3PL/;-:#_nja%PUYm)y8X4b/0C$V*eFq7F|nq3jrc+20$1]uC-{2_:54ZcL`bMhLY,/W+PtUh;F+|55-Zf;1G+Z8Ez2iO&g_q5Tp+hF%Inr1Me;?MD3z,e<]a5s?w-/taNClC5<eAFkVl-VObJZm7rNBd.Q?XivRisY%r}mpyUjF5:%YUG<?p5P<RDTbW<0N2Ch+2sO);;LG6w#8lqP;e%O$#YaXkU2$wpuP{+/RS(mjn)h9]T)O^|-]mC#IjP5v9fpU,SZ-m_ow-uZid0l0%EZg_pI#-:@Xw%r58?,?{lf]|nR7CLHm74Tm9*m#zr(tv|S&C21YkHRk@0{'WywsXFu90;oV'g8Ul*VhlYpw6dcOKI3vlJt#CCM%Leg]$PL;qA0|RpkO~K7z9lD;4{HAS`piQI%cY/IQ/5(&p}{C4FK3]?}~l#R>V{Uqh#?B`r*6?8glHGpj_ovF0N@Ay.y4V1.Z*Mfz{Vu8l/y7#$qg34gBw:17Et.zw#L/O$~Wra/E4),cmhBC$@z/oveB1n4&2QW(WuMc;Ot=.@h3*Jp:cG/>4$MC';SN@r7o(7$;6;bF;+uO/BM.M]EqF7?I&M`'lveE9OS@mAd%WS)S_*-HT9QLqy)H2e_jBDncZ)?sZ~6(t6('P/KZ_y84pGg%I$DmJyw$NJ<RnOj@@5Yc9wdV&-g#ZkbY+Qq|:9reX6dc7x/*QqAnf#n;;7C)>(#%m|,PN@Hs#FzkOJj}LMQ(;_FJHR)]*'U}(AsPGIZF$V70YkqU$:c$j?qUE]P5Ma_3Rbc}uP)`<Q&:oP2S|*|.Zzvy5LCA2RKabY9^z1516Hf$HGuCMJk5##X`-OX%g%&]0#5}XJR?8rx8>s/?eh|=c7FuT,|fh@.f^Pk,Y2DhWhg3`AlL+'PM1z^Q9H8f9ye8r-(7xF6BRo<%d=U3C@OFt2jQNHP@J'GPRbqzrH}jH6;#<D/Eo|0H_d-9y6PZm<2rNB~lpCE7~NnXOKOB$Q8Eeu(p}7%EILLaVwBy0>skT}rnMyL(B^.ivMwJP>JG,=^'&F9PcKNX1u|ftEj1#o9E{LS%_s`.@XXBK8Oi<@|'4OJ@DaB6wYy,Q.]I;4;hYn%.}v_q#nUveG2(#Fm*VX-$IT:7,x?.85))Eu:{{vH+$xt.?eUE_PpBN=+,=o:(?^DZ&$u-;K5cJJj9AoJ?]X](C$c=W6hv|{v3,s':5lZ9$HHCH,0Dq<h|GF+1rP#9/p{@/39E?X1S%UB,-V>Kd;k=RM>QXvkCfFgEW`6p.)^_zR;;Qv&|)62RJ%;j(od}:L#(ShPAH<uP/-5]&_?A^-%SD'4uM6{+_.;ziL+X~K*edq`c'vHI^Y@KYdW+IGq~'kY%FsN8:d.>,d9ObO/TZ^&ww|*-)XpL#_c2e'zDf6T{G@$H,&(25{Am?>7I^&@q#Hb9#K(A+aRKLMt87v;mU6vQBUP}'=?x&Ga*k+V/H4v*U41IX;j4r:HeUD|0H]i=eW$lJ1Z)c(Py$1@;yeg'M0<nLVwP1O]5DID'fYwISs4.=J)LcFW]U@W1C{9CPQI]G9$+i$gW0nB.zzrKlrfl0Wd_dBP'n5wH)/30i<'SrVQMrM&u1`+?*oD=z1~:7Z`u`;_lu&<jerkNa:ILh%CDr-*V]vvkS7H#O:|Z5NqI{D/t+HJIB(l6$ZanFo]?*Bswv.*9|Us%=(LB175'o+A'>ED}HI2*s_3r]|P.^)x(9<B<G?='mK:V=(dPgJfZwRZ>Yc;Ir%^1^5UpQ@{aYJs|ev#1(|k6N<0w8M~H;gr3M{,0wb+z`=$9>*I7L`Zx2+^DVewr'3o{z.}eTRFt(6p*nYV~XOVhzIon`?>~0jk)6%(++*DHE0nQE|6D^zIOdz3P7v$l#BY:,*(=fNd%s99@;%ZT?(ZKe~Przn}$`gPoHpT9F#)'b}eI0iL#Z=DO;p.4L"
theorem Z0{c:Sort _}{b:Prop}{a:c}:a=a∨b:=Or.inl rfl
theorem Z1{c:Sort _}{b:Prop}{a:c}:b∨a=a:=Or.inr rfl
theorem Xt{b:Type _}{l:hH b}{i:iv}{a:b}(h:l[i]?=hY a):∃h:i<l.length,l[i]=a:=hH.getElem?_eq_some_iff.mp h
theorem Xu{b:Type _}{a:b}{s t:hH b}(h:a∈s++t):a∈s∨a∈t:=hH.mem_append.mp h
theorem Xv{c:Type _}{a b:c}(h:a∈[b]):a=b:=hH.mem_singleton.mp h
theorem Xw{c d:Type _}{f:c->d}{l:hH c}{b:d}(h:b∈l.map f):∃a,a∈l/\f a=b:=OD.mp h
theorem Xx{c d:Type _}{f:c->d}{l:hH c}{b:d}(h:∃a,a∈l/\f a=b):b∈l.map f:=OD.mpr h
set_option maxHeartbeats 0
set_option Elab.async false
set_option compiler.extract_closed false
set_option maxRecDepth 100000
section
open PySem
local macro_rules|`(!0)=>`(by decide +kernel)|`(!1)=>`(by decide)|`(!2)=>`(by simp_all)|`(!$s:str)=>`(Str.ofString $s)
local macro_rules|`(↑$h:ident)=>`(by simpa using $h)
local macro_rules|`(tactic|lia)=>`(tactic|first|assumption|exact Nat.le_of_lt ‹_›|exact Nat.le_trans ‹_› (by decide)|exact Nat.lt_of_le_of_lt ‹_› (by decide)|exact Nat.le_trans ‹_› ‹_›|exact Nat.le_add_left _ _|exact Nat.le_antisymm ‹_› (Nat.le_of_not_lt ‹_›)|exact Nat.le_of_not_lt ‹_›|exact Nat.lt_of_le_of_ne ‹_› ‹_›|exact Nat.lt_succ_of_le ‹_›|exact Nat.le_of_eq (Eq.symm ‹_›)|exact Nat.le_add_right _ _|exact Nat.le_of_eq ‹_›|lia -verbose)
local macro_rules|`(⋯)=>`(by lia)|`(∅)=>`(by simp)
local macro_rules|`(⇑$s:ident)=>`(Shared.heap $s|>.objs.size)
local macro_rules|`($x:ident⁻¹)=>`(wpAny (model ($x).prog ($x).w) ($x).A)
local macro_rules|`($s:ident>>>$e)=>`({$s with heap:=$e})
local macro_rules|`(%[$x,*|$y])=>`(⟨$x,*,$y⟩)
def zqp:Nat->Lean.Syntax->Lean.Syntax
 |n+1,.node i k a=>if k==`«term%[_|_]»then .node i `Lean.Parser.Tactic.rcasesPat.tuple #[.atom i "⟨",.node i `null (a[1]!.getArgs.push (.atom i ",")|>.push a[3]!|>.map λx=>if x.isAtom then x else .node i `Lean.Parser.Tactic.rcasesPatLo #[.node i `Lean.Parser.Tactic.rcasesPatMed #[.node i `null #[zqp n x]],.node i `null #[]]),.atom i "⟩"]else .node i `Lean.Parser.Tactic.rcasesPat.ignore #[.atom i "_"]
 |_,x=>.node .none `Lean.Parser.Tactic.rcasesPat.one #[x]
local macro_rules|`(tactic|have $p:term:=$h)=>if p.raw.isOfKind `«term%[_|_]»then`(tactic|obtain $(⟨zqp 99 p⟩):rcasesPat:=$h)else Lean.Macro.throwUnsupported
local macro_rules|`(tactic|let $d:letDecl)=>`(tactic|have $d:letDecl)|`(tactic|show $e)=>`(tactic|refine $e)
local macro_rules|`(tactic|intro $p*)=>if p.any (·.raw.isOfKind `«term%[_|_]»)then do
  let q:=p.map λx=>(⟨.node .none `Lean.Parser.Tactic.rintroPat.one #[zqp 99 x]⟩:Lean.TSyntax `rintroPat)
  `(tactic|rintro $q*)else Lean.Macro.throwUnsupported
set_option hygiene false in
local macro_rules|`(command|$d:declaration)=>do
 let x:=d.raw[1]
 let b:=x.isOfKind `Lean.Parser.Command.definition
 if x.isOfKind `Lean.Parser.Command.inductive&&x[2][1].isNone&&x[3].isNone then
  let y:=(<-`(inductive q(vs:ZM)(H:Hp)(Q:VK)(E0:XK):Prop)).raw[1][2]
  return d.raw.setArg 1 (x.setArg 2 (y.setArg 0 (Lean.mkNullNode (x[2][0].getArgs++y[0].getArgs))))
 if d.raw[0].getArgs.all (·.isNone)&&(b||x.isOfKind `Lean.Parser.Command.abbrev)then return if b then d.raw.setArg 1 (.node .none `Lean.Parser.Command.theorem #[.atom .none "theorem",x[1],.node .none `Lean.Parser.Command.declSig #[x[2][0],x[2][1][0]],x[3]])else .node .none `Lean.Parser.Command.declaration #[d.raw[0].setArg 4 (Lean.mkNullNode #[.node .none `Lean.Parser.Command.noncomputable #[.atom .none "noncomputable"]]),.node .none `Lean.Parser.Command.definition #[.atom .none "def",x[1],x[2],x[3],Lean.mkNullNode]]
 Lean.Macro.throwUnsupported
set_option hygiene false in
local macro_rules|`(↥$a:ident)=>`(wpAny (model prog w) $a)
set_option hygiene false in
local macro_rules|`(command|#where)=>`(variable{prog:Program}{w:World}{A:Around}{E:ZD}{s:Shared})
set_option hygiene false in
local macro_rules|`(command|#version)=>`(variable{X:Cx}{gx:ZE}{σ:St}{H:Hp}{s:Shared})
nonrec abbrev ZA:=PySem.W.Frag
nonrec abbrev ZB:=hH PySem.Str
nonrec abbrev ZC:=PySem.Str->kw PySem.Value
nonrec abbrev ZD:=PySem.Value->PySem.Shared->Prop
nonrec abbrev ZE:=hH (PySem.Addr×PySem.Obj)
nonrec abbrev ZF:=hH PySem.Value
nonrec abbrev ZG:=hH (PySem.Addr×hH PySem.Str)
nonrec abbrev ZH:=hH (PySem.Addr×PySem.Str×hH PySem.Str)
nonrec abbrev ZI:=kw PySem.Addr
nonrec abbrev ZJ:=o0 PySem.Value
nonrec abbrev ZK:=o0 (kw PySem.Value)
nonrec abbrev ZL:=hH ri
set_option genSizeOf false
set_option genInjectivity false
set_option bootstrap.genMatcherCode false
local macro_rules|`(~~~$x)=>`($(x).length)|`($x<*$y)=>`($x=some (.lst $y))|`($x&&&$y)=>`($x=some (.tup $y))
set_option hygiene false in
local macro_rules|`(tactic|exists $t,$c,$a:ident,$j:ident,$p)=>`(tactic|(refine ($t).cal $c (λH vs Q E h=>?_);have $p:term:=h;refine ⟨rfl,λf $a A outer s $j=>?_⟩))
nonrec theorem ρ{α:Sort _}{a:α}:a=a:=rfl
set_option hygiene false in
local macro_rules|`($x\0)=>`($(x).map λt=>V.ref t.1)|`($x\1)=>`($(x).map (·.1))|`($x\2)=>`($(x).map (·.2))|`($x\3)=>`($(x).map V.str)|`($x\4)=>`($(x).map V.int)|`($x∣$y)=>`($x=some $y)
namespace _LL
open PySem PySem.Spec PyProof.Rows
noncomputable abbrev Key:=Sum ri ku
abbrev jX:Key->iy->su
 | .inl k,v=>VR k v
 | .inr x,v=>U6 x v
abbrev keyH(w:xl):Key->ri
 | .inl k=>hashInt k
 | .inr x=>M4 w x
def a9:∀{k:Key} {v:iy},jX k v=hW->(∃i t,k=Wf i/\v=Q6 i t)\/(∃x t,k=kj x/\v=LH x t)
 | .inl i,v,h=>by
   let%[t|e]:=iy.isInt_shape h;show .inl %[i,t,rfl|e]
 | .inr x,v,h=>by
   let%[t|e]:=iy.isStrOf_shape h;show .inr %[x,t,rfl|e]
def AE(i:ri)(t:Tok):jX (.inl i) (.int i t)=hW:=by simp[jX,VR]
def ee(x:ku)(t:Tok):jX (.inr x) (.str x t)=hW:=by simp[jX,U6]
def HH(a b:ri):decide ((Wf a:Key)=Wf b)=(a==b):=by
 by_cases e:a=b
 .subst e;simp
 simp_all
def HI(a b:ku):decide ((kj a:Key)=kj b)=decide (a=b):=by
 simp
abbrev aU(prog:n7)(w:xl):PySem.KeyKind prog w Key where
 is:=jX
 hash:=keyH w
 inj:=λv a b ha hb=>by
  rcases a9 ha with⟨i,t,rfl,rfl⟩|⟨x,t,rfl,rfl⟩
  .rcases a9 hb with⟨j,u,rfl,e⟩|⟨y,u,rfl,e⟩
   .injection e with e1 _;rw[e1]
   .show nomatch e
  .rcases a9 hb with⟨j,u,rfl,e⟩|⟨y,u,rfl,e⟩
   .show nomatch e
   .injection e with e1 _;rw[e1]
 byValue:=λk v h=>by
  rcases a9 h with⟨i,t,rfl,rfl⟩|⟨x,t,rfl,rfl⟩<;> rfl
 pyHash:=λhv h=>by
  rcases a9 hv with⟨i,t,rfl,rfl⟩|⟨x,t,rfl,rfl⟩
  .show wpAny_pyHash_int h
  .show V1 h
 eqBool:=λhu hv h=>by
  rcases a9 hu with⟨i,t,rfl,rfl⟩|⟨x,t,rfl,rfl⟩
  .rcases a9 hv with⟨j,u,rfl,rfl⟩|⟨y,u,rfl,rfl⟩
   .rw[HH]at h;show wpAny_eqBool_int h
   .show Ss i t y u _ _ _ _ h
  .rcases a9 hv with⟨j,u,rfl,rfl⟩|⟨y,u,rfl,rfl⟩
   .show Sr x t j u _ _ _ _ h
   .rw[HI]at h;show wpAny_eqBool_str h
 «strs»:=λk x t v h=>by
  rcases a9 h with⟨i,u,rfl,e⟩|⟨y,u,rfl,e⟩
  .show nomatch e
  .injection e with e1 _
   subst e1;cases v<;> rfl
def vG(prog:n7)(w:xl)(i:ri)(t:Tok):(aU prog w).is (.inl i) (.int i t)=hW:=AE i t
def vH(prog:n7)(w:xl)(x:ku)(t:Tok):(aU prog w).is (.inr x) (.str x t)=hW:=ee x t
set_option genInjectivity true in
inductive V where
 | non|bl (b:su)|int (i:ri)|str (x:ku)|byt (b:o0 UInt8)|flt (b:UInt64)|ref (a:jg)|ty (n:L8)
 deriving LV
abbrev aX:V->iy->Prop
 | .non,u=>u=L5
 | .bl b,u=>u=We b
 | .int i,u=>∃t,u=Q6 i t
 | .str x,u=>∃t,u=LH x t
 | .byt b,u=>∃t,u=iy.bytes b t
 | .flt b,u=>∃t,u=iy.float b t
 | .ref a,u=>u=m4 a
 | .ty n,u=>u=Mm n
nonrec abbrev aK:hH V->ZF->Prop:=Paired aX
def aK.length{xs:hH V}{us:ZF}(r:aK xs us): ~~~xs= ~~~us:=Paired.length r
def aK.get:∀{xs:hH V} {us:ZF} {i:iv} {x:V},aK xs us->xs[i]?∣x->∃u,us[i]?∣u/\aX x u
 | _,_,_,_,.nil,e=>by simp at e
 | _,_,0,_,.cons r _,e=>by simp at e;subst e;show%[_,ρ|r]
 | _,_,i+1,x,.cons _ t,e=>by
   let%[u,a|b]:=aK.get t (e);show%[u,a|b]
def aK.append:∀{xs ys:hH V} {us ws:ZF},aK xs us->aK ys ws->aK (xs++ys) (us++ws)
 | _,_,_,_,.nil,s=>s
 | _,_,_,_,.cons r t,s=> .cons r (aK.append t s)
def aK.take:∀{xs:hH V} {us:ZF} n,aK xs us->aK (xs.take n) (us.take n)
 | _,_,0,_=> .nil
 | _,_,_+1,.nil=> .nil
 | _,_,n+1,.cons r t=> .cons r (aK.take n t)
def aK.drop:∀{xs:hH V} {us:ZF} n,aK xs us->aK (xs.drop n) (us.drop n)
 | _,_,0,r=>r
 | _,_,_+1,.nil=> .nil
 | _,_,n+1,.cons _ t=>aK.drop n t
abbrev gW:kw V->kw iy->Prop
 | hY v,hY u=>aX v u
 | hV,hV=>OT
 | _,_=>LG
abbrev KV{a:Type}:hH (a×V)->hH (a×iy)->Prop:=Paired λp q=>p.1=q.1/\aX p.2 q.2
abbrev kV:Key->V
 | .inl i=> .int i
 | .inr x=> .str x
set_option genInjectivity true in
inductive HO where
 | lst (xs:hH V)
 | tup (xs:hH V)
 | dK (kvs:hH (Key×V))|dT (kvs:hH (hH Key×V))
 | set (S:ri->su) (n:iv)
 | ins (C dx:jg) (fs:hH (ku×V))
 | own (x:jg)
 | xd (fs:hH (ku×V))
 | met (f x:jg)
 | rng (lo hi:ri)
 | frz (o:NB) (u:HO)
 | tbl (ps:ZJ)
 | ext (φ:z4->Prop)
noncomputable abbrev Hp:=jg->kw HO
abbrev Qa(H:Hp)(a:jg)(o:HO):Hp:=λb=>if b=a then hY o else H b
def aa:Qa H a o a∣o:=by unfold Qa;rw[ix rfl]
def ap{H:Hp}{a b:jg}{o:HO}(h:b≠a):Qa H a o b=H b:=by unfold Qa;rw[ij h]
def Fj:Qa (Qa H a o) a u=Qa H a u:=by
 funext b;unfold Qa;split<;> rfl
def oi{H:Hp}(h:H a∣o)(h':H b∣u)(d:o≠u):a≠b:=by
 intro e;subst e;rw[h]at h';show d (Za h')
def av{H:Hp}{a b:jg}{o:HO}(h:H a∣o)(h':H b=hV):a≠b:=by
 lia
section
variable(P:n7)(w:xl)
abbrev cD(H:Hp)(h:z4)(a:jg):HO->Prop
 | .lst xs=> ~~~xs<=lp/\∃(its:ZF) (n:iv),aK xs its/\h.get? a=hY {cls:= .type "list",data:= .seq its.toArray n}
 | .tup xs=> ~~~xs<=lp/\∃its:ZF,aK xs its/\IsTup h a its.toArray
 | .dK b=> ~~~b<=lp/\(a==MY)=hX/\∃vs,KV b vs/\h.DictOf (aU P w) a vs
 | .dT b=> ~~~b<=lp/\(a==MY)=hX/\∃xs:hH (hH Key×jg×iy),
  Paired (λ(p:hH Key×V) (q:hH Key×jg×iy)=>p.1=q.1/\H q.2.1&&&p.1.map kV/\aX p.2 q.2.2) b xs/\
  ∃o g l,h.get? a∣o/\o.ExactDict/\o.data= .dict g l/\g.toList=xs.map (entryOfKey (R8 (aU P w)))/\(xs\1).Nodup
 | .set S n=>h.SetOf (intKind P w) a S n
 | .ins C d fs=>H d∣.own a/\ ~~~fs<=1000/\d≠a/\h.get? a∣SE C d/\
  ∃c,h.Ns1 d c/\(∀f,gW (fs.lookup f) (c f))/\PySem.Within c (fs\1)
 | .own _=>∃o,h.get? a∣o
 | .xd fs=>∃c,h.Ns1 a c/\∀f,gW (fs.lookup f) (c f)
 | .rng lo hi=>∃t u v,h.get? a=hY {cls:= .type "range",data:= .fields #[.int lo t,.int hi u,.int 1 v]}
 | .frz o u=>h.get? a∣o/\cD H h a u
 | .tbl ps=>h.get? a=hY {cls:= .none,data:= .fields ps}
 | .met f x=>h.get? a∣PySem.W.methodObj (.ref f) (.ref x)
 | .ext e=>e h/\(∃o,h.get? a∣o)/\∀i j,e i->(∀o,i.get? a∣o->j.get? a∣o)->e j
abbrev HOk(H:Hp)(h:z4):Prop:=∀a o,H a∣o->cD P w H h a o
end
section
variable{P:n7}{w:xl}{H H':Hp}{h h':z4}{a:jg}{o:HO}
def cD.lt(x:cD P w H h a o):a<h.objs.size:=by
 cases o with
 | lst xs=>have%[_,_,_,_|e]:=x;show Zv e
 | tup xs=>have%[_,_,_|p]:=x;show p.lt
 | dK b=>have%[_,_,_,_,o,_,_,e|_]:=x;show Zv e
 | dT b=>have%[_,_,_,_,o,_,_,e|_]:=x;show Zv e
 | set S n=>have%[o,_,_,_,e|_]:=x;show Zv e
 | ins C c fs=>have%[_,_,_,e|_]:=x;show Zv e
 | own y=>have%[_|e]:=x;show Zv e
 | xd fs=>have%[_,%[_,_,_,e|_]|_]:=x;show Zv e
 | rng lo hi=>have%[_,_,_|e]:=x;show Zv e
 | frz d u=>have%[e|_]:=x;show Zv e
 | tbl ps=>show Zv (x)
 | met f y=>show Zv (x)
 | ext g=>have%[_,%[_|e]|_]:=x;show Zv e
def Paired.mapP{F G:c->d->Prop}:∀{l₁:hH c} {l₂:hH d},Paired F l₁ l₂->(∀a b,F a b->G a b)->Paired G l₁ l₂
 | _,_,.nil,_=> .nil
 | _,_,.cons r t,f=> .cons (f _ _ r) (Paired.mapP t f)
def cD.stay(x:cD P w H h a o)(k:∀b u,(b=a\/H b∣.own a)->h.get? b∣u->h'.get? b∣u)
 (s:∀b,H b∣.own a->H' b∣.own a) (A:∀b xs,H b&&&xs->H' b&&&xs):cD P w H' h' a o:=by
 induction o with
 | lst xs=>have%[z,its,n,r|e]:=x;show%[z,its,n,r|k _ _ (.inl rfl) e]
 | tup xs=>have%[z,its,r,g,e|c]:=x;show%[z,its,r,g,k _ _ (.inl rfl) e|c]
 | dK l=>have%[z,y,vs,r,g,i,j,e|c]:=x;show%[z,y,vs,r,g,i,j,k _ _ (.inl rfl) e|c]
 | dT l=>
   let%[z,y,xs,r,g,i,j,e|c]:=x;show%[z,y,xs,Paired.mapP r λp q z=>%[z.1,A _ _ z.2.1|z.2.2],g,i,j,k _ _ (.inl rfl) e|c]
 | set S n=>have%[g,i,j,t,e|c]:=x;show%[g,i,j,t,k _ _ (.inl rfl) e|c]
 | ins C G fs=>
   let%[d,z,ne,e,m,%[od,i,j,B|c]|r]:=x;show%[s _ d,z,ne,k _ _ (.inl rfl) e,m,%[od,i,j,k _ _ (.inr d) B|c]|r]
 | own y=>have%[g|e]:=x;show%[g|k _ _ (.inl rfl) e]
 | xd fs=>have%[m,%[od,i,j,e|c]|r]:=x;show%[m,%[od,i,j,k _ _ (.inl rfl) e|c]|r]
 | rng lo hi=>have%[t,u,v|e]:=x;show%[t,u,v|k _ _ (.inl rfl) e]
 | frz g u E=>have%[e|q]:=x;show%[k _ _ (.inl rfl) e|E q]
 | tbl ps=>
   show k a _ (.inl rfl) x
 | met f y=>
   show k a _ (.inl rfl) x
 | ext I=>have%[p,%[o|e]|st]:=x;show%[st _ _ p λo q=>k _ _ (.inl rfl) q,%[o|k _ _ (.inl rfl) e]|st]
def HOk.lt(x:HOk P w H h)(e:H a∣o):a<h.objs.size:=(x a o e).lt
def HOk.fresh(x:HOk P w H h)(e:h.objs.size<=a):H a=hV:=by
 cases q:H a with
 | none=>rfl
 | some u=>show on (Zg (x.lt q) e) (Xq _)
def HOk.kept(x:HOk P w H h)(k:∀b u,h.get? b∣u->h'.get? b∣u):HOk P w H h':=λa o e=>
 (x a o e).stay (λb u _ q=>k b u q) (λ_ q=>q) λ_ _ q=>q
def HOk.laid(x:HOk P w H h)(k:∀b u,h.get? b∣u->h'.get? b∣u)(g:h.objs.size<=a)(new:cD P w (Qa H a o) h' a o):HOk P w (Qa H a o) h':=λb u e=>by
 let d:=x.fresh g;by_cases f:b=a
 .subst f;rw[aa]at e;grind
 .rw[ap f]at e;show(x b u e).stay (λc v _ q=>k c v q) (λc q=>(ap (av q d))▸q) λc xs q=>(ap (av q d))▸q
end
abbrev Rd(H:Hp)(a:jg)(u:HO):Prop:=H a∣u\/∃o,H a∣.frz o u
def Rd.ok{P:n7}{w:xl}{H:Hp}{h:z4}{a:jg}{u:HO}(r:Rd H a u)(x:HOk P w H h):cD P w H h a u:=by
 rcases r with r|⟨o,r⟩
 .show x a u r
 .let%[_|q]:=x a _ r;show q
abbrev Mut:kw HO->Prop
 | hY (.lst _)=>OT
 | hY (.dK _)=>OT
 | hY (.dT _)=>OT
 | hY (.set _ _)=>OT
 | hY (.ins _ _ _)=>OT
 | hY (.ext _)=>OT
 | _=>LG
section
variable{P:n7}{w:xl}{H:Hp}{h h':z4}{x e:jg}{o':HO}
def HOk.write(ok:HOk P w H h)(g:Mut (H x))(m:e=x\/H e∣.own x)(k:∀b u,b≠e->h.get? b∣u->h'.get? b∣u)(i:∃u,h'.get? e∣u)
 (new:cD P w (Qa H x o') h' x o'):HOk P w (Qa H x o') h':=λb u q=>by
 let d:∀c y,H c∣.own y->c≠x:=λc y r z=>by subst z;rw[r]at g;show g
 let f:∀c xs,H c&&&xs->c≠x:=λc xs r z=>by subst z;rw[r]at g;show g
 by_cases j:b=x
 .subst j;rw[aa]at q;grind
 .rw[ap j]at q;by_cases a:b=e
  .let l:H b∣.own x:=by
    rcases m with z|z
    .show on (a.trans z) j
    .show a▸z
   rw[q]at l;cases l;let%[v|n]:=i;show%[v|a▸n]
  .show(ok b u q).stay (λc v o r=>k c v ?_ r) (λc r=>(ap (d c b r))▸r) λc xs r=>(ap (f c xs r))▸r
   grind
end
structure Un (fs ex:hH jg) (H H':Hp) (h h':z4):Prop where
 keep:∀b o,h.get? b∣o->H b=hV->b∉fs->b∉ex->h'.get? b∣o
 slot:∀b o,h.get? b∣o->H b=hV->b∈fs->b∉ex->∃sl,h'.get? b=hY {o with slots:=sl}
 free:∀b o,h.get? b∣o->H b=hV->b∉ex->H' b=hV
 there:∀b o,h.get? b∣o->b∉ex->∃o',h'.get? b∣o'
 tups:∀b xs,H b&&&xs->H' b&&&xs
 frzs:∀b o u,H b∣.frz o u->H' b∣.frz o u
 tbls:∀b ps,H b∣.tbl ps->∃more,H' b∣.tbl (ps++more)
section
variable{fs fs' ex ex':hH jg}{H H1 H2:Hp}{h h1 h2 h':z4}{a x e:jg}{o:HO}
def Un.any(u:Un fs ex H H1 h h1)(q:h.get? b∣c)(n:H b=hV)(d:b∉ex):∃g,h1.get? b=hY {c with slots:=g}:=by
 by_cases f:b∈fs
 .show u.slot b c q n f d
 .show%[c.slots|u.keep b c q n f d]
def Un.trans(a:Un fs ex H H1 h h1)(b:Un fs ex H1 H2 h1 h2):Un fs ex H H2 h h2 where
 keep:=λc ob q n hc hx=>b.keep c ob (a.keep c ob q n hc hx) (a.free c ob q n hx) hc hx
 slot:=λc ob q n hc hx=>by
  let%[sl|e1]:=a.slot c ob q n hc hx;let%[sl'|e2]:=b.slot c _ e1 (a.free c ob q n hx) hc hx;show%[sl'|e2]
 free:=λc ob q n hx=>by
  let%[o'|e1]:=a.there c ob q hx;show b.free c o' e1 (a.free c ob q n hx) hx
 there:=λc ob q hx=>by
  let%[o'|e1]:=a.there c ob q hx;show b.there c o' e1 hx
 tups:=λc xs q=>b.tups c xs (a.tups c xs q)
 frzs:=λc ob xs q=>b.frzs c ob xs (a.frzs c ob xs q)
 tbls:=λc ps q=>by
  let%[m1|e1]:=a.tbls c ps q;let%[m2|e2]:=b.tbls c _ e1;show%[m1++m2|by rw[e2,TF]]
def Un.kept(k:∀b u,h.get? b∣u->h'.get? b∣u):Un fs ex H H h h':=
 %[λb c q _ _ _=>k b c q,λb c q _ _ _=>%[c.slots|k b c q],λ_ _ _ n _=>n,λb c q _=>%[c|k b c q],λ_ _ q=>q,λ_ _ _ q=>q|λ_ ps q=>%[#[]|by rw[q];simp]]
def Un.refl:Un fs ex H H h h:=Un.kept λ_ _ q=>q
def Un.laid(k:∀b u,h.get? b∣u->h'.get? b∣u)(hp:h.objs.size<=a)(hn:H a=hV):Un fs ex H (Qa H a o) h h' where
 keep:=λb u q _ _ _=>k b u q
 slot:=λb u q _ _ _=>%[u.slots|k b u q]
 free:=λb u q n _=>(ap (Zt (Zg (Zv q) hp)))▸n
 there:=λb u q _=>%[u|k b u q]
 tups:=λb xs q=>(ap (av q hn))▸q
 frzs:=λb u xs q=>(ap (av q hn))▸q
 tbls:=λb ps q=>%[#[]|by rw[ap (av q hn),q];simp]
def Un.write(f:Mut (H x))(l:e=x\/H e∣.own x)(k:∀b u,b≠e->h.get? b∣u->h'.get? b∣u)(i:∃u,h'.get? e∣u):Un fs ex H (Qa H x o) h h':=by
 let j:∀b,H b=hV->b≠x:=λb n z=>by subst z;rw[n]at f;show f
 let g:∀b,H b=hV->b≠e:=λb n z=>by
  simp_all
 let c:∀b u,H b∣u-> ¬ Mut (hY u)->b≠x:=λb u q nm z=>!2
 show%[λb u q n _ _=>k b u (g b n) q,λb u q n _ _=>%[u.slots|k b u (g b n) q],λb u q n _=>(ap (j b n))▸n,λb u q _=>?_,
  λb xs q=>(ap (c b _ q λz=>z))▸q,λb u xs q=>(ap (c b _ q λz=>z))▸q|λb ps q=>%[#[]|by rw[ap (c b _ q λz=>z),q];simp]]
 by_cases d:b=e
 .simp_all
 .show%[u|k b u d q]
end
abbrev trk(h:z4)(H:Hp):hH jg:=(q7 h.objs.size).filter λa=>(H a).isSome
abbrev AF(h:z4)(H:Hp):z4:=hideAll h (trk h H)
def AG(h:z4)(H:Hp):(AF h H).objs.size=h.objs.size:=PySem.W.hideAll_size _ _
def B6(e:h.get? b∣o)(n:H b=hV):(AF h H).get? b∣o:=
 hideAll_get _ e λa=>by
  let q:=(ow.mp a).2;rw[n]at q;simp at q
def Fk(e:(AF h H).get? b∣o):h.get? b∣o/\H b=hV:=by
 let a:=of_hideAll _ e;show%[a|?_];cases q:H b with
 | none=>rfl
 | some x=>
   let z:(AF h H).get? b=hV:=PySem.W.hideAll_none _ (ow.mpr %[J6.mpr (Zv a)|by simp[q]])
   grind
abbrev Fo(g h:z4)(L:jg):ZE:=(q7 h.objs.size).filterMap λa=>if a=L\/(g.get? a).isSome=hW then hV else(h.get? a).map λo=>(a,o)
abbrev rest(g h:z4)(L d:jg):ZE:=(Fo g h L).filter λp=>decide (p.1≠d)
structure Mod (K:ZA) (mg:ZC) (base:z4):Prop where
 kin:K.In base
 glob:base.Ns yu mg
 blt:∃mb,base.Ns Vq mb/\∀x:ku,x≠"__name__"->mb x=MS x
 nolimit:base.NoLimit
structure Cx where
 prog:n7
 w:xl
 K:ZA
 mg:ku->kw iy
 base:z4
 A:wy
 N:ZB
 s₀:kG
 H₀:Hp
 env:Env
 outer:hH Env
 stack:hH Env
 ex:hH jg
 fn:ku->su
 calm:su
 pn:ZE
 xe:iy->kG->Prop
abbrev frs(l:hH Env):hH jg:=l.filterMap (·.frame)
noncomputable abbrev Cx.fs(X:Cx):hH jg:=frs X.outer
abbrev Vis(a:QB)(x:ku):Prop:=a.names.lookup x∣.local\/a.names.lookup x∣.cell\/a.names.lookup x∣.free
abbrev Loc(a:QB)(x:ku):Prop:=a.names.lookup x∣.local\/a.names.lookup x∣.cell
abbrev Look(env:Env)(h:z4)(m:ZC)(x:ku)(u:iy):Prop:=
 (env.kindOf x∣.local/\m x∣u)\/((env.kindOf x∣.cell\/env.kindOf x∣.free)/\∃c,env.cells.lookup x∣c/\h.IsCell c (hY u))
structure Cx.Ok (X:Cx):Prop where
 mod:Mod X.K X.mg X.base
 kind:X.env.scope.kind= .function
 glob:X.env.globals=yu
 blt:X.env.builtins=Vq
 above:X.s₀.heap.objs.size<=X.env.locals
 inj:∀x y c,X.env.cells.lookup x∣c->X.env.cells.lookup y∣c->x=y
 has:∀x,(X.env.kindOf x∣.cell\/X.env.kindOf x∣.free)->∃c,X.env.cells.lookup x∣c
 cab:∀x c,X.fn x=hW->X.env.cells.lookup x∣c->X.s₀.heap.objs.size<=c
 hd:X.calm=hW->X.A.handled=hV
 frames:X.A.frames∣X.stack
 stk:X.stack=X.outer\/(X.stack=X.env::X.outer/\X.env.frame∣X.env.locals)
 exf:∀b∈X.ex,b≠X.env.locals/\∀x c,X.env.cells.lookup x∣c->c≠b
 bs:∀b o,X.base.get? b∣o->X.s₀.heap.get? b∣o/\X.H₀ b=hV
 bsz:X.base.objs.size<=X.s₀.heap.objs.size
 noex:∀b o,X.base.get? b∣o->b∉X.ex
 exfs:∀b∈X.ex,b∉X.fs
 funs:X.s₀.heap.FunFrames X.base X.outer
 frf:∀b∈X.fs,X.H₀ b=hV
structure Qc (X:Cx) (gx:hH _) (σ:hH _) (H:Hp) (s:kG):Prop where
 ok:X.Ok
 os:s.os=X.s₀.os
 bare:Pt s.gens
 base:Un X.fs X.ex X.H₀ H X.s₀.heap s.heap
 loc:∃m,s.heap.Ns X.env.locals m/\∀(i:iv) x v,X.N[i]?∣x->σ[i]?∣hY v->Vis X.env.scope x->∃u,aX v u/\Look X.env s.heap m x u
 cell:∀x c,X.env.cells.lookup x∣c->∃v,s.heap.IsCell c v
 free:H X.env.locals=hV
 freeC:∀x c,X.env.cells.lookup x∣c->H c=hV
 pin:∀p∈X.pn++gx,s.heap.get? p.1∣p.2/\H p.1=hV/\p.1≠X.env.locals/\p.1∉X.fs/\∀v,p.2.data≠ .cell v
 hok:HOk X.prog X.w H s.heap
 len:σ.length= ~~~X.N
section
variable{X:Cx}{gx:ZE}{σ:hH (kw V)}{H H':Hp}{s:kG}{h':z4}
def Cx.Ok.nofr(ok:X.Ok)(e:X.base.get? b∣o):b∉X.fs:=λa=>by
 let:=(ok.funs.mem a).1
 grind
def Qc.bs(I:Qc X gx σ H s):∀b o,X.base.get? b∣o->s.heap.get? b∣o/\H b=hV:=λb o e=>
 %[I.base.keep b o (I.ok.bs b o e).1 (I.ok.bs b o e).2 (I.ok.nofr e) (I.ok.noex b o e)|I.base.free b o (I.ok.bs b o e).1 (I.ok.bs b o e).2 (I.ok.noex b o e)]
def Qc.bk(I:Qc X gx σ H s):∀b o,X.base.get? b∣o->s.heap.get? b∣o:=λb o e=>(I.bs b o e).1
def Qc.mod(I:Qc X gx σ H s):Mod X.K X.mg X.base:=I.ok.mod
def Qc.kIn(I:Qc X gx σ H s):X.K.In s.heap:=I.ok.mod.kin.keeps I.bk
def Qc.lt(I:Qc X gx σ H s):X.env.locals<⇑s:=let⟨_,a,_⟩:=I.loc;a.lt
def Qc.sz(I:Qc X gx σ H s):X.s₀.heap.objs.size<=⇑s:=Ym I.ok.above (Yk I.lt)
def Qc.nofs(I:Qc X gx σ H s)(h:⇑s<=a):a∉X.fs:=λb=>by
 let%[_,o,c|_]:=I.ok.funs.mem b;show on (Zg (Zv c) (Ym I.sz h)) (Xq _)
def Qc.cne(I:Qc X gx σ H s):∀x c,X.env.cells.lookup x∣c->c≠X.env.locals:=λx c e z=>by
 let%[v,o,d|f]:=I.cell x c e;let%[m,%[g,h,i,a,b|_]|_]:=I.loc
 grind
def Qc.funs(I:Qc X gx σ H s):s.heap.FunFrames X.base X.outer:=by
 let all:∀l,(∀b∈frs l,b∈X.fs)->X.s₀.heap.FunFrames X.base l->s.heap.FunFrames X.base l:=by
  intro l
  induction l with
  | nil=>intro _ _;trivial
  | cons env r g=>
    intro f h;let%[i,%[L,o,a,j,m|n]|p]:=h;let c:=f L (by unfold frs;rw[Y4,a];show Zm);let%[q|e]:=I.base.slot L o m (I.ok.frf L c) c λz=>I.ok.exfs L z c
    show%[i,%[L,_,a,j,e|n]|g (λb d=>f b (by unfold frs;rw[Y4,a];show Zk _ d)) p]
 show all X.outer (λ_ d=>d) I.ok.funs
def Qc.stack(I:Qc X gx σ H s):s.heap.FunFrames X.base X.stack:=by
 rcases I.ok.stk with e|⟨e,a⟩
 .show e▸I.funs
 .rw[e];let%[m,b|_]:=I.loc;show .cons (by rw[I.ok.kind];decide) a b (z4.get?_none_of_le (Ym I.ok.bsz I.ok.above)) I.funs
def Qc.stkSub(I:Qc X gx σ H s):∀b∈frs X.stack,b∈X.env.locals::X.fs:=λb a=>by
 rcases I.ok.stk with e|⟨e,c⟩
 .rw[e]at a;show Zk _ a
 .rw[e]at a;unfold frs at a;rw[Y4,c]at a;show a
def Qc.stkFree(I:Qc X gx σ H s):∀b∈frs X.stack,H b=hV:=λb a=>by
 rcases X2.mp (I.stkSub b a)with e|a
 .show e▸I.free
 .let%[_,o,c|_]:=I.ok.funs.mem a;show I.base.free b o c (I.ok.frf b a) λz=>I.ok.exfs b z a
def Qc.step{T:Drawn}{ch:hH jg}(I:Qc X gx σ H s)
 (f:∀b∈ch,(b∈X.ex\/X.s₀.heap.objs.size<=b)/\b≠X.env.locals/\(∀x c,X.env.cells.lookup x∣c->c≠b)/\∀p∈X.pn++gx,p.1≠b)
 (keep:∀b o,b≠X.env.locals->b∉X.fs->b∉ch->s.heap.get? b∣o->H b=hV->h'.get? b∣o)
 (slot:∀b o,b≠X.env.locals->b∈X.fs->b∉ch->s.heap.get? b∣o->H b=hV->∃G,h'.get? b=hY {o with slots:=G}) (free:∀b o,b∉ch->s.heap.get? b∣o->H b=hV->H' b=hV)
 (there:∀b o,b∉ch->s.heap.get? b∣o->∃B,h'.get? b∣B)
 (tups:∀b xs,H b&&&xs->H' b&&&xs) (frzs:∀b o u,H b∣.frz o u->H' b∣.frz o u) (tbls:∀b ps,H b∣.tbl ps->∃more,H' b∣.tbl (ps++more))
 (U:∀m,s.heap.Ns X.env.locals m->h'.Ns X.env.locals m) (J:HOk X.prog X.w H' h') (Y:Pt g'):
 Qc X gx σ H' {s with heap:=h',gens:=g',drawn:=T,toks:=t'}:=by
 let C:∀b o,X.s₀.heap.get? b∣o->b≠X.env.locals:=λb o e=>Zt (Zg (Zv e) I.ok.above)
 let j:∀b o,X.s₀.heap.get? b∣o->b∉X.ex->b∉ch:=λb o e a y=>by
  rcases(f b y).1 with z|z
  .show a z
  .show on (Zg (Zv e) z) (Xq _)
 let g:∀x c,X.env.cells.lookup x∣c->∀v,s.heap.IsCell c v->h'.IsCell c v:=λx c e v ⟨o,A,L⟩=>by
  let h:=λz=>(f c z).2.2.1 x c e rfl
  by_cases N:c∈X.fs
  .let%[G|q]:=slot c o (I.cne x c e) N h A (I.freeC x c e);show%[_,q|L]
  .show%[o,keep c o (I.cne x c e) N h A (I.freeC x c e)|L]
 show%[I.ok,I.os,Y,%[λb o e n y a=>?_,λb o e n y a=>?_,λb o e n a=>?_,λb o e a=>?_,λb xs e=>tups b xs (I.base.tups b xs e),λb o xs e=>frzs b o xs (I.base.frzs b o xs e)|λb ps e=>?_],?_,λx c e=>?_,?_,λx c e=>?_,λp O=>?_,J|I.len]
 .show keep b o (C b o e) y (j b o e a) (I.base.keep b o e n y a) (I.base.free b o e n a)
 .let%[G|w]:=I.base.slot b o e n y a;let%[M|E]:=slot b _ (C b o e) y (j b o e a) w (I.base.free b o e n a);show%[M|E]
 .let%[B|w]:=I.base.there b o e a;show free b B (j b o e a) w (I.base.free b o e n a)
 .let%[B|w]:=I.base.there b o e a;show there b B (j b o e a) w
 .let%[m1|w]:=I.base.tbls b ps e;let%[m2|E]:=tbls b _ w;show%[m1++m2|by rw[E,TF]]
 .let%[m,hn|hl]:=I.loc;show%[m,U m hn|λi x v w E e3=>?_];let%[u,r|l]:=hl i x v w E e3;show%[u,r|?_];rcases l with l|⟨k,c,e,z⟩
  .show .inl l
  .show .inr %[k,c,e|g x c e _ z]
 .let%[v|z]:=I.cell x c e;show%[v|g x c e v z]
 .let%[m,%[o,_,_,A|_]|_]:=I.loc;show free _ o (λz=>(f _ z).2.1 rfl) A I.free
 .let%[v,o,A|L]:=I.cell x c e;show free c o (λz=>(f c z).2.2.1 x c e rfl) A (I.freeC x c e)
 .let%[e,n,ne,Q|d]:=I.pin p O;let h:=λz=>(f p.1 z).2.2.2 p O rfl
  show%[keep p.1 p.2 ne Q h e n,free p.1 p.2 h e n,ne,Q|d]
def Qc.un{t':iv}(I:Qc X gx σ H s)(u:Un X.fs [] H H' s.heap h')(c:HOk X.prog X.w H' h'):Qc X gx σ H' {s with heap:=h',toks:=t'}:=by
 let%[m,%[o,p,q,h|r]|_]:=id I.loc;let%[v|i]:=u.any h I.free ∅;show I.step (ch:=[]) (λ_ z=>nomatch z) (λb o _ d _ e n=>u.keep b o e n d ∅) (λb o _ d _ e n=>u.slot b o e n d ∅) (λb o _ e n=>u.free b o e n ∅) (λb o _ e=>u.there b o e ∅) u.tups u.frzs u.tbls (λw j=>by
  let%[y,f,g,a|l]:=j;rw[h]at a;cases a;show%[_,f,g,i|l]) c I.bare
def Qc.call{q:Drawn}{ch:hH jg}(I:Qc X gx σ H s)(u:Un (frs X.stack) ch H H' s.heap h')(g:HOk X.prog X.w H' h')(v:Pt w)
 (d:∀b∈ch,(b∈X.ex\/X.s₀.heap.objs.size<=b)/\b≠X.env.locals/\(∀x c,X.env.cells.lookup x∣c->c≠b)/\∀p∈X.pn++gx,p.1≠b):
 Qc X gx σ H' {s with heap:=h',gens:=w,drawn:=q,toks:=t'}:=by
 let%[m,%[o,C,E,l|r]|_]:=id I.loc;let%[G|h]:=u.any l I.free λz=>(d _ z).2.1 rfl
 show I.step d (λb o h y a e n=>u.keep b o e n (λz=>(X2.mp (I.stkSub b z)).elim h y) a) (λb o _ _ a e n=>u.any e n a) (λb o a e n=>u.free b o e n a) (λb o a e=>u.there b o e a) u.tups u.frzs u.tbls (λJ A=>by
  let%[L,i,j,f|B]:=A;rw[l]at f;cases f;show%[_,i,j,h|B]) g v
def Qc.turned{it:jg}(I:Qc X gx σ H s)(k:∀b o,b≠it->s.heap.get? b∣o->h'.get? b∣o)(B:H it=hV)(f:it≠X.env.locals)
 (g:it∈X.ex\/X.s₀.heap.objs.size<=it) (h:∀x c,X.env.cells.lookup x∣c->c≠it) (i:∀p∈X.pn++gx,p.1≠it):Qc X gx σ H {s with heap:=h',toks:=t'}:=by
 let d:∀b u,H b∣u->b≠it:=λb u e z=>by lia
 show I.step (ch:=[it]) (λb j=>?_) (λb o _ _ a e _=>k b o (λz=>a (by simp[z])) e) (λb o _ _ a e _=>%[o.slots|k b o (λz=>a (by simp[z])) e]) (λ_ _ _ _ n=>n)
  (λb o a e=>%[o|k b o (λz=>a (by simp[z])) e]) (λ_ _ e=>e) (λ_ _ _ e=>e) (λb ps e=>%[#[]|by rw[e];simp]) (λm l=>?_) (λb u e=>?_) I.bare
 .let e:=↑j
  subst e;show%[g,f,h|i]
 .let%[o,w,y,A|r]:=l;show%[o,w,y,k _ o (Lx f) A|r]
 .show(I.hok b u e).stay (λc v a q=>k c v ?_ q) (λ_ q=>q) λ_ _ q=>q
  rcases a with z|z
  .show z▸d b u e
  .show d c _ z
def Qc.tok(I:Qc X gx σ H s)(t:iv):Qc X gx σ H {s with toks:=t}:=I.un Un.refl I.hok
def Qc.kept(I:Qc X gx σ H s)(k:∀b u,s.heap.get? b∣u->h'.get? b∣u):Qc X gx σ H {s with heap:=h',toks:=t'}:=I.un (Un.kept k) (I.hok.kept k)
def Qc.laid{a:jg}{o:HO}{t':iv}(I:Qc X gx σ H s)(k:∀b u,s.heap.get? b∣u->h'.get? b∣u)(c:⇑s<=a)(new:cD X.prog X.w (Qa H a o) h' a o):
 Qc X gx σ (Qa H a o) {s with heap:=h',toks:=t'}:=I.un (Un.laid k c (I.hok.fresh c)) (I.hok.laid k c new)
def Qc.write(I:Qc X gx σ H s)(c:Mut (H x))(d:e=x\/H e∣.own x)(k:∀b u,b≠e->s.heap.get? b∣u->h'.get? b∣u)(a:∃u,h'.get? e∣u)
 (new:cD X.prog X.w (Qa H x o) h' x o):Qc X gx σ (Qa H x o) {s with heap:=h',toks:=t'}:=I.un (Un.write c d k a) (I.hok.write c d k a new)
def Qc.pins_of(I:Qc X gx σ H s)(h:∀p∈a,s.heap.get? p.1∣p.2/\H p.1=hV/\p.1≠X.env.locals/\p.1∉X.fs/\∀v,p.2.data≠ .cell v):Qc X a σ H s:=
 %[I.ok,I.os,I.bare,I.base,I.loc,I.cell,I.free,I.freeC,λp b=>(Xu b).elim (λz=>I.pin p (Yz _ z)) (h p),I.hok|I.len]
def ig{N:ZB}(c:N.Nodup){i j:iv}{x:ku}(a:N[i]?∣x)(b:N[j]?∣x):i=j:=by
 let%[f|d]:=Xt a;let%[g|e]:=Xt b;show(hH.getElem_inj c).mp (d.trans e.symm)
def AH{A:wy}{E:ZD}{i:iv}{x:ku}{v:V}{u:iy}{Q:Q7->kG->Prop}(I:Qc X gx σ H s)(hN:X.N.Nodup)(hi:X.N[i]?∣x)(B:Loc X.env.scope x)(r:aX v u)
 (h:∀s',Qc X gx (σ.set i (hY v)) H s'->(∃a,v0 a s.heap s'.heap/\(a=X.env.locals\/X.env.cells.lookup x∣a))->Q () s') (hf:X.fn x=hW\/X.env.scope.names.lookup x∣.local):vk M A (storeName X.env x u) Q E s:=by
 let%[m,hn|hl]:=id I.loc;let J:i<σ.length:=I.len▸(Xt hi).1;let cne:=I.cne;let g:∀{a:jg} {h':z4},(∃o,s.heap.get? a∣o/\H a=hV)->v0 a s.heap h'->HOk X.prog X.w H h':=λ{a h'} ha f b ob e=>by
  let%[_,_|C]:=ha;show(I.hok b ob e).stay (λc w' w q=>(f.2 c ?_).trans q) (λ_ q=>q) λ_ _ q=>q
  rintro rfl;rcases w with rfl|w
  .rw[C]at e;cases e
  .rw[C]at w;cases w
 rcases B with L|L
 .show wpAny_storeName_local L hn (λh' ae f=>?_) (by rw[I.ok.kind];rfl);let%[oL,_,_,ag|_]:=id hn;show h _ %[I.ok,I.os,I.bare,%[λb o e n N B=>?_,λb o e n N B=>?_,I.base.free,λb o e B=>?_,I.base.tups,I.base.frzs|I.base.tbls],%[_,ae|λj y v' l G e3=>?_],λy c e=>?_,I.free,I.freeC,λp hp=>?_,g %[oL,ag|I.free] f|by simpa using I.len] %[_,f|.inl rfl]
  .show(f.2 b (Zt (Zg (Zv e) I.ok.above))).trans (I.base.keep b o e n N B)
  .let%[sl|l]:=I.base.slot b o e n N B;show%[sl|(f.2 b (Zt (Zg (Zv e) I.ok.above))).trans l]
  .let%[o'|l]:=I.base.there b o e B;show%[o'|(f.2 b (Zt (Zg (Zv e) I.ok.above))).trans l]
  .by_cases O:j=i
   .subst O;rw[hi]at l;cases l;rw[SL J]at G;cases G;show%[u,r|.inl %[L|by simp]]
   .rw[PY (Lx O)]at G;let%[u',r'|q]:=hl j y v' l G e3;show%[u',r'|?_];rcases q with⟨k,e⟩|⟨k,c,e,z⟩
    .show .inl %[k|?_];let:y≠x:=λe=>O (ig hN l (e▸hi))
     simp[this,e]
    .show .inr %[k,c,e|z.sameBut f (cne y c e)]
  .let%[w'|z]:=I.cell y c e;show%[w'|z.sameBut f (cne y c e)]
  .let%[e,n,ne,nf|d]:=I.pin p hp;show%[(f.2 p.1 ne).trans e,n,ne,nf|d]
 .let T:X.fn x=hW:=by
   rcases hf with z|z
   .show z
   .rw[z]at L;cases L
  let%[c|w]:=I.ok.has x (.inl L);let%[w'|z]:=I.cell x c w;show wpAny_storeName_cell I.ok.kind L w z (λh' U f=>?_);let%[oc,Y|ab]:=id z;show h _ %[I.ok,I.os,I.bare,%[λb o e n N B=>?_,λb o e n N B=>?_,I.base.free,λb o e B=>?_,I.base.tups,I.base.frzs|I.base.tbls],%[m,hn.sameBut f (Lx (cne x c w))|λj y v' l G e3=>?_],λy c' e=>?_,I.free,I.freeC,λp hp=>?_,g %[oc,Y|I.freeC x c w] f|by simpa using I.len] %[c,f|.inr w]
  .show(f.2 b (Zt (Zg (Zv e) (I.ok.cab x c T w)))).trans (I.base.keep b o e n N B)
  .let%[sl|l]:=I.base.slot b o e n N B;show%[sl|(f.2 b (Zt (Zg (Zv e) (I.ok.cab x c T w)))).trans l]
  .let%[o'|l]:=I.base.there b o e B;show%[o'|(f.2 b (Zt (Zg (Zv e) (I.ok.cab x c T w)))).trans l]
  .by_cases O:j=i
   .subst O;rw[hi]at l;cases l;rw[SL J]at G;cases G;show%[u,r|.inr %[.inl L,c,w|U]]
   .rw[PY (Lx O)]at G;let%[u',r'|q]:=hl j y v' l G e3;show%[u',r'|?_];rcases q with q|⟨k,c',e,z'⟩
    .show .inl q
    .show .inr %[k,c',e|z'.sameBut f ?_];rintro rfl;show O (ig hN l (I.ok.inj _ _ _ e w▸hi))
  .by_cases ac:c'=c
   .subst ac;show%[_|U]
   .let%[w2|z2]:=I.cell y c' e;show%[w2|z2.sameBut f ac]
  .let%[e,n,ne,nf|d]:=I.pin p hp;show%[(f.2 p.1 ?_).trans e,n,ne,nf|d];intro q;rw[q,Y]at e;show d w' ((Za e)▸ab)
def kM(I:Qc X gx σ H s)(a:X.N.Nodup)(hi:X.N[i]?∣x)(b:Loc X.env.scope x)(r:aX v u)
 (h:∀s',Qc X gx (σ.set i (hY v)) H s'->Q () s') (c:X.fn x=hW\/X.env.scope.names.lookup x∣.local):vk M A (storeName X.env x u) Q E s:=
 AH I a hi b r (λs' d _=>h s' d) c
def Qc.call'(I:Qc X gx σ H s)(e:s'.os=s.os)(u:Un (frs X.stack) ch H H' s.heap s'.heap)(a:HOk X.prog X.w H' s'.heap)(f:Pt s'.gens)
 (d:∀b∈ch,(b∈X.ex\/X.s₀.heap.objs.size<=b)/\b≠X.env.locals/\(∀x c,X.env.cells.lookup x∣c->c≠b)/\∀p∈X.pn++gx,p.1≠b):Qc X gx σ H' s':=by
 let%[h',g,h,t'|i]:=s';subst e;show I.call u a f d
end
noncomputable abbrev XK:=iy->ZI->Hp->Prop
noncomputable abbrev St:=hH (kw V)
noncomputable abbrev VK:=V->Hp->Prop
noncomputable abbrev TE:=St->Hp->VK->Prop
noncomputable abbrev TT:=St->Hp->(su->Hp->Prop)->Prop
noncomputable abbrev TA:=St->Hp->(hH V->Hp->Prop)->Prop
structure iD where
 nx:St->Hp->Prop
 rt:VK
 bk:St->Hp->Prop:=λ_ _=>LG
 ct:St->Hp->Prop:=λ_ _=>LG
noncomputable abbrev TS:=iD->St->Hp->Prop
abbrev EP(X:Cx)(gx:ZE)(b:St)(Q:VK)(u:iy)(s':kG):Prop:=∃v a,Qc X gx b a s'/\aX v u/\Q v a
abbrev TP(X:Cx)(gx:ZE)(c:St)(Q:su->Hp->Prop)(b:su)(s':kG):Prop:=∃a,Qc X gx c a s'/\Q b a
abbrev AP(X:Cx)(gx:ZE)(b:St)(Q:hH V->Hp->Prop)(us:ZF)(s':kG):Prop:=∃vs a,Qc X gx b a s'/\aK vs us/\Q vs a
abbrev SP(X:Cx)(gx:ZE)(D:iD)(f:Flow)(s':kG):Prop:=
 match f with
 | .next=>∃a b,Qc X gx a b s'/\D.nx a b
 | .brk=>∃a b,Qc X gx a b s'/\D.bk a b
 | .cont=>∃a b,Qc X gx a b s'/\D.ct a b
 | .ret u=>∃v a b,Qc X gx a b s'/\aX v u/\D.rt v b
abbrev PE(X:Cx)(e:G2)(t:TE):Prop:=
 ∀gx s (a:St) H Q,Qc X gx a H s->t a H Q->(X⁻¹) (L9 e X.env) (EP X gx a Q) X.xe s
abbrev PT(X:Cx)(e:G2)(t:TT):Prop:=
 ∀gx s (a:St) H Q,Qc X gx a H s->t a H Q->(X⁻¹) (isTrue e X.env (L9 e X.env)) (TP X gx a Q) X.xe s
abbrev PW(X:Cx)(e:G2)(t:TT):Prop:=
 ∀a gx s (b:St) H Q,Qc X gx b H s->t b H Q->(X⁻¹) (isTrue e X.env a) (TP X gx b Q) X.xe s
def PW.pt{X:Cx}(h:PW X e t):PT X e t:=h _
abbrev PA(X:Cx)(b:hH G2)(t:TA):Prop:=
 ∀pos gx s (a:St) H Q,Qc X gx a H s->t a H Q->(X⁻¹) (spliced (MM pos (vi b X.env))) (AP X gx a Q) X.xe s
abbrev PS(X:Cx)(st:J5)(t:TS):Prop:=
 ∀gx s (a:St) H D,Qc X gx a H s->t D a H->(X⁻¹) (exec st X.env) (SP X gx D) X.xe s
abbrev PSs(X:Cx)(st:hH J5)(t:TS):Prop:=
 ∀gx s (a:St) H D,Qc X gx a H s->t D a H->(X⁻¹) (execs st X.env) (SP X gx D) X.xe s
def thn{b:Type}{t:Sem b}{Q c:b->kG->Prop}{M:Model}{A:wy}{E:ZD}{s:kG}(h:vk M A t Q E s)(d:∀a s,Q a s->c a s):vk M A t c E s:=LL h d λ_ _ x=>x
def thP{c d:Type}{t:Sem c}{X:Cx}{gx:ZE}{e:St}{R:d->c->Prop}{Q:d->Hp->Prop}{f:c->kG->Prop}{M:Model}{A:wy}{E:ZD}{s:kG}(h:vk M A t (λa s=>∃v b,Qc X gx e b s/\R v a/\Q v b) E s)(g:∀a s v b,Qc X gx e b s->R v a->Q v b->f a s):vk M A t f E s:=LL h (λa s ⟨v,b,i,r,q⟩=>g a s v b i r q) λ_ _ x=>x
def thT{c:Type}{t:Sem c}{X:Cx}{gx:ZE}{d:St}{Q:c->Hp->Prop}{e:c->kG->Prop}{M:Model}{A:wy}{E:ZD}{s:kG}(h:vk M A t (λa s=>∃b,Qc X gx d b s/\Q a b) E s)(f:∀a s b,Qc X gx d b s->Q a b->e a s):vk M A t e E s:=LL h (λa s ⟨b,i,q⟩=>f a s b i q) λ_ _ x=>x
section
variable{X:Cx}
abbrev asI(x:V)(f:ri->Prop):Prop:=match x with| .int i=>f i|_=>LG
abbrev asB(x:V)(f:su->Prop):Prop:=match x with| .bl i=>f i|_=>LG
abbrev asR(x:V)(f:jg->Prop):Prop:=match x with| .ref i=>f i|_=>LG
def Kl:asI (.int i) f=f i:=rfl
def Km:asB (.bl i) f=f i:=rfl
def Kn:asR (.ref i) f=f i:=rfl
def dv{x:V}{f:ri->Prop}(h:asI x f):∃i,x= .int i/\f i:=by
 cases x<;> first|show⟨_,rfl,h⟩|show h.elim
def oj{x:V}{f:su->Prop}(h:asB x f):∃i,x= .bl i/\f i:=by
 cases x<;> first|show⟨_,rfl,h⟩|show h.elim
def aN{x:V}{f:jg->Prop}(h:asR x f):∃i,x= .ref i/\f i:=by
 cases x<;> first|show⟨_,rfl,h⟩|show h.elim
abbrev asS(x:V)(f:ku->Prop):Prop:=match x with| .str i=>f i|_=>LG
def Ko:asS (.str i) f=f i:=rfl
def dS{x:V}{f:ku->Prop}(h:asS x f):∃i,x= .str i/\f i:=by
 cases x<;> first|show⟨_,rfl,h⟩|show h.elim
abbrev oneA(xs:hH V)(f:V->Prop):Prop:=match xs with|[x]=>f x|_=>LG
def HJ:oneA [x] f=f x:=rfl
def bM{xs:hH V}{f:V->Prop}(h:oneA xs f):∃x,xs=[x]/\f x:=by
 rcases xs with _|⟨x,_|⟨y,r⟩⟩<;> first|show⟨_,rfl,h⟩|show h.elim
abbrev mw(xs:hH V)(f:V->V->Prop):Prop:=match xs with|[x,y]=>f x y|_=>LG
def HK:mw [x,y] f=f x y:=rfl
def je{xs:hH V}{f:V->V->Prop}(h:mw xs f):∃x y,xs=[x,y]/\f x y:=by
 rcases xs with _|⟨x,_|⟨y,_|⟨z,r⟩⟩⟩<;> first|show⟨_,_,rfl,h⟩|show h.elim
abbrev HL(xs:hH V)(p:Prop):Prop:=match xs with|[]=>p|_=>LG
def HM:HL [] p=p:=rfl
def HN{xs:hH V}{p:Prop}(h:HL xs p):xs=[]/\p:=by
 cases xs<;> first|show⟨rfl,h⟩|show h.elim
abbrev mx:iv->TE
 | 0,hY v::_,H,Q=>Q v H
 | i+1,_::a,H,Q=>mx i a H Q
 | _,_,_,_=>LG
def HP:mx 0 (hY v::a) H Q=Q v H:=rfl
def HQ:mx (i+1) (o::a) H Q=mx i a H Q:=rfl
def xK:∀{i:iv} {a:St},mx i a H Q->∃v,a[i]?∣hY v/\Q v H
 | 0,hY v::_,h=>%[v,rfl|h]
 | 0,hV::_,h=>h.elim
 | 0,[],h=>h.elim
 | _+1,[],h=>h.elim
 | i+1,_::a,h=>xK (i:=i) h
abbrev tC(v:V):TE:=λ_ H Q=>Q v H
def B7(j:X.N[i]?∣x)(n:Vis X.env.scope x)(d:(x==("__debug__":ku))=hX)(f:(x==("__classdict__":ku))=hX):PE X (.Name x pos) (mx i):=by
 intro gx s o H Q I h;let%[v,e|h]:=xK h;let%[m,p|q]:=I.loc;let%[u,r|l]:=q i x v j e n;let fin:EP X gx o Q u s:=%[v,H,I,r|h]
 rcases l with⟨b,w⟩|⟨b,c,g,a⟩
 .show Vh (wpAny_loadName_local I.ok.kind b p w fin) d
 .rcases b with b|b
  .show Vh (wpAny_loadName_cell I.ok.kind b g a fin) d
  .show Vh (wpAny_loadName_free I.ok.kind b g a fin f) d
def HR{i j pos}:PE X (.Constant (.int i) j pos) (tC (.int i)):=λ_ _ _ H _ I h=>wpAny_Constant_int %[.int i,H,I.tok _,%[_|rfl]|h]
def Kq{b j pos}:PE X (.Constant (.bool b) j pos) (tC (.bl b)):=λ_ _ _ H _ I h=>Constant_bool %[.bl b,H,I,rfl|h]
def HS{j pos}:PE X (.Constant .none j pos) (tC .non):=λ_ _ _ H _ I h=>Constant_none %[.non,H,I,rfl|h]
def HU{x j pos}:PE X (.Constant (.str x) j pos) (tC (.str x)):=λ_ _ _ H _ I h=>Calls.Constant_str %[.str x,H,I.tok _,%[_|rfl]|h]
abbrev Gl(X:Cx)(x:ku):Prop:=X.env.kindOf x∣.globalImplicit
def iE(I:Qc X gx d H s)(a:Gl X x)(b:X.mg x∣u)(h:Q u s)
 (c:(x==("__debug__":ku))=hX):(X⁻¹) (L9 (.Name x pos) X.env) Q E s:=
 RV I.ok.kind a (Calls.loadGlobal_global (I.ok.glob▸I.mod.glob.keeps I.bk) b h) c
def jf(I:Qc X gx i H s)(a:Gl X x)(b:X.mg x=hV)(c:MS x∣u)(h:Q u s)
 (d:x≠"__name__":=by decide) (e:(x==("__debug__":ku))=hX:=by decide):(X⁻¹) (L9 (.Name x pos) X.env) Q E s:=by
 let%[j,f|g]:=I.mod.blt;show RV I.ok.kind a (Calls.loadGlobal_builtin (I.ok.glob▸I.mod.glob.keeps I.bk) b (I.ok.blt▸f.keeps I.bk) ((g x d).trans c) h) e
def Fp(a:Gl X x)(b:X.mg x∣u)(r:aX v u)(c:(x==("__debug__":ku))=hX):PE X (.Name x pos) (tC v):=
 λ_ _ _ H _ I h=>iE I a b %[v,H,I,r|h] c
def Fq(a:Gl X x)(b:X.mg x=hV)(c:MS x∣u)(r:aX v u)(d:x≠"__name__")(e:(x==("__debug__":ku))=hX):PE X (.Name x pos) (tC v):=
 λ_ _ _ H _ I h=>jf I a b c %[v,H,I,r|h] d e
variable{a b:G2}{ta tb:TE}{pos:Pos}
abbrev PC(X:Cx)(op:T1)(a b:G2)(t:TE):Prop:=
 ∀gx s (e:St) H Q,Qc X gx e H s->t e H Q->
  (X⁻¹) (L9 a X.env) (λv c=>(X⁻¹) (L9 b X.env) (λu d=>(X⁻¹) (pw op v u) (EP X gx e Q) X.xe d) X.xe c) X.xe s
def Kr(b:G2)(h:op≠ .In)(e:op≠ .NotIn):L7 op b=hX:=by
 let c:(op==T1.In)=hX:=by lia
 let d:(op==VY)=hX:=by lia
 cases b<;> simp[L7,c,d]
abbrev tB(t:TE):TT:=λd H Q=>t d H λx e=>asB x λc=>Q c e
def HV(h:PC X op a b t)(c:L7 op b=hX):PE X (.Compare a [op] [b] pos) t:=λgx s d H Q I hw=>wpAny_Compare1 (h gx s d H Q I hw) c
def B8{op:T1}(h:PC X op a b t)(e:L7 op b=hX):PT X (.Compare a [op] [b] pos) (tB t):=by
 intro gx s f H Q I hw;show Uk (thn (h gx s f H _ I hw) λv n e=>thn e λu o g=>thn g λc p ⟨x,i,j,l,m⟩=>?_) e;let%[d,rfl|q]:=oj m;cases l;show ME %[i,j|q]
variable{tA tB':TT}{rest:hH G2}
abbrev Fs(t u:TT):TT:=λd H Q=>t d H λc e=>if c=hW then u d e Q else Q hX e
abbrev tOr(t u:TT):TT:=λd H Q=>t d H λc e=>if c=hW then Q hW e else u d e Q
abbrev HW(t:TT):TT:=λd H Q=>t d H λc e=>Q (!c) e
def Ft(d:PT X a tA):PW X (.BoolOp .And [a] pos) tA:=by
 intro g gx s f H Q I h;show isTrue_and (thn (d gx s f H Q I h) λc i e=>?_);cases c with
 | true=>show isTrue_and_nil e
 | false=>show e
def HX(d:PT X a tA):PW X (.BoolOp .Or [a] pos) tA:=by
 intro g gx s f H Q I h;show isTrue_or (thn (d gx s f H Q I h) λc i e=>?_);cases c with
 | false=>show isTrue_or_nil e
 | true=>show e
def HY(i:PT X a tA)(j:PW X (.BoolOp .And (b::rest) pos) tB'):PW X (.BoolOp .And (a::b::rest) pos) (Fs tA tB'):=by
 intro l gx s d H Q I h;show isTrue_and (thT (i gx s d H _ I h) λc m e f g=>?_);cases c with
 | true=>show j l gx m d e Q f g
 | false=>show%[e,f|g]
def Ks(i:PT X a tA)(j:PW X (.BoolOp .Or (b::rest) pos) tB'):PW X (.BoolOp .Or (a::b::rest) pos) (tOr tA tB'):=by
 intro l gx s d H Q I h;show isTrue_or (thT (i gx s d H _ I h) λc m e f g=>?_);cases c with
 | true=>show%[e,f|g]
 | false=>show j l gx m d e Q f g
def HZ(c:PT X a tA):PT X (.UnaryOp .Not a pos) (HW tA):=by
 intro gx s d H Q I h;show isTrue_not (c gx s d H _ I h)
abbrev B9(ta tb:TE):TE:=λd H Q=>ta d H λx e=>asB x λc=>if c=hW then tb d e Q else Q (.bl hX) e
abbrev Ia(ta tb:TE):TE:=λd H Q=>ta d H λx e=>asB x λc=>if c=hW then Q (.bl hW) e else tb d e Q
def Ib{op}(h:PE X a t):PE X (.BoolOp op [a] pos) t:=λgx s c H Q I hw=>BoolOp_one (h gx s c H Q I hw)
def Ic(i:PE X a ta)(j:PE X (.BoolOp .And (b::rest) pos) tb):PE X (.BoolOp .And (a::b::rest) pos) (B9 ta tb):=by
 intro gx s e H Q I h;show BoolOp_and (thP (i gx s e H _ I h) λv l x f g m d=>?_);let%[c,rfl|d]:=oj d;cases m;show ME ?_;cases c with
 | true=>show j gx l e f Q g d
 | false=>show%[.bl hX,f,g,ρ|d]
def Kt(i:PE X a ta)(j:PE X (.BoolOp .Or (b::rest) pos) tb):PE X (.BoolOp .Or (a::b::rest) pos) (Ia ta tb):=by
 intro gx s e H Q I h;show BoolOp_or (thP (i gx s e H _ I h) λv l x f g m d=>?_);let%[c,rfl|d]:=oj d;cases m;show ME ?_;cases c with
 | false=>show j gx l e f Q g d
 | true=>show%[.bl hW,f,g,ρ|d]
end
abbrev Qb(K:ZA)(H:Hp)(a:jg)(xs:hH V):Prop:=
 Rd H a (.lst xs)\/
  ∃o its n,K.lookup a∣o/\o.cls= .type "list"/\o.dict=hV/\o.data= .seq its n/\its.size<=lp/\aK xs its.toList
abbrev SqT(K:ZA)(H:Hp)(a:jg)(xs:hH V):Prop:=
 Rd H a (.tup xs)\/
  ∃o its n,K.lookup a∣o/\o.cls= .type "tuple"/\o.data= .seq its n/\its.size<=lp/\aK xs its.toList
abbrev absV:iy->kw V
 | .none=>hY .non
 | .bool b=>hY (.bl b)
 | .int i _=>hY (.int i)
 | .str x _=>hY (.str x)
 | .bytes b _=>hY (.byt b)
 | .float b _=>hY (.flt b)
 | .ref a=>hY (.ref a)
 | .type n=>hY (.ty n)
 | _=>hV
def aX.abs(r:aX x u):absV u∣x:=by
 cases x with
 | non=>cases r;rfl
 | bl _=>cases r;rfl
 | int _=>have%[t|rfl]:=r;rfl
 | str _=>have%[t|rfl]:=r;rfl
 | byt _=>have%[t|rfl]:=r;rfl
 | flt _=>have%[t|rfl]:=r;rfl
 | ref _=>cases r;rfl
 | ty _=>cases r;rfl
def aX.inj(r:aX x u)(q:aX y u):x=y:=Za (r.abs.symm.trans q.abs)
def aK.inj:∀{xs ys:hH V} {us:ZF},aK xs us->aK ys us->xs=ys
 | _,_,_,.nil,.nil=>rfl
 | _,_,_,.cons r t,.cons a t'=>by rw[r.inj a,aK.inj t t']
section
#version
variable{a:jg}{xs ys:hH V}
def Qb.of{K:ZA}(h:H a<*xs):Qb K H a xs:= .inl (.inl h)
def SqT.of{K:ZA}(h:H a&&&xs):SqT K H a xs:= .inl (.inl h)
def Qc.list(I:Qc X gx σ H s)(h:Qb X.K H a xs):∃its:ZF,aK xs its/\PlainL s.heap a its.toArray/\ ~~~xs<=lp:=by
 rcases h with h|⟨o,its,n,b,c,d,f,g,r⟩
 .let%[z,its,n,r|e]:=h.ok I.hok;show%[its,r,%[_,n,e,ρ,ρ|ρ]|z]
 .show%[its.toList,r,%[o,n,I.kIn a o b,c,d|f]|?_];let e:= ~~~r
  simp_all
def Qc.tuple(I:Qc X gx σ H s)(h:SqT X.K H a xs):∃its:ZF,aK xs its/\IsTup s.heap a its.toArray/\ ~~~xs<=lp:=by
 rcases h with h|⟨o,its,n,b,c,d,f,r⟩
 .let%[z,its,r|p]:=h.ok I.hok;show%[its,r,p|z]
 .show%[its.toList,r,%[o,I.kIn a o b,c,n|d]|?_];let e:= ~~~r;simp only[Zb]at e
  lia
def Qc.list_inj(I:Qc X gx σ H s)(h:Qb X.K H a xs)(h':Qb X.K H a ys):xs=ys:=by
 let%[its,r,%[o,n,e,_,_|d]|_]:=I.list h;let%[its',f,%[i,j,b,_,_|c]|_]:=I.list h';rw[e]at b;cases b;rw[d]at c;injection c with g _
 let:=vj VB g;subst this;show r.inj f
def Qc.tuple_inj(I:Qc X gx σ H s)(h:SqT X.K H a xs)(h':SqT X.K H a ys):xs=ys:=by
 let%[its,r,%[o,e,_,n|d]|_]:=I.tuple h;let%[its',f,%[i,b,_,j|c]|_]:=I.tuple h';rw[e]at b;cases b;rw[d]at c;injection c with g _
 let:=vj VB g;subst this;show r.inj f
end
noncomputable abbrev Cx.wish(X:Cx)(E:ZD):Cx:={X with xe:=E}
noncomputable abbrev Cx.nox(X:Cx):Cx:=X.wish λ_ _=>LG
def Cx.Ok.wish{X:Cx}(ok:X.Ok)(E:ZD):(X.wish E).Ok:=
 %[ok.mod,ok.kind,ok.glob,ok.blt,ok.above,ok.inj,ok.has,ok.cab,ok.hd,ok.frames,ok.stk,ok.exf,ok.bs,ok.bsz,ok.noex,ok.exfs,ok.funs|ok.frf]
def Cx.Ok.unwish{X:Cx}{E:ZD}(ok:(X.wish E).Ok):X.Ok:=
 %[ok.mod,ok.kind,ok.glob,ok.blt,ok.above,ok.inj,ok.has,ok.cab,ok.hd,ok.frames,ok.stk,ok.exf,ok.bs,ok.bsz,ok.noex,ok.exfs,ok.funs|ok.frf]
section
#version
variable{E:ZD}
def Qc.wish(I:Qc X gx σ H s)(E:ZD):Qc (X.wish E) gx σ H s:=%[I.ok.wish E,I.os,I.bare,I.base,I.loc,I.cell,I.free,I.freeC,I.pin,I.hok|I.len]
def Qc.unwish(I:Qc (X.wish E) gx σ H s):Qc X gx σ H s:=%[I.ok.unwish,I.os,I.bare,I.base,I.loc,I.cell,I.free,I.freeC,I.pin,I.hok|I.len]
def SP.unwish{D:iD}{f:Flow}{s':kG}(h:SP (X.wish E) gx D f s'):SP X gx D f s':=by
 cases f with
 | next=>have%[a,b,I|q]:=h;show%[a,b,I.unwish|q]
 | brk=>have%[a,b,I|q]:=h;show%[a,b,I.unwish|q]
 | cont=>have%[a,b,I|q]:=h;show%[a,b,I.unwish|q]
 | ret u=>have%[v,a,b,I,r|q]:=h;show%[v,a,b,I.unwish,r|q]
def PSs.nox{st:hH J5}(h:PSs X.nox st t):PSs X st t:=λgx s σ H D I hw=>
 LL (h gx s σ H D (I.wish _) hw) (λ_ _ q=>q.unwish) λ_ _ z=>LR z
end
section
variable{X:Cx}{st:J5}{rest:hH J5}{t u:TS}{e:G2}{te:TE}{pos:Pos}
abbrev Ca:TS:=λD a H=>D.nx a H
abbrev aS(t u:TS):TS:=λD a H=>t {D with nx:=u D} a H
def Fu:PSs X [] Ca:=λ_ _ a H _ I h=>NS %[a,H,I|h]
def Cb(b:PS X st t)(c:PSs X rest u):PSs X (st::rest) (aS t u):=by
 intro gx s d H D I h;show V4 (thn (b gx s d H _ I h) λf g q=>?_);cases f with
 | next=>
   let%[a,i,j|q]:=q;show c gx g a i D j q
 | ret v=>show q
 | brk=>show q
 | cont=>show q
def Fv(a:PS X st t):PSs X [st] t:=by
 intro gx s b H D I h;show V4 (thn (a gx s b H D I h) λf c q=>?_);cases f with
 | next=>show NS q
 | ret v=>show q
 | brk=>show q
 | cont=>show q
def Qc.quiet{gx:hH _}{a:St}{H:Hp}{s:kG}(I:Qc X gx a H s):interactive X.env=hX:=by simp[interactive,I.ok.kind]
abbrev mV(te:TE):TS:=λD a H=>te a H λ_ b=>D.nx a b
def Fw(b:PE X e te)(c:N7 e hV pos.line X.env=pure hX):PS X (.Expr e pos) (mV te):=by
 intro gx s a H D I h;show wpAny_Expr_any (thP (b gx s a H _ I h) λv i x d f j g=>%[a,d,f|g]) I.quiet c
abbrev jh(te:TE):TS:=λD a H=>te a H D.rt
def Ie(b:PE X e te):PS X (.Return (hY e) pos) (jh te):=by
 intro gx s a H D I h;show wpAny_Return_some (thP (b gx s a H _ I h) λv i x c d f g=>%[x,a,c,d,f|g])
abbrev kN(c:TT)(t u:TS):TS:=λD a H=>c a H λb d=>if b=hW then t D a d else u D a d
def Ku{c:G2}{a b:hH J5}(m:PT X c n)(o:PSs X a t)(p:PSs X b u):PS X (.If c a b pos) (kN n t u):=by
 intro gx s f H D I h;show wpAny_If (thT (m gx s f H _ I h) λd g i j l=>?_);cases d with
 | true=>show o gx g f i D j l
 | false=>show p gx g f i D j l
abbrev t5:TS:=λ_ _ _=>LG
def Cc:PS X st t5:=λ_ _ _ _ _ _ h=>h.elim
def AI:PSs X a t5:=λ_ _ _ _ _ _ h=>h.elim
end
noncomputable abbrev TG:=V->St->Hp->(St->Hp->Prop)->Prop
noncomputable abbrev TGs:=hH V->St->Hp->(St->Hp->Prop)->Prop
abbrev PG(X:Cx)(a:G2)(t:TG):Prop:=
 ∀gx s (c:St) H v u Q,Qc X gx c H s->aX v u->t v c H Q->
  (X⁻¹) (assign a X.env u) (λ_ s'=>∃b d,Qc X gx b d s'/\Q b d) X.xe s
abbrev PGs(X:Cx)(ts:hH G2)(t:TGs):Prop:=
 ∀gx s (b:St) H vs us Q,Qc X gx b H s->aK vs us->t vs b H Q->
  (X⁻¹) (assignInOrder ((Nn ts X.env)\2) us) (λ_ s'=>∃a c,Qc X gx a c s'/\Q a c) X.xe s
section
variable{X:Cx}{pos:Pos}
abbrev kO(i:iv):TG:=λv a H Q=>Q (a.set i (hY v)) H
def Fx(a:X.N.Nodup)(hi:X.N[i]?∣x)(b:Loc X.env.scope x)(c:X.fn x=hW\/X.env.scope.names.lookup x∣.local):PG X (.Name x pos) (kO i):=by
 intro gx s e H v u Q I r h;show VH (kM I a hi b r (λs' d=>%[_,H,d|h]) c)
abbrev Ig:TGs:=λvs a H Q=>vs=[]/\Q a H
abbrev Cd(t:TG)(u:TGs):TGs:=λvs b H Q=>∃v r,vs=v::r/\t v b H λa c=>u r a c Q
def Fy:PGs X [] Ig:=by
 intro gx s a H vs us Q I r h;let%[e|h]:=h;show assignInOrder_nil %[a,H,I|h]
def Ce{e:G2}{u:TGs}(c:PG X e t)(d:PGs X a u)
 (f:(Nn (e::a) X.env)\2=assign e X.env::(Nn a X.env)\2):PGs X (e::a) (Cd t u):=by
 intro gx s g H vs us Q I r h;let%[v,o,i|h]:=h;subst i;cases r with
 | cons r rr=>
   rw[f];show assignInOrder_cons (thn (c gx s g H _ _ _ I r h) λ_ j ⟨b,l,m,n⟩=>d gx j b l _ _ Q m rr n)
abbrev Fz(K:ZA)(n:iv)(t:TGs):TG:=λv b H Q=>asR v λa=>∃xs,SqT K H a xs/\ ~~~xs=n/\t xs b H Q
def Ih(g:X.calm=hW)(h:PGs X c t)
 (i: ~~~(Nn c X.env)=n) (d:(Nn c X.env).findIdx? (·.1)=hV):PG X (.Tuple c k pos) (Fz X.K n t):=by
 intro gx s j H v u Q I r hw;let%[a,l,xs,m,p|hw]:=aN hw;clear ‹Fz _ _ _ _ _ _ _›;subst l;cases r;let%[its,f,q|y]:=I.tuple m;show assign_Tuple_tuple (I.ok.hd g) q (by simp[i,<-p,~~~f]) d λh' w=>h gx _ j H xs _ Q (I.kept λb o e=>w b o (Zt (Zv e)) e) (f) hw
abbrev qN(b:TE)(g:TG):TS:=λD a H=>b a H λx c=>g x a c D.nx
def Ii{a e:G2}{g:TG}(c:PE X e d)(f:PG X a g)(i:swapsWithSole [a] e pos.line X.env=pure hX)(hw:swappedStores [a] e X.env=pure hV)
 (j:(Nn [a] X.env)\2=[assign a X.env]):PS X (.Assign [a] e pos) (qN d g):=by
 intro gx s b H D I h;show wpAny_Assign_stores (thP (c gx s b H _ I h) λv l x m n o p=>?_) i hw;rw[j];show thn (f gx l b m x v _ n o p) λ_ r q=>q
def Ij{i:iv}{x:ku}{e:G2}(b:X.N.Nodup)(hi:X.N[i]?∣x)(c:Loc X.env.scope x)(d:PE X e f)(g:N7 e (hY (.Name x a)) pos.line X.env=pure hX)(j:X.fn x=hW\/X.env.scope.names.lookup x∣.local):
 PS X (.Assign [.Name x a] e pos) (qN f (kO i)):=by
 intro gx s l H D I h;show wpAny_Assign_Name (thP (d gx s l H _ I h) λv r y m n o p=>kM n b hi c o (λu q=>%[_,m,q|p]) j) g
abbrev Cf(c:TT)(h:TS):TS:=λD a H=>∃W:iv->St->Hp->Prop,(∃m,W m a H)/\∀m a H,W m a H->
 c a H λb e=>if b=hW then∃N:St->Hp->Prop,(∀d f,N d f->∃g,g<m/\W g d f)/\h {D with nx:=N,ct:=N,bk:=D.nx} a e else D.nx a e
def Cg(w:O0 (Mq X.prog X.w) X.A X.env X.xe)(E:PT X c G)(J:PSs X e L):PS X (.While c e [] pos) (Cf G L):=by
 intro gx s M H D I h;let%[W,%[O|Q]|g]:=h;show wpAny_While (codeAny_whileLoop (λn s'=>∃i y,Qc X gx i y s'/\W n i y) ?_ O %[M,H,I|Q]);intro n T %[d,z,U|Y];show Nr w (thT (E gx T d z _ U (g n d z Y)) λb s2 A B l=>?_);cases b with
 | true=>
   let%[N,C|l]:=l;show Nr w (thn (J gx s2 d A _ B l) λf s3 m=>?_);cases f with
   | next=>
     let%[a,j,o|p]:=m;let%[q,r|u]:=C a j p;show%[q,r,a,j,o|u]
   | cont=>
     let%[a,j,o|p]:=m;let%[q,r|u]:=C a j p;show%[q,r,a,j,o|u]
   | brk=>show m
   | ret v=>show m
 | false=>
   show NS %[d,A,B|l]
end
structure It where
 go:iv->Hp->Prop
 yld:iv->Hp->V->Hp->Prop
 stop:iv->Hp->Prop
abbrev my(X:Cx)(gx:ZE)(H:Hp)(b:jg):Prop:=
 H b=hV/\b≠X.env.locals/\b∉X.fs/\(b∈X.ex\/X.s₀.heap.objs.size<=b)/\(∀x c,X.env.cells.lookup x∣c->c≠b)/\∀p∈X.pn++gx,p.1≠b
def Qc.fpOk{X:Cx}(I:Qc X gx h H s)(a:⇑s<=b)(d:f b=hV):my X gx f b:=by
 show%[d,X7 (Zg I.lt a),I.nofs a,.inr (Ym I.sz a),λx c e z=>?_|λp g z=>?_]
 .let%[v|q]:=I.cell x c e;show on (Zg q.lt (z▸a)) (Xq _)
 .show on (Zg (Zv (I.pin p g).1) (z▸a)) (Xq _)
structure qO (P:n7) (w:xl) (K:ZA) (tg:G2) (J:It) (fp:hH jg) (it:jg) (tn:iv->z4->Prop):Prop where
 mem:it∈fp
 obj:∀i h,tn i h->∀b∈fp,∃o,h.get? b∣o/\∀v,o.data≠ .cell v
 keep:∀i h h',tn i h->(∀b∈fp,∀o,h.get? b∣o->h'.get? b∣o)->tn i h'
 item:∀(X:Cx),X.prog=P->X.w=w->X.K=K->X.calm=hW->∀i (gx:ZE) s (σ:St) H (E:ZD),Qc X gx σ H s->(∀b∈fp,my X gx H b)->tn i s.heap->J.go i H->
  vk (Mq P w) X.A (Pa (.ref it)) (λr s1=>∃u,r∣u/\
   vk (Mq P w) X.A (Wt tg (.ref it) u) (λ_ s2=>∃x H',Qc X gx σ H' s2/\aX x u/\J.yld i H x H'/\tn (i+1) s2.heap/\∀b∈fp,H' b=hV) E s1) E s
 done:∀X,X.prog=P->X.w=w->X.K=K->X.calm=hW->∀i gx s (σ:St) H E,Qc X gx σ H s->(∀b∈fp,my X gx H b)->tn i s.heap->J.stop i H->
  vk (Mq P w) X.A (Pa (.ref it)) (λr s1=>r=hV/\Qc X gx σ H s1) E s
 self:∀A i s Q E,tn i s.heap->Q (.ref it) s->vk (Mq P w) A (T7 (.ref it)) Q E s
noncomputable abbrev TI:=St->Hp->(It->Hp->Prop)->Prop
abbrev PIE(X:Cx)(gx:ZE)(g:St)(h:G2)(R:It->Hp->Prop)(a:iy)(d:kG):Prop:=
 ∃it e f J c,a= .ref it/\Qc X gx g c d/\qO X.prog X.w X.K h J e it f/\f 0 d.heap/\(∀b∈e,my X gx c b)/\R J c
abbrev PI(X:Cx)(b iter:G2)(c:TI):Prop:=
 ∀gx s (a:St) H R,Qc X gx a H s->c a H R->
  (X⁻¹) (L9 iter X.env) (λv d=>(X⁻¹) (T7 v) (PIE X gx a b R) X.xe d) X.xe s
def rJ(b:s.heap.get? it∣o)(c:o.cls= .type n)(d:o.data= .fields vs)
 (e:["enumerate","zip","dict_itemiterator","dict_reverseitemiterator","odict_iterator","itertools.zip_longest","itertools.pairwise"].contains n=hX) (a:Q () s):vk M A (Wt f (.ref it) u) Q E s:=by
 cases f<;> first
  | show Z3 a
  |(cases u<;> first
   | show Z3 a
   |(show Z2 (SV b ?_)
     rw[c,d];change vk M A (if(["enumerate","zip","dict_itemiterator","dict_reverseitemiterator","odict_iterator","itertools.zip_longest","itertools.pairwise"].contains n&&vs[0]? ==hY _)=hW then _ else _) Q E s;rw[ij (by intro h;rw[e,NX]at h;cases h)];show Z3 a))
abbrev Itl(K:ZA)(a:jg):It:=
 ⟨λi H=>∃xs x,Qb K H a xs/\xs[i]?∣x,λi H x b=>b=H/\∀xs,Qb K H a xs->xs[i]?∣x,λi H=>∃xs,Qb K H a xs/\ ~~~xs<=i⟩
abbrev Itt(K:ZA)(a:jg):It:=
 ⟨λi H=>∃xs x,SqT K H a xs/\xs[i]?∣x,λi H x b=>b=H/\∀xs,SqT K H a xs->xs[i]?∣x,λi H=>∃xs,SqT K H a xs/\ ~~~xs<=i⟩
abbrev Itr(lo:ri)(n:iv):It:=%[λi _=>i<n,λi H x a=>a=H/\x= .int (lo+i)|λi _=>n<=i]
def rK{P:n7}{K:ZA}(a it:jg):qO P w K tg (Itl K a) [it] it (λi h=>h.IsListIter it a i) where
 mem:=by simp
 obj:=λi h st b hb=>by
  let e:=↑hb
  subst e;let%[o,e,c|d]:=st;show%[o,e|λv z=>by rw[d]at z;cases z]
 keep:=λi h h' st k=>st.at λo e=>k it ∅ o e
 item:=by
  intro X hP hw hK hc i gx s σ H E I hf st hg;subst hP hw hK;let%[xs,x,hq|hx]:=hg;let%[its,rv,p|hz]:=I.list hq;let%[u,hu|ru]:=rv.get hx;let%[f0,f1,f2,f3,f4|f5]:=hf it ∅;show wpAny_pyNext_list_item st p.isList ↑hu λh' st' sb=>?_
  let%[o,e,c|d]:=id st';show%[u,ρ|rJ e c d (!1) %[x,H,(I.turned (λb o hb e=>(sb.2 b hb).trans e) f0 f1 f3 f4 f5),ru,%[ρ|λys hy=>(I.list_inj hy hq)▸hx],st'|λb hb=>(hf b hb).1]]
 done:=by
  intro X hP hw hK hc i gx s σ H E I hf st hg;subst hP hw hK;let%[xs,hq|hx]:=hg;let%[its,rv,p|hz]:=I.list hq;let%[f0,f1,f2,f3,f4|f5]:=hf it ∅;let hl:= ~~~rv;show wpAny_pyNext_list_end (I.ok.hd hc) st p.isList (by simp;lia) λh' eb=>%[rfl|I.turned (λb o hb e=>eb b o hb e) f0 f1 f3 f4 f5]
 self:=λ_ _ _ _ _ st h=>wpAny_pyIter_listiter st h
def xM{P:n7}{K:ZA}(a it:jg):qO P w K tg (Itt K a) [it] it (λi h=>h.IsTupleIter it a i) where
 mem:=by simp
 obj:=λi h st b hb=>by
  let e:=↑hb
  subst e;let%[o,e,c|d]:=st;show%[o,e|λv z=>by rw[d]at z;cases z]
 keep:=λi h h' st k=>st.at λo e=>k it ∅ o e
 item:=by
  intro X hP hw hK hc i gx s σ H E I hf st hg;subst hP hw hK;let%[xs,x,hq|hx]:=hg;let%[its,rv,p|hz]:=I.tuple hq;let%[u,hu|ru]:=rv.get hx;let%[f0,f1,f2,f3,f4|f5]:=hf it ∅;show wpAny_pyNext_tuple_item st (p) ↑hu λh' st' sb=>?_
  let%[o,e,c|d]:=id st';show%[u,ρ|rJ e c d (!1) %[x,H,(I.turned (λb o hb e=>(sb.2 b hb).trans e) f0 f1 f3 f4 f5),ru,%[ρ|λys hy=>(I.tuple_inj hy hq)▸hx],st'|λb hb=>(hf b hb).1]]
 done:=by
  intro X hP hw hK hc i gx s σ H E I hf st hg;subst hP hw hK;let%[xs,hq|hx]:=hg;let%[its,rv,p|hz]:=I.tuple hq;let%[f0,f1,f2,f3,f4|f5]:=hf it ∅;let hl:= ~~~rv;show wpAny_pyNext_tuple_end (I.ok.hd hc) st (p) (by simp;lia) λh' eb=>%[rfl|I.turned (λb o hb e=>eb b o hb e) f0 f1 f3 f4 f5]
 self:=λ_ _ _ _ _ st h=>wpAny_pyIter_tupleiter st h
def xN{P:n7}{K:ZA}(it:jg)(lo:ri)(n:iv):qO P w K tg (Itr lo n) [it] it (λi h=>IsRangeIter h it (lo+(i:iv)*1) ((n:ri) -(i:iv)) 1) where
 mem:=by simp
 obj:=λi h st b hb=>by
  simp_all
 keep:=λi h h' st k=>k it ∅ _ st
 item:=by
  intro X hP hw hK hc i gx s σ H E I hf st hg;subst hP hw hK;let%[f0,f1,f2,f3,f4|f5]:=hf it ∅;show(Walks.range (prog:=X.prog) (w:=X.w) (I.ok.hd hc) it lo 1 n).item i s _ _ hg st λv h' tk hv st' kk=>?_
  let%[t|rfl]:=hv;show%[_,ρ|rJ st' rfl rfl (!1) %[.int _,H,(I.turned (λb o hb e=>kk b o ↑hb e) f0 f1 f3 f4 f5),%[t|?_],%[ρ|ρ],st'|λb hb=>(hf b hb).1]];rw[ri.mul_one]
 done:=by
  intro X hP hw hK hc i gx s σ H E I hf st hg;let%[f0,f1,f2,f3,f4|f5]:=hf it ∅;show wpAny_pyNext_range_end (I.ok.hd hc) st (by let:n<=i:=hg;lia) λh' eb=>%[rfl|I.turned (λb o hb e=>eb b o hb e) f0 f1 f3 f4 f5]
 self:=λ_ _ _ _ _ st h=>wpAny_pyIter_rangeiter st h
section
variable{X:Cx}{tg:G2}
def vJ{R:It->Hp->Prop}{lo hi:ri}(I:Qc X gx c H s)(d: -(2^62)<=lo)(f:lo<2^62)(g: -(2^62)<=hi)(h:hi<2^62)
 (q:R (Itr lo (hi-lo).toNat) H):(X⁻¹) (T7 (.ref ⇑s)) (PIE X gx c tg R) E {s with heap:=s.heap.push {cls:= .type "range",data:= .fields #[.int lo t,.int hi u,.int 1 v]},toks:=tk}:=by
 show wpAny_pyIter_range (IsRange.new ..) (small_one d f g h) ?_;let a:Qc X gx c H {s with heap:=s.heap.push {cls:= .type "range",data:= .fields #[.int lo t,.int hi u,.int 1 v]},toks:=tk}:=I.kept λb o e=>Z7 _ e
 show%[(s.heap.push _).objs.size,[(s.heap.push _).objs.size],_,_,H,ρ,
  a.kept λb o e=>Z7 _ e,xN _ lo _,?_,λb i=>?_|q]
 .let j:lo+((0:iv))*1=lo:=by simp
  let l:(((hi-lo).toNat)) -((0:iv))=Wo lo hi 1:=by rw[rangeSize_one];split<;> lia
  rw[j,l];show Zj _ rfl
 .let e:b=(s.heap.push {cls:= .type "range",data:= .fields #[.int lo t,.int hi u,.int 1 v]}).objs.size:=↑i
  subst e;show a.fpOk (Zi _) (a.hok.fresh (Zi _))
abbrev Ch(a:TA):TI:=λb H R=>a b H λvs c=>oneA vs λd=>asI d λj=> -(2^62)<=j/\j<2^62/\R (Itr 0 j.toNat) c
abbrev Ci(a:TA):TI:=λb H R=>a b H λvs c=>mw vs λd x2=>asI d λi=>asI x2 λj=>(-(2^62)<=i/\i<2^62/\ -(2^62)<=j/\j<2^62)/\R (Itr i (j-i).toNat) c
def AJ{a:G2}(e:Gl X "range")(f:X.mg "range"=hV)(g:PA X [a] i)(l:vi [a] X.env=[(hX,L9 a X.env)]):PI X tg (.Call (.Name "range" p) [a] [] pos) (Ch i):=by
 intro gx s m H R I h;show Call_ (jf I e f boot_range (LY (thP (g pos gx s m H _ I h) λus v vs w n o b=>?_) l rfl));let%[y,rfl|c]:=bM b;let%[j,rfl|d]:=dv c;let%[b,u|q]:=d;cases o with
 | cons r rr=>
   cases rr;let%[t|rfl]:=r;show call_range_1 (vJ n ⋯ ⋯ b u ↑q)
def AK(l:Gl X "range")(m:X.mg "range"=hV)(n:PA X [a,b] o)(u:vi [a,b] X.env=[(hX,L9 a X.env),(hX,L9 b X.env)])(c:vi [b] X.env=[(hX,L9 b X.env)]):
 PI X tg (.Call (.Name "range" p) [a,b] [] pos) (Ci o):=by
 intro gx s v H R I h;show Call_ (jf I l m boot_range (LY (thP (n pos gx s v H _ I h) λus E vs G w y d=>?_) (by rw[u,c]) (by rw[c];rfl)));let%[J,x2,rfl|e]:=je d;let%[i,rfl|f]:=dv e;let%[j,rfl|g]:=dv f;let%[%[d,z,A|B]|q]:=g;cases y with
 | cons r rr=>
   cases rr with
   | cons C rr=>
     cases rr;let%[t|rfl]:=r;let%[t'|rfl]:=C;show call_range_2 (vJ w d z A B q)
abbrev vK(f:TI)(g:TG)(h:TS):TS:=λD a H=>f a H λJ j=>∃W:iv->iv->St->Hp->Prop,(∃m,W 0 m a j)/\∀i m a H,W i m a H->
 (J.stop i H/\D.nx a H)\/(J.go i H/\∃N:St->Hp->Prop,(∀b c,N b c->∃e,e<m/\W (i+1) e b c)/\∀x c,J.yld i H x c->g x a c λd l=>h {D with nx:=N,ct:=N,bk:=D.nx} d l)
abbrev t8(a:hH jg)(h:z4):ZE:=a.filterMap λb=>(h.get? b).map λo=>(b,o)
def fJ(a:b∈c)(e:h.get? b∣o):(b,o)∈t8 c h:=Mg.mpr %[b,a|by rw[e];rfl]
def AL(a:p∈t8 c h):p.1∈c/\h.get? p.1∣p.2:=by
 let%[b,d|e]:=Mg.mp a;cases q:h.get? b with
 | none=>simp_all
 | some o=>
   rw[q]at e;let f:=Za e;subst f;show%[d|q]
def Qc.pinned(I:Qc X gx g H s)(h:∀b∈a,my X gx H b)(i:∀b∈a,∃o,s.heap.get? b∣o/\∀v,o.data≠ .cell v):Qc X (gx++t8 a s.heap) g H s:=
 I.pins_of λp j=>(Xu j).elim (λz=>I.pin p (X1 _ z)) λz=>by
  let%[c|e]:=AL z;let%[l,m,n|_]:=h p.1 c;let%[o,f|d]:=i p.1 c;rw[e]at f;cases f;show%[e,l,m,n|d]
def Qc.unpinned(I:Qc X (gx++pl) a H s):Qc X gx a H s:=I.pins_of λp b=>I.pin p (X1 _ (Yz _ b))
def Ik(B:O0 (Mq X.prog X.w) X.A X.env X.xe)(hc:X.calm=hW)(hi:PI X tg iter wi)(hg:PG X tg g)(c:PSs X C tb)
 (hs:∀x,Oi iter X.env x=pure x):PS X (.For tg iter C [] pos) (vK wi g tb):=by
 intro gx s σ H D I h;show wpAny_For (thn (hi gx s σ H _ I h) λv s1 h1=>thn h1 λae s2 h2=>?_) hs;let%[it,O,tn,J,H2,e,I2,T,U,f2,W,%[m0|w0]|E]:=h2;subst e;let j:∀{y:Hp},(∀b∈O,y b=hV)->∀b∈O,my X gx y b:=λhn b c=>%[hn b c|(f2 b c).2]
 show codeAny_forLoop_any (λn s'=>∃i l y,Qc X gx l y s'/\tn i s'.heap/\(∀b∈O,y b=hV)/\W i n l y) ?_ m0 %[0,σ,H2,I2,U,λb c=>(f2 b c).1|w0];intro n s3 %[i,p,Q,I3,G,L|w3];rcases E i n p Q w3 with⟨stop,qn⟩|⟨go,N,hN,step⟩
 .show Nr B (thn (T.done X rfl rfl rfl hc i gx s3 p Q X.xe I3 (j L) G stop) λr s4 ⟨Y,I4⟩=>?_);subst Y;show NS %[p,Q,I4|qn]
 .show Nr B (thn (T.item X rfl rfl rfl hc i gx s3 p Q X.xe I3 (j L) G go) λr s4 ⟨u,Y,h4⟩=>?_);subst Y;show Nr B (thn h4 λ_ s5 ⟨x,H5,I5,r5,y5,A,ab⟩=>Nr B (thn (hg _ s5 p H5 x u _ (I5.pinned (j ab) (T.obj _ _ A)) r5 (step x H5 y5)) λ_ s6 ⟨ac,H6,I6,q6⟩=>Nr B (thn (c _ s6 ac H6 _ I6 q6) λf s7 z=>?_)));let again:∀{a:St} {q:Hp},Qc X _ a q s7->N a q->∃m,m<n/\∃i l y,Qc X gx l y s7/\tn i s7.heap/\(∀b∈O,y b=hV)/\W i m l y:=λ{a q} w M=>by
   let%[m',hm|w7]:=hN a q M;show%[m',hm,i+1,a,q,w.unpinned,T.keep _ _ _ A λb c o e=>(w.pin _ (X1 _ (X1 _ (fJ c e)))).1,λb c=>?_|w7];let%[o,e|d]:=T.obj _ _ A b c;show(w.pin _ (X1 _ (X1 _ (fJ c e)))).2.1
  cases f with
  | next=>have%[a,q,w|M]:=z;show again w M
  | cont=>have%[a,q,w|M]:=z;show again w M
  | brk=>have%[a,q,w|z]:=z;show%[a,q,w.unpinned|z]
  | ret v=>have%[x7,a,q,w,r7|z]:=z;show%[x7,a,q,w.unpinned,r7|z]
end
def eL{K:ZA}{g:TG}{l:TS}{D:iD}(Pv:iv->St->Hp->Prop)(o:Pv 0 b H)(r:∀i b H,i<= ~~~xs->Pv i b H->Qb K H a xs)
 (s:∀i x b H,xs[i]?∣x->Pv i b H->g x b H λc h=>l {D with nx:=Pv (i+1),ct:=Pv (i+1),bk:=D.nx} c h) (u:∀b H,Pv xs.length b H->D.nx b H):
 ∃W:iv->iv->St->Hp->Prop,(∃m,W 0 m b H)/\∀i m b H,W i m b H->
  ((Itl K a).stop i H/\D.nx b H)\/((Itl K a).go i H/\∃N:St->Hp->Prop,(∀d f,N d f->∃n,n<m/\W (i+1) n d f)/\∀x f,(Itl K a).yld i H x f->g x b f λc h=>l {D with nx:=N,ct:=N,bk:=D.nx} c h):=by
 show%[λi m b H=>m= ~~~xs-i/\i<= ~~~xs/\Pv i b H,%[~~~xs,by simp,Xl _|o]|?_];intro i m b H %[rfl,hi|p];let q:=r i b H hi p;by_cases j:i< ~~~xs
 .show .inr %[%[xs,xs[i],q|by simp],Pv _,λd f v=>%[~~~xs-(i+1),⋯,rfl,j|v]|λx f y=>?_];let%[e|y]:=y;subst e;show s i x b _ (y xs q) p
 .let e:i= ~~~xs:=by lia
  subst e;show .inl %[%[xs,q|Zi _]|u b H p]
def cI{lo:ri}{g:TG}{j:TS}{D:iD}(Pv:iv->St->Hp->Prop)(o:Pv 0 a H)
 (q:∀i a H,i<n->Pv i a H->g (.int (lo+i)) a H λb h=>j {D with nx:=Pv (i+1),ct:=Pv (i+1),bk:=D.nx} b h) (r:∀a H,Pv n a H->D.nx a H):
 ∃W:iv->iv->St->Hp->Prop,(∃m,W 0 m a H)/\∀i m a H,W i m a H->
  ((Itr lo n).stop i H/\D.nx a H)\/((Itr lo n).go i H/\∃N:St->Hp->Prop,(∀c d,N c d->∃l,l<m/\W (i+1) l c d)/\∀x d,(Itr lo n).yld i H x d->g x a d λb h=>j {D with nx:=N,ct:=N,bk:=D.nx} b h):=by
 show%[λi m a H=>m=n-i/\i<=n/\Pv i a H,%[n,by simp,Xl _|o]|?_];intro i m a H %[rfl,hi|p];by_cases f:i<n
 .show .inr %[f,Pv _,λc d s=>%[n-(i+1),⋯,rfl,f|s]|λx d y=>?_];let%[e|y]:=y;subst e y;show q i a _ f p
 .let e:i=n:=by lia
  subst e;show .inl %[Zi _|r a H p]
noncomputable abbrev R2:=V->V->Hp->VK->Prop
abbrev OpR(X:Cx)(f:iy->iy->Sem iy)(r:R2):Prop:=
 ∀gx s (a:St) H x y v u Q,Qc X gx a H s->aX x v->aX y u->r x y H Q->
  (X⁻¹) (f v u) (EP X gx a Q) X.xe s
abbrev UnR(X:Cx)(f:iy->Sem iy)(r:V->Hp->VK->Prop):Prop:=
 ∀gx s (a:St) H x v Q,Qc X gx a H s->aX x v->r x H Q->
  (X⁻¹) (f v) (EP X gx a Q) X.xe s
abbrev cE(X:Cx)(f:iy)(r:hH V->Hp->VK->Prop):Prop:=
 ∀gx s (a:St) H xs us Q,Qc X gx a H s->aK xs us->r xs H Q->
  (X⁻¹) (call f us) (EP X gx a Q) X.xe s
abbrev tOp(r:R2)(b c:TE):TE:=λa H Q=>b a H λx d=>c a d λy e=>r x y e Q
abbrev tUn(r:V->Hp->VK->Prop)(a:TE):TE:=λb H Q=>a b H λx c=>r x c Q
abbrev rI(C:ri->ri->Prop)(g:ri->ri->V):R2:=λx y H Q=>asI x λi=>asI y λj=>C i j/\Q (g i j) H
abbrev rI0(g:ri->ri->V):R2:=λx y H Q=>asI x λi=>asI y λj=>Q (g i j) H
abbrev rU(g:ri->V):V->Hp->VK->Prop:=λx H Q=>asI x λi=>Q (g i) H
section
variable{X:Cx}{a b c:G2}{ta tb tc:TE}{pos:Pos}
def Il(m:PE X a ta)(n:PE X b tb){gx:hH _}{s:kG}{d:St}{H:Hp}{R:V->V->Hp->Prop}(I:Qc X gx d H s)
 (h:ta d H λx l=>tb d l λy e=>R x y e) {Q:ZD} {f:iy->iy->Sem iy}
 (o:∀v u j x y e,Qc X gx d e j->aX x v->aX y u->R x y e->(X⁻¹) (f v u) Q X.xe j):
 (X⁻¹) (L9 a X.env) (λv g=>(X⁻¹) (L9 b X.env) (λu i=>(X⁻¹) (f v u) Q X.xe i) X.xe g) X.xe s:=by
 show thP (m gx s d H _ I h) λv p x l q r w=>thP (n gx p d l _ q w) λu j y e z A B=>o v u j x y e z r A B
def Kv{r:R2}(d:OpR X (Mi op) r)(e:PE X a ta)(f:PE X b tb):PE X (.BinOp a op b pos) (tOp r ta tb):=by
 intro gx s g H Q I h;show wpAny_BinOp (Il e f I h λv u i x y j l m n q=>d gx i g j x y v u Q l m n q)
def Kw(e:UnR X (unaryOp op) r)(f:PE X a ta):PE X (.UnaryOp op a pos) (tUn r ta):=by
 intro gx s d H Q I h;show UnaryOp_ (thP (f gx s d H _ I h) λv g x i j l m=>e gx g d i x v Q j l m)
def opI{f:iy->iy->Sem iy}{C:ri->ri->Prop}{g:ri->ri->ri}
 (Qs:∀i j t u s Q E,C i j->Q (.int (g i j) s.toks) {s with toks:=s.toks+1}->(X⁻¹) (f (.int i t) (.int j u)) Q E s):
 OpR X f (rI C λi j=> .int (g i j)):=by
 intro gx s n H x y v u Q I d e h;let%[i,rfl|l]:=dv h;let%[j,rfl,m|q]:=dv l;let%[t|rfl]:=d;let%[t'|rfl]:=e;show Qs i j t t' s _ _ m %[.int _,H,I.tok _,%[_|rfl]|q]
def Ky{g:ri->ri->ri}
 (Qs:∀(i j:ri) (t u:Tok) (s:kG) (Q:ZD) (E:ZD),Q (.int (g i j) s.toks) {s with toks:=s.toks+1}->(X⁻¹) (f (.int i t) (.int j u)) Q E s):
 OpR X f (rI0 λi j=> .int (g i j)):=by
 intro gx s m H x y v u Q I d e h;let%[i,rfl|l]:=dv h;let%[j,rfl|q]:=dv l;let%[t|rfl]:=d;let%[t'|rfl]:=e;show Qs i j t t' s _ _ %[.int _,H,I.tok _,%[_|rfl]|q]
def Im{g:ri->ri->su}
 (Qs:∀(i j:ri) (t u:Tok) (s:kG) (Q:ZD) (E:ZD),Q (.bool (g i j)) s->(X⁻¹) (f (.int i t) (.int j u)) Q E s):
 OpR X f (rI0 λi j=> .bl (g i j)):=by
 intro gx s m H x y v u Q I d e h;let%[i,rfl|l]:=dv h;let%[j,rfl|q]:=dv l;let%[t|rfl]:=d;let%[t'|rfl]:=e;show Qs i j t t' s _ _ %[.bl _,H,I,rfl|q]
abbrev Kz(i j:ri):Prop:=0<j/\j<1073741824
abbrev Cj(i j:ri):Prop:=(-(2^64)<i/\i<2^64)\/(-(2^64)<j/\j<2^64)
def Cj.ok{i j:ri}(h:Cj i j):IntMulOk i j:=by
 rcases h with⟨d,e⟩|⟨d,e⟩
 .show .of_left (intBits_le_64 d e)
 .show .of_right (intBits_le_64 d e)
def Io:OpR X (Mi .Add) (rI0 λi j=> .int (i+j)):=Ky λ_ _ _ _ _ _ _ q=>add_int q
def Ip:OpR X (Mi .Sub) (rI0 λi j=> .int (i-j)):=Ky λ_ _ _ _ _ _ _ q=>sub_int q
def Ck:OpR X (Mi .Mult) (rI Cj λi j=> .int (i*j)):=opI λ_ _ _ _ _ _ _ d q=>mul_int q d.ok
def FA:OpR X (Mi .FloorDiv) (rI Kz λi j=> .int (i/j)):=opI λi j _ _ _ _ _ d q=>by
 let e:(0:ri)<j:=d.1;let f:j<1073741824:=d.2;show floordiv_int ⋯ (by rw[ri.fdiv_eq_ediv_of_nonneg i ⋯];show q) (.inl (PyProof.noPylong_small ⋯))
def Iq:OpR X (Mi .Mod) (rI (λ_ j=>0<j) λi j=> .int (i%j)):=opI λi j _ _ _ _ _ d q=>by
 let e:(0:ri)<j:=d;show mod_int' ⋯ (by rw[ri.fmod_eq_emod_of_nonneg i ⋯];show q)
def unI{g:ri->ri}
 (Qs:∀(i:ri) (t:Tok) (s:kG) (Q:ZD) (E:ZD),Q (.int (g i) s.toks) {s with toks:=s.toks+1}->(X⁻¹) (f (.int i t)) Q E s):
 UnR X f (rU λi=> .int (g i)):=by
 intro gx s e H x v Q I d h;let%[i,rfl|q]:=dv h;let%[t|rfl]:=d;show Qs i t s _ _ %[.int _,H,I.tok _,%[_|rfl]|q]
def Ir:UnR X (unaryOp .USub) (rU λi=> .int (-i)):=unI λ_ _ _ _ _ q=>neg_int q
end
abbrev Iu(x y:V):su:=match x with
 | .non=>(match y with| .non=>hW| .int _=>hW| .bl _=>hW| .str _=>hW|_=>hX)
 | .int _=>(match y with| .non=>hW| .int _=>hW| .str _=>hW|_=>hX)
 | .bl _=>(match y with| .non=>hW| .bl _=>hW| .str _=>hW|_=>hX)
 | .str _=>(match y with| .non=>hW| .int _=>hW| .bl _=>hW| .str _=>hW|_=>hX)
 | .byt _=>(match y with| .byt _=>hW|_=>hX)
 | _=>hX
abbrev rEq:R2:=λx y H Q=>Iu x y=hW/\Q (.bl (decide (x=y))) H
abbrev rNe:R2:=λx y H Q=>Iu x y=hW/\Q (.bl (!decide (x=y))) H
def zg:decide (V.int i=V.int j)=(i==j):=by
 rw[NH];simp
def Cl:decide (V.bl i=V.bl j)=(i==j):=by
 rw[NH];simp
def zh:decide (V.str i=V.str j)=(i==j):=by
 rw[NH];simp
def zi:decide (V.byt i=V.byt j)=(i.toList==j.toList):=by
 rw[NH]
 simp_all
section
variable{X:Cx}{a b c:G2}{ta tb tc:TE}{pos:Pos}
def a7(I:Qc X gx d H s)(q:Q (.bl k) H)(e:k=f):EP X gx d Q (.bool f) s:=by
 subst e;show%[.bl k,H,I,ρ|q]
def Cm:OpR X (pw .Eq) rEq:=by
 intro gx s g H x y v u Q I f d h;let%[e|q]:=h;cases x with
 | non=>
   cases f;cases y with
   | non=>cases d;show PySem.EqNone.eq_none_none (a7 I q ∅)
   | bl j=>cases d;show PySem.EqNone.eq_none_bool (a7 I q ∅)
   | int j=>have%[t'|rfl]:=d;show PySem.EqNone.eq_none_int (a7 I q ∅)
   | str j=>have%[t'|rfl]:=d;show PySem.EqNone.eq_none_str (a7 I q ∅)
   | _=>show on (show hX=hW from e) Zu
 | bl i=>
   cases f;cases y with
   | non=>cases d;show PySem.EqNone.eq_bool_none (a7 I q ∅)
   | bl j=>cases d;show eq_bool (a7 I q Cl)
   | str j=>have%[t'|rfl]:=d;show PySem.EqMixed.eq_bool_str (a7 I q ∅)
   | _=>show on (show hX=hW from e) Zu
 | int i=>
   let%[t|rfl]:=f;cases y with
   | non=>cases d;show PySem.EqNone.eq_int_none (a7 I q ∅)
   | int j=>have%[t'|rfl]:=d;show eq_int (a7 I q zg)
   | str j=>have%[t'|rfl]:=d;show PySem.EqMixed.eq_int_str (a7 I q ∅)
   | _=>show on (show hX=hW from e) Zu
 | str i=>
   let%[t|rfl]:=f;cases y with
   | non=>cases d;show PySem.EqNone.eq_str_none (a7 I q ∅)
   | bl j=>cases d;show PySem.EqMixed.eq_str_bool (a7 I q ∅)
   | int j=>have%[t'|rfl]:=d;show PySem.EqMixed.eq_str_int (a7 I q ∅)
   | str j=>have%[t'|rfl]:=d;show eq_str (a7 I q zh)
   | _=>show on (show hX=hW from e) Zu
 | byt i=>
   let%[t|rfl]:=f;cases y with
   | byt j=>have%[t'|rfl]:=d;show PySem.W.eq_bytes (a7 I q zi)
   | _=>show on (show hX=hW from e) Zu
 | _=>cases y<;> show on (show hX=hW from e) Zu
def Cn:OpR X (pw .NotEq) rNe:=by
 intro gx s g H x y v u Q I f d h;let%[e|q]:=h;cases x with
 | non=>
   cases f;cases y with
   | non=>cases d;show PySem.EqNone.ne_none_none (a7 I q ∅)
   | bl j=>cases d;show PySem.EqNone.ne_none_bool (a7 I q ∅)
   | int j=>have%[t'|rfl]:=d;show PySem.EqNone.ne_none_int (a7 I q ∅)
   | str j=>have%[t'|rfl]:=d;show PySem.EqNone.ne_none_str (a7 I q ∅)
   | _=>show on (show hX=hW from e) Zu
 | bl i=>
   cases f;cases y with
   | non=>cases d;show PySem.EqNone.ne_bool_none (a7 I q ∅)
   | bl j=>cases d;show ne_bool (a7 I q (vj not Cl))
   | str j=>have%[t'|rfl]:=d;show PySem.EqMixed.ne_bool_str (a7 I q ∅)
   | _=>show on (show hX=hW from e) Zu
 | int i=>
   let%[t|rfl]:=f;cases y with
   | non=>cases d;show PySem.EqNone.ne_int_none (a7 I q ∅)
   | int j=>have%[t'|rfl]:=d;show ne_int (a7 I q (vj not zg))
   | str j=>have%[t'|rfl]:=d;show PySem.EqMixed.ne_int_str (a7 I q ∅)
   | _=>show on (show hX=hW from e) Zu
 | str i=>
   let%[t|rfl]:=f;cases y with
   | non=>cases d;show PySem.EqNone.ne_str_none (a7 I q ∅)
   | bl j=>cases d;show PySem.EqMixed.ne_str_bool (a7 I q ∅)
   | int j=>have%[t'|rfl]:=d;show PySem.EqMixed.ne_str_int (a7 I q ∅)
   | str j=>have%[t'|rfl]:=d;show ne_str (a7 I q (vj not zh))
   | _=>show on (show hX=hW from e) Zu
 | byt i=>
   let%[t|rfl]:=f;cases y with
   | byt j=>have%[t'|rfl]:=d;show PySem.W.ne_bytes (a7 I q (vj not zi))
   | _=>show on (show hX=hW from e) Zu
 | _=>cases y<;> show on (show hX=hW from e) Zu
def KA:OpR X (pw .Lt) (rI0 λi j=> .bl (decide (i<j))):=Im λ_ _ _ _ _ _ _ q=>lt_int q
def KB:OpR X (pw .LtE) (rI0 λi j=> .bl (decide (i<=j))):=Im λ_ _ _ _ _ _ _ q=>le_int q
def KC:OpR X (pw .Gt) (rI0 λi j=> .bl (decide (j<i))):=Im λ_ _ _ _ _ _ _ q=>gt_int q
def rL:OpR X (pw .In) (λx y H Q=>asS x λi=>asS y λj=>Q (.bl (!(LA j i 0 j.length 1).isEmpty)) H):=by
 intro gx s l H x y v u Q I f g h;let%[i,rfl|d]:=dS h;let%[j,rfl|e]:=dS d;let q:=e;let%[t|rfl]:=f;let%[t'|rfl]:=g;show in_str (a7 I q rfl)
def Iv:OpR X (pw .Is) (λx y H Q=>y= .non/\Q (.bl (decide (x= .non))) H):=by
 intro gx s f H x y v u Q I d e h;let%[rfl|q]:=h;cases e;show is_none_gen (a7 I q ?_);cases x<;> first
  | lia
  |(have%[t|rfl]:=d;rfl)
def FB:OpR X (pw .IsNot) (λx y H Q=>y= .non/\Q (.bl (!decide (x= .non))) H):=by
 intro gx s f H x y v u Q I d e h;let%[rfl|q]:=h;cases e;show isnot_none_gen (a7 I q ?_);cases x<;> first
  | lia
  |(have%[t|rfl]:=d;rfl)
def OpR.or(h:OpR X f r)(h':OpR X f i):OpR X f (λx y H Q=>r x y H Q\/i x y H Q):=by
 intro gx s d H x y v u Q I e g q;rcases q with q|q
 .show h gx s d H x y v u Q I e g q
 .show h' gx s d H x y v u Q I e g q
def nomark(b:G2)(h:op≠ .In)(f:op≠ .NotIn):L7 op b=hX:=by
 let d:(op==T1.In)=hX:=by lia
 let e:(op==VY)=hX:=by lia
 cases b<;> simp[L7,d,e]
def FC{r:R2}(d:OpR X (pw op) r)(e:PE X a ta)(f:PE X b tb)(g:L7 op b=hX):PE X (.Compare a [op] [b] pos) (tOp r ta tb):=by
 intro gx s i H Q I h;show wpAny_Compare1 (Il e f I h λv u j x y l m n o q=>d gx j i l x y v u Q m n o q) g
abbrev zj(t:TE):TT:=λd H Q=>t d H λx e=>asB x λk=>Q k e
def FD(f:OpR X (pw op) r)(g:PE X a ta)(i:PE X b tb)(j:L7 op b=hX):PT X (.Compare a [op] [b] pos) (zj (tOp r ta tb)):=by
 intro gx s d H Q I h;show Uk (thP (g gx s d H _ I h) λv l x m n o p=>thP (i gx l d m _ n p) λu q y w A B C=>
  thP (f gx q d w x y v u _ A o B C) λc L z E G J e=>?_) j
 let%[k,rfl|e]:=oj e;cases J;show ME %[E,G|e]
abbrev xO(r f:R2)(ta tb tc:TE):TE:=λd H Q=>ta d H λx g=>tb d g λy h=>r x y h λz e=>asB z λk=>
 (if k=hW then tc d e λi j=>f y i j Q else Q (.bl hX) e)
def Co(n:OpR X (pw op) r)(i:OpR X (pw e) o)(p:PE X a ta)(q:PE X b tb)(w:PE X c tc)
 (A:lastMarks [op,e] [b,c]=hX):PE X (.Compare a [op,e] [b,c] pos) (xO r o ta tb tc):=by
 intro gx s f H Q I h;show Compare_chain (thP (p gx s f H _ I h) λv B x C E G J=>chain_link (thP (q gx B f C _ E J) λu L y M N j O=>
  thP (n gx L f M x y v u _ N G j O) λd T z l m U g=>?_)) A
 let%[k,rfl|g]:=oj g;cases U;show ME ?_;cases k with
 | false=>show ite_ff %[.bl hX,l,m,rfl|g]
 | true=>show ite_tt (chain_last (thP (w gx T f l _ m g) λY s4 z' H4 I4 r4 q4=>i gx s4 f H4 y z' u Y Q I4 j r4 q4))
def xP:lp<2^63:=!1
def xQ:OpR X (Mi .Add) (λx y H Q=>asS x λi=>asS y λj=> ~~~i+ ~~~j<=lp/\Q (.str (i++j)) H):=by
 intro gx s m H x y v u Q I f g h;let%[i,rfl|d]:=dS h;let%[j,rfl|e]:=dS d;let%[l|q]:=e;let%[t|rfl]:=f;let%[t'|rfl]:=g;show add_str (λt' tk=>%[.str _,H,I.tok _,%[_|rfl]|q]) l
def dw(r:aK [x] us):∃u,us=[u]/\aX x u:=by
 cases r with
 | cons d e=>cases e;show%[_,ρ|d]
def kP(r:aK [x,y] us):∃u d,us=[u,d]/\aX x u/\aX y d:=by
 cases r with
 | cons e f=>
   cases f with
   | cons g h=>cases h;show%[_,_,ρ,e|g]
def AM(m:X.calm=hW):cE X (.builtin "min") (λxs H Q=>mw xs λl x2=>asI l λi=>asI x2 λj=>Q (.int (if j<i then j else i)) H):=by
 intro gx s n H xs us Q I r h;let%[l,x2,rfl|e]:=je h;let%[i,rfl|f]:=dv e;let%[j,rfl|g]:=dv f;let q:=g;let%[u,o,rfl,%[t|rfl],t'|rfl]:=kP r;show min_two_ints (I.ok.hd m) λh' tk k=>%[_,H,I.kept k,?_|q]
 by_cases d:j<i
 .rw[ix d,ix d];show%[_|ρ]
 .rw[ij d,ij d];show%[_|ρ]
def AN:cE X (.type "int") (λxs H Q=>(∃i,xs=[.int i]/\Q (.int i) H)\/∃k,xs=[.bl k]/\Q (.int (if k then 1 else 0)) H):=by
 intro gx s e H xs us Q I r h;rcases h with⟨i,rfl,q⟩|⟨k,rfl,q⟩
 .let%[u,rfl,t|rfl]:=dw r;show call_int_int %[.int i,H,I,%[_|rfl]|q]
 .let%[u,rfl|d]:=dw r;cases d;show call_int_bool %[.int _,H,I.tok _,%[_|rfl]|q]
def t9:cE X (.type "str") (λxs H Q=>oneA xs λf=>asI f λi=>i.natAbs.log2<1920/\Q (.str (toString i)) H):=by
 intro gx s j H xs us Q I r h;let%[f,rfl|d]:=bM h;let%[i,rfl|e]:=dv d;let%[g|q]:=e;let%[u,rfl,t|rfl]:=dw r;show PySem.P.str_of_int g %[.str _,H,I.tok _,%[_|rfl]|q]
abbrev FE(K:ZA)(x:V)(H:Hp)(n:iv):Prop:=
 match x with
 | .str y=> ~~~y<=lp/\n= ~~~y
 | .byt y=>y.size<=lp/\n=y.size
 | .ref p=>(∃xs,Qb K H p xs/\n= ~~~xs)\/∃xs,SqT K H p xs/\n= ~~~xs
 | _=>LG
def Cp:cE X (.builtin "len") (λxs H Q=>oneA xs λx=>∃n,FE X.K x H n/\Q (.int n) H):=by
 intro gx s v H xs us Q I r h;let%[x,rfl|g]:=bM h;let%[n,e|q]:=g;let%[u,rfl|i]:=dw r;let w:=L3;cases x with
 | str y=>
   let%[t|rfl]:=i;obtain⟨m,f⟩: ~~~y<=lp/\n= ~~~y:=e;subst f;show len_str ⋯ %[.int _,H,I.tok _,%[_|rfl]|q]
 | byt y=>
   let%[t|rfl]:=i;obtain⟨m,f⟩:y.size<=lp/\n=y.size:=e;subst f;show PySem.W.len_bytes ⋯ %[.int _,H,I.tok _,%[_|rfl]|q]
 | ref p=>
   cases i;let f:=e;rcases f with⟨xs,j,f⟩|⟨xs,j,f⟩
   .subst f;let%[its,l,pl|o]:=I.list j;let d:= ~~~l;show Calls.call_len_list pl.isList (by simp only[Zp];lia) %[.int xs.length,H,I.tok _,%[_|by simp only[Zp];rw[d]]|q]
   .subst f;let%[its,l,pl|o]:=I.tuple j;let d:= ~~~l;show len_tuple pl (by simp only[Zp];lia) %[.int xs.length,H,I.tok _,%[_|by simp only[Zp];rw[d]]|q]
 | _=>show(e).elim
end
structure xR (h:z4) (x dx C:jg) (mA:ZC):Prop where
 obj:h.get? x∣SE C dx
 ns:h.Ns1 dx mA
 ne:dx≠x
set_option tactic.hygienic true in
def rN{h:z4}{c:ZC}(n:h.Ns1 d c):∃od,h.get? d∣od/\∀name,WI name od∣c name:=by
 let%[o,f,p,g,i,j,_|l]:=n;show%[o,g|λname=>?_];let e:=l name;unfold nsFind findBy at e;rw[<-TD]at e;unfold WI;rw[i];dsimp only
 split
 .rename_i y q
  rw[q]at e;show vj hY e
 .rename_i q
  rw[q]at e;let a:f.toList.any (·.refKey)=hX:=by
   rw[hH.any_eq_false];intro y m;let%[z,t|b]:=j y (Pc.mp m);simp[Sj.refKey,b]
  rw[ij (a▸Zu)];show vj hY e
def xR.look(I:xR h x a C b):∃od,PySem.W.InstAt h x (SE C a) C (hY od)/\∀name,WI name od∣b name:=
 let⟨od,c,d⟩:=rN I.ns
 %[od,%[I.obj,rfl,rfl|c]|d]
section
#where
variable{K:ZA}{x dx C f:jg}{mA:ZC}{name:ku}{v:iy}
def FF(X:K.In s.heap)(I:xR s.heap x dx C mA)(c:S0 K C name=hW)(d:Ow K C=hW)
 (e:LZ K (.ref C) name∣hV) (g:mA name∣v) (a:WK v=hW) (h:Q v {s with toks:=s.toks+1}):
 ↥A (VN (.ref x) name b) Q E s:=by
 let%[od,J|i]:=I.look;show PySem.W.get_value X J (UJ c).1 (findObj_own d e rfl (by rw[i,g])) a h
def Cq(X:K.In s.heap)(I:xR s.heap x dx C mA)(a:S0 K C name=hW)
 (b:LZ K (.ref C) name∣hY (.ref f)) (c:WJ K (.ref f)=hW) (d:mA name=hV) (h:Q (.ref f,[.ref x]) s):
 ↥A (PQ (.ref x) name pl) Q E s:=by
 let%[od,J|e]:=I.look;show PySem.W.method_fn X J (UJ a).1 (UJ a).2 b (MK.mp c) (by change(WI name od).map _∣hX;rw[e,d];rfl) h
def FG(X:K.In s.heap)(I:xR s.heap x dx C mA)
 (j:LZ K (.ref C) "__setattr__"=hY (hY (.builtin "object.__setattr__"))) (l:Wa K C=hW) (m:takerIn K C name∣hV) (n:Ow K C=hW)
 (hw:PySem.Within mA o) (p: ~~~o<=lp)
 (h:∀h',xR h' x dx C (λy=>if y=name then hY v else mA y)->v0 dx s.heap h'->Q () {s with heap:=h',toks:=s.toks+2}):
 ↥A (setAttr (.ref x) name v) Q E s:=by
 let%[od,J|z]:=I.look;show set_plain X J j (PySem.W.osa_open X J l m λb=>?_);let%[B,q|d]:=PR n;show Z2 (Z3 (Z2 (Z2 (O4 I.obj (Z2 (Pn (UK X q) ?_))))));rw[d];show Z3 (Z2 (Z3 (Z2 (wpAny_nsSet1 I.ns λh' a c=>?_))));let%[G,r,u,e,g|i]:=a.count (PySem.Within.cons name v hw);show Z2 (V2 e (g▸Wb (Ym i (!2))) (Z3 (h _ %[(c.2 _ (Lx I.ne)).trans I.obj,a|I.ne] c)))
def Cr{R:Sg->kG->Prop}(X:K.In s.heap)(b:makesIn K C=hW)
 (hi:LZ K (.ref C) "__init__"=hY (hY (.ref f))) (c:Vj K (.ref f)∣.type "function")
 (h:OR (Mq prog w) (A.under (.builtin "type.__call__" %[.ref C::vs|a])) (.call (.ref f) %[.ref (⇑s+1)::vs|a]) (PySem.W.InitBack (⇑s+1) R)
  (s>>>(s.heap.push QU).push (SE C ⇑s))):
 OR (Mq prog w) A (.call (.ref C) %[vs|a]) R s:=by
 show PySem.W.make_core (PySem.W.makes_of X b) (RH X hi) (λself=>PySem.W.bind_fn X self c) (.inl rfl) h
end
abbrev ei(f:ku)(v:V):hH (ku×V)->hH (ku×V)
 |[]=>[(f,v)]
 |(g,x)::r=>if g=f then(g,v)::r else(g,x)::ei f v r
def mW(f g:ku)(v:V):∀fs,(ei f v fs).lookup g=if g=f then hY v else fs.lookup g
 |[]=>by
  change Nd g [(f,v)]=_;by_cases h:g=f
  .let a:=MK.mpr h;simp only[Nd,a,ix h]
  .let a:=LF.mpr h;simp only[Nd,a,ij h]
 |(k,x)::r=>by
  rw[show ei f v _=(if k=f then(k,v)::r else(k,x)::ei f v r)from rfl];by_cases b:k=f
  .rw[ix b];by_cases h:g=k
   .let a:=MK.mpr h;simp only[Nd,a,ix (h.trans b)]
   .let a:=LF.mpr h;simp only[Nd,a,ij (λe:g=f=>h (e.trans b.symm))]
  .rw[ij b];by_cases h:g=k
   .let a:=MK.mpr h;simp only[Nd,a,ij (λe=>b (h.symm.trans e))]
   .let a:=LF.mpr h;simp only[Nd,a];show(mW f g v r)
def mB(f:ku)(v:V):∀fs:hH (ku×V),f∈(ei f v fs)\1/\∀g,g∈fs\1->g∈(ei f v fs)\1
 |[]=>%[by simp[ei]|λg h=>by simp at h]
 |(k,x)::r=>by
  let%[a|b]:=mB f v r;rw[show ei f v _=(if k=f then(k,v)::r else(k,x)::ei f v r)from rfl]
  grind
def mX(f:ku)(v:V):∀fs,~~~(ei f v fs)<= ~~~fs+1
 |[]=>by simp[ei]
 |(k,x)::r=>by
  let a:=mX f v r;rw[show ei f v _=(if k=f then(k,v)::r else(k,x)::ei f v r)from rfl];by_cases b:k=f
  .simp_all
  simp_all
def gW.some_of(r:gW (hY v) o):∃u,o∣u/\aX v u:=by
 cases o with
 | none=>show(r).elim
 | some u=>show%[u,ρ|r]
def gW.none_of(r:gW hV o):o=hV:=by
 cases o with
 | none=>rfl
 | some u=>show(r).elim
def rO(r:aX v u):WK u=hW:=by
 cases v with
 | non=>cases(r);rfl
 | bl b=>cases(r);rfl
 | int i=>have%[t|e]:=(r);cases e;rfl
 | str x=>have%[t|e]:=(r);cases e;rfl
 | byt b=>have%[t|e]:=(r);cases e;rfl
 | flt b=>have%[t|e]:=(r);cases e;rfl
 | ref a=>cases(r);rfl
 | ty n=>cases(r);rfl
section
variable{P:n7}{w:xl}{H H':Hp}{h h':z4}{a C dx:jg}{fs fs':hH (ku×V)}
def nW(c:HOk P w H h)(e:H a∣.ins C dx fs):∃b,xR h a dx C b/\(∀f,gW (fs.lookup f) (b f))/\PySem.Within b (fs\1)/\ ~~~fs<=1000/\H dx∣.own a:=by
 let%[d,z,ne,g,b,n,r|q]:=(c a _ e)
 show%[b,%[g,n|ne],r,q,z|d]
end
structure Cls (K:ZA) (C:jg):Prop where
 pg:S0 K C LD=hW
 hd:Ow K C=hW
 po:Wa K C=hW
 sa:LZ K (.ref C) "__setattr__"=hY (hY (.builtin "object.__setattr__"))
def Cls.get{K:ZA}{C:jg}(c:Cls K C)(f:ku):S0 K C f=hW:=c.pg
abbrev gX(K:ZA)(C:jg)(f:ku):Prop:=LZ K (.ref C) f∣hV
def gX.taker{K:ZA}{C:jg}{f:ku}(n:gX K C f):takerIn K C f∣hV:=by
 unfold takerIn;rw[n];rfl
structure FH (K:ZA) (C:jg) (m:ku) (f:jg):Prop where
 at_:LZ K (.ref C) m∣hY (.ref f)
 fn:WJ K (.ref f)=hW
 kp:N1 K (.ref f)=hW
section
#version
variable{a C dx:jg}{fs:hH (ku×V)}{f:ku}{v:V}{A:wy}{E:ZD}
def xS(I:Qc X gx σ H s)(e:H a∣.ins C dx fs)(c:Cls X.K C)(n:gX X.K C f)(l:fs.lookup f∣v)
 (h:∀u s',Qc X gx σ H s'->aX v u->Q u s'):vk (Mq X.prog X.w) A (VN (.ref a) f b) Q E s:=by
 let%[i,O,r,_,_|_]:=nW I.hok e;let%[u,g|d]:=gW.some_of (l▸r f);show FF I.kIn O (c.get f) c.hd n g (rO d) (h u _ (I.tok _) d)
def xT(I:Qc X gx σ H s)(e:H a∣.ins C dx fs)(c:Cls X.K C)(k:FH X.K C m g)(l:fs.lookup m=hV)
 (h:Q (.ref g,[.ref a]) s):vk (Mq X.prog X.w) A (PQ (.ref a) m pl) Q E s:=by
 let%[b,O,r,_,_|_]:=nW I.hok e;show Cq I.kIn O (c.get m) k.at_ k.fn (gW.none_of (l▸r m)) h
def xU(I:Qc X gx σ H s)(e:H a∣.ins C dx fs)(c:Cls X.K C)(n:gX X.K C f)(J: ~~~fs<1000)(l:aX y u)
 (h:∀s',Qc X gx σ (Qa H a (.ins C dx (ei f y fs))) s'->Q () s'):vk (Mq X.prog X.w) A (setAttr (.ref a) f u) Q E s:=by
 let%[m,O,r,i,_|j]:=nW I.hok e;show FG I.kIn O c.sa c.po n.taker c.hd i (by rw[Z6,L3];lia) λh' d p=>h _ (I.write (e▸LW) (.inr j) (λb q w z=>(p.2 b w).trans z) (let⟨o,_,_,B,_⟩:=d.ns;%[o|B]) %[(ap O.ne)▸j,?_,O.ne,d.obj,_,d.ns,λg=>?_|λg G=>?_])
 .let:=mX f y fs;lia
 .rw[mW];by_cases q:g=f
  .rw[ix q,ix q];show l
  .rw[ij q,ij q];show r g
 .by_cases q:g=f
  .show q▸(mB f y fs).1
  .show(mB f y fs).2 g (i g λz=>G ?_);change(if g=f then hY u else m g)=hV;rw[ij q];show z
def Qc.made(I:Qc X gx σ H s):Qc X gx σ (Qa (Qa H ⇑s (.own (⇑s+1))) (⇑s+1) (.ins C ⇑s []))
 (s>>>(s.heap.push QU).push (SE C ⇑s)):=by
 let c:(s.heap.push QU).get? ⇑s∣QU:=Zj s.heap rfl;let d:=by
  let:=Zj (s.heap.push QU) (o:=SE C ⇑s) rfl;rwa[Zq]at this
 show(I.laid (o:= .own (⇑s+1)) (t':=s.toks) (λb u q=>Z7 _ q) (Zi _) %[_|c]).laid (λb u q=>Z7 _ q) (Wi (Zq _ _)) ?_;let ne:⇑s≠⇑s+1:=Zt (Yu _);show%[by rw[ap ne,aa],Xl _,ne,d,λ_=>hV,(Tn %[QU,#[],_,c,ρ,(λe g=>on g ∅)|λ_=>rfl]).at λo q=>Z7 _ q,λ_=>LW|λy h=>on rfl h]
def zk(c:Mx e f env (L9 e env)=L9 e env)
 (h:↥A (L9 e env) (λo b=>↥A (VN o f hW) Q E b) E s):↥A (L9 (.Attribute e f pos) env) Q E s:=
 Attribute_any_ h (by rw[arm_eval_Attribute,c])
end
abbrev Iw(K:ZA)(c:TE)(f:ku):TE:=λd H Q=>c d H λx b=>asR x λa=>∃C e fs,b a∣.ins C e fs/\Cls K C/\gX K C f/\∃v,fs.lookup f∣v/\Q v b
abbrev Ix(K:ZA)(e g:TE)(f:ku):TS:=λD b H=>g b H λy h=>e b h λx c=>asR x λa=>∃C d fs,c a∣.ins C d fs/\Cls K C/\gX K C f/\ ~~~fs<1000/\
 D.nx b (Qa c a (.ins C d (ei f y fs)))
section
variable{X:Cx}{o e value:G2}{f:ku}{pos pos' tpos:Pos}{ta tv:TE}
def Iy(b:PE X e ta)(d:Mx e f X.env (L9 e X.env)=L9 e X.env):PE X (.Attribute e f pos) (Iw X.K ta f):=by
 intro gx s g H Q I h;show zk d (thP (b gx s g H _ I h) λu y x i j m h=>?_);let%[a,rfl,C,z,fs,p,c,n,v,l|q]:=aN h;obtain rfl:u=m4 a:=m;show xS j p c n l λA B r w=>%[v,i,r,w|q]
def Iz(d:PE X o ta)(g:PE X value tv)(i:N7 value (hY (.Attribute o f pos')) pos.line X.env=pure hX):PS X (.Assign [.Attribute o f pos'] value pos) (Ix X.K ta tv f):=by
 intro gx s b H D I h;show RZ (thP (g gx s b H _ I h) λu j y m p r q=>thP (d gx j b m _ p q) λv G x J w z h=>?_) i;let%[a,rfl,C,L,fs,A,c,n,l|B]:=aN h;obtain rfl:v=m4 a:=z;show xU w A c n l r λM E=>%[b,_,E|B]
end
section
#version
variable{A:wy}{E:ZD}{Q:ZD}{c:iy}{b:su}
inductive jU (K:ZA) (H:Hp):V->iy->Prop where
 | non:jU K H .non (.type "NoneType")
 | bl (x:su):jU K H (.bl x) (.type "bool")
 | int (i:ri):jU K H (.int i) (.type "int")
 | str (x:ku):jU K H (.str x) (.type "str")
 | flt (x:UInt64):jU K H (.flt x) (.type "float")
 | lst {a:jg} {xs:hH V} (e:H a<*xs):jU K H (.ref a) (.type "list")
 | frz {a:jg} {o:NB} {xs:hH V} (e:H a∣.frz o (.lst xs)):jU K H (.ref a) (.type "list")
 | tup {a:jg} {xs:hH V} (e:H a&&&xs):jU K H (.ref a) (.type "tuple")
 | dK {a:jg} {kvs:hH _} (e:H a∣.dK kvs):jU K H (.ref a) (.type "dict")
 | dT {a:jg} {kvs:hH _} (e:H a∣.dT kvs):jU K H (.ref a) (.type "dict")
 | ins {a C dx:jg} {fs:hH _} (e:H a∣.ins C dx fs) (cl:Cls K C) (ha:LZ K (.ref C) "__class__"=hY (hY (.builtin "object.__class__")))
  (hn:R9 K (.builtin "object.__class__") "__get__"=hY (hY (.builtin "getset_descriptor.__get__"))) (htk:takesIn K (.builtin "object.__class__")∣hW)
  (hm:mroIn K C (.type "object")∣hW):jU K H (.ref a) (.ref C)
def AO(I:Qc X gx σ H s)(d:aX x u)(ty:jU X.K H x t)(e:Ov X.K t c∣b)(h:∀tk,Q (.bool b) {s with toks:=tk}):
 vk (Mq X.prog X.w) A (call (.builtin "isinstance") [u,c]) Q E s:=by
 cases ty with
 | non=>cases(d);show Oh kitx_none I.kIn LW e (λz=>nomatch z) h
 | bl y=>cases(d);show Oh PySem.W.kitx_bool I.kIn LW e (λz=>nomatch z) h
 | int i=>have%[t|q]:=(d);cases q;show Oh PySem.W.kitx_int I.kIn LW e (λz=>nomatch z) h
 | str y=>have%[t|q]:=(d);cases q;show Oh PySem.W.kitx_str I.kIn LW e (λz=>nomatch z) h
 | flt y=>have%[t|q]:=(d);cases q;show Oh PySem.W.kitx_float I.kIn LW e (λz=>nomatch z) h
 | @lst a xs f=>
   cases(d);let%[_,_,n,_|g]:=(I.hok a _ f)
   show Oh kitx_list I.kIn %[_,g|rfl] e (λz=>nomatch z) h
 | @frz a M xs f=>
   cases(d);let%[_,_,_,n,_|g]:=(I.hok a _ f)
   show Oh kitx_list I.kIn %[_,g|rfl] e (λz=>nomatch z) h
 | @tup a xs f=>
   cases(d);let%[_,_,_|p]:=(I.hok a _ f)
   let%[o,g,j|_]:=p;show Oh PySem.W.kitx_tuple I.kIn %[o,g|j] e (λz=>nomatch z) h
 | @dK a l f=>
   cases(show u=m4 a from d);let%[_,_,vs,_|p]:=(I.hok a _ f)
   let%[o,v,w,g,j|_]:=p;show Oh kitx_dict I.kIn %[o,g|j.1] e (λz=>nomatch z) h
 | @dT a l f=>
   cases(show u=m4 a from d);let%[_,_,xs,_,o,v,w,g,j|_]:=(I.hok a _ f)
   show Oh kitx_dict I.kIn %[o,g|j.1] e (λz=>nomatch z) h
 | @ins a C N fs f r B G m L=>
   cases(d);let%[T,O|_]:=nW I.hok f;let%[od,J|_]:=O.look;show Oh (PySem.W.kitx_own (r.get _) r.hd B G m L) I.kIn J e (λz=>nomatch z) h
end
structure bH (k:iv) (A:wy):Prop where
 hd:A.handled=hV
 dp:A.depth+3*k+5<recursionLimit
 un:A.units+16*k+200<Nx
 gd:A.guards∣[]
def bH.mono(r:bH k A)(h:j<=k):bH j A:=%[r.hd,by let:=r.dp;lia,by let:=r.un;lia|r.gd]
def bH.deeper(r:bH (k+1) A)(env:Env):bH k (A.deeper env):=
 %[r.hd,by let:=r.dp;change A.depth+1+3*k+5<_;lia,by let:=r.un;change A.units+3+16*k+200<_;lia|r.gd]
def xV{A:wy}:(A.under (.builtin "type.__call__" %[.ref C::us|a])).depth=A.depth+1:=by
 first|rfl|lia
def xW{A:wy}:(A.under (.builtin "type.__call__" %[.ref C::us|a])).units=A.units+1:=by
 first|rfl|lia
def bH.make(r:bH (k+1) A)(C:jg)(us:ZF)(a:hH (ku×iy)):bH k (A.under (.builtin "type.__call__" %[.ref C::us|a])):=
 %[r.hd,by let:=r.dp;rw[xV];lia,by let:=r.un;rw[xW];lia|r.gd]
def bH.depth(r:bH k A):A.depth<recursionLimit:=by let:=r.dp;lia
def bH.units(r:bH k A):A.units+64<Nx:=by let:=r.un;lia
abbrev AQ:TA:=λ_ H Q=>Q [] H
abbrev Cs(b:TE)(c:TA):TA:=λa H Q=>b a H λx d=>c a d λxs e=>Q (x::xs) e
section
variable{X:Cx}{e:G2}{es:hH G2}{te:TE}{t:TA}{pos:Pos}
def IA:PA X [] AQ:=λ_ _ _ _ H Q I h=>Calls.spliced_nil %[[],H,I,.nil|h]
def FI(b:PE X e te)(c:PA X es t)(d:vi (e::es) X.env=(hX,L9 e X.env)::vi es X.env):PA X (e::es) (Cs te t):=by
 intro pos gx s a H Q I h;rw[d];change vk _ _ (spliced ((hX,L9 e X.env)::MM pos _)) _ _ s;show Calls.spliced_cons (thP (b gx s a H _ I h) λu f x g i j l=>thP (c pos gx f a g _ i l) λus q xs m n o p=>%[x::xs,m,n,.cons j o|p])
abbrev IB(t:TA):TE:=λb H Q=>t b H λxs a=> ~~~xs<=lp/\∀p,a p=hV->Q (.ref p) (Qa a p (.tup xs))
abbrev IC(t:TA):TE:=λb H Q=>t b H λxs a=> ~~~xs<=lp/\∀p,a p=hV->Q (.ref p) (Qa a p (.lst xs))
def ID{d}(h:PA X es t):PE X (.Tuple es d pos) (IB t):=by
 intro gx s f H Q I g;show wpAny_Tuple_spliced (thP (h pos gx s f H _ I g) λus a xs i c r ⟨z,q⟩=>%[~~~r▸z|?_]);let j:=c.hok.fresh (Zi _);show%[.ref ⇑a,Qa i ⇑a _,c.laid (λb u e=>Z7 _ e) (Zi _) ?_,ρ|q _ j];show%[z,us,r,_,Zj _ rfl,ρ,_|ρ]
def IE(h:PA X es t):PE X (.List es pos) (IC t):=by
 intro gx s d H Q I f;show wpAny_List_spliced (thP (h pos gx s d H _ I f) λus a xs g c r ⟨z,q⟩=>%[~~~r▸z|?_]);let i:=c.hok.fresh (Zi _);show%[.ref ⇑a,Qa g ⇑a _,c.laid (λb u e=>Z7 _ e) (Zi _) ?_,ρ|q _ i];show%[z,us,0,r|Zj _ rfl]
end
noncomputable abbrev Sp:=hH V->Hp->VK->XK->Prop
noncomputable abbrev CXT:=hH Env->Hp->kG->XK->iy->kG->Prop
structure AR (P:n7) (w:xl) (K:ZA) (mg:ZC) (base:z4) (A:wy) (outer:hH Env) (s:kG) (H:Hp):Prop where
 frames:A.frames∣outer
 mod:Mod K mg base
 bs:∀b o,base.get? b∣o->s.heap.get? b∣o/\H b=hV
 bsz:base.objs.size<=⇑s
 funs:s.heap.FunFrames base outer
 frf:∀b∈frs outer,H b=hV
 hok:HOk P w H s.heap
 bare:Pt s.gens
abbrev CE(outer:hH Env)(P:n7)(w:xl)(H:Hp)(s:kG)(Q:VK)(u:iy)(s':kG):Prop:=
 ∃v a,s'.os=s.os/\Pt s'.gens/\Un (frs outer) [] H a s.heap s'.heap/\HOk P w a s'.heap/\aX v u/\Q v a
abbrev CR(CX:CXT)(outer:hH Env)(P:n7)(w:xl)(H:Hp)(s:kG)(Q:VK)(E:XK)(r:Sg)(s':kG):Prop:=
 match r with
 | .ok (.ret u)=>CE outer P w H s Q u s'
 | .ok _=>LG
 | .error e=>CX outer H s E e s'
structure eM (P:n7) (w:xl) (K:ZA) (mg:ZC) (base:z4) (CX:CXT) (k:iv) (f:jg) (fd:On) (ps:ZB) (sp:Sp):Prop where
 len:∀vs H Q E,sp vs H Q E-> ~~~vs= ~~~ps
 run:∀A outer s H args us vs Q E,bH k A->AR P w K mg base A outer s H->SS s fd args (ps.zip us)->aK vs us->sp vs H Q E->
  OR (Mq P w) A (.call (.ref f) args) (CR CX outer P w H s Q E) s
def eM.imp{P:n7}{K:ZA}(F:eM P w K mg base CX k f b ps sp)
 (h:∀vs H Q E,a vs H Q E->sp vs H Q E):eM P w K mg base CX k f b ps a:=
 %[λvs H Q E q=>F.len vs H Q E (h _ _ _ _ q)|λA outer s H args us vs Q E c d e g i=>F.run A outer s H args us vs Q E c d e g (h _ _ _ _ i)]
def AR.make{P:n7}{K:ZA}(e:AR P w K mg base A outer s H)(C:jg)(us:ZF)(a:hH (ku×iy)):
 AR P w K mg base (A.under (.builtin "type.__call__" %[.ref C::us|a])) outer s H:=⟨by first|show e.frames|lia,e.mod,e.bs,e.bsz,e.funs,e.frf,e.hok,e.bare⟩
section
variable{X:Cx}{gx:ZE}{σ:St}{H:Hp}{s s':kG}
def Qc.env0(I:Qc X gx σ H s):AR X.prog X.w X.K X.mg X.base X.A X.stack s H:=
 %[I.ok.frames,I.ok.mod,I.bs,Ym I.ok.bsz I.sz,I.stack,I.stkFree,I.hok|I.bare]
def Qc.after(I:Qc X gx σ H s)(h:CE X.stack X.prog X.w H s Q u s'):EP X gx σ Q u s':=by
 let%[v,f,os,a,un,c,r|q]:=h;let%[i,g,d,t|e]:=s';obtain rfl:e=s.os:=os;show%[v,f,I.call un c a (λb z=>on z ∅),r|q]
end
abbrev rP(sp:Sp)(dvs:hH V)(E:XK)(t:TA):TE:=λa H Q=>t a H λvs b=>sp (vs++dvs) b Q E
abbrev zo(C:jg)(m:ku)(sp:Sp)(dvs:hH V)(E:XK)(d:TE)(t:TA):TE:=λb H Q=>d b H λx c=>∃a e fs,x= .ref a/\c a∣.ins C e fs/\fs.lookup m=hV/\
 t b c λvs f=>sp (x::(vs++dvs)) f Q E
nonrec def zq(C:jg)(sp:Sp)(dvs:hH V)(E:XK)(t:TA):TE:=λc H Q=>t c H λvs b=>∀x a,b x=hV->b a=hV->a≠x->
 sp (.ref x::(vs++dvs)) (Qa (Qa b a (.own x)) x (.ins C a [])) (λv d=>v= .non/\Q (.ref x) d) E
abbrev dU(K:ZA)(a:On)(ps:ZB)(ds:ZF):Prop:=
 ∀s us,K.In s.heap-> ~~~(us++ds)= ~~~ps->SS s a %[us|[]] (ps.zip (us++ds))
def dU.all{K:ZA}(h:∀us:ZF,~~~us= ~~~ps->bindArgs b %[us|[]]=pure (ps.zip us)):dU K b ps []:=λs us _ a=>by
 rw[Zz]at a ⊢;show .of_eq (h us a)
abbrev iF(CX:CXT)(X:Cx)(E:XK):Prop:=∀gx (a:St) H s e s',Qc X gx a H s->CX X.stack H s E e s'->X.xe e s'
section
variable{X:Cx}{CX:CXT}{k:iv}{f C:jg}{fd:On}{ps:ZB}{sp:Sp}{dvs:hH V}{ds:ZF}{E:XK}{x m:ku}{p pos apos:Pos}{e o:G2}{es:hH G2}{ta:TE}{t:TA}
def Ct(F:eM X.prog X.w X.K X.mg X.base CX k f fd ps sp)(d:bH k X.A)(g:dU X.K fd ps ds)(i:aK dvs ds)(j:iF CX X E)
 (I:Qc X gx b H s) (r:aK vs us) (h:sp (vs++dvs) H Q E):(X⁻¹) (call (.ref f) us) (EP X gx b Q) X.xe s:=by
 let c:=r.append i;show NC (codeAny_mono (F.run X.A X.stack s H _ _ _ Q E d I.env0 (g s us I.kIn (~~~c▸F.len _ _ _ _ h)) c h) λr s' a=>?_);cases r with
 | error e=>show j gx b H s e s' I a
 | ok l=>
   cases l with
   | ret u=>show I.after a
   | next=>show LR a
   | brk=>show LR a
   | cont=>show LR a
def zt(F:eM X.prog X.w X.K X.mg X.base CX k f fd ps sp)(d:bH k X.A)(g:Gl X x)(i:X.mg x∣.ref f)(j:N1 X.K (.ref f)=hW)(l:dU X.K fd ps ds)(n:aK dvs ds)(u:iF CX X E)
 (v:PA X (e::es) t) (a:(x==("__debug__":ku))=hX) (w:vi (e::es) X.env=(hX,L9 e X.env)::vi es X.env) (b:(MM pos (vi es X.env)).any (·.1)=hX):
 PE X (.Call (.Name x p) (e::es) [] pos) (rP sp dvs E t):=by
 intro gx s y H Q I h;show Nl (iE I g i (S9 I.ok.mod.kin j (thP (v pos gx s y H _ I h) λus z vs A c r q=>%[c.kIn|Ct F d l n u c r q]) w b) a)
def Cu(i:PE X o ta)(c:Cls X.K C)(d:FH X.K C m f)(F:eM X.prog X.w X.K X.mg X.base CX k f fd ps sp)(j:bH k X.A)(n:dU X.K fd ps ds)(r:aK dvs ds)(v:iF CX X E)
 (w:L9 (.Call (.Attribute o m apos) [] [] pos) X.env=(do
  let g<-L9 o X.env
  QM apos.atName
  let(f,first)<-RK [g] (PQ g m pl)
  Ta pos f first (MM pos (vi [] X.env)) (Pe pos (ND [] X.env)))):
 PE X (.Call (.Attribute o m apos) [] [] pos) (zo C m sp dvs E ta AQ):=by
 intro gx s y H Q I h;show PySem.W.methodCall_KW (thP (i gx s y H _ I h) λu B x G b z ⟨a,J,fs,ex,A,l,q⟩=>?_) w;subst ex;obtain rfl:u=m4 a:=z;show xT b A c d l (PySem.W.callWith_K0 b.kIn d.kp (Ct (us:=[.ref a]) (vs:=[.ref a]) F j n r v b (.cons rfl .nil) q))
structure Mk (K:ZA) (C f:jg):Prop where
 makes:makesIn K C=hW
 init:LZ K (.ref C) "__init__"=hY (hY (.ref f))
 fn:WJ K (.ref f)=hW
 kp:N1 K (.ref C)=hW
def Cv(M:Mk X.K C f)(F:eM X.prog X.w X.K X.mg X.base CX k f fd ps sp)(j:bH (k+1) X.A)(l:dU X.K fd ps ds)(n:aK dvs ds)
 (q:iF CX X E) (I:Qc X gx d H s) (r:aK vs us)
 (h:∀x b,H x=hV->H b=hV->b≠x->sp (.ref x::(vs++dvs)) (Qa (Qa H b (.own x)) x (.ins C b [])) (λv w=>v= .non/\Q (.ref x) w) E):
 (X⁻¹) (call (.ref C) us) (EP X gx d Q) X.xe s:=by
 let g:=h (⇑s+1) ⇑s (I.hok.fresh (Yl _)) (I.hok.fresh (Zi _)) (Zt (Yu _));let c:=Qc.made (C:=C) I;let i:aK (V.ref (⇑s+1)::(vs++dvs)) _:= .cons rfl (r.append n);let y:=by
  let e:= ~~~i;rw[F.len _ _ _ _ g]at e;show e.symm
 show NC (Cr I.kIn M.makes M.init (MK.mp M.fn) (codeAny_mono (F.run _ X.stack _ _ _ _ _ _ E (j.make C us [])
  (c.env0.make C us []) (l _ _ c.kIn y) i g) λr s' a=>?_))
 cases r with
 | error e=>show q gx d _ _ e s' c a
 | ok z=>
   cases z with
   | ret u=>
     let%[v,A,B,G,J|L]:=c.after a;subst J;show%[G,V.ref _,A,B,ρ|L]
   | next=>show LR a
   | brk=>show LR a
   | cont=>show LR a
def FJ(M:Mk X.K C f)(F:eM X.prog X.w X.K X.mg X.base CX k f fd ps sp)(d:bH (k+1) X.A)(g:Gl X x)(i:X.mg x∣.ref C)(j:dU X.K fd ps ds)(l:aK dvs ds)(n:iF CX X E)
 (u:PA X (e::es) t) (a:(x==("__debug__":ku))=hX) (v:vi (e::es) X.env=(hX,L9 e X.env)::vi es X.env) (b:(MM pos (vi es X.env)).any (·.1)=hX):
 PE X (.Call (.Name x p) (e::es) [] pos) (zq C sp dvs E t):=by
 intro gx s w H Q I h;show Nl (iE I g i (S9 I.ok.mod.kin M.kp (thP (u pos gx s w H _ I h) λus y vs z c r q=>%[c.kIn|Cv M F d j l n c r q]) v b) a)
variable{ks:ZB}{kpos:Pos}{kws:hH Om}{te:TE}{tk:TA}{nm:kw ku}
end
structure ar (N P:ZB) (sc:QB):Prop where
 kind:sc.kind= .function
 co:sc.isCoroutine=hX
 gen:sc.isGenerator=hX
 nd:N.Nodup
 pre:N.take P.length=P
 par:∀x∈P,sc.names.lookup x∣.local\/sc.names.lookup x∣.cell
 nofree:∀y∈sc.names,y.2≠ .free
def rQ{kindOf:ku->kw LB}:∀{binds:hH (ku×iy)} {m:ZC},(∀v,(x,v)∉binds)->UP kindOf binds m x=m x
 |[],_,_=>rfl
 |(n,v)::r,m,h=>by
  unfold UP;rw[rQ λw hw=>h w (Zk _ hw)]
  split
  .let:x≠n:=by rintro rfl;show h v Zm
   simp[this]
  .rfl
def rR{kindOf:ku->kw LB}:∀{binds:hH (ku×iy)} {m:ZC},(∀v,(x,v)∉binds)->UQ kindOf binds m x=m x
 |[],_,_=>rfl
 |(n,v)::r,m,h=>by
  unfold UQ;rw[rR λw hw=>h w (Zk _ hw)]
  split
  .rfl
  .let:x≠n:=by rintro rfl;show h v Zm
   simp[this]
def rS{kindOf:ku->kw LB}{x:ku}:∀{P:ZB} {vs:ZF} {i:iv} {m:ZC},P.Nodup->P[i]?∣x->vs[i]?∣v->kindOf x∣.local->
 UP kindOf (P.zip vs) m x∣v
 |[],_,_,_,_,h,_,_=>by simp at h
 | _::_,[],_,_,_,_,h,_=>by simp at h
 | p::P,w::vs,0,m,nd,a,b,c=>by
   simp at a b;subst a;subst b;change UP kindOf ((p,w)::P.zip vs) m p=_;unfold UP;rw[rQ λv d=>(Mw.mp nd).1 (Vk d).1,ix c];simp
 | p::P,w::vs,i+1,m,nd,a,b,c=>by
   change UP kindOf ((p,w)::P.zip vs) m x=_;show rS (Mw.mp nd).2 (a) (b) c
def rT{kindOf:ku->kw LB}{x:ku}:∀{P:ZB} {vs:ZF} {i:iv} {m:ZC},P.Nodup->P[i]?∣x->vs[i]?∣v->kindOf x≠hY .local->
 UQ kindOf (P.zip vs) m x∣v
 |[],_,_,_,_,h,_,_=>by simp at h
 | _::_,[],_,_,_,_,h,_=>by simp at h
 | p::P,w::vs,0,m,nd,a,b,c=>by
   simp at a b;subst a;subst b;change UQ kindOf ((p,w)::P.zip vs) m p=_;unfold UQ;rw[rR λv d=>(Mw.mp nd).1 (Vk d).1,ij c];simp
 | p::P,w::vs,i+1,m,nd,a,b,c=>by
   change UQ kindOf ((p,w)::P.zip vs) m x=_;show rT (Mw.mp nd).2 (a) (b) c
abbrev start(N:ZB)(vs:hH V):St:=vs.map hY++vu (~~~N-vs.length) hV
abbrev fK(CX:CXT)(P:n7)(w:xl)(K:ZA)(mg:ZC)(base:z4)(N:ZB)(qual:ku)(scope:QB)(f:jg)(cd:iy)(A:wy)(outer:hH Env)(s:kG)(H:Hp)(E:XK):Cx where
 prog:=P
 w:=w
 K:=K
 mg:=mg
 base:=base
 A:=A.deeper (Mt qual scope ⇑s f cd)
 N:=N
 s₀:=s
 H₀:=H
 env:=Mt qual scope ⇑s f cd
 outer:=outer
 stack:=Mt qual scope ⇑s f cd::outer
 ex:=[]
 calm:=hW
 fn:=λ_=>hW
 pn:=[]
 xe:=λe s'=>vk (Mq P w) (A.deeper (Mt qual scope ⇑s f cd)) (leaving (Mt qual scope ⇑s f cd) e) (λ_ s''=>CX outer H s E e s'') (λe' s''=>CX outer H s E e' s'') s'
def vL{a:QB}{n:iv}{x:ku}(h:a.names.lookup x∣.cell):∃c,(L6 n a.names []).lookup x∣c:=by
 show Pp.mp (Qz a.names n [] (.inl h))
def AS{P:n7}{K:ZA}
 (S:ar N ps a) (J:A.handled=hV) (g:AR P w K mg base A outer s H) (T: ~~~vs= ~~~ps) (r:aK vs us)
 (x:InCallC s ⇑s (UP (Mt d a ⇑s f C).kindOf (ps.zip us) λ_=>hV) (L6 (⇑s+1) a.names []) (UQ (Mt d a ⇑s f C).kindOf (ps.zip us) λ_=>hV) L):
 Qc (fK CX P w K mg base N d a f C A outer s H E) [] (start N vs) H L:=by
 let M: ~~~ps<= ~~~N:=by let:=vj Mf S.pre;rw[Yr]at this;lia
 let%[B,tk,rfl|G]:=x.done;let l:∀b,b∉(fK CX P w K mg base N d a f C A outer s H E).ex:=λb z=>on (show b∈([])from z) ∅
 show%[%[g.mod,S.kind,ρ,ρ,Zi _,λy z c B j=>?_,λy m=>?_,λy c _ h=>?_,λ_=>J,wy.frames_deeper g.frames,.inr %[ρ|ρ],λb z=>on z (l b),g.bs,g.bsz,λb _ _=>l b,λb z=>on z (l b),g.funs|g.frf],
  rfl,g.bare,Un.kept G,%[_,x.toInCall.ns|λi y v B j U=>?_],λy c h=>%[_|x.cell y c h],g.hok.fresh (Zi _),λy c h=>?_,λp n=>on (show p∈([])from n) ∅,g.hok.kept G|?_]
 .show name_of_addr x.apart (PySem.mem_of_lookup B) (PySem.mem_of_lookup j)
 .rcases m with m|m
  .show vL m
  .show on rfl (S.nofree _ (PySem.mem_of_lookup m))
 .show Yk (x.above y c (PySem.mem_of_lookup h))
 .let hi:i< ~~~vs:=by
   unfold start at j;by_cases hi:i< ~~~vs
   .show hi
   .rw[Yd ↑hi]at j;rw[Pi]at j
    split at j<;> cases j
  let O:vs[i]?∣v:=by
   unfold start at j;rw[Yc ↑hi,Zl]at j
   simp_all
  let%[u,I|Q]:=r.get O;let n:ps[i]?∣y:=by
   rw[<-S.pre,Yg ⋯];show B
  let o:ps.Nodup:=S.pre▸S.nd.sublist (QY _ _);show%[u,Q|?_];rcases S.par y (Z8 n)with k|k
  .show .inl %[k|rS o n I k]
  .let%[c|e]:=vL k;show .inr %[.inl k,c,e|?_];let q:=x.cell y c e;rw[rT o n I (by change a.names.lookup y≠_;rw[k];decide)]at q;show q
 .show g.hok.fresh (Yk (x.above y c (PySem.mem_of_lookup h)))
 .unfold start;change _= ~~~N;rw[Z9,Z6,hH.length_replicate]
  lia
def G8{P:n7}{K:ZA}{T kV z U d ct oc:iy}
 (lk:K.lookup f=hY %[oc,od,.func (Sb name c g i a T kV z U an d ct)|ab]) (G:Qy K d c=hW) (S:ar N ps a)
 (len:∀vs H Q E,sp vs H Q E-> ~~~vs= ~~~ps)
 (l:∀(A:wy) (outer:hH Env) (s:kG) (H:Hp) (vs:hH V) (Q:VK) (E:XK),bH k (A.deeper (Mt c a ⇑s f d))->sp vs H Q E->
  ∃t,PSs (fK CX P w K mg base N c a f d A outer s H E) i t/\t {nx:=λ_ j=>Q .non j,rt:=Q} (start N vs) H):
 eM P w K mg base CX (k+1) f (Sb name c g i a T kV z U an d ct) ps sp:=by
 show%[len|λA outer s H args us vs Q E L B hb r C=>?_];let Y:=B.mod.kin.keeps λb o e=>(B.bs b o e).1
 let M:=B.mod.nolimit.keeps λb o e=>(B.bs b o e).1
 let m:∀y∈ps.zip us,a.names.lookup y.1∣_\/(a.names.lookup y.1∣_/\((L6 (⇑s+1) a.names []).lookup y.1).isSome=hW):=λ⟨n,v⟩ hy=>by
  rcases S.par n (Vk hy).1 with q|q
  .show .inl q
  .show .inr %[q|Qz _ _ _ (.inl q)]
 show codeAny_call_function L.depth (Y _ _ lk) rfl S.co S.gen rfl (PySem.W.codeRec_of Y G) (hb _ _ _ _ (wpAny_newFunctionEnv_cells S.kind m λenv he s1 x=>?_));subst he;show%[M.keeps x.toInCall.keep|codeAny_func ?_];let%[t,ht|hq]:=l A outer s H vs Q E (L.deeper _) C;let I:Qc (fK CX P w K mg base N c a f d A outer s H E) [] _ H s1:=AS S L.hd B (len _ _ _ _ C) r x;show LL (ht [] s1 _ H _ I hq) (λfl s' p=>?_) λe s' p=>p
 let fin:∀{h:St} {j:Hp} {v:V} {u:iy},Qc (fK CX P w K mg base N c a f d A outer s H E) [] h j s'->aX v u->Q v j->CE outer P w H s Q u s':=
  λ{h j v u} J O q=>%[v,j,J.os,J.bare,J.base,J.hok,O|q]
 cases fl with
 | ret u=>
   let%[v,h,j,J,O|q]:=p;show fin J O q
 | next=>
   let%[h,j,J|q]:=p;show fin (v:=V.non) J rfl q
 | brk=>
   let%[_,_,_|q]:=p
   simp_all
 | cont=>
   let%[_,_,_|q]:=p;show LR q
section
variable{X:Cx}{x:ku}{p pos:Pos}{e:G2}{es:hH G2}{t:TA}{id T:L8}{r:hH V->Hp->VK->Prop}
abbrev tCB(r:hH V->Hp->VK->Prop)(t:TA):TE:=λa H Q=>t a H λvs b=>r vs b Q
def Cw(d:cE X (.builtin id) r)(f:Gl X x)(g:X.mg x=hV)(i:MS x∣.builtin id)(j:PA X (e::es) t)(l:x≠"__name__")(a:(x==("__debug__":ku))=hX)
 (m:vi (e::es) X.env=(hX,L9 e X.env)::vi es X.env) (b:(MM pos (vi es X.env)).any (·.1)=hX):PE X (.Call (.Name x p) (e::es) [] pos) (tCB r t):=by
 intro gx s c H Q I h;show Nl (jf I f g i (PX (thP (j pos gx s c H _ I h) λus n vs o q u v=>d gx n c o vs us Q q u v) m b) l a)
def AT(d:cE X (.type T) r)(f:Gl X x)(g:X.mg x=hV)(i:MS x∣.type T)(j:PA X (e::es) t)(l:x≠"__name__")(a:(x==("__debug__":ku))=hX)
 (m:vi (e::es) X.env=(hX,L9 e X.env)::vi es X.env) (b:(MM pos (vi es X.env)).any (·.1)=hX):PE X (.Call (.Name x p) (e::es) [] pos) (tCB r t):=by
 intro gx s c H Q I h;show Nl (jf I f g i (LY (thP (j pos gx s c H _ I h) λus n vs o q u v=>d gx n c o vs us Q q u v) m b) l a)
end
end _LL
namespace _HT
open PySem PyProof.Rows
section
open PySem.SeqAt
open PySem.AutoSeq1 (wpAny_loadPart')
open PySem.MeetsSeq PySem.MeetsSeq2 PySem.MeetsSeq3
#where
abbrev sIx(n d:iv):kw ri->iv
 | none=>d
 | some v=>if v<0 then(v+n).toNat else min v.toNat n
def sIx_none(n d:iv):sIx n d hV=d:=rfl
def sIx_nat(n d k:iv):sIx n d (hY k)=min k n:=by
 change(if k<0 then((k:ri) +n).toNat else min _ n)=min k n;rw[ij ⋯,No]
end
end _HT
namespace _LL
open PySem PySem.Spec PyProof.Rows
noncomputable abbrev TO:=St->Hp->(kw ri->Hp->Prop)->Prop
abbrev PO(X:Cx)(e:kw G2)(t:TO):Prop:=
 ∀gx s (a:St) H Q,Qc X gx a H s->t a H Q->
  (X⁻¹) (evalPart e X.env) (λu s'=>∃o b,Qc X gx a b s'/\IsPart u o/\Q o b) X.xe s
abbrev uf:TO:=λ_ H Q=>Q hV H
abbrev Cy(t:TE):TO:=λa H Q=>t a H λx b=>asI x λi=>Q (hY i) b
section
variable{X:Cx}{e:G2}{te:TE}{lo hi:kw G2}{tl th:TO}{pos p2:Pos}
def FK:PO X hV uf:=by
 intro gx s a H Q I h;show Z3 %[hV,H,I,.none|h]
def FL(h:PE X e te):PO X (hY e) (Cy te):=by
 intro gx s a H Q I hw;show thP (h gx s a H _ I hw) λu g x b c d f=>?_
 let%[i,rfl|q]:=dv f;let%[t|rfl]:=d;show%[hY i,b,c,.int i t|q]
abbrev SlR(X:Cx)(r:V->kw ri->kw ri->Hp->VK->Prop):Prop:=
 ∀gx s (a:St) H x v b c lo hi d Q,Qc X gx a H s->aX x v->s.heap.IsSliceOf d b c .none->IsPart b lo->IsPart c hi->r x lo hi H Q->
  ∃T id,O5 (.type T) "__getitem__"=pure (hY (.builtin id))/\s.TypeIs v T/\(X⁻¹) (SH v (.ref d)) (EP X gx a Q) X.xe s
abbrev tSl(r:V->kw ri->kw ri->Hp->VK->Prop)(te:TE)(tl th:TO):TE:=λa H Q=>te a H λx b=>tl a b λl c=>th a c λu d=>r x l u d Q
def Cz(c:SlR X r)(d:PE X e te)(f:PO X lo tl)(g:PO X hi th):PE X (.Subscript e (.Slice lo hi hV p2) pos) (tSl r te tl th):=by
 intro gx s a H Q I h;show Te (thP (d gx s a H _ I h) λv i x j m n o=>wpAny_Slice (thP (f gx i a j _ m o) λp w l y z pl A=>thP (g gx w a y _ z A) λB C u E G J L=>Z3 ?_));let%[T,id,M,N|O]:=c gx _ a E x v p B l u ⇑C Q (G.kept λb U q=>Z7 _ q) n (Rz ..) pl J L;show tail_any N M O (by with_unfolding_all rfl)
abbrev xX(xs:hH V)(lo hi:kw ri):hH V:=(xs.drop (_HT.sIx xs.length 0 lo)).take (_HT.sIx xs.length xs.length hi-_HT.sIx xs.length 0 lo)
def vM(xs:hH V)(lo hi:kw ri): ~~~(xX xs lo hi)<= ~~~xs:=by
 unfold xX;rw[Yr,Yn]
 lia
end
abbrev ixN(n:iv)(i:ri):kw iv:=if 0<=i then(if i<n then hY i.toNat else hV)else if -n<=i then hY (i+n).toNat else hV
abbrev atI{a:Type}(xs:hH a)(i:ri):kw a:=(ixN xs.length i).bind λj=>xs[j]?
def FM(h:ixN n i∣j):seqIndex? i n∣j/\j<n/\ -(n:ri)<=i/\i<n:=by
 unfold ixN at h;by_cases b:0<=i
 .rw[ix b]at h;by_cases a:i<n
  .rw[ix a]at h;show%[by rw[seqIndex_of b a,(Za h)],⋯,⋯|a]
  simp_all
 .rw[ij b]at h;by_cases a: -n<=i
  .rw[ix a]at h;show%[by rw[seqIndex_neg ⋯ a,(Za h)],⋯,a|⋯]
  .rw[ij a]at h;cases h
def ug{a:Type}{xs:hH a}{i:ri}{v:a}(h:atI xs i∣v):∃j,seqIndex? i xs.length∣j/\xs[j]?∣v/\j< ~~~xs/\ -xs.length<=i/\i< ~~~xs:=by
 unfold atI at h;cases e:ixN xs.length i with
 | none=>simp_all
 | some j=>
   rw[e]at h;let%[b,c,d|f]:=FM e;show%[j,b,h,c,d|f]
def cS{a:Type}{xs:hH a}{j:iv}{v:a}(h:xs[j]?∣v):atI xs j∣v:=by
 let b:=(Xt h).1;let e:ixN xs.length j∣j:=by
  unfold ixN
  simp_all
 unfold atI;show e▸h
def vN(xs:hH a)(v:a):atI (xs++[v]) (-1)∣v:=by
 let b: ~~~(xs++[v])= ~~~xs+1:=by simp
 let e:ixN (xs++[v]).length (-1)∣xs.length:=by
  unfold ixN;rw[b,ij (!1),ix ⋯]
  congr 1
  lia
 unfold atI
 simp_all
abbrev nZ(b:G2):Prop:=∀o i,Sl b hX o i=operate [o,i] (SH o i)
abbrev IxR(X:Cx)(r:R2):Prop:=
 ∀b a gx s (c:St) H x y v u Q,Qc X gx c H s->aX x v->aX y u->r x y H Q->
  Sl a hX v u=operate [v,u] (SH v u)->(X⁻¹) (subscriptTail b a v u) (EP X gx c Q) X.xe s
abbrev MtR(X:Cx)(id:L8)(r:V->hH V->Hp->VK->Prop):Prop:=
 ∀gx s (a:St) H x xs v us Q,Qc X gx a H s->aX x v->aK xs us->r x xs H Q->
  (X⁻¹) (call (.builtin id) (v::us)) (EP X gx a Q) X.xe s
section
variable{X:Cx}{a b:G2}{ta tb:TE}{pos:Pos}
def CA(c:IxR X r)(d:PE X a ta)(e:PE X b tb)(f:nZ b):PE X (.Subscript a b pos) (tOp r ta tb):=by
 intro gx s g H Q I h;show Te (Il d e I h λv u i x y j l m n q=>c a b gx i g j x y v u Q l m n q (f _ _))
abbrev IF(K:ZA):R2:=λx y H Q=>asR x λp=>asI y λi=>∃xs,Qb K H p xs/\∃v,atI xs i∣v/\Q v H
abbrev IG(K:ZA):R2:=λx y H Q=>asR x λp=>asI y λi=>∃xs,SqT K H p xs/\∃v,atI xs i∣v/\Q v H
abbrev IH:R2:=λx y H Q=>asS x λz=>asI y λi=> ~~~z<=lp/\∃c,atI z.cps.toList i∣c/\Q (.str ⟨#[c]⟩) H
def FN:IxR X (IF X.K):=by
 intro d e gx s A H x y v u Q I B C h m;let%[p,rfl|f]:=aN h;let%[i,rfl,xs,E,z,G|q]:=dv f;cases B;let%[t|rfl]:=C;let%[its,r,pl|N]:=I.list E;let%[j,c,f,O,J|L]:=ug G;let%[w,n|g]:=r.get f;let M:= ~~~r;let T:=xP;let fin:EP X gx A Q w s:=%[z,H,I,g|q]
 by_cases o:0<=i
 .let l:=by
   rw[seqIndex_of o L]at c;show Za c
  show item_listR pl.isList o ⋯ (by rw[l];simpa using n) fin m
 .let l:(i+its.toArray.size).toNat=j:=by
   rw[seqIndex_neg ⋯ J]at c;rw[Zp,<-M];show Za c
  show T2 pl.isList.typeIs RE.lookup
   (wpAny_getItem_list_neg pl.isList ⋯ (!2) ⋯ (by rw[l];simpa using n) %[rfl|fin]) m
def II:IxR X (IG X.K):=by
 intro c d gx s g H x y v u Q I l m h n;let%[p,rfl|e]:=aN h;let%[i,rfl,xs,o,z,A|q]:=dv e;cases l;let%[t|rfl]:=m;let%[its,r,pl|E]:=I.tuple o;let%[j,B,e,G,J|L]:=ug A;let%[w,C|f]:=r.get e;let M:=xP;let fin:EP X gx g Q w s:=%[z,H,I,f|q]
 show T2 pl.typeIs slot_tuple_getitem.lookup
  (getItem_tuple pl ⋯ ⋯ (by rw[Zp,<-r.length];show B) ↑C %[rfl|fin]) n
def IJ:IxR X IH:=by
 intro d e gx s C H x y v u Q I m n h o;let%[z,rfl|f]:=dS h;let%[i,rfl|g]:=dv f;let%[E,c,p|q]:=g;let%[t|rfl]:=m;let%[t'|rfl]:=n;let%[j,l,r,G,w|A]:=ug p;let B: ~~~z.cps.toList= ~~~z:=by simp[Ub]
 rw[B]at l w A;let J:=xP;show tail_any (NZ s z t) slot_str_getitem.lookup (getItem_str (by
  lia) (by rw[l];simpa using r) %[.str _,H,I.tok _,%[_|rfl]|q]) o
def uh(lo hi:kw ri)(n:iv):(Nk lo hi hV n).1=((_HT.sIx n 0 lo:iv):ri)/\(Nk lo hi hV n).2.1=((_HT.sIx n n hi:iv):ri)/\(Nk lo hi hV n).2.2=1:=by
 show%[?_,?_|ρ]
 .cases lo with
  | none=>simp[Nk,_HT.sIx]
  | some i=>
    simp only[Nk,_HT.sIx,getD_none,show(1:ri)>0 by decide,Pq];by_cases h:i<0
    .simp only[h,Pq]<;> lia
    .simp only[h,NE]<;> lia
 .cases hi with
  | none=>simp[Nk,_HT.sIx]
  | some i=>
    simp only[Nk,_HT.sIx,getD_none,show(1:ri)>0 by decide,Pq];by_cases h:i<0
    .simp only[h,Pq]<;> lia
    .simp only[h,NE]<;> lia
def qP(its:ZF)(lo hi:kw ri):V9 its.toArray lo hi hV=((its.drop (_HT.sIx its.length 0 lo)).take (_HT.sIx its.length its.length hi-_HT.sIx its.length 0 lo)).toArray:=by
 let%[c,d|e]:=uh lo hi its.toArray.size;unfold V9;rw[c,d,e];simp only[sliceRange_one,pick_run]<;> rfl
abbrev IK(K:ZA):V->kw ri->kw ri->Hp->VK->Prop:=λx lo hi H Q=>asR x λa=>∃xs,Qb K H a xs/\∀p,H p=hV->Q (.ref p) (Qa H p (.lst (xX xs lo hi)))
def FO:SlR X (IK X.K):=by
 intro gx s m H x v n o lo hi p Q I f g pl i h;let%[a,rfl|d]:=aN h;let%[xs,j|q]:=d;cases f;let%[its,r,e|l]:=I.list j;let c:= ~~~r;show%["list",_,RE.lookup,e.isList.typeIs|Tt e.isList g pl i .none ∅ ?_ (!2)];rw[qP,<-c];show%[.ref ⇑s,_,I.laid (λb u q=>Z7 _ q) (Zi _) ?_,ρ|q _ (I.hok.fresh (Zi _))];show%[Ym (vM xs lo hi) l,_,0,(r.drop _).take _|Zj _ rfl]
abbrev jY:V->su
 | .non=>hW
 | .bl _=>hW
 | .int _=>hW
 | .str _=>hW
 | _=>hX
abbrev eqV:V->V->su
 | .non,.non=>hW
 | .bl a,.bl b=>a==b
 | .bl a,.int b=>(if a then 1 else 0)==b
 | .int a,.bl b=>a==(if b then 1 else 0)
 | .int a,.int b=>a==b
 | .str a,.str b=>a==b
 | _,_=>hX
def CB(d:aX y u)(c:aX x v)(f:jY y=hW)(e:jY x=hW):LN A s u v (eqV y x):=by
 cases y with
 | non=>
   cases d;cases x with
   | non=>cases c;show SA _
   | bl b=>cases c;show LN.none_bool b
   | int b=>have%[t|rfl]:=c;show LN.none_int b t
   | str b=>have%[t|rfl]:=c;show LN.none_str b t
   | _=>show on (show hX=hW from e) Zu
 | bl a=>
   cases d;cases x with
   | non=>cases c;show LN.bool_none a
   | bl b=>cases c;show LN.bool_bool a b
   | int b=>have%[t|rfl]:=c;show LN.bool_int a b t
   | str b=>have%[t|rfl]:=c;show LN.bool_str a b t
   | _=>show on (show hX=hW from e) Zu
 | int a=>
   let%[t'|rfl]:=d;cases x with
   | non=>cases c;show LN.int_none a t'
   | bl b=>cases c;show LN.int_bool a t' b
   | int b=>have%[t|rfl]:=c;show LN.int_int a t' b t
   | str b=>have%[t|rfl]:=c;show Ss a t' b t
   | _=>show on (show hX=hW from e) Zu
 | str a=>
   let%[t'|rfl]:=d;cases x with
   | non=>cases c;show LN.str_none a t'
   | bl b=>cases c;show LN.str_bool a t' b
   | int b=>have%[t|rfl]:=c;show Sr a t' b t
   | str b=>have%[t|rfl]:=c;show LN.str_str a t' b t
   | _=>show on (show hX=hW from e) Zu
 | _=>show on (show hX=hW from f) Zu
abbrev eqU(x:V)(u:iy):su:=match u with
 | .none=>eqV .non x
 | .bool b=>eqV (.bl b) x
 | .int i _=>eqV (.int i) x
 | .str z _=>eqV (.str z) x
 | _=>hX
def CC(r:aX y u)(f:jY y=hW):eqU x u=eqV y x:=by
 cases y with
 | non=>cases r;rfl
 | bl b=>cases r;rfl
 | int i=>have%[t|rfl]:=r;rfl
 | str z=>have%[t|rfl]:=r;rfl
 | _=>show on (show hX=hW from f) Zu
def kQ:∀{xs:hH V} {us:ZF},aK xs us->xs.all jY=hW->us.any (eqU x)=xs.any λy=>eqV y x
 | _,_,.nil,_=>rfl
 | y::xs,u::us,.cons r t,f=>by
   rw[WL,Zx]at f;rw[Zy,Zy,CC r f.1,kQ t f.2]
def jj(d:aX x v)(e:jY x=hW):∀{xs:hH V} {us:ZF},aK xs us->xs.all jY=hW->∀u∈us,LN A s u v (eqU x u)
 | _,_,.nil,_=>λu c=>by cases c
 | y::xs,u::us,.cons r t,f=>λg c=>by
   rw[WL,Zx]at f;rcases X2.mp c with rfl|c
   .rw[CC r f.1];show CB r d f.1 e
   .show jj d e t f.2 g c
abbrev inV(x:V)(xs:hH V):su:=xs.any λy=>eqV y x
abbrev rIn(K:ZA)(c:su):R2:=λx y H Q=>asR y λp=>∃xs,(Qb K H p xs\/SqT K H p xs)/\jY x=hW/\xs.all jY=hW/\Q (.bl (bif c then !inV x xs else inV x xs)) H
def rV:OpR X (pw .In) (rIn X.K hX):=by
 intro gx s j H x y v u Q I e g h;let%[p,rfl|d]:=aN h;let%[xs,c,f,fs|q]:=d;cases g;rcases c with c|c
 .let%[its,r,pl|i]:=I.list c;show SeqAt.in_listAt _ pl.isList (λw hw=>jj e f r fs w ↑hw) %[.bl _,H,I,rfl|?_];rw[show its.toArray.any _=its.any (eqU x) by simp,kQ r fs];show q
 .let%[its,r,pl|i]:=I.tuple c;show SeqAt.in_tupleAt _ pl (λw hw=>jj e f r fs w ↑hw) %[.bl _,H,I,rfl|?_];rw[show its.toArray.any _=its.any (eqU x) by simp,kQ r fs];show q
def ui:OpR X (pw .NotIn) (rIn X.K hW):=by
 intro gx s j H x y v u Q I e g h;let%[p,rfl|d]:=aN h;let%[xs,c,f,fs|q]:=d;cases g;rcases c with c|c
 .let%[its,r,pl|i]:=I.list c;show SeqAt.notIn_listAt _ pl.isList (λw hw=>jj e f r fs w ↑hw) %[.bl _,H,I,rfl|?_];rw[show its.toArray.any _=its.any (eqU x) by simp,kQ r fs];show q
 .let%[its,r,pl|i]:=I.tuple c;show SeqAt.notIn_tupleAt _ pl (λw hw=>jj e f r fs w ↑hw) %[.bl _,H,I,rfl|?_];rw[show its.toArray.any _=its.any (eqU x) by simp,kQ r fs];show q
def uj:OpR X (pw .NotIn) (λx y H Q=>asS x λi=>asS y λj=>Q (.bl (!(!(LA j i 0 j.length 1).isEmpty))) H):=by
 intro gx s g H x y v u Q I e f h;let%[i,rfl|c]:=dS h;let%[j,rfl|d]:=dS c;let q:=d;let%[t|rfl]:=e;let%[t'|rfl]:=f;show notIn_str %[.bl _,H,I,rfl|q]
def uk:cE X (.type "list") (λxs H Q=>oneA xs λA=>asR A λp=>∃ys,(Qb X.K H p ys\/SqT X.K H p ys)/\∀l,H l=hV->Q (.ref l) (Qa H l (.lst ys))):=by
 intro gx s C H xs us Q I r h;let%[A,rfl|m]:=bM h;let%[p,rfl|v]:=aN m;let%[ys,f|q]:=v;let%[u,rfl|E]:=dw r;cases E;let fin:∀its,aK ys its-> ~~~ys<=lp->∀h' d,(∀b B,s.heap.get? b∣B->h'.get? b∣B)->
  h'.get? ⇑s∣_->EP X gx C Q _ (s>>>h'):=λits c g h' d i e=>
  %[.ref ⇑s,_,I.laid i (Zi _) (show cD X.prog X.w _ h' _ (.lst ys)from%[g,its,d,c|e]),rfl|q _ (I.hok.fresh (Zi _))]
 rcases f with f|f
 .let%[its,c,pl|g]:=I.list f;let j:= ~~~c;let%[o,w,y,n|z]:=pl.isList;show call_list_seq p (.inl rfl) w y z (λh' d i e=>fin its c g h' d i e) (by simp only[Zp]<;> lia)
 .let%[its,c,pl|g]:=I.tuple f;let j:= ~~~c;let%[o,w,y,n|z]:=pl;show call_list_seq p (.inr rfl) w y z (λh' d i e=>fin its c g h' d i e) (by simp only[Zp]<;> lia)
abbrev tyV(K:ZA)(T:L8)(x:V)(H:Hp):Prop:=match x with
 | .str _=>T="str"
 | .int _=>T="int"
 | .ref p=>(T="list"/\∃xs,Qb K H p xs)\/(T="tuple"/\∃o,K.lookup p∣o/\o.cls= .type "tuple"/\o.dict=hV)\/
  (T="dict"/\((∃c,H p∣.dK c)\/∃c,H p∣.dT c))\/(T="set"/\∃S n,H p∣.set S n)
 | _=>LG
def CD(I:Qc X gx q H s)(r:aX x v)(ty:tyV X.K T x H):
 s.TypeIs v T/\∀a,v= .ref a->∃j,s.heap.get? a∣j/\j.dict=hV:=by
 cases x with
 | str z=>
   let%[t|rfl]:=r;cases(show T="str" from ty);show%[NZ s z t|λ_ e=>nomatch e]
 | int i=>
   let%[t|rfl]:=r;cases(show T="int" from ty);show%[Vi s i t|λ_ e=>nomatch e]
 | ref p=>
   cases r;rcases ty with⟨rfl,xs,l⟩|⟨rfl,o,d,m,f⟩|⟨rfl,d⟩|⟨rfl,S,n,d⟩
   .let%[its,_,pl|_]:=I.list l;show%[pl.isList.typeIs|λa e=>?_];cases e;let%[o,n,e,c,f|_]:=pl;show%[o,e|f]
   .show%[%[o,I.kIn p o d|m]|λa e=>?_];cases e;show%[o,I.kIn _ o d|f]
   .let z:∃o,s.heap.get? p∣o/\o.ExactDict:=by
     rcases d with⟨g,d⟩|⟨g,d⟩
     .let%[_,_,_,_,o,_,_,e,ex|_]:=I.hok p _ d;show%[o,e|ex]
     .let%[_,_,_,_,o,_,_,e,ex|_]:=I.hok p _ d;show%[o,e|ex]
    let%[o,e|ex]:=z;show%[%[o,e|ex.1]|λa h=>?_];cases h;show%[o,e|ex.2.1]
   .let%[o,_,_,_,e,ex|_]:=I.hok p _ d;show%[%[o,e|ex.1]|λa h=>?_];cases h;show%[o,e|ex.2.1]
 | _=>show LR ty
abbrev FP(K:ZA)(T:L8)(r:V->hH V->Hp->VK->Prop)(d:TE):TE:=λe H Q=>d e H λx c=>tyV K T x c/\r x [] c Q
abbrev tBM(K:ZA)(T:L8)(r:V->hH V->Hp->VK->Prop)(e:TE)(t:TA):TE:=λc H Q=>e c H λx d=>tyV K T x d/\t c d λxs f=>r x xs f Q
variable{o e:G2}{es:hH G2}{to:TE}{t:TA}{name:ku}{apos cpos:Pos}{T id:L8}{r:V->hH V->Hp->VK->Prop}
def IL(l:Oz T)(slot:Slot T name id)(f:OM (.builtin id)=pure (.type "method_descriptor"))(m:MtR X id r)(n:PE X o to)
 (c:Mx o name X.env (L9 o X.env)=L9 o X.env) (d:(apos.endLine==cpos.line)=hW):PE X (.Call (.Attribute o name apos) [] [] cpos) (FP X.K T r to):=by
 intro gx s g H Q I h;show wpAny_Call_method0_late c d (thP (n gx s g H _ I h) λv p x q i j ⟨ty,u⟩=>?_);let%[w|y]:=CD i j ty;show%[T,id,l,slot,f,w,y|SB rfl (PySem.evalArgs_none (m gx p g q x [] v [] Q i j .nil u))]
def KD(p:Oz T)(slot:Slot T name id)(i:OM (.builtin id)=pure (.type "method_descriptor"))(q:MtR X id r)(u:PE X o to)(w:PA X (e::es) t)
 (d:Mx o name X.env (L9 o X.env)=L9 o X.env)
 (g:((MM cpos (vi (e::es) X.env)).all (λx=>!x.1)&&(Pe cpos (ND [] X.env)).all (λx=>x.1.isSome)
  && decide (~~~(e::es)+ ~~~([]:hH Om)+(if([]:hH Om).isEmpty then 0 else 1)<30))=hW)
 (f:(apos.endLine==cpos.line)=hW) (y:vi (e::es) X.env=(hX,L9 e X.env)::vi es X.env) (c:(MM cpos (vi es X.env)).any (·.1)=hX):
 PE X (.Call (.Attribute o name apos) (e::es) [] cpos) (tBM X.K T r to t):=by
 intro gx s j H Q I h;show wpAny_Call_method_late d g f rfl (thP (u gx s j H _ I h) λv z x A l m ⟨ty,B⟩=>?_);let%[C|E]:=CD l m ty;show%[T,id,p,slot,i,C,E|?_];let n:=w cpos gx z j A _ l B;rw[y]at n ⊢;show SB (by change(hX||(MM cpos _).any _)=hX;rw[c]<;> rfl) (Calls.evalArgs_plain (thn n λus G ⟨vs,J,L,M,N⟩=>q gx G j J x vs v us Q L m M N))
end
abbrev MtM(X:Cx)(id:L8)(r:V->hH V->Hp->VK->Prop):Prop:=
 ∀gx s (a:St) H x xs v us Q,Qc X gx a H s->aX x v->aK xs us->r x xs H Q->
  (X⁻¹) (call (.builtin id) (v::us)) (EP X gx a Q) X.xe s
def aK.one:∀{x:V} {us:ZF},aK [x] us->∃u,us=[u]/\aX x u
 | _,_,.cons r .nil=>%[_,rfl|r]
def aK.zero:∀{us:ZF},aK [] us->us=[]
 | _,.nil=>rfl
def aK.eraseIdx:∀{xs:hH V} {us:ZF} i,aK xs us->aK (xs.eraseIdx i) (us.eraseIdx i)
 | _,_,_,.nil=> .nil
 | _,_,0,.cons _ t=>t
 | _,_,i+1,.cons r t=> .cons r (aK.eraseIdx i t)
def aK.reverse(h:aK xs us):aK xs.reverse us.reverse:=by
 induction h with
 | nil=>show .nil
 | cons r t a=>rw[QZ,QZ];show aK.append a (.cons r .nil)
def aK.rep(h:aK xs us):∀k:iv,aK (vu k xs).flatten (vu k us).flatten
 | 0=> .nil
 | k+1=>by
   show aK.append h (aK.rep h k)
def rW:∀(l:hH a) (i:iv),~~~(l.eraseIdx i)<= ~~~l
 |[],_=>Zi _
 | _::_,0=>Yl _
 | _::r,i+1=>Xf (rW r i)
def rX(its:ZF):∀k acc,
 TX (λa x2=>a++x2) acc.toArray (vu k its.toArray)=(acc++(vu k its).flatten).toArray
 | 0,acc=>by simp
 | k+1,acc=>by
   let e:acc.toArray++its.toArray=(acc++its).toArray:=by simp
   let b:(acc++its) ++(vu k its).flatten=acc++(vu (k+1) its).flatten:=by
    rw[Qt,Uf,Ze]
   rw[<-b,<-rX its k _,<-e,Qt,Yb]
section
#version
variable{l b:jg}{xs ys zs:hH V}
def Qc.lset{its its':ZF}{n:iv}{f:ZJ->ZJ}{t':iv}(I:Qc X gx σ H s)(a:H l<*xs)
 (e:s.heap.get? l=hY {cls:= .type "list",data:= .seq its.toArray n}) (c:f its.toArray=its'.toArray) (d:aK ys its') (g: ~~~ys<=lp):
 Qc X gx σ (Qa H l (.lst ys)) {s with heap:=s.heap.update l (MT f),toks:=t'}:=by
 let q:=PySem.IsL.update e f;rw[c]at q;show I.write (a▸trivial) (.inl rfl) (λj u h i=>(LQ s.heap _ (Lx h)).trans i) %[_|q] ?_;show%[g,its',_,d|q]
def Qc.lnew(I:Qc X gx σ H s)(a:aK ys its)(c: ~~~ys<=lp):
 Qc X gx σ (Qa H ⇑s (.lst ys)) {s with heap:=s.heap.push {cls:= .type "list",data:= .seq its.toArray},toks:=t'}:=
 I.laid (λ_ _ q=>Z7 _ q) (Zi _) %[c,its,0,a|Zj _ rfl]
def Qc.fresh(I:Qc X gx σ H s):H ⇑s=hV:=I.hok.fresh (Zi _)
def Qc.lstM(I:Qc X gx σ H s)(a:H l<*xs): ~~~xs<=lp/\∃its n,aK xs its/\ ~~~xs= ~~~its/\s.heap.get? l=hY {cls:= .type "list",data:= .seq its.toArray n}:=by
 let%[z,its,n,r|e]:=I.hok l _ a;show%[z,its,n,r,~~~r|e]
def vO{n:iv}(h:n<=lp):Np n=hX:=by
 unfold Np
 simp_all
end
section
variable{X:Cx}
abbrev uo:V->hH V->Hp->VK->Prop:=λx vs H Q=>asR x λl=>oneA vs λy=>∃xs,H l<*xs/\ ~~~xs<lp/\Q .non (Qa H l (.lst (xs++[y])))
def rY:MtM X "list.append" uo:=by
 intro gx s g H x vs v us Q I b c h;let%[l,rfl|d]:=aN h;let%[y,rfl,xs,a,i|q]:=bM d;cases b;let%[u,rfl|f]:=c.one;let%[z,its,n,r,j|e]:=I.lstM a;show N2 F.slot_list_append %[_,e|rfl] F.entry_list_append (F.args_list_append_2 _ _) (PySem.list_append l its.toArray n u (!2)) %[e,.non,_,I.lset a e ∅ (r.append (.cons f .nil)) ?_,rfl|q];rw[Z9,Yq]
 lia
abbrev uq:V->hH V->Hp->VK->Prop:=λx vs H Q=>asR x λl=>oneA vs λa=>asR a λb=>∃xs,H l<*xs/\∃zs,H b<*zs/\ ~~~xs+ ~~~zs<=lp/\Q .non (Qa H l (.lst (xs++zs)))
def AU:MtM X "list.extend" uq:=by
 intro gx s C H x vs v us Q I j m h;let%[l,rfl|c]:=aN h;let%[E,rfl|d]:=bM c;let%[b,rfl|f]:=aN d;let%[xs,i,zs,o,G|q]:=f;cases j;let%[u,rfl|p]:=m.one;cases p;let%[z,its,n,r,J|e]:=I.lstM i;let%[L,its2,w,y,A|B]:=I.lstM o;let g:its.toArray.size+its2.toArray.size<=lp:=!2
 let a: ¬ (!its.toArray.isEmpty&&Np (its.toArray.size+its2.toArray.size))=hW:=by
  rw[vO g,Mv];show Zu
 show N2 F.slot_list_extend %[_,e|rfl] F.entry_list_extend (F.args_list_extend_2 _ _)
  (AutoSeq1.list_extend_list_list_0 l its.toArray n b its2.toArray w a ⋯ ⋯) %[e,B,.non,_,I.lset i e ∅ (r.append y) ?_,rfl|q]
 simp_all
abbrev xY:V->hH V->Hp->VK->Prop:=λx vs H Q=>asR x λl=>HL vs (∃xs,H l<*xs/\Q .non (Qa H l (.lst [])))
def CF:MtM X "list.clear" xY:=by
 intro gx s i H x vs v us Q I f g h;let%[l,rfl|a]:=aN h;let%[rfl|b]:=HN a;let%[xs,d|q]:=b;cases f;let c:=g.zero;subst c;let%[z,its,n,r,j|e]:=I.lstM d;show N2 F.slot_list_clear %[_,e|rfl] F.entry_list_clear (F.args_list_clear_1 _) (AutoSeq1.list_clear_list_0 l its.toArray n (by rw[Zp];lia)) %[e,.non,_,I.lset d e rfl .nil (Xl _),rfl|q]
abbrev IM:R2:=λx y H Q=>asR x λl=>asR y λb=>∃xs,H l<*xs/\∃zs,H b<*zs/\ ~~~xs+ ~~~zs<=lp/\∀p,H p=hV->Q (.ref p) (Qa H p (.lst (xs++zs)))
def IP:OpR X (Mi .Add) IM:=by
 intro gx s w H x y v u Q I d f h;let%[l,rfl|a]:=aN h;let%[b,rfl|c]:=aN a;let%[xs,g,zs,i,A|q]:=c;cases d;cases f;let%[z,its,n,r,B|e]:=I.lstM g;let%[C,its2,E,j,m|o]:=I.lstM i;show PySem.P.add_list e o ?_ (by rw[Zp,Zp];lia);let p:its.toArray++its2.toArray=(its++its2).toArray:=by simp
 rw[p];show%[.ref _,_,I.lnew (r.append j) (by rw[Z9];lia),ρ|q _ I.fresh]
abbrev IQ:R2:=λx y H Q=>asR x λl=>asI y λk=>∃xs,H l<*xs/\ -(2^63)<=k/\k<2^63/\ ~~~xs*k.toNat<=lp/\∀p,H p=hV->Q (.ref p) (Qa H p (.lst (vu k.toNat xs).flatten))
def FQ(xs:hH a)(k:iv):(vu k xs).flatten.length=k* ~~~xs:=by
 simp
def IR:OpR X (Mi .Mult) IQ:=by
 intro gx s J H x y v u Q I w A h;let%[l,rfl|i]:=aN h;let%[k,rfl|j]:=dv i;let%[xs,B,C,E,p|q]:=j;cases w;let%[t|rfl]:=A;let%[z,its,n,r,G|e]:=I.lstM B;let c:its.toArray.size*k.toNat<=lp:=by rw[Zp,<-G];show p
 let d: ¬ its.toArray.size*k.toNat>(2^63-1)/8:=by
  let:lp<=(2^63-1)/8:=!1
  lia
 let f: ¬ (!Builtin.List.listFitsIndex k)=hW:=by
  rw[fitsIndex_both C E];show Zu
 let b: ¬ Np (its.toArray.size*k.toNat)=hW:=by
  rw[vO c];show Zu
 let g:TX (λo x2=>o++x2) #[] (vu (if its.toArray.isEmpty=hW then 0 else k.toNat) its.toArray)=(vu k.toNat its).flatten.toArray:=by
  let L:∀m,TX (λo x2=>o++x2) #[] (vu m its.toArray)=(vu m its).flatten.toArray:=λm=>by
   let:=rX its m []
   simp_all
  cases its with
  | nil=>simp
  | cons a M=>simp_all
 show wpAny_binaryOp_repeat_ref (!1) %[_,e|rfl] (λs'=>Vi s' k t) noFill_list_mul F.fills_int_mul VW repeat_list F.slot_int_index.lookup
  (N2 VW (Vi s k t) F.entry_int_rmul (F.args_int_rmul_2 _ _) (int___rmul___int_list k t l its.toArray n)
   %[e,rfl,%[_,e|rfl]|N2 F.slot_list_mul %[_,e|rfl] F.entry_list_mul (F.args_list_mul_2 _ _) (AutoListH.list___mul___list_int_3 l its.toArray n k t f d b) %[e|?_]])
 rw[g];show%[.ref _,_,I.lnew (r.rep k.toNat) (by rw[FQ,iv.mul_comm];show p),ρ|q _ I.fresh]
#where
end
section
variable{κ:Type}[LV κ]
abbrev bI(a:hH (κ×V))(k:κ):kw V:=(a.find? λb=>decide (b.1=k))\2
abbrev db(a:hH (κ×V))(k:κ)(v:V):hH (κ×V):=
 if(a.any λb=>decide (b.1=k))=hW then a.map (λb=>if b.1=k then(b.1,v)else b)else a++[(k,v)]
def eN{p:κ×V}{r:hH _}{k:κ}(e:p.1=k):bI (p::r) k∣p.2:=by simp[bI,e]
def di{p:κ×V}{r:hH _}{k:κ}(e: ¬ p.1=k):bI (p::r) k=bI r k:=by simp[bI,e]
def ii(k:κ):∀a,(a.any λb=>decide (b.1=k))=(bI a k).isSome
 |[]=>rfl
 | p::r=>by
   rw[Zy];by_cases e:p.1=k
   .simp only[eN e,Zf e,SQ,kw.isSome_some]
   .rw[di e,Zh e,Sv];show ii k r
def gA(a:hH _)(k:κ)(v:V): ~~~(db a k v)<= ~~~a+1:=by
 unfold db
 split
 .simp
 simp_all
def dW{k:κ}(v:V)(h:bI a k=hV):db a k v=a++[(k,v)]:=by
 unfold db;rw[ii,h];show ij (!1)
def gW.isSome_eq(r:gW o u):o.isSome=u.isSome:=by
 cases o with
 | none=>cases u with
   | none=>rfl
   | some _=>show(r).elim
 | some _=>cases u with
   | none=>show(r).elim
   | some _=>rfl
def gW.getD{o:kw V}{u:kw iy}{d:V}{a:iy}(r:gW o u)(b:aX d a):aX (o.getD d) (u.getD a):=by
 cases o with
 | none=>cases u with
   | none=>show b
   | some _=>show(r).elim
 | some _=>cases u with
   | none=>show(r).elim
   | some _=>show r
def KV.val{vs:hH (κ×iy)}(r:KV a vs)(k:κ):gW (bI a k) (RD vs k):=by
 induction r with
 | nil=>show LW
 | @cons p q ps qs h t f=>
   let%[d|g]:=h;by_cases e:p.1=k
   .let c:=d.symm.trans e;let b:RD (q::qs) k∣q.2:=by simp[RD,c]
    rw[eN e,b];show g
   .let c: ¬ q.1=k:=λz=>e (d.trans z)
    let b:RD (q::qs) k=RD qs k:=by simp[RD,c]
    rw[di e,b];show f
def KV.any(r:KV a vs)(k:κ):(a.any λb=>decide (b.1=k))=vs.any λb=>decide (b.1=k):=by
 induction r with
 | nil=>rfl
 | cons h t c=>simp_all
def KV.repl(r:KV c vs)(k:κ)(d:aX y u):
 KV (c.map λa=>if a.1=k then(a.1,y)else a) (vs.map λa=>if a.1=k then(a.1,u)else a):=by
 induction r with
 | nil=>show .nil
 | @cons p q ps qs h t f=>
   rw[Yw,Yw];show .cons ?_ f;let%[b|g]:=h;by_cases e:p.1=k
   .rw[ix e,ix (b.symm.trans e)];show%[b|d]
   .rw[ij e,ij (λz=>e (b.trans z))];show%[b|g]
def KV.put(r:KV a vs)(k:κ)(b:aX y u):KV (db a k y) (stored vs k u):=by
 unfold db stored;rw[r.any k];by_cases e:(vs.any λc=>decide (c.1=k))=hW
 .rw[ix e,ix e];show r.repl k b
 .rw[ij e,ij e];show Paired.snoc r %[rfl|b]
def KV.keys{a:hH (κ×V)}{vs:hH (κ×iy)}(r:KV a vs):a\1=vs\1:=by
 induction r with
 | nil=>rfl
 | cons h t b=>simp_all
def KV.length{a:hH (κ×V)}{vs:hH _}(r:KV a vs): ~~~a= ~~~vs:=Paired.length r
end
def om{P:n7}(r:aX (kV k) u):(aU P w).is k u=hW:=by
 cases k with
 | inl i=>have%[t|e]:=(r);subst e;show vG P w i t
 | inr x=>have%[t|e]:=(r);subst e;show vH P w x t
def rZ{P:n7}:∀{ks:hH Key} {us:ZF},aK (ks.map kV) us->ItemsAre (aU P w) ks us
 |[],_,r=>by cases r;show .nil
 | k::ks,_,r=>by
   cases r with
   | cons h t=>show .cons (om h) (rZ t)
noncomputable abbrev KT(H:Hp):hH (hH Key×V)->hH (hH Key×jg×iy)->Prop:=Paired λp q=>p.1=q.1/\H q.2.1&&&p.1.map kV/\aX p.2 q.2.2
def KT.val{a:hH (hH Key×V)}{xs:hH (hH Key×jg×iy)}(r:KT H a xs)(k:hH Key):gW (bI a k) ((TN xs k)\2):=by
 induction r with
 | nil=>show LW
 | @cons p q ps qs h t f=>
   let%[d,_|g]:=h;by_cases e:p.1=k
   .let c:=d.symm.trans e;let b:TN (q::qs) k∣q.2:=by simp[TN,c]
    rw[eN e,b];show g
   .let c: ¬ q.1=k:=λz=>e (d.trans z)
    let b:TN (q::qs) k=TN qs k:=by simp[TN,c]
    rw[di e,b];show f
def KT.repl(r:KT H b xs)(k:hH Key)(f:aX y u):
 KT H (b.map λc=>if c.1=k then(c.1,y)else c) (xs.map (putAt k u)):=by
 induction r with
 | nil=>show .nil
 | @cons p q ps qs h t g=>
   rw[Yw,Yw];show .cons ?_ g;let%[a,d|i]:=h;unfold putAt;by_cases e:p.1=k
   .rw[ix e,ix (a.symm.trans e)];show%[a,d|f]
   .rw[ij e,ij (λz=>e (a.trans z))];show%[a,d|i]
def KT.put(r:KT H a xs)(k:hH Key)(d:H b&&&k.map kV)(c:aX y u):
 KT H (db a k y) (storedH xs k b u):=by
 let e:(a.any λf=>decide (f.1=k))=(TN xs k).isSome:=by
  rw[ii,(r.val k).isSome_eq,Vn]
 unfold db storedH;rw[e];by_cases q:(TN xs k).isSome=hW
 .rw[ix q,ix q];show r.repl k c
 .rw[ij q,ij q];show Paired.snoc r %[rfl,d|c]
def KT.keeps(r:KT H a xs)(c:∀b ys,H b&&&ys->d b&&&ys):KT d a xs:=
 Paired.mapP r λ_ _ z=>%[z.1,c _ _ z.2.1|z.2.2]
section
variable{P:n7}{w:xl}{H:Hp}{h:z4}{a:jg}
def G9(ok:HOk P w H h)(e:Rd H a u):cD P w H h a u:=e.ok ok
def r9(ok:HOk P w H h)(e:Rd H a (.dK b)): ~~~b<=lp/\(a==MY)=hX/\∃vs,KV b vs/\h.DictOf (aU P w) a vs:=
 G9 ok e
def mY(ok:HOk P w H h)(e:H a∣.dK b): ~~~b<=lp/\(a==MY)=hX/\∃vs,KV b vs/\h.DictOf (aU P w) a vs:=r9 ok (.inl e)
def oq(ok:HOk P w H h)(e:H a&&&ks.map kV):(R8 (aU P w)).is h ks a:=by
 let%[_,its,r,o,b,c,n|d]:=(ok a _ e)
 show%[o,its.toArray,n,b,c,d|rZ r]
def vP(ok:HOk P w H h)(e:Rd H a (.dT b)): ~~~b<=lp/\(a==MY)=hX/\
 ∃xs,KT H b xs/\h.DictOfH (R8 (aU P w)) a xs:=by
 let%[z,y,xs,r,o,d,f,g,i,j,n|s]:=(G9 ok e)
 show%[z,y,xs,r,o,d,f,g,i,j,n,λx c=>?_|s];let all:∀{l:hH _} {m:hH _},KT H l m->∀x∈m,(R8 (aU P w)).is h x.1 x.2.1:=by
  intro l m q
  induction q with
  | nil=>simp
  | @cons p q ps qs v t u=>
    intro x c;rcases X2.mp c with e|c
    .show oq ok (!2)
    .show u x c
 show all r x c
def Hf(ok:HOk P w H h)(e:H a∣.dT b): ~~~b<=lp/\(a==MY)=hX/\
 ∃xs,KT H b xs/\h.DictOfH (R8 (aU P w)) a xs:=vP ok (.inl e)
end
abbrev cu(H:Hp)(a:jg)(y:V)(r:kw V):Prop:=
 (∃c k,Rd H a (.dK c)/\y=kV k/\r=bI c k)\/∃c k b,Rd H a (.dT c)/\y= .ref b/\H b&&&k.map kV/\r=bI c k
abbrev fM(H:Hp)(a:jg)(y v:V)(d:Hp):Prop:=
 (∃c k,H a∣.dK c/\y=kV k/\ ~~~c<lp/\d=Qa H a (.dK (db c k v)))\/
 ∃c k b,H a∣.dT c/\y= .ref b/\H b&&&k.map kV/\ ~~~c<lp/\d=Qa H a (.dT (db c k v))
def cu.k{k:Key}(e:H a∣.dK b):cu H a (kV k) (bI b k):= .inl %[b,k,.inl e,rfl|rfl]
def fM.k{k:Key}(e:H a∣.dK b)(c: ~~~b<lp):fM H a (kV k) v (Qa H a (.dK (db b k v))):= .inl %[b,k,e,rfl,c|rfl]
def fM.t{c:hH (hH Key×V)}{k:hH Key}(e:H a∣.dT c)(d:H b&&&k.map kV)(f: ~~~c<lp):
 fM H a (.ref b) v (Qa H a (.dT (db c k v))):= .inr %[c,k,b,e,rfl,d,f|rfl]
section
#version
variable{a:jg}{y v:V}{u r:iy}{o:kw V}{A:wy}{E:ZD}
def Qc.big(I:Qc X gx σ H s):MY<⇑s:=by
 show Wh (!1) ((I.mod.glob.keeps I.bk).lt)
def AV(w:A.units+1<Nx)(I:Qc X gx σ H s)(g:cu H a y (hY v))(q:aX y u)(h:∀f s',Qc X gx σ H s'->aX v f->Q f s'):
 vk (Mq X.prog X.w) A (SH (.ref a) u) Q E s:=by
 rcases g with⟨i,k,e,j,l⟩|⟨i,k,b,e,j,B,l⟩
 .subst j;let%[z,C,vs,c|m]:=r9 I.hok e;let%[f,hw|d]:=gW.some_of (l▸c.val k);show wpAny_getItem_of (om q) m.mapOf hw (h f _ (I.tok _) d)
 .subst j;cases(q);let%[z,C,xs,c|m]:=vP I.hok e;let%[f,hw|d]:=gW.some_of (l▸c.val k);let%[p,G|n]:=Ly.mp hw;show wpAny_getItem_heap (O6 w) (oq I.hok B) m G ?_;rw[n];show h f _ (I.tok _) d
def d_in(n:A.units+1<Nx)(I:Qc X gx σ H s)(g:cu H a y o)(m:aX y u)(h:∀s',Qc X gx σ H s'->Q (.bool o.isSome) s'):
 vk (Mq X.prog X.w) A (pw .In u (.ref a)) Q E s:=by
 rcases g with⟨d,k,e,f,l⟩|⟨d,k,b,e,f,p,l⟩
 .subst f;let%[z,i,vs,c|j]:=r9 I.hok e;show wpAny_in_of (om m) i j.mapOf ?_;rw[<-(c.val k).isSome_eq,<-l];show h _ (I.tok _)
 .subst f;cases(m);let%[z,i,xs,c|j]:=vP I.hok e;show wpAny_in_heap (O6 n) (oq I.hok p) i j ?_;let q:=(c.val k).isSome_eq;rw[Vn]at q;rw[<-q,<-l];show h _ (I.tok _)
def FR(n:A.units+1<Nx)(I:Qc X gx σ H s)(g:cu H a y o)(m:aX y u)(h:∀s',Qc X gx σ H s'->Q (.bool (!o.isSome)) s'):
 vk (Mq X.prog X.w) A (pw .NotIn u (.ref a)) Q E s:=by
 rcases g with⟨d,k,e,f,l⟩|⟨d,k,b,e,f,p,l⟩
 .subst f;let%[z,i,vs,c|j]:=r9 I.hok e;show wpAny_notIn_of (om m) i j.mapOf ?_;rw[<-(c.val k).isSome_eq,<-l];show h _ (I.tok _)
 .subst f;cases(m);let%[z,i,xs,c|j]:=vP I.hok e;show wpAny_notIn_heap (O6 n) (oq I.hok p) i j ?_;let q:=(c.val k).isSome_eq;rw[Vn]at q;rw[<-q,<-l];show h _ (I.tok _)
def n5(I:Qc X gx σ H s)(d:Mut (H a))(e:v0 a s.heap h')(f:∃q,h'.get? a∣q)(new:cD X.prog X.w (Qa H a c) h' a c):
 Qc X gx σ (Qa H a c) {s with heap:=h',toks:=t'}:=
 I.write d (.inl rfl) (λb q g z=>(e.2 b g).trans z) f new
def xZ{P:n7}(z: ~~~b<=lp)(d:(a==MY)=hX)(c:KV b vs)(e:h'.DictOf (aU P w) a vs):
 cD P w f h' a (.dK b):=%[z,d,vs,c|e]
def AW(N:A.units+1<Nx)(I:Qc X gx σ H s)(g:fM H a y v O)(G:aX y u)(J:aX v r)(h:∀s',Qc X gx σ O s'->Q () s'):
 vk (Mq X.prog X.w) A (setItem (.ref a) u r) Q E s:=by
 rcases g with⟨d,k,e,m,l,n⟩|⟨d,k,b,e,m,L,l,n⟩
 .subst m n;let%[z,p,vs,f|w]:=mY I.hok e;let T: ~~~vs<=lp:= ~~~f▸z;let B: ~~~(db d k v)<=lp:=by let:=gA d k v;lia
  show wpAny_setItem_pairs (om G) w λh' i C=>h _ (n5 I (e▸LW) C (let⟨q,_,_,j,_⟩:=i;%[q|j]) (xZ B p (f.put k J) i))
 .subst m n;cases(G);let%[z,p,xs,f|w]:=Hf I.hok e;let T: ~~~xs<=lp:=(Paired.length f)▸z;let B: ~~~(db d k v)<=lp:=by let:=gA d k v;lia
  show wpAny_setItem_heap (O6 N) (oq I.hok L) w λh' i C=>h _ ?_
  let%[q,U,Y,j,h2,h3,h4,_|h5]:=i;show n5 I (e▸LW) C %[q|j] %[B,p,_,(f.put k L J).keeps λc ys M=>?_,q,U,Y,j,h2,h3,h4|h5];rw[ap (oi M e (λz=>nomatch z))];show M
end
abbrev IS(i:G2):Prop:=∀a b,Sl i hX a b=operate [a,b] (SH a b)
def FS{T id:L8}
 (l:O5 (.type T) "__getitem__"=pure (hY (.builtin id))) (m:IS a)
 (h:↥A (L9 c env) (λo e=>↥A (L9 a env) (λi b=>b.TypeIs o T/\↥A (SH o i) Q E b) E e) E s):
 ↥A (L9 (.Subscript c a pos) env) Q E s:=by
 show Te (LL h (λo e g=>LL g (λi b d=>?_) λ_ _ x=>x) λ_ _ x=>x);let%[n|d]:=d;show Z2 (Z2 (OL n l ?_));let fin:↥A (Sl a hX o i) (λr f=>↥A (letTemporaryGo c o r>>= λ_=>pure r) Q E f) E b:=by
  rw[m o i];show wpAny_operating (LL d (λr f j=>Z2 (wpAny_letTemporaryGo (Z3 j))) λ_ _ x=>x)
 first
  | show Z3 (Z2 fin)
  | lia
  | lia
def vQ{X:Cx}(I:Qc X gx f H s)(g:cu H a y o):s.TypeIs (.ref a) "dict":=by
 rcases g with⟨c,k,e,_,_⟩|⟨c,k,b,e,_,_,_⟩
 .let%[_,_,vs,_|d]:=r9 I.hok e;show d.typeIs
 .let%[_,_,xs,_|d]:=vP I.hok e;show d.typeIs
abbrev CG(d ty:TE):TE:=λb H Q=>d b H λx e=>ty b e λy c=>asR x λa=>∃v,cu c a y (hY v)/\Q v c
abbrev FT(ty d:TE):TE:=λb H Q=>ty b H λy e=>d b e λx c=>asR x λa=>∃o,cu c a y o/\Q (.bl o.isSome) c
abbrev ur(ty d:TE):TE:=λb H Q=>ty b H λy e=>d b e λx c=>asR x λa=>∃o,cu c a y o/\Q (.bl (!o.isSome)) c
abbrev ot(d ty e:TE):TS:=λD b H=>e b H λv f=>d b f λx g=>ty b g λy h=>asR x λa=>∃c,fM h a y v c/\D.nx b c
section
variable{X:Cx}{o i e value:G2}{pos pos' tpos:Pos}{td ty tv:TE}
def FU(f:X.A.units+1<Nx)(j:PE X o td)(hi:PE X i ty)(l:IS i):PE X (.Subscript o i pos) (CG td ty):=by
 intro gx s c H Q I h;show FS PySem.F.slot_dict_getitem.lookup l (thP (j gx s c H _ I h) λu m x n p q r=>thP (hi gx m c n _ p r) λC E y w d z h=>?_);let%[a,rfl,v,g|A]:=aN h;obtain rfl:u=m4 a:=q;show%[vQ d g|AV f d g z λG J B b=>%[v,w,B,b|A]]
def CH(c:X.A.units+1<Nx)(hi:PE X i ty)(d:PE X o td):PC X .In i o (FT ty td):=by
 intro gx s b H Q I h;show thP (hi gx s b H _ I h) λA f y j l m n=>thP (d gx f b j _ l n) λu B x p q r h=>?_
 let%[a,rfl,v,g|w]:=aN h;obtain rfl:u=m4 a:=r;show d_in c q g m λC z=>%[.bl v.isSome,p,z,rfl|w]
def AX(c:X.A.units+1<Nx)(hi:PE X i ty)(d:PE X o td):PC X .NotIn i o (ur ty td):=by
 intro gx s b H Q I h;show thP (hi gx s b H _ I h) λz f y j l m n=>thP (d gx f b j _ l n) λu A x p q r h=>?_
 let%[a,rfl,B,g|v]:=aN h;obtain rfl:u=m4 a:=r;show FR c q g m λC w=>%[.bl _,p,w,rfl|v]
def FV(c:X.A.units+1<Nx)(d:PE X o td)(hi:PE X i ty)(f:PE X value tv)(j:N7 value (hY (.Subscript o i pos')) pos.line X.env=pure hX):
 PS X (.Assign [.Subscript o i pos'] value pos) (ot td ty tv):=by
 intro gx s b H D I h;show wpAny_Assign_Subscript (thP (f gx s b H _ I h) λr l v m n p q=>thP (d gx l b m _ n q) λu w x z A B C=>thP (hi gx w b z _ A C) λN O y Q E G h=>?_) j;let%[a,rfl,J,g|L]:=aN h;obtain rfl:u=m4 a:=B;show AW c E g G p λT M=>%[b,J,M|L]
end
def CI{P:n7}(h:z4)(a:MY<h.objs.size):cD P w H (h.push {cls:= .type "dict",data:= .dict #[]}) h.objs.size (.dK []):=
 %[Xl _,LF.mpr (Lx (Zt a)),[],.nil|z4.DictOf.new h]
def CJ{P:n7}(h:z4)(a:MY<h.objs.size):cD P w H (h.push {cls:= .type "dict",data:= .dict #[]}) h.objs.size (.dT []):=
 %[Xl _,LF.mpr (Lx (Zt a)),[],.nil,_,#[],0,Zj _ rfl,%[rfl,rfl|rfl],rfl,rfl|Xa]
abbrev x5:TE:=λ_ H Q=>∀p,H p=hV->Q (.ref p) (Qa H p (.dK []))
abbrev x6:TE:=λ_ H Q=>∀p,H p=hV->Q (.ref p) (Qa H p (.dT []))
section
variable{X:Cx}{pos:Pos}
def CL:PE X (.Dict [] [] pos) x5:=λgx s a H Q I h=>
 V6 %[.ref ⇑s,_,I.laid (λ_ _ q=>Z7 _ q) (Zi _) (CI s.heap I.big),rfl|h _ (I.hok.fresh (Zi _))]
def CM:PE X (.Dict [] [] pos) x6:=λgx s b H Q I h=>
 V6 %[.ref ⇑s,_,I.laid (a:=⇑s) (o:= .dT []) (t':=s.toks) (λ_ _ q=>Z7 _ q) (Zi _) (CJ s.heap I.big),rfl|h _ (I.hok.fresh (Zi _))]
end
abbrev iG(a more:hH (Key×V)):hH (Key×V):=more.foldl (λacc b=>db acc b.1 b.2) a
def KV.merge:∀{more:hH _} {rs:hH _} {a:hH _} {vs:hH _},KV more rs->KV a vs->KV (iG a more) (merged vs rs):=by
 intro more rs a vs r
 induction r generalizing a vs with
 | nil=>intro q;show q
 | @cons p q ps qs h t b=>
   intro c;let e:KV (db a p.1 p.2) (stored vs q.1 q.2):=by
    let:=c.put p.1 h.2;show h.1▸this
   show b e
def jZ:∀more a,~~~(iG a more)<= ~~~a+ ~~~more
 |[],a=>by change ~~~a<= ~~~a+0;lia
 | p::r,a=>by
   let b:=jZ r (db a p.1 p.2);let c:=gA a p.1 p.2;change(iG _ r).length<=_
   grind
structure M1 (X:Cx) (o:G2) (m:ku) (apos:Pos) (e:G2) (cpos:Pos):Prop where
 base:Mx o m X.env (L9 o X.env)=L9 o X.env
 few:((MM cpos (vi [e] X.env)).all (λx=>!x.1)&&(Pe cpos (ND [] X.env)).all (λx=>x.1.isSome)
  && decide (~~~([e])+ ~~~([]:hH Om)+(if([]:hH Om).isEmpty then 0 else 1)<30))=hW
 line:(apos.endLine==cpos.line)=hW
 trees:MM cpos (vi [e] X.env)=[(hX,L9 e X.env)]
structure M2 (X:Cx) (o:G2) (m:ku) (apos:Pos) (e f:G2) (cpos:Pos):Prop where
 base:Mx o m X.env (L9 o X.env)=L9 o X.env
 few:((MM cpos (vi [e,f] X.env)).all (λx=>!x.1)&&(Pe cpos (ND [] X.env)).all (λx=>x.1.isSome)
  && decide (~~~([e,f])+ ~~~([]:hH Om)+(if([]:hH Om).isEmpty then 0 else 1)<30))=hW
 line:(apos.endLine==cpos.line)=hW
 trees:MM cpos (vi [e,f] X.env)=[(hX,L9 e X.env),(hX,L9 f X.env)]
section
#version
variable{a:jg}{y d:V}{u r:iy}{o:kw V}{A:wy}{E:ZD}
variable{o:G2}{e:G2}{f:G2}{apos:Pos}{cpos:Pos}{td:TE}{ty:TE}{tx:TE}
end
end _LL
namespace _AT
open PySem PySem.W PySem.Calls PyProof.Rows
def nK{P:Params}:∀(c:ZL) (vs:ZF),WellAll P h vs (c.map Ww)->Uh vs c:=by
 intro c
 induction c with
 | nil=>
   intro vs w;cases w;show .nil
 | cons n c d=>
   intro vs w;cases w with
   | cons a b=>
     cases a;show .cons _ _ (d _ b)
def AY{l:VT}(o:l.most∣n){P:Params}
 (b:l.row.toRowW.claim.pre args=hW) (j:WellAll P h e args):
 ∃a vs c,e=[m4 a]/\args=[WData.list (c.map Ww)]/\h.get? a=hY {cls:= .type "list",data:= .seq vs.toArray}/\Uh vs c/\ ~~~c<=n:=by
 let m:l.pre.holds [] _=hW:=(pre_splitW b).2;let%[d,r,rfl,p|q]:=hasAllW_cons ((pre_splitW b).1);obtain rfl:=hasAllW_nil q;let%[xs,rfl|s]:=hasW_list p;let%[c|rfl]:=items_int s;let f: ~~~c<=n:=by
  unfold VT.pre at m;let i:=by
   let i:=(holds_andW m).1;rw[o]at i;show i
  let y:=condW_of i (w_not (w_lt w_lit (w_len_list (w_arg rfl))))
  grind
 cases j with
 | cons u v=>
   cases v;cases u with
   | list w g=>show%[_,_,c,ρ,ρ,w,nK c _ g|f]
def AZ(l:VT)(args:hH WData):l.row.toRowW.claim.post args (.bool hW) args=hW:=
 postW_of
  (by first|rfl|simp|lia)
  (w_eq_bool (w_res rfl) w_lit) rfl
def attach_call{l:VT}{n:iv}{q:n7}
 (I:l.most∣n) (u:d.params.defaults=[])
 (call:∀(w:xl) (s₀ b:kG) (mg v:ZC) (h:jg) (o:NB) (y p c:iy) (a:jg) (vs:ZF) (s:ZL),
  Ground q e [] J w s₀ mg v b.heap->L w b.heap->
  b.heap.get? h∣o->o.data= .func (docDef d.name d.params d.body d.scope y p c)->b.heap.CodeRec p d.name->mg d.name∣.ref h->
  b.heap.get? a=hY {cls:= .type "list",data:= .seq vs.toArray}->Uh vs s-> ~~~s<=n->b.gens= #[]->
  OR (Mq l.prog w) SJ (.call (.ref h) %[[.ref a]|[]]) (λr s'=>r= .ok (.ret (.bool hW))/\OldK b.heap s'.heap/\s'.os=b.os/\Pt s'.gens) b):
 WalkO q e J L l.row.toRowW d [] (λf vs=>PySem.call f vs):=by
 intro w s₀ b mg v G Y h o y p c M kV N O z C A Q args E as i H T B U;obtain rfl:M= .none:=Dflts.none C u;obtain rfl:kV= .none:=Dflts.noKw C;let%[a,vs,s,rfl,rfl,j,g|m]:=AY I i B;show enter_call (codeAny_mono (call w s₀ b mg v h o y p c a vs s G Y N (fd_plain O) z A j g m Q) λr s' hq=>?_);let%[rfl,h2,h3|h4]:=hq;show%[.inl %[.bool hW,.bool hW,[],ρ,λ_=>rfl,.bool hW,AZ l _|λ_=>%[M9|λ_ hm=>(nomatch hm)]],h2,h3|h4]
section
#where
end
end _AT
namespace _LL
open PySem PySem.Spec PyProof.Rows
def sd:∀{vs:ZF} {a:ZL},Uh vs a->aK (a\4) vs
 | _,_,.nil=> .nil
 | _,_,.cons n t h=> .cons %[t|rfl] (sd h)
abbrev FW(H:Hp):Prop:=∀b,H b=hV\/∃o xs,H b∣.frz o (.lst xs)
def law_call{P:n7}{K:ZA}{mg J:ZC}{vs:ZF}
 (Y:K.In c.heap) (p:c.heap.Ns yu mg) (g:c.heap.Ns Vq J) (L:∀x:ku,x≠"__name__"->J x=MS x) (y:c.heap.NoLimit) (hg:c.gens= #[])
 (M:c.heap.get? a=hY {cls:= .type "list",data:= .seq vs.toArray}) (hi:Uh vs N) (hl: ~~~N<=lp) (hr:bH k SJ)
 (F:∀base:z4,K.In base->base.Ns yu mg->eM P w K mg base CX k fa fd [x] sp) (l:∀(s:kG) (u:iy),SS s fd %[[u]|[]] [(x,u)])
 (O:∀H:Hp,FW H->Qb K H a (N\4)->sp [.ref a] H (λv _=>v= .bl hW) λ_ _ _=>LG)
 (Q:∀H e s',CX [] H c (λ_ _ _=>LG) e s'->LG):
 OR (Mq P w) SJ (.call (.ref fa) %[[.ref a]|[]]) (λr s'=>r= .ok (.ret (.bool hW))/\OldK c.heap s'.heap/\s'.os=c.os/\Pt s'.gens) c:=by
 let rv:=sd hi;let j:∀H,FW H->Qb K H a (N\4)->HOk P w H c.heap->(∀b,H b≠hV->b=a)->(H a≠hV->K.lookup a=hV)->
  OR (Mq P w) SJ (.call (.ref fa) %[[.ref a]|[]]) (λr s'=>r= .ok (.ret (.bool hW))/\OldK c.heap s'.heap/\s'.os=c.os/\Pt s'.gens) c:=by
  intro H hO hS A hA hK;let f:∀{b:jg} {o:NB},c.heap.get? b∣o->H b=hV->(AF c.heap H).get? b∣o:=λe n=>B6 e n
  let T:∀{b:jg} {o:NB} {G:o0 Sj} {I:iv},c.heap.get? b∣o->o.data= .dict G I->H b=hV:=λ{b o G I} e d=>by
   grind
  let i:∀{b:jg} {m:ZC},c.heap.Ns b m->(AF c.heap H).Ns b m:=λ{b m} ⟨o,G,I,e,d,r⟩=>%[o,G,I,f e (T e d),d|r]
  let B:=λb o e=>f (Y b o e) (by
   grind)
  show codeAny_mono ((F _ B (i p)).run SJ [] c H _ _ [.ref a] _ _ hr %[rfl,%[B,i p,%[J,i g|L]|let⟨mc,h1,h2⟩:=y;%[mc,i h1|h2]],λb o e=>Fk e,Wi (AG _ _),trivial,λb g=>on (show b∈([])from g) ∅,A|.of_eq hg] (l c _) (.cons rfl .nil) (O H hO hS)) λr s' h=>?_
  cases r with
  | error e=>show(Q H e s' h).elim
  | ok fl=>
    cases fl with
    | next=>show LR h
    | brk=>show LR h
    | cont=>show LR h
    | ret u=>
      let%[v,H',os,C,un,E,r'|q]:=h;subst q;obtain rfl:u=We hW:=r';show%[ρ,OldK.of_keep λb o e=>?_,os|C];cases q:H b with
      | none=>show un.keep b o e q (by intro z;show on (show b∈([])from z) ∅) ∅
      | some u=>
        rcases hO b with z|⟨ob,xs,z⟩
        .rw[q]at z;cases z
        .let%[e1|_]:=A b _ z;let%[e2|_]:=E b _ (un.frzs b ob _ z);rw[e]at e1;cases e1;show e2
 cases U:K.lookup a with
 | some o=>
   let e:=Y a o U;rw[M]at e;cases e;show j _ (λ_=> .inl rfl) (.inr %[_,vs.toArray,_,U,rfl,rfl,rfl,by rw[Zp,~~~hi];show hl|rv]) (λb u z=>!2) (λb z=>on rfl z) λz=>on rfl z
 | none=>
   show j (λb=>if b=a then hY (.frz {cls:= .type "list",data:= .seq vs.toArray} _)else hV) (λb=>?_) (.inl (.inr %[{cls:= .type _,data:= .seq vs.toArray}|ix rfl])) (λb u z=>?_) (λb z=>?_) λ_=>U
   .by_cases g:b=a
    .show .inr %[_,_|ix g]
    .show .inl (ij g)
   .by_cases g:b=a
    .let z':=(ix g).symm.trans z;cases z';subst g;show%[M,by rw[Z6];show hl,vs,_,rv|M]
    simp_all
   .by_cases g:b=a
    .show g
    .show on (ij g) z
def walk_of{l:PySem.W.OpenLaw}{J:(ku->kw iy)->z4->Prop}{E:xl->z4->Prop}{d:DefRec}{K:Params->ZA}{CX:xl->CXT}{sp:xl->Sp}{x:ku}
 (L:l.most∣n) (p:n<=lp) (r:d.params.defaults=[]) (M:bH k SJ)
 (N:∀(w:xl) (h:z4),E w h->(K w.params).In h)
 (F:∀(w:xl) (mg:ZC) (j:jg) (h:z4),(K w.params).In h->h.Ns yu mg->mg d.name∣.ref j->
  ∃y:On,(∀(s:kG) (u:iy),SS s y %[[u]|[]] [(x,u)])/\
   ∀base:z4,(K w.params).In base->base.Ns yu mg->eM l.prog w (K w.params) mg base (CX w) k j y [x] (sp w))
 (z:∀(w:xl) (H:Hp) (a:jg) (m:ZL),~~~m<=n->FW H->Qb (K w.params) H a (m\4)->sp w [.ref a] H (λv _=>v= .bl hW) λ_ _ _=>LG)
 (A:∀(w:xl) (H:Hp) (s:kG) (e:iy) (s':kG),CX w [] H s (λ_ _ _=>LG) e s'->LG):
 PySem.W.WalkO q B J E l.row.toRowW d [] (λf vs=>PySem.call f vs):=by
 show _AT.attach_call L r λw s₀ g mg mb j o pm cd O a vs m G Y ho hd Q C i c b T=>?_
 let I:=N w _ Y;let%[y,U|hF]:=F w mg j _ I G.T.g C;show law_call I G.T.g G.T.b G.T.builtins G.T.nolimit T i c (Ym b p) M hF U (λH hO hS=>z w H a m b hO hS) λH e s'=>A w H g e s'
abbrev jK(s:J5)(j:iv):J5:=match s with
 | .ClassDef _ _ _ a _ _ _ _ _ _ _=>a.getD j (.Pass %[0,0,0|0])
 | _=> .Pass %[0,0,0|0]
abbrev dq(s:J5):Arguments:=match s with
 | .FunctionDef _ a _ _ _ _ _ _ _ _=>a
 | _=>{posonlyargs:=[],args:=[],vararg:=hV,kwonlyargs:=[],kw_defaults:=[],kwarg:=hV,defaults:=[]}
abbrev bJ(s:J5):hH J5:=match s with
 | .FunctionDef _ _ b _ _ _ _ _ _ _=>b
 | _=>[]
abbrev ak(s:J5):QB:=match s with
 | .FunctionDef _ _ _ _ _ _ a _ _ _=>a
 | _=>{kind:= .function,names:=[],isGenerator:=hX,isCoroutine:=hX}
noncomputable abbrev CX0:CXT:=λ_ _ _ _ _ _=>LG
noncomputable abbrev E0:XK:=λ_ _ _=>LG
def CO{X:Cx}:iF CX0 X E0:=λ_ _ _ _ _ _ _ h=>h.elim
structure Fun (K:ZA) (x qual:ku) (st:J5) (f:jg) (fd:On):Prop where
 ex:∃oc od kV doc pm an cdv ct osl,
  fd=Sb x qual (dq st) (bJ st) (ak st) .none kV doc pm an cdv ct/\K.lookup f=hY %[oc,od,.func fd|osl]/\Qy K cdv qual=hW
 kp:N1 K (.ref f)=hW
section
variable{P:n7}{w:xl}{K:ZA}{mg:ZC}{base:z4}
def Fun.ok{x a:ku}{st:J5}{f:jg}{g:On}{N ps:ZB}{k:iv}{sp:Sp}(F:Fun K x a st f g)(S:ar N ps (ak st))(len:∀vs H Q E,sp vs H Q E-> ~~~vs= ~~~ps)
 (c:∀b (A:wy) (outer:hH Env) s H (vs:hH V) Q E,bH k (A.deeper (Mt a (ak st) ⇑s f b))->sp vs H Q E->
  ∃t,PSs (fK CX0 P w K mg base N a (ak st) f b A outer s H E).nox (bJ st) t/\t {nx:=λ_ i=>Q .non i,rt:=Q} (start N vs) H):eM P w K mg base CX0 (k+1) f g ps sp:=by
 let%[n,od,kV,j,o,p,b,ct,l,rfl,lk|d]:=F.ex;show G8 lk d S len λA outer s H vs Q E m e=>?_
 let%[t,h|q]:=c b A outer s H vs Q E m e;show%[t,h.nox|q]
def Fun.binds{st:J5}(F:Fun K x c st f g)
 (h:∀(kV a d:iy) (e:ZI) (b ct:iy) (us:ZF),~~~us= ~~~ps->bindArgs (Sb x c (dq st) (bJ st) (ak st) .none kV a d e b ct) %[us|[]]=pure (ps.zip us)):dU K g ps []:=by
 let%[l,od,kV,a,d,e,b,ct,i,rfl,lk|j]:=F.ex;show .all (h kV a d e b ct)
def eA{st:J5}{kV d e b ct:iy}(l:K.lookup f=hY %[i,od,.func (Sb x a (dq st) (bJ st) (ak st) .none kV d e h b ct)|g])
 (c:Qy K b a=hW) (k:N1 K (.ref f)=hW):Fun K x a st f (Sb x a (dq st) (bJ st) (ak st) .none kV d e h b ct):=%[%[i,od,kV,d,e,h,b,ct,g,rfl,l|c]|k]
variable{X:Cx}
def pv(i:iv)(b:X.N[i]?∣x)(c:Vis X.env.scope x)(d:(x==("__debug__":ku))=hX)
 (a:(x==("__classdict__":ku))=hX):PE X (.Name x pos) (mx i):=B7 b c d a
end
def qQ{A B:Prop}(h:B):if hX=hW then A else B:=by
 simp_all
def bC{c A B:Prop}[O2 c](a:c->A)(b: ¬ c->B):if c then A else B:=by
 simp_all
abbrev ah(H a:Hp):Prop:=∀b o,H b∣o->a b∣o
def ah.refl(H:Hp):ah H H:=λ_ _ h=>h
def ah.trans{H d e:Hp}(a:ah H d)(b:ah d e):ah H e:=λc o h=>b c o (a c o h)
def ah.free{H a:Hp}(e:ah H a){l:jg}(h:a l=hV):H l=hV:=by
 cases q:H l with
 | none=>rfl
 | some o=>
   rw[e l o q]at h;cases h
def ah.seq{K:ZA}(e:ah H b)(h:Qb K H a xs):Qb K b a xs:=by
 rcases h with(h|⟨o,h⟩)|h
 .show .inl (.inl (e _ _ h))
 .show .inl (.inr %[o|e _ _ h])
 .show .inr h
section
end
section
variable{κ:Type}[LV κ]
def CP{a:hH (κ×V)}(h:bI a k=hV): ¬ k∈a\1:=by
 intro m;let%[p,b|e]:=Xw m;let q:(a.any λc=>decide (c.1=k))=hW:=Sq.mpr %[p,b|Zf e];rw[ii,h]at q;show on q ∅
def zu{a:hH (κ×V)}(h:bI a k∣v):k∈a\1:=by
 let q:(a.any λb=>decide (b.1=k))=hW:=by
  rw[ii,h]
  all_goals rfl
 simp_all
def n6:∀{l:hH κ} {k:κ},l.Nodup-> ¬ k∈l->(l++[k]).Nodup
 |[],k,_,_=>by simp
 | a::r,k,h,b=>by
   let%[c|d]:=Mw.mp h;show Mw.mpr %[λm=>?_|n6 d λm=>b (X2.mpr (Or.inr m))];rcases Xu m with q|q
   .show c q
   .show b (X2.mpr (Or.inl (Xv q).symm))
end
abbrev ou(env:Env):hH (ku×LB)->hH (ku×jg)->hH (ku×jg)
 |[],acc=>acc
 |(n,k)::r,acc=>ou env r (if k= .free then(n,(env.cells.lookup n).getD 0)::acc else acc)
def oz:∀(names:hH (ku×LB)) (acc:hH (ku×jg)),(∀y∈names,y.2= .free->∃c,env.cells.lookup y.1∣c)->
 (forIn names acc λx r=>match x with
  |(name,kind)=>if(kind==Mj)=hW then do let a<-cellOf env name;pure (Oc ((name,a)::r))else pure (Oc r):Sem (hH (ku×jg)))=pure (ou env names acc)
 |[],acc,_=>rfl
 |(n,k)::r,acc,h=>by
  let d:=λacc=>oz r acc λy f=>h y (Zk _ f)
  rw[Rt];by_cases b:k= .free
  .subst b;let%[c|e]:=h _ Zm rfl;let g:cellOf env n=pure c:=by unfold cellOf;rw[e]
   simp only[Oy,Pq,g,pure_bind];rw[d];change _=pure (ou env r _);rw[ix rfl,e]
   all_goals rfl
  .let i:(k==Mj)=hX:=↑b
   simp only[i,Y2,NE,pure_bind];rw[d];change _=pure (ou env r _);rw[ij b]
def FX(h:∀y∈a.names,y.2= .free->∃c,env.cells.lookup y.1∣c):closureFor a env=pure (ou env a.names []):=by
 unfold closureFor;simp only[bind_pure];show(oz a.names [] h)
def vR:∀(names:hH (ku×LB)) (acc:hH (ku×jg)),(∀y∈names,y.2= .free->∃c,env.cells.lookup y.1∣c)->
 (∀y d,acc.lookup y∣d->env.cells.lookup y∣d)->(ou env names acc).lookup x∣c->env.cells.lookup x∣c
 |[],acc,_,a,e=>a x c e
 |(n,k)::r,acc,h,a,e=>by
  show vR r _ (λy b=>h y (Zk _ b)) (λy d q=>?_) e;by_cases f:k= .free
  .rw[ix f,Ys]at q;let%[g|i]:=h _ Zm f;cases b:y==n with
   | true=>
     simp_all
   | false=>rw[b]at q;show a y d q
  .rw[ij f]at q;show a y d q
def oA:∀(names:hH (ku×LB)) (acc:hH (ku×jg)),(∃c,acc.lookup x∣c)->∃c,(ou env names acc).lookup x∣c
 |[],_,h=>h
 |(n,k)::r,acc,h=>by
  show oA r _ ?_;by_cases a:k= .free
  .rw[ix a,Ys];cases b:x==n with
   | true=>show%[_|ρ]
   | false=>show h
  .rw[ij a];show h
def oB:∀(names:hH (ku×LB)) (acc:hH (ku×jg)),(x,Mj)∈names->∃c,(ou env names acc).lookup x∣c
 |[],_,h=>by simp at h
 |(n,k)::r,acc,h=>by
  rcases X2.mp h with e|h
  .show oA r _ ?_
   simp_all
  .show oB r _ h
abbrev cc(X:Cx)(a:QB)(d:ZB)(b:kG)(c:Hp)(e:hH jg):Cx:=
 {X with
  N:=d
  s₀:=b
  H₀:=c
  env:=compEnvC a (L6 (⇑b+1) a.names (ou X.env a.names [])) ⇑b X.env
  outer:=X.stack
  stack:=X.stack
  ex:=e
  fn:=λx=>decide (a.names.lookup x∣.cell)
  pn:=[]
  xe:=λ_ _=>LG}
structure aD (X:Cx) (scope:QB) (N':ZB) (cap:hH (iv×iv)):Prop where
 kind:scope.kind= .function
 cell:∀y∈scope.names,y.2= .cell->scope.names.lookup y.1∣.cell
 loc:∀y∈scope.names,y.2= .local->scope.names.lookup y.1∣.local
 free:∀y∈scope.names,y.2= .free->X.env.kindOf y.1∣.cell\/X.env.kindOf y.1∣.free
 capt:∀p∈cap,∃x,N'[p.1]?∣x/\X.N[p.2]?∣x/\scope.names.lookup x∣.free
abbrev sf(n:iv)(a:hH (iv×iv))(b:St):St:=(q7 n).map λj=>(a.lookup j).bind λi=>(b[i]?).join
def mZ:∀{l:hH _} {j i:iv},l.lookup j∣i->(j,i)∈l
 |[],_,_,h=>by simp at h
 |(a,b)::r,j,i,h=>by
  rw[Ys]at h;cases c:j==a with
  | true=>
    simp_all
  | false=>rw[c]at h;show Zk _ (mZ h)
def m7{env:Env}{names:hH (ku×LB)}{x:ku}{k:LB}(h:(names.map λ(n,k)=>if(k==Mj&&env.scope.kind== .function&&env.kindOf n==hY .cell)then(n,N4)else(n,k)).lookup x∣k)
 (a:k= .cell\/k= .free):(x,Mj)∈names\/(x,N4)∈names:=by
 let m:=PySem.mem_of_lookup h
 grind
def fA:∀names n acc,L6 n names acc=L6 n names [] ++acc
 |[],_,_=>rfl
 |(x,k)::r,n,acc=>by
  unfold L6
  split
  .rw[fA r _ _,fA r _ [(x,n)],Ze];rfl
  .show fA r n acc
def mC:∀{names:hH (ku×LB)} {n:iv},(x,c)∈L6 n names []->(x,N4)∈names
 |[],_,h=>nomatch h
 |(y,k)::r,n,h=>by
  unfold L6 at h
  split at h
  .rw[fA]at h;rcases Xu h with q|q
   .show Zk _ (mC q)
   grind
  .show Zk _ (mC h)
def m8(h:(L6 n names acc).lookup x∣c):(x,c)∈L6 n names []\/((L6 n names []).lookup x=hV/\acc.lookup x∣c):=by
 rw[fA,TW]at h;cases e:(L6 n names []).lookup x with
 | none=>rw[e]at h;show .inr %[rfl|h]
 | some d=>
   rw[e]at h;let:=↑h
   show this▸ .inl (PySem.mem_of_lookup e)
def kR{env:Env}:∀{names:hH (ku×LB)} {x:ku},names.lookup x∣.free->
 (names.map λ(n,k)=>if(k==Mj&&env.scope.kind== .function&&env.kindOf n==hY .cell)then(n,N4)else(n,k)).lookup x∣.cell\/
 (names.map λ(n,k)=>if(k==Mj&&env.scope.kind== .function&&env.kindOf n==hY .cell)then(n,N4)else(n,k)).lookup x∣.free
 |[],_,h=>by simp at h
 |(n,k)::r,x,h=>by
  let c:= @kR env r x;simp only[Yw];cases a:x==n with
  | true=>
    rw[Ys,a]at h;let d:=Za h;subst d;by_cases b:((Mj==Mj)&&env.scope.kind== .function&&env.kindOf n==hY .cell)=hW
    .rw[ix b,Ys,a];show .inl rfl
    .rw[ij b,Ys,a];show .inr rfl
  | false=>
    rw[Ys,a]at h;by_cases b:(k==Mj&&env.scope.kind== .function&&env.kindOf n==hY .cell)=hW
    .rw[ix b,Ys,a];show(c h)
    .rw[ij b,Ys,a];show(c h)
section
#version
def Qc.kindL(I:Qc X gx σ H s)(h:X.env.kindOf x∣.cell\/X.env.kindOf x∣.free):∃c,X.env.cells.lookup x∣c:=I.ok.has x h
def Qc.block{a:QB}{E:ZB}{fp:hH jg}{f:z4}{tk:iv}(S:aD X a E n)(I:Qc X gx σ H s)(Q:∀b∈fp,my X gx H b)(L:∀b∈fp,b<⇑s)
 (hn:f.Ns ⇑s (λ_=>hV)) (B:∀b u,s.heap.get? b∣u->f.get? b∣u) (nc:CellsOk f (⇑s+1) (L6 (⇑s+1) a.names [])):
 Qc (cc X a E s H fp) [] (sf E.length n σ) H {s with heap:=f,toks:=tk}:=by
 let h:∀x c,(ou X.env a.names []).lookup x∣c->X.env.cells.lookup x∣c:=λx c e=>vR a.names [] (λy hy hk=>I.kindL (S.free y hy hk)) (λ_ _ q=>by simp at q) e
 let o:∀x c,(L6 (⇑s+1) a.names (ou X.env a.names [])).lookup x∣c->((x,c)∈L6 (⇑s+1) a.names []/\f.IsCell c hV/\⇑s+1<=c)\/(X.env.cells.lookup x∣c/\c<⇑s):=λx c e=>by
  rcases m8 e with q|⟨_,q⟩
  .show .inl %[q|nc.empty x c q]
  .let q':=h x c q;let%[v,J,M|_]:=I.cell x c q';show .inr %[q'|Zv M]
 show%[%[I.ok.mod,S.kind,I.ok.glob,I.ok.blt,Zi _,λx y c h1 h2=>?_,λx hx=>?_,λx c hq e=>?_,I.ok.hd,I.ok.frames,.inl rfl,λb g=>%[?_|λx c e=>?_],I.bs,
  Ym I.ok.bsz I.sz,λb u e g=>?_,λb g T=>?_,I.stack|I.stkFree],ρ,I.bare,Un.kept B,%[_,hn|λj x v e1 e2 e3=>?_],λx c e=>?_,I.hok.fresh (Zi _),λx c e=>?_,λp hp=>?_,I.hok.kept B|?_]
 .rcases o x c h1 with⟨q1,_,q2⟩|⟨q1,q2⟩<;> rcases o y c h2 with⟨r1,_,r2⟩|⟨r1,r2⟩
  .show name_of_addr nc.apart q1 r1
  .show on r2 (Ru (Ym (Yl _) q2))
  .show on q2 (Ru (Ym (Yl _) r2))
  .show I.ok.inj x y c q1 r1
 .let:(x,Mj)∈a.names\/(x,N4)∈a.names:=by
   rcases hx with q|q
   .show m7 q (.inl rfl)
   .show m7 q (.inr rfl)
  show Pp.mp (Qz a.names _ _ ?_);rcases this with q|q
  .show .inr (Pp.mpr (oB a.names [] q))
  .show .inl (S.cell _ q rfl)
 .rcases m8 e with q|⟨q,_⟩
  .let:=(nc.empty x c q).2;change ⇑s<=c
   lia
  .let:=Qz a.names (⇑s+1) [] (.inl (Zo hq));rw[q]at this;cases this
 .show Zt (L b g)
 .rcases o x c e with⟨_,_,q⟩|⟨q,_⟩
  .show λz=>on (L b g) (Ru (Ym (Yl _) (z▸q)))
  .show(Q b g).2.2.2.2.1 x c q
 .rcases(Q b g).2.2.2.1 with z|z
  .show I.ok.noex b u e z
  .show on (Zg (Zv e) (Ym I.ok.bsz z)) (Xq _)
 .rcases X2.mp (I.stkSub b T)with z|z
  .show(Q b g).2.1 z
  .show(Q b g).2.2.1 z
 ·
  let hj:∃i,n.lookup j∣i/\σ[i]?∣hY v:=by
   let A:((q7 E.length).map _)[j]?∣_:=e2;rw[Zl]at A;cases hr:(q7 E.length)[j]? with
   | none=>rw[hr]at A;cases A
   | some j'=>
     rw[hr]at A;let ab:j'=j:=by
      let:=Xt hr;let%[h1|h2]:=this;simpa using h2.symm
     subst ab;let C:((n.lookup j').bind _)∣v:=Za A;cases U:n.lookup j' with
     | none=>rw[U]at C;cases C
     | some i=>
       rw[U]at C;show%[i,ρ|?_];let Y:(σ[i]?).join∣v:=C;cases T:σ[i]? with
       | none=>rw[T]at Y;cases Y
       | some w=>rw[T]at Y;let:w∣v:=Y;rw[this]
  let%[i,U|hi]:=hj;let%[y,n1,n2|n3]:=S.capt _ (mZ U);let ac:=Za (n1.symm.trans e1);subst ac;let N:=S.free _ (PySem.mem_of_lookup n3) rfl;let%[m,hm|hl]:=I.loc;let%[u,r|l]:=hl i y v n2 hi (by rcases N with q|q;show .inr (.inl q);show .inr (.inr q));show%[u,r|.inr %[?_|?_]]
  .show kR n3
  .rcases l with⟨k,_⟩|⟨_,c,G,hv⟩
   .rcases N with q|q
    .rw[k]at q;cases q
    .rw[k]at q;cases q
   .let%[c'|O]:=oB a.names [] (PySem.mem_of_lookup n3);let:=h y c' O;rw[G]at this;let e5:=Za this;subst e5;let%[J,M|hd]:=hv;show%[c,?_,J,B c J M|hd];change(L6 _ _ _).lookup y∣c;rw[fA,TW];cases e6:(L6 _ a.names []).lookup y with
    | none=>simpa using O
    | some d=>
      let:=S.cell _ (mC (PySem.mem_of_lookup e6)) rfl;rw[n3]at this;cases this
 .rcases o x c e with⟨_,q,_⟩|⟨q,_⟩
  .show%[hV|q]
  .let%[v,J,M|hd]:=I.cell x c q;show%[v,J,B c J M|hd]
 .rcases o x c e with⟨_,_,q⟩|⟨q,_⟩
  .show I.hok.fresh ⋯
  .show I.freeC x c q
 .show on (show p∈([])from hp) ∅
 .change(sf E.length n σ).length= ~~~E;unfold sf;rw[Z6,Yp]
end
abbrev PTs(X:Cx)(a:hH G2)(t:TT):Prop:=
 ∀gx s (b:St) H Q,Qc X gx b H s->t b H Q->
  (X⁻¹) (forIn a hW λc r=>if r=hW then do let ok<-isTrue c X.env (L9 c X.env);pure (Oc ok)else pure (Oc r)) (TP X gx b Q) X.xe s
abbrev FY:TT:=λ_ H Q=>Q hW H
def FZ{X:Cx}:PTs X [] FY:=λ_ _ _ H _ I h=>wpAny_tests_nil %[H,I|h]
def F0{X:Cx}(h:PT X c t):PTs X [c] t:=λgx s a H Q I q=>wpAny_tests_one (h gx s a H Q I q)
abbrev si(q:TI)(n:iv)(f:hH (iv×iv))(g:TG)(r:TT)(s:TE):TE:=λh H Q=>q h H λJ j=>∀D,j D=hV->∃W:iv->iv->hH V->St->Hp->Prop,
 (∃m,W 0 m [] (sf n f h) (Qa j D (.lst [])))/\∀i m ys c d,W i m ys c d->(J.stop i d/\Q (.ref D) d)\/
  (J.go i d/\∀x l,J.yld i d x l->g x c l λa u=>r a u λb o=>if b=hW then s a o λy p=>∃zs e,p D<*zs/\ ~~~zs<lp/\e<m/\W (i+1) e (ys++[y]) a (Qa p D (.lst (zs++[y])))
   else∃e,e<m/\W (i+1) e ys a o)
def F1{code:iy}
 (j:∀h',h'.Ns ⇑s (λ_=>hV)->(∀b u,s.heap.get? b∣u->h'.get? b∣u)->CellsOk h' (⇑s+1) (L6 (⇑s+1) a.names [])->
  Q (newEnv a ⇑s d (L6 (⇑s+1) a.names f) g h code (hY env) c) (s>>>h')):vk M A (newFunctionEnv a d f [] g h code (hY env) c) Q E s:=by
 show Z2 (wpAny_alloc (Z2 (wpAny_layCells _ (λname kind i=>by lia) _ _ _ _ ?_)));let ok:=cellsFrom_ok a.names (s.heap.push {cls:= .type "dict",data:= .dict #[]}) (⇑s+1) [] %[λ_ _ l=>(nomatch l)|M9] ∅;rw[Zq]at ok;rw[Zq ..];show Z2 (Z3 (Z3 (j _ ((z4.Ns.new s.heap _).keeps (Ws _ _)) (λb u e=>Ws _ _ b u (Z7 _ e)) ok)))
def sj{X:Cx}{a:QB}(S:aD X a N' a4)(hc:X.calm=hW)(hi:PI X tg iter wi)
 (hg:∀L M A,PG (cc X a N' L M A) tg g) (ht:∀L M A,PTs (cc X a N' L M A) a5 tc) (he:∀L M A,PE (cc X a N' L M A) a6 te)
 (hs:∀x,Oi iter X.env x=pure x) (I:Qc X gx σ H s) (h:si wi N'.length a4 g tc te σ H Q)
 (bb:∀(D C:jg) (O:Hp) (s6:kG) (fl:Flow) (m:ZC),s6.heap.Ns C m->my X gx O C->(∀h',v0 C s6.heap h'->Qc X gx σ O (s6>>>h'))->Q (.ref D) O->compPost (Mq X.prog X.w) X.A X.xe use QQ (.ref D) C (.ok fl) s6):
 (X⁻¹) (comprehension (.ListComp a6 [%[tg,iter,a5|0]] a pos) a X.env cp (newList []) hX (L9 iter X.env) use) QQ X.xe s:=by
 show wpAny_comprehension_free (use:=use) rfl hs (FX (λy hy hk=>I.kindL (S.free y hy hk))) S.kind S.loc (thn (hi gx s σ H _ I h) λv s1 h1=>thn h1 λcs l h2=>?_);let%[it,A,tn,J,H2,e,I2,T,bc,f2|R]:=h2;subst e;show L1 (F1 λU Y N ab=>?_);dsimp only at Y N ab ⊢;let I3:Qc X gx σ (Qa H2 ⇑l (.lst [])) {l with heap:=l.heap.push {cls:= .type "list",data:= .seq ([]:ZF).toArray}}:=I2.lnew (its:=[]) (t':=l.toks) .nil (Xl _);let hD:H2 ⇑l=hV:=I2.fresh;let an:∀b∈A,b<⇑l:=λb j=>by let%[o,ho|_]:=T.obj 0 _ bc b j;show Zv ho
 generalize a1:({l with heap:=l.heap.push {cls:= .type "list",data:= .seq ([]:ZF).toArray}}:kG)=B at I3
 let G:B.heap=l.heap.push {cls:= .type "list",data:= .seq ([]:ZF).toArray}:=by rw[<-a1]
 let be:⇑B=⇑l+1:=by rw[G,Zq]
 let f3:∀b∈A,my X gx (Qa H2 ⇑l (.lst [])) b:=λb j=>%[(ap (Zt (an b j)))▸(f2 b j).1|(f2 b j).2]
 let%[W,%[m0|w0]|bf]:=R _ hD;let ae:∀b u,B.heap.get? b∣u->U.get? b∣u:=G▸N;let I4:Qc (cc X a N' B (Qa H2 ⇑l (.lst [])) A) [] (sf N'.length a4 σ) (Qa H2 ⇑l (.lst [])) {B with heap:=U,toks:=B.toks}:=I3.block S f3 (λb j=>be▸Yt (an b j)) (G▸Y) ae (G▸ab);let bl:tn 0 U:=T.keep _ _ _ bc λb j o e=>ae b o (G▸Z7 _ e)
 let ct:(cc X a N' B (Qa H2 ⇑l (.lst [])) A).env=compEnvC a _ ⇑B X.env:=rfl;let ag:∀{H':Hp},(∀b∈A,H' b=hV)->∀b∈A,my _ [] H' b:=λhn b j=>
  %[hn b j,(I4.ok.exf b j).1,I4.ok.exfs b j,.inl j,(I4.ok.exf b j).2|λp hp=>on (show p∈([]:ZE)from hp) ∅]
 let as:OR (Mq X.prog X.w) X.A (.compLoop (.ListComp a6 [%[tg,iter,a5|0]] a pos) 0 (.ref it) (.ref ⇑l) (cc X a N' B (Qa H2 ⇑l (.lst [])) A).env)
  (compPost (Mq X.prog X.w) X.A X.xe use QQ (.ref ⇑l) ⇑B) {B with heap:=U,toks:=B.toks}:=by
  show codeAny_loop rfl (λn s'=>∃i ys bm H',Qc _ [] bm H' s'/\tn i s'.heap/\(∀b∈A,H' b=hV)/\W i n ys bm H') ?_ m0 %[0,[],_,_,I4,bl,λb j=>(f3 b j).1|w0];intro n s5 %[i,ys,al,O,I5,bt,b0|w5];change vk _ X.A _ _ _ s5;show wpAny_noted ?_;rw[compTurn_list];show Z2 (Pu (Z2 ?_));rcases bf i n ys al O w5 with⟨stop,q⟩|⟨go,step⟩
  .show thn (T.done (cc X a N' B (Qa H2 ⇑l (.lst [])) A) rfl rfl rfl hc i [] s5 al O _ I5 (ag b0) bt stop) λr s6 ⟨hr,I6⟩=>?_
   subst hr;show Z3 ?_;let%[m6,b3|_]:=I6.loc;show bb ⇑l ⇑B O s6 _ m6 b3 (I2.fpOk (be▸Yl _) I6.free) (λh' sb=>?_) q;let u6:Un (frs X.stack) A (Qa H2 ⇑l (.lst [])) O B.heap s6.heap:=I6.base;let a2:∀b u,B.heap.get? b∣u->b≠⇑B:=λb u e=>Zt (Zv e)
   let u7:Un (frs X.stack) A (Qa H2 ⇑l (.lst [])) O B.heap h':=%[λb u e n j hx=>(sb.2 b (a2 b u e)).trans (u6.keep b u e n j hx),λb u e n j hx=>by
    let%[sl|q]:=u6.slot b u e n j hx;show%[sl|(sb.2 b (a2 b u e)).trans q],u6.free,λb u e hx=>by
    let%[o'|q]:=u6.there b u e hx;show%[o'|(sb.2 b (a2 b u e)).trans q],u6.tups,u6.frzs|u6.tbls]
   let b4:HOk X.prog X.w O h':=λb u e=>by
    let b1:∀c w,O c∣w->c≠⇑B:=λc w q z=>by
     let:O ⇑B=hV:=I6.free;rw[z,this]at q;cases q
    show(I6.hok b u e).stay (λc w b5 q=>(sb.2 c ?_).trans q) (λ_ q=>q) λ_ _ q=>q
    rcases b5 with z|z
    .show z▸b1 b u e
    .show b1 c _ z
   show I2.call' (s':=(s6>>>h')) (ch:=A) (by change s6.os=l.os;rw[I6.os,<-a1];rfl) ((Un.laid (λb u e=>G▸Z7 _ e) (Zi _) hD).trans u7) b4 I6.bare λb j=>%[(f2 b j).2.2.2.1,(f2 b j).2.1,(f2 b j).2.2.2.2.1|(f2 b j).2.2.2.2.2]
  .show thn (T.item (cc X a N' B (Qa H2 ⇑l (.lst [])) A) rfl rfl rfl hc i [] s5 al O _ I5 (ag b0) bt go) λr s6 ⟨u,hr,h6⟩=>?_
   subst hr;show Z2 (thn h6 λ_ s7 ⟨x,H7,I7,r7,y7,a3,b6⟩=>?_);let ac:∀{α:Type} {t:Sem α} {Q1:α->kG->Prop} {E2:ZD} {s':kG},(X⁻¹) t Q1 (λ_ _=>LG) s'->(X⁻¹) t Q1 E2 s':=λh=>LL h (λ_ _ q=>q) λ_ _ f=>f.elim
   let a0:∀{E:St} {H8:Hp} {s8:kG},Qc (cc X a N' B (Qa H2 ⇑l (.lst [])) A) ([] ++t8 A s7.heap) E H8 s8->
    Qc _ [] E H8 s8/\tn (i+1) s8.heap/\∀b∈A,H8 b=hV:=λ{E H8 s8} I8=>by
    show%[I8.unpinned,T.keep _ _ _ a3 λb j o e=>(I8.pin (b,o) (X1 _ (X1 _ (fJ j e)))).1|λb j=>?_];let%[o,e|d]:=T.obj _ _ a3 b j;show(I8.pin (b,o) (X1 _ (X1 _ (fJ j e)))).2.1
   show Z2 (ac (thn (hg B _ A _ s7 al H7 x u _ (I7.pinned (ag b6) (T.obj _ _ a3)) r7 (step x H7 y7)) λ_ s8 ⟨E,H8,I8,q8⟩=>Z2 (ac (thT (ht B _ A _ s8 E H8 _ I8 q8) λb s9 H9 I9 q9=>?_))));cases b with
   | false=>
     let%[m',hm|w9]:=(q9)
     let%[J1,J2|J3]:=a0 I9;show Z3 %[rfl,m',hm,i+1,ys,E,H9,J1,J2,J3|w9]
   | true=>
     let q9:=(q9:te E H9 λy O=>∃zs m',O ⇑l<*zs/\ ~~~zs<lp/\m'<n/\W (i+1) m' (ys++[y]) E _)
     show Z2 (Z2 (ac (thP (he B _ A _ s9 E H9 _ I9 q9) λu2 b9 y b2 ca cb ⟨zs,m',hz,hl,hm,cd⟩=>Z2 (ac (thP (rY _ b9 E b2 (.ref ⇑l) [y] (.ref ⇑l) [u2] (λv H'=>v= .non/\H'=Qa b2 ⇑l (.lst (zs++[y]))) ca rfl (.cons cb .nil) %[_,hz,hl,rfl|rfl]) λu3 cv v3 cw cl cx ⟨cy,co⟩=>?_)))));subst co;let%[J1,J2|J3]:=a0 cl;show Z3 (Z3 %[rfl,m',hm,i+1,ys++[y],E,_,J1,J2,J3|cd])
 subst a1;show(codeAny_compStart_list as (T.self _ 0 _ _ _ bl as))
def F2{X:Cx}(S:aD X a e f)(n:X.calm=hW)(hi:PI X l iter o)
 (p:∀b c d,PG (cc X a e b c d) l g) (r:∀b c d,PTs (cc X a e b c d) i u) (v:∀b c d,PE (cc X a e b c d) j w)
 (y:∀x,Oi iter X.env x=pure x):
 PE X (.ListComp j [%[l,iter,i|0]] a pos) (si o e.length f g u w):=by
 intro gx s E H Q I h;show sj S n hi p r v y I h λD C z G J m A _ k q=>%[m,A|λh' B=>%[.ref D,z,k h' B,rfl|q]]
abbrev Its(z:ku):It:=⟨λi _=>i<z.cps.size,λi H x a=>a=H/\∃c,z.cps[i]?∣c/\x= .str ⟨#[c]⟩,λi _=>z.cps.size<=i⟩
def oC{P:n7}{K:ZA}(it:jg)(z:ku)(t:Tok):qO P w K tg (Its z) [it] it (λi h=>h.IsStrIter it "str_ascii_iterator" z t i) where
 mem:=by simp
 obj:=λi h st b hb=>by
  let e:=↑hb
  subst e;let%[o,e,c|d]:=st;show%[o,e|λv z=>by lia]
 keep:=λi h h' st k=>by
  let%[o,e|r]:=st;show%[o,k it ∅ o e|r]
 item:=by
  intro X hP hw hK hc i gx s σ H E I hf st hg;let hlt:i<z.cps.size:=hg;let%[f0,f1,f2,f3,f4|f5]:=hf it ∅;show wpAny_pyNext_ascii_item st (c:=z.cps[i]) ∅ λh' st' sb=>?_
  let%[o,e,c|d]:=id st';show%[_,ρ|rJ e c d (!1) %[.str _,H,(I.turned (λb o hb e=>(sb.2 b hb).trans e) f0 f1 f3 f4 f5),%[_|ρ],%[ρ,_,by simp|ρ],st'|λb hb=>(hf b hb).1]]
 done:=by
  intro X hP hw hK hc i gx s σ H E I hf st hg;let hle:z.cps.size<=i:=hg;let%[f0,f1,f2,f3,f4|f5]:=hf it ∅;show wpAny_pyNext_ascii_end (I.ok.hd hc) st (by simp[hle]) λh' eb=>%[rfl|I.turned (λb o hb e=>eb b o hb e) f0 f1 f3 f4 f5]
 self:=λ_ _ _ _ _ st h=>wpAny_pyIter_striter_ascii st h
def sk{P:n7}{K:ZA}(it:jg)(z:ku)(t:Tok):qO P w K tg (Its z) [it] it (λi h=>h.IsStrIter it "str_iterator" z t i) where
 mem:=by simp
 obj:=λi h st b hb=>by
  let e:=↑hb
  subst e;let%[o,e,c|d]:=st;show%[o,e|λv z=>by rw[d]at z;cases z]
 keep:=λi h h' st k=>by
  let%[o,e|r]:=st;show%[o,k it ∅ o e|r]
 item:=by
  intro X hP hw hK hc i gx s σ H E I hf st hg;let hlt:i<z.cps.size:=hg;let%[f0,f1,f2,f3,f4|f5]:=hf it ∅;show wpAny_pyNext_wide_item st (c:=z.cps[i]) ∅ λh' st' sb=>?_
  let%[o,e,c|d]:=id st';show%[_,ρ|rJ e c d (!1) %[.str _,H,(I.turned (λb o hb e=>(sb.2 b hb).trans e) f0 f1 f3 f4 f5),%[_|ρ],%[ρ,_,by simp|ρ],st'|λb hb=>(hf b hb).1]]
 done:=by
  intro X hP hw hK hc i gx s σ H E I hf st hg;let hle:z.cps.size<=i:=hg;let%[f0,f1,f2,f3,f4|f5]:=hf it ∅;show wpAny_pyNext_wide_end (I.ok.hd hc) st (by simp[hle]) λh' eb=>%[rfl|I.turned (λb o hb e=>eb b o hb e) f0 f1 f3 f4 f5]
 self:=λ_ _ _ _ _ st h=>wpAny_pyIter_striter_wide st h
abbrev CK(D:jg)(n i:iv)(Pv:iv->hH V->St->Hp->Prop)(ys:hH V)(b:St)(y:V)(H:Hp):Prop:=
 ∃zs a,H D<*zs/\ ~~~zs<lp/\a<n-i/\(a=n-(i+1)/\i+1<=n/\Pv (i+1) (ys++[y]) b (Qa H D (.lst (zs++[y]))))
abbrev CN(n i:iv)(Pv:iv->hH V->St->Hp->Prop)(ys:hH V)(b:St)(H:Hp):Prop:=∃a,a<n-i/\(a=n-(i+1)/\i+1<=n/\Pv (i+1) ys b H)
def CK.mk{Pv:iv->hH V->St->Hp->Prop}(hi:i<n)(a:H D<*zs)(b: ~~~zs<lp)(p:Pv (i+1) (ys++[y]) c (Qa H D (.lst (zs++[y])))):CK D n i Pv ys c y H:=
 %[zs,n-(i+1),a,b,⋯,rfl,hi|p]
def CN.mk{Pv:iv->hH V->St->Hp->Prop}(hi:i<n)(p:Pv (i+1) ys a H):CN n i Pv ys a H:=%[n-(i+1),⋯,rfl,hi|p]
def dL{J:It}{g:TG}{v:TT}{w:TE}{z:Hp->Prop}(Pv:iv->hH V->St->Hp->Prop)(A:Pv 0 [] c H)(s:∀i ys c H,i<n->Pv i ys c H->J.go i H)(d:∀ys c H,Pv n ys c H->J.stop n H)
 (B:∀i ys c H,i<n->Pv i ys c H->∀x f,J.yld i H x f->g x c f λa u=>v a u λb h=>if b=hW then w a h λy r=>CK D n i Pv ys a y r else CN n i Pv ys a h) (C:∀ys c H,Pv n ys c H->z H):
 ∃W:iv->iv->hH V->St->Hp->Prop,(∃m,W 0 m [] c H)/\∀i m ys j l,W i m ys j l->(J.stop i l/\z l)\/
  (J.go i l/\∀x f,J.yld i l x f->g x j f λa u=>v a u λb h=>if b=hW then w a h λy r=>∃zs o,r D<*zs/\ ~~~zs<lp/\o<m/\W (i+1) o (ys++[y]) a (Qa r D (.lst (zs++[y])))
   else∃o,o<m/\W (i+1) o ys a h):=by
 show%[λi m ys c H=>m=n-i/\i<=n/\Pv i ys c H,%[n,by simp,Xl _|A]|?_];intro i m ys c H %[rfl,hi|p];by_cases q:i<n
 .show .inr %[s i ys c H q p|λx f y=>B i ys c H q p x f y]
 .let e:i=n:=by lia
  subst e;show .inl %[d ys c H p|C ys c H p]
def ut:∀{bs:hH su} {us:ZF} {i:iv} {v:iy},aK (bs.map V.bl) us->us[i]?∣v->∃b,bs[i]?∣b/\v= .bool b
 |[],_,_,_,r,e=>by cases r;simp at e
 | b::bs,_,i,v,r,e=>by
   cases r with
   | cons a c=>
     cases(a);cases i with
     | zero=>simp at e;show%[b,ρ|e.symm]
     | succ i=>
       let%[d,f|g]:=ut c (e);show%[d,f|g]
def oE(bs:hH su):(q7 bs.length).all (λi=>bs.getD i hX)=bs.all id:=by
 let e:(q7 bs.length).map (λi=>bs.getD i hX)=bs:=by
  apply OI
  .simp
  .intro i a b
   simp_all
 let:(q7 bs.length).all (λi=>bs.getD i hX)=((q7 bs.length).map λi=>bs.getD i hX).all id:=by rw[VP];rfl
 rw[this,e]
def CQ{X:Cx}(m:X.calm=hW):cE X (.builtin "all") (λxs H Q=>oneA xs λg=>asR g λp=>∃(bs:hH su),Qb X.K H p (bs.map V.bl)/\Q (.bl (bs.all id)) H):=by
 intro gx s E H xs us Q I r h;let%[g,rfl|d]:=bM h;let%[p,rfl|f]:=aN d;let%[bs,n|q]:=f;let%[u,rfl|w]:=dw r;cases w;let%[its,j,pl|G]:=I.list n;let y:X.A.in1.handled=hV:=I.ok.hd m;let a: ~~~bs=its.toArray.size:=by rw[Zp,<-j.length,Z6]
 show call_all_walk (Nw pl.isList %[⇑s,[⇑s,p],[⇑s],its.toArray.size,_,_,λi=>bs.getD i hX,rfl,RP y _ p (Zt (by let%[o,z|_]:=pl.isList;show Zv z)) its.toArray,%[%[_,Zj _ rfl,rfl|rfl]|pl.isList.push _],?_|?_])
 .intro i v s' A J B c;let%[b,l|rfl]:=ut j ↑B;let e:bs.getD i hX=b:=!2
  let c:A (bs.getD i hX) s':=c;rw[e]at c;show ME c
 .intro h' tk C;rw[<-a,oE];show%[.bl _,H,I.kept λb o e=>C b o ?_ (Z7 _ e),ρ|q];let:=Zv e;intro l;show on (Xv l) (Zt this)
def iH:∀{ss:ZB} {us:ZF},aK (ss\3) us->Me us ss
 |[],_,r=>by cases r;show .nil
 | x::ss,_,r=>by
   cases r with
   | cons a b=>
     let%[t|e]:=a;subst e;show .cons x t (iH b)
abbrev zv(K:ZA):V->hH V->Hp->VK->Prop:=λx vs H Q=>asS x λz=>oneA vs λa=>asR a λl=>∃ss,Qb K H l (ss\3)/\(ss.map (·.length)).sum+ ~~~ss* ~~~z<=16777216/\Q (.str (Txt.join z ss)) H
def F3{X:Cx}:MtM X "str.join" (zv X.K):=by
 intro gx s i H x vs v us Q I d e h;let%[z,rfl|a]:=dS h;let%[j,rfl|b]:=bM a;let%[l,rfl|c]:=aN b;let%[ss,f,hw|q]:=c;let%[t|rfl]:=d;let%[u,rfl|g]:=e.one;cases g;let%[its,r,pl|m]:=I.list f;show Wx pl.isList (iH r) hw λt' k=>%[.str _,H,I.tok k,%[_|rfl]|q]
def CS{X:Cx}:cE X (.builtin "isinstance") (λxs H Q=>∃x n t b,xs=[x,.ty n]/\jU X.K H x t/\Ov X.K t (.type n)∣b/\Q (.bl b) H):=by
 intro gx s d H xs us Q I r h;let%[x,n,t,b,rfl,ty,e|q]:=h;let%[u,f,rfl,c|a]:=kP r;cases(a);show AO I c ty e λtk=>%[.bl b,H,I.tok tk,rfl|q]
def sr(z:ku)(c i:iv):Su z ⟨#[c]⟩ i=decide (z.cps[i]?∣c):=by
 unfold Su;let b: ~~~(⟨#[c]⟩:ku)=1:=rfl;rw[b];by_cases hi:i<z.cps.size
 .let e:z.cps.extract i (i+1)= #[z.cps[i]]:=by
   apply WD
   .simp;lia
   .intro j d a;simp at a;subst a;simp
  rw[e,Mh hi];by_cases f:z.cps[i]=c
  .subst f;simp
  simp_all
 .let e:z.cps.extract i (i+1)= #[]:=by
   apply WD
   .simp;lia
   .intro j d a;simp at a
  rw[e,NR ⋯];simp
def uu(z:ku)(c:iv):(!(LA z ⟨#[c]⟩ 0 z.length 1).isEmpty)=decide (c∈z.cps.toList):=by
 rcases StrLaws.occ_head z _ 1 (Zi _)with⟨e,d⟩|⟨i,r,e,f,_⟩
 .rw[e];show(Zh λg=>?_).symm;let%[j,h|l]:=hH.mem_iff_getElem.mp g;let a:=↑h
  show d j %[?_|?_]
  .change j+1<=z.cps.size;lia
  .rw[sr];show Zf (by rw[Mh a];simpa using l)
 .rw[e];show(Zf ?_).symm;let b:=f.2;rw[sr]at b;let:=Ob (Zo b);simpa using this
section
variable{X:Cx}
nonrec abbrev Hg:R2:=λx y H Q=>asS x λi=>asS y λj=> ~~~i+ ~~~j<=lp/\Q (.str (i++j)) H
nonrec abbrev CT:R2:=λx y H Q=>rI Cj (λi j=> .int (i*j)) x y H Q\/IQ x y H Q
def F4:OpR X (Mi .Mult) CT:=Ck.or IR
nonrec abbrev IT:R2:=rEq
def IU:OpR X (pw .Eq) IT:=Cm
nonrec abbrev IV:R2:=rNe
def IW:OpR X (pw .NotEq) IV:=Cn
nonrec abbrev IX:R2:=λx y H Q=>asS x λi=>asS y λj=>Q (.bl (!(LA j i 0 j.length 1).isEmpty)) H
nonrec abbrev F5(K:ZA):R2:=λx y H Q=>IX x y H Q\/rIn K hX x y H Q
def IY:OpR X (pw .In) (F5 X.K):=rL.or rV
abbrev F6(K:ZA)(c:TE):TI:=λd H R=>c d H λx b=>(∃a,x= .ref a/\(∃xs,Qb K b a xs)/\R (Itl K a) b)\/(∃a,x= .ref a/\(∃xs,SqT K b a xs)/\R (Itt K a) b)\/∃z,x= .str z/\R (Its z) b
def IZ(n:PE X l r):PI X C l (F6 X.K r):=by
 intro gx s u H R I h;show thP (n gx s u H _ I h) λv d x g f i w=>?_
 let c:∀b∈[⇑d],my X gx g b:=λb y=>by
  let e:b=⇑d:=↑y
  subst e;show f.fpOk (Zi _) (f.hok.fresh (Zi _))
 rcases w with⟨a,e,⟨xs,j⟩,q⟩|⟨a,e,⟨xs,j⟩,q⟩|⟨z,e,q⟩
 .subst e;cases i;let%[its,A,p|B]:=f.list j;show Nw p.isList %[⇑d,[⇑d],_,_,g,rfl,f.kept (t':=d.toks) λb o e=>Z7 _ e,rK a _,%[_,Zj _ rfl,rfl|rfl],c|q]
 .subst e;cases i;let%[its,A,p|B]:=f.tuple j;show Ro (p) %[⇑d,[⇑d],_,_,g,rfl,f.kept λb o e=>Z7 _ e,xM a _,%[_,Zj _ rfl,rfl|rfl],c|q]
 .subst e;let%[t|rfl]:=i;cases m:z.cps.all _ with
  | true=>
    show Vg m %[⇑d,[⇑d],_,_,g,rfl,f.kept λb o e=>Z7 _ e,oC _ z t,%[_,Zj _ rfl,rfl|rfl],c|q]
  | false=>
    show VC m %[⇑d,[⇑d],_,_,g,rfl,f.kept λb o e=>Z7 _ e,sk _ z t,%[_,Zj _ rfl,rfl|rfl],c|q]
end
abbrev bp(c:QB)(N:ZB)(a:QB)(d:ZB)(b:hH (iv×iv)):su:=
 decide (a.kind= .function)&&a.names.all (λy=>(decide (y.2≠ .cell)||decide (a.names.lookup y.1∣.cell))&&(decide (y.2≠ .local)||decide (a.names.lookup y.1∣.local))&&(decide (y.2≠ .free)||decide (c.names.lookup y.1∣.cell)||decide (c.names.lookup y.1∣.free)))&&
  b.all λp=>match d[p.1]? with
   | some x=>decide (N[p.2]?∣x)&&decide (a.names.lookup x∣.free)
   | none=>hX
def aD.of{X:Cx}(h:bp X.env.scope X.N a g c=hW):aD X a g c:=by
 unfold bp at h;rw[Zx,Zx,MV,MV]at h;let%[%[i|d]|j]:=h;show%[Zo i,λy b f=>?_,λy b f=>?_,λy b l=>?_|λp m=>?_]
 .let:=d y b;simp only[Zx,Rq,Lz]at this;show this.1.1.resolve_left λq=>q f
 .let:=d y b;simp only[Zx,Rq,Lz]at this;show this.1.2.resolve_left λq=>q f
 .let:=d y b;simp only[Zx,Rq,Lz]at this;rcases this.2 with(q|q)|q
  .show on l q
  .show .inl q
  .show .inr q
 .let:=j p m;cases e:g[p.1]? with
  | none=>simp_all
  | some x=>
    rw[e]at this;simp only[Zx,Lz]at this;show%[x,ρ,this.1|this.2]
structure Gv (mg:ZC) (x:ku) (v:V):Prop where
 ex:∃u,mg x∣u/\aX v u
def Hh{X:Cx}(g:Gv X.mg x v)(a:Gl X x)(b:(x==("__debug__":ku))=hX):PE X (.Name x pos) (tC v):=by
 let%[u,h|r]:=g.ex;show Fp a h r b
structure Cal (P:n7) (w:xl) (K:ZA) (mg:ZC) (base:z4) (k:iv) (x:ku) (ps:ZB) (sp:Sp):Prop where
 ex:∃f fd,eM P w K mg base CX0 k f fd ps sp/\mg x∣.ref f/\N1 K (.ref f)=hW/\dU K fd ps []
structure aF (K:ZA) (mg:ZC) (x:ku) (st:J5) (ps:ZB):Prop where
 ex:∃f fd,Fun K x x st f fd/\mg x∣.ref f/\dU K fd ps []
def aF.cal{P:n7}{K:ZA}{st:J5}(D:aF K mg x st ps)(S:ar N ps (ak st))
 (a:∀(H:Hp) (vs:hH V) (Q:VK) (E:XK),sp vs H Q E-> ~~~vs= ~~~ps/\∀(f:jg) (b:iy) (A:wy) (outer:hH Env) (s:kG),bH k (A.deeper (Mt x (ak st) ⇑s f b))->
  ∃t,PSs (fK CX0 P w K mg base N x (ak st) f b A outer s H E).nox (bJ st) t/\t {nx:=λ_ c=>Q .non c,rt:=Q} (start N vs) H):Cal P w K mg base (k+1) x ps sp:=by
 let%[f,d,F,e|g]:=D.ex;show%[f,d,F.ok S (λv H Q E h=>(a H v Q E h).1) (λb A o s H v Q E r h=>(a H v Q E h).2 f b A o s r),e,F.kp|g]
def Ja{X:Cx}(C:Cal X.prog X.w X.K X.mg X.base j x ps sp)(g:bH k X.A)(h:Gl X x)(i:iF CX0 X E0)(l:PA X (e::a) t)(b:j<=k)
 (c:(x==("__debug__":ku))=hX) (m:vi (e::a) X.env=(hX,L9 e X.env)::vi a X.env) (d:(MM pos (vi a X.env)).any (·.1)=hX):
 PE X (.Call (.Name x p) (e::a) [] pos) (rP sp [] E0 t):=by
 let%[f,r,F,n,o|q]:=C.ex;show zt F (g.mono b) h n o q .nil i l c m d
def Jb{K:ZA}{h:z4}{st:J5}{kV e g d ct:iy}(X:K.In h)(G:h.Ns yu mg)
 (a:Q4 K yu x∣hY (.ref f)) (l:K.lookup f=hY %[m,od,.func (Sb x x (dq st) (bJ st) (ak st) .none kV e g i d ct)|j]) (c:Qy K d x=hW) (k:N1 K (.ref f)=hW)
 (b:∀(kV e g:iy) (i:ZI) (d ct:iy) (us:ZF),~~~us= ~~~ps->bindArgs (Sb x x (dq st) (bJ st) (ak st) .none kV e g i d ct) %[us|[]]=pure (ps.zip us)):aF K mg x st ps:=
 %[f,_,eA l c k,NP X G a|(eA l c k).binds b]
def KF{K:ZA}{h:z4}(X:K.In h)(G:h.Ns yu mg)(a:Q4 K yu x∣hY u)(r:aX v u):Gv mg x v:=%[u,NP X G a|r]
def ay(h:∀a:It->Hp->Prop,(∀J f,(∃W:iv->iv->St->Hp->Prop,(∃m,W 0 m b f)/\∀i m b H,W i m b H->
 (J.stop i H/\D.nx b H)\/(J.go i H/\∃N:St->Hp->Prop,(∀c d,N c d->∃j,j<m/\W (i+1) j c d)/\∀x d,J.yld i H x d->g x b d λe l=>n {D with nx:=N,ct:=N,bk:=D.nx} e l))->a J f)->o b H a):vK o g n D b H:=h _ λ_ _ x=>x
def aG(h:∀c:It->Hp->Prop,(∀J j,(∀D,j D=hV->∃W:iv->iv->hH V->St->Hp->Prop,
 (∃m,W 0 m [] (sf n l o) (Qa j D (.lst [])))/\∀i m ys d e,W i m ys d e->(J.stop i e/\Q (.ref D) e)\/
  (J.go i e/\∀x p,J.yld i e x p->g x d p λa s=>u a s λb q=>if b=hW then v a q λy r=>∃zs f,r D<*zs/\ ~~~zs<lp/\f<m/\W (i+1) f (ys++[y]) a (Qa r D (.lst (zs++[y])))
   else∃f,f<m/\W (i+1) f ys a q))->c J j)->w o H c):si w n l g u v o H Q:=h _ λ_ _ x=>x
section
variable{X:Cx}{K:ZA}
def Jc(h:X.K=K):OpR X (pw .In) (F5 K):=by subst h;show IY
def A2(h:X.K=K):cE X (.builtin "len") (λxs H Q=>oneA xs λx=>∃n,FE K x H n/\Q (.int n) H):=by subst h;show Cp
def Ba(h:X.K=K)(a:X.calm=hW):cE X (.builtin "all") (λxs H Q=>oneA xs λb=>asR b λp=>∃(bs:hH su),Qb K H p (bs.map V.bl)/\Q (.bl (bs.all id)) H):=by subst h;show CQ a
def Bb(h:X.K=K):cE X (.builtin "isinstance") (λxs H Q=>∃x n t b,xs=[x,.ty n]/\jU K H x t/\Ov K t (.type n)∣b/\Q (.bl b) H):=by subst h;show CS
def x8(h:X.K=K):cE X (.type "list") (λxs H Q=>oneA xs λa=>asR a λp=>∃ys,(Qb K H p ys\/SqT K H p ys)/\∀l,H l=hV->Q (.ref l) (Qa H l (.lst ys))):=by subst h;show uk
def CU(h:X.K=K):MtR X "str.join" (zv K):=by subst h;show F3
def F7(h:X.K=K)(a:PE X l b):PI X c l (F6 K b):=by subst h;show IZ a
variable{o e:G2}{es:hH G2}{to:TE}{t:TA}{name:ku}{apos cpos:Pos}{T id:L8}{r:V->hH V->Hp->VK->Prop}
def F8(h:X.K=K)(d:Oz T)(slot:Slot T name id)(c:OM (.builtin id)=pure (.type "method_descriptor"))(f:MtR X id r)(g:PE X o to)
 (a:Mx o name X.env (L9 o X.env)=L9 o X.env) (b:(apos.endLine==cpos.line)=hW):PE X (.Call (.Attribute o name apos) [] [] cpos) (FP K T r to):=by
 subst h;show IL d slot c f g a b
def CV(h:X.K=K)(g:Oz T)(slot:Slot T name id)(f:OM (.builtin id)=pure (.type "method_descriptor"))(i:MtR X id r)(j:PE X o to)(l:PA X (e::es) t)
 (b:Mx o name X.env (L9 o X.env)=L9 o X.env)
 (d:((MM cpos (vi (e::es) X.env)).all (λx=>!x.1)&&(Pe cpos (ND [] X.env)).all (λx=>x.1.isSome)
  && decide (~~~(e::es)+ ~~~([]:hH Om)+(if([]:hH Om).isEmpty then 0 else 1)<30))=hW)
 (c:(apos.endLine==cpos.line)=hW) (m:vi (e::es) X.env=(hX,L9 e X.env)::vi es X.env) (a:(MM cpos (vi es X.env)).any (·.1)=hX):
 PE X (.Call (.Attribute o name apos) (e::es) [] cpos) (tBM K T r to t):=by
 subst h;show KD g slot f i j l b d c m a
end
section
variable{X:Cx}{gx:ZE}{σ:St}{H:Hp}{s s':kG}{h':z4}{tk:iv}{fp:hH jg}
def Qc.moved(I:Qc X gx σ H s)(c:∀b∈fp,my X gx H b)(d:∀b o,b∉fp->s.heap.get? b∣o->h'.get? b∣o):Qc X gx σ H {s with heap:=h',toks:=tk}:=by
 let f:∀b v,H b∣v->b∉fp:=λb v e a=>by rw[(c b a).1]at e;cases e
 show I.step (λb a=>%[(c b a).2.2.2.1,(c b a).2.1,(c b a).2.2.2.2.1|(c b a).2.2.2.2.2]) (λb o _ _ g e _=>d b o g e) (λb o _ _ g e _=>%[o.slots|d b o g e]) (λ_ _ _ _ n=>n)
  (λb o g e=>%[o|d b o g e]) (λ_ _ e=>e) (λ_ _ _ e=>e) (λb ps e=>%[#[]|by rw[e];simp]) (λm l=>?_) (λb v e=>?_) I.bare
 .let%[o,p,u,w|r]:=l;show%[o,p,u,d _ o (λa=>(c _ a).2.1 rfl) w|r]
 .show(I.hok b v e).stay (λj y h q=>d j y ?_ q) (λ_ q=>q) λ_ _ q=>q
  rcases h with i|i
  .show i▸f b v e
  .show f j _ i
def Qc.stood3(I:Qc X c y B s)(g:∀p∈gx,p∈c)(J:Qc X gx σ H s')(d:H a=hV)(C:s.heap.get? a=hV)(new:cD X.prog X.w (Qa H a o) s'.heap a o):Qc X gx σ (Qa H a o) s':=by
 let ne:∀{b:jg} {o:NB},s.heap.get? b∣o->b≠a:=λe z=>by lia
 show%[J.ok,J.os,J.bare,?_,J.loc,J.cell,?_,?_,?_,?_|J.len]
 .show%[J.base.keep,J.base.slot,λb o e n j=>?_,J.base.there,λb xs e=>?_,λb o v e=>?_|λb ps e=>?_]
  .let%[E|A]:=I.base.there b o e j;rw[ap (ne A)];show J.base.free b o e n j
  .rw[ap (av (J.base.tups b xs e) d)];show J.base.tups b xs e
  .rw[ap (av (J.base.frzs b o v e) d)];show J.base.frzs b o v e
  .let%[m|q]:=J.base.tbls b ps e;show%[m|(ap (av q d))▸q]
 .let%[m,%[G,_,_,h|_]|_]:=I.loc;rw[ap (ne h)];show J.free
 .intro l f e;let%[L,M,i|_]:=I.cell l f e;rw[ap (ne i)];show J.freeC l f e
 .intro p u;let%[e,n|r]:=J.pin p u;show%[e,?_|r];let:=(I.pin p ((Xu u).elim (λz=>Yz _ z) λz=>X1 _ (g p z))).1;rw[ap (ne this)];show n
 .intro b v e;by_cases w:b=a
  .subst w;rw[aa]at e;cases e;show new
  .rw[ap w]at e;show(J.hok b v e).stay (λ_ _ _ q=>q) (λf q=>?_) λf xs q=>?_
   .rw[ap (av q d)];show q
   .rw[ap (av q d)];show q
def Qc.stood2(I:Qc X gx σ d s)(J:Qc X gx σ H s')(b:H a=hV)(c:⇑s<=a)(new:cD X.prog X.w (Qa H a o) s'.heap a o):Qc X gx σ (Qa H a o) s':=
 I.stood3 (λ_ h=>h) J b (by
  cases e:s.heap.get? a with
  | none=>rfl
  | some o=>show on (Zv e) (not_lt.mpr c)) new
def Qc.stoodS(I:Qc X gx σ H s)(J:Qc X gx σ H s')(b:⇑s<=a)(new:cD X.prog X.w (Qa H a o) s'.heap a o):Qc X gx σ (Qa H a o) s':=I.stood2 J (I.hok.fresh b) b new
def Qc.stood(I:Qc X gx σ H s)(J:Qc X gx σ H {s with heap:=h',toks:=tk})(b:⇑s<=a)(new:cD X.prog X.w (Qa H a o) h' a o):Qc X gx σ (Qa H a o) {s with heap:=h',toks:=tk}:=I.stoodS J b new
end
structure x9 (z TI TO i1 i2:jg):Prop where
 TIz:TI≠z
 TOz:TO≠z
 i1z:i1≠z
 i2z:i2≠z
 TITO:TI≠TO
 TIi1:TI≠i1
 TIi2:TI≠i2
 TOi1:TO≠i1
 TOi2:TO≠i2
 i12:i1≠i2
section
#where
variable{z TI TO i1 i2:jg}{fp1 fp2:hH jg}{n1 n2 i:iv}{P1 P2:iv->iy->Prop}{St1 St2:iv->z4->Prop}
def CW{Q:ZD}(D1:UV prog w A i1 fp1 n1 P1 St1)(D2:UV prog w A i2 fp2 n2 P2 St2)(D:x9 z TI TO i1 i2)(O:∀b∈fp1,b≠z/\b≠TO/\b≠i2)(m2:∀b∈fp2,b≠z/\b≠TO/\b≠i1)
 (T:RR s.heap z TI TO .none) (ac:OA s.heap TI (.ref i1) (.ref i2)) (ae:OA s.heap TO a b) (h1:St1 i s.heap) (h2:St2 i s.heap) (l1:i<n1) (l2:i<n2)
 (hQ:∀x y h' tk,P1 i x->P2 i y->RR h' z TI TO (LU ⇑s)->OA h' TO x y->St1 (i+1) h'->St2 (i+1) h'->OA h' ⇑s x y->
  (∀c o,c≠z->c≠TO->c≠i1->c≠i2->s.heap.get? c∣o->h'.get? c∣o)->Q (.ref ⇑s) {s with heap:=h',toks:=tk}):
 ↥A (oy.«zip.__next__» %[[.ref z]|[]]) (λfin s'=>∃v,fin= .done (.ret v)/\Q v s') E s:=by
 let r:∀{k h h' c},(∀b∈fp1,b≠c)->v0 c h h'->St1 k h->St1 k h':=λhc sb st=>D1.frame _ _ _ st λb d o e=>(sb.2 b (hc b d)).trans e
 let u:∀{k h h' c},(∀b∈fp2,b≠c)->v0 c h h'->St2 k h->St2 k h':=λhc sb st=>D2.frame _ _ _ st λb d o e=>(sb.2 b (hc b d)).trans e
 change vk _ _ (field (.ref z) 2>>= _) _ _ _;show Z2 (MA T rfl (x:= .bool hX) rfl ?_);change vk _ _ (field (.ref z) 3>>= _) _ _ _;show Z2 (MA T rfl (x:= .ref TI) rfl (Z2 (Mz ac rfl ?_)));change vk _ _ (Mp (.ref z)>>= _) _ _ _;show Z2 ?_;unfold Mp;show Z2 (MA T rfl (x:= .none) rfl (Z3 ?_));simp only[Pq];show Z2 (NY (Z2 (MA T rfl (x:= .ref TO) rfl (Z2 (I0 T ∅ λg1 M n=>?_)))));replace M:RR g1 z TI TO .ellipsis:=M;show Z2 ?_;simp only[Rg,UT,Rt,Vd];show Z2 (Z2 (Re ?_));change vk _ _ (Na (.ref i1)>>= _) _ _ _;show Z2 (D1.item i _ _ _ l1 (r (λb d=>(O b d).1) n h1) λx g2 ag px al f=>Z3 ?_);replace f:v0 i1 g1 g2:=f;let I:OA g2 TO a b:=(f.2 _ D.TOi1).trans ((n.2 _ D.TOz).trans ae);show Z2 (Mz I rfl (Z2 (Qj (s:={s with heap:=g2,toks:=ag}) I λg3 p g=>?_)));replace p:OA g3 TO x b:=p;replace g:v0 TO g2 g3:=g;show Z2 (Ql (Z3 (Z2 (Z2 (Re ?_)))));change vk _ _ (Na (.ref i2)>>= _) _ _ _;show Z2 (D2.item i _ _ _ l2 (u (λb d=>(m2 b d).2.1) g (u (λb d=>(m2 b d).2.2) f (u (λb d=>(m2 b d).1) n h2))) λy g4 B py an j=>Z3 ?_);replace j:v0 i2 g3 g4:=j;let J:OA g4 TO x b:=(j.2 _ D.TOi2).trans p;show Z2 (Mz J rfl (Z2 (Qj (s:={s with heap:=g4,toks:=B}) J λq m l=>?_)));replace m:OA q TO x y:=m;replace l:v0 TO g4 q:=l;show Z2 (Ql (Z3 (Z3 (Z2 (Mz m rfl (Z2 (Qk ?_)))))));let U:q.objs.size=⇑s:=by rw[l.1,j.1,g.1,f.1,n.1]
 let Y:RR q z TI TO .ellipsis:=(l.2 _ D.TOz.symm).trans ((j.2 _ D.i2z.symm).trans ((g.2 _ D.TOz.symm).trans ((f.2 _ D.i1z.symm).trans M)));let as:∀c o,c≠z->c≠TO->c≠i1->c≠i2->s.heap.get? c∣o->q.get? c∣o:=λc o c1 c2 c3 c4 e=>
  (l.2 c c2).trans ((j.2 c c4).trans ((g.2 c c2).trans ((f.2 c c3).trans ((n.2 c c1).trans e))))
 let L:z<q.objs.size:=Zv Y;show Z2 (Z2 (I0 (s:={s with heap:=q.push {cls:= .type "tuple",data:= .seq #[x,y]},toks:=B}) (Z7 _ Y) ∅ λg7 N C=>?_));replace N:RR g7 z TI TO (LU q.objs.size):=N;replace C:v0 z (q.push _) g7:=C;show I0 (s:={s with heap:=g7,toks:=B}) N ∅ λg8 G H=>?_
 replace G:RR g8 z TI TO (LU q.objs.size):=G;replace H:v0 z g7 g8:=H;let up:∀c o,c≠z->q.get? c∣o->g8.get? c∣o:=λc o c1 e=>(H.2 c c1).trans ((C.2 c c1).trans (Z7 _ e))
 let ab:=(H.2 _ (X7 L)).trans ((C.2 _ (X7 L)).trans (Zj _ rfl));rw[U]at G ab;show Z3 %[_,rfl|?_];rw[U];show hQ x y g8 B px py G (up _ _ D.TOz m) (D1.frame _ _ _ (r (λb d=>(O b d).2.1) l (r (λb d=>(O b d).2.2) j (r (λb d=>(O b d).2.1) g al))) λb d o e=>up b o (O b d).1 e) (D2.frame _ _ _ (u (λb d=>(m2 b d).2.1) l an) λb d o e=>up b o (m2 b d).1 e) ab λc o c1 c2 c3 c4 e=>up c o c1 (as c o c1 c2 c3 c4 e)
def CY(O:UV prog w A i1 fp1 n1 P1 St1)(D2:UV prog w A i2 fp2 n2 P2 St2)(D:x9 z TI TO i1 i2)(m1:∀b∈fp1,b≠z/\b≠TO/\b≠i2)(m2:∀b∈fp2,b≠z/\b≠TO/\b≠i1)
 (C:RR s.heap z TI TO .none) (T:OA s.heap TI (.ref i1) (.ref i2)) (U:OA s.heap TO a b) (h1:St1 i s.heap) (h2:St2 i s.heap) (l1:i<=n1) (l2:i<=n2) (ab:i=n1\/i=n2)
 (hE:∀h' e tk,(∀c o,c≠z->c≠TO->c≠i1->c≠i2->s.heap.get? c∣o->h'.get? c∣o)->(∃o,h'.get? e∣o/\o.cls= .type "StopIteration")->E (.ref e) {s with heap:=h',toks:=tk}):
 ↥A (oy.«zip.__next__» %[[.ref z]|[]]) Q E s:=by
 let Y:∀{k h h' c},(∀b∈fp1,b≠c)->v0 c h h'->St1 k h->St1 k h':=λhc sb st=>O.frame _ _ _ st λb j o e=>(sb.2 b (hc b j)).trans e
 let v:∀{k h h' c},(∀b∈fp2,b≠c)->v0 c h h'->St2 k h->St2 k h':=λhc sb st=>D2.frame _ _ _ st λb j o e=>(sb.2 b (hc b j)).trans e
 change vk _ _ (field (.ref z) 2>>= _) _ _ _;show Z2 (MA C rfl (x:= .bool hX) rfl ?_);change vk _ _ (field (.ref z) 3>>= _) _ _ _;show Z2 (MA C rfl (x:= .ref TI) rfl (Z2 (Mz T rfl ?_)));change vk _ _ (Mp (.ref z)>>= _) _ _ _;show Z2 ?_;unfold Mp;show Z2 (MA C rfl (x:= .none) rfl (Z3 ?_));simp only[Pq];show Z2 (NY (Z2 (MA C rfl (x:= .ref TO) rfl (Z2 (I0 C ∅ λM n l=>?_)))));replace n:RR M z TI TO .ellipsis:=n;show Z2 ?_;simp only[Rg,UT,Rt,Vd];show Z2 (Z2 (Re ?_));change vk _ _ (Na (.ref i1)>>= _) _ _ _;let G:St1 i M:=Y (λb j=>(m1 b j).1) l h1;by_cases c1:i<n1
 .let e2:i=n2:=by lia
  show Z2 (O.item i _ _ _ c1 G λx r y px ae d=>Z3 ?_);replace d:v0 i1 M r:=d;let u:OA r TO a b:=(d.2 _ D.TOi1).trans ((l.2 _ D.TOz).trans U);show Z2 (Mz u rfl (Z2 (Qj (s:={s with heap:=r,toks:=y}) u λH ac f=>?_)));replace f:v0 TO r H:=f;show Z2 (Ql (Z3 (Z2 (Z2 (Re ?_)))));change vk _ _ (Na (.ref i2)>>= _) _ _ _;show Z2 (D2.done _ _ _ (e2▸v (λb j=>(m2 b j).2.1) f (v (λb j=>(m2 b j).2.2) d (v (λb j=>(m2 b j).1) l h2))) λN e p he=>?_);replace p:ExtBut i2 H N:=p;let%[oe,g|m]:=he;let I:RR N z TI TO .ellipsis:=p _ _ D.i2z.symm ((f.2 _ D.TOz.symm).trans ((d.2 _ D.i1z.symm).trans n));let B:e≠z:=λx=>by subst x;rw[I]at g;cases g;simp at m
  show I0 (s:={s with heap:=N,toks:=y}) I ∅ λg5 _ q=>?_
  replace q:v0 z N g5:=q;show hE g5 e y (λc o J d2 d3 d4 x=>(q.2 c J).trans (p c o d4 ((f.2 c d2).trans ((d.2 c d3).trans ((l.2 c J).trans x))))) %[oe,(q.2 e B).trans g|m]
 .let e1:i=n1:=by lia
  show Z2 (O.done _ _ _ (e1▸G) λr e d he=>?_);replace d:ExtBut i1 M r:=d;let%[oe,g|m]:=he;let L:=d _ _ D.i1z.symm n;let B:e≠z:=λx=>by subst x;rw[L]at g;cases g;simp at m
  show I0 (s:=(s>>>r)) L ∅ λH _ f=>?_
  replace f:v0 z r H:=f;show hE H e s.toks (λc o J _ d3 _ x=>(f.2 c J).trans (d c o d3 ((l.2 c J).trans x))) %[oe,(f.2 e B).trans g|m]
end
abbrev Itz(x y:ku):It:=⟨λi _=>i<x.cps.size/\i<y.cps.size,λi H v a=>∃c d T,x.cps[i]?∣c/\y.cps[i]?∣d/\H T=hV/\v= .ref T/\a=Qa H T (.tup [.str ⟨#[c]⟩,.str ⟨#[d]⟩]),
 λi _=>i<=x.cps.size/\i<=y.cps.size/\(i=x.cps.size\/i=y.cps.size)⟩
abbrev ZSt(z TI TO c d:jg)(e f:iv->z4->Prop)(i:iv)(h:z4):Prop:=RR h z TI TO .none/\OA h TI (.ref c) (.ref d)/\(∃a b,OA h TO a b)/\e i h/\f i h
def jL(prog:n7)(w:xl)(x:ku)(t:Tok)(it:jg):∀A,A.handled=hV->
 UV prog w A it [it] x.cps.size (λi v=>∃c u,x.cps[i]?∣c/\v= .str ⟨#[c]⟩ u) (λi h=>h.IsStrIter it (N8 x) x t i):=by
 intro A a;unfold N8;cases b:x.cps.all _ with
 | true=>show UV.strAscii a it x t
 | false=>show UV.strWide a it x t
def CZ{P:n7}{K:ZA}(z TI TO i1 i2:jg)(x y:ku)(t u:Tok)(D:x9 z TI TO i1 i2):
 qO P w K (.Tuple elts kt tp) (Itz x y) [z,TI,TO,i1,i2] z (ZSt z TI TO i1 i2 (λi h=>h.IsStrIter i1 (N8 x) x t i) (λi h=>h.IsStrIter i2 (N8 y) y u i)) where
 mem:=by simp
 obj:=λi h st b hb=>by
  let%[hz,hTI,%[a,c|hTO],%[o1,e1,_|d1],o2,e2,_|d2]:=st
  grind
 keep:=λi h h' st k=>by
  let%[hz,hTI,%[a,c|hTO],%[o1,e1|r1],o2,e2|r2]:=st;show%[k z ∅ _ hz,k TI ∅ _ hTI,%[a,c|k TO ∅ _ hTO],%[o1,k i1 ∅ _ e1|r1],o2,k i2 ∅ _ e2|r2]
 item:=by
  intro X hP hw hK hc i gx s σ H E I hf st hg;subst hP hw hK;let%[hz,hTI,%[a,c|hTO],h1|h2]:=st;obtain⟨g1,g2⟩:i<x.cps.size/\i<y.cps.size:=hg;let hT:s.TypeIs (.ref z) "zip":=%[_,hz|rfl]
  let hh:X.A.in1.handled=hV:=I.ok.hd hc;unfold Pa;show Z2 (MU (MF (name:=!"__next__") hT PZ (LX PZ hT Vx
   (CW (jL _ _ x t i1 _ hh) (jL _ _ y u i2 _ hh) D (λb hb=>(show b=i1 by simpa using hb)▸%[D.i1z,Lx D.TOi1|D.i12]) (λb hb=>(show b=i2 by simpa using hb)▸%[D.i2z,Lx D.TOi2|Lx D.i12]) hz hTI hTO h1 h2 g1 g2 λv1 v2 h' tk p1 p2 a1 a2 a3 a4 a5 hk=>Z3 ?_) (Vf _))))
  let%[c1,u1,e1|rfl]:=p1;let%[c2,u2,e2|rfl]:=p2;show%[_,ρ|To (s:={s with heap:=h',toks:=tk}) a1 λh'' hz'' sb=>?_];replace sb:v0 z h' h'':=sb;let kk:∀b o,b∉[z,TI,TO,i1,i2]->s.heap.get? b∣o->h''.get? b∣o:=λb o hb e=>by
   simp only[X2,Xc,Mb,Og]at hb;show(sb.2 b hb.1).trans (hk b o hb.1 hb.2.2.1 hb.2.2.2.1 hb.2.2.2.2 e)
  let turn1:Qc X gx σ H {s with heap:=h'',toks:=tk}:=I.moved hf kk;let Hn:H ⇑s=hV:=I.fresh;let I2:Qc X gx σ (Qa H ⇑s (.tup [.str ⟨#[c1]⟩,.str ⟨#[c2]⟩])) {s with heap:=h'',toks:=tk}:=
   I.stood turn1 (Zi _) %[by change 2<=lp;decide,[.str _ u1,.str _ u2],.cons %[_|rfl] (.cons %[_|rfl] .nil),_,((sb.2 _ (X7 (Zv hz))).trans a5),rfl,_|rfl]
  show%[.ref ⇑s,_,I2,ρ,%[c1,c2,_,e1,e2,Hn,ρ|ρ],%[hz'',(sb.2 _ D.TIz).trans (hk _ _ D.TIz D.TITO D.TIi1 D.TIi2 hTI),%[_,_|(sb.2 _ D.TOz).trans a2],?_|?_]|λb hb=>?_]
  .let%[o,e|r]:=a3;show%[o,(sb.2 _ D.i1z).trans e|r]
  .let%[o,e|r]:=a4;show%[o,(sb.2 _ D.i2z).trans e|r]
  .let:b<⇑s:=by
    simp only[X2,Xc,Mb]at hb;let%[o1,q1|_]:=h1;let%[o2,q2|_]:=h2;rcases hb with rfl|rfl|rfl|rfl|rfl
    .show Zv hz
    .show Zv hTI
    .show Zv hTO
    .show Zv q1
    .show Zv q2
   rw[ap (Zt this)];show(hf b hb).1
 done:=by
  intro X hP hw hK hc i gx s σ H E I hf st hg;let%[hz,hTI,%[a,c|hTO],h1|h2]:=st;obtain⟨g1,g2,g3⟩:i<=x.cps.size/\i<=y.cps.size/\(i=x.cps.size\/i=y.cps.size):=hg;let hT:s.TypeIs (.ref z) "zip":=%[_,hz|rfl]
  let hh:=I.ok.hd hc;show Z2 (MU (MF hT PZ (LX PZ hT Vx
   (CY (jL _ _ x t i1 _ hh) (jL _ _ y u i2 _ hh) D (λb hb=>(show b=i1 by simpa using hb)▸%[D.i1z,Lx D.TOi1|D.i12]) (λb hb=>(show b=i2 by simpa using hb)▸%[D.i2z,Lx D.TOi2|Lx D.i12]) hz hTI hTO h1 h2 g1 g2 g3 λh' e tk hk he=>?_) (Vf _))))
  let%[o,ho|hco]:=he;show Z2 (Ng %[o,ho|hco] S7 (Z3 %[rfl|?_]));let kk:∀b o,b∉[z,TI,TO,i1,i2]->s.heap.get? b∣o->h'.get? b∣o:=λb o hb e=>by
   simp only[X2,Xc,Mb,Og]at hb;show hk b o hb.1 hb.2.2.1 hb.2.2.2.1 hb.2.2.2.2 e
  show I.moved hf kk
 self:=λ_ _ _ _ _ st h=>PH st.1 h
abbrev aT:G2->su
 | .Starred _ _=>hW
 | _=>hX
def aA(h:aT e=hX):vi (e::a) env=(hX,L9 e env)::vi a env:=by
 cases e<;> first|rfl|cases(show hW=hX from h)
def eB(h:aT e=hX):Nn (e::a) env=(hX,assign e env)::Nn a env:=by
 cases e<;> first|rfl|cases(show hW=hX from h)
def dZ:∀{a:hH G2},a.any aT=hX->(MM pos (vi a env)).any (·.1)=hX
 |[],_=>rfl
 | e::a,h=>by
   rw[Zy,Xd]at h;rw[aA h.1];let:=dZ (pos:=pos) (env:=env) h.2;cases a with
   | nil=>rfl
   | cons c b=>
     simp only[MM]at this ⊢;simpa using this
def ux:∀{a:hH G2},a.any aT=hX->(MM pos (vi a env)).all (λx=>!x.1)=hW
 |[],_=>rfl
 | e::a,h=>by
   rw[Zy,Xd]at h;rw[aA h.1];let:=ux (pos:=pos) (env:=env) h.2;cases a with
   | nil=>rfl
   | cons c b=>
     simp only[MM]at this ⊢;simpa using this
def fN:∀{a:hH G2},a.any aT=hX-> ~~~(Nn a env)= ~~~a/\(Nn a env).findIdx? (·.1)=hV
 |[],_=>%[rfl|rfl]
 | e::a,h=>by
   rw[Zy,Xd]at h;rw[eB h.1];let b:=fN (env:=env) h.2;show%[by rw[Zr,Zr,b.1]|?_];rw[hH.findIdx?_cons,b.2];rfl
abbrev gB:G2->su
 | .ListComp _ _ _ _=>hW
 | .SetComp _ _ _ _=>hW
 | .DictComp _ _ _ _ _=>hW
 | _=>hX
def jk(h:gB e=hX):N7 e t l env=pure hX:=by
 cases e<;> first|rfl|cases(show hW=hX from h)
abbrev C0:G2->su
 | .Tuple _ _ _=>hW
 | _=>hX
def ya(h:C0 e=hX):swappedStores [t] e env=pure hV:=by
 cases t with
 | Tuple _ _ _=>cases e<;> first|rfl|cases(show hW=hX from h)
 | List _ _=>cases e<;> first|rfl|cases(show hW=hX from h)
 | _=>rfl
abbrev iI:G2->su
 | .Call _ _ _ _=>hW
 | _=>hX
def gC(h:iI o=hX):Mx o a env w=w:=by
 cases o<;> first|rfl|cases(show hW=hX from h)
abbrev oF:G2->su
 | .Set _ _ _=>hW
 | _=>hX
def mD(h:oF e=hX)(x:iy):Oi e env x=pure x:=by
 cases e<;> first|rfl|cases(show hW=hX from h)
structure QE (X:Cx) (e:G2) (t:TE):Prop where
 h:PE X e t
structure QT (X:Cx) (e:G2) (t:TT):Prop where
 h:PT X e t
structure QW (X:Cx) (e:G2) (t:TT):Prop where
 h:PW X e t
structure QA (X:Cx) (es:hH G2) (t:TA):Prop where
 h:PA X es t
structure QS (X:Cx) (st:J5) (t:TS):Prop where
 h:PS X st t
structure QSs (X:Cx) (st:hH J5) (t:TS):Prop where
 h:PSs X st t
structure QG (X:Cx) (e:G2) (t:TG):Prop where
 h:PG X e t
structure QGs (X:Cx) (es:hH G2) (t:TGs):Prop where
 h:PGs X es t
structure QI (X:Cx) (tg iter:G2) (wi:TI):Prop where
 h:PI X tg iter wi
structure QO (X:Cx) (e:kw G2) (t:TO):Prop where
 h:PO X e t
structure QTs (X:Cx) (ifs:hH G2) (t:TT):Prop where
 h:PTs X ifs t
structure OpQ (X:Cx) (f:iy->iy->Sem iy) (r:R2):Prop where
 h:OpR X f r
structure b8 (X:Cx) (f:iy) (r:hH V->Hp->VK->Prop):Prop where
 h:cE X f r
structure MtQ (X:Cx) (id:L8) (r:V->hH V->Hp->VK->Prop):Prop where
 h:MtR X id r
section
variable{X:Cx}{K:ZA}{pos:Pos}
def aw{i j}:QE X (.Constant (.int i) j pos) (tC (.int i)):=⟨HR⟩
def eBl{b j}:QE X (.Constant (.bool b) j pos) (tC (.bl b)):=⟨Kq⟩
def oG{j}:QE X (.Constant .none j pos) (tC .non):=⟨HS⟩
def du{x j}:QE X (.Constant (.str x) j pos) (tC (.str x)):=⟨HU⟩
def vn(i:iv)(b:X.N[i]?∣x)(c:Vis X.env.scope x)(d:(x==("__debug__":ku))=hX)(a:(x==("__classdict__":ku))=hX):QE X (.Name x pos) (mx i):=⟨B7 b c d a⟩
def gvE(g:Gv X.mg x v)(a:Gl X x)(b:(x==("__debug__":ku))=hX):QE X (.Name x pos) (tC v):=⟨Hh g a b⟩
def blE(a:Gl X x)(b:X.mg x=hV)(c:MS x∣u)(r:aX v u)(f:(x==("__name__":ku))=hX)(d:(x==("__debug__":ku))=hX):QE X (.Name x pos) (tC v):=
 ⟨Fq a b c r (λe=>by lia) d⟩
def am:QA X [] AQ:=⟨IA⟩
def paE(a:aT e=hX)(b:QE X e c)(d:QA X f t):QA X (e::f) (Cs c t):=⟨FI b.h d.h (aA a)⟩
def calE(C:Cal X.prog X.w X.K X.mg X.base j x ps sp)(f:bH k X.A)(g:Gl X x)(a:Px j k=hW)
 (b:(x==("__debug__":ku))=hX) (c:(e::d).any aT=hX) (h:QA X (e::d) t):
 QE X (.Call (.Name x p) (e::d) [] pos) (rP sp [] E0 t):=by
 rw[Zy,Xd]at c;show⟨Ja C f g CO h.h (Yj a) b (aA c.1) (dZ c.2)⟩
def cbE{id:L8}(d:b8 X (.builtin id) r)(f:Gl X x)(g:X.mg x=hV)(h:MS x∣.builtin id)(j:(x==("__name__":ku))=hX)(a:(x==("__debug__":ku))=hX)
 (b:(e::c).any aT=hX) (i:QA X (e::c) t):QE X (.Call (.Name x p) (e::c) [] pos) (tCB r t):=by
 rw[Zy,Xd]at b;show⟨Cw d.h f g h i.h (λe=>by lia) a (aA b.1) (dZ b.2)⟩
def ctE(d:b8 X (.type T) r)(f:Gl X x)(g:X.mg x=hV)(h:MS x∣.type T)(j:(x==("__name__":ku))=hX)(a:(x==("__debug__":ku))=hX)
 (b:(e::c).any aT=hX) (i:QA X (e::c) t):QE X (.Call (.Name x p) (e::c) [] pos) (tCB r t):=by
 rw[Zy,Xd]at b;show⟨AT d.h f g h i.h (λe=>by lia) a (aA b.1) (dZ b.2)⟩
def bmE{T id:L8}(h:X.K=K)(m:Oz T)(slot:Slot T name id)(i:OM (.builtin id)=pure (.type "method_descriptor"))(n:MtQ X id r)
 (b:iI o=hX) (a:(e::g).any aT=hX) (j:Wj (e::g).length 30=hW) (c:(d.endLine==f.line)=hW) (p:QE X o q) (s:QA X (e::g) t):
 QE X (.Call (.Attribute o name d) (e::g) [] f) (tBM K T r q t):=by
 let l:=a;rw[Zy,Xd]at l;show⟨CV h m slot i n.h p.h s.h (gC b) ?_ c (aA l.1) (dZ l.2)⟩;rw[ux a];let:decide (~~~(e::g)+ ~~~([]:hH Om)+(if([]:hH Om).isEmpty then 0 else 1)<30)=hW:=Zf ((iv.blt_eq.mp j));rw[this];rfl
def Jd{T id:L8}(h:X.K=K)(f:Oz T)(slot:Slot T name id)(e:OM (.builtin id)=pure (.type "method_descriptor"))(g:MtQ X id r)
 (a:iI o=hX) (b:(c.endLine==d.line)=hW) (i:QE X o j):QE X (.Call (.Attribute o name c) [] [] d) (FP K T r j):=⟨F8 h f slot e g.h i.h (gC a) b⟩
def j3(b:Gl X "range")(c:X.mg "range"=hV)(d:aT a=hX)(e:QA X [a] f):QI X g (.Call (.Name "range" p) [a] [] pos) (Ch f):=⟨AJ b c e.h (aA d)⟩
def C1(d:Gl X "range")(e:X.mg "range"=hV)(f:aT a=hX)(c:aT b=hX)(g:QA X [a,b] h):QI X i (.Call (.Name "range" p) [a,b] [] pos) (Ci h):=
 ⟨AK d e g.h ((aA f).trans (by rw[aA c];rfl)) (aA c)⟩
def anyI(h:X.K=K)(a:QE X l b):QI X c l (F6 K b):=⟨F7 h a.h⟩
section
variable{a b c:G2}{ta tb tc:TE}{op op':T1}{r r':R2}
def yd(e:OpQ X (pw op) r)(d:OpQ X (pw op') r')(f:lastMarks [op,op'] [b,c]=hX)(g:QE X a ta)(h:QE X b tb)(i:QE X c tc):QE X (.Compare a [op,op'] [b,c] pos) (xO r r' ta tb tc):=⟨Co e.h d.h g.h h.h i.h f⟩
def gY(d:OpQ X (pw op) r)(e:L7 op b=hX)(f:QE X a ta)(g:QE X b tb):QE X (.Compare a [op] [b] pos) (tOp r ta tb):=⟨FC d.h f.h g.h e⟩
def bq(d:OpQ X (pw op) r)(e:L7 op b=hX)(f:QE X a ta)(g:QE X b tb):QT X (.Compare a [op] [b] pos) (zj (tOp r ta tb)):=⟨FD d.h f.h g.h e⟩
def opE{op:Operator}(d:OpQ X (Mi op) r)(e:QE X a ta)(f:QE X b tb):QE X (.BinOp a op b pos) (tOp r ta tb):=⟨Kv d.h e.h f.h⟩
def Je(d:QE X a ta):QE X (.UnaryOp .USub a pos) (tUn (rU λi=> .int (-i)) ta):=⟨Kw Ir d.h⟩
def noO:QO X hV uf:=⟨FK⟩
def C2(h:QE X a ta):QO X (hY a) (Cy ta):=⟨FL h.h⟩
def uy{op}(h:QE X a ta):QE X (.BoolOp op [a] pos) ta:=⟨Ib h.h⟩
def qR{rest:hH G2}(d:QE X a ta)(e:QE X (.BoolOp .And (b::rest) pos) tb):QE X (.BoolOp .And (a::b::rest) pos) (B9 ta tb):=⟨Ic d.h e.h⟩
def orV{rest:hH G2}(d:QE X a ta)(e:QE X (.BoolOp .Or (b::rest) pos) tb):QE X (.BoolOp .Or (a::b::rest) pos) (Ia ta tb):=⟨Kt d.h e.h⟩
def bT(h:QA X d t):QE X (.List d pos) (IC t):=⟨IE h.h⟩
def eX{d}(h:QA X e t):QE X (.Tuple e d pos) (IB t):=⟨ID h.h⟩
def gE:QE X (.Dict [] [] pos) x5:=⟨CL⟩
variable{tA tB':TT}{rest:hH G2}
def fO(d:QT X a tA):QT X (.UnaryOp .Not a pos) (HW tA):=⟨HZ d.h⟩
def kT(d:QT X a tA):QW X (.BoolOp .And [a] pos) tA:=⟨Ft d.h⟩
def mE(d:QT X a tA):QW X (.BoolOp .Or [a] pos) tA:=⟨HX d.h⟩
def uz(d:QT X a tA)(e:QW X (.BoolOp .And (b::rest) pos) tB'):QW X (.BoolOp .And (a::b::rest) pos) (Fs tA tB'):=⟨HY d.h e.h⟩
def orW(d:QT X a tA)(e:QW X (.BoolOp .Or (b::rest) pos) tB'):QW X (.BoolOp .Or (a::b::rest) pos) (tOr tA tB'):=⟨Ks d.h e.h⟩
def wT(h:QW X a tA):QT X a tA:=⟨PW.pt h.h⟩
def nM:QTs X [] FY:=⟨FZ⟩
def gF(h:QT X c tA):QTs X [c] tA:=⟨F0 h.h⟩
end
def dz(S:aD X c e f)(l:X.calm=hW)(m:oF iter=hX)(hi:QI X j iter n)
 (o:∀a b d,QG (cc X c e a b d) j g) (p:∀a b d,QTs (cc X c e a b d) h q) (r:∀a b d,QE (cc X c e a b d) i s):
 QE X (.ListComp i [%[j,iter,h|0]] c pos) (si n e.length f g q s):=⟨F2 S l hi.h (λa b d=>(o a b d).h) (λa b d=>(p a b d).h) (λa b d=>(r a b d).h) (mD m)⟩
def aQ:QSs X [] Ca:=⟨Fu⟩
def ai{st:J5}{rest:hH J5}(a:QS X st t)(b:QSs X rest u):QSs X (st::rest) (aS t u):=⟨Cb a.h b.h⟩
def ao{st:J5}(a:QS X st t):QSs X [st] t:=⟨Fv a.h⟩
def ifS(d:QT X c e)(f:QSs X a t)(g:QSs X b u):QS X (.If c a b pos) (kN e t u):=⟨Ku d.h f.h g.h⟩
def aL(a:QE X e b):QS X (.Return (hY e) pos) (jh b):=⟨Ie a.h⟩
def iJ{st:J5}:QS X st t5:=⟨Cc⟩
def bU(c:O0 (Mq X.prog X.w) X.A X.env X.xe)(d:X.calm=hW)(e:oF iter=hX)(hi:QI X b iter f)(h:QG X b g)(i:QSs X a j):
 QS X (.For b iter a [] pos) (vK f g j):=⟨Ik c d hi.h h.h i.h (mD e)⟩
def uA(i:iv)(b:X.N.Nodup)(hi:X.N[i]?∣x)(c:Loc X.env.scope x)(d:X.fn x=hW\/X.env.scope.names.lookup x∣.local)(f:gB e=hX)(g:QE X e h):
 QS X (.Assign [.Name x a] e pos) (qN h (kO i)):=⟨Ij b hi c g.h (jk f) d⟩
def bD(a:gB e=hX)(b:QE X e c):QS X (.Expr e pos) (mV c):=⟨Fw b.h (jk a)⟩
def Jf(c:gB e=hX)(hw:C0 e=hX)(a:aT b=hX)(d:QE X e f)(h:QG X b g):QS X (.Assign [b] e pos) (qN f g):=
 ⟨Ii d.h h.h (jk c) (ya hw) (by rw[eB a];rfl)⟩
def oH(i:iv)(a:X.N.Nodup)(hi:X.N[i]?∣x)(b:Loc X.env.scope x)(c:X.fn x=hW\/X.env.scope.names.lookup x∣.local):QG X (.Name x pos) (kO i):=⟨Fx a hi b c⟩
def cJ:QGs X [] Ig:=⟨Fy⟩
def gsE(a:aT e=hX)(b:QG X e t)(c:QGs X d u):QGs X (e::d) (Cd t u):=⟨Ce b.h c.h (by rw[eB a];rfl)⟩
def eY(c:X.K=K)(d:X.calm=hW)(b:a.any aT=hX)(h:QGs X a t):QG X (.Tuple a k pos) (Fz K a.length t):=by
 subst c;show⟨Ih d h.h (fN b).1 (fN b).2⟩
def zw:OpQ X (Mi .Sub) (rI0 λi j=> .int (i-j)):=⟨Ip⟩
def C3:OpQ X (Mi .Mult) CT:=⟨F4⟩
def bK:OpQ X (Mi .Mod) (rI (λ_ j=>0<j) λi j=> .int (i%j)):=⟨Iq⟩
def kh:OpQ X (Mi .FloorDiv) (rI Kz λi j=> .int (i/j)):=⟨FA⟩
def jm:OpQ X (pw .Eq) IT:=⟨IU⟩
def sw:OpQ X (pw .NotEq) IV:=⟨IW⟩
def F9:OpQ X (pw .Lt) (rI0 λi j=> .bl (decide (i<j))):=⟨KA⟩
def Bc:OpQ X (pw .LtE) (rI0 λi j=> .bl (decide (i<=j))):=⟨KB⟩
def vS:OpQ X (pw .Gt) (rI0 λi j=> .bl (decide (j<i))):=⟨KC⟩
def KG:OpQ X (pw .Is) (λx y H Q=>y= .non/\Q (.bl (decide (x= .non))) H):=⟨Iv⟩
def uB:OpQ X (pw .IsNot) (λx y H Q=>y= .non/\Q (.bl (!decide (x= .non))) H):=⟨FB⟩
def q_in(h:X.K=K):OpQ X (pw .In) (F5 K):=⟨Jc h⟩
nonrec abbrev zx:R2:=λx y H Q=>asS x λi=>asS y λj=>Q (.bl (!(!(LA j i 0 j.length 1).isEmpty))) H
nonrec abbrev zy(K:ZA):R2:=λx y H Q=>zx x y H Q\/rIn K hW x y H Q
def zA(h:X.K=K):OpQ X (pw .NotIn) (zy K):=by subst h;show⟨uj.or ui⟩
def dD(h:X.K=K):b8 X (.builtin "len") (λxs H Q=>oneA xs λx=>∃n,FE K x H n/\Q (.int n) H):=⟨A2 h⟩
def C4(h:X.K=K)(a:X.calm=hW):b8 X (.builtin "all") (λxs H Q=>oneA xs λb=>asR b λp=>∃(bs:hH su),Qb K H p (bs.map V.bl)/\Q (.bl (bs.all id)) H):=⟨Ba h a⟩
def KH(a:X.calm=hW):b8 X (.builtin "min") (λxs H Q=>mw xs λb x2=>asI b λi=>asI x2 λj=>Q (.int (if j<i then j else i)) H):=⟨AM a⟩
def KI(h:X.K=K):b8 X (.builtin "isinstance") (λxs H Q=>∃x n t b,xs=[x,.ty n]/\jU K H x t/\Ov K t (.type n)∣b/\Q (.bl b) H):=⟨Bb h⟩
def C5:b8 X (.type "int") (λxs H Q=>(∃i,xs=[.int i]/\Q (.int i) H)\/∃k,xs=[.bl k]/\Q (.int (if k then 1 else 0)) H):=⟨AN⟩
def gZ(h:X.K=K):b8 X (.type "list") (λxs H Q=>oneA xs λa=>asR a λp=>∃ys,(Qb K H p ys\/SqT K H p ys)/\∀l,H l=hV->Q (.ref l) (Qa H l (.lst ys))):=⟨x8 h⟩
def aZ:MtQ X "list.append" uo:=⟨rY⟩
def oJ:MtQ X "list.extend" uq:=⟨AU⟩
def Ga:MtQ X "list.clear" xY:=⟨CF⟩
def uC(h:X.K=K):MtQ X "str.join" (zv K):=⟨CU h⟩
end
open PySem PySem.Spec PyProof.Rows PySem.SeqAt
abbrev ye:V->hH V->Hp->VK->Prop:=λx vs H Q=>asS x λz=>oneA vs λa=>asS a λy=>1<= ~~~y/\ ~~~z+2<=lp/\∀l,H l=hV->Q (.ref l) (Qa H l (.lst ((Txt.split z y)\3)))
def sA:∀ss k,aK (ss\3) (strsFrom k ss)
 |[],_=> .nil
 | _::r,k=> .cons %[_|rfl] (sA r _)
def C6{X:Cx}:MtM X "str.split" ye:=by
 intro gx s o H x vs v us Q I j l h;let%[z,rfl|f]:=dS h;let%[p,rfl|g]:=bM f;let%[y,rfl|i]:=dS g;let%[r,w|q]:=i;let%[t|rfl]:=j;let%[A,rfl|m]:=l.one;let%[u|rfl]:=m;let b:(~~~y==0)=hX:=by simp;lia
 let n:=split_le z y;by_cases c1:(decide (~~~z< ~~~y)||decide (R7 z<R7 y))=hW
 .let e:Txt.split z y=[z]:=ix c1;rw[e]at q;show N2 RT (NZ _ _ _) Rw (Ra _ _) (meets_str_split_cannot_occur z y t u c1) %[.ref _,_,I.lnew (ys:=[.str z]) (.cons %[_|rfl] .nil) (by change 1<=lp;decide),rfl|q _ I.fresh]
 .let c:=Q3.mpr c1;by_cases d:(LA z y 0 z.length (~~~z+1)).isEmpty=hW
  .let e:Txt.split z y=[z]:=(ij c1).trans (ix d);rw[e]at q;show N2 RT (NZ _ _ _) Rw (Ra _ _) (meets_str_split_not_found z y t u c b d) %[.ref _,_,I.lnew (ys:=[.str z]) (.cons %[_|rfl] .nil) (by change 1<=lp;decide),rfl|q _ I.fresh]
  .let e:Txt.split z y=Rb z _ y.length:=(ij c1).trans (ij d);let a: ~~~(Rb z (LA z y 0 z.length (z.length+1)) y.length)<=lp:=by rw[<-e];lia
   show N2 RT (NZ _ _ _) Rw (Ra _ _) (meets_str_split_sep z y t u c b (Q3.mpr d) ⋯ a) ?_;rw[<-e]at a ⊢;show%[.ref _,_,I.lnew (sA _ _) (by rw[Z6];show a),ρ|q _ I.fresh]
def zB{X:Cx}:MtQ X "str.split" ye:=⟨C6⟩
abbrev Ite(K:ZA)(a:jg)(xs:hH V):It:=⟨λi H=>Qb K H a xs/\i< ~~~xs,λi H v b=>∃x T,xs[i]?∣x/\H T=hV/\v= .ref T/\b=Qa H T (.tup [.int i,x]),λi H=>Qb K H a xs/\ ~~~xs<=i⟩
abbrev ESt(e it a:jg)(i:iv)(h:z4):Prop:=(∃b,IsEnum h e it i b)/\h.IsListIter it a i
def Bd{P:n7}{K:ZA}(e it a:jg)(xs:hH V)(hne:e≠it):qO P w K (.Tuple elts kt tp) (Ite K a xs) [e,it] e (ESt e it a) where
 mem:=by simp
 obj:=λi h st b hb=>by
  let%[%[old|he],o1,e1,_|d1]:=st;simp only[X2,Xc,Mb]at hb;rcases hb with rfl|rfl
  .show%[_,he|λv q=>nomatch q]
  .show%[o1,e1|λv q=>by rw[d1]at q;cases q]
 keep:=λi h h' st k=>by
  let%[%[old|he],o1,e1|r1]:=st;show%[%[old|k e ∅ _ he],o1,k it ∅ _ e1|r1]
 item:=by
  intro X hP hw hK hc i gx s σ H E I hf st hg;subst hP hw hK;let%[%[old|he]|hit]:=st;obtain⟨hq,hi⟩:Qb X.K H a xs/\i< ~~~xs:=hg;let%[its,rv,p|hz]:=I.list hq;let%[u,hu|ru]:=rv.get (i:=i) (x:=xs[i]) ∅;show wpAny_pyNext_enum_item he hit p.isList ↑hu hne λh1 he1 hit1 ht1 hz1 hk1=>%[_,rfl|wpAny_letOwnedTupleGo_enum he1 λh2 he2 sb2=>?_]
  replace sb2:v0 e h1 h2:=sb2;let elt:=Zv he;let kk:∀b o,b∉[e,it]->s.heap.get? b∣o->h2.get? b∣o:=λb o hb q=>by
   simp only[X2,Xc,Mb,Og]at hb;show(sb2.2 b hb.1).trans (hk1 b o hb.1 hb.2 q)
  let J:Qc X gx σ H {s with heap:=h2,toks:=s.toks+1}:=I.moved hf kk;let I2:Qc X gx σ (Qa H ⇑s (.tup [.int i,xs[i]])) _:=
   I.stood J (Zi _) %[by change 2<=lp;decide,[.int i s.toks,u],.cons %[_|rfl] (.cons ru .nil),_,((sb2.2 _ (X7 elt)).trans ht1),rfl,_|rfl]
  show%[.ref ⇑s,_,I2,ρ,%[xs[i],_,by simp,I.fresh,ρ|ρ],%[%[u|he2]|?_]|λb hb=>?_]
  .let%[o,q|r]:=hit1;show%[o,(sb2.2 _ (Lx hne)).trans q|r]
  .let:b<⇑s:=by
    simp only[X2,Xc,Mb]at hb;rcases hb with rfl|rfl
    .show elt
    .show(by let%[o,q|_]:=hit;show Zv q)
   rw[ap (Zt this)];show(hf b hb).1
 done:=by
  intro X hP hw hK hc i gx s σ H E I hf st hg;subst hP hw hK;let%[%[old|he]|hit]:=st;obtain⟨hq,hi⟩:Qb X.K H a xs/\ ~~~xs<=i:=hg;let%[its,rv,p|hz]:=I.list hq;let hl:= ~~~rv;show wpAny_pyNext_enum_end (I.ok.hd hc) he hit p.isList (by simp;lia) λh1 xb=>%[rfl|I.moved hf λb o hb q=>?_]
  simp only[X2,Xc,Mb,Og]at hb;show xb b o hb.2 q
 self:=λA i s Q E st h=>by
  let%[%[old|he]|hit]:=st;show VF he h
abbrev Hi(K:ZA)(c:TA):TI:=λd H R=>c d H λvs b=>oneA vs λe=>asR e λa=>∃xs,Qb K b a xs/\R (Ite K a xs) b
section
variable{X:Cx}{K:ZA}{pos:Pos}
def vT(n:X.K=K)(o:Gl X "enumerate")(r:X.mg "enumerate"=hV)(v:aT a=hX)(w:QA X [a] y):
 QI X (.Tuple i M N) (.Call (.Name "enumerate" p) [a] [] pos) (Hi K y):=by
 subst n
 constructor
 intro gx s z H R I h;show Call_ (jf I o r boot_enumerate (LY (thP (w.h pos gx s z H _ I h) λus d vs A c B C=>?_) (aA v) rfl));let%[O,rfl|e]:=bM C;let%[l,rfl|f]:=aN e;let%[xs,E|q]:=f;let%[u,rfl|G]:=dw B;cases G;let%[its,Q,p|T]:=c.list E;show call_enumerate_list p.isList λU j g J L=>VF j %[⇑d+1,[⇑d+1,⇑d],ESt _ ⇑d l,Ite X.K l xs,A,rfl,(c.kept L),Bd _ _ _ _ (iv.succ_ne_self _),%[%[_|j]|g],λb m=>?_|q]
 simp only[X2,Xc,Mb]at m;rcases m with rfl|rfl
 .show c.fpOk (Yl _) (c.hok.fresh (Yl _))
 .show c.fpOk (Zi _) (c.hok.fresh (Zi _))
end
section
variable(h:z4)(x y:ku)(t u:Tok)
noncomputable abbrev zs1:z4:=h.push {cls:= .type (N8 x),data:= .fields #[.str x t,.int 0 0]}
noncomputable abbrev zs2:z4:=(zs1 h x t).push {cls:= .type (N8 y),data:= .fields #[.str y u,.int 0 0]}
noncomputable abbrev zs3:z4:=(zs2 h x y t u).push {cls:= .type "tuple",data:= .seq #[.ref h.objs.size,.ref (zs1 h x t).objs.size]}
noncomputable abbrev zs4:z4:=(zs3 h x y t u).push {cls:= .type "tuple",data:= .seq #[.none,.none]}
noncomputable abbrev zs5:z4:=(zs4 h x y t u).push {cls:= .type "zip",data:= .fields #[.none,.bool hX,.bool hX,.ref (zs2 h x y t u).objs.size,.ref (zs3 h x y t u).objs.size]}
end
def nN(x y:ku)(t u:Tok):
 Meets (oy.«zip.__new__» %[[.type "zip",.str x t,.str y u]|[]]) (λ_ R s=>R (.ok (.ret (.ref (zs4 s.heap x y t u).objs.size))) (s>>>zs5 s.heap x y t u)):=
 .of_wp λprog w A R s b=>by
  let%[c,g,d,tk|os]:=s;let a:=PySem.sub_zip
  wp_walk using VE (x:=x) (t:=t),VE (x:=y) (t:=u)
  show%[_,ρ|b]
section
#where
def oK
 (h:∀h',RR h' (⇑s+4) (⇑s+2) (⇑s+3) .none->OA h' (⇑s+2) (.ref ⇑s) (.ref (⇑s+1))->OA h' (⇑s+3) .none .none->
  h'.IsStrIter ⇑s (N8 x) x t 0->h'.IsStrIter (⇑s+1) (N8 y) y u 0->(∀c o,s.heap.get? c∣o->h'.get? c∣o)->Q (.ref (⇑s+4)) (s>>>h')):
 ↥A (call (.type "zip") [.str x t,.str y u]) Q E s:=by
 show callType_new F.called_zip (!1) (F.typeCall_zip_2 _ _) (F.newCall_zip_2 _ _) (λobj=>F.args_object_init_3 obj _ _) F.entry_zip_new (nN x y t u) ?_;let n1:(zs1 s.heap x t).objs.size=⇑s+1:=Zq ..;let a:(zs2 s.heap x y t u).objs.size=⇑s+2:=by rw[Zq,n1]
 let b:(zs3 s.heap x y t u).objs.size=⇑s+3:=by rw[Zq,a]
 let e:(zs4 s.heap x y t u).objs.size=⇑s+4:=by rw[Zq,b]
 let f:∀c o,(zs4 s.heap x y t u).get? c∣o->(zs5 s.heap x y t u).get? c∣o:=λ_ _ q=>Z7 _ q
 let g:∀c o,(zs3 s.heap x y t u).get? c∣o->(zs5 s.heap x y t u).get? c∣o:=λc o q=>f c o (Z7 _ q)
 let i:∀c o,(zs2 s.heap x y t u).get? c∣o->(zs5 s.heap x y t u).get? c∣o:=λc o q=>g c o (Z7 _ q)
 let k2:∀c o,(zs1 s.heap x t).get? c∣o->(zs5 s.heap x y t u).get? c∣o:=λc o q=>i c o (Z7 _ q)
 let k1:∀c o,s.heap.get? c∣o->(zs5 s.heap x y t u).get? c∣o:=λc o q=>k2 c o (Z7 _ q)
 let d:(zs5 s.heap x y t u).get? (zs4 s.heap x y t u).objs.size∣_:=Zj _ rfl;let j:(zs5 s.heap x y t u).get? (zs3 s.heap x y t u).objs.size∣_:=f _ _ (Zj _ rfl);let l:(zs5 s.heap x y t u).get? (zs2 s.heap x y t u).objs.size∣_:=g _ _ (Zj _ rfl);let m:=i _ _ (Zj _ rfl);change _/\_;rw[a,b,e]at d;rw[n1,a]at l;rw[b]at j;rw[n1]at m;rw[e];show%[%[_,d|ρ]|h _ d l j %[_,(k2 _ _ (Zj _ rfl)),ρ|ρ] %[_,m,ρ|ρ] k1]
end
abbrev Hj(a:TA):TI:=λb H R=>a b H λvs c=>∃x y,vs=[.str x,.str y]/\R (Itz x y) c
section
variable{X:Cx}{K:ZA}{pos:Pos}
def Hk(v:Gl X "zip")(w:X.mg "zip"=hV)(z:aT a=hX)(f:aT b=hX)(A:QA X [a,b] B):
 QI X (.Tuple n M N) (.Call (.Name "zip" p) [a,b] [] pos) (Hj B):=by
 constructor
 intro gx s C H R I h;show Call_ (jf I v w boot_zip (LY (thP (A.h pos gx s C H _ I h) λus c vs E g G J=>?_) (aA z) (by rw[aA f];rfl)));let%[x,y,e|q]:=J;subst e;let%[O,Q,rfl,%[t|rfl],u|rfl]:=kP G;show oK λT o l m hi1 hi2 L=>PH o ?_
 let ne:∀i j,i≠j->⇑c+i≠⇑c+j:=λi j h e=>h (Qf e)
 show%[⇑c+4,[⇑c+4,⇑c+2,⇑c+3,⇑c+0,⇑c+1],_,Itz x y,E,ρ,(g.kept L),
  CZ _ _ _ _ _ x y t u %[ne 2 4 (!1),ne 3 4 (!1),ne 0 4 (!1),ne 1 4 (!1),ne 2 3 (!1),ne 2 0 (!1),ne 2 1 (!1),ne 3 0 (!1),ne 3 1 (!1)|ne 0 1 (!1)],
  %[o,l,%[_,_|m],hi1|hi2],λb r=>?_|q]
 let d:⇑c<=b:=by
  simp only[X2,Xc,Mb]at r;rcases r with rfl|rfl|rfl|rfl|rfl<;> show OQ _ _
 show g.fpOk d (g.hok.fresh d)
end
inductive D where
 | non|bl (b:su)|int (i:ri)|str (x:ku)|lst (ds:hH D)|tup (ds:hH D)
section
variable{K:ZA}{H H':Hp}
def ah.seqT(e:ah H H')(h:SqT K H a xs):SqT K H' a xs:=by
 rcases h with(h|⟨o,h⟩)|h
 .show .inl (.inl (e _ _ h))
 .show .inl (.inr %[o|e _ _ h])
 .show .inr h
end
def yf{X:Cx}(J:X.N.Nodup)(u:X.N[i]?∣x)(L:Loc X.env.scope x)(M:X.fn x=hW\/X.env.scope.names.lookup x∣.local)
 (w:N7 (.ListComp l [%[y,iter,p|0]] a pos) (hY (.Name x B)) f.line X.env=pure hW) (S:aD X a r A) (N:X.calm=hW) (O:∀x,Oi iter X.env x=pure x) (hi:PI X y iter Q)
 (T:∀c d j,PG (cc X a r c d j) y g) (U:∀c d j,PTs (cc X a r c d j) p Y) (he:∀c d j,PE (cc X a r c d j) l te):
 PS X (.Assign [.Name x B] (.ListComp l [%[y,iter,p|0]] a pos) f) (qN (si Q r.length A g Y te) (kO i)):=by
 intro gx s σ H D I h;show Z2 (Pu ?_);change vk _ _ (N7 (.ListComp l _ a pos) (hY (.Name x B)) f.line X.env>>= _) _ _ _;rw[w];show Z2 (Z3 (Z2 (Z2 (sj S N hi T U he O I h λD' C H5 s6 fl m hn j k q=>?_))));let%[o,es,ep,E,hd|hr]:=id hn;let I7:=(k s6.heap (v0.refl _ _)).pinned (λb n=>(Xv n)▸j) λb n=>by
  rw[Xv n];show%[o,E|λv z=>by lia]
 show VH (kM I7 J u L (v:= .ref D') rfl (λs8 G=>%[m,%[o,es,ep,((G.pin _ (X1 _ (X1 _ (fJ (X4.mpr rfl) E)))).1),hd|hr]|λh' sb=>Z3 (Z3 %[_,H5,(G.unpinned).moved (λb n=>(Xv n)▸j) λb o' n e=>(sb.2 b (λz=>n (X4.mpr z))).trans e|q])]) M)
def Be(h:(env.blockKind== .function&&env.kindOf x==hY .local&&b.line==pos.line&&!(a.names.any λ(n,k)=>n==x&&(k== .local||k== .cell)))=hW):
 N7 (.ListComp c gens a pos) (hY (.Name x b)) l env=pure hW:=by
 change(pure (env.blockKind== .function&&env.kindOf x==hY _&&b.line==pos.line&&!(a.names.any _)))=pure hW;rw[h]
def kU{X:Cx}(i:iv)(q:X.N.Nodup)(f:X.N[i]?∣x)(r:Loc X.env.scope x)(s:X.fn x=hW\/X.env.scope.names.lookup x∣.local)
 (h:(X.env.blockKind== .function&&X.env.kindOf x==hY .local&&u.line==pos.line&&!(c.names.any λ(n,k)=>n==x&&(k== .local||k== .cell)))=hW) (S:aD X c e j) (v:X.calm=hW) (w:oF iter=hX) (hi:QI X o iter y)
 (z:∀a b d,QG (cc X c e a b d) o g) (A:∀a b d,QTs (cc X c e a b d) l B) (C:∀a b d,QE (cc X c e a b d) m E):
 QS X (.Assign [.Name x u] (.ListComp m [%[o,iter,l|0]] c pos) p) (qN (si y e.length j g B E) (kO i)):=
 ⟨yf q f r s (Be h) S v (mD w) hi.h (λa b d=>(z a b d).h) (λa b d=>(A a b d).h) (λa b d=>(C a b d).h)⟩
section
#version
end
def cf:Slot "set_iterator" "__next__" "set_iterator.__next__":=
 .of (owner:="set_iterator") (n:="__next__") (by rw[Wr,Uo];kernel_rfl) (!0) (!0) (!0) (by first|show .inl (!0)|show .inr ∅) (by kernel_rfl)
def ik:UM table "set_iterator.__next__"=hY oy.«set_iterator.__next__»:=entryFor_of_tree (by kernel_rfl)
def i4(a:iy):argsOk "set_iterator.__next__" %[[a]|[]]:=by kernel_rfl
def qS:UM table "set.__iter__"=hY oy.«frozenset.__iter__»:=S8 (id':="frozenset.__iter__") (by kernel_rfl) rfl (!0) (by kernel_rfl)
def qT(t:nI)(n:iv):(t.orStandIn n).led=t.led:=by unfold nI.orStandIn;split<;> rfl
def yg(t:nI)(a:o0 _)(h:ri)(x:iy):(layNew t a h x).2.1.led=t.led:=by
 unfold layNew;cases t.freeSlot h with
 | none=>rfl
 | some p=>
   show qT _ _
def uD(t:nI)(c:o0 _)(n:iv):(PM t c n).2.1.led=t.led:=by
 unfold PM;cases a:t.relaid _ n with
 | none=>rfl
 | some p=>
   let%[t'|d]:=p;simp only
   split
   .simp only[Tu,Uc]at a;cases b:Tg _ _ with
    | none=>rw[b]at a;cases a
    | some f=>rw[b]at a;injection a with a;injection a with e g;rw[<-e]
   .rfl
def oM(t:nI)(c:o0 _)(n:iv)(d:t.plain=hX):(PM t c n).2.1.plain=hX:=by
 unfold PM;cases a:t.relaid _ n with
 | none=>rfl
 | some p=>
   let%[t'|e]:=p;simp only
   split
   .simp only[Tu,Uc]at a;cases b:Tg _ _ with
    | none=>rw[b]at a;cases a
    | some g=>rw[b]at a;injection a with a;injection a with f h;show f▸d
   .rfl
abbrev aY(w:xl):su:=w.params.followText "set-order"
abbrev bx(w:xl)(a:jg)(ks:ZB)(h:z4):Prop:=
 ∃o b c t ss,h.get? a∣o/\o.ExactSet/\o.data= .set b c t/\Me (b.toList\2) ss/\ss.Perm ks/\ks.Nodup/\(∀e∈b.toList,∃z u,e=(M4 w z,.str z u))/\b.size<N9/\t.fits b.size=hW/\(b.size≠0->t.plain=hX)/\t.led=!aY w
def sB(h:∀e∈l,∃z u,e=(M4 w z,.str z u)):ElemsOf (aU prog w) l:=λe a=>by
 let%[z,u|rfl]:=h e a;show%[%[kj z,ee z u|ρ]|ρ]
def eO:∀{vs:ZF} {ss:ZB} {z:ku},Me vs ss->((∃u,LH z u∈vs)↔z∈ss)
 | _,_,z,.nil=>by simp
 | _,_,z,.cons x t h=>by
   let b:=eO (z:=z) h
   constructor
   .rintro⟨u,a⟩;rcases X2.mp a with e|e
    .injection e with c _;show c▸Zm
    .show Zk _ (b.mp %[u|e])
   .intro d;rcases X2.mp d with e|e
    .show e▸%[t|Zm]
    .let%[u|a]:=b.mpr e;show%[u|Zk _ a]
def jn:∀{vs ws:ZF} {ss ts:ZB},Me vs ss->Me ws ts->Me (vs++ws) (ss++ts)
 | _,_,_,_,.nil,h=>h
 | _,_,_,_,.cons x t h,h'=> .cons x t (jn h h')
def bE:∀{vs:ZF} {ss:ZB},Me vs ss-> ~~~vs= ~~~ss
 | _,_,.nil=>rfl
 | _,_,.cons x t h=>by rw[Zr,Zr,bE h]
def cm(h:Me vs ss)(p:ws.Perm vs):∃ts,Me ws ts/\ts.Perm ss:=by
 show%[ws.map strOf,strsAre_map ws λv a=>h.all v (p.mem_iff.mp a)|?_];let:=p.map strOf;rwa[h.strs]at this
section
#where
variable{a:jg}
def bx.stored{h:z4}{o:NB}{i b:o0 (ri×iy)}{t t':nI}(j:h.get? a∣o)(c:o.ExactSet)(d:o.data= .set i f t)(l:Me (b.toList\2) ss)(m:ss.Perm ks)(n:ks.Nodup)
 (p:∀e∈b.toList,∃z u,e=(M4 w z,.str z u)) (r:b.size<N9) (v:t'.fits b.size=hW) (y:t'.plain=hX) (B:t'.led=!aY w):
 (h.update a (Ni b t')).get? a=hY {o with data:= .set b (f+1) t'}/\bx w a ks (h.update a (Ni b t')):=by
 let g:=by
  let q:=LP (Ni b t') j (by rw[QN b t' d];rfl);rwa[QN b t' d]at q
 show%[g,_,b,f+1,t',ss,g,c,ρ,l,m,n,p,r,v,λ_=>y|B]
def vU{g:su->Sem Q7}(O:∀(b:su) (h:kG) (q:Q7->kG->Prop),q () h->↥A (g b) q E h){m:su}{R:kw su->kG->Prop}(r:s.heap.get? a∣o)(i:o.ExactSet)(v:o.data= .set es ep t)
 (y:Me (c.toList\2) ss) (B:ss.Perm ks) (C:ks.Nodup) (G:∀e∈c.toList,∃z u,e=(M4 w z,.str z u)) (j:c.size<N9) (Q:d.fits c.size=hW) (H:d.plain=hX) (I:d.led=!aY w)
 (J:∀h',v0 a s.heap h'->bx w a ks h'->R (hY hW) (s>>>h')):
 ↥A (do
  UE a c d
  if(!m&&d.tooFull)=hW then do
   g (PM d c (MJ c.size)).2.2
   UE a (PM d c (MJ c.size)).1 (PM d c (MJ c.size)).2.1
   pure (hY hW)
  else pure (hY hW)) R E s:=by
 let%[M|T]:=bx.stored r i v y B C G j Q H I;let N:=v0.update s.heap a (Ni c d);show Z2 (M7 r v ?_ (M8 j))
 split
 .let p:=relayAll_perm d c (MJ c.size);let f:=relayAll_fits d c (MJ c.size);let l:=uD d c (MJ c.size);let pl:=oM d c (MJ c.size) H
  generalize PM d c _=L at p f l pl ⊢
  let%[n,t3|gv]:=L;let z:n.size=c.size:=by rw[<-Zb,p.length_eq,Zb]
  let%[ts,U|Y]:=cm y (p.map _);show Z2 (O _ _ _ (Z2 (M7 M rfl (Z3 (J _ (N.trans (v0.update _ a _)) (bx.stored M i rfl U (Y.trans B) C (λe he=>G e (p.mem_iff.mp he)) (by rw[z];show j) f pl (l.trans I)).2)) (M8 (by rw[z];show j)))))
 .show Z3 (J _ N T)
def kW{ks:ZB}(hS:bx w a ks s.heap)(r: ~~~ks+1<N9)
 (hQ:∀h' b,v0 a s.heap h'->bx w a (if z∈ks then ks else ks++[z]) h'->Q b (s>>>h')):↥A (T4 a (.str z tk) (M4 w z)) Q E s:=by
 let%[o,c,ep,t,ss,C,v,G,g,hp,H,h,hb,hf,ab|d]:=hS;let hn:c.size= ~~~ks:=by
  let q:=bE g;rw[Z6,Zb,hp.length_eq]at q;show q
 let hE:ElemsOf (aU prog w) c.toList:=sB h;let I:(aU prog w).is (kj z) (.str z tk)=hW:=ee z tk;unfold T4 setAddHashedIn;show zp (Z2 (oT C G hf ?_));dsimp only;rw[byScan_of (knd:=aU prog w) rfl hb hE];simp only[↓reduceIte];unfold setAddByScan;show Z2 (Z2 (NY (Z2 (VZ I C G hf hE ?_))));let J:(∃e∈c.toList,(aU prog w).is (kj z) e.2=hW)↔z∈ks:=by
  rw[<-hp.mem_iff,<-eO g]
  constructor
  .rintro⟨e,l,q⟩;let%[y,u|rfl]:=h e l;let q:jX (kj z) (LH y u)=hW:=q;rcases a9 q with⟨i,t',q1,m⟩|⟨y',t',q1,m⟩
   .cases m
   .cases q1;show%[u|Xx ⟨_,l,by injection m with e1 _;rw[e1]⟩]
  .rintro⟨u,hu⟩;let%[e,l|q]:=Xw hu;show%[e,l|q▸ee z u]
 cases hr:Vv _ c.toList with
 | some j=>
   let%[hj,ac|_]:=QK.mp hr;let hz:=J.mp %[c.toList[j],Yh hj|ac];let q:=hQ s.heap hX (v0.refl a s.heap) ((ix hz)▸%[o,c,ep,t,ss,C,v,G,g,hp,H,h,hb,hf,ab|d]);show Z3 (Z3 q)
 | none=>
   let hz:z∉ks:=λq=>by
    let%[e,l|m]:=J.mpr q;let:=Sh.mp hr e l;rw[m]at this;cases this
   rw[ij hz]at hQ;let M:=layNew_perm t c (M4 w z) (.str z tk);let lf:=layNew_fits t c (M4 w z) (.str z tk);let ll:=yg t c (M4 w z) (.str z tk)
   generalize hL:layNew t c _ _=L at M lf ll
   let%[B,t1,al|ag]:=L;rw[N6]at M;let gone:∀b f Q',Q' () f->↥A (match b with|true=>Qs "set.scan.the-table-gave-way"|false=>pure ()) Q' E f:=λb f Q' q=>by
    cases b
    .show Z3 q
    .show NY q
   let n:∀e∈B.toList,∃z u,e=(M4 w z,.str z u):=λe l=>by
    rcases Xu (M.mem_iff.mp l)with q|q
    .show h e q
    .rw[Xv q];show%[z,tk|ρ]
   let q1:Me ((c.toList++[(M4 w z,LH z tk)])\2) (ss++[z]):=by
    rw[Zd];show jn g (.cons z tk .nil)
   let%[ts,m|q3]:=cm q1 (M.map _);let N:=q3.trans (hp.append_right _);let p:=n6 H hz;let ae:B.size=c.size+1:=by rw[<-Zb,M.length_eq,Z9,Zb];rfl
   let O:B.size<N9:=by rw[ae,hn];show r
   let fin:∀h',v0 a s.heap h'->bx w a _ h'->↥A _ Q E _:=λh' T U=>Z3 (hQ h' hW T U)
   show Z2 (gone _ _ _ ?_);cases Y:t1.plain with
   | true=>
     show Z2 (Z3 (vU gone C v G m N p n O (nI.fits_plain_off lf) rfl (ll.trans d) λh' T U=>fin h' T U))
   | false=>
     show vU gone C v G m N p n O lf Y (ll.trans d) λh' T U=>fin h' T U
def vV(d:bx w a ks s.heap)(c: ~~~ks+1<N9)
 (e:∀h' b,v0 a s.heap h'->bx w a (if z∈ks then ks else ks++[z]) h'->Q b {s with heap:=h',toks:=s.toks+1}):↥A (T5 a (.str z tk)) Q E s:=by
 show zp (Z2 (V1 (kW d c e)))
end
abbrev nO(ks:ZB)(z:ku):ZB:=if z∈ks then ks else ks++[z]
abbrev aR(ss:ZB):ZB:=ss.foldl nO []
def C7(ks:ZB)(z:ku): ~~~(nO ks z)<= ~~~ks+1:=by
 unfold nO;split
 .lia
 .show Z9▸Zi _
def C8:y∈nO ks z↔y∈ks\/y=z:=by
 unfold nO;by_cases h:z∈ks
 .rw[ix h]
  simp_all
 .rw[ij h,Yy,X4]
def yh(h:ks.Nodup):(nO ks z).Nodup:=by
 unfold nO;by_cases a:z∈ks
 .rw[ix a];show h
 .rw[ij a];show n6 h a
def vW:∀{ss ks:ZB} {y:ku},y∈ss.foldl nO ks↔y∈ks\/y∈ss
 |[],ks,y=>by simp
 | z::r,ks,y=>by
   rw[Yb,vW,C8,X2]
   grind
def oN:∀{ss ks:ZB},ks.Nodup->(ss.foldl nO ks).Nodup
 |[],_,h=>h
 | z::r,ks,h=>by
   rw[Yb];show oN (yh h)
def aP:y∈aR ss↔y∈ss:=by unfold aR;rw[vW];simp
def bX(ss:ZB):(aR ss).Nodup:=oN Xa
def vX:∀(ss ks:ZB),~~~(ss.foldl nO ks)<= ~~~ks+ ~~~ss
 |[],ks=>by simp
 | z::r,ks=>by
   let a:=vX r (nO ks z);let b:=C7 ks z;rw[Yb,Zr]
   lia
def vY{ss:ZB}{i:iv}{z:ku}(h:ss[i]?∣z):aR (ss.take (i+1))=nO (aR (ss.take i)) z:=by
 unfold aR;rw[Xg,h,Ue];rfl
def bx.keep(S:bx w a ks h)(k:∀o,h.get? a∣o->h'.get? a∣o):bx w a ks h':=by
 let%[o,b,c,t,ss,d|r]:=S;show%[o,b,c,t,ss,k o d|r]
section
variable{prog:n7}{w:xl}{A:wy}{R:Sg->kG->Prop}{I:jg}{fp wr:hH jg}{G:o0 QL->o0 QL->Prop}{n:iv}{P:iv->iy->Prop}{St:iv->kG->Prop}
def vZ(W:WalksS prog w A.in1 I fp wr G n P St)(S:jg)(f:S∉fp){T:iv->z4->Prop}{V:z4->Prop}(tk:∀i h h',T i h->(∀o,h.get? S∣o->h'.get? S∣o)->T i h')(u:∀h h',V h->(∀b o,b≠S->b∉wr->h.get? b∣o->h'.get? b∣o)->V h')
 (add:∀i v (a:kG) (Q:su->kG->Prop) (E:ZD),P i v->T i a.heap->V a.heap->(∀h' b t,v0 S a.heap h'->T (i+1) h'->a.toks<=t->Q b {a with heap:=h',toks:=t})->↥A.in1 (T5 S v) Q E a):
 ∀(k i:iv) (s:kG),n-i=k->i<=n->St i s->T i s.heap->V s.heap->
  (∀s',Moved (S::wr) G s s'->T n s'.heap->R (.ok (.ret .none)) s')->OR (Mq prog w) A (.builtin "set.update.loop" %[[.ref S,.ref I]|[]]) R s:=by
 let out:S∉wr:=λh=>f (W.sub _ h)
 let more:∀b∈wr,b∈S::wr:=λb c=>Zk _ c
 intro k
 induction k with
 | zero=>
   intro i s B hi st j y fin;let e:i=n:=by lia
   subst e;show M6 Ts ?_;rw[Nq Pz _];change vk _ A.in1 (Pa (.ref I)>>= _) _ _ s;show Z2 (W.done s _ _ st λa d=>?_);change vk _ A.in1 (ret L5) _ _ a;show Z3 (fin a (d.mono more) (tk _ _ _ j λo e=>d.heap S o out e))
 | succ k C=>
   intro i s B hi st j y fin;let lt:i<n:=by lia
   show M6 Ts ?_;rw[Nq Pz _];change vk _ A.in1 (Pa (.ref I)>>= _) _ _ s;show Z2 (W.item i s _ _ lt st λv a pv l d=>?_);let g:=u _ a.heap y λb o _ c e=>d.heap b o c e
   show Z2 (zp (add i v a _ _ pv (tk _ _ _ j λo e=>d.heap S o out e) g λL b M m p z=>Z3 %[OB Pz _|C (i+1) _ ⋯ lt (W.frame _ a _ _ l z λb c o e=>?_) p (u _ _ g λb o n _ e=>(m.2 b n).trans e) λH J r=>?_]))
   .show(m.2 b (λq:b=S=>f (q▸c))).trans e
   .show fin H (Moved.trans W.gtrans ((d.mono more).then_heap z λb o c e=>(m.2 b (λq:b=S=>c (q▸Zm))).trans e) J) r
end
section
#where
noncomputable abbrev bO(w:xl):NB:={cls:= .type "set",dict:=hV,data:= .set #[] 0 (.fresh 0 0 (!aY w))}
def C9(a:iy)(h:Q₁ (.ref ⇑s) (s>>>s.heap.push (bO w))):
 OR (Mq prog w) A (.call (.builtin "set.__new__") %[[.type "set",a]|[]]) (wants Q₁ E) s:=by
 show Sy ?_;change vk _ A.in1 _ _ _ s;show Z2 (UC (PySem.F.newCall_set_1 a) (Z3 %[OB PySem.F.plain_set_new _|M6 PySem.F.entry_set_new ?_]));unfold oy.«set.__new__» UZ;let b:=sub_set_self;let%[c,g,d,tk|os]:=s;dsimp only
 wp_walk
 show Ma (Z3 ?_);dsimp only;simp only[newObj];show Z2 (wpAny_alloc (Z3 (Z3 h)))
def bx.empty(e:h.get? a∣bO w):bx w a [] h:=
 %[_,#[],0,_,[],e,%[rfl,rfl|rfl],rfl,.nil,.nil,Xa,λe b=>by simp at b,!1,rfl,λq=>on rfl q|rfl]
def m9{T:iv->z4->Prop}(hh:A.handled=hV)(hl:s.heap.IsList l a)(t0:∀h,h.get? ⇑s∣bO w->T 0 h)(tk:∀i h h',T i h->(∀o,h.get? ⇑s∣o->h'.get? ⇑s∣o)->T i h')
 (add:∀i v (j:kG) (Q:su->kG->Prop) (E:ZD),a[i]?∣v->T i j.heap->(∀b o,s.heap.get? b∣o->j.heap.get? b∣o)->(∀h' b t,v0 ⇑s j.heap h'->T (i+1) h'->j.toks<=t->Q b {j with heap:=h',toks:=t})->↥A.in1.in1.in1 (T5 ⇑s v) Q E j)
 (hQ:∀(h':z4) (tk:iv),T a.size h'->(∀b o,s.heap.get? b∣o->h'.get? b∣o)->Q (.ref ⇑s) {s with heap:=h',toks:=tk}):
 ↥A (call (.type "set") [.ref l]) Q E s:=by
 let%[c,tl|ac]:=Ox.mro;let H:=Ox.made;let ae:=Ox.sub;show NC (Sy ?_);change vk _ _ (callAny (.type "set") _) _ _ _;show Z3 %[Qi _ (!0)|M6 F.entry_type_call ?_];rw[wy.under_plain (weight_type_call_type "set" [.ref l] []) rfl];let al:=Ox.notType;let an:=Ox.canCreate;let as:=PySem.F.typeCall_set_1 (.ref l)
 repeat any_goals first|assumption|wp_step
 show codeAny_mono (C9 (.ref l) (E:=E) (Q₁:=λobj m=>obj= .ref ⇑s/\m=(s>>>s.heap.push (bO w))) %[rfl|rfl]) λr m I=>?_
 cases r with
 | error e=>show I
 | ok fl=>
   cases fl with
   | ret obj=>
     let%[rfl|rfl]:=I;let gS:(s.heap.push (bO w)).get? ⇑s∣bO w:=Zj _ rfl;let tS:P8 (s>>>s.heap.push (bO w)) (.ref ⇑s) "set":=%[_,gS|rfl]
     let a0:=Ox.init.lookup;let a1:=Ox.init.bind (.ref ⇑s)
     repeat any_goals first|assumption|wp_step
     show codeAny_mono (NG (R:=wants (λr n=>r= .none/\∃h' tk,n={s with heap:=h',toks:=tk}/\T a.size h'/\(∀b o,s.heap.get? b∣o->h'.get? b∣o)) E) Ox.init.plain F.entry_set_init (check_set_init_1 tS ?_)) λy n d=>?_
     .let%[ol,gl,cl,nl|dl]:=hl;let%[ag,p,J|g]:=ol;simp only at cl dl;subst cl;subst dl;let L:(s.heap.push (bO w)).get? l=hY {cls:= .type "list",dict:=p,data:= .seq a nl,slots:=g}:=Z7 _ gl;let a2:=PySem.F.sub_list_set;let a3:=PySem.F.sub_list_frozenset;let a4:(Mm "list"==Mm "dict")=hX:=!1
      let z:(s.heap.push (bO w)).IsList l a:=%[_,L,rfl,nl|rfl]
      unfold oy.«set.__init__»;unfold noKeywords;unfold UX
      generalize M:T7=PI
      wp_walk
      subst M;show Nw z (Z2 (SU ?_));let B:l<⇑s:=Zv gl;let h3:A.in1.in1.in1.handled=hV:=by simp[hh]
      let C:(s.heap.push (bO w)).objs.size=⇑s+1:=Zq ..;let N:l≠(s.heap.push (bO w)).objs.size:=by rw[C];show Zt (Yt B)
      let O:⇑s∉[(s.heap.push (bO w)).objs.size,l]:=by
       rw[C];simp only[X2,Xc,Mb,Og];show%[Zt (Yu _)|X7 B]
      show vZ ((RP h3 _ l N a).toS) ⇑s O (V:=λh=>∀b o,s.heap.get? b∣o->h.get? b∣o) tk (λh h' v k b o e=>?_) (λi v j Q E pv t v' q=>add i v j Q E pv t v' q) (a.size-0) 0 _ ⋯ (Xl _)
       %[%[_,Zj _ rfl,rfl|rfl]|z.push _] (t0 _ (Z7 _ gS)) (λb o e=>Z7 _ (Z7 _ e)) ?_
      .let f:=Zv e;show k b o (Zt f) ?_ (v b o e);simp only[X2,Xc,Mb,C];show Zt (Yt f)
      intro s3 G U;let%[h',g',d',Y|ab]:=s3;let eg:g'=s.gens:=G.gens;let ed:d'=s.drawn:=G.drawn;let eo:ab=s.os:=G.os;subst eg;subst ed;subst eo;show Z3 ?_;change vk _ _ (ret L5) _ _ _;show Z3 %[rfl,h',Y,rfl,U|λb o e=>?_];let f:=Zv e;show G.heap b o ?_ (Z7 _ (Z7 _ e));simp only[X2,Xc,Mb,Og,C];show%[Zt f|Zt (Yt f)]
     .cases y with
      | error e=>show d
      | ok u=>
        cases u with
        | ret r=>
          let%[rfl,h',tk,rfl,U|k3]:=d
          repeat any_goals first|assumption|wp_step
          show hQ _ _ U k3
        | _=>show d.elim
   | _=>show I.elim
end
section
variable{X:Cx}{K:ZA}
abbrev ki(w:xl)(a:jg)(ks:ZB):HO:= .ext (bx w a ks)
def Da(y:X.calm=hW):cE X (.type "set") (λxs H Q=>oneA xs λg=>asR g λp=>∃ss,Qb X.K H p (ss\3)/\ ~~~ss<=4000/\∀l,H l=hV->Q (.ref l) (Qa H l (ki X.w l (aR ss)))):=by
 intro gx s M H xs us Q I r h;let%[g,rfl|a]:=bM h;let%[p,rfl|c]:=aN a;let%[ss,z,N|q]:=c;let%[u,rfl|A]:=dw r;cases A;let%[its,j,pl|O]:=I.list z;let d:=iH j;let m:its.toArray.size= ~~~ss:=bE d;show m9 (T:=λi h=>bx X.w ⇑s (aR (ss.take i)) h) (I.ok.hd y) pl.isList (λh e=>bx.empty e) (λi h h' S k=>S.keep k) (λi v U Q E n B _ k=>?_) λh' tk S k=>?_
 .let lt:i< ~~~ss:=m▸(vr.mp n).1;let%[u,C,t|rfl]:=j.get (i:=i) (x:= .str ss[i]) (by simp[lt]);obtain rfl:v=_:=Za (n.symm.trans ↑C);let q:=vX (ss.take i) [];rw[Yr]at q;show vV B (by change(aR (ss.take i)).length+1<4096;unfold aR;simp only[Vm]at q;lia) λw b G f=>k w b _ G ?_ (Yl _)
  rw[vY (Z4 lt)];show f
 .rw[m,Zn (Zi _)]at S;show%[.ref ⇑s,_,I.laid (o:=ki X.w ⇑s _) k (Zi _) %[S,?_|λY w J k1=>J.keep k1],ρ|q _ I.fresh];let%[o,_,_,_,_,L|_]:=S;show%[o|L]
def zC(h:X.K=K)(hw:X.w=w)(a:X.calm=hW):b8 X (.type "set") (λxs H Q=>oneA xs λb=>asR b λp=>∃ss,Qb K H p (ss\3)/\ ~~~ss<=4000/\∀l,H l=hV->Q (.ref l) (Qa H l (ki w l (aR ss)))):=by subst h;subst hw;show⟨Da a⟩
end
def iK:∀{xs:hH a} {i:iv} (h:i< ~~~xs),(xs[i]::xs.eraseIdx i).Perm xs
 | x::r,0,_=>by simp
 | x::r,i+1,h=>by
   show(TB _ _ _).trans (.cons _ (iK ↑h))
section
#where
def Bf(a:n≠0)(h:∀i d,i<n->Q i {s with drawn:=d}):↥A (choose b n) Q E s:=by
 intro c p _;show%[a|h _ _ (Sa _ (QC a))]
def uE:∀(n:iv) (xs:hH b) (s:kG) (Q:hH b->kG->Prop),~~~xs<=n->(∀ys d,ys.Perm xs->Q ys {s with drawn:=d})->↥A (drawOrder n xs) Q E s
 | 0,xs,s,Q,a,h=>by
   let e:=zz.mp (le_zero.mp a);subst e;show Z3 (h [] s.drawn .nil)
 | n+1,[],s,Q,a,h=>Z3 (h [] s.drawn .nil)
 | n+1,x::r,s,Q,a,h=>by
   unfold drawOrder;show Z2 (Bf ∅ λi d hi=>?_);rw[(Z4 hi)];show Z2 (uE n _ _ _ (by rw[Tr];simp only[hi];simp_all) λys c p=>Z3 (h _ c ((TC _ p).trans (iK hi))))
end
def zD(next:iv->iv):∀(fuel k:iv) (left:hH a) (out:o0 a),~~~left<=fuel->(RF next fuel k left out).toList.Perm (out.toList++left)
 | 0,k,left,out,h=>by
   let e:=zz.mp (le_zero.mp h);subst e;rw[Zz];show .refl _
 | fuel+1,k,[],out,h=>by
   unfold RF;simp
 | fuel+1,k,x::r,out,h=>by
   unfold RF;let hi:next k% ~~~(x::r)< ~~~(x::r):=Sa _ ∅;rw[Z4 hi];show(zD next fuel _ _ _ (by rw[Tr];simp_all)).trans ?_;rw[N6,Ze];show(MC _).append (iK hi)
def sE(next:iv->iv)(xs:o0 a):(Nh next xs).toList.Perm xs.toList:=by
 let:=zD next xs.size 0 xs.toList #[] ∅;simpa [Nh]using this
def sF(p j:iv):NI #[p] j=if p<j then 1 else 0:=by
 unfold NI;simp only[Zp,Zr];unfold Tc;simp
 split<;>(rfl)
def yi(j:iv):NI #[] j=0:=rfl
def sG{a:Type}{xs:o0 a}(h:xs.size=1):∃p,xs= #[p]:=by
 obtain⟨l⟩:=xs
 match l,h with
 |[p],_=>show%[p|ρ]
abbrev SIt(w:xl)(I S T:jg)(o:NB)(b:o0 (ri×iy))(c:iv)(t:nI)(a:ZF)(i:iv)(h:z4):Prop:=
 h.get? S∣o/\∃first,h.get? I=hY {cls:= .type "set_iterator",dict:=hV,data:= .fields #[first,LU i,.ref S,LU b.size,LU c],slots:= #[]}/\
  ((aY w=hW/\first=LU 0/\a=(Nh (w.params.setOrder S c) b).toList\2)\/
   (aY w=hX/\first= .ref T/\T≠I/\∃ps:hH iv,h.get? T=hY {cls:= .type "tuple",data:= .seq (ps.map λ(i:iv)=>LU i).toArray}/\ ~~~ps= ~~~a/\∀(j p:iv),ps[j]?∣p->∃e,b[p]?∣e/\a[j]?∣e.2)\/
   (aY w=hX/\b.size<=1/\a=b.toList\2/\(i=0->first=LU 0)/\(i=1->∃p:iv,t.place[0]?∣p/\first=LU (p+1))))
def SIt.is{w:xl}{I S T:jg}{o:NB}{b:o0 _}{c:iv}{t:nI}{a:ZF}{i:iv}{s:kG}(h:SIt w I S T o b c t a i s.heap):s.TypeIs (.ref I) "set_iterator":=by
 let%[_,f,d|_]:=h;show%[_,d|ρ]
section
#where
variable{I S T:jg}{o:NB}{es:o0 (ri×iy)}{ep:iv}{t:nI}{ord:ZF}
def yj{i:iv}{v:iy}{Q:kw iy->kG->Prop}(y:o.data= .set es ep t)(h:t.fits es.size=hW)(z:t.led=!aY w)(j:S≠I)(st:SIt w I S T o es ep t ord i s.heap)(f:ord[i]?∣v)(hn: ~~~ord=es.size)
 (hQ:∀h',SIt w I S T o es ep t ord (i+1) h'->v0 I s.heap h'->Q (hY v) (s>>>h')):↥A (Pa (.ref I)) Q E s:=by
 let hT:=st.is;let%[g,first,U|m]:=st;unfold Pa;show Z2 (MU (MF (name:=!"__next__") hT cf (LX cf hT ik ?_ (i4 _))));unfold oy.«set_iterator.__next__»;show Z2 (m:=slotArgs _ _ _) (Z3 ?_);show Z2 (Qm U rfl ?_);change vk _ _ (setEntries S>>= _) _ _ _;show Z2 (NK g y h ?_);rw[ij ∅];rcases m with⟨c,rfl,B⟩|⟨c,rfl,C,ps,G,ab,H⟩|⟨c,h1,B,f0,f1⟩
 .change vk _ _ (P5 S 0 i ep>>= _) _ _ _;show Z2 ?_;unfold P5;show Z2 (oT g y h ?_);show Z2 (Z2 (Ma (Z3 ?_)));change vk _ _ (if aY w=hW then _ else _) _ _ _;rw[ix c];dsimp only;rw[ij (show ¬ ((ep != ep)=hW) by simp)];show Z2 ?_;unfold setWalk;show Z2 (oT g y h ?_);show Z2 (Z2 (Ma (Z3 ?_)));change vk _ _ (if aY w=hW then _ else _) _ _ _;rw[ix c];show Z2 (Ma (Z3 (Z3 ?_)));let d:(Nh (w.params.setOrder S ep) es)[i]?.map (·.2)∣v:=by
   rw[B]at f;simpa using f
  cases u:(Nh (w.params.setOrder S ep) es)[i]? with
  | none=>rw[u]at d;cases d
  | some e=>
    rw[u]at d;let J:e.2=v:=↑d
    change vk _ _ (match((Nh (w.params.setOrder S ep) es)[i]?).map λe=>(e.2,0)with|hY (x,next)=>_|none=>_) _ _ _;rw[u];show Z2 (I0 U ∅ λL b a=>?_);show Z2 (I0 (s:=(s>>>L)) b ∅ λM l n=>?_);rw[J];let N:v0 I s.heap M:=a.trans n;show Z3 %[v,rfl|Z3 (hQ M %[(N.2 S j).trans g,_,l|.inl %[c,rfl|B]] N)]
 .show Z2 (Mz G rfl ?_);let hi:i< ~~~ord:=(Xt f).1;let ac:i< ~~~ps:=by lia
  let%[e,Y|ae]:=H i ps[i] ∅;let J:e.2=v:=by rw[ae]at f;show Za f
  let O:(ps.map λ(i:iv)=>LU i).toArray[(i:ri).toNat]?∣LU ps[i]:=by simp[ac]
  dsimp only;rw[O];change vk _ _ (setNextDrawn S ps[i] ep>>= _) _ _ _;show Z2 ?_;unfold setNextDrawn;show Z2 (oT g y h ?_);dsimp only;rw[ij (show ¬ ((ep != ep)=hW) by simp),Y];show Z3 ?_;show Z2 (I0 U ∅ λL b a=>?_);rw[J];show Z3 %[v,rfl|Z3 (hQ L %[(a.2 S j).trans g,_,b|.inr (.inl %[c,rfl,C,ps,(a.2 T C).trans G,ab|H])] a)]
 .let hi:i< ~~~ord:=(Xt f).1;let i0:i=0:=by lia
  subst i0;let f0:=f0 rfl;subst f0;let e1:es.size=1:=by lia
  let pz:t.place.size=1:=by
   simp only[Ny,Zx,MK,Lz]at h;rw[h.1,e1]
  let%[p|u]:=sG pz;obtain⟨e,Y⟩:∃e,es[0]?∣e:=%[es[0]|by simp]
  let J:e.2=v:=by
   rw[B]at f;let:(es[0]?)\2∣v:=↑f
   rw[Y]at this;simpa using this
  change vk _ _ (P5 S 0 0 ep>>= _) _ _ _;show Z2 ?_;unfold P5;show Z2 (oT g y h ?_);change vk _ _ (if aY w=hW then _ else _) _ _ _;rw[ij (by rw[c];decide)];dsimp only
  split
  .rename_i r
   change (!t.plain&&decide (es.size>1))=hW at r;rw[e1]at r;simp at r
  .show Z2 (m:=(if(!t.led&&!es.isEmpty)=hW then OH "set:maker-not-led" else pure ())) ?_;rw[z,c];show Z3 ?_;rw[u,sF];simp only[Xb,↓reduceIte,Y];show Z3 ?_;change vk _ _ (O8 (.ref I) 0 (LU ((p+1:iv):ri))>>= _) _ _ _;show Z2 (I0 U ∅ λL b a=>Z2 (I0 (s:=(s>>>L)) b ∅ λM l n=>?_));rw[J];let N:v0 I s.heap M:=a.trans n;show Z3 %[v,rfl|Z3 (hQ M %[(N.2 S j).trans g,_,l|.inr (.inr %[c,⋯,B,λq=>by lia|λ_=>%[p,by rw[u];rfl|rfl]])] N)]
def v4{c:Type}{Q:c->kG->Prop}(d:A.handled=hV)(f:∀h' e,(∀b o,s.heap.get? b∣o->h'.get? b∣o)->(∃o,h'.get? e∣o/\o.cls= .type "StopIteration")->E (.ref e) (s>>>h')):
 ↥A (newExc (.type "StopIteration") []>>= λe=>(UI e)) Q E s:=by
 show Z2 ?_;show Z2 (L1 ?_ (by size_fits));show Z2 (UC (a:=L5) (by first|rfl|lia) (L1 (U4 d (f _ _ (λb o e=>Z7 _ (Z7 _ e)) %[_,Zj _ rfl|rfl])) (by size_fits)))
def Bg{i:iv}{Q:kw iy->kG->Prop}(hh:A.handled=hV)(u:o.data= .set es ep t)(h:t.fits es.size=hW)(l:t.led=!aY w)(st:SIt w I S T o es ep t ord i s.heap)(hi:i= ~~~ord)(hn: ~~~ord=es.size)
 (hQ:∀h',(∀b o,b≠I->s.heap.get? b∣o->h'.get? b∣o)->Q hV (s>>>h')):↥A (Pa (.ref I)) Q E s:=by
 let Y:=st.is;let%[y,first,z|m]:=st;let H:A.in1.handled=hV:=hh;let fin:∀(g:z4) (Q':Fin->kG->Prop),v0 I s.heap g->↥A.in1 (newExc (.type "StopIteration") []>>= λe=>(UI e:Sem Fin)) Q' (λe s'=>↥A (do
  if(<-Rs e (.type "StopIteration"))then pure hV else throw e) Q E s') (s>>>g):=λg Q' sb=>by
  show v4 H λh' e k ⟨oe,he,hc⟩=>?_
  show Z2 (Ng (T:="StopIteration") (b:=hW) %[oe,he|hc] S7 (Z3 (hQ h' λb o n q=>k b o ((sb.2 b n).trans q))))
 unfold Pa;show Z2 (MU (MF (name:=!"__next__") Y cf (LX cf Y ik ?_ (i4 _))));unfold oy.«set_iterator.__next__»;show Z2 (m:=slotArgs _ _ _) (Z3 ?_);show Z2 (Qm z rfl ?_);change vk _ _ (setEntries S>>= _) _ _ _;show Z2 (NK y u h ?_);rw[ij ∅];rcases m with⟨j,rfl,eo⟩|⟨j,rfl,ab,ps,J,ac,ae⟩|⟨j,h1,eo,L,M⟩
 .change vk _ _ (P5 S 0 i ep>>= _) _ _ _;show Z2 ?_;unfold P5;show Z2 (oT y u h ?_);show Z2 (Z2 (Ma (Z3 ?_)));change vk _ _ (if aY w=hW then _ else _) _ _ _;rw[ix j];dsimp only;rw[ij (show ¬ ((ep != ep)=hW) by simp)];show Z2 ?_;unfold setWalk;show Z2 (oT y u h (Z2 (Z2 (Ma (Z3 ?_)))));change vk _ _ (if aY w=hW then _ else _) _ _ _;rw[ix j];show Z2 (Ma (Z3 (Z3 ?_)));let B:(Nh (w.params.setOrder S ep) es)[i]? =hV:=by
   rw[o0.getElem?_eq_none_iff,hi,eo,Z6,Zb];show Zi _
  change vk _ _ (match((Nh (w.params.setOrder S ep) es)[i]?).map λe=>(e.2,0)with|hY (x,next)=>_|none=>_) _ _ _;rw[B];change vk _ _ (O8 (.ref I) 2 .none>>= _) _ _ _;show Z2 (I0 z ∅ λC _ c=>fin C _ c)
 .change vk _ _ (seqItems? (.ref T)>>= _) _ _ _;show Z2 (Mz J rfl ?_);let r:(ps.map λ(i:iv)=>LU i).toArray[(i:ri).toNat]? =hV:=by simp;lia
  dsimp only;rw[r];show Z2 (I0 z ∅ λC N c=>Z2 (I0 N ∅ λg2 _ O=>fin g2 _ (c.trans O)))
 .let done:∀slot:iv,first=LU slot->NI t.place slot=es.size->↥A.in1 (P5 S slot i ep) (λa s'=>a=hV/\s'=s) (λ_ _=>LG) s:=by
   intro slot _ n;unfold P5;show Z2 (oT y u h ?_);change vk _ _ (if aY w=hW then _ else _) _ _ _;rw[ij (by rw[j];decide)];dsimp only
   split
   .rename_i d
    change (!t.plain&&decide (es.size>1))=hW at d;let:decide (es.size>1)=hX:=Zh ⋯;rw[this,Mv]at d;cases d
   .show Z2 (m:=(if(!t.led&&!es.isEmpty)=hW then OH "set:maker-not-led" else pure ())) ?_;rw[l,j];show Z3 ?_;rw[n,show es[es.size]? =hV by simp];show Z3 %[rfl|rfl]
  let go:∀slot:iv,first=LU slot->NI t.place slot=es.size->↥A.in1 (P5 S slot i ep>>= λa=>match a with
   | hY (x,next)=>(do
     O8 (.ref I) 0 (LU ↑(next))
     O8 (.ref I) 1 (LU (↑(i)+1))
     ret x)
   | none=>(do
     O8 (.ref I) 2 .none
     let e<-newExc (.type "StopIteration") []
     UI e)) (λfin s'=>∃v,fin=Fin.done (Flow.ret v)/\↥A (pure (hY v)) Q E s') (λe s'=>↥A (do
   if(<-Rs e (.type "StopIteration"))then pure hV else throw e) Q E s') s:=by
   intro slot e n;show Z2 (LL (done slot e n) (λa s' ⟨G,e2⟩=>?_) λ_ _ f=>f.elim);subst G;subst e2;show Z2 (I0 z ∅ λC _ c=>fin C _ c)
  let pz:=by
   simp only[Ny,Zx,MK,Lz]at h;show h.1
  by_cases e0:es.size=0
  .let i0:i=0:=by lia
   subst i0;let L:=L rfl;subst L;show go 0 rfl ?_;let:t.place= #[]:=Rc ⋯;rw[this,yi,e0]
  .let G:es.size=1:=by lia
   let i1:i=1:=by lia
   subst i1;let%[p,B|M]:=M rfl;subst M;show go (p+1) rfl ?_;let%[p'|U]:=sG (by rw[pz,G]:t.place.size=1);rw[U]at B ⊢;let:p'=p:=↑B
   subst this;rw[sF,ix (Yu _),G]
end
def i5:Slot "set_iterator" "__iter__" "set_iterator.__iter__":=
 .of (owner:="set_iterator") (n:="__iter__") (by rw[Wr,Uo];kernel_rfl) (!0) (!0) (!0) (by first|show .inl (!0)|show .inr ∅) (by kernel_rfl)
def mF:UM table "set_iterator.__iter__"=hY oy.«dict_keyiterator.__iter__»:=S8 (id':="dict_keyiterator.__iter__") (by kernel_rfl) rfl (!0) (by kernel_rfl)
def nP(a:iy):argsOk "set_iterator.__iter__" %[[a]|[]]:=by kernel_rfl
def uF:O5 (.type "set") "__len__"=pure (hY (.builtin "set.__len__")):=by kernel_rfl
section
#where
variable{I S T:jg}{o:NB}{es:o0 (ri×iy)}{ep:iv}{t:nI}{ord:ZF}
def Bh(hh:A.handled=hV)(hd:o.data= .set es ep t)(hf:t.fits es.size=hW)(hled:t.led=!aY w)(hSI:S≠I)(hn: ~~~ord=es.size):
 Walks prog w A I [I,S,T] [I] ord.length (λi v=>ord[i]?∣v) (λi h=>SIt w I S T o es ep t ord i h) where
 sub:=by simp
 frame:=λi h h' st k=>by
  let%[hS,first,hI|m]:=st;show⟨k S ∅ _ hS,first,k I ∅ _ hI,?_⟩;rcases m with m|⟨bt,e,hTI,ps,hTt,r⟩|m
  .show .inl m
  .show .inr (.inl %[bt,e,hTI,ps,k T ∅ _ hTt|r])
  .show .inr (.inr m)
 item:=λi s Q E hi st hQ=>yj (v:=ord[i]) hd hf hled hSI st ∅ hn λh' st' sb=>hQ _ h' s.toks ∅ st' λb o' hb e=>(sb.2 b (λq=>hb (by simp[q]))).trans e
 done:=λs Q E st hQ=>Bg hh hd hf hled st rfl hn λh' k=>hQ h' s.toks λb o' hb e=>k b o' (λq=>hb (by simp[q])) e
 self:=λi s Q E st hQ=>by
  let hT:=st.is;show RA hT i5 (LX i5 hT mF (Z3 %[_,rfl,"set_iterator",_,hT,cf.lookup|hQ]) (nP _))
def Bi(f:s.heap.get? S∣o)(z:o.ExactSet)(B:o.data= .set es ep t)(hb:es.size<N9)(C:t.fits es.size=hW)(G:es.size≠0->t.plain=hX)(O:t.led=!aY w)
 (hQ:∀(I T:jg) (ord:ZF) (h':z4) d,(∀b o,s.heap.get? b∣o->h'.get? b∣o)->⇑s<=I->S≠I->(T=S\/⇑s<=T)->T<h'.objs.size->I<h'.objs.size-> ~~~ord=es.size->
  SIt w I S T o es ep t ord 0 h'->ord.Perm (es.toList\2)->Q (.ref I) {s with heap:=h',drawn:=d}):↥A (T7 (.ref S)) Q E s:=by
 let U:s.TypeIs (.ref S) "set":=%[o,f|z.1]
 let l:S<⇑s:=Zv f;show RA U VV (LX VV U qS ?_ (F.args_set_iter_1 _));unfold oy.«frozenset.__iter__»;show Z2 (m:=UY _ _) (Z2 (m:=slotArgs _ _ _) (Z3 (Z3 ?_)));show Z2 (m:=P9 S) (Z2 (NK f B C (Z3 ?_)));show Z2 (m:=setDrawn S) ?_;unfold setDrawn;show Z2 (oT f B C (Z2 (Z2 (Ma (Z3 (Z3 ?_))))));let fin:∀(first:iy) (a:kG) (T:jg) (ord:ZF),a.heap.get? S∣o->(∃d c,a={s with heap:=c,drawn:=d})->(∀b o,s.heap.get? b∣o->a.heap.get? b∣o)->T<⇑a->⇑s<=⇑a->(T=S\/⇑s<=T)->ord.Perm (es.toList\2)->
  ((aY w=hW/\first=LU 0/\ord=(Nh (w.params.setOrder S ep) es).toList\2)\/(aY w=hX/\first= .ref T/\∃ps:hH iv,a.heap.get? T=hY {cls:= .type "tuple",data:= .seq (ps.map λ(i:iv)=>LU i).toArray}/\ ~~~ps= ~~~ord/\∀(j p:iv),ps[j]?∣p->∃e,es[p]?∣e/\ord[j]?∣e.2)\/(aY w=hX/\es.size<=1/\ord=es.toList\2/\first=LU 0))-> ~~~ord=es.size->
  ↥A.in1 (do ret (<-newFields "set_iterator" [first,LU 0,.ref S,LU es.size,LU (<-SX S)])) (λfin s'=>∃v,fin=Fin.done (Flow.ret v)/\∃Y r,s'.TypeIs v Y/\O5 (.type Y) "__next__"=pure (hY r)/\Q v s') (λe s'=>E e s') a:=by
  intro first a T ord c %[d,H|e1] k1 tl sl J u m hn
  subst e1;show Z2 (wpAny_setEpoch_of c B C (Z2 (L1 ?_)));let gI:(H.push {cls:= .type "set_iterator",data:= .fields #[first,LU 0,.ref S,LU es.size,LU ep]}).get? H.objs.size∣_:=Zj _ rfl;show Z3 %[_,rfl,"set_iterator",_,%[_,gI|rfl],cf.lookup|hQ H.objs.size T ord _ d (λb o' e=>Z7 _ (k1 b o' e)) sl (Zt (Zv c)) J (by rw[Zq];show Yt tl) (by rw[Zq];show Yu _) hn ?_ u];show⟨Z7 _ c,first,gI,?_⟩;rcases m with m|⟨g,e,ps,L,r⟩|⟨g,M,eo,e⟩
  .show .inl m
  .show .inr (.inl %[g,e,Zt tl,ps,Z7 _ L|r])
  .show .inr (.inr %[g,M,eo,λ_=>e|λq=>on q ∅])
 let lst: ~~~(es.toList\2)=es.size:=by rw[Z6,Zb]
 by_cases g:aY w=hW
 .change vk _ _ (if(!aY w&&_)=hW then _ else _) _ _ _;rw[g,VA,NX,ij ∅];show Z2 (Z3 ?_);let n:=(sE (w.params.setOrder S ep) es)\2;show fin (LU 0) s S _ f %[s.drawn,s.heap|rfl] (λ_ _ e=>e) l (Zi _) (.inl rfl) n (.inl %[g,rfl|rfl]) (by rw[n.length_eq,lst])
 .let y:aY w=hX:=↑g
  change vk _ _ (if(!aY w&&(!t.plain&&decide (es.size>1)))=hW then _ else _) _ _ _;by_cases c:es.size>1
  .rw[y,G ⋯,Zf c];show Z2 (uE es.size _ _ _ ∅ λps d h=>Z2 (Qk ?_ (by rw[Z6,h.length_eq,Yp];show M8 hb)));let lt:∀p∈ps,p<es.size:=λp q=>J6.mp (h.mem_iff.mp q)
   let er:(q7 es.size).map (λp=>((es[p]?)\2).getD .none)=es.toList\2:=by
    apply OI
    .simp
    .intro i u q2;simp at u;simp[u]
   let n:(ps.map (λp=>((es[p]?)\2).getD .none)).Perm (es.toList\2):=er▸h.map _;show fin _ _ ⇑s _ (Z7 _ f) %[d,_|rfl] (λb o' e=>Z7 _ e) (by rw[Zq];show Yu _) (by rw[Zq];show Yl _) (.inr (Zi _)) n
    (.inr (.inl %[y,rfl,ps,Zj _ rfl,by rw[Z6]|λj p q=>?_])) (by rw[n.length_eq,lst])
   let N:=lt p (Z8 q);show%[es[p],by simp|by simp[q,N]]
  .rw[y,Zh c];simp only[Mv,Y2];show fin (LU 0) s S _ f %[s.drawn,s.heap|rfl] (λ_ _ e=>e) l (Zi _) (.inl rfl) (MC _) (.inr (.inr %[y,⋯,rfl|rfl])) lst
def kX(hh:A.handled=hV)(u:s.heap.get? S∣r)(a:r.ExactSet)(v:r.data= .set g a1 t0)(y:g.size<N9)(z:t0.fits g.size=hW)(B:g.size≠0->t0.plain=hX)(c:t0.led=!aY w)
 (hQ:∀s' vs,vs.Perm (g.toList\2)->(∀b o,s.heap.get? b∣o->s'.heap.get? b∣o)->s'.gens=s.gens->s'.os=s.os->⇑s<=⇑s'->Q vs s'):↥A (QV (.ref S)) Q E s:=by
 unfold QV;show Z2 (SU (M6 F.entry_proto_collect ?_));rw[Nq F.plain_proto_collect _];change vk _ A.in1 (newList []>>= λl=>again (.builtin "list.__iadd__" %[[l,.ref S]|[]])) _ _ s;show Z2 (L1 (Z3 %[OB Pj _|M6 F.entry_list_iadd ?_]));rw[Nq Pj _];let i:S<⇑s:=Zv u;change vk _ A.in1 (Nb (.ref ⇑s) (.ref S) (.ref ⇑s)) _ _ _;unfold Nb
 generalize O:s.heap.push {cls:= .type "list",data:= .seq ([]:ZF).toArray}=G
 let gS:G.get? S∣r:=by rw[<-O];show Z7 _ u
 let gz:G.objs.size=⇑s+1:=by rw[<-O,Zq]
 let gL:G.get? ⇑s=hY {cls:= .type "list",data:= .seq ([]:ZF).toArray}:=O▸Zj _ rfl;let tS:P8 (s>>>G) (.ref S) "set":=%[r,gS|a.1]
 show Z2 (P0 (T:="set") tS ?_);let n1:Q2 (.ref ⇑s) (.ref S)=hX:=by
  change(⇑s==S)=hX;show LF.mpr (X7 i)
 let n2:(Mm "set"==Mm "list")=hX:=!1
 let n3:(Mm "set"==Mm "tuple")=hX:=!1
 simp only[n1,n2,n3,Vz,Y2,NE];show Z2 (Bi (s:=(s>>>G)) gS a v y z B c λI T ord h d k1 U ab ac a2 a3 hn st q1=>?_);replace k1:∀b o,G.get? b∣o->h.get? b∣o:=k1;replace U:G.objs.size<=I:=U;let ae:h.get? S∣r:=k1 _ _ gS;show Z2 (zp ?_);unfold Qh;let m:P8 {s with heap:=h,drawn:=d} (.ref S) "set":=%[r,ae|a.1]
 show Z2 (OL (T:="set") m uF ?_)
 wp_delta
 show Z2 (Ng (T:="set") (b:=hW) m (by rw[isSubtype_type];kernel_rfl) ?_);change vk _ A.in1 (OM (.ref S)>>= _) _ _ _;show Z2 (P0 (T:="set") m (Z3 ?_));rw[ix (!1)];show Z2 (NY ?_);let C:h.get? ⇑s=hY {cls:= .type "list",data:= .seq ([]:ZF).toArray}:=k1 _ _ gL;show Z2 ?_;unfold WC;show Z2 (OE (s:={s with heap:=h,drawn:=d}) C rfl ?_ (Xl _) (by change 1<=lp+1;lia));let H:=LP (MT (·.push L5)) C rfl;show OE (xs:= #[L5]) (n:=1) (s:={s with heap:=h.update ⇑s (MT _),drawn:=d}) H rfl ?_ (!1) (by change 0<=lp+1;lia);let ag:=LP (MT (·.pop)) H rfl;let J:∀b o,b≠⇑s->h.get? b∣o->((h.update ⇑s (MT (·.push L5))).update ⇑s (MT (·.pop))).get? b∣o:=λb o Y e=>(LQ _ _ (Lx Y)).trans ((LQ _ _ (Lx Y)).trans e)
 let al:=Zt (Zg (by rw[gz];show Yu _) U);let neT:⇑s≠T:=by
  rcases ac with e|e
  .show e▸X7 i
  .show Zt (Zg (gz▸Yu _) e)
 let L:⇑s∉[I,S,T]:=by
  simp only[X2,Xc,Mb,Og];show%[al,X7 i|neT]
 let an: ~~~ord<=lp:=hn▸M8 y;let W:=Bh (prog:=prog) (A:=A.in1) (T:=T) (hh) v z c ab hn;let as:=W.frame 0 h _ st λb Y M e=>J b M (λq=>L (q▸Y)) e
 show Z3 %[OB Ux _|UN W.toS an _ L _ ord.length 0 _ _ _ rfl (Xl _) as ag (Ve _) λs5 acc c5 m5 N f=>?_];show Z2 (SV N (Z3 ?_));let ea:acc.toList=ord:=by
  apply P7;intro j;by_cases hj:j< ~~~ord
  .let a0:j<acc.size:=f.1▸hj;let:=f.2 j acc[j] ∅;rw[this];simp[a0]
  .let l1: ~~~acc.toList= ~~~ord:=f.1;rw[Xs ⋯,Xs (l:=ord) ⋯]
 rw[ea];show hQ s5 ord q1 (λb M e=>?_) m5.gens m5.os (Yk (Zv N));let p:=Zv e;show m5.heap b M ?_ (J b M (Zt p) (k1 b M (O▸Z7 _ e)));simp only[X2,Xc,Mb,Og];show%[Zt p|Zt (Zg p (Ym (gz▸Yl _) U))]
def v5(f:A.handled=hV)(h:bx w S ks s.heap)
 (i:∀s' vs ss,Me vs ss->ss.Perm ks->(∀b o,s.heap.get? b∣o->s'.heap.get? b∣o)->s'.gens=s.gens->s'.os=s.os->⇑s<=⇑s'->Q vs s'):↥A (QV (.ref S)) Q E s:=by
 let%[o,es,ep,t,ss,j,c,l,d,m,n,p,q,r,e|a]:=h;show kX f j c l q r e a λs' vs pv k g os sz=>?_
 let%[ts,u|v]:=cm d pv;show i s' vs ts u (v.trans m) k g os sz
end
section
variable{X:Cx}{gx:ZE}{σ:St}{H:Hp}{s s':kG}
def Qc.keptS(I:Qc X gx σ H s)(k:∀b o,s.heap.get? b∣o->s'.heap.get? b∣o)(c:s'.gens=s.gens)(a:s'.os=s.os):Qc X gx σ H s':=by
 let%[h',p,u,t'|d]:=s';replace a:d=s.os:=a;subst c;subst a;show I.step (ch:=[]) (λb f=>on f ∅) (λb o _ _ _ e _=>k b o e) (λb o _ _ _ e _=>%[o.slots|k b o e]) (λ_ _ _ _ n=>n) (λb o _ e=>%[o|k b o e]) (λ_ _ e=>e) (λ_ _ _ e=>e) (λb ps e=>%[#[]|by rw[e];simp]) (λm g=>?_) (λb v e=>?_) I.bare
 .let%[o,h,i,a|r]:=g;show%[o,h,i,k _ o a|r]
 .show(I.hok b v e).stay (λj l _ q=>k j l q) (λ_ q=>q) λ_ _ q=>q
variable{prog:n7}{w:xl}{A:wy}{E:ZD}
variable{S:jg}
end
def aj{D:iD}(h:∀c:iD,(∀a b,u D a b->c.nx a b)->(∀v b,D.rt v b->c.rt v b)->t c d H):aS t u D d H:=h _ (λ_ _ x=>x) λ_ _ x=>x
def az{t:TS}{D:iD}(h:∀c:iD,(∀a b,D.nx a b->c.nx a b)->(∀v b,D.rt v b->c.rt v b)->t c d H):t D d H:=h _ (λ_ _ x=>x) λ_ _ x=>x
def jo{K:ZA}{xs:hH V}{g:TG}{j:TS}{D:iD}(Pv:iv->St->Hp->Prop)(n:Pv 0 b H)(o:∀i b H,i<= ~~~xs->Pv i b H->Qb K H a xs)
 (r:∀i x T b H,xs[i]?∣x->Pv i b H->H T=hV->g (.ref T) b (Qa H T (.tup [.int i,x])) λc h=>j {D with nx:=Pv (i+1),ct:=Pv (i+1),bk:=D.nx} c h) (s:∀b H,Pv xs.length b H->D.nx b H):
 ∃W:iv->iv->St->Hp->Prop,(∃m,W 0 m b H)/\∀i m b H,W i m b H->
  ((Ite K a xs).stop i H/\D.nx b H)\/((Ite K a xs).go i H/\∃N:St->Hp->Prop,(∀d f,N d f->∃l,l<m/\W (i+1) l d f)/\∀x f,(Ite K a xs).yld i H x f->g x b f λc h=>j {D with nx:=N,ct:=N,bk:=D.nx} c h):=by
 show%[λi m b H=>m= ~~~xs-i/\i<= ~~~xs/\Pv i b H,%[~~~xs,by simp,Xl _|n]|?_];intro i m b H %[rfl,hi|p];let q:=o i b H hi p;by_cases lt:i< ~~~xs
 .show .inr %[%[q|lt],Pv _,λd f u=>%[~~~xs-(i+1),⋯,rfl,lt|u]|λv f y=>?_];let%[x,T,e,w,rfl|rfl]:=y;show r i x T b _ e p w
 .let e:i= ~~~xs:=by lia
  subst e;show .inl %[%[q|Zi _]|s b H p]
section
variable{X:Cx}{K:ZA}{pos:Pos}{a b:G2}{ta tb:TE}
def aV:OpQ X (Mi .Add) (rI0 λi j=> .int (i+j)):=⟨Io⟩
def dN:OpQ X (Mi .Mult) (rI Cj λi j=> .int (i*j)):=⟨Ck⟩
def cn(h:X.K=K)(c:nZ b)(d:QE X a ta)(e:QE X b tb):QE X (.Subscript a b pos) (tOp (IF K) ta tb):=by subst h;show⟨CA FN d.h e.h c⟩
def Bj(c:nZ b)(d:QE X a ta)(e:QE X b tb):QE X (.Subscript a b pos) (tOp IH ta tb):=⟨CA IJ d.h e.h c⟩
end
end _LL
namespace _CU
open PySem _LL PyProof.Rows
abbrev iL:ku:="abcdefghijklmnopqrstuvwxyz"
abbrev fP(c:iv):su:=decide (c∈iL.cps.toList)
abbrev okc(c:iv):su:=decide (c=46)||fP c
abbrev nl:ku:="\n"
def KJ:nl=⟨#[10]⟩:=rfl
def sI:fP c=hW↔97<=c/\c<=122:=by
 let e:iL.cps.toList=(q7 26).map (·+97):=!0
 unfold fP;rw[Nm,e,OD]
 constructor
 .rintro⟨i,h,rfl⟩;let:=J6.mp h
  lia
 .rintro⟨a,b⟩;show%[c-97,J6.mpr ⋯|⋯]
def Db(h:okc c=hW):c≠10:=by
 intro e;subst e
 revert h
 decide +kernel
structure cW (rows:ZB):Prop where
 pos:1<= ~~~rows
 high: ~~~rows<=40
 wide:∃wd,1<=wd/\wd<=40/\∀r∈rows,r.cps.size=wd
 sign:∀r∈rows,r.cps.toList.all okc=hW
 fall:∀i r r',rows[i]?∣r->rows[i+1]?∣r'->∀(j c c':iv),r.cps[j]?∣c->r'.cps[j]?∣c'->c'=46->c=46
 some':∃r∈rows,∃c∈r.cps.toList,c≠46
def kY{x y:ku}(h:x.cps.toList=y.cps.toList):x=y:=by
 obtain⟨⟨l⟩⟩:=x
 simp_all
def fB(sep x y:ku)(r:ZB):(wh sep (x::y::r)).cps.toList=x.cps.toList++sep.cps.toList++(wh sep (y::r)).cps.toList:=by
 change((x.cps++sep.cps) ++(wh sep _).cps).toList=_;rw[Xk,Xk]
def Dc [LV f]:∀{a b x y:hH f},c∉a->c∉b->a++c::x=b++c::y->a=b/\x=y
 |[],[],_,_,_,_,h=>%[rfl|(Nc h).2]
 |[],b::bs,_,_,_,d,h=>on (((Nc h).1)▸Zm) d
 | a::g,[],_,_,e,_,h=>on (((Nc h).1)▸Zm) e
 | a::g,b::bs,x,y,e,d,h=>by
   let%[i|j]:=Nc h;let%[l|m]:=Dc (λq=>e (Zk _ q)) (λq=>d (Zk _ q)) j;show%[by rw[i,l]|m]
def v6{c:iv}:∀{ps qs:ZB},ps≠[]->qs≠[]->(∀p∈ps,c∉p.cps.toList)->(∀q∈qs,c∉q.cps.toList)->(wh ⟨#[c]⟩ ps).cps.toList=(wh ⟨#[c]⟩ qs).cps.toList->ps=qs
 |[],_,h,_,_,_,_=>on rfl h
 | _,[],_,h,_,_,_=>on rfl h
 |[p],[q],_,_,_,_,e=>by rw[kY (show p.cps.toList=q.cps.toList from e)]
 |[p],q::f::qs,_,_,a,_,e=>by
  rw[fB]at e;show on ?_ (a p Zm);rw[show p.cps.toList=(wh _ [p]).cps.toList from rfl,e];simp
 | p::g::ps,[q],_,_,_,b,e=>by
   rw[fB]at e;show on ?_ (b q Zm);rw[show q.cps.toList=(wh _ [q]).cps.toList from rfl,<-e];simp
 | p::g::ps,q::f::qs,_,_,a,b,e=>by
   rw[fB,fB,Ze,Ze]at e;let%[i|j]:=Dc (a p Zm) (b q Zm) e;rw[kY i,v6 ∅ ∅ (λx d=>a x (Zk _ d)) (λx d=>b x (Zk _ d)) j]
def yk(a:rows≠[])(h:∀r∈rows,10∉r.cps.toList):Txt.split (wh nl rows) nl=rows:=by
 let e:=StrLaws.join_split (wh nl rows) nl;rw[KJ]at e ⊢;show v6 ?_ a (StrLaws.split_free _ 10) h (by rw[e]);intro q;let:=split_pos (wh ⟨#[10]⟩ rows) ⟨#[10]⟩
 simp_all
def cW.nonl(h:cW rows):∀r∈rows,10∉r.cps.toList:=λr a b=>by
 let:=MV.mp (h.sign r a) 10 b;show Db this rfl
def cW.split(h:cW rows):Txt.split (wh nl rows) nl=rows:=
 yk (λe=>by let:=h.pos;simp_all) h.nonl
def Dd:∀{xs:hH b},(∀x∈xs,f x<=B)->(xs.map f).sum<= ~~~xs*B
 |[],_=>by simp
 | x::r,h=>by
   let c:=Dd λy a=>h y (Zk _ a)
   let d:=h x Zm;rw[Yw,Vr,Zr,iv.succ_mul]
   lia
def cW.sum(h:cW rows):(rows.map (·.length)).sum<=1600:=by
 let%[c,_,d|a]:=h.wide;let:=Dd (f:=λr:ku=> ~~~r) λr b=>by let:=a r b;change r.cps.size<=40;lia
 let:=h.high
 grind
def cW.text(h:cW rows): ~~~(wh nl rows)<=2000:=by
 let a:=Sf nl rows;let b:=h.sum;let c:=h.high;let d:nl.length=1:=rfl
 lia
abbrev sgn(c:iv):ku:=⟨#[c]⟩
def km{cs:hH iv}(h:∀c∈cs,fP c=hW): ~~~(aR (cs.map sgn))<=26:=by
 let a:∀x∈aR _,x∈iL.cps.toList.map sgn:=λx b=>by
  let%[c,d|e]:=Xw (aP.mp b);show Xx %[c,Zo (h c d)|e]
 let:=hH.Nodup.length_le_of_subset (bX _) a;rw[Z6]at this;let e:iL.cps.toList.length=26:=!0
 lia
abbrev dc(rows:ZB):hH iv:=(wh (!"") rows).cps.toList.filter (λc=>decide (c≠46))
def v7:∀(rows:ZB),(wh (!"") rows).cps.toList=(rows.map (·.cps.toList)).flatten
 |[]=>rfl
 |[x]=>by simp[wh]
 | x::y::r=>by
   let e:(!"").cps.toList=[]:=rfl;rw[fB,v7 _,e,Zz];simp
def jM(h:∀r∈rows,r.cps.toList.all okc=hW):∀c∈dc rows,fP c=hW:=λc a=>by
 unfold dc at a;rw[ow,v7]at a;let%[b|d]:=a;let%[l,e|f]:=Rh.mp b;let%[r,g|rfl]:=Xw e;let:=MV.mp (h r g) c f;unfold okc at this;rw[Rq]at this;rcases this with q|q
 .show on (Zo q) (Zo d)
 .show q
def cW.signs_ne(h:cW rows):dc rows≠[]:=by
 let%[r,b,c,d|a]:=h.some';let:c∈dc rows:=by
  unfold dc;rw[ow,v7];show%[Rh.mpr %[_,Xx %[r,b|ρ]|d]|Zf a]
 grind
abbrev uG(z:ku):su:=(decide (1<=(~~~z:ri))&&decide ((~~~z:ri)<=40))&&z.cps.toList.all okc
abbrev fQ(row a:ku):su:=decide (~~~row= ~~~a)&&(MO a.cps.toList row.cps.toList).all λp=>!decide (p.2=46)||decide (p.1=46)
def cW.row(h:cW rows)(a:r∈rows):uG r=hW:=by
 let%[b,d,f|c]:=h.wide;let e: ~~~r=b:=c r a;unfold uG;rw[h.sign r a,e,Zf ⋯,Zf ⋯];rfl
def cW.beneath(h:cW rows)(c:rows[i]?∣r)(d:rows[i+1]?∣a):fQ a r=hW:=by
 let%[e,n,o|f]:=h.wide;let g: ~~~r=e:=f r (Z8 c);let l: ~~~a=e:=f a (Z8 d);unfold fQ;rw[Zf (l.trans g.symm),Vy,MV];intro p m;let%[j|b]:=Xm m;rw[OP]at b;let:=h.fall i r a c d j p.1 p.2 (by simpa using b.1) (by simpa using b.2)
 grind
def oO(cs:hH iv):(wh (!"") (cs.map sgn))=⟨cs.toArray⟩:=by
 show kY ?_;rw[v7,Yx];change((cs.map (λc=>[c])).flatten)=cs
 induction cs with
 | nil=>rfl
 | cons c r a=>simp_all
def uH:∀cs:hH iv,((cs.map sgn).map (λx=> ~~~x)).sum= ~~~cs
 |[]=>rfl
 | c::r=>by
   rw[Yw,Yw,Vr,uH r,Zr];change 1+ ~~~r= ~~~r+1
   lia
end _CU
namespace _CU
open PySem _LL
end _CU
namespace _LL
open PySem PySem.Spec PyProof.Rows
abbrev Up(B:z4)(l:hH Env)(e:jg)(cls:iy)(b:ZI)(d:kw iy)(h:z4):Prop:=
 B.StaysIn h/\B.get? e=hV/\h.FunFrames B l/\∃a vs,h.get? e∣a/\a.cls=cls/\a.dict=b/\a.data= .fields vs/\1<vs.size/\
  match d with
  | none=>vs[1]?∣.none
  | some f=>∃T c ts,vs[1]?∣.ref T/\B.get? T=hV/\T≠e/\h.get? T∣c/\c.data= .fields ts/\ts[3]?∣f
def sJ(o:NB)(f:ZJ->ZJ):(o.mapFields f).dict=o.dict:=by
 let%[c,d,a|b]:=o;cases a<;> rfl
section
variable{M:Model}{A:wy}{E:ZD}{s:kG}{B:z4}{env:Env}{outer:hH Env}{L e:jg}{cls:iy}{dct:ZI}{Q:Q7->kG->Prop}
def v8(y:A.frames∣(env::outer))(hf:env.frame∣L)(st:B.StaysIn s.heap)(C:B.get? e=hV)(p:s.heap.FunFrames B (env::outer))
 (he:s.heap.get? e∣u) (N:u.data= .fields vs) (d:1<vs.size)
 (k:∀h',Up B (env::outer) e u.cls u.dict (hY (LU L)) h'->s.heap.UpToSlots h'->Q () (s>>>h')):
 vk M A (do let a<-frameOf env;let pl<-entryPlaceOf L i;let b<-EntryCells.newEntry O a .none (LU L) .none pl;O8 (.ref e) 1 b) Q E s:=by
 let G:e∉(env::outer).filterMap _:=λH=>by
  let%[_,o,ho|ab]:=p.mem H
  simp_all
 show Z2 (wpAny_frameOf_fun y p hf λc v=>Z2 (wpAny_entryPlaceOf λpl I=>Z2 (L1 ?_ (I.sizeOk5 _ _ _ _ _))))
 generalize j:({cls:= .type _,dict:=hV,data:= .fields _}:NB)=h
 let T:=(v.2.1 e G).trans he;let U:(c.push h).get? e∣u:=Z7 _ T;show O3 U N d ?_;let ne:=Zt (Zv T);let l:=NM N (·.setIfInBounds 1 (m4 c.objs.size));let f:∀b o,b≠e->c.get? b∣o->((c.push h).update e (Oo (·.setIfInBounds 1 (m4 c.objs.size)))).get? b∣o:=λb o n q=>by
  rw[LQ _ _ (Lx n)];show Z7 _ q
 let m:B.StaysIn c:=λb o q=>(v.2.1 b λH=>by rw[(p.mem H).1]at q;cases q).trans (st b o q)
 let nb:∀b o,s.heap.get? b∣o->(∀ws,o.data≠ .fields ws)->b≠e:=λb o q w z=>by
  simp_all
 let t3:((c.push h).update e (Oo (·.setIfInBounds 1 (m4 c.objs.size)))).get? c.objs.size∣h:=by
  rw[LQ _ _ ne];show Zj c (by subst j;rfl)
 let g:∃ts,h.data= .fields ts/\ts[3]?∣LU L:=by
  subst j;show%[_,ρ|by simp]
 let%[ts,g|J]:=g;show k _ %[λb o q=>f b o (λz=>by lia) (m b o q),C,p.of_keeps λb o q w=>?_,_,_,(LP _ U (Od l)),Q9 _ _,sJ _ _,l,↑d,c.objs.size,h,ts,?_,m.fresh,Lx ne,t3,g|J] λb o q w=>?_
 .let%[Y|r]:=v.2.2 b o q;show%[_,f b _ (nb b o q w) r|ρ]
 .simp[d]
 .let%[Y|r]:=v.2.2 b o q;show%[Y|f b _ (nb b o q w) r]
def zE(st:B.StaysIn s.heap)(r:B.get? e=hV)(y:s.heap.FunFrames B l)
 (C:s.heap.get? e∣c) (G:c.data= .fields vs) (u:1<vs.size) (H:vs[1]?∣.ref T) (v:B.get? T=hV) (d:T≠e) (w:s.heap.get? T∣I) (h:I.data= .fields ts) (J:ts[3]?∣f)
 (k:∀h',Up B l e c.cls c.dict (hY g) h'->h'.get? e∣c->s.heap.UpToSlots h'->Q () (s>>>h')):vk M A (O8 (.ref T) 3 g) Q E s:=by
 let i:=(vr.mp J).1;show O3 w h i ?_;let a:∀b,b≠T->(s.heap.update T (Oo (·.setIfInBounds 3 g))).get? b=s.heap.get? b:=λb n=>LQ _ _ (Lx n)
 let nb:∀b o,s.heap.get? b∣o->(∀ws,o.data≠ .fields ws)->b≠T:=λb o q p z=>by
  simp_all
 let j:=NM h (·.setIfInBounds 3 g);let m:=(a e (Lx d)).trans C;show k _ %[λb o q=>(a b λz=>by lia).trans (st b o q),r,y.of_keeps λb o q p=>%[o,(a b (nb b o q p)).trans q|rfl],c,vs,m,rfl,rfl,G,u,T,_,_,H,v,d,
  LP _ w (Od j),j|by simp[i]] m λb o q p=>%[o.slots|(a b (nb b o q p)).trans q]
def zF(i:v=hV\/v∣.none)(b:A.frames∣(env::outer))(j:env.frame∣L)(u:Up B (env::outer) e cls dct v s.heap)
 (k:∀h',Up B (env::outer) e cls dct (hY (LU L)) h'->s.heap.UpToSlots h'->Q () (s>>>h')):vk M A (noteFrame (.ref e) env) Q E s:=by
 let%[st,c,w,N,vs,h,rfl,rfl,d,a|r]:=u;unfold noteFrame;simp only[j];rcases i with rfl|rfl
 .show Z2 (MA h d r (v8 b j st c w h d a k))
 .let%[T,O,ts,y,l,m,z,f|C]:=r;show Z2 (MA h d y (Z2 (MA z f C (Z2 (zE st c w h d a y l m z f C λh' G n H=>?_)))));let%[o,g,p|_]:=G;show v8 b j o g p n d a λI J q=>k I J (H.trans q)
def uI(u:Up B l e cls dct (hY f) s.heap)(k:∀h',Up B l e cls dct (hY .none) h'->s.heap.UpToSlots h'->Q () (s>>>h')):
 vk M A (setFlight (.ref e) hV) Q E s:=by
 let%[st,a,m,r,vs,h,rfl,rfl,i,b,T,v,ts,j,c,d,n,g|o]:=u;show Z2 (MA h i j (zE st a m h i b j c d n g o λh' p _ q=>k h' p q))
def v9(a:g=hV\/g∣.none)(b:A.frames∣(env::outer))(h:env.frame∣L)(u:Up B (env::outer) e cls dct g s.heap)
 (k:∀h',Up B outer e cls dct (hY .none) h'->s.heap.UpToSlots h'->Q () (s>>>h')):vk M A (leaving env (.ref e)) Q E s:=by
 show Z2 (zF a b h u λn i c=>uI i λj l d=>?_);let%[st,f,%[_,_|m]|r]:=l;show k j %[st,f,m|r] (c.trans d)
end
section
variable{P:n7}{w:xl}{H:Hp}{h:z4}{a:jg}{o:HO}
def cD.there(x:cD P w H h a o):∃b,h.get? a∣b:=by
 cases o with
 | lst xs=>have%[_,_,_,_|e]:=x;show%[_|e]
 | tup xs=>have%[_,_,_,b,e|_]:=x;show%[_|e]
 | dK c=>have%[_,_,_,_,o,_,_,e|_]:=x;show%[_|e]
 | dT c=>have%[_,_,_,_,o,_,_,e|_]:=x;show%[_|e]
 | set S n=>have%[o,_,_,_,e|_]:=x;show%[_|e]
 | ins C d fs=>have%[_,_,_,e|_]:=x;show%[_|e]
 | own y=>have%[_|e]:=x;show%[_|e]
 | xd fs=>have%[_,%[_,_,_,e|_]|_]:=x;show%[_|e]
 | rng lo hi=>have%[_,_,_|e]:=x;show%[_|e]
 | frz b u=>have%[e|_]:=x;show%[_|e]
 | tbl ps=>show%[_|(x)]
 | met f y=>show%[_|(x)]
 | ext g=>have%[_,%[_|e]|_]:=x;show%[_|e]
end
structure Fl (P:n7) (w:xl) (l:hH Env) (H:Hp) (s:kG) (ea:jg) (B:z4) (cls:iy) (dx:ZI) (fl:kw iy) (H':Hp) (s':kG):Prop where
 os:s'.os=s.os
 bare:Pt s'.gens
 un:Un (frs l) [] H H' s.heap s'.heap
 hok:HOk P w H' s'.heap
 up:Up B l ea cls dx fl s'.heap
 free:H' ea=hV
 new:s.heap.get? ea=hV
 inB:∀b ob,s'.heap.get? b∣ob->((∃o,s.heap.get? b∣o)\/∃o,H' b∣o)->b∉frs l->B.get? b∣ob
 frf:∀b∈frs l,H' b=hV
abbrev CXO(P:n7)(w:xl):CXT:=λl H s E e s'=>∃a B cls b c,e= .ref a/\Fl P w l H s a B cls b (hY .none) c s'/\E cls b c
section
variable{P:n7}{w:xl}{l:hH Env}{H H':Hp}{s s':kG}{ea:jg}{B h':z4}{cls:iy}{dx:ZI}{fl fl':kw iy}
def Fl.fly(F:Fl P w l H s ea B cls dx fl H' s')(st:B.StaysIn h')(y:s'.heap.UpToSlots h'):Un (frs l) [] H H' s.heap h'/\HOk P w H' h':=by
 let fr:∀b g,s'.heap.get? b∣g->b∈frs l->∃p,h'.get? b∣_:=λb g q a=>by
  let%[_,d,r|z]:=F.up.2.2.1.mem a;rw[q]at r;cases r;show y b g q z
 show%[%[λb o q n a f=>?_,λb o q n a f=>?_,F.un.free,λb o q f=>?_,F.un.tups,F.un.frzs|F.un.tbls]|λb o q=>?_]
 .show st b o (F.inB b o (F.un.keep b o q n a f) (.inl %[o|q]) a)
 .let%[p|e]:=F.un.slot b o q n a f;let%[h|i]:=fr b _ e a;show%[h|i]
 .let%[d|e]:=F.un.there b o q f;by_cases a:b∈frs l
  .let%[p|i]:=fr b d e a;show%[_|i]
  .show%[d|st b d (F.inB b d e (.inl %[o|q]) a)]
 .show(F.hok b o q).stay (λc u j e=>?_) (λ_ e=>e) λ_ _ e=>e
  let A:∃v,H' c∣v:=by
   rcases j with rfl|j
   .show%[_|q]
   .show%[_|j]
  let%[v|m]:=A;show st c u (F.inB c u e (.inr %[v|m]) λa=>by rw[F.frf c a]at m;cases m)
end
section
variable{P:n7}{w:xl}{K:ZA}{mg:ZC}{base:z4}{N:ZB}{qual:ku}{scope:QB}{f:jg}{cd:iy}{A:wy}{outer:hH Env}{s₀:kG}{H₀:Hp}{E:XK}
def De(i:v=hV\/v∣.none)
 (I:Qc (fK (CXO P w) P w K mg base N qual scope f cd A outer s₀ H₀ E) gx L H s) (F:Fl P w (Mt qual scope ⇑s₀ f cd::outer) H s d B cls y v g s') (q:E cls y g):
 (fK (CXO P w) P w K mg base N qual scope f cd A outer s₀ H₀ E).xe (.ref d) s':=by
 show v9 i I.ok.frames rfl F.up λh' u M=>?_
 let%[un|j]:=F.fly u.1 M;let J:Qc _ gx L g (s'>>>h'):=I.call' F.os un j F.bare λb z=>on z ∅
 show%[d,B,cls,y,g,ρ,%[J.os,J.bare,J.base,J.hok,u,F.free,?_,λb ob e h O=>?_|λb h=>F.frf b (Mg.mpr ?_)]|q]
 .cases z:s₀.heap.get? d with
  | none=>rfl
  | some o=>
    let%[o'|e]:=I.base.there d o z (by simp[fK]);rw[F.new]at e;cases e
 .let Q:b∉frs (Mt qual scope ⇑s₀ f cd::outer):=λT=>by
   rcases X2.mp (T)with z|z
   .rcases h with⟨o,c⟩|⟨o,c⟩
    .show on (Zv c) (z▸Xq _)
    .let:=J.free;rw[show(fK _ P w K mg base N qual scope f cd A outer s₀ H₀ E).env.locals=b from z.symm,c]at this;cases this
   .show O z
  let l:∃a,s'.heap.get? b∣a/\((∃o,s.heap.get? b∣o)\/∃o,g b∣o):=by
   rcases h with⟨o,c⟩|⟨o,c⟩
   .let%[C|G]:=I.base.there b o c (by simp[fK]);let%[n|p]:=F.un.there b C G ∅;show%[n,p|.inl %[C|G]]
   .let%[n|p]:=(F.hok b o c).there;show%[n,p|.inr %[o|c]]
  let%[a,U|r]:=l;let Y:=F.inB b a U r Q;let:=u.1 b a Y
  grind
 .let%[en,m|q]:=Mg.mp h;show%[en,X2.mpr (.inr m)|q]
def zG(a:∀c d H,b c d H->E c d H):iF (CXO P w) (fK (CXO P w) P w K mg base N qual scope f cd A outer s₀ H₀ E) b:=by
 intro gx g H s e s' I %[h,B,cls,i,j,rfl,F|q];show De (.inr rfl) I F (a _ _ _ q)
end
noncomputable abbrev Jg(vs:ZF):NB:={cls:= .type "tuple",data:= .seq vs.toArray}
noncomputable abbrev KK(C t:jg):NB:={cls:= .ref C,data:= .fields #[.ref t,.none,.none,.none,.bool hX,.none]}
noncomputable abbrev yo(h:z4)(C:jg)(vs:ZF):z4:=(h.push (Jg vs)).push (KK C h.objs.size)
def wa(h:z4)(C:jg)(vs:ZF):(yo h C vs).get? (h.objs.size+1)∣KK C h.objs.size:=by
 heap_get
def im(b:jg)(o:NB)(e:h.get? b∣o):(yo h C vs).get? b∣o:=
 Z7 _ (Z7 _ e)
section
variable{prog:n7}{w:xl}{A:wy}{E:ZD}{h:z4}{g:o0 QL}{d:Drawn}{t:iv}{os:OsState}
variable{nm q:ku}{C N:jg}{bs bm bmB:ZF}{hdct:su}{sn:ZB}{sub:ZF}{ab:su}{col:kw su}{dd:ZI}{k0 k1 k2 k3 k5:kw iy}{B newId initId:L8}
def Bk(F:ExcBaseFacts B newId initId bmB)(T:OwnTail h bmB bm){rest:ZF}
 (b:h.get? C∣UL nm q C N bs bm hdct sn sub ab col dd k0 k1 k2 k3 k5 newId) (l:h.Ns N i) (hi:i "__init__"=hY (.ref j)) (c:h.get? j∣m) (e:m.cls= .type "function") (a:rest.length<=lp)
 (n:↥A (call (.ref j) (.ref (h.objs.size+1)::rest)) (λr s'=>r= .none/\Q (.done (.ret (.ref (h.objs.size+1)))) s') E %[yo h C rest,g,d,t|os]):
 ↥A (oy.«type.__call__» %[.ref C::rest|[]]) Q E %[h,g,d,t|os]:=by
 repeat (first|with_reducible show Oe b ?_|with_reducible show wpAny_madeBy_exc b ?_|wp_step)
 show codeAny_call_builtin_code (Qi _ F.quiet) (wpAny_check_new_subT F T b ?_);show codeAny_exc_new_subT F T b ?_ a;let c1:=im (C:=C) (vs:=rest) _ _ b;let o:=im (C:=C) (vs:=rest) _ _ c;let n1:(yo h C rest).Ns N i:=l.keeps im;let p:=wa h C rest;let f:(m4 C::bm).contains (.ref C)=hW:=by simp
 unfold Rs
 repeat (first|with_reducible show Oe p ?_|(with_reducible show U5 c1 ?_;rw[f])|wp_step)
 change vk _ _ (O5 (.ref C) _) _ _ _;show wpAny_typeLookup_tail c1 n1 (T.keeps (h':=yo h C rest) im) F.mroIs F.init.lookup ?_;rw[hi];show zp (Z2 ?_);unfold bindSpecial;show Z2 (P0 (T:="function") %[_,o|e] ?_);rw[ix (!1)];show Z3 (Z2 (LL n (λr s' s=>?_) λ_ _ x=>x));let%[rfl|u]:=s
 wp_walk
 show u
def Bl(F:ExcBaseFacts B newId initId bmB)(T:OwnTail h bmB bm){rest:ZF}
 (b:h.get? C∣UL nm q C N bs bm hdct sn sub ab col dd k0 k1 k2 k3 k5 newId) (i:h.Ns N j) (hi:j "__init__"=hY (.ref f)) (c:h.get? f∣l) (e:l.cls= .type "function") (a:rest.length<=lp)
 (m:vk (Mq prog w) (A.under (.builtin "type.__call__" %[.ref C::rest|[]])) (call (.ref f) (.ref (h.objs.size+1)::rest)) (λr s'=>r= .none/\Q (.ref (h.objs.size+1)) s') E %[yo h C rest,g,d,t|os]):
 ↥A (call (.ref C) rest) Q E %[h,g,d,t|os]:=by
 let n:=tc_lookup;let o:=tc_bind (.ref C);let p:(%[h,g,d,t|os]:kG).TypeIs (.ref C) "type":=%[_,b|rfl]
 show NC (Sy ?_);change vk _ _ (callAny (.ref C) _) _ _ _
 repeat (any_goals (first|assumption|with_reducible show Oe b ?_|wp_step))
 show%[ρ|?_];show codeAny_call_builtin_at (Qi _ (!0)) entry_typeCall (wpAny_check_type_call_sub b (Bk F T b i hi c e a m))
end
noncomputable abbrev veB:ZF:=[.type "ValueError",.type "Exception",.type "BaseException",.type "object"]
abbrev bu:ZF->su
 | .ref c::r=>bu r
 | l=>l==veB
def j4(self:iy):∀{l:ZF},bu l=hW->refuseLoop self "__setattr__" l=pure ()
 | .ref c::r,e=>by rw[refuseLoop_ref];show j4 self e
 | .type n::r,e=>by
   let a:(Mm n::r)=veB:=by simpa [bu]using e
   show a▸PySem.F.store_ValueError.passes self
 |[],e=>by simp[bu]at e
 | .none::r,e=>by simp[bu]at e
 | .bool _::r,e=>by simp[bu]at e
 | .int _ _::r,e=>by simp[bu]at e
 | .str _ _::r,e=>by simp[bu]at e
 | .builtin _::r,e=>by simp[bu]at e
 | .float _ _::r,e=>by simp[bu]at e
 | .bytes _ _::r,e=>by simp[bu]at e
 | .ellipsis::r,e=>by simp[bu]at e
 | .notImplemented::r,e=>by simp[bu]at e
def oP(n:L8)(a:veB.contains (.type n)=hW):∀{l:ZF},bu l=hW->l.contains (.type n)=hW
 | .ref c::r,e=>by rw[T0,oP n a (l:=r) e,SR]
 | .type m::r,e=>by
   let b:(Mm m::r)=veB:=by simpa [bu]using e
   show b▸a
 |[],e=>by simp[bu]at e
 | .none::r,e=>by simp[bu]at e
 | .bool _::r,e=>by simp[bu]at e
 | .int _ _::r,e=>by simp[bu]at e
 | .str _ _::r,e=>by simp[bu]at e
 | .builtin _::r,e=>by simp[bu]at e
 | .float _ _::r,e=>by simp[bu]at e
 | .bytes _ _::r,e=>by simp[bu]at e
 | .ellipsis::r,e=>by simp[bu]at e
 | .notImplemented::r,e=>by simp[bu]at e
abbrev uJ(K:ZA)(C:jg):su:=(clsIn K C).any λa=>bu a.mro
section
#where
variable{K:ZA}{x C:jg}{name:ku}{v:iy}{ox:NB}{od:kw NB}
def Jh{R:Sg->kG->Prop}(X:K.In s.heap)(I:PySem.W.InstAt s.heap x ox C od)(i:uJ K C=hW)(j:LZ K (.ref C) name∣hV)
 (h:↥A.in1 (Uy (.ref x) (.ref C) (.str name tk) name v hX)
  (λfin s'=>match fin with| .done f=>R (.ok f) s'| .again d=>d.quiet=hW/\OR (Mq prog w) A d R s') (λe s'=>R (.error e) s') s):
 OR (Mq prog w) A (.call (.builtin "object.__setattr__") %[[.ref x,.str name tk,v]|[]]) R s:=by
 let a:=PySem.F.store_object;let%[c,g|b]:=PR i;let ne:c.mro.isEmpty=hX:=by cases q:c.mro with|nil=>rw[q]at b;simp[bu]at b|cons _ _=>rfl
 show NG a.slot.plain a.entry (@Vp _ _ _ s _ _ _ _ _ [] _ a.kind a.split (I.type.andThen (PySem.W.looks_mroIn X (by unfold mroIn;rw[g,QX,ij (by rw[ne];decide),(oP _ (!1) b)]))) (a.args _ _ v) ?_);let l:QJ (Mq prog w) s.heap (mroOf (.ref C)) c.mro:=(UK X g).andThen .now;rw[PySem.W.osa_eq,refuse_eq];show Z2 (Z2 (I.type.here (Z2 (l.here ?_))));rw[j4 _ b];show Z3 (Z2 (I.type.here (Z2 ((RH X j).here (Z2 (Z3 h))))))
def Gb(X:K.In s.heap)(g:s.heap.get? x∣ox)(i:ox.cls= .ref C)(j:ox.data= .fields vs)(l:ox.dict=hV)
 (z:LZ K (.ref C) "__setattr__"=hY (hY (.builtin "object.__setattr__"))) (B:uJ K C=hW) (G:LZ K (.ref C) name∣hV) (H:Ow K C=hW)
 (h:∀h',h'.get? x=hY {ox with dict:=hY ⇑s}->h'.Ns1 ⇑s (λy=>if y=name then hY v else hV)->(∀b o,b≠x->s.heap.get? b∣o->h'.get? b∣o)->Q () {s with heap:=h',toks:=s.toks+2}):
 ↥A (setAttr (.ref x) name v) Q E s:=by
 let%[oc,I,L|M]:=ox;subst i j l;let J:PySem.W.InstAt s.heap x _ C hV:=%[g,rfl,rfl|trivial]
 show set_plain X J z (Jh X J B G ?_);let%[cd,N|m]:=PR H;show Z2 (Z3 (Z2 (Z2 (O4 g (Z2 (Pn (UK X N) ?_))))));rw[m];let a:(s.heap.push {cls:= .type "dict",data:= .dict #[]}).get? x∣_:=Z7 _ g;let c:=Zt (Zv g);show Z2 (wpAny_alloc' (Z2 (wpAny_update' a (Z3 ?_))));let n:((s.heap.push {cls:= .type "dict",data:= .dict #[]}).update x λo=>{o with dict:=hY ⇑s}).get? ⇑s∣_:=
  (LQ _ _ c).trans (z4.get?_push_at rfl rfl)
 let p:((s.heap.push _).update x _).Ns ⇑s _:=
  %[_,#[],_,n,rfl,λe O=>on O ∅|λ_=>rfl]
 show Z2 (Z3 (Z2 (wpAny_nsSet1 (Tn p) λh' d f=>?_)));let%[oD,T,U,q,r|u]:=d.count (PySem.Within.cons name v PySem.Within.nil);show Z2 (V2 q (r▸Wb (Ym u ∅)) (Z3 (h h' ?_ d λb o Y e=>?_)))
 .show(f.2 x c).trans (LP _ a rfl)
 .show(f.2 b (Zt (Zv e))).trans ((LQ _ _ (Lx Y)).trans (Z7 _ e))
end
abbrev ExO(a C:jg)(d:ZI):HO:= .ext λh=>∃o vs,h.get? a∣o/\o.cls= .ref C/\o.dict=d/\o.data= .fields vs/\1<vs.size/\vs[1]?∣.none
def ExO.ok{P:n7}(e:h.get? a∣o)(c:o.cls= .ref C)(f:o.dict=d)(g:o.data= .fields vs)(i:1<vs.size)(b:vs[1]?∣.none):
 cD P w H h a (ExO a C d):=
 %[%[o,vs,e,c,f,g,i|b],%[o|e]|λb j ⟨o,vs,e,r⟩ k=>%[o,vs,k o e|r]]
def Df(h:H a∣o):Qa H a o=H:=by
 funext b;unfold Qa;simp_all
abbrev exK(K:ZA)(C f:jg):su:=(K.lookup C).any λo=>o.cls== .type "type"&&(match o.data with
 | .cls a=>a.mro.head? ==hY (.ref C)&&o.slots.size==6&&o.slots[4]? ==hY (hY (.builtin "ValueError.__new__"))&&!a.hasDel&&PySem.W.tailIn K veB a.mro.tail&&PySem.W.nsOkIn K a.ns&&Q4 K a.ns "__init__"==hY (hY (.ref f))
 | _=>hX)
set_option tactic.hygienic true in
def yp{K:ZA}{h:z4}{mg:ZC}(X:K.In h)(G:h.Ns N mg)(e:Q4 K N n∣hY v):mg n∣v:=by
 let%[o,j,l,a,b,_|f]:=G;unfold Q4 at e
 split at e
 .rename_i c d g m p q
  let:=X _ _ q;rw[a]at this;cases this;cases b
  split at e
  .rename_i r i
   cases e;rw[<-f];unfold nsFind findBy;rw[<-TD,i];rfl
  simp_all
 .cases e
def yq{K:ZA}(X:K.In h)(q:exK K C f=hW):∃nm i N bs c a j sub l b m n k1 k2 o p r,
 h.get? C∣UL nm i C N bs c a j sub l b m n k1 k2 o p "ValueError.__new__"/\h.Ns N r/\r "__init__"=hY (.ref f)/\OwnTail h veB c:=by
 let%[%[E,m,data|s],v|q]:=PR q;dsimp only at q;rw[Zx,MK]at q;let%[rfl|q]:=q;cases data with
 | cls w=>
   let%[nm,bs,d,H,i,I,j,sub,l,b|y]:=w;simp only[Zx,MK,Uj]at q;let%[%[%[%[%[%[u|z]|A]|rfl]|B]|e]|g]:=q;cases d with
   | nil=>cases u
   | cons x c=>
     cases u;rcases s with _|⟨n,_|⟨k1,_|⟨k2,_|⟨o,_|⟨J,_|⟨p,_|⟨L,s⟩⟩⟩⟩⟩⟩⟩<;> first|cases z|skip
     cases A;let G:=PySem.Heap.Ns.of_isNs (PySem.W.isNs_of_in X e);show%[_,_,_,_,_,_,_,_,_,_,_,_,_,_,_,_,_,X _ _ v,G,yp X G g|PySem.W.tail_of_in X B]
 | _=>cases q
section
variable{X:Cx}{C f:jg}
set_option tactic.hygienic true in
def yv(A:exK X.K C f=hW):cE X (.builtin "ValueError.__init__") (λxs H Q=>∃a d ys,xs=V.ref a::ys/\ ~~~ys<=9/\H a∣ExO a C d/\Q .non H):=by
 intro gx s B H xs us Q I r h;let%[a,d,ys,rfl,hy,g|q]:=h;cases r with
 | cons E G=>
   rename_i u ws
   obtain rfl:u=m4 a:=E;let%[%[o,vs,e,v,L,i,M|O]|_]:=I.hok a _ g;let%[nm,qn,N,bs,bm,w,sn,sub,ab,U,dd,k0,k1,k2,k3,k5,mN,Y,hN,hi|T]:=yq I.kIn A;let F:=PySem.F.excBase_ValueError;let j: ~~~ws<=lp:=by rw[<-G.length,L3];lia
   show NC (NG F.init.plain F.initEntry (wpAny_check_init_subT F T Y e v ?_));let l:∃m,vs[0]?∣m:=%[vs[0]'⋯|Mh ⋯]
   let%[m|l]:=l;let p:(s.heap.push (Jg ws)).get? a∣o:=Z7 _ e;let c:=NM i (·.setIfInBounds 0 (m4 ⇑s));let y:=LP (Oo (·.setIfInBounds 0 (m4 ⇑s))) p (Od c);let J:Qc X gx B H (s>>>((s.heap.push (Jg ws)).update a (Oo (·.setIfInBounds 0 (m4 ⇑s))))):=by
    let:=I.write (x:=a) (e:=a) (o:=ExO a C d) (t':=s.toks) (g▸LW) (.inl rfl)
     (λb u n z=>by rw[LQ _ _ (Lx n)];show Z7 _ z) %[_|y]
     (ExO.ok y ((Q9 _ _).trans v) ((sJ _ _).trans L) c ↑M (by rw[o0.getElem?_setIfInBounds_ne ∅];show O))
    rw[Df g]at this;show this
   show Z2 (Qk (Z2 (Z2 (MA p i l (Z2 (O3 p i ⋯ ?_))))) j);cases m with
   | ref b=>show Ql (Z3 %[.non,H,J,rfl|q])
   | _=>show Z3 (Z3 %[.non,H,J,rfl|q])
end
structure Dg (K:ZA) (D:jg):Prop where
 ga:R9 K (.ref D) "__getattribute__"=hY (hY (.builtin "type.__getattribute__"))
 rd:readsIn K D (.type "type")=hW
 at_:findCls K (.ref D) (.type "type") "__init__"=hY (.val (.builtin "ValueError.__init__"))
structure Ji (K:ZA) (C:jg) (f:ku):Prop where
 sa:LZ K (.ref C) "__setattr__"=hY (hY (.builtin "object.__setattr__"))
 ov:uJ K C=hW
 no:LZ K (.ref C) f∣hV
 hd:Ow K C=hW
section
variable{X:Cx}{C D f:jg}{x nm:ku}{p pos pos' apos:Pos}{e o value:G2}{es:hH G2}{t:TA}{ta tv:TE}{r:hH V->Hp->VK->Prop}
def Dh(g:Gl X x)(i:X.mg x∣.ref D)(B:Dg X.K D)(j:cE X (.builtin "ValueError.__init__") r)(l:PA X (e::es) t)(a:(x==("__debug__":ku))=hX)
 (m:vi (e::es) X.env=(hX,L9 e X.env)::vi es X.env) (b:(MM pos (vi es X.env)).any (·.1)=hX)
 (n:L9 (.Call (.Attribute (.Name x p) "__init__" apos) (e::es) [] pos) X.env=(do
  let c<-L9 (.Name x p) X.env
  QM apos.atName
  let(f,first)<-RK [c] (PQ c "__init__" pl)
  Ta pos f first (MM pos (vi (e::es) X.env)) (Pe pos (ND [] X.env)))):
 PE X (.Call (.Attribute (.Name x p) "__init__" apos) (e::es) [] pos) (tCB r t):=by
 intro gx s d H Q I h;show PySem.W.methodCall_KW (iE I g i (PySem.W.method_cls I.kIn B.ga (PySem.W.cls_value I.kIn B.rd B.at_ (!1) (PX (thP (l pos gx _ d H _ (I.tok _) h) λus q vs u v w y=>j gx q d u vs us Q v w y) m b))) a) n
abbrev Hl(K:ZA)(C:jg)(ta tv:TE)(f:ku):TS:=λD b H=>tv b H λy g=>ta b g λx c=>∃a,x= .ref a/\c a∣ExO a C hV/\
 ∀d,c d=hV->d≠a->D.nx b (Qa (Qa c a (ExO a C (hY d))) d (.xd [(f,y)]))
def Gc(c:Ji X.K C nm)(E:PE X o ta)(G:PE X value tv)(J:N7 value (hY (.Attribute o nm pos')) pos.line X.env=pure hX):PS X (.Assign [.Attribute o nm pos'] value pos) (Hl X.K C ta tv nm):=by
 intro gx s j H D I h;show RZ (thP (G gx s j H _ I h) λu L y M N O q=>thP (E gx L j M _ N q) λQ l x H2 d T ⟨a,ex,m,U⟩=>?_) J;subst ex;obtain rfl:Q=m4 a:=T;let%[%[ob,vs,e,v,Y,w,hz|h1]|_]:=d.hok a _ m;let i:=X7 (Zv e);let A:=d.hok.fresh (Zi _);show Gb d.kIn e v w Y c.sa c.ov c.no c.hd λh' B n' k=>%[j,_,?_|U ⇑l A i]
 show Qc.stood2 d (d.write (t':=l.toks+2) (m▸LW) (.inl rfl) (λb u n z=>k b u n z) %[_|B] (ExO.ok B v rfl w hz h1)) ((ap i)▸A) (Zi _) %[_,n'|λg=>?_];by_cases z:g=nm
 .rw[ix z,z];simp only[Nd,Oy];show O
 .rw[ij z];let z':(g==nm)=hX:=↑z
  simp only[Nd,z'];show LW
end
abbrev Jj(b:TE):TE:=λc H Q=>b c H λv a=>(∃i:ri,v= .int i/\i.natAbs<2^64/\Q (.str (toString i)) a)\/∃y:ku,v= .str y/\ ~~~y<=lp/\Q (.str y) a
abbrev oQ:hH TE->ku->TE
 |[],out=>λa H Q=> ~~~out<=lp/\Q (.str out) H
 | t::ts,out=>λa H Q=>t a H λv b=>∃y:ku,v= .str y/\ ~~~(out++y)<=lp/\oQ ts (out++y) a b Q
inductive PJ (X:Cx):hH G2->hH TE->Prop
 | nil:PJ X [] []
 | cons {e:G2} {es:hH G2} {t:TE} {ts:hH TE}:PE X e t->PJ X es ts->PJ X (e::es) (t::ts)
section
variable{X:Cx}{e v1 v2:G2}{rest:hH G2}{te t1 t2:TE}{ts:hH TE}{pos:Pos}
def Jk(c:PE X e te):PE X (.FormattedValue e (-1) hV pos) (Jj te):=by
 intro gx s d H Q I h;show FormattedValue_plain (thP (c gx s d H _ I h) λu j v a b r q=>?_);rcases q with⟨i,rfl,hi,q⟩|⟨y,rfl,f,q⟩
 .let%[t|rfl]:=(show∃t,u=Q6 i t from r)
  let g:i.natAbs.log2<1920:=by
   by_cases z:i.natAbs=0
   .rw[z];decide
   .show(iv.log2_lt z).mpr (Zg hi (Oq (!1) ∅))
  show formatField_int_small g %[V.str (toString i),a,b.tok _,%[_|rfl]|q]
 .let%[t|rfl]:=(r)
  show Wu (λt' tk=>%[.str y,a,b.tok _,%[_|rfl]|q]) f
def Di(h:PJ X c ts):∀(out:ku) (gx:ZE) (s:kG) (a:St) (H:Hp) (Q:VK),Qc X gx a H s->oQ ts out a H Q->
 (X⁻¹) (joinParts out (evalEach c X.env)) (EP X gx a Q) X.xe s:=by
 induction h with
 | nil=>show λout gx s a H Q I ⟨b,q⟩=>joinParts_nil %[.str out,H,I.tok _,%[_|rfl]|q] b
 | cons d _ f=>
   intro out gx s a H Q I q;show joinParts_cons (thP (d gx s a H _ I q) λu g v i j r ⟨y,l,b,m⟩=>?_);subst l;let%[t|rfl]:=(r)
   show%[b|f _ gx g a i Q j m]
def Gd(h:PJ X (v1::v2::rest) ts):PE X (.JoinedStr (v1::v2::rest) pos) (oQ ts LD):=λgx s a H Q I q=>
 JoinedStr_many (Di h _ gx s a H Q I q)
end
abbrev yw(C:jg)(sp:Sp)(t:TA):TE:=λb H Q=>t b H λvs a=> ~~~vs<=9/\∀x,a x=hV->sp (.ref x::vs) (Qa a x (ExO x C hV)) (λv c=>v= .non/\Q (.ref x) c) E0
structure MkX (K:ZA) (C f:jg):Prop where
 ex:exK K C f=hW
 fn:(K.lookup f).map (·.cls)∣.type "function"
 kp:N1 K (.ref C)=hW
section
variable{X:Cx}{k:iv}{f C:jg}{fd:On}{ps:ZB}{sp:Sp}{x:ku}{p pos cpos:Pos}{e:G2}{es:hH G2}{te:TE}{t:TA}
def Bm(M:MkX X.K C f)(F:eM X.prog X.w X.K X.mg X.base CX0 k f fd ps sp)(w:bH (k+1) X.A)(y:dU X.K fd ps [])
 (I:Qc X gx j H s) (r:aK vs us) (hv: ~~~vs<=9)
 (h:∀x,H x=hV->sp (.ref x::vs) (Qa H x (ExO x C hV)) (λv z=>v= .non/\Q (.ref x) z) E0):
 (X⁻¹) (call (.ref C) us) (EP X gx j Q) X.xe s:=by
 let%[i,g,d,tk|os]:=s;let%[nm,qn,N,bs,bm,n,sn,sub,ab,A,dd,k0,k1,k2,k3,k5,mN,B,E,hi|T]:=yq I.kIn M.ex;let%[oI,G|l]:=Ly.mp M.fn;show Bl PySem.F.excBase_ValueError T B E hi (I.kIn _ _ G) l (by rw[<-r.length,L3];lia) ?_;let J:Qc X gx j H %[yo i C us,g,d,tk|os]:=I.keptS im rfl rfl;let m:Qc X gx j (Qa H _ (ExO _ C hV)) _:=
  I.stoodS J (Yl _) (ExO.ok (wa i C us) rfl rfl rfl ∅ rfl)
 let o:=h _ (I.hok.fresh (Yl _));let q:aK (V.ref (i.objs.size+1)::vs) _:= .cons rfl r;let b: ~~~(m4 (i.objs.size+1)::us++[])= ~~~ps:=by
  rw[Zz,<-q.length];show F.len _ _ _ _ o
 let c:=y _ _ m.kIn b;rw[Zz]at c;show NC (codeAny_mono (F.run _ X.stack _ _ _ _ _ _ E0 (w.make C us []) (m.env0.make C us []) c q o) λr s' a=>?_);cases r with
 | error e=>show LR a
 | ok L=>
   cases L with
   | ret u=>
     let%[v,O,U,Y,ev|q3]:=m.after a;subst ev;show%[Y,V.ref _,O,U,ρ|q3]
   | next=>show LR a
   | brk=>show LR a
   | cont=>show LR a
def Dj(M:MkX X.K C f)(F:eM X.prog X.w X.K X.mg X.base CX0 k f fd ps sp)(d:bH (k+1) X.A)(g:Gl X x)(i:X.mg x∣.ref C)(j:dU X.K fd ps [])
 (l:PA X (e::es) t) (a:(x==("__debug__":ku))=hX) (m:vi (e::es) X.env=(hX,L9 e X.env)::vi es X.env) (b:(MM pos (vi es X.env)).any (·.1)=hX):
 PE X (.Call (.Name x p) (e::es) [] pos) (yw C sp t):=by
 intro gx s n H Q I h;show Nl (iE I g i (S9 I.ok.mod.kin M.kp (thP (l pos gx s n H _ I h) λus u vs v c r ⟨o,q⟩=>%[c.kIn|Bm M F d j c r o q]) m b) a)
abbrev uK(C:jg)(te:TE)(W:jg->Hp->Prop):TS:=λ_ c H=>te c H λv b=>∃a d,v= .ref a/\b a∣ExO a C (hY d)/\W a b
def Dk{W:jg->Hp->Prop}(A:exK X.K C f=hW)(B:X.calm=hW)(E:PE X e te)
 (G:∀(gx:ZE) (i:St) (H:Hp) (s:kG) (a d:jg),Qc X gx i H s->H a∣ExO a C (hY d)->W a H->X.xe (.ref a) s):PS X (.Raise (hY e) hV pos) (uK C te W):=by
 intro gx s i H D I h;change vk _ X.A (do QM pos;raiseStmt X.env (hY (do let v<-L9 e X.env;QM pos;pure v)) hV) _ _ s;show Z2 (Pu ?_);unfold raiseStmt;show Z2 (Z2 (thP (E gx s i H _ I h) λu m v J j r ⟨a,d,L,n,q⟩=>Z2 (Pu (Z3 ?_))));subst L;obtain rfl:u=m4 a:=r;let%[%[M,vs,O,c,o,w,hz|Q]|_]:=j.hok a _ n;let%[nm,qn,N,bs,U,y,sn,sub,ab,Y,dd,k0,k1,k2,k3,k5,mN,z,hN,hi|T]:=yq j.kIn A;let l:(m4 C::U).contains (.type "BaseException")=hW:=by rw[T0,T.hasType (b:=hW) (!1),SR]
 let hE:=G gx i J m a d j n q;let%[hp,g,dr,tk|os]:=m;let%[oc,od,ac|ae]:=M;dsimp only at c o w;subst c o w;let hh:X.A.handled=hV:=j.ok.hd B
 repeat (first|with_reducible show Oe O ?_|with_reducible show Oe z ?_|(with_reducible show U5 z ?_;rw[l])|wp_step)
 rw[Q];show Z3 ?_;rw[ij (!1)];show Z3 (U4 hh hE)
end
abbrev drop(H:Hp)(a:jg):Hp:=λb=>if b=a then hV else H b
def io:drop H a a=hV:=by unfold drop;rw[ix rfl]
def bP(h:b≠a):drop H a b=H b:=by unfold drop;rw[ij h]
def Bn{P:n7}{K:ZA}
 (hk:exK K C f=hW) (he:PE (fK (CXO P w) P w K mg base N h g p r A outer s₀ H₀ E) e te):
 PS (fK (CXO P w) P w K mg base N h g p r A outer s₀ H₀ E) (.Raise (hY e) hV pos) (uK C te λa H=>∃d,H a∣ExO a C (hY d)/\H₀ a=hV/\E (.ref C) (hY d) (drop H a)):=by
 show Dk hk rfl he λgx σ H s a ag I _ ⟨d,J,hn,q⟩=>?_
 let%[%[oe,vs,ea,Y,hd,hf,hz|h1]|_]:=I.hok a _ J;let ST:=I.stack;let SF:=I.stkFree;let L0:⇑s₀<=(Mt h g ⇑s₀ p r).locals:=Zi _;change vk (Mq P w) (A.deeper (Mt h g ⇑s₀ p r)) (leaving (Mt h g ⇑s₀ p r) (.ref a)) _ _ s;let ab:a∉frs (Mt h g ⇑s₀ p r::outer):=λz=>by
  let:=SF a z;rw[J]at this;cases this
 show v9 (.inl rfl) I.ok.frames rfl %[λb o z=>of_hideAll _ z,PySem.W.hideAll_none _ (X2.mpr (.inl rfl)),PySem.W.funFrames_hide ST λen ac b i=>X2.mpr (.inr (Mg.mpr %[en,ac|i])),oe,vs,ea,Y,hd,hf,hz|h1] λh' u sm=>?_
 let G:∀b o,s.heap.get? b∣o->b≠a->b∉frs (Mt h g ⇑s₀ p r::outer)->h'.get? b∣o/\(hideAll s.heap (a::frs (Mt h g ⇑s₀ p r::outer))).get? b∣o:=λb o z n1 n2=>by
  let hB:=hideAll_get (a::frs (Mt h g ⇑s₀ p r::outer)) z λm=>(X2.mp m).elim n1 n2
  show%[u.1 b o hB|hB]
 let T:∀b o,s.heap.get? b∣o->b∈frs (Mt h g ⇑s₀ p r::outer)->∃sl,h'.get? b=hY {o with slots:=sl}:=λb o z i=>by
  let%[_,o',z'|M]:=ST.mem i;rw[z]at z';cases z';show sm b o z M
 let nL:∀b o,s₀.heap.get? b∣o->b∉frs outer->b∉frs (Mt h g ⇑s₀ p r::outer):=λb o z n m=>by
  rcases X2.mp (show b∈⇑s₀::frs outer from m)with y|y
  .show on (Zv z) (y▸Xq _)
  .show n y
 let sub:∀b,b∈frs outer->b∈frs (Mt h g ⇑s₀ p r::outer):=λb i=>X2.mpr (.inr i)
 let j:∀b,b∉(fK (CXO P w) P w K mg base N h g p r A outer s₀ H₀ E).ex:=λb z=>on (show b∈([]:hH jg)from z) ∅
 let new:s₀.heap.get? a=hV:=by
  cases z:s₀.heap.get? a with
  | none=>rfl
  | some o=>
    let:=I.base.free a o z hn (j a);rw[J]at this;cases this
 let trk:∀b o,H b∣o->b∉frs (Mt h g ⇑s₀ p r::outer):=λb o z m=>by
  rw[SF b m]at z;cases z
 show%[a,_,.ref C,hY d,drop H a,ρ,%[I.os,I.bare,%[λb o z n i hx=>?_,λb o z n i hx=>?_,λb o z n hx=>?_,λb o z hx=>?_,λb xs z=>?_,λb o v z=>?_|λb ps z=>?_],λb o z=>?_,u,io,new,λb ob z i M=>?_|λb i=>?_]|q]
 .let l:=I.base.keep b o z n i (j b);show(G b o l (λy=>?_) (nL b o z i)).1;subst y;rw[new]at z;cases z
 .let%[sl|l]:=I.base.slot b o z n i (j b);let%[ae|Q]:=T b _ l (sub b i);show%[ae|Q]
 .by_cases y:b=a
  .show y▸io
  .rw[bP y];show I.base.free b o z n (j b)
 .let%[O|l]:=I.base.there b o z (j b);by_cases i:b∈frs (Mt h g ⇑s₀ p r::outer)
  .let%[sl|Q]:=T b O l i;show%[_|Q]
  .show%[O|(G b O l (λy=>?_) i).1];subst y;rw[new]at z;cases z
 .let l:=I.base.tups b xs z;rw[bP (oi l J (by simp[ExO]))];show l
 .let l:=I.base.frzs b o v z;rw[bP (oi l J (by simp[ExO]))];show l
 .let%[m|l]:=I.base.tbls b ps z;show%[m|?_];rw[bP (oi l J (by simp[ExO]))];show l
 .let y:b≠a:=λy=>by rw[y,io]at z;cases z
  rw[bP y]at z;show(I.hok b o z).stay (λc u' U L=>?_) (λc L=>?_) λc xs L=>?_
  .rcases U with rfl|U
   .show(G c u' L y (trk c o z)).1
   .show(G c u' L (oi U J (by simp[ExO])) (trk c _ U)).1
  .rw[bP (oi L J (by simp[ExO]))];show L
  .rw[bP (oi L J (by simp[ExO]))];show L
 .let y:b≠a:=λy=>by
   rcases i with⟨o,B⟩|⟨o,B⟩
   .rw[y,new]at B;cases B
   .rw[y,io]at B;cases B
  let nf:b∉frs (Mt h g ⇑s₀ p r::outer):=by
   rcases i with⟨o,B⟩|⟨o,B⟩
   .show nL b o B M
   .rw[bP y]at B;show trk b o B
  let ex:∃O,s.heap.get? b∣O:=by
   rcases i with⟨o,B⟩|⟨o,B⟩
   .show I.base.there b o B (j b)
   .rw[bP y]at B;show(I.hok b o B).there
  let%[O|l]:=ex;let%[Q|e3]:=G b O l y nf;rw[show h'.get? b∣ob from z]at Q;cases Q;show e3
 .let y:b≠a:=λy=>ab (y▸sub b i)
  rw[bP y];show SF b (sub b i)
abbrev ExH(a C:jg)(d:ZI):HO:= .ext λh=>∃o vs,h.get? a∣o/\o.cls= .ref C/\o.dict=d/\o.data= .fields vs
def ExH.ok{P:n7}(e:h.get? a∣o)(b:o.cls= .ref C)(c:o.dict=d)(f:o.data= .fields vs):
 cD P w H h a (ExH a C d):=
 %[%[o,vs,e,b,c|f],%[o|e]|λg i ⟨o,vs,e,r⟩ k=>%[o,vs,k o e|r]]
section
variable{X:Cx}{gx:ZE}{σ:St}{H:Hp}{s s':kG}
def Ge(I:Qc X gx σ H s)(L:X.N.Nodup)(hi:X.N[i]?∣n)(N:X.env.kindOf n∣.local)
 (h:∀s',Qc X gx (σ.set i hV) H s'->Q () s'):vk M A (do bindName X.env n .none;UD X.env n pos) Q E s:=by
 let%[m,O|T]:=id I.loc;let B:i<σ.length:=I.len▸(Xt hi).1;show wpAny_nameGoes_keeps N O (by rw[I.ok.kind];rfl) λh' v u a=>h _ ?_
 let f:∀b o,X.s₀.heap.get? b∣o->b≠X.env.locals:=λb o e=>Zt (Zg (Zv e) I.ok.above)
 show%[I.ok,I.os,I.bare,%[λb o e n w l=>?_,λb o e n w l=>?_,I.base.free,λb o e l=>?_,I.base.tups,I.base.frzs|I.base.tbls],%[_,u|λj y U g C Y=>?_],λy c e=>?_,I.free,I.freeC,λp hp=>?_,λb ob e=>?_|by simpa using I.len]
 .show(a.2 b (f b o e)).trans (I.base.keep b o e n w l)
 .let%[sl|g]:=I.base.slot b o e n w l;show%[sl|(a.2 b (f b o e)).trans g]
 .let%[o'|g]:=I.base.there b o e l;show%[o'|(a.2 b (f b o e)).trans g]
 .let G:j≠i:=λz=>by
   simp_all
  rw[PY (Lx G)]at C;let%[u',r'|q]:=T j y U g C Y;show%[u',r'|?_];rcases q with⟨k,e⟩|⟨k,c,e,z⟩
  .show .inl %[k|?_];let:y≠n:=λe=>G (ig L g (e▸hi))
   simp[this,e]
  .show .inr %[k,c,e|z.sameBut a (I.cne y c e)]
 .let%[J|z]:=I.cell y c e;show%[J|z.sameBut a (I.cne y c e)]
 .let%[e,n,ne,nf|d]:=I.pin p hp;show%[(a.2 p.1 ne).trans e,n,ne,nf|d]
 .show(I.hok b ob e).stay (λc J r q=>(a.2 c ?_).trans q) (λ_ q=>q) λ_ _ q=>q
  rintro rfl;rcases r with rfl|r
  .rw[I.free]at e;cases e
  .rw[I.free]at r;cases r
end
section
variable{M:Model}{A:wy}{E:ZD}{s:kG}{K:ZA}{D C e:jg}{oe:NB}{b:su}{Q:su->kG->Prop}
def Dl(X:K.In s.heap)(i:Vj K (.ref D)∣.type "type")(j:Qp K (.ref D) (.type "BaseException")∣hW)(d:(K.lookup D).any (λo=>match o.data with| .cls _=>hW|_=>hX)=hW)
 (l:s.heap.get? e∣oe) (m:oe.cls= .ref C) (n:Qp K (.ref C) (.ref D)∣b) (f:Q b s):vk M A (excMatches (.ref e) (.ref D)) Q E s:=by
 let%[g,p|c]:=PR d;show Z2 (Z2 ((PySem.W.looks_typeIn X i).here ?_));rw[tc_notTuple];show Z3 (Z2 (Z3 ?_));let a:∃h,g.data= .cls h:=by
  revert c
  cases g.data<;> intro c<;> first|show⟨_,rfl⟩|cases c
 let%[h|a]:=a;let LT:QJ M s.heap (OM (.ref e)) _:=λq u v s' k r=>by
  show Z2 (O4 (k _ _ l) (Z3 (m▸r)))
 show Z2 (Z2 (Z2 (Z2 (Z2 (O4 (X _ _ p) (Z3 ?_))))));rw[a,ix rfl];show(Sm X j).here (Z3 (Z3 (Z2 (LT.here (Z2 (Z2 (Z2 ((Sm X n).here ?_))))))));cases b with
 | true=>
   show Z3 (Z3 (Z3 f))
 | false=>
   show Z3 (Z3 (Z3 f))
end
noncomputable abbrev Cx.suiteX(X:Cx)(a:jg):Cx:={X with A:=X.A.mark (hY (.ref a)),calm:=hX,xe:=λ_ _=>LG}
section
variable{X:Cx}{gx pins' pn:ZE}{σ:St}{H:Hp}{s:kG}{E:ZD}
def KL(ok:X.Ok)(pn:hH _)(E:ZD):({X with pn:=pn,xe:=E}).Ok:=
 %[ok.mod,ok.kind,ok.glob,ok.blt,ok.above,ok.inj,ok.has,ok.cab,ok.hd,ok.frames,ok.stk,ok.exf,ok.bs,ok.bsz,ok.noex,ok.exfs,ok.funs|ok.frf]
def unPn(ok:({X with pn:=pn,xe:=E}).Ok):X.Ok:=
 %[ok.mod,ok.kind,ok.glob,ok.blt,ok.above,ok.inj,ok.has,ok.cab,ok.hd,ok.frames,ok.stk,ok.exf,ok.bs,ok.bsz,ok.noex,ok.exfs,ok.funs|ok.frf]
def Qc.toPn(I:Qc X gx σ H s)(E:ZD):Qc ({X with pn:=X.pn++gx,xe:=E}) [] σ H s:=
 %[KL I.ok _ E,I.os,I.bare,I.base,I.loc,I.cell,I.free,I.freeC,λp a=>I.pin p ↑a,I.hok|I.len]
def Qc.ofPn(I:Qc ({X with pn:=X.pn++gx,xe:=E}) pins' σ H s):Qc X gx σ H s:=
 %[unPn I.ok,I.os,I.bare,I.base,I.loc,I.cell,I.free,I.freeC,λp a=>I.pin p (Yz _ a),I.hok|I.len]
def Qc.toSuite(I:Qc X gx σ H s)(a:jg):Qc (X.suiteX a) gx σ H s:=
 %[%[I.ok.mod,I.ok.kind,I.ok.glob,I.ok.blt,I.ok.above,I.ok.inj,I.ok.has,I.ok.cab,(λz=>su.noConfusion z),I.ok.frames,I.ok.stk,I.ok.exf,I.ok.bs,I.ok.bsz,I.ok.noex,I.ok.exfs,I.ok.funs|I.ok.frf],I.os,I.bare,I.base,I.loc,I.cell,I.free,I.freeC,I.pin,I.hok|I.len]
def Qc.ofSuite(I:Qc (X.suiteX a) gx σ H s)(ok:X.Ok):Qc X gx σ H s:=%[ok,I.os,I.bare,I.base,I.loc,I.cell,I.free,I.freeC,I.pin,I.hok|I.len]
def SP.ofPn{D:iD}(h:SP ({X with pn:=X.pn++gx,xe:=E}:Cx) [] D f s):SP X gx D f s:=by
 cases f with
 | next=>have%[a,b,I|q]:=h;show%[a,b,I.ofPn|q]
 | brk=>have%[a,b,I|q]:=h;show%[a,b,I.ofPn|q]
 | cont=>have%[a,b,I|q]:=h;show%[a,b,I.ofPn|q]
 | ret u=>have%[v,a,b,I,r|q]:=h;show%[v,a,b,I.ofPn,r|q]
end
abbrev iD.gone(D:iD)(i:iv):iD:={nx:=λa H=>D.nx (a.set i hV) H,rt:=D.rt,bk:=λa H=>D.bk (a.set i hV) H,ct:=λa H=>D.ct (a.set i hV) H}
structure Cat (K:ZA) (D:jg):Prop where
 ty:Vj K (.ref D)∣.type "type"
 ex:Qp K (.ref D) (.type "BaseException")∣hW
 cd:(K.lookup D).any (λo=>match o.data with| .cls _=>hW|_=>hX)=hW
structure Gf (K:ZA) (C:jg) (f:ku):Prop where
 ga:LZ K (.ref C) "__getattribute__"=hY (hY (.builtin "BaseException.__getattribute__"))
 hk:LZ K (.ref C) "__getattr__"=hY hV
 sub:Qp K (.ref C) (.type "BaseException")∣hW
 no:LZ K (.ref C) f∣hV
 hd:Ow K C=hW
section
#where
variable{K:ZA}{x C:jg}{name:ku}{v:iy}{ox:NB}{od:kw NB}
def Jl(X:K.In s.heap)(I:PySem.W.InstAt s.heap x ox C od)(c:Gf K C name)(d:findObj K C od name∣.value v)(f:WK v=hW)
 (h:Q v {s with toks:=s.toks+1}):↥A (VN (.ref x) name a) Q E s:=by
 let b:QJ (Mq prog w) s.heap (OM (.ref x)) (.ref C):=I.type;let sub:QJ (Mq prog w) s.heap (Rs (.ref x) (.type "BaseException")) hW:=b.andThen (Sm X c.sub);let g:=looks_find (M:=Mq prog w) X I d;let S:=PySem.F.excAttr_ValueError.ga;show Z2 (wpAny_mkText (zp (Z2 (b _ _ _ _ (λ_ _ e=>e) (Z2 (RH X c.ga _ _ _ _ (λ_ _ e=>e) ?_))))));dsimp only;rw[show(TJ (m4 C)&&MG "BaseException.__getattribute__"==MG "object.__getattribute__")=hX from by rw[show(MG "BaseException.__getattribute__"==MG "object.__getattribute__")=hX from !0,Mv],ij (!1)];show Z2 (looks_hook X (mc:= .ref C) (r:=hV) (c.hk) _ _ _ _ (λ_ _ e=>e) (Z2 (MU (zp ?_))));unfold Wd;rw[show(a&&TJ (MG _))=hX from Mv _,ij (!1)];unfold boundAndCalled;rw[S.bind];show NC ?_;show NG S.plain PySem.F.entry_bexc_ga ?_;show @Vp _ _ _ _ _ _ "__getattribute__" _ _ [] _ (!0) (!0) sub (PySem.F.args_bexc_ga _ _) ?_;show Z2 (Z3 (Z2 (Z3 (Z2 (Pn b (Z2 (Pn g (Z3 ?_))))))));change vk _ _ (handedOut v) _ _ _;rw[PySem.W.handedOut_of f];show Z3 h
end
abbrev Hm(C:jg)(c:TE)(f:ku):TE:=λe H Q=>c e H λx b=>∃a d fs v,x= .ref a/\b a∣ExH a C (hY d)/\b d∣.xd fs/\fs.lookup f∣v/\Q v b
def Gg{X:Cx}(c:Gf X.K C f)(n:PE X e p)(w:Mx e f X.env (L9 e X.env)=L9 e X.env):PE X (.Attribute e f pos) (Hm C p f):=by
 intro gx s y H Q I h;show zk w (thP (n gx s y H _ I h) λu U x z b A ⟨a,d,fs,v,ex,B,E,l,q⟩=>?_);subst ex;obtain rfl:u=m4 a:=A;let%[%[o,vs,G,g,i|j]|_]:=b.hok a _ B;let%[Y,n1|r]:=b.hok d _ E;let%[uv,J|m]:=gW.some_of (l▸r f);let%[od,L|M]:=rN n1;let%[oc,N,O|T]:=o;dsimp only at g i j;subst g i j;show Jl b.kIn %[G,rfl,rfl|L] c (findObj_own c.hd c.no rfl (by rw[M,J])) (rO m) %[v,z,b.tok _,m|q]
structure XIs (K:ZA) (C:jg):Prop where
 ga:LZ K (.ref C) "__getattribute__"=hY (hY (.builtin "BaseException.__getattribute__"))
 hk:LZ K (.ref C) "__getattr__"=hY hV
 sub:Qp K (.ref C) (.type "BaseException")∣hW
 hd:Ow K C=hW
 cl:LZ K (.ref C) "__class__"=hY (hY (.builtin "object.__class__"))
 gt:R9 K (.builtin "object.__class__") "__get__"=hY (hY (.builtin "getset_descriptor.__get__"))
 tk:takesIn K (.builtin "object.__class__")∣hW
 ob:mroIn K C (.type "object")∣hW
section
#where
variable{K:ZA}{x C:jg}{ox:NB}{od:kw NB}
def Jm(X:K.In s.heap)(I:PySem.W.InstAt s.heap x ox C od)(c:XIs K C)(h:Q (hY (.ref C)) {s with toks:=s.toks+1}):↥A (getAttr? (.ref x) "__class__") Q E s:=by
 let a:QJ (Mq prog w) s.heap (OM (.ref x)) (.ref C):=I.type;let sub:QJ (Mq prog w) s.heap (Rs (.ref x) (.type "BaseException")) hW:=a.andThen (Sm X c.sub);let b:findObj K C od "__class__"=hY (.bind (.builtin "getset_descriptor.__get__") (.builtin "object.__class__")):=by
  let%[g,d|_]:=PR c.hd;unfold findObj;rw[d,QX,c.cl,QX];dsimp only;rw[c.gt,QX];dsimp only;rw[c.tk,QX]
 let f:=looks_find (M:=Mq prog w) X I b;let S:=PySem.F.excAttr_ValueError.ga;unfold getAttr? getAttrBy? getAttrBy;show Z2 (wpAny_mkText (Z2 (MU (zp (Z2 (a _ _ _ _ (λ_ _ e=>e) (Z2 (RH X c.ga _ _ _ _ (λ_ _ e=>e) ?_))))))));dsimp only;rw[show(TJ (m4 C)&&MG "BaseException.__getattribute__"==MG "object.__getattribute__")=hX from by rw[show(MG "BaseException.__getattribute__"==MG "object.__getattribute__")=hX from !0,Mv],ij (!1)];show Z2 (looks_hook X (mc:= .ref C) (r:=hV) (c.hk) _ _ _ _ (λ_ _ e=>e) (Z2 (MU (zp ?_))));unfold Wd;rw[show(hX&&TJ (MG "BaseException.__getattribute__"))=hX from rfl,ij (!1)];unfold boundAndCalled;rw[S.bind];show Z2 (Z3 ?_);change vk _ _ (call (.builtin "BaseException.__getattribute__") _) _ _ _;show NC ?_;show NG S.plain PySem.F.entry_bexc_ga ?_;show @Vp (Mq prog w) _ _ {s with toks:=s.toks+1} _ "BaseException" "__getattribute__" (.ref x) [.str "__class__" s.toks] [] _ (!0) (!0) sub (PySem.F.args_bexc_ga (.ref x) (.str "__class__" s.toks)) ?_;show Z2 (Z3 (Z2 (Z3 (Z2 (Pn a (Z2 (Pn f (Z2 (zp (NC (PySem.W.class_get (ox:=ox) (od:=od) X I c.ob (Z3 (Z3 (Z3 h))))))))))))))
set_option tactic.hygienic true in
def Gh(c:XIs K C):KitX K (.ref x) (.ref C) (λh=>∃ox od,PySem.W.InstAt h x ox C od) where
 ty:=λ_ _ _ ⟨_,_,I⟩=>I.type
 it:=λ_ _ X _=>by
  let%[cdD,hcD|_]:=PR c.hd;unfold clsIn at hcD
  split at hcD
  .rename_i c' d' cd' sl' ho
   intro A' Q' E' s' k q;show Z2 (O4 (k _ _ (X _ _ ho)) (Z3 q))
  .cases hcD
 ne:=λh tp dd its n sl X htp=>by
  let%[cdD,hcD|_]:=PR c.hd;show Q3.mpr λq=>?_
  let e:=TQ (MK.mp q);subst e;unfold clsIn at hcD
  split at hcD
  .rename_i c' d' cd' sl' ho
   let z:=(X _ _ ho).symm.trans htp;cases z
  .cases hcD
 ca:=λX ⟨_,_,I⟩ k=>Jm X I c k
end
abbrev Held(H:Hp)(a C:jg):Prop:=∃d,H a∣ExH a C d/\(d=hV\/∃b fs,d∣b/\H b∣.xd fs)
inductive TyX (K:ZA) (H:Hp):V->iy->Prop where
 | non:TyX K H .non (.type "NoneType")
 | ex {a C:jg} (h:Held H a C) (c:XIs K C):TyX K H (.ref a) (.ref C)
section
#version
def TyX.kit(ty:TyX X.K H x t)(I:Qc X gx σ H s)(r:aX x u):∃f:z4->Prop,KitX X.K u t f/\f s.heap/\u≠ .builtin "__main__.__loader__#opaque":=by
 cases ty with
 | non=>
   cases(r);show%[_,kitx_none,LW|λz=>nomatch z]
 | @ex a C h c=>
   cases(r);let%[d,j|l]:=h;let%[%[o,vs,e,g,b|i]|_]:=I.hok a _ j;let%[y,m,n|p]:=o;dsimp only at g b i;subst g b i;show%[_,Gh c,?_|λz=>nomatch z];rcases l with rfl|⟨q,fs,rfl,v⟩
   .show%[_,hV,e,ρ,ρ|trivial]
   .let%[od|w]:=(I.hok q _ v).there;show%[_,hY od,e,ρ,ρ|w]
end
def sK:∀{a:hH jg} {us:ZF},aK (a.map V.ref) us->us=a.map m4
 |[],_,.nil=>rfl
 | _::_,_,.cons r t=>by
   cases r;rw[sK t];rfl
def Dm{X:Cx}:cE X (.builtin "isinstance") (λxs H Q=>∃x y t b,xs=[x,y]/\TyX X.K H x t/\
 ((∃n,y= .ty n/\Ov X.K t (.type n)∣b)\/(∃D,y= .ref D/\Ov X.K t (.ref D)∣b)\/∃c d,y= .ref c/\H c&&&Q0 V.ref d/\S6 X.K t (d.map m4)∣b)/\Q (.bl b) H):=by
 intro gx s B H xs us Q I r h;let%[x,y,t,b,rfl,ty,f|q]:=h;let%[u,C,rfl,g|a]:=kP r;let%[E,Z,p|nb]:=ty.kit I g;rcases f with⟨n,rfl,e⟩|⟨D,rfl,e⟩|⟨c,d,rfl,i,e⟩
 .cases(a);show Oh Z I.kIn p e nb λtk=>%[.bl b,H,I.tok tk,rfl|q]
 .cases(a);show Oh Z I.kIn p e nb λtk=>%[.bl b,H,I.tok tk,rfl|q]
 .cases(a);let%[_,its,j,o,l,m,n|v]:=I.hok c _ i;let:=sK j;subst this;let%[G,w,z|A]:=o;subst m v;show PySem.W.kia_tup Z I.kIn p l e nb λtk=>%[.bl b,H,I.tok tk,rfl|q]
def Jn{X:Cx}{D:jg}(b:Gl X x)(c:X.mg x∣.ref D)(a:(x==("__debug__":ku))=hX):PE X (.Name x p) (λd H Q=>Q (.ref D) H):=λgx s d H Q I h=>
 iE I b c %[.ref D,H,I,rfl|h] a
def Fun.okX{P:n7}{K:ZA}{st:J5}(F:Fun K x b st f g)(S:ar N ps (ak st))(len:∀vs H Q E,sp vs H Q E-> ~~~vs= ~~~ps)
 (c:∀(a:iy) (A:wy) (outer:hH Env) (s:kG) (H:Hp) (vs:hH V) (Q:VK) (E:XK),bH k (A.deeper (Mt b (ak st) ⇑s f a))->sp vs H Q E->
  ∃t,PSs (fK (CXO P w) P w K mg base N b (ak st) f a A outer s H E) (bJ st) t/\t {nx:=λ_ h=>Q .non h,rt:=Q} (start N vs) H):eM P w K mg base (CXO P w) (k+1) f g ps sp:=by
 let%[m,od,kV,i,n,o,a,ct,j,rfl,lk|d]:=F.ex;show G8 lk d S len λA outer s H vs Q E l e=>c a A outer s H vs Q E l e
abbrev aE(mg:ZC)(x:ku):jg:=match mg x with
 | hY (.ref C)=>C
 | _=>0
def d0(h:mg x∣.ref C):aE mg x=C:=by unfold aE;rw[h]
structure Do (K:ZA) (mg:ZC) (x qual:ku) (st:J5) (ps:ZB):Prop where
 at_:mg x∣.ref (aE mg x)
 is:XIs K (aE mg x)
 ini:∃f fd,MkX K (aE mg x) f/\Fun K "__init__" qual st f fd/\dU K fd ps []
structure yx (P:n7) (w:xl) (K:ZA) (mg:ZC) (base:z4) (k:iv) (x:ku) (ps:ZB) (sp:Sp):Prop where
 ex:∃f fd,eM P w K mg base (CXO P w) k f fd ps sp/\mg x∣.ref f/\N1 K (.ref f)=hW/\dU K fd ps []
structure Jo (P:n7) (w:xl) (K:ZA) (mg:ZC) (base:z4) (k:iv) (x:ku) (ps:ZB) (sp:Sp):Prop where
 ex:∃f fd,eM P w K mg base CX0 k f fd ps sp/\MkX K (aE mg x) f/\mg x∣.ref (aE mg x)/\dU K fd ps []
section
variable{P:n7}{w:xl}{K:ZA}{mg:ZC}{base:z4}{x qual:ku}{st:J5}{N ps:ZB}{k:iv}{sp:Sp}
def aF.calX(D:aF K mg x st ps)(S:ar N ps (ak st))
 (a:∀(H:Hp) (vs:hH V) (Q:VK) (E:XK),sp vs H Q E-> ~~~vs= ~~~ps/\∀(f:jg) (b:iy) (A:wy) (outer:hH Env) (s:kG),bH k (A.deeper (Mt x (ak st) ⇑s f b))->
  ∃t,PSs (fK (CXO P w) P w K mg base N x (ak st) f b A outer s H E) (bJ st) t/\t {nx:=λ_ c=>Q .non c,rt:=Q} (start N vs) H):yx P w K mg base (k+1) x ps sp:=by
 let%[f,d,F,e|g]:=D.ex;show%[f,d,F.okX S (λv H Q E h=>(a H v Q E h).1) (λb A o s H v Q E r h=>(a H v Q E h).2 f b A o s r),e,F.kp|g]
def Do.cal(D:Do K mg x qual st ps)(S:ar N ps (ak st))(len:∀vs H Q E,sp vs H Q E-> ~~~vs= ~~~ps)
 (b:∀(f:jg) (a:iy) (A:wy) (outer:hH Env) (s:kG) (H:Hp) (vs:hH V) (Q:VK) (E:XK),exK K (aE mg x) f=hW->bH k (A.deeper (Mt qual (ak st) ⇑s f a))->sp vs H Q E->
  ∃t,PSs (fK CX0 P w K mg base N qual (ak st) f a A outer s H E).nox (bJ st) t/\t {nx:=λ_ c=>Q .non c,rt:=Q} (start N vs) H):Jo P w K mg base (k+1) x ps sp:=by
 let%[f,d,M,F|e]:=D.ini;show%[f,d,F.ok S len λa A outer s H vs Q E=>b f a A outer s H vs Q E M.ex,M,D.at_|e]
end
section
variable{X:Cx}{K:ZA}{pos:Pos}
def Hq(g:iF (CXO X.prog X.w) X E)(C:yx X.prog X.w X.K X.mg X.base j x ps sp)(h:bH k X.A)(i:Gl X x)(a:Px j k=hW)
 (b:(x==("__debug__":ku))=hX) (c:(e::d).any aT=hX) (l:QA X (e::d) t):QE X (.Call (.Name x p) (e::d) [] pos) (rP sp [] E t):=by
 rw[Zy,Xd]at c;let%[f,q,F,m,n|o]:=C.ex;show⟨zt F (h.mono (Yj a)) i m n o .nil g l.h b (aA c.1) (dZ c.2)⟩
def Jp(C:Jo X.prog X.w X.K X.mg X.base j x ps sp)(g:bH k X.A)(h:Gl X x)(a:Px (j+1) k=hW)
 (b:(x==("__debug__":ku))=hX) (c:(e::d).any aT=hX) (i:QA X (e::d) t):QE X (.Call (.Name x p) (e::d) [] pos) (yw (aE X.mg x) sp t):=by
 rw[Zy,Xd]at c;let%[f,n,F,M,l|m]:=C.ex;show⟨Dj M F (g.mono (Yj a)) h l m i.h b (aA c.1) (dZ c.2)⟩
def clsE(b:Gl X x)(c:X.mg x∣.ref (aE X.mg x))(a:(x==("__debug__":ku))=hX):QE X (.Name x p) (tC (.ref (aE X.mg x))):=⟨Jn b c a⟩
def Jq(a:QE X e b):QE X (.FormattedValue e (-1) hV pos) (Jj b):=⟨Jk a.h⟩
def Dp:PJ X [] []:= .nil
def pjE(a:QE X e t)(h:PJ X b ts):PJ X (e::b) (t::ts):= .cons a.h h
def Dr{rest:hH G2}(h:PJ X (v1::a::rest) ts):QE X (.JoinedStr (v1::a::rest) pos) (oQ ts LD):=⟨Gd h⟩
def Dt(c:Gf X.K C f)(a:iI e=hX)(b:QE X e d):QE X (.Attribute e f pos) (Hm C d f):=⟨Gg c b.h (gC a)⟩
def KM(c:Ji X.K C f)(b:gB e=hX)(d:QE X o g)(h:QE X e i):QS X (.Assign [.Attribute o f a] e pos) (Hl X.K C g i f):=⟨Gc c d.h h.h (jk b)⟩
def Hr(h:X.K=K):b8 X (.builtin "isinstance") (λxs H Q=>∃x y t b,xs=[x,y]/\TyX K H x t/\
 ((∃n,y= .ty n/\Ov K t (.type n)∣b)\/(∃D,y= .ref D/\Ov K t (.ref D)∣b)\/∃a c,y= .ref a/\H a&&&Q0 V.ref c/\S6 K t (c.map m4)∣b)/\Q (.bl b) H):=by
 subst h;show⟨Dm⟩
end
def Jr{P:n7}{K:ZA}
 (g:exK K C f=hW) (h:QE (fK (CXO P w) P w K mg base N c b i j A outer s₀ H₀ E) e l):
 QS (fK (CXO P w) P w K mg base N c b i j A outer s₀ H₀ E) (.Raise (hY e) hV pos) (uK C l λa H=>∃d,H a∣ExO a C (hY d)/\H₀ a=hV/\E (.ref C) (hY d) (drop H a)):=⟨Bn g h.h⟩
def Js{X:Cx}{C D f:jg}(l:exK X.K C f=hW)(m:Gl X x)(n:X.mg x∣.ref D)(B:Dg X.K D)(g:(x==("__debug__":ku))=hX)(h:(e::c).any aT=hX)
 (i:∃pl:Sem su,L9 (.Call (.Attribute (.Name x p) "__init__" b) (e::c) [] pos) X.env=(do
  let j<-L9 (.Name x p) X.env
  QM b.atName
  let(f,first)<-RK [j] (PQ j "__init__" pl)
  Ta pos f first (MM pos (vi (e::c) X.env)) (Pe pos (ND [] X.env)))) (o:QA X (e::c) t):
 QE X (.Call (.Attribute (.Name x p) "__init__" b) (e::c) [] pos) (tCB (λxs H Q=>∃a d ys,xs=V.ref a::ys/\ ~~~ys<=9/\H a∣ExO a C d/\Q .non H) t):=by
 rw[Zy,Xd]at h;let%[pl|i]:=i;show⟨Dh m n B (yv l) o.h g (aA h.1) (dZ h.2) i⟩
section
#where
end
abbrev clo(c:TE):TE:=λd H Q=>∃a:VK,c d H a/\∀v b,a v b->Q v b
def Jt{X:Cx}(h:PE X e b):PE X e (clo b):=λgx s c H Q I ⟨d,q,k⟩=>
 thP (h gx s c H d I q) λ_ _ v a f r z=>%[v,a,f,r|k v a z]
def Ju{X:Cx}(h:PE X e t)(k:∀a H Q,t' a H Q->t a H Q):PE X e t':=λgx s a H Q I q=>h gx s a H Q I (k a H Q q)
def Du(h:H r=hV):drop (Qa H r o) r=H:=by
 funext b;unfold drop Qa
 simp_all
section
end
end _LL
namespace _SB
open PySem PyProof.Rows
section
variable(prog:n7)(w:xl)(A:wy)(SI:kG->Prop)
abbrev SC{a:Type}(m:Lw lx Sem a)(Q:a->lx->Prop)(st:lx):Prop:=
 ∀s,SI s->↥A (m.run st) (λr s'=>SI s'/\Q r.1 r.2) (λ_ _=>LG) s
nonrec abbrev ZY:=o0 ny
abbrev Cmp(a:Tf)(D:ny->Prop)(N:ny->iv):Prop:=
 ∀x y s,D x->D y->SI s->↥A (keyLt' a x.1 y.1) (λb s'=>b=decide (N x<N y)/\SI s') (λ_ _=>LG) s
end
section
variable{prog:n7}{w:xl}{A:wy}{SI:kG->Prop}{α β:Type}
def au{a:α}{Q:α->lx->Prop}{st:lx}(h:Q a st):(SC prog w A SI) (pure a) Q st:=λs b=>by
 show Z3 %[b|h]
def aq{m:Lw lx Sem α}{f:α->Lw lx Sem β}{Q:β->lx->Prop}{st:lx}(h:(SC prog w A SI) m (λa b=>(SC prog w A SI) (f a) Q b) st):(SC prog w A SI) (m>>= f) Q st:=λs c=>by
 show Z2 (LL (h s c) (λr s' h'=>h'.2 s' h'.1) λ_ _ e=>e)
def b7{m:Lw lx Sem α}{Q c:α->lx->Prop}{st:lx}(h:(SC prog w A SI) m Q st)(d:∀a b,Q a b->c a b):(SC prog w A SI) m c st:=λs f=>
 LL (h s f) (λr s' h'=>%[h'.1|d _ _ h'.2]) λ_ _ e=>e
def g9{Q:lx->lx->Prop}{st:lx}(h:Q st st):(SC prog w A SI) get Q st:=λs a=>by
 show Z3 %[a|h]
def c8{f:lx->lx}{Q:PUnit->lx->Prop}{st:lx}(h:Q ⟨⟩ (f st)):(SC prog w A SI) (S3 f) Q st:=λs a=>by
 show Z3 %[a|h]
def Jv{x:lx}{Q:PUnit->lx->Prop}{st:lx}(h:Q ⟨⟩ x):(SC prog w A SI) (set x) Q st:=λs a=>by
 show Z3 %[a|h]
def zH{m:Sem α}{Q:α->lx->Prop}{st:lx}(h:∀s,SI s->↥A m (λa s'=>SI s'/\Q a st) (λ_ _=>LG) s):(SC prog w A SI) (liftM m:Lw lx Sem α) Q st:=λs b=>by
 show Z2 (LL (h s b) (λa s' h'=>Z3 h') λ_ _ e=>e)
def jN{t:L8}{Q:Q7->lx->Prop}{st:lx}(h:Q () st):(SC prog w A SI) (liftM (Qs t):Lw lx Sem Q7) Q st:=zH λs a=>NY %[a|h]
def bF{a b:iv}{c:β}{f:iv->β->Lw lx Sem (tI β)}{Q:β->lx->Prop}{st:lx}(I:iv->β->lx->Prop)(j:a<=b)(p:I a c st)
 (l:∀i x st,a<=i->i<b->I i x st->(SC prog w A SI) (f i x) (λr g=>match r with| .done y=>Q y g| .yield y=>I (i+1) y g) st) (m:∀x st,I b x st->Q x st):(SC prog w A SI) (forIn [a:b] c f) Q st:=by
 let q:∀d i x st,i+d=b->a<=i->I i x st->(SC prog w A SI) (forIn (hH.range' i d 1) x f) Q st:=by
  intro d
  induction d with
  | zero=>
    intro i x st e _ h;subst e;show au (m x st h)
  | succ d n=>
    intro i x st e o h;rw[hH.range'_succ,Rt];show aq (b7 (l i x st o ⋯ h) λr g h'=>?_);cases r with
    | done y=>show au h'
    | yield y=>show n _ y g ⋯ ⋯ h'
 simp_all
def bh{xs:ZY}{i:iv}{x:ny}{Q:ny->lx->Prop}{st:lx}(a:xs[i]?∣x)(h:Q x st):(SC prog w A SI) (NQ xs i) Q st:=by
 rw[elem'_eq,a];show au h
def wb{D:ny->Prop}{N:ny->iv}{x y:ny}{Q:kw su->lx->Prop}{st:lx}(c:Cmp prog w A SI (kindOf st) D N)(d:D x)(f:D y)(h:Q (hY (decide (N x<N y))) st):(SC prog w A SI) (lt' x y) Q st:=by
 show aq (g9 (aq (zH (λs g=>MU (LL (c x y s d f g) (λb s' ⟨i,a⟩=>?_) λ_ _ e=>e.elim)))));subst i;show%[a|au h]
def Gi{D:ny->Prop}{N:ny->iv}{i j:iv}{x y:ny}{Q:kw su->lx->Prop}{st:lx}(c:Cmp prog w A SI (kindOf st) D N)(hi:(nz st)[i]?∣x)(a:(nz st)[j]?∣y)(b:D x)(d:D y)
 (h:Q (hY (decide (N x<N y))) st):(SC prog w A SI) (VM i j) Q st:=by
 show aq (g9 (aq (bh hi (aq (bh a (wb c b d h))))))
end
abbrev gG:su->ny->ZY->iv->iv->iv->Lw lx Sem (kw iv):=sortPriv% PySem.Builtin.gallop
section
variable{prog:n7}{w:xl}{A:wy}{SI:kG->Prop}{α β:Type}
abbrev cF(N:ny->iv)(left:su)(a x:ny):su:=if left then decide (N x<N a)else !decide (N a<N x)
def Bo{D:ny->Prop}{N:ny->iv}{left:su}{a x:ny}{b:ZY}{i:iv}{Q:kw su->lx->Prop}{st:lx}(c:Cmp prog w A SI (kindOf st) D N)(d:D a)(f:b[i]?∣x)(e:D x)
 (h:Q (hY (cF N left a x)) st):(SC prog w A SI) (do let x<-NQ b i;if left=hW then lt' x a else do let y<-lt' a x;pure (y.map (!·))) Q st:=by
 show aq (bh f ?_);cases left with
 | true=>
   show wb c e d h
 | false=>
   show aq (wb c d e (au h))
abbrev ga0(left:su)(a:ny)(b:ZY)(base i:iv):Lw lx Sem (kw su):=do
 let x<-NQ b (base+i)
 if left=hW then lt' x a else do
  let y<-lt' a x
  pure (y.map (!·))
abbrev gaM(f:iv->Lw lx Sem (kw su))(x:kw (kw iv)×iv×iv):Lw lx Sem (tI (kw (kw iv)×iv×iv)):=
 if x.2.1>=x.2.2 then pure (.done (hV,x.2.1,x.2.2))else do
  match<-f (x.2.1+(x.2.2-x.2.1)/2)with
  | some w=>if w=hW then pure (.yield (hV,x.2.1+(x.2.2-x.2.1)/2+1,x.2.2))else pure (.yield (hV,x.2.1,x.2.1+(x.2.2-x.2.1)/2))
  | _=>pure (.done (hY hV,x.2.1,x.2.2))
abbrev ga3(f:iv->Lw lx Sem (kw su))(n lo hi:iv):Lw lx Sem (kw iv):=do
 let x<-forIn [0:n] (hV,lo,hi) λ_ x=>gaM f x
 match x.1 with
 | some r=>pure r
 | none=>pure (hY x.2.2)
abbrev ga1(f:iv->Lw lx Sem (kw su))(n hint:iv)(x:kw (kw iv)×iv×iv):Lw lx Sem (tI (kw (kw iv)×iv×iv)):=
 if x.2.2>=n-hint then pure (.done (hV,x.2.1,x.2.2))else do
  match<-f (hint+x.2.2)with
  | some w=>if(!w)=hW then pure (.done (hV,x.2.1,x.2.2))else pure (.yield (hV,x.2.2,2*x.2.2+1))
  | _=>pure (.done (hY hV,x.2.1,x.2.2))
abbrev ga2(f:iv->Lw lx Sem (kw su))(hint:iv)(x:kw (kw iv)×iv×iv):Lw lx Sem (tI (kw (kw iv)×iv×iv)):=
 if x.2.2>=hint+1 then pure (.done (hV,x.2.1,x.2.2))else do
  match<-f (hint-x.2.2)with
  | some w=>if w=hW then pure (.done (hV,x.2.1,x.2.2))else pure (.yield (hV,x.2.2,2*x.2.2+1))
  | _=>pure (.done (hY hV,x.2.1,x.2.2))
set_option smartUnfolding false in
def KN(left:su)(a:ny)(b:ZY)(base n hint:iv):gG left a b base n hint=(do
 match<-ga0 left a b base hint with
 | some w=>
   if w=hW then(do
    let x<-forIn [0:n] (hV,0,1) λ_ x=>ga1 (ga0 left a b base) n hint x
    match x.1 with
    | some r=>pure r
    | none=>ga3 (ga0 left a b base) n (hint+x.2.1+1) (hint+min x.2.2 (n-hint)))
   else(do
    let x<-forIn [0:n] (hV,0,1) λ_ x=>ga2 (ga0 left a b base) hint x
    match x.1 with
    | some r=>pure r
    | none=>ga3 (ga0 left a b base) n (hint+1-min x.2.2 (hint+1)) (hint-x.2.1))
 | _=>pure hV):=rfl
def Dv{f:iv->Lw lx Sem (kw su)}{n lo hi:iv}{Q:kw iv->lx->Prop}{a:lx}{P:iv->su}(ask:∀(i:iv) (R:kw su->lx->Prop),i<n->R (hY (P i)) a->(SC prog w A SI) (f i) R a)(c:∀i j,i<=j->j<n->P j=hW->P i=hW)
 (s:lo<=hi) (u:hi<=n) (v:∀i,i<lo->P i=hW) (y:∀i,hi<=i->i<n->P i=hX)
 (h:∀k,k<=n->(∀i,i<k->P i=hW)->(∀i,k<=i->i<n->P i=hX)->Q (hY k) a):(SC prog w A SI) (ga3 f n lo hi) Q a:=by
 show aq (b7 (bF (Q:=λx b=>b=a/\∃k,x=(hV,k,k)/\k<=n/\(∀i,i<k->P i=hW)/\(∀i,k<=i->i<n->P i=hX))
  (λj x b=>b=a/\∃l k,x=(hV,l,k)/\l<=k/\k-l<=n-j/\k<=n/\(∀i,i<l->P i=hW)/\(∀i,k<=i->i<n->P i=hX)) (Xl _) %[rfl,_,_,rfl,s,⋯,u,v|y] ?_ ?_) ?_)
 .intro j x b _ C %[rfl,l,k,rfl,p,z,d,e|g];unfold gaM;dsimp only;by_cases m:l>=k
  .rw[ix m];obtain rfl:l=k:=by lia
   show au %[rfl,l,rfl,d,e|g]
  .rw[ij m];let o:l+(k-l)/2<k:=by lia
   show aq (ask _ _ ⋯ ?_);dsimp only;cases q:P _ with
   | true=>
     show au %[rfl,_,_,rfl,o,⋯,d,λi hi=>c i _ ⋯ ⋯ q|g]
   | false=>
     show au %[rfl,_,_,rfl,⋯,⋯,⋯,e|λi hi r=>?_];cases B:P i with
     | false=>rfl
     | true=>rw[c _ i hi r B]at q;cases q
 .intro x b %[rfl,l,k,rfl,p,z,d,e|g];obtain rfl:l=k:=by lia
  show%[ρ,l,ρ,d,e|g]
 .intro x b %[rfl,k,rfl,d,e|g];show au (h k d e g)
def fE{D:ny->Prop}{N:ny->iv}{left:su}{q:ny}{r:ZY}{base n hint:iv}{Q:kw iv->lx->Prop}{st:lx}(c:Cmp prog w A SI (kindOf st) D N)(E:D q)
 (G:∀i,i<n->∃x,r[base+i]?∣x/\D x) (P:iv->su) (H:∀i x,i<n->r[base+i]?∣x->P i=cF N left q x) (a:∀i j,i<=j->j<n->P j=hW->P i=hW) (z:hint<n)
 (h:∀k,k<=n->(∀i,i<k->P i=hW)->(∀i,k<=i->i<n->P i=hX)->Q (hY k) st):(SC prog w A SI) (gG left q r base n hint) Q st:=by
 let ask:∀(i:iv) (R:kw su->lx->Prop),i<n->R (hY (P i)) st->(SC prog w A SI) (ga0 left q r base i) R st:=λi R hi I=>by
  let%[x,B|J]:=G i hi;show Bo c E B J ((H i x hi B)▸I)
 rw[KN];show aq (ask hint _ z ?_);dsimp only;cases C:P hint with
 | true=>
   rw[ix rfl];show aq (b7 (bF (Q:=λx d=>d=st/\∃l o,x=(hV,l,o)/\l<o/\hint+l<n/\P (hint+l)=hW/\(n-hint<=o\/(hint+o<n/\P (hint+o)=hX)))
    (λj x d=>d=st/\∃l o,x=(hV,l,o)/\l<o/\hint+l<n/\P (hint+l)=hW/\j<o) (Xl _) %[rfl,0,1,rfl,VJ,z,C|VJ] ?_ ?_) ?_)
   .intro j x d _ L %[rfl,l,o,rfl,e,b,g|s];unfold ga1;dsimp only;by_cases f:o>=n-hint
    .rw[ix f];show au %[rfl,l,o,rfl,e,b,g|.inl f]
    .rw[ij f];let m:hint+o<n:=by lia
     show aq (ask _ _ m ?_);dsimp only;cases p:P (hint+o)with
     | true=>
       rw[ij ∅];show au %[rfl,o,_,rfl,⋯,m,p|⋯]
     | false=>
       rw[ix ∅];show au %[rfl,l,o,rfl,e,b,g|.inr %[m|p]]
   .intro x d %[rfl,l,o,rfl,e,b,g|s];show%[ρ,l,o,ρ,e,b,g|.inl ⋯]
   .intro x v %[rfl,l,o,rfl,e,b,g|m];show Dv ask a ⋯ ⋯ (λi hi=>a i _ ⋯ b g) (λi hi u=>?_) h;rcases m with m|⟨m,p⟩
    .lia
    .cases y:P i with
     | false=>rfl
     | true=>rw[a _ i ⋯ u y]at p;cases p
 | false=>
   rw[ij ∅];show aq (b7 (bF (Q:=λx d=>d=st/\∃l o,x=(hV,l,o)/\l<o/\l<=hint/\P (hint-l)=hX/\(hint+1<=o\/(o<=hint/\P (hint-o)=hW)))
    (λj x d=>d=st/\∃l o,x=(hV,l,o)/\l<o/\l<=hint/\P (hint-l)=hX/\j<o) (Xl _) %[rfl,0,1,rfl,VJ,Xl _,C|VJ] ?_ ?_) ?_)
   .intro j x d _ L %[rfl,l,o,rfl,e,b,g|s];unfold ga2;dsimp only;by_cases f:o>=hint+1
    .rw[ix f];show au %[rfl,l,o,rfl,e,b,g|.inl f]
    .rw[ij f];let m:o<=hint:=by lia
     show aq (ask _ _ ⋯ ?_);dsimp only;cases p:P (hint-o)with
     | false=>
       rw[ij ∅];show au %[rfl,o,_,rfl,⋯,m,p|⋯]
     | true=>
       rw[ix rfl];show au %[rfl,l,o,rfl,e,b,g|.inr %[m|p]]
   .intro x d %[rfl,l,o,rfl,e,b,g|s];show%[ρ,l,o,ρ,e,b,g|.inl ⋯]
   .intro x v %[rfl,l,o,rfl,e,b,g|m];show Dv ask a ⋯ ⋯ (λi hi=>?_) (λi hi u=>?_) h
    .rcases m with m|⟨m,p⟩
     .lia
     .show a i _ ⋯ ⋯ p
    .cases y:P i with
     | false=>rfl
     | true=>rw[a _ i ⋯ u y]at g;cases g
end
abbrev oR:ZY->ZY->Lw lx Sem ZY:=sortPriv% PySem.Builtin.mergeLo
abbrev oS:ZY->ZY->Lw lx Sem ZY:=sortPriv% PySem.Builtin.mergeHi
abbrev dE:iv->Lw lx Sem Q7:=sortPriv% PySem.Builtin.setMinGallop
def ip(g:iv):dE g=S3 (λs=>Ry (kindOf s) (nz s) (rM s) g (M3 s)):=rfl
abbrev Srt(N:ny->iv)(l:hH ny):Prop:=l.Pairwise λx y=>N x<=N y
def Srt.drop{N:ny->iv}{l:hH ny}(h:Srt N l)(k:iv):Srt N (l.drop k):=Rk (hH.drop_sublist _ _) h
def Srt.le{N:ny->iv}{l:hH ny}(h:Srt N l){i j:iv}{x y:ny}(a:i<=j)(b:l[i]?∣x)(c:l[j]?∣y):N x<=N y:=by
 rcases QH a with e|e
 .simp_all
 .let%[d|g]:=Xt b;let%[f|m]:=Xt c;let:=Nz.mp h i j d f e
  simp_all
def cq{l:hH ny}{k:iv}{y:ny}(h:y∈l.drop k):∃j,k<=j/\j< ~~~l/\l[j]?∣y:=by
 let%[i|hi]:=Xm h;rw[Ye]at hi;show%[k+i,⋯,(Xt hi).1|hi]
def ng{l:hH ny}{i k:iv}{x:ny}(h:x∈(l.drop i).take k):∃j,j<k/\l[i+j]?∣x:=by
 let%[j|a]:=Xm h;rw[Yf]at a
 split at a
 .rw[Ye]at a;show%[j,by assumption|a]
 .lia
def Srt.drop_le{N:ny->iv}{l:hH ny}(h:Srt N l){i:iv}{x y:ny}(a:l[i]?∣x)(b:y∈l.drop i):N x<=N y:=by
 let%[j,c,_|e]:=cq b;show h.le c a e
structure MI (N:ny->iv) (A B out:hH ny) (ia ib:iv):Prop where
 perm:(out++A.drop ia++B.drop ib).Perm (A++B)
 srt:Srt N out
 ca:∀x∈out,∀y∈A.drop ia,N x<=N y
 cb:∀x∈out,∀y∈B.drop ib,N x<=N y
def MI.zero(N:ny->iv)(A B:hH ny):MI N A B [] 0 0:=%[by simp,M9,λ_ h=>(nomatch h)|λ_ h=>(nomatch h)]
def MI.takeA{N:ny->iv}{A B out:hH ny}{b d:iv}(h:MI N A B out b d)(g:Srt N A)(k:iv)(f:∀x∈(A.drop b).take k,∀y∈B.drop d,N x<=N y):MI N A B (out++(A.drop b).take k) (b+k) d:=by
 let e:A.drop b=(A.drop b).take k++A.drop (b+k):=TL▸(Xh k _).symm;let%[i,_|j]:=yc.mp (e▸g.drop b);show%[?_,yc.mpr %[h.srt,i|λx a y c=>h.ca x a y (X3 c)],λx a y c=>?_|λx a y c=>?_]
 .let p:=h.perm;rw[e]at p;rwa[<-Ze]at p
 .rcases Xu a with a|a
  .show h.ca x a y (e▸X1 _ c)
  .show j x a y c
 .rcases Xu a with a|a
  .show h.cb x a y c
  .show f x a y c
def MI.takeB{N:ny->iv}{A B out:hH ny}{d b:iv}(h:MI N A B out d b)(g:Srt N B)(k:iv)(f:∀x∈(B.drop b).take k,∀y∈A.drop d,N x<=N y):MI N A B (out++(B.drop b).take k) d (b+k):=by
 let e:B.drop b=(B.drop b).take k++B.drop (b+k):=TL▸(Xh k _).symm;let%[i,_|j]:=yc.mp (e▸g.drop b);show%[?_,yc.mpr %[h.srt,i|λx a y c=>h.cb x a y (X3 c)],λx a y c=>?_|λx a y c=>?_]
 .let p:=h.perm;rw[e]at p;show MQ ?_ p;rw[Ze,Ze,Ze];show Nf _ ?_;rw[<-Ze,<-Ze];show Xr _ Ou
 .rcases Xu a with a|a
  .show h.ca x a y c
  .show f x a y c
 .rcases Xu a with a|a
  .show h.cb x a y (e▸X1 _ c)
  .show j x a y c
abbrev dF(N:ny->iv)(A B r:hH ny):Prop:=Srt N r/\r.Perm (A++B)
def MI.done{N:ny->iv}{A B out:hH ny}{a b:iv}(h:MI N A B out a b)(e:Srt N A)(f:Srt N B)(g:∀x∈A.drop a,∀y∈B.drop b,N x<=N y):dF N A B (out++A.drop a++B.drop b):=
 %[yc.mpr %[yc.mpr %[h.srt,e.drop a|h.ca],f.drop b|λx c y d=>(Xu c).elim (λq=>h.cb x q y d) λq=>g x q y d]|h.perm]
def MI.last{N:ny->iv}{A B out:hH ny}{a b:iv}(h:MI N A B out a b)(e:Srt N A)(f:Srt N B)(g:∀y∈B.drop b,∀x∈A.drop a,N y<=N x):dF N A B (out++B.drop b++A.drop a):=by
 show%[yc.mpr %[yc.mpr %[h.srt,f.drop b|h.cb],e.drop a|λx c y d=>(Xu c).elim (λq=>h.ca x q y d) λq=>g x q y d]|MQ ?_ h.perm];rw[Ze,Ze];show Nf _ Ou
def kZ{l:hH ny}{i:iv}{x:ny}(h:l[i]?∣x):(l.drop i).take 1=[x]:=by
 let%[a|e]:=Xt h;rw[Y1 a,e];rfl
def MI.oneA{N:ny->iv}{A B out:hH ny}{a b:iv}{x:ny}(h:MI N A B out a b)(e:Srt N A)(d:A[a]?∣x)(c:∀y∈B.drop b,N x<=N y):MI N A B (out++[x]) (a+1) b:=by
 let:=h.takeA e 1 (by rw[kZ d];intro z f;rw[Xv f];show c);rwa[kZ d]at this
def MI.oneB{N:ny->iv}{A B out:hH ny}{a b:iv}{x:ny}(h:MI N A B out a b)(e:Srt N B)(d:B[b]?∣x)(c:∀y∈A.drop a,N x<=N y):MI N A B (out++[x]) a (b+1):=by
 let:=h.takeB e 1 (by rw[kZ d];intro z f;rw[Xv f];show c);rwa[kZ d]at this
def oU(a:ZY)(i j:iv):(a.extract i j).toList=(a.toList.drop i).take (j-i):=by
 simp
def n8(a:ZY)(i:iv):(a.extract i a.size).toList=a.toList.drop i:=by
 rw[oU,Zn]
 simp_all
abbrev SG(st a:lx):Prop:=kindOf a=kindOf st/\nz a=nz st/\rM a=rM st/\M3 a=M3 st
def SG.refl(st:lx):SG st st:=%[rfl,rfl,rfl|rfl]
def SG.set{st a:lx}(h:SG st a)(g:iv):SG st (Ry (kindOf a) (nz a) (rM a) g (M3 a)):=h
section
variable{prog:n7}{w:xl}{A:wy}{SI:kG->Prop}{α β:Type}
def ba{a:ZY}{i:iv}(h:i<a.size):a[i]?∣a[i]/\a.toList[i]?∣a[i]:=%[by simp|by simp]
def uL(a:ZY)(i k:iv):(a.extract i (i+k)).toList=(a.toList.drop i).take k:=by
 simp
def sM{N:ny->iv}{a:ZY}{b:iv}{c d:ny}(g:Srt N a.toList){i j:iv}(m:i<=j)(f:b+j<a.size)(h:cF N hX c (a.getD (b+j) d)=hW):cF N hX c (a.getD (b+i) d)=hW:=by
 let e:∀i hi,a.getD (b+i) d=a[b+i]:=λi hi=>by simp[hi]
 rw[e j f]at h;rw[e i ⋯];let l:=g.le (i:=b+i) ⋯ (ba ⋯).2 (ba f).2;unfold cF at h ⊢
 grind
def sN{N:ny->iv}{a:ZY}{b:iv}{c d:ny}(g:Srt N a.toList){i j:iv}(m:i<=j)(f:b+j<a.size)(h:cF N hW c (a.getD (b+j) d)=hW):cF N hW c (a.getD (b+i) d)=hW:=by
 let e:∀i hi,a.getD (b+i) d=a[b+i]:=λi hi=>by simp[hi]
 rw[e j f]at h;rw[e i ⋯];let l:=g.le (i:=b+i) ⋯ (ba ⋯).2 (ba f).2;unfold cF at h ⊢
 grind
def KO{N:ny->iv}{a:ZY}{c n k:iv}{b d:ny}(f:∀i,i<k->cF N hX b (a.getD (c+i) d)=hW)(g:∀i,k<=i->i<n->cF N hX b (a.getD (c+i) d)=hX):
 (∀i x,i<k->a[c+i]?∣x->N x<=N b)/\∀i x,k<=i->i<n->a[c+i]?∣x->N b<N x:=by
 show%[λi x hi e=>?_|λi x hi h e=>?_]
 .let:=f i hi;rw[Zs,e]at this;unfold cF at this;simpa using this
 .let:=g i hi h;rw[Zs,e]at this;unfold cF at this;simpa using this
def KP{N:ny->iv}{a:ZY}{c n k:iv}{b d:ny}(f:∀i,i<k->cF N hW b (a.getD (c+i) d)=hW)(g:∀i,k<=i->i<n->cF N hW b (a.getD (c+i) d)=hX):
 (∀i x,i<k->a[c+i]?∣x->N x<N b)/\∀i x,k<=i->i<n->a[c+i]?∣x->N b<=N x:=by
 show%[λi x hi e=>?_|λi x hi h e=>?_]
 .let:=f i hi;rw[Zs,e]at this;unfold cF at this;simpa using this
 .let:=g i hi h;rw[Zs,e]at this;unfold cF at this;simpa using this
structure ML (N:ny->iv) (a b out:ZY) (ia ib:iv):Prop where
 mi:MI N a.toList b.toList out.toList ia ib
 na:ia+1<a.size
 nb:ib<b.size
abbrev lo3(a b out:ZY)(c d g k k1:iv):Lw lx Sem (tI (kw ZY×ZY×iv×iv×iv×iv×iv)):=NQ a c>>= λe=>if(c+1+1==a.size)=hW then pure (.done (hY (out.push e++b.extract d b.size++a.extract (c+1) a.size),out.push e,c+1,d,g,k,k1))else if(decide (k<7)&&decide (k1<7))=hW then pure (.done (hV,out.push e,c+1,d,g,k,k1))else pure (.yield (hV,out.push e,c+1,d,g,k,k1))
abbrev lo2(a b out:ZY)(d c g k f:iv):Lw lx Sem (tI (kw ZY×ZY×iv×iv×iv×iv×iv)):=NQ b c>>= λe=>if(c+1==b.size)=hW then pure (.done (hY (out.push e++a.extract d a.size++b.extract (c+1) b.size),out.push e,d,c+1,g,k,f))else NQ a d>>= λh=>gG hW h b (c+1) (b.size-(c+1)) 0>>= fun|some k1=>if k1>0 then if(c+1+k1==b.size)=hW then pure (.done (hY (out.push e++b.extract (c+1) (c+1+k1) ++a.extract d a.size++b.extract (c+1+k1) b.size),out.push e++b.extract (c+1) (c+1+k1),d,c+1+k1,g,k,k1))else lo3 a b (out.push e++b.extract (c+1) (c+1+k1)) d (c+1+k1) g k k1 else lo3 a b (out.push e) d (c+1) g k k1|_=>pure (.done (hY (out.push e++a.extract d a.size++b.extract (c+1) b.size),out.push e,d,c+1,g,k,f))
abbrev lo1(a b out:ZY)(c d h f g:iv):Lw lx Sem (tI (kw ZY×ZY×iv×iv×iv×iv×iv)):=dE g>>= λ_=>NQ b d>>= λe=>gG hX e a c (a.size-c) 0>>= fun|some k=>if k>0 then if(c+k+1==a.size)=hW then pure (.done (hY (out++a.extract c (c+k) ++b.extract d b.size++a.extract (c+k) a.size),out++a.extract c (c+k),c+k,d,g,k,f))else if(c+k==a.size)=hW then pure (.done (hY (out++a.extract c (c+k) ++a.extract (c+k) a.size++b.extract d b.size),out++a.extract c (c+k),c+k,d,g,k,f))else lo2 a b (out++a.extract c (c+k)) (c+k) d g k f else lo2 a b out c d g k f|_=>pure (.done (hY (out++a.extract c a.size++b.extract d b.size),out,c,d,g,h,f))
abbrev loI(a b out:ZY)(c d g f h:iv):Lw lx Sem (tI (kw ZY×ZY×iv×iv×iv×iv)):=NQ b d>>= λi=>NQ a c>>= λj=>lt' i j>>= fun|some w=>if w=hW then(NQ b d>>= λe=>if(d+1==b.size)=hW then pure (.done (hY (out.push e++a.extract c a.size++b.extract (d+1) b.size),out.push e,c,d+1,0,h+1))else if h+1>=g then pure (.done (hV,out.push e,c,d+1,0,h+1))else pure (.yield (hV,out.push e,c,d+1,0,h+1)))else(NQ a c>>= λe=>if(c+1+1==a.size)=hW then pure (.done (hY (out.push e++b.extract d b.size++a.extract (c+1) a.size),out.push e,c+1,d,f+1,0))else if f+1>=g then pure (.done (hV,out.push e,c+1,d,f+1,0))else pure (.yield (hV,out.push e,c+1,d,f+1,0)))|_=>pure (.done (hY (out++a.extract c a.size++b.extract d b.size),out,c,d,f,h))
abbrev loG(a b:ZY):kw ZY×ZY×iv×iv×iv×iv×iv->Lw lx Sem (tI (kw ZY×ZY×iv×iv×iv×iv×iv)):=λx=>
 if x.2.2.2.2.1>1 then lo1 a b x.2.1 x.2.2.1 x.2.2.2.1 x.2.2.2.2.2.1 x.2.2.2.2.2.2 (x.2.2.2.2.1-1)else lo1 a b x.2.1 x.2.2.1 x.2.2.2.1 x.2.2.2.2.2.1 x.2.2.2.2.2.2 x.2.2.2.2.1
abbrev loE(x:kw ZY×ZY×iv×iv×iv×iv×iv):Lw lx Sem (tI (kw ZY×ZY×iv×iv×iv)):=
 match x.1 with
 | some r=>pure (.done (hY r,x.2.1,x.2.2.1,x.2.2.2.1,x.2.2.2.2.1))
 | none=>do
   dE (x.2.2.2.2.1+1)
   pure (.yield (hV,x.2.1,x.2.2.1,x.2.2.2.1,x.2.2.2.2.1+1))
abbrev loF(a b:ZY)(g:iv)(x:kw ZY×ZY×iv×iv×iv×iv):Lw lx Sem (tI (kw ZY×ZY×iv×iv×iv)):=
 match x.1 with
 | some r=>pure (.done (hY r,x.2.1,x.2.2.1,x.2.2.2.1,g))
 | none=>do
   Qs "list.sort.gallop"
   let x<-forIn [0:a.size+b.size] (hV,x.2.1,x.2.2.1,x.2.2.2.1,g+1,x.2.2.2.2.1,x.2.2.2.2.2) λ_ x=>loG a b x
   loE x
abbrev loO(a b:ZY):kw ZY×ZY×iv×iv×iv->Lw lx Sem (tI (kw ZY×ZY×iv×iv×iv)):=λx=>do
 let y<-forIn [0:a.size+b.size] (hV,x.2.1,x.2.2.1,x.2.2.2.1,0,0) λ_ y=>loI a b y.2.1 y.2.2.1 y.2.2.2.1 x.2.2.2.2 y.2.2.2.2.1 y.2.2.2.2.2
 loF a b x.2.2.2.2 y
abbrev loR(x:kw ZY×ZY×iv×iv×iv):Lw lx Sem ZY:=
 match x.1 with
 | some r=>pure r
 | none=>OH "internal:list.sort.merge-bound"
set_option smartUnfolding false in
def KQ(a b:ZY):oR a b=(do
 Qs "list.sort.merge-lo"
 let e<-NQ b 0
 if(1==b.size)=hW then pure (#[e] ++a.extract 0 a.size++b.extract 1 b.size)
 else if(0+1==a.size)=hW then pure (#[e] ++b.extract 1 b.size++a.extract 0 a.size)
 else do
  let s<-get
  let x<-forIn [0:a.size+b.size] (hV,#[e],0,1,gallopOf s) λ_ x=>loO a b x
  loR x):=by
 rfl
def SG.trans{s t u:lx}(h:SG s t)(k:SG t u):SG s u:=%[k.1.trans h.1,k.2.1.trans h.2.1,k.2.2.1.trans h.2.2.1|k.2.2.2.trans h.2.2.2]
structure LC (prog:n7) (w:xl) (A:wy) (SI:kG->Prop) (D:ny->Prop) (N:ny->iv) (a b:ZY) (st:lx):Prop where
 c:Cmp prog w A SI (kindOf st) D N
 hA:Srt N a.toList
 hB:Srt N b.toList
 DA:∀{i:iv} (hi:i<a.size),D a[i]
 DB:∀{i:iv} (hi:i<b.size),D b[i]
 fd:∀(out:ZY) (ia ib:iv),MI N a.toList b.toList out.toList ia ib->(a.size<=ia\/b.size<=ib)->dF N a.toList b.toList (out++a.extract ia a.size++b.extract ib b.size).toList
 fl:∀(out:ZY) (ia ib:iv),MI N a.toList b.toList out.toList ia ib->ia+1=a.size->dF N a.toList b.toList (out++b.extract ib b.size++a.extract ia a.size).toList
def LC.of{D:ny->Prop}{N:ny->iv}{a b:ZY}{s t:lx}(C:LC prog w A SI D N a b s)(h:SG s t):LC prog w A SI D N a b t:={C with c:=h.1▸C.c}
variable{D:ny->Prop}{N:ny->iv}{a b out:ZY}{ia ib g k bc z:iv}{st:lx}
def Dw{k1:iv}{R:tI _->lx->Prop}(C:LC prog w A SI D N a b st)(m:MI N a.toList b.toList out.toList ia ib)(na:ia+1<a.size)(nb:ib<b.size)(c:∀y∈b.toList.drop ib,N (a[ia]'⋯)<=N y)(p:z<=out.size+1)
 (j:∀r o,dF N a.toList b.toList r.toList->R (.done (hY r,o)) st) (l:∀out ia ib g k k1,ML N a b out ia ib->z<=out.size->R (.done (hV,out,ia,ib,g,k,k1)) st/\R (.yield (hV,out,ia,ib,g,k,k1)) st):(SC prog w A SI) (lo3 a b out ia ib g k k1) R st:=by
 let%[n|d]:=ba (a:=a) (i:=ia) ⋯;show aq (bh n ?_);let e:=MI.oneA m C.hA d c;rw[<-N6]at e;by_cases f:ia+1+1=a.size
 .rw[ix (by simp[f])];show au (j _ _ (C.fl _ _ _ e f))
 rw[ij (by simp[f])];let h:=l _ _ _ g k k1 (ML.mk e ⋯ nb) (!2)
 split
 .show au h.1
 .show au h.2
def Dx{R:tI (kw ZY×ZY×iv×iv×iv×iv×iv)->lx->Prop}(C:LC prog w A SI D N a b st)(m:MI N a.toList b.toList out.toList ia ib)(na:ia+1<a.size)(nb:ib<b.size)(h:∀y∈a.toList.drop ia,N b[ib]<=N y)(U:z<=out.size+2)
 (d:∀r o,dF N a.toList b.toList r.toList->R (.done (hY r,o)) st) (v:∀out ia ib g k k1,ML N a b out ia ib->z<=out.size->R (.done (hV,out,ia,ib,g,k,k1)) st/\R (.yield (hV,out,ia,ib,g,k,k1)) st):(SC prog w A SI) (lo2 a b out ia ib g k bc) R st:=by
 let%[I|l]:=ba (a:=b) (i:=ib) nb;let%[J|n]:=ba (a:=a) (i:=ia) ⋯;unfold lo2;show aq (bh I ?_);let f:=MI.oneB m C.hB l h;rw[<-N6]at f;by_cases B:ib+1=b.size
 .rw[ix (by simp[B])];show au (d _ _ (C.fd _ _ _ f (.inr ⋯)))
 rw[ij (by simp[B])];show aq (bh J ?_);show aq (fE C.c (C.DA ⋯) (λi hi=>%[b[ib+1+i]'⋯,(ba ⋯).1|C.DB ⋯]) (λi=>cF N hW (a[ia]'⋯) (b.getD (ib+1+i) b[ib]))
  (λi x hi p=>by rw[Zs,p];rfl) (λi Y q hi L=>sN C.hB q ⋯ L) ⋯ λk2 M O Q=>?_)
 dsimp only;let E:=KP O Q;let c:∀y∈b.toList.drop (ib+1+k2),N (a[ia]'⋯)<=N y:=λy s=>by
  let%[j,h1,T|e]:=cq s;rw[Zb]at T;show E.2 (j-(ib+1)) y ⋯ ⋯ (by rw[show ib+1+(j-(ib+1))=j by lia];simpa using e)
 let u:=f.takeB C.hB k2 (λx p y s=>by
  let%[i,hi|e]:=ng p;show Ym (Yk (E.1 i x hi ↑e)) (C.hA.drop_le n s))
 by_cases G:k2>0
 .rw[ix G];rw[<-uL,<-Xk]at u;by_cases H:ib+1+k2=b.size
  .rw[ix (by simp[H])];show au (d _ _ (C.fd _ _ _ u (.inr ⋯)))
  rw[ij (by simp[H])];show Dw C u na ⋯ c (by simp;lia) d v
 .rw[ij G];obtain rfl:k2=0:=by lia
  show Dw C f na ⋯ c (by rw[Xp];lia) d v
def Jw{H:iv}{R:tI (kw ZY×ZY×iv×iv×iv×iv×iv)->lx->Prop}(C:LC prog w A SI D N a b st)(m:ML N a b out ia ib)(I:z<=out.size+2)
 (l:∀c r o,SG st c->dF N a.toList b.toList r.toList->R (.done (hY r,o)) c) (B:∀c out ia ib g k k1,SG st c->ML N a b out ia ib->z<=out.size->R (.done (hV,out,ia,ib,g,k,k1)) c/\R (.yield (hV,out,ia,ib,g,k,k1)) c):(SC prog w A SI) (lo1 a b out ia ib H bc g) R st:=by
 let d:=m.nb;let n:=m.na;let%[J|p]:=ba (a:=b) (i:=ib) d;unfold lo1;rw[ip];show aq (c8 ?_);let sg:=(SG.refl st).set g;show aq (bh J ?_);show aq (fE (C.of sg).c (C.DB d) (λi hi=>%[a[ia+i]'⋯,(ba ⋯).1|C.DA ⋯]) (λi=>cF N hX b[ib] (a.getD (ia+i) b[ib]))
  (λi x hi q=>by rw[Zs,q];rfl) (λi T s hi L=>sM C.hA s ⋯ L) ⋯ λk U M O=>?_)
 dsimp only;let E:=KO M O;let mk:=m.mi.takeA C.hA k (λx q y u=>by
  let%[i,hi|e]:=ng q;show Ym (E.1 i x hi ↑e) (C.hB.drop_le p u))
 let f:∀y∈a.toList.drop (ia+k),N b[ib]<=N y:=λy u=>by
  let%[j,Y,Q|e]:=cq u;rw[Zb]at Q;show Yk (E.2 (j-ia) y ⋯ ⋯ (by rw[show ia+(j-ia)=j by lia];simpa using e))
 by_cases h:k>0
 .rw[ix h];rw[<-uL,<-Xk]at mk;by_cases v:ia+k+1=a.size
  .rw[ix (by simp[v])];show au (l _ _ _ sg (C.fl _ _ _ mk v))
  rw[ij (by simp[v])];by_cases G:ia+k=a.size
  .rw[ix (by simp[G])];show au (l _ _ _ sg (C.fd _ _ _ mk (.inl ⋯)))
  rw[ij (by simp[G])];show Dx (C.of sg) mk ⋯ d f (by simp;lia) (λr o=>l _ r o sg) λout ia ib g k k1=>B _ out ia ib g k k1 sg
 .rw[ij h];obtain rfl:k=0:=by lia
  show Dx (C.of sg) m.mi n d f I (λr o=>l _ r o sg) λout ia ib g k k1=>B _ out ia ib g k k1 sg
def Jx{e:iv}{R:tI (kw ZY×ZY×iv×iv×iv×iv)->lx->Prop}(C:LC prog w A SI D N a b st)(m:ML N a b out ia ib)(p:z<=out.size+1)
 (s:∀r o,dF N a.toList b.toList r.toList->R (.done (hY r,o)) st) (u:∀out ia ib e bc,ML N a b out ia ib->z<=out.size->R (.done (hV,out,ia,ib,e,bc)) st/\R (.yield (hV,out,ia,ib,e,bc)) st):(SC prog w A SI) (loI a b out ia ib g e bc) R st:=by
 let l:=m.na;let d:=m.nb;let f:ia<a.size:=by lia
 let%[v|i]:=ba f;let%[B|j]:=ba d;show aq (bh B (aq (bh v (aq (wb C.c (C.DB d) (C.DA f) ?_)))));dsimp only;by_cases c:N b[ib]<N a[ia]
 .rw[Zf c,ix rfl];show aq (bh B ?_);let m2:=m.mi.oneB C.hB j λy n=>Ym (Yk c) (C.hA.drop_le i n)
  rw[<-N6]at m2;by_cases q:ib+1=b.size
  .rw[ix (by simp[q])];show au (s _ _ (C.fd _ _ _ m2 (.inr ⋯)))
  rw[ij (by simp[q])];let h:=u _ _ _ 0 (bc+1) %[m2,l|⋯] (by rw[Xp];show p)
  split
  .show au h.1
  .show au h.2
 .rw[Zh c,ij ∅];show aq (bh v ?_);let m2:=m.mi.oneA C.hA i λy n=>Ym (US c) (C.hB.drop_le j n)
  rw[<-N6]at m2;by_cases q:ia+1+1=a.size
  .rw[ix (by simp[q])];show au (s _ _ (C.fl _ _ _ m2 q))
  rw[ij (by simp[q])];let h:=u _ _ _ (e+1) 0 %[m2,⋯|d] (by rw[Xp];show p)
  split
  .show au h.1
  .show au h.2
def Jy{j:iv}{q:kw ZY}{R:tI (kw ZY×ZY×iv×iv×iv)->lx->Prop}(C:LC prog w A SI D N a b st)(m:ML N a b out ia ib)(e:j+1<=out.size)
 (p:∀d r o,SG st d->dF N a.toList b.toList r.toList->R (.done (hY r,o)) d) (s:∀d out ia ib g,SG st d->ML N a b out ia ib->j+2<=out.size->R (.yield (hV,out,ia,ib,g)) d):(SC prog w A SI) (loO a b (q,out,ia,ib,g)) R st:=by
 let u:=m.na;show aq (b7 (bF (Q:=λx d=>SG st d/\((∃r o,x=(hY r,o)/\dF N a.toList b.toList r.toList)\/∃out ia ib f bc,x=(hV,out,ia,ib,f,bc)/\ML N a b out ia ib/\j+2<=out.size))
  (λj2 x d=>SG st d/\∃out ia ib f bc,x=(hV,out,ia,ib,f,bc)/\ML N a b out ia ib/\j+1+j2<=out.size) (Xl _) %[SG.refl _,_,_,_,_,_,rfl,m|e] ?_ ?_) ?_)
 .intro j2 x i _ l %[c,out,ia,ib,f,bc,rfl,m|e];show Jx (C.of c) m ⋯ (λr o h=>%[c|.inl %[r,o,rfl|h]]) λout ia ib f bc h z=>%[%[c|.inr %[_,_,_,_,_,rfl,h|⋯]],c,_,_,_,_,_,rfl,h|z]
 .intro x i %[c,out,ia,ib,f,bc,rfl,m|e];show%[c|.inr %[_,_,_,_,_,ρ,m|⋯]]
 .rintro x i ⟨c,⟨r,o,rfl,n⟩|⟨out,ia,ib,f,bc,rfl,m,e⟩⟩
  .show au (p _ r _ c n)
  .show aq (jN ?_);show aq (b7 (bF (Q:=λx d=>SG st d/\((∃r o,x=(hY r,o)/\dF N a.toList b.toList r.toList)\/∃out ia ib g f bc,x=(hV,out,ia,ib,g,f,bc)/\ML N a b out ia ib/\j+2<=out.size))
    (λj2 x d=>SG st d/\∃out ia ib g f bc,x=(hV,out,ia,ib,g,f,bc)/\ML N a b out ia ib/\j+2<=out.size) (Xl _) %[c,_,_,_,_,_,_,rfl,m|e] ?_ ?_) ?_)
   .intro j2 x i _ l %[c,out,ia,ib,g,f,bc,rfl,m|e];unfold loG;rw[<-apply_ite _];show Jw (C.of c) m ⋯ (λd r o sg h=>%[SG.trans c sg|.inl %[r,o,rfl|h]]) λd out ia ib g k k1 sg h z=>%[%[SG.trans c sg|.inr %[_,_,_,_,_,_,rfl,h|z]],SG.trans c sg,_,_,_,_,_,_,rfl,h|z]
   .simp_all
   .rintro x i ⟨c,⟨r,o,rfl,n⟩|⟨out,ia,ib,g,f,bc,rfl,m,e⟩⟩
    .show au (p _ r _ c n)
    .show aq (c8 (au (s _ _ _ _ _ (c.set _) m e)))
def yy{D:ny->Prop}{N:ny->iv}{a b:ZY}{Q:ZY->lx->Prop}{st:lx}(c:Cmp prog w A SI (kindOf st) D N)(u:Srt N a.toList)(v:Srt N b.toList)(J:∀x∈a.toList,D x)(L:∀x∈b.toList,D x)
 (ha:1<=a.size) (hb:1<=b.size) (M:∀x y,b.toList[0]?∣x->a.toList[0]?∣y->N x<=N y) (O:∀y∈b.toList,∀x∈a.toList.drop (a.size-1),N y<=N x)
 (h:∀r d,SG st d->dF N a.toList b.toList r.toList->Q r d):(SC prog w A SI) (oR a b) Q st:=by
 let T:∀{i:iv} (hi:i<a.size),D a[i]:=λhi=>J _ ∅
 let U:∀{i:iv} (hi:i<b.size),D b[i]:=λhi=>L _ ∅
 let H:∀(out:ZY) (ia ib:iv),MI N a.toList b.toList out.toList ia ib->(a.size<=ia\/b.size<=ib)->dF N a.toList b.toList (out++a.extract ia a.size++b.extract ib b.size).toList:=λout ia ib m q=>by
  rw[Xk,Xk,n8,n8];show m.done u v λx B y l=>?_
  rcases q with q|q
  .let%[j,Y,C|_]:=cq B;rw[Zb]at C
   lia
  .let%[j,Y,C|_]:=cq l;rw[Zb]at C
   lia
 let I:∀(out:ZY) (ia ib:iv),MI N a.toList b.toList out.toList ia ib->ia+1=a.size->dF N a.toList b.toList (out++b.extract ib b.size++a.extract ia a.size).toList:=λout ia ib m q=>by
  rw[Xk,Xk,n8,n8];show m.last u v λy l x B=>O y (ON l) x ((show a.size-1=ia by lia)▸B)
 rw[KQ];show aq (jN ?_);let%[eb|n]:=ba (a:=b) (i:=0) ⋯;show aq (bh eb ?_);let E:MI N a.toList b.toList #[b[0]].toList 0 1:=(MI.zero N a.toList b.toList).oneB v n λy l=>by
  let%[ea|p]:=ba (a:=a) (i:=0) ⋯;show Ym (M _ _ n p) (u.drop_le p l)
 by_cases q1:1=b.size
 .rw[ix (by simp[<-q1])];show au (h _ st (SG.refl _) (H _ _ _ E (.inr ⋯)))
 rw[ij (by simp;lia)];by_cases G:0+1=a.size
 .rw[ix (by simp[<-G])];show au (h _ st (SG.refl _) (I _ _ _ E G))
 rw[ij (by simp at G ⊢;lia)];show aq (g9 ?_);show aq (b7 (bF (Q:=λx d=>SG st d/\∃r,x.1∣r/\dF N a.toList b.toList r.toList)
  (λj x d=>SG st d/\∃out ia ib g,x=(hV,out,ia,ib,g)/\ML N a b out ia ib/\j+1<=out.size) (Xl _) %[SG.refl _,_,_,_,_,rfl,%[E,⋯|⋯]|Zi _] ?_ ?_) ?_)
 .intro j x e _ hj %[sg,out,ia,ib,g,rfl,m|s];show Jy (LC.of %[c,u,v,T,U,H|I] sg) m s (λd r o f h=>%[SG.trans sg f,r,rfl|h]) λd out ia ib g f h z=>%[SG.trans sg f,_,_,_,_,rfl,h|z]
 .intro x e %[sg,out,ia,ib,g,rfl,m|s];let:=m.na;let:=m.nb;let q:=m.mi.perm.length_eq;simp only[Z9,Zb]at q
  lia
 .intro x e %[sg,r,hr|gd];let%[x1|x2]:=x;subst hr;show au (h r e sg gd)
end
def Srt.take{N:ny->iv}{l:hH ny}(h:Srt N l)(k:iv):Srt N (l.take k):=Rk (QY _ _) h
def bG{l:hH ny}{k:iv}{x:ny}(h:x∈l.take k):∃j,j<k/\j< ~~~l/\l[j]?∣x:=by
 let%[j|a]:=Xm h;rw[Yf]at a
 split at a
 .show%[j,by assumption,(Xt a).1|a]
 .lia
def zJ{l:hH ny}{i k:iv}{x:ny}(h:x∈(l.take k).drop i):∃j,i<=j/\j<k/\j< ~~~l/\l[j]?∣x:=by
 let%[j,a,b|e]:=cq h;rw[Yf]at e
 split at e
 .show%[j,a,by assumption,(Xt e).1|e]
 .lia
structure MH (N:ny->iv) (A B O:hH ny) (na nb:iv):Prop where
 perm:(A.take na++B.take nb++O).Perm (A++B)
 srt:Srt N O
 ca:∀x∈A.take na,∀y∈O,N x<=N y
 cb:∀x∈B.take nb,∀y∈O,N x<=N y
def MH.zero(N:ny->iv)(A B:hH ny):MH N A B [] A.length B.length:=%[by simp,M9,λ_ _ _ h=>(nomatch h)|λ_ _ _ h=>(nomatch h)]
def MH.takeA{N:ny->iv}{A B O:hH ny}{na nb:iv}(h:MH N A B O na nb)(d:Srt N A)(k:iv)(f:k<=na)(c:∀y∈(A.take na).drop k,∀x∈B.take nb,N x<=N y):MH N A B ((A.take na).drop k++O) k nb:=by
 let e:=by
  let:=(Xh k (A.take na)).symm;rw[Vc,X6 f]at this;show this
 let%[_,g|i]:=yc.mp (e▸d.take na);show%[?_,yc.mpr %[g,h.srt|λx b y a=>h.ca x (ON b) y a],λx b y a=>?_|λx b y a=>?_]
 .show MQ ?_ h.perm;rw[<-Ze];show Xr _ ?_;rw (occs:= .pos [2]) [e];rw[Ze,Ze];show Nf _ Ou
 .rcases Xu a with a|a
  .show i x b y a
  .show h.ca x (e▸Yz _ b) y a
 .rcases Xu a with a|a
  .show c y a x b
  .show h.cb x b y a
def MH.takeB{N:ny->iv}{A B O:hH ny}{na nb:iv}(h:MH N A B O na nb)(d:Srt N B)(k:iv)(f:k<=nb)(c:∀y∈(B.take nb).drop k,∀x∈A.take na,N x<=N y):MH N A B ((B.take nb).drop k++O) na k:=by
 let e:=by
  let:=(Xh k (B.take nb)).symm;rw[Vc,X6 f]at this;show this
 let%[_,g|i]:=yc.mp (e▸d.take nb);show%[?_,yc.mpr %[g,h.srt|λx b y a=>h.cb x (ON b) y a],λx b y a=>?_|λx b y a=>?_]
 .show MQ ?_ h.perm;rw[<-Ze];show Xr _ ?_;rw (occs:= .pos [2]) [e];rw[Ze]
 .rcases Xu a with a|a
  .show c y a x b
  .show h.ca x b y a
 .rcases Xu a with a|a
  .show i x b y a
  .show h.cb x (e▸Yz _ b) y a
def lh{l:hH ny}{k:iv}{x:ny}(h:l[k]?∣x):(l.take (k+1)).drop k=[x]:=by
 let%[a|e]:=Xt h;rw[M5 a,e,Op (by rw[Yr];lia),Ol (by rw[Yr];lia)];rfl
def MH.oneA{N:ny->iv}{A B O:hH ny}{na nb:iv}{x:ny}(h:MH N A B O (na+1) nb)(c:Srt N A)(b:A[na]?∣x)(a:∀y∈B.take nb,N y<=N x):MH N A B (x::O) na nb:=by
 let:=h.takeA c na (by omega) (by rw[lh b];intro z d;rw[Xv d];show a);rwa[lh b]at this
def MH.oneB{N:ny->iv}{A B O:hH ny}{na nb:iv}{x:ny}(h:MH N A B O na (nb+1))(c:Srt N B)(b:B[nb]?∣x)(a:∀y∈A.take na,N y<=N x):MH N A B (x::O) na nb:=by
 let:=h.takeB c nb (by omega) (by rw[lh b];intro z d;rw[Xv d];show a);rwa[lh b]at this
def MH.done{N:ny->iv}{A B O:hH ny}{na nb:iv}(h:MH N A B O na nb)(c:Srt N A)(d:Srt N B)(e:∀x∈A.take na,∀y∈B.take nb,N x<=N y):dF N A B (A.take na++B.take nb++O):=
 %[yc.mpr %[yc.mpr %[c.take na,d.take nb|e],h.srt|λx a y b=>(Xu a).elim (λq=>h.ca x q y b) λq=>h.cb x q y b]|h.perm]
def MH.first{N:ny->iv}{A B O:hH ny}{na nb:iv}(h:MH N A B O na nb)(c:Srt N A)(d:Srt N B)(e:∀y∈B.take nb,∀x∈A.take na,N y<=N x):dF N A B (B.take nb++A.take na++O):=
 %[yc.mpr %[yc.mpr %[d.take nb,c.take na|e],h.srt|λx a y b=>(Xu a).elim (λq=>h.cb x q y b) λq=>h.ca x q y b]|MQ (Xr _ Ou) h.perm]
def Gj(a:ZY)(k:iv):(a.extract 0 k).toList=a.toList.take k:=by simp
def zK(a:ZY)(i k:iv):(a.extract i k).toList=(a.toList.take k).drop i:=by
 rw[oU,hH.drop_take]
def Srt.take_le{N:ny->iv}{l:hH ny}(h:Srt N l){i:iv}{x y:ny}(a:l[i]?∣x)(b:y∈l.take (i+1)):N y<=N x:=by
 let%[j,c,_|e]:=bG b;show h.le (by omega) e a
def li(out:ZY)(x:ny):(out.push x).reverse.toList=x::out.reverse.toList:=by simp
def zL(out p:ZY):(out++p.reverse).reverse.toList=p.toList++out.reverse.toList:=by simp
section
variable{prog:n7}{w:xl}{A:wy}{SI:kG->Prop}{α β:Type}
structure MHS (N:ny->iv) (a b out:ZY) (na nb:iv):Prop where
 mh:MH N a.toList b.toList out.reverse.toList na nb
 pa:1<=na
 pb:2<=nb
 ma:na<=a.size
 mb:nb<=b.size
abbrev hi3(a b:ZY)(na nb:iv)(out:ZY)(g k k1:iv):Lw lx Sem (tI (kw ZY×iv×iv×ZY×iv×iv×iv)):=NQ a (na-1)>>= λe=>if(na-1==0)=hW then pure (.done (hY (a.extract 0 (na-1) ++b.extract 0 nb++(out.push e).reverse),na-1,nb,out.push e,g,k,k1))else if(decide (k<7)&&decide (k1<7))=hW then pure (.done (hV,na-1,nb,out.push e,g,k,k1))else pure (.yield (hV,na-1,nb,out.push e,g,k,k1))
abbrev hi2(a b:ZY)(na nb:iv)(out:ZY)(g k c:iv):Lw lx Sem (tI (kw ZY×iv×iv×ZY×iv×iv×iv)):=NQ b (nb-1)>>= λe=>if(nb-1==1)=hW then pure (.done (hY (b.extract 0 (nb-1) ++a.extract 0 na++(out.push e).reverse),na,nb-1,out.push e,g,k,c))else NQ a (na-1)>>= λd=>gG hW d b 0 (nb-1) (nb-1-1)>>= fun|some k1=>if nb-1-k1>0 then if(k1==1)=hW then pure (.done (hY (b.extract 0 k1++a.extract 0 na++(out.push e++(b.extract k1 (nb-1)).reverse).reverse),na,k1,out.push e++(b.extract k1 (nb-1)).reverse,g,k,nb-1-k1))else if(k1==0)=hW then pure (.done (hY (a.extract 0 na++b.extract 0 k1++(out.push e++(b.extract k1 (nb-1)).reverse).reverse),na,k1,out.push e++(b.extract k1 (nb-1)).reverse,g,k,nb-1-k1))else hi3 a b na k1 (out.push e++(b.extract k1 (nb-1)).reverse) g k (nb-1-k1)else hi3 a b na (nb-1) (out.push e) g k (nb-1-k1)|_=>pure (.done (hY (a.extract 0 na++b.extract 0 (nb-1) ++(out.push e).reverse),na,nb-1,out.push e,g,k,c))
abbrev hi1(a b:ZY)(na nb:iv)(out:ZY)(d c g:iv):Lw lx Sem (tI (kw ZY×iv×iv×ZY×iv×iv×iv)):=dE g>>= λ_=>NQ b (nb-1)>>= λe=>gG hX e a 0 na (na-1)>>= fun|some k=>if na-k>0 then if(k==0)=hW then pure (.done (hY (a.extract 0 k++b.extract 0 nb++(out++(a.extract k na).reverse).reverse),k,nb,out++(a.extract k na).reverse,g,na-k,c))else hi2 a b k nb (out++(a.extract k na).reverse) g (na-k) c else hi2 a b na nb out g (na-k) c|_=>pure (.done (hY (a.extract 0 na++b.extract 0 nb++out.reverse),na,nb,out,g,d,c))
abbrev hiI(a b:ZY)(na nb:iv)(out:ZY)(g c d:iv):Lw lx Sem (tI (kw ZY×iv×iv×ZY×iv×iv)):=NQ b (nb-1)>>= λf=>NQ a (na-1)>>= λh=>lt' f h>>= fun|some w=>if w=hW then(NQ a (na-1)>>= λe=>if(na-1==0)=hW then pure (.done (hY (a.extract 0 (na-1) ++b.extract 0 nb++(out.push e).reverse),na-1,nb,out.push e,c+1,0))else if c+1>=g then pure (.done (hV,na-1,nb,out.push e,c+1,0))else pure (.yield (hV,na-1,nb,out.push e,c+1,0)))else(NQ b (nb-1)>>= λe=>if(nb-1==1)=hW then pure (.done (hY (b.extract 0 (nb-1) ++a.extract 0 na++(out.push e).reverse),na,nb-1,out.push e,0,d+1))else if d+1>=g then pure (.done (hV,na,nb-1,out.push e,0,d+1))else pure (.yield (hV,na,nb-1,out.push e,0,d+1)))|_=>pure (.done (hY (a.extract 0 na++b.extract 0 nb++out.reverse),na,nb,out,c,d))
abbrev hiG(a b:ZY)(x:kw ZY×iv×iv×ZY×iv×iv×iv):Lw lx Sem (tI (kw ZY×iv×iv×ZY×iv×iv×iv)):=
 if x.2.2.2.2.1>1 then hi1 a b x.2.1 x.2.2.1 x.2.2.2.1 x.2.2.2.2.2.1 x.2.2.2.2.2.2 (x.2.2.2.2.1-1)else hi1 a b x.2.1 x.2.2.1 x.2.2.2.1 x.2.2.2.2.2.1 x.2.2.2.2.2.2 x.2.2.2.2.1
abbrev hiE(x:kw ZY×iv×iv×ZY×iv×iv×iv):Lw lx Sem (tI (kw ZY×iv×iv×ZY×iv)):=
 match x.1 with
 | some r=>pure (.done (hY r,x.2.1,x.2.2.1,x.2.2.2.1,x.2.2.2.2.1))
 | none=>do
   dE (x.2.2.2.2.1+1)
   pure (.yield (hV,x.2.1,x.2.2.1,x.2.2.2.1,x.2.2.2.2.1+1))
abbrev hiF(a b:ZY)(g:iv)(x:kw ZY×iv×iv×ZY×iv×iv):Lw lx Sem (tI (kw ZY×iv×iv×ZY×iv)):=
 match x.1 with
 | some r=>pure (.done (hY r,x.2.1,x.2.2.1,x.2.2.2.1,g))
 | none=>do
   Qs "list.sort.gallop"
   let x<-forIn [0:a.size+b.size] (hV,x.2.1,x.2.2.1,x.2.2.2.1,g+1,x.2.2.2.2.1,x.2.2.2.2.2) λ_ x=>hiG a b x
   hiE x
abbrev hiO(a b:ZY)(x:kw ZY×iv×iv×ZY×iv):Lw lx Sem (tI (kw ZY×iv×iv×ZY×iv)):=do
 let y<-forIn [0:a.size+b.size] (hV,x.2.1,x.2.2.1,x.2.2.2.1,0,0) λ_ y=>hiI a b y.2.1 y.2.2.1 y.2.2.2.1 x.2.2.2.2 y.2.2.2.2.1 y.2.2.2.2.2
 hiF a b x.2.2.2.2 y
abbrev hiR(x:kw ZY×iv×iv×ZY×iv):Lw lx Sem ZY:=
 match x.1 with
 | some r=>pure r
 | none=>OH "internal:list.sort.merge-bound"
set_option smartUnfolding false in
def KR(a b:ZY):oS a b=(do
 Qs "list.sort.merge-hi"
 let e<-NQ a (a.size-1)
 if(a.size-1==0)=hW then pure (a.extract 0 (a.size-1) ++b.extract 0 b.size++ #[e].reverse)
 else if(b.size==1)=hW then pure (b.extract 0 b.size++a.extract 0 (a.size-1) ++ #[e].reverse)
 else do
  let s<-get
  let x<-forIn [0:a.size+b.size] (hV,a.size-1,b.size,#[e],gallopOf s) λ_ x=>hiO a b x
  hiR x):=by
 rfl
structure HC (prog:n7) (w:xl) (A:wy) (SI:kG->Prop) (D:ny->Prop) (N:ny->iv) (a b:ZY) (st:lx):Prop where
 c:Cmp prog w A SI (kindOf st) D N
 hA:Srt N a.toList
 hB:Srt N b.toList
 DA:∀{i:iv} (hi:i<a.size),D a[i]
 DB:∀{i:iv} (hi:i<b.size),D b[i]
 fd:∀(out:ZY) (na nb:iv),MH N a.toList b.toList out.reverse.toList na nb->(na=0\/nb=0)->dF N a.toList b.toList (a.extract 0 na++b.extract 0 nb++out.reverse).toList
 ff:∀(out:ZY) (na nb:iv),MH N a.toList b.toList out.reverse.toList na nb->nb=1->dF N a.toList b.toList (b.extract 0 nb++a.extract 0 na++out.reverse).toList
def HC.of{D:ny->Prop}{N:ny->iv}{a b:ZY}{s t:lx}(C:HC prog w A SI D N a b s)(h:SG s t):HC prog w A SI D N a b t:={C with c:=h.1▸C.c}
variable{D:ny->Prop}{N:ny->iv}{a b out:ZY}{na nb g k bc z:iv}{st:lx}
def Dy{k1:iv}{R:tI _->lx->Prop}(C:HC prog w A SI D N a b st)(m:MH N a.toList b.toList out.reverse.toList (na+1) nb)(u:na+1<=a.size)(j:2<=nb)(l:nb<=b.size)(c:∀y∈b.toList.take nb,N y<=N (a[na]'⋯))(n:z<=out.size+1)
 (p:∀r o,dF N a.toList b.toList r.toList->R (.done (hY r,o)) st) (q:∀na nb out g k k1,MHS N a b out na nb->z<=out.size->R (.done (hV,na,nb,out,g,k,k1)) st/\R (.yield (hV,na,nb,out,g,k,k1)) st):(SC prog w A SI) (hi3 a b (na+1) nb out g k k1) R st:=by
 let%[s|d]:=ba (a:=a) (i:=na) ⋯;show aq (bh s ?_);let e:=MH.oneA m C.hA d c;rw[<-li]at e;by_cases f:na=0
 .rw[ix (by simp[f])];show au (p _ _ (C.fd _ _ _ e (.inl f)))
 rw[ij (by simp[f])];let h:=q _ _ _ g k k1 (MHS.mk e ⋯ j ⋯ l) (by rw[Xp];show n)
 split
 .show au h.1
 .show au h.2
def Dz{R:tI (kw ZY×iv×iv×ZY×iv×iv×iv)->lx->Prop}(C:HC prog w A SI D N a b st)(m:MH N a.toList b.toList out.reverse.toList (na+1) (nb+1))(I:na+1<=a.size)(pb:1<=nb)(mb:nb+1<=b.size)(l:∀y∈a.toList.take (na+1),N y<=N b[nb])(hz:z<=out.size+2)
 (d:∀r o,dF N a.toList b.toList r.toList->R (.done (hY r,o)) st) (J:∀na nb out g k k1,MHS N a b out na nb->z<=out.size->R (.done (hV,na,nb,out,g,k,k1)) st/\R (.yield (hV,na,nb,out,g,k,k1)) st):(SC prog w A SI) (hi2 a b (na+1) (nb+1) out g k bc) R st:=by
 let%[Q|n]:=ba (a:=b) (i:=nb) ⋯;let%[T|p]:=ba (a:=a) (i:=na) ⋯;unfold hi2;rw[Ph,Ph];show aq (bh Q ?_);let f:=MH.oneB m C.hB n l;rw[<-li]at f;by_cases q:nb=1
 .rw[ix (by simp[q])];show au (d _ _ (C.ff _ _ _ f q))
 rw[ij (by simp[q])];show aq (bh T ?_);show aq (fE C.c (C.DA ⋯) (λi hi=>%[b[0+i]'⋯,(ba ⋯).1|C.DB ⋯]) (λi=>cF N hW (a[na]'⋯) (b.getD (0+i) b[nb]))
  (λi x hi s=>by rw[Zs,s];rfl) (λi i' u hi U=>sN C.hB u ⋯ U) ⋯ λk2 v Y p4=>?_)
 dsimp only;let L:=KP Y p4;let c:∀y∈b.toList.take k2,N y<=N (a[na]'⋯):=λy B=>by
  let%[j,E,M|e]:=bG B;show Yk (L.1 j y E ↑e)
 let h:=f.takeB C.hB k2 v (λy B x s=>by
  let%[i,E,M,h3|e]:=zJ B;show Ym (C.hA.take_le p s) (L.2 i y E M ↑e))
 by_cases O:nb-k2>0
 .rw[ix O];rw[<-zK,<-zL]at h;by_cases G:k2=1
  .rw[ix (by simp[G])];show au (d _ _ (C.ff _ _ _ h G))
  rw[ij (by simp[G])];by_cases H:k2=0
  .rw[ix (by simp[H])];show au (d _ _ (C.fd _ _ _ h (.inr H)))
  rw[ij (by simp[H])];show Dy C h I ⋯ ⋯ c (by simp;lia) d J
 .rw[ij O];obtain rfl:k2=nb:=by lia
  show Dy C f I ⋯ ⋯ c (by rw[Xp];lia) d J
def Jz{J:iv}{R:tI (kw ZY×iv×iv×ZY×iv×iv×iv)->lx->Prop}(C:HC prog w A SI D N a b st)(m:MHS N a b out na nb)(L:z<=out.size+2)
 (h:∀c r o,SG st c->dF N a.toList b.toList r.toList->R (.done (hY r,o)) c) (E:∀c na nb out g k k1,SG st c->MHS N a b out na nb->z<=out.size->R (.done (hV,na,nb,out,g,k,k1)) c/\R (.yield (hV,na,nb,out,g,k,k1)) c):(SC prog w A SI) (hi1 a b na nb out J bc g) R st:=by
 let%[G,pa,pb,M|H]:=m;obtain⟨nb,rfl⟩:∃n,nb=n+1:=%[nb-1|⋯]
 let%[O|l]:=ba (a:=b) (i:=nb) ⋯;unfold hi1;rw[Ph,ip];show aq (c8 ?_);let sg:=(SG.refl st).set g;show aq (bh O ?_);show aq (fE (C.of sg).c (C.DB ⋯) (λi hi=>%[a[0+i]'⋯,(ba ⋯).1|C.DA ⋯]) (λi=>cF N hX b[nb] (a.getD (0+i) b[nb]))
  (λi x hi p=>by rw[Zs,p];rfl) (λi i' q hi Q=>sM C.hA q ⋯ Q) ⋯ λk T U Y=>?_)
 dsimp only;let s:=KO U Y;simp only[PF]at s;let mk:=G.takeA C.hA k T (λy u x p=>by
  let%[i,v,I,h3|e]:=zJ u;show Ym (C.hB.take_le l p) (Yk (s.2 i y v I ↑e)))
 let d:∀y∈a.toList.take k,N y<=N b[nb]:=λy u=>by
  let%[j,v,I|e]:=bG u;show s.1 j y v ↑e
 by_cases f:na-k>0
 .rw[ix f];rw[<-zK,<-zL]at mk;by_cases B:k=0
  .rw[ix (by simp[B])];show au (h _ _ _ sg (C.fd _ _ _ mk (.inl B)))
  rw[ij (by simp[B])];obtain⟨k,rfl⟩:∃n,k=n+1:=%[k-1|⋯]
  show Dz (C.of sg) mk ⋯ ⋯ H d (by simp;lia) (λr o=>h _ r o sg) λna nb out g k k1=>E _ na nb out g k k1 sg
 .rw[ij f];obtain rfl:k=na:=by lia
  obtain⟨k,rfl⟩:∃n,k=n+1:=%[k-1|⋯]
  show Dz (C.of sg) G M ⋯ H d L (λr o=>h _ r o sg) λna nb out g k k1=>E _ na nb out g k k1 sg
def JA{d:iv}{R:tI (kw ZY×iv×iv×ZY×iv×iv)->lx->Prop}(C:HC prog w A SI D N a b st)(m:MHS N a b out na nb)(l:z<=out.size+1)
 (p:∀r o,dF N a.toList b.toList r.toList->R (.done (hY r,o)) st) (s:∀na nb out d bc,MHS N a b out na nb->z<=out.size->R (.done (hV,na,nb,out,d,bc)) st/\R (.yield (hV,na,nb,out,d,bc)) st):(SC prog w A SI) (hiI a b na nb out g d bc) R st:=by
 let%[u,E,G,H|I]:=m;obtain⟨na,rfl⟩:∃n,na=n+1:=%[na-1|⋯]
 obtain⟨nb,rfl⟩:∃n,nb=n+1:=%[nb-1|⋯]
 let%[v|e]:=ba (a:=a) (i:=na) ⋯;let%[B|f]:=ba (a:=b) (i:=nb) ⋯;unfold hiI;rw[Ph,Ph];show aq (bh B (aq (bh v (aq (wb C.c (C.DB ⋯) (C.DA ⋯) ?_)))));dsimp only;by_cases c:N b[nb]<N a[na]
 .rw[Zf c,ix rfl];show aq (bh v ?_);let m2:=u.oneA C.hA e λy j=>Ym (C.hB.take_le f j) (Yk c)
  rw[<-li]at m2;by_cases q:na=0
  .rw[ix (by simp[q])];show au (p _ _ (C.fd _ _ _ m2 (.inl q)))
  rw[ij (by simp[q])];let h:=s _ _ _ (d+1) 0 %[m2,⋯,G,⋯|I] (by rw[Xp];show l)
  split
  .show au h.1
  .show au h.2
 .rw[Zh c,ij ∅];show aq (bh B ?_);let m2:=u.oneB C.hB f λy j=>Ym (C.hA.take_le e j) (US c)
  rw[<-li]at m2;by_cases q:nb=1
  .rw[ix (by simp[q])];show au (p _ _ (C.ff _ _ _ m2 q))
  rw[ij (by simp[q])];let h:=s _ _ _ 0 (bc+1) %[m2,E,⋯,H|⋯] (by rw[Xp];show l)
  split
  .show au h.1
  .show au h.2
def JB{j:iv}{q:kw ZY}{R:tI (kw ZY×iv×iv×ZY×iv)->lx->Prop}(C:HC prog w A SI D N a b st)(m:MHS N a b out na nb)(e:j+1<=out.size)
 (p:∀d r o,SG st d->dF N a.toList b.toList r.toList->R (.done (hY r,o)) d) (s:∀d na nb out g,SG st d->MHS N a b out na nb->j+2<=out.size->R (.yield (hV,na,nb,out,g)) d):(SC prog w A SI) (hiO a b (q,na,nb,out,g)) R st:=by
 let u:=m.pa;let v:=m.ma;show aq (b7 (bF (Q:=λx d=>SG st d/\((∃r o,x=(hY r,o)/\dF N a.toList b.toList r.toList)\/∃na nb out f bc,x=(hV,na,nb,out,f,bc)/\MHS N a b out na nb/\j+2<=out.size))
  (λj2 x d=>SG st d/\∃na nb out f bc,x=(hV,na,nb,out,f,bc)/\MHS N a b out na nb/\j+1+j2<=out.size) (Xl _) %[SG.refl _,_,_,_,_,_,rfl,m|e] ?_ ?_) ?_)
 .intro j2 x i _ l %[c,na,nb,out,f,bc,rfl,m|e];show JA (C.of c) m ⋯ (λr o h=>%[c|.inl %[r,o,rfl|h]]) λna nb out f bc h z=>%[%[c|.inr %[_,_,_,_,_,rfl,h|⋯]],c,_,_,_,_,_,rfl,h|z]
 .intro x i %[c,na,nb,out,f,bc,rfl,m|e];show%[c|.inr %[_,_,_,_,_,ρ,m|⋯]]
 .rintro x i ⟨c,⟨r,o,rfl,n⟩|⟨na,nb,out,f,bc,rfl,m,e⟩⟩
  .show au (p _ r _ c n)
  .show aq (jN ?_);show aq (b7 (bF (Q:=λx d=>SG st d/\((∃r o,x=(hY r,o)/\dF N a.toList b.toList r.toList)\/∃na nb out g f bc,x=(hV,na,nb,out,g,f,bc)/\MHS N a b out na nb/\j+2<=out.size))
    (λj2 x d=>SG st d/\∃na nb out g f bc,x=(hV,na,nb,out,g,f,bc)/\MHS N a b out na nb/\j+2<=out.size) (Xl _) %[c,_,_,_,_,_,_,rfl,m|e] ?_ ?_) ?_)
   .intro j2 x i _ l %[c,na,nb,out,g,f,bc,rfl,m|e];unfold hiG;rw[<-apply_ite _];show Jz (C.of c) m ⋯ (λd r o sg h=>%[SG.trans c sg|.inl %[r,o,rfl|h]]) λd na nb out g k k1 sg h z=>%[%[SG.trans c sg|.inr %[_,_,_,_,_,_,rfl,h|z]],SG.trans c sg,_,_,_,_,_,_,rfl,h|z]
   .simp_all
   .rintro x i ⟨c,⟨r,o,rfl,n⟩|⟨na,nb,out,g,f,bc,rfl,m,e⟩⟩
    .show au (p _ r _ c n)
    .show aq (c8 (au (s _ _ _ _ _ (c.set _) m e)))
def yz{D:ny->Prop}{N:ny->iv}{a b:ZY}{Q:ZY->lx->Prop}{st:lx}(c:Cmp prog w A SI (kindOf st) D N)(s:Srt N a.toList)(B:Srt N b.toList)(U:∀x∈a.toList,D x)(Y:∀x∈b.toList,D x)
 (ha:1<=a.size) (hb:1<=b.size) (h0:∀x y,b.toList[0]?∣x->a.toList[0]?∣y->N x<=N y) (hl:∀y∈b.toList,∀x∈a.toList.drop (a.size-1),N y<=N x)
 (h:∀r d,SG st d->dF N a.toList b.toList r.toList->Q r d):(SC prog w A SI) (oS a b) Q st:=by
 let DA:∀{i:iv} (hi:i<a.size),D a[i]:=λhi=>U _ ∅
 let DB:∀{i:iv} (hi:i<b.size),D b[i]:=λhi=>Y _ ∅
 let J:∀(out:ZY) (na nb:iv),MH N a.toList b.toList out.reverse.toList na nb->(na=0\/nb=0)->dF N a.toList b.toList (a.extract 0 na++b.extract 0 nb++out.reverse).toList:=λout na nb m q=>by
  rw[Xk,Xk,Gj,Gj];show m.done s B λx C y u=>?_
  rcases q with q|q
  .let%[j,L|_]:=bG C
   lia
  .let%[j,L|_]:=bG u
   lia
 let M:∀(out:ZY) (na nb:iv),MH N a.toList b.toList out.reverse.toList na nb->nb=1->dF N a.toList b.toList (b.extract 0 nb++a.extract 0 na++out.reverse).toList:=λout na nb m q=>by
  rw[Xk,Xk,Gj,Gj];show m.first s B λy u x C=>?_
  let%[j,L,h2|e]:=bG u;let%[i,_,h4|e']:=bG C;let j0:j=0:=by lia
  subst j0;let%[O|f]:=ba (a:=a) (i:=0) ⋯;show Ym (h0 _ _ e f) (s.le (Xl _) f e')
 rw[KR];show aq (jN ?_);obtain⟨l,E⟩:∃l,a.size=l+1:=%[a.size-1|⋯]
 let%[O|f]:=ba (a:=a) (i:=l) ⋯;rw[show a.size-1=l by lia];show aq (bh O ?_);let G:MH N a.toList b.toList #[a[l]].reverse.toList l b.size:=by
  let z:=MH.zero N a.toList b.toList;rw[Zb,Zb,E]at z;show z.oneA s f λy u=>hl y (X3 u) _ (by
   rw[show a.size-1=l by lia];show Z8 (i:=0) (by rw[Ye];show f))
 by_cases H:l=0
 .rw[ix (by simp[H])];show au (h _ st (SG.refl _) (J _ _ _ G (.inl H)))
 rw[ij (by simp[H])];by_cases I:b.size=1
 .rw[ix (by simp[I])];show au (h _ st (SG.refl _) (M _ _ _ G I))
 rw[ij (by simp[I])];show aq (g9 ?_);show aq (b7 (bF (Q:=λx d=>SG st d/\∃r,x.1∣r/\dF N a.toList b.toList r.toList)
  (λj x d=>SG st d/\∃na nb out g,x=(hV,na,nb,out,g)/\MHS N a b out na nb/\j+1<=out.size) (Xl _) %[SG.refl _,_,_,_,_,rfl,%[G,⋯,⋯,⋯|⋯]|Zi _] ?_ ?_) ?_)
 .intro j x n _ hj %[sg,na,nb,out,g,rfl,m|v];show JB (HC.of %[c,s,B,DA,DB,J|M] sg) m v (λd r o p h=>%[SG.trans sg p,r,rfl|h]) λd na nb out g p h z=>%[SG.trans sg p,_,_,_,_,rfl,h|z]
 .intro x n %[sg,na,nb,out,g,rfl,m|v];let:=m.pa;let:=m.pb;let:=m.ma;let:=m.mb;let q:=m.mh.perm.length_eq;simp only[Z9,Yr,Zb,o0.size_reverse]at q
  lia
 .intro x n %[sg,r,T|gd];let%[x1|x2]:=x;dsimp only at T;subst T;show au (h r n sg gd)
end
def wc(i:iv):S4 i=(do
 let s<-get
 let(hY (b,na,c),hY (d,nb,_)):=((rM s)[i]?,(rM s)[i+1]?)|OH "internal:list.sort.pending"
 set (O7 s (((rM s).setIfInBounds i (b,na+nb,c)).eraseIdxIfInBounds (i+1)))
 let hY k<-gG hX (<-NQ (nz s) d) (nz s) b na 0|return hX
 let(b,na):=(b+k,na-k)
 if na==0 then return hW
 let hY nb<-gG hW (<-NQ (nz s) (b+na-1)) (nz s) d nb (nb-1)|return hX
 if nb==0 then return hW
 let x:=(nz s).extract b d
 let y:=(nz s).extract d (d+nb)
 let merged<-if na<=nb then oR x y else oS x y
 S3 λs=>SY s (merged.toList.zipIdx.foldl (λa (p,j)=>a.setIfInBounds (b+j) p) (nz s))
 return (M3 (<-get)).isNone):=rfl
def we:∀(m:hH ny) (c o:iv) (a:ZY),o+c+ ~~~m<=a.size->
 ((m.zipIdx c).foldl (λ(a:ZY) (p:ny×iv)=>a.setIfInBounds (o+p.2) p.1) a).toList=a.toList.take (o+c) ++m++a.toList.drop (o+c+ ~~~m)
 |[],c,o,a,_=>by simp
 | x::m,c,o,a,h=>by
   rw[Rg,Yb];rw[Zr]at h;rw[we m (c+1) o _ (by rw[OV];lia),RW];let b:o+c< ~~~a.toList:=by rw[Zb];lia
   rw[Zr,hH.take_set,hH.drop_set];rw[show o+(c+1)=o+c+1 by lia,show o+c+1+ ~~~m=o+c+(~~~m+1) by lia];rw[ix ⋯];let e:(a.toList.take (o+c+1)).set (o+c) x=a.toList.take (o+c) ++[x]:=by
    rw[M5 b];rw[Tk _ _ (by rw[Yr];lia)];rw[Yr,X6 ⋯,PK];rfl
   rw[e];simp
section
variable{prog:n7}{w:xl}{A:wy}{SI:kG->Prop}{α β:Type}
def yA{D:ny->Prop}{N:ny->iv}{i p p2:iv}{b X Y L2:hH ny}{Q:su->lx->Prop}{st:lx}(c:Cmp prog w A SI (kindOf st) D N)(e:(nz st).toList=b++X++Y++L2)(O:Srt N X)(T:Srt N Y)(nX:X≠[])(nY:Y≠[])
 (dX:∀x∈X,D x) (dY:∀x∈Y,D x) (hp:(rM st)[i]?∣(~~~b,~~~X,p)) (as:(rM st)[i+1]?∣(~~~b+ ~~~X,~~~Y,p2)) (hf:M3 st=hV)
 (h:∀Z u,Srt N Z->Z.Perm (X++Y)->(nz u).toList=b++Z++L2->kindOf u=kindOf st->M3 u=hV->rM u=((rM st).setIfInBounds i (~~~b,~~~X+ ~~~Y,p)).eraseIdxIfInBounds (i+1)->Q hW u):(SC prog w A SI) (S4 i) Q st:=by
 let lX:0< ~~~X:=M0.mpr nX;let lY:0< ~~~Y:=M0.mpr nY;let sz:(nz st).size= ~~~b+ ~~~X+ ~~~Y+ ~~~L2:=by
  rw[<-Zb,e];simp only[Z9]
 let G:∀(j:iv) (d:j< ~~~X),(nz st)[~~~b+j]?∣X[j]:=λj d=>by
  let:(nz st).toList[~~~b+j]?∣X[j]:=by
   rw[e,Ze,Ze,Yd ⋯,Zw,Yc d];simp[d]
  simpa using this
 let H:∀(j:iv) (d:j< ~~~Y),(nz st)[~~~b+ ~~~X+j]?∣Y[j]:=λj d=>by
  let:(nz st).toList[~~~b+ ~~~X+j]?∣Y[j]:=by
   rw[e,Ze,Yd (by rw[Z9];lia),Z9,Zw,Yc d];simp[d]
  simpa using this
 let DX:∀(j:iv) (d:j< ~~~X),D X[j]:=λj d=>dX _ (Yh d)
 let DY:∀(j:iv) (d:j< ~~~Y),D Y[j]:=λj d=>dY _ (Yh d)
 let v:∀(i j:iv) (hi:i<=j) (d:j< ~~~X),N (X[i]'⋯)<=N X[j]:=λi j hi d=>O.le hi ∅ ∅
 let B:∀(i j:iv) (hi:i<=j) (d:j< ~~~Y),N (Y[i]'⋯)<=N Y[j]:=λi j hi d=>T.le hi ∅ ∅
 rw[wc];show aq (g9 ?_);rw[hp,as];dsimp only;show aq (Jv ?_);let eb:=H 0 lY;rw[Pg]at eb;show aq (bh eb ?_);show aq (fE c (DY 0 lY) (λi hi=>%[_,G i hi|DX i hi]) (λi=>cF N hX Y[0] (X.getD i Y[0])) (λi x hi f=>by
  rw[G i hi]at f;cases f;rw[Zc,Z4 hi];rfl) (λi j I d J=>?_) lX λk hk p1 p2=>?_)
 .rw[Zc,Z4 d]at J;rw[Zc,Z4 ⋯];let:=v i j I d;unfold cF at J ⊢;simp only[Y2,NE,Uj,decide_eq_false_iff_not,getD_some]at J ⊢
  lia
 let g1:∀(j:iv) (d:j< ~~~X),j<k->N X[j]<=N Y[0]:=λj d m=>by
  let:=p1 j m;rw[Zc,Z4 d]at this;unfold cF at this;simpa using this
 let g2:∀(j:iv) (d:j< ~~~X),k<=j->N Y[0]<N X[j]:=λj d m=>by
  let:=p2 j m d;rw[Zc,Z4 d]at this;unfold cF at this;simpa using this
 dsimp only;by_cases q1: ~~~X-k=0
 .rw[ix (by simp[q1])];show au (h (X++Y) _ (yc.mpr %[O,T|λx f y n=>?_]) (MC _) (by change(nz st).toList=_;rw[e];simp) rfl hf rfl);let%[j,d|rfl]:=Yi f;let%[o,l|rfl]:=Yi n;show Ym (g1 j d ⋯) (B 0 o (Xl _) l)
 rw[ij ↑q1];let el:=G (~~~X-1) ⋯;rw[show ~~~b+k+(~~~X-k) -1= ~~~b+(~~~X-1) by lia];show aq (bh el ?_);show aq (fE c (DX _ ⋯) (λi hi=>%[_,H i hi|DY i hi]) (λi=>cF N hW (X[~~~X-1]'⋯) (Y.getD i Y[0])) (λi x hi f=>by
  rw[H i hi]at f;cases f;rw[Zc,Z4 hi];rfl) (λi j I d J=>?_) ⋯ λk2 U p3 p4=>?_)
 .rw[Zc,Z4 d]at J;rw[Zc,Z4 ⋯];let:=B i j I d;unfold cF at J ⊢;simp only[Pq,Lz,getD_some]at J ⊢
  lia
 let g3:∀(j:iv) (d:j< ~~~Y),j<k2->N Y[j]<N (X[~~~X-1]'⋯):=λj d m=>by
  let:=p3 j m;rw[Zc,Z4 d]at this;unfold cF at this;simpa using this
 let g4:∀(j:iv) (d:j< ~~~Y),k2<=j->N (X[~~~X-1]'⋯)<=N Y[j]:=λj d m=>by
  let:=p4 j m d;rw[Zc,Z4 d]at this;unfold cF at this;simpa using this
 dsimp only;by_cases q2:k2=0
 .rw[ix (by simp[q2])];show au (h (X++Y) _ (yc.mpr %[O,T|λx f y n=>?_]) (MC _) (by change(nz st).toList=_;rw[e];simp) rfl hf rfl);let%[j,d|rfl]:=Yi f;let%[o,l|rfl]:=Yi n;show Ym (v j (~~~X-1) ⋯ ⋯) (g4 o l ⋯)
 rw[ij ↑q2];let ex:((nz st).extract (~~~b+k) (~~~b+ ~~~X)).toList=X.drop k:=by
  rw[oU,e,Ze,Ze,Ri,Ol ⋯,Vl,Zw,Op ⋯,Xi (by rw[Yn];lia),Zn (by rw[Yn];lia)]
 let M:((nz st).extract (~~~b+ ~~~X) (~~~b+ ~~~X+k2)).toList=Y.take k2:=by
  rw[uL,e,Ze,Ri,Ol (by rw[Z9];lia),Vl,Z9,PK,TK,Xi ⋯]
 let sx:((nz st).extract (~~~b+k) (~~~b+ ~~~X)).size= ~~~X-k:=by rw[<-Zb,ex,Yn]
 let sy:((nz st).extract (~~~b+ ~~~X) (~~~b+ ~~~X+k2)).size=k2:=by rw[<-Zb,M,Yr,X6 U]
 let fin:∀(r:ZY) (g:lx),SG (O7 st (((rM st).setIfInBounds i (~~~b,~~~X+ ~~~Y,p)).eraseIdxIfInBounds (i+1))) g->dF N (X.drop k) (Y.take k2) r.toList->
  (SC prog w A SI) (do S3 (λs=>SY s (r.toList.zipIdx.foldl (λa (p,j)=>a.setIfInBounds (~~~b+k+j) p) (nz s)));let x<-get;pure (M3 x).isNone) Q g:=λr g sg L=>by
  show aq (c8 (aq (g9 (au ?_))));let ab:M3 g=hV:=by rw[sg.2.2.2];show hf
  change Q (M3 g).isNone _;rw[ab];let lr: ~~~r.toList=(~~~X-k) +k2:=by
   rw[L.2.length_eq,Z9,Yn,Yr,X6 U]
  show h (X.take k++r.toList++Y.drop k2) _ ?_ ?_ ?_ sg.1 ab sg.2.2.1
  .let mem:∀y∈r.toList,(∃(j:iv) (d:j< ~~~X),k<=j/\y=X[j])\/∃(j:iv) (d:j< ~~~Y),j<k2/\y=Y[j]:=λy n=>by
    rcases Xu (L.2.mem_iff.mp n)with q|q
    .let%[j,z,h2|e]:=cq q;let%[d|e]:=Xt e;show .inl %[j,d,z|e.symm]
    .let%[j,z,h2|e]:=bG q;let%[d|e]:=Xt e;show .inr %[j,d,z|e.symm]
   show yc.mpr %[yc.mpr %[O.take k,L.1|λx f y n=>?_],T.drop k2|λx f y n=>?_]
   .let%[j,z,h2|e]:=bG f;let%[d|rfl]:=Xt e;rcases mem y n with⟨o,l,h3,rfl⟩|⟨o,l,h3,rfl⟩
    .show v j o ⋯ l
    .show Ym (g1 j d z) (B 0 o (Xl _) l)
   .let%[j,z,h2|e]:=cq n;let%[d|rfl]:=Xt e;rcases Xu f with f|f
    .let%[o,h3,h4|e']:=bG f;let%[l|rfl]:=Xt e';show Ym (v o (~~~X-1) ⋯ ⋯) (g4 j d z)
    .rcases mem x f with⟨o,l,h3,rfl⟩|⟨o,l,h3,rfl⟩
     .show Ym (v o (~~~X-1) ⋯ ⋯) (g4 j d z)
     .show B o j ⋯ d
  .let p1:(X.take k++r.toList++Y.drop k2).Perm (X.take k++(X.drop k++Y.take k2) ++Y.drop k2):=Xr _ (Nf _ L.2);show p1.trans ?_;rw[<-Ze,Xh,Ze,Xh]
  .change(SY g _|>nz).toList=_;let ac:nz g=nz st:=sg.2.1;change((r.toList.zipIdx).foldl (λ(a:ZY) (p:ny×iv)=>a.setIfInBounds (~~~b+k+p.2) p.1) (nz g)).toList=_;rw[we _ 0 _ _ (by rw[lr,ac,sz];lia),ac,e,lr];let t1:(b++X++Y++L2).take (~~~b+k+0)=b++X.take k:=by
    rw[Pg,Ze,Ze,hH.take_append,Zn ⋯,Zw,Xi ⋯]
   let t2:(b++X++Y++L2).drop (~~~b+k+0+(~~~X-k+k2))=Y.drop k2++L2:=by
    rw[show ~~~b+k+0+(~~~X-k+k2)= ~~~(b++X)+k2 by rw[Z9];lia,Ze,Ri,Ol ⋯,Vl,Zw,Op ⋯]
   rw[t1,t2];simp
 let C:∀x y,((nz st).extract (~~~b+ ~~~X) (~~~b+ ~~~X+k2)).toList[0]?∣x->((nz st).extract (~~~b+k) (~~~b+ ~~~X)).toList[0]?∣y->N x<=N y:=λx y f n=>by
  rw[M,Yf,ix ⋯,Z4 lY]at f;rw[ex,Ye,Z4 (by omega)]at n;cases f;cases n;show Yk (g2 _ ⋯ ⋯)
 let E:∀y∈((nz st).extract (~~~b+ ~~~X) (~~~b+ ~~~X+k2)).toList,∀x∈((nz st).extract (~~~b+k) (~~~b+ ~~~X)).toList.drop (((nz st).extract (~~~b+k) (~~~b+ ~~~X)).size-1),N y<=N x:=λy n x f=>by
  rw[M]at n;rw[sx,ex,TL]at f;let%[j,z,h2|e1]:=bG n;let%[d|rfl]:=Xt e1;let%[o,h3,h4|e2]:=cq f;let%[l|rfl]:=Xt e2;let:o= ~~~X-1:=by lia
  subst this;show Yk (g3 j d z)
 let ae:Srt N ((nz st).extract (~~~b+k) (~~~b+ ~~~X)).toList:=by rw[ex];show O.drop k
 let ag:Srt N ((nz st).extract (~~~b+ ~~~X) (~~~b+ ~~~X+k2)).toList:=by rw[M];show T.take k2
 let al:∀x∈((nz st).extract (~~~b+k) (~~~b+ ~~~X)).toList,D x:=λx f=>dX x (by rw[ex]at f;show ON f)
 let an:∀x∈((nz st).extract (~~~b+ ~~~X) (~~~b+ ~~~X+k2)).toList,D x:=λx f=>dY x (by rw[M]at f;show X3 f)
 let gg:∀(r:ZY) (g:lx),SG (O7 st (((rM st).setIfInBounds i (~~~b,~~~X+ ~~~Y,p)).eraseIdxIfInBounds (i+1))) g->dF N ((nz st).extract (~~~b+k) (~~~b+ ~~~X)).toList ((nz st).extract (~~~b+ ~~~X) (~~~b+ ~~~X+k2)).toList r.toList->
  (SC prog w A SI) (do S3 (λs=>SY s (r.toList.zipIdx.foldl (λa (p,j)=>a.setIfInBounds (~~~b+k+j) p) (nz s)));let x<-get;pure (M3 x).isNone) Q g:=λr g sg L=>fin r g sg (by rw[ex,M]at L;show L)
 by_cases q3: ~~~X-k<=k2
 .rw[ix q3];show aq (yy c ae ag al an (by rw[sx];lia) (by rw[sy];lia) C E gg)
 .rw[ij q3];show aq (yz c ae ag al an (by rw[sx];lia) (by rw[sy];lia) C E gg)
end
abbrev ky(N:ny->iv)(a:ZY)(i:iv):iv:=N (a.getD i (L5,L5))
def DC{N:ny->iv}{a:ZY}{i:iv}{x:ny}(h:a[i]?∣x):ky N a i=N x:=by
 unfold ky
 simp_all
def wg{N:ny->iv}{a b:ZY}{i j:iv}(h:a[i]? =b[j]?):ky N a i=ky N b j:=by
 unfold ky
 simp_all
structure CR (st0 st:lx) (lo:iv):Prop where
 kind:kindOf st=kindOf st0
 pend:rM st=rM st0
 fail:M3 st=M3 st0
 perm:(nz st).Perm (nz st0)
 same:∀i,i<lo->(nz st)[i]? =(nz st0)[i]?
def CR.refl(st:lx)(lo:iv):CR st st lo:=%[rfl,rfl,rfl,o0.Perm.refl _|λ_ _=>rfl]
def CR.size{a st:lx}{lo:iv}(h:CR a st lo):(nz st).size=(nz a).size:=h.perm.size_eq
def CR.rev{a st:lx}{lo i j:iv}(h:CR a st lo)(hi:lo<=i)(b:j<=(nz st).size):CR a (SY st (T8 (nz st) i j ((j-i)/2))) lo:=
 %[h.kind,h.pend,h.fail,(mirror_perm _ _ _ _).trans h.perm|λk c=>by
  rw[Q5 b,ij ⋯];show h.same k c]
def yB{N:ny->iv}{a:ZY}{i j:iv}(b:j<=a.size)(k:iv):ky N (T8 a i j ((j-i)/2)) k=if i<=k/\k<j then ky N a (i+j-1-k)else ky N a k:=by
 split
 .rename_i h
  show wg (by rw[Q5 b,ix h])
 .rename_i h
  show wg (by rw[Q5 b,ij h])
abbrev Up(N:ny->iv)(a:ZY)(lo n:iv):Prop:=∀i j,i<=j->j<n->ky N a (lo+i)<=ky N a (lo+j)
abbrev Dn(N:ny->iv)(a:ZY)(lo n:iv):Prop:=∀i j,i<=j->j<n->ky N a (lo+j)<=ky N a (lo+i)
def Up.one(N:ny->iv)(a:ZY)(lo:iv):Up N a lo 1:=λi j b c=>by
 simp_all
def Up.step{N:ny->iv}{a:ZY}{lo n:iv}(h:Up N a lo n)(d:1<=n)(f: ¬ ky N a (lo+n)<ky N a (lo+n-1)):Up N a lo (n+1):=λi j b g=>by
 by_cases e:j=n
 .subst e;by_cases c:i=j
  .show c▸Zi _
  .let:=h i (j-1) ⋯ ⋯;rw[show lo+(j-1)=lo+j-1 by lia]at this
   lia
 .show h i j b ⋯
def Dn.step{N:ny->iv}{a:ZY}{lo n:iv}(h:Dn N a lo n)(d:1<=n)(f:ky N a (lo+n)<=ky N a (lo+n-1)):Dn N a lo (n+1):=λi j b g=>by
 by_cases e:j=n
 .subst e;by_cases c:i=j
  .show c▸Zi _
  .let:=h i (j-1) ⋯ ⋯;rw[show lo+(j-1)=lo+j-1 by lia]at this
   lia
 .show h i j b ⋯
def Dn.rev{N:ny->iv}{a:ZY}{lo n:iv}(h:Dn N a lo n)(b:lo+n<=a.size):Up N (T8 a lo (lo+n) ((lo+n-lo)/2)) lo n:=λi j c d=>by
 rw[yB b,yB b,ix ⋯,ix ⋯];let:=h (n-1-j) (n-1-i) ⋯ ⋯
 grind
def Dn.same{N:ny->iv}{a:ZY}{lo n i j:iv}(h:Dn N a lo n)(d:j<=a.size)(g:∀k b,i<=k->k<j->i<=b->b<j->ky N a k=ky N a b):Dn N (T8 a i j ((j-i)/2)) lo n:=by
 let e:∀k,ky N (T8 a i j _) k=ky N a k:=λk=>by
  rw[yB d]
  grind
 intro p q c f;rw[e,e];show h p q c f
section
variable{prog:n7}{w:xl}{A:wy}{SI:kG->Prop}{α β:Type}
def oV{D:ny->Prop}{N:ny->iv}{i j lo:iv}{Q:kw su->lx->Prop}{a st:lx}(c:Cmp prog w A SI (kindOf a) D N)(d:∀x∈(nz a).toList,D x)(r:CR a st lo)(hi:i<(nz a).size)(m:j<(nz a).size)
 (h:Q (hY (decide (ky N (nz st) i<ky N (nz st) j))) st):(SC prog w A SI) (VM i j) Q st:=by
 let f:=λx n=>d x ((RX.mp r.perm).mem_iff.mp n)
 let b:=r.size▸hi;let e:=r.size▸m;let%[g|o]:=ba b;let%[l|p]:=ba e;show Gi (r.kind▸c) g l (f _ ∅) (f _ ∅) ?_;rw[DC g,DC l]at h;show h
def uM{i j:iv}{Q:Q7->lx->Prop}{st:lx}(h:Q () (SY st (T8 (nz st) i j ((j-i)/2)))):(SC prog w A SI) (Pw i j) Q st:=by
 show c8 h
abbrev cuL(lo:iv)(x:kw (kw iv)×iv):Lw lx Sem (tI (kw (kw iv)×iv)):=do
 match<-VM (lo+x.2) (lo+x.2-1)with
 | some w=>if w=hW then pure (.done (hV,x.2))else pure (.yield (hV,x.2+1))
 | _=>pure (.done (hY hV,x.2))
abbrev cu3(lo nrem n:iv):Lw lx Sem (kw iv):=do
 Pw lo (lo+n)
 let x<-forIn [n:nrem] (hV,n) λ_ x=>cuL lo x
 match x.1 with
 | some r=>pure r
 | none=>pure (hY x.2)
abbrev cuM(lo:iv)(x:kw (kw iv)×iv×iv):Lw lx Sem (tI (kw (kw iv)×iv×iv)):=do
 match<-VM (lo+x.2.1) (lo+x.2.1-1)with
 | some w=>
   if w=hW then(if x.2.2>0 then(do
    Pw (lo+x.2.1-(x.2.2+1)) (lo+x.2.1)
    pure (.yield (hV,x.2.1+1,0)))else pure (.yield (hV,x.2.1+1,0)))
   else(do
    match<-VM (lo+x.2.1-1) (lo+x.2.1)with
    | some w=>if w=hW then pure (.done (hV,x.2.1,x.2.2))else pure (.yield (hV,x.2.1+1,x.2.2+1))
    | _=>pure (.done (hY hV,x.2.1,x.2.2)))
 | _=>pure (.done (hY hV,x.2.1,x.2.2))
abbrev cu2(lo nrem n:iv):Lw lx Sem (kw iv):=do
 Qs "list.sort.descending-run"
 let x<-forIn [n+1:nrem] (hV,n+1,0) λ_ x=>cuM lo x
 match x.1 with
 | some r=>pure r
 | none=>
   if x.2.2>0 then(do
    Pw (lo+x.2.1-(x.2.2+1)) (lo+x.2.1)
    cu3 lo nrem x.2.1)else cu3 lo nrem x.2.1
set_option smartUnfolding false in
def KS(lo nrem:iv):Wc lo nrem=(do
 let x<-forIn [1:nrem] (hV,1) λ_ x=>cuL lo x
 match x.1 with
 | some r=>pure r
 | none=>
   if(x.2==nrem)=hW then pure (hY x.2)
   else if x.2>1 then(do
    match<-VM lo (lo+x.2-1)with
    | some w=>if w=hW then pure (hY x.2)else(do
      Pw lo (lo+x.2)
      cu2 lo nrem x.2)
    | _=>pure hV)else cu2 lo nrem x.2):=by
 rw[countRun'_eq];rfl
variable{D:ny->Prop}{N:ny->iv}{lo nrem n j:iv}{Q:kw iv->lx->Prop}{st st2:lx}
def DD{q:kw _}{R:tI _->lx->Prop}(c:Cmp prog w A SI (kindOf st) D N)(d:∀x∈(nz st).toList,D x)(r:CR st st2 lo)(e:lo+nrem<=(nz st).size)(f:1<=j)(g:j<nrem)
 (a:ky N (nz st2) (lo+j)<ky N (nz st2) (lo+j-1)->R (.done (hV,j)) st2) (b: ¬ ky N (nz st2) (lo+j)<ky N (nz st2) (lo+j-1)->R (.yield (hV,j+1)) st2):(SC prog w A SI) (cuL lo (q,j)) R st2:=by
 show aq (oV c d r ⋯ ⋯ ?_);dsimp only;by_cases q:ky N (nz st2) (lo+j)<ky N (nz st2) (lo+j-1)
 .rw[Zf q,ix rfl];show au (a q)
 .rw[Zh q,ij ∅];show au (b q)
def DE(c:Cmp prog w A SI (kindOf st) D N)(d:∀x∈(nz st).toList,D x)(s:lo+nrem<=(nz st).size)(h:∀n a,CR st a lo->1<=n->n<=nrem->Up N (nz a) lo n->Q (hY n) a)
 (r:CR st st2 lo) (n1:1<=n) (o:n<=nrem) (u:Dn N (nz st2) lo n):(SC prog w A SI) (cu3 lo nrem n) Q st2:=by
 show aq (uM ?_);let v:=r.rev (j:=lo+n) (Zi _) (by rw[r.size];lia);let g:=u.rev (by rw[r.size];lia);show aq (b7 (bF (Q:=λx a=>CR st a lo/\∃n,x=(hV,n)/\1<=n/\n<=nrem/\Up N (nz a) lo n)
  (λj x a=>CR st a lo/\x=(hV,j)/\Up N (nz a) lo j) o %[v,rfl|g] ?_ ?_) ?_)
 .intro j x e i p %[f,rfl|b];let l:=Ym n1 i;show DD c d f s l p (λ_=>%[f,j,rfl,l,Yk p|b]) λq=>%[f,rfl|b.step l q]
 .intro x e %[f,rfl|b];show%[f,nrem,ρ,Ym n1 o,Zi _|b]
 .intro x e %[f,m,rfl,y,m2|b];show au (h m e f y m2 b)
def JC{q:kw (kw iv)}{k:iv}{R:tI (kw (kw iv)×iv×iv)->lx->Prop}(c:Cmp prog w A SI (kindOf st) D N)(d:∀x∈(nz st).toList,D x)(r:CR st st2 lo)(B:lo+nrem<=(nz st).size)(v:k+1<=j)(C:j<nrem)
 (o:Dn N (nz st2) lo j) (p:∀i a,lo+j-(k+1)<=i->i<lo+j->lo+j-(k+1)<=a->a<lo+j->ky N (nz st2) i=ky N (nz st2) a)
 (y:R (.done (hV,j,k)) st2) (g:∀k st2,CR st st2 lo->k<=j->Dn N (nz st2) lo (j+1)->(∀i a,lo+(j+1) -(k+1)<=i->i<lo+(j+1)->lo+(j+1) -(k+1)<=a->a<lo+(j+1)->ky N (nz st2) i=ky N (nz st2) a)->R (.yield (hV,j+1,k)) st2):(SC prog w A SI) (cuM lo (q,j,k)) R st2:=by
 let one:∀st,∀i a,lo+(j+1) -(0+1)<=i->i<lo+(j+1)->lo+(j+1) -(0+1)<=a->a<lo+(j+1)->ky N (nz st) i=ky N (nz st) a:=λst i a h l z s=>by rw[show i=a by lia]
 show aq (oV c d r ⋯ ⋯ ?_);dsimp only;by_cases m:ky N (nz st2) (lo+j)<ky N (nz st2) (lo+j-1)
 .rw[Zf m,ix rfl];let b:=o.step ⋯ (Yk m);by_cases f:k>0
  .rw[ix f];show aq (uM (au (g 0 _ (r.rev ⋯ (by rw[r.size];lia)) (Xl _) (b.same (by rw[r.size];lia) p) (one _))))
  .rw[ij f];show au (g 0 _ r (Xl _) b (one _))
 .rw[Zh m,ij ∅];show aq (oV c d r ⋯ ⋯ ?_);dsimp only;by_cases u:ky N (nz st2) (lo+j-1)<ky N (nz st2) (lo+j)
  .rw[Zf u,ix rfl];show au y
  .rw[Zh u,ij ∅];let all:∀i,lo+j-(k+1)<=i->i<lo+(j+1)->ky N (nz st2) i=ky N (nz st2) (lo+j-1):=λi h l=>by
    by_cases e:i=lo+j
    .lia
    .show p _ _ h ⋯ ⋯ ⋯
   show au (g (k+1) _ r v (o.step ⋯ ⋯) λi a h l z s=>(all i ⋯ l).trans (all a ⋯ s).symm)
def DF(c:Cmp prog w A SI (kindOf st) D N)(d:∀x∈(nz st).toList,D x)(p:lo+nrem<=(nz st).size)(h:∀n a,CR st a lo->1<=n->n<=nrem->Up N (nz a) lo n->Q (hY n) a)
 (r:CR st st2 lo) (B:n<nrem) (s:Dn N (nz st2) lo (n+1)):(SC prog w A SI) (cu2 lo nrem n) Q st2:=by
 show aq (jN ?_);show aq (b7 (bF (Q:=λx a=>CR st a lo/\∃m q,x=(hV,m,q)/\q+1<=m/\m<=nrem/\Dn N (nz a) lo m/\(∀k f,lo+m-(q+1)<=k->k<lo+m->lo+m-(q+1)<=f->f<lo+m->ky N (nz a) k=ky N (nz a) f))
  (λj x a=>CR st a lo/\∃q,x=(hV,j,q)/\q+1<=j/\Dn N (nz a) lo j/\(∀k f,lo+j-(q+1)<=k->k<lo+j->lo+j-(q+1)<=f->f<lo+j->ky N (nz a) k=ky N (nz a) f)) B %[r,0,rfl,Va _ _,s|λk f H I J L=>by rw[show k=f by lia]] ?_ ?_) ?_)
 .intro j x l C v %[g,q,rfl,i,b|e];show JC c d g p i v b e %[g,j,q,rfl,i,Yk v,b|e] λk st2 r E s G=>%[r,k,rfl,Xf E,s|G]
 .intro x l %[g,q,rfl,i,b|e];show%[g,nrem,q,ρ,i,Zi _,b|e]
 .intro x l %[g,m,q,rfl,u,y,b|e];let z:=Ym (Va _ _) u;dsimp only;by_cases o:q>0
  .rw[ix o];show aq (uM (DE c d p h (g.rev ⋯ (by rw[g.size];lia)) z y (b.same (by rw[g.size];lia) e)))
  .rw[ij o];show DE c d p h g z y b
def wj{D:ny->Prop}{N:ny->iv}{lo nrem:iv}{Q:kw iv->lx->Prop}{st:lx}(c:Cmp prog w A SI (kindOf st) D N)(d:∀x∈(nz st).toList,D x)(r:1<=nrem)(g:lo+nrem<=(nz st).size)
 (h:∀n a,CR st a lo->1<=n->n<=nrem->Up N (nz a) lo n->Q (hY n) a):(SC prog w A SI) (Wc lo nrem) Q st:=by
 rw[KS];show aq (b7 (bF (Q:=λx a=>a=st/\∃n,x=(hV,n)/\1<=n/\n<=nrem/\Up N (nz st) lo n/\(n=nrem\/ky N (nz st) (lo+n)<ky N (nz st) (lo+n-1)))
  (λj x a=>a=st/\x=(hV,j)/\Up N (nz st) lo j) r %[rfl,rfl|Up.one _ _ _] ?_ ?_) ?_)
 .intro j x a e f %[rfl,rfl|up];show DD c d (CR.refl _ lo) g e f (λq=>%[rfl,j,rfl,e,Yk f,up|.inr q]) λq=>%[rfl,rfl|up.step e q]
 .intro x a %[rfl,rfl|up];show%[ρ,nrem,ρ,r,Zi _,up|.inl rfl]
 .intro x b %[G,n,rfl,n1,s,up|H];subst G;dsimp only;by_cases l:n=nrem
  .rw[ix (by simp[l])];show au (h n b (CR.refl _ _) n1 s up)
  rw[ij (by simp[l])];let u:n<nrem:=by lia
  by_cases v:n>1
  .rw[ix v];show aq (oV c d (CR.refl _ lo) ⋯ ⋯ ?_);dsimp only;by_cases y:ky N (nz b) lo<ky N (nz b) (lo+n-1)
   .rw[Zf y,ix rfl];show au (h n b (CR.refl _ _) n1 s up)
   .rw[Zh y,ij ∅];let all:∀i,i<n->ky N (nz b) (lo+i)=ky N (nz b) lo:=λi hi=>by
     let z:=up 0 i (Xl _) hi;let B:=up i (n-1) ⋯ ⋯;rw[show lo+(n-1)=lo+n-1 by lia]at B;rw[Pg]at z
     lia
    let m:Dn N (nz b) lo n:=λi j o f=>by rw[all i ⋯,all j f];show Zi _
    show aq (uM (DF c d g h ((CR.refl b lo).rev (Zi _) ⋯) u ((m.step n1 ⋯).same ⋯ (λk p z B I J=>by
     let C:=all (k-lo) ⋯;let E:=all (p-lo) ⋯;rw[show lo+(k-lo)=k by lia]at C;rw[show lo+(p-lo)=p by lia]at E;rw[C,E]))))
  .rw[ij v];show DF c d g h (CR.refl b lo) u (Dn.step (λi j o f=>?_) n1 (Yk (H.resolve_left l)));rw[show i=j by lia];show Zi _
end
section
variable{prog:n7}{w:xl}{A:wy}{SI:kG->Prop}{α β:Type}
def CR.move{a st:lx}{lo k l:iv}(h:CR a st lo)(b:lo+k<(nz st).size)(c:l<=k):CR a (SY st (bubble (nz st) (lo+k) (lo+k-(lo+l)))) lo:=
 %[h.kind,h.pend,h.fail,(bubble_perm _ _ _).trans h.perm|λi hi=>by
  rw[Qe b _ ⋯,ij ⋯,ij ⋯];show h.same i hi]
def zM{N:ny->iv}{a:ZY}{b d:iv}(f:b<a.size)(g:d<=b)(k:iv):ky N (bubble a b d) k=if k=b-d then ky N a b else if b-d<k/\k<=b then ky N a (k-1)else ky N a k:=by
 by_cases c:k=b-d
 .rw[ix c];show wg (by rw[Qe f d g,ix c])
 .rw[ij c];by_cases e:b-d<k/\k<=b
  .rw[ix e];show wg (by rw[Qe f d g,ij c,ix e])
  .rw[ij e];show wg (by rw[Qe f d g,ij c,ij e])
def Bp{D:ny->Prop}{N:ny->iv}{lo n ok:iv}{Q:su->lx->Prop}{f st:lx}(c:Cmp prog w A SI (kindOf f) D N)(d:∀x∈(nz f).toList,D x)(r:CR f st lo)(O:1<=ok)(T:ok<=n)(hs:lo+n<=(nz f).size)(up:Up N (nz st) lo ok)
 (h:∀a,CR f a lo->Up N (nz a) lo n->Q hW a):(SC prog w A SI) (binarySort' lo n ok) Q st:=by
 rw[binarySort'_eq];rw[show max ok 1=ok by lia];show aq (b7 (bF (Q:=λx a=>x=(hV,())/\CR f a lo/\Up N (nz a) lo n) (λk x a=>x=(hV,())/\CR f a lo/\Up N (nz a) lo k) T %[rfl,r|up] ?_ ?_) ?_)
 .intro k x b U hk %[rfl,m|up1];dsimp only;let pv:∀i,i<k->lo+i<(nz f).size:=λi hi=>by lia
  show aq (b7 (bF (Q:=λx a=>a=b/\∃l,x.1=hV/\x.2.1=l/\l<=k/\(∀i,i<l->ky N (nz b) (lo+i)<=ky N (nz b) (lo+k))/\(∀i,l<=i->i<k->ky N (nz b) (lo+k)<ky N (nz b) (lo+i)))
   (λj x a=>a=b/\∃l q,x=(hV,l,q)/\l<=q/\q<=k/\q-l<=k-j/\(∀i,i<l->ky N (nz b) (lo+i)<=ky N (nz b) (lo+k))/\(∀i,q<=i->i<k->ky N (nz b) (lo+k)<ky N (nz b) (lo+i))) (Xl _)
   %[rfl,0,k,rfl,⋯,⋯,⋯,λi hi=>on hi (Xb _)|λi O h2=>by lia] ?_ ?_) ?_)
  .intro j x g _ Y %[rfl,l,q,rfl,C,o,hm,s|u];dsimp only;by_cases v:l>=q
   .rw[ix v];let e:l=q:=by lia
    subst e;show au %[rfl,l,rfl,rfl,o,s|u]
   .rw[ij v];show aq (oV c d m ⋯ ⋯ ?_);dsimp only;by_cases p:ky N (nz g) (lo+k)<ky N (nz g) (lo+(l+q)/2)
    .rw[Zf p,ix rfl];show au %[rfl,l,_,rfl,⋯,⋯,⋯,s|λi y B=>Zg p (up1 _ _ y B)]
    .rw[Zh p,ij ∅];show au %[rfl,_,q,rfl,⋯,⋯,⋯,λi y=>Ym (up1 i ((l+q)/2) ⋯ ⋯) ⋯|u]
  .intro x g %[rfl,l,q,rfl,C,o,hm,s|u];let e:l=q:=by lia
   subst e;show%[ρ,l,ρ,ρ,o,s|u]
  .rintro⟨x1,x2,x3⟩ g ⟨e2,l,H,I,E,s,u⟩;subst e2;dsimp only at H I;subst H I;dsimp only;rw[moveDown'_eq];show aq (c8 (au %[rfl,m.move (by rw[m.size];lia) E|?_]));let z:lo+k<(nz g).size:=by rw[m.size];lia
   intro i j G Y;rw[zM z ⋯,zM z ⋯];let ed:lo+k-(lo+k-(lo+x2))=lo+x2:=by lia
   rw[ed];by_cases y:lo+i=lo+x2
   .rw[ix y];by_cases B:lo+j=lo+x2
    .rw[ix B];show Zi _
    .rw[ij B,ix ⋯];let:=u (j-1) ⋯ ⋯;rw[show lo+(j-1)=lo+j-1 by lia]at this
     lia
   .rw[ij y];by_cases J:lo+x2<lo+i/\lo+i<=lo+k
    .rw[ix J,ij ⋯,ix ⋯];let:=up1 (i-1) (j-1) ⋯ ⋯;rw[show lo+(j-1)=lo+j-1 by lia,show lo+(i-1)=lo+i-1 by lia]at this;show this
    .rw[ij J];by_cases L:lo+j=lo+x2
     .rw[ix L];show s i ⋯
     .rw[ij L];by_cases M:lo+x2<lo+j/\lo+j<=lo+k
      .rw[ix M];let:=up1 i (j-1) ⋯ ⋯;rw[show lo+(j-1)=lo+j-1 by lia]at this;show this
      .rw[ij M];show up1 i j G ⋯
 .intro x b %[rfl,m|up1];show%[ρ,m|up1]
 .intro x b %[rfl,m|up1];show au (h b m up1)
end
abbrev d5:hH (hH ny×iv)->iv->hH (iv×iv×iv)
 |[],_=>[]
 |(r,p)::t,o=>(o,~~~r,p)::d5 t (o+ ~~~r)
abbrev bw(a:hH (hH ny×iv)):hH ny:=(a\1).flatten
def cK(a b:hH _):bw (a++b)=bw a++bw b:=by simp[bw]
def a8(a:hH ny×iv)(b:hH _):bw (a::b)=a.1++bw b:=by simp[bw]
def dP:∀a b o,d5 (a++b) o=d5 a o++d5 b (o+ ~~~(bw a))
 |[],b,o=>by simp[d5,bw]
 |(r,p)::t,b,o=>by
  rw[So,d5,d5,dP t b,a8,Z9,So,VU]
def fF:∀a o,~~~(d5 a o)= ~~~a
 |[],_=>rfl
 |(r,p)::t,o=>by rw[d5,Zr,Zr,fF t]
structure RI (N:ny->iv) (st0 st:lx) (rp:hH (hH ny×iv)) (rest:hH ny):Prop where
 kind:kindOf st=kindOf st0
 fail:M3 st=hV
 perm:(nz st).toList.Perm (nz st0).toList
 arr:(nz st).toList=bw rp++rest
 pend:(rM st).toList=d5 rp 0
 runs:∀r∈rp,r.1≠[]/\Srt N r.1
def RI.size{N:ny->iv}{a st:lx}{b:hH _}{rest:hH ny}(h:RI N a st b rest):(nz st).size=(nz a).size:=by
 rw[<-Zb,<-Zb,h.perm.length_eq]
def RI.psize{N:ny->iv}{a st:lx}{b:hH _}{rest:hH ny}(h:RI N a st b rest):(rM st).size= ~~~b:=by
 rw[<-Zb,h.pend,fF]
section
variable{prog:n7}{w:xl}{A:wy}{SI:kG->Prop}{α β:Type}
def lj{D:ny->Prop}{N:ny->iv}{f st:lx}{a b:hH _}{X Y:hH ny}{p o i:iv}{rest:hH ny}{Q:su->lx->Prop}(c:Cmp prog w A SI (kindOf f) D N)(d:∀x∈(nz f).toList,D x)
 (h:RI N f st (a++(X,p)::(Y,o)::b) rest) (hi:i= ~~~a) (k:∀Z g,RI N f g (a++(Z,p)::b) rest-> ~~~Z= ~~~X+ ~~~Y->Q hW g):(SC prog w A SI) (S4 i) Q st:=by
 subst hi;let e:=h.arr;rw[cK,a8,a8]at e;let m:(nz st).toList=bw a++X++Y++(bw b++rest):=by rw[e];simp
 let y:=λx j=>d x (h.perm.mem_iff.mp j)
 let n:=h.pend;rw[dP,d5,d5,PF]at n;let pl:=fF a 0;let E:=by
  let:(rM st).toList[~~~a]?∣(~~~(bw a),~~~X,p):=by
   rw[n,Yd ⋯,pl,PK];rfl
  simpa using this
 let G:=by
  let:(rM st).toList[~~~a+1]?∣(~~~(bw a)+ ~~~X,~~~Y,o):=by
   rw[n,Yd ⋯,pl,Zw];rfl
  simpa using this
 let s:=h.runs (X,p) ∅;let z:=h.runs (Y,o) ∅;show yA (h.kind▸c) m s.2 z.2 s.1 z.1 (λx j=>y x (by rw[m];simp[j])) (λx j=>y x (by rw[m];simp[j])) E G h.fail λZ g H B C I J u=>?_
 let v: ~~~Z= ~~~X+ ~~~Y:=by rw[B.length_eq,Z9]
 show k Z g %[I.trans h.kind,J,?_,?_,?_|λr l=>?_] v
 .show MQ ?_ h.perm;rw[C,m];rw[show bw a++X++Y++(bw b++rest)=bw a++(X++Y) ++(bw b++rest) by simp];show Xr _ (Nf _ B)
 .rw[C,cK,a8];simp
 .rw[u,o0.toList_eraseIdxIfInBounds,RW,n,dP,d5,PF];rw[Tk _ _ ⋯,pl,PK,hH.set_cons_zero];rw[hH.eraseIdx_append_of_length_le ⋯,pl,Zw,hH.eraseIdx_cons_succ,hH.eraseIdx_cons_zero];rw[v,VU]
 .rcases Xu l with l|l
  .show h.runs r (Yz _ l)
  .rcases X2.mp l with rfl|l
   .show%[λq=>?_|H];let j:=M0.mpr s.1;dsimp only at q j;rw[q,Vm]at v
    lia
   .show h.runs r (by simp[l])
def Bq{N:ny->iv}{a:ZY}{lo n:iv}(h:Up N a lo n)(f:lo+n<=a.size):Srt N ((a.toList.drop lo).take n):=by
 show Nz.mpr λi j hi c d=>?_
 let b:j<n:=by grind
 let g:∀i hi,i<n->N ((a.toList.drop lo).take n)[i]=ky N a (lo+i):=λi hi e=>by
  show(DC ?_).symm
  simp_all
 rw[g i hi ⋯,g j c b];show h i j ⋯ b
def CR.toRI{N:ny->iv}{d b a:lx}{f:hH _}{rest:hH ny}{lo n:iv}(h:RI N d b f rest)(r:CR b a lo)(j: ~~~(bw f)=lo)(up:Up N (nz a) lo n)(o:lo+n<=(nz b).size):
 ∃R c,RI N d a f (R++c)/\ ~~~R=n/\Srt N R:=by
 let l:=r.size;show%[((nz a).toList.drop lo).take n,(nz a).toList.drop (lo+n),%[r.kind.trans h.kind,r.fail.trans h.fail,(RX.mp r.perm).trans h.perm,?_,r.pend▸h.pend|h.runs],?_|Bq up ⋯]
 .let e:(nz a).toList.take lo=bw f:=by
   let m:(nz a).toList.take lo=(nz b).toList.take lo:=by
    apply P7;intro i;rw[Yf,Yf]
    split
    .rename_i hi
     let:=r.same i hi;simpa using this
    .rfl
   rw[m,h.arr,Xi ⋯,Zn ⋯]
  rw[<-e];let g:=Xh n ((nz a).toList.drop lo);rw[TL]at g;rw[g,(Xh lo (nz a).toList)]
 grind
def nh{α:Type}(f:α->α):∀l x,(l++[x]).modify l.length f=l++[f x]
 |[],x=>rfl
 | y::l,x=>by
   rw[So,Zr,hH.modify_succ_cons,nh f l x,So]
def lq{α:Type}(l:hH α):l=[]\/∃a x,l=a++[x]:=by
 by_cases h:l=[]
 .show .inl h
 .show .inr %[l.dropLast,l.getLast h|(hH.dropLast_concat_getLast h).symm]
def Br{α:Type}(l:hH α)(h:1< ~~~l):∃a x y,l=a++x::y::[]:=by
 rcases lq l with rfl|⟨a,y,rfl⟩
 .simp at h
 .rcases lq a with rfl|⟨b,x,rfl⟩
  .simp at h
  .show%[b,x,y|by simp]
def RI.pushed{N:ny->iv}{a st:lx}{c:hH _}{R rest:hH ny}{lo m:iv}(h:RI N a st c (R++rest))(d: ~~~(bw c)=lo)(e: ~~~R=m)(f:1<=m)(g:Srt N R):RI N a (O7 st ((rM st).push (lo,m,0))) (c++[(R,0)]) rest:=by
 show%[h.kind,h.fail,h.perm,?_,?_|λr b=>?_]
 .rw[h.arr,cK,a8];simp[bw]
 .rw[N6,h.pend,dP,d5,d5,PF,d,e]
 .rcases Xu b with b|b
  .show h.runs r b
  .rw[Xv b]
   grind
def RI.powered{N:ny->iv}{a st:lx}{b:hH _}{rest:hH ny}{X:hH ny}{p:iv}(d:iv)(h:RI N a st (b++[(X,p)]) rest):RI N a (O7 st ((rM st).modify ((rM st).size-1) λx=>(x.fst,x.2.fst,d))) (b++[(X,d)]) rest:=by
 show%[h.kind,h.fail,h.perm,?_,?_|λr c=>?_]
 .rw[h.arr,cK,cK,a8,a8]
 .rw[o0.toList_modify,h.psize,h.pend,dP,dP];rw[show(b++[(X,p)]).length-1= ~~~(d5 b 0) by rw[fF];simp];change hH.modify (d5 b 0++[_]) _ _=_;rw[nh];rfl
 .rcases Xu c with c|c
  .show h.runs r (Yz _ c)
  .rw[Xv c];show h.runs (X,p) ∅
abbrev srP(lo n:iv):Lw lx Sem (tI (kw Q7×iv)):=do
 S3 λs=>O7 s ((rM s).push (lo,n,0))
 pure (.yield (hV,lo+n))
abbrev sr1(size lo n:iv):Lw lx Sem (tI (kw Q7×iv)):=do
 let s<-get
 match(rM s).back? with
 | hY (a,n1,_)=>do
   let x<-forIn [0:size] (hV,()) λ_ _=>(do
    let s<-get
    match if(rM s).size>1 then(rM s)[(rM s).size-2]? else hV with
    | hY (_,_,o)=>
      if o<=power' size (2*a+n1) (2*a+n1+n1+n) size then pure (.done (hV,()))
      else(do
       let b<-S4 ((rM s).size-2)
       if(!b)=hW then pure (.done (hY (),()))else pure (.yield (hV,())))
    | _=>pure (.done (hV,())))
   match x.1 with
   | some r=>pure (.done (hY r,lo))
   | none=>do
     S3 λs=>O7 s ((rM s).modify ((rM s).size-1) λx=>(x.1,x.2.1,power' size (2*a+n1) (2*a+n1+n1+n) size))
     srP lo n
 | _=>srP lo n
abbrev srO(size:iv)(x:kw Q7×iv):Lw lx Sem (tI (kw Q7×iv)):=
 if x.2>=size then pure (.done (hV,x.2))
 else do
  match<-Wc x.2 (size-x.2)with
  | some n=>
    if n<VL size size 0 then(do
     Qs "list.sort.binary-insertion"
     let b<-binarySort' x.2 (min (size-x.2) (VL size size 0)) n
     if(!b)=hW then pure (.done (hY (),x.2))else sr1 size x.2 (min (size-x.2) (VL size size 0)))
    else sr1 size x.2 n
  | _=>pure (.done (hY (),x.2))
abbrev srT(size:iv)(x:kw Q7×iv):Lw lx Sem Q7:=
 match x.1 with
 | some r=>pure r
 | none=>do
   let x<-forIn [0:size] (hV,()) λ_ _=>(do
    let s<-get
    if(rM s).size<=1 then pure (.done (hV,()))
    else(do
     let b<-S4 (if VS (λx=>decide (x<(rM s)[(rM s).size-2+1]?.elim 0 λx=>x.2.1)) (if(rM s).size-2>0 then kw.map (λx=>x.2.1) (rM s)[(rM s).size-2-1]? else hV)=hW then(rM s).size-2-1 else(rM s).size-2)
     if(!b)=hW then pure (.done (hY (),()))else pure (.yield (hV,()))))
   match x.1 with
   | some r=>pure r
   | none=>pure ()
set_option smartUnfolding false in
def KU:sortRuns'=(do
 let s<-get
 let x<-forIn [0:(nz s).size] (hV,0) λ_ x=>srO (nz s).size x
 srT (nz s).size x):=by
 rw[sortRuns'_eq];rfl
def DG{D:ny->Prop}{N:ny->iv}{st m:lx}{y:hH (hH ny×iv)}{R e:hH ny}{lo n:iv}{T:tI (kw Q7×iv)->lx->Prop}(c:Cmp prog w A SI (kindOf st) D N)(d:∀x∈(nz st).toList,D x)(o:RI N st m y (R++e))(q: ~~~(bw y)=lo)(p: ~~~R=n)(s:Srt N R)(L:1<=n)
 (M:∀a h,RI N st h a e-> ~~~(bw a)=lo+n->T (.yield (hV,lo+n)) h):(SC prog w A SI) (sr1 (nz st).size lo n) T m:=by
 show aq (g9 ?_);rcases lq y with z|⟨U,⟨Y,p0⟩,z⟩
 .subst z;let C:(rM m).back? =hV:=by
   let:=o.psize;simp[o0.back?,this]
  rw[C];show aq (c8 (au (M _ _ (o.pushed q p L s) (by rw[cK,Z9,q,a8];simp[bw,p]))))
 .let C:(rM m).back?∣(~~~(bw U),~~~Y,p0):=by
   rw[<-o0.getLast?_toList,o.pend,z,dP,d5,d5,PF];simp
  rw[C];show aq (b7 (bF (Q:=λx h=>x=(hV,())/\∃a,RI N st h a (R++e)/\a≠[]/\ ~~~(bw a)=lo) (λj x h=>x=(hV,())/\∃a,RI N st h a _/\a≠[]/\ ~~~(bw a)=lo) (Xl _) %[rfl,y,o,by rw[z];simp|q] ?_ ?_) ?_)
  .intro j5 x f _ _ %[rfl,l,b,i|g];show aq (g9 ?_);by_cases E:(rM f).size>1
   .let%[r,%[B|G],%[Y5|q5]|rfl]:=Br l (b.psize▸E);let u:(rM f).size-2= ~~~r:=by rw[b.psize];simp
    let H:(rM f)[(rM f).size-2]?∣(~~~(bw r),~~~B,G):=by
     let:(rM f).toList[~~~r]?∣(~~~(bw r),~~~B,G):=by
      rw[b.pend,dP,Yd (by rw[fF];lia),fF,PK,PF];rfl
     rw[u];simpa using this
    rw[ix E,H];dsimp only
    split
    .show au %[rfl,_,b,i|g]
    .show aq (lj c d b u λZ5 ab I J=>au %[rfl,_,I,by simp|?_]);rw[<-g,cK,cK,a8,a8,a8];simp[bw,J]
   .rw[ij E];show au %[rfl,_,b,i|g]
  .intro x f %[rfl,l,b,i|g];show%[ρ,l,b,i|g]
  .intro x f %[rfl,l,b,i|g];dsimp only;let%[r,%[B|G]|rfl]:=(lq l).resolve_left i;show aq (c8 (aq (c8 (au ?_))));let v:∀O,~~~(bw (r++[(B,O)]))=lo:=λO=>by
    rw[<-g,cK,cK,a8,a8]
   show M _ _ ((b.powered _).pushed (v _) p L s) (by rw[cK,Z9,v,a8];simp[bw,p])
def sc_sortRuns{D:ny->Prop}{N:ny->iv}{Q:Q7->lx->Prop}{st:lx}(c:Cmp prog w A SI (kindOf st) D N)(d:∀x∈(nz st).toList,D x)(h2:1<=(nz st).size)(hp:rM st= #[])(hf:M3 st=hV)
 (h:∀f,(nz f).toList.Perm (nz st).toList->Srt N (nz f).toList->M3 f=hV->Q () f):(SC prog w A SI) sortRuns' Q st:=by
 rw[KU];show aq (g9 ?_);show aq (b7 (bF (Q:=λx f=>∃e lo,x=(hV,lo)/\RI N st f e [])
  (λj x f=>∃e rest lo,x=(hV,lo)/\RI N st f e rest/\ ~~~(bw e)=lo/\j<=lo/\lo<=(nz st).size) (Xl _) %[[],_,0,rfl,%[rfl,hf,MC _,rfl,by rw[hp];rfl|λ_ h=>(nomatch h)],rfl,Zi _|Xl _] ?_ ?_) ?_)
 .intro j x u _ hj %[e,rest,lo,rfl,g,m,L|M];unfold srO;dsimp only;let s1:=g.size;by_cases C:lo>=(nz st).size
  .rw[ix C];let O:rest=[]:=by
    let:=vj Mf g.arr;rw[Z9,Zb,s1,m]at this;show zz.mp ⋯
   subst O;show au %[e,lo,rfl|g]
  rw[ij C];let d1:∀x∈(nz u).toList,D x:=λx hx=>d x (g.perm.mem_iff.mp hx)
  let c1:Cmp prog w A SI (kindOf u) D N:=g.kind▸c;show aq (wj c1 d1 ⋯ ⋯ λn o r2 n1 n2 E=>?_);dsimp only;by_cases v:n<VL (nz st).size (nz st).size 0
  .rw[ix v];show aq (jN (aq (Bp c1 d1 r2 n1 ⋯ ⋯ E λT r3 U=>?_)));rw[ij ∅];let%[R,y,s,z|B]:=CR.toRI g r3 m U ⋯;show DG c d s m z B ⋯ λab f r l=>%[_,_,_,rfl,r,l,⋯|⋯]
  .rw[ij v];let%[R,y,s,z|B]:=CR.toRI g r2 m E ⋯;show DG c d s m z B ⋯ λab f r l=>%[_,_,_,rfl,r,l,⋯|⋯]
 .intro x u %[e,rest,lo,rfl,g,m,L|M];let O:rest=[]:=by
   let:=vj Mf g.arr;rw[Z9,Zb,g.size,m]at this;show zz.mp ⋯
  subst O;show%[e,lo,ρ|g]
 .intro x u %[e,lo,rfl|g];unfold srT;dsimp only;let few:∀(e:hH (hH ny×iv)),(∀r∈e,r.1≠[]/\Srt N r.1)-> ~~~e<= ~~~(bw e):=by
   intro e
   induction e with
   | nil=>intro _;show Xl _
   | cons r t ih=>
     intro I;rw[a8,Zr,Z9];let:=M0.mpr (I r ∅).1;let:=ih λq hq=>I q (by simp[hq])
     lia
  let l1: ~~~e<=(nz st).size:=by
   let a1:=few e g.runs;let a2:=vj Mf g.arr;rw[Zz,Zb,g.size]at a2
   lia
  show aq (b7 (bF (Q:=λx f=>x=(hV,())/\∃e,RI N st f e []/\ ~~~e<=1) (λj x f=>x=(hV,())/\∃e,RI N st f e []/\ ~~~e<=max 1 ((nz st).size-j)) (Xl _) %[rfl,e,g|⋯] ?_ ?_) ?_)
  .intro j x o _ hj %[rfl,e,g|J];show aq (g9 ?_);by_cases hz:(rM o).size<=1
   .rw[ix hz];show au %[rfl,e,g|g.psize▸hz]
   rw[ij hz];let ae:1< ~~~e:=by rw[<-g.psize];lia
   generalize G:(if VS _ _=hW then(rM o).size-2-1 else(rM o).size-2)=i
   let hi:i+1< ~~~e:=by
    let H:∀(c:Prop) [O2 c] (n:iv),2<=n->(if c then n-2-1 else n-2) +1<n:=λc _ n hn=>by lia
    rw[<-G,<-g.psize];show H _ _ ⋯
   clear G;obtain⟨a,X,p,Y,q,b,rfl,ac⟩:∃a X p Y q b,e=a++(X,p)::(Y,q)::b/\i= ~~~a:=by
    show%[e.take i,e[i].1,e[i].2,e[i+1].1,e[i+1].2,e.drop (i+2),?_|by rw[Yr];lia];let t1:=(Xh i e).symm;rw[Y1 ⋯,Y1 ⋯]at t1;show t1
   show aq (lj c d g ac λZ T s zl=>?_);rw[ij ∅];show au %[rfl,_,s|?_];simp only[Z9,Zr]at J hi ⊢
   lia
  .intro x o %[rfl,e,g|J];show%[ρ,e,g|⋯]
  .intro x o %[rfl,e,g|J];show au (h o g.perm ?_ g.fail);rw[g.arr,Zz]
   match e,J,g.runs with
   |[],_,_=>show M9
   |[r],_,I=>
    rw[a8];simp only[bw,QR,hH.flatten_nil,Zz];show(I r ∅).2
end
end _SB
namespace _ST
open PySem PySem.SetTable
def wk:∀k,∃q,5^(2^k)=1+2^(k+2)*(2*q+1)
 | 0=>%[0|rfl]
 | k+1=>by
   let%[q|e]:=wk k;show%[q+2^k*(2*q+1)*(2*q+1)|?_];rw[Pb 2 k,iv.pow_mul,e]
   grind
abbrev step(M i:iv):iv:=(i*5+1)%M
abbrev iter(M:iv):iv->iv->iv
 | 0,i=>i
 | n+1,i=>step M (iter M n i)
abbrev geo:iv->iv
 | 0=>0
 | n+1=>geo n*5+1
def uN:∀n,4*geo n+1=5^n
 | 0=>rfl
 | n+1=>by
   let:=uN n;rw[Pb,<-this,geo]
   lia
def lv(M:iv)(i:iv):∀n,iter M n i%M=(5^n*i+geo n)%M
 | 0=>by simp[iter,geo]
 | n+1=>by
   rw[iter,step,iv.mod_mod,geo,Pb];rw[Ua,WA,(lv M i n),<-WA,<-Ua]
   congr 1
   grind
def oW:∀(k i e:iv),e<2^k->∃n,n<2^k/\iter (2^k) n i%2^k=e
 | 0,i,e,c=>%[0,by simp|by simp at c;subst c;simp[iv.mod_one]]
 | k+1,i,e,c=>by
   let%[n,N|w]:=oW k i (e%2^k) (Sa _ (U9 k));let d:∀n,iter (2^(k+1)) n i%2^(k+1)%2^k=iter (2^k) n i%2^k:=λn=>by
    rw[QD _ (RQ 2 (Yl k)),<-QD _ (RQ 2 (Yl k)),lv,QD _ (RQ 2 (Yl k)),lv]
   let%[q|b]:=wk k;let y:geo (2^k)=2^k*(2*q+1):=by
    let g:=uN (2^k);rw[b,iv.pow_add]at g;let:2^k*2^2*(2*q+1)=4*(2^k*(2*q+1)):=by
     rw[iv.mul_right_comm];lia
    lia
   let f:∀n,iter (2^(k+1)) (n+2^k) i%2^(k+1)=(iter (2^(k+1)) n i+2^k)%2^(k+1):=λn=>by
    rw[lv];let z:5^(n+2^k)*i+geo (n+2^k)=5^(2^k)*(5^n*i+geo n) +geo (2^k):=by
     let O:=uN (n+2^k);let Q:=uN n
     grind
    rw[z,b,y];let A:2^(k+1)=2*2^k:=by rw[Pb];lia
    let j:2^(k+2)=2*2^(k+1):=by rw[Pb];lia
    let p:=lv (2^(k+1)) i n
    generalize 5^n*i+geo n=v at p ⊢
    let B:(1+2^(k+2)*(2*q+1))*v+2^k*(2*q+1)=v+2^k+2^(k+1)*(2*((2*q+1)*v) +q):=by
     rw[iv.add_mul,iv.one_mul,j];let C:2*2^(k+1)*(2*q+1)*v=2^(k+1)*(2*((2*q+1)*v)):=by
      simp only[iv.mul_assoc,iv.mul_left_comm]
     let E:2^k*(2*q+1)=2^k+2^(k+1)*q:=by
      rw[A,WB,iv.mul_one]
      lia
     rw[C,E,WB]
     lia
    rw[B,iv.add_mul_mod_self_left,Ua,<-p,<-Ua]
   let l:=d n;rw[w]at l;let G:iter (2^(k+1)) n i%2^(k+1)<2^(k+1):=Sa _ (U9 _);let m:=f n;rw[Ua,Pm (by lia:2^k<2^(k+1))]at m;obtain⟨a,r⟩:∃a,a=iter (2^(k+1)) n i%2^(k+1):=%[_|rfl]
   rw[<-r]at l G m;let o:a=e\/(a+2^k)%2^(k+1)=e:=by
    let s:=Vb a (2^k);let H:=Vb e (2^k);let I:a/2^k<2:=Tv ⋯;let J:e/2^k<2:=Tv ⋯;rw[l]at s
    generalize a/2^k=u at s I
    generalize e/2^k=v at H J
    let L:u=0\/u=1:=by lia
    let M:v=0\/v=1:=by lia
    rcases L with rfl|rfl<;> rcases M with rfl|rfl
    .left;lia
    .right
     rw[Pm ⋯]
     lia
    .right
     rw[show a+2^k=e+2^(k+1) by lia,iv.add_mod_right,Pm c]
    .left;lia
   rcases o with h|h
   .show%[n,⋯|by rw[<-r,h]]
   .show%[n+2^k,⋯|by rw[m,h]]
abbrev stand(t:nI)(h:ri):iv->Probe
 | 0=>t.probeStart h
 | n+1=>t.advance (stand t h n)
abbrev way(t:nI)(h:ri)(n:iv):iv:=(stand t h n).j
abbrev aO(t:nI)(h:ri):iv->iv×iv
 | 0=>(Se h%(t.mask+1),Se h)
 | r+1=>leap t.mask (aO t h r).1 (aO t h r).2
def ni(t:nI)(h:ri):∀n,(stand t h n).dummy=hV
 | 0=>rfl
 | n+1=>by
   let:=ni t h n;change(t.advance _).dummy=hV;unfold RO
   split
   .show this
   .show this
def Gk(m i:iv):MR m i-i<=9:=by
 unfold MR
 split<;> lia
def Bs(t:nI)(h:ri):∀r,∃n,n<=10*r/\∀d,d<=MR t.mask (aO t h r).1-(aO t h r).1->
 stand t h (n+d)=%[(aO t h r).1+d,MR t.mask (aO t h r).1-(aO t h r).1-d,(aO t h r).1,(aO t h r).2|hV]:=by
 let a:∀n i b,stand t h n=%[i,MR t.mask i-i,i,b|hV]->∀d,d<=MR t.mask i-i->stand t h (n+d)=%[i+d,MR t.mask i-i-d,i,b|hV]:=by
  intro n i b e d
  induction d with
  | zero=>intro _;rw[Pg,e];rfl
  | succ d c=>
    intro f;change t.advance (stand t h (n+d))=_;rw[c ⋯];unfold RO;rw[ix ⋯]
    grind
 intro r
 induction r with
 | zero=>show%[0,Xl _|a 0 _ _ rfl]
 | succ r c=>
   let%[n,g|e]:=c;let j:=Gk t.mask (aO t h r).1;show%[n+(MR t.mask (aO t h r).1-(aO t h r).1) +1,⋯|a _ _ _ ?_];change t.advance _=_;rw[e _ (Zi _)];unfold RO;rw[ij ⋯];rfl
def Gm(h:ri):Se h<2^64:=by
 unfold Se
 grind
def oX(t:nI)(h:ri):∀r,(aO t h r).2=Se h/32^r
 | 0=>by simp[aO]
 | r+1=>by
   change(aO t h r).2/32=_;rw[oX t h r,Ti,Pb]
def DH(t:nI)(h:ri):∀r,(aO t h r).1<t.mask+1
 | 0=>Sa _ (SW _)
 | r+1=>Sa _ (SW _)
def ko(t:nI)(h:ri):∀m,(aO t h (12+m)).1=iter (t.mask+1) m (aO t h 12).1
 | 0=>rfl
 | m+1=>by
   change((aO t h (12+m)).1*5+1+(aO t h (12+m)).2/32)%(t.mask+1)=step _ _;rw[ko t h m,oX,Ti,<-Pb];let a:Se h/32^(12+m+1)=0:=by
    show iv.div_eq_of_lt (Zg (Gm h) (Ym (by decide:2^64<=32^13) (Oq (!1) ⋯)))
   rw[a,Pg];rfl
def oY(a:t.mask+1=2^k)(h:ri)(e:iv)(c:e<=t.mask):∃r,r<Qn t.mask/\(aO t h r).1=e:=by
 let%[n,d|b]:=oW k _ e ⋯;show%[12+n,by unfold Qn;lia|?_];rw[ko,a];rw[<-a]at b;let:iter (t.mask+1) n (aO t h 12).1<t.mask+1:=by rw[<-ko];show DH t h _
 rw[Pm this]at b;show a▸b
def yC(a:t.mask+1=2^k)(h:ri)(e:iv)(b:e<=t.mask):∃n,n+10<=10*Qn t.mask/\way t h n=e:=by
 let%[r,f|c]:=oY a h e b;let%[n,g|d]:=Bs t h r;show%[n,⋯|?_];let:=d 0 (Xl _);unfold way;rw[Pg]at this;rw[this];show c
def wn(o:t.dummies= #[]){hashAt:iv->ri}:∀(fuel n m:iv),n<=m->m<n+fuel->t.slot (way t h m)= .empty->
 ∃q,n<=q/\q<=m/\(∀j,n<=j->j<q->∃i,t.slot (way t h j)= .live i/\hashAt i≠h)/\
  ((t.slot (way t h q)= .empty/\PP t hashAt h fuel (stand t h n)∣.empty (way t h q) hV)\/
   ∃i,t.slot (way t h q)= .live i/\hashAt i=h/\PP t hashAt h fuel (stand t h n)∣.candidate (way t h q) i (stand t h (q+1)))
 | 0,n,m,g,r,_=>by lia
 | fuel+1,n,m,g,r,p=>by
   let d:PP t hashAt h (fuel+1) (stand t h n)=(match t.slot (stand t h n).j with
    | .empty=>hY _
    | .dummy=>PP t hashAt h fuel (t.advance {stand t h n with dummy:=hY _})
    | .live i=>if hashAt i==h then hY _ else PP t hashAt h fuel _):=rfl
   let l:(stand t h n).j=way t h n:=rfl;cases c:t.slot _ with
   | empty=>
     show%[n,Zi _,g,λj a b=>by lia|.inl %[c|?_]];rw[d,l,c,ni]
   | dummy=>
     exfalso;unfold slot at c;dsimp only at c
     split at c
     .lia
     .split at c
      .rename_i q
       rw[o]at q;simp[has]at q
      .lia
   | live i=>
     by_cases f:hashAt i=h
     .show%[n,Zi _,g,λj a b=>by lia|.inr %[i,c,f|?_]];rw[d,l,c];dsimp only;rw[ix (by simp[f])];rfl
     .let s:n≠m:=λq=>by rw[q,p]at c;cases c
      let%[q,z,u,v|w]:=wn o fuel (n+1) m ⋯ ⋯ p;let y:PP t hashAt h (fuel+1) (stand t h n)=PP t hashAt h fuel (stand t h (n+1)):=by
       rw[d,l,c];dsimp only;rw[ij (by simp[f])];rfl
      show%[q,⋯,u,λj a b=>?_|?_]
      .by_cases e:j=n
       .show e▸%[i,c|f]
       .show v j ⋯ b
      .show y▸w
def oZ(xs:o0 iv)(j:iv)(d:∀a b (s:a<xs.size) (u:b<xs.size),a<b->xs[a]<xs[b]):∀(fuel lo hi:iv),hi-lo<=fuel->lo<=hi->hi<=xs.size->(∀i (h:i<xs.size),i<lo->xs[i]<j)->(∀i (h:i<xs.size),hi<=i->j<=xs[i])->
 Tc xs j fuel lo hi<=xs.size/\(∀i (h:i<xs.size),i<Tc xs j fuel lo hi->xs[i]<j)/\(∀i (h:i<xs.size),Tc xs j fuel lo hi<=i->j<=xs[i])
 | 0,lo,hi,p,q,f,g,l=>by
   let e:lo=hi:=by lia
   subst e;show%[f,g|l]
 | fuel+1,lo,hi,p,q,f,g,l=>by
   rw[Tc];by_cases c:lo<hi
   .rw[ix c];dsimp only;let n:(lo+hi)/2<xs.size:=by lia
    let r:xs.getD ((lo+hi)/2) j=xs[(lo+hi)/2]:=by simp[RY,n]
    rw[r];by_cases m:xs[(lo+hi)/2]<j
    .rw[ix m];show oZ xs j d fuel _ hi ⋯ ⋯ f (λi h o=>?_) l;by_cases e:i=(lo+hi)/2
     .subst e;show m
     .show Wh (d i _ h n ⋯) m
    .rw[ij m];show oZ xs j d fuel lo _ ⋯ ⋯ ⋯ g (λi h o=>?_);by_cases e:i=(lo+hi)/2
     .subst e;lia
     .let:=d _ i n h ⋯
      lia
   .rw[ij c];let e:lo=hi:=by lia
    subst e;show%[f,g|l]
abbrev DI(xs:o0 iv):Prop:=∀a b c (d:b<xs.size),a<b->xs[a]<xs[b]
def kr(a:DI xs)(j:iv):NI xs j<=xs.size/\(∀i (h:i<xs.size),i<NI xs j->xs[i]<j)/\(∀i (h:i<xs.size),NI xs j<=i->j<=xs[i]):=
 oZ xs j a xs.size 0 xs.size ⋯ (Xl _) (Zi _) (λi h q=>on q (Xb _)) (λi h q=>by lia)
def DJ(a:DI xs)(h:xs[i]?∣j):NI xs j=i:=by
 let%[f,c|d]:=kr a j;let%[hi|e]:=vr.mp h;rcases Ur i _ with q|q|q
 .let:=c i hi q
  lia
 .show q.symm
 .let b:NI xs j<xs.size:=by lia
  let:=d _ b (Zi _);let:=a _ i b hi q
  lia
def sO{t:nI}(a:DI t.place)(h:t.place[i]?∣j):t.slot j= .live i:=by
 unfold slot;dsimp only;rw[DJ a h,h];simp
def kz{t:nI}(a:DI t.place)(b:t.dummies= #[])(j:iv):(∃i,t.place[i]?∣j/\t.slot j= .live i)\/(j∉t.place.toList/\t.slot j= .empty):=by
 by_cases h:j∈t.place.toList
 .let%[i|hi]:=Xm h;let hi:=↑hi
  show .inl %[i,hi|sO a hi]
 .show .inr %[h|?_];unfold slot;rw[ij,ij]
  .rw[b];simp[has]
  .intro q;show h (Pc.mpr (Ob ↑q))
def wo(h:t.mask=t'.mask)(x:ri):∀n,stand t x n=stand t' x n
 | 0=>by
   change t.probeStart x=t'.probeStart x;unfold probeStart;rw[h]
 | n+1=>by
   change t.advance _=t'.advance _;rw[wo h x n];unfold RO;rw[h]
def sP(h:t.mask=t'.mask)(x:ri)(n:iv):way t x n=way t' x n:=by unfold way;rw[wo h]
structure WF (t:nI) (es:o0 (ri×iy)):Prop where
 pow:∃k,t.mask+1=2^k
 big:7<=t.mask
 dum:t.dummies= #[]
 rise:DI t.place
 inb:∀j∈t.place.toList,j<=t.mask
 size:t.place.size=es.size
 chain:∀(i j:iv) h x,t.place[i]?∣j->es[i]?∣(h,x)->∃n,way t h n=j/\∀m,m<n->way t h m∈t.place.toList
def nodup_sub [LV c]:∀{l m:hH c},l.Nodup->(∀x∈l,x∈m)-> ~~~l<= ~~~m
 |[],_,_,_=>Xl _
 | x::l,m,d,a=>by
   let%[f|g]:=Mw.mp d;let b:=a x Zm;let h:=nodup_sub (m:=m.erase x) g λy i=>(Tq (λe=>f (!2))).mpr (a y (Zk _ i))
   rw[hH.length_erase_of_mem b]at h;let:=SK b;rw[Zr]
   lia
def yD(W:WF t v)(R:t.place.size<=t.mask)(h:ri):∃m,m+10<=10*Qn t.mask/\way t h m∉t.place.toList/\(∀q,q<m->way t h q∈t.place.toList):=by
 let%[k|l]:=W.pow;let ex:∃e,e<=t.mask/\e∉t.place.toList:=by
  show J0 λb=>?_
  let: ~~~(q7 (t.mask+1))<= ~~~t.place.toList:=nodup_sub Qw λx o=>(λe c=>J0 λq=>b %[e,c|q]) x (by let:=J6.mp o;lia)
  rw[Yp,Zb]at this
  lia
 let%[e,c|f]:=ex;let%[n,p|hw]:=yC l h e c;let:∀d,∀n,n<=d->n+10<=10*Qn t.mask->way t h n∉t.place.toList->∃m,m+10<=10*Qn t.mask/\way t h m∉t.place.toList/\(∀q,q<m->way t h q∈t.place.toList):=by
  intro d
  induction d with
  | zero=>
    intro n r g i;let:n=0:=by lia
    subst this;show%[0,g,i|λq j=>on j (Xb _)]
  | succ d s=>
    intro n r g i;by_cases a:∀q,q<n->way t h q∈t.place.toList
    .show%[n,g,i|a]
    .let%[q|j]:=Po.mp a;let%[w|u]:=Classical.not_imp.mp j;show s q ⋯ ⋯ u
 show this n n (Zi _) p (hw▸f)
def lz(xs:o0 a)(p:iv)(x:a)(b:p<=xs.size):(Mu xs p x).toList=xs.toList.take p++x::xs.toList.drop p:=by
 unfold Mu;rw[Xk,N6,Qo,Qo,NA,NA];rw[TK,Th,Zn (l:=xs.toList.drop p) ∅];simp
def yE(xs:o0 c)(x:c)(f:p<=xs.size)(i:iv):(Mu xs p x)[i]? =if i<p then xs[i]? else if i=p then hY x else xs[i-1]? :=by
 let e:(Mu xs p x)[i]? =(Mu xs p x).toList[i]? :=by simp
 rw[e,lz xs p x f];let g: ~~~(xs.toList.take p)=p:=!2
 by_cases a:i<p
 .rw[ix a,Yc ⋯,Yf,ix a];simp
 .rw[ij a,Yd ⋯,g];by_cases b:i=p
  .rw[ix b,b,PK];rfl
  .rw[ij b];obtain⟨d,h⟩:∃d,i-p=d+1:=%[i-p-1|⋯]
   rw[h,hH.getElem?_cons_succ,Ye];rw[show p+d=i-1 by lia];simp
def jp(xs:o0 a)(p:iv)(x:a)(b:p<=xs.size):(Mu xs p x).size=xs.size+1:=by
 rw[<-Zb,lz xs p x b,Z9,Zr,Yr,Yn,Zb]
 lia
def DK(t:nI)(h:ri):∀n,(stand t h n).j+(stand t h n).more<=t.mask
 | 0=>by
   change Se h%(t.mask+1) +(MR t.mask _-Se h%(t.mask+1))<=t.mask;let:=Sa (Se h) (show 0<t.mask+1 from SW _);unfold MR
   split<;> lia
 | n+1=>by
   let a:=DK t h n;change(t.advance _).j+(t.advance _).more<=t.mask;unfold RO
   split
   .lia
   .dsimp only[leap];let:=Sa ((stand t h n).i*5+1+(stand t h n).perturb/32) (show 0<t.mask+1 from SW _);unfold MR
    split<;> lia
def uO(t:nI)(h:ri)(n:iv):way t h n<=t.mask:=by
 let:=DK t h n;unfold way
 lia
def WF.put(W:WF t I)(T:way t h m∉t.place.toList)(U:∀q,q<m->way t h q∈t.place.toList)(r f:su):
 (t.put (way t h m)).2=NI t.place (way t h m)/\(t.put (way t h m)).1.mask=t.mask/\(t.put (way t h m)).1.place.size=t.place.size+1/\(t.put (way t h m)).1.led=t.led/\(t.put (way t h m)).1.plain=t.plain/\(t.put (way t h m)).1.moves=t.moves/\
  WF {(t.put (way t h m)).1 with led:=r,plain:=f} (Mu I (t.put (way t h m)).2 (h,x)):=by
 let Y:has t.dummies (way t h m)=hX:=by rw[W.dum];simp[has]
 let ep:t.put (way t h m)=({t with place:=Mu t.place (NI t.place (way t h m)) (way t h m)},NI t.place (way t h m)):=by
  unfold nI.put;dsimp only;rw[Y];rfl
 rw[ep];let%[g,J|L]:=kr W.rise (way t h m)
 generalize hp:NI t.place (way t h m)=p at g J L
 let w:p<=I.size:=by rw[<-W.size];show g
 let s3:∀i (hi:i<t.place.size),p<=i->way t h m<t.place[i]:=λi hi q=>by
  let:=L i hi q;rcases QH this with e|e
  .show on (by rw[e];simp) T
  .show e
 let c:∀y,y∈(Mu t.place p (way t h m)).toList↔y=way t h m\/y∈t.place.toList:=λy=>by
  rw[lz _ _ _ g,Yy,X2];let:=Xh p t.place.toList
  constructor
  .rintro(q|q|q)
   .show .inr (X3 q)
   .show .inl q
   .show .inr (ON q)
  .rintro(q|q)
   .show .inr (.inl q)
   .rw[<-this]at q;rcases Xu q with q|q
    .show .inl q
    .show .inr (.inr q)
 show%[ρ,ρ,jp _ _ _ g,ρ,ρ,ρ,W.pow,W.big,W.dum,?_,?_,?_|?_]
 .intro a b ha A B;let l:(Mu t.place p (way t h m))[a]?∣(Mu t.place p (way t h m))[a]:=by simp
  let d:(Mu t.place p (way t h m))[b]?∣(Mu t.place p (way t h m))[b]:=by simp
  change(Mu t.place p (way t h m))[a]<(Mu t.place p (way t h m))[b];rw[yE _ _ g]at l d;let ab:b<t.place.size+1:=(jp t.place p (way t h m) g)▸A;by_cases C:a<p
  .rw[ix C]at l;let%[u|E]:=vr.mp l;rw[<-E];by_cases r:b<p
   .rw[ix r]at d;let%[f|v]:=vr.mp d;show v▸W.rise a b u f B
   .rw[ij r]at d;by_cases f:b=p
    .rw[ix f]at d;show(Za d)▸J a u C
    .rw[ij f]at d;let%[v|G]:=vr.mp d;show G▸W.rise a (b-1) u v ⋯
  .rw[ij C]at l;let r: ¬ b<p:=by lia
   let f: ¬ b=p:=by lia
   rw[ij r,ij f]at d;let%[v|G]:=vr.mp d;rw[<-G];by_cases u:a=p
   .rw[ix u]at l;show(Za l)▸s3 (b-1) v ⋯
   .rw[ij u]at l;let%[E|a4]:=vr.mp l;show a4▸W.rise (a-1) (b-1) E v ⋯
 .intro y hy;rcases(c y).mp hy with q|q
  .rw[q];show uO t h m
  .show W.inb y q
 .rw[jp _ _ _ g,jp _ _ _ w,W.size]
 .intro i j h' M hi o;let N:∀n,way {t with place:=Mu t.place p (way t h m),led:=r,plain:=f} h' n=way t h' n:=λn=>sP (t':=t) (by rfl) h' n
  let H:∃n,way t h' n=j/\∀q,q<n->way t h' q∈(Mu t.place p (way t h m)).toList:=by
   rw[yE _ _ g]at hi;rw[yE _ _ w]at o;by_cases O:i<p
   .rw[ix O]at hi o;let%[n,n1|z]:=W.chain i j h' M hi o;show%[n,n1|λq s=>(c _).mpr (.inr (z q s))]
   .rw[ij O]at hi o;by_cases Q:i=p
    .rw[ix Q]at hi o;cases hi;cases o;show%[m,ρ|λq s=>(c _).mpr (.inr (U q s))]
    .rw[ij Q]at hi o;let%[n,n1|z]:=W.chain (i-1) j h' M hi o;show%[n,n1|λq s=>(c _).mpr (.inr (z q s))]
  let%[n,n1|z]:=H;show%[n,by rw[N];show n1|λq s=>by rw[N];show z q s]
abbrev nb(t:nI)(h:ri):iv->iv
 | 0=>0
 | r+1=>nb t h r+(MR t.mask (aO t h r).1-(aO t h r).1) +1
def DL(t:nI)(h:ri):∀r d,d<=MR t.mask (aO t h r).1-(aO t h r).1->
 stand t h (nb t h r+d)=%[(aO t h r).1+d,MR t.mask (aO t h r).1-(aO t h r).1-d,(aO t h r).1,(aO t h r).2|hV]:=by
 let a:∀n i b,stand t h n=%[i,MR t.mask i-i,i,b|hV]->∀d,d<=MR t.mask i-i->stand t h (n+d)=%[i+d,MR t.mask i-i-d,i,b|hV]:=by
  intro n i b e d
  induction d with
  | zero=>intro _;rw[Pg,e];rfl
  | succ d c=>
    intro f;change t.advance (stand t h (n+d))=_;rw[c ⋯];unfold RO;rw[ix ⋯]
    grind
 intro r
 induction r with
 | zero=>show a 0 _ _ rfl
 | succ r c=>
   show a _ _ _ ?_;change t.advance _=_;rw[c _ (Zi _)];unfold RO;rw[ij ⋯];rfl
def yF(t:nI)(h:ri)(r d:iv)(a:d<=MR t.mask (aO t h r).1-(aO t h r).1):way t h (nb t h r+d)=(aO t h r).1+d:=by
 unfold way;rw[DL t h r d a]
abbrev fT(owner:o0 (kw iv))(j:iv):su:=(owner.getD j (hY 0)).isSome
def sQ(t:nI)(h:ri)(owner:o0 (kw iv)):∀(fuel r:iv),(∃a,r<=a/\a<r+fuel/\fT owner (aO t h a).1=hX)->(∀m,m<nb t h r->fT owner (way t h m)=hW)->
 ∃j n,N0 t.mask owner fuel (aO t h r).1 (aO t h r).2∣j/\way t h n=j/\fT owner j=hX/\∀m,m<n->fT owner (way t h m)=hW
 | 0,r,⟨a,p,s,_⟩,_=>by lia
 | fuel+1,r,⟨a,p,s,g⟩,i=>by
   rw[N0];let u:MR t.mask (aO t h r).1>=(aO t h r).1:=by unfold MR;split<;> lia
   let tk:∀k,(owner.getD ((aO t h r).1+k) (hY 0)).isNone=!fT owner ((aO t h r).1+k):=λk=>by
    unfold fT;cases owner.getD ((aO t h r).1+k) (hY 0)<;> rfl
   cases l:(q7 (MR t.mask (aO t h r).1+1-(aO t h r).1)).find? λk=>(owner.getD ((aO t h r).1+k) (hY 0)).isNone with
   | some k=>
     let%[o,b,bs,c|v]:=hH.find?_eq_some_iff_append.mp l;let d:k∈q7 (MR t.mask (aO t h r).1+1-(aO t h r).1):=by rw[c];simp
     let d:=J6.mp d;let w:b=q7 k:=by
      let y: ~~~b=k:=by
       let:(q7 (MR t.mask (aO t h r).1+1-(aO t h r).1))[~~~b]?∣k:=by rw[c];simp
       rw[Tz (by let:=(Xt this).1;simpa using this)]at this;show Za this
      let z:b=(q7 (MR t.mask (aO t h r).1+1-(aO t h r).1)).take k:=by
       rw[c,<-y];simp
      rw[z,hH.take_range,X6 ⋯]
     dsimp only;show%[_,nb t h r+k,ρ,yF t h r k ⋯,?_|λm f=>?_]
     .rw[tk]at o;simpa using o
     .by_cases q:m<nb t h r
      .show i m q
      .let:=v (m-nb t h r) (w▸J6.mpr ⋯);rw[tk]at this;rw[show m=nb t h r+(m-nb t h r) by lia,yF t h r _ ⋯];simpa using this
   | none=>
     let all:∀k,k<=MR t.mask (aO t h r).1-(aO t h r).1->fT owner ((aO t h r).1+k)=hW:=λk d=>by
      let:=(TY.mp l) k (J6.mpr ⋯);rw[tk]at this;simpa using this
     let A:r≠a:=λe=>by
      let:=all 0 (Xl _);rw[Pg,e,g]at this;cases this
     dsimp only;show sQ t h owner fuel (r+1) %[a,⋯,⋯|g] λm f=>by
      by_cases q:m<nb t h r
      .show i m q
      .let f:m<nb t h r+(MR t.mask (aO t h r).1-(aO t h r).1) +1:=f;rw[show m=nb t h r+(m-nb t h r) by lia,yF t h r _ ⋯];show all _ ⋯
structure LO (t:nI) (hs:ZL) (owner:o0 _):Prop where
 size:owner.size=t.mask+1
 own:∀j q,owner[j]?∣hY q->∃h,hs[q]?∣h/\∃n,way t h n=j/\∀m,m<n->fT owner (way t h m)=hW
 all:∀q,q< ~~~hs->∃j:iv,owner[j]?∣hY q
 one:∀(j j' q:iv),owner[j]?∣hY q->owner[j']?∣hY q->j=j'
def iq(b:j<owner.size):fT owner j=hW↔∃q,owner[j]?∣hY q:=by
 unfold fT;let e:owner.getD j (hY 0)=owner[j]:=!2
 rw[e];let a:owner[j]?∣owner[j]:=by simp
 rw[a];cases owner[j]with
 | none=>simp
 | some q=>simp
def LO.step(L:LO t f owner)(J:t.mask+1=2^k)(room: ~~~f<=t.mask)(h:ri):
 ∃j,N0 t.mask owner (Qn t.mask) (Se h%(t.mask+1)) (Se h)∣j/\LO t (f++[h]) (owner.setIfInBounds j (hY f.length)):=by
 let d:∀h n,way t h n<owner.size:=λh n=>by rw[L.size];let:=uO t h n;lia
 let ex:∃e,e<=t.mask/\fT owner e=hX:=by
  show J0 λv=>?_
  let all:∀e,e<t.mask+1->fT owner e=hW:=λe c=>by
   cases q:fT owner e with
   | true=>rfl
   | false=>show on %[e,⋯|q] v
  letI g:iv->iv:=λe=>((owner[e]?).getD hV).getD 0
  let w:∀e,e<t.mask+1->owner[e]?∣hY (g e):=λe c=>by
   let%[q|o]:=(λe c=>(iq (L.size▸c)).mp (all e c)) e c;change owner[e]?∣hY (((owner[e]?).getD hV).getD 0);rw[o];rfl
  let nd:((q7 (t.mask+1)).map g).Nodup:=by
   rw[X9,Xe];show Xn (λ{a b} M N A q=>A ?_) (X9.mp Qw);let E:=w b (J6.mp N);rw[<-q]at E;show L.one a b _ (w a (J6.mp M)) E
  let:=nodup_sub nd λy O=>by
   let%[e,c|rfl]:=Xw O;let%[h',l|_]:=L.own e _ (w e (J6.mp c));show J6.mpr (Xt l).1
  rw[Z6,Yp,Yp]at this
  lia
 let%[e,c|B]:=ex;let%[r,hr|o]:=oY J h e c;let%[j,n,Q,G,T|U]:=sQ t h owner (Qn t.mask) 0 %[r,Xl _,⋯|o▸B] (λm p=>on p (Xb _));show%[j,Q|?_];let Y:j<owner.size:=G▸d h n;let nj:∀q,owner[j]? ≠hY _:=λq e=>by
  let:=(iq Y).mpr %[q|e];rw[T]at this;cases this
 let get:∀i,(owner.setIfInBounds j (hY f.length))[i]? =if j=i then hY _ else owner[i]? :=λi=>by
  rw[o0.getElem?_setIfInBounds]
  split
  .first|rfl|simp
  .rfl
 let keep:∀i,fT owner i=hW->i<owner.size->fT (owner.setIfInBounds j _) i=hW:=λi hi H=>by
  let%[q|e]:=(iq H).mp hi;show(iq (OV▸H)).mpr ?_;rw[get]
  split
  .show%[_|ρ]
  .show%[q|e]
 show%[by rw[OV];show L.size,λi q e=>?_,λq o=>?_|λi I q e s=>?_]
 .rw[get]at e
  split at e
  .rename_i C
   cases e;show%[h,by simp,n,by rw[G,C]|λm p=>keep _ (U m p) (d h m)]
  .let%[h',l,n',e2|e3]:=L.own i q e;show%[h',(Yc (Xt l).1)▸l,n',e2|λm p=>keep _ (e3 m p) (d h' m)]
 .rw[Z9,Yq]at o;by_cases e:q= ~~~f
  .show%[j|by rw[get,ix rfl,e]]
  .let%[i|hi]:=L.all q ⋯;show%[i|?_];rw[get,ij]
   .show hi
   .intro C;rw[<-C]at hi;show nj q hi
 .let u:∀i,owner[i]?∣hY f.length->LG:=λi e=>by
   let%[h',l|_]:=L.own i _ e;let:=(Xt l).1
   lia
  rw[get]at e s
  split at e<;> split at s
  .lia
  .cases e;show on s (λz=>u I z)
  .cases s;show on e (λz=>u i z)
  .show L.one i I q e s
def wp(c:t.mask+1=2^k)(a:o0 ri)(room:a.size<=t.mask+1):∃owner,layClean t.mask a∣owner/\LO t a.toList owner:=by
 let d:∀rest done owner,LO t done owner-> ~~~(done++rest)<=t.mask+1->
  ∃b,rest.foldl (λacc h=>do
   let(owner,k)<-acc
   let j<-N0 t.mask owner (Qn t.mask) (Se h%(t.mask+1)) (Se h)
   pure (owner.setIfInBounds j (hY k),k+1)) (hY (owner,~~~done))∣(b,~~~(done++rest))/\LO t (done++rest) b:=by
  intro rest
  induction rest with
  | nil=>intro done owner L _;show%[owner,by simp|↑L]
  | cons h rest g=>
    intro done owner L i;simp only[Z9,Zr]at i;let%[j,f|l]:=L.step c ⋯ h;let%[b,e|L2]:=g _ _ l (!2);show%[b,?_|↑L2];rw[Yb];let m:(do
     let(owner,k)<-(hY (owner,~~~done))
     let j<-N0 t.mask owner (Qn t.mask) (Se h%(t.mask+1)) (Se h)
     pure (owner.setIfInBounds j (hY k),k+1))∣(owner.setIfInBounds j (hY done.length),~~~(done++[h])):=by
     change(N0 t.mask owner _ _ _).bind _=_;rw[f];simp
    rw[m,e];simp
 let n:LO t [] (Uz (t.mask+1) hV):=%[by simp,λj q e=>by
  rw[Sk]at e
  split at e<;> simp at e,λq o=>on o (Xb _)|λj p q e _=>by
  rw[Sk]at e
  split at e<;> simp at e]
 let%[owner,e|L]:=d a.toList [] _ n (room);show%[owner,?_|L];unfold layClean;rw[<-o0.foldl_toList];rw[show(0)= ~~~([]) from rfl,e];rfl
def wq(n:iv):∀fuel k,3<=k->n<2^(k+fuel)->(2^k<=2*n\/k=3)->∃a,3<=a/\T3 n fuel (2^k)=2^a/\n<2^a/\(2^a<=2*n\/a=3)
 | 0,k,b,c,d=>%[k,b,rfl,c|d]
 | fuel+1,k,b,c,d=>by
   rw[T3];by_cases h:2^k<=n
   .rw[ix h];let e:2^k*2=2^(k+1):=by rw[Pb]
    rw[e];show wq n fuel _ ⋯ ((show k+1+fuel=k+(fuel+1) by lia)▸c) (.inl ⋯)
   .rw[ij h];show%[k,b,ρ,⋯|d]
def yG(a:n<2^60):∃k,3<=k/\sizeAbove n=2^k/\n<2^k/\(2^k<=2*n\/k=3):=
 wq n 64 3 (Zi _) (Zg a (Oq (!1) ∅)) (.inr rfl)
def pc [LV c]:∀{l m:hH c},l.Nodup->m.Nodup->(∀x,x∈l↔x∈m)->l.Perm m
 |[],m,_,_,h=>by
  cases m with
  | nil=>simp
  | cons x m=>show on ((h x).mpr Zm) ∅
 | x::l,m,d,b,h=>by
   let%[f|g]:=Mw.mp d;show MQ (TC x (pc g (b.erase x) λy=>?_)) (hH.perm_cons_erase ((h x).mp Zm)).symm
   constructor
   .intro a;show(Tq (λe=>f (!2))).mpr ((h y).mp (Zk _ a))
   .intro a;rcases X2.mp ((h y).mpr (hH.mem_of_mem_erase a))with q|q
    .show on q (λe=>by rw[e]at a;show b.not_mem_erase a)
    .show q
def laid_ok{t:nI}(hp:t.mask+1=2^k)(E:7<=t.mask)(c:o0 (ri×iy))(room:c.size<=t.mask)(finger moves:iv)(led plain:su):
 ∃t' d,laid t.mask finger moves led plain (c\1)∣(t',d)/\t'.mask=t.mask/\t'.led=led/\t'.plain=plain/\t'.moves=moves/\WF t' (d.filterMap (c[·]?))/\(d.filterMap (c[·]?)).toList.Perm c.toList:=by
 let%[owner,e|L]:=wp hp (c\1) (by rw[WE];lia);let G:(c\1).toList.length=c.size:=by simp
 obtain⟨live,v⟩:∃live,(q7 (t.mask+1)).filterMap (λj=>(owner.getD j hV).map (λq=>(j,q)))=live:=%[_|rfl]
 show%[%[t.mask,(live\1).toArray,#[],finger,led,moves|plain],(live\2).toArray,by unfold laid;rw[e,<-v];rfl,ρ,ρ,ρ,ρ|?_];let gd:∀j q,owner.getD j hV∣q↔owner[j]?∣hY q:=λj q=>by
  rw[Zs];cases owner[j]? with
  | none=>simp
  | some o=>simp
 let mem:∀j q,(j,q)∈live↔owner[j]?∣hY q:=λj q=>by
  rw[<-v,Mg]
  constructor
  .rintro⟨H,ac,I⟩;let%[z,s|J]:=Ly.mp I;cases J;show(gd j q).mp s
  .intro ho;let:j<owner.size:=by
    let%[f|_]:=vr.mp ho;show f
   show%[j,J6.mpr (by rw[L.size]at this;show this)|?_];rw[(gd j q).mpr ho];rfl
 let r:(live\1).Pairwise (·<·):=by
  rw[<-v,Xe,hH.pairwise_filterMap];show R5 (λ{a b} u x hx y M=>?_) hH.pairwise_lt_range;let%[_,_|rfl]:=Ly.mp hx;let%[_,_|rfl]:=Ly.mp M;show u
 let w:∀j q,(j,q)∈live->q<c.size:=λj q h=>by
  let%[h',s|_]:=L.own j q ((mem j q).mp h);let:=(Xt s).1
  lia
 let B:(live\2).Nodup:=by
  rw[X9,Xe];show Xn (λ{a b} N E u g=>?_) (by rw[Xe]at r;show r);let f:=(mem a.1 a.2).mp N;let O:=(mem b.1 b.2).mp E;rw[<-g]at O;let:=L.one _ _ _ f O
  lia
 let C:(live\2).Perm (q7 c.size):=pc B Qw λq=>by
  constructor
  .intro g;let%[%[j|z],f|rfl]:=Xw g;show J6.mpr (w j z f)
  .intro g;let%[j|Q]:=L.all q (G▸J6.mp g);show Xx %[(j,q),(mem j q).mpr Q|rfl]
 let fm:∀(l:hH iv),(∀q∈l,q<c.size)->l.filterMap (c[·]?)=l.map (λq=>c.getD q (0,L5)):=by
  intro l
  induction l with
  | nil=>intro _;rfl
  | cons q l ih=>
    intro g;let f:=g q Zm;let s:c[q]?∣c.getD q (0,L5):=by simp[RY,f]
    rw[Y4,s,Yw,ih λy M=>g y (Zk _ M)]
 let T:((live\2).toArray.filterMap (c[·]?)).toList=(live\2).map (λq=>c.getD q (0,L5)):=by
  rw[o0.toList_filterMap,Tw];show fm _ λq g=>by
   let%[%[j|z],f|rfl]:=Xw g;show w j z f
 let er:c.toList=(q7 c.size).map (λq=>c.getD q (0,L5)):=by
  apply OI
  .simp
  .intro i f O;let f:=↑f
   simp[RY,f]
 show%[%[%[k|hp],E,ρ,?_,λj Q=>?_,?_|λi j h x hi A=>?_]|?_]
 .intro a b N U u;let:=Nz.mp r a b (N) (U) u;simpa using this
 .let%[%[H|q],f|rfl]:=Xw Q;let:=(vr.mp ((mem H q).mp f)).1;rw[L.size]at this
  lia
 .rw[<-Zb (xs:=o0.filterMap _ _),T];simp
 .let hi:(live\1)[i]?∣j:=↑hi
  let A:((live\2).toArray.filterMap (c[·]?)).toList[i]?∣(h,x):=↑A
  rw[T,Yx,Zl]at A;rw[Zl]at hi;cases Y:live[i]? with
  | none=>rw[Y]at hi;cases hi
  | some p=>
    let%[H|q]:=p;rw[Y]at hi A;cases hi;let hm:=Z8 Y;let%[h',s,n,n1|n2]:=L.own _ q ((mem _ q).mp hm);let g:=w _ q hm;let eh:h'=h:=by
     let J:(c\1).toList[q]?∣(c[q]).1:=by simp[g]
     rw[J]at s;let e3:c.getD q (0,L5)=c[q]:=by simp[RY,g]
     simp only[Function.comp,WH,e3,PV]at A;rw[A]at s;show(Za s).symm
    subst eh;let wm:∀n,way {mask:=t.mask,place:=(live\1).toArray,dummies:= #[],finger:=finger,led:=led,moves:=moves,plain:=plain} h' n=way t h' n:=λn=>sP (t':=t) (by rfl) h' n
    show%[n,by rw[wm];show n1|λm ab=>?_];rw[wm];let%[z|I]:=(iq (by rw[L.size];let:=uO t h' m;lia)).mp (n2 m ab);show Xx %[(way t h' m,z),(mem _ _).mpr I|rfl]
 .rw[T,er];show C.map _
section
variable{prog:n7}{w:xl}{K:Type}[LV K]{knd:KeyKind prog w K}{A:wy}{E:ZD}{s:kG}
abbrev EL(knd:KeyKind prog w K)(h:z4)(a:o0 (ri×iy)):Prop:=∀(i:iv) e,a[i]?∣e->∃r k,e=(Ds knd k,m4 r)/\LM knd h k r
def np(g:LM knd s.heap ks r)(h:Q hX s):↥A (RG 8 (.ref r)) Q E s:=by
 let l:=g.typeIs;let%[o,c,n,m,_,p|hi]:=g;unfold RG;show Z2 (P0 l (Z2 (Z3 (Z2 (Mz m p (Z2 ?_))))));rw[<-P6];show V3 _ (λrest r s'=>r=(hV,())/\s'=s/\∃i,ItemsAre knd i rest) _ ?_ ?_ _ _ %[rfl,rfl,ks|hi]
 .intro x rest r s' %[rfl,rfl,i|d];cases d with
  | @cons k1 v f j q b=>
    let u:=knd.byValue _ _ q;let e:RG 7 x=pure hX:=by
     cases x with
     | ref a=>simp[carriedByValue]at u
     | _=>first|rfl|lia|lia
    show Z2 ?_;rw[e];show Z3 (Z3 %[rfl,rfl,f|b])
 .intro r s' %[rfl,rfl|_];show Z3 h
def yH(d:LM knd s.heap ks r):∀(l:ZF),(∀y∈l,∃a c,y=m4 a/\LM knd s.heap c a)->∀{Q:su->kG->Prop},Q hX s->↥A (searchCouldBeSeen (.ref r) l) Q E s:=by
 intro l g Q h;show Z2 (V3 _ (λrest x s'=>x=(hV,())/\s'=s/\∀y∈rest,∃a c,y=m4 a/\LM knd s.heap c a) _ ?_ ?_ _ _ %[rfl,rfl|g])
 .intro y rest x s' %[rfl,rfl|e];let%[a,c,rfl|b]:=e y Zm;let f:=λy i=>e y (Zk _ i)
  dsimp only
  split
  .show Z3 %[rfl,rfl|f]
  .show Z2 (Um d (Z2 (Um b (Z2 (np d (Z2 (np b (Z3 %[rfl,rfl|f]))))))))
 .intro x s' %[rfl,rfl|_];show Z3 h
def uP(hu:A.units<Nx)(ho:s.heap.get? a∣o)(hd:o.data= .set u ep t)(W:WF t u)(room:t.place.size<=t.mask)(ae:t.mask<=9000)
 (el:EL knd s.heap u) (hk:LM knd s.heap k r)
 (h1:(∃(i:iv) (g:jg),u[i]?∣(Ds knd k,m4 g)/\LM knd s.heap k g)->Q (.there hV) s)
 (h2:∀m,way t (Ds knd k) m∉t.place.toList->(∀q,q<m->way t (Ds knd k) q∈t.place.toList)->(∀(i:iv) g v,u[i]?∣(Ds knd v,m4 g)->LM knd s.heap v g->v≠k)->Q (.free (way t (Ds knd k) m) hX) s):
 ↥A (setSearch a (.ref r) (Ds knd k) hW) Q E s:=by
 generalize hh:Ds knd k=h at h1 h2
 let hf:t.fits u.size=hW:=by
  unfold fits fill;rw[W.dum];simp[W.size];show W.size▸room
 let%[N,m1,m2|m3]:=yD W room h;let me:t.slot (way t h N)= .empty:=by
  rcases kz W.rise W.dum (way t h N)with⟨i,e,_⟩|⟨_,e⟩
  .show on (Pc.mpr (Ob e)) m2
  .show e
 let ag:t.gaveWay=hX:=by
  let%[c|hc]:=W.pow;let hb:=W.big;let c0:c≠0:=λq=>by rw[q]at hc;lia
  let%[c'|rfl]:=iv.exists_eq_succ_of_ne_zero c0;rw[Pb]at hc;unfold gaveWay;let:t.mask%2=1:=by lia
  simp[this]
 let O:∀(fuel n:iv) (st:kw Probe),st.getD (t.probeStart h)=stand t h n->n<=N->N<n+fuel->(∀j,j<n->∀(i:iv) g v,t.slot (way t h j)= .live i->u[i]?∣(Ds knd v,m4 g)->LM knd s.heap v g->v≠k)->
  ↥A (Nt a (.ref r) h hW fuel st) Q E s:=by
  intro fuel
  induction fuel with
  | zero=>intro n st _ a1 a2;lia
  | succ fuel ih=>
    intro n st al hn bb T;unfold Nt;show Z2 (oT ho hd hf ?_);dsimp only;rw[ag];simp only[Y2,NE];rw[al]
    generalize an:TR t _ h (stand t h n)=pr
    let l:PP t (λi=>((u[i]?)\1).getD 0) h (10*Qn t.mask) (stand t h n)=pr:=an;let%[q,q1,q2,q3|q4]:=wn (t:=t) W.dum (hashAt:=λi=>((u[i]?)\1).getD 0) (h:=h) (10*Qn t.mask) n N hn ⋯ me;rcases q4 with⟨J,e2⟩|⟨i,J,e2,e3⟩
    .rw[e2]at l;subst l;let hq:q=N:=by
      rcases QH q2 with z|z
      .show z
      .let:=m3 q z;rcases kz W.rise W.dum (way t h q)with⟨i,_,U⟩|⟨z2,_⟩
       .rw[J]at U;cases U
       .show on this z2
     subst hq;dsimp only;show Z3 (h2 q m2 m3 λi g v p B C=>?_);subst C;rw[hh]at p;let hi:i<u.size:=(vr.mp p).1;let hp:t.place[i]?∣t.place[i]'(W.size▸hi):=by simp
     let%[Y,c1|c2]:=W.chain i _ h _ hp p;let G:=sO W.rise hp;let as:Y<q:=by
      rcases Ur Y q with z|z|z
      .show z
      .rw[z,]at c1;rw[<-c1,me]at G;cases G
      .show on (c2 q z) m2
     rw[<-c1]at G;by_cases ab:Y<n
     .show T Y ab i g v G (hh▸p) B rfl
     .let%[H,U|ac]:=q3 Y ⋯ as;rw[G]at U;cases U;rw[p]at ac;show ac rfl
    .rw[e3]at l;subst l;obtain⟨x0,p⟩:∃e,u[i]?∣e:=by
      let a0:t.place[i]?∣way t h q:=by
       rcases kz W.rise W.dum (way t h q)with⟨H,p1,I⟩|⟨_,I⟩
       .rw[J]at I;cases I;show p1
       .rw[J]at I;cases I
      let:=(vr.mp a0).1;show%[u[i]'(W.size▸this)|by simp[<-W.size,this]]
     let%[g,v,rfl|B]:=el i x0 p;let bc:q<N:=iv.lt_of_le_of_ne q2 λz=>by rw[z,me]at J;cases J
     let L:↥A (do
      let f<-RK [m4 g] (eqBool (m4 g) (m4 r))
      let x<-setState a
      if(hW&&f)=hW then pure (Pr hV)
      else match x.2.snd.sameMemory t.moves t.mask with
       | some same=>
         match if same=hW then x.2.snd.slot (way t h q)else Slot.empty with
         | Slot.live H=>
           match x.fst[H]? with
           | hY (_,y')=>do
             let b<-isSame y' (m4 g)
             let d<-pure (if b=hW then hY H else hV)
             match d with
              | none=>do
                Qs "set.search.anew"
                Nt a (m4 r) h hW fuel hV
              | some H=>
                if f=hW then pure (Pr (hY H))
                else Nt a (m4 r) h hW fuel (hY (stand t h (q+1)))
           | none=>do
             let d<-pure hV
             match d with
              | none=>do
                Qs "set.search.anew"
                Nt a (m4 r) h hW fuel hV
              | some H=>
                if f=hW then pure (Pr (hY H))
                else Nt a (m4 r) h hW fuel (hY (stand t h (q+1)))
         | x=>do
           let d<-pure hV
           match d with
            | none=>do
              Qs "set.search.anew"
              Nt a (m4 r) h hW fuel hV
            | some H=>
              if f=hW then pure (Pr (hY H))
              else Nt a (m4 r) h hW fuel (hY (stand t h (q+1)))
       | x=>OH "set.changed-during-lookup:is-the-new-block-at-the-old-address") Q E s:=by
      show Z2 (zp (wpAny_eqBool_tuple hu B hk (Z2 (oT ho hd hf ?_))));dsimp only;by_cases C:v=k
      .subst C;rw[Zf rfl];show Z3 (h1 %[i,g,(by rw[p]at e2;show e2)▸p|B])
      .rw[Zh C];let sm:t.sameMemory t.moves t.mask∣hW:=by unfold sameMemory;rw[ix ∅]
       rw[sm];simp only[Pq];rw[J];dsimp only;rw[p];dsimp only;let same:isSame (m4 g) (m4 g)=pure hW:=by
        unfold isSame;simp
       show Z2 ?_;rw[same];show Z3 ?_;simp only[Pq];show Z2 (Z3 ?_);dsimp only;show ih (q+1) _ rfl ⋯ ⋯ λj hj i2 r2 k2 s2 g2 t2=>?_
       by_cases a3:j<n
       .show T j a3 i2 r2 k2 s2 g2 t2
       .by_cases a4:j=q
        .subst a4;rw[J]at s2;cases s2;rw[p]at g2;let:g=r2:=by
          let:=Za g2;injection this with _ z
          injection z
         subst this;show(B.inj t2)▸C
        .let%[i3,p1|I]:=q3 j ⋯ ⋯;rw[s2]at p1;cases p1;rw[g2]at I;intro z;rw[z]at I;show I hh
     dsimp only;rw[p];dsimp only;by_cases M:(!t.led)=hW
     .rw[ix M];show Z2 (yH hk _ (λy hy=>?_) ?_)
      .let%[e,a5|rfl]:=Xw hy;let%[i2|hi2]:=o0.getElem?_of_mem ((o0.mem_filter.mp (Pc.mp a5)).1);let%[r2,k2,rfl|a6]:=el i2 e hi2;show%[r2,k2,ρ|a6]
      .show L
     .rw[ij M];show L
 show O 100000 0 hV rfl (Xl _) (by unfold Qn at m1;lia) (λj hj=>on hj (Xb _))
end
structure IN (es:o0 _) (t:nI) (led:su):Prop where
 wf:WF t es
 roomy:t.place.size*5<t.mask*3
 small:t.mask<=7\/t.mask+1<=8*es.size
 led:t.led=led
 plain:es.size≠0->t.plain=hX
def IN.fits{a:o0 _}{t:nI}{led:su}(I:IN a t led):t.fits a.size=hW:=by
 unfold Ny fill;rw[I.wf.dum];let:=I.roomy;simp[I.wf.size];rw[<-I.wf.size]
 lia
def IN.fresh(finger moves:iv)(led:su):IN #[] (Os finger moves led) led:=
 %[%[%[3|rfl],Zi _,rfl,λa b c=>on c (by simp[Os]),λj d=>by simp[Os]at d,rfl|λi j h x hi=>by simp[Os]at hi],show 0*5<7*3 from !1,.inl (Zi _),rfl|λq=>on rfl q]
section
variable{prog:n7}{w:xl}{K:Type}[LV K]{knd:KeyKind prog w K}{A:wy}{E:ZD}{s:kG}
def relay_w(e:s.heap.get? a∣o)(f:o.data= .set c z t)(j:t.fits c.size=hW)(B:c.size<=n)(hw:n<=4000)
 (h:∀d t',d.toList.Perm c.toList->WF t' d->t'.led=t.led->t'.plain=t.plain->n<=t'.mask->t'.mask+1<=2*n\/t'.mask<=7->Q () (s>>>s.heap.update a (Ni d t'))):
 ↥A (UG a n) Q E s:=by
 let%[k,l,g,lt|le]:=yG (n:=n) ⋯;let C:8<=2^k:=Ym (by simp:8<=2^3) (Oq ∅ l);let i:2^k<=2*n\/2^k=8:=by
  rcases le with q|q
  .show .inl q
  .show .inr (by rw[q])
 let m:2^k<=8000:=by rcases i with q|q<;> lia
 letI p:nI:={t with mask:=2^k-1}
 let%[t',b,r,G,u,v,H,W|P]:=laid_ok (t:=p) (k:=k) (by change 2^k-1+1=2^k;lia) (by change 7<=2^k-1;lia) c (by change c.size<=2^k-1;lia) t.finger _ t.led t.plain;let y:t.relaid (c\1) n∣(t',b):=by
  unfold relaid;rw[g];show r
 let sz:(b.filterMap (c[·]?)).size=c.size:=by rw[<-Zb,P.length_eq,Zb]
 show Z2 (oT e f j ?_);dsimp only;rw[g,ij (by rw[PySem.sizeLine_eq];lia)];rw[y];show Z2 ?_;change vk _ A (if((b.filterMap _).size != c.size)=hW then _ else pure _) _ E s;rw[ij (by simp[sz])];show Z3 (M7 e f (h _ t' P W u v ⋯ (by rcases i with q|q<;> lia)) (by rw[sz,PySem.sizeLine_eq];lia))
def DM(e:s.heap.get? a∣o)(f:o.data= .set c j t)(g:t.fits c.size=hW)(m:c.size<=1000)(n:c.size≠0)(d:t.plain=hX)
 (h:∀b t',b.toList.Perm c.toList->IN b t' t.led->t'.plain=hX->Q () (s>>>s.heap.update a (Ni b t'))):
 ↥A (UG a (grown c.size)) Q E s:=by
 let i:grown c.size=c.size*4:=by unfold grown;rw[ij ⋯]
 rw[i];show relay_w e f g ⋯ ⋯ λb t' P W l p q m2=>?_
 let sz:b.size=c.size:=by rw[<-Zb,P.length_eq,Zb]
 show h b t' P %[W,by rw[W.size,sz];lia,⋯,l|λ_=>p▸d] (p▸d)
def Bt{led:su}(N:A.units<Nx)(p:s.heap.get? a∣o)(n:o.data= .set d ep t)(I:IN d t led)(hn:d.size+1<=1000)
 (el:EL knd s.heap d) (C:LM knd s.heap k r) (hv:∀(s':kG) (O:su->kG->Prop),LM knd s'.heap k r->O hX s'->↥A (Sn 8 (.ref r)) O E s')
 (h1:(∃(i:iv) (u:jg),d[i]?∣(Ds knd k,m4 u)/\LM knd s.heap k u)->Q hX {s with toks:=s.toks+(~~~k+1)})
 (T:(∀(i:iv) (u:jg) (G:hH K),d[i]?∣(Ds knd G,m4 u)->LM knd s.heap G u->G≠k)->∀g t' H h',h'.get? a=hY {o with data:= .set g H t'}->v0 a s.heap h'->g.toList.Perm (d.toList++[(Ds knd k,m4 r)])->IN g t' led->Q hW {s with heap:=h',toks:=s.toks+(~~~k+1)}):
 ↥A (T5 a (.ref r)) Q E s:=by
 unfold T5;show zp (Z2 (wpAny_pyHash_tuple N C ?_));unfold T4;show zp ?_;unfold setAddHashedIn;show Z2 (oT (s:={s with toks:=s.toks+(~~~k+1)}) p n I.fits ?_);dsimp only;let ns:byScan (m4 r) d=hX:=rfl;rw[ns];simp only[Y2,NE];let rm:=I.roomy;show Z2 (uP (s:={s with toks:=s.toks+(~~~k+1)}) N p n I.wf ⋯ (by rcases I.small with q|q<;> lia) el C (λq=>?_) λm U m2 Y=>?_)
 .show Z3 (h1 q)
 .dsimp only;show Z2 (oT (s:={s with toks:=s.toks+(~~~k+1)}) p n I.fits ?_);dsimp only;let v:=I.wf;let%[p1,p2,p3,p4,p5,p6|Wp]:=v.put (x:=m4 r) U m2 t.led hX;let%[_,_,_,_,_,_|Wq]:=v.put (x:=m4 r) U m2 (t.put (way t (Ds knd k) m)).1.led (t.put (way t (Ds knd k) m)).1.plain;let y:(t.put (way t (Ds knd k) m)).2<=d.size:=by
   rw[p1,<-v.size];show(kr v.rise _).1
  let e:(Mu d (t.put (way t (Ds knd k) m)).2 (Ds knd k,m4 r)).size=d.size+1:=jp _ _ _ y;let h:(Mu d (t.put (way t (Ds knd k) m)).2 (Ds knd k,m4 r)).toList.Perm (d.toList++[(Ds knd k,m4 r)]):=by
   rw[lz _ _ _ y];let q:=Xh (t.put (way t (Ds knd k) m)).2 d.toList;show MQ hH.perm_middle ?_;rw[q];show Ou (l₁:=[_])
  generalize ab:Mu d _ _=c at Wp Wq e h
  let f:∀b:nI,WF b c->b.mask=t.mask->b.place.size=t.place.size+1->b.led=led->b.plain=hX->
   ↥A (do UE a c b;if(!false&&b.tooFull)=hW then do UG a (grown (d.size+1));pure hW else pure hW) Q E {s with toks:=s.toks+(~~~k+1)}:=λb z e1 e2 e3 e4=>by
   let J:=by
    let q:=LP (Ni c b) p (by rw[QN c b n];rfl);rwa[QN c b n]at q
   let b1:=v0.update s.heap a (Ni c b);show Z2 (M7 p n ?_ (e▸Ym hn (!1)));let L:b.tooFull=hW↔b.mask*3<=b.place.size*5:=by
    unfold tooFull fill;rw[z.dum];simp
   by_cases hf:b.tooFull=hW
   .rw[ix (by simp[hf])];let B:b.fits c.size=hW:=by
     unfold Ny fill;rw[z.dum];simp[z.size];show z.size▸(by rw[e1,e2];let:=v.big;lia)
    rw[<-e];show Z2 (DM J rfl B ⋯ ⋯ e4 λj M P3 I3 _=>Z3 ?_);let g2:=by
     let q:=LP (Ni j M) J (by rfl);rwa[QN j M rfl]at q
    show T Y j M _ _ g2 (b1.trans (v0.update _ a _)) (P3.trans h) (by rw[e3]at I3;show I3)
   .rw[ij (by simp[hf])];show Z3 (T Y c b _ _ J b1 h %[z,⋯,?_,e3|λ_=>e4]);rw[e1,e];rcases I.small with q|q
    .show .inl q
    .show .inr ⋯
  by_cases l:(t.put (way t (Ds knd k) m)).1.plain=hW
  .rw[ix l];show Z2 (hv _ _ C (f _ Wp p2 p3 I.led rfl))
  .rw[ij l];show f _ Wq p2 p3 (p4.trans I.led) ↑l
end
end _ST
namespace _LL
open PySem PySem.Spec PyProof.Rows _ST
abbrev iM{a:Type}[LV a](ps:hH (jg×a))(p:jg×a):hH (jg×a):=if p.2∈ps\2 then ps else ps++[p]
abbrev bz{a:Type}[LV a](l:hH (jg×a)):hH (jg×a):=l.foldl iM []
section
variable{κ:Type}[LV κ]
def DN{ps:hH _}{p q:jg×κ}(h:q∈iM ps p):q∈ps\/q=p:=by
 unfold iM at h
 split at h
 .show .inl h
 simp_all
def Bu{ps:hH (jg×κ)}{p:jg×κ}{k:κ}:k∈(iM ps p)\2↔k∈ps\2\/k=p.2:=by
 unfold iM;by_cases h:p.2∈ps\2
 .rw[ix h];show%[.inl|λq=>q.elim id λe=>e▸h]
 .rw[ij h,Zd,Yy];simp
def yJ{ps:hH (jg×κ)}{p:jg×κ}(h:(ps\2).Nodup):((iM ps p)\2).Nodup:=by
 unfold iM
 split
 .show h
 .rename_i a
  rw[Zd];show n6 h a
def zN:∀(l ps:hH (jg×κ)),(ps\2).Nodup->((l.foldl iM ps)\2).Nodup/\(∀k,k∈(l.foldl iM ps)\2↔k∈ps\2\/k∈l\2)/\(∀q∈l.foldl iM ps,q∈ps\/q∈l)
 |[],ps,h=>%[h,λk=>by simp|λq a=> .inl a]
 | p::l,ps,h=>by
   let%[b,c|d]:=zN l _ (yJ h);rw[Yb];show%[b,λk=>?_|λq a=>?_]
   .rw[c,Bu,Yw,X2]
    grind
   .rcases d q a with z|z
    .rcases DN z with z|z
     .show .inl z
     .show .inr (z▸Zm)
    .show .inr (Zk _ z)
def eJ(l:hH (jg×κ)):((bz l)\2).Nodup:=(zN l [] Xa).1
def iN(l:hH (jg×κ))(k:κ):k∈(bz l)\2↔k∈l\2:=by
 let:=(zN l [] Xa).2.1 k;simpa [bz]using this
def bn(l:hH (jg×κ)):∀q∈bz l,q∈l:=λq a=>by
 rcases(zN l [] Xa).2.2 q a with z|z
 .cases z
 .show z
def uQ{l:hH (jg×κ)}{i:iv}{p:jg×κ}(h:l[i]?∣p):bz (l.take (i+1))=iM (bz (l.take i)) p:=by
 unfold bz;rw[Xg,h,Ue];rfl
end
section
variable{prog:n7}{w:xl}{κ:Type}[LV κ]{knd:PySem.KeyKind prog w κ}{A:wy}{E:ZD}{s:kG}{a:jg}
abbrev uR(w:xl)(knd:PySem.KeyKind prog w κ)(a:jg)(ps:hH (jg×hH κ))(h:z4):Prop:=
 ∃o b c t,h.get? a∣o/\o.ExactSet/\o.data= .set b c t/\IN b t (!aY w)/\b.toList.Perm (ps.map λp=>(Ds knd p.2,m4 p.1))
def uR.keep(S:uR w knd a ps h)(k:∀o,h.get? a∣o->h'.get? a∣o):uR w knd a ps h':=by
 let%[o,b,c,t,d|r]:=S;show%[o,b,c,t,k o d|r]
def zO(x:LM knd h k r)(q:∀o,h.get? r∣o->h'.get? r∣o):LM knd h' k r:=by
 let%[o,b,n,c|z]:=x;show%[o,b,n,q o c|z]
def DO(v:A.units<Nx)(y:uR w knd a ps s.heap)(tk:∀q∈ps,LM knd s.heap q.2 q.1)(B:LM knd s.heap p.2 p.1)(room: ~~~ps+1<=1000)
 (C:∀(s':kG) (m:su->kG->Prop),LM knd s'.heap p.2 p.1->m hX s'->↥A (Sn 8 (.ref p.1)) m E s')
 (n:∀h' b tk,v0 a s.heap h'->uR w knd a (iM ps p) h'->s.toks<=tk->Q b {s with heap:=h',toks:=tk}):↥A (T5 a (.ref p.1)) Q E s:=by
 let%[o,g,G,t,r,f,u,I|P]:=y;let hn:=by
  let:=P.length_eq;rw[Z6,Zb]at this;show this
 let mem:∀i e,g[i]?∣e->∃q∈ps,e=(Ds knd q.2,m4 q.1):=λi e h=>by
  let:=Pc.mpr (Ob h);let%[q,c|rfl]:=Xw (P.mem_iff.mp this);show%[q,c|ρ]
 let H:EL knd s.heap g:=λi e h=>by
  let%[q,c|rfl]:=mem i e h;show%[q.1,q.2,ρ|tk q c]
 show Bt v r u I ⋯ H B C (λ⟨i,J,e,L⟩=>?_) λd j t' l h' M N O T=>?_
 .let%[q,c|U]:=mem i _ e;let Y:J=q.1:=by injection U with _ z;injection z
  subst Y;show n s.heap hX _ (v0.refl a s.heap) ?_ (OQ _ _);unfold iM;rw[ix (Xx %[q,c|(L.inj (tk q c)).symm])];show%[o,g,G,t,r,f,u,I|P]
 .show n h' hW _ N ?_ (OQ _ _);unfold iM;rw[ij]
  .show%[_,j,l,t',M,f,ρ,T|O.trans ?_];rw[Zd];show P.append_right _
  .intro hm;let%[q,c|e]:=Xw hm;let:=P.mem_iff.mpr (Xx %[q,c|rfl]);let%[i|hi]:=Xm this;show d i q.1 q.2 ↑hi (tk q c) e
end
section
variable{prog:n7}{w:xl}{κ:Type}[LV κ]{knd:PySem.KeyKind prog w κ}{A:wy}{E:ZD}{s:kG}
def qU(y:A.handled=hV)(Y:A.units+16<Nx)(z:s.heap.IsList l a)(hi:a.toList=ps.map λp=>m4 p.1)(tk:∀p∈ps,LM knd s.heap p.2 p.1)(U:hH (hH κ))(hU: ~~~U<=999)(g:∀p∈ps,p.2∈U)
 (C:∀p∈ps,∀(B:wy) (s':kG) (d:su->kG->Prop) (G:ZD),LM knd s'.heap p.2 p.1->d hX s'->↥B (Sn 8 (.ref p.1)) d G s')
 (H:∀(h':z4) (tk:iv),uR w knd ⇑s (bz ps) h'->(∀b o,s.heap.get? b∣o->h'.get? b∣o)->Q (.ref ⇑s) {s with heap:=h',toks:=tk}):
 ↥A (call (.type "set") [.ref l]) Q E s:=by
 let c:a.size= ~~~ps:=by rw[<-Zb,hi,Z6]
 show m9 (T:=λi h=>uR w knd ⇑s (bz (ps.take i)) h) y z (λh e=>%[_,#[],0,_,e,%[rfl,rfl|rfl],rfl,IN.fresh 0 0 _|MC _]) (λi h h' S k=>S.keep k) (λi v s1 Q E e I r k=>?_) λh' t S k=>H h' t (by rwa[c,Zn (Zi _)]at S) k
 rw[<-NU,hi,Zl]at e;let%[p,u|rfl]:=Ly.mp e;let sub:∀q∈bz (ps.take i),q∈ps:=λq j=>X3 (bn _ q j)
 let f:=Z8 u;show DO (p:=p) (by simp only[wy.in1];lia) I (λq j=>zO (tk q (sub q j)) λo=>r _ o) (zO (tk p f) λo=>r _ o) ?_ (λs' d=>C p f _ s' d _) λJ b L M n N=>k J b L M (by rw[uQ u];show n) N
 let q:=nodup_sub (eJ (ps.take i)) (m:=U) λk O=>by
  let%[p,f|rfl]:=Xw ((iN _ k).mp O);show g p (X3 f)
 rw[Z6]at q
 lia
end
open PySem PySem.Spec PyProof.Rows
abbrev aM(x y:ku):su:=decide (x.cps.toList<y.cps.toList)
def df(x:ku):aM x x=hX:=Zh (R4 _)
def yK{x y:ku}(h:x.cps.toList=y.cps.toList):x=y:=by
 obtain⟨⟨l⟩⟩:=x
 simp_all
def dQ{x y z:ku}(a:aM x y=hW)(b:aM y z=hW):aM x z=hW:=Zf (Vu (Zo a) (Zo b))
def fG{x y:ku}(h:aM x y=hX)(a:x≠y):aM y x=hW:=
 Zf (J0 λb=>a (yK (Uv b (Rr h))))
abbrev dR(x y:ZB):su:=decide (x.map (λs=>s.cps.toList)<y.map λs=>s.cps.toList)
def sS{x y:ku}{xs ys:ZB}:dR (x::xs) (y::ys)=if x=y then dR xs ys else aM x y:=by
 by_cases e:x=y
 .subst e;rw[ix rfl];show Sd.mpr (Tl.trans %[λh=>(h.resolve_left (R4 _)).2|λh=> .inr %[rfl|h]])
 .rw[ij e];show Sd.mpr (Tl.trans %[λh=>h.resolve_right λq=>e (yK q.1)|.inl])
def Gn:∀{x y:ZB},x.map (λs=>s.cps.toList)=y.map (λs=>s.cps.toList)->x=y:=λh=>(TV λ_ _=>yK).mp h
def DP{a b:ZB}(h:dR b a=hX)(g:dR a b=hX):a=b:=Gn (Uv (Rr h) (Rr g))
abbrev zP(ks:hH ZB)(k:ZB):iv:=ks.countP λu=>dR u k
def zQ{ks:hH ZB}{x y:ZB}(b:x∈ks):dR x y=decide (zP ks x<zP ks y):=by
 show Sd.mpr %[λh=>?_|λh=>J0 λg=>?_]
 .unfold zP
  induction ks with
  | nil=>cases b
  | cons u ks d=>
    let le:∀l:hH ZB,l.countP (λu=>dR u x)<=l.countP λu=>dR u y:=λl=>PD λu _ a=>Zf (Vu (Zo a) h)
    rw[Y0,Y0];rcases X2.mp b with rfl|e
    .rw[ij (by simp[dR,R4]),ix (show dR x y=hW from Zf h)];show iv.lt_succ_of_le (le ks)
    .show iv.add_lt_add_of_lt_of_le (d e) ?_;let:=le [u];simp only[Y0,hH.countP_nil,PF]at this;show this
 .show not_lt.mpr (PD λu _ a=>Zf (J0 λc=>g (hH.lt_of_le_of_lt c (Zo a)))) h
section
variable{prog:n7}{w:xl}{A:wy}{s:kG}
def qV{a:jg}{vs:ZF}{n:iv}{kd:Tf}{Nv:iy->iv}{P:Fin->kG->Prop}{E:ZD}(B:s.heap.get? a∣Of "list" vs.toArray n)(G: ~~~vs<=100000)
 (g:∀l:z4,(∀b o,b≠a->s.heap.get? b∣o->l.get? b∣o)->2<= ~~~vs->∀Q:Tf->kG->Prop,Q kd (s>>>l)->↥A (keyKind' vs.toArray) Q E (s>>>l))
 (H:∀l:z4,(∀b o,b≠a->s.heap.get? b∣o->l.get? b∣o)->_SB.Cmp prog w A (λs'=>s'=(s>>>l)) kd (λx=>x.1∈vs) (λx=>Nv x.1))
 (h:∀out:ZF,out.Perm vs->out.Pairwise (λx y=>Nv x<=Nv y)->P (.done (.ret .none)) (s>>>P4 s.heap a vs out.toArray)):
 ↥A (oy.«list.sort» %[[.ref a]|[]]) P E s:=by
 rw[list_sort_plain];let M:a<⇑s:=Zv B;let j: ~~~vs<=lp:=Ym G (!1);show Z2 (listItems_at B rfl ?_);show Z2 (OE B rfl ?_ ↑j);obtain⟨I,u⟩:∃I,(s.heap.update a (MT λ_=> #[])).get? a∣(Of "list" #[] I):=%[_|get?_update_seq B (λ_=> #[])]
 show Z2 (UH u rfl ?_);show Z2 (Qk ?_ ↑j);show Z2 (wpAny_newList ?_);show zp ?_;let keep:∀b o,b≠a->s.heap.get? b∣o->(((s.heap.update a (MT λ_=> #[])).push (Of "tuple" vs.toArray 0)).push (Of "list" #[] 0)).get? b∣o:=λb o T e=>
  Z7 _ (Z7 _ ((LQ _ _ (Lx T)).trans e))
 let d:(((s.heap.update a (MT λ_=> #[])).push (Of "tuple" vs.toArray 0)).push (Of "list" #[] 0)).get? a∣(Of "list" #[] I):=by
  rw[Ui _ _ _ (by rw[size_push',Uw];show Zt (Yt M)),Ui _ _ _ (by rw[Uw];show Zt M)];show u
 let g:=g _ keep;let H:=H _ keep;change ↥A _ P E {s with heap:=((s.heap.update a (MT λ_=> #[])).push (Of "tuple" vs.toArray 0)).push (Of "list" #[] 0)};dsimp only;let J:vs.toArray.size= ~~~vs:=by simp
 let z:(vs.toArray.zip vs.toArray).toList=vs.map λv=>(v,v):=by
  rw[o0.toList_zip,Tw];apply OI
  .simp
  .intro i h1 m;simp
 let fin:∀c:lx,(nz c).toList.Perm (vs.map λv=>(v,v))->_SB.Srt (λx=>Nv x.1) (nz c).toList->P (.done (.ret .none)) (s>>>(P4 s.heap a vs ((nz c)\2))):=by
  intro c p C;let N:∀x∈(nz c).toList,x.1=x.2:=λx f=>by
   let%[v,_|rfl]:=Xw (p.mem_iff.mp f);rfl
  let e:(nz c)\2=((nz c).toList\2).toArray:=by
   apply o0.ext';simp
  rw[e];show h _ ?_ ?_
  .let:=p\2;rwa[Yx,show((λx:ny=>x.2) ∘ λv:iy=>(v,v))=id from rfl,Wk]at this
  .rw[Xe];show Xn (λ{x y} f U q=>by rw[<-N x f,<-N y U];show q) C
 by_cases m:vs.toArray.size<2
 .rw[ix m,ix m];show Z2 (Z3 ?_);rw[Lw.run_pure];show Z2 (Z3 ?_);dsimp only;show Z2 (UH d rfl ?_);show Z2 (OE d rfl ?_ (hsz2:=by rw[WE];change(pairsOf vs).size<=_;rw[pairsOf_size,L3];omega));simp only[VO,Y2,NE];show Z3 (fin (Ry general' (vs.toArray.zip vs.toArray) #[] 7 hV) (by change(vs.toArray.zip vs.toArray).toList.Perm _;rw[z]) ?_);change Mc _ (vs.toArray.zip vs.toArray).toList;rw[z]
  match vs,J,m with
  |[],_,_=>show M9
  |[v],_,_=>show hH.pairwise_singleton _ _
  | v1::v2::r,h3,Y=>simp at Y;omega
 .rw[ij m,ij m];show Z2 (g (by omega) _ ?_);show Z2 (LL (_SB.sc_sortRuns (D:=λx=>x.1∈vs) (st:=Ry kd (vs.toArray.zip vs.toArray) #[] 7 hV) H (λx f=>?_) ?_ rfl rfl
   (Q:=λ_ c=>(nz c).toList.Perm (vs.map λv=>(v,v))/\M3 c=hV/\_SB.Srt (λx=>Nv x.1) (nz c).toList) (λc L a2 a3=>%[?_,a3|a2]) _ rfl) ?_ λ_ _ e=>e.elim)
  .let f:x∈(vs.toArray.zip vs.toArray).toList:=f;rw[z]at f;let%[v,hv|rfl]:=Xw f;show hv
  .change 1<=(vs.toArray.zip vs.toArray).size;rw[<-Zb,z,Z6];omega
  .let L:(nz c).toList.Perm (vs.toArray.zip vs.toArray).toList:=L;rwa[z]at L
  .rintro⟨⟨⟩,c⟩ s' ⟨rfl,p,O,C⟩;dsimp only at p O C ⊢;show Z2 (UH d rfl ?_);show Z2 (OE d rfl ?_ (hsz2:=?_))
   .rw[O];simp only[VO,Y2,NE];show Z3 (fin c p C)
   .rw[WE,<-Zb,p.length_eq,Z6];show iv.le_succ_of_le j
nonrec abbrev Kp(s a:kG):Prop:=∀b o,s.heap.get? b∣o->a.heap.get? b∣o
def sT{S:jg}{G:ZF->Prop}{O:ZF->ZJ->Prop}{Q:ZD}{E:ZD}(d:∀(i:ZD) (R:ZF->kG->Prop),(∀c us,G us->Kp s c->c.gens=s.gens->c.os=s.os->R us c)->↥A.in1 (QV (.ref S)) R i s)(few:∀us,G us-> ~~~us<=1000)
 (r:∀(f:kG) (u:wy) (us:ZF) (a:jg) (P:Fin->kG->Prop) (i:ZD),G us->f.heap.get? a∣Of "list" us.toArray 0->(∀b o,s.heap.get? b∣o->f.heap.get? b∣o/\b≠a)->(∀out,O us out->P (.done (.ret .none)) (f>>>P4 f.heap a us out))->↥u (oy.«list.sort» %[[.ref a]|[]]) P i f)
 (v:∀(c s':kG) (l:jg) (us:ZF) (out:ZJ) (n:iv),G us->O us out->Kp s c->c.gens=s.gens->c.os=s.os->Kp c s'->s'.gens=c.gens->s'.os=c.os->⇑c<=l->s'.heap.get? l=hY {cls:= .type "list",data:= .seq out n}->Q (.ref l) s'):
 ↥A (call (.builtin "sorted") [.ref S]) Q E s:=by
 show Calls.call_function_entry kind_sorted plain_sorted entry_sorted (args_sorted1 _) ?_;unfold oy.«sorted»;show Z2 (m:=checkCount "sorted" 1 1 _) (Z3 ?_);show Z2 (d _ _ λc us g k1 y z=>?_);show Z2 (wpAny_newList ?_ (by let:=few us g;rw[L3];lia));let j:(c.heap.push (Of "list" us.toArray 0)).get? ⇑c∣Of "list" us.toArray 0:=Zj _ rfl;show Z2 (zp (LX slot_list_sort %[_,j|rfl] entry_list_sort (r (c>>>c.heap.push (Of "list" us.toArray 0)) _ us _ _ _ g j (λb o e=>%[Z7 _ (k1 b o e)|Zt (Zv (k1 b o e))]) λout q=>%[_,rfl|?_]) (args_list_sort _)));obtain⟨n,B⟩:∃n,(P4 (c.heap.push (Of "list" us.toArray 0)) ⇑c us out).get? ⇑c∣Of "list" out n:=sortedHeap_at j;show Z3 %[_,rfl|v c _ ⇑c us out n g q k1 y z (λb C p=>?_) rfl rfl (Zi _) B];let h:=Zv p;change(P4 _ _ _ _).get? b=_;rw[sortedHeap_old (Zt h) (by rw[Zq];show Yt h)];show Z7 _ p
def wt{G:ZF->Prop}{kd:Tf}{ky:iy->ZB}(few:∀us,G us-> ~~~us<=1000)
 (j:∀us (c:kG) (d:wy) (l:ZD) (Q:Tf->kG->Prop),G us->2<= ~~~us->Kp s c->Q kd c->↥d (keyKind' us.toArray) Q l c)
 (u:∀us x y (c:kG) (d:wy) (Q:su->kG->Prop),G us->x∈us->y∈us->Kp s c->Q (dR (ky x) (ky y)) c->↥d (keyLt' kd x y) Q (λ_ _=>LG) c)
 (f:kG) (d:wy) (us:ZF) (a:jg) (P:Fin->kG->Prop) (l:ZD) (g:G us) (z:f.heap.get? a∣Of "list" us.toArray 0) (i:∀b o,s.heap.get? b∣o->f.heap.get? b∣o/\b≠a) (h:∀out:ZJ,out.toList.Perm us/\out.toList.Pairwise (λx y=>dR (ky y) (ky x)=hX)->P (.done (.ret .none)) (f>>>P4 f.heap a us out)):↥d (oy.«list.sort» %[[.ref a]|[]]) P l f:=
 qV (Nv:=λv=>zP (us.map ky) (ky v)) z (by let:=few us g;lia) (λB m C E H=>j us _ _ _ E g C (λb o e=>m b o (i b o e).2 (i b o e).1) H) (λB m x y s' n r e=>by
  subst e;show u us _ _ _ _ _ g n r (λb o e=>m b o (i b o e).2 (i b o e).1) %[zQ (Xx %[_,n|rfl])|rfl]) λout p q=>h out.toArray %[p|Xn (λ{x y} n r q=>(zQ (Xx %[_,p.mem_iff.mp r|rfl])).trans (Zh (not_lt.mpr q))) q]
variable{E:ZD}
nonrec abbrev DQ(prog:n7)(w:xl)(h:z4)(zs:ZB)(r:jg):Prop:=LM (aU prog w) h (zs.map kj) r
def ir:∀{zs:ZB} {vs:ZF},ItemsAre (aU prog w) (zs.map kj) vs->Me vs zs
 |[],_,h=>by cases h;show .nil
 | z::zs,_,h=>by
   cases h with
   | cons a d=>
     let a:jX (kj z) _=hW:=a;rcases a9 a with⟨i,t,b,c⟩|⟨y,t,b,c⟩
     .cases b
     .cases b;subst c;show .cons z t (ir d)
def Hs{b:su}{Q:su->kG->Prop}:∀(x y:ZB) (vs us:ZF) (i:iv),Me vs x->Me us y-> ~~~x= ~~~y->Q (dR x y) s->PySem.W.KatLex prog w A b hX Q (vs.zip us) i s
 |[],[],_,_,i,.nil,.nil,_,h=>h
 | x::xs,y::ys,_,_,i,.cons _ t a,.cons _ u c,d,h=>by
   rw[sS]at h;show PySem.W.kat_cons (eqBool_str (PySem.W.kat_go (λe=>?_) λe=>PySem.W.kat_no ?_))
   .rw[ix (MK.mp e)]at h;show PySem.W.kat_yes (Hs xs ys _ _ (i+1) a c (iv.succ.inj d) h)
   .rw[ij (LF.mp e)]at h;cases b&&i==0 with
    | true=>show oneLt_str h
    | false=>show PySem.W.kat_one _ _ (lt_str h)
def Go{x y:ZB}{r q:jg}{Q:su->kG->Prop}{b:su}(d:DQ prog w s.heap x r)(e:DQ prog w s.heap y q)(f: ~~~x= ~~~y)(h:Q (dR x y) s):↥A (keyLt' (tuples' b) (.ref r) (.ref q)) Q E s:=by
 let%[ox,xs,nx,g,_,i|j]:=d;let%[o,ys,p,l,_,m|n]:=e;let a:=ir j;let c:=ir n;show PySem.W.kat_lt g i l m ?_;rw[show decide (xs.size<ys.size)=hX from Zh (by rw[<-Zb,<-Zb,bE a,bE c];lia)];show Hs x y _ _ 0 a c f h
end
def wu [LV d][LV i](g:d->i)(j:∀a b,g a=g b->a=b)(l:hH (jg×d)):bz (l.map λp=>(p.1,g p.2))=(bz l).map λp=>(p.1,g p.2):=by
 let m:∀(l ps:hH _),(l.map λp=>(p.1,g p.2)).foldl iM (ps.map λp=>(p.1,g p.2))=(l.foldl iM ps).map λp=>(p.1,g p.2):=by
  intro l
  induction l with
  | nil=>intro ps;rfl
  | cons p l n=>
    intro ps;rw[Yw,Yb,Yb];let e:iM (ps.map λp=>(p.1,g p.2)) (p.1,g p.2)=(iM ps p).map λp=>(p.1,g p.2):=by
     unfold iM;let f:(g p.2∈(ps.map λp=>(p.1,g p.2))\2)↔p.2∈ps\2:=by
      rw[Yx]
      constructor
      .intro h;let%[q,c|e]:=Xw h;show Xx %[q,c|j _ _ e]
      .intro h;let%[q,c|e]:=Xw h;show Xx %[q,c|by change g q.2=g p.2;rw[e]]
     by_cases h:p.2∈ps\2
     .rw[ix h,ix (f.mpr h)]
     .rw[ij h,ij (λz=>h (f.mp z)),Zd];rfl
    rw[e];show n _
 show m l []
noncomputable abbrev KW(p:jg×ZB):jg×hH Key:=(p.1,p.2.map kj)
def n9:∀a b:ZB,a.map (kj:ku->Key)=b.map kj->a=b
 |[],[],_=>rfl
 |[],_::_,h=>by cases h
 | _::_,[],h=>by cases h
 | x::xs,y::ys,h=>by
   injection h with c d
   injection c with e
   rw[e,n9 xs ys d]
section
#where
variable{S:jg}
def pd:∀{vs:ZF} {zs:ZB},Me vs zs->ItemsAre (aU prog w) (zs.map kj) vs
 | _,_,.nil=> .nil
 | _,_,.cons x t h=> .cons (ee x t) (pd h)
def Gp(c:zs≠[])(b:DQ prog w s.heap zs r)(h:Q hX s):↥A (Sn 8 (.ref r)) Q E s:=by
 let d:=b.typeIs;let%[o,a,n,e,_,f|hi]:=b;show Z2 (OL d F.slot_tuple_hash.lookup (Z2 (Mz e f (Z2 ?_))));rw[<-P6]
 match zs,a.toList,(ir hi),c with
 | z::zs,_,.cons _ t g,_=>
   show Z2 (Z2 (Z3 (Z3 (Z3 (Z3 h)))))
def DR{j m:Type}{f:j->m}{x y:hH m}(h:x.Perm y):∀ps,y=ps.map f->∃ss:hH j,ss.Perm ps/\x=ss.map f:=by
 induction h with
 | nil=>show λps e=>%[[],!2|rfl]
 | cons a _ n=>
   intro ps e;cases ps with
   | nil=>cases e
   | cons p ps=>
     rw[Yw,MP]at e;let%[ss,c|d]:=n ps e.2;show%[p::ss,c.cons p|by rw[e.1,d];rfl]
 | swap a b l=>
   intro ps e
   match ps,e with
   | p::q::ps,e=>
     rw[Yw,Yw,MP,MP]at e;show%[q::p::ps,.swap p q ps|!2]
 | trans _ _ g i=>
   intro ps e;let%[ss,c|d]:=i ps e;let%[ts,o|r]:=g ss d;show%[ts,o.trans c|r]
abbrev kOf(ps:ZG):iy->ZB
 | .ref r=>((ps.find? λq=>q.1==r)\2).getD []
 | _=>[]
def kA(z:∀(U:ZD) (R:ZF->kG->Prop),(∀c vs,vs.Perm (ps.map λp=>m4 p.1)->(∀b o,s.heap.get? b∣o->c.heap.get? b∣o)->c.gens=s.gens->c.os=s.os->R vs c)->↥A.in1 (QV (.ref S)) R U s)(tk:∀p∈ps,DQ prog w s.heap p.2 p.1)(G:∀p∈ps,~~~p.2=m)(m0:m≠0)(few: ~~~ps<=1000)
 (hQ:∀(c s':kG) (l:jg) (ss:ZG) (n:iv),ss.Perm ps->ss.Pairwise (λa b=>dR b.2 a.2=hX)->(∀b o,s.heap.get? b∣o->c.heap.get? b∣o)->c.gens=s.gens->c.os=s.os->(∀b o,c.heap.get? b∣o->s'.heap.get? b∣o)->s'.gens=c.gens->s'.os=c.os->⇑c<=l->s'.heap.get? l=hY {cls:= .type "list",data:= .seq (ss.map λp=>m4 p.1).toArray n}->Q (.ref l) s'):
 ↥A (call (.builtin "sorted") [.ref S]) Q E s:=by
 let Y:∀us:ZF,us.Perm (ps.map λp=>m4 p.1)-> ~~~us<=1000:=λus h=>by rw[h.length_eq,Z6];show few
 let d:∀p∈ps,kOf ps (.ref p.1)=p.2:=λp i=>by
  change((ps.find? λq=>q.1==p.1)\2).getD []=p.2;cases j:ps.find? λq=>q.1==p.1 with
  | none=>simpa using TY.mp j p i
  | some q=>
    let t1:=tk q (hH.mem_of_find?_eq_some j);let e:=hH.find?_some j;rw[show q.1=p.1 from MK.mp e]at t1;show n9 _ _ (t1.inj (tk p i))
 show sT (O:=λus out=>out.toList.Perm us/\out.toList.Pairwise λx y=>dR (kOf ps y) (kOf ps x)=hX) z Y (wt (kd:=tuples' hW) Y (λus s3 A1 U Q g h2 k q=>?_) λus x y s3 A1 Q g hx hy k q=>?_) λc s' l us out n g o k1 a1 a2 k2 a3 a4 hl gl=>?_
 .let tups:∀l:ZF,(∀v∈l,v∈ps.map λp=>m4 p.1)->∃fs:ZF,KatTups s3.heap l fs/\ ~~~fs= ~~~l/\∀f∈fs,OM f=pure (.type "str"):=by
   intro l
   induction l with
   | nil=>show λ_=>%[[],KatTups.nil,rfl|λf j=>nomatch j]
   | cons v l ih=>
     intro C;let%[fs,H,f2|I]:=ih λu B=>C u (Zk _ B)
     let%[p,i|rfl]:=Xw (C v Zm);let%[o,its,n,J,c',L|i']:=tk p i;obtain⟨f,r,e,ft⟩:∃f r,its.toList=f::r/\OM f=pure (.type "str"):=by
      let h:=ir i';cases e:its.toList with
      | nil=>
        rw[e]at h;show on ((G p i).symm.trans (bE h).symm) m0
      | cons f r=>
        rw[e]at h
        generalize p.2=zs at h
        cases h;show%[_,_,ρ|ρ]
     show%[f::fs,KatTups.cons (k _ _ J) c' L (by rw[<-NU,e];rfl) H,vj iv.succ f2|λu B=>?_];rcases X2.mp B with rfl|B
     .show ft
     .show I u B
  let%[fs,H,f2|I]:=tups us λv C=>g.mem_iff.mp C
  show PySem.W.kat_kind (T:= .type "str") H ⋯ (λf j=>QJ.of_pure (I f j)) (!1) q
 .let%[p,i|rfl]:=Xw (g.mem_iff.mp hx);let%[r,M|rfl]:=Xw (g.mem_iff.mp hy);rw[d p i,d r M]at q;let%[o,its,n,J|L]:=tk p i;let%[o2,its2,n2,g3|d3]:=tk r M;show Go %[o,its,n,k _ _ J|L] %[o2,its2,n2,k _ _ g3|d3] ((G p i).trans (G r M).symm) q
 .let%[ss,N|e]:=DR (o.1.trans g) ps rfl;show hQ c s' l ss n N ?_ k1 a1 a2 k2 a3 a4 hl (by rw[<-e];show gl);let:=o.2;rw[e,Xe]at this;show Xn (λ{a b} ha hb q=>by rwa[d _ (N.mem_iff.mp ha),d _ (N.mem_iff.mp hb)]at q) this
end
section
variable{X:Cx}{K:ZA}
abbrev pf(P:n7)(w:xl)(a:jg)(ps:ZG):HO:= .ext (uR w (aU P w) a (ps.map KW))
abbrev aB(H:Hp)(ps:ZG):Prop:=∀p∈ps,p.2≠[]/\H p.1&&&p.2\3
def oa(I:Qc X gx f H s)(h:aB H ps):∀p∈ps,DQ X.prog X.w s.heap p.2 p.1:=λp a=>by
 let%[_,its,b,o,c,d,n|e]:=I.hok p.1 _ (h p a).2;show%[o,its.toArray,n,c,d,e|pd (iH b)]
def uS:∀{ps:ZG} {us:ZF},aK (ps\0) us->us=ps.map λp=>m4 p.1
 |[],_,.nil=>rfl
 | _::_,_,.cons r t=>by
   cases r;rw[uS t];rfl
def og:∀(ps:ZG),aK (ps\0) (ps.map λp=>m4 p.1)
 |[]=> .nil
 | _::ps=> .cons rfl (og ps)
def Bv(v:X.calm=hW)(L:X.A.units+64<Nx):cE X (.type "set") (λxs H Q=>oneA xs λj=>asR j λp=>∃ps,Qb X.K H p (ps\0)/\aB H ps/\(∃U:hH _,~~~U<=999/\∀q∈ps,q.2∈U)/\∀l,H l=hV->Q (.ref l) (Qa H l (pf X.prog X.w l (bz ps)))):=by
 intro gx s M H xs us Q I r h;let%[j,rfl|d]:=bM h;let%[p,rfl|e]:=aN d;let%[ps,w,m,%[U,N|f]|q]:=e;let%[u,rfl|y]:=dw r;cases y;let%[its,A,pl|O]:=I.list w;let C:=uS A;show qU (knd:=aU X.prog X.w) (I.ok.hd v) ⋯ pl.isList (ps:=ps.map KW) (!2) (λn a=>?_) (U.map λz=>z.map kj) (!2) (λn a=>?_) (λn a B s' T Y g i=>?_) λh' E S k=>?_
 .let%[b,c|rfl]:=Xw a;show(oa I m) b c
 .let%[b,c|rfl]:=Xw a;show Xx %[b.2,f b c|rfl]
 .let%[b,c|rfl]:=Xw a;show Gp (m b c).1 g i
 .rw[(wu _ n9 ps)]at S;show%[.ref ⇑s,_,I.laid (o:=pf X.prog X.w ⇑s _) k (Zi _) %[S,?_|λh1 h2 G k1=>uR.keep G k1],ρ|q _ I.fresh];let%[o,_,_,_,J|_]:=S;show%[o|J]
def uT(z:X.calm=hW):cE X (.builtin "sorted") (λxs H Q=>oneA xs λv=>asR v λa=>∃ps,H a∣pf X.prog X.w a ps/\aB H ps/\∃m,(∀p∈ps,~~~p.2=m)/\m≠0/\ ~~~ps<=1000/\∀l (ss:hH _),H l=hV->ss.Perm ps->Q (.ref l) (Qa H l (.lst (ss\0)))):=by
 intro gx s U H xs us Q I r h;let%[v,rfl|c]:=bM h;let%[a,rfl|d]:=aN c;let%[ps,A,B,m,C,E,few|q]:=d;let%[u,rfl|G]:=dw r;cases G;let%[%[o,e,Y,t,L,f,M,J|P],_|_]:=(I.hok a _ A)
 let hn:e.size= ~~~ps:=by
  let:=P.length_eq
  simp_all
 let pv:(e.toList\2).Perm (ps.map λp=>m4 p.1):=by
  let:=P\2;rw[Yx,Yx]at this;show this
 show kA (λE1 R N=>kX (I.ok.hd z) L f M (by change e.size<4096;lia) J.fits J.plain J.led λw vs O k1 i j _=>N w vs (O.trans pv) k1 i j) (oa I B) C E few λw s' l ss n y _ k1 i j k g o b T=>?_
 let I:=I.keptS k1 i j;show%[.ref l,_,I.stoodS (o:= .lst _) (I.keptS k g o) b %[?_,ss.map _,n,og ss|T],ρ|q l ss (I.hok.fresh b) y];rw[Z6,y.length_eq,L3]
 lia
def DS{P:n7}(h:X.K=K)(d:X.prog=P)(hw:X.w=w)(a:X.calm=hW)(b:bH k X.A):b8 X (.type "set") (λxs H Q=>oneA xs λc=>asR c λp=>∃ps,Qb K H p (ps\0)/\aB H ps/\(∃U:hH ZB,~~~U<=999/\∀q∈ps,q.2∈U)/\∀l,H l=hV->Q (.ref l) (Qa H l (pf P w l (bz ps)))):=by
 subst h;subst hw;show⟨Bv a b.units⟩
def sU{P:n7}(d:X.prog=P)(hw:X.w=w)(b:X.calm=hW):b8 X (.builtin "sorted") (λxs H Q=>oneA xs λc=>asR c λa=>∃ps,H a∣pf P w a ps/\aB H ps/\∃m,(∀p∈ps,~~~p.2=m)/\m≠0/\ ~~~ps<=1000/\∀(l:jg) (ss:ZG),H l=hV->ss.Perm ps->Q (.ref l) (Qa H l (.lst (ss\0)))):=by
 subst hw;show⟨uT b⟩
end
abbrev Bw(K:ZA)(a b:jg):It:=⟨λi H=>∃xs ys x y,Qb K H a xs/\Qb K H b ys/\xs[i]?∣x/\ys[i]?∣y,
 λi H v c=>∃T x y,H T=hV/\v= .ref T/\c=Qa H T (.tup [x,y])/\(∀xs,Qb K H a xs->xs[i]?∣x)/\(∀ys,Qb K H b ys->ys[i]?∣y),
 λi H=>∃xs ys,Qb K H a xs/\Qb K H b ys/\i<= ~~~xs/\i<= ~~~ys/\(i= ~~~xs\/i= ~~~ys)⟩
def Bx{P:n7}{K:ZA}(z TI TO i1 i2 l1 l2:jg)(D:ZipApart z TI TO i1 i2 l1 l2):
 qO P w K (.Tuple elts kt tp) (Bw K l1 l2) [z,TI,TO,i1,i2] z (ZSt z TI TO i1 i2 (λi h=>h.IsListIter i1 l1 i) (λi h=>h.IsListIter i2 l2 i)) where
 mem:=by simp
 obj:=λi h st b hb=>by
  let%[hz,hTI,%[a,c|hTO],%[o1,e1,_|d1],o2,e2,_|d2]:=st
  grind
 keep:=λi h h' st k=>by
  let%[hz,hTI,%[a,c|hTO],%[o1,e1|r1],o2,e2|r2]:=st;show%[k z ∅ _ hz,k TI ∅ _ hTI,%[a,c|k TO ∅ _ hTO],%[o1,k i1 ∅ _ e1|r1],o2,k i2 ∅ _ e2|r2]
 item:=by
  intro X hP hw hK hc i gx s σ H E I hf st hg;subst hP hw hK;let%[hz,hTI,%[a,c|hTO],h1|h2]:=st;let%[xs,ys,x,y,hq1,hq2,hx|hy]:=hg;let%[its1,rv1,pl1|hz1]:=I.list hq1;let%[its2,rv2,pl2|hz2]:=I.list hq2;let%[u1,hu1|ru1]:=rv1.get hx;let%[u2,hu2|ru2]:=rv2.get hy;show wpAny_pyNext_zip_item D hz hTI hTO h1 h2 pl1.isList pl2.isList (x:=u1) (y:=u2) ↑hu1 ↑hu2 λh' a1 a2 a3 a4 a5 a6 hk=>%[_,rfl|To (s:=(s>>>h')) a1 λh'' hz'' sb=>?_]
  replace sb:v0 z h' h'':=sb;let kk:∀b o,b∉[z,TI,TO,i1,i2]->s.heap.get? b∣o->h''.get? b∣o:=λb o hb e=>by
   simp only[X2,Xc,Mb,Og]at hb;show(sb.2 b hb.1).trans (hk b o hb.1 hb.2.2.1 hb.2.2.2.1 hb.2.2.2.2 e)
  let turn1:Qc X gx σ H (s>>>h''):=I.moved hf kk;let Hn:H ⇑s=hV:=I.fresh;let I2:Qc X gx σ (Qa H ⇑s (.tup [x,y])) (s>>>h''):=
   I.stood turn1 (Zi _) %[by change 2<=lp;decide,[u1,u2],.cons ru1 (.cons ru2 .nil),_,((sb.2 _ (X7 (Zv hz))).trans a5),rfl,_|rfl]
  show%[.ref ⇑s,_,I2,ρ,%[_,x,y,Hn,ρ,ρ,λzs hzs=>(I.list_inj hzs hq1)▸hx|λzs hzs=>(I.list_inj hzs hq2)▸hy],%[hz'',(sb.2 _ D.TIz).trans (hk _ _ D.TIz D.TITO D.TIi1 D.TIi2 hTI),%[_,_|(sb.2 _ D.TOz).trans a2],?_|?_]|λb hb=>?_]
  .let%[o,e|r]:=a3;show%[o,(sb.2 _ D.i1z).trans e|r]
  .let%[o,e|r]:=a4;show%[o,(sb.2 _ D.i2z).trans e|r]
  .let:b<⇑s:=by
    simp only[X2,Xc,Mb]at hb;let%[o1,q1|_]:=h1;let%[o2,q2|_]:=h2;rcases hb with rfl|rfl|rfl|rfl|rfl
    .show Zv hz
    .show Zv hTI
    .show Zv hTO
    .show Zv q1
    .show Zv q2
   rw[ap (Zt this)];show(hf b hb).1
 done:=by
  intro X hP hw hK hc i gx s σ H E I hf st hg;subst hP hw hK;let%[hz,hTI,%[a,c|hTO],h1|h2]:=st;let%[xs,ys,hq1,hq2,g1,g2|g3]:=hg;let%[its1,rv1,pl1|hz1]:=I.list hq1;let%[its2,rv2,pl2|hz2]:=I.list hq2;let n1:= ~~~rv1;let n2:= ~~~rv2;show wpAny_pyNext_zip_end (I.ok.hd hc) D hz hTI hTO h1 h2 pl1.isList pl2.isList (by
   rcases g3 with q|q
   .show .inl (by simp;lia)
   .show .inr (by simp;lia)) λh' hk=>%[rfl|?_]
  let kk:∀b o,b∉[z,TI,TO,i1,i2]->s.heap.get? b∣o->h'.get? b∣o:=λb o hb e=>by
   simp only[X2,Xc,Mb,Og]at hb;show hk b o hb.1 hb.2.2.1 hb.2.2.2.1 hb.2.2.2.2 e
  show I.moved hf kk
 self:=λ_ _ _ _ _ st h=>PH st.1 h
abbrev Ht(K:ZA)(d:TA):TI:=λe H R=>d e H λvs c=>mw vs λf x2=>asR f λa=>asR x2 λb=>(∃xs,Qb K c a xs)/\(∃ys,Qb K c b ys)/\R (Bw K a b) c
section
variable{X:Cx}{K:ZA}{pos:Pos}
def Hu(L:X.K=K){M p:Pos}{a b:G2}{B:TA}(N:Gl X "zip")(O:X.mg "zip"=hV)(Q:aT a=hX)(r:aT b=hX)(T:QA X [a,b] B):
 QI X (.Tuple C kt M) (.Call (.Name "zip" p) [a,b] [] pos) (Ht K B):=by
 subst L
 constructor
 intro gx s U H R I h;show Call_ (jf I N O boot_zip (LY (thP (T.h pos gx s U H _ I h) λus c vs Y g r1 q1=>?_) (aA Q) (by rw[aA r];rfl)));let%[x1,x2,rfl|d]:=je q1;let%[u,rfl|f]:=aN d;let%[v,rfl|w]:=aN f;let%[%[xs|d],%[ys|f]|q]:=w;let%[u1,u2,rfl,e1|e2]:=kP r1;cases e1;cases e2;let%[E,ab,l|ac]:=g.list d;let%[its2,ae,m|ag]:=g.list f;show call_zip_2 l.isList m.isList λh1 G y z hi1 hi2 _ hk=>PH G ?_
 let ne:∀i j,i≠j->⇑c+i≠⇑c+j:=λi j h e=>h (Qf e)
 let na:∀i,u≠⇑c+i:=λi=>Zt (Zg (by let%[o,A|_]:=l.isList;show Zv A) (OQ _ _))
 let nb:∀i,v≠⇑c+i:=λi=>Zt (Zg (by let%[o,A|_]:=m.isList;show Zv A) (OQ _ _))
 show%[⇑c+4,[⇑c+4,⇑c+2,⇑c+3,⇑c+0,⇑c+1],_,Bw X.K u v,Y,ρ,(g.kept hk),
  Bx _ _ _ _ _ u v %[ne 2 4 (!1),ne 3 4 (!1),ne 0 4 (!1),ne 1 4 (!1),ne 2 3 (!1),ne 2 0 (!1),ne 2 1 (!1),ne 3 0 (!1),ne 3 1 (!1),ne 0 1 (!1),na 4,na 3,na 0,na 1,nb 4,nb 3,nb 0|nb 1],
  %[G,y,%[_,_|z],hi1|hi2],λb J=>?_|q]
 let n:⇑c<=b:=by
  simp only[X2,Xc,Mb]at J;rcases J with rfl|rfl|rfl|rfl|rfl<;> show OQ _ _
 show g.fpOk n (g.hok.fresh n)
end
open PySem PySem.Spec PySem.Calls PyProof.Rows PyProof.V PySem.W
abbrev Raw(h:z4)(d:jg)(a:o0 Sj)(b:iv):Prop:=∃o,h.get? d∣o/\o.ExactDict/\o.data= .dict a b
section
#where
variable{d it:jg}{es:o0 Sj}{ep i:iv}
def Raw.ty(h:Raw s.heap d es ep):s.TypeIs (.ref d) "dict":=%[h.choose,h.choose_spec.1|h.choose_spec.2.1.1]
def Raw.lt(r:Raw h d es ep):d<h.objs.size:=Zv r.choose_spec.1
def Raw.up(r:Raw h d es ep)(e:∀o,h.get? d∣o->h'.get? d∣o):Raw h' d es ep:=%[r.choose,e _ r.choose_spec.1|r.choose_spec.2]
def DT(lo:(d==MY)=hX)(r:Raw s.heap d es ep)
 (h:Q (.ref ⇑s) {s with heap:=s.heap.push {cls:= .type "dict_keyiterator",data:= .fields #[.ref d,.int 0 0,.int es.size 0,.int ep 0]}}):↥A (T7 (.ref d)) Q E s:=by
 let ty:=r.ty;let%[o,g,_|a]:=r;show RA ty Vw (LX Vw ty F.entry_dict_iter (Z2 (Z2 (wpAny_notOrdered_dict ty (Z3 ?_)))) (F.args_dict_iter_1 _));change vk _ _ (Rx d>>= _) _ _ s;unfold Rx;rw[ij (lo▸Zu)];show Z2 (Z3 (Z2 (RC g a (Z2 (Sx g a (Z2 (L1 (Z3 %[_,rfl,"dict_keyiterator",_,%[_,Zj _ rfl|rfl],MD.lookup|?_]))))))));simpa [LU]using h
def DU(k:s.heap.IsKeyIter it d i es.size ep)(r:Raw s.heap d es ep)(hi:i<es.size)
 (h:∀h',h'.IsKeyIter it d (i+1) es.size ep->v0 it s.heap h'->Q (hY es[i].key) (s>>>h')):↥A (Pa (.ref it)) Q E s:=by
 let%[o,b,f|a]:=id k;let%[od,c,_|e]:=r;unfold Pa;show Z2 (MU (MF (name:=!"__next__") k.typeIs MD (LX MD k.typeIs R6 ?_ (RU _))));show Z2 (Z3 (Z2 (Z2 (Z2 (Nj k.typeIs (Z3 (Z2 (Qm b a ?_))))))));rw[show Ps "dict_keyiterator"=hX by decide];change vk _ _ (if(m4 d==L5)=hW then _ else _) _ _ s;rw[ij (by show Zu)];show Z2 (Z3 (Z2 (RC c e ?_)));rw[ij ∅];show Z2 (Z3 (Z2 (Sx c e ?_)));rw[ij ∅];show Z3 ?_;simp only[NE,No,Mh hi];show Z2 (Z2 (Nj k.typeIs (Z3 (Z2 (Ul k.typeIs ?_)))));change vk _ _ (O8 (.ref it) 1 (LU ((i:ri) +1))>>= _) _ _ s;show Z2 (O3 b a ∅ ?_);let k2:(s.heap.update it (Oo (·.setIfInBounds 1 (LU ((i:ri) +1))))).IsKeyIter it d (i+1) es.size ep:=
  %[_,LP _ b (Od (NM a _)),(Q9 ..).trans f|by rw[NM a];simp[LU]]
 show Z2 (zp (Z2 (Ul k2.typeIs (Z3 (Z3 %[_,rfl|Z3 (h _ k2 (v0.update ..))])))))
def Gq(j:A.handled=hV)(k:s.heap.IsKeyIter it d i es.size ep)(r:Raw s.heap d es ep)(hi:es.size<=i)
 (h:∀h',ExtBut it s.heap h'->Q hV (s>>>h')):↥A (Pa (.ref it)) Q E s:=by
 let%[o,c,l|e]:=id k;let%[od,f,_|g]:=r;unfold Pa;show Z2 (MU (MF (name:=!"__next__") k.typeIs MD (LX MD k.typeIs R6 ?_ (RU _))));show Z2 (Z3 (Z2 (Z2 ?_)));show Z2 (Nj k.typeIs (Z3 (Z2 (Qm c e ?_))));rw[show Ps "dict_keyiterator"=hX by decide];change vk _ _ (if(m4 d==L5)=hW then _ else _) _ _ s;rw[ij (by show Zu)];show Z2 (Z3 (Z2 (RC f g ?_)));rw[ij ∅];show Z2 (Z3 (Z2 (Sx f g ?_)));rw[ij ∅];show Z3 ?_;simp only[show ¬ ((i:ri)<0)from by lia,NE,No,NR hi];show Z2 (Z2 (Nj k.typeIs (Z3 ?_)));change vk _ _ (O8 (.ref it) 0 .none>>= _) _ _ s;show Z2 (O3 c e ∅ (Z2 ?_));simp only[newExc,newTuple];show Z2 (m:=firstArgMember _ _) (UC (a:=L5) (by first|rfl|(simp only[firstArgMember];rfl)) (L1 ?_ (by size_fits)));simp only[UI];show Z2 (wpAny_handled ?_);rw[show A.in1.handled=hV from j];show Z2 (Z3 (wpAny_throw ?_));show Z2 (Ng (T:="StopIteration") (b:=hW) %[_,Zj _ rfl|rfl] S7 ?_);show Z3 (h _ (((v0.update ..).extBut.push _).push _))
def Gr(lo:(d==MY)=hX):KdlSrc prog w "dict" d d es.size (λi v=>∃h:i<es.size,v=es[i].key) (λh=>Raw h d es ep) where
 type:=λ_ r=>r.ty
 there:=λ_ r=>%[r.lt|r.lt]
 keep:=λ_ _ r hk=>r.up λo e=>hk d (.inl rfl) o e
 notList:=!1
 notTuple:=!1
 hint:=λ_ _ _ _ r hq=>kdl_hint_dict r.ty hq
 iter:=λA s hh r=>%[_,λi h=>h.IsKeyIter ⇑s d i es.size ep/\Raw h d es ep,(λ_ _ hq=>DT lo r hq),{
  sub:=λb hb=>!2
  frame:=λ_ _ _ st hk=>%[st.1.at λo e=>hk _ ∅ o e|st.2.up λo e=>hk d ∅ o e]
  item:=λi s' Q E hi st hQ=>DU st.1 st.2 hi λh' k' hs'=>hQ _ h' s'.toks %[hi|rfl] %[k'|st.2.up λo e=>hs'.extBut d o (Zt r.lt) e] λb o hb e=>hs'.extBut b o (λh=>hb (by simp[h])) e
  done:=λs' Q E st hQ=>Gq hh st.1 st.2 (Zi _) λh' he'=>hQ h' s'.toks λb o hb e=>he' b o (λh=>hb (by simp[h])) e
  self:=λ_ _ _ _ st hQ=>UA st.1 hQ},%[_,Zj _ rfl,rfl|rfl]|r.up λo e=>Z7 _ e]
def nq{P:iv->iy->Prop}{R:ZF->kG->Prop}(K:KdlSrc prog w T r d n P l)(m:A.handled=hV)(ok:l s.heap)(p:n<=lp)
 (h:∀(h':z4) (tk:iv) (acc:ZJ),(∀b o,s.heap.get? b∣o->h'.get? b∣o)->⇑s<=h'.objs.size->ItemsOf P acc n->R acc.toList {s with heap:=h',toks:=tk}):↥A (QV (.ref r)) R E s:=by
 let lt:=K.there _ ok;show Z2 (SU (M6 entry_proto_collect' (Z2 (L1 (Z3 %[OB Pj _|M6 entry_list_iadd' ?_])))));rw[Nq Pj _];let g:=kdl_extend (s:=(s>>>s.heap.push _))
  (R:=λq s'=>∃h' tk acc c,q= .ok (.ret (.ref ⇑s))/\s'={s with heap:=h',toks:=tk}/\(∀b o,s.heap.get? b∣o->h'.get? b∣o)/\h'.get? ⇑s=hY {cls:= .type _,dict:=hV,data:= .seq acc c,slots:= #[]}/\ItemsOf P acc n)
  K m (K.keep _ _ ok λb _ o e=>Z7 _ e) ⇑s (X7 lt.1) (X7 lt.2) _ 0 (Zj _ rfl)
  (λh' tk acc c j a it=>%[h',tk,acc,c,rfl,rfl,λb o e=>j b o (Zt (Zv e)) (Z7 _ e),a|it]) p
 show LL g (λfin s' x=>?_) λe s' x=>?_
 .cases fin with
  | done f=>
    let%[h',tk,acc,c,e,rfl,j,a|it]:=x;cases e;show Z2 (SV a (Z3 (h h' tk acc j (Yk (Zv a)) it)))
  | again c1=>
    show%[x.1|codeAny_mono x.2 λq u y=>?_];let%[h',tk,acc,c,rfl,rfl,j,a|it]:=y;show Z2 (SV a (Z3 (h h' tk acc j (Yk (Zv a)) it)))
 simp_all
def nA{R:ZF->kG->Prop}(lo:(d==MY)=hX)(f:A.handled=hV)(r:Raw s.heap d es ep)(g:es.size<=lp)
 (h:∀(h':z4) (tk:iv),(∀b o,s.heap.get? b∣o->h'.get? b∣o)->⇑s<=h'.objs.size->R (es.toList.map (·.key)) {s with heap:=h',toks:=tk}):↥A (QV (.ref d)) R E s:=by
 show nq (Gr lo) f r g λh' tk acc l c a=>?_
 let e:acc.toList=es.toList.map (·.key):=by
  apply P7;intro j;rw[Zl,NU,NU];by_cases m:j<es.size
  .let n:j<acc.size:=a.1▸m;let%[_|q]:=a.2 j acc[j] ∅
   simp_all
  .rw[NR (by rw[a.1];lia),NR ⋯];rfl
 rw[e];show h h' tk l c
end
section
variable{X:Cx}{K:ZA}
def qW(hc:X.calm=hW):cE X (.builtin "sorted") (λxs H Q=>oneA xs λY=>asR Y λa=>∃c,H a∣.dT c/\∃ks,c\1=ks.map (λk:ZB=>k.map kj)/\∃m,(∀k∈ks,~~~k=m)/\m≠0/\ ~~~ks<=1000/\∀(l:jg) (ss:ZG),H l=hV->aB H ss->(ss\2).Perm ks->(ss\2).Pairwise (λa b=>dR b a=hX)->Q (.ref l) (Qa H l (.lst (ss\0)))):=by
 intro gx s σ H xs us Q I r h;let%[Y,rfl|B]:=bM h;let%[a,rfl|C]:=aN B;let%[c,ha,ks,d,m,hm,m0,few|q]:=C;let%[u,rfl|ru]:=dw r;cases ru;let%[_,lo,xs,E,o,A,ep,g,ex,dt,he,_|_]:=Hf I.hok ha;let G:∀{c:hH (hH Key×V)} {xs:hH (hH Key×jg×iy)},KT H c xs->∀ks:hH ZB,c\1=ks.map (λk:ZB=>k.map kj)->∃ps:ZG,ps\2=ks/\(xs.map λx=>m4 x.2.1)=(ps.map λp=>m4 p.1)/\∀p∈ps,H p.1&&&p.2\3:=by
  intro c xs E
  induction E with
  | nil=>
    intro ks d;cases ks with
    | nil=>show%[[],ρ,ρ|λp i=>by cases i]
    | cons _ _=>cases d
  | @cons kv x c xs hx t ih=>
    intro ks d;cases ks with
    | nil=>cases d
    | cons k ks=>
      rw[Yw,Yw]at d;injection d with h1 h2
      let%[ps,v,L|M]:=ih ks h2;show%[(x.2.1,k)::ps,by rw[Yw,v],by rw[Yw,Yw,L]|λp i=>?_];rcases X2.mp i with e|e
      .rw[e];let:=hx.2.1;rw[h1,Yx]at this;show this
      .show M p e
 let%[ps,v,L|M]:=G E ks d;let w:∀p∈ps,p.2∈ks:=λp i=>by rw[<-v];show Xx %[p,i|rfl]
 let ta:aB H ps:=λp i=>%[λe=>m0 (by rw[<-hm _ (w p i),e];rfl)|M p i]
 let ab: ~~~ps<=1000:=by rw[<-Z6 (f:=(·.2)),v];show few
 let N:Raw s.heap a A ep:=%[o,g,ex|dt]
 let y:A.toList.map (·.key)=ps.map λp=>m4 p.1:=by
  rw[he,Yx,<-L];rfl
 let O:A.size<=lp:=by
  let: ~~~(A.toList.map (·.key))= ~~~(ps.map λp=>m4 p.1):=by rw[y]
  rw[Z6,Z6,Zb]at this;rw[L3];lia
 show kA (λE1 R hR=>nA lo (show X.A.in1.handled=hV from I.ok.hd hc) N O λh' tk k ac=>?_) (oa I ta) (λp i=>hm _ (w p i)) m0 ⋯ λs1 s' l ss n T q2 k1 g1 o1 k g o z gl=>?_
 .rw[y];show hR _ _ (MC _) k rfl rfl
 .let U:Qc X gx σ H s1:=I.keptS k1 g1 o1;let j:H l=hV:=U.hok.fresh z;let J:Qc X gx σ H s':=U.keptS k g o;show%[.ref l,_,U.stoodS (o:= .lst (ss\0)) J z %[?_,ss.map (λp=>m4 p.1),n,og ss|gl],ρ|q l ss j (λp i=>ta p (T.mem_iff.mp i)) (by rw[<-v];show T.map _) (Xe.mpr q2)];rw[Z6,T.length_eq,L3]
  lia
def ph(d:X.calm=hW):b8 X (.builtin "sorted") (λxs H Q=>oneA xs λe=>asR e λa=>∃c,H a∣.dT c/\∃ks,c\1=ks.map (λk:ZB=>k.map kj)/\∃m,(∀k∈ks,~~~k=m)/\m≠0/\ ~~~ks<=1000/\∀(l:jg) (ss:ZG),H l=hV->aB H ss->(ss\2).Perm ks->(ss\2).Pairwise (λa b=>dR b a=hX)->Q (.ref l) (Qa H l (.lst (ss\0)))):=⟨qW d⟩
def DV:QE X (.Dict [] [] pos) x6:=⟨CM⟩
def eP(c:bH k X.A)(d:N7 a (hY (.Subscript o i b)) pos.line X.env=pure hX)(e:QE X a f)(g:QE X o h)(hi:QE X i ty):QS X (.Assign [.Subscript o i b] a pos) (ot h ty f):=
 ⟨FV (by let:=c.units;lia) g.h hi.h e.h d⟩
def mG [LV c](a:hH (c×V))(k:c)(v:V):(db a k v)\1=if k∈a\1 then a\1 else a\1 ++[k]:=by
 unfold db;let e:(a.any λb=>decide (b.1=k))=hW↔k∈a\1:=by
  grind
 by_cases h:k∈a\1
 .rw[ix (e.mpr h),ix h,Yx];show Yv λb _=>?_
  change(if b.1=k then(b.1,v)else b).1=b.1
  split<;> rfl
 .rw[ij (λz=>h (e.mp z)),ij h,Zd];rfl
end
structure wv (K:ZA) (mg:ZC) (x:ku):Prop where
 at_:mg x∣.ref (aE mg x)
 cls:Cls K (aE mg x)
structure ww (K:ZA) (mg:ZC) (x m qual:ku) (st:J5) (ps:ZB):Prop where
 ex:∃f fd,FH K (aE mg x) m f/\Fun K m qual st f fd/\dU K fd ps []
structure DW (K:ZA) (mg:ZC) (x qual:ku) (st:J5) (ps:ZB):Prop where
 ex:∃f fd,Mk K (aE mg x) f/\Fun K "__init__" qual st f fd/\dU K fd ps []
structure By (P:n7) (w:xl) (K:ZA) (mg:ZC) (base:z4) (k:iv) (x m:ku) (ps:ZB) (sp:Sp):Prop where
 ex:∃f fd,eM P w K mg base CX0 k f fd ps sp/\FH K (aE mg x) m f/\dU K fd ps []
structure Gu (P:n7) (w:xl) (K:ZA) (mg:ZC) (base:z4) (k:iv) (x:ku) (ps:ZB) (sp:Sp):Prop where
 ex:∃f fd,eM P w K mg base CX0 k f fd ps sp/\Mk K (aE mg x) f/\dU K fd ps []
section
variable{P:n7}{w:xl}{K:ZA}{mg:ZC}{base:z4}{x m qual:ku}{st:J5}{N ps:ZB}{k:iv}{sp:Sp}
def ww.cal(D:ww K mg x m qual st ps)(S:ar N ps (ak st))
 (a:∀(H:Hp) (vs:hH V) (Q:VK) (E:XK),sp vs H Q E-> ~~~vs= ~~~ps/\∀(f:jg) (b:iy) (A:wy) (outer:hH Env) (s:kG),bH k (A.deeper (Mt qual (ak st) ⇑s f b))->
  ∃t,PSs (fK CX0 P w K mg base N qual (ak st) f b A outer s H E).nox (bJ st) t/\t {nx:=λ_ c=>Q .non c,rt:=Q} (start N vs) H):By P w K mg base (k+1) x m ps sp:=by
 let%[f,d,e,F|g]:=D.ex;show%[f,d,F.ok S (λv H Q E h=>(a H v Q E h).1) (λb A o s H v Q E r h=>(a H v Q E h).2 f b A o s r),e|g]
def DW.cal(D:DW K mg x qual st ps)(S:ar N ps (ak st))
 (a:∀(H:Hp) (vs:hH V) (Q:VK) (E:XK),sp vs H Q E-> ~~~vs= ~~~ps/\∀(f:jg) (b:iy) (A:wy) (outer:hH Env) (s:kG),bH k (A.deeper (Mt qual (ak st) ⇑s f b))->
  ∃t,PSs (fK CX0 P w K mg base N qual (ak st) f b A outer s H E).nox (bJ st) t/\t {nx:=λ_ c=>Q .non c,rt:=Q} (start N vs) H):Gu P w K mg base (k+1) x ps sp:=by
 let%[f,d,e,F|g]:=D.ex;show%[f,d,F.ok S (λv H Q E h=>(a H v Q E h).1) (λb A o s H v Q E r h=>(a H v Q E h).2 f b A o s r),e|g]
end
section
variable{X:Cx}{K:ZA}{j k:iv}{x m:ku}{ps:ZB}{sp:Sp}{p pos apos:Pos}{o e:G2}{es:hH G2}{to te:TE}{t:TA}
def JD(C:By X.prog X.w X.K X.mg X.base j x m ps sp)(c:wv X.K X.mg x)(d:bH k X.A)(a:Px j k=hW)
 (g:L9 (.Call (.Attribute o m apos) [] [] pos) X.env=(do
  let b<-L9 o X.env
  QM apos.atName
  let(f,first)<-RK [b] (PQ b m pl)
  Ta pos f first (MM pos (vi [] X.env)) (Pe pos (ND [] X.env)))) (h:QE X o to):QE X (.Call (.Attribute o m apos) [] [] pos) (zo (aE X.mg x) m sp [] E0 to AQ):=by
 let%[f,n,F,i|l]:=C.ex;show⟨Cu h.h c.cls i F (d.mono (Yj a)) l .nil CO g⟩
def KY(C:Gu X.prog X.w X.K X.mg X.base j x ps sp)(c:wv X.K X.mg x)(g:bH k X.A)(h:Gl X x)(a:Px (j+1) k=hW)(b:(x==("__debug__"))=hX)(d:(e::es).any aT=hX)(i:QA X (e::es) t):
 QE X (.Call (.Name x p) (e::es) [] pos) (zq (aE X.mg x) sp [] E0 t):=by
 let%[f,q,F,l|n]:=C.ex;rw[Zy,Xd]at d;show⟨FJ l F (g.mono (Yj a)) h c.at_ n .nil CO i.h b (aA d.1) (dZ d.2)⟩
def JE(h:X.K=K)(a:iI o=hX)(b:QE X o to):QE X (.Attribute o f pos) (Iw K to f):=by
 subst h;show⟨Iy b.h (gC a)⟩
def Gw(h:X.K=K)(c:gB a=hX)(d:QE X o to)(g:QE X a i):QS X (.Assign [.Attribute o f b] a pos) (Ix K to i f):=by
 subst h;show⟨Iz d.h g.h (jk c)⟩
end
structure GvT (K:ZA) (mg:ZC) (x:ku) (xs:hH V):Prop where
 ex:∃a,mg x∣.ref a/\∀H,SqT K H a xs
def DZ{K:ZA}{h:z4}{o:NB}{its:ZJ}{n:iv}(X:K.In h)(G:h.Ns yu mg)(z:Q4 K yu x∣hY (.ref a))
 (b:K.lookup a∣o) (c:o.cls= .type "tuple") (d:o.data= .seq its n) (e:its.size<=lp) (r:aK xs its.toList):GvT K mg x xs:=
 %[a,NP X G z|λ_=> .inr %[o,its,n,b,c,d,e|r]]
def KZ{X:Cx}{K:ZA}{x:ku}(h:X.K=K)(g:GvT K X.mg x xs)(b:Gl X x)(c:(x==("__debug__":ku))=hX):QE X (.Name x pos) (λ_ H Q=>∀a,(∀d,SqT K d a xs)->Q (.ref a) H):=by
 let%[a,e|f]:=g.ex;show⟨λgx s i H Q I q=>Hh (v:= .ref a) %[.ref a,e|rfl] b c gx s i H Q I (q a f)⟩
def K0{X:Cx}(c:∀e s,X.xe e s->LG)(d:QSs X a g):QS X (.Try a [h] [] [] pos) g:=by
 show⟨λgx s i H D I q=>V5 (LL (d.h gx s i H D I q) (λf b q=>?_) λe b q=>(c e b q).elim)⟩;cases f with
 | next=>show NS q
 | brk=>show q
 | cont=>show q
 | ret u=>show q
section
variable{X:Cx}{K:ZA}
#where
variable{S:jg}
abbrev kS:iy->ZB
 | .str x _=>[x]
 | _=>[]
def wx{x y:ku}:dR [x] [y]=aM x y:=by
 rw[sS]
 split
 .rename_i e
  rw[e,df];rfl
 .rfl
def Gx{vs:ZF}{ss:ZB}(h:Me vs ss)(p:vs.Pairwise λx y=>dR (kS y) (kS x)=hX):ss.Pairwise λa b=>aM b a=hX:=by
 let e:vs.map kS=ss.map λx=>[x]:=by
  induction h with
  | nil=>rfl
  | cons x t h c=>show vj _ (c (Rf.mp p).2)
 let q:(vs.map kS).Pairwise λa b=>dR b a=hX:=Xe.mpr p
 rw[e,Xe]at q;show q.imp λh=>by rwa[wx]at h
def gH{ks:ZB}{Q:ZD}(f:∀(g:ZD) (R:ZF->kG->Prop),(∀d us e,Me us e->e.Perm ks->(∀b o,s.heap.get? b∣o->d.heap.get? b∣o)->d.gens=s.gens->d.os=s.os->R us d)->↥A.in1 (QV (.ref S)) R g s)(few: ~~~ks<=1000)
 (z:∀(d s':kG) (l:jg) (vs:ZF) (ss:ZB) (n:iv),Me vs ss->ss.Perm ks->ss.Pairwise (λa b=>aM b a=hX)->(∀b o,s.heap.get? b∣o->d.heap.get? b∣o)->d.gens=s.gens->d.os=s.os->(∀b o,d.heap.get? b∣o->s'.heap.get? b∣o)->s'.gens=d.gens->s'.os=d.os->⇑d<=l->s'.heap.get? l=hY {cls:= .type "list",data:= .seq vs.toArray n}->Q (.ref l) s'):
 ↥A (call (.builtin "sorted") [.ref S]) Q E s:=by
 let j:∀us:ZF,(∃e,Me us e/\e.Perm ks)-> ~~~us<=1000:=λus ⟨_,h,p⟩=>by rw[bE h,p.length_eq];show few
 show sT (O:=λus out=>out.toList.Perm us/\out.toList.Pairwise λx y=>dR (kS y) (kS x)=hX) (λg R k=>f g R λd us e a b=>k d us %[e,a|b]) j (wt (kd:=oneType') j (λus m B g Q ⟨_,c,_⟩ i _ q=>?_) λus x y m B Q ⟨_,c,_⟩ C G _ q=>?_) λd s' l us out n ⟨_,c,H⟩ o k1 I J k2 L M N T=>?_
 .match us,i,c with
  | v1::U::r,_,c=>
    rw[keyKind_strs c];show Z3 q
 .let%[a,t|rfl]:=c.all _ C;let%[b,u|rfl]:=c.all _ G;rw[keyLt'_oneType];let q:Q (dR [a] [b]) m:=q;rw[wx]at q;show oneLt_str q
 .let%[ss,v|i]:=cm c o.1;show z d s' l out.toList ss n v (i.trans H) (Gx v o.2) k1 I J k2 L M N (by rw[o0.toArray_toList];show T)
end
def iO:∀{ks:ZB} {us:ZF},aK (ks\3) us->Me us ks
 |[],_,.nil=> .nil
 | _::_,_,.cons r t=>by
   let%[t'|rfl]:=r;show .cons _ _ (iO t)
def d6:∀{ks:ZB} {us:ZF},Me us ks->aK (ks\3) us
 | _,_,.nil=> .nil
 | _,_,.cons _ t h=> .cons %[t|rfl] (d6 h)
section
variable{X:Cx}{K:ZA}
def Bz(h:X.K=K):b8 X (.builtin "sorted") (λxs H Q=>oneA xs λj=>asR j λa=>∃ks,Qb K H a (ks\3)/\ ~~~ks<64/\∀l (ss:ZB),H l=hV->ss.Perm ks->ss.Pairwise (λa b=>aM b a=hX)->Q (.ref l) (Qa H l (.lst (ss\3)))):=by
 subst h;show⟨λgx s L H xs us Q I r h=>?_⟩;let%[j,rfl|d]:=bM h;let%[a,rfl|e]:=aN d;let%[ks,v,few|q]:=e;let%[u,rfl|w]:=dw r;cases w;let%[its,m,%[o,n,y,z,M|f]|N]:=I.list v;let O: ~~~its= ~~~ks:=by rw[<-m.length,Z6]
 show gH (ks:=ks) (λT R A=>VG a (.inl rfl) y z f (λh' k=>?_) (!2)) (by omega) λU s' l vs ss n B p C k1 E G k g o c J=>?_
 .show A _ _ _ (iO m) (.refl _) k rfl rfl
 .let i:=I.keptS k1 E G;show%[.ref l,_,i.stoodS (o:= .lst _) (i.keptS k g o) c %[?_,vs,n,d6 B|J],ρ|q l ss (i.hok.fresh c) p C];rw[Z6,p.length_eq,L3];omega
def pi{P:n7}{w:xl}:∀{a:hH Sj} {vs:hH (Key×iy)} {ks:ZB},Pairs (aU P w) a vs->vs\1=ks.map kj->Me (a.map (·.key)) ks
 | _,_,[],h,e=>by
   cases h with
   | nil=>show .nil
   | cons _ _ _=>cases e
 | _,_,k::ks,h,e=>by
   cases h with
   | nil=>cases e
   | @cons m n b c d o f=>
     rw[Yw,Yw]at e;injection e with g j
     rcases a9 (d)with⟨i,t,q,_⟩|⟨x,t,q,l⟩
     .simp_all
     .rw[g]at q;cases q;rw[Yw,l];show .cons _ _ (pi f j)
def BA(w:X.calm=hW):b8 X (.builtin "sorted") (λxs H Q=>oneA xs λm=>asR m λa=>∃(c:hH (Key×V)),Rd H a (.dK c)/\∃(ks:ZB),c\1=ks.map kj/\ ~~~ks<64/\∀l (ss:ZB),H l=hV->ss.Perm ks->ss.Pairwise (λa b=>aM b a=hX)->Q (.ref l) (Qa H l (.lst (ss\3)))):=by
 show⟨λgx s T H xs us Q I r h=>?_⟩;let%[m,rfl|e]:=bM h;let%[a,rfl|f]:=aN e;let%[c,y,ks,i,few|q]:=f;let%[u,rfl|z]:=dw r;cases z;let%[_,lo,vs,A,o,U,Y,g,ex,B,_,C|_]:=r9 I.hok y;let p:=pi C (i▸A.keys.symm);let hl:=by
  let:=bE p;rw[Z6,Zb]at this;omega
 show gH (ks:=ks) (λE1 R E=>nA lo (I.ok.hd w) %[o,g,ex|B] (by rw[L3];omega) λh' tk k G=>E _ _ _ p (.refl _) k rfl rfl) (by omega) λs1 s' l vs ss n J v L k1 M N k g o d O=>?_
 let j:=I.keptS k1 M N;show%[.ref l,_,j.stoodS (o:= .lst _) (j.keptS k g o) d %[?_,vs,n,d6 J|O],ρ|q l ss (j.hok.fresh d) v L];rw[Z6,v.length_eq,L3];omega
def kB{w:xl}(h:X.w=w)(z:X.calm=hW):b8 X (.builtin "sorted") (λxs H Q=>oneA xs λv=>asR v λa=>∃ks,H a∣ki w a ks/\ ~~~ks<=1000/\∀l (ss:ZB),H l=hV->ss.Perm ks->(~~~ks<64->ss.Pairwise (λa b=>aM b a=hX))->Q (.ref l) (Qa H l (.lst (ss\3)))):=by
 subst h;show⟨λgx s L H xs us Q I r h=>?_⟩;let%[v,rfl|e]:=bM h;let%[a,rfl|f]:=aN e;let%[ks,A,few|q]:=f;let%[u,rfl|B]:=dw r;cases B;let%[S,_|_]:=(I.hok a _ A)
 show gH (ks:=ks) (λM R C=>v5 (I.ok.hd z) S λy vs ss i d k1 j m E=>C y vs ss i d k1 j m) few λy s' l vs ss n i d G k1 j m k g o c J=>?_
 let p:=I.keptS k1 j m;show%[.ref l,_,p.stoodS (o:= .lst _) (p.keptS k g o) c %[?_,vs,n,d6 i|J],ρ|q l ss (p.hok.fresh c) d λ_=>G];rw[Z6,d.length_eq,L3];omega
def pj(h:X.K=K):b8 X (.builtin "sorted") (λxs H Q=>oneA xs λj=>asR j λa=>∃(ps:ZG),Qb K H a (ps\0)/\aB H ps/\∃(m:iv),(∀p∈ps,~~~p.2=m)/\m≠0/\ ~~~ps<=1000/\∀(l:jg) (ss:ZG),H l=hV->ss.Perm ps->(ss\2).Pairwise (λa b=>dR b a=hX)->Q (.ref l) (Qa H l (.lst (ss\0)))):=by
 subst h;show⟨λgx s T H xs us Q I r h=>?_⟩;let%[j,rfl|d]:=bM h;let%[a,rfl|e]:=aN d;let%[ps,w,y,m,z,A,few|q]:=e;let%[u,rfl|B]:=dw r;cases B;let%[its,C,%[o,n,E,G,U|f]|Y]:=I.list w;let:=uS C;subst this;show kA (λE1 R J=>VG a (.inl rfl) E G f (λh' k=>?_) (!2)) (oa I y) z A few λs1 s' l ss n v L k1 M N k g o c O=>?_
 .show J _ _ (MC _) k rfl rfl
 .let i:=I.keptS k1 M N;show%[.ref l,_,i.stoodS (o:= .lst _) (i.keptS k g o) c %[?_,ss.map _,n,og ss|O],ρ|q l ss (i.hok.fresh c) v (Xe.mpr L)];rw[Z6,v.length_eq,L3];omega
def Gy{k:iv}{i o:G2}{ty a:TE}{pos:Pos}(b:bH k X.A)(c:L7 .In o=hX)(hi:QE X i ty)(d:QE X o a):QT X (.Compare i [.In] [o] pos) (tB (FT ty a)):=
 ⟨B8 (CH (by let:=b.units;omega) hi.h d.h) c⟩
end
def cT{X:Cx}{K:ZA}{a b:G2}{c d:TE}{pos:Pos}(h:X.K=K)(e:nZ b)(f:QE X a c)(g:QE X b d):QE X (.Subscript a b pos) (tOp (IG K) c d):=by subst h;show⟨CA II f.h g.h e⟩
section
#where
end
section
end
section
#where
end
section
variable{X:Cx}{pos:Pos}
def pq(b:O0 (Mq X.prog X.w) X.A X.env X.xe)(d:QT X c e)(f:QSs X a g):QS X (.While c a [] pos) (Cf e g):=⟨Cg b d.h f.h⟩
def bL(a:bH k X.A)(b:IS i)(c:QE X o d)(hi:QE X i ty):QE X (.Subscript o i pos) (CG d ty):=⟨FU (by let:=a.units;lia) c.h hi.h b⟩
#where
def Gz{P:iv->iy->Prop}(val:iv->ku)(a:∀i v,P i v->∃t,v= .str (val i) t):CmpOf prog w A .Gt P (λi j=>decide ((val j).cps.toList<(val i).cps.toList)):=λi j b c s Q E hi d h=>by
 let%[t|rfl]:=a i b hi;let%[u|rfl]:=a j c d;show VI (NZ s _ t) (NZ s _ u) PySem.F.slot_str_gt PySem.F.entry_str_gt (PySem.F.args_str_gt_2 _ _) (gives_str_gt _ _ t u) (λx=>nomatch x) h
def zR{P:iv->iy->Prop}(val:iv->ku)(a:∀i v,P i v->∃t,v= .str (val i) t):CmpOf prog w A .Lt P (λi j=>decide ((val i).cps.toList<(val j).cps.toList)):=λi j b c s Q E hi d h=>by
 let%[t|rfl]:=a i b hi;let%[u|rfl]:=a j c d;show VI (NZ s _ t) (NZ s _ u) PySem.F.slot_str_lt PySem.F.entry_str_lt (PySem.F.args_str_lt_2 _ _) (gives_str_lt _ _ t u) (λx=>nomatch x) h
def D0{i:iv}{v:iy}(h:(#[LH x t,LH y u]:ZJ)[i]?∣v):∃t,v= .str (if i=0 then x else y) t:=by
 match i,h with
 | 0,h=>show%[t|by simpa using h.symm]
 | 1,h=>show%[u|by simpa using h.symm]
 | i+2,h=>simp at h
def wz(a:iv->iv->su):OS a 1=if a 1 0=hW then 1 else 0:=by simp[OS]
def uU{x y:ku}(l:A.handled=hV)
 (h:∀h' tk,(∀c o,s.heap.get? c∣o->h'.get? c∣o)->Q (if x.cps.toList<y.cps.toList then .str y u else .str x t) {s with heap:=h',toks:=tk}):
 ↥A (call (.builtin "max") [.str x t,.str y u]) Q E s:=by
 let j:(s.heap.push {cls:= .type _,data:= .seq #[.str x t,.str y u]}).IsTuple ⇑s _:=%[_,Zj _ rfl,rfl,0|rfl]
 show call_max_two (Ro j ?_);let b:(s.heap.push {cls:= .type "tuple",data:= .seq #[.str x t,.str y u]}).objs.size=⇑s+1:=Zq ..;show%[_,[_,⇑s],[_],_,_,_,_,ρ,VQ (A:=A.in1) l _ ⇑s (b▸Zt (Yu _)) _,
  %[%[_,Zj _ rfl,ρ|ρ]|j.push _],λc d=>?_,by simp,Gz _ (λ_ _=>D0)|λv h' tk m n=>?_]
 .rw[Zq,b];rcases X2.mp d with rfl|d
  .simp
  .rcases X2.mp d with rfl|d
   .show Yt (Yu _)
   .cases d
 .let f:=λc o e=>by
   show n c o (λi=>?_) (Z7 _ (Z7 _ e));rcases X2.mp i with p|i
   .let:=Zv e;rw[p,b]at this;show Xq _ (Ut this)
   .cases i
  let q:=h h' tk f;let a:(#[LH x t,LH y u])[OS _ 1]?∣v:=m;rw[wz]at a;by_cases g:x.cps.toList<y.cps.toList
  .rw[ix (by simp[g])]at a;rw[ix g]at q;show(show LH y u=v by simpa using a)▸q
  .rw[ij (by simp[g])]at a;rw[ij g]at q;show(show LH x t=v by simpa using a)▸q
def uV{x y:ku}(l:A.handled=hV)
 (h:∀h' tk,(∀c o,s.heap.get? c∣o->h'.get? c∣o)->Q (if y.cps.toList<x.cps.toList then .str y u else .str x t) {s with heap:=h',toks:=tk}):
 ↥A (call (.builtin "min") [.str x t,.str y u]) Q E s:=by
 let j:(s.heap.push {cls:= .type _,data:= .seq #[.str x t,.str y u]}).IsTuple ⇑s _:=%[_,Zj _ rfl,rfl,0|rfl]
 show call_min_two (Ro j ?_);let b:(s.heap.push {cls:= .type "tuple",data:= .seq #[.str x t,.str y u]}).objs.size=⇑s+1:=Zq ..;show%[_,[_,⇑s],[_],_,_,_,_,ρ,VQ (A:=A.in1) l _ ⇑s (b▸Zt (Yu _)) _,
  %[%[_,Zj _ rfl,ρ|ρ]|j.push _],λc d=>?_,by simp,zR _ (λ_ _=>D0)|λv h' tk m n=>?_]
 .rw[Zq,b];rcases X2.mp d with rfl|d
  .simp
  .rcases X2.mp d with rfl|d
   .show Yt (Yu _)
   .cases d
 .let f:=λc o e=>by
   show n c o (λi=>?_) (Z7 _ (Z7 _ e));rcases X2.mp i with p|i
   .let:=Zv e;rw[p,b]at this;show Xq _ (Ut this)
   .cases i
  let q:=h h' tk f;let a:(#[LH x t,LH y u])[OS _ 1]?∣v:=m;rw[wz]at a;by_cases g:y.cps.toList<x.cps.toList
  .rw[ix (by simp[g])]at a;rw[ix g]at q;show(show LH y u=v by simpa using a)▸q
  .rw[ij (by simp[g])]at a;rw[ij g]at q;show(show LH x t=v by simpa using a)▸q
def qX{l:jg}{its:ZJ}{val:iv->ku}{Q:ZD}(n:A.handled=hV)(f:s.heap.IsList l its)(g:0<its.size)(a:∀(i:iv) v,its[i]?∣v->∃t,v= .str (val i) t)
 (h:∀v h' tk,its[OS (λi j=>decide ((val i).cps.toList<(val j).cps.toList)) (its.size-1)]?∣v->(∀b o,s.heap.get? b∣o->h'.get? b∣o)->Q v {s with heap:=h',toks:=tk}):
 ↥A (call (.builtin "min") [.ref l]) Q E s:=by
 let c:l<⇑s:=by let%[_,e|_]:=f;show Zv e
 show call_min_walk (Nw f %[_,[⇑s,l],[⇑s],_,_,_,_,rfl,RP (A:=A.in1) n _ l (Zt c) its,%[%[_,Zj _ rfl,rfl|rfl]|f.push _],λb d=>?_,g,zR val a|λv h' tk p q=>?_])
 .rw[Zq];rcases X2.mp d with rfl|d
  .simp
  .rcases X2.mp d with rfl|d
   .show Yt c
   .cases d
 .show h v h' tk p λb o e=>q b o (λm=>?_) (Z7 _ e)
  rcases X2.mp m with r|m
  .show on (r▸Zv e) (Xq _)
  .cases m
def pA(val:iv->ku):∀k,OS (λi j=>decide ((val i).cps.toList<(val j).cps.toList)) k<=k/\∀j,j<=k->aM (val j) (val (OS (λi j=>decide ((val i).cps.toList<(val j).cps.toList)) k))=hX
 | 0=>%[Zi _|λj b=>by rw[le_zero.mp b];show df _]
 | k+1=>by
   let%[g|d]:=pA val k;rw[OS];by_cases c:aM (val (k+1)) (val (OS (λi j=>decide ((val i).cps.toList<(val j).cps.toList)) k))=hW
   .let a:=c;unfold aM at a;rw[ix a];show%[Zi _|λj b=>?_];by_cases e:j=k+1
    .show e▸df _
    .cases f:aM _ _ with
     | false=>rfl
     | true=>have:=dQ f c;rw[d j ⋯]at this;cases this
   .let a:=c;unfold aM at a;rw[ij a];show%[⋯|λj b=>?_];by_cases e:j=k+1
    .lia
    .show d j ⋯
end
section
variable{X:Cx}
def BB(g:X.calm=hW):cE X (.builtin "max") (λxs H Q=>mw xs λf x2=>asS f λx=>asS x2 λy=>Q (.str (if aM x y=hW then y else x)) H):=by
 intro gx s i H xs us Q I r h;let%[f,x2,rfl|b]:=je h;let%[x,rfl|c]:=dS b;let%[y,rfl|d]:=dS c;let q:=d;let%[u,j,rfl,%[t|rfl],t'|rfl]:=kP r;show uU (I.ok.hd g) λh' tk k=>%[_,H,I.kept k,?_|q]
 by_cases a:x.cps.toList<y.cps.toList
 .rw[ix a,ix (show aM x y=hW from Zf a)];show%[_|ρ]
 .rw[ij a,ij (show ¬ aM x y=hW from λe=>a (Zo e))];show%[_|ρ]
def BC(g:X.calm=hW):cE X (.builtin "min") (λxs H Q=>mw xs λf x2=>asS f λx=>asS x2 λy=>Q (.str (if aM y x=hW then y else x)) H):=by
 intro gx s i H xs us Q I r h;let%[f,x2,rfl|b]:=je h;let%[x,rfl|c]:=dS b;let%[y,rfl|d]:=dS c;let q:=d;let%[u,j,rfl,%[t|rfl],t'|rfl]:=kP r;show uV (I.ok.hd g) λh' tk k=>%[_,H,I.kept k,?_|q]
 by_cases a:y.cps.toList<x.cps.toList
 .rw[ix a,ix (show aM y x=hW from Zf a)];show%[_|ρ]
 .rw[ij a,ij (show ¬ aM y x=hW from λe=>a (Zo e))];show%[_|ρ]
def BD(C:X.calm=hW):cE X (.builtin "min") (λxs H Q=>oneA xs λn=>asR n λp=>∃(ss:ZB),Qb X.K H p (ss\3)/\0< ~~~ss/\∀m∈ss,(∀y∈ss,aM y m=hX)->Q (.str m) H):=by
 intro gx s T H xs us Q I r h;let%[n,rfl|f]:=bM h;let%[p,rfl|g]:=aN f;let%[ss,E,U|q]:=g;let%[u,rfl|l]:=dw r;cases l;let%[its,o,G|Y]:=I.list E;let a:= ~~~o;rw[Z6]at a;let J:its.toArray.size= ~~~ss:=by rw[Zp,a]
 let c:∀i v,its.toArray[i]?∣v->∃t,v=LH (ss.getD i LD) t:=λi v e=>by
  let e:=↑e
  let hi:i< ~~~ss:=a▸(Xt e).1;let%[u,w|l]:=o.get (by rw[Zl,Z4 hi];rfl);rw[e]at w;let%[t|d]:=l;show%[t|by rw[Za w,d,Zc,Z4 hi];rfl]
 show qX (I.ok.hd C) G.isList ⋯ c λv h' tk z k=>?_
 let%[L|A]:=pA _ _;let%[t|d]:=c _ _ z
 generalize OS _ _=b at L A z d
 let B:b< ~~~ss:=by lia
 let M:ss.getD b LD=ss[b]:=by rw[Zc,Z4 B];rfl
 show%[.str _,H,I.kept k,%[t|d]|q _ (M▸Yh B) λy N=>?_];let%[j,O|rfl]:=Yi N;let:=A j ⋯;rwa[show ss.getD j LD=ss[j] by rw[Zc,Z4 O];rfl]at this
def JF(a:X.calm=hW):b8 X (.builtin "max") (λxs H Q=>mw xs λb x2=>asS b λx=>asS x2 λy=>Q (.str (if aM x y=hW then y else x)) H):=⟨BB a⟩
def Ea(a:X.calm=hW):b8 X (.builtin "min") (λxs H Q=>mw xs λb x2=>asS b λx=>asS x2 λy=>Q (.str (if aM y x=hW then y else x)) H):=⟨BC a⟩
def JG{K:ZA}(h:X.K=K)(a:X.calm=hW):b8 X (.builtin "min") (λxs H Q=>oneA xs λb=>asR b λp=>∃(ss:ZB),Qb K H p (ss\3)/\0< ~~~ss/\∀m∈ss,(∀y∈ss,aM y m=hX)->Q (.str m) H):=by subst h;show⟨BD a⟩
#where
variable{R:Sg->kG->Prop}{I:jg}{fp:hH jg}{wr:hH jg}{G:o0 QL->o0 QL->Prop}{n:iv}{P:iv->iy->Prop}{St:iv->kG->Prop}
end
def zS{b:Type}{a:hH (b×V)}{vs:hH (b×iy)}(r:KV a vs):aK (a\2) (vs\2):=by
 induction r with
 | nil=>show .nil
 | cons h _ c=>show .cons h.2 c
section
variable{X:Cx}{K:ZA}
abbrev Eb:V->hH V->Hp->VK->Prop:=λx vs H Q=>asR x λa=>∃k y,vs=[kV k,y]/\∃b,H a∣.dK b/\ ~~~b<lp/\(∀v,bI b k∣v->Q v H)/\(bI b k=hV->Q y (Qa H a (.dK (db b k y))))
def GA:MtM X "dict.setdefault" Eb:=by
 intro gx s J H x vs v us Q I p r h;let%[a,rfl,k,y,rfl,b,e,L,u|w]:=aN h;cases p;let%[M,A,rfl,B|l]:=kP r;let%[z,m,vs,c|n]:=mY I.hok e;show RN UF n.typeIs PySem.F.entry_dict_setdefault (PySem.F.args_dict_setdefault_3 _ _ _) (kt_meets_setdefault _ a (om B) m A) %[vs,n,~~~c▸z,λN hw=>?_|λO h' f C=>?_]
 .let q:=c.val k;cases d:bI b k with
  | none=>
    rw[gW.none_of (o:=RD vs k) (d▸q)]at hw;cases hw
  | some i=>
    let%[E,g|j]:=gW.some_of (d▸q);rw[g]at hw;show(Za hw)▸%[i,H,I.tok _,j|u i d]
 .let d:bI b k=hV:=by
   cases d:bI b k with
   | none=>rfl
   | some i=>
     let%[E,g|_]:=gW.some_of (d▸c.val k)
     grind
  show%[y,_,n5 I (e▸LW) C (let⟨q,_,_,G,_⟩:=f;%[q|G]) (xZ (by let:=gA b k y;lia) m (c.put k l) f),l|w d]
def iP:MtQ X "dict.setdefault" Eb:=⟨GA⟩
abbrev lA(v a:jg):HO:= .ext λh=>h.IsValuesView v a
abbrev Ec:V->hH V->Hp->VK->Prop:=λx vs H Q=>asR x λa=>vs=[]/\∃b,H a∣.dK b/\∀v,H v=hV->Q (.ref v) (Qa H v (lA v a))
def GB:MtM X "dict.values" Ec:=by
 intro gx s w H x vs v us Q I i j h;let%[a,rfl,rfl,l,e|q]:=aN h;cases i;let c:=j.zero;subst c;let%[z,m,vs,n|f]:=mY I.hok e;show RN V7 f.typeIs PySem.F.entry_dict_values (PySem.F.args_dict_values_1 _) (meets_dict_values _ a m) %[%[vs|f]|?_];let g:(s.heap.push {cls:= .type _,data:= .fields _}).IsValuesView ⇑s a:=%[_,Zj _ rfl,rfl|rfl]
 show%[.ref ⇑s,_,I.laid (o:=lA ⇑s a) (λb u e=>Z7 _ e) (Zi _) %[g,?_|λy A p k1=>?_],ρ|q _ I.fresh]
 .let%[o,d|_]:=g;show%[o|d]
 .let%[o,d|r]:=p;show%[o,k1 _ d|r]
def wA:MtQ X "dict.values" Ec:=⟨GB⟩
def yL(p:X.calm=hW):cE X (.type "list") (λxs H Q=>oneA xs λn=>asR n λv=>∃(a:jg),H v∣lA v a/\∃(b:hH (Key×V)),H a∣.dK b/\∀l,H l=hV->Q (.ref l) (Qa H l (.lst (b\2)))):=by
 intro gx s U H xs us Q I r h;let%[n,rfl|g]:=bM h;let%[v,rfl|j]:=aN g;let%[a,w,b,y|q]:=j;let%[u,rfl|A]:=dw r;cases A;let%[z,Y,vs,f|B]:=mY I.hok y;let m:=(I.hok _ _ w).1;let%[o,C,E,G|J]:=B;let L:s.heap.DictAt _ a vs E:=%[o,C,G|J]
 let M:= ~~~f;show PySem.W.kdl_call (kdl_values) (I.ok.hd p) %[m|L] ⋯ λh' tk acc c keep N d=>?_
 let hl: ~~~acc.toList= ~~~b:=by rw[Zb,d.1,M]
 show%[.ref ⇑s,_,I.laid keep (Zi _) ?_,ρ|q _ I.fresh];let e:acc.toList=vs\2:=by
  show OI (!2) λi O h2=>?_
  let%[k|T]:=d.2 i _ (Mh O);let%[h3|e3]:=Xt T
  simp_all
 show%[by rw[Z6];show z,acc.toList,c,e▸zS f|N]
def GC(c:X.calm=hW):b8 X (.type "list") (λxs H Q=>oneA xs λd=>asR d λv=>∃(a:jg),H v∣lA v a/\∃(b:hH (Key×V)),H a∣.dK b/\∀l,H l=hV->Q (.ref l) (Qa H l (.lst (b\2)))):=⟨yL c⟩
end
def wB:∀{ss:ZB},z∈ss->∃j,ss[j]?∣z/\(∀m,m<j->∀y,ss[m]?∣y->y≠z)/\(z::ss.eraseIdx j).Perm ss
 | x::ss,h=>by
   by_cases e:x=z
   .show%[0,by simp[e],λm b=>on b ⋯|by simp[e]]
   .let%[j,c,d|f]:=wB ((X2.mp h).resolve_left λq=>e q.symm);show%[j+1,c,λm b y a=>?_|?_]
    .cases m with
     | zero=>simp at a;show a▸e
     | succ m=>show d m ⋯ y (a)
    .show(TB _ _ _).trans (f.cons _)
section
variable{X:Cx}{K:ZA}
abbrev JH:V->hH V->Hp->VK->Prop:=λx vs H Q=>asR x λa=>∃k y,vs=[kV k,y]/\∃b,H a∣.dK b/\Q ((bI b k).getD y) H
def JI:MtM X "dict.get" JH:=by
 intro gx s n H x vs v us Q I f g h;let%[a,rfl,k,y,rfl,b,e|q]:=aN h;cases f;let%[o,i,rfl,j|l]:=kP g;let%[z,m,vs,c|d]:=mY I.hok e;show RN WM d.typeIs PySem.F.entry_dict_get (PySem.F.args_dict_get_3 _ _ _) (meets_dict_get_default _ a (om j) m i) %[_,d.mapOf,(bI b k).getD y,H,I.tok _,(c.val k).getD l|q]
def wC:MtQ X "dict.get" JH:=⟨JI⟩
abbrev isZ(z:ku):iy->su
 | .str x _=>x==z
 | _=>hX
def BE(t:Tok)(r:aK (ss\3) its)(g: ~~~ss= ~~~its)(i:z∈ss):∃(j:iv) (d:j<its.toArray.size),ss[j]?∣z/\(z::ss.eraseIdx j).Perm ss/\(∀y,y∈its.toArray->MeetsSeq.EqGives y (.str z t) (isZ z y))/\isZ z its.toArray[j]=hW/\∀m (a:m<its.toArray.size),m<j->isZ z its.toArray[m]=hX:=by
 let%[j,e,l|n]:=wB i;let at_:∀m y,its[m]?∣y->∃x t,y=LH x t/\ss[m]?∣x:=λm y b=>by
  let a:m< ~~~ss:=g▸(Xt b).1;let%[u,h|o]:=r.get (by rw[Zl,Z4 a];rfl);rw[b]at h;let%[t|p]:=o;show%[_,t,(Za h).trans p|Z4 a]
 let d:j< ~~~its:=g▸(Xt e).1;show%[j,d,e,n,λy b=>?_,?_|λm a f=>?_]
 .let%[m|a]:=Xm ↑b;let%[x,t',rfl|_]:=at_ m y a;show eqGives_str x z t' t
 .let%[x,t',ex|c]:=at_ j _ (Z4 d);rw[e]at c;change isZ z its[j]=hW;rw[ex,<-Za c];show Oy z
 .let%[x,t',ex|c]:=at_ m _ (Z4 a);change isZ z its[m]=hX;rw[ex];show LF.mpr (l m f x c)
abbrev uW:V->hH V->Hp->VK->Prop:=λx vs H Q=>asR x λl=>∃z,vs=[.str z]/\∃ss:ZB,H l<*ss\3/\z∈ss/\∀a,(z::a).Perm ss->Q .non (Qa H l (.lst (a\3)))
def BF:MtM X "list.remove" uW:=by
 intro gx s A H x vs v us Q I c d h;let%[l,rfl,z,rfl,ss,a,f|q]:=aN h;cases c;let%[u,rfl|g]:=d.one;let%[t|rfl]:=g;let%[i,its,n,r,b|e]:=I.lstM a;rw[Z6]at b i;let%[j,m,_,o,p,w|y]:=BE t r b f;show N2 F.slot_list_remove %[_,e|rfl] F.entry_list_remove (F.args_list_remove_2 _ _) (MeetsSeq.list_remove l its.toArray n _ _ p j m w y (!2)) %[e,.non,_,I.lset (its':=its.eraseIdx j) a e ?_ ?_ ?_,rfl|q _ o]
 .simp
 .rw[Oa,Zd,Vs,Vt,<-Oa];show r.eraseIdx j
 .let:=rW ss j;rw[Z6]
  lia
def Ee:MtQ X "list.remove" uW:=⟨BF⟩
end
def BG:O5 (.type "list_reverseiterator") "__len__"=pure hV:=by kernel_rfl
def Ef:O5 (.type "list_reverseiterator") "__length_hint__"=pure (hY (.builtin "list_reverseiterator.__length_hint__")):=by kernel_rfl
section
#where
def qY(hh:A.handled=hV)(O:s.heap.IsRevIter I l ((a.size:ri) -1))(U:s.heap.IsList l a)(ne:l≠I)(hz:a.size<=lp)
 (hQ:∀s' acc c,(∀b o,b≠I->s.heap.get? b∣o->s'.heap.get? b∣o)->s'.gens=s.gens->s'.os=s.os->s'.heap.get? ⇑s=hY {cls:= .type "list",data:= .seq acc c}->acc.toList=a.toList.reverse->Q (.ref ⇑s) s'):
 ↥A (call (.type "list") [.ref I]) Q E s:=by
 let v:I<⇑s:=let⟨_,i,_⟩:=O;Zv i;let y:l<⇑s:=let⟨_,i,_⟩:=U;Zv i
 generalize p:s.heap.push {cls:=Mm "list",data:=Data.seq #[]}=G
 let gz:G.objs.size=⇑s+1:=by rw[<-p,Zq]
 let z:∀b o,s.heap.get? b∣o->G.get? b∣o:=λb o e=>by rw[<-p];show Z7 _ e
 let q:G.get? ⇑s=hY {cls:=Mm "list",data:=Data.seq #[]}:=by rw[<-p];show Zj _ rfl
 show callType_codes (Q₁:=λobj g=>obj= .ref ⇑s/\g=(s>>>G)) F.called_list (F.typeCall_list_1 (m4 I)) F.entry_list_init (code_list_new (m4 I) %[rfl|by rw[p]]) λobj g j=>?_
 let%[rfl|rfl]:=j;show%[%[_,q|ρ],F.args_list_init_2 _ _|?_];change ↥A.in1.in1 (oy.«list.__init__» %[[.ref ⇑s,.ref I]|[]]) _ _ _;unfold oy.«list.__init__»;show Z2 ?_;show listItems_at (s:=(s>>>G)) q rfl ?_;show Z2 (OE (s:=(s>>>G)) q rfl ?_ (Xl _));let Y:=LP (MT λ_=> #[]) q rfl;let f:∀b o,b≠⇑s->G.get? b∣o->(G.update ⇑s (MT λ_=> #[])).get? b∣o:=λb o B e=>(LQ _ _ (Lx B)).trans e
 show Z2 (Ql ?_)
 generalize G.update ⇑s (MT λ_=> #[])=h at Y f
 let C:I≠⇑s:=Zt v;let nl:l≠⇑s:=Zt y;let m:h.IsRevIter I l ((a.size:ri) -1):=O.at λo e=>f _ _ C (z _ _ e)
 let H:h.IsList l a:=let⟨o,i,r⟩:=U;%[o,f _ _ nl (z _ _ i)|r];let W:=Walks.listRev (prog:=prog) (w:=w) (A:=A.in1.in1) hh I l ne a;let n:(0<=a.size/\h.IsRevIter I l (↑(a).size-1-((0:iv):ri))/\h.IsList l a):=%[Xl _,↑m|H]
 change ↥A.in1.in1 (Nb (.ref ⇑s) (.ref I) .none) _ _ (s>>>h);unfold Nb;let u:P8 (s>>>h) (.ref I) "list_reverseiterator":=m.typeIs;show Z2 (P0 (T:="list_reverseiterator") u ?_);let n1:Q2 (.ref ⇑s) (.ref I)=hX:=LF.mpr (Lx C);let n2:(Mm "list_reverseiterator"==Mm "list")=hX:=!1
 let n3:(Mm "list_reverseiterator"==Mm "tuple")=hX:=!1
 simp only[n1,n2,n3,Vz,Y2,NE];show Z2 (W.self 0 (s>>>h) _ _ n ?_);show Z2 (zp ?_);unfold Qh;show Z2 (OL (T:="list_reverseiterator") u BG ?_);change vk _ _ (specialOf (.ref I) (!"__length_hint__")>>= _) _ _ _;show Z2 (OL u Ef ?_)
 wp_delta
 show Z2 (Ng (T:="list_reverseiterator") (b:=hW) u (by rw[isSubtype_type];kernel_rfl) ?_);simp only[VA,Y2,NE];rw[ix (!0)];rw[ij (!1)];show Z3 ?_;rw[ij (!0)];let J:⇑s∉[I,l]:=by
  simp only[X2,Xc,Mb,Og];show%[Lx C|Lx nl]
 show Z3 %[OB Ux _|UN W.toS hz _ J _ a.size 0 _ _ _ rfl (Xl _) n Y (Ve _) λs5 acc c5 L M d=>?_];show%[ρ|hQ s5 acc c5 (λb o B e=>?_) L.gens L.os M ?_]
 .let nb:b≠⇑s:=Zt (Zv e);show L.heap b o ?_ (f _ _ nb (z _ _ e));simp only[X2,Xc,Mb,Og];show%[nb|B]
 .apply P7;intro k;let al: ~~~acc.toList=a.size:=Zb▸d.1;by_cases hk:k<a.size
  .let N:k<acc.size:=d.1▸hk;let:=d.2 k acc[k] ∅;rw[hH.getElem?_reverse (hk),Zb,NU,NU,this];simp[N]
  .rw[Xs ⋯,Xs (by simp;lia)]
end
abbrev JJ(n:iv)(a l:jg)(m:iv):HO:= .ext λh=>n<=a/\h.IsRevIter a l (m-1)
def BH{X:Cx}:cE X (.type "reversed") (λxs H Q=>∃(l:jg) (ys:hH V),xs=[.ref l]/\Qb X.K H l ys/\∀r,H r=hV->Q (.ref r) (Qa H r (JJ X.s₀.heap.objs.size r l ys.length))):=by
 intro gx s a H xs us Q I r h;let%[l,ys,rfl,c|q]:=h;let%[u,rfl|d]:=dw r;cases d;let%[its,f,pl|j]:=I.list c;show call_reversed_list pl.isList ?_;let g:=I.hok.fresh (Zi _);let J:Qc X gx a H (s>>>(s.heap.push (revObj l (its.toArray.size-1)))):=I.keptS (λb o e=>Z7 _ e) rfl rfl;show%[.ref ⇑s,_,I.stoodS (o:=JJ X.s₀.heap.objs.size ⇑s l ys.length) J (Zi _) %[%[I.sz|?_],%[_|Zj _ rfl]|λ_ _ ⟨i,x⟩ k=>%[i|x.at λo e=>k o e]],ρ|q _ g];rw[~~~f,<-Zp];show%[_,Zj _ rfl,ρ|ρ]
def Qc.dropped{X:Cx}(I:Qc X gx j H s)(l:H a∣.ext i)(m:X.s₀.heap.objs.size<=a)(f:∀b o,b≠a->s.heap.get? b∣o->s'.heap.get? b∣o)(r:s'.gens=s.gens)(v:s'.os=s.os):Qc X gx j (drop H a) s':=by
 let ne:∀{b:jg} {o:HO},H b∣o->(∀i,o≠ .ext i)->b≠a:=λe n z=>by
  grind
 let un:Un (frs X.stack) [a] H (drop H a) s.heap s'.heap:=by
  show%[λb o e _ _ d=>f b o ↑d e,λb o e _ _ d=>%[o.slots|f b o ↑d e],λb o _ n _=>?_,λb o e d=>%[o|f b o ↑d e],λb xs e=>?_,λb o u e=>?_|λb ps e=>%[#[]|?_]]
  .unfold drop;split
   .rfl
   .show n
  .rw[bP (ne e ∅)];show e
  .rw[bP (ne e ∅)];show e
  .rw[bP (ne e ∅)];simpa using e
 let g:HOk X.prog X.w (drop H a) s'.heap:=λb o e=>by
  let nb:b≠a:=λz=>by rw[z,io]at e;cases e
  rw[bP nb]at e;show(I.hok b o e).stay (λc u h q=>f c u ?_ q) (λc q=>?_) λc xs q=>?_
  .rcases h with rfl|h
   .show nb
   .show ne h ∅
  .rw[bP (ne q ∅)];show q
  .rw[bP (ne q ∅)];show q
 show I.call' v un g (by rw[r];show I.bare) λb w=>by
  obtain rfl:b=a:=↑w
  show%[.inr m,λz=>?_,λx c e z=>?_|λp y z=>?_]
  .let:=I.free;grind
  .let:=I.freeC x c e;grind
  .let:=(I.pin p y).2.1;rw[z,l]at this;cases this
def wD{X:Cx}(y:X.calm=hW):cE X (.type "list") (λxs H Q=>∃(r l:jg) (ys:hH V),xs=[.ref r]/\H l<*ys/\H r∣JJ X.s₀.heap.objs.size r l ys.length/\∀p,drop H r p=hV->p≠r->Q (.ref p) (Qa (drop H r) p (.lst ys.reverse))):=by
 intro gx s L H xs us Q I r h;let%[a,l,ys,rfl,g,f|q]:=h;let%[u,rfl|A]:=dw r;cases A;let%[z,its,n,B,m|e]:=I.lstM g;let%[%[v|b]|_]:=I.hok a _ f;let i:l≠a:=λz=>by rw[z,f]at g;cases g
 let sz:its.toArray.size= ~~~ys:=!2
 show qY (I.ok.hd y) (by rw[sz];show b) %[_,e,rfl,n|rfl] i (by rw[sz];show z) λs' acc c C E j G d=>?_
 let w:=I.dropped f v (λ_ _ _ e=>e) rfl rfl;let J:=I.dropped f v C E j;let lt:=let⟨_,j,_⟩:=b;Zv j;show%[.ref ⇑s,_,w.stoodS (o:= .lst ys.reverse) J (Zi _) %[?_,acc.toList,c,?_|?_],ρ|q _ (w.hok.fresh (Zi _)) (X7 lt)]
 .rw[Tx];show z
 .rw[d];show B.reverse
 .show G
abbrev wE(b:TE):TE:=λc H Q=>b c H λv a=>∃l ys,v= .ref l/\a l<*ys/\∀p,a p=hV->Q (.ref p) (Qa a p (.lst ys.reverse))
def Eg{X:Cx}(h:X.calm=hW)(i:Gl X "reversed")(j:X.mg "reversed"=hV)(a:Gl X "list")(b:X.mg "list"=hV)(d:aT e=hX)(m:QE X e n):
 QE X (.Call (.Name "list" o) [.Call (.Name "reversed" s) [e] [] u] [] w) (wE n):=by
 let y:QE X (.Call (.Name _ s) [e] [] u) _:=ctE ⟨BH⟩ i j Wy rfl rfl (by simp[d]) (paE d (⟨Jt m.h⟩) am);let z:=ctE (p:=o) (pos:=w) ⟨wD h⟩ a b OW rfl rfl rfl (paE rfl y am);show⟨Ju z.h λB H Q q=>?_⟩;show%[_,q|λv C ⟨l,ys,A,c,q⟩=>%[l,ys,by rw[A],Qb.of c|λr f=>?_]];show%[r,l,ys,ρ,by rw[ap (av c f)];show c,aa|λp g _=>?_];rw[Du f]at g ⊢;show q p g
section
variable{X:Cx}
abbrev JK:R2:=λx y H Q=>asR x λa=>asR y λb=>∃xs,H a<*xs/\H b<*[]/\Q (.bl (decide (xs≠[]))) H
def JL(B:X.A.units+64<Nx):OpR X (pw .NotEq) JK:=by
 intro gx s C H x y v u Q I l m h;let%[a,rfl|o]:=aN h;let%[b,rfl,xs,p,w|q]:=aN o;cases l;cases m;let%[z,its,n,r,g|e]:=I.lstM p;let%[E,its2,i,G,d|c]:=I.lstM w;obtain rfl:its2=[]:=zz.mp d.symm;by_cases f:xs=[]
 .subst f;obtain rfl:its=[]:=zz.mp g.symm;show T6 (op:= .NotEq) %[_,e|rfl] %[_,c|rfl] PySem.F.slot_list_ne PySem.F.entry_list_ne (PySem.F.args_list_ne_2 _ _) (SeqAt.list_neAt a b #[] #[] n i hV hV #[] #[] rfl λ_=>hW) %[e,c,λj h=>on h (Xb j),by simp,.bl _,H,I,rfl|q] ⋯
 .let A:its.toArray.size≠0:=by
   rw[Zp,<-g];show λq=>f (zz.mp q)
  rw[Zf f]at q;show T6 (op:= .NotEq) %[_,e|rfl] %[_,c|rfl] PySem.F.slot_list_ne PySem.F.entry_list_ne (PySem.F.args_list_ne_2 _ _) (SeqAt.list_ne_lengthsAt a b its.toArray #[] n i hV hV #[] #[] ↑A) %[e,c,by simp,.bl hW,H,I,rfl|q] ⋯
def pB(a:bH k X.A):OpQ X (pw .NotEq) JK:=⟨JL a.units⟩
#where
def fU(I:hH i->j->kG->Prop):∀(xs:hH i) (b:j) (s:kG),I xs b s->
 (∀x r b s,I (x::r) b s->↥A (f x b) (λy s'=>match y with| .done c=>Q c s'| .yield c=>I r c s') E s)->(∀b s,I [] b s->Q b s)->↥A (forIn xs b f) Q E s
 |[],b,s,h,_,a=>by
  show Z3 (a b s h)
 | x::r,b,s,h,d,a=>by
   rw[Rt];show Z2 (LL (d x r b s h) (λy s' g=>?_) λ_ _ e=>e);cases y with
   | done c=>show Z3 g
   | yield c=>show fU I r c s' g d a
def Eh:∀c {Q:su->kG->Prop},(∀b∈c,∃d,bx w b d s.heap)->Q hW s->↥A (setsQuiet c) Q E s:=by
 intro c Q h l;show Z2 (fU (λr b s'=>(∀b∈r,∃d,bx w b d s.heap)/\b=(hV,())/\s'=s) c _ s %[h,rfl|rfl] ?_ ?_)
 .intro x r b s' %[g,rfl|rfl];let%[d,o,m,G,t,ss,n,p,q,v,H,y,f,I,B,C|i]:=g x Zm;show Z2 (NK n q B (Z2 ?_));rw[<-P6];show fU (λr b a=>(∀e∈r,∃z u,e=(M4 w z,LH z u))/\b=(hV,())/\a=s') m.toList _ _ %[f,rfl|rfl] ?_ ?_
  .intro e r b a %[j,rfl|rfl];let%[z,u|rfl]:=j e Zm;show Z3 %[λe h=>j e (Zk _ h),rfl|rfl]
  .intro b a %[_,rfl|rfl];show Z3 %[λe h=>g e (Zk _ h),rfl|rfl]
 .intro b s' %[_,rfl|rfl];show Z3 l
abbrev hsE(w:xl)(p:ku×Tok):ri×iy:=(M4 w p.1,.str p.1 p.2)
def bx.texts{a:jg}{h:z4}{o:NB}{c:o0 (ri×iy)}(d:Me (c.toList\2) ss)(g:ss.Perm ks)(f:∀e∈c.toList,∃z u,e=(M4 w z,LH z u))(xs:hH (ri×iy))(b:xs.Perm c.toList):∃zs:hH (ku×Tok),xs=zs.map (hsE w)/\(zs\1).Perm ks:=by
 let all:∀l,(∀e∈l,∃z u,e=(M4 w z,LH z u))->∃zs:hH _,l=zs.map (hsE w):=λl=>by
  induction l with
  | nil=>show λ_=>%[[]|rfl]
  | cons e l i=>
    intro h;let%[z,u|rfl]:=h e Zm;let%[zs|rfl]:=i λx b=>h x (Zk _ b)
    show%[(z,u)::zs|ρ]
 let%[zs|rfl]:=all xs λe j=>f e (b.mem_iff.mp j)
 show%[zs,ρ|?_];let%[ts,m|n]:=cm d (b.map _);let e:ts=zs\1:=by
  rw[<-m.strs,Yx,Yx];rfl
 show e▸n.trans g
def sV{f:hH jg}{c:ZI}{Q:o0 (ri×iy)->kG->Prop}(U:bx w a ks s.heap)(hO:∀b∈f,∃js,bx w b js s.heap)(n:∀r,c∣r->r≠a/\bx w r [] s.heap)
 (hQ:∀(zs:hH (ku×Tok)) (d:Drawn) (h':z4),(zs\1).Perm ks->(∀b o,c≠hY b->s.heap.get? b∣o->h'.get? b∣o)->(∀r,c∣r->bx w r [] h')->Q (zs.map (hsE w)).toArray {s with heap:=h',drawn:=d}):
 ↥A (setWalkUnseen a f c) Q E s:=by
 let%[o,g,ep,t,ss,Y,ac,hd,J,hp,ae,L,I,hf,M|i]:=id U;let fin:∀(xs:hH _) d h',xs.Perm g.toList->(∀b o,c≠hY b->s.heap.get? b∣o->h'.get? b∣o)->(∀r,c∣r->bx w r [] h')->Q xs.toArray {s with heap:=h',drawn:=d}:=λxs d h' hx u h2=>by
  let%[zs,rfl|hz]:=bx.texts (a:=a) (h:=h') (o:=o) J hp L xs hx;show hQ zs d h' hz u h2
 let walk:↥A (setWalk a) Q E s:=by
  show Z2 (oT Y hd hf ?_);change vk _ _ (if aY w=hW then _ else _) _ _ _;by_cases N:aY w=hW
  .rw[ix N];show Z2 (Ma (Z3 ?_));let:=fin (Nh (w.params.setOrder a ep) g).toList s.drawn s.heap (sE _ _) (λ_ _ _ e=>e) λr e=>(n r e).2
   show this
  .rw[ij N]
   split
   .show Z2 (uE g.size g.toList _ _ ∅ λys d p=>Z3 (fin ys d s.heap p (λ_ _ _ e=>e) λr e=>(n r e).2))
   .show Z2 ?_;change vk _ _ (if(!t.led&&decide _)=hW then OH _ else pure ()) _ _ _;rw[i,show aY w=hX by simpa using N];show Z3 (Z3 ?_);let:=fin g.toList s.drawn s.heap (.refl _) (λ_ _ _ e=>e) λr e=>(n r e).2
    show this
 show Z2 (oT Y hd hf ?_);change vk _ _ (if(aY w||t.led&&t.plain||decide _)=hW then _ else _) _ _ _;by_cases u:(aY w||t.led&&t.plain||decide (g.size<=1))=hW
 .rw[ix u];show walk
 .rw[ij u];show Z2 (Eh _ (λb I=>?_) ?_)
  .rcases X2.mp I with e|e
   .show e▸%[_|U]
   .show hO b e
  show Z2 (NY ?_);cases c with
  | none=>
    let:=fin g.toList s.drawn s.heap (.refl _) (λ_ _ _ e=>e) λr e=>(n r e).2
    show Z3 this
  | some r=>
    let%[ne,o2,O,ag,q,al,j,v,l,y,T,B,C,G,H,ab|m]:=n r rfl;dsimp only;show Z2 (oT j l H ?_)
    split
    .show Z2 (M7 j l ?_ (M8 G));let:=fin g.toList s.drawn _ (.refl _) (λb o I e=>((v0.update s.heap r (Ni O {q with led:=q.led&&t.led,plain:=q.plain&&t.plain})).2 b λz=>I (by rw[z])).trans e) λr' e=>?_
     .show Z3 this
     .cases e;show(bx.stored (t':={q with led:=q.led&&t.led,plain:=q.plain&&t.plain}) j v l y T B C G H (by rw[(M λz=>u (by rw[z];simp)),Mv]) (by rw[m,i,Sw])).2
    .let:=fin g.toList s.drawn s.heap (.refl _) (λ_ _ _ e=>e) λr e=>(n r e).2
     show Z3 this
def GD(h:jX (kj z) (LH y u)=hW):y=z:=by
 rcases a9 h with⟨i,t',a,b⟩|⟨c,t',a,b⟩
 .lia
 grind
def wF{ks:ZB}(i:s.heap.get? a∣o)(l:o.data= .set b H t)(c:∀e∈b.toList,∃z u,e=(M4 w z,LH z u))(C:b.size<N9)(m:t.fits b.size=hW)
 (n:∀r,(r=hV->∀e∈b.toList,∀u,e.2≠ .str z u)->(∀j,r∣j->∃u,b.toList[j]?∣(M4 w z,.str z u))->Q r s):↥A (setFind a (.str z tk) (M4 w z)) Q E s:=by
 let p:ElemsOf (aU prog w) b.toList:=sB c;let d:(aU prog w).is (kj z) (.str z tk)=hW:=ee z tk;show Z2 (oT i l m ?_);dsimp only;rw[byScan_of rfl C p];show Z2 (NY (Z2 (VZ d i l m p ?_)));cases v:Vv _ b.toList with
 | some j=>
   let%[B,f|_]:=QK.mp v;dsimp only;rw[PF];show Z3 (n _ (λh=>(nomatch h)) λI e=>?_);cases e;let%[y,u|g]:=c _ (Yh B);rw[g]at f;rw[GD (u:=u) f]at g;show%[u|by rw[Z4 B,g]]
 | none=>
   show Z3 (n hV (λ_ e G u q=>?_) λj e=>(nomatch e));let:=Sh.mp v e G;rw[q,show(aU prog w).is (kj z) (LH z u)=hW from ee z u]at this;cases this
def Ei{P D M n i b:iv}(h:P=n/\P+D<=M)(hi:i<n):min i P+(P-(i+1))=n-1/\min i P+(P-(i+1)) +(min b D+1+(D-b))<=M:=by
 let%[rfl|h]:=h;let e:=iv.sub_add_min_cancel D b;let k:i+1+(P-(i+1))=P:=iv.add_sub_of_le hi;rw[X6 (Yk hi),iv.min_comm b D]
 generalize min D b=x at e ⊢
 generalize D-b=y at e ⊢
 generalize P-(i+1)=z at k ⊢
 show%[⋯|⋯]
def BI{t:nI}(h:t.fits n=hW)(hi:i<n):(t.drop i).fits (n-1)=hW/\(t.drop i).led=t.led/\(t.drop i).plain=t.plain:=by
 unfold Ny at h ⊢;rw[Zx,MK,Lz]at h;unfold nI.drop;let:t.place[i]?∣t.place[i]:=by simp
 rw[this];show%[?_,ρ|ρ];rw[Zx,MK,Lz];unfold PU at h ⊢;simp only[NW,nI.insertAt,Qr,o0.size_extract,Xp,iv.min_self,Th];show Ei h hi
def yM(h:i<a.size):(NW a i).toList=a.toList.eraseIdx i:=by
 rw[Oa,NW,Xk,Qo,Qo,NA,NA];simp;show Zn ∅
def wG{ks:ZB}(I:bx w a ks s.heap)(m:∀h' b,v0 a s.heap h'->bx w a (ks.erase z) h'->Q b (s>>>h')):↥A (setDiscardHashed a (.str z tk) (M4 w z)) Q E s:=by
 let%[o,c,ep,t,ss,h,n,j,d,J,p,f,L,v,y|g]:=id I;show Z2 (wF (ks:=ks) h j f L v λr M N=>?_);cases r with
 | none=>
   let O:z∉ks:=λq=>by
    let%[u|l]:=(eO d).mpr (J.mem_iff.mpr q);let%[e,B|T]:=Xw l;show M rfl e B u T
   rw[hH.erase_of_not_mem O]at m;show Z3 (m s.heap hX (v0.refl a s.heap) I)
 | some i=>
   let%[u|l]:=N i rfl;let hi:i<c.size:=(Xt l).1;let C:((M4 w z,LH z u)::(NW c i).toList).Perm c.toList:=by
    rw[yM hi];let:=iK (xs:=c.toList) (hi);rwa[(Xt l).2]at this
   let%[ts,G|U]:=cm d (C.map _);cases G with
   | cons _ _ G=>
   let%[Y,d2|d3]:=BI v hi;let H:(NW c i).size=c.size-1:=by
    rw[<-Zb,<-Zb,<-C.length_eq];simp
   show Z2 (oT h j v ?_);dsimp only;show Z2 (M7 h j (Z2 (wpAny_point (Z3 (m _ hW (v0.update s.heap a _) (bx.stored h n j G ((hH.cons_perm_iff_perm_erase.mp (U.trans J)).2) (p.erase z) (λe B=>f e (C.mem_iff.mp (Zk _ B))) ?_ ?_ ?_ ?_).2)))) (M8 ?_))
   .lia
   .show H▸Y
   .show d3▸y ⋯
   .show d2▸g
   .lia
end
def zT(h:_ST.WF t a)(b:a.size<=t.mask):t.fits a.size=hW:=by
 unfold Ny PU;rw[h.size,h.dum];simpa using b
section
#where
abbrev uX(w:xl)(a:jg)(n:iv)(h:z4):Prop:=∃o b t,h.get? a∣o/\o.ExactSet/\o.data= .set #[] b t/\t.place= #[]/\t.dummies= #[]/\t.led=(!aY w)/\(∃k,t.mask+1=2^k)/\7<=t.mask/\n<=t.mask
def uX.fits{t:nI}(a:t.place= #[])(b:t.dummies= #[]):t.fits (#[]:o0 (ri×iy)).size=hW:=by
 unfold Ny PU;rw[a,b];simp
def GE{n:iv}{Q:Q7->kG->Prop}(a:s.heap.get? r∣bO w)(f:n<=1000)(c:∀h',v0 r s.heap h'->uX w r n h'->Q () (s>>>h')):↥A (setRoomFor r n) Q E s:=by
 let d:(Os 0 0 (!aY w)).fits _=hW:=uX.fits rfl rfl;show Z2 (oT a rfl d ?_);change vk _ _ (match(if(0+n)*5>=7*3 then hY ((0+n)*2)else hV)with|some x=>UG r x|_=>pure ()) _ _ _;by_cases h:(0+n)*5>=7*3
 .rw[ix h];show _ST.relay_w a rfl d ∅ ⋯ λb t' P W l p g m2=>c _ (v0.update s.heap r _) ?_
  obtain rfl:b= #[]:=by
   let:=P.length_eq;simpa using this
  let e:=by
   let q:=LP (Ni #[] t') a (by rfl);rwa[QN #[] t' rfl]at q
  show%[_,_,t',e,%[ρ,ρ|ρ],ρ,Rc W.size,W.dum,l,W.pow,W.big|⋯]
 .rw[ij h];show Z3 (c s.heap (v0.refl r s.heap) %[_,_,_,a,%[rfl,rfl|rfl],rfl,rfl,rfl,rfl,%[3|rfl],Zi 7|by change n<=7;lia])
def Ej{ks:ZB}(M:bx w a ks s.heap)(N:s.heap.get? r∣bO w)(ne:r≠a)(h1:1<= ~~~ks)(h2: ~~~ks<=1000)(O:∀h',v0 r s.heap h'->bx w r ks h'->Q () (s>>>h')):↥A (setMerge r a) Q E s:=by
 let%[o,d,ep,t,ss,T,U,Y,n,G,z,B,hb,H,C|g]:=id M;let hn:d.size= ~~~ks:=by
  let q:=bE n;rw[Z6,Zb,G.length_eq]at q;show q
 let pl:t.plain=hX:=C ⋯;unfold setMerge;rw[ij ↑ne];show Z2 (oT T Y H ?_);dsimp only;rw[ij (λh:d.isEmpty=hW=>by let:=Zo h;lia)];show Z2 (GE N ⋯ λh' sb ⟨o2,ab,u,i,v,j,I,J,L,k2,b2,m2⟩=>Z2 (oT (s:=(s>>>h')) i j (uX.fits I J) ?_));dsimp only;let m:u.fill=0:=by unfold PU;rw[I,J];rfl
 let put:∀(b:o0 (ri×iy)) (t':nI),b.toList.Perm d.toList->t'.fits b.size=hW->t'.plain=hX->t'.led=(!aY w)->↥A (UE r b t') Q E (s>>>h'):=λb t' P f p l=>by
  let sz:b.size=d.size:=by rw[<-Zb,P.length_eq,Zb]
  let%[ts,r1|r2]:=cm n (P\2);show M7 (s:=(s>>>h')) i j (O _ (sb.trans (v0.update h' r _)) (bx.stored (w:=w) i v j r1 (r2.trans G) z (λe he=>B e (P.mem_iff.mp he)) ⋯ f p l).2) (M8 ⋯)
 unfold nI.road;rw[m,ij (!1)]
 split
 .show put d _ (.refl _) H (by change(u.plain&&t.plain)=hX;rw[pl,Mv]) (by change(u.led&&t.led)=_;rw[L,g,Sw])
 .let%[k|hk]:=k2;let%[t',c,e1,e2,e3,e4,e5,W|P]:=_ST.laid_ok hk b2 d ⋯ u.finger u.moves _ _;let sz:(c.filterMap (d[·]?)).size=d.size:=by rw[<-Zb,P.length_eq,Zb]
  rw[e1];show Z2 ?_;change vk _ A (if((c.filterMap _).size != d.size)=hW then _ else pure _) _ E _;rw[ij (by simp[sz])];show Z3 (put _ t' P (show t'.fits _=hW from zT W (by rw[sz,e2];lia)) (by rw[e4,pl,Mv]) (by rw[e3,L,g,Sw]))
 .rename_i y
  split at y<;> cases y
end
def bx.nd(S:bx w a ks h):ks.Nodup:=by
 let%[_,_,_,_,_,_,_,_,_,_,h|_]:=S;show h
section
#where
def uY(c:bx w b f s.heap)(d:Q hW s):↥A (U1 (.ref b)) Q E s:=by
 let%[o,g,h,t,ss,e,a|_]:=c;show Z2 (Ng (b:=hW) %[o,e|a.1] (by kernel_rfl) (Z3 d))
def lB(d:bx w b e s.heap)(f:Q e.length s):↥A (P9 b) Q E s:=by
 let%[o,u,v,t,ss,g,h,i,a,j,l,m,y,n,p|c]:=d;let r:=by
  let q:=bE a;rw[Z6,Zb,j.length_eq]at q;show q
 show Z2 (NK g i n (Z3 (r▸f)))
def Ek(N:bx w r ks s.heap)(O:bx w b T s.heap)(ne:r≠b)(big: ~~~T< ~~~ks)(few: ~~~ks<=900)
 (hQ:∀h' d f,(∀c o,c≠r->s.heap.get? c∣o->h'.get? c∣o)->(∀x,x∈f↔x∈ks/\x∉T)->bx w r f h'->Q () {s with heap:=h',drawn:=d}):↥A (OU nm r (.ref b)) Q E s:=by
 unfold OU;rw[ij (by simpa using ne.symm)];show Z2 (uY O ?_);rw[ix rfl];show Z2 (Z3 (Z2 (lB O (Z2 (lB N ?_)))));rw[ij ⋯];let%[o,es,ep,t,ss,ho,an,hd,as,hp,a0,a1,hb,hf,a2|al]:=id O;let B:∀(s':kG) (Q':iv->kG->Prop),s'.heap.get? b∣o->Q' ep s'->↥A (SX b) Q' E s':=λs' Q' e q=>by
  unfold SX;show Z2 (oT e hd hf (Z3 q))
 show Z2 (B s _ ho (Z2 (zp (Z2 (sV O (λc j=>%[ks|(Xv j)▸N]) (λ_ e=>(nomatch e)) λzs d h1 pz k1 _=>Z2 ?_)))));rw[<-P6];show fU (λxs _ s'=>∃g rest h',zs=g++rest/\xs=rest.map (hsE w)/\s'={s with heap:=h',drawn:=d}/\(∀c o,c≠r->s.heap.get? c∣o->h'.get? c∣o)/\∃f,bx w r f h'/\∀x,x∈f↔x∈ks/\x∉g\1) _ _ _
  %[[],zs,h1,rfl,rfl,rfl,λc o _ e=>k1 c o ∅ e,ks,N.keep λo e=>k1 r o ∅ e|by simp] ?_ ?_
 .intro x xs _ s' %[g,rest,h',U,ex,rfl,Y,f,S|h];cases rest with
  | nil=>cases ex
  | cons p rest=>
  rw[Yw]at ex;injection ex with ab ac
  subst ab;show Z2 (zp (wG (z:=p.1) (tk:=p.2) (s:={s with heap:=h',drawn:=d}) S λh2 bb sb S2=>Z2 ?_));unfold NO;let C:∀c o,c≠r->s.heap.get? c∣o->h2.get? c∣o:=λc o j e=>(sb.2 c j).trans (Y c o j e)
  show Z2 (B {s with heap:=h2,drawn:=d} _ (C b o ne.symm ho) ?_);rw[ij ∅];show Z3 (Z3 %[g++[p],rest,h2,by rw[U,Ze];rfl,ac,rfl,C,_,S2|λx=>?_]);rw[S.nd.mem_erase_iff,h,Zd,Yy,Yw,QR,X4,Og]
  constructor
  .show λ⟨a,b,c⟩=>%[b,c|a]
  .show λ⟨b,c,a⟩=>%[a,b|c]
 .intro _ s' %[g,rest,h',U,ex,rfl,Y,f,S|h];obtain rfl:rest=[]:=by
   cases rest with
   | nil=>rfl
   | cons p rest=>cases ex
  rw[Zz]at U;let h:∀x,x∈f↔x∈ks/\x∉T:=λx=>by rw[h,<-U,pz.mem_iff]
  let ae: ~~~f≠0:=λe=>by
   let:=_ST.nodup_sub N.nd (m:=T) λx hx=>MN λq=>by
    let:=(h x).mpr %[hx|q];rw[zz.mp e]at this;cases this
   lia
  let sub:=_ST.nodup_sub S.nd λx hx=>((h x).mp hx).1
  show Z3 ?_;let%[o2,n,a3,t2,a4,u,G,v,i,H,I,J,a5,L,M|y]:=id S;let hn:=by
   let q:=bE i;rw[Z6,Zb,H.length_eq]at q;show q
  show Z2 (oT u v L ?_);dsimp only
  split
  .rw[show MJ n.size=n.size*4 by unfold MJ;rw[ij ⋯]];show _ST.relay_w u v L ⋯ ⋯ λag t' P W l p m1 m2=>?_
   let sz:ag.size=n.size:=by rw[<-Zb,P.length_eq,Zb]
   let%[ts,r1|r2]:=cm i (P\2);show hQ _ d f (λc o j e=>((v0.update h' r _).2 c j).trans (Y c o j e)) h (bx.stored u G v r1 (r2.trans H) I (λe he=>J e (P.mem_iff.mp he)) ⋯ (zT W ⋯) (p▸M ⋯) (l▸y)).2
  .show Z3 (hQ h' d f Y h S)
def wH(a:Q (.ref ⇑s) (s>>>s.heap.push (bO w))):↥A (newSet (.type "set")) Q E s:=by
 show Z2 (Z2 (Ma (Z3 (L1 a))))
def wI(d:bx w a ks s.heap)(e:Q (.type "set") s):↥A (U3 a) Q E s:=by
 let%[o,g,h,t,ss,f,c|_]:=d;show Z2 (Ng (b:=hW) %[o,f|c.1] (by kernel_rfl) (Z3 e))
def GF(v:bx w a ks s.heap)(C:bx w b I s.heap)(few: ~~~ks<=900)
 (hQ:∀h' d i,(∀c o,s.heap.get? c∣o->h'.get? c∣o)->(∀x,x∈i↔x∈ks/\x∉I)->bx w ⇑s i h'->Q (.ref ⇑s) {s with heap:=h',drawn:=d}):↥A (PB nm a (.ref b)) Q E s:=by
 let lt:∀{c:jg} {ls:ZB},bx w c ls s.heap->c≠⇑s:=λ{c ls} h=>by
  let%[o,_,_,_,_,U|_]:=h;show Zt (Zv U)
 let J:∀c o,s.heap.get? c∣o->(s.heap.push (bO w)).get? c∣o:=λc o e=>Z7 _ e
 let Y:(s.heap.push (bO w)).get? ⇑s∣bO w:=Zj _ rfl;let S1:=v.keep λo e=>J a o e
 let O1:=C.keep λo e=>J b o e
 unfold PB;dsimp only;show Z2 (uY C ?_);rw[ij (!1)];show Z2 (Z3 ?_);rw[ij ∅,ix rfl];show Z2 (lB C (Z2 (lB v ?_)))
 generalize hG:s.heap.push (bO w)=G at J Y S1 O1
 split
 .show Z2 (NY (Z2 ?_));unfold U2;show Z2 (wI v (Z2 (wH ?_)));rw[hG];show Z2 (Z3 (Z2 (Ej (s:=(s>>>G)) S1 Y (Lx (lt v)) ⋯ ⋯ λh1 sb R1=>Z3 ?_)));let k1:∀c o,s.heap.get? c∣o->h1.get? c∣o:=λc o e=>(sb.2 c (Zt (Zv e))).trans (J c o e)
  show Z2 (Z3 (Z2 (zp (Ek (s:=(s>>>h1)) R1 (C.keep λo e=>k1 b o e) (Lx (lt C)) ⋯ few λl d i k2 y M=>Z3 (hQ l d i (λc o e=>k2 c o (Zt (Zv e)) (k1 c o e)) y M)))))
 .show Z2 (wI v (Z2 (wH ?_)));rw[hG];show Z2 (Z3 ?_);let%[o,es,ep,t,ss,U,a3,hd,a4,hp,a5,a6,hb,hf,bc|as]:=id S1;let L:∀(s':kG) (Q':iv->kG->Prop),s'.heap.get? a∣o->Q' ep s'->↥A (SX a) Q' E s':=λs' Q' e q=>by
   unfold SX;show Z2 (oT e hd hf (Z3 q))
  show Z2 (L (s>>>G) _ U ?_);rw[ix rfl];show Z2 (zp (Z2 (sV (s:=(s>>>G)) S1 (λc B=>?_) (λr e=>⟨by cases e;show Lx (lt v),by cases e;show bx.empty Y⟩) λzs d h1 pz k1 r1=>Z2 ?_)))
  .simp only[X2,Xc,Mb]at B;rcases B with rfl|rfl
   .show%[_|O1]
   .show%[_|bx.empty Y]
  rw[<-P6];show fU (λxs _ s'=>∃f rest h',zs=f++rest/\xs=rest.map (hsE w)/\s'={s with heap:=h',drawn:=d}/\(∀c o,c≠⇑s->G.get? c∣o->h'.get? c∣o)/\∃i,bx w ⇑s i h'/\ ~~~i<= ~~~f/\∀x,x∈i↔x∈f\1/\x∉I) _ _ _
   %[[],zs,h1,rfl,rfl,rfl,(λc o B e=>k1 c o (λq=>B (Za q).symm) e),[],r1 _ rfl,Zi _|by simp] ?_ ?_
  .intro x xs _ s' %[f,rest,h',H,ex,rfl,g,i,M,ml|y];cases rest with
   | nil=>cases ex
   | cons p rest=>
   rw[Yw]at ex;injection ex with ab N
   subst ab;let zl: ~~~zs= ~~~ks:=by rw[<-pz.length_eq,Z6]
   let pl: ~~~f< ~~~ks:=by rw[<-zl,H,Z9,Zr];lia
   rw[ix rfl];let m:∀(l:z4) Qx,(∀c o,c≠⇑s->G.get? c∣o->l.get? c∣o)->Qx (.yield ⟨⟩) {s with heap:=l,drawn:=d}->↥A (NO nm a ep>>= λ_=>pure (Oc PUnit.unit)) Qx E {s with heap:=l,drawn:=d}:=λl Qx k2 q=>by
    show Z2 ?_;unfold NO;show Z2 (L {s with heap:=l,drawn:=d} _ (k2 a o (lt v) U) ?_);rw[ij ∅];show Z3 (Z3 q)
   let mem:∀x,x∈(f++[p])\1↔x∈f\1\/x=p.1:=λx=>by rw[Zd,Yy,Yw,QR,X4]
   let%[o2,be,bf,t2,bl,ac,a0,ae,n,O,a1,T,ag,al,a2|an]:=id O1;show Z2 (zp (Z2 (wF (ks:=I) (z:=p.1) (tk:=p.2) (g b o2 (lt C) ac) ae T ag al λq q1 q2=>Z2 (Z3 ?_))));cases q with
   | none=>
     let hz:p.1∉I:=λz=>by
      let%[u|hu]:=(eO n).mpr (O.mem_iff.mpr z);let%[e,he|q3]:=Xw hu;show q1 rfl e he u q3
     rw[ix (by rfl)];show Z2 (kW (z:=p.1) (tk:=p.2) M (by rw[show N9=4096 from rfl];lia) λl bb sb M2=>Z3 ?_);let k2:=λc o B e=>(sb.2 c B).trans (g c o B e)
     show m l _ k2 %[f++[p],rest,l,by rw[H,Ze];rfl,N,rfl,k2,_,M2,?_|λx=>?_]
     .rw[Z9,Yq]
      split
      .lia
      .rw[Z9,Yq];lia
     .rw[mem];by_cases hx:x=p.1
      .subst hx;show%[λ_=>%[.inr rfl|hz]|λ_=>?_]
       split
       .rename_i h;show h
       .show X1 _ Zm
      .split
       .rw[y];show%[λh=>%[.inl h.1|h.2]|λh=>%[h.1.resolve_right hx|h.2]]
       .rw[Yy,X4,y];show%[λh=>let h:=h.resolve_right hx;%[.inl h.1|h.2]|λh=> .inl %[h.1.resolve_right hx|h.2]]
   | some j=>
     let hz:p.1∈I:=by
      let%[u|hu]:=q2 j rfl;show O.mem_iff.mp ((eO n).mp %[u|Xx %[_,Z8 hu|rfl]])
     rw[ij ∅];show Z3 (m h' _ g %[f++[p],rest,h',by rw[H,Ze];rfl,N,rfl,g,i,M,by rw[Z9];lia|λx=>?_]);rw[y,mem];show%[λh=>%[.inl h.1|h.2]|λh=>%[h.1.resolve_right λe=>h.2 (e▸hz)|h.2]]
  .intro _ s' %[f,rest,h',H,ex,rfl,g,i,M,ml|y];obtain rfl:rest=[]:=by
    cases rest with
    | nil=>rfl
    | cons p rest=>cases ex
   rw[Zz]at H;show Z3 (Z3 (hQ h' d i (λc o e=>g c o (Zt (Zv e)) (J c o e)) (λx=>by rw[y,<-H,pz.mem_iff]) M))
end
def uZ:UM table "set.__sub__"=hY oy.«frozenset.__sub__»:=S8 (id':="frozenset.__sub__") (by kernel_rfl) rfl (!0) (by kernel_rfl)
section
variable{X:Cx}
abbrev El(w:xl):R2:=λx y H Q=>asR x λa=>asR y λb=>∃ks d,H a∣ki w a ks/\H b∣ki w b d/\ ~~~ks<=900/\∀l c,H l=hV->(∀x,x∈c↔x∈ks/\x∉d)->c.Nodup->Q (.ref l) (Qa H l (ki w l c))
def GG:OpR X (Mi .Sub) (El X.w):=by
 intro gx s A H x y v u Q I l m h;let%[a,rfl|n]:=aN h;let%[b,rfl,ks,B,p,r,few|q]:=aN n;cases l;cases m;let%[S,_|_]:=(I.hok a _ p)
 let%[O,_|_]:=(I.hok b _ r)
 let e:∀{c:jg} {i:ZB},bx X.w c i s.heap->s.TypeIs (.ref c) _:=λ{c i} h=>by
  let%[o,C,E,t,ss,f,g|_]:=h;show%[o,f|g.1]
 show wpAny_binaryOp_same (e S) (e O) F.fills_set_sub Wn (LX Wn (e S) uZ (Z2 (Z2 (Z3 (Z3 (Z2 (Z2 (uY S (uY O (Z2 (Z3 (Z2 (GF S O few λh' d j k w M=>Z3 %[_,rfl,by simp,.ref ⇑s,_,I.stoodS (o:=ki X.w ⇑s j) (I.keptS k rfl rfl) (Zi _) %[M,?_|λ_ _ z k1=>bx.keep z k1],rfl|q _ j (I.hok.fresh (Zi _)) w M.nd])))))))))))) (F.args_set_sub_2 _ _));let%[o,_,_,_,_,f|_]:=M;show%[o|f]
def JM(h:X.w=w):OpQ X (Mi .Sub) (El w):=by subst h;show⟨GG⟩
end
def lC{X:Cx}(a:bH k X.A)(b:L7 .NotIn o=hX)(hi:QE X i ty)(c:QE X o d):QT X (.Compare i [.NotIn] [o] pos) (tB (ur ty d)):=
 ⟨B8 (AX (by let:=a.units;lia) hi.h c.h) b⟩
open PySem PySem.Spec PyProof.Rows PySem.SeqAt
section
variable{X:Cx}
variable{K:ZA}{pos:Pos}
def af(i:iv){x:ku}(h:(X.N[i]?,X.env.scope.names.lookup x,x==("__debug__":ku),x==("__classdict__":ku))=(hY x,hY .local,hX,hX)):QE X (.Name x pos) (mx i):=by
 simp only[Mo]at h;show vn i h.1 (.inl h.2.1) h.2.2.1 h.2.2.2
def bY(i:iv){x:ku}(h:(X.N[i]?,X.env.scope.names.lookup x,x==("__debug__":ku),x==("__classdict__":ku))=(hY x,hY .cell,hX,hX)):QE X (.Name x pos) (mx i):=by
 simp only[Mo]at h;show vn i h.1 (.inr (.inl h.2.1)) h.2.2.1 h.2.2.2
def aJ{mg:ZC}{j k:iv}{x:ku}{ps:ZB}{sp:Sp}{p:Pos}{e:G2}{a:hH G2}{t:TA}(C:Cal X.prog X.w K mg X.base j x ps sp)(b:bH k X.A)(h:(X.K,X.mg,X.env.kindOf x,Px j k,x==("__debug__":ku),(e::a).any aT)=(K,mg,hY .globalImplicit,hW,hX,hX))(c:QA X (e::a) t):QE X (.Call (.Name x p) (e::a) [] pos) (rP sp [] E0 t):=by
 simp only[Mo]at h;let%[rfl,rfl|h]:=h;show calE C b h.1 h.2.1 h.2.2.1 h.2.2.2 c
def Hv{mg:ZC}{j k:iv}{x:ku}{ps:ZB}{sp:Sp}{p:Pos}{e:G2}{a:hH G2}{t:TA}(C:Gu X.prog X.w K mg X.base j x ps sp)(c:wv K mg x)(b:bH k X.A)(h:(X.K,X.mg,X.env.kindOf x,Px (j+1) k,x==("__debug__":ku),(e::a).any aT)=(K,mg,hY .globalImplicit,hW,hX,hX))(d:QA X (e::a) t):QE X (.Call (.Name x p) (e::a) [] pos) (zq (aE mg x) sp [] E0 t):=by
 simp only[Mo]at h;let%[rfl,rfl|h]:=h;show KY C c b h.1 h.2.1 h.2.2.1 h.2.2.2 d
def pC{mg:ZC}{j k:iv}{x m:ku}{ps:ZB}{sp:Sp}{a:Pos}{o:G2}{b:TE}{pl:Sem su}(C:By X.prog X.w K mg X.base j x m ps sp)(c:wv K mg x)(e:bH k X.A)(h:(X.K,X.mg,Px j k)=(K,mg,hW))
 (g:L9 (.Call (.Attribute o m a) [] [] pos) X.env=(do
  let d<-L9 o X.env
  QM a.atName
  let(f,first)<-RK [d] (PQ d m pl)
  Ta pos f first (MM pos (vi [] X.env)) (Pe pos (ND [] X.env)))) (i:QE X o b):QE X (.Call (.Attribute o m a) [] [] pos) (zo (aE mg x) m sp [] E0 b AQ):=by
 simp only[Mo]at h;let%[rfl,rfl|h]:=h;show JD C c e h g i
def cbO{x:ku}{id:L8}{r:hH V->Hp->VK->Prop}{p:Pos}{e:G2}{a:hH G2}{t:TA}(b:b8 X (.builtin id) r)(c:X.mg x=hV)(d:MS x∣.builtin id)(h:(X.env.kindOf x,x==("__name__":ku),x==("__debug__":ku),(e::a).any aT)=(hY .globalImplicit,hX,hX,hX))(f:QA X (e::a) t):QE X (.Call (.Name x p) (e::a) [] pos) (tCB r t):=by
 simp only[Mo]at h;show cbE b h.1 c d h.2.1 h.2.2.1 h.2.2.2 f
def ctO{x:ku}{T:L8}{r:hH V->Hp->VK->Prop}{p:Pos}{e:G2}{a:hH G2}{t:TA}(b:b8 X (.type T) r)(c:X.mg x=hV)(d:MS x∣.type T)(h:(X.env.kindOf x,x==("__name__":ku),x==("__debug__":ku),(e::a).any aT)=(hY .globalImplicit,hX,hX,hX))(f:QA X (e::a) t):QE X (.Call (.Name x p) (e::a) [] pos) (tCB r t):=by
 simp only[Mo]at h;show ctE b h.1 c d h.2.1 h.2.2.1 h.2.2.2 f
def bmO{o e:G2}{c:hH G2}{f:TE}{t:TA}{name:ku}{a b:Pos}{T id:L8}{r:V->hH V->Hp->VK->Prop}(g:Oz T)(slot:Slot T name id)(d:OM (.builtin id)=pure (.type "method_descriptor"))(i:MtQ X id r)
 (h:(X.K,iI o,(e::c).any aT,Wj (e::c).length 30,a.endLine==b.line)=(K,hX,hX,hW,hW)) (j:QE X o f) (l:QA X (e::c) t):QE X (.Call (.Attribute o name a) (e::c) [] b) (tBM K T r f t):=by
 simp only[Mo]at h;let%[rfl|h]:=h;show bmE rfl g slot d i h.1 h.2.1 h.2.2.1 h.2.2.2 j l
def aI(i:iv){x:ku}{e:G2}{b:TE}{a:Pos}(c:X.N.Nodup)(h:(X.N[i]?,X.env.scope.names.lookup x,gB e)=(hY x,hY .local,hX))(d:QE X e b):QS X (.Assign [.Name x a] e pos) (qN b (kO i)):=by
 simp only[Mo]at h;show uA i c h.1 (.inl h.2.1) (.inr h.2.1) h.2.2 d
def aH(i:iv){x:ku}(a:X.N.Nodup)(h:(X.N[i]?,X.env.scope.names.lookup x)=(hY x,hY .local)):QG X (.Name x pos) (kO i):=by
 simp only[Mo]at h;show oH i a h.1 (.inl h.2) (.inr h.2)
#where
variable{x:jg}{C:jg}{name:ku}{v:iy}{ox:NB}
variable{o:G2}{value:G2}{nm:ku}{ta:TE}{tv:TE}{pos':Pos}
end
abbrev kC:V->su
 | .byt _=>hX
 | .flt _=>hX
 | _=>hW
def d7(r:aK xs us)(h:j<us.toArray.size):∃x,xs[j]?∣x/\aX x us.toArray[j]:=by
 let l:=h;let a:j< ~~~xs:= ~~~r▸l;let%[u,b|c]:=r.get (i:=j) (x:=xs[j]) ∅
 simp_all
def mH{A:wy}{s:kG}{x:V}{u v:iy}(e:kC x=hW)(a:aX x u)(c:aX x v):LN A s u v hW:=by
 cases x with
 | int i=>
   let%[t|rfl]:=a;let%[d|rfl]:=c;let:=LN.int_int (A:=A) (s:=s) i t i d;rwa[Oy]at this
 | str z=>
   let%[t|rfl]:=a;let%[d|rfl]:=c;let:=LN.str_str (A:=A) (s:=s) z t z d;rwa[Oy]at this
 | byt b=>cases e
 | flt b=>cases e
 | _=>cases a;cases c;show SA _
abbrev zU(H:Hp)(x y:V):Prop:=(x=y/\kC x=hW)\/∃a b xs,x= .ref a/\y= .ref b/\H a<*xs/\H b<*xs/\xs.all kC=hW
def wJ{xs:hH V}(h:xs.all kC=hW){j:iv}{x:V}(e:xs[j]?∣x):kC x=hW:=MV.mp h x (Z8 e)
section
#version
def yN(I:Qc X gx σ H s){A:wy}(h:zU H x y)(n:A.units<Nx)(f:aX x u)(g:aX y v):LN A s u v hW:=by
 rcases h with⟨rfl,d⟩|⟨a,b,xs,rfl,rfl,o,p,d⟩
 .show mH d f g
 .cases f;cases g;by_cases e:a=b
  .subst e;show SA _
  .let%[us,i,q|_]:=I.list (Qb.of o);let%[vs,l,r|_]:=I.list (Qb.of p);let c:=TU (A:=A) (s:=s) (e:=λ_=>hW) q.isList r.isList (by rw[Zp,Zp,<-i.length,<-l.length]) n λj w z=>by
    let%[x,ex|B]:=d7 i w;let%[y,m|C]:=d7 l z;rw[ex]at m;cases m;show mH (wJ d ex) B C
   rw[show(q7 us.toArray.size).all (λ_=>hW)=hW by simp]at c;show SO e c
end
section
variable{X:Cx}
nonrec abbrev K1:R2:=λx y H Q=>∃a b xs ys,x= .ref a/\y= .ref b/\H a<*xs/\H b<*ys/\ ~~~xs= ~~~ys/\(∀(j:iv) x y,xs[j]?∣x->ys[j]?∣y->zU H x y)/\Q (.bl hW) H
def JN(C:X.A.units+64<Nx):OpR X (pw .Eq) K1:=by
 intro gx s E H x y v u Q I d f h;let%[a,b,xs,ys,rfl,rfl,g,i,l,m|q]:=h;cases d;cases f;let%[us,d,n|_]:=I.list (Qb.of g);let%[vs,f,o|_]:=I.list (Qb.of i);let c:=TU (A:=X.A) (s:=s) (e:=λ_=>hW) n.isList o.isList (by rw[Zp,Zp,<-d.length,<-f.length,l]) ⋯ λj p r=>by
  let%[x,ex|w]:=d7 d p;let%[y,z|B]:=d7 f r;show yN I (m j x y ex z) (by change X.A.units+1<Nx;lia) w B
 rw[show(q7 us.toArray.size).all (λ_=>hW)=hW by simp]at c;show c _ _ _ _ %[.bl _,H,I,rfl|q]
def Hw(a:bH k X.A):OpQ X (pw .Eq) K1:=⟨JN a.units⟩
nonrec abbrev K2:R2:=λx y H Q=>asR x λa=>asR y λb=>∃xs,H a<*xs/\H b<*[]/\Q (.bl (decide (xs=[]))) H
def JO(w:X.A.units+64<Nx):OpR X (pw .Eq) K2:=by
 intro gx s z H x y v u Q I d f h;let%[a,rfl|g]:=aN h;let%[b,rfl|i]:=aN g;let%[xs,o,p|q]:=i;cases d;cases f;let%[us,d,m|_]:=I.list (Qb.of o);let%[vs,f,n|_]:=I.list (Qb.of p);obtain rfl:vs=[]:=zz.mp f.length.symm;by_cases l:xs=[]
 .subst l;obtain rfl:us=[]:=zz.mp d.length.symm;let c:=TU (A:=X.A) (e:=λ_=>hW) m.isList n.isList rfl ⋯ λj r B=>on r (Xb _)
  show c _ _ _ _ %[.bl _,H,I,rfl|q]
 .rw[Zh l]at q;let c:=RcAt.lists_lengths (A:=X.A) m.isList n.isList (by
   let: ~~~us≠0:= ~~~d▸λq=>l (zz.mp q)
   simpa using this) ⋯
  show c _ _ _ _ %[.bl _,H,I,rfl|q]
def dinE(a:bH k X.A)(b:L7 .In o=hX)(hi:QE X i ty)(c:QE X o d):QE X (.Compare i [.In] [o] pos) (FT ty d):=⟨HV (CH (by let:=a.units;lia) hi.h c.h) b⟩
def Em(a:bH k X.A):OpQ X (pw .Eq) K2:=⟨JO a.units⟩
end
def pD:∀{zs:ZB} {its:ZF},aK (zs\3) its->ReadsAll h its (zs.map OF) []
 |[],_,.nil=> .nil
 | z::zs,_,.cons r v=>by
   let%[t|rfl]:=r;show .cons (.str _ _) (pD v)
abbrev pE(p:jg×ZB):LI:= .tuple (p.2.map OF)
def pF{X:Cx}(I:Qc X gx h H s):∀{ss:ZG} {its:ZF},aB H ss->aK (ss\0) its->∃a,ReadsAll s.heap its (ss.map pE) a
 |[],_,_,.nil=>%[_|.nil]
 | p::ss,_,t,.cons r v=>by
   cases r;let%[us,b,%[%[cls,i,data|j],c,d,n|e]|_]:=I.tuple (SqT.of (t p (Zm ..)).2);let%[bs|f]:=pF I (λq g=>t q (Zk _ g)) v;show%[_|.cons (.tuple c d e (pD b)) f]
def yO(zs:ZB):OG (zs.map OF)=hW/\OO (zs.map OF)=hX/\Pl (zs.map OF)=0:=by
 induction zs with
 | nil=>show%[ρ,ρ|ρ]
 | cons z zs a=>simp only[Yw,OG,OO,Pl,a.1,a.2.1,a.2.2];show%[ρ,ρ|ρ]
def yP{zs:ZB}(h:∀z∈zs,~~~z<=30/\∀c∈z.cps.toList,c<16^8):N3 8 (zs.map OF)=hW/\OY (zs.map OF)<=31* ~~~zs:=by
 induction zs with
 | nil=>show%[ρ|Zi _]
 | cons z zs d=>
   let%[a|b]:=d λy e=>h y (Zk _ e)
   let%[l|c]:=h z (Zm ..);simp only[Yw,N3,OY,R3,a,Zr,su.and_true];let: ~~~z=z.cps.size:=rfl;show%[MV.mpr λx f=>Zf (c x f)|⋯]
def yQ{ss:hH _}(h:∀p∈ss,~~~p.2<=3/\∀z∈p.2,~~~z<=30/\∀c∈z.cps.toList,c<16^8):OG (ss.map pE)=hW/\OO (ss.map pE)=hX/\Pl (ss.map pE)<=1/\N3 8 (ss.map pE)=hW/\OY (ss.map pE)<=94* ~~~ss:=by
 induction ss with
 | nil=>show%[ρ,ρ,Xl _,ρ|Zi _]
 | cons p ss f=>
   let%[a,b,c,d|e]:=f λy g=>h y (Zk _ g)
   let%[l|z]:=h p (Zm ..);let%[i,j|m]:=yO p.2;let%[n|o]:=yP z;simp only[Yw,pE,OG,Ud,OO,Uq,Pl,U8,N3,Tp,OY,R3,i,j,m,n,Zr];show%[a,b,⋯,d|⋯]
section
#version
def En{k:ZB}{x:V}{j:iv}(h:(k\3)[j]?∣x):∃z,k[j]?∣z/\x= .str z:=by
 rw[Zl]at h;let%[z,e|rfl]:=Ly.mp h;show%[z,e|ρ]
def wK{k l:ZB}(h:k\3=l\3):k=l:=(TV λ_ _=>V.str.inj).mp h
def Eo(I:Qc X gx σ H s){A:wy}{a b:jg}{k l:ZB}(g:H a&&&k\3)(f:H b&&&l\3)(q:A.units<Nx):LN A s (.ref a) (.ref b) (decide (k=l)):=by
 by_cases e:a=b
 .subst e;rw[g]at f;rw[Zf (wK (HO.tup.inj (Za f)))];show SA _
 .let%[us,m,r|_]:=I.tuple (SqT.of g);let%[vs,n,v|_]:=I.tuple (SqT.of f);let d:=Wg r v q λj o p=>by
   let%[x,ex|w]:=d7 m o;let%[y,B|C]:=d7 n p;let%[z,E|rfl]:=En ex;let%[u,G|rfl]:=En B;let:=CB (A:=A.in1) (s:=s) w C rfl rfl;rw[show eqV _ _=decide (k[j]? =l[j]?) by rw[E,G];change(z==u)=_;by_cases c:z=u<;> simp[c]]at this;show this
  rw[show((q7 _).all _&&us.toArray.size==vs.toArray.size)=decide (k=l) by
   rw[Zp,Zp,<-m.length,<-n.length,NH,Zx,MV,Nm];show%[λ⟨o,p⟩=>P7 λi=>?_|λh=>by lia]
   grind]at d
  show SO e d
end
section
variable{X:Cx}
nonrec abbrev zV:R2:=λx y H Q=>asR x λa=>asR y λp=>∃(k:ZB),H a&&&k\3/\∃(ws:ZG),H p∣.lst (ws\0)/\(∀t∈ws,H t.1&&&t.2\3)/\k∈ws\2/\Q (.bl hX) H
open Classical in
def BJ(i:X.A.units+64<Nx):OpR X (pw .NotIn) zV:=by
 intro gx s G H x y v u Q I l m h;let%[a,rfl|c]:=aN h;let%[p,rfl|d]:=aN c;let%[k,n,ws,o,hw,w|q]:=d;cases l;cases m;let%[us,r,pl|_]:=I.list (Qb.of o);let of:∀y∈us,∃t∈ws,y= .ref t.1:=λy f=>by
  let%[j,g|rfl]:=Yi f;let%[x,ex|rr]:=d7 r (g);rw[Zl]at ex;let%[t,b|rfl]:=Ly.mp ex;show%[t,Z8 b|(rr)]
 show notIn_listAt (λv=>decide (∃t∈ws,v= .ref t.1/\t.2=k)) pl.isList (λy f=>?_) %[.bl hX,H,I,?_|q]
 .let%[t,b|rfl]:=of y ↑f;let:=Eo I (A:=X.A.in1) (hw t b) n ⋯;rw[show decide _=decide (t.2=k)from ?_]
  .show this
  .rw[NH,Nm,Nm];show%[λ⟨t',z,B,C⟩=>?_|λh=>%[t,b,ρ|h]];let e:=hw t' z;rw[<-TQ B,hw t b]at e;rw[<-C,wK (HO.tup.inj (Za e))]
 .let%[t,b|e]:=Xw w;let%[j|g]:=Xm b;let%[u,i|E]:=r.get (by rw[Zl,g];rfl);cases E;rw[show us.toArray.any _=hW from ?_]
  .rfl
  .rw[hH.any_toArray,Sq];show%[_,Z8 i|Zf %[t,b,ρ|e]]
def Ep(a:bH k X.A):OpQ X (pw .NotIn) zV:=⟨BJ a.units⟩
def sW:∀{a:ZL} {us:ZF},aK (a\4) us->∃ps:hH (ri×Tok),ps\1=a/\us=ps.map λp=>Q6 p.1 p.2
 |[],_,.nil=>%[[],rfl|rfl]
 | n::a,_,.cons r v=>by
   let%[t|rfl]:=r;let%[ps,rfl|rfl]:=sW v;show%[(n,t)::ps,ρ|ρ]
def BK(w:X.calm=hW):cE X (.builtin "min") (λxs H Q=>oneA xs λf=>asR f λp=>∃(a:ZL),Qb X.K H p (a\4)/\0< ~~~a/\∀m∈a,(∀y∈a,m<=y)->Q (.int m) H):=by
 intro gx s L H xs us Q I r h;let%[f,rfl|c]:=bM h;let%[p,rfl|d]:=aN c;let%[a,e,g|q]:=d;let%[u,rfl|z]:=dw r;cases z;let%[its,A,B|M]:=I.list e;let%[ps,rfl|rfl]:=sW A;rw[Z6]at g;let%[C|l]:=argBest_lt _ (~~~ps-1);show min_intList (I.ok.hd w) ((show intItems ps.toArray=(ps.map λp=>Q6 p.1 p.2).toArray by simp[intItems])▸B.isList) g λv h' tk n k=>?_
 generalize OS _ _=b at C l n
 let E:∀i h,numAt ps.toArray i=ps[i].1:=λi h=>by simp[numAt,h]
 let o:b< ~~~ps:=by lia
 let G:v= .int ps[b].1 ps[b].2:=by simpa [intItems,o,eq_comm]using n
 show%[.int _,H,I.kept k,%[_|G]|q _ (Xx %[_,Yh o|ρ]) λy J=>?_];let%[p,e|rfl]:=Xw J;let%[j,N|rfl]:=Yi e;let:=l j ⋯
 simp_all
def JP{K:ZA}(h:X.K=K)(b:X.calm=hW):b8 X (.builtin "min") (λxs H Q=>oneA xs λc=>asR c λp=>∃(a:ZL),Qb K H p (a\4)/\0< ~~~a/\∀m∈a,(∀y∈a,m<=y)->Q (.int m) H):=by subst h;show⟨BK b⟩
end
noncomputable abbrev Cx.tryV(X:Cx)(pn:ZE)(E:St->XK):Cx:={X with pn:=pn,xe:=λe s'=>∃gx a H s,Qc ({X with pn:=pn}) gx a H s/\CXO X.prog X.w X.stack H s (E a) e s'}
abbrev Hy(CX:CXT)(X:Cx)(E:St->XK):Prop:=∀gx (a:St) H s e s',Qc X gx a H s->CX X.stack H s (E a) e s'->X.xe e s'
def BL{X:Cx}:Hy (CXO X.prog X.w) (X.tryV pn E) E:=by
 intro gx a H s e s' I %[b,B,cls,c,d,rfl,F|q];show%[gx,a,H,s,%[KL I.ok _ _,I.os,I.bare,I.base,I.loc,I.cell,I.free,I.freeC,I.pin,I.hok|I.len],b,B,cls,c,d,ρ,F|q]
abbrev Er(K:ZA)(D:jg)(E:St->XK)(len i:iv)(e ts:TS):TS:=λDn f H=>e Dn f H/\∀b cls d c,E b cls d c->∃C,cls= .ref C/\Qp K (.ref C) (.ref D)∣hW/\
 ∀a,~~~b=len->c a=hV->ts (Dn.gone i) (b.set i (hY (.ref a))) (Qa c a (ExH a C d))
def zW{X:Cx}{D:jg}(l:X.stack=X.env::X.outer)(hf:X.env.frame∣X.env.locals)(hN:X.N.Nodup)(hi:X.N[i]?∣n)
 (hk:X.env.kindOf n∣.local) (hl:X.env.scope.names.lookup n∣.local) (hg:Gl X x) (hm:X.mg x∣.ref D) (c:Cat X.K D) (m:∀pn,PSs (X.tryV pn E) L tb) (h:∀a,PSs (X.suiteX a) (M::o) ts)
 (ac:(x==("__debug__":ku))=hX):
 PS X (.Try L [.ExceptHandler (hY (.Name x p)) (hY n) (M::o) N] [] [] pos) (Er X.K D E X.N.length i tb ts):=by
 intro gx s σ H Dn I %[h1|h2];show V5 (LL (m _ [] s σ H Dn (I.toPn _) h1) (λf s1 q=>?_) λe s1 q=>?_)
 .let q':=SP.ofPn q;cases f with
  | next=>show NS q'
  | brk=>show q'
  | cont=>show q'
  | ret u=>show q'
 .let%[ae,ag,H1,s2,I1,A,B,cls,dx,H',rfl,F|qE]:=q;let%[C,rfl,O|al]:=h2 ag cls dx H' qE;show zF (.inr rfl) (l▸I.ok.frames) hf (l▸F).up λha ua T=>uI ua λhb ub U=>?_
  let%[un|an]:=F.fly ub.1 (T.trans U);let J:=(I1.call' (s':=(s1>>>hb)) F.os un an F.bare λb z=>on z ∅).ofPn;let%[_,_,_,oe,vs,eb,as,a5,a6|_]:=id ub;show wpAny_handleBy_cons (codeAny_handlers_test (iE (J.toSuite A) hg hm (Dl J.kIn c.ty c.ex c.cd eb as O (codeAny_handlers_suite_as (uI ub λhc uc a0=>?_))) ac)) (by intro q;cases q);let%[a1|Y]:=F.fly uc.1 ((T.trans U).trans a0);let%[_,_,_,oc,vc,ec,a2,a3,a4|_]:=id uc;let ab:=I1.ofPn;show kM (v:= .ref A) (ab.stood3 (λ_ z=>z) ((I1.call' (s':=(s1>>>hc)) F.os a1 Y F.bare λb z=>on z ∅).ofPn) F.free F.new (ExH.ok ec a2 a3 a4)) hN hi (.inl hl) rfl (λs4 J4=>LL (h A gx s4 _ _ _ (J4.toSuite A) (al A ab.len F.free)) (λf s5 q5=>?_) λ_ _ z=>z.elim) (.inr hl);let d:∀{g:St} {G:Hp} {Q:Q7->kG->Prop},Qc (X.suiteX A) gx g G s5->(∀s',Qc X gx _ G s'->Q () s')->
   (X⁻¹) (do bindName X.env n _;UD X.env n N) Q X.xe s5:=λj h5=>Ge (j.ofSuite I.ok) hN hi hk h5
  cases f with
  | next=>
    let%[g,G,j|w]:=q5;show d j λs' y=>%[_,_,y|w]
  | brk=>
    let%[g,G,j|w]:=q5;show d j λs' y=>%[_,_,y|w]
  | cont=>
    let%[g,G,j|w]:=q5;show d j λs' y=>%[_,_,y|w]
  | ret u=>
    let%[v,g,G,j,r|w]:=q5;show d j λs' y=>%[v,_,_,y,r|w]
def tryV{X:Cx}{D:jg}(E:St->XK)(f:X.stack=X.env::X.outer)(m:X.env.frame∣X.env.locals)(o:X.N.Nodup)(hi:X.N[i]?∣n)
 (q:X.env.kindOf n∣.local) (r:X.env.scope.names.lookup n∣.local) (s:Gl X x) (u:X.mg x∣.ref D) (c:Cat X.K D) (j:(x==("__debug__":ku))=hX) (d:∀pn,QSs (X.tryV pn E) g v) (b:∀a,QSs (X.suiteX a) (h::e) ts):
 QS X (.Try g [.ExceptHandler (hY (.Name x p)) (hY n) (h::e) l] [] [] pos) (Er X.K D E X.N.length i v ts):=
 ⟨zW f m o hi q r s u c (λpn=>(d pn).h) (λa=>(b a).h) j⟩
abbrev pG(L:hH jg)(c:jg->NB)(H:Hp):Hp:=λb=>if b∈L then(match H b with|hY (.dK a)=>hY (.frz (c b) (.dK a))|x=>x)else H b
def lD(h:b∈L)(e:H b∣.dK a):pG L c H b∣.frz (c b) (.dK a):=by
 unfold pG;rw[ix h,e]
def lE(h:b∉L):pG L a H b=H b:=ij h
def gJ(h:∀a,H b≠hY (.dK a)):pG L d H b=H b:=by
 unfold pG;by_cases c:b∈L
 .rw[ix c];cases e:H b with
  | none=>rfl
  | some o=>cases o<;> first|rfl|show(h _ e).elim
 .rw[ij c]
section
variable{P:n7}{w:xl}{K:ZA}{mg:ZC}{base:z4}{k:iv}{f:jg}{fd:On}{ps:ZB}{sp:Sp}
def GH(x:HOk P w H h):HOk P w (pG L (λb=>(h.get? b).getD default) H) h:=by
 intro b o e;let st:∀{b:jg} {o:HO},cD P w H h b o->cD P w (pG L (λb=>(h.get? b).getD default) H) h b o:=λq=>q.stay (λ_ _ _ q=>q) (λc q=>by rw[gJ (λa z=>by lia)];show q) λc xs q=>by rw[gJ (λa z=>by rw[q]at z;cases z)];show q
 by_cases c:b∈L
 .by_cases d:∃a,H b∣.dK a
  .let%[a|d]:=d;rw[lD c d]at e;cases e;let%[i|g]:=(x b _ d).there;show%[by rw[g];rfl|st (x b _ d)]
  .rw[gJ (λa z=>d %[a|z])]at e;show st (x b o e)
 .rw[lE c]at e;show st (x b o e)
def JQ(u:Un fs [] H c h h'):Un fs [] H (pG L g c) h h':=by
 show%[u.keep,u.slot,λb o e n d=>?_,u.there,λb xs e=>?_,λb o v e=>?_|λb q e=>?_]
 .let:=u.free b o e n d;rw[gJ (λa z=>by lia)];show this
 .let:=u.tups b xs e;rw[gJ (λa z=>by rw[this]at z;cases z)];show this
 .let:=u.frzs b o v e;rw[gJ (λa z=>by rw[this]at z;cases z)];show this
 .let%[m|this]:=u.tbls b q e;show%[m|by rw[gJ (λa z=>by rw[this]at z;cases z)];show this]
def eM.freeze(F:eM P w K mg base CX0 k f fd ps sp):eM P w K mg base CX0 k f fd ps (λvs H Q E=>sp vs H (λv b=>∃L,∀c,Q v (pG L c b)) E):=by
 show%[λvs H Q E=>F.len vs H _ E|λA outer s H args us vs Q E d g h i j=>codeAny_mono (F.run A outer s H args us vs _ E d g h i j) λr s' a=>?_];cases r with
 | error e=>show a
 | ok l=>
   cases l with
   | ret u=>
     let%[v,z,m,n,o,p,q,L|y]:=a;show%[v,_,m,n,JQ o,GH p,q|y _]
   | next=>show a
   | brk=>show a
   | cont=>show a
end
abbrev Itk(d:jg)(o:NB)(a:hH (Key×V)):It:=⟨λi H=>H d∣.frz o (.dK a)/\i< ~~~a,λi H x b=>b=H/\∃k v,a[i]?∣(k,v)/\x=kV k,λi H=>H d∣.frz o (.dK a)/\ ~~~a<=i⟩
abbrev wL(c:TE):TI:=λe H R=>c e H λv b=>∃d o a,v= .ref d/\b d∣.frz o (.dK a)/\R (Itk d o a) b
def GI(h:jX k v=hW):aX (kV k) v:=by
 rcases a9 h with⟨i,t,rfl,rfl⟩|⟨x,t,rfl,rfl⟩
 .show%[t|ρ]
 .show%[t|ρ]
def JR{a:hH _}{vs:hH _}(r:KV a vs){i:iv}{k:Key}{v:V}(e:a[i]?∣(k,v)):∃u,vs[i]?∣(k,u)/\aX v u:=by
 induction r generalizing i with
 | nil=>cases e
 | @cons p q ps qs b t c=>
   cases i with
   | zero=>
     obtain rfl:p=(k,v):=Za e;show%[q.2,by rw[show k=q.1 from b.1];rfl|b.2]
   | succ i=>show c e
def pH(r:KV a vs): ~~~a= ~~~vs:=by
 induction r with
 | nil=>rfl
 | cons _ _ b=>simp_all
section
variable{P:n7}{w:xl}{K:ZA}{tg:G2}
def Es{X:Cx}(I:Qc X gx p H s)(e:H d∣.frz o (.dK a))(b:o.data= .dict h i):∃vs,KV a vs/\s.heap.DictAt (aU X.prog X.w) d vs i:=by
 let%[g,q,u,vs,r,v,j,l,c,m,f|n]:=I.hok d _ e;rw[g]at c;cases c;rw[b]at f;cases f;show%[vs,r,_,h,g,m,b|n]
def Et(d it:jg)(o:NB)(kvs:hH _):qO P w K tg (Itk d o kvs) [it] it (λi h=>∃es ep,o.data= .dict es ep/\h.IsKeyIter it d i kvs.length ep) where
 mem:=by simp
 obj:=λi h st b hb=>by
  let e:=↑hb
  subst e;let%[_,_,_,o,e,c|d]:=st;show%[o,e|λv z=>by rw[d]at z;cases z]
 keep:=λi h h' ⟨es,ep,ho,st⟩ k=>%[es,ep,ho|st.at λo e=>k it ∅ o e]
 item:=by
  intro X hP hw hK hc i gx s σ H E I hf st hg;subst hP hw hK;let%[es,ep,ho|st]:=st;let%[hd|hi]:=hg;let%[vs,r|da]:=Es I hd ho;let ln:=pH r;let%[u,hu|ru]:=JR r (Z4 hi);let%[f0,f1,f2,f3,f4|f5]:=hf it ∅;rw[ln]at st;show wpAny_pyNext_dict_item st da hu λkey h' hk st' sb=>?_
  rw[<-ln]at st';let%[o',e,c|dd]:=id st';show%[key,ρ|rJ e c dd (!1) %[_,H,(I.turned (λb o hb e=>(sb.2 b hb).trans e) f0 f1 f3 f4 f5),GI hk,%[ρ,_,_,Z4 hi|ρ],%[es,ep,ho|st']|λb hb=>(hf b hb).1]]
 done:=by
  intro X hP hw hK hc i gx s σ H E I hf st hg;subst hP hw hK;let%[es,ep,ho|st]:=st;let%[hd|hi]:=hg;let%[vs,r|da]:=Es I hd ho;let ln:=pH r;let%[f0,f1,f2,f3,f4|f5]:=hf it ∅;rw[ln]at st;show wpAny_pyNext_dict_end (I.ok.hd hc) st da (Xs ⋯) λh' eb=>%[rfl|I.turned (λb o hb e=>eb b o hb e) f0 f1 f3 f4 f5]
 self:=λ_ _ _ _ _ ⟨_,_,_,st⟩ h=>UA st h
def GJ{X:Cx}(p:PE X l u):PI X tg l (wL u):=by
 intro gx s y H R I h;show thP (p gx s y H _ I h) λv c x z a A B=>?_
 let%[d,o,f,e,C|q]:=B;subst e;cases A;let%[g,O,E,vs,r,G,j,m,i,J,n|L]:=a.hok d _ C;let M:c.heap.DictAt _ d vs m:=%[G,j,i,J,n|L]
 rw[g]at i;cases i;show wpAny_pyIter_dict E M %[⇑c,[⇑c],_,_,z,rfl,a.kept λb o e=>Z7 _ e,Et d _ o f,%[j,m,n,_,Zj _ rfl,rfl|by rw[pH r];rfl],λb N=>?_|q];let e:=↑N
 subst e;show a.fpOk (Zi _) (a.hok.fresh (Zi _))
def Eu{X:Cx}(a:QE X l b):QI X tg l (wL b):=⟨GJ a.h⟩
end
section
variable{X:Cx}
abbrev K3:V->hH V->Hp->VK->Prop:=λx vs H Q=>asR x λa=>∃b,vs=[.ref b]/\∃c more,a≠b/\H a∣.dK c/\H b∣.dK more/\ ~~~c+ ~~~more<=lp/\Q .non (Qa H a (.dK (iG c more)))
def JS:MtM X "dict.update" K3:=by
 intro gx s C H x vs v us Q I m n h;let%[a,rfl,b,rfl,o,more,ne,g,p,i|q]:=aN h;cases m;let%[u,rfl|r]:=n.one;cases r;let%[z,w,vs,d|j]:=mY I.hok g;let%[E,e,y,c|f]:=mY I.hok p;show RN V8 j.typeIs PySem.F.entry_dict_update (PySem.F.args_dict_update_2 _ _) (meets_dict_update _ a b ne e) %[vs,y,j,f,by rw[<-pH d,<-pH c];show i|λh' l G A=>%[.non,_,n5 I (g▸LW) A (let⟨q,_,_,B,_⟩:=l;%[q|B]) (xZ (Ym (jZ _ _) i) w (KV.merge c d) l),rfl|q]]
def wM:MtQ X "dict.update" K3:=⟨JS⟩
end
def Cal.freeze{P:n7}{K:ZA}(C:Cal P w K mg base k x ps sp):Cal P w K mg base k x ps (λvs H Q E=>sp vs H (λv a=>∃L,∀b,Q v (pG L b a)) E):=by
 let%[f,c,F|r]:=C.ex;show%[f,c,F.freeze|r]
def Cal.imp{P:n7}{K:ZA}(C:Cal P w K mg base k x ps sp)(h:∀vs H Q E,a vs H Q E->sp vs H Q E):Cal P w K mg base k x ps a:=by
 let%[f,b,F|r]:=C.ex;show%[f,b,F.imp h|r]
def Ev{a:hH (Key×V)}{g:TG}{n:TS}{D:iD}(Pv:iv->St->Hp->Prop)(s:Pv 0 b H)(u:∀i b H,i<= ~~~a->Pv i b H->H d∣.frz o (.dK a))
 (w:∀i k v b H,a[i]?∣(k,v)->Pv i b H->g (kV k) b H λc l=>n {D with nx:=Pv (i+1),ct:=Pv (i+1),bk:=D.nx} c l) (z:∀b H,Pv a.length b H->D.nx b H):
 ∃W:iv->iv->St->Hp->Prop,(∃m,W 0 m b H)/\∀i m b H,W i m b H->
  ((Itk d o a).stop i H/\D.nx b H)\/((Itk d o a).go i H/\∃N:St->Hp->Prop,(∀f h,N f h->∃r,r<m/\W (i+1) r f h)/\∀x h,(Itk d o a).yld i H x h->g x b h λc l=>n {D with nx:=N,ct:=N,bk:=D.nx} c l):=by
 show%[λi m b H=>m= ~~~a-i/\i<= ~~~a/\Pv i b H,%[~~~a,by simp,Xl _|s]|?_];intro i m b H %[rfl,hi|p];let q:=u i b H hi p;by_cases j:i< ~~~a
 .show .inr %[%[q|j],Pv _,λf h A=>%[~~~a-(i+1),⋯,rfl,j|A]|λx h y=>?_];let%[e,k,v,y|rfl]:=y;subst e;show w i k v b _ y p
 .let e:i= ~~~a:=by lia
  subst e;show .inl %[%[q|Zi _]|z b H p]
section
variable{X:Cx}
variable{prog:n7}{w:xl}{A:wy}{R:Sg->kG->Prop}{I S:jg}{fp wr:hH jg}{n:iv}{P:iv->iy->Prop}{St:iv->z4->Prop}{val:iv->ri}{kn:ku}{d:iy}
variable{e:G2}{v:G2}{te:TE}{tv:TE}{p:Pos}{pos:Pos}{kpos:Pos}
variable{K:ZA}
def mI{xs:hH V}{us:ZF}(r:aK xs us):∀is:hH iv,aK (is.filterMap (xs[·]?)) (is.filterMap (us.toArray[·]?))
 |[]=> .nil
 | i::is=>by
   let h:us.toArray[i]? =us[i]? :=by simp
   rw[Y4,Y4,h];by_cases c:i< ~~~xs
   .let%[u,a|b]:=r.get (i:=i) (x:=xs[i]) ∅;rw[a,Z4 c];show .cons b (mI r is)
   .rw[Xs (by omega),Xs (by let:= ~~~r;omega)];show mI r is
end
def K4{X:Cx}{K:ZA}(h:X.K=K)(m:X.calm=hW):b8 X (.builtin "any") (λxs H Q=>oneA xs λj=>asR j λp=>∃(bs:hH su),Qb K H p (bs.map V.bl)/\Q (.bl (bs.any id)) H):=by
 subst h;show⟨λ{gx s J H xs us Q} I r h=>?_⟩;let%[j,rfl|d]:=bM h;let%[p,rfl|f]:=aN d;let%[bs,n|q]:=f;let%[u,rfl|w]:=dw r;cases w;let%[its,l,pl|L]:=I.list n;let y:p<⇑s:=by let%[o,z|_]:=pl.isList;show Zv z
 let a: ~~~bs=its.toArray.size:=by rw[Zp,<-l.length,Z6]
 show call_any_walk (Nw pl.isList ?_);show%[⇑s,[⇑s,p],[⇑s],its.toArray.size,_,_,λi=>bs.getD i hX,ρ,RP (A:=X.A.in1) (I.ok.hd m) _ p (Zt y) its.toArray,%[%[_,Zj _ rfl,ρ|ρ]|pl.isList.push _],?_|?_]
 .intro i v s' B M C c;let%[b,g|rfl]:=ut l ↑C;let c:B (bs.getD i hX) s':=c;rw[Zc,g]at c;show ME c
 .intro h' tk E;rw[<-a,show(q7 bs.length).any _=bs.any id by
   let e:(q7 bs.length).map (λi=>bs.getD i hX)=bs:=OI ∅ λi N G=>by simp[G]
   rw[show(q7 bs.length).any _=((q7 bs.length).map λi=>bs.getD i hX).any id by rw[hH.any_map];rfl,e]]
  show%[.bl _,H,I.kept λb o e=>E b o (λg=>on (Xv g) (Zt (Zv e))) (Z7 _ e),ρ|q]
section
variable{prog:n7}{w:xl}{A:wy}{R:Sg->kG->Prop}{I:jg}{fp wr:hH jg}{G:o0 QL->o0 QL->Prop}{n:iv}{P:iv->iy->Prop}{St:iv->kG->Prop}
variable{E:ZD}{s:kG}
end
section
variable{X:Cx}
abbrev evI(n:iv):hH iv:=sliceRange (Nk hV hV (hY 2) n).1 (Nk hV hV (hY 2) n).2.1 (Nk hV hV (hY 2) n).2.2
abbrev Ew(e b:TE):TE:=λd H Q=>e d H λx f=>b d f λy c=>∃a xs,x= .ref a/\c a<*xs/\y= .int 2/\∀p:jg,c p=hV-> ~~~((evI xs.length).filterMap (xs[·]?))<= ~~~xs->Q (.ref p) (Qa c p (.lst ((evI xs.length).filterMap (xs[·]?))))
def JT{e st:G2}{m c:TE}{pos o:Pos}(p:PE X e m)(g:PE X st c):PE X (.Subscript e (.Slice hV hV (hY st) o) pos) (Ew m c):=by
 intro gx s i H Q I h;show Te (thP (p gx s i H _ I h) λv w x z A B C=>?_);show wpAny_Slice (Vo (Vo (evalPart_some_step (thP (g gx w i z _ A C) λu f y E G J ⟨a,xs,ex,L,M,q⟩=>?_))));subst ex M;cases B;let%[j|rfl]:=(J)
 let l:Qc X gx i E {f with heap:=f.heap.push {cls:= .type "slice",data:= .fields #[.none,.none,.int 2 j]}}:=G.kept λb N q=>Z7 _ q
 let O:(f.heap.push {cls:= .type _,data:= .fields #[.none,.none,.int 2 j]}).IsSliceOf ⇑f _ _ _:=Rz ..;let%[its,r,n|T]:=l.list (Qb.of L);let d:= ~~~r;show tail_any n.isList.typeIs RE.lookup (Tt n.isList O .none .none (.int 2 j) ∅ ?_ (!2)) (by with_unfolding_all rfl);let sz:=slicePick_size_le its.toArray hV hV (hY 2);unfold V9 at sz ⊢;rw[show its.toArray.size= ~~~xs by show d.symm]at sz ⊢;let pv:=mI r (evI xs.length);let le: ~~~((evI xs.length).filterMap (xs[·]?))<= ~~~xs:=by rw[pv.length];show sz
 show%[.ref _,_,l.laid (λb N q=>Z7 _ q) (Zi _) ?_,ρ|q _ (l.hok.fresh (Zi _)) le];show%[Ym le T,_,0,pv|Zj _ rfl]
def JU{e st:G2}{c a:TE}{pos d:Pos}(f:QE X e c)(b:QE X st a):QE X (.Subscript e (.Slice hV hV (hY st) d) pos) (Ew c a):=⟨JT f.h b.h⟩
end
abbrev K5(d:TE):TE:=λe H Q=>d e H λv b=>∃(a:jg) (ss:ZG),v= .ref a/\b a∣.lst (ss\0)/\aB b ss/\ ~~~ss<=300/\(∀p∈ss,~~~p.2<=3/\∀z∈p.2,~~~z<=30/\∀c∈z.cps.toList,c<16^8)/\∀z:ku,~~~z<=400000->Q (.str z) b
def K6{X:Cx}{e:G2}{c:TE}{pos:Pos}(i:X.A.guards∣[])(O:X.A.units+64<Nx)(j:QE X e c):QE X (.FormattedValue e 114 hV pos) (K5 c):=by
 show⟨λgx s l H Q I h=>?_⟩;show wpAny_FormattedValue_repr (thP (j.h gx s l H _ I h) λu m v o b r ⟨a,ss,p,w,y,T,z,q⟩=>?_);subst p;cases r;let%[us,A,pl|_]:=b.list (Qb.of w);let%[%[cls,U,data|Y],B,C,n|E]:=pl.isList;let%[as|G]:=pF b y A;let%[J,L,f3,M|f5]:=yQ z;let len:=LI.shown_le 8 (!1) (.list (ss.map pE)) (by simpa only[Tp]using M);simp only[R3]at len;let f: ~~~(U7 (.list (ss.map pE)))<=400000:=by lia
 let g: ~~~(U7 (.list (ss.map pE)))<=lp:=Ym f (!1);show pyReprObj_of_reads (h₀:=m.heap) (d:= .list (ss.map pE)) (.list B C E G) (by simpa only[Ud]using J) (λx=>by simp only[Uq,L]at x;cases x) i (by simp only[U8];lia) (λ_ _ x=>x) (λh' t tk k=>?_) g;show Wu (λt' N=>%[.str _,o,(b.kept k).tok _,%[_|rfl]|q _ f]) g
abbrev K7(K:ZA)(c:TE):TI:=λd H R=>c d H λx b=>asR x λa=>(∃xs,Qb K b a xs)/\R (Itl K a) b
def ce{X:Cx}{K:ZA}{g l:G2}{f:TE}(h:X.K=K)(i:QE X l f):QI X g l (K7 K f):=by
 subst h;show⟨λgx s j H R I h=>thP (i.h gx s j H _ I h) λv c x m d n r=>?_⟩;let%[a,rfl,%[xs|u]|q]:=aN r;cases n;let%[its,y,p|z]:=d.list u;show Nw p.isList ⟨⇑c,[⇑c],_,_,m,rfl,d.kept (t':=c.toks) λb o e=>Z7 _ e,rK a _,%[_,Zj _ rfl,rfl|rfl],λb w=>by
  obtain rfl:b=⇑c:=↑w
  show d.fpOk (Zi _) (d.hok.fresh (Zi _)),q⟩
def Hz{X:Cx}:OpQ X (Mi .Add) IM:=⟨IP⟩
def JV{X:Cx}{K:ZA}{e:G2}{lo hi:kw G2}{a:TE}{b c:TO}{d pos:Pos}(h:X.K=K)(f:QE X e a)(g:QO X lo b)(i:QO X hi c):QE X (.Subscript e (.Slice lo hi hV d) pos) (tSl (IK K) a b c):=by subst h;show⟨Cz FO f.h g.h i.h⟩
def K8{X:Cx}{K:ZA}(h:X.K=K):OpQ X (pw .In) (rIn K hX):=by subst h;show⟨rV⟩
def eS{X:Cx}:OpQ X (Mi .Add) Hg:=⟨xQ⟩
open PySem
def K9{K:ZA}{z:ku}{H:Hp}:tyV K "str" (.str z) H=OT:=eq_true rfl
def tyL{K:ZA}{l:jg}{H:Hp}{xs:hH V}(h:Qb K H l xs):tyV K "list" (.ref l) H:= .inl %[rfl,_|h]
def tyD{K:ZA}{l:jg}{H:Hp}{a}(h:H l∣.dK a):tyV K "dict" (.ref l) H:= .inr (.inr (.inl %[rfl|.inl %[_|h]]))
abbrev gLst(K:ZA)(n:iv)(t:TGs):TG:=λv b H Q=>asR v λa=>∃xs,Qb K H a xs/\ ~~~xs=n/\t xs b H Q
def JW{X:Cx}{K:ZA}{c:hH G2}{t:TGs}{k}{pos:Pos}(g:X.K=K)(i:X.calm=hW)(d:c.any aT=hX)(h:QGs X c t):QG X (.Tuple c k pos) (gLst K c.length t):=by
 subst g;show⟨λgx s j H v u Q I r hw=>?_⟩;let%[a,rfl,xs,l,m|hw]:=aN hw;cases r;let%[its,f,p|w]:=I.list l;rw[assign_Tuple];show Z2 (Pu ?_);unfold unpack;let n: ~~~(Nn c X.env)=its.toArray.size:=by rw[(fN d).1,<-m];simpa using f.length
 rw[n,(fN d).2];show Z2 (zp (PySem.W.kun_itemsOf (I.ok.hd i) p.isList λh' q=>h.h gx _ j H xs _ Q (I.kept λb o e=>q b o (Zt (Zv e)) e) ↑f hw))
def BM{X:Cx}(E:X.calm=hW):b8 X (.builtin "sorted") (λxs H Q=>oneA xs λB=>asR B λv=>∃(a:jg),H v∣lA v a/\∃(c:hH (Key×V)),H a∣.dK c/\∃(ks:ZB),c\2=ks\3/\ ~~~ks<64/\∀l (ss:ZB),H l=hV->ss.Perm ks->ss.Pairwise (λa b=>aM b a=hX)->Q (.ref l) (Qa H l (.lst (ss\3)))):=by
 show⟨λgx s σ H xs us Q I r h=>?_⟩;let%[B,rfl|p]:=bM h;let%[v,rfl|w]:=aN p;let%[a,G,c,J,ks,f,few|q]:=w;let%[u,rfl|L]:=dw r;cases L;let%[z,hd,vs,j|M]:=mY I.hok J;let y:=(I.hok _ _ G).1;let%[o,N,O,T|U]:=M;let Y:s.heap.DictAt _ a vs O:=%[o,N,T|U]
 let vl:= ~~~j;let kl: ~~~c= ~~~ks:=by let:=vj Mf f;rwa[Z6,Z6]at this
 let hs:Me (vs\2) ks:=iO (f▸zS j);show gH (ks:=ks) (λE1 R hR=>nq kdl_values (I.ok.hd E) %[y|Y] (by rw[L3];omega) λh' tk acc k ab d=>?_) (by omega) λs1 s' l vs ss n q1 C q3 k1 g1 o1 k g o m gl=>?_
 .let e:acc.toList=vs\2:=by
   show OI (by rw[Zb,d.1,Z6]) λi h1 h2=>?_
   let%[k|ek]:=d.2 i _ (Mh h1);let%[h3|e3]:=Xt ek
   simp_all
  rw[e];show hR _ _ _ hs (.refl _) k rfl rfl
 .let A:=I.keptS k1 g1 o1;show%[.ref l,_,A.stoodS (o:= .lst _) (A.keptS k g o) m %[?_,vs,n,d6 q1|gl],ρ|q l ss (A.hok.fresh m) C q3];rw[Z6,C.length_eq,L3];omega
def bZ{v:Type}{K:ZA}{l D:jg}{us:hH v}{f:v->V}{c:St}{H:Hp}{g:TG}{w:TT}{z:TE}{A:Hp->Prop}(Pv:iv->hH V->St->Hp->Prop)(B:Pv 0 [] c H)(r:∀i ys c H,Pv i ys c H->H l<*us.map f)
 (C:∀i ys c H (hi:i< ~~~us),Pv i ys c H->g (f us[i]) c H λa s=>w a s λb d=>if b=hW then z a d λy q=>CK D us.length i Pv ys a y q else CN us.length i Pv ys a d) (E:∀ys c H,Pv us.length ys c H->A H):
 ∃W:iv->iv->hH V->St->Hp->Prop,(∃m,W 0 m [] c H)/\∀i m ys h j,W i m ys h j->((Itl K l).stop i j/\A j)\/
  ((Itl K l).go i j/\∀x u,(Itl K l).yld i j x u->g x h u λa s=>w a s λb d=>if b=hW then z a d λy q=>∃zs o,q D<*zs/\ ~~~zs<lp/\o<m/\W (i+1) o (ys++[y]) a (Qa q D (.lst (zs++[y])))
    else∃o,o<m/\W (i+1) o ys a d):=
 dL (n:= ~~~us) Pv B (λi ys c H hi p=>%[_,f us[i],Qb.of (r _ _ _ _ p)|by simp[hi]]) (λys c H p=>%[_,Qb.of (r _ _ _ _ p)|by simp]) (λi ys c H hi p x u ⟨e,G⟩=>by
  subst e;let:=G _ (Qb.of (r _ _ _ _ p));rw[Zl,Z4 hi]at this;obtain rfl:f us[i]=x:=Za this;show C i ys c _ hi p) E
def bA{j:Type}{K:ZA}{a:jg}{us:hH j}{f:j->V}{b:St}{H:Hp}{g:TG}{l:TS}{D:iD}(Pv:iv->St->Hp->Prop)(q:Pv 0 b H)(r:∀i b H,Pv i b H->H a<*us.map f)
 (s:∀i u b H,us[i]?∣u->Pv i b H->g (f u) b H λc h=>l {D with nx:=Pv (i+1),ct:=Pv (i+1),bk:=D.nx} c h) (v:∀b H,Pv us.length b H->D.nx b H):
 ∃W:iv->iv->St->Hp->Prop,(∃m,W 0 m b H)/\∀i m b H,W i m b H->
  ((Itl K a).stop i H/\D.nx b H)\/((Itl K a).go i H/\∃N:St->Hp->Prop,(∀d e,N d e->∃n,n<m/\W (i+1) n d e)/\∀x e,(Itl K a).yld i H x e->g x b e λc h=>l {D with nx:=N,ct:=N,bk:=D.nx} c h):=
 eL (xs:=us.map f) Pv q (λi b H _ p=>Qb.of (r i b H p)) (λi x b H o p=>by
  rw[Zl]at o;let%[u,w|rfl]:=Ly.mp o;show s i u b H w p) (by rw[Z6];show v)
section
variable{prog:n7}{w:xl}{A:wy}{R:Sg->kG->Prop}{I S:jg}{fp wr:hH jg}{n:iv}{P:iv->iy->Prop}{St:iv->z4->Prop}{val:iv->ri}{kn:ku}{d:iy}
end
abbrev La(a:TE):TI:=λb H R=>a b H λx c=>asS x λz=>R (Its z) c
def JX{X:Cx}{j l:G2}{g:TE}(m:QE X l g):QI X j l (La g):=by
 show⟨λgx s n H R I h=>thP (m.h gx s n H _ I h) λv c x f d p r=>?_⟩;let%[z,rfl|q]:=dS r;let%[t|rfl]:=p;let a:∀b∈[⇑c],my X gx f b:=λb u=>by
  obtain rfl:b=⇑c:=↑u
  show d.fpOk (Zi _) (d.hok.fresh (Zi _))
 cases i:z.cps.all _ with
 | true=>show Vg i %[⇑c,[⇑c],_,_,f,rfl,d.kept λb o e=>Z7 _ e,oC _ z t,%[_,Zj _ rfl,rfl|rfl],a|q]
 | false=>show VC i %[⇑c,[⇑c],_,_,f,rfl,d.kept λb o e=>Z7 _ e,sk _ z t,%[_,Zj _ rfl,rfl|rfl],a|q]
def zX{i j:ri}:decide (V.int i=V.int j)=decide (i=j):=by
 by_cases c:i=j
 .rw[c,Zf rfl,Zf rfl]
 .rw[Zh c,Zh λe=>c (V.int.inj e)]
def gK{X:Cx}:OpQ X (pw .Eq) (rI0 λi j=> .bl (decide (i=j))):=⟨λgx s a H x y v u Q I b c h=>by
 let%[i,rfl|d]:=dv h;let%[j,rfl|q]:=dv d;show Cm gx s a H _ _ v u Q I b c %[rfl|by rw[zX];show q]⟩
def HA{X:Cx}:OpQ X (pw .NotEq) (rI0 λi j=> .bl (!decide (i=j))):=⟨λgx s a H x y v u Q I b c h=>by
 let%[i,rfl|d]:=dv h;let%[j,rfl|q]:=dv d;show Cn gx s a H _ _ v u Q I b c %[rfl|by rw[zX];show q]⟩
def HB{X:Cx}:OpQ X (pw .In) IX:=⟨rL⟩
def Lb{A B:Prop}:(if hW=hW then A else B)=A:=rfl
def Lc{A B:Prop}:(if hX=hW then A else B)=B:=rfl
def u5{x:V}{a:jg}{f:jg->Prop}(h:x= .ref a)(q:f a):asR x f:=by
 rw[h];show q
abbrev asY(x:V)(f:L8->Prop):Prop:=match x with
 | .ty n=>f n
 | _=>LG
def Ld{n:L8}{f:L8->Prop}:asY (.ty n) f=f n:=rfl
def HD{x:V}{f:L8->Prop}(h:asY x f):∃n,x= .ty n/\f n:=by
 cases x<;> first|show⟨_,rfl,h⟩|show h.elim
def gM{X:Cx}{K:ZA}(h:X.K=K):b8 X (.builtin "isinstance") (λxs H Q=>mw xs λx y=>asY y λn=>∃t,jU K H x t/\∃b,Ov K t (.type n)∣b/\Q (.bl b) H):=by
 show⟨λgx s a H xs us Q I r c=>?_⟩;let%[x,y,rfl|d]:=je c;let%[n,rfl,t,e,b,f|q]:=HD d;show(KI h).h gx s a H _ us Q I r %[x,n,t,b,rfl,e,f|q]
def JY{X:Cx}{K:ZA}(h:X.K=K):b8 X (.builtin "isinstance") (λxs H Q=>mw xs λx y=>asY y λn=>∃t,TyX K H x t/\∃b,Ov K t (.type n)∣b/\Q (.bl b) H):=by
 show⟨λgx s a H xs us Q I r c=>?_⟩;let%[x,y,rfl|d]:=je c;let%[n,rfl,t,e,b,f|q]:=HD d;show(Hr h).h gx s a H _ us Q I r %[x,_,t,b,rfl,e,.inl %[n,rfl|f]|q]
def yS{X:Cx}{K:ZA}(h:X.K=K):b8 X (.builtin "isinstance") (λxs H Q=>mw xs λx y=>asR y λD=>∃t,TyX K H x t/\∃b,(Ov K t (.ref D)∣b\/∃a,H D&&&Q0 V.ref a/\S6 K t (a.map m4)∣b)/\Q (.bl b) H):=by
 show⟨λgx s c H xs us Q I r d=>?_⟩;let%[x,y,rfl|g]:=je d;let%[D,rfl,t,i,b,j|q]:=aN g;show(Hr h).h gx s c H _ us Q I r %[x,_,t,b,rfl,i,j.elim (λe=> .inr (.inl %[D,rfl|e])) (λ⟨a,e,f⟩=> .inr (.inr %[D,a,rfl,e|f]))|q]
def dO{X:Cx}{a:G2}{c:TE}(d:∀b,isTrue a X.env b=(do let v<-b;QM a.pos;RK [v] (truthy v)))(e:QE X a c):QT X a (zj c):=by
 show⟨λgx s f H Q I h=>?_⟩;show isTrue_plain (thP (e.h gx s f H _ I h) λv m x g i j l=>by
  let%[k,rfl|q]:=oj l;cases j;show ME %[g,i|q]) (d _)
abbrev rS0(g:ku->ku->V):R2:=λx y H Q=>asS x λi=>asS y λj=>Q (g i j) H
def Ex{X:Cx}:OpQ X (pw .Eq) (rS0 λi j=> .bl (decide (V.str i=V.str j))):=⟨λgx s a H x y v u Q I b c h=>by
 let%[i,rfl|d]:=dS h;let%[j,rfl|q]:=dS d;show Cm gx s a H _ _ v u Q I b c %[rfl|q]⟩
def zY{X:Cx}:OpQ X (pw .NotEq) (rS0 λi j=> .bl (!decide (V.str i=V.str j))):=⟨λgx s a H x y v u Q I b c h=>by
 let%[i,rfl|d]:=dS h;let%[j,rfl|q]:=dS d;show Cn gx s a H _ _ v u Q I b c %[rfl|q]⟩
def yT{X:Cx}:b8 X (.type "int") (λxs H Q=>oneA xs λx=>asB x λb=>Q (.int (if b=hW then 1 else 0)) H):=⟨λgx s a H xs us Q I r h=>by
 let%[x,rfl|c]:=bM h;let%[b,rfl|q]:=oj c;show C5.h gx s a H _ us Q I r (.inr %[b,rfl|q])⟩
def bN{A B:Prop}(h:B):asB (.bl hW) λk=>if(!k)=hW then A else B:=h
inductive E2 {α β:Type} (p:α->β->Prop):Prop|mk (a:α) (b:β):p a b->E2 p
inductive E3 {α β γ:Type} (p:α->β->γ->Prop):Prop|mk (a:α) (b:β) (c:γ):p a b c->E3 p
inductive E4 {α β γ δ:Type} (p:α->β->γ->δ->Prop):Prop|mk (a:α) (b:β) (c:γ) (d:δ):p a b c d->E4 p
inductive E5 {α β γ δ ε:Type} (p:α->β->γ->δ->ε->Prop):Prop|mk (a:α) (b:β) (c:γ) (d:δ) (e:ε):p a b c d e->E5 p
inductive E6 {α β γ δ ε ζ:Type} (p:α->β->γ->δ->ε->ζ->Prop):Prop|mk (a:α) (b:β) (c:γ) (d:δ) (e:ε) (f:ζ):p a b c d e f->E6 p
inductive E7 {α β γ δ ε ζ η:Type} (p:α->β->γ->δ->ε->ζ->η->Prop):Prop|mk (a:α) (b:β) (c:γ) (d:δ) (e:ε) (f:ζ) (g:η):p a b c d e f g->E7 p
inductive A3 (a b c:Prop):Prop|mk:a->b->c->A3 a b c
inductive A4 (a b c d:Prop):Prop|mk:a->b->c->d->A4 a b c d
inductive A5 (a b c d e:Prop):Prop|mk:a->b->c->d->e->A5 a b c d e
inductive A6 (a b c d e f:Prop):Prop|mk:a->b->c->d->e->f->A6 a b c d e f
inductive A7 (a b c d e f g:Prop):Prop|mk:a->b->c->d->e->f->g->A7 a b c d e f g
inductive A8 (a b c d e f g h:Prop):Prop|mk:a->b->c->d->e->f->g->h->A8 a b c d e f g h
inductive A9 (a b c d e f g h i:Prop):Prop|mk:a->b->c->d->e->f->g->h->i->A9 a b c d e f g h i
inductive A11 (a b c d e f g h i j k:Prop):Prop|mk:a->b->c->d->e->f->g->h->i->j->k->A11 a b c d e f g h i j k
inductive Ey (P:n7) (w:xl) (K:ZA) (mg:ZC) (base:z4) (k i:iv) (E:St->XK) (t:TA) (σ:St) (H:Hp) (Q:VK):Prop
 | mk (j:iv) (y:ku) (ps:ZB) (sp:Sp) (z0:yx P w K mg base j y ps sp) (z1:Px j k=hW) (z2:mx i σ H λv _=>v= .ref (aE mg y)) (z3:t σ H λvs H1=>sp vs H1 Q (E σ)):Ey P w K mg base k i E t σ H Q
def zZ{v:V}:∀{i:iv} {a:St},a[i]?∣hY v->Q v H->mx i a H Q
 | 0,_::_,e,q=>by cases e;show q
 | i+1,_::a,e,q=>zZ (i:=i) (a:=a) e q
def Le{X:Cx}{P:n7}{w:xl}{K:ZA}{mg:ZC}{base:z4}{E:St->XK}(J:Hy (CXO X.prog X.w) X E)(L:bH k X.A)(n:(X.prog,X.w,X.K,X.mg,X.base)=(P,w,K,mg,base))(d:(e::o).any aT=hX)(M:QE X (.Name x p) (mx i))(N:QA X (e::o) t):
 QE X (.Call (.Name x p) (e::o) [] pos) (Ey P w K mg base k i E t):=by
 simp only[Mo]at n;let%[rfl,rfl,rfl,rfl|rfl]:=n;rw[Zy,Xd]at d;show⟨λgx s c H Q I h=>?_⟩;let%[j,y,ps,sp,C,g,z|h]:=h;let%[f,fd,F,O,T|U]:=C.ex;rw[d0 O]at z;let%[v,Y|rfl]:=xK z;show Nl (thP (M.h gx s c H (λv H'=>v= .ref f/\H'=H) I (zZ Y %[rfl|rfl])) λu s0 v H0 A r0 q0=>?_);let%[rfl|rfl]:=q0;cases r0;show S9 A.ok.mod.kin T (thP (N.h pos gx s0 c _ _ A h) λus l vs m a r q=>%[a.kIn|?_]) (aA d.1) (dZ d.2);let B:=r.append .nil;let G:sp (vs++[]) m Q (E c):=by rw[Zz];show q
 show NC (codeAny_mono (F.run X.A X.stack l m _ _ _ Q _ (L.mono (Yj g)) a.env0 (U l us a.kIn (~~~B▸F.len _ _ _ _ G)) B G) λr s' b=>?_);cases r with
 | error e=>show J gx c m l e s' a b
 | ok fl=>
   cases fl with
   | ret u=>show a.after b
   | next=>show LR b
   | brk=>show LR b
   | cont=>show LR b
def qZ{X:Cx}{mg:ZC}{x:ku}{p:Pos}(e:X.mg=mg)(b:Gl X x)(c:mg x∣.ref (aE mg x))(a:(x==("__debug__":ku))=hX):QE X (.Name x p) (tC (.ref (aE mg x))):=by
 subst e;show clsE b c a
def aF.at_{K:ZA}{mg:ZC}{x:ku}{st:J5}{ps:ZB}(D:aF K mg x st ps):mg x∣.ref (aE mg x):=by
 let%[f,_,_,e|_]:=D.ex;rw[d0 e,e]
abbrev Lf(K:ZA)(D:jg)(len i:iv)(a:(St->XK)->TS)(ts:TS):TS:=λDn b H=>∃E:St->XK,Er K D E len i (a E) ts Dn b H
def tryE{X:Cx}{D:jg}{m:(St->XK)->TS}(f:X.stack=X.env::X.outer)(q:X.env.frame∣X.env.locals)(r:X.N.Nodup)(hi:X.N[i]?∣n)
 (u:X.env.kindOf n∣.local) (v:X.env.scope.names.lookup n∣.local) (w:Gl X x) (y:X.mg x∣.ref D) (c:Cat X.K D) (l:(x==("__debug__":ku))=hX) (d:∀E pn,QSs (X.tryV pn E) g (m E)) (b:∀a,QSs (X.suiteX a) (j::e) ts):
 QS X (.Try g [.ExceptHandler (hY (.Name x p)) (hY n) (j::e) o] [] [] pos) (Lf X.K D X.N.length i m ts):=
 ⟨λgx s z H Dn I ⟨E,h⟩=>zW f q r hi u v w y c (λpn=>(d E pn).h) (λa=>(b a).h) l gx s z H Dn I h⟩
def z5{st:hH J5}:QSs X st t5:=⟨AI⟩
def own{H:Hp}{a:jg}{o:HO}(_:ah H (Qa H a o)):Qa H a o a∣o:=aa
section
end
def BN{X:Cx}{gx:ZE}{h:St}{H:Hp}{s:kG}(I:Qc X gx h H s){A:wy}{a b:jg}{xs:hH V}(i:H a&&&xs)(l:H b&&&xs)(m:xs.all kC=hW)(n:A.units<Nx):LN A s (.ref a) (.ref b) hW:=by
 by_cases e:a=b
 .subst e;show SA _
 .let%[us,d,o|_]:=I.tuple (SqT.of i);let%[vs,f,p|_]:=I.tuple (SqT.of l);let c:=Wg (A:=A) (s:=s) (e:=λ_=>hW) o p n λj q r=>by
   let%[x,ex|u]:=d7 d q;let%[y,g|v]:=d7 f r;rw[ex]at g;cases g;show mH (wJ m ex) u v
  let w:us.toArray.size=vs.toArray.size:=by rw[Zp,Zp,<-d.length,<-f.length]
  rw[w,show((q7 (min vs.toArray.size vs.toArray.size)).all (λ_=>hW)&&vs.toArray.size==vs.toArray.size)=hW by simp]at c;show SO e c
section
variable{X:Cx}
end
section
end
section
end
end _LL
namespace _CU
open PySem _LL
inductive cX (S:ku->ku->Prop):ku->ku->Prop
 | refl (x:ku):cX S x x
 | step {x y z:ku}:cX S x y->(S y z\/S z y)->cX S x z
def cX.trans{S:ku->ku->Prop}(h:cX S x y)(g:cX S y z):cX S x z:=by
 induction g with
 | refl=>show h
 | step _ s a=>show .step a s
def cX.one{S:ku->ku->Prop}(h:S x y\/S y x):cX S x y:= .step (.refl x) h
def cX.symm{S:ku->ku->Prop}(h:cX S x y):cX S y x:=by
 induction h with
 | refl=>show .refl _
 | step _ s a=>show(cX.one s.symm).trans a
def cX.mono{S R:ku->ku->Prop}(m:∀a b,S a b->R a b)(h:cX S x y):cX R x y:=by
 induction h with
 | refl=>show .refl _
 | step _ s c=>show .step c (s.imp (m _ _) (m _ _))
def cX.within{S:ku->ku->Prop}{p:ku->Prop}(w:∀a b,S a b->p a/\p b)(h:cX S x y)(c:p x):p y:=by
 induction h with
 | refl=>show c
 | step _ s _=>
   rcases s with s|s
   .show(w _ _ s).2
   .show(w _ _ s).1
abbrev cL(S:ku->ku->Prop)(z r:ku):Prop:=cX S z r/\∀y,cX S z y->aM y r=hX
def cL.one{S:ku->ku->Prop}(h:cL S z r)(g:cL S z a):r=a:=by
 by_cases e:r=a
 .show e
 .let:=fG (g.2 _ h.1) e;rw[h.2 _ g.1]at this;cases this
structure bQ (ls:ZB) (f r:ku->ku) (S:ku->ku->Prop):Prop where
 ws:∀a b,S a b->a∈ls/\b∈ls
 fin:∀z∈ls,f z∈ls
 rin:∀z∈ls,r z∈ls
 rf:∀z∈ls,r (f z)=r z
 fr:∀z∈ls,f (r z)=r z
 fix:∀z∈ls,f z=z->r z=z
 dec:∀z∈ls,f z≠z->aM (f z) z=hW
 le:∀z∈ls,aM z (r z)=hX
 cl:∀x∈ls,∀y∈ls,r x=r y↔cX S x y
def bQ.rr{S:ku->ku->Prop}(F:bQ a f r S)(h:z∈a):r (r z)=r z:=F.fix _ (F.rin z h) (F.fr z h)
def bQ.conn{S:ku->ku->Prop}(F:bQ a f r S)(h:z∈a):cX S z (r z):=(F.cl z h _ (F.rin z h)).mp (F.rr h).symm
def bQ.least{S:ku->ku->Prop}(F:bQ b f r S){z:ku}(h:z∈b):cL S z (r z):=by
 show%[F.conn h|λy c=>?_];let a:=c.within F.ws h;rw[(F.cl z h y a).mpr c];show F.le y a
def bQ.start(a:ZB):bQ a id id (λ_ _=>LG):=by
 show%[λ_ _ h=>h.elim,λz h=>h,λz h=>h,λ_ _=>rfl,λ_ _=>rfl,λ_ _ _=>rfl,λz _ h=>(h rfl).elim,λz _=>df z|λx b y d=>%[λe=>?_|λc=>?_]]
 .rw[show x=y from e];show .refl _
 .induction c with
  | refl=>rfl
  | step _ s _=>simp_all
set_option tactic.hygienic true in
def bQ.join{S:ku->ku->Prop}(F:bQ j f r S){a b M m:ku}(q:a∈j)(w:b∈j)(B:M=if aM (r a) (r b)=hW then r b else r a)(C:m=if aM (r b) (r a)=hW then r b else r a):
 bQ j (λx=>if x=M then m else f x) (λx=>if r x=M then m else r x) (λx y=>S x y\/(x=a/\y=b)):=by
 let g:(M=r a/\m=r b)\/(M=r b/\m=r a):=by
  rw[B,C];cases e:aM _ _ with
  | true=>
    let:aM (r b) (r a)=hX:=by
     cases i:aM _ _ with
     | false=>rfl
     | true=>have:=dQ e i;rw[df]at this;cases this
    show this▸ .inr %[rfl|rfl]
  | false=>
    cases i:aM _ _ with
    | true=>show .inl %[rfl|rfl]
    | false=>
      let:r a=r b:=by
       by_cases h:r a=r b
       .show h
       .let:=fG e h;rw[i]at this;cases this
      show this▸ .inl %[rfl|rfl]
 let lt:m≠M->aM m M=hW:=by
  rw[B,C];cases e:aM _ _ with
  | true=>
    cases i:aM _ _ with
    | true=>intro h;show(h rfl).elim
    | false=>intro _;show e
  | false=>
    cases i:aM _ _ with
    | true=>intro _;show i
    | false=>intro h;show(h rfl).elim
 let Q:=F.rin a q;let T:=F.rin b w;let E:m∈j:=by rcases g with⟨_,h⟩|⟨_,h⟩<;> rw[h]<;> assumption
 let G:r M=M:=by rcases g with⟨h,_⟩|⟨h,_⟩<;> rw[h]<;> apply F.rr<;> assumption
 let L:r m=m:=by rcases g with⟨_,h⟩|⟨_,h⟩<;> rw[h]<;> apply F.rr<;> assumption
 let N:cX (λx y=>S x y\/(x=a/\y=b)) M m:=by
  let c1:cX (λx y=>S x y\/(x=a/\y=b)) _ _:=(((F.conn q).mono λ_ _=> .inl).symm.trans (.one (.inl (.inr %[rfl|rfl])))).trans ((F.conn w).mono λ_ _=> .inl);rcases g with⟨l,n⟩|⟨l,n⟩
  .rw[l,n];show c1
  .rw[l,n];show c1.symm
 let p:∀x∈j,cX _ x (if r x=M then m else r x):=λx A=>by
  let c:=(F.conn A).mono (R:=λx y=>S x y\/(x=a/\y=b)) λ_ _=> .inl
  by_cases e:r x=M
  .rw[ix e];rw[e]at c;show c.trans N
  .rw[ij e];show c
 let H:(if r a=M then m else r a)=(if r b=M then m else r b):=by
  rcases g with⟨l,n⟩|⟨l,n⟩
  .rw[ix l.symm];by_cases e:r b=M
   .rw[ix e]
   .rw[ij e];show n
  .rw[ix l.symm];by_cases e:r a=M
   .rw[ix e]
   .rw[ij e];show n.symm
 show%[λx y h=>?_,λz d=>?_,λz d=>?_,λz d=>?_,λz d=>?_,λz d h=>?_,λz d h=>?_,λz d=>?_|λx A y I=>%[λe=>?_|λc=>?_]]
 .rcases h with h|⟨rfl,rfl⟩
  .show F.ws x y h
  .show%[q|w]
 .split
  .show E
  .show F.fin z d
 .split
  .show E
  .show F.rin z d
 .by_cases e:z=M
  .rw[ix e,e,G,ix rfl,L]
   split<;> rfl
  .rw[ij e,F.rf z d]
 .by_cases e:r z=M
  .rw[ix e]
   split
   .rfl
   .show(by rcases g with⟨_,h⟩|⟨_,h⟩<;> rw[h]<;> apply F.fr<;> assumption)
  .rw[ij e,ij e];show F.fr z d
 .by_cases e:z=M
  .rw[ix e]at h;rw[e,G,ix rfl,<-e];show h
  .rw[ij e]at h;rw[F.fix z d h,ij e]
 .by_cases e:z=M
  .rw[ix e]at h ⊢;rw[e]at h ⊢;show lt h
  .rw[ij e]at h ⊢;show F.dec z d h
 .by_cases e:r z=M
  .rw[ix e];cases i:aM z m with
   | false=>rfl
   | true=>
     let o:=F.le z d;rw[e]at o;by_cases em:m=M
     .rw[em]at i;rw[o]at i;cases i
     .let:=dQ i (lt em);rw[o]at this;cases this
  .rw[ij e];show F.le z d
 .let c:=(p x A)
  rw[e]at c;show c.trans (p y I).symm
 .let ws:∀x y,(S x y\/(x=a/\y=b))->x∈j/\y∈j:=λx y h=>by
   rcases h with h|⟨rfl,rfl⟩
   .show F.ws x y h
   .show%[q|w]
  clear I
  induction c with
  | refl=>rfl
  | step c s O=>
    rename_i u v
    let J:=c.within ws A;rw[O];rcases s with(s|⟨rfl,rfl⟩)|(s|⟨rfl,rfl⟩)
    .rw[(F.cl u J v (F.ws u v s).2).mpr (.one (.inl s))]
    .show H
    .rw[(F.cl u J v (F.ws v u s).1).mpr (.one (.inr s))]
    .show H.symm
def bQ.short{S:ku->ku->Prop}(F:bQ d f r S)(b:z∈d):bQ d (λx=>if x=z then f (f z)else f x) r S:=by
 let g:f z≠z->aM (f _) z=hW:=λh=>by
  let i:=F.dec z b h;by_cases e:f (f z)=f z
  .show e▸i
  .show dQ (F.dec _ (F.fin z b) e) i
 show%[F.ws,λx a=>?_,F.rin,λx a=>?_,λx a=>?_,λx a h=>?_,λx a h=>?_,F.le|F.cl]
 .split
  .show F.fin _ (F.fin z b)
  .show F.fin x a
 .by_cases e:x=z
  .rw[ix e,F.rf _ (F.fin z b),F.rf z b,e]
  .rw[ij e];show F.rf x a
 .by_cases e:r x=z
  .rw[ix e];let:=F.fr x a
   simp_all
  .rw[ij e];show F.fr x a
 .by_cases e:x=z
  .rw[ix e]at h;rw[e]at h ⊢;by_cases c:f z=z
   .show F.fix z b c
   .let:=g c;rw[h,df]at this;cases this
  .rw[ij e]at h;show F.fix x a h
 .by_cases e:x=z
  .rw[ix e]at h ⊢;rw[e]at h ⊢;show g λc=>h ?_
   rw[c,c]
  .rw[ij e]at h ⊢;show F.dec x a h
def bQ.done{S:ku->ku->Prop}(F:bQ b f r S)(a:z∈b)(h:∀w∈b,aM w z=hW->f w=r w):f (f z)=r z:=by
 by_cases e:f z=z
 .rw[e,e];show(F.fix z a e).symm
 .rw[h _ (F.fin z a) (F.dec z a e),F.rf z a]
abbrev Ed(ks:hH ZB)(a b:ku):Prop:=∃z,[a,b,z]∈ks
inductive Rch (ks:hH ZB):ku->ku->Prop
 | one {a b:ku}:Ed ks a b->Rch ks a b
 | more {a b c:ku}:Rch ks a b->Ed ks b c->Rch ks a c
def Rch.trans(h:Rch ks a b)(g:Rch ks b c):Rch ks a c:=by
 induction g with
 | one e=>show .more h e
 | more _ e d=>show .more d e
def Rch.closed{R:ku->Prop}(a:∀y,Ed ks s y->R y)(h:∀x y,R x->Ed ks x y->R y)(r:Rch ks s y):R y:=by
 induction r with
 | one e=>show a _ e
 | more _ e b=>show h _ _ b e
def sX{ks:hH _}{laid:ZB}(h:∀i x,laid[i]?∣x->∀y,Ed ks x y->y∈laid.take i){i:iv}{x y:ku}(hi:laid[i]?∣x)(r:Rch ks x y):∃j,j<i/\laid[j]?∣y:=by
 let at_:∀i y,y∈laid.take i->∃j,j<i/\laid[j]?∣y:=λi y c=>by
  let%[j|b]:=Xm c;let d:=(Xt b).1;rw[Yr]at d;show%[j,⋯|by rwa[Yg ⋯]at b]
 show r.closed (λy e=>at_ i y (h i x hi y e)) λa y ⟨j,l,b⟩ e=>?_
 let%[f,m|g]:=at_ j y (h j a b y e);show%[f,⋯|g]
def GK{laid:ZB}(h:∀(i:iv) x,laid[i]?∣x->∀y,Ed ks x y->y∈laid.take i){x:ku}(a:x∈laid): ¬ Rch ks x x:=by
 intro r;let%[i|hi]:=Xm a;let:∀n i:iv,i<=n->laid[i]? ≠hY x:=λn=>by
  induction n with
  | zero=>
    intro i hi e;let%[j,b|_]:=sX h e r
    lia
  | succ n c=>
    intro i hi e;let%[j,b|d]:=sX h e r;show c j ⋯ d
 show this i i (Zi _) hi
abbrev Wal:hH ZB->ku->ku->Prop
 |[],a,b=>a=b
 | k::r,a,b=>∃c z,k=[a,c,z]/\Wal r c b
def Wal.app:∀{us vs:hH ZB} {a:ku},Wal us a b->Wal vs b c->Wal (us++vs) a c
 |[],_,_,h,g=>h▸g
 | _::_,_,_,⟨d,z,e,h⟩,g=>%[d,z,e|h.app g]
abbrev Dst(ks:hH ZB)(s:ku)(n:iv)(x:ku):Prop:=∃us:hH _,~~~us=n/\(∀k∈us,k∈ks)/\Wal us s x
def Dst.nil:Dst ks s 0 s:=%[[],rfl,λ_ h=>(nomatch h)|rfl]
def Dst.app(h:Dst ks s n x)(g:Dst ks x m y):Dst ks s (n+m) y:=by
 let%[us,f,a|b]:=h;let%[vs,i,c|d]:=g;show%[us++vs,!2,λk e=>(Xu e).elim (a k) (c k)|b.app d]
def Ed.dst(e:Ed ks s x):Dst ks s 1 x:=by
 let%[z|e]:=e;show%[[[s,x,z]],ρ,λk a=>(Xv a)▸e,x,z,ρ|ρ]
def Dst.last:∀{n:iv} {s:ku},Dst ks s (n+1) x->∃y,Dst ks s n y/\Ed ks y x
 | n,s,⟨[],a,_,_⟩=>(nomatch a)
 | 0,s,⟨[k],_,b,c,z,e,h⟩=>%[s,.nil,z|by rw[<-h,<-e];show b k Zm]
 | 0,s,⟨_::_::_,a,_,_⟩=>on a ∅
 | n+1,s,⟨k::r,a,b,c,z,e,h⟩=>by
   let%[y,d|f]:=Dst.last %[r,↑a,λk g=>b k (Zk _ g)|h];let:Ed ks s c:=%[z|e▸b k Zm]
   show%[y,Tj 1 n▸this.dst.app d|f]
def Rch.dst(h:Rch ks a b):∃n,Dst ks a (n+1) b:=by
 induction h with
 | one e=>show%[0|e.dst]
 | more _ e c=>
   let%[n|h]:=c;show%[n+1|h.app e.dst]
def Dst.rch:∀{n:iv} {b:ku},Dst ks a (n+1) b->Rch ks a b
 | 0,b,h=>by
   let%[y,%[us,d,_|c]|e]:=h.last;rw[zz.mp d]at c;rw[c];show .one e
 | n+1,b,h=>by
   let%[y,h|e]:=h.last;show .more h.rch e
structure Lev (ks:hH ZB) (st:ku) (rs:hH (ku×jg×ZB)) (d:ku->iv) (k:iv) (F:ZB):Prop where
 nd:(rs\1).Nodup
 by_:∀r∈rs,r.2.2∈ks/\∃p z,r.2.2=[p,r.1,z]/\((p=st/\d r.1=1)\/(p≠st/\p∈rs\1/\d r.1=d p+1))
 le:∀x∈rs\1,d x<=k
 edge:∀x,x∈F↔(k=0/\x=st)\/(1<=k/\x∈rs\1/\d x=k)
 all:∀n x,1<=n->n<=k->Dst ks st n x->x∈rs\1/\d x<=n
section
variable{ks:hH ZB}{st:ku}{rs:hH (ku×jg×ZB)}{d:ku->iv}{k:iv}{F:ZB}
def Lev.nil:Lev ks st [] (λ_=>0) 0 [st]:=
 %[Xa,λ_ h=>(nomatch h),λ_ h=>(nomatch h),λx=>by simp|λn x a b=>by lia]
def Lev.dst(h:Lev ks st rs d k F)(a:x∈rs\1):1<=d x/\Dst ks st (d x) x:=by
 let:∀m x,x∈rs\1->d x<=m->1<=d x/\Dst ks st (d x) x:=λm=>by
  induction m with
  | zero=>
    intro x a l;let%[r,b|rfl]:=Xw a;obtain⟨_,p,z,_,⟨_,e⟩|⟨_,_,e⟩⟩:=h.by_ r b<;> lia
  | succ m g=>
    intro x a l;let%[r,b|rfl]:=Xw a;let%[c,p,z,i|q]:=h.by_ r b;rw[i]at c;let f:Ed ks p r.1:=%[z|c]
    rcases q with⟨rfl,e⟩|⟨_,j,e⟩
    .rw[e];show%[Zi _|f.dst]
    .show e▸%[⋯|(g p j ⋯).2.app f.dst]
 show this _ x a (Zi _)
def Lev.min(h:Lev ks st rs d k F)(a:x∈rs\1)(g:Dst ks st (n+1) x):d x<=n+1:=by
 by_cases c:n+1<=k
 .show(h.all _ x ⋯ c g).2
 .let:=h.le x a
  lia
def Lev.stop(h:Lev ks st rs d k []):∀{n:iv},Dst ks st (n+1) x->x∈rs\1:=by
 let k1:=QC λc=>(nomatch (h.edge st).mpr (.inl %[c|rfl]))
 let:∀n x,Dst ks st (n+1) x->x∈rs.map _:=λn=>by
  induction n with
  | zero=>show λx g=>(h.all 1 x (Zi _) k1 g).1
  | succ n a=>
    intro x g;let%[y,b|e]:=g.last;let q:=a y b;let l:=h.le y q;let ne:d y≠k:=λc=>(nomatch (h.edge y).mpr (.inr %[k1,q|c]))
    show(h.all _ x ⋯ ⋯ ((h.dst q).2.app e.dst)).1
 show λ{n}=>this n x
def Lev.step(h:Lev ks st rs d k F)(nd:((rs++new)\1).Nodup)(C:∀r∈new,r.2.2∈ks/\∃p z,p∈F/\r.2.2=[p,r.1,z])
 (u:∀x∈F,∀y,Ed ks x y->y∈(rs++new)\1):Lev ks st (rs++new) (λx=>if x∈new\1 then k+1 else d x) (k+1) (new\1):=by
 let l:=nd;rw[Zd,X8]at l;let f:∀{x},x∈rs\1->x∉new\1:=λ{x} a b=>l.2.2 x a x b rfl
 let mem:∀{x},x∈(rs++new)\1↔x∈rs\1\/x∈new\1:=λ{x}=>by rw[Zd,Yy]
 let le:∀x∈(rs++new)\1,(if x∈new\1 then k+1 else d x)<=k+1:=λx j=>by
  by_cases c:x∈new\1
  .rw[ix c];show Zi _
  .rw[ij c];let:=h.le x ((mem.mp j).resolve_right c);lia
 show%[nd,λr E=>?_,le,λx=>?_|λn x n1 L g=>?_]
 .rcases Xu E with q|q
  .let%[s,p,z,e|g]:=h.by_ r q;show%[s,p,z,e|?_];rw[ij (f (Xx %[r,q|rfl]))];show g.imp_right λ⟨a,b,c⟩=>%[a,mem.mpr (.inl b)|?_]
   rw[ij (f b)];show c
  .let%[s,p,z,G|e]:=C r q;let v:r.1∈new\1:=Xx %[r,q|rfl];show%[s,p,z,e|?_];rw[ix v];rcases(h.edge p).mp G with⟨rfl,rfl⟩|⟨k1,b,c⟩
   .show .inl %[rfl|rfl]
   .show .inr %[λps=>?_,mem.mpr (.inl b)|by rw[ij (f b),c]];let:Ed ks st r.1:=%[z|by rw[<-ps,<-e];show s]
    show f (h.all 1 _ (Zi _) k1 this.dst).1 v
 .show%[λj=> .inr %[⋯,mem.mpr (.inr j)|ix j]|λj=>?_];rcases j with⟨a,_⟩|⟨_,a,b⟩
  .lia
  .show(mem.mp a).resolve_left λc=>?_
   rw[ij (f c)]at b;let:=h.le x c
   lia
 .let i:∀{m},1<=m->m<=k->Dst ks st m x->x∈(rs++new).map _/\(if x∈new.map _ then k+1 else d x)<=m:=λa b g=>by
   let%[o|w]:=h.all _ x a b g;show%[mem.mpr (.inl o)|by rw[ij (f o)];show w]
  by_cases c:n<=k
  .show i n1 c g
  .obtain rfl:n=k+1:=by lia
   let fin:x∈(rs++new).map _->x∈(rs++new).map _/\(if x∈new.map _ then k+1 else d x)<=k+1:=λa=>%[a|le x a]
   let%[y,A|e]:=g.last;by_cases H:k=0
   .subst H;let%[us,I,_|B]:=A;rw[zz.mp I]at B;show fin (u y ((h.edge y).mpr (.inl %[rfl|(B).symm])) x e)
   .let%[o|w]:=h.all k y ⋯ (Zi _) A;by_cases J:d y=k
    .show fin (u y ((h.edge y).mpr (.inr %[⋯,o|J])) x e)
    .show fin (i ⋯ ⋯ ((h.dst o).2.app e.dst)).1
end
structure Sho (ks:hH _) (a b:ku) (us:hH _):Prop where
 sub:∀k∈us,k∈ks
 wal:Wal us a b
 pos:0< ~~~us
 min:∀n,Dst ks a (n+1) b-> ~~~us<=n+1
def Sho.dst(h:Sho ks a b us):∃n,~~~us=n+1/\Dst ks a (n+1) b:=
 %[~~~us-1,by let:=h.pos;lia,us,by let:=h.pos;lia,h.sub|h.wal]
def Sho.rch(h:Sho ks a b us):Rch ks a b:=by
 let%[n,_|d]:=h.dst;show d.rch
def JZ{U:ZB}(h:∀x∈U,∃y∈U,Ed ks x y)(g:∀x,¬ Rch ks x x){x:ku}(i:x∈U):LG:=by
 let:∀n,∃a p,~~~p=n/\(a::p).Nodup/\(∀y∈a::p,y∈U)/\∀y∈p,Rch ks y a:=λn=>by
  induction n with
  | zero=>show%[x,[],ρ,by simp,↑i|λ_ h=>(nomatch h)]
  | succ n j=>
    let%[a,p,l,nd,d|r]:=j;let%[b,m|e]:=h a (d a Zm);let re:∀y∈a::p,Rch ks y b:=λy f=>by
     rcases X2.mp f with rfl|q
     .show .one e
     .show .more (r y q) e
    show%[b,a::p,!2,Mw.mpr %[λc=>g b (re b c)|nd],λy f=>?_|re];rcases X2.mp f with rfl|q
    .show m
    .show d y q
 let%[a,p,l,nd,d|_]:=this U.length;let:=_ST.nodup_sub nd d;rw[Zr]at this
 lia
end _CU
namespace _LL
open PySem PySem.Spec PyProof.Rows PySem.SeqAt
abbrev LkV(H:Hp)(x y:V):Prop:=∃a b xs,x= .ref a/\y= .ref b/\H a&&&xs/\H b&&&xs/\xs.all kC=hW
abbrev Ez(K:ZA):R2:=λx y H Q=>asR x λa=>asR y λb=>∃xs ys,Qb K H a xs/\Qb K H b ys/\ ~~~xs= ~~~ys/\(∀(j:iv) x y,xs[j]?∣x->ys[j]?∣y->LkV H x y)/\Q (.bl hX) H
variable{X:Cx}
def GL(M:X.A.units+64<Nx):OpR X (pw .NotEq) (Ez X.K):=by
 intro gx s N H x y v u Q I g i h;let%[a,rfl|l]:=aN h;let%[b,rfl,xs,ys,m,n,o,p|q]:=aN l;cases g;cases i;let%[us,g,r|_]:=I.list m;let%[vs,i,w|_]:=I.list n;let f:=RcNeAt.lists (A:=X.A) (s:=s) (e:=λ_=>hW) r.isList w.isList (by rw[Zp,Zp,<-g.length,<-i.length,o]) ⋯ λj l z=>by
  let%[x,ex|B]:=d7 g l;let%[y,C|E]:=d7 i z;let%[c,d,zs,rfl,rfl,G,J|L]:=p j x y ex C;rw[show(us.toArray)[j]=m4 c from B,show(vs.toArray)[j]=m4 d from E];show BN I G J L (show X.A.units+1<Nx by lia)
 rw[show(!(q7 us.toArray.size).all (λ_=>hW))=hX by simp]at f;show f X.prog X.w _ _ %[.bl hX,H,I,rfl|q]
def EA{K:ZA}{k:iv}(h:X.K=K)(a:bH k X.A):OpQ X (pw .NotEq) (Ez K):=by
 subst h;show⟨GL a.units⟩
end _LL
namespace _CU
open PySem _LL
structure Mat {α:Type} (E:α->α->Prop) (L:hH α) (m:α->α):Prop where
 nd:L.Nodup
 inj:∀x∈L,∀y∈L,m x=m y->x=y
 ed:∀x∈L,E (m x) x
structure rc {α:Type} (E:α->α->Prop) (L:hH α) (m:α->α) (S T:α->Prop):Prop where
 nb:∀a,S a->∀p,E a p->T p
 mt:∀p,T p->p∈L/\S (m p)
structure Ask {α:Type} (E:α->α->Prop) (L:hH α) (m:α->α) (A0 Q:hH α) (g:α->α):Prop where
 nd:Q.Nodup
 by_:∀i x,Q[i]?∣x->E (g x) x/\(g x∈A0\/∃y∈Q.take i,y∈L/\m y=g x)
section
variable{α:Type}[LV α]{E:α->α->Prop}{L A0 Q:hH α}{m g:α->α}{S T S' T':α->Prop}
def rc.or(h:rc E L m S T)(k:rc E L m S' T'):rc E L m (λa=>S a\/S' a) (λp=>T p\/T' p):=
 %[λa s p e=>s.imp (λs=>h.nb a s p e) λs=>k.nb a s p e|λp t=>t.elim (λt=>%[(h.mt p t).1|.inl (h.mt p t).2]) λt=>%[(k.mt p t).1|.inr (k.mt p t).2]]
def Ask.shut(a:Ask E L m A0 Q g)(h:rc E L m S T)(d:∀x∈A0,S x):∀x∈Q,T x:=by
 let:∀(n i:iv) x,i<n->Q[i]?∣x->T x:=λn=>by
  induction n with
  | zero=>show λi x l=>on l (Xb _)
  | succ n f=>
    intro i x l e;let%[o|b]:=a.by_ i x e;show h.nb _ ?_ x o;rcases b with b|⟨y,p,s,b⟩
    .show d _ b
    .let%[j|c]:=Xm p;let q:=(Xt c).1;rw[Yr]at q;rw[Yg ⋯]at c;show b▸(h.mt y (f j y ⋯ c)).2
 intro x r;let%[i|hi]:=Xm r;show this _ i x (Yu _) hi
def Ask.closed(c:∀x∈Q,x∈L)(d:∀b,(b∈A0\/∃y∈Q,y∈L/\m y=b)->∀p,E b p->p∈Q):rc E L m (λb=>b∈A0\/∃y∈Q,y∈L/\m y=b) (λp=>p∈Q):=
 %[d|λp a=>%[c p a|.inr %[p,a,c p a|rfl]]]
structure u8 {α:Type} (E:α->α->Prop) (L Q:hH α) (m g:α->α) (T:α->Prop) (f:α) (C:hH α) (i:iv) (p:α):Prop where
 at_:Q[i]?∣p
 own:p=f\/p∈L
 far:∀x∈C,∃j,i<j/\Q[j]?∣x
 nx:∀x∈C,∃y,y∈L/\m y=g x/\(y∈C\/y=p)
 inj:∀x∈C,∀y∈C,g x=g y->x=y
 pv:∀y,y∈C\/y=p->y=f\/(y∈L/\∃x∈C,g x=m y)
 nt:∀y,y∈C\/y=p-> ¬ T y
 hf:f∈C\/p=f
def EB{Q:hH α}(nd:Q.Nodup){i j:iv}{x:α}(h:Q[i]?∣x)(k:Q[j]?∣x):i=j:=(hH.getElem?_inj (Xt h).1 nd).mp (h.trans k.symm)
def u8.start(h:rc E L m S T)(b:f∉L)(e:Q[i]?∣f):u8 E L Q m g T f [] i f:=
 %[e,.inl rfl,λ_ h=>(nomatch h),λ_ h=>(nomatch h),λ_ h=>(nomatch h),λy a=>a.elim (λh=>(nomatch h)) .inl,λy a t=>a.elim (λh=>(nomatch h)) λe=>b (e▸(h.mt y t).1)|.inr rfl]
def u8.inj'(M:Mat E L m)(a:Ask E L m A0 Q g){f:α}{C:hH α}{i:iv}{p:α}(b:u8 E L Q m g T f C i p):∀x∈C++[p],∀y∈C++[p],(∀z∈L,m z=g p->z∈Q.take i)->g x=g y->x=y:=by
 let o:∀x∈C,(∀z∈L,m z=g p->z∈Q.take i)->g x≠g p:=λx c h e=>by
  let%[y,q,r|n]:=b.nx x c;let%[j|l]:=Xm (h y q (r.trans e));let s:=(Xt l).1;rw[Yr]at s;rw[Yg ⋯]at l;rcases n with n|rfl
  .let%[k,v|u]:=b.far y n;let:=EB a.nd l u
   lia
  .let:=EB a.nd l b.at_
   lia
 intro x c y d h e;rcases Xu c with c|c<;> rcases Xu d with d|d
 .show b.inj x c y d e
 .rw[Xv d]at e;show(o x c h e).elim
 .rw[Xv c]at e;show(o y d h e.symm).elim
 .rw[Xv c,Xv d]
def u8.step(M:Mat E L m)(a:Ask E L m [w] Q g)(A:∀x∈L,m x≠w)(h:rc E L m S T)(b:u8 E L Q m g T f C i p)(n:y∈L)(o:m y=g p):∃j,j<i/\u8 E L Q m g T f (C++[p]) j y:=by
 let%[B|s]:=a.by_ i p b.at_;let v:y∈Q.take i:=by
  rcases s with s|⟨z,c,q,r⟩
  .show(A y n (o.trans (Xv s))).elim
  .rw[M.inj y n z q (o.trans r.symm)];show c
 let%[j|u]:=Xm v;let G:=(Xt u).1;rw[Yr]at G;rw[Yg ⋯]at u;let l:∀{x},x∈C++[p]↔x∈C\/x=p:=λ{x}=>by rw[Yy,X4]
 show%[j,⋯,u,.inr n,λx d=>?_,λx d=>?_,λx d z c=>b.inj' M a x d z c λz q r=>(M.inj z q y n (r.trans o.symm))▸v,λz c=>?_,λz c t=>?_|.inl (l.mpr (b.hf.imp_right Eq.symm))]
 .rcases l.mp d with d|rfl
  .let%[k,J|H]:=b.far x d;show%[k,⋯|H]
  .show%[i,⋯|b.at_]
 .rcases l.mp d with d|rfl
  .let%[z,q,r|I]:=b.nx x d;show%[z,q,r|.inl (l.mpr I)]
  .show%[y,n,o|.inr rfl]
 .rcases c with c|rfl
  .show(b.pv z (l.mp c)).imp_right λ⟨a,x,d,e⟩=>%[a,x,l.mpr (.inl d)|e]
  .show(.inr %[n,p,l.mpr (.inr rfl)|o.symm])
 .rcases c with c|rfl
  .show b.nt z (l.mp c) t
  .show b.nt p (.inr rfl) (h.nb _ (o▸(h.mt z t).2) p B)
def u8.fin(M:Mat E L m)(a:Ask E L m [B] Q g)(h:rc E L m S T)(b:u8 E L Q m g T f C i p)(J:f∉L)(N:∀y∈L,m y≠g p)(nd:v.Nodup)(G:∀x,x∈v↔x∈L\/x=f):
 Mat E v (λx=>if x∈C++[p]then g x else m x)/\rc E v (λx=>if x∈C++[p]then g x else m x) S T/\g p=B/\(∀x∈v,(if x∈C++[p]then g x else m x)=B\/∃y∈L,m y=if x∈C++[p]then g x else m x)/\∀y,y=B\/(∃x∈L,m x=y)->∃x∈v,(if x∈C++[p]then g x else m x)=y:=by
 let r:∀{x},x∈C++[p]↔x∈C\/x=p:=λ{x}=>by rw[Yy,X4]
 let O:g p=B:=by
  obtain⟨_,e|⟨y,_,H,ym⟩⟩:=a.by_ i p b.at_
  .show Xv e
  .show(N y H ym).elim
 let U:∀x∈C++[p],∃j,Q[j]?∣x:=λx l=>by
  rcases r.mp l with l|rfl
  .let%[j,_|e]:=b.far x l;show%[j|e]
  .show%[i|b.at_]
 let o:∀x∈v,x∉C++[p]->x∈L:=λx l n=>((G x).mp l).resolve_right λe=>n (e▸r.mpr (b.hf.imp_right Eq.symm))
 let s:∀x∈C++[p],∀y∈L,y∉C++[p]->g x≠m y:=λx l y H n e=>by
  rcases r.mp l with l|rfl
  .let%[z,w,A|zc]:=b.nx x l;show n ((M.inj y H z w (e.symm.trans A.symm))▸r.mpr zc)
  .show N y H e.symm
 show%[%[nd,λx l y I e=>?_|λx l=>?_],%[h.nb|λq t=>%[(G q).mpr (.inl (h.mt q t).1)|?_]],O,λx l=>?_|λy I=>?_]
 .by_cases d:x∈C++[p]<;> by_cases u:y∈C++[p]
  .rw[ix d,ix u]at e;show b.inj' M a x d y u (λz w A=>(N z w A).elim) e
  .rw[ix d,ij u]at e;show(s x d y (o y I u) u e).elim
  .rw[ij d,ix u]at e;show(s y u x (o x l d) d e.symm).elim
  .rw[ij d,ij u]at e;show M.inj x (o x l d) y (o y I u) e
 .by_cases d:x∈C++[p]
  .rw[ix d];let%[j|e]:=U x d;show(a.by_ j x e).1
  .rw[ij d];show M.ed x (o x l d)
 .rw[ij (λc=>b.nt q (r.mp c) t)];show(h.mt q t).2
 .by_cases d:x∈C++[p]
  .rw[ix d];rcases r.mp d with d|rfl
   .let%[z,w,A|_]:=b.nx x d;show .inr %[z,w|A]
   .show .inl O
  .rw[ij d];show .inr %[x,o x l d|rfl]
 .let mem:=λx l=>(G x).mpr ((b.pv x (r.mp l)).elim .inr λh=> .inl h.1)
  rcases I with rfl|⟨x,Y,rfl⟩
  .show%[p,mem p (r.mpr (.inr rfl))|(ix (r.mpr (.inr rfl)))▸O]
  .by_cases d:x∈C++[p]
   .rcases b.pv x (r.mp d)with e|⟨_,z,hz,e⟩
    .show(J (e▸Y)).elim
    .show%[z,mem z (r.mpr (.inl hz))|(ix (r.mpr (.inl hz)))▸e]
   .show%[x,(G x).mpr (.inl Y)|by rw[ij d]]
end
def iQ(lt:q->q->su)(c:∀x y,lt x y=hX->x≠y->lt y x=hW):∀{l m:hH q},l.Pairwise (λa b=>lt b a=hX)->m.Pairwise (λa b=>lt b a=hX)->l.Nodup->m.Nodup->(∀x,x∈l↔x∈m)->l=m
 |[],[],_,_,_,_,_=>rfl
 |[],y::m,_,_,_,_,h=>on ((h y).mpr Zm) ∅
 | x::l,[],_,_,_,_,h=>on ((h x).mp Zm) ∅
 | x::l,y::m,s,u,nl,nm,h=>by
   let%[f|g]:=Rf.mp s;let%[i|j]:=Rf.mp u;let%[v|n]:=Mw.mp nl;let%[w|o]:=Mw.mp nm;let e:=J0 λd=>by
    let A:=(X2.mp ((h x).mp Zm)).resolve_left d;let r:=f y ((X2.mp ((h y).mpr Zm)).resolve_left (Lx d));rw[c x y (i x A) d]at r;cases r
   subst e;rw[iQ lt c g j n o λz=>?_]
   constructor
   .intro p;rcases X2.mp ((h z).mp (Zk _ p))with e|e
    .simp_all
    .show e
   .intro p;rcases X2.mp ((h z).mpr (Zk _ p))with e|e
    .simp_all
    .show e
abbrev Let(rows:ZB)(c:iv):Prop:=c≠46/\∃r∈rows,c∈r.cps.toList
abbrev yU(rows:ZB)(a b:iv):Prop:=a≠46/\a≠b/\∃(i j:iv) (r c:ku),rows[i]?∣r/\rows[i+1]?∣c/\r.cps[j]?∣a/\c.cps[j]?∣b
def iu:c∈dc rows↔Let rows c:=by
 unfold dc Let;rw[ow,v7,Rh,Lz]
 constructor
 .rintro⟨⟨l,e,b⟩,a⟩;let%[r,d|rfl]:=Xw e;show%[a,r,d|b]
 .rintro⟨a,r,d,b⟩;show%[%[_,Xx %[r,d|ρ]|b]|a]
abbrev zU(rows d:ZB):Prop:=(∀c,Let rows c↔Let d c)/\∀a b,yU rows a b↔yU d a b
abbrev St(a:su)(c d:ri):Prop:=c<=d+(if a=hW then 1 else 0)/\d<=c+(if a=hW then 1 else 2)
abbrev sg(a s:ri):iv:=if a<0 then 46 else 97+((a*5+s)%26).toNat
abbrev Lg(a:hH ZL)(b:ri)(k:iv):ku:=⟨(a.map λc=>sg (c.getD k 0) b).toArray⟩
abbrev drawn(a:hH ZL)(hi:iv)(b:ri):ZB:=(q7 hi).map (Lg a b)
abbrev there(b:hH ZL):ZL:=((q7 8).filter λa:iv=>b.any λc=>decide ((a:ri)∈c)).map λa:iv=>a
abbrev u9(rows:ZB):Prop:=∃m:hH _,~~~m<=26/\∀a b,yU rows a b->[sgn a,sgn b]∈m
end _CU
namespace _KK
open PySem _LL _CU
nonrec abbrev ZqS:=Wl
nonrec def zqn:Lean.Name->o0 ZqS->ZqS:= .node .none
nonrec def zqa:L8->ZqS:= .atom .none
nonrec def zqi(s:L8):ZqS:=Lean.mkIdent s.toName
nonrec def zqh:ZqS:=zqn `Lean.Parser.Term.hole #[zqa "_"]
nonrec def zqf(k:iv)(b:ZqS):ZqS:=zqn `Lean.Parser.Term.fun #[zqa "fun",zqn `Lean.Parser.Term.basicFun #[zqn `null (Uz k zqh),zqn `null #[],zqa "=>",b]]
nonrec def zqd(c:Char):ZqS:=Wl.mkNumLit (toString (c.toNat-48))
nonrec def zqe(a:o0 ZqS)(x:L8):ZqS:=if x="r"then zqi "rfl"else if x="n"then a[0]! else if x="h"then a.back! else if x="_"then zqh else if x="f"then zqf 2 (zqi "rfl") else if x="g"then zqf 1 (zqi "rfl") else if ~~~x>1 then zqi x else zqn `Lean.Parser.Term.namedArgument #[zqa "(",zqi x,zqa ":=",zqi x,zqa ")"]
nonrec def zqx(r:o0 ZqS):ZqS:=if r[0]!.isAtom then(if r[0]!.getAtomVal=""then zqf 3 r[1]! else r[1]!)else if r.size<2 then r[0]! else zqn `Lean.Parser.Term.app #[r[0]!,zqn `null (r.extract 1 r.size)]
nonrec def zqp(s t:L8):iv:=(s.splitOn t).head!.length
nonrec def zqs(t:L8)(a:o0 ZqS)(l:hH Char)(k:hH (hH L8×o0 ZqS)):hH Char×hH (hH L8×o0 ZqS):=
 let f:=k.head!
 let k:=k.tail
 let x:=f.1.headD ""
 let w:=f.1.tail
 let c:=l.headD ' '
 if f.1.isEmpty then(l,(k.head!.1,k.head!.2.push (zqx f.2))::k.tail)
 else if x="#"then(l.tail,(w,f.2.push (zqd c))::k)
 else if x="L"then(l,(["*"],#[zqa ""])::(w,f.2)::k)
 else if x="*"then
  if c.isDigit then(l.tail,(["r"],#[zqi "af",zqd c])::(w,f.2)::k)
  else if c='?'then(l.drop 2,(w,f.2.push a[l[1]!.toNat-48]!)::k)
  else
   let p:=zqp "~]`" c.toString
   let q:=if p<3 then 1 else 0
   let s:=((t.splitOn "|")[(74+84*p)*q+zqp "ABCDEFGHIJKLMNOPQRSTUVWXYZabcdefghijklmnopqrstuvwxyz!$%&'()*+,./:;<=>^_|}[0123456789" l[q]!.toString]!).splitOn " "
   (l.drop (q+1),(s.tail,#[zqi s.head!])::(w,f.2)::k)
 else(l,(w,f.2.push (zqe a x))::k)
nonrec def zqt(t:L8)(a:o0 ZqS)(l:hH Char):iv->ZqS
 |n=>(n.fold (λ_ _ s=>if ~~~s.2=1&&s.2.head!.1.isEmpty then s else zqs t a s.1 s.2) (l,[(["*"],#[zqa "1"])])).2.head!.2[1]!
nonrec def zqm(s:Lean.StrLit)(a:o0 Lean.Term):Lean.MacroM Lean.Term:=
 return⟨zqt "paE r * *|am|ai * *|ao *|aw|opE * * *|aI # n r *|aJ * h r *|aL *|aH # n r|QSs.h *|gsE r * *|bq * r * *|ifS * * *|aQ|bY # r|bU OZ r r * * *|bT *|cn K r f * *|ce K r *|cT K r f * *|aV|bK|bL h f * *|bD r *|du|dO g *|aH # * r|aD.of *|cJ|fO *|eX *|dz * r r * L L L|eBl|eY K r r r *|wT *|cbO * T.a8 PySem.boot_len r *|dD K r|aZ|gY * r * *|bmO K NT PySem.F.slot_list_append PySem.F.type_list_append * r * *|Z1|Z0|eP h r * * *|af # r|dN|orW * *|gK|gF *|cbO * T.ae Wv r *|gM K r|gE|mE *|nM|cbO * T.a7 boot_sorted r *|eS|j3 r T.ak r *|qR * *|jm|ctO * T.a5 OW r *|uy *|iJ|uz * *|kT *|gZ K r|oG|vS|uA # n r * * r *|kh|pB h|pC * T.o_Ground h r r *|gvE T.an r r|gvE T.ao r r|Bj f * *|Bc|sw|ctO * T.a6 boot_set r *|dH T|ctO * T.ai boot_int r *|gvE T.av r r|pjE * *|c7 T|pq OZ * *|cbO * T.a0 boot_min r *|bmO K Qd WM type_dict_get * r * *|wC|lC h r * *|F9|bmO K WG slot_str_join type_str_join * r * *|uC K r|zC K w r r r|vT K r r T.af r *|zw|Gy h r * *|oH # n r * *|Gw K r r * *|zY|fj T|kU # n r * * r * r r * L L L|bW T|uB|cbE * r T.ae Wv r r r *|yT|C1 r T.ak r r *|iS T|yd * * r * * *|cbO * T.ab boot_all r *|C4 K r r|JX *|Ex|kB w r r|JV K r * * *|C2 *|noO|bmO K NT slot_list_extend type_list_extend * r * *|oJ|Jq *|iT T|JE K r r *|eT T|eG T|Ka K r NT PySem.F.slot_list_append PySem.F.type_list_append * r r r r * *|bmO K Qd UF PySem.F.type_dict_setdefault * r * *|iP|Je *|Jf r r r * *|JW K r r r *|eU T|Eu *|Em h|yS K r|Dt T.g_Torn_ring r *|JU * *|C3|oH # * r * *|C5|orV * *|HB|gvE T.aq r r|HA|Hk r T.ag r r *|bmO K WG PySem.F.slot_str_split PySem.F.type_str_split * r * *|zB|lS T|mO T|Hu K r r T.ag r r *|sU P w r r r|DS K P w r r r r h|Dr *|Dp|pj K r|gu T|Ea r|iB T|Jd K r Qd V7 PySem.F.type_dict_values * r r *|wA|tU T|bmO K Qd V8 PySem.F.type_dict_update * r * *|wM|jH T|Am T|jd T|jJ T|zA K r|DV|ph r|EA K r h|Hv * T.o_Ground h r *|wZ T|qJ T|nJ T|Hw h|vg T|gvE T.au r r|gvE T.ar r r|EG T|pY T|kE T|gvE T.ap r r|K8 K r|gvE T.ay r r|gvE T.az r r|KZ K r T.t_LAYER_WORDS r r|KZ K r T.t_YEAR_WORDS r r|BW T|BV T|EH T|gvE T.aw r r|p9 T|gvE T.ax r r|wV T|BT T|Bz K r|y4 T|vo T|wY T|nU T|Hz|qa T|mj T|q_in K r|cbO * T.a1 boot_max r *|JF r|nV T|GC r|BR T|pT T|w8 T|BA r|BZ T|zb T|KH r|zd T|rB T|za T|Eg r r T.a9 r T.a5 r *|xj T|EX T|kK T|JG K r r|bmO K NT PySem.F.slot_list_remove PySem.F.type_list_remove * r * *|Ee|JM w r|vA T|qp T|KG|Jr b.ex *|Jp * h r r r r *|C_Torn T|rD T|cbO * T.aa boot_any r *|K4 K r r|dinE h r * *|BM r|B1 T|Ep h|qx T|rE T|anyI K r *|zf T|JY K r|qC T|JP K r r|rH T|Jd K r NT PySem.F.slot_list_clear PySem.F.type_list_clear * r r *|Ga|vz T|xD T|xG T|rF T|qI T|qM T|B5 T" (a.map (·.raw)) s.getString.toList 9999⟩
nonrec abbrev ZM:=hH V
nonrec abbrev ZN:=hH (jg×hH V)
local macro_rules|`(%[$s:str,$x,*|$y])=>zqm s (x.getElems.push y)|`(%[$s:str|$y])=>zqm s #[y]
local macro_rules|`(tactic|lk)=>do
 let x<-("aS Ca kN jh mV qN kO zj tB Fs tOr HW B9 Ia tOp tUn tC HP HQ tCB rP AQ Cs IB IC xO tBM FP tSl Cy uf FY rI rI0 rU IT IV rEq rNe Hg CT IM IQ IF IG IH F5 IX zy zx ye xY uq Fz Cd Ig Hi Hj K7 La Ht zo zq Iw Ix Jj ot FT ur x5 x6 CG Eb Ec JH uW JK El wE rIn IK uo zv Ch Ci F6 K9 Kl Km Kn Ko Ld rS0 HJ HK HM Lb Lc".splitOn " ").toArray.mapM λs=>`(Lean.Parser.Tactic.simpLemma|↓$(Lean.mkIdent s.toName):ident)
 let y<-("oQ FE Iu cond_true cond_false List.getElem?_cons_zero List.getElem?_cons_succ List.set_cons_zero List.set_cons_succ Option.some.injEq V.int.injEq V.str.injEq V.bl.injEq V.ref.injEq V.ty.injEq List.cons.injEq reduceCtorEq and_true true_and and_false false_and or_false false_or or_true true_or exists_false exists_eq_left' exists_eq_left exists_eq_right exists_eq_right' exists_and_left exists_and_right exists_eq cons_append nil_append exists_const and_assoc Int.zero_add Bool.not_true Bool.not_false Y2 if_true if_false eq_self".splitOn " ").toArray.mapM λs=>`(Lean.Parser.Tactic.simpLemma|$(Lean.mkIdent s.toName):ident)
 `(tactic|simp only[$(x++y),*])
local macro_rules|`(!$n:ident)=>`(some (V.ref $n))
local macro_rules|`(-$n:ident)=>`(some (V.str $n))
local macro_rules|`(#[$n:num])=>`((show $n≤sizeLine by decide))|`(#[$x])=>`(paE rfl $x am)|`(#[$x,$y,*])=>`(paE rfl $x #[$y,*])
local macro_rules|`(tactic|walk)=>`(tactic|refine⟨rfl,rfl,rfl,?_,rfl,?_,?_⟩<;>decide +kernel)
def zq0{P:List Value->Prop}(h:P []):∀u,~~~u=0->P u:=λu e=>by rw[List.length_eq_zero_iff.mp e];show h
def zq1{n:Nat}{P:List Value->Prop}(h:∀a,∀u,~~~u=n->P (a::u)):∀u,~~~u=n+1->P u:=λu e=>by
 cases u with
 |nil=>cases e
 |cons a u=>show h a u (Nat.succ.inj e)
local macro_rules|`(tactic|room)=>`(tactic|(intro _ _ _ _ _ _;(repeat(refine zq1 λ_=>?_));exact zq0 rfl))
set_option hygiene false in
local macro_rules|`(↑$n:num)=>`(af $n rfl)|`(↑($x,$y))=>`(show bp _ _ _ $x $y=true from rfl)|`(↑[$x,*])=>`(show([$x,*]:ZB).Nodup from by decide)
set_option hygiene false in
local macro_rules|`($a>>$b)=>`(cT (K:=K) rfl (λ_ _=>rfl) $a $b)
set_option hygiene false in
local macro_rules|`(↥$n:num)=>`(Cal P w K mg base $n)
abbrev top(i:iv):J5:=PySem.Challenge.pw_digbook_k51_direct_pairs_told.main.body.getD i (.Pass %[0,0,0|0])
noncomputable section
nonrec abbrev iw:J5:=top 1
def bi:ar ["ground","names","layer","word","one","other"] ["ground"] (ak iw):=by walk
nonrec abbrev i6:J5:=top 2
def eC:ar ["names","one","other","first","second"] ["names","one","other"] (ak i6):=by walk
nonrec abbrev fV:J5:=top 3
def eV:ar ["names","layer"] ["names","layer"] (ak fV):=by walk
nonrec abbrev pJ:J5:=top 4
def gN:ar ["ground","names","groups","layer"] ["ground"] (ak pJ):=by walk
nonrec abbrev i7:J5:=top 5
def mJ:ar ["ground"] ["ground"] (ak i7):=by walk
nonrec abbrev z6:J5:=top 6
def wN:ar ["ground","names"] ["ground"] (ak z6):=by walk
nonrec abbrev iz:J5:=top 19
def lF:ar ["found"] ["found"] (ak iz):=by walk
nonrec abbrev fW:J5:=top 20
def jV:ar ["found"] ["found"] (ak fW):=by walk
nonrec abbrev sY:J5:=top 21
def kD:ar ["found","side","groups","link"] ["found","side"] (ak sY):=by walk
nonrec abbrev jq:J5:=top 22
def bd:ar ["names","found","beneath","above","waits","name","ready","laid","least","link"] ["names","found"] (ak jq):=by walk
nonrec abbrev jr:J5:=top 23
def dM:ar ["beneath","start","goal","reached","edge"] ["beneath","start","goal"] (ak jr):=by walk
nonrec abbrev nB:J5:=top 24
def eZ:ar ["beneath","edge","reached","further","name","link"] ["beneath","edge","reached"] (ak nB):=by walk
nonrec abbrev wO:J5:=top 25
def sZ:ar ["reached","start","goal","way"] ["reached","start","goal"] (ak wO):=by walk
nonrec abbrev j6:J5:=top 26
def dj:ar ["names","found","beneath","reach","name","link"] ["names","found"] (ak j6):=by walk
nonrec abbrev i8:J5:=top 28
def bV:ar ["names","found","beneath","shortest","name","way"] ["names","found"] (ak i8):=by walk
nonrec abbrev lG:J5:=top 29
def rg:ar ["names","found"] ["names","found"] (ak lG):=by walk
nonrec abbrev jt:J5:=top 30
def cg:ar ["ground","found","torn_by"] ["ground"] (ak jt):=by walk
nonrec abbrev ju:J5:=top 32
def i9:ar ["ground","found"] ["ground"] (ak ju):=by walk
nonrec abbrev d8:J5:=top 34
def bo:ar ["ground","beneath","reach","pairs","later","steps"] ["ground"] (ak d8):=by walk
nonrec abbrev hJ:J5:=top 35
def pK:ar ["reach","steps","earlier"] ["reach","steps","earlier"] (ak hJ):=by walk
nonrec abbrev wP:J5:=top 36
def tf:ar ["ground","found","beneath","told","name"] ["ground"] (ak wP):=by walk
nonrec abbrev tz:J5:=top 43
def yV:ar ["thing"] ["thing"] (ak tz):=by walk
nonrec abbrev tD:J5:=top 44
def iR:ar ["text","rows","number","row"] ["text"] (ak tD):=by walk
nonrec abbrev wQ:J5:=top 45
def BO:ar ["row"] ["row"] (ak wQ):=by walk
nonrec abbrev jv:J5:=top 46
def nQ:ar ["row","above"] ["row","above"] (ak jv):=by walk
nonrec abbrev lH:J5:=top 47
def rh:ar ["rows"] ["rows"] (ak lH):=by walk
nonrec abbrev tE:J5:=top 48
def yW:ar ["text"] ["text"] (ak tE):=by walk
nonrec abbrev pL:J5:=top 49
def eQ:ar ["text","rows","pairs","above","row"] ["text"] (ak pL):=by walk
nonrec abbrev fY:J5:=top 50
def jW:ar ["above","row"] ["above","row"] (ak fY):=by walk
nonrec abbrev lI:J5:=top 59
def eK:ar ["cuts","names","number","thing"] ["cuts"] (ak lI):=by walk
nonrec abbrev jw:J5:=top 60
def nS:ar ["thing"] ["thing"] (ak jw):=by walk
nonrec abbrev wR:J5:=top 61
def BP:ar ["thing"] ["thing"] (ak wR):=by walk
nonrec abbrev ja:J5:=top 62
def eD:ar ["sayings","layers","number","thing"] ["sayings","layers"] (ak ja):=by walk
nonrec abbrev nC:J5:=top 63
def vb:ar ["thing","layers"] ["thing","layers"] (ak nC):=by walk
nonrec abbrev jb:J5:=top 64
def mK:ar ["thing","texts"] ["thing","texts"] (ak jb):=by walk
nonrec abbrev tF:J5:=top 65
def yX:ar ["thing"] ["thing"] (ak tF):=by walk
nonrec abbrev lJ:J5:=top 66
def rj:ar ["name","letter"] ["name","letter"] (ak lJ):=by walk
nonrec abbrev nD:J5:=top 67
def fh:ar ["cuts","layers","name","text"] ["cuts"] (ak nD):=by walk
nonrec abbrev jx:J5:=top 68
def ci:ar ["cuts","ties","name","text","upper","lower"] ["cuts"] (ak jx):=by walk
nonrec abbrev gO:J5:=top 69
def cU:ar ["sayings","ties","number","saying"] ["sayings"] (ak gO):=by walk
nonrec abbrev j7:J5:=top 71
def pM:ar ["_law_script","_law_k"] ["_law_script","_law_k"] (ak j7):=by walk
nonrec abbrev lK:J5:=top 72
def c9:ar ["_law_cell","_law_k","_law_number","_law_found","_law_j"] ["_law_cell","_law_k"] (ak lK):=by walk
nonrec abbrev lL:J5:=top 73
def bS:ar ["_law_script","_law_k","_law_base","_law_many","_law_cell","_law_mixed_one","_law_digits_here","_law_turn"] ["_law_script","_law_k","_law_base","_law_many"] (ak lL):=by walk
nonrec abbrev lM:J5:=top 74
def ro:ar ["_law_rank","_law_way"] ["_law_rank","_law_way"] (ak lM):=by walk
nonrec abbrev tG:J5:=top 75
def cz:ar ["_law_digits_here","_law_way","_law_wide","_law_high","_law_columns","_law_j","_law_air","_law_rank","_law_column","_law_k"] ["_law_digits_here","_law_way"] (ak tG):=by walk
nonrec abbrev f9:J5:=top 76
def aW:ar ["_law_digits_here","_law_way","_law_wide","_law_high","_law_columns","_law_j","_law_air","_law_rank","_law_column","_law_k"] ["_law_digits_here","_law_way"] (ak f9):=by walk
nonrec abbrev nE:J5:=top 77
def fi:ar ["_law_name","_law_way","_law_rows","_law_ranks_here","_law_rank","_law_letter_here"] ["_law_name","_law_way","_law_rows"] (ak nE):=by walk
nonrec abbrev pN:J5:=top 78
def cQ:ar ["_law_script","_law_head","_law_cuts_here","_law_ranks_here","_law_k","_law_name","_law_rows"] ["_law_script"] (ak pN):=by walk
nonrec abbrev tH:J5:=top 79
def yY:ar ["_law_one","_law_other","_law_ranks_here"] ["_law_one","_law_other","_law_ranks_here"] (ak tH):=by walk
nonrec abbrev pO:J5:=top 80
def cR:ar ["_law_digits_here","_law_ranks_here","_law_torn","_law_wild","_law_names","_law_one","_law_other","_law_saying","_law_alike","_law_year"] ["_law_digits_here","_law_ranks_here","_law_torn","_law_wild"] (ak pO):=by walk
nonrec abbrev lN:J5:=top 81
def cA:ar ["_law_script","_law_cuts_here","_law_ranks_here","_law_sayings","_law_torn","_law_wild","_law_k"] ["_law_script"] (ak lN):=by walk
nonrec abbrev jy:J5:=top 82
def cj:ar ["_law_name","_law_text","_law_rows","_law_ties_here","_law_upper","_law_lower","_law_k"] ["_law_name","_law_text"] (ak jy):=by walk
nonrec abbrev pP:J5:=top 83
def dm:ar ["_law_cuts_here","_law_sayings","_law_ties_here","_law_name","_law_text","_law_number","_law_saying"] ["_law_cuts_here","_law_sayings"] (ak pP):=by walk
nonrec abbrev nF:J5:=top 84
def bj:ar ["_law_cuts_here","_law_sayings","_law_homes_here","_law_name","_law_text","_law_sign","_law_pairs","_law_turn","_law_word","_law_one","_law_other","_law_least"] ["_law_cuts_here","_law_sayings"] (ak nF):=by walk
nonrec abbrev nG:J5:=top 85
def d9:ar ["_law_cuts_here","_law_sayings","_law_homes_here","_law_laid","_law_one","_law_other","_law_source"] ["_law_cuts_here","_law_sayings","_law_homes_here"] (ak nG):=by walk
nonrec abbrev tJ:J5:=top 86
def bv:ar ["_law_laid","_law_one","_law_steps","_law_later","_law_earlier","_law_source","_law_far_here","_law_row","_law_many","_law_ahead","_law_deposit","_law_other"] ["_law_laid","_law_one"] (ak tJ):=by walk
nonrec abbrev j8:J5:=top 87
def gh:ar ["_law_laid","_law_homes_here","_law_beneath_here","_law_deposit"] ["_law_laid","_law_homes_here"] (ak j8):=by walk
nonrec abbrev jz:J5:=top 88
def nT:ar ["_law_beneath_here"] ["_law_beneath_here"] (ak jz):=by walk
nonrec abbrev jA:J5:=top 89
def ck:ar ["_law_found","_law_laid","_law_one","_law_other","_law_here","_law_later","_law_earlier","_law_source"] ["_law_found","_law_laid","_law_one","_law_other"] (ak jA):=by walk
nonrec abbrev j9:J5:=top 90
def jB:ar ["_law_refused","_law_laid","_law_beneath_here","_law_told_ring"] ["_law_refused","_law_laid","_law_beneath_here"] (ak j9):=by walk
nonrec abbrev mL:J5:=top 91
def eE:ar ["_law_laid","_law_beneath_here","_law_due_here","_law_later","_law_earlier","_law_source","_law_amid"] ["_law_laid","_law_beneath_here"] (ak mL):=by walk
nonrec abbrev pQ:J5:=top 92
def gP:ar ["_law_ground_here","_law_told_here","_law_refused","e"] ["_law_ground_here"] (ak pQ):=by walk
nonrec abbrev jC:J5:=top 93
def ve:ar ["_law_told_here","_law_due_here"] ["_law_told_here","_law_due_here"] (ak jC):=by walk
nonrec abbrev jD:J5:=top 94
def cY:ar ["_law_ground_here","_law_laid","_law_beneath_here","_law_asked","_law_refused","e"] ["_law_ground_here","_law_laid","_law_beneath_here"] (ak jD):=by walk
nonrec abbrev kb:J5:=top 95
def dC:ar ["_law_script","_law_cuts_here","_law_sayings","_law_ground_here","_law_beside","_law_kept","_law_one","_law_some","_law_homes_here","_law_laid","_law_beneath_here","_law_told_here","_law_refused","_law_as_told"] ["_law_script"] (ak kb):=by walk
nonrec abbrev cr:J5:=jK (top 58) 0
def gi:ar ["self","cuts","sayings","layers"] ["self","cuts","sayings"] (ak cr):=by walk
nonrec abbrev rA:J5:=jK (top 58) 1
def EC:ar ["self"] ["self"] (ak rA):=by walk
nonrec abbrev cN:J5:=jK (top 58) 2
def lO:ar ["self"] ["self"] (ak cN):=by walk
nonrec abbrev cZ:J5:=jK (top 58) 3
def mM:ar ["self"] ["self"] (ak cZ):=by walk
nonrec abbrev dG:J5:=jK (top 58) 4
def pR:ar ["self"] ["self"] (ak dG):=by walk
nonrec abbrev eR:J5:=jK (top 11) 0
end
def vf:ar ["self","ring"] ["self","ring"] (ak eR):=by walk
inductive pS (K:ZA)
 | mk (a:jg) (ns:ZL) (k:ri):vs=[.ref a,.int k]->Qb K H a (ns\4)->0<=k->Q (.int (ns.getD k.toNat 0)) H->pS K vs H Q E0
inductive tK
 | mk (c k:ri):vs=[.int c,.int k]->0<=k->k<=100->(∀v,Q (.int v) H)->tK vs H Q E0
inductive tL (K:ZA)
 | mk (a:jg) (ns:ZL) (k b m:ri):vs=[.ref a,.int k,.int b,.int m]->Qb K H a (ns\4)->0<=k->k<=100->2<=b->b<=1000->0<=m->m<=110->(∀l H' (xs:ZL),ah H H'->H l=hV->H' l<*xs\4-> ~~~xs=m.toNat->(∀x∈xs,0<=x/\x<b)->Q (.ref l) H')->tL K vs H Q E0
structure Txc (K:ZA) (mg:ZC):Prop where
 c_Torn:mg "Torn"=hY (.ref (aE mg "Torn"))
 c_DigError:mg "DigError"=hY (.ref (aE mg "DigError"))
 c_NoCut:mg "NoCut"=hY (.ref (aE mg "NoCut"))
 c_NoSaying:mg "NoSaying"=hY (.ref (aE mg "NoSaying"))
 c_NoGround:mg "NoGround"=hY (.ref (aE mg "NoGround"))
 c_NoLayer:mg "NoLayer"=hY (.ref (aE mg "NoLayer"))
 c_NoRow:mg "NoRow"=hY (.ref (aE mg "NoRow"))
 c_NoDeed:mg "NoDeed"=hY (.ref (aE mg "NoDeed"))
 x_Torn:Do K mg "Torn" "Torn.__init__" eR ["self","ring"]
 f_Torn_ring:Ji K (aE mg "Torn") "ring"
 g_Torn_ring:Gf K (aE mg "Torn") "ring"
 u_Torn_NoCut:Qp K (.ref (aE mg "Torn")) (.ref (aE mg "NoCut"))∣hX
 u_Torn:Qp K (.ref (aE mg "Torn")) (.ref (aE mg "DigError"))∣hW
 k_Torn_any0:S6 K (.ref (aE mg "Torn")) (([(aE mg "NoCut"),(aE mg "NoGround"),(aE mg "NoSaying")]).map m4)∣hX
 k_Torn_any1:S6 K (.ref (aE mg "Torn")) (([(aE mg "NoDeed"),(aE mg "NoRow"),(aE mg "NoLayer")]).map m4)∣hX
 k_Torn_Torn:Ov K (.ref (aE mg "Torn")) (.ref (aE mg "Torn"))∣hW
 k_Torn_ValueError:Ov K (.ref (aE mg "Torn")) (.type "ValueError")∣hW
 i_DigError:Dg K (aE mg "DigError")
 t_NoCut:Cat K (aE mg "NoCut")
 t_DigError:Cat K (aE mg "DigError")
 o_Ground:wv K mg "Ground"
 n_Ground_kept_cuts:gX K (aE mg "Ground") "kept_cuts"
 n_Ground_kept_sayings:gX K (aE mg "Ground") "kept_sayings"
 n_Ground_kept_layers:gX K (aE mg "Ground") "kept_layers"
 n_Ground_kept_ties:gX K (aE mg "Ground") "kept_ties"
 i_Ground:DW K mg "Ground" "Ground.__init__" cr ["self","cuts","sayings"]
 m_Ground_sayings:ww K mg "Ground" "sayings" "Ground.sayings" cN ["self"]
 m_Ground_layers:ww K mg "Ground" "layers" "Ground.layers" cZ ["self"]
 m_Ground_ties:ww K mg "Ground" "ties" "Ground.ties" dG ["self"]
 t_YEAR_WORDS:GvT K mg "YEAR_WORDS" [.str "since",.str "by"]
 t_LAYER_WORDS:GvT K mg "LAYER_WORDS" [.str "later",.str "same"]
structure Txt (K:ZA) (mg:ZC):Prop extends Txc K mg where
 a0:mg "min"=hV
 a1:mg "max"=hV
 a5:mg "list"=hV
 a6:mg "set"=hV
 a7:mg "sorted"=hV
 a8:mg "len"=hV
 a9:mg "reversed"=hV
 aa:mg "any"=hV
 ab:mg "all"=hV
 ac:mg "str"=hV
 ae:mg "isinstance"=hV
 af:mg "enumerate"=hV
 ag:mg "zip"=hV
 ah:mg "tuple"=hV
 ai:mg "int"=hV
 aj:mg "bool"=hV
 ak:mg "range"=hV
 am:mg "ValueError"=hV
 an:Gv mg "LATER" (.int 0)
 ao:Gv mg "EARLIER" (.int 1)
 ap:Gv mg "LONGEST_NAME" (.int 8)
 aq:Gv mg "LETTERS" (.str "abcdefghijklmnopqrstuvwxyz")
 ar:Gv mg "MOST_ROWS" (.int 40)
 au:Gv mg "MOST_SIGNS" (.int 40)
 av:Gv mg "AIR" (.str ".")
 aw:Gv mg "MOST_CUTS" (.int 8)
 ax:Gv mg "MOST_SAYINGS" (.int 60)
 ay:Gv mg "FIRST_YEAR" (.int (-9999))
 az:Gv mg "LAST_YEAR" (.int 9999)
 aA:aF K mg "names_by_layer" iw ["ground"]
 aB:aF K mg "join_deposits" i6 ["names","one","other"]
 aC:aF K mg "least_pointed_to" fV ["names","layer"]
 aD:aF K mg "deposits" pJ ["ground"]
 aE:aF K mg "deposit_names" i7 ["ground"]
 aG:aF K mg "links" z6 ["ground"]
 aH:aF K mg "links_by_later" iz ["found"]
 aI:aF K mg "links_by_earlier" fW ["found"]
 aJ:aF K mg "grouped" sY ["found","side"]
 aK:aF K mg "laid_in_turn" jq ["names","found"]
 aL:aF K mg "shortest_way" jr ["beneath","start","goal"]
 aM:aF K mg "next_edge" nB ["beneath","edge","reached"]
 aN:aF K mg "way_to" wO ["reached","start","goal"]
 aO:aF K mg "all_beneath" j6 ["names","found"]
 aP:aF K mg "shortest_ring" i8 ["names","found"]
 aQ:aF K mg "never_laid" lG ["names","found"]
 aR:aF K mg "untorn_links" jt ["ground"]
 aS:aF K mg "earlier_ones" ju ["ground"]
 aT:aF K mg "direct_pairs" d8 ["ground"]
 aU:aF K mg "is_replaced" hJ ["reach","steps","earlier"]
 aV:aF K mg "levels" wP ["ground"]
 aW:aF K mg "is_name" tz ["thing"]
 aX:aF K mg "rows_of" tD ["text"]
 aY:aF K mg "is_row" wQ ["row"]
 aZ:aF K mg "lies_beneath" jv ["row","above"]
 b0:aF K mg "letters_in" lH ["rows"]
 b1:aF K mg "letters" tE ["text"]
 b2:aF K mg "meetings" pL ["text"]
 b3:aF K mg "meetings_between" fY ["above","row"]
 b4:aF K mg "check_cuts" lI ["cuts"]
 b5:aF K mg "is_named_cut" jw ["thing"]
 b6:aF K mg "is_cut" wR ["thing"]
 b7:aF K mg "check_sayings" ja ["sayings","layers"]
 b8:aF K mg "is_saying" nC ["thing","layers"]
 b9:aF K mg "is_text_among" jb ["thing","texts"]
 ba:aF K mg "is_year" tF ["thing"]
 bb:aF K mg "layer_name" lJ ["name","letter"]
 bc:aF K mg "layers_of" nD ["cuts"]
 bd:aF K mg "ties_of_cuts" jx ["cuts"]
 be:aF K mg "ties_of_sayings" gO ["sayings"]
 bf:aF K mg "_law_cell_at" j7 ["_law_script","_law_k"]
 bg:aF K mg "_law_spread" lK ["_law_cell","_law_k"]
 bh:aF K mg "_law_digits" lL ["_law_script","_law_k","_law_base","_law_many"]
 bi:aF K mg "_law_letter" lM ["_law_rank","_law_way"]
 bj:aF K mg "_law_cut" tG ["_law_digits_here","_law_way"]
 bm:aF K mg "_law_wide_cut" f9 ["_law_digits_here","_law_way"]
 bn:aF K mg "_law_ranks" nE ["_law_name","_law_way","_law_rows"]
 bo:aF K mg "_law_cuts" pN ["_law_script"]
 bp:aF K mg "_law_tie" tH ["_law_one","_law_other","_law_ranks_here"]
 bq:aF K mg "_law_said" pO ["_law_digits_here","_law_ranks_here","_law_torn","_law_wild"]
 br:aF K mg "_law_ground" lN ["_law_script"]
 bt:aF K mg "_law_cut_ties" jy ["_law_name","_law_text"]
 bu:aF K mg "_law_ties" pP ["_law_cuts_here","_law_sayings"]
 bv:aF K mg "_law_homes" nF ["_law_cuts_here","_law_sayings"]
 bw:aF K mg "_law_links" nG ["_law_cuts_here","_law_sayings","_law_homes_here"]
 bx:aF K mg "_law_far" tJ ["_law_laid","_law_one"]
 bz:aF K mg "_law_beneath" j8 ["_law_laid","_law_homes_here"]
 bA:aF K mg "_law_has_ring" jz ["_law_beneath_here"]
 bB:aF K mg "_law_is_chain" jA ["_law_found","_law_laid","_law_one","_law_other"]
 bC:aF K mg "_law_is_torn" j9 ["_law_refused","_law_laid","_law_beneath_here"]
 bD:aF K mg "_law_due" mL ["_law_laid","_law_beneath_here"]
 bE:aF K mg "_law_told" pQ ["_law_ground_here"]
 bF:aF K mg "_law_right" jC ["_law_told_here","_law_due_here"]
 bG:aF K mg "_law_all_torn" jD ["_law_ground_here","_law_laid","_law_beneath_here"]
section
variable{P:n7}{w:xl}{K:ZA}{mg:ZC}{base:z4}
def cO{n:iv}(h:n<=5000):n<=lp:=Ym h (!1)
def aC{n:iv}(h:n<=5000):n<lp:=QF h (!1)
def ah.Qa{H:Hp}{p:jg}{o:HO}(h:H p=hV):ah H (Qa H p o):=λb u e=>by rw[ap (av e h)];show e
def ah.set{H a:Hp}{p:jg}{o:HO}(c:ah H a)(h:H p=hV):ah H (_LL.Qa a p o):=λb u e=>by rw[ap (av e h)];show c b u e
def Lh{b:Type}(xs:hH b){i:ri}(d:0<=i)(e:i<(~~~xs:ri)):∃c,atI xs i∣c/\c∈xs:=by
 let%[j|rfl]:=Xo d;let a:j< ~~~xs:=by lia
 show%[xs[j],cS (by simp[a])|Yh a]
def lP(xs:ZL){i:ri}(b:0<=i)(d:i<(~~~xs:ri)):∃c,atI (xs\4) i∣V.int c/\c∈xs:=by
 let%[j|rfl]:=Xo b;let a:j< ~~~xs:=by lia
 show%[xs[j],cS (by simp[a])|Yh a]
def HE:(iL.cps.toList.length:ri)=26:=!0
def dH(T:Txt K mg):↥1 "_law_cell_at" ["_law_script","_law_k"] (pS K):=by
 .exists T.bf,pM,g,m,%[a,c,k,rfl,d,i|q];show%[_,%["KCNM~N1klA0BDIS01ODIE"|0]|?_]
  change aS _ _ _ [!a,hY (.int k)] H;lk;show%[_,.inl %[_,d|ρ]|bC (λb=>?_) λb=>?_]
  .let b:=Zo b;rw[Z6]at b;show%[_,d,.int (c.getD k.toNat 0),?_|q];let%[j|rfl]:=Xo i;let l:j< ~~~c:=by lia
   show cS (by simp[l])
  .let b: ¬ k<(~~~(c\4):ri):=↑b
   rw[Z6]at b;let e:c.getD k.toNat 0=0:=by
    rw[Zc,Xs ⋯];rfl
   rw[e]at q;show q
def vg(T:Txt K mg):↥1 "_law_spread" ["_law_cell","_law_k"] tK:=by
 .exists T.bg,c9,j,B,%[c,k,rfl,C,G|q];show%[_,%["KCG2FVFVFW0EFtE1ECG3ECQ'AEBJ4CG2FWFVFVFVFVFt22FtFVFtFt444E2FtE14EEDG3FVFt3EFWF>2EEDI3"|c9.nd]|?_]
  change aS _ _ _ [hY (.int c),hY (.int k),hV,hV,hV] H;show aj λI k1 _=>?_
  lk;show%[!1,.inl %[!1|!1]|k1 _ _ (aj λJ k2 _=>?_)];let d:0<=c%2147483647+977*k+5/\c%2147483647+977*k+5<2^40:=by lia -verbose
  generalize c%2147483647+977*k+5=n at d
  lk;show k2 _ _ (aj λL l _=>ay λe p=>?_);lk;show%[!1,!1|p _ _ (cI (λi a b=>∃(n v:ri) (o:kw V),a=[hY (.int c),hY (.int k),hY (.int n),hY (.int v),o]/\b=H/\0<=n/\n<2^40) %[_,_,_,ρ,ρ|d] ?_ ?_)]
  .intro i a b hi %[n,v,o,rfl,rfl,r|n1];change aS _ _ _ [hY (.int c),hY (.int k),hY (.int n),hY (.int v),hY (.int (0+i))] _;rw[OK];show aj λM u _=>?_
   lk;show%[.inl %[(by lia -verbose)|(by lia -verbose)],.inl %[(by lia -verbose)|(by lia -verbose)],.inr %[(by lia -verbose)|(by lia -verbose)],.inr %[(by lia -verbose)|(by lia -verbose)],.inl %[!1|!1],!1|u _ _ (az λN y _=>?_)];let g:=MB (n*n+(i*i*i+7)*n+104729*k+i+1) (by decide:(2147483629:ri)≠0);let z:=NN (n*n+(i*i*i+7)*n+104729*k+i+1) (by decide:(0:ri)<2147483629)
   generalize (n*n+((i:ri)*i*i+7)*n+104729*k+i+1)%2147483629=m at g z
   lk;show%[.inr %[!1|!1],%[!1|!1],!1|y _ _ %[m,_,_,ρ,ρ,g|(by lia -verbose)]]
  .intro a b %[n,v,o,rfl,rfl,r|n1];show l _ _ ?_;lk;show q v
def fj(T:Txt K mg):↥2 "_law_digits" ["_law_script","_law_k","_law_base","_law_many"] (tL K):=by
 .exists T.bh,bS,U,u,%[a,n,k,b,m,rfl,I,J,k1,b2,b1,m0,m1|q];show%[_,%["KCG4H~DA0A1BCG5H]OA4A1BCNMvFWH~DA0AEBEEDG4EOCG6RBCQ'A3BJ7DNM<4ECYom6AFW42BDG4F>42CYom6AFW52BDG5F>52DI6",bS.nd|u]|?_]
  change aS _ _ _ [!a,hY (.int k),hY (.int b),hY (.int m),hV,hV,hV,hV] H;show aj λD1 k1 _=>?_
  lk;show%[a,n,k,ρ,I,J|k1 _ _ (aj λD2 k2 _=>?_)]
  generalize n.getD k.toNat 0=c
  lk;show%[_,_,ρ,J,⋯|λv=>k2 _ _ (aj λY k3 _=>?_)];lk;show%[a,n,0,ρ,I,!1,!1|?_]
  suffices L:∀M:ri,Y.nx [!a,hY (.int k),hY (.int b),hY (.int m),hY (.int M),hY (.int v),hV,hV] H from bC (λ_=>L 0) λ_=>L c
  intro M;show k3 _ _ (aj λD4 k4 _=>?_);lk;show%[Xl _|λl z=>k4 _ _ (aj λD5 k5 _=>ay λN hK=>?_)];lk;show%[⋯,⋯|hK _ _ (cI (λi B j=>∃(c v:ri) (o:kw V) (xs:ZL),B=[!a,hY (.int k),hY (.int b),hY (.int m),hY (.int c),hY (.int v),!l,o]/\ah H j/\j l<*xs\4/\ ~~~xs=i/\∀x∈xs,0<=x/\x<b) %[_,_,_,[],ρ,ah.Qa z,aa,ρ|λ_ h=>nomatch h] ?_ ?_)]
  .intro i B j hi %[c,v,o,xs,rfl,C,e,r|g];let put:∀v:ri,ah H (Qa j l (.lst (xs\4++[.int (v%b)])))/\∃d:ZL,Qa j l (.lst (xs\4++[.int (v%b)])) l<*d\4/\ ~~~d=i+1/\∀x∈d,0<=x/\x<b:=λv=>
    ⟨ah.set C z,xs++[v%b],by rw[aa,Zd];rfl,by rw[Z9,r];rfl,λy hy=>by
     rcases Xu hy with q|q
     .show g y q
     .rw[Xv q];show%[MB _ ⋯|NN _ ⋯]⟩
   let len: ~~~(xs\4)<lp:=by rw[Z6,r];show aC ⋯
   change kN _ _ _ _ [!a,hY (.int k),hY (.int b),hY (.int m),hY (.int c),hY (.int v),!l,hY (.int (0+i))] j;show az λD6 O _=>?_
   lk;show bC (λ_=>?_) λ_=>?_
   .let%[G,d|p]:=put c;show%[tyL (Qb.of e),⋯,_,e,len,%[⋯|⋯]|O _ _ %[_,_,_,d,ρ,G|p]]
   .let%[G,d|p]:=put v;show%[tyL (Qb.of e),⋯,_,e,len,%[⋯|⋯]|O _ _ %[_,_,_,d,ρ,G|p]]
  .intro B j %[c,v,o,xs,rfl,C,e,r|g];show k5 _ _ ?_;lk;show q l j xs C z e r g
abbrev u9(rows:ZB):Prop:=∃m:hH _,~~~m<=60/\∀a b,yU rows a b->[sgn a,sgn b]∈m
abbrev mlt(w:ri):ri:=if w%4=0 then 1 else if w%4=1 then 25 else if w%4=2 then 7 else 5
abbrev ltr(r w:ri):iv:=97+((r*mlt w+w)%26).toNat
def GM(r w:ri):fP (ltr r w)=hW:=by
 let all:∀i:Fin 26,fP (97+i.1)=hW:=!0
 show all %[((r*mlt w+w)%26).toNat|⋯]
def vh(r w:ri):ltr r w≠46:=by unfold ltr;lia
abbrev BQ(w:ri)(hi:iv)(c:hH iv):Prop:= ~~~c=hi/\∃a:iv,∀(k x:iv),c[k]?∣x->(k<a->x=46)/\(a<=k->∃r:ri,0<=r/\r<16/\x=ltr r w)
abbrev lQ(a:hH (hH iv))(k:iv):ku:=⟨(a.map λc=>c.getD k 46).toArray⟩
abbrev br(a:hH (hH iv))(hi:iv):ZB:=(q7 hi).map (lQ a)
def fH{a:hH (hH iv)}{hi k:iv}{z:ku}(h:(br a hi)[k]?∣z):k<hi/\z=lQ a k:=by
 unfold br at h;rw[Zl]at h;by_cases b:k<hi
 .rw[Tz b]at h;show%[b|(Za h).symm]
 simp_all
def lR{a:hH (hH iv)}{k j c:iv}(h:(lQ a k).cps[j]?∣c):∃b,a[j]?∣b/\c=b.getD k 46:=by
 let h:(a.map λc=>c.getD k 46)[j]?∣c:=by simpa [lQ]using h
 rw[Zl]at h;cases e:a[j]? with
 | none=>simp_all
 | some b=>rw[e]at h;show%[b,ρ|(Za h).symm]
def jE{a:hH iv}{hi k:iv}(b: ~~~a=hi)(c:k<hi):a[k]?∣a.getD k 46:=!2
structure eW (w:ri) (cols:hH (hH iv)) (hi:iv):Prop where
 h1:1<=hi
 h5:hi<=5
 w1:1<= ~~~cols
 w4: ~~~cols<=15
 ok:∀c∈cols,BQ w hi c
 fst:∃col,cols[0]?∣col/\∃r:ri,0<=r/\r<16/\col[hi-1]?∣ltr r w
section
variable{w:ri}{cols:hH (hH iv)}{hi:iv}
def eW.let_(d:eW w cols hi){k j c:iv}(e:k<hi)(h:(lQ cols k).cps[j]?∣c):c=46\/∃r:ri,0<=r/\r<16/\c=ltr r w:=by
 let%[a,f|rfl]:=lR h;let%[g,b|i]:=d.ok a (Z8 f);let:=i k _ (jE g e);by_cases c:k<b
 .show .inl (this.1 c)
 .show .inr (this.2 ⋯)
def eW.cut(d:eW w cols hi):cW (br cols hi):=by
 let len: ~~~(br cols hi)=hi:=by unfold br;rw[Z6,Yp]
 let b:∀z∈br cols hi,∃k,k<hi/\z=lQ cols k:=λz f=>by
  let%[k|e]:=Xm f;show%[k|fH e]
 let C:=d.h1;let E:=d.h5;let G:=d.w4;show%[⋯,⋯,%[~~~cols,d.w1,⋯|λz f=>?_],λz f=>?_,λi r H s u j c I v y m=>?_|?_]
 .let%[k,_|rfl]:=b z f;simp[lQ]
 .let%[k,h|rfl]:=b z f;rw[MV];intro c n;let%[j|A]:=Xm n;rcases d.let_ h (j:=j) ↑A with rfl|⟨r,_,_,rfl⟩
  .decide +kernel
  .unfold okc;rw[GM,SR]
 .let%[hi1|rfl]:=fH s;let%[hi2|rfl]:=fH u;let%[a,l|rfl]:=lR v;let%[p,g|rfl]:=lR y;rw[l]at g;cases g;let%[q,o|h]:=d.ok a (Z8 l);by_cases B:i+1<o
  .show(h i _ (jE q hi1)).1 ⋯
  .let%[r,_,_|e]:=(h _ _ (jE q hi2)).2 ⋯;show on (e.symm.trans m) (vh r w)
 .let%[a,l,r,_,_|e]:=d.fst;show%[lQ cols (hi-1),Xx %[hi-1,by rw[J6];lia|ρ],ltr r w,Xx %[a,Z8 l|?_]|vh r w];rw[Zc,e];rfl
def eW.few(d:eW w cols hi):u9 (br cols hi):=by
 show%[(q7 4).flatMap λi=>(q7 15).map λj=>[sgn ((cols.getD j []).getD i 46),sgn ((cols.getD j []).getD (i+1) 46)],by simp[hH.length_flatMap,O9]|?_];intro a b %[_,_,i,j,r,p,g,h,m|n];let%[hi1|rfl]:=fH g;let%[hi2|rfl]:=fH h;let%[o,e|rfl]:=lR m;let%[f,c|rfl]:=lR n;rw[e]at c;cases c;let q:=d.h5;let s:=d.w4;let:=(Xt e).1;show L4.mpr %[i,J6.mpr ⋯|Xx %[j,J6.mpr ⋯|?_]];rw[Zc (l:=cols),e];rfl
def eW.lets(d:eW w cols hi){c:iv}(h:Let (br cols hi) c):∃r:ri,0<=r/\r<16/\c=ltr r w:=by
 let%[a,r,f|b]:=h;let%[k|e]:=Xm f;let%[g|rfl]:=fH e;let%[j|i]:=Xm b;show(d.let_ g (j:=j) ↑i).resolve_left a
def eW.ex(d:eW w cols hi):∃r:ri,0<=r/\r<16/\Let (br cols hi) (ltr r w):=by
 let%[r,b,c,e|ne]:=d.cut.some';let l:Let (br cols hi) c:=%[ne,r,b|e]
 let%[a,f,g|rfl]:=d.lets l;show%[a,f,g|l]
end
inductive tM
 | mk (r w:ri):vs=[.int r,.int w]->0<=r->r<=100->0<=w->w<=110->(∀H',ah H H'->Q (.str (sgn (ltr r w))) H')->tM vs H Q E0
def ED{i:ri}(a:0<=i)(c:i<26):atI iL.cps.toList i∣(97+i.toNat):=by
 let%[j|rfl]:=Xo a;let b:j<26:=by lia
 let all:∀j:Fin 26,iL.cps.toList[j.1]?∣(97+j.1):=!0
 show cS (all %[j|b])
def iS(T:Txt K mg):↥1 "_law_letter" ["_law_rank","_law_way"] tM:=by
 .exists T.bi,ro,b,g,%[r,w,rfl,i,j,l,m|c];show%[_,%["KDI[ZFWFVFt0SRAEAEAEAEBFW1E1E"|0]|?_];change jh _ _ [hY (.int r),hY (.int w)] H;lk;show%[#[4]|λp d=>%[!1,_,Qb.of aa,.int (mlt w),?_,.inr ?_,!1,#[26],_,ED ⋯ ⋯|c _ (ah.Qa d)]]
  all_goals
   unfold mlt;rcases(show w%4=0\/w%4=1\/w%4=2\/w%4=3 by lia)with e|e|e|e<;> rw[e]<;> first|rfl|decide
inductive EE (K:ZA)
 | mk (a:jg) (xs:ZL) (w:ri):vs=[.ref a,.int w]->Qb K H a (xs\4)-> ~~~xs=30->(∀x∈xs,0<=x/\x<6)->0<=w->w<=110->(∀l H' (cols:hH (hH iv)) (hi:iv),ah H H'->H l=hV->H' l<*(br cols hi)\3->eW w cols hi->Q (.ref l) H')->EE K vs H Q E0
abbrev HF(H:Hp)(cs:hH (jg×hH iv)):Prop:=∀p∈cs,H p.1∣.lst (p.2.map λx=>V.str (sgn x))
def BQ.put{w:ri}{a i:iv}{c:hH iv}(h:∀(k x:iv),c[k]?∣x->(k<a->x=46)/\(a<=k->∃r:ri,0<=r/\r<16/\x=ltr r w))(g: ~~~c=i)(j:a<=i){r:ri}(b:0<=r)(d:r<16)(k x:iv)(e:(c++[ltr r w])[k]?∣x):(k<a->x=46)/\(a<=k->∃r:ri,0<=r/\r<16/\x=ltr r w):=by
 by_cases f:k< ~~~c
 .rw[Yc f]at e;show h k x e
 .let:k= ~~~c:=by
   let:=(Xt e).1;simp at this
   lia
  subst this;rw[Yd ⋯,PK]at e;cases e;show%[λz=>by lia|λ_=>%[r,b,d|ρ]]
def vm:∀n:iv,(vu n [V.str (!".")]).flatten=(vu n 46).map λx=>V.str (sgn x)
 | 0=>rfl
 | n+1=>by rw[Qt,Uf,vm n,Qt,Yw];rfl
def BR(T:Txt K mg):↥2 "_law_cut" ["_law_digits_here","_law_way"] (EE K):=by
 .exists T.bj,cz,be,hr,%[a,xs,w,rfl,hs,hx,hb,w0,w1|kk];let get:∀i:ri,0<=i->i<30->∃c,atI (xs\4) i∣V.int c/\0<=c/\c<6:=λi h0 h1=>by
   let%[c,e|hm]:=lP xs h0 (by lia -verbose);show%[c,e|hb c hm]
  let%[c0,g0,l0|u0]:=get 0 (!1) (!1);let%[c1,g1,l1|u1]:=get 1 (!1) (!1);show%[_,%["KCG2FVEFWS0EECG3FVEFWS0EEC=4pqRBCQ'A2BJ5CG6FWS0FVE5FV3~E~cAn<5EBCG7FWS0FVE5ECG8F~*RAZB6CQ~dA6A3BJ9CYom8AH~eA7A1BBDG7FV7FWS0FVFVEFtE59EDYomP4A8BDIgc?1'A3B~+0?2pq$~O~PZAgc?3TP1b0?4$S0P1B",cz.nd,↑(["_law_k","_law_columns"],[(1,4)]),↑["_law_k","_law_columns"],↑(["_law_column","_law_k"],[(1,0)]),↑["_law_column","_law_k"]|hr]|?_]
  change aS _ _ _ [!a,hY (.int w),hV,hV,hV,hV,hV,hV,hV,hV] H;show aj λD1 k1 _=>?_
  lk;show%[_,hs,_,g0,!1|k1 _ _ (aj λD2 k2 _=>?_)];lk;show%[_,hs,_,g1,!1|k2 _ _ (aj λD3 k3 _=>?_)];obtain⟨O,ew,bf,bl⟩:∃O:iv,1+c0%4=O/\1<=O/\O<=4:=%[(1+c0%4).toNat,(by lia -verbose),(by lia -verbose)|(by lia -verbose)]
  obtain⟨hi,eh,hi1,bb⟩:∃hi:iv,1+c1%5=hi/\1<=hi/\hi<=5:=%[(1+c1%5).toNat,(by lia -verbose),(by lia -verbose)|(by lia -verbose)]
  rw[ew,eh];clear ew eh;lk;show%[Xl _|λL hL=>k3 _ _ (aj λD4 k4 _=>ay λy hK=>?_)];lk;show%[(by lia -verbose),(by lia -verbose)|hK _ _ (cI (λi g l=>E6 λ(o5 o6 o7 o8 o9:kw V) (cs:hH (jg×hH iv))=>A7 (g=[!a,hY (.int w),hY (.int O),hY (.int hi),!L,o5,o6,o7,o8,o9]) (ah H l) (l L∣.lst (cs\0)) (~~~cs=i) (HF l cs) (∀p∈cs,p.1≠L/\BQ w hi p.2) (∀p:jg×hH iv,cs[0]?∣p->∃r:ri,0<=r/\r<16/\p.2[hi-1]?∣ltr r w))
   %[_,_,_,_,_,[],ρ,ah.Qa hL,aa,ρ,(λ_ h=>nomatch h),(λ_ h=>nomatch h)|λ_ h=>nomatch h] ?_ ?_)]
  .intro j g l u %[o5,o6,o7,o8,o9,cs,rfl,sm,B,ac,ae,I|ag];change aS _ _ _ [!a,hY (.int w),hY (.int O),hY (.int hi),!L,hY (.int (0+j)),o6,o7,o8,o9] l;rw[OK];let%[c2,g2,l2|u2]:=get (2+j) (by lia -verbose) (by lia -verbose);let%[c6,g6,l6|u6]:=get (6+j) (by lia -verbose) (by lia -verbose);show aj λD5 k5 _=>?_
   lk;obtain⟨u,ej,bm,bt⟩:∃u:iv,(hi+if decide (0<(j:ri))=hW then 1 else 0:ri)=u/\(j=0->u=hi)/\hi<=u:=by
    by_cases c:0<(j:ri)
    .show%[hi+1,by rw[ix (Zf c)];rfl,λe=>by lia -verbose|(by lia -verbose)]
    .show%[hi,by rw[ij ↑c];simp,λ_=>rfl|Zi _]
   let b0:u<=hi+1:=by split at ej<;> lia -verbose
   rw[ej];clear ej;show%[_,sm.seq hs,_,g2,(by lia -verbose)|k5 _ _ (aj λD6 k6 _=>?_)];obtain⟨d,ea,al⟩:∃d:iv,c2%(u:ri)=d/\d<u:=%[(c2%(u:ri)).toNat,by let:=MB c2 (b:=u) (by lia -verbose);lia -verbose|by let:=NN c2 (b:=u) (by lia -verbose);let:=MB c2 (b:=u) (by lia -verbose);lia -verbose]
   rw[ea];clear ea;lk;show%[_,sm.seq hs,_,g6,!1|k6 _ _ (aj λD7 k7 _=>?_)];lk;show%[#[1]|λp hp=> .inr %[_,aa,(by lia -verbose),(by lia -verbose),by rw[Yq];show Yk (aC (by lia -verbose))|λC hC=>k7 _ _ (aj λD8 k8 _=>ay λy hK=>?_)]];let s1:=(ah.Qa (o:= .lst [V.str (!".")]) hp).trans (ah.Qa (o:= .lst (vu (d:ri).toNat [V.str (!".")]).flatten) hC);let fC:=(ah.Qa (o:= .lst [V.str (!".")]) hp).free hC;let a1:Qa (Qa l p (.lst [V.str (!".")])) C (.lst (vu (d:ri).toNat [V.str (!".")]).flatten) C∣.lst ((vu d 46).map λx=>V.str (sgn x)):=by
    rw[aa,No,vm]
   generalize Qa (Qa l p (.lst [V.str (!".")])) C _=H1 at s1 a1
   let a2:C≠L:=λe=>by rw[e,B]at fC;cases fC
   lk;show%[(by lia -verbose),(by lia -verbose),(by lia -verbose),(by lia -verbose)|hK _ _ (cI (λi g M=>E3 λ(r:ri) (o9:kw V) (c:hH iv)=>A7 (g=[!a,hY (.int w),hY (.int O),hY (.int hi),!L,hY (.int j),hY (.int d),hY (.int r),!C,o9]) (ah l M) (M C∣.lst (c.map λx=>V.str (sgn x))) (~~~c=d+i) (0<=r) (r<=3+2*i) (∀(k x:iv),c[k]?∣x->(k<d->x=46)/\(d<=k->∃r:ri,0<=r/\r<16/\x=ltr r w)))
    %[_,_,_,ρ,s1,a1,by simp,(by lia -verbose),(by lia -verbose)|λk x e=>?_] ?_ ?_)]
   .let:=Pi (a:=46) (n:=d) (i:=k);rw[e]at this
    split at this
    .cases this;show%[λ_=>rfl|λz=>by lia -verbose]
    .cases this
   .intro i g M hi2 %[r,o9,c,rfl,v,U,cl,r0,r1|Y];change aS _ _ _ [!a,hY (.int w),hY (.int O),hY (.int hi),!L,hY (.int j),hY (.int d),hY (.int r),!C,hY (.int (d+i))] M;show aj λD9 k9 _=>?_
    lk;let%[cd,gd,ld|ud]:=get (10+5*j+(d+i)) (by lia -verbose) (by lia -verbose);show%[tyL (Qb.of U),r,w,ρ,r0,(by lia -verbose),w0,w1|λH3 s3=>%[_,s3 _ _ U,by rw[Z6,cl];show aC (by lia -verbose)|k9 _ _ (az λb1 bc _=>?_)]];let m:ah l (Qa H3 C (.lst ((c.map λx=>V.str (sgn x)) ++[V.str (sgn (ltr r w))]))):=ah.set (v.trans s3) fC;lk;show%[.inl %[!1|!1],_,(sm.trans m).seq hs,_,gd,!1|bc _ _ %[_,_,c++[ltr r w],ρ,m,by rw[aa,Zd];rfl,by rw[Z9,cl];rfl,(by lia -verbose),(by lia -verbose)|BQ.put Y cl (by lia -verbose) r0 (by lia -verbose)]]
   .intro g M %[r,o9,c,rfl,v,U,cl,r0,r1|Y];show k8 _ _ (az λD9 k9 _=>?_);lk;let b2: ~~~c=max d hi:=by lia -verbose
    show%[tyL (Qb.of (v _ _ B)),_,v _ _ B,by rw[Z6,ac];show aC (by lia -verbose)|k9 _ _ %[_,_,_,_,_,cs++[(C,c)],ρ,ah.set (sm.trans v) hL,by rw[aa,Zd];rfl,by rw[Z9,ac];rfl,λq N=>?_,λq N=>?_|λq N=>?_]]
    .rcases Xu N with z|z
     .rw[ap (I q z).1];show v _ _ (ae q z)
     .rw[Xv z,ap a2];show U
    .rcases Xu N with z|z
     .show I q z
     .rw[Xv z];show%[a2,by change ~~~c=hi;lia -verbose,d|Y]
    .by_cases j0:j=0
     .obtain rfl:cs=[]:=zz.mp (by lia -verbose);cases N;let:=Y (hi-1) (c[hi-1]'(by lia -verbose)) (Z4 (by lia -verbose));let%[r,a,b|e]:=this.2 (by lia -verbose);show%[r,a,b|by rw[Z4 (by lia -verbose:hi-1< ~~~c),e]]
     .rw[Yc (by lia -verbose)]at N;show ag q N
  .intro g l %[o5,o6,o7,o8,o9,cs,rfl,sm,B,ac,ae,I|ag];show k4 _ _ ?_;lk;show aG λy hK=>?_
   lk;let a3: ~~~cs=O:=by lia -verbose
   show%[(by lia -verbose),(by lia -verbose)|hK _ _ λF hF=>?_];show dL (J:=Itr 0 hi) (n:=hi) (D:=F) (λq ts g M=>A4 (∃o,g=[o,!L]) (ah l M) (M F<*ts) (ts=((q7 q).map (lQ (cs\2)))\3))
    %[%[hV|rfl],ah.Qa hF,aa|rfl] (λq _ _ l N _=>N) (λ_ _ l _=>Zi _) ?_ ?_
   .intro q ts g M N %[%[o|rfl],v,an|ht] x H3 %[e2|e3];subst e2 e3;lk;show aG λy hK=>?_
    lk;let ab:=v _ _ B;show%[%[_|Qb.of ab]|hK _ _ λG hG=>?_];show dL (J:=Itl K L) (n:=O) (D:=G) (λr zs g H4=>A4 (∃o,g=[o,hY (.int q)]) (ah H3 H4) (H4 G<*zs) (zs=(((cs.take r).map λp=>p.2.getD q 46).map sgn)\3))
     %[%[hV|rfl],ah.Qa hG,aa|rfl]
     (λr _ _ H4 a4 ⟨_,m,_,_⟩=>%[_,V.ref (cs[r]'(by lia -verbose)).1,Qb.of (m _ _ ab)|by simp[show r< ~~~cs by lia -verbose]]) (λ_ _ H4 ⟨_,m,_,_⟩=>%[_,Qb.of (m _ _ ab)|by simp[a3]]) ?_ ?_
    .intro r zs g H4 a4 %[%[o|rfl],m,as|hz] x H5 %[e2|hx];subst e2;let a0:r< ~~~cs:=by lia -verbose
     let a5:=hx _ (Qb.of (m _ _ ab));rw[Zl,Z4 a0]at a5;obtain rfl:x=V.ref cs[r].1:=(Za a5).symm;let hm:=Yh a0;lk;show%[_,Qb.of (m _ _ (v _ _ (ae _ hm))),V.str (sgn (cs[r].2.getD q 46)),?_|CK.mk a4 as (by rw[hz,Z6,Z6,Z6,Yr];show aC (by lia -verbose)) %[%[_|ρ],ah.set m hG,aa|?_]]
     .show cS ?_;rw[Zl,jE (I _ hm).2.1 (by lia -verbose)];rfl
     .rw[hz,Xg,Zd,Zd,Zd,Z4 a0];rfl
    intro zs g H4 %[_,m,as|hz];rw[Zn (by lia -verbose)]at hz;lk;show%[(cs.map λp=>p.2.getD q 46).map sgn,by rw[<-hz];show Qb.of as,?_|CK.mk N (m _ _ an) (by rw[ht,Z6,Z6,Yp];show aC (by lia -verbose)) %[%[_|ρ],ah.set (v.trans m) hF,aa|?_]]
    .rw[uH,Z6,Z6,show(!"").length=0 from rfl]
     lia -verbose
    .rw[ht,O9,Zd,Zd,show Txt.join (!"") ((cs.map λp=>p.2.getD q 46).map sgn)=wh (!"") ((cs.map λp=>p.2.getD q 46).map sgn)from NV _ _,oO];let e:lQ (cs\2) q=⟨(cs.map λp=>p.2.getD q 46).toArray⟩:=by
      unfold lQ;rw[Yx];rfl
     rw[<-e];rfl
   .intro ts g M %[_,v,an|ht];let a6:0< ~~~cs:=by lia -verbose
    show kk F M (cs\2) hi (sm.trans v) (sm.free hF) (by rw[an,ht];rfl) %[hi1,bb,by rw[Z6];lia -verbose,by rw[Z6];lia -verbose,λc hc=>?_,cs[0].2,by rw[Zl,Z4 a6];rfl|ag _ (Z4 a6)];let%[p,hp|rfl]:=Xw hc;show(I p hp).2
abbrev GN(K:ZA):Sp:=λvs H Q _=>∃(a:jg) (xs:ZL) (w:ri),vs=[.ref a,.int w]/\Qb K H a (xs\4)/\ ~~~xs=107/\(∀x∈xs,0<=x/\x<6)/\0<=w/\w<=110/\
 ∀l c (b:hH (hH iv)) (hi:iv),ah H c->H l=hV->c l<*(br b hi)\3->eW w b hi->Q (.ref l) c
def pT(T:Txt K mg):↥2 "_law_wide_cut" ["_law_digits_here","_law_way"] (GN K):=by
 .exists T.bm,aW,be,hr,%[a,xs,w,rfl,hs,hx,hb,w0,w1|kk];let get:∀i:ri,0<=i->i<107->∃c,atI (xs\4) i∣V.int c/\0<=c/\c<6:=λi h0 h1=>by
   let%[c,e|hm]:=lP xs h0 (by lia -verbose);show%[c,e|hb c hm]
  let%[c0,g0,l0|u0]:=get 0 (!1) (!1);let%[c1,g1,l1|u1]:=get 1 (!1) (!1);show%[_,%["KCG2FVEFWS0EECG3FVEFWS0EEC=4pqRBCQ'A2BJ5CG6FWS0FVEFtE5FV3~E~,An<5EBCG7FVFWS0FVEFtE5EFtE~E~,An<5EBCG8F~*RAZB6CQ~dA6A3BJ9CYom8AH~eA7A1BBDG7FV7FWS0FVFVEFtE59EDYomP4A8BDIgc?1'A3B~+0?2pq$~O~PZAgc?3TP1b0?4$S0P1B",aW.nd,(show bp (ak f9) ["_law_digits_here","_law_way","_law_wide","_law_high","_law_columns","_law_j","_law_air","_law_rank","_law_column","_law_k"] _ ["_law_k","_law_columns"] [(1,4)]=hW from !0),↑["_law_k","_law_columns"],(show bp _ ["_law_k","_law_columns"] _ ["_law_column","_law_k"] [(1,0)]=hW from rfl),↑["_law_column","_law_k"]|hr]|?_]
  change aS _ _ _ [!a,hY (.int w),hV,hV,hV,hV,hV,hV,hV,hV] H;show aj λD1 k1 _=>?_
  lk;show%[_,hs,_,g0,!1|k1 _ _ (aj λD2 k2 _=>?_)];lk;show%[_,hs,_,g1,!1|k2 _ _ (aj λD3 k3 _=>?_)];obtain⟨O,ew,bf,bl⟩:∃O:iv,10+c0%6=O/\1<=O/\O<=15:=%[(10+c0%6).toNat,(by lia -verbose),(by lia -verbose)|(by lia -verbose)]
  obtain⟨hi,eh,hi1,bb⟩:∃hi:iv,2+c1%4=hi/\1<=hi/\hi<=5:=%[(2+c1%4).toNat,(by lia -verbose),(by lia -verbose)|(by lia -verbose)]
  rw[ew,eh];clear ew eh;lk;show%[Xl _|λL hL=>k3 _ _ (aj λD4 k4 _=>ay λy hK=>?_)];lk;show%[(by lia -verbose),(by lia -verbose)|hK _ _ (cI (λi g l=>∃(o5 o6 o7 o8 o9:kw V) (cs:hH (jg×hH iv)),g=[!a,hY (.int w),hY (.int O),hY (.int hi),!L,o5,o6,o7,o8,o9]/\ah H l/\l L∣.lst (cs\0)/\ ~~~cs=i/\HF l cs/\(∀p∈cs,p.1≠L/\BQ w hi p.2)/\
   ∀p:jg×hH iv,cs[0]?∣p->∃r:ri,0<=r/\r<16/\p.2[hi-1]?∣ltr r w)
   %[_,_,_,_,_,[],ρ,ah.Qa hL,aa,ρ,(λ_ h=>nomatch h),(λ_ h=>nomatch h)|λ_ h=>nomatch h] ?_ ?_)]
  .intro j g l u %[o5,o6,o7,o8,o9,cs,rfl,sm,B,ac,ae,I|ag];change aS _ _ _ [!a,hY (.int w),hY (.int O),hY (.int hi),!L,hY (.int (0+j)),o6,o7,o8,o9] l;rw[OK];let%[c2,g2,l2|u2]:=get (2+7*j) (by lia -verbose) (by lia -verbose);let%[c6,g6,l6|u6]:=get (3+7*j) (by lia -verbose) (by lia -verbose);show aj λD5 k5 _=>?_
   lk;obtain⟨u,ej,bm,bt⟩:∃u:iv,(hi+if decide (0<(j:ri))=hW then 1 else 0:ri)=u/\(j=0->u=hi)/\hi<=u:=by
    by_cases c:0<(j:ri)
    .show%[hi+1,by rw[ix (Zf c)];rfl,λe=>by lia -verbose|(by lia -verbose)]
    .show%[hi,by rw[ij ↑c];simp,λ_=>rfl|Zi _]
   let b0:u<=hi+1:=by split at ej<;> lia -verbose
   rw[ej];clear ej;show%[.inl %[!1|!1],_,sm.seq hs,_,g2,(by lia -verbose)|k5 _ _ (aj λD6 k6 _=>?_)];obtain⟨d,ea,al⟩:∃d:iv,c2%(u:ri)=d/\d<u:=%[(c2%(u:ri)).toNat,by let:=MB c2 (b:=u) (by lia -verbose);lia -verbose|by let:=NN c2 (b:=u) (by lia -verbose);let:=MB c2 (b:=u) (by lia -verbose);lia -verbose]
   rw[ea];clear ea;lk;show%[.inl %[!1|!1],_,sm.seq hs,_,g6,!1,.inl %[!1|!1]|k6 _ _ (aj λD7 k7 _=>?_)];obtain⟨r0,er,ra,rb⟩:∃r:ri,(c6%4+4*if decide (6<(j:ri))=hW then 1 else 0:ri)=r/\0<=r/\r<=7:=%[_,rfl,by split<;> lia -verbose|by split<;> lia -verbose]
   rw[er];clear er;lk;show%[#[1]|λp hp=> .inr %[_,aa,(by lia -verbose),(by lia -verbose),by rw[Yq];show Yk (aC (by lia -verbose))|λC hC=>k7 _ _ (aj λD8 k8 _=>ay λy hK=>?_)]];let s1:=(ah.Qa (o:= .lst [V.str (!".")]) hp).trans (ah.Qa (o:= .lst (vu (d:ri).toNat [V.str (!".")]).flatten) hC);let fC:=(ah.Qa (o:= .lst [V.str (!".")]) hp).free hC;let a1:Qa (Qa l p (.lst [V.str (!".")])) C (.lst (vu (d:ri).toNat [V.str (!".")]).flatten) C∣.lst ((vu d 46).map λx=>V.str (sgn x)):=by
    rw[aa,No,vm]
   generalize Qa (Qa l p (.lst [V.str (!".")])) C _=H1 at s1 a1
   let a2:C≠L:=λe=>by rw[e,B]at fC;cases fC
   lk;show%[(by lia -verbose),(by lia -verbose),(by lia -verbose),(by lia -verbose)|hK _ _ (cI (λi g M=>∃(r:ri) (o9:kw V) (c:hH iv),g=[!a,hY (.int w),hY (.int O),hY (.int hi),!L,hY (.int j),hY (.int d),hY (.int r),!C,o9]/\ah l M/\M C∣.lst (c.map λx=>V.str (sgn x))/\ ~~~c=d+i/\0<=r/\r<=7+2*i/\(∀(k x:iv),c[k]?∣x->(k<d->x=46)/\(d<=k->∃r:ri,0<=r/\r<16/\x=ltr r w)))
    %[_,_,_,ρ,s1,a1,by simp,(by lia -verbose),(by lia -verbose)|λk x e=>?_] ?_ ?_)]
   .let:=Pi (a:=46) (n:=d) (i:=k);rw[e]at this
    split at this
    .cases this;show%[λ_=>rfl|λz=>by lia -verbose]
    .cases this
   .intro i g M hi2 %[r,o9,c,rfl,v,U,cl,r0,r1|Y];change aS _ _ _ [!a,hY (.int w),hY (.int O),hY (.int hi),!L,hY (.int j),hY (.int d),hY (.int r),!C,hY (.int (d+i))] M;show aj λD9 k9 _=>?_
    lk;let%[cd,gd,ld|ud]:=get (4+7*j+(d+i)) (by lia -verbose) (by lia -verbose);show%[tyL (Qb.of U),r,w,ρ,r0,(by lia -verbose),w0,w1|λH3 s3=>%[_,s3 _ _ U,by rw[Z6,cl];show aC (by lia -verbose)|k9 _ _ (az λb1 bc _=>?_)]];let m:ah l (Qa H3 C (.lst ((c.map λx=>V.str (sgn x)) ++[V.str (sgn (ltr r w))]))):=ah.set (v.trans s3) fC;lk;show%[.inl %[!1|!1],_,(sm.trans m).seq hs,_,gd,!1|bc _ _ %[_,_,c++[ltr r w],ρ,m,by rw[aa,Zd];rfl,by rw[Z9,cl];rfl,(by lia -verbose),(by lia -verbose)|BQ.put Y cl (by lia -verbose) r0 (by lia -verbose)]]
   .intro g M %[r,o9,c,rfl,v,U,cl,r0,r1|Y];show k8 _ _ (az λD9 k9 _=>?_);lk;let b2: ~~~c=max d hi:=by lia -verbose
    show%[tyL (Qb.of (v _ _ B)),_,v _ _ B,by rw[Z6,ac];show aC (by lia -verbose)|k9 _ _ %[_,_,_,_,_,cs++[(C,c)],ρ,ah.set (sm.trans v) hL,by rw[aa,Zd];rfl,by rw[Z9,ac];rfl,λq N=>?_,λq N=>?_|λq N=>?_]]
    .rcases Xu N with z|z
     .rw[ap (I q z).1];show v _ _ (ae q z)
     .rw[Xv z,ap a2];show U
    .rcases Xu N with z|z
     .show I q z
     .rw[Xv z];show%[a2,by change ~~~c=hi;lia -verbose,d|Y]
    .by_cases j0:j=0
     .obtain rfl:cs=[]:=zz.mp (by lia -verbose);cases N;let:=Y (hi-1) (c[hi-1]'(by lia -verbose)) (Z4 (by lia -verbose));let%[r,a,b|e]:=this.2 (by lia -verbose);show%[r,a,b|by rw[Z4 (by lia -verbose:hi-1< ~~~c),e]]
     .rw[Yc (by lia -verbose)]at N;show ag q N
  .intro g l %[o5,o6,o7,o8,o9,cs,rfl,sm,B,ac,ae,I|ag];show k4 _ _ ?_;lk;show aG λy hK=>?_
   lk;let a3: ~~~cs=O:=by lia -verbose
   show%[(by lia -verbose),(by lia -verbose)|hK _ _ λF hF=>?_];show dL (J:=Itr 0 hi) (n:=hi) (D:=F) (λq ts g M=>(∃o,g=[o,!L])/\ah l M/\M F<*ts/\ts=((q7 q).map (lQ (cs\2)))\3)
    %[%[hV|rfl],ah.Qa hF,aa|rfl] (λq _ _ l N _=>N) (λ_ _ l _=>Zi _) ?_ ?_
   .intro q ts g M N %[%[o|rfl],v,an|ht] x H3 %[e2|e3];subst e2 e3;lk;show aG λy hK=>?_
    lk;let ab:=v _ _ B;show%[%[_|Qb.of ab]|hK _ _ λG hG=>?_];show dL (J:=Itl K L) (n:=O) (D:=G) (λr zs g H4=>(∃o,g=[o,hY (.int q)])/\ah H3 H4/\H4 G<*zs/\zs=(((cs.take r).map λp=>p.2.getD q 46).map sgn)\3)
     %[%[hV|rfl],ah.Qa hG,aa|rfl]
     (λr _ _ H4 a4 ⟨_,m,_⟩=>%[_,V.ref (cs[r]'(by lia -verbose)).1,Qb.of (m _ _ ab)|by simp[show r< ~~~cs by lia -verbose]]) (λ_ _ H4 ⟨_,m,_⟩=>%[_,Qb.of (m _ _ ab)|by simp[a3]]) ?_ ?_
    .intro r zs g H4 a4 %[%[o|rfl],m,as|hz] x H5 %[e2|hx];subst e2;let a0:r< ~~~cs:=by lia -verbose
     let a5:=hx _ (Qb.of (m _ _ ab));rw[Zl,Z4 a0]at a5;obtain rfl:x=V.ref cs[r].1:=(Za a5).symm;let hm:=Yh a0;lk;show%[_,Qb.of (m _ _ (v _ _ (ae _ hm))),V.str (sgn (cs[r].2.getD q 46)),?_|CK.mk a4 as (by rw[hz,Z6,Z6,Z6,Yr];show aC (by lia -verbose)) %[%[_|ρ],ah.set m hG,aa|?_]]
     .show cS ?_;rw[Zl,jE (I _ hm).2.1 (by lia -verbose)];rfl
     .rw[hz,Xg,Zd,Zd,Zd,Z4 a0];rfl
    intro zs g H4 %[_,m,as|hz];rw[Zn (by lia -verbose)]at hz;lk;show%[(cs.map λp=>p.2.getD q 46).map sgn,by rw[<-hz];show Qb.of as,?_|CK.mk N (m _ _ an) (by rw[ht,Z6,Z6,Yp];show aC (by lia -verbose)) %[%[_|ρ],ah.set (v.trans m) hF,aa|?_]]
    .rw[uH,Z6,Z6,show(!"").length=0 from rfl]
     lia -verbose
    .rw[ht,O9,Zd,Zd,show Txt.join (!"") ((cs.map λp=>p.2.getD q 46).map sgn)=wh (!"") ((cs.map λp=>p.2.getD q 46).map sgn)from NV _ _,oO];let e:lQ (cs\2) q=⟨(cs.map λp=>p.2.getD q 46).toArray⟩:=by
      unfold lQ;rw[Yx];rfl
     rw[<-e];rfl
   .intro ts g M %[_,v,an|ht];let a6:0< ~~~cs:=by lia -verbose
    show kk F M (cs\2) hi (sm.trans v) (sm.free hF) (by rw[an,ht];rfl) %[hi1,bb,by rw[Z6];lia -verbose,by rw[Z6];lia -verbose,λc hc=>?_,cs[0].2,by rw[Zl,Z4 a6];rfl|ag _ (Z4 a6)];let%[p,hp|rfl]:=Xw hc;show(I p hp).2
inductive tN
 | mk (z:ku):vs=[.str z]-> ~~~z<=1000->(∀H',ah H H'->Q (.bl (uG z)) H')->tN vs H Q E0
inductive pU
 | mk (row above:ku):vs=[.str row,.str above]-> ~~~row<=1000-> ~~~above<=1000->(∀H',ah H H'->Q (.bl (fQ row above)) H')->pU vs H Q E0
inductive ke (K:ZA)
 | mk (a:jg) (rows:ZB):vs=[.ref a]->Qb K H a (rows\3)->(rows.map (·.length)).sum<=3000->(∀r∈rows,r.cps.toList.all okc=hW)->(∀l H' (ss:ZB),ah H H'->H l=hV->H' l<*ss\3->ss.Perm (aR ((dc rows).map sgn))->Q (.ref l) H')->ke K vs H Q E0
inductive pV
 | mk (rows:ZB):vs=[.str (wh nl rows)]->cW rows->(∀l H',ah H H'->H l=hV->H' l<*rows\3->Q (.ref l) H')->pV vs H Q E0
def jO(z:ku)(i:iv)(c:iv)(h:z.cps[i]?∣c):(z.cps.toList.take i++[c])=z.cps.toList.take (i+1):=by
 let h':z.cps.toList[i]?∣c:=↑h
 let%[a|e]:=Xt h';rw[M5 a,e]
def EF(c d:iv):((⟨([c].toArray)⟩:ku)=⟨([d].toArray)⟩)↔c=d:=by
 constructor
 .intro h;let:(([c].toArray):o0 iv)= ([d].toArray):=by injection h
  simpa using this
 .intro h;rw[h]
def pW(c:iv):((⟨([c].toArray)⟩:ku)=!".")↔c=46:=EF c 46
def EG(T:Txt K mg):↥1 "is_row" ["row"] tN:=by
 .exists T.aY,BO,y,N,%[z,rfl,O|k];show%[_,%["KDI(~f~A~AEklA0B]P+~g~hAgc?1~i0b0?2$~.n~j0~F+n~/0~:B",0,↑(["sign"],[])|↑["sign"]]|?_];change jh _ _ [-z] H;lk;show%[cO ⋯|bC (λm=>bC (λp=>?_) λp=>?_) λm=>?_]
  .show aG λu B=>?_
   lk;show B _ _ λD v=>?_
   show dL (J:=Its z) (n:=z.cps.size) (D:=D) (λi ys d a=>A4 (∃o,d=[o]) (ah H a) (a D<*ys) (ys=(z.cps.toList.take i).map (λc=>V.bl (okc c)))) %[%[hV|rfl],ah.Qa v,aa|rfl]
    (λi _ _ _ hi _=>hi) (λ_ _ _ _=>Zi _) ?_ ?_
   .intro i ys d a hi %[%[o|rfl],q,r|g] x C %[G,c,I|rfl];subst G;let j: ~~~ys=i:=by
     rw[g,Z6,Yr];let: ~~~z.cps.toList=z.cps.size:=by simp
     lia
    let L:i<1000:=by
     let: ~~~z=z.cps.size:=rfl
     lia
    let put:∀b:su,b=okc c->CK D z.cps.size i (λi ys d a=>A4 (∃o,d=[o]) (ah H a) (a D<*ys) (ys=(z.cps.toList.take i).map (λc=>V.bl (okc c)))) ys [hY (.str ⟨([c].toArray)⟩)] (.bl b) C:=λb M=>
     CK.mk hi r (by rw[j];show aC ⋯) %[%[_|rfl],ah.set q v,aa|by rw[M,g,<-jO z i c I,Zd];rfl]
    lk;show bC (λl=>put hW ?_) λl=>put _ ?_
    .let:=(pW c).mp (Zo l);unfold okc;rw[Zf this,SQ]
    .let l: ¬ (⟨([c].toArray)⟩:ku)=pp ".":=λe=>l (Zf e)
     let: ¬ c=46:=λe=>l ((pW c).mpr e)
     unfold okc;rw[Zh this,Sv,uu];rfl
   .intro ys d a %[_,q,r|g];lk;show%[z.cps.toList.map okc,?_|?_]
    .let e:z.cps.toList.take z.cps.size=z.cps.toList:=by
      apply Zn;simp
     rw[e]at g;let:(z.cps.toList.map okc).map V.bl=ys:=by rw[g,Yx];rfl
     rw[this];show Qb.of r
    .let e:uG z=(z.cps.toList.map okc).all id:=by
      unfold uG;rw[m,p,VP]
      all_goals rfl
     rw[<-e];show k a q
  .rw[Rn]at p;let e:uG z=hX:=by unfold uG;rw[p,Mv,NX]
   rw[e]at k;show k H (ah.refl H)
  .rw[Rn]at m;let e:uG z=hX:=by unfold uG;rw[m,NX,NX]
   rw[e]at k;show k H (ah.refl H)
abbrev nH(p:iv×iv):su:=!decide (p.2=46)||decide (p.1=46)
def pX(x y:ku)(i c d:iv)(b:x.cps[i]?∣c)(f:y.cps[i]?∣d):((MO x.cps.toList y.cps.toList).take i++[(c,d)])=(MO x.cps.toList y.cps.toList).take (i+1):=by
 let h:(MO x.cps.toList y.cps.toList)[i]?∣(c,d):=OP.mpr %[↑b|↑f];let%[a|e]:=Xt h;rw[M5 a,e]
def pY(T:Txt K mg):↥1 "lies_beneath" ["row","above"] pU:=by
 .exists T.aZ,nQ,I,hr,%[row,a,rfl,L,M|k];show%[_,%["KCNM~;klA0BklA1BDIhODI~g~hAgc?1~<A1A0BiLb0?2Lb1?2d$~.n~B1~F+n)0~FB",0,↑(["high","low"],[])|↑["high","low"]]|?_]
  change aS _ _ _ [-row,-a] H;show aj λD1 k1 N=>?_
  lk;show%[cO ⋯,cO ⋯|bC (λj=>?_) λj=>?_]
  .let j: ¬ ((~~~row:ri)= ~~~a):=↑j
   let e:fQ row a=hX:=by
    unfold fQ;rw[Zh ⋯,NX]
   rw[e]at k;show N _ _ (k H (ah.refl H))
  .let j: ~~~row= ~~~a:=by
    let:(~~~row:ri)= ~~~a:=↑j
    lia
   show k1 _ _ ?_;let u:row.cps.size=a.cps.size:=j;let v: ~~~(MO a.cps.toList row.cps.toList)=a.cps.size:=by rw[S5];simp[u]
   lk;show aG λB O=>?_
   lk;show O _ _ λD C=>?_
   show dL (J:=Itz a row) (n:=a.cps.size) (D:=D) (λi ys l g=>A4 (E2 λq r=>l=[q,r]) (ah H g) (g D<*ys) (ys=((MO a.cps.toList row.cps.toList).take i).map (λp=>V.bl (nH p)))) %[%[hV,hV|rfl],ah.Qa C,aa|rfl]
    (λi _ _ _ hi _=>%[hi|⋯]) (λ_ _ _ _=>%[Zi _,⋯|.inl rfl]) ?_ ?_
   .intro i ys l g hi %[%[q,r|rfl],y,z|m] x H2 %[c,d,TT,U,Y,G,rfl|rfl];let o: ~~~ys=i:=by rw[m,Z6,Yr,v];lia
    let ab:i<1000:=by
     let: ~~~a=a.cps.size:=rfl
     lia
    let put:∀b:su,b=nH (c,d)->CK D a.cps.size i (λi ys l g=>A4 (E2 λq r=>l=[q,r]) (ah H g) (g D<*ys) (ys=((MO a.cps.toList row.cps.toList).take i).map (λp=>V.bl (nH p)))) ys [hY (.str ⟨([c].toArray)⟩),hY (.str ⟨([d].toArray)⟩)] (.bl b) (Qa g TT (.tup [.str ⟨([c].toArray)⟩,.str ⟨([d].toArray)⟩])):=λb eb=>
     CK.mk hi (ah.Qa G _ _ z) (o▸aC ⋯) %[%[_,_|rfl],ah.set (y.trans (ah.Qa G)) C,aa|by rw[eb,m,<-pX a row i c d U Y,Zd];rfl]
    lk;show%[_,SqT.of aa,ρ,_,_,ρ,_,_,ρ,ρ,ρ|?_];simp only[V.str.injEq,pW];show bC (λh=>put hW ?_) λh=>%[⟨⟩|put _ ?_]
    .unfold nH;rw[h,SQ]
    .unfold nH;rw[Rn]at h;rw[h,Sv]
   .intro ys l g %[_,y,z|m];lk;show%[(MO a.cps.toList row.cps.toList).map nH,?_|?_]
    .let e:(MO a.cps.toList row.cps.toList).take a.cps.size=MO a.cps.toList row.cps.toList:=Zn ⋯;rw[e]at m;let:((MO a.cps.toList row.cps.toList).map nH).map V.bl=ys:=by rw[m,Yx];rfl
     rw[this];show Qb.of z
    .let e:fQ row a=((MO a.cps.toList row.cps.toList).map nH).all id:=by
      unfold fQ;rw[Zf j,VP,Vy];rfl
     show e▸k g y
def BS(h:(rows.map (·.length)).sum<=3000):(wh (!"") rows).length<=3000:=by
 let:=Sf (!"") rows;rw[show(!"").length=0 from rfl]at this
 lia
def lS(T:Txt K mg):↥1 "letters_in" ["rows"] (ke K):=by
 .exists T.b0,rh,M,hr,%[a,rows,rfl,N,g,v|k];show%[_,%["KDI%~kA~C~QAgc?1~i~O~PZA0Bb0?2wM~B0~F0BB",0,↑(["sign"],[])|↑["sign"]]|?_];change jh _ _ [!a] H;lk;show aG λC O=>?_
  lk;show%[rows,N,by rw[show(!"").length=0 from rfl];lia|?_];rw[show Txt.join (!"") rows=wh (!"") rows from NV _ _];let j:=BS g;let b:=jM v;unfold dc at b k
  generalize wh (!"") rows=z at j b k ⊢
  show O _ _ λD G=>?_
  show dL (J:=Its z) (n:=z.cps.size) (D:=D) (λi ys y m=>A4 (∃o,y=[o]) (ah H m) (m D<*ys) (ys=((z.cps.toList.take i).filter (λc=>decide (c≠46))).map (λc=>V.str (sgn c)))) %[%[hV|rfl],ah.Qa G,aa|rfl]
   (λi _ _ _ hi _=>hi) (λ_ _ _ _=>Zi _) ?_ ?_
  .intro i ys y m hi %[%[o|rfl],r,u|d] x H2 %[U,c,I|rfl];subst U;let L: ~~~ys<=i:=by
    rw[d,Z6];let:=Yo (λc=>decide (c≠46)) (z.cps.toList.take i);rw[Yr]at this
    lia
   let Y:i<3000:=by
    let: ~~~z=z.cps.size:=rfl
    lia
   lk;simp only[pW];show bC (λB=>?_) λB=>?_
   .show CK.mk hi u (aC ⋯) %[%[_|rfl],ah.set r G,aa|?_];rw[<-jO z i c I,Y6,Zd,d];let:decide (c≠46)=hW:=↑B
    rw[Y7,this];rfl
   .show CN.mk hi %[%[_|rfl],r,u|?_];rw[<-jO z i c I,Y6,Zd,d];let:decide (c≠46)=hX:=↑B
    rw[Y7,this];simp
  .intro ys y m %[_,r,u|d];let e:z.cps.toList.take z.cps.size=z.cps.toList:=by
    apply Zn;simp
   rw[e]at d;lk;let ab:=Yo (λc=>decide (c≠46)) z.cps.toList;let ac: ~~~z.cps.toList= ~~~z:=by simp[Ub]
   show%[(z.cps.toList.filter (λc=>decide (c≠46))).map sgn,?_,by rw[Z6];lia|λS hS=>%[_,aa,?_|λl ss p hp ae=>?_]]
   .rw[Yx];let:(z.cps.toList.filter (λc=>decide (c≠46))).map (V.str ∘ sgn)=ys:=by rw[d];rfl
    rw[this];show Qb.of u
   .let:=km b
    lia
   .let q:ah H (Qa m S (ki w S (aR ((z.cps.toList.filter (λc=>decide (c≠46))).map sgn)))):=r.trans (ah.Qa hS);show k l _ ss (q.trans (ah.Qa p)) (q.free p) aa hp
def mO(T:Txt K mg):↥2 "rows_of" ["text"] pV:=by
 .exists T.aX,iR,as,M,%[rows,rfl,a|k];let%[wd,w1,w2|hw]:=a.wide;let N:=a.text;let u:=a.split;show%[_,%["KCNeaxyA0A?1BD,OCG1~=~>0AZBCQ~RA1BiLJ2LJ3dCNjuMv2]Q!eaH]RA3BD,ODNj.M<2E/eaH]SA3AS1F~S2EBD,OCNMvklAH~^A1BBED,ODI1",iR.nd,(blE (v:= .ty "str") rfl T.ac UO rfl rfl rfl)|M]|?_]
  generalize wh nl rows=z at N u
  change aS _ _ _ [-z,hV,hV,hV] H;show aj λD1 k1 _=>?_
  lk;show%[.type "str",.str z,hW,by rfl|qQ (k1 _ _ (aj λD2 k2 _=>?_))];lk;show%[!1,Ym (by lia: ~~~z+2<=5000) (!1)|λl hl=>k2 _ _ ?_];rw[show(!"\n")=nl from rfl,u];show aj λD3 k3 _=>ay λag hK=>?_
  lk;let O:ah H (Qa H l (.lst (rows\3))):=ah.Qa hl;show%[_,Qb.of aa|hK _ _ (jo (λi J g=>E2 λU Y=>A3 (J=[-z,!l,U,Y]) (ah H g) (g l<*rows\3)) %[hV,hV,ρ,O|aa] (λi J g _ ⟨_,_,_,_,q⟩=>Qb.of q) ?_ ?_)]
  .intro i x TT J g y %[U,Y,rfl,sm|j] hT;obtain⟨r,m,rfl⟩:∃r,rows[i]?∣r/\x=V.str r:=by
    rw[Zl]at y;cases e:rows[i]? with
    | none=>rw[e]at y;cases y
    | some r=>rw[e]at y;show%[r,ρ|(Za y).symm]
   let al:i< ~~~rows:=(Xt m).1;let an:=a.high;let B:ah H (Qa g TT (.tup [.int i,.str r])):=sm.trans (ah.Qa hT);let o:Qa g TT (.tup [.int i,.str r]) l<*rows\3:=ah.Qa hT _ _ j;let C:Qa g TT (.tup [.int i,.str r]) TT&&&[.int i,.str r]:=aa
   generalize Qa g TT _=HT at B o C
   let G: ~~~r<=1000:=by
    let: ~~~r=wd:=hw r (Z8 m)
    lia
   show%[_,SqT.of C,ρ,_,_,ρ,_,_,ρ,ρ|?_];change aS _ _ _ [-z,!l,hY (.int i),-r] HT;show aj λD4 k4 _=>?_
   let go:∀p,ah HT p->D4.nx [-z,!l,hY (.int i),-r] p:=by
    intro p b;show k4 _ _ (az λD5 k5 _=>?_);let fin:∀L,ah HT L->D5.nx [-z,!l,hY (.int i),-r] L:=λL n=>k5 _ _ %[_,_,rfl,B.trans n|n l _ o]
    lk;show bC (λI=>?_) λ_=>fin _ b
    let I:0<(i:ri):=Zo I;obtain⟨d,rfl⟩:∃d,i=d+1:=%[i-1|⋯]
    let ab:d< ~~~rows:=by lia
    let ac:rows[d]?∣rows[d]:=by simp
    let e1:(((d+1:iv):ri) -1)=(d:ri):=by lia
    show%[_,Qb.of (b l _ o),.str rows[d],e1▸cS ∅,r,rows[d],ρ,G,?_|λL n=>?_]
    .let:rows[d].length=wd:=hw _ (Yh ab)
     lia
    .rw[a.beneath ac m];show fin _ (b.trans n)
   lk;rw[ij ⋯];show%[r,ρ,G|λp b=>?_];rw[a.row (Z8 m)];show go p b
  .intro J g %[U,Y,rfl,sm|j];show k3 _ _ ?_;lk;show%[l,rows,ρ,Qb.of j,by let:=a.sum;lia,a.sign|λl2 p ss b a0 ae I=>%[_,.inl %[_,Qb.of ae|ρ]|?_]];rw[ij]
   .show k l p (sm.trans b) hl (b l _ j)
   .intro h0;let h0:=Zo h0;rw[Z6]at h0;let:ss=[]:=zz.mp ⋯;rw[this]at I;let hm:=I.symm.eq_nil;let%[c|hc]:=Si _ a.signs_ne;let:sgn c∈aR ((dc rows).map sgn):=aP.mpr (Xx %[c,hc|rfl]);rw[hm]at this;cases this
abbrev gQ(p:iv×iv):kw ZB:=if p.1≠46/\p.1≠p.2 then hY [sgn p.1,sgn p.2]else hV
abbrev pZ(u r:ku):hH ZB:=(MO u.cps.toList r.cps.toList).filterMap gQ
def gj(H:Hp):aB H []:=λp a=>by cases a
def ax(h:aB H ps)(s:∀b z,H b&&&z->c b&&&z):aB c ps:=λp a=>%[(h p a).1|s _ _ (h p a).2]
def eF(h:aB H ps)(a:q.2≠[])(b:H q.1&&&q.2\3):aB H (ps++[q]):=λp c=>by
 rcases Xu c with z|z
 .show h p z
 .rw[Xv z];show%[a|b]
def lT(a:aB H ps)(b:aB H qs):aB H (ps++qs):=λp c=>(Xu c).elim (a p) (b p)
inductive HG
 | mk (u r:ku):vs=[.str u,.str r]-> ~~~u<=40-> ~~~r= ~~~u->(∀l H' ps,ah H H'->H l=hV->H' l∣.lst (ps\0)->aB H' ps->ps\2=pZ u r->Q (.ref l) H')->HG vs H Q E0
inductive z7
 | mk (rows:ZB):vs=[.str (wh nl rows)]->cW rows->(∀l H' (ss:ZB),ah H H'->H l=hV->H' l<*ss\3->ss.Perm (aR ((dc rows).map sgn))->Q (.ref l) H')->z7 vs H Q E0
def BT(T:Txt K mg):↥3 "letters" ["text"] z7:=by
 .exists T.b1,yW,d,b,%[rows,rfl,a|e];show%[_,%["KDIH~^AH~_A0BB",0|b],rows,ρ,a|λl q c r g=>%[l,rows,ρ,Qb.of g,by let:=a.sum;lia,a.sign|λi j ss m n o p=>e i j ss (c.trans m) (c.free n) o p]]
def kE(T:Txt K mg):↥1 "meetings_between" ["above","row"] HG:=by
 .exists T.b3,jW,ac,hr,%[u,r,rfl,hu,ae|kk];let ag: ~~~u=u.cps.size:=rfl;let al: ~~~r=r.cps.size:=rfl;show%[_,%["KDIgc?1~<A0A1BiLb0?2Lb1?2dwj.M~B0~F/M~B01fA0A1B",0,↑(["high","low"],[])|↑["high","low"]]|?_];change jh _ _ [-u,-r] H;lk;show aG λab hK=>?_
  lk;show hK _ _ λD O=>?_
  show dL (J:=Itz u r) (n:=u.cps.size) (D:=D) (λi ys U l=>A5 (E2 λo1 o2=>U=[o1,o2]) (ah H l) (l D<*ys) (~~~ys<=i) (∃ps:ZG,A3 (ys=ps\0) (aB l ps) (ps\2=((MO u.cps.toList r.cps.toList).take i).filterMap gQ)))
   %[%[hV,hV|rfl],ah.Qa O,aa,Zi _,[],rfl,gj _|rfl] (λi _ _ _ hi _=>%[hi|⋯]) (λ_ _ _ _=>%[Zi _,⋯|.inl rfl]) ?_ ?_
  .intro i ys U l hi %[%[o1,o2|rfl],Y,hl,I,ps,L,m|j] x H2 %[c,d,TT,hc,hd,hT,rfl|rfl];let v:=ah.Qa (o:= .tup [.str ⟨([c].toArray)⟩,.str ⟨([d].toArray)⟩]) hT;let nx:=pX u r i c d hc hd;let a:=v _ _ hl;let C:Qa l TT (.tup [.str ⟨([c].toArray)⟩,.str ⟨([d].toArray)⟩]) TT&&&[.str ⟨([c].toArray)⟩,.str ⟨([d].toArray)⟩]:=aa;let g:aB (Qa l TT (.tup [.str ⟨([c].toArray)⟩,.str ⟨([d].toArray)⟩])) ps:=λp G=>%[(m p G).1|v _ _ (m p G).2]
   let y:=Y.trans v
   generalize Qa l TT _=HT at v a C g y
   show%[_,SqT.of C,ρ,_,_,ρ,_,_,ρ,ρ|?_];change Fs _ _ [hY (.str ⟨([c].toArray)⟩),hY (.str ⟨([d].toArray)⟩)] HT _;lk;simp only[pW,EF];let an:D≠TT:=λe=>by rw[e,C]at a;cases a
   show bC (λM=>bC (λN=>?_) λN=>?_) λM=>?_
   .let M:c≠46:=↑M
    let N:c≠d:=↑N
    show%[show 2<=lp from !1|λp G=>?_];let B:=ah.Qa (o:= .tup [V.str ⟨([c].toArray)⟩,V.str ⟨([d].toArray)⟩]) G;let as:p≠D:=λe=>by rw[e,a]at G;cases G
    show CK.mk hi (B _ _ a) (aC ⋯) %[%[_,_|rfl],ah.set (y.trans B) O,aa,by rw[Z9,Yq];lia,ps++[(p,[sgn c,sgn d])],by rw[L,Zd];rfl,?_|?_]
    .let keep:∀b z,Qa HT p _ b&&&z->Qa _ D (.lst (ys++[V.ref p])) b&&&z:=λb z e=>by
      let:b≠D:=λe2=>by rw[e2,B _ _ a]at e;cases e
      rw[ap this];show e
     show ax (eF (ax g λb z e=>B _ _ e) ∅ (by rw[aa];rfl)) keep
    .rw[Zd,j,<-nx,Y3];let:gQ (c,d)∣[sgn c,sgn d]:=ix %[M|N];rw[Y4,this];rfl
   .show CN.mk hi %[%[_,_|rfl],y,a,⋯,ps,L,g|?_];rw[j,<-nx,Y3];let:gQ (c,d)=hV:=ij λq=>q.2 ↑N
    rw[Y4,this];simp
   .show CN.mk hi %[%[_,_|rfl],y,a,⋯,ps,L,g|?_];rw[j,<-nx,Y3];let:gQ (c,d)=hV:=ij λq=>q.1 ↑M
    rw[Y4,this];simp
  .intro ys U l %[_,Y,hl,I,ps,L,m|j];rw[Zn (by rw[S5];simp;lia)]at j;show kk D l ps Y O (by rw[hl,L]) m j
def wS{K:ZA}{xs ys:ZM}{g:TG}{q:TS}{D:iD}(Pv:iv->St->Hp->Prop)(s:Pv 0 c H)(u: ~~~ys<= ~~~xs)(z:∀i c H,i<= ~~~ys->Pv i c H->Qb K H a xs/\Qb K H b ys)
 (A:∀i x y T c H,xs[i]?∣x->ys[i]?∣y->Pv i c H->H T=hV->g (.ref T) c (Qa H T (.tup [x,y])) λd j=>q {D with nx:=Pv (i+1),ct:=Pv (i+1),bk:=D.nx} d j) (B:∀c H,Pv ys.length c H->D.nx c H):
 ∃W:iv->iv->St->Hp->Prop,(∃m,W 0 m c H)/\∀i m c H,W i m c H->
  ((Bw K a b).stop i H/\D.nx c H)\/((Bw K a b).go i H/\∃N:St->Hp->Prop,(∀f h,N f h->∃r,r<m/\W (i+1) r f h)/\∀x h,(Bw K a b).yld i H x h->g x c h λd j=>q {D with nx:=N,ct:=N,bk:=D.nx} d j):=by
 show%[λi m c H=>m= ~~~ys-i/\i<= ~~~ys/\Pv i c H,%[~~~ys,by simp,Xl _|s]|?_];intro i m c H %[rfl,hi|p];let%[l|n]:=z i c H hi p;by_cases o:i< ~~~ys
 .let C:xs[i]?∣xs[i]:=by simp[show i< ~~~xs by lia]
  let E:ys[i]?∣ys[i]:=by simp
  show .inr %[%[xs,ys,_,_,l,n,C|E],Pv _,λf h G=>%[~~~ys-(i+1),⋯,rfl,o|G]|λv h y=>?_];let%[T,I,J,L,rfl,rfl,M|O]:=y;show A i I J T c H (M xs l) (O ys n) p L
 .let e:i= ~~~ys:=by lia
  subst e;show .inl %[%[xs,ys,l,n,⋯,Zi _|.inr rfl]|B c H p]
abbrev bR(rows:ZB)(i:iv):hH ZB:=(q7 i).flatMap λj=>pZ (rows.getD j ⟨([].toArray)⟩) (rows.getD (j+1) ⟨([].toArray)⟩)
def lU(rows:ZB)(i:iv):bR rows (i+1)=bR rows i++pZ (rows.getD i ⟨([].toArray)⟩) (rows.getD (i+1) ⟨([].toArray)⟩):=by
 unfold bR;rw[O9,Pd];simp
def yZ(u r:ku): ~~~(pZ u r)<= ~~~u:=by
 show Ym (NL _ _) ?_;rw[S5];let: ~~~u.cps.toList= ~~~u:=by simp[Ub]
 lia
def mP(h:k∈bR rows (~~~rows-1)):∃a b,k=[sgn a,sgn b]/\yU rows a b:=by
 let%[j,d|g]:=L4.mp h;let f:∀j h,rows.getD j ⟨([].toArray)⟩=rows[j]:=λj h=>by simp[h]
 let d:=J6.mp d;let%[%[a|b],i|e]:=Mg.mp g;unfold gQ at e
 split at e
 .rename_i h
  let%[q|c]:=Xm i;rw[OP,f j ⋯,f _ ⋯]at c;show%[a,b,(Za e).symm,h.1,h.2,j,q,rows[j],rows[j+1],Z4 _,Z4 _,by simpa using c.1|by simpa using c.2]
 .lia
def tO(m:cW rows)(h:yU rows a b):Let rows a/\Let rows b:=by
 let%[n1,n,i,j,r,c,d,f,g|l]:=h;show%[%[n1,r,Z8 d|Z8 ↑g],λe=>n1 (m.fall i r c d f j a b g l e),c,Z8 f|Z8 ↑l]
def tP(rows:ZB)(h:rows≠[]):xX (rows\3) (hY 1) hV=(rows.drop 1)\3:=by
 unfold xX;rw[_HT.sIx_none,show(hY (1))∣((1:iv):ri)from rfl,_HT.sIx_nat,Z6,X6 (M0.mpr h),<-Vt,<-Vs];rw[Zn (Yn▸Zi _)]
inductive z8
 | mk (rows:ZB):vs=[.str (wh nl rows)]->cW rows->u9 rows->(∀l H' ss,ah H H'->H l=hV->H' l∣.lst (ss\0)->aB H' ss-> ~~~ss<=60->(∀t∈ss,∃a b,t.2=[sgn a,sgn b]/\Let rows a/\Let rows b)->(∀k,k∈ss\2↔k∈bR rows (~~~rows-1))->Q (.ref l) H')->z8 vs H Q E0
def y4(T:Txt K mg):↥3 "meetings" ["text"] z8:=by
 show T.b2.cal eQ (λH vs Q E h=>?_)
 .let%[rows,rfl,c,%[mm,ml|bb]|kk]:=h;show%[ρ|λf b2 A outer s hr=>?_];let%[wd,w1,w2|ab]:=c.wide;let hp:1<= ~~~rows:=c.pos;let bt:=c.high;let bc:rows≠[]:=M0.mp hp;show%[_,%["KCG1H~_A0BCG2RBCQ~|A1A~l1~mE~nBiLJ3LJ4dDY~o~p2AH]TA3A4BBDI%~}A~C~[A2BB",eQ.nd|hr]|?_]
  change aS _ _ _ [hY (.str (wh nl rows)),hV,hV,hV,hV] H;show aj λD1 k1 r1=>?_
  lk;show%[rows,ρ,c|λR H1 s1 f1 hR=>k1 _ _ (aj λD2 k2 r2=>?_)];lk;show%[Xl _|λL hL=>k2 _ _ (aj λD3 k3 r3=>ay λb0 hK=>?_)];let s2:=ah.Qa (o:= .lst []) hL;let G:=s2 _ _ hR;let I:Qa H1 L (.lst []) L<*[]:=aa;let fL:H L=hV:=s1.free hL;let ac:=s1.trans s2
  generalize Qa H1 L _=H2 at s2 G I ac
  lk;show%[_,Qb.of G|λp hp=>?_];rw[tP rows bc];let s3:=ah.Qa (o:= .lst ((rows.drop 1)\3)) hp;let J:=s3 _ _ G;let ae:=s3 _ _ I;let M:Qa H2 p (.lst ((rows.drop 1)\3)) p<*(rows.drop 1)\3:=aa;let ag:=ac.trans s3;let be:L≠R:=λe=>by rw[e,hR]at hL;cases hL
  let bf:p≠L:=λe=>by rw[e,I]at hp;cases hp
  generalize Qa H2 p _=H3 at s3 J ae M ag
  show%[%[_|Qb.of J],%[_|Qb.of M]|hK _ _ (wS (xs:=rows\3) (ys:=(rows.drop 1)\3) (λi σ l=>A5 (E2 λo3 o4=>σ=[hY (.str (wh nl rows)),!R,!L,o3,o4]) (ah H l) (l R<*rows\3) (l p<*(rows.drop 1)\3) (∃ps:ZG,A4 (l L∣.lst (ps\0)) (aB l ps) (ps\2=bR rows i) (~~~ps<=40*i))) %[%[hV,hV|ρ],ag,J,M,[],ae,gj _,ρ|Xl _] (by rw[Z6,Z6,Yn];lia) (λi σ l _ q=>%[Qb.of q.3|Qb.of q.4]) ?_ ?_)]
  .intro i x y TT σ l hx hy %[%[o3,o4|rfl],sm,al,an,ps,N,g,n|as] hT;rw[Zl]at hx hy;let%[u,hu|rfl]:=Ly.mp hx;let%[r,B|rfl]:=Ly.mp hy;rw[Ye,Tj]at B;let b3:i+1< ~~~rows:=(Xt B).1;let ul: ~~~u=wd:=ab u (Z8 hu);let rl: ~~~r=wd:=ab r (Z8 B);let j:=ah.Qa (o:= .tup [V.str u,V.str r]) hT;let a0:Qa l TT (.tup [V.str u,V.str r]) TT&&&[V.str u,V.str r]:=aa;let a1:=j _ _ al;let a2:=j _ _ an;let v:=j _ _ N;let C:aB (Qa l TT (.tup [V.str u,V.str r])) ps:=ax g λb z e=>j _ _ e
   let a3:=sm.trans j
   generalize Qa l TT _=HT at j a0 a1 a2 v C a3
   show%[_,SqT.of a0,ρ,_,_,ρ,_,_,ρ,ρ|?_];show az λD4 k4 r4=>?_
   lk;show%[tyL (Qb.of v),u,r,ρ,⋯,⋯|λl4 H4 ps4 Y f4 h4 a4 e4=>?_];let b4:l4≠L:=λe=>by rw[e,v]at f4;cases f4
   let b1: ~~~ps4<=40:=by
    let: ~~~(ps4\2)= ~~~(pZ u r):=by rw[e4]
    rw[Z6]at this;let:=yZ u r
    lia
   show%[_,Y _ _ v,_,h4,by rw[Z6,Z6];show cO ⋯|k4 _ _ ?_];let O:∀b z,H4 b&&&z->Qa H4 L (.lst ((ps\0) ++ps4\0)) b&&&z:=λb z e=>by
    let:b≠L:=λe2=>by rw[e2,Y _ _ v]at e;cases e
    rw[ap this];show e
   let bl:R≠L:=Lx be;show%[%[_,_|ρ],λb u' e=>?_,(ap bl)▸Y _ _ a1,(ap bf)▸Y _ _ a2,ps++ps4,by rw[aa,Zd],ax (lT (ax C λb z e=>Y _ _ e) a4) O,?_|by rw[Z9];lia]
   .rw[ap (av e fL)];show Y _ _ (a3 _ _ e)
   .rw[Zd,n,e4,lU];let g1:rows.getD i ⟨([].toArray)⟩=u:=by rw[Zc,hu];rfl
    let g2:rows.getD (i+1) ⟨([].toArray)⟩=r:=by rw[Zc,B];rfl
    rw[g1,g2]
  .intro σ l %[%[o3,o4|rfl],sm,al,an,ps,N,g,n|as];rw[Z6,Yn]at n;show k3 _ _ ?_;lk;let U:∀q∈ps,∃a b,q.2=[sgn a,sgn b]/\yU rows a b:=λq d=>mP (n▸Xx %[q,d|rfl])
   let a5:∀q∈ps,q.2∈mm:=λq d=>by
    let%[a,b,e|h]:=U q d;rw[e];show bb a b h
   show%[ps,Qb.of N,g,%[mm,⋯|a5]|λl5 bm=>?_];let s5:=ah.Qa (o:=pf P w l5 (bz ps)) bm;let few: ~~~(bz ps)<=60:=by
    let:=_ST.nodup_sub (eJ ps) (m:=mm) λk hk=>by
     let%[q,d|rfl]:=Xw hk;show a5 q (bn ps q d)
    rw[Z6]at this
    lia
   show%[bz ps,aa,λq d=>%[(g q (bn ps q d)).1|s5 _ _ (g q (bn ps q d)).2],2,λq d=>?_,!1,⋯|λl6 ss a6 pm=>?_]
   .let%[a,b,e|_]:=U q (bn ps q d);rw[e];rfl
   let s6:=ah.Qa (o:= .lst (ss\0)) a6;show kk l6 _ ss ((sm.trans s5).trans s6) ((sm.trans s5).free a6) aa (λq d=>?_) (pm.length_eq▸few) (λq d=>?_) λk=>?_
   .let:=g q (bn ps q (pm.mem_iff.mp d));show%[this.1|s6 _ _ (s5 _ _ this.2)]
   .let%[a,b,e|h]:=U q (bn ps q (pm.mem_iff.mp d));show%[a,b,e|tO c h]
   .rw[(pm.map _).mem_iff,iN,n]
abbrev gT(z:ku):su:=(decide (1<=(~~~z:ri))&&decide ((~~~z:ri)<=8))&&z.cps.toList.all fP
inductive p7
 | mk (z:ku):vs=[.str z]->gT z=hW->(∀H',ah H H'->Q (.bl hW) H')->p7 vs H Q E0
inductive wU (K:ZA)
 | mk (z:ku) (p:jg) (ts:ZB):vs=[.str z,.ref p]->(Qb K H p (ts\3)\/SqT K H p (ts\3))->Q (.bl (decide (z∈ts))) H->wU K vs H Q E0
inductive p8
 | mk (i:ri):vs=[.int i]-> -9999<=i->i<=9999->Q (.bl hW) H->p8 vs H Q E0
abbrev lV(c:ZB)(vs:ZM):Prop:=
 (∃w a b:ku,vs=[.str w,.str a,.str b]/\(w="later"\/w="same")/\a∈c/\b∈c/\a≠b)\/
 ∃w a y,vs=[.str w,.str a,.int y]/\(w="since"\/w="by")/\a∈c/\ -9999<=y/\y<=9999
inductive lW (K:ZA)
 | mk (t p xs ls):vs=[.ref t,.ref p]->H t&&&xs->Qb K H p (ls\3)->lV ls xs->Q (.bl hW) H->lW K vs H Q E0
abbrev lnS(n z:ku):ku:=LD++n++pp "."++z
inductive kf
 | mk (n z:ku):vs=[.str n,.str z]-> ~~~n<=100-> ~~~z<=100->Q (.str (lnS n z)) H->kf vs H Q E0
def GO(z:ku)(ts:ZB):inV (V.str z) (ts\3)=decide (z∈ts):=by
 unfold inV
 induction ts with
 | nil=>rfl
 | cons c r a=>
   change((c==z)||_)=_
   grind
def BU(ts:ZB):(ts\3).all jY=hW:=by simp[jY]
def BV(T:Txt K mg):↥1 "is_name" ["thing"] p7:=by
 .exists T.aW,yV,y,N,%[z,rfl,B|k];show%[_,%["KCNeaxyA0A?1BDIhODI(~f~A~AEklA0B]U+~g~hAgc?2~i0b0?3$n~/0~:B",0,(blE (v:= .ty "str") rfl T.ac UO rfl rfl rfl),↑(["sign"],[])|↑["sign"]]|?_]
  change aS _ _ _ [-z] H;let a:=B;unfold gT at a;rw[Zx,Zx]at a;let%[%[C|q]|b]:=a;let O: ~~~z<=8:=by let:=Zo q;lia
  lk;show%[.type "str",.str z,hW,by rfl|?_];lk;show%[cO ⋯|?_];rw[ix C,ix q];show aG λr G=>?_
  lk;show G _ _ λD u=>?_
  show dL (J:=Its z) (n:=z.cps.size) (D:=D) (λi ys l d=>A4 (∃o,l=[o]) (ah H d) (d D<*ys) (ys=(z.cps.toList.take i).map (λc=>V.bl (fP c)))) %[%[hV|rfl],ah.Qa u,aa|rfl]
   (λi _ _ _ hi _=>hi) (λ_ _ _ _=>Zi _) ?_ ?_
  .intro i ys l d hi %[%[o|rfl],m,p|g] x U %[I,c,L|rfl];subst I;lk;let j: ~~~ys=i:=by
    rw[g,Z6,Yr];let: ~~~z.cps.toList=z.cps.size:=by simp
    lia
   let M:i<1000:=by
    let: ~~~z=z.cps.size:=rfl
    lia
   show CK.mk hi p (j▸aC ⋯) %[%[_|rfl],ah.set m u,aa|?_];rw[uu,g,<-jO z i c L,Zd]
   all_goals rfl
  .intro ys l d %[_,m,p|g];show%[(z.cps.toList.map fP),?_|?_]
   .let e:z.cps.toList.take z.cps.size=z.cps.toList:=by
     apply Zn;simp
    rw[e]at g;let:(z.cps.toList.map fP).map V.bl=ys:=by rw[g,Yx];rfl
    rw[this];show Qb.of p
   .let e:(z.cps.toList.map fP).all id=hW:=by
     rw[VP];show b
    rw[e];show k d m
def c7(T:Txt K mg):↥1 "is_text_among" ["thing","texts"] (wU K):=by
 .exists T.b9,mK,a,c,%[z,p,ts,rfl,b|k];show%[_,%["KDI(xyA0A?1B+n]V01",0|(blE (v:= .ty "str") rfl T.ac UO rfl rfl rfl)]|?_];change jh _ _ [hY _,hY _] H;lk;show%[.type _,.str z,hW,by rfl|?_];rw[<-GO]at k;show%[_,b,ρ,BU ts|k]
def BW(T:Txt K mg):↥1 "is_year" ["thing"] p8:=by
 .exists T.ba,yX,a,d,%[i,rfl,b,c|k];show%[_,%["KCNjueaxyA0A?1B!axyA0A?2BDIhODI~f~A~A]W0]X",0,(blE (v:= .ty "int") rfl T.ai boot_int rfl rfl rfl)|(blE (v:= .ty "bool") rfl T.aj Wz rfl rfl rfl)]|?_]
  change aS _ _ _ [hY (.int i)] H;lk;show%[.type _,.int i,hW,by rfl,.type _,.int i,hX,by rfl|?_];rw[ix (Zf b),Zf c];show k
def iT(T:Txt K mg):↥1 "layer_name" ["name","letter"] kf:=by
 .exists T.bb,rj,c,i,%[n,z,rfl,j,l|k];show%[_,%["KDI~0~G~q0~GZ~G~q1~1"|0]|?_];change jh _ _ [-n,hY _] H;lk;let e:∀a b:ku,~~~(a++b)= ~~~a+ ~~~b:=λa b=>Qr
  let d:LD.length=0:=rfl;let g:(!".").length=1:=rfl;let le:∀k,k<=1000->k<=lp:=λk m=>cO ⋯
  show%[le _ ⋯,le _ ?_,le _ ?_,le _ ⋯,le _ ?_,le _ ?_|k]<;> simp only[e,d,g]<;> lia
def wV(T:Txt K mg):↥2 "is_saying" ["thing","layers"] (lW K):=by
 .exists T.b8,vb,o,d,%[t,p,xs,g,rfl,n,i,ok|k];show%[_,%["KCNjueaxyA0A?1B!M~;klA0BEDIhOCNaH~HAU0EA]YBDI(H~HAU0EA1B(H~HAU0EA1B+n~BU0EU0EOCNaH~HAU0EA]ZBDI(H~HAU0EA1B+H]aAU0EBODIh",0,(blE (v:= .ty "tuple") rfl T.ah Tb rfl rfl rfl)|d]|?_]
  change aS _ _ _ [!t,!p] H;lk;show%[.type "tuple",.tup n,hW,by rfl|?_];let st:=SqT.of (K:=K) n;rcases ok with⟨c,a,b,rfl,hw,j,r,l⟩|⟨c,a,y,rfl,hw,j,u,z⟩
  .let m:decide (c∈([!"later",!"same"]:ZB))=hW:=by rcases hw with rfl|rfl<;> decide
   lk;show%[3,.inr %[_,st|ρ]|?_];rw[ij (!1)];show%[_,st,_,ρ|λq e=>%[c,q,[!"later",!"same"],ρ,.inr (e H)|?_]];rw[m];lk;show%[_,st,_,ρ,a,p,g,ρ,.inl i|?_];rw[Zf j];lk;show%[_,st,_,ρ,b,p,g,ρ,.inl i|?_];rw[Zf r];lk;show%[_,st,_,ρ,_,st,_,ρ,ρ|?_];rw[show(!decide (V.str a=V.str b))=hW from by simp[l]];show k
  .let m:decide (c∈([!"later",!"same"]:ZB))=hX:=by rcases hw with rfl|rfl<;> decide
   let B:decide (c∈([!"since",!"by"]:ZB))=hW:=by rcases hw with rfl|rfl<;> decide
   lk;show%[3,.inr %[_,st|ρ]|?_];rw[ij (!1)];show%[_,st,_,ρ|λq e=>%[c,q,[!"later",!"same"],ρ,.inr (e H)|?_]];rw[m];lk;show%[_,st,_,ρ|λq e=>%[c,q,[!"since",!"by"],ρ,.inr (e H)|?_]];rw[B];lk;show%[_,st,_,ρ,a,p,g,ρ,.inl i|?_];rw[Zf j];lk;show%[_,st,_,ρ,y,ρ,u,z|k]
abbrev cB(H:Hp)(cs:ZH):Prop:=∀p∈cs,H p.1&&&[.str p.2.1,.str (wh nl p.2.2)]/\gT p.2.1=hW/\cW p.2.2
def cB.up(h:cB H cs)(s:ah H b):cB b cs:=λp a=>%[s _ _ (h p a).1|(h p a).2]
inductive tQ
 | mk (rows:ZB):vs=[.str (wh nl rows)]->cW rows->(∀H',ah H H'->Q (.bl hW) H')->tQ vs H Q E0
inductive wW
 | mk (p:jg×ku×ZB):vs=[.ref p.1]->cB H [p]->(∀H',ah H H'->Q (.bl hW) H')->wW vs H Q E0
abbrev cC(cs:ZH):ZM:=cs\0
inductive kg
 | mk (l cs):vs=[.ref l]->H l<*cC cs->cB H cs->(cs.map λp=>p.2.1).Nodup->1<= ~~~cs-> ~~~cs<=8->(∀H',ah H H'->Q .non H')->kg vs H Q E0
abbrev cV(H:Hp)(a:ZB)(qs:ZN):Prop:=∀q∈qs,H q.1&&&q.2/\lV a q.2
def cV.up(h:cV H b qs)(s:ah H c):cV c b qs:=λp a=>%[s _ _ (h p a).1|(h p a).2]
inductive iA (K:ZA)
 | mk (l r ls qs):vs=[.ref l,.ref r]->H l∣.lst (qs\0)->H r<*ls\3->cV H ls qs-> ~~~qs<=60->(∀H',ah H H'->Q .non H')->iA K vs H Q E0
def EH(T:Txt K mg):↥3 "is_cut" ["thing"] tQ:=by
 .exists T.b6,BP,b,c,%[rows,rfl,a|k];show%[_,(QSs.h (ai (K0 (λ_ _ h=>h) (ao (bD rfl (aJ (mO T) c rfl #[↑0]))))
   (ao (aL eBl))))|?_]
  change aS _ _ _ [hY (.str (wh nl rows))] H;lk;show%[rows,ρ,a|λl d e g i=>k d e]
def p9(T:Txt K mg):↥4 "is_named_cut" ["thing"] wW:=by
 .exists T.b5,nS,e,c,%[p,rfl,g|k];let%[b,i|a]:=g p (X4.mpr rfl);show%[_,%["KDI(xyA0A?1B(nvklA0BE(H]bAU0EB+H]cAU0EB",0,(blE (v:= .ty "tuple") rfl T.ah Tb rfl rfl rfl)|c]|?_];change jh _ _ [hY _] H;lk;show%[.type _,.tup b,hW,by rfl|?_];let st:=SqT.of (K:=K) b;show%[2,.inr %[_,st|ρ],_,st,_,ρ,p.2.1,ρ,i|λm d=>?_];lk;show%[_,SqT.of (d _ _ b),_,ρ,p.2.2,ρ,a|λj l=>k j (d.trans l)]
def vo(T:Txt K mg):↥5 "check_cuts" ["cuts"] kg:=by
 .exists T.b4,eK,al,J,%[l,cs,rfl,C,L,M,h1,h8|k];let u: ~~~(cC cs)= ~~~cs:=Z6 _;show%[_,%["KCNjueaxyA0A?1B!MvklA0BED,OCG1zDQ~RA0BiLJ2LJ3dCNjuMv2]dueaH]eA3B!~TU3E1D,ODrh1U3E",eK.nd,(blE (v:= .ty "list") rfl T.a5 OW rfl rfl rfl)|J]|?_]
  change aS _ _ _ [!l,hV,hV,hV] H;show aj λD1 k1 _=>?_
  lk;show%[.type "list",.lst C,hW,by rfl|?_];lk;show%[~~~cs,.inl %[_,Qb.of C|u.symm]|?_];rw[ij (by simp only[Lz];lia)];show k1 _ _ (aj λD2 k2 _=>?_);lk;show λd N=>k2 _ _ (az λD3 k3 _=>ay λag hK=>?_)
  lk;show%[_,Qb.of (ah.Qa N _ _ C)|hK _ _ (jo (λi G c=>∃O U a,G=[!l,!d,O,U]/\ah H c/\c d∣.dK a/\a\1=(cs.take i).map λp=>kj p.2.1) %[hV,hV,[],ρ,ah.Qa N,aa|ρ] (λi G c _ ⟨_,_,_,_,q,_⟩=>Qb.of (q _ _ C)) ?_ ?_)]
  .intro i x TT G c I %[O,U,a,rfl,Y,y|g] hT;let hi:i< ~~~cs:=u▸(Xt I).1;obtain⟨q,hq,rfl⟩:∃q,cs[i]?∣q/\x=V.ref q.1:=by
    unfold cC at I;rw[Zl,Z4 hi]at I;show%[cs[i],Z4 hi|(Za I).symm]
   let b:ah H (Qa c TT (.tup [.int i,.ref q.1])):=Y.trans (ah.Qa hT);let z:Qa c TT (.tup [.int i,.ref q.1]) TT&&&[.int i,.ref q.1]:=aa;let r:=ah.Qa (o:= .tup [.int i,.ref q.1]) hT _ _ y
   generalize Qa c TT _=HT at b r z
   let m:=L q (Z8 hq);show%[_,SqT.of z,ρ,_,_,ρ,_,_,ρ,ρ|?_];change aS _ _ _ [!l,!d,hY (.int i),hY (.ref q.1)] HT;show aj λD4 k4 _=>?_
   lk;rw[ij (by simp only[Lz];lia)];show%[q,ρ,λp hp=>(Xv hp)▸%[b _ _ m.1|m.2]|λH2 B=>bN ?_];let n:(kj q.2.1:Key)∉a\1:=by
    rw[g];intro hm;let%[q',ab|e]:=Xw hm;let e:q'.2.1=q.2.1:=MW e;let%[j|hj]:=Xm ab;let ac:j<i:=by
     let:=(Xt hj).1;rw[Yr]at this
     lia
    rw[Yg ac]at hj;let n1:(cs.map λp=>p.2.1)[j]?∣q.2.1:=by rw[Zl,hj,<-e];rfl
    let:=ig M n1 (by rw[Zl,hq];rfl)
    lia
   show%[_,SqT.of (B _ _ (b _ _ m.1)),_,ρ,_,cu.k (k:=kj q.2.1) (B _ _ r)|?_];let hv:bI a (kj q.2.1:Key)=hV:=by
    cases e:bI a (kj q.2.1:Key)with
    | none=>rfl
    | some v=>show on (zu e) n
   rw[hv,ij ∅];show k4 _ _ (az λD5 k5 _=>?_);lk;let ae: ~~~a=i:=by
    let:=vj Mf g;rw[Z6,Z6,Yr]at this
    lia
   show%[_,SqT.of (B _ _ (b _ _ m.1)),_,ρ,_,fM.k (k:=kj q.2.1) (B _ _ r) (ae▸aC ⋯)|k5 _ _ %[_,_,_,ρ,ah.set (b.trans B) N,aa|?_]];rw[mG,ij n,g,Xg,Zd,hq];rfl
  .intro G c %[O,U,a,rfl,Y,y|g];show k3 _ _ (k c Y)
def nU(T:Txt K mg):↥3 "check_sayings" ["sayings","layers"] (iA K):=by
 .exists T.b7,eD,B,C,%[l,r,y,qs,rfl,g,j,m,G|k];show%[_,%["KCNeaxyA0A?1BD,ODQ~RA0BiLJ2LJ3dDNjuMv2]f!eaH]gA3A1BD,O",eD.nd,(blE (v:= .ty "list") rfl T.a5 OW rfl rfl rfl)|C]|?_]
  change aS _ _ _ [!l,!r,hV,hV] H;show aj λO k1 _=>?_
  lk;show%[.type "list",.lst g,hW,by rfl|?_];lk;show k1 _ _ (az λU I _=>ay λz J=>?_);lk;show%[_,Qb.of g|J _ _ (jo (λi e b=>E2 λn o=>e=[!l,!r,n,o]/\ah H b) %[hV,hV,ρ|ah.refl H] (λi e b _ ⟨_,_,_,q⟩=>Qb.of (q _ _ g)) ?_ ?_)]
  .intro i x TT e b p %[n,o,rfl|u] L;let hi:i< ~~~qs:=(Z6 _)▸(Xt p).1;obtain⟨q,M,rfl⟩:∃q,qs[i]?∣q/\x=V.ref q.1:=by
    rw[Zl,Z4 hi]at p;show%[qs[i],Z4 hi|(Za p).symm]
   let a:ah H (Qa b TT (.tup [.int i,.ref q.1])):=u.trans (ah.Qa L);let c:Qa b TT (.tup [.int i,.ref q.1]) TT&&&[.int i,.ref q.1]:=aa
   generalize Qa b TT _=HT at a c
   let d:=m q (Z8 M);show%[_,SqT.of c,ρ,_,_,ρ,_,_,ρ,ρ|?_];change kN _ _ _ _ [!l,!r,hY (.int i),hY (.ref q.1)] HT;show az λY N _=>?_
   lk;rw[ij ⋯];show%[q.1,r,q.2,y,ρ,a _ _ d.1,Qb.of (a _ _ j),d.2|N _ _ %[_,_,ρ|a]]
  .intro e b %[n,o,rfl|u];show I _ _ (k b u)
abbrev lyr(p:jg×ku×ZB):ZB:=(aR ((dc p.2.2).map sgn)).map (lnS p.2.1)
inductive lZ
 | mk (l cs):vs=[.ref l]->H l<*cC cs->cB H cs-> ~~~cs<=8-> ~~~(cs.flatMap lyr)<=63->(∀r H' (ls:ZB),ah H H'->H r=hV->H' r<*ls\3->ls.Perm (cs.flatMap lyr)->ls.Pairwise (λa b=>aM b a=hX)->Q (.ref r) H')->lZ vs H Q E0
abbrev dI(c:ZB)(k:ZB):Prop:=∃a b z,k=[a,b,z]/\a∈c/\b∈c
abbrev Sml(z:ku):Prop:= ~~~z<=30/\∀c∈z.cps.toList,c<16^8
abbrev BX(a:ZB)(k:ZB):Prop:=dI a k/\∀z∈k,Sml z
def wX(h:gT z=hW):Sml z:=by
 unfold gT at h;rw[Zx,Zx]at h;show%[⋯|λc a=>?_];let:=(sI.mp (MV.mp h.2 c a)).2
 lia
def Sml.app{a b:ku}(f:∀c∈a.cps.toList,c<16^8)(g:∀c∈b.cps.toList,c<16^8):∀c∈(a++b).cps.toList,c<16^8:=λc d=>by
 let e:(a++b).cps.toList=a.cps.toList++b.cps.toList:=Xk;rw[e]at d;show(Xu d).elim (f c) (g c)
def GP(h:c<1000):∀x∈(sgn c).cps.toList,x<16^8:=λx a=>by
 let e:=by simpa [sgn]using a
 lia
def mQ{c:iv}(h:gT n=hW)(d:c<1000):Sml (lnS n (sgn c)):=by
 let e:∀a b:ku,~~~(a++b)= ~~~a+ ~~~b:=λa b=>Qr
 let l: ~~~n<=8:=by
  unfold gT at h
  grind
 show%[?_|Sml.app (Sml.app (Sml.app (λc d=>(nomatch d)) (wX h).2) (!0)) (GP d)];unfold lnS;rw[e,e,e,show LD.length=0 from rfl,show(!".").length=1 from rfl,show(sgn c).length=1 from rfl]
 lia
def y6(h:cW rows)(l:Let rows c):c<1000:=by
 let:=(sI.mp (jM h.sign c (iu.mpr l))).2
 lia
def GQ(b:gT p.2.1=hW)(d:cW p.2.2):∀z∈lyr p,Sml z:=λz e=>by
 let%[y,f|rfl]:=Xw e;let%[c,a|rfl]:=Xw (aP.mp f);show mQ b (y6 d (iu.mp a))
def J7(e:Sml a)(f:Sml b)(g:Sml c):∀z∈[a,b,c],Sml z:=λz d=>by
 simp only[X2,Xc,Mb]at d;rcases d with rfl|rfl|rfl
 .show e
 .show f
 .show g
def GR(i:iv)(h:i<=100):Sml (LD++pp "#"++pp (toString (i:ri))):=by
 let all:∀j:Fin 101,Sml (LD++pp "#"++pp (toString ((j.1)))):=by
  unfold Sml;decide +kernel
 show all %[i|⋯]
def dI.three(h:dI c k): ~~~k=3:=by
 let%[a,b,z,rfl|_]:=h;rfl
def dI.mono(h:dI c k)(s:∀x∈c,x∈d):dI d k:=by
 let%[a,b,z,e,f|g]:=h;show%[a,b,z,e,s a f|s b g]
def jP(h:Let p.2.2 a):lnS p.2.1 (sgn a)∈lyr p:=
 Xx %[_,aP.mpr (Xx %[a,iu.mpr h|rfl])|rfl]
abbrev l7(n:ku)(k:ZB):ZB:=k.map (lnS n) ++[n]
abbrev vp(i:iv):ku:=LD++pp "#"++pp (toString (i:ri))
abbrev cG(cs:ZH):hH ZB:=cs.flatMap λp=>(bR p.2.2 (~~~p.2.2-1)).map (l7 p.2.1)
abbrev h9(i:iv):ZM->kw ZB
 |[.str w,.str a,.str b]=>if w=pp "later" then hY [a,b,vp i]else hV
 | _=>hV
abbrev cH(qs:ZN)(n:iv):hH ZB:=(q7 n).filterMap λj=>qs[j]?.bind λq=>h9 j q.2
def l8{cs:hH _}{i:iv}{q:jg×ku×ZB}(a:cs[i]?∣q):cG (cs.take (i+1))=cG (cs.take i) ++(bR q.2.2 (~~~q.2.2-1)).map (l7 q.2.1):=by
 unfold cG;rw[Xg,a,Pd];change _++([q].flatMap _)=_;rw[SM]
def fk(a:qs[i]?∣q):cH qs (i+1)=cH qs i++(h9 i q.2).toList:=by
 unfold cH;rw[O9,Y3];show vj _ ?_;rw[Y4,a];rw[QX];cases h9 i q.2<;> rfl
inductive md
 | mk (l cs):vs=[.ref l]->H l<*cC cs->cB H cs->(∀p∈cs,u9 p.2.2)-> ~~~cs<=3->(∀r H' ts,ah H H'->H r=hV->H' r∣.lst (ts\0)->aB H' ts->(∀t∈ts,BX (cs.flatMap lyr) t.2)-> ~~~ts<=180->(∀k,k∈ts\2↔k∈cG cs)->Q (.ref r) H')->md vs H Q E0
inductive mf
 | mk (l ls qs):vs=[.ref l]->H l∣.lst (qs\0)->cV H ls qs->(∀z∈ls,Sml z)-> ~~~qs<=63->(∀r H' ts,ah H H'->H r=hV->H' r∣.lst (ts\0)->aB H' ts->(∀t∈ts,BX ls t.2)-> ~~~ts<= ~~~qs->ts\2=cH qs qs.length->Q (.ref r) H')->mf vs H Q E0
def jF{z:ku}(h:gT z=hW): ~~~z<=8:=by
 unfold gT at h
 grind
def kH{cs:hH iv}{z:ku}(h:z∈aR (cs.map sgn)):∃c∈cs,z=sgn c:=by
 let:=aP.mp h;let%[c,a|rfl]:=Xw this;show%[c,a|ρ]
def wY(T:Txt K mg):↥4 "layers_of" ["cuts"] lZ:=by
 .exists T.bc,fh,ae,hr,%[l,cs,rfl,hl,G,h8,ag|k];let m: ~~~(cC cs)= ~~~cs:=Z6 _;show%[_,%["KCG1RBCQT0iL~U2pqLJ3dDY~o~p1Agc?1TH]hA3Bb0?2$H~rAP1A0BBDI%]iA1B",fh.nd,↑(["letter","name"],[(1,2)]),↑["letter","name"]|hr]|?_]
  change aS _ _ _ [!l,hV,hV,hV] H;show aj λD1 k1 _=>?_
  lk;show%[Xl _|λL I=>k1 _ _ (aj λD2 k2 _=>ay λn J=>?_)];lk;show%[%[_|Qb.of (ah.Qa I _ _ hl)]|J _ _ (eL (λi d a=>E2 λM N=>A3 (d=[!l,!L,M,N]) (ah H a) (∃e:ZB,A3 (a L<*e\3) (e.Perm ((cs.take i).flatMap lyr)) (~~~e<=26*i)))
   %[hV,hV,ρ,ah.Qa I,[],aa,MC _|Xl _] (λi d a _ ⟨_,_,_,q,_⟩=>Qb.of (q _ _ hl)) ?_ ?_)]
  .intro i x d a y %[M,N,rfl,p,e,B,u|O];let hi:i< ~~~cs:=m▸(Xt y).1;obtain⟨q,hq,rfl⟩:∃q,cs[i]?∣q/\x=V.ref q.1:=by
    unfold cC at y;rw[Zl,Z4 hi]at y;show%[cs[i],Z4 hi|(Za y).symm]
   let b:=G q (Z8 hq);show%[_,SqT.of (p _ _ b.1),ρ,_,_,ρ,_,_,ρ,ρ|az λD3 k3 _=>?_];change mV _ _ [!l,!L,hY (.str q.2.1),hY (.str (wh nl q.2.2))] a;lk;show%[tyL (Qb.of B)|aG λn J=>?_];lk;show%[q.2.2,ρ,b.2.2|λl2 H2 ss s2 f2 h2 U=>?_];lk;show%[%[_|Qb.of h2]|J _ _ λF hF=>?_];let few: ~~~ss<=26:=U.length_eq▸km λc hc=>jM b.2.2.sign c hc
   let one:∀z∈ss,~~~z=1:=λz hz=>by
    let%[c,_|rfl]:=kH (U.mem_iff.mp hz);rfl
   show bZ (λj ts d a=>A4 (∃o,d=[o,hY (.str q.2.1)]) (ah H2 a) (a F<*ts) (ts=((ss.take j).map (lnS q.2.1))\3))
    %[%[hV|rfl],ah.Qa hF,aa|rfl] (λ_ _ _ a Y=>Y.2 _ _ h2) ?_ ?_
   .intro j ts d H4 hj %[%[o|rfl],C,ab|g];lk;show%[_,_,ρ,by let:=jF b.2.1;lia,by rw[one _ (Yh hj)];decide|CK.mk hj ab (by rw[g,Z6,Z6,Yr];show aC ⋯) %[%[_|ρ],ah.set C hF,aa|?_]];rw[g,Xg,Zd,Zd,Z4 hj];rfl
   intro ts d H3 %[_,C,ac|g];rw[Zn (Zi _)]at g;lk;show%[_,C _ _ (s2 _ _ B),_,ac,(by rw[g,Z6,Z6,Z6];show cO ⋯)|k3 _ _ %[_,_,ρ,ah.set (p.trans (s2.trans C)) I,e++ss.map (lnS q.2.1),?_,?_|?_]]
   .rw[aa,g,Zd]
   .rw[Xg,hq,Pd];show u.append ?_;change KE _ ([q].flatMap lyr);rw[SM];show U.map _
   .rw[Z9,Z6]
    lia
  .intro d a %[M,N,rfl,p,e,B,u|O];show k2 _ _ ?_;lk;rw[m,Zn (Zi _)]at u;show%[e,Qb.of B,by rw[u.length_eq];lia|λr ss v p' q'=>k r _ ss (p.trans (ah.Qa v)) (p.free v) aa (p'.trans u) q']
def qa(T:Txt K mg):↥4 "ties_of_cuts" ["cuts"] md:=by
 .exists T.bd,ci,bb,hr,%[l,cs,rfl,hl,a4,a5,h8|k];let ae: ~~~(cC cs)= ~~~cs:=Z6 _;show%[_,%["KCG1RBCQT0iLJ2LJ3dDQTH]jA3BiLJ4LJ5dDYom1AfAH~rA2A4BAH~rA2A5BA2BBDI1",ci.nd|hr]|?_]
  change aS _ _ _ [!l,hV,hV,hV,hV,hV] H;show aj λD1 k1 _=>?_
  lk;show%[Xl _|λL hL=>k1 _ _ (aj λD2 k2 _=>ay λag hK=>?_)];lk;show%[%[_|Qb.of (ah.Qa hL _ _ hl)]|hK _ _ (eL (λi y G=>E4 λo2 o3 I J=>A3 (y=[!l,!L,o2,o3,I,J]) (ah H G) (∃ts:ZG,A5 (G L∣.lst (ts\0)) (aB G ts) (∀t∈ts,BX (cs.flatMap lyr) t.2) (~~~ts<=60*i) (∀k,k∈ts\2↔k∈cG (cs.take i))))
   %[hV,hV,hV,hV,ρ,ah.Qa hL,[],aa,gj _,λt ht=>(nomatch ht),Xl _|λk=>N5] (λi y G _ ⟨_,_,_,_,_,q,_⟩=>Qb.of (q _ _ hl)) ?_ ?_)]
  .intro i x y G M %[o2,o3,I,J,rfl,sm,ts,hm,U,Y,al|d];let hi:i< ~~~cs:=by rw[<-ae];show(Xt M).1
   obtain⟨q,hq,rfl⟩:∃q,cs[i]?∣q/\x=V.ref q.1:=by
    unfold cC at M;rw[Zl,Z4 hi]at M;show%[cs[i],Z4 hi|(Za M).symm]
   let g:=a4 q (Z8 hq);show%[_,SqT.of (sm _ _ g.1),ρ,_,_,ρ,_,_,ρ,ρ|?_];show az λD3 k3 _=>?_
   change vK _ _ _ _ [!l,!L,hY (.str q.2.1),hY (.str (wh nl q.2.2)),I,J] G;show ay λag hK=>?_
   lk;let qm:=Z8 hq;show%[q.2.2,ρ,g.2.2,a5 q qm|?_];intro l2 H2 ss s2 f2 h2 t2 few an all2;let a6:=jF g.2.1;let as:l2≠L:=λe=>by rw[e,hm]at f2;cases f2
   let a0: ~~~(ss\0)= ~~~ss:=Z6 _;show%[%[_|Qb.of h2]|hK _ _ (eL (xs:=ss\0) (λj y B=>E2 λI J=>A5 (y=[!l,!L,hY (.str q.2.1),hY (.str (wh nl q.2.2)),I,J]) (ah H B) (B l2∣.lst (ss\0)) (aB B ss) (∃c:ZG,A5 (B L∣.lst (c\0)) (aB B c) (∀t∈c,BX (cs.flatMap lyr) t.2) (~~~c<=60*i+j) (c\2=ts\2 ++((ss.take j)\2).map (l7 q.2.1))))
    %[_,_,ρ,sm.trans s2,h2,t2,ts,s2 _ _ hm,ax U λb z e=>s2 _ _ e,Y,⋯|(Zz _).symm] (λj y B _ ⟨_,_,_,_,q,_,_⟩=>Qb.of q) ?_ ?_)]
   .intro j x y B M %[I,J,rfl,ab,a1,n,c,C,r,ac,u|m];let hj:j< ~~~ss:=a0▸(Xt M).1;rw[Zl,Z4 hj]at M;obtain rfl:x=V.ref ss[j].1:=(Za M).symm;let N:=Yh hj;let%[a,b,a2,la|lb]:=an _ N;let O:=(n _ N).2;rw[a2]at O;show%[_,SqT.of O,ρ,_,_,ρ,_,_,ρ,ρ|az λD4 k4 _=>?_];lk;show%[tyL (Qb.of C),q.2.1,sgn a,ρ,⋯,(show 1<=100 by decide)|?_];show%[q.2.1,sgn b,ρ,⋯,(show 1<=100 by decide)|?_];show%[#[3]|λp hp=>?_];let sp:=ah.Qa (o:= .tup [V.str (lnS q.2.1 (sgn a)),V.str (lnS q.2.1 (sgn b)),V.str q.2.1]) hp;let gp:=own sp
    generalize Qa B p _=H4 at sp gp
    let a3:=sp _ _ C;let v:∀b z,H4 b&&&z->Qa H4 L (.lst (c\0 ++[V.ref p])) b&&&z:=λb z e=>by
     let:b≠L:=λe2=>by rw[e2,a3]at e;cases e
     rw[ap this];show e
    show%[_,a3,by rw[Z6];show QF (show ~~~c<=10000 by lia) (!1)|k4 _ _ %[_,_,ρ,ah.set (ab.trans sp) hL,(ap as)▸sp _ _ a1,ax (ax n λb z e=>sp _ _ e) v,c++[(p,[lnS q.2.1 (sgn a),lnS q.2.1 (sgn b),q.2.1])],?_,?_,?_,?_|?_]]
    .rw[aa,Zd];rfl
    .show ax (eF (ax r λb z e=>sp _ _ e) ∅ gp) v
    .intro t ht;rcases Xu ht with z|z
     .show ac t z
     .rw[Xv z];show%[%[_,_,_,ρ,L4.mpr %[q,qm|jP la]|L4.mpr %[q,qm|jP lb]]|J7 (mQ g.2.1 (y6 g.2.2 la)) (mQ g.2.1 (y6 g.2.2 lb)) (wX g.2.1)]
    .rw[Z9,Yq];lia
    .rw[Zd,m,Ze,Xg,Z4 hj,Zd,Zd];change _++(_++[_])=_++(_++[l7 q.2.1 ss[j].2]);rw[a2];rfl
   .intro y B %[I,J,rfl,ab,a1,n,c,C,r,ac,u|m];rw[a0]at u m;rw[Zn (Zi _)]at m;show k3 _ _ %[_,_,_,_,rfl,ab,c,C,r,ac,⋯|λk=>?_];rw[m,l8 hq,Yy,Yy,d,OD,OD];show Qu N5 (T9 λz=>Td λ_=>all2 z)
  .intro y G %[o2,o3,I,J,rfl,sm,ts,hm,U,Y,al|d];show k2 _ _ ?_;lk;rw[ae]at al d;rw[Zn (Zi _)]at d;show k L G ts sm hL hm U Y ⋯ d
def mj(T:Txt K mg):↥1 "ties_of_sayings" ["sayings"] mf:=by
 .exists T.be,cU,al,hr,%[l,N,qs,rfl,hl,ab,r,an|k];let G: ~~~(qs\0)= ~~~qs:=Z6 _;show%[_,%["KCG1RBCQ~RA0BiLJ2LJ3dDNM)U3EZDYom1AfAU3EAU3EA~0~GZ~G~q2~1BBODI1"|cU.nd]|?_]
  change aS _ _ _ [!l,hV,hV,hV] H;show aj λD1 k1 _=>?_
  lk;show%[Xl _|λL O=>k1 _ _ (aj λD2 k2 _=>ay λae hK=>?_)];lk;show%[_,Qb.of (ah.Qa O _ _ hl)|hK _ _ (jo (λi U n=>E2 λo2 o3=>A3 (U=[!l,!L,o2,o3]) (ah H n) (∃ts:ZG,A5 (n L∣.lst (ts\0)) (aB n ts) (∀t∈ts,BX N t.2) (~~~ts<=i) (ts\2=cH qs i)))
   %[hV,hV,ρ,ah.Qa O,[],aa,gj _,λt ht=>(nomatch ht),Xl _|ρ] (λi U n _ ⟨_,_,_,q,_⟩=>Qb.of (q _ _ hl)) ?_ ?_)]
  .intro i x TT U n hx %[o2,o3,rfl,sm,ts,hm,u,g,v|d] hT;let hi:i< ~~~qs:=by rw[<-G];show(Xt hx).1
   obtain⟨q,Y,rfl⟩:∃q,qs[i]?∣q/\x=V.ref q.1:=by
    rw[Zl,Z4 hi]at hx;show%[qs[i],Z4 hi|(Za hx).symm]
   let s0:=ah.Qa (o:= .tup [.int i,.ref q.1]) hT;let j:ah H (Qa n TT (.tup [.int i,.ref q.1])):=sm.trans s0;let I:Qa n TT (.tup [.int i,.ref q.1]) TT&&&[.int i,.ref q.1]:=aa;let m:=s0 _ _ hm;let c:=ax u λb z e=>s0 _ _ e
   generalize Qa n TT _=HT at j I m c
   let J:=ab q (Z8 Y);show%[_,SqT.of I,ρ,_,_,ρ,_,_,ρ,ρ|?_];change kN _ _ _ _ [!l,!L,hY (.int i),hY (.ref q.1)] HT;show az λD4 k4 _=>?_
   lk;let st:=SqT.of (K:=K) (j _ _ J.1);let ag: ~~~(pp (toString (i:ri)))<=21:=by
    let e:=PySem.int_text_length_le10 (a:=(i:ri)) (k:=20) (!1) (by let:(i:ri).natAbs=i:=rfl;lia);rw[PySem.ofString_length];lia
   let e1:(LD++pp "#").length=1:=!0
   let ea:∀a b:ku,~~~(a++b)= ~~~a+ ~~~b:=λa b=>Qr
   let add:∀a b:ku,a∈N->b∈N->h9 i q.2∣[a,b,vp i]->∀p,HT p=hV->∃x,Qa HT p (.tup [.str a,.str b,V.str (LD++pp "#"++pp (toString (i:ri)))]) L<*x/\ ~~~x<lp/\D4.nx [!l,!L,hY (.int i),hY (.ref q.1)] (Qa (Qa HT p (.tup [.str a,.str b,V.str (LD++pp "#"++pp (toString (i:ri)))])) L (.lst (x++[V.ref p]))):=by
    intro a b ma mb ac p hp;let tn:=fk Y;rw[ac,<-d]at tn;unfold vp at tn
    generalize hz:LD++pp "#"++pp (toString (i:ri))=z at tn ⊢
    let sp:=ah.Qa (o:= .tup [V.str a,V.str b,V.str z]) hp;let gp:=own sp
    generalize Qa HT p _=H4 at sp gp
    let M:=sp _ _ m;let B:∀b z,H4 b&&&z->Qa H4 L (.lst (ts\0 ++[V.ref p])) b&&&z:=λb z e=>by
     let:b≠L:=λe2=>by rw[e2,M]at e;cases e
     rw[ap this];show e
    show%[_,M,by rw[Z6];show aC ⋯|k4 _ _ %[_,_,ρ,ah.set (j.trans sp) O,ts++[(p,[a,b,z])],?_,?_,?_,?_|?_]]
    .rw[aa,Zd];rfl
    .show ax (eF (ax c λb z e=>sp _ _ e) ∅ gp) B
    .intro t ht;rcases Xu ht with z|z
     .show g t z
     .rw[Xv z];show%[%[_,_,_,ρ,ma|mb]|J7 (r a ma) (r b mb) (hz▸GR i ⋯)]
    .rw[Z9,Yq];lia
    .rw[tn,Zd];rfl
   rcases J.2 with⟨wd,a,b,e,hw,ma,mb,_⟩|⟨wd,a,y,e,hw,_⟩
   .rw[e]at st;show%[_,st,_,ρ,ρ|bC (λC=>?_) λC=>?_]
    .show%[tyL (Qb.of m),_,st,_,ρ,_,st,_,ρ,cO ⋯,?_,cO (by rw[ea];lia),cO (by rw[ea];lia),#[3]|add a b ma mb (e▸ix (V.str.inj (Zo C)))];let:(i:ri).natAbs=i:=rfl
     lia
    .show k4 _ _ %[_,_,rfl,j,ts,m,c,g,⋯|?_];rw[fk Y,e,show h9 i [V.str wd,V.str a,V.str b]=hV from ij λz=>C (Zf (by rw[z])),d];show(Zz _).symm
   .rw[e]at st;show%[_,st,_,ρ,ρ|?_];rw[ij (by rcases hw with rfl|rfl<;> decide)];show k4 _ _ %[_,_,rfl,j,ts,m,c,g,⋯|?_];rw[fk Y,e,d];show(Zz _).symm
  .intro U n %[o2,o3,rfl,sm,ts,hm,u,g,v|d];show k2 _ _ ?_;lk;rw[G]at v d;show k L n ts sm O hm u g v d
structure GrF (mg:ZC) (H:Hp) (g c2 c3 c4:jg) (qs:ZN) (ls:ZB) (ts:ZG):Prop where
 at_:∃dx c1,H g∣.ins (aE mg "Ground") dx [("kept_cuts",.ref c1),("kept_sayings",.ref c2),("kept_layers",.ref c3),("kept_ties",.ref c4)]
 a2:H c2∣.lst (qs\0)
 a3:H c3<*ls\3
 a4:H c4∣.lst (ts\0)
 sa:cV H ls qs
 tu:aB H ts
def GrF.up(h:GrF mg H g a c3 c qs d ts)(s:ah H f):GrF mg f g a c3 c qs d ts:=by
 let%[i,c1|j]:=h.at_;show%[%[i,c1|s _ _ j],s _ _ h.a2,s _ _ h.a3,s _ _ h.a4,h.sa.up s|ax h.tu λb z e=>s _ _ e]
inductive tR (mg:ZC)
 | mk (g c2 c3 c4 qs ls ts):vs=[.ref g]->GrF mg H g c2 c3 c4 qs ls ts->(∀l,H l=hV->Q (.ref l) (Qa H l (.lst (ls\3))))->tR mg vs H Q E0
inductive qb (mg:ZC)
 | mk (g c2 c3 c4 qs ls ts):vs=[.ref g]->GrF mg H g c2 c3 c4 qs ls ts->(∀l,H l=hV->Q (.ref l) (Qa H l (.lst (qs\0))))->qb mg vs H Q E0
inductive z9 (mg:ZC)
 | mk (g c2 c3 c4 qs ls ts):vs=[.ref g]->GrF mg H g c2 c3 c4 qs ls ts->(∀l,H l=hV->Q (.ref l) (Qa H l (.lst (ts\0))))->z9 mg vs H Q E0
inductive vt (mg:ZC)
 | mk (g l m dx cs qs):vs=[.ref g,.ref l,.ref m]->H g∣.ins (aE mg "Ground") dx []->H l<*cC cs->H m∣.lst (qs\0)->cB H cs->(cs.map λp=>p.2.1).Nodup->1<= ~~~cs-> ~~~cs<=3->(∀p∈cs,u9 p.2.2)-> ~~~(cs.flatMap lyr)<=63->(∀ls,ls.Perm (cs.flatMap lyr)->cV H ls qs)-> ~~~qs<=60->(∀H' ls ts c2 c3 c4,(∀b o,b≠g->H b∣o->H' b∣o)->GrF mg H' g c2 c3 c4 qs ls ts->(∀t∈ts,BX ls t.2)->(∀z∈ls,Sml z)->(∀k,k∈ts\2↔k∈cG cs\/k∈cH qs qs.length)-> ~~~ts<=250->ls.Perm (cs.flatMap lyr)->ls.Pairwise (λa b=>aM b a=hX)->Q .non H')->vt mg vs H Q E0
def wZ(T:Txt K mg):Gu P w K mg base 6 "Ground" ["self","cuts","sayings"] (vt mg):=by
 .exists T.i_Ground,gi,bf,hr,%[g,l,m,c,cs,qs,rfl,M,hl,hm,i,an,h1,h8,as,a0,y,bl|k];let h3:=h8;let h8: ~~~cs<=8:=by lia
  show%[_,%["KCYH]kA1BCG3H]lA1BCYH]mA2A3BC~V0*:A1BC~V0*:A2BC~V03D~V0%~2AF]nH]oA1BH]pA2BB",gi.nd|hr]|?_]
  change aS _ _ _ [!g,!l,!m,hV] H;show aj λD1 k1 _=>?_
  lk;show%[l,cs,ρ,hl,i,an,h1,⋯|λH1 s1=>k1 _ _ (aj λD2 k2 _=>?_)];lk;show%[l,cs,ρ,s1 _ _ hl,i.up s1,h8,a0|λr H2 B s2 f2 h2 N q2=>k2 _ _ (aj λD3 k3 _=>?_)];let O:=s1.trans s2;lk;show%[m,r,B,qs,ρ,O _ _ hm,h2,(y B N).up O,⋯|λH3 s3=>k3 _ _ (aj λD4 k4 _=>?_)];let n:=O.trans s3;let OC:=T.o_Ground.cls;let ac:∀z∈B,Sml z:=λz hz=>by
   let%[p,u|hz]:=L4.mp (N.mem_iff.mp hz);show GQ (i p u).2.1 (i p u).2.2 z hz
  let gl:l≠g:=λe=>by rw[e,M]at hl;cases hl
  let gm:m≠g:=λe=>by rw[e,M]at hm;cases hm
  let gr:r≠g:=λe=>by rw[e,s1 _ _ M]at f2;cases f2
  lk;show%[_,.inl (Qb.of (n _ _ hl))|λc1 C=>%[_,_,_,ah.Qa C _ _ (n _ _ M),OC,T.n_Ground_kept_cuts,(by change 0<1000;decide)|k4 _ _ (aj λD5 k5 _=>?_)]];let a1:c1≠g:=λe=>by rw[e,n _ _ M]at C;cases C
  let a2:=ah.Qa (o:= .lst (cC cs)) C;let b4:∀b o,b≠g->H3 b∣o->Qa (Qa H3 c1 (.lst (cC cs))) g (.ins (aE mg "Ground") c (ei (!"kept_cuts") (V.ref c1) [])) b∣o:=λb o a e=>by rw[ap a];show a2 _ _ e
  let g4:Qa (Qa H3 c1 (.lst (cC cs))) g (.ins (aE mg "Ground") c (ei (!"kept_cuts") (V.ref c1) [])) g∣.ins (aE mg "Ground") c [("kept_cuts",V.ref c1)]:=aa;let a4:Qa (Qa H3 c1 (.lst (cC cs))) g (.ins (aE mg "Ground") c (ei (!"kept_cuts") (V.ref c1) [])) c1<*cC cs:=by rw[ap a1];show aa
  generalize Qa (Qa H3 c1 (.lst (cC cs))) g _=H4 at b4 g4 a4
  let n4:∀b,H4 b=hV->b≠g:=λb a e=>by rw[e,g4]at a;cases a
  lk;show%[_,.inl (Qb.of (b4 _ _ gm (n _ _ hm)))|λd U=>%[_,_,_,ah.Qa U _ _ g4,OC,T.n_Ground_kept_sayings,(by change 1<1000;decide)|k5 _ _ (aj λD6 k6 _=>?_)]];let Y:=n4 d U;let sc2:=ah.Qa (o:= .lst (qs\0)) U;let b5:∀b o,b≠g->H4 b∣o->Qa (Qa H4 d (.lst (qs\0))) g (.ins (aE mg "Ground") c (ei (!"kept_sayings") (V.ref d) [("kept_cuts",V.ref c1)])) b∣o:=λb o a e=>(ap a)▸sc2 _ _ e
  let g5:Qa (Qa H4 d (.lst (qs\0))) g (.ins (aE mg "Ground") c (ei (!"kept_sayings") (V.ref d) [("kept_cuts",V.ref c1)])) g∣.ins (aE mg "Ground") c [("kept_cuts",V.ref c1),("kept_sayings",V.ref d)]:=by rw[aa];rfl
  let a5:Qa (Qa H4 d (.lst (qs\0))) g (.ins (aE mg "Ground") c (ei (!"kept_sayings") (V.ref d) [("kept_cuts",V.ref c1)])) d∣.lst (qs\0):=(ap Y)▸aa
  generalize Qa (Qa H4 d (.lst (qs\0))) g _=H5 at b5 g5 a5
  lk;show%[_,_,_,g5,OC,T.n_Ground_kept_layers,(by change 2<1000;decide)|k6 _ _ (az λD7 k7 _=>?_)];let b6:∀b o,b≠g->H5 b∣o->Qa H5 g (.ins (aE mg "Ground") c (ei (!"kept_layers") (V.ref r) [("kept_cuts",V.ref c1),("kept_sayings",V.ref d)])) b∣o:=λb o a e=>(ap a)▸e
  let g6:Qa H5 g (.ins (aE mg "Ground") c (ei (!"kept_layers") (V.ref r) [("kept_cuts",V.ref c1),("kept_sayings",V.ref d)])) g∣.ins (aE mg "Ground") c [("kept_cuts",V.ref c1),("kept_sayings",V.ref d),("kept_layers",V.ref r)]:=by rw[aa];rfl
  generalize Qa H5 g _=H6 at b6 g6
  let ae:∀b o,b≠g->H3 b∣o->H6 b∣o:=λb o a e=>b6 b o a (b5 b o a (b4 b o a e))
  let v:∀b o,b≠g->H b∣o->H6 b∣o:=λb o a e=>ae b o a (n _ _ e)
  let ag:cB H6 cs:=λp u=>⟨v _ _ (λe=>by let:=(i p u).1;rw[e,M]at this;cases this) (i p u).1,(i p u).2⟩
  let j:cV H6 B qs:=λq hq=>⟨v _ _ (λe=>by let:=(y B N q hq).1;rw[e,M]at this;cases this) (y B N q hq).1,(y B N q hq).2⟩
  lk;show%[l,cs,ρ,v _ _ gl hl,ag,as,h3|λt1 H7 ts s7 f7 h7 a3 ab bm a6=>?_];lk;show%[m,B,qs,ρ,s7 _ _ (v _ _ gm hm),j.up s7,ac,⋯|λt2 H8 us s8 f8 bb bc al bt be=>?_];lk;let L:aB H8 (ts++us):=lT (ax a3 λb z e=>s8 _ _ e) bc;let g8:=s8 _ _ (s7 _ _ g6);show%[_,s8 _ _ h7,_,bb,by rw[Z6,Z6,PySem.sizeLine_eq];lia|λp u=>%[ts++us,Zd▸Qb.of aa,ax L λb z e=>ah.Qa u _ _ e,3,?_,!1,by rw[Z9];lia|λc4 ss G I _=>%[_,_,_,ah.Qa G _ _ (ah.Qa u _ _ g8),OC,T.n_Ground_kept_ties,(by change 3<1000;decide)|k7 _ _ ?_]]]
  .intro t ht;rcases Xu ht with z|z
   .show(ab t z).1.three
   .show(al t z).1.three
  .let b9:∀b o,b≠g->H8 b∣o->Qa (Qa (Qa H8 p (.lst (ts\0 ++us\0))) c4 (.lst (ss\0))) g (.ins (aE mg "Ground") c (ei (!"kept_ties") (V.ref c4) [("kept_cuts",V.ref c1),("kept_sayings",V.ref d),("kept_layers",V.ref r)])) b∣o:=λb o a e=>(ap a)▸((ah.Qa (o:= .lst (ts\0 ++us\0)) u).trans (ah.Qa (o:= .lst (ss\0)) G)) _ _ e
   let J:∀b o,b≠g->H6 b∣o->_:=λb o a e=>b9 b o a (s8 _ _ (s7 _ _ e))
   show k _ B ss d r c4 (λb o a e=>J b o a (v b o a e)) %[%[c,c1|?_],?_,?_,?_,?_|?_] (λt ht=>?_) ac (λk=>by rw[(I.map _).mem_iff,Zd,Yy,a6,be]) (by rw[I.length_eq,Z9];lia) N q2
   .rw[aa];rfl
   .show J _ _ Y (b6 _ _ Y a5)
   .show J _ _ gr (ae _ _ gr (s3 _ _ h2))
   .rw[ap (λe=>by rw[e,ah.Qa u _ _ g8]at G;cases G)];show aa
   .show λq hq=>⟨J _ _ (λe=>by let:=(j q hq).1;rw[e,g6]at this;cases this) (j q hq).1,(j q hq).2⟩
   .intro t ht;let:=L t (I.mem_iff.mp ht);show%[this.1|b9 _ _ (λe=>by let q:=this.2;rw[e,g8]at q;cases q) this.2]
   .rcases Xu (I.mem_iff.mp ht)with z|z
    .show%[(ab t z).1.mono λx=>N.mem_iff.mpr|(ab t z).2]
    .show al t z
def eT(T:Txt K mg):By P w K mg base 1 "Ground" "layers" ["self"] (tR mg):=by
 .exists T.m_Ground_layers,mM,b,m,%[g,c,c3,d,qs,e,ts,rfl,a|k];let%[n,c1|i]:=a.at_;show%[_,%["KDI*:A~s0B"|0]|?_];change jh _ _ [hY _] H;lk;show%[_,_,_,i,T.o_Ground.cls,T.n_Ground_kept_layers,_,ρ,_,.inl (Qb.of a.a3)|λl j=>k l j]
def eG(T:Txt K mg):By P w K mg base 1 "Ground" "sayings" ["self"] (qb mg):=by
 .exists T.m_Ground_sayings,lO,b,m,%[g,c,c3,d,qs,e,ts,rfl,a|k];let%[n,c1|i]:=a.at_;show%[_,%["KDI*:A~s0B"|0]|?_];change jh _ _ [hY _] H;lk;show%[_,_,_,i,T.o_Ground.cls,T.n_Ground_kept_sayings,_,ρ,_,.inl (Qb.of a.a2)|λl j=>k l j]
def rB(T:Txt K mg):By P w K mg base 1 "Ground" "ties" ["self"] (z9 mg):=by
 .exists T.m_Ground_ties,pR,b,m,%[g,c,c3,d,qs,e,ts,rfl,a|k];let%[n,c1|i]:=a.at_;show%[_,%["KDI*:A~s0B"|0]|?_];change jh _ _ [hY _] H;lk;show%[_,_,_,i,T.o_Ground.cls,T.n_Ground_kept_ties,_,ρ,_,.inl (Qb.of a.a4)|λl j=>k l j]
def emB{p q:ri}(e:97+(p%26).toNat=97+(q%26).toNat):(p-q)%26=0:=ri.emod_eq_emod_iff_emod_sub_eq_zero.mp ((Qg (MB p (show(26:ri)≠0 by decide))).symm.trans ((vj ri.ofNat (Qf e)).trans (Qg (MB q (show(26:ri)≠0 by decide)))))
def Aa{r a w:ri}(d:0<=r)(f:r<16)(b:0<=a)(c:a<16)(e:ltr r w=ltr a w):r=a:=by
 let all:∀m∈[(1:ri),25,7,5],∀x y:Fin 16,((x.1:ri)*m-y.1*m)%26=0->x=y:=!0
 let mm:mlt w∈[(1:ri),25,7,5]:=by
  unfold mlt
  split
  .show .head _
  .split
   .show .tail _ (.head _)
   .split
    .show .tail _ (.tail _ (.head _))
    .show .tail _ (.tail _ (.tail _ (.head _)))
 let%[x|rfl]:=Xo d;let%[y|rfl]:=Xo b;let k:=emB e;rw[ri.add_sub_add_right]at k;show vj (λk:Fin 16=>(k.1:ri)) (all _ mm %[x|Wm.mp f] %[y|Wm.mp c] k)
def tT(n:ku):LD++n=n:=kY (by change(([].toArray) ++n.cps).toList=_;simp)
def jQ(n z:ku):n++pp "."++z=lnS n z:=by unfold lnS;rw[tT]
def vv{n:ku}{c a:iv}(e:lnS n (sgn c)=lnS n (sgn a)):c=a:=by
 let:=vj (λz:ku=>z.cps.toList) e;let:((LD++n++pp ".").cps++ ([c].toArray)).toList=((LD++n++pp ".").cps++ ([a].toArray)).toList:=this;simpa using this
abbrev y8(rows:ZB)(c:iv):su:=rows.any λz=>decide (c∈z.cps.toList)
abbrev kI(nm:ku)(w:ri)(rows:ZB)(n:iv):hH (ku×ri):=((q7 n).filter λr:iv=>y8 rows (ltr r w)).map λr:iv=>(lnS nm (sgn (ltr r w)),(r:ri))
abbrev rkD(rs:hH (ku×ri)):hH (Key×V):=rs.map λp=>(kj p.1,V.int p.2)
def qc(p:ku->su):∀rows:ZB,decide ((rows.filter p)\3≠[])=rows.any p
 |[]=>rfl
 | z::r=>by
   let:=qc p r;cases c:p z
   .rw[Y7,c,Zy,c];show this
   .rw[Y7,c,Zy,c];rfl
def Ab(nm:ku)(w:ri)(rows:ZB)(n:iv):kI nm w rows (n+1)=kI nm w rows n++if y8 rows (ltr n w)=hW then [(lnS nm (sgn (ltr n w)),(n:ri))]else []:=by
 unfold kI;rw[O9,Y6,Zd]
 congr 1
 by_cases c:y8 rows (ltr n w)=hW
 .rw[ix c,Y7,ix c];rfl
 .rw[ij c,Y7,ij c];rfl
def vw{z:ku}:∀{rs:hH (ku×ri)},z∉rs\1->bI (rkD rs) (kj z)=hV
 |[],_=>rfl
 | p::rs,h=>by
   rw[Yw,X2,Og]at h;rw[show rkD (p::rs)=(kj p.1,V.int p.2)::rkD rs from rfl,di (λq=>h.1 (MW q).symm)];show vw h.2
def J8{nm:ku}{w:ri}{rows:ZB}{n:iv}(h:n<16):lnS nm (sgn (ltr n w))∉(kI nm w rows n)\1:=λa=>by
 let%[p,b|e]:=Xw a;let%[r,c|rfl]:=Xw b;let:=J6.mp (ow.mp c).1;let:=Aa ⋯ ⋯ ⋯ ⋯ (vv e)
 lia
inductive w6
 | mk (nm:ku) (w:ri) (l:jg) (rows:ZB):vs=[.str nm,.int w,.ref l]->0<=w->w<=110-> ~~~nm<=8->H l<*rows\3-> ~~~rows<=100->(∀d H',ah H H'->H d=hV->H' d∣.dK (rkD (kI nm w rows 16))->Q (.ref d) H')->w6 vs H Q E0
def w8(T:Txt K mg):↥2 "_law_ranks" ["_law_name","_law_way","_law_rows"] w6:=by
 .exists T.bn,fi,ab,J,%[nm,w,l,rows,rfl,w0,w1,nl,hl,rl|kk];show%[_,%["KCG3zCQ'AEBJ4C=5pqH~eA4A1BDNM^gc?1T2b0?2wM]qP100RBDr43F&F&0ZP5ODI3",fi.nd,↑(["_law_row","_law_letter_here"],[(1,5)]),↑["_law_row","_law_letter_here"]|J]|?_]
  change aS _ _ _ [-nm,hY (.int w),!l,hV,hV,hV] H;show aj λD1 k1 _=>?_
  lk;show λd L=>k1 _ _ (aj λD2 k2 _=>ay λm M=>?_)
  lk;show%[!1,!1|M _ _ (cI (λi g U=>E2 λN v=>A3 (g=[-nm,hY (.int w),!l,!d,N,v]) (ah H U) (U d∣.dK (rkD (kI nm w rows i)))) %[_,_,ρ,ah.Qa L|aa] ?_ ?_)]
  .intro i g y hi %[N,v,rfl,B|j];change aS _ _ _ [-nm,hY (.int w),!l,!d,hY (.int (0+i)),v] y;rw[OK];show aj λD3 k3 _=>?_
   lk;show%[i,w,ρ,⋯,⋯,w0,w1|λH2 Y=>k3 _ _ (az λD4 k4 _=>?_)];lk;show aG λm M=>?_
   lk;let n:=Y _ _ (B _ _ hl);show%[%[_|Qb.of n]|M _ _ λF hF=>?_];show bZ (λq ts g C=>A4 (∃o,g=[o,hY (.str (sgn (ltr i w)))]) (ah H2 C) (C F<*ts) (ts=((rows.take q).filter λz=>decide (ltr i w∈z.cps.toList))\3))
    %[%[hV|rfl],ah.Qa hF,aa|rfl] (λ_ _ _ H4 ⟨_,G,_,_⟩=>G _ _ n) ?_ ?_
   .intro q ts g H4 O %[%[o|rfl],I,a|r];lk;rw[show(!(LA rows[q] (sgn (ltr i w)) 0 rows[q].length 1).isEmpty)=decide (ltr i w∈rows[q].cps.toList)from uu _ _];let tk:∀b,decide (ltr i w∈rows[q].cps.toList)=b->((rows.take (q+1)).filter λz=>decide (ltr i w∈z.cps.toList))\3=ts++if b=hW then [V.str rows[q]]else []:=λb hb=>by
     rw[r,Xg,Z4 O,Y6,Zd]
     congr 1
     change Q0 V.str (Nu _ [rows[q]])=_;rw[Y7,hb];cases b<;> rfl
    show .inl (bC (λc=>CK.mk O a (by rw[r,Z6];show aC (Ym (Yo _ _) (by rw[Yr];lia))) %[%[_|rfl],ah.set I hF,aa|?_]) λc=>CN.mk O %[%[_|rfl],I,a|?_])
    .rw[tk _ c];rfl
    .rw[tk hX ↑c];simp
   .intro ts g C %[_,I,a|r];rw[Xj]at r;let e:decide (ts≠[])=y8 rows (ltr i w):=by
     rw[r];show qc _ rows
    show%[Xl _|λp hp=>%[ts,ah.Qa hp _ _ a,aa|?_]];rw[e,jQ];let G:ah y (Qa C p (.lst [])):=(Y.trans I).trans (ah.Qa hp);let u:=G _ _ j;let sH:=B.trans G;show bC (λc=>?_) λc=>?_
    .let:=Ab nm w rows i;rw[ix c]at this;show%[by rw[PySem.sizeLine_eq];change ~~~nm+1<=_;lia,by rw[PySem.sizeLine_eq,Q8];change ~~~nm+1+1<=_;lia,_,fM.k (k:=kj (lnS nm (sgn (ltr i w)))) u (by unfold rkD kI;rw[Z6,Z6];show aC (Ym (Yo _ _) (by rw[Yp];lia)))|k4 _ _ %[_,_,ρ,ah.set sH L|?_]];rw[aa,dW _ (vw (J8 hi)),this];unfold rkD;rw[Zd];rfl
    .show k4 _ _ %[_,_,rfl,sH|?_];rw[u,Ab,ij c,Zz]
  .intro g y %[N,v,rfl,B|j];show k2 _ _ ?_;lk;show kk d y B L j
abbrev rC(c:ri):ku:=if c%3=0 then pp "pit" else if c%3=1 then pp "a" else pp "zone"
abbrev nmN(c1 a:ri)(k:iv):ku:=rC c1++sgn (97+((a+9*k)%26).toNat)
def J9{c:ri}:fP (97+(c%26).toNat)=hW:=by
 let all:∀i:Fin 26,fP (97+i.1)=hW:=!0
 show all %[(c%26).toNat|⋯]
def EI(c1 a:ri)(k:iv):gT (nmN c1 a k)=hW:=by
 let p:∀z:ku,~~~z<=7->z.cps.toList.all fP=hW->gT (z++sgn (97+((a+9*k)%26).toNat))=hW:=λz d b=>by
  let c: ~~~(z++sgn (97+((a+9*k)%26).toNat))= ~~~z+1:=Q8 _ _;unfold gT;rw[c,show(z++sgn (97+((a+9*k)%26).toNat)).cps.toList=z.cps.toList++[97+((a+9*k)%26).toNat] by change(z.cps++ ([_].toArray)).toList=_;simp,hH.all_append,b];simp only[Zx,Lz];show%[%[⋯|⋯],LW|by rw[WL,J9];rfl]
 unfold nmN rC
 split
 .show p _ (!0) (!0)
 .split
  .show p _ (!0) (!0)
  .show p _ (!0) (!0)
def Ac{c1 a:ri}{k b:iv}(h:k<3)(h':b<3)(e:nmN c1 a k=nmN c1 a b):k=b:=by
 let e:((rC c1).cps++ ([97+((a+9*k)%26).toNat].toArray)).toList=((rC c1).cps++ ([97+((a+9*b)%26).toNat].toArray)).toList:=vj (λz:ku=>z.cps.toList) e;let:97+((a+9*k)%26).toNat=97+((a+9*b)%26).toNat:=↑e
 let all:∀x y:Fin 3,(9*(x.1:ri) -9*y.1)%26=0->x=y:=!0
 let e:=emB this;rw[ri.add_sub_add_left]at e;show vj (λk:Fin 3=>k.1) (all %[k|h] %[b|h'] e)
def xa{n a:ku}{c b:iv}(e:lnS n (sgn c)=lnS a (sgn b)):n=a:=by
 rw[<-jQ,<-jQ]at e;let e:(n.cps++ ([46].toArray) ++ ([c].toArray)).toList=(a.cps++ ([46].toArray) ++ ([b].toArray)).toList:=vj (λz:ku=>z.cps.toList) e;let e:n.cps.toList++[46,c]=a.cps.toList++[46,b]:=↑e
 show kY (hH.append_inj_left' e rfl)
structure xc (cs:ZH) (rs:hH (ku×ri)):Prop where
 dr:∀p∈cs,∃w cols hi,eW w cols hi/\p.2.2=br cols hi
 rk:∀q∈rs,q.1∈cs.flatMap lyr/\0<=q.2/\q.2<16
 nd:(rs\1).Nodup
 len: ~~~rs<=16* ~~~cs
 ne:cs≠[]->rs≠[]
def xf:∀{more rs:hH (ku×ri)},((rs++more)\1).Nodup->iG (rkD rs) (rkD more)=rkD (rs++more)
 |[],rs,_=>by rw[Zz];rfl
 | p::more,rs,h=>by
   let e:rs++p::more=(rs++[p]) ++more:=by simp
   let a:p.1∉rs\1:=by
    rw[Zd,X8]at h;show λq=>h.2.2 _ q p.1 Zm rfl
   rw[e]at h ⊢;rw[<-xf h];change iG (db (rkD rs) (kj p.1) (V.int p.2)) (rkD more)=_;rw[dW _ (vw a)];unfold rkD;rw[Zd];rfl
def EJ{p:jg×ku×ZB}{z:ku}(h:z∈lyr p):∃c,z=lnS p.2.1 (sgn c):=by
 let%[y,a|rfl]:=Xw h;let%[c,_|rfl]:=Xw (aP.mp a);show%[c|ρ]
def qd{nm:ku}{w:ri}{rows:ZB}{n:iv}{q:ku×ri}:q∈kI nm w rows n↔∃r:iv,r<n/\y8 rows (ltr r w)=hW/\q=(lnS nm (sgn (ltr r w)),(r:ri)):=by
 unfold kI;rw[OD];simp only[ow,J6];show%[λ⟨r,⟨a,b⟩,e⟩=>%[r,a,b|e.symm]|λ⟨r,a,b,e⟩=>%[r,%[a|b]|e.symm]]
def xg{rows:ZB}{c:iv}(h:c≠46):y8 rows c=hW↔Let rows c:=by
 unfold y8 Let;rw[Sq];show%[λ⟨z,a,b⟩=>%[h,z,a|Zo b]|λ⟨_,z,a,b⟩=>%[z,a|Zf b]]
def xc.snoc{cs:ZH}{rs:hH (ku×ri)}(h:xc cs rs){a:jg}{nm:ku}{w:ri}{b:hH (hH iv)}{hi:iv}(d:eW w b hi)(fr:nm∉cs.map (·.2.1)):xc (cs++[(a,nm,br b hi)]) (rs++kI nm w (br b hi) 16):=by
 show%[λp g=>?_,λq f=>?_,?_,?_|λ_=>?_]
 .rcases Xu g with g|g
  .show h.dr p g
  .rw[Xv g];show%[w,b,hi,d|ρ]
 .rw[Pd,Yy];rcases Xu f with f|f
  .show%[.inl (h.rk q f).1|(h.rk q f).2]
  .let%[r,m,o|rfl]:=qd.mp f;show%[.inr (L4.mpr %[_,hH.mem_singleton_self _|jP (p:=(a,nm,br b hi)) ((xg (vh _ _)).mp o)]),by change(0:ri)<=(r:ri);lia|by change(r:ri)<16;lia]
 .rw[Zd,X8];show%[h.nd,?_|λx i y j e=>?_]
  .unfold kI;rw[Yx,X9,Xe];show Xn (λ{x y} i j n e=>n ?_) (X9.mp (Qw.filter _));let s:=J6.mp (ow.mp i).1;let B:=J6.mp (ow.mp j).1;let:=Aa ⋯ ⋯ ⋯ ⋯ (vv e)
   lia
  .let%[p,g|rfl]:=Xw i;let%[q,f|rfl]:=Xw j;let%[c,u|v]:=L4.mp (h.rk p g).1;let%[l|z]:=EJ v;let%[r,_,_|rfl]:=qd.mp f;show fr (Xx %[c,u|xa (z.symm.trans e)])
 .rw[Z9,Z9,Yq];let s:=h.len;let: ~~~(kI nm w (br b hi) 16)<=16:=by
   unfold kI;rw[Z6];show Ym (Yo _ _) (by rw[Yp];lia)
  lia
 .let%[r,A,m|l]:=d.ex;let%[r|rfl]:=Xo A;intro e;let:(lnS nm (sgn (ltr r w)),(r:ri))∈rs++kI nm w (br b hi) 16:=mem_append.mpr (.inr (qd.mpr %[r,⋯,(xg (vh _ _)).mpr l|rfl]));rw[e]at this;show nomatch this
abbrev NmD(a:ZB)(f:ku->ku):hH (Key×V):=a.map λz=>(kj z,V.str (f z))
def kJ:∀{a:ZB},z∈a->bI (NmD a f) (kj z)∣.str (f z)
 |[],h=>(nomatch h)
 | x::a,h=>by
   by_cases e:x=z
   .subst e;show eN rfl
   .rw[show NmD _ f=(kj x,V.str _)::NmD a f from rfl,di (λq=>e (MW q))];show kJ (by rcases X2.mp h with q|q;show(e q.symm).elim;show q)
def EK:((NmD b f).any λa=>decide (a.1=(kj z:Key)))=hW↔z∈b:=by
 rw[Sq]
 constructor
 .rintro⟨a,c,d⟩;let%[x,e|rfl]:=Xw c
  simp_all
 .intro h;show%[_,Xx %[z,h|ρ]|Zf rfl]
def qf(h:z∈a):db (NmD a f) (kj z) (.str v)=NmD a (λx=>if x=z then v else f x):=by
 unfold db;rw[ix (EK.mpr h)];unfold NmD;rw[Yx];show Yv λx _=>?_
 change(if(kj x)=kj z then((kj x),V.str v)else(kj x,V.str _))=(kj x,V.str (if x=z then v else f x))
 by_cases e:x=z
 .rw[ix (vj _ e),ix e]
 .rw[ij (λq=>e (MW q)),ij e]
def EM(h:z∉a):db (NmD a id) (kj z) (.str z)=NmD (a++[z]) id:=by
 unfold db;rw[ij (λq=>h (EK.mp q))];unfold NmD;rw[Zd];rfl
abbrev xh(a:ZB)(z:ku):iv:=a.countP λu=>aM u z
def qg(c:x∈b)(h:aM x y=hW):xh b x<xh b y:=by
 unfold xh
 induction b with
 | nil=>cases c
 | cons u l d=>
   let le:l.countP (λu=>aM u x)<=l.countP λu=>aM u y:=PD λu _ a=>dQ a h
   rw[Y0,Y0];rcases X2.mp c with rfl|e
   .rw[ij (by rw[df];simp),ix h]
    lia
   .let:=d e;by_cases a:aM u x=hW
    .rw[ix a,ix (dQ a h)]
     lia
    .rw[ij a]
     split<;> lia
abbrev bg(qs:ZN)(a b:ku):Prop:=∃q∈qs,q.2=[.str "same",.str a,.str b]
def jR{S R:ku->ku->Prop}(F:bQ c f r S)(h:∀a b,S a b↔R a b):bQ c f r R:=by
 rw[funext λa=>funext λb=>(propext (h a b)).symm];show F
inductive EN
 | mk (d z ls f r S):vs=[.ref d,.str z]->H d∣.dK (NmD ls f)->bQ ls f r S->z∈ls->Q (.str (r z)) H->EN vs H Q E0
inductive Ae
 | mk (d a b ls f r S):vs=[.ref d,.str a,.str b]->H d∣.dK (NmD ls f)->bQ ls f r S->a∈ls->b∈ls-> ~~~ls<=5000->(∀f' r',bQ ls f' r' (λx y=>S x y\/(x=a/\y=b))->Q .non (Qa H d (.dK (NmD ls f'))))->Ae vs H Q E0
def gu(T:Txt K mg):↥1 "least_pointed_to" ["names","layer"] EN:=by
 .exists T.aC,eV,q,i,%[d,z,e,p,r,S,rfl,u,F,v|j];show%[_,%["KC~IM~WX011DG1X01DI1",eV.nd|i]|aj λB k1 _=>⟨λm l g=>∃y,l=[hY _,-y]/\g=H/\y∈e/\r y=r z/\m=xh e y,%[_,z,ρ,ρ,v,ρ|ρ],?_⟩]
  intro m l g %[y,rfl,rfl,a,b|rfl];lk;let n:=by
   let:=cu.k (k:=kj y) u;rw[kJ a]at this;show this
  show%[_,n|bC (λh=>?_) λh=>?_]
  .let h:=↑h
   show%[λc o=>c=[hY _,hY _]/\o=g,?_,_,n,ρ|ρ];intro c o %[rfl|rfl];show%[_,qg (F.fin y a) (F.dec y a h),p y,ρ,ρ,F.fin y a,(F.rf y a).trans b|ρ]
  .show k1 _ _ ?_;rw[<-b,F.fix y a ↑h]at j;show j
def nV(T:Txt K mg):↥2 "join_deposits" ["names","one","other"] Ae:=by
 .exists T.aB,eC,m,e,%[d,a,b,c,p,r,S,rfl,g,F,i,j,n|o];show%[_,%["KCG3H~3A0A1BCG4H~3A0A2BDr~J~4A3A4B0]r]sA3A4B",eC.nd|e]|?_]
  change aS _ _ _ [!d,-a,-b,hV,hV] H;show aj λu k1 _=>?_
  lk;show%[d,a,c,p,r,S,ρ,g,F,i|k1 _ _ (aj λv k2 _=>?_)];lk;show%[d,b,c,p,r,S,ρ,g,F,j|k2 _ _ (az λy q _=>?_)];lk;let J:=F.join i j rfl rfl;let l:(if aM (r a) (r b)=hW then r b else r a)∈c:=by
   split
   .show F.rin b j
   .show F.rin a i
  generalize (if aM (r a) (r b)=hW then r b else r a)=M at J l
  show%[_,fM.k (k:=kj M) g (by unfold NmD;rw[Z6,PySem.sizeLine_eq];lia)|q _ _ ?_];rw[qf l];show o _ _ J
def y9{qs:ZN}{q:jg×ZM}(c:qs[i]?∣q)(a b:ku):bg (qs.take (i+1)) a b↔bg (qs.take i) a b\/q.2=[.str "same",.str a,.str b]:=by
 unfold bg;rw[Xg,c]
 simp_all
def iU{c:ZB}(d:c.Pairwise (λa b=>aM b a=hX)){i:iv}{z w:ku}(f:c[i]?∣z)(hw:w∈c)(h:aM w z=hW):w∈c.take i:=by
 rw[<-Xh i c]at hw;rcases Xu hw with e|e
 .show e
 .let%[hi|g]:=Xt f;let%[j,l|rfl]:=Yi e;rw[hH.getElem_drop]at h;rw[Yn]at l;by_cases m:j=0
  .subst m;rw[<-g]at h;simp only[Pg]at h;rw[df]at h;cases h
  .let:=Nz.mp d i (i+j) hi ⋯ ⋯
   grind
inductive xi (mg:ZC)
 | mk (g c2 c3 c4 qs ls ts):vs=[.ref g]->GrF mg H g c2 c3 c4 qs ls ts->ls.Nodup->ls.Pairwise (λa b=>aM b a=hX)-> ~~~ls<=5000->(∀d H' r,ah H H'->H d=hV->H' d∣.dK (NmD ls r)->(∀z∈ls,r z∈ls/\cL (bg qs) z (r z))->Q (.ref d) H')->xi mg vs H Q E0
def qh{H:Hp}{g b c3 c:jg}{qs:hH _}{d:ZB}{ts:hH _}{m:ku}{R:Prop}(h:GrF mg H g b c3 c qs d ts)(e:m="layers"\/m="sayings"\/m="ties")(k:R):∃a fs,H g∣.ins (aE mg "Ground") a fs/\Nd m fs=hV/\R:=by
 let%[a,c1|f]:=h.at_;show⟨a,_,f,by rcases e with rfl|rfl|rfl<;> rfl,k⟩
def iB(T:Txt K mg):↥3 "names_by_layer" ["ground"] (xi mg):=by
 .exists T.aA,bi,a0,L,%[g,c2,c3,c4,qs,j,ts,rfl,hg,nd,so,as|kk];let lm: ~~~(j\3)= ~~~j:=Z6 _;let qm: ~~~(qs\0)= ~~~qs:=Z6 _;show%[_,%["KCG1zCQT_~t0J2Dr212CQT_~u0iLJ3LJ4LJ5dDNM~j3ZDYH]tA1A4A5BOCQT_~t0J2DrX1X1212DI1",bi.nd|L]|?_]
  change aS _ _ _ [!g,hV,hV,hV,hV,hV] H;show aj λD1 k1 _=>?_
  lk;intro d hd;show k1 _ _ (aj λD2 k2 _=>ay λM hK=>?_);let s1:=ah.Qa (o:= .dK []) hd;let Y:Qa H d (.dK []) d∣.dK (NmD (j.take 0) id):=aa
  generalize Qa H d _=H1 at s1 Y
  lk;let ab:=hg.up s1;show qh ab (.inl rfl) %[g,c2,c3,c4,qs,j,ts,rfl,ab|λl1 N=>%[%[_|Qb.of aa]|hK _ _ ?_]];let s2:=ah.Qa (o:= .lst (j\3)) N;let ac:=own s2;let n1:l1≠d:=λe=>by rw[e,Y]at N;cases N
  let Y:=s2 _ _ Y
  generalize Qa H1 l1 _=H2 at s2 ac Y
  show bA (λi n l=>A4 (E4 λp u v B=>n=[!g,!d,p,u,v,B]) (ah H l) (l l1<*j\3) (l d∣.dK (NmD (j.take i) id)))
   %[%[_,_,_,_|rfl],s1.trans s2,ac|Y] (λi n l h=>h.3) ?_ ?_
  .intro i z n l C %[%[p,u,v,B|rfl],m,J|c];change ot _ _ _ _ [!g,!d,-z,u,v,B] l;show az λD3 k3 _=>?_
   lk;let zn:z∉j.take i:=λhm=>by
    let h:=nd;rw[<-Xh i j,X8]at h;show h.2.2 z hm z (Z8 (i:=0) ((Ye)▸C)) rfl
   show%[_,fM.k (k:=kj z) c (by unfold NmD;rw[Z6,Yr,PySem.sizeLine_eq];lia)|k3 _ _ %[%[_,_,_,_|ρ],ah.set m hd,(ap n1).trans J|?_]];rw[aa,EM zn,Xg,C];rfl
  intro n H3 %[%[p,u,v,B|rfl],m,J|c];rw[Zn (Zi _)]at c;show k2 _ _ (aj λD4 k4 _=>ay λM hK=>?_);lk;let ae:=hg.up m;show qh ae (.inr (.inl rfl)) %[g,c2,c3,c4,qs,j,ts,rfl,ae|λl2 O=>%[%[_|Qb.of aa]|hK _ _ ?_]];let s4:=ah.Qa (o:= .lst (qs\0)) O;let ag:=own s4;let n2:l2≠d:=λe=>by rw[e,c]at O;cases O
  let c:=s4 _ _ c;let al:=m.trans s4
  generalize Qa H3 l2 _=H4 at s4 ag c al
  show bA (λi n l=>A4 (E4 λp u v B=>n=[!g,!d,p,u,v,B]) (ah H l) (l l2∣.lst (qs\0)) (E2 λf r=>l d∣.dK (NmD j f)/\bQ j f r (bg (qs.take i))))
   %[%[_,_,_,_|rfl],al,ag,id,id,c|jR (bQ.start j) λa b=>%[λh=>h.elim|λ⟨q,hq,_⟩=>(nomatch hq)]] (λi n l h=>h.3) ?_ ?_
  .intro i q n l hq %[%[p,u,v,B|rfl],m,J,f,r,c|F];let%[q1|q2]:=hg.sa q (Z8 hq);let st:=m _ _ q1;let G:=y9 hq;rcases q2 with⟨wd,a,b,e,hw,ha,hb,_⟩|⟨wd,a,y,e,hw,_⟩
   .rw[e]at st G;show%[_,SqT.of st,ρ,_,_,ρ,_,_,ρ,_,_,ρ,ρ|?_];change kN _ _ _ _ [!g,!d,p,-wd,-a,-b] l;show az λD5 k5 _=>?_
    lk;show bC (λh=>?_) λh=>?_
    .let h:wd=pp "same":=↑h
     show%[d,a,b,j,f,r,_,ρ,c,F,ha,hb,as|λf' r' F'=>k5 _ _ %[%[_,_,_,_|ρ],ah.set m hd,(ap n2).trans J,f',r',aa|jR F' λx y=>?_]];rw[G,h];show Qu N5 %[λ⟨e1,e2⟩=>by rw[e1,e2]|λe=>?_];simp only[MP,V.str.injEq,UR,true_and]at e;show%[e.1.symm|e.2.symm]
    .let h:wd≠pp "same":=↑h
     show k5 _ _ %[%[_,_,_,_|rfl],m,J,f,r,c|jR F λx y=>?_];rw[G];show%[.inl|λe=>e.resolve_right λe=>h ?_];simp only[MP,V.str.injEq]at e;show e.1
   .rw[e]at st G;show%[_,SqT.of st,ρ,_,_,ρ,_,_,ρ,_,_,ρ,ρ|?_];change kN _ _ _ _ [!g,!d,p,-wd,-a,hY (.int y)] l;show az λD5 k5 _=>?_
    lk;rw[ij (by rcases hw with rfl|rfl<;> decide)];show k5 _ _ %[%[_,_,_,_|rfl],m,J,f,r,c|jR F λx z=>?_];rw[G];show%[.inl|λe=>e.resolve_right λe=>?_];simp at e
  intro n H5 %[%[p,u,v,B|rfl],m,J,f,r,c|F];rw[Zn (Zi _)]at F;show k4 _ _ (aj λD6 k6 _=>ay λM hK=>?_);lk;let an:=hg.up m;show qh an (.inl rfl) %[g,c2,c3,c4,qs,j,ts,rfl,an|λl3 U=>%[%[_|Qb.of aa]|hK _ _ ?_]];let s6:=ah.Qa (o:= .lst (j\3)) U;let n3:l3≠d:=λe=>by rw[e,c]at U;cases U
  let c:=s6 _ _ c;show bA (λi n l=>A4 (E4 λp u v B=>n=[!g,!d,p,u,v,B]) (ah H l) (l l3<*j\3) (∃f,A3 (l d∣.dK (NmD j f)) (bQ j f r (bg qs)) (∀z∈j.take i,f z=r z)))
   %[%[_,_,_,_|rfl],(m.trans s6),aa,f,c,F|λz C=>(nomatch C)] (λi n l h=>h.3) ?_ ?_
  .intro i z n l C %[%[p,u,v,B|rfl],m,J,f,c,F|I];let zm:=Z8 C;change ot _ _ _ _ [!g,!d,-z,u,v,B] l;show az λD7 k7 _=>?_
   lk;let get:=λy hy=>by
    let:=cu.k (k:=kj y) c;rw[kJ hy]at this;show this
   show%[_,get z zm,_,get _ (F.fin z zm),_,fM.k (k:=kj z) c (by unfold NmD;rw[Z6,PySem.sizeLine_eq];lia)|k7 _ _ %[%[_,_,_,_|ρ],ah.set m hd,(ap n3).trans J,_,?_,F.short zm|λy hy=>?_]]
   .rw[aa,qf zm]
   .rw[Xg,C]at hy;by_cases e:y=z
    .rw[ix e,e];show F.done zm λw hw h=>I w (iU so C hw h)
    .rw[ij e];rcases Xu hy with h|h
     .show I y h
     .show(e (Xv h)).elim
  intro n H7 %[%[p,u,v,B|rfl],m,J,f,c,F|I];rw[Zn (Zi _)]at I;show k6 _ _ ?_;lk;show kk d H7 r m hd ?_ λz C=>%[F.rin z C|F.least C]
  rw[c];unfold NmD;rw[Yv λz C=>by rw[I z C]]
def Ka{X:Cx}{K:ZA}{T id:L8}(h:X.K=K)(m:Oz T)(slot:Slot T name id)(i:OM (.builtin id)=pure (.type "method_descriptor"))(n:MtQ X id r)
 (b:Mx o name X.env (L9 o X.env)=L9 o X.env) (a:(e::g).any aT=hX) (j:Wj (e::g).length 30=hW) (c:(d.endLine==f.line)=hW) (p:QE X o q) (s:QA X (e::g) t):
 QE X (.Call (.Attribute o name d) (e::g) [] f) (tBM K T r q t):=by
 let l:=a;rw[Zy,Xd]at l;show⟨CV h m slot i n.h p.h s.h b ?_ c (aA l.1) (dZ l.2)⟩;rw[ux a];let:decide (~~~(e::g)+ ~~~([]:hH Om)+(if([]:hH Om).isEmpty then 0 else 1)<30)=hW:=Zf ((iv.blt_eq.mp j));rw[this];rfl
abbrev grp(r:ku->ku)(xs:ZB):hH (ku×ZB):=(xs.filter λz=>decide (r z=z)).map λz=>(z,xs.filter λx=>decide (r x=z))
def BY(h:∀z∈xs,r z=b z):grp r xs=grp b xs:=by
 unfold grp;rw[Ug λz a=>by rw[h z a]];show Yv λz a=>?_
 rw[Ug λx c=>by rw[h x c]]
def GS(a:r z=z)(b:z∉xs)(c:∀x∈xs,r x∈xs):grp r (xs++[z])=grp r xs++[(z,[z])]:=by
 unfold grp;rw[Y6,Zd];show TM (vj _ (Yv λw hw=>?_)) ?_
 .let:w≠z:=λe=>b (e▸(ow.mp hw).1)
  rw[Y6,Y8 (by rw[a];simpa using this.symm),Ya,Zz]
 .rw[Y9 (by rw[a];simp),Ya];change [(z,_)]=_;rw[Y6,Y9 (by rw[a];simp),Ya,Oj.mpr λx d=>?_]
  .rfl
  .intro e;show b ((Zo e)▸c x d)
def GT(a:r z≠z):grp r (xs++[z])=(grp r xs).map λp=>if p.1=r z then(p.1,p.2++[z])else p:=by
 unfold grp;rw[Y6,Y8 ↑a,Ya,Zz,Yx];show Yv λw hw=>?_
 change(w,_)=if w=r z then(w,_)else(w,_)
 rw[Y6];by_cases e:w=r z
 .rw[ix e,Y9 (by simpa using e.symm),Ya]
 .rw[ij e,Y8 (by simpa using λq=>e q.symm),Ya,Zz]
def jS:y∈(grp r xs)\1↔y∈xs/\r y=y:=by
 unfold grp
 simp_all
def mR(h:xs.Nodup):((grp r xs)\1).Nodup:=by
 unfold grp;rw[Yx,show((λx=>x.1) ∘ λz=>(z,Nu _ xs))=id from rfl,Wk];show h.filter _
abbrev Af(S:ku->ku->Prop)(a:ZB)(ds:hH ZB):Prop:=∃r:ku->ku,(∀z∈a,r z∈a/\cL S z (r z))/\ds=(grp r a)\2
def Af.one{S:ku->ku->Prop}(h:Af S b ds)(g:Af S b c):ds=c:=by
 let%[r,d|rfl]:=h;let%[f,e|rfl]:=g;rw[BY λz a=>(d z a).2.one (e z a).2]
noncomputable abbrev Gs(a:Type):=hH (ku×jg×hH a)
abbrev gD{a:Type}(b:Gs a):hH (Key×V):=b.map λg=>(kj g.1,V.ref g.2.1)
def mo:∀{a:Gs b},y∉a\1->bI (gD a) (kj y)=hV
 |[],_=>rfl
 | g::a,h=>by
   rw[Yw,X2,Og]at h;rw[show gD _=(kj g.1,V.ref _)::gD a from rfl,di (λq=>h.1 (MW q).symm)];show mo h.2
def fo:∀{a:Gs f},bI (gD a) (kj y)∣v->∃g∈a,g.1=y/\v= .ref g.2.1
 |[],h=>(nomatch h)
 | g::a,h=>by
   rw[show gD _=(kj g.1,V.ref _)::gD a from rfl]at h;by_cases e:g.1=y
   .rw[eN (vj kj e)]at h;show%[g,Zm,e|(Za h).symm]
   .rw[di (λq=>e (MW q))]at h;let%[b,c|d]:=fo h;show%[b,Zk _ c|d]
def iV:∀{a:Gs b},g∈a->bI (gD a) (kj g.1)≠hV
 | x::a,h,c=>by
   rw[show gD _=(kj x.1,V.ref _)::gD a from rfl]at c;by_cases e:x.1=g.1
   .rw[eN (vj kj e)]at c;cases c
   .rw[di (λq=>e (MW q))]at c;rcases X2.mp h with q|q
    .show e (by rw[q])
    .show iV q c
abbrev oh(H:Hp)(a:ZG):Prop:=∀g∈a,H g.1<*g.2\3
def oh.up{H a:Hp}{b:hH _}(h:oh H b)(s:ah H a):oh a b:=λg c=>s _ _ (h g c)
structure jc {α:Type} (f:α->V) (H0 H:Hp) (d:jg) (gs:Gs α):Prop where
 at_:H d∣.dK (gD gs)
 la:∀g∈gs,H0 g.2.1=hV/\H g.2.1<*g.2.2.map f
 nd:(gs.map (·.2.1)).Nodup
def GU{f:Type}{c:Gs f}(d:(c\1).Nodup){g h:ku×jg×hH f}(i:g∈c)(j:h∈c)(e:g.1=h.1):g=h:=by
 induction c with
 | nil=>cases i
 | cons x xs l=>
   rw[Yw,Mw]at d;rcases X2.mp i with a|a<;> rcases X2.mp j with b|b
   .rw[a,b]
   .show(d.1 (by rw[<-a,e];show Xx %[_,b|rfl])).elim
   .show(d.1 (by rw[<-b,<-e];show Xx %[_,a|rfl])).elim
   .show l d.2 a b
def EO{f:Type}{c:Gs f}(d:(c.map (·.2.1)).Nodup){g h:ku×jg×hH f}(i:g∈c)(j:h∈c)(e:g.2.1=h.2.1):g=h:=by
 induction c with
 | nil=>cases i
 | cons x xs l=>
   rw[Yw,Mw]at d;rcases X2.mp i with a|a<;> rcases X2.mp j with b|b
   .rw[a,b]
   .show(d.1 (by rw[<-a,e];show Xx %[_,b|rfl])).elim
   .show(d.1 (by rw[<-b,<-e];show Xx %[_,a|rfl])).elim
   .show l d.2 a b
abbrev mS{a:Type}(y:ku)(z:a)(b:Gs a):Gs a:=b.map λg=>if g.1=y then(g.1,g.2.1,g.2.2++[z])else g
def Kb(y:ku)(z:b)(a:Gs b):gD (mS y z a)=gD a:=by
 unfold mS gD;rw[Yx];show Yv λg _=>?_
 change(kj (if g.1=y then(g.1,g.2.1,g.2.2++[z])else g).1,V.ref (if g.1=y then(g.1,g.2.1,g.2.2++[z])else g).2.1)=_
 split<;> rfl
def Kc(y:ku)(z:b)(a:Gs b):(mS y z a).map (·.2.1)=a.map (·.2.1):=by
 unfold mS;rw[Yx];show Yv λg _=>?_
 change(if g.1=y then(g.1,g.2.1,g.2.2++[z])else g).2.1=_
 split<;> rfl
def Kd(y:ku)(z:b)(a:Gs b):(mS y z a).map (λg=>(g.1,g.2.2))=(a.map λg=>(g.1,g.2.2)).map λp=>if p.1=y then(p.1,p.2++[z])else p:=by
 unfold mS;rw[Yx,Yx];show Yv λg _=>?_
 change((if g.1=y then(g.1,g.2.1,g.2.2++[z])else g).1,(if g.1=y then(g.1,g.2.1,g.2.2++[z])else g).2.2)=if g.1=y then(g.1,g.2.2++[z])else(g.1,g.2.2)
 split<;> rfl
def jc.up{a:Type}{f:a->V}{b H c:Hp}{d:jg}{e:Gs a}(h:jc f b H d e)(s:ah H c):jc f b c d e:=%[s _ _ h.at_,λg i=>%[(h.la g i).1|s _ _ (h.la g i).2]|h.nd]
def jc.add{a:Type}{f:a->V}{l H:Hp}{d:jg}{b:Gs a}(h:jc f l H d b)(m:(b\1).Nodup){g:ku×jg×hH a}(c:g∈b)(z:a):jc f l (Qa H g.2.1 (.lst (g.2.2.map f++[f z]))) d (mS g.1 z b):=by
 show%[?_,λo j=>?_|by rw[Kc];show h.nd]
 .rw[Kb,ap (λe=>by let:=(h.la g c).2;rw[<-e,h.at_]at this;cases this)];show h.at_
 .let%[n,i|rfl]:=Xw j;by_cases e:n.1=g.1
  .rw[ix e];obtain rfl:=GU m i c e;show%[(h.la _ c).1|?_];rw[aa,Zd];rfl
  .rw[ij e];show%[(h.la _ i).1|?_];rw[ap (λq=>e (by rw[EO h.nd i c q]))];show(h.la _ i).2
def jc.new{l:Gs n}(h:jc f m H d l)(s:ah m H)(j:H e=hV)(y:ku)(z:n)(o:y∉l\1):jc f m (Qa (Qa (Qa H e (.lst [])) d (.dK (db (gD l) (kj y) (.ref e)))) e (.lst [f z])) d (l++[(y,e,[z])]):=by
 show%[?_,λg i=>?_|?_]
 .rw[ap (λq=>by rw[<-q,h.at_]at j;cases j),aa,dW _ (mo o)];unfold gD;rw[Zd];rfl
 .rcases Xu i with i|i
  .show%[(h.la g i).1|?_];let q:=(h.la g i).2;rw[ap (λc=>by rw[c,j]at q;cases q),ap (λc=>by rw[c,h.at_]at q;cases q),ap (λc=>by rw[c,j]at q;cases q)];show q
  .rw[Xv i];show%[s.free j|aa]
 .rw[Zd,X8];show%[h.nd,by simp|λa p b r c=>?_];let%[g,i|rfl]:=Xw p;let q:=(h.la g i).2
  simp_all
inductive Ag (mg:ZC)
 | mk (g c2 c3 c4 qs ls ts):vs=[.ref g]->GrF mg H g c2 c3 c4 qs ls ts->ls.Nodup->ls.Pairwise (λa b=>aM b a=hX)-> ~~~ls<=5000->(∀l H' ss,ah H H'->H l=hV->H' l∣.lst (ss\0)->oh H' ss->(∀s∈ss,H s.1=hV)->Af (bg qs) ls (ss\2)-> ~~~ss<=5000->Q (.ref l) H')->Ag mg vs H Q E0
inductive Ke (mg:ZC)
 | mk (g c2 c3 c4 qs ls ts z):vs=[.ref g,.str z]->GrF mg H g c2 c3 c4 qs ls ts->ls.Nodup->ls.Pairwise (λa b=>aM b a=hX)-> ~~~ls<=5000->z∈ls->(∀H' m,ah H H'->cL (bg qs) z m->Q (.str m) H')->Ke mg vs H Q E0
def za(T:Txt K mg):↥4 "deposits" ["ground"] (Ag mg):=by
 .exists T.aD,gN,bc,I,%[g,c2,c3,c4,qs,n,ts,rfl,hg,nd,so,as|kk];let lm: ~~~(n\3)= ~~~n:=Z6 _;show%[_,%["KCG1H~5A0BCG2zCQT_~t0J3DY~vm~w~x2AX13ARBBA3BDI*]uA~6~72B",gN.nd|I]|?_]
  change aS _ _ _ [!g,hV,hV,hV] H;show aj λD1 k1 _=>?_
  lk;show%[g,c2,c3,c4,qs,n,ts,ρ,hg,nd,so,as|λd H1 r s1 fd J I=>k1 _ _ (aj λD2 k2 _=>?_)];lk;intro e fe;show k2 _ _ (aj λD3 k3 _=>ay λbb hK=>?_);let a0:d≠e:=λc=>by rw[c,fe]at J;cases J
  let s2:=ah.Qa (o:= .dK []) fe;let ge:Qa H1 e (.dK []) e∣.dK (gD ([]:Gs ku)):=aa;let J:=s2 _ _ J;let fe:=s1.free fe;let Y:=s1.trans s2
  generalize Qa H1 e _=H2 at s2 ge J Y
  lk;let ac:=hg.up Y;show qh ac (.inl rfl) %[g,c2,c3,c4,qs,n,ts,rfl,ac|λl1 a1=>%[%[_|Qb.of aa]|hK _ _ ?_]];let s3:=ah.Qa (o:= .lst (n\3)) a1;let L:=own s3;let J:=s3 _ _ J;let ge:=s3 _ _ ge;let ae:=Y.trans s3
  generalize Qa H2 l1 _=H3 at s3 L J ge ae
  let r2:∀z∈n,r (r z)=r z:=λz M=>by
   let h:=(I z M)
   let h2:=(I _ h.1).2;show h2.one %[.refl _|λy c=>h.2.2 y (h.2.1.trans c)]
  let ag:∀z∈n,r z≠z->aM (r z) z=hW:=λz M h=>fG ((I z M).2.2 z (.refl _)) h.symm
  obtain⟨N,a2,a3,a4,ab,s0⟩:∃N:Hp,N e=hV/\N d∣.dK (NmD n r)/\N l1<*n\3/\ah H N/\ah N H3:=by
   show%[λa=>if a=e then hV else H3 a,ix rfl,?_,?_,λa o h=>?_|λa o h=>?_]
   .show(ij (λc=>a0 c)).trans J
   .show(ij (λc=>by rw[c,ge]at L;cases L)).trans L
   .show(ij (λc=>by rw[c,fe]at h;cases h)).trans (ae _ _ h)
   .let h:(if a=e then hV else H3 a)∣o:=h
    split at h
    .cases h
    .show h
  show bA (λi σ H'=>A3 (∃o3,σ=[!g,!d,!e,o3]) (ah N H') (∃B,jc V.str N H' e B/\B.map (λg=>(g.1,g.2.2))=grp r (n.take i)))
   %[%[_|rfl],s0,[],%[ge,λg hg=>(nomatch hg)|Xa]|rfl] (λi σ H' h=>h.2 _ _ a4) ?_ ?_
  .intro i z σ H' M %[%[o3|rfl],O,B,b|u];let zm:=Z8 M;let i1:i< ~~~n:=(Xt M).1;change mV _ _ [!g,!d,!e,-z] H';show az λD4 k4 _=>?_
   lk;let get:=cu.k (k:=kj z) (O _ _ a3);rw[kJ zm]at get;let gk:B\1=(grp r (n.take i))\1:=by rw[<-u,Yx];rfl
   let al:(B\1).Nodup:=by rw[gk];show mR (nd.sublist (QY _ _))
   let gl: ~~~B<= ~~~n:=by
    let:=_ST.nodup_sub al (m:=n) λy hy=>by rw[gk,jS]at hy;show X3 hy.1
    rw[Z6]at this;show this
   let zn:z∉n.take i:=λhm=>by
    let h:=nd;rw[<-Xh i n,X8]at h;show h.2.2 z hm z (Z8 (i:=0) (by rw[Ye];show M)) rfl
   let tk:n.take (i+1)=n.take i++[z]:=by rw[Xg,M];rfl
   show%[tyD (b.at_),_,get,#[0]|λp U=>%[kj (r z),ρ,gD B,?_,?_,λv hv=>?_|λhv=>?_]]
   .rw[ap (λc=>by rw[<-c,b.at_]at U;cases U)];show b.at_
   .unfold gD;rw[Z6];show aC ⋯
   .let%[q,C,e1|rfl]:=fo hv;let a5:q.1∈B\1:=Xx %[q,C|rfl];let an:=a5;rw[gk,jS,e1]at an;let rn:r z≠z:=λc=>zn (by show c▸an.1)
    let sp:=ah.Qa (o:= .lst []) U;let hl:=sp _ _ (b.la q C).2;let G:=(b.up sp).add al C z;let ml: ~~~q.2.2<= ~~~n:=by
     let:(q.1,q.2.2)∈grp r (n.take i):=u▸Xx %[q,C|rfl];let%[y,hy|c]:=Xw this;show((Prod.mk.inj c).2)▸Ym (Yo _ _) (by rw[Yr];lia)
    show%[tyL (Qb.of hl),_,hl,by rw[Z6];show aC ⋯|k4 _ _ %[%[_|ρ],ah.set (O.trans sp) (b.la q C).1,_,G|?_]];rw[Kd,u,tk,GT rn,e1]
   .let nk:r z∉B\1:=λh=>by
     let%[q,C|c]:=Xw h;let:=iV C;rw[c,hv]at this;show this rfl
    let rz:r z=z:=MN λc=>nk (by rw[gk,jS];show%[iU so M (I z zm).1 (ag z zm c)|r2 z zm])
    let de:e≠p:=λq=>by rw[<-q,b.at_]at U;cases U
    rw[rz]at hv nk ⊢;let gp:Qa (Qa H' p (.lst [])) e (.dK (db (gD B) (kj z) (.ref p))) p<*[]:=by rw[ap de.symm,aa]
    show%[tyL (Qb.of gp),[],gp,(show 0<lp by decide)|k4 _ _ %[%[_|ρ],ah.set (ah.set (O.trans (ah.Qa U)) a2) (O.free U),_,b.new O U z z nk|?_]];rw[Zd,u,tk,GS rz zn λx hx=>?_]
    .rfl
    .let%[j|hj]:=hH.mem_iff_getElem?.mp hx;let xm:=X3 hx;by_cases c:r x=x
     .rw[c];show hx
     .let ji:j<i:=by let:=(Xt hj).1;rw[Yr]at this;lia
      rw[Yg ji]at hj;show hH.take_subset_take_left _ (Yk ji) (iU so hj (I x xm).1 (ag x xm c))
  intro σ H' %[%[o3|rfl],O,B,b|u];rw[Zn (Zi _)]at u;show k3 _ _ ?_;lk;let gk:B\1=(grp r n)\1:=by rw[<-u,Yx];rfl
  let gl: ~~~B<= ~~~n:=by
   let:=_ST.nodup_sub (l:=B\1) (gk▸mR nd) (m:=n) λy hy=>by rw[gk,jS]at hy;show hy.1
   rw[Z6]at this;show this
  show%[tyD (b.at_),%[_|b.at_]|λv fv=>%[e,aa,_,ah.Qa fv _ _ b.at_|λl fl=>?_]];let sv:=ah.Qa (o:=lA v e) fv;let sl:=ah.Qa (o:= .lst ((gD B)\2)) fl;let a6:=O.trans (sv.trans sl);show kk l _ (B\2) (ab.trans a6) ((ab.trans (O.trans sv)).free fl) ?_ (λs hs=>?_) (λs hs=>?_) %[r,I|?_] (by rw[Z6];lia)
  .rw[aa];unfold gD;rw[Yx,Yx];rfl
  .let%[q,C|rfl]:=Xw hs;show sl _ _ (sv _ _ (b.la q C).2)
  .let%[q,C|rfl]:=Xw hs;show ab.free (b.la q C).1
  .rw[<-u,Yx,Yx];rfl
abbrev GrB(H:Hp)(d:jg)(ss:ZG)(i:iv):Prop:=∃a,H d∣.dK a/\∀n,(∃l,bI a (kj n)∣.ref l/\H l∣.lst ((ss.filter λt=>decide (t.2[i]? =hY n))\0))\/(bI a (kj n)=hV/\∀t∈ss,t.2[i]? ≠hY n)
def GrB.up(h:GrB H d ss i)(s:ah H e):GrB e d ss i:=by
 let%[c,f|g]:=h;show%[c,s _ _ f|λn=>(g n).imp_left λ⟨l,a,b⟩=>%[l,a|s _ _ b]]
abbrev dh(H:Hp)(a:ZB)(ss:ZG):Prop:=∀t∈ss,H t.1&&&t.2\3/\dI a t.2
def dh.up(h:dh H b ss)(s:ah H c):dh c b ss:=λt a=>%[s _ _ (h t a).1|(h t a).2]
def Kf(h:dI c k)(hi:i<2):∃n,k[i]?∣n/\n∈c:=by
 let%[a,b,z,rfl,d|e]:=h
 match i,hi with
 | 0,_=>show%[a,ρ|d]
 | 1,_=>show%[b,ρ|e]
abbrev TxD(H:Hp)(d:jg):Prop:=∀a,H d∣.dK a->∃ks:ZB,a\1=ks.map kj/\ks.Nodup
inductive qi
 | mk (l:jg) (i:iv) (ns:ZB) (ss:ZG):vs=[.ref l,.int i]->i<2->H l∣.lst (ss\0)->dh H ns ss-> ~~~ss<=250->(∀d H',ah H H'->H d=hV->GrB H' d ss i->TxD H' d->Q (.ref d) H')->qi vs H Q E0
inductive EQ
 | mk (l:jg) (ns:ZB) (ss:ZG):vs=[.ref l]->H l∣.lst (ss\0)->dh H ns ss-> ~~~ss<=250->(∀d H',ah H H'->H d=hV->GrB H' d ss 0->TxD H' d->Q (.ref d) H')->EQ vs H Q E0
inductive ER
 | mk (l:jg) (ns:ZB) (ss:ZG):vs=[.ref l]->H l∣.lst (ss\0)->dh H ns ss-> ~~~ss<=250->(∀d H' o kvs,ah H H'->H' d∣.frz o (.dK kvs)->(∃ks:ZB,kvs\1=ks.map kj/\ks.Nodup)->(∀n:ku,(∃l,bI kvs (kj n)∣.ref l/\H' l∣.lst ((ss.filter λt=>decide (t.2[0]? =hY n))\0))\/(bI kvs (kj n)=hV/\∀t∈ss,t.2[0]? ≠hY n))->Q (.ref d) H')->ER vs H Q E0
inductive ES (i:iv)
 | mk (l ns ss):vs=[.ref l]->H l∣.lst (ss\0)->dh H ns ss-> ~~~ss<=250->(∀d H',ah H H'->H d=hV->GrB H' d ss i->Q (.ref d) H')->ES i vs H Q E0
def tU(T:Txt K mg):↥1 "grouped" ["found","side"] qi:=by
 .exists T.aJ,kD,ag,hr,%[l,i,ns,ss,rfl,hi,Y,ab,al|kk];let an: ~~~(ss\0)= ~~~ss:=Z6 _;show%[_,%["KCG2zCQT0J3DY~vm~w~x2AU31ARBBA3BDI2"|kD.nd]|?_]
  change aS _ _ _ [!l,hY (.int i),hV,hV] H;show aj λD1 k1 _=>?_
  lk;intro e fe;show k1 _ _ (aj λD2 k2 _=>ay λae hK=>?_);lk;let se:=ah.Qa (o:= .dK []) fe;show%[%[_|Qb.of (se _ _ Y)]|hK _ _ ?_];show bA (λj σ u=>A3 (∃o3,σ=[!l,hY (.int i),!e,o3]) (ah H u) (∃m,A4 (jc (λt:jg×ZB=>V.ref t.1) H u e m) ((m\1).Nodup) (∀g∈m,g.2.2=(ss.take j).filter λt=>decide (t.2[i]?∣g.1)) (∀n,n∈m\1↔∃t∈ss.take j,t.2[i]?∣n)))
   %[%[_|rfl],se,[],%[aa,λg B=>(nomatch B)|Xa],Xa,λg B=>(nomatch B)|by simp] (λj σ u h=>h.2 _ _ Y) ?_ ?_
  .intro j t σ u G %[%[o3|rfl],I,m,d,N,J|O];let tm:=Z8 G;let j1:j< ~~~ss:=(Xt G).1;let%[n,L|_]:=Kf (ab t tm).2 hi;let tk:ss.take (j+1)=ss.take j++[t]:=by rw[Xg,G];rfl
   change mV _ _ [!l,hY (.int i),!e,hY (.ref t.1)] u;show az λD4 k4 _=>?_
   lk;let gl: ~~~m<= ~~~ss:=by
    let:m\1 ⊆ ss.filterMap λt=>t.2[i]? :=λy hy=>by
     let%[t,G|e]:=(O y).mp hy;show Mg.mpr %[t,X3 G|e]
    let:=_ST.nodup_sub N λx hx=>this hx
    rw[Z6]at this;show Ym this (NL _ _)
   let st:=I _ _ (ab t tm).1;let keys:∀(M:Gs (jg×ZB)),(∀y,y∈M\1↔y∈m\1\/y=n)->∀y,y∈M\1↔∃t∈ss.take (j+1),t.2[i]?∣y:=λM h y=>by
    rw[h,O,tk]
    constructor
    .rintro(⟨t',h1,h2⟩|rfl)
     .show%[t',Yz _ h1|h2]
     .show%[t,X1 _ Zm|L]
    .rintro⟨t',h1,h2⟩;rcases Xu h1 with q|q
     .show .inl %[t',q|h2]
     .rw[Xv q,L]at h2;show .inr (Za h2).symm
   show%[tyD (d.at_),_,SqT.of st,_,cS (show(t.2\3)[i]?∣.str n by rw[Zl,L];rfl),#[0]|λp C=>%[kj n,ρ,gD m,?_,?_,λv U=>?_|λU=>?_]]
   .rw[ap (λc=>by rw[<-c,d.at_]at C;cases C)];show d.at_
   .unfold gD;rw[Z6];show aC ⋯
   .let%[q,r,e1|rfl]:=fo U;let sp:=ah.Qa (o:= .lst []) C;let Y:=sp _ _ (d.la q r).2;let ml: ~~~q.2.2<= ~~~ss:=by
     rw[J q r];show Ym (Yo _ _) (by rw[Yr];lia)
    let ka:(mS q.1 t m)\1=m\1:=by
     unfold mS;rw[Yx];show Yv λg _=>?_
     change(if g.1=q.1 then(g.1,g.2.1,g.2.2++[t])else g).1=_
     split<;> rfl
    show%[tyL (Qb.of Y),_,Y,by rw[Z6];show aC ⋯|k4 _ _ %[%[_|ρ],ah.set (I.trans sp) (d.la q r).1,_,((d.up sp).add N r t),ka▸N,λg B=>?_|keys _ λy=>?_]]
    .unfold mS at B;let%[g0,h0|rfl]:=Xw B;rw[tk,Y6];by_cases c:g0.1=q.1
     .rw[ix c];change g0.2.2++[t]=_++Nu (λt=>decide (t.2[i]?∣g0.1)) [t];rw[J g0 h0,Y9 (by rw[L,c,e1];simp),Ya]
     .rw[ij c,J g0 h0,Y8 (by rw[L,<-e1];simpa using λz=>c z.symm),Ya,Zz]
    .rw[ka];show%[.inl|λh=>h.elim id λh=>by rw[h,<-e1];show Xx %[q,r|ρ]]
   .let nk:n∉m\1:=λh=>by
     let%[q,r|c]:=Xw h;let:=iV r;rw[c,U]at this;show this rfl
    let de:e≠p:=λq=>by rw[<-q,d.at_]at C;cases C
    let gp:Qa (Qa u p (.lst [])) e (.dK (db (gD m) (kj n) (.ref p))) p<*[]:=by rw[ap de.symm,aa]
    show%[tyL (Qb.of gp),[],gp,(show 0<lp by decide)|k4 _ _ %[%[_|ρ],ah.set (ah.set (I.trans (ah.Qa C)) fe) (I.free C),_,d.new I C n t nk,?_,λg B=>?_|keys _ λy=>?_]]
    .rw[Zd,X8];show%[N,by simp|λa ha b hb c=>nk (by rw[<-show b=n from Xv hb,<-c];show ha)]
    .rw[tk,Y6];rcases Xu B with q|q
     .let c:g.1≠n:=λc=>nk (c▸Xx %[g,q|rfl])
      rw[J g q,Y8 (by rw[L];simpa using λz=>c z.symm),Ya,Zz]
     .rw[Xv q];change [t]=_++Nu (λt=>decide (t.2[i]?∣n)) [t];rw[Y9 (by rw[L];simp),Ya,Oj.mpr λt' ac c=>nk ((O n).mpr %[t',ac|Zo c])];rfl
    .rw[Zd,Yy,Yw,QR,X4]
  .intro σ u %[%[o3|rfl],I,m,d,N,J|O];rw[Zn (Zi _)]at J O;show k2 _ _ ?_;lk;show kk e u I fe %[_,d.at_|λn=>?_] λas h=>by rw[d.at_]at h;cases h;show%[m\1,by unfold gD;rw[Yx,Yx];rfl|N]
   cases U:bI (gD m) (kj n)with
   | none=>
     show .inr %[rfl|λt G c=>?_];let%[q,r|c]:=Xw ((O n).mpr %[t,G|c]);let:=iV r;rw[c,U]at this;show this rfl
   | some v=>
     let%[q,r,e1|rfl]:=fo U;show .inl %[_,rfl|?_];rw[(d.la q r).2,J q r,e1]
def gU(T:Txt K mg):↥2 "links_by_later" ["found"] EQ:=by
 .exists T.aH,lF,d,e,%[l,c,ss,rfl,g,a,b|i];show%[_,%["KDIH~8A0A|B",0|e],l,0,c,ss,ρ,by simp,g,a,b|i]
def bW(T:Txt K mg):↥2 "links_by_later" ["found"] (ES 0):=
 (gU T).imp λvs H Q E ⟨l,e,ss,f,g,h,i,j⟩=>%[l,e,ss,f,g,h,i|λd m a b c _=>j d m a b c]
def mr(T:Txt K mg):↥2 "links_by_later" ["found"] ER:=
 (gU T).freeze.imp λvs H Q E ⟨l,i,ss,j,m,p,q,r⟩=>%[l,i,ss,j,m,p,q|λd A s u ⟨a,b,g⟩ v=>%[[d]|λy=>r d _ (y d) a (λc o e=>(lE (λh=>by rw[Xv h,u]at e;cases e)).trans (s _ _ e)) (lD Zm b) (v a b) λn=>(g n).imp_left λ⟨l,z,f⟩=>%[l,z|(gJ λa c=>by rw[f]at c;cases c).trans f]]]
def kK(T:Txt K mg):↥2 "links_by_earlier" ["found"] (ES 1):=by
 .exists T.aI,jV,j,m,%[l,i,ss,rfl,n,e,g|o];show%[_,%["KDIH~8A0A}B",0|m],l,1,i,ss,ρ,by simp,n,e,g|λd p a b c _=>o d p a b c]
structure ReB (ss:ZG) (rs:Gs ku):Prop where
 nd:(rs\1).Nodup
 sub:∀r∈rs,r.2∈ss/\r.2.2[1]?∣r.1
def ReB.len(h:ReB ss rs): ~~~rs<= ~~~ss:=by
 let:=_ST.nodup_sub h.nd (m:=ss.filterMap λt=>t.2[1]?) λx a=>by
  let%[r,b|rfl]:=Xw a;show Mg.mpr %[r.2|h.sub r b]
 rw[Z6]at this;show Ym this (NL _ _)
def ReB.snoc(h:ReB ss rs)(d:(a,[p,y,z])∈ss)(e:y∉rs\1):ReB ss (rs++[(y,a,[p,y,z])]):=by
 show%[?_|λr f=>?_]
 .rw[Zd,X8];show%[h.nd,by simp|λa g b i c=>e (by rw[<-show b=y from Xv i,<-c];show g)]
 .rcases Xu f with q|q
  .show h.sub r q
  .rw[Xv q];show%[d|ρ]
abbrev dJ(d:jg)(H a:Hp):Prop:=∀b o,b≠d->H b∣o->a b∣o
def dJ.trans(h:dJ d H c)(g:dJ d c a):dJ d H a:=λb o n e=>g b o n (h b o n e)
def dJ.of(h:ah H a):dJ d H a:=λb o _ e=>h b o e
def GrB.x(h:GrB H b ss i)(s:dJ d H f)(n:b≠d)(m:H d∣.dK o):GrB f b ss i:=by
 let%[e,g|j]:=h;show%[e,s _ _ n g|λn=>(j n).imp_left λ⟨l,a,b⟩=>%[l,a|s _ _ (λc=>by lia) b]]
def dh.x(h:dh H e ss)(s:dJ d H f)(g:H d∣.dK i):dh f e ss:=λt a=>%[s _ _ (λc=>by let b:=(h t a).1;grind) (h t a).1|(h t a).2]
def GrB.get(h:GrB f b ss i)(s:dJ d f H)(nb:b≠d)(q:∀xs,f d≠hY (.lst xs))(r:H p=hV)(n:ku):∃e a,Qa H p (.lst []) b∣.dK e/\(bI e (kj n)).getD (.ref p)= .ref a/\Qa H p (.lst []) a∣.lst ((ss.filter λt=>decide (t.2[i]? =hY n))\0)/\(a=p\/∃o,f a∣o):=by
 let%[e,m|u]:=h;let sp:=ah.Qa (o:= .lst []) r;rcases u n with⟨l,g,j⟩|⟨g,v⟩
 .show%[e,l,sp _ _ (s _ _ nb m),by rw[g];rfl,sp _ _ (s _ _ (λc=>q _ (c▸j)) j)|.inr %[_|j]]
 .show%[e,p,sp _ _ (s _ _ nb m),by rw[g];rfl,?_|.inl rfl];rw[Oj.mpr λt y c=>v t y (Zo c)];show aa
inductive Ah
 | mk (b e d:jg) (ns F:ZB) (ss:hH _) (rs:Gs ku):vs=[.ref b,.ref e,.ref d]->b≠d->GrB H b ss 0->dh H ns ss-> ~~~ss<=250->H e<*F\3->H d∣.dK (gD rs)->ReB ss rs->(∀g H' new,dJ d H H'->H g=hV->H' g<*(new\1)\3->H' d∣.dK (gD (rs++new))->ReB ss (rs++new)->(∀r∈new,∃p∈F,r.2.2[0]?∣p)->(∀x∈F,∀y,Ed (ss\2) x y->y∈(rs++new)\1)->Q (.ref g) H')->Ah vs H Q E0
def xj(T:Txt K mg):↥1 "next_edge" ["beneath","edge","reached"] Ah:=by
 .exists T.aM,eZ,bm,hr,%[b,e,d,ns,F,ss,rs,rfl,al,hb,an,bt,he,hd,a6|kk];let Fm: ~~~(F\3)= ~~~F:=Z6 _;let ed:e≠d:=λc=>by rw[c,hd]at he;cases he
  show%[_,%["KCG3RBCQT1J4DQT~K~L0A4ARBBJ5DN~MU5}2Cr52U5}DYom3AU5}BODI3",eZ.nd|hr]|?_]
  change aS _ _ _ [!b,!e,!d,hV,hV,hV] H;show aj λD1 k1 _=>?_
  lk;show%[#[0]|λg fg=>k1 _ _ (aj λD2 k2 _=>ay λas hK=>?_)];let gd:g≠d:=λc=>by rw[c,hd]at fg;cases fg
  let s1:=ah.Qa (o:= .lst []) fg;let gg:Qa H g (.lst []) g<*(([]:Gs ku)\1)\3:=aa
  generalize Qa H g _=H1 at s1 gg
  lk;show%[%[_|Qb.of (s1 _ _ he)]|hK _ _ ?_];show bA (λi U Y=>A3 (E2 λo4 o5=>U=[!b,!e,!d,!g,o4,o5]) (dJ d H Y) (∃new:Gs ku,A5 (Y g<*(new\1)\3) (Y d∣.dK (gD (rs++new))) (ReB ss (rs++new)) (∀r∈new,∃p∈F,r.2.2[0]?∣p) (∀x∈F.take i,∀y,Ed (ss\2) x y->y∈(rs++new)\1)))
   %[%[_,_|rfl],dJ.of s1,[],gg,by rw[Zz];show s1 _ _ hd,by rw[Zz];show a6,λr hr=>(nomatch hr)|λx hx=>(nomatch hx)] (λi U Y h=>h.2 _ _ ed he) ?_ ?_
  .intro i n U Y hn %[%[o4,o5|rfl],sm,new,hg,l,J,ae|m];let tk:F.take (i+1)=F.take i++[n]:=by rw[Xg,hn];rfl
   change vK _ _ _ _ [!b,!e,!d,!g,-n,o5] Y;show az λD3 k3 _=>ay λas hK=>?_
   lk;show%[tyD (sm _ _ al hb.choose_spec.1),#[0]|λp hp=>?_];let%[bb,a,a0,bc,L|be]:=hb.get sm al (λxs c=>by rw[hd]at c;cases c) hp n;let ag:a≠g:=by
    rcases be with rfl|⟨o,ho⟩
    .show λc=>by rw[c,hg]at hp;cases hp
    .show λc=>by rw[c,fg]at ho;cases ho
   let ad:a≠d:=λc=>by
    let:=L;rw[c,ap (λc=>by rw[c,hp]at l;cases l),l]at this;cases this
   let sp:=ah.Qa (o:= .lst []) hp;let hg:=sp _ _ hg;let l:=sp _ _ l;let sm:=sm.trans (dJ.of sp)
   generalize Qa Y p _=H2 at a0 L sp hg l sm ⊢
   generalize a1:(ss.filter λt=>decide (t.2[0]?∣n))=ts at L
   let tm: ~~~(ts\0)= ~~~ts:=Z6 _;let bf:∀t∈ts,t∈ss/\∃y z,t.2=[n,y,z]:=λt ht=>by
    rw[<-a1]at ht;let%[h1|h2]:=ow.mp ht;let%[x,y,z,e|_]:=(an t h1).2;let h2:=Zo h2;rw[e]at h2;show%[h1,y,z|by rw[e,show x=n from Za h2]]
   show%[kj n,ρ,bb,a0|u5 bc %[%[_|Qb.of L]|hK _ _ ?_]];show bA (λj U O=>A4 (∃o5,U=[!b,!e,!d,!g,-n,o5]) (dJ d H O) (O a∣.lst (ts\0)) (∃new:Gs ku,A6 (O g<*(new\1)\3) (O d∣.dK (gD (rs++new))) (ReB ss (rs++new)) (∀r∈new,∃p∈F,r.2.2[0]?∣p) (∀x∈F.take i,∀y,Ed (ss\2) x y->y∈(rs++new)\1) (∀t∈ts.take j,∀y,t.2[1]?∣y->y∈(rs++new)\1)))
    %[%[_|rfl],sm,L,new,hg,l,J,ae,m|λt ht=>(nomatch ht)] (λj U O h=>h.3) ?_ ?_
   .intro j t U O ht %[%[o5|rfl],M,N,new,ab,G,B,C,u|ac];let%[a2,y,z|et]:=bf t (Z8 ht);let I:=(an.x M hd t a2).1;rw[et]at I;let bl:ts.take (j+1)=ts.take j++[t]:=by rw[Xg,ht];rfl
    change kN _ _ _ _ [!b,!e,!d,!g,-n,hY (.ref t.1)] O;show az λD4 k4 _=>?_
    lk;show%[_,SqT.of I,_,ρ,_,cu.k (k:=kj y) G|?_];let a3:∀(nw:Gs ku),(∀x∈(rs++new)\1,x∈(rs++nw)\1)->y∈(rs++nw)\1->(∀x∈F.take i,∀y,Ed (ss\2) x y->y∈(rs++nw)\1)/\∀t∈ts.take (j+1),∀y,t.2[1]?∣y->y∈(rs++nw)\1:=λnw mono hy=>by
     show%[λx hx y h=>mono y (u x hx y h)|λt' a4 y' h=>?_];rw[bl]at a4;rcases Xu a4 with q|q
     .show mono y' (ac t' q y' h)
     .rw[Xv q,et]at h;rw[<-show y=y' from Za h];show hy
    cases hv:bI (gD (rs++new)) (kj y)with
    | some v=>
      rw[ij ∅];let%[q,hq,e1|_]:=fo hv;let%[n1|n2]:=a3 new (λ_ h=>h) (by rw[<-e1];show Xx %[q,hq|rfl]);show k4 _ _ %[%[_|rfl],M,N,new,ab,G,B,C,n1|n2]
    | none=>
      rw[ix (by rfl)];let hy:y∉(rs++new)\1:=λh=>by
       let%[q,hq|c]:=Xw h;let:=iV hq;rw[c,hv]at this;show this rfl
      let ln:=B.len;let nl: ~~~new<=250:=by rw[Z9]at ln;lia
      show%[_,SqT.of I,_,ρ,_,fM.k (k:=kj y) G (by unfold gD;rw[Z6];show aC ⋯)|?_];rw[dW _ hv];let e1:gD (rs++new) ++[(kj y,V.ref t.1)]=gD (rs++(new++[(y,t.1,[n,y,z])])):=by
       unfold gD;rw[<-Ze,Zd (l₂:=[_])];rfl
      rw[e1];let u1:∀c o,c≠d->O c∣o->Qa O d (.dK (gD (rs++(new++[(y,t.1,[n,y,z])])))) c∣o:=λc o h e=>(ap h)▸e
      let a5:=u1 _ _ gd ab;let R:=B.snoc (p:=n) (y:=y) (z:=z) (a:=t.1) (et▸a2) hy;rw[Ze]at R;let%[n1|n2]:=a3 (new++[(y,t.1,[n,y,z])]) (λx hx=>by rw[<-Ze,Zd];show Yz _ hx) (by rw[<-Ze,Zd];show X1 _ Zm);show%[tyL (Qb.of a5),_,SqT.of (u1 _ _ (λc=>by rw[c,G]at I;cases I) I),_,ρ,_,a5,by rw[Z6,Z6];show aC ⋯|k4 _ _ %[%[_|ρ],λc o h e=>?_,(ap ag).trans (u1 _ _ ad N),_,?_,(ap gd.symm).trans aa,R,?_,n1|n2]]
      .rw[ap (av e fg)];show u1 _ _ h (M _ _ h e)
      .rw[aa,Zd,Zd];rfl
      .intro r hr;rcases Xu hr with q|q
       .show C r q
       .rw[Xv q];show%[n,Z8 hn|ρ]
   .intro U O %[%[o5|rfl],M,N,new,ab,G,B,C,u|ac];rw[Zn (Zi _)]at ac;show k3 _ _ %[%[_,_|rfl],M,new,ab,G,B,C|λx hx y ⟨z,hy⟩=>?_];rw[tk]at hx;rcases Xu hx with q|q
    .show u x q y %[z|hy]
    .rw[Xv q]at hy;let%[t,ht|et]:=Xw hy;show ac t (a1▸ow.mpr %[ht|by rw[et];simp]) y (by rw[et];rfl)
  .intro U Y %[%[o4,o5|rfl],sm,new,hg,l,J,ae|m];rw[Zn (Zi _)]at m;show k2 _ _ ?_;lk;show kk g Y new sm fg hg l J ae m
inductive Ai (K:ZA)
 | mk (a:jg) (ns:ZL):vs=[.ref a]->Qb K H a (ns\4)->(∀(t l1 l2:jg) H' (cs:ZH) (rs:hH (ku×ri)),ah H H'->H' t<*[.ref l1,.ref l2]->H l1=hV->H' l1<*cC cs->H' l2∣.dK (rkD rs)->1<= ~~~cs-> ~~~cs<=3->cB H' cs->(cs.map (·.2.1)).Nodup->xc cs rs->Q (.ref t) H')->Ai K vs H Q E0
def zb(T:Txt K mg):↥3 "_law_cuts" ["_law_script"] (Ai K):=by
 .exists T.bo,cQ,cp,U,%[a,ns,rfl,hs|kk];show%[_,%["KCG1H~XA0AEAEAEBCG2RBCG3zCQ'AFVEFWS1EEBJ4CG5F&SRAZAZAZBFWS1EE[ZFWFVS1EFtE4ECG6H]vAH~XA0AFVE4AEAEBAS1FVE4BCNj.M)4E/M)FWF>H~DA0AEBEEEDG6H]wAH~XA0AEAEAEBAS1EBOCYom2AfA5A~O~PZA6BBBDY~9]A3AH]xA5AS1FVE4A6BBDIRA2A3B",cQ.nd|U]|?_]
  change aS _ _ _ [!a,hV,hV,hV,hV,hV,hV] H;show aj λD1 k1 _=>?_
  lk;show%[a,ns,1,26,6,ρ,hs,!1,!1,!1,!1,!1,!1|λhd H1 xs s1 _ Y hx hb=>k1 _ _ (aj λD2 k2 _=>?_)];let get:∀i:ri,0<=i->i<6->∃c,atI (xs\4) i∣V.int c/\0<=c/\c<26:=λi h0 h1=>by
   let%[c,e|hm]:=lP xs h0 (by rw[hx];show h1);show%[c,e|hb c hm]
  let%[c0,g0,l0|u0]:=get 0 (!1) (!1);let%[c1,g1,l1|u1]:=get 1 (!1) (!1);let%[l,g2,l2|u2]:=get 2 (!1) (!1);lk;show%[Xl _|λC hC=>k2 _ _ (aj λD3 k3 _=>?_)];let sC:=s1.trans (ah.Qa (o:= .lst []) hC);lk;show λD hD=>k3 _ _ (aj λD4 k4 _=>ay λco hK=>?_)
  let sD:=ah.Qa (o:= .dK []) hD;let as:C≠D:=λe=>by rw[e,aa]at hD;cases hD
  let fC:=s1.free hC;let bl:hd≠C:=λe=>by rw[e,hC]at Y;cases Y
  let fD:=sC.free hD;let a0:=sD _ _ (ah.Qa (o:= .lst []) hC _ _ Y);lk;obtain⟨n,en,n1,n3⟩:∃n:iv,1+c0%3=n/\1<=n/\n<=3:=%[(1+c0%3).toNat,(by lia -verbose),(by lia -verbose)|(by lia -verbose)]
  show%[_,Qb.of a0,_,g0,!1|?_];rw[en];show%[(by lia -verbose),(by lia -verbose)|hK _ _ (cI (λi σ I=>E5 λ(o4 o5 o6:kw V) (cs:ZH) (rs:hH (ku×ri))=>A8 (σ=[!a,!hd,!C,!D,o4,o5,o6]) (ah H I) (I hd<*xs\4) (I C<*cC cs) (I D∣.dK (rkD rs)) (cB I cs) (xc cs rs) (cs.map (·.2.1)=(q7 i).map (nmN c1 l)))
   %[_,_,_,[],[],ρ,sC.trans sD,a0,sD _ _ aa,aa,(λ_ h=>nomatch h),%[(λ_ h=>nomatch h),(λ_ h=>nomatch h),Xa,Xl _|λh=>(h rfl).elim]|ρ] ?_ ?_)]
  .intro i σ I hi %[o4,o5,o6,cs,rs,rfl,sm,j,m,L,u,ok|v];change aS _ _ _ [!a,!hd,!C,!D,hY (.int (0+i)),o5,o6] I;rw[OK];let i3:i<3:=by lia -verbose
   let%[cw,gw,lw|uw]:=get (3+i) (by lia -verbose) (by lia -verbose);show aj λD5 k5 _=>?_
   lk;show%[#[3]|λp hp=>?_];let sp:=ah.Qa (o:= .lst [V.str (!"pit"),V.str (!"a"),V.str (!"zone")]) hp;show%[_,Qb.of (sp _ _ j),_,g1,!1,_,Qb.of aa,.str (rC c1),?_,_,Qb.of (sp _ _ j),_,g2,.inl %[!1|!1],!1,#[26],_,ED (by lia -verbose) (by lia -verbose),?_|k5 _ _ (aj λD6 k6 _=>?_)]
   .unfold rC;rcases(show c1%3=0\/c1%3=1\/c1%3=2 by lia -verbose)with e|e|e<;> rw[e]<;> rfl
   .let: ~~~(rC c1)<=4:=by
     unfold rC
     split
     .decide +kernel
     .split<;> decide +kernel
    rw[PySem.sizeLine_eq];change(rC c1).length+1<=_
    lia -verbose
   let a1:gT (nmN c1 l i)=hW:=EI c1 l i;let bm:nmN c1 l i∉cs.map (·.2.1):=λh=>by
    rw[v]at h;let%[k,hk|e]:=Xw h;let:=J6.mp hk;let:=Ac (by lia -verbose) i3 e
    lia -verbose
   let a2:∀q:jg,∀r,(cs++[(q,nmN c1 l i,r)]).map (λp:jg×ku×ZB=>p.2.1)=(q7 (i+1)).map (nmN c1 l):=λq r=>by rw[Zd,v,O9,Zd];rfl
   let bt:rC c1++(⟨([97+((l+9*(i:ri))%26).toNat].toArray)⟩:ku)=nmN c1 l i:=rfl;rw[bt];lk;let ct:=hp
   generalize Qa I p _=H2 at sp
   show%[a,ns,2+i,6,30,ρ,(sm.trans sp).seq hs,(by lia -verbose),(by lia -verbose),!1,!1,!1,!1|λds H3 ys s3 _ b0 hy b1=>%[_,Qb.of ((sp.trans s3) _ _ j),_,gw,ds,ys,cw,ρ,Qb.of b0,hy,b1,lw,(by lia -verbose)|λR0 a3 J a4 b2 ab a5 a6=>k6 _ _ (aj λDq kq _=>?_)]];let N:R0≠C:=λe=>by rw[e,(sp.trans s3) _ _ m]at ab;cases ab
   let B:=sp.trans (s3.trans b2);clear ab
   suffices go:∀(R:jg) (H4:Hp) (g:hH (hH iv)) (G:iv),ah I H4->R≠C->H4 R<*(br g G)\3->eW cw g G->Dq.nx [!a,!hd,!C,!D,hY (.int i),hY (.str (nmN c1 l i)),!R] H4 by
    lk;show bC (λq=>?_) λ_=>go R0 a3 J a4 B N a5 a6
    let bb:=(sm.trans B).seq hs;show%[a,ns,0,ρ,bb,!1,%[!1|!1],!1|bC (λ_=>%[a,ns,2,6,107,ρ,bb,!1,!1,!1,!1,!1,!1|λb3 H5 b4 s5 _ bc b5 be=>%[_,Qb.of ((B.trans s5) _ _ j),.int cw,?_,b3,b4,cw,ρ,Qb.of bc,b5,be,lw,(by lia -verbose)|λR H6 g G s6 fR hR dr=>go R H6 g G (B.trans (s5.trans s6)) (λe=>by rw[e,(B.trans s5) _ _ m]at fR;cases fR) hR dr]]) λ_=>go R0 a3 J a4 B N a5 a6];rwa[show(3+(i:ri))=3 by let:=Zo q;lia -verbose]at gw
   intro R H4 g G s5 b6 hR dr;show kq _ _ (aj λD7 k7 _=>?_);let ac:=s5 _ _ m;lk;let cl: ~~~cs=i:=by let:=vj Mf v;rwa[Z6,Z6,Yp]at this
   show%[tyL (Qb.of ac),br g G,Qb.of hR,?_,#[2]|λt ht=>?_]
   .let:=dr.cut.sum;let:=dr.cut.high;rw[show(!"\n").length=1 from rfl]
    lia -verbose
   let ej:Txt.join (!"\n") (br g G)=wh nl (br g G):=NV _ _;rw[ej];let st:=ah.Qa (o:= .tup [V.str (nmN c1 l i),V.str (wh nl (br g G))]) ht;let gt:=own st
   generalize Qa H4 t _=H5 at st gt
   let b9:t≠C:=λe=>by rw[e,ac]at ht;cases ht
   show%[_,st _ _ ac,by unfold cC;rw[Z6,cl];show aC (by lia -verbose)|k7 _ _ (az λD8 k8 _=>?_)];let ae:∀b o,b≠C->I b∣o->Qa H5 C (.lst (cC cs++[V.ref t])) b∣o:=λb o n e=>by rw[ap n];show st _ _ (s5 _ _ e)
   let ca:Qa H5 C (.lst (cC cs++[V.ref t])) C<*cC (cs++[(t,nmN c1 l i,br g G)]):=by rw[aa];unfold cC;rw[Zd];rfl
   lk;let sC:ah H (Qa H5 C (.lst (cC cs++[V.ref t]))):=ah.set (sm.trans (s5.trans st)) fC;let M:=ae _ _ (Lx as) L;let ag:cB (Qa H5 C (.lst (cC cs++[V.ref t]))) (cs++[(t,nmN c1 l i,br g G)]):=λq O=>by
    rcases Xu O with z|z
    .show%[ae _ _ (λe=>?_) (u q z).1|(u q z).2];let:=(u q z).1;rw[e,m]at this;cases this
    .rw[Xv z];show%[by rw[ap b9];show gt,a1|dr.cut]
   let al:=ok.snoc (a:=t) dr bm;let bf:=ae _ _ bl j;show%[tyD M,_,Qb.of bf,_,gw,_,_,_,_,ρ,lw,(by lia -verbose),jF a1,(by rw[ap b6];show st _ _ hR),?_|λd H7 s7 fd cb=>?_]
   .let:=dr.cut.high
    lia -verbose
   let cd:D≠d:=λe=>by rw[<-e,M]at fd;cases fd
   let ch:=s7 _ _ M;let an:∀b o,b≠D->Qa H5 C (.lst (cC cs++[V.ref t])) b∣o->Qa H7 D (.dK (iG (rkD rs) (rkD (kI (nmN c1 l i) cw (br g G) 16)))) b∣o:=λb o n e=>by rw[ap n];show s7 _ _ e
   show%[d,ρ,_,_,cd,ch,cb,?_|k8 _ _ %[_,_,_,_,_,ρ,ah.set (sC.trans s7) fD,an _ _ (λe=>by rw[e,L]at j;cases j) bf,an _ _ as ca,by rw[aa,xf al.nd],λq O=>?_,al|a2 _ _]]
   .let:=al.len;rw[Z9]at this;unfold rkD;rw[Z6,Z6];rw[Z9,Yq,cl]at this;show Yk (aC (by lia -verbose))
   .show%[an _ _ (λe=>?_) (ag q O).1|(ag q O).2];let:=(ag q O).1;rw[e,M]at this;cases this
  .intro σ I %[o4,o5,o6,cs,rs,rfl,sm,j,m,L,u,ok|v];show k4 _ _ ?_;lk;show%[#[2]|λp hp=>?_];let sp:=ah.Qa (o:= .lst [V.ref C,V.ref D]) hp;let cl: ~~~cs=n:=by let:=vj Mf v;rw[Z6,Z6,Yp]at this;lia -verbose
   show kk p C D _ cs rs (sm.trans sp) aa fC (sp _ _ m) (sp _ _ L) (by lia -verbose) (by lia -verbose) (λq O=>%[sp _ _ (u q O).1|(u q O).2]) ?_ ok;rw[v,X9,Xe];show Xn (λ{x y} hx hy ne e=>ne (Ac ?_ ?_ e)) (X9.mp Qw)
   .let:=J6.mp hx;lia -verbose
   .let:=J6.mp hy;lia -verbose
def vx{rs:hH (ku×ri)}(nd:(rs\1).Nodup){z:ku}(h:z∈rs\1):∃r,(z,r)∈rs/\bI (rkD rs) (kj z)∣V.int r:=by
 induction rs with
 | nil=>show nomatch h
 | cons p rs a=>
   rw[Yw,Mw]at nd;by_cases e:p.1=z
   .subst e;show%[p.2,Zm|eN rfl]
   .let%[r,b|c]:=a nd.2 ((X2.mp h).resolve_left λq=>e q.symm);show%[r,Zk _ b|?_];rw[show rkD (p::rs)=(kj p.1,V.int p.2)::rkD rs from rfl,di (λq=>e (MW q))];show c
inductive ET
 | mk (one other:ku) (d:jg) (rs:hH (ku×ri)):vs=[.str one,.str other,.ref d]->H d∣.dK (rkD rs)->(rs\1).Nodup->one∈rs\1->other∈rs\1->(∀(t:jg) H' (w a b:ku),ah H H'->H t=hV->H' t&&&[.str w,.str a,.str b]->(w="later"\/w="same")->((a=one/\b=other)\/(a=other/\b=one))->Q (.ref t) H')->ET vs H Q E0
def qj{xs:ZL}{m:iv}(f: ~~~xs=m)(a:∀x∈xs,0<=x/\x<211)(i:ri)(b:0<=i)(g:i<m):∃c,atI (xs\4) i∣V.int c/\0<=c/\c<211:=by
 let%[c,e|d]:=lP xs b ⋯;show%[c,e|a c d]
def vy{ys:ZB}(n:ri)(d:0< ~~~ys):∃z,atI (ys\3) (n%(~~~ys:ri))∣V.str z/\z∈ys:=by
 let a:=MB n (show(~~~ys:ri)≠0 by lia);let c:=NN n (show(0:ri)<(~~~ys:ri) by lia)
 generalize n%(~~~ys:ri)=i at a c
 let%[j|rfl]:=Xo a;let b:j< ~~~ys:=by lia
 show%[ys[j],cS (by simp[b])|Yh b]
def BZ(T:Txt K mg):↥1 "_law_tie" ["_law_one","_law_other","_law_ranks_here"] ET:=by
 .exists T.bp,yY,m,g,%[one,c,d,rs,rfl,i,nd,n,o|q];let%[r,C|v1]:=vx nd n;let%[u,m2|v]:=vx nd o;let j:cu H d (.str one) (hY (.int r)):=v1▸cu.k (k:=kj one) i;let l:cu H d (.str c) (hY (.int u)):=v▸cu.k (k:=kj c) i;show%[_,%["KCNM~NX20X21DIfAZA0A1BOCNM<X20X21DIfAZA1A0BODIfAZA0A1B",0|g]|?_]
  change aS _ _ _ [-one,-c,!d] H;let tup:∀(w a b:ku),(w="later"\/w="same")->((a=one/\b=c)\/(a=c/\b=one))->[V.str w,V.str a,V.str b].length<=lp/\∀(p:jg),H p=hV->Q (.ref p) (Qa H p (.tup [.str w,.str a,.str b])):=λw a b hw h=>%[#[3]|λp e=>q p _ w a b (ah.Qa e) e aa hw h]
  show aj λG k1 z=>?_
  lk;show%[_,j,_,l|bC (λ_=>?_) λ_=>k1 _ _ (aj λI k2 B=>?_)]
  .let%[x|y]:=tup "later" one c (.inl rfl) (.inl %[rfl|rfl]);show%[x|λp e=>z _ _ (y p e)]
  lk;show%[_,j,_,l|bC (λ_=>?_) λ_=>k2 _ _ ?_]
  .let%[x|y]:=tup "later" c one (.inl rfl) (.inr %[rfl|rfl]);show%[x|λp e=>B _ _ (y p e)]
  lk;show tup "same" one c (.inr rfl) (.inl %[rfl|rfl])
inductive Ak (K:ZA)
 | mk (l d:jg) (xs:ZL) (rs:hH (ku×ri)) (torn wild:su):vs=[.ref l,.ref d,.bl torn,.bl wild]->H l<*xs\4-> ~~~xs=6->(∀x∈xs,0<=x/\x<211)->H d∣.dK (rkD rs)->(rs\1).Nodup->rs≠[]-> ~~~rs<=63->(∀q∈rs,0<=q.2/\q.2<16)->(∀(t:jg) H' (xs:ZM),ah H H'->H' t&&&xs->lV (rs\1) xs->Q (.ref t) H')->Ak K vs H Q E0
def zd(T:Txt K mg):↥2 "_law_said" ["_law_digits_here","_law_ranks_here","_law_torn","_law_wild"] (Ak K):=by
 .exists T.bq,cR,bb,hr,%[l,d,xs,rs,g,i,rfl,hl,hx,hb,hd,nd,ne,rl,rb|kk];let%[c0,g0,l0|u0]:=qj hx hb 0 (!1) (!1);let%[c1,g1,l1|u1]:=qj hx hb 1 (!1) (!1);let%[c2,g2,l2|u2]:=qj hx hb 2 (!1) (!1);let%[c3,g3,l3|u3]:=qj hx hb 3 (!1) (!1);let%[c4,g4,l4|u4]:=qj hx hb 4 (!1) (!1);show%[_,%["KCG4%]yAP1BC=5pqS4FWS0EklA4BCG6S4FWS0EklA4BCNj.M~NFWS0EEE/M~WP56CG7H]zAP5A6AP1BCNj.a2/MvFWS0EEEDIfAU7EAU7EAU7EBODI7OCNMvFWS0EEEC~Y8qpc?1T4b0?2wj.MvXP20XP2P1/M~W0P10DNM^8RBDIfAZAP5AS8FWS0EklA8BBOOCG9FVF~SEFtEXP1P5F>S0EECNa3DG9F~SFV9S0EEOCNMvFWS0EEEDIfAZAP5ASRA9A~yEB~E~cAnvFWS0EEEBBODIfAZAP5ASRAFV9EAEB~E~cAnvFWS0EEEBB",cR.nd,↑(["_law_name","_law_one","_law_ranks_here"],[(1,5),(2,1)]),↑["_law_name","_law_one","_law_ranks_here"]|hr]|?_]
  change aS _ _ _ [!l,!d,hY (.bl g),hY (.bl i),hV,hV,hV,hV,hV,hV] H;show aj λD1 k1 _=>?_
  lk;show%[_,.inl hd,rs\1,by unfold rkD;rw[Yx,Yx];rfl,by rw[Z6];lia|λL ss hL pm _=>k1 _ _ (aj λD2 k2 _=>?_)];let U:=ah.Qa (o:= .lst (ss\3)) hL;let m:=own U
  generalize Qa H L _=H1 at U m
  let n:=U _ _ hl;let ab:=U _ _ hd;let sl: ~~~ss= ~~~rs:=by rw[pm.length_eq,Z6]
  let a5:0< ~~~rs:=M0.mpr ne;let%[one,e1|m1]:=vy (ys:=ss) c1 ⋯;let%[e,e2|m2]:=vy (ys:=ss) c2 ⋯;let C:=pm.mem_iff.mp m1;let ac:=pm.mem_iff.mp m2;let ag: ~~~(ss\3)= ~~~ss:=Z6 _;lk;show%[_,Qb.of n,_,g1,~~~ss,.inl %[_,Qb.of m|ag.symm],⋯,_,Qb.of m,_,e1|k2 _ _ (aj λD3 k3 _=>?_)];lk;show%[_,Qb.of n,_,g2,~~~ss,.inl %[_,Qb.of m|ag.symm],⋯,_,Qb.of m,_,e2|k3 _ _ (aj λD4 k4 r4=>?_)];lk;let%[r1,as|v1]:=vx nd C;let bc:=rb _ as;let dg:∀r,ah H1 r->cu r d (.str one) (hY (.int r1)):=λr N=>v1▸cu.k (k:=kj one) (N _ _ ab)
  suffices rest:∀oo,D4.nx [!l,!d,hY (.bl g),hY (.bl i),!L,-one,-e,oo,hV,hV] H1 by
   show%[_,Qb.of n,_,g0,!1|bC (λ_=>bC (λO=>?_) λ_=>rest _) λ_=>rest _];let O:one≠e:=↑O
   show%[_,_,_,_,ρ,ab,nd,C,ac|λt r w a b N ft j hw al=>?_];let B:=N _ _ n;let ok:∀a b,((a=one/\b=e)\/(a=e/\b=one))->lV (rs\1) [.str w,.str a,.str b]:=λa b h=>by
    rcases h with⟨rfl,rfl⟩|⟨rfl,rfl⟩
    .show .inl %[w,_,_,rfl,hw,C,ac|O]
    .show .inl %[w,_,_,rfl,hw,ac,C|Lx O]
   let a0:=ok a b al;let a1:=ok b a (al.elim (λh=> .inr %[h.2|h.1]) λh=> .inl %[h.2|h.1]);let fin:D4.rt (.ref t) r:=r4 _ _ (kk t r _ (U.trans N) j a0);show bC (λ_=>?_) λ_=>fin
   show%[_,Qb.of B,_,g3,!1|bC (λ_=>?_) λ_=>fin];show%[_,SqT.of j,.str w,ρ,_,SqT.of j,.str b,ρ,_,SqT.of j,.str a,ρ,#[3]|λp G=>r4 _ _ (kk p _ _ (U.trans (N.trans (ah.Qa G))) aa a1)]
  intro oo;show k4 _ _ (aj λD5 k5 r5=>?_);lk
  suffices yr:∀o8 r,ah H1 r->D5.nx [!l,!d,hY (.bl g),hY (.bl i),!L,-one,-e,oo,o8,hV] r by
   show%[_,Qb.of n,_,g0,!1|bC (λ_=>?_) λ_=>yr _ _ (ah.refl H1)];show aG λa6 hK=>?_
   lk;show%[%[_|Qb.of m]|hK _ _ λF hF=>?_];show bZ (λq ts σ r=>A4 (∃o,σ=[o,-one,!d]) (ah H1 r) (r F<*ts) (∃ys:ZB,A3 (ts=ys\3) (~~~ys<=q) (∀y∈ys,y∈rs\1/\y≠one)))
    %[%[hV|rfl],ah.Qa hF,aa,[],rfl,Xl _|λ_ h=>nomatch h] (λ_ _ _ H4 ⟨_,s4,_,_⟩=>s4 _ _ m) ?_ ?_
   .intro q ts σ H4 hq %[%[o|rfl],M,I,ys,j,yl|J];let an:=pm.mem_iff.mp (Yh hq);let%[rq,mq|vq]:=vx nd an;let gq:cu H4 d (.str ss[q]) (hY (.int rq)):=vq▸cu.k (k:=kj ss[q]) (M _ _ ab);lk;show%[_,gq,_,dg _ M|bC (λ_=>bC (λc=>?_) λ_=>?_) λ_=>?_]
    .let c:ss[q]≠one:=↑c
     show CK.mk hq I (by rw[j,Z6];show aC ⋯) ⟨%[_|rfl],ah.set M hF,aa,ys++[ss[q]],by rw[j,Zd];rfl,by rw[Z9];show Xf yl,λy hy=>by
      rcases Xu hy with z|z
      .show J y z
      .rw[Xv z];show%[an|c]⟩
    .show CN.mk hq %[%[_|rfl],M,I,ys,j,⋯|J]
    .show CN.mk hq %[%[_|rfl],M,I,ys,j,⋯|J]
   .intro ts σ H3 %[_,M,I,ys,j,yl|J];show%[Xl _|λp G=>%[ts,ah.Qa G _ _ I,aa|bC (λc=>?_) λ_=>?_]]
    .let a2:0< ~~~ys:=by
      cases ys with
      | nil=>show on j (Zo c)
      | cons=>show SW _
     let%[z,ez|mz]:=vy (ys:=ys) c2 a2;let sp:=ah.Qa (o:= .lst []) G;let ae:=sp _ _ I;rw[j]at ae;show%[_,Qb.of ((M.trans sp) _ _ n),_,g2,~~~ys,.inl %[_,Qb.of ae|(Z6 _).symm],⋯,_,Qb.of ae,_,ez,#[3]|λt a3=>r5 _ _ (kk t _ _ (U.trans ((M.trans sp).trans (ah.Qa a3))) aa (.inl %[_,_,_,ρ,.inr rfl,C,(J z mz).1|Lx (J z mz).2]))]
    .show yr _ _ (M.trans (ah.Qa G))
  intro o8 r N;show k5 _ _ (aj λD6 k6 _=>?_);lk;let B:=N _ _ n;let a4:=U.trans N;show%[_,dg _ N,.inl %[!1|!1],_,Qb.of B,_,g3,%[!1|!1]|k6 _ _ (aj λD7 k7 _=>?_)];let yb: -900<=800-100*r1+c3/5/\800-100*r1+c3/5<=900:=by lia
  generalize 800-100*r1+c3/5=y at yb
  lk
  suffices fin:∀y:ri,-2000<=y->y<=2000->D7.nx [!l,!d,hY (.bl g),hY (.bl i),!L,-one,-e,oo,o8,hY (.int y)] r from
   bC (λ_=>%[_,Qb.of B,_,g4|fin _ ⋯ ⋯]) λ_=>fin _ ⋯ ⋯
  intro y y0 y1;show k7 _ _ (aj λD8 k8 r8=>?_);let pk:∀(u v:ri) (b:su),atI [V.int u,V.int v] (if b=hW then 1 else 0)∣V.int (if b=hW then v else u):=λu v b=>by cases b<;> rfl
  let Y:∀(w:ku) (u:ri) (p:jg) (H3:Hp),(w="since"\/w="by")-> -9999<=u->u<=9999->ah r H3->H3 p=hV->Q (.ref p) (Qa H3 p (.tup [.str w,.str one,.int u])):=λw u p H3 hw u0 u1 M G=>kk p _ _ (a4.trans (M.trans (ah.Qa G))) aa (.inr %[w,one,u,rfl,hw,C,u0|u1])
  lk;show%[_,Qb.of B,_,g0,!1|bC (λ_=>?_) λ_=>k8 _ _ ?_]
  .show%[#[2]|λp G=>%[_,Qb.of (ah.Qa G _ _ B),_,g4,!1,_,Qb.of aa,_,pk _ _ _,#[3]|λt j=>r8 _ _ (Y _ _ t _ (.inl rfl) ?_ ?_ (ah.Qa G) j)]]<;> split<;> lia
  .lk;show%[#[2]|λp G=>%[_,Qb.of (ah.Qa G _ _ B),_,g4,!1,_,Qb.of aa,_,pk _ _ _,#[3]|λt j=>Y _ _ t _ (.inr rfl) ?_ ?_ (ah.Qa G) j]]<;> split<;> lia
def mv{H:Hp}{M:jg}{xs ys:ZM}(h:H M<*xs):∀b z,H b&&&z->Qa H M (.lst ys) b&&&z:=λb z e=>by
 rw[ap (λa=>by rw[a,h]at e;cases e)];show e
structure qk (H:Hp) (cs:ZH) (qs:ZN):Prop where
 c1:1<= ~~~cs
 c3: ~~~cs<=3
 ca:cB H cs
 nd:(cs.map (·.2.1)).Nodup
 few:∀p∈cs,u9 p.2.2
 ly: ~~~(cs.flatMap lyr)<=63
 sa:cV H (cs.flatMap lyr) qs
 ql: ~~~qs<=60
def Lv{H a:Hp}{L t:jg}{c:ZB}{qs:ZN}{zs:ZM}(h:H L∣.lst (qs\0))(s:ah H a)(f:a t&&&zs)(g:cV H c qs)(ok:lV c zs):
 (∀b o,b≠L->a b∣o->Qa a L (.lst ((qs\0) ++[V.ref t])) b∣o)/\Qa a L (.lst ((qs\0) ++[V.ref t])) L∣.lst ((qs++[(t,zs)])\0)/\cV (Qa a L (.lst ((qs\0) ++[V.ref t]))) c (qs++[(t,zs)]):=by
 let d:∀b o,b≠L->a b∣o->Qa a L (.lst ((qs\0) ++[V.ref t])) b∣o:=λb o n e=>by rw[ap n];show e
 let tk:∀{b:jg} {zs:ZM},a b&&&zs->b≠L:=λe z=>by rw[z,s _ _ h]at e;cases e
 show%[d,by rw[aa,Zd];rfl|λq i=>?_];rcases Xu i with z|z
 .let:=s _ _ (g q z).1;show%[d _ _ (tk this) this|(g q z).2]
 .rw[Xv z];show%[d _ _ (tk f) f|ok]
inductive tV (K:ZA)
 | mk (a:jg) (ns:ZL):vs=[.ref a]->Qb K H a (ns\4)-> ~~~ns<=1000->(∀(t l1 l2:jg) H' (cs:ZH) (qs:ZN),ah H H'->H' t<*[.ref l1,.ref l2]->H' l1<*cC cs->H' l2∣.lst (qs\0)->qk H' cs qs->Q (.ref t) H')->tV K vs H Q E0
def lV.sub{f g:ZB}{vs:ZM}(h:lV f vs)(m:∀z∈f,z∈g):lV g vs:=by
 rcases h with⟨w,a,b,e,hw,c,d,n⟩|⟨w,a,y,e,hw,c,d⟩
 .show .inl %[w,a,b,e,hw,m a c,m b d|n]
 .show .inr %[w,a,y,e,hw,m a c|d]
def Al:∀{cs:ZH},(∀p∈cs,∃w a hi,eW w a hi/\p.2.2=br a hi)-> ~~~(cs.flatMap lyr)<=16* ~~~cs
 |[],_=>Zi _
 | q::cs,h=>by
   let j:=Al (cs:=cs) λp b=>h p (Zk _ b)
   let%[w,a,hi,d|e]:=h q Zm;let:=_ST.nodup_sub (bX ((dc q.2.2).map sgn)) (m:=(q7 16).map λr:iv=>sgn (ltr r w)) λy f=>by
    let%[c,g|rfl]:=Xw (aP.mp f);let%[r,i,l|rfl]:=d.lets (e▸iu.mp g);show Xx %[r.toNat,J6.mpr ⋯|by rw[Qg i]]
   rw[Z6,Yp]at this;rw[RL,Z9,Zr,lyr,Z6]
   lia
def vz(T:Txt K mg):↥4 "_law_ground" ["_law_script"] (tV K):=by
 .exists T.br,cA,a2,M,%[a,r,rfl,hs,hn|kk];show%[_,%["KC~zH]!A0B~!LJ1LJ2dCG3RBCG4n)FWF>H~DA0AEBEEECG5n)FWF>H~DA0AEBEEECQ~dAEA~J]$AklA0BAEBBJ6DYom3AH]%AH~XA0A6AEAEBA2A4A5BBDIRA1A3B",cA.nd|M]|?_]
  change aS _ _ _ [!a,hV,hV,hV,hV,hV,hV] H;show aj λD1 k1 _=>?_
  lk;show%[a,r,ρ,hs|λt C D H1 cs rs s1 N _ hC hD c1 c3 ca ac ok=>%[_,Qb.of N,ρ,_,_,ρ,_,_,ρ,ρ|k1 _ _ (aj λD2 k2 _=>?_)]];lk;show%[Xl _|λL B=>k2 _ _ (aj λD3 k3 _=>?_)];let sL:=s1.trans (ah.Qa (o:= .lst []) B);let u:=sL.seq hs;lk;show%[a,r,0,ρ,u,!1,%[!1|!1],!1|k3 _ _ (aj λD4 k4 _=>?_)]
  generalize decide (r.getD (ri.toNat 0) 0/2%6=1)=g
  lk;show%[a,r,0,ρ,u,!1,%[!1|!1],!1|k4 _ _ ?_]
  generalize decide (r.getD (ri.toNat 0) 0/12%2=1)=j
  show aj λD5 k5 _=>ay λa0 hK=>?_
  lk;let fL:=s1.free B;let ae:C≠L:=λe=>by rw[e,B]at hC;cases hC
  let ag:D≠L:=λe=>by rw[e,B]at hD;cases hD
  let O:=ah.Qa (o:= .lst []) B _ _ hC;let U:=ah.Qa (o:= .lst []) B _ _ hD;let v:cB (Qa H1 L (.lst [])) cs:=λp hp=>%[ah.Qa (o:= .lst []) B _ _ (ca p hp).1|(ca p hp).2]
  let G:Qa H1 L (.lst []) L<*[]:=aa
  generalize Qa H1 L _=H2 at sL u O U v G
  show%[~~~r,.inl %[_,u|(Z6 _).symm],!1,!1,by split<;> lia,by split<;> lia|?_]
  generalize hm:((if 41<(~~~r:ri)then 41 else(~~~r:ri)) -5).toNat=m
  let a3:m<=36:=by split at hm<;> lia
  show hK _ _ (cI (λi σ I=>E2 λ(o6:kw V) (qs:ZN)=>A6 (σ=[!a,!C,!D,!L,hY (.bl g),hY (.bl j),o6]) (ah H I) (∀b o,b≠L->H2 b∣o->I b∣o) (I L∣.lst (qs\0)) (~~~qs=i) (cV I (cs.flatMap lyr) qs))
   %[_,[],rfl,sL,(λb o _ e=>e),G,rfl|λ_ h=>nomatch h] ?_ ?_)
  .intro i σ I hi %[o6,qs,rfl,sH,Y,l,ql|J];change mV _ _ [!a,!C,!D,!L,hY (.bl g),hY (.bl j),hY (.int (5+i))] I;show az λD6 k6 _=>?_
   lk;show%[tyL (Qb.of l),a,r,5+i,211,6,ρ,sH.seq hs,⋯,⋯,!1,!1,!1,!1|λdl H3 xs s3 _ al hx hb=>%[dl,D,xs,rs,g,j,ρ,al,hx,hb,s3 _ _ (Y _ _ ag U),ok.nd,ok.ne (λe=>by rw[e]at c1;cases c1),by let:=ok.len;lia,λq c=>(ok.rk q c).2|λt H4 zs s4 N an=>?_]];let y:=s3.trans s4;let ab:=y _ _ l;let as:t≠L:=λe=>by rw[e,ab]at N;cases N
   show%[_,ab,by rw[Z6,ql];show aC ⋯|k6 _ _ %[_,qs++[(t,zs)],ρ,ah.set (sH.trans y) fL,λb o n e=>by rw[ap n];show y _ _ (Y b o n e),by rw[aa,Zd];rfl,by rw[Z9,ql];rfl|λq c=>?_]];rcases Xu c with z|z
   .show%[?_|(J q z).2];rw[ap (λe=>by let:=(J q z).1;rw[e,l]at this;cases this)];show y _ _ (J q z).1
   .rw[Xv z];show%[by rw[ap as];show N|an.sub λz hz=>?_];let%[q,c|rfl]:=Xw hz;show(ok.rk q c).1
  .intro σ I %[o6,qs,rfl,sH,Y,l,ql|J];show k5 _ _ ?_;lk;show%[#[2]|λp hp=>?_];let sp:=ah.Qa (o:= .lst [V.ref C,V.ref L]) hp;show kk p C L _ cs qs (sH.trans sp) aa (sp _ _ (Y _ _ ae O)) (sp _ _ l) %[c1,c3,λq c=>%[sp _ _ (Y _ _ (λe=>?_) (v q c).1)|(v q c).2],ac,λq c=>?_,by let:=Al ok.dr;lia,λq c=>%[sp _ _ (J q c).1|(J q c).2]|⋯]
   .let:=(v q c).1;rw[e,G]at this;cases this
   .let%[w,a1,hi,d|e]:=ok.dr q c;rw[e];show d.few
structure bB (S:ku->ku->Prop) (ks0 ks:hH _):Prop where
 nd:ks.Nodup
 mem:∀k,k∈ks↔∃a b z a' b',[a,b,z]∈ks0/\cL S a a'/\cL S b b'/\k=[a',b',z]
def bB.mm{S:ku->ku->Prop}{a ks b:hH ZB}(h:bB S a ks)(g:bB S a b)(k:ZB):k∈ks↔k∈b:=(h.mem k).trans (g.mem k).symm
def GV{ks c:hH ZB}(e:∀k,k∈ks↔k∈c):Ed ks=Ed c:=by
 funext a b;simp only[Ed,e]
def jG{ks c:hH ZB}(e:∀k,k∈ks↔k∈c):Dst ks=Dst c:=by
 funext a n b;simp only[Dst,e]
def iC{ks c:hH ZB}(e:∀k,k∈ks↔k∈c):Rch ks=Rch c:=by
 funext a b;let q:∀{ks},Rch ks a b↔∃n,Dst ks a (n+1) b:=%[Rch.dst|λ⟨_,h⟩=>h.rch]
 rw[propext q,propext q,jG e]
abbrev iW(r:ku->ku):ZB->ZB
 |[a,b,z]=>[r a,r b,z]
 | k=>k
def qo{S:ku->ku->Prop}{c:hH ZB}{l:ZB}{r:ku->ku}(m:∀k∈c,dI l k)(f:∀z∈l,cL S z (r z))(k:ZB):k∈c.map (iW r)↔∃a b z g h,[a,b,z]∈c/\cL S a g/\cL S b h/\k=[g,h,z]:=by
 rw[OD]
 constructor
 .rintro⟨t,d,rfl⟩;let%[a,b,z,rfl,i|j]:=m t d;show%[a,b,z,r a,r b,d,f a i,f b j|ρ]
 .rintro⟨a,b,z,g,h,d,n,o,rfl⟩;let%[x,y,u,e,i|j]:=m _ d;simp only[MP,UR]at e;let%[rfl,rfl|rfl]:=e;show%[_,d|by rw[<-(f a i).one n,<-(f b j).one o];rfl]
inductive xo (mg:ZC)
 | mk (g c2 c3 c4:jg) (qs:ZN) (ls:ZB) (ts:ZG):vs=[.ref g]->GrF mg H g c2 c3 c4 qs ls ts->ls.Nodup->ls.Pairwise (λa b=>aM b a=hX)-> ~~~ls<=5000-> ~~~ts<=250->(∀k∈ts\2,dI ls k)->(∀l H' (ss:ZG),ah H H'->H l=hV->H' l∣.lst (ss\0)->aB H' ss->bB (bg qs) (ts\2) (ss\2)-> ~~~ss<=250->Q (.ref l) H')->xo mg vs H Q E0
def Am(T:Txt K mg):↥4 "links" ["ground"] (xo mg):=by
 .exists T.aG,wN,a1,n,%[g,O,c3,U,qs,L,ts,rfl,hg,nd,so,Y,a2,h3|kk];let tm: ~~~(ts\0)= ~~~ts:=Z6 _;show%[_,%["KC=1pqH~5A0BDI%~}A~C~[Agc?1T_]&0iLb0?2Lb1?2Lb2?2d$fAXP30AXP31A2BBB",wN.nd,↑(["later","earlier","source","names"],[(3,1)]),↑["later","earlier","source","names"]|n]|?_]
  change aS _ _ _ [!g,hV] H;show aj λD1 k1 _=>?_
  lk;show%[g,O,c3,U,qs,L,ts,ρ,hg,nd,so,Y|λd H1 r s1 fd hd n=>k1 _ _ ?_];lk;show aG λa0 hK=>?_
  lk;let u:=hg.up s1;show qh u (.inr (.inr rfl)) %[g,O,c3,U,qs,L,ts,rfl,u|λl1 ab=>%[%[_|Qb.of aa]|hK _ _ λF hF=>?_]];let v:=ah.Qa (o:= .lst (ts\0)) ab;let B:=own v
  generalize Qa H1 l1 _=H2 at v B hF
  let ac:=v _ _ hd;let ae:=(u.up v).tu;show bZ (λj vs σ M=>A4 (E3 λo1 o2 o3=>σ=[o1,o2,o3,!d]) (ah H2 M) (M F<*vs) (∃ps:ZG,A3 (vs=ps\0) (aB M ps) (ps\2=((ts.take j)\2).map (iW r))))
   %[%[hV,hV,hV|rfl],ah.Qa hF,aa,[],rfl,gj _|rfl] (λ_ _ _ M ag=>ag.2 _ _ B) ?_ ?_
  .intro j vs σ H4 hj %[%[o1,o2,o3|rfl],C,G,ps,N,i|c];let tj:=Yh hj;let%[a,b,z,e,ha|hb]:=h3 _ (Xx %[_,tj|rfl]);let st:=C _ _ (ae _ tj).2;rw[e]at st;let get:∀y∈L,cu H4 d (.str y) (hY (.str (r y))):=λy hy=>by
    let:=cu.k (k:=kj y) (C _ _ ac);rw[kJ hy]at this;show this
   show%[_,SqT.of st,ρ,_,_,ρ,_,_,ρ,_,_,ρ,ρ|?_];change FY [-a,-b,-z,!d] _ _;lk;show%[_,get a ha,_,get b hb,#[3]|λp hp=>?_];let sp:=ah.Qa (o:= .tup [V.str (r a),V.str (r b),V.str z]) hp;let gp:=own sp
   generalize Qa H4 p _=H5 at sp gp ⊢
   let keep:=mv (ys:=vs++[V.ref p]) (sp _ _ G);let pl:=vj Mf c;rw[Z6,Z6,Z6,Yr]at pl;show CK.mk hj (sp _ _ G) (by rw[N,Z6];show aC ⋯) %[%[_,_,_|rfl],ah.set (C.trans sp) hF,aa,ps++[(p,[r a,r b,z])],by rw[N,Zd];rfl,ax (eF (ax i λb z e=>sp _ _ e) ∅ gp) keep|?_];rw[Zd,c,Xg,Z4 hj,Zd,Zd];change _++[_]=_++[iW r ts[j].2];rw[e];rfl
  intro vs σ H3 %[_,C,al,ps,N,i|c];rw[Zn (Zi _)]at c;let pl:=vj Mf c;rw[Z6,Z6,Z6]at pl;let p3:∀q∈ps,~~~q.2=3:=λq l=>by
   let:q.2∈ps\2:=Xx %[q,l|rfl];rw[c]at this;let%[k,hk|e]:=Xw this;let%[a,b,z,rfl|_]:=h3 k hk;rw[<-e];rfl
  show%[ps,by rw[<-N];show Qb.of al,i,%[ps\2,by rw[Z6];lia|λq l=>Xx %[q,l|ρ]]|λl5 an=>?_];let s5:=ah.Qa (o:=pf P w l5 (bz ps)) an;let few: ~~~(bz ps)<=250:=by
   let:=_ST.nodup_sub (eJ ps) (m:=ps\2) λk hk=>by
    let%[q,l|rfl]:=Xw hk;show Xx %[q,bn ps q l|rfl]
   rw[Z6,Z6]at this
   lia
  show%[bz ps,aa,λq l=>%[(i q (bn ps q l)).1|s5 _ _ (i q (bn ps q l)).2],3,λq l=>p3 q (bn ps q l),!1,⋯|λl6 ss I pm=>?_];let s6:=ah.Qa (o:= .lst (ss\0)) I;let J:=s1.trans (v.trans (C.trans s5));let pk:(ss\2).Perm ((bz ps)\2):=pm.map _;show kk l6 _ ss (J.trans s6) (J.free I) aa (λq l=>?_) %[pk.nodup_iff.mpr (eJ ps)|λk=>?_] (by rw[pm.length_eq];show few)
  .let as:=pm.mem_iff.mp l;let:=i q (bn ps q as);show%[this.1|s6 _ _ (s5 _ _ this.2)]
  .rw[pk.mem_iff,iN,c];show qo h3 (λz hz=>(n z hz).2) k
def EU{S:ku->ku->Prop}(d:c.Pairwise (λa b=>aM b a=hX))(i:∀z∈c,r z∈c/\cL S z (r z))(h:p∈grp r c):p.2[0]?∣p.1:=by
 unfold grp at h;let%[z,j|rfl]:=Xw h;let%[l|m]:=ow.mp j;let f:z∈c.filter (λx=>decide (r x=z)):=ow.mpr %[l|m];let d:=d.sublist (hH.filter_sublist (p:=λx=>decide (r x=z)));let all:∀x∈c.filter (λx=>decide (r x=z)),aM x z=hX:=λx n=>by
  let%[o|s]:=ow.mp n;rw[<-Zo s];show(i x o).2.2 x (.refl _)
 change(c.filter λx=>decide (r x=z))[0]?∣z
 generalize c.filter (λx=>decide (r x=z))=g at all f d
 cases g with
 | nil=>cases f
 | cons y g=>
   rw[Sz];rcases X2.mp f with e|e
   .rw[e]
   .let a:=(Rf.mp d).1 z e;by_cases q:y=z
    .rw[q]
    .let:=fG (all y Zm) q;rw[a]at this;cases this
structure EV (S:ku->ku->Prop) (ls ns:ZB):Prop where
 nd:ns.Nodup
 mem:∀x,x∈ns↔x∈ls/\cL S x x
 so:ns.Pairwise (λa b=>aM b a=hX)
 ne:ls≠[]->ns≠[]
def Kg{S:ku->ku->Prop}{a:ZB}{r:ku->ku}(c:∀z∈a,r z∈a/\cL S z (r z))(h:a≠[]):(grp r a)\1≠[]:=by
 let%[z|f]:=Si _ h;let%[e|b]:=c z f;let g:cL S (r z) (r z):=%[b.1.symm.trans b.1|λy d=>b.2 y (b.1.trans d)]
 show hH.ne_nil_of_mem (jS.mpr %[e|(c _ e).2.one g])
def Kh{r:ku->ku}{xs:ZB}(h:xs.Pairwise (λa b=>aM b a=hX)):((grp r xs)\1).Pairwise (λa b=>aM b a=hX):=by
 unfold grp;rw[Yx];change Mc _ (Q0 (λz=>z) _);rw[hH.map_id'];show h.filter _
inductive tW (mg:ZC)
 | mk (g c2 c3 c4 qs ls ts):vs=[.ref g]->GrF mg H g c2 c3 c4 qs ls ts->ls.Nodup->ls.Pairwise (λa b=>aM b a=hX)-> ~~~ls<=5000->(∀l H' ns,ah H H'->H l=hV->H' l<*ns\3->EV (bg qs) ls ns->Q (.ref l) H')->tW mg vs H Q E0
def eU(T:Txt K mg):↥5 "deposit_names" ["ground"] (tW mg):=by
 .exists T.aE,mJ,M,a,%[g,y,c3,B,qs,b,ts,rfl,N,nd,i,l|O];show%[_,%["KDIgc?1TH]'A0Bb0?2$S0E",0,↑(["group"],[]),↑["group"]|a]|?_];change jh _ _ [!g] H;lk;show aG λC U=>?_
  lk;show%[g,y,c3,B,qs,b,ts,ρ,N,nd,i,l|λl1 Y ss G f1 I la _ ⟨r,a,J⟩ ab=>%[%[_|Qb.of I]|U _ _ λF m=>?_]];let sg: ~~~ss= ~~~(grp r b):=by
   let:=vj Mf J;rwa[Z6,Z6]at this
  show bZ (λj vs n o=>A4 (∃L,n=[L]) (ah Y o) (o F<*vs) (vs=(((grp r b).take j)\1)\3))
   %[%[hV|rfl],ah.Qa m,aa|rfl] (λ_ _ _ o p=>p.2 _ _ I) ?_ ?_
  .intro j vs n H4 q %[%[L|rfl],e,u|c];let v:j< ~~~(grp r b):=by lia
   let e2:ss[j].2=(grp r b)[j].2:=by
    let:=vj (λz=>z[j]?) J;simpa [q,v]using this
   lk;show%[_,Qb.of (e _ _ (la _ (Yh q))),_,(show atI (ss[j].2\3) ((0:iv):ri)∣_ from cS (by rw[Zl,e2,(EU i a (Yh v))];rfl))|?_];show CK.mk q u (by rw[c,Z6,Z6,Yr];show aC ⋯) %[%[_|rfl],ah.set e m,aa|?_];rw[c,Xg,Z4 v,Zd,Zd];rfl
  intro vs n H3 %[_,e,d|c];rw[Zn ⋯]at c;rw[c]at d;show O F H3 _ (G.trans e) (G.free m) d %[mR nd,λx=>?_,Kh i|Kg a];rw[jS];show%[λh=>%[h.1|by let:=(a x h.1).2;rwa[h.2]at this]|λh=>%[h.1|(a x h.1).2.one h.2]]
def tX{b:su}(h: ¬ (not b)=hW):b=hW:=by
 cases b
 .show on rfl h
 .rfl
def kL{rs:Gs ku}{y:ku}(h:y∈rs\1):∃r∈rs,r.1=y/\bI (gD rs) (kj y)∣.ref r.2.1:=by
 cases b:bI (gD rs) _ with
 | none=>
   let%[q,a|c]:=Xw h;let:=iV a;rw[c,b]at this;show(this rfl).elim
 | some v=>
   let%[q,a,e|rfl]:=fo b;show%[q,a,e|ρ]
inductive EW
 | mk (d st goal ns F ss rs dd k):vs=[.ref d,.str st,.str goal]->H d∣.dK (gD rs)->ReB ss rs->Lev (ss\2) st rs dd k F->k<=300->dh H ns ss->goal∈rs\1->(∀l H' (ws:hH _),ah H H'->H l=hV->H' l∣.lst (ws\0)->(∀t∈ws,t∈ss)->Wal (ws\2) st goal-> ~~~ws=dd goal->Q (.ref l) H')->EW vs H Q E0
def EX(T:Txt K mg):↥1 "way_to" ["reached","start","goal"] EW:=by
 .exists T.aN,sZ,ab,j,%[d,st,a,ns,F,ss,rs,i,k,rfl,hd,C,l,hk,G,n|kk];show%[_,%["KCG3RAX02BC~IM~WUS3~yE|1DYom3AX0US3~yE|BDI](3",sZ.nd|j]|?_]
  change aS _ _ _ [!d,-st,-a,hV] H;show aj λD1 k1 _=>?_
  lk;let%[r,I,e1|hv]:=kL n;let get:=cu.k (k:=kj a) hd;rw[hv]at get;show%[_,get,#[1]|λb fw=>k1 _ _ (aj λD2 k2 _=>?_)];let s1:=ah.Qa (o:= .lst [V.ref r.2.1]) fw;let gw:Qa H b (.lst [V.ref r.2.1]) b∣.lst (([]:ZG).reverse\0 ++[V.ref r.2.1]):=aa
  generalize Qa H b _=H1 at s1 gw
  show⟨λm σ u=>σ=[!d,-st,-a,!b]/\ah H u/\∃(us:ZG) (r:ku×jg×ZB),r∈rs/\m=i r.1/\u b∣.lst (us.reverse\0 ++[.ref r.2.1])/\(∀t∈us,t∈ss)/\Wal (us\2) r.1 a/\ ~~~us+m=i a,%[_,rfl,s1,[],r,I,rfl,gw,λt h=>(nomatch h),e1|by rw[e1];simp],?_⟩;intro m σ H2 %[rfl,v,us,r,j,rfl,hw,y,B|hl];let%[ac,p,z,J|hp]:=l.by_ r j;let e:=(C.sub r j).1;let g:=v _ _ (G _ e).1;rw[J]at g;let gl:=l.le a n;lk;show%[_,Qb.of hw,_,vN _ _,_,SqT.of g,_,ρ|bC (λh=>?_) λh=>?_]
  .let h:p≠st:=↑h
   let%[_,L|ae]:=hp.resolve_left λc=>h c.1
   let%[r',M,N|O]:=kL L;let get:=cu.k (k:=kj p) (v _ _ hd);rw[O]at get;show⟨λU u=>∃Y,Y<i r.1/\U=[!d,-st,-a,!b]/\ah H u/\∃(us:ZG) (r:ku×jg×ZB),r∈rs/\Y=i r.1/\u b∣_/\(∀t∈us,t∈ss)/\Wal (us\2) r.1 a/\ ~~~us+Y=i a,λ_ _ h=>h,tyL (Qb.of hw),_,Qb.of hw,_,vN _ _,_,SqT.of g,_,rfl,_,get,_,hw,by rw[Z9,Z6,Tx,Yq];show aC ⋯,_,?_,rfl,ah.set v fw,r.2::us,r',M,rfl,?_,?_,?_,?_⟩
   .rw[N];lia
   .rw[aa,QZ,Zd];rfl
   .intro t ht;rcases X2.mp ht with q|q
    .show q▸e
    .show y t q
   .show%[r.1,z,J.trans (by rw[N])|B]
   .rw[Zr,N];lia
  .let h:p=st:=↑h
   show k2 _ _ ?_;lk;show%[_,hw|λq fq=>kk q _ (r.2::us) (v.trans (ah.Qa fq)) (v.free fq) ?_ (λt ht=>?_) %[r.1,z,J.trans (by rw[h])|B] (by rw[Zr];lia)]
   .rw[aa,hH.reverse_append,<-hH.map_reverse,hH.reverse_reverse];rfl
   .rcases X2.mp ht with q|q
    .show q▸e
    .show y t q
inductive xp
 | mk (b st goal ns ss):vs=[.ref b,.str st,.str goal]->GrB H b ss 0->dh H ns ss-> ~~~ss<=250->(∀H',ah H H'-> ¬ Rch (ss\2) st goal->Q .non H')->(∀l H' (ws:hH _),ah H H'->H l=hV->H' l∣.lst (ws\0)->(∀t∈ws,t∈ss)->Sho (ss\2) st goal (ws\2)-> ~~~ws<=300->Q (.ref l) H')->xp vs H Q E0
abbrev Li(H:Hp)(b d:jg)(st a:ku)(ss:ZG)(m:iv)(f:_LL.St)(c:Hp):Prop:=∃e F rs g k,f=[!b,-st,-a,!d,!e]/\ah H c/\c e<*F\3/\c d∣.dK (gD rs)/\ReB ss rs/\Lev (ss\2) st rs g k F/\k<= ~~~rs+1/\(F≠[]->k<= ~~~rs)/\m=2*(250-rs.length) +F.length.min 1
def qp(T:Txt K mg):↥2 "shortest_way" ["beneath","start","goal"] xp:=by
 .exists T.aL,dM,a1,C,%[b,st,i,ns,ss,rfl,hb,G,ac,kn|ky];show%[_,%["KCG3zCG4RA1BC~Ij.M<klA4BE/~M23DG4H])A0A4A3BCN~M23DI;ODIH]*A3A1A2B",dM.nd|C]|?_]
  change aS _ _ _ [!b,-st,-i,hV,hV] H;show aj λD1 k1 _=>?_
  lk;intro d fd;show k1 _ _ (aj λD2 k2 _=>?_);let ae:b≠d:=λc=>by
   let%[a2,N|_]:=hb;rw[c,fd]at N;cases N
  let s1:=ah.Qa (o:= .dK []) fd;let B:Qa H d (.dK []) d∣.dK (gD ([]:Gs ku)):=aa
  generalize Qa H d _=H1 at s1 B
  lk;show%[#[1]|λe fe=>k2 _ _ (aj λD3 k3 _=>?_)];let s2:=ah.Qa (o:= .lst [V.str st]) fe;let O:Qa H1 e (.lst [V.str st]) e<*[st]\3:=aa;let B:=s2 _ _ B;let U:=s1.trans s2
  generalize Qa H1 e _=H2 at U O B
  show%[Li H b d st i ss,%[_,e,[st],[],_,_,ρ,U,O,B,%[Xa|λ_ h=>(nomatch h)],.nil,by simp,λ_=>Zi _|ρ]|?_];intro m σ H3 %[e,F,rs,dd,k,rfl,I,O,B,J,j,hk,ag|rfl];let fm: ~~~(F\3)= ~~~F:=Z6 _;let get:=cu.k (k:=kj i) B;let rl:=J.len;let L:i∈rs\1↔(bI (gD rs) (kj i)).isSome=hW:=by
   show%[λh=>?_|λh=>?_]
   .let%[r,_,_|e]:=kL h;rw[e];rfl
   .let%[v|hv]:=Pp.mp h;let%[q,hq,c|_]:=fo hv;show c▸Xx %[q,hq|rfl]
  lk;let fin:(i∉rs\1->F=[])->D3.nx [!b,-st,-i,!d,!e] H3:=λh=>by
   show k3 _ _ (aj λD4 k4 r4=>?_);lk;show%[_,get|bC (λq=>?_) λq=>?_]
   .let q:i∉rs\1:=λc=>by rw[L.mp c]at q;cases q
    show r4 _ _ (kn H3 I λr=>q ?_);let%[n|hn]:=r.dst;rw[h q]at j;show j.stop hn
   .let q:i∈rs\1:=L.mpr (tX q);show k4 _ _ ?_;lk;show%[d,st,i,ns,F,ss,rs,dd,k,ρ,B,J,j,⋯,G.up I,q|λl H' ws s' fl hl Y al wl=>ky l H' ws (I.trans s') (I.free fl) hl Y %[λk hk=>?_,al,?_|λn hn=>?_] (by rw[wl];let:=j.le _ q;lia)]
    .let%[t,ht|rfl]:=Xw hk;show Xx %[t,Y t ht|rfl]
    .rw[Z6,wl];show(j.dst q).1
    .rw[Z6,wl];show j.min q hn
  show%[_,.inl %[_,Qb.of O|ρ]|bC (λh=>?_) λh=>fin λ_=>?_]
  .let h:0< ~~~F:=by
    rw[fm]at h;let:=Zo h
    lia
   show%[_,get|bC (λq=>⟨λan H'=>∃m',m'<2*(250-rs.length) +F.length.min 1/\Li H b d st i ss m' an H',λ_ _ h=>h,b,e,d,ns,F,ss,rs,ρ,ae,hb.up I,G.up I,ac,O,B,J,λg H4 new sx fg hg as u a0 M=>?_⟩) λq=>fin λc=>on (L.mpr (tX q)) c];let ln:=u.len;rw[Z9]at ln;let ab:F.length.min 1=1:=Rv h;let kF:=ag λc=>by rw[c]at h;cases h
   show%[_,?_,g,new\1,rs++new,_,_,ρ,(λc o ec=>sx c o (λz=>by rw[z,fd]at ec;cases ec) (I _ _ ec)),hg,as,u,j.step u.nd (λr C=>?_) M,?_,λnn=>?_|ρ]
   .rw[ab,Z9,Z6];cases new with
    | nil=>simp
    | cons a r=>
      rw[Zr]at ln ⊢;let:(~~~r+1).min 1<=1:=iv.min_le_right _ _
      lia
   .let%[N|h2]:=u.sub r (X1 _ C);let%[p,hp|h3]:=a0 r C;let%[x,y,z,e|_]:=(G r.2 N).2;rw[e]at h2 h3;show%[Xx %[_,N|ρ],p,z,hp|by rw[e,show x=p from Za h3,show y=r.1 from Za h2]]
   .rw[Z9];lia
   .cases new with
    | nil=>show on rfl nn
    | cons a r=>rw[Z9,Zr];lia
  .cases F with
   | nil=>rfl
   | cons x F=>show on (Zf (by rw[fm,Zr];lia)) h
abbrev VD(a:ZB)(g:ku->V):hH (Key×V):=a.map λz=>(kj z,g z)
def iX:∀{a:ZB},z∈a->bI (VD a g) (kj z)∣g z
 | x::a,h=>by
   by_cases e:x=z
   .subst e;show eN rfl
   .rw[show VD _ g=(kj x,g x)::VD a g from rfl,di (λq=>e (MW q))];show iX ((X2.mp h).resolve_left λq=>e q.symm)
def iY:∀{a:ZB},z∉a->bI (VD a g) (kj z)=hV
 |[],_=>rfl
 | x::a,h=>by
   rw[X2,Og]at h;rw[show VD _ g=(kj x,g x)::VD a g from rfl,di (λq=>h.1 (MW q).symm)];show iY h.2
def EY(h:z∈a):db (VD a g) (kj z) v=VD a (λx=>if x=z then v else g x):=by
 unfold db;rw[ix (by rw[ii,iX h];rfl)];unfold VD;rw[Yx];show Yv λx _=>?_
 change(if(kj x)=kj z then((kj x),v)else(kj x,g x))=(kj x,if x=z then v else g x)
 by_cases e:x=z
 .rw[ix (vj _ e),ix e]
 .rw[ij (λq=>e (MW q)),ij e]
abbrev cnt(ss:ZG)(L:ZB)(n:ku):iv:=ss.countP λt=>decide (t.2[0]?∣n)&&t.2[1]?.all λy=>decide (y∉L)
def GW(ss:hH _)(n:ku):cnt ss [] n= ~~~(ss.filter λt=>decide (t.2[0]?∣n)):=by
 unfold cnt;rw[<-hH.countP_eq_length_filter]
 simp_all
def EZ(h:cnt ss L m=0)(e:Ed (ss\2) m y):y∈L:=by
 let%[z|a]:=e;let%[t,b|c]:=Xw a;let:=hH.countP_eq_zero.mp h t b
 simp_all
def xq(c:m∉L):∀ss:ZG,cnt ss L n=cnt ss (L++[m]) n+(ss.filter λt=>decide (t.2[1]?∣m)).countP λt=>decide (t.2[0]?∣n)
 |[]=>rfl
 | t::ss=>by
   let d:=xq (n:=n) c ss;unfold cnt at d ⊢;rw[Y0,Y0,d];cases b:t.2[1]? with
   | none=>rw[Y8 (by rw[b];simp)];simp only[kw.all_none];lia
   | some y=>
     by_cases e:y=m
     .subst e;rw[Y9 (by rw[b];simp),Y0];by_cases a:t.2[0]?∣n
      .simp[a,c];lia
      .simp[a]
     .rw[Y8 (by rw[b];simpa using e)];by_cases a:t.2[0]?∣n
      .by_cases f:y∈L
       .simp[f]
       .simp[a,f,e];lia
      .simp[a]
structure Lj (ss:ZG) (ns L R:ZB):Prop where
 nd:(L++R).Nodup
 mem:∀x,x∈L++R↔x∈ns/\cnt ss L x=0
 ord:∀(i:iv) x,L[i]?∣x->∀y,Ed (ss\2) x y->y∈L.take i
abbrev Lk(f:Hp)(l m b a w e ld:jg)(d:ZB)(ss:ZG)(k:iv)(g:_LL.St)(c:Hp):Prop:=∃(h i j:kw V) (L R:ZB),g=[!l,!m,!b,!a,!w,h,!e,!ld,i,j]/\ah f c/\c w∣.dK (VD d λn=> .int (cnt ss L n))/\c e<*R\3/\c ld<*L\3/\Lj ss d L R/\k= ~~~d-L.length
inductive Ap
 | mk (l m:jg) (ns:ZB) (ss:ZG):vs=[.ref l,.ref m]->H l<*ns\3->ns.Nodup-> ~~~ns<=63->H m∣.lst (ss\0)->dh H ns ss-> ~~~ss<=250->(∀r H' (L:ZB),ah H H'->H' r<*L\3->L.Nodup->(∀x∈L,x∈ns)->(∀(i:iv) x,L[i]?∣x->∀y,Ed (ss\2) x y->y∈L.take i)->(∀x∈ns,x∉L->∃y,Ed (ss\2) x y/\y∈ns/\y∉L)->H r=hV->Q (.ref r) H')->Ap vs H Q E0
def jH(T:Txt K mg):↥3 "laid_in_turn" ["names","found"] Ap:=by
 .exists T.aK,bd,c6,hr,%[l,m,d,ss,rfl,hl,nn,nl,hm,ae,b5|kk];let nm: ~~~(d\3)= ~~~d:=Z6 _;show%[_,%["KCG2H~ZA1BCG3H]+A1BC=4pqzCQT0J5DrklA~K~L2A5ARBBBP45C~Y6qpc?1T0b0?2wM)XP10E0CG7RBC~IM<klA6BECG8~J],A6BCY].]/6A8BCYom7A8BDQT~K~L3A8ARBBJ9CrF~SXP4U9|EP4U9|DNM)XP4U9|EDYom6AU9|BODI7",bd.nd,↑(["name","waits"],[(1,4)]),↑["name","waits"]|hr]|?_]
  change aS _ _ _ [!l,!m,hV,hV,hV,hV,hV,hV,hV,hV] H;show aj λD1 k1 _=>?_
  lk;show%[m,d,ss,ρ,hm,ae,b5|λb H1 s1 fb hb=>k1 _ _ (aj λD2 k2 _=>?_)];lk;show%[m,d,ss,ρ,s1 _ _ hm,ae.up s1,b5|λa H2 s2 fa ha=>k2 _ _ (aj λD3 k3 _=>?_)];let N:=s1.trans s2;let hb:=hb.up s2;lk;intro w fw;show k3 _ _ (aj λD4 k4 _=>ay λa5 hK=>?_);let s3:=ah.Qa (o:= .dK []) fw;let gw:Qa H2 w (.dK []) w∣.dK (VD (d.take 0) λn=> .int (cnt ss [] n)):=aa
  generalize Qa H2 w _=H3 at s3 gw
  let ct:=N.trans s3;lk;show%[%[_|Qb.of (ct _ _ hl)]|hK _ _ ?_];let cv:b≠w:=λc=>by
   let%[ab,h1|_]:=hb;rw[c,fw]at h1;cases h1
  let cw:a≠w:=λc=>by
   let%[ab,h1|_]:=ha;rw[c,fw]at h1;cases h1
  let b6:∀xs,H2 w≠hY (.lst xs):=λxs c=>by rw[fw]at c;cases c
  show bA (λi M u=>A3 (∃o5,M=[!l,!m,!b,!a,!w,o5,hV,hV,hV,hV]) (ah H2 u) (u w∣.dK (VD (d.take i) λn=> .int (cnt ss [] n))))
   %[%[_|rfl],s3|gw] (λi M u h=>h.2 _ _ (N _ _ hl)) ?_ ?_
  .intro i n M u hn %[%[o5|rfl],sm|hw];let i1:i< ~~~d:=(Xt hn).1;change ot _ _ _ _ [!l,!m,!b,!a,!w,-n,hV,hV,hV,hV] u;show az λD5 k5 _=>?_
   lk;show%[tyD (sm _ _ hb.choose_spec.1),#[0]|λp hp=>?_];let%[ab,al,cx,ag,O|b9]:=hb.get (dJ.of sm) cv b6 hp n;let sp:=ah.Qa (o:= .lst []) hp;show%[kj n,ρ,ab,cx,_,by rw[ag];show .inl %[_,Qb.of O|ρ],_,fM.k (k:=kj n) (sp _ _ hw) (by unfold VD;rw[Z6,Yr];show aC ⋯)|k5 _ _ %[%[_|ρ],ah.set (sm.trans sp) fw|?_]];let zn:n∉d.take i:=λhm=>by
    let h:=nn;rw[<-Xh i d,X8]at h;show h.2.2 n hm n (Z8 (i:=0) (by rw[Ye];show hn)) rfl
   rw[aa,dW _ (iY zn),Z6,<-GW,Xg,hn];unfold VD;rw[Zd];rfl
  .intro M u %[%[o5|rfl],sm|hw];rw[Zn (Zi _)]at hw;show k4 _ _ (aj λD5 k5 _=>aG λa5 hK=>?_);lk;let ca:=sm _ _ (N _ _ hl);show%[%[_|Qb.of ca]|hK _ _ λG ac=>?_];show bZ (λj vs M H3=>A4 (∃o1,M=[o1,!w]) (ah u H3) (H3 G<*vs) (vs=((d.take j).filter λn=>decide (cnt ss [] n=0))\3))
    %[%[hV|rfl],ah.Qa ac,aa|rfl] (λ_ _ _ H3 cy=>cy.2 _ _ ca) ?_ ?_
   .intro j vs M H4 hj %[%[o1|rfl],I,cb|hv];let get:=cu.k (k:=kj d[j]) (I _ _ hw);rw[iX (Yh hj)]at get;lk;show%[_,get,ρ|bC (λh=>?_) λh=>?_]
    .let h:cnt ss [] d[j]=0:=↑h
     show CK.mk hj cb (by rw[hv,Z6];let:=Yo (λn=>decide (cnt ss [] n=0)) (d.take j);rw[Yr]at this;show aC ⋯) %[%[_|rfl],ah.set I ac,aa|?_];rw[hv,Xg,Z4 hj,Y6,Zd];change _=_++(Nu _ [d[j]])\3;rw[Y9 ↑h];rfl
    .let h:cnt ss [] d[j]≠0:=↑h
     show CN.mk hj %[%[_|rfl],I,cb|?_];rw[hv,Xg,Z4 hj,Y6,Zd];change _=_++(Nu _ [d[j]])\3;rw[Y8 ↑h];simp
   intro vs M H3 %[_,I,an|hv];rw[Zn (Zi _)]at hv;rw[hv]at an;show k5 _ _ (aj λD6 k6 _=>?_);let U:=I _ _ hw;let bb:=sm.trans I;let bc:w≠G:=λc=>by rw[<-c,hw]at ac;cases ac
   let be:=sm.free ac;lk;show%[#[0]|λld fld=>k6 _ _ (aj λD7 k7 _=>?_)];let s4:=ah.Qa (o:= .lst []) fld;let bf:Qa H3 ld (.lst []) ld<*([]:ZB)\3:=aa;let cd:w≠ld:=λc=>by rw[<-c,U]at fld;cases fld
   let bl:G≠ld:=λc=>by rw[<-c,an]at fld;cases fld
   let bm:=s4 _ _ U;let bt:=s4 _ _ an;let b0:=bb.trans s4;let fld:=bb.free fld
   generalize Qa H3 ld _=H4 at s4 bf bm bt b0
   show%[Lk H2 l m b a w G ld d ss,%[_,o5,hV,hV,[],_,ρ,b0,bm,bt,bf,%[nn.filter _,λx=>by simp|λi x e=>by simp at e]|ρ]|?_];clear b0 bm bt bf an U hw hv I bb sm;intro k M H5 %[o5,o8,o9,L,R,rfl,sm,hw,hR,hL,v|rfl];let Rm: ~~~(R\3)= ~~~R:=Z6 _;let da: ~~~L+ ~~~R<= ~~~d:=by
    rw[<-Z9];show _ST.nodup_sub v.nd λx hx=>((v.mem x).mp hx).1
   lk;show%[~~~R,.inl %[_,Qb.of hR|Rm.symm]|bC (λh=>?_) λh=>?_]
   .let h:0< ~~~R:=by let:=Zo h;lia
    show⟨λcM u=>∃m',m'< ~~~d-L.length/\Lk H2 l m b a w G ld d ss m' cM u,λ_ _ h=>h,R,Qb.of hR,h,λx hx _=>%[tyL (Qb.of hR),R,hR,hx|λR1 pm=>?_]⟩;let u1:=ah.set (o:= .lst (R1\3)) sm be;let b1:Qa H5 G (.lst (R1\3)) G=_:=aa;let b2:Qa H5 G (.lst (R1\3)) w=_:=(ap bc).trans hw;let as:Qa H5 G (.lst (R1\3)) ld=_:=(ap bl.symm).trans hL
    generalize Qa H5 G _=H6 at u1 b1 b2 as ⊢
    show%[tyL (Qb.of as),_,as,by rw[Z6];show aC ⋯|az λdd c0 _=>ay λa5 hK=>?_];let u2:=ah.set (o:= .lst (L\3++[.str x])) u1 fld;let a0:Qa H6 ld (.lst (L\3++[.str x])) ld<*(L++[x])\3:=by rw[aa,Zd];rfl
    let a1:Qa H6 ld (.lst (L\3++[.str x])) w=_:=(ap cd).trans b2;let a2:Qa H6 ld (.lst (L\3++[.str x])) G=_:=(ap bl).trans b1
    generalize Qa H6 ld _=H7 at u2 a0 a1 a2 ⊢
    lk;show%[tyD (u2 _ _ ha.choose_spec.1),#[0]|λp hp=>?_];let%[ab,al,ag,c1,O|b9]:=ha.get (dJ.of u2) cw b6 hp x;let b3:∀{c:jg} {o:HO},H7 c∣o->H2 c=hV->al≠c:=λ{c o} h1 h2=>by
     rcases b9 with rfl|⟨o',ho⟩
     .show λz=>by rw[z,h1]at hp;cases hp
     .show λz=>by rw[z,h2]at ho;cases ho
    let c2:=b3 a1 fw;let c3:=b3 a2 be;let all:=b3 a0 fld;let sp:=ah.Qa (o:= .lst []) hp;let U:=sp _ _ a1;let ch:=sp _ _ a2;let cl:=sp _ _ a0;let u3:=u2.trans sp
    generalize Qa H7 p _=H8 at ag O U ch cl u3 ⊢
    clear u1 u2 a1 a2 a0 b2 b1 as hp sp
    generalize co:(ss.filter λt=>decide (t.2[1]?∣x))=ts at O
    let tm: ~~~(ts\0)= ~~~ts:=Z6 _;let xL:x∉L:=λc=>(X8.mp v.nd).2.2 x c x hx rfl
    let pr:(L++[x] ++R1).Perm (L++R):=by
     rw[Ze];show pm.append_left L
    let f0:∀n,cnt ss L n=cnt ss (L++[x]) n+(ts.drop 0).countP λt=>decide (t.2[0]?∣n):=λn=>by rw[TK,<-co];show xq xL ss
    let c4:∀t∈ts,∃n z,t.2=[n,x,z]/\n∈d/\H t.1&&&[n,x,z]\3:=λt ht=>by
     rw[<-co]at ht;let%[h1|h2]:=ow.mp ht;let%[h3,n,y,z,e,hn|_]:=ae t h1;let h2:=Zo h2;rw[e]at h2 h3;obtain rfl:y=x:=Za h2;show%[n,z,e,hn|h3]
    show%[kj x,ρ,ab,ag|u5 c1 %[%[_|Qb.of O]|hK _ _ ?_]];show bA (λj M u=>A6 (∃o9,M=[!l,!m,!b,!a,!w,o5,!G,!ld,-x,o9]) (ah H2 u) (u al∣.lst (ts\0)) (u w∣.dK (VD d λn=> .int ((cnt ss (L++[x]) n+(ts.drop j).countP λt=>decide (t.2[0]? =hY n):iv):ri))) (u ld<*(L++[x])\3) (∃Rj:ZB,A3 (u G<*Rj\3) ((L++[x] ++Rj).Nodup) (∀y,y∈L++[x] ++Rj↔y∈d/\cnt ss (L++[x]) y+((ts.drop j).countP λt=>decide (t.2[0]?∣y))=0)))
     %[%[_|rfl],u3,O,by rw[U];show vj (λg=>hY (HO.dK (VD d g))) (funext λn=>by rw[f0 n]),cl,R1,ch,pr.nodup_iff.mpr v.nd|λy=>by rw[<-f0,pr.mem_iff];show v.mem y] (λj M u h=>h.3) ?_ ?_
    .intro j t M u ht %[%[o9|rfl],a3,B,J,Y,Rj,C,rn|rz];let jl:=(Xt ht).1;let%[n,z,et,hn|r]:=c4 t (Z8 ht);let r:=a3 _ _ (N _ _ r);let dr:ts.drop j=t::ts.drop (j+1):=by rw[Y1 jl,(Xt ht).2]
     rw[dr]at J rz;let get:=cu.k (k:=kj n) J;rw[iX hn]at get;let tw:t.1≠w:=λc=>by rw[c,J]at r;cases r
     let de:=(X8.mp rn)
     let rl: ~~~Rj<= ~~~d:=by
      let:=_ST.nodup_sub rn λy hy=>((rz y).mp hy).1
      rw[Z9]at this
      lia
     change aS _ _ _ [!l,!m,!b,!a,!w,o5,!G,!ld,-x,hY (.ref t.1)] u;show aj λdg c5 _=>?_
     lk;let one:∀y,(t::ts.drop (j+1)).countP (λt=>decide (t.2[0]?∣y))=((ts.drop (j+1)).countP λt=>decide (t.2[0]?∣y)) +if y=n then 1 else 0:=λy=>by
      rw[Y0,et];by_cases c:y=n
      .rw[ix c,ix (by rw[c];simp)]
      .rw[ij c,ij (by simpa using λq=>c q.symm)]
     show%[_,SqT.of r,_,ρ,_,get,_,SqT.of r,_,ρ,_,fM.k (k:=kj n) J (by unfold VD;rw[Z6];show aC ⋯)|c5 _ _ (az λdk cp _=>?_)];rw[EY hn];let e1:(λy=>if y=n then V.int (((cnt ss (L++[x]) n+(t::ts.drop (j+1)).countP λt=>decide (t.2[0]?∣n):iv):ri) -1)else V.int ((cnt ss (L++[x]) y+(t::ts.drop (j+1)).countP λt=>decide (t.2[0]?∣y):iv):ri))=λy=>V.int ((cnt ss (L++[x]) y+(ts.drop (j+1)).countP λt=>decide (t.2[0]?∣y):iv):ri):=funext λy=>by
      rw[one,one];by_cases c:y=n
      .rw[ix c,c,ix rfl]
       congr 1
       lia
      .rw[ij c,ij c];rfl
     rw[e1];let v1:=ah.set (o:= .dK (VD d λy=>V.int ((cnt ss (L++[x]) y+(ts.drop (j+1)).countP λt=>decide (t.2[0]?∣y):iv):ri))) a3 fw;let b4:Qa u w (.dK (VD d λy=>V.int ((cnt ss (L++[x]) y+(ts.drop (j+1)).countP λt=>decide (t.2[0]?∣y):iv):ri))) w=_:=aa;let a4:∀c o,c≠w->u c∣o->Qa u w (.dK (VD d λy=>V.int ((cnt ss (L++[x]) y+(ts.drop (j+1)).countP λt=>decide (t.2[0]?∣y):iv):ri))) c∣o:=λc o h e=>by rw[ap h];show e
     let r:=a4 _ _ tw r;let B:=a4 _ _ c2 B;let Y:=a4 _ _ cd.symm Y;let C:=a4 _ _ bc.symm C;let get:=cu.k (k:=kj n) b4;rw[iX hn]at get;let cs:n∉L++[x] ++Rj:=λc=>by
      let:=((rz n).mp c).2;rw[one,ix rfl]at this
      lia
     let a6:∀y,y≠n->(y∈L++[x] ++Rj↔y∈d/\cnt ss (L++[x]) y+((ts.drop (j+1)).countP λt=>decide (t.2[0]?∣y))=0):=λy c=>by
      rw[rz y,one,ij c];rfl
     lk;show%[_,SqT.of r,_,ρ,_,get,ρ|bC (λh=>?_) λh=>?_]
     .let h:cnt ss (L++[x]) n+((ts.drop (j+1)).countP λt=>decide (t.2[0]?∣n))=0:=by
       let:=V.int.inj (Zo h)
       lia
      let tr:t.1≠G:=λc=>by rw[c,C]at r;cases r
      show%[tyL (Qb.of C),_,SqT.of r,_,ρ,_,C,by rw[Z6];show aC ⋯|cp _ _ %[%[_|ρ],ah.set v1 be,(ap c3).trans B,(ap bc).trans b4,(ap bl.symm).trans Y,Rj++[n],by rw[aa,Zd];rfl,?_|λy=>?_]]
      .rw[<-Ze,X8];show%[rn,by simp|λa ha b hb c=>cs (by rw[<-Xv hb,<-c];show ha)]
      .rw[<-Ze,Yy,X4];by_cases c:y=n
       .rw[c];show%[λ_=>%[hn|h]|λ_=> .inr rfl]
       .rw[<-a6 y c];show%[λq=>q.resolve_right c|.inl]
     .show cp _ _ %[%[_|rfl],v1,B,b4,Y,Rj,C,rn|λy=>?_];by_cases c:y=n
      .rw[c];show%[λq=>on q cs|λq=>on (Zf (vj (λi:iv=>V.int i) q.2)) h]
      .show a6 y c
    .intro M u %[%[o9|rfl],a3,B,J,Y,Rj,C,rn|rz];rw[hH.drop_length]at J rz;show c0 _ _ %[_,?_,o5,_,o9,L++[x],Rj,rfl,a3,J,C,Y,%[rn,rz|λi y hi y' e=>?_]|rfl]
     .rw[Z9,Yq]
      lia
     .by_cases il:i< ~~~L
      .rw[Yc il]at hi;rw[Xi (Yk il)];show v.ord i y hi y' e
      .let ie:i= ~~~L:=by
        let:=(Xt hi).1;rw[Z9,Yq]at this
        lia
       subst ie;rw[Yd (Zi _),PK,Sz]at hi;obtain rfl:=Za hi;rw[Xi (Zi _),Xj];show EZ ((v.mem x).mp (X1 _ hx)).2 e
   .show k7 _ _ ?_;lk;let R0:R=[]:=by
     cases R with
     | nil=>rfl
     | cons x R=>show on (Zf (by rw[Zr];lia)) h
    subst R0;let mem:=v.mem;let nd:=v.nd;rw[Zz]at mem nd;show kk ld H5 L (N.trans sm) hL nd (λx hx=>((mem x).mp hx).1) v.ord (λx hx nx=>?_) (N.free fld);let:cnt ss L x≠0:=λc=>nx ((mem x).mpr %[hx|c])
    let%[t,ht|q]:=hH.countP_pos_iff.mp (QC this);let%[a,b,z,e,_|hb]:=(ae t ht).2;rw[e]at q;simp only[Zx]at q;let q1:a=x:=Za (Zo q.1);show%[b,%[z|by rw[<-q1,<-e];show Xx %[t,ht|ρ]],hb|Zo q.2]
inductive xt
 | mk (l m ns ss):vs=[.ref l,.ref m]->H l<*ns\3->ns.Nodup-> ~~~ns<=63->H m∣.lst (ss\0)->dh H ns ss-> ~~~ss<=250->(∀r H' (us:ZB),ah H H'->H' r<*us\3->(∀x∈ns,Rch (ss\2) x x->x∈us)->Q (.ref r) H')->xt vs H Q E0
structure qr (H:Hp) (ks:hH ZB) (ss:ZG) (r:jg) (ws:ZG) (x:ku):Prop where
 at_:H r∣.lst (ws\0)
 sub:∀t∈ws,t∈ss
 sho:Sho ks x x (ws\2)
 len: ~~~ws<=300
def qr.up(h:qr H ks ss r ws x)(s:ah H a):qr a ks ss r ws x:=%[s _ _ h.at_,h.sub,h.sho|h.len]
inductive xu
 | mk (l m ns ss):vs=[.ref l,.ref m]->H l<*ns\3->ns.Nodup-> ~~~ns<=63->H m∣.lst (ss\0)->dh H ns ss-> ~~~ss<=250->(∀H',ah H H'->(∀x,¬ Rch (ss\2) x x)->Q .non H')->(∀r H' ws x,ah H H'->H r=hV->qr H' (ss\2) ss r ws x->(∀y n,Dst (ss\2) y (n+1) y-> ~~~ws<=n+1)->Q (.ref r) H')->xu vs H Q E0
def vA(T:Txt K mg):↥4 "never_laid" ["names","found"] xt:=by
 .exists T.aQ,rg,C,G,%[l,m,a,ss,rfl,n,I,nl,J,g,i|M];show%[_,%["KDI%~kAF]:~C~QA0B~C~QAH]BA0A1BBB",0|G]|?_];change jh _ _ [!l,!m] H;lk;show%[a,Qb.of n,⋯|λp N=>?_];let b:=ah.Qa (o:=ki w p (aR a)) N;let y:=own b
  generalize Qa H p _=H1 at b y ⊢
  show%[l,m,a,ss,ρ,b _ _ n,I,nl,b _ _ J,g.up b,i|λr H2 L z O U Y j _ _=>?_];let Ll:=_ST.nodup_sub U Y;show%[L,Qb.of O,⋯|λq fq=>?_];let B:=ah.Qa (o:=ki w q (aR L)) fq;let fl:=_ST.nodup_sub (bX a) λx d=>aP.mp d
  show%[_,(B _ _ (z _ _ y)),_,aa,⋯|λu ms fu e mn=>%[ms,aa,?_|λv us fv pu _=>?_]]
  .let:=_ST.nodup_sub mn λx d=>aP.mp ((e x).mp d).1
   lia
  .show M v _ us (b.trans (z.trans (B.trans ((ah.Qa fu).trans (ah.Qa fv))))) aa λx d rx=>?_
   rw[pu.mem_iff,e];show%[aP.mpr d|λc=>GK j (aP.mp c) rx]
def xv{d:ZB}{ss:ZG}(h:∀t∈ss,dI d t.2){x y:ku}(r:Rch (ss\2) x y):x∈d:=by
 induction r with
 | one e=>
   let%[z|g]:=e;let%[t,i|f]:=Xw g;let%[a,b,c,e,j|_]:=h t i;rw[e]at f;show((Nc f).1)▸j
 | more _ _ l=>show l
def jd(T:Txt K mg):↥5 "shortest_ring" ["names","found"] xu:=by
 .exists T.aP,bV,ag,hr,%[l,m,O,ss,rfl,hl,nn,nl,hm,c,z,kn|ky];show%[_,%["KCG2H~ZA1BCG3;CQTH];A0A1BJ4CG5H]<A2A4A4BDNj.M~a5;/juM]=3;!M~NklA5BklA3BDG35ODI3",bV.nd|hr]|?_]
  change aS _ _ _ [!l,!m,hV,hV,hV,hV] H;show aj λD1 k1 _=>?_
  lk;show%[m,O,ss,ρ,hm,c,z|λb H1 U fb hb=>k1 _ _ (aj λD2 k2 _=>?_)];lk;show k2 _ _ (aj λD3 k3 _=>ay λae hK=>?_);lk;show%[l,m,O,ss,ρ,U _ _ hl,nn,nl,U _ _ hm,c.up U,z|λr H2 us s2 G I=>%[%[_|Qb.of G]|hK _ _ ?_]];let g:=U.trans s2;show bA (λi Y o=>(E3 λv o4 o5=>Y=[!l,!m,!b,hY v,o4,o5]/\((v= .non/\∀x∈us.take i,¬ Rch (ss\2) x x)\/∃q ws x,v= .ref q/\H q=hV/\qr o (ss\2) ss q ws x/\∀y∈us.take i,∀n,Dst (ss\2) y (n+1) y-> ~~~ws<=n+1))/\ah H2 o)
   %[%[_,_,_,rfl|.inl %[rfl|λx hx=>(nomatch hx)]]|λ_ _ e=>e] (λi Y o h=>h.2 _ _ G) ?_ ?_
  .intro i n Y o hn %[%[v,o4,o5,rfl|J]|j];let tk:us.take (i+1)=us.take i++[n]:=by rw[Xg,hn];rfl
   change aS _ _ _ [!l,!m,!b,hY v,-n,o5] o;show aj λD4 k4 _=>?_
   lk;show%[b,n,n,O,ss,ρ,hb.up (s2.trans j),c.up (g.trans j),z,λH3 B nr=>k4 _ _ (az λD5 k5 _=>?_)|λq H3 ws B L C sub rr rl=>k4 _ _ (az λD5 k5 _=>?_)]
   .lk;rw[ij ∅];show k5 _ _ %[%[v,_,_,rfl|J.imp (λh=>%[h.1|λx hx=>?_]) λ⟨q,ws,x,e,L,C,p⟩=>%[q,ws,x,e,L,C.up B|λy a m d=>?_]]|j.trans B]
    .rw[tk]at hx;rcases Xu hx with h'|h'
     .show h.2 x h'
     .rw[Xv h'];show nr
    .rw[tk]at a;rcases Xu a with h'|h'
     .show p y h' m d
     .rw[Xv h']at d;show(nr d.rch).elim
   .lk;rw[ix ∅];let wl:∀zs:ZG,~~~(zs\0)= ~~~zs:=λzs=>Z6 _
    let u:=λm d=>by
     let:=rr.min m d;rwa[Z6]at this
    let put:(∀y∈us.take i,∀m,Dst (ss\2) y (m+1) y-> ~~~ws<=m+1)->D5.nx [!l,!m,!b,!q,-n,!q] H3:=λp=>k5 _ _ ⟨%[_,_,_,rfl|.inr ⟨q,ws,n,rfl,(g.trans j).free L,%[C,sub,rr|rl],λy a m d=>by
     rw[tk]at a;rcases Xu a with h'|h'
     .show p y h' m d
     .rw[Xv h']at d;show u m d⟩],j.trans B⟩
    rcases J with⟨rfl,ab⟩|⟨q',M,x',rfl,ac,N,p⟩
    .rw[ix ∅];show put λy a m d=>(ab y a d.rch).elim
    .rw[ij ∅];show%[_,.inl %[_,Qb.of C|(wl ws).symm],_,.inl %[_,Qb.of (B _ _ N.at_)|(wl M).symm]|bC (λlt=>put λy a m d=>?_) λlt=>k5 _ _ %[%[_,_,_,ρ|.inr %[q',M,x',ρ,ac,N.up B|λy a m d=>?_]]|j.trans B]]
     .let:=p y a m d;let:=Zo lt
      lia
     .rw[tk]at a;rcases Xu a with h'|h'
      .show p y h' m d
      .rw[Xv h']at d;let:=u m d
       lia
  .intro Y o %[%[v,o4,o5,rfl|J]|j];rw[Zn (Zi _)]at J;show k3 _ _ ?_;lk;rcases J with⟨rfl,h⟩|⟨q,ws,x,rfl,L,C,p⟩
   .show kn o (g.trans j) λx rx=>h x (I x (xv (λt ht=>(c t ht).2) rx) rx) rx
   .show ky q o ws x (g.trans j) L C λy n d=>p y (I y (xv (λt ht=>(c t ht).2) d.rch) d.rch) n d
abbrev Lo(ws:ZG):Prop:=∀p∈ws,~~~p.2<=3/\∀z∈p.2,Sml z
inductive vB (C:jg)
 | mk (a r:jg) (ws:ZG):vs=[.ref a,.ref r]->H r∣.lst (ws\0)->aB H ws-> ~~~ws<=300->Lo ws->H a∣ExO a C hV->(∀l d,H l=hV->H d=hV->d≠l->Q .non (Qa (Qa (Qa H l (.lst (ws\0))) a (ExO a C (hY d))) d (.xd [("ring",.ref l)])))->vB C vs H Q E0
def C_Torn(T:Txt K mg):Jo P w K mg base 1 "Torn" ["self","ring"] (vB (aE mg "Torn")):=by
 show T.x_Torn.cal vf (by intro a b c d h;let%[_,_,_,rfl|_]:=h;rfl) (λf m A outer s H vs Q E n g h=>?_)
 .let%[a,r,ws,rfl,i,o,p,u,j|q]:=h;show%[_,(QSs.h (ai (bD rfl (Js (C:=aE mg "Torn") n rfl T.c_DigError T.i_DigError rfl rfl %[_|ρ] #[↑0,Dr (pjE du (pjE (K6 g.gd g.units ↑1) Dp))]))
   (ao (KM (C:=aE mg "Torn") T.f_Torn_ring rfl ↑0 (ctO (gZ (K:=K) rfl) T.a5 OW rfl #[↑1])))))|?_]
  change aS _ _ _ [hY _,hY _] H;lk;let y:(LD++pp "torn by the ring ").length=17:=!0
  show%[by rw[PySem.sizeLine_eq];lia,r,ws,ρ,i,o,p,u|λz B=>%[z,ρ,by rw[strLen_append,PySem.sizeLine_eq];lia,by rw[strLen_append,PySem.sizeLine_eq];lia,by simp,%[_|j]|?_]];show%[_,.inl (Qb.of i)|λl b=>%[a,ρ,ah.Qa b _ _ j|λd c v=>?_]];let dl:d≠l:=λe=>by rw[e,aa]at c;cases c
  rw[ap dl]at c;show q l d b c dl
def ze{C r:jg}{ws:hH _}{H c:Hp}{v:_LL.St}{D:iD}{t:TA}{E:XK}(m:ah H c)(G:c r∣.lst (ws\0))(I:aB c ws)(f: ~~~ws<=300)(J:Lo ws)(L:∀Q,Q [.ref r] c->t v c Q)
 (k:∀d l g,ah H g->ah c g->H d=hV->H l=hV->d≠l->g d∣.xd [("ring",.ref l)]->g l∣.lst (ws\0)->E (.ref C) (hY d) g):
 uK C (yw C (vB C) t) (λa y=>∃d,y a∣ExO a C (hY d)/\H a=hV/\E (.ref C) (hY d) (drop y a)) D v c:=by
 show L _ %[by simp|λx q=>?_];let A:=ah.Qa (o:=ExO x C hV) q;show%[x,r,ws,ρ,A _ _ G,ax I λb z e=>A _ _ e,f,J,aa|λl d f n h=>?_];let s:l≠x:=λe=>by rw[e,aa]at f;cases f
 let p:d≠x:=λe=>by rw[e,aa]at n;cases n
 let i:=by rw[ap s]at f;show f
 let j:=by rw[ap p]at n;show n
 let at_:∀b,b≠x->b≠l->b≠d->drop (Qa (Qa (Qa (Qa c x (ExO x C hV)) l (.lst (ws\0))) x (ExO x C (hY d))) d (.xd [("ring",.ref l)])) x b=c b:=λb n1 M N=>by
  rw[bP n1,ap N,ap n1,ap M,ap n1]
 let B:ah c (drop _ x):=λb u e=>by
  rw[at_ b (av e q) (av e i) (av e j)];show e
 show%[ρ,x,d,ρ,?_,d,?_,m.free q|k d l _ (m.trans B) B (m.free j) (m.free i) h ?_ ?_]
 .rw[ap p.symm,aa]
 .rw[ap p.symm,aa]
 .rw[bP p,aa]
 .rw[bP s,ap h.symm,ap s,aa]
def qu{S:ku->ku->Prop}(h:cL S z m)(c:cX S z x):cL S x m:=%[c.symm.trans h.1|λy d=>h.2 y (c.trans d)]
def jI(h:cV H c qs)(a b:ku)(s:bg qs a b):a∈c/\b∈c:=by
 let%[q,d|e]:=s;rcases(h q d).2 with⟨f,x,y,g,_,i,j,_⟩|⟨f,x,y,g,_⟩
 .simp_all
 grind
structure ic (mg:ZC) (H:Hp) (g:jg) (qs:ZN) (ls:ZB) (ts:ZG):Prop where
 gr:∃c2 c3 c4,GrF mg H g c2 c3 c4 qs ls ts
 nd:ls.Nodup
 so:ls.Pairwise (λa b=>aM b a=hX)
 ll: ~~~ls<=63
 tl: ~~~ts<=250
 t3:∀k∈ts\2,dI ls k
 sm:∀k∈ts\2,∀z∈k,Sml z
 lm:∀z∈ls,Sml z
def ic.up(h:ic mg H g qs a ts)(s:ah H b):ic mg b g qs a ts:=by
 let%[c,c3,d|e]:=h.gr;show%[%[c,c3,d|e.up s],h.nd,h.so,h.ll,h.tl,h.t3,h.sm|h.lm]
def ic.ends(h:ic mg H g qs f ts)(i:bB (bg qs) (ts\2) lk)(j:k∈lk):∃a b z,k=[a,b,z]/\(a∈f/\cL (bg qs) a a)/\b∈f/\cL (bg qs) b b:=by
 let%[r,c3,s|l]:=h.gr;let%[a,b,z,m,n,o,c,d|rfl]:=(i.mem k).mp j;let%[x,y,u,e,p|q]:=h.t3 _ o;simp only[MP,UR]at e;let%[rfl,rfl|rfl]:=e;let ws:=jI l.sa;show%[m,n,z,ρ,%[c.1.within ws p|qu c c.1],d.1.within ws q|qu d d.1]
def ic.short(h:ic mg H g qs o ts)(d:bB (bg qs) (ts\2) lk)(f:k∈lk): ~~~k<=3/\∀z∈k,Sml z:=by
 let%[p,c3,q|i]:=h.gr;let%[a,b,z,r,s,c,j,l|rfl]:=(d.mem k).mp f;let%[x,y,u,e,m|n]:=h.t3 _ c;simp only[MP,UR]at e;let%[rfl,rfl|rfl]:=e;let ws:=jI i.sa;show%[Zi _|J7 (h.lm _ (j.1.within ws m)) (h.lm _ (l.1.within ws n)) (h.sm _ c z ∅)]
def ic.names(h:ic mg H g qs d ts)(f:bB (bg qs) (ts\2) lk)(c:EV (bg qs) d i):∀k∈lk,dI i k:=λk j=>by
 let%[a,b,z,e,l|m]:=h.ends f j;show%[a,b,z,e,(c.mem a).mpr l|(c.mem b).mpr m]
def ic.ties(h:ic mg H g qs c ts)(d:bB (bg qs) (ts\2) lk):∀k∈lk,dI c k:=λk f=>by
 let%[a,b,z,e,i|j]:=h.ends d f;show%[a,b,z,e,i.1|j.1]
def qv(a:aB H ss)(h:∀k∈ss\2,dI b k):dh H b ss:=λt q=>%[(a t q).2|h _ (Xx %[t,q|rfl])]
inductive tY (mg:ZC)
 | mk (g:jg) (qs:ZN) (ls:ZB) (ts:ZG):vs=[.ref g]->ic mg H g qs ls ts->(∀lk,bB (bg qs) (ts\2) lk->∀x,¬ Rch lk x x)->(∀l H' ns (ss:ZG),ah H H'->H' l∣.lst (ss\0)->dh H' ns ss-> ~~~ss<=250->bB (bg qs) (ts\2) (ss\2)->Q (.ref l) H')->tY mg vs H Q E0
def _root_._CU.Sho.same{ks c us:hH _}{a b:ku}(h:Sho ks a b us)(e:∀k,k∈ks↔k∈c):Sho c a b us:=%[λk d=>(e k).mp (h.sub k d),h.wal,h.pos|by rw[<-jG e];show h.min]
structure vC (H:Hp) (lk:hH ZB) (d l:jg) (ws:ZG) (x:ku):Prop where
 ad:H d∣.xd [("ring",.ref l)]
 al:H l∣.lst (ws\0)
 tu:aB H ws
 sho:Sho lk x x (ws\2)
 min:∀y n,Dst lk y (n+1) y-> ~~~ws<=n+1
 len: ~~~ws<=300
inductive jT (mg:ZC) (vs:ZM) (H:Hp) (Q:VK) (E:XK):Prop
 | mk (g:jg) (qs:ZN) (ls:ZB) (ts:ZG) (lk:hH ZB) (us:ZM):vs=[.ref g]->ic mg H g qs ls ts->bB (bg qs) (ts\2) lk->(∃x,Rch lk x x)->(∀d l H' ws x,ah H H'->H d=hV->H l=hV->d≠l->vC H' lk d l ws x->E (.ref (aE mg "Torn")) (hY d) H')->jT mg vs H Q E
def jJ(T:Txt K mg):↥6 "untorn_links" ["ground"] (tY mg):=by
 .exists T.aR,cg,C,d,%[g,qs,e,ts,rfl,a,G|I];let%[j,c3,n|o]:=a.gr;let U:=a.ll;show%[_,%["KCG1H]CA0BCG2H]DAH~$A0BA1BCNM~a2;D,ODI1",cg.nd|d]|?_]
  change aS _ _ _ [!g,hV,hV] H;show aj λY k1 _=>?_
  lk;show%[g,j,c3,n,qs,e,ts,ρ,o,a.nd,a.so,⋯,a.tl,a.t3|λm H1 ss p fm q J lk u=>k1 _ _ (aj λD2 k2 _=>?_)];lk;show%[g,j,c3,n,qs,e,ts,ρ,o.up p,a.nd,a.so,⋯|λl H2 v i fl L c=>?_];let y:=qv J (a.names lk c);show%[l,m,v,ss,ρ,L,c.nd,?_,i _ _ q,y.up i,u,λz B _=>k2 _ _ (aj λD3 M _=>?_)|λr z ws x B _ N _=>(G _ lk x N.sho.rch).elim]
  .let:=_ST.nodup_sub c.nd λx O=>((c.mem x).mp O).1
   lia
  .lk;show M _ _ ?_;let b:=i.trans B;show I m z v ss (p.trans b) (b _ _ q) (y.up b) u lk
def cP(T:Txt K mg):yx P w K mg base 7 "untorn_links" ["ground"] (jT mg):=by
 let%[_,_,b|_]:=T.x_Torn.ini;show T.aR.calX cg (λH vs Q E h=>?_)
 .let%[g,qs,y,ts,lk,us,rfl,a,z,%[x0|o]|kk]:=h;show%[ρ|λf ab A outer s p=>?_];let%[M,c3,N|O]:=a.gr;let ll:=a.ll;show%[_,%["KCG1H]CA0BCG2H]DAH~$A0BA1BCNM~a2;D]>]^]_A2BODI1",cg.nd|p]|?_]
  change aS _ _ _ [!g,hV,hV] H;show aj λD1 k1 _=>?_
  lk;show%[g,M,c3,N,qs,y,ts,ρ,O,a.nd,a.so,⋯,a.tl,a.t3|λm H1 ss U fm hm B i sl=>k1 _ _ (aj λD2 k2 _=>?_)];let e:=i.mm z;rw[<-iC e]at o;lk;show%[g,M,c3,N,qs,y,ts,ρ,O.up U,a.nd,a.so,⋯|λl H2 ns u fl hl v=>?_];let la:=qv B (a.names i v);let C:=U.trans u;show%[l,m,ns,ss,ρ,hl,v.nd,?_,u _ _ hm,la.up u,sl,λY G nr=>(nr _ o).elim|λr Y ws x G _ j mn=>k2 _ _ (aj λD3 k3 _=>?_)]
  .let:=_ST.nodup_sub v.nd λx I=>((v.mem x).mp I).1
   lia
  .lk;rw[ix ∅];let J:=C.trans G;let inl:∀t∈ws,t.2∈ss\2:=λt c=>Xx %[t,j.sub t c|rfl]
   let n:aB Y ws:=λt c=>%[(B t (j.sub t c)).1|G _ _ (u _ _ (B t (j.sub t c)).2)]
   show ze J j.at_ n j.len (λt c=>a.short i (inl t c)) (λQ q=>?_) λd l H4 s4 s5 hd L dl I hL=>kk d l H4 ws x s4 hd L dl %[I,hL,λt c=>%[(n t c).1|s5 _ _ (n t c).2],j.sho.same e,by rw[<-jG e];show mn|j.len]
   lk;show q
abbrev SD(M:ZB):hH (Key×V):=VD M λ_=> .bl hW
def E8{M:ZB}{x:ku}:∃M2,db (SD M) (kj x) (.bl hW)=SD M2/\(M.Nodup->M2.Nodup)/\∀y,y∈M2↔y∈M\/y=x:=by
 by_cases c:x∈M
 .show%[M,?_,λh=>h|λy=>%[.inl|λh=>h.elim (λh=>h) λe=>e▸c]];unfold SD;rw[EY c]
  simp_all
 .show%[M++[x],?_,λh=>X8.mpr %[h,by simp|λa d b f e=>c (by rw[<-Xv f,<-e];show d)]|λy=>by simp];unfold SD;rw[dW _ (iY c)];unfold VD;rw[Zd];rfl
def xw:∀{R M:ZB},∃M2,iG (SD M) (SD R)=SD M2/\(M.Nodup->M2.Nodup)/\∀y,y∈M2↔y∈M\/y∈R
 |[],M=>%[M,rfl,λh=>h|λy=>by simp]
 | x::R,M=>by
   let%[M1,a,n1|b]:=E8;let%[M2,c,d|m2]:=xw (R:=R);show%[M2,?_,λh=>d (n1 h)|λy=>by rw[m2,b,X2,or_assoc]];change iG (db _ (kj x) (.bl hW)) (SD R)=_;rw[a,c]
def B0{ks:hH _}{a c:ku}(r:Rch ks a c):∃y,Ed ks a y/\(y=c\/Rch ks y c):=by
 induction r with
 | one e=>show%[_,e|.inl rfl]
 | more _ e b=>
   let%[y,h|q]:=b;show%[y,h|.inr (q.elim (λq=>q▸ .one e) λq=> .more q e)]
def Ki{b:ZB}{ss:ZG}(h:∀t∈ss,dI b t.2){x y:ku}(r:Rch (ss\2) x y):y∈b:=by
 let:∃a,Ed (ss\2) a y:=by
  cases r with
  | one e=>show%[_|e]
  | more _ e=>show%[_|e]
 let%[a,z|d]:=this;let%[t,f|c]:=Xw d;let%[u,v,w,e,_|g]:=h t f;rw[e]at c;show((Nc (Nc c).2).1)▸g
structure Rea (H:Hp) (ks:hH ZB) (rs:Gs ku):Prop where
 nd:(rs\1).Nodup
 ad:(rs.map (·.2.1)).Nodup
 at_:∀r∈rs,H r.2.1∣.dK (SD r.2.2)/\r.2.2.Nodup/\∀y,y∈r.2.2↔Rch ks r.1 y
inductive Aq
 | mk (l m:jg) (ns:ZB) (ss:ZG):vs=[.ref l,.ref m]->H l<*ns\3->ns.Nodup-> ~~~ns<=63->H m∣.lst (ss\0)->dh H ns ss-> ~~~ss<=250->(∀x,¬ Rch (ss\2) x x)->(∀d H' (rs:Gs ku),ah H H'->H d=hV->H' d∣.dK (gD rs)->Rea H' (ss\2) rs->(∀r∈rs,r.2.1≠d/\H r.2.1=hV)->(∀x,x∈rs\1↔x∈ns)->Q (.ref d) H')->Aq vs H Q E0
def qw(T:Txt K mg):↥4 "all_beneath" ["names","found"] Aq:=by
 .exists T.aO,dj,cv,u,%[l,m,ns,ss,rfl,hl,nn,nl,hm,N,be,nr|kk];show%[_,%["KCG2H~ZA1BCG3zCQTH]BA0A1BJ4Crz34DQT~K~L2A4ARBBJ5CrhX34U5}DY~9]AX34AX3U5}BDI3",dj.nd|u]|?_]
  change aS _ _ _ [!l,!m,hV,hV,hV,hV] H;show aj λD1 k1 _=>?_
  lk;show%[m,ns,ss,ρ,hm,N,be|λb H1 s1 fb hb=>k1 _ _ (aj λD2 k2 _=>?_)];lk;intro d fd;show k2 _ _ (aj λD3 k3 _=>ay λbf hK=>?_);let s2:=ah.Qa (o:= .dK []) fd;let hd:Qa H1 d (.dK []) d∣.dK (gD ([]:Gs ku)):=aa;let O:=s1.trans s2;let bl:b≠d:=λc=>by
   let%[bm,G|_]:=hb;rw[c,fd]at G;cases G
  let bt:=s1.free fd;let b0:=hb.up s2
  generalize Qa H1 d _=H2 at s2 hd O b0
  lk;show%[l,m,ns,ss,ρ,O _ _ hl,nn,nl,O _ _ hm,N.up O,be|λr H3 L s3 an Ln Ls cl rest _=>%[%[_|Qb.of an]|hK _ _ ?_]];let cw:=s2.trans s3;let b1:∀x∈ns,x∈L:=λx Y=>MN λc=>JZ (ks:=ss\2) (U:=ns.filter λx=>decide (x∉L)) (λx Y=>by
   let%[G|J]:=ow.mp Y;let%[y,e,yn|yl]:=rest x G (Zo J);show%[y,ow.mpr %[yn|Zf yl]|e]) nr (ow.mpr %[Y|Zf c])
  let Lm: ~~~(L\3)= ~~~L:=Z6 _;let Ll:=_ST.nodup_sub Ln Ls;let b2:=b0.up s3;let as:=O.trans s3;show bA (λi σ C=>A3 (E2 λo4 o5=>σ=[!l,!m,!b,!d,o4,o5]) (dJ d H3 C) (∃rs:Gs ku,A4 (C d∣.dK (gD rs)) (Rea C (ss\2) rs) (∀r∈rs,r.2.1≠d/\H3 r.2.1=hV) (rs\1=L.take i)))
   %[%[_,_|rfl],λ_ _ _ e=>e,[],s3 _ _ hd,%[Xa,Xa|λ_ h=>(nomatch h)],λ_ h=>(nomatch h)|rfl] (λi σ C h=>h.2 _ _ (λc=>by let:=s3 _ _ hd;rw[<-c,an]at this;cases this) an) ?_ ?_
  .intro i n σ C hn %[%[o4,o5|rfl],sm,rs,ac,g,rn|rk];let tk:L.take (i+1)=L.take i++[n]:=by rw[Xg,hn];rfl
   change aS _ _ _ [!l,!m,!b,!d,-n,o5] C;show aj λD4 k4 _=>?_
   lk;intro e fe;let B:e≠d:=λc=>by rw[c,ac]at fe;cases fe
   let a0:n∉rs\1:=by
    rw[rk];intro c;let%[j|hj]:=Xm c;let jl:=(Xt hj).1;rw[Yr]at jl;rw[Yg ⋯]at hj;let:=ig Ln hj hn
    lia
   let rl: ~~~rs<=63:=by
    let: ~~~(rs\1)<= ~~~L:=by rw[rk,Yr];lia
    rw[Z6]at this
    lia
   let e3:H3 e=hV:=by
    cases q:H3 e with
    | none=>rfl
    | some o=>rw[sm e o B q]at fe;cases fe
   show%[_,fM.k (k:=kj n) (ah.Qa fe _ _ ac) (by unfold gD;rw[Z6];show aC ⋯)|k4 _ _ ?_];rw[dW _ (mo a0),show gD rs++[(kj n,V.ref e)]=gD (rs++[(n,e,[])]) by unfold gD;rw[Zd];rfl];let he:Qa (Qa C e (.dK [])) d (.dK (gD (rs++[(n,e,[])]))) e∣.dK (SD []):=by rw[ap B,aa];rfl
   let b3:Qa (Qa C e (.dK [])) d (.dK (gD (rs++[(n,e,[])]))) d=_:=aa;let o4:∀c o,c≠d->C c∣o->Qa (Qa C e (.dK [])) d (.dK (gD (rs++[(n,e,[])]))) c∣o:=λc o h q=>by rw[ap h,ap (av q fe)];show q
   generalize Qa (Qa C e (.dK [])) d _=H4 at he b3 o4
   let a1:dJ d H3 H4:=λc o h q=>o4 c o h (sm c o h q)
   show az λD5 k5 _=>ay λbf hK=>?_
   lk;show%[tyD (a1 _ _ bl b2.choose_spec.1),(show 0<=lp by simp)|λp hp=>?_];let%[bm,a,b4,co,ag|cp]:=b2.get a1 bl (λxs c=>by rw[s3 _ _ hd]at c;cases c) hp n;let sp:=ah.Qa (o:= .lst []) hp;let he:=sp _ _ he;let a2:=sp _ _ b3;let a3:=a1.trans (dJ.of sp);let a4:∀c o,c≠d->C c∣o->Qa H4 p (.lst []) c∣o:=λc o h q=>sp _ _ (o4 c o h q)
   let ae:a≠e:=by
    rcases cp with rfl|⟨o,ho⟩
    .show λc=>by rw[c]at hp;let:=he;rw[c,aa]at this;cases this
    .show λc=>by rw[c,e3]at ho;cases ho
   generalize Qa H4 p _=H5 at b4 ag he a2 a3 a4 ⊢
   generalize b5:(ss.filter λt=>decide (t.2[0]?∣n))=ts at ag
   let tm: ~~~(ts\0)= ~~~ts:=Z6 _;let cs:∀t∈ts,t∈ss/\∃y z,t.2=[n,y,z]:=λt ht=>by
    rw[<-b5]at ht;let%[G|J]:=ow.mp ht;let%[x,y,z,e|_]:=(N t G).2;let J:=Zo J;rw[e]at J;show%[G,y,z|by rw[e,show x=n from Za J]]
   show%[kj n,ρ,bm,b4|u5 co %[%[_|Qb.of ag]|hK _ _ ?_]];show bA (λj σ H6=>A3 (∃o5,σ=[!l,!m,!b,!d,-n,o5]) (dJ e H5 H6) (∃M:ZB,A4 (H6 e∣.dK (SD M)) M.Nodup (∀y∈M,Rch (ss\2) n y) (∀t∈ts.take j,∀y,t.2[1]?∣y->y∈M/\∀z,Rch (ss\2) y z->z∈M)))
    %[%[_|rfl],λ_ _ _ q=>q,[],he,Xa,λ_ h=>(nomatch h)|λ_ h=>(nomatch h)] (λj σ H6 h=>h.2 _ _ ae ag) ?_ ?_
   .intro j t σ H6 ht %[%[o5|rfl],v,M,hM,Mn,Mr|Md];let%[b6,y,z|et]:=cs t (Z8 ht);show aj λD6 k6 _=>?_
    lk;let te:∀c zs,H3 c&&&zs->H6 c&&&zs:=λc zs q=>(λc o G J q=>v c o J (a3 c o G q)) c _ (λz=>by rw[z,s3 _ _ hd]at q;cases q) (λz=>by rw[z,e3]at q;cases q) q
    let t6:=te _ _ (as _ _ (N t b6).1);rw[et]at t6;let a5:=v d _ B.symm a2;let al:bI (gD (rs++[(n,e,([]:ZB))])) (kj n)∣.ref e:=by
     let%[r,ct,e1|hv]:=kL (rs:=rs++[(n,e,[])]) (y:=n) ∅;rcases Xu ct with q|q
     .show(a0 (e1▸Xx %[r,q|rfl])).elim
     .rw[Xv q]at hv;show hv
    let gn:=cu.k (k:=kj n) a5;rw[al]at gn;let ed:Ed (ss\2) n y:=%[z|et▸Xx %[t,b6|rfl]]
    let yt:=cl i n hn y ed;rw[<-rk]at yt;let%[M1,e1,n1|m1]:=E8 (M:=M) (x:=y);let a6:∀U:ZB,U.Nodup->(∀x∈U,Rch (ss\2) n x)-> ~~~U<=63:=λU G J=>Ym (_ST.nodup_sub G λx Y=>Ki (λt ht=>(N t ht).2) (J x Y)) nl
    let Ml:=a6 M Mn Mr;show%[_,gn,_,SqT.of t6,_,ρ,_,fM.k (k:=kj y) hM (by unfold SD VD;rw[Z6];show aC ⋯)|k6 _ _ (az λD7 k7 _=>?_)];rw[e1];let b9:∀x∈M1,Rch (ss\2) n x:=λx Y=>((m1 x).mp Y).elim (Mr x) λq=>q▸ .one ed
    let bb:Qa H6 e (.dK (SD M1)) e∣.dK (SD M1):=aa;let u7:∀c o,c≠e->H6 c∣o->Qa H6 e (.dK (SD M1)) c∣o:=λc o h q=>(ap h)▸q
    generalize Qa H6 e _=H7 at bb u7
    let ca:=cu.k (k:=kj n) (u7 _ _ B.symm a5);rw[al]at ca;let%[ry,I,ey|gy]:=kL (rs:=rs++[(n,e,[])]) (y:=y) (Zd▸Yz _ yt);let I:ry∈rs:=by
     rcases Xu I with q|q
     .show q
     .rw[Xv q]at ey;show(nr n (.one (by rw[<-show n=y from ey]at ed;show ed))).elim
    let cb:=cu.k (k:=kj y) (u7 _ _ B.symm a5);rw[gy]at cb;let bc:ry.2.1≠e:=av (g.at_ ry I).1 fe;lk;let%[M2,e2,n2|m2]:=xw (R:=ry.2.2) (M:=M1);let ab:=(g.at_ ry I).2;rw[ey]at ab;let cx:=a6 M1 (n1 Mn) b9;let Rl:=a6 ry.2.2 ab.1 λx Y=>(Rch.one ed).trans ((ab.2 x).mp Y)
    show%[_,ca,tyD (bb),_,SqT.of (u7 _ _ (λc=>by rw[c,hM]at t6;cases t6) t6),_,ρ,_,cb,ry.2.1,ρ,_,_,bc.symm,bb,(u7 _ _ bc (v _ _ bc (a4 _ _ (rn ry I).1 (g.at_ ry I).1))),by unfold SD VD;rw[Z6,Z6,PySem.sizeLine_eq];lia|?_];rw[e2];show k7 _ _ %[%[_|rfl],λc o h q=>(ap h)▸u7 c o h (v c o h q),M2,aa,n2 (n1 Mn),λx Y=>?_|λt' cd x ex=>?_]
    .rcases(m2 x).mp Y with q|q
     .show b9 x q
     .show(Rch.one ed).trans ((ab.2 x).mp q)
    .rw[Xg,ht]at cd;rcases Xu cd with q|q
     .let%[G|J]:=Md t' q x ex;show%[(m2 x).mpr (.inl ((m1 x).mpr (.inl G)))|λz hz=>(m2 z).mpr (.inl ((m1 z).mpr (.inl (J z hz))))]
     .rw[show t'=t from Xv q,et]at ex;obtain rfl:y=x:=Za ex;show%[(m2 y).mpr (.inl ((m1 y).mpr (.inr rfl)))|λz hz=>(m2 z).mpr (.inr ((ab.2 z).mpr hz))]
   .intro σ H6 %[%[o5|rfl],v,M,hM,Mn,Mr|Md];rw[Zn (Zi _)]at Md;let all:∀y,y∈M↔Rch (ss\2) n y:=λy=>%[Mr y|λr=>by
     let%[x,%[z|hz]|q]:=B0 r;let%[t,ht|et]:=Xw hz;let h:=Md t (b5▸ow.mpr %[ht|by rw[et];simp]) x (by rw[et];rfl);show q.elim (λq=>q▸h.1) λq=>h.2 y q]
    let ch:∀r∈rs,r.2.1≠e:=λr u=>av (g.at_ r u).1 fe
    show k5 _ _ %[%[_,_|rfl],λc o h q=>v c o (av q e3) (a3 c o h q),rs++[(n,e,M)],?_,%[?_,?_|λr u=>?_],λr u=>?_|by rw[Zd,rk,tk];rfl]
    .rw[v d _ B.symm a2];unfold gD;rw[Zd,Zd];rfl
    .rw[Zd,X8];show%[g.nd,by simp|λa ha b hb c=>a0 (by rw[<-show b=n from Xv hb,<-c];show ha)]
    .rw[Zd,X8];show%[g.ad,by simp|λa ha b hb c=>?_];let%[r,u|rfl]:=Xw ha;show ch r u (c.trans (Xv hb))
    .rcases Xu u with q|q
     .show%[v _ _ (ch r q) (a4 _ _ (rn r q).1 (g.at_ r q).1)|(g.at_ r q).2]
     .rw[Xv q];show%[hM,Mn|all]
    .rcases Xu u with q|q
     .show rn r q
     .rw[Xv q];show%[B|e3]
  .intro σ C %[%[o4,o5|rfl],sm,rs,ac,g,rn|rk];rw[Zn (Zi _)]at rk;show k3 _ _ ?_;lk;show kk d C rs (λc o e=>sm c o (av e bt) (as _ _ e)) bt ac g (λr u=>%[(rn r u).1|as.free (rn r u).2]) λx=>rk▸%[Ls x|b1 x]
structure ReF (H:Hp) (ks:hH ZB) (d:jg) (rs:Gs ku):Prop where
 at_:∃o,H d∣.frz o (.dK (gD rs))
 nd:(rs\1).Nodup
 in_:∀r∈rs,(∃o,H r.2.1∣.frz o (.dK (SD r.2.2)))/\r.2.2.Nodup/\∀y,y∈r.2.2↔Rch ks r.1 y
def ReF.up{H a:Hp}{ks:hH _}{d:jg}{rs:Gs ku}(h:ReF H ks d rs)(s:ah H a):ReF a ks d rs:=
 %[h.at_.imp λo e=>s _ _ e,h.nd|λr b=>%[(h.in_ r b).1.imp λo e=>s _ _ e|(h.in_ r b).2]]
def ReF.same{H:Hp}{ks a:hH _}{d:jg}{rs:Gs ku}(h:ReF H ks d rs)(e:∀k,k∈ks↔k∈a):ReF H a d rs:=%[h.at_,h.nd|(iC e)▸h.in_]
inductive As
 | mk (l m:jg) (ns:ZB) (ss:ZG):vs=[.ref l,.ref m]->H l<*ns\3->ns.Nodup-> ~~~ns<=63->H m∣.lst (ss\0)->dh H ns ss-> ~~~ss<=250->(∀x,¬ Rch (ss\2) x x)->(∀d H' (rs:Gs ku),ah H H'->ReF H' (ss\2) d rs->(∀x,x∈rs\1↔x∈ns)->Q (.ref d) H')->As vs H Q E0
def rD(T:Txt K mg):↥4 "all_beneath" ["names","found"] As:=by
 show(qw T).freeze.imp λvs H Q E zqw=>?_;let%[l,m,f,ss,g,h,i,j,n,p,s,u|v]:=zqw;show %[l,m,f,ss,g,h,i,j,n,p,s,u|λd C rs y G z a A B=>%[d::rs.map _|λI=>v d _ rs (λc o e=>?_) %[%[_|lD Zm z],a.nd|λr b=>%[%[_|lD (Zk _ (Xx %[r,b|ρ])) (a.at_ r b).1]|(a.at_ r b).2]] B]]
 rw[lE]
 .show y c o e
 .intro q;rcases X2.mp q with rfl|q
  .lia
  .let%[r,b|rfl]:=Xw q;rw[(A r b).2]at e;cases e
inductive At (mg:ZC)
 | mk (g:jg) (qs:ZN) (ls:ZB) (ts:ZG):vs=[.ref g]->ic mg H g qs ls ts->(∀lk,bB (bg qs) (ts\2) lk->∀x,¬ Rch lk x x)->(∀d H' (rs:Gs ku) lk ns,ah H H'->bB (bg qs) (ts\2) lk->EV (bg qs) ls ns->ReF H' lk d rs->(∀x,x∈rs\1↔x∈ns)->Q (.ref d) H')->At mg vs H Q E0
def qx(T:Txt K mg):↥7 "earlier_ones" ["ground"] (At mg):=by
 .exists T.aS,i9,q,c,%[g,qs,e,ts,rfl,a,n|r];let%[u,c3,v|y]:=a.gr;let O:=a.ll;show%[_,%["KCG1H]EA0BDIH]|AH~$A0BA1B",i9.nd|c]|aj λU k1 _=>%[g,qs,e,ts,ρ,a,n|λl Y z ss o B C G lk=>k1 _ _ ?_]]
  lk;show%[g,u,c3,v,qs,e,ts,ρ,y.up o,a.nd,a.so,⋯|λm H2 i j fm I b=>?_];let nl: ~~~i<=63:=by
   let:=_ST.nodup_sub b.nd λx J=>((b.mem x).mp J).1
   lia
  show%[m,l,i,ss,ρ,I,b.nd,nl,j _ _ B,λt p=>%[j _ _ (C t p).1|a.names lk b _ (Xx %[t,p|ρ])],G,n _ lk|λd L rs M re N=>r d L rs _ i (o.trans (j.trans M)) lk b re N]
def Kj{M:ZB}{y:ku}:(bI (SD M) (kj y)).isSome=hW↔y∈M:=by
 by_cases c:y∈M
 .unfold SD;rw[iX c];simp[c]
 .unfold SD;rw[iY c];simp[c]
abbrev GX(K:ZA):Sp:=λvs H Q _=>∃(d l:jg) (y:ku) (ks:hH ZB) (rs:Gs ku) (us:ZB),vs=[.ref d,.ref l,.str y]/\ReF H ks d rs/\H l<*us\3/\(∀x∈us,x∈rs\1)/\ ~~~us<=1000/\
 ∀a b,ah H a->(b=hW↔∃x∈us,Rch ks x y)->Q (.bl b) a
def rE(T:Txt K mg):↥1 "is_replaced" ["reach","steps","earlier"] (GX K):=by
 .exists T.aU,pK,L,B,%[d,l,y,ks,rs,us,rfl,re,C,i,ul|M];show%[_,%["KDI]}][Agc?1T1b0?2$]0P1XP20B",0,(show bp (ak hJ) ["reach","steps","earlier"] _ ["step","earlier","reach"] [(1,2),(2,0)]=hW from !0),↑["step","earlier","reach"]|B]|?_];change jh _ _ [!d,!l,-y] H;lk;show aG λG N=>?_
  lk;show%[%[_|Qb.of C]|N _ _ λF I=>?_];show bZ (λj vs m c=>(∃J,m=[J,-y,!d])/\ah H c/\∃bs:hH su,c F<*bs.map V.bl/\vs=bs.map V.bl/\ ~~~bs=j/\(bs.any id=hW↔∃x∈us.take j,Rch ks x y))
   %[%[hV|rfl],ah.Qa I,[],aa,rfl,rfl|by simp] (λ_ _ _ c ⟨_,O,_⟩=>O _ _ C) ?_ ?_
  .intro j vs m H8 n %[%[J|rfl],g,bs,b,rfl,bl|a];let e:=re.up g;let%[r,p,U|Y]:=kL (i _ (Yh n));let%[o|ho]:=e.at_;let%[%[o'|u],nd|mem]:=e.in_ r p;lk;let tk:us.take (j+1)=us.take j++[us[j]]:=by rw[Xg,Z4 n];rfl
   show%[_,.inl %[_,kj us[j],.inr %[o|ho],ρ|Y.symm],_,.inl %[_,kj y,.inr %[o'|u],ρ|ρ]|CK.mk n b (by rw[Z6];show aC ⋯) %[%[_|ρ],ah.set g I,bs++[(bI (SD r.2.2) (kj y)).isSome],by rw[aa,Zd];rfl,by rw[Zd];rfl,by rw[Z9,bl];rfl|?_]];rw[hH.any_append,Rq,a,tk];let:([(bI (SD r.2.2) (kj y)).isSome].any id=hW)↔Rch ks us[j] y:=by rw[<-U,<-mem,<-Kj];simp
   rw[this]
   constructor
   .rintro(⟨x,v,q⟩|q)
    .show%[x,Yz _ v|q]
    .show%[_,X1 _ Zm|q]
   .rintro⟨x,v,q⟩;rcases Xu v with z|z
    .show .inl %[x,z|q]
    .rw[Xv z]at q;show .inr q
  .intro vs m c %[_,g,bs,b,rfl,bl|a];rw[Zn (Zi _)]at a;show%[bs,Qb.of b|M c _ g a]
def Lp{rows:ZB}{i n:iv}(h:i<=n){k:ZB}(a:k∈bR rows i):k∈bR rows n:=by
 unfold bR at a ⊢;let%[j,b|e]:=L4.mp a;show L4.mpr %[j,J6.mpr (Zg (J6.mp b) h)|e]
def GY{p:iv×iv}{k:ZB}(h:gQ p∣k):[p].filterMap gQ=[k]:=by rw[Y4,h];rfl
def GZ{p:iv×iv}(h:gQ p=hV):[p].filterMap gQ=[]:=by rw[Y4,h];rfl
inductive xx
 | mk (n:ku) (rows:ZB):vs=[.str n,.str (wh nl rows)]->cW rows-> ~~~n<=8->(∀r H' (ts:ZG),ah H H'->H r=hV->H' r∣.lst (ts\0)->aB H' ts->ts\2=(bR rows (~~~rows-1)).map (l7 n)-> ~~~ts<=1600->Q (.ref r) H')->xx vs H Q E0
def G0(c e:iv):inV (V.str ⟨([c].toArray)⟩) [V.str (!"."),V.str ⟨([e].toArray)⟩]=decide (c=46\/c=e):=by
 let d:((⟨([c].toArray)⟩:ku)=!".")↔c=46:=%[λh=>by let:[c]=[46]:=vj (λz:ku=>z.cps.toList) h;show(Nc this).1|λh=>by rw[h];rfl]
 let f:((⟨([c].toArray)⟩:ku)=⟨([e].toArray)⟩)↔c=e:=%[λh=>by let:=vj (λz:ku=>z.cps.toList) h;simpa using this|λh=>by rw[h]]
 simp only[inV,Zy,hH.any_nil,eqV];by_cases a:c=46
 .subst a;rw[show(pp "."==(⟨([46].toArray)⟩:ku))=hW by decide +kernel];simp
 .rw[show(pp "."==(⟨([c].toArray)⟩:ku))=hX from LF.mpr λh=>a (d.mp h.symm)];by_cases b:c=e
  .subst b;simp
  .rw[show((⟨([e].toArray)⟩:ku)==⟨([c].toArray)⟩)=hX from LF.mpr λh=>b (f.mp h.symm)];simp[a,b]
def qy(T:Txt K mg):↥1 "_law_cut_ties" ["_law_name","_law_text"] xx:=by
 .exists T.bt,cj,ca,hr,%[n,rows,rfl,a,cb|kk];let%[wd,w1,w2|a3]:=a.wide;let b2:=a.text;let a4:=a.split;let cd:=a.high;let b3:=a.pos
  generalize wh nl rows=z at b2 a4
  show%[_,%["KCG2~=~>1AZBCG3RBCQ~|A2A~l2~mE~nBiLJ4LJ5dDQ'AklA4BBJ6DNM]F[46fAZA[56BDYom3AfAF&F&0Z[46AF&F&0Z[56A0BBODI3"|cj.nd]|?_]
  change aS _ _ _ [-n,-z,hV,hV,hV,hV,hV] H;show aj λD1 k1 _=>?_
  lk;show%[!1,Ym (by lia: ~~~z+2<=5000) (!1)|λR hR=>k1 _ _ ?_];rw[show(!"\n")=nl from rfl,a4];let sR:=ah.Qa (o:= .lst (rows\3)) hR;let gR:=own sR
  generalize Qa H R _=H1 at sR gR
  show aj λD2 k2 _=>?_
  lk;show%[Xl _|λL hL=>k2 _ _ (aj λD3 k3 _=>ay λa5 hK=>?_)];let sL:=sR.trans (ah.Qa (o:= .lst []) hL);let gL:Qa H1 L (.lst []) L<*[]:=aa;let M:=ah.Qa (o:= .lst []) hL _ _ gR;let fL:=sR.free hL
  generalize Qa H1 L _=g at sL gL M
  lk;show%[_,Qb.of M|λp hp=>?_];rw[tP rows (M0.mp b3)];let s3:=ah.Qa (o:= .lst ((rows.drop 1)\3)) hp;let N:=s3 _ _ M;let a6:=s3 _ _ gL;let O:Qa g p (.lst ((rows.drop 1)\3)) p<*(rows.drop 1)\3:=aa;let bb:=sL.trans s3;let b4:R≠L:=λe=>by rw[e,hL]at gR;cases gR
  let b5:p≠L:=λe=>by rw[e,gL]at hp;cases hp
  generalize Qa g p _=H3 at s3 N a6 O bb
  show%[%[_|Qb.of N],%[_|Qb.of O]|hK _ _ (wS (xs:=rows\3) (ys:=(rows.drop 1)\3) (λi G l=>A5 (E3 λo4 o5 I=>G=[-n,-z,!R,!L,o4,o5,I]) (ah H l) (l R<*rows\3) (l p<*(rows.drop 1)\3) (∃ps:ZG,A4 (l L∣.lst (ps\0)) (aB l ps) (ps\2=(bR rows i).map (l7 n)) (~~~ps<=40*i))) %[%[_,_,_|ρ],bb,N,O,[],a6,gj _,ρ|Xl _] (by rw[Z6,Z6,Yn];lia) (λi G l _ h=>%[Qb.of h.3|Qb.of h.4]) ?_ ?_)]
  .intro i x y TT G l hx hy %[%[o4,o5,I|rfl],sm,bc,be,ps,U,Y,B|m] hT;rw[Zl]at hx hy;let%[u,hu|rfl]:=Ly.mp hx;let%[r,C|rfl]:=Ly.mp hy;rw[Ye,Tj]at C;let ch:i+1< ~~~rows:=(Xt C).1;let ul:u.cps.size=wd:=a3 u (Z8 hu);let rl:r.cps.size=wd:=a3 r (Z8 C);let d:=ah.Qa (o:= .tup [V.str u,V.str r]) hT;let bf:Qa l TT (.tup [V.str u,V.str r]) TT&&&[V.str u,V.str r]:=aa;let bl:=d _ _ bc;let bm:=d _ _ be;let bt:=d _ _ U;let J:aB (Qa l TT (.tup [V.str u,V.str r])) ps:=ax Y λb z e=>d _ _ e
   let b0:=sm.trans d
   generalize Qa l TT _=HT at d bf bl bm bt J b0
   let g1:rows.getD i ⟨([].toArray)⟩=u:=by rw[Zc,hu];rfl
   let g2:rows.getD (i+1) ⟨([].toArray)⟩=r:=by rw[Zc,C];rfl
   let b6:bR rows (i+1)=bR rows i++(MO u.cps.toList r.cps.toList).filterMap gQ:=by rw[lU,g1,g2];rfl
   show%[_,SqT.of bf,ρ,_,_,ρ,_,_,ρ,ρ|?_];change vK _ _ _ _ [-n,-z,!R,!L,-u,-r,I] HT;show az λD4 k4 _=>ay λa5 hK=>?_
   lk;let us: ~~~u=wd:=ul;show%[by rw[us];show Yk (aC ⋯),⋯,⋯|?_];rw[us,No];show hK _ _ (cI (λj G g=>∃I,A5 (G=[-n,-z,!R,!L,-u,-r,I]) (ah H g) (g R<*rows\3) (g p<*(rows.drop 1)\3) (∃ps:ZG,A4 (g L∣.lst (ps\0)) (aB g ps) (ps\2=(bR rows i++((MO u.cps.toList r.cps.toList).take j).filterMap gQ).map (l7 n)) (~~~ps<=40*i+j)))
    %[_,rfl,b0,bl,bm,ps,bt,J,by rw[B];simp|m] ?_ ?_)
   .intro j G g hj %[I,rfl,ab,ag,al,qs,an,tq,qe|ql];change kN _ _ _ _ [-n,-z,!R,!L,-u,-r,hY (.int (0+j))] g;rw[OK];obtain⟨c,hc⟩:∃c,u.cps[j]?∣c:=%[u.cps[j]|by simp[show j<u.cps.size by lia]]
    obtain⟨e,he⟩:∃e,r.cps[j]?∣e:=%[r.cps[j]|by simp[show j<r.cps.size by lia]]
    let nx:=pX u r j c e hc he;let ac:atI u.cps.toList (j:ri)∣c:=cS ↑hc;let ae:atI r.cps.toList (j:ri)∣e:=cS ↑he;show az λD5 k5 _=>?_
    lk;let l1: ~~~n+(!".").length<=lp:=cO (by change ~~~n+1<=_;lia);let l2:∀c:iv,(n++pp ".").length+ ~~~(⟨([c].toArray)⟩:ku)<=lp:=λc=>cO (by
     let e:(n++pp ".").length= ~~~n+(!".").length:=Qr;let e1: ~~~(⟨([c].toArray)⟩:ku)=1:=rfl;let e2:(!".").length=1:=rfl
     lia)
    let lu: ~~~u<=lp:=by rw[us];show Yk (aC ⋯)
    let lr: ~~~r<=lp:=by rw[show ~~~r=wd from rl];show Yk (aC ⋯)
    show%[lu,c,ac,lr,e,ae,#[2]|λt ht=> .inr %[_,.inr (SqT.of aa),ρ,ρ|?_]];let st:=ah.Qa (o:= .tup [V.str (!"."),V.str ⟨([e].toArray)⟩]) ht;let as:=ax tq λb z e=>st _ _ e
    let v:=st _ _ an;let a0:=ab.trans st;let a1:=st _ _ ag;let a2:=st _ _ al
    generalize Qa g t _=H4 at st as v a0 a1 a2
    let stay:gQ (c,e)=hV->(bR rows i++((MO u.cps.toList r.cps.toList).take (j+1)).filterMap gQ).map (l7 n)=qs\2:=λe=>by rw[qe,<-nx,Y3,GZ e,Zz]
    rw[show inV (V.str ⟨([c].toArray)⟩) [V.str (!"."),V.str ⟨([e].toArray)⟩]=decide (c=46\/c=e)from G0 c e];show bC (λh=>?_) λh=>?_
    .let h: ¬ (c=46\/c=e):=↑h
     show%[tyL (Qb.of v),l1,lu,c,ac,l2 c,l1,lr,e,ae,l2 e,#[3]|λq hq=>?_];rw[jQ,jQ];let sq:=ah.Qa (o:= .tup [V.str (lnS n ⟨([c].toArray)⟩),V.str (lnS n ⟨([e].toArray)⟩),V.str n]) hq;let b1:=sq _ _ v;let b9:q≠L:=λe=>by rw[e,v]at hq;cases hq
     show%[_,b1,by rw[Z6];show aC ⋯|k5 _ _ %[_,ρ,ah.set (a0.trans sq) fL,(ap b4).trans (sq _ _ a1),(ap b5).trans (sq _ _ a2),qs++[(q,[lnS n ⟨([c].toArray)⟩,lnS n ⟨([e].toArray)⟩,n])],by rw[aa,Zd];rfl,eF (ax (ax as λb z e=>sq _ _ e) (mv b1)) ∅ ((ap b9).trans aa),?_|by rw[Z9];show Xf ql]];rw[<-nx,Y3,GY (ix %[λe=>h (.inl e)|λe=>h (.inr e)]),<-Ze,Zd,Zd,qe];rfl
    .show k5 _ _ %[_,rfl,a0,a1,a2,qs,v,as,(stay (ij λq=>?_)).symm|⋯];rw[Zh (λe=>e.elim q.1 q.2)]at h;show h rfl
   .intro G g %[I,rfl,ab,ag,al,qs,an,tq,qe|ql];rw[Zn (by rw[S5];simp;lia),<-b6]at qe;show k4 _ _ %[%[_,_,_|rfl],ab,ag,al,qs,an,tq,qe|⋯]
  .intro G l %[%[o4,o5,I|rfl],sm,bc,be,ps,U,Y,B|m];rw[Z6,Yn]at B m;show k3 _ _ ?_;lk;show kk L l ps sm fL U Y B ⋯
inductive xy
 | mk (l m:jg) (cs:ZH) (qs:ZN) (ls:ZB):vs=[.ref l,.ref m]->H l<*cC cs->H m∣.lst (qs\0)->cB H cs->cV H ls qs-> ~~~cs<=3-> ~~~qs<=60->(∀r H' (ts:ZG),ah H H'->H' r∣.lst (ts\0)->aB H' ts->ts\2=cG cs++cH qs qs.length->Q (.ref r) H')->xy vs H Q E0
def zf(T:Txt K mg):↥2 "_law_ties" ["_law_cuts_here","_law_sayings"] xy:=by
 .exists T.bu,dm,a3,hr,%[l,m,cs,qs,ls,rfl,hl,hm,ca,sa,c3,a4|kk];let O: ~~~(cC cs)= ~~~cs:=Z6 _;show%[_,(QSs.h (ai (aI 2 dm.nd rfl (bT am))
   (ai (bU OZ rfl rfl (ce (K:=K) rfl ↑0) (eY (K:=K) rfl rfl rfl (gsE rfl (aH 3 dm.nd rfl) (gsE rfl (aH 4 dm.nd rfl) cJ)))
   (ao (aI 2 dm.nd rfl (opE Hz ↑2 (aJ (qy T) hr rfl #[↑3,↑4])))))
   (ai (bU OZ rfl rfl (vT (K:=K) rfl rfl T.af rfl #[↑1]) (eY (K:=K) rfl rfl rfl (gsE rfl (aH 5 dm.nd rfl) (gsE rfl (aH 6 dm.nd rfl) cJ)))
   (ao (ifS (bq jm rfl (↑6>>aw) du)
    (ao (bD rfl (bmO (K:=K) NT PySem.F.slot_list_append PySem.F.type_list_append aZ rfl ↑2 #[(eX #[(↑6>>aw),(↑6>>aw),opE eS du (ctO ⟨t9⟩ T.ac UO rfl #[↑5])])])))
    aQ)))
   (ao (aL ↑2))))))|?_]
  change aS _ _ _ [!l,!m,hV,hV,hV,hV,hV] H;show aj λD1 k1 _=>?_
  lk;show%[Xl _|λL hL=>k1 _ _ (aj λD2 k2 _=>ay λU hK=>?_)];let sL:=ah.Qa (o:= .lst []) hL;lk;show%[%[_|Qb.of (sL _ _ hl)]|hK _ _ (eL (λi u c=>E4 λL Y o4 ts=>A7 (u=[!l,!m,!L,Y,o4,hV,hV]) (ah H c) (H L=hV) (c L∣.lst (ts.map λt:jg×ZB=>V.ref t.1)) (aB c ts) (ts\2=cG (cs.take i)) (~~~ts<=1600*i))
   %[L,_,_,[],ρ,sL,hL,aa,gj _,ρ|Xl _] (λi u c _ ⟨_,_,_,_,_,q,_,_,_,_,_⟩=>Qb.of (q _ _ hl)) ?_ ?_)]
  .intro i x u H1 B %[L,Y,o4,ts,rfl,n,fL,C,G,g|tl];let hi:i< ~~~cs:=by rw[<-O];show(Xt B).1
   obtain⟨q,hq,rfl⟩:∃q,cs[i]?∣q/\x=V.ref q.1:=by
    unfold cC at B;rw[Zl,Z4 hi]at B;show%[cs[i],Z4 hi|(Za B).symm]
   let%[an,as|a0]:=ca q (Z8 hq);show%[_,SqT.of (n _ _ an),ρ,_,_,ρ,_,_,ρ,ρ|?_];change qN _ _ _ [!l,!m,!L,hY (.str q.2.1),hY (.str (wh nl q.2.2)),hV,hV] H1;show az λD3 k3 _=>?_
   lk;show%[_,_,ρ,a0,jF as|λr H2 us s2 fr hr tu ue ul=>%[_,s2 _ _ C,_,hr,by rw[Z6,Z6];show Yk (aC ⋯)|λp I=>k3 _ _ %[p,_,_,ts++us,ρ,(n.trans s2).trans (ah.Qa I),(n.trans s2).free I,by rw[aa,Zd],ax (lT (ax G λb z e=>s2 _ _ e) tu) (λb z e=>ah.Qa I _ _ e),by rw[Zd,g,ue,l8 hq]|by rw[Z9];lia]]]
  .intro u H1 %[L,Y,o4,ts,rfl,n,fL,C,G,g|tl];rw[O,Xj]at g;show k2 _ _ (aj λD3 k3 _=>ay λU hK=>?_);lk;let ab: ~~~(qs\0)= ~~~qs:=Z6 _;show%[_,Qb.of (n _ _ hm)|hK _ _ (jo (λi u c=>E2 λo5 o6=>A3 (u=[!l,!m,!L,Y,o4,o5,o6]) (ah H c) (∃ts:ZG,A4 (c L∣.lst (ts\0)) (aB c ts) (ts\2=cG cs++cH qs i) (~~~ts<=4800+i)))
    %[_,_,ρ,n,ts,C,G,by rw[g,show cH qs 0=[]from rfl,Zz]|⋯] (λi u c _ ⟨_,_,_,q,_⟩=>Qb.of (q _ _ hm)) ?_ ?_)]
   .intro i x TT u c B %[o5,o6,rfl,n,ts,J,G,g|tl] hT;let hi:i< ~~~qs:=by rw[<-ab];show(Xt B).1
    obtain⟨q,hq,rfl⟩:∃q,qs[i]?∣q/\x=V.ref q.1:=by
     rw[Zl,Z4 hi]at B;show%[qs[i],Z4 hi|(Za B).symm]
    let s0:=ah.Qa (o:= .tup [.int i,.ref q.1]) hT;let j:ah H (Qa c TT (.tup [.int i,.ref q.1])):=n.trans s0;let ac:Qa c TT (.tup [.int i,.ref q.1]) TT&&&[.int i,.ref q.1]:=aa;let d:=s0 _ _ J;let v:=ax G λb z e=>s0 _ _ e
    generalize Qa c TT _=HT at j ac d v
    let ae:=sa q (Z8 hq);let st:=SqT.of (K:=K) (j _ _ ae.1);let M:=fk hq;show%[_,SqT.of ac,ρ,_,_,ρ,_,_,ρ,ρ|?_];change kN _ _ _ _ [!l,!m,!L,Y,o4,hY (.int i),hY (.ref q.1)] HT;show az λD4 k4 _=>?_
    lk;rcases ae.2 with⟨wd,a,b,e,hw,ma,mb,_⟩|⟨wd,a,y,e,hw,_⟩
    .rw[e]at st M;show%[_,st,_,ρ,ρ|bC (λN=>?_) λN=>?_]
     .rw[show h9 i [V.str wd,V.str a,V.str b]∣[a,b,vp i]from ix (V.str.inj (Zo N))]at M;let a2: ~~~(pp (toString (i:ri)))<=21:=by
       let e:=PySem.int_text_length_le10 (a:=(i:ri)) (k:=20) (!1) (by let:(i:ri).natAbs=i:=rfl;lia);rw[PySem.ofString_length];lia
      let e1:(!"#").length=1:=!0
      let ag:(i:ri).natAbs.log2<1920:=QF (iv.log2_le_self _) (by let:(i:ri).natAbs=i:=rfl;lia);show%[tyL (Qb.of d),_,st,_,ρ,_,st,_,ρ,ag,cO ⋯,#[3]|λp I=>?_];rw[show pp "#"++pp (toString (i:ri))=vp i from by unfold vp;rw[tT]];let sp:=ah.Qa (o:= .tup [V.str a,V.str b,V.str (vp i)]) I;let al:=sp _ _ d;let a1:p≠L:=λe=>by rw[e,d]at I;cases I
      show%[_,al,by rw[Z6];show aC ⋯|k4 _ _ %[_,_,ρ,ah.set (j.trans sp) fL,ts++[(p,[a,b,vp i])],by rw[aa,Zd];rfl,eF (ax (ax v λb z e=>sp _ _ e) (mv al)) ∅ ((ap a1).trans aa),?_|by rw[Z9];show Xf tl]];rw[M,Zd,g,<-Ze];rfl
     .rw[show h9 i [V.str wd,V.str a,V.str b]=hV from ij λz=>N (Zf (by rw[z]))]at M;show k4 _ _ %[_,_,rfl,j,ts,d,v,?_|⋯];rw[M,g,kw.toList_none,Zz]
    .rw[e]at st M;show%[_,st,_,ρ,ρ|?_];rw[ij (by rcases hw with rfl|rfl<;> decide)];show k4 _ _ %[_,_,rfl,j,ts,d,v,?_|⋯];rw[M,g];change _=_++(_++[]);rw[Zz]
   .intro u c %[o5,o6,rfl,n,ts,J,G,g|tl];rw[ab]at g;show k3 _ _ ?_;lk;show kk L c ts n J G g
def qz{S:ku->ku->Prop}{P:ku->Prop}{x y:ku}(h:cX S x y)(e:P x)(d: ¬ P y):∃a b,(S a b\/S b a)/\P a/\ ¬ P b/\cX S x a:=by
 induction h with
 | refl=>show(d e).elim
 | @step y z c s f=>
   by_cases p:P y
   .show%[y,z,s,p,d|c]
   .show f p
structure Rnd (ls:ZB) (ps:hH (ku×ku)) (S:ku->ku->Prop) (f:ku->ku) (r:iv):Prop where
 con:∀z∈ls,cX S z (f z)
 dn:∀z∈ls,aM z (f z)=hX
 cnt:∀m∈ls,cL S m m->(∀z∈ls,cX S m z->f z=m)\/r<= ~~~(ps.filter λp=>decide (f p.1=m/\f p.2=m))
def Rnd.nil{a:ZB}{ps:hH (ku×ku)}{S:ku->ku->Prop}:Rnd a ps S id 0:=%[λz _=> .refl z,λz _=>df z|λm b _=> .inr (Xl _)]
def Au{c:Type}{p q:c->su}:∀{l:hH c},(∀x∈l,p x=hW->q x=hW)-> ~~~(l.filter p)<= ~~~(l.filter q)
 |[],_=>Zi _
 | x::l,h=>by
   let e:=Au (l:=l) λy d=>h y (Zk _ d)
   let f:=h x Zm;rw[Y7,Y7];cases a:p x<;> cases b:q x<;> simp_all
   lia
def Av{d:Type}{p q:d->su}:∀{l:hH d},(∀x∈l,p x=hW->q x=hW)->(∃x∈l,q x=hW/\p x=hX)-> ~~~(l.filter p)< ~~~(l.filter q)
 |[],_,h=>(nomatch h.choose_spec.1)
 | x::l,h,⟨y,c,e,f⟩=>by
   let sub:∀y∈l,p y=hW->q y=hW:=λy c=>h y (Zk _ c)
   let g:=h x Zm;rw[Y7,Y7];rcases X2.mp c with rfl|c
   .let:=Au sub;rw[e,f];simp
    lia
   .let i:=Av sub %[y,c,e|f];cases a:p x<;> cases b:q x<;> simp_all
    lia
structure Mid (ls:ZB) (S T:ku->ku->Prop) (f g:ku->ku):Prop where
 con:∀z∈ls,cX S z (g z)
 le:∀z∈ls,aM (f z) (g z)=hX
 don:∀a b,T a b->aM (f a) (g b)=hX/\aM (f b) (g a)=hX
def eI{x y z:ku}(b:aM y x=hX)(a:aM z y=hX):aM z x=hX:=by
 cases h:aM z x
 .rfl
 .by_cases e:y=x
  .rw[e,h]at a;cases a
  .rw[dQ h (fG b e)]at a;cases a
def Mid.step{i:ZB}{S T:ku->ku->Prop}{f g:ku->ku}{a b:ku}(h:Mid i S T f g)(ws:∀x y,S x y->x∈i/\y∈i)(s:S a b)(sub:∀x y,T x y->S x y){v:ku}(l:v=if aM (g b) (g a)=hW then g b else g a):
 Mid i S (λx y=>T x y\/(x=a/\y=b)) f (λx=>if x=b then v else if x=a then v else g x):=by
 let%[m|n]:=ws _ _ s;let v1:aM (g a) v=hX:=by
  rw[l];split
  .cases q:aM (g a) (g b)
   .rfl
   .rename_i c;let:=dQ c q;rw[df]at this;cases this
  .show df _
 let o:aM (g b) v=hX:=by
  rw[l];split
  .show df _
  .rename_i c;simpa using c
 let p:cX S a v:=by
  rw[l];split
  .show(cX.one (.inl s)).trans (h.con b n)
  .show h.con a m
 let d:∀x∈i,aM (g x) (if x=b then v else if x=a then v else g x)=hX:=λx _=>by
  split
  .rename_i e;rw[e];show o
  .split
   .rename_i e;rw[e];show v1
   .show df _
 show%[λz j=>?_,λz j=>eI (d z j) (h.le z j)|λx y t=>?_]
 .split
  .rename_i e;rw[e];show(cX.one (.inr s)).trans p
  .split
   .rename_i e;rw[e];show p
   .show h.con z j
 .rcases t with t|⟨rfl,rfl⟩
  .let%[r|u]:=ws _ _ (sub _ _ t);show%[eI (d y u) (h.don x y t).1|eI (d x r) (h.don x y t).2]
  .show%[?_|?_]
   .rw[ix rfl];show eI v1 (h.le x m)
   .rw[ix (rfl:x=x),ite_self];show eI o (h.le y n)
def Rnd.step{n:ZB}{ps:hH (ku×ku)}{S:ku->ku->Prop}{f g:ku->ku}{r:iv}(h:Rnd n ps S f r)(o:∀x y,S x y↔(x,y)∈ps)(ws:∀x y,S x y->x∈n/\y∈n)(M:Mid n S S f g):Rnd n ps S g (r+1):=by
 show%[M.con,λz d=>eI (M.le z d) (h.dn z d)|λm u A=>?_];let i:∀{y},cX S m y->aM m y=hX->y=m:=λ{y} c l=>by
  by_cases q:y=m
  .show q
  .let:=fG (A.2 _ c) q;rw[l]at this;cases this
 let j:∀z∈n,f z=m->g z=m:=λz d e=>by
  let c:=h.con z d;let l:=M.le z d;rw[e]at c l;show i (c.symm.trans (M.con z d)) l
 rcases h.cnt m u A with q|q
 .show .inl λz d c=>j z d (q z d c)
 .by_cases all:∀z∈n,cX S m z->f z=m
  .show .inl λz d c=>j z d (all z d c)
  .obtain⟨z,d,c,ne⟩:∃z,z∈n/\cX S m z/\f z≠m:=by
    simp only[Po]at all;let%[z,d,c|ne]:=all;show%[z,d,c|ne]
   let G:f m=m:=i (h.con m u) (h.dn m u);let%[a,b,s,v,B|ca]:=qz (P:=λx=>f x=m) c G ne;let H:b∈n:=s.elim (λs=>(ws _ _ s).2) λs=>(ws _ _ s).1
   let C:g b=m:=i ((ca.trans (.one s)).trans (M.con b H)) (by
    rcases s with s|s
    .let:=(M.don a b s).1;rwa[v]at this
    .let:=(M.don b a s).2;rwa[v]at this)
   let E:g a=m:=j a (s.elim (λs=>(ws _ _ s).1) λs=>(ws _ _ s).2) v;let:=Av (p:=λp:ku×ku=>decide (f p.1=m/\f p.2=m)) (q:=λp=>decide (g p.1=m/\g p.2=m)) (l:=ps) (λp q h=>by
    let e:=Zo h;let:=ws _ _ ((o p.1 p.2).mpr q);show Zf %[j _ this.1 e.1|j _ this.2 e.2]) (by
    rcases s with s|s
    .show%[(a,b),(o a b).mp s,Zf %[E|C]|Zh λh=>B h.2]
    .show%[(b,a),(o b a).mp s,Zf %[C|E]|Zh λh=>B h.1])
   show .inr ⋯
def E9{a:ZB}{S:ku->ku->Prop}(ws:∀x y,S x y->x∈a/\y∈a):∀(n:iv) {z:ku},xh a z<=n->z∈a->∃m,cL S z m:=λn=>by
 induction n with
 | zero=>
   intro z g b;show%[z,.refl z|λy c=>?_];cases q:aM y z
   .rfl
   .let:=qg (c.within ws b) q
    lia
 | succ n h=>
   intro z g b;by_cases all:∀y,cX S z y->aM y z=hX
   .show%[z,.refl z|all]
   .simp only[Po]at all;let%[y,c|q]:=all;let e:=c.within ws b;let:=qg e ↑q;let%[m|f]:=h ⋯ e;show%[m,c.trans f.1|λu d=>f.2 u (c.symm.trans d)]
def Rnd.done{i:ZB}{ps:hH (ku×ku)}{S:ku->ku->Prop}{f:ku->ku}(h:Rnd i ps S f ps.length)(n:∀x y,S x y↔(x,y)∈ps)(ws:∀x y,S x y->x∈i/\y∈i){z:ku}(l:z∈i):f z∈i/\cL S z (f z):=by
 let%[m|g]:=E9 ws _ (Zi _) l;let j:=g.1.within ws l;let d:cL S m m:=%[.refl m|λy c=>g.2 y (g.1.trans c)]
 let e:f z=m:=by
  rcases h.cnt m j d with q|q
  .show q z l g.1.symm
  .let all:=hH.length_filter_eq_length_iff.mp (iv.le_antisymm (Yo _ _) q);let p:f m=m:=(cL.one %[h.con m j|λy c=>eI (h.dn m j) (d.2 y c)] d)
   show J0 λne=>?_
   let%[a,b,s,r,o|_]:=qz (P:=λx=>f x=m) g.1.symm p ne;rcases s with s|s
   .show o (Zo (all _ ((n a b).mp s))).2
   .show o (Zo (all _ ((n b a).mp s))).1
 rw[e];show%[j|g]
def G1{a:ZB}{g h:ku->V}{z:ku}(b:z∉a)(e:∀x∈a,h x=g x):db (VD a g) (kj z) (h z)=VD (a++[z]) h:=by
 rw[dW _ (iY b)];unfold VD;rw[Zd];show vj (·++_) (Yv λx c=>by rw[e x c])
abbrev sc2(t:jg×ZB):ku:=t.2.getD 1 LD
abbrev StB(H:Hp)(d:jg)(ss:ZG):Prop:=∃a,H d∣.dK a/\∀n:ku,(∃l,bI a (kj n)∣.ref l/\H l∣.lst (((ss.filter λt=>decide (t.2[0]? =hY n)).map sc2)\3))\/(bI a (kj n)=hV/\∀t∈ss,t.2[0]? ≠hY n)
def StB.up{H e:Hp}{d:jg}{ss:hH _}(h:StB H d ss)(s:ah H e):StB e d ss:=by
 let%[c,f|g]:=h;show%[c,s _ _ f|λn=>(g n).imp_left λ⟨l,a,b⟩=>%[l,a|s _ _ b]]
def StB.at{H i:Hp}{e d q p:jg}{ss:hH _}(h:StB H e ss)(m:e≠d)(r:∃x,H d∣.dK x)(s:H q=hV)(f:∀b o,b≠d->b≠q->H b∣o->i b∣o)(u:∃x,i q<*x)(y:i p=hV)(n:ku):
 ∃g a,Qa i p (.lst []) e∣.dK g/\(bI g (kj n)).getD (.ref p)= .ref a/\Qa i p (.lst []) a∣.lst (((ss.filter λt=>decide (t.2[0]? =hY n)).map sc2)\3)/\a≠q:=by
 let%[g,z|B]:=h;let sp:=ah.Qa (o:= .lst []) y;let A:=sp _ _ (f e _ m (av z s) z);rcases B n with⟨l,v,j⟩|⟨v,C⟩
 .show⟨g,l,A,by rw[v];rfl,sp _ _ (f l _ (λc=>by let%[x|r]:=r;rw[c,r]at j;cases j) (av j s) j),av j s⟩
 .show%[g,p,A,by rw[v];rfl,?_|λc=>by let%[x|e]:=u;rw[<-c,y]at e;cases e];rw[Oj.mpr λt E c=>C t E (Zo c)];show aa
def StB.fr{H i:Hp}{e d q:jg}{ss:hH _}(h:StB H e ss)(a:e≠d)(u:∃x,H d∣.dK x)(j:H q=hV)(f:∀b o,b≠d->b≠q->H b∣o->i b∣o):StB i e ss:=by
 let%[g,m|r]:=h;show%[g,f e _ a (av m j) m|λn=>(r n).imp_left λ⟨l,s,p⟩=>%[l,s|f l _ (λc=>!2) (av p j) p]]
abbrev Fl(ks:hH ZB)(st:ku)(F R:ZB)(g:ku->ri)(a:ri):Prop:=∃rs b k,rs\1=F/\Lev ks st rs b k R/\a=((k:iv):ri)/\∀y∈F,g y=((b y:iv):ri)
def Fa{ks:hH ZB}{R:ZB}:∀{A:ZB},(∀y∈A,∃p∈R,Ed ks p y)->∃new:hH (ku×jg×ZB),new\1=A/\∀r∈new,r.2.2∈ks/\∃p z,p∈R/\r.2.2=[p,r.1,z]
 |[],_=>%[[],rfl|λ_ h=>nomatch h]
 | a::A,h=>by
   let%[new,e|c]:=Fa λy d=>h y (Zk _ d)
   let%[p,f,z|g]:=h a Zm;show%[(a,0,[p,a,z])::new,by rw[Yw,e]|λr b=>?_];rcases X2.mp b with rfl|b
   .show%[g,p,z,f|ρ]
   .show c r b
def Fl.step{ks:hH _}{st:ku}{F R A:ZB}{g b:ku->ri}{a:ri}(h:Fl ks st F R g a)(nd:(F++A).Nodup)(e:∀y∈A,b y=a+1/\∃p∈R,Ed ks p y)(f:∀y∈F,b y=g y)(i:∀x∈R,∀y,Ed ks x y->y∈F++A):Fl ks st (F++A) A b (a+1):=by
 let%[rs,m,k,rfl,L,rfl|j]:=h;let%[new,rfl|l]:=Fa λy d=>(e y d).2
 let L2:=L.step (by rw[Zd];show nd) l (by rw[Zd];show i);show%[rs++new,_,k+1,Zd,L2,ρ|λy d=>?_];by_cases c:y∈new\1
 .rw[ix c,(e y c).1];rfl
 .let:=(Xu d).resolve_right c;rw[ij c,f y this,j y this]
def Fl.end_{ks:hH _}{st:ku}{F:ZB}{g:ku->ri}{a:ri}(h:Fl ks st F [] g a){y:ku}(b:y∈F):∃n:iv,g y=((n+1:iv))/\Dst ks st (n+1) y/\∀m,Dst ks st (m+1) y->n<=m:=by
 let%[rs,c,k,rfl,L,rfl|e]:=h;let%[j|f]:=L.dst b;obtain⟨n,d⟩:∃n,c y=n+1:=%[c y-1|⋯]
 show%[n,by rw[e y b,d],d▸f|λm i=>?_];let:=L.min b i
 lia
abbrev Far(ks:hH ZB)(x:ku)(F:ZB)(g:ku->ri):Prop:=∀y∈F,∃n:iv,g y=((n+1:iv):ri)/\Dst ks x (n+1) y/\∀m,Dst ks x (m+1) y->n<=m
inductive Fb
 | mk (l:jg) (st:ku) (ns:ZB) (ss:ZG):vs=[.ref l,.str st]->H l∣.lst (ss\0)->dh H ns ss-> ~~~ss<=250->(∀d H' (F:ZB) (g:ku->ri),ah H H'->H d=hV->H' d∣.dK (VD F λx=> .int (g x))->F.Nodup->(∀y,y∈F↔Rch (ss\2) st y)->Far (ss\2) st F g->Q (.ref d) H')->Fb vs H Q E0
abbrev Lq(H:Hp)(l e d:jg)(st:ku)(ss:ZG)(m:iv)(h:_LL.St)(b:Hp):Prop:=∃(r:jg) (a:ri) (i j n o c f:kw V) (R F:ZB) (g:ku->ri),h=[!l,-st,!e,i,j,n,!d,!r,hY (.int a),o,c,f]/\ah H b/\StB b e ss/\b r<*R\3/\b d∣.dK (VD F λx=> .int (g x))/\F.Nodup/\(∀y∈F,Rch (ss\2) st y)/\(∀x∈R,x=st\/x∈F)/\(∀x,(x=st\/x∈F)->x∈R\/∀y,Ed (ss\2) x y->y∈F)/\Fl (ss\2) st F R g a/\m=2*(250-F.length) +R.length.min 1
def B1(T:Txt K mg):↥1 "_law_far" ["_law_laid","_law_one"] Fb:=by
 .exists T.bx,bv,dg,hr,%[l,st,ns,ss,rfl,hl,bf,dk|kk];let dn: ~~~(ss\0)= ~~~ss:=Z6 _;show%[_,%["KCG2zCQT0iLJ3LJ4LJ5dDY~vm~w~x2A3ARBBA4BCG6zCG7RA1BCG8EC~IM^7RBCG8FV8ECG9RBCQT7J:DQT~K~L2As:ARBBJ;DN~Ms;6Cr86s;DYom9As;BODG79DI6",bv.nd|hr]|?_]
  change aS _ _ _ [!l,-st,hV,hV,hV,hV,hV,hV,hV,hV,hV,hV] H;show aj λD1 k1 _=>?_
  lk;intro e fe;show k1 _ _ (aj λD2 k2 _=>ay λa2 hK=>?_);lk;let se:=ah.Qa (o:= .dK []) fe;show%[%[_|Qb.of (se _ _ hl)]|hK _ _ ?_];show bA (λj N C=>A3 (E3 λo3 o4 o5=>N=[!l,-st,!e,o3,o4,o5,hV,hV,hV,hV,hV,hV]) (ah H C) (∃O:Gs ku,A4 (jc V.str H C e O) ((O\1).Nodup) (∀g∈O,g.2.2=((ss.take j).filter λt=>decide (t.2[0]?∣g.1)).map sc2) (∀n,n∈O\1↔∃t∈ss.take j,t.2[0]?∣n)))
   %[%[_,_,_|rfl],se,[],%[aa,λg hg=>(nomatch hg)|Xa],Xa,(λg hg=>nomatch hg)|by simp] (λj N C h=>h.2 _ _ hl) ?_ ?_
  .intro j t N C Y %[%[o3,o4,o5|rfl],sm,O,I,gn,gf|gk];let tm:=Z8 Y;let j1:j< ~~~ss:=(Xt Y).1;let%[cy,n,y,z,et|_]:=bf t tm;let hn:t.2[0]?∣n:=by rw[et];rfl
   let M:sc2 t=y:=by unfold sc2;rw[et];rfl
   let tk:ss.take (j+1)=ss.take j++[t]:=by rw[Xg,Y];rfl
   let bl:=sm _ _ cy;rw[et]at bl;show%[_,SqT.of bl,ρ,_,_,ρ,_,_,ρ,_,_,ρ,ρ|?_];change mV _ _ [!l,-st,!e,-n,-y,-z,hV,hV,hV,hV,hV,hV] C;show az λD4 k4 _=>?_
   lk;let gl: ~~~O<= ~~~ss:=by
    let:O\1 ⊆ ss.filterMap λt=>t.2[0]? :=λy M=>by
     let%[t,Y|e]:=(gk y).mp M;show Mg.mpr %[t,X3 Y|e]
    let:=_ST.nodup_sub gn λx U=>this U
    rw[Z6]at this;show Ym this (NL _ _)
   let keys:∀(a3:Gs ku),(∀y,y∈a3\1↔y∈O\1\/y=n)->∀y,y∈a3\1↔∃t∈ss.take (j+1),t.2[0]?∣y:=λa3 h y=>by
    rw[h,gk,tk]
    constructor
    .rintro(⟨t',h1,h2⟩|rfl)
     .show%[t',Yz _ h1|h2]
     .show%[t,X1 _ Zm|hn]
    .rintro⟨t',h1,h2⟩;rcases Xu h1 with q|q
     .show .inl %[t',q|h2]
     .rw[Xv q,hn]at h2;show .inr (Za h2).symm
   show%[tyD (I.at_),#[0]|λp hp=>%[kj n,ρ,gD O,?_,?_,λv hv=>?_|λhv=>?_]]
   .rw[ap (λc=>by rw[<-c,I.at_]at hp;cases hp)];show I.at_
   .unfold gD;rw[Z6];show aC ⋯
   .let%[q,hq,e1|rfl]:=fo hv;let sp:=ah.Qa (o:= .lst []) hp;let hl:=sp _ _ (I.la q hq).2;let G:=(I.up sp).add gn hq y;let ml: ~~~q.2.2<= ~~~ss:=by
     rw[gf q hq,Z6];show Ym (Yo _ _) (by rw[Yr];lia)
    let ka:(mS q.1 y O)\1=O\1:=by
     unfold mS;rw[Yx];show Yv λg _=>?_
     change(if g.1=q.1 then(g.1,g.2.1,g.2.2++[y])else g).1=_
     split<;> rfl
    show%[tyL (Qb.of hl),_,hl,by rw[Z6];show aC ⋯|k4 _ _ %[%[_,_,_|ρ],ah.set (sm.trans sp) (I.la q hq).1,_,G,by rw[ka];show gn,λg hg=>?_|keys _ λy=>?_]]
    .unfold mS at hg;let%[g0,h0|rfl]:=Xw hg;rw[tk,Y6,Zd];by_cases c:g0.1=q.1
     .rw[ix c];change g0.2.2++[y]=_++(Nu (λt=>decide (t.2[0]?∣g0.1)) [t]).map sc2;rw[gf g0 h0,Y9 (by rw[hn,c,e1];simp),Ya,Yw,QR,M]
     .rw[ij c,gf g0 h0,Y8 (by rw[hn,<-e1];simpa using λz=>c z.symm),Ya,QR,Zz]
    .rw[ka];show%[.inl|λh=>h.elim id λh=>by rw[h,<-e1];show Xx %[q,hq|ρ]]
   .let nk:n∉O\1:=λh=>by
     let%[q,hq|c]:=Xw h;let:=iV hq;rw[c,hv]at this;show this rfl
    let de:e≠p:=λq=>by rw[<-q,I.at_]at hp;cases hp
    let gp:Qa (Qa C p (.lst [])) e (.dK (db (gD O) (kj n) (.ref p))) p<*[]:=by rw[ap de.symm,aa]
    show%[tyL (Qb.of gp),[],gp,(show 0<lp by decide)|k4 _ _ %[%[_,_,_|ρ],ah.set (ah.set (sm.trans (ah.Qa hp)) fe) (sm.free hp),_,I.new sm hp n y nk,?_,λg hg=>?_|keys _ λy=>?_]]
    .rw[Zd,X8];show%[gn,by simp|λa ha b hb c=>nk (by rw[<-show b=n from Xv hb,<-c];show ha)]
    .rw[tk,Y6,Zd];rcases Xu hg with q|q
     .let c:g.1≠n:=λc=>nk (by rw[<-c];show Xx %[g,q|rfl])
      rw[gf g q,Y8 (by rw[hn];simpa using λz=>c z.symm),Ya,QR,Zz]
     .rw[Xv q];change [y]=_++(Nu (λt=>decide (t.2[0]?∣n)) [t]).map sc2;rw[Y9 (by rw[hn];simp),Ya,Oj.mpr λt' cM c=>nk ((gk n).mpr %[t',cM|Zo c]),Yw,M];rfl
    .rw[Zd,Yy,Yw,QR,X4]
  .intro N C %[%[o3,o4,o5|rfl],sm,O,I,gn,gf|gk];rw[Zn (Zi _)]at gf gk;let hb:StB C e ss:=⟨_,I.at_,λn=>by
    cases hv:bI (gD O) (kj n)with
    | none=>
      show .inr %[rfl|λt Y c=>?_];let%[q,hq|c]:=Xw ((gk n).mpr %[t,Y|c]);let:=iV hq;rw[c,hv]at this;show this rfl
    | some v=>
      let%[q,hq,e1|rfl]:=fo hv;show .inl %[_,rfl|?_];rw[(I.la q hq).2,gf q hq,e1]⟩
   show k2 _ _ (aj λD3 k3 _=>?_);lk;intro d fd;let s1:=ah.Qa (o:= .dK []) fd;show k3 _ _ (aj λD4 k4 _=>?_);let bm:=hb.up s1;let bt:Qa C d (.dK []) d∣.dK (VD [] λx=> .int ((λ_=>0:ku->ri) x)):=aa;let b0:=sm.trans s1;let b1:=sm.free fd;let a4:e≠d:=λc=>by
    let%[b2,h1|_]:=hb;rw[c,fd]at h1;cases h1
   generalize Qa C d _=H1 at bm bt b0
   lk;show%[#[1]|λr0 c0=>k4 _ _ (aj λD5 k5 _=>?_)];let s2:=ah.Qa (o:= .lst [V.str st]) c0;let b3:Qa H1 r0 (.lst [V.str st]) r0<*[st]\3:=aa;let b4:=s2 _ _ bt;let b5:=bm.up s2;let b6:=b0.trans s2
   generalize Qa H1 r0 _=H2 at b6 b3 b4 b5
   lk;show k5 _ _ (aj λD6 k6 _=>?_);show%[Lq H l e d st ss,%[_,r0,0,o3,o4,o5,hV,hV,hV,[st],[],_,ρ,b6,b5,b3,b4,Xa,(λ_ h=>nomatch h),(λx h=>Xv h▸ .inl rfl),(λx h=> .inl (h.elim (λh=>h▸Zm) λh=>nomatch h)),%[[],_,0,ρ,.nil,ρ|λ_ h=>nomatch h]|ρ]|?_];intro m N H3 %[r,B,o3,o4,o5,o9,ag,J,R,F,g0,rfl,s3,c1,b9,ca,Fn,Fr,c2,cl,fl|rfl];lk;let few:∀{X:ZB},X.Nodup->(∀y∈X,Rch (ss\2) st y)-> ~~~X<=250:=λ{X} xn xr=>by
    let:=_ST.nodup_sub xn (m:=ss.map sc2) λy M=>by
     let:∃a,Ed (ss\2) a y:=by
      cases xr y M with
      | one e=>show%[_|e]
      | more _ e=>show%[_|e]
     let%[a,z|L]:=this;let%[t,Y|et]:=Xw L;show Xx %[t,Y|by unfold sc2;rw[et];rfl]
    rw[Z6]at this
    lia
   show%[Xl _|λp fp=>%[R\3,ah.Qa fp _ _ b9,aa|bC (λh=>?_) λh=>?_]]
   .let R0:R≠[]:=λc=>by rw[c]at h;show on rfl (Zo h)
    let s4:=ah.Qa (o:= .lst []) fp;let ab:=s4 _ _ b9;let ac:=s4 _ _ ca;let as:=c1.up s4;let a5:=s3.trans s4
    generalize Qa H3 p _=H4 at ab ac as a5
    show⟨λc3 C=>∃m',m'<2*(250-F.length) +R.length.min 1/\Lq H l e d st ss m' c3 C,λ_ _ h=>h,Xl _,λq fq=>ay λa2 hK=>?_⟩;let a6:d≠q:=av ac fq;let c4:=a5.free fq;let f0:∀b o,b≠d->b≠q->H4 b∣o->Qa H4 q (.lst []) b∣o:=λb o _ n e=>by rw[ap n];show e
    let cb:Qa H4 q (.lst []) q<*([]:ZB)\3:=aa;let cd:Qa H4 q (.lst []) d∣.dK (VD (F++[]) λx=> .int (g0 x)):=by rw[ap a6,Zz];show ac
    let ch:=a5.trans (ah.Qa (o:= .lst []) fq);let co:r≠d:=λc=>by rw[c,ac]at ab;cases ab
    let cp:r≠q:=av ab fq
    generalize Qa H4 q _=H5 at f0 cb cd ch
    lk;show%[%[_|Qb.of (f0 _ _ co cp ab)]|hK _ _ ?_];let Rm: ~~~(R\3)= ~~~R:=Z6 _;show bA (λi N C=>E4 λ(ag J:kw V) (A:ZB) (g:ku->ri)=>A9 (N=[!l,-st,!e,o3,o4,o5,!d,!r,hY (.int (B+1)),!q,ag,J]) (ah H C) (∀b o,b≠d->b≠q->H4 b∣o->C b∣o) (C q<*A\3) (C d∣.dK (VD (F++A) λx=> .int (g x))) ((F++A).Nodup) (∀y∈A,Rch (ss\2) st y/\g y=B+1/\∃p∈R,Ed (ss\2) p y) (∀y∈F,g y=g0 y) (∀x∈R.take i,∀y,Ed (ss\2) x y->y∈F++A))
     %[_,_,[],g0,rfl,ch,f0,cb,cd,by rw[Zz];show Fn,(λ_ h=>nomatch h),(λ_ _=>rfl)|λ_ h=>nomatch h] (λi N C ⟨_,_,_,_,_,_,f,_,_,_,_,_,_⟩=>f _ _ co cp ab) ?_ ?_
    .intro i n N H6 hn %[ag,J,A,g,rfl,s6,f6,a0,bb,An,Ar,Ao|Ad];let tk:R.take (i+1)=R.take i++[n]:=by rw[Xg,hn];rfl
     let nR:n=st\/Rch (ss\2) st n:=(c2 n (Z8 hn)).imp id (Fr n);change vK _ _ _ _ [!l,-st,!e,o3,o4,o5,!d,!r,hY (.int (B+1)),!q,-n,J] H6;show az λD7 k7 _=>ay λa2 hK=>?_
     lk;let%[dp,cs|_]:=id as;show%[tyD (f6 e _ a4 (av cs fq) cs),#[0]|λp2 ct=>?_];let%[b2,a,cv,c5,ae|c6]:=as.at a4 %[_|ac] fq f6 %[_|a0] ct n;let sp:=ah.Qa (o:= .lst []) ct;let cw:=sp _ _ a0;let bc:=sp _ _ bb;let s7:=s6.trans sp;let f7:∀b o,b≠d->b≠q->H4 b∣o->Qa H6 p2 (.lst []) b∣o:=λb o n1 n2 e=>sp _ _ (f6 b o n1 n2 e)
     let da:a≠d:=λc=>by rw[c,bc]at ae;cases ae
     generalize Qa H6 p2 _=H7 at cv ae cw bc s7 f7
     show%[kj n,ρ,b2,cv|u5 c5 %[%[_|Qb.of ae]|hK _ _ ?_]];let yI:∀y,y∈(ss.filter λt=>decide (t.2[0]?∣n)).map sc2↔Ed (ss\2) n y:=λy=>by
      rw[OD]
      constructor
      .rintro⟨t,Y,rfl⟩;let%[h1|h2]:=ow.mp Y;let%[_,x,y,z,et|_]:=bf t h1;let h2:=Zo h2;rw[et]at h2;obtain rfl:x=n:=Za h2;show%[z|Xx %[t,h1|by unfold sc2;rw[et];rfl]]
      .rintro⟨z,L⟩;let%[t,Y|et]:=Xw L;show%[t,ow.mpr %[Y|Zf (by rw[et];rfl)]|by unfold sc2;rw[et];rfl]
     generalize (ss.filter λt=>decide (t.2[0]?∣n)).map sc2=ys at ae yI
     let ym: ~~~(ys\3)= ~~~ys:=Z6 _;show bA (λj N C=>E3 λ(J:kw V) (A:ZB) (g:ku->ri)=>A11 (N=[!l,-st,!e,o3,o4,o5,!d,!r,hY (.int (B+1)),!q,-n,J]) (ah H C) (∀b o,b≠d->b≠q->H4 b∣o->C b∣o) (C a<*ys\3) (C q<*A\3) (C d∣.dK (VD (F++A) λx=> .int (g x))) ((F++A).Nodup) (∀y∈A,Rch (ss\2) st y/\g y=B+1/\∃p∈R,Ed (ss\2) p y) (∀y∈F,g y=g0 y) (∀x∈R.take i,∀y,Ed (ss\2) x y->y∈F++A) (∀y∈ys.take j,y∈F++A))
      %[_,A,g,rfl,s7,f7,ae,cw,bc,An,Ar,Ao,Ad|λ_ h=>nomatch h] (λj N C ⟨_,_,_,_,_,_,h,_,_,_,_,_,_,_⟩=>h) ?_ ?_
     .intro j y N H8 M %[J,A,g,rfl,s8,f8,be,a1,an,An,Ar,Ao,Ad|Aj];let tj:ys.take (j+1)=ys.take j++[y]:=by rw[Xg,M];rfl
      let yR:Rch (ss\2) st y:=by
       let e:=(yI y).mp (Z8 M);rcases nR with rfl|h
       .show .one e
       .show .more h e
      let al:=few An λz L=>(Xu L).elim (Fr z) λh=>(Ar z h).1
      let vl: ~~~(VD (F++A) λx=>V.int (g x))<lp:=by unfold VD;rw[Z6];show aC ⋯
      change kN _ _ _ _ [!l,-st,!e,o3,o4,o5,!d,!r,hY (.int (B+1)),!q,-n,-y] H8;show az λD8 k8 _=>?_
      lk;show%[_,cu.k (k:=kj y) an|bC (λc=>?_) λc=>?_]
      .let yn:y∉F++A:=λh=>by rw[iX h]at c;cases c
       let P:=fM.k (k:=kj y) (v:= .int (B+1)) an vl;let dd:q≠d:=Lx a6;let cx:=(ap (o:= .dK (db (VD (F++A) λx=>V.int (g x)) (kj y) (V.int (B+1)))) dd).trans a1;let vd:=G1 (g:=λx=>V.int (g x)) (h:=λx=>V.int (if x=y then B+1 else g x)) yn λx U=>by
        change V.int (if x=y then B+1 else g x)=V.int (g x);rw[ij (λc:x=y=>yn (c▸U))]
       rw[ix rfl]at vd;show%[_,P,tyL (Qb.of cx),_,cx,by rw[Z6];rw[Z9]at al;show aC ⋯|k8 _ _ %[_,A++[y],λx=>if x=y then B+1 else g x,ρ,ah.set (ah.set s8 b1) c4,(λb o n1 n2 e=>by rw[ap n2,ap n1];show f8 b o n1 n2 e),by rw[ap c6,ap da];show be,by rw[aa,Zd];rfl,by rw[ap a6,aa,vd,Ze],?_,(λz L=>?_),(λz L=>?_),(λx U z e=>?_)|λz L=>?_]]
       .rw[<-Ze,X8];show%[An,by simp|λa ha b hb e=>yn (by rw[<-Xv hb,<-e];show ha)]
       .rcases Xu L with u|u
        .show%[(Ar z u).1,(ij λc:z=y=>yn (c▸X1 _ u)).trans (Ar z u).2.1|(Ar z u).2.2]
        .rw[Xv u];show%[yR,ix rfl,n,Z8 hn|(yI y).mp (Z8 M)]
       .show(ij λc:z=y=>yn (c▸Yz _ L)).trans (Ao z L)
       .rw[<-Ze];show Yz _ (Ad x U z e)
       .rw[<-Ze];rw[tj]at L;rcases Xu L with u|u
        .show Yz _ (Aj z u)
        .show X1 _ u
      .let yn:y∈F++A:=MN λh=>by rw[iY h]at c;show c rfl
       show k8 _ _ %[_,A,g,rfl,s8,f8,be,a1,an,An,Ar,Ao,Ad|λz L=>?_];rw[tj]at L;rcases Xu L with u|u
       .show Aj z u
       .rw[Xv u];show yn
     .intro N H8 %[J,A,g,rfl,s8,f8,be,a1,an,An,Ar,Ao,Ad|Aj];rw[Xj]at Aj;show k7 _ _ %[_,_,A,g,rfl,s8,f8,a1,an,An,Ar,Ao|λx U y e=>?_];rw[tk]at U;rcases Xu U with z|z
      .show Ad x z y e
      .rw[Xv z]at e;show Aj y ((yI y).mpr e)
    .intro N H6 %[ag,J,A,g,rfl,s6,f6,a0,bb,An,Ar,Ao|Ad];rw[Xj]at Ad;let al:=few An λz L=>(Xu L).elim (Fr z) λh=>(Ar z h).1
     rw[Z9]at al;let rp:R.length.min 1=1:=Rv (M0.mpr R0);dsimp only;lk;show%[_,?_,q,B+1,o3,o4,o5,_,ag,J,A,F++A,g,ρ,s6,as.fr a4 %[_|ac] fq f6,a0,bb,An,(λy M=>(Xu M).elim (Fr y) λh=>(Ar y h).1),(λx U=> .inr (X1 _ U)),(λx U=>?_),fl.step An (λy M=>(Ar y M).2) Ao Ad|ρ]
     .rw[Z9,rp];cases A with
      | nil=>simp
      | cons a A=>
        rw[Zr]at al ⊢;let:(~~~A+1).min 1=1:=Rv ⋯
        lia
     .by_cases hA:x∈A
      .show .inl hA
      .show .inr λy e=>?_
       rcases cl x (U.imp id λh=>(Xu h).resolve_right hA)with h|h
       .show Ad x h y e
       .show Yz _ (h y e)
   .let R0:R=[]:=by
     let:=h;cases R with
     | nil=>rfl
     | cons a R=>show on (Zf ∅) h
    subst R0;let s4:=ah.Qa (o:= .lst []) fp;show k6 _ _ ?_;lk;show kk d _ F g0 (s3.trans s4) b1 (s4 _ _ ca) Fn (λy=>%[Fr y|λr=>?_]) λy M=>fl.end_ M
    show r.closed (R:=(·∈F)) ((cl st (.inl rfl)).resolve_left λh=>nomatch h) λx y U e=>((cl x (.inr U)).resolve_left λh=>nomatch h) y e
structure Ben (H:Hp) (ks:hH ZB) (rs:Gs ku):Prop where
 nd:(rs\1).Nodup
 at_:∀r∈rs,(∃g:ku->ri,H r.2.1∣.dK (VD r.2.2 λx=> .int (g x))/\Far ks r.1 r.2.2 g)/\r.2.2.Nodup/\∀y,y∈r.2.2↔Rch ks r.1 y
structure BeF (H:Hp) (ks:hH ZB) (d:jg) (rs:Gs ku):Prop where
 at_:∃o,H d∣.frz o (.dK (gD rs))
 nd:(rs\1).Nodup
 in_:∀r∈rs,(∃g:ku->ri,H r.2.1∣.dK (VD r.2.2 λx=> .int (g x))/\Far ks r.1 r.2.2 g)/\r.2.2.Nodup/\∀y,y∈r.2.2↔Rch ks r.1 y
def BeF.up{H a:Hp}{ks:hH ZB}{d:jg}{rs:Gs ku}(h:BeF H ks d rs)(s:ah H a):BeF a ks d rs:=
 %[h.at_.imp λo e=>s _ _ e,h.nd|λr b=>%[(h.in_ r b).1.imp λg ⟨e,q⟩=>%[s _ _ e|q]|(h.in_ r b).2]]
inductive Aw
 | mk (l d:jg) (ns ms:ZB) (ss:ZG) (f:ku->ku):vs=[.ref l,.ref d]->H l∣.lst (ss\0)->dh H ns ss-> ~~~ss<=250->H d∣.dK (NmD ms f)-> ~~~ms<=63->(∀b H' (rs:Gs ku),ah H H'->H b=hV->H' b∣.dK (gD rs)->Ben H' (ss\2) rs->(∀r∈rs,r.2.1≠b/\H r.2.1=hV)->(∀x,x∈rs\1↔∃z∈ms,f z=x)->Q (.ref b) H')->Aw vs H Q E0
inductive Fc
 | mk (l d:jg) (ns ms:ZB) (ss:ZG) (f:ku->ku):vs=[.ref l,.ref d]->H l∣.lst (ss\0)->dh H ns ss-> ~~~ss<=250->H d∣.dK (NmD ms f)-> ~~~ms<=63->(∀b H' (rs:Gs ku),ah H H'->BeF H' (ss\2) b rs->(∀x,x∈rs\1↔∃z∈ms,f z=x)->Q (.ref b) H')->Fc vs H Q E0
def qA(T:Txt K mg):↥2 "_law_beneath" ["_law_laid","_law_homes_here"] Aw:=by
 show T.bz.cal gh (λH vs Q E h=>?_)
 .let%[l,d,ns,ms,ss,f,rfl,hl,ab,ac,hd,al|kk]:=h;show%[ρ|λ_ as A outer s q=>?_];show%[_,%["KCG2zCQT%]1A~6~71BJ3DN~M32DrH]2A0A3B23ODI2",gh.nd|q]|?_]
  change aS _ _ _ [!l,!d,hV,hV] H;show aj λD1 k1 _=>?_
  lk;intro b fb;let s1:=ah.Qa (o:= .dK []) fb;let J:Qa H b (.dK []) b∣.dK (gD ([]:Gs ku)):=aa;show k1 _ _ (aj λD2 k2 _=>ay λan hK=>?_)
  generalize Qa H b _=H1 at s1 J
  lk;let y:=s1 _ _ hd;show%[tyD y,%[_|y]|λv fv=>%[d,?_,_,ah.Qa fv _ _ y,ms.map f,by unfold NmD;rw[Yx,Yx];rfl,by rw[Z6];lia|λz zs fz pz _=>?_]]
  .show aa
  let s2:=(ah.Qa (o:=lA v d) fv).trans (ah.Qa (o:= .lst (zs\3)) fz);let m:Qa (Qa H1 v (lA v d)) z (.lst (zs\3)) z<*zs\3:=aa;let L:=s1.trans s2;let B:=s2 _ _ J
  generalize Qa (Qa H1 v (lA v d)) z _=H2 at s2 m L B
  let zl: ~~~zs<=100:=by rw[pz.length_eq,Z6];lia
  let ae:z≠b:=λc=>by rw[c,B]at m;cases m
  let zm: ~~~(zs\3)= ~~~zs:=Z6 _;show%[%[_|Qb.of m]|hK _ _ (bA (λi U M=>E2 λ(o3:kw V) (rs:Gs ku)=>A8 (U=[!l,!d,!b,o3]) (ah H M) (M z<*zs\3) (M b∣.dK (gD rs)) (Ben M (ss\2) rs) (∀r∈rs,r.2.1≠b/\H r.2.1=hV) (∀x,x∈rs\1↔x∈zs.take i) (~~~rs<=i))
   %[_,[],ρ,L,m,B,%[Xa|λ_ h=>(nomatch h)],(λ_ h=>nomatch h),(λx=>N5)|Zi _] (λi U M ⟨_,_,_,_,h,_,_,_,_,_⟩=>h) ?_ ?_)]
  .intro i n U H3 hn %[o3,rs,rfl,C,G,j,p,N,I|rl];let il:=(Xt hn).1;let tk:zs.take (i+1)=zs.take i++[n]:=by rw[Xg,hn];rfl
   change kN _ _ _ _ [!l,!d,!b,-n] H3;show az λD3 k3 _=>?_
   lk;show%[_,cu.k (k:=kj n) j|bC (λc=>?_) λc=>?_]
   .let Y:n∉rs\1:=λh=>by
     let%[r,q|e]:=Xw h;let:=iV q;rw[e]at this;cases hv:bI (gD rs) (kj n)with
     | none=>show this hv
     | some v=>rw[hv]at c;cases c
    show%[l,n,ns,ss,ρ,C _ _ hl,ab.up C,ac|λe H4 F g s4 fe he Fn Fr Ff=>?_];let ag:=s4 _ _ j;let O:e≠b:=λc=>by rw[c,j]at fe;cases fe
    let nv:bI (gD rs) (kj n)=hV:=mo Y;let pk:db (gD rs) (kj n) (.ref e)=gD (rs++[(n,e,F)]):=by
     rw[dW _ nv];unfold gD;rw[Zd];rfl
    show%[_,fM.k (k:=kj n) (v:= .ref e) ag (by unfold gD;rw[Z6];show aC ⋯)|k3 _ _ %[_,rs++[(n,e,F)],ρ,ah.set (C.trans s4) fb,(ap ae).trans (s4 _ _ G),by rw[aa,pk],%[?_|λr q=>?_],λr q=>?_,λx=>?_|by rw[Z9];show Xf rl]]
    .rw[Zd,X8];show%[p.nd,by simp|λa ha b hb e=>Y (by rw[<-show b=n by simpa using hb,<-e];show ha)]
    .rcases Xu q with u|u
     .let%[%[g,e1|ef]|r2]:=p.at_ r u;show%[%[g,by rw[ap (N r u).1];show s4 _ _ e1|ef]|r2]
     .rw[Xv u];show%[%[g,by rw[ap O];show he|Ff],Fn|Fr]
    .rcases Xu q with u|u
     .show N r u
     .rw[Xv u];show%[O|C.free fe]
    .rw[Zd,Yy,I,tk,Yy];show Qu N5 ∅
   .show k3 _ _ %[_,rs,rfl,C,G,j,p,N,λx=>?_|⋯];let Y:n∈rs\1:=MN λh=>by rw[mo h]at c;show c rfl
    rw[I,tk,Yy];show%[.inl|λh=>h.elim id λh=>by rw[Xv h];show(I n).mp Y]
  .intro U H3 %[o3,rs,rfl,C,G,j,p,N,I|rl];rw[Xj]at I;show k2 _ _ ?_;lk;show kk b H3 rs C fb j p N λx=>by rw[I,pz.mem_iff,OD]
def rF(T:Txt K mg):↥2 "_law_beneath" ["_law_laid","_law_homes_here"] Fc:=by
 show(qA T).freeze.imp λvs H Q E zqw=>?_;let%[l,d,m,p,ss,f,s,u,v,y,z,A|B]:=zqw;show %[l,d,m,p,ss,f,s,u,v,y,z,A|λb j rs C G I a J L=>%[[b]|λM=>?_]]
 let out:∀c,c≠b->pG [b] M j c=j c:=λc n=>lE λh=>n (Xv h)
 show B b _ rs (λc o e=>(out c (av e G)).trans (C _ _ e)) %[%[_|lD Zm I],a.nd|λr i=>%[(a.at_ r i).1.imp λg ⟨e,q⟩=>%[(out _ (J r i).1).trans e|q]|(a.at_ r i).2]] L
inductive qB
 | mk (l m:jg) (a b:ku) (ws ss:ZG):vs=[.ref l,.ref m,.str a,.str b]->H l∣.lst (ws\0)->aB H ws->H m∣.lst (ss\0)->aB H ss->(∀t∈ws,t.2∈ss\2)->Wal (ws\2) a b-> ~~~ws<=300->(∀H',ah H H'->Q (.bl hW) H')->qB vs H Q E0
def Fd{b:ku}{us:hH ZB}{i:iv}{k:ZB}{x:ku}(a:us[i]?∣k)(h:Wal (us.drop i) x b):∃y z,k=[x,y,z]/\Wal (us.drop (i+1)) y b:=by
 rw[Y1 (Xt a).1]at h;let%[c,z,e|h]:=h;rw[(Xt a).2]at e;show%[c,z,e|h]
def qC(T:Txt K mg):↥1 "_law_is_chain" ["_law_found","_law_laid","_law_one","_law_other"] qB:=by
 .exists T.bB,ck,a2,Y,%[l,m,a,b,ws,ss,rfl,r,hw,hm,hs,sub,ab,wl|kk];show%[_,%["KCNjueaxyA0A?1B!M^gc?2T0b0?3wM]30P10RBDIhOCNM^gc?4T0b0?5weaxyA0A?6B0RBDIhOCG42CQT0iLJ5LJ6LJ7dCNM~B54DIhODG46DIn)43",ck.nd,(blE (v:= .ty "list") rfl T.a5 OW rfl rfl rfl),↑(["_law_link","_law_laid"],[(1,1)]),↑["_law_link","_law_laid"],↑(["_law_link"],[]),↑["_law_link"],(blE (v:= .ty "tuple") rfl T.ah Tb rfl rfl rfl)|Y]|?_]
  change aS _ _ _ [!l,!m,-a,-b,hV,hV,hV,hV] H;show aj λD1 k1 r1=>?_
  lk;show%[_,.lst r,hW,ρ|?_];show qQ ?_;show aG λa1 hK=>?_
  lk;show%[%[_|Qb.of r]|hK _ _ λE2 ac=>?_];show bZ (λj vs d c=>A4 (∃u,d=[u,!m]) (ah H c) (c E2<*vs) (vs=[]))
   %[%[hV|rfl],ah.Qa ac,aa|rfl] (λ_ _ _ c ⟨_,g,_,_⟩=>g _ _ r) ?_ ?_
  .intro j vs d H2 B %[%[u|rfl],g,n|rfl];lk;let C:=Yh B;show%[ws[j].2,g _ _ (hw _ C).2,ss,g _ _ hm,(λt M=>g _ _ (hs t M).2),sub _ C|CN.mk B %[%[_|ρ],g,n|ρ]]
  intro vs d H1 %[_,s1,ae|rfl];show%[Xl _|λp G=>%[[],ah.Qa G _ _ ae,aa|?_]];rw[ij ∅];let N:=s1.trans (ah.Qa (o:= .lst []) G)
  generalize Qa H1 p _=H2 at N
  show k1 _ _ (aj λD2 k2 r2=>?_);lk;show aG λag al=>?_
  lk;let I:=N _ _ r;show%[%[_|Qb.of I]|al _ _ λE3 q=>?_];show bZ (λj vs d c=>A4 (∃u,d=[u]) (ah H2 c) (c E3<*vs) (vs=[]))
   %[%[hV|rfl],ah.Qa q,aa|rfl] (λ_ _ _ c ⟨_,g,_,_⟩=>g _ _ I) ?_ ?_
  .intro j vs d H3 B %[%[u|rfl],g,n|rfl];lk;show%[_,.tup ((N.trans g) _ _ (hw _ (Yh B)).2),hW,ρ|qQ (CN.mk B %[%[_|ρ],g,n|ρ])]
  intro vs d H3 %[_,s3,q|rfl];show%[Xl _|λp G=>%[[],ah.Qa G _ _ q,aa|?_]];rw[ij ∅];let O:=(N.trans s3).trans (ah.Qa (o:= .lst []) G)
  generalize Qa H3 p _=H4 at O
  show k2 _ _ (aj λD3 k3 r3=>?_);lk;show k3 _ _ (aj λD4 k4 r4=>ay λan as=>?_);lk;let J:=O _ _ r;show%[%[_|Qb.of J]|as _ _ ?_];show bA (us:=ws) (f:=λt=>V.ref t.1) (λi d c=>c=H4/\∃(x:ku) (o5 o6 o7:kw V),d=[!l,!m,-a,-b,-x,o5,o6,o7]/\Wal ((ws.map λt:jg×ZB=>t.2).drop i) x b) %[rfl,a,_,_,_,rfl|ab] (λi d c h=>h.1▸J) ?_ ?_
  .intro i t d c M %[e,x,o5,o6,o7,rfl|U];subst e;let%[y,z,et|a0]:=Fd (k:=t.2) (by rw[Zl,M];rfl) U;let L:=O _ _ (hw t (Z8 M)).2;rw[et]at L;show%[_,SqT.of L,ρ,_,_,ρ,_,_,ρ,_,_,ρ,ρ|?_];change aS _ _ _ [!l,!m,-a,-b,-x,-x,-y,-z] c;show aj λD5 k5 r5=>?_
   lk;rw[ij ∅];show k5 _ _ ?_;lk;show a0
  .intro d c %[e,x,o5,o6,o7,rfl|U];subst e;rw[Ol (by rw[Z6];show Zi _)]at U;obtain rfl:x=b:=U;show k4 _ _ ?_;lk;rw[Zf trivial];show kk _ O
def xz{h:Type}{f:h->ZB}{nm:h->ku}:∀{xs:hH h},(xs.map nm).Nodup->(∀p∈xs,(f p).Nodup)->(∀p∈xs,∀x∈f p,∃c,x=lnS (nm p) (sgn c))->(xs.flatMap f).Nodup
 |[],_,_,_=>Xa
 | p::xs,i,m,j=>by
   rw[Yw,Mw]at i;rw[RL,X8];show%[m p Zm,xz i.2 (λq g=>m q (Zk _ g)) (λq g=>j q (Zk _ g))|λa n b o e=>?_];let%[q,g|l]:=L4.mp o;let%[c|r]:=j p Zm a n;let%[d|s]:=j q (Zk _ g) b l;show i.1 (Xx %[q,g|(xa (r.symm.trans (e.trans s))).symm])
def B2(p:jg×ku×ZB):(lyr p).Nodup:=by
 unfold lyr;rw[X9,Xe];show Xn (λ{x y} b e a f=>?_) (X9.mp (bX ((dc p.2.2).map sgn)));let%[c,_|rfl]:=kH b;let%[d,_|rfl]:=kH e;show a (by rw[vv f])
def vD{cs:ZH}(b:(cs.map λp=>p.2.1).Nodup){a:ZB}(h:a.Perm (cs.flatMap lyr)):a.Nodup:=by
 rw[h.nodup_iff];show xz (nm:=λp:jg×ku×ZB=>p.2.1) b (λp _=>B2 p) λp d x c=>EJ c
structure qD (H:Hp) (cs:ZH) (qs:ZN):Prop where
 ca:cB H cs
 nd:(cs.map λp=>p.2.1).Nodup
 p1:1<= ~~~cs
 p3: ~~~cs<=3
 few:∀p∈cs,u9 p.2.2
 ly: ~~~(cs.flatMap lyr)<=63
 sa:∀ls:ZB,ls.Perm (cs.flatMap lyr)->cV H ls qs
 q20: ~~~qs<=60
def qD.up{H a:Hp}{cs:ZH}{qs:ZN}(h:qD H cs qs)(s:ah H a):qD a cs qs:=
 %[h.ca.up s,h.nd,h.p1,h.p3,h.few,h.ly,λb p=>(h.sa b p).up s|h.q20]
inductive qF (K:ZA)
 | mk (a:jg) (ns:ZL):vs=[.ref a]->Qb K H a (ns\4)->FW H-> ~~~ns<=63->(∀H',Q (.bl hW) H')->qF K vs H Q E0
def qG{a b:Type}(f:a->b)(xs:hH a)(is:hH iv):is.filterMap ((xs.map f)[·]?)=(is.filterMap (xs[·]?)).map f:=by
 rw[hH.map_filterMap];show vj (λg=>hH.filterMap g is) (funext λi=>Zl ..)
def Fe{a:Type}{xs:hH a}{is:hH iv}{q:a}(h:q∈is.filterMap (xs[·]?)):q∈xs:=by
 let%[i,_|e]:=Mg.mp h;show Z8 e
def qk.sub{H:Hp}{cs:ZH}{qs rs:ZN}(h:qk H cs qs)(r:∀q∈rs,q∈qs)(l: ~~~rs<= ~~~qs):qk H cs rs:=%[h.c1,h.c3,h.ca,h.nd,h.few,h.ly,λq a=>h.sa q (r q a)|Ym l h.ql]
def qk.up{H a:Hp}{cs:ZH}{qs:ZN}(h:qk H cs qs)(s:ah H a):qk a cs qs:=%[h.c1,h.c3,h.ca.up s,h.nd,h.few,h.ly,h.sa.up s|h.ql]
def qk.pair{H:Hp}{cs:ZH}{qs:ZN}(h:qk H cs qs):qD H cs qs:=%[h.ca,h.nd,h.c1,h.c3,h.few,h.ly,λc p q a=>%[(h.sa q a).1|(h.sa q a).2.sub λz b=>p.mem_iff.mpr b]|h.ql]
structure vE (mg:ZC) (H:Hp) (g l1 l2:jg) (cs:ZH) (qs:ZN) (ls:ZB) (ts:ZG):Prop where
 gd:qk H cs qs
 h1:H l1<*cC cs
 h2:H l2∣.lst (qs\0)
 gr:ic mg H g qs ls ts
 pl:ls.Perm (cs.flatMap lyr)
 tm:∀k,k∈ts\2↔k∈cG cs\/k∈cH qs qs.length
def vE.up{mg:ZC}{H a:Hp}{g b c:jg}{cs:ZH}{qs:ZN}{d:ZB}{ts:ZG}(h:vE mg H g b c cs qs d ts)(s:ah H a):vE mg a g b c cs qs d ts:=%[h.gd.up s,s _ _ h.h1,s _ _ h.h2,h.gr.up s,h.pl|h.tm]
def Ax{H:Hp}{g c a b:jg}{cs:ZH}{qs:ZN}{R:Hp->Prop}(j:H g=hV)(i:H c=hV)(n:H a<*cC cs)(r:H b∣.lst (qs\0))(p:qD H cs qs)
 (k:∀f d ts,ah H f->ic mg f g qs d ts->d.Perm (cs.flatMap lyr)->(∀k,k∈ts\2↔k∈cG cs\/k∈cH qs qs.length)->R f):
 vt mg [.ref g,.ref a,.ref b] (Qa (Qa H c (.own g)) g (.ins (aE mg "Ground") c [])) (λv s=>v= .non/\R s) E0:=by
 let h:ah H (Qa (Qa H c (.own g)) g (.ins (aE mg "Ground") c [])):=λb o e=>by
  rw[ap (av e j),ap (av e i)];show e
 show%[g,a,b,c,cs,qs,ρ,aa,h _ _ n,h _ _ r,p.ca.up h,p.nd,p.p1,p.p3,p.few,p.ly,λd q=>(p.sa d q).up h,p.q20|λf d ts u c3 y z A tk B C E pl G=>%[ρ|k f d ts (λb o e=>z b o (av e j) (h _ _ e)) %[%[u,c3,y|A],vD p.nd pl,G,by rw[pl.length_eq];show p.ly,E,λk l=>?_,λk l=>?_|B] pl C]]<;> have%[t,m|rfl]:=Xw l
 .show(tk t m).1
 .show(tk t m).2
abbrev Dir(ks:hH ZB)(x y:ku):Prop:=Ed ks x y/\∀s,Ed ks x s-> ¬ Rch ks s y
def xA{ks c:hH ZB}(e:∀k,k∈ks↔k∈c):Dir ks=Dir c:=by
 funext a b;simp only[Dir,GV e,iC e]
abbrev B3(mg:ZC):Sp:=λvs H Q _=>∃(g:jg) (qs:ZN) (d:ZB) (ts:ZG),vs=[.ref g]/\ic mg H g qs d ts/\(∀lk,bB (bg qs) (ts\2) lk->∀x,¬ Rch lk x x)/\
 ∀l c lk (ps:ZG),ah H c->H l=hV->bB (bg qs) (ts\2) lk->c l∣.lst (ps\0)->aB c ps->(∀k,k∈ps\2↔∃x y,k=[x,y]/\Dir lk x y)->(ps\2).Nodup->(ps\2).Pairwise (λa b=>dR b a=hX)-> ~~~ps<=250->Q (.ref l) c
def Lr{c:ZB}{ks:hH ZB}(h:∀k∈ks,dI c k){x y:ku}(e:Ed ks x y):x∈c/\y∈c:=by
 let%[z|d]:=e;let%[a,b,u,e,f|g]:=h _ d;cases e;show%[f|g]
def mT{ss:ZG}{ks:hH ZB}(n:ks.Nodup)(h:∀k∈ks,∃x y,k=[x,y]/\Ed (ss\2) x y): ~~~ks<= ~~~ss:=by
 let:=_ST.nodup_sub n (m:=ss.map λt=>t.2.take 2) λk a=>by
  let%[x,y,rfl,z|b]:=h k a;let%[t,c|e]:=Xw b;show Xx %[t,c|by rw[e];rfl]
 rwa[Z6]at this
open Classical in
def qH(T:Txt K mg):↥8 "direct_pairs" ["ground"] (B3 mg):=by
 let bW:=mr (P:=P) (w:=w) (K:=K) (mg:=mg) (base:=base);show T.aT.cal bo (λH vs Q E h=>?_)
 .let%[g,qs,ls,ts,rfl,hg,nr|kk]:=h;show%[ρ|λf cb A outer s hr=>?_];show%[_,%["KCG1H~ZAH]EA0BBC=2pqH]4A0BCG3RBCQ~%1~U4pqC=5pq%~kA~C~QAgc?1TX1P4b0?2$U0}BBDY~o~p3Agc?3TP5b0?4weaH]5AP2AP3A0BfAP1A0BBDI%~2A3B",bo.nd,(show bp (ak d8) ["ground","beneath","reach","pairs","later","steps"] _ ["link"] []=hW from !0),↑["link"],(show bp (ak d8) ["ground","beneath","reach","pairs","later","steps"] _ ["earlier","later","reach","steps"] [(1,4),(2,2),(3,5)]=hW from !0),↑["earlier","later","reach","steps"]|hr]|?_]
  change aS _ _ _ [!g,hV,hV,hV,hV,hV] H;show aj λD1 k1 _=>?_
  lk;show%[g,qs,ls,ts,ρ,hg,nr|λso H1 n0 ss s1 bf la sl lk=>%[so,n0,ss,ρ,bf,la,sl|λb H2 ob a1 s2 hb tx gb=>k1 _ _ (aj λD2 k2 _=>?_)]];let a2:=s1.trans s2;lk;show%[g,qs,ls,ts,ρ,hg.up a2,nr|λd H3 rs cd ns s3 bl hn re rn=>k2 _ _ (aj λD3 k3 _=>?_)];let re:=re.same (bl.mm lk);let nr:=nr _ lk;lk;show%[Xl _|λL hL=>k3 _ _ (aj λD4 k4 _=>ay λac hK=>?_)];let a3:=a2.trans s3;let sL:=ah.Qa (o:= .lst []) hL;let fL:=a3.free hL;let B:=sL _ _ (s3 _ _ hb);let a4:=re.up sL;let U:Qa H3 L (.lst []) L<*[]:=aa;let a5:=a3.trans sL;let a6:dh (Qa H3 L (.lst [])) n0 ss:=(la.up s2).up (s3.trans sL)
  generalize Qa H3 L _=H4 at sL B a4 U a5 a6
  let%[xs,kx|xn]:=tx;let kl: ~~~a1= ~~~xs:=by let:=vj Mf kx;rwa[Z6,Z6]at this
  unfold wL;lk;show%[_,_,B|hK _ _ (Ev (λi I J=>(∃o4 o5,I=[!g,!b,!d,!L,o4,o5])/\dJ L H4 J/\∃ps:ZG,J L∣.lst (ps\0)/\aB J ps/\(ps\2).Nodup/\∀k,k∈ps\2↔∃x y,k=[x,y]/\x∈xs.take i/\Dir (ss\2) x y)
   %[%[_,_|ρ],λ_ _ _ e=>e,[],U,λ_ h=>(nomatch h),Xa|by simp] (λi I J _ h=>h.2.1 _ _ (λc=>by rw[c,U]at B;cases B) B) ?_ ?_)]
  .intro i k v I J hk %[%[o4,o5|rfl],sx,ps,ag,M,pn|pm];let il:i< ~~~xs:=by let:=(Xt hk).1;lia
   obtain⟨n,en⟩:∃n,xs[i]?∣n:=%[_|Z4 il]
   obtain rfl:k=kj n:=by
    let:=vj (·[i]?) kx;simp only[Zl,hk,en,WH,PV]at this;show this
   let tk:xs.take (i+1)=xs.take i++[n]:=by rw[Xg,en];rfl
   let nt:n∉xs.take i:=λc=>by
    let%[j|N]:=Xm c;let jl:=(Xt N).1;rw[Yr]at jl;rw[Yg ⋯]at N;let:=ig xn N en
    lia
   let fX:∀{c o},H4 c∣o->(∀xs,o≠ .lst xs)->J c∣o:=λ{c o} e q=>sx c o (λz=>by rw[z,U]at e;show q _ (Za e).symm) e
   let%[a,va|ha]:=(gb n).resolve_right λ⟨c,_⟩=>CP c (by rw[kx];show Xx %[n,Z8 en|rfl])
   let al:=s3 _ _ ha;let bm:a≠L:=λc=>by rw[c,hL]at al;cases al
   let ha:=sx _ _ bm (sL _ _ al)
   generalize an:(ss.filter λt=>decide (t.2[0]?∣n))=us at ha
   let bt:∀t∈us,J t.1&&&t.2\3/\∃y z,t.2=[n,y,z]/\Ed (ss\2) n y:=λt Y=>by
    rw[<-an]at Y;let%[h1|h2]:=ow.mp Y;let%[b0,x,y,z,e|_]:=a6 t h1;let h2:=Zo h2;rw[e]at h2;obtain rfl:x=n:=Za h2;show%[fX b0 (λ_=>nofun),y,z,e,z|Xx %[t,h1|e]]
   let ul: ~~~us<=250:=by rw[<-an];show Ym (Yo _ _) sl
   let b1:cu J b (.str n) (hY (.ref a)):= .inl %[a1,kj n,.inr %[ob|fX B (λ_=>nofun)],rfl|va.symm];change aS _ _ _ [!g,!b,!d,!L,-n,o5] J;show aj λD5 k5 _=>?_
   lk;show aG λac hK=>?_
   lk;show%[_,b1,%[_|Qb.of ha]|hK _ _ λF hF=>?_];show bZ (λj vs I H7=>(∃o1,I=[o1])/\ah J H7/\∃ys:ZB,H7 F<*ys\3/\vs=ys\3/\ ~~~ys=j/\(∀t∈us.take j,∀y,t.2[1]?∣y->y∈ys)/\∀y∈ys,Ed (ss\2) n y)
    %[%[hV|rfl],ah.Qa hF,[],aa,rfl,rfl,(λt h=>nomatch h)|λ_ h=>nomatch h] (λ_ _ _ H7 ⟨_,sm,_⟩=>sm _ _ ha) ?_ ?_
   .intro j vs I H8 N %[%[o1|rfl],s7,ys,as,rfl,yl,ab|a0];let ka:us.take (j+1)=us.take j++[us[j]]:=by rw[Xg,Z4 N];rfl
    let%[tu,y,z,et|ed]:=bt _ (Yh N);let t7:=s7 _ _ tu;rw[et]at t7;lk;show%[_,SqT.of t7,_,(show atI ([n,y,z]\3) ((1:iv):ri)∣.str y from cS rfl)|?_];show CK.mk N as (by rw[Z6];show aC ⋯) %[%[_|rfl],ah.set s7 hF,ys++[y],by rw[aa,Zd];rfl,by rw[Zd];rfl,by rw[Z9,yl];rfl,λt Y y' ey=>?_|λv hv=>?_]
    .rw[ka]at Y;rcases Xu Y with q|q
     .show Yz _ (ab t q y' ey)
     .rw[Xv q,et]at ey;obtain rfl:y=y':=Za ey;show X1 _ Zm
    .rcases Xu hv with q|q
     .show a0 v q
     .rw[Xv q];show ed
   .intro vs I H7 %[_,s7,ys,as,rfl,yl,ab|a0];rw[Zn (Zi _)]at ab;let b2:∀y,y∈ys↔Ed (ss\2) n y:=λy=>%[a0 y|λ⟨z,hz⟩=>by
     let%[t,Y|et]:=Xw hz;show ab t (by rw[<-an];show ow.mpr %[Y|Zf (by rw[et];rfl)]) y (by rw[et];rfl)]
    show%[ys,Qb.of as,⋯|λS fS=>%[_,aa,?_|λZ zs fZ pz _=>k5 _ _ (az λD6 k6 _=>?_)]]
    .let:=_ST.nodup_sub (bX ys) λy hy=>aP.mp hy
     lia
    let s8:=(s7.trans (ah.Qa (o:=ki w S (aR ys)) fS)).trans (ah.Qa (o:= .lst (zs\3)) fZ);let hZ:Qa (Qa H7 S (ki w S (aR ys))) Z (.lst (zs\3)) Z<*zs\3:=aa
    generalize Qa (Qa H7 S (ki w S (aR ys))) Z _=H8 at s8 hZ
    let zI:∀y,y∈zs↔Ed (ss\2) n y:=λy=>by rw[pz.mem_iff,aP,b2]
    let zn:zs.Nodup:=pz.nodup_iff.mpr (bX ys);let zl: ~~~zs<=250:=by
     rw[pz.length_eq];let:=_ST.nodup_sub (bX ys) λy hy=>aP.mp hy
     lia
    let bb:=s8 _ _ ag;let b3:aB H8 ps:=ax M λb z e=>s8 _ _ e
    let b4:ReF H8 (ss\2) d rs:=by
     let%[%[o|e],nd|i]:=a4;show%[%[o|s8 _ _ (fX e λ_=>nofun)],nd|λr hr=>%[(i r hr).1.imp λo e=>s8 _ _ (fX e λ_=>nofun)|(i r hr).2]]
    lk;show%[tyL (Qb.of bb)|?_];show aG λac hK=>?_
    lk;show%[%[_|Qb.of hZ]|hK _ _ λG hG=>?_];show bZ (λj vs I H9=>(∃o1,I=[o1,-n,!d,!Z])/\ah H8 H9/\∃qs:ZG,H9 G∣.lst (qs\0)/\vs=qs\0/\ ~~~qs<=j/\aB H9 qs/\qs\2=((zs.take j).filter λy=>decide (∀s,Ed (ss\2) n s-> ¬ Rch (ss\2) s y)).map λy=>[n,y])
     %[%[hV|rfl],ah.Qa hG,[],aa,rfl,Xl _,(λt h=>nomatch h)|rfl] (λ_ _ _ H7 ⟨_,sm,_⟩=>sm _ _ hZ) ?_ ?_
    .intro j vs I ch N %[%[o1|rfl],s9,O,C,rfl,ql,qt|qe];let ka:zs.take (j+1)=zs.take j++[zs[j]]:=by rw[Xg,Z4 N];rfl
     lk;show%[d,Z,zs[j],_,rs,zs,ρ,b4.up s9,s9 _ _ hZ,λx hx=>(rn x).mpr (Lr (hg.names lk hn) ((zI x).mp hx)).2,⋯|λcl b' m b5=>?_];let ae:(b'=hW)↔ ¬ ∀s,Ed (ss\2) n s-> ¬ Rch (ss\2) s zs[j]:=by
      rw[b5];show%[λ⟨x,hx,r⟩ h=>h x ((zI x).mp hx) r|λh=>J0 λc=>h λs e r=>c %[s,(zI s).mpr e|r]]
     let fe:∀c:su,decide (∀s,Ed (ss\2) n s-> ¬ Rch (ss\2) s zs[j])=c->((zs.take (j+1)).filter λy=>decide (∀s,Ed (ss\2) n s-> ¬ Rch (ss\2) s y)).map (λy=>[n,y])=O\2 ++if c=hW then [[n,zs[j]]]else []:=λc hc=>by
      rw[qe,ka,Y6,Zd]
      congr 1
      rw[Y7,hc];cases c<;> rfl
     show bC (λc=>%[#[2]|λp hp=>?_]) λc=>CN.mk N %[%[_|rfl],s9.trans m,O,m _ _ C,rfl,⋯,ax qt (λb z e=>m _ _ e)|?_]
     .let c:b'≠hW:=↑c
      let sp:=ah.Qa (o:= .tup [V.str n,V.str zs[j]]) hp;let b6:p≠G:=λe=>by rw[e,m _ _ C]at hp;cases hp
      show CK.mk N (sp _ _ (m _ _ C)) (by rw[Z6];show aC ⋯) %[%[_|rfl],ah.set ((s9.trans m).trans sp) hG,O++[(p,[n,zs[j]])],by rw[aa,Zd];rfl,by rw[Zd];rfl,by rw[Z9];show Xf ql,eF (ax (ax qt λb z e=>sp _ _ (m _ _ e)) (mv (sp _ _ (m _ _ C)))) ∅ (by rw[ap b6];show aa)|?_];rw[fe hW (Zf (J0 λh=>c (ae.mpr h))),Zd];rfl
     .let c:b'=hW:=↑c
      rw[fe hX (Zh (ae.mp c))];simp
    .intro vs I H9 %[_,s9,O,C,rfl,ql,qt|qe];rw[Zn (Zi _)]at qe;let b9:=s8.trans s9;let bc:=s9 _ _ bb;let pl: ~~~ps<=250:=by
      let:=mT pn λk hk=>let⟨x,y,e,_,d⟩:=(pm k).mp hk;%[x,y,e|d.1]
      rw[Z6]at this
      lia
     show%[_,bc,_,C,by rw[Z6,Z6];show Yk (aC ⋯)|k6 _ _ %[%[_,_|ρ],λc o h e=>(ap h).trans (b9 _ _ (sx c o h e)),ps++O,by rw[aa,Zd],ax (lT (ax b3 λb z e=>s9 _ _ e) qt) (mv bc),?_|λk=>?_]]
     .rw[Zd,X8];show%[pn,?_|λx hx y hy e=>?_]
      .rw[qe,X9,Xe];show R5 (λh e=>h (by cases e;rfl)) (X9.mp (zn.filter _))
      .subst e;let%[u,v,rfl,hu|_]:=(pm x).mp hx;rw[qe]at hy;let%[y,_|e]:=Xw hy;cases e;show nt hu
     .rw[Zd,Yy,pm,qe,tk]
      constructor
      .rintro(⟨x,y,e,hx,q⟩|h)
       .show%[x,y,e,Yz _ hx|q]
       .let%[y,hy|e]:=Xw h;let%[h1|h2]:=ow.mp hy;show%[n,y,e.symm,X1 _ Zm,(zI y).mp h1|Zo h2]
      .rintro⟨x,y,e,hx,q⟩;rcases Xu hx with z|z
       .show .inl %[x,y,e,z|q]
       .obtain rfl:=Xv z;show .inr (Xx %[y,ow.mpr %[(zI y).mpr q.1|Zf q.2]|e.symm])
  .intro I J %[%[o4,o5|rfl],sx,ps,ag,M,pn|pm];rw[kl,Xj]at pm;show k4 _ _ ?_;lk;let pI:∀k,k∈ps\2↔∃x y,k=[x,y]/\Dir (ss\2) x y:=λk=>by
    rw[pm];show%[λ⟨x,y,e,_,d⟩=>%[x,y,e|d]|λ⟨x,y,e,d⟩=>%[x,y,e,?_|d]];let%[%[z|hz]|_]:=d;let%[t,Y|et]:=Xw hz;let%[l,vl|_]:=(gb x).resolve_right λh=>h.2 t Y (by rw[et];rfl)
    let:=zu vl;rw[kx]at this;let%[x',ca|e]:=Xw this;cases e;show ca
   let pl: ~~~ps<=250:=by
    let:=mT pn λk hk=>let⟨x,y,e,d⟩:=(pI k).mp hk;%[x,y,e|d.1]
    rw[Z6]at this
    lia
   let keep:ah H J:=λc o e=>sx c o (av e fL) (a5 _ _ e)
   show%[ps,Qb.of ag,M,2,λp hp=>?_,!1,⋯|λl zs hl pz po=>?_]
   .let%[x,y,e|_]:=(pI _).mp (Xx %[p,hp|rfl]);rw[e];rfl
   .let be:=ah.Qa (o:= .lst (zs\0)) hl;show kk l _ _ zs (keep.trans be) (keep.free hl) lk aa (λp hp=>%[(M p (pz.mem_iff.mp hp)).1|be _ _ (M p (pz.mem_iff.mp hp)).2]) (λk=>by rw[<-pI];show(pz.map _).mem_iff) ((pz.map _).nodup_iff.mpr pn) po (by rw[pz.length_eq];lia)
def xB{c:iv}(h:c≠10):∀{rows:ZB},c∈(wh nl rows).cps.toList↔∃r∈rows,c∈r.cps.toList
 |[]=>by simp[wh,LD]
 |[x]=>by simp[wh]
 | x::y::r=>by
   rw[fB nl x y r,Yy,Yy,(xB h (rows:=y::r))];let:c∉nl.cps.toList:=λq=>h (by simpa using (show c∈[10]from q))
   simp[this]
def G3{z:ku}{g:TG}{j:TS}{D:iD}{a:_LL.St}{H:Hp}(Pv:iv->_LL.St->Hp->Prop)(n:Pv 0 a H)
 (o:∀i c a H,z.cps[i]?∣c->Pv i a H->g (.str (sgn c)) a H λb h=>j {D with nx:=Pv (i+1),ct:=Pv (i+1),bk:=D.nx} b h) (q:∀a H,Pv z.cps.size a H->D.nx a H):
 ∃W:iv->iv->_LL.St->Hp->Prop,(∃m,W 0 m a H)/\∀i m a H,W i m a H->
  ((Its z).stop i H/\D.nx a H)\/((Its z).go i H/\∃N:_LL.St->Hp->Prop,(∀d e,N d e->∃l,l<m/\W (i+1) l d e)/\∀x e,(Its z).yld i H x e->g x a e λb h=>j {D with nx:=N,ct:=N,bk:=D.nx} b h):=by
 show%[λi m a H=>m=z.cps.size-i/\i<=z.cps.size/\Pv i a H,%[z.cps.size,by simp,Xl _|n]|?_];intro i m a H %[rfl,hi|p];by_cases f:i<z.cps.size
 .show .inr %[f,Pv _,λd e r=>%[z.cps.size-(i+1),⋯,rfl,f|r]|λx e y=>?_];let%[rfl,c,s|rfl]:=y;show o i c a _ s p
 .obtain rfl:i=z.cps.size:=by lia
  show .inl %[Zi _|q a H p]
def Ay{p:jg×ku×ZB}{z:ku}:z∈lyr p↔∃c,Let p.2.2 c/\z=lnS p.2.1 (sgn c):=by
 constructor
 .intro h;let%[y,b|rfl]:=Xw h;let%[c,a|rfl]:=Xw (aP.mp b);show%[c,iu.mp a|ρ]
 .rintro⟨c,a,rfl⟩;show jP a
def vF{H:Hp}:∀{cs:hH _},cB H cs-> ~~~(cs.flatMap lyr)<=26* ~~~cs
 |[],_=>Zi _
 | q::cs,h=>by
   let b:=vF λp a=>h p (Zk _ a)
   let: ~~~(lyr q)<=26:=by
    unfold lyr;rw[Z6];show km (jM (h q Zm).2.2.sign)
   rw[RL,Z9,Zr]
   lia
abbrev rG(q:jg×ZM):su:=decide (q.2[0]?∣.str (!"same"))
abbrev prT(q:jg×ZM):ku×ku:=match q.2 with|[_,.str a,.str b]=>(a,b)|_=>(LD,LD)
def Az{c:ZB}{q:jg×ZM}(h:lV c q.2)(e:rG q=hW):∃a b,q.2=[.str (!"same"),.str a,.str b]/\a∈c/\b∈c/\prT q=(a,b):=by
 let e:=Zo e;rcases h with⟨w,a,b,h,_,d,f,_⟩|⟨w,a,y,h,hw,_⟩
 .rw[h]at e;obtain rfl:w=pp _:=V.str.inj (Za e);show%[a,b,h,d,f|by unfold prT;rw[h]]
 .rw[h]at e;let:=V.str.inj (Za e);rw[this]at hw;show on hw (!1)
def G4{H:Hp}{f:ZB}{qs:hH _}(h:cV H f qs)(a b:ku):bg qs a b↔(a,b)∈(qs.filter rG).map prT:=by
 constructor
 .rintro⟨q,c,e⟩;show Xx %[q,ow.mpr %[c|by unfold rG;show e▸Zf rfl]|by unfold prT;rw[e]]
 .intro m;let%[q,c|e]:=Xw m;let%[d|g]:=ow.mp c;let%[x,y,i,_,_|j]:=Az (h q d).2 g;rw[j]at e;cases e;show%[q,d|i]
inductive xC
 | mk (l m:jg) (cs:ZH) (qs:ZN):vs=[.ref l,.ref m]->H l<*cC cs->H m∣.lst (qs\0)->cB H cs->cV H (cs.flatMap lyr) qs-> ~~~cs<=3-> ~~~qs<=60->(∀d H' ms f,ah H H'->H d=hV->H' d∣.dK (NmD ms f)->ms.Nodup->(∀z,z∈ms↔z∈cs.flatMap lyr)->(∀z∈ms,f z∈ms/\cL (bg qs) z (f z))->Q (.ref d) H')->xC vs H Q E0
def xD(T:Txt K mg):↥1 "_law_homes" ["_law_cuts_here","_law_sayings"] xC:=by
 .exists T.bv,bj,b4,hr,%[l,m,cs,qs,rfl,hl,hm,ca,sa,c3,bf|kk];let qm: ~~~(qs\0)= ~~~qs:=Z6 _;let a1: ~~~(cC cs)= ~~~cs:=Z6 _;show%[_,%["KCG2zCQT0iLJ3LJ4dDQ]64J5DNM]F5ZDrF&F&3Z52F&F&3Z5OC~Y6qpc?1T1b0?2wM~jU0EZ0CQ'AklA6BBJ7DQT6iLJ8LJ9LJ:dCG;~J~4AX29AX2s:BCrs;29Drs;2s:DI2",bj.nd,↑(["_law_saying"],[]),↑["_law_saying"]|hr]|?_]
  change aS _ _ _ [!l,!m,hV,hV,hV,hV,hV,hV,hV,hV,hV,hV] H;show aj λD1 k1 _=>?_
  lk;intro d fd;show k1 _ _ (aj λD2 k2 _=>ay λO hK=>?_);let s1:=ah.Qa (o:= .dK []) fd;lk;show%[%[_|Qb.of (s1 _ _ hl)]|hK _ _ (eL (λi B L=>E4 λo3 o4 o5 n=>A5 (B=[!l,!m,!d,o3,o4,o5,hV,hV,hV,hV,hV,hV]) (ah H L) (L d∣.dK (NmD n id)) n.Nodup (∀z,z∈n↔z∈(cs.take i).flatMap lyr))
   %[_,_,_,[],ρ,s1,aa,Xa|λz=>N5] (λi B L _ ⟨_,_,_,_,_,q,_,_,_⟩=>Qb.of (q _ _ hl)) ?_ ?_)]
  .intro i x B H1 hx %[o3,o4,o5,n,rfl,U,hd,nd|mem];let hi:i< ~~~cs:=by rw[<-a1];show(Xt hx).1
   obtain⟨q,hq,rfl⟩:∃q,cs[i]?∣q/\x=V.ref q.1:=by
    unfold cC at hx;rw[Zl,Z4 hi]at hx;show%[cs[i],Z4 hi|(Za hx).symm]
   let a2:=Z8 hq;let%[a3,bl|bm]:=ca q a2;let tk:cs.take (i+1)=cs.take i++[q]:=by rw[Xg,hq];rfl
   let tx:∀c,c≠10->c≠46->(c∈(wh nl q.2.2).cps.toList↔Let q.2.2 c):=λc J N=>by
    rw[xB J];show%[λh=>%[N|h]|λh=>h.2]
   let b5:=jF bl
   generalize wh nl q.2.2=tt at tx a3
   show%[_,SqT.of (U _ _ a3),ρ,_,_,ρ,_,_,ρ,ρ|?_];show az λD3 k3 _=>ay λO hK=>?_
   lk;show hK _ _ (G3 (λj B L=>E2 λo5 n=>A5 (B=[!l,!m,!d,hY (.str q.2.1),-tt,o5,hV,hV,hV,hV,hV,hV]) (ah H L) (L d∣.dK (NmD n id)) n.Nodup (∀z,z∈n↔z∈(cs.take i).flatMap lyr\/∃c∈tt.cps.toList.take j,c≠10/\c≠46/\z=lnS q.2.1 (sgn c)))
    %[_,n,rfl,U,hd,nd|λz=>by rw[mem];simp] ?_ ?_)
   .intro j c B H2 hc %[o5,n,rfl,U,hd,nd|mem];let C:tt.cps.toList[j]?∣c:=↑hc
    let ka:tt.cps.toList.take (j+1)=tt.cps.toList.take j++[c]:=by rw[Xg,C];rfl
    change kN _ _ _ _ [!l,!m,!d,hY (.str q.2.1),-tt,hY (.str (sgn c)),hV,hV,hV,hV,hV,hV] H2;show az λD4 k4 _=>?_
    lk;let bt: ~~~n<=100:=by
     let:=_ST.nodup_sub nd (m:=cs.flatMap lyr) λz hz=>by
      rcases(mem z).mp hz with h|⟨c,hc,J,N,rfl⟩
      .let%[p,hp|e]:=L4.mp h;show L4.mpr %[p,X3 hp|e]
      .show L4.mpr %[q,a2|Ay.mpr %[c,(tx c J N).mp (X3 hc)|rfl]]
     let:=vF ca
     lia
    rw[show(!!(LA (!".\n") (sgn c) 0 (!".\n").length 1).isEmpty)=!decide (c∈(!".\n").cps.toList)from vj not (uu _ _),jQ];let a4:c∈(!".\n").cps.toList↔c=46\/c=10:=by
     rw[show(!".\n").cps.toList=[46,10]from rfl];simp
    let ag: ~~~q.2.1+(!".").length<=lp:=by rw[PySem.sizeLine_eq];change ~~~q.2.1+1<=_;lia
    let al:(q.2.1++pp ".").length+ ~~~(sgn c)<=lp:=by rw[PySem.sizeLine_eq,Q8];change ~~~q.2.1+1+1<=_;lia
    show .inl (bC (λh=>?_) λh=>?_)
    .let h: ¬ (c=46\/c=10):=λe=>by rw[Zf (a4.mpr e)]at h;cases h
     let a5:∀z,(z∈(cs.take i).flatMap lyr\/∃c∈tt.cps.toList.take (j+1),c≠10/\c≠46/\z=lnS q.2.1 (sgn c))↔z∈n\/z=lnS q.2.1 (sgn c):=λz=>by
      rw[mem,ka]
      constructor
      .rintro(h|⟨c',C,J,N,e⟩)
       .show .inl (.inl h)
       .rcases Xu C with u|u
        .show .inl (.inr %[c',u,J,N|e])
        .rw[Xv u]at e;show .inr e
      .rintro((h|⟨c',C,J,N,e⟩)|e)
       .show .inl h
       .show .inr %[c',Yz _ C,J,N|e]
       .show .inr %[c,X1 _ Zm,λe=>h (.inr e),λe=>h (.inl e)|e]
     show%[ag,al,ag,al,_,fM.k (k:=kj (lnS q.2.1 (sgn c))) hd (by unfold NmD;rw[Z6];show aC ⋯)|?_];by_cases ac:lnS q.2.1 (sgn c)∈n
     .show k4 _ _ %[_,n,rfl,ah.set U fd,?_,nd|λz=>by rw[a5];show%[.inl|λh=>h.elim id λe=>e▸ac]];rw[aa,qf ac];show vj (λf=>hY (HO.dK (NmD n f))) (funext λx=>by by_cases e:x=lnS q.2.1 (sgn c)<;> simp[e])
     .show k4 _ _ %[_,n++[lnS q.2.1 (sgn c)],rfl,ah.set U fd,by rw[aa,EM ac],?_|λz=>by rw[a5,Yy,X4]];rw[X8];show%[nd,by simp|λa ha b hb e=>ac (by rw[<-Xv hb,<-e];show ha)]
    .show k4 _ _ %[_,n,rfl,U,hd,nd|λz=>?_];let h:c=46\/c=10:=by
      rw[<-a4];simpa using h
     rw[mem,ka];show Qu N5 %[λ⟨c',C,r⟩=>%[c',Yz _ C|r]|λ⟨c',C,J,N,e⟩=>?_];rcases Xu C with u|u
     .show%[c',u,J,N|e]
     .rw[Xv u]at J N;show(h.elim N J).elim
   .intro B H2 %[o5,n,rfl,U,hd,nd|mem];show k3 _ _ %[_,_,_,n,rfl,U,hd,nd|λz=>?_];rw[mem,tk,Pd,Yy];show Qu N5 ?_;rw[show hH.flatMap lyr [q]=lyr q by simp,Ay];let e:tt.cps.toList.take tt.cps.size=tt.cps.toList:=Zn ∅;rw[e]
    constructor
    .rintro⟨c,hc,J,N,e⟩;show%[c,(tx c J N).mp hc|e]
    .rintro⟨c,hc,e⟩;let a6:c≠10:=by
      let%[_,r,hr|b0]:=hc;show Db (MV.mp (bm.sign r hr) c b0)
     show%[c,(tx c a6 hc.1).mpr hc,a6,hc.1|e]
  .intro B H1 %[o3,o4,o5,n,rfl,U,hd,nd|mem];rw[a1,Xj]at mem;show k2 _ _ (aj λD3 k3 _=>?_);lk;show aG λO hK=>?_
   lk;let bb:=U _ _ hm;show%[%[_|Qb.of bb]|hK _ _ λF hF=>?_];show bZ (λj vs B H7=>(∃o1,B=[o1])/\ah H1 H7/\H7 F<*vs/\vs=((qs.take j).filter rG)\0)
    %[%[hV|rfl],ah.Qa hF,aa|rfl] (λ_ _ _ H7 ⟨_,U,_⟩=>U _ _ bb) ?_ ?_
   .intro j vs B H8 hj %[%[o1|rfl],s7,bc|hv];let%[ht|so]:=sa _ (Yh hj);let st:=SqT.of (K:=K) (s7 _ _ (U _ _ ht));let fe:∀b:su,rG qs[j]=b->((qs.take (j+1)).filter rG)\0=vs++if b=hW then [V.ref qs[j].1]else []:=λb hb=>by
     rw[hv,Xg,Z4 hj,Y6,Zd]
     congr 1
     change Q0 _ (Nu rG [qs[j]])=_;rw[Y7,hb];cases b<;> rfl
    let vl: ~~~vs<lp:=by rw[hv,Z6];show aC (Ym (Yo _ _) (by rw[Yr];lia))
    obtain⟨w,r,ew⟩:∃w r,qs[j].2=V.str w::r:=by
     rcases so with⟨w,a,b,e,_⟩|⟨w,a,y,e,_⟩
     .show%[_,_|e]
     .show%[_,_|e]
    rw[ew]at st;let is:rG qs[j]=decide (w=!"same"):=by
     unfold rG;rw[ew];simp
    lk;show%[_,st,.str w,(show atI (V.str w::r) ((0:iv):ri)∣.str w from cS rfl)|bC (λc=>CK.mk hj bc vl %[%[_|ρ],ah.set s7 hF,aa|?_]) λc=>CN.mk hj %[%[_|ρ],s7,bc|?_]]
    .rw[fe hW (by rw[is];simpa using c)];rfl
    .rw[fe hX (by rw[is];simpa using c)];simp
   intro vs B H3 %[_,s3,ae|rfl];rw[Zn (Zi _)]at ae
   generalize an:qs.filter rG=us at ae
   let pI:=G4 sa;rw[an]at pI;let ul: ~~~us<=60:=by rw[<-an];show Ym (Yo _ _) bf
   let tu:∀q∈us,H q.1&&&q.2/\∃a b,q.2=[.str (!"same"),.str a,.str b]/\a∈n/\b∈n/\prT q=(a,b):=λq hq=>by
    rw[<-an]at hq;let%[J|N]:=ow.mp hq;let%[a,b,e,ha,hb|h]:=Az (sa q J).2 N;show%[(sa q J).1,a,b,e,(mem a).mpr ha,(mem b).mpr hb|h]
   let ws:∀a b,bg qs a b->a∈n/\b∈n:=λa b h=>by
    let:=jI sa a b h;show%[(mem a).mpr this.1|(mem b).mpr this.2]
   let bt: ~~~n<=100:=by
    let:=_ST.nodup_sub nd (m:=cs.flatMap lyr) λz hz=>(mem z).mp hz
    let:=vF ca
    lia
   let um: ~~~(us\0)= ~~~us:=Z6 _;show k3 _ _ (aj λD4 k4 _=>ay λO hK=>?_);lk;let b1:=U.trans s3;show%[~~~us,.inl %[_,Qb.of ae|um.symm],⋯,⋯|hK _ _ (cI (λi B L=>E6 λo7 o8 o9 G I f=>A5 (B=[!l,!m,!d,o3,o4,o5,!F,o7,o8,o9,G,I]) (ah H L) (L F∣.lst (us\0)) (L d∣.dK (NmD n f)) (Rnd n (us.map prT) (bg qs) f i))
    %[_,_,_,_,_,id,ρ,b1,ae,s3 _ _ hd|.nil] ?_ ?_)]
   .intro i B H5 hi %[o7,o8,o9,G,I,f,rfl,s5,as,a0|R];change vK _ _ _ _ [!l,!m,!d,o3,o4,o5,!F,hY (.int (0+i)),o8,o9,G,I] H5;show az λD6 k6 _=>ay λO hK=>?_
    lk;show%[%[_|Qb.of as]|hK _ _ (bA (λj B L=>E6 λo7 o8 o9 G I g=>A5 (B=[!l,!m,!d,o3,o4,o5,!F,o7,o8,o9,G,I]) (ah H L) (L F∣.lst (us\0)) (L d∣.dK (NmD n g)) (Mid n (bg qs) (λa b=>(a,b)∈(us.take j).map prT) f g))
     %[_,_,_,_,_,f,ρ,s5,as,a0,R.con,λz _=>df _|λa b h=>(nomatch h)] (λj B L ⟨_,_,_,_,_,_,_,_,q,_,_⟩=>q) ?_ ?_)]
    .intro j q B H6 hq %[o7,o8,o9,G,I,g,rfl,s6,Y,ab|M];let be:=Z8 hq;let%[q1,a,b,e,ha,hb|pe]:=tu q be;let st:=SqT.of (K:=K) (s6 _ _ q1);rw[e]at st;let get:∀y∈n,cu H6 d (.str y) (hY (.str (g y))):=λy hy=>by
      let:=cu.k (k:=kj y) ab;rw[kJ hy]at this;show this
     let b2:bg qs a b:=(pI a b).mpr (Xx %[q,be|pe]);show%[_,st,ρ,_,_,ρ,_,_,ρ,_,_,ρ,ρ|?_];show aj λD7 k7 _=>?_
     lk;show%[_,get a ha,_,get b hb|k7 _ _ (aj λD8 k8 _=>?_)]
     generalize hv:(if aM (g b) (g a)=hW then g b else g a)=v
     let hn:∀g,~~~(NmD n g)<lp:=λg=>by unfold NmD;rw[Z6];show aC ⋯
     let P1:=fM.k (k:=kj a) (v:= .str v) ab (hn g);rw[qf ha]at P1;let b3:F≠d:=λc=>by rw[c,ab]at Y;cases Y
     lk;show%[_,P1|k8 _ _ (az λD9 k9 _=>?_)];let P2:=fM.k (k:=kj b) (v:= .str v) (H:=Qa H6 d (.dK (NmD n λx=>if x=a then v else g x))) aa (hn _);rw[qf hb,Fj]at P2;lk;show%[_,P2|k9 _ _ %[_,_,_,_,_,_,ρ,ah.set s6 fd,(ap b3).trans Y,aa|?_]];let M2:=M.step ws b2 (λx y h=>(pI x y).mpr ((UU prT (Uu j us)) h)) hv.symm;show%[M2.con,M2.le|λx y t=>M2.don x y ?_];let t:(x,y)∈(us.take (j+1)).map prT:=t;rw[Xg,hq,Zd]at t;rcases Xu t with z|z
     .show .inl z
     .let z:(x,y)=prT q:=↑z
      rw[pe]at z;cases z;show .inr %[rfl|rfl]
    .intro B H6 %[o7,o8,o9,G,I,g,rfl,s6,Y,ab|M];rw[Zn (Zi _)]at M;show k6 _ _ %[_,_,_,_,_,g,rfl,s6,Y,ab|R.step pI ws %[M.con,M.le|λa b s=>M.don a b ((pI a b).mp s)]]
   .intro B H5 %[o7,o8,o9,G,I,f,rfl,s5,as,a0|R];show k4 _ _ ?_;lk;let R:Rnd n (us.map prT) (bg qs) f (us.map prT).length:=by rw[Z6];simpa using R
    show kk d H5 n f s5 fd a0 nd mem λz hz=>R.done pI ws hz
abbrev iZ(a:hH (hH Key×V))(m:ZB->Prop):Prop:=∃ks:hH ZB,a\1=ks.map (λk=>k.map kj)/\ks.Nodup/\∀k,k∈ks↔m k
def xE{c:hH (hH Key×V)}{m j:ZB->Prop}(h:iZ c m)(k:ZB)(v:V)(f:∀z,j z↔m z\/z=k):iZ (db c (k.map kj) v) j:=by
 let%[ks,g,l|i]:=h;let n:(k.map (kj:ku->Key))∈c\1↔k∈ks:=by
  rw[g,OD]
  constructor
  .rintro⟨z,p,e⟩;rw[<-n9 _ _ e];show p
  .intro d;show%[k,d|ρ]
 by_cases d:k∈ks
 .show%[ks,by rw[mG,ix (n.mpr d)];show g,l|λz=>?_];rw[i,f]
  constructor
  .show .inl
  .rintro(e|e)
   .show e
   .rw[e];show(i k).mp d
 .show%[ks++[k],by rw[mG,ij (λq=>d (n.mp q)),g,Zd];rfl,?_|λz=>?_]
  .rw[X8];show%[l,by simp|λa o b r e=>by rw[Xv r]at e;rw[e]at o;show d o]
  .rw[Yy,i,X4,f]
def B4{a:hH (hH Key×V)}{m b:ZB->Prop}(h:iZ a m)(e:∀k,m k↔b k):iZ a b:=by
 let%[ks,c,d|f]:=h;show%[ks,c,d|λk=>(f k).trans (e k)]
def AA{a:hH (hH Key×V)}{m:ZB->Prop}{B:hH ZB}(h:iZ a m)(s:∀k,m k->k∈B): ~~~a<= ~~~B:=by
 let%[ks,b,c|d]:=h;let:=_ST.nodup_sub c (m:=B) λk e=>s k ((d k).mp e)
 let l:=vj Mf b;rw[Z6,Z6]at l
 lia
def G5{rows:ZB}(h:u9 rows)(e:cW rows):∃m:hH ZB,~~~m<=60/\∀k,k∈m↔k∈bR rows (~~~rows-1):=by
 let%[m,c|d]:=h;show%[m.filter λk=>decide (k∈bR rows (~~~rows-1)),Ym (Yo _ _) c|λk=>?_];rw[ow,Nm];show%[λh=>h.2|λh=>%[?_|h]];let%[a,b,rfl|mt]:=mP h;show d a b mt
def xF{H:Hp}:∀{cs:ZH},cB H cs->(∀p∈cs,u9 p.2.2)->∃ks:hH ZB,~~~ks<=60* ~~~cs/\∀k,k∈ks↔k∈cG cs
 |[],_,_=>%[[],Zi _|λk=>N5]
 | q::cs,h,f=>by
   let%[ks,d|b]:=xF (cs:=cs) (λp a=>h p (Zk _ a)) λp a=>f p (Zk _ a)
   let%[m,e|c]:=G5 (f q Zm) (h q Zm).2.2;show%[m.map (l7 q.2.1) ++ks,by rw[Z9,Z6,Zr];lia|λk=>?_];unfold cG at b ⊢;rw[RL,Yy,Yy,b,OD,OD];show Qu (T9 λz=>Td λ_=>c z) N5
def AB{H:Hp}{cs:ZH}{qs:ZN}(ca:cB H cs)(i:cV H (cs.flatMap lyr) qs){n:iv}{k:ZB}(h:k∈cG cs\/k∈cH qs n):dI (cs.flatMap lyr) k:=by
 rcases h with h|h
 .let%[p,c|h]:=L4.mp h;let%[z,l|rfl]:=Xw h;let%[a,b,rfl|mt]:=mP l;let%[m|o]:=tO (ca p c).2.2 mt;show%[_,_,_,ρ,L4.mpr %[p,c|jP m]|L4.mpr %[p,c|jP o]]
 .let%[j,u|e]:=Mg.mp h;cases d:qs[j]? with
  | none=>rw[d]at e;cases e
  | some q=>
    rw[d]at e;rcases(i q (Z8 d)).2 with⟨g,a,b,f,hw,r,s,_⟩|⟨g,a,y,f,hw,_⟩
    .let e:h9 j q.2∣k:=e;rw[f]at e;let e:(if g=pp "later" then hY [a,b,vp j]else hV)∣k:=e
     split at e
     .cases e;show%[_,_,_,ρ,r|s]
     .cases e
    .let e:h9 j q.2∣k:=e;rw[f]at e;cases e
inductive tZ
 | mk (l m d:jg) (cs:ZH) (qs:ZN) (ms:ZB) (g:ku->ku) (ks0:hH ZB):vs=[.ref l,.ref m,.ref d]->H l<*cC cs->H m∣.lst (qs\0)->cB H cs->cV H (cs.flatMap lyr) qs-> ~~~cs<=3-> ~~~qs<=60->H d∣.dK (NmD ms g)->(∀z,z∈ms↔z∈cs.flatMap lyr)->(∀z∈ms,g z∈ms/\cL (bg qs) z (g z))-> ~~~ks0<=250->(∀k,k∈ks0↔k∈cG cs\/k∈cH qs qs.length)->(∀r H' (ss:ZG),ah H H'->H r=hV->H' r∣.lst (ss\0)->aB H' ss->bB (bg qs) ks0 (ss\2)->(∀k∈ss\2,dI ms k)-> ~~~ss<=250->Q (.ref r) H')->tZ vs H Q E0
def xG(T:Txt K mg):↥3 "_law_links" ["_law_cuts_here","_law_sayings","_law_homes_here"] tZ:=by
 .exists T.bw,d9,a4,hr,%[l,m,d,cs,qs,ms,g,c,rfl,hl,hm,ca,sa,c3,al,hd,mem,lg,a2,N|kk];show%[_,%["KCG3]GCQTH]7A0A1BiLJ4LJ5LJ6dDrh3fAX24AX25A6BDI%]HA3B",d9.nd|hr]|?_]
  change aS _ _ _ [!l,!m,!d,hV,hV,hV,hV] H;show aj λD1 k1 _=>?_
  lk;intro L hL;let O:=ah.Qa (o:= .dT []) hL;show k1 _ _ (aj λD2 k2 _=>ay λa3 hK=>?_);lk;show%[l,m,cs,qs,_,ρ,O _ _ hl,O _ _ hm,(λp hp=>%[O _ _ (ca p hp).1|(ca p hp).2]),(λq hq=>%[O _ _ (sa q hq).1|(sa q hq).2]),c3,al|λr H1 ts s1 B tt te=>%[%[_|Qb.of B]|hK _ _ ?_]];let an:=O.trans s1;let G:=s1 _ _ (show Qa H L (.dT []) L∣.dT [] from aa);let I:∀k,k∈ts\2↔k∈c:=λk=>by rw[te,Yy,N]
  let tok:∀k∈c,dI ms k:=λk j=>by
   let%[a,b,z,e,U|Y]:=AB ca sa ((N k).mp j);show%[a,b,z,e,(mem a).mpr U|(mem b).mpr Y]
  let as:r≠L:=λe=>by rw[e,G]at B;cases B
  let ab:∀n k,k∈((ts.take n)\2).map (iW g)->k∈c.map (iW g):=λn k j=>by
   let%[t,M|e]:=Xw j;show Xx %[t,(I t).mp ((UU _ (Uu n ts)) M)|e]
  let tm: ~~~(ts\0)= ~~~ts:=Z6 _;show bA (λi σ H'=>∃o4 o5 o6,σ=[!l,!m,!d,!L,o4,o5,o6]/\ah H H'/\(∀b o,b≠L->H1 b∣o->H' b∣o)/\∃u,H' L∣.dT u/\iZ u λk=>k∈((ts.take i)\2).map (iW g))
   %[_,_,_,rfl,an,(λb o _ e=>e),[],G,[],rfl,Xa|λk=>N5] (λi σ H' ⟨_,_,_,_,_,q,_⟩=>q _ _ as B) ?_ ?_
  .intro i t σ H2 M %[o4,o5,o6,rfl,s2,sx,u,J|v];let ac:=Z8 M;let%[a,b,z,et,U|Y]:=tok _ ((I t.2).mp (Xx %[t,ac|rfl]));let C:=(tt t ac).2;rw[et]at C;let st:=SqT.of (K:=K) (sx _ _ (λe=>by rw[e,G]at C;cases C) C);let a0:=s2 _ _ hd;let get:∀y∈ms,cu H2 d (.str y) (hY (.str (g y))):=λy hy=>by
    let:=cu.k (k:=kj y) a0;rw[kJ hy]at this;show this
   show%[_,st,ρ,_,_,ρ,_,_,ρ,_,_,ρ,ρ|?_];change ot _ _ _ _ [!l,!m,!d,!L,-a,-b,-z] H2;show az λD3 k3 _=>?_
   lk;show%[_,get a U,_,get b Y,#[3]|λp hp=>?_];let sp:=ah.Qa (o:= .tup [V.str (g a),V.str (g b),V.str z]) hp;let a1:=AA v (ab i);rw[Z6]at a1;show%[_,fM.t (k:=(iW g [a,b,z]).map kj) (sp _ _ J) (by rw[aa];rfl) (by rw[PySem.sizeLine_eq];lia)|k3 _ _ %[_,_,_,ρ,λb o e=>by rw[ap (av e hL)];show sp _ _ (s2 _ _ e),(λb o n e=>by rw[ap n];show sp _ _ (sx b o n e)),_,aa|xE v _ _ λk=>?_]];rw[Xg,M,Zd,Zd,Yy,<-et];show Qu N5 X4
  .intro σ H2 %[o4,o5,o6,rfl,s2,sx,u,J|v];rw[Xj]at v;show k2 _ _ ?_;lk;let%[ks,q1,q2|q3]:=v;let q3:∀k,k∈ks↔k∈c.map (iW g):=λk=>by
    show(q3 k).trans ?_;dsimp only;rw[OD,OD];show T9 λt=>Td λ_=>I t
   let lk:=qo tok (λz hz=>(lg z hz).2);let few: ~~~ks<=250:=by
    let:=_ST.nodup_sub q2 (m:=c.map (iW g)) λk j=>(q3 k).mp j
    rw[Z6]at this
    lia
   let ae:∀k∈ks,dI ms k:=λk j=>by
    let%[t,M|rfl]:=Xw ((q3 k).mp j);let%[a,b,z,rfl,U|Y]:=tok t M;show%[_,_,_,ρ,(lg a U).1|(lg b Y).1]
   let h3:∀k∈ks,~~~k=3:=λk j=>by
    let%[a,b,z,rfl|_]:=ae k j;rfl
   show%[u,J,ks,q1,3,h3,!1,⋯|λr ss ag ta pm _=>?_];let s3:=ah.Qa (o:= .lst (ss\0)) ag;show kk r _ ss (s2.trans s3) (s2.free ag) aa (ax ta λb z e=>s3 _ _ e) %[pm.nodup_iff.mpr q2|λk=>by rw[pm.mem_iff,q3,lk]] (λk j=>ae k (pm.mem_iff.mp j)) (by let:=pm.length_eq;rw[Z6]at this;lia)
def mU{M:ZB}{g:ku->V}{y:ku}:(bI (VD M g) (kj y)).isSome=hW↔y∈M:=by
 by_cases c:y∈M
 .rw[iX c];simp[c]
 .rw[iY c];simp[c]
def BeF.get{H:Hp}{ks:hH ZB}{d:jg}{rs:Gs ku}(h:BeF H ks d rs){x:ku}(b:x∈rs\1):∃a M,cu H d (.str x) (hY (.ref a))/\(∃g:ku->ri,H a∣.dK (VD M λx=> .int (g x))/\Far ks x M g)/\M.Nodup/\∀y,y∈M↔Rch ks x y:=by
 let%[o|c]:=h.at_;let%[r,e,rfl|f]:=kL b;show%[r.2.1,r.2.2,.inl %[_,kj r.1,.inr %[o|c],ρ|f.symm]|h.in_ r e]
inductive xH
 | mk (b:jg) (ks:hH ZB) (rs:Gs ku):vs=[.ref b]->BeF H ks b rs-> ~~~rs<=1000->(∀H' v,ah H H'->(v=hW↔∃x∈rs\1,Rch ks x x)->Q (.bl v) H')->xH vs H Q E0
def qI(T:Txt K mg):↥1 "_law_has_ring" ["_law_beneath_here"] xH:=by
 .exists T.bA,nT,ab,j,%[b,ks,rs,rfl,L,rl|kk];let%[o|z]:=L.at_;show%[_,%["KDIn^gc?1~%P0b0?2w~T0XP100RB",0,↑(["_law_deposit","_law_beneath_here"],[(1,0)]),↑["_law_deposit","_law_beneath_here"]|j]|?_];change jh _ _ [!b] H;lk;show aG λN hK=>?_
  unfold wL;lk;show%[_,_,z|hK _ _ λF O=>?_];let gl: ~~~(gD rs)= ~~~rs:=Z6 _;show dL (J:=Itk b o (gD rs)) (n:= ~~~(gD rs)) (D:=F) (λi ts B m=>A5 (∃U,B=[U,!b]) (ah H m) (m F<*ts) (~~~ts<=i) (ts≠[]↔∃r∈rs.take i,Rch ks r.1 r.1))
   %[%[hV|rfl],ah.Qa O,aa,Zi _|by simp] (λi _ _ m hi ⟨_,d,_,_,_⟩=>%[d _ _ z|hi]) (λ_ _ m ⟨_,d,_,_,_⟩=>%[d _ _ z|Zi _]) ?_ ?_
  .intro i ts B m hi %[%[U|rfl],d,e,Y|y] x H2 %[e2,k,v,hk|C];subst e2;let il:i< ~~~rs:=by lia
   obtain⟨r,l⟩:∃r,rs[i]?∣r:=%[_|Z4 il]
   let G:(gD rs)[i]?∣(kj r.1,V.ref r.2.1):=by unfold gD;rw[Zl,l];rfl
   rw[G]at hk;cases hk;obtain rfl:x=V.str r.1:=C;let%[a,M,ga,%[g,ha|_],_|hM]:=(L.up d).get (Xx %[r,Z8 l|rfl]);let tk:rs.take (i+1)=rs.take i++[r]:=by rw[Xg,l];rfl
   lk;show%[_,ga,_,.inl %[_,kj r.1,.inl ha,ρ|ρ]|bC (λc=>CK.mk hi e (aC ⋯) %[%[_|ρ],ah.set d O,aa,by rw[Z9];show Xf Y|?_]) λc=>CN.mk hi %[%[_|ρ],d,e,⋯|?_]]
   .rw[tk];show%[λ_=>%[r,X1 _ Zm|(hM _).mp (mU.mp c)]|λ_=>by simp]
   .rw[y,tk];show%[λ⟨q,I,h⟩=>%[q,Yz _ I|h]|λ⟨q,I,h⟩=>?_];rcases Xu I with u|u
    .show%[q,u|h]
    .rw[Xv u]at h;show(c (mU.mpr ((hM _).mpr h))).elim
  .intro ts B m %[_,d,e,Y|y];rw[gl,Xj]at y;show%[Xl _|λp hp=>%[ts,ah.Qa hp _ _ e,aa|kk _ _ (d.trans (ah.Qa hp)) ?_]];rw[Nm,y];show%[λ⟨r,j,h⟩=>%[r.1,Xx %[r,j|ρ]|h]|λ⟨x,C,h⟩=>by let%[r,j|rfl]:=Xw C;show%[r,j|h]]
inductive xI (mg:ZC)
 | mk (g:jg) (qs:ZN) (ls:ZB) (ts:ZG):vs=[.ref g]->ic mg H g qs ls ts->(∀lk,bB (bg qs) (ts\2) lk->∀x,¬ Rch lk x x)->(∀t l H' lk (ps:ZG),ah H H'->H l=hV->H t=hV->H' t<*[.ref l,.non]->bB (bg qs) (ts\2) lk->H' l∣.lst (ps\0)->aB H' ps->(∀k,k∈ps\2↔∃x y,k=[x,y]/\Dir lk x y)->(ps\2).Nodup->(ps\2).Pairwise (λa b=>dR b a=hX)-> ~~~ps<=250->Q (.ref t) H')->xI mg vs H Q E0
inductive xJ
 | mk (d e:jg) (ps rs:ZG):vs=[.ref d,.ref e]->H d∣.lst (ps\0)->H e∣.lst (rs\0)->aB H ps->aB H rs->ps\2=rs\2->(∀H',ah H H'->Q (.bl hW) H')->xJ vs H Q E0
def AC{H:Hp}{ps rs:ZG}(f:aB H ps)(g:aB H rs)(e:ps\2=rs\2)(j:iv)(x y:V)(a:(ps\0)[j]?∣x)(b:(rs\0)[j]?∣y):LkV H x y:=by
 rw[Zl]at a b;let%[p,c|rfl]:=Ly.mp a;let%[r,d|rfl]:=Ly.mp b;let h:p.2=r.2:=by
  let:=vj (·[j]?) e;simp only[Zl,c,d,WH,PV]at this;show this
 show%[p.1,r.1,_,ρ,ρ,(f p (Z8 c)).2,h▸(g r (Z8 d)).2|MV.mpr λv i=>?_];let%[z,_|rfl]:=Xw i;rfl
def qJ(T:Txt K mg):↥9 "_law_told" ["_law_ground_here"] (xI mg):=by
 .exists T.bE,gP,j,m,%[g,qs,c,ts,rfl,n,p|q];show%[_,(QSs.h (ai (aI 1 gP.nd rfl oG)
   (ai (aI 2 gP.nd rfl oG)
   (ai (K0 (λ_ _ h=>h) (ao (aI 1 gP.nd rfl (aJ (qH T) m rfl #[↑0]))))
   (ao (aL (bT #[↑1,↑2])))))))|?_]
  change aS _ _ _ [!g,hV,hV,hV] H;show aj λG k1 _=>?_
  lk;show k1 _ _ (aj λI k2 _=>?_);lk;show k2 _ _ (aj λJ r _=>?_);lk;show%[g,qs,c,ts,ρ,n,p|λl L lk ps d u a v y mem nd B C=>r _ _ ?_];lk;show%[#[2]|λt i=>?_];let sp:=ah.Qa (o:= .lst [V.ref l,V.non]) i;show q t l _ lk ps (d.trans sp) u (d.free i) aa a (sp _ _ v) (ax y λb z e=>sp _ _ e) mem nd B C
def nJ(T:Txt K mg):↥1 "_law_right" ["_law_told_here","_law_due_here"] xJ:=by
 .exists T.bF,ve,z,m,%[d,e,ps,rs,rfl,b,B,n,C,q|G];show%[_,%["KCNjueaxyA0A?1B!M]I01DIhODIn~&gc?2T0b0?3weaxyA0A?4B0RB",0,(blE (v:= .ty "list") rfl T.a5 OW rfl rfl rfl),(show bp (ak jC) ["_law_told_here","_law_due_here"] _ ["_law_pair"] []=hW from !0),↑["_law_pair"],(blE (v:= .ty "tuple") rfl T.ah Tb rfl rfl rfl)|m]|?_]
  change aS _ _ _ [!d,!e] H;show aj λM k1 _=>?_
  lk;show%[_,.lst b,hW,ρ|qQ ?_];unfold Ez;show%[_,_,Qb.of b,Qb.of B,by let:=vj Mf q;rwa[Z6,Z6]at this ⊢,AC n C q|k1 _ _ ?_];lk;show aG λr I=>?_
  lk;show%[%[_|Qb.of b]|I _ _ λF J=>?_];show bZ (λj vs g a=>(∃o,g=[o])/\ah H a/\a F<*vs/\vs=[]) %[%[hV|rfl],ah.Qa J,aa|rfl] (λ_ _ _ a ⟨_,c,_,_⟩=>c _ _ b) ?_ ?_
  .intro j vs g a u %[%[o|rfl],c,i|rfl];lk;show%[_,.tup (c _ _ (n _ (Yh u)).2),hW,ρ|qQ (CN.mk u %[%[_|ρ],c,i|ρ])]
  .intro vs g a %[_,L,l|rfl];show%[Xl _|λp y=>?_];show%[[],ah.Qa y _ _ l,aa|?_];rw[Zf rfl];show G _ (L.trans (ah.Qa y))
def iQ{L M:hH ZB}(nl:L.Nodup)(nm:M.Nodup)(c:L.Pairwise λa b=>dR b a=hX)(d:M.Pairwise λa b=>dR b a=hX)(e:∀k,k∈L↔k∈M):L=M:=
 KE.eq_of_pairwise (λ_ _ _ _ h g=>DP h g) c d ((hH.perm_ext_iff_of_nodup nl nm).mpr e)
inductive t4 (mg:ZC)
 | mk (a m b dx l:jg) (lk:hH ZB) (ws ss:ZG) (x:ku) (rs:Gs ku):vs=[.ref a,.ref m,.ref b]->H a∣ExH a (aE mg "Torn") (hY dx)->vC H lk dx l ws x->H m∣.lst (ss\0)->aB H ss->(∀k,k∈lk↔k∈ss\2)->BeF H (ss\2) b rs-> ~~~rs<=1000->x∈rs\1->(∀H',ah H H'->Q (.bl hW) H')->t4 mg vs H Q E0
def rH(T:Txt K mg):↥2 "_law_is_torn" ["_law_refused","_law_laid","_law_beneath_here"] (t4 mg):=by
 .exists T.bC,jB,a4,hr,%[a,m,b,dx,l,lk,ws,ss,x,rs,rfl,hA,d,hm,hs,le,be,rl,hx|kk];let B:∀H2,ah H H2->TyX K H2 (.ref a) (.ref (aE mg "Torn")):=λH2 s2=> .ex %[_,s2 _ _ hA|.inr %[dx,_,rfl|s2 _ _ d.ad]] T.x_Torn.is
  show%[_,%["KCNjuea~b~'A0A?1Buea~b]8A0A?2B!eaxyA~(0A?3BDIhOCNjua~b~'A0AfA?4A?5A?6BB!a~b~'A0AfA?7A?8A?9BBDIhOCG3~(0CNjuM~&3RB!eaH]9A3A1AUS3EEAUS3EEBDIhODInvklA3B~J`AAgc?:~%P2b0?;w~T0XP10XXP100B",jB.nd,(qZ (mg:=mg) rfl rfl T.c_Torn rfl),(blE (v:= .ty "ValueError") rfl T.am PyProof.Rows.Boot.«ValueError» rfl rfl rfl),(blE (v:= .ty "list") rfl T.a5 OW rfl rfl rfl),(qZ (mg:=mg) rfl rfl T.c_NoCut rfl),(qZ (mg:=mg) rfl rfl T.c_NoGround rfl),(qZ (mg:=mg) rfl rfl T.c_NoSaying rfl),(qZ (mg:=mg) rfl rfl T.c_NoDeed rfl),(qZ (mg:=mg) rfl rfl T.c_NoRow rfl),(qZ (mg:=mg) rfl rfl T.c_NoLayer rfl),↑(["_law_deposit","_law_beneath_here"],[(1,2)]),↑["_law_deposit","_law_beneath_here"]|hr]|?_]
  change aS _ _ _ [!a,!m,!b,hV] H;show aj λD1 k1 r1=>?_
  lk;show%[_,B _ (ah.refl _),hW,.inl T.k_Torn_Torn|qQ %[_,B _ (ah.refl _),hW,T.k_Torn_ValueError|qQ %[a,dx,_,.ref l,ρ,hA,d.ad,ρ,_,.lst d.al,hW,ρ|qQ (k1 _ _ (aj λD2 k2 r2=>?_))]]];lk;show%[#[3]|λp hp=>?_];let sp:=ah.Qa (o:= .tup [V.ref (aE mg "NoCut"),V.ref (aE mg "NoGround"),V.ref (aE mg "NoSaying")]) hp;show%[_,B _ sp,hX,.inr %[_,aa|T.k_Torn_any0]|?_]
  generalize Qa H p _=H1 at sp
  show qQ %[#[3]|λp2 al=>?_];let G:=sp.trans (ah.Qa (o:= .tup [V.ref (aE mg "NoDeed"),V.ref (aE mg "NoRow"),V.ref (aE mg "NoLayer")]) al);show%[_,B _ G,hX,.inr %[_,aa|T.k_Torn_any1]|?_]
  generalize Qa H1 p2 _=H2 at G
  show qQ (k2 _ _ (aj λD3 k3 r3=>?_));lk;show%[a,dx,_,.ref l,ρ,G _ _ hA,G _ _ d.ad,ρ|k3 _ _ (aj λD4 k4 r4=>?_)];lk;show%[Xl _|λp3 an=>?_];let U:=G.trans (ah.Qa (o:= .lst []) an);show%[_,U _ _ d.al,aa|?_]
  generalize Qa H2 p3 _=H3 at U
  obtain⟨C,wr,rfl⟩:∃C wr,ws=C::wr:=match ws,d.sho.pos with|C::wr,_=>%[C,wr|rfl]
  rw[ij ∅];let l3:=U _ _ d.al;let ab:=d.sho.wal;let t0:SqT K H3 C.1 (C.2\3):=SqT.of (U _ _ (d.tu C Zm).2);let e0:atI (C.2\3) 0∣.str x:=by
   let%[c,z,ew|_]:=ab;rw[show C.2=[x,c,z]from ew];rfl
  let i0:atI ((C::wr)\0) 0∣.ref C.1:=cS (j:=0) rfl;show%[_,Qb.of l3,_,i0,_,t0,_,e0,_,Qb.of l3,_,i0,_,t0,_,e0,l,m,x,x,C::wr,ss,ρ,l3,ax d.tu (λb z e=>U _ _ e),U _ _ hm,ax hs (λb z e=>U _ _ e),(λt ht=>(le _).mp (d.sho.sub _ (Xx %[t,ht|ρ]))),ab,d.len|λH4 s4=>(k4 _ _ ?_)];let s4:=U.trans s4;lk;let ac:=be.up s4;let%[o|ho]:=ac.at_;show%[_,.inl %[_,Qb.of (s4 _ _ d.al)|ρ]|aG λa3 hK=>?_];unfold wL;lk;show%[_,_,ho|hK _ _ λF hF=>?_];let gl: ~~~(gD rs)= ~~~rs:=Z6 _;show dL (J:=Itk b o (gD rs)) (n:= ~~~(gD rs)) (D:=F) (λi ts σ H'=>A4 (∃o1,σ=[o1,!b]) (ah H4 H') (H' F<*ts) (∃L:ZL,A4 (ts=L\4) (~~~L<=i) (∀n∈L,∃y k,n=((k+1:iv):ri)/\Dst (ss\2) y (k+1) y) (∀r∈rs.take i,Rch (ss\2) r.1 r.1->∃n∈L,∀m,Dst (ss\2) r.1 (m+1) r.1->n<=((m+1:iv):ri))))
   %[%[hV|rfl],ah.Qa hF,aa,[],rfl,Zi _,(λ_ h=>nomatch h)|λ_ h=>nomatch h] (λi _ _ H' hi ⟨_,N,_,_⟩=>%[N _ _ ho|hi]) (λ_ _ H' ⟨_,N,_,_⟩=>%[N _ _ ho|Zi _]) ?_ ?_
  .intro i ts σ H' hi %[%[o1|rfl],N,O,L,rfl,nl,n1|n2] x H2 %[e2,k,v,hk|hx];subst e2;let il:i< ~~~rs:=by lia
   obtain⟨r,I⟩:∃r,rs[i]?∣r:=%[_|Z4 il]
   let as:(gD rs)[i]?∣(kj r.1,V.ref r.2.1):=by unfold gD;rw[Zl,I];rfl
   rw[as]at hk;cases hk;obtain rfl:x=V.str r.1:=hx;let%[a,M,ga,%[g,ha|a0],_|hM]:=(ac.up N).get (Xx %[r,Z8 I|rfl]);let tk:rs.take (i+1)=rs.take i++[r]:=by rw[Xg,I];rfl
   let Y:=cu.k (k:=kj r.1) ha;lk;show%[_,ga,_,Y|bC (λc=>?_) λc=>CN.mk hi %[%[_|ρ],N,O,L,ρ,⋯,n1|λq hq h=>?_]]
   .let ae:=mU.mp c;let%[n,en,d1|d2]:=a0 _ ae;rw[iX ae]at Y;show%[_,ga,_,Y|CK.mk hi O (by rw[Z6];show aC ⋯) %[%[_|ρ],ah.set N hF,aa,L++[g r.1],by rw[Zd];rfl,by rw[Z9];show Xf nl,λz hz=>?_|λq hq h=>?_]]
    .rcases Xu hz with u|u
     .show n1 z u
     .rw[Xv u];show%[_,n,en|d1]
    .rw[tk]at hq;rcases Xu hq with u|u
     .let%[z,hz|q2]:=n2 q u h;show%[z,Yz _ hz|q2]
     .rw[Xv u];show%[_,X1 _ Zm|λm hm=>by rw[en];let:=d2 m hm;lia]
   .rw[tk]at hq;rcases Xu hq with u|u
    .show n2 q u h
    .rw[Xv u]at h;show(c (mU.mpr ((hM _).mpr h))).elim
  .intro ts σ H' %[_,N,O,L,rfl,nl,n1|n2];rw[gl,Xj]at n2;let%[k,ek|Y]:=d.sho.dst;rw[jG le]at Y;let%[r,I|rfl]:=Xw hx;let%[n,hn|ag]:=n2 r I Y.rch;let nk:=ag _ Y;rw[Z6]at ek;show%[L,Qb.of O,SK hn|λq hq qm=>?_];let%[y,k2,rfl|d2]:=n1 q hq;let a1:=qm n hn;let a2:=d.min y k2 (by rw[jG le];show d2);rw[Zf (by rw[Z6];lia)];show kk _ (s4.trans N)
def Fg(T:Txt K mg):yx P w K mg base 8 "levels" ["ground"] (jT mg):=by
 let cP:=cP (P:=P) (w:=w) (base:=base) T;show T.aV.calX tf (λH vs Q E h=>?_)
 .let%[g,qs,a,ts,lk,us,rfl,d,e,i|j]:=h;show%[ρ|λf b A outer s c=>?_];show%[_,QSs.h (ai (aI 1 tf.nd rfl (Hq (zG λ_ _ _ h=>h) cP c rfl rfl rfl rfl #[↑0])) z5)|?_];show%[g,qs,a,ts,lk,[],ρ,d,e,i|j]
def qK(T:Txt K mg):yx P w K mg base 8 "direct_pairs" ["ground"] (jT mg):=by
 let cP:=cP (P:=P) (w:=w) (base:=base) T;show T.aT.calX bo (λH vs Q E h=>?_)
 .let%[g,qs,b,ts,lk,us,rfl,d,e,i|j]:=h;show%[ρ|λf c A outer s a=>?_];show%[_,QSs.h (ai (aI 1 bo.nd rfl (aJ (bW T) a rfl #[(Hq (zG λ_ _ _ h=>h) cP a rfl rfl rfl rfl #[↑0])])) z5)|?_];show%[g,qs,b,ts,lk,[],ρ,d,e,i|j]
inductive qL (mg:ZC)
 | mk (g m b:jg) (qs:ZN) (ls:ZB) (ts ss:ZG) (rs:Gs ku):vs=[.ref g,.ref m,.ref b]->ic mg H g qs ls ts->bB (bg qs) (ts\2) (ss\2)->(∃x,Rch (ss\2) x x)->H m∣.lst (ss\0)->aB H ss->BeF H (ss\2) b rs-> ~~~rs<=1000->(∀x,Rch (ss\2) x x->x∈rs\1)->(∀H',ah H H'->Q (.bl hW) H')->qL mg vs H Q E0
def qM(T:Txt K mg):↥9 "_law_all_torn" ["_law_ground_here","_law_laid","_law_beneath_here"] (qL mg):=by
 let XL:=qK (P:=P) (w:=w) (base:=base) T;let XD:=Fg (P:=P) (w:=w) (base:=base) T;show T.bG.cal cY (λH vs Q E h=>?_)
 .let%[g,m,b,qs,ls,ts,ss,rs,rfl,hg,U,hx,hm,hs,be,rl,Y|kk]:=h;show%[ρ|λf ae A outer s hr=>?_];show%[_,%["KCQTRA?1A?2A?1BJ3CG4;C?3CNeaH`BA4A1A2BDIhODY`C`D~(4DIh",cY.nd,(qZ (mg:=mg) rfl rfl T.aT.at_ rfl),(qZ (mg:=mg) rfl rfl T.aV.at_ rfl),(tryE (i:=5) rfl rfl cY.nd rfl rfl rfl rfl T.c_DigError T.t_DigError rfl (λ_ _=>
    (ao (bD rfl (Le BL hr rfl rfl ↑3 #[↑0]))))
    (λ_=>(ao (aI 4 cY.nd rfl ↑5))))|hr]|?_]
  change aS _ _ _ [!g,!m,!b,hV,hV,hV] H;show aj λD1 k1 r1=>ay λac hK=>?_
  lk;show%[#[3]|λp hp=>?_];let ab:∀v∈[V.ref (aE mg "direct_pairs"),V.ref (aE mg "levels"),V.ref (aE mg "direct_pairs")],∃y,v= .ref (aE mg y)/\yx P w K mg base 8 y ["ground"] (jT mg):=by
   intro v r;rcases X2.mp r with rfl|r
   .show%[_,ρ|XL]
   rcases X2.mp r with rfl|r
   .show%[_,ρ|XD]
   rw[Xv r];show%[_,ρ|XL]
  let sp:=ah.Qa (o:= .lst [V.ref (aE mg "direct_pairs"),V.ref (aE mg "levels"),V.ref (aE mg "direct_pairs")]) hp;let gp:Qa H p (.lst [V.ref (aE mg "direct_pairs"),V.ref (aE mg "levels"),V.ref (aE mg "direct_pairs")]) p=_:=aa
  generalize Qa H p _=H1 at sp gp
  show%[%[_|Qb.of gp]|hK _ _ (eL (λi M n=>(E2 λo3 N=>M=[!g,!m,!b,o3,N,hV])/\ah H1 n) %[%[_,_|ρ]|ah.refl _] (λi M n _ ⟨_,u⟩=>Qb.of (u _ _ gp)) ?_ ?_)]
  .intro i v M n r %[%[o3,N|rfl]|u];let%[y,rfl|hy]:=ab v (Z8 r);let s1:=sp.trans u;change aS _ _ _ [!g,!m,!b,hY (.ref (aE mg y)),N,hV] n;show aj λD2 k2 r2=>?_
   lk;show k2 _ _ (aj λD3 k3 r3=>?_);obtain⟨XE,I⟩:∃XE:_LL.St->XK,XE=λJ c d G=>J=[!g,!m,!b,hY (.ref (aE mg y)),hY .non,hV]/\c= .ref (aE mg "Torn")/\∃j l ws x,d∣j/\ah n G/\n j=hV/\n l=hV/\j≠l/\vC G (ss\2) j l ws x:=%[_|rfl]
   show%[XE,?_|?_]
   .lk;show%[8,y,["ground"],_,hy,ρ,ρ|?_];change jT mg [.ref g] n _ _;show%[g,qs,ls,ts,ss\2,[],ρ,hg.up s1,U,hx|λd l G ws x s' hd hl dl q=>by rw[I];show%[ρ,ρ,d,l,ws,x,ρ,s',hd,hl,dl|q]]
   .intro J c d G h;rw[I]at h;let%[rfl,rfl,j,l,ws,x,rfl,s2,ag,fl,al|q]:=h;show%[_,ρ,T.u_Torn|λa _ ha=>?_];let hA:Qa G a (ExH a (aE mg "Torn") (hY j)) a∣_:=aa;let L:=ah.Qa (o:=ExH a (aE mg "Torn") (hY j)) ha;let B:=s2.trans L;change qN _ _ _ [!g,!m,!b,hY (.ref (aE mg y)),hY .non,!a] _
    generalize Qa G a _=H3 at hA L B
    show az λD4 k4 r4=>?_
    lk;show k4 _ _ (k3 _ _ ?_);change aS _ _ _ [!g,!m,!b,hY (.ref (aE mg y)),!a,hV] H3;show aj λD5 k5 r5=>?_
    lk;let s3:=s1.trans B;let C:vC H3 (ss\2) j l ws x:=%[L _ _ q.ad,L _ _ q.al,ax q.tu (λb z e=>L _ _ e),q.sho,q.min|q.len]
    show%[a,m,b,j,l,ss\2,ws,ss,x,rs,ρ,hA,C,s3 _ _ hm,ax hs (λb z e=>s3 _ _ e),(λk=>N5),be.up s3,rl,Y x q.sho.rch|λH4 O=>k5 _ _ (az λD6 k6 r6=>?_)];lk;let l4:=O _ _ C.al;show%[a,j,_,.ref l,ρ,O _ _ hA,O _ _ C.ad,ρ,tyL (Qb.of l4),%[_|l4]|k6 _ _ %[%[_,_|ρ]|ah.set (u.trans (B.trans O)) (u.free fl)]]
  .intro M n %[%[o3,N|rfl]|u];show k1 _ _ ?_;lk;show kk _ (sp.trans u)
abbrev G6(lk:hH ZB)(ts:ZG)(x y:ku):Prop:=∃s,∃t∈ts,∃z,t.2=[x,s,z]/\Rch lk s y
abbrev DueK(lk:hH ZB)(ts:ZG)(k:ZB):Prop:=∃t∈ts,∃x y z,t.2=[x,y,z]/\k=[x,y]/\Dir lk x y
def G7{ss:ZG}{x y:ku}(h: ¬ G6 (ss\2) ss x y):∀s,Ed (ss\2) x s-> ¬ Rch (ss\2) s y:=λs ⟨z,a⟩ r=>by
 let%[t,b|e]:=Xw a;show h %[s,t,b,z,e|r]
inductive Fh
 | mk (m b:jg) (ss:ZG) (rs:Gs ku):vs=[.ref m,.ref b]->H m∣.lst (ss\0)->aB H ss-> ~~~ss<=250->(∀t∈ss,∃x y z,t.2=[x,y,z]/\x∈rs\1/\y∈rs\1)->BeF H (ss\2) b rs->(∀r H' (ps:ZG),ah H H'->H r=hV->H' r∣.lst (ps\0)->aB H' ps->(∀k,k∈ps\2↔∃x y,k=[x,y]/\Dir (ss\2) x y)->(ps\2).Nodup->(ps\2).Pairwise (λa b=>dR b a=hX)-> ~~~ps<=250->Q (.ref r) H')->Fh vs H Q E0
def B5(T:Txt K mg):↥1 "_law_due" ["_law_laid","_law_beneath_here"] Fh:=by
 .exists T.bD,eE,bc,hr,%[m,b,ss,rs,rfl,hm,hs,sl,tok,be|kk];show%[_,%["KCG2]GCQT0iL~U3pqL~U4pqLJ5dC~Y6qpc?1T0b0?2wj.M)U0EP1/~TP2XP3U0E0DNM~&6RBDrh2fAP3AP4BODI%]HA2B",eE.nd,(show bp (ak mL) ["_law_laid","_law_beneath_here","_law_due_here","_law_later","_law_earlier","_law_source","_law_amid"] _ ["_law_link","_law_later","_law_earlier","_law_beneath_here"] [(1,3),(2,4),(3,1)]=hW from !0),↑["_law_link","_law_later","_law_earlier","_law_beneath_here"]|hr]|?_]
  change aS _ _ _ [!m,!b,hV,hV,hV,hV,hV] H;show aj λD1 k1 _=>?_
  lk;intro L hL;let sL:=ah.Qa (o:= .dT []) hL;show k1 _ _ (aj λD2 k2 _=>ay λag hK=>?_);lk;let bf:m≠L:=av hm hL;let as:Qa H L (.dT []) L∣.dT []:=aa;show%[%[_|Qb.of (sL _ _ hm)]|hK _ _ (bA (λi J H'=>∃o3 o4 o5 o6,J=[!m,!b,!L,o3,o4,o5,o6]/\ah H H'/\∃l,H' L∣.dT l/\iZ l (DueK (ss\2) (ss.take i)))
   %[_,_,_,_,ρ,sL,[],as,[],ρ,Xa|λk=>%[λh=>(nomatch h)|λ⟨_,h,_⟩=>(nomatch h)]] (λi J H' ⟨_,_,_,_,_,sm,_⟩=>sm _ _ hm) ?_ ?_)]
  .intro i t J H2 ht %[o3,o4,o5,o6,rfl,I,l,O|v];let U:=Z8 ht;let%[x,y,z,Y,hx|hy]:=tok t U;let al:=I _ _ (hs t U).2;rw[Y]at al;show%[_,SqT.of al,ρ,_,_,ρ,_,_,ρ,_,_,ρ,ρ|?_];change aS _ _ _ [!m,!b,!L,-x,-y,-z,o6] H2;show aj λD3 k3 _=>?_
   lk;show aG λag hK=>?_
   lk;show%[%[_|Qb.of (I _ _ hm)]|hK _ _ λF hF=>?_];show bZ (λj vs J H7=>(∃o1,J=[o1,-x,-y,!b])/\ah H2 H7/\H7 F<*vs/\ ~~~vs<=j/\(vs≠[]↔G6 (ss\2) (ss.take j) x y))
    %[%[hV|rfl],ah.Qa hF,aa,Zi _,λh=>(h rfl).elim|λ⟨_,_,h,_⟩=>(nomatch h)] (λ_ _ _ H7 ⟨_,sm,_⟩=>sm _ _ (I _ _ hm)) ?_ ?_
   .intro j vs J H8 hj %[%[o1|rfl],N,G,vl|vI];let ka:ss.take (j+1)=ss.take j++[ss[j]]:=by rw[Xg,Z4 hj];rfl
    let%[u,s,q,eu,hu|a0]:=tok _ (Yh hj);let tu:=N _ _ (I _ _ (hs _ (Yh hj)).2);rw[eu]at tu;let%[a,M,ga,%[g,ha|_],_|hM]:=(be.up (I.trans N)).get a0;let no: ¬ (u=x/\Rch (ss\2) s y)->(G6 (ss\2) (ss.take (j+1)) x y↔G6 (ss\2) (ss.take j) x y):=λn=>by
     rw[ka]
     constructor
     .rintro⟨s',t',C,z',e,r⟩;rcases Xu C with h|h
      .show%[s',t',h,z',e|r]
      .rw[Xv h,eu]at e;cases e;show(n %[rfl|r]).elim
     .show λ⟨s',t',C,z',e,r⟩=>%[s',t',Yz _ C,z',e|r]
    lk;show%[_,SqT.of tu,.str u,ρ,ρ|bC (λc=>%[_,SqT.of tu,.str s,ρ,_,ga,_,cu.k (k:=kj y) ha|bC (λd=>CK.mk hj G (aC ⋯) %[%[_|ρ],ah.set N hF,aa,by rw[Z9];show Xf vl|?_]) λd=>CN.mk hj %[%[_|ρ],N,G,⋯|?_]]) λc=>CN.mk hj %[%[_|ρ],N,G,⋯|?_]]
    .obtain rfl:=V.str.inj (Zo c);show%[λ_=>%[s,_,ka▸X1 _ Zm,q,eu|(hM y).mp (mU.mp d)]|λ_=>by simp]
    .rw[vI,no λh=>d (mU.mpr ((hM y).mpr h.2))]
    .rw[vI,no λh=>c (Zf (vj V.str h.1))]
   .intro vs J H7 %[_,N,G,vl|vI];rw[Zn (Zi _)]at vI;show k3 _ _ (az λD4 k4 _=>?_);lk;let ti:ss.take (i+1)=ss.take i++[t]:=by rw[Xg,ht];rfl
    let a1:=I.trans N;let a2:=N _ _ O;show%[Xl _|λp hp=>%[vs,ah.Qa hp _ _ G,aa|?_]];let sp:=ah.Qa (o:= .lst []) hp;let ab:=sp _ _ a2;let ac:=a1.trans sp
    generalize Qa H7 p _=H8 at sp ab ac
    show bC (λc=>%[#[2]|λp1 a3=>?_]) λc=>k4 _ _ %[_,_,_,_,rfl,ac,l,ab|?_]
    .let s1:=ah.Qa (o:= .tup [V.str x,V.str y]) a3;let a4:Dir (ss\2) x y:=%[%[z|Xx %[t,U|Y]]|G7 λh=>(vI.mpr h) (Zo c)]
     let a5:=AA v (B:=ss.map λt=>t.2.take 2) λk ⟨t',C,a',b',c',e,ek,_⟩=>Xx %[t',X3 C|by rw[e,ek];rfl]
     rw[Z6]at a5;show%[_,fM.t (k:=[x,y].map kj) (s1 _ _ ab) (by rw[aa];rfl) (by rw[PySem.sizeLine_eq];lia)|k4 _ _ %[_,_,_,_,ρ,ah.set (ac.trans s1) hL,_,aa|xE v [x,y] _ λk=>?_]];rw[ti]
     constructor
     .rintro⟨t',C,a',b',c',e,ek,d⟩;rcases Xu C with h|h
      .show .inl %[t',h,a',b',c',e,ek|d]
      .rw[Xv h,Y]at e;cases e;show .inr ek
     .rintro(⟨t',C,r⟩|e)
      .show%[t',Yz _ C|r]
      .show%[t,X1 _ Zm,x,y,z,Y,e|a4]
    .show B4 v λk=>?_
     rw[ti];show%[λ⟨t',C,r⟩=>%[t',Yz _ C|r]|λ⟨t',C,a',b',c',e,ek,d⟩=>?_];rcases Xu C with h|h
     .show%[t',h,a',b',c',e,ek|d]
     .rw[Xv h,Y]at e;cases e;let%[s,a6,h2,bb,e2|r]:=vI.mp λe=>c (Zf e)
      show(d.2 s %[bb|Xx %[a6,h2|e2]] r).elim
  .intro J H2 %[o3,o4,o5,o6,rfl,I,l,O|v];rw[Xj]at v;show k2 _ _ ?_;lk;let%[ks,q1,q2|q3]:=v;let ae:∀k,k∈ks↔∃x y,k=[x,y]/\Dir (ss\2) x y:=λk=>by
    rw[q3];show%[λ⟨t,_,x,y,z,_,e,d⟩=>%[x,y,e|d]|λ⟨x,y,e,d⟩=>?_];let%[z|hz]:=d.1;let%[t,ht|Y]:=Xw hz;show%[t,ht,x,y,z,Y,e|d]
   let few:=mT (ss:=ss) q2 λk hk=>let⟨x,y,e,d⟩:=(ae k).mp hk;%[x,y,e|d.1]
   show%[l,O,ks,q1,2,λk hk=>?_,!1,⋯|λr ps an ta pm po=>?_]
   .let%[x,y,rfl|_]:=(ae k).mp hk;rfl
   let s3:=ah.Qa (o:= .lst (ps\0)) an;show kk r _ ps (I.trans s3) (I.free an) aa (ax ta λb z e=>s3 _ _ e) (λk=>by rw[pm.mem_iff,ae]) (pm.nodup_iff.mpr q2) po (by let:=pm.length_eq;rw[Z6]at this;lia)
inductive Kx (mg:ZC) (kp:jg) (H6 H:Hp) (g l c:jg):Prop
 | mk (qs:ZN) (ls:ZB) (ts:ZG) (lk:hH ZB) (ps:ZG):ic mg H6 g qs ls ts->bB (bg qs) (ts\2) lk->(∀x,¬ Rch lk x x)->H l∣.lst (ps\0)->H c∣.lst (ps\0)->aB H ps->(∀k,k∈ps\2↔∃x y,k=[x,y]/\Dir lk x y)->(ps\2).Nodup->(ps\2).Pairwise (λa b=>dR b a=hX)-> ~~~ps<=250->H6 l=hV->l≠c->l≠kp->c≠kp->Kx mg kp H6 H g l c
def Kx.keep{mg:ZC}{f:jg}{m H n:Hp}{g l c:jg}(h:Kx mg f m H g l c)(k:∀b o,(b≠f\/∀xs,o≠ .lst xs)->H b∣o->n b∣o):Kx mg f m n g l c:=by
 let%[qs,p,ts,lk,ps,q,r,s,u,v,y,A,B,C,E,i,j,a|d]:=h;show%[qs,p,ts,lk,ps,q,r,s,k _ _ (.inl a) u,k _ _ (.inl d) v,ax y λb z e=>k _ _ (.inr λ_=>nofun) e,A,B,C,E,i,j,a|d]
structure Kpt (mg:ZC) (kp:jg) (H6 H:Hp) (q:jg×jg×jg×jg):Prop where
 tu:H q.1&&&[.ref q.2.1,.ref q.2.2.1,.ref q.2.2.2]
 ex:Kx mg kp H6 H q.2.2.2 q.2.1 q.2.2.1
def Kpt.keep{mg:ZC}{a:jg}{c H d:Hp}{q:jg×jg×jg×jg}(h:Kpt mg a c H q)(k:∀b o,(b≠a\/∀xs,o≠ .lst xs)->H b∣o->d b∣o):Kpt mg a c d q:=%[k _ _ (.inr λ_=>nofun) h.tu|h.ex.keep k]
def Kpt.re{mg:ZC}{f k:jg}{c H:Hp}{q:jg×jg×jg×jg}(h:Kpt mg f c H q)(n:H k=hV):Kpt mg k c H q:=by
 let%[qs,g,ts,lk,ps,i,j,l,d,e,m,o,p,r,s,a,b,u|v]:=h.ex;show%[h.tu,qs,g,ts,lk,ps,i,j,l,d,e,m,o,p,r,s,a,b,av d n|av e n]
def Fi{a:Type}(ks:hH a)(f:a->V):xX (ks.map f) hV (hY 1)=(ks.take 1).map f:=by
 unfold xX;rw[show(1:ri)=((1:iv):ri)from rfl,_HT.sIx_nat,_HT.sIx_none,TK,Th];cases ks with
 | nil=>rfl
 | cons q r=>simp
def AD{H:Hp}{qs:ZN}(j:iv)(u v:V)(a:(qs\0)[j]?∣u)(b:(qs\0)[j]?∣v):zU H u v:=by
 rw[a]at b;cases b;let%[q,_|rfl]:=Xw (Z8 a);show .inl %[rfl|rfl]
inductive Lu (mg:ZC) (kp:jg) (H4 He:Hp) (cs:ZH) (v:V):Prop
 | mk (t gg ll:jg) (qq:ZN) (lls:ZB) (tts:ZG):v= .ref t->He t&&&[.ref gg,.ref ll]->ll≠kp->He ll∣.lst (qq\0)->qk H4 cs qq->ic mg H4 gg qq lls tts->lls.Perm (cs.flatMap lyr)->(∀k,k∈tts\2↔k∈cG cs\/k∈cH qq qq.length)->Lu mg kp H4 He cs v
def Kk{f:jg}{fd:On}(F:Fun K "law" "law" kb f fd)(T:Txt K mg):eM P w K mg base CX0 13 f fd ["_law_script"] (qF K):=by
 show F.ok dC (by intro a b c d h;let%[_,_,rfl|_]:=h;rfl) (λff A outer s H vs Q E I h=>?_)
 .let%[a,ns,rfl,hs,ho,hn|kk]:=h;show%[_,%["KC~zH`EA0B~!LJ1LJ2dCG3]J]KA*:A1BA*:A2BBCG4]J]KA*:A1BA~)2EBCG5RBCQTRAfA3A2BAfA4A~)2EBAfA3A2BBiLJ6LJ7dCG8H`FA1A7BCG9H`GA1A7A8BCG:H`HA9A8BDNaH`IAs:BDNeaH`JA6A9As:BDIhOC~zH]LA6B~!LJ;LJ<dCNjuM~as<;!eaH]MAs;AH`KA9As:BBDIhODYom5AfAs;A*:As;BA6BBCNM^gc?1T5iLb0?2Lb1?2Lb2?2dwM]I010RBDIhOCQT~l5~n~mEiLJ;LJ=LJ6dCYoms;A;BDNeaH]MASH]LA6BEAs=BDIhODI(n]N_~u32+n]N_~u4~)2E",dC.nd,(show bp (ak kb) ["_law_script","_law_cuts_here","_law_sayings","_law_ground_here","_law_beside","_law_kept","_law_one","_law_some","_law_homes_here","_law_laid","_law_beneath_here","_law_told_here","_law_refused","_law_as_told"] _ ["_law_told_here","_law_as_told","_law_one"] []=hW from !0),↑["_law_told_here","_law_as_told","_law_one"]|I]|?_]
  change aS _ _ _ [!a,hV,hV,hV,hV,hV,hV,hV,hV,hV,hV,hV,hV,hV] H;show aj λD1 k1 _=>?_
  lk;show%[a,ns,ρ,hs,⋯|λt l1 l2 H1 cs qs s1 ht h1 h2 L=>%[_,Qb.of ht,ρ,_,_,ρ,_,_,ρ,ρ|k1 _ _ (aj λD2 k2 _=>?_)]];lk;show%[_,.inl (Qb.of h1)|λx1 b3=>%[_,.inl (Qb.of (ah.Qa b3 _ _ h2))|λx2 b4=>?_]];let sx:=(ah.Qa (o:= .lst (cC cs)) b3).trans (ah.Qa (o:= .lst (qs\0)) b4);let b5:=ah.Qa (o:= .lst (qs\0)) b4 _ _ (aa (H:=H1) (a:=x1) (o:= .lst (cC cs)));let b6:Qa (Qa H1 x1 (.lst (cC cs))) x2 (.lst (qs\0)) x2=_:=aa
  generalize Qa (Qa H1 x1 (.lst (cC cs))) x2 _=Hx at sx b5 b6
  show λg dx fg dX fm=>Ax fg dX b5 b6 (L.up sx).pair λC ls ts s2 gr pl tm=>k2 _ _ (aj λD3 k3 _=>?_)
  let a1:=sx.trans s2;let B:vE mg C g l1 l2 cs qs ls ts:=%[L.up a1,a1 _ _ h1,a1 _ _ h2,gr,pl|tm]
  lk;show%[_,.inl (Qb.of B.h1)|λx3 dY=>?_];let u1:=ah.Qa (o:= .lst (cC cs)) dY;let b9:Qa C x3 (.lst (cC cs)) x3=_:=aa
  generalize Qa C x3 _=ca at u1 b9
  unfold Ew;lk;show%[_,(B.up u1).h2|λb fb il=>?_];simp only[qG,Z6]at il ⊢;let q2:∀q∈(evI qs.length).filterMap (qs[·]?),q∈qs:=λq hq=>Fe hq
  generalize cb:(evI qs.length).filterMap (qs[·]?)=M at il q2 ⊢
  let u2:=ah.Qa (o:= .lst (M\0)) fb;let gb:Qa ca b (.lst (M\0)) b=_:=aa
  generalize Qa ca b _=H3 at u2 gb ⊢
  let cd:=u1.trans u2;let ch:=(B.up cd).gd.sub q2 il;show λg2 fn d1 cl _=>Ax d1 cl (u2 _ _ b9) gb ch.pair λH4 d2 d3 u3 co d4 ea=>k3 _ _ (aj λD5 k5 r5=>?_)
  let B:=(B.up cd).up u3;let eb:=ch.up u3;lk;show%[Xl _|λG ab=>k5 _ _ (aj λD6 k6 r6=>ay λcp hK=>?_)];let v1:=ah.Qa (o:= .lst []) ab;let gk:Qa H4 G (.lst []) G=_:=aa
  generalize Qa H4 G _=H5 at v1 gk
  lk;show%[#[2]|λp1 f1=>?_];let w1:=ah.Qa (o:= .tup [V.ref g,V.ref l2]) f1;let ct:Qa H5 p1 (.tup [V.ref g,V.ref l2]) p1=_:=aa
  generalize Qa H5 p1 _=Ha at w1 ct
  unfold Ew;lk;show%[_,(v1.trans w1) _ _ B.h2|λc fc ec=>?_];simp only[qG,Z6,cb]at ec ⊢;let w2:=ah.Qa (o:= .lst (M\0)) fc;let gc:Qa Ha c (.lst (M\0)) c=_:=aa
  generalize Qa Ha c _=Hb at w2 gc ⊢
  show%[#[2]|λp2 f2=>?_];let w3:=ah.Qa (o:= .tup [V.ref g2,V.ref c]) f2;let cv:Qa Hb p2 (.tup [V.ref g2,V.ref c]) p2=_:=aa
  generalize Qa Hb p2 _=Hc at w3 cv
  show%[#[2]|λp3 f3=>?_];let w4:=ah.Qa (o:= .tup [V.ref g,V.ref l2]) f3;let cw:Qa Hc p3 (.tup [V.ref g,V.ref l2]) p3=_:=aa
  generalize Qa Hc p3 _=Hd at w4 cw
  show%[#[3]|λp4 f4=>?_];let w5:=ah.Qa (o:= .lst [V.ref p1,V.ref p2,V.ref p3]) f4;let ag:Qa Hd p4 (.lst [V.ref p1,V.ref p2,V.ref p3]) p4=_:=aa
  generalize Qa Hd p4 _=He at w5 ag
  let cx:=w4.trans w5;let cy:=w3.trans cx;let cM:=w2.trans cy;let c0:=w1.trans cM;let xk:=c0 _ _ gk;let x4:=v1.trans c0;let ed:c≠G:=λe=>by rw[e,w1 _ _ gk]at fc;cases fc
  let a2:∀v∈[V.ref p1,V.ref p2,V.ref p3],Lu mg G H4 He cs v:=by
   intro v U;rcases X2.mp U with rfl|U
   .show%[_,_,_,_,_,_,ρ,cM _ _ ct,av B.h2 ab,x4 _ _ B.h2,B.gd,B.gr,B.pl|B.tm]
   rcases X2.mp U with rfl|U
   .show%[_,_,_,_,_,_,ρ,cx _ _ cv,ed,cy _ _ gc,eb,co,d4|ea]
   rw[Xv U];show%[_,_,_,_,_,_,ρ,w5 _ _ cw,av B.h2 ab,x4 _ _ B.h2,B.gd,B.gr,B.pl|B.tm]
  let c5:=av B.h1 ab;let c6:=x4 _ _ B.h1;let ef:p4≠G:=λe=>by rw[e,xk]at ag;cases ag
  show%[%[_|Qb.of ag]|hK _ _ (eL (λi O H'=>A3 (E7 λo6 o7 o8 o9 ac N ae=>O=[!a,!l1,!l2,!g,!g2,!G,o6,o7,o8,o9,ac,N,ae,hV]) (∀b o,b≠G->He b∣o->H' b∣o) (∃ks:hH (jg×jg×jg×jg),A3 (H' G∣.lst (ks\0)) (∀q∈ks,Kpt mg G H4 H' q) (~~~ks<=i)))
   %[%[_,_,_,_,_,_,_|ρ],λ_ _ _ e=>e,[],xk,(λ_ h=>nomatch h)|Zi _] (λi O H' _ ⟨_,Y,_⟩=>Qb.of (Y _ _ ef ag)) ?_ ?_)]
  .intro i v O H' da %[%[o6,o7,o8,o9,ac,N,ae|rfl],sx,ks,hk,an|kl];let%[t0,gg,ll,qq,a3,as,rfl,eg,dd,de,L,gr,pl|tm]:=a2 v (Z8 da);let sH:∀b o,(∀xs,o≠ .lst xs)->He b∣o->H' b∣o:=λb o n e=>sx b o (λz=>by rw[z,xk]at e;show n _ (Za e).symm) e
   show%[_,SqT.of (sH _ _ (λ_=>nofun) eg),ρ,_,_,ρ,_,_,ρ,ρ|?_];change aS _ _ _ [!a,!l1,!l2,!g,!g2,!G,!gg,!ll,o8,o9,ac,N,ae,hV] H';let s0:ah H4 H':=λb o e=>sx b o (av e ab) (x4 b o e)
   let L:=L.up s0;let a4:=gr.up s0;let fq:=L.ql;show aj λD7 k7 _=>?_
   lk;show%[l1,ll,cs,qq,ρ,sx _ _ c5 c6,sx _ _ dd de,L.ca,L.sa,L.c3,⋯|λd C ms gm s2 fd hd nd mem lg=>k7 _ _ (aj λD8 k8 _=>?_)];let%[kc,fv|a5]:=xF L.ca L.few;let ml: ~~~ms<=63:=Ym (_ST.nodup_sub nd λz hz=>(mem z).mp hz) L.ly;let dg:=L.up s2;lk;show%[l1,ll,d,cs,qq,ms,gm,kc++cH qq qq.length,ρ,s2 _ _ (sx _ _ c5 c6),s2 _ _ (sx _ _ dd de),dg.ca,dg.sa,L.c3,⋯,hd,mem,lg,?_,λk=>by rw[Yy,a5]|λr H3 ss s3 fr dk tu lk tk sl=>k8 _ _ (aj λD9 k9 _=>?_)]
   .let:=NL (λj=>qq[j]?.bind λq=>h9 j q.2) (q7 qq.length);rw[Yp]at this;let:=L.c3;rw[Z9];unfold cH
    lia
   let la:=qv tu tk;lk;show%[r,d,ms,ms,ss,gm,ρ,dk,la,sl,s3 _ _ hd,ml|λbb Hx rs s4 be rk=>k9 _ _ (az λeh a0 fw=>?_)];let rl: ~~~rs<=63:=by
    let:=_ST.nodup_sub be.nd (m:=ms.map gm) λx hx=>Xx ((rk x).mp hx)
    rw[Z6,Z6]at this
    lia
   lk;show%[bb,_,rs,ρ,be,⋯|λH6 v s6 vI=>?_];let a6:=s2.trans (s3.trans (s4.trans s6));let ends:∀x y,Ed (ss\2) x y->x∈rs\1/\y∈rs\1:=λx y ⟨z,hz⟩=>by
    let%[a,b,z',a',b',hm,ha,hb|e]:=(lk.mem _).mp hz;cases e;let%[u,v,w,e,hu|U]:=AB L.ca L.sa (n:= ~~~qq) (by rw[Yy,a5]at hm;show hm);cases e;let hu:=(mem a).mpr hu;let U:=(mem b).mpr U;show%[(rk _).mpr %[a,hu|(lg a hu).2.one ha]|(rk _).mpr %[b,U|(lg b U).2.one hb]]
   let bc:bB (bg qq) (as\2) (ss\2):=%[lk.nd|λk=>by simp only[tm,<-a5,<-Yy];show lk.mem k]
   let dn:∀x,Rch (ss\2) x x->x∈rs\1:=λx r=>by
    cases r with
    | one e=>show(ends _ _ e).2
    | more _ e=>show(ends _ _ e).2
   let dp:=a4.up a6;let dr:=(s4.trans s6) _ _ dk;let ds:=be.up s6;let dt:aB H6 ss:=ax tu λb z e=>(s4.trans s6) _ _ e
   let J:∀{H7:Hp},ah H6 H7->(∀b o,b≠G->He b∣o->H7 b∣o)/\H7 G∣.lst (ks\0)/\∀q∈ks,Kpt mg G H4 H7 q:=λ{H7} s7=>by
    let s:=a6.trans s7;show%[λb o n e=>s _ _ (sx b o n e),s _ _ hk|λq hq=>?_];show(an q hq).keep λb o _ e=>s _ _ e
   show bC (λU=>?_) λU=>?_
   .let%[x,_|rx]:=vI.mp U;show%[gg,r,bb,qq,a3,as,ss,rs,ρ,dp,bc,%[x|rx],dr,dt,ds,⋯,dn|λH7 s7=>(a0 _ _ ?_)];let%[y1,y2|y3]:=J s7;show%[%[_,_,_,_,_,_,_|ρ],y1,ks,y2,y3|⋯]
   .let nr:∀x,¬ Rch (ss\2) x x:=λx r=>U (vI.mpr %[x,dn x r|r])
    let fin:∀{H9:Hp} {v w p:jg},ah H6 H9->H9 p=hV->Kx mg G H4 H9 gg v w->(∀b o,b≠G->He b∣o->Qa (Qa H9 p (.tup [.ref v,.ref w,.ref gg])) G (.lst ((ks\0) ++[V.ref p])) b∣o)/\∃bf:hH (jg×jg×jg×jg),A3 (Qa (Qa H9 p (.tup [.ref v,.ref w,.ref gg])) G (.lst ((ks\0) ++[V.ref p])) G∣.lst (bf\0)) (∀q∈bf,Kpt mg G H4 (Qa (Qa H9 p (.tup [.ref v,.ref w,.ref gg])) G (.lst ((ks\0) ++[V.ref p]))) q) (~~~bf<=i+1):=λ{H9 v w p} s9 fp kx=>by
     let%[y1,y2|y3]:=J s9;let z2:=ah.Qa (o:= .tup [.ref v,.ref w,.ref gg]) fp;let gp:Qa H9 p (.tup [.ref v,.ref w,.ref gg]) p=_:=aa
     generalize Qa H9 p _=Ho at z2 gp
     let ej:=z2 _ _ y2;let bl:∀b u,(b≠G\/∀xs,u≠ .lst xs)->Ho b∣u->Qa Ho G (.lst ((ks\0) ++[V.ref p])) b∣u:=λb u n e=>by
      rw[ap (n.elim id λn z=>by rw[z,ej]at e;show n _ (Za e).symm)];show e
     show%[λb u n q=>by rw[ap n];show z2 _ _ (y1 b u n q),ks++[(p,v,w,gg)],by rw[aa,Zd];rfl,λq hq=>?_|by rw[Z9];show Xf kl];rcases Xu hq with z|z
     .show(y3 q z).keep λb u n e=>bl b u n (z2 _ _ e)
     .rw[Xv z];show%[bl _ _ (.inr λ_=>nofun) gp|kx.keep λb u n e=>bl b u n (z2 _ _ e)]
    let dy: ~~~(ks\0)<lp:=by
     rw[Z6];let:=(Xt da).1;show aC (by simp only[Zr,Vm]at this;lia)
    show%[gg,qq,a3,as,ρ,dp,λbm h' x=>by rw[iC (h'.mm bc)];show nr x|λt l H7 bm ps s7 fl ft ht al hl tp mm nd so ln=>%[_,Qb.of ht,ρ,_,_,ρ,_,_,ρ,ρ|?_]];lk;let em:=al.mm bc;let ek:∀x,¬ Rch bm x x:=λx=>by rw[iC em];show nr x
    show%[r,bb,ss,rs,ρ,s7 _ _ dr,ax dt (λb z e=>s7 _ _ e),sl,λt ht=>?_,ds.up s7|λu H8 us s8 fu hu el mu nu en ul=>%[l,u,ps,us,ρ,s8 _ _ hl,hu,ax tp (λb z e=>s8 _ _ e),el,iQ nd nu so en λk=>by rw[mm,mu,xA em]|λH9 s9=>bN ?_]]
    .let%[_,x,y,z,et|_]:=la t ht;show%[x,y,z,et|ends x y %[z|Xx %[t,ht|et]]]
    let dA:=s7.trans (s8.trans s9);let y2:=(J dA).2.1;let l9:=(s8.trans s9) _ _ hl;show%[tyL (Qb.of y2),_,.inl (Qb.of l9)|λc hc=>%[#[3]|λp fp=>?_]];let sc:=ah.Qa (o:= .lst (ps\0)) hc;let gc:Qa H9 c (.lst (ps\0)) c∣_:=aa
    generalize Qa H9 c _=fx at sc gc fp
    let eo:=(J (ah.refl H6)).2.1;show%[_,ah.Qa fp _ _ (sc _ _ y2),dy|?_];let%[f1|f2]:=fin (dA.trans sc) fp %[qq,a3,as,bm,ps,gr,al,ek,sc _ _ l9,gc,ax tp (λb z e=>(s8.trans (s9.trans sc)) _ _ e),mm,nd,so,ln,(s0.trans a6).free fl,av l9 hc,(av eo fl).symm|(av y2 hc).symm];show a0 _ _ %[%[_,_,_,_,_,_,_|rfl],f1|f2]
  .intro O H' %[%[o6,o7,o8,o9,ac,N,ae|rfl],sx,ks,hk,an|kl];show k6 _ _ (aj λD7 k7 r7=>?_);lk;show aG λcp hK=>?_
   lk;show%[%[_|Qb.of hk]|hK _ _ λF hF=>?_];show bZ (λj vs O C=>A4 (E3 λo1 o2 o3=>O=[o1,o2,o3]) (ah H' C) (C F<*vs) (vs=[])) %[%[hV,hV,hV|rfl],ah.Qa hF,aa|rfl] (λ_ _ _ C ⟨_,Y,_,_⟩=>Y _ _ hk) ?_ ?_
   .intro j vs O C hj %[%[o1,o2,o3|rfl],Y,ep|rfl];let kq:=an _ (Yh hj);show%[_,SqT.of (Y _ _ kq.tu),ρ,_,_,ρ,_,_,ρ,_,_,ρ,ρ|?_];lk;let go:CN ks.length j (λj vs O C=>A4 (E3 λo1 o2 o3=>O=[o1,o2,o3]) (ah H' C) (C F<*vs) (vs=[])) [] [hY (.ref ks[j].2.1),hY (.ref ks[j].2.2.1),hY (.ref ks[j].2.2.2)] C:=CN.mk hj %[%[_,_,_|rfl],Y,ep|rfl];let%[_,_,_,_,ps,_,_,_,e3,e4,e5|_]:=kq.ex;let tp:=ax e5 λb z e=>Y _ _ e
    show%[_,_,Qb.of (Y _ _ e3),Qb.of (Y _ _ e4),ρ,AC tp tp rfl|go]
   intro vs O C %[_,s2,eq|rfl];show%[Xl _|λp hp=>%[[],ah.Qa hp _ _ eq,aa|?_]];rw[ij ∅];let s3:=s2.trans (ah.Qa (o:= .lst []) hp)
   generalize Qa C p _=H3 at s3
   show k7 _ _ (aj λD8 k8 r8=>ay λer es=>?_);lk;show%[_,Qb.of (s3 _ _ hk)|λp' bt=>?_];rw[Fi];let s4:=s3.trans (ah.Qa (o:= .lst ((ks.take 1)\0)) bt);let b0:Qa H3 p' (.lst ((ks.take 1)\0)) p'=_:=aa;let dB:∀q∈ks.take 1,Kpt mg p' H4 (Qa H3 p' (.lst ((ks.take 1)\0))) q:=λq hq=>(((an q (X3 hq)).keep λb o _ e=>s3 _ _ e).re bt).keep λb o _ e=>ah.Qa bt _ _ e
   generalize Qa H3 p' _=fz at s4 b0 dB
   let s0:ah H4 H':=λb o e=>sx b o (av e ab) (x4 b o e)
   let sb:=s0.trans s4;let tl: ~~~(ks.take 1)<=1:=by rw[Yr];lia
   show%[%[_|Qb.of b0]|es _ _ (bA (λi O C=>A4 (E3 λo6 N b1=>O=[!a,!l1,!l2,!g,!g2,!G,o6,o7,o8,o9,ac,N,ae,b1]) (ah H4 C) (C p'∣.lst ((ks.take 1)\0)) (i=0->∀q∈ks.take 1,Kpt mg p' H4 C q))
    %[%[_,_,_|ρ],sb,b0|λ_=>dB] (λi O C ⟨_,_,h,_⟩=>h) ?_ ?_)]
   .intro i q O C hq %[%[o6,N,b1|rfl],Y,eu|kq];obtain rfl:i=0:=by let:=(Xt hq).1;lia
    let kq:=kq rfl q (Z8 hq);let tu:=kq.tu;let%[ev,ew,ey,lk,ps,a4,al,nr,e3,e4,e5,e6,e7,e8,e9,fl,lc,ez|fC]:=kq.ex;show%[_,SqT.of tu,ρ,_,_,ρ,_,_,ρ,_,_,ρ,ρ|?_];change aS _ _ _ [!a,!l1,!l2,!g,!g2,!G,hY (.ref q.2.2.2),o7,o8,o9,ac,hY (.ref q.2.1),ae,hY (.ref q.2.2.1)] C;show aj λD9 k9 _=>?_
    lk;show%[tyL (Qb.of e3),_,e3,by rw[Z6];show aC ⋯|k9 _ _ ?_];let sc:ah H4 (Qa C q.2.1 (.lst ((ps\0) ++[V.non]))):=ah.set Y fl;let dK:=(ap (H:=C) (o:= .lst ((ps\0) ++[V.non])) lc.symm).trans e4;let dT:=(ap (H:=C) (o:= .lst ((ps\0) ++[V.non])) ez.symm).trans eu;let dV:aB (Qa C q.2.1 (.lst ((ps\0) ++[V.non]))) ps:=ax e5 λb z e=>(ap (show b≠q.2.1 from λw=>by rw[w,e3]at e;cases e)).trans e
    generalize Qa C q.2.1 _=H6 at sc dK dT dV
    show az λeh a0 _=>?_
    lk;show%[q.2.2.2,ev,ew,ey,ρ,a4.up sc,λfD h2 x=>by rw[iC (h2.mm al)];show nr x|λt l H7 fI us s7 fL ft ht eH hl e0 mu nu so ul=>%[_,Qb.of ht,.ref l,ρ|?_]];show%[l,q.2.2.1,us,ps,ρ,hl,s7 _ _ dK,e0,ax dV (λb z e=>s7 _ _ e),iQ nu e7 so e8 (λk=>by rw[mu,e6,xA (eH.mm al)])|λH8 s8=>bN (a0 _ _ ?_)];show%[%[_,_,_|ρ],sc.trans (s7.trans s8),s8 _ _ (s7 _ _ dT)|λz=>nomatch z]
   .intro O C %[%[o6,N,b1|rfl],Y|_];show k8 _ _ ?_;lk;let%[c2,c3,c4|gf]:=(B.gr.up Y).gr;let%[dx,c1|h0]:=gf.at_;show%[_,_,h0,ρ,g,c2,c3,c4,qs,ls,ts,ρ,gf|λy fy=>?_];let sy:=Y.trans (ah.Qa (o:= .lst (qs\0)) fy);let gy:Qa C y (.lst (qs\0)) y=_:=aa
    generalize Qa C y _=H8 at sy gy
    let%[c2,c3,c4|gf]:=(co.up sy).gr;let%[dx,c1|h0]:=gf.at_;show%[y,l2,_,_,ρ,ρ,gy,sy _ _ B.h2,ρ,AD|?_];lk;show%[_,_,h0,ρ,g2,c2,c3,c4,M,d2,d3,ρ,gf|λy2 e1=>?_];unfold Ew;lk;let e2:=ah.Qa (o:= .lst (M\0)) e1;show%[_,e2 _ _ (sy _ _ B.h2)|λb2 fa fe=>?_];simp only[qG,Z6,cb]at fe ⊢;show%[y2,b2,_,_,ρ,ρ,ah.Qa fa _ _ aa,aa,ρ,AD|kk _]
end
abbrev dfm:= @Jb
abbrev gvm:= @KF
def all_mk{l:PySem.W.OpenLaw}{w:xl}{K:ZA}{h:z4}{mg:ZC}{fa aj:jg}(X:K.In h)(G:h.Ns yu mg)(hfa:mg "law"=hY (.ref fa))
 {b7 ay:ZI} {b8:ZK} {b9 az a0 a1 al a2:iy}
 (F:Txc K mg->Txt K mg)
 (ca:Q4 K yu "law"=hY (hY (.ref aj))) (cb:K.lookup aj=hY %[b9,b7,.func (Sb "law" "law" (dq kb) (bJ kb) (ak kb) .none az a0 a1 ay al a2)|b8]) (cc:Qy K al "law"=hW) (cd:N1 K (.ref aj)=hW)
 {aa ac ad a3 a4 a5 a6 a7:jg}
 {ae:jg} {ce cf:ZI} {cg:ZK} {ch ci cj a8 ck:iy}
 (am:Q4 K yu "Torn"=hY (hY (.ref aa)))
 (a9:Q4 K yu "DigError"=hY (hY (.ref ac)))
 (ba:Q4 K yu "NoCut"=hY (hY (.ref ad)))
 (bb:Q4 K yu "NoSaying"=hY (hY (.ref a3)))
 (bc:Q4 K yu "NoGround"=hY (hY (.ref a4)))
 (bd:Q4 K yu "NoLayer"=hY (hY (.ref a5)))
 (be:Q4 K yu "NoRow"=hY (hY (.ref a6)))
 (bf:Q4 K yu "NoDeed"=hY (hY (.ref a7)))
 (bg:LZ K (.ref aa) "__getattribute__"=hY (hY (.builtin "BaseException.__getattribute__")))
 (bh:LZ K (.ref aa) "__getattr__"=hY hV)
 (bi:Qp K (.ref aa) (.type "BaseException")∣hW)
 (an:Ow K aa=hW)
 (cl:LZ K (.ref aa) "__class__"=hY (hY (.builtin "object.__class__")))
 (cm:R9 K (.builtin "object.__class__") "__get__"=hY (hY (.builtin "getset_descriptor.__get__")))
 (cn:takesIn K (.builtin "object.__class__")∣hW)
 (co:mroIn K aa (.type "object")∣hW)
 (e9:LZ K (.ref aa) "__init__"=hY (hY (.ref ae)))
 (ao:K.lookup ae=hY %[.type "function",ce,.func (Sb "__init__" "Torn.__init__" (dq eR) (bJ eR) (ak eR) .none ch ci cj cf a8 ck)|cg])
 (bj:Qy K a8 "Torn.__init__"=hW)
 (bk:N1 K (.ref ae)=hW)
 (bl:exK K aa ae=hW)
 (cp:N1 K (.ref aa)=hW)
 (cq:LZ K (.ref aa) "__setattr__"=hY (hY (.builtin "object.__setattr__")))
 (bm:uJ K aa=hW)
 (bn:LZ K (.ref aa) "ring"=hY hV)






 (cs:Qp K (.ref aa) (.ref ad)∣hX)
 (ct:Qp K (.ref aa) (.ref ac)∣hW)
 (cu:S6 K (.ref aa) [.ref ad,.ref a4,.ref a3]∣hX)
 (cv:S6 K (.ref aa) [.ref a7,.ref a6,.ref a5]∣hX)
 (cw:Ov K (.ref aa) (.ref aa)∣hW)
 (cx:Ov K (.ref aa) (.type "ValueError")∣hW)
 (cy:R9 K (.ref ac) "__getattribute__"=hY (hY (.builtin "type.__getattribute__")))
 (cz:readsIn K ac (.type "type")=hW)
 (c0:findCls K (.ref ac) (.type "type") "__init__"=hY (.val (.builtin "ValueError.__init__")))
 (c1:Vj K (.ref ad)∣.type "type")
 (c2:Qp K (.ref ad) (.type "BaseException")∣hW)
 (bo:(K.lookup ad).any (λo=>match o.data with| .cls _=>hW|_=>hX)=hW)
 (c3:Vj K (.ref ac)∣.type "type")
 (c4:Qp K (.ref ac) (.type "BaseException")∣hW)
 (bp:(K.lookup ac).any (λo=>match o.data with| .cls _=>hW|_=>hX)=hW)
 {ab:jg}
 (bq:Q4 K yu "Ground"=hY (hY (.ref ab)))
 (c5:S0 K ab LD=hW)
 (c6:Ow K ab=hW)
 (c7:Wa K ab=hW)
 (c8:LZ K (.ref ab) "__setattr__"=hY (hY (.builtin "object.__setattr__")))
 (c9:LZ K (.ref ab) "kept_cuts"=hY hV)
 (da:LZ K (.ref ab) "kept_sayings"=hY hV)
 (db:LZ K (.ref ab) "kept_layers"=hY hV)
 (dc:LZ K (.ref ab) "kept_ties"=hY hV)
 {af:jg} {dd de:ZI} {df:ZK} {dg dh di dj br dk:iy}
 (dl:LZ K (.ref ab) "__init__"=hY (hY (.ref af)))
 (bs:K.lookup af=hY %[dg,dd,.func (Sb "__init__" "Ground.__init__" (dq cr) (bJ cr) (ak cr) .none dh di dj de br dk)|df])
 (bt:Qy K br "Ground.__init__"=hW)
 (bu:N1 K (.ref af)=hW)
 (dm:WJ K (.ref af)=hW)
 (dn:makesIn K ab=hW)
 (dp:N1 K (.ref ab)=hW)
 {ag:jg} {dr ds:ZI} {dt:ZK} {du dv dw dx bv dy:iy}
 (dz:LZ K (.ref ab) "sayings"=hY (hY (.ref ag)))
 (bw:K.lookup ag=hY %[du,dr,.func (Sb "sayings" "Ground.sayings" (dq cN) (bJ cN) (ak cN) .none dv dw dx ds bv dy)|dt])
 (bx:Qy K bv "Ground.sayings"=hW)
 (ap:N1 K (.ref ag)=hW)
 (d1:WJ K (.ref ag)=hW)
 {ah:jg} {d2 d3:ZI} {d4:ZK} {d5 d6 d7 d8 bz d9:iy}
 (ea:LZ K (.ref ab) "layers"=hY (hY (.ref ah)))
 (b0:K.lookup ah=hY %[d5,d2,.func (Sb "layers" "Ground.layers" (dq cZ) (bJ cZ) (ak cZ) .none d6 d7 d8 d3 bz d9)|d4])
 (b1:Qy K bz "Ground.layers"=hW)
 (aq:N1 K (.ref ah)=hW)
 (eb:WJ K (.ref ah)=hW)
 {ai:jg} {ec ed:ZI} {ee:ZK} {ef eg eh ei b2 ej:iy}
 (ek:LZ K (.ref ab) "ties"=hY (hY (.ref ai)))
 (b3:K.lookup ai=hY %[ef,ec,.func (Sb "ties" "Ground.ties" (dq dG) (bJ dG) (ak dG) .none eg eh ei ed b2 ej)|ee])
 (b4:Qy K b2 "Ground.ties"=hW)
 (ar:N1 K (.ref ai)=hW)
 (el:WJ K (.ref ai)=hW)
 {b5:jg} {au:NB} {av:ZJ} {em:iv}
 (en:Q4 K yu "YEAR_WORDS"=hY (hY (.ref b5)))
 (eo:K.lookup b5∣au)
 (ep:au.cls= .type "tuple")
 (eq:au.data= .seq av em)
 (er:av.size<=lp)
 (es:aK [.str "since",.str "by"] av.toList)
 {b6:jg} {aw:NB} {ax:ZJ} {et:iv}
 (eu:Q4 K yu "LAYER_WORDS"=hY (hY (.ref b6)))
 (ev:K.lookup b6∣aw)
 (ew:aw.cls= .type "tuple")
 (ex:aw.data= .seq ax et)
 (ey:ax.size<=lp)
 (ez:aK [.str "later",.str "same"] ax.toList)
 :∃fd:On,(∀(s:kG) (v:iy),SS s fd %[[v]|[]] [("_law_script",v)])/\∀base:z4,K.In base->base.Ns yu mg->eM l.prog w K mg base CX0 13 fa fd ["_law_script"] (qF K):=by
 let e:=hfa.symm.trans (NP X G ca);cases e;let e0:=d0 (NP X G am);subst e0;let e1:=d0 (NP X G a9);subst e1;let e2:=d0 (NP X G ba);subst e2;let e3:=d0 (NP X G bb);subst e3;let e4:=d0 (NP X G bc);subst e4;let e5:=d0 (NP X G bd);subst e5;let e6:=d0 (NP X G be);subst e6;let e7:=d0 (NP X G bf);subst e7;let e8:=d0 (NP X G bq);subst e8;let T:Txt K mg:=F %[NP X G am,
  NP X G a9,
  NP X G ba,
  NP X G bb,
  NP X G bc,
  NP X G bd,
  NP X G be,
  NP X G bf,
  %[NP X G am,%[bg,bh,bi,an,cl,cm,cn|co],ae,_,%[bl,by rw[ao];rfl|cp],eA ao bj bk|(eA ao bj bk).binds (by room)],
  %[cq,bm,bn|an],
  %[bg,bh,bi,bn|an],
  cs,
  ct,
  cu,
  cv,
  cw,
  cx,
  %[cy,cz|c0],
  %[c1,c2|bo],
  %[c3,c4|bp],
  %[NP X G bq,c5,c6,c7|c8],
  c9,
  da,
  db,
  dc,
  %[af,_,%[dn,dl,dm|dp],eA bs bt bu|(eA bs bt bu).binds (by room)],
  %[ag,_,%[dz,d1|ap],eA bw bx ap|(eA bw bx ap).binds (by room)],
  %[ah,_,%[ea,eb|aq],eA b0 b1 aq|(eA b0 b1 aq).binds (by room)],
  %[ai,_,%[ek,el|ar],eA b3 b4 ar|(eA b3 b4 ar).binds (by room)],
  DZ X G en eo ep eq er es|
  DZ X G eu ev ew ex ey ez]
 show%[Sb "law" "law" (dq kb) (bJ kb) (ak kb) .none az a0 a1 ay al a2,λs v=> .of_eq rfl|λbase _ _=>Kk (eA (st:=kb) cb cc cd) T]
def walk{l:PySem.W.OpenLaw}{q:n7}{b:ZB}{j:(ku->kw iy)->z4->Prop}{e:xl->z4->Prop}{d:DefRec}{K:Params->ZA}(m:l.most∣63)(c:d.params.defaults=[])
 (o:∀(w:xl) (h:z4),e w h->(K w.params).In h)
 (F:∀(w:xl) (mg:ZC) (g:jg) (h:z4),(K w.params).In h->h.Ns yu mg->mg d.name∣.ref g->
  ∃i:On,(∀(s:kG) (u:iy),SS s i %[[u]|[]] [("_law_script",u)])/\∀base:z4,(K w.params).In base->base.Ns yu mg->eM l.prog w (K w.params) mg base CX0 13 g i ["_law_script"] (qF (K w.params))):
 PySem.W.WalkO q b j e l.row.toRowW d [] (λf vs=>PySem.call f vs):=
 _LL.walk_of (n:=63) (k:=13) (x:="_law_script") (CX:=λ_=>CX0) (sp:=λw=>qF (K w.params)) m (!1) c %[rfl,!1,!1|rfl] o F (λ_ _ a p r v y=>%[a,p,rfl,y,v,r|λ_=>rfl]) λ_ _ _ _ _ z=>z
end _KK
end
open PySem PySem.W PyProof.Rows
set_option maxRecDepth 100000 in
theorem PySem.Challenge.cw_digbook_k51_direct_pairs_told_holds : PySem.Challenge.rw_digbook_k51_direct_pairs_told.Holds := by
 w_on;o_law;k_head;(case hw=>w_witness2)
 k_fill
 refine _KK.walk (l:=PySem.Challenge.rw_digbook_k51_direct_pairs_told) rfl rfl (λw h Y=>PySem.W.kIn_of Y) ?F
 case F=>
  intro w mg fa h KX G hmg;apply _KK.all_mk KX G hmg
  (case F=>
   intro C
   constructor
   exact C
   all_goals first|exact PySem.W.mg_none_of KX G (by k_is)|(refine' _KK.gvm KX G ?z ?r;(case z=>k_is);(case r=>exact⟨_,rfl⟩))|(refine' _KK.dfm KX G ?a ?l ?c ?k ?b;(case a=>k_is);(case l=>k_is);(case c=>k_is);(case k=>k_is);(case b=>intro _ _ _ _ _ _;(repeat(refine _KK.zq1 λ_=>?_));exact _KK.zq0 rfl)))
  any_goals k_is
  (case bl|bm|bo|bp=>kernel_rfl)
  any_goals first|kit_is|rfl|decide|exact .cons ⟨_,rfl⟩ (.cons ⟨_,rfl⟩ (.nil))
