import PyProof.Rows.All
import Wide.All
import OpenK.AllK
import PySem.Challenge.RW_digbook_k71_bounds_told
open Array renaming append_assoc->UO,eq_empty_of_size_eq_zero->Sh,ext->YE,find?_toList->UN,forIn_toList->Rt,getD->S9,getElem?_eq_getElem->J6,getElem?_eq_none->OQ,getElem?_eq_some_iff->vr,getElem?_replicate->Tq,getElem?_toList->OU,length_toList->Zb,mem_of_getElem?->Ph,mem_toList_iff->QC,perm_iff_toList_perm->S8,replicate->VC,size_append->RM,size_map->YF,size_push->Xi,size_setIfInBounds->Ql,toList->WJ,toList_append->Xd,toList_extract->RK,toList_push->RJ,toList_setIfInBounds->S7
open Bool renaming and_eq_true->Zv,and_false->NC,and_self->TJ,eq_false_iff->Sc,eq_iff_iff->N1,false->hY,false_and->O2,false_eq_true->Zz,false_ne_true->Zt,false_or->TH,not_eq_true->Sn,not_eq_true'->Vp,not_true->WI,or_eq_false_iff->X7,or_eq_true->Ua,or_false->WH,or_true->Sb,true->hX,true_and->TF,true_or->T2
open Classical renaming byContradiction->NR,not_forall->QN,propDecidable->SE
open Decidable renaming byContradiction->NQ
open False renaming elim->M7
open ForInStep renaming yield->Pi
open Iff renaming rfl->OF
open Int renaming emod_lt_of_pos->Qe,emod_nonneg->Oi,eq_ofNat_of_zero_le->Xh,ofNat_lt->XP,toNat_natCast->Pa,toNat_of_nonneg->RA,zero_add->O9
open Lean renaming Syntax->XO
open List renaming Pairwise->Qs,Perm->MP,all_cons->VV,all_eq_true->N7,all_map->WU,any_cons->Zw,any_eq_true->Sm,append_assoc->Ze,append_nil->Zx,cons_append->Tx,contains_cons->UZ,countP_cons->QU,drop_append->Sl,drop_append_of_le_length->Sx,drop_drop->Xz,drop_eq_getElem_cons->Zy,drop_of_length_le->OZ,drop_zero->UR,eraseIdx_eq_take_drop_succ->Pf,exists_mem_of_ne_nil->To,ext_getElem->QR,ext_getElem?->Ru,extract_eq_take_drop->Ox,filter->Ou,filterMap_append->Y0,filterMap_cons->Y1,filter_append->Y2,filter_congr->Vm,filter_cons->Y3,filter_cons_of_neg->Y4,filter_cons_of_pos->Y6,filter_eq_nil_iff->Py,filter_nil->Y7,findIdx?->WC,findIdx?_eq_none_iff->Tn,findIdx?_eq_some_iff_getElem->R3,flatMap_append->Px,flatMap_cons->Qi,flatMap_singleton->T0,flatten_cons->Vl,foldl->UY,foldl_append->Vk,foldl_cons->Y8,forIn_cons->Ss,forIn_nil->Wg,getD_eq_getElem?_getD->Zc,getElem?_append_left->Y9,getElem?_append_right->Ya,getElem?_cons_zero->TR,getElem?_drop->PZ,getElem?_eq_getElem->Z4,getElem?_eq_none->Xk,getElem?_map->Zl,getElem?_of_mem->Xf,getElem?_range->RR,getElem?_replicate->TQ,getElem?_set_ne->Ri,getElem?_set_self->TZ,getElem?_take->RC,getElem?_take_of_lt->Yb,getElem?_zip_eq_some->Qf,getElem_mem->Yc,getElem_of_mem->Pu,length->MV,length_append->Z9,length_cons->Zr,length_drop->Yg,length_eq_zero_iff->yu,length_eraseIdx->UD,length_filterMap_le->OH,length_filter_le->Yh,length_map->Z6,length_nil->Wo,length_pos_iff->NH,length_pos_of_mem->OY,length_range->Yi,length_reverse->UK,length_singleton->Yj,length_take->Yk,length_zip->Ud,lookup->Od,lookup_append->UX,lookup_cons->Yl,map->R9,map_append->Zd,map_congr_left->Yo,map_cons->Yp,map_drop->WA,map_id->XM,map_map->Yq,map_nil->SQ,map_subset->VX,map_take->Wz,mem_append->Ys,mem_append_left->Yt,mem_append_right->Yu,mem_cons->Yv,mem_cons_of_mem->Zk,mem_cons_self->Zm,mem_erase_of_ne->UC,mem_filter->o0,mem_filterMap->Np,mem_flatMap->M5,mem_flatten->Sk,mem_map->Yw,mem_of_getElem?->Z8,mem_of_mem_take->Yx,mem_range->zp,mem_singleton->Yy,nil_append->Ub,nodup_append->X1,nodup_cons->NZ,nodup_iff_pairwise_ne->X2,nodup_nil->X3,nodup_range->RP,not_lt->UB,not_mem_nil->X6,of_mem_zip->Wn,pairwise_cons->UW,pairwise_iff_getElem->Tl,pairwise_map->Pq,pairwise_singleton->TN,perm_append_comm->Q5,perm_append_comm_assoc->Oo,range->p0,range_succ->PL,replicate->I0,replicate_succ->RO,reverse_cons->R8,set_append_right->Uw,size_toArray->Zp,sum_cons->Wy,take_add_one->X9,take_append_drop->Xa,take_append_of_le_length->Xb,take_length->Xc,take_of_length_le->Zn,take_sublist->Vj,take_subset->Vy,take_succ_eq_append_getElem->OX,toList_toArray->UJ,zip->NS,zipIdx_cons->Sj,zipIdx_nil->VW
open List.Pairwise renaming imp->XN,imp_of_mem->Xg,nil->Q2
open List.Perm renaming append_left->OK,append_right->SY,cons->UM,refl->Nw,swap->UL,trans->Qr
open List.cons renaming inj->Oc,injEq->NT
open Nat renaming add_assoc->WZ,add_comm->Uv,add_left_cancel->Rz,add_mod->Vd,add_sub_cancel->QD,add_sub_cancel_left->N9,add_zero->RU,ble->Q0,blt->XJ,div_add_mod->Wf,div_div_eq_div_mul->Uu,div_lt_of_lt_mul->UI,eq_or_lt_of_le->Vi,le_add_left->We,le_add_right->Qh,le_antisymm->Wd,le_of_ble_eq_true->Yd,le_of_eq->Ut,le_of_lt->Ye,le_refl->Zi,le_succ->Yf,le_succ_of_le->Vx,le_trans->nI,lt_irrefl->Xj,lt_of_le_of_lt->RY,lt_of_le_of_ne->Vh,lt_of_lt_of_le->Zg,lt_of_succ_lt->Vw,lt_succ_iff_lt_or_eq->QH,lt_succ_of_lt->Ym,lt_succ_self->Yn,lt_trans->XI,lt_trichotomy->Vv,min_eq_left->RQ,min_eq_right->Sw,mod_eq_of_lt->QL,mod_lt->Tg,mod_mod_of_dvd->RX,mul_add->YC,mul_mod->YB,ne_of_gt->Yz,ne_of_lt->Zs,not_lt_of_le->Sv,not_lt_zero->X4,pos_of_ne_zero->RW,pow_dvd_pow->SX,pow_le_pow_right->PF,pow_succ->QB,sub_self->Q7,sub_zero->Us,succ_le_succ->X8,succ_pos->T7,two_pow_pos->Wc,zero_add->SH,zero_le->Xe
open Ne renaming symm->J0
open Option renaming any->WX,bind_some->R7,isSome_iff_exists->QP,isSome_map->Wr,map_eq_some_iff->MS,none->hH,some->hV
open Option.some renaming inj->Za
open Prod.mk renaming injEq->Nv
open PyProof.Rows renaming AllBare->QY,IntsAre->Vn,Keyed->NN,SortKind->Uq,SortSt->nY,StrsAre->Ng,Subscript_->Uo,arrOf->sh,boot_isinstance->XW,boot_list->Rc,boot_max->YA,boot_min->X5,boot_reversed->X0,boot_str->VR,boot_tuple->Uj,callWith_builtin1->Rh,callWith_type1->Nd,countRun'->XA,elem'->Pe,envOfC->Nz,failedOf->N6,formatField_str->XV,join_list->XZ,listUpdate_at->PX,ltAt'->WR,mergeAt'->Uc,minRun'->Vb,pendingOf->q7,reverseSlice'->QZ,seqEpoch_at->VJ,seqObj->Pp,setArr->U5,setPending->Rp,sortedHeap->Ro,subscriptTail_builtinR->U3
open PyProof.Rows.F renaming entry_set_update_loop->UE,plain_set_update_loop->Q3
open PyProof.Rows.SortSt renaming mk'->Uz
open PySem renaming Addr->kw,Around->vj,BindsTo->T3,Builtin->n7,CmpOp->S5,DictEntry->Tp,Draws->VY,Expr->zr,FuncData->OP,GenState->R4,Heap->yc,IsPair->PU,IsTupleKey->M3,IsZip->SZ,Keyword->O0,NameKind->MN,Obj->Ov,PassesOwn->Qq,PlainAttrs->PR,Program->nX,PyData->MX,Result->Su,Scope->RV,SetTable->nz,Shared->md,Stmt->Ds,Str->kG,Value->jg,Walks->Tz,World->wh,argBest->P0,argsOk->Ww,assignEach->Om,atKey->US,attributeBase->NE,backTo->NP,backToKw->PB,behindInMarks->Nl,binaryOp->Nr,bindC->VT,bindL->VS,bootBuiltins->ND,builtinLookup_eq_fast->Vt,builtinsNs->Wv,cLine->Os,callGetattribute->XB,callWith->Ui,call_meets->O6,call_meetsIn->Rw,callerA->TY,cellsFrom->Ni,codeAny->Pz,codeAny_builtin->Ny,codeAny_call_builtin->OD,codeAny_extend_loopS->VQ,codeAny_of_tree->TM,collect->Rv,compareOp->pw,entryFor->SS,entryFor_alias->Ug,eval->Nk,evalPart_none_step->Wt,excClassObj->VO,fits_of_scanBound->N5,foldedSetIterable->Pw,getAttr->WS,getItem->TX,getMethod->Rb,hashByValue->Tw,hashStr->N2,holding->PY,intItems->Pt,isInstance->Sr,isSubtype_stop->Uf,isTrue->Th,keywordEach->N4,letOwnedTupleGo->XU,mainGlobals->xl,model->Nm,numAt->UQ,ofAClassStatement->SO,onTheHeap->UP,pastItsLine_dict->Xx,pickOrder->Og,plainId_quiet->NW,plainObj_wpAny_Assign_Attribute->Ta,pushCells_keeps->XT,putSet_of->R5,pyIter->U9,pyNext->Qz,raiseNew->VL,rawInt->Nb,relayAll->Q8,richCompare_gives->WQ,richCompare_meets_room->U8,rule->RN,scanBound->Pd,setAdd->U7,setAddHashed->U6,setEpoch->T8,setField->Qy,setNext->Rq,setRelay->VI,setSearchFrom->Ot,sizeLine->lX,sizeLine_eq->Na,sliceBounds->Ol,slicePick->Xv,slot_list_getitem->SM,standAt->Pm,starEach->vi,storeSet->VG,strIterType->Pc,subscripted->Tt,swapsWith->Pb,sysModules->NO,table->WP,truthy->U2,tupleKeyHash->zz,tupleKind->Te,tupleKind_room_in1->Qw,typeIs_int->Wl,typeIs_str->O3,typeLookup->Qv,typeLookup_type->XS,typeOf->P8,unbindBehindTheSuite->VF,unsupported->P6,valueAt->SL,wpAny->tI,wpAny_Call_Name_kw->NY,wpAny_Dict_empty->Xs,wpAny_Name->Wk,wpAny_Try_except->Xr,wpAny_askSetting->Nn,wpAny_assign_Name->WO,wpAny_attempt->NV,wpAny_bind->Z2,wpAny_call->OB,wpAny_callSpecial?_slot->NK,wpAny_call_entry->Nc,wpAny_collect_seq->WN,wpAny_dictEntries->SK,wpAny_dictEpoch->TL,wpAny_eqBool_int->W9,wpAny_eqIsQuiet_tuple->Vs,wpAny_execs_cons->W8,wpAny_execs_nil->OR,wpAny_field->NG,wpAny_fieldsOf->RG,wpAny_forIn_list->W7,wpAny_getItem_list_slice->UF,wpAny_holding->v0,wpAny_isInstance->Oe,wpAny_isOneOf_keyiter->Vr,wpAny_isSubtype_exc->V7,wpAny_isTrue_Compare1->Vq,wpAny_letGo->Oz,wpAny_letOwnedTupleGo_zip->Uy,wpAny_load->T6,wpAny_loadPart->Qu,wpAny_loadPart_at->Pl,wpAny_lookBehind->W6,wpAny_mono->MZ,wpAny_newObj_type->M6,wpAny_newTuple->RF,wpAny_of_eq->Tr,wpAny_onRaise->Si,wpAny_passesOwn->Oq,wpAny_pure->Z3,wpAny_pyHash_str->W5,wpAny_pyIter_ascii->Wj,wpAny_pyIter_enum->WM,wpAny_pyIter_keyiter->VE,wpAny_pyIter_list->Pk,wpAny_pyIter_slot->SJ,wpAny_pyIter_strU->WL,wpAny_pyIter_tuple->So,wpAny_pyIter_wide->WK,wpAny_pyIter_zip->Q6,wpAny_raiseNew_none->V6,wpAny_rule->Oy,wpAny_runValue->T5,wpAny_seqItems->Nj,wpAny_setEntries_of->OG,wpAny_setField->Qt,wpAny_setField_rec->G2,wpAny_setScan_of->W4,wpAny_setState_of->pp,wpAny_specialOf->P7,wpAny_standAt->PV,wpAny_storeSet_of->N3,wpAny_truthy_bool->Nq,wpAny_tryCatch->T4,wpAny_typeNameOfWhole_keyiter->Oj,wpAny_typeOf->Rn,wpAny_updateSeq->TK,wpAny_updateSeq_pair->RE
open PySem.Around renaming under_plainId->NA
open PySem.Builtin.Builtins renaming bindParams->Rg
open PySem.Builtin.Dict renaming showsAll->SA
open PySem.Builtin.Dict_items renaming ownsTuple->QX
open PySem.Builtin.Frozenset renaming baseOf->V5,copyOf->V4,difference->Q4,differenceUpdate->Qk,isAnySet->V3,newClass->V2,sizeOf->Ry,slot0->V1,unchanged->OJ,updateFrom->VZ
open PySem.Builtin.List renaming listExtendWith->Ob,listLengthHint->RB,listSameRef->Sa,listTooLong->Op,listTouch->YD
open PySem.Builtin.ObjectAttr renaming storeInOwnDict->VB
open PySem.Builtin.Range renaming rangeSize->XR
open PySem.Builtin.SmallTypes renaming nextOf->Oa,ownedTupleIsFree->Nx
open PySem.Builtin.Str renaming occurrences->KE,partsBetween->Sg,strKind->Td,subAt->TD
open PySem.Calls renaming Name_function_global->S6,callWith_builtin->TV
open PySem.CmpOp renaming NotIn->W3
open PySem.Code renaming quiet_builtin->RD
open PySem.F renaming args_dict_keyiterator_next_1->S4,args_str_split_2->Sf,args_zip_next_1->Wi,called_set->PN,entry_dict_keyiterator_next->Tc,entry_str_split->Sz,entry_zip_next->WG,plainAttrs_dict->P9,plainAttrs_list->OS,plainAttrs_str->YG,plain_extend_loop->VA,plain_list_iadd->QJ,slot_dict_get->YL,slot_dict_iter->WE,slot_dict_keyiterator_next->NJ,slot_dict_setdefault->VH,slot_dict_update->Xu,slot_dict_values->Xt,slot_int_rmul->W2,slot_set_iter->W1,slot_set_sub->XQ,slot_str_split->S3,slot_zip_next->Rk
open PySem.Heap renaming SameBut->vu,get?_push_ne->Vo,get?_push_of_some->Z7,get?_push_size->Zj,get?_update_other->J5,get?_update_self->MT,lt_size->Zu,size_push->Zq,size_update->Vz
open PySem.Heap.IsSliceOf renaming new->SB
open PySem.Heap.Ns1 renaming of_empty->Ux
open PySem.ItemsOf renaming nil->Wh
open PySem.NameKind renaming cell->O8,free->Nt
open PySem.Obj renaming cls_mapFields->Se,data_mapFields->OI,isFreed_of_fields->Pj,mapFields->PD,mapSeq->NI,putSet->Oh
open PySem.PassesOwn renaming never->Qo
open PySem.PyData renaming depth->Wa,depthAll->QK,hasDict->Vu,hasDictAll->Qd,leavesShort->UA,leavesShortAll->O7,showable->Vg,showableAll->P5,shown->V9,str->P4,weight->Tb,weightAll->Qn
open PySem.SeqAt renaming EqAt->M4
open PySem.SeqAt.EqAt renaming int_str->TC,of_refs->T1,same->TU,str_int->TB
open PySem.SeqAt.RcAt renaming lists->UV,tuples->XG
open PySem.SetFound renaming there->QV
open PySem.SetTable renaming advance->SU,below->OE,bits->Tj,eraseAt->OW,fill->Rf,fits->Ow,fresh->PH,grown->NM,insertAt->NB,laid->Vf,layClean->Ur,probe->UU,relaid->UG,runEnd->NU,turns->RH
open PySem.SetTable.below renaming go->Ul
open PySem.SetTable.layClean renaming free->O4
open PySem.SetTable.probe renaming go->Q9
open PySem.SetTable.sizeAbove renaming go->U4
open PySem.Shared renaming TypeIs->Rx
open PySem.Str renaming empty->MQ,join->vk,length->Ve,length_append->Qm,ofString->oT
open PySem.StrLaws renaming glued_eq_join->OV,join_length_le->Tk
open PySem.Value renaming bool->XC,builtin->NL,int->QF,isInt->WW,isStrOf->V8,none->Nu,ref->m4,str->MU,type->Nh
open PySem.Value.ref renaming inj->UT
open PySem.W renaming Looks->RZ,OpenLaw->WY,any_some->Re,callWith_K->Uh,cellsFrom_some->RT,check_slot->Wu,codeIn->RS,emptyDict->R6,findIn->Nf,fnOf->Ti,handedIn->YK,hasDictIn->PM,instObj->TW,isFn->YI,keepIn->O5,kia_one->OT,kitAny->Ue,kitOne->Ps,kitx_dict->Xy,lookIn->YH,looks_clsIn->VN,looks_findIn->SR,looks_subIn->Tv,mg_of->OL,nsIn->Sd,plainGet->T9,plainGet_of->VM,plainOver->Xw,specialIn->Tf,subIn->RL,typeIn->Wm
open PySem.W.Looks renaming here->QM
open PySem.W.WData renaming int->XY
open PySem.Walks renaming list->SV,tuple->WV
open PySem.pickOrder renaming go->SN
open Sum renaming inl->XF,inr->kj
open Sum.inr renaming inj->NX
open True renaming intro->M8
open _root_ renaming Array->ow,Bool->re,Decidable->Pg,DecidableEq->MY,False->MO,ForInStep->ri,Int->on,List->gN,Nat->iv,Option->lx,StateT->Mi,String->M9,True->PQ,Unit->SW,absurd->n0,and_congr_left->Um,and_congr_right->XX,and_true->VU,beq_eq_false_iff_ne->MR,beq_iff_eq->N8,beq_self_eq_true->PP,bne_self_eq_false->WT,congr->VP,congrArg->rM,decide_eq_false->Zh,decide_eq_true->Zf,decide_eq_true_eq->MW,decide_eq_true_iff->N0,exists_congr->Vc,if_false->OO,if_neg->ku,if_pos->lp,if_true->Rr,modify->Va,not_or->Pr,of_decide_eq_false->Sq,of_decide_eq_true->Zo,or_congr->Ra,or_false->No
open List (cons_append length_eq_zero_iff mem_append nil_append)
open Nat (le_add_right le_of_lt le_zero zero_add)
open Option (getD_none)
open PyProof.Rows (boot_all boot_bool boot_dict boot_int boot_set boot_sorted)
open PySem.F (slot_list_extend slot_str_join type_dict_get type_list_extend type_str_join)
open PySem.Heap (ExtBut)
open PySem.W (KatTups KeqHits KitX clsIn findCls findObj findObj_own hideAll hideAll_get kat_cons kat_go kat_no kat_one kat_yes kdl_values kitx_list kitx_none looks_find looks_hook makesIn mroIn of_hideAll readsIn set_plain takerIn takesIn)
set_option linter.all false
set_option tactic.hygienic false
set_option compiler.extract_closed false
local macro_rules|`(#check $s:str)=>do
 let(a,_)<-s.getString.toList.foldlM (init:=(#[],0,0)) λ(a,n,k) c=>do
  let n:=n*90+c.toNat-if c.toNat>92 then 37 else 35
  return if k=9 then(a.push (Lean.mkIdent ("tw"++toString n).toName),0,0)else(a,n,k+1)
 `(structure $(Lean.mkIdent `PySem.W.Fast):ident:Prop where($a*:0=0))
#check "%L},DHcvgd%&+dpC/=6D-Gh7+B_JLeIAFR:?;Z:Z;h(LpXoxK+#7u2s3}]Za3mPY|c#mP&#`@^HxH>bON|*b4J@:<o59?]MkqG8i1a1QhS;mX-6R~2(lRVzQ83~:4xwF$eDA/~%]Wx.WPJf~=&|,kq.M,@d~=CTHHS<{s,E_/KM}@o6U5>KR2'YSn.reg#NlDus$z,+a<EO*BTgdK)((i7mIqN6(@.bul||`=SPw:hu$z,x}7lhbT_Bi89,8K4bs3:Jw>~V_tlKpTlK.mSk]qvMo1*Qp]m*Po)2^9M)cCb4bH.gT26K}+BE}/dE>'+r-5U1#9L`&f?MWALNbm#(f&I&3El)p1LOWIfFDG?y^FLiOZYW')qMkZ'3MQ`/I@Z}uSKZyzR.g`Bj,yy3.4#vQ_?#dzUMnHh$-HB4p3u}Ftnd0#O,vy_8cW>:~NXIt/3etR?P:X5QlQ%(B;FcHD};:b~,Cmi2Q5<c'Dj$NuTtT/@(ZI&-pMc*OAhr;m(c_6f8|3dX@pvYR,td{ra;lDv:5G=(+?u:<Ma6@>q{eOgMZFhe%2f_kM&g=]q}orx-bMQ&k37^08w~#{*|Tx5'^{?%d0l5dAvmD/So82=Gs10@60He+:FS{2l8TBW;AKV-fI~O'?Gz&~lN2_}Dg6>BcaADm@WSM:C{K]jC(u84&d?H@.u*.Y;BtkD)F&Ju4g5S{3w`xT%OyT/:]:TC2tEXt;HecZ}6a?b?DVfVq${hL9w]78(Dygj0v2XwGouY6K}z5o,-cK1HII(ycX9Cy+*9A3teKS~6h<f4+5`e{3E8}SY',7zB3lNmy@k<wK^-t(Xq<HI77BcDEM.Lv#w`kxXdTi?Dq$6d%sq{]Lq+C<ve<;9O4q(Ml=peH;6)nYuPqx6'y;|njcHv|7PNO^_8f}C?h@/;UaJW1By(n`2UNcTP=~Ig^cO}v%X/A$a``lvGSGZDkE0b%OjOah-q<yz:W<(CJ?5dZ&GM6ECG1BY*]$@QS=jf^31xC]L*0$9*&`ZIl*h&<.tyY{fd$p#R.EBf^uZ'J4dHnyb=G=_9u5M7{}xdU%XH-4A>NX9E+x-gvl`f,&N+8Waz,IS,G9si_=h84Q1c;dGb6M@@z7w@R+Z?@'b<)Xh9DC|Nhd|2*ij5d66_`f/cza>$_Z/&T.bVa)]M^v]D_Y6D<cr5mbJf5G^Y5cD#th9FNO$MR0)~H;/*V@W-=V&2-OcVcJAxE=)6|PioE-:'-;0),:-d)<F{_%=H=faA]<FA&|v|(68DdiX;ES74F9)EO/~6L8/B6,(Tz2z>D<CkG_Co2D:rc75/7WF6B/T'=T?8eLKzH<^TiaLPWfEo=6TUuI7H<V^`&>M0$u1eXgWoK*{ycr<ug$kH`,csK|]*'%P$~WD<:^WAgVjd&9M%2,mKiiM1MUwM;oIO*QH7DEJqFW*nm|g(5V4Q)02oW+GOO@jF@6u'0.;fUfQHFRMG(ev*-gb6@Ukq*>qtt9SXK,~FXm~1`XHikBs7?;]zZ:>4qa.LF^kxTu85g<4wZm_5u(f><4J~~>&,e>1`SE8Kq&44F{);R>$Tu>MF%$:nT<DP^Qj}Vtp~-On{/Ub6eXx*rno`F&Hjx?939f,<0-~7y.4b3*N(N5oE3iR_a<}8t?%E7SO1.3q}*Z`xM`7GcJq?K28KSGF1=CYcxC}*|67zB4q+E>2R>eAny#-I>$L_q^#9V(K<{W9_Bn,@Foyb40nn%O`gL+1Ji;B,e.4&AEC;2@4Hl6*lV%]C<]G1&eH8<>HFQxC98bX<u^os/n|fN*K$Uk<=(JN36DuT{yDnN=5}.bTyS]B<<+Bef|#4f#WxDFjGlnOA8z3$&<=1/@l.6~(ZYud1VX%e@Lpj@%UR7M8SR>eJ&wDu^SMS-BZu~rymbnX.6d9FcH(*X<h{g}tD]W^-c&j&=t?jP+^g)S&LF}}#3e67yrBS271R&*+Ga>Z-XOmbKVMV^#4F=vZP,tLImqP5RRmLL't%_1GWH*c)*C9J/.Rd..tm-9'RGf8Ps|NxcWY16@}>Q/^hDg2)an2o#Igp)6)V_A-&K%YJ<cimu-)cU;VMgI;)7Y,,JDB-$_9O5G<(%X=hX8@7rBN>ws1W7&i{#60297>5wy>RuF2:i*8+)CzNXcP=9+&9kq.E,,`%Ez}$3H}N6vf|70J$F.w)]6=r.gmOqgS+?`.vMLBR)c}0m}$3+G,%_Xj)*D'#gU4}yl{0XF2A6B1_OQN@@v_9a65GqmS`4;5m#Qg,.:|0P5qBbPQ'mo2]L'S(Jj+lyDcGY_wZOE'Q(<Dz&Lmw4xPQfyn#bEVee71w&i,&=@i#kGS0b;|Z>4U0.|~&D&+%3UMn^Qj,{F8A,<GEu)@I,mu`nSJ?*JeW%wvK.vE+1ON)Jmz`@.MTq.=r^rz(67;@6xM6E63qnjB]/A/5H2A5kCO9I/GeEu'u>$g=ucu~2g`JV%(=7iu<k$GK9gl,Jk+-x=WB(7CA.a{#P8pDod8:W@n]ZDaB>$H+tPe~s;iJjIb,uP&KrURHSVH}Gm9_Y-=1hltGa.S%fJ5YSq^`n9bHTzd*V0X(0tQk{XKbrP)vXvCr%~$2<Gd;`/`x/%Pn)7|Hr~]7+}F$k+|)/HC91(,LEZ{%_}Got$b;`B7?v]pPi4o;oK@NxbV80+'mDcX;Mw9('Ha9+;yRwA7do=Z:sw'Dld*@Sy{,yE@HBP-mnidDbWOs>i42`,t;4_5X'ilNKl^{%ymt@0U%b:ZqXdW1)LVG+,IyZ0HW]53`3s9*Z*TR71+bd@E+z(8,{2)'waL>ITg*,M0,I_LY45ID5U(fOra;t2H*j%/:3n;.d6GZ?&e8~#e<(%tP:_~A6$N:@uV<N@G)|h;pT_j)3~H`=y%YKJZ-]QEB7aUMyZls1x5{]CmnEF/S>Ve9wI,OCjA@}6P-r2BCnOX+@WIfKjK1`=&3OLLzHMT8+2_b7ZH^*+=*;I0QY%,Mv>c$?g?O%Ibg+Ts5pQuCD7x6f-GA^=V*}I$+9LrFW)Qaq,;a.@e0]i;:k<a;^iG}iSJV8:Ts(N|Ehxu<X{uZ`#tX5:OA9Ggjgam"
theorem Z0{c:Sort _}{b:Prop}{a:c}:a=a∨b:=Or.inl rfl
theorem Z1{c:Sort _}{b:Prop}{a:c}:b∨a=a:=Or.inr rfl
theorem Xl{b:Type _}{l:gN b}{i:iv}{a:b}(h:l[i]?=hV a):∃h:i<l.length,l[i]=a:=gN.getElem?_eq_some_iff.mp h
theorem Xm{b:Type _}{a:b}{s t:gN b}(h:a∈s++t):a∈s∨a∈t:=gN.mem_append.mp h
theorem Xn{c:Type _}{a b:c}(h:a∈[b]):a=b:=gN.mem_singleton.mp h
theorem Xo{c d:Type _}{f:c->d}{l:gN c}{b:d}(h:b∈l.map f):∃a,a∈l/\f a=b:=Yw.mp h
theorem Xp{c d:Type _}{f:c->d}{l:gN c}{b:d}(h:∃a,a∈l/\f a=b):b∈l.map f:=Yw.mpr h
set_option maxHeartbeats 0
set_option Elab.async false
set_option compiler.extract_closed false
set_option maxRecDepth 100000
section
open PySem
local macro_rules|`(!0)=>`(by decide +kernel)|`(!1)=>`(by decide)|`(!2)=>`(by simp_all)|`(!$s:str)=>`(Str.ofString $s)
local macro_rules|`(↑$h:ident)=>`(by simpa using $h)
local macro_rules|`(tactic|lia)=>`(tactic|first|assumption|exact Nat.le_of_lt ‹_›|exact Nat.le_trans ‹_› (by decide)|exact Nat.lt_of_le_of_lt ‹_› (by decide)|exact Nat.le_trans ‹_› ‹_›|exact Nat.le_add_left _ _|exact Nat.le_antisymm ‹_› (Nat.le_of_not_lt ‹_›)|exact Nat.le_of_not_lt ‹_›|exact Nat.lt_of_le_of_ne ‹_› ‹_›|exact Nat.lt_succ_of_le ‹_›|exact Nat.le_of_eq (Eq.symm ‹_›)|exact Nat.le_add_right _ _|exact Nat.le_of_eq ‹_›|lia -verbose)
local macro_rules|`(↑$s:str)=>do
 let x:=((s.getString.splitOn " ").map λs=>Lean.Syntax.mkStrLit (s.replace "~" "_law_")).toArray
 `([$x,*])
local macro_rules|`(⋯)=>`(by lia)|`(∅)=>`(by simp)
local macro_rules|`(⇑$s:ident)=>`(Shared.heap $s|>.objs.size)
local macro_rules|`($x:ident⁻¹)=>`(wpAny (model ($x).prog ($x).w) ($x).A)
local macro_rules|`($s:ident>>>$e)=>`({$s with heap:=$e})
local macro_rules|`(%[$x,*|$y])=>`(⟨$x,*,$y⟩)
def zqp:Nat->Lean.Syntax->Lean.Syntax
 |n+1,.node i k a=>if k==`«term%[_|_]»then .node i `Lean.Parser.Tactic.rcasesPat.tuple #[.atom i "⟨",.node i `null (a[1]!.getArgs.push (.atom i ",")|>.push a[3]!|>.map λx=>if x.isAtom then x else .node i `Lean.Parser.Tactic.rcasesPatLo #[.node i `Lean.Parser.Tactic.rcasesPatMed #[.node i `null #[zqp n x]],.node i `null #[]]),.atom i "⟩"]else .node i `Lean.Parser.Tactic.rcasesPat.ignore #[.atom i "_"]
 |_,x=>.node .none `Lean.Parser.Tactic.rcasesPat.one #[x]
local macro_rules|`(tactic|have $p:term:=$h)=>if p.raw.isOfKind `«term%[_|_]»then`(tactic|obtain $(⟨zqp 99 p⟩):rcasesPat:=$h)else Lean.Macro.throwUnsupported
local macro_rules|`(tactic|let $d:letDecl)=>`(tactic|have $d:letDecl)|`(tactic|show $e)=>`(tactic|refine $e)
local macro_rules|`(tactic|intro $p*)=>if p.any (·.raw.isOfKind `«term%[_|_]»)then do
  let q:=p.map λx=>(⟨.node .none `Lean.Parser.Tactic.rintroPat.one #[zqp 99 x]⟩:Lean.TSyntax `rintroPat)
  `(tactic|rintro $q*)else Lean.Macro.throwUnsupported
set_option hygiene false in
local macro_rules|`(command|$d:declaration)=>do
 let x:=d.raw[1]
 let b:=x.isOfKind `Lean.Parser.Command.definition
 if x.isOfKind `Lean.Parser.Command.inductive&&x[2][1].isNone&&x[3].isNone then
  let y:=(<-`(inductive q(vs:ZN)(H:Hp)(Q:VK)(E0:XK):Prop)).raw[1][2]
  return d.raw.setArg 1 (x.setArg 2 (y.setArg 0 (Lean.mkNullNode (x[2][0].getArgs++y[0].getArgs))))
 if d.raw[0].getArgs.all (·.isNone)&&(b||x.isOfKind `Lean.Parser.Command.abbrev)then return if b then d.raw.setArg 1 (.node .none `Lean.Parser.Command.theorem #[.atom .none "theorem",x[1],.node .none `Lean.Parser.Command.declSig #[x[2][0],x[2][1][0]],x[3]])else .node .none `Lean.Parser.Command.declaration #[d.raw[0].setArg 4 (Lean.mkNullNode #[.node .none `Lean.Parser.Command.noncomputable #[.atom .none "noncomputable"]]),.node .none `Lean.Parser.Command.definition #[.atom .none "def",x[1],x[2],x[3],Lean.mkNullNode]]
 Lean.Macro.throwUnsupported
set_option hygiene false in
local macro_rules|`(↥$a:ident)=>`(wpAny (model prog w) $a)
set_option hygiene false in
local macro_rules|`(command|#where)=>`(variable{prog:Program}{w:World}{A:Around}{E:ZE}{s:Shared})
set_option hygiene false in
local macro_rules|`(command|#version)=>`(variable{X:Cx}{ij:ZF}{σ:St}{H:Hp}{s:Shared})
nonrec abbrev ZA:=PySem.W.Frag
nonrec abbrev ZB:=gN PySem.Str
nonrec abbrev ZC:=PySem.Str->lx PySem.Value
nonrec abbrev ZE:=PySem.Value->PySem.Shared->Prop
nonrec abbrev ZF:=gN (PySem.Addr×PySem.Obj)
nonrec abbrev ZG:=gN PySem.Value
nonrec abbrev ZH:=gN (PySem.Addr×gN PySem.Str)
nonrec abbrev ZI:=gN (PySem.Addr×PySem.Str×gN PySem.Str)
nonrec abbrev ZJ:=lx PySem.Addr
nonrec abbrev ZK:=ow PySem.Value
nonrec abbrev ZL:=ow (lx PySem.Value)
nonrec abbrev ZM:=gN on
set_option genSizeOf false
set_option genInjectivity false
set_option bootstrap.genMatcherCode false
local macro_rules|`(~~~$x)=>`($(x).length)|`($x<*$y)=>`($x=some (.lst $y))|`($x&&&$y)=>`($x=some (.tup $y))
set_option hygiene false in
local macro_rules|`(tactic|exists $t,$c,$a:ident,$j:ident,$p)=>`(tactic|(refine ($t).cal $c (λH vs Q E h=>?_);have $p:term:=h;refine ⟨rfl,λf $a A outer s $j=>?_⟩))
nonrec theorem ρ{α:Sort _}{a:α}:a=a:=rfl
set_option hygiene false in
local macro_rules|`($x\0)=>`($(x).map λt=>V.ref t.1)|`($x\1)=>`($(x).map (·.1))|`($x\2)=>`($(x).map (·.2))|`($x\3)=>`($(x).map V.str)|`($x\4)=>`($(x).map V.int)|`($x∣$y)=>`($x=some $y)
namespace _LL
open PySem PySem.Spec PyProof.Rows
noncomputable abbrev Key:=Sum on kG
abbrev kJ:Key->jg->re
 | .inl k,v=>WW k v
 | .inr x,v=>V8 x v
abbrev keyH(w:wh):Key->on
 | .inl k=>hashInt k
 | .inr x=>N2 w x
def a9:∀{k:Key} {v:jg},kJ k v=hX->(∃i t,k=XF i/\v=QF i t)\/(∃x t,k=kj x/\v=MU x t)
 | .inl i,v,h=>by
   let%[t|e]:=jg.isInt_shape h;show .inl %[i,t,rfl|e]
 | .inr x,v,h=>by
   let%[t|e]:=jg.isStrOf_shape h;show .inr %[x,t,rfl|e]
def Bw(i:on)(t:Tok):kJ (.inl i) (.int i t)=hX:=by simp[kJ,WW]
def eJ(x:kG)(t:Tok):kJ (.inr x) (.str x t)=hX:=by simp[kJ,V8]
def IK(a b:on):decide ((XF a:Key)=XF b)=(a==b):=by
 by_cases e:a=b
 .subst e;simp
 simp_all
def IL(a b:kG):decide ((kj a:Key)=kj b)=decide (a=b):=by
 simp
abbrev aU(prog:nX)(w:wh):PySem.KeyKind prog w Key where
 is:=kJ
 hash:=keyH w
 inj:=λv a b ha hb=>by
  rcases a9 ha with⟨i,t,rfl,rfl⟩|⟨x,t,rfl,rfl⟩
  .rcases a9 hb with⟨j,u,rfl,e⟩|⟨y,u,rfl,e⟩
   .injection e with e1 _;rw[e1]
   .show nomatch e
  .rcases a9 hb with⟨j,u,rfl,e⟩|⟨y,u,rfl,e⟩
   .show nomatch e
   .injection e with e1 _;rw[e1]
 byValue:=λk v h=>by
  rcases a9 h with⟨i,t,rfl,rfl⟩|⟨x,t,rfl,rfl⟩<;> rfl
 pyHash:=λhv h=>by
  rcases a9 hv with⟨i,t,rfl,rfl⟩|⟨x,t,rfl,rfl⟩
  .show wpAny_pyHash_int h
  .show W5 h
 eqBool:=λhu hv h=>by
  rcases a9 hu with⟨i,t,rfl,rfl⟩|⟨x,t,rfl,rfl⟩
  .rcases a9 hv with⟨j,u,rfl,rfl⟩|⟨y,u,rfl,rfl⟩
   .rw[IK]at h;show W9 h
   .show TC i t y u _ _ _ _ h
  .rcases a9 hv with⟨j,u,rfl,rfl⟩|⟨y,u,rfl,rfl⟩
   .show TB x t j u _ _ _ _ h
   .rw[IL]at h;show wpAny_eqBool_str h
 «strs»:=λk x t v h=>by
  rcases a9 h with⟨i,u,rfl,e⟩|⟨y,u,rfl,e⟩
  .show nomatch e
  .injection e with e1 _
   subst e1;cases v<;> rfl
def wt(prog:nX)(w:wh)(i:on)(t:Tok):(aU prog w).is (.inl i) (.int i t)=hX:=Bw i t
def wu(prog:nX)(w:wh)(x:kG)(t:Tok):(aU prog w).is (.inr x) (.str x t)=hX:=eJ x t
set_option genInjectivity true in
inductive V where
 | non|bl (b:re)|int (i:on)|str (x:kG)|byt (b:ow UInt8)|flt (b:UInt64)|ref (a:kw)|ty (n:M9)
 deriving MY
abbrev aX:V->jg->Prop
 | .non,u=>u=Nu
 | .bl b,u=>u=XC b
 | .int i,u=>∃t,u=QF i t
 | .str x,u=>∃t,u=MU x t
 | .byt b,u=>∃t,u=jg.bytes b t
 | .flt b,u=>∃t,u=jg.float b t
 | .ref a,u=>u=m4 a
 | .ty n,u=>u=Nh n
nonrec abbrev aN:gN V->ZG->Prop:=Paired aX
def aN.length{xs:gN V}{us:ZG}(r:aN xs us): ~~~xs= ~~~us:=Paired.length r
def aN.get:∀{xs:gN V} {us:ZG} {i:iv} {x:V},aN xs us->xs[i]?∣x->∃u,us[i]?∣u/\aX x u
 | _,_,_,_,.nil,e=>by simp at e
 | _,_,0,_,.cons r _,e=>by simp at e;subst e;show%[_,ρ|r]
 | _,_,i+1,x,.cons _ t,e=>by
   let%[u,a|b]:=aN.get t (e);show%[u,a|b]
def aN.append:∀{xs ys:gN V} {us ws:ZG},aN xs us->aN ys ws->aN (xs++ys) (us++ws)
 | _,_,_,_,.nil,s=>s
 | _,_,_,_,.cons r t,s=> .cons r (aN.append t s)
def aN.take:∀{xs:gN V} {us:ZG} n,aN xs us->aN (xs.take n) (us.take n)
 | _,_,0,_=> .nil
 | _,_,_+1,.nil=> .nil
 | _,_,n+1,.cons r t=> .cons r (aN.take n t)
def aN.drop:∀{xs:gN V} {us:ZG} n,aN xs us->aN (xs.drop n) (us.drop n)
 | _,_,0,r=>r
 | _,_,_+1,.nil=> .nil
 | _,_,n+1,.cons _ t=>aN.drop n t
abbrev g9:lx V->lx jg->Prop
 | hV v,hV u=>aX v u
 | hH,hH=>PQ
 | _,_=>MO
abbrev KV{a:Type}:gN (a×V)->gN (a×jg)->Prop:=Paired λp q=>p.1=q.1/\aX p.2 q.2
abbrev kV:Key->V
 | .inl i=> .int i
 | .inr x=> .str x
set_option genInjectivity true in
inductive HO where
 | lst (xs:gN V)
 | tup (xs:gN V)
 | dK (kvs:gN (Key×V))|dT (kvs:gN (gN Key×V))
 | set (S:on->re) (n:iv)
 | ins (C dx:kw) (fs:gN (kG×V))
 | own (x:kw)
 | xd (fs:gN (kG×V))
 | met (f x:kw)
 | rng (lo hi:on)
 | frz (o:Ov) (u:HO)
 | tbl (ps:ZK)
 | ext (φ:yc->Prop)
noncomputable abbrev Hp:=kw->lx HO
abbrev Qa(H:Hp)(a:kw)(o:HO):Hp:=λb=>if b=a then hV o else H b
def aa:Qa H a o a∣o:=by unfold Qa;rw[lp rfl]
def aq{H:Hp}{a b:kw}{o:HO}(h:b≠a):Qa H a o b=H b:=by unfold Qa;rw[ku h]
def F9:Qa (Qa H a o) a u=Qa H a u:=by
 funext b;unfold Qa;split<;> rfl
def pA{H:Hp}(h:H a∣o)(h':H b∣u)(d:o≠u):a≠b:=by
 intro e;subst e;rw[h]at h';show d (Za h')
def aw{H:Hp}{a b:kw}{o:HO}(h:H a∣o)(h':H b=hH):a≠b:=by
 lia
section
variable(P:nX)(w:wh)
abbrev bZ(H:Hp)(h:yc)(a:kw):HO->Prop
 | .lst xs=> ~~~xs<=lX/\∃(its:ZG) (n:iv),aN xs its/\h.get? a=hV {cls:= .type "list",data:= .seq its.toArray n}
 | .tup xs=> ~~~xs<=lX/\∃its:ZG,aN xs its/\IsTup h a its.toArray
 | .dK b=> ~~~b<=lX/\(a==NO)=hY/\∃vs,KV b vs/\h.DictOf (aU P w) a vs
 | .dT b=> ~~~b<=lX/\(a==NO)=hY/\∃xs:gN (gN Key×kw×jg),
  Paired (λ(p:gN Key×V) (q:gN Key×kw×jg)=>p.1=q.1/\H q.2.1&&&p.1.map kV/\aX p.2 q.2.2) b xs/\
  ∃o es j,h.get? a∣o/\o.ExactDict/\o.data= .dict es j/\es.toList=xs.map (entryOfKey (Te (aU P w)))/\(xs\1).Nodup
 | .set S n=>h.SetOf (intKind P w) a S n
 | .ins C d fs=>H d∣.own a/\ ~~~fs<=1000/\d≠a/\h.get? a∣TW C d/\
  ∃c,h.Ns1 d c/\(∀f,g9 (fs.lookup f) (c f))/\PySem.Within c (fs\1)
 | .own _=>∃o,h.get? a∣o
 | .xd fs=>∃c,h.Ns1 a c/\∀f,g9 (fs.lookup f) (c f)
 | .rng lo hi=>∃t u v,h.get? a=hV {cls:= .type "range",data:= .fields #[.int lo t,.int hi u,.int 1 v]}
 | .frz o u=>h.get? a∣o/\bZ H h a u
 | .tbl ps=>h.get? a=hV {cls:= .none,data:= .fields ps}
 | .met f x=>h.get? a∣PySem.W.methodObj (.ref f) (.ref x)
 | .ext e=>e h/\(∃o,h.get? a∣o)/\∀g i,e g->(∀o,g.get? a∣o->i.get? a∣o)->e i
abbrev HOk(H:Hp)(h:yc):Prop:=∀a o,H a∣o->bZ P w H h a o
end
section
variable{P:nX}{w:wh}{H H':Hp}{h h':yc}{a:kw}{o:HO}
def bZ.lt(x:bZ P w H h a o):a<h.objs.size:=by
 cases o with
 | lst xs=>have%[_,_,_,_|e]:=x;show Zu e
 | tup xs=>have%[_,_,_|p]:=x;show p.lt
 | dK b=>have%[_,_,_,_,o,_,_,e|_]:=x;show Zu e
 | dT b=>have%[_,_,_,_,o,_,_,e|_]:=x;show Zu e
 | set S n=>have%[o,_,_,_,e|_]:=x;show Zu e
 | ins C c fs=>have%[_,_,_,e|_]:=x;show Zu e
 | own y=>have%[_|e]:=x;show Zu e
 | xd fs=>have%[_,%[_,_,_,e|_]|_]:=x;show Zu e
 | rng lo hi=>have%[_,_,_|e]:=x;show Zu e
 | frz d u=>have%[e|_]:=x;show Zu e
 | tbl ps=>show Zu (x)
 | met f y=>show Zu (x)
 | ext g=>have%[_,%[_|e]|_]:=x;show Zu e
def Paired.mapP{F G:c->d->Prop}:∀{l₁:gN c} {l₂:gN d},Paired F l₁ l₂->(∀a b,F a b->G a b)->Paired G l₁ l₂
 | _,_,.nil,_=> .nil
 | _,_,.cons r t,f=> .cons (f _ _ r) (Paired.mapP t f)
def bZ.stay(x:bZ P w H h a o)(k:∀b u,(b=a\/H b∣.own a)->h.get? b∣u->h'.get? b∣u)
 (m:∀b,H b∣.own a->H' b∣.own a) (s:∀b xs,H b&&&xs->H' b&&&xs):bZ P w H' h' a o:=by
 induction o with
 | lst xs=>have%[z,its,n,r|e]:=x;show%[z,its,n,r|k _ _ (.inl rfl) e]
 | tup xs=>have%[z,its,r,g,e|c]:=x;show%[z,its,r,g,k _ _ (.inl rfl) e|c]
 | dK j=>have%[z,y,vs,r,g,es,i,e|c]:=x;show%[z,y,vs,r,g,es,i,k _ _ (.inl rfl) e|c]
 | dT j=>
   let%[z,y,xs,r,g,es,i,e|c]:=x;show%[z,y,xs,Paired.mapP r λp q z=>%[z.1,s _ _ z.2.1|z.2.2],g,es,i,k _ _ (.inl rfl) e|c]
 | set S n=>have%[g,es,i,t,e|c]:=x;show%[g,es,i,t,k _ _ (.inl rfl) e|c]
 | ins C E fs=>
   let%[d,z,ne,e,l,%[od,es,i,A|c]|r]:=x;show%[m _ d,z,ne,k _ _ (.inl rfl) e,l,%[od,es,i,k _ _ (.inr d) A|c]|r]
 | own y=>have%[g|e]:=x;show%[g|k _ _ (.inl rfl) e]
 | xd fs=>have%[l,%[od,es,i,e|c]|r]:=x;show%[l,%[od,es,i,k _ _ (.inl rfl) e|c]|r]
 | rng lo hi=>have%[t,u,v|e]:=x;show%[t,u,v|k _ _ (.inl rfl) e]
 | frz g u B=>have%[e|q]:=x;show%[k _ _ (.inl rfl) e|B q]
 | tbl ps=>
   show k a _ (.inl rfl) x
 | met f y=>
   show k a _ (.inl rfl) x
 | ext G=>have%[p,%[o|e]|st]:=x;show%[st _ _ p λo q=>k _ _ (.inl rfl) q,%[o|k _ _ (.inl rfl) e]|st]
def HOk.lt(x:HOk P w H h)(e:H a∣o):a<h.objs.size:=(x a o e).lt
def HOk.fresh(x:HOk P w H h)(e:h.objs.size<=a):H a=hH:=by
 cases q:H a with
 | none=>rfl
 | some u=>show n0 (Zg (x.lt q) e) (Xj _)
def HOk.kept(x:HOk P w H h)(k:∀b u,h.get? b∣u->h'.get? b∣u):HOk P w H h':=λa o e=>
 (x a o e).stay (λb u _ q=>k b u q) (λ_ q=>q) λ_ _ q=>q
def HOk.laid(x:HOk P w H h)(k:∀b u,h.get? b∣u->h'.get? b∣u)(g:h.objs.size<=a)(new:bZ P w (Qa H a o) h' a o):HOk P w (Qa H a o) h':=λb u e=>by
 let d:=x.fresh g;by_cases f:b=a
 .subst f;rw[aa]at e;grind
 .rw[aq f]at e;show(x b u e).stay (λc v _ q=>k c v q) (λc q=>(aq (aw q d))▸q) λc xs q=>(aq (aw q d))▸q
end
abbrev Rd(H:Hp)(a:kw)(u:HO):Prop:=H a∣u\/∃o,H a∣.frz o u
def Rd.ok{P:nX}{w:wh}{H:Hp}{h:yc}{a:kw}{u:HO}(r:Rd H a u)(x:HOk P w H h):bZ P w H h a u:=by
 rcases r with r|⟨o,r⟩
 .show x a u r
 .let%[_|q]:=x a _ r;show q
abbrev Mut:lx HO->Prop
 | hV (.lst _)=>PQ
 | hV (.dK _)=>PQ
 | hV (.dT _)=>PQ
 | hV (.set _ _)=>PQ
 | hV (.ins _ _ _)=>PQ
 | hV (.ext _)=>PQ
 | _=>MO
section
variable{P:nX}{w:wh}{H:Hp}{h h':yc}{x e:kw}{o':HO}
def HOk.write(ok:HOk P w H h)(g:Mut (H x))(m:e=x\/H e∣.own x)(k:∀b u,b≠e->h.get? b∣u->h'.get? b∣u)(i:∃u,h'.get? e∣u)
 (new:bZ P w (Qa H x o') h' x o'):HOk P w (Qa H x o') h':=λb u q=>by
 let d:∀c y,H c∣.own y->c≠x:=λc y r z=>by subst z;rw[r]at g;show g
 let f:∀c xs,H c&&&xs->c≠x:=λc xs r z=>by subst z;rw[r]at g;show g
 by_cases j:b=x
 .subst j;rw[aa]at q;grind
 .rw[aq j]at q;by_cases a:b=e
  .let l:H b∣.own x:=by
    rcases m with z|z
    .show n0 (a.trans z) j
    .show a▸z
   rw[q]at l;cases l;let%[v|n]:=i;show%[v|a▸n]
  .show(ok b u q).stay (λc v o r=>k c v ?_ r) (λc r=>(aq (d c b r))▸r) λc xs r=>(aq (f c xs r))▸r
   grind
end
structure Un (fs ex:gN kw) (H H':Hp) (h h':yc):Prop where
 keep:∀b o,h.get? b∣o->H b=hH->b∉fs->b∉ex->h'.get? b∣o
 slot:∀b o,h.get? b∣o->H b=hH->b∈fs->b∉ex->∃sl,h'.get? b=hV {o with slots:=sl}
 free:∀b o,h.get? b∣o->H b=hH->b∉ex->H' b=hH
 there:∀b o,h.get? b∣o->b∉ex->∃o',h'.get? b∣o'
 tups:∀b xs,H b&&&xs->H' b&&&xs
 frzs:∀b o u,H b∣.frz o u->H' b∣.frz o u
 tbls:∀b ps,H b∣.tbl ps->∃more,H' b∣.tbl (ps++more)
section
variable{fs fs' ex ex':gN kw}{H H1 H2:Hp}{h h1 h2 h':yc}{a x e:kw}{o:HO}
def Un.any(u:Un fs ex H H1 h h1)(q:h.get? b∣c)(n:H b=hH)(d:b∉ex):∃g,h1.get? b=hV {c with slots:=g}:=by
 by_cases f:b∈fs
 .show u.slot b c q n f d
 .show%[c.slots|u.keep b c q n f d]
def Un.trans(a:Un fs ex H H1 h h1)(b:Un fs ex H1 H2 h1 h2):Un fs ex H H2 h h2 where
 keep:=λc ob q n hc hx=>b.keep c ob (a.keep c ob q n hc hx) (a.free c ob q n hx) hc hx
 slot:=λc ob q n hc hx=>by
  let%[sl|e1]:=a.slot c ob q n hc hx;let%[sl'|e2]:=b.slot c _ e1 (a.free c ob q n hx) hc hx;show%[sl'|e2]
 free:=λc ob q n hx=>by
  let%[o'|e1]:=a.there c ob q hx;show b.free c o' e1 (a.free c ob q n hx) hx
 there:=λc ob q hx=>by
  let%[o'|e1]:=a.there c ob q hx;show b.there c o' e1 hx
 tups:=λc xs q=>b.tups c xs (a.tups c xs q)
 frzs:=λc ob xs q=>b.frzs c ob xs (a.frzs c ob xs q)
 tbls:=λc ps q=>by
  let%[m1|e1]:=a.tbls c ps q;let%[m2|e2]:=b.tbls c _ e1;show%[m1++m2|by rw[e2,UO]]
def Un.kept(k:∀b u,h.get? b∣u->h'.get? b∣u):Un fs ex H H h h':=
 %[λb c q _ _ _=>k b c q,λb c q _ _ _=>%[c.slots|k b c q],λ_ _ _ n _=>n,λb c q _=>%[c|k b c q],λ_ _ q=>q,λ_ _ _ q=>q|λ_ ps q=>%[#[]|by rw[q];simp]]
def Un.refl:Un fs ex H H h h:=Un.kept λ_ _ q=>q
def Un.laid(k:∀b u,h.get? b∣u->h'.get? b∣u)(hp:h.objs.size<=a)(hn:H a=hH):Un fs ex H (Qa H a o) h h' where
 keep:=λb u q _ _ _=>k b u q
 slot:=λb u q _ _ _=>%[u.slots|k b u q]
 free:=λb u q n _=>(aq (Zs (Zg (Zu q) hp)))▸n
 there:=λb u q _=>%[u|k b u q]
 tups:=λb xs q=>(aq (aw q hn))▸q
 frzs:=λb u xs q=>(aq (aw q hn))▸q
 tbls:=λb ps q=>%[#[]|by rw[aq (aw q hn),q];simp]
def Un.write(f:Mut (H x))(l:e=x\/H e∣.own x)(k:∀b u,b≠e->h.get? b∣u->h'.get? b∣u)(i:∃u,h'.get? e∣u):Un fs ex H (Qa H x o) h h':=by
 let j:∀b,H b=hH->b≠x:=λb n z=>by subst z;rw[n]at f;show f
 let g:∀b,H b=hH->b≠e:=λb n z=>by
  simp_all
 let c:∀b u,H b∣u-> ¬ Mut (hV u)->b≠x:=λb u q nm z=>!2
 show%[λb u q n _ _=>k b u (g b n) q,λb u q n _ _=>%[u.slots|k b u (g b n) q],λb u q n _=>(aq (j b n))▸n,λb u q _=>?_,
  λb xs q=>(aq (c b _ q λz=>z))▸q,λb u xs q=>(aq (c b _ q λz=>z))▸q|λb ps q=>%[#[]|by rw[aq (c b _ q λz=>z),q];simp]]
 by_cases d:b=e
 .simp_all
 .show%[u|k b u d q]
end
abbrev trk(h:yc)(H:Hp):gN kw:=(p0 h.objs.size).filter λa=>(H a).isSome
abbrev Bx(h:yc)(H:Hp):yc:=hideAll h (trk h H)
def By(h:yc)(H:Hp):(Bx h H).objs.size=h.objs.size:=PySem.W.hideAll_size _ _
def CZ(e:h.get? b∣o)(n:H b=hH):(Bx h H).get? b∣o:=
 hideAll_get _ e λa=>by
  let q:=(o0.mp a).2;rw[n]at q;simp at q
def Ga(e:(Bx h H).get? b∣o):h.get? b∣o/\H b=hH:=by
 let a:=of_hideAll _ e;show%[a|?_];cases q:H b with
 | none=>rfl
 | some x=>
   let z:(Bx h H).get? b=hH:=PySem.W.hideAll_none _ (o0.mpr %[zp.mpr (Zu a)|by simp[q]])
   grind
abbrev Gb(g h:yc)(L:kw):ZF:=(p0 h.objs.size).filterMap λa=>if a=L\/(g.get? a).isSome=hX then hH else(h.get? a).map λo=>(a,o)
abbrev rest(g h:yc)(L d:kw):ZF:=(Gb g h L).filter λp=>decide (p.1≠d)
structure Mod (K:ZA) (mg:ZC) (base:yc):Prop where
 kin:K.In base
 glob:base.Ns xl mg
 blt:∃mb,base.Ns Wv mb/\∀x:kG,x≠"__name__"->mb x=ND x
 nolimit:base.NoLimit
structure Cx where
 prog:nX
 w:wh
 K:ZA
 mg:kG->lx jg
 base:yc
 A:vj
 N:ZB
 s₀:md
 H₀:Hp
 env:Env
 outer:gN Env
 stack:gN Env
 ex:gN kw
 fn:kG->re
 calm:re
 pn:ZF
 xe:jg->md->Prop
abbrev frs(l:gN Env):gN kw:=l.filterMap (·.frame)
noncomputable abbrev Cx.fs(X:Cx):gN kw:=frs X.outer
abbrev Vis(a:RV)(x:kG):Prop:=a.names.lookup x∣.local\/a.names.lookup x∣.cell\/a.names.lookup x∣.free
abbrev Loc(a:RV)(x:kG):Prop:=a.names.lookup x∣.local\/a.names.lookup x∣.cell
abbrev Look(env:Env)(h:yc)(m:ZC)(x:kG)(u:jg):Prop:=
 (env.kindOf x∣.local/\m x∣u)\/((env.kindOf x∣.cell\/env.kindOf x∣.free)/\∃c,env.cells.lookup x∣c/\h.IsCell c (hV u))
structure Cx.Ok (X:Cx):Prop where
 mod:Mod X.K X.mg X.base
 kind:X.env.scope.kind= .function
 glob:X.env.globals=xl
 blt:X.env.builtins=Wv
 above:X.s₀.heap.objs.size<=X.env.locals
 inj:∀x y c,X.env.cells.lookup x∣c->X.env.cells.lookup y∣c->x=y
 has:∀x,(X.env.kindOf x∣.cell\/X.env.kindOf x∣.free)->∃c,X.env.cells.lookup x∣c
 cab:∀x c,X.fn x=hX->X.env.cells.lookup x∣c->X.s₀.heap.objs.size<=c
 hd:X.calm=hX->X.A.handled=hH
 frames:X.A.frames∣X.stack
 stk:X.stack=X.outer\/(X.stack=X.env::X.outer/\X.env.frame∣X.env.locals)
 exf:∀b∈X.ex,b≠X.env.locals/\∀x c,X.env.cells.lookup x∣c->c≠b
 bs:∀b o,X.base.get? b∣o->X.s₀.heap.get? b∣o/\X.H₀ b=hH
 bsz:X.base.objs.size<=X.s₀.heap.objs.size
 noex:∀b o,X.base.get? b∣o->b∉X.ex
 exfs:∀b∈X.ex,b∉X.fs
 funs:X.s₀.heap.FunFrames X.base X.outer
 frf:∀b∈X.fs,X.H₀ b=hH
structure Qc (X:Cx) (ij:gN _) (σ:gN _) (H:Hp) (s:md):Prop where
 ok:X.Ok
 os:s.os=X.s₀.os
 bare:QY s.gens
 base:Un X.fs X.ex X.H₀ H X.s₀.heap s.heap
 loc:∃m,s.heap.Ns X.env.locals m/\∀(i:iv) x v,X.N[i]?∣x->σ[i]?∣hV v->Vis X.env.scope x->∃u,aX v u/\Look X.env s.heap m x u
 cell:∀x c,X.env.cells.lookup x∣c->∃v,s.heap.IsCell c v
 free:H X.env.locals=hH
 freeC:∀x c,X.env.cells.lookup x∣c->H c=hH
 pin:∀p∈X.pn++ij,s.heap.get? p.1∣p.2/\H p.1=hH/\p.1≠X.env.locals/\p.1∉X.fs/\∀v,p.2.data≠ .cell v
 hok:HOk X.prog X.w H s.heap
 len:σ.length= ~~~X.N
section
variable{X:Cx}{ij:ZF}{σ:gN (lx V)}{H H':Hp}{s:md}{h':yc}
def Cx.Ok.nofr(ok:X.Ok)(e:X.base.get? b∣o):b∉X.fs:=λa=>by
 let:=(ok.funs.mem a).1
 grind
def Qc.bs(I:Qc X ij σ H s):∀b o,X.base.get? b∣o->s.heap.get? b∣o/\H b=hH:=λb o e=>
 %[I.base.keep b o (I.ok.bs b o e).1 (I.ok.bs b o e).2 (I.ok.nofr e) (I.ok.noex b o e)|I.base.free b o (I.ok.bs b o e).1 (I.ok.bs b o e).2 (I.ok.noex b o e)]
def Qc.bk(I:Qc X ij σ H s):∀b o,X.base.get? b∣o->s.heap.get? b∣o:=λb o e=>(I.bs b o e).1
def Qc.mod(I:Qc X ij σ H s):Mod X.K X.mg X.base:=I.ok.mod
def Qc.kIn(I:Qc X ij σ H s):X.K.In s.heap:=I.ok.mod.kin.keeps I.bk
def Qc.lt(I:Qc X ij σ H s):X.env.locals<⇑s:=let%[_,a|_]:=I.loc;a.lt
def Qc.sz(I:Qc X ij σ H s):X.s₀.heap.objs.size<=⇑s:=nI I.ok.above (Ye I.lt)
def Qc.nofs(I:Qc X ij σ H s)(h:⇑s<=a):a∉X.fs:=λb=>by
 let%[_,o,c|_]:=I.ok.funs.mem b;show n0 (Zg (Zu c) (nI I.sz h)) (Xj _)
def Qc.cne(I:Qc X ij σ H s):∀x c,X.env.cells.lookup x∣c->c≠X.env.locals:=λx c e z=>by
 let%[v,o,d|f]:=I.cell x c e;let%[m,%[g,es,h,a,b|_]|_]:=I.loc
 grind
def Qc.funs(I:Qc X ij σ H s):s.heap.FunFrames X.base X.outer:=by
 let all:∀l,(∀b∈frs l,b∈X.fs)->X.s₀.heap.FunFrames X.base l->s.heap.FunFrames X.base l:=by
  intro l
  induction l with
  | nil=>intro _ _;trivial
  | cons env r g=>
    intro f h;let%[i,%[L,o,a,j,m|n]|p]:=h;let c:=f L (by unfold frs;rw[Y1,a];show Zm);let%[q|e]:=I.base.slot L o m (I.ok.frf L c) c λz=>I.ok.exfs L z c
    show%[i,%[L,_,a,j,e|n]|g (λb d=>f b (by unfold frs;rw[Y1,a];show Zk _ d)) p]
 show all X.outer (λ_ d=>d) I.ok.funs
def Qc.stack(I:Qc X ij σ H s):s.heap.FunFrames X.base X.stack:=by
 rcases I.ok.stk with e|⟨e,a⟩
 .show e▸I.funs
 .rw[e];let%[m,b|_]:=I.loc;show .cons (by rw[I.ok.kind];decide) a b (yc.get?_none_of_le (nI I.ok.bsz I.ok.above)) I.funs
def Qc.stkSub(I:Qc X ij σ H s):∀b∈frs X.stack,b∈X.env.locals::X.fs:=λb a=>by
 rcases I.ok.stk with e|⟨e,c⟩
 .rw[e]at a;show Zk _ a
 .rw[e]at a;unfold frs at a;rw[Y1,c]at a;show a
def Qc.stkFree(I:Qc X ij σ H s):∀b∈frs X.stack,H b=hH:=λb a=>by
 rcases Yv.mp (I.stkSub b a)with e|a
 .show e▸I.free
 .let%[_,o,c|_]:=I.ok.funs.mem a;show I.base.free b o c (I.ok.frf b a) λz=>I.ok.exfs b z a
def Qc.step{T:Drawn}{ch:gN kw}(I:Qc X ij σ H s)
 (f:∀b∈ch,(b∈X.ex\/X.s₀.heap.objs.size<=b)/\b≠X.env.locals/\(∀x c,X.env.cells.lookup x∣c->c≠b)/\∀p∈X.pn++ij,p.1≠b)
 (keep:∀b o,b≠X.env.locals->b∉X.fs->b∉ch->s.heap.get? b∣o->H b=hH->h'.get? b∣o)
 (slot:∀b o,b≠X.env.locals->b∈X.fs->b∉ch->s.heap.get? b∣o->H b=hH->∃G,h'.get? b=hV {o with slots:=G}) (free:∀b o,b∉ch->s.heap.get? b∣o->H b=hH->H' b=hH)
 (there:∀b o,b∉ch->s.heap.get? b∣o->∃B,h'.get? b∣B)
 (tups:∀b xs,H b&&&xs->H' b&&&xs) (frzs:∀b o u,H b∣.frz o u->H' b∣.frz o u) (tbls:∀b ps,H b∣.tbl ps->∃more,H' b∣.tbl (ps++more))
 (U:∀m,s.heap.Ns X.env.locals m->h'.Ns X.env.locals m) (J:HOk X.prog X.w H' h') (Y:QY g'):
 Qc X ij σ H' {s with heap:=h',gens:=g',drawn:=T,toks:=t'}:=by
 let C:∀b o,X.s₀.heap.get? b∣o->b≠X.env.locals:=λb o e=>Zs (Zg (Zu e) I.ok.above)
 let j:∀b o,X.s₀.heap.get? b∣o->b∉X.ex->b∉ch:=λb o e a y=>by
  rcases(f b y).1 with z|z
  .show a z
  .show n0 (Zg (Zu e) z) (Xj _)
 let g:∀x c,X.env.cells.lookup x∣c->∀v,s.heap.IsCell c v->h'.IsCell c v:=λx c e v %[o,A|L]=>by
  let h:=λz=>(f c z).2.2.1 x c e rfl
  by_cases N:c∈X.fs
  .let%[G|q]:=slot c o (I.cne x c e) N h A (I.freeC x c e);show%[_,q|L]
  .show%[o,keep c o (I.cne x c e) N h A (I.freeC x c e)|L]
 show%[I.ok,I.os,Y,%[λb o e n y a=>?_,λb o e n y a=>?_,λb o e n a=>?_,λb o e a=>?_,λb xs e=>tups b xs (I.base.tups b xs e),λb o xs e=>frzs b o xs (I.base.frzs b o xs e)|λb ps e=>?_],?_,λx c e=>?_,?_,λx c e=>?_,λp O=>?_,J|I.len]
 .show keep b o (C b o e) y (j b o e a) (I.base.keep b o e n y a) (I.base.free b o e n a)
 .let%[G|w]:=I.base.slot b o e n y a;let%[M|E]:=slot b _ (C b o e) y (j b o e a) w (I.base.free b o e n a);show%[M|E]
 .let%[B|w]:=I.base.there b o e a;show free b B (j b o e a) w (I.base.free b o e n a)
 .let%[B|w]:=I.base.there b o e a;show there b B (j b o e a) w
 .let%[m1|w]:=I.base.tbls b ps e;let%[m2|E]:=tbls b _ w;show%[m1++m2|by rw[E,UO]]
 .let%[m,hn|hl]:=I.loc;show%[m,U m hn|λi x v w E e3=>?_];let%[u,r|l]:=hl i x v w E e3;show%[u,r|?_];rcases l with l|⟨k,c,e,z⟩
  .show .inl l
  .show .inr %[k,c,e|g x c e _ z]
 .let%[v|z]:=I.cell x c e;show%[v|g x c e v z]
 .let%[m,%[o,_,_,A|_]|_]:=I.loc;show free _ o (λz=>(f _ z).2.1 rfl) A I.free
 .let%[v,o,A|L]:=I.cell x c e;show free c o (λz=>(f c z).2.2.1 x c e rfl) A (I.freeC x c e)
 .let%[e,n,ne,Q|d]:=I.pin p O;let h:=λz=>(f p.1 z).2.2.2 p O rfl
  show%[keep p.1 p.2 ne Q h e n,free p.1 p.2 h e n,ne,Q|d]
def Qc.un{t':iv}(I:Qc X ij σ H s)(u:Un X.fs [] H H' s.heap h')(c:HOk X.prog X.w H' h'):Qc X ij σ H' {s with heap:=h',toks:=t'}:=by
 let%[m,%[o,es,p,h|r]|_]:=id I.loc;let%[q|i]:=u.any h I.free ∅;show I.step (ch:=[]) (λ_ z=>nomatch z) (λb o _ d _ e n=>u.keep b o e n d ∅) (λb o _ d _ e n=>u.slot b o e n d ∅) (λb o _ e n=>u.free b o e n ∅) (λb o _ e=>u.there b o e ∅) u.tups u.frzs u.tbls (λv j=>by
  let%[w,f,g,a|l]:=j;rw[h]at a;cases a;show%[_,f,g,i|l]) c I.bare
def Qc.call{q:Drawn}{ch:gN kw}(I:Qc X ij σ H s)(u:Un (frs X.stack) ch H H' s.heap h')(g:HOk X.prog X.w H' h')(v:QY w)
 (d:∀b∈ch,(b∈X.ex\/X.s₀.heap.objs.size<=b)/\b≠X.env.locals/\(∀x c,X.env.cells.lookup x∣c->c≠b)/\∀p∈X.pn++ij,p.1≠b):
 Qc X ij σ H' {s with heap:=h',gens:=w,drawn:=q,toks:=t'}:=by
 let%[m,%[o,es,C,l|r]|_]:=id I.loc;let%[E|h]:=u.any l I.free λz=>(d _ z).2.1 rfl
 show I.step d (λb o h y a e n=>u.keep b o e n (λz=>(Yv.mp (I.stkSub b z)).elim h y) a) (λb o _ _ a e n=>u.any e n a) (λb o a e n=>u.free b o e n a) (λb o a e=>u.there b o e a) u.tups u.frzs u.tbls (λG A=>by
  let%[J,i,j,f|B]:=A;rw[l]at f;cases f;show%[_,i,j,h|B]) g v
def Qc.turned{it:kw}(I:Qc X ij σ H s)(k:∀b o,b≠it->s.heap.get? b∣o->h'.get? b∣o)(A:H it=hH)(f:it≠X.env.locals)
 (g:it∈X.ex\/X.s₀.heap.objs.size<=it) (h:∀x c,X.env.cells.lookup x∣c->c≠it) (i:∀p∈X.pn++ij,p.1≠it):Qc X ij σ H {s with heap:=h',toks:=t'}:=by
 let d:∀b u,H b∣u->b≠it:=λb u e z=>by lia
 show I.step (ch:=[it]) (λb j=>?_) (λb o _ _ a e _=>k b o (λz=>a (by simp[z])) e) (λb o _ _ a e _=>%[o.slots|k b o (λz=>a (by simp[z])) e]) (λ_ _ _ _ n=>n)
  (λb o a e=>%[o|k b o (λz=>a (by simp[z])) e]) (λ_ _ e=>e) (λ_ _ _ e=>e) (λb ps e=>%[#[]|by rw[e];simp]) (λm l=>?_) (λb u e=>?_) I.bare
 .let e:=↑j
  subst e;show%[g,f,h|i]
 .let%[o,es,w,y|r]:=l;show%[o,es,w,k _ o (J0 f) y|r]
 .show(I.hok b u e).stay (λc v a q=>k c v ?_ q) (λ_ q=>q) λ_ _ q=>q
  rcases a with z|z
  .show z▸d b u e
  .show d c _ z
def Qc.tok(I:Qc X ij σ H s)(t:iv):Qc X ij σ H {s with toks:=t}:=I.un Un.refl I.hok
def Qc.kept(I:Qc X ij σ H s)(k:∀b u,s.heap.get? b∣u->h'.get? b∣u):Qc X ij σ H {s with heap:=h',toks:=t'}:=I.un (Un.kept k) (I.hok.kept k)
def Qc.laid{a:kw}{o:HO}{t':iv}(I:Qc X ij σ H s)(k:∀b u,s.heap.get? b∣u->h'.get? b∣u)(c:⇑s<=a)(new:bZ X.prog X.w (Qa H a o) h' a o):
 Qc X ij σ (Qa H a o) {s with heap:=h',toks:=t'}:=I.un (Un.laid k c (I.hok.fresh c)) (I.hok.laid k c new)
def Qc.write(I:Qc X ij σ H s)(c:Mut (H x))(d:e=x\/H e∣.own x)(k:∀b u,b≠e->s.heap.get? b∣u->h'.get? b∣u)(a:∃u,h'.get? e∣u)
 (new:bZ X.prog X.w (Qa H x o) h' x o):Qc X ij σ (Qa H x o) {s with heap:=h',toks:=t'}:=I.un (Un.write c d k a) (I.hok.write c d k a new)
def Qc.pins_of(I:Qc X ij σ H s)(h:∀p∈a,s.heap.get? p.1∣p.2/\H p.1=hH/\p.1≠X.env.locals/\p.1∉X.fs/\∀v,p.2.data≠ .cell v):Qc X a σ H s:=
 %[I.ok,I.os,I.bare,I.base,I.loc,I.cell,I.free,I.freeC,λp b=>(Xm b).elim (λz=>I.pin p (Yt _ z)) (h p),I.hok|I.len]
def f9{N:ZB}(c:N.Nodup){i j:iv}{x:kG}(a:N[i]?∣x)(b:N[j]?∣x):i=j:=by
 let%[f|d]:=Xl a;let%[g|e]:=Xl b;show(gN.getElem_inj c).mp (d.trans e.symm)
def Bz{A:vj}{E:ZE}{i:iv}{x:kG}{v:V}{u:jg}{Q:SW->md->Prop}(I:Qc X ij σ H s)(hN:X.N.Nodup)(hi:X.N[i]?∣x)(B:Loc X.env.scope x)(r:aX v u)
 (h:∀s',Qc X ij (σ.set i (hV v)) H s'->(∃a,vu a s.heap s'.heap/\(a=X.env.locals\/X.env.cells.lookup x∣a))->Q () s') (hf:X.fn x=hX\/X.env.scope.names.lookup x∣.local):tI M A (storeName X.env x u) Q E s:=by
 let%[m,hn|hl]:=id I.loc;let J:i<σ.length:=I.len▸(Xl hi).1;let cne:=I.cne;let g:∀{a:kw} {h':yc},(∃o,s.heap.get? a∣o/\H a=hH)->vu a s.heap h'->HOk X.prog X.w H h':=λ{a h'} ha f b ob e=>by
  let%[_,_|C]:=ha;show(I.hok b ob e).stay (λc w' w q=>(f.2 c ?_).trans q) (λ_ q=>q) λ_ _ q=>q
  rintro rfl;rcases w with rfl|w
  .rw[C]at e;cases e
  .rw[C]at w;cases w
 rcases B with L|L
 .show wpAny_storeName_local L hn (λh' ae f=>?_) (by rw[I.ok.kind];rfl);let%[oL,_,_,ag|_]:=id hn;show h _ %[I.ok,I.os,I.bare,%[λb o e n N B=>?_,λb o e n N B=>?_,I.base.free,λb o e B=>?_,I.base.tups,I.base.frzs|I.base.tbls],%[_,ae|λj y v' l G e3=>?_],λy c e=>?_,I.free,I.freeC,λp hp=>?_,g %[oL,ag|I.free] f|by simpa using I.len] %[_,f|.inl rfl]
  .show(f.2 b (Zs (Zg (Zu e) I.ok.above))).trans (I.base.keep b o e n N B)
  .let%[sl|l]:=I.base.slot b o e n N B;show%[sl|(f.2 b (Zs (Zg (Zu e) I.ok.above))).trans l]
  .let%[o'|l]:=I.base.there b o e B;show%[o'|(f.2 b (Zs (Zg (Zu e) I.ok.above))).trans l]
  .by_cases O:j=i
   .subst O;rw[hi]at l;cases l;rw[TZ J]at G;cases G;show%[u,r|.inl %[L|by simp]]
   .rw[Ri (J0 O)]at G;let%[u',r'|q]:=hl j y v' l G e3;show%[u',r'|?_];rcases q with⟨k,e⟩|⟨k,c,e,z⟩
    .show .inl %[k|?_];let:y≠x:=λe=>O (f9 hN l (e▸hi))
     simp[this,e]
    .show .inr %[k,c,e|z.sameBut f (cne y c e)]
  .let%[w'|z]:=I.cell y c e;show%[w'|z.sameBut f (cne y c e)]
  .let%[e,n,ne,nf|d]:=I.pin p hp;show%[(f.2 p.1 ne).trans e,n,ne,nf|d]
 .let T:X.fn x=hX:=by
   rcases hf with z|z
   .show z
   .rw[z]at L;cases L
  let%[c|w]:=I.ok.has x (.inl L);let%[w'|z]:=I.cell x c w;show wpAny_storeName_cell I.ok.kind L w z (λh' U f=>?_);let%[oc,Y|ab]:=id z;show h _ %[I.ok,I.os,I.bare,%[λb o e n N B=>?_,λb o e n N B=>?_,I.base.free,λb o e B=>?_,I.base.tups,I.base.frzs|I.base.tbls],%[m,hn.sameBut f (J0 (cne x c w))|λj y v' l G e3=>?_],λy c' e=>?_,I.free,I.freeC,λp hp=>?_,g %[oc,Y|I.freeC x c w] f|by simpa using I.len] %[c,f|.inr w]
  .show(f.2 b (Zs (Zg (Zu e) (I.ok.cab x c T w)))).trans (I.base.keep b o e n N B)
  .let%[sl|l]:=I.base.slot b o e n N B;show%[sl|(f.2 b (Zs (Zg (Zu e) (I.ok.cab x c T w)))).trans l]
  .let%[o'|l]:=I.base.there b o e B;show%[o'|(f.2 b (Zs (Zg (Zu e) (I.ok.cab x c T w)))).trans l]
  .by_cases O:j=i
   .subst O;rw[hi]at l;cases l;rw[TZ J]at G;cases G;show%[u,r|.inr %[.inl L,c,w|U]]
   .rw[Ri (J0 O)]at G;let%[u',r'|q]:=hl j y v' l G e3;show%[u',r'|?_];rcases q with q|⟨k,c',e,z'⟩
    .show .inl q
    .show .inr %[k,c',e|z'.sameBut f ?_];rintro rfl;show O (f9 hN l (I.ok.inj _ _ _ e w▸hi))
  .by_cases ac:c'=c
   .subst ac;show%[_|U]
   .let%[w2|z2]:=I.cell y c' e;show%[w2|z2.sameBut f ac]
  .let%[e,n,ne,nf|d]:=I.pin p hp;show%[(f.2 p.1 ?_).trans e,n,ne,nf|d];intro q;rw[q,Y]at e;show d w' ((Za e)▸ab)
def lH(I:Qc X ij σ H s)(a:X.N.Nodup)(hi:X.N[i]?∣x)(b:Loc X.env.scope x)(r:aX v u)
 (h:∀s',Qc X ij (σ.set i (hV v)) H s'->Q () s') (c:X.fn x=hX\/X.env.scope.names.lookup x∣.local):tI M A (storeName X.env x u) Q E s:=
 Bz I a hi b r (λs' d _=>h s' d) c
def Qc.call'(I:Qc X ij σ H s)(e:s'.os=s.os)(u:Un (frs X.stack) ch H H' s.heap s'.heap)(a:HOk X.prog X.w H' s'.heap)(f:QY s'.gens)
 (d:∀b∈ch,(b∈X.ex\/X.s₀.heap.objs.size<=b)/\b≠X.env.locals/\(∀x c,X.env.cells.lookup x∣c->c≠b)/\∀p∈X.pn++ij,p.1≠b):Qc X ij σ H' s':=by
 let%[h',g,h,t'|i]:=s';subst e;show I.call u a f d
end
noncomputable abbrev XK:=jg->ZJ->Hp->Prop
noncomputable abbrev St:=gN (lx V)
noncomputable abbrev VK:=V->Hp->Prop
noncomputable abbrev TE:=St->Hp->VK->Prop
noncomputable abbrev TT:=St->Hp->(re->Hp->Prop)->Prop
noncomputable abbrev TA:=St->Hp->(gN V->Hp->Prop)->Prop
structure iU where
 nx:St->Hp->Prop
 rt:VK
 bk:St->Hp->Prop:=λ_ _=>MO
 ct:St->Hp->Prop:=λ_ _=>MO
noncomputable abbrev TS:=iU->St->Hp->Prop
abbrev EP(X:Cx)(ij:ZF)(b:St)(Q:VK)(u:jg)(s':md):Prop:=∃v a,Qc X ij b a s'/\aX v u/\Q v a
abbrev TP(X:Cx)(ij:ZF)(c:St)(Q:re->Hp->Prop)(b:re)(s':md):Prop:=∃a,Qc X ij c a s'/\Q b a
abbrev AP(X:Cx)(ij:ZF)(b:St)(Q:gN V->Hp->Prop)(us:ZG)(s':md):Prop:=∃vs a,Qc X ij b a s'/\aN vs us/\Q vs a
abbrev SP(X:Cx)(ij:ZF)(D:iU)(f:Flow)(s':md):Prop:=
 match f with
 | .next=>∃a b,Qc X ij a b s'/\D.nx a b
 | .brk=>∃a b,Qc X ij a b s'/\D.bk a b
 | .cont=>∃a b,Qc X ij a b s'/\D.ct a b
 | .ret u=>∃v a b,Qc X ij a b s'/\aX v u/\D.rt v b
abbrev PE(X:Cx)(e:zr)(t:TE):Prop:=
 ∀ij s (a:St) H Q,Qc X ij a H s->t a H Q->(X⁻¹) (Nk e X.env) (EP X ij a Q) X.xe s
abbrev PT(X:Cx)(e:zr)(t:TT):Prop:=
 ∀ij s (a:St) H Q,Qc X ij a H s->t a H Q->(X⁻¹) (Th e X.env (Nk e X.env)) (TP X ij a Q) X.xe s
abbrev PW(X:Cx)(e:zr)(t:TT):Prop:=
 ∀a ij s (b:St) H Q,Qc X ij b H s->t b H Q->(X⁻¹) (Th e X.env a) (TP X ij b Q) X.xe s
def PW.pt{X:Cx}(h:PW X e t):PT X e t:=h _
abbrev PA(X:Cx)(es:gN zr)(t:TA):Prop:=
 ∀pos ij s (a:St) H Q,Qc X ij a H s->t a H Q->(X⁻¹) (spliced (NP pos (vi es X.env))) (AP X ij a Q) X.xe s
abbrev PS(X:Cx)(st:Ds)(t:TS):Prop:=
 ∀ij s (a:St) H D,Qc X ij a H s->t D a H->(X⁻¹) (exec st X.env) (SP X ij D) X.xe s
abbrev PSs(X:Cx)(st:gN Ds)(t:TS):Prop:=
 ∀ij s (a:St) H D,Qc X ij a H s->t D a H->(X⁻¹) (execs st X.env) (SP X ij D) X.xe s
def thn{b:Type}{t:Sem b}{Q c:b->md->Prop}{M:Model}{A:vj}{E:ZE}{s:md}(h:tI M A t Q E s)(d:∀a s,Q a s->c a s):tI M A t c E s:=MZ h d λ_ _ x=>x
def thP{c d:Type}{t:Sem c}{X:Cx}{ij:ZF}{e:St}{R:d->c->Prop}{Q:d->Hp->Prop}{f:c->md->Prop}{M:Model}{A:vj}{E:ZE}{s:md}(h:tI M A t (λa s=>∃v b,Qc X ij e b s/\R v a/\Q v b) E s)(g:∀a s v b,Qc X ij e b s->R v a->Q v b->f a s):tI M A t f E s:=MZ h (λa s %[v,b,i,r|q]=>g a s v b i r q) λ_ _ x=>x
def thT{c:Type}{t:Sem c}{X:Cx}{ij:ZF}{d:St}{Q:c->Hp->Prop}{e:c->md->Prop}{M:Model}{A:vj}{E:ZE}{s:md}(h:tI M A t (λa s=>∃b,Qc X ij d b s/\Q a b) E s)(f:∀a s b,Qc X ij d b s->Q a b->e a s):tI M A t e E s:=MZ h (λa s %[b,i|q]=>f a s b i q) λ_ _ x=>x
section
variable{X:Cx}
abbrev asI(x:V)(f:on->Prop):Prop:=match x with| .int i=>f i|_=>MO
abbrev asB(x:V)(f:re->Prop):Prop:=match x with| .bl i=>f i|_=>MO
abbrev asR(x:V)(f:kw->Prop):Prop:=match x with| .ref i=>f i|_=>MO
def Lf:asI (.int i) f=f i:=rfl
def Lg:asB (.bl i) f=f i:=rfl
def Lh:asR (.ref i) f=f i:=rfl
def dA{x:V}{f:on->Prop}(h:asI x f):∃i,x= .int i/\f i:=by
 cases x<;> first|show%[_,rfl|h]|show h.elim
def pB{x:V}{f:re->Prop}(h:asB x f):∃i,x= .bl i/\f i:=by
 cases x<;> first|show%[_,rfl|h]|show h.elim
def aO{x:V}{f:kw->Prop}(h:asR x f):∃i,x= .ref i/\f i:=by
 cases x<;> first|show%[_,rfl|h]|show h.elim
abbrev asS(x:V)(f:kG->Prop):Prop:=match x with| .str i=>f i|_=>MO
def Li:asS (.str i) f=f i:=rfl
def d8{x:V}{f:kG->Prop}(h:asS x f):∃i,x= .str i/\f i:=by
 cases x<;> first|show%[_,rfl|h]|show h.elim
abbrev cL(xs:gN V)(f:V->Prop):Prop:=match xs with|[x]=>f x|_=>MO
def IM:cL [x] f=f x:=rfl
def bC{xs:gN V}{f:V->Prop}(h:cL xs f):∃x,xs=[x]/\f x:=by
 rcases xs with _|⟨x,_|⟨y,r⟩⟩<;> first|show%[_,rfl|h]|show h.elim
abbrev lI(xs:gN V)(f:V->V->Prop):Prop:=match xs with|[x,y]=>f x y|_=>MO
def IP:lI [x,y] f=f x y:=rfl
def iV{xs:gN V}{f:V->V->Prop}(h:lI xs f):∃x y,xs=[x,y]/\f x y:=by
 rcases xs with _|⟨x,_|⟨y,_|⟨z,r⟩⟩⟩<;> first|show%[_,_,rfl|h]|show h.elim
abbrev Gc(xs:gN V)(p:Prop):Prop:=match xs with|[]=>p|_=>MO
def IQ:Gc [] p=p:=rfl
def C0{xs:gN V}{p:Prop}(h:Gc xs p):xs=[]/\p:=by
 cases xs<;> first|show%[rfl|h]|show h.elim
abbrev mX:iv->TE
 | 0,hV v::_,H,Q=>Q v H
 | i+1,_::a,H,Q=>mX i a H Q
 | _,_,_,_=>MO
def IR:mX 0 (hV v::a) H Q=Q v H:=rfl
def IS:mX (i+1) (o::a) H Q=mX i a H Q:=rfl
def yH:∀{i:iv} {a:St},mX i a H Q->∃v,a[i]?∣hV v/\Q v H
 | 0,hV v::_,h=>%[v,rfl|h]
 | 0,hH::_,h=>h.elim
 | 0,[],h=>h.elim
 | _+1,[],h=>h.elim
 | i+1,_::a,h=>yH (i:=i) h
abbrev tC(v:V):TE:=λ_ H Q=>Q v H
def C1(j:X.N[i]?∣x)(n:Vis X.env.scope x)(d:(x==("__debug__":kG))=hY)(f:(x==("__classdict__":kG))=hY):PE X (.Name x pos) (mX i):=by
 intro ij s o H Q I h;let%[v,e|h]:=yH h;let%[m,p|q]:=I.loc;let%[u,r|l]:=q i x v j e n;let fin:EP X ij o Q u s:=%[v,H,I,r|h]
 rcases l with⟨b,w⟩|⟨b,c,g,a⟩
 .show Wk (wpAny_loadName_local I.ok.kind b p w fin) d
 .rcases b with b|b
  .show Wk (wpAny_loadName_cell I.ok.kind b g a fin) d
  .show Wk (wpAny_loadName_free I.ok.kind b g a fin f) d
def IT{i j pos}:PE X (.Constant (.int i) j pos) (tC (.int i)):=λ_ _ _ H _ I h=>wpAny_Constant_int %[.int i,H,I.tok _,%[_|rfl]|h]
def Lj{b j pos}:PE X (.Constant (.bool b) j pos) (tC (.bl b)):=λ_ _ _ H _ I h=>Constant_bool %[.bl b,H,I,rfl|h]
def IU{j pos}:PE X (.Constant .none j pos) (tC .non):=λ_ _ _ H _ I h=>Constant_none %[.non,H,I,rfl|h]
def IV{x j pos}:PE X (.Constant (.str x) j pos) (tC (.str x)):=λ_ _ _ H _ I h=>Calls.Constant_str %[.str x,H,I.tok _,%[_|rfl]|h]
abbrev Gl(X:Cx)(x:kG):Prop:=X.env.kindOf x∣.globalImplicit
def iW(I:Qc X ij d H s)(a:Gl X x)(b:X.mg x∣u)(h:Q u s)
 (c:(x==("__debug__":kG))=hY):(X⁻¹) (Nk (.Name x pos) X.env) Q E s:=
 S6 I.ok.kind a (Calls.loadGlobal_global (I.ok.glob▸I.mod.glob.keeps I.bk) b h) c
def iX(I:Qc X ij i H s)(a:Gl X x)(b:X.mg x=hH)(c:ND x∣u)(h:Q u s)
 (d:x≠"__name__":=by decide) (e:(x==("__debug__":kG))=hY:=by decide):(X⁻¹) (Nk (.Name x pos) X.env) Q E s:=by
 let%[j,f|g]:=I.mod.blt;show S6 I.ok.kind a (Calls.loadGlobal_builtin (I.ok.glob▸I.mod.glob.keeps I.bk) b (I.ok.blt▸f.keeps I.bk) ((g x d).trans c) h) e
def Gd(a:Gl X x)(b:X.mg x∣u)(r:aX v u)(c:(x==("__debug__":kG))=hY):PE X (.Name x pos) (tC v):=
 λ_ _ _ H _ I h=>iW I a b %[v,H,I,r|h] c
def Ge(a:Gl X x)(b:X.mg x=hH)(c:ND x∣u)(r:aX v u)(d:x≠"__name__")(e:(x==("__debug__":kG))=hY):PE X (.Name x pos) (tC v):=
 λ_ _ _ H _ I h=>iX I a b c %[v,H,I,r|h] d e
variable{a b:zr}{ta tb:TE}{pos:Pos}
abbrev PC(X:Cx)(op:S5)(a b:zr)(t:TE):Prop:=
 ∀ij s (e:St) H Q,Qc X ij e H s->t e H Q->
  (X⁻¹) (Nk a X.env) (λv c=>(X⁻¹) (Nk b X.env) (λu d=>(X⁻¹) (pw op v u) (EP X ij e Q) X.xe d) X.xe c) X.xe s
def Lk(b:zr)(h:op≠ .In)(e:op≠ .NotIn):Nl op b=hY:=by
 let c:(op==S5.In)=hY:=by lia
 let d:(op==W3)=hY:=by lia
 cases b<;> simp[Nl,c,d]
abbrev tB(t:TE):TT:=λd H Q=>t d H λx e=>asB x λc=>Q c e
def IW(h:PC X op a b t)(c:Nl op b=hY):PE X (.Compare a [op] [b] pos) t:=λij s d H Q I hw=>wpAny_Compare1 (h ij s d H Q I hw) c
def C2{op:S5}(h:PC X op a b t)(e:Nl op b=hY):PT X (.Compare a [op] [b] pos) (tB t):=by
 intro ij s f H Q I hw;show Vq (thn (h ij s f H _ I hw) λv n e=>thn e λu o g=>thn g λc p %[x,i,j,l|m]=>?_) e;let%[d,rfl|q]:=pB m;cases l;show Nq %[i,j|q]
variable{tA tB':TT}{rest:gN zr}
abbrev Gf(t u:TT):TT:=λd H Q=>t d H λc e=>if c=hX then u d e Q else Q hY e
abbrev tOr(t u:TT):TT:=λd H Q=>t d H λc e=>if c=hX then Q hX e else u d e Q
abbrev IX(t:TT):TT:=λd H Q=>t d H λc e=>Q (!c) e
def Gg(d:PT X a tA):PW X (.BoolOp .And [a] pos) tA:=by
 intro g ij s f H Q I h;show isTrue_and (thn (d ij s f H Q I h) λc i e=>?_);cases c with
 | true=>show isTrue_and_nil e
 | false=>show e
def IY(d:PT X a tA):PW X (.BoolOp .Or [a] pos) tA:=by
 intro g ij s f H Q I h;show isTrue_or (thn (d ij s f H Q I h) λc i e=>?_);cases c with
 | false=>show isTrue_or_nil e
 | true=>show e
def IZ(i:PT X a tA)(j:PW X (.BoolOp .And (b::rest) pos) tB'):PW X (.BoolOp .And (a::b::rest) pos) (Gf tA tB'):=by
 intro l ij s d H Q I h;show isTrue_and (thT (i ij s d H _ I h) λc m e f g=>?_);cases c with
 | true=>show j l ij m d e Q f g
 | false=>show%[e,f|g]
def Lp(i:PT X a tA)(j:PW X (.BoolOp .Or (b::rest) pos) tB'):PW X (.BoolOp .Or (a::b::rest) pos) (tOr tA tB'):=by
 intro l ij s d H Q I h;show isTrue_or (thT (i ij s d H _ I h) λc m e f g=>?_);cases c with
 | true=>show%[e,f|g]
 | false=>show j l ij m d e Q f g
def Ja(c:PT X a tA):PT X (.UnaryOp .Not a pos) (IX tA):=by
 intro ij s d H Q I h;show isTrue_not (c ij s d H _ I h)
abbrev C3(ta tb:TE):TE:=λd H Q=>ta d H λx e=>asB x λc=>if c=hX then tb d e Q else Q (.bl hY) e
abbrev Jb(ta tb:TE):TE:=λd H Q=>ta d H λx e=>asB x λc=>if c=hX then Q (.bl hX) e else tb d e Q
def Jc{op}(h:PE X a t):PE X (.BoolOp op [a] pos) t:=λij s c H Q I hw=>BoolOp_one (h ij s c H Q I hw)
def Jd(i:PE X a ta)(j:PE X (.BoolOp .And (b::rest) pos) tb):PE X (.BoolOp .And (a::b::rest) pos) (C3 ta tb):=by
 intro ij s e H Q I h;show BoolOp_and (thP (i ij s e H _ I h) λv l x f g m d=>?_);let%[c,rfl|d]:=pB d;cases m;show Nq ?_;cases c with
 | true=>show j ij l e f Q g d
 | false=>show%[.bl hY,f,g,ρ|d]
def Lq(i:PE X a ta)(j:PE X (.BoolOp .Or (b::rest) pos) tb):PE X (.BoolOp .Or (a::b::rest) pos) (Jb ta tb):=by
 intro ij s e H Q I h;show BoolOp_or (thP (i ij s e H _ I h) λv l x f g m d=>?_);let%[c,rfl|d]:=pB d;cases m;show Nq ?_;cases c with
 | false=>show j ij l e f Q g d
 | true=>show%[.bl hX,f,g,ρ|d]
end
abbrev Qb(K:ZA)(H:Hp)(a:kw)(xs:gN V):Prop:=
 Rd H a (.lst xs)\/
  ∃o its n,K.lookup a∣o/\o.cls= .type "list"/\o.dict=hH/\o.data= .seq its n/\its.size<=lX/\aN xs its.toList
abbrev SqT(K:ZA)(H:Hp)(a:kw)(xs:gN V):Prop:=
 Rd H a (.tup xs)\/
  ∃o its n,K.lookup a∣o/\o.cls= .type "tuple"/\o.data= .seq its n/\its.size<=lX/\aN xs its.toList
abbrev absV:jg->lx V
 | .none=>hV .non
 | .bool b=>hV (.bl b)
 | .int i _=>hV (.int i)
 | .str x _=>hV (.str x)
 | .bytes b _=>hV (.byt b)
 | .float b _=>hV (.flt b)
 | .ref a=>hV (.ref a)
 | .type n=>hV (.ty n)
 | _=>hH
def aX.abs(r:aX x u):absV u∣x:=by
 cases x with
 | non=>cases r;rfl
 | bl _=>cases r;rfl
 | int _=>have%[t|rfl]:=r;rfl
 | str _=>have%[t|rfl]:=r;rfl
 | byt _=>have%[t|rfl]:=r;rfl
 | flt _=>have%[t|rfl]:=r;rfl
 | ref _=>cases r;rfl
 | ty _=>cases r;rfl
def aX.inj(r:aX x u)(q:aX y u):x=y:=Za (r.abs.symm.trans q.abs)
def aN.inj:∀{xs ys:gN V} {us:ZG},aN xs us->aN ys us->xs=ys
 | _,_,_,.nil,.nil=>rfl
 | _,_,_,.cons r t,.cons a t'=>by rw[r.inj a,aN.inj t t']
section
#version
variable{a:kw}{xs ys:gN V}
def Qb.of{K:ZA}(h:H a<*xs):Qb K H a xs:= .inl (.inl h)
def SqT.of{K:ZA}(h:H a&&&xs):SqT K H a xs:= .inl (.inl h)
def Qc.list(I:Qc X ij σ H s)(h:Qb X.K H a xs):∃its:ZG,aN xs its/\PlainL s.heap a its.toArray/\ ~~~xs<=lX:=by
 rcases h with h|⟨o,its,n,b,c,d,f,g,r⟩
 .let%[z,its,n,r|e]:=h.ok I.hok;show%[its,r,%[_,n,e,ρ,ρ|ρ]|z]
 .show%[its.toList,r,%[o,n,I.kIn a o b,c,d|f]|?_];let e:= ~~~r
  simp_all
def Qc.tuple(I:Qc X ij σ H s)(h:SqT X.K H a xs):∃its:ZG,aN xs its/\IsTup s.heap a its.toArray/\ ~~~xs<=lX:=by
 rcases h with h|⟨o,its,n,b,c,d,f,r⟩
 .let%[z,its,r|p]:=h.ok I.hok;show%[its,r,p|z]
 .show%[its.toList,r,%[o,I.kIn a o b,c,n|d]|?_];let e:= ~~~r;simp only[Zb]at e
  lia
def Qc.list_inj(I:Qc X ij σ H s)(h:Qb X.K H a xs)(h':Qb X.K H a ys):xs=ys:=by
 let%[its,r,%[o,n,e,_,_|d]|_]:=I.list h;let%[its',f,%[i,j,b,_,_|c]|_]:=I.list h';rw[e]at b;cases b;rw[d]at c;injection c with g _
 let:=rM WJ g;subst this;show r.inj f
def Qc.tuple_inj(I:Qc X ij σ H s)(h:SqT X.K H a xs)(h':SqT X.K H a ys):xs=ys:=by
 let%[its,r,%[o,e,_,n|d]|_]:=I.tuple h;let%[its',f,%[i,b,_,j|c]|_]:=I.tuple h';rw[e]at b;cases b;rw[d]at c;injection c with g _
 let:=rM WJ g;subst this;show r.inj f
end
noncomputable abbrev Cx.wish(X:Cx)(E:ZE):Cx:={X with xe:=E}
noncomputable abbrev Cx.nox(X:Cx):Cx:=X.wish λ_ _=>MO
def Cx.Ok.wish{X:Cx}(ok:X.Ok)(E:ZE):(X.wish E).Ok:=
 %[ok.mod,ok.kind,ok.glob,ok.blt,ok.above,ok.inj,ok.has,ok.cab,ok.hd,ok.frames,ok.stk,ok.exf,ok.bs,ok.bsz,ok.noex,ok.exfs,ok.funs|ok.frf]
def Cx.Ok.unwish{X:Cx}{E:ZE}(ok:(X.wish E).Ok):X.Ok:=
 %[ok.mod,ok.kind,ok.glob,ok.blt,ok.above,ok.inj,ok.has,ok.cab,ok.hd,ok.frames,ok.stk,ok.exf,ok.bs,ok.bsz,ok.noex,ok.exfs,ok.funs|ok.frf]
section
#version
variable{E:ZE}
def Qc.wish(I:Qc X ij σ H s)(E:ZE):Qc (X.wish E) ij σ H s:=%[I.ok.wish E,I.os,I.bare,I.base,I.loc,I.cell,I.free,I.freeC,I.pin,I.hok|I.len]
def Qc.unwish(I:Qc (X.wish E) ij σ H s):Qc X ij σ H s:=%[I.ok.unwish,I.os,I.bare,I.base,I.loc,I.cell,I.free,I.freeC,I.pin,I.hok|I.len]
def SP.unwish{D:iU}{f:Flow}{s':md}(h:SP (X.wish E) ij D f s'):SP X ij D f s':=by
 cases f with
 | next=>have%[a,b,I|q]:=h;show%[a,b,I.unwish|q]
 | brk=>have%[a,b,I|q]:=h;show%[a,b,I.unwish|q]
 | cont=>have%[a,b,I|q]:=h;show%[a,b,I.unwish|q]
 | ret u=>have%[v,a,b,I,r|q]:=h;show%[v,a,b,I.unwish,r|q]
def PSs.nox{st:gN Ds}(h:PSs X.nox st t):PSs X st t:=λij s σ H D I hw=>
 MZ (h ij s σ H D (I.wish _) hw) (λ_ _ q=>q.unwish) λ_ _ z=>M7 z
end
section
variable{X:Cx}{st:Ds}{rest:gN Ds}{t u:TS}{e:zr}{te:TE}{pos:Pos}
abbrev C4:TS:=λD a H=>D.nx a H
abbrev aV(t u:TS):TS:=λD a H=>t {D with nx:=u D} a H
def Gh:PSs X [] C4:=λ_ _ a H _ I h=>OR %[a,H,I|h]
def C5(b:PS X st t)(c:PSs X rest u):PSs X (st::rest) (aV t u):=by
 intro ij s d H D I h;show W8 (thn (b ij s d H _ I h) λf g q=>?_);cases f with
 | next=>
   let%[a,i,j|q]:=q;show c ij g a i D j q
 | ret v=>show q
 | brk=>show q
 | cont=>show q
def Gi(a:PS X st t):PSs X [st] t:=by
 intro ij s b H D I h;show W8 (thn (a ij s b H D I h) λf c q=>?_);cases f with
 | next=>show OR q
 | ret v=>show q
 | brk=>show q
 | cont=>show q
def Qc.quiet{ij:gN _}{a:St}{H:Hp}{s:md}(I:Qc X ij a H s):interactive X.env=hY:=by simp[interactive,I.ok.kind]
abbrev nP(te:TE):TS:=λD a H=>te a H λ_ b=>D.nx a b
def Gj(b:PE X e te)(c:Pb e hH pos.line X.env=pure hY):PS X (.Expr e pos) (nP te):=by
 intro ij s a H D I h;show wpAny_Expr_any (thP (b ij s a H _ I h) λv i x d f j g=>%[a,d,f|g]) I.quiet c
abbrev iY(te:TE):TS:=λD a H=>te a H D.rt
def Je(b:PE X e te):PS X (.Return (hV e) pos) (iY te):=by
 intro ij s a H D I h;show wpAny_Return_some (thP (b ij s a H _ I h) λv i x c d f g=>%[x,a,c,d,f|g])
abbrev lJ(c:TT)(t u:TS):TS:=λD a H=>c a H λb d=>if b=hX then t D a d else u D a d
def Lr{c:zr}{a b:gN Ds}(m:PT X c n)(o:PSs X a t)(p:PSs X b u):PS X (.If c a b pos) (lJ n t u):=by
 intro ij s f H D I h;show wpAny_If (thT (m ij s f H _ I h) λd g i j l=>?_);cases d with
 | true=>show o ij g f i D j l
 | false=>show p ij g f i D j l
abbrev uS:TS:=λ_ _ _=>MO
def C6:PS X st uS:=λ_ _ _ _ _ _ h=>h.elim
def BA:PSs X a uS:=λ_ _ _ _ _ _ h=>h.elim
end
noncomputable abbrev TG:=V->St->Hp->(St->Hp->Prop)->Prop
noncomputable abbrev TGs:=gN V->St->Hp->(St->Hp->Prop)->Prop
abbrev PG(X:Cx)(a:zr)(t:TG):Prop:=
 ∀ij s (c:St) H v u Q,Qc X ij c H s->aX v u->t v c H Q->
  (X⁻¹) (assign a X.env u) (λ_ s'=>∃b d,Qc X ij b d s'/\Q b d) X.xe s
abbrev PGs(X:Cx)(ts:gN zr)(t:TGs):Prop:=
 ∀ij s (b:St) H vs us Q,Qc X ij b H s->aN vs us->t vs b H Q->
  (X⁻¹) (assignInOrder ((Om ts X.env)\2) us) (λ_ s'=>∃a c,Qc X ij a c s'/\Q a c) X.xe s
section
variable{X:Cx}{pos:Pos}
abbrev lK(i:iv):TG:=λv a H Q=>Q (a.set i (hV v)) H
def Gk(a:X.N.Nodup)(hi:X.N[i]?∣x)(b:Loc X.env.scope x)(c:X.fn x=hX\/X.env.scope.names.lookup x∣.local):PG X (.Name x pos) (lK i):=by
 intro ij s e H v u Q I r h;show WO (lH I a hi b r (λs' d=>%[_,H,d|h]) c)
abbrev Jf:TGs:=λvs a H Q=>vs=[]/\Q a H
abbrev C7(t:TG)(u:TGs):TGs:=λvs b H Q=>∃v r,vs=v::r/\t v b H λa c=>u r a c Q
def Gm:PGs X [] Jf:=by
 intro ij s a H vs us Q I r h;let%[e|h]:=h;show assignInOrder_nil %[a,H,I|h]
def C8{e:zr}{u:TGs}(b:PG X e t)(c:PGs X es u)
 (d:(Om (e::es) X.env)\2=assign e X.env::(Om es X.env)\2):PGs X (e::es) (C7 t u):=by
 intro ij s f H vs us Q I r h;let%[v,n,g|h]:=h;subst g;cases r with
 | cons r rr=>
   rw[d];show assignInOrder_cons (thn (b ij s f H _ _ _ I r h) λ_ i %[a,j,l|m]=>c ij i a j _ _ Q l rr m)
abbrev Gn(K:ZA)(n:iv)(t:TGs):TG:=λv b H Q=>asR v λa=>∃xs,SqT K H a xs/\ ~~~xs=n/\t xs b H Q
def Jg(f:X.calm=hX)(h:PGs X es t)
 (g: ~~~(Om es X.env)=n) (c:(Om es X.env).findIdx? (·.1)=hH):PG X (.Tuple es k pos) (Gn X.K n t):=by
 intro ij s i H v u Q I r hw;let%[a,j,xs,l,m|hw]:=aO hw;clear ‹Gn _ _ _ _ _ _ _›;subst j;cases r;let%[its,d,p|w]:=I.tuple l;show assign_Tuple_tuple (I.ok.hd f) p (by simp[g,<-m,~~~d]) c λh' q=>h ij _ i H xs _ Q (I.kept λb o e=>q b o (Zs (Zu e)) e) (d) hw
abbrev uT(b:TE)(g:TG):TS:=λD a H=>b a H λx c=>g x a c D.nx
def Jh{a e:zr}{g:TG}(c:PE X e d)(f:PG X a g)(i:swapsWithSole [a] e pos.line X.env=pure hY)(hw:swappedStores [a] e X.env=pure hH)
 (j:(Om [a] X.env)\2=[assign a X.env]):PS X (.Assign [a] e pos) (uT d g):=by
 intro ij s b H D I h;show wpAny_Assign_stores (thP (c ij s b H _ I h) λv l x m n o p=>?_) i hw;rw[j];show thn (f ij l b m x v _ n o p) λ_ r q=>q
def Ji{i:iv}{x:kG}{e:zr}(b:X.N.Nodup)(hi:X.N[i]?∣x)(c:Loc X.env.scope x)(d:PE X e f)(g:Pb e (hV (.Name x a)) pos.line X.env=pure hY)(j:X.fn x=hX\/X.env.scope.names.lookup x∣.local):
 PS X (.Assign [.Name x a] e pos) (uT f (lK i)):=by
 intro ij s l H D I h;show wpAny_Assign_Name (thP (d ij s l H _ I h) λv r y m n o p=>lH n b hi c o (λu q=>%[_,m,q|p]) j) g
abbrev C9(c:TT)(h:TS):TS:=λD a H=>∃W:iv->St->Hp->Prop,(∃m,W m a H)/\∀m a H,W m a H->
 c a H λb e=>if b=hX then∃N:St->Hp->Prop,(∀d f,N d f->∃g,g<m/\W g d f)/\h {D with nx:=N,ct:=N,bk:=D.nx} a e else D.nx a e
def Da(w:Qq (Nm X.prog X.w) X.A X.env X.xe)(E:PT X c G)(J:PSs X e L):PS X (.While c e [] pos) (C9 G L):=by
 intro ij s M H D I h;let%[W,%[O|Q]|g]:=h;show wpAny_While (codeAny_whileLoop (λn s'=>∃i y,Qc X ij i y s'/\W n i y) ?_ O %[M,H,I|Q]);intro n T %[d,z,U|Y];show Oq w (thT (E ij T d z _ U (g n d z Y)) λb s2 A B l=>?_);cases b with
 | true=>
   let%[N,C|l]:=l;show Oq w (thn (J ij s2 d A _ B l) λf s3 m=>?_);cases f with
   | next=>
     let%[a,j,o|p]:=m;let%[q,r|u]:=C a j p;show%[q,r,a,j,o|u]
   | cont=>
     let%[a,j,o|p]:=m;let%[q,r|u]:=C a j p;show%[q,r,a,j,o|u]
   | brk=>show m
   | ret v=>show m
 | false=>
   show OR %[d,A,B|l]
end
structure It where
 go:iv->Hp->Prop
 yld:iv->Hp->V->Hp->Prop
 stop:iv->Hp->Prop
abbrev mY(X:Cx)(ij:ZF)(H:Hp)(b:kw):Prop:=
 H b=hH/\b≠X.env.locals/\b∉X.fs/\(b∈X.ex\/X.s₀.heap.objs.size<=b)/\(∀x c,X.env.cells.lookup x∣c->c≠b)/\∀p∈X.pn++ij,p.1≠b
def Qc.fpOk{X:Cx}(I:Qc X ij h H s)(a:⇑s<=b)(d:f b=hH):mY X ij f b:=by
 show%[d,Yz (Zg I.lt a),I.nofs a,.inr (nI I.sz a),λx c e z=>?_|λp g z=>?_]
 .let%[v|q]:=I.cell x c e;show n0 (Zg q.lt (z▸a)) (Xj _)
 .show n0 (Zg (Zu (I.pin p g).1) (z▸a)) (Xj _)
structure rR (P:nX) (w:wh) (K:ZA) (tg:zr) (J:It) (fp:gN kw) (it:kw) (tn:iv->yc->Prop):Prop where
 mem:it∈fp
 obj:∀i h,tn i h->∀b∈fp,∃o,h.get? b∣o/\∀v,o.data≠ .cell v
 keep:∀i h h',tn i h->(∀b∈fp,∀o,h.get? b∣o->h'.get? b∣o)->tn i h'
 item:∀(X:Cx),X.prog=P->X.w=w->X.K=K->X.calm=hX->∀i (ij:ZF) s (σ:St) H (E:ZE),Qc X ij σ H s->(∀b∈fp,mY X ij H b)->tn i s.heap->J.go i H->
  tI (Nm P w) X.A (Qz (.ref it)) (λr s1=>∃u,r∣u/\
   tI (Nm P w) X.A (XU tg (.ref it) u) (λ_ s2=>∃x H',Qc X ij σ H' s2/\aX x u/\J.yld i H x H'/\tn (i+1) s2.heap/\∀b∈fp,H' b=hH) E s1) E s
 done:∀X,X.prog=P->X.w=w->X.K=K->X.calm=hX->∀i ij s (σ:St) H E,Qc X ij σ H s->(∀b∈fp,mY X ij H b)->tn i s.heap->J.stop i H->
  tI (Nm P w) X.A (Qz (.ref it)) (λr s1=>r=hH/\Qc X ij σ H s1) E s
 self:∀A i s Q E,tn i s.heap->Q (.ref it) s->tI (Nm P w) A (U9 (.ref it)) Q E s
noncomputable abbrev TI:=St->Hp->(It->Hp->Prop)->Prop
abbrev PIE(X:Cx)(ij:ZF)(g:St)(h:zr)(R:It->Hp->Prop)(a:jg)(d:md):Prop:=
 ∃it e f J c,a= .ref it/\Qc X ij g c d/\rR X.prog X.w X.K h J e it f/\f 0 d.heap/\(∀b∈e,mY X ij c b)/\R J c
abbrev PI(X:Cx)(b iter:zr)(c:TI):Prop:=
 ∀ij s (a:St) H R,Qc X ij a H s->c a H R->
  (X⁻¹) (Nk iter X.env) (λv d=>(X⁻¹) (U9 v) (PIE X ij a b R) X.xe d) X.xe s
def sQ(b:s.heap.get? it∣o)(c:o.cls= .type n)(d:o.data= .fields vs)
 (e:["enumerate","zip","dict_itemiterator","dict_reverseitemiterator","odict_iterator","itertools.zip_longest","itertools.pairwise"].contains n=hY) (a:Q () s):tI M A (XU f (.ref it) u) Q E s:=by
 cases f<;> first
  | show Z3 a
  |(cases u<;> first
   | show Z3 a
   |(show Z2 (T6 b ?_)
     rw[c,d];change tI M A (if(["enumerate","zip","dict_itemiterator","dict_reverseitemiterator","odict_iterator","itertools.zip_longest","itertools.pairwise"].contains n&&vs[0]? ==hV _)=hX then _ else _) Q E s;rw[ku (by intro h;rw[e,O2]at h;cases h)];show Z3 a))
abbrev Itl(K:ZA)(a:kw):It:=
 %[λi H=>∃xs x,Qb K H a xs/\xs[i]?∣x,λi H x b=>b=H/\∀xs,Qb K H a xs->xs[i]?∣x|λi H=>∃xs,Qb K H a xs/\ ~~~xs<=i]
abbrev Itt(K:ZA)(a:kw):It:=
 %[λi H=>∃xs x,SqT K H a xs/\xs[i]?∣x,λi H x b=>b=H/\∀xs,SqT K H a xs->xs[i]?∣x|λi H=>∃xs,SqT K H a xs/\ ~~~xs<=i]
abbrev Itr(lo:on)(n:iv):It:=%[λi _=>i<n,λi H x a=>a=H/\x= .int (lo+i)|λi _=>n<=i]
def sS{P:nX}{K:ZA}(a it:kw):rR P w K tg (Itl K a) [it] it (λi h=>h.IsListIter it a i) where
 mem:=by simp
 obj:=λi h st b hb=>by
  let e:=↑hb
  subst e;let%[o,e,c|d]:=st;show%[o,e|λv z=>by rw[d]at z;cases z]
 keep:=λi h h' st k=>st.at λo e=>k it ∅ o e
 item:=by
  intro X hP hw hK hc i ij s σ H E I hf st hg;subst hP hw hK;let%[xs,x,hq|hx]:=hg;let%[its,rv,p|hz]:=I.list hq;let%[u,hu|ru]:=rv.get hx;let%[f0,f1,f2,f3,f4|f5]:=hf it ∅;show wpAny_pyNext_list_item st p.isList ↑hu λh' st' sb=>?_
  let%[o,e,c|d]:=id st';show%[u,ρ|sQ e c d (!1) %[x,H,(I.turned (λb o hb e=>(sb.2 b hb).trans e) f0 f1 f3 f4 f5),ru,%[ρ|λys hy=>(I.list_inj hy hq)▸hx],st'|λb hb=>(hf b hb).1]]
 done:=by
  intro X hP hw hK hc i ij s σ H E I hf st hg;subst hP hw hK;let%[xs,hq|hx]:=hg;let%[its,rv,p|hz]:=I.list hq;let%[f0,f1,f2,f3,f4|f5]:=hf it ∅;let hl:= ~~~rv;show wpAny_pyNext_list_end (I.ok.hd hc) st p.isList (by simp;lia) λh' eb=>%[rfl|I.turned (λb o hb e=>eb b o hb e) f0 f1 f3 f4 f5]
 self:=λ_ _ _ _ _ st h=>wpAny_pyIter_listiter st h
def yJ{P:nX}{K:ZA}(a it:kw):rR P w K tg (Itt K a) [it] it (λi h=>h.IsTupleIter it a i) where
 mem:=by simp
 obj:=λi h st b hb=>by
  let e:=↑hb
  subst e;let%[o,e,c|d]:=st;show%[o,e|λv z=>by rw[d]at z;cases z]
 keep:=λi h h' st k=>st.at λo e=>k it ∅ o e
 item:=by
  intro X hP hw hK hc i ij s σ H E I hf st hg;subst hP hw hK;let%[xs,x,hq|hx]:=hg;let%[its,rv,p|hz]:=I.tuple hq;let%[u,hu|ru]:=rv.get hx;let%[f0,f1,f2,f3,f4|f5]:=hf it ∅;show wpAny_pyNext_tuple_item st (p) ↑hu λh' st' sb=>?_
  let%[o,e,c|d]:=id st';show%[u,ρ|sQ e c d (!1) %[x,H,(I.turned (λb o hb e=>(sb.2 b hb).trans e) f0 f1 f3 f4 f5),ru,%[ρ|λys hy=>(I.tuple_inj hy hq)▸hx],st'|λb hb=>(hf b hb).1]]
 done:=by
  intro X hP hw hK hc i ij s σ H E I hf st hg;subst hP hw hK;let%[xs,hq|hx]:=hg;let%[its,rv,p|hz]:=I.tuple hq;let%[f0,f1,f2,f3,f4|f5]:=hf it ∅;let hl:= ~~~rv;show wpAny_pyNext_tuple_end (I.ok.hd hc) st (p) (by simp;lia) λh' eb=>%[rfl|I.turned (λb o hb e=>eb b o hb e) f0 f1 f3 f4 f5]
 self:=λ_ _ _ _ _ st h=>wpAny_pyIter_tupleiter st h
def yK{P:nX}{K:ZA}(it:kw)(lo:on)(n:iv):rR P w K tg (Itr lo n) [it] it (λi h=>IsRangeIter h it (lo+(i:iv)*1) ((n:on) -(i:iv)) 1) where
 mem:=by simp
 obj:=λi h st b hb=>by
  simp_all
 keep:=λi h h' st k=>k it ∅ _ st
 item:=by
  intro X hP hw hK hc i ij s σ H E I hf st hg;subst hP hw hK;let%[f0,f1,f2,f3,f4|f5]:=hf it ∅;show(Tz.range (prog:=X.prog) (w:=X.w) (I.ok.hd hc) it lo 1 n).item i s _ _ hg st λv h' tk hv st' kk=>?_
  let%[t|rfl]:=hv;show%[_,ρ|sQ st' rfl rfl (!1) %[.int _,H,(I.turned (λb o hb e=>kk b o ↑hb e) f0 f1 f3 f4 f5),%[t|?_],%[ρ|ρ],st'|λb hb=>(hf b hb).1]];rw[on.mul_one]
 done:=by
  intro X hP hw hK hc i ij s σ H E I hf st hg;let%[f0,f1,f2,f3,f4|f5]:=hf it ∅;show wpAny_pyNext_range_end (I.ok.hd hc) st (by let:n<=i:=hg;lia) λh' eb=>%[rfl|I.turned (λb o hb e=>eb b o hb e) f0 f1 f3 f4 f5]
 self:=λ_ _ _ _ _ st h=>wpAny_pyIter_rangeiter st h
section
variable{X:Cx}{tg:zr}
def wv{R:It->Hp->Prop}{lo hi:on}(I:Qc X ij c H s)(d: -(2^62)<=lo)(f:lo<2^62)(g: -(2^62)<=hi)(h:hi<2^62)
 (q:R (Itr lo (hi-lo).toNat) H):(X⁻¹) (U9 (.ref ⇑s)) (PIE X ij c tg R) E {s with heap:=s.heap.push {cls:= .type "range",data:= .fields #[.int lo t,.int hi u,.int 1 v]},toks:=tk}:=by
 show wpAny_pyIter_range (IsRange.new ..) (small_one d f g h) ?_;let a:Qc X ij c H {s with heap:=s.heap.push {cls:= .type "range",data:= .fields #[.int lo t,.int hi u,.int 1 v]},toks:=tk}:=I.kept λb o e=>Z7 _ e
 show%[(s.heap.push _).objs.size,[(s.heap.push _).objs.size],_,_,H,ρ,
  a.kept λb o e=>Z7 _ e,yK _ lo _,?_,λb i=>?_|q]
 .let j:lo+((0:iv))*1=lo:=by simp
  let l:(((hi-lo).toNat)) -((0:iv))=XR lo hi 1:=by rw[rangeSize_one];split<;> lia
  rw[j,l];show Zj _ rfl
 .let e:b=(s.heap.push {cls:= .type "range",data:= .fields #[.int lo t,.int hi u,.int 1 v]}).objs.size:=↑i
  subst e;show a.fpOk (Zi _) (a.hok.fresh (Zi _))
abbrev Db(a:TA):TI:=λb H R=>a b H λvs c=>cL vs λd=>asI d λj=> -(2^62)<=j/\j<2^62/\R (Itr 0 j.toNat) c
abbrev Dc(a:TA):TI:=λb H R=>a b H λvs c=>lI vs λd x2=>asI d λi=>asI x2 λj=>(-(2^62)<=i/\i<2^62/\ -(2^62)<=j/\j<2^62)/\R (Itr i (j-i).toNat) c
def BB{a:zr}(e:Gl X "range")(f:X.mg "range"=hH)(g:PA X [a] i)(l:vi [a] X.env=[(hY,Nk a X.env)]):PI X tg (.Call (.Name "range" p) [a] [] pos) (Db i):=by
 intro ij s m H R I h;show Call_ (iX I e f boot_range (Nd (thP (g pos ij s m H _ I h) λus v vs w n o b=>?_) l rfl));let%[y,rfl|c]:=bC b;let%[j,rfl|d]:=dA c;let%[b,u|q]:=d;cases o with
 | cons r rr=>
   cases rr;let%[t|rfl]:=r;show call_range_1 (wv n ⋯ ⋯ b u ↑q)
def BC(l:Gl X "range")(m:X.mg "range"=hH)(n:PA X [a,b] o)(u:vi [a,b] X.env=[(hY,Nk a X.env),(hY,Nk b X.env)])(c:vi [b] X.env=[(hY,Nk b X.env)]):
 PI X tg (.Call (.Name "range" p) [a,b] [] pos) (Dc o):=by
 intro ij s v H R I h;show Call_ (iX I l m boot_range (Nd (thP (n pos ij s v H _ I h) λus E vs G w y d=>?_) (by rw[u,c]) (by rw[c];rfl)));let%[J,x2,rfl|e]:=iV d;let%[i,rfl|f]:=dA e;let%[j,rfl|g]:=dA f;let%[%[d,z,A|B]|q]:=g;cases y with
 | cons r rr=>
   cases rr with
   | cons C rr=>
     cases rr;let%[t|rfl]:=r;let%[t'|rfl]:=C;show call_range_2 (wv w d z A B q)
abbrev ww(f:TI)(g:TG)(h:TS):TS:=λD a H=>f a H λJ j=>∃W:iv->iv->St->Hp->Prop,(∃m,W 0 m a j)/\∀i m a H,W i m a H->
 (J.stop i H/\D.nx a H)\/(J.go i H/\∃N:St->Hp->Prop,(∀b c,N b c->∃e,e<m/\W (i+1) e b c)/\∀x c,J.yld i H x c->g x a c λd l=>h {D with nx:=N,ct:=N,bk:=D.nx} d l)
abbrev uU(a:gN kw)(h:yc):ZF:=a.filterMap λb=>(h.get? b).map λo=>(b,o)
def gh(a:b∈c)(e:h.get? b∣o):(b,o)∈uU c h:=Np.mpr %[b,a|by rw[e];rfl]
def BD(a:p∈uU c h):p.1∈c/\h.get? p.1∣p.2:=by
 let%[b,d|e]:=Np.mp a;cases q:h.get? b with
 | none=>simp_all
 | some o=>
   rw[q]at e;let f:=Za e;subst f;show%[d|q]
def Qc.pinned(I:Qc X ij g H s)(h:∀b∈a,mY X ij H b)(i:∀b∈a,∃o,s.heap.get? b∣o/\∀v,o.data≠ .cell v):Qc X (ij++uU a s.heap) g H s:=
 I.pins_of λp j=>(Xm j).elim (λz=>I.pin p (Yu _ z)) λz=>by
  let%[c|e]:=BD z;let%[l,m,n|_]:=h p.1 c;let%[o,f|d]:=i p.1 c;rw[e]at f;cases f;show%[e,l,m,n|d]
def Qc.unpinned(I:Qc X (ij++pl) a H s):Qc X ij a H s:=I.pins_of λp b=>I.pin p (Yu _ (Yt _ b))
def Jj(B:Qq (Nm X.prog X.w) X.A X.env X.xe)(hc:X.calm=hX)(hi:PI X tg iter wi)(hg:PG X tg g)(c:PSs X C tb)
 (hs:∀x,Pw iter X.env x=pure x):PS X (.For tg iter C [] pos) (ww wi g tb):=by
 intro ij s σ H D I h;show wpAny_For (thn (hi ij s σ H _ I h) λv s1 h1=>thn h1 λae s2 h2=>?_) hs;let%[it,O,tn,J,H2,e,I2,T,U,f2,W,%[m0|w0]|E]:=h2;subst e;let j:∀{y:Hp},(∀b∈O,y b=hH)->∀b∈O,mY X ij y b:=λhn b c=>%[hn b c|(f2 b c).2]
 show codeAny_forLoop_any (λn s'=>∃i l y,Qc X ij l y s'/\tn i s'.heap/\(∀b∈O,y b=hH)/\W i n l y) ?_ m0 %[0,σ,H2,I2,U,λb c=>(f2 b c).1|w0];intro n s3 %[i,p,Q,I3,G,L|w3];rcases E i n p Q w3 with⟨stop,qn⟩|⟨go,N,hN,step⟩
 .show Oq B (thn (T.done X rfl rfl rfl hc i ij s3 p Q X.xe I3 (j L) G stop) λr s4 %[Y|I4]=>?_);subst Y;show OR %[p,Q,I4|qn]
 .show Oq B (thn (T.item X rfl rfl rfl hc i ij s3 p Q X.xe I3 (j L) G go) λr s4 %[u,Y|h4]=>?_);subst Y;show Oq B (thn h4 λ_ s5 %[x,H5,I5,r5,y5,A|ab]=>Oq B (thn (hg _ s5 p H5 x u _ (I5.pinned (j ab) (T.obj _ _ A)) r5 (step x H5 y5)) λ_ s6 %[ac,H6,I6|q6]=>Oq B (thn (c _ s6 ac H6 _ I6 q6) λf s7 z=>?_)));let again:∀{a:St} {q:Hp},Qc X _ a q s7->N a q->∃m,m<n/\∃i l y,Qc X ij l y s7/\tn i s7.heap/\(∀b∈O,y b=hH)/\W i m l y:=λ{a q} w M=>by
   let%[m',hm|w7]:=hN a q M;show%[m',hm,i+1,a,q,w.unpinned,T.keep _ _ _ A λb c o e=>(w.pin _ (Yu _ (Yu _ (gh c e)))).1,λb c=>?_|w7];let%[o,e|d]:=T.obj _ _ A b c;show(w.pin _ (Yu _ (Yu _ (gh c e)))).2.1
  cases f with
  | next=>have%[a,q,w|M]:=z;show again w M
  | cont=>have%[a,q,w|M]:=z;show again w M
  | brk=>have%[a,q,w|z]:=z;show%[a,q,w.unpinned|z]
  | ret v=>have%[x7,a,q,w,r7|z]:=z;show%[x7,a,q,w.unpinned,r7|z]
end
def eW{K:ZA}{g:TG}{l:TS}{D:iU}(Pv:iv->St->Hp->Prop)(o:Pv 0 b H)(r:∀i b H,i<= ~~~xs->Pv i b H->Qb K H a xs)
 (s:∀i x b H,xs[i]?∣x->Pv i b H->g x b H λc h=>l {D with nx:=Pv (i+1),ct:=Pv (i+1),bk:=D.nx} c h) (u:∀b H,Pv xs.length b H->D.nx b H):
 ∃W:iv->iv->St->Hp->Prop,(∃m,W 0 m b H)/\∀i m b H,W i m b H->
  ((Itl K a).stop i H/\D.nx b H)\/((Itl K a).go i H/\∃N:St->Hp->Prop,(∀d f,N d f->∃n,n<m/\W (i+1) n d f)/\∀x f,(Itl K a).yld i H x f->g x b f λc h=>l {D with nx:=N,ct:=N,bk:=D.nx} c h):=by
 show%[λi m b H=>m= ~~~xs-i/\i<= ~~~xs/\Pv i b H,%[~~~xs,by simp,Xe _|o]|?_];intro i m b H %[rfl,hi|p];let q:=r i b H hi p;by_cases j:i< ~~~xs
 .show .inr %[%[xs,xs[i],q|by simp],Pv _,λd f v=>%[~~~xs-(i+1),⋯,rfl,j|v]|λx f y=>?_];let%[e|y]:=y;subst e;show s i x b _ (y xs q) p
 .let e:i= ~~~xs:=by lia
  subst e;show .inl %[%[xs,q|Zi _]|u b H p]
def cz{lo:on}{g:TG}{j:TS}{D:iU}(Pv:iv->St->Hp->Prop)(o:Pv 0 a H)
 (q:∀i a H,i<n->Pv i a H->g (.int (lo+i)) a H λb h=>j {D with nx:=Pv (i+1),ct:=Pv (i+1),bk:=D.nx} b h) (r:∀a H,Pv n a H->D.nx a H):
 ∃W:iv->iv->St->Hp->Prop,(∃m,W 0 m a H)/\∀i m a H,W i m a H->
  ((Itr lo n).stop i H/\D.nx a H)\/((Itr lo n).go i H/\∃N:St->Hp->Prop,(∀c d,N c d->∃l,l<m/\W (i+1) l c d)/\∀x d,(Itr lo n).yld i H x d->g x a d λb h=>j {D with nx:=N,ct:=N,bk:=D.nx} b h):=by
 show%[λi m a H=>m=n-i/\i<=n/\Pv i a H,%[n,by simp,Xe _|o]|?_];intro i m a H %[rfl,hi|p];by_cases f:i<n
 .show .inr %[f,Pv _,λc d s=>%[n-(i+1),⋯,rfl,f|s]|λx d y=>?_];let%[e|y]:=y;subst e y;show q i a _ f p
 .let e:i=n:=by lia
  subst e;show .inl %[Zi _|r a H p]
noncomputable abbrev R2:=V->V->Hp->VK->Prop
abbrev OpR(X:Cx)(f:jg->jg->Sem jg)(r:R2):Prop:=
 ∀ij s (a:St) H x y v u Q,Qc X ij a H s->aX x v->aX y u->r x y H Q->
  (X⁻¹) (f v u) (EP X ij a Q) X.xe s
abbrev UnR(X:Cx)(f:jg->Sem jg)(r:V->Hp->VK->Prop):Prop:=
 ∀ij s (a:St) H x v Q,Qc X ij a H s->aX x v->r x H Q->
  (X⁻¹) (f v) (EP X ij a Q) X.xe s
abbrev cF(X:Cx)(f:jg)(r:gN V->Hp->VK->Prop):Prop:=
 ∀ij s (a:St) H xs us Q,Qc X ij a H s->aN xs us->r xs H Q->
  (X⁻¹) (call f us) (EP X ij a Q) X.xe s
abbrev TruR(X:Cx)(r:V->Hp->(re->Hp->Prop)->Prop):Prop:=
 ∀ij s (a:St) H x v Q,Qc X ij a H s->aX x v->r x H Q->
  (X⁻¹) (U2 v) (TP X ij a Q) X.xe s
abbrev tOp(r:R2)(b c:TE):TE:=λa H Q=>b a H λx d=>c a d λy e=>r x y e Q
abbrev tUn(r:V->Hp->VK->Prop)(a:TE):TE:=λb H Q=>a b H λx c=>r x c Q
abbrev rI(C:on->on->Prop)(g:on->on->V):R2:=λx y H Q=>asI x λi=>asI y λj=>C i j/\Q (g i j) H
abbrev rI0(g:on->on->V):R2:=λx y H Q=>asI x λi=>asI y λj=>Q (g i j) H
abbrev rU(g:on->V):V->Hp->VK->Prop:=λx H Q=>asI x λi=>Q (g i) H
section
variable{X:Cx}{a b c:zr}{ta tb tc:TE}{pos:Pos}
def Jk(m:PE X a ta)(n:PE X b tb){ij:gN _}{s:md}{d:St}{H:Hp}{R:V->V->Hp->Prop}(I:Qc X ij d H s)
 (h:ta d H λx l=>tb d l λy e=>R x y e) {Q:ZE} {f:jg->jg->Sem jg}
 (o:∀v u j x y e,Qc X ij d e j->aX x v->aX y u->R x y e->(X⁻¹) (f v u) Q X.xe j):
 (X⁻¹) (Nk a X.env) (λv g=>(X⁻¹) (Nk b X.env) (λu i=>(X⁻¹) (f v u) Q X.xe i) X.xe g) X.xe s:=by
 show thP (m ij s d H _ I h) λv p x l q r w=>thP (n ij p d l _ q w) λu j y e z A B=>o v u j x y e z r A B
def Lu{r:R2}(d:OpR X (Nr op) r)(e:PE X a ta)(f:PE X b tb):PE X (.BinOp a op b pos) (tOp r ta tb):=by
 intro ij s g H Q I h;show wpAny_BinOp (Jk e f I h λv u i x y j l m n q=>d ij i g j x y v u Q l m n q)
def Lv(e:UnR X (unaryOp op) r)(f:PE X a ta):PE X (.UnaryOp op a pos) (tUn r ta):=by
 intro ij s d H Q I h;show UnaryOp_ (thP (f ij s d H _ I h) λv g x i j l m=>e ij g d i x v Q j l m)
def opI{f:jg->jg->Sem jg}{C:on->on->Prop}{g:on->on->on}
 (RN:∀i j t u s Q E,C i j->Q (.int (g i j) s.toks) {s with toks:=s.toks+1}->(X⁻¹) (f (.int i t) (.int j u)) Q E s):
 OpR X f (rI C λi j=> .int (g i j)):=by
 intro ij s n H x y v u Q I d e h;let%[i,rfl|l]:=dA h;let%[j,rfl,m|q]:=dA l;let%[t|rfl]:=d;let%[t'|rfl]:=e;show RN i j t t' s _ _ m %[.int _,H,I.tok _,%[_|rfl]|q]
def Lw{g:on->on->on}
 (RN:∀(i j:on) (t u:Tok) (s:md) (Q:ZE) (E:ZE),Q (.int (g i j) s.toks) {s with toks:=s.toks+1}->(X⁻¹) (f (.int i t) (.int j u)) Q E s):
 OpR X f (rI0 λi j=> .int (g i j)):=by
 intro ij s m H x y v u Q I d e h;let%[i,rfl|l]:=dA h;let%[j,rfl|q]:=dA l;let%[t|rfl]:=d;let%[t'|rfl]:=e;show RN i j t t' s _ _ %[.int _,H,I.tok _,%[_|rfl]|q]
def Jl{g:on->on->re}
 (RN:∀(i j:on) (t u:Tok) (s:md) (Q:ZE) (E:ZE),Q (.bool (g i j)) s->(X⁻¹) (f (.int i t) (.int j u)) Q E s):
 OpR X f (rI0 λi j=> .bl (g i j)):=by
 intro ij s m H x y v u Q I d e h;let%[i,rfl|l]:=dA h;let%[j,rfl|q]:=dA l;let%[t|rfl]:=d;let%[t'|rfl]:=e;show RN i j t t' s _ _ %[.bl _,H,I,rfl|q]
abbrev Lx(i j:on):Prop:=0<j/\j<1073741824
abbrev Dd(i j:on):Prop:=(-(2^64)<i/\i<2^64)\/(-(2^64)<j/\j<2^64)
def Dd.ok{i j:on}(h:Dd i j):IntMulOk i j:=by
 rcases h with⟨d,e⟩|⟨d,e⟩
 .show .of_left (intBits_le_64 d e)
 .show .of_right (intBits_le_64 d e)
def Jm:OpR X (Nr .Add) (rI0 λi j=> .int (i+j)):=Lw λ_ _ _ _ _ _ _ q=>add_int q
def Jn:OpR X (Nr .Sub) (rI0 λi j=> .int (i-j)):=Lw λ_ _ _ _ _ _ _ q=>sub_int q
def De:OpR X (Nr .Mult) (rI Dd λi j=> .int (i*j)):=opI λ_ _ _ _ _ _ _ d q=>mul_int q d.ok
def Go:OpR X (Nr .FloorDiv) (rI Lx λi j=> .int (i/j)):=opI λi j _ _ _ _ _ d q=>by
 let e:(0:on)<j:=d.1;let f:j<1073741824:=d.2;show floordiv_int ⋯ (by rw[on.fdiv_eq_ediv_of_nonneg i ⋯];show q) (.inl (PyProof.noPylong_small ⋯))
def Jo:OpR X (Nr .Mod) (rI (λ_ j=>0<j) λi j=> .int (i%j)):=opI λi j _ _ _ _ _ d q=>by
 let e:(0:on)<j:=d;show mod_int' ⋯ (by rw[on.fmod_eq_emod_of_nonneg i ⋯];show q)
def unI{g:on->on}
 (RN:∀(i:on) (t:Tok) (s:md) (Q:ZE) (E:ZE),Q (.int (g i) s.toks) {s with toks:=s.toks+1}->(X⁻¹) (f (.int i t)) Q E s):
 UnR X f (rU λi=> .int (g i)):=by
 intro ij s e H x v Q I d h;let%[i,rfl|q]:=dA h;let%[t|rfl]:=d;show RN i t s _ _ %[.int _,H,I.tok _,%[_|rfl]|q]
def Jp:UnR X (unaryOp .USub) (rU λi=> .int (-i)):=unI λ_ _ _ _ _ q=>neg_int q
end
abbrev Jq(x y:V):re:=match x with
 | .non=>(match y with| .non=>hX| .int _=>hX| .bl _=>hX| .str _=>hX|_=>hY)
 | .int _=>(match y with| .non=>hX| .int _=>hX| .str _=>hX|_=>hY)
 | .bl _=>(match y with| .non=>hX| .bl _=>hX| .str _=>hX|_=>hY)
 | .str _=>(match y with| .non=>hX| .int _=>hX| .bl _=>hX| .str _=>hX|_=>hY)
 | .byt _=>(match y with| .byt _=>hX|_=>hY)
 | _=>hY
abbrev rEq:R2:=λx y H Q=>Jq x y=hX/\Q (.bl (decide (x=y))) H
abbrev rNe:R2:=λx y H Q=>Jq x y=hX/\Q (.bl (!decide (x=y))) H
def Ac:decide (V.int i=V.int j)=(i==j):=by
 rw[N1];simp
def Df:decide (V.bl i=V.bl j)=(i==j):=by
 rw[N1];simp
def Ae:decide (V.str i=V.str j)=(i==j):=by
 rw[N1];simp
def Af:decide (V.byt i=V.byt j)=(i.toList==j.toList):=by
 rw[N1]
 simp_all
section
variable{X:Cx}{a b c:zr}{ta tb tc:TE}{pos:Pos}
def a8(I:Qc X ij d H s)(q:Q (.bl k) H)(e:k=f):EP X ij d Q (.bool f) s:=by
 subst e;show%[.bl k,H,I,ρ|q]
def Dg:OpR X (pw .Eq) rEq:=by
 intro ij s g H x y v u Q I f d h;let%[e|q]:=h;cases x with
 | non=>
   cases f;cases y with
   | non=>cases d;show PySem.EqNone.eq_none_none (a8 I q ∅)
   | bl j=>cases d;show PySem.EqNone.eq_none_bool (a8 I q ∅)
   | int j=>have%[t'|rfl]:=d;show PySem.EqNone.eq_none_int (a8 I q ∅)
   | str j=>have%[t'|rfl]:=d;show PySem.EqNone.eq_none_str (a8 I q ∅)
   | _=>show n0 (show hY=hX from e) Zt
 | bl i=>
   cases f;cases y with
   | non=>cases d;show PySem.EqNone.eq_bool_none (a8 I q ∅)
   | bl j=>cases d;show eq_bool (a8 I q Df)
   | str j=>have%[t'|rfl]:=d;show PySem.EqMixed.eq_bool_str (a8 I q ∅)
   | _=>show n0 (show hY=hX from e) Zt
 | int i=>
   let%[t|rfl]:=f;cases y with
   | non=>cases d;show PySem.EqNone.eq_int_none (a8 I q ∅)
   | int j=>have%[t'|rfl]:=d;show eq_int (a8 I q Ac)
   | str j=>have%[t'|rfl]:=d;show PySem.EqMixed.eq_int_str (a8 I q ∅)
   | _=>show n0 (show hY=hX from e) Zt
 | str i=>
   let%[t|rfl]:=f;cases y with
   | non=>cases d;show PySem.EqNone.eq_str_none (a8 I q ∅)
   | bl j=>cases d;show PySem.EqMixed.eq_str_bool (a8 I q ∅)
   | int j=>have%[t'|rfl]:=d;show PySem.EqMixed.eq_str_int (a8 I q ∅)
   | str j=>have%[t'|rfl]:=d;show eq_str (a8 I q Ae)
   | _=>show n0 (show hY=hX from e) Zt
 | byt i=>
   let%[t|rfl]:=f;cases y with
   | byt j=>have%[t'|rfl]:=d;show PySem.W.eq_bytes (a8 I q Af)
   | _=>show n0 (show hY=hX from e) Zt
 | _=>cases y<;> show n0 (show hY=hX from e) Zt
def Dh:OpR X (pw .NotEq) rNe:=by
 intro ij s g H x y v u Q I f d h;let%[e|q]:=h;cases x with
 | non=>
   cases f;cases y with
   | non=>cases d;show PySem.EqNone.ne_none_none (a8 I q ∅)
   | bl j=>cases d;show PySem.EqNone.ne_none_bool (a8 I q ∅)
   | int j=>have%[t'|rfl]:=d;show PySem.EqNone.ne_none_int (a8 I q ∅)
   | str j=>have%[t'|rfl]:=d;show PySem.EqNone.ne_none_str (a8 I q ∅)
   | _=>show n0 (show hY=hX from e) Zt
 | bl i=>
   cases f;cases y with
   | non=>cases d;show PySem.EqNone.ne_bool_none (a8 I q ∅)
   | bl j=>cases d;show ne_bool (a8 I q (rM not Df))
   | str j=>have%[t'|rfl]:=d;show PySem.EqMixed.ne_bool_str (a8 I q ∅)
   | _=>show n0 (show hY=hX from e) Zt
 | int i=>
   let%[t|rfl]:=f;cases y with
   | non=>cases d;show PySem.EqNone.ne_int_none (a8 I q ∅)
   | int j=>have%[t'|rfl]:=d;show ne_int (a8 I q (rM not Ac))
   | str j=>have%[t'|rfl]:=d;show PySem.EqMixed.ne_int_str (a8 I q ∅)
   | _=>show n0 (show hY=hX from e) Zt
 | str i=>
   let%[t|rfl]:=f;cases y with
   | non=>cases d;show PySem.EqNone.ne_str_none (a8 I q ∅)
   | bl j=>cases d;show PySem.EqMixed.ne_str_bool (a8 I q ∅)
   | int j=>have%[t'|rfl]:=d;show PySem.EqMixed.ne_str_int (a8 I q ∅)
   | str j=>have%[t'|rfl]:=d;show ne_str (a8 I q (rM not Ae))
   | _=>show n0 (show hY=hX from e) Zt
 | byt i=>
   let%[t|rfl]:=f;cases y with
   | byt j=>have%[t'|rfl]:=d;show PySem.W.ne_bytes (a8 I q (rM not Af))
   | _=>show n0 (show hY=hX from e) Zt
 | _=>cases y<;> show n0 (show hY=hX from e) Zt
def Ly:OpR X (pw .Lt) (rI0 λi j=> .bl (decide (i<j))):=Jl λ_ _ _ _ _ _ _ q=>lt_int q
def Lz:OpR X (pw .LtE) (rI0 λi j=> .bl (decide (i<=j))):=Jl λ_ _ _ _ _ _ _ q=>le_int q
def LA:OpR X (pw .Gt) (rI0 λi j=> .bl (decide (j<i))):=Jl λ_ _ _ _ _ _ _ q=>gt_int q
def sU:OpR X (pw .In) (λx y H Q=>asS x λi=>asS y λj=>Q (.bl (!(KE j i 0 j.length 1).isEmpty)) H):=by
 intro ij s l H x y v u Q I f g h;let%[i,rfl|d]:=d8 h;let%[j,rfl|e]:=d8 d;let q:=e;let%[t|rfl]:=f;let%[t'|rfl]:=g;show in_str (a8 I q rfl)
def Jr:OpR X (pw .Is) (λx y H Q=>y= .non/\Q (.bl (decide (x= .non))) H):=by
 intro ij s f H x y v u Q I d e h;let%[rfl|q]:=h;cases e;show is_none_gen (a8 I q ?_);cases x<;> first
  | lia
  |(have%[t|rfl]:=d;rfl)
def Gp:OpR X (pw .IsNot) (λx y H Q=>y= .non/\Q (.bl (!decide (x= .non))) H):=by
 intro ij s f H x y v u Q I d e h;let%[rfl|q]:=h;cases e;show isnot_none_gen (a8 I q ?_);cases x<;> first
  | lia
  |(have%[t|rfl]:=d;rfl)
def OpR.or(h:OpR X f r)(h':OpR X f i):OpR X f (λx y H Q=>r x y H Q\/i x y H Q):=by
 intro ij s d H x y v u Q I e g q;rcases q with q|q
 .show h ij s d H x y v u Q I e g q
 .show h' ij s d H x y v u Q I e g q
def nomark(b:zr)(h:op≠ .In)(f:op≠ .NotIn):Nl op b=hY:=by
 let d:(op==S5.In)=hY:=by lia
 let e:(op==W3)=hY:=by lia
 cases b<;> simp[Nl,d,e]
def Gq{r:R2}(d:OpR X (pw op) r)(e:PE X a ta)(f:PE X b tb)(g:Nl op b=hY):PE X (.Compare a [op] [b] pos) (tOp r ta tb):=by
 intro ij s i H Q I h;show wpAny_Compare1 (Jk e f I h λv u j x y l m n o q=>d ij j i l x y v u Q m n o q) g
abbrev wx(t:TE):TT:=λd H Q=>t d H λx e=>asB x λk=>Q k e
def Gr(f:OpR X (pw op) r)(g:PE X a ta)(i:PE X b tb)(j:Nl op b=hY):PT X (.Compare a [op] [b] pos) (wx (tOp r ta tb)):=by
 intro ij s d H Q I h;show Vq (thP (g ij s d H _ I h) λv l x m n o p=>thP (i ij l d m _ n p) λu q y w A B C=>
  thP (f ij q d w x y v u _ A o B C) λc L z E G J e=>?_) j
 let%[k,rfl|e]:=pB e;cases J;show Nq %[E,G|e]
abbrev yL(r f:R2)(ta tb tc:TE):TE:=λd H Q=>ta d H λx g=>tb d g λy h=>r x y h λz e=>asB z λk=>
 (if k=hX then tc d e λi j=>f y i j Q else Q (.bl hY) e)
def Di(n:OpR X (pw op) r)(i:OpR X (pw e) o)(p:PE X a ta)(q:PE X b tb)(w:PE X c tc)
 (A:lastMarks [op,e] [b,c]=hY):PE X (.Compare a [op,e] [b,c] pos) (yL r o ta tb tc):=by
 intro ij s f H Q I h;show Compare_chain (thP (p ij s f H _ I h) λv B x C E G J=>chain_link (thP (q ij B f C _ E J) λu L y M N j O=>
  thP (n ij L f M x y v u _ N G j O) λd T z l m U g=>?_)) A
 let%[k,rfl|g]:=pB g;cases U;show Nq ?_;cases k with
 | false=>show ite_ff %[.bl hY,l,m,rfl|g]
 | true=>show ite_tt (chain_last (thP (w ij T f l _ m g) λY s4 z' H4 I4 r4 q4=>i ij s4 f H4 y z' u Y Q I4 j r4 q4))
abbrev BE(K:ZA)(x:V)(H:Hp)(k:re):Prop:=
 match x with
 | .non=>k=hY
 | .bl b=>k=b
 | .int i=>k=(i != 0)
 | .str y=> ~~~y<=lX/\k=((~~~y:on) != 0)
 | .byt y=>y.size<=lX/\k=((y.size:on) != 0)
 | .ref p=>(∃xs,Qb K H p xs/\k=!xs.isEmpty)\/(∃xs,SqT K H p xs/\k=!xs.isEmpty)\/∃d,H p∣.dK d/\k=!d.isEmpty
 | _=>MO
def yM{e:Type}{d:gN (e×V)}{vs:gN _}(r:KV d vs):(!vs.isEmpty)=!d.isEmpty:=by
 cases r<;> rfl
def pC(r:aN xs its):(!its.toArray.isEmpty)=!xs.isEmpty:=by
 cases r<;> simp
def uV:lX<2^63:=!1
def Js:TruR X (λx H Q=>∃k,BE X.K x H k/\Q k H):=by
 intro ij s w H x v Q I j h;let%[k,e|q]:=h;let z:=uV;let A:lX=16777216:=Na;cases x with
 | non=>
   cases j;let d:k=hY:=e;subst d;show truthy_none %[H,I|q]
 | bl b=>
   cases j;let d:k=b:=e;subst d;show Nq %[H,I|q]
 | int i=>
   let%[t|rfl]:=j;let d:k=(i != 0):=e;subst d;show PySem.P.truthy_int %[H,I|q]
 | str y=>
   let%[t|rfl]:=j;obtain⟨o,d⟩: ~~~y<=lX/\k=((~~~y:on) != 0):=e;subst d;show PySem.P.truthy_str ⋯ %[H,I.tok _|q]
 | byt y=>
   let%[t|rfl]:=j;obtain⟨o,d⟩:y.size<=lX/\k=((y.size:on) != 0):=e;subst d;show PySem.W.truthy_bytes ⋯ %[H,I.tok _|q]
 | ref p=>
   cases j;let d:(∃xs,Qb X.K H p xs/\k=!xs.isEmpty)\/(∃xs,SqT X.K H p xs/\k=!xs.isEmpty)\/∃f,H p∣.dK f/\k=!f.isEmpty:=e;rcases d with⟨xs,l,d⟩|⟨xs,l,d⟩|⟨f,l,d⟩
   .subst d;let%[its,r,pl|n]:=I.list l;let g:= ~~~r;show wpAny_truthy_list pl.isList (by simp only[Zp];lia) %[H,I.tok _|(pC r)▸q]
   .subst d;let%[its,r,pl|n]:=I.tuple l;let g:= ~~~r;show truthy_tuple pl (by simp only[Zp];lia) %[H,I.tok _|(pC r)▸q]
   .subst d;obtain⟨n,u,vs,r,m⟩: ~~~f<=lX/\(p==NO)=hY/\∃vs,KV f vs/\s.heap.DictOf (aU X.prog X.w) p vs:=I.hok p _ l;let g: ~~~f= ~~~vs:=Paired.length r;show wpAny_truthy_dict u m ⋯ %[H,I.tok _|(yM r)▸q]
 | _=>show(show MO from e).elim
def Dj(g:PE X a ta)(i:∀d,Th a X.env d=(do let v<-d;Pm a.pos;PY [v] (U2 v))):
 PT X a (λe H Q=>ta e H λx f=>∃k,BE X.K x f k/\Q k f):=by
 intro ij s e H Q I h;show isTrue_plain (thP (g ij s e H _ I h) λv j x l m n o=>Js ij j e l x v Q m n o) (i _)
def yN:OpR X (Nr .Add) (λx y H Q=>asS x λi=>asS y λj=> ~~~i+ ~~~j<=lX/\Q (.str (i++j)) H):=by
 intro ij s m H x y v u Q I f g h;let%[i,rfl|d]:=d8 h;let%[j,rfl|e]:=d8 d;let%[l|q]:=e;let%[t|rfl]:=f;let%[t'|rfl]:=g;show add_str (λt' tk=>%[.str _,H,I.tok _,%[_|rfl]|q]) l
def dc(r:aN [x] us):∃u,us=[u]/\aX x u:=by
 cases r with
 | cons d e=>cases e;show%[_,ρ|d]
def kK(r:aN [x,y] us):∃u d,us=[u,d]/\aX x u/\aX y d:=by
 cases r with
 | cons e f=>
   cases f with
   | cons g h=>cases h;show%[_,_,ρ,e|g]
def BF(m:X.calm=hX):cF X (.builtin "min") (λxs H Q=>lI xs λl x2=>asI l λi=>asI x2 λj=>Q (.int (if j<i then j else i)) H):=by
 intro ij s n H xs us Q I r h;let%[l,x2,rfl|e]:=iV h;let%[i,rfl|f]:=dA e;let%[j,rfl|g]:=dA f;let q:=g;let%[u,o,rfl,%[t|rfl],t'|rfl]:=kK r;show min_two_ints (I.ok.hd m) λh' tk k=>%[_,H,I.kept k,?_|q]
 by_cases d:j<i
 .rw[lp d,lp d];show%[_|ρ]
 .rw[ku d,ku d];show%[_|ρ]
def BG:cF X (.type "int") (λxs H Q=>(∃i,xs=[.int i]/\Q (.int i) H)\/∃k,xs=[.bl k]/\Q (.int (if k then 1 else 0)) H):=by
 intro ij s e H xs us Q I r h;rcases h with⟨i,rfl,q⟩|⟨k,rfl,q⟩
 .let%[u,rfl,t|rfl]:=dc r;show call_int_int %[.int i,H,I,%[_|rfl]|q]
 .let%[u,rfl|d]:=dc r;cases d;show call_int_bool %[.int _,H,I.tok _,%[_|rfl]|q]
def uW:cF X (.type "str") (λxs H Q=>cL xs λf=>asI f λi=>i.natAbs.log2<1920/\Q (.str (toString i)) H):=by
 intro ij s j H xs us Q I r h;let%[f,rfl|d]:=bC h;let%[i,rfl|e]:=dA d;let%[g|q]:=e;let%[u,rfl,t|rfl]:=dc r;show PySem.P.str_of_int g %[.str _,H,I.tok _,%[_|rfl]|q]
abbrev Gu(K:ZA)(x:V)(H:Hp)(n:iv):Prop:=
 match x with
 | .str y=> ~~~y<=lX/\n= ~~~y
 | .byt y=>y.size<=lX/\n=y.size
 | .ref p=>(∃xs,Qb K H p xs/\n= ~~~xs)\/∃xs,SqT K H p xs/\n= ~~~xs
 | _=>MO
def Dk:cF X (.builtin "len") (λxs H Q=>cL xs λx=>∃n,Gu X.K x H n/\Q (.int n) H):=by
 intro ij s v H xs us Q I r h;let%[x,rfl|g]:=bC h;let%[n,e|q]:=g;let%[u,rfl|i]:=dc r;let w:=Na;cases x with
 | str y=>
   let%[t|rfl]:=i;obtain⟨m,f⟩: ~~~y<=lX/\n= ~~~y:=e;subst f;show len_str ⋯ %[.int _,H,I.tok _,%[_|rfl]|q]
 | byt y=>
   let%[t|rfl]:=i;obtain⟨m,f⟩:y.size<=lX/\n=y.size:=e;subst f;show PySem.W.len_bytes ⋯ %[.int _,H,I.tok _,%[_|rfl]|q]
 | ref p=>
   cases i;let f:=e;rcases f with⟨xs,j,f⟩|⟨xs,j,f⟩
   .subst f;let%[its,l,pl|o]:=I.list j;let d:= ~~~l;show Calls.call_len_list pl.isList (by simp only[Zp];lia) %[.int xs.length,H,I.tok _,%[_|by simp only[Zp];rw[d]]|q]
   .subst f;let%[its,l,pl|o]:=I.tuple j;let d:= ~~~l;show len_tuple pl (by simp only[Zp];lia) %[.int xs.length,H,I.tok _,%[_|by simp only[Zp];rw[d]]|q]
 | _=>show(e).elim
end
structure yO (h:yc) (x dx C:kw) (mA:ZC):Prop where
 obj:h.get? x∣TW C dx
 ns:h.Ns1 dx mA
 ne:dx≠x
set_option tactic.hygienic true in
def sV{h:yc}{c:ZC}(n:h.Ns1 d c):∃od,h.get? d∣od/\∀name,YH name od∣c name:=by
 let%[o,es,m,f,g,i,_|j]:=n;show%[o,f|λname=>?_];let e:=j name;unfold nsFind findBy at e;rw[<-UN]at e;unfold YH;rw[g];dsimp only
 split
 .rename_i y q
  rw[q]at e;show rM hV e
 .rename_i q
  rw[q]at e;let a:es.toList.any (·.refKey)=hY:=by
   rw[gN.any_eq_false];intro y l;let%[z,t|b]:=i y (QC.mp l);simp[Tp.refKey,b]
  rw[ku (a▸Zt)];show rM hV e
def yO.look(I:yO h x a C b):∃od,PySem.W.InstAt h x (TW C a) C (hV od)/\∀name,YH name od∣b name:=
 let%[od,c|d]:=sV I.ns
 %[od,%[I.obj,rfl,rfl|c]|d]
section
#where
variable{K:ZA}{x dx C f:kw}{mA:ZC}{name:kG}{v:jg}
def Gw(X:K.In s.heap)(I:yO s.heap x dx C mA)(c:T9 K C name=hX)(d:PM K C=hX)
 (e:Nf K (.ref C) name∣hH) (g:mA name∣v) (a:YK v=hX) (h:Q v {s with toks:=s.toks+1}):
 ↥A (WS (.ref x) name b) Q E s:=by
 let%[od,J|i]:=I.look;show PySem.W.get_value X J (VM c).1 (findObj_own d e rfl (by rw[i,g])) a h
def Dl(X:K.In s.heap)(I:yO s.heap x dx C mA)(a:T9 K C name=hX)
 (b:Nf K (.ref C) name∣hV (.ref f)) (c:YI K (.ref f)=hX) (d:mA name=hH) (h:Q (.ref f,[.ref x]) s):
 ↥A (Rb (.ref x) name pl) Q E s:=by
 let%[od,J|e]:=I.look;show PySem.W.method_fn X J (VM a).1 (VM a).2 b (N8.mp c) (by change(YH name od).map _∣hY;rw[e,d];rfl) h
def Gx(X:K.In s.heap)(I:yO s.heap x dx C mA)
 (j:Nf K (.ref C) "__setattr__"=hV (hV (.builtin "object.__setattr__"))) (l:Xw K C=hX) (m:takerIn K C name∣hH) (n:PM K C=hX)
 (hw:PySem.Within mA o) (p: ~~~o<=lX)
 (h:∀h',yO h' x dx C (λy=>if y=name then hV v else mA y)->vu dx s.heap h'->Q () {s with heap:=h',toks:=s.toks+2}):
 ↥A (setAttr (.ref x) name v) Q E s:=by
 let%[od,J|z]:=I.look;show set_plain X J j (PySem.W.osa_open X J l m λb=>?_);let%[B,q|d]:=Re n;show Z2 (Z3 (Z2 (Z2 (Qu I.obj (Z2 (QM (VN X q) ?_))))));rw[d];show Z3 (Z2 (Z3 (Z2 (wpAny_nsSet1 I.ns λh' a c=>?_))));let%[G,r,u,e,g|i]:=a.count (PySem.Within.cons name v hw);show Z2 (W6 e (g▸Xx (nI i (!2))) (Z3 (h _ %[(c.2 _ (J0 I.ne)).trans I.obj,a|I.ne] c)))
def Dm{R:Su->md->Prop}(X:K.In s.heap)(b:makesIn K C=hX)
 (hi:Nf K (.ref C) "__init__"=hV (hV (.ref f))) (c:Wm K (.ref f)∣.type "function")
 (h:Pz (Nm prog w) (A.under (.builtin "type.__call__" %[.ref C::vs|a])) (.call (.ref f) %[.ref (⇑s+1)::vs|a]) (PySem.W.InitBack (⇑s+1) R)
  (s>>>(s.heap.push R6).push (TW C ⇑s))):
 Pz (Nm prog w) A (.call (.ref C) %[vs|a]) R s:=by
 show PySem.W.make_core (PySem.W.makes_of X b) (SR X hi) (λself=>PySem.W.bind_fn X self c) (.inl rfl) h
end
abbrev eK(f:kG)(v:V):gN (kG×V)->gN (kG×V)
 |[]=>[(f,v)]
 |(g,x)::r=>if g=f then(g,v)::r else(g,x)::eK f v r
def nQ(f g:kG)(v:V):∀fs,(eK f v fs).lookup g=if g=f then hV v else fs.lookup g
 |[]=>by
  change Od g [(f,v)]=_;by_cases h:g=f
  .let a:=N8.mpr h;simp only[Od,a,lp h]
  .let a:=MR.mpr h;simp only[Od,a,ku h]
 |(k,x)::r=>by
  rw[show eK f v _=(if k=f then(k,v)::r else(k,x)::eK f v r)from rfl];by_cases b:k=f
  .rw[lp b];by_cases h:g=k
   .let a:=N8.mpr h;simp only[Od,a,lp (h.trans b)]
   .let a:=MR.mpr h;simp only[Od,a,ku (λe:g=f=>h (e.trans b.symm))]
  .rw[ku b];by_cases h:g=k
   .let a:=N8.mpr h;simp only[Od,a,ku (λe=>b (h.symm.trans e))]
   .let a:=MR.mpr h;simp only[Od,a];show(nQ f g v r)
def mZ(f:kG)(v:V):∀fs:gN (kG×V),f∈(eK f v fs)\1/\∀g,g∈fs\1->g∈(eK f v fs)\1
 |[]=>%[by simp[eK]|λg h=>by simp at h]
 |(k,x)::r=>by
  let%[a|b]:=mZ f v r;rw[show eK f v _=(if k=f then(k,v)::r else(k,x)::eK f v r)from rfl]
  grind
def nS(f:kG)(v:V):∀fs,~~~(eK f v fs)<= ~~~fs+1
 |[]=>by simp[eK]
 |(k,x)::r=>by
  let a:=nS f v r;rw[show eK f v _=(if k=f then(k,v)::r else(k,x)::eK f v r)from rfl];by_cases b:k=f
  .simp_all
  simp_all
def g9.some_of(r:g9 (hV v) o):∃u,o∣u/\aX v u:=by
 cases o with
 | none=>show(r).elim
 | some u=>show%[u,ρ|r]
def g9.none_of(r:g9 hH o):o=hH:=by
 cases o with
 | none=>rfl
 | some u=>show(r).elim
def sW(r:aX v u):YK u=hX:=by
 cases v with
 | non=>cases(r);rfl
 | bl b=>cases(r);rfl
 | int i=>have%[t|e]:=(r);cases e;rfl
 | str x=>have%[t|e]:=(r);cases e;rfl
 | byt b=>have%[t|e]:=(r);cases e;rfl
 | flt b=>have%[t|e]:=(r);cases e;rfl
 | ref a=>cases(r);rfl
 | ty n=>cases(r);rfl
section
variable{P:nX}{w:wh}{H H':Hp}{h h':yc}{a C dx:kw}{fs fs':gN (kG×V)}
def oR(c:HOk P w H h)(e:H a∣.ins C dx fs):∃b,yO h a dx C b/\(∀f,g9 (fs.lookup f) (b f))/\PySem.Within b (fs\1)/\ ~~~fs<=1000/\H dx∣.own a:=by
 let%[d,z,ne,g,b,n,r|q]:=(c a _ e)
 show%[b,%[g,n|ne],r,q,z|d]
end
structure Cls (K:ZA) (C:kw):Prop where
 pg:T9 K C MQ=hX
 hd:PM K C=hX
 po:Xw K C=hX
 sa:Nf K (.ref C) "__setattr__"=hV (hV (.builtin "object.__setattr__"))
def Cls.get{K:ZA}{C:kw}(c:Cls K C)(f:kG):T9 K C f=hX:=c.pg
abbrev iB(K:ZA)(C:kw)(f:kG):Prop:=Nf K (.ref C) f∣hH
def iB.taker{K:ZA}{C:kw}{f:kG}(n:iB K C f):takerIn K C f∣hH:=by
 unfold takerIn;rw[n];rfl
structure Gy (K:ZA) (C:kw) (m:kG) (f:kw):Prop where
 at_:Nf K (.ref C) m∣hV (.ref f)
 fn:YI K (.ref f)=hX
 kp:O5 K (.ref f)=hX
section
#version
variable{a C dx:kw}{fs:gN (kG×V)}{f:kG}{v:V}{A:vj}{E:ZE}
def yP(I:Qc X ij σ H s)(e:H a∣.ins C dx fs)(c:Cls X.K C)(n:iB X.K C f)(l:fs.lookup f∣v)
 (h:∀u s',Qc X ij σ H s'->aX v u->Q u s'):tI (Nm X.prog X.w) A (WS (.ref a) f b) Q E s:=by
 let%[i,O,r,_,_|_]:=oR I.hok e;let%[u,g|d]:=g9.some_of (l▸r f);show Gw I.kIn O (c.get f) c.hd n g (sW d) (h u _ (I.tok _) d)
def yQ(I:Qc X ij σ H s)(e:H a∣.ins C dx fs)(c:Cls X.K C)(k:Gy X.K C m g)(l:fs.lookup m=hH)
 (h:Q (.ref g,[.ref a]) s):tI (Nm X.prog X.w) A (Rb (.ref a) m pl) Q E s:=by
 let%[b,O,r,_,_|_]:=oR I.hok e;show Dl I.kIn O (c.get m) k.at_ k.fn (g9.none_of (l▸r m)) h
def yS(I:Qc X ij σ H s)(e:H a∣.ins C dx fs)(c:Cls X.K C)(n:iB X.K C f)(J: ~~~fs<1000)(l:aX y u)
 (h:∀s',Qc X ij σ (Qa H a (.ins C dx (eK f y fs))) s'->Q () s'):tI (Nm X.prog X.w) A (setAttr (.ref a) f u) Q E s:=by
 let%[m,O,r,i,_|j]:=oR I.hok e;show Gx I.kIn O c.sa c.po n.taker c.hd i (by rw[Z6,Na];lia) λh' d p=>h _ (I.write (e▸M8) (.inr j) (λb q w z=>(p.2 b w).trans z) (let%[o,_,_,B|_]:=d.ns;%[o|B]) %[(aq O.ne)▸j,?_,O.ne,d.obj,_,d.ns,λg=>?_|λg G=>?_])
 .let:=nS f y fs;lia
 .rw[nQ];by_cases q:g=f
  .rw[lp q,lp q];show l
  .rw[ku q,ku q];show r g
 .by_cases q:g=f
  .show q▸(mZ f y fs).1
  .show(mZ f y fs).2 g (i g λz=>G ?_);change(if g=f then hV u else m g)=hH;rw[ku q];show z
def Qc.made(I:Qc X ij σ H s):Qc X ij σ (Qa (Qa H ⇑s (.own (⇑s+1))) (⇑s+1) (.ins C ⇑s []))
 (s>>>(s.heap.push R6).push (TW C ⇑s)):=by
 let c:(s.heap.push R6).get? ⇑s∣R6:=Zj s.heap rfl;let d:=by
  let:=Zj (s.heap.push R6) (o:=TW C ⇑s) rfl;rwa[Zq]at this
 show(I.laid (o:= .own (⇑s+1)) (t':=s.toks) (λb u q=>Z7 _ q) (Zi _) %[_|c]).laid (λb u q=>Z7 _ q) (Ut (Zq _ _)) ?_;let ne:⇑s≠⇑s+1:=Zs (Yn _);show%[by rw[aq ne,aa],Xe _,ne,d,λ_=>hH,(Ux %[R6,#[],_,c,ρ,(λe g=>n0 g ∅)|λ_=>rfl]).at λo q=>Z7 _ q,λ_=>M8|λy h=>n0 rfl h]
def Ag(c:NE e f env (Nk e env)=Nk e env)
 (h:↥A (Nk e env) (λo b=>↥A (WS o f hX) Q E b) E s):↥A (Nk (.Attribute e f pos) env) Q E s:=
 Attribute_any_ h (by rw[arm_eval_Attribute,c])
end
abbrev Jt(K:ZA)(c:TE)(f:kG):TE:=λd H Q=>c d H λx b=>asR x λa=>∃C e fs,b a∣.ins C e fs/\Cls K C/\iB K C f/\∃v,fs.lookup f∣v/\Q v b
abbrev Ju(K:ZA)(e g:TE)(f:kG):TS:=λD b H=>g b H λy h=>e b h λx c=>asR x λa=>∃C d fs,c a∣.ins C d fs/\Cls K C/\iB K C f/\ ~~~fs<1000/\
 D.nx b (Qa c a (.ins C d (eK f y fs)))
section
variable{X:Cx}{o e value:zr}{f:kG}{pos pos' tpos:Pos}{ta tv:TE}
def Jv(b:PE X e ta)(d:NE e f X.env (Nk e X.env)=Nk e X.env):PE X (.Attribute e f pos) (Jt X.K ta f):=by
 intro ij s g H Q I h;show Ag d (thP (b ij s g H _ I h) λu y x i j m h=>?_);let%[a,rfl,C,z,fs,p,c,n,v,l|q]:=aO h;obtain rfl:u=m4 a:=m;show yP j p c n l λA B r w=>%[v,i,r,w|q]
def Jw(d:PE X o ta)(g:PE X value tv)(i:Pb value (hV (.Attribute o f pos')) pos.line X.env=pure hY):PS X (.Assign [.Attribute o f pos'] value pos) (Ju X.K ta tv f):=by
 intro ij s b H D I h;show Ta (thP (g ij s b H _ I h) λu j y m p r q=>thP (d ij j b m _ p q) λv G x J w z h=>?_) i;let%[a,rfl,C,L,fs,A,c,n,l|B]:=aO h;obtain rfl:v=m4 a:=z;show yS w A c n l r λM E=>%[b,_,E|B]
end
section
#version
variable{A:vj}{E:ZE}{Q:ZE}{c:jg}{b:re}
inductive kD (K:ZA) (H:Hp):V->jg->Prop where
 | non:kD K H .non (.type "NoneType")
 | bl (x:re):kD K H (.bl x) (.type "bool")
 | int (i:on):kD K H (.int i) (.type "int")
 | str (x:kG):kD K H (.str x) (.type "str")
 | flt (x:UInt64):kD K H (.flt x) (.type "float")
 | lst {a:kw} {xs:gN V} (e:H a<*xs):kD K H (.ref a) (.type "list")
 | frz {a:kw} {o:Ov} {xs:gN V} (e:H a∣.frz o (.lst xs)):kD K H (.ref a) (.type "list")
 | tup {a:kw} {xs:gN V} (e:H a&&&xs):kD K H (.ref a) (.type "tuple")
 | dK {a:kw} {kvs:gN _} (e:H a∣.dK kvs):kD K H (.ref a) (.type "dict")
 | dT {a:kw} {kvs:gN _} (e:H a∣.dT kvs):kD K H (.ref a) (.type "dict")
 | ins {a C dx:kw} {fs:gN _} (e:H a∣.ins C dx fs) (cl:Cls K C) (ha:Nf K (.ref C) "__class__"=hV (hV (.builtin "object.__class__")))
  (hn:Tf K (.builtin "object.__class__") "__get__"=hV (hV (.builtin "getset_descriptor.__get__"))) (htk:takesIn K (.builtin "object.__class__")∣hX)
  (hm:mroIn K C (.type "object")∣hX):kD K H (.ref a) (.ref C)
def BH(I:Qc X ij σ H s)(d:aX x u)(ty:kD X.K H x t)(e:Ps X.K t c∣b)(h:∀tk,Q (.bool b) {s with toks:=tk}):
 tI (Nm X.prog X.w) A (call (.builtin "isinstance") [u,c]) Q E s:=by
 cases ty with
 | non=>cases(d);show OT kitx_none I.kIn M8 e (λz=>nomatch z) h
 | bl y=>cases(d);show OT PySem.W.kitx_bool I.kIn M8 e (λz=>nomatch z) h
 | int i=>have%[t|q]:=(d);cases q;show OT PySem.W.kitx_int I.kIn M8 e (λz=>nomatch z) h
 | str y=>have%[t|q]:=(d);cases q;show OT PySem.W.kitx_str I.kIn M8 e (λz=>nomatch z) h
 | flt y=>have%[t|q]:=(d);cases q;show OT PySem.W.kitx_float I.kIn M8 e (λz=>nomatch z) h
 | @lst a xs f=>
   cases(d);let%[_,_,n,_|g]:=(I.hok a _ f)
   show OT kitx_list I.kIn %[_,g|rfl] e (λz=>nomatch z) h
 | @frz a L xs f=>
   cases(d);let%[_,_,_,n,_|g]:=(I.hok a _ f)
   show OT kitx_list I.kIn %[_,g|rfl] e (λz=>nomatch z) h
 | @tup a xs f=>
   cases(d);let%[_,_,_|p]:=(I.hok a _ f)
   let%[o,g,j|_]:=p;show OT PySem.W.kitx_tuple I.kIn %[o,g|j] e (λz=>nomatch z) h
 | @dK a l f=>
   cases(show u=m4 a from d);let%[_,_,vs,_|p]:=(I.hok a _ f)
   let%[o,es,v,g,j|_]:=p;show OT Xy I.kIn %[o,g|j.1] e (λz=>nomatch z) h
 | @dT a l f=>
   cases(show u=m4 a from d);let%[_,_,xs,_,o,es,v,g,j|_]:=(I.hok a _ f)
   show OT Xy I.kIn %[o,g|j.1] e (λz=>nomatch z) h
 | @ins a C M fs f r w B m G=>
   cases(d);let%[N,O|_]:=oR I.hok f;let%[od,J|_]:=O.look;show OT (PySem.W.kitx_own (r.get _) r.hd w B m G) I.kIn J e (λz=>nomatch z) h
end
structure bP (k:iv) (A:vj):Prop where
 hd:A.handled=hH
 dp:A.depth+3*k+5<recursionLimit
 un:A.units+16*k+200<Os
 gd:A.guards∣[]
def bP.mono(r:bP k A)(h:j<=k):bP j A:=%[r.hd,by let:=r.dp;lia,by let:=r.un;lia|r.gd]
def bP.deeper(r:bP (k+1) A)(env:Env):bP k (A.deeper env):=
 %[r.hd,by let:=r.dp;change A.depth+1+3*k+5<_;lia,by let:=r.un;change A.units+3+16*k+200<_;lia|r.gd]
def yT{A:vj}:(A.under (.builtin "type.__call__" %[.ref C::us|a])).depth=A.depth+1:=by
 first|rfl|lia
def yU{A:vj}:(A.under (.builtin "type.__call__" %[.ref C::us|a])).units=A.units+1:=by
 first|rfl|lia
def bP.make(r:bP (k+1) A)(C:kw)(us:ZG)(a:gN (kG×jg)):bP k (A.under (.builtin "type.__call__" %[.ref C::us|a])):=
 %[r.hd,by let:=r.dp;rw[yT];lia,by let:=r.un;rw[yU];lia|r.gd]
def bP.depth(r:bP k A):A.depth<recursionLimit:=by let:=r.dp;lia
def bP.units(r:bP k A):A.units+64<Os:=by let:=r.un;lia
abbrev yV:TA:=λ_ H Q=>Q [] H
abbrev Ah(b:TE)(c:TA):TA:=λa H Q=>b a H λx d=>c a d λxs e=>Q (x::xs) e
section
variable{X:Cx}{e:zr}{es:gN zr}{te:TE}{t:TA}{pos:Pos}
def Do:PA X [] yV:=λ_ _ _ _ H Q I h=>Calls.spliced_nil %[[],H,I,.nil|h]
def Ai(b:PE X e te)(c:PA X es t)(d:vi (e::es) X.env=(hY,Nk e X.env)::vi es X.env):PA X (e::es) (Ah te t):=by
 intro pos ij s a H Q I h;rw[d];change tI _ _ (spliced ((hY,Nk e X.env)::NP pos _)) _ _ s;show Calls.spliced_cons (thP (b ij s a H _ I h) λu f x g i j l=>thP (c pos ij f a g _ i l) λus q xs m n o p=>%[x::xs,m,n,.cons j o|p])
abbrev Jx(t:TA):TE:=λb H Q=>t b H λxs a=> ~~~xs<=lX/\∀p,a p=hH->Q (.ref p) (Qa a p (.tup xs))
abbrev Jy(t:TA):TE:=λb H Q=>t b H λxs a=> ~~~xs<=lX/\∀p,a p=hH->Q (.ref p) (Qa a p (.lst xs))
def Jz{d}(h:PA X es t):PE X (.Tuple es d pos) (Jx t):=by
 intro ij s f H Q I g;show wpAny_Tuple_spliced (thP (h pos ij s f H _ I g) λus a xs i c r %[z|q]=>%[~~~r▸z|?_]);let j:=c.hok.fresh (Zi _);show%[.ref ⇑a,Qa i ⇑a _,c.laid (λb u e=>Z7 _ e) (Zi _) ?_,ρ|q _ j];show%[z,us,r,_,Zj _ rfl,ρ,_|ρ]
def JA(h:PA X es t):PE X (.List es pos) (Jy t):=by
 intro ij s d H Q I f;show wpAny_List_spliced (thP (h pos ij s d H _ I f) λus a xs g c r %[z|q]=>%[~~~r▸z|?_]);let i:=c.hok.fresh (Zi _);show%[.ref ⇑a,Qa g ⇑a _,c.laid (λb u e=>Z7 _ e) (Zi _) ?_,ρ|q _ i];show%[z,us,0,r|Zj _ rfl]
end
noncomputable abbrev Sp:=gN V->Hp->VK->XK->Prop
noncomputable abbrev CXT:=gN Env->Hp->md->XK->jg->md->Prop
structure yW (P:nX) (w:wh) (K:ZA) (mg:ZC) (base:yc) (A:vj) (outer:gN Env) (s:md) (H:Hp):Prop where
 frames:A.frames∣outer
 mod:Mod K mg base
 bs:∀b o,base.get? b∣o->s.heap.get? b∣o/\H b=hH
 bsz:base.objs.size<=⇑s
 funs:s.heap.FunFrames base outer
 frf:∀b∈frs outer,H b=hH
 hok:HOk P w H s.heap
 bare:QY s.gens
abbrev CE(outer:gN Env)(P:nX)(w:wh)(H:Hp)(s:md)(Q:VK)(u:jg)(s':md):Prop:=
 ∃v a,s'.os=s.os/\QY s'.gens/\Un (frs outer) [] H a s.heap s'.heap/\HOk P w a s'.heap/\aX v u/\Q v a
abbrev CR(CX:CXT)(outer:gN Env)(P:nX)(w:wh)(H:Hp)(s:md)(Q:VK)(E:XK)(r:Su)(s':md):Prop:=
 match r with
 | .ok (.ret u)=>CE outer P w H s Q u s'
 | .ok _=>MO
 | .error e=>CX outer H s E e s'
structure d9 (P:nX) (w:wh) (K:ZA) (mg:ZC) (base:yc) (CX:CXT) (k:iv) (f:kw) (fd:OP) (ps:ZB) (sp:Sp):Prop where
 len:∀vs H Q E,sp vs H Q E-> ~~~vs= ~~~ps
 run:∀A outer s H args us vs Q E,bP k A->yW P w K mg base A outer s H->T3 s fd args (ps.zip us)->aN vs us->sp vs H Q E->
  Pz (Nm P w) A (.call (.ref f) args) (CR CX outer P w H s Q E) s
def d9.imp{P:nX}{K:ZA}(F:d9 P w K mg base CX k f b ps sp)
 (h:∀vs H Q E,a vs H Q E->sp vs H Q E):d9 P w K mg base CX k f b ps a:=
 %[λvs H Q E q=>F.len vs H Q E (h _ _ _ _ q)|λA outer s H args us vs Q E c d e g i=>F.run A outer s H args us vs Q E c d e g (h _ _ _ _ i)]
def yW.make{P:nX}{K:ZA}(e:yW P w K mg base A outer s H)(C:kw)(us:ZG)(a:gN (kG×jg)):
 yW P w K mg base (A.under (.builtin "type.__call__" %[.ref C::us|a])) outer s H:=%[by first|show e.frames|lia,e.mod,e.bs,e.bsz,e.funs,e.frf,e.hok|e.bare]
section
variable{X:Cx}{ij:ZF}{σ:St}{H:Hp}{s s':md}
def Qc.env0(I:Qc X ij σ H s):yW X.prog X.w X.K X.mg X.base X.A X.stack s H:=
 %[I.ok.frames,I.ok.mod,I.bs,nI I.ok.bsz I.sz,I.stack,I.stkFree,I.hok|I.bare]
def Qc.after(I:Qc X ij σ H s)(h:CE X.stack X.prog X.w H s Q u s'):EP X ij σ Q u s':=by
 let%[v,f,os,a,un,c,r|q]:=h;let%[i,g,d,t|e]:=s';obtain rfl:e=s.os:=os;show%[v,f,I.call un c a (λb z=>n0 z ∅),r|q]
end
abbrev sX(sp:Sp)(dvs:gN V)(E:XK)(t:TA):TE:=λa H Q=>t a H λvs b=>sp (vs++dvs) b Q E
abbrev Ak(C:kw)(m:kG)(sp:Sp)(dvs:gN V)(E:XK)(d:TE)(t:TA):TE:=λb H Q=>d b H λx c=>∃a e fs,x= .ref a/\c a∣.ins C e fs/\fs.lookup m=hH/\
 t b c λvs f=>sp (x::(vs++dvs)) f Q E
abbrev Al(C:kw)(sp:Sp)(dvs:gN V)(E:XK)(t:TA):TE:=λc H Q=>t c H λvs b=>∀x a,b x=hH->b a=hH->a≠x->
 sp (.ref x::(vs++dvs)) (Qa (Qa b a (.own x)) x (.ins C a [])) (λv d=>v= .non/\Q (.ref x) d) E
abbrev ee(K:ZA)(a:OP)(ps:ZB)(ds:ZG):Prop:=
 ∀s us,K.In s.heap-> ~~~(us++ds)= ~~~ps->T3 s a %[us|[]] (ps.zip (us++ds))
def ee.all{K:ZA}(h:∀us:ZG,~~~us= ~~~ps->bindArgs b %[us|[]]=pure (ps.zip us)):ee K b ps []:=λs us _ a=>by
 rw[Zx]at a ⊢;show .of_eq (h us a)
abbrev iZ(CX:CXT)(X:Cx)(E:XK):Prop:=∀ij (a:St) H s e s',Qc X ij a H s->CX X.stack H s E e s'->X.xe e s'
section
variable{X:Cx}{CX:CXT}{k:iv}{f C:kw}{fd:OP}{ps:ZB}{sp:Sp}{dvs:gN V}{ds:ZG}{E:XK}{x m:kG}{p pos apos:Pos}{e o:zr}{es:gN zr}{ta:TE}{t:TA}
def Dp(F:d9 X.prog X.w X.K X.mg X.base CX k f fd ps sp)(d:bP k X.A)(g:ee X.K fd ps ds)(i:aN dvs ds)(j:iZ CX X E)
 (I:Qc X ij b H s) (r:aN vs us) (h:sp (vs++dvs) H Q E):(X⁻¹) (call (.ref f) us) (EP X ij b Q) X.xe s:=by
 let c:=r.append i;show OB (codeAny_mono (F.run X.A X.stack s H _ _ _ Q E d I.env0 (g s us I.kIn (~~~c▸F.len _ _ _ _ h)) c h) λr s' a=>?_);cases r with
 | error e=>show j ij b H s e s' I a
 | ok l=>
   cases l with
   | ret u=>show I.after a
   | next=>show M7 a
   | brk=>show M7 a
   | cont=>show M7 a
def Am(F:d9 X.prog X.w X.K X.mg X.base CX k f fd ps sp)(d:bP k X.A)(g:Gl X x)(i:X.mg x∣.ref f)(j:O5 X.K (.ref f)=hX)(l:ee X.K fd ps ds)(n:aN dvs ds)(u:iZ CX X E)
 (v:PA X (e::es) t) (a:(x==("__debug__":kG))=hY) (w:vi (e::es) X.env=(hY,Nk e X.env)::vi es X.env) (b:(NP pos (vi es X.env)).any (·.1)=hY):
 PE X (.Call (.Name x p) (e::es) [] pos) (sX sp dvs E t):=by
 intro ij s y H Q I h;show NY (iW I g i (Uh I.ok.mod.kin j (thP (v pos ij s y H _ I h) λus z vs A c r q=>%[c.kIn|Dp F d l n u c r q]) w b) a)
def Dq(i:PE X o ta)(c:Cls X.K C)(d:Gy X.K C m f)(F:d9 X.prog X.w X.K X.mg X.base CX k f fd ps sp)(j:bP k X.A)(n:ee X.K fd ps ds)(r:aN dvs ds)(v:iZ CX X E)
 (w:Nk (.Call (.Attribute o m apos) [] [] pos) X.env=(do
  let g<-Nk o X.env
  Pm apos.atName
  let(f,first)<-PY [g] (Rb g m pl)
  Ui pos f first (NP pos (vi [] X.env)) (PB pos (N4 [] X.env)))):
 PE X (.Call (.Attribute o m apos) [] [] pos) (Ak C m sp dvs E ta yV):=by
 intro ij s y H Q I h;show PySem.W.methodCall_KW (thP (i ij s y H _ I h) λu B x G b z %[a,J,fs,ex,A,l|q]=>?_) w;subst ex;obtain rfl:u=m4 a:=z;show yQ b A c d l (PySem.W.callWith_K0 b.kIn d.kp (Dp (us:=[.ref a]) (vs:=[.ref a]) F j n r v b (.cons rfl .nil) q))
structure Mk (K:ZA) (C f:kw):Prop where
 makes:makesIn K C=hX
 init:Nf K (.ref C) "__init__"=hV (hV (.ref f))
 fn:YI K (.ref f)=hX
 kp:O5 K (.ref C)=hX
def Dr(M:Mk X.K C f)(F:d9 X.prog X.w X.K X.mg X.base CX k f fd ps sp)(j:bP (k+1) X.A)(l:ee X.K fd ps ds)(n:aN dvs ds)
 (q:iZ CX X E) (I:Qc X ij d H s) (r:aN vs us)
 (h:∀x b,H x=hH->H b=hH->b≠x->sp (.ref x::(vs++dvs)) (Qa (Qa H b (.own x)) x (.ins C b [])) (λv w=>v= .non/\Q (.ref x) w) E):
 (X⁻¹) (call (.ref C) us) (EP X ij d Q) X.xe s:=by
 let g:=h (⇑s+1) ⇑s (I.hok.fresh (Yf _)) (I.hok.fresh (Zi _)) (Zs (Yn _));let c:=Qc.made (C:=C) I;let i:aN (V.ref (⇑s+1)::(vs++dvs)) _:= .cons rfl (r.append n);let y:=by
  let e:= ~~~i;rw[F.len _ _ _ _ g]at e;show e.symm
 show OB (Dm I.kIn M.makes M.init (N8.mp M.fn) (codeAny_mono (F.run _ X.stack _ _ _ _ _ _ E (j.make C us [])
  (c.env0.make C us []) (l _ _ c.kIn y) i g) λr s' a=>?_))
 cases r with
 | error e=>show q ij d _ _ e s' c a
 | ok z=>
   cases z with
   | ret u=>
     let%[v,A,B,G,J|L]:=c.after a;subst J;show%[G,V.ref _,A,B,ρ|L]
   | next=>show M7 a
   | brk=>show M7 a
   | cont=>show M7 a
def Gz(M:Mk X.K C f)(F:d9 X.prog X.w X.K X.mg X.base CX k f fd ps sp)(d:bP (k+1) X.A)(g:Gl X x)(i:X.mg x∣.ref C)(j:ee X.K fd ps ds)(l:aN dvs ds)(n:iZ CX X E)
 (u:PA X (e::es) t) (a:(x==("__debug__":kG))=hY) (v:vi (e::es) X.env=(hY,Nk e X.env)::vi es X.env) (b:(NP pos (vi es X.env)).any (·.1)=hY):
 PE X (.Call (.Name x p) (e::es) [] pos) (Al C sp dvs E t):=by
 intro ij s w H Q I h;show NY (iW I g i (Uh I.ok.mod.kin M.kp (thP (u pos ij s w H _ I h) λus y vs z c r q=>%[c.kIn|Dr M F d j l n c r q]) v b) a)
end
abbrev PK(X:Cx)(a:gN O0)(t:TA):Prop:=
 ∀pos ij s (b:St) H Q,Qc X ij b H s->t b H Q->(X⁻¹) (evalAll ((PB pos (N4 a X.env))\2)) (AP X ij b Q) X.xe s
section
variable{X:Cx}{CX:CXT}{k:iv}{f C:kw}{fd:OP}{ps ks:ZB}{sp:Sp}{E:XK}{x m:kG}{p pos apos kpos:Pos}{e o:zr}{es:gN zr}{kws:gN O0}{te ta:TE}{t tk:TA}{nm:lx kG}
def JB:PK X [] yV:=λ_ _ _ _ H Q I h=>wpAny_evalAll_nil %[[],H,I,.nil|h]
def GA(b:PE X e te)(c:PK X kws t):PK X (%[nm,e|kpos]::kws) (Ah te t):=by
 intro pos ij s a H Q I h;change tI _ _ (evalAll ((do let v<-Nk e X.env;Pm pos;pure v)::(PB pos (N4 kws X.env))\2)) _ _ s;show wpAny_evalAll_cons (Z2 (thP (b ij s a H _ I h) λu d x g i j l=>Z2 (PV (Z3 ?_))));show thP (c pos ij d a g _ i l) λus y xs n q r w=>%[x::xs,n,q,.cons j r|w]
end
structure av (N P:ZB) (sc:RV):Prop where
 kind:sc.kind= .function
 co:sc.isCoroutine=hY
 gen:sc.isGenerator=hY
 nd:N.Nodup
 pre:N.take P.length=P
 par:∀x∈P,sc.names.lookup x∣.local\/sc.names.lookup x∣.cell
 nofree:∀y∈sc.names,y.2≠ .free
def sY{kindOf:kG->lx MN}:∀{binds:gN (kG×jg)} {m:ZC},(∀v,(x,v)∉binds)->VS kindOf binds m x=m x
 |[],_,_=>rfl
 |(n,v)::r,m,h=>by
  unfold VS;rw[sY λw hw=>h w (Zk _ hw)]
  split
  .let:x≠n:=by rintro rfl;show h v Zm
   simp[this]
  .rfl
def sZ{kindOf:kG->lx MN}:∀{binds:gN (kG×jg)} {m:ZC},(∀v,(x,v)∉binds)->VT kindOf binds m x=m x
 |[],_,_=>rfl
 |(n,v)::r,m,h=>by
  unfold VT;rw[sZ λw hw=>h w (Zk _ hw)]
  split
  .rfl
  .let:x≠n:=by rintro rfl;show h v Zm
   simp[this]
def tf{kindOf:kG->lx MN}{x:kG}:∀{P:ZB} {vs:ZG} {i:iv} {m:ZC},P.Nodup->P[i]?∣x->vs[i]?∣v->kindOf x∣.local->
 VS kindOf (P.zip vs) m x∣v
 |[],_,_,_,_,h,_,_=>by simp at h
 | _::_,[],_,_,_,_,h,_=>by simp at h
 | p::P,w::vs,0,m,nd,a,b,c=>by
   simp at a b;subst a;subst b;change VS kindOf ((p,w)::P.zip vs) m p=_;unfold VS;rw[sY λv d=>(NZ.mp nd).1 (Wn d).1,lp c];simp
 | p::P,w::vs,i+1,m,nd,a,b,c=>by
   change VS kindOf ((p,w)::P.zip vs) m x=_;show tf (NZ.mp nd).2 (a) (b) c
def ti{kindOf:kG->lx MN}{x:kG}:∀{P:ZB} {vs:ZG} {i:iv} {m:ZC},P.Nodup->P[i]?∣x->vs[i]?∣v->kindOf x≠hV .local->
 VT kindOf (P.zip vs) m x∣v
 |[],_,_,_,_,h,_,_=>by simp at h
 | _::_,[],_,_,_,_,h,_=>by simp at h
 | p::P,w::vs,0,m,nd,a,b,c=>by
   simp at a b;subst a;subst b;change VT kindOf ((p,w)::P.zip vs) m p=_;unfold VT;rw[sZ λv d=>(NZ.mp nd).1 (Wn d).1,ku c];simp
 | p::P,w::vs,i+1,m,nd,a,b,c=>by
   change VT kindOf ((p,w)::P.zip vs) m x=_;show ti (NZ.mp nd).2 (a) (b) c
abbrev start(N:ZB)(vs:gN V):St:=vs.map hV++I0 (~~~N-vs.length) hH
abbrev gi(CX:CXT)(P:nX)(w:wh)(K:ZA)(mg:ZC)(base:yc)(N:ZB)(qual:kG)(scope:RV)(f:kw)(cd:jg)(A:vj)(outer:gN Env)(s:md)(H:Hp)(E:XK):Cx where
 prog:=P
 w:=w
 K:=K
 mg:=mg
 base:=base
 A:=A.deeper (Nz qual scope ⇑s f cd)
 N:=N
 s₀:=s
 H₀:=H
 env:=Nz qual scope ⇑s f cd
 outer:=outer
 stack:=Nz qual scope ⇑s f cd::outer
 ex:=[]
 calm:=hX
 fn:=λ_=>hX
 pn:=[]
 xe:=λe s'=>tI (Nm P w) (A.deeper (Nz qual scope ⇑s f cd)) (leaving (Nz qual scope ⇑s f cd) e) (λ_ s''=>CX outer H s E e s'') (λe' s''=>CX outer H s E e' s'') s'
def wz{a:RV}{n:iv}{x:kG}(h:a.names.lookup x∣.cell):∃c,(Ni n a.names []).lookup x∣c:=by
 show QP.mp (RT a.names n [] (.inl h))
def BI{P:nX}{K:ZA}
 (S:av N ps a) (J:A.handled=hH) (g:yW P w K mg base A outer s H) (T: ~~~vs= ~~~ps) (r:aN vs us)
 (x:InCallC s ⇑s (VS (Nz d a ⇑s f C).kindOf (ps.zip us) λ_=>hH) (Ni (⇑s+1) a.names []) (VT (Nz d a ⇑s f C).kindOf (ps.zip us) λ_=>hH) L):
 Qc (gi CX P w K mg base N d a f C A outer s H E) [] (start N vs) H L:=by
 let M: ~~~ps<= ~~~N:=by let:=rM MV S.pre;rw[Yk]at this;lia
 let%[B,tk,rfl|G]:=x.done;let l:∀b,b∉(gi CX P w K mg base N d a f C A outer s H E).ex:=λb z=>n0 (show b∈([])from z) ∅
 show%[%[g.mod,S.kind,ρ,ρ,Zi _,λy z c B j=>?_,λy m=>?_,λy c _ h=>?_,λ_=>J,vj.frames_deeper g.frames,.inr %[ρ|ρ],λb z=>n0 z (l b),g.bs,g.bsz,λb _ _=>l b,λb z=>n0 z (l b),g.funs|g.frf],
  rfl,g.bare,Un.kept G,%[_,x.toInCall.ns|λi y v B j U=>?_],λy c h=>%[_|x.cell y c h],g.hok.fresh (Zi _),λy c h=>?_,λp n=>n0 (show p∈([])from n) ∅,g.hok.kept G|?_]
 .show name_of_addr x.apart (PySem.mem_of_lookup B) (PySem.mem_of_lookup j)
 .rcases m with m|m
  .show wz m
  .show n0 rfl (S.nofree _ (PySem.mem_of_lookup m))
 .show Ye (x.above y c (PySem.mem_of_lookup h))
 .let hi:i< ~~~vs:=by
   unfold start at j;by_cases hi:i< ~~~vs
   .show hi
   .rw[Ya ↑hi]at j;rw[TQ]at j
    split at j<;> cases j
  let O:vs[i]?∣v:=by
   unfold start at j;rw[Y9 ↑hi,Zl]at j
   simp_all
  let%[u,I|Q]:=r.get O;let n:ps[i]?∣y:=by
   rw[<-S.pre,Yb ⋯];show B
  let o:ps.Nodup:=S.pre▸S.nd.sublist (Vj _ _);show%[u,Q|?_];rcases S.par y (Z8 n)with k|k
  .show .inl %[k|tf o n I k]
  .let%[c|e]:=wz k;show .inr %[.inl k,c,e|?_];let q:=x.cell y c e;rw[ti o n I (by change a.names.lookup y≠_;rw[k];decide)]at q;show q
 .show g.hok.fresh (Ye (x.above y c (PySem.mem_of_lookup h)))
 .unfold start;change _= ~~~N;rw[Z9,Z6,gN.length_replicate]
  lia
def Ij{P:nX}{K:ZA}{T kV z U d ct oc:jg}
 (lk:K.lookup f=hV %[oc,od,.func (Ti name c g i a T kV z U an d ct)|ab]) (G:RS K d c=hX) (S:av N ps a)
 (len:∀vs H Q E,sp vs H Q E-> ~~~vs= ~~~ps)
 (l:∀(A:vj) (outer:gN Env) (s:md) (H:Hp) (vs:gN V) (Q:VK) (E:XK),bP k (A.deeper (Nz c a ⇑s f d))->sp vs H Q E->
  ∃t,PSs (gi CX P w K mg base N c a f d A outer s H E) i t/\t {nx:=λ_ j=>Q .non j,rt:=Q} (start N vs) H):
 d9 P w K mg base CX (k+1) f (Ti name c g i a T kV z U an d ct) ps sp:=by
 show%[len|λA outer s H args us vs Q E L B hb r C=>?_];let Y:=B.mod.kin.keeps λb o e=>(B.bs b o e).1
 let M:=B.mod.nolimit.keeps λb o e=>(B.bs b o e).1
 let m:∀y∈ps.zip us,a.names.lookup y.1∣_\/(a.names.lookup y.1∣_/\((Ni (⇑s+1) a.names []).lookup y.1).isSome=hX):=λ%[n|v] hy=>by
  rcases S.par n (Wn hy).1 with q|q
  .show .inl q
  .show .inr %[q|RT _ _ _ (.inl q)]
 show codeAny_call_function L.depth (Y _ _ lk) rfl S.co S.gen rfl (PySem.W.codeRec_of Y G) (hb _ _ _ _ (wpAny_newFunctionEnv_cells S.kind m λenv he s1 x=>?_));subst he;show%[M.keeps x.toInCall.keep|codeAny_func ?_];let%[t,ht|hq]:=l A outer s H vs Q E (L.deeper _) C;let I:Qc (gi CX P w K mg base N c a f d A outer s H E) [] _ H s1:=BI S L.hd B (len _ _ _ _ C) r x;show MZ (ht [] s1 _ H _ I hq) (λfl s' p=>?_) λe s' p=>p
 let fin:∀{h:St} {j:Hp} {v:V} {u:jg},Qc (gi CX P w K mg base N c a f d A outer s H E) [] h j s'->aX v u->Q v j->CE outer P w H s Q u s':=
  λ{h j v u} J O q=>%[v,j,J.os,J.bare,J.base,J.hok,O|q]
 cases fl with
 | ret u=>
   let%[v,h,j,J,O|q]:=p;show fin J O q
 | next=>
   let%[h,j,J|q]:=p;show fin (v:=V.non) J rfl q
 | brk=>
   let%[_,_,_|q]:=p
   simp_all
 | cont=>
   let%[_,_,_|q]:=p;show M7 q
section
variable{X:Cx}{x:kG}{p pos:Pos}{e:zr}{es:gN zr}{t:TA}{id T:M9}{r:gN V->Hp->VK->Prop}
abbrev tCB(r:gN V->Hp->VK->Prop)(t:TA):TE:=λa H Q=>t a H λvs b=>r vs b Q
def Dt(d:cF X (.builtin id) r)(f:Gl X x)(g:X.mg x=hH)(i:ND x∣.builtin id)(j:PA X (e::es) t)(l:x≠"__name__")(a:(x==("__debug__":kG))=hY)
 (m:vi (e::es) X.env=(hY,Nk e X.env)::vi es X.env) (b:(NP pos (vi es X.env)).any (·.1)=hY):PE X (.Call (.Name x p) (e::es) [] pos) (tCB r t):=by
 intro ij s c H Q I h;show NY (iX I f g i (Rh (thP (j pos ij s c H _ I h) λus n vs o q u v=>d ij n c o vs us Q q u v) m b) l a)
def BJ(d:cF X (.type T) r)(f:Gl X x)(g:X.mg x=hH)(i:ND x∣.type T)(j:PA X (e::es) t)(l:x≠"__name__")(a:(x==("__debug__":kG))=hY)
 (m:vi (e::es) X.env=(hY,Nk e X.env)::vi es X.env) (b:(NP pos (vi es X.env)).any (·.1)=hY):PE X (.Call (.Name x p) (e::es) [] pos) (tCB r t):=by
 intro ij s c H Q I h;show NY (iX I f g i (Nd (thP (j pos ij s c H _ I h) λus n vs o q u v=>d ij n c o vs us Q q u v) m b) l a)
end
end _LL
namespace _HT
open PySem PyProof.Rows
section
open PySem.SeqAt
open PySem.AutoSeq1 (wpAny_loadPart')
open PySem.MeetsSeq PySem.MeetsSeq2 PySem.MeetsSeq3
#where
abbrev sIx(n d:iv):lx on->iv
 | none=>d
 | some v=>if v<0 then(v+n).toNat else min v.toNat n
def sIx_none(n d:iv):sIx n d hH=d:=rfl
def sIx_nat(n d k:iv):sIx n d (hV k)=min k n:=by
 change(if k<0 then((k:on) +n).toNat else min _ n)=min k n;rw[ku ⋯,Pa]
end
end _HT
namespace _LL
open PySem PySem.Spec PyProof.Rows
noncomputable abbrev TO:=St->Hp->(lx on->Hp->Prop)->Prop
abbrev PO(X:Cx)(e:lx zr)(t:TO):Prop:=
 ∀ij s (a:St) H Q,Qc X ij a H s->t a H Q->
  (X⁻¹) (evalPart e X.env) (λu s'=>∃o b,Qc X ij a b s'/\IsPart u o/\Q o b) X.xe s
abbrev uX:TO:=λ_ H Q=>Q hH H
abbrev Du(t:TE):TO:=λa H Q=>t a H λx b=>asI x λi=>Q (hV i) b
section
variable{X:Cx}{e:zr}{te:TE}{lo hi:lx zr}{tl th:TO}{pos p2:Pos}
def GB:PO X hH uX:=by
 intro ij s a H Q I h;show Z3 %[hH,H,I,.none|h]
def GC(h:PE X e te):PO X (hV e) (Du te):=by
 intro ij s a H Q I hw;show thP (h ij s a H _ I hw) λu g x b c d f=>?_
 let%[i,rfl|q]:=dA f;let%[t|rfl]:=d;show%[hV i,b,c,.int i t|q]
abbrev SlR(X:Cx)(r:V->lx on->lx on->Hp->VK->Prop):Prop:=
 ∀ij s (a:St) H x v b c lo hi d Q,Qc X ij a H s->aX x v->s.heap.IsSliceOf d b c .none->IsPart b lo->IsPart c hi->r x lo hi H Q->
  ∃T id,Qv (.type T) "__getitem__"=pure (hV (.builtin id))/\s.TypeIs v T/\(X⁻¹) (TX v (.ref d)) (EP X ij a Q) X.xe s
abbrev tSl(r:V->lx on->lx on->Hp->VK->Prop)(te:TE)(tl th:TO):TE:=λa H Q=>te a H λx b=>tl a b λl c=>th a c λu d=>r x l u d Q
def Dv(c:SlR X r)(d:PE X e te)(f:PO X lo tl)(g:PO X hi th):PE X (.Subscript e (.Slice lo hi hH p2) pos) (tSl r te tl th):=by
 intro ij s a H Q I h;show Uo (thP (d ij s a H _ I h) λv i x j m n o=>wpAny_Slice (thP (f ij i a j _ m o) λp w l y z pl A=>thP (g ij w a y _ z A) λB C u E G J L=>Z3 ?_));let%[T,id,M,N|O]:=c ij _ a E x v p B l u ⇑C Q (G.kept λb U q=>Z7 _ q) n (SB ..) pl J L;show tail_any N M O (by with_unfolding_all rfl)
abbrev yX(xs:gN V)(lo hi:lx on):gN V:=(xs.drop (_HT.sIx xs.length 0 lo)).take (_HT.sIx xs.length xs.length hi-_HT.sIx xs.length 0 lo)
def wA(xs:gN V)(lo hi:lx on): ~~~(yX xs lo hi)<= ~~~xs:=by
 unfold yX;rw[Yk,Yg]
 lia
end
abbrev ixN(n:iv)(i:on):lx iv:=if 0<=i then(if i<n then hV i.toNat else hH)else if -n<=i then hV (i+n).toNat else hH
abbrev atI{a:Type}(xs:gN a)(i:on):lx a:=(ixN xs.length i).bind λj=>xs[j]?
def GD(h:ixN n i∣j):seqIndex? i n∣j/\j<n/\ -(n:on)<=i/\i<n:=by
 unfold ixN at h;by_cases b:0<=i
 .rw[lp b]at h;by_cases a:i<n
  .rw[lp a]at h;show%[by rw[seqIndex_of b a,(Za h)],⋯,⋯|a]
  simp_all
 .rw[ku b]at h;by_cases a: -n<=i
  .rw[lp a]at h;show%[by rw[seqIndex_neg ⋯ a,(Za h)],⋯,a|⋯]
  .rw[ku a]at h;cases h
def uY{a:Type}{xs:gN a}{i:on}{v:a}(h:atI xs i∣v):∃j,seqIndex? i xs.length∣j/\xs[j]?∣v/\j< ~~~xs/\ -xs.length<=i/\i< ~~~xs:=by
 unfold atI at h;cases e:ixN xs.length i with
 | none=>simp_all
 | some j=>
   rw[e]at h;let%[b,c,d|f]:=GD e;show%[j,b,h,c,d|f]
def cj{a:Type}{xs:gN a}{j:iv}{v:a}(h:xs[j]?∣v):atI xs j∣v:=by
 let b:=(Xl h).1;let e:ixN xs.length j∣j:=by
  unfold ixN
  simp_all
 unfold atI;show e▸h
def wB(xs:gN a)(v:a):atI (xs++[v]) (-1)∣v:=by
 let b: ~~~(xs++[v])= ~~~xs+1:=by simp
 let e:ixN (xs++[v]).length (-1)∣xs.length:=by
  unfold ixN;rw[b,ku (!1),lp ⋯]
  congr 1
  lia
 unfold atI
 simp_all
abbrev oS(b:zr):Prop:=∀o i,Tt b hY o i=operate [o,i] (TX o i)
abbrev IxR(X:Cx)(r:R2):Prop:=
 ∀b a ij s (c:St) H x y v u Q,Qc X ij c H s->aX x v->aX y u->r x y H Q->
  Tt a hY v u=operate [v,u] (TX v u)->(X⁻¹) (subscriptTail b a v u) (EP X ij c Q) X.xe s
abbrev MtR(X:Cx)(id:M9)(r:V->gN V->Hp->VK->Prop):Prop:=
 ∀ij s (a:St) H x xs v us Q,Qc X ij a H s->aX x v->aN xs us->r x xs H Q->
  (X⁻¹) (call (.builtin id) (v::us)) (EP X ij a Q) X.xe s
section
variable{X:Cx}{a b:zr}{ta tb:TE}{pos:Pos}
def Dw(c:IxR X r)(d:PE X a ta)(e:PE X b tb)(f:oS b):PE X (.Subscript a b pos) (tOp r ta tb):=by
 intro ij s g H Q I h;show Uo (Jk d e I h λv u i x y j l m n q=>c a b ij i g j x y v u Q l m n q (f _ _))
abbrev JC(K:ZA):R2:=λx y H Q=>asR x λp=>asI y λi=>∃xs,Qb K H p xs/\∃v,atI xs i∣v/\Q v H
abbrev JD(K:ZA):R2:=λx y H Q=>asR x λp=>asI y λi=>∃xs,SqT K H p xs/\∃v,atI xs i∣v/\Q v H
abbrev JE:R2:=λx y H Q=>asS x λz=>asI y λi=> ~~~z<=lX/\∃c,atI z.cps.toList i∣c/\Q (.str ⟨#[c]⟩) H
def GE:IxR X (JC X.K):=by
 intro d e ij s A H x y v u Q I B C h m;let%[p,rfl|f]:=aO h;let%[i,rfl,xs,E,z,G|q]:=dA f;cases B;let%[t|rfl]:=C;let%[its,r,pl|N]:=I.list E;let%[j,c,f,O,J|L]:=uY G;let%[w,n|g]:=r.get f;let M:= ~~~r;let T:=uV;let fin:EP X ij A Q w s:=%[z,H,I,g|q]
 by_cases o:0<=i
 .let l:=by
   rw[seqIndex_of o L]at c;show Za c
  show item_listR pl.isList o ⋯ (by rw[l];simpa using n) fin m
 .let l:(i+its.toArray.size).toNat=j:=by
   rw[seqIndex_neg ⋯ J]at c;rw[Zp,<-M];show Za c
  show U3 pl.isList.typeIs SM.lookup
   (wpAny_getItem_list_neg pl.isList ⋯ (!2) ⋯ (by rw[l];simpa using n) %[rfl|fin]) m
def JF:IxR X (JD X.K):=by
 intro c d ij s g H x y v u Q I l m h n;let%[p,rfl|e]:=aO h;let%[i,rfl,xs,o,z,A|q]:=dA e;cases l;let%[t|rfl]:=m;let%[its,r,pl|E]:=I.tuple o;let%[j,B,e,G,J|L]:=uY A;let%[w,C|f]:=r.get e;let M:=uV;let fin:EP X ij g Q w s:=%[z,H,I,f|q]
 show U3 pl.typeIs slot_tuple_getitem.lookup
  (getItem_tuple pl ⋯ ⋯ (by rw[Zp,<-r.length];show B) ↑C %[rfl|fin]) n
def JG:IxR X JE:=by
 intro d e ij s C H x y v u Q I m n h o;let%[z,rfl|f]:=d8 h;let%[i,rfl|g]:=dA f;let%[E,c,p|q]:=g;let%[t|rfl]:=m;let%[t'|rfl]:=n;let%[j,l,r,G,w|A]:=uY p;let B: ~~~z.cps.toList= ~~~z:=by simp[Ve]
 rw[B]at l w A;let J:=uV;show tail_any (O3 s z t) slot_str_getitem.lookup (getItem_str (by
  lia) (by rw[l];simpa using r) %[.str _,H,I.tok _,%[_|rfl]|q]) o
def uZ(lo hi:lx on)(n:iv):(Ol lo hi hH n).1=((_HT.sIx n 0 lo:iv):on)/\(Ol lo hi hH n).2.1=((_HT.sIx n n hi:iv):on)/\(Ol lo hi hH n).2.2=1:=by
 show%[?_,?_|ρ]
 .cases lo with
  | none=>simp[Ol,_HT.sIx]
  | some i=>
    simp only[Ol,_HT.sIx,getD_none,show(1:on)>0 by decide,Rr];by_cases h:i<0
    .simp only[h,Rr]<;> lia
    .simp only[h,OO]<;> lia
 .cases hi with
  | none=>simp[Ol,_HT.sIx]
  | some i=>
    simp only[Ol,_HT.sIx,getD_none,show(1:on)>0 by decide,Rr];by_cases h:i<0
    .simp only[h,Rr]<;> lia
    .simp only[h,OO]<;> lia
def rS(its:ZG)(lo hi:lx on):Xv its.toArray lo hi hH=((its.drop (_HT.sIx its.length 0 lo)).take (_HT.sIx its.length its.length hi-_HT.sIx its.length 0 lo)).toArray:=by
 let%[c,d|e]:=uZ lo hi its.toArray.size;unfold Xv;rw[c,d,e];simp only[sliceRange_one,pick_run]<;> rfl
abbrev JH(K:ZA):V->lx on->lx on->Hp->VK->Prop:=λx lo hi H Q=>asR x λa=>∃xs,Qb K H a xs/\∀p,H p=hH->Q (.ref p) (Qa H p (.lst (yX xs lo hi)))
def GF:SlR X (JH X.K):=by
 intro ij s m H x v n o lo hi p Q I f g pl i h;let%[a,rfl|d]:=aO h;let%[xs,j|q]:=d;cases f;let%[its,r,e|l]:=I.list j;let c:= ~~~r;show%["list",_,SM.lookup,e.isList.typeIs|UF e.isList g pl i .none ∅ ?_ (!2)];rw[rS,<-c];show%[.ref ⇑s,_,I.laid (λb u q=>Z7 _ q) (Zi _) ?_,ρ|q _ (I.hok.fresh (Zi _))];show%[nI (wA xs lo hi) l,_,0,(r.drop _).take _|Zj _ rfl]
abbrev kL:V->re
 | .non=>hX
 | .bl _=>hX
 | .int _=>hX
 | .str _=>hX
 | _=>hY
abbrev eqV:V->V->re
 | .non,.non=>hX
 | .bl a,.bl b=>a==b
 | .bl a,.int b=>(if a then 1 else 0)==b
 | .int a,.bl b=>a==(if b then 1 else 0)
 | .int a,.int b=>a==b
 | .str a,.str b=>a==b
 | _,_=>hY
def Dx(d:aX y u)(c:aX x v)(f:kL y=hX)(e:kL x=hX):M4 A s u v (eqV y x):=by
 cases y with
 | non=>
   cases d;cases x with
   | non=>cases c;show TU _
   | bl b=>cases c;show M4.none_bool b
   | int b=>have%[t|rfl]:=c;show M4.none_int b t
   | str b=>have%[t|rfl]:=c;show M4.none_str b t
   | _=>show n0 (show hY=hX from e) Zt
 | bl a=>
   cases d;cases x with
   | non=>cases c;show M4.bool_none a
   | bl b=>cases c;show M4.bool_bool a b
   | int b=>have%[t|rfl]:=c;show M4.bool_int a b t
   | str b=>have%[t|rfl]:=c;show M4.bool_str a b t
   | _=>show n0 (show hY=hX from e) Zt
 | int a=>
   let%[t'|rfl]:=d;cases x with
   | non=>cases c;show M4.int_none a t'
   | bl b=>cases c;show M4.int_bool a t' b
   | int b=>have%[t|rfl]:=c;show M4.int_int a t' b t
   | str b=>have%[t|rfl]:=c;show TC a t' b t
   | _=>show n0 (show hY=hX from e) Zt
 | str a=>
   let%[t'|rfl]:=d;cases x with
   | non=>cases c;show M4.str_none a t'
   | bl b=>cases c;show M4.str_bool a t' b
   | int b=>have%[t|rfl]:=c;show TB a t' b t
   | str b=>have%[t|rfl]:=c;show M4.str_str a t' b t
   | _=>show n0 (show hY=hX from e) Zt
 | _=>show n0 (show hY=hX from f) Zt
abbrev eqU(x:V)(u:jg):re:=match u with
 | .none=>eqV .non x
 | .bool b=>eqV (.bl b) x
 | .int i _=>eqV (.int i) x
 | .str z _=>eqV (.str z) x
 | _=>hY
def Dy(r:aX y u)(f:kL y=hX):eqU x u=eqV y x:=by
 cases y with
 | non=>cases r;rfl
 | bl b=>cases r;rfl
 | int i=>have%[t|rfl]:=r;rfl
 | str z=>have%[t|rfl]:=r;rfl
 | _=>show n0 (show hY=hX from f) Zt
def lL:∀{xs:gN V} {us:ZG},aN xs us->xs.all kL=hX->us.any (eqU x)=xs.any λy=>eqV y x
 | _,_,.nil,_=>rfl
 | y::xs,u::us,.cons r t,f=>by
   rw[VV,Zv]at f;rw[Zw,Zw,Dy r f.1,lL t f.2]
def jI(d:aX x v)(e:kL x=hX):∀{xs:gN V} {us:ZG},aN xs us->xs.all kL=hX->∀u∈us,M4 A s u v (eqU x u)
 | _,_,.nil,_=>λu c=>by cases c
 | y::xs,u::us,.cons r t,f=>λg c=>by
   rw[VV,Zv]at f;rcases Yv.mp c with rfl|c
   .rw[Dy r f.1];show Dx r d f.1 e
   .show jI d e t f.2 g c
abbrev inV(x:V)(xs:gN V):re:=xs.any λy=>eqV y x
abbrev rIn(K:ZA)(c:re):R2:=λx y H Q=>asR y λp=>∃xs,(Qb K H p xs\/SqT K H p xs)/\kL x=hX/\xs.all kL=hX/\Q (.bl (bif c then !inV x xs else inV x xs)) H
def tz:OpR X (pw .In) (rIn X.K hY):=by
 intro ij s j H x y v u Q I e g h;let%[p,rfl|d]:=aO h;let%[xs,c,f,fs|q]:=d;cases g;rcases c with c|c
 .let%[its,r,pl|i]:=I.list c;show SeqAt.in_listAt _ pl.isList (λw hw=>jI e f r fs w ↑hw) %[.bl _,H,I,rfl|?_];rw[show its.toArray.any _=its.any (eqU x) by simp,lL r fs];show q
 .let%[its,r,pl|i]:=I.tuple c;show SeqAt.in_tupleAt _ pl (λw hw=>jI e f r fs w ↑hw) %[.bl _,H,I,rfl|?_];rw[show its.toArray.any _=its.any (eqU x) by simp,lL r fs];show q
def u5:OpR X (pw .NotIn) (rIn X.K hX):=by
 intro ij s j H x y v u Q I e g h;let%[p,rfl|d]:=aO h;let%[xs,c,f,fs|q]:=d;cases g;rcases c with c|c
 .let%[its,r,pl|i]:=I.list c;show SeqAt.notIn_listAt _ pl.isList (λw hw=>jI e f r fs w ↑hw) %[.bl _,H,I,rfl|?_];rw[show its.toArray.any _=its.any (eqU x) by simp,lL r fs];show q
 .let%[its,r,pl|i]:=I.tuple c;show SeqAt.notIn_tupleAt _ pl (λw hw=>jI e f r fs w ↑hw) %[.bl _,H,I,rfl|?_];rw[show its.toArray.any _=its.any (eqU x) by simp,lL r fs];show q
def u8:OpR X (pw .NotIn) (λx y H Q=>asS x λi=>asS y λj=>Q (.bl (!(!(KE j i 0 j.length 1).isEmpty))) H):=by
 intro ij s g H x y v u Q I e f h;let%[i,rfl|c]:=d8 h;let%[j,rfl|d]:=d8 c;let q:=d;let%[t|rfl]:=e;let%[t'|rfl]:=f;show notIn_str %[.bl _,H,I,rfl|q]
def u9:cF X (.type "list") (λxs H Q=>cL xs λA=>asR A λp=>∃ys,(Qb X.K H p ys\/SqT X.K H p ys)/\∀l,H l=hH->Q (.ref l) (Qa H l (.lst ys))):=by
 intro ij s C H xs us Q I r h;let%[A,rfl|m]:=bC h;let%[p,rfl|v]:=aO m;let%[ys,f|q]:=v;let%[u,rfl|E]:=dc r;cases E;let fin:∀its,aN ys its-> ~~~ys<=lX->∀h' d,(∀b B,s.heap.get? b∣B->h'.get? b∣B)->
  h'.get? ⇑s∣_->EP X ij C Q _ (s>>>h'):=λits c g h' d i e=>
  %[.ref ⇑s,_,I.laid i (Zi _) (show bZ X.prog X.w _ h' _ (.lst ys)from%[g,its,d,c|e]),rfl|q _ (I.hok.fresh (Zi _))]
 rcases f with f|f
 .let%[its,c,pl|g]:=I.list f;let j:= ~~~c;let%[o,w,y,n|z]:=pl.isList;show call_list_seq p (.inl rfl) w y z (λh' d i e=>fin its c g h' d i e) (by simp only[Zp]<;> lia)
 .let%[its,c,pl|g]:=I.tuple f;let j:= ~~~c;let%[o,w,y,n|z]:=pl;show call_list_seq p (.inr rfl) w y z (λh' d i e=>fin its c g h' d i e) (by simp only[Zp]<;> lia)
abbrev tyV(K:ZA)(T:M9)(x:V)(H:Hp):Prop:=match x with
 | .str _=>T="str"
 | .int _=>T="int"
 | .ref p=>(T="list"/\∃xs,Qb K H p xs)\/(T="tuple"/\∃o,K.lookup p∣o/\o.cls= .type "tuple"/\o.dict=hH)\/
  (T="dict"/\((∃c,H p∣.dK c)\/∃c,H p∣.dT c))\/(T="set"/\∃S n,H p∣.set S n)
 | _=>MO
def Dz(I:Qc X ij q H s)(r:aX x v)(ty:tyV X.K T x H):
 s.TypeIs v T/\∀a,v= .ref a->∃j,s.heap.get? a∣j/\j.dict=hH:=by
 cases x with
 | str z=>
   let%[t|rfl]:=r;cases(show T="str" from ty);show%[O3 s z t|λ_ e=>nomatch e]
 | int i=>
   let%[t|rfl]:=r;cases(show T="int" from ty);show%[Wl s i t|λ_ e=>nomatch e]
 | ref p=>
   cases r;rcases ty with⟨rfl,xs,l⟩|⟨rfl,o,d,m,f⟩|⟨rfl,d⟩|⟨rfl,S,n,d⟩
   .let%[its,_,pl|_]:=I.list l;show%[pl.isList.typeIs|λa e=>?_];cases e;let%[o,n,e,c,f|_]:=pl;show%[o,e|f]
   .show%[%[o,I.kIn p o d|m]|λa e=>?_];cases e;show%[o,I.kIn _ o d|f]
   .let z:∃o,s.heap.get? p∣o/\o.ExactDict:=by
     rcases d with⟨g,d⟩|⟨g,d⟩
     .let%[_,_,_,_,o,_,_,e,ex|_]:=I.hok p _ d;show%[o,e|ex]
     .let%[_,_,_,_,o,_,_,e,ex|_]:=I.hok p _ d;show%[o,e|ex]
    let%[o,e|ex]:=z;show%[%[o,e|ex.1]|λa h=>?_];cases h;show%[o,e|ex.2.1]
   .let%[o,_,_,_,e,ex|_]:=I.hok p _ d;show%[%[o,e|ex.1]|λa h=>?_];cases h;show%[o,e|ex.2.1]
 | _=>show M7 ty
abbrev GG(K:ZA)(T:M9)(r:V->gN V->Hp->VK->Prop)(d:TE):TE:=λe H Q=>d e H λx c=>tyV K T x c/\r x [] c Q
abbrev tBM(K:ZA)(T:M9)(r:V->gN V->Hp->VK->Prop)(e:TE)(t:TA):TE:=λc H Q=>e c H λx d=>tyV K T x d/\t c d λxs f=>r x xs f Q
variable{o e:zr}{es:gN zr}{to:TE}{t:TA}{name:kG}{apos cpos:Pos}{T id:M9}{r:V->gN V->Hp->VK->Prop}
def JI(l:PR T)(slot:Slot T name id)(f:P8 (.builtin id)=pure (.type "method_descriptor"))(m:MtR X id r)(n:PE X o to)
 (c:NE o name X.env (Nk o X.env)=Nk o X.env) (d:(apos.endLine==cpos.line)=hX):PE X (.Call (.Attribute o name apos) [] [] cpos) (GG X.K T r to):=by
 intro ij s g H Q I h;show wpAny_Call_method0_late c d (thP (n ij s g H _ I h) λv p x q i j %[ty|u]=>?_);let%[w|y]:=Dz i j ty;show%[T,id,l,slot,f,w,y|TV rfl (PySem.evalArgs_none (m ij p g q x [] v [] Q i j .nil u))]
def LB(p:PR T)(slot:Slot T name id)(i:P8 (.builtin id)=pure (.type "method_descriptor"))(q:MtR X id r)(u:PE X o to)(w:PA X (e::es) t)
 (d:NE o name X.env (Nk o X.env)=Nk o X.env)
 (g:((NP cpos (vi (e::es) X.env)).all (λx=>!x.1)&&(PB cpos (N4 [] X.env)).all (λx=>x.1.isSome)
  && decide (~~~(e::es)+ ~~~([]:gN O0)+(if([]:gN O0).isEmpty then 0 else 1)<30))=hX)
 (f:(apos.endLine==cpos.line)=hX) (y:vi (e::es) X.env=(hY,Nk e X.env)::vi es X.env) (c:(NP cpos (vi es X.env)).any (·.1)=hY):
 PE X (.Call (.Attribute o name apos) (e::es) [] cpos) (tBM X.K T r to t):=by
 intro ij s j H Q I h;show wpAny_Call_method_late d g f rfl (thP (u ij s j H _ I h) λv z x A l m %[ty|B]=>?_);let%[C|E]:=Dz l m ty;show%[T,id,p,slot,i,C,E|?_];let n:=w cpos ij z j A _ l B;rw[y]at n ⊢;show TV (by change(hY||(NP cpos _).any _)=hY;rw[c]<;> rfl) (Calls.evalArgs_plain (thn n λus G %[vs,J,L,M|N]=>q ij G j J x vs v us Q L m M N))
end
abbrev MtM(X:Cx)(id:M9)(r:V->gN V->Hp->VK->Prop):Prop:=
 ∀ij s (a:St) H x xs v us Q,Qc X ij a H s->aX x v->aN xs us->r x xs H Q->
  (X⁻¹) (call (.builtin id) (v::us)) (EP X ij a Q) X.xe s
def aN.one:∀{x:V} {us:ZG},aN [x] us->∃u,us=[u]/\aX x u
 | _,_,.cons r .nil=>%[_,rfl|r]
def aN.zero:∀{us:ZG},aN [] us->us=[]
 | _,.nil=>rfl
def aN.eraseIdx:∀{xs:gN V} {us:ZG} i,aN xs us->aN (xs.eraseIdx i) (us.eraseIdx i)
 | _,_,_,.nil=> .nil
 | _,_,0,.cons _ t=>t
 | _,_,i+1,.cons r t=> .cons r (aN.eraseIdx i t)
def aN.reverse(h:aN xs us):aN xs.reverse us.reverse:=by
 induction h with
 | nil=>show .nil
 | cons r t a=>rw[R8,R8];show aN.append a (.cons r .nil)
def aN.rep(h:aN xs us):∀k:iv,aN (I0 k xs).flatten (I0 k us).flatten
 | 0=> .nil
 | k+1=>by
   show aN.append h (aN.rep h k)
def tD:∀(l:gN a) (i:iv),~~~(l.eraseIdx i)<= ~~~l
 |[],_=>Zi _
 | _::_,0=>Yf _
 | _::r,i+1=>X8 (tD r i)
def tE(its:ZG):∀k acc,
 UY (λa x2=>a++x2) acc.toArray (I0 k its.toArray)=(acc++(I0 k its).flatten).toArray
 | 0,acc=>by simp
 | k+1,acc=>by
   let e:acc.toArray++its.toArray=(acc++its).toArray:=by simp
   let b:(acc++its) ++(I0 k its).flatten=acc++(I0 (k+1) its).flatten:=by
    rw[RO,Vl,Ze]
   rw[<-b,<-tE its k _,<-e,RO,Y8]
section
#version
variable{l b:kw}{xs ys zs:gN V}
def Qc.lset{its its':ZG}{n:iv}{f:ZK->ZK}{t':iv}(I:Qc X ij σ H s)(a:H l<*xs)
 (e:s.heap.get? l=hV {cls:= .type "list",data:= .seq its.toArray n}) (c:f its.toArray=its'.toArray) (d:aN ys its') (g: ~~~ys<=lX):
 Qc X ij σ (Qa H l (.lst ys)) {s with heap:=s.heap.update l (NI f),toks:=t'}:=by
 let q:=PySem.IsL.update e f;rw[c]at q;show I.write (a▸trivial) (.inl rfl) (λj u h i=>(J5 s.heap _ (J0 h)).trans i) %[_|q] ?_;show%[g,its',_,d|q]
def Qc.lnew(I:Qc X ij σ H s)(a:aN ys its)(c: ~~~ys<=lX):
 Qc X ij σ (Qa H ⇑s (.lst ys)) {s with heap:=s.heap.push {cls:= .type "list",data:= .seq its.toArray},toks:=t'}:=
 I.laid (λ_ _ q=>Z7 _ q) (Zi _) %[c,its,0,a|Zj _ rfl]
def Qc.fresh(I:Qc X ij σ H s):H ⇑s=hH:=I.hok.fresh (Zi _)
def Qc.lstM(I:Qc X ij σ H s)(a:H l<*xs): ~~~xs<=lX/\∃its n,aN xs its/\ ~~~xs= ~~~its/\s.heap.get? l=hV {cls:= .type "list",data:= .seq its.toArray n}:=by
 let%[z,its,n,r|e]:=I.hok l _ a;show%[z,its,n,r,~~~r|e]
def wC{n:iv}(h:n<=lX):Op n=hY:=by
 unfold Op
 simp_all
end
section
variable{X:Cx}
abbrev va:V->gN V->Hp->VK->Prop:=λx vs H Q=>asR x λl=>cL vs λy=>∃xs,H l<*xs/\ ~~~xs<lX/\Q .non (Qa H l (.lst (xs++[y])))
def tF:MtM X "list.append" va:=by
 intro ij s g H x vs v us Q I b c h;let%[l,rfl|d]:=aO h;let%[y,rfl,xs,a,i|q]:=bC d;cases b;let%[u,rfl|f]:=c.one;let%[z,its,n,r,j|e]:=I.lstM a;show O6 F.slot_list_append %[_,e|rfl] F.entry_list_append (F.args_list_append_2 _ _) (PySem.list_append l its.toArray n u (!2)) %[e,.non,_,I.lset a e ∅ (r.append (.cons f .nil)) ?_,rfl|q];rw[Z9,Yj]
 lia
abbrev vb:V->gN V->Hp->VK->Prop:=λx vs H Q=>asR x λl=>cL vs λa=>asR a λb=>∃xs,H l<*xs/\∃zs,H b<*zs/\ ~~~xs+ ~~~zs<=lX/\Q .non (Qa H l (.lst (xs++zs)))
def BK:MtM X "list.extend" vb:=by
 intro ij s C H x vs v us Q I j m h;let%[l,rfl|c]:=aO h;let%[E,rfl|d]:=bC c;let%[b,rfl|f]:=aO d;let%[xs,i,zs,o,G|q]:=f;cases j;let%[u,rfl|p]:=m.one;cases p;let%[z,its,n,r,J|e]:=I.lstM i;let%[L,its2,w,y,A|B]:=I.lstM o;let g:its.toArray.size+its2.toArray.size<=lX:=!2
 let a: ¬ (!its.toArray.isEmpty&&Op (its.toArray.size+its2.toArray.size))=hX:=by
  rw[wC g,NC];show Zt
 show O6 F.slot_list_extend %[_,e|rfl] F.entry_list_extend (F.args_list_extend_2 _ _)
  (AutoSeq1.list_extend_list_list_0 l its.toArray n b its2.toArray w a ⋯ ⋯) %[e,B,.non,_,I.lset i e ∅ (r.append y) ?_,rfl|q]
 simp_all
abbrev yY:V->gN V->Hp->VK->Prop:=λx vs H Q=>asR x λl=>Gc vs (∃xs,H l<*xs/\Q .non (Qa H l (.lst [])))
def DC:MtM X "list.clear" yY:=by
 intro ij s i H x vs v us Q I f g h;let%[l,rfl|a]:=aO h;let%[rfl|b]:=C0 a;let%[xs,d|q]:=b;cases f;let c:=g.zero;subst c;let%[z,its,n,r,j|e]:=I.lstM d;show O6 F.slot_list_clear %[_,e|rfl] F.entry_list_clear (F.args_list_clear_1 _) (AutoSeq1.list_clear_list_0 l its.toArray n (by rw[Zp];lia)) %[e,.non,_,I.lset d e rfl .nil (Xe _),rfl|q]
abbrev JJ:R2:=λx y H Q=>asR x λl=>asR y λb=>∃xs,H l<*xs/\∃zs,H b<*zs/\ ~~~xs+ ~~~zs<=lX/\∀p,H p=hH->Q (.ref p) (Qa H p (.lst (xs++zs)))
def JK:OpR X (Nr .Add) JJ:=by
 intro ij s w H x y v u Q I d f h;let%[l,rfl|a]:=aO h;let%[b,rfl|c]:=aO a;let%[xs,g,zs,i,A|q]:=c;cases d;cases f;let%[z,its,n,r,B|e]:=I.lstM g;let%[C,its2,E,j,m|o]:=I.lstM i;show PySem.P.add_list e o ?_ (by rw[Zp,Zp];lia);let p:its.toArray++its2.toArray=(its++its2).toArray:=by simp
 rw[p];show%[.ref _,_,I.lnew (r.append j) (by rw[Z9];lia),ρ|q _ I.fresh]
abbrev JL:R2:=λx y H Q=>asR x λl=>asI y λk=>∃xs,H l<*xs/\ -(2^63)<=k/\k<2^63/\ ~~~xs*k.toNat<=lX/\∀p,H p=hH->Q (.ref p) (Qa H p (.lst (I0 k.toNat xs).flatten))
def GH(xs:gN a)(k:iv):(I0 k xs).flatten.length=k* ~~~xs:=by
 simp
def JM:OpR X (Nr .Mult) JL:=by
 intro ij s J H x y v u Q I w A h;let%[l,rfl|i]:=aO h;let%[k,rfl|j]:=dA i;let%[xs,B,C,E,p|q]:=j;cases w;let%[t|rfl]:=A;let%[z,its,n,r,G|e]:=I.lstM B;let c:its.toArray.size*k.toNat<=lX:=by rw[Zp,<-G];show p
 let d: ¬ its.toArray.size*k.toNat>(2^63-1)/8:=by
  let:lX<=(2^63-1)/8:=!1
  lia
 let f: ¬ (!Builtin.List.listFitsIndex k)=hX:=by
  rw[fitsIndex_both C E];show Zt
 let b: ¬ Op (its.toArray.size*k.toNat)=hX:=by
  rw[wC c];show Zt
 let g:UY (λo x2=>o++x2) #[] (I0 (if its.toArray.isEmpty=hX then 0 else k.toNat) its.toArray)=(I0 k.toNat its).flatten.toArray:=by
  let L:∀m,UY (λo x2=>o++x2) #[] (I0 m its.toArray)=(I0 m its).flatten.toArray:=λm=>by
   let:=tE its m []
   simp_all
  cases its with
  | nil=>simp
  | cons a M=>simp_all
 show wpAny_binaryOp_repeat_ref (!1) %[_,e|rfl] (λs'=>Wl s' k t) noFill_list_mul F.fills_int_mul W2 repeat_list F.slot_int_index.lookup
  (O6 W2 (Wl s k t) F.entry_int_rmul (F.args_int_rmul_2 _ _) (int___rmul___int_list k t l its.toArray n)
   %[e,rfl,%[_,e|rfl]|O6 F.slot_list_mul %[_,e|rfl] F.entry_list_mul (F.args_list_mul_2 _ _) (AutoListH.list___mul___list_int_3 l its.toArray n k t f d b) %[e|?_]])
 rw[g];show%[.ref _,_,I.lnew (r.rep k.toNat) (by rw[GH,iv.mul_comm];show p),ρ|q _ I.fresh]
#where
end
section
variable{κ:Type}[MY κ]
abbrev bQ(a:gN (κ×V))(k:κ):lx V:=(a.find? λb=>decide (b.1=k))\2
abbrev dw(a:gN (κ×V))(k:κ)(v:V):gN (κ×V):=
 if(a.any λb=>decide (b.1=k))=hX then a.map (λb=>if b.1=k then(b.1,v)else b)else a++[(k,v)]
def eX{p:κ×V}{r:gN _}{k:κ}(e:p.1=k):bQ (p::r) k∣p.2:=by simp[bQ,e]
def dB{p:κ×V}{r:gN _}{k:κ}(e: ¬ p.1=k):bQ (p::r) k=bQ r k:=by simp[bQ,e]
def jJ(k:κ):∀a,(a.any λb=>decide (b.1=k))=(bQ a k).isSome
 |[]=>rfl
 | p::r=>by
   rw[Zw];by_cases e:p.1=k
   .simp only[eX e,Zf e,T2,lx.isSome_some]
   .rw[dB e,Zh e,TH];show jJ k r
def hZ(a:gN _)(k:κ)(v:V): ~~~(dw a k v)<= ~~~a+1:=by
 unfold dw
 split
 .simp
 simp_all
def dC{k:κ}(v:V)(h:bQ a k=hH):dw a k v=a++[(k,v)]:=by
 unfold dw;rw[jJ,h];show ku (!1)
def g9.isSome_eq(r:g9 o u):o.isSome=u.isSome:=by
 cases o with
 | none=>cases u with
   | none=>rfl
   | some _=>show(r).elim
 | some _=>cases u with
   | none=>show(r).elim
   | some _=>rfl
def g9.getD{o:lx V}{u:lx jg}{d:V}{a:jg}(r:g9 o u)(b:aX d a):aX (o.getD d) (u.getD a):=by
 cases o with
 | none=>cases u with
   | none=>show b
   | some _=>show(r).elim
 | some _=>cases u with
   | none=>show(r).elim
   | some _=>show r
def KV.val{vs:gN (κ×jg)}(r:KV a vs)(k:κ):g9 (bQ a k) (SL vs k):=by
 induction r with
 | nil=>show M8
 | @cons p q ps qs h t f=>
   let%[d|g]:=h;by_cases e:p.1=k
   .let c:=d.symm.trans e;let b:SL (q::qs) k∣q.2:=by simp[SL,c]
    rw[eX e,b];show g
   .let c: ¬ q.1=k:=λz=>e (d.trans z)
    let b:SL (q::qs) k=SL qs k:=by simp[SL,c]
    rw[dB e,b];show f
def KV.any(r:KV a vs)(k:κ):(a.any λb=>decide (b.1=k))=vs.any λb=>decide (b.1=k):=by
 induction r with
 | nil=>rfl
 | cons h t c=>simp_all
def KV.repl(r:KV c vs)(k:κ)(d:aX y u):
 KV (c.map λa=>if a.1=k then(a.1,y)else a) (vs.map λa=>if a.1=k then(a.1,u)else a):=by
 induction r with
 | nil=>show .nil
 | @cons p q ps qs h t f=>
   rw[Yp,Yp];show .cons ?_ f;let%[b|g]:=h;by_cases e:p.1=k
   .rw[lp e,lp (b.symm.trans e)];show%[b|d]
   .rw[ku e,ku (λz=>e (b.trans z))];show%[b|g]
def KV.put(r:KV a vs)(k:κ)(b:aX y u):KV (dw a k y) (stored vs k u):=by
 unfold dw stored;rw[r.any k];by_cases e:(vs.any λc=>decide (c.1=k))=hX
 .rw[lp e,lp e];show r.repl k b
 .rw[ku e,ku e];show Paired.snoc r %[rfl|b]
def KV.keys{a:gN (κ×V)}{vs:gN (κ×jg)}(r:KV a vs):a\1=vs\1:=by
 induction r with
 | nil=>rfl
 | cons h t b=>simp_all
def KV.length{a:gN (κ×V)}{vs:gN _}(r:KV a vs): ~~~a= ~~~vs:=Paired.length r
end
def pD{P:nX}(r:aX (kV k) u):(aU P w).is k u=hX:=by
 cases k with
 | inl i=>have%[t|e]:=(r);subst e;show wt P w i t
 | inr x=>have%[t|e]:=(r);subst e;show wu P w x t
def tG{P:nX}:∀{ks:gN Key} {us:ZG},aN (ks.map kV) us->ItemsAre (aU P w) ks us
 |[],_,r=>by cases r;show .nil
 | k::ks,_,r=>by
   cases r with
   | cons h t=>show .cons (pD h) (tG t)
noncomputable abbrev KT(H:Hp):gN (gN Key×V)->gN (gN Key×kw×jg)->Prop:=Paired λp q=>p.1=q.1/\H q.2.1&&&p.1.map kV/\aX p.2 q.2.2
def KT.val{a:gN (gN Key×V)}{xs:gN (gN Key×kw×jg)}(r:KT H a xs)(k:gN Key):g9 (bQ a k) ((US xs k)\2):=by
 induction r with
 | nil=>show M8
 | @cons p q ps qs h t f=>
   let%[d,_|g]:=h;by_cases e:p.1=k
   .let c:=d.symm.trans e;let b:US (q::qs) k∣q.2:=by simp[US,c]
    rw[eX e,b];show g
   .let c: ¬ q.1=k:=λz=>e (d.trans z)
    let b:US (q::qs) k=US qs k:=by simp[US,c]
    rw[dB e,b];show f
def KT.repl(r:KT H b xs)(k:gN Key)(f:aX y u):
 KT H (b.map λc=>if c.1=k then(c.1,y)else c) (xs.map (putAt k u)):=by
 induction r with
 | nil=>show .nil
 | @cons p q ps qs h t g=>
   rw[Yp,Yp];show .cons ?_ g;let%[a,d|i]:=h;unfold putAt;by_cases e:p.1=k
   .rw[lp e,lp (a.symm.trans e)];show%[a,d|f]
   .rw[ku e,ku (λz=>e (a.trans z))];show%[a,d|i]
def KT.put(r:KT H a xs)(k:gN Key)(d:H b&&&k.map kV)(c:aX y u):
 KT H (dw a k y) (storedH xs k b u):=by
 let e:(a.any λf=>decide (f.1=k))=(US xs k).isSome:=by
  rw[jJ,(r.val k).isSome_eq,Wr]
 unfold dw storedH;rw[e];by_cases q:(US xs k).isSome=hX
 .rw[lp q,lp q];show r.repl k c
 .rw[ku q,ku q];show Paired.snoc r %[rfl,d|c]
def KT.keeps(r:KT H a xs)(c:∀b ys,H b&&&ys->d b&&&ys):KT d a xs:=
 Paired.mapP r λ_ _ z=>%[z.1,c _ _ z.2.1|z.2.2]
section
variable{P:nX}{w:wh}{H:Hp}{h:yc}{a:kw}
def Ik(ok:HOk P w H h)(e:Rd H a u):bZ P w H h a u:=e.ok ok
def kM(ok:HOk P w H h)(e:Rd H a (.dK b)): ~~~b<=lX/\(a==NO)=hY/\∃vs,KV b vs/\h.DictOf (aU P w) a vs:=
 Ik ok e
def lM(ok:HOk P w H h)(e:H a∣.dK b): ~~~b<=lX/\(a==NO)=hY/\∃vs,KV b vs/\h.DictOf (aU P w) a vs:=kM ok (.inl e)
def pE(ok:HOk P w H h)(e:H a&&&ks.map kV):(Te (aU P w)).is h ks a:=by
 let%[_,its,r,o,b,c,n|d]:=(ok a _ e)
 show%[o,its.toArray,n,b,c,d|tG r]
def wD(ok:HOk P w H h)(e:Rd H a (.dT b)): ~~~b<=lX/\(a==NO)=hY/\
 ∃xs,KT H b xs/\h.DictOfH (Te (aU P w)) a xs:=by
 let%[z,y,xs,r,o,es,d,f,g,i,j|n]:=(Ik ok e)
 show%[z,y,xs,r,o,es,d,f,g,i,j,λx c=>?_|n];let all:∀{l:gN _} {m:gN _},KT H l m->∀x∈m,(Te (aU P w)).is h x.1 x.2.1:=by
  intro l m q
  induction q with
  | nil=>simp
  | @cons p q ps qs u t s=>
    intro x c;rcases Yv.mp c with e|c
    .show pE ok (!2)
    .show s x c
 show all r x c
def Il(ok:HOk P w H h)(e:H a∣.dT b): ~~~b<=lX/\(a==NO)=hY/\
 ∃xs,KT H b xs/\h.DictOfH (Te (aU P w)) a xs:=wD ok (.inl e)
end
abbrev cc(H:Hp)(a:kw)(y:V)(r:lx V):Prop:=
 (∃c k,Rd H a (.dK c)/\y=kV k/\r=bQ c k)\/∃c k b,Rd H a (.dT c)/\y= .ref b/\H b&&&k.map kV/\r=bQ c k
abbrev fA(H:Hp)(a:kw)(y v:V)(d:Hp):Prop:=
 (∃c k,H a∣.dK c/\y=kV k/\ ~~~c<lX/\d=Qa H a (.dK (dw c k v)))\/
 ∃c k b,H a∣.dT c/\y= .ref b/\H b&&&k.map kV/\ ~~~c<lX/\d=Qa H a (.dT (dw c k v))
def cc.k{k:Key}(e:H a∣.dK b):cc H a (kV k) (bQ b k):= .inl %[b,k,.inl e,rfl|rfl]
def fA.k{k:Key}(e:H a∣.dK b)(c: ~~~b<lX):fA H a (kV k) v (Qa H a (.dK (dw b k v))):= .inl %[b,k,e,rfl,c|rfl]
def fA.t{c:gN (gN Key×V)}{k:gN Key}(e:H a∣.dT c)(d:H b&&&k.map kV)(f: ~~~c<lX):
 fA H a (.ref b) v (Qa H a (.dT (dw c k v))):= .inr %[c,k,b,e,rfl,d,f|rfl]
section
#version
variable{a:kw}{y v:V}{u r:jg}{o:lx V}{A:vj}{E:ZE}
def Qc.big(I:Qc X ij σ H s):NO<⇑s:=by
 show XI (!1) ((I.mod.glob.keeps I.bk).lt)
def BL(w:A.units+1<Os)(I:Qc X ij σ H s)(g:cc H a y (hV v))(q:aX y u)(h:∀f s',Qc X ij σ H s'->aX v f->Q f s'):
 tI (Nm X.prog X.w) A (TX (.ref a) u) Q E s:=by
 rcases g with⟨i,k,e,j,l⟩|⟨i,k,b,e,j,B,l⟩
 .subst j;let%[z,C,vs,c|m]:=kM I.hok e;let%[f,hw|d]:=g9.some_of (l▸c.val k);show wpAny_getItem_of (pD q) m.mapOf hw (h f _ (I.tok _) d)
 .subst j;cases(q);let%[z,C,xs,c|m]:=wD I.hok e;let%[f,hw|d]:=g9.some_of (l▸c.val k);let%[p,G|n]:=MS.mp hw;show wpAny_getItem_heap (Qw w) (pE I.hok B) m G ?_;rw[n];show h f _ (I.tok _) d
def d_in(n:A.units+1<Os)(I:Qc X ij σ H s)(g:cc H a y o)(m:aX y u)(h:∀s',Qc X ij σ H s'->Q (.bool o.isSome) s'):
 tI (Nm X.prog X.w) A (pw .In u (.ref a)) Q E s:=by
 rcases g with⟨d,k,e,f,l⟩|⟨d,k,b,e,f,p,l⟩
 .subst f;let%[z,i,vs,c|j]:=kM I.hok e;show wpAny_in_of (pD m) i j.mapOf ?_;rw[<-(c.val k).isSome_eq,<-l];show h _ (I.tok _)
 .subst f;cases(m);let%[z,i,xs,c|j]:=wD I.hok e;show wpAny_in_heap (Qw n) (pE I.hok p) i j ?_;let q:=(c.val k).isSome_eq;rw[Wr]at q;rw[<-q,<-l];show h _ (I.tok _)
def GI(n:A.units+1<Os)(I:Qc X ij σ H s)(g:cc H a y o)(m:aX y u)(h:∀s',Qc X ij σ H s'->Q (.bool (!o.isSome)) s'):
 tI (Nm X.prog X.w) A (pw .NotIn u (.ref a)) Q E s:=by
 rcases g with⟨d,k,e,f,l⟩|⟨d,k,b,e,f,p,l⟩
 .subst f;let%[z,i,vs,c|j]:=kM I.hok e;show wpAny_notIn_of (pD m) i j.mapOf ?_;rw[<-(c.val k).isSome_eq,<-l];show h _ (I.tok _)
 .subst f;cases(m);let%[z,i,xs,c|j]:=wD I.hok e;show wpAny_notIn_heap (Qw n) (pE I.hok p) i j ?_;let q:=(c.val k).isSome_eq;rw[Wr]at q;rw[<-q,<-l];show h _ (I.tok _)
def lN(I:Qc X ij σ H s)(d:Mut (H a))(e:vu a s.heap h')(f:∃q,h'.get? a∣q)(new:bZ X.prog X.w (Qa H a c) h' a c):
 Qc X ij σ (Qa H a c) {s with heap:=h',toks:=t'}:=
 I.write d (.inl rfl) (λb q g z=>(e.2 b g).trans z) f new
def pF{P:nX}(z: ~~~b<=lX)(d:(a==NO)=hY)(c:KV b vs)(e:h'.DictOf (aU P w) a vs):
 bZ P w f h' a (.dK b):=%[z,d,vs,c|e]
def BM(N:A.units+1<Os)(I:Qc X ij σ H s)(g:fA H a y v O)(G:aX y u)(J:aX v r)(h:∀s',Qc X ij σ O s'->Q () s'):
 tI (Nm X.prog X.w) A (setItem (.ref a) u r) Q E s:=by
 rcases g with⟨d,k,e,m,l,n⟩|⟨d,k,b,e,m,L,l,n⟩
 .subst m n;let%[z,p,vs,f|w]:=lM I.hok e;let T: ~~~vs<=lX:= ~~~f▸z;let B: ~~~(dw d k v)<=lX:=by let:=hZ d k v;lia
  show wpAny_setItem_pairs (pD G) w λh' i C=>h _ (lN I (e▸M8) C (let%[q,_,_,j|_]:=i;%[q|j]) (pF B p (f.put k J) i))
 .subst m n;cases(G);let%[z,p,xs,f|w]:=Il I.hok e;let T: ~~~xs<=lX:=(Paired.length f)▸z;let B: ~~~(dw d k v)<=lX:=by let:=hZ d k v;lia
  show wpAny_setItem_heap (Qw N) (pE I.hok L) w λh' i C=>h _ ?_
  let%[q,es,U,j,Y,h3,h4,_|h5]:=i;show lN I (e▸M8) C %[q|j] %[B,p,_,(f.put k L J).keeps λc ys M=>?_,q,es,U,j,Y,h3,h4|h5];rw[aq (pA M e (λz=>nomatch z))];show M
variable{kvs:gN (Key×V)}{k:Key}
def GJ(I:Qc X ij σ H s)(e:H a∣.dK kvs)(h:∀s',Qc X ij σ (Qa H a (.dK [])) s'->Q .none s'):tI (Nm X.prog X.w) A (call (.builtin "dict.clear") [.ref a]) Q E s:=by
 let%[z,f,vs,c|d]:=lM I.hok e;show Rw PySem.F.slot_dict_clear d.typeIs PySem.F.entry_dict_clear (PySem.F.args_dict_clear_1 _) (meets_dict_clear (aU X.prog X.w) a) %[vs,d,by rw[<-c.length];show z|λh' b g=>h _ ?_];let i:∃q,h'.get? a∣q:=let%[q,_,_,j|_]:=b;%[q|j];show lN (t':=s.toks) I (by rw[e];show M8) g i (pF (Xe _) f .nil b)
end
abbrev JN(i:zr):Prop:=∀a b,Tt i hY a b=operate [a,b] (TX a b)
def GK{T id:M9}
 (l:Qv (.type T) "__getitem__"=pure (hV (.builtin id))) (m:JN a)
 (h:↥A (Nk c env) (λo e=>↥A (Nk a env) (λi b=>b.TypeIs o T/\↥A (TX o i) Q E b) E e) E s):
 ↥A (Nk (.Subscript c a pos) env) Q E s:=by
 show Uo (MZ h (λo e g=>MZ g (λi b d=>?_) λ_ _ x=>x) λ_ _ x=>x);let%[n|d]:=d;show Z2 (Z2 (P7 n l ?_));let fin:↥A (Tt a hY o i) (λr f=>↥A (letTemporaryGo c o r>>= λ_=>pure r) Q E f) E b:=by
  rw[m o i];show wpAny_operating (MZ d (λr f j=>Z2 (wpAny_letTemporaryGo (Z3 j))) λ_ _ x=>x)
 first
  | show Z3 (Z2 fin)
  | lia
  | lia
def wE{X:Cx}(I:Qc X ij f H s)(g:cc H a y o):s.TypeIs (.ref a) "dict":=by
 rcases g with⟨c,k,e,_,_⟩|⟨c,k,b,e,_,_,_⟩
 .let%[_,_,vs,_|d]:=kM I.hok e;show d.typeIs
 .let%[_,_,xs,_|d]:=wD I.hok e;show d.typeIs
abbrev DD(d ty:TE):TE:=λb H Q=>d b H λx e=>ty b e λy c=>asR x λa=>∃v,cc c a y (hV v)/\Q v c
abbrev GL(ty d:TE):TE:=λb H Q=>ty b H λy e=>d b e λx c=>asR x λa=>∃o,cc c a y o/\Q (.bl o.isSome) c
abbrev ve(ty d:TE):TE:=λb H Q=>ty b H λy e=>d b e λx c=>asR x λa=>∃o,cc c a y o/\Q (.bl (!o.isSome)) c
abbrev pG(d ty e:TE):TS:=λD b H=>e b H λv f=>d b f λx g=>ty b g λy h=>asR x λa=>∃c,fA h a y v c/\D.nx b c
section
variable{X:Cx}{o i e value:zr}{pos pos' tpos:Pos}{td ty tv:TE}
def GM(f:X.A.units+1<Os)(j:PE X o td)(hi:PE X i ty)(l:JN i):PE X (.Subscript o i pos) (DD td ty):=by
 intro ij s c H Q I h;show GK PySem.F.slot_dict_getitem.lookup l (thP (j ij s c H _ I h) λu m x n p q r=>thP (hi ij m c n _ p r) λC E y w d z h=>?_);let%[a,rfl,v,g|A]:=aO h;obtain rfl:u=m4 a:=q;show%[wE d g|BL f d g z λG J B b=>%[v,w,B,b|A]]
def DE(c:X.A.units+1<Os)(hi:PE X i ty)(d:PE X o td):PC X .In i o (GL ty td):=by
 intro ij s b H Q I h;show thP (hi ij s b H _ I h) λA f y j l m n=>thP (d ij f b j _ l n) λu B x p q r h=>?_
 let%[a,rfl,v,g|w]:=aO h;obtain rfl:u=m4 a:=r;show d_in c q g m λC z=>%[.bl v.isSome,p,z,rfl|w]
def BN(c:X.A.units+1<Os)(hi:PE X i ty)(d:PE X o td):PC X .NotIn i o (ve ty td):=by
 intro ij s b H Q I h;show thP (hi ij s b H _ I h) λz f y j l m n=>thP (d ij f b j _ l n) λu A x p q r h=>?_
 let%[a,rfl,B,g|v]:=aO h;obtain rfl:u=m4 a:=r;show GI c q g m λC w=>%[.bl _,p,w,rfl|v]
def GN(c:X.A.units+1<Os)(d:PE X o td)(hi:PE X i ty)(f:PE X value tv)(j:Pb value (hV (.Subscript o i pos')) pos.line X.env=pure hY):
 PS X (.Assign [.Subscript o i pos'] value pos) (pG td ty tv):=by
 intro ij s b H D I h;show wpAny_Assign_Subscript (thP (f ij s b H _ I h) λr l v m n p q=>thP (d ij l b m _ n q) λu w x z A B C=>thP (hi ij w b z _ A C) λN O y Q E G h=>?_) j;let%[a,rfl,J,g|L]:=aO h;obtain rfl:u=m4 a:=B;show BM c E g G p λT M=>%[b,J,M|L]
end
def DF{P:nX}(h:yc)(a:NO<h.objs.size):bZ P w H (h.push {cls:= .type "dict",data:= .dict #[]}) h.objs.size (.dK []):=
 %[Xe _,MR.mpr (J0 (Zs a)),[],.nil|yc.DictOf.new h]
def DG{P:nX}(h:yc)(a:NO<h.objs.size):bZ P w H (h.push {cls:= .type "dict",data:= .dict #[]}) h.objs.size (.dT []):=
 %[Xe _,MR.mpr (J0 (Zs a)),[],.nil,_,#[],0,Zj _ rfl,%[rfl,rfl|rfl],rfl,rfl|X3]
abbrev yZ:TE:=λ_ H Q=>∀p,H p=hH->Q (.ref p) (Qa H p (.dK []))
abbrev y4:TE:=λ_ H Q=>∀p,H p=hH->Q (.ref p) (Qa H p (.dT []))
section
variable{X:Cx}{pos:Pos}
def DH:PE X (.Dict [] [] pos) yZ:=λij s a H Q I h=>
 Xs %[.ref ⇑s,_,I.laid (λ_ _ q=>Z7 _ q) (Zi _) (DF s.heap I.big),rfl|h _ (I.hok.fresh (Zi _))]
def DI:PE X (.Dict [] [] pos) y4:=λij s b H Q I h=>
 Xs %[.ref ⇑s,_,I.laid (a:=⇑s) (o:= .dT []) (t':=s.toks) (λ_ _ q=>Z7 _ q) (Zi _) (DG s.heap I.big),rfl|h _ (I.hok.fresh (Zi _))]
end
abbrev i4(a more:gN (Key×V)):gN (Key×V):=more.foldl (λacc b=>dw acc b.1 b.2) a
def KV.merge:∀{more:gN _} {rs:gN _} {a:gN _} {vs:gN _},KV more rs->KV a vs->KV (i4 a more) (merged vs rs):=by
 intro more rs a vs r
 induction r generalizing a vs with
 | nil=>intro q;show q
 | @cons p q ps qs h t b=>
   intro c;let e:KV (dw a p.1 p.2) (stored vs q.1 q.2):=by
    let:=c.put p.1 h.2;show h.1▸this
   show b e
def kN:∀more a,~~~(i4 a more)<= ~~~a+ ~~~more
 |[],a=>by change ~~~a<= ~~~a+0;lia
 | p::r,a=>by
   let b:=kN r (dw a p.1 p.2);let c:=hZ a p.1 p.2;change(i4 _ r).length<=_
   grind
structure M1 (X:Cx) (o:zr) (m:kG) (apos:Pos) (e:zr) (cpos:Pos):Prop where
 base:NE o m X.env (Nk o X.env)=Nk o X.env
 few:((NP cpos (vi [e] X.env)).all (λx=>!x.1)&&(PB cpos (N4 [] X.env)).all (λx=>x.1.isSome)
  && decide (~~~([e])+ ~~~([]:gN O0)+(if([]:gN O0).isEmpty then 0 else 1)<30))=hX
 line:(apos.endLine==cpos.line)=hX
 trees:NP cpos (vi [e] X.env)=[(hY,Nk e X.env)]
structure M2 (X:Cx) (o:zr) (m:kG) (apos:Pos) (e f:zr) (cpos:Pos):Prop where
 base:NE o m X.env (Nk o X.env)=Nk o X.env
 few:((NP cpos (vi [e,f] X.env)).all (λx=>!x.1)&&(PB cpos (N4 [] X.env)).all (λx=>x.1.isSome)
  && decide (~~~([e,f])+ ~~~([]:gN O0)+(if([]:gN O0).isEmpty then 0 else 1)<30))=hX
 line:(apos.endLine==cpos.line)=hX
 trees:NP cpos (vi [e,f] X.env)=[(hY,Nk e X.env),(hY,Nk f X.env)]
section
#version
variable{a:kw}{y d:V}{u r:jg}{o:lx V}{A:vj}{E:ZE}
end
section
#version
variable{a:kw}{kvs:gN (Key×V)}{A:vj}{E:ZE}
def DJ(I:Qc X ij σ H s)(e:Rd H a (.dK kvs))(h:∀p s',H p=hH->Qc X ij σ (Qa H p (.dK kvs)) s'->Q (.ref p) s'):tI (Nm X.prog X.w) A (call (.type "dict") [.ref a]) Q E s:=by
 let%[z,g,vs,c|i]:=kM I.hok e;show kt_call_dict g i (by rw[<-c.length];show z) λh' d j=>?_
 show h _ _ (I.hok.fresh (Zi _)) (I.laid (a:=⇑s) (o:= .dK kvs) (t':=s.toks) (λb q f=>?_) (Zi _) (pF z (MR.mpr (J0 (Zs I.big))) c d));show(j.2 b (Zs (Zu f))).trans (Z7 _ f)
end
end _LL
namespace _AT
open PySem PySem.W PySem.Calls PyProof.Rows
def oC{P:Params}:∀(c:ZM) (vs:ZG),WellAll P h vs (c.map XY)->Vn vs c:=by
 intro c
 induction c with
 | nil=>
   intro vs w;cases w;show .nil
 | cons n c d=>
   intro vs w;cases w with
   | cons a b=>
     cases a;show .cons _ _ (d _ b)
def BO{l:WY}(o:l.most∣n){P:Params}
 (b:l.row.toRowW.claim.pre args=hX) (j:WellAll P h e args):
 ∃a vs c,e=[m4 a]/\args=[WData.list (c.map XY)]/\h.get? a=hV {cls:= .type "list",data:= .seq vs.toArray}/\Vn vs c/\ ~~~c<=n:=by
 let m:l.pre.holds [] _=hX:=(pre_splitW b).2;let%[d,r,rfl,p|q]:=hasAllW_cons ((pre_splitW b).1);obtain rfl:=hasAllW_nil q;let%[xs,rfl|s]:=hasW_list p;let%[c|rfl]:=items_int s;let f: ~~~c<=n:=by
  unfold WY.pre at m;let i:=by
   let i:=(holds_andW m).1;rw[o]at i;show i
  let y:=condW_of i (w_not (w_lt w_lit (w_len_list (w_arg rfl))))
  grind
 cases j with
 | cons u v=>
   cases v;cases u with
   | list w g=>show%[_,_,c,ρ,ρ,w,oC c _ g|f]
def BP(l:WY)(args:gN WData):l.row.toRowW.claim.post args (.bool hX) args=hX:=
 postW_of
  (by first|rfl|simp|lia)
  (w_eq_bool (w_res rfl) w_lit) rfl
def attach_call{l:WY}{n:iv}{q:nX}
 (I:l.most∣n) (u:d.params.defaults=[])
 (call:∀(w:wh) (s₀ b:md) (mg v:ZC) (h:kw) (o:Ov) (y p c:jg) (a:kw) (vs:ZG) (s:ZM),
  Ground q e [] J w s₀ mg v b.heap->L w b.heap->
  b.heap.get? h∣o->o.data= .func (docDef d.name d.params d.body d.scope y p c)->b.heap.CodeRec p d.name->mg d.name∣.ref h->
  b.heap.get? a=hV {cls:= .type "list",data:= .seq vs.toArray}->Vn vs s-> ~~~s<=n->b.gens= #[]->
  Pz (Nm l.prog w) TY (.call (.ref h) %[[.ref a]|[]]) (λr s'=>r= .ok (.ret (.bool hX))/\OldK b.heap s'.heap/\s'.os=b.os/\QY s'.gens) b):
 WalkO q e J L l.row.toRowW d [] (λf vs=>PySem.call f vs):=by
 intro w s₀ b mg v G Y h o y p c M kV N O z C A Q args E as i H T B U;obtain rfl:M= .none:=Dflts.none C u;obtain rfl:kV= .none:=Dflts.noKw C;let%[a,vs,s,rfl,rfl,j,g|m]:=BO I i B;show enter_call (codeAny_mono (call w s₀ b mg v h o y p c a vs s G Y N (fd_plain O) z A j g m Q) λr s' hq=>?_);let%[rfl,h2,h3|h4]:=hq;show%[.inl %[.bool hX,.bool hX,[],ρ,λ_=>rfl,.bool hX,BP l _|λ_=>%[Q2|λ_ hm=>(nomatch hm)]],h2,h3|h4]
section
#where
end
end _AT
namespace _LL
open PySem PySem.Spec PyProof.Rows
def tH:∀{vs:ZG} {a:ZM},Vn vs a->aN (a\4) vs
 | _,_,.nil=> .nil
 | _,_,.cons n t h=> .cons %[t|rfl] (tH h)
abbrev GO(H:Hp):Prop:=∀b,H b=hH\/∃o xs,H b∣.frz o (.lst xs)
def law_call{P:nX}{K:ZA}{mg I:ZC}{vs:ZG}
 (U:K.In c.heap) (p:c.heap.Ns xl mg) (g:c.heap.Ns Wv I) (J:∀x:kG,x≠"__name__"->I x=ND x) (y:c.heap.NoLimit) (hg:c.gens= #[])
 (L:c.heap.get? a=hV {cls:= .type "list",data:= .seq vs.toArray}) (hi:Vn vs M) (Y: ~~~M<=lX) (hr:bP k TY)
 (F:∀base:yc,K.In base->base.Ns xl mg->d9 P w K mg base CX k fa fd [x] sp) (l:∀(s:md) (u:jg),T3 s fd %[[u]|[]] [(x,u)])
 (N:∀H:Hp,GO H->Qb K H a (M\4)->sp [.ref a] H (λv _=>v= .bl hX) λ_ _ _=>MO)
 (O:∀H e s',CX [] H c (λ_ _ _=>MO) e s'->MO):
 Pz (Nm P w) TY (.call (.ref fa) %[[.ref a]|[]]) (λr s'=>r= .ok (.ret (.bool hX))/\OldK c.heap s'.heap/\s'.os=c.os/\QY s'.gens) c:=by
 let rv:=tH hi;let j:∀H,GO H->Qb K H a (M\4)->HOk P w H c.heap->(∀b,H b≠hH->b=a)->(H a≠hH->K.lookup a=hH)->
  Pz (Nm P w) TY (.call (.ref fa) %[[.ref a]|[]]) (λr s'=>r= .ok (.ret (.bool hX))/\OldK c.heap s'.heap/\s'.os=c.os/\QY s'.gens) c:=by
  intro H hO hS A hA hK;let f:∀{b:kw} {o:Ov},c.heap.get? b∣o->H b=hH->(Bx c.heap H).get? b∣o:=λe n=>CZ e n
  let Q:∀{b:kw} {o:Ov} {es:ow Tp} {G:iv},c.heap.get? b∣o->o.data= .dict es G->H b=hH:=λ{b o es G} e d=>by
   grind
  let i:∀{b:kw} {m:ZC},c.heap.Ns b m->(Bx c.heap H).Ns b m:=λ{b m} %[o,es,G,e,d|r]=>%[o,es,G,f e (Q e d),d|r]
  let B:=λb o e=>f (U b o e) (by
   grind)
  show codeAny_mono ((F _ B (i p)).run TY [] c H _ _ [.ref a] _ _ hr %[rfl,%[B,i p,%[I,i g|J]|let%[mc,h1|h2]:=y;%[mc,i h1|h2]],λb o e=>Ga e,Ut (By _ _),trivial,λb g=>n0 (show b∈([])from g) ∅,A|.of_eq hg] (l c _) (.cons rfl .nil) (N H hO hS)) λr s' h=>?_
  cases r with
  | error e=>show(O H e s' h).elim
  | ok fl=>
    cases fl with
    | next=>show M7 h
    | brk=>show M7 h
    | cont=>show M7 h
    | ret u=>
      let%[v,H',os,C,un,E,r'|q]:=h;subst q;obtain rfl:u=XC hX:=r';show%[ρ,OldK.of_keep λb o e=>?_,os|C];cases q:H b with
      | none=>show un.keep b o e q (by intro z;show n0 (show b∈([])from z) ∅) ∅
      | some u=>
        rcases hO b with z|⟨ob,xs,z⟩
        .rw[q]at z;cases z
        .let%[e1|_]:=A b _ z;let%[e2|_]:=E b _ (un.frzs b ob _ z);rw[e]at e1;cases e1;show e2
 cases T:K.lookup a with
 | some o=>
   let e:=U a o T;rw[L]at e;cases e;show j _ (λ_=> .inl rfl) (.inr %[_,vs.toArray,_,T,rfl,rfl,rfl,by rw[Zp,~~~hi];show Y|rv]) (λb u z=>!2) (λb z=>n0 rfl z) λz=>n0 rfl z
 | none=>
   show j (λb=>if b=a then hV (.frz {cls:= .type "list",data:= .seq vs.toArray} _)else hH) (λb=>?_) (.inl (.inr %[{cls:= .type _,data:= .seq vs.toArray}|lp rfl])) (λb u z=>?_) (λb z=>?_) λ_=>T
   .by_cases g:b=a
    .show .inr %[_,_|lp g]
    .show .inl (ku g)
   .by_cases g:b=a
    .let z':=(lp g).symm.trans z;cases z';subst g;show%[L,by rw[Z6];show Y,vs,_,rv|L]
    simp_all
   .by_cases g:b=a
    .show g
    .show n0 (ku g) z
def walk_of{l:PySem.W.OpenLaw}{J:(kG->lx jg)->yc->Prop}{E:wh->yc->Prop}{d:DefRec}{K:Params->ZA}{CX:wh->CXT}{sp:wh->Sp}{x:kG}
 (L:l.most∣n) (p:n<=lX) (r:d.params.defaults=[]) (M:bP k TY)
 (N:∀(w:wh) (h:yc),E w h->(K w.params).In h)
 (F:∀(w:wh) (mg:ZC) (j:kw) (h:yc),(K w.params).In h->h.Ns xl mg->mg d.name∣.ref j->
  ∃y:OP,(∀(s:md) (u:jg),T3 s y %[[u]|[]] [(x,u)])/\
   ∀base:yc,(K w.params).In base->base.Ns xl mg->d9 l.prog w (K w.params) mg base (CX w) k j y [x] (sp w))
 (z:∀(w:wh) (H:Hp) (a:kw) (m:ZM),~~~m<=n->GO H->Qb (K w.params) H a (m\4)->sp w [.ref a] H (λv _=>v= .bl hX) λ_ _ _=>MO)
 (A:∀(w:wh) (H:Hp) (s:md) (e:jg) (s':md),CX w [] H s (λ_ _ _=>MO) e s'->MO):
 PySem.W.WalkO q B J E l.row.toRowW d [] (λf vs=>PySem.call f vs):=by
 show _AT.attach_call L r λw s₀ g mg mb j o pm cd O a vs m G Y ho hd Q C i c b T=>?_
 let I:=N w _ Y;let%[y,U|hF]:=F w mg j _ I G.T.g C;show law_call I G.T.g G.T.b G.T.builtins G.T.nolimit T i c (nI b p) M hF U (λH hO hS=>z w H a m b hO hS) λH e s'=>A w H g e s'
abbrev kg(s:Ds)(j:iv):Ds:=match s with
 | .ClassDef _ _ _ a _ _ _ _ _ _ _=>a.getD j (.Pass %[0,0,0|0])
 | _=> .Pass %[0,0,0|0]
abbrev dH(s:Ds):Arguments:=match s with
 | .FunctionDef _ a _ _ _ _ _ _ _ _=>a
 | _=>{posonlyargs:=[],args:=[],vararg:=hH,kwonlyargs:=[],kw_defaults:=[],kwarg:=hH,defaults:=[]}
abbrev bR(s:Ds):gN Ds:=match s with
 | .FunctionDef _ _ b _ _ _ _ _ _ _=>b
 | _=>[]
abbrev ap(s:Ds):RV:=match s with
 | .FunctionDef _ _ _ _ _ _ a _ _ _=>a
 | _=>{kind:= .function,names:=[],isGenerator:=hY,isCoroutine:=hY}
noncomputable abbrev CX0:CXT:=λ_ _ _ _ _ _=>MO
noncomputable abbrev E0:XK:=λ_ _ _=>MO
def DK{X:Cx}:iZ CX0 X E0:=λ_ _ _ _ _ _ _ h=>h.elim
structure Fun (K:ZA) (x qual:kG) (st:Ds) (f:kw) (fd:OP):Prop where
 ex:∃oc od kV doc pm an cdv ct osl,
  fd=Ti x qual (dH st) (bR st) (ap st) .none kV doc pm an cdv ct/\K.lookup f=hV %[oc,od,.func fd|osl]/\RS K cdv qual=hX
 kp:O5 K (.ref f)=hX
section
variable{P:nX}{w:wh}{K:ZA}{mg:ZC}{base:yc}
def Fun.ok{x a:kG}{st:Ds}{f:kw}{g:OP}{N ps:ZB}{k:iv}{sp:Sp}(F:Fun K x a st f g)(S:av N ps (ap st))(len:∀vs H Q E,sp vs H Q E-> ~~~vs= ~~~ps)
 (c:∀b (A:vj) (outer:gN Env) s H (vs:gN V) Q E,bP k (A.deeper (Nz a (ap st) ⇑s f b))->sp vs H Q E->
  ∃t,PSs (gi CX0 P w K mg base N a (ap st) f b A outer s H E).nox (bR st) t/\t {nx:=λ_ i=>Q .non i,rt:=Q} (start N vs) H):d9 P w K mg base CX0 (k+1) f g ps sp:=by
 let%[n,od,kV,j,o,p,b,ct,l,rfl,lk|d]:=F.ex;show Ij lk d S len λA outer s H vs Q E m e=>?_
 let%[t,h|q]:=c b A outer s H vs Q E m e;show%[t,h.nox|q]
def Fun.binds{st:Ds}(F:Fun K x c st f g)
 (h:∀(kV a d:jg) (e:ZJ) (b ct:jg) (us:ZG),~~~us= ~~~ps->bindArgs (Ti x c (dH st) (bR st) (ap st) .none kV a d e b ct) %[us|[]]=pure (ps.zip us)):ee K g ps []:=by
 let%[l,od,kV,a,d,e,b,ct,i,rfl,lk|j]:=F.ex;show .all (h kV a d e b ct)
def eL{st:Ds}{kV d e b ct:jg}(l:K.lookup f=hV %[i,od,.func (Ti x a (dH st) (bR st) (ap st) .none kV d e h b ct)|g])
 (c:RS K b a=hX) (k:O5 K (.ref f)=hX):Fun K x a st f (Ti x a (dH st) (bR st) (ap st) .none kV d e h b ct):=%[%[i,od,kV,d,e,h,b,ct,g,rfl,l|c]|k]
variable{X:Cx}
def pv(i:iv)(b:X.N[i]?∣x)(c:Vis X.env.scope x)(d:(x==("__debug__":kG))=hY)
 (a:(x==("__classdict__":kG))=hY):PE X (.Name x pos) (mX i):=C1 b c d a
end
def m7{A B:Prop}(h:B):if hY=hX then A else B:=by
 simp_all
def bv{c A B:Prop}[Pg c](a:c->A)(b: ¬ c->B):if c then A else B:=by
 simp_all
abbrev ai(H a:Hp):Prop:=∀b o,H b∣o->a b∣o
def ai.refl(H:Hp):ai H H:=λ_ _ h=>h
def ai.trans{H d e:Hp}(a:ai H d)(b:ai d e):ai H e:=λc o h=>b c o (a c o h)
def ai.free{H a:Hp}(e:ai H a){l:kw}(h:a l=hH):H l=hH:=by
 cases q:H l with
 | none=>rfl
 | some o=>
   rw[e l o q]at h;cases h
def ai.seq{K:ZA}(e:ai H b)(h:Qb K H a xs):Qb K b a xs:=by
 rcases h with(h|⟨o,h⟩)|h
 .show .inl (.inl (e _ _ h))
 .show .inl (.inr %[o|e _ _ h])
 .show .inr h
section
end
section
variable{κ:Type}[MY κ]
def GP{a:gN (κ×V)}(h:bQ a k∣v):k∈a\1:=by
 let q:(a.any λb=>decide (b.1=k))=hX:=by
  rw[jJ,h]
  all_goals rfl
 simp_all
def oU:∀{l:gN κ} {k:κ},l.Nodup-> ¬ k∈l->(l++[k]).Nodup
 |[],k,_,_=>by simp
 | a::r,k,h,b=>by
   let%[c|d]:=NZ.mp h;show NZ.mpr %[λm=>?_|oU d λm=>b (Yv.mpr (Or.inr m))];rcases Xm m with q|q
   .show c q
   .show b (Yv.mpr (Or.inl (Xn q).symm))
end
abbrev pH(env:Env):gN (kG×MN)->gN (kG×kw)->gN (kG×kw)
 |[],acc=>acc
 |(n,k)::r,acc=>pH env r (if k= .free then(n,(env.cells.lookup n).getD 0)::acc else acc)
def pJ:∀(names:gN (kG×MN)) (acc:gN (kG×kw)),(∀y∈names,y.2= .free->∃c,env.cells.lookup y.1∣c)->
 (forIn names acc λx r=>match x with
  |(name,kind)=>if(kind==Nt)=hX then do let a<-cellOf env name;pure (Pi ((name,a)::r))else pure (Pi r):Sem (gN (kG×kw)))=pure (pH env names acc)
 |[],acc,_=>rfl
 |(n,k)::r,acc,h=>by
  let d:=λacc=>pJ r acc λy f=>h y (Zk _ f)
  rw[Ss];by_cases b:k= .free
  .subst b;let%[c|e]:=h _ Zm rfl;let g:cellOf env n=pure c:=by unfold cellOf;rw[e]
   simp only[PP,Rr,g,pure_bind];rw[d];change _=pure (pH env r _);rw[lp rfl,e]
   all_goals rfl
  .let i:(k==Nt)=hY:=↑b
   simp only[i,Zz,OO,pure_bind];rw[d];change _=pure (pH env r _);rw[ku b]
def GQ(h:∀y∈a.names,y.2= .free->∃c,env.cells.lookup y.1∣c):closureFor a env=pure (pH env a.names []):=by
 unfold closureFor;simp only[bind_pure];show(pJ a.names [] h)
def wF:∀(names:gN (kG×MN)) (acc:gN (kG×kw)),(∀y∈names,y.2= .free->∃c,env.cells.lookup y.1∣c)->
 (∀y d,acc.lookup y∣d->env.cells.lookup y∣d)->(pH env names acc).lookup x∣c->env.cells.lookup x∣c
 |[],acc,_,a,e=>a x c e
 |(n,k)::r,acc,h,a,e=>by
  show wF r _ (λy b=>h y (Zk _ b)) (λy d q=>?_) e;by_cases f:k= .free
  .rw[lp f,Yl]at q;let%[g|i]:=h _ Zm f;cases b:y==n with
   | true=>
     simp_all
   | false=>rw[b]at q;show a y d q
  .rw[ku f]at q;show a y d q
def pK:∀(names:gN (kG×MN)) (acc:gN (kG×kw)),(∃c,acc.lookup x∣c)->∃c,(pH env names acc).lookup x∣c
 |[],_,h=>h
 |(n,k)::r,acc,h=>by
  show pK r _ ?_;by_cases a:k= .free
  .rw[lp a,Yl];cases b:x==n with
   | true=>show%[_|ρ]
   | false=>show h
  .rw[ku a];show h
def pL:∀(names:gN (kG×MN)) (acc:gN (kG×kw)),(x,Nt)∈names->∃c,(pH env names acc).lookup x∣c
 |[],_,h=>by simp at h
 |(n,k)::r,acc,h=>by
  rcases Yv.mp h with e|h
  .show pK r _ ?_
   simp_all
  .show pL r _ h
abbrev cq(X:Cx)(a:RV)(d:ZB)(b:md)(c:Hp)(e:gN kw):Cx:=
 {X with
  N:=d
  s₀:=b
  H₀:=c
  env:=compEnvC a (Ni (⇑b+1) a.names (pH X.env a.names [])) ⇑b X.env
  outer:=X.stack
  stack:=X.stack
  ex:=e
  fn:=λx=>decide (a.names.lookup x∣.cell)
  pn:=[]
  xe:=λ_ _=>MO}
structure aD (X:Cx) (scope:RV) (N':ZB) (cap:gN (iv×iv)):Prop where
 kind:scope.kind= .function
 cell:∀y∈scope.names,y.2= .cell->scope.names.lookup y.1∣.cell
 loc:∀y∈scope.names,y.2= .local->scope.names.lookup y.1∣.local
 free:∀y∈scope.names,y.2= .free->X.env.kindOf y.1∣.cell\/X.env.kindOf y.1∣.free
 capt:∀p∈cap,∃x,N'[p.1]?∣x/\X.N[p.2]?∣x/\scope.names.lookup x∣.free
abbrev tJ(n:iv)(a:gN (iv×iv))(b:St):St:=(p0 n).map λj=>(a.lookup j).bind λi=>(b[i]?).join
def nT:∀{l:gN _} {j i:iv},l.lookup j∣i->(j,i)∈l
 |[],_,_,h=>by simp at h
 |(a,b)::r,j,i,h=>by
  rw[Yl]at h;cases c:j==a with
  | true=>
    simp_all
  | false=>rw[c]at h;show Zk _ (nT h)
def nU{env:Env}{names:gN (kG×MN)}{x:kG}{k:MN}(h:(names.map λ(n,k)=>if(k==Nt&&env.scope.kind== .function&&env.kindOf n==hV .cell)then(n,O8)else(n,k)).lookup x∣k)
 (a:k= .cell\/k= .free):(x,Nt)∈names\/(x,O8)∈names:=by
 let m:=PySem.mem_of_lookup h
 grind
def fP:∀names n acc,Ni n names acc=Ni n names [] ++acc
 |[],_,_=>rfl
 |(x,k)::r,n,acc=>by
  unfold Ni
  split
  .rw[fP r _ _,fP r _ [(x,n)],Ze];rfl
  .show fP r n acc
def m8:∀{names:gN (kG×MN)} {n:iv},(x,c)∈Ni n names []->(x,O8)∈names
 |[],_,h=>nomatch h
 |(y,k)::r,n,h=>by
  unfold Ni at h
  split at h
  .rw[fP]at h;rcases Xm h with q|q
   .show Zk _ (m8 q)
   grind
  .show Zk _ (m8 h)
def nV(h:(Ni n names acc).lookup x∣c):(x,c)∈Ni n names []\/((Ni n names []).lookup x=hH/\acc.lookup x∣c):=by
 rw[fP,UX]at h;cases e:(Ni n names []).lookup x with
 | none=>rw[e]at h;show .inr %[rfl|h]
 | some d=>
   rw[e]at h;let:=↑h
   show this▸ .inl (PySem.mem_of_lookup e)
def lO{env:Env}:∀{names:gN (kG×MN)} {x:kG},names.lookup x∣.free->
 (names.map λ(n,k)=>if(k==Nt&&env.scope.kind== .function&&env.kindOf n==hV .cell)then(n,O8)else(n,k)).lookup x∣.cell\/
 (names.map λ(n,k)=>if(k==Nt&&env.scope.kind== .function&&env.kindOf n==hV .cell)then(n,O8)else(n,k)).lookup x∣.free
 |[],_,h=>by simp at h
 |(n,k)::r,x,h=>by
  let c:= @lO env r x;simp only[Yp];cases a:x==n with
  | true=>
    rw[Yl,a]at h;let d:=Za h;subst d;by_cases b:((Nt==Nt)&&env.scope.kind== .function&&env.kindOf n==hV .cell)=hX
    .rw[lp b,Yl,a];show .inl rfl
    .rw[ku b,Yl,a];show .inr rfl
  | false=>
    rw[Yl,a]at h;by_cases b:(k==Nt&&env.scope.kind== .function&&env.kindOf n==hV .cell)=hX
    .rw[lp b,Yl,a];show(c h)
    .rw[ku b,Yl,a];show(c h)
section
#version
def Qc.kindL(I:Qc X ij σ H s)(h:X.env.kindOf x∣.cell\/X.env.kindOf x∣.free):∃c,X.env.cells.lookup x∣c:=I.ok.has x h
def Qc.block{a:RV}{E:ZB}{fp:gN kw}{f:yc}{tk:iv}(S:aD X a E n)(I:Qc X ij σ H s)(Q:∀b∈fp,mY X ij H b)(L:∀b∈fp,b<⇑s)
 (hn:f.Ns ⇑s (λ_=>hH)) (B:∀b u,s.heap.get? b∣u->f.get? b∣u) (nc:CellsOk f (⇑s+1) (Ni (⇑s+1) a.names [])):
 Qc (cq X a E s H fp) [] (tJ E.length n σ) H {s with heap:=f,toks:=tk}:=by
 let h:∀x c,(pH X.env a.names []).lookup x∣c->X.env.cells.lookup x∣c:=λx c e=>wF a.names [] (λy hy hk=>I.kindL (S.free y hy hk)) (λ_ _ q=>by simp at q) e
 let o:∀x c,(Ni (⇑s+1) a.names (pH X.env a.names [])).lookup x∣c->((x,c)∈Ni (⇑s+1) a.names []/\f.IsCell c hH/\⇑s+1<=c)\/(X.env.cells.lookup x∣c/\c<⇑s):=λx c e=>by
  rcases nV e with q|⟨_,q⟩
  .show .inl %[q|nc.empty x c q]
  .let q':=h x c q;let%[v,J,M|_]:=I.cell x c q';show .inr %[q'|Zu M]
 show%[%[I.ok.mod,S.kind,I.ok.glob,I.ok.blt,Zi _,λx y c h1 h2=>?_,λx hx=>?_,λx c hq e=>?_,I.ok.hd,I.ok.frames,.inl rfl,λb g=>%[?_|λx c e=>?_],I.bs,
  nI I.ok.bsz I.sz,λb u e g=>?_,λb g T=>?_,I.stack|I.stkFree],ρ,I.bare,Un.kept B,%[_,hn|λj x v e1 e2 e3=>?_],λx c e=>?_,I.hok.fresh (Zi _),λx c e=>?_,λp hp=>?_,I.hok.kept B|?_]
 .rcases o x c h1 with⟨q1,_,q2⟩|⟨q1,q2⟩<;> rcases o y c h2 with⟨r1,_,r2⟩|⟨r1,r2⟩
  .show name_of_addr nc.apart q1 r1
  .show n0 r2 (Sv (nI (Yf _) q2))
  .show n0 q2 (Sv (nI (Yf _) r2))
  .show I.ok.inj x y c q1 r1
 .let:(x,Nt)∈a.names\/(x,O8)∈a.names:=by
   rcases hx with q|q
   .show nU q (.inl rfl)
   .show nU q (.inr rfl)
  show QP.mp (RT a.names _ _ ?_);rcases this with q|q
  .show .inr (QP.mpr (pL a.names [] q))
  .show .inl (S.cell _ q rfl)
 .rcases nV e with q|⟨q,_⟩
  .let:=(nc.empty x c q).2;change ⇑s<=c
   lia
  .let:=RT a.names (⇑s+1) [] (.inl (Zo hq));rw[q]at this;cases this
 .show Zs (L b g)
 .rcases o x c e with⟨_,_,q⟩|⟨q,_⟩
  .show λz=>n0 (L b g) (Sv (nI (Yf _) (z▸q)))
  .show(Q b g).2.2.2.2.1 x c q
 .rcases(Q b g).2.2.2.1 with z|z
  .show I.ok.noex b u e z
  .show n0 (Zg (Zu e) (nI I.ok.bsz z)) (Xj _)
 .rcases Yv.mp (I.stkSub b T)with z|z
  .show(Q b g).2.1 z
  .show(Q b g).2.2.1 z
 ·
  let hj:∃i,n.lookup j∣i/\σ[i]?∣hV v:=by
   let A:((p0 E.length).map _)[j]?∣_:=e2;rw[Zl]at A;cases hr:(p0 E.length)[j]? with
   | none=>rw[hr]at A;cases A
   | some j'=>
     rw[hr]at A;let ab:j'=j:=by
      let:=Xl hr;let%[h1|h2]:=this;simpa using h2.symm
     subst ab;let C:((n.lookup j').bind _)∣v:=Za A;cases U:n.lookup j' with
     | none=>rw[U]at C;cases C
     | some i=>
       rw[U]at C;show%[i,ρ|?_];let Y:(σ[i]?).join∣v:=C;cases T:σ[i]? with
       | none=>rw[T]at Y;cases Y
       | some w=>rw[T]at Y;let:w∣v:=Y;rw[this]
  let%[i,U|hi]:=hj;let%[y,n1,n2|n3]:=S.capt _ (nT U);let ac:=Za (n1.symm.trans e1);subst ac;let N:=S.free _ (PySem.mem_of_lookup n3) rfl;let%[m,hm|hl]:=I.loc;let%[u,r|l]:=hl i y v n2 hi (by rcases N with q|q;show .inr (.inl q);show .inr (.inr q));show%[u,r|.inr %[?_|?_]]
  .show lO n3
  .rcases l with⟨k,_⟩|⟨_,c,G,hv⟩
   .rcases N with q|q
    .rw[k]at q;cases q
    .rw[k]at q;cases q
   .let%[c'|O]:=pL a.names [] (PySem.mem_of_lookup n3);let:=h y c' O;rw[G]at this;let e5:=Za this;subst e5;let%[J,M|hd]:=hv;show%[c,?_,J,B c J M|hd];change(Ni _ _ _).lookup y∣c;rw[fP,UX];cases e6:(Ni _ a.names []).lookup y with
    | none=>simpa using O
    | some d=>
      let:=S.cell _ (m8 (PySem.mem_of_lookup e6)) rfl;rw[n3]at this;cases this
 .rcases o x c e with⟨_,q,_⟩|⟨q,_⟩
  .show%[hH|q]
  .let%[v,J,M|hd]:=I.cell x c q;show%[v,J,B c J M|hd]
 .rcases o x c e with⟨_,_,q⟩|⟨q,_⟩
  .show I.hok.fresh ⋯
  .show I.freeC x c q
 .show n0 (show p∈([])from hp) ∅
 .change(tJ E.length n σ).length= ~~~E;unfold tJ;rw[Z6,Yi]
end
abbrev PTs(X:Cx)(a:gN zr)(t:TT):Prop:=
 ∀ij s (b:St) H Q,Qc X ij b H s->t b H Q->
  (X⁻¹) (forIn a hX λc r=>if r=hX then do let ok<-Th c X.env (Nk c X.env);pure (Pi ok)else pure (Pi r)) (TP X ij b Q) X.xe s
abbrev GR:TT:=λ_ H Q=>Q hX H
def GS{X:Cx}:PTs X [] GR:=λ_ _ _ H _ I h=>wpAny_tests_nil %[H,I|h]
def GT{X:Cx}(h:PT X c t):PTs X [c] t:=λij s a H Q I q=>wpAny_tests_one (h ij s a H Q I q)
abbrev tK(q:TI)(n:iv)(f:gN (iv×iv))(g:TG)(r:TT)(s:TE):TE:=λh H Q=>q h H λJ j=>∀D,j D=hH->∃W:iv->iv->gN V->St->Hp->Prop,
 (∃m,W 0 m [] (tJ n f h) (Qa j D (.lst [])))/\∀i m ys c d,W i m ys c d->(J.stop i d/\Q (.ref D) d)\/
  (J.go i d/\∀x l,J.yld i d x l->g x c l λa u=>r a u λb o=>if b=hX then s a o λy p=>∃zs e,p D<*zs/\ ~~~zs<lX/\e<m/\W (i+1) e (ys++[y]) a (Qa p D (.lst (zs++[y])))
   else∃e,e<m/\W (i+1) e ys a o)
def GU{code:jg}
 (j:∀h',h'.Ns ⇑s (λ_=>hH)->(∀b u,s.heap.get? b∣u->h'.get? b∣u)->CellsOk h' (⇑s+1) (Ni (⇑s+1) a.names [])->
  Q (newEnv a ⇑s d (Ni (⇑s+1) a.names f) g h code (hV env) c) (s>>>h')):tI M A (newFunctionEnv a d f [] g h code (hV env) c) Q E s:=by
 show Z2 (wpAny_alloc (Z2 (wpAny_layCells _ (λname kind i=>by lia) _ _ _ _ ?_)));let ok:=cellsFrom_ok a.names (s.heap.push {cls:= .type "dict",data:= .dict #[]}) (⇑s+1) [] %[λ_ _ l=>(nomatch l)|Q2] ∅;rw[Zq]at ok;rw[Zq ..];show Z2 (Z3 (Z3 (j _ ((yc.Ns.new s.heap _).keeps (XT _ _)) (λb u e=>XT _ _ b u (Z7 _ e)) ok)))
def tL{X:Cx}{a:RV}(S:aD X a N' a2)(hc:X.calm=hX)(hi:PI X tg iter wi)
 (hg:∀L M A,PG (cq X a N' L M A) tg g) (ht:∀L M A,PTs (cq X a N' L M A) a3 tc) (he:∀L M A,PE (cq X a N' L M A) a4 te)
 (hs:∀x,Pw iter X.env x=pure x) (I:Qc X ij σ H s) (h:tK wi N'.length a2 g tc te σ H Q)
 (a5:∀(D C:kw) (O:Hp) (s6:md) (fl:Flow) (m:ZC),s6.heap.Ns C m->mY X ij O C->(∀h',vu C s6.heap h'->Qc X ij σ O (s6>>>h'))->Q (.ref D) O->compPost (Nm X.prog X.w) X.A X.xe use QQ (.ref D) C (.ok fl) s6):
 (X⁻¹) (comprehension (.ListComp a4 [%[tg,iter,a3|0]] a pos) a X.env ca (newList []) hY (Nk iter X.env) use) QQ X.xe s:=by
 show wpAny_comprehension_free (use:=use) rfl hs (GQ (λy hy hk=>I.kindL (S.free y hy hk))) S.kind S.loc (thn (hi ij s σ H _ I h) λv s1 h1=>thn h1 λcd l h2=>?_);let%[it,A,tn,J,H2,e,I2,T,a6,f2|R]:=h2;subst e;show M6 (GU λU Y N ab=>?_);dsimp only at Y N ab ⊢;let I3:Qc X ij σ (Qa H2 ⇑l (.lst [])) {l with heap:=l.heap.push {cls:= .type "list",data:= .seq ([]:ZG).toArray}}:=I2.lnew (its:=[]) (t':=l.toks) .nil (Xe _);let hD:H2 ⇑l=hH:=I2.fresh;let ak:∀b∈A,b<⇑l:=λb j=>by let%[o,ho|_]:=T.obj 0 _ a6 b j;show Zu ho
 generalize as:({l with heap:=l.heap.push {cls:= .type "list",data:= .seq ([]:ZG).toArray}}:md)=B at I3
 let G:B.heap=l.heap.push {cls:= .type "list",data:= .seq ([]:ZG).toArray}:=by rw[<-as]
 let ba:⇑B=⇑l+1:=by rw[G,Zq]
 let f3:∀b∈A,mY X ij (Qa H2 ⇑l (.lst [])) b:=λb j=>%[(aq (Zs (ak b j)))▸(f2 b j).1|(f2 b j).2]
 let%[W,%[m0|w0]|bb]:=R _ hD;let ae:∀b u,B.heap.get? b∣u->U.get? b∣u:=G▸N;let I4:Qc (cq X a N' B (Qa H2 ⇑l (.lst [])) A) [] (tJ N'.length a2 σ) (Qa H2 ⇑l (.lst [])) {B with heap:=U,toks:=B.toks}:=I3.block S f3 (λb j=>ba▸Ym (ak b j)) (G▸Y) ae (G▸ab);let bc:tn 0 U:=T.keep _ _ _ a6 λb j o e=>ae b o (G▸Z7 _ e)
 let ce:(cq X a N' B (Qa H2 ⇑l (.lst [])) A).env=compEnvC a _ ⇑B X.env:=rfl;let ag:∀{H':Hp},(∀b∈A,H' b=hH)->∀b∈A,mY _ [] H' b:=λhn b j=>
  %[hn b j,(I4.ok.exf b j).1,I4.ok.exfs b j,.inl j,(I4.ok.exf b j).2|λp hp=>n0 (show p∈([]:ZF)from hp) ∅]
 let al:Pz (Nm X.prog X.w) X.A (.compLoop (.ListComp a4 [%[tg,iter,a3|0]] a pos) 0 (.ref it) (.ref ⇑l) (cq X a N' B (Qa H2 ⇑l (.lst [])) A).env)
  (compPost (Nm X.prog X.w) X.A X.xe use QQ (.ref ⇑l) ⇑B) {B with heap:=U,toks:=B.toks}:=by
  show codeAny_loop rfl (λn s'=>∃i ys be H',Qc _ [] be H' s'/\tn i s'.heap/\(∀b∈A,H' b=hH)/\W i n ys be H') ?_ m0 %[0,[],_,_,I4,bc,λb j=>(f3 b j).1|w0];intro n s5 %[i,ys,ah,O,I5,bf,bl|w5];change tI _ X.A _ _ _ s5;show wpAny_noted ?_;rw[compTurn_list];show Z2 (PV (Z2 ?_));rcases bb i n ys ah O w5 with⟨stop,q⟩|⟨go,step⟩
  .show thn (T.done (cq X a N' B (Qa H2 ⇑l (.lst [])) A) rfl rfl rfl hc i [] s5 ah O _ I5 (ag bl) bf stop) λr s6 %[hr|I6]=>?_
   subst hr;show Z3 ?_;let%[m6,bt|_]:=I6.loc;show a5 ⇑l ⇑B O s6 _ m6 bt (I2.fpOk (ba▸Yf _) I6.free) (λh' sb=>?_) q;let u6:Un (frs X.stack) A (Qa H2 ⇑l (.lst [])) O B.heap s6.heap:=I6.base;let a0:∀b u,B.heap.get? b∣u->b≠⇑B:=λb u e=>Zs (Zu e)
   let u7:Un (frs X.stack) A (Qa H2 ⇑l (.lst [])) O B.heap h':=%[λb u e n j hx=>(sb.2 b (a0 b u e)).trans (u6.keep b u e n j hx),λb u e n j hx=>by
    let%[sl|q]:=u6.slot b u e n j hx;show%[sl|(sb.2 b (a0 b u e)).trans q],u6.free,λb u e hx=>by
    let%[o'|q]:=u6.there b u e hx;show%[o'|(sb.2 b (a0 b u e)).trans q],u6.tups,u6.frzs|u6.tbls]
   let bx:HOk X.prog X.w O h':=λb u e=>by
    let bm:∀c w,O c∣w->c≠⇑B:=λc w q z=>by
     let:O ⇑B=hH:=I6.free;rw[z,this]at q;cases q
    show(I6.hok b u e).stay (λc w b0 q=>(sb.2 c ?_).trans q) (λ_ q=>q) λ_ _ q=>q
    rcases b0 with z|z
    .show z▸bm b u e
    .show bm c _ z
   show I2.call' (s':=(s6>>>h')) (ch:=A) (by change s6.os=l.os;rw[I6.os,<-as];rfl) ((Un.laid (λb u e=>G▸Z7 _ e) (Zi _) hD).trans u7) bx I6.bare λb j=>%[(f2 b j).2.2.2.1,(f2 b j).2.1,(f2 b j).2.2.2.2.1|(f2 b j).2.2.2.2.2]
  .show thn (T.item (cq X a N' B (Qa H2 ⇑l (.lst [])) A) rfl rfl rfl hc i [] s5 ah O _ I5 (ag bl) bf go) λr s6 %[u,hr|h6]=>?_
   subst hr;show Z2 (thn h6 λ_ s7 %[x,H7,I7,r7,y7,a1|b1]=>?_);let ac:∀{α:Type} {t:Sem α} {Q1:α->md->Prop} {E2:ZE} {s':md},(X⁻¹) t Q1 (λ_ _=>MO) s'->(X⁻¹) t Q1 E2 s':=λh=>MZ h (λ_ _ q=>q) λ_ _ f=>f.elim
   let an:∀{E:St} {H8:Hp} {s8:md},Qc (cq X a N' B (Qa H2 ⇑l (.lst [])) A) ([] ++uU A s7.heap) E H8 s8->
    Qc _ [] E H8 s8/\tn (i+1) s8.heap/\∀b∈A,H8 b=hH:=λ{E H8 s8} I8=>by
    show%[I8.unpinned,T.keep _ _ _ a1 λb j o e=>(I8.pin (b,o) (Yu _ (Yu _ (gh j e)))).1|λb j=>?_];let%[o,e|d]:=T.obj _ _ a1 b j;show(I8.pin (b,o) (Yu _ (Yu _ (gh j e)))).2.1
   show Z2 (ac (thn (hg B _ A _ s7 ah H7 x u _ (I7.pinned (ag b1) (T.obj _ _ a1)) r7 (step x H7 y7)) λ_ s8 %[E,H8,I8|q8]=>Z2 (ac (thT (ht B _ A _ s8 E H8 _ I8 q8) λb s9 H9 I9 q9=>?_))));cases b with
   | false=>
     let%[m',hm|w9]:=(q9)
     let%[J1,J2|J3]:=an I9;show Z3 %[rfl,m',hm,i+1,ys,E,H9,J1,J2,J3|w9]
   | true=>
     let q9:=(q9:te E H9 λy O=>∃zs m',O ⇑l<*zs/\ ~~~zs<lX/\m'<n/\W (i+1) m' (ys++[y]) E _)
     show Z2 (Z2 (ac (thP (he B _ A _ s9 E H9 _ I9 q9) λu2 b2 y bn b3 b4 %[zs,m',hz,hl,hm|b5]=>Z2 (ac (thP (tF _ b2 E bn (.ref ⇑l) [y] (.ref ⇑l) [u2] (λv H'=>v= .non/\H'=Qa bn ⇑l (.lst (zs++[y]))) b3 rfl (.cons b4 .nil) %[_,hz,hl,rfl|rfl]) λu3 cl v3 cm b6 cn %[co|b9]=>?_)))));subst b9;let%[J1,J2|J3]:=an b6;show Z3 (Z3 %[rfl,m',hm,i+1,ys++[y],E,_,J1,J2,J3|b5])
 subst as;show(codeAny_compStart_list al (T.self _ 0 _ _ _ bc al))
def GV{X:Cx}(S:aD X a e f)(n:X.calm=hX)(hi:PI X l iter o)
 (p:∀b c d,PG (cq X a e b c d) l g) (r:∀b c d,PTs (cq X a e b c d) i u) (v:∀b c d,PE (cq X a e b c d) j w)
 (y:∀x,Pw iter X.env x=pure x):
 PE X (.ListComp j [%[l,iter,i|0]] a pos) (tK o e.length f g u w):=by
 intro ij s E H Q I h;show tL S n hi p r v y I h λD C z G J m A _ k q=>%[m,A|λh' B=>%[.ref D,z,k h' B,rfl|q]]
abbrev Its(z:kG):It:=%[λi _=>i<z.cps.size,λi H x a=>a=H/\∃c,z.cps[i]?∣c/\x= .str ⟨#[c]⟩|λi _=>z.cps.size<=i]
def pM{P:nX}{K:ZA}(it:kw)(z:kG)(t:Tok):rR P w K tg (Its z) [it] it (λi h=>h.IsStrIter it "str_ascii_iterator" z t i) where
 mem:=by simp
 obj:=λi h st b hb=>by
  let e:=↑hb
  subst e;let%[o,e,c|d]:=st;show%[o,e|λv z=>by lia]
 keep:=λi h h' st k=>by
  let%[o,e|r]:=st;show%[o,k it ∅ o e|r]
 item:=by
  intro X hP hw hK hc i ij s σ H E I hf st hg;let hlt:i<z.cps.size:=hg;let%[f0,f1,f2,f3,f4|f5]:=hf it ∅;show wpAny_pyNext_ascii_item st (c:=z.cps[i]) ∅ λh' st' sb=>?_
  let%[o,e,c|d]:=id st';show%[_,ρ|sQ e c d (!1) %[.str _,H,(I.turned (λb o hb e=>(sb.2 b hb).trans e) f0 f1 f3 f4 f5),%[_|ρ],%[ρ,_,by simp|ρ],st'|λb hb=>(hf b hb).1]]
 done:=by
  intro X hP hw hK hc i ij s σ H E I hf st hg;let hle:z.cps.size<=i:=hg;let%[f0,f1,f2,f3,f4|f5]:=hf it ∅;show wpAny_pyNext_ascii_end (I.ok.hd hc) st (by simp[hle]) λh' eb=>%[rfl|I.turned (λb o hb e=>eb b o hb e) f0 f1 f3 f4 f5]
 self:=λ_ _ _ _ _ st h=>wpAny_pyIter_striter_ascii st h
def tM{P:nX}{K:ZA}(it:kw)(z:kG)(t:Tok):rR P w K tg (Its z) [it] it (λi h=>h.IsStrIter it "str_iterator" z t i) where
 mem:=by simp
 obj:=λi h st b hb=>by
  let e:=↑hb
  subst e;let%[o,e,c|d]:=st;show%[o,e|λv z=>by rw[d]at z;cases z]
 keep:=λi h h' st k=>by
  let%[o,e|r]:=st;show%[o,k it ∅ o e|r]
 item:=by
  intro X hP hw hK hc i ij s σ H E I hf st hg;let hlt:i<z.cps.size:=hg;let%[f0,f1,f2,f3,f4|f5]:=hf it ∅;show wpAny_pyNext_wide_item st (c:=z.cps[i]) ∅ λh' st' sb=>?_
  let%[o,e,c|d]:=id st';show%[_,ρ|sQ e c d (!1) %[.str _,H,(I.turned (λb o hb e=>(sb.2 b hb).trans e) f0 f1 f3 f4 f5),%[_|ρ],%[ρ,_,by simp|ρ],st'|λb hb=>(hf b hb).1]]
 done:=by
  intro X hP hw hK hc i ij s σ H E I hf st hg;let hle:z.cps.size<=i:=hg;let%[f0,f1,f2,f3,f4|f5]:=hf it ∅;show wpAny_pyNext_wide_end (I.ok.hd hc) st (by simp[hle]) λh' eb=>%[rfl|I.turned (λb o hb e=>eb b o hb e) f0 f1 f3 f4 f5]
 self:=λ_ _ _ _ _ st h=>wpAny_pyIter_striter_wide st h
abbrev CK(D:kw)(n i:iv)(Pv:iv->gN V->St->Hp->Prop)(ys:gN V)(b:St)(y:V)(H:Hp):Prop:=
 ∃zs a,H D<*zs/\ ~~~zs<lX/\a<n-i/\(a=n-(i+1)/\i+1<=n/\Pv (i+1) (ys++[y]) b (Qa H D (.lst (zs++[y]))))
abbrev CN(n i:iv)(Pv:iv->gN V->St->Hp->Prop)(ys:gN V)(b:St)(H:Hp):Prop:=∃a,a<n-i/\(a=n-(i+1)/\i+1<=n/\Pv (i+1) ys b H)
def CK.mk{Pv:iv->gN V->St->Hp->Prop}(hi:i<n)(a:H D<*zs)(b: ~~~zs<lX)(p:Pv (i+1) (ys++[y]) c (Qa H D (.lst (zs++[y])))):CK D n i Pv ys c y H:=
 %[zs,n-(i+1),a,b,⋯,rfl,hi|p]
def CN.mk{Pv:iv->gN V->St->Hp->Prop}(hi:i<n)(p:Pv (i+1) ys a H):CN n i Pv ys a H:=%[n-(i+1),⋯,rfl,hi|p]
def dS{J:It}{g:TG}{v:TT}{w:TE}{z:Hp->Prop}(Pv:iv->gN V->St->Hp->Prop)(A:Pv 0 [] c H)(s:∀i ys c H,i<n->Pv i ys c H->J.go i H)(d:∀ys c H,Pv n ys c H->J.stop n H)
 (B:∀i ys c H,i<n->Pv i ys c H->∀x f,J.yld i H x f->g x c f λa u=>v a u λb h=>if b=hX then w a h λy r=>CK D n i Pv ys a y r else CN n i Pv ys a h) (C:∀ys c H,Pv n ys c H->z H):
 ∃W:iv->iv->gN V->St->Hp->Prop,(∃m,W 0 m [] c H)/\∀i m ys j l,W i m ys j l->(J.stop i l/\z l)\/
  (J.go i l/\∀x f,J.yld i l x f->g x j f λa u=>v a u λb h=>if b=hX then w a h λy r=>∃zs o,r D<*zs/\ ~~~zs<lX/\o<m/\W (i+1) o (ys++[y]) a (Qa r D (.lst (zs++[y])))
   else∃o,o<m/\W (i+1) o ys a h):=by
 show%[λi m ys c H=>m=n-i/\i<=n/\Pv i ys c H,%[n,by simp,Xe _|A]|?_];intro i m ys c H %[rfl,hi|p];by_cases q:i<n
 .show .inr %[s i ys c H q p|λx f y=>B i ys c H q p x f y]
 .let e:i=n:=by lia
  subst e;show .inl %[d ys c H p|C ys c H p]
def Ap:∀{bs:gN re} {us:ZG} {i:iv} {v:jg},aN (bs.map V.bl) us->us[i]?∣v->∃b,bs[i]?∣b/\v= .bool b
 |[],_,_,_,r,e=>by cases r;simp at e
 | b::bs,_,i,v,r,e=>by
   cases r with
   | cons a c=>
     cases(a);cases i with
     | zero=>simp at e;show%[b,ρ|e.symm]
     | succ i=>
       let%[d,f|g]:=Ap c (e);show%[d,f|g]
def pN(bs:gN re):(p0 bs.length).all (λi=>bs.getD i hY)=bs.all id:=by
 let e:(p0 bs.length).map (λi=>bs.getD i hY)=bs:=by
  apply QR
  .simp
  .intro i a b
   simp_all
 let:(p0 bs.length).all (λi=>bs.getD i hY)=((p0 bs.length).map λi=>bs.getD i hY).all id:=by rw[WU];rfl
 rw[this,e]
def DL{X:Cx}(m:X.calm=hX):cF X (.builtin "all") (λxs H Q=>cL xs λg=>asR g λp=>∃(bs:gN re),Qb X.K H p (bs.map V.bl)/\Q (.bl (bs.all id)) H):=by
 intro ij s E H xs us Q I r h;let%[g,rfl|d]:=bC h;let%[p,rfl|f]:=aO d;let%[bs,n|q]:=f;let%[u,rfl|w]:=dc r;cases w;let%[its,j,pl|G]:=I.list n;let y:X.A.in1.handled=hH:=I.ok.hd m;let a: ~~~bs=its.toArray.size:=by rw[Zp,<-j.length,Z6]
 show call_all_walk (Pk pl.isList %[⇑s,[⇑s,p],[⇑s],its.toArray.size,_,_,λi=>bs.getD i hY,rfl,SV y _ p (Zs (by let%[o,z|_]:=pl.isList;show Zu z)) its.toArray,%[%[_,Zj _ rfl,rfl|rfl]|pl.isList.push _],?_|?_])
 .intro i v s' A J B c;let%[b,l|rfl]:=Ap j ↑B;let e:bs.getD i hY=b:=!2
  let c:A (bs.getD i hY) s':=c;rw[e]at c;show Nq c
 .intro h' tk C;rw[<-a,pN];show%[.bl _,H,I.kept λb o e=>C b o ?_ (Z7 _ e),ρ|q];let:=Zu e;intro l;show n0 (Xn l) (Zs this)
def i5:∀{ss:ZB} {us:ZG},aN (ss\3) us->Ng us ss
 |[],_,r=>by cases r;show .nil
 | x::ss,_,r=>by
   cases r with
   | cons a b=>
     let%[t|e]:=a;subst e;show .cons x t (i5 b)
abbrev Aq(K:ZA):V->gN V->Hp->VK->Prop:=λx vs H Q=>asS x λz=>cL vs λa=>asR a λl=>∃ss,Qb K H l (ss\3)/\(ss.map (·.length)).sum+ ~~~ss* ~~~z<=16777216/\Q (.str (Txt.join z ss)) H
def GW{X:Cx}:MtM X "str.join" (Aq X.K):=by
 intro ij s i H x vs v us Q I d e h;let%[z,rfl|a]:=d8 h;let%[j,rfl|b]:=bC a;let%[l,rfl|c]:=aO b;let%[ss,f,hw|q]:=c;let%[t|rfl]:=d;let%[u,rfl|g]:=e.one;cases g;let%[its,r,pl|m]:=I.list f;show XZ pl.isList (i5 r) hw λt' k=>%[.str _,H,I.tok k,%[_|rfl]|q]
def DM{X:Cx}:cF X (.builtin "isinstance") (λxs H Q=>∃x n t b,xs=[x,.ty n]/\kD X.K H x t/\Ps X.K t (.type n)∣b/\Q (.bl b) H):=by
 intro ij s d H xs us Q I r h;let%[x,n,t,b,rfl,ty,e|q]:=h;let%[u,f,rfl,c|a]:=kK r;cases(a);show BH I c ty e λtk=>%[.bl b,H,I.tok tk,rfl|q]
def tN(z:kG)(c i:iv):TD z ⟨#[c]⟩ i=decide (z.cps[i]?∣c):=by
 unfold TD;let b: ~~~(⟨#[c]⟩:kG)=1:=rfl;rw[b];by_cases hi:i<z.cps.size
 .let e:z.cps.extract i (i+1)= #[z.cps[i]]:=by
   apply YE
   .simp;lia
   .intro j d a;simp at a;subst a;simp
  rw[e,J6 hi];by_cases f:z.cps[i]=c
  .subst f;simp
  simp_all
 .let e:z.cps.extract i (i+1)= #[]:=by
   apply YE
   .simp;lia
   .intro j d a;simp at a
  rw[e,OQ ⋯];simp
def vf(z:kG)(c:iv):(!(KE z ⟨#[c]⟩ 0 z.length 1).isEmpty)=decide (c∈z.cps.toList):=by
 rcases StrLaws.occ_head z _ 1 (Zi _)with⟨e,d⟩|⟨i,r,e,f,_⟩
 .rw[e];show(Zh λg=>?_).symm;let%[j,h|l]:=gN.mem_iff_getElem.mp g;let a:=↑h
  show d j %[?_|?_]
  .change j+1<=z.cps.size;lia
  .rw[tN];show Zf (by rw[J6 a];simpa using l)
 .rw[e];show(Zf ?_).symm;let b:=f.2;rw[tN]at b;let:=Ph (Zo b);simpa using this
section
variable{X:Cx}
nonrec abbrev Im:R2:=λx y H Q=>asS x λi=>asS y λj=> ~~~i+ ~~~j<=lX/\Q (.str (i++j)) H
nonrec abbrev DN:R2:=λx y H Q=>rI Dd (λi j=> .int (i*j)) x y H Q\/JL x y H Q
def GX:OpR X (Nr .Mult) DN:=De.or JM
nonrec abbrev JO:R2:=rEq
def JP:OpR X (pw .Eq) JO:=Dg
nonrec abbrev JQ:R2:=rNe
def JR:OpR X (pw .NotEq) JQ:=Dh
nonrec abbrev JS:R2:=λx y H Q=>asS x λi=>asS y λj=>Q (.bl (!(KE j i 0 j.length 1).isEmpty)) H
nonrec abbrev GY(K:ZA):R2:=λx y H Q=>JS x y H Q\/rIn K hY x y H Q
def JT:OpR X (pw .In) (GY X.K):=sU.or tz
abbrev GZ(K:ZA)(c:TE):TI:=λd H R=>c d H λx b=>(∃a,x= .ref a/\(∃xs,Qb K b a xs)/\R (Itl K a) b)\/(∃a,x= .ref a/\(∃xs,SqT K b a xs)/\R (Itt K a) b)\/∃z,x= .str z/\R (Its z) b
def JU(n:PE X l r):PI X C l (GZ X.K r):=by
 intro ij s u H R I h;show thP (n ij s u H _ I h) λv d x g f i w=>?_
 let c:∀b∈[⇑d],mY X ij g b:=λb y=>by
  let e:b=⇑d:=↑y
  subst e;show f.fpOk (Zi _) (f.hok.fresh (Zi _))
 rcases w with⟨a,e,⟨xs,j⟩,q⟩|⟨a,e,⟨xs,j⟩,q⟩|⟨z,e,q⟩
 .subst e;cases i;let%[its,A,p|B]:=f.list j;show Pk p.isList %[⇑d,[⇑d],_,_,g,rfl,f.kept (t':=d.toks) λb o e=>Z7 _ e,sS a _,%[_,Zj _ rfl,rfl|rfl],c|q]
 .subst e;cases i;let%[its,A,p|B]:=f.tuple j;show So (p) %[⇑d,[⇑d],_,_,g,rfl,f.kept λb o e=>Z7 _ e,yJ a _,%[_,Zj _ rfl,rfl|rfl],c|q]
 .subst e;let%[t|rfl]:=i;cases m:z.cps.all _ with
  | true=>
    show Wj m %[⇑d,[⇑d],_,_,g,rfl,f.kept λb o e=>Z7 _ e,pM _ z t,%[_,Zj _ rfl,rfl|rfl],c|q]
  | false=>
    show WK m %[⇑d,[⇑d],_,_,g,rfl,f.kept λb o e=>Z7 _ e,tM _ z t,%[_,Zj _ rfl,rfl|rfl],c|q]
end
abbrev bz(c:RV)(N:ZB)(a:RV)(d:ZB)(b:gN (iv×iv)):re:=
 decide (a.kind= .function)&&a.names.all (λy=>(decide (y.2≠ .cell)||decide (a.names.lookup y.1∣.cell))&&(decide (y.2≠ .local)||decide (a.names.lookup y.1∣.local))&&(decide (y.2≠ .free)||decide (c.names.lookup y.1∣.cell)||decide (c.names.lookup y.1∣.free)))&&
  b.all λp=>match d[p.1]? with
   | some x=>decide (N[p.2]?∣x)&&decide (a.names.lookup x∣.free)
   | none=>hY
def aD.of{X:Cx}(h:bz X.env.scope X.N a g c=hX):aD X a g c:=by
 unfold bz at h;rw[Zv,Zv,N7,N7]at h;let%[%[i|d]|j]:=h;show%[Zo i,λy b f=>?_,λy b f=>?_,λy b l=>?_|λp m=>?_]
 .let:=d y b;simp only[Zv,Ua,MW]at this;show this.1.1.resolve_left λq=>q f
 .let:=d y b;simp only[Zv,Ua,MW]at this;show this.1.2.resolve_left λq=>q f
 .let:=d y b;simp only[Zv,Ua,MW]at this;rcases this.2 with(q|q)|q
  .show n0 l q
  .show .inl q
  .show .inr q
 .let:=j p m;cases e:g[p.1]? with
  | none=>simp_all
  | some x=>
    rw[e]at this;simp only[Zv,MW]at this;show%[x,ρ,this.1|this.2]
structure Gv (mg:ZC) (x:kG) (v:V):Prop where
 ex:∃u,mg x∣u/\aX v u
def Io{X:Cx}(g:Gv X.mg x v)(a:Gl X x)(b:(x==("__debug__":kG))=hY):PE X (.Name x pos) (tC v):=by
 let%[u,h|r]:=g.ex;show Gd a h r b
structure Cal (P:nX) (w:wh) (K:ZA) (mg:ZC) (base:yc) (k:iv) (x:kG) (ps:ZB) (sp:Sp):Prop where
 ex:∃f fd,d9 P w K mg base CX0 k f fd ps sp/\mg x∣.ref f/\O5 K (.ref f)=hX/\ee K fd ps []
structure aF (K:ZA) (mg:ZC) (x:kG) (st:Ds) (ps:ZB):Prop where
 ex:∃f fd,Fun K x x st f fd/\mg x∣.ref f/\ee K fd ps []
def aF.cal{P:nX}{K:ZA}{st:Ds}(D:aF K mg x st ps)(S:av N ps (ap st))
 (a:∀(H:Hp) (vs:gN V) (Q:VK) (E:XK),sp vs H Q E-> ~~~vs= ~~~ps/\∀(f:kw) (b:jg) (A:vj) (outer:gN Env) (s:md),bP k (A.deeper (Nz x (ap st) ⇑s f b))->
  ∃t,PSs (gi CX0 P w K mg base N x (ap st) f b A outer s H E).nox (bR st) t/\t {nx:=λ_ c=>Q .non c,rt:=Q} (start N vs) H):Cal P w K mg base (k+1) x ps sp:=by
 let%[f,d,F,e|g]:=D.ex;show%[f,d,F.ok S (λv H Q E h=>(a H v Q E h).1) (λb A o s H v Q E r h=>(a H v Q E h).2 f b A o s r),e,F.kp|g]
def JV{X:Cx}(C:Cal X.prog X.w X.K X.mg X.base j x ps sp)(d:bP k X.A)(g:Gl X x)(h:iZ CX0 X E0)(i:PA X (e::es) t)(a:j<=k)
 (b:(x==("__debug__":kG))=hY) (l:vi (e::es) X.env=(hY,Nk e X.env)::vi es X.env) (c:(NP pos (vi es X.env)).any (·.1)=hY):
 PE X (.Call (.Name x p) (e::es) [] pos) (sX sp [] E0 t):=by
 let%[f,q,F,m,n|o]:=C.ex;show Am F (d.mono a) g m n o .nil h i b l c
def JW{K:ZA}{h:yc}{st:Ds}{kV e g d ct:jg}(X:K.In h)(G:h.Ns xl mg)
 (a:Sd K xl x∣hV (.ref f)) (l:K.lookup f=hV %[m,od,.func (Ti x x (dH st) (bR st) (ap st) .none kV e g i d ct)|j]) (c:RS K d x=hX) (k:O5 K (.ref f)=hX)
 (b:∀(kV e g:jg) (i:ZJ) (d ct:jg) (us:ZG),~~~us= ~~~ps->bindArgs (Ti x x (dH st) (bR st) (ap st) .none kV e g i d ct) %[us|[]]=pure (ps.zip us)):aF K mg x st ps:=
 %[f,_,eL l c k,OL X G a|(eL l c k).binds b]
def LD{K:ZA}{h:yc}(X:K.In h)(G:h.Ns xl mg)(a:Sd K xl x∣hV u)(r:aX v u):Gv mg x v:=%[u,OL X G a|r]
def az(h:∀a:It->Hp->Prop,(∀J f,(∃W:iv->iv->St->Hp->Prop,(∃m,W 0 m b f)/\∀i m b H,W i m b H->
 (J.stop i H/\D.nx b H)\/(J.go i H/\∃N:St->Hp->Prop,(∀c d,N c d->∃j,j<m/\W (i+1) j c d)/\∀x d,J.yld i H x d->g x b d λe l=>n {D with nx:=N,ct:=N,bk:=D.nx} e l))->a J f)->o b H a):ww o g n D b H:=h _ λ_ _ x=>x
def aI(h:∀c:It->Hp->Prop,(∀J j,(∀D,j D=hH->∃W:iv->iv->gN V->St->Hp->Prop,
 (∃m,W 0 m [] (tJ n l o) (Qa j D (.lst [])))/\∀i m ys d e,W i m ys d e->(J.stop i e/\Q (.ref D) e)\/
  (J.go i e/\∀x p,J.yld i e x p->g x d p λa s=>u a s λb q=>if b=hX then v a q λy r=>∃zs f,r D<*zs/\ ~~~zs<lX/\f<m/\W (i+1) f (ys++[y]) a (Qa r D (.lst (zs++[y])))
   else∃f,f<m/\W (i+1) f ys a q))->c J j)->w o H c):tK w n l g u v o H Q:=h _ λ_ _ x=>x
section
variable{X:Cx}{K:ZA}
def JX(h:X.K=K):OpR X (pw .In) (GY K):=by subst h;show JT
def BQ(h:X.K=K):cF X (.builtin "len") (λxs H Q=>cL xs λx=>∃n,Gu K x H n/\Q (.int n) H):=by subst h;show Dk
def BR(h:X.K=K)(a:X.calm=hX):cF X (.builtin "all") (λxs H Q=>cL xs λb=>asR b λp=>∃(bs:gN re),Qb K H p (bs.map V.bl)/\Q (.bl (bs.all id)) H):=by subst h;show DL a
def BS(h:X.K=K):cF X (.builtin "isinstance") (λxs H Q=>∃x n t b,xs=[x,.ty n]/\kD K H x t/\Ps K t (.type n)∣b/\Q (.bl b) H):=by subst h;show DM
def y6(h:X.K=K):cF X (.type "list") (λxs H Q=>cL xs λa=>asR a λp=>∃ys,(Qb K H p ys\/SqT K H p ys)/\∀l,H l=hH->Q (.ref l) (Qa H l (.lst ys))):=by subst h;show u9
def DO(h:X.K=K):MtR X "str.join" (Aq K):=by subst h;show GW
def BT(h:X.K=K)(d:PE X a e)(f:∀b,Th a X.env b=(do let v<-b;Pm a.pos;PY [v] (U2 v))):PT X a (λg H Q=>e g H λx c=>∃k,BE K x c k/\Q k c):=by subst h;show Dj d f
def G0(h:X.K=K)(a:PE X l b):PI X c l (GZ K b):=by subst h;show JU a
variable{o e:zr}{es:gN zr}{to:TE}{t:TA}{name:kG}{apos cpos:Pos}{T id:M9}{r:V->gN V->Hp->VK->Prop}
def G1(h:X.K=K)(d:PR T)(slot:Slot T name id)(c:P8 (.builtin id)=pure (.type "method_descriptor"))(f:MtR X id r)(g:PE X o to)
 (a:NE o name X.env (Nk o X.env)=Nk o X.env) (b:(apos.endLine==cpos.line)=hX):PE X (.Call (.Attribute o name apos) [] [] cpos) (GG K T r to):=by
 subst h;show JI d slot c f g a b
def DP(h:X.K=K)(g:PR T)(slot:Slot T name id)(f:P8 (.builtin id)=pure (.type "method_descriptor"))(i:MtR X id r)(j:PE X o to)(l:PA X (e::es) t)
 (b:NE o name X.env (Nk o X.env)=Nk o X.env)
 (d:((NP cpos (vi (e::es) X.env)).all (λx=>!x.1)&&(PB cpos (N4 [] X.env)).all (λx=>x.1.isSome)
  && decide (~~~(e::es)+ ~~~([]:gN O0)+(if([]:gN O0).isEmpty then 0 else 1)<30))=hX)
 (c:(apos.endLine==cpos.line)=hX) (m:vi (e::es) X.env=(hY,Nk e X.env)::vi es X.env) (a:(NP cpos (vi es X.env)).any (·.1)=hY):
 PE X (.Call (.Attribute o name apos) (e::es) [] cpos) (tBM K T r to t):=by
 subst h;show LB g slot f i j l b d c m a
end
section
variable{X:Cx}{ij:ZF}{σ:St}{H:Hp}{s s':md}{h':yc}{tk:iv}{fp:gN kw}
def Qc.moved(I:Qc X ij σ H s)(c:∀b∈fp,mY X ij H b)(d:∀b o,b∉fp->s.heap.get? b∣o->h'.get? b∣o):Qc X ij σ H {s with heap:=h',toks:=tk}:=by
 let f:∀b v,H b∣v->b∉fp:=λb v e a=>by rw[(c b a).1]at e;cases e
 show I.step (λb a=>%[(c b a).2.2.2.1,(c b a).2.1,(c b a).2.2.2.2.1|(c b a).2.2.2.2.2]) (λb o _ _ g e _=>d b o g e) (λb o _ _ g e _=>%[o.slots|d b o g e]) (λ_ _ _ _ n=>n)
  (λb o g e=>%[o|d b o g e]) (λ_ _ e=>e) (λ_ _ _ e=>e) (λb ps e=>%[#[]|by rw[e];simp]) (λm l=>?_) (λb v e=>?_) I.bare
 .let%[o,es,p,u|r]:=l;show%[o,es,p,d _ o (λa=>(c _ a).2.1 rfl) u|r]
 .show(I.hok b v e).stay (λj w h q=>d j w ?_ q) (λ_ q=>q) λ_ _ q=>q
  rcases h with i|i
  .show i▸f b v e
  .show f j _ i
def Qc.stood3(I:Qc X c y B s)(g:∀p∈ij,p∈c)(J:Qc X ij σ H s')(d:H a=hH)(C:s.heap.get? a=hH)(new:bZ X.prog X.w (Qa H a o) s'.heap a o):Qc X ij σ (Qa H a o) s':=by
 let ne:∀{b:kw} {o:Ov},s.heap.get? b∣o->b≠a:=λe z=>by lia
 show%[J.ok,J.os,J.bare,?_,J.loc,J.cell,?_,?_,?_,?_|J.len]
 .show%[J.base.keep,J.base.slot,λb o e n j=>?_,J.base.there,λb xs e=>?_,λb o v e=>?_|λb ps e=>?_]
  .let%[E|A]:=I.base.there b o e j;rw[aq (ne A)];show J.base.free b o e n j
  .rw[aq (aw (J.base.tups b xs e) d)];show J.base.tups b xs e
  .rw[aq (aw (J.base.frzs b o v e) d)];show J.base.frzs b o v e
  .let%[m|q]:=J.base.tbls b ps e;show%[m|(aq (aw q d))▸q]
 .let%[m,%[G,_,_,h|_]|_]:=I.loc;rw[aq (ne h)];show J.free
 .intro l f e;let%[L,M,i|_]:=I.cell l f e;rw[aq (ne i)];show J.freeC l f e
 .intro p u;let%[e,n|r]:=J.pin p u;show%[e,?_|r];let:=(I.pin p ((Xm u).elim (λz=>Yt _ z) λz=>Yu _ (g p z))).1;rw[aq (ne this)];show n
 .intro b v e;by_cases w:b=a
  .subst w;rw[aa]at e;cases e;show new
  .rw[aq w]at e;show(J.hok b v e).stay (λ_ _ _ q=>q) (λf q=>?_) λf xs q=>?_
   .rw[aq (aw q d)];show q
   .rw[aq (aw q d)];show q
def Qc.stood2(I:Qc X ij σ d s)(J:Qc X ij σ H s')(b:H a=hH)(c:⇑s<=a)(new:bZ X.prog X.w (Qa H a o) s'.heap a o):Qc X ij σ (Qa H a o) s':=
 I.stood3 (λ_ h=>h) J b (by
  cases e:s.heap.get? a with
  | none=>rfl
  | some o=>show n0 (Zu e) (iv.not_lt.mpr c)) new
def Qc.stoodS(I:Qc X ij σ H s)(J:Qc X ij σ H s')(b:⇑s<=a)(new:bZ X.prog X.w (Qa H a o) s'.heap a o):Qc X ij σ (Qa H a o) s':=I.stood2 J (I.hok.fresh b) b new
def Qc.stood(I:Qc X ij σ H s)(J:Qc X ij σ H {s with heap:=h',toks:=tk})(b:⇑s<=a)(new:bZ X.prog X.w (Qa H a o) h' a o):Qc X ij σ (Qa H a o) {s with heap:=h',toks:=tk}:=I.stoodS J b new
end
structure y8 (z TI TO i1 i2:kw):Prop where
 TIz:TI≠z
 TOz:TO≠z
 i1z:i1≠z
 i2z:i2≠z
 TITO:TI≠TO
 TIi1:TI≠i1
 TIi2:TI≠i2
 TOi1:TO≠i1
 TOi2:TO≠i2
 i12:i1≠i2
section
#where
variable{z TI TO i1 i2:kw}{fp1 fp2:gN kw}{n1 n2 i:iv}{P1 P2:iv->jg->Prop}{St1 St2:iv->yc->Prop}
def DQ{Q:ZE}(D1:VY prog w A i1 fp1 n1 P1 St1)(D2:VY prog w A i2 fp2 n2 P2 St2)(D:y8 z TI TO i1 i2)(O:∀b∈fp1,b≠z/\b≠TO/\b≠i2)(m2:∀b∈fp2,b≠z/\b≠TO/\b≠i1)
 (T:SZ s.heap z TI TO .none) (ac:PU s.heap TI (.ref i1) (.ref i2)) (ae:PU s.heap TO a b) (h1:St1 i s.heap) (h2:St2 i s.heap) (l1:i<n1) (l2:i<n2)
 (hQ:∀x y h' tk,P1 i x->P2 i y->SZ h' z TI TO (Nb ⇑s)->PU h' TO x y->St1 (i+1) h'->St2 (i+1) h'->PU h' ⇑s x y->
  (∀c o,c≠z->c≠TO->c≠i1->c≠i2->s.heap.get? c∣o->h'.get? c∣o)->Q (.ref ⇑s) {s with heap:=h',toks:=tk}):
 ↥A (n7.«zip.__next__» %[[.ref z]|[]]) (λfin s'=>∃v,fin= .done (.ret v)/\Q v s') E s:=by
 let r:∀{k h h' c},(∀b∈fp1,b≠c)->vu c h h'->St1 k h->St1 k h':=λhc sb st=>D1.frame _ _ _ st λb d o e=>(sb.2 b (hc b d)).trans e
 let u:∀{k h h' c},(∀b∈fp2,b≠c)->vu c h h'->St2 k h->St2 k h':=λhc sb st=>D2.frame _ _ _ st λb d o e=>(sb.2 b (hc b d)).trans e
 change tI _ _ (field (.ref z) 2>>= _) _ _ _;show Z2 (NG T rfl (x:= .bool hY) rfl ?_);change tI _ _ (field (.ref z) 3>>= _) _ _ _;show Z2 (NG T rfl (x:= .ref TI) rfl (Z2 (Nj ac rfl ?_)));change tI _ _ (Nx (.ref z)>>= _) _ _ _;show Z2 ?_;unfold Nx;show Z2 (NG T rfl (x:= .none) rfl (Z3 ?_));simp only[Rr];show Z2 (Oy (Z2 (NG T rfl (x:= .ref TO) rfl (Z2 (G2 T ∅ λg1 M n=>?_)))));replace M:SZ g1 z TI TO .ellipsis:=M;show Z2 ?_;simp only[Sj,VW,Ss,Wg];show Z2 (Z2 (Si ?_));change tI _ _ (Oa (.ref i1)>>= _) _ _ _;show Z2 (D1.item i _ _ _ l1 (r (λb d=>(O b d).1) n h1) λx g2 ag px ah f=>Z3 ?_);replace f:vu i1 g1 g2:=f;let I:PU g2 TO a b:=(f.2 _ D.TOi1).trans ((n.2 _ D.TOz).trans ae);show Z2 (Nj I rfl (Z2 (RE (s:={s with heap:=g2,toks:=ag}) I λg3 p g=>?_)));replace p:PU g3 TO x b:=p;replace g:vu TO g2 g3:=g;show Z2 (Oz (Z3 (Z2 (Z2 (Si ?_)))));change tI _ _ (Oa (.ref i2)>>= _) _ _ _;show Z2 (D2.item i _ _ _ l2 (u (λb d=>(m2 b d).2.1) g (u (λb d=>(m2 b d).2.2) f (u (λb d=>(m2 b d).1) n h2))) λy g4 B py ak j=>Z3 ?_);replace j:vu i2 g3 g4:=j;let J:PU g4 TO x b:=(j.2 _ D.TOi2).trans p;show Z2 (Nj J rfl (Z2 (RE (s:={s with heap:=g4,toks:=B}) J λq m l=>?_)));replace m:PU q TO x y:=m;replace l:vu TO g4 q:=l;show Z2 (Oz (Z3 (Z3 (Z2 (Nj m rfl (Z2 (RF ?_)))))));let U:q.objs.size=⇑s:=by rw[l.1,j.1,g.1,f.1,n.1]
 let Y:SZ q z TI TO .ellipsis:=(l.2 _ D.TOz.symm).trans ((j.2 _ D.i2z.symm).trans ((g.2 _ D.TOz.symm).trans ((f.2 _ D.i1z.symm).trans M)));let al:∀c o,c≠z->c≠TO->c≠i1->c≠i2->s.heap.get? c∣o->q.get? c∣o:=λc o c1 c2 c3 c4 e=>
  (l.2 c c2).trans ((j.2 c c4).trans ((g.2 c c2).trans ((f.2 c c3).trans ((n.2 c c1).trans e))))
 let L:z<q.objs.size:=Zu Y;show Z2 (Z2 (G2 (s:={s with heap:=q.push {cls:= .type "tuple",data:= .seq #[x,y]},toks:=B}) (Z7 _ Y) ∅ λg7 N C=>?_));replace N:SZ g7 z TI TO (Nb q.objs.size):=N;replace C:vu z (q.push _) g7:=C;show G2 (s:={s with heap:=g7,toks:=B}) N ∅ λg8 G H=>?_
 replace G:SZ g8 z TI TO (Nb q.objs.size):=G;replace H:vu z g7 g8:=H;let up:∀c o,c≠z->q.get? c∣o->g8.get? c∣o:=λc o c1 e=>(H.2 c c1).trans ((C.2 c c1).trans (Z7 _ e))
 let ab:=(H.2 _ (Yz L)).trans ((C.2 _ (Yz L)).trans (Zj _ rfl));rw[U]at G ab;show Z3 %[_,rfl|?_];rw[U];show hQ x y g8 B px py G (up _ _ D.TOz m) (D1.frame _ _ _ (r (λb d=>(O b d).2.1) l (r (λb d=>(O b d).2.2) j (r (λb d=>(O b d).2.1) g ah))) λb d o e=>up b o (O b d).1 e) (D2.frame _ _ _ (u (λb d=>(m2 b d).2.1) l ak) λb d o e=>up b o (m2 b d).1 e) ab λc o c1 c2 c3 c4 e=>up c o c1 (al c o c1 c2 c3 c4 e)
def DR(O:VY prog w A i1 fp1 n1 P1 St1)(D2:VY prog w A i2 fp2 n2 P2 St2)(D:y8 z TI TO i1 i2)(m1:∀b∈fp1,b≠z/\b≠TO/\b≠i2)(m2:∀b∈fp2,b≠z/\b≠TO/\b≠i1)
 (C:SZ s.heap z TI TO .none) (T:PU s.heap TI (.ref i1) (.ref i2)) (U:PU s.heap TO a b) (h1:St1 i s.heap) (h2:St2 i s.heap) (l1:i<=n1) (l2:i<=n2) (ab:i=n1\/i=n2)
 (hE:∀h' e tk,(∀c o,c≠z->c≠TO->c≠i1->c≠i2->s.heap.get? c∣o->h'.get? c∣o)->(∃o,h'.get? e∣o/\o.cls= .type "StopIteration")->E (.ref e) {s with heap:=h',toks:=tk}):
 ↥A (n7.«zip.__next__» %[[.ref z]|[]]) Q E s:=by
 let Y:∀{k h h' c},(∀b∈fp1,b≠c)->vu c h h'->St1 k h->St1 k h':=λhc sb st=>O.frame _ _ _ st λb j o e=>(sb.2 b (hc b j)).trans e
 let v:∀{k h h' c},(∀b∈fp2,b≠c)->vu c h h'->St2 k h->St2 k h':=λhc sb st=>D2.frame _ _ _ st λb j o e=>(sb.2 b (hc b j)).trans e
 change tI _ _ (field (.ref z) 2>>= _) _ _ _;show Z2 (NG C rfl (x:= .bool hY) rfl ?_);change tI _ _ (field (.ref z) 3>>= _) _ _ _;show Z2 (NG C rfl (x:= .ref TI) rfl (Z2 (Nj T rfl ?_)));change tI _ _ (Nx (.ref z)>>= _) _ _ _;show Z2 ?_;unfold Nx;show Z2 (NG C rfl (x:= .none) rfl (Z3 ?_));simp only[Rr];show Z2 (Oy (Z2 (NG C rfl (x:= .ref TO) rfl (Z2 (G2 C ∅ λM n l=>?_)))));replace n:SZ M z TI TO .ellipsis:=n;show Z2 ?_;simp only[Sj,VW,Ss,Wg];show Z2 (Z2 (Si ?_));change tI _ _ (Oa (.ref i1)>>= _) _ _ _;let G:St1 i M:=Y (λb j=>(m1 b j).1) l h1;by_cases c1:i<n1
 .let e2:i=n2:=by lia
  show Z2 (O.item i _ _ _ c1 G λx r y px ae d=>Z3 ?_);replace d:vu i1 M r:=d;let u:PU r TO a b:=(d.2 _ D.TOi1).trans ((l.2 _ D.TOz).trans U);show Z2 (Nj u rfl (Z2 (RE (s:={s with heap:=r,toks:=y}) u λH ac f=>?_)));replace f:vu TO r H:=f;show Z2 (Oz (Z3 (Z2 (Z2 (Si ?_)))));change tI _ _ (Oa (.ref i2)>>= _) _ _ _;show Z2 (D2.done _ _ _ (e2▸v (λb j=>(m2 b j).2.1) f (v (λb j=>(m2 b j).2.2) d (v (λb j=>(m2 b j).1) l h2))) λN e p he=>?_);replace p:ExtBut i2 H N:=p;let%[oe,g|m]:=he;let I:SZ N z TI TO .ellipsis:=p _ _ D.i2z.symm ((f.2 _ D.TOz.symm).trans ((d.2 _ D.i1z.symm).trans n));let B:e≠z:=λx=>by subst x;rw[I]at g;cases g;simp at m
  show G2 (s:={s with heap:=N,toks:=y}) I ∅ λg5 _ q=>?_
  replace q:vu z N g5:=q;show hE g5 e y (λc o J d2 d3 d4 x=>(q.2 c J).trans (p c o d4 ((f.2 c d2).trans ((d.2 c d3).trans ((l.2 c J).trans x))))) %[oe,(q.2 e B).trans g|m]
 .let e1:i=n1:=by lia
  show Z2 (O.done _ _ _ (e1▸G) λr e d he=>?_);replace d:ExtBut i1 M r:=d;let%[oe,g|m]:=he;let L:=d _ _ D.i1z.symm n;let B:e≠z:=λx=>by subst x;rw[L]at g;cases g;simp at m
  show G2 (s:=(s>>>r)) L ∅ λH _ f=>?_
  replace f:vu z r H:=f;show hE H e s.toks (λc o J _ d3 _ x=>(f.2 c J).trans (d c o d3 ((l.2 c J).trans x))) %[oe,(f.2 e B).trans g|m]
end
abbrev Itz(x y:kG):It:=%[λi _=>i<x.cps.size/\i<y.cps.size,λi H v a=>∃c d T,x.cps[i]?∣c/\y.cps[i]?∣d/\H T=hH/\v= .ref T/\a=Qa H T (.tup [.str ⟨#[c]⟩,.str ⟨#[d]⟩])|
 λi _=>i<=x.cps.size/\i<=y.cps.size/\(i=x.cps.size\/i=y.cps.size)]
abbrev ZSt(z TI TO c d:kw)(e f:iv->yc->Prop)(i:iv)(h:yc):Prop:=SZ h z TI TO .none/\PU h TI (.ref c) (.ref d)/\(∃a b,PU h TO a b)/\e i h/\f i h
def kh(prog:nX)(w:wh)(x:kG)(t:Tok)(it:kw):∀A,A.handled=hH->
 VY prog w A it [it] x.cps.size (λi v=>∃c u,x.cps[i]?∣c/\v= .str ⟨#[c]⟩ u) (λi h=>h.IsStrIter it (Pc x) x t i):=by
 intro A a;unfold Pc;cases b:x.cps.all _ with
 | true=>show VY.strAscii a it x t
 | false=>show VY.strWide a it x t
def DS{P:nX}{K:ZA}(z TI TO i1 i2:kw)(x y:kG)(t u:Tok)(D:y8 z TI TO i1 i2):
 rR P w K (.Tuple elts kt tp) (Itz x y) [z,TI,TO,i1,i2] z (ZSt z TI TO i1 i2 (λi h=>h.IsStrIter i1 (Pc x) x t i) (λi h=>h.IsStrIter i2 (Pc y) y u i)) where
 mem:=by simp
 obj:=λi h st b hb=>by
  let%[hz,hTI,%[a,c|hTO],%[o1,e1,_|d1],o2,e2,_|d2]:=st
  grind
 keep:=λi h h' st k=>by
  let%[hz,hTI,%[a,c|hTO],%[o1,e1|r1],o2,e2|r2]:=st;show%[k z ∅ _ hz,k TI ∅ _ hTI,%[a,c|k TO ∅ _ hTO],%[o1,k i1 ∅ _ e1|r1],o2,k i2 ∅ _ e2|r2]
 item:=by
  intro X hP hw hK hc i ij s σ H E I hf st hg;subst hP hw hK;let%[hz,hTI,%[a,c|hTO],h1|h2]:=st;obtain⟨g1,g2⟩:i<x.cps.size/\i<y.cps.size:=hg;let hT:s.TypeIs (.ref z) "zip":=%[_,hz|rfl]
  let hh:X.A.in1.handled=hH:=I.ok.hd hc;unfold Qz;show Z2 (NV (NK (name:=!"__next__") hT Rk (Nc Rk hT WG
   (DQ (kh _ _ x t i1 _ hh) (kh _ _ y u i2 _ hh) D (λb hb=>(show b=i1 by simpa using hb)▸%[D.i1z,J0 D.TOi1|D.i12]) (λb hb=>(show b=i2 by simpa using hb)▸%[D.i2z,J0 D.TOi2|J0 D.i12]) hz hTI hTO h1 h2 g1 g2 λv1 v2 h' tk p1 p2 a1 a2 a3 a4 a5 hk=>Z3 ?_) (Wi _))))
  let%[c1,u1,e1|rfl]:=p1;let%[c2,u2,e2|rfl]:=p2;show%[_,ρ|Uy (s:={s with heap:=h',toks:=tk}) a1 λh'' hz'' sb=>?_];replace sb:vu z h' h'':=sb;let kk:∀b o,b∉[z,TI,TO,i1,i2]->s.heap.get? b∣o->h''.get? b∣o:=λb o hb e=>by
   simp only[Yv,X6,No,Pr]at hb;show(sb.2 b hb.1).trans (hk b o hb.1 hb.2.2.1 hb.2.2.2.1 hb.2.2.2.2 e)
  let turn1:Qc X ij σ H {s with heap:=h'',toks:=tk}:=I.moved hf kk;let Hn:H ⇑s=hH:=I.fresh;let I2:Qc X ij σ (Qa H ⇑s (.tup [.str ⟨#[c1]⟩,.str ⟨#[c2]⟩])) {s with heap:=h'',toks:=tk}:=
   I.stood turn1 (Zi _) %[by change 2<=lX;decide,[.str _ u1,.str _ u2],.cons %[_|rfl] (.cons %[_|rfl] .nil),_,((sb.2 _ (Yz (Zu hz))).trans a5),rfl,_|rfl]
  show%[.ref ⇑s,_,I2,ρ,%[c1,c2,_,e1,e2,Hn,ρ|ρ],%[hz'',(sb.2 _ D.TIz).trans (hk _ _ D.TIz D.TITO D.TIi1 D.TIi2 hTI),%[_,_|(sb.2 _ D.TOz).trans a2],?_|?_]|λb hb=>?_]
  .let%[o,e|r]:=a3;show%[o,(sb.2 _ D.i1z).trans e|r]
  .let%[o,e|r]:=a4;show%[o,(sb.2 _ D.i2z).trans e|r]
  .let:b<⇑s:=by
    simp only[Yv,X6,No]at hb;let%[o1,q1|_]:=h1;let%[o2,q2|_]:=h2;rcases hb with rfl|rfl|rfl|rfl|rfl
    .show Zu hz
    .show Zu hTI
    .show Zu hTO
    .show Zu q1
    .show Zu q2
   rw[aq (Zs this)];show(hf b hb).1
 done:=by
  intro X hP hw hK hc i ij s σ H E I hf st hg;let%[hz,hTI,%[a,c|hTO],h1|h2]:=st;obtain⟨g1,g2,g3⟩:i<=x.cps.size/\i<=y.cps.size/\(i=x.cps.size\/i=y.cps.size):=hg;let hT:s.TypeIs (.ref z) "zip":=%[_,hz|rfl]
  let hh:=I.ok.hd hc;show Z2 (NV (NK hT Rk (Nc Rk hT WG
   (DR (kh _ _ x t i1 _ hh) (kh _ _ y u i2 _ hh) D (λb hb=>(show b=i1 by simpa using hb)▸%[D.i1z,J0 D.TOi1|D.i12]) (λb hb=>(show b=i2 by simpa using hb)▸%[D.i2z,J0 D.TOi2|J0 D.i12]) hz hTI hTO h1 h2 g1 g2 g3 λh' e tk hk he=>?_) (Wi _))))
  let%[o,ho|hco]:=he;show Z2 (Oe %[o,ho|hco] Uf (Z3 %[rfl|?_]));let kk:∀b o,b∉[z,TI,TO,i1,i2]->s.heap.get? b∣o->h'.get? b∣o:=λb o hb e=>by
   simp only[Yv,X6,No,Pr]at hb;show hk b o hb.1 hb.2.2.1 hb.2.2.2.1 hb.2.2.2.2 e
  show I.moved hf kk
 self:=λ_ _ _ _ _ st h=>Q6 st.1 h
abbrev aS:zr->re
 | .Starred _ _=>hX
 | _=>hY
def aB(h:aS e=hY):vi (e::es) env=(hY,Nk e env)::vi es env:=by
 cases e<;> first|rfl|cases(show hX=hY from h)
def eM(h:aS e=hY):Om (e::es) env=(hY,assign e env)::Om es env:=by
 cases e<;> first|rfl|cases(show hX=hY from h)
def ei:∀{es:gN zr},es.any aS=hY->(NP pos (vi es env)).any (·.1)=hY
 |[],_=>rfl
 | e::es,h=>by
   rw[Zw,X7]at h;rw[aB h.1];let:=ei (pos:=pos) (env:=env) h.2;cases es with
   | nil=>rfl
   | cons b a=>
     simp only[NP]at this ⊢;simpa using this
def vg:∀{es:gN zr},es.any aS=hY->(NP pos (vi es env)).all (λx=>!x.1)=hX
 |[],_=>rfl
 | e::es,h=>by
   rw[Zw,X7]at h;rw[aB h.1];let:=vg (pos:=pos) (env:=env) h.2;cases es with
   | nil=>rfl
   | cons b a=>
     simp only[NP]at this ⊢;simpa using this
def gj:∀{es:gN zr},es.any aS=hY-> ~~~(Om es env)= ~~~es/\(Om es env).findIdx? (·.1)=hH
 |[],_=>%[rfl|rfl]
 | e::es,h=>by
   rw[Zw,X7]at h;rw[eM h.1];let a:=gj (env:=env) h.2;show%[by rw[Zr,Zr,a.1]|?_];rw[gN.findIdx?_cons,a.2];rfl
abbrev h9:zr->re
 | .ListComp _ _ _ _=>hX
 | .SetComp _ _ _ _=>hX
 | .DictComp _ _ _ _ _=>hX
 | _=>hY
def jK(h:h9 e=hY):Pb e t l env=pure hY:=by
 cases e<;> first|rfl|cases(show hX=hY from h)
abbrev DT:zr->re
 | .Tuple _ _ _=>hX
 | _=>hY
def y9(h:DT e=hY):swappedStores [t] e env=pure hH:=by
 cases t with
 | Tuple _ _ _=>cases e<;> first|rfl|cases(show hX=hY from h)
 | List _ _=>cases e<;> first|rfl|cases(show hX=hY from h)
 | _=>rfl
abbrev i6:zr->re
 | .Call _ _ _ _=>hX
 | _=>hY
def ic(h:i6 o=hY):NE o a env w=w:=by
 cases o<;> first|rfl|cases(show hX=hY from h)
abbrev pO:zr->re
 | .Set _ _ _=>hX
 | _=>hY
def m9(h:pO e=hY)(x:jg):Pw e env x=pure x:=by
 cases e<;> first|rfl|cases(show hX=hY from h)
structure QE (X:Cx) (e:zr) (t:TE):Prop where
 h:PE X e t
structure QT (X:Cx) (e:zr) (t:TT):Prop where
 h:PT X e t
structure QW (X:Cx) (e:zr) (t:TT):Prop where
 h:PW X e t
structure QA (X:Cx) (es:gN zr) (t:TA):Prop where
 h:PA X es t
structure QS (X:Cx) (st:Ds) (t:TS):Prop where
 h:PS X st t
structure QSs (X:Cx) (st:gN Ds) (t:TS):Prop where
 h:PSs X st t
structure QG (X:Cx) (e:zr) (t:TG):Prop where
 h:PG X e t
structure QGs (X:Cx) (es:gN zr) (t:TGs):Prop where
 h:PGs X es t
structure QI (X:Cx) (tg iter:zr) (wi:TI):Prop where
 h:PI X tg iter wi
structure QO (X:Cx) (e:lx zr) (t:TO):Prop where
 h:PO X e t
structure QTs (X:Cx) (ifs:gN zr) (t:TT):Prop where
 h:PTs X ifs t
structure OpQ (X:Cx) (f:jg->jg->Sem jg) (r:R2):Prop where
 h:OpR X f r
structure b7 (X:Cx) (f:jg) (r:gN V->Hp->VK->Prop):Prop where
 h:cF X f r
structure MtQ (X:Cx) (id:M9) (r:V->gN V->Hp->VK->Prop):Prop where
 h:MtR X id r
section
variable{X:Cx}{K:ZA}{pos:Pos}
def ax{i j}:QE X (.Constant (.int i) j pos) (tC (.int i)):=⟨IT⟩
def eBl{b j}:QE X (.Constant (.bool b) j pos) (tC (.bl b)):=⟨Lj⟩
def rT{j}:QE X (.Constant .none j pos) (tC .non):=⟨IU⟩
def cr{x j}:QE X (.Constant (.str x) j pos) (tC (.str x)):=⟨IV⟩
def vn(i:iv)(b:X.N[i]?∣x)(c:Vis X.env.scope x)(d:(x==("__debug__":kG))=hY)(a:(x==("__classdict__":kG))=hY):QE X (.Name x pos) (mX i):=⟨C1 b c d a⟩
def gvE(g:Gv X.mg x v)(a:Gl X x)(b:(x==("__debug__":kG))=hY):QE X (.Name x pos) (tC v):=⟨Io g a b⟩
def blE(a:Gl X x)(b:X.mg x=hH)(c:ND x∣u)(r:aX v u)(f:(x==("__name__":kG))=hY)(d:(x==("__debug__":kG))=hY):QE X (.Name x pos) (tC v):=
 ⟨Ge a b c r (λe=>by lia) d⟩
def ao:QA X [] yV:=⟨Do⟩
def paE(a:aS e=hY)(b:QE X e c)(d:QA X es t):QA X (e::es) (Ah c t):=⟨Ai b.h d.h (aB a)⟩
def calE(C:Cal X.prog X.w X.K X.mg X.base j x ps sp)(d:bP k X.A)(f:Gl X x)(a:Q0 j k=hX)
 (b:(x==("__debug__":kG))=hY) (c:(e::es).any aS=hY) (g:QA X (e::es) t):
 QE X (.Call (.Name x p) (e::es) [] pos) (sX sp [] E0 t):=by
 rw[Zw,X7]at c;show⟨JV C d f DK g.h (Yd a) b (aB c.1) (ei c.2)⟩
def cbE{id:M9}(c:b7 X (.builtin id) r)(d:Gl X x)(f:X.mg x=hH)(g:ND x∣.builtin id)(i:(x==("__name__":kG))=hY)(a:(x==("__debug__":kG))=hY)
 (b:(e::es).any aS=hY) (h:QA X (e::es) t):QE X (.Call (.Name x p) (e::es) [] pos) (tCB r t):=by
 rw[Zw,X7]at b;show⟨Dt c.h d f g h.h (λe=>by lia) a (aB b.1) (ei b.2)⟩
def ctE(c:b7 X (.type T) r)(d:Gl X x)(f:X.mg x=hH)(g:ND x∣.type T)(i:(x==("__name__":kG))=hY)(a:(x==("__debug__":kG))=hY)
 (b:(e::es).any aS=hY) (h:QA X (e::es) t):QE X (.Call (.Name x p) (e::es) [] pos) (tCB r t):=by
 rw[Zw,X7]at b;show⟨BJ c.h d f g h.h (λe=>by lia) a (aB b.1) (ei b.2)⟩
def bmE{T id:M9}(h:X.K=K)(l:PR T)(slot:Slot T name id)(g:P8 (.builtin id)=pure (.type "method_descriptor"))(m:MtQ X id r)
 (b:i6 o=hY) (a:(e::es).any aS=hY) (i:XJ (e::es).length 30=hX) (c:(d.endLine==f.line)=hX) (n:QE X o p) (q:QA X (e::es) t):
 QE X (.Call (.Attribute o name d) (e::es) [] f) (tBM K T r p t):=by
 let j:=a;rw[Zw,X7]at j;show⟨DP h l slot g m.h n.h q.h (ic b) ?_ c (aB j.1) (ei j.2)⟩;rw[vg a];let:decide (~~~(e::es)+ ~~~([]:gN O0)+(if([]:gN O0).isEmpty then 0 else 1)<30)=hX:=Zf ((iv.blt_eq.mp i));rw[this];rfl
def G3{T id:M9}(h:X.K=K)(f:PR T)(slot:Slot T name id)(e:P8 (.builtin id)=pure (.type "method_descriptor"))(g:MtQ X id r)
 (a:i6 o=hY) (b:(c.endLine==d.line)=hX) (i:QE X o j):QE X (.Call (.Attribute o name c) [] [] d) (GG K T r j):=⟨G1 h f slot e g.h i.h (ic a) b⟩
def jL(b:Gl X "range")(c:X.mg "range"=hH)(d:aS a=hY)(e:QA X [a] f):QI X g (.Call (.Name "range" p) [a] [] pos) (Db f):=⟨BB b c e.h (aB d)⟩
def DU(d:Gl X "range")(e:X.mg "range"=hH)(f:aS a=hY)(c:aS b=hY)(g:QA X [a,b] h):QI X i (.Call (.Name "range" p) [a,b] [] pos) (Dc h):=
 ⟨BC d e g.h ((aB f).trans (by rw[aB c];rfl)) (aB c)⟩
def anyI(h:X.K=K)(a:QE X l b):QI X c l (GZ K b):=⟨G0 h a.h⟩
section
variable{a b c:zr}{ta tb tc:TE}{op op':S5}{r r':R2}
def zd(e:OpQ X (pw op) r)(d:OpQ X (pw op') r')(f:lastMarks [op,op'] [b,c]=hY)(g:QE X a ta)(h:QE X b tb)(i:QE X c tc):QE X (.Compare a [op,op'] [b,c] pos) (yL r r' ta tb tc):=⟨Di e.h d.h g.h h.h i.h f⟩
def iC(d:OpQ X (pw op) r)(e:Nl op b=hY)(f:QE X a ta)(g:QE X b tb):QE X (.Compare a [op] [b] pos) (tOp r ta tb):=⟨Gq d.h f.h g.h e⟩
def bj(d:OpQ X (pw op) r)(e:Nl op b=hY)(f:QE X a ta)(g:QE X b tb):QT X (.Compare a [op] [b] pos) (wx (tOp r ta tb)):=⟨Gr d.h f.h g.h e⟩
def opE{op:Operator}(d:OpQ X (Nr op) r)(e:QE X a ta)(f:QE X b tb):QE X (.BinOp a op b pos) (tOp r ta tb):=⟨Lu d.h e.h f.h⟩
def G4(d:QE X a ta):QE X (.UnaryOp .USub a pos) (tUn (rU λi=> .int (-i)) ta):=⟨Lv Jp d.h⟩
def noO:QO X hH uX:=⟨GB⟩
def DV(h:QE X a ta):QO X (hV a) (Du ta):=⟨GC h.h⟩
def rV{op}(h:QE X a ta):QE X (.BoolOp op [a] pos) ta:=⟨Jc h.h⟩
def rW{rest:gN zr}(d:QE X a ta)(e:QE X (.BoolOp .And (b::rest) pos) tb):QE X (.BoolOp .And (a::b::rest) pos) (C3 ta tb):=⟨Jd d.h e.h⟩
def orV{rest:gN zr}(d:QE X a ta)(e:QE X (.BoolOp .Or (b::rest) pos) tb):QE X (.BoolOp .Or (a::b::rest) pos) (Jb ta tb):=⟨Lq d.h e.h⟩
def bD(h:QA X es t):QE X (.List es pos) (Jy t):=⟨JA h.h⟩
def d7{d}(h:QA X es t):QE X (.Tuple es d pos) (Jx t):=⟨Jz h.h⟩
def fk:QE X (.Dict [] [] pos) yZ:=⟨DH⟩
variable{tA tB':TT}{rest:gN zr}
def hJ(d:QT X a tA):QT X (.UnaryOp .Not a pos) (IX tA):=⟨Ja d.h⟩
def lP(d:QT X a tA):QW X (.BoolOp .And [a] pos) tA:=⟨Gg d.h⟩
def kE(d:QT X a tA):QW X (.BoolOp .Or [a] pos) tA:=⟨IY d.h⟩
def vo(d:QT X a tA)(e:QW X (.BoolOp .And (b::rest) pos) tB'):QW X (.BoolOp .And (a::b::rest) pos) (Gf tA tB'):=⟨IZ d.h e.h⟩
def orW(d:QT X a tA)(e:QW X (.BoolOp .Or (b::rest) pos) tB'):QW X (.BoolOp .Or (a::b::rest) pos) (tOr tA tB'):=⟨Lp d.h e.h⟩
def wT(h:QW X a tA):QT X a tA:=⟨PW.pt h.h⟩
def truT(h:X.K=K)(f:∀d,Th a X.env d=(do let v<-d;Pm a.pos;PY [v] (U2 v)))(g:QE X a ta):QT X a (λi H Q=>ta i H λx e=>∃k,BE K x e k/\Q k e):=⟨BT h g.h f⟩
def oE:QTs X [] GR:=⟨GS⟩
def ig(h:QT X c tA):QTs X [c] tA:=⟨GT h.h⟩
end
def dL(S:aD X c e f)(l:X.calm=hX)(m:pO iter=hY)(hi:QI X j iter n)
 (o:∀a b d,QG (cq X c e a b d) j g) (p:∀a b d,QTs (cq X c e a b d) h q) (r:∀a b d,QE (cq X c e a b d) i s):
 QE X (.ListComp i [%[j,iter,h|0]] c pos) (tK n e.length f g q s):=⟨GV S l hi.h (λa b d=>(o a b d).h) (λa b d=>(p a b d).h) (λa b d=>(r a b d).h) (m9 m)⟩
def aR:QSs X [] C4:=⟨Gh⟩
def aj{st:Ds}{rest:gN Ds}(a:QS X st t)(b:QSs X rest u):QSs X (st::rest) (aV t u):=⟨C5 a.h b.h⟩
def ar{st:Ds}(a:QS X st t):QSs X [st] t:=⟨Gi a.h⟩
def ifS(d:QT X c e)(f:QSs X a t)(g:QSs X b u):QS X (.If c a b pos) (lJ e t u):=⟨Lr d.h f.h g.h⟩
def aM(a:QE X e b):QS X (.Return (hV e) pos) (iY b):=⟨Je a.h⟩
def i7{st:Ds}:QS X st uS:=⟨C6⟩
def bS(c:Qq (Nm X.prog X.w) X.A X.env X.xe)(d:X.calm=hX)(e:pO iter=hY)(hi:QI X b iter f)(h:QG X b g)(i:QSs X a j):
 QS X (.For b iter a [] pos) (ww f g j):=⟨Jj c d hi.h h.h i.h (m9 e)⟩
def vp(i:iv)(b:X.N.Nodup)(hi:X.N[i]?∣x)(c:Loc X.env.scope x)(d:X.fn x=hX\/X.env.scope.names.lookup x∣.local)(f:h9 e=hY)(g:QE X e h):
 QS X (.Assign [.Name x a] e pos) (uT h (lK i)):=⟨Ji b hi c g.h (jK f) d⟩
def bo(a:h9 e=hY)(b:QE X e c):QS X (.Expr e pos) (nP c):=⟨Gj b.h (jK a)⟩
def G5(c:h9 e=hY)(hw:DT e=hY)(a:aS b=hY)(d:QE X e f)(h:QG X b g):QS X (.Assign [b] e pos) (uT f g):=
 ⟨Jh d.h h.h (jK c) (y9 hw) (by rw[eM a];rfl)⟩
def wG(i:iv)(a:X.N.Nodup)(hi:X.N[i]?∣x)(b:Loc X.env.scope x)(c:X.fn x=hX\/X.env.scope.names.lookup x∣.local):QG X (.Name x pos) (lK i):=⟨Gk a hi b c⟩
def cP:QGs X [] Jf:=⟨Gm⟩
def gsE(a:aS e=hY)(b:QG X e t)(c:QGs X es u):QGs X (e::es) (C7 t u):=⟨C8 b.h c.h (by rw[eM a];rfl)⟩
def fE(b:X.K=K)(c:X.calm=hX)(a:es.any aS=hY)(h:QGs X es t):QG X (.Tuple es k pos) (Gn K es.length t):=by
 subst b;show⟨Jg c h.h (gj a).1 (gj a).2⟩
def wH:OpQ X (Nr .Sub) (rI0 λi j=> .int (i-j)):=⟨Jn⟩
def JY:OpQ X (Nr .Mult) DN:=⟨GX⟩
def bG:OpQ X (Nr .Mod) (rI (λ_ j=>0<j) λi j=> .int (i%j)):=⟨Jo⟩
def jM:OpQ X (Nr .FloorDiv) (rI Lx λi j=> .int (i/j)):=⟨Go⟩
def jN:OpQ X (pw .Eq) JO:=⟨JP⟩
def tO:OpQ X (pw .NotEq) JQ:=⟨JR⟩
def G6:OpQ X (pw .Lt) (rI0 λi j=> .bl (decide (i<j))):=⟨Ly⟩
def BU:OpQ X (pw .LtE) (rI0 λi j=> .bl (decide (i<=j))):=⟨Lz⟩
def BV:OpQ X (pw .Gt) (rI0 λi j=> .bl (decide (j<i))):=⟨LA⟩
def LF:OpQ X (pw .Is) (λx y H Q=>y= .non/\Q (.bl (decide (x= .non))) H):=⟨Jr⟩
def vt:OpQ X (pw .IsNot) (λx y H Q=>y= .non/\Q (.bl (!decide (x= .non))) H):=⟨Gp⟩
def q_in(h:X.K=K):OpQ X (pw .In) (GY K):=⟨JX h⟩
nonrec abbrev As:R2:=λx y H Q=>asS x λi=>asS y λj=>Q (.bl (!(!(KE j i 0 j.length 1).isEmpty))) H
nonrec abbrev At(K:ZA):R2:=λx y H Q=>As x y H Q\/rIn K hX x y H Q
def Au(h:X.K=K):OpQ X (pw .NotIn) (At K):=by subst h;show⟨u8.or u5⟩
def dz(h:X.K=K):b7 X (.builtin "len") (λxs H Q=>cL xs λx=>∃n,Gu K x H n/\Q (.int n) H):=⟨BQ h⟩
def DW(h:X.K=K)(a:X.calm=hX):b7 X (.builtin "all") (λxs H Q=>cL xs λb=>asR b λp=>∃(bs:gN re),Qb K H p (bs.map V.bl)/\Q (.bl (bs.all id)) H):=⟨BR h a⟩
def Ip(a:X.calm=hX):b7 X (.builtin "min") (λxs H Q=>lI xs λb x2=>asI b λi=>asI x2 λj=>Q (.int (if j<i then j else i)) H):=⟨BF a⟩
def LG(h:X.K=K):b7 X (.builtin "isinstance") (λxs H Q=>∃x n t b,xs=[x,.ty n]/\kD K H x t/\Ps K t (.type n)∣b/\Q (.bl b) H):=⟨BS h⟩
def LH:b7 X (.type "int") (λxs H Q=>(∃i,xs=[.int i]/\Q (.int i) H)\/∃k,xs=[.bl k]/\Q (.int (if k then 1 else 0)) H):=⟨BG⟩
def i8(h:X.K=K):b7 X (.type "list") (λxs H Q=>cL xs λa=>asR a λp=>∃ys,(Qb K H p ys\/SqT K H p ys)/\∀l,H l=hH->Q (.ref l) (Qa H l (.lst ys))):=⟨y6 h⟩
def aT:MtQ X "list.append" va:=⟨tF⟩
def pP:MtQ X "list.extend" vb:=⟨BK⟩
def G7:MtQ X "list.clear" yY:=⟨DC⟩
def vv(h:X.K=K):MtQ X "str.join" (Aq K):=⟨DO h⟩
end
open PySem PySem.Spec PyProof.Rows PySem.SeqAt
abbrev ze:V->gN V->Hp->VK->Prop:=λx vs H Q=>asS x λz=>cL vs λa=>asS a λy=>1<= ~~~y/\ ~~~z+2<=lX/\∀l,H l=hH->Q (.ref l) (Qa H l (.lst ((Txt.split z y)\3)))
def tP:∀ss k,aN (ss\3) (strsFrom k ss)
 |[],_=> .nil
 | _::r,k=> .cons %[_|rfl] (tP r _)
def DX{X:Cx}:MtM X "str.split" ze:=by
 intro ij s n H x vs v us Q I i j h;let%[z,rfl|d]:=d8 h;let%[o,rfl|f]:=bC d;let%[y,rfl|g]:=d8 f;let%[p,r|q]:=g;let%[t|rfl]:=i;let%[w,rfl|l]:=j.one;let%[u|rfl]:=l;let b:(~~~y==0)=hY:=by simp;lia
 let m:=split_le z y;by_cases c1:(decide (~~~z< ~~~y)||decide (Td z<Td y))=hX
 .let e:Txt.split z y=[z]:=lp c1;rw[e]at q;show O6 S3 (O3 _ _ _) Sz (Sf _ _) (meets_str_split_cannot_occur z y t u c1) %[.ref _,_,I.lnew (ys:=[.str z]) (.cons %[_|rfl] .nil) (by change 1<=lX;decide),rfl|q _ I.fresh]
 .let c:=Sc.mpr c1;by_cases c2:(KE z y 0 z.length (~~~z+1)).isEmpty=hX
  .let e:Txt.split z y=[z]:=(ku c1).trans (lp c2);rw[e]at q;show O6 S3 (O3 _ _ _) Sz (Sf _ _) (meets_str_split_not_found z y t u c b c2) %[.ref _,_,I.lnew (ys:=[.str z]) (.cons %[_|rfl] .nil) (by change 1<=lX;decide),rfl|q _ I.fresh]
  .let e:Txt.split z y=Sg z _ y.length:=(ku c1).trans (ku c2);let a: ~~~(Sg z (KE z y 0 z.length (z.length+1)) y.length)<=lX:=by rw[<-e];lia
   show O6 S3 (O3 _ _ _) Sz (Sf _ _) (meets_str_split_sep z y t u c b (Sc.mpr c2) ⋯ a) ?_;rw[<-e]at a ⊢;show%[.ref _,_,I.lnew (tP _ _) (by rw[Z6];show a),ρ|q _ I.fresh]
def Av{X:Cx}:MtQ X "str.split" ze:=⟨DX⟩
abbrev Ite(K:ZA)(a:kw)(xs:gN V):It:=%[λi H=>Qb K H a xs/\i< ~~~xs,λi H v b=>∃x T,xs[i]?∣x/\H T=hH/\v= .ref T/\b=Qa H T (.tup [.int i,x])|λi H=>Qb K H a xs/\ ~~~xs<=i]
abbrev ESt(e it a:kw)(i:iv)(h:yc):Prop:=(∃b,IsEnum h e it i b)/\h.IsListIter it a i
def BW{P:nX}{K:ZA}(e it a:kw)(xs:gN V)(hne:e≠it):rR P w K (.Tuple elts kt tp) (Ite K a xs) [e,it] e (ESt e it a) where
 mem:=by simp
 obj:=λi h st b hb=>by
  let%[%[old|he],o1,e1,_|d1]:=st;simp only[Yv,X6,No]at hb;rcases hb with rfl|rfl
  .show%[_,he|λv q=>nomatch q]
  .show%[o1,e1|λv q=>by rw[d1]at q;cases q]
 keep:=λi h h' st k=>by
  let%[%[old|he],o1,e1|r1]:=st;show%[%[old|k e ∅ _ he],o1,k it ∅ _ e1|r1]
 item:=by
  intro X hP hw hK hc i ij s σ H E I hf st hg;subst hP hw hK;let%[%[old|he]|hit]:=st;obtain⟨hq,hi⟩:Qb X.K H a xs/\i< ~~~xs:=hg;let%[its,rv,p|hz]:=I.list hq;let%[u,hu|ru]:=rv.get (i:=i) (x:=xs[i]) ∅;show wpAny_pyNext_enum_item he hit p.isList ↑hu hne λh1 he1 hit1 ht1 hz1 hk1=>%[_,rfl|wpAny_letOwnedTupleGo_enum he1 λh2 he2 sb2=>?_]
  replace sb2:vu e h1 h2:=sb2;let elt:=Zu he;let kk:∀b o,b∉[e,it]->s.heap.get? b∣o->h2.get? b∣o:=λb o hb q=>by
   simp only[Yv,X6,No,Pr]at hb;show(sb2.2 b hb.1).trans (hk1 b o hb.1 hb.2 q)
  let J:Qc X ij σ H {s with heap:=h2,toks:=s.toks+1}:=I.moved hf kk;let I2:Qc X ij σ (Qa H ⇑s (.tup [.int i,xs[i]])) _:=
   I.stood J (Zi _) %[by change 2<=lX;decide,[.int i s.toks,u],.cons %[_|rfl] (.cons ru .nil),_,((sb2.2 _ (Yz elt)).trans ht1),rfl,_|rfl]
  show%[.ref ⇑s,_,I2,ρ,%[xs[i],_,by simp,I.fresh,ρ|ρ],%[%[u|he2]|?_]|λb hb=>?_]
  .let%[o,q|r]:=hit1;show%[o,(sb2.2 _ (J0 hne)).trans q|r]
  .let:b<⇑s:=by
    simp only[Yv,X6,No]at hb;rcases hb with rfl|rfl
    .show elt
    .show(by let%[o,q|_]:=hit;show Zu q)
   rw[aq (Zs this)];show(hf b hb).1
 done:=by
  intro X hP hw hK hc i ij s σ H E I hf st hg;subst hP hw hK;let%[%[old|he]|hit]:=st;obtain⟨hq,hi⟩:Qb X.K H a xs/\ ~~~xs<=i:=hg;let%[its,rv,p|hz]:=I.list hq;let hl:= ~~~rv;show wpAny_pyNext_enum_end (I.ok.hd hc) he hit p.isList (by simp;lia) λh1 xb=>%[rfl|I.moved hf λb o hb q=>?_]
  simp only[Yv,X6,No,Pr]at hb;show xb b o hb.2 q
 self:=λA i s Q E st h=>by
  let%[%[old|he]|hit]:=st;show WM he h
abbrev Iq(K:ZA)(c:TA):TI:=λd H R=>c d H λvs b=>cL vs λe=>asR e λa=>∃xs,Qb K b a xs/\R (Ite K a xs) b
section
variable{X:Cx}{K:ZA}{pos:Pos}
def tQ(n:X.K=K)(o:Gl X "enumerate")(r:X.mg "enumerate"=hH)(v:aS a=hY)(w:QA X [a] y):
 QI X (.Tuple i M N) (.Call (.Name "enumerate" p) [a] [] pos) (Iq K y):=by
 subst n
 constructor
 intro ij s z H R I h;show Call_ (iX I o r boot_enumerate (Nd (thP (w.h pos ij s z H _ I h) λus d vs A c B C=>?_) (aB v) rfl));let%[O,rfl|e]:=bC C;let%[l,rfl|f]:=aO e;let%[xs,E|q]:=f;let%[u,rfl|G]:=dc B;cases G;let%[its,Q,p|T]:=c.list E;show call_enumerate_list p.isList λU j g J L=>WM j %[⇑d+1,[⇑d+1,⇑d],ESt _ ⇑d l,Ite X.K l xs,A,rfl,(c.kept L),BW _ _ _ _ (iv.succ_ne_self _),%[%[_|j]|g],λb m=>?_|q]
 simp only[Yv,X6,No]at m;rcases m with rfl|rfl
 .show c.fpOk (Yf _) (c.hok.fresh (Yf _))
 .show c.fpOk (Zi _) (c.hok.fresh (Zi _))
end
section
variable(h:yc)(x y:kG)(t u:Tok)
noncomputable abbrev zs1:yc:=h.push {cls:= .type (Pc x),data:= .fields #[.str x t,.int 0 0]}
noncomputable abbrev zs2:yc:=(zs1 h x t).push {cls:= .type (Pc y),data:= .fields #[.str y u,.int 0 0]}
noncomputable abbrev zs3:yc:=(zs2 h x y t u).push {cls:= .type "tuple",data:= .seq #[.ref h.objs.size,.ref (zs1 h x t).objs.size]}
noncomputable abbrev zs4:yc:=(zs3 h x y t u).push {cls:= .type "tuple",data:= .seq #[.none,.none]}
noncomputable abbrev zs5:yc:=(zs4 h x y t u).push {cls:= .type "zip",data:= .fields #[.none,.bool hY,.bool hY,.ref (zs2 h x y t u).objs.size,.ref (zs3 h x y t u).objs.size]}
end
def oF(x y:kG)(t u:Tok):
 Meets (n7.«zip.__new__» %[[.type "zip",.str x t,.str y u]|[]]) (λ_ R s=>R (.ok (.ret (.ref (zs4 s.heap x y t u).objs.size))) (s>>>zs5 s.heap x y t u)):=
 .of_wp λprog w A R s b=>by
  let%[c,g,d,tk|os]:=s;let a:=PySem.sub_zip
  wp_walk using WL (x:=x) (t:=t),WL (x:=y) (t:=u)
  show%[_,ρ|b]
section
#where
def pQ
 (h:∀h',SZ h' (⇑s+4) (⇑s+2) (⇑s+3) .none->PU h' (⇑s+2) (.ref ⇑s) (.ref (⇑s+1))->PU h' (⇑s+3) .none .none->
  h'.IsStrIter ⇑s (Pc x) x t 0->h'.IsStrIter (⇑s+1) (Pc y) y u 0->(∀c o,s.heap.get? c∣o->h'.get? c∣o)->Q (.ref (⇑s+4)) (s>>>h')):
 ↥A (call (.type "zip") [.str x t,.str y u]) Q E s:=by
 show callType_new F.called_zip (!1) (F.typeCall_zip_2 _ _) (F.newCall_zip_2 _ _) (λobj=>F.args_object_init_3 obj _ _) F.entry_zip_new (oF x y t u) ?_;let n1:(zs1 s.heap x t).objs.size=⇑s+1:=Zq ..;let a:(zs2 s.heap x y t u).objs.size=⇑s+2:=by rw[Zq,n1]
 let b:(zs3 s.heap x y t u).objs.size=⇑s+3:=by rw[Zq,a]
 let e:(zs4 s.heap x y t u).objs.size=⇑s+4:=by rw[Zq,b]
 let f:∀c o,(zs4 s.heap x y t u).get? c∣o->(zs5 s.heap x y t u).get? c∣o:=λ_ _ q=>Z7 _ q
 let g:∀c o,(zs3 s.heap x y t u).get? c∣o->(zs5 s.heap x y t u).get? c∣o:=λc o q=>f c o (Z7 _ q)
 let i:∀c o,(zs2 s.heap x y t u).get? c∣o->(zs5 s.heap x y t u).get? c∣o:=λc o q=>g c o (Z7 _ q)
 let k2:∀c o,(zs1 s.heap x t).get? c∣o->(zs5 s.heap x y t u).get? c∣o:=λc o q=>i c o (Z7 _ q)
 let k1:∀c o,s.heap.get? c∣o->(zs5 s.heap x y t u).get? c∣o:=λc o q=>k2 c o (Z7 _ q)
 let d:(zs5 s.heap x y t u).get? (zs4 s.heap x y t u).objs.size∣_:=Zj _ rfl;let j:(zs5 s.heap x y t u).get? (zs3 s.heap x y t u).objs.size∣_:=f _ _ (Zj _ rfl);let l:(zs5 s.heap x y t u).get? (zs2 s.heap x y t u).objs.size∣_:=g _ _ (Zj _ rfl);let m:=i _ _ (Zj _ rfl);change _/\_;rw[a,b,e]at d;rw[n1,a]at l;rw[b]at j;rw[n1]at m;rw[e];show%[%[_,d|ρ]|h _ d l j %[_,(k2 _ _ (Zj _ rfl)),ρ|ρ] %[_,m,ρ|ρ] k1]
end
abbrev Ir(a:TA):TI:=λb H R=>a b H λvs c=>∃x y,vs=[.str x,.str y]/\R (Itz x y) c
section
variable{X:Cx}{K:ZA}{pos:Pos}
def Iu(v:Gl X "zip")(w:X.mg "zip"=hH)(z:aS a=hY)(f:aS b=hY)(A:QA X [a,b] B):
 QI X (.Tuple n M N) (.Call (.Name "zip" p) [a,b] [] pos) (Ir B):=by
 constructor
 intro ij s C H R I h;show Call_ (iX I v w boot_zip (Nd (thP (A.h pos ij s C H _ I h) λus c vs E g G J=>?_) (aB z) (by rw[aB f];rfl)));let%[x,y,e|q]:=J;subst e;let%[O,Q,rfl,%[t|rfl],u|rfl]:=kK G;show pQ λT o l m hi1 hi2 L=>Q6 o ?_
 let ne:∀i j,i≠j->⇑c+i≠⇑c+j:=λi j h e=>h (Rz e)
 show%[⇑c+4,[⇑c+4,⇑c+2,⇑c+3,⇑c+0,⇑c+1],_,Itz x y,E,ρ,(g.kept L),
  DS _ _ _ _ _ x y t u %[ne 2 4 (!1),ne 3 4 (!1),ne 0 4 (!1),ne 1 4 (!1),ne 2 3 (!1),ne 2 0 (!1),ne 2 1 (!1),ne 3 0 (!1),ne 3 1 (!1)|ne 0 1 (!1)],
  %[o,l,%[_,_|m],hi1|hi2],λb r=>?_|q]
 let d:⇑c<=b:=by
  simp only[Yv,X6,No]at r;rcases r with rfl|rfl|rfl|rfl|rfl<;> show Qh _ _
 show g.fpOk d (g.hok.fresh d)
end
inductive D where
 | non|bl (b:re)|int (i:on)|str (x:kG)|lst (ds:gN D)|tup (ds:gN D)
section
variable{K:ZA}{H H':Hp}
def ai.seqT(e:ai H H')(h:SqT K H a xs):SqT K H' a xs:=by
 rcases h with(h|⟨o,h⟩)|h
 .show .inl (.inl (e _ _ h))
 .show .inl (.inr %[o|e _ _ h])
 .show .inr h
end
def zf{X:Cx}(J:X.N.Nodup)(u:X.N[i]?∣x)(L:Loc X.env.scope x)(M:X.fn x=hX\/X.env.scope.names.lookup x∣.local)
 (w:Pb (.ListComp l [%[y,iter,p|0]] a pos) (hV (.Name x B)) f.line X.env=pure hX) (S:aD X a r A) (N:X.calm=hX) (O:∀x,Pw iter X.env x=pure x) (hi:PI X y iter Q)
 (T:∀c d j,PG (cq X a r c d j) y g) (U:∀c d j,PTs (cq X a r c d j) p Y) (he:∀c d j,PE (cq X a r c d j) l te):
 PS X (.Assign [.Name x B] (.ListComp l [%[y,iter,p|0]] a pos) f) (uT (tK Q r.length A g Y te) (lK i)):=by
 intro ij s σ H D I h;show Z2 (PV ?_);change tI _ _ (Pb (.ListComp l _ a pos) (hV (.Name x B)) f.line X.env>>= _) _ _ _;rw[w];show Z2 (Z3 (Z2 (Z2 (tL S N hi T U he O I h λD' C H5 s6 fl m hn j k q=>?_))));let%[o,es,ep,E,hd|hr]:=id hn;let I7:=(k s6.heap (vu.refl _ _)).pinned (λb n=>(Xn n)▸j) λb n=>by
  rw[Xn n];show%[o,E|λv z=>by lia]
 show WO (lH I7 J u L (v:= .ref D') rfl (λs8 G=>%[m,%[o,es,ep,((G.pin _ (Yu _ (Yu _ (gh (Yy.mpr rfl) E)))).1),hd|hr]|λh' sb=>Z3 (Z3 %[_,H5,(G.unpinned).moved (λb n=>(Xn n)▸j) λb o' n e=>(sb.2 b (λz=>n (Yy.mpr z))).trans e|q])]) M)
def BX(h:(env.blockKind== .function&&env.kindOf x==hV .local&&b.line==pos.line&&!(a.names.any λ(n,k)=>n==x&&(k== .local||k== .cell)))=hX):
 Pb (.ListComp c gens a pos) (hV (.Name x b)) l env=pure hX:=by
 change(pure (env.blockKind== .function&&env.kindOf x==hV _&&b.line==pos.line&&!(a.names.any _)))=pure hX;rw[h]
def lQ{X:Cx}(i:iv)(q:X.N.Nodup)(f:X.N[i]?∣x)(r:Loc X.env.scope x)(s:X.fn x=hX\/X.env.scope.names.lookup x∣.local)
 (h:(X.env.blockKind== .function&&X.env.kindOf x==hV .local&&u.line==pos.line&&!(c.names.any λ(n,k)=>n==x&&(k== .local||k== .cell)))=hX) (S:aD X c e j) (v:X.calm=hX) (w:pO iter=hY) (hi:QI X o iter y)
 (z:∀a b d,QG (cq X c e a b d) o g) (A:∀a b d,QTs (cq X c e a b d) l B) (C:∀a b d,QE (cq X c e a b d) m E):
 QS X (.Assign [.Name x u] (.ListComp m [%[o,iter,l|0]] c pos) p) (uT (tK y e.length j g B E) (lK i)):=
 ⟨zf q f r s (BX h) S v (m9 w) hi.h (λa b d=>(z a b d).h) (λa b d=>(A a b d).h) (λa b d=>(C a b d).h)⟩
section
#version
end
def cA:Slot "set_iterator" "__next__" "set_iterator.__next__":=
 .of (owner:="set_iterator") (n:="__next__") (by rw[XS,Vt];kernel_rfl) (!0) (!0) (!0) (by first|show .inl (!0)|show .inr ∅) (by kernel_rfl)
def iI:SS WP "set_iterator.__next__"=hV n7.«set_iterator.__next__»:=entryFor_of_tree (by kernel_rfl)
def jz(a:jg):Ww "set_iterator.__next__" %[[a]|[]]:=by kernel_rfl
def rX:SS WP "set.__iter__"=hV n7.«frozenset.__iter__»:=Ug (id':="frozenset.__iter__") (by kernel_rfl) rfl (!0) (by kernel_rfl)
def rY(t:nz)(n:iv):(t.orStandIn n).led=t.led:=by unfold nz.orStandIn;split<;> rfl
def zg(t:nz)(es:ow _)(h:on)(x:jg):(layNew t es h x).2.1.led=t.led:=by
 unfold layNew;cases t.freeSlot h with
 | none=>rfl
 | some p=>
   show rY _ _
def vw(t:nz)(es:ow _)(n:iv):(Q8 t es n).2.1.led=t.led:=by
 unfold Q8;cases a:t.relaid _ n with
 | none=>rfl
 | some p=>
   let%[t'|c]:=p;simp only
   split
   .simp only[UG,Vf]at a;cases b:Ur _ _ with
    | none=>rw[b]at a;cases a
    | some e=>rw[b]at a;injection a with a;injection a with d f;rw[<-d]
   .rfl
def pR(t:nz)(es:ow _)(n:iv)(c:t.plain=hY):(Q8 t es n).2.1.plain=hY:=by
 unfold Q8;cases a:t.relaid _ n with
 | none=>rfl
 | some p=>
   let%[t'|d]:=p;simp only
   split
   .simp only[UG,Vf]at a;cases b:Ur _ _ with
    | none=>rw[b]at a;cases a
    | some f=>rw[b]at a;injection a with a;injection a with e g;show e▸c
   .rfl
abbrev aY(w:wh):re:=w.params.followText "set-order"
abbrev bI(w:wh)(a:kw)(ks:ZB)(h:yc):Prop:=
 ∃o es b t ss,h.get? a∣o/\o.ExactSet/\o.data= .set es b t/\Ng (es.toList\2) ss/\ss.Perm ks/\ks.Nodup/\(∀e∈es.toList,∃z u,e=(N2 w z,.str z u))/\es.size<Pd/\t.fits es.size=hX/\(es.size≠0->t.plain=hY)/\t.led=!aY w
def tR(h:∀e∈l,∃z u,e=(N2 w z,.str z u)):ElemsOf (aU prog w) l:=λe a=>by
 let%[z,u|rfl]:=h e a;show%[%[kj z,eJ z u|ρ]|ρ]
def eY:∀{vs:ZG} {ss:ZB} {z:kG},Ng vs ss->((∃u,MU z u∈vs)↔z∈ss)
 | _,_,z,.nil=>by simp
 | _,_,z,.cons x t h=>by
   let b:=eY (z:=z) h
   constructor
   .rintro⟨u,a⟩;rcases Yv.mp a with e|e
    .injection e with c _;show c▸Zm
    .show Zk _ (b.mp %[u|e])
   .intro d;rcases Yv.mp d with e|e
    .show e▸%[t|Zm]
    .let%[u|a]:=b.mpr e;show%[u|Zk _ a]
def jO:∀{vs ws:ZG} {ss ts:ZB},Ng vs ss->Ng ws ts->Ng (vs++ws) (ss++ts)
 | _,_,_,_,.nil,h=>h
 | _,_,_,_,.cons x t h,h'=> .cons x t (jO h h')
def cG:∀{vs:ZG} {ss:ZB},Ng vs ss-> ~~~vs= ~~~ss
 | _,_,.nil=>rfl
 | _,_,.cons x t h=>by rw[Zr,Zr,cG h]
def cH(h:Ng vs ss)(p:ws.Perm vs):∃ts,Ng ws ts/\ts.Perm ss:=by
 show%[ws.map strOf,strsAre_map ws λv a=>h.all v (p.mem_iff.mp a)|?_];let:=p.map strOf;rwa[h.strs]at this
section
#where
variable{a:kw}
def bI.stored{h:yc}{o:Ov}{es b:ow (on×jg)}{t t':nz}(i:h.get? a∣o)(c:o.ExactSet)(d:o.data= .set es f t)(j:Ng (b.toList\2) ss)(l:ss.Perm ks)(m:ks.Nodup)
 (n:∀e∈b.toList,∃z u,e=(N2 w z,.str z u)) (p:b.size<Pd) (r:t'.fits b.size=hX) (v:t'.plain=hY) (y:t'.led=!aY w):
 (h.update a (Oh b t')).get? a=hV {o with data:= .set b (f+1) t'}/\bI w a ks (h.update a (Oh b t')):=by
 let g:=by
  let q:=MT (Oh b t') i (by rw[R5 b t' d];rfl);rwa[R5 b t' d]at q
 show%[g,_,b,f+1,t',ss,g,c,ρ,j,l,m,n,p,r,λ_=>v|y]
def wI{g:re->Sem SW}(O:∀(b:re) (h:md) (q:SW->md->Prop),q () h->↥A (g b) q E h){m:re}{R:lx re->md->Prop}(r:s.heap.get? a∣o)(i:o.ExactSet)(v:o.data= .set es ep t)
 (y:Ng (c.toList\2) ss) (B:ss.Perm ks) (C:ks.Nodup) (G:∀e∈c.toList,∃z u,e=(N2 w z,.str z u)) (j:c.size<Pd) (Q:d.fits c.size=hX) (H:d.plain=hY) (I:d.led=!aY w)
 (J:∀h',vu a s.heap h'->bI w a ks h'->R (hV hX) (s>>>h')):
 ↥A (do
  VG a c d
  if(!m&&d.tooFull)=hX then do
   g (Q8 d c (NM c.size)).2.2
   VG a (Q8 d c (NM c.size)).1 (Q8 d c (NM c.size)).2.1
   pure (hV hX)
  else pure (hV hX)) R E s:=by
 let%[M|T]:=bI.stored r i v y B C G j Q H I;let N:=vu.update s.heap a (Oh c d);show Z2 (N3 r v ?_ (N5 j))
 split
 .let p:=relayAll_perm d c (NM c.size);let f:=relayAll_fits d c (NM c.size);let l:=vw d c (NM c.size);let pl:=pR d c (NM c.size) H
  generalize Q8 d c _=L at p f l pl ⊢
  let%[n,t3|gv]:=L;let z:n.size=c.size:=by rw[<-Zb,p.length_eq,Zb]
  let%[ts,U|Y]:=cH y (p.map _);show Z2 (O _ _ _ (Z2 (N3 M rfl (Z3 (J _ (N.trans (vu.update _ a _)) (bI.stored M i rfl U (Y.trans B) C (λe he=>G e (p.mem_iff.mp he)) (by rw[z];show j) f pl (l.trans I)).2)) (N5 (by rw[z];show j)))))
 .show Z3 (J _ N T)
def lR{ks:ZB}(hS:bI w a ks s.heap)(p: ~~~ks+1<Pd)
 (hQ:∀h' b,vu a s.heap h'->bI w a (if z∈ks then ks else ks++[z]) h'->Q b (s>>>h')):↥A (U6 a (.str z tk) (N2 w z)) Q E s:=by
 let%[o,es,ep,t,ss,B,r,C,f,Y,G,g,hb,hf,ab|c]:=hS;let hn:es.size= ~~~ks:=by
  let q:=cG f;rw[Z6,Zb,Y.length_eq]at q;show q
 let hE:ElemsOf (aU prog w) es.toList:=tR g;let H:(aU prog w).is (kj z) (.str z tk)=hX:=eJ z tk;unfold U6 setAddHashedIn;show v0 (Z2 (pp B C hf ?_));dsimp only;rw[byScan_of (knd:=aU prog w) rfl hb hE];simp only[↓reduceIte];unfold setAddByScan;show Z2 (Z2 (Oy (Z2 (W4 H B C hf hE ?_))));let I:(∃e∈es.toList,(aU prog w).is (kj z) e.2=hX)↔z∈ks:=by
  rw[<-Y.mem_iff,<-eY f]
  constructor
  .rintro⟨e,h,q⟩;let%[y,u|rfl]:=g e h;let q:kJ (kj z) (MU y u)=hX:=q;rcases a9 q with⟨i,t',q1,l⟩|⟨y',t',q1,l⟩
   .cases l
   .cases q1;show%[u|Xp %[_,h|by injection l with e1 _;rw[e1]]]
  .rintro⟨u,hu⟩;let%[e,h|q]:=Xo hu;show%[e,h|q▸eJ z u]
 cases hr:WC _ es.toList with
 | some j=>
   let%[hj,ac|_]:=R3.mp hr;let hz:=I.mp %[es.toList[j],Yc hj|ac];let q:=hQ s.heap hY (vu.refl a s.heap) ((lp hz)▸%[o,es,ep,t,ss,B,r,C,f,Y,G,g,hb,hf,ab|c]);show Z3 (Z3 q)
 | none=>
   let hz:z∉ks:=λq=>by
    let%[e,h|l]:=I.mpr q;let:=Tn.mp hr e h;rw[l]at this;cases this
   rw[ku hz]at hQ;let J:=layNew_perm t es (N2 w z) (.str z tk);let lf:=layNew_fits t es (N2 w z) (.str z tk);let ll:=zg t es (N2 w z) (.str z tk)
   generalize hL:layNew t es _ _=L at J lf ll
   let%[v,t1,ah|ag]:=L;rw[RJ]at J;let gone:∀b d Q',Q' () d->↥A (match b with|true=>RN "set.scan.the-table-gave-way"|false=>pure ()) Q' E d:=λb d Q' q=>by
    cases b
    .show Z3 q
    .show Oy q
   let m:∀e∈v.toList,∃z u,e=(N2 w z,.str z u):=λe h=>by
    rcases Xm (J.mem_iff.mp h)with q|q
    .show g e q
    .rw[Xn q];show%[z,tk|ρ]
   let q1:Ng ((es.toList++[(N2 w z,MU z tk)])\2) (ss++[z]):=by
    rw[Zd];show jO f (.cons z tk .nil)
   let%[ts,l|q3]:=cH q1 (J.map _);let M:=q3.trans (Y.append_right _);let n:=oU G hz;let ae:v.size=es.size+1:=by rw[<-Zb,J.length_eq,Z9,Zb];rfl
   let N:v.size<Pd:=by rw[ae,hn];show p
   let fin:∀h',vu a s.heap h'->bI w a _ h'->↥A _ Q E _:=λh' O T=>Z3 (hQ h' hX O T)
   show Z2 (gone _ _ _ ?_);cases U:t1.plain with
   | true=>
     show Z2 (Z3 (wI gone B r C l M n m N (nz.fits_plain_off lf) rfl (ll.trans c) λh' O T=>fin h' O T))
   | false=>
     show wI gone B r C l M n m N lf U (ll.trans c) λh' O T=>fin h' O T
def wJ(d:bI w a ks s.heap)(c: ~~~ks+1<Pd)
 (e:∀h' b,vu a s.heap h'->bI w a (if z∈ks then ks else ks++[z]) h'->Q b {s with heap:=h',toks:=s.toks+1}):↥A (U7 a (.str z tk)) Q E s:=by
 show v0 (Z2 (W5 (lR d c e)))
end
abbrev oG(ks:ZB)(z:kG):ZB:=if z∈ks then ks else ks++[z]
abbrev a7(ss:ZB):ZB:=ss.foldl oG []
def DY(ks:ZB)(z:kG): ~~~(oG ks z)<= ~~~ks+1:=by
 unfold oG;split
 .lia
 .show Z9▸Zi _
def DZ:y∈oG ks z↔y∈ks\/y=z:=by
 unfold oG;by_cases h:z∈ks
 .rw[lp h]
  simp_all
 .rw[ku h,Ys,Yy]
def zh(h:ks.Nodup):(oG ks z).Nodup:=by
 unfold oG;by_cases a:z∈ks
 .rw[lp a];show h
 .rw[ku a];show oU h a
def wK:∀{ss ks:ZB} {y:kG},y∈ss.foldl oG ks↔y∈ks\/y∈ss
 |[],ks,y=>by simp
 | z::r,ks,y=>by
   rw[Y8,wK,DZ,Yv]
   grind
def pS:∀{ss ks:ZB},ks.Nodup->(ss.foldl oG ks).Nodup
 |[],_,h=>h
 | z::r,ks,h=>by
   rw[Y8];show pS (zh h)
def aZ:y∈a7 ss↔y∈ss:=by unfold a7;rw[wK];simp
def dD(ss:ZB):(a7 ss).Nodup:=pS X3
def wL:∀(ss ks:ZB),~~~(ss.foldl oG ks)<= ~~~ks+ ~~~ss
 |[],ks=>by simp
 | z::r,ks=>by
   let a:=wL r (oG ks z);let b:=DY ks z;rw[Y8,Zr]
   lia
def wM{ss:ZB}{i:iv}{z:kG}(h:ss[i]?∣z):a7 (ss.take (i+1))=oG (a7 (ss.take i)) z:=by
 unfold a7;rw[X9,h,Vk];rfl
def bI.keep(S:bI w a ks h)(k:∀o,h.get? a∣o->h'.get? a∣o):bI w a ks h':=by
 let%[o,es,b,t,ss,c|r]:=S;show%[o,es,b,t,ss,k o c|r]
section
variable{prog:nX}{w:wh}{A:vj}{R:Su->md->Prop}{I:kw}{fp wr:gN kw}{G:ow R4->ow R4->Prop}{n:iv}{P:iv->jg->Prop}{St:iv->md->Prop}
def wN(W:WalksS prog w A.in1 I fp wr G n P St)(S:kw)(f:S∉fp){T:iv->yc->Prop}{V:yc->Prop}(tk:∀i h h',T i h->(∀o,h.get? S∣o->h'.get? S∣o)->T i h')(u:∀h h',V h->(∀b o,b≠S->b∉wr->h.get? b∣o->h'.get? b∣o)->V h')
 (add:∀i v (a:md) (Q:re->md->Prop) (E:ZE),P i v->T i a.heap->V a.heap->(∀h' b t,vu S a.heap h'->T (i+1) h'->a.toks<=t->Q b {a with heap:=h',toks:=t})->↥A.in1 (U7 S v) Q E a):
 ∀(k i:iv) (s:md),n-i=k->i<=n->St i s->T i s.heap->V s.heap->
  (∀s',Moved (S::wr) G s s'->T n s'.heap->R (.ok (.ret .none)) s')->Pz (Nm prog w) A (.builtin "set.update.loop" %[[.ref S,.ref I]|[]]) R s:=by
 let out:S∉wr:=λh=>f (W.sub _ h)
 let more:∀b∈wr,b∈S::wr:=λb c=>Zk _ c
 intro k
 induction k with
 | zero=>
   intro i s B hi st j y fin;let e:i=n:=by lia
   subst e;show Ny UE ?_;rw[NA Q3 _];change tI _ A.in1 (Qz (.ref I)>>= _) _ _ s;show Z2 (W.done s _ _ st λa d=>?_);change tI _ A.in1 (ret Nu) _ _ a;show Z3 (fin a (d.mono more) (tk _ _ _ j λo e=>d.heap S o out e))
 | succ k C=>
   intro i s B hi st j y fin;let lt:i<n:=by lia
   show Ny UE ?_;rw[NA Q3 _];change tI _ A.in1 (Qz (.ref I)>>= _) _ _ s;show Z2 (W.item i s _ _ lt st λv a pv l d=>?_);let g:=u _ a.heap y λb o _ c e=>d.heap b o c e
   show Z2 (v0 (add i v a _ _ pv (tk _ _ _ j λo e=>d.heap S o out e) g λL b M m p z=>Z3 %[NW Q3 _|C (i+1) _ ⋯ lt (W.frame _ a _ _ l z λb c o e=>?_) p (u _ _ g λb o n _ e=>(m.2 b n).trans e) λH J r=>?_]))
   .show(m.2 b (λq:b=S=>f (q▸c))).trans e
   .show fin H (Moved.trans W.gtrans ((d.mono more).then_heap z λb o c e=>(m.2 b (λq:b=S=>c (q▸Zm))).trans e) J) r
end
section
#where
noncomputable abbrev bV(w:wh):Ov:={cls:= .type "set",dict:=hH,data:= .set #[] 0 (.fresh 0 0 (!aY w))}
def Ea(a:jg)(h:Q₁ (.ref ⇑s) (s>>>s.heap.push (bV w))):
 Pz (Nm prog w) A (.call (.builtin "set.__new__") %[[.type "set",a]|[]]) (wants Q₁ E) s:=by
 show TM ?_;change tI _ A.in1 _ _ _ s;show Z2 (Tr (PySem.F.newCall_set_1 a) (Z3 %[NW PySem.F.plain_set_new _|Ny PySem.F.entry_set_new ?_]));unfold n7.«set.__new__» V2;let b:=sub_set_self;let%[c,g,d,tk|os]:=s;dsimp only
 wp_walk
 show Nn (Z3 ?_);dsimp only;simp only[newObj];show Z2 (wpAny_alloc (Z3 (Z3 h)))
def bI.empty(e:h.get? a∣bV w):bI w a [] h:=
 %[_,#[],0,_,[],e,%[rfl,rfl|rfl],rfl,.nil,.nil,X3,λe b=>by simp at b,!1,rfl,λq=>n0 rfl q|rfl]
def nW{T:iv->yc->Prop}(hh:A.handled=hH)(hl:s.heap.IsList l a)(t0:∀h,h.get? ⇑s∣bV w->T 0 h)(tk:∀i h h',T i h->(∀o,h.get? ⇑s∣o->h'.get? ⇑s∣o)->T i h')
 (add:∀i v (j:md) (Q:re->md->Prop) (E:ZE),a[i]?∣v->T i j.heap->(∀b o,s.heap.get? b∣o->j.heap.get? b∣o)->(∀h' b t,vu ⇑s j.heap h'->T (i+1) h'->j.toks<=t->Q b {j with heap:=h',toks:=t})->↥A.in1.in1.in1 (U7 ⇑s v) Q E j)
 (hQ:∀(h':yc) (tk:iv),T a.size h'->(∀b o,s.heap.get? b∣o->h'.get? b∣o)->Q (.ref ⇑s) {s with heap:=h',toks:=tk}):
 ↥A (call (.type "set") [.ref l]) Q E s:=by
 let%[c,tl|ac]:=PN.mro;let H:=PN.made;let ae:=PN.sub;show OB (TM ?_);change tI _ _ (callAny (.type "set") _) _ _ _;show Z3 %[RD _ (!0)|Ny F.entry_type_call ?_];rw[vj.under_plain (weight_type_call_type "set" [.ref l] []) rfl];let ah:=PN.notType;let ak:=PN.canCreate;let al:=PySem.F.typeCall_set_1 (.ref l)
 repeat any_goals first|assumption|wp_step
 show codeAny_mono (Ea (.ref l) (E:=E) (Q₁:=λobj m=>obj= .ref ⇑s/\m=(s>>>s.heap.push (bV w))) %[rfl|rfl]) λr m I=>?_
 cases r with
 | error e=>show I
 | ok fl=>
   cases fl with
   | ret obj=>
     let%[rfl|rfl]:=I;let gS:(s.heap.push (bV w)).get? ⇑s∣bV w:=Zj _ rfl;let tS:Rx (s>>>s.heap.push (bV w)) (.ref ⇑s) "set":=%[_,gS|rfl]
     let an:=PN.init.lookup;let as:=PN.init.bind (.ref ⇑s)
     repeat any_goals first|assumption|wp_step
     show codeAny_mono (OD (R:=wants (λr n=>r= .none/\∃h' tk,n={s with heap:=h',toks:=tk}/\T a.size h'/\(∀b o,s.heap.get? b∣o->h'.get? b∣o)) E) PN.init.plain F.entry_set_init (check_set_init_1 tS ?_)) λy n d=>?_
     .let%[ol,gl,cl,nl|dl]:=hl;let%[ag,p,J|g]:=ol;simp only at cl dl;subst cl;subst dl;let L:(s.heap.push (bV w)).get? l=hV {cls:= .type "list",dict:=p,data:= .seq a nl,slots:=g}:=Z7 _ gl;let a0:=PySem.F.sub_list_set;let a1:=PySem.F.sub_list_frozenset;let a2:(Nh "list"==Nh "dict")=hY:=!1
      let z:(s.heap.push (bV w)).IsList l a:=%[_,L,rfl,nl|rfl]
      unfold n7.«set.__init__»;unfold noKeywords;unfold VZ
      generalize M:U9=PI
      wp_walk
      subst M;show Pk z (Z2 (T5 ?_));let B:l<⇑s:=Zu gl;let h3:A.in1.in1.in1.handled=hH:=by simp[hh]
      let C:(s.heap.push (bV w)).objs.size=⇑s+1:=Zq ..;let N:l≠(s.heap.push (bV w)).objs.size:=by rw[C];show Zs (Ym B)
      let O:⇑s∉[(s.heap.push (bV w)).objs.size,l]:=by
       rw[C];simp only[Yv,X6,No,Pr];show%[Zs (Yn _)|Yz B]
      show wN ((SV h3 _ l N a).toS) ⇑s O (V:=λh=>∀b o,s.heap.get? b∣o->h.get? b∣o) tk (λh h' v k b o e=>?_) (λi v j Q E pv t v' q=>add i v j Q E pv t v' q) (a.size-0) 0 _ ⋯ (Xe _)
       %[%[_,Zj _ rfl,rfl|rfl]|z.push _] (t0 _ (Z7 _ gS)) (λb o e=>Z7 _ (Z7 _ e)) ?_
      .let f:=Zu e;show k b o (Zs f) ?_ (v b o e);simp only[Yv,X6,No,C];show Zs (Ym f)
      intro s3 G U;let%[h',g',d',Y|ab]:=s3;let eg:g'=s.gens:=G.gens;let ed:d'=s.drawn:=G.drawn;let eo:ab=s.os:=G.os;subst eg;subst ed;subst eo;show Z3 ?_;change tI _ _ (ret Nu) _ _ _;show Z3 %[rfl,h',Y,rfl,U|λb o e=>?_];let f:=Zu e;show G.heap b o ?_ (Z7 _ (Z7 _ e));simp only[Yv,X6,No,Pr,C];show%[Zs f|Zs (Ym f)]
     .cases y with
      | error e=>show d
      | ok u=>
        cases u with
        | ret r=>
          let%[rfl,h',tk,rfl,U|k3]:=d
          repeat any_goals first|assumption|wp_step
          show hQ _ _ U k3
        | _=>show d.elim
   | _=>show I.elim
end
section
variable{X:Cx}{K:ZA}
abbrev oH(w:wh)(a:kw)(ks:ZB):HO:= .ext (bI w a ks)
def Eb(y:X.calm=hX):cF X (.type "set") (λxs H Q=>cL xs λg=>asR g λp=>∃ss,Qb X.K H p (ss\3)/\ ~~~ss<=4000/\∀l,H l=hH->Q (.ref l) (Qa H l (oH X.w l (a7 ss)))):=by
 intro ij s M H xs us Q I r h;let%[g,rfl|a]:=bC h;let%[p,rfl|c]:=aO a;let%[ss,z,N|q]:=c;let%[u,rfl|A]:=dc r;cases A;let%[its,j,pl|O]:=I.list z;let d:=i5 j;let m:its.toArray.size= ~~~ss:=cG d;show nW (T:=λi h=>bI X.w ⇑s (a7 (ss.take i)) h) (I.ok.hd y) pl.isList (λh e=>bI.empty e) (λi h h' S k=>S.keep k) (λi v U Q E n B _ k=>?_) λh' tk S k=>?_
 .let lt:i< ~~~ss:=m▸(vr.mp n).1;let%[u,C,t|rfl]:=j.get (i:=i) (x:= .str ss[i]) (by simp[lt]);obtain rfl:v=_:=Za (n.symm.trans ↑C);let q:=wL (ss.take i) [];rw[Yk]at q;show wJ B (by change(a7 (ss.take i)).length+1<4096;unfold a7;simp only[Wo]at q;lia) λw b G f=>k w b _ G ?_ (Yf _)
  rw[wM (Z4 lt)];show f
 .rw[m,Zn (Zi _)]at S;show%[.ref ⇑s,_,I.laid (o:=oH X.w ⇑s _) k (Zi _) %[S,?_|λY w J k1=>J.keep k1],ρ|q _ I.fresh];let%[o,_,_,_,_,L|_]:=S;show%[o|L]
def Ec(h:X.K=K)(hw:X.w=w)(a:X.calm=hX):b7 X (.type "set") (λxs H Q=>cL xs λb=>asR b λp=>∃ss,Qb K H p (ss\3)/\ ~~~ss<=4000/\∀l,H l=hH->Q (.ref l) (Qa H l (oH w l (a7 ss)))):=by subst h;subst hw;show⟨Eb a⟩
end
def i9:∀{xs:gN a} {i:iv} (h:i< ~~~xs),(xs[i]::xs.eraseIdx i).Perm xs
 | x::r,0,_=>by simp
 | x::r,i+1,h=>by
   show(UL _ _ _).trans (.cons _ (i9 ↑h))
section
#where
def BY(a:n≠0)(h:∀i d,i<n->Q i {s with drawn:=d}):↥A (choose b n) Q E s:=by
 intro c p _;show%[a|h _ _ (Tg _ (RW a))]
def vx:∀(n:iv) (xs:gN b) (s:md) (Q:gN b->md->Prop),~~~xs<=n->(∀ys d,ys.Perm xs->Q ys {s with drawn:=d})->↥A (drawOrder n xs) Q E s
 | 0,xs,s,Q,a,h=>by
   let e:=yu.mp (le_zero.mp a);subst e;show Z3 (h [] s.drawn .nil)
 | n+1,[],s,Q,a,h=>Z3 (h [] s.drawn .nil)
 | n+1,x::r,s,Q,a,h=>by
   unfold drawOrder;show Z2 (BY ∅ λi d hi=>?_);rw[(Z4 hi)];show Z2 (vx n _ _ _ (by rw[UD];simp only[hi];simp_all) λys c p=>Z3 (h _ c ((UM _ p).trans (i9 hi))))
end
def Aw(next:iv->iv):∀(fuel k:iv) (left:gN a) (out:ow a),~~~left<=fuel->(SN next fuel k left out).toList.Perm (out.toList++left)
 | 0,k,left,out,h=>by
   let e:=yu.mp (le_zero.mp h);subst e;rw[Zx];show .refl _
 | fuel+1,k,[],out,h=>by
   unfold SN;simp
 | fuel+1,k,x::r,out,h=>by
   unfold SN;let hi:next k% ~~~(x::r)< ~~~(x::r):=Tg _ ∅;rw[Z4 hi];show(Aw next fuel _ _ _ (by rw[UD];simp_all)).trans ?_;rw[RJ,Ze];show(Nw _).append (i9 hi)
def tT(next:iv->iv)(xs:ow a):(Og next xs).toList.Perm xs.toList:=by
 let:=Aw next xs.size 0 xs.toList #[] ∅;simpa [Og]using this
def tU(p j:iv):OE #[p] j=if p<j then 1 else 0:=by
 unfold OE;simp only[Zp,Zr];unfold Ul;simp
 split<;>(rfl)
def zi(j:iv):OE #[] j=0:=rfl
def tV{a:Type}{xs:ow a}(h:xs.size=1):∃p,xs= #[p]:=by
 obtain⟨l⟩:=xs
 match l,h with
 |[p],_=>show%[p|ρ]
abbrev SIt(w:wh)(I S T:kw)(o:Ov)(es:ow (on×jg))(b:iv)(t:nz)(a:ZG)(i:iv)(h:yc):Prop:=
 h.get? S∣o/\∃first,h.get? I=hV {cls:= .type "set_iterator",dict:=hH,data:= .fields #[first,Nb i,.ref S,Nb es.size,Nb b],slots:= #[]}/\
  ((aY w=hX/\first=Nb 0/\a=(Og (w.params.setOrder S b) es).toList\2)\/
   (aY w=hY/\first= .ref T/\T≠I/\∃ps:gN iv,h.get? T=hV {cls:= .type "tuple",data:= .seq (ps.map λ(i:iv)=>Nb i).toArray}/\ ~~~ps= ~~~a/\∀(j p:iv),ps[j]?∣p->∃e,es[p]?∣e/\a[j]?∣e.2)\/
   (aY w=hY/\es.size<=1/\a=es.toList\2/\(i=0->first=Nb 0)/\(i=1->∃p:iv,t.place[0]?∣p/\first=Nb (p+1))))
def SIt.is{w:wh}{I S T:kw}{o:Ov}{es:ow _}{b:iv}{t:nz}{a:ZG}{i:iv}{s:md}(h:SIt w I S T o es b t a i s.heap):s.TypeIs (.ref I) "set_iterator":=by
 let%[_,f,c|_]:=h;show%[_,c|ρ]
section
#where
variable{I S T:kw}{o:Ov}{es:ow (on×jg)}{ep:iv}{t:nz}{ord:ZG}
def zj{i:iv}{v:jg}{Q:lx jg->md->Prop}(y:o.data= .set es ep t)(h:t.fits es.size=hX)(z:t.led=!aY w)(j:S≠I)(st:SIt w I S T o es ep t ord i s.heap)(f:ord[i]?∣v)(hn: ~~~ord=es.size)
 (hQ:∀h',SIt w I S T o es ep t ord (i+1) h'->vu I s.heap h'->Q (hV v) (s>>>h')):↥A (Qz (.ref I)) Q E s:=by
 let hT:=st.is;let%[g,first,U|m]:=st;unfold Qz;show Z2 (NV (NK (name:=!"__next__") hT cA (Nc cA hT iI ?_ (jz _))));unfold n7.«set_iterator.__next__»;show Z2 (m:=slotArgs _ _ _) (Z3 ?_);show Z2 (RG U rfl ?_);change tI _ _ (setEntries S>>= _) _ _ _;show Z2 (OG g y h ?_);rw[ku ∅];rcases m with⟨c,rfl,B⟩|⟨c,rfl,C,ps,G,ab,H⟩|⟨c,h1,B,f0,f1⟩
 .change tI _ _ (Rq S 0 i ep>>= _) _ _ _;show Z2 ?_;unfold Rq;show Z2 (pp g y h ?_);show Z2 (Z2 (Nn (Z3 ?_)));change tI _ _ (if aY w=hX then _ else _) _ _ _;rw[lp c];dsimp only;rw[ku (show ¬ ((ep != ep)=hX) by simp)];show Z2 ?_;unfold setWalk;show Z2 (pp g y h ?_);show Z2 (Z2 (Nn (Z3 ?_)));change tI _ _ (if aY w=hX then _ else _) _ _ _;rw[lp c];show Z2 (Nn (Z3 (Z3 ?_)));let d:(Og (w.params.setOrder S ep) es)[i]?.map (·.2)∣v:=by
   rw[B]at f;simpa using f
  cases u:(Og (w.params.setOrder S ep) es)[i]? with
  | none=>rw[u]at d;cases d
  | some e=>
    rw[u]at d;let J:e.2=v:=↑d
    change tI _ _ (match((Og (w.params.setOrder S ep) es)[i]?).map λe=>(e.2,0)with|hV (x,next)=>_|none=>_) _ _ _;rw[u];show Z2 (G2 U ∅ λL b a=>?_);show Z2 (G2 (s:=(s>>>L)) b ∅ λM l n=>?_);rw[J];let N:vu I s.heap M:=a.trans n;show Z3 %[v,rfl|Z3 (hQ M %[(N.2 S j).trans g,_,l|.inl %[c,rfl|B]] N)]
 .show Z2 (Nj G rfl ?_);let hi:i< ~~~ord:=(Xl f).1;let ac:i< ~~~ps:=by lia
  let%[e,Y|ae]:=H i ps[i] ∅;let J:e.2=v:=by rw[ae]at f;show Za f
  let O:(ps.map λ(i:iv)=>Nb i).toArray[(i:on).toNat]?∣Nb ps[i]:=by simp[ac]
  dsimp only;rw[O];change tI _ _ (setNextDrawn S ps[i] ep>>= _) _ _ _;show Z2 ?_;unfold setNextDrawn;show Z2 (pp g y h ?_);dsimp only;rw[ku (show ¬ ((ep != ep)=hX) by simp),Y];show Z3 ?_;show Z2 (G2 U ∅ λL b a=>?_);rw[J];show Z3 %[v,rfl|Z3 (hQ L %[(a.2 S j).trans g,_,b|.inr (.inl %[c,rfl,C,ps,(a.2 T C).trans G,ab|H])] a)]
 .let hi:i< ~~~ord:=(Xl f).1;let i0:i=0:=by lia
  subst i0;let f0:=f0 rfl;subst f0;let e1:es.size=1:=by lia
  let pz:t.place.size=1:=by
   simp only[Ow,Zv,N8,MW]at h;rw[h.1,e1]
  let%[p|u]:=tV pz;obtain⟨e,Y⟩:∃e,es[0]?∣e:=%[es[0]|by simp]
  let J:e.2=v:=by
   rw[B]at f;let:(es[0]?)\2∣v:=↑f
   rw[Y]at this;simpa using this
  change tI _ _ (Rq S 0 0 ep>>= _) _ _ _;show Z2 ?_;unfold Rq;show Z2 (pp g y h ?_);change tI _ _ (if aY w=hX then _ else _) _ _ _;rw[ku (by rw[c];decide)];dsimp only
  split
  .rename_i r
   change (!t.plain&&decide (es.size>1))=hX at r;rw[e1]at r;simp at r
  .show Z2 (m:=(if(!t.led&&!es.isEmpty)=hX then P6 "set:maker-not-led" else pure ())) ?_;rw[z,c];show Z3 ?_;rw[u,tU];simp only[X4,↓reduceIte,Y];show Z3 ?_;change tI _ _ (Qy (.ref I) 0 (Nb ((p+1:iv):on))>>= _) _ _ _;show Z2 (G2 U ∅ λL b a=>Z2 (G2 (s:=(s>>>L)) b ∅ λM l n=>?_));rw[J];let N:vu I s.heap M:=a.trans n;show Z3 %[v,rfl|Z3 (hQ M %[(N.2 S j).trans g,_,l|.inr (.inr %[c,⋯,B,λq=>by lia|λ_=>%[p,by rw[u];rfl|rfl]])] N)]
def wO{c:Type}{Q:c->md->Prop}(d:A.handled=hH)(f:∀h' e,(∀b o,s.heap.get? b∣o->h'.get? b∣o)->(∃o,h'.get? e∣o/\o.cls= .type "StopIteration")->E (.ref e) (s>>>h')):
 ↥A (newExc (.type "StopIteration") []>>= λe=>(VL e)) Q E s:=by
 show Z2 ?_;show Z2 (M6 ?_ (by size_fits));show Z2 (Tr (a:=Nu) (by first|rfl|lia) (M6 (V6 d (f _ _ (λb o e=>Z7 _ (Z7 _ e)) %[_,Zj _ rfl|rfl])) (by size_fits)))
def BZ{i:iv}{Q:lx jg->md->Prop}(hh:A.handled=hH)(u:o.data= .set es ep t)(h:t.fits es.size=hX)(l:t.led=!aY w)(st:SIt w I S T o es ep t ord i s.heap)(hi:i= ~~~ord)(hn: ~~~ord=es.size)
 (hQ:∀h',(∀b o,b≠I->s.heap.get? b∣o->h'.get? b∣o)->Q hH (s>>>h')):↥A (Qz (.ref I)) Q E s:=by
 let Y:=st.is;let%[y,first,z|m]:=st;let H:A.in1.handled=hH:=hh;let fin:∀(g:yc) (Q':Fin->md->Prop),vu I s.heap g->↥A.in1 (newExc (.type "StopIteration") []>>= λe=>(VL e:Sem Fin)) Q' (λe s'=>↥A (do
  if(<-Sr e (.type "StopIteration"))then pure hH else throw e) Q E s') (s>>>g):=λg Q' sb=>by
  show wO H λh' e k %[oe,he|hc]=>?_
  show Z2 (Oe (T:="StopIteration") (b:=hX) %[oe,he|hc] Uf (Z3 (hQ h' λb o n q=>k b o ((sb.2 b n).trans q))))
 unfold Qz;show Z2 (NV (NK (name:=!"__next__") Y cA (Nc cA Y iI ?_ (jz _))));unfold n7.«set_iterator.__next__»;show Z2 (m:=slotArgs _ _ _) (Z3 ?_);show Z2 (RG z rfl ?_);change tI _ _ (setEntries S>>= _) _ _ _;show Z2 (OG y u h ?_);rw[ku ∅];rcases m with⟨j,rfl,eo⟩|⟨j,rfl,ab,ps,J,ac,ae⟩|⟨j,h1,eo,L,M⟩
 .change tI _ _ (Rq S 0 i ep>>= _) _ _ _;show Z2 ?_;unfold Rq;show Z2 (pp y u h ?_);show Z2 (Z2 (Nn (Z3 ?_)));change tI _ _ (if aY w=hX then _ else _) _ _ _;rw[lp j];dsimp only;rw[ku (show ¬ ((ep != ep)=hX) by simp)];show Z2 ?_;unfold setWalk;show Z2 (pp y u h (Z2 (Z2 (Nn (Z3 ?_)))));change tI _ _ (if aY w=hX then _ else _) _ _ _;rw[lp j];show Z2 (Nn (Z3 (Z3 ?_)));let B:(Og (w.params.setOrder S ep) es)[i]? =hH:=by
   rw[ow.getElem?_eq_none_iff,hi,eo,Z6,Zb];show Zi _
  change tI _ _ (match((Og (w.params.setOrder S ep) es)[i]?).map λe=>(e.2,0)with|hV (x,next)=>_|none=>_) _ _ _;rw[B];change tI _ _ (Qy (.ref I) 2 .none>>= _) _ _ _;show Z2 (G2 z ∅ λC _ c=>fin C _ c)
 .change tI _ _ (seqItems? (.ref T)>>= _) _ _ _;show Z2 (Nj J rfl ?_);let r:(ps.map λ(i:iv)=>Nb i).toArray[(i:on).toNat]? =hH:=by simp;lia
  dsimp only;rw[r];show Z2 (G2 z ∅ λC N c=>Z2 (G2 N ∅ λg2 _ O=>fin g2 _ (c.trans O)))
 .let done:∀slot:iv,first=Nb slot->OE t.place slot=es.size->↥A.in1 (Rq S slot i ep) (λa s'=>a=hH/\s'=s) (λ_ _=>MO) s:=by
   intro slot _ n;unfold Rq;show Z2 (pp y u h ?_);change tI _ _ (if aY w=hX then _ else _) _ _ _;rw[ku (by rw[j];decide)];dsimp only
   split
   .rename_i d
    change (!t.plain&&decide (es.size>1))=hX at d;let:decide (es.size>1)=hY:=Zh ⋯;rw[this,NC]at d;cases d
   .show Z2 (m:=(if(!t.led&&!es.isEmpty)=hX then P6 "set:maker-not-led" else pure ())) ?_;rw[l,j];show Z3 ?_;rw[n,show es[es.size]? =hH by simp];show Z3 %[rfl|rfl]
  let go:∀slot:iv,first=Nb slot->OE t.place slot=es.size->↥A.in1 (Rq S slot i ep>>= λa=>match a with
   | hV (x,next)=>(do
     Qy (.ref I) 0 (Nb ↑(next))
     Qy (.ref I) 1 (Nb (↑(i)+1))
     ret x)
   | none=>(do
     Qy (.ref I) 2 .none
     let e<-newExc (.type "StopIteration") []
     VL e)) (λfin s'=>∃v,fin=Fin.done (Flow.ret v)/\↥A (pure (hV v)) Q E s') (λe s'=>↥A (do
   if(<-Sr e (.type "StopIteration"))then pure hH else throw e) Q E s') s:=by
   intro slot e n;show Z2 (MZ (done slot e n) (λa s' %[G|e2]=>?_) λ_ _ f=>f.elim);subst G;subst e2;show Z2 (G2 z ∅ λC _ c=>fin C _ c)
  let pz:=by
   simp only[Ow,Zv,N8,MW]at h;show h.1
  by_cases e0:es.size=0
  .let i0:i=0:=by lia
   subst i0;let L:=L rfl;subst L;show go 0 rfl ?_;let:t.place= #[]:=Sh ⋯;rw[this,zi,e0]
  .let G:es.size=1:=by lia
   let i1:i=1:=by lia
   subst i1;let%[p,B|M]:=M rfl;subst M;show go (p+1) rfl ?_;let%[p'|U]:=tV (by rw[pz,G]:t.place.size=1);rw[U]at B ⊢;let:p'=p:=↑B
   subst this;rw[tU,lp (Yn _),G]
end
def jA:Slot "set_iterator" "__iter__" "set_iterator.__iter__":=
 .of (owner:="set_iterator") (n:="__iter__") (by rw[XS,Vt];kernel_rfl) (!0) (!0) (!0) (by first|show .inl (!0)|show .inr ∅) (by kernel_rfl)
def ng:SS WP "set_iterator.__iter__"=hV n7.«dict_keyiterator.__iter__»:=Ug (id':="dict_keyiterator.__iter__") (by kernel_rfl) rfl (!0) (by kernel_rfl)
def oJ(a:jg):Ww "set_iterator.__iter__" %[[a]|[]]:=by kernel_rfl
def vy:Qv (.type "set") "__len__"=pure (hV (.builtin "set.__len__")):=by kernel_rfl
section
#where
variable{I S T:kw}{o:Ov}{es:ow (on×jg)}{ep:iv}{t:nz}{ord:ZG}
def B0(hh:A.handled=hH)(hd:o.data= .set es ep t)(hf:t.fits es.size=hX)(hled:t.led=!aY w)(hSI:S≠I)(hn: ~~~ord=es.size):
 Tz prog w A I [I,S,T] [I] ord.length (λi v=>ord[i]?∣v) (λi h=>SIt w I S T o es ep t ord i h) where
 sub:=by simp
 frame:=λi h h' st k=>by
  let%[hS,first,hI|m]:=st;show%[k S ∅ _ hS,first,k I ∅ _ hI|?_];rcases m with m|⟨bt,e,hTI,ps,hTt,r⟩|m
  .show .inl m
  .show .inr (.inl %[bt,e,hTI,ps,k T ∅ _ hTt|r])
  .show .inr (.inr m)
 item:=λi s Q E hi st hQ=>zj (v:=ord[i]) hd hf hled hSI st ∅ hn λh' st' sb=>hQ _ h' s.toks ∅ st' λb o' hb e=>(sb.2 b (λq=>hb (by simp[q]))).trans e
 done:=λs Q E st hQ=>BZ hh hd hf hled st rfl hn λh' k=>hQ h' s.toks λb o' hb e=>k b o' (λq=>hb (by simp[q])) e
 self:=λi s Q E st hQ=>by
  let hT:=st.is;show SJ hT jA (Nc jA hT ng (Z3 %[_,rfl,"set_iterator",_,hT,cA.lookup|hQ]) (oJ _))
def B1(f:s.heap.get? S∣o)(z:o.ExactSet)(B:o.data= .set es ep t)(hb:es.size<Pd)(C:t.fits es.size=hX)(G:es.size≠0->t.plain=hY)(O:t.led=!aY w)
 (hQ:∀(I T:kw) (ord:ZG) (h':yc) d,(∀b o,s.heap.get? b∣o->h'.get? b∣o)->⇑s<=I->S≠I->(T=S\/⇑s<=T)->T<h'.objs.size->I<h'.objs.size-> ~~~ord=es.size->
  SIt w I S T o es ep t ord 0 h'->ord.Perm (es.toList\2)->Q (.ref I) {s with heap:=h',drawn:=d}):↥A (U9 (.ref S)) Q E s:=by
 let U:s.TypeIs (.ref S) "set":=%[o,f|z.1]
 let l:S<⇑s:=Zu f;show SJ U W1 (Nc W1 U rX ?_ (F.args_set_iter_1 _));unfold n7.«frozenset.__iter__»;show Z2 (m:=V1 _ _) (Z2 (m:=slotArgs _ _ _) (Z3 (Z3 ?_)));show Z2 (m:=Ry S) (Z2 (OG f B C (Z3 ?_)));show Z2 (m:=setDrawn S) ?_;unfold setDrawn;show Z2 (pp f B C (Z2 (Z2 (Nn (Z3 (Z3 ?_))))));let fin:∀(first:jg) (a:md) (T:kw) (ord:ZG),a.heap.get? S∣o->(∃d c,a={s with heap:=c,drawn:=d})->(∀b o,s.heap.get? b∣o->a.heap.get? b∣o)->T<⇑a->⇑s<=⇑a->(T=S\/⇑s<=T)->ord.Perm (es.toList\2)->
  ((aY w=hX/\first=Nb 0/\ord=(Og (w.params.setOrder S ep) es).toList\2)\/(aY w=hY/\first= .ref T/\∃ps:gN iv,a.heap.get? T=hV {cls:= .type "tuple",data:= .seq (ps.map λ(i:iv)=>Nb i).toArray}/\ ~~~ps= ~~~ord/\∀(j p:iv),ps[j]?∣p->∃e,es[p]?∣e/\ord[j]?∣e.2)\/(aY w=hY/\es.size<=1/\ord=es.toList\2/\first=Nb 0))-> ~~~ord=es.size->
  ↥A.in1 (do ret (<-newFields "set_iterator" [first,Nb 0,.ref S,Nb es.size,Nb (<-T8 S)])) (λfin s'=>∃v,fin=Fin.done (Flow.ret v)/\∃Y r,s'.TypeIs v Y/\Qv (.type Y) "__next__"=pure (hV r)/\Q v s') (λe s'=>E e s') a:=by
  intro first a T ord c %[d,H|e1] k1 tl sl J u m hn
  subst e1;show Z2 (wpAny_setEpoch_of c B C (Z2 (M6 ?_)));let gI:(H.push {cls:= .type "set_iterator",data:= .fields #[first,Nb 0,.ref S,Nb es.size,Nb ep]}).get? H.objs.size∣_:=Zj _ rfl;show Z3 %[_,rfl,"set_iterator",_,%[_,gI|rfl],cA.lookup|hQ H.objs.size T ord _ d (λb o' e=>Z7 _ (k1 b o' e)) sl (Zs (Zu c)) J (by rw[Zq];show Ym tl) (by rw[Zq];show Yn _) hn ?_ u];show%[Z7 _ c,first,gI|?_];rcases m with m|⟨g,e,ps,L,r⟩|⟨g,M,eo,e⟩
  .show .inl m
  .show .inr (.inl %[g,e,Zs tl,ps,Z7 _ L|r])
  .show .inr (.inr %[g,M,eo,λ_=>e|λq=>n0 q ∅])
 let lst: ~~~(es.toList\2)=es.size:=by rw[Z6,Zb]
 by_cases g:aY w=hX
 .change tI _ _ (if(!aY w&&_)=hX then _ else _) _ _ _;rw[g,WI,O2,ku ∅];show Z2 (Z3 ?_);let n:=(tT (w.params.setOrder S ep) es)\2;show fin (Nb 0) s S _ f %[s.drawn,s.heap|rfl] (λ_ _ e=>e) l (Zi _) (.inl rfl) n (.inl %[g,rfl|rfl]) (by rw[n.length_eq,lst])
 .let y:aY w=hY:=↑g
  change tI _ _ (if(!aY w&&(!t.plain&&decide (es.size>1)))=hX then _ else _) _ _ _;by_cases c:es.size>1
  .rw[y,G ⋯,Zf c];show Z2 (vx es.size _ _ _ ∅ λps d h=>Z2 (RF ?_ (by rw[Z6,h.length_eq,Yi];show N5 hb)));let lt:∀p∈ps,p<es.size:=λp q=>zp.mp (h.mem_iff.mp q)
   let er:(p0 es.size).map (λp=>((es[p]?)\2).getD .none)=es.toList\2:=by
    apply QR
    .simp
    .intro i u q2;simp at u;simp[u]
   let n:(ps.map (λp=>((es[p]?)\2).getD .none)).Perm (es.toList\2):=er▸h.map _;show fin _ _ ⇑s _ (Z7 _ f) %[d,_|rfl] (λb o' e=>Z7 _ e) (by rw[Zq];show Yn _) (by rw[Zq];show Yf _) (.inr (Zi _)) n
    (.inr (.inl %[y,rfl,ps,Zj _ rfl,by rw[Z6]|λj p q=>?_])) (by rw[n.length_eq,lst])
   let N:=lt p (Z8 q);show%[es[p],by simp|by simp[q,N]]
  .rw[y,Zh c];simp only[NC,Zz];show fin (Nb 0) s S _ f %[s.drawn,s.heap|rfl] (λ_ _ e=>e) l (Zi _) (.inl rfl) (Nw _) (.inr (.inr %[y,⋯,rfl|rfl])) lst
def lS(hh:A.handled=hH)(u:s.heap.get? S∣r)(a:r.ExactSet)(v:r.data= .set g as t0)(y:g.size<Pd)(z:t0.fits g.size=hX)(B:g.size≠0->t0.plain=hY)(c:t0.led=!aY w)
 (hQ:∀s' vs,vs.Perm (g.toList\2)->(∀b o,s.heap.get? b∣o->s'.heap.get? b∣o)->s'.gens=s.gens->s'.os=s.os->⇑s<=⇑s'->Q vs s'):↥A (Rv (.ref S)) Q E s:=by
 unfold Rv;show Z2 (T5 (Ny F.entry_proto_collect ?_));rw[NA F.plain_proto_collect _];change tI _ A.in1 (newList []>>= λl=>again (.builtin "list.__iadd__" %[[l,.ref S]|[]])) _ _ s;show Z2 (M6 (Z3 %[NW QJ _|Ny F.entry_list_iadd ?_]));rw[NA QJ _];let i:S<⇑s:=Zu u;change tI _ A.in1 (Ob (.ref ⇑s) (.ref S) (.ref ⇑s)) _ _ _;unfold Ob
 generalize O:s.heap.push {cls:= .type "list",data:= .seq ([]:ZG).toArray}=G
 let gS:G.get? S∣r:=by rw[<-O];show Z7 _ u
 let gz:G.objs.size=⇑s+1:=by rw[<-O,Zq]
 let gL:G.get? ⇑s=hV {cls:= .type "list",data:= .seq ([]:ZG).toArray}:=O▸Zj _ rfl;let tS:Rx (s>>>G) (.ref S) "set":=%[r,gS|a.1]
 show Z2 (Rn (T:="set") tS ?_);let n1:Sa (.ref ⇑s) (.ref S)=hY:=by
  change(⇑s==S)=hY;show MR.mpr (Yz i)
 let n2:(Nh "set"==Nh "list")=hY:=!1
 let n3:(Nh "set"==Nh "tuple")=hY:=!1
 simp only[n1,n2,n3,WH,Zz,OO];show Z2 (B1 (s:=(s>>>G)) gS a v y z B c λI T ord h d k1 U ab ac a0 a1 hn st q1=>?_);replace k1:∀b o,G.get? b∣o->h.get? b∣o:=k1;replace U:G.objs.size<=I:=U;let ae:h.get? S∣r:=k1 _ _ gS;show Z2 (v0 ?_);unfold RB;let m:Rx {s with heap:=h,drawn:=d} (.ref S) "set":=%[r,ae|a.1]
 show Z2 (P7 (T:="set") m vy ?_)
 wp_delta
 show Z2 (Oe (T:="set") (b:=hX) m (by rw[isSubtype_type];kernel_rfl) ?_);change tI _ A.in1 (P8 (.ref S)>>= _) _ _ _;show Z2 (Rn (T:="set") m (Z3 ?_));rw[lp (!1)];show Z2 (Oy ?_);let C:h.get? ⇑s=hV {cls:= .type "list",data:= .seq ([]:ZG).toArray}:=k1 _ _ gL;show Z2 ?_;unfold YD;show Z2 (PX (s:={s with heap:=h,drawn:=d}) C rfl ?_ (Xe _) (by change 1<=lX+1;lia));let H:=MT (NI (·.push Nu)) C rfl;show PX (xs:= #[Nu]) (n:=1) (s:={s with heap:=h.update ⇑s (NI _),drawn:=d}) H rfl ?_ (!1) (by change 0<=lX+1;lia);let ag:=MT (NI (·.pop)) H rfl;let J:∀b o,b≠⇑s->h.get? b∣o->((h.update ⇑s (NI (·.push Nu))).update ⇑s (NI (·.pop))).get? b∣o:=λb o Y e=>(J5 _ _ (J0 Y)).trans ((J5 _ _ (J0 Y)).trans e)
 let ah:=Zs (Zg (by rw[gz];show Yn _) U);let neT:⇑s≠T:=by
  rcases ac with e|e
  .show e▸Yz i
  .show Zs (Zg (gz▸Yn _) e)
 let L:⇑s∉[I,S,T]:=by
  simp only[Yv,X6,No,Pr];show%[ah,Yz i|neT]
 let ak: ~~~ord<=lX:=hn▸N5 y;let W:=B0 (prog:=prog) (A:=A.in1) (T:=T) (hh) v z c ab hn;let al:=W.frame 0 h _ st λb Y M e=>J b M (λq=>L (q▸Y)) e
 show Z3 %[NW VA _|VQ W.toS ak _ L _ ord.length 0 _ _ _ rfl (Xe _) al ag (Wh _) λs5 acc c5 m5 N f=>?_];show Z2 (T6 N (Z3 ?_));let ea:acc.toList=ord:=by
  apply Ru;intro j;by_cases hj:j< ~~~ord
  .let an:j<acc.size:=f.1▸hj;let:=f.2 j acc[j] ∅;rw[this];simp[an]
  .let l1: ~~~acc.toList= ~~~ord:=f.1;rw[Xk ⋯,Xk (l:=ord) ⋯]
 rw[ea];show hQ s5 ord q1 (λb M e=>?_) m5.gens m5.os (Ye (Zu N));let p:=Zu e;show m5.heap b M ?_ (J b M (Zs p) (k1 b M (O▸Z7 _ e)));simp only[Yv,X6,No,Pr];show%[Zs p|Zs (Zg p (nI (gz▸Yf _) U))]
def wP(f:A.handled=hH)(h:bI w S ks s.heap)
 (i:∀s' vs ss,Ng vs ss->ss.Perm ks->(∀b o,s.heap.get? b∣o->s'.heap.get? b∣o)->s'.gens=s.gens->s'.os=s.os->⇑s<=⇑s'->Q vs s'):↥A (Rv (.ref S)) Q E s:=by
 let%[o,es,ep,t,ss,j,c,l,d,m,n,p,q,r,e|a]:=h;show lS f j c l q r e a λs' vs pv k g os sz=>?_
 let%[ts,u|v]:=cH d pv;show i s' vs ts u (v.trans m) k g os sz
end
section
variable{X:Cx}{ij:ZF}{σ:St}{H:Hp}{s s':md}
def Qc.keptS(I:Qc X ij σ H s)(k:∀b o,s.heap.get? b∣o->s'.heap.get? b∣o)(c:s'.gens=s.gens)(a:s'.os=s.os):Qc X ij σ H s':=by
 let%[h',l,p,t'|d]:=s';replace a:d=s.os:=a;subst c;subst a;show I.step (ch:=[]) (λb f=>n0 f ∅) (λb o _ _ _ e _=>k b o e) (λb o _ _ _ e _=>%[o.slots|k b o e]) (λ_ _ _ _ n=>n) (λb o _ e=>%[o|k b o e]) (λ_ _ e=>e) (λ_ _ _ e=>e) (λb ps e=>%[#[]|by rw[e];simp]) (λm g=>?_) (λb v e=>?_) I.bare
 .let%[o,es,h,a|r]:=g;show%[o,es,h,k _ o a|r]
 .show(I.hok b v e).stay (λi j _ q=>k i j q) (λ_ q=>q) λ_ _ q=>q
variable{prog:nX}{w:wh}{A:vj}{E:ZE}
variable{S:kw}
end
def am{D:iU}(h:∀c:iU,(∀a b,u D a b->c.nx a b)->(∀v b,D.rt v b->c.rt v b)->t c d H):aV t u D d H:=h _ (λ_ _ x=>x) λ_ _ x=>x
def aA{t:TS}{D:iU}(h:∀c:iU,(∀a b,D.nx a b->c.nx a b)->(∀v b,D.rt v b->c.rt v b)->t c d H):t D d H:=h _ (λ_ _ x=>x) λ_ _ x=>x
def jP{K:ZA}{xs:gN V}{g:TG}{j:TS}{D:iU}(Pv:iv->St->Hp->Prop)(n:Pv 0 b H)(o:∀i b H,i<= ~~~xs->Pv i b H->Qb K H a xs)
 (r:∀i x T b H,xs[i]?∣x->Pv i b H->H T=hH->g (.ref T) b (Qa H T (.tup [.int i,x])) λc h=>j {D with nx:=Pv (i+1),ct:=Pv (i+1),bk:=D.nx} c h) (s:∀b H,Pv xs.length b H->D.nx b H):
 ∃W:iv->iv->St->Hp->Prop,(∃m,W 0 m b H)/\∀i m b H,W i m b H->
  ((Ite K a xs).stop i H/\D.nx b H)\/((Ite K a xs).go i H/\∃N:St->Hp->Prop,(∀d f,N d f->∃l,l<m/\W (i+1) l d f)/\∀x f,(Ite K a xs).yld i H x f->g x b f λc h=>j {D with nx:=N,ct:=N,bk:=D.nx} c h):=by
 show%[λi m b H=>m= ~~~xs-i/\i<= ~~~xs/\Pv i b H,%[~~~xs,by simp,Xe _|n]|?_];intro i m b H %[rfl,hi|p];let q:=o i b H hi p;by_cases lt:i< ~~~xs
 .show .inr %[%[q|lt],Pv _,λd f u=>%[~~~xs-(i+1),⋯,rfl,lt|u]|λv f y=>?_];let%[x,T,e,w,rfl|rfl]:=y;show r i x T b _ e p w
 .let e:i= ~~~xs:=by lia
  subst e;show .inl %[%[q|Zi _]|s b H p]
section
variable{X:Cx}{K:ZA}{pos:Pos}{a b:zr}{ta tb:TE}
def bh:OpQ X (Nr .Add) (rI0 λi j=> .int (i+j)):=⟨Jm⟩
def fh:OpQ X (Nr .Mult) (rI Dd λi j=> .int (i*j)):=⟨De⟩
def bA(h:X.K=K)(c:oS b)(d:QE X a ta)(e:QE X b tb):QE X (.Subscript a b pos) (tOp (JC K) ta tb):=by subst h;show⟨Dw GE d.h e.h c⟩
def B2(c:oS b)(d:QE X a ta)(e:QE X b tb):QE X (.Subscript a b pos) (tOp JE ta tb):=⟨Dw JG d.h e.h c⟩
end
end _LL
namespace _CU
open PySem _LL PyProof.Rows
abbrev ja:kG:="abcdefghijklmnopqrstuvwxyz"
abbrev gx(c:iv):re:=decide (c∈ja.cps.toList)
abbrev okc(c:iv):re:=decide (c=46)||gx c
abbrev nl:kG:="\n"
def LI:nl=⟨#[10]⟩:=rfl
def tW:gx c=hX↔97<=c/\c<=122:=by
 let e:ja.cps.toList=(p0 26).map (·+97):=!0
 unfold gx;rw[N0,e,Yw]
 constructor
 .rintro⟨i,h,rfl⟩;let:=zp.mp h
  lia
 .rintro⟨a,b⟩;show%[c-97,zp.mpr ⋯|⋯]
def Ee(h:okc c=hX):c≠10:=by
 intro e;subst e
 revert h
 decide +kernel
structure cX (rows:ZB):Prop where
 pos:1<= ~~~rows
 high: ~~~rows<=40
 wide:∃wd,1<=wd/\wd<=40/\∀r∈rows,r.cps.size=wd
 sign:∀r∈rows,r.cps.toList.all okc=hX
 fall:∀i r r',rows[i]?∣r->rows[i+1]?∣r'->∀(j c c':iv),r.cps[j]?∣c->r'.cps[j]?∣c'->c'=46->c=46
 some':∃r∈rows,∃c∈r.cps.toList,c≠46
def lT{x y:kG}(h:x.cps.toList=y.cps.toList):x=y:=by
 obtain⟨⟨l⟩⟩:=x
 simp_all
def fQ(sep x y:kG)(r:ZB):(vk sep (x::y::r)).cps.toList=x.cps.toList++sep.cps.toList++(vk sep (y::r)).cps.toList:=by
 change((x.cps++sep.cps) ++(vk sep _).cps).toList=_;rw[Xd,Xd]
def Ef [MY f]:∀{a b x y:gN f},c∉a->c∉b->a++c::x=b++c::y->a=b/\x=y
 |[],[],_,_,_,_,h=>%[rfl|(Oc h).2]
 |[],b::bs,_,_,_,d,h=>n0 (((Oc h).1)▸Zm) d
 | a::g,[],_,_,e,_,h=>n0 (((Oc h).1)▸Zm) e
 | a::g,b::bs,x,y,e,d,h=>by
   let%[i|j]:=Oc h;let%[l|m]:=Ef (λq=>e (Zk _ q)) (λq=>d (Zk _ q)) j;show%[by rw[i,l]|m]
def wQ{c:iv}:∀{ps qs:ZB},ps≠[]->qs≠[]->(∀p∈ps,c∉p.cps.toList)->(∀q∈qs,c∉q.cps.toList)->(vk ⟨#[c]⟩ ps).cps.toList=(vk ⟨#[c]⟩ qs).cps.toList->ps=qs
 |[],_,h,_,_,_,_=>n0 rfl h
 | _,[],_,h,_,_,_=>n0 rfl h
 |[p],[q],_,_,_,_,e=>by rw[lT (show p.cps.toList=q.cps.toList from e)]
 |[p],q::f::qs,_,_,a,_,e=>by
  rw[fQ]at e;show n0 ?_ (a p Zm);rw[show p.cps.toList=(vk _ [p]).cps.toList from rfl,e];simp
 | p::g::ps,[q],_,_,_,b,e=>by
   rw[fQ]at e;show n0 ?_ (b q Zm);rw[show q.cps.toList=(vk _ [q]).cps.toList from rfl,<-e];simp
 | p::g::ps,q::f::qs,_,_,a,b,e=>by
   rw[fQ,fQ,Ze,Ze]at e;let%[i|j]:=Ef (a p Zm) (b q Zm) e;rw[lT i,wQ ∅ ∅ (λx d=>a x (Zk _ d)) (λx d=>b x (Zk _ d)) j]
def zk(a:rows≠[])(h:∀r∈rows,10∉r.cps.toList):Txt.split (vk nl rows) nl=rows:=by
 let e:=StrLaws.join_split (vk nl rows) nl;rw[LI]at e ⊢;show wQ ?_ a (StrLaws.split_free _ 10) h (by rw[e]);intro q;let:=split_pos (vk ⟨#[10]⟩ rows) ⟨#[10]⟩
 simp_all
def cX.nonl(h:cX rows):∀r∈rows,10∉r.cps.toList:=λr a b=>by
 let:=N7.mp (h.sign r a) 10 b;show Ee this rfl
def cX.split(h:cX rows):Txt.split (vk nl rows) nl=rows:=
 zk (λe=>by let:=h.pos;simp_all) h.nonl
def Eg:∀{xs:gN b},(∀x∈xs,f x<=B)->(xs.map f).sum<= ~~~xs*B
 |[],_=>by simp
 | x::r,h=>by
   let c:=Eg λy a=>h y (Zk _ a)
   let d:=h x Zm;rw[Yp,Wy,Zr,iv.succ_mul]
   lia
def cX.sum(h:cX rows):(rows.map (·.length)).sum<=1600:=by
 let%[c,_,d|a]:=h.wide;let:=Eg (f:=λr:kG=> ~~~r) λr b=>by let:=a r b;change r.cps.size<=40;lia
 let:=h.high
 grind
def cX.text(h:cX rows): ~~~(vk nl rows)<=2000:=by
 let a:=Tk nl rows;let b:=h.sum;let c:=h.high;let d:nl.length=1:=rfl
 lia
abbrev sgn(c:iv):kG:=⟨#[c]⟩
def kY{cs:gN iv}(h:∀c∈cs,gx c=hX): ~~~(a7 (cs.map sgn))<=26:=by
 let a:∀x∈a7 _,x∈ja.cps.toList.map sgn:=λx b=>by
  let%[c,d|e]:=Xo (aZ.mp b);show Xp %[c,Zo (h c d)|e]
 let:=gN.Nodup.length_le_of_subset (dD _) a;rw[Z6]at this;let e:ja.cps.toList.length=26:=!0
 lia
abbrev c7(rows:ZB):gN iv:=(vk (!"") rows).cps.toList.filter (λc=>decide (c≠46))
def wR:∀(rows:ZB),(vk (!"") rows).cps.toList=(rows.map (·.cps.toList)).flatten
 |[]=>rfl
 |[x]=>by simp[vk]
 | x::y::r=>by
   let e:(!"").cps.toList=[]:=rfl;rw[fQ,wR _,e,Zx];simp
def ki(h:∀r∈rows,r.cps.toList.all okc=hX):∀c∈c7 rows,gx c=hX:=λc a=>by
 unfold c7 at a;rw[o0,wR]at a;let%[b|d]:=a;let%[l,e|f]:=Sk.mp b;let%[r,g|rfl]:=Xo e;let:=N7.mp (h r g) c f;unfold okc at this;rw[Ua]at this;rcases this with q|q
 .show n0 (Zo q) (Zo d)
 .show q
def cX.signs_ne(h:cX rows):c7 rows≠[]:=by
 let%[r,b,c,d|a]:=h.some';let:c∈c7 rows:=by
  unfold c7;rw[o0,wR];show%[Sk.mpr %[_,Xp %[r,b|ρ]|d]|Zf a]
 grind
abbrev vz(z:kG):re:=(decide (1<=(~~~z:on))&&decide ((~~~z:on)<=40))&&z.cps.toList.all okc
abbrev gA(row a:kG):re:=decide (~~~row= ~~~a)&&(NS a.cps.toList row.cps.toList).all λp=>!decide (p.2=46)||decide (p.1=46)
def cX.row(h:cX rows)(a:r∈rows):vz r=hX:=by
 let%[b,d,f|c]:=h.wide;let e: ~~~r=b:=c r a;unfold vz;rw[h.sign r a,e,Zf ⋯,Zf ⋯];rfl
def cX.beneath(h:cX rows)(c:rows[i]?∣r)(d:rows[i+1]?∣a):gA a r=hX:=by
 let%[e,n,o|f]:=h.wide;let g: ~~~r=e:=f r (Z8 c);let l: ~~~a=e:=f a (Z8 d);unfold gA;rw[Zf (l.trans g.symm),TF,N7];intro p m;let%[j|b]:=Xf m;rw[Qf]at b;let:=h.fall i r a c d j p.1 p.2 (by simpa using b.1) (by simpa using b.2)
 grind
def zo(cs:gN iv):(vk (!"") (cs.map sgn))=⟨cs.toArray⟩:=by
 show lT ?_;rw[wR,Yq];change((cs.map (λc=>[c])).flatten)=cs
 induction cs with
 | nil=>rfl
 | cons c r a=>simp_all
def Ax:∀cs:gN iv,((cs.map sgn).map (λx=> ~~~x)).sum= ~~~cs
 |[]=>rfl
 | c::r=>by
   rw[Yp,Yp,Wy,Ax r,Zr];change 1+ ~~~r= ~~~r+1
   lia
end _CU
namespace _CU
open PySem _LL
end _CU
namespace _LL
open PySem PySem.Spec PyProof.Rows
abbrev Up(B:yc)(l:gN Env)(e:kw)(cls:jg)(b:ZJ)(d:lx jg)(h:yc):Prop:=
 B.StaysIn h/\B.get? e=hH/\h.FunFrames B l/\∃a vs,h.get? e∣a/\a.cls=cls/\a.dict=b/\a.data= .fields vs/\1<vs.size/\
  match d with
  | none=>vs[1]?∣.none
  | some f=>∃T c ts,vs[1]?∣.ref T/\B.get? T=hH/\T≠e/\h.get? T∣c/\c.data= .fields ts/\ts[3]?∣f
def tX(o:Ov)(f:ZK->ZK):(o.mapFields f).dict=o.dict:=by
 let%[c,d,a|b]:=o;cases a<;> rfl
section
variable{M:Model}{A:vj}{E:ZE}{s:md}{B:yc}{env:Env}{outer:gN Env}{L e:kw}{cls:jg}{dct:ZJ}{Q:SW->md->Prop}
def wS(y:A.frames∣(env::outer))(hf:env.frame∣L)(st:B.StaysIn s.heap)(C:B.get? e=hH)(p:s.heap.FunFrames B (env::outer))
 (he:s.heap.get? e∣u) (N:u.data= .fields vs) (d:1<vs.size)
 (k:∀h',Up B (env::outer) e u.cls u.dict (hV (Nb L)) h'->s.heap.UpToSlots h'->Q () (s>>>h')):
 tI M A (do let a<-frameOf env;let pl<-entryPlaceOf L i;let b<-EntryCells.newEntry O a .none (Nb L) .none pl;Qy (.ref e) 1 b) Q E s:=by
 let G:e∉(env::outer).filterMap _:=λH=>by
  let%[_,o,ho|ab]:=p.mem H
  simp_all
 show Z2 (wpAny_frameOf_fun y p hf λc v=>Z2 (wpAny_entryPlaceOf λpl I=>Z2 (M6 ?_ (I.sizeOk5 _ _ _ _ _))))
 generalize j:({cls:= .type _,dict:=hH,data:= .fields _}:Ov)=h
 let T:=(v.2.1 e G).trans he;let U:(c.push h).get? e∣u:=Z7 _ T;show Qt U N d ?_;let ne:=Zs (Zu T);let l:=OI N (·.setIfInBounds 1 (m4 c.objs.size));let f:∀b o,b≠e->c.get? b∣o->((c.push h).update e (PD (·.setIfInBounds 1 (m4 c.objs.size)))).get? b∣o:=λb o n q=>by
  rw[J5 _ _ (J0 n)];show Z7 _ q
 let m:B.StaysIn c:=λb o q=>(v.2.1 b λH=>by rw[(p.mem H).1]at q;cases q).trans (st b o q)
 let nb:∀b o,s.heap.get? b∣o->(∀ws,o.data≠ .fields ws)->b≠e:=λb o q w z=>by
  simp_all
 let t3:((c.push h).update e (PD (·.setIfInBounds 1 (m4 c.objs.size)))).get? c.objs.size∣h:=by
  rw[J5 _ _ ne];show Zj c (by subst j;rfl)
 let g:∃ts,h.data= .fields ts/\ts[3]?∣Nb L:=by
  subst j;show%[_,ρ|by simp]
 let%[ts,g|J]:=g;show k _ %[λb o q=>f b o (λz=>by lia) (m b o q),C,p.of_keeps λb o q w=>?_,_,_,(MT _ U (Pj l)),Se _ _,tX _ _,l,↑d,c.objs.size,h,ts,?_,m.fresh,J0 ne,t3,g|J] λb o q w=>?_
 .let%[Y|r]:=v.2.2 b o q;show%[_,f b _ (nb b o q w) r|ρ]
 .simp[d]
 .let%[Y|r]:=v.2.2 b o q;show%[Y|f b _ (nb b o q w) r]
def Ay(st:B.StaysIn s.heap)(r:B.get? e=hH)(y:s.heap.FunFrames B l)
 (C:s.heap.get? e∣c) (G:c.data= .fields vs) (u:1<vs.size) (H:vs[1]?∣.ref T) (v:B.get? T=hH) (d:T≠e) (w:s.heap.get? T∣I) (h:I.data= .fields ts) (J:ts[3]?∣f)
 (k:∀h',Up B l e c.cls c.dict (hV g) h'->h'.get? e∣c->s.heap.UpToSlots h'->Q () (s>>>h')):tI M A (Qy (.ref T) 3 g) Q E s:=by
 let i:=(vr.mp J).1;show Qt w h i ?_;let a:∀b,b≠T->(s.heap.update T (PD (·.setIfInBounds 3 g))).get? b=s.heap.get? b:=λb n=>J5 _ _ (J0 n)
 let nb:∀b o,s.heap.get? b∣o->(∀ws,o.data≠ .fields ws)->b≠T:=λb o q p z=>by
  simp_all
 let j:=OI h (·.setIfInBounds 3 g);let m:=(a e (J0 d)).trans C;show k _ %[λb o q=>(a b λz=>by lia).trans (st b o q),r,y.of_keeps λb o q p=>%[o,(a b (nb b o q p)).trans q|rfl],c,vs,m,rfl,rfl,G,u,T,_,_,H,v,d,
  MT _ w (Pj j),j|by simp[i]] m λb o q p=>%[o.slots|(a b (nb b o q p)).trans q]
def Az(i:v=hH\/v∣.none)(b:A.frames∣(env::outer))(j:env.frame∣L)(u:Up B (env::outer) e cls dct v s.heap)
 (k:∀h',Up B (env::outer) e cls dct (hV (Nb L)) h'->s.heap.UpToSlots h'->Q () (s>>>h')):tI M A (noteFrame (.ref e) env) Q E s:=by
 let%[st,c,w,N,vs,h,rfl,rfl,d,a|r]:=u;unfold noteFrame;simp only[j];rcases i with rfl|rfl
 .show Z2 (NG h d r (wS b j st c w h d a k))
 .let%[T,O,ts,y,l,m,z,f|C]:=r;show Z2 (NG h d y (Z2 (NG z f C (Z2 (Ay st c w h d a y l m z f C λh' G n H=>?_)))));let%[o,g,p|_]:=G;show wS b j o g p n d a λI J q=>k I J (H.trans q)
def vA(u:Up B l e cls dct (hV f) s.heap)(k:∀h',Up B l e cls dct (hV .none) h'->s.heap.UpToSlots h'->Q () (s>>>h')):
 tI M A (setFlight (.ref e) hH) Q E s:=by
 let%[st,a,m,r,vs,h,rfl,rfl,i,b,T,v,ts,j,c,d,n,g|o]:=u;show Z2 (NG h i j (Ay st a m h i b j c d n g o λh' p _ q=>k h' p q))
def wU(a:g=hH\/g∣.none)(b:A.frames∣(env::outer))(h:env.frame∣L)(u:Up B (env::outer) e cls dct g s.heap)
 (k:∀h',Up B outer e cls dct (hV .none) h'->s.heap.UpToSlots h'->Q () (s>>>h')):tI M A (leaving env (.ref e)) Q E s:=by
 show Z2 (Az a b h u λn i c=>vA i λj l d=>?_);let%[st,f,%[_,_|m]|r]:=l;show k j %[st,f,m|r] (c.trans d)
end
section
variable{P:nX}{w:wh}{H:Hp}{h:yc}{a:kw}{o:HO}
def bZ.there(x:bZ P w H h a o):∃b,h.get? a∣b:=by
 cases o with
 | lst xs=>have%[_,_,_,_|e]:=x;show%[_|e]
 | tup xs=>have%[_,_,_,b,e|_]:=x;show%[_|e]
 | dK c=>have%[_,_,_,_,o,_,_,e|_]:=x;show%[_|e]
 | dT c=>have%[_,_,_,_,o,_,_,e|_]:=x;show%[_|e]
 | set S n=>have%[o,_,_,_,e|_]:=x;show%[_|e]
 | ins C d fs=>have%[_,_,_,e|_]:=x;show%[_|e]
 | own y=>have%[_|e]:=x;show%[_|e]
 | xd fs=>have%[_,%[_,_,_,e|_]|_]:=x;show%[_|e]
 | rng lo hi=>have%[_,_,_|e]:=x;show%[_|e]
 | frz b u=>have%[e|_]:=x;show%[_|e]
 | tbl ps=>show%[_|(x)]
 | met f y=>show%[_|(x)]
 | ext g=>have%[_,%[_|e]|_]:=x;show%[_|e]
end
structure Fl (P:nX) (w:wh) (l:gN Env) (H:Hp) (s:md) (ea:kw) (B:yc) (cls:jg) (dx:ZJ) (fl:lx jg) (H':Hp) (s':md):Prop where
 os:s'.os=s.os
 bare:QY s'.gens
 un:Un (frs l) [] H H' s.heap s'.heap
 hok:HOk P w H' s'.heap
 up:Up B l ea cls dx fl s'.heap
 free:H' ea=hH
 new:s.heap.get? ea=hH
 inB:∀b ob,s'.heap.get? b∣ob->((∃o,s.heap.get? b∣o)\/∃o,H' b∣o)->b∉frs l->B.get? b∣ob
 frf:∀b∈frs l,H' b=hH
abbrev CXO(P:nX)(w:wh):CXT:=λl H s E e s'=>∃a B cls b c,e= .ref a/\Fl P w l H s a B cls b (hV .none) c s'/\E cls b c
section
variable{P:nX}{w:wh}{l:gN Env}{H H':Hp}{s s':md}{ea:kw}{B h':yc}{cls:jg}{dx:ZJ}{fl fl':lx jg}
def Fl.fly(F:Fl P w l H s ea B cls dx fl H' s')(st:B.StaysIn h')(y:s'.heap.UpToSlots h'):Un (frs l) [] H H' s.heap h'/\HOk P w H' h':=by
 let fr:∀b g,s'.heap.get? b∣g->b∈frs l->∃p,h'.get? b∣_:=λb g q a=>by
  let%[_,d,r|z]:=F.up.2.2.1.mem a;rw[q]at r;cases r;show y b g q z
 show%[%[λb o q n a f=>?_,λb o q n a f=>?_,F.un.free,λb o q f=>?_,F.un.tups,F.un.frzs|F.un.tbls]|λb o q=>?_]
 .show st b o (F.inB b o (F.un.keep b o q n a f) (.inl %[o|q]) a)
 .let%[p|e]:=F.un.slot b o q n a f;let%[h|i]:=fr b _ e a;show%[h|i]
 .let%[d|e]:=F.un.there b o q f;by_cases a:b∈frs l
  .let%[p|i]:=fr b d e a;show%[_|i]
  .show%[d|st b d (F.inB b d e (.inl %[o|q]) a)]
 .show(F.hok b o q).stay (λc u j e=>?_) (λ_ e=>e) λ_ _ e=>e
  let A:∃v,H' c∣v:=by
   rcases j with rfl|j
   .show%[_|q]
   .show%[_|j]
  let%[v|m]:=A;show st c u (F.inB c u e (.inr %[v|m]) λa=>by rw[F.frf c a]at m;cases m)
end
section
variable{P:nX}{w:wh}{K:ZA}{mg:ZC}{base:yc}{N:ZB}{qual:kG}{scope:RV}{f:kw}{cd:jg}{A:vj}{outer:gN Env}{s₀:md}{H₀:Hp}{E:XK}
def Eh(i:v=hH\/v∣.none)
 (I:Qc (gi (CXO P w) P w K mg base N qual scope f cd A outer s₀ H₀ E) ij L H s) (F:Fl P w (Nz qual scope ⇑s₀ f cd::outer) H s d B cls y v g s') (q:E cls y g):
 (gi (CXO P w) P w K mg base N qual scope f cd A outer s₀ H₀ E).xe (.ref d) s':=by
 show wU i I.ok.frames rfl F.up λh' u M=>?_
 let%[un|j]:=F.fly u.1 M;let J:Qc _ ij L g (s'>>>h'):=I.call' F.os un j F.bare λb z=>n0 z ∅
 show%[d,B,cls,y,g,ρ,%[J.os,J.bare,J.base,J.hok,u,F.free,?_,λb ob e h O=>?_|λb h=>F.frf b (Np.mpr ?_)]|q]
 .cases z:s₀.heap.get? d with
  | none=>rfl
  | some o=>
    let%[o'|e]:=I.base.there d o z (by simp[gi]);rw[F.new]at e;cases e
 .let Q:b∉frs (Nz qual scope ⇑s₀ f cd::outer):=λT=>by
   rcases Yv.mp (T)with z|z
   .rcases h with⟨o,c⟩|⟨o,c⟩
    .show n0 (Zu c) (z▸Xj _)
    .let:=J.free;rw[show(gi _ P w K mg base N qual scope f cd A outer s₀ H₀ E).env.locals=b from z.symm,c]at this;cases this
   .show O z
  let l:∃a,s'.heap.get? b∣a/\((∃o,s.heap.get? b∣o)\/∃o,g b∣o):=by
   rcases h with⟨o,c⟩|⟨o,c⟩
   .let%[C|G]:=I.base.there b o c (by simp[gi]);let%[n|p]:=F.un.there b C G ∅;show%[n,p|.inl %[C|G]]
   .let%[n|p]:=(F.hok b o c).there;show%[n,p|.inr %[o|c]]
  let%[a,U|r]:=l;let Y:=F.inB b a U r Q;let:=u.1 b a Y
  grind
 .let%[en,m|q]:=Np.mp h;show%[en,Yv.mpr (.inr m)|q]
def oV(a:∀c d H,b c d H->E c d H):iZ (CXO P w) (gi (CXO P w) P w K mg base N qual scope f cd A outer s₀ H₀ E) b:=by
 intro ij g H s e s' I %[h,B,cls,i,j,rfl,F|q];show Eh (.inr rfl) I F (a _ _ _ q)
end
noncomputable abbrev JZ(vs:ZG):Ov:={cls:= .type "tuple",data:= .seq vs.toArray}
noncomputable abbrev LJ(C t:kw):Ov:={cls:= .ref C,data:= .fields #[.ref t,.none,.none,.none,.bool hY,.none]}
noncomputable abbrev zq(h:yc)(C:kw)(vs:ZG):yc:=(h.push (JZ vs)).push (LJ C h.objs.size)
def wV(h:yc)(C:kw)(vs:ZG):(zq h C vs).get? (h.objs.size+1)∣LJ C h.objs.size:=by
 heap_get
def iJ(b:kw)(o:Ov)(e:h.get? b∣o):(zq h C vs).get? b∣o:=
 Z7 _ (Z7 _ e)
section
variable{prog:nX}{w:wh}{A:vj}{E:ZE}{h:yc}{g:ow R4}{d:Drawn}{t:iv}{os:OsState}
variable{nm q:kG}{C N:kw}{bs bm bmB:ZG}{hdct:re}{sn:ZB}{sub:ZG}{ab:re}{col:lx re}{dd:ZJ}{k0 k1 k2 k3 k5:lx jg}{B newId initId:M9}
def B3(F:ExcBaseFacts B newId initId bmB)(T:OwnTail h bmB bm){rest:ZG}
 (b:h.get? C∣VO nm q C N bs bm hdct sn sub ab col dd k0 k1 k2 k3 k5 newId) (l:h.Ns N i) (hi:i "__init__"=hV (.ref j)) (c:h.get? j∣m) (e:m.cls= .type "function") (a:rest.length<=lX)
 (n:↥A (call (.ref j) (.ref (h.objs.size+1)::rest)) (λr s'=>r= .none/\Q (.done (.ret (.ref (h.objs.size+1)))) s') E %[zq h C rest,g,d,t|os]):
 ↥A (n7.«type.__call__» %[.ref C::rest|[]]) Q E %[h,g,d,t|os]:=by
 repeat (first|with_reducible show Pl b ?_|with_reducible show wpAny_madeBy_exc b ?_|wp_step)
 show codeAny_call_builtin_code (RD _ F.quiet) (wpAny_check_new_subT F T b ?_);show codeAny_exc_new_subT F T b ?_ a;let c1:=iJ (C:=C) (vs:=rest) _ _ b;let o:=iJ (C:=C) (vs:=rest) _ _ c;let n1:(zq h C rest).Ns N i:=l.keeps iJ;let p:=wV h C rest;let f:(m4 C::bm).contains (.ref C)=hX:=by simp
 unfold Sr
 repeat (first|with_reducible show Pl p ?_|(with_reducible show V7 c1 ?_;rw[f])|wp_step)
 change tI _ _ (Qv (.ref C) _) _ _ _;show wpAny_typeLookup_tail c1 n1 (T.keeps (h':=zq h C rest) iJ) F.mroIs F.init.lookup ?_;rw[hi];show v0 (Z2 ?_);unfold bindSpecial;show Z2 (Rn (T:="function") %[_,o|e] ?_);rw[lp (!1)];show Z3 (Z2 (MZ n (λr s' s=>?_) λ_ _ x=>x));let%[rfl|u]:=s
 wp_walk
 show u
def B4(F:ExcBaseFacts B newId initId bmB)(T:OwnTail h bmB bm){rest:ZG}
 (b:h.get? C∣VO nm q C N bs bm hdct sn sub ab col dd k0 k1 k2 k3 k5 newId) (i:h.Ns N j) (hi:j "__init__"=hV (.ref f)) (c:h.get? f∣l) (e:l.cls= .type "function") (a:rest.length<=lX)
 (m:tI (Nm prog w) (A.under (.builtin "type.__call__" %[.ref C::rest|[]])) (call (.ref f) (.ref (h.objs.size+1)::rest)) (λr s'=>r= .none/\Q (.ref (h.objs.size+1)) s') E %[zq h C rest,g,d,t|os]):
 ↥A (call (.ref C) rest) Q E %[h,g,d,t|os]:=by
 let n:=tc_lookup;let o:=tc_bind (.ref C);let p:(%[h,g,d,t|os]:md).TypeIs (.ref C) "type":=%[_,b|rfl]
 show OB (TM ?_);change tI _ _ (callAny (.ref C) _) _ _ _
 repeat (any_goals (first|assumption|with_reducible show Pl b ?_|wp_step))
 show%[ρ|?_];show codeAny_call_builtin_at (RD _ (!0)) entry_typeCall (wpAny_check_type_call_sub b (B3 F T b i hi c e a m))
end
noncomputable abbrev veB:ZG:=[.type "ValueError",.type "Exception",.type "BaseException",.type "object"]
abbrev bE:ZG->re
 | .ref c::r=>bE r
 | l=>l==veB
def kO(self:jg):∀{l:ZG},bE l=hX->refuseLoop self "__setattr__" l=pure ()
 | .ref c::r,e=>by rw[refuseLoop_ref];show kO self e
 | .type n::r,e=>by
   let a:(Nh n::r)=veB:=by simpa [bE]using e
   show a▸PySem.F.store_ValueError.passes self
 |[],e=>by simp[bE]at e
 | .none::r,e=>by simp[bE]at e
 | .bool _::r,e=>by simp[bE]at e
 | .int _ _::r,e=>by simp[bE]at e
 | .str _ _::r,e=>by simp[bE]at e
 | .builtin _::r,e=>by simp[bE]at e
 | .float _ _::r,e=>by simp[bE]at e
 | .bytes _ _::r,e=>by simp[bE]at e
 | .ellipsis::r,e=>by simp[bE]at e
 | .notImplemented::r,e=>by simp[bE]at e
def pT(n:M9)(a:veB.contains (.type n)=hX):∀{l:ZG},bE l=hX->l.contains (.type n)=hX
 | .ref c::r,e=>by rw[UZ,pT n a (l:=r) e,Sb]
 | .type m::r,e=>by
   let b:(Nh m::r)=veB:=by simpa [bE]using e
   show b▸a
 |[],e=>by simp[bE]at e
 | .none::r,e=>by simp[bE]at e
 | .bool _::r,e=>by simp[bE]at e
 | .int _ _::r,e=>by simp[bE]at e
 | .str _ _::r,e=>by simp[bE]at e
 | .builtin _::r,e=>by simp[bE]at e
 | .float _ _::r,e=>by simp[bE]at e
 | .bytes _ _::r,e=>by simp[bE]at e
 | .ellipsis::r,e=>by simp[bE]at e
 | .notImplemented::r,e=>by simp[bE]at e
abbrev vB(K:ZA)(C:kw):re:=(clsIn K C).any λa=>bE a.mro
section
#where
variable{K:ZA}{x C:kw}{name:kG}{v:jg}{ox:Ov}{od:lx Ov}
def J7{R:Su->md->Prop}(X:K.In s.heap)(I:PySem.W.InstAt s.heap x ox C od)(i:vB K C=hX)(j:Nf K (.ref C) name∣hH)
 (h:↥A.in1 (VB (.ref x) (.ref C) (.str name tk) name v hY)
  (λfin s'=>match fin with| .done f=>R (.ok f) s'| .again d=>d.quiet=hX/\Pz (Nm prog w) A d R s') (λe s'=>R (.error e) s') s):
 Pz (Nm prog w) A (.call (.builtin "object.__setattr__") %[[.ref x,.str name tk,v]|[]]) R s:=by
 let a:=PySem.F.store_object;let%[c,g|b]:=Re i;let ne:c.mro.isEmpty=hY:=by cases q:c.mro with|nil=>rw[q]at b;simp[bE]at b|cons _ _=>rfl
 show OD a.slot.plain a.entry (@Wu _ _ _ s _ _ _ _ _ [] _ a.kind a.split (I.type.andThen (PySem.W.looks_mroIn X (by unfold mroIn;rw[g,R7,ku (by rw[ne];decide),(pT _ (!1) b)]))) (a.args _ _ v) ?_);let l:RZ (Nm prog w) s.heap (mroOf (.ref C)) c.mro:=(VN X g).andThen .now;rw[PySem.W.osa_eq,refuse_eq];show Z2 (Z2 (I.type.here (Z2 (l.here ?_))));rw[kO _ b];show Z3 (Z2 (I.type.here (Z2 ((SR X j).here (Z2 (Z3 h))))))
def G8(X:K.In s.heap)(g:s.heap.get? x∣ox)(i:ox.cls= .ref C)(j:ox.data= .fields vs)(l:ox.dict=hH)
 (z:Nf K (.ref C) "__setattr__"=hV (hV (.builtin "object.__setattr__"))) (B:vB K C=hX) (G:Nf K (.ref C) name∣hH) (H:PM K C=hX)
 (h:∀h',h'.get? x=hV {ox with dict:=hV ⇑s}->h'.Ns1 ⇑s (λy=>if y=name then hV v else hH)->(∀b o,b≠x->s.heap.get? b∣o->h'.get? b∣o)->Q () {s with heap:=h',toks:=s.toks+2}):
 ↥A (setAttr (.ref x) name v) Q E s:=by
 let%[oc,I,L|M]:=ox;subst i j l;let J:PySem.W.InstAt s.heap x _ C hH:=%[g,rfl,rfl|trivial]
 show set_plain X J z (J7 X J B G ?_);let%[cd,N|m]:=Re H;show Z2 (Z3 (Z2 (Z2 (Qu g (Z2 (QM (VN X N) ?_))))));rw[m];let a:(s.heap.push {cls:= .type "dict",data:= .dict #[]}).get? x∣_:=Z7 _ g;let c:=Zs (Zu g);show Z2 (wpAny_alloc' (Z2 (wpAny_update' a (Z3 ?_))));let n:((s.heap.push {cls:= .type "dict",data:= .dict #[]}).update x λo=>{o with dict:=hV ⇑s}).get? ⇑s∣_:=
  (J5 _ _ c).trans (yc.get?_push_at rfl rfl)
 let p:((s.heap.push _).update x _).Ns ⇑s _:=
  %[_,#[],_,n,rfl,λe O=>n0 O ∅|λ_=>rfl]
 show Z2 (Z3 (Z2 (wpAny_nsSet1 (Ux p) λh' d f=>?_)));let%[oD,T,U,q,r|u]:=d.count (PySem.Within.cons name v PySem.Within.nil);show Z2 (W6 q (r▸Xx (nI u ∅)) (Z3 (h h' ?_ d λb o Y e=>?_)))
 .show(f.2 x c).trans (MT _ a rfl)
 .show(f.2 b (Zs (Zu e))).trans ((J5 _ _ (J0 Y)).trans (Z7 _ e))
end
abbrev ExO(a C:kw)(d:ZJ):HO:= .ext λh=>∃o vs,h.get? a∣o/\o.cls= .ref C/\o.dict=d/\o.data= .fields vs/\1<vs.size/\vs[1]?∣.none
def ExO.ok{P:nX}(e:h.get? a∣o)(c:o.cls= .ref C)(f:o.dict=d)(g:o.data= .fields vs)(i:1<vs.size)(b:vs[1]?∣.none):
 bZ P w H h a (ExO a C d):=
 %[%[o,vs,e,c,f,g,i|b],%[o|e]|λb j %[o,vs,e|r] k=>%[o,vs,k o e|r]]
def Ei(h:H a∣o):Qa H a o=H:=by
 funext b;unfold Qa;simp_all
abbrev exK(K:ZA)(C f:kw):re:=(K.lookup C).any λo=>o.cls== .type "type"&&(match o.data with
 | .cls a=>a.mro.head? ==hV (.ref C)&&o.slots.size==6&&o.slots[4]? ==hV (hV (.builtin "ValueError.__new__"))&&!a.hasDel&&PySem.W.tailIn K veB a.mro.tail&&PySem.W.nsOkIn K a.ns&&Sd K a.ns "__init__"==hV (hV (.ref f))
 | _=>hY)
set_option tactic.hygienic true in
def zt{K:ZA}{h:yc}{mg:ZC}(X:K.In h)(G:h.Ns N mg)(e:Sd K N n∣hV v):mg n∣v:=by
 let%[o,es,j,a,b,_|f]:=G;unfold Sd at e
 split at e
 .rename_i c d g l m q
  let:=X _ _ q;rw[a]at this;cases this;cases b
  split at e
  .rename_i p i
   cases e;rw[<-f];unfold nsFind findBy;rw[<-UN,i];rfl
  simp_all
 .cases e
def zu{K:ZA}(X:K.In h)(q:exK K C f=hX):∃nm i N bs c a j sub l b m n k1 k2 o p r,
 h.get? C∣VO nm i C N bs c a j sub l b m n k1 k2 o p "ValueError.__new__"/\h.Ns N r/\r "__init__"=hV (.ref f)/\OwnTail h veB c:=by
 let%[%[E,m,data|s],v|q]:=Re q;dsimp only at q;rw[Zv,N8]at q;let%[rfl|q]:=q;cases data with
 | cls w=>
   let%[nm,bs,d,H,i,I,j,sub,l,b|y]:=w;simp only[Zv,N8,Vp]at q;let%[%[%[%[%[%[u|z]|A]|rfl]|B]|e]|g]:=q;cases d with
   | nil=>cases u
   | cons x c=>
     cases u;rcases s with _|⟨n,_|⟨k1,_|⟨k2,_|⟨o,_|⟨J,_|⟨p,_|⟨L,s⟩⟩⟩⟩⟩⟩⟩<;> first|cases z|skip
     cases A;let G:=PySem.Heap.Ns.of_isNs (PySem.W.isNs_of_in X e);show%[_,_,_,_,_,_,_,_,_,_,_,_,_,_,_,_,_,X _ _ v,G,zt X G g|PySem.W.tail_of_in X B]
 | _=>cases q
section
variable{X:Cx}{C f:kw}
set_option tactic.hygienic true in
def zv(A:exK X.K C f=hX):cF X (.builtin "ValueError.__init__") (λxs H Q=>∃a d ys,xs=V.ref a::ys/\ ~~~ys<=9/\H a∣ExO a C d/\Q .non H):=by
 intro ij s B H xs us Q I r h;let%[a,d,ys,rfl,hy,g|q]:=h;cases r with
 | cons E G=>
   rename_i u ws
   obtain rfl:u=m4 a:=E;let%[%[o,vs,e,v,L,i,M|O]|_]:=I.hok a _ g;let%[nm,qn,N,bs,bm,w,sn,sub,ab,U,dd,k0,k1,k2,k3,k5,mN,Y,hN,hi|T]:=zu I.kIn A;let F:=PySem.F.excBase_ValueError;let j: ~~~ws<=lX:=by rw[<-G.length,Na];lia
   show OB (OD F.init.plain F.initEntry (wpAny_check_init_subT F T Y e v ?_));let l:∃m,vs[0]?∣m:=%[vs[0]'⋯|J6 ⋯]
   let%[m|l]:=l;let p:(s.heap.push (JZ ws)).get? a∣o:=Z7 _ e;let c:=OI i (·.setIfInBounds 0 (m4 ⇑s));let y:=MT (PD (·.setIfInBounds 0 (m4 ⇑s))) p (Pj c);let J:Qc X ij B H (s>>>((s.heap.push (JZ ws)).update a (PD (·.setIfInBounds 0 (m4 ⇑s))))):=by
    let:=I.write (x:=a) (e:=a) (o:=ExO a C d) (t':=s.toks) (g▸M8) (.inl rfl)
     (λb u n z=>by rw[J5 _ _ (J0 n)];show Z7 _ z) %[_|y]
     (ExO.ok y ((Se _ _).trans v) ((tX _ _).trans L) c ↑M (by rw[ow.getElem?_setIfInBounds_ne ∅];show O))
    rw[Ei g]at this;show this
   show Z2 (RF (Z2 (Z2 (NG p i l (Z2 (Qt p i ⋯ ?_))))) j);cases m with
   | ref b=>show Oz (Z3 %[.non,H,J,rfl|q])
   | _=>show Z3 (Z3 %[.non,H,J,rfl|q])
end
structure Ej (K:ZA) (D:kw):Prop where
 ga:Tf K (.ref D) "__getattribute__"=hV (hV (.builtin "type.__getattribute__"))
 rd:readsIn K D (.type "type")=hX
 at_:findCls K (.ref D) (.type "type") "__init__"=hV (.val (.builtin "ValueError.__init__"))
structure J8 (K:ZA) (C:kw) (f:kG):Prop where
 sa:Nf K (.ref C) "__setattr__"=hV (hV (.builtin "object.__setattr__"))
 ov:vB K C=hX
 no:Nf K (.ref C) f∣hH
 hd:PM K C=hX
section
variable{X:Cx}{C D f:kw}{x nm:kG}{p pos pos' apos:Pos}{e o value:zr}{es:gN zr}{t:TA}{ta tv:TE}{r:gN V->Hp->VK->Prop}
def Ek(g:Gl X x)(i:X.mg x∣.ref D)(B:Ej X.K D)(j:cF X (.builtin "ValueError.__init__") r)(l:PA X (e::es) t)(a:(x==("__debug__":kG))=hY)
 (m:vi (e::es) X.env=(hY,Nk e X.env)::vi es X.env) (b:(NP pos (vi es X.env)).any (·.1)=hY)
 (n:Nk (.Call (.Attribute (.Name x p) "__init__" apos) (e::es) [] pos) X.env=(do
  let c<-Nk (.Name x p) X.env
  Pm apos.atName
  let(f,first)<-PY [c] (Rb c "__init__" pl)
  Ui pos f first (NP pos (vi (e::es) X.env)) (PB pos (N4 [] X.env)))):
 PE X (.Call (.Attribute (.Name x p) "__init__" apos) (e::es) [] pos) (tCB r t):=by
 intro ij s d H Q I h;show PySem.W.methodCall_KW (iW I g i (PySem.W.method_cls I.kIn B.ga (PySem.W.cls_value I.kIn B.rd B.at_ (!1) (Rh (thP (l pos ij _ d H _ (I.tok _) h) λus q vs u v w y=>j ij q d u vs us Q v w y) m b))) a) n
abbrev Iv(K:ZA)(C:kw)(ta tv:TE)(f:kG):TS:=λD b H=>tv b H λy g=>ta b g λx c=>∃a,x= .ref a/\c a∣ExO a C hH/\
 ∀d,c d=hH->d≠a->D.nx b (Qa (Qa c a (ExO a C (hV d))) d (.xd [(f,y)]))
def G9(c:J8 X.K C nm)(E:PE X o ta)(G:PE X value tv)(J:Pb value (hV (.Attribute o nm pos')) pos.line X.env=pure hY):PS X (.Assign [.Attribute o nm pos'] value pos) (Iv X.K C ta tv nm):=by
 intro ij s j H D I h;show Ta (thP (G ij s j H _ I h) λu L y M N O q=>thP (E ij L j M _ N q) λQ l x H2 d T %[a,ex,m|U]=>?_) J;subst ex;obtain rfl:Q=m4 a:=T;let%[%[ob,vs,e,v,Y,w,hz|h1]|_]:=d.hok a _ m;let i:=Yz (Zu e);let A:=d.hok.fresh (Zi _);show G8 d.kIn e v w Y c.sa c.ov c.no c.hd λh' B n' k=>%[j,_,?_|U ⇑l A i]
 show Qc.stood2 d (d.write (t':=l.toks+2) (m▸M8) (.inl rfl) (λb u n z=>k b u n z) %[_|B] (ExO.ok B v rfl w hz h1)) ((aq i)▸A) (Zi _) %[_,n'|λg=>?_];by_cases z:g=nm
 .rw[lp z,z];simp only[Od,PP];show O
 .rw[ku z];let z':(g==nm)=hY:=↑z
  simp only[Od,z'];show M8
end
abbrev J9(b:TE):TE:=λc H Q=>b c H λv a=>(∃i:on,v= .int i/\i.natAbs<2^64/\Q (.str (toString i)) a)\/∃y:kG,v= .str y/\ ~~~y<=lX/\Q (.str y) a
abbrev pU:gN TE->kG->TE
 |[],out=>λa H Q=> ~~~out<=lX/\Q (.str out) H
 | t::ts,out=>λa H Q=>t a H λv b=>∃y:kG,v= .str y/\ ~~~(out++y)<=lX/\pU ts (out++y) a b Q
inductive PJ (X:Cx):gN zr->gN TE->Prop
 | nil:PJ X [] []
 | cons {e:zr} {es:gN zr} {t:TE} {ts:gN TE}:PE X e t->PJ X es ts->PJ X (e::es) (t::ts)
section
variable{X:Cx}{e v1 v2:zr}{rest:gN zr}{te t1 t2:TE}{ts:gN TE}{pos:Pos}
def Ka(c:PE X e te):PE X (.FormattedValue e (-1) hH pos) (J9 te):=by
 intro ij s d H Q I h;show FormattedValue_plain (thP (c ij s d H _ I h) λu j v a b r q=>?_);rcases q with⟨i,rfl,hi,q⟩|⟨y,rfl,f,q⟩
 .let%[t|rfl]:=(show∃t,u=QF i t from r)
  let g:i.natAbs.log2<1920:=by
   by_cases z:i.natAbs=0
   .rw[z];decide
   .show(iv.log2_lt z).mpr (Zg hi (PF (!1) ∅))
  show formatField_int_small g %[V.str (toString i),a,b.tok _,%[_|rfl]|q]
 .let%[t|rfl]:=(r)
  show XV (λt' tk=>%[.str y,a,b.tok _,%[_|rfl]|q]) f
def El(h:PJ X es ts):∀(out:kG) (ij:ZF) (s:md) (a:St) (H:Hp) (Q:VK),Qc X ij a H s->pU ts out a H Q->
 (X⁻¹) (joinParts out (evalEach es X.env)) (EP X ij a Q) X.xe s:=by
 induction h with
 | nil=>show λout ij s a H Q I %[b|q]=>joinParts_nil %[.str out,H,I.tok _,%[_|rfl]|q] b
 | cons c _ d=>
   intro out ij s a H Q I q;show joinParts_cons (thP (c ij s a H _ I q) λu f v g i r %[y,j,b|l]=>?_);subst j;let%[t|rfl]:=(r)
   show%[b|d _ ij f a g Q i l]
def Hf(h:PJ X (v1::v2::rest) ts):PE X (.JoinedStr (v1::v2::rest) pos) (pU ts MQ):=λij s a H Q I q=>
 JoinedStr_many (El h _ ij s a H Q I q)
end
abbrev zw(C:kw)(sp:Sp)(t:TA):TE:=λb H Q=>t b H λvs a=> ~~~vs<=9/\∀x,a x=hH->sp (.ref x::vs) (Qa a x (ExO x C hH)) (λv c=>v= .non/\Q (.ref x) c) E0
structure MkX (K:ZA) (C f:kw):Prop where
 ex:exK K C f=hX
 fn:(K.lookup f).map (·.cls)∣.type "function"
 kp:O5 K (.ref C)=hX
section
variable{X:Cx}{k:iv}{f C:kw}{fd:OP}{ps:ZB}{sp:Sp}{x:kG}{p pos cpos:Pos}{e:zr}{es:gN zr}{te:TE}{t:TA}
def B5(M:MkX X.K C f)(F:d9 X.prog X.w X.K X.mg X.base CX0 k f fd ps sp)(w:bP (k+1) X.A)(y:ee X.K fd ps [])
 (I:Qc X ij j H s) (r:aN vs us) (hv: ~~~vs<=9)
 (h:∀x,H x=hH->sp (.ref x::vs) (Qa H x (ExO x C hH)) (λv z=>v= .non/\Q (.ref x) z) E0):
 (X⁻¹) (call (.ref C) us) (EP X ij j Q) X.xe s:=by
 let%[i,g,d,tk|os]:=s;let%[nm,qn,N,bs,bm,n,sn,sub,ab,A,dd,k0,k1,k2,k3,k5,mN,B,E,hi|T]:=zu I.kIn M.ex;let%[oI,G|l]:=MS.mp M.fn;show B4 PySem.F.excBase_ValueError T B E hi (I.kIn _ _ G) l (by rw[<-r.length,Na];lia) ?_;let J:Qc X ij j H %[zq i C us,g,d,tk|os]:=I.keptS iJ rfl rfl;let m:Qc X ij j (Qa H _ (ExO _ C hH)) _:=
  I.stoodS J (Yf _) (ExO.ok (wV i C us) rfl rfl rfl ∅ rfl)
 let o:=h _ (I.hok.fresh (Yf _));let q:aN (V.ref (i.objs.size+1)::vs) _:= .cons rfl r;let b: ~~~(m4 (i.objs.size+1)::us++[])= ~~~ps:=by
  rw[Zx,<-q.length];show F.len _ _ _ _ o
 let c:=y _ _ m.kIn b;rw[Zx]at c;show OB (codeAny_mono (F.run _ X.stack _ _ _ _ _ _ E0 (w.make C us []) (m.env0.make C us []) c q o) λr s' a=>?_);cases r with
 | error e=>show M7 a
 | ok L=>
   cases L with
   | ret u=>
     let%[v,O,U,Y,ev|q3]:=m.after a;subst ev;show%[Y,V.ref _,O,U,ρ|q3]
   | next=>show M7 a
   | brk=>show M7 a
   | cont=>show M7 a
def Em(M:MkX X.K C f)(F:d9 X.prog X.w X.K X.mg X.base CX0 k f fd ps sp)(d:bP (k+1) X.A)(g:Gl X x)(i:X.mg x∣.ref C)(j:ee X.K fd ps [])
 (l:PA X (e::es) t) (a:(x==("__debug__":kG))=hY) (m:vi (e::es) X.env=(hY,Nk e X.env)::vi es X.env) (b:(NP pos (vi es X.env)).any (·.1)=hY):
 PE X (.Call (.Name x p) (e::es) [] pos) (zw C sp t):=by
 intro ij s n H Q I h;show NY (iW I g i (Uh I.ok.mod.kin M.kp (thP (l pos ij s n H _ I h) λus u vs v c r %[o|q]=>%[c.kIn|B5 M F d j c r o q]) m b) a)
abbrev vC(C:kw)(te:TE)(W:kw->Hp->Prop):TS:=λ_ c H=>te c H λv b=>∃a d,v= .ref a/\b a∣ExO a C (hV d)/\W a b
def En{W:kw->Hp->Prop}(A:exK X.K C f=hX)(B:X.calm=hX)(E:PE X e te)
 (G:∀(ij:ZF) (i:St) (H:Hp) (s:md) (a d:kw),Qc X ij i H s->H a∣ExO a C (hV d)->W a H->X.xe (.ref a) s):PS X (.Raise (hV e) hH pos) (vC C te W):=by
 intro ij s i H D I h;change tI _ X.A (do Pm pos;raiseStmt X.env (hV (do let v<-Nk e X.env;Pm pos;pure v)) hH) _ _ s;show Z2 (PV ?_);unfold raiseStmt;show Z2 (Z2 (thP (E ij s i H _ I h) λu m v J j r %[a,d,L,n|q]=>Z2 (PV (Z3 ?_))));subst L;obtain rfl:u=m4 a:=r;let%[%[M,vs,O,c,o,w,hz|Q]|_]:=j.hok a _ n;let%[nm,qn,N,bs,U,y,sn,sub,ab,Y,dd,k0,k1,k2,k3,k5,mN,z,hN,hi|T]:=zu j.kIn A;let l:(m4 C::U).contains (.type "BaseException")=hX:=by rw[UZ,T.hasType (b:=hX) (!1),Sb]
 let hE:=G ij i J m a d j n q;let%[hp,g,dr,tk|os]:=m;let%[oc,od,ac|ae]:=M;dsimp only at c o w;subst c o w;let hh:X.A.handled=hH:=j.ok.hd B
 repeat (first|with_reducible show Pl O ?_|with_reducible show Pl z ?_|(with_reducible show V7 z ?_;rw[l])|wp_step)
 rw[Q];show Z3 ?_;rw[ku (!1)];show Z3 (V6 hh hE)
end
abbrev drop(H:Hp)(a:kw):Hp:=λb=>if b=a then hH else H b
def iK:drop H a a=hH:=by unfold drop;rw[lp rfl]
def bW(h:b≠a):drop H a b=H b:=by unfold drop;rw[ku h]
def B6{P:nX}{K:ZA}
 (hk:exK K C f=hX) (he:PE (gi (CXO P w) P w K mg base N h g p r A outer s₀ H₀ E) e te):
 PS (gi (CXO P w) P w K mg base N h g p r A outer s₀ H₀ E) (.Raise (hV e) hH pos) (vC C te λa H=>∃d,H a∣ExO a C (hV d)/\H₀ a=hH/\E (.ref C) (hV d) (drop H a)):=by
 show En hk rfl he λij σ H s a ag I _ %[d,J,hn|q]=>?_
 let%[%[oe,vs,ea,Y,hd,hf,hz|h1]|_]:=I.hok a _ J;let ST:=I.stack;let SF:=I.stkFree;let L0:⇑s₀<=(Nz h g ⇑s₀ p r).locals:=Zi _;change tI (Nm P w) (A.deeper (Nz h g ⇑s₀ p r)) (leaving (Nz h g ⇑s₀ p r) (.ref a)) _ _ s;let ab:a∉frs (Nz h g ⇑s₀ p r::outer):=λz=>by
  let:=SF a z;rw[J]at this;cases this
 show wU (.inl rfl) I.ok.frames rfl %[λb o z=>of_hideAll _ z,PySem.W.hideAll_none _ (Yv.mpr (.inl rfl)),PySem.W.funFrames_hide ST λen ac b i=>Yv.mpr (.inr (Np.mpr %[en,ac|i])),oe,vs,ea,Y,hd,hf,hz|h1] λh' u sm=>?_
 let G:∀b o,s.heap.get? b∣o->b≠a->b∉frs (Nz h g ⇑s₀ p r::outer)->h'.get? b∣o/\(hideAll s.heap (a::frs (Nz h g ⇑s₀ p r::outer))).get? b∣o:=λb o z n1 n2=>by
  let hB:=hideAll_get (a::frs (Nz h g ⇑s₀ p r::outer)) z λm=>(Yv.mp m).elim n1 n2
  show%[u.1 b o hB|hB]
 let T:∀b o,s.heap.get? b∣o->b∈frs (Nz h g ⇑s₀ p r::outer)->∃sl,h'.get? b=hV {o with slots:=sl}:=λb o z i=>by
  let%[_,o',z'|M]:=ST.mem i;rw[z]at z';cases z';show sm b o z M
 let nL:∀b o,s₀.heap.get? b∣o->b∉frs outer->b∉frs (Nz h g ⇑s₀ p r::outer):=λb o z n m=>by
  rcases Yv.mp (show b∈⇑s₀::frs outer from m)with y|y
  .show n0 (Zu z) (y▸Xj _)
  .show n y
 let sub:∀b,b∈frs outer->b∈frs (Nz h g ⇑s₀ p r::outer):=λb i=>Yv.mpr (.inr i)
 let j:∀b,b∉(gi (CXO P w) P w K mg base N h g p r A outer s₀ H₀ E).ex:=λb z=>n0 (show b∈([]:gN kw)from z) ∅
 let new:s₀.heap.get? a=hH:=by
  cases z:s₀.heap.get? a with
  | none=>rfl
  | some o=>
    let:=I.base.free a o z hn (j a);rw[J]at this;cases this
 let trk:∀b o,H b∣o->b∉frs (Nz h g ⇑s₀ p r::outer):=λb o z m=>by
  rw[SF b m]at z;cases z
 show%[a,_,.ref C,hV d,drop H a,ρ,%[I.os,I.bare,%[λb o z n i hx=>?_,λb o z n i hx=>?_,λb o z n hx=>?_,λb o z hx=>?_,λb xs z=>?_,λb o v z=>?_|λb ps z=>?_],λb o z=>?_,u,iK,new,λb ob z i M=>?_|λb i=>?_]|q]
 .let l:=I.base.keep b o z n i (j b);show(G b o l (λy=>?_) (nL b o z i)).1;subst y;rw[new]at z;cases z
 .let%[sl|l]:=I.base.slot b o z n i (j b);let%[ae|Q]:=T b _ l (sub b i);show%[ae|Q]
 .by_cases y:b=a
  .show y▸iK
  .rw[bW y];show I.base.free b o z n (j b)
 .let%[O|l]:=I.base.there b o z (j b);by_cases i:b∈frs (Nz h g ⇑s₀ p r::outer)
  .let%[sl|Q]:=T b O l i;show%[_|Q]
  .show%[O|(G b O l (λy=>?_) i).1];subst y;rw[new]at z;cases z
 .let l:=I.base.tups b xs z;rw[bW (pA l J (by simp[ExO]))];show l
 .let l:=I.base.frzs b o v z;rw[bW (pA l J (by simp[ExO]))];show l
 .let%[m|l]:=I.base.tbls b ps z;show%[m|?_];rw[bW (pA l J (by simp[ExO]))];show l
 .let y:b≠a:=λy=>by rw[y,iK]at z;cases z
  rw[bW y]at z;show(I.hok b o z).stay (λc u' U L=>?_) (λc L=>?_) λc xs L=>?_
  .rcases U with rfl|U
   .show(G c u' L y (trk c o z)).1
   .show(G c u' L (pA U J (by simp[ExO])) (trk c _ U)).1
  .rw[bW (pA L J (by simp[ExO]))];show L
  .rw[bW (pA L J (by simp[ExO]))];show L
 .let y:b≠a:=λy=>by
   rcases i with⟨o,B⟩|⟨o,B⟩
   .rw[y,new]at B;cases B
   .rw[y,iK]at B;cases B
  let nf:b∉frs (Nz h g ⇑s₀ p r::outer):=by
   rcases i with⟨o,B⟩|⟨o,B⟩
   .show nL b o B M
   .rw[bW y]at B;show trk b o B
  let ex:∃O,s.heap.get? b∣O:=by
   rcases i with⟨o,B⟩|⟨o,B⟩
   .show I.base.there b o B (j b)
   .rw[bW y]at B;show(I.hok b o B).there
  let%[O|l]:=ex;let%[Q|e3]:=G b O l y nf;rw[show h'.get? b∣ob from z]at Q;cases Q;show e3
 .let y:b≠a:=λy=>ab (y▸sub b i)
  rw[bW y];show SF b (sub b i)
abbrev ExH(a C:kw)(d:ZJ):HO:= .ext λh=>∃o vs,h.get? a∣o/\o.cls= .ref C/\o.dict=d/\o.data= .fields vs
def ExH.ok{P:nX}(e:h.get? a∣o)(b:o.cls= .ref C)(c:o.dict=d)(f:o.data= .fields vs):
 bZ P w H h a (ExH a C d):=
 %[%[o,vs,e,b,c|f],%[o|e]|λg i %[o,vs,e|r] k=>%[o,vs,k o e|r]]
section
variable{X:Cx}{ij:ZF}{σ:St}{H:Hp}{s s':md}
def Hg(I:Qc X ij σ H s)(L:X.N.Nodup)(hi:X.N[i]?∣n)(N:X.env.kindOf n∣.local)
 (h:∀s',Qc X ij (σ.set i hH) H s'->Q () s'):tI M A (do bindName X.env n .none;VF X.env n pos) Q E s:=by
 let%[m,O|T]:=id I.loc;let B:i<σ.length:=I.len▸(Xl hi).1;show wpAny_nameGoes_keeps N O (by rw[I.ok.kind];rfl) λh' v u a=>h _ ?_
 let f:∀b o,X.s₀.heap.get? b∣o->b≠X.env.locals:=λb o e=>Zs (Zg (Zu e) I.ok.above)
 show%[I.ok,I.os,I.bare,%[λb o e n w l=>?_,λb o e n w l=>?_,I.base.free,λb o e l=>?_,I.base.tups,I.base.frzs|I.base.tbls],%[_,u|λj y U g C Y=>?_],λy c e=>?_,I.free,I.freeC,λp hp=>?_,λb ob e=>?_|by simpa using I.len]
 .show(a.2 b (f b o e)).trans (I.base.keep b o e n w l)
 .let%[sl|g]:=I.base.slot b o e n w l;show%[sl|(a.2 b (f b o e)).trans g]
 .let%[o'|g]:=I.base.there b o e l;show%[o'|(a.2 b (f b o e)).trans g]
 .let G:j≠i:=λz=>by
   simp_all
  rw[Ri (J0 G)]at C;let%[u',r'|q]:=T j y U g C Y;show%[u',r'|?_];rcases q with⟨k,e⟩|⟨k,c,e,z⟩
  .show .inl %[k|?_];let:y≠n:=λe=>G (f9 L g (e▸hi))
   simp[this,e]
  .show .inr %[k,c,e|z.sameBut a (I.cne y c e)]
 .let%[J|z]:=I.cell y c e;show%[J|z.sameBut a (I.cne y c e)]
 .let%[e,n,ne,nf|d]:=I.pin p hp;show%[(a.2 p.1 ne).trans e,n,ne,nf|d]
 .show(I.hok b ob e).stay (λc J r q=>(a.2 c ?_).trans q) (λ_ q=>q) λ_ _ q=>q
  rintro rfl;rcases r with rfl|r
  .rw[I.free]at e;cases e
  .rw[I.free]at r;cases r
end
section
variable{M:Model}{A:vj}{E:ZE}{s:md}{K:ZA}{D C e:kw}{oe:Ov}{b:re}{Q:re->md->Prop}
def Eo(X:K.In s.heap)(i:Wm K (.ref D)∣.type "type")(j:RL K (.ref D) (.type "BaseException")∣hX)(d:(K.lookup D).any (λo=>match o.data with| .cls _=>hX|_=>hY)=hX)
 (l:s.heap.get? e∣oe) (m:oe.cls= .ref C) (n:RL K (.ref C) (.ref D)∣b) (f:Q b s):tI M A (excMatches (.ref e) (.ref D)) Q E s:=by
 let%[g,p|c]:=Re d;show Z2 (Z2 ((PySem.W.looks_typeIn X i).here ?_));rw[tc_notTuple];show Z3 (Z2 (Z3 ?_));let a:∃h,g.data= .cls h:=by
  revert c
  cases g.data<;> intro c<;> first|show%[_|rfl]|cases c
 let%[h|a]:=a;let LT:RZ M s.heap (P8 (.ref e)) _:=λq u v s' k r=>by
  show Z2 (Qu (k _ _ l) (Z3 (m▸r)))
 show Z2 (Z2 (Z2 (Z2 (Z2 (Qu (X _ _ p) (Z3 ?_))))));rw[a,lp rfl];show(Tv X j).here (Z3 (Z3 (Z2 (LT.here (Z2 (Z2 (Z2 ((Tv X n).here ?_))))))));cases b with
 | true=>
   show Z3 (Z3 (Z3 f))
 | false=>
   show Z3 (Z3 (Z3 f))
end
noncomputable abbrev Cx.suiteX(X:Cx)(a:kw):Cx:={X with A:=X.A.mark (hV (.ref a)),calm:=hY,xe:=λ_ _=>MO}
section
variable{X:Cx}{ij pins' pn:ZF}{σ:St}{H:Hp}{s:md}{E:ZE}
def LK(ok:X.Ok)(pn:gN _)(E:ZE):({X with pn:=pn,xe:=E}).Ok:=
 %[ok.mod,ok.kind,ok.glob,ok.blt,ok.above,ok.inj,ok.has,ok.cab,ok.hd,ok.frames,ok.stk,ok.exf,ok.bs,ok.bsz,ok.noex,ok.exfs,ok.funs|ok.frf]
def unPn(ok:({X with pn:=pn,xe:=E}).Ok):X.Ok:=
 %[ok.mod,ok.kind,ok.glob,ok.blt,ok.above,ok.inj,ok.has,ok.cab,ok.hd,ok.frames,ok.stk,ok.exf,ok.bs,ok.bsz,ok.noex,ok.exfs,ok.funs|ok.frf]
def Qc.toPn(I:Qc X ij σ H s)(E:ZE):Qc ({X with pn:=X.pn++ij,xe:=E}) [] σ H s:=
 %[LK I.ok _ E,I.os,I.bare,I.base,I.loc,I.cell,I.free,I.freeC,λp a=>I.pin p ↑a,I.hok|I.len]
def Qc.ofPn(I:Qc ({X with pn:=X.pn++ij,xe:=E}) pins' σ H s):Qc X ij σ H s:=
 %[unPn I.ok,I.os,I.bare,I.base,I.loc,I.cell,I.free,I.freeC,λp a=>I.pin p (Yt _ a),I.hok|I.len]
def Qc.toSuite(I:Qc X ij σ H s)(a:kw):Qc (X.suiteX a) ij σ H s:=
 %[%[I.ok.mod,I.ok.kind,I.ok.glob,I.ok.blt,I.ok.above,I.ok.inj,I.ok.has,I.ok.cab,(λz=>re.noConfusion z),I.ok.frames,I.ok.stk,I.ok.exf,I.ok.bs,I.ok.bsz,I.ok.noex,I.ok.exfs,I.ok.funs|I.ok.frf],I.os,I.bare,I.base,I.loc,I.cell,I.free,I.freeC,I.pin,I.hok|I.len]
def Qc.ofSuite(I:Qc (X.suiteX a) ij σ H s)(ok:X.Ok):Qc X ij σ H s:=%[ok,I.os,I.bare,I.base,I.loc,I.cell,I.free,I.freeC,I.pin,I.hok|I.len]
def SP.ofPn{D:iU}(h:SP ({X with pn:=X.pn++ij,xe:=E}:Cx) [] D f s):SP X ij D f s:=by
 cases f with
 | next=>have%[a,b,I|q]:=h;show%[a,b,I.ofPn|q]
 | brk=>have%[a,b,I|q]:=h;show%[a,b,I.ofPn|q]
 | cont=>have%[a,b,I|q]:=h;show%[a,b,I.ofPn|q]
 | ret u=>have%[v,a,b,I,r|q]:=h;show%[v,a,b,I.ofPn,r|q]
end
abbrev iU.gone(D:iU)(i:iv):iU:={nx:=λa H=>D.nx (a.set i hH) H,rt:=D.rt,bk:=λa H=>D.bk (a.set i hH) H,ct:=λa H=>D.ct (a.set i hH) H}
structure Cat (K:ZA) (D:kw):Prop where
 ty:Wm K (.ref D)∣.type "type"
 ex:RL K (.ref D) (.type "BaseException")∣hX
 cd:(K.lookup D).any (λo=>match o.data with| .cls _=>hX|_=>hY)=hX
structure Hh (K:ZA) (C:kw) (f:kG):Prop where
 ga:Nf K (.ref C) "__getattribute__"=hV (hV (.builtin "BaseException.__getattribute__"))
 hk:Nf K (.ref C) "__getattr__"=hV hH
 sub:RL K (.ref C) (.type "BaseException")∣hX
 no:Nf K (.ref C) f∣hH
 hd:PM K C=hX
section
#where
variable{K:ZA}{x C:kw}{name:kG}{v:jg}{ox:Ov}{od:lx Ov}
def Kb(X:K.In s.heap)(I:PySem.W.InstAt s.heap x ox C od)(c:Hh K C name)(d:findObj K C od name∣.value v)(f:YK v=hX)
 (h:Q v {s with toks:=s.toks+1}):↥A (WS (.ref x) name a) Q E s:=by
 let b:RZ (Nm prog w) s.heap (P8 (.ref x)) (.ref C):=I.type;let sub:RZ (Nm prog w) s.heap (Sr (.ref x) (.type "BaseException")) hX:=b.andThen (Tv X c.sub);let g:=looks_find (M:=Nm prog w) X I d;let S:=PySem.F.excAttr_ValueError.ga;show Z2 (wpAny_mkText (v0 (Z2 (b _ _ _ _ (λ_ _ e=>e) (Z2 (SR X c.ga _ _ _ _ (λ_ _ e=>e) ?_))))));dsimp only;rw[show(UP (m4 C)&&NL "BaseException.__getattribute__"==NL "object.__getattribute__")=hY from by rw[show(NL "BaseException.__getattribute__"==NL "object.__getattribute__")=hY from !0,NC],ku (!1)];show Z2 (looks_hook X (mc:= .ref C) (r:=hH) (c.hk) _ _ _ _ (λ_ _ e=>e) (Z2 (NV (v0 ?_))));unfold XB;rw[show(a&&UP (NL _))=hY from NC _,ku (!1)];unfold boundAndCalled;rw[S.bind];show OB ?_;show OD S.plain PySem.F.entry_bexc_ga ?_;show @Wu _ _ _ _ _ _ "__getattribute__" _ _ [] _ (!0) (!0) sub (PySem.F.args_bexc_ga _ _) ?_;show Z2 (Z3 (Z2 (Z3 (Z2 (QM b (Z2 (QM g (Z3 ?_))))))));change tI _ _ (handedOut v) _ _ _;rw[PySem.W.handedOut_of f];show Z3 h
end
abbrev Iw(C:kw)(c:TE)(f:kG):TE:=λe H Q=>c e H λx b=>∃a d fs v,x= .ref a/\b a∣ExH a C (hV d)/\b d∣.xd fs/\fs.lookup f∣v/\Q v b
def Hj{X:Cx}(c:Hh X.K C f)(n:PE X e p)(w:NE e f X.env (Nk e X.env)=Nk e X.env):PE X (.Attribute e f pos) (Iw C p f):=by
 intro ij s y H Q I h;show Ag w (thP (n ij s y H _ I h) λu U x z b A %[a,d,fs,v,ex,B,E,l|q]=>?_);subst ex;obtain rfl:u=m4 a:=A;let%[%[o,vs,G,g,i|j]|_]:=b.hok a _ B;let%[Y,n1|r]:=b.hok d _ E;let%[uv,J|m]:=g9.some_of (l▸r f);let%[od,L|M]:=sV n1;let%[oc,N,O|T]:=o;dsimp only at g i j;subst g i j;show Kb b.kIn %[G,rfl,rfl|L] c (findObj_own c.hd c.no rfl (by rw[M,J])) (sW m) %[v,z,b.tok _,m|q]
structure XIs (K:ZA) (C:kw):Prop where
 ga:Nf K (.ref C) "__getattribute__"=hV (hV (.builtin "BaseException.__getattribute__"))
 hk:Nf K (.ref C) "__getattr__"=hV hH
 sub:RL K (.ref C) (.type "BaseException")∣hX
 hd:PM K C=hX
 cl:Nf K (.ref C) "__class__"=hV (hV (.builtin "object.__class__"))
 gt:Tf K (.builtin "object.__class__") "__get__"=hV (hV (.builtin "getset_descriptor.__get__"))
 tk:takesIn K (.builtin "object.__class__")∣hX
 ob:mroIn K C (.type "object")∣hX
section
#where
variable{K:ZA}{x C:kw}{ox:Ov}{od:lx Ov}
def Kc(X:K.In s.heap)(I:PySem.W.InstAt s.heap x ox C od)(c:XIs K C)(h:Q (hV (.ref C)) {s with toks:=s.toks+1}):↥A (getAttr? (.ref x) "__class__") Q E s:=by
 let a:RZ (Nm prog w) s.heap (P8 (.ref x)) (.ref C):=I.type;let sub:RZ (Nm prog w) s.heap (Sr (.ref x) (.type "BaseException")) hX:=a.andThen (Tv X c.sub);let b:findObj K C od "__class__"=hV (.bind (.builtin "getset_descriptor.__get__") (.builtin "object.__class__")):=by
  let%[g,d|_]:=Re c.hd;unfold findObj;rw[d,R7,c.cl,R7];dsimp only;rw[c.gt,R7];dsimp only;rw[c.tk,R7]
 let f:=looks_find (M:=Nm prog w) X I b;let S:=PySem.F.excAttr_ValueError.ga;unfold getAttr? getAttrBy? getAttrBy;show Z2 (wpAny_mkText (Z2 (NV (v0 (Z2 (a _ _ _ _ (λ_ _ e=>e) (Z2 (SR X c.ga _ _ _ _ (λ_ _ e=>e) ?_))))))));dsimp only;rw[show(UP (m4 C)&&NL "BaseException.__getattribute__"==NL "object.__getattribute__")=hY from by rw[show(NL "BaseException.__getattribute__"==NL "object.__getattribute__")=hY from !0,NC],ku (!1)];show Z2 (looks_hook X (mc:= .ref C) (r:=hH) (c.hk) _ _ _ _ (λ_ _ e=>e) (Z2 (NV (v0 ?_))));unfold XB;rw[show(hY&&UP (NL "BaseException.__getattribute__"))=hY from rfl,ku (!1)];unfold boundAndCalled;rw[S.bind];show Z2 (Z3 ?_);change tI _ _ (call (.builtin "BaseException.__getattribute__") _) _ _ _;show OB ?_;show OD S.plain PySem.F.entry_bexc_ga ?_;show @Wu (Nm prog w) _ _ {s with toks:=s.toks+1} _ "BaseException" "__getattribute__" (.ref x) [.str "__class__" s.toks] [] _ (!0) (!0) sub (PySem.F.args_bexc_ga (.ref x) (.str "__class__" s.toks)) ?_;show Z2 (Z3 (Z2 (Z3 (Z2 (QM a (Z2 (QM f (Z2 (v0 (OB (PySem.W.class_get (ox:=ox) (od:=od) X I c.ob (Z3 (Z3 (Z3 h))))))))))))))
set_option tactic.hygienic true in
def Hk(c:XIs K C):KitX K (.ref x) (.ref C) (λh=>∃ox od,PySem.W.InstAt h x ox C od) where
 ty:=λ_ _ _ %[_,_|I]=>I.type
 it:=λ_ _ X _=>by
  let%[cdD,hcD|_]:=Re c.hd;unfold clsIn at hcD
  split at hcD
  .rename_i c' d' cd' sl' ho
   intro A' Q' E' s' k q;show Z2 (Qu (k _ _ (X _ _ ho)) (Z3 q))
  .cases hcD
 ne:=λh tp dd its n sl X htp=>by
  let%[cdD,hcD|_]:=Re c.hd;show Sc.mpr λq=>?_
  let e:=UT (N8.mp q);subst e;unfold clsIn at hcD
  split at hcD
  .rename_i c' d' cd' sl' ho
   let z:=(X _ _ ho).symm.trans htp;cases z
  .cases hcD
 ca:=λX %[_,_|I] k=>Kc X I c k
end
abbrev Held(H:Hp)(a C:kw):Prop:=∃d,H a∣ExH a C d/\(d=hH\/∃b fs,d∣b/\H b∣.xd fs)
inductive TyX (K:ZA) (H:Hp):V->jg->Prop where
 | non:TyX K H .non (.type "NoneType")
 | ex {a C:kw} (h:Held H a C) (c:XIs K C):TyX K H (.ref a) (.ref C)
section
#version
def TyX.kit(ty:TyX X.K H x t)(I:Qc X ij σ H s)(r:aX x u):∃f:yc->Prop,KitX X.K u t f/\f s.heap/\u≠ .builtin "__main__.__loader__#opaque":=by
 cases ty with
 | non=>
   cases(r);show%[_,kitx_none,M8|λz=>nomatch z]
 | @ex a C h c=>
   cases(r);let%[d,j|l]:=h;let%[%[o,vs,e,g,b|i]|_]:=I.hok a _ j;let%[y,m,n|p]:=o;dsimp only at g b i;subst g b i;show%[_,Hk c,?_|λz=>nomatch z];rcases l with rfl|⟨q,fs,rfl,v⟩
   .show%[_,hH,e,ρ,ρ|trivial]
   .let%[od|w]:=(I.hok q _ v).there;show%[_,hV od,e,ρ,ρ|w]
end
def tY:∀{a:gN kw} {us:ZG},aN (a.map V.ref) us->us=a.map m4
 |[],_,.nil=>rfl
 | _::_,_,.cons r t=>by
   cases r;rw[tY t];rfl
def Ep{X:Cx}:cF X (.builtin "isinstance") (λxs H Q=>∃x y t b,xs=[x,y]/\TyX X.K H x t/\
 ((∃n,y= .ty n/\Ps X.K t (.type n)∣b)\/(∃D,y= .ref D/\Ps X.K t (.ref D)∣b)\/∃c d,y= .ref c/\H c&&&R9 V.ref d/\Ue X.K t (d.map m4)∣b)/\Q (.bl b) H):=by
 intro ij s B H xs us Q I r h;let%[x,y,t,b,rfl,ty,f|q]:=h;let%[u,C,rfl,g|a]:=kK r;let%[E,Z,p|nb]:=ty.kit I g;rcases f with⟨n,rfl,e⟩|⟨D,rfl,e⟩|⟨c,d,rfl,i,e⟩
 .cases(a);show OT Z I.kIn p e nb λtk=>%[.bl b,H,I.tok tk,rfl|q]
 .cases(a);show OT Z I.kIn p e nb λtk=>%[.bl b,H,I.tok tk,rfl|q]
 .cases(a);let%[_,its,j,o,l,m,n|v]:=I.hok c _ i;let:=tY j;subst this;let%[G,w,z|A]:=o;subst m v;show PySem.W.kia_tup Z I.kIn p l e nb λtk=>%[.bl b,H,I.tok tk,rfl|q]
def Kd{X:Cx}{D:kw}(b:Gl X x)(c:X.mg x∣.ref D)(a:(x==("__debug__":kG))=hY):PE X (.Name x p) (λd H Q=>Q (.ref D) H):=λij s d H Q I h=>
 iW I b c %[.ref D,H,I,rfl|h] a
def Fun.okX{P:nX}{K:ZA}{st:Ds}(F:Fun K x b st f g)(S:av N ps (ap st))(len:∀vs H Q E,sp vs H Q E-> ~~~vs= ~~~ps)
 (c:∀(a:jg) (A:vj) (outer:gN Env) (s:md) (H:Hp) (vs:gN V) (Q:VK) (E:XK),bP k (A.deeper (Nz b (ap st) ⇑s f a))->sp vs H Q E->
  ∃t,PSs (gi (CXO P w) P w K mg base N b (ap st) f a A outer s H E) (bR st) t/\t {nx:=λ_ h=>Q .non h,rt:=Q} (start N vs) H):d9 P w K mg base (CXO P w) (k+1) f g ps sp:=by
 let%[m,od,kV,i,n,o,a,ct,j,rfl,lk|d]:=F.ex;show Ij lk d S len λA outer s H vs Q E l e=>c a A outer s H vs Q E l e
abbrev aK(mg:ZC)(x:kG):kw:=match mg x with
 | hV (.ref C)=>C
 | _=>0
def eA(h:mg x∣.ref C):aK mg x=C:=by unfold aK;rw[h]
structure Er (K:ZA) (mg:ZC) (x qual:kG) (st:Ds) (ps:ZB):Prop where
 at_:mg x∣.ref (aK mg x)
 is:XIs K (aK mg x)
 ini:∃f fd,MkX K (aK mg x) f/\Fun K "__init__" qual st f fd/\ee K fd ps []
structure vD (P:nX) (w:wh) (K:ZA) (mg:ZC) (base:yc) (k:iv) (x:kG) (ps:ZB) (sp:Sp):Prop where
 ex:∃f fd,d9 P w K mg base (CXO P w) k f fd ps sp/\mg x∣.ref f/\O5 K (.ref f)=hX/\ee K fd ps []
structure Ke (P:nX) (w:wh) (K:ZA) (mg:ZC) (base:yc) (k:iv) (x:kG) (ps:ZB) (sp:Sp):Prop where
 ex:∃f fd,d9 P w K mg base CX0 k f fd ps sp/\MkX K (aK mg x) f/\mg x∣.ref (aK mg x)/\ee K fd ps []
section
variable{P:nX}{w:wh}{K:ZA}{mg:ZC}{base:yc}{x qual:kG}{st:Ds}{N ps:ZB}{k:iv}{sp:Sp}
def aF.calX(D:aF K mg x st ps)(S:av N ps (ap st))
 (a:∀(H:Hp) (vs:gN V) (Q:VK) (E:XK),sp vs H Q E-> ~~~vs= ~~~ps/\∀(f:kw) (b:jg) (A:vj) (outer:gN Env) (s:md),bP k (A.deeper (Nz x (ap st) ⇑s f b))->
  ∃t,PSs (gi (CXO P w) P w K mg base N x (ap st) f b A outer s H E) (bR st) t/\t {nx:=λ_ c=>Q .non c,rt:=Q} (start N vs) H):vD P w K mg base (k+1) x ps sp:=by
 let%[f,d,F,e|g]:=D.ex;show%[f,d,F.okX S (λv H Q E h=>(a H v Q E h).1) (λb A o s H v Q E r h=>(a H v Q E h).2 f b A o s r),e,F.kp|g]
def Er.cal(D:Er K mg x qual st ps)(S:av N ps (ap st))(len:∀vs H Q E,sp vs H Q E-> ~~~vs= ~~~ps)
 (b:∀(f:kw) (a:jg) (A:vj) (outer:gN Env) (s:md) (H:Hp) (vs:gN V) (Q:VK) (E:XK),exK K (aK mg x) f=hX->bP k (A.deeper (Nz qual (ap st) ⇑s f a))->sp vs H Q E->
  ∃t,PSs (gi CX0 P w K mg base N qual (ap st) f a A outer s H E).nox (bR st) t/\t {nx:=λ_ c=>Q .non c,rt:=Q} (start N vs) H):Ke P w K mg base (k+1) x ps sp:=by
 let%[f,d,M,F|e]:=D.ini;show%[f,d,F.ok S len λa A outer s H vs Q E=>b f a A outer s H vs Q E M.ex,M,D.at_|e]
end
section
variable{X:Cx}{K:ZA}{pos:Pos}
def AA(d:iZ (CXO X.prog X.w) X E)(C:vD X.prog X.w X.K X.mg X.base j x ps sp)(g:bP k X.A)(h:Gl X x)(a:Q0 j k=hX)
 (b:(x==("__debug__":kG))=hY) (c:(e::es).any aS=hY) (i:QA X (e::es) t):QE X (.Call (.Name x p) (e::es) [] pos) (sX sp [] E t):=by
 rw[Zw,X7]at c;let%[f,o,F,l,m|n]:=C.ex;show⟨Am F (g.mono (Yd a)) h l m n .nil d i.h b (aB c.1) (ei c.2)⟩
def Kf(C:Ke X.prog X.w X.K X.mg X.base j x ps sp)(d:bP k X.A)(g:Gl X x)(a:Q0 (j+1) k=hX)
 (b:(x==("__debug__":kG))=hY) (c:(e::es).any aS=hY) (h:QA X (e::es) t):QE X (.Call (.Name x p) (e::es) [] pos) (zw (aK X.mg x) sp t):=by
 rw[Zw,X7]at c;let%[f,m,F,M,i|l]:=C.ex;show⟨Em M F (d.mono (Yd a)) g i l h.h b (aB c.1) (ei c.2)⟩
def clsE(b:Gl X x)(c:X.mg x∣.ref (aK X.mg x))(a:(x==("__debug__":kG))=hY):QE X (.Name x p) (tC (.ref (aK X.mg x))):=⟨Kd b c a⟩
def Kg(a:QE X e b):QE X (.FormattedValue e (-1) hH pos) (J9 b):=⟨Ka a.h⟩
def Es:PJ X [] []:= .nil
def pjE(a:QE X e t)(h:PJ X es ts):PJ X (e::es) (t::ts):= .cons a.h h
def Et{rest:gN zr}(h:PJ X (v1::a::rest) ts):QE X (.JoinedStr (v1::a::rest) pos) (pU ts MQ):=⟨Hf h⟩
def Eu(c:Hh X.K C f)(a:i6 e=hY)(b:QE X e d):QE X (.Attribute e f pos) (Iw C d f):=⟨Hj c b.h (ic a)⟩
def LL(c:J8 X.K C f)(b:h9 e=hY)(d:QE X o g)(h:QE X e i):QS X (.Assign [.Attribute o f a] e pos) (Iv X.K C g i f):=⟨G9 c d.h h.h (jK b)⟩
def Ix(h:X.K=K):b7 X (.builtin "isinstance") (λxs H Q=>∃x y t b,xs=[x,y]/\TyX K H x t/\
 ((∃n,y= .ty n/\Ps K t (.type n)∣b)\/(∃D,y= .ref D/\Ps K t (.ref D)∣b)\/∃a c,y= .ref a/\H a&&&R9 V.ref c/\Ue K t (c.map m4)∣b)/\Q (.bl b) H):=by
 subst h;show⟨Ep⟩
end
def Kh{P:nX}{K:ZA}
 (g:exK K C f=hX) (h:QE (gi (CXO P w) P w K mg base N c b i j A outer s₀ H₀ E) e l):
 QS (gi (CXO P w) P w K mg base N c b i j A outer s₀ H₀ E) (.Raise (hV e) hH pos) (vC C l λa H=>∃d,H a∣ExO a C (hV d)/\H₀ a=hH/\E (.ref C) (hV d) (drop H a)):=⟨B6 g h.h⟩
def Ki{X:Cx}{C D f:kw}(j:exK X.K C f=hX)(l:Gl X x)(m:X.mg x∣.ref D)(B:Ej X.K D)(c:(x==("__debug__":kG))=hY)(g:(e::es).any aS=hY)
 (h:∃pl:Sem re,Nk (.Call (.Attribute (.Name x p) "__init__" b) (e::es) [] pos) X.env=(do
  let i<-Nk (.Name x p) X.env
  Pm b.atName
  let(f,first)<-PY [i] (Rb i "__init__" pl)
  Ui pos f first (NP pos (vi (e::es) X.env)) (PB pos (N4 [] X.env)))) (n:QA X (e::es) t):
 QE X (.Call (.Attribute (.Name x p) "__init__" b) (e::es) [] pos) (tCB (λxs H Q=>∃a d ys,xs=V.ref a::ys/\ ~~~ys<=9/\H a∣ExO a C d/\Q .non H) t):=by
 rw[Zw,X7]at g;let%[pl|h]:=h;show⟨Ek l m B (zv j) n.h c (aB g.1) (ei g.2) h⟩
section
#where
end
abbrev clo(c:TE):TE:=λd H Q=>∃a:VK,c d H a/\∀v b,a v b->Q v b
def Kj{X:Cx}(h:PE X e b):PE X e (clo b):=λij s c H Q I %[d,q|k]=>
 thP (h ij s c H d I q) λ_ _ v a f r z=>%[v,a,f,r|k v a z]
def Kk{X:Cx}(h:PE X e t)(k:∀a H Q,t' a H Q->t a H Q):PE X e t':=λij s a H Q I q=>h ij s a H Q I (k a H Q q)
def Ev(h:H r=hH):drop (Qa H r o) r=H:=by
 funext b;unfold drop Qa
 simp_all
section
end
end _LL
namespace _SB
open PySem PyProof.Rows
section
variable(prog:nX)(w:wh)(A:vj)(SI:md->Prop)
abbrev SC{a:Type}(m:Mi nY Sem a)(Q:a->nY->Prop)(st:nY):Prop:=
 ∀s,SI s->↥A (m.run st) (λr s'=>SI s'/\Q r.1 r.2) (λ_ _=>MO) s
nonrec abbrev ZY:=ow NN
abbrev Cmp(a:Uq)(D:NN->Prop):Prop:=
 ∀x y s,D x->D y->SI s->↥A (keyLt' a x.1 y.1) (λ_ s'=>SI s') (λ_ _=>MO) s
end
section
variable{prog:nX}{w:wh}{A:vj}{SI:md->Prop}{α β:Type}
def ay{st:nY}(h:Q a st):(SC prog w A SI) (pure a) Q st:=λs b=>by
 show Z3 %[b|h]
def au{st:nY}(h:(SC prog w A SI) m (λa b=>(SC prog w A SI) (f a) Q b) st):(SC prog w A SI) (m>>= f) Q st:=λs c=>by
 show Z2 (MZ (h s c) (λr s' h'=>h'.2 s' h'.1) λ_ _ e=>e)
def cQ{st:nY}(h:(SC prog w A SI) m Q st)(c:∀a b,Q a b->d a b):(SC prog w A SI) m d st:=λs f=>
 MZ (h s f) (λr s' h'=>%[h'.1|c _ _ h'.2]) λ_ _ e=>e
def iD{st:nY}(h:Q st st):(SC prog w A SI) get Q st:=λs a=>by
 show Z3 %[a|h]
def dm{st:nY}(h:Q ⟨⟩ (f st)):(SC prog w A SI) (Va f) Q st:=λs a=>by
 show Z3 %[a|h]
def Kl{st:nY}(h:Q ⟨⟩ x):(SC prog w A SI) (set x) Q st:=λs a=>by
 show Z3 %[a|h]
def AB{st:nY}(h:∀s,SI s->↥A m (λa s'=>SI s'/\Q a st) (λ_ _=>MO) s):(SC prog w A SI) (liftM m:Mi nY Sem α) Q st:=λs b=>by
 show Z2 (MZ (h s b) (λa s' h'=>Z3 h') λ_ _ e=>e)
def km{st:nY}(h:Q () st):(SC prog w A SI) (liftM (RN t):Mi nY Sem SW) Q st:=AB λs a=>Oy %[a|h]
def cf{st:nY}(I:iv->β->nY->Prop)(j:a<=b)(p:I a c st)
 (l:∀i x st,a<=i->i<b->I i x st->(SC prog w A SI) (f i x) (λr g=>match r with| .done y=>Q y g| .yield y=>I (i+1) y g) st) (m:∀x st,I b x st->Q x st):(SC prog w A SI) (forIn [a:b] c f) Q st:=by
 let q:∀d i x st,i+d=b->a<=i->I i x st->(SC prog w A SI) (forIn (gN.range' i d 1) x f) Q st:=by
  intro d
  induction d with
  | zero=>
    intro i x st e _ h;subst e;show ay (m x st h)
  | succ d n=>
    intro i x st e o h;rw[gN.range'_succ,Ss];show au (cQ (l i x st o ⋯ h) λr g h'=>?_);cases r with
    | done y=>show ay h'
    | yield y=>show n _ y g ⋯ ⋯ h'
 simp_all
def bp{st:nY}(a:xs[i]?∣x)(h:Q x st):(SC prog w A SI) (Pe xs i) Q st:=by
 rw[elem'_eq,a];show ay h
def wW{st:nY}(c:Cmp prog w A SI (kindOf st) D)(d:D x)(f:D y)(h:∀b,Q (hV b) st):(SC prog w A SI) (lt' x y) Q st:=
 au (iD (au (AB (λs g=>NV (MZ (c x y s d f g) (λb s' a=>%[a|ay (h b)]) λ_ _ e=>e.elim)))))
def Hl{st:nY}(c:Cmp prog w A SI (kindOf st) D)(hi:(sh st)[i]?∣x)(a:(sh st)[j]?∣y)(d:D x)(e:D y)
 (h:∀b,Q (hV b) st):(SC prog w A SI) (WR i j) Q st:=
 au (iD (au (bp hi (au (bp a (wW c d e h))))))
end
abbrev ii:re->NN->ZY->iv->iv->iv->Mi nY Sem (lx iv):=sortPriv% PySem.Builtin.gallop
section
variable{prog:nX}{w:wh}{A:vj}{SI:md->Prop}{α β:Type}
abbrev ga0(left:re)(a:NN)(b:ZY)(base i:iv):Mi nY Sem (lx re):=do
 let x<-Pe b (base+i)
 if left=hX then lt' x a else do
  let y<-lt' a x
  pure (y.map (!·))
abbrev gaM(f:iv->Mi nY Sem (lx re))(x:lx (lx iv)×iv×iv):Mi nY Sem (ri (lx (lx iv)×iv×iv)):=
 if x.2.1>=x.2.2 then pure (.done (hH,x.2.1,x.2.2))else do
  match<-f (x.2.1+(x.2.2-x.2.1)/2)with
  | some w=>if w=hX then pure (.yield (hH,x.2.1+(x.2.2-x.2.1)/2+1,x.2.2))else pure (.yield (hH,x.2.1,x.2.1+(x.2.2-x.2.1)/2))
  | _=>pure (.done (hV hH,x.2.1,x.2.2))
abbrev ga3(f:iv->Mi nY Sem (lx re))(n lo hi:iv):Mi nY Sem (lx iv):=do
 let x<-forIn [0:n] (hH,lo,hi) λ_ x=>gaM f x
 match x.1 with
 | some r=>pure r
 | none=>pure (hV x.2.2)
abbrev ga1(f:iv->Mi nY Sem (lx re))(n hint:iv)(x:lx (lx iv)×iv×iv):Mi nY Sem (ri (lx (lx iv)×iv×iv)):=
 if x.2.2>=n-hint then pure (.done (hH,x.2.1,x.2.2))else do
  match<-f (hint+x.2.2)with
  | some w=>if(!w)=hX then pure (.done (hH,x.2.1,x.2.2))else pure (.yield (hH,x.2.2,2*x.2.2+1))
  | _=>pure (.done (hV hH,x.2.1,x.2.2))
abbrev ga2(f:iv->Mi nY Sem (lx re))(hint:iv)(x:lx (lx iv)×iv×iv):Mi nY Sem (ri (lx (lx iv)×iv×iv)):=
 if x.2.2>=hint+1 then pure (.done (hH,x.2.1,x.2.2))else do
  match<-f (hint-x.2.2)with
  | some w=>if w=hX then pure (.done (hH,x.2.1,x.2.2))else pure (.yield (hH,x.2.2,2*x.2.2+1))
  | _=>pure (.done (hV hH,x.2.1,x.2.2))
set_option smartUnfolding false in
def LM(left:re)(a:NN)(b:ZY)(base n hint:iv):ii left a b base n hint=(do
 match<-ga0 left a b base hint with
 | some w=>
   if w=hX then(do
    let x<-forIn [0:n] (hH,0,1) λ_ x=>ga1 (ga0 left a b base) n hint x
    match x.1 with
    | some r=>pure r
    | none=>ga3 (ga0 left a b base) n (hint+x.2.1+1) (hint+min x.2.2 (n-hint)))
   else(do
    let x<-forIn [0:n] (hH,0,1) λ_ x=>ga2 (ga0 left a b base) hint x
    match x.1 with
    | some r=>pure r
    | none=>ga3 (ga0 left a b base) n (hint+1-min x.2.2 (hint+1)) (hint-x.2.1))
 | _=>pure hH):=rfl
def zx{f:lx (lx iv)×iv×iv->Mi nY Sem (ri (lx (lx iv)×iv×iv))}{g:lx (lx iv)×iv×iv->Mi nY Sem (lx iv)}{n l h:iv}{Q:lx iv->nY->Prop}{st:nY}(P:iv->Prop)(b:P h)
 (c:∀l h (R:ri _->nY->Prop),P h->(∀l h,P h->R (.done (hH,l,h)) st/\R (.yield (hH,l,h)) st)->(SC prog w A SI) (f (hH,l,h)) R st) (d:∀l h,P h->(SC prog w A SI) (g (hH,l,h)) Q st):
 (SC prog w A SI) (do let x<-forIn [0:n] (hH,l,h) λ_ x=>f x;g x) Q st:=by
 show au (cQ (cf (Q:=λx a=>a=st/\∃l h,x=(hH,l,h)/\P h) (λ_ x a=>a=st/\∃l h,x=(hH,l,h)/\P h) (Xe _) %[rfl,_,_,rfl|b] ?_ λ_ _ h=>h) ?_)
 .intro _ _ _ _ _ %[rfl,l,h,rfl|p];show c l h _ p λl h p=>%[%[rfl,_,_,rfl|p],rfl,_,_,rfl|p]
 .intro _ _ %[rfl,l,h,rfl|p];show d l h p
def fS{D:NN->Prop}{left:re}{a:NN}{d:ZY}{base n hint:iv}{Q:lx iv->nY->Prop}{st:nY}(c:Cmp prog w A SI (kindOf st) D)(f:D a)
 (p:∀i,i<n->∃x,d[base+i]?∣x/\D x) (q:hint<n) (h:∀k,k<=n->Q (hV k) st):(SC prog w A SI) (ii left a d base n hint) Q st:=by
 let ask:∀(i:iv) (R:lx re->nY->Prop),i<n->(∀b,R (hV b) st)->(SC prog w A SI) (ga0 left a d base i) R st:=λi R hi g=>by
  let%[x,r|j]:=p i hi;show au (bp r ?_);cases left
  .show au (wW c f j λ_=>ay (g _))
  .show wW c j f g
 let m:∀l o,o<=n->(SC prog w A SI) (ga3 (ga0 left a d base) n l o) Q st:=λl o e=>by
  show zx (·<=n) e (λl o R e k=>?_) λl o e=>ay (h o e)
  unfold gaM;dsimp only
  split
  .show ay (k _ _ e).1
  .show au (ask _ _ ⋯ λb=>?_);cases b
   .show ay (k _ _ ⋯).2
   .show ay (k _ _ e).2
 rw[LM];show au (ask hint _ q λb=>?_);cases b
 .show zx (λ_=>PQ) ⟨⟩ (λl o R _ k=>?_) λl o _=>m _ _ ⋯
  unfold ga2;dsimp only
  split
  .show ay (k _ _ ⟨⟩).1
  .show au (ask _ _ ⋯ λb=>?_);cases b
   .show ay (k _ _ ⟨⟩).2
   .show ay (k _ _ ⟨⟩).1
 .show zx (λ_=>PQ) ⟨⟩ (λl o R _ k=>?_) λl o _=>m _ _ ⋯
  unfold ga1;dsimp only
  split
  .show ay (k _ _ ⟨⟩).1
  .show au (ask _ _ ⋯ λb=>?_);cases b
   .show ay (k _ _ ⟨⟩).1
   .show ay (k _ _ ⟨⟩).2
end
abbrev pV:ZY->ZY->Mi nY Sem ZY:=sortPriv% PySem.Builtin.mergeLo
abbrev pW:ZY->ZY->Mi nY Sem ZY:=sortPriv% PySem.Builtin.mergeHi
abbrev dO:iv->Mi nY Sem SW:=sortPriv% PySem.Builtin.setMinGallop
def iL(g:iv):dO g=Va (λs=>Uz (kindOf s) (sh s) (q7 s) g (N6 s)):=rfl
abbrev eF(a b r:ZY):Prop:=r.toList.Perm (a.toList++b.toList)
abbrev MI(a b out:ZY)(c d:iv):Prop:=(out.toList++(a.toList.drop c++b.toList.drop d)).Perm (a.toList++b.toList)
def gB(a:ZY)(i j:iv):(a.extract i j).toList=(a.toList.drop i).take (j-i):=by
 simp
def oW(a:ZY)(i:iv):(a.extract i a.size).toList=a.toList.drop i:=by
 rw[gB,Zn]
 simp_all
def oX(a:ZY)(i k:iv):(a.extract i (i+k)).toList=(a.toList.drop i).take k:=by
 simp
def MI.takeA{a b out:ZY}{c d:iv}(h:MI a b out c d)(k:iv):MI a b (out++a.extract c (c+k)) (c+k) d:=by
 unfold MI at h ⊢;rw[Xd,oX,Ze,<-Ze _ (a.toList.drop _),<-Xz,Xa];show h
def MI.takeB{a b out:ZY}{d c:iv}(h:MI a b out d c)(k:iv):MI a b (out++b.extract c (c+k)) d (c+k):=by
 unfold MI at h ⊢;show Qr ?_ h;rw[Xd,oX,Ze];show OK _ ?_;show(Oo _ _ _).trans ?_;rw[<-Xz,Xa]
def jb{a:ZY}{i:iv}(h:i<a.size)(out:ZY):out++a.extract i (i+1)=out.push a[i]:=by
 apply ow.ext';rw[Xd,oX,RJ,Zy ↑h];rfl
def MI.done{a b out:ZY}{c d:iv}(h:MI a b out c d):eF a b (out++a.extract c a.size++b.extract d b.size):=by
 unfold eF;rw[Xd,Xd,oW,oW,Ze];show h
def MI.last{a b out:ZY}{c d:iv}(h:MI a b out c d):eF a b (out++b.extract d b.size++a.extract c a.size):=by
 unfold eF;rw[Xd,Xd,oW,oW,Ze];show(OK _ Q5).trans h
abbrev SG(st a:nY):Prop:=kindOf a=kindOf st/\sh a=sh st/\q7 a=q7 st/\N6 a=N6 st
def SG.refl(st:nY):SG st st:=%[rfl,rfl,rfl|rfl]
def SG.set{st a:nY}(h:SG st a)(g:iv):SG st (Uz (kindOf a) (sh a) (q7 a) g (N6 a)):=h
def SG.trans{s t u:nY}(h:SG s t)(k:SG t u):SG s u:=%[k.1.trans h.1,k.2.1.trans h.2.1,k.2.2.1.trans h.2.2.1|k.2.2.2.trans h.2.2.2]
structure LC (prog:nX) (w:wh) (A:vj) (SI:md->Prop) (D:NN->Prop) (a b:ZY) (st:nY):Prop where
 c:Cmp prog w A SI (kindOf st) D
 DA:∀{i:iv} (hi:i<a.size),a[i]?∣a[i]/\D a[i]
 DB:∀{i:iv} (hi:i<b.size),b[i]?∣b[i]/\D b[i]
def LC.of{prog:nX}{w:wh}{A:vj}{d:md->Prop}{D:NN->Prop}{a b:ZY}{s t:nY}(C:LC prog w A d D a b s)(h:SG s t):LC prog w A d D a b t:={C with c:=h.1▸C.c}
section
variable{prog:nX}{w:wh}{A:vj}{SI:md->Prop}{α β:Type}
structure ML (a b out:ZY) (ia ib:iv):Prop where
 mi:MI a b out ia ib
 na:ia+1<a.size
 nb:ib<b.size
abbrev lo3(a b out:ZY)(c d g k k1:iv):Mi nY Sem (ri (lx ZY×ZY×iv×iv×iv×iv×iv)):=Pe a c>>= λe=>if(c+1+1==a.size)=hX then pure (.done (hV (out.push e++b.extract d b.size++a.extract (c+1) a.size),out.push e,c+1,d,g,k,k1))else if(decide (k<7)&&decide (k1<7))=hX then pure (.done (hH,out.push e,c+1,d,g,k,k1))else pure (.yield (hH,out.push e,c+1,d,g,k,k1))
abbrev lo2(a b out:ZY)(d c g k f:iv):Mi nY Sem (ri (lx ZY×ZY×iv×iv×iv×iv×iv)):=Pe b c>>= λe=>if(c+1==b.size)=hX then pure (.done (hV (out.push e++a.extract d a.size++b.extract (c+1) b.size),out.push e,d,c+1,g,k,f))else Pe a d>>= λh=>ii hX h b (c+1) (b.size-(c+1)) 0>>= fun|some k1=>if k1>0 then if(c+1+k1==b.size)=hX then pure (.done (hV (out.push e++b.extract (c+1) (c+1+k1) ++a.extract d a.size++b.extract (c+1+k1) b.size),out.push e++b.extract (c+1) (c+1+k1),d,c+1+k1,g,k,k1))else lo3 a b (out.push e++b.extract (c+1) (c+1+k1)) d (c+1+k1) g k k1 else lo3 a b (out.push e) d (c+1) g k k1|_=>pure (.done (hV (out.push e++a.extract d a.size++b.extract (c+1) b.size),out.push e,d,c+1,g,k,f))
abbrev lo1(a b out:ZY)(c d h f g:iv):Mi nY Sem (ri (lx ZY×ZY×iv×iv×iv×iv×iv)):=dO g>>= λ_=>Pe b d>>= λe=>ii hY e a c (a.size-c) 0>>= fun|some k=>if k>0 then if(c+k+1==a.size)=hX then pure (.done (hV (out++a.extract c (c+k) ++b.extract d b.size++a.extract (c+k) a.size),out++a.extract c (c+k),c+k,d,g,k,f))else if(c+k==a.size)=hX then pure (.done (hV (out++a.extract c (c+k) ++a.extract (c+k) a.size++b.extract d b.size),out++a.extract c (c+k),c+k,d,g,k,f))else lo2 a b (out++a.extract c (c+k)) (c+k) d g k f else lo2 a b out c d g k f|_=>pure (.done (hV (out++a.extract c a.size++b.extract d b.size),out,c,d,g,h,f))
abbrev loI(a b out:ZY)(c d g f h:iv):Mi nY Sem (ri (lx ZY×ZY×iv×iv×iv×iv)):=Pe b d>>= λi=>Pe a c>>= λj=>lt' i j>>= fun|some w=>if w=hX then(Pe b d>>= λe=>if(d+1==b.size)=hX then pure (.done (hV (out.push e++a.extract c a.size++b.extract (d+1) b.size),out.push e,c,d+1,0,h+1))else if h+1>=g then pure (.done (hH,out.push e,c,d+1,0,h+1))else pure (.yield (hH,out.push e,c,d+1,0,h+1)))else(Pe a c>>= λe=>if(c+1+1==a.size)=hX then pure (.done (hV (out.push e++b.extract d b.size++a.extract (c+1) a.size),out.push e,c+1,d,f+1,0))else if f+1>=g then pure (.done (hH,out.push e,c+1,d,f+1,0))else pure (.yield (hH,out.push e,c+1,d,f+1,0)))|_=>pure (.done (hV (out++a.extract c a.size++b.extract d b.size),out,c,d,f,h))
abbrev loG(a b:ZY):lx ZY×ZY×iv×iv×iv×iv×iv->Mi nY Sem (ri (lx ZY×ZY×iv×iv×iv×iv×iv)):=λx=>
 if x.2.2.2.2.1>1 then lo1 a b x.2.1 x.2.2.1 x.2.2.2.1 x.2.2.2.2.2.1 x.2.2.2.2.2.2 (x.2.2.2.2.1-1)else lo1 a b x.2.1 x.2.2.1 x.2.2.2.1 x.2.2.2.2.2.1 x.2.2.2.2.2.2 x.2.2.2.2.1
abbrev loE(x:lx ZY×ZY×iv×iv×iv×iv×iv):Mi nY Sem (ri (lx ZY×ZY×iv×iv×iv)):=
 match x.1 with
 | some r=>pure (.done (hV r,x.2.1,x.2.2.1,x.2.2.2.1,x.2.2.2.2.1))
 | none=>do
   dO (x.2.2.2.2.1+1)
   pure (.yield (hH,x.2.1,x.2.2.1,x.2.2.2.1,x.2.2.2.2.1+1))
abbrev loF(a b:ZY)(g:iv)(x:lx ZY×ZY×iv×iv×iv×iv):Mi nY Sem (ri (lx ZY×ZY×iv×iv×iv)):=
 match x.1 with
 | some r=>pure (.done (hV r,x.2.1,x.2.2.1,x.2.2.2.1,g))
 | none=>do
   RN "list.sort.gallop"
   let x<-forIn [0:a.size+b.size] (hH,x.2.1,x.2.2.1,x.2.2.2.1,g+1,x.2.2.2.2.1,x.2.2.2.2.2) λ_ x=>loG a b x
   loE x
abbrev loO(a b:ZY):lx ZY×ZY×iv×iv×iv->Mi nY Sem (ri (lx ZY×ZY×iv×iv×iv)):=λx=>do
 let y<-forIn [0:a.size+b.size] (hH,x.2.1,x.2.2.1,x.2.2.2.1,0,0) λ_ y=>loI a b y.2.1 y.2.2.1 y.2.2.2.1 x.2.2.2.2 y.2.2.2.2.1 y.2.2.2.2.2
 loF a b x.2.2.2.2 y
abbrev loR(x:lx ZY×ZY×iv×iv×iv):Mi nY Sem ZY:=
 match x.1 with
 | some r=>pure r
 | none=>P6 "internal:list.sort.merge-bound"
set_option smartUnfolding false in
def LN(a b:ZY):pV a b=(do
 RN "list.sort.merge-lo"
 let e<-Pe b 0
 if(1==b.size)=hX then pure (#[e] ++a.extract 0 a.size++b.extract 1 b.size)
 else if(0+1==a.size)=hX then pure (#[e] ++b.extract 1 b.size++a.extract 0 a.size)
 else do
  let s<-get
  let x<-forIn [0:a.size+b.size] (hH,#[e],0,1,gallopOf s) λ_ x=>loO a b x
  loR x):=by
 rfl
variable{D:NN->Prop}{a b out:ZY}{ia ib g k bc z:iv}{st:nY}
def aW{m n:iv}(h: ¬(m==n)=hX):m≠n:=λe=>h (by simp[e])
def Ew{k1:iv}{R:ri _->nY->Prop}(C:LC prog w A SI D a b st)(m:ML a b out ia ib)(d:z<=out.size+1)
 (e:∀r o,eF a b r->R (.done (hV r,o)) st) (f:∀out ia ib g k k1,ML a b out ia ib->z<=out.size->R (.done (hH,out,ia,ib,g,k,k1)) st/\R (.yield (hH,out,ia,ib,g,k,k1)) st):(SC prog w A SI) (lo3 a b out ia ib g k k1) R st:=by
 let na:=m.na;show au (bp (C.DA ⋯).1 ?_);let c:=m.mi.takeA 1;rw[jb ⋯]at c
 split
 .show ay (e _ _ c.last)
 .rename_i q
  let q:=aW q;let h:=f _ _ _ g k k1 %[c,⋯|m.nb] (by rw[Xi];show d)
  split
  .show ay h.1
  .show ay h.2
def Ex{R:ri (lx ZY×ZY×iv×iv×iv×iv×iv)->nY->Prop}(C:LC prog w A SI D a b st)(m:ML a b out ia ib)(p:z<=out.size+2)
 (c:∀r o,eF a b r->R (.done (hV r,o)) st) (e:∀out ia ib g k k1,ML a b out ia ib->z<=out.size->R (.done (hH,out,ia,ib,g,k,k1)) st/\R (.yield (hH,out,ia,ib,g,k,k1)) st):(SC prog w A SI) (lo2 a b out ia ib g k bc) R st:=by
 let%[l,na|nb]:=m;show au (bp (C.DB nb).1 ?_);let d:=l.takeB 1;rw[jb nb]at d
 split
 .show ay (c _ _ d.done)
 .rename_i q
  let q:=aW q;let f:=C.DA (show ia<_ by lia);show au (bp f.1 (au (fS C.c f.2 (λi hi=>%[_|C.DB ⋯]) ⋯ λk2 n=>?_)));dsimp only
  split
  .let h:=d.takeB k2
   split
   .show ay (c _ _ h.done)
   .rename_i j
    let j:=aW j;show Ew C %[h,na|⋯] (by simp;lia) c e
  .show Ew C %[d,na|⋯] (by rw[Xi];lia) c e
def Km{l:iv}{R:ri (lx ZY×ZY×iv×iv×iv×iv×iv)->nY->Prop}(C:LC prog w A SI D a b st)(m:ML a b out ia ib)(n:z<=out.size+2)
 (d:∀c r o,SG st c->eF a b r->R (.done (hV r,o)) c) (e:∀c out ia ib g k k1,SG st c->ML a b out ia ib->z<=out.size->R (.done (hH,out,ia,ib,g,k,k1)) c/\R (.yield (hH,out,ia,ib,g,k,k1)) c):(SC prog w A SI) (lo1 a b out ia ib l bc g) R st:=by
 let na:=m.na;let f:=C.DB m.nb;unfold lo1;rw[iL];show au (dm ?_);let sg:=(SG.refl st).set g;let d:=λr o=>d _ r o sg
 let e:=λout ia ib g k k1=>e _ out ia ib g k k1 sg
 let C:=C.of sg;show au (bp f.1 (au (fS C.c f.2 (λi hi=>%[_|C.DA ⋯]) ⋯ λk p=>?_)));dsimp only
 split
 .let mk:=m.mi.takeA k
  split
  .show ay (d _ _ mk.last)
  .rename_i h
   let h:=aW h
   split
   .show ay (d _ _ mk.done)
   .rename_i j
    let j:=aW j;show Ex C %[mk,⋯|m.nb] (by simp;lia) d e
 .show Ex C m n d e
def Kn{c:iv}{R:ri (lx ZY×ZY×iv×iv×iv×iv)->nY->Prop}(C:LC prog w A SI D a b st)(m:ML a b out ia ib)(f:z<=out.size+1)
 (i:∀r o,eF a b r->R (.done (hV r,o)) st) (j:∀out ia ib c bc,ML a b out ia ib->z<=out.size->R (.done (hH,out,ia,ib,c,bc)) st/\R (.yield (hH,out,ia,ib,c,bc)) st):(SC prog w A SI) (loI a b out ia ib g c bc) R st:=by
 let%[l,na|nb]:=m;let d:=C.DA (show ia<_ by lia);let e:=C.DB nb;show au (bp e.1 (au (bp d.1 (au (wW C.c e.2 d.2 λ_=>?_)))));dsimp only
 split
 .show au (bp e.1 ?_);let m2:=l.takeB 1;rw[jb nb]at m2
  split
  .show ay (i _ _ m2.done)
  .rename_i q
   let q:=aW q;let h:=j _ _ _ 0 (bc+1) %[m2,na|⋯] (by rw[Xi];show f)
   split
   .show ay h.1
   .show ay h.2
 .show au (bp d.1 ?_);let m2:=l.takeA 1;rw[jb ⋯]at m2
  split
  .show ay (i _ _ m2.last)
  .rename_i q
   let q:=aW q;let h:=j _ _ _ (c+1) 0 %[m2,⋯|nb] (by rw[Xi];show f)
   split
   .show ay h.1
   .show ay h.2
def Ko{j:iv}{q:lx ZY}{R:ri (lx ZY×ZY×iv×iv×iv)->nY->Prop}(C:LC prog w A SI D a b st)(m:ML a b out ia ib)(e:j+1<=out.size)
 (p:∀d r o,SG st d->eF a b r->R (.done (hV r,o)) d) (s:∀d out ia ib g,SG st d->ML a b out ia ib->j+2<=out.size->R (.yield (hH,out,ia,ib,g)) d):(SC prog w A SI) (loO a b (q,out,ia,ib,g)) R st:=by
 let u:=m.na;show au (cQ (cf (Q:=λx d=>SG st d/\((∃r o,x=(hV r,o)/\eF a b r)\/∃out ia ib f bc,x=(hH,out,ia,ib,f,bc)/\ML a b out ia ib/\j+2<=out.size))
  (λj2 x d=>SG st d/\∃out ia ib f bc,x=(hH,out,ia,ib,f,bc)/\ML a b out ia ib/\j+1+j2<=out.size) (Xe _) %[SG.refl _,_,_,_,_,_,rfl,m|e] ?_ ?_) ?_)
 .intro j2 x i _ l %[c,out,ia,ib,f,bc,rfl,m|e];show Kn (C.of c) m ⋯ (λr o h=>%[c|.inl %[r,o,rfl|h]]) λout ia ib f bc h z=>%[%[c|.inr %[_,_,_,_,_,rfl,h|⋯]],c,_,_,_,_,_,rfl,h|z]
 .intro x i %[c,out,ia,ib,f,bc,rfl,m|e];show%[c|.inr %[_,_,_,_,_,ρ,m|⋯]]
 .rintro x i ⟨c,⟨r,o,rfl,n⟩|⟨out,ia,ib,f,bc,rfl,m,e⟩⟩
  .show ay (p _ r _ c n)
  .show au (km ?_);show au (cQ (cf (Q:=λx d=>SG st d/\((∃r o,x=(hV r,o)/\eF a b r)\/∃out ia ib g f bc,x=(hH,out,ia,ib,g,f,bc)/\ML a b out ia ib/\j+2<=out.size))
    (λj2 x d=>SG st d/\∃out ia ib g f bc,x=(hH,out,ia,ib,g,f,bc)/\ML a b out ia ib/\j+2<=out.size) (Xe _) %[c,_,_,_,_,_,_,rfl,m|e] ?_ ?_) ?_)
   .intro j2 x i _ l %[c,out,ia,ib,g,f,bc,rfl,m|e];unfold loG;rw[<-apply_ite _];show Km (C.of c) m ⋯ (λd r o sg h=>%[SG.trans c sg|.inl %[r,o,rfl|h]]) λd out ia ib g k k1 sg h z=>%[%[SG.trans c sg|.inr %[_,_,_,_,_,_,rfl,h|z]],SG.trans c sg,_,_,_,_,_,_,rfl,h|z]
   .simp_all
   .rintro x i ⟨c,⟨r,o,rfl,n⟩|⟨out,ia,ib,g,f,bc,rfl,m,e⟩⟩
    .show ay (p _ r _ c n)
    .show au (dm (ay (s _ _ _ _ _ (c.set _) m e)))
def zy{Q:ZY->nY->Prop}(C:LC prog w A SI D a b st)(v:1<=a.size)(l:1<=b.size)(h:∀r c,SG st c->eF a b r->Q r c):(SC prog w A SI) (pV a b) Q st:=by
 rw[LN];show au (km (au (bp (C.DB l).1 ?_)));let i:=(show MI a b #[] 0 0 from Nw _).takeB 1;rw[jb l]at i
 split
 .show ay (h _ st (SG.refl _) i.done)
 rename_i n
 let n:=aW n
 split
 .show ay (h _ st (SG.refl _) i.last)
 rename_i p
 let p:=aW p;show au (iD ?_);show au (cQ (cf (Q:=λx c=>SG st c/\∃r,x.1∣r/\eF a b r)
  (λj x c=>SG st c/\∃out ia ib g,x=(hH,out,ia,ib,g)/\ML a b out ia ib/\j+1<=out.size) (Xe _) %[SG.refl _,_,_,_,_,rfl,%[i,⋯|⋯]|Zi _] ?_ ?_) ?_)
 .intro j x d _ y %[sg,out,ia,ib,g,rfl,m|f];show Ko (C.of sg) m f (λc r o e h=>%[SG.trans sg e,r,rfl|h]) λc out ia ib g e h z=>%[SG.trans sg e,_,_,_,_,rfl,h|z]
 .intro x d %[sg,out,ia,ib,g,rfl,m|f];let:=m.na;let q:=m.mi.length_eq;simp only[Z9,Zb,Yg]at q
  lia
 .rintro⟨B,x2⟩ d ⟨sg,r,s,u⟩;subst s;show ay (h r d sg u)
end
abbrev MH(a b out:ZY)(na nb:iv):Prop:=(b.toList.take nb++(a.toList.take na++out.reverse.toList)).Perm (a.toList++b.toList)
def AC(a out:ZY){k n:iv}(h:k<=n):a.toList.take k++(out++(a.extract k n).reverse).reverse.toList=a.toList.take n++out.reverse.toList:=by
 rw[ow.reverse_append,ow.reverse_reverse,Xd,gB,<-Ze,<-gN.take_add,iv.add_sub_cancel' h]
def MH.takeA{a b out:ZY}{na nb k:iv}(h:MH a b out na nb)(c:k<=na):MH a b (out++(a.extract k na).reverse) k nb:=by
 unfold MH;rw[AC _ _ c];show h
def MH.takeB{a b out:ZY}{na nb k:iv}(h:MH a b out na nb)(c:k<=nb):MH a b (out++(b.extract k nb).reverse) na k:=by
 show(Oo _ _ _).trans ?_;rw[AC _ _ c];show(Oo _ _ _).trans h
def jQ{a:ZY}{i:iv}(h:i<a.size)(out:ZY):out++(a.extract i (i+1)).reverse=out.push a[i]:=by
 rw[<-jb h,<-ow.empty_append (xs:=a.extract i (i+1)),jb h];rfl
def MH.first{a b out:ZY}{na nb:iv}(h:MH a b out na nb):eF a b (b.extract 0 nb++a.extract 0 na++out.reverse):=by
 unfold eF;rw[Xd,Xd,gB,gB,Ze];show h
def MH.done{a b out:ZY}{na nb:iv}(h:MH a b out na nb):eF a b (a.extract 0 na++b.extract 0 nb++out.reverse):=by
 unfold eF;rw[Xd,Xd,gB,gB,Ze];show(Oo _ _ _).trans h
section
variable{prog:nX}{w:wh}{A:vj}{SI:md->Prop}{α β:Type}
structure MHS (a b out:ZY) (na nb:iv):Prop where
 mh:MH a b out na nb
 pa:1<=na
 pb:2<=nb
 ma:na<=a.size
 mb:nb<=b.size
abbrev hi3(a b:ZY)(na nb:iv)(out:ZY)(g k k1:iv):Mi nY Sem (ri (lx ZY×iv×iv×ZY×iv×iv×iv)):=Pe a (na-1)>>= λe=>if(na-1==0)=hX then pure (.done (hV (a.extract 0 (na-1) ++b.extract 0 nb++(out.push e).reverse),na-1,nb,out.push e,g,k,k1))else if(decide (k<7)&&decide (k1<7))=hX then pure (.done (hH,na-1,nb,out.push e,g,k,k1))else pure (.yield (hH,na-1,nb,out.push e,g,k,k1))
abbrev hi2(a b:ZY)(na nb:iv)(out:ZY)(g k c:iv):Mi nY Sem (ri (lx ZY×iv×iv×ZY×iv×iv×iv)):=Pe b (nb-1)>>= λe=>if(nb-1==1)=hX then pure (.done (hV (b.extract 0 (nb-1) ++a.extract 0 na++(out.push e).reverse),na,nb-1,out.push e,g,k,c))else Pe a (na-1)>>= λd=>ii hX d b 0 (nb-1) (nb-1-1)>>= fun|some k1=>if nb-1-k1>0 then if(k1==1)=hX then pure (.done (hV (b.extract 0 k1++a.extract 0 na++(out.push e++(b.extract k1 (nb-1)).reverse).reverse),na,k1,out.push e++(b.extract k1 (nb-1)).reverse,g,k,nb-1-k1))else if(k1==0)=hX then pure (.done (hV (a.extract 0 na++b.extract 0 k1++(out.push e++(b.extract k1 (nb-1)).reverse).reverse),na,k1,out.push e++(b.extract k1 (nb-1)).reverse,g,k,nb-1-k1))else hi3 a b na k1 (out.push e++(b.extract k1 (nb-1)).reverse) g k (nb-1-k1)else hi3 a b na (nb-1) (out.push e) g k (nb-1-k1)|_=>pure (.done (hV (a.extract 0 na++b.extract 0 (nb-1) ++(out.push e).reverse),na,nb-1,out.push e,g,k,c))
abbrev hi1(a b:ZY)(na nb:iv)(out:ZY)(d c g:iv):Mi nY Sem (ri (lx ZY×iv×iv×ZY×iv×iv×iv)):=dO g>>= λ_=>Pe b (nb-1)>>= λe=>ii hY e a 0 na (na-1)>>= fun|some k=>if na-k>0 then if(k==0)=hX then pure (.done (hV (a.extract 0 k++b.extract 0 nb++(out++(a.extract k na).reverse).reverse),k,nb,out++(a.extract k na).reverse,g,na-k,c))else hi2 a b k nb (out++(a.extract k na).reverse) g (na-k) c else hi2 a b na nb out g (na-k) c|_=>pure (.done (hV (a.extract 0 na++b.extract 0 nb++out.reverse),na,nb,out,g,d,c))
abbrev hiI(a b:ZY)(na nb:iv)(out:ZY)(g c d:iv):Mi nY Sem (ri (lx ZY×iv×iv×ZY×iv×iv)):=Pe b (nb-1)>>= λf=>Pe a (na-1)>>= λh=>lt' f h>>= fun|some w=>if w=hX then(Pe a (na-1)>>= λe=>if(na-1==0)=hX then pure (.done (hV (a.extract 0 (na-1) ++b.extract 0 nb++(out.push e).reverse),na-1,nb,out.push e,c+1,0))else if c+1>=g then pure (.done (hH,na-1,nb,out.push e,c+1,0))else pure (.yield (hH,na-1,nb,out.push e,c+1,0)))else(Pe b (nb-1)>>= λe=>if(nb-1==1)=hX then pure (.done (hV (b.extract 0 (nb-1) ++a.extract 0 na++(out.push e).reverse),na,nb-1,out.push e,0,d+1))else if d+1>=g then pure (.done (hH,na,nb-1,out.push e,0,d+1))else pure (.yield (hH,na,nb-1,out.push e,0,d+1)))|_=>pure (.done (hV (a.extract 0 na++b.extract 0 nb++out.reverse),na,nb,out,c,d))
abbrev hiG(a b:ZY)(x:lx ZY×iv×iv×ZY×iv×iv×iv):Mi nY Sem (ri (lx ZY×iv×iv×ZY×iv×iv×iv)):=
 if x.2.2.2.2.1>1 then hi1 a b x.2.1 x.2.2.1 x.2.2.2.1 x.2.2.2.2.2.1 x.2.2.2.2.2.2 (x.2.2.2.2.1-1)else hi1 a b x.2.1 x.2.2.1 x.2.2.2.1 x.2.2.2.2.2.1 x.2.2.2.2.2.2 x.2.2.2.2.1
abbrev hiE(x:lx ZY×iv×iv×ZY×iv×iv×iv):Mi nY Sem (ri (lx ZY×iv×iv×ZY×iv)):=
 match x.1 with
 | some r=>pure (.done (hV r,x.2.1,x.2.2.1,x.2.2.2.1,x.2.2.2.2.1))
 | none=>do
   dO (x.2.2.2.2.1+1)
   pure (.yield (hH,x.2.1,x.2.2.1,x.2.2.2.1,x.2.2.2.2.1+1))
abbrev hiF(a b:ZY)(g:iv)(x:lx ZY×iv×iv×ZY×iv×iv):Mi nY Sem (ri (lx ZY×iv×iv×ZY×iv)):=
 match x.1 with
 | some r=>pure (.done (hV r,x.2.1,x.2.2.1,x.2.2.2.1,g))
 | none=>do
   RN "list.sort.gallop"
   let x<-forIn [0:a.size+b.size] (hH,x.2.1,x.2.2.1,x.2.2.2.1,g+1,x.2.2.2.2.1,x.2.2.2.2.2) λ_ x=>hiG a b x
   hiE x
abbrev hiO(a b:ZY)(x:lx ZY×iv×iv×ZY×iv):Mi nY Sem (ri (lx ZY×iv×iv×ZY×iv)):=do
 let y<-forIn [0:a.size+b.size] (hH,x.2.1,x.2.2.1,x.2.2.2.1,0,0) λ_ y=>hiI a b y.2.1 y.2.2.1 y.2.2.2.1 x.2.2.2.2 y.2.2.2.2.1 y.2.2.2.2.2
 hiF a b x.2.2.2.2 y
abbrev hiR(x:lx ZY×iv×iv×ZY×iv):Mi nY Sem ZY:=
 match x.1 with
 | some r=>pure r
 | none=>P6 "internal:list.sort.merge-bound"
set_option smartUnfolding false in
def LP(a b:ZY):pW a b=(do
 RN "list.sort.merge-hi"
 let e<-Pe a (a.size-1)
 if(a.size-1==0)=hX then pure (a.extract 0 (a.size-1) ++b.extract 0 b.size++ #[e].reverse)
 else if(b.size==1)=hX then pure (b.extract 0 b.size++a.extract 0 (a.size-1) ++ #[e].reverse)
 else do
  let s<-get
  let x<-forIn [0:a.size+b.size] (hH,a.size-1,b.size,#[e],gallopOf s) λ_ x=>hiO a b x
  hiR x):=by
 rfl
variable{D:NN->Prop}{a b out:ZY}{na nb g k bc z:iv}{st:nY}
def Ey{k1:iv}{R:ri _->nY->Prop}(C:LC prog w A SI D a b st)(m:MHS a b out (na+1) nb)(d:z<=out.size+1)
 (e:∀r o,eF a b r->R (.done (hV r,o)) st) (f:∀na nb out g k k1,MHS a b out na nb->z<=out.size->R (.done (hH,na,nb,out,g,k,k1)) st/\R (.yield (hH,na,nb,out,g,k,k1)) st):(SC prog w A SI) (hi3 a b (na+1) nb out g k k1) R st:=by
 let%[j,p,l,s|n]:=m;show au (bp (C.DA (i:=na) ⋯).1 ?_);let c:=j.takeA (Yf na);rw[jQ ⋯]at c
 split
 .show ay (e _ _ c.done)
 rename_i q
 let q:=aW q;let h:=f _ _ _ g k k1 %[c,⋯,l,⋯|n] (by rw[Xi];show d)
 split
 .show ay h.1
 .show ay h.2
def Ez{R:ri (lx ZY×iv×iv×ZY×iv×iv×iv)->nY->Prop}(C:LC prog w A SI D a b st)(m:MHS a b out (na+1) (nb+1))(v:z<=out.size+2)
 (c:∀r o,eF a b r->R (.done (hV r,o)) st) (h:∀na nb out g k k1,MHS a b out na nb->z<=out.size->R (.done (hH,na,nb,out,g,k,k1)) st/\R (.yield (hH,na,nb,out,g,k,k1)) st):(SC prog w A SI) (hi2 a b (na+1) (nb+1) out g k bc) R st:=by
 let%[u,j,y,l|B]:=m;let n:=C.DA (i:=na) ⋯;unfold hi2;rw[QD,QD];show au (bp (C.DB (i:=nb) ⋯).1 ?_);let d:=u.takeB (Yf nb);rw[jQ ⋯]at d
 split
 .show ay (c _ _ d.first)
 rename_i q
 let q:=aW q;show au (bp n.1 (au (fS C.c n.2 (λi hi=>%[_|C.DB ⋯]) ⋯ λk2 e=>?_)));dsimp only;let f:=d.takeB e
 split
 .split
  .show ay (c _ _ f.first)
  rename_i p
  let p:=aW p
  split
  .show ay (c _ _ f.done)
  rename_i s
  let s:=aW s;show Ey C %[f,j,⋯,l|⋯] (by simp;lia) c h
 .show Ey C %[d,j,⋯,l|⋯] (by rw[Xi];lia) c h
def Kq{p:iv}{R:ri (lx ZY×iv×iv×ZY×iv×iv×iv)->nY->Prop}(C:LC prog w A SI D a b st)(m:MHS a b out na nb)(s:z<=out.size+2)
 (d:∀c r o,SG st c->eF a b r->R (.done (hV r,o)) c) (e:∀c na nb out g k k1,SG st c->MHS a b out na nb->z<=out.size->R (.done (hH,na,nb,out,g,k,k1)) c/\R (.yield (hH,na,nb,out,g,k,k1)) c):(SC prog w A SI) (hi1 a b na nb out p bc g) R st:=by
 let%[f,u,h,v|j]:=m;obtain⟨nb,rfl⟩:∃n,nb=n+1:=%[nb-1|⋯]
 let l:=C.DB (i:=nb) ⋯;unfold hi1;rw[QD,iL];show au (dm ?_);let sg:=(SG.refl st).set g;let d:=λr o=>d _ r o sg
 let e:=λna nb out g k k1=>e _ na nb out g k k1 sg
 let C:=C.of sg;show au (bp l.1 (au (fS C.c l.2 (λi hi=>%[_|C.DA ⋯]) ⋯ λk y=>?_)));dsimp only
 split
 .let mk:=f.takeA y
  split
  .show ay (d _ _ mk.done)
  rename_i q
  let q:=aW q;obtain⟨k,rfl⟩:∃n,k=n+1:=%[k-1|⋯]
  show Ez C %[mk,⋯,h,⋯|j] (by simp;lia) d e
 .obtain⟨na,rfl⟩:∃n,na=n+1:=%[na-1|⋯]
  show Ez C %[f,u,h,v|j] s d e
def Kr{c:iv}{R:ri (lx ZY×iv×iv×ZY×iv×iv)->nY->Prop}(C:LC prog w A SI D a b st)(m:MHS a b out na nb)(f:z<=out.size+1)
 (j:∀r o,eF a b r->R (.done (hV r,o)) st) (l:∀na nb out c bc,MHS a b out na nb->z<=out.size->R (.done (hH,na,nb,out,c,bc)) st/\R (.yield (hH,na,nb,out,c,bc)) st):(SC prog w A SI) (hiI a b na nb out g c bc) R st:=by
 let%[p,s,u,v|y]:=m;obtain⟨na,rfl⟩:∃n,na=n+1:=%[na-1|⋯]
 obtain⟨nb,rfl⟩:∃n,nb=n+1:=%[nb-1|⋯]
 let d:=C.DA (i:=na) ⋯;let e:=C.DB (i:=nb) ⋯;unfold hiI;rw[QD,QD];show au (bp e.1 (au (bp d.1 (au (wW C.c e.2 d.2 λ_=>?_)))));dsimp only
 split
 .show au (bp d.1 ?_);let m2:=p.takeA (Yf na);rw[jQ ⋯]at m2
  split
  .show ay (j _ _ m2.done)
  rename_i q
  let q:=aW q;let h:=l _ _ _ (c+1) 0 %[m2,⋯,u,⋯|y] (by rw[Xi];show f)
  split
  .show ay h.1
  .show ay h.2
 .show au (bp e.1 ?_);let m2:=p.takeB (Yf nb);rw[jQ ⋯]at m2
  split
  .show ay (j _ _ m2.first)
  rename_i q
  let q:=aW q;let h:=l _ _ _ 0 (bc+1) %[m2,s,⋯,v|⋯] (by rw[Xi];show f)
  split
  .show ay h.1
  .show ay h.2
def Ks{j:iv}{q:lx ZY}{R:ri (lx ZY×iv×iv×ZY×iv)->nY->Prop}(C:LC prog w A SI D a b st)(m:MHS a b out na nb)(e:j+1<=out.size)
 (p:∀d r o,SG st d->eF a b r->R (.done (hV r,o)) d) (s:∀d na nb out g,SG st d->MHS a b out na nb->j+2<=out.size->R (.yield (hH,na,nb,out,g)) d):(SC prog w A SI) (hiO a b (q,na,nb,out,g)) R st:=by
 let u:=m.pa;let v:=m.ma;show au (cQ (cf (Q:=λx d=>SG st d/\((∃r o,x=(hV r,o)/\eF a b r)\/∃na nb out f bc,x=(hH,na,nb,out,f,bc)/\MHS a b out na nb/\j+2<=out.size))
  (λj2 x d=>SG st d/\∃na nb out f bc,x=(hH,na,nb,out,f,bc)/\MHS a b out na nb/\j+1+j2<=out.size) (Xe _) %[SG.refl _,_,_,_,_,_,rfl,m|e] ?_ ?_) ?_)
 .intro j2 x i _ l %[c,na,nb,out,f,bc,rfl,m|e];show Kr (C.of c) m ⋯ (λr o h=>%[c|.inl %[r,o,rfl|h]]) λna nb out f bc h z=>%[%[c|.inr %[_,_,_,_,_,rfl,h|⋯]],c,_,_,_,_,_,rfl,h|z]
 .intro x i %[c,na,nb,out,f,bc,rfl,m|e];show%[c|.inr %[_,_,_,_,_,ρ,m|⋯]]
 .rintro x i ⟨c,⟨r,o,rfl,n⟩|⟨na,nb,out,f,bc,rfl,m,e⟩⟩
  .show ay (p _ r _ c n)
  .show au (km ?_);show au (cQ (cf (Q:=λx d=>SG st d/\((∃r o,x=(hV r,o)/\eF a b r)\/∃na nb out g f bc,x=(hH,na,nb,out,g,f,bc)/\MHS a b out na nb/\j+2<=out.size))
    (λj2 x d=>SG st d/\∃na nb out g f bc,x=(hH,na,nb,out,g,f,bc)/\MHS a b out na nb/\j+2<=out.size) (Xe _) %[c,_,_,_,_,_,_,rfl,m|e] ?_ ?_) ?_)
   .intro j2 x i _ l %[c,na,nb,out,g,f,bc,rfl,m|e];unfold hiG;rw[<-apply_ite _];show Kq (C.of c) m ⋯ (λd r o sg h=>%[SG.trans c sg|.inl %[r,o,rfl|h]]) λd na nb out g k k1 sg h z=>%[%[SG.trans c sg|.inr %[_,_,_,_,_,_,rfl,h|z]],SG.trans c sg,_,_,_,_,_,_,rfl,h|z]
   .simp_all
   .rintro x i ⟨c,⟨r,o,rfl,n⟩|⟨na,nb,out,g,f,bc,rfl,m,e⟩⟩
    .show ay (p _ r _ c n)
    .show au (dm (ay (s _ _ _ _ _ (c.set _) m e)))
def zA{Q:ZY->nY->Prop}(C:LC prog w A SI D a b st)(E:1<=a.size)(G:1<=b.size)(h:∀r c,SG st c->eF a b r->Q r c):(SC prog w A SI) (pW a b) Q st:=by
 rw[LP];obtain⟨f,p⟩:∃f,a.size=f+1:=%[a.size-1|⋯]
 rw[show a.size-1=f by lia];show au (km (au (bp (C.DA (i:=f) ⋯).1 ?_)));let n:=(show MH a b #[] (f+1) b.size by
  unfold MH;rw[<-p,<-Zb,<-Zb,Xc,Xc];simpa using Q5).takeA (Yf f)
 rw[jQ ⋯]at n
 split
 .show ay (h _ st (SG.refl _) n.done)
 rename_i s
 let s:=aW s
 split
 .show ay (h _ st (SG.refl _) n.first)
 rename_i u
 let u:=aW u;show au (iD ?_);show au (cQ (cf (Q:=λx c=>SG st c/\∃r,x.1∣r/\eF a b r)
  (λj x c=>SG st c/\∃na nb out g,x=(hH,na,nb,out,g)/\MHS a b out na nb/\j+1<=out.size) (Xe _) %[SG.refl _,_,_,_,_,rfl,%[n,⋯,⋯,⋯|⋯]|Zi _] ?_ ?_) ?_)
 .intro j x d _ H %[sg,na,nb,out,g,rfl,m|l];show Ks (C.of sg) m l (λc r o e h=>%[SG.trans sg e,r,rfl|h]) λc na nb out g e h z=>%[SG.trans sg e,_,_,_,_,rfl,h|z]
 .intro x d %[sg,na,nb,out,g,rfl,m|l];let%[v,I,J,L|M]:=m;let q:=v.length_eq;simp only[Z9,Yk,Zb,ow.size_reverse]at q
  lia
 .rintro⟨N,x2⟩ d ⟨sg,r,y,B⟩;subst y;show ay (h r d sg B)
end
def wX(i:iv):Uc i=(do
 let s<-get
 let(hV (b,na,c),hV (d,nb,_)):=((q7 s)[i]?,(q7 s)[i+1]?)|P6 "internal:list.sort.pending"
 set (Rp s (((q7 s).setIfInBounds i (b,na+nb,c)).eraseIdxIfInBounds (i+1)))
 let hV k<-ii hY (<-Pe (sh s) d) (sh s) b na 0|return hY
 let(b,na):=(b+k,na-k)
 if na==0 then return hX
 let hV nb<-ii hX (<-Pe (sh s) (b+na-1)) (sh s) d nb (nb-1)|return hY
 if nb==0 then return hX
 let x:=(sh s).extract b d
 let y:=(sh s).extract d (d+nb)
 let merged<-if na<=nb then pV x y else pW x y
 Va λs=>U5 s (merged.toList.zipIdx.foldl (λa (p,j)=>a.setIfInBounds (b+j) p) (sh s))
 return (N6 (<-get)).isNone):=rfl
def wY:∀m c o (a:ZY),o+c+ ~~~m<=a.size->
 ((m.zipIdx c).foldl (λa p=>a.setIfInBounds (o+p.2) p.1) a).toList=a.toList.take (o+c) ++m++a.toList.drop (o+c+ ~~~m)
 |[],c,o,a,_=>by simp
 | x::m,c,o,a,h=>by
   rw[Sj,Y8];rw[Zr]at h;rw[wY m _ o _ (by rw[Ql];lia),S7];let b:o+c< ~~~a.toList:=by rw[Zb];lia
   rw[Zr,gN.take_set,gN.drop_set];rw[show o+(c+1)=o+c+1 by lia,show o+c+1+ ~~~m=o+c+(~~~m+1) by lia];let e:(a.toList.take (o+c+1)).set (o+c) x=a.toList.take (o+c) ++[x]:=by
    rw[OX b];rw[Uw _ _ (by rw[Yk];lia)];rw[Yk,RQ ⋯,Q7];rfl
   rw[e];simp
section
variable{prog:nX}{w:wh}{A:vj}{SI:md->Prop}{α β:Type}
def zB{D:NN->Prop}{i p J:iv}{b X Y L2:gN NN}{Q:re->nY->Prop}{st:nY}(c:Cmp prog w A SI (kindOf st) D)(e:(sh st).toList=b++X++Y++L2)(L:X≠[])(M:Y≠[])
 (d:∀x∈(sh st).toList,D x) (N:(q7 st)[i]?∣(~~~b,~~~X,p)) (q:(q7 st)[i+1]?∣(~~~b+ ~~~X,~~~Y,J)) (z:N6 st=hH)
 (h:∀Z g,Z.Perm (X++Y)->(sh g).toList=b++Z++L2->kindOf g=kindOf st->N6 g=hH->q7 g=((q7 st).setIfInBounds i (~~~b,~~~X+ ~~~Y,p)).eraseIdxIfInBounds (i+1)->Q hX g):(SC prog w A SI) (Uc i) Q st:=by
 let O:0< ~~~X:=NH.mpr L;let lY:0< ~~~Y:=NH.mpr M;let sz:(sh st).size= ~~~b+ ~~~X+ ~~~Y+ ~~~L2:=by
  rw[<-Zb,e];simp only[Z9]
 let l:∀i,i<(sh st).size->∃x,(sh st)[i]?∣x/\D x:=λi hi=>%[(sh st)[i],by simp|d _ ∅]
 let sub:∀(u v i:iv) (hi:i<((sh st).extract u v).size),((sh st).extract u v)[i]?∣((sh st).extract u v)[i]/\D ((sh st).extract u v)[i]:=λu v i hi=>%[J6 hi|by rw[ow.getElem_extract];show d _ ∅]
 rw[wX];show au (iD ?_);rw[N,q];dsimp only;let%[y,T|U]:=l (~~~b+ ~~~X) ⋯;show au (Kl (au (bp T (au (fS c U (λi hi=>l _ ⋯) O λk hk=>?_)))));dsimp only
 split
 .show ay (h (X++Y) _ (Nw _) (by change(sh st).toList=_;rw[e];simp) rfl z rfl)
 rename_i C
 let C:=aW C;let%[x,hx|dx]:=l (~~~b+k+(~~~X-k) -1) ⋯;show au (bp hx (au (fS c dx (λi hi=>l _ ⋯) ⋯ λk2 B=>?_)));dsimp only
 split
 .show ay (h (X++Y) _ (Nw _) (by change(sh st).toList=_;rw[e];simp) rfl z rfl)
 rename_i E
 let E:=aW E;let ex:((sh st).extract (~~~b+k) (~~~b+ ~~~X)).toList=X.drop k:=by
  rw[gB,e,Ze,Ze,Sl,OZ ⋯,Ub,N9,Sx ⋯,Xb (by rw[Yg];lia),Zn (by rw[Yg];lia)]
 let G:((sh st).extract (~~~b+ ~~~X) (~~~b+ ~~~X+k2)).toList=Y.take k2:=by
  rw[oX,e,Ze,Sl,OZ (by rw[Z9];lia),Ub,Z9,Q7,UR,Xb ⋯]
 let sx:=rM MV ex;let sy:=rM MV G;rw[Zb,Yg]at sx;rw[Zb,Yk]at sy;let H:∀(r:ZY) (f:nY),SG (Rp st (((q7 st).setIfInBounds i (~~~b,~~~X+ ~~~Y,p)).eraseIdxIfInBounds (i+1))) f->eF ((sh st).extract (~~~b+k) (~~~b+ ~~~X)) ((sh st).extract (~~~b+ ~~~X) (~~~b+ ~~~X+k2)) r->
  (SC prog w A SI) (do Va (λs=>U5 s (r.toList.zipIdx.foldl (λa (p,j)=>a.setIfInBounds (~~~b+k+j) p) (sh s)));let x<-get;pure (N6 x).isNone) Q f:=λr f sg o=>by
  unfold eF at o;rw[ex,G]at o;show au (dm (au (iD (ay ?_))));let m:N6 f=hH:=by rw[sg.2.2.2];show z
  change Q (N6 f).isNone _;rw[m];let I: ~~~r.toList=(~~~X-k) +k2:=by
   rw[o.length_eq,Z9,Yg,Yk,RQ B]
  show h (X.take k++r.toList++Y.drop k2) _ ?_ ?_ sg.1 m sg.2.2.1
  .show(SY _ (OK _ o)).trans ?_;rw[<-Ze,Xa,Ze,Xa]
  .change(U5 f _|>sh).toList=_;let n:sh f=sh st:=sg.2.1;change((r.toList.zipIdx).foldl (λ(a:ZY) (p:NN×iv)=>a.setIfInBounds (~~~b+k+p.2) p.1) (sh f)).toList=_;rw[wY _ 0 _ _ (by rw[I,n,sz];lia),n,e,I];let t1:(b++X++Y++L2).take (~~~b+k+0)=b++X.take k:=by
    rw[RU,Ze,Ze,gN.take_append,Zn ⋯,N9,Xb ⋯]
   let t2:(b++X++Y++L2).drop (~~~b+k+0+(~~~X-k+k2))=Y.drop k2++L2:=by
    rw[show ~~~b+k+0+(~~~X-k+k2)= ~~~(b++X)+k2 by rw[Z9];lia,Ze,Sl,OZ ⋯,Ub,N9,Sx ⋯]
   rw[t1,t2];simp
 split
 .show au (zy %[c,sub _ _ _|sub _ _ _] ⋯ ⋯ H)
 .show au (zA %[c,sub _ _ _|sub _ _ _] ⋯ ⋯ H)
end
structure CR (st0 st:nY) (lo:iv):Prop where
 kind:kindOf st=kindOf st0
 pend:q7 st=q7 st0
 fail:N6 st=N6 st0
 perm:(sh st).Perm (sh st0)
 same:∀i,i<lo->(sh st)[i]? =(sh st0)[i]?
def CR.refl(st:nY)(lo:iv):CR st st lo:=%[rfl,rfl,rfl,ow.Perm.refl _|λ_ _=>rfl]
def CR.size{a st:nY}{lo:iv}(h:CR a st lo):(sh st).size=(sh a).size:=h.perm.size_eq
def CR.rev{a st:nY}{lo i j:iv}(h:CR a st lo)(hi:lo<=i)(b:j<=(sh st).size):CR a (U5 st (mirror (sh st) i j ((j-i)/2))) lo:=
 %[h.kind,h.pend,h.fail,(mirror_perm _ _ _ _).trans h.perm|λk c=>by
  rw[getElem?_mirror_all b,ku ⋯];show h.same k c]
section
variable{prog:nX}{w:wh}{A:vj}{SI:md->Prop}{α β:Type}
def pX{i j lo:iv}{a st:nY}(c:Cmp prog w A SI (kindOf a) D)(d:∀x∈(sh a).toList,D x)(r:CR a st lo)(hi:i<(sh a).size)(f:j<(sh a).size)
 (h:∀b,Q (hV b) st):(SC prog w A SI) (WR i j) Q st:=by
 let e:=λx g=>d x ((S8.mp r.perm).mem_iff.mp g)
 show Hl (r.kind▸c) (J6 (r.size▸hi)) (J6 (r.size▸f)) (e _ ∅) (e _ ∅) h
def vE{st:nY}(h:Q () (U5 st (mirror (sh st) i j ((j-i)/2)))):(SC prog w A SI) (QZ i j) Q st:=by
 show dm h
abbrev cuL(lo:iv)(x:lx (lx iv)×iv):Mi nY Sem (ri (lx (lx iv)×iv)):=do
 match<-WR (lo+x.2) (lo+x.2-1)with
 | some w=>if w=hX then pure (.done (hH,x.2))else pure (.yield (hH,x.2+1))
 | _=>pure (.done (hV hH,x.2))
abbrev cu3(lo nrem n:iv):Mi nY Sem (lx iv):=do
 QZ lo (lo+n)
 let x<-forIn [n:nrem] (hH,n) λ_ x=>cuL lo x
 match x.1 with
 | some r=>pure r
 | none=>pure (hV x.2)
abbrev cuM(lo:iv)(x:lx (lx iv)×iv×iv):Mi nY Sem (ri (lx (lx iv)×iv×iv)):=do
 match<-WR (lo+x.2.1) (lo+x.2.1-1)with
 | some w=>
   if w=hX then(if x.2.2>0 then(do
    QZ (lo+x.2.1-(x.2.2+1)) (lo+x.2.1)
    pure (.yield (hH,x.2.1+1,0)))else pure (.yield (hH,x.2.1+1,0)))
   else(do
    match<-WR (lo+x.2.1-1) (lo+x.2.1)with
    | some w=>if w=hX then pure (.done (hH,x.2.1,x.2.2))else pure (.yield (hH,x.2.1+1,x.2.2+1))
    | _=>pure (.done (hV hH,x.2.1,x.2.2)))
 | _=>pure (.done (hV hH,x.2.1,x.2.2))
abbrev cu2(lo nrem n:iv):Mi nY Sem (lx iv):=do
 RN "list.sort.descending-run"
 let x<-forIn [n+1:nrem] (hH,n+1,0) λ_ x=>cuM lo x
 match x.1 with
 | some r=>pure r
 | none=>
   if x.2.2>0 then(do
    QZ (lo+x.2.1-(x.2.2+1)) (lo+x.2.1)
    cu3 lo nrem x.2.1)else cu3 lo nrem x.2.1
set_option smartUnfolding false in
def LQ(lo nrem:iv):XA lo nrem=(do
 let x<-forIn [1:nrem] (hH,1) λ_ x=>cuL lo x
 match x.1 with
 | some r=>pure r
 | none=>
   if(x.2==nrem)=hX then pure (hV x.2)
   else if x.2>1 then(do
    match<-WR lo (lo+x.2-1)with
    | some w=>if w=hX then pure (hV x.2)else(do
      QZ lo (lo+x.2)
      cu2 lo nrem x.2)
    | _=>pure hH)else cu2 lo nrem x.2):=by
 rw[countRun'_eq];rfl
variable{D:NN->Prop}{lo nrem n j:iv}{Q:lx iv->nY->Prop}{st st2:nY}
def EA{q:lx _}{R:ri _->nY->Prop}(c:Cmp prog w A SI (kindOf st) D)(d:∀x∈(sh st).toList,D x)(r:CR st st2 lo)(a:lo+nrem<=(sh st).size)(e:j<nrem)
 (f:R (.done (hH,j)) st2) (g:R (.yield (hH,j+1)) st2):(SC prog w A SI) (cuL lo (q,j)) R st2:=
 au (pX c d r ⋯ ⋯ λb=>by cases b<;> show ay (by assumption))
def EB(c:Cmp prog w A SI (kindOf st) D)(d:∀x∈(sh st).toList,D x)(l:lo+nrem<=(sh st).size)(h:∀n a,CR st a lo->1<=n->n<=nrem->Q (hV n) a)
 (r:CR st st2 lo) (n1:1<=n) (g:n<=nrem):(SC prog w A SI) (cu3 lo nrem n) Q st2:=by
 show au (vE ?_);let o:=r.rev (j:=lo+n) (Zi _) (by rw[r.size];lia);show au (cQ (cf (Q:=λx a=>CR st a lo/\∃n,x=(hH,n)/\1<=n/\n<=nrem)
  (λj x a=>CR st a lo/\x=(hH,j)) g %[o|rfl] ?_ ?_) ?_)
 .intro j x b f i %[e|rfl];show EA c d e l i %[e,j,rfl,nI n1 f|Ye i] %[e|rfl]
 .intro x b %[e|rfl];show%[e,nrem,ρ,nI n1 g|Zi _]
 .intro x b %[e,m,rfl,p|m2];show ay (h m b e p m2)
def Kt{q:lx (lx iv)}{k:iv}{R:ri (lx (lx iv)×iv×iv)->nY->Prop}(c:Cmp prog w A SI (kindOf st) D)(d:∀x∈(sh st).toList,D x)(r:CR st st2 lo)(g:lo+nrem<=(sh st).size)(e:k+1<=j)(h:j<nrem)
 (f:R (.done (hH,j,k)) st2) (a:∀k st2,CR st st2 lo->k<=j->R (.yield (hH,j+1,k)) st2):(SC prog w A SI) (cuM lo (q,j,k)) R st2:=by
 show au (pX c d r ⋯ ⋯ λb=>?_);cases b
 .show au (pX c d r ⋯ ⋯ λb=>?_);cases b
  .show ay (a (k+1) _ r e)
  .show ay f
 .dsimp only;rw[lp rfl]
  split
  .show au (vE (ay (a 0 _ (r.rev ⋯ (by rw[r.size];lia)) (Xe _))))
  .show ay (a 0 _ r (Xe _))
def EC(c:Cmp prog w A SI (kindOf st) D)(d:∀x∈(sh st).toList,D x)(g:lo+nrem<=(sh st).size)(h:∀n a,CR st a lo->1<=n->n<=nrem->Q (hV n) a)
 (r:CR st st2 lo) (s:n<nrem):(SC prog w A SI) (cu2 lo nrem n) Q st2:=by
 show au (km ?_);show au (cQ (cf (Q:=λx a=>CR st a lo/\∃m q,x=(hH,m,q)/\q+1<=m/\m<=nrem)
  (λj x a=>CR st a lo/\∃q,x=(hH,j,q)/\q+1<=j) s %[r,0,rfl|We _ _] ?_ ?_) ?_)
 .intro j x f u l %[e,q,rfl|b];show Kt c d e g b l %[e,j,q,rfl,b|Ye l] λk st2 r v=>%[r,k,rfl|X8 v]
 .intro x f %[e,q,rfl|b];show%[e,nrem,q,ρ,b|Zi _]
 .intro x f %[e,m,q,rfl,i|o];let p:=nI (We _ _) i;dsimp only
  split
  .show au (vE (EB c d g h (e.rev ⋯ (by rw[e.size];lia)) p o))
  .show EB c d g h e p o
def wZ{lo nrem:iv}{st:nY}(c:Cmp prog w A SI (kindOf st) D)(d:∀x∈(sh st).toList,D x)(i:1<=nrem)(f:lo+nrem<=(sh st).size)
 (h:∀n a,CR st a lo->1<=n->n<=nrem->Q (hV n) a):(SC prog w A SI) (XA lo nrem) Q st:=by
 rw[LQ];show au (cQ (cf (Q:=λx a=>a=st/\∃n,x=(hH,n)/\1<=n/\n<=nrem)
  (λj x a=>a=st/\x=(hH,j)) i %[rfl|rfl] ?_ ?_) ?_)
 .intro j x a g l %[rfl|rfl];show EA c d (CR.refl _ lo) f l %[rfl,j,rfl,g|Ye l] %[rfl|rfl]
 .intro x a %[rfl|rfl];show%[ρ,nrem,ρ,i|Zi _]
 .intro x e %[q,n,rfl,n1|m];subst q;dsimp only;by_cases o:n=nrem
  .rw[lp (by simp[o])];show ay (h n e (CR.refl _ _) n1 m)
  rw[ku (by simp[o])];let p:n<nrem:=by lia
  split
  .show au (pX c d (CR.refl _ lo) ⋯ ⋯ λb=>?_);cases b
   .show au (vE (EC c d f h ((CR.refl e lo).rev (Zi _) ⋯) p))
   .show ay (h n e (CR.refl _ _) n1 m)
  .show EC c d f h (CR.refl e lo) p
end
section
variable{prog:nX}{w:wh}{A:vj}{SI:md->Prop}{α β:Type}
def CR.move{a st:nY}{lo k l:iv}(h:CR a st lo)(b:lo+k<(sh st).size)(c:l<=k):CR a (U5 st (bubble (sh st) (lo+k) (lo+k-(lo+l)))) lo:=
 %[h.kind,h.pend,h.fail,(bubble_perm _ _ _).trans h.perm|λi hi=>by
  rw[getElem?_bubble b _ ⋯,ku ⋯,ku ⋯];show h.same i hi]
def B7{lo n ok:iv}{e st:nY}(c:Cmp prog w A SI (kindOf e) D)(d:∀x∈(sh e).toList,D x)(r:CR e st lo)(o:1<=ok)(u:ok<=n)(y:lo+n<=(sh e).size)
 (h:∀a,CR e a lo->Q hX a):(SC prog w A SI) (binarySort' lo n ok) Q st:=by
 rw[binarySort'_eq,iv.max_eq_left o];show au (cQ (cf (Q:=λx a=>x=(hH,())/\CR e a lo) (λk x a=>x=(hH,())/\CR e a lo) u %[rfl|r] ?_ λ_ _ h=>h) ?_)
 .intro k x f v z %[rfl|m];dsimp only;show au (cQ (cf (Q:=λx a=>a=f/\∃l q,x=(hH,l,q)/\l<=q/\q<=k)
   (λj x a=>a=f/\∃l q,x=(hH,l,q)/\l<=q/\q<=k) (Xe _) %[rfl,0,k,rfl,Xe _|Zi _] ?_ λ_ _ h=>h) ?_)
  .intro j x p _ B %[rfl,l,q,rfl,i|g];dsimp only
   split
   .show ay %[rfl,l,q,rfl,i|g]
   .let o:l<=(l+q)/2:=by lia
    let s:(l+q)/2<q:=by lia
    generalize (l+q)/2=C at o s ⊢
    show au (pX c d m ⋯ ⋯ λb=>?_);cases b
    .show ay %[rfl,_,q,rfl,s|g]
    .show ay %[rfl,l,_,rfl,o|⋯]
  .intro x p %[rfl,l,q,rfl,i|g];dsimp only;rw[moveDown'_eq];show au (dm (ay %[rfl|m.move (by rw[m.size];lia) (nI i g)]))
 .intro x f %[rfl|m];show ay (h f m)
end
abbrev eB:gN (gN NN×iv)->iv->gN (iv×iv×iv)
 |[],_=>[]
 |(r,p)::t,o=>(o,~~~r,p)::eB t (o+ ~~~r)
abbrev bK(a:gN (gN NN×iv)):gN NN:=(a\1).flatten
def cT(a b:gN _):bK (a++b)=bK a++bK b:=by simp[bK]
def bi(a:gN NN×iv)(b:gN _):bK (a::b)=a.1++bK b:=by simp[bK]
def dZ:∀a b o,eB (a++b) o=eB a o++eB b (o+ ~~~(bK a))
 |[],b,o=>by simp[eB,bK]
 |(r,p)::t,b,o=>by
  rw[Tx,eB,eB,dZ t b,bi,Z9,Tx,WZ]
def fT:∀a o,~~~(eB a o)= ~~~a
 |[],_=>rfl
 |(r,p)::t,o=>by rw[eB,Zr,Zr,fT t]
structure RI (st0 st:nY) (rp:gN (gN NN×iv)) (rest:gN NN):Prop where
 kind:kindOf st=kindOf st0
 fail:N6 st=hH
 perm:(sh st).toList.Perm (sh st0).toList
 arr:(sh st).toList=bK rp++rest
 pend:(q7 st).toList=eB rp 0
 runs:∀r∈rp,r.1≠[]
def RI.size{a st:nY}{b:gN _}{rest:gN NN}(h:RI a st b rest):(sh st).size=(sh a).size:=by
 rw[<-Zb,<-Zb,h.perm.length_eq]
def RI.psize{a st:nY}{b:gN _}{rest:gN NN}(h:RI a st b rest):(q7 st).size= ~~~b:=by
 rw[<-Zb,h.pend,fT]
section
variable{prog:nX}{w:wh}{A:vj}{SI:md->Prop}{α β:Type}
def lU{D:NN->Prop}{f st:nY}{a b:gN _}{X Y:gN NN}{p m i:iv}{rest:gN NN}{Q:re->nY->Prop}(c:Cmp prog w A SI (kindOf f) D)(d:∀x∈(sh f).toList,D x)
 (h:RI f st (a++(X,p)::(Y,m)::b) rest) (hi:i= ~~~a) (k:∀Z g,RI f g (a++(Z,p)::b) rest-> ~~~Z= ~~~X+ ~~~Y->Q hX g):(SC prog w A SI) (Uc i) Q st:=by
 subst hi;let e:=h.arr;rw[cT,bi,bi]at e;let u:(sh st).toList=bK a++X++Y++(bK b++rest):=by rw[e];simp
 let B:=λx n=>d x (h.perm.mem_iff.mp n)
 let l:=h.pend;rw[dZ,eB,eB,SH]at l;let pl:=fT a 0;let C:=by
  let:(q7 st).toList[~~~a]?∣(~~~(bK a),~~~X,p):=by
   rw[l,Ya ⋯,pl,Q7];rfl
  simpa using this
 let E:=by
  let:(q7 st).toList[~~~a+1]?∣(~~~(bK a)+ ~~~X,~~~Y,m):=by
   rw[l,Ya ⋯,pl,N9];rfl
  simpa using this
 let v:=h.runs (X,p) ∅;show zB (h.kind▸c) u v (h.runs (Y,m) ∅) B C E h.fail λZ g y z G H o=>?_
 let s: ~~~Z= ~~~X+ ~~~Y:=by rw[y.length_eq,Z9]
 show k Z g %[G.trans h.kind,H,?_,?_,?_|λr j=>?_] s
 .show Qr ?_ h.perm;rw[z,u];rw[show bK a++X++Y++(bK b++rest)=bK a++(X++Y) ++(bK b++rest) by simp];show SY _ (OK _ y)
 .rw[z,cT,bi];simp
 .rw[o,ow.toList_eraseIdxIfInBounds,S7,l,dZ,eB,SH];rw[Uw _ _ ⋯,pl,Q7,gN.set_cons_zero];rw[gN.eraseIdx_append_of_length_le ⋯,pl,N9,gN.eraseIdx_cons_succ,gN.eraseIdx_cons_zero];rw[s,WZ]
 .rcases Xm j with j|j
  .show h.runs r (Yt _ j)
  .rcases Yv.mp j with rfl|j
   .intro q;let n:=NH.mpr v;dsimp only at q n;rw[q,Wo]at s
    lia
   .show h.runs r (by simp[j])
def CR.toRI{d b a:nY}{f:gN _}{rest:gN NN}{lo n:iv}(h:RI d b f rest)(r:CR b a lo)(j: ~~~(bK f)=lo)(o:lo+n<=(sh b).size):
 ∃R c,RI d a f (R++c)/\ ~~~R=n:=by
 let l:=r.size;show%[((sh a).toList.drop lo).take n,(sh a).toList.drop (lo+n),%[r.kind.trans h.kind,r.fail.trans h.fail,(S8.mp r.perm).trans h.perm,?_,r.pend▸h.pend|h.runs]|?_]
 .let e:(sh a).toList.take lo=bK f:=by
   let m:(sh a).toList.take lo=(sh b).toList.take lo:=by
    apply Ru;intro i;rw[RC,RC]
    split
    .rename_i hi
     let:=r.same i hi;simpa using this
    .rfl
   rw[m,h.arr,Xb ⋯,Zn ⋯]
  rw[<-e];let g:=Xa n ((sh a).toList.drop lo);rw[Xz]at g;rw[g,(Xa lo (sh a).toList)]
 grind
def nZ{α:Type}(f:α->α):∀l x,(l++[x]).modify l.length f=l++[f x]
 |[],x=>rfl
 | y::l,x=>by
   rw[Tx,Zr,gN.modify_succ_cons,nZ f l x,Tx]
def lV{α:Type}(l:gN α):l=[]\/∃a x,l=a++[x]:=by
 by_cases h:l=[]
 .show .inl h
 .show .inr %[l.dropLast,l.getLast h|(gN.dropLast_concat_getLast h).symm]
def B8{α:Type}(l:gN α)(h:1< ~~~l):∃a x y,l=a++x::y::[]:=by
 rcases lV l with rfl|⟨a,y,rfl⟩
 .simp at h
 .rcases lV a with rfl|⟨b,x,rfl⟩
  .simp at h
  .show%[b,x,y|by simp]
def RI.pushed{a st:nY}{c:gN _}{R rest:gN NN}{lo m:iv}(h:RI a st c (R++rest))(d: ~~~(bK c)=lo)(e: ~~~R=m)(f:1<=m):RI a (Rp st ((q7 st).push (lo,m,0))) (c++[(R,0)]) rest:=by
 show%[h.kind,h.fail,h.perm,?_,?_|λr b=>?_]
 .rw[h.arr,cT,bi];simp[bK]
 .rw[RJ,h.pend,dZ,eB,eB,SH,d,e]
 .rcases Xm b with b|b
  .show h.runs r b
  .rw[Xn b]
   grind
def RI.powered{a st:nY}{b:gN _}{rest:gN NN}{X:gN NN}{p:iv}(d:iv)(h:RI a st (b++[(X,p)]) rest):RI a (Rp st ((q7 st).modify ((q7 st).size-1) λx=>(x.fst,x.2.fst,d))) (b++[(X,d)]) rest:=by
 show%[h.kind,h.fail,h.perm,?_,?_|λr c=>?_]
 .rw[h.arr,cT,cT,bi,bi]
 .rw[ow.toList_modify,h.psize,h.pend,dZ,dZ];rw[show(b++[(X,p)]).length-1= ~~~(eB b 0) by rw[fT];simp];change gN.modify (eB b 0++[_]) _ _=_;rw[nZ];rfl
 .rcases Xm c with c|c
  .show h.runs r (Yt _ c)
  .rw[Xn c];show h.runs (X,p) ∅
abbrev srP(lo n:iv):Mi nY Sem (ri (lx SW×iv)):=do
 Va λs=>Rp s ((q7 s).push (lo,n,0))
 pure (.yield (hH,lo+n))
abbrev sr1(size lo n:iv):Mi nY Sem (ri (lx SW×iv)):=do
 let s<-get
 match(q7 s).back? with
 | hV (a,n1,_)=>do
   let x<-forIn [0:size] (hH,()) λ_ _=>(do
    let s<-get
    match if(q7 s).size>1 then(q7 s)[(q7 s).size-2]? else hH with
    | hV (_,_,o)=>
      if o<=power' size (2*a+n1) (2*a+n1+n1+n) size then pure (.done (hH,()))
      else(do
       let b<-Uc ((q7 s).size-2)
       if(!b)=hX then pure (.done (hV (),()))else pure (.yield (hH,())))
    | _=>pure (.done (hH,())))
   match x.1 with
   | some r=>pure (.done (hV r,lo))
   | none=>do
     Va λs=>Rp s ((q7 s).modify ((q7 s).size-1) λx=>(x.1,x.2.1,power' size (2*a+n1) (2*a+n1+n1+n) size))
     srP lo n
 | _=>srP lo n
abbrev srO(size:iv)(x:lx SW×iv):Mi nY Sem (ri (lx SW×iv)):=
 if x.2>=size then pure (.done (hH,x.2))
 else do
  match<-XA x.2 (size-x.2)with
  | some n=>
    if n<Vb size size 0 then(do
     RN "list.sort.binary-insertion"
     let b<-binarySort' x.2 (min (size-x.2) (Vb size size 0)) n
     if(!b)=hX then pure (.done (hV (),x.2))else sr1 size x.2 (min (size-x.2) (Vb size size 0)))
    else sr1 size x.2 n
  | _=>pure (.done (hV (),x.2))
abbrev srT(size:iv)(x:lx SW×iv):Mi nY Sem SW:=
 match x.1 with
 | some r=>pure r
 | none=>do
   let x<-forIn [0:size] (hH,()) λ_ _=>(do
    let s<-get
    if(q7 s).size<=1 then pure (.done (hH,()))
    else(do
     let b<-Uc (if WX (λx=>decide (x<(q7 s)[(q7 s).size-2+1]?.elim 0 λx=>x.2.1)) (if(q7 s).size-2>0 then lx.map (λx=>x.2.1) (q7 s)[(q7 s).size-2-1]? else hH)=hX then(q7 s).size-2-1 else(q7 s).size-2)
     if(!b)=hX then pure (.done (hV (),()))else pure (.yield (hH,()))))
   match x.1 with
   | some r=>pure r
   | none=>pure ()
set_option smartUnfolding false in
def LR:sortRuns'=(do
 let s<-get
 let x<-forIn [0:(sh s).size] (hH,0) λ_ x=>srO (sh s).size x
 srT (sh s).size x):=by
 rw[sortRuns'_eq];rfl
def ED{D:NN->Prop}{st m:nY}{v:gN (gN NN×iv)}{R e:gN NN}{lo n:iv}{T:ri (lx SW×iv)->nY->Prop}(c:Cmp prog w A SI (kindOf st) D)(d:∀x∈(sh st).toList,D x)(o:RI st m v (R++e))(q: ~~~(bK v)=lo)(p: ~~~R=n)(J:1<=n)
 (L:∀a h,RI st h a e-> ~~~(bK a)=lo+n->T (.yield (hH,lo+n)) h):(SC prog w A SI) (sr1 (sh st).size lo n) T m:=by
 show au (iD ?_);rcases lV v with y|⟨N,⟨O,U⟩,y⟩
 .subst y;let B:(q7 m).back? =hH:=by
   let:=o.psize;simp[ow.back?,this]
  rw[B];show au (dm (ay (L _ _ (o.pushed q p J) (by rw[cT,Z9,q,bi];simp[bK,p]))))
 .let B:(q7 m).back?∣(~~~(bK N),~~~O,U):=by
   rw[<-ow.getLast?_toList,o.pend,y,dZ,eB,eB,SH];simp
  rw[B];show au (cQ (cf (Q:=λx h=>x=(hH,())/\∃a,RI st h a (R++e)/\a≠[]/\ ~~~(bK a)=lo) (λj x h=>x=(hH,())/\∃a,RI st h a _/\a≠[]/\ ~~~(bK a)=lo) (Xe _) %[rfl,v,o,by rw[y];simp|q] ?_ ?_) ?_)
  .intro j5 x f _ _ %[rfl,l,b,i|g];show au (iD ?_);by_cases C:(q7 f).size>1
   .let%[r,%[z|E],%[Y5|q5]|rfl]:=B8 l (b.psize▸C);let s:(q7 f).size-2= ~~~r:=by rw[b.psize];simp
    let G:(q7 f)[(q7 f).size-2]?∣(~~~(bK r),~~~z,E):=by
     let:(q7 f).toList[~~~r]?∣(~~~(bK r),~~~z,E):=by
      rw[b.pend,dZ,Ya (by rw[fT];lia),fT,Q7,SH];rfl
     rw[s];simpa using this
    rw[lp C,G];dsimp only
    split
    .show ay %[rfl,_,b,i|g]
    .show au (lU c d b s λZ5 Y H I=>ay %[rfl,_,H,by simp|?_]);rw[<-g,cT,cT,bi,bi,bi];simp[bK,I]
   .rw[ku C];show ay %[rfl,_,b,i|g]
  .intro x f %[rfl,l,b,i|g];show%[ρ,l,b,i|g]
  .intro x f %[rfl,l,b,i|g];dsimp only;let%[r,%[z|E]|rfl]:=(lV l).resolve_left i;show au (dm (au (dm (ay ?_))));let u:∀M,~~~(bK (r++[(z,M)]))=lo:=λM=>by
    rw[<-g,cT,cT,bi,bi]
   show L _ _ ((b.powered _).pushed (u _) p J) (by rw[cT,Z9,u,bi];simp[bK,p])
def sc_sortMany{D:NN->Prop}{Q:SW->nY->Prop}{st:nY}(c:Cmp prog w A SI (kindOf st) D)(d:∀x∈(sh st).toList,D x)(h2:1<=(sh st).size)(hp:q7 st= #[])(hf:N6 st=hH)
 (h:∀f,(sh f).toList.Perm (sh st).toList->N6 f=hH->Q () f):(SC prog w A SI) sortRuns' Q st:=by
 rw[LR];show au (iD ?_);show au (cQ (cf (Q:=λx f=>∃e lo,x=(hH,lo)/\RI st f e [])
  (λj x f=>∃e rest lo,x=(hH,lo)/\RI st f e rest/\ ~~~(bK e)=lo/\j<=lo/\lo<=(sh st).size) (Xe _) %[[],_,0,rfl,%[rfl,hf,Nw _,rfl,by rw[hp];rfl|λ_ h=>(nomatch h)],rfl,Zi _|Xe _] ?_ ?_) ?_)
 .intro j x u _ hj %[e,rest,lo,rfl,g,m,G|H];unfold srO;dsimp only;let s1:=g.size;by_cases B:lo>=(sh st).size
  .rw[lp B];let I:rest=[]:=by
    let:=rM MV g.arr;rw[Z9,Zb,s1,m]at this;show yu.mp ⋯
   subst I;show ay %[e,lo,rfl|g]
  rw[ku B];let T:∀x∈(sh u).toList,D x:=λx hx=>d x (g.perm.mem_iff.mp hx)
  let c1:Cmp prog w A SI (kindOf u) D:=g.kind▸c;show au (wZ c1 T ⋯ ⋯ λn o U n1 n2=>?_);dsimp only;by_cases v:n<Vb (sh st).size (sh st).size 0
  .rw[lp v];show au (km (au (B7 c1 T U n1 ⋯ ⋯ λJ r3=>?_)));rw[ku ∅];let%[R,y,s|z]:=CR.toRI (n:=min ((sh st).size-lo) (Vb (sh st).size (sh st).size 0)) g r3 m ⋯;show ED c d s m z ⋯ λL f r l=>%[_,_,_,rfl,r,l,⋯|⋯]
  .rw[ku v];let%[R,y,s|z]:=CR.toRI (n:=n) g U m ⋯;show ED c d s m z ⋯ λL f r l=>%[_,_,_,rfl,r,l,⋯|⋯]
 .intro x u %[e,rest,lo,rfl,g,m,G|H];let I:rest=[]:=by
   let:=rM MV g.arr;rw[Z9,Zb,g.size,m]at this;show yu.mp ⋯
  subst I;show%[e,lo,ρ|g]
 .intro x u %[e,lo,rfl|g];unfold srT;dsimp only;let few:∀(e:gN (gN NN×iv)),(∀r∈e,r.1≠[])-> ~~~e<= ~~~(bK e):=by
   intro e
   induction e with
   | nil=>intro _;show Xe _
   | cons r t ih=>
     intro hr;rw[bi,Zr,Z9];let:=NH.mpr (hr r ∅);let:=ih λq hq=>hr q (by simp[hq])
     lia
  let l1: ~~~e<=(sh st).size:=by
   let a1:=few e g.runs;let a2:=rM MV g.arr;rw[Zx,Zb,g.size]at a2
   lia
  show au (cQ (cf (Q:=λx f=>x=(hH,())/\∃e,RI st f e []/\ ~~~e<=1) (λj x f=>x=(hH,())/\∃e,RI st f e []/\ ~~~e<=max 1 ((sh st).size-j)) (Xe _) %[rfl,e,g|⋯] ?_ ?_) ?_)
  .intro j x o _ hj %[rfl,e,g|M];show au (iD ?_);by_cases N:(q7 o).size<=1
   .rw[lp N];show ay %[rfl,e,g|g.psize▸N]
   rw[ku N];let ab:1< ~~~e:=by rw[<-g.psize];lia
   generalize C:(if WX _ _=hX then(q7 o).size-2-1 else(q7 o).size-2)=i
   let hi:i+1< ~~~e:=by
    let E:∀(c:Prop) [Pg c] (n:iv),2<=n->(if c then n-2-1 else n-2) +1<n:=λc _ n hn=>by lia
    rw[<-C,<-g.psize];show E _ _ ⋯
   clear C;obtain⟨a,X,p,Y,q,b,rfl,O⟩:∃a X p Y q b,e=a++(X,p)::(Y,q)::b/\i= ~~~a:=by
    show%[e.take i,e[i].1,e[i].2,e[i+1].1,e[i+1].2,e.drop (i+2),?_|by rw[Yk];lia];let t1:=(Xa i e).symm;rw[Zy ⋯,Zy ⋯]at t1;show t1
   show au (lU c d g O λZ J s zl=>?_);rw[ku ∅];show ay %[rfl,_,s|?_];simp only[Z9,Zr]at M hi ⊢
   lia
  .intro x o %[rfl,e,g|M];show%[ρ,e,g|⋯]
  .intro x o %[rfl,e,g|M];show ay (h o g.perm g.fail)
end
end _SB
namespace _ST
open PySem PySem.SetTable
def w6:∀k,∃q,5^(2^k)=1+2^(k+2)*(2*q+1)
 | 0=>%[0|rfl]
 | k+1=>by
   let%[q|e]:=w6 k;show%[q+2^k*(2*q+1)*(2*q+1)|?_];rw[QB 2 k,iv.pow_mul,e]
   grind
abbrev step(M i:iv):iv:=(i*5+1)%M
abbrev iter(M:iv):iv->iv->iv
 | 0,i=>i
 | n+1,i=>step M (iter M n i)
abbrev geo:iv->iv
 | 0=>0
 | n+1=>geo n*5+1
def vF:∀n,4*geo n+1=5^n
 | 0=>rfl
 | n+1=>by
   let:=vF n;rw[QB,<-this,geo]
   lia
def lW(M:iv)(i:iv):∀n,iter M n i%M=(5^n*i+geo n)%M
 | 0=>by simp[iter,geo]
 | n+1=>by
   rw[iter,step,iv.mod_mod,geo,QB];rw[Vd,YB,(lW M i n),<-YB,<-Vd]
   congr 1
   grind
def pY:∀(k i e:iv),e<2^k->∃n,n<2^k/\iter (2^k) n i%2^k=e
 | 0,i,e,c=>%[0,by simp|by simp at c;subst c;simp[iv.mod_one]]
 | k+1,i,e,c=>by
   let%[n,N|w]:=pY k i (e%2^k) (Tg _ (Wc k));let d:∀n,iter (2^(k+1)) n i%2^(k+1)%2^k=iter (2^k) n i%2^k:=λn=>by
    rw[RX _ (SX 2 (Yf k)),<-RX _ (SX 2 (Yf k)),lW,RX _ (SX 2 (Yf k)),lW]
   let%[q|b]:=w6 k;let y:geo (2^k)=2^k*(2*q+1):=by
    let g:=vF (2^k);rw[b,iv.pow_add]at g;let:2^k*2^2*(2*q+1)=4*(2^k*(2*q+1)):=by
     rw[iv.mul_right_comm];lia
    lia
   let f:∀n,iter (2^(k+1)) (n+2^k) i%2^(k+1)=(iter (2^(k+1)) n i+2^k)%2^(k+1):=λn=>by
    rw[lW];let z:5^(n+2^k)*i+geo (n+2^k)=5^(2^k)*(5^n*i+geo n) +geo (2^k):=by
     let O:=vF (n+2^k);let Q:=vF n
     grind
    rw[z,b,y];let A:2^(k+1)=2*2^k:=by rw[QB];lia
    let j:2^(k+2)=2*2^(k+1):=by rw[QB];lia
    let p:=lW (2^(k+1)) i n
    generalize 5^n*i+geo n=v at p ⊢
    let B:(1+2^(k+2)*(2*q+1))*v+2^k*(2*q+1)=v+2^k+2^(k+1)*(2*((2*q+1)*v) +q):=by
     rw[iv.add_mul,iv.one_mul,j];let C:2*2^(k+1)*(2*q+1)*v=2^(k+1)*(2*((2*q+1)*v)):=by
      simp only[iv.mul_assoc,iv.mul_left_comm]
     let E:2^k*(2*q+1)=2^k+2^(k+1)*q:=by
      rw[A,YC,iv.mul_one]
      lia
     rw[C,E,YC]
     lia
    rw[B,iv.add_mul_mod_self_left,Vd,<-p,<-Vd]
   let l:=d n;rw[w]at l;let G:iter (2^(k+1)) n i%2^(k+1)<2^(k+1):=Tg _ (Wc _);let m:=f n;rw[Vd,QL (by lia:2^k<2^(k+1))]at m;obtain⟨a,r⟩:∃a,a=iter (2^(k+1)) n i%2^(k+1):=%[_|rfl]
   rw[<-r]at l G m;let o:a=e\/(a+2^k)%2^(k+1)=e:=by
    let s:=Wf a (2^k);let H:=Wf e (2^k);let I:a/2^k<2:=UI ⋯;let J:e/2^k<2:=UI ⋯;rw[l]at s
    generalize a/2^k=u at s I
    generalize e/2^k=v at H J
    let L:u=0\/u=1:=by lia
    let M:v=0\/v=1:=by lia
    rcases L with rfl|rfl<;> rcases M with rfl|rfl
    .left;lia
    .right
     rw[QL ⋯]
     lia
    .right
     rw[show a+2^k=e+2^(k+1) by lia,iv.add_mod_right,QL c]
    .left;lia
   rcases o with h|h
   .show%[n,⋯|by rw[<-r,h]]
   .show%[n+2^k,⋯|by rw[m,h]]
abbrev stand(t:nz)(h:on):iv->Probe
 | 0=>t.probeStart h
 | n+1=>t.advance (stand t h n)
abbrev way(t:nz)(h:on)(n:iv):iv:=(stand t h n).j
abbrev aQ(t:nz)(h:on):iv->iv×iv
 | 0=>(Tj h%(t.mask+1),Tj h)
 | r+1=>leap t.mask (aQ t h r).1 (aQ t h r).2
def n5(t:nz)(h:on):∀n,(stand t h n).dummy=hH
 | 0=>rfl
 | n+1=>by
   let:=n5 t h n;change(t.advance _).dummy=hH;unfold SU
   split
   .show this
   .show this
def Hq(m i:iv):NU m i-i<=9:=by
 unfold NU
 split<;> lia
def B9(t:nz)(h:on):∀r,∃n,n<=10*r/\∀d,d<=NU t.mask (aQ t h r).1-(aQ t h r).1->
 stand t h (n+d)=%[(aQ t h r).1+d,NU t.mask (aQ t h r).1-(aQ t h r).1-d,(aQ t h r).1,(aQ t h r).2|hH]:=by
 let a:∀n i b,stand t h n=%[i,NU t.mask i-i,i,b|hH]->∀d,d<=NU t.mask i-i->stand t h (n+d)=%[i+d,NU t.mask i-i-d,i,b|hH]:=by
  intro n i b e d
  induction d with
  | zero=>intro _;rw[RU,e];rfl
  | succ d c=>
    intro f;change t.advance (stand t h (n+d))=_;rw[c ⋯];unfold SU;rw[lp ⋯]
    grind
 intro r
 induction r with
 | zero=>show%[0,Xe _|a 0 _ _ rfl]
 | succ r c=>
   let%[n,g|e]:=c;let j:=Hq t.mask (aQ t h r).1;show%[n+(NU t.mask (aQ t h r).1-(aQ t h r).1) +1,⋯|a _ _ _ ?_];change t.advance _=_;rw[e _ (Zi _)];unfold SU;rw[ku ⋯];rfl
def Hr(h:on):Tj h<2^64:=by
 unfold Tj
 grind
def pZ(t:nz)(h:on):∀r,(aQ t h r).2=Tj h/32^r
 | 0=>by simp[aQ]
 | r+1=>by
   change(aQ t h r).2/32=_;rw[pZ t h r,Uu,QB]
def EE(t:nz)(h:on):∀r,(aQ t h r).1<t.mask+1
 | 0=>Tg _ (T7 _)
 | r+1=>Tg _ (T7 _)
def kZ(t:nz)(h:on):∀m,(aQ t h (12+m)).1=iter (t.mask+1) m (aQ t h 12).1
 | 0=>rfl
 | m+1=>by
   change((aQ t h (12+m)).1*5+1+(aQ t h (12+m)).2/32)%(t.mask+1)=step _ _;rw[kZ t h m,pZ,Uu,<-QB];let a:Tj h/32^(12+m+1)=0:=by
    show iv.div_eq_of_lt (Zg (Hr h) (nI (by decide:2^64<=32^13) (PF (!1) ⋯)))
   rw[a,RU];rfl
def p7(a:t.mask+1=2^k)(h:on)(e:iv)(c:e<=t.mask):∃r,r<RH t.mask/\(aQ t h r).1=e:=by
 let%[n,d|b]:=pY k _ e ⋯;show%[12+n,by unfold RH;lia|?_];rw[kZ,a];rw[<-a]at b;let:iter (t.mask+1) n (aQ t h 12).1<t.mask+1:=by rw[<-kZ];show EE t h _
 rw[QL this]at b;show a▸b
def zC(a:t.mask+1=2^k)(h:on)(e:iv)(b:e<=t.mask):∃n,n+10<=10*RH t.mask/\way t h n=e:=by
 let%[r,f|c]:=p7 a h e b;let%[n,g|d]:=B9 t h r;show%[n,⋯|?_];let:=d 0 (Xe _);unfold way;rw[RU]at this;rw[this];show c
def w8(o:t.dummies= #[]){hashAt:iv->on}:∀(fuel n m:iv),n<=m->m<n+fuel->t.slot (way t h m)= .empty->
 ∃q,n<=q/\q<=m/\(∀j,n<=j->j<q->∃i,t.slot (way t h j)= .live i/\hashAt i≠h)/\
  ((t.slot (way t h q)= .empty/\Q9 t hashAt h fuel (stand t h n)∣.empty (way t h q) hH)\/
   ∃i,t.slot (way t h q)= .live i/\hashAt i=h/\Q9 t hashAt h fuel (stand t h n)∣.candidate (way t h q) i (stand t h (q+1)))
 | 0,n,m,g,r,_=>by lia
 | fuel+1,n,m,g,r,p=>by
   let d:Q9 t hashAt h (fuel+1) (stand t h n)=(match t.slot (stand t h n).j with
    | .empty=>hV _
    | .dummy=>Q9 t hashAt h fuel (t.advance {stand t h n with dummy:=hV _})
    | .live i=>if hashAt i==h then hV _ else Q9 t hashAt h fuel _):=rfl
   let l:(stand t h n).j=way t h n:=rfl;cases c:t.slot _ with
   | empty=>
     show%[n,Zi _,g,λj a b=>by lia|.inl %[c|?_]];rw[d,l,c,n5]
   | dummy=>
     exfalso;unfold slot at c;dsimp only at c
     split at c
     .lia
     .split at c
      .rename_i q
       rw[o]at q;simp[has]at q
      .lia
   | live i=>
     by_cases f:hashAt i=h
     .show%[n,Zi _,g,λj a b=>by lia|.inr %[i,c,f|?_]];rw[d,l,c];dsimp only;rw[lp (by simp[f])];rfl
     .let s:n≠m:=λq=>by rw[q,p]at c;cases c
      let%[q,z,u,v|w]:=w8 o fuel (n+1) m ⋯ ⋯ p;let y:Q9 t hashAt h (fuel+1) (stand t h n)=Q9 t hashAt h fuel (stand t h (n+1)):=by
       rw[d,l,c];dsimp only;rw[ku (by simp[f])];rfl
      show%[q,⋯,u,λj a b=>?_|?_]
      .by_cases e:j=n
       .show e▸%[i,c|f]
       .show v j ⋯ b
      .show y▸w
def p8(xs:ow iv)(j:iv)(d:∀a b (s:a<xs.size) (u:b<xs.size),a<b->xs[a]<xs[b]):∀(fuel lo hi:iv),hi-lo<=fuel->lo<=hi->hi<=xs.size->(∀i (h:i<xs.size),i<lo->xs[i]<j)->(∀i (h:i<xs.size),hi<=i->j<=xs[i])->
 Ul xs j fuel lo hi<=xs.size/\(∀i (h:i<xs.size),i<Ul xs j fuel lo hi->xs[i]<j)/\(∀i (h:i<xs.size),Ul xs j fuel lo hi<=i->j<=xs[i])
 | 0,lo,hi,p,q,f,g,l=>by
   let e:lo=hi:=by lia
   subst e;show%[f,g|l]
 | fuel+1,lo,hi,p,q,f,g,l=>by
   rw[Ul];by_cases c:lo<hi
   .rw[lp c];dsimp only;let n:(lo+hi)/2<xs.size:=by lia
    let r:xs.getD ((lo+hi)/2) j=xs[(lo+hi)/2]:=by simp[S9,n]
    rw[r];by_cases m:xs[(lo+hi)/2]<j
    .rw[lp m];show p8 xs j d fuel _ hi ⋯ ⋯ f (λi h o=>?_) l;by_cases e:i=(lo+hi)/2
     .subst e;show m
     .show XI (d i _ h n ⋯) m
    .rw[ku m];show p8 xs j d fuel lo _ ⋯ ⋯ ⋯ g (λi h o=>?_);by_cases e:i=(lo+hi)/2
     .subst e;lia
     .let:=d _ i n h ⋯
      lia
   .rw[ku c];let e:lo=hi:=by lia
    subst e;show%[f,g|l]
abbrev EF(xs:ow iv):Prop:=∀a b c (d:b<xs.size),a<b->xs[a]<xs[b]
def lc(a:EF xs)(j:iv):OE xs j<=xs.size/\(∀i (h:i<xs.size),i<OE xs j->xs[i]<j)/\(∀i (h:i<xs.size),OE xs j<=i->j<=xs[i]):=
 p8 xs j a xs.size 0 xs.size ⋯ (Xe _) (Zi _) (λi h q=>n0 q (X4 _)) (λi h q=>by lia)
def EG(a:EF xs)(h:xs[i]?∣j):OE xs j=i:=by
 let%[f,c|d]:=lc a j;let%[hi|e]:=vr.mp h;rcases Vv i _ with q|q|q
 .let:=c i hi q
  lia
 .show q.symm
 .let b:OE xs j<xs.size:=by lia
  let:=d _ b (Zi _);let:=a _ i b hi q
  lia
def tZ{t:nz}(a:EF t.place)(h:t.place[i]?∣j):t.slot j= .live i:=by
 unfold slot;dsimp only;rw[EG a h,h];simp
def lh{t:nz}(a:EF t.place)(b:t.dummies= #[])(j:iv):(∃i,t.place[i]?∣j/\t.slot j= .live i)\/(j∉t.place.toList/\t.slot j= .empty):=by
 by_cases h:j∈t.place.toList
 .let%[i|hi]:=Xf h;let hi:=↑hi
  show .inl %[i,hi|tZ a hi]
 .show .inr %[h|?_];unfold slot;rw[ku,ku]
  .rw[b];simp[has]
  .intro q;show h (QC.mpr (Ph ↑q))
def xa(h:t.mask=t'.mask)(x:on):∀n,stand t x n=stand t' x n
 | 0=>by
   change t.probeStart x=t'.probeStart x;unfold probeStart;rw[h]
 | n+1=>by
   change t.advance _=t'.advance _;rw[xa h x n];unfold SU;rw[h]
def t4(h:t.mask=t'.mask)(x:on)(n:iv):way t x n=way t' x n:=by unfold way;rw[xa h]
structure WF (t:nz) (es:ow (on×jg)):Prop where
 pow:∃k,t.mask+1=2^k
 big:7<=t.mask
 dum:t.dummies= #[]
 rise:EF t.place
 inb:∀j∈t.place.toList,j<=t.mask
 size:t.place.size=es.size
 chain:∀(i j:iv) h x,t.place[i]?∣j->es[i]?∣(h,x)->∃n,way t h n=j/\∀m,m<n->way t h m∈t.place.toList
def nodup_sub [MY c]:∀{l m:gN c},l.Nodup->(∀x∈l,x∈m)-> ~~~l<= ~~~m
 |[],_,_,_=>Xe _
 | x::l,m,d,a=>by
   let%[f|g]:=NZ.mp d;let b:=a x Zm;let h:=nodup_sub (m:=m.erase x) g λy i=>(UC (λe=>f (!2))).mpr (a y (Zk _ i))
   rw[gN.length_erase_of_mem b]at h;let:=OY b;rw[Zr]
   lia
def zD(W:WF t es)(R:t.place.size<=t.mask)(h:on):∃m,m+10<=10*RH t.mask/\way t h m∉t.place.toList/\(∀q,q<m->way t h q∈t.place.toList):=by
 let%[k|l]:=W.pow;let ex:∃e,e<=t.mask/\e∉t.place.toList:=by
  show NR λb=>?_
  let: ~~~(p0 (t.mask+1))<= ~~~t.place.toList:=nodup_sub RP λx o=>(λe c=>NR λq=>b %[e,c|q]) x (by let:=zp.mp o;lia)
  rw[Yi,Zb]at this
  lia
 let%[e,c|f]:=ex;let%[n,p|hw]:=zC l h e c;let:∀d,∀n,n<=d->n+10<=10*RH t.mask->way t h n∉t.place.toList->∃m,m+10<=10*RH t.mask/\way t h m∉t.place.toList/\(∀q,q<m->way t h q∈t.place.toList):=by
  intro d
  induction d with
  | zero=>
    intro n r g i;let:n=0:=by lia
    subst this;show%[0,g,i|λq j=>n0 j (X4 _)]
  | succ d s=>
    intro n r g i;by_cases a:∀q,q<n->way t h q∈t.place.toList
    .show%[n,g,i|a]
    .let%[q|j]:=QN.mp a;let%[v|u]:=Classical.not_imp.mp j;show s q ⋯ ⋯ u
 show this n n (Zi _) p (hw▸f)
def lZ(xs:ow a)(p:iv)(x:a)(b:p<=xs.size):(NB xs p x).toList=xs.toList.take p++x::xs.toList.drop p:=by
 unfold NB;rw[Xd,RJ,RK,RK,Ox,Ox];rw[UR,Us,Zn (l:=xs.toList.drop p) ∅];simp
def zE(xs:ow c)(x:c)(f:p<=xs.size)(i:iv):(NB xs p x)[i]? =if i<p then xs[i]? else if i=p then hV x else xs[i-1]? :=by
 let e:(NB xs p x)[i]? =(NB xs p x).toList[i]? :=by simp
 rw[e,lZ xs p x f];let g: ~~~(xs.toList.take p)=p:=!2
 by_cases a:i<p
 .rw[lp a,Y9 ⋯,RC,lp a];simp
 .rw[ku a,Ya ⋯,g];by_cases b:i=p
  .rw[lp b,b,Q7];rfl
  .rw[ku b];obtain⟨d,h⟩:∃d,i-p=d+1:=%[i-p-1|⋯]
   rw[h,gN.getElem?_cons_succ,PZ];rw[show p+d=i-1 by lia];simp
def jR(xs:ow a)(p:iv)(x:a)(b:p<=xs.size):(NB xs p x).size=xs.size+1:=by
 rw[<-Zb,lZ xs p x b,Z9,Zr,Yk,Yg,Zb]
 lia
def EH(t:nz)(h:on):∀n,(stand t h n).j+(stand t h n).more<=t.mask
 | 0=>by
   change Tj h%(t.mask+1) +(NU t.mask _-Tj h%(t.mask+1))<=t.mask;let:=Tg (Tj h) (show 0<t.mask+1 from T7 _);unfold NU
   split<;> lia
 | n+1=>by
   let a:=EH t h n;change(t.advance _).j+(t.advance _).more<=t.mask;unfold SU
   split
   .lia
   .dsimp only[leap];let:=Tg ((stand t h n).i*5+1+(stand t h n).perturb/32) (show 0<t.mask+1 from T7 _);unfold NU
    split<;> lia
def vG(t:nz)(h:on)(n:iv):way t h n<=t.mask:=by
 let:=EH t h n;unfold way
 lia
def WF.put(W:WF t es)(Q:way t h m∉t.place.toList)(T:∀q,q<m->way t h q∈t.place.toList)(r f:re):
 (t.put (way t h m)).2=OE t.place (way t h m)/\(t.put (way t h m)).1.mask=t.mask/\(t.put (way t h m)).1.place.size=t.place.size+1/\(t.put (way t h m)).1.led=t.led/\(t.put (way t h m)).1.plain=t.plain/\(t.put (way t h m)).1.moves=t.moves/\
  WF {(t.put (way t h m)).1 with led:=r,plain:=f} (NB es (t.put (way t h m)).2 (h,x)):=by
 let U:has t.dummies (way t h m)=hY:=by rw[W.dum];simp[has]
 let Y:t.put (way t h m)=({t with place:=NB t.place (OE t.place (way t h m)) (way t h m)},OE t.place (way t h m)):=by
  unfold nz.put;dsimp only;rw[U];rfl
 rw[Y];let%[g,I|J]:=lc W.rise (way t h m)
 generalize hp:OE t.place (way t h m)=p at g I J
 let w:p<=es.size:=by rw[<-W.size];show g
 let s3:∀i (hi:i<t.place.size),p<=i->way t h m<t.place[i]:=λi hi q=>by
  let:=J i hi q;rcases Vi this with e|e
  .show n0 (by rw[e];simp) Q
  .show e
 let c:∀y,y∈(NB t.place p (way t h m)).toList↔y=way t h m\/y∈t.place.toList:=λy=>by
  rw[lZ _ _ _ g,Ys,Yv];let:=Xa p t.place.toList
  constructor
  .rintro(q|q|q)
   .show .inr (Yx q)
   .show .inl q
   .show .inr (gN.mem_of_mem_drop q)
  .rintro(q|q)
   .show .inr (.inl q)
   .rw[<-this]at q;rcases Xm q with q|q
    .show .inl q
    .show .inr (.inr q)
 show%[ρ,ρ,jR _ _ _ g,ρ,ρ,ρ,W.pow,W.big,W.dum,?_,?_,?_|?_]
 .intro a b ha A B;let l:(NB t.place p (way t h m))[a]?∣(NB t.place p (way t h m))[a]:=by simp
  let d:(NB t.place p (way t h m))[b]?∣(NB t.place p (way t h m))[b]:=by simp
  change(NB t.place p (way t h m))[a]<(NB t.place p (way t h m))[b];rw[zE _ _ g]at l d;let ab:b<t.place.size+1:=(jR t.place p (way t h m) g)▸A;by_cases C:a<p
  .rw[lp C]at l;let%[u|E]:=vr.mp l;rw[<-E];by_cases r:b<p
   .rw[lp r]at d;let%[f|v]:=vr.mp d;show v▸W.rise a b u f B
   .rw[ku r]at d;by_cases f:b=p
    .rw[lp f]at d;show(Za d)▸I a u C
    .rw[ku f]at d;let%[v|G]:=vr.mp d;show G▸W.rise a (b-1) u v ⋯
  .rw[ku C]at l;let r: ¬ b<p:=by lia
   let f: ¬ b=p:=by lia
   rw[ku r,ku f]at d;let%[v|G]:=vr.mp d;rw[<-G];by_cases u:a=p
   .rw[lp u]at l;show(Za l)▸s3 (b-1) v ⋯
   .rw[ku u]at l;let%[E|a4]:=vr.mp l;show a4▸W.rise (a-1) (b-1) E v ⋯
 .intro y hy;rcases(c y).mp hy with q|q
  .rw[q];show vG t h m
  .show W.inb y q
 .rw[jR _ _ _ g,jR _ _ _ w,W.size]
 .intro i j h' L hi o;let M:∀n,way {t with place:=NB t.place p (way t h m),led:=r,plain:=f} h' n=way t h' n:=λn=>t4 (t':=t) (by rfl) h' n
  let H:∃n,way t h' n=j/\∀q,q<n->way t h' q∈(NB t.place p (way t h m)).toList:=by
   rw[zE _ _ g]at hi;rw[zE _ _ w]at o;by_cases N:i<p
   .rw[lp N]at hi o;let%[n,n1|z]:=W.chain i j h' L hi o;show%[n,n1|λq s=>(c _).mpr (.inr (z q s))]
   .rw[ku N]at hi o;by_cases O:i=p
    .rw[lp O]at hi o;cases hi;cases o;show%[m,ρ|λq s=>(c _).mpr (.inr (T q s))]
    .rw[ku O]at hi o;let%[n,n1|z]:=W.chain (i-1) j h' L hi o;show%[n,n1|λq s=>(c _).mpr (.inr (z q s))]
  let%[n,n1|z]:=H;show%[n,by rw[M];show n1|λq s=>by rw[M];show z q s]
abbrev nb(t:nz)(h:on):iv->iv
 | 0=>0
 | r+1=>nb t h r+(NU t.mask (aQ t h r).1-(aQ t h r).1) +1
def EI(t:nz)(h:on):∀r d,d<=NU t.mask (aQ t h r).1-(aQ t h r).1->
 stand t h (nb t h r+d)=%[(aQ t h r).1+d,NU t.mask (aQ t h r).1-(aQ t h r).1-d,(aQ t h r).1,(aQ t h r).2|hH]:=by
 let a:∀n i b,stand t h n=%[i,NU t.mask i-i,i,b|hH]->∀d,d<=NU t.mask i-i->stand t h (n+d)=%[i+d,NU t.mask i-i-d,i,b|hH]:=by
  intro n i b e d
  induction d with
  | zero=>intro _;rw[RU,e];rfl
  | succ d c=>
    intro f;change t.advance (stand t h (n+d))=_;rw[c ⋯];unfold SU;rw[lp ⋯]
    grind
 intro r
 induction r with
 | zero=>show a 0 _ _ rfl
 | succ r c=>
   show a _ _ _ ?_;change t.advance _=_;rw[c _ (Zi _)];unfold SU;rw[ku ⋯];rfl
def zF(t:nz)(h:on)(r d:iv)(a:d<=NU t.mask (aQ t h r).1-(aQ t h r).1):way t h (nb t h r+d)=(aQ t h r).1+d:=by
 unfold way;rw[EI t h r d a]
abbrev gC(owner:ow (lx iv))(j:iv):re:=(owner.getD j (hV 0)).isSome
def t5(t:nz)(h:on)(owner:ow (lx iv)):∀(fuel r:iv),(∃a,r<=a/\a<r+fuel/\gC owner (aQ t h a).1=hY)->(∀m,m<nb t h r->gC owner (way t h m)=hX)->
 ∃j n,O4 t.mask owner fuel (aQ t h r).1 (aQ t h r).2∣j/\way t h n=j/\gC owner j=hY/\∀m,m<n->gC owner (way t h m)=hX
 | 0,r,%[a,p,s|_],_=>by lia
 | fuel+1,r,%[a,p,s|g],i=>by
   rw[O4];let u:NU t.mask (aQ t h r).1>=(aQ t h r).1:=by unfold NU;split<;> lia
   let tk:∀k,(owner.getD ((aQ t h r).1+k) (hV 0)).isNone=!gC owner ((aQ t h r).1+k):=λk=>by
    unfold gC;cases owner.getD ((aQ t h r).1+k) (hV 0)<;> rfl
   cases l:(p0 (NU t.mask (aQ t h r).1+1-(aQ t h r).1)).find? λk=>(owner.getD ((aQ t h r).1+k) (hV 0)).isNone with
   | some k=>
     let%[o,b,bs,c|v]:=gN.find?_eq_some_iff_append.mp l;let d:k∈p0 (NU t.mask (aQ t h r).1+1-(aQ t h r).1):=by rw[c];simp
     let d:=zp.mp d;let w:b=p0 k:=by
      let y: ~~~b=k:=by
       let:(p0 (NU t.mask (aQ t h r).1+1-(aQ t h r).1))[~~~b]?∣k:=by rw[c];simp
       rw[RR (by let:=(Xl this).1;simpa using this)]at this;show Za this
      let z:b=(p0 (NU t.mask (aQ t h r).1+1-(aQ t h r).1)).take k:=by
       rw[c,<-y];simp
      rw[z,gN.take_range,RQ ⋯]
     dsimp only;show%[_,nb t h r+k,ρ,zF t h r k ⋯,?_|λm f=>?_]
     .rw[tk]at o;simpa using o
     .by_cases q:m<nb t h r
      .show i m q
      .let:=v (m-nb t h r) (w▸zp.mpr ⋯);rw[tk]at this;rw[show m=nb t h r+(m-nb t h r) by lia,zF t h r _ ⋯];simpa using this
   | none=>
     let all:∀k,k<=NU t.mask (aQ t h r).1-(aQ t h r).1->gC owner ((aQ t h r).1+k)=hX:=λk d=>by
      let:=(gN.find?_eq_none.mp l) k (zp.mpr ⋯);rw[tk]at this;simpa using this
     let A:r≠a:=λe=>by
      let:=all 0 (Xe _);rw[RU,e,g]at this;cases this
     dsimp only;show t5 t h owner fuel (r+1) %[a,⋯,⋯|g] λm f=>by
      by_cases q:m<nb t h r
      .show i m q
      .let f:m<nb t h r+(NU t.mask (aQ t h r).1-(aQ t h r).1) +1:=f;rw[show m=nb t h r+(m-nb t h r) by lia,zF t h r _ ⋯];show all _ ⋯
structure LO (t:nz) (hs:ZM) (owner:ow _):Prop where
 size:owner.size=t.mask+1
 own:∀j q,owner[j]?∣hV q->∃h,hs[q]?∣h/\∃n,way t h n=j/\∀m,m<n->gC owner (way t h m)=hX
 all:∀q,q< ~~~hs->∃j:iv,owner[j]?∣hV q
 one:∀(j j' q:iv),owner[j]?∣hV q->owner[j']?∣hV q->j=j'
def iM(b:j<owner.size):gC owner j=hX↔∃q,owner[j]?∣hV q:=by
 unfold gC;let e:owner.getD j (hV 0)=owner[j]:=!2
 rw[e];let a:owner[j]?∣owner[j]:=by simp
 rw[a];cases owner[j]with
 | none=>simp
 | some q=>simp
def LO.step(L:LO t f owner)(J:t.mask+1=2^k)(room: ~~~f<=t.mask)(h:on):
 ∃j,O4 t.mask owner (RH t.mask) (Tj h%(t.mask+1)) (Tj h)∣j/\LO t (f++[h]) (owner.setIfInBounds j (hV f.length)):=by
 let d:∀h n,way t h n<owner.size:=λh n=>by rw[L.size];let:=vG t h n;lia
 let ex:∃e,e<=t.mask/\gC owner e=hY:=by
  show NR λv=>?_
  let all:∀e,e<t.mask+1->gC owner e=hX:=λe c=>by
   cases q:gC owner e with
   | true=>rfl
   | false=>show n0 %[e,⋯|q] v
  letI g:iv->iv:=λe=>((owner[e]?).getD hH).getD 0
  let w:∀e,e<t.mask+1->owner[e]?∣hV (g e):=λe c=>by
   let%[q|o]:=(λe c=>(iM (L.size▸c)).mp (all e c)) e c;change owner[e]?∣hV (((owner[e]?).getD hH).getD 0);rw[o];rfl
  let nd:((p0 (t.mask+1)).map g).Nodup:=by
   rw[X2,Pq];show Xg (λ{a b} M N A q=>A ?_) (X2.mp RP);let E:=w b (zp.mp N);rw[<-q]at E;show L.one a b _ (w a (zp.mp M)) E
  let:=nodup_sub nd λy O=>by
   let%[e,c|rfl]:=Xo O;let%[h',l|_]:=L.own e _ (w e (zp.mp c));show zp.mpr (Xl l).1
  rw[Z6,Yi,Yi]at this
  lia
 let%[e,c|B]:=ex;let%[r,hr|o]:=p7 J h e c;let%[j,n,Q,G,T|U]:=t5 t h owner (RH t.mask) 0 %[r,Xe _,⋯|o▸B] (λm p=>n0 p (X4 _));show%[j,Q|?_];let Y:j<owner.size:=G▸d h n;let nj:∀q,owner[j]? ≠hV _:=λq e=>by
  let:=(iM Y).mpr %[q|e];rw[T]at this;cases this
 let get:∀i,(owner.setIfInBounds j (hV f.length))[i]? =if j=i then hV _ else owner[i]? :=λi=>by
  rw[ow.getElem?_setIfInBounds]
  split
  .first|rfl|simp
  .rfl
 let keep:∀i,gC owner i=hX->i<owner.size->gC (owner.setIfInBounds j _) i=hX:=λi hi H=>by
  let%[q|e]:=(iM H).mp hi;show(iM (Ql▸H)).mpr ?_;rw[get]
  split
  .show%[_|ρ]
  .show%[q|e]
 show%[by rw[Ql];show L.size,λi q e=>?_,λq o=>?_|λi I q e s=>?_]
 .rw[get]at e
  split at e
  .rename_i C
   cases e;show%[h,by simp,n,by rw[G,C]|λm p=>keep _ (U m p) (d h m)]
  .let%[h',l,n',e2|e3]:=L.own i q e;show%[h',(Y9 (Xl l).1)▸l,n',e2|λm p=>keep _ (e3 m p) (d h' m)]
 .rw[Z9,Yj]at o;by_cases e:q= ~~~f
  .show%[j|by rw[get,lp rfl,e]]
  .let%[i|hi]:=L.all q ⋯;show%[i|?_];rw[get,ku]
   .show hi
   .intro C;rw[<-C]at hi;show nj q hi
 .let u:∀i,owner[i]?∣hV f.length->MO:=λi e=>by
   let%[h',l|_]:=L.own i _ e;let:=(Xl l).1
   lia
  rw[get]at e s
  split at e<;> split at s
  .lia
  .cases e;show n0 s (λz=>u I z)
  .cases s;show n0 e (λz=>u i z)
  .show L.one i I q e s
def xc(c:t.mask+1=2^k)(a:ow on)(room:a.size<=t.mask+1):∃owner,layClean t.mask a∣owner/\LO t a.toList owner:=by
 let d:∀rest done owner,LO t done owner-> ~~~(done++rest)<=t.mask+1->
  ∃b,rest.foldl (λacc h=>do
   let(owner,k)<-acc
   let j<-O4 t.mask owner (RH t.mask) (Tj h%(t.mask+1)) (Tj h)
   pure (owner.setIfInBounds j (hV k),k+1)) (hV (owner,~~~done))∣(b,~~~(done++rest))/\LO t (done++rest) b:=by
  intro rest
  induction rest with
  | nil=>intro done owner L _;show%[owner,by simp|↑L]
  | cons h rest g=>
    intro done owner L i;simp only[Z9,Zr]at i;let%[j,f|l]:=L.step c ⋯ h;let%[b,e|L2]:=g _ _ l (!2);show%[b,?_|↑L2];rw[Y8];let m:(do
     let(owner,k)<-(hV (owner,~~~done))
     let j<-O4 t.mask owner (RH t.mask) (Tj h%(t.mask+1)) (Tj h)
     pure (owner.setIfInBounds j (hV k),k+1))∣(owner.setIfInBounds j (hV done.length),~~~(done++[h])):=by
     change(O4 t.mask owner _ _ _).bind _=_;rw[f];simp
    rw[m,e];simp
 let n:LO t [] (VC (t.mask+1) hH):=%[by simp,λj q e=>by
  rw[Tq]at e
  split at e<;> simp at e,λq o=>n0 o (X4 _)|λj p q e _=>by
  rw[Tq]at e
  split at e<;> simp at e]
 let%[owner,e|L]:=d a.toList [] _ n (room);show%[owner,?_|L];unfold layClean;rw[<-ow.foldl_toList];rw[show(0)= ~~~([]) from rfl,e];rfl
def xf(n:iv):∀fuel k,3<=k->n<2^(k+fuel)->(2^k<=2*n\/k=3)->∃a,3<=a/\U4 n fuel (2^k)=2^a/\n<2^a/\(2^a<=2*n\/a=3)
 | 0,k,b,c,d=>%[k,b,rfl,c|d]
 | fuel+1,k,b,c,d=>by
   rw[U4];by_cases h:2^k<=n
   .rw[lp h];let e:2^k*2=2^(k+1):=by rw[QB]
    rw[e];show xf n fuel _ ⋯ ((show k+1+fuel=k+(fuel+1) by lia)▸c) (.inl ⋯)
   .rw[ku h];show%[k,b,ρ,⋯|d]
def zG(a:n<2^60):∃k,3<=k/\sizeAbove n=2^k/\n<2^k/\(2^k<=2*n\/k=3):=
 xf n 64 3 (Zi _) (Zg a (PF (!1) ∅)) (.inr rfl)
def p9 [MY c]:∀{l m:gN c},l.Nodup->m.Nodup->(∀x,x∈l↔x∈m)->l.Perm m
 |[],m,_,_,h=>by
  cases m with
  | nil=>simp
  | cons x m=>show n0 ((h x).mpr Zm) ∅
 | x::l,m,d,b,h=>by
   let%[f|g]:=NZ.mp d;show Qr (UM x (p9 g (b.erase x) λy=>?_)) (gN.perm_cons_erase ((h x).mp Zm)).symm
   constructor
   .intro a;show(UC (λe=>f (!2))).mpr ((h y).mp (Zk _ a))
   .intro a;rcases Yv.mp ((h y).mpr (gN.mem_of_mem_erase a))with q|q
    .show n0 q (λe=>by rw[e]at a;show b.not_mem_erase a)
    .show q
def laid_ok{t:nz}(hp:t.mask+1=2^k)(C:7<=t.mask)(es:ow (on×jg))(room:es.size<=t.mask)(finger moves:iv)(led plain:re):
 ∃t' c,laid t.mask finger moves led plain (es\1)∣(t',c)/\t'.mask=t.mask/\t'.led=led/\t'.plain=plain/\t'.moves=moves/\WF t' (c.filterMap (es[·]?))/\(c.filterMap (es[·]?)).toList.Perm es.toList:=by
 let%[owner,e|L]:=xc hp (es\1) (by rw[YF];lia);let E:(es\1).toList.length=es.size:=by simp
 obtain⟨live,u⟩:∃live,(p0 (t.mask+1)).filterMap (λj=>(owner.getD j hH).map (λq=>(j,q)))=live:=%[_|rfl]
 show%[%[t.mask,(live\1).toArray,#[],finger,led,moves|plain],(live\2).toArray,by unfold laid;rw[e,<-u];rfl,ρ,ρ,ρ,ρ|?_];let gd:∀j q,owner.getD j hH∣q↔owner[j]?∣hV q:=λj q=>by
  rw[ow.getD_eq_getD_getElem?];cases owner[j]? with
  | none=>simp
  | some o=>simp
 let mem:∀j q,(j,q)∈live↔owner[j]?∣hV q:=λj q=>by
  rw[<-u,Np]
  constructor
  .rintro⟨G,ab,H⟩;let%[w,r|I]:=MS.mp H;cases I;show(gd j q).mp r
  .intro ho;let:j<owner.size:=by
    let%[d|_]:=vr.mp ho;show d
   show%[j,zp.mpr (by rw[L.size]at this;show this)|?_];rw[(gd j q).mpr ho];rfl
 let g:(live\1).Pairwise (·<·):=by
  rw[<-u,Pq,gN.pairwise_filterMap];show XN (λ{a b} s x hx y J=>?_) gN.pairwise_lt_range;let%[_,_|rfl]:=MS.mp hx;let%[_,_|rfl]:=MS.mp J;show s
 let v:∀j q,(j,q)∈live->q<es.size:=λj q h=>by
  let%[h',r|_]:=L.own j q ((mem j q).mp h);let:=(Xl r).1
  lia
 let A:(live\2).Nodup:=by
  rw[X2,Pq];show Xg (λ{a b} M C s f=>?_) (by rw[Pq]at g;show g);let d:=(mem a.1 a.2).mp M;let N:=(mem b.1 b.2).mp C;rw[<-f]at N;let:=L.one _ _ _ d N
  lia
 let B:(live\2).Perm (p0 es.size):=p9 A RP λq=>by
  constructor
  .intro f;let%[%[j|w],d|rfl]:=Xo f;show zp.mpr (v j w d)
  .intro f;let%[j|O]:=L.all q (E▸zp.mp f);show Xp %[(j,q),(mem j q).mpr O|rfl]
 let fm:∀(l:gN iv),(∀q∈l,q<es.size)->l.filterMap (es[·]?)=l.map (λq=>es.getD q (0,Nu)):=by
  intro l
  induction l with
  | nil=>intro _;rfl
  | cons q l ih=>
    intro f;let d:=f q Zm;let r:es[q]?∣es.getD q (0,Nu):=by simp[S9,d]
    rw[Y1,r,Yp,ih λy J=>f y (Zk _ J)]
 let Q:((live\2).toArray.filterMap (es[·]?)).toList=(live\2).map (λq=>es.getD q (0,Nu)):=by
  rw[ow.toList_filterMap,UJ];show fm _ λq f=>by
   let%[%[j|w],d|rfl]:=Xo f;show v j w d
 let er:es.toList=(p0 es.size).map (λq=>es.getD q (0,Nu)):=by
  apply QR
  .simp
  .intro i d N;let d:=↑d
   simp[S9,d]
 show%[%[%[k|hp],C,ρ,?_,λj O=>?_,?_|λi j h x hi z=>?_]|?_]
 .intro a b M T s;let:=Tl.mp g a b (M) (T) s;simpa using this
 .let%[%[G|q],d|rfl]:=Xo O;let:=(vr.mp ((mem G q).mp d)).1;rw[L.size]at this
  lia
 .rw[<-Zb (xs:=ow.filterMap _ _),Q];simp
 .let hi:(live\1)[i]?∣j:=↑hi
  let z:((live\2).toArray.filterMap (es[·]?)).toList[i]?∣(h,x):=↑z
  rw[Q,Yq,Zl]at z;rw[Zl]at hi;cases U:live[i]? with
  | none=>rw[U]at hi;cases hi
  | some p=>
    let%[G|q]:=p;rw[U]at hi z;cases hi;let hm:=Z8 U;let%[h',r,n,n1|n2]:=L.own _ q ((mem _ q).mp hm);let f:=v _ q hm;let eh:h'=h:=by
     let I:(es\1).toList[q]?∣(es[q]).1:=by simp[f]
     rw[I]at r;let e3:es.getD q (0,Nu)=es[q]:=by simp[S9,f]
     simp only[Function.comp,lx.map_some,e3,lx.some.injEq]at z;rw[z]at r;show(Za r).symm
    subst eh;let wm:∀n,way {mask:=t.mask,place:=(live\1).toArray,dummies:= #[],finger:=finger,led:=led,moves:=moves,plain:=plain} h' n=way t h' n:=λn=>t4 (t':=t) (by rfl) h' n
    show%[n,by rw[wm];show n1|λm Y=>?_];rw[wm];let%[w|H]:=(iM (by rw[L.size];let:=vG t h' m;lia)).mp (n2 m Y);show Xp %[(way t h' m,w),(mem _ _).mpr H|rfl]
 .rw[Q,er];show B.map _
section
variable{prog:nX}{w:wh}{K:Type}[MY K]{knd:KeyKind prog w K}{A:vj}{E:ZE}{s:md}
abbrev EL(knd:KeyKind prog w K)(h:yc)(es:ow (on×jg)):Prop:=∀(i:iv) e,es[i]?∣e->∃r k,e=(zz knd k,m4 r)/\M3 knd h k r
def n6(g:M3 knd s.heap ks r)(h:Q hY s):↥A (SO 8 (.ref r)) Q E s:=by
 let l:=g.typeIs;let%[o,c,n,m,_,p|hi]:=g;unfold SO;show Z2 (Rn l (Z2 (Z3 (Z2 (Nj m p (Z2 ?_))))));rw[<-Rt];show W7 _ (λrest r s'=>r=(hH,())/\s'=s/\∃i,ItemsAre knd i rest) _ ?_ ?_ _ _ %[rfl,rfl,ks|hi]
 .intro x rest r s' %[rfl,rfl,i|d];cases d with
  | @cons k1 v f j q b=>
    let u:=knd.byValue _ _ q;let e:SO 7 x=pure hY:=by
     cases x with
     | ref a=>simp[carriedByValue]at u
     | _=>first|rfl|lia|lia
    show Z2 ?_;rw[e];show Z3 (Z3 %[rfl,rfl,f|b])
 .intro r s' %[rfl,rfl|_];show Z3 h
def zH(d:M3 knd s.heap ks r):∀(l:ZG),(∀y∈l,∃a c,y=m4 a/\M3 knd s.heap c a)->∀{Q:re->md->Prop},Q hY s->↥A (searchCouldBeSeen (.ref r) l) Q E s:=by
 intro l g Q h;show Z2 (W7 _ (λrest x s'=>x=(hH,())/\s'=s/\∀y∈rest,∃a c,y=m4 a/\M3 knd s.heap c a) _ ?_ ?_ _ _ %[rfl,rfl|g])
 .intro y rest x s' %[rfl,rfl|e];let%[a,c,rfl|b]:=e y Zm;let f:=λy i=>e y (Zk _ i)
  dsimp only
  split
  .show Z3 %[rfl,rfl|f]
  .show Z2 (Vs d (Z2 (Vs b (Z2 (n6 d (Z2 (n6 b (Z3 %[rfl,rfl|f]))))))))
 .intro x s' %[rfl,rfl|_];show Z3 h
def vH(hu:A.units<Os)(ho:s.heap.get? a∣o)(hd:o.data= .set es ep t)(W:WF t es)(room:t.place.size<=t.mask)(ac:t.mask<=9000)
 (el:EL knd s.heap es) (hk:M3 knd s.heap k r)
 (h1:(∃(i:iv) (g:kw),es[i]?∣(zz knd k,m4 g)/\M3 knd s.heap k g)->Q (.there hH) s)
 (h2:∀m,way t (zz knd k) m∉t.place.toList->(∀q,q<m->way t (zz knd k) q∈t.place.toList)->(∀(i:iv) g u,es[i]?∣(zz knd u,m4 g)->M3 knd s.heap u g->u≠k)->Q (.free (way t (zz knd k) m) hY) s):
 ↥A (setSearch a (.ref r) (zz knd k) hX) Q E s:=by
 generalize hh:zz knd k=h at h1 h2
 let hf:t.fits es.size=hX:=by
  unfold fits fill;rw[W.dum];simp[W.size];show W.size▸room
 let%[M,m1,m2|m3]:=zD W room h;let me:t.slot (way t h M)= .empty:=by
  rcases lh W.rise W.dum (way t h M)with⟨i,e,_⟩|⟨_,e⟩
  .show n0 (QC.mpr (Ph e)) m2
  .show e
 let ae:t.gaveWay=hY:=by
  let%[c|hc]:=W.pow;let hb:=W.big;let c0:c≠0:=λq=>by rw[q]at hc;lia
  let%[c'|rfl]:=iv.exists_eq_succ_of_ne_zero c0;rw[QB]at hc;unfold gaveWay;let:t.mask%2=1:=by lia
  simp[this]
 let N:∀(fuel n:iv) (st:lx Probe),st.getD (t.probeStart h)=stand t h n->n<=M->M<n+fuel->(∀j,j<n->∀(i:iv) g u,t.slot (way t h j)= .live i->es[i]?∣(zz knd u,m4 g)->M3 knd s.heap u g->u≠k)->
  ↥A (Ot a (.ref r) h hX fuel st) Q E s:=by
  intro fuel
  induction fuel with
  | zero=>intro n st _ a1 a2;lia
  | succ fuel ih=>
    intro n st ag hn a4 O;unfold Ot;show Z2 (pp ho hd hf ?_);dsimp only;rw[ae];simp only[Zz,OO];rw[ag]
    generalize ah:UU t _ h (stand t h n)=pr
    let l:Q9 t (λi=>((es[i]?)\1).getD 0) h (10*RH t.mask) (stand t h n)=pr:=ah;let%[q,q1,q2,q3|q4]:=w8 (t:=t) W.dum (hashAt:=λi=>((es[i]?)\1).getD 0) (h:=h) (10*RH t.mask) n M hn ⋯ me;rcases q4 with⟨I,e2⟩|⟨i,I,e2,e3⟩
    .rw[e2]at l;subst l;let hq:q=M:=by
      rcases Vi q2 with z|z
      .show z
      .let:=m3 q z;rcases lh W.rise W.dum (way t h q)with⟨i,_,T⟩|⟨z2,_⟩
       .rw[I]at T;cases T
       .show n0 this z2
     subst hq;dsimp only;show Z3 (h2 q m2 m3 λi g u p v B=>?_);subst B;rw[hh]at p;let hi:i<es.size:=(vr.mp p).1;let hp:t.place[i]?∣t.place[i]'(W.size▸hi):=by simp
     let%[U,c1|c2]:=W.chain i _ h _ hp p;let C:=tZ W.rise hp;let ak:U<q:=by
      rcases Vv U q with z|z|z
      .show z
      .rw[z,]at c1;rw[<-c1,me]at C;cases C
      .show n0 (c2 q z) m2
     rw[<-c1]at C;by_cases Y:U<n
     .show O U Y i g u C (hh▸p) v rfl
     .let%[G,T|ab]:=q3 U ⋯ ak;rw[C]at T;cases T;rw[p]at ab;show ab rfl
    .rw[e3]at l;subst l;obtain⟨x0,p⟩:∃e,es[i]?∣e:=by
      let al:t.place[i]?∣way t h q:=by
       rcases lh W.rise W.dum (way t h q)with⟨G,p1,H⟩|⟨_,H⟩
       .rw[I]at H;cases H;show p1
       .rw[I]at H;cases H
      let:=(vr.mp al).1;show%[es[i]'(W.size▸this)|by simp[<-W.size,this]]
     let%[g,u,rfl|v]:=el i x0 p;let a5:q<M:=Vh q2 λz=>by rw[z,me]at I;cases I
     let J:↥A (do
      let f<-PY [m4 g] (eqBool (m4 g) (m4 r))
      let x<-setState a
      if(hX&&f)=hX then pure (QV hH)
      else match x.2.snd.sameMemory t.moves t.mask with
       | some same=>
         match if same=hX then x.2.snd.slot (way t h q)else Slot.empty with
         | Slot.live G=>
           match x.fst[G]? with
           | hV (_,y')=>do
             let b<-isSame y' (m4 g)
             let d<-pure (if b=hX then hV G else hH)
             match d with
              | none=>do
                RN "set.search.anew"
                Ot a (m4 r) h hX fuel hH
              | some G=>
                if f=hX then pure (QV (hV G))
                else Ot a (m4 r) h hX fuel (hV (stand t h (q+1)))
           | none=>do
             let d<-pure hH
             match d with
              | none=>do
                RN "set.search.anew"
                Ot a (m4 r) h hX fuel hH
              | some G=>
                if f=hX then pure (QV (hV G))
                else Ot a (m4 r) h hX fuel (hV (stand t h (q+1)))
         | x=>do
           let d<-pure hH
           match d with
            | none=>do
              RN "set.search.anew"
              Ot a (m4 r) h hX fuel hH
            | some G=>
              if f=hX then pure (QV (hV G))
              else Ot a (m4 r) h hX fuel (hV (stand t h (q+1)))
       | x=>P6 "set.changed-during-lookup:is-the-new-block-at-the-old-address") Q E s:=by
      show Z2 (v0 (wpAny_eqBool_tuple hu v hk (Z2 (pp ho hd hf ?_))));dsimp only;by_cases B:u=k
      .subst B;rw[Zf rfl];show Z3 (h1 %[i,g,(by rw[p]at e2;show e2)▸p|v])
      .rw[Zh B];let sm:t.sameMemory t.moves t.mask∣hX:=by unfold sameMemory;rw[lp ∅]
       rw[sm];simp only[Rr];rw[I];dsimp only;rw[p];dsimp only;let same:isSame (m4 g) (m4 g)=pure hX:=by
        unfold isSame;simp
       show Z2 ?_;rw[same];show Z3 ?_;simp only[Rr];show Z2 (Z3 ?_);dsimp only;show ih (q+1) _ rfl ⋯ ⋯ λj hj i2 r2 k2 s2 g2 t2=>?_
       by_cases an:j<n
       .show O j an i2 r2 k2 s2 g2 t2
       .by_cases as:j=q
        .subst as;rw[I]at s2;cases s2;rw[p]at g2;let:g=r2:=by
          let:=Za g2;injection this with _ z
          injection z
         subst this;show(v.inj t2)▸B
        .let%[i3,p1|H]:=q3 j ⋯ ⋯;rw[s2]at p1;cases p1;rw[g2]at H;intro z;rw[z]at H;show H hh
     dsimp only;rw[p];dsimp only;by_cases L:(!t.led)=hX
     .rw[lp L];show Z2 (zH hk _ (λy hy=>?_) ?_)
      .let%[e,a0|rfl]:=Xo hy;let%[i2|hi2]:=ow.getElem?_of_mem ((ow.mem_filter.mp (QC.mp a0)).1);let%[r2,k2,rfl|a3]:=el i2 e hi2;show%[r2,k2,ρ|a3]
      .show J
     .rw[ku L];show J
 show N 100000 0 hH rfl (Xe _) (by unfold RH at m1;lia) (λj hj=>n0 hj (X4 _))
end
structure IN (es:ow _) (t:nz) (led:re):Prop where
 wf:WF t es
 roomy:t.place.size*5<t.mask*3
 small:t.mask<=7\/t.mask+1<=8*es.size
 led:t.led=led
 plain:es.size≠0->t.plain=hY
def IN.fits{es:ow _}{t:nz}{led:re}(I:IN es t led):t.fits es.size=hX:=by
 unfold Ow fill;rw[I.wf.dum];let:=I.roomy;simp[I.wf.size];rw[<-I.wf.size]
 lia
def IN.fresh(finger moves:iv)(led:re):IN #[] (PH finger moves led) led:=
 %[%[%[3|rfl],Zi _,rfl,λa b c=>n0 c (by simp[PH]),λj d=>by simp[PH]at d,rfl|λi j h x hi=>by simp[PH]at hi],show 0*5<7*3 from !1,.inl (Zi _),rfl|λq=>n0 rfl q]
section
variable{prog:nX}{w:wh}{K:Type}[MY K]{knd:KeyKind prog w K}{A:vj}{E:ZE}{s:md}
def relay_w(d:s.heap.get? a∣o)(e:o.data= .set es z t)(i:t.fits es.size=hX)(B:es.size<=n)(hw:n<=4000)
 (h:∀c t',c.toList.Perm es.toList->WF t' c->t'.led=t.led->t'.plain=t.plain->n<=t'.mask->t'.mask+1<=2*n\/t'.mask<=7->Q () (s>>>s.heap.update a (Oh c t'))):
 ↥A (VI a n) Q E s:=by
 let%[k,j,f,lt|l]:=zG (n:=n) ⋯;let C:8<=2^k:=nI (by simp:8<=2^3) (PF ∅ j);let g:2^k<=2*n\/2^k=8:=by
  rcases l with q|q
  .show .inl q
  .show .inr (by rw[q])
 let m:2^k<=8000:=by rcases g with q|q<;> lia
 letI p:nz:={t with mask:=2^k-1}
 let%[t',b,r,G,u,v,H,W|P]:=laid_ok (t:=p) (k:=k) (by change 2^k-1+1=2^k;lia) (by change 7<=2^k-1;lia) es (by change es.size<=2^k-1;lia) t.finger _ t.led t.plain;let y:t.relaid (es\1) n∣(t',b):=by
  unfold relaid;rw[f];show r
 let sz:(b.filterMap (es[·]?)).size=es.size:=by rw[<-Zb,P.length_eq,Zb]
 show Z2 (pp d e i ?_);dsimp only;rw[f,ku (by rw[PySem.sizeLine_eq];lia)];rw[y];show Z2 ?_;change tI _ A (if((b.filterMap _).size != es.size)=hX then _ else pure _) _ E s;rw[ku (by simp[sz])];show Z3 (N3 d e (h _ t' P W u v ⋯ (by rcases g with q|q<;> lia)) (by rw[sz,PySem.sizeLine_eq];lia))
def EJ(d:s.heap.get? a∣o)(e:o.data= .set es i t)(f:t.fits es.size=hX)(j:es.size<=1000)(m:es.size≠0)(c:t.plain=hY)
 (h:∀b t',b.toList.Perm es.toList->IN b t' t.led->t'.plain=hY->Q () (s>>>s.heap.update a (Oh b t'))):
 ↥A (VI a (grown es.size)) Q E s:=by
 let g:grown es.size=es.size*4:=by unfold grown;rw[ku ⋯]
 rw[g];show relay_w d e f ⋯ ⋯ λb t' P W l p n m2=>?_
 let sz:b.size=es.size:=by rw[<-Zb,P.length_eq,Zb]
 show h b t' P %[W,by rw[W.size,sz];lia,⋯,l|λ_=>p▸c] (p▸c)
def Ca{led:re}(M:A.units<Os)(n:s.heap.get? a∣o)(l:o.data= .set es ep t)(I:IN es t led)(hn:es.size+1<=1000)
 (el:EL knd s.heap es) (B:M3 knd s.heap k r) (hv:∀(s':md) (N:re->md->Prop),M3 knd s'.heap k r->N hY s'->↥A (Tw 8 (.ref r)) N E s')
 (h1:(∃(i:iv) (p:kw),es[i]?∣(zz knd k,m4 p)/\M3 knd s.heap k p)->Q hY {s with toks:=s.toks+(~~~k+1)})
 (O:(∀(i:iv) (p:kw) (C:gN K),es[i]?∣(zz knd C,m4 p)->M3 knd s.heap C p->C≠k)->∀f t' G h',h'.get? a=hV {o with data:= .set f G t'}->vu a s.heap h'->f.toList.Perm (es.toList++[(zz knd k,m4 r)])->IN f t' led->Q hX {s with heap:=h',toks:=s.toks+(~~~k+1)}):
 ↥A (U7 a (.ref r)) Q E s:=by
 unfold U7;show v0 (Z2 (wpAny_pyHash_tuple M B ?_));unfold U6;show v0 ?_;unfold setAddHashedIn;show Z2 (pp (s:={s with toks:=s.toks+(~~~k+1)}) n l I.fits ?_);dsimp only;let ns:byScan (m4 r) es=hY:=rfl;rw[ns];simp only[Zz,OO];let rm:=I.roomy;show Z2 (vH (s:={s with toks:=s.toks+(~~~k+1)}) M n l I.wf ⋯ (by rcases I.small with q|q<;> lia) el B (λq=>?_) λm T m2 U=>?_)
 .show Z3 (h1 q)
 .dsimp only;show Z2 (pp (s:={s with toks:=s.toks+(~~~k+1)}) n l I.fits ?_);dsimp only;let u:=I.wf;let%[p1,Y,p3,p4,p5,p6|Wp]:=u.put (x:=m4 r) T m2 t.led hY;let%[_,_,_,_,_,_|Wq]:=u.put (x:=m4 r) T m2 (t.put (way t (zz knd k) m)).1.led (t.put (way t (zz knd k) m)).1.plain;let v:(t.put (way t (zz knd k) m)).2<=es.size:=by
   rw[p1,<-u.size];show(lc u.rise _).1
  let d:(NB es (t.put (way t (zz knd k) m)).2 (zz knd k,m4 r)).size=es.size+1:=jR _ _ _ v;let g:(NB es (t.put (way t (zz knd k) m)).2 (zz knd k,m4 r)).toList.Perm (es.toList++[(zz knd k,m4 r)]):=by
   rw[lZ _ _ _ v];let q:=Xa (t.put (way t (zz knd k) m)).2 es.toList;show Qr gN.perm_middle ?_;rw[q];show Q5 (l₁:=[_])
  generalize ab:NB es _ _=c at Wp Wq d g
  let e:∀b:nz,WF b c->b.mask=t.mask->b.place.size=t.place.size+1->b.led=led->b.plain=hY->
   ↥A (do VG a c b;if(!false&&b.tooFull)=hX then do VI a (grown (es.size+1));pure hX else pure hX) Q E {s with toks:=s.toks+(~~~k+1)}:=λb y e1 e2 e3 e4=>by
   let H:=by
    let q:=MT (Oh c b) n (by rw[R5 c b l];rfl);rwa[R5 c b l]at q
   let b1:=vu.update s.heap a (Oh c b);show Z2 (N3 n l ?_ (d▸nI hn (!1)));let J:b.tooFull=hX↔b.mask*3<=b.place.size*5:=by
    unfold tooFull fill;rw[y.dum];simp
   by_cases hf:b.tooFull=hX
   .rw[lp (by simp[hf])];let z:b.fits c.size=hX:=by
     unfold Ow fill;rw[y.dum];simp[y.size];show y.size▸(by rw[e1,e2];let:=u.big;lia)
    rw[<-d];show Z2 (EJ H rfl z ⋯ ⋯ e4 λh L P3 I3 _=>Z3 ?_);let g2:=by
     let q:=MT (Oh h L) H (by rfl);rwa[R5 h L rfl]at q
    show O U h L _ _ g2 (b1.trans (vu.update _ a _)) (P3.trans g) (by rw[e3]at I3;show I3)
   .rw[ku (by simp[hf])];show Z3 (O U c b _ _ H b1 g %[y,⋯,?_,e3|λ_=>e4]);rw[e1,d];rcases I.small with q|q
    .show .inl q
    .show .inr ⋯
  by_cases j:(t.put (way t (zz knd k) m)).1.plain=hX
  .rw[lp j];show Z2 (hv _ _ B (e _ Wp Y p3 I.led rfl))
  .rw[ku j];show e _ Wq Y p3 (p4.trans I.led) ↑j
end
end _ST
namespace _LL
open PySem PySem.Spec PyProof.Rows _ST
abbrev jc{a:Type}[MY a](ps:gN (kw×a))(p:kw×a):gN (kw×a):=if p.2∈ps\2 then ps else ps++[p]
abbrev bJ{a:Type}[MY a](l:gN (kw×a)):gN (kw×a):=l.foldl jc []
section
variable{κ:Type}[MY κ]
def EK{ps:gN _}{p q:kw×κ}(h:q∈jc ps p):q∈ps\/q=p:=by
 unfold jc at h
 split at h
 .show .inl h
 simp_all
def Cb{ps:gN (kw×κ)}{p:kw×κ}{k:κ}:k∈(jc ps p)\2↔k∈ps\2\/k=p.2:=by
 unfold jc;by_cases h:p.2∈ps\2
 .rw[lp h];show%[.inl|λq=>q.elim id λe=>e▸h]
 .rw[ku h,Zd,Ys];simp
def zI{ps:gN (kw×κ)}{p:kw×κ}(h:(ps\2).Nodup):((jc ps p)\2).Nodup:=by
 unfold jc
 split
 .show h
 .rename_i a
  rw[Zd];show oU h a
def AD:∀(l ps:gN (kw×κ)),(ps\2).Nodup->((l.foldl jc ps)\2).Nodup/\(∀k,k∈(l.foldl jc ps)\2↔k∈ps\2\/k∈l\2)/\(∀q∈l.foldl jc ps,q∈ps\/q∈l)
 |[],ps,h=>%[h,λk=>by simp|λq a=> .inl a]
 | p::l,ps,h=>by
   let%[b,c|d]:=AD l _ (zI h);rw[Y8];show%[b,λk=>?_|λq a=>?_]
   .rw[c,Cb,Yp,Yv]
    grind
   .rcases d q a with z|z
    .rcases EK z with z|z
     .show .inl z
     .show .inr (z▸Zm)
    .show .inr (Zk _ z)
def eT(l:gN (kw×κ)):((bJ l)\2).Nodup:=(AD l [] X3).1
def jd(l:gN (kw×κ))(k:κ):k∈(bJ l)\2↔k∈l\2:=by
 let:=(AD l [] X3).2.1 k;simpa [bJ]using this
def bw(l:gN (kw×κ)):∀q∈bJ l,q∈l:=λq a=>by
 rcases(AD l [] X3).2.2 q a with z|z
 .cases z
 .show z
def vJ{l:gN (kw×κ)}{i:iv}{p:kw×κ}(h:l[i]?∣p):bJ (l.take (i+1))=jc (bJ (l.take i)) p:=by
 unfold bJ;rw[X9,h,Vk];rfl
end
section
variable{prog:nX}{w:wh}{κ:Type}[MY κ]{knd:PySem.KeyKind prog w κ}{A:vj}{E:ZE}{s:md}{a:kw}
abbrev vK(w:wh)(knd:PySem.KeyKind prog w κ)(a:kw)(ps:gN (kw×gN κ))(h:yc):Prop:=
 ∃o es b t,h.get? a∣o/\o.ExactSet/\o.data= .set es b t/\IN es t (!aY w)/\es.toList.Perm (ps.map λp=>(zz knd p.2,m4 p.1))
def vK.keep(S:vK w knd a ps h)(k:∀o,h.get? a∣o->h'.get? a∣o):vK w knd a ps h':=by
 let%[o,es,b,t,c|r]:=S;show%[o,es,b,t,k o c|r]
def AE(x:M3 knd h k r)(q:∀o,h.get? r∣o->h'.get? r∣o):M3 knd h' k r:=by
 let%[o,b,n,c|z]:=x;show%[o,b,n,q o c|z]
def EM(u:A.units<Os)(v:vK w knd a ps s.heap)(tk:∀q∈ps,M3 knd s.heap q.2 q.1)(y:M3 knd s.heap p.2 p.1)(room: ~~~ps+1<=1000)
 (B:∀(s':md) (l:re->md->Prop),M3 knd s'.heap p.2 p.1->l hY s'->↥A (Tw 8 (.ref p.1)) l E s')
 (m:∀h' b tk,vu a s.heap h'->vK w knd a (jc ps p) h'->s.toks<=tk->Q b {s with heap:=h',toks:=tk}):↥A (U7 a (.ref p.1)) Q E s:=by
 let%[o,es,C,t,n,f,r,I|P]:=v;let hn:=by
  let:=P.length_eq;rw[Z6,Zb]at this;show this
 let mem:∀i e,es[i]?∣e->∃q∈ps,e=(zz knd q.2,m4 q.1):=λi e g=>by
  let:=QC.mpr (Ph g);let%[q,c|rfl]:=Xo (P.mem_iff.mp this);show%[q,c|ρ]
 let G:EL knd s.heap es:=λi e g=>by
  let%[q,c|rfl]:=mem i e g;show%[q.1,q.2,ρ|tk q c]
 show Ca u n r I ⋯ G y B (λ%[i,H,e|J]=>?_) λd h t' j h' L M N O=>?_
 .let%[q,c|T]:=mem i _ e;let U:H=q.1:=by injection T with _ z;injection z
  subst U;show m s.heap hY _ (vu.refl a s.heap) ?_ (Qh _ _);unfold jc;rw[lp (Xp %[q,c|(J.inj (tk q c)).symm])];show%[o,es,C,t,n,f,r,I|P]
 .show m h' hX _ M ?_ (Qh _ _);unfold jc;rw[ku]
  .show%[_,h,j,t',L,f,ρ,O|N.trans ?_];rw[Zd];show P.append_right _
  .intro Y;let%[q,c|e]:=Xo Y;let:=P.mem_iff.mpr (Xp %[q,c|rfl]);let%[i|hi]:=Xf this;show d i q.1 q.2 ↑hi (tk q c) e
end
section
variable{prog:nX}{w:wh}{κ:Type}[MY κ]{knd:PySem.KeyKind prog w κ}{A:vj}{E:ZE}{s:md}
def rZ(y:A.handled=hH)(Y:A.units+16<Os)(z:s.heap.IsList l a)(hi:a.toList=ps.map λp=>m4 p.1)(tk:∀p∈ps,M3 knd s.heap p.2 p.1)(U:gN (gN κ))(hU: ~~~U<=999)(g:∀p∈ps,p.2∈U)
 (C:∀p∈ps,∀(B:vj) (s':md) (d:re->md->Prop) (G:ZE),M3 knd s'.heap p.2 p.1->d hY s'->↥B (Tw 8 (.ref p.1)) d G s')
 (H:∀(h':yc) (tk:iv),vK w knd ⇑s (bJ ps) h'->(∀b o,s.heap.get? b∣o->h'.get? b∣o)->Q (.ref ⇑s) {s with heap:=h',toks:=tk}):
 ↥A (call (.type "set") [.ref l]) Q E s:=by
 let c:a.size= ~~~ps:=by rw[<-Zb,hi,Z6]
 show nW (T:=λi h=>vK w knd ⇑s (bJ (ps.take i)) h) y z (λh e=>%[_,#[],0,_,e,%[rfl,rfl|rfl],rfl,IN.fresh 0 0 _|Nw _]) (λi h h' S k=>S.keep k) (λi v s1 Q E e I r k=>?_) λh' t S k=>H h' t (by rwa[c,Zn (Zi _)]at S) k
 rw[<-OU,hi,Zl]at e;let%[p,u|rfl]:=MS.mp e;let sub:∀q∈bJ (ps.take i),q∈ps:=λq j=>Yx (bw _ q j)
 let f:=Z8 u;show EM (p:=p) (by simp only[vj.in1];lia) I (λq j=>AE (tk q (sub q j)) λo=>r _ o) (AE (tk p f) λo=>r _ o) ?_ (λs' d=>C p f _ s' d _) λJ b L M n N=>k J b L M (by rw[vJ u];show n) N
 let q:=nodup_sub (eT (ps.take i)) (m:=U) λk O=>by
  let%[p,f|rfl]:=Xo ((jd _ k).mp O);show g p (Yx f)
 rw[Z6]at q
 lia
end
open PySem PySem.Spec PyProof.Rows
section
variable{prog:nX}{w:wh}{A:vj}{s:md}
def r9{a:kw}{vs:ZG}{n:iv}{kd:Uq}{P:Fin->md->Prop}{E:ZE}(q:s.heap.get? a∣Pp "list" vs.toArray n)(u: ~~~vs<=100000)
 (f:∀j:yc,(∀b o,b≠a->s.heap.get? b∣o->j.get? b∣o)->2<= ~~~vs->∀Q:Uq->md->Prop,Q kd (s>>>j)->↥A (keyKind' vs.toArray) Q E (s>>>j))
 (G:∀j:yc,(∀b o,b≠a->s.heap.get? b∣o->j.get? b∣o)->_SB.Cmp prog w A (λs'=>s'=(s>>>j)) kd λx=>x.1∈vs)
 (h:∀out:ZK,out.toList.Perm vs->P (.done (.ret .none)) (s>>>Ro s.heap a vs out)):
 ↥A (n7.«list.sort» %[[.ref a]|[]]) P E s:=by
 rw[list_sort_plain];let z:a<⇑s:=Zu q;let g: ~~~vs<=lX:=nI u (!1);show Z2 (listItems_at q rfl ?_);show Z2 (PX q rfl ?_ (g));obtain⟨y,l⟩:∃y,(s.heap.update a (NI λ_=> #[])).get? a∣(Pp "list" #[] y):=%[_|get?_update_seq q (λ_=> #[])]
 show Z2 (VJ l rfl ?_);show Z2 (RF ?_ (g));show Z2 (wpAny_newList ?_);show v0 ?_;let keep:∀b o,b≠a->s.heap.get? b∣o->(((s.heap.update a (NI λ_=> #[])).push (Pp "tuple" vs.toArray 0)).push (Pp "list" #[] 0)).get? b∣o:=λb o H e=>
  Z7 _ (Z7 _ ((J5 _ _ (J0 H)).trans e))
 let d:(((s.heap.update a (NI λ_=> #[])).push (Pp "tuple" vs.toArray 0)).push (Pp "list" #[] 0)).get? a∣(Pp "list" #[] y):=by
  rw[Vo _ _ _ (by rw[size_push',Vz];show Zs (Ym z)),Vo _ _ _ (by rw[Vz];show Zs z)];show l
 let f:=f _ keep;change ↥A _ P E {s with heap:=((s.heap.update a (NI λ_=> #[])).push (Pp "tuple" vs.toArray 0)).push (Pp "list" #[] 0)};dsimp only;let I:vs.toArray.size= ~~~vs:=by simp
 let r:(vs.toArray.zip vs.toArray).toList=vs.map λv=>(v,v):=by
  rw[ow.toList_zip,UJ];apply QR
  .simp
  .intro i N m;simp
 let fin:∀c:nY,(sh c).toList.Perm (vs.map λv=>(v,v))->P (.done (.ret .none)) (s>>>(Ro s.heap a vs ((sh c)\2))):=λc p=>h _ (by
  let:=p\2;rwa[Yq,show((λx:NN=>x.2) ∘ λv:jg=>(v,v))=id from rfl,XM,<-ow.toList_map]at this)
 by_cases m:vs.toArray.size<2
 .rw[lp m,lp m];show Z2 (Z3 ?_);rw[Mi.run_pure];show Z2 (Z3 ?_);dsimp only;show Z2 (VJ d rfl (Z2 (PX d rfl ?_ (hsz2:=by rw[YF];change(pairsOf vs).size<=_;rw[pairsOf_size,Na];omega))));simp only[WT,Zz,OO];show Z3 (fin _ (by rw[r]))
 .rw[ku m,ku m];show Z2 (f (by omega) _ ?_);show Z2 (MZ (_SB.sc_sortMany (D:=λx=>x.1∈vs) (st:=Uz kd (vs.toArray.zip vs.toArray) #[] 7 hH) (G _ keep) (λx B=>?_) ?_ rfl rfl
   (Q:=λ_ c=>(sh c).toList.Perm (vs.map λv=>(v,v))/\N6 c=hH) (λc J L=>%[?_|L]) _ rfl) ?_ λ_ _ e=>e.elim)
  .rw[r]at B;let%[v,M|rfl]:=Xo B;show M
  .rw[<-Zb,r,Z6];omega
  .rwa[r]at J
  .rintro⟨⟨⟩,c⟩ s' ⟨rfl,p,C⟩;dsimp only at p C ⊢;show Z2 (VJ d rfl (Z2 (PX d rfl ?_ (hsz2:=?_))))
   .rw[C];simp only[WT,Zz,OO];show Z3 (fin c p)
   .rw[YF,<-Zb,p.length_eq,Z6];show Vx g
nonrec abbrev Kp(s a:md):Prop:=∀b o,s.heap.get? b∣o->a.heap.get? b∣o
def t7{S:kw}{G:ZG->Prop}{O:ZG->ZK->Prop}{Q:ZE}{E:ZE}(d:∀(i:ZE) (R:ZG->md->Prop),(∀c us,G us->Kp s c->c.gens=s.gens->c.os=s.os->R us c)->↥A.in1 (Rv (.ref S)) R i s)(few:∀us,G us-> ~~~us<=1000)
 (r:∀(f:md) (u:vj) (us:ZG) (a:kw) (P:Fin->md->Prop) (i:ZE),G us->f.heap.get? a∣Pp "list" us.toArray 0->(∀b o,s.heap.get? b∣o->f.heap.get? b∣o/\b≠a)->(∀out,O us out->P (.done (.ret .none)) (f>>>Ro f.heap a us out))->↥u (n7.«list.sort» %[[.ref a]|[]]) P i f)
 (v:∀(c s':md) (l:kw) (us:ZG) (out:ZK) (n:iv),G us->O us out->Kp s c->c.gens=s.gens->c.os=s.os->Kp c s'->s'.gens=c.gens->s'.os=c.os->⇑c<=l->s'.heap.get? l=hV {cls:= .type "list",data:= .seq out n}->Q (.ref l) s'):
 ↥A (call (.builtin "sorted") [.ref S]) Q E s:=by
 show Calls.call_function_entry kind_sorted plain_sorted entry_sorted (args_sorted1 _) ?_;unfold n7.«sorted»;show Z2 (m:=checkCount "sorted" 1 1 _) (Z3 ?_);show Z2 (d _ _ λc us g k1 y z=>?_);show Z2 (wpAny_newList ?_ (by let:=few us g;rw[Na];lia));let j:(c.heap.push (Pp "list" us.toArray 0)).get? ⇑c∣Pp "list" us.toArray 0:=Zj _ rfl;show Z2 (v0 (Nc slot_list_sort %[_,j|rfl] entry_list_sort (r (c>>>c.heap.push (Pp "list" us.toArray 0)) _ us _ _ _ g j (λb o e=>%[Z7 _ (k1 b o e)|Zs (Zu (k1 b o e))]) λout q=>%[_,rfl|?_]) (args_list_sort _)));obtain⟨n,B⟩:∃n,(Ro (c.heap.push (Pp "list" us.toArray 0)) ⇑c us out).get? ⇑c∣Pp "list" out n:=sortedHeap_at j;show Z3 %[_,rfl|v c _ ⇑c us out n g q k1 y z (λb C p=>?_) rfl rfl (Zi _) B];let h:=Zu p;change(Ro _ _ _ _).get? b=_;rw[sortedHeap_old (Zs h) (by rw[Zq];show Ym h)];show Z7 _ p
def xg{G:ZG->Prop}{kd:Uq}(few:∀us,G us-> ~~~us<=1000)
 (j:∀us (c:md) (d:vj) (l:ZE) (Q:Uq->md->Prop),G us->2<= ~~~us->Kp s c->Q kd c->↥d (keyKind' us.toArray) Q l c)
 (n:∀us x y (c:md) (d:vj) (Q:re->md->Prop),G us->x∈us->y∈us->Kp s c->(∀b,Q b c)->↥d (keyLt' kd x y) Q (λ_ _=>MO) c)
 (f:md) (d:vj) (us:ZG) (a:kw) (P:Fin->md->Prop) (l:ZE) (g:G us) (p:f.heap.get? a∣Pp "list" us.toArray 0) (i:∀b o,s.heap.get? b∣o->f.heap.get? b∣o/\b≠a) (h:∀out:ZK,out.toList.Perm us->P (.done (.ret .none)) (f>>>Ro f.heap a us out)):↥d (n7.«list.sort» %[[.ref a]|[]]) P l f:=
 r9 p (by let:=few us g;lia) (λq m r u v=>j us _ _ _ u g r (λb o e=>m b o (i b o e).2 (i b o e).1) v) (λq m x y s' z B e=>by
  subst e;show n us _ _ _ _ _ g z B (λb o e=>m b o (i b o e).2 (i b o e).1) λ_=>rfl) h
end
abbrev aP(x y:kG):re:=decide (x.cps.toList<y.cps.toList)
def dI(x:kG):aP x x=hY:=Zh (gN.lt_irrefl _)
def Ku{x y:kG}(h:x.cps.toList=y.cps.toList):x=y:=by
 obtain⟨⟨l⟩⟩:=x
 simp_all
def d0{x y z:kG}(a:aP x y=hX)(b:aP y z=hX):aP x z=hX:=Zf (gN.lt_trans (Zo a) (Zo b))
def fU{x y:kG}(h:aP x y=hY)(a:x≠y):aP y x=hX:=by
 show Zf (NR λb=>a (Ku (gN.le_antisymm b (Sq h))))
def t8:∀(p:kG) (l:ZB),risingS p l=hX->(p::l).Pairwise (λa b=>aP b a=hY)
 | p,[],_=>TN _ _
 | p,x::r,h=>by
   let h:(!ltCps x.cps.toList p.cps.toList&&risingS x r)=hX:=h;rw[Zv,Vp,ltCps_eq]at h;let d:=t8 x r h.2;show UW.mpr %[λy c=>?_|d];rcases Yv.mp c with rfl|c
   .show h.1
   .show Zh (UB.mpr (gN.le_trans (UB.mp (Sq h.1)) (UB.mp (Sq (gN.rel_of_pairwise_cons d c)))))
def Cc:∀(l:ZB),sortedS l=hX->l.Pairwise (λa b=>aP b a=hY)
 |[],_=>Q2
 | p::l,h=>t8 p l h
section
variable{prog:nX}{w:wh}{A:vj}{s:md}{E:ZE}
nonrec abbrev Kv(prog:nX)(w:wh)(h:yc)(zs:ZB)(r:kw):Prop:=M3 (aU prog w) h (zs.map kj) r
def nh:∀{zs:ZB} {vs:ZG},ItemsAre (aU prog w) (zs.map kj) vs->Ng vs zs
 |[],_,h=>by cases h;show .nil
 | z::zs,_,h=>by
   cases h with
   | cons a d=>
     let a:kJ (kj z) _=hX:=a;rcases a9 a with⟨i,t,b,c⟩|⟨y,t,b,c⟩
     .cases b
     .cases b;subst c;show .cons z t (nh d)
inductive l7:ZG->ZG->Prop where
 | nl (us:ZG):l7 [] us
 | nr (us:ZG):l7 us []
 | st (x y:kG) (t u:Tok) {vs us:ZG}:l7 vs us->l7 (.str x t::vs) (.str y u::us)
 | it (x y:on) (t u:Tok) {vs us:ZG}:l7 vs us->l7 (.int x t::vs) (.int y u::us)
def Cd{x y:ZB}{vs us:ZG}(h:Ng vs x)(k:Ng us y):l7 vs us:=by
 induction h generalizing us y with
 | nil=>show .nl _
 | cons _ _ _ a=>
   cases k with
   | nil=>show .nr _
   | cons _ _ k=>show .st _ _ _ _ (a k)
def LS{b fin:re}{Q:re->md->Prop}(h:∀b,Q b s):∀{vs us:ZG} (i:iv),l7 vs us->PySem.W.KatLex prog w A b fin Q (vs.zip us) i s:=by
 intro vs us i k
 induction k generalizing i with
 | nl=>show h fin
 | nr vs=>rw[gN.zip_nil_right];show h fin
 | st x y t u k a=>
   show kat_cons (eqBool_str (kat_go (λ_=>kat_yes (a _)) λ_=>kat_no ?_));cases b&&i==0 with
   | true=>show oneLt_str (h _)
   | false=>show kat_one _ _ (lt_str (h _))
 | it x y t u k a=>
   show kat_cons (W9 (kat_go (λ_=>kat_yes (a _)) λ_=>kat_no ?_));cases b&&i==0 with
   | true=>show oneLt_int (h _)
   | false=>show kat_one _ _ (lt_int (h _))
end
def xh [MY d][MY i](g:d->i)(j:∀a b,g a=g b->a=b)(l:gN (kw×d)):bJ (l.map λp=>(p.1,g p.2))=(bJ l).map λp=>(p.1,g p.2):=by
 let m:∀(l ps:gN _),(l.map λp=>(p.1,g p.2)).foldl jc (ps.map λp=>(p.1,g p.2))=(l.foldl jc ps).map λp=>(p.1,g p.2):=by
  intro l
  induction l with
  | nil=>intro ps;rfl
  | cons p l n=>
    intro ps;rw[Yp,Y8,Y8];let e:jc (ps.map λp=>(p.1,g p.2)) (p.1,g p.2)=(jc ps p).map λp=>(p.1,g p.2):=by
     unfold jc;let f:(g p.2∈(ps.map λp=>(p.1,g p.2))\2)↔p.2∈ps\2:=by
      rw[Yq]
      constructor
      .intro h;let%[q,c|e]:=Xo h;show Xp %[q,c|j _ _ e]
      .intro h;let%[q,c|e]:=Xo h;show Xp %[q,c|by change g q.2=g p.2;rw[e]]
     by_cases h:p.2∈ps\2
     .rw[lp h,lp (f.mpr h)]
     .rw[ku h,ku (λz=>h (f.mp z)),Zd];rfl
    rw[e];show n _
 show m l []
noncomputable abbrev LU(p:kw×ZB):kw×gN Key:=(p.1,p.2.map kj)
def vL:∀a b:ZB,a.map (kj:kG->Key)=b.map kj->a=b
 |[],[],_=>rfl
 |[],_::_,h=>by cases h
 | _::_,[],h=>by cases h
 | x::xs,y::ys,h=>by
   injection h with c d
   injection c with e
   rw[e,vL xs ys d]
section
#where
variable{S:kw}
def qa:∀{vs:ZG} {zs:ZB},Ng vs zs->ItemsAre (aU prog w) (zs.map kj) vs
 | _,_,.nil=> .nil
 | _,_,.cons x t h=> .cons (eJ x t) (qa h)
def Hs(c:zs≠[])(b:Kv prog w s.heap zs r)(h:Q hY s):↥A (Tw 8 (.ref r)) Q E s:=by
 let d:=b.typeIs;let%[o,a,n,e,_,f|hi]:=b;show Z2 (P7 d F.slot_tuple_hash.lookup (Z2 (Nj e f (Z2 ?_))));rw[<-Rt]
 match zs,a.toList,(nh hi),c with
 | z::zs,_,.cons _ t g,_=>
   show Z2 (Z2 (Z3 (Z3 (Z3 (Z3 h)))))
def EN{j m:Type}{f:j->m}{x y:gN m}(h:x.Perm y):∀ps,y=ps.map f->∃ss:gN j,ss.Perm ps/\x=ss.map f:=by
 induction h with
 | nil=>show λps e=>%[[],!2|rfl]
 | cons a _ n=>
   intro ps e;cases ps with
   | nil=>cases e
   | cons p ps=>
     rw[Yp,NT]at e;let%[ss,c|d]:=n ps e.2;show%[p::ss,c.cons p|by rw[e.1,d];rfl]
 | swap a b l=>
   intro ps e
   match ps,e with
   | p::q::ps,e=>
     rw[Yp,Yp,NT,NT]at e;show%[q::p::ps,.swap p q ps|!2]
 | trans _ _ g i=>
   intro ps e;let%[ss,c|d]:=i ps e;let%[ts,o|r]:=g ss d;show%[ts,o.trans c|r]
def xi{M:Type}{S:kw}{ps:gN (kw×M)}{G:ZG->Prop}{T:M9}{Q:ZE}(c:∀(N:ZE) (R:ZG->md->Prop),(∀a vs,vs.Perm (ps.map λp=>m4 p.1)->(∀b o,s.heap.get? b∣o->a.heap.get? b∣o)->a.gens=s.gens->a.os=s.os->R vs a)->↥A.in1 (Rv (.ref S)) R N s)(few: ~~~ps<=1000)
 (tk:∀p∈ps,∃o its n,s.heap.get? p.1∣o/\o.cls= .type "tuple"/\o.data= .seq its n/\G its.toList) (g1:∀i,G i->∃f r,i=f::r/\P8 f=pure (.type T)) (gT:(Nh T != Nh "tuple")=hX) (g2:∀i j,G i->G j->l7 i j)
 (hQ:∀(a s':md) (l:kw) (ss:gN (kw×M)) (n:iv),ss.Perm ps->(∀b o,s.heap.get? b∣o->a.heap.get? b∣o)->a.gens=s.gens->a.os=s.os->(∀b o,a.heap.get? b∣o->s'.heap.get? b∣o)->s'.gens=a.gens->s'.os=a.os->⇑a<=l->s'.heap.get? l=hV {cls:= .type "list",data:= .seq (ss.map λp=>m4 p.1).toArray n}->Q (.ref l) s'):
 ↥A (call (.builtin "sorted") [.ref S]) Q E s:=by
 let U:∀us:ZG,us.Perm (ps.map λp=>m4 p.1)-> ~~~us<=1000:=λus h=>by rw[h.length_eq,Z6];show few
 show t7 (O:=λus out=>out.toList.Perm us) c U (xg (kd:=tuples' hX) U (λus Y A1 N Q g h2 k q=>?_) λus x y Y A1 Q g hx hy k q=>?_) λa s' l us out n g o k1 a1 a2 k2 a3 a4 hl gl=>?_
 .let tups:∀l:ZG,(∀v∈l,v∈ps.map λp=>m4 p.1)->∃fs:ZG,KatTups Y.heap l fs/\ ~~~fs= ~~~l/\∀f∈fs,P8 f=pure (.type T):=by
   intro l
   induction l with
   | nil=>show λ_=>%[[],KatTups.nil,rfl|λf z=>nomatch z]
   | cons v l ih=>
     intro m;let%[fs,B,f2|C]:=ih λu d=>m u (Zk _ d)
     let%[p,H|rfl]:=Xo (m v Zm);let%[o,its,n,I,c',J|L]:=tk p H;let%[f,r,e|ft]:=g1 _ L;show%[f::fs,KatTups.cons (k _ _ I) c' J (by rw[<-OU,e];rfl) B,rM iv.succ f2|λu d=>?_];rcases Yv.mp d with rfl|d
     .show ft
     .show C u d
  let%[fs,B,f2|C]:=tups us λv m=>g.mem_iff.mp m
  show PySem.W.kat_kind (T:= .type T) B ⋯ (λf z=>RZ.of_pure (C f z)) ∅ (gT▸q)
 .let%[p,H|rfl]:=Xo (g.mem_iff.mp hx);let%[r,hr|rfl]:=Xo (g.mem_iff.mp hy);let%[o,its,n,I,c',J|L]:=tk p H;let%[o2,its2,n2,g3,c3,d3|i3]:=tk r hr;show PySem.W.kat_lt (k _ _ I) J (k _ _ g3) d3 (LS q 0 (g2 _ _ L i3))
 .let%[ss,h1|e]:=EN (o.trans g) ps rfl;show hQ a s' l ss n h1 k1 a1 a2 k2 a3 a4 hl (by rw[<-e];show gl)
def lj(j:∀(r:ZE) (R:ZG->md->Prop),(∀f vs,vs.Perm (ps.map λp=>m4 p.1)->(∀b o,s.heap.get? b∣o->f.heap.get? b∣o)->f.gens=s.gens->f.os=s.os->R vs f)->↥A.in1 (Rv (.ref S)) R r s)(tk:∀p∈ps,Kv prog w s.heap p.2 p.1)(u:∀p∈ps,~~~p.2=m)(v:m≠0)(few: ~~~ps<=1000)
 (y:∀(f s':md) (l:kw) (ss:ZH) (n:iv),ss.Perm ps->(∀b o,s.heap.get? b∣o->f.heap.get? b∣o)->f.gens=s.gens->f.os=s.os->(∀b o,f.heap.get? b∣o->s'.heap.get? b∣o)->s'.gens=f.gens->s'.os=f.os->⇑f<=l->s'.heap.get? l=hV {cls:= .type "list",data:= .seq (ss.map λp=>m4 p.1).toArray n}->Q (.ref l) s'):
 ↥A (call (.builtin "sorted") [.ref S]) Q E s:=
 xi (G:=λvs=>∃zs:ZB,Ng vs zs/\zs≠[]) (T:="str") j few (λp q=>by
  let%[o,its,n,g,c,d|i]:=tk p q;show%[o,its,n,g,c,d,p.2,nh i|λe=>v (by rw[<-u p q,e];rfl)]) (λ_ %[zs,h|n]=>by
  cases h with
  | nil=>show n0 rfl n
  | cons z t h=>show%[_,_,ρ|ρ]) (!1) (λ_ _ %[_,a|_] %[_,b|_]=>Cd a b) y
end
section
variable{X:Cx}{K:ZA}
abbrev qb(P:nX)(w:wh)(a:kw)(ps:ZH):HO:= .ext (vK w (aU P w) a (ps.map LU))
abbrev aJ(H:Hp)(ps:ZH):Prop:=∀p∈ps,p.2≠[]/\H p.1&&&p.2\3
def oY(I:Qc X ij f H s)(h:aJ H ps):∀p∈ps,Kv X.prog X.w s.heap p.2 p.1:=λp a=>by
 let%[_,its,b,o,c,d,n|e]:=I.hok p.1 _ (h p a).2;show%[o,its.toArray,n,c,d,e|qa (i5 b)]
def vM:∀{ps:ZH} {us:ZG},aN (ps\0) us->us=ps.map λp=>m4 p.1
 |[],_,.nil=>rfl
 | _::_,_,.cons r t=>by
   cases r;rw[vM t];rfl
def oZ:∀(ps:ZH),aN (ps\0) (ps.map λp=>m4 p.1)
 |[]=> .nil
 | _::ps=> .cons rfl (oZ ps)
def Ce(v:X.calm=hX)(L:X.A.units+64<Os):cF X (.type "set") (λxs H Q=>cL xs λj=>asR j λp=>∃ps,Qb X.K H p (ps\0)/\aJ H ps/\(∃U:gN _,~~~U<=999/\∀q∈ps,q.2∈U)/\∀l,H l=hH->Q (.ref l) (Qa H l (qb X.prog X.w l (bJ ps)))):=by
 intro ij s M H xs us Q I r h;let%[j,rfl|d]:=bC h;let%[p,rfl|e]:=aO d;let%[ps,w,m,%[U,N|f]|q]:=e;let%[u,rfl|y]:=dc r;cases y;let%[its,A,pl|O]:=I.list w;let C:=vM A;show rZ (knd:=aU X.prog X.w) (I.ok.hd v) ⋯ pl.isList (ps:=ps.map LU) (!2) (λn a=>?_) (U.map λz=>z.map kj) (!2) (λn a=>?_) (λn a B s' T Y g i=>?_) λh' E S k=>?_
 .let%[b,c|rfl]:=Xo a;show(oY I m) b c
 .let%[b,c|rfl]:=Xo a;show Xp %[b.2,f b c|rfl]
 .let%[b,c|rfl]:=Xo a;show Hs (m b c).1 g i
 .rw[(xh _ vL ps)]at S;show%[.ref ⇑s,_,I.laid (o:=qb X.prog X.w ⇑s _) k (Zi _) %[S,?_|λh1 h2 G k1=>vK.keep G k1],ρ|q _ I.fresh];let%[o,_,_,_,J|_]:=S;show%[o|J]
def vN(y:X.calm=hX):cF X (.builtin "sorted") (λxs H Q=>cL xs λj=>asR j λa=>∃ps,H a∣qb X.prog X.w a ps/\aJ H ps/\∃m,(∀p∈ps,~~~p.2=m)/\m≠0/\ ~~~ps<=1000/\∀l (ss:gN _),H l=hH->ss.Perm ps->Q (.ref l) (Qa H l (.lst (ss\0)))):=by
 intro ij s T H xs us Q I r h;let%[j,rfl|c]:=bC h;let%[a,rfl|d]:=aO c;let%[ps,z,A,m,B,C,few|q]:=d;let%[u,rfl|E]:=dc r;cases E;let%[%[o,es,U,t,G,e,L,J|P],_|_]:=(I.hok a _ z)
 let Y:es.size= ~~~ps:=by
  let:=P.length_eq
  simp_all
 let pv:(es.toList\2).Perm (ps.map λp=>m4 p.1):=by
  let:=P\2;rw[Yq,Yq]at this;show this
 show lj (λE1 R M=>lS (I.ok.hd y) G e L (by change es.size<4096;lia) J.fits J.plain J.led λv vs N k1 f i _=>M v vs (N.trans pv) k1 f i) (oY I A) B C few λv s' l ss n w k1 f i k g o b O=>?_
 let I:=I.keptS k1 f i;show%[.ref l,_,I.stoodS (o:= .lst _) (I.keptS k g o) b %[?_,ss.map _,n,oZ ss|O],ρ|q l ss (I.hok.fresh b) w];rw[Z6,w.length_eq,Na]
 lia
def EO{P:nX}(h:X.K=K)(d:X.prog=P)(hw:X.w=w)(a:X.calm=hX)(b:bP k X.A):b7 X (.type "set") (λxs H Q=>cL xs λc=>asR c λp=>∃ps,Qb K H p (ps\0)/\aJ H ps/\(∃U:gN ZB,~~~U<=999/\∀q∈ps,q.2∈U)/\∀l,H l=hH->Q (.ref l) (Qa H l (qb P w l (bJ ps)))):=by
 subst h;subst hw;show⟨Ce a b.units⟩
def t9{P:nX}(d:X.prog=P)(hw:X.w=w)(b:X.calm=hX):b7 X (.builtin "sorted") (λxs H Q=>cL xs λc=>asR c λa=>∃ps,H a∣qb P w a ps/\aJ H ps/\∃m,(∀p∈ps,~~~p.2=m)/\m≠0/\ ~~~ps<=1000/\∀(l:kw) (ss:ZH),H l=hH->ss.Perm ps->Q (.ref l) (Qa H l (.lst (ss\0)))):=by
 subst hw;show⟨vN b⟩
end
abbrev Cf(K:ZA)(a b:kw):It:=%[λi H=>∃xs ys x y,Qb K H a xs/\Qb K H b ys/\xs[i]?∣x/\ys[i]?∣y,
 λi H v c=>∃T x y,H T=hH/\v= .ref T/\c=Qa H T (.tup [x,y])/\(∀xs,Qb K H a xs->xs[i]?∣x)/\(∀ys,Qb K H b ys->ys[i]?∣y)|
 λi H=>∃xs ys,Qb K H a xs/\Qb K H b ys/\i<= ~~~xs/\i<= ~~~ys/\(i= ~~~xs\/i= ~~~ys)]
def Cg{P:nX}{K:ZA}(z TI TO i1 i2 l1 l2:kw)(D:ZipApart z TI TO i1 i2 l1 l2):
 rR P w K (.Tuple elts kt tp) (Cf K l1 l2) [z,TI,TO,i1,i2] z (ZSt z TI TO i1 i2 (λi h=>h.IsListIter i1 l1 i) (λi h=>h.IsListIter i2 l2 i)) where
 mem:=by simp
 obj:=λi h st b hb=>by
  let%[hz,hTI,%[a,c|hTO],%[o1,e1,_|d1],o2,e2,_|d2]:=st
  grind
 keep:=λi h h' st k=>by
  let%[hz,hTI,%[a,c|hTO],%[o1,e1|r1],o2,e2|r2]:=st;show%[k z ∅ _ hz,k TI ∅ _ hTI,%[a,c|k TO ∅ _ hTO],%[o1,k i1 ∅ _ e1|r1],o2,k i2 ∅ _ e2|r2]
 item:=by
  intro X hP hw hK hc i ij s σ H E I hf st hg;subst hP hw hK;let%[hz,hTI,%[a,c|hTO],h1|h2]:=st;let%[xs,ys,x,y,hq1,hq2,hx|hy]:=hg;let%[its1,rv1,pl1|hz1]:=I.list hq1;let%[its2,rv2,pl2|hz2]:=I.list hq2;let%[u1,hu1|ru1]:=rv1.get hx;let%[u2,hu2|ru2]:=rv2.get hy;show wpAny_pyNext_zip_item D hz hTI hTO h1 h2 pl1.isList pl2.isList (x:=u1) (y:=u2) ↑hu1 ↑hu2 λh' a1 a2 a3 a4 a5 a6 hk=>%[_,rfl|Uy (s:=(s>>>h')) a1 λh'' hz'' sb=>?_]
  replace sb:vu z h' h'':=sb;let kk:∀b o,b∉[z,TI,TO,i1,i2]->s.heap.get? b∣o->h''.get? b∣o:=λb o hb e=>by
   simp only[Yv,X6,No,Pr]at hb;show(sb.2 b hb.1).trans (hk b o hb.1 hb.2.2.1 hb.2.2.2.1 hb.2.2.2.2 e)
  let turn1:Qc X ij σ H (s>>>h''):=I.moved hf kk;let Hn:H ⇑s=hH:=I.fresh;let I2:Qc X ij σ (Qa H ⇑s (.tup [x,y])) (s>>>h''):=
   I.stood turn1 (Zi _) %[by change 2<=lX;decide,[u1,u2],.cons ru1 (.cons ru2 .nil),_,((sb.2 _ (Yz (Zu hz))).trans a5),rfl,_|rfl]
  show%[.ref ⇑s,_,I2,ρ,%[_,x,y,Hn,ρ,ρ,λzs hzs=>(I.list_inj hzs hq1)▸hx|λzs hzs=>(I.list_inj hzs hq2)▸hy],%[hz'',(sb.2 _ D.TIz).trans (hk _ _ D.TIz D.TITO D.TIi1 D.TIi2 hTI),%[_,_|(sb.2 _ D.TOz).trans a2],?_|?_]|λb hb=>?_]
  .let%[o,e|r]:=a3;show%[o,(sb.2 _ D.i1z).trans e|r]
  .let%[o,e|r]:=a4;show%[o,(sb.2 _ D.i2z).trans e|r]
  .let:b<⇑s:=by
    simp only[Yv,X6,No]at hb;let%[o1,q1|_]:=h1;let%[o2,q2|_]:=h2;rcases hb with rfl|rfl|rfl|rfl|rfl
    .show Zu hz
    .show Zu hTI
    .show Zu hTO
    .show Zu q1
    .show Zu q2
   rw[aq (Zs this)];show(hf b hb).1
 done:=by
  intro X hP hw hK hc i ij s σ H E I hf st hg;subst hP hw hK;let%[hz,hTI,%[a,c|hTO],h1|h2]:=st;let%[xs,ys,hq1,hq2,g1,g2|g3]:=hg;let%[its1,rv1,pl1|hz1]:=I.list hq1;let%[its2,rv2,pl2|hz2]:=I.list hq2;let n1:= ~~~rv1;let n2:= ~~~rv2;show wpAny_pyNext_zip_end (I.ok.hd hc) D hz hTI hTO h1 h2 pl1.isList pl2.isList (by
   rcases g3 with q|q
   .show .inl (by simp;lia)
   .show .inr (by simp;lia)) λh' hk=>%[rfl|?_]
  let kk:∀b o,b∉[z,TI,TO,i1,i2]->s.heap.get? b∣o->h'.get? b∣o:=λb o hb e=>by
   simp only[Yv,X6,No,Pr]at hb;show hk b o hb.1 hb.2.2.1 hb.2.2.2.1 hb.2.2.2.2 e
  show I.moved hf kk
 self:=λ_ _ _ _ _ st h=>Q6 st.1 h
abbrev Iy(K:ZA)(d:TA):TI:=λe H R=>d e H λvs c=>lI vs λf x2=>asR f λa=>asR x2 λb=>(∃xs,Qb K c a xs)/\(∃ys,Qb K c b ys)/\R (Cf K a b) c
section
variable{X:Cx}{K:ZA}{pos:Pos}
def Iz(L:X.K=K){M p:Pos}{a b:zr}{B:TA}(N:Gl X "zip")(O:X.mg "zip"=hH)(Q:aS a=hY)(r:aS b=hY)(T:QA X [a,b] B):
 QI X (.Tuple C kt M) (.Call (.Name "zip" p) [a,b] [] pos) (Iy K B):=by
 subst L
 constructor
 intro ij s U H R I h;show Call_ (iX I N O boot_zip (Nd (thP (T.h pos ij s U H _ I h) λus c vs Y g r1 q1=>?_) (aB Q) (by rw[aB r];rfl)));let%[x1,x2,rfl|d]:=iV q1;let%[u,rfl|f]:=aO d;let%[v,rfl|w]:=aO f;let%[%[xs|d],%[ys|f]|q]:=w;let%[u1,u2,rfl,e1|e2]:=kK r1;cases e1;cases e2;let%[E,ab,l|ac]:=g.list d;let%[its2,ae,m|ag]:=g.list f;show call_zip_2 l.isList m.isList λh1 G y z hi1 hi2 _ hk=>Q6 G ?_
 let ne:∀i j,i≠j->⇑c+i≠⇑c+j:=λi j h e=>h (Rz e)
 let na:∀i,u≠⇑c+i:=λi=>Zs (Zg (by let%[o,A|_]:=l.isList;show Zu A) (Qh _ _))
 let nb:∀i,v≠⇑c+i:=λi=>Zs (Zg (by let%[o,A|_]:=m.isList;show Zu A) (Qh _ _))
 show%[⇑c+4,[⇑c+4,⇑c+2,⇑c+3,⇑c+0,⇑c+1],_,Cf X.K u v,Y,ρ,(g.kept hk),
  Cg _ _ _ _ _ u v %[ne 2 4 (!1),ne 3 4 (!1),ne 0 4 (!1),ne 1 4 (!1),ne 2 3 (!1),ne 2 0 (!1),ne 2 1 (!1),ne 3 0 (!1),ne 3 1 (!1),ne 0 1 (!1),na 4,na 3,na 0,na 1,nb 4,nb 3,nb 0|nb 1],
  %[G,y,%[_,_|z],hi1|hi2],λb J=>?_|q]
 let n:⇑c<=b:=by
  simp only[Yv,X6,No]at J;rcases J with rfl|rfl|rfl|rfl|rfl<;> show Qh _ _
 show g.fpOk n (g.hok.fresh n)
end
open PySem PySem.Spec PySem.Calls PyProof.Rows PyProof.V PySem.W
abbrev Raw(h:yc)(d:kw)(es:ow Tp)(a:iv):Prop:=∃o,h.get? d∣o/\o.ExactDict/\o.data= .dict es a
section
#where
variable{d it:kw}{es:ow Tp}{ep i:iv}
def Raw.ty(h:Raw s.heap d es ep):s.TypeIs (.ref d) "dict":=%[h.choose,h.choose_spec.1|h.choose_spec.2.1.1]
def Raw.lt(r:Raw h d es ep):d<h.objs.size:=Zu r.choose_spec.1
def Raw.up(r:Raw h d es ep)(e:∀o,h.get? d∣o->h'.get? d∣o):Raw h' d es ep:=%[r.choose,e _ r.choose_spec.1|r.choose_spec.2]
def EQ(lo:(d==NO)=hY)(r:Raw s.heap d es ep)
 (h:Q (.ref ⇑s) {s with heap:=s.heap.push {cls:= .type "dict_keyiterator",data:= .fields #[.ref d,.int 0 0,.int es.size 0,.int ep 0]}}):↥A (U9 (.ref d)) Q E s:=by
 let ty:=r.ty;let%[o,g,_|a]:=r;show SJ ty WE (Nc WE ty F.entry_dict_iter (Z2 (Z2 (wpAny_notOrdered_dict ty (Z3 ?_)))) (F.args_dict_iter_1 _));change tI _ _ (SA d>>= _) _ _ s;unfold SA;rw[ku (lo▸Zt)];show Z2 (Z3 (Z2 (SK g a (Z2 (TL g a (Z2 (M6 (Z3 %[_,rfl,"dict_keyiterator",_,%[_,Zj _ rfl|rfl],NJ.lookup|?_]))))))));simpa [Nb]using h
def ER(k:s.heap.IsKeyIter it d i es.size ep)(r:Raw s.heap d es ep)(hi:i<es.size)
 (h:∀h',h'.IsKeyIter it d (i+1) es.size ep->vu it s.heap h'->Q (hV es[i].key) (s>>>h')):↥A (Qz (.ref it)) Q E s:=by
 let%[o,b,f|a]:=id k;let%[od,c,_|e]:=r;unfold Qz;show Z2 (NV (NK (name:=!"__next__") k.typeIs NJ (Nc NJ k.typeIs Tc ?_ (S4 _))));show Z2 (Z3 (Z2 (Z2 (Z2 (Oj k.typeIs (Z3 (Z2 (RG b a ?_))))))));rw[show QX "dict_keyiterator"=hY by decide];change tI _ _ (if(m4 d==Nu)=hX then _ else _) _ _ s;rw[ku (by show Zt)];show Z2 (Z3 (Z2 (SK c e ?_)));rw[ku ∅];show Z2 (Z3 (Z2 (TL c e ?_)));rw[ku ∅];show Z3 ?_;simp only[OO,Pa,J6 hi];show Z2 (Z2 (Oj k.typeIs (Z3 (Z2 (Vr k.typeIs ?_)))));change tI _ _ (Qy (.ref it) 1 (Nb ((i:on) +1))>>= _) _ _ s;show Z2 (Qt b a ∅ ?_);let k2:(s.heap.update it (PD (·.setIfInBounds 1 (Nb ((i:on) +1))))).IsKeyIter it d (i+1) es.size ep:=
  %[_,MT _ b (Pj (OI a _)),(Se ..).trans f|by rw[OI a];simp[Nb]]
 show Z2 (v0 (Z2 (Vr k2.typeIs (Z3 (Z3 %[_,rfl|Z3 (h _ k2 (vu.update ..))])))))
def Ht(j:A.handled=hH)(k:s.heap.IsKeyIter it d i es.size ep)(r:Raw s.heap d es ep)(hi:es.size<=i)
 (h:∀h',ExtBut it s.heap h'->Q hH (s>>>h')):↥A (Qz (.ref it)) Q E s:=by
 let%[o,c,l|e]:=id k;let%[od,f,_|g]:=r;unfold Qz;show Z2 (NV (NK (name:=!"__next__") k.typeIs NJ (Nc NJ k.typeIs Tc ?_ (S4 _))));show Z2 (Z3 (Z2 (Z2 ?_)));show Z2 (Oj k.typeIs (Z3 (Z2 (RG c e ?_))));rw[show QX "dict_keyiterator"=hY by decide];change tI _ _ (if(m4 d==Nu)=hX then _ else _) _ _ s;rw[ku (by show Zt)];show Z2 (Z3 (Z2 (SK f g ?_)));rw[ku ∅];show Z2 (Z3 (Z2 (TL f g ?_)));rw[ku ∅];show Z3 ?_;simp only[show ¬ ((i:on)<0)from by lia,OO,Pa,OQ hi];show Z2 (Z2 (Oj k.typeIs (Z3 ?_)));change tI _ _ (Qy (.ref it) 0 .none>>= _) _ _ s;show Z2 (Qt c e ∅ (Z2 ?_));simp only[newExc,newTuple];show Z2 (m:=firstArgMember _ _) (Tr (a:=Nu) (by first|rfl|(simp only[firstArgMember];rfl)) (M6 ?_ (by size_fits)));simp only[VL];show Z2 (wpAny_handled ?_);rw[show A.in1.handled=hH from j];show Z2 (Z3 (wpAny_throw ?_));show Z2 (Oe (T:="StopIteration") (b:=hX) %[_,Zj _ rfl|rfl] Uf ?_);show Z3 (h _ (((vu.update ..).extBut.push _).push _))
def Hu(lo:(d==NO)=hY):KdlSrc prog w "dict" d d es.size (λi v=>∃h:i<es.size,v=es[i].key) (λh=>Raw h d es ep) where
 type:=λ_ r=>r.ty
 there:=λ_ r=>%[r.lt|r.lt]
 keep:=λ_ _ r hk=>r.up λo e=>hk d (.inl rfl) o e
 notList:=!1
 notTuple:=!1
 hint:=λ_ _ _ _ r hq=>kdl_hint_dict r.ty hq
 iter:=λA s hh r=>%[_,λi h=>h.IsKeyIter ⇑s d i es.size ep/\Raw h d es ep,(λ_ _ hq=>EQ lo r hq),{
  sub:=λb hb=>!2
  frame:=λ_ _ _ st hk=>%[st.1.at λo e=>hk _ ∅ o e|st.2.up λo e=>hk d ∅ o e]
  item:=λi s' Q E hi st hQ=>ER st.1 st.2 hi λh' k' hs'=>hQ _ h' s'.toks %[hi|rfl] %[k'|st.2.up λo e=>hs'.extBut d o (Zs r.lt) e] λb o hb e=>hs'.extBut b o (λh=>hb (by simp[h])) e
  done:=λs' Q E st hQ=>Ht hh st.1 st.2 (Zi _) λh' he'=>hQ h' s'.toks λb o hb e=>he' b o (λh=>hb (by simp[h])) e
  self:=λ_ _ _ _ st hQ=>VE st.1 hQ},%[_,Zj _ rfl,rfl|rfl]|r.up λo e=>Z7 _ e]
def n8{P:iv->jg->Prop}{R:ZG->md->Prop}(K:KdlSrc prog w T r d n P l)(m:A.handled=hH)(ok:l s.heap)(p:n<=lX)
 (h:∀(h':yc) (tk:iv) (acc:ZK),(∀b o,s.heap.get? b∣o->h'.get? b∣o)->⇑s<=h'.objs.size->ItemsOf P acc n->R acc.toList {s with heap:=h',toks:=tk}):↥A (Rv (.ref r)) R E s:=by
 let lt:=K.there _ ok;show Z2 (T5 (Ny entry_proto_collect' (Z2 (M6 (Z3 %[NW QJ _|Ny entry_list_iadd' ?_])))));rw[NA QJ _];let g:=kdl_extend (s:=(s>>>s.heap.push _))
  (R:=λq s'=>∃h' tk acc c,q= .ok (.ret (.ref ⇑s))/\s'={s with heap:=h',toks:=tk}/\(∀b o,s.heap.get? b∣o->h'.get? b∣o)/\h'.get? ⇑s=hV {cls:= .type _,dict:=hH,data:= .seq acc c,slots:= #[]}/\ItemsOf P acc n)
  K m (K.keep _ _ ok λb _ o e=>Z7 _ e) ⇑s (Yz lt.1) (Yz lt.2) _ 0 (Zj _ rfl)
  (λh' tk acc c j a it=>%[h',tk,acc,c,rfl,rfl,λb o e=>j b o (Zs (Zu e)) (Z7 _ e),a|it]) p
 show MZ g (λfin s' x=>?_) λe s' x=>?_
 .cases fin with
  | done f=>
    let%[h',tk,acc,c,e,rfl,j,a|it]:=x;cases e;show Z2 (T6 a (Z3 (h h' tk acc j (Ye (Zu a)) it)))
  | again c1=>
    show%[x.1|codeAny_mono x.2 λq u y=>?_];let%[h',tk,acc,c,rfl,rfl,j,a|it]:=y;show Z2 (T6 a (Z3 (h h' tk acc j (Ye (Zu a)) it)))
 simp_all
def n9{R:ZG->md->Prop}(lo:(d==NO)=hY)(f:A.handled=hH)(r:Raw s.heap d es ep)(g:es.size<=lX)
 (h:∀(h':yc) (tk:iv),(∀b o,s.heap.get? b∣o->h'.get? b∣o)->⇑s<=h'.objs.size->R (es.toList.map (·.key)) {s with heap:=h',toks:=tk}):↥A (Rv (.ref d)) R E s:=by
 show n8 (Hu lo) f r g λh' tk acc l c a=>?_
 let e:acc.toList=es.toList.map (·.key):=by
  apply Ru;intro j;rw[Zl,OU,OU];by_cases m:j<es.size
  .let n:j<acc.size:=a.1▸m;let%[_|q]:=a.2 j acc[j] ∅
   simp_all
  .rw[OQ (by rw[a.1];lia),OQ ⋯];rfl
 rw[e];show h h' tk l c
end
section
variable{X:Cx}{K:ZA}
def vO(hc:X.calm=hX):cF X (.builtin "sorted") (λxs H Q=>cL xs λT=>asR T λa=>∃b,H a∣.dT b/\∃ks,b\1=ks.map (λk:ZB=>k.map kj)/\∃m,(∀k∈ks,~~~k=m)/\m≠0/\ ~~~ks<=1000/\∀(l:kw) (ss:ZH),H l=hH->aJ H ss->(ss\2).Perm ks->Q (.ref l) (Qa H l (.lst (ss\0)))):=by
 intro ij s U H xs us Q I r h;let%[T,rfl|z]:=bC h;let%[a,rfl|A]:=aO z;let%[b,ha,ks,c,m,Y,m0,few|q]:=A;let%[u,rfl|ru]:=dc r;cases ru;let%[_,lo,xs,B,o,es,ep,g,ex,dt,he,_|_]:=Il I.hok ha;let C:∀{b:gN (gN Key×V)} {xs:gN (gN Key×kw×jg)},KT H b xs->∀ks:gN ZB,b\1=ks.map (λk:ZB=>k.map kj)->∃ps:ZH,ps\2=ks/\(xs.map λx=>m4 x.2.1)=(ps.map λp=>m4 p.1)/\∀p∈ps,H p.1&&&p.2\3:=by
  intro b xs B
  induction B with
  | nil=>
    intro ks c;cases ks with
    | nil=>show%[[],ρ,ρ|λp d=>by cases d]
    | cons _ _=>cases c
  | @cons kv x b xs hx t ih=>
    intro ks c;cases ks with
    | nil=>cases c
    | cons k ks=>
      rw[Yp,Yp]at c;injection c with h1 h2
      let%[ps,j,E|G]:=ih ks h2;show%[(x.2.1,k)::ps,by rw[Yp,j],by rw[Yp,Yp,E]|λp d=>?_];rcases Yv.mp d with e|e
      .rw[e];let:=hx.2.1;rw[h1,Yq]at this;show this
      .show G p e
 let%[ps,j,E|G]:=C B ks c;let v:∀p∈ps,p.2∈ks:=λp d=>by rw[<-j];show Xp %[p,d|rfl]
 let ta:aJ H ps:=λp d=>%[λe=>m0 (by rw[<-Y _ (v p d),e];rfl)|G p d]
 let ab: ~~~ps<=1000:=by rw[<-Z6 (f:=(·.2)),j];show few
 let L:Raw s.heap a es ep:=%[o,g,ex|dt]
 let w:es.toList.map (·.key)=ps.map λp=>m4 p.1:=by
  rw[he,Yq,<-E];rfl
 let M:es.size<=lX:=by
  let: ~~~(es.toList.map (·.key))= ~~~(ps.map λp=>m4 p.1):=by rw[w]
  rw[Z6,Z6,Zb]at this;rw[Na];lia
 show lj (λE1 R hR=>n9 lo (show X.A.in1.handled=hH from I.ok.hd hc) L M λh' tk k ac=>?_) (oY I ta) (λp d=>Y _ (v p d)) m0 ⋯ λs1 s' l ss n N k1 g1 o1 k g o y gl=>?_
 .rw[w];show hR _ _ (Nw _) k rfl rfl
 .let O:Qc X ij U H s1:=I.keptS k1 g1 o1;let i:H l=hH:=O.hok.fresh y;let J:Qc X ij U H s':=O.keptS k g o;show%[.ref l,_,O.stoodS (o:= .lst (ss\0)) J y %[?_,ss.map (λp=>m4 p.1),n,oZ ss|gl],ρ|q l ss i (λp d=>ta p (N.mem_iff.mp d)) (by rw[<-j];show N.map _)];rw[Z6,N.length_eq,Na]
  lia
def Ch(c:X.calm=hX):b7 X (.builtin "sorted") (λxs H Q=>cL xs λd=>asR d λa=>∃b,H a∣.dT b/\∃ks,b\1=ks.map (λk:ZB=>k.map kj)/\∃m,(∀k∈ks,~~~k=m)/\m≠0/\ ~~~ks<=1000/\∀(l:kw) (ss:ZH),H l=hH->aJ H ss->(ss\2).Perm ks->Q (.ref l) (Qa H l (.lst (ss\0)))):=⟨vO c⟩
def Kw:QE X (.Dict [] [] pos) y4:=⟨DI⟩
def eG(c:bP k X.A)(d:Pb a (hV (.Subscript o i b)) pos.line X.env=pure hY)(e:QE X a f)(g:QE X o h)(hi:QE X i ty):QS X (.Assign [.Subscript o i b] a pos) (pG h ty f):=
 ⟨GN (by let:=c.units;lia) g.h hi.h e.h d⟩
def ni [MY c](a:gN (c×V))(k:c)(v:V):(dw a k v)\1=if k∈a\1 then a\1 else a\1 ++[k]:=by
 unfold dw;let e:(a.any λb=>decide (b.1=k))=hX↔k∈a\1:=by
  grind
 by_cases h:k∈a\1
 .rw[lp (e.mpr h),lp h,Yq];show Yo λb _=>?_
  change(if b.1=k then(b.1,v)else b).1=b.1
  split<;> rfl
 .rw[ku (λz=>h (e.mp z)),ku h,Zd];rfl
end
structure xj (K:ZA) (mg:ZC) (x:kG):Prop where
 at_:mg x∣.ref (aK mg x)
 cls:Cls K (aK mg x)
structure xo (K:ZA) (mg:ZC) (x m qual:kG) (st:Ds) (ps:ZB):Prop where
 ex:∃f fd,Gy K (aK mg x) m f/\Fun K m qual st f fd/\ee K fd ps []
structure ES (K:ZA) (mg:ZC) (x qual:kG) (st:Ds) (ps:ZB):Prop where
 ex:∃f fd,Mk K (aK mg x) f/\Fun K "__init__" qual st f fd/\ee K fd ps []
structure Ci (P:nX) (w:wh) (K:ZA) (mg:ZC) (base:yc) (k:iv) (x m:kG) (ps:ZB) (sp:Sp):Prop where
 ex:∃f fd,d9 P w K mg base CX0 k f fd ps sp/\Gy K (aK mg x) m f/\ee K fd ps []
structure Hv (P:nX) (w:wh) (K:ZA) (mg:ZC) (base:yc) (k:iv) (x:kG) (ps:ZB) (sp:Sp):Prop where
 ex:∃f fd,d9 P w K mg base CX0 k f fd ps sp/\Mk K (aK mg x) f/\ee K fd ps []
section
variable{P:nX}{w:wh}{K:ZA}{mg:ZC}{base:yc}{x m qual:kG}{st:Ds}{N ps:ZB}{k:iv}{sp:Sp}
def xo.cal(D:xo K mg x m qual st ps)(S:av N ps (ap st))
 (a:∀(H:Hp) (vs:gN V) (Q:VK) (E:XK),sp vs H Q E-> ~~~vs= ~~~ps/\∀(f:kw) (b:jg) (A:vj) (outer:gN Env) (s:md),bP k (A.deeper (Nz qual (ap st) ⇑s f b))->
  ∃t,PSs (gi CX0 P w K mg base N qual (ap st) f b A outer s H E).nox (bR st) t/\t {nx:=λ_ c=>Q .non c,rt:=Q} (start N vs) H):Ci P w K mg base (k+1) x m ps sp:=by
 let%[f,d,e,F|g]:=D.ex;show%[f,d,F.ok S (λv H Q E h=>(a H v Q E h).1) (λb A o s H v Q E r h=>(a H v Q E h).2 f b A o s r),e|g]
def ES.cal(D:ES K mg x qual st ps)(S:av N ps (ap st))
 (a:∀(H:Hp) (vs:gN V) (Q:VK) (E:XK),sp vs H Q E-> ~~~vs= ~~~ps/\∀(f:kw) (b:jg) (A:vj) (outer:gN Env) (s:md),bP k (A.deeper (Nz qual (ap st) ⇑s f b))->
  ∃t,PSs (gi CX0 P w K mg base N qual (ap st) f b A outer s H E).nox (bR st) t/\t {nx:=λ_ c=>Q .non c,rt:=Q} (start N vs) H):Hv P w K mg base (k+1) x ps sp:=by
 let%[f,d,e,F|g]:=D.ex;show%[f,d,F.ok S (λv H Q E h=>(a H v Q E h).1) (λb A o s H v Q E r h=>(a H v Q E h).2 f b A o s r),e|g]
end
section
variable{X:Cx}{K:ZA}{j k:iv}{x m:kG}{ps:ZB}{sp:Sp}{p pos apos:Pos}{o e:zr}{es:gN zr}{to te:TE}{t:TA}
def Kx(C:Ci X.prog X.w X.K X.mg X.base j x m ps sp)(c:xj X.K X.mg x)(d:bP k X.A)(a:Q0 j k=hX)
 (g:Nk (.Call (.Attribute o m apos) [] [] pos) X.env=(do
  let b<-Nk o X.env
  Pm apos.atName
  let(f,first)<-PY [b] (Rb b m pl)
  Ui pos f first (NP pos (vi [] X.env)) (PB pos (N4 [] X.env)))) (h:QE X o to):QE X (.Call (.Attribute o m apos) [] [] pos) (Ak (aK X.mg x) m sp [] E0 to yV):=by
 let%[f,n,F,i|l]:=C.ex;show⟨Dq h.h c.cls i F (d.mono (Yd a)) l .nil DK g⟩
def LV(C:Hv X.prog X.w X.K X.mg X.base j x ps sp)(c:xj X.K X.mg x)(g:bP k X.A)(h:Gl X x)(a:Q0 (j+1) k=hX)(b:(x==("__debug__"))=hY)(d:(e::es).any aS=hY)(i:QA X (e::es) t):
 QE X (.Call (.Name x p) (e::es) [] pos) (Al (aK X.mg x) sp [] E0 t):=by
 let%[f,q,F,l|n]:=C.ex;rw[Zw,X7]at d;show⟨Gz l F (g.mono (Yd a)) h c.at_ n .nil DK i.h b (aB d.1) (ei d.2)⟩
def Ky(h:X.K=K)(a:i6 o=hY)(b:QE X o to):QE X (.Attribute o f pos) (Jt K to f):=by
 subst h;show⟨Jv b.h (ic a)⟩
def Hw(h:X.K=K)(c:h9 a=hY)(d:QE X o to)(g:QE X a i):QS X (.Assign [.Attribute o f b] a pos) (Ju K to i f):=by
 subst h;show⟨Jw d.h g.h (jK c)⟩
end
structure GvT (K:ZA) (mg:ZC) (x:kG) (xs:gN V):Prop where
 ex:∃a,mg x∣.ref a/\∀H,SqT K H a xs
def ET{K:ZA}{h:yc}{o:Ov}{its:ZK}{n:iv}(X:K.In h)(G:h.Ns xl mg)(z:Sd K xl x∣hV (.ref a))
 (b:K.lookup a∣o) (c:o.cls= .type "tuple") (d:o.data= .seq its n) (e:its.size<=lX) (r:aN xs its.toList):GvT K mg x xs:=
 %[a,OL X G z|λ_=> .inr %[o,its,n,b,c,d,e|r]]
def LW{X:Cx}{K:ZA}{x:kG}(h:X.K=K)(g:GvT K X.mg x xs)(b:Gl X x)(c:(x==("__debug__":kG))=hY):QE X (.Name x pos) (λ_ H Q=>∀a,(∀d,SqT K d a xs)->Q (.ref a) H):=by
 let%[a,e|f]:=g.ex;show⟨λij s i H Q I q=>Io (v:= .ref a) %[.ref a,e|rfl] b c ij s i H Q I (q a f)⟩
def LX{X:Cx}(c:∀e s,X.xe e s->MO)(d:QSs X a g):QS X (.Try a [h] [] [] pos) g:=by
 show⟨λij s i H D I q=>Xr (MZ (d.h ij s i H D I q) (λf b q=>?_) λe b q=>(c e b q).elim)⟩;cases f with
 | next=>show OR q
 | brk=>show q
 | cont=>show q
 | ret u=>show q
section
variable{X:Cx}{K:ZA}
#where
variable{S:kw}
def ik{ks:ZB}{Q:ZE}(v:∀(m:ZE) (R:ZG->md->Prop),(∀f us c,Ng us c->c.Perm ks->(∀b o,s.heap.get? b∣o->f.heap.get? b∣o)->f.gens=s.gens->f.os=s.os->R us f)->↥A.in1 (Rv (.ref S)) R m s)(few: ~~~ks<=1000)
 (U:∀(f s':md) (l:kw) (vs:ZG) (ss:ZB) (n:iv),Ng vs ss->ss.Perm ks->(~~~ks<64->ss.Pairwise (λa b=>aP b a=hY))->(∀b o,s.heap.get? b∣o->f.heap.get? b∣o)->f.gens=s.gens->f.os=s.os->(∀b o,f.heap.get? b∣o->s'.heap.get? b∣o)->s'.gens=f.gens->s'.os=f.os->⇑f<=l->s'.heap.get? l=hV {cls:= .type "list",data:= .seq vs.toArray n}->Q (.ref l) s'):
 ↥A (call (.builtin "sorted") [.ref S]) Q E s:=by
 let J:∀us:ZG,(∃c,Ng us c/\c.Perm ks)-> ~~~us<=1000:=λus %[_,h|p]=>by rw[cG h,p.length_eq];show few
 show t7 (G:=λus=>∃c,Ng us c/\c.Perm ks) (O:=λus out=>∃ss,Ng out.toList ss/\ss.Perm ks/\(~~~ks<64->ss.Pairwise (λa b=>aP b a=hY))) (λm R k=>v m R λf us c a b=>k f us %[c,a|b]) J (λY H us a P m g L kp h=>?_) λf s' l us out n g o k1 a1 a2 k2 a3 a4 hl gl=>?_
 .let%[c,d|C]:=g;let M:∀v1 i r,us=v1::i::r->keyKind' (v1::i::r).toArray=pure oneType':=λv1 i r e=>keyKind_strs (e▸d)
  let ll: ~~~us= ~~~ks:=by rw[cG d,C.length_eq]
  by_cases z: ~~~us<64
  .show list_sort_treeK strKind_oneLt L d.keysOf M z λab hp hs=>?_
   let%[ss,B,j|I]:=sorted_out_str d hp hs;show h _ %[ss,B,j.trans C|λ_=>Cc ss I]
  .show xg (s:=s) (G:=λvs=>vs=us) (kd:=oneType') (λ_ e=>e▸J us %[_,d|C]) (λ_ s3 H m Q e j _ q=>?_) (λ_ x y s3 H Q e N T _ q=>?_) Y H us a P m rfl L kp λout p=>?_
   .rw[e]at j ⊢;obtain⟨v1,i,r,e⟩:∃v1 i r,us=v1::i::r:=by
     match us,j with
     | v1::i::r,_=>show%[v1,i,r|ρ]
    rw[e,M v1 i r e];show Z3 q
   .rw[e]at N T;let%[a,t|rfl]:=d.all _ N;let%[b,u|rfl]:=d.all _ T;rw[keyLt'_oneType];show oneLt_str (q _)
   .let%[ss,B|j]:=cH d p;show h out %[ss,B,j.trans C|λl=>n0 (ll▸l) z]
 .let%[ss,B,j|I]:=o;show U f s' l out.toList ss n B j I k1 a1 a2 k2 a3 a4 hl (by rw[ow.toArray_toList];show gl)
end
def je:∀{ks:ZB} {us:ZG},aN (ks\3) us->Ng us ks
 |[],_,.nil=> .nil
 | _::_,_,.cons r t=>by
   let%[t'|rfl]:=r;show .cons _ _ (je t)
def eC:∀{ks:ZB} {us:ZG},Ng us ks->aN (ks\3) us
 | _,_,.nil=> .nil
 | _,_,.cons _ t h=> .cons %[t|rfl] (eC h)
section
variable{X:Cx}{K:ZA}
def Cj(h:X.K=K):b7 X (.builtin "sorted") (λxs H Q=>cL xs λj=>asR j λa=>∃ks,Qb K H a (ks\3)/\ ~~~ks<64/\∀l (ss:ZB),H l=hH->ss.Perm ks->ss.Pairwise (λa b=>aP b a=hY)->Q (.ref l) (Qa H l (.lst (ss\3)))):=by
 subst h;show⟨λij s L H xs us Q I r h=>?_⟩;let%[j,rfl|d]:=bC h;let%[a,rfl|e]:=aO d;let%[ks,v,few|q]:=e;let%[u,rfl|w]:=dc r;cases w;let%[its,m,%[o,n,y,z,M|f]|N]:=I.list v;let O: ~~~its= ~~~ks:=by rw[<-m.length,Z6]
 show ik (ks:=ks) (λT R A=>WN a (.inl rfl) y z f (λh' k=>?_) (!2)) (by omega) λU s' l vs ss n B p C k1 E G k g o c J=>?_
 .show A _ _ _ (je m) (.refl _) k rfl rfl
 .let i:=I.keptS k1 E G;show%[.ref l,_,i.stoodS (o:= .lst _) (i.keptS k g o) c %[?_,vs,n,eC B|J],ρ|q l ss (i.hok.fresh c) p (C few)];rw[Z6,p.length_eq,Na];omega
def qc{P:nX}{w:wh}:∀{es:gN Tp} {vs:gN (Key×jg)} {ks:ZB},Pairs (aU P w) es vs->vs\1=ks.map kj->Ng (es.map (·.key)) ks
 | _,_,[],h,e=>by
   cases h with
   | nil=>show .nil
   | cons _ _ _=>cases e
 | _,_,k::ks,h,e=>by
   cases h with
   | nil=>cases e
   | @cons l m a b c n d=>
     rw[Yp,Yp]at e;injection e with f g
     rcases a9 (c)with⟨i,t,q,_⟩|⟨x,t,q,j⟩
     .simp_all
     .rw[f]at q;cases q;rw[Yp,j];show .cons _ _ (qc d g)
def uf(w:X.calm=hX):b7 X (.builtin "sorted") (λxs H Q=>cL xs λm=>asR m λa=>∃(c:gN (Key×V)),Rd H a (.dK c)/\∃(ks:ZB),c\1=ks.map kj/\ ~~~ks<64/\∀l (ss:ZB),H l=hH->ss.Perm ks->ss.Pairwise (λa b=>aP b a=hY)->Q (.ref l) (Qa H l (.lst (ss\3)))):=by
 show⟨λij s T H xs us Q I r h=>?_⟩;let%[m,rfl|e]:=bC h;let%[a,rfl|f]:=aO e;let%[c,y,ks,i,few|q]:=f;let%[u,rfl|z]:=dc r;cases z;let%[_,lo,vs,A,o,es,U,g,ex,B,_,C|_]:=kM I.hok y;let p:=qc C (i▸A.keys.symm);let Y:=by
  let:=cG p;rw[Z6,Zb]at this;omega
 show ik (ks:=ks) (λE1 R E=>n9 lo (I.ok.hd w) %[o,g,ex|B] (by rw[Na];omega) λh' tk k G=>E _ _ _ p (.refl _) k rfl rfl) (by omega) λs1 s' l vs ss n J v L k1 M N k g o d O=>?_
 let j:=I.keptS k1 M N;show%[.ref l,_,j.stoodS (o:= .lst _) (j.keptS k g o) d %[?_,vs,n,eC J|O],ρ|q l ss (j.hok.fresh d) v (L few)];rw[Z6,v.length_eq,Na];omega
def qd{w:wh}(h:X.w=w)(z:X.calm=hX):b7 X (.builtin "sorted") (λxs H Q=>cL xs λv=>asR v λa=>∃ks,H a∣oH w a ks/\ ~~~ks<=1000/\∀l (ss:ZB),H l=hH->ss.Perm ks->(~~~ks<64->ss.Pairwise (λa b=>aP b a=hY))->Q (.ref l) (Qa H l (.lst (ss\3)))):=by
 subst h;show⟨λij s L H xs us Q I r h=>?_⟩;let%[v,rfl|e]:=bC h;let%[a,rfl|f]:=aO e;let%[ks,A,few|q]:=f;let%[u,rfl|B]:=dc r;cases B;let%[S,_|_]:=(I.hok a _ A)
 show ik (ks:=ks) (λM R C=>wP (I.ok.hd z) S λy vs ss i d k1 j m E=>C y vs ss i d k1 j m) few λy s' l vs ss n i d G k1 j m k g o c J=>?_
 let p:=I.keptS k1 j m;show%[.ref l,_,p.stoodS (o:= .lst _) (p.keptS k g o) c %[?_,vs,n,eC i|J],ρ|q l ss (p.hok.fresh c) d G];rw[Z6,d.length_eq,Na];omega
def Ck(h:X.K=K):b7 X (.builtin "sorted") (λxs H Q=>cL xs λi=>asR i λa=>∃(ps:ZH),Qb K H a (ps\0)/\aJ H ps/\∃(m:iv),(∀p∈ps,~~~p.2=m)/\m≠0/\ ~~~ps<=1000/\∀(l:kw) (ss:ZH),H l=hH->ss.Perm ps->Q (.ref l) (Qa H l (.lst (ss\0)))):=by
 subst h;show⟨λij s N H xs us Q I r h=>?_⟩;let%[i,rfl|c]:=bC h;let%[a,rfl|d]:=aO c;let%[ps,v,w,m,y,z,few|q]:=d;let%[u,rfl|A]:=dc r;cases A;let%[its,B,%[o,n,C,E,O|e]|T]:=I.list v;let:=vM B;subst this;show lj (λU R G=>WN a (.inl rfl) C E e (λh' k=>?_) (!2)) (oY I w) y z few λY s' l ss n j k1 J L k g o b M=>?_
 .show G _ _ (Nw _) k rfl rfl
 .let f:=I.keptS k1 J L;show%[.ref l,_,f.stoodS (o:= .lst _) (f.keptS k g o) b %[?_,ss.map _,n,oZ ss|M],ρ|q l ss (f.hok.fresh b) j];rw[Z6,j.length_eq,Na];omega
def EU{k:iv}{i o:zr}{ty a:TE}{pos:Pos}(b:bP k X.A)(c:Nl .In o=hY)(hi:QE X i ty)(d:QE X o a):QT X (.Compare i [.In] [o] pos) (tB (GL ty a)):=
 ⟨C2 (DE (by let:=b.units;omega) hi.h d.h) c⟩
end
def bU{X:Cx}{K:ZA}{a b:zr}{c d:TE}{pos:Pos}(h:X.K=K)(e:oS b)(f:QE X a c)(g:QE X b d):QE X (.Subscript a b pos) (tOp (JD K) c d):=by subst h;show⟨Dw JF f.h g.h e⟩
section
#where
end
section
end
section
#where
end
section
variable{X:Cx}{pos:Pos}
def qf(b:Qq (Nm X.prog X.w) X.A X.env X.xe)(d:QT X c e)(f:QSs X a g):QS X (.While c a [] pos) (C9 e g):=⟨Da b d.h f.h⟩
def bH(a:bP k X.A)(b:JN i)(c:QE X o d)(hi:QE X i ty):QE X (.Subscript o i pos) (DD d ty):=⟨GM (by let:=a.units;lia) c.h hi.h b⟩
#where
def Hy{P:iv->jg->Prop}(val:iv->kG)(a:∀i v,P i v->∃t,v= .str (val i) t):CmpOf prog w A .Gt P (λi j=>decide ((val j).cps.toList<(val i).cps.toList)):=λi j b c s Q E hi d h=>by
 let%[t|rfl]:=a i b hi;let%[u|rfl]:=a j c d;show WQ (O3 s _ t) (O3 s _ u) PySem.F.slot_str_gt PySem.F.entry_str_gt (PySem.F.args_str_gt_2 _ _) (gives_str_gt _ _ t u) (λx=>nomatch x) h
def AF{P:iv->jg->Prop}(val:iv->kG)(a:∀i v,P i v->∃t,v= .str (val i) t):CmpOf prog w A .Lt P (λi j=>decide ((val i).cps.toList<(val j).cps.toList)):=λi j b c s Q E hi d h=>by
 let%[t|rfl]:=a i b hi;let%[u|rfl]:=a j c d;show WQ (O3 s _ t) (O3 s _ u) PySem.F.slot_str_lt PySem.F.entry_str_lt (PySem.F.args_str_lt_2 _ _) (gives_str_lt _ _ t u) (λx=>nomatch x) h
def EV{i:iv}{v:jg}(h:(#[MU x t,MU y u]:ZK)[i]?∣v):∃t,v= .str (if i=0 then x else y) t:=by
 match i,h with
 | 0,h=>show%[t|by simpa using h.symm]
 | 1,h=>show%[u|by simpa using h.symm]
 | i+2,h=>simp at h
def xp(a:iv->iv->re):P0 a 1=if a 1 0=hX then 1 else 0:=by simp[P0]
def vP{x y:kG}(l:A.handled=hH)
 (h:∀h' tk,(∀c o,s.heap.get? c∣o->h'.get? c∣o)->Q (if x.cps.toList<y.cps.toList then .str y u else .str x t) {s with heap:=h',toks:=tk}):
 ↥A (call (.builtin "max") [.str x t,.str y u]) Q E s:=by
 let j:(s.heap.push {cls:= .type _,data:= .seq #[.str x t,.str y u]}).IsTuple ⇑s _:=%[_,Zj _ rfl,rfl,0|rfl]
 show call_max_two (So j ?_);let b:(s.heap.push {cls:= .type "tuple",data:= .seq #[.str x t,.str y u]}).objs.size=⇑s+1:=Zq ..;show%[_,[_,⇑s],[_],_,_,_,_,ρ,WV (A:=A.in1) l _ ⇑s (b▸Zs (Yn _)) _,
  %[%[_,Zj _ rfl,ρ|ρ]|j.push _],λc d=>?_,by simp,Hy _ (λ_ _=>EV)|λv h' tk m n=>?_]
 .rw[Zq,b];rcases Yv.mp d with rfl|d
  .simp
  .rcases Yv.mp d with rfl|d
   .show Ym (Yn _)
   .cases d
 .let f:=λc o e=>by
   show n c o (λi=>?_) (Z7 _ (Z7 _ e));rcases Yv.mp i with p|i
   .let:=Zu e;rw[p,b]at this;show Xj _ (Vw this)
   .cases i
  let q:=h h' tk f;let a:(#[MU x t,MU y u])[P0 _ 1]?∣v:=m;rw[xp]at a;by_cases g:x.cps.toList<y.cps.toList
  .rw[lp (by simp[g])]at a;rw[lp g]at q;show(show MU y u=v by simpa using a)▸q
  .rw[ku (by simp[g])]at a;rw[ku g]at q;show(show MU x t=v by simpa using a)▸q
def vQ{x y:kG}(l:A.handled=hH)
 (h:∀h' tk,(∀c o,s.heap.get? c∣o->h'.get? c∣o)->Q (if y.cps.toList<x.cps.toList then .str y u else .str x t) {s with heap:=h',toks:=tk}):
 ↥A (call (.builtin "min") [.str x t,.str y u]) Q E s:=by
 let j:(s.heap.push {cls:= .type _,data:= .seq #[.str x t,.str y u]}).IsTuple ⇑s _:=%[_,Zj _ rfl,rfl,0|rfl]
 show call_min_two (So j ?_);let b:(s.heap.push {cls:= .type "tuple",data:= .seq #[.str x t,.str y u]}).objs.size=⇑s+1:=Zq ..;show%[_,[_,⇑s],[_],_,_,_,_,ρ,WV (A:=A.in1) l _ ⇑s (b▸Zs (Yn _)) _,
  %[%[_,Zj _ rfl,ρ|ρ]|j.push _],λc d=>?_,by simp,AF _ (λ_ _=>EV)|λv h' tk m n=>?_]
 .rw[Zq,b];rcases Yv.mp d with rfl|d
  .simp
  .rcases Yv.mp d with rfl|d
   .show Ym (Yn _)
   .cases d
 .let f:=λc o e=>by
   show n c o (λi=>?_) (Z7 _ (Z7 _ e));rcases Yv.mp i with p|i
   .let:=Zu e;rw[p,b]at this;show Xj _ (Vw this)
   .cases i
  let q:=h h' tk f;let a:(#[MU x t,MU y u])[P0 _ 1]?∣v:=m;rw[xp]at a;by_cases g:y.cps.toList<x.cps.toList
  .rw[lp (by simp[g])]at a;rw[lp g]at q;show(show MU y u=v by simpa using a)▸q
  .rw[ku (by simp[g])]at a;rw[ku g]at q;show(show MU x t=v by simpa using a)▸q
def sd{l:kw}{its:ZK}{val:iv->kG}{Q:ZE}(n:A.handled=hH)(f:s.heap.IsList l its)(g:0<its.size)(a:∀(i:iv) v,its[i]?∣v->∃t,v= .str (val i) t)
 (h:∀v h' tk,its[P0 (λi j=>decide ((val i).cps.toList<(val j).cps.toList)) (its.size-1)]?∣v->(∀b o,s.heap.get? b∣o->h'.get? b∣o)->Q v {s with heap:=h',toks:=tk}):
 ↥A (call (.builtin "min") [.ref l]) Q E s:=by
 let c:l<⇑s:=by let%[_,e|_]:=f;show Zu e
 show call_min_walk (Pk f %[_,[⇑s,l],[⇑s],_,_,_,_,rfl,SV (A:=A.in1) n _ l (Zs c) its,%[%[_,Zj _ rfl,rfl|rfl]|f.push _],λb d=>?_,g,AF val a|λv h' tk p q=>?_])
 .rw[Zq];rcases Yv.mp d with rfl|d
  .simp
  .rcases Yv.mp d with rfl|d
   .show Ym c
   .cases d
 .show h v h' tk p λb o e=>q b o (λm=>?_) (Z7 _ e)
  rcases Yv.mp m with r|m
  .show n0 (r▸Zu e) (Xj _)
  .cases m
def qg(val:iv->kG):∀k,P0 (λi j=>decide ((val i).cps.toList<(val j).cps.toList)) k<=k/\∀j,j<=k->aP (val j) (val (P0 (λi j=>decide ((val i).cps.toList<(val j).cps.toList)) k))=hY
 | 0=>%[Zi _|λj b=>by rw[le_zero.mp b];show dI _]
 | k+1=>by
   let%[g|d]:=qg val k;rw[P0];by_cases c:aP (val (k+1)) (val (P0 (λi j=>decide ((val i).cps.toList<(val j).cps.toList)) k))=hX
   .let a:=c;unfold aP at a;rw[lp a];show%[Zi _|λj b=>?_];by_cases e:j=k+1
    .show e▸dI _
    .cases f:aP _ _ with
     | false=>rfl
     | true=>have:=d0 f c;rw[d j ⋯]at this;cases this
   .let a:=c;unfold aP at a;rw[ku a];show%[⋯|λj b=>?_];by_cases e:j=k+1
    .lia
    .show d j ⋯
end
section
variable{X:Cx}
def Cl(g:X.calm=hX):cF X (.builtin "max") (λxs H Q=>lI xs λf x2=>asS f λx=>asS x2 λy=>Q (.str (if aP x y=hX then y else x)) H):=by
 intro ij s i H xs us Q I r h;let%[f,x2,rfl|b]:=iV h;let%[x,rfl|c]:=d8 b;let%[y,rfl|d]:=d8 c;let q:=d;let%[u,j,rfl,%[t|rfl],t'|rfl]:=kK r;show vP (I.ok.hd g) λh' tk k=>%[_,H,I.kept k,?_|q]
 by_cases a:x.cps.toList<y.cps.toList
 .rw[lp a,lp (show aP x y=hX from Zf a)];show%[_|ρ]
 .rw[ku a,ku (show ¬ aP x y=hX from λe=>a (Zo e))];show%[_|ρ]
def Cm(g:X.calm=hX):cF X (.builtin "min") (λxs H Q=>lI xs λf x2=>asS f λx=>asS x2 λy=>Q (.str (if aP y x=hX then y else x)) H):=by
 intro ij s i H xs us Q I r h;let%[f,x2,rfl|b]:=iV h;let%[x,rfl|c]:=d8 b;let%[y,rfl|d]:=d8 c;let q:=d;let%[u,j,rfl,%[t|rfl],t'|rfl]:=kK r;show vQ (I.ok.hd g) λh' tk k=>%[_,H,I.kept k,?_|q]
 by_cases a:y.cps.toList<x.cps.toList
 .rw[lp a,lp (show aP y x=hX from Zf a)];show%[_|ρ]
 .rw[ku a,ku (show ¬ aP y x=hX from λe=>a (Zo e))];show%[_|ρ]
def Cn(C:X.calm=hX):cF X (.builtin "min") (λxs H Q=>cL xs λn=>asR n λp=>∃(ss:ZB),Qb X.K H p (ss\3)/\0< ~~~ss/\∀m∈ss,(∀y∈ss,aP y m=hY)->Q (.str m) H):=by
 intro ij s T H xs us Q I r h;let%[n,rfl|f]:=bC h;let%[p,rfl|g]:=aO f;let%[ss,E,U|q]:=g;let%[u,rfl|l]:=dc r;cases l;let%[its,o,G|Y]:=I.list E;let a:= ~~~o;rw[Z6]at a;let J:its.toArray.size= ~~~ss:=by rw[Zp,a]
 let c:∀i v,its.toArray[i]?∣v->∃t,v=MU (ss.getD i MQ) t:=λi v e=>by
  let e:=↑e
  let hi:i< ~~~ss:=a▸(Xl e).1;let%[u,w|l]:=o.get (by rw[Zl,Z4 hi];rfl);rw[e]at w;let%[t|d]:=l;show%[t|by rw[Za w,d,Zc,Z4 hi];rfl]
 show sd (I.ok.hd C) G.isList ⋯ c λv h' tk z k=>?_
 let%[L|A]:=qg _ _;let%[t|d]:=c _ _ z
 generalize P0 _ _=b at L A z d
 let B:b< ~~~ss:=by lia
 let M:ss.getD b MQ=ss[b]:=by rw[Zc,Z4 B];rfl
 show%[.str _,H,I.kept k,%[t|d]|q _ (M▸Yc B) λy N=>?_];let%[j,O|rfl]:=Pu N;let:=A j ⋯;rwa[show ss.getD j MQ=ss[j] by rw[Zc,Z4 O];rfl]at this
def Kz(a:X.calm=hX):b7 X (.builtin "max") (λxs H Q=>lI xs λb x2=>asS b λx=>asS x2 λy=>Q (.str (if aP x y=hX then y else x)) H):=⟨Cl a⟩
def EW(a:X.calm=hX):b7 X (.builtin "min") (λxs H Q=>lI xs λb x2=>asS b λx=>asS x2 λy=>Q (.str (if aP y x=hX then y else x)) H):=⟨Cm a⟩
def KA{K:ZA}(h:X.K=K)(a:X.calm=hX):b7 X (.builtin "min") (λxs H Q=>cL xs λb=>asR b λp=>∃(ss:ZB),Qb K H p (ss\3)/\0< ~~~ss/\∀m∈ss,(∀y∈ss,aP y m=hY)->Q (.str m) H):=by subst h;show⟨Cn a⟩
#where
variable{R:Su->md->Prop}{I:kw}{fp:gN kw}{wr:gN kw}{G:ow R4->ow R4->Prop}{n:iv}{P:iv->jg->Prop}{St:iv->md->Prop}
end
def AG{b:Type}{a:gN (b×V)}{vs:gN (b×jg)}(r:KV a vs):aN (a\2) (vs\2):=by
 induction r with
 | nil=>show .nil
 | cons h _ c=>show .cons h.2 c
section
variable{X:Cx}{K:ZA}
abbrev EX:V->gN V->Hp->VK->Prop:=λx vs H Q=>asR x λa=>∃k y,vs=[kV k,y]/\∃b,H a∣.dK b/\ ~~~b<lX/\(∀v,bQ b k∣v->Q v H)/\(bQ b k=hH->Q y (Qa H a (.dK (dw b k y))))
def Hz:MtM X "dict.setdefault" EX:=by
 intro ij s J H x vs v us Q I p r h;let%[a,rfl,k,y,rfl,b,e,L,u|w]:=aO h;cases p;let%[M,A,rfl,B|l]:=kK r;let%[z,m,vs,c|n]:=lM I.hok e;show Rw VH n.typeIs PySem.F.entry_dict_setdefault (PySem.F.args_dict_setdefault_3 _ _ _) (kt_meets_setdefault _ a (pD B) m A) %[vs,n,~~~c▸z,λN hw=>?_|λO h' f C=>?_]
 .let q:=c.val k;cases d:bQ b k with
  | none=>
    rw[g9.none_of (o:=SL vs k) (d▸q)]at hw;cases hw
  | some i=>
    let%[E,g|j]:=g9.some_of (d▸q);rw[g]at hw;show(Za hw)▸%[i,H,I.tok _,j|u i d]
 .let d:bQ b k=hH:=by
   cases d:bQ b k with
   | none=>rfl
   | some i=>
     let%[E,g|_]:=g9.some_of (d▸c.val k)
     grind
  show%[y,_,lN I (e▸M8) C (let%[q,_,_,G|_]:=f;%[q|G]) (pF (by let:=hZ b k y;lia) m (c.put k l) f),l|w d]
def jf:MtQ X "dict.setdefault" EX:=⟨Hz⟩
abbrev l8(v a:kw):HO:= .ext λh=>h.IsValuesView v a
abbrev EY:V->gN V->Hp->VK->Prop:=λx vs H Q=>asR x λa=>vs=[]/\∃b,H a∣.dK b/\∀v,H v=hH->Q (.ref v) (Qa H v (l8 v a))
def HA:MtM X "dict.values" EY:=by
 intro ij s w H x vs v us Q I i j h;let%[a,rfl,rfl,l,e|q]:=aO h;cases i;let c:=j.zero;subst c;let%[z,m,vs,n|f]:=lM I.hok e;show Rw Xt f.typeIs PySem.F.entry_dict_values (PySem.F.args_dict_values_1 _) (meets_dict_values _ a m) %[%[vs|f]|?_];let g:(s.heap.push {cls:= .type _,data:= .fields _}).IsValuesView ⇑s a:=%[_,Zj _ rfl,rfl|rfl]
 show%[.ref ⇑s,_,I.laid (o:=l8 ⇑s a) (λb u e=>Z7 _ e) (Zi _) %[g,?_|λy A p k1=>?_],ρ|q _ I.fresh]
 .let%[o,d|_]:=g;show%[o|d]
 .let%[o,d|r]:=p;show%[o,k1 _ d|r]
def xq:MtQ X "dict.values" EY:=⟨HA⟩
def zJ(p:X.calm=hX):cF X (.type "list") (λxs H Q=>cL xs λn=>asR n λv=>∃(a:kw),H v∣l8 v a/\∃(b:gN (Key×V)),H a∣.dK b/\∀l,H l=hH->Q (.ref l) (Qa H l (.lst (b\2)))):=by
 intro ij s T H xs us Q I r h;let%[n,rfl|g]:=bC h;let%[v,rfl|j]:=aO g;let%[a,w,b,y|q]:=j;let%[u,rfl|A]:=dc r;cases A;let%[z,U,vs,f|B]:=lM I.hok y;let m:=(I.hok _ _ w).1;let%[o,es,C,E|G]:=B;let J:s.heap.DictAt _ a vs C:=%[o,es,E|G]
 let L:= ~~~f;show PySem.W.kdl_call (kdl_values) (I.ok.hd p) %[m|J] ⋯ λh' tk acc c keep M d=>?_
 let Y: ~~~acc.toList= ~~~b:=by rw[Zb,d.1,L]
 show%[.ref ⇑s,_,I.laid keep (Zi _) ?_,ρ|q _ I.fresh];let e:acc.toList=vs\2:=by
  show QR (!2) λi N h2=>?_
  let%[k|O]:=d.2 i _ (J6 N);let%[h3|e3]:=Xl O
  simp_all
 show%[by rw[Z6];show z,acc.toList,c,e▸AG f|M]
def HB(c:X.calm=hX):b7 X (.type "list") (λxs H Q=>cL xs λd=>asR d λv=>∃(a:kw),H v∣l8 v a/\∃(b:gN (Key×V)),H a∣.dK b/\∀l,H l=hH->Q (.ref l) (Qa H l (.lst (b\2)))):=⟨zJ c⟩
end
def xt:∀{ss:ZB},z∈ss->∃j,ss[j]?∣z/\(∀m,m<j->∀y,ss[m]?∣y->y≠z)/\(z::ss.eraseIdx j).Perm ss
 | x::ss,h=>by
   by_cases e:x=z
   .show%[0,by simp[e],λm b=>n0 b ⋯|by simp[e]]
   .let%[j,c,d|f]:=xt ((Yv.mp h).resolve_left λq=>e q.symm);show%[j+1,c,λm b y a=>?_|?_]
    .cases m with
     | zero=>simp at a;show a▸e
     | succ m=>show d m ⋯ y (a)
    .show(UL _ _ _).trans (f.cons _)
section
variable{X:Cx}{K:ZA}
abbrev KB:V->gN V->Hp->VK->Prop:=λx vs H Q=>asR x λa=>∃k y,vs=[kV k,y]/\∃b,H a∣.dK b/\Q ((bQ b k).getD y) H
def KC:MtM X "dict.get" KB:=by
 intro ij s n H x vs v us Q I f g h;let%[a,rfl,k,y,rfl,b,e|q]:=aO h;cases f;let%[o,i,rfl,j|l]:=kK g;let%[z,m,vs,c|d]:=lM I.hok e;show Rw YL d.typeIs PySem.F.entry_dict_get (PySem.F.args_dict_get_3 _ _ _) (meets_dict_get_default _ a (pD j) m i) %[_,d.mapOf,(bQ b k).getD y,H,I.tok _,(c.val k).getD l|q]
def xu:MtQ X "dict.get" KB:=⟨KC⟩
abbrev isZ(z:kG):jg->re
 | .str x _=>x==z
 | _=>hY
def Co(t:Tok)(r:aN (ss\3) its)(g: ~~~ss= ~~~its)(i:z∈ss):∃(j:iv) (d:j<its.toArray.size),ss[j]?∣z/\(z::ss.eraseIdx j).Perm ss/\(∀y,y∈its.toArray->MeetsSeq.EqGives y (.str z t) (isZ z y))/\isZ z its.toArray[j]=hX/\∀m (a:m<its.toArray.size),m<j->isZ z its.toArray[m]=hY:=by
 let%[j,e,l|n]:=xt i;let at_:∀m y,its[m]?∣y->∃x t,y=MU x t/\ss[m]?∣x:=λm y b=>by
  let a:m< ~~~ss:=g▸(Xl b).1;let%[u,h|o]:=r.get (by rw[Zl,Z4 a];rfl);rw[b]at h;let%[t|p]:=o;show%[_,t,(Za h).trans p|Z4 a]
 let d:j< ~~~its:=g▸(Xl e).1;show%[j,d,e,n,λy b=>?_,?_|λm a f=>?_]
 .let%[m|a]:=Xf ↑b;let%[x,t',rfl|_]:=at_ m y a;show eqGives_str x z t' t
 .let%[x,t',ex|c]:=at_ j _ (Z4 d);rw[e]at c;change isZ z its[j]=hX;rw[ex,<-Za c];show PP z
 .let%[x,t',ex|c]:=at_ m _ (Z4 a);change isZ z its[m]=hY;rw[ex];show MR.mpr (l m f x c)
abbrev vR:V->gN V->Hp->VK->Prop:=λx vs H Q=>asR x λl=>∃z,vs=[.str z]/\∃ss:ZB,H l<*ss\3/\z∈ss/\∀a,(z::a).Perm ss->Q .non (Qa H l (.lst (a\3)))
def Cp:MtM X "list.remove" vR:=by
 intro ij s A H x vs v us Q I c d h;let%[l,rfl,z,rfl,ss,a,f|q]:=aO h;cases c;let%[u,rfl|g]:=d.one;let%[t|rfl]:=g;let%[i,its,n,r,b|e]:=I.lstM a;rw[Z6]at b i;let%[j,m,_,o,p,w|y]:=Co t r b f;show O6 F.slot_list_remove %[_,e|rfl] F.entry_list_remove (F.args_list_remove_2 _ _) (MeetsSeq.list_remove l its.toArray n _ _ p j m w y (!2)) %[e,.non,_,I.lset (its':=its.eraseIdx j) a e ?_ ?_ ?_,rfl|q _ o]
 .simp
 .rw[Pf,Zd,Wz,WA,<-Pf];show r.eraseIdx j
 .let:=tD ss j;rw[Z6]
  lia
def EZ:MtQ X "list.remove" vR:=⟨Cp⟩
end
def Cq:Qv (.type "list_reverseiterator") "__len__"=pure hH:=by kernel_rfl
def E8:Qv (.type "list_reverseiterator") "__length_hint__"=pure (hV (.builtin "list_reverseiterator.__length_hint__")):=by kernel_rfl
section
#where
def sf(hh:A.handled=hH)(O:s.heap.IsRevIter I l ((a.size:on) -1))(U:s.heap.IsList l a)(ne:l≠I)(hz:a.size<=lX)
 (hQ:∀s' acc c,(∀b o,b≠I->s.heap.get? b∣o->s'.heap.get? b∣o)->s'.gens=s.gens->s'.os=s.os->s'.heap.get? ⇑s=hV {cls:= .type "list",data:= .seq acc c}->acc.toList=a.toList.reverse->Q (.ref ⇑s) s'):
 ↥A (call (.type "list") [.ref I]) Q E s:=by
 let v:I<⇑s:=let%[_,i|_]:=O;Zu i;let y:l<⇑s:=let%[_,i|_]:=U;Zu i
 generalize p:s.heap.push {cls:=Nh "list",data:=Data.seq #[]}=G
 let gz:G.objs.size=⇑s+1:=by rw[<-p,Zq]
 let z:∀b o,s.heap.get? b∣o->G.get? b∣o:=λb o e=>by rw[<-p];show Z7 _ e
 let q:G.get? ⇑s=hV {cls:=Nh "list",data:=Data.seq #[]}:=by rw[<-p];show Zj _ rfl
 show callType_codes (Q₁:=λobj g=>obj= .ref ⇑s/\g=(s>>>G)) F.called_list (F.typeCall_list_1 (m4 I)) F.entry_list_init (code_list_new (m4 I) %[rfl|by rw[p]]) λobj g j=>?_
 let%[rfl|rfl]:=j;show%[%[_,q|ρ],F.args_list_init_2 _ _|?_];change ↥A.in1.in1 (n7.«list.__init__» %[[.ref ⇑s,.ref I]|[]]) _ _ _;unfold n7.«list.__init__»;show Z2 ?_;show listItems_at (s:=(s>>>G)) q rfl ?_;show Z2 (PX (s:=(s>>>G)) q rfl ?_ (Xe _));let Y:=MT (NI λ_=> #[]) q rfl;let f:∀b o,b≠⇑s->G.get? b∣o->(G.update ⇑s (NI λ_=> #[])).get? b∣o:=λb o B e=>(J5 _ _ (J0 B)).trans e
 show Z2 (Oz ?_)
 generalize G.update ⇑s (NI λ_=> #[])=h at Y f
 let C:I≠⇑s:=Zs v;let nl:l≠⇑s:=Zs y;let m:h.IsRevIter I l ((a.size:on) -1):=O.at λo e=>f _ _ C (z _ _ e)
 let H:h.IsList l a:=let%[o,i|r]:=U;%[o,f _ _ nl (z _ _ i)|r];let W:=Tz.listRev (prog:=prog) (w:=w) (A:=A.in1.in1) hh I l ne a;let n:(0<=a.size/\h.IsRevIter I l (↑(a).size-1-((0:iv):on))/\h.IsList l a):=%[Xe _,↑m|H]
 change ↥A.in1.in1 (Ob (.ref ⇑s) (.ref I) .none) _ _ (s>>>h);unfold Ob;let u:Rx (s>>>h) (.ref I) "list_reverseiterator":=m.typeIs;show Z2 (Rn (T:="list_reverseiterator") u ?_);let n1:Sa (.ref ⇑s) (.ref I)=hY:=MR.mpr (J0 C);let n2:(Nh "list_reverseiterator"==Nh "list")=hY:=!1
 let n3:(Nh "list_reverseiterator"==Nh "tuple")=hY:=!1
 simp only[n1,n2,n3,WH,Zz,OO];show Z2 (W.self 0 (s>>>h) _ _ n ?_);show Z2 (v0 ?_);unfold RB;show Z2 (P7 (T:="list_reverseiterator") u Cq ?_);change tI _ _ (specialOf (.ref I) (!"__length_hint__")>>= _) _ _ _;show Z2 (P7 u E8 ?_)
 wp_delta
 show Z2 (Oe (T:="list_reverseiterator") (b:=hX) u (by rw[isSubtype_type];kernel_rfl) ?_);simp only[WI,Zz,OO];rw[lp (!0)];rw[ku (!1)];show Z3 ?_;rw[ku (!0)];let J:⇑s∉[I,l]:=by
  simp only[Yv,X6,No,Pr];show%[J0 C|J0 nl]
 show Z3 %[NW VA _|VQ W.toS hz _ J _ a.size 0 _ _ _ rfl (Xe _) n Y (Wh _) λs5 acc c5 L M d=>?_];show%[ρ|hQ s5 acc c5 (λb o B e=>?_) L.gens L.os M ?_]
 .let nb:b≠⇑s:=Zs (Zu e);show L.heap b o ?_ (f _ _ nb (z _ _ e));simp only[Yv,X6,No,Pr];show%[nb|B]
 .apply Ru;intro k;let al: ~~~acc.toList=a.size:=Zb▸d.1;by_cases hk:k<a.size
  .let N:k<acc.size:=d.1▸hk;let:=d.2 k acc[k] ∅;rw[gN.getElem?_reverse (hk),Zb,OU,OU,this];simp[N]
  .rw[Xk ⋯,Xk (by simp;lia)]
end
abbrev KD(n:iv)(a l:kw)(m:iv):HO:= .ext λh=>n<=a/\h.IsRevIter a l (m-1)
def Cr{X:Cx}:cF X (.type "reversed") (λxs H Q=>∃(l:kw) (ys:gN V),xs=[.ref l]/\Qb X.K H l ys/\∀r,H r=hH->Q (.ref r) (Qa H r (KD X.s₀.heap.objs.size r l ys.length))):=by
 intro ij s a H xs us Q I r h;let%[l,ys,rfl,c|q]:=h;let%[u,rfl|d]:=dc r;cases d;let%[its,f,pl|j]:=I.list c;show call_reversed_list pl.isList ?_;let g:=I.hok.fresh (Zi _);let J:Qc X ij a H (s>>>(s.heap.push (revObj l (its.toArray.size-1)))):=I.keptS (λb o e=>Z7 _ e) rfl rfl;show%[.ref ⇑s,_,I.stoodS (o:=KD X.s₀.heap.objs.size ⇑s l ys.length) J (Zi _) %[%[I.sz|?_],%[_|Zj _ rfl]|λ_ _ %[i|x] k=>%[i|x.at λo e=>k o e]],ρ|q _ g];rw[~~~f,<-Zp];show%[_,Zj _ rfl,ρ|ρ]
def Qc.dropped{X:Cx}(I:Qc X ij j H s)(l:H a∣.ext i)(m:X.s₀.heap.objs.size<=a)(f:∀b o,b≠a->s.heap.get? b∣o->s'.heap.get? b∣o)(r:s'.gens=s.gens)(v:s'.os=s.os):Qc X ij j (drop H a) s':=by
 let ne:∀{b:kw} {o:HO},H b∣o->(∀i,o≠ .ext i)->b≠a:=λe n z=>by
  grind
 let un:Un (frs X.stack) [a] H (drop H a) s.heap s'.heap:=by
  show%[λb o e _ _ d=>f b o ↑d e,λb o e _ _ d=>%[o.slots|f b o ↑d e],λb o _ n _=>?_,λb o e d=>%[o|f b o ↑d e],λb xs e=>?_,λb o u e=>?_|λb ps e=>%[#[]|?_]]
  .unfold drop;split
   .rfl
   .show n
  .rw[bW (ne e ∅)];show e
  .rw[bW (ne e ∅)];show e
  .rw[bW (ne e ∅)];simpa using e
 let g:HOk X.prog X.w (drop H a) s'.heap:=λb o e=>by
  let nb:b≠a:=λz=>by rw[z,iK]at e;cases e
  rw[bW nb]at e;show(I.hok b o e).stay (λc u h q=>f c u ?_ q) (λc q=>?_) λc xs q=>?_
  .rcases h with rfl|h
   .show nb
   .show ne h ∅
  .rw[bW (ne q ∅)];show q
  .rw[bW (ne q ∅)];show q
 show I.call' v un g (by rw[r];show I.bare) λb w=>by
  obtain rfl:b=a:=↑w
  show%[.inr m,λz=>?_,λx c e z=>?_|λp y z=>?_]
  .let:=I.free;grind
  .let:=I.freeC x c e;grind
  .let:=(I.pin p y).2.1;rw[z,l]at this;cases this
def xv{X:Cx}(y:X.calm=hX):cF X (.type "list") (λxs H Q=>∃(r l:kw) (ys:gN V),xs=[.ref r]/\H l<*ys/\H r∣KD X.s₀.heap.objs.size r l ys.length/\∀p,drop H r p=hH->p≠r->Q (.ref p) (Qa (drop H r) p (.lst ys.reverse))):=by
 intro ij s L H xs us Q I r h;let%[a,l,ys,rfl,g,f|q]:=h;let%[u,rfl|A]:=dc r;cases A;let%[z,its,n,B,m|e]:=I.lstM g;let%[%[v|b]|_]:=I.hok a _ f;let i:l≠a:=λz=>by rw[z,f]at g;cases g
 let sz:its.toArray.size= ~~~ys:=!2
 show sf (I.ok.hd y) (by rw[sz];show b) %[_,e,rfl,n|rfl] i (by rw[sz];show z) λs' acc c C E j G d=>?_
 let w:=I.dropped f v (λ_ _ _ e=>e) rfl rfl;let J:=I.dropped f v C E j;let lt:=let%[_,j|_]:=b;Zu j;show%[.ref ⇑s,_,w.stoodS (o:= .lst ys.reverse) J (Zi _) %[?_,acc.toList,c,?_|?_],ρ|q _ (w.hok.fresh (Zi _)) (Yz lt)]
 .rw[UK];show z
 .rw[d];show B.reverse
 .show G
abbrev xw(b:TE):TE:=λc H Q=>b c H λv a=>∃l ys,v= .ref l/\a l<*ys/\∀p,a p=hH->Q (.ref p) (Qa a p (.lst ys.reverse))
def E9{X:Cx}(h:X.calm=hX)(i:Gl X "reversed")(j:X.mg "reversed"=hH)(a:Gl X "list")(b:X.mg "list"=hH)(d:aS e=hY)(m:QE X e n):
 QE X (.Call (.Name "list" o) [.Call (.Name "reversed" s) [e] [] u] [] w) (xw n):=by
 let y:QE X (.Call (.Name _ s) [e] [] u) _:=ctE ⟨Cr⟩ i j X0 rfl rfl (by simp[d]) (paE d (⟨Kj m.h⟩) ao);let z:=ctE (p:=o) (pos:=w) ⟨xv h⟩ a b Rc rfl rfl rfl (paE rfl y ao);show⟨Kk z.h λB H Q q=>?_⟩;show%[_,q|λv C %[l,ys,A,c|q]=>%[l,ys,by rw[A],Qb.of c|λr f=>?_]];show%[r,l,ys,ρ,by rw[aq (aw c f)];show c,aa|λp g _=>?_];rw[Ev f]at g ⊢;show q p g
section
variable{X:Cx}
abbrev KF:R2:=λx y H Q=>asR x λa=>asR y λb=>∃xs,H a<*xs/\H b<*[]/\Q (.bl (decide (xs≠[]))) H
def KG(B:X.A.units+64<Os):OpR X (pw .NotEq) KF:=by
 intro ij s C H x y v u Q I l m h;let%[a,rfl|o]:=aO h;let%[b,rfl,xs,p,w|q]:=aO o;cases l;cases m;let%[z,its,n,r,g|e]:=I.lstM p;let%[E,its2,i,G,d|c]:=I.lstM w;obtain rfl:its2=[]:=yu.mp d.symm;by_cases f:xs=[]
 .subst f;obtain rfl:its=[]:=yu.mp g.symm;show U8 (op:= .NotEq) %[_,e|rfl] %[_,c|rfl] PySem.F.slot_list_ne PySem.F.entry_list_ne (PySem.F.args_list_ne_2 _ _) (SeqAt.list_neAt a b #[] #[] n i hH hH #[] #[] rfl λ_=>hX) %[e,c,λj h=>n0 h (X4 j),by simp,.bl _,H,I,rfl|q] ⋯
 .let A:its.toArray.size≠0:=by
   rw[Zp,<-g];show λq=>f (yu.mp q)
  rw[Zf f]at q;show U8 (op:= .NotEq) %[_,e|rfl] %[_,c|rfl] PySem.F.slot_list_ne PySem.F.entry_list_ne (PySem.F.args_list_ne_2 _ _) (SeqAt.list_ne_lengthsAt a b its.toArray #[] n i hH hH #[] #[] ↑A) %[e,c,by simp,.bl hX,H,I,rfl|q] ⋯
def qh(a:bP k X.A):OpQ X (pw .NotEq) KF:=⟨KG a.units⟩
#where
def gE(I:gN i->j->md->Prop):∀(xs:gN i) (b:j) (s:md),I xs b s->
 (∀x r b s,I (x::r) b s->↥A (f x b) (λy s'=>match y with| .done c=>Q c s'| .yield c=>I r c s') E s)->(∀b s,I [] b s->Q b s)->↥A (forIn xs b f) Q E s
 |[],b,s,h,_,a=>by
  show Z3 (a b s h)
 | x::r,b,s,h,d,a=>by
   rw[Ss];show Z2 (MZ (d x r b s h) (λy s' g=>?_) λ_ _ e=>e);cases y with
   | done c=>show Z3 g
   | yield c=>show gE I r c s' g d a
def Fa:∀c {Q:re->md->Prop},(∀b∈c,∃d,bI w b d s.heap)->Q hX s->↥A (setsQuiet c) Q E s:=by
 intro c Q h l;show Z2 (gE (λr b s'=>(∀b∈r,∃d,bI w b d s.heap)/\b=(hH,())/\s'=s) c _ s %[h,rfl|rfl] ?_ ?_)
 .intro x r b s' %[g,rfl|rfl];let%[d,o,es,C,t,ss,m,n,p,q,G,v,f,H,y,B|i]:=g x Zm;show Z2 (OG m p y (Z2 ?_));rw[<-Rt];show gE (λr b a=>(∀e∈r,∃z u,e=(N2 w z,MU z u))/\b=(hH,())/\a=s') es.toList _ _ %[f,rfl|rfl] ?_ ?_
  .intro e r b a %[j,rfl|rfl];let%[z,u|rfl]:=j e Zm;show Z3 %[λe h=>j e (Zk _ h),rfl|rfl]
  .intro b a %[_,rfl|rfl];show Z3 %[λe h=>g e (Zk _ h),rfl|rfl]
 .intro b s' %[_,rfl|rfl];show Z3 l
abbrev hsE(w:wh)(p:kG×Tok):on×jg:=(N2 w p.1,.str p.1 p.2)
def bI.texts{a:kw}{h:yc}{o:Ov}{es:ow (on×jg)}(c:Ng (es.toList\2) ss)(f:ss.Perm ks)(d:∀e∈es.toList,∃z u,e=(N2 w z,MU z u))(xs:gN (on×jg))(b:xs.Perm es.toList):∃zs:gN (kG×Tok),xs=zs.map (hsE w)/\(zs\1).Perm ks:=by
 let all:∀l,(∀e∈l,∃z u,e=(N2 w z,MU z u))->∃zs:gN _,l=zs.map (hsE w):=λl=>by
  induction l with
  | nil=>show λ_=>%[[]|rfl]
  | cons e l g=>
    intro h;let%[z,u|rfl]:=h e Zm;let%[zs|rfl]:=g λx b=>h x (Zk _ b)
    show%[(z,u)::zs|ρ]
 let%[zs|rfl]:=all xs λe i=>d e (b.mem_iff.mp i)
 show%[zs,ρ|?_];let%[ts,j|m]:=cH c (b.map _);let e:ts=zs\1:=by
  rw[<-j.strs,Yq,Yq];rfl
 show e▸m.trans f
def ug{f:gN kw}{c:ZJ}{Q:ow (on×jg)->md->Prop}(T:bI w a ks s.heap)(hO:∀b∈f,∃js,bI w b js s.heap)(m:∀r,c∣r->r≠a/\bI w r [] s.heap)
 (hQ:∀(zs:gN (kG×Tok)) (d:Drawn) (h':yc),(zs\1).Perm ks->(∀b o,c≠hV b->s.heap.get? b∣o->h'.get? b∣o)->(∀r,c∣r->bI w r [] h')->Q (zs.map (hsE w)).toArray {s with heap:=h',drawn:=d}):
 ↥A (setWalkUnseen a f c) Q E s:=by
 let%[o,es,ep,t,ss,U,ac,Y,I,hp,ae,J,H,hf,L|g]:=id T;let fin:∀(xs:gN _) d h',xs.Perm es.toList->(∀b o,c≠hV b->s.heap.get? b∣o->h'.get? b∣o)->(∀r,c∣r->bI w r [] h')->Q xs.toArray {s with heap:=h',drawn:=d}:=λxs d h' hx q h2=>by
  let%[zs,rfl|hz]:=bI.texts (a:=a) (h:=h') (o:=o) I hp J xs hx;show hQ zs d h' hz q h2
 let walk:↥A (setWalk a) Q E s:=by
  show Z2 (pp U Y hf ?_);change tI _ _ (if aY w=hX then _ else _) _ _ _;by_cases M:aY w=hX
  .rw[lp M];show Z2 (Nn (Z3 ?_));let:=fin (Og (w.params.setOrder a ep) es).toList s.drawn s.heap (tT _ _) (λ_ _ _ e=>e) λr e=>(m r e).2
   show this
  .rw[ku M]
   split
   .show Z2 (vx es.size es.toList _ _ ∅ λys d p=>Z3 (fin ys d s.heap p (λ_ _ _ e=>e) λr e=>(m r e).2))
   .show Z2 ?_;change tI _ _ (if(!t.led&&decide _)=hX then P6 _ else pure ()) _ _ _;rw[g,show aY w=hY by simpa using M];show Z3 (Z3 ?_);let:=fin es.toList s.drawn s.heap (.refl _) (λ_ _ _ e=>e) λr e=>(m r e).2
    show this
 show Z2 (pp U Y hf ?_);change tI _ _ (if(aY w||t.led&&t.plain||decide _)=hX then _ else _) _ _ _;by_cases q:(aY w||t.led&&t.plain||decide (es.size<=1))=hX
 .rw[lp q];show walk
 .rw[ku q];show Z2 (Fa _ (λb H=>?_) ?_)
  .rcases Yv.mp H with e|e
   .show e▸%[_|T]
   .show hO b e
  show Z2 (Oy ?_);cases c with
  | none=>
    let:=fin es.toList s.drawn s.heap (.refl _) (λ_ _ _ e=>e) λr e=>(m r e).2
    show Z3 this
  | some r=>
    let%[ne,o2,N,ag,n,ah,i,u,j,v,O,y,B,C,G,ab|l]:=m r rfl;dsimp only;show Z2 (pp i j G ?_)
    split
    .show Z2 (N3 i j ?_ (N5 C));let:=fin es.toList s.drawn _ (.refl _) (λb o H e=>((vu.update s.heap r (Oh N {n with led:=n.led&&t.led,plain:=n.plain&&t.plain})).2 b λz=>H (by rw[z])).trans e) λr' e=>?_
     .show Z3 this
     .cases e;show(bI.stored (t':={n with led:=n.led&&t.led,plain:=n.plain&&t.plain}) i u j v O y B C G (by rw[(L λz=>q (by rw[z];simp)),NC]) (by rw[l,g,TJ])).2
    .let:=fin es.toList s.drawn s.heap (.refl _) (λ_ _ _ e=>e) λr e=>(m r e).2
     show Z3 this
def HC(h:kJ (kj z) (MU y u)=hX):y=z:=by
 rcases a9 h with⟨i,t',a,b⟩|⟨c,t',a,b⟩
 .lia
 grind
def xx{ks:ZB}(g:s.heap.get? a∣o)(i:o.data= .set es G t)(b:∀e∈es.toList,∃z u,e=(N2 w z,MU z u))(B:es.size<Pd)(l:t.fits es.size=hX)
 (m:∀r,(r=hH->∀e∈es.toList,∀u,e.2≠ .str z u)->(∀j,r∣j->∃u,es.toList[j]?∣(N2 w z,.str z u))->Q r s):↥A (setFind a (.str z tk) (N2 w z)) Q E s:=by
 let n:ElemsOf (aU prog w) es.toList:=tR b;let c:(aU prog w).is (kj z) (.str z tk)=hX:=eJ z tk;show Z2 (pp g i l ?_);dsimp only;rw[byScan_of rfl B n];show Z2 (Oy (Z2 (W4 c g i l n ?_)));cases p:WC _ es.toList with
 | some j=>
   let%[v,d|_]:=R3.mp p;dsimp only;rw[SH];show Z3 (m _ (λh=>(nomatch h)) λH e=>?_);cases e;let%[y,u|f]:=b _ (Yc v);rw[f]at d;rw[HC (u:=u) d]at f;show%[u|by rw[Z4 v,f]]
 | none=>
   show Z3 (m hH (λ_ e C u q=>?_) λj e=>(nomatch e));let:=Tn.mp p e C;rw[q,show(aU prog w).is (kj z) (MU z u)=hX from eJ z u]at this;cases this
def Fb{P D M n i b:iv}(h:P=n/\P+D<=M)(hi:i<n):min i P+(P-(i+1))=n-1/\min i P+(P-(i+1)) +(min b D+1+(D-b))<=M:=by
 let%[rfl|h]:=h;let e:=iv.sub_add_min_cancel D b;let k:i+1+(P-(i+1))=P:=iv.add_sub_of_le hi;rw[RQ (Ye hi),iv.min_comm b D]
 generalize min D b=x at e ⊢
 generalize D-b=y at e ⊢
 generalize P-(i+1)=z at k ⊢
 show%[⋯|⋯]
def Cs{t:nz}(h:t.fits n=hX)(hi:i<n):(t.drop i).fits (n-1)=hX/\(t.drop i).led=t.led/\(t.drop i).plain=t.plain:=by
 unfold Ow at h ⊢;rw[Zv,N8,MW]at h;unfold nz.drop;let:t.place[i]?∣t.place[i]:=by simp
 rw[this];show%[?_,ρ|ρ];rw[Zv,N8,MW];unfold Rf at h ⊢;simp only[OW,nz.insertAt,RM,ow.size_extract,Xi,iv.min_self,Us];show Fb h hi
def zK(h:i<es.size):(OW es i).toList=es.toList.eraseIdx i:=by
 rw[Pf,OW,Xd,RK,RK,Ox,Ox];simp;show Zn ∅
def xy{ks:ZB}(H:bI w a ks s.heap)(l:∀h' b,vu a s.heap h'->bI w a (ks.erase z) h'->Q b (s>>>h')):↥A (setDiscardHashed a (.str z tk) (N2 w z)) Q E s:=by
 let%[o,es,ep,t,ss,g,m,h,c,I,n,d,J,p,v|f]:=id H;show Z2 (xx (ks:=ks) g h d J p λr L M=>?_);cases r with
 | none=>
   let N:z∉ks:=λq=>by
    let%[u|j]:=(eY c).mpr (I.mem_iff.mpr q);let%[e,y|O]:=Xo j;show L rfl e y u O
   rw[gN.erase_of_not_mem N]at l;show Z3 (l s.heap hY (vu.refl a s.heap) H)
 | some i=>
   let%[u|j]:=M i rfl;let hi:i<es.size:=(Xl j).1;let B:((N2 w z,MU z u)::(OW es i).toList).Perm es.toList:=by
    rw[zK hi];let:=i9 (xs:=es.toList) (hi);rwa[(Xl j).2]at this
   let%[ts,C|T]:=cH c (B.map _);cases C with
   | cons _ _ C=>
   let%[U,Y|d3]:=Cs p hi;let G:(OW es i).size=es.size-1:=by
    rw[<-Zb,<-Zb,<-B.length_eq];simp
   show Z2 (pp g h p ?_);dsimp only;show Z2 (N3 g h (Z2 (wpAny_point (Z3 (l _ hX (vu.update s.heap a _) (bI.stored g m h C ((gN.cons_perm_iff_perm_erase.mp (T.trans I)).2) (n.erase z) (λe y=>d e (B.mem_iff.mp (Zk _ y))) ?_ ?_ ?_ ?_).2)))) (N5 ?_))
   .lia
   .show G▸U
   .show d3▸v ⋯
   .show Y▸f
   .lia
end
def AH(h:_ST.WF t es)(a:es.size<=t.mask):t.fits es.size=hX:=by
 unfold Ow Rf;rw[h.size,h.dum];simpa using a
section
#where
abbrev vS(w:wh)(a:kw)(n:iv)(h:yc):Prop:=∃o b t,h.get? a∣o/\o.ExactSet/\o.data= .set #[] b t/\t.place= #[]/\t.dummies= #[]/\t.led=(!aY w)/\(∃k,t.mask+1=2^k)/\7<=t.mask/\n<=t.mask
def vS.fits{t:nz}(a:t.place= #[])(b:t.dummies= #[]):t.fits (#[]:ow (on×jg)).size=hX:=by
 unfold Ow Rf;rw[a,b];simp
def HD{n:iv}{Q:SW->md->Prop}(a:s.heap.get? r∣bV w)(f:n<=1000)(c:∀h',vu r s.heap h'->vS w r n h'->Q () (s>>>h')):↥A (setRoomFor r n) Q E s:=by
 let d:(PH 0 0 (!aY w)).fits _=hX:=vS.fits rfl rfl;show Z2 (pp a rfl d ?_);change tI _ _ (match(if(0+n)*5>=7*3 then hV ((0+n)*2)else hH)with|some x=>VI r x|_=>pure ()) _ _ _;by_cases h:(0+n)*5>=7*3
 .rw[lp h];show _ST.relay_w a rfl d ∅ ⋯ λb t' P W l p g m2=>c _ (vu.update s.heap r _) ?_
  obtain rfl:b= #[]:=by
   let:=P.length_eq;simpa using this
  let e:=by
   let q:=MT (Oh #[] t') a (by rfl);rwa[R5 #[] t' rfl]at q
  show%[_,_,t',e,%[ρ,ρ|ρ],ρ,Sh W.size,W.dum,l,W.pow,W.big|⋯]
 .rw[ku h];show Z3 (c s.heap (vu.refl r s.heap) %[_,_,_,a,%[rfl,rfl|rfl],rfl,rfl,rfl,rfl,%[3|rfl],Zi 7|by change n<=7;lia])
def Fc{ks:ZB}(L:bI w a ks s.heap)(M:s.heap.get? r∣bV w)(ne:r≠a)(h1:1<= ~~~ks)(h2: ~~~ks<=1000)(N:∀h',vu r s.heap h'->bI w r ks h'->Q () (s>>>h')):↥A (setMerge r a) Q E s:=by
 let%[o,es,ep,t,ss,O,T,U,m,C,y,z,hb,G,B|d]:=id L;let hn:es.size= ~~~ks:=by
  let q:=cG m;rw[Z6,Zb,C.length_eq]at q;show q
 let pl:t.plain=hY:=B ⋯;unfold setMerge;rw[ku ↑ne];show Z2 (pp O U G ?_);dsimp only;rw[ku (λh:es.isEmpty=hX=>by let:=Zo h;lia)];show Z2 (HD M ⋯ λh' Y %[o2,ab,n,g,u,i,H,I,J,k2,b2|m2]=>Z2 (pp (s:=(s>>>h')) g i (vS.fits H I) ?_));dsimp only;let j:n.fill=0:=by unfold Rf;rw[H,I];rfl
 let put:∀(b:ow (on×jg)) (t':nz),b.toList.Perm es.toList->t'.fits b.size=hX->t'.plain=hY->t'.led=(!aY w)->↥A (VG r b t') Q E (s>>>h'):=λb t' P f p l=>by
  let sz:b.size=es.size:=by rw[<-Zb,P.length_eq,Zb]
  let%[ts,r1|r2]:=cH m (P\2);show N3 (s:=(s>>>h')) g i (N _ (Y.trans (vu.update h' r _)) (bI.stored (w:=w) g u i r1 (r2.trans C) y (λe he=>z e (P.mem_iff.mp he)) ⋯ f p l).2) (N5 ⋯)
 unfold nz.road;rw[j,ku (!1)]
 split
 .show put es _ (.refl _) G (by change(n.plain&&t.plain)=hY;rw[pl,NC]) (by change(n.led&&t.led)=_;rw[J,d,TJ])
 .let%[k|hk]:=k2;let%[t',c,e1,e2,e3,e4,e5,W|P]:=_ST.laid_ok hk b2 es ⋯ n.finger n.moves _ _;let sz:(c.filterMap (es[·]?)).size=es.size:=by rw[<-Zb,P.length_eq,Zb]
  rw[e1];show Z2 ?_;change tI _ A (if((c.filterMap _).size != es.size)=hX then _ else pure _) _ E _;rw[ku (by simp[sz])];show Z3 (put _ t' P (show t'.fits _=hX from AH W (by rw[sz,e2];lia)) (by rw[e4,pl,NC]) (by rw[e3,J,d,TJ]))
 .rename_i v
  split at v<;> cases v
end
def bI.nd(S:bI w a ks h):ks.Nodup:=by
 let%[_,_,_,_,_,_,_,_,_,_,h|_]:=S;show h
section
#where
def vT(c:bI w b f s.heap)(d:Q hX s):↥A (V3 (.ref b)) Q E s:=by
 let%[o,es,g,t,ss,e,a|_]:=c;show Z2 (Oe (b:=hX) %[o,e|a.1] (by kernel_rfl) (Z3 d))
def l9(d:bI w b e s.heap)(f:Q e.length s):↥A (Ry b) Q E s:=by
 let%[o,es,u,t,ss,g,h,i,a,j,l,m,v,n,p|c]:=d;let r:=by
  let q:=cG a;rw[Z6,Zb,j.length_eq]at q;show q
 show Z2 (OG g i n (Z3 (r▸f)))
def Fd(N:bI w r ks s.heap)(O:bI w b T s.heap)(ne:r≠b)(big: ~~~T< ~~~ks)(few: ~~~ks<=900)
 (hQ:∀h' d f,(∀c o,c≠r->s.heap.get? c∣o->h'.get? c∣o)->(∀x,x∈f↔x∈ks/\x∉T)->bI w r f h'->Q () {s with heap:=h',drawn:=d}):↥A (Qk nm r (.ref b)) Q E s:=by
 unfold Qk;rw[ku (by simpa using ne.symm)];show Z2 (vT O ?_);rw[lp rfl];show Z2 (Z3 (Z2 (l9 O (Z2 (l9 N ?_)))));rw[ku ⋯];let%[o,es,ep,t,ss,ho,ak,hd,al,hp,an,as,hb,hf,a0|ah]:=id O;let B:∀(s':md) (Q':iv->md->Prop),s'.heap.get? b∣o->Q' ep s'->↥A (T8 b) Q' E s':=λs' Q' e q=>by
  unfold T8;show Z2 (pp e hd hf (Z3 q))
 show Z2 (B s _ ho (Z2 (v0 (Z2 (ug O (λc j=>%[ks|(Xn j)▸N]) (λ_ e=>(nomatch e)) λzs d h1 pz k1 _=>Z2 ?_)))));rw[<-Rt];show gE (λxs _ s'=>∃g rest h',zs=g++rest/\xs=rest.map (hsE w)/\s'={s with heap:=h',drawn:=d}/\(∀c o,c≠r->s.heap.get? c∣o->h'.get? c∣o)/\∃f,bI w r f h'/\∀x,x∈f↔x∈ks/\x∉g\1) _ _ _
  %[[],zs,h1,rfl,rfl,rfl,λc o _ e=>k1 c o ∅ e,ks,N.keep λo e=>k1 r o ∅ e|by simp] ?_ ?_
 .intro x xs _ s' %[g,rest,h',U,ex,rfl,Y,f,S|h];cases rest with
  | nil=>cases ex
  | cons p rest=>
  rw[Yp]at ex;injection ex with ab ac
  subst ab;show Z2 (v0 (xy (z:=p.1) (tk:=p.2) (s:={s with heap:=h',drawn:=d}) S λh2 bb sb S2=>Z2 ?_));unfold OJ;let C:∀c o,c≠r->s.heap.get? c∣o->h2.get? c∣o:=λc o j e=>(sb.2 c j).trans (Y c o j e)
  show Z2 (B {s with heap:=h2,drawn:=d} _ (C b o ne.symm ho) ?_);rw[ku ∅];show Z3 (Z3 %[g++[p],rest,h2,by rw[U,Ze];rfl,ac,rfl,C,_,S2|λx=>?_]);rw[S.nd.mem_erase_iff,h,Zd,Ys,Yp,SQ,Yy,Pr]
  constructor
  .show λ%[a,b|c]=>%[b,c|a]
  .show λ%[b,c|a]=>%[a,b|c]
 .intro _ s' %[g,rest,h',U,ex,rfl,Y,f,S|h];obtain rfl:rest=[]:=by
   cases rest with
   | nil=>rfl
   | cons p rest=>cases ex
  rw[Zx]at U;let h:∀x,x∈f↔x∈ks/\x∉T:=λx=>by rw[h,<-U,pz.mem_iff]
  let ae: ~~~f≠0:=λe=>by
   let:=_ST.nodup_sub N.nd (m:=T) λx hx=>NQ λq=>by
    let:=(h x).mpr %[hx|q];rw[yu.mp e]at this;cases this
   lia
  let sub:=_ST.nodup_sub S.nd λx hx=>((h x).mp hx).1
  show Z3 ?_;let%[o2,n,a1,t2,a2,u,G,v,i,H,I,J,a3,L,M|y]:=id S;let hn:=by
   let q:=cG i;rw[Z6,Zb,H.length_eq]at q;show q
  show Z2 (pp u v L ?_);dsimp only
  split
  .rw[show NM n.size=n.size*4 by unfold NM;rw[ku ⋯]];show _ST.relay_w u v L ⋯ ⋯ λag t' P W l p m1 m2=>?_
   let sz:ag.size=n.size:=by rw[<-Zb,P.length_eq,Zb]
   let%[ts,r1|r2]:=cH i (P\2);show hQ _ d f (λc o j e=>((vu.update h' r _).2 c j).trans (Y c o j e)) h (bI.stored u G v r1 (r2.trans H) I (λe he=>J e (P.mem_iff.mp he)) ⋯ (AH W ⋯) (p▸M ⋯) (l▸y)).2
  .show Z3 (hQ h' d f Y h S)
def xz(a:Q (.ref ⇑s) (s>>>s.heap.push (bV w))):↥A (newSet (.type "set")) Q E s:=by
 show Z2 (Z2 (Nn (Z3 (M6 a))))
def xA(d:bI w a ks s.heap)(e:Q (.type "set") s):↥A (V5 a) Q E s:=by
 let%[o,es,g,t,ss,f,c|_]:=d;show Z2 (Oe (b:=hX) %[o,f|c.1] (by kernel_rfl) (Z3 e))
def HE(v:bI w a ks s.heap)(C:bI w b I s.heap)(few: ~~~ks<=900)
 (hQ:∀h' d i,(∀c o,s.heap.get? c∣o->h'.get? c∣o)->(∀x,x∈i↔x∈ks/\x∉I)->bI w ⇑s i h'->Q (.ref ⇑s) {s with heap:=h',drawn:=d}):↥A (Q4 nm a (.ref b)) Q E s:=by
 let lt:∀{c:kw} {ls:ZB},bI w c ls s.heap->c≠⇑s:=λ{c ls} h=>by
  let%[o,_,_,_,_,U|_]:=h;show Zs (Zu U)
 let J:∀c o,s.heap.get? c∣o->(s.heap.push (bV w)).get? c∣o:=λc o e=>Z7 _ e
 let Y:(s.heap.push (bV w)).get? ⇑s∣bV w:=Zj _ rfl;let S1:=v.keep λo e=>J a o e
 let O1:=C.keep λo e=>J b o e
 unfold Q4;dsimp only;show Z2 (vT C ?_);rw[ku (!1)];show Z2 (Z3 ?_);rw[ku ∅,lp rfl];show Z2 (l9 C (Z2 (l9 v ?_)))
 generalize hG:s.heap.push (bV w)=G at J Y S1 O1
 split
 .show Z2 (Oy (Z2 ?_));unfold V4;show Z2 (xA v (Z2 (xz ?_)));rw[hG];show Z2 (Z3 (Z2 (Fc (s:=(s>>>G)) S1 Y (J0 (lt v)) ⋯ ⋯ λh1 sb R1=>Z3 ?_)));let k1:∀c o,s.heap.get? c∣o->h1.get? c∣o:=λc o e=>(sb.2 c (Zs (Zu e))).trans (J c o e)
  show Z2 (Z3 (Z2 (v0 (Fd (s:=(s>>>h1)) R1 (C.keep λo e=>k1 b o e) (J0 (lt C)) ⋯ few λl d i k2 y M=>Z3 (hQ l d i (λc o e=>k2 c o (Zs (Zu e)) (k1 c o e)) y M)))))
 .show Z2 (xA v (Z2 (xz ?_)));rw[hG];show Z2 (Z3 ?_);let%[o,es,ep,t,ss,U,a1,hd,a2,hp,a3,a4,hb,hf,a5|al]:=id S1;let L:∀(s':md) (Q':iv->md->Prop),s'.heap.get? a∣o->Q' ep s'->↥A (T8 a) Q' E s':=λs' Q' e q=>by
   unfold T8;show Z2 (pp e hd hf (Z3 q))
  show Z2 (L (s>>>G) _ U ?_);rw[lp rfl];show Z2 (v0 (Z2 (ug (s:=(s>>>G)) S1 (λc B=>?_) (λr e=>%[by cases e;show J0 (lt v)|by cases e;show bI.empty Y]) λzs d h1 pz k1 r1=>Z2 ?_)))
  .simp only[Yv,X6,No]at B;rcases B with rfl|rfl
   .show%[_|O1]
   .show%[_|bI.empty Y]
  rw[<-Rt];show gE (λxs _ s'=>∃f rest h',zs=f++rest/\xs=rest.map (hsE w)/\s'={s with heap:=h',drawn:=d}/\(∀c o,c≠⇑s->G.get? c∣o->h'.get? c∣o)/\∃i,bI w ⇑s i h'/\ ~~~i<= ~~~f/\∀x,x∈i↔x∈f\1/\x∉I) _ _ _
   %[[],zs,h1,rfl,rfl,rfl,(λc o B e=>k1 c o (λq=>B (Za q).symm) e),[],r1 _ rfl,Zi _|by simp] ?_ ?_
  .intro x xs _ s' %[f,rest,h',H,ex,rfl,g,i,M,ml|y];cases rest with
   | nil=>cases ex
   | cons p rest=>
   rw[Yp]at ex;injection ex with ab N
   subst ab;let zl: ~~~zs= ~~~ks:=by rw[<-pz.length_eq,Z6]
   let pl: ~~~f< ~~~ks:=by rw[<-zl,H,Z9,Zr];lia
   rw[lp rfl];let m:∀(l:yc) Qx,(∀c o,c≠⇑s->G.get? c∣o->l.get? c∣o)->Qx (.yield ⟨⟩) {s with heap:=l,drawn:=d}->↥A (OJ nm a ep>>= λ_=>pure (Pi PUnit.unit)) Qx E {s with heap:=l,drawn:=d}:=λl Qx k2 q=>by
    show Z2 ?_;unfold OJ;show Z2 (L {s with heap:=l,drawn:=d} _ (k2 a o (lt v) U) ?_);rw[ku ∅];show Z3 (Z3 q)
   let mem:∀x,x∈(f++[p])\1↔x∈f\1\/x=p.1:=λx=>by rw[Zd,Ys,Yp,SQ,Yy]
   let%[o2,a6,ba,t2,bc,ac,an,ae,n,O,as,T,ag,ah,a0|ak]:=id O1;show Z2 (v0 (Z2 (xx (ks:=I) (z:=p.1) (tk:=p.2) (g b o2 (lt C) ac) ae T ag ah λq q1 q2=>Z2 (Z3 ?_))));cases q with
   | none=>
     let hz:p.1∉I:=λz=>by
      let%[u|hu]:=(eY n).mpr (O.mem_iff.mpr z);let%[e,he|q3]:=Xo hu;show q1 rfl e he u q3
     rw[lp (by rfl)];show Z2 (lR (z:=p.1) (tk:=p.2) M (by rw[show Pd=4096 from rfl];lia) λl bb sb M2=>Z3 ?_);let k2:=λc o B e=>(sb.2 c B).trans (g c o B e)
     show m l _ k2 %[f++[p],rest,l,by rw[H,Ze];rfl,N,rfl,k2,_,M2,?_|λx=>?_]
     .rw[Z9,Yj]
      split
      .lia
      .rw[Z9,Yj];lia
     .rw[mem];by_cases hx:x=p.1
      .subst hx;show%[λ_=>%[.inr rfl|hz]|λ_=>?_]
       split
       .rename_i h;show h
       .show Yu _ Zm
      .split
       .rw[y];show%[λh=>%[.inl h.1|h.2]|λh=>%[h.1.resolve_right hx|h.2]]
       .rw[Ys,Yy,y];show%[λh=>let h:=h.resolve_right hx;%[.inl h.1|h.2]|λh=> .inl %[h.1.resolve_right hx|h.2]]
   | some j=>
     let hz:p.1∈I:=by
      let%[u|hu]:=q2 j rfl;show O.mem_iff.mp ((eY n).mp %[u|Xp %[_,Z8 hu|rfl]])
     rw[ku ∅];show Z3 (m h' _ g %[f++[p],rest,h',by rw[H,Ze];rfl,N,rfl,g,i,M,by rw[Z9];lia|λx=>?_]);rw[y,mem];show%[λh=>%[.inl h.1|h.2]|λh=>%[h.1.resolve_right λe=>h.2 (e▸hz)|h.2]]
  .intro _ s' %[f,rest,h',H,ex,rfl,g,i,M,ml|y];obtain rfl:rest=[]:=by
    cases rest with
    | nil=>rfl
    | cons p rest=>cases ex
   rw[Zx]at H;show Z3 (Z3 (hQ h' d i (λc o e=>g c o (Zs (Zu e)) (J c o e)) (λx=>by rw[y,<-H,pz.mem_iff]) M))
end
def vU:SS WP "set.__sub__"=hV n7.«frozenset.__sub__»:=Ug (id':="frozenset.__sub__") (by kernel_rfl) rfl (!0) (by kernel_rfl)
section
variable{X:Cx}
abbrev Fe(w:wh):R2:=λx y H Q=>asR x λa=>asR y λb=>∃ks d,H a∣oH w a ks/\H b∣oH w b d/\ ~~~ks<=900/\∀l c,H l=hH->(∀x,x∈c↔x∈ks/\x∉d)->c.Nodup->Q (.ref l) (Qa H l (oH w l c))
def HF:OpR X (Nr .Sub) (Fe X.w):=by
 intro ij s A H x y v u Q I l m h;let%[a,rfl|n]:=aO h;let%[b,rfl,ks,B,p,r,few|q]:=aO n;cases l;cases m;let%[S,_|_]:=(I.hok a _ p)
 let%[O,_|_]:=(I.hok b _ r)
 let e:∀{c:kw} {i:ZB},bI X.w c i s.heap->s.TypeIs (.ref c) _:=λ{c i} h=>by
  let%[o,es,C,t,ss,f,g|_]:=h;show%[o,f|g.1]
 show wpAny_binaryOp_same (e S) (e O) F.fills_set_sub XQ (Nc XQ (e S) vU (Z2 (Z2 (Z3 (Z3 (Z2 (Z2 (vT S (vT O (Z2 (Z3 (Z2 (HE S O few λh' d j k w M=>Z3 %[_,rfl,by simp,.ref ⇑s,_,I.stoodS (o:=oH X.w ⇑s j) (I.keptS k rfl rfl) (Zi _) %[M,?_|λ_ _ z k1=>bI.keep z k1],rfl|q _ j (I.hok.fresh (Zi _)) w M.nd])))))))))))) (F.args_set_sub_2 _ _));let%[o,_,_,_,_,f|_]:=M;show%[o|f]
def KH(h:X.w=w):OpQ X (Nr .Sub) (Fe w):=by subst h;show⟨HF⟩
end
def mf{X:Cx}(a:bP k X.A)(b:Nl .NotIn o=hY)(hi:QE X i ty)(c:QE X o d):QT X (.Compare i [.NotIn] [o] pos) (tB (ve ty d)):=
 ⟨C2 (BN (by let:=a.units;lia) hi.h c.h) b⟩
open PySem PySem.Spec PyProof.Rows PySem.SeqAt
section
variable{X:Cx}
variable{K:ZA}{pos:Pos}
def af(i:iv){x:kG}(h:(X.N[i]?,X.env.scope.names.lookup x,x==("__debug__":kG),x==("__classdict__":kG))=(hV x,hV .local,hY,hY)):QE X (.Name x pos) (mX i):=by
 simp only[Nv]at h;show vn i h.1 (.inl h.2.1) h.2.2.1 h.2.2.2
def cI(i:iv){x:kG}(h:(X.N[i]?,X.env.scope.names.lookup x,x==("__debug__":kG),x==("__classdict__":kG))=(hV x,hV .cell,hY,hY)):QE X (.Name x pos) (mX i):=by
 simp only[Nv]at h;show vn i h.1 (.inr (.inl h.2.1)) h.2.2.1 h.2.2.2
def aL{mg:ZC}{j k:iv}{x:kG}{ps:ZB}{sp:Sp}{p:Pos}{e:zr}{es:gN zr}{t:TA}(C:Cal X.prog X.w K mg X.base j x ps sp)(a:bP k X.A)(h:(X.K,X.mg,X.env.kindOf x,Q0 j k,x==("__debug__":kG),(e::es).any aS)=(K,mg,hV .globalImplicit,hX,hY,hY))(b:QA X (e::es) t):QE X (.Call (.Name x p) (e::es) [] pos) (sX sp [] E0 t):=by
 simp only[Nv]at h;let%[rfl,rfl|h]:=h;show calE C a h.1 h.2.1 h.2.2.1 h.2.2.2 b
def IA{mg:ZC}{j k:iv}{x:kG}{ps:ZB}{sp:Sp}{p:Pos}{e:zr}{es:gN zr}{t:TA}(C:Hv X.prog X.w K mg X.base j x ps sp)(c:xj K mg x)(a:bP k X.A)(h:(X.K,X.mg,X.env.kindOf x,Q0 (j+1) k,x==("__debug__":kG),(e::es).any aS)=(K,mg,hV .globalImplicit,hX,hY,hY))(b:QA X (e::es) t):QE X (.Call (.Name x p) (e::es) [] pos) (Al (aK mg x) sp [] E0 t):=by
 simp only[Nv]at h;let%[rfl,rfl|h]:=h;show LV C c a h.1 h.2.1 h.2.2.1 h.2.2.2 b
def oa{mg:ZC}{j k:iv}{x m:kG}{ps:ZB}{sp:Sp}{a:Pos}{o:zr}{b:TE}{pl:Sem re}(C:Ci X.prog X.w K mg X.base j x m ps sp)(c:xj K mg x)(e:bP k X.A)(h:(X.K,X.mg,Q0 j k)=(K,mg,hX))
 (g:Nk (.Call (.Attribute o m a) [] [] pos) X.env=(do
  let d<-Nk o X.env
  Pm a.atName
  let(f,first)<-PY [d] (Rb d m pl)
  Ui pos f first (NP pos (vi [] X.env)) (PB pos (N4 [] X.env)))) (i:QE X o b):QE X (.Call (.Attribute o m a) [] [] pos) (Ak (aK mg x) m sp [] E0 b yV):=by
 simp only[Nv]at h;let%[rfl,rfl|h]:=h;show Kx C c e h g i
def cbO{x:kG}{id:M9}{r:gN V->Hp->VK->Prop}{p:Pos}{e:zr}{es:gN zr}{t:TA}(a:b7 X (.builtin id) r)(b:X.mg x=hH)(c:ND x∣.builtin id)(h:(X.env.kindOf x,x==("__name__":kG),x==("__debug__":kG),(e::es).any aS)=(hV .globalImplicit,hY,hY,hY))(d:QA X (e::es) t):QE X (.Call (.Name x p) (e::es) [] pos) (tCB r t):=by
 simp only[Nv]at h;show cbE a h.1 b c h.2.1 h.2.2.1 h.2.2.2 d
def ctO{x:kG}{T:M9}{r:gN V->Hp->VK->Prop}{p:Pos}{e:zr}{es:gN zr}{t:TA}(a:b7 X (.type T) r)(b:X.mg x=hH)(c:ND x∣.type T)(h:(X.env.kindOf x,x==("__name__":kG),x==("__debug__":kG),(e::es).any aS)=(hV .globalImplicit,hY,hY,hY))(d:QA X (e::es) t):QE X (.Call (.Name x p) (e::es) [] pos) (tCB r t):=by
 simp only[Nv]at h;show ctE a h.1 b c h.2.1 h.2.2.1 h.2.2.2 d
def bmO{o e:zr}{es:gN zr}{d:TE}{t:TA}{name:kG}{a b:Pos}{T id:M9}{r:V->gN V->Hp->VK->Prop}(f:PR T)(slot:Slot T name id)(c:P8 (.builtin id)=pure (.type "method_descriptor"))(g:MtQ X id r)
 (h:(X.K,i6 o,(e::es).any aS,XJ (e::es).length 30,a.endLine==b.line)=(K,hY,hY,hX,hX)) (i:QE X o d) (j:QA X (e::es) t):QE X (.Call (.Attribute o name a) (e::es) [] b) (tBM K T r d t):=by
 simp only[Nv]at h;let%[rfl|h]:=h;show bmE rfl f slot c g h.1 h.2.1 h.2.2.1 h.2.2.2 i j
def aG(i:iv){x:kG}{e:zr}{b:TE}{a:Pos}(c:X.N.Nodup)(h:(X.N[i]?,X.env.scope.names.lookup x,h9 e)=(hV x,hV .local,hY))(d:QE X e b):QS X (.Assign [.Name x a] e pos) (uT b (lK i)):=by
 simp only[Nv]at h;show vp i c h.1 (.inl h.2.1) (.inr h.2.1) h.2.2 d
def aH(i:iv){x:kG}(a:X.N.Nodup)(h:(X.N[i]?,X.env.scope.names.lookup x)=(hV x,hV .local)):QG X (.Name x pos) (lK i):=by
 simp only[Nv]at h;show wG i a h.1 (.inl h.2) (.inr h.2)
#where
variable{x:kw}{C:kw}{name:kG}{v:jg}{ox:Ov}
variable{o:zr}{value:zr}{nm:kG}{ta:TE}{tv:TE}{pos':Pos}
end
abbrev lq:V->re
 | .byt _=>hY
 | .flt _=>hY
 | _=>hX
def fH(r:aN xs us)(h:j<us.toArray.size):∃x,xs[j]?∣x/\aX x us.toArray[j]:=by
 let l:=h;let a:j< ~~~xs:= ~~~r▸l;let%[u,b|c]:=r.get (i:=j) (x:=xs[j]) ∅
 simp_all
def np{A:vj}{s:md}{x:V}{u v:jg}(e:lq x=hX)(a:aX x u)(c:aX x v):M4 A s u v hX:=by
 cases x with
 | int i=>
   let%[t|rfl]:=a;let%[d|rfl]:=c;let:=M4.int_int (A:=A) (s:=s) i t i d;rwa[PP]at this
 | str z=>
   let%[t|rfl]:=a;let%[d|rfl]:=c;let:=M4.str_str (A:=A) (s:=s) z t z d;rwa[PP]at this
 | byt b=>cases e
 | flt b=>cases e
 | _=>cases a;cases c;show TU _
abbrev AI(H:Hp)(x y:V):Prop:=(x=y/\lq x=hX)\/∃a b xs,x= .ref a/\y= .ref b/\H a<*xs/\H b<*xs/\xs.all lq=hX
def xB{xs:gN V}(h:xs.all lq=hX){j:iv}{x:V}(e:xs[j]?∣x):lq x=hX:=N7.mp h x (Z8 e)
section
#version
def zL(I:Qc X ij σ H s){A:vj}(h:AI H x y)(n:A.units<Os)(f:aX x u)(g:aX y v):M4 A s u v hX:=by
 rcases h with⟨rfl,d⟩|⟨a,b,xs,rfl,rfl,o,p,d⟩
 .show np d f g
 .cases f;cases g;by_cases e:a=b
  .subst e;show TU _
  .let%[us,i,q|_]:=I.list (Qb.of o);let%[vs,l,r|_]:=I.list (Qb.of p);let c:=UV (A:=A) (s:=s) (e:=λ_=>hX) q.isList r.isList (by rw[Zp,Zp,<-i.length,<-l.length]) n λj w z=>by
    let%[x,ex|B]:=fH i w;let%[y,m|C]:=fH l z;rw[ex]at m;cases m;show np (xB d ex) B C
   rw[show(p0 us.toArray.size).all (λ_=>hX)=hX by simp]at c;show T1 e c
end
section
variable{X:Cx}
nonrec abbrev LY:R2:=λx y H Q=>∃a b xs ys,x= .ref a/\y= .ref b/\H a<*xs/\H b<*ys/\ ~~~xs= ~~~ys/\(∀(j:iv) x y,xs[j]?∣x->ys[j]?∣y->AI H x y)/\Q (.bl hX) H
def KI(C:X.A.units+64<Os):OpR X (pw .Eq) LY:=by
 intro ij s E H x y v u Q I d f h;let%[a,b,xs,ys,rfl,rfl,g,i,l,m|q]:=h;cases d;cases f;let%[us,d,n|_]:=I.list (Qb.of g);let%[vs,f,o|_]:=I.list (Qb.of i);let c:=UV (A:=X.A) (s:=s) (e:=λ_=>hX) n.isList o.isList (by rw[Zp,Zp,<-d.length,<-f.length,l]) ⋯ λj p r=>by
  let%[x,ex|w]:=fH d p;let%[y,z|B]:=fH f r;show zL I (m j x y ex z) (by change X.A.units+1<Os;lia) w B
 rw[show(p0 us.toArray.size).all (λ_=>hX)=hX by simp]at c;show c _ _ _ _ %[.bl _,H,I,rfl|q]
def IB(a:bP k X.A):OpQ X (pw .Eq) LY:=⟨KI a.units⟩
nonrec abbrev LZ:R2:=λx y H Q=>asR x λa=>asR y λb=>∃xs,H a<*xs/\H b<*[]/\Q (.bl (decide (xs=[]))) H
def KJ(w:X.A.units+64<Os):OpR X (pw .Eq) LZ:=by
 intro ij s z H x y v u Q I d f h;let%[a,rfl|g]:=aO h;let%[b,rfl|i]:=aO g;let%[xs,o,p|q]:=i;cases d;cases f;let%[us,d,m|_]:=I.list (Qb.of o);let%[vs,f,n|_]:=I.list (Qb.of p);obtain rfl:vs=[]:=yu.mp f.length.symm;by_cases l:xs=[]
 .subst l;obtain rfl:us=[]:=yu.mp d.length.symm;let c:=UV (A:=X.A) (e:=λ_=>hX) m.isList n.isList rfl ⋯ λj r B=>n0 r (X4 _)
  show c _ _ _ _ %[.bl _,H,I,rfl|q]
 .rw[Zh l]at q;let c:=RcAt.lists_lengths (A:=X.A) m.isList n.isList (by
   let: ~~~us≠0:= ~~~d▸λq=>l (yu.mp q)
   simpa using this) ⋯
  show c _ _ _ _ %[.bl _,H,I,rfl|q]
def dinE(a:bP k X.A)(b:Nl .In o=hY)(hi:QE X i ty)(c:QE X o d):QE X (.Compare i [.In] [o] pos) (GL ty d):=⟨IW (DE (by let:=a.units;lia) hi.h c.h) b⟩
def L3(a:bP k X.A):OpQ X (pw .Eq) LZ:=⟨KJ a.units⟩
end
def qi:∀{zs:ZB} {its:ZG},aN (zs\3) its->ReadsAll h its (zs.map P4) []
 |[],_,.nil=> .nil
 | z::zs,_,.cons r v=>by
   let%[t|rfl]:=r;show .cons (.str _ _) (qi v)
abbrev qj(p:kw×ZB):MX:= .tuple (p.2.map P4)
def qk{X:Cx}(I:Qc X ij h H s):∀{ss:ZH} {its:ZG},aJ H ss->aN (ss\0) its->∃a,ReadsAll s.heap its (ss.map qj) a
 |[],_,_,.nil=>%[_|.nil]
 | p::ss,_,t,.cons r v=>by
   cases r;let%[us,b,%[%[cls,i,data|j],c,d,n|e]|_]:=I.tuple (SqT.of (t p (Zm ..)).2);let%[bs|f]:=qk I (λq g=>t q (Zk _ g)) v;show%[_|.cons (.tuple c d e (qi b)) f]
def zM(zs:ZB):P5 (zs.map P4)=hX/\Qd (zs.map P4)=hY/\QK (zs.map P4)=0:=by
 induction zs with
 | nil=>show%[ρ,ρ|ρ]
 | cons z zs a=>simp only[Yp,P5,Qd,QK,a.1,a.2.1,a.2.2];show%[ρ,ρ|ρ]
def zN{zs:ZB}(h:∀z∈zs,~~~z<=30/\∀c∈z.cps.toList,c<16^8):O7 8 (zs.map P4)=hX/\Qn (zs.map P4)<=31* ~~~zs:=by
 induction zs with
 | nil=>show%[ρ|Zi _]
 | cons z zs d=>
   let%[a|b]:=d λy e=>h y (Zk _ e)
   let%[l|c]:=h z (Zm ..);simp only[Yp,O7,Qn,Tb,a,Zr,re.and_true];let: ~~~z=z.cps.size:=rfl;show%[N7.mpr λx f=>Zf (c x f)|⋯]
def zO{ss:gN _}(h:∀p∈ss,~~~p.2<=3/\∀z∈p.2,~~~z<=30/\∀c∈z.cps.toList,c<16^8):P5 (ss.map qj)=hX/\Qd (ss.map qj)=hY/\QK (ss.map qj)<=1/\O7 8 (ss.map qj)=hX/\Qn (ss.map qj)<=94* ~~~ss:=by
 induction ss with
 | nil=>show%[ρ,ρ,Xe _,ρ|Zi _]
 | cons p ss f=>
   let%[a,b,c,d|e]:=f λy g=>h y (Zk _ g)
   let%[l|z]:=h p (Zm ..);let%[i,j|m]:=zM p.2;let%[n|o]:=zN z;simp only[Yp,qj,P5,Vg,Qd,Vu,QK,Wa,O7,UA,Qn,Tb,i,j,m,n,Zr];show%[a,b,⋯,d|⋯]
section
#version
def Fg{k:ZB}{x:V}{j:iv}(h:(k\3)[j]?∣x):∃z,k[j]?∣z/\x= .str z:=by
 rw[Zl]at h;let%[z,e|rfl]:=MS.mp h;show%[z,e|ρ]
def xC{k l:ZB}(h:k\3=l\3):k=l:=(gN.map_inj_right λ_ _=>V.str.inj).mp h
def Fh(I:Qc X ij σ H s){A:vj}{a b:kw}{k l:ZB}(g:H a&&&k\3)(f:H b&&&l\3)(q:A.units<Os):M4 A s (.ref a) (.ref b) (decide (k=l)):=by
 by_cases e:a=b
 .subst e;rw[g]at f;rw[Zf (xC (HO.tup.inj (Za f)))];show TU _
 .let%[us,m,r|_]:=I.tuple (SqT.of g);let%[vs,n,v|_]:=I.tuple (SqT.of f);let d:=XG r v q λj o p=>by
   let%[x,ex|w]:=fH m o;let%[y,B|C]:=fH n p;let%[z,E|rfl]:=Fg ex;let%[u,G|rfl]:=Fg B;let:=Dx (A:=A.in1) (s:=s) w C rfl rfl;rw[show eqV _ _=decide (k[j]? =l[j]?) by rw[E,G];change(z==u)=_;by_cases c:z=u<;> simp[c]]at this;show this
  rw[show((p0 _).all _&&us.toArray.size==vs.toArray.size)=decide (k=l) by
   rw[Zp,Zp,<-m.length,<-n.length,N1,Zv,N7,N0];show%[λ%[o|p]=>Ru λi=>?_|λh=>by lia]
   grind]at d
  show T1 e d
end
section
variable{X:Cx}
nonrec abbrev AJ:R2:=λx y H Q=>asR x λa=>asR y λp=>∃(k:ZB),H a&&&k\3/\∃(ws:ZH),H p∣.lst (ws\0)/\(∀t∈ws,H t.1&&&t.2\3)/\k∈ws\2/\Q (.bl hY) H
open Classical in
def Ct(i:X.A.units+64<Os):OpR X (pw .NotIn) AJ:=by
 intro ij s G H x y v u Q I l m h;let%[a,rfl|c]:=aO h;let%[p,rfl|d]:=aO c;let%[k,n,ws,o,hw,w|q]:=d;cases l;cases m;let%[us,r,pl|_]:=I.list (Qb.of o);let of:∀y∈us,∃t∈ws,y= .ref t.1:=λy f=>by
  let%[j,g|rfl]:=Pu f;let%[x,ex|rr]:=fH r (g);rw[Zl]at ex;let%[t,b|rfl]:=MS.mp ex;show%[t,Z8 b|(rr)]
 show notIn_listAt (λv=>decide (∃t∈ws,v= .ref t.1/\t.2=k)) pl.isList (λy f=>?_) %[.bl hY,H,I,?_|q]
 .let%[t,b|rfl]:=of y ↑f;let:=Fh I (A:=X.A.in1) (hw t b) n ⋯;rw[show decide _=decide (t.2=k)from ?_]
  .show this
  .rw[N1,N0,N0];show%[λ%[t',z,B|C]=>?_|λh=>%[t,b,ρ|h]];let e:=hw t' z;rw[<-UT B,hw t b]at e;rw[<-C,xC (HO.tup.inj (Za e))]
 .let%[t,b|e]:=Xo w;let%[j|g]:=Xf b;let%[u,i|E]:=r.get (by rw[Zl,g];rfl);cases E;rw[show us.toArray.any _=hX from ?_]
  .rfl
  .rw[gN.any_toArray,Sm];show%[_,Z8 i|Zf %[t,b,ρ|e]]
def Fi(a:bP k X.A):OpQ X (pw .NotIn) AJ:=⟨Ct a.units⟩
def ko:∀{a:ZM} {us:ZG},aN (a\4) us->∃ps:gN (on×Tok),ps\1=a/\us=ps.map λp=>QF p.1 p.2
 |[],_,.nil=>%[[],rfl|rfl]
 | n::a,_,.cons r v=>by
   let%[t|rfl]:=r;let%[ps,rfl|rfl]:=ko v;show%[(n,t)::ps,ρ|ρ]
def Cu(w:X.calm=hX):cF X (.builtin "min") (λxs H Q=>cL xs λf=>asR f λp=>∃(a:ZM),Qb X.K H p (a\4)/\0< ~~~a/\∀m∈a,(∀y∈a,m<=y)->Q (.int m) H):=by
 intro ij s L H xs us Q I r h;let%[f,rfl|c]:=bC h;let%[p,rfl|d]:=aO c;let%[a,e,g|q]:=d;let%[u,rfl|z]:=dc r;cases z;let%[its,A,B|M]:=I.list e;let%[ps,rfl|rfl]:=ko A;rw[Z6]at g;let%[C|l]:=argBest_lt _ (~~~ps-1);show min_intList (I.ok.hd w) ((show Pt ps.toArray=(ps.map λp=>QF p.1 p.2).toArray by simp[Pt])▸B.isList) g λv h' tk n k=>?_
 generalize P0 _ _=b at C l n
 let E:∀i h,UQ ps.toArray i=ps[i].1:=λi h=>by simp[UQ,h]
 let o:b< ~~~ps:=by lia
 let G:v= .int ps[b].1 ps[b].2:=by simpa [Pt,o,eq_comm]using n
 show%[.int _,H,I.kept k,%[_|G]|q _ (Xp %[_,Yc o|ρ]) λy J=>?_];let%[p,e|rfl]:=Xo J;let%[j,N|rfl]:=Pu e;let:=l j ⋯
 simp_all
def Fj{K:ZA}(h:X.K=K)(b:X.calm=hX):b7 X (.builtin "min") (λxs H Q=>cL xs λc=>asR c λp=>∃(a:ZM),Qb K H p (a\4)/\0< ~~~a/\∀m∈a,(∀y∈a,m<=y)->Q (.int m) H):=by subst h;show⟨Cu b⟩
end
noncomputable abbrev Cx.tryV(X:Cx)(pn:ZF)(E:St->XK):Cx:={X with pn:=pn,xe:=λe s'=>∃ij a H s,Qc ({X with pn:=pn}) ij a H s/\CXO X.prog X.w X.stack H s (E a) e s'}
abbrev IC(CX:CXT)(X:Cx)(E:St->XK):Prop:=∀ij (a:St) H s e s',Qc X ij a H s->CX X.stack H s (E a) e s'->X.xe e s'
def Cv{X:Cx}:IC (CXO X.prog X.w) (X.tryV pn E) E:=by
 intro ij a H s e s' I %[b,B,cls,c,d,rfl,F|q];show%[ij,a,H,s,%[LK I.ok _ _,I.os,I.bare,I.base,I.loc,I.cell,I.free,I.freeC,I.pin,I.hok|I.len],b,B,cls,c,d,ρ,F|q]
abbrev Fk(K:ZA)(D:kw)(E:St->XK)(len i:iv)(f ts:TS):TS:=λe g H=>f e g H/\∀b cls d c,E b cls d c->∃C,cls= .ref C/\RL K (.ref C) (.ref D)∣hX/\
 ∀a,~~~b=len->c a=hH->ts (e.gone i) (b.set i (hV (.ref a))) (Qa c a (ExH a C d))
def AK{X:Cx}{D:kw}(l:X.stack=X.env::X.outer)(hf:X.env.frame∣X.env.locals)(hN:X.N.Nodup)(hi:X.N[i]?∣n)
 (hk:X.env.kindOf n∣.local) (hl:X.env.scope.names.lookup n∣.local) (hg:Gl X x) (hm:X.mg x∣.ref D) (c:Cat X.K D) (m:∀pn,PSs (X.tryV pn E) L tb) (h:∀a,PSs (X.suiteX a) (M::o) ts)
 (ac:(x==("__debug__":kG))=hY):
 PS X (.Try L [.ExceptHandler (hV (.Name x p)) (hV n) (M::o) N] [] [] pos) (Fk X.K D E X.N.length i tb ts):=by
 intro ij s σ H Dn I %[h1|h2];show Xr (MZ (m _ [] s σ H Dn (I.toPn _) h1) (λf s1 q=>?_) λe s1 q=>?_)
 .let q':=SP.ofPn q;cases f with
  | next=>show OR q'
  | brk=>show q'
  | cont=>show q'
  | ret u=>show q'
 .let%[ae,ag,H1,s2,I1,A,B,cls,dx,H',rfl,F|qE]:=q;let%[C,rfl,O|ah]:=h2 ag cls dx H' qE;show Az (.inr rfl) (l▸I.ok.frames) hf (l▸F).up λha ua T=>vA ua λhb ub U=>?_
  let%[un|ak]:=F.fly ub.1 (T.trans U);let J:=(I1.call' (s':=(s1>>>hb)) F.os un ak F.bare λb z=>n0 z ∅).ofPn;let%[_,_,_,oe,vs,eb,al,a3,a4|_]:=id ub;show wpAny_handleBy_cons (codeAny_handlers_test (iW (J.toSuite A) hg hm (Eo J.kIn c.ty c.ex c.cd eb al O (codeAny_handlers_suite_as (vA ub λhc uc an=>?_))) ac)) (by intro q;cases q);let%[as|Y]:=F.fly uc.1 ((T.trans U).trans an);let%[_,_,_,oc,vc,ec,a0,a1,a2|_]:=id uc;let ab:=I1.ofPn;show lH (v:= .ref A) (ab.stood3 (λ_ z=>z) ((I1.call' (s':=(s1>>>hc)) F.os as Y F.bare λb z=>n0 z ∅).ofPn) F.free F.new (ExH.ok ec a0 a1 a2)) hN hi (.inl hl) rfl (λs4 J4=>MZ (h A ij s4 _ _ _ (J4.toSuite A) (ah A ab.len F.free)) (λf s5 q5=>?_) λ_ _ z=>z.elim) (.inr hl);let d:∀{g:St} {G:Hp} {Q:SW->md->Prop},Qc (X.suiteX A) ij g G s5->(∀s',Qc X ij _ G s'->Q () s')->
   (X⁻¹) (do bindName X.env n _;VF X.env n N) Q X.xe s5:=λj h5=>Hg (j.ofSuite I.ok) hN hi hk h5
  cases f with
  | next=>
    let%[g,G,j|w]:=q5;show d j λs' y=>%[_,_,y|w]
  | brk=>
    let%[g,G,j|w]:=q5;show d j λs' y=>%[_,_,y|w]
  | cont=>
    let%[g,G,j|w]:=q5;show d j λs' y=>%[_,_,y|w]
  | ret u=>
    let%[v,g,G,j,r|w]:=q5;show d j λs' y=>%[v,_,_,y,r|w]
def tryV{X:Cx}{D:kw}(E:St->XK)(f:X.stack=X.env::X.outer)(m:X.env.frame∣X.env.locals)(o:X.N.Nodup)(hi:X.N[i]?∣n)
 (q:X.env.kindOf n∣.local) (r:X.env.scope.names.lookup n∣.local) (s:Gl X x) (u:X.mg x∣.ref D) (c:Cat X.K D) (j:(x==("__debug__":kG))=hY) (d:∀pn,QSs (X.tryV pn E) g v) (b:∀a,QSs (X.suiteX a) (h::e) ts):
 QS X (.Try g [.ExceptHandler (hV (.Name x p)) (hV n) (h::e) l] [] [] pos) (Fk X.K D E X.N.length i v ts):=
 ⟨AK f m o hi q r s u c (λpn=>(d pn).h) (λa=>(b a).h) j⟩
abbrev qo(L:gN kw)(c:kw->Ov)(H:Hp):Hp:=λb=>if b∈L then(match H b with|hV (.dK a)=>hV (.frz (c b) (.dK a))|x=>x)else H b
def pc(h:b∈L)(e:H b∣.dK a):qo L c H b∣.frz (c b) (.dK a):=by
 unfold qo;rw[lp h,e]
def qp(h:b∉L):qo L a H b=H b:=ku h
def jh(h:∀a,H b≠hV (.dK a)):qo L d H b=H b:=by
 unfold qo;by_cases c:b∈L
 .rw[lp c];cases e:H b with
  | none=>rfl
  | some o=>cases o<;> first|rfl|show(h _ e).elim
 .rw[ku c]
section
variable{P:nX}{w:wh}{K:ZA}{mg:ZC}{base:yc}{k:iv}{f:kw}{fd:OP}{ps:ZB}{sp:Sp}
def HG(x:HOk P w H h):HOk P w (qo L (λb=>(h.get? b).getD default) H) h:=by
 intro b o e;let st:∀{b:kw} {o:HO},bZ P w H h b o->bZ P w (qo L (λb=>(h.get? b).getD default) H) h b o:=λq=>q.stay (λ_ _ _ q=>q) (λc q=>by rw[jh (λa z=>by lia)];show q) λc xs q=>by rw[jh (λa z=>by rw[q]at z;cases z)];show q
 by_cases c:b∈L
 .by_cases d:∃a,H b∣.dK a
  .let%[a|d]:=d;rw[pc c d]at e;cases e;let%[i|g]:=(x b _ d).there;show%[by rw[g];rfl|st (x b _ d)]
  .rw[jh (λa z=>d %[a|z])]at e;show st (x b o e)
 .rw[qp c]at e;show st (x b o e)
def KK(u:Un fs [] H c h h'):Un fs [] H (qo L g c) h h':=by
 show%[u.keep,u.slot,λb o e n d=>?_,u.there,λb xs e=>?_,λb o v e=>?_|λb q e=>?_]
 .let:=u.free b o e n d;rw[jh (λa z=>by lia)];show this
 .let:=u.tups b xs e;rw[jh (λa z=>by rw[this]at z;cases z)];show this
 .let:=u.frzs b o v e;rw[jh (λa z=>by rw[this]at z;cases z)];show this
 .let%[m|this]:=u.tbls b q e;show%[m|by rw[jh (λa z=>by rw[this]at z;cases z)];show this]
def d9.freeze(F:d9 P w K mg base CX0 k f fd ps sp):d9 P w K mg base CX0 k f fd ps (λvs H Q E=>sp vs H (λv b=>∃L,∀c,Q v (qo L c b)) E):=by
 show%[λvs H Q E=>F.len vs H _ E|λA outer s H args us vs Q E d g h i j=>codeAny_mono (F.run A outer s H args us vs _ E d g h i j) λr s' a=>?_];cases r with
 | error e=>show a
 | ok l=>
   cases l with
   | ret u=>
     let%[v,z,m,n,o,p,q,L|y]:=a;show%[v,_,m,n,KK o,HG p,q|y _]
   | next=>show a
   | brk=>show a
   | cont=>show a
def d9.frozen(F:d9 P w K mg base CX0 k f fd ps sp):d9 P w K mg base CX0 k f fd ps (λvs H Q E=>∃d a,~~~vs= ~~~ps/\H d∣.dK a/\∀o,sp vs (Qa H d (.frz o (.dK a))) (λv L=>Q v (Qa L d (.dK a))) E):=by
 show%[λvs H Q E %[d,a,l|_]=>l|λA outer s H args us vs Q E M g B N %[d,a,_,C|O]=>?_];let%[o|T]:=(g.hok d _ C).there;let h:∀{b:kw},H b=hH->b≠d:=λe z=>by rw[z,C]at e;cases e
 let ne:∀{b:kw} {u:HO},H b∣u->(∀q,u≠ .dK q)->b≠d:=λe n z=>by rw[z,C]at e;cases e;show n _ rfl
 let st:∀{b:kw} {u:HO},bZ P w H s.heap b u->bZ P w (Qa H d (.frz o (.dK a))) s.heap b u:=λq=>q.stay (λ_ _ _ q=>q) (λc q=>(aq (ne q λ_ z=>nomatch z))▸q) λc xs q=>(aq (ne q λ_ z=>nomatch z))▸q
 let G:yW P w K mg base A outer s (Qa H d (.frz o _)):=%[g.frames,g.mod,λb i e=>%[(g.bs b i e).1|by rw[aq (h (g.bs b i e).2)];show(g.bs b i e).2],g.bsz,g.funs,λb B=>by rw[aq (h (g.frf b B))];show g.frf b B,λb u e=>by
  by_cases c:b=d
  .subst c;rw[aa]at e;cases e;show%[T|st (g.hok b _ C)]
  .rw[aq c]at e;show st (g.hok b u e)|g.bare]
 show codeAny_mono (F.run A outer s _ args us vs _ E M G B N (O o)) λr s' m=>?_
 cases r with
 | error e=>show m
 | ok U=>
   cases U with
   | next=>show m
   | brk=>show m
   | cont=>show m
   | ret u=>
     let%[v,I,Y,h2,j,J,h5|h6]:=m;let hf:=j.frzs d o _ aa;let p:∀{b:kw} {u:HO},I b∣u->(∀o q,u≠ .frz o q)->b≠d:=λe n z=>by grind
     let y:∀{b:kw} {u:HO},bZ P w I s'.heap b u->bZ P w (Qa I d (.dK a)) s'.heap b u:=λq=>q.stay (λ_ _ _ q=>q) (λc q=>(aq (p q λ_ _ z=>nomatch z))▸q) λc xs q=>(aq (p q λ_ _ z=>nomatch z))▸q
     show%[v,_,Y,h2,%[λb i e n=>j.keep b i e ((aq (h n))▸n),λb i e n=>j.slot b i e ((aq (h n))▸n),λb i e n hx=>?_,j.there,λb xs e=>?_,λb i u e=>?_|λb q e=>?_],λb u e=>?_,h5|h6]
     .rw[aq (h n)];show j.free b i e ((aq (h n))▸n) hx
     .let n:=ne e λ_ z=>nomatch z
      rw[aq n];show j.tups b xs ((aq n)▸e)
     .let n:=ne e λ_ z=>nomatch z
      rw[aq n];show j.frzs b i u ((aq n)▸e)
     .let n:=ne e λ_ z=>nomatch z
      rw[aq n];show j.tbls b q ((aq n)▸e)
     .by_cases c:b=d
      .subst c;rw[aa]at e;cases e;show y (J b _ hf).2
      .rw[aq c]at e;show y (J b u e)
end
abbrev Itk(d:kw)(o:Ov)(a:gN (Key×V)):It:=%[λi H=>H d∣.frz o (.dK a)/\i< ~~~a,λi H x b=>b=H/\∃k v,a[i]?∣(k,v)/\x=kV k|λi H=>H d∣.frz o (.dK a)/\ ~~~a<=i]
abbrev ui(c:TE):TI:=λe H R=>c e H λv b=>∃d o a,v= .ref d/\b d∣.frz o (.dK a)/\R (Itk d o a) b
def HH(h:kJ k v=hX):aX (kV k) v:=by
 rcases a9 h with⟨i,t,rfl,rfl⟩|⟨x,t,rfl,rfl⟩
 .show%[t|ρ]
 .show%[t|ρ]
def KL{a:gN _}{vs:gN _}(r:KV a vs){i:iv}{k:Key}{v:V}(e:a[i]?∣(k,v)):∃u,vs[i]?∣(k,u)/\aX v u:=by
 induction r generalizing i with
 | nil=>cases e
 | @cons p q ps qs b t c=>
   cases i with
   | zero=>
     obtain rfl:p=(k,v):=Za e;show%[q.2,by rw[show k=q.1 from b.1];rfl|b.2]
   | succ i=>show c e
def qr(r:KV a vs): ~~~a= ~~~vs:=by
 induction r with
 | nil=>rfl
 | cons _ _ b=>simp_all
section
variable{P:nX}{w:wh}{K:ZA}{tg:zr}
def Fo{X:Cx}(I:Qc X ij n H s)(e:H d∣.frz o (.dK a))(b:o.data= .dict es h):∃vs,KV a vs/\s.heap.DictAt (aU X.prog X.w) d vs h:=by
 let%[g,p,q,vs,r,u,i,j,c,l,f|m]:=I.hok d _ e;rw[g]at c;cases c;rw[b]at f;cases f;show%[vs,r,_,es,g,l,b|m]
def Fp(d it:kw)(o:Ov)(kvs:gN _):rR P w K tg (Itk d o kvs) [it] it (λi h=>∃es ep,o.data= .dict es ep/\h.IsKeyIter it d i kvs.length ep) where
 mem:=by simp
 obj:=λi h st b hb=>by
  let e:=↑hb
  subst e;let%[_,_,_,o,e,c|d]:=st;show%[o,e|λv z=>by rw[d]at z;cases z]
 keep:=λi h h' %[es,ep,ho|st] k=>%[es,ep,ho|st.at λo e=>k it ∅ o e]
 item:=by
  intro X hP hw hK hc i ij s σ H E I hf st hg;subst hP hw hK;let%[es,ep,ho|st]:=st;let%[hd|hi]:=hg;let%[vs,r|da]:=Fo I hd ho;let ln:=qr r;let%[u,hu|ru]:=KL r (Z4 hi);let%[f0,f1,f2,f3,f4|f5]:=hf it ∅;rw[ln]at st;show wpAny_pyNext_dict_item st da hu λkey h' hk st' sb=>?_
  rw[<-ln]at st';let%[o',e,c|dd]:=id st';show%[key,ρ|sQ e c dd (!1) %[_,H,(I.turned (λb o hb e=>(sb.2 b hb).trans e) f0 f1 f3 f4 f5),HH hk,%[ρ,_,_,Z4 hi|ρ],%[es,ep,ho|st']|λb hb=>(hf b hb).1]]
 done:=by
  intro X hP hw hK hc i ij s σ H E I hf st hg;subst hP hw hK;let%[es,ep,ho|st]:=st;let%[hd|hi]:=hg;let%[vs,r|da]:=Fo I hd ho;let ln:=qr r;let%[f0,f1,f2,f3,f4|f5]:=hf it ∅;rw[ln]at st;show wpAny_pyNext_dict_end (I.ok.hd hc) st da (Xk ⋯) λh' eb=>%[rfl|I.turned (λb o hb e=>eb b o hb e) f0 f1 f3 f4 f5]
 self:=λ_ _ _ _ _ %[_,_,_|st] h=>VE st h
def HI{X:Cx}(n:PE X l p):PI X tg l (ui p):=by
 intro ij s u H R I h;show thP (n ij s u H _ I h) λv c x y a z A=>?_
 let%[d,o,f,e,B|q]:=A;subst e;cases z;let%[g,N,C,vs,r,E,es,j,i,G,m|J]:=a.hok d _ B;let L:c.heap.DictAt _ d vs j:=%[E,es,i,G,m|J]
 rw[g]at i;cases i;show wpAny_pyIter_dict C L %[⇑c,[⇑c],_,_,y,rfl,a.kept λb o e=>Z7 _ e,Fp d _ o f,%[es,j,m,_,Zj _ rfl,rfl|by rw[qr r];rfl],λb M=>?_|q];let e:=↑M
 subst e;show a.fpOk (Zi _) (a.hok.fresh (Zi _))
def AL{X:Cx}(a:QE X l b):QI X tg l (ui b):=⟨HI a.h⟩
end
section
variable{X:Cx}
abbrev L4:V->gN V->Hp->VK->Prop:=λx vs H Q=>asR x λa=>∃b,vs=[.ref b]/\∃c more,a≠b/\H a∣.dK c/\H b∣.dK more/\ ~~~c+ ~~~more<=lX/\Q .non (Qa H a (.dK (i4 c more)))
def KM:MtM X "dict.update" L4:=by
 intro ij s C H x vs v us Q I m n h;let%[a,rfl,b,rfl,o,more,ne,g,p,i|q]:=aO h;cases m;let%[u,rfl|r]:=n.one;cases r;let%[z,w,vs,d|j]:=lM I.hok g;let%[E,e,y,c|f]:=lM I.hok p;show Rw Xu j.typeIs PySem.F.entry_dict_update (PySem.F.args_dict_update_2 _ _) (meets_dict_update _ a b ne e) %[vs,y,j,f,by rw[<-qr d,<-qr c];show i|λh' l G A=>%[.non,_,lN I (g▸M8) A (let%[q,_,_,B|_]:=l;%[q|B]) (pF (nI (kN _ _) i) w (KV.merge c d) l),rfl|q]]
def xD:MtQ X "dict.update" L4:=⟨KM⟩
end
def Cal.freeze{P:nX}{K:ZA}(C:Cal P w K mg base k x ps sp):Cal P w K mg base k x ps (λvs H Q E=>sp vs H (λv a=>∃L,∀b,Q v (qo L b a)) E):=by
 let%[f,c,F|r]:=C.ex;show%[f,c,F.freeze|r]
def Cal.imp{P:nX}{K:ZA}(C:Cal P w K mg base k x ps sp)(h:∀vs H Q E,a vs H Q E->sp vs H Q E):Cal P w K mg base k x ps a:=by
 let%[f,b,F|r]:=C.ex;show%[f,b,F.imp h|r]
def Cal.frozen{P:nX}{K:ZA}(C:Cal P w K mg base k x ps sp):Cal P w K mg base k x ps (λvs H Q E=>sp vs H Q E\/∃d a,~~~vs= ~~~ps/\H d∣.dK a/\∀o,sp vs (Qa H d (.frz o (.dK a))) (λv i=>Q v (Qa i d (.dK a))) E):=by
 let%[f,j,F|r]:=C.ex;show%[f,j,%[λvs H Q E h=>h.elim (F.len vs H Q E) (F.frozen.len vs H Q E)|λA outer s H args us vs Q E b c e g h=>h.elim (F.run A outer s H args us vs Q E b c e g) (F.frozen.run A outer s H args us vs Q E b c e g)]|r]
def xE{a:gN (Key×V)}{g:TG}{n:TS}{D:iU}(Pv:iv->St->Hp->Prop)(s:Pv 0 b H)(u:∀i b H,i<= ~~~a->Pv i b H->H d∣.frz o (.dK a))
 (w:∀i k v b H,a[i]?∣(k,v)->Pv i b H->g (kV k) b H λc l=>n {D with nx:=Pv (i+1),ct:=Pv (i+1),bk:=D.nx} c l) (z:∀b H,Pv a.length b H->D.nx b H):
 ∃W:iv->iv->St->Hp->Prop,(∃m,W 0 m b H)/\∀i m b H,W i m b H->
  ((Itk d o a).stop i H/\D.nx b H)\/((Itk d o a).go i H/\∃N:St->Hp->Prop,(∀f h,N f h->∃r,r<m/\W (i+1) r f h)/\∀x h,(Itk d o a).yld i H x h->g x b h λc l=>n {D with nx:=N,ct:=N,bk:=D.nx} c l):=by
 show%[λi m b H=>m= ~~~a-i/\i<= ~~~a/\Pv i b H,%[~~~a,by simp,Xe _|s]|?_];intro i m b H %[rfl,hi|p];let q:=u i b H hi p;by_cases j:i< ~~~a
 .show .inr %[%[q|j],Pv _,λf h A=>%[~~~a-(i+1),⋯,rfl,j|A]|λx h y=>?_];let%[e,k,v,y|rfl]:=y;subst e;show w i k v b _ y p
 .let e:i= ~~~a:=by lia
  subst e;show .inl %[%[q|Zi _]|z b H p]
section
variable{X:Cx}
end
def Cw(a d:jg):Ww "max" %[[a]|[("default",d)]]:=by kernel_rfl
section
variable{X:Cx}{e v:zr}{te tv:TE}{p pos kpos:Pos}
variable{K:ZA}
variable{prog:nX}{w:wh}{A:vj}{s:md}{E:ZE}
def nq{xs:gN V}{us:ZG}(r:aN xs us):∀is:gN iv,aN (is.filterMap (xs[·]?)) (is.filterMap (us.toArray[·]?))
 |[]=> .nil
 | i::is=>by
   let h:us.toArray[i]? =us[i]? :=by simp
   rw[Y1,Y1,h];by_cases c:i< ~~~xs
   .let%[u,a|b]:=r.get (i:=i) (x:=xs[i]) ∅;rw[a,Z4 c];show .cons b (nq r is)
   .rw[Xk (by omega),Xk (by let:= ~~~r;omega)];show nq r is
variable{ij:ZF}{σ:_LL.St}{H:Hp}
end
section
variable{X:Cx}
abbrev evI(n:iv):gN iv:=sliceRange (Ol hH hH (hV 2) n).1 (Ol hH hH (hV 2) n).2.1 (Ol hH hH (hV 2) n).2.2
abbrev Fq(e b:TE):TE:=λd H Q=>e d H λx f=>b d f λy c=>∃a xs,x= .ref a/\c a<*xs/\y= .int 2/\∀p:kw,c p=hH-> ~~~((evI xs.length).filterMap (xs[·]?))<= ~~~xs->Q (.ref p) (Qa c p (.lst ((evI xs.length).filterMap (xs[·]?))))
def KN{e st:zr}{m c:TE}{pos p:Pos}(w:PE X e m)(g:PE X st c):PE X (.Subscript e (.Slice hH hH (hV st) p) pos) (Fq m c):=by
 intro ij s i H Q I h;show Uo (thP (w ij s i H _ I h) λv z x A B C E=>?_);show wpAny_Slice (Wt (Wt (evalPart_some_step (thP (g ij z i A _ B E) λu f y G J L %[a,xs,ex,M,N|q]=>?_))));subst ex N;cases C;let%[j|rfl]:=(L)
 let l:Qc X ij i G {f with heap:=f.heap.push {cls:= .type "slice",data:= .fields #[.none,.none,.int 2 j]}}:=J.kept λb O q=>Z7 _ q
 let T:(f.heap.push {cls:= .type _,data:= .fields #[.none,.none,.int 2 j]}).IsSliceOf ⇑f _ _ _:=SB ..;let%[its,r,n|U]:=l.list (Qb.of M);let d:= ~~~r;show tail_any n.isList.typeIs SM.lookup (UF n.isList T .none .none (.int 2 j) ∅ ?_ (!2)) (by with_unfolding_all rfl);let sz:=slicePick_size_le its.toArray hH hH (hV 2);unfold Xv at sz ⊢;rw[show its.toArray.size= ~~~xs by show d.symm]at sz ⊢;let pv:=nq r (evI xs.length);let o: ~~~((evI xs.length).filterMap (xs[·]?))<= ~~~xs:=by rw[pv.length];show sz
 show%[.ref _,_,l.laid (λb O q=>Z7 _ q) (Zi _) ?_,ρ|q _ (l.hok.fresh (Zi _)) o];show%[nI o U,_,0,pv|Zj _ rfl]
def KO{e st:zr}{c a:TE}{pos d:Pos}(f:QE X e c)(b:QE X st a):QE X (.Subscript e (.Slice hH hH (hV st) d) pos) (Fq c a):=⟨KN f.h b.h⟩
end
abbrev L5(d:TE):TE:=λe H Q=>d e H λv b=>∃(a:kw) (ss:ZH),v= .ref a/\b a∣.lst (ss\0)/\aJ b ss/\ ~~~ss<=300/\(∀p∈ss,~~~p.2<=3/\∀z∈p.2,~~~z<=30/\∀c∈z.cps.toList,c<16^8)/\∀z:kG,~~~z<=400000->Q (.str z) b
def L6{X:Cx}{e:zr}{c:TE}{pos:Pos}(i:X.A.guards∣[])(O:X.A.units+64<Os)(j:QE X e c):QE X (.FormattedValue e 114 hH pos) (L5 c):=by
 show⟨λij s l H Q I h=>?_⟩;show wpAny_FormattedValue_repr (thP (j.h ij s l H _ I h) λu m v o b r %[a,ss,p,w,y,T,z|q]=>?_);subst p;cases r;let%[us,A,pl|_]:=b.list (Qb.of w);let%[%[cls,U,data|Y],B,C,n|E]:=pl.isList;let%[as|G]:=qk b y A;let%[J,L,f3,M|f5]:=zO z;let len:=MX.shown_le 8 (!1) (.list (ss.map qj)) (by simpa only[UA]using M);simp only[Tb]at len;let f: ~~~(V9 (.list (ss.map qj)))<=400000:=by lia
 let g: ~~~(V9 (.list (ss.map qj)))<=lX:=nI f (!1);show pyReprObj_of_reads (h₀:=m.heap) (d:= .list (ss.map qj)) (.list B C E G) (by simpa only[Vg]using J) (λx=>by simp only[Vu,L]at x;cases x) i (by simp only[Wa];lia) (λ_ _ x=>x) (λh' t tk k=>?_) g;show XV (λt' N=>%[.str _,o,(b.kept k).tok _,%[_|rfl]|q _ f]) g
abbrev L7(K:ZA)(c:TE):TI:=λd H R=>c d H λx b=>asR x λa=>(∃xs,Qb K b a xs)/\R (Itl K a) b
def cu{X:Cx}{K:ZA}{g l:zr}{f:TE}(h:X.K=K)(i:QE X l f):QI X g l (L7 K f):=by
 subst h;show⟨λij s j H R I h=>thP (i.h ij s j H _ I h) λv c x m d n r=>?_⟩;let%[a,rfl,%[xs|u]|q]:=aO r;cases n;let%[its,y,p|z]:=d.list u;show Pk p.isList %[⇑c,[⇑c],_,_,m,rfl,d.kept (t':=c.toks) λb o e=>Z7 _ e,sS a _,%[_,Zj _ rfl,rfl|rfl],λb w=>by
  obtain rfl:b=⇑c:=↑w
  show d.fpOk (Zi _) (d.hok.fresh (Zi _))|q]
def ID{X:Cx}:OpQ X (Nr .Add) JJ:=⟨JK⟩
def KP{X:Cx}{K:ZA}{e:zr}{lo hi:lx zr}{a:TE}{b c:TO}{d pos:Pos}(h:X.K=K)(f:QE X e a)(g:QO X lo b)(i:QO X hi c):QE X (.Subscript e (.Slice lo hi hH d) pos) (tSl (JH K) a b c):=by subst h;show⟨Dv GF f.h g.h i.h⟩
def L8{X:Cx}{K:ZA}(h:X.K=K):OpQ X (pw .In) (rIn K hY):=by subst h;show⟨tz⟩
def eD{X:Cx}:OpQ X (Nr .Add) Im:=⟨yN⟩
open PySem
def L9{K:ZA}{z:kG}{H:Hp}:tyV K "str" (.str z) H=PQ:=eq_true rfl
def tyL{K:ZA}{l:kw}{H:Hp}{xs:gN V}(h:Qb K H l xs):tyV K "list" (.ref l) H:= .inl %[rfl,_|h]
def tyD{K:ZA}{l:kw}{H:Hp}{a}(h:H l∣.dK a):tyV K "dict" (.ref l) H:= .inr (.inr (.inl %[rfl|.inl %[_|h]]))
abbrev gLst(K:ZA)(n:iv)(t:TGs):TG:=λv b H Q=>asR v λa=>∃xs,Qb K H a xs/\ ~~~xs=n/\t xs b H Q
def HJ{X:Cx}{K:ZA}{es:gN zr}{t:TGs}{k}{pos:Pos}(f:X.K=K)(g:X.calm=hX)(c:es.any aS=hY)(h:QGs X es t):QG X (.Tuple es k pos) (gLst K es.length t):=by
 subst f;show⟨λij s i H v u Q I r hw=>?_⟩;let%[a,rfl,xs,j,l|hw]:=aO hw;cases r;let%[its,d,p|q]:=I.list j;rw[assign_Tuple];show Z2 (PV ?_);unfold unpack;let m: ~~~(Om es X.env)=its.toArray.size:=by rw[(gj c).1,<-l];simpa using d.length
 rw[m,(gj c).2];show Z2 (v0 (PySem.W.kun_itemsOf (I.ok.hd g) p.isList λh' n=>h.h ij _ i H xs _ Q (I.kept λb o e=>n b o (Zs (Zu e)) e) ↑d hw))
def Cy{X:Cx}(E:X.calm=hX):b7 X (.builtin "sorted") (λxs H Q=>cL xs λB=>asR B λv=>∃(a:kw),H v∣l8 v a/\∃(c:gN (Key×V)),H a∣.dK c/\∃(ks:ZB),c\2=ks\3/\ ~~~ks<64/\∀l (ss:ZB),H l=hH->ss.Perm ks->ss.Pairwise (λa b=>aP b a=hY)->Q (.ref l) (Qa H l (.lst (ss\3)))):=by
 show⟨λij s σ H xs us Q I r h=>?_⟩;let%[B,rfl|p]:=bC h;let%[v,rfl|w]:=aO p;let%[a,G,c,J,ks,f,few|q]:=w;let%[u,rfl|L]:=dc r;cases L;let%[z,hd,vs,j|M]:=lM I.hok J;let y:=(I.hok _ _ G).1;let%[o,es,N,O|T]:=M;let U:s.heap.DictAt _ a vs N:=%[o,es,O|T]
 let vl:= ~~~j;let kl: ~~~c= ~~~ks:=by let:=rM MV f;rwa[Z6,Z6]at this
 let Y:Ng (vs\2) ks:=je (f▸AG j);show ik (ks:=ks) (λE1 R hR=>n8 kdl_values (I.ok.hd E) %[y|U] (by rw[Na];omega) λh' tk acc k ab d=>?_) (by omega) λs1 s' l vs ss n q1 C q3 k1 g1 o1 k g o m gl=>?_
 .let e:acc.toList=vs\2:=by
   show QR (by rw[Zb,d.1,Z6]) λi h1 h2=>?_
   let%[k|ek]:=d.2 i _ (J6 h1);let%[h3|e3]:=Xl ek
   simp_all
  rw[e];show hR _ _ _ Y (.refl _) k rfl rfl
 .let A:=I.keptS k1 g1 o1;show%[.ref l,_,A.stoodS (o:= .lst _) (A.keptS k g o) m %[?_,vs,n,eC q1|gl],ρ|q l ss (A.hok.fresh m) C (q3 few)];rw[Z6,C.length_eq,Na];omega
def cg{v:Type}{K:ZA}{l D:kw}{us:gN v}{f:v->V}{c:St}{H:Hp}{g:TG}{w:TT}{z:TE}{A:Hp->Prop}(Pv:iv->gN V->St->Hp->Prop)(B:Pv 0 [] c H)(r:∀i ys c H,Pv i ys c H->H l<*us.map f)
 (C:∀i ys c H (hi:i< ~~~us),Pv i ys c H->g (f us[i]) c H λa s=>w a s λb d=>if b=hX then z a d λy q=>CK D us.length i Pv ys a y q else CN us.length i Pv ys a d) (E:∀ys c H,Pv us.length ys c H->A H):
 ∃W:iv->iv->gN V->St->Hp->Prop,(∃m,W 0 m [] c H)/\∀i m ys h j,W i m ys h j->((Itl K l).stop i j/\A j)\/
  ((Itl K l).go i j/\∀x u,(Itl K l).yld i j x u->g x h u λa s=>w a s λb d=>if b=hX then z a d λy q=>∃zs o,q D<*zs/\ ~~~zs<lX/\o<m/\W (i+1) o (ys++[y]) a (Qa q D (.lst (zs++[y])))
    else∃o,o<m/\W (i+1) o ys a d):=
 dS (n:= ~~~us) Pv B (λi ys c H hi p=>%[_,f us[i],Qb.of (r _ _ _ _ p)|by simp[hi]]) (λys c H p=>%[_,Qb.of (r _ _ _ _ p)|by simp]) (λi ys c H hi p x u %[e|G]=>by
  subst e;let:=G _ (Qb.of (r _ _ _ _ p));rw[Zl,Z4 hi]at this;obtain rfl:f us[i]=x:=Za this;show C i ys c _ hi p) E
def bB{j:Type}{K:ZA}{a:kw}{us:gN j}{f:j->V}{b:St}{H:Hp}{g:TG}{l:TS}{D:iU}(Pv:iv->St->Hp->Prop)(q:Pv 0 b H)(r:∀i b H,Pv i b H->H a<*us.map f)
 (s:∀i u b H,us[i]?∣u->Pv i b H->g (f u) b H λc h=>l {D with nx:=Pv (i+1),ct:=Pv (i+1),bk:=D.nx} c h) (v:∀b H,Pv us.length b H->D.nx b H):
 ∃W:iv->iv->St->Hp->Prop,(∃m,W 0 m b H)/\∀i m b H,W i m b H->
  ((Itl K a).stop i H/\D.nx b H)\/((Itl K a).go i H/\∃N:St->Hp->Prop,(∀d e,N d e->∃n,n<m/\W (i+1) n d e)/\∀x e,(Itl K a).yld i H x e->g x b e λc h=>l {D with nx:=N,ct:=N,bk:=D.nx} c h):=
 eW (xs:=us.map f) Pv q (λi b H _ p=>Qb.of (r i b H p)) (λi x b H o p=>by
  rw[Zl]at o;let%[u,w|rfl]:=MS.mp o;show s i u b H w p) (by rw[Z6];show v)
section
end
def Cz(a d:jg):Ww "min" %[[a]|[("default",d)]]:=by kernel_rfl
section
variable{X:Cx}{e v:zr}{te tv:TE}{p pos kpos:Pos}
end
abbrev Ma(a:TE):TI:=λb H R=>a b H λx c=>asS x λz=>R (Its z) c
def KQ{X:Cx}{j l:zr}{g:TE}(m:QE X l g):QI X j l (Ma g):=by
 show⟨λij s n H R I h=>thP (m.h ij s n H _ I h) λv c x f d p r=>?_⟩;let%[z,rfl|q]:=d8 r;let%[t|rfl]:=p;let a:∀b∈[⇑c],mY X ij f b:=λb u=>by
  obtain rfl:b=⇑c:=↑u
  show d.fpOk (Zi _) (d.hok.fresh (Zi _))
 cases i:z.cps.all _ with
 | true=>show Wj i %[⇑c,[⇑c],_,_,f,rfl,d.kept λb o e=>Z7 _ e,pM _ z t,%[_,Zj _ rfl,rfl|rfl],a|q]
 | false=>show WK i %[⇑c,[⇑c],_,_,f,rfl,d.kept λb o e=>Z7 _ e,tM _ z t,%[_,Zj _ rfl,rfl|rfl],a|q]
def AM{i j:on}:decide (V.int i=V.int j)=decide (i=j):=by
 by_cases c:i=j
 .rw[c,Zf rfl,Zf rfl]
 .rw[Zh c,Zh λe=>c (V.int.inj e)]
def d5{X:Cx}:OpQ X (pw .Eq) (rI0 λi j=> .bl (decide (i=j))):=⟨λij s a H x y v u Q I b c h=>by
 let%[i,rfl|d]:=dA h;let%[j,rfl|q]:=dA d;show Dg ij s a H _ _ v u Q I b c %[rfl|by rw[AM];show q]⟩
def IE{X:Cx}:OpQ X (pw .NotEq) (rI0 λi j=> .bl (!decide (i=j))):=⟨λij s a H x y v u Q I b c h=>by
 let%[i,rfl|d]:=dA h;let%[j,rfl|q]:=dA d;show Dh ij s a H _ _ v u Q I b c %[rfl|by rw[AM];show q]⟩
def IF{X:Cx}:OpQ X (pw .In) JS:=⟨sU⟩
def Mb{A B:Prop}:(if hX=hX then A else B)=A:=rfl
def Mc{A B:Prop}:(if hY=hX then A else B)=B:=rfl
def vV{x:V}{a:kw}{f:kw->Prop}(h:x= .ref a)(q:f a):asR x f:=by
 rw[h];show q
abbrev asY(x:V)(f:M9->Prop):Prop:=match x with
 | .ty n=>f n
 | _=>MO
def Me{n:M9}{f:M9->Prop}:asY (.ty n) f=f n:=rfl
def IG{x:V}{f:M9->Prop}(h:asY x f):∃n,x= .ty n/\f n:=by
 cases x<;> first|show%[_,rfl|h]|show h.elim
def gH{X:Cx}{K:ZA}(h:X.K=K):b7 X (.builtin "isinstance") (λxs H Q=>lI xs λx y=>asY y λn=>∃t,kD K H x t/\∃b,Ps K t (.type n)∣b/\Q (.bl b) H):=by
 show⟨λij s a H xs us Q I r c=>?_⟩;let%[x,y,rfl|d]:=iV c;let%[n,rfl,t,e,b,f|q]:=IG d;show(LG h).h ij s a H _ us Q I r %[x,n,t,b,rfl,e,f|q]
def KR{X:Cx}{K:ZA}(h:X.K=K):b7 X (.builtin "isinstance") (λxs H Q=>lI xs λx y=>asY y λn=>∃t,TyX K H x t/\∃b,Ps K t (.type n)∣b/\Q (.bl b) H):=by
 show⟨λij s a H xs us Q I r c=>?_⟩;let%[x,y,rfl|d]:=iV c;let%[n,rfl,t,e,b,f|q]:=IG d;show(Ix h).h ij s a H _ us Q I r %[x,_,t,b,rfl,e,.inl %[n,rfl|f]|q]
def zP{X:Cx}{K:ZA}(h:X.K=K):b7 X (.builtin "isinstance") (λxs H Q=>lI xs λx y=>asR y λD=>∃t,TyX K H x t/\∃b,(Ps K t (.ref D)∣b\/∃a,H D&&&R9 V.ref a/\Ue K t (a.map m4)∣b)/\Q (.bl b) H):=by
 show⟨λij s c H xs us Q I r d=>?_⟩;let%[x,y,rfl|g]:=iV d;let%[D,rfl,t,i,b,j|q]:=aO g;show(Ix h).h ij s c H _ us Q I r %[x,_,t,b,rfl,i,j.elim (λe=> .inr (.inl %[D,rfl|e])) (λ%[a,e|f]=> .inr (.inr %[D,a,rfl,e|f]))|q]
def dP{X:Cx}{a:zr}{c:TE}(d:∀b,Th a X.env b=(do let v<-b;Pm a.pos;PY [v] (U2 v)))(e:QE X a c):QT X a (wx c):=by
 show⟨λij s f H Q I h=>?_⟩;show isTrue_plain (thP (e.h ij s f H _ I h) λv m x g i j l=>by
  let%[k,rfl|q]:=pB l;cases j;show Nq %[g,i|q]) (d _)
abbrev rS0(g:kG->kG->V):R2:=λx y H Q=>asS x λi=>asS y λj=>Q (g i j) H
def AN{X:Cx}:OpQ X (pw .Eq) (rS0 λi j=> .bl (decide (V.str i=V.str j))):=⟨λij s a H x y v u Q I b c h=>by
 let%[i,rfl|d]:=d8 h;let%[j,rfl|q]:=d8 d;show Dg ij s a H _ _ v u Q I b c %[rfl|q]⟩
def AO{X:Cx}:OpQ X (pw .NotEq) (rS0 λi j=> .bl (!decide (V.str i=V.str j))):=⟨λij s a H x y v u Q I b c h=>by
 let%[i,rfl|d]:=d8 h;let%[j,rfl|q]:=d8 d;show Dh ij s a H _ _ v u Q I b c %[rfl|q]⟩
def qt{X:Cx}:b7 X (.type "int") (λxs H Q=>cL xs λx=>asB x λb=>Q (.int (if b=hX then 1 else 0)) H):=⟨λij s a H xs us Q I r h=>by
 let%[x,rfl|c]:=bC h;let%[b,rfl|q]:=pB c;show LH.h ij s a H _ us Q I r (.inr %[b,rfl|q])⟩
def bN{A B:Prop}(h:B):asB (.bl hX) λk=>if(!k)=hX then A else B:=h
inductive E2 {α β:Type} (p:α->β->Prop):Prop|mk (a:α) (b:β):p a b->E2 p
inductive E3 {α β γ:Type} (p:α->β->γ->Prop):Prop|mk (a:α) (b:β) (c:γ):p a b c->E3 p
inductive E4 {α β γ δ:Type} (p:α->β->γ->δ->Prop):Prop|mk (a:α) (b:β) (c:γ) (d:δ):p a b c d->E4 p
inductive E5 {α β γ δ ε:Type} (p:α->β->γ->δ->ε->Prop):Prop|mk (a:α) (b:β) (c:γ) (d:δ) (e:ε):p a b c d e->E5 p
inductive E6 {α β γ δ ε ζ:Type} (p:α->β->γ->δ->ε->ζ->Prop):Prop|mk (a:α) (b:β) (c:γ) (d:δ) (e:ε) (f:ζ):p a b c d e f->E6 p
inductive E7 {α β γ δ ε ζ η:Type} (p:α->β->γ->δ->ε->ζ->η->Prop):Prop|mk (a:α) (b:β) (c:γ) (d:δ) (e:ε) (f:ζ) (g:η):p a b c d e f g->E7 p
inductive A3 (a b c:Prop):Prop|mk:a->b->c->A3 a b c
inductive A4 (a b c d:Prop):Prop|mk:a->b->c->d->A4 a b c d
inductive A5 (a b c d e:Prop):Prop|mk:a->b->c->d->e->A5 a b c d e
inductive A6 (a b c d e f:Prop):Prop|mk:a->b->c->d->e->f->A6 a b c d e f
inductive A7 (a b c d e f g:Prop):Prop|mk:a->b->c->d->e->f->g->A7 a b c d e f g
inductive A8 (a b c d e f g h:Prop):Prop|mk:a->b->c->d->e->f->g->h->A8 a b c d e f g h
inductive A9 (a b c d e f g h i:Prop):Prop|mk:a->b->c->d->e->f->g->h->i->A9 a b c d e f g h i
inductive A11 (a b c d e f g h i j k:Prop):Prop|mk:a->b->c->d->e->f->g->h->i->j->k->A11 a b c d e f g h i j k
inductive Fs (P:nX) (w:wh) (K:ZA) (mg:ZC) (base:yc) (k i:iv) (E:St->XK) (t:TA) (σ:St) (H:Hp) (Q:VK):Prop
 | mk (j:iv) (y:kG) (ps:ZB) (sp:Sp) (z0:vD P w K mg base j y ps sp) (z1:Q0 j k=hX) (z2:mX i σ H λv _=>v= .ref (aK mg y)) (z3:t σ H λvs H1=>sp vs H1 Q (E σ)):Fs P w K mg base k i E t σ H Q
def AQ{v:V}:∀{i:iv} {a:St},a[i]?∣hV v->Q v H->mX i a H Q
 | 0,_::_,e,q=>by cases e;show q
 | i+1,_::a,e,q=>AQ (i:=i) (a:=a) e q
def Mf{X:Cx}{P:nX}{w:wh}{K:ZA}{mg:ZC}{base:yc}{E:St->XK}(G:IC (CXO X.prog X.w) X E)(J:bP k X.A)(n:(X.prog,X.w,X.K,X.mg,X.base)=(P,w,K,mg,base))(d:(e::es).any aS=hY)(L:QE X (.Name x p) (mX i))(M:QA X (e::es) t):
 QE X (.Call (.Name x p) (e::es) [] pos) (Fs P w K mg base k i E t):=by
 simp only[Nv]at n;let%[rfl,rfl,rfl,rfl|rfl]:=n;rw[Zw,X7]at d;show⟨λij s c H Q I h=>?_⟩;let%[j,y,ps,sp,C,g,o|h]:=h;let%[f,fd,F,N,O|T]:=C.ex;rw[eA N]at o;let%[v,U|rfl]:=yH o;show NY (thP (L.h ij s c H (λv Y=>v= .ref f/\Y=H) I (AQ U %[rfl|rfl])) λu s0 v H0 z r0 q0=>?_);let%[rfl|rfl]:=q0;cases r0;show Uh z.ok.mod.kin O (thP (M.h pos ij s0 c _ _ z h) λus l vs m a r q=>%[a.kIn|?_]) (aB d.1) (ei d.2);let A:=r.append .nil;let B:sp (vs++[]) m Q (E c):=by rw[Zx];show q
 show OB (codeAny_mono (F.run X.A X.stack l m _ _ _ Q _ (J.mono (Yd g)) a.env0 (T l us a.kIn (~~~A▸F.len _ _ _ _ B)) A B) λr s' b=>?_);cases r with
 | error e=>show G ij c m l e s' a b
 | ok fl=>
   cases fl with
   | ret u=>show a.after b
   | next=>show M7 b
   | brk=>show M7 b
   | cont=>show M7 b
def si{X:Cx}{mg:ZC}{x:kG}{p:Pos}(e:X.mg=mg)(b:Gl X x)(c:mg x∣.ref (aK mg x))(a:(x==("__debug__":kG))=hY):QE X (.Name x p) (tC (.ref (aK mg x))):=by
 subst e;show clsE b c a
def aF.at_{K:ZA}{mg:ZC}{x:kG}{st:Ds}{ps:ZB}(D:aF K mg x st ps):mg x∣.ref (aK mg x):=by
 let%[f,_,_,e|_]:=D.ex;rw[eA e,e]
abbrev Mg(K:ZA)(D:kw)(len i:iv)(a:(St->XK)->TS)(ts:TS):TS:=λb c H=>∃E:St->XK,Fk K D E len i (a E) ts b c H
def tryE{X:Cx}{D:kw}{m:(St->XK)->TS}(f:X.stack=X.env::X.outer)(q:X.env.frame∣X.env.locals)(r:X.N.Nodup)(hi:X.N[i]?∣n)
 (u:X.env.kindOf n∣.local) (v:X.env.scope.names.lookup n∣.local) (w:Gl X x) (y:X.mg x∣.ref D) (c:Cat X.K D) (l:(x==("__debug__":kG))=hY) (d:∀E pn,QSs (X.tryV pn E) g (m E)) (b:∀a,QSs (X.suiteX a) (j::e) ts):
 QS X (.Try g [.ExceptHandler (hV (.Name x p)) (hV n) (j::e) o] [] [] pos) (Mg X.K D X.N.length i m ts):=
 ⟨λij s z H A I %[E|h]=>AK f q r hi u v w y c (λpn=>(d E pn).h) (λa=>(b a).h) l ij s z H A I h⟩
def HK{X:Cx}:b7 X (.type "dict") (λxs H Q=>cL xs λx=>asR x λa=>∃b,Rd H a (.dK b)/\∀d,H d=hH->Q (.ref d) (Qa H d (.dK b))):=⟨by
 intro ij s j H xs us Q I r h;let%[x,rfl|c]:=bC h;let%[a,rfl,b,e|q]:=aO c;let%[u,rfl|f]:=dc r;cases f;show DJ I e λp s' g i=>%[.ref p,_,i,rfl|q p g]⟩
abbrev AR:V->gN V->Hp->VK->Prop:=λx vs H Q=>asR x λl=>Gc vs (∃a,H l∣.dK a/\Q .non (Qa H l (.dK [])))
def Ft{X:Cx}:MtQ X "dict.clear" AR:=⟨by
 intro ij s j H x vs v us Q I d e h;let%[l,rfl|a]:=aO h;let%[rfl|b]:=C0 a;let%[f,g|q]:=b;cases d;let c:=e.zero;subst c;show GJ I g λs' i=>%[.non,_,i,rfl|q]⟩
def Mh{X:Cx}{K:ZA}(f:X.K=K):b7 X (.builtin "isinstance") (λxs H Q=>lI xs λx y=>asR x λa=>∃d c b,Rd H a (.dK d)/\y= .ty c/\Ps K (.type "dict") (.type c)∣b/\Q (.bl b) H):=⟨by
 subst f;intro ij s u H xs us Q I r h;let%[x,y,rfl|g]:=iV h;let%[a,rfl,d,c,b,i,rfl,e|q]:=aO g;let%[v,w,rfl,j|l]:=kK r;cases j;cases l;let%[_,_,vs,_|p]:=kM I.hok i;let%[o,es,A,m,n|_]:=p;show OT Xy I.kIn %[o,m|n.1] e (λz=>nomatch z) λtk=>%[.bl b,H,I.tok _,rfl|q]⟩
def pd{st:gN Ds}:QSs X st uS:=⟨BA⟩
def own{H:Hp}{a:kw}{o:HO}(_:ai H (Qa H a o)):Qa H a o a∣o:=aa
section
end
def CA{X:Cx}{ij:ZF}{h:St}{H:Hp}{s:md}(I:Qc X ij h H s){A:vj}{a b:kw}{xs:gN V}(i:H a&&&xs)(l:H b&&&xs)(m:xs.all lq=hX)(n:A.units<Os):M4 A s (.ref a) (.ref b) hX:=by
 by_cases e:a=b
 .subst e;show TU _
 .let%[us,d,o|_]:=I.tuple (SqT.of i);let%[vs,f,p|_]:=I.tuple (SqT.of l);let c:=XG (A:=A) (s:=s) (e:=λ_=>hX) o p n λj q r=>by
   let%[x,ex|u]:=fH d q;let%[y,g|v]:=fH f r;rw[ex]at g;cases g;show np (xB m ex) u v
  let w:us.toArray.size=vs.toArray.size:=by rw[Zp,Zp,<-d.length,<-f.length]
  rw[w,show((p0 (min vs.toArray.size vs.toArray.size)).all (λ_=>hX)&&vs.toArray.size==vs.toArray.size)=hX by simp]at c;show T1 e c
abbrev LkT{c:Type}[MY c](H:Hp)(d:gN (c×V))(p:c×V):Prop:=∃a b xs,p.2= .ref a/\bQ d p.1∣.ref b/\H a&&&xs/\H b&&&xs/\xs.all lq=hX
def Fu{X:Cx}{ij:ZF}{l:St}{H:Hp}{s:md}(I:Qc X ij l H s){A:vj}(m:A.units<Os){f:Type}[MY f]{g:gN (f×V)}{ws:gN (f×jg)}(r:KV g ws){i:gN (f×V)}{vs:gN (f×jg)}(p:KV i vs)(h:∀p∈i,LkT H g p):KeqHits A s ws vs hX:=by
 induction p with
 | nil=>show .nil
 | @cons c d _ _ e _ n=>
   let%[k|v]:=c;let%[G|u]:=d;let%[rfl|o]:=e;let%[a,b,xs,rfl,w,z,B|j]:=h _ Zm;obtain rfl:u=m4 a:=o;let q:=r.val k;rw[w]at q;let%[y,C|E]:=g9.some_of q;obtain rfl:y=m4 b:=E;let:=KeqHits.hit (A:=A) (s:=s) (v:= .ref a) C (CA I z B j m) (n λp j=>h p (Zk _ j));rwa[TF]at this
abbrev IH:R2:=λx y H Q=>asR x λa=>asR y λb=>∃c d,Rd H a (.dK c)/\Rd H b (.dK d)/\ ~~~c= ~~~d/\(∀p∈c,LkT H d p)/\Q (.bl hY) H
def HL{X:Cx}(A:X.A.units+64<Os):OpR X (pw .NotEq) IH:=by
 intro ij s B H x y v u Q I e f h;let%[a,rfl|g]:=aO h;let%[b,rfl,i,j,l,m,n,o|q]:=aO g;cases e;cases f;let%[z,na,vs,d|p]:=kM I.hok l;let%[C,nb,ws,c|w]:=kM I.hok m;show PySem.W.keq_ne na nb p w ⋯ (r:=hX) (λ_=>Fu I (show X.A.units+1<Os by lia) c d o) ?_;rw[show(~~~vs== ~~~ws&&hX)=hX by rw[<-d.length,<-c.length,n];simp];show%[.bl hY,H,I,ρ|q]
def Fv{X:Cx}(a:bP k X.A):OpQ X (pw .NotEq) IH:=⟨HL a.units⟩
section
variable{X:Cx}
def CB(w:X.calm=hX):cF X (.builtin "max") (λxs H Q=>cL xs λf=>asR f λp=>∃(a:ZM),Qb X.K H p (a\4)/\0< ~~~a/\∀m∈a,(∀y∈a,y<=m)->Q (.int m) H):=by
 intro ij s L H xs us Q I r h;let%[f,rfl|c]:=bC h;let%[p,rfl|d]:=aO c;let%[a,e,g|q]:=d;let%[u,rfl|z]:=dc r;cases z;let%[its,A,B|M]:=I.list e;let%[ps,rfl|rfl]:=ko A;rw[Z6]at g;let%[C|l]:=argBest_gt _ (~~~ps-1);show max_intList (I.ok.hd w) ((show Pt ps.toArray=(ps.map λp=>QF p.1 p.2).toArray by simp[Pt])▸B.isList) g λv h' tk n k=>?_
 generalize P0 _ _=b at C l n
 let E:∀i h,UQ ps.toArray i=ps[i].1:=λi h=>by simp[UQ,h]
 let o:b< ~~~ps:=by lia
 let G:v= .int ps[b].1 ps[b].2:=by simpa [Pt,o,eq_comm]using n
 show%[.int _,H,I.kept k,%[_|G]|q _ (Xp %[_,Yc o|ρ]) λy J=>?_];let%[p,e|rfl]:=Xo J;let%[j,N|rfl]:=Pu e;let:=l j ⋯
 simp_all
def KS{K:ZA}(h:X.K=K)(b:X.calm=hX):b7 X (.builtin "max") (λxs H Q=>cL xs λc=>asR c λp=>∃(a:ZM),Qb K H p (a\4)/\0< ~~~a/\∀m∈a,(∀y∈a,y<=m)->Q (.int m) H):=by subst h;show⟨CB b⟩
end
abbrev mdL:M9->S5->n7:=(λf (_:f "max" .Gt=n7.«max.loop»)=>f) _ rfl
abbrev mdT:M9->n7:=(λf (_:f "max"=n7.max)=>f) _ rfl
structure MD (nm:M9) (op:S5) (gt:on->on->Prop) [∀a b,Pg (gt a b)]:Prop where
 el:SS WP (toString nm++toString ".loop")∣mdL nm op
 pl:plainId (toString nm++toString ".loop")=hX
 kn:builtinKind nm=hH
 pn:plainId nm=hX
 en:SS WP nm∣mdT nm
 ak:∀a d,Ww nm %[[a]|[("default",d)]]
 cm:∀{prog:nX} {w:wh} {A:vj} {Q E:ZE} {s:md} (x y:on) (t u:Tok),Q (.bool (decide (gt x y))) s->↥A (richCompare op (.int x t) (.int y u)) Q E s
 tr:∀{a b c},gt a b-> ¬ gt c b->gt a c/\ ¬ gt c a
 ir:∀{a},¬ gt a a
section
variable{prog:nX}{w:wh}{A:vj}{R:Su->md->Prop}{I S:kw}{fp wr:gN kw}{n:iv}{P:iv->jg->Prop}{St:iv->yc->Prop}{val:iv->on}{kn:kG}{d:jg}{nm:M9}{op:S5}{gt:on->on->Prop}[dg:∀a b,Pg (gt a b)]
abbrev Bst(gt:on->on->Prop)(val:iv->on)(n:iv)(v:jg):Prop:=∃m t,v= .int m t/\(∃j,j<n/\val j=m)/\∀j,j<n-> ¬ gt (val j) m
def Bst.step{m x:on}{t t':Tok}{i:iv}(M:MD nm op gt)(e:∃j,j<i/\val j=m)(b:∀j,j<i-> ¬ gt (val j) m)(ex:val i=x):(gt x m->Bst gt val (i+1) (.int x t))/\(¬ gt x m->Bst gt val (i+1) (.int m t')):=by
 let%[j,a|f]:=e;show%[λc=>%[x,t,ρ,%[i,Yn i|ex]|λj a=>?_]|λc=>%[m,t',ρ,%[j,Ym a|f]|λj a=>?_]]<;> rcases QH.mp a with h|h
 .show(M.tr c (b j h)).2
 .rw[h,ex];show M.ir
 .show b j h
 .rw[h,ex];show c
def CC(M:MD nm op gt)(W:Tz prog w A.in1 I fp wr n P St)(T:∀i v,P i v->∃t,v= .int (val i) t)(E:S∉fp):∀(k i:iv) (s:md) (g:ZK) (c:iv),n-i=k->i<=n->St i s.heap->
 s.heap.get? S=hV {cls:= .type "list",dict:=hH,data:= .seq g c,slots:= #[]}->(i=0/\g= #[]\/∃v,g= #[v,v]/\Bst gt val i v)->
 (∀v h' tk,(n=0/\v=d\/Bst gt val n v)->(∀b o,b∉wr->b≠S->s.heap.get? b∣o->h'.get? b∣o)->R (.ok (.ret v)) {s with heap:=h',toks:=tk})->
 Pz (Nm prog w) A (.builtin (toString nm++toString ".loop") %[[.ref I,.none,.ref S]|[(kn,d)]]) R s:=by
 let G:S∉wr:=λh=>E (W.sub _ h)
 intro k
 induction k with
 | zero=>
   intro i s g c U hi r H L J;obtain rfl:i=n:=by lia
   show Ny M.el ?_;rw[NA M.pl _];show Z2 (Nj H rfl ?_);show Z2 (T4 (W.done s _ _ r λh' tk y=>?_));let a:=y S _ G H;rcases L with⟨rfl,rfl⟩|⟨v,rfl,N⟩
   .show Z2 (Oy (Z3 (J d _ tk (.inl %[rfl|rfl]) λb o l _ e=>y b o l e)))
   .show Z2 (TK a rfl (Z2 (Oz (Z3 ?_))));show J v _ tk (.inr N) λb o l f e=>(J5 _ _ (J0 f)).trans (y b o l e)
 | succ k Q=>
   intro i s g c U hi r H L J;let z:i<n:=by lia
   show Ny M.el ?_;rw[NA M.pl _];show Z2 (Nj H rfl ?_);show Z2 (T4 (W.item i s _ _ z r λu h' tk Y p y=>?_));let a:=y S _ G H;let%[t|rfl]:=T i u Y;let up:∀(x:ZK),(∃v,x= #[v,v]/\Bst gt val (i+1) v)->Pz (Nm prog w) A (.builtin (toString nm++toString ".loop") %[[.ref I,.none,.ref S]|[(kn,d)]]) R {s with heap:=h'.update S (NI λ_=>x),toks:=tk}:=λx hx=>
    Q (i+1) _ x _ ⋯ z (W.frame _ _ _ p λb l o e=>(J5 _ _ (λh:S=b=>E (by rw[h];show l))).trans e) (MT _ a rfl) (.inr hx)
     λv O B q C=>J v O B q λb o l f e=>C b o l f ((J5 _ _ (J0 f)).trans (y b o l e))
   rcases L with⟨rfl,rfl⟩|⟨v,rfl,N⟩
   .show Z2 (Z3 (Z2 (TK a rfl ?_)));show Z3 %[NW M.pl _|up _ %[_,rfl,_,_,rfl,%[0,⋯|rfl]|λj hj=>by rw[show j=0 by lia];show M.ir]]
   .let%[m,t',rfl,e1|e2]:=N;let st:=Bst.step (t:=t) (t':=t') M e1 e2 rfl;show Z2 (Z3 ?_);change tI _ A.in1 (tryCatch (PY [.int (val i) t,.int (val i) t] (richCompare op (.int (val i) t) (.int m t')>>= _)) _>>= _) _ _ _;show Z2 ?_;show T4 ?_;show v0 ?_;show Z2 ?_;show M.cm (prog:=prog) (w:=w) (A:=A.in1) (val i) m t t' ?_;show Z2 (v0 (Nq ?_));show Z2 (Oz (Z3 ?_))
    split
    .rename_i h
     show Z2 (TK a rfl (Z2 (Oz ?_)));show Z3 %[NW M.pl _|up _ %[_,rfl|st.1 (Zo h)]]
    .rename_i h
     show Z2 (Oz ?_);show Z3 %[NW M.pl _|Q (i+1) _ _ _ ⋯ z p a (.inr %[_,rfl|st.2 λc=>h (Zf c)]) λv O B q C=>J v O B q λb o l f e=>C b o l f (y b o l e)]
def CD(M:MD nm op gt){E:ZE}{s:md}{l:kw}{ps:gN (on×Tok)}{Q:ZE}(f:A.handled=hH)(g:s.heap.IsList l (Pt ps.toArray))
 (h:∀v h' tk,(ps.toArray.size=0/\v=d\/Bst gt (UQ ps.toArray) ps.toArray.size v)->(∀b o,s.heap.get? b∣o->h'.get? b∣o)->Q v {s with heap:=h',toks:=tk}):
 ↥A (call (.builtin nm) [.ref l] [("default",d)]) Q E s:=by
 show kmk_tree M.kn M.pn M.en (M.ak _ _) ?_;change tI _ A.in1 (Rg nm ↑"key default" 0 %[[]|[("default",d)]]>>= _) _ _ s;show Z2 (Tr (show Rg nm ↑"key default" 0 %[[]|[("default",d)]]=pure [hH,hV d]from rfl) ?_);show Z2 (Z3 ?_);show Z2 (iter_intList g λp e st a c=>?_);subst e;show Z2 (M6 ?_);show Z3 %[NW M.pl _|CC M (SV (A:=A.in1) f _ l c (Pt ps.toArray)) (val:=UQ ps.toArray) (λ_ _=>intItems_at) (λi=>Xj _ (a _ i)) _ 0 _ #[] 0 rfl (Xe _) %[st.1.at λo e=>Z7 _ e|st.2.at λo e=>Z7 _ e] (Zj _ rfl) (.inl %[rfl|rfl]) λv h' tk q j=>?_];show h v h' tk (by simpa [Pt]using q) (old_kept λb o m e=>j b o m (Zs (Zu e)) (Z7 _ e))
end
section
variable{X:Cx}{K:ZA}{e v:zr}{te tv:TE}{p pos kpos:Pos}{nm:M9}{op:S5}{gt:on->on->Prop}[dg:∀a b,Pg (gt a b)]
abbrev rXD(gt:on->on->Prop)(K:ZA):R2:=λx y H Q=>asR x λa=>asI y λz=>∃b:ZM,Qb K H a (b\4)/\∀m,(b=[]/\m=z\/m∈b/\∀y∈b,¬ gt y m)->Q (.int m) H
abbrev tXD(gt:on->on->Prop)(K:ZA)(te tv:TE):TE:=λa H Q=>te a H λx b=>tv a b λy c=>rXD gt K x y c Q
def Fw(M:MD nm op gt){c:kG}(l:ND c∣.builtin nm)(n:c≠"__name__")(r:(c==("__debug__":kG))=hY)(h:X.K=K)(L:X.calm=hX)(w:X.mg c=hH)(N:Gl X c)(O:aS e=hY)(T:QE X e te)(U:QE X v tv):QE X (.Call (.Name c p) [e] [%[hV "default",v|kpos]] pos) (tXD gt K te tv):=by
 subst h;show⟨λij s A H Q I h=>?_⟩;let b:=aB (es:=[]) (env:=X.env) O;show NY (iX I N w l ?_ n r);show callWith_kw (thP (Ai T.h Do b pos ij s A H (λvs B=>cL vs λx=>tv A B λy d=>rXD gt X.K x y d Q) I h) λus Y vs B I1 r1 C=>?_) (by rw[b];rfl) (by rw[b];rfl) rfl rfl;let%[x,rfl|C]:=bC C;let%[u,rfl|ru]:=dc r1;show thP (GA U.h JB pos ij Y A B (λzs d=>cL zs λy=>rXD gt X.K x y d Q) I1 C) λws s2 zs d E r2 f=>?_
 let%[y,rfl|f]:=bC f;let%[a,rfl|f]:=aO f;let%[z,rfl,ns,ha|q]:=dA f;let%[u2,rfl,t|rfl]:=dc r2;cases ru;let%[its,rv,hl|hz]:=E.list ha;let%[ps,rfl|rfl]:=ko rv;show CD M (I.ok.hd L) (by rw[show Pt ps.toArray=(ps.map λp=>QF p.1 p.2).toArray by simp[Pt]];show hl.isList) λv h' tk o G=>?_
 let g:∀i h,UQ ps.toArray i=ps[i].1:=λi h=>by simp[UQ,h]
 let sz:ps.toArray.size= ~~~ps:=rfl;rw[sz]at o;rcases o with⟨o,rfl⟩|⟨m,t',rfl,⟨j,J,ej⟩,w⟩
 .show%[.int z,d,E.kept G,%[t|ρ]|q z (.inl %[by rw[yu.mp o];rfl|ρ])]
 .show%[.int m,d,E.kept G,%[t'|ρ]|q m (.inr %[Xp %[_,Yc J|by rw[<-g j J,ej]]|λy hy=>?_])];let%[p,hp|rfl]:=Xo hy;let%[i,hi|rfl]:=Pu hp;rw[<-g i hi];show w i hi
def Mj:MD "max" .Gt λa b=>b<a:=%[PySem.F.entry_max_loop,PySem.F.plain_max_loop,PySem.F.kind_max,PySem.F.plain_max,PySem.F.entry_max,Cw,λx y t u q=>CmpOf.ints_gt (P:=λj v=>∃t,v= .int (if j=0 then x else y) t) (λj=>if j=0 then x else y) (λ_ _ h=>h) 0 1 _ _ _ _ _ %[t|rfl] %[u|rfl] q,λh g=>by lia|⋯]
def Mm:MD "min" .Lt λa b=>a<b:=%[PySem.F.entry_min_loop,PySem.F.plain_min_loop,PySem.F.kind_min,PySem.F.plain_min,PySem.F.entry_min,Cz,λx y t u q=>CmpOf.ints_lt (P:=λj v=>∃t,v= .int (if j=0 then x else y) t) (λj=>if j=0 then x else y) (λ_ _ h=>h) 0 1 _ _ _ _ _ %[t|rfl] %[u|rfl] q,λh g=>by lia|⋯]
def Mo(h:X.K=K)(c:X.calm=hX)(d:X.mg "max"=hH)(f:Gl X "max")(g:aS e=hY)(i:QE X e te)(j:QE X v tv):QE X (.Call (.Name "max" p) [e] [%[hV "default",v|kpos]] pos) (tXD (λa b=>b<a) K te tv):=
 Fw Mj boot_max (!1) (!1) h c d f g i j
def Mp(h:X.K=K)(c:X.calm=hX)(d:X.mg "min"=hH)(f:Gl X "min")(g:aS e=hY)(i:QE X e te)(j:QE X v tv):QE X (.Call (.Name "min" p) [e] [%[hV "default",v|kpos]] pos) (tXD (λa b=>a<b) K te tv):=
 Fw Mm boot_min (!1) (!1) h c d f g i j
end
end _LL
namespace _CU
open PySem _LL
inductive df (S:kG->kG->Prop):kG->kG->Prop
 | refl (x:kG):df S x x
 | step {x y z:kG}:df S x y->(S y z\/S z y)->df S x z
def df.trans{S:kG->kG->Prop}(h:df S x y)(g:df S y z):df S x z:=by
 induction g with
 | refl=>show h
 | step _ s a=>show .step a s
def df.one{S:kG->kG->Prop}(h:S x y\/S y x):df S x y:= .step (.refl x) h
def df.symm{S:kG->kG->Prop}(h:df S x y):df S y x:=by
 induction h with
 | refl=>show .refl _
 | step _ s a=>show(df.one s.symm).trans a
def df.mono{S R:kG->kG->Prop}(m:∀a b,S a b->R a b)(h:df S x y):df R x y:=by
 induction h with
 | refl=>show .refl _
 | step _ s c=>show .step c (s.imp (m _ _) (m _ _))
def df.within{S:kG->kG->Prop}{p:kG->Prop}(w:∀a b,S a b->p a/\p b)(h:df S x y)(c:p x):p y:=by
 induction h with
 | refl=>show c
 | step _ s _=>
   rcases s with s|s
   .show(w _ _ s).2
   .show(w _ _ s).1
abbrev cJ(S:kG->kG->Prop)(z r:kG):Prop:=df S z r/\∀y,df S z y->aP y r=hY
def cJ.one{S:kG->kG->Prop}(h:cJ S z r)(g:cJ S z a):r=a:=by
 by_cases e:r=a
 .show e
 .let:=fU (g.2 _ h.1) e;rw[h.2 _ g.1]at this;cases this
structure bX (ls:ZB) (f r:kG->kG) (S:kG->kG->Prop):Prop where
 ws:∀a b,S a b->a∈ls/\b∈ls
 fin:∀z∈ls,f z∈ls
 rin:∀z∈ls,r z∈ls
 rf:∀z∈ls,r (f z)=r z
 fr:∀z∈ls,f (r z)=r z
 fix:∀z∈ls,f z=z->r z=z
 dec:∀z∈ls,f z≠z->aP (f z) z=hX
 le:∀z∈ls,aP z (r z)=hY
 cl:∀x∈ls,∀y∈ls,r x=r y↔df S x y
def bX.rr{S:kG->kG->Prop}(F:bX a f r S)(h:z∈a):r (r z)=r z:=F.fix _ (F.rin z h) (F.fr z h)
def bX.conn{S:kG->kG->Prop}(F:bX a f r S)(h:z∈a):df S z (r z):=(F.cl z h _ (F.rin z h)).mp (F.rr h).symm
def bX.least{S:kG->kG->Prop}(F:bX b f r S){z:kG}(h:z∈b):cJ S z (r z):=by
 show%[F.conn h|λy c=>?_];let a:=c.within F.ws h;rw[(F.cl z h y a).mpr c];show F.le y a
def bX.start(a:ZB):bX a id id (λ_ _=>MO):=by
 show%[λ_ _ h=>h.elim,λz h=>h,λz h=>h,λ_ _=>rfl,λ_ _=>rfl,λ_ _ _=>rfl,λz _ h=>(h rfl).elim,λz _=>dI z|λx b y d=>%[λe=>?_|λc=>?_]]
 .rw[show x=y from e];show .refl _
 .induction c with
  | refl=>rfl
  | step _ s _=>simp_all
set_option tactic.hygienic true in
def bX.join{S:kG->kG->Prop}(F:bX j f r S){a b M m:kG}(q:a∈j)(w:b∈j)(B:M=if aP (r a) (r b)=hX then r b else r a)(C:m=if aP (r b) (r a)=hX then r b else r a):
 bX j (λx=>if x=M then m else f x) (λx=>if r x=M then m else r x) (λx y=>S x y\/(x=a/\y=b)):=by
 let g:(M=r a/\m=r b)\/(M=r b/\m=r a):=by
  rw[B,C];cases e:aP _ _ with
  | true=>
    let:aP (r b) (r a)=hY:=by
     cases i:aP _ _ with
     | false=>rfl
     | true=>have:=d0 e i;rw[dI]at this;cases this
    show this▸ .inr %[rfl|rfl]
  | false=>
    cases i:aP _ _ with
    | true=>show .inl %[rfl|rfl]
    | false=>
      let:r a=r b:=by
       by_cases h:r a=r b
       .show h
       .let:=fU e h;rw[i]at this;cases this
      show this▸ .inl %[rfl|rfl]
 let lt:m≠M->aP m M=hX:=by
  rw[B,C];cases e:aP _ _ with
  | true=>
    cases i:aP _ _ with
    | true=>intro h;show(h rfl).elim
    | false=>intro _;show e
  | false=>
    cases i:aP _ _ with
    | true=>intro _;show i
    | false=>intro h;show(h rfl).elim
 let Q:=F.rin a q;let T:=F.rin b w;let E:m∈j:=by rcases g with⟨_,h⟩|⟨_,h⟩<;> rw[h]<;> assumption
 let G:r M=M:=by rcases g with⟨h,_⟩|⟨h,_⟩<;> rw[h]<;> apply F.rr<;> assumption
 let L:r m=m:=by rcases g with⟨_,h⟩|⟨_,h⟩<;> rw[h]<;> apply F.rr<;> assumption
 let N:df (λx y=>S x y\/(x=a/\y=b)) M m:=by
  let c1:df (λx y=>S x y\/(x=a/\y=b)) _ _:=(((F.conn q).mono λ_ _=> .inl).symm.trans (.one (.inl (.inr %[rfl|rfl])))).trans ((F.conn w).mono λ_ _=> .inl);rcases g with⟨l,n⟩|⟨l,n⟩
  .rw[l,n];show c1
  .rw[l,n];show c1.symm
 let p:∀x∈j,df _ x (if r x=M then m else r x):=λx A=>by
  let c:=(F.conn A).mono (R:=λx y=>S x y\/(x=a/\y=b)) λ_ _=> .inl
  by_cases e:r x=M
  .rw[lp e];rw[e]at c;show c.trans N
  .rw[ku e];show c
 let H:(if r a=M then m else r a)=(if r b=M then m else r b):=by
  rcases g with⟨l,n⟩|⟨l,n⟩
  .rw[lp l.symm];by_cases e:r b=M
   .rw[lp e]
   .rw[ku e];show n
  .rw[lp l.symm];by_cases e:r a=M
   .rw[lp e]
   .rw[ku e];show n.symm
 show%[λx y h=>?_,λz d=>?_,λz d=>?_,λz d=>?_,λz d=>?_,λz d h=>?_,λz d h=>?_,λz d=>?_|λx A y I=>%[λe=>?_|λc=>?_]]
 .rcases h with h|⟨rfl,rfl⟩
  .show F.ws x y h
  .show%[q|w]
 .split
  .show E
  .show F.fin z d
 .split
  .show E
  .show F.rin z d
 .by_cases e:z=M
  .rw[lp e,e,G,lp rfl,L]
   split<;> rfl
  .rw[ku e,F.rf z d]
 .by_cases e:r z=M
  .rw[lp e]
   split
   .rfl
   .show(by rcases g with⟨_,h⟩|⟨_,h⟩<;> rw[h]<;> apply F.fr<;> assumption)
  .rw[ku e,ku e];show F.fr z d
 .by_cases e:z=M
  .rw[lp e]at h;rw[e,G,lp rfl,<-e];show h
  .rw[ku e]at h;rw[F.fix z d h,ku e]
 .by_cases e:z=M
  .rw[lp e]at h ⊢;rw[e]at h ⊢;show lt h
  .rw[ku e]at h ⊢;show F.dec z d h
 .by_cases e:r z=M
  .rw[lp e];cases i:aP z m with
   | false=>rfl
   | true=>
     let o:=F.le z d;rw[e]at o;by_cases em:m=M
     .rw[em]at i;rw[o]at i;cases i
     .let:=d0 i (lt em);rw[o]at this;cases this
  .rw[ku e];show F.le z d
 .let c:=(p x A)
  rw[e]at c;show c.trans (p y I).symm
 .let ws:∀x y,(S x y\/(x=a/\y=b))->x∈j/\y∈j:=λx y h=>by
   rcases h with h|⟨rfl,rfl⟩
   .show F.ws x y h
   .show%[q|w]
  clear I
  induction c with
  | refl=>rfl
  | step c s O=>
    rename_i u v
    let J:=c.within ws A;rw[O];rcases s with(s|⟨rfl,rfl⟩)|(s|⟨rfl,rfl⟩)
    .rw[(F.cl u J v (F.ws u v s).2).mpr (.one (.inl s))]
    .show H
    .rw[(F.cl u J v (F.ws v u s).1).mpr (.one (.inr s))]
    .show H.symm
def bX.short{S:kG->kG->Prop}(F:bX d f r S)(b:z∈d):bX d (λx=>if x=z then f (f z)else f x) r S:=by
 let g:f z≠z->aP (f _) z=hX:=λh=>by
  let i:=F.dec z b h;by_cases e:f (f z)=f z
  .show e▸i
  .show d0 (F.dec _ (F.fin z b) e) i
 show%[F.ws,λx a=>?_,F.rin,λx a=>?_,λx a=>?_,λx a h=>?_,λx a h=>?_,F.le|F.cl]
 .split
  .show F.fin _ (F.fin z b)
  .show F.fin x a
 .by_cases e:x=z
  .rw[lp e,F.rf _ (F.fin z b),F.rf z b,e]
  .rw[ku e];show F.rf x a
 .by_cases e:r x=z
  .rw[lp e];let:=F.fr x a
   simp_all
  .rw[ku e];show F.fr x a
 .by_cases e:x=z
  .rw[lp e]at h;rw[e]at h ⊢;by_cases c:f z=z
   .show F.fix z b c
   .let:=g c;rw[h,dI]at this;cases this
  .rw[ku e]at h;show F.fix x a h
 .by_cases e:x=z
  .rw[lp e]at h ⊢;rw[e]at h ⊢;show g λc=>h ?_
   rw[c,c]
  .rw[ku e]at h ⊢;show F.dec x a h
def bX.done{S:kG->kG->Prop}(F:bX b f r S)(a:z∈b)(h:∀w∈b,aP w z=hX->f w=r w):f (f z)=r z:=by
 by_cases e:f z=z
 .rw[e,e];show(F.fix z a e).symm
 .rw[h _ (F.fin z a) (F.dec z a e),F.rf z a]
abbrev Ed(ks:gN ZB)(a b:kG):Prop:=∃z,[a,b,z]∈ks
inductive Rch (ks:gN ZB):kG->kG->Prop
 | one {a b:kG}:Ed ks a b->Rch ks a b
 | more {a b c:kG}:Rch ks a b->Ed ks b c->Rch ks a c
def Rch.trans(h:Rch ks a b)(g:Rch ks b c):Rch ks a c:=by
 induction g with
 | one e=>show .more h e
 | more _ e d=>show .more d e
def Rch.closed{R:kG->Prop}(a:∀y,Ed ks s y->R y)(h:∀x y,R x->Ed ks x y->R y)(r:Rch ks s y):R y:=by
 induction r with
 | one e=>show a _ e
 | more _ e b=>show h _ _ b e
def uj{ks:gN _}{laid:ZB}(h:∀i x,laid[i]?∣x->∀y,Ed ks x y->y∈laid.take i){i:iv}{x y:kG}(hi:laid[i]?∣x)(r:Rch ks x y):∃j,j<i/\laid[j]?∣y:=by
 let at_:∀i y,y∈laid.take i->∃j,j<i/\laid[j]?∣y:=λi y c=>by
  let%[j|b]:=Xf c;let d:=(Xl b).1;rw[Yk]at d;show%[j,⋯|by rwa[Yb ⋯]at b]
 show r.closed (λy e=>at_ i y (h i x hi y e)) λa y %[j,l|b] e=>?_
 let%[f,m|g]:=at_ j y (h j a b y e);show%[f,⋯|g]
def HM{laid:ZB}(h:∀(i:iv) x,laid[i]?∣x->∀y,Ed ks x y->y∈laid.take i){x:kG}(a:x∈laid): ¬ Rch ks x x:=by
 intro r;let%[i|hi]:=Xf a;let:∀n i:iv,i<=n->laid[i]? ≠hV x:=λn=>by
  induction n with
  | zero=>
    intro i hi e;let%[j,b|_]:=uj h e r
    lia
  | succ n c=>
    intro i hi e;let%[j,b|d]:=uj h e r;show c j ⋯ d
 show this i i (Zi _) hi
abbrev Wal:gN ZB->kG->kG->Prop
 |[],a,b=>a=b
 | k::r,a,b=>∃c z,k=[a,c,z]/\Wal r c b
def Wal.app:∀{us vs:gN ZB} {a:kG},Wal us a b->Wal vs b c->Wal (us++vs) a c
 |[],_,_,h,g=>h▸g
 | _::_,_,_,%[d,z,e|h],g=>%[d,z,e|h.app g]
abbrev Dst(ks:gN ZB)(s:kG)(n:iv)(x:kG):Prop:=∃us:gN _,~~~us=n/\(∀k∈us,k∈ks)/\Wal us s x
def Dst.nil:Dst ks s 0 s:=%[[],rfl,λ_ h=>(nomatch h)|rfl]
def Dst.app(h:Dst ks s n x)(g:Dst ks x m y):Dst ks s (n+m) y:=by
 let%[us,f,a|b]:=h;let%[vs,i,c|d]:=g;show%[us++vs,!2,λk e=>(Xm e).elim (a k) (c k)|b.app d]
def Ed.dst(e:Ed ks s x):Dst ks s 1 x:=by
 let%[z|e]:=e;show%[[[s,x,z]],ρ,λk a=>(Xn a)▸e,x,z,ρ|ρ]
def Dst.last:∀{n:iv} {s:kG},Dst ks s (n+1) x->∃y,Dst ks s n y/\Ed ks y x
 | n,s,%[[],a,_|_]=>(nomatch a)
 | 0,s,%[[k],_,b,c,z,e|h]=>%[s,.nil,z|by rw[<-h,<-e];show b k Zm]
 | 0,s,%[_::_::_,a,_|_]=>n0 a ∅
 | n+1,s,%[k::r,a,b,c,z,e|h]=>by
   let%[y,d|f]:=Dst.last %[r,↑a,λk g=>b k (Zk _ g)|h];let:Ed ks s c:=%[z|e▸b k Zm]
   show%[y,Uv 1 n▸this.dst.app d|f]
def Rch.dst(h:Rch ks a b):∃n,Dst ks a (n+1) b:=by
 induction h with
 | one e=>show%[0|e.dst]
 | more _ e c=>
   let%[n|h]:=c;show%[n+1|h.app e.dst]
def Dst.rch:∀{n:iv} {b:kG},Dst ks a (n+1) b->Rch ks a b
 | 0,b,h=>by
   let%[y,%[us,d,_|c]|e]:=h.last;rw[yu.mp d]at c;rw[c];show .one e
 | n+1,b,h=>by
   let%[y,h|e]:=h.last;show .more h.rch e
structure Lev (ks:gN ZB) (st:kG) (rs:gN (kG×kw×ZB)) (d:kG->iv) (k:iv) (F:ZB):Prop where
 nd:(rs\1).Nodup
 by_:∀r∈rs,r.2.2∈ks/\∃p z,r.2.2=[p,r.1,z]/\((p=st/\d r.1=1)\/(p≠st/\p∈rs\1/\d r.1=d p+1))
 le:∀x∈rs\1,d x<=k
 edge:∀x,x∈F↔(k=0/\x=st)\/(1<=k/\x∈rs\1/\d x=k)
 all:∀n x,1<=n->n<=k->Dst ks st n x->x∈rs\1/\d x<=n
section
variable{ks:gN ZB}{st:kG}{rs:gN (kG×kw×ZB)}{d:kG->iv}{k:iv}{F:ZB}
def Lev.nil:Lev ks st [] (λ_=>0) 0 [st]:=
 %[X3,λ_ h=>(nomatch h),λ_ h=>(nomatch h),λx=>by simp|λn x a b=>by lia]
def Lev.dst(h:Lev ks st rs d k F)(a:x∈rs\1):1<=d x/\Dst ks st (d x) x:=by
 let:∀m x,x∈rs\1->d x<=m->1<=d x/\Dst ks st (d x) x:=λm=>by
  induction m with
  | zero=>
    intro x a l;let%[r,b|rfl]:=Xo a;obtain⟨_,p,z,_,⟨_,e⟩|⟨_,_,e⟩⟩:=h.by_ r b<;> lia
  | succ m g=>
    intro x a l;let%[r,b|rfl]:=Xo a;let%[c,p,z,i|q]:=h.by_ r b;rw[i]at c;let f:Ed ks p r.1:=%[z|c]
    rcases q with⟨rfl,e⟩|⟨_,j,e⟩
    .rw[e];show%[Zi _|f.dst]
    .show e▸%[⋯|(g p j ⋯).2.app f.dst]
 show this _ x a (Zi _)
def Lev.min(h:Lev ks st rs d k F)(a:x∈rs\1)(g:Dst ks st (n+1) x):d x<=n+1:=by
 by_cases c:n+1<=k
 .show(h.all _ x ⋯ c g).2
 .let:=h.le x a
  lia
def Lev.stop(h:Lev ks st rs d k []):∀{n:iv},Dst ks st (n+1) x->x∈rs\1:=by
 let k1:=RW λc=>(nomatch (h.edge st).mpr (.inl %[c|rfl]))
 let:∀n x,Dst ks st (n+1) x->x∈rs.map _:=λn=>by
  induction n with
  | zero=>show λx g=>(h.all 1 x (Zi _) k1 g).1
  | succ n a=>
    intro x g;let%[y,b|e]:=g.last;let q:=a y b;let l:=h.le y q;let ne:d y≠k:=λc=>(nomatch (h.edge y).mpr (.inr %[k1,q|c]))
    show(h.all _ x ⋯ ⋯ ((h.dst q).2.app e.dst)).1
 show λ{n}=>this n x
def Lev.step(h:Lev ks st rs d k F)(nd:((rs++new)\1).Nodup)(E:∀r∈new,r.2.2∈ks/\∃p z,p∈F/\r.2.2=[p,r.1,z])
 (u:∀x∈F,∀y,Ed ks x y->y∈(rs++new)\1):Lev ks st (rs++new) (λx=>if x∈new\1 then k+1 else d x) (k+1) (new\1):=by
 let l:=nd;rw[Zd,X1]at l;let f:∀{x},x∈rs\1->x∉new\1:=λ{x} a b=>l.2.2 x a x b rfl
 let mem:∀{x},x∈(rs++new)\1↔x∈rs\1\/x∈new\1:=λ{x}=>by rw[Zd,Ys]
 let v:∀x∈(rs++new)\1,(if x∈new\1 then k+1 else d x)<=k+1:=λx j=>by
  by_cases c:x∈new\1
  .rw[lp c];show Zi _
  .rw[ku c];let:=h.le x ((mem.mp j).resolve_right c);lia
 show%[nd,λr G=>?_,v,λx=>?_|λn x n1 M g=>?_]
 .rcases Xm G with q|q
  .let%[s,p,z,e|g]:=h.by_ r q;show%[s,p,z,e|?_];rw[ku (f (Xp %[r,q|rfl]))];show g.imp_right λ%[a,b|c]=>%[a,mem.mpr (.inl b)|?_]
   rw[ku (f b)];show c
  .let%[s,p,z,H|e]:=E r q;let w:r.1∈new\1:=Xp %[r,q|rfl];show%[s,p,z,e|?_];rw[lp w];rcases(h.edge p).mp H with⟨rfl,rfl⟩|⟨k1,b,c⟩
   .show .inl %[rfl|rfl]
   .show .inr %[λps=>?_,mem.mpr (.inl b)|by rw[ku (f b),c]];let:Ed ks st r.1:=%[z|by rw[<-ps,<-e];show s]
    show f (h.all 1 _ (Zi _) k1 this.dst).1 w
 .show%[λj=> .inr %[⋯,mem.mpr (.inr j)|lp j]|λj=>?_];rcases j with⟨a,_⟩|⟨_,a,b⟩
  .lia
  .show(mem.mp a).resolve_left λc=>?_
   rw[ku (f c)]at b;let:=h.le x c
   lia
 .let i:∀{m},1<=m->m<=k->Dst ks st m x->x∈(rs++new).map _/\(if x∈new.map _ then k+1 else d x)<=m:=λa b g=>by
   let%[o|A]:=h.all _ x a b g;show%[mem.mpr (.inl o)|by rw[ku (f o)];show A]
  by_cases c:n<=k
  .show i n1 c g
  .obtain rfl:n=k+1:=by lia
   let fin:x∈(rs++new).map _->x∈(rs++new).map _/\(if x∈new.map _ then k+1 else d x)<=k+1:=λa=>%[a|v x a]
   let%[y,B|e]:=g.last;by_cases I:k=0
   .subst I;let%[us,J,_|C]:=B;rw[yu.mp J]at C;show fin (u y ((h.edge y).mpr (.inl %[rfl|(C).symm])) x e)
   .let%[o|A]:=h.all k y ⋯ (Zi _) B;by_cases L:d y=k
    .show fin (u y ((h.edge y).mpr (.inr %[⋯,o|L])) x e)
    .show fin (i ⋯ ⋯ ((h.dst o).2.app e.dst)).1
end
structure Sho (ks:gN _) (a b:kG) (us:gN _):Prop where
 sub:∀k∈us,k∈ks
 wal:Wal us a b
 pos:0< ~~~us
 min:∀n,Dst ks a (n+1) b-> ~~~us<=n+1
def Sho.dst(h:Sho ks a b us):∃n,~~~us=n+1/\Dst ks a (n+1) b:=
 %[~~~us-1,by let:=h.pos;lia,us,by let:=h.pos;lia,h.sub|h.wal]
def Sho.rch(h:Sho ks a b us):Rch ks a b:=by
 let%[n,_|d]:=h.dst;show d.rch
def KU{U:ZB}(h:∀x∈U,∃y∈U,Ed ks x y)(nr:∀x,¬ Rch ks x x){x:kG}(i:x∈U):MO:=by
 let:∀n,∃a p,~~~p=n/\(a::p).Nodup/\(∀y∈a::p,y∈U)/\∀y∈p,Rch ks y a:=λn=>by
  induction n with
  | zero=>show%[x,[],ρ,by simp,↑i|λ_ h=>(nomatch h)]
  | succ n j=>
    let%[a,p,l,nd,d|r]:=j;let%[b,m|e]:=h a (d a Zm);let g:∀y∈a::p,Rch ks y b:=λy f=>by
     rcases Yv.mp f with rfl|q
     .show .one e
     .show .more (r y q) e
    show%[b,a::p,!2,NZ.mpr %[λc=>nr b (g b c)|nd],λy f=>?_|g];rcases Yv.mp f with rfl|q
    .show m
    .show d y q
 let%[a,p,l,nd,d|_]:=this U.length;let:=_ST.nodup_sub nd d;rw[Zr]at this
 lia
structure Mat {α:Type} (E:α->α->Prop) (L:gN α) (m:α->α):Prop where
 nd:L.Nodup
 inj:∀x∈L,∀y∈L,m x=m y->x=y
 ed:∀x∈L,E (m x) x
structure sj {α:Type} (E:α->α->Prop) (L:gN α) (m:α->α) (S T:α->Prop):Prop where
 nb:∀a,S a->∀p,E a p->T p
 mt:∀p,T p->p∈L/\S (m p)
structure Ask {α:Type} (E:α->α->Prop) (L:gN α) (m:α->α) (A0 Q:gN α) (g:α->α):Prop where
 nd:Q.Nodup
 by_:∀i x,Q[i]?∣x->E (g x) x/\(g x∈A0\/∃y∈Q.take i,y∈L/\m y=g x)
section
variable{α:Type}[MY α]{E:α->α->Prop}{L A0 Q:gN α}{m g:α->α}{S T S' T':α->Prop}
def sj.or(h:sj E L m S T)(k:sj E L m S' T'):sj E L m (λa=>S a\/S' a) (λp=>T p\/T' p):=
 %[λa s p e=>s.imp (λs=>h.nb a s p e) λs=>k.nb a s p e|λp t=>t.elim (λt=>%[(h.mt p t).1|.inl (h.mt p t).2]) λt=>%[(k.mt p t).1|.inr (k.mt p t).2]]
def Ask.shut(a:Ask E L m A0 Q g)(h:sj E L m S T)(d:∀x∈A0,S x):∀x∈Q,T x:=by
 let:∀(n i:iv) x,i<n->Q[i]?∣x->T x:=λn=>by
  induction n with
  | zero=>show λi x l=>n0 l (X4 _)
  | succ n f=>
    intro i x l e;let%[o|b]:=a.by_ i x e;show h.nb _ ?_ x o;rcases b with b|⟨y,p,s,b⟩
    .show d _ b
    .let%[j|c]:=Xf p;let q:=(Xl c).1;rw[Yk]at q;rw[Yb ⋯]at c;show b▸(h.mt y (f j y ⋯ c)).2
 intro x r;let%[i|hi]:=Xf r;show this _ i x (Yn _) hi
def Ask.closed(c:∀x∈Q,x∈L)(d:∀b,(b∈A0\/∃y∈Q,y∈L/\m y=b)->∀p,E b p->p∈Q):sj E L m (λb=>b∈A0\/∃y∈Q,y∈L/\m y=b) (λp=>p∈Q):=
 %[d|λp a=>%[c p a|.inr %[p,a,c p a|rfl]]]
structure vW {α:Type} (E:α->α->Prop) (L Q:gN α) (m g:α->α) (T:α->Prop) (f:α) (C:gN α) (i:iv) (p:α):Prop where
 at_:Q[i]?∣p
 own:p=f\/p∈L
 far:∀x∈C,∃j,i<j/\Q[j]?∣x
 nx:∀x∈C,∃y,y∈L/\m y=g x/\(y∈C\/y=p)
 inj:∀x∈C,∀y∈C,g x=g y->x=y
 pv:∀y,y∈C\/y=p->y=f\/(y∈L/\∃x∈C,g x=m y)
 nt:∀y,y∈C\/y=p-> ¬ T y
 hf:f∈C\/p=f
def Fx{Q:gN α}(nd:Q.Nodup){i j:iv}{x:α}(h:Q[i]?∣x)(k:Q[j]?∣x):i=j:=(gN.getElem?_inj (Xl h).1 nd).mp (h.trans k.symm)
def vW.start(h:sj E L m S T)(b:f∉L)(e:Q[i]?∣f):vW E L Q m g T f [] i f:=
 %[e,.inl rfl,λ_ h=>(nomatch h),λ_ h=>(nomatch h),λ_ h=>(nomatch h),λy a=>a.elim (λh=>(nomatch h)) .inl,λy a t=>a.elim (λh=>(nomatch h)) λe=>b (e▸(h.mt y t).1)|.inr rfl]
def vW.inj'(M:Mat E L m)(a:Ask E L m A0 Q g){f:α}{C:gN α}{i:iv}{p:α}(b:vW E L Q m g T f C i p):∀x∈C++[p],∀y∈C++[p],(∀z∈L,m z=g p->z∈Q.take i)->g x=g y->x=y:=by
 let o:∀x∈C,(∀z∈L,m z=g p->z∈Q.take i)->g x≠g p:=λx c h e=>by
  let%[y,q,r|n]:=b.nx x c;let%[j|l]:=Xf (h y q (r.trans e));let s:=(Xl l).1;rw[Yk]at s;rw[Yb ⋯]at l;rcases n with n|rfl
  .let%[k,v|u]:=b.far y n;let:=Fx a.nd l u
   lia
  .let:=Fx a.nd l b.at_
   lia
 intro x c y d h e;rcases Xm c with c|c<;> rcases Xm d with d|d
 .show b.inj x c y d e
 .rw[Xn d]at e;show(o x c h e).elim
 .rw[Xn c]at e;show(o y d h e.symm).elim
 .rw[Xn c,Xn d]
def vW.step(M:Mat E L m)(a:Ask E L m [w] Q g)(A:∀x∈L,m x≠w)(h:sj E L m S T)(b:vW E L Q m g T f C i p)(n:y∈L)(o:m y=g p):∃j,j<i/\vW E L Q m g T f (C++[p]) j y:=by
 let%[B|s]:=a.by_ i p b.at_;let v:y∈Q.take i:=by
  rcases s with s|⟨z,c,q,r⟩
  .show(A y n (o.trans (Xn s))).elim
  .rw[M.inj y n z q (o.trans r.symm)];show c
 let%[j|u]:=Xf v;let G:=(Xl u).1;rw[Yk]at G;rw[Yb ⋯]at u;let l:∀{x},x∈C++[p]↔x∈C\/x=p:=λ{x}=>by rw[Ys,Yy]
 show%[j,⋯,u,.inr n,λx d=>?_,λx d=>?_,λx d z c=>b.inj' M a x d z c λz q r=>(M.inj z q y n (r.trans o.symm))▸v,λz c=>?_,λz c t=>?_|.inl (l.mpr (b.hf.imp_right Eq.symm))]
 .rcases l.mp d with d|rfl
  .let%[k,J|H]:=b.far x d;show%[k,⋯|H]
  .show%[i,⋯|b.at_]
 .rcases l.mp d with d|rfl
  .let%[z,q,r|I]:=b.nx x d;show%[z,q,r|.inl (l.mpr I)]
  .show%[y,n,o|.inr rfl]
 .rcases c with c|rfl
  .show(b.pv z (l.mp c)).imp_right λ%[a,x,d|e]=>%[a,x,l.mpr (.inl d)|e]
  .show(.inr %[n,p,l.mpr (.inr rfl)|o.symm])
 .rcases c with c|rfl
  .show b.nt z (l.mp c) t
  .show b.nt p (.inr rfl) (h.nb _ (o▸(h.mt z t).2) p B)
def vW.fin(M:Mat E L m)(a:Ask E L m [B] Q g)(h:sj E L m S T)(b:vW E L Q m g T f C i p)(J:f∉L)(N:∀y∈L,m y≠g p)(nd:v.Nodup)(G:∀x,x∈v↔x∈L\/x=f):
 Mat E v (λx=>if x∈C++[p]then g x else m x)/\sj E v (λx=>if x∈C++[p]then g x else m x) S T/\g p=B/\(∀x∈v,(if x∈C++[p]then g x else m x)=B\/∃y∈L,m y=if x∈C++[p]then g x else m x)/\∀y,y=B\/(∃x∈L,m x=y)->∃x∈v,(if x∈C++[p]then g x else m x)=y:=by
 let r:∀{x},x∈C++[p]↔x∈C\/x=p:=λ{x}=>by rw[Ys,Yy]
 let O:g p=B:=by
  obtain⟨_,e|⟨y,_,H,ym⟩⟩:=a.by_ i p b.at_
  .show Xn e
  .show(N y H ym).elim
 let U:∀x∈C++[p],∃j,Q[j]?∣x:=λx l=>by
  rcases r.mp l with l|rfl
  .let%[j,_|e]:=b.far x l;show%[j|e]
  .show%[i|b.at_]
 let o:∀x∈v,x∉C++[p]->x∈L:=λx l n=>((G x).mp l).resolve_right λe=>n (e▸r.mpr (b.hf.imp_right Eq.symm))
 let s:∀x∈C++[p],∀y∈L,y∉C++[p]->g x≠m y:=λx l y H n e=>by
  rcases r.mp l with l|rfl
  .let%[z,w,A|zc]:=b.nx x l;show n ((M.inj y H z w (e.symm.trans A.symm))▸r.mpr zc)
  .show N y H e.symm
 show%[%[nd,λx l y I e=>?_|λx l=>?_],%[h.nb|λq t=>%[(G q).mpr (.inl (h.mt q t).1)|?_]],O,λx l=>?_|λy I=>?_]
 .by_cases d:x∈C++[p]<;> by_cases u:y∈C++[p]
  .rw[lp d,lp u]at e;show b.inj' M a x d y u (λz w A=>(N z w A).elim) e
  .rw[lp d,ku u]at e;show(s x d y (o y I u) u e).elim
  .rw[ku d,lp u]at e;show(s y u x (o x l d) d e.symm).elim
  .rw[ku d,ku u]at e;show M.inj x (o x l d) y (o y I u) e
 .by_cases d:x∈C++[p]
  .rw[lp d];let%[j|e]:=U x d;show(a.by_ j x e).1
  .rw[ku d];show M.ed x (o x l d)
 .rw[ku (λc=>b.nt q (r.mp c) t)];show(h.mt q t).2
 .by_cases d:x∈C++[p]
  .rw[lp d];rcases r.mp d with d|rfl
   .let%[z,w,A|_]:=b.nx x d;show .inr %[z,w|A]
   .show .inl O
  .rw[ku d];show .inr %[x,o x l d|rfl]
 .let mem:=λx l=>(G x).mpr ((b.pv x (r.mp l)).elim .inr λh=> .inl h.1)
  rcases I with rfl|⟨x,Y,rfl⟩
  .show%[p,mem p (r.mpr (.inr rfl))|(lp (r.mpr (.inr rfl)))▸O]
  .by_cases d:x∈C++[p]
   .rcases b.pv x (r.mp d)with e|⟨_,z,hz,e⟩
    .show(J (e▸Y)).elim
    .show%[z,mem z (r.mpr (.inl hz))|(lp (r.mpr (.inl hz)))▸e]
   .show%[x,(G x).mpr (.inl Y)|by rw[ku d]]
end
abbrev Let(rows:ZB)(c:iv):Prop:=c≠46/\∃r∈rows,c∈r.cps.toList
abbrev zQ(rows:ZB)(a b:iv):Prop:=a≠46/\a≠b/\∃(i j:iv) (r c:kG),rows[i]?∣r/\rows[i+1]?∣c/\r.cps[j]?∣a/\c.cps[j]?∣b
def fV:c∈c7 rows↔Let rows c:=by
 unfold c7 Let;rw[o0,wR,Sk,MW]
 constructor
 .rintro⟨⟨l,e,b⟩,a⟩;let%[r,d|rfl]:=Xo e;show%[a,r,d|b]
 .rintro⟨a,r,d,b⟩;show%[%[_,Xp %[r,d|ρ]|b]|a]
abbrev AI(rows d:ZB):Prop:=(∀c,Let rows c↔Let d c)/\∀a b,zQ rows a b↔zQ d a b
abbrev St(a:re)(c d:on):Prop:=c<=d+(if a=hX then 1 else 0)/\d<=c+(if a=hX then 1 else 2)
abbrev sg(a s:on):iv:=if a<0 then 46 else 97+((a*5+s)%26).toNat
abbrev Mq(a:gN ZM)(b:on)(k:iv):kG:=⟨(a.map λc=>sg (c.getD k 0) b).toArray⟩
abbrev drawn(a:gN ZM)(hi:iv)(b:on):ZB:=(p0 hi).map (Mq a b)
abbrev there(b:gN ZM):ZM:=((p0 8).filter λa:iv=>b.any λc=>decide ((a:on)∈c)).map λa:iv=>a
abbrev sk(rows:ZB):Prop:=∃m:gN _,~~~m<=26/\∀a b,zQ rows a b->[sgn a,sgn b]∈m
end _CU
namespace _KK
open PySem _LL _CU
nonrec abbrev ZqS:=XO
nonrec def zqn:Lean.Name->ow ZqS->ZqS:= .node .none
nonrec def zqa:M9->ZqS:= .atom .none
nonrec def zqi(s:M9):ZqS:=Lean.mkIdent s.toName
nonrec def zqh:ZqS:=zqn `Lean.Parser.Term.hole #[zqa "_"]
nonrec def zqf(k:iv)(b:ZqS):ZqS:=zqn `Lean.Parser.Term.fun #[zqa "fun",zqn `Lean.Parser.Term.basicFun #[zqn `null (VC k zqh),zqn `null #[],zqa "=>",b]]
nonrec def zqd(c:Char):ZqS:=XO.mkNumLit (toString (c.toNat-48))
nonrec def zqe(a:ow ZqS)(x:M9):ZqS:=if x="r"then zqi "rfl"else if x="n"then a[0]! else if x="h"then a.back! else if x="_"then zqh else if x="f"then zqf 2 (zqi "rfl") else if x="g"then zqf 1 (zqi "rfl") else if ~~~x>1 then zqi x else zqn `Lean.Parser.Term.namedArgument #[zqa "(",zqi x,zqa ":=",zqi x,zqa ")"]
nonrec def zqx(r:ow ZqS):ZqS:=if r[0]!.isAtom then(if r[0]!.getAtomVal=""then zqf 3 r[1]! else r[1]!)else if r.size<2 then r[0]! else zqn `Lean.Parser.Term.app #[r[0]!,zqn `null (r.extract 1 r.size)]
nonrec def zqp(s t:M9):iv:=(s.splitOn t).head!.length
nonrec def zqs(t:M9)(a:ow ZqS)(l:gN Char)(k:gN (gN M9×ow ZqS)):gN Char×gN (gN M9×ow ZqS):=
 let f:=k.head!
 let k:=k.tail
 let x:=f.1.headD ""
 let w:=f.1.tail
 let c:=l.headD ' '
 if f.1.isEmpty then(l,(k.head!.1,k.head!.2.push (zqx f.2))::k.tail)
 else if x="#"then(l.tail,(w,f.2.push (zqd c))::k)
 else if x="L"then(l,(["*"],#[zqa ""])::(w,f.2)::k)
 else if x="*"then
  if c.isDigit then(l.tail,(["r"],#[zqi "af",zqd c])::(w,f.2)::k)
  else if c='?'then(l.drop 2,(w,f.2.push a[l[1]!.toNat-48]!)::k)
  else
   let p:=zqp "~]`" c.toString
   let q:=if p<3 then 1 else 0
   let s:=((t.splitOn "|")[(74+84*p)*q+zqp "ABCDEFGHIJKLMNOPQRSTUVWXYZabcdefghijklmnopqrstuvwxyz!$%&'()*+,./:;<=>^_|}[0123456789" l[q]!.toString]!).splitOn " "
   (l.drop (q+1),(s.tail,#[zqi s.head!])::(w,f.2)::k)
 else(l,(w,f.2.push (zqe a x))::k)
nonrec def zqt(t:M9)(a:ow ZqS)(l:gN Char):iv->ZqS
 |n=>(n.fold (λ_ _ s=>if ~~~s.2=1&&s.2.head!.1.isEmpty then s else zqs t a s.1 s.2) (l,[(["*"],#[zqa "1"])])).2.head!.2[1]!
nonrec def zqm(s:Lean.StrLit)(a:ow Lean.Term):Lean.MacroM Lean.Term:=
 return⟨zqt "paE r * *|ao|aj * *|ax|ar *|aG # n r *|opE * * *|aL * h r *|aM *|aH # n r|QSs.h *|gsE r * *|bj * r * *|bA K r f * *|ifS * * *|aR|bD *|bS Qo r r * * *|bU K r f * *|cI # r|cu K r *|cr|bG|bH h f * *|bo r *|aH # * r|dP g *|bh|d7 *|aD.of *|cP|wT *|cbO * T.a8 PySem.boot_len r *|dz K r|aT|eBl|dL * r r * L L L|fE K r r r *|hJ *|bmO K OS PySem.F.slot_list_append PySem.F.type_list_append * r * *|iC * r * *|d5|orW * *|eG h r * * *|af # r|Z1|Z0|cbO * T.ac XW r *|kE *|fk|gH K r|ig *|eD|fh|oE|jL r T.aj r *|rW * *|rV *|jN|cbO * T.a7 boot_sorted r *|i7|vo * *|lP *|ctO * T.a5 Rc r *|jM|vp # n r * * r *|i8 K r|oa * T.o_Ground h r r *|rT|qh h|c9 T|cbO * T.a0 X5 r *|gvE T.ao r r|dv T|BV|B2 f * *|BU|tO|gvE T.ap r r|ctO * T.ah boot_int r *|qt|gvE T.aw r r|ctO * T.a6 boot_set r *|tQ K r r T.ae r *|wH|pjE * *|dj T|EU h r * *|qf Qo * *|bmO K P9 YL type_dict_get * r * *|xu|mf h r * *|G6|bmO K YG slot_str_join type_str_join * r * *|vv K r|AN|Hw K r r * *|AO|lQ # n r * * r * r r * L L L|G4 *|dJ T|vt|dX T|G5 r r r * *|HJ K r r r *|AL *|cbE * r T.ac XW r r r *|DU r T.aj r r *|jm T|zd * * r * * *|cbO * T.aa boot_all r *|DW K r r|KQ *|orV * *|Ec K w r r r|KP K r * * *|DV *|noO|bmO K OS slot_list_extend type_list_extend * r * *|pP|Kg *|wG # n r * *|jn T|Ky K r r *|fi T|eP T|K1 K r OS PySem.F.slot_list_append PySem.F.type_list_append * r r r r * *|bmO K P9 VH PySem.F.type_dict_setdefault * r * *|jf|eQ T|zP K r|Eu T.g_Torn_ring r *|KO * *|IF|gvE T.ar r r|IE|Iu r T.af r r *|qd w r r|bmO K YG PySem.F.slot_str_split PySem.F.type_str_split * r * *|Av|mL T|nB T|Iz K r r T.af r r *|t9 P w r r r|EO K P w r r r r h|gvE T.az r r|gvE T.aA r r|Et *|Es|bmO K P9 Xu PySem.F.type_dict_update * r * *|xD|uf r|gY T|EW r|cbO * T.a1 YA r *|G3 K r P9 Xt PySem.F.type_dict_values * r r *|xq|uM T|kb T|Bi T|jH T|Ip r|qV T|Au K r|MG K r g *|iA T|gvE T.aC r r|mW T|gvE T.aB r r|Fj K r r|Fv h|IA * T.o_Ground h r *|xS T|rQ T|B T|IB h|v4 T|JY|wG # * r * *|gvE T.av r r|gvE T.au r r|FC T|qK T|lB T|gvE T.aq r r|L8 K r|LW K r T.t_LAYER_WORDS r r|LW K r T.t_YEAR_WORDS r r|CO T|CM T|FD T|gvE T.ax r r|qP T|gvE T.ay r r|xO T|CJ T|Cj K r|zW T|v5 T|xR T|oO T|Ck K r|ID|qQ T|mU T|q_in K r|CH T|xU T|CQ T|Kz r|oQ T|HB r|sI T|z6 T|E9 r r T.a9 r T.a5 r *|x8 T|FO T|lE T|KA K r r|bmO K OS PySem.F.slot_list_remove PySem.F.type_list_remove * r * *|EZ|KH w r|wb T|rh T|LF|Kh b.ex *|Kf * h r r r r *|C_Torn T|yh T|z8 T|zZ T|anyI K r *|Kw|z9 T|Ch r|Cy r|CU T|Fi h|rA T|sO T|dinE h r * *|rO T|Mo K r r T.a1 r r * *|nM T|Mp K r r T.a0 r r * *|yB T|KR K r|L3 h|rH T|KS K r r|sP T|G3 K r OS PySem.F.slot_list_clear PySem.F.type_list_clear * r r *|G7|Mh K r|wj T|yk T|yw T|sM T|rF T|rP T|CY T|ctO * T.an boot_dict r *|HK|G3 K r P9 PySem.F.slot_dict_clear PySem.F.type_dict_clear * r r *|Ft" (a.map (·.raw)) s.getString.toList 9999⟩
set_option hygiene false in
nonrec abbrev ZN:=gN V
nonrec abbrev ZO:=gN (kw×gN V)
local macro_rules|`(%[$s:str,$x,*|$y])=>zqm s (x.getElems.push y)|`(%[$s:str|$y])=>zqm s #[y]
local macro_rules|`(tactic|lk)=>do
 let x<-("aV C4 lJ iY nP uT lK wx tB Gf tOr IX C3 Jb tOp tUn tC IR IS tCB sX yV Ah Jx Jy yL tBM GG tSl Du uX GR rI rI0 rU JO JQ rEq rNe Im DN JJ JL JC JD JE GY JS At As ze yY vb Gn C7 Jf Iq Ir L7 Ma Iy Ak Al Jt Ju J9 pG GL ve yZ y4 DD EX EY KB vR KF Fe xw rIn JH va Aq Db Dc GZ L9 Lf Lg Lh Li Me rS0 IM IP IQ Mb Mc".splitOn " ").toArray.mapM λs=>`(Lean.Parser.Tactic.simpLemma|↓$(Lean.mkIdent s.toName):ident)
 let y<-("pU Gu BE Jq cond_true cond_false List.getElem?_cons_zero List.getElem?_cons_succ List.set_cons_zero List.set_cons_succ Option.some.injEq V.int.injEq V.str.injEq V.bl.injEq V.ref.injEq V.ty.injEq List.cons.injEq reduceCtorEq and_true true_and and_false false_and or_false false_or or_true true_or exists_false exists_eq_left' exists_eq_left exists_eq_right exists_eq_right' exists_and_left exists_and_right exists_eq cons_append nil_append exists_const and_assoc Int.zero_add Bool.not_true Bool.not_false Zz if_true if_false eq_self".splitOn " ").toArray.mapM λs=>`(Lean.Parser.Tactic.simpLemma|$(Lean.mkIdent s.toName):ident)
 `(tactic|simp only[$(x++y),*])
local macro_rules|`(!$n:ident)=>`(some (V.ref $n))
local macro_rules|`(-$n:ident)=>`(some (V.str $n))
local macro_rules|`(#[$n:num])=>`((show $n≤sizeLine by decide))|`(#[$x])=>`(paE rfl $x ao)|`(#[$x,$y,*])=>`(paE rfl $x #[$y,*])
local macro_rules|`(tactic|walk)=>`(tactic|refine%[rfl,rfl,rfl,?_,rfl,?_|?_]<;>decide +kernel)
def zq0{P:List Value->Prop}(h:P []):∀u,~~~u=0->P u:=λu e=>by rw[List.length_eq_zero_iff.mp e];show h
def zq1{n:Nat}{P:List Value->Prop}(h:∀a,∀u,~~~u=n->P (a::u)):∀u,~~~u=n+1->P u:=λu e=>by
 cases u with
 |nil=>cases e
 |cons a u=>show h a u (Nat.succ.inj e)
local macro_rules|`(tactic|room)=>`(tactic|(intro _ _ _ _ _ _;(repeat(refine zq1 λ_=>?_));exact zq0 rfl))
set_option hygiene false in
local macro_rules|`(↑$n:num)=>`(af $n rfl)|`(↑($x,$y))=>`(show bz _ _ _ $x $y=true from rfl)|`(↑[$x,*])=>`(show([$x,*]:ZB).Nodup from by decide)
set_option hygiene false in
local macro_rules|`($a>>$b)=>`(bU (K:=K) rfl (λ_ _=>rfl) $a $b)
set_option hygiene false in
local macro_rules|`(↥$n:num)=>`(Cal P w K mg base $n)
abbrev top(i:iv):Ds:=PySem.Challenge.pw_digbook_k71_bounds_told.main.body.getD i (.Pass %[0,0,0|0])
noncomputable section
nonrec abbrev iN:Ds:=top 1
def bq:av ↑"ground names layer word one other" ["ground"] (ap iN):=by walk
nonrec abbrev jB:Ds:=top 2
def eN:av ↑"names one other first second" ↑"names one other" (ap jB):=by walk
nonrec abbrev gJ:Ds:=top 3
def fo:av ↑"names layer" ↑"names layer" (ap gJ):=by walk
nonrec abbrev qu:Ds:=top 4
def im:av ↑"ground names groups layer" ["ground"] (ap qu):=by walk
nonrec abbrev mj:Ds:=top 5
def F8:av ↑"ground layer" ↑"ground layer" (ap mj):=by walk
nonrec abbrev jC:Ds:=top 6
def nu:av ["ground"] ["ground"] (ap jC):=by walk
nonrec abbrev AS:Ds:=top 7
def xF:av ↑"ground names" ["ground"] (ap AS):=by walk
nonrec abbrev iO:Ds:=top 20
def mo:av ["found"] ["found"] (ap iO):=by walk
nonrec abbrev gK:Ds:=top 21
def kH:av ["found"] ["found"] (ap gK):=by walk
nonrec abbrev uk:Ds:=top 22
def lv:av ↑"found side groups link" ↑"found side" (ap uk):=by walk
nonrec abbrev jS:Ds:=top 23
def bg:av ↑"names found beneath above waits name ready laid least link" ↑"names found" (ap jS):=by walk
nonrec abbrev jT:Ds:=top 24
def dU:av ↑"beneath start goal reached edge" ↑"beneath start goal" (ap jT):=by walk
nonrec abbrev og:Ds:=top 25
def fJ:av ↑"beneath edge reached further name link" ↑"beneath edge reached" (ap og):=by walk
nonrec abbrev xG:Ds:=top 26
def uo:av ↑"reached start goal way" ↑"reached start goal" (ap xG):=by walk
nonrec abbrev kP:Ds:=top 27
def dE:av ↑"names found beneath reach name link" ↑"names found" (ap kP):=by walk
nonrec abbrev jD:Ds:=top 29
def cb:av ↑"names found beneath shortest name way" ↑"names found" (ap jD):=by walk
nonrec abbrev mr:Ds:=top 30
def sr:av ↑"names found" ↑"names found" (ap mr):=by walk
nonrec abbrev jU:Ds:=top 31
def cB:av ↑"ground found torn_by" ["ground"] (ap jU):=by walk
nonrec abbrev AT:Ds:=top 33
def Ms:av ↑"ground one other beneath" ↑"ground one other" (ap AT):=by walk
nonrec abbrev jV:Ds:=top 34
def dW:av ↑"ground found" ["ground"] (ap jV):=by walk
nonrec abbrev uq:Ds:=top 41
def zR:av ["thing"] ["thing"] (ap uq):=by walk
nonrec abbrev ur:Ds:=top 42
def jj:av ↑"text rows number row" ["text"] (ap ur):=by walk
nonrec abbrev xH:Ds:=top 43
def CF:av ["row"] ["row"] (ap xH):=by walk
nonrec abbrev jW:Ds:=top 44
def oK:av ↑"row above" ↑"row above" (ap jW):=by walk
nonrec abbrev mv:Ds:=top 45
def sw:av ["rows"] ["rows"] (ap mv):=by walk
nonrec abbrev ut:Ds:=top 46
def zS:av ["text"] ["text"] (ap ut):=by walk
nonrec abbrev qv:Ds:=top 47
def eZ:av ↑"text rows pairs above row" ["text"] (ap qv):=by walk
nonrec abbrev gM:Ds:=top 48
def kI:av ↑"above row" ↑"above row" (ap gM):=by walk
nonrec abbrev mw:Ds:=top 57
def eU:av ↑"cuts names number thing" ["cuts"] (ap mw):=by walk
nonrec abbrev jX:Ds:=top 58
def oM:av ["thing"] ["thing"] (ap jX):=by walk
nonrec abbrev xI:Ds:=top 59
def CG:av ["thing"] ["thing"] (ap xI):=by walk
nonrec abbrev jE:Ds:=top 60
def eO:av ↑"sayings layers number thing" ↑"sayings layers" (ap jE):=by walk
nonrec abbrev oh:Ds:=top 61
def vX:av ↑"thing layers" ↑"thing layers" (ap oh):=by walk
nonrec abbrev jF:Ds:=top 62
def ny:av ↑"thing texts" ↑"thing texts" (ap jF):=by walk
nonrec abbrev uu:Ds:=top 63
def zT:av ["thing"] ["thing"] (ap uu):=by walk
nonrec abbrev mx:Ds:=top 64
def sE:av ↑"name letter" ↑"name letter" (ap mx):=by walk
nonrec abbrev oi:Ds:=top 65
def fK:av ↑"cuts layers name text" ["cuts"] (ap oi):=by walk
nonrec abbrev jY:Ds:=top 66
def cC:av ↑"cuts ties name text upper lower" ["cuts"] (ap jY):=by walk
nonrec abbrev io:Ds:=top 67
def c8:av ↑"sayings ties number saying" ["sayings"] (ap io):=by walk
nonrec abbrev xJ:Ds:=top 72
def dq:av ↑"ground reach sinces bys told name least greatest" ["ground"] (ap xJ):=by walk
nonrec abbrev my:Ds:=top 73
def iE:av ↑"ground word names sayings" ↑"ground word" (ap my):=by walk
nonrec abbrev iP:Ds:=top 74
def mB:av ↑"sinces reach name" ↑"sinces reach name" (ap iP):=by walk
nonrec abbrev oj:Ds:=top 75
def vY:av ↑"bys reach name" ↑"bys reach name" (ap oj):=by walk
nonrec abbrev ip:Ds:=top 76
def lz:av ↑"reach upper lower" ↑"reach upper lower" (ap ip):=by walk
nonrec abbrev iQ:Ds:=top 77
def iq:av ↑"ground reach bys pairs number name year" ["ground"] (ap iQ):=by walk
nonrec abbrev AU:Ds:=top 78
def xK:av ↑"ground pairs since by sayings" ["ground"] (ap AU):=by walk
nonrec abbrev gO:Ds:=top 79
def yG:av ↑"ground one other found" ↑"ground one other" (ap gO):=by walk
nonrec abbrev kQ:Ds:=top 81
def qw:av ↑"~script ~k" ↑"~script ~k" (ap kQ):=by walk
nonrec abbrev mC:Ds:=top 82
def du:av ↑"~cell ~k ~number ~found ~j" ↑"~cell ~k" (ap mC):=by walk
nonrec abbrev mD:Ds:=top 83
def b8:av ↑"~script ~k ~base ~many ~cell ~mixed_one ~digits_here ~turn" ↑"~script ~k ~base ~many" (ap mD):=by walk
nonrec abbrev mE:Ds:=top 84
def sF:av ↑"~rank ~way" ↑"~rank ~way" (ap mE):=by walk
nonrec abbrev ux:Ds:=top 85
def cN:av ↑"~digits_here ~way ~wide ~high ~columns ~j ~air ~rank ~column ~k" ↑"~digits_here ~way" (ap ux):=by walk
nonrec abbrev om:Ds:=top 86
def fM:av ↑"~name ~way ~rows ~ranks_here ~rank ~letter_here" ↑"~name ~way ~rows" (ap om):=by walk
nonrec abbrev qx:Ds:=top 87
def dF:av ↑"~script ~head ~cuts_here ~ranks_here ~k ~name ~rows" ↑"~script" (ap qx):=by walk
nonrec abbrev uy:Ds:=top 88
def zU:av ↑"~one ~other ~ranks_here" ↑"~one ~other ~ranks_here" (ap uy):=by walk
nonrec abbrev qy:Ds:=top 89
def cY:av ↑"~digits_here ~ranks_here ~torn ~wild ~names ~one ~other ~saying ~alike ~year" ↑"~digits_here ~ranks_here ~torn ~wild" (ap qy):=by walk
nonrec abbrev ot:Ds:=top 90
def br:av ↑"~script ~ways ~cuts_here ~beds ~k ~name ~signs ~sayings ~digits_here ~year" ↑"~script" (ap ot):=by walk
nonrec abbrev qz:Ds:=top 91
def cZ:av ↑"~script ~cuts_here ~ranks_here ~names ~late ~sayings ~k ~digits_here" ↑"~script" (ap qz):=by walk
nonrec abbrev mF:Ds:=top 92
def cO:av ↑"~script ~cuts_here ~ranks_here ~sayings ~torn ~wild ~k" ↑"~script" (ap mF):=by walk
nonrec abbrev jZ:Ds:=top 93
def cD:av ↑"~name ~text ~rows ~ties_here ~upper ~lower ~k" ↑"~name ~text" (ap jZ):=by walk
nonrec abbrev qA:Ds:=top 94
def dG:av ↑"~cuts_here ~sayings ~ties_here ~name ~text ~number ~saying" ↑"~cuts_here ~sayings" (ap qA):=by walk
nonrec abbrev ou:Ds:=top 95
def bu:av ↑"~cuts_here ~sayings ~homes_here ~name ~text ~sign ~pairs ~turn ~word ~one ~other ~least" ↑"~cuts_here ~sayings" (ap ou):=by walk
nonrec abbrev oy:Ds:=top 96
def eE:av ↑"~cuts_here ~sayings ~homes_here ~laid ~one ~other ~source" ↑"~cuts_here ~sayings ~homes_here" (ap oy):=by walk
nonrec abbrev uz:Ds:=top 97
def bF:av ↑"~laid ~one ~steps ~later ~earlier ~source ~far_here ~row ~many ~ahead ~deposit ~other" ↑"~laid ~one" (ap uz):=by walk
nonrec abbrev kR:Ds:=top 98
def gP:av ↑"~laid ~homes_here ~beneath_here ~deposit" ↑"~laid ~homes_here" (ap kR):=by walk
nonrec abbrev j3:Ds:=top 99
def oN:av ↑"~beneath_here" ↑"~beneath_here" (ap j3):=by walk
nonrec abbrev j4:Ds:=top 100
def cE:av ↑"~found ~laid ~one ~other ~here ~later ~earlier ~source" ↑"~found ~laid ~one ~other" (ap j4):=by walk
nonrec abbrev kS:Ds:=top 101
def j6:av ↑"~refused ~laid ~beneath_here ~told_ring" ↑"~refused ~laid ~beneath_here" (ap kS):=by walk
nonrec abbrev uA:Ds:=top 102
def dY:av ↑"~sayings ~homes_here ~beneath_here ~due_here ~deposit ~since ~by ~saying ~own" ↑"~sayings ~homes_here ~beneath_here" (ap uA):=by walk
nonrec abbrev qB:Ds:=top 103
def iu:av ↑"~ground_here ~told_here ~refused e" ↑"~ground_here" (ap qB):=by walk
nonrec abbrev oz:Ds:=top 104
def jk:av ↑"~told_here ~due_here ~deposit ~pair" ↑"~told_here ~due_here" (ap oz):=by walk
nonrec abbrev j7:Ds:=top 105
def dh:av ↑"~ground_here ~laid ~beneath_here ~asked ~refused e" ↑"~ground_here ~laid ~beneath_here" (ap j7):=by walk
nonrec abbrev mG:Ds:=top 106
def dN:av ↑"~script ~cuts_here ~sayings ~ground_here ~beside ~kept ~one ~some ~homes_here ~laid ~beneath_here ~told_here ~refused ~as_told" ↑"~script" (ap mG):=by walk
nonrec abbrev cK:Ds:=kg (top 56) 0
def gQ:av ↑"self cuts sayings layers" ↑"self cuts sayings" (ap cK):=by walk
nonrec abbrev sG:Ds:=kg (top 56) 1
def Fy:av ["self"] ["self"] (ap sG):=by walk
nonrec abbrev cU:Ds:=kg (top 56) 2
def mH:av ["self"] ["self"] (ap cU):=by walk
nonrec abbrev di:Ds:=kg (top 56) 3
def nA:av ["self"] ["self"] (ap di):=by walk
nonrec abbrev dQ:Ds:=kg (top 56) 4
def qC:av ["self"] ["self"] (ap dQ):=by walk
nonrec abbrev e9:Ds:=kg (top 12) 0
end
def vZ:av ↑"self ring" ↑"self ring" (ap e9):=by walk
inductive qD (K:ZA)
 | mk (a:kw) (ns:ZM) (k:on):vs=[.ref a,.int k]->Qb K H a (ns\4)->0<=k->Q (.int (ns.getD k.toNat 0)) H->qD K vs H Q E0
inductive uB
 | mk (c k:on):vs=[.int c,.int k]->0<=k->k<=100->(∀v,Q (.int v) H)->uB vs H Q E0
inductive uC (K:ZA)
 | mk (a:kw) (ns:ZM) (k b m:on):vs=[.ref a,.int k,.int b,.int m]->Qb K H a (ns\4)->0<=k->k<=100->2<=b->b<=1000->0<=m->m<=100->(∀l H' (xs:ZM),ai H H'->H l=hH->H' l<*xs\4-> ~~~xs=m.toNat->(∀x∈xs,0<=x/\x<b)->Q (.ref l) H')->uC K vs H Q E0
structure Txc (K:ZA) (mg:ZC):Prop where
 c_Torn:mg "Torn"=hV (.ref (aK mg "Torn"))
 c_DigError:mg "DigError"=hV (.ref (aK mg "DigError"))
 c_NoCut:mg "NoCut"=hV (.ref (aK mg "NoCut"))
 c_NoSaying:mg "NoSaying"=hV (.ref (aK mg "NoSaying"))
 c_NoGround:mg "NoGround"=hV (.ref (aK mg "NoGround"))
 c_NoLayer:mg "NoLayer"=hV (.ref (aK mg "NoLayer"))
 c_NoRow:mg "NoRow"=hV (.ref (aK mg "NoRow"))
 c_NoDeed:mg "NoDeed"=hV (.ref (aK mg "NoDeed"))
 x_Torn:Er K mg "Torn" "Torn.__init__" e9 ↑"self ring"
 f_Torn_ring:J8 K (aK mg "Torn") "ring"
 g_Torn_ring:Hh K (aK mg "Torn") "ring"
 u_Torn_NoCut:RL K (.ref (aK mg "Torn")) (.ref (aK mg "NoCut"))∣hY
 u_Torn:RL K (.ref (aK mg "Torn")) (.ref (aK mg "DigError"))∣hX
 k_Torn_any0:Ue K (.ref (aK mg "Torn")) (([(aK mg "NoCut"),(aK mg "NoGround"),(aK mg "NoSaying")]).map m4)∣hY
 k_Torn_any1:Ue K (.ref (aK mg "Torn")) (([(aK mg "NoDeed"),(aK mg "NoRow"),(aK mg "NoLayer")]).map m4)∣hY
 k_Torn_Torn:Ps K (.ref (aK mg "Torn")) (.ref (aK mg "Torn"))∣hX
 k_Torn_ValueError:Ps K (.ref (aK mg "Torn")) (.type "ValueError")∣hX
 i_DigError:Ej K (aK mg "DigError")
 t_NoCut:Cat K (aK mg "NoCut")
 t_DigError:Cat K (aK mg "DigError")
 o_Ground:xj K mg "Ground"
 n_Ground_kept_cuts:iB K (aK mg "Ground") "kept_cuts"
 n_Ground_kept_sayings:iB K (aK mg "Ground") "kept_sayings"
 n_Ground_kept_layers:iB K (aK mg "Ground") "kept_layers"
 n_Ground_kept_ties:iB K (aK mg "Ground") "kept_ties"
 i_Ground:ES K mg "Ground" "Ground.__init__" cK ↑"self cuts sayings"
 m_Ground_sayings:xo K mg "Ground" "sayings" "Ground.sayings" cU ["self"]
 m_Ground_layers:xo K mg "Ground" "layers" "Ground.layers" di ["self"]
 m_Ground_ties:xo K mg "Ground" "ties" "Ground.ties" dQ ["self"]
 t_YEAR_WORDS:GvT K mg "YEAR_WORDS" [.str "since",.str "by"]
 t_LAYER_WORDS:GvT K mg "LAYER_WORDS" [.str "later",.str "same"]
structure Txt (K:ZA) (mg:ZC):Prop extends Txc K mg where
 a0:mg "min"=hH
 a1:mg "max"=hH
 a5:mg "list"=hH
 a6:mg "set"=hH
 a7:mg "sorted"=hH
 a8:mg "len"=hH
 a9:mg "reversed"=hH
 aa:mg "all"=hH
 ab:mg "str"=hH
 ac:mg "isinstance"=hH
 ae:mg "enumerate"=hH
 af:mg "zip"=hH
 ag:mg "tuple"=hH
 ah:mg "int"=hH
 ai:mg "bool"=hH
 aj:mg "range"=hH
 am:mg "ValueError"=hH
 an:mg "dict"=hH
 ao:Gv mg "LATER" (.int 0)
 ap:Gv mg "EARLIER" (.int 1)
 aq:Gv mg "LONGEST_NAME" (.int 8)
 ar:Gv mg "LETTERS" (.str "abcdefghijklmnopqrstuvwxyz")
 au:Gv mg "MOST_ROWS" (.int 40)
 av:Gv mg "MOST_SIGNS" (.int 40)
 aw:Gv mg "AIR" (.str ".")
 ax:Gv mg "MOST_CUTS" (.int 8)
 ay:Gv mg "MOST_SAYINGS" (.int 60)
 az:Gv mg "FIRST_YEAR" (.int (-9999))
 aA:Gv mg "LAST_YEAR" (.int 9999)
 aB:Gv mg "YEAR" (.int 2)
 aC:Gv mg "DEPOSIT" (.int 1)
 aD:Gv mg "NUMBER" (.int 0)
 aE:aF K mg "names_by_layer" iN ["ground"]
 aG:aF K mg "join_deposits" jB ↑"names one other"
 aH:aF K mg "least_pointed_to" gJ ↑"names layer"
 aI:aF K mg "deposits" qu ["ground"]
 aJ:aF K mg "deposit_of" mj ↑"ground layer"
 aK:aF K mg "deposit_names" jC ["ground"]
 aL:aF K mg "links" AS ["ground"]
 aM:aF K mg "links_by_later" iO ["found"]
 aN:aF K mg "links_by_earlier" gK ["found"]
 aO:aF K mg "grouped" uk ↑"found side"
 aP:aF K mg "laid_in_turn" jS ↑"names found"
 aQ:aF K mg "shortest_way" jT ↑"beneath start goal"
 aR:aF K mg "next_edge" og ↑"beneath edge reached"
 aS:aF K mg "way_to" xG ↑"reached start goal"
 aT:aF K mg "all_beneath" kP ↑"names found"
 aU:aF K mg "shortest_ring" jD ↑"names found"
 aV:aF K mg "never_laid" mr ↑"names found"
 aW:aF K mg "untorn_links" jU ["ground"]
 aX:aF K mg "chain" AT ↑"ground one other"
 aY:aF K mg "earlier_ones" jV ["ground"]
 aZ:aF K mg "is_name" uq ["thing"]
 b0:aF K mg "rows_of" ur ["text"]
 b1:aF K mg "is_row" xH ["row"]
 b2:aF K mg "lies_beneath" jW ↑"row above"
 b3:aF K mg "letters_in" mv ["rows"]
 b4:aF K mg "letters" ut ["text"]
 b5:aF K mg "meetings" qv ["text"]
 b6:aF K mg "meetings_between" gM ↑"above row"
 b7:aF K mg "check_cuts" mw ["cuts"]
 b8:aF K mg "is_named_cut" jX ["thing"]
 b9:aF K mg "is_cut" xI ["thing"]
 ba:aF K mg "check_sayings" jE ↑"sayings layers"
 bb:aF K mg "is_saying" oh ↑"thing layers"
 bc:aF K mg "is_text_among" jF ↑"thing texts"
 bd:aF K mg "is_year" uu ["thing"]
 be:aF K mg "layer_name" mx ↑"name letter"
 bf:aF K mg "layers_of" oi ["cuts"]
 bg:aF K mg "ties_of_cuts" jY ["cuts"]
 bh:aF K mg "ties_of_sayings" io ["sayings"]
 bi:aF K mg "bounds" xJ ["ground"]
 bj:aF K mg "years_said" my ↑"ground word"
 bm:aF K mg "sinces_beneath" iP ↑"sinces reach name"
 bn:aF K mg "bys_above" oj ↑"bys reach name"
 bo:aF K mg "is_one_or_later" ip ↑"reach upper lower"
 bp:aF K mg "clashing_pairs" iQ ["ground"]
 bq:aF K mg "clash" AU ["ground"]
 br:aF K mg "chain_or_nothing" gO ↑"ground one other"
 bt:aF K mg "_law_cell_at" kQ ↑"~script ~k"
 bu:aF K mg "_law_spread" mC ↑"~cell ~k"
 bv:aF K mg "_law_digits" mD ↑"~script ~k ~base ~many"
 bw:aF K mg "_law_letter" mE ↑"~rank ~way"
 bx:aF K mg "_law_cut" ux ↑"~digits_here ~way"
 bz:aF K mg "_law_ranks" om ↑"~name ~way ~rows"
 bA:aF K mg "_law_cuts" qx ↑"~script"
 bB:aF K mg "_law_tie" uy ↑"~one ~other ~ranks_here"
 bC:aF K mg "_law_said" qy ↑"~digits_here ~ranks_here ~torn ~wild"
 bD:aF K mg "_law_tower" ot ↑"~script"
 bE:aF K mg "_law_heap" qz ↑"~script"
 bF:aF K mg "_law_ground" mF ↑"~script"
 bG:aF K mg "_law_cut_ties" jZ ↑"~name ~text"
 bH:aF K mg "_law_ties" qA ↑"~cuts_here ~sayings"
 bI:aF K mg "_law_homes" ou ↑"~cuts_here ~sayings"
 bJ:aF K mg "_law_links" oy ↑"~cuts_here ~sayings ~homes_here"
 bK:aF K mg "_law_far" uz ↑"~laid ~one"
 bL:aF K mg "_law_beneath" kR ↑"~laid ~homes_here"
 bM:aF K mg "_law_has_ring" j3 ↑"~beneath_here"
 bN:aF K mg "_law_is_chain" j4 ↑"~found ~laid ~one ~other"
 bO:aF K mg "_law_is_torn" kS ↑"~refused ~laid ~beneath_here"
 bP:aF K mg "_law_due" uA ↑"~sayings ~homes_here ~beneath_here"
 bQ:aF K mg "_law_told" qB ↑"~ground_here"
 bR:aF K mg "_law_right" oz ↑"~told_here ~due_here"
 bS:aF K mg "_law_all_torn" j7 ↑"~ground_here ~laid ~beneath_here"
section
variable{P:nX}{w:wh}{K:ZA}{mg:ZC}{base:yc}
def cV{n:iv}(h:n<=5000):n<=lX:=nI h (!1)
def aC{n:iv}(h:n<=5000):n<lX:=RY h (!1)
def ai.Qa{H:Hp}{p:kw}{o:HO}(h:H p=hH):ai H (Qa H p o):=λb u e=>by rw[aq (aw e h)];show e
def ai.set{H a:Hp}{p:kw}{o:HO}(c:ai H a)(h:H p=hH):ai H (_LL.Qa a p o):=λb u e=>by rw[aq (aw e h)];show c b u e
def Mt{b:Type}(xs:gN b){i:on}(d:0<=i)(e:i<(~~~xs:on)):∃c,atI xs i∣c/\c∈xs:=by
 let%[j|rfl]:=Xh d;let a:j< ~~~xs:=by lia
 show%[xs[j],cj (by simp[a])|Yc a]
def mI(xs:ZM){i:on}(b:0<=i)(d:i<(~~~xs:on)):∃c,atI (xs\4) i∣V.int c/\c∈xs:=by
 let%[j|rfl]:=Xh b;let a:j< ~~~xs:=by lia
 show%[xs[j],cj (by simp[a])|Yc a]
def II:(ja.cps.toList.length:on)=26:=!0
def dv(T:Txt K mg):↥1 "_law_cell_at" ↑"~script ~k" (qD K):=by
 .exists T.bt,qw,g,m,%[a,c,k,rfl,d,i|q];show%[_,%["KCOM~S1ghA0BEIN01PEID"|0]|?_]
  change aV _ _ _ [!a,hV (.int k)] H;lk;show%[_,.inl %[_,d|ρ]|bv (λb=>?_) λb=>?_]
  .let b:=Zo b;rw[Z6]at b;show%[_,d,.int (c.getD k.toNat 0),?_|q];let%[j|rfl]:=Xh i;let l:j< ~~~c:=by lia
   show cj (by simp[l])
  .let b: ¬ k<(~~~(c\4):on):=↑b
   rw[Z6]at b;let e:c.getD k.toNat 0=0:=by
    rw[Zc,Xk ⋯];rfl
   rw[e]at q;show q
def v4(T:Txt K mg):↥1 "_law_spread" ↑"~cell ~k" uB:=by
 .exists T.bu,du,j,B,%[c,k,rfl,C,G|q];show%[_,%["KCF2GbGbGW0DG$D1DCF3DCR&ADBJ4CF2GWGbGbGbGbG$22G$GbG$G$444D2G$D14DDEF3GbG$3DGWG:2DDEI3"|du.nd]|?_]
  change aV _ _ _ [hV (.int c),hV (.int k),hH,hH,hH] H;show am λI k1 _=>?_
  lk;show%[!1,.inl %[!1|!1]|k1 _ _ (am λJ k2 _=>?_)];let d:0<=c%2147483647+977*k+5/\c%2147483647+977*k+5<2^40:=by lia -verbose
  generalize c%2147483647+977*k+5=n at d
  lk;show k2 _ _ (am λL l _=>az λe p=>?_);lk;show%[!1,!1|p _ _ (cz (λi a b=>∃(n v:on) (o:lx V),a=[hV (.int c),hV (.int k),hV (.int n),hV (.int v),o]/\b=H/\0<=n/\n<2^40) %[_,_,_,ρ,ρ|d] ?_ ?_)]
  .intro i a b hi %[n,v,o,rfl,rfl,r|n1];change aV _ _ _ [hV (.int c),hV (.int k),hV (.int n),hV (.int v),hV (.int (0+i))] _;rw[O9];show am λM u _=>?_
   lk;show%[.inl %[(by lia -verbose)|(by lia -verbose)],.inl %[(by lia -verbose)|(by lia -verbose)],.inr %[(by lia -verbose)|(by lia -verbose)],.inr %[(by lia -verbose)|(by lia -verbose)],.inl %[!1|!1],!1|u _ _ (aA λN y _=>?_)];let g:=Oi (n*n+(i*i*i+7)*n+104729*k+i+1) (by decide:(2147483629:on)≠0);let z:=Qe (n*n+(i*i*i+7)*n+104729*k+i+1) (by decide:(0:on)<2147483629)
   generalize (n*n+((i:on)*i*i+7)*n+104729*k+i+1)%2147483629=m at g z
   lk;show%[.inr %[!1|!1],%[!1|!1],!1|y _ _ %[m,_,_,ρ,ρ,g|(by lia -verbose)]]
  .intro a b %[n,v,o,rfl,rfl,r|n1];show l _ _ ?_;lk;show q v
def c9(T:Txt K mg):↥2 "_law_digits" ↑"~script ~k ~base ~many" (uC K):=by
 .exists T.bv,b8,U,u,%[a,n,k,b,m,rfl,I,J,k1,b2,b1,m0,m1|q];show%[_,%["KCF4H[A0A1BCF5H]SA4A1BCOMpGWH[A0ADBDDEF4DPCF6QBCR&A3BJ7EOM~A4DCYni6AGW42BEF4G:42CYni6AGW52BEF5G:52EI6",b8.nd|u]|?_]
  change aV _ _ _ [!a,hV (.int k),hV (.int b),hV (.int m),hH,hH,hH,hH] H;show am λD1 k1 _=>?_
  lk;show%[a,n,k,ρ,I,J|k1 _ _ (am λD2 k2 _=>?_)]
  generalize n.getD k.toNat 0=c
  lk;show%[_,_,ρ,J,⋯|λv=>k2 _ _ (am λY k3 _=>?_)];lk;show%[a,n,0,ρ,I,!1,!1|?_]
  suffices L:∀M:on,Y.nx [!a,hV (.int k),hV (.int b),hV (.int m),hV (.int M),hV (.int v),hH,hH] H from bv (λ_=>L 0) λ_=>L c
  intro M;show k3 _ _ (am λD4 k4 _=>?_);lk;show%[Xe _|λl z=>k4 _ _ (am λD5 k5 _=>az λN hK=>?_)];lk;show%[⋯,⋯|hK _ _ (cz (λi B j=>∃(c v:on) (o:lx V) (xs:ZM),B=[!a,hV (.int k),hV (.int b),hV (.int m),hV (.int c),hV (.int v),!l,o]/\ai H j/\j l<*xs\4/\ ~~~xs=i/\∀x∈xs,0<=x/\x<b) %[_,_,_,[],ρ,ai.Qa z,aa,ρ|λ_ h=>nomatch h] ?_ ?_)]
  .intro i B j hi %[c,v,o,xs,rfl,C,e,r|g];let put:∀v:on,ai H (Qa j l (.lst (xs\4++[.int (v%b)])))/\∃d:ZM,Qa j l (.lst (xs\4++[.int (v%b)])) l<*d\4/\ ~~~d=i+1/\∀x∈d,0<=x/\x<b:=λv=>
    %[ai.set C z,xs++[v%b],by rw[aa,Zd];rfl,by rw[Z9,r];rfl|λy hy=>by
     rcases Xm hy with q|q
     .show g y q
     .rw[Xn q];show%[Oi _ ⋯|Qe _ ⋯]]
   let len: ~~~(xs\4)<lX:=by rw[Z6,r];show aC ⋯
   change lJ _ _ _ _ [!a,hV (.int k),hV (.int b),hV (.int m),hV (.int c),hV (.int v),!l,hV (.int (0+i))] j;show aA λD6 O _=>?_
   lk;show bv (λ_=>?_) λ_=>?_
   .let%[G,d|p]:=put c;show%[tyL (Qb.of e),⋯,_,e,len,%[⋯|⋯]|O _ _ %[_,_,_,d,ρ,G|p]]
   .let%[G,d|p]:=put v;show%[tyL (Qb.of e),⋯,_,e,len,%[⋯|⋯]|O _ _ %[_,_,_,d,ρ,G|p]]
  .intro B j %[c,v,o,xs,rfl,C,e,r|g];show k5 _ _ ?_;lk;show q l j xs C z e r g
abbrev sk(rows:ZB):Prop:=∃m:gN _,~~~m<=60/\∀a b,zQ rows a b->[sgn a,sgn b]∈m
abbrev mlt(w:on):on:=if w%4=0 then 1 else if w%4=1 then 25 else if w%4=2 then 7 else 5
abbrev ltr(r w:on):iv:=97+((r*mlt w+w)%26).toNat
def AV(r w:on):gx (ltr r w)=hX:=by
 let all:∀i:Fin 26,gx (97+i.1)=hX:=!0
 show all %[((r*mlt w+w)%26).toNat|⋯]
def lA(r w:on):ltr r w≠46:=by unfold ltr;lia
abbrev HN(w:on)(hi:iv)(c:gN iv):Prop:= ~~~c=hi/\∃a:iv,∀(k x:iv),c[k]?∣x->(k<a->x=46)/\(a<=k->∃r:on,0<=r/\r<16/\x=ltr r w)
abbrev qF(a:gN (gN iv))(k:iv):kG:=⟨(a.map λc=>c.getD k 46).toArray⟩
abbrev bL(a:gN (gN iv))(hi:iv):ZB:=(p0 hi).map (qF a)
def fW{a:gN (gN iv)}{hi k:iv}{z:kG}(h:(bL a hi)[k]?∣z):k<hi/\z=qF a k:=by
 unfold bL at h;rw[Zl]at h;by_cases b:k<hi
 .rw[RR b]at h;show%[b|(Za h).symm]
 simp_all
def mJ{a:gN (gN iv)}{k j c:iv}(h:(qF a k).cps[j]?∣c):∃b,a[j]?∣b/\c=b.getD k 46:=by
 let h:(a.map λc=>c.getD k 46)[j]?∣c:=by simpa [qF]using h
 rw[Zl]at h;cases e:a[j]? with
 | none=>simp_all
 | some b=>rw[e]at h;show%[b,ρ|(Za h).symm]
def mK{a:gN iv}{hi k:iv}(b: ~~~a=hi)(c:k<hi):a[k]?∣a.getD k 46:=!2
structure iw (w:on) (cols:gN (gN iv)) (hi:iv):Prop where
 h1:1<=hi
 h5:hi<=5
 w1:1<= ~~~cols
 w4: ~~~cols<=4
 ok:∀c∈cols,HN w hi c
 fst:∃col,cols[0]?∣col/\∃r:on,0<=r/\r<16/\col[hi-1]?∣ltr r w
section
variable{w:on}{cols:gN (gN iv)}{hi:iv}
def iw.let_(d:iw w cols hi){k j c:iv}(e:k<hi)(h:(qF cols k).cps[j]?∣c):c=46\/∃r:on,0<=r/\r<16/\c=ltr r w:=by
 let%[a,f|rfl]:=mJ h;let%[g,b|i]:=d.ok a (Z8 f);let:=i k _ (mK g e);by_cases c:k<b
 .show .inl (this.1 c)
 .show .inr (this.2 ⋯)
def iw.cut(d:iw w cols hi):cX (bL cols hi):=by
 let len: ~~~(bL cols hi)=hi:=by unfold bL;rw[Z6,Yi]
 let b:∀z∈bL cols hi,∃k,k<hi/\z=qF cols k:=λz f=>by
  let%[k|e]:=Xf f;show%[k|fW e]
 let C:=d.h1;let E:=d.h5;let G:=d.w4;show%[⋯,⋯,%[~~~cols,d.w1,⋯|λz f=>?_],λz f=>?_,λi r H s u j c I v y m=>?_|?_]
 .let%[k,_|rfl]:=b z f;simp[qF]
 .let%[k,h|rfl]:=b z f;rw[N7];intro c n;let%[j|A]:=Xf n;rcases d.let_ h (j:=j) ↑A with rfl|⟨r,_,_,rfl⟩
  .decide +kernel
  .unfold okc;rw[AV,Sb]
 .let%[hi1|rfl]:=fW s;let%[hi2|rfl]:=fW u;let%[a,l|rfl]:=mJ v;let%[p,g|rfl]:=mJ y;rw[l]at g;cases g;let%[q,o|h]:=d.ok a (Z8 l);by_cases B:i+1<o
  .show(h i _ (mK q hi1)).1 ⋯
  .let%[r,_,_|e]:=(h _ _ (mK q hi2)).2 ⋯;show n0 (e.symm.trans m) (lA r w)
 .let%[a,l,r,_,_|e]:=d.fst;show%[qF cols (hi-1),Xp %[hi-1,by rw[zp];lia|ρ],ltr r w,Xp %[a,Z8 l|?_]|lA r w];rw[Zc,e];rfl
def iw.few(d:iw w cols hi):sk (bL cols hi):=by
 show%[(p0 4).flatMap λi=>(p0 4).map λj=>[sgn ((cols.getD j []).getD i 46),sgn ((cols.getD j []).getD (i+1) 46)],by simp[gN.length_flatMap,PL]|?_];intro a b %[_,_,i,j,r,p,g,h,m|n];let%[hi1|rfl]:=fW g;let%[hi2|rfl]:=fW h;let%[o,e|rfl]:=mJ m;let%[f,c|rfl]:=mJ n;rw[e]at c;cases c;let q:=d.h5;let s:=d.w4;let:=(Xl e).1;show M5.mpr %[i,zp.mpr ⋯|Xp %[j,zp.mpr ⋯|?_]];rw[Zc (l:=cols),e];rfl
def iw.lets(d:iw w cols hi){c:iv}(h:Let (bL cols hi) c):∃r:on,0<=r/\r<16/\c=ltr r w:=by
 let%[a,r,f|b]:=h;let%[k|e]:=Xf f;let%[g|rfl]:=fW e;let%[j|i]:=Xf b;show(d.let_ g (j:=j) ↑i).resolve_left a
def iw.ex(d:iw w cols hi):∃r:on,0<=r/\r<16/\Let (bL cols hi) (ltr r w):=by
 let%[r,b,c,e|ne]:=d.cut.some';let l:Let (bL cols hi) c:=%[ne,r,b|e]
 let%[a,f,g|rfl]:=d.lets l;show%[a,f,g|l]
end
inductive uD
 | mk (r w:on):vs=[.int r,.int w]->0<=r->r<=100->0<=w->w<=110->(∀H',ai H H'->Q (.str (sgn (ltr r w))) H')->uD vs H Q E0
def Fz{i:on}(a:0<=i)(c:i<26):atI ja.cps.toList i∣(97+i.toNat):=by
 let%[j|rfl]:=Xh a;let b:j<26:=by lia
 let all:∀j:Fin 26,ja.cps.toList[j.1]?∣(97+j.1):=!0
 show cj (all %[j|b])
def jm(T:Txt K mg):↥1 "_law_letter" ↑"~rank ~way" uD:=by
 .exists T.bw,sF,b,g,%[r,w,rfl,i,j,l,m|c];show%[_,%["KEI~BVGWGbG$0NQADADADADBGW1D1D"|0]|?_];change iY _ _ [hV (.int r),hV (.int w)] H;lk;show%[#[4]|λp d=>%[!1,_,Qb.of aa,.int (mlt w),?_,.inr ?_,!1,#[26],_,Fz ⋯ ⋯|c _ (ai.Qa d)]]
  all_goals
   unfold mlt;rcases(show w%4=0\/w%4=1\/w%4=2\/w%4=3 by lia)with e|e|e|e<;> rw[e]<;> first|rfl|decide
inductive FA (K:ZA)
 | mk (a:kw) (xs:ZM) (w:on):vs=[.ref a,.int w]->Qb K H a (xs\4)-> ~~~xs=30->(∀x∈xs,0<=x/\x<6)->0<=w->w<=110->(∀l H' (cols:gN (gN iv)) (hi:iv),ai H H'->H l=hH->H' l<*(bL cols hi)\3->iw w cols hi->Q (.ref l) H')->FA K vs H Q E0
abbrev Mu(H:Hp)(cs:gN (kw×gN iv)):Prop:=∀p∈cs,H p.1∣.lst (p.2.map λx=>V.str (sgn x))
def HN.put{w:on}{a i:iv}{c:gN iv}(h:∀(k x:iv),c[k]?∣x->(k<a->x=46)/\(a<=k->∃r:on,0<=r/\r<16/\x=ltr r w))(g: ~~~c=i)(j:a<=i){r:on}(b:0<=r)(d:r<16)(k x:iv)(e:(c++[ltr r w])[k]?∣x):(k<a->x=46)/\(a<=k->∃r:on,0<=r/\r<16/\x=ltr r w):=by
 by_cases f:k< ~~~c
 .rw[Y9 f]at e;show h k x e
 .let:k= ~~~c:=by
   let:=(Xl e).1;simp at this
   lia
  subst this;rw[Ya ⋯,Q7]at e;cases e;show%[λz=>by lia|λ_=>%[r,b,d|ρ]]
def AW:∀n:iv,(I0 n [V.str (!".")]).flatten=(I0 n 46).map λx=>V.str (sgn x)
 | 0=>rfl
 | n+1=>by rw[RO,Vl,AW n,RO,Yp];rfl
def CH(T:Txt K mg):↥2 "_law_cut" ↑"~digits_here ~way" (FA K):=by
 .exists T.bx,cN,ba,hr,%[a,xs,w,rfl,hs,hx,hb,w0,w1|kk];let get:∀i:on,0<=i->i<30->∃c,atI (xs\4) i∣V.int c/\0<=c/\c<6:=λi h0 h1=>by
   let%[c,e|hm]:=mI xs h0 (by lia -verbose);show%[c,e|hb c hm]
  let%[c0,g0,l0|u0]:=get 0 (!1) (!1);let%[c1,g1,l1|u1]:=get 1 (!1) (!1);show%[_,%["KCF2GbDGWN0DDCF3GbDGWN0DDC;4tuQBCR&A2BJ5CF6GWN0GbD5Gb3~F~GAo~A5DBCF7GWN0GbD5DCF8G]TQAVB6CR~hA6A3BJ9CYni8AH~iA7A1BBEF7Gb7GWN0GbGbDG$D59DEYniT4A8BEIkd?1&A3B]U0?2tu%~T~UVAkd?3UT1Z0?4%N0T1B",cN.nd,↑(↑"~k ~columns",[(1,4)]),↑["_law_k","_law_columns"],↑(↑"~column ~k",[(1,0)]),↑["_law_column","_law_k"]|hr]|?_]
  change aV _ _ _ [!a,hV (.int w),hH,hH,hH,hH,hH,hH,hH,hH] H;show am λD1 k1 _=>?_
  lk;show%[_,hs,_,g0,!1|k1 _ _ (am λD2 k2 _=>?_)];lk;show%[_,hs,_,g1,!1|k2 _ _ (am λD3 k3 _=>?_)];obtain⟨O,ew,bb,bc⟩:∃O:iv,1+c0%4=O/\1<=O/\O<=4:=%[(1+c0%4).toNat,(by lia -verbose),(by lia -verbose)|(by lia -verbose)]
  obtain⟨hi,eh,hi1,a5⟩:∃hi:iv,1+c1%5=hi/\1<=hi/\hi<=5:=%[(1+c1%5).toNat,(by lia -verbose),(by lia -verbose)|(by lia -verbose)]
  rw[ew,eh];clear ew eh;lk;show%[Xe _|λL hL=>k3 _ _ (am λD4 k4 _=>az λy hK=>?_)];lk;show%[(by lia -verbose),(by lia -verbose)|hK _ _ (cz (λi g l=>E6 λ(o5 o6 o7 o8 o9:lx V) (cs:gN (kw×gN iv))=>A7 (g=[!a,hV (.int w),hV (.int O),hV (.int hi),!L,o5,o6,o7,o8,o9]) (ai H l) (l L∣.lst (cs\0)) (~~~cs=i) (Mu l cs) (∀p∈cs,p.1≠L/\HN w hi p.2) (∀p:kw×gN iv,cs[0]?∣p->∃r:on,0<=r/\r<16/\p.2[hi-1]?∣ltr r w))
   %[_,_,_,_,_,[],ρ,ai.Qa hL,aa,ρ,(λ_ h=>nomatch h),(λ_ h=>nomatch h)|λ_ h=>nomatch h] ?_ ?_)]
  .intro j g l u %[o5,o6,o7,o8,o9,cs,rfl,sm,B,ac,ae,I|ag];change aV _ _ _ [!a,hV (.int w),hV (.int O),hV (.int hi),!L,hV (.int (0+j)),o6,o7,o8,o9] l;rw[O9];let%[c2,g2,l2|u2]:=get (2+j) (by lia -verbose) (by lia -verbose);let%[c6,g6,l6|u6]:=get (6+j) (by lia -verbose) (by lia -verbose);show am λD5 k5 _=>?_
   lk;obtain⟨u,ej,be,bf⟩:∃u:iv,(hi+if decide (0<(j:on))=hX then 1 else 0:on)=u/\(j=0->u=hi)/\hi<=u:=by
    by_cases c:0<(j:on)
    .show%[hi+1,by rw[lp (Zf c)];rfl,λe=>by lia -verbose|(by lia -verbose)]
    .show%[hi,by rw[ku ↑c];simp,λ_=>rfl|Zi _]
   let bl:u<=hi+1:=by split at ej<;> lia -verbose
   rw[ej];clear ej;show%[_,sm.seq hs,_,g2,(by lia -verbose)|k5 _ _ (am λD6 k6 _=>?_)];obtain⟨d,ea,al⟩:∃d:iv,c2%(u:on)=d/\d<u:=%[(c2%(u:on)).toNat,by let:=Oi c2 (b:=u) (by lia -verbose);lia -verbose|by let:=Qe c2 (b:=u) (by lia -verbose);let:=Oi c2 (b:=u) (by lia -verbose);lia -verbose]
   rw[ea];clear ea;lk;show%[_,sm.seq hs,_,g6,!1|k6 _ _ (am λD7 k7 _=>?_)];lk;show%[#[1]|λp hp=> .inr %[_,aa,(by lia -verbose),(by lia -verbose),by rw[Yj];show Ye (aC (by lia -verbose))|λC hC=>k7 _ _ (am λD8 k8 _=>az λy hK=>?_)]];let s1:=(ai.Qa (o:= .lst [V.str (!".")]) hp).trans (ai.Qa (o:= .lst (I0 (d:on).toNat [V.str (!".")]).flatten) hC);let fC:=(ai.Qa (o:= .lst [V.str (!".")]) hp).free hC;let as:Qa (Qa l p (.lst [V.str (!".")])) C (.lst (I0 (d:on).toNat [V.str (!".")]).flatten) C∣.lst ((I0 d 46).map λx=>V.str (sgn x)):=by
    rw[aa,Pa,AW]
   generalize Qa (Qa l p (.lst [V.str (!".")])) C _=H1 at s1 as
   let a0:C≠L:=λe=>by rw[e,B]at fC;cases fC
   lk;show%[(by lia -verbose),(by lia -verbose),(by lia -verbose),(by lia -verbose)|hK _ _ (cz (λi g M=>E3 λ(r:on) (o9:lx V) (c:gN iv)=>A7 (g=[!a,hV (.int w),hV (.int O),hV (.int hi),!L,hV (.int j),hV (.int d),hV (.int r),!C,o9]) (ai l M) (M C∣.lst (c.map λx=>V.str (sgn x))) (~~~c=d+i) (0<=r) (r<=3+2*i) (∀(k x:iv),c[k]?∣x->(k<d->x=46)/\(d<=k->∃r:on,0<=r/\r<16/\x=ltr r w)))
    %[_,_,_,ρ,s1,as,by simp,(by lia -verbose),(by lia -verbose)|λk x e=>?_] ?_ ?_)]
   .let:=TQ (a:=46) (n:=d) (i:=k);rw[e]at this
    split at this
    .cases this;show%[λ_=>rfl|λz=>by lia -verbose]
    .cases this
   .intro i g M hi2 %[r,o9,c,rfl,v,U,cl,r0,r1|Y];change aV _ _ _ [!a,hV (.int w),hV (.int O),hV (.int hi),!L,hV (.int j),hV (.int d),hV (.int r),!C,hV (.int (d+i))] M;show am λD9 k9 _=>?_
    lk;let%[cd,gd,ld|ud]:=get (10+5*j+(d+i)) (by lia -verbose) (by lia -verbose);show%[tyL (Qb.of U),r,w,ρ,r0,(by lia -verbose),w0,w1|λH3 s3=>%[_,s3 _ _ U,by rw[Z6,cl];show aC (by lia -verbose)|k9 _ _ (aA λbm a6 _=>?_)]];let m:ai l (Qa H3 C (.lst ((c.map λx=>V.str (sgn x)) ++[V.str (sgn (ltr r w))]))):=ai.set (v.trans s3) fC;lk;show%[.inl %[!1|!1],_,(sm.trans m).seq hs,_,gd,!1|a6 _ _ %[_,_,c++[ltr r w],ρ,m,by rw[aa,Zd];rfl,by rw[Z9,cl];rfl,(by lia -verbose),(by lia -verbose)|HN.put Y cl (by lia -verbose) r0 (by lia -verbose)]]
   .intro g M %[r,o9,c,rfl,v,U,cl,r0,r1|Y];show k8 _ _ (aA λD9 k9 _=>?_);lk;let bn: ~~~c=max d hi:=by lia -verbose
    show%[tyL (Qb.of (v _ _ B)),_,v _ _ B,by rw[Z6,ac];show aC (by lia -verbose)|k9 _ _ %[_,_,_,_,_,cs++[(C,c)],ρ,ai.set (sm.trans v) hL,by rw[aa,Zd];rfl,by rw[Z9,ac];rfl,λq N=>?_,λq N=>?_|λq N=>?_]]
    .rcases Xm N with z|z
     .rw[aq (I q z).1];show v _ _ (ae q z)
     .rw[Xn z,aq a0];show U
    .rcases Xm N with z|z
     .show I q z
     .rw[Xn z];show%[a0,by change ~~~c=hi;lia -verbose,d|Y]
    .by_cases j0:j=0
     .obtain rfl:cs=[]:=yu.mp (by lia -verbose);cases N;let:=Y (hi-1) (c[hi-1]'(by lia -verbose)) (Z4 (by lia -verbose));let%[r,a,b|e]:=this.2 (by lia -verbose);show%[r,a,b|by rw[Z4 (by lia -verbose:hi-1< ~~~c),e]]
     .rw[Y9 (by lia -verbose)]at N;show ag q N
  .intro g l %[o5,o6,o7,o8,o9,cs,rfl,sm,B,ac,ae,I|ag];show k4 _ _ ?_;lk;show aI λy hK=>?_
   lk;let a1: ~~~cs=O:=by lia -verbose
   show%[(by lia -verbose),(by lia -verbose)|hK _ _ λF hF=>?_];show dS (J:=Itr 0 hi) (n:=hi) (D:=F) (λq ts g M=>A4 (∃o,g=[o,!L]) (ai l M) (M F<*ts) (ts=((p0 q).map (qF (cs\2)))\3))
    %[%[hH|rfl],ai.Qa hF,aa|rfl] (λq _ _ l N _=>N) (λ_ _ l _=>Zi _) ?_ ?_
   .intro q ts g M N %[%[o|rfl],v,ah|ht] x H3 %[e2|e3];subst e2 e3;lk;show aI λy hK=>?_
    lk;let ab:=v _ _ B;show%[%[_|Qb.of ab]|hK _ _ λG hG=>?_];show dS (J:=Itl K L) (n:=O) (D:=G) (λr zs g H4=>A4 (∃o,g=[o,hV (.int q)]) (ai H3 H4) (H4 G<*zs) (zs=(((cs.take r).map λp=>p.2.getD q 46).map sgn)\3))
     %[%[hH|rfl],ai.Qa hG,aa|rfl]
     (λr _ _ H4 a2 %[_,m,_|_]=>%[_,V.ref (cs[r]'(by lia -verbose)).1,Qb.of (m _ _ ab)|by simp[show r< ~~~cs by lia -verbose]]) (λ_ _ H4 %[_,m,_|_]=>%[_,Qb.of (m _ _ ab)|by simp[a1]]) ?_ ?_
    .intro r zs g H4 a2 %[%[o|rfl],m,ak|hz] x H5 %[e2|hx];subst e2;let an:r< ~~~cs:=by lia -verbose
     let a3:=hx _ (Qb.of (m _ _ ab));rw[Zl,Z4 an]at a3;obtain rfl:x=V.ref cs[r].1:=(Za a3).symm;let hm:=Yc an;lk;show%[_,Qb.of (m _ _ (v _ _ (ae _ hm))),V.str (sgn (cs[r].2.getD q 46)),?_|CK.mk a2 ak (by rw[hz,Z6,Z6,Z6,Yk];show aC (by lia -verbose)) %[%[_|ρ],ai.set m hG,aa|?_]]
     .show cj ?_;rw[Zl,mK (I _ hm).2.1 (by lia -verbose)];rfl
     .rw[hz,X9,Zd,Zd,Zd,Z4 an];rfl
    intro zs g H4 %[_,m,ak|hz];rw[Zn (by lia -verbose)]at hz;lk;show%[(cs.map λp=>p.2.getD q 46).map sgn,by rw[<-hz];show Qb.of ak,?_|CK.mk N (m _ _ ah) (by rw[ht,Z6,Z6,Yi];show aC (by lia -verbose)) %[%[_|ρ],ai.set (v.trans m) hF,aa|?_]]
    .rw[Ax,Z6,Z6,show(!"").length=0 from rfl]
     lia -verbose
    .rw[ht,PL,Zd,Zd,show Txt.join (!"") ((cs.map λp=>p.2.getD q 46).map sgn)=vk (!"") ((cs.map λp=>p.2.getD q 46).map sgn)from OV _ _,zo];let e:qF (cs\2) q=⟨(cs.map λp=>p.2.getD q 46).toArray⟩:=by
      unfold qF;rw[Yq];rfl
     rw[<-e];rfl
   .intro ts g M %[_,v,ah|ht];let a4:0< ~~~cs:=by lia -verbose
    show kk F M (cs\2) hi (sm.trans v) (sm.free hF) (by rw[ah,ht];rfl) %[hi1,a5,by rw[Z6];lia -verbose,by rw[Z6];lia -verbose,λc hc=>?_,cs[0].2,by rw[Zl,Z4 a4];rfl|ag _ (Z4 a4)];let%[p,hp|rfl]:=Xo hc;show(I p hp).2
inductive uE
 | mk (z:kG):vs=[.str z]-> ~~~z<=1000->(∀H',ai H H'->Q (.bl (vz z)) H')->uE vs H Q E0
inductive qG
 | mk (row above:kG):vs=[.str row,.str above]-> ~~~row<=1000-> ~~~above<=1000->(∀H',ai H H'->Q (.bl (gA row above)) H')->qG vs H Q E0
inductive kT (K:ZA)
 | mk (a:kw) (rows:ZB):vs=[.ref a]->Qb K H a (rows\3)->(rows.map (·.length)).sum<=3000->(∀r∈rows,r.cps.toList.all okc=hX)->(∀l H' (ss:ZB),ai H H'->H l=hH->H' l<*ss\3->ss.Perm (a7 ((c7 rows).map sgn))->Q (.ref l) H')->kT K vs H Q E0
inductive qH
 | mk (rows:ZB):vs=[.str (vk nl rows)]->cX rows->(∀l H',ai H H'->H l=hH->H' l<*rows\3->Q (.ref l) H')->qH vs H Q E0
def kr(z:kG)(i:iv)(c:iv)(h:z.cps[i]?∣c):(z.cps.toList.take i++[c])=z.cps.toList.take (i+1):=by
 let h':z.cps.toList[i]?∣c:=↑h
 let%[a|e]:=Xl h';rw[OX a,e]
def FB(c d:iv):((⟨([c].toArray)⟩:kG)=⟨([d].toArray)⟩)↔c=d:=by
 constructor
 .intro h;let:(([c].toArray):ow iv)= ([d].toArray):=by injection h
  simpa using this
 .intro h;rw[h]
def qI(c:iv):((⟨([c].toArray)⟩:kG)=!".")↔c=46:=FB c 46
def FC(T:Txt K mg):↥1 "is_row" ["row"] uE:=by
 .exists T.b1,CF,y,N,%[z,rfl,O|k];show%[_,%["KEI'~j~C~CDghA0B]V(~k~lAkd?1~m0Z0?2%~no~V0~H(o~*0~+B",0,↑(["sign"],[])|↑["sign"]]|?_];change iY _ _ [-z] H;lk;show%[cV ⋯|bv (λm=>bv (λp=>?_) λp=>?_) λm=>?_]
  .show aI λu B=>?_
   lk;show B _ _ λD v=>?_
   show dS (J:=Its z) (n:=z.cps.size) (D:=D) (λi ys d a=>A4 (∃o,d=[o]) (ai H a) (a D<*ys) (ys=(z.cps.toList.take i).map (λc=>V.bl (okc c)))) %[%[hH|rfl],ai.Qa v,aa|rfl]
    (λi _ _ _ hi _=>hi) (λ_ _ _ _=>Zi _) ?_ ?_
   .intro i ys d a hi %[%[o|rfl],q,r|g] x C %[G,c,I|rfl];subst G;let j: ~~~ys=i:=by
     rw[g,Z6,Yk];let: ~~~z.cps.toList=z.cps.size:=by simp
     lia
    let L:i<1000:=by
     let: ~~~z=z.cps.size:=rfl
     lia
    let put:∀b:re,b=okc c->CK D z.cps.size i (λi ys d a=>A4 (∃o,d=[o]) (ai H a) (a D<*ys) (ys=(z.cps.toList.take i).map (λc=>V.bl (okc c)))) ys [hV (.str ⟨([c].toArray)⟩)] (.bl b) C:=λb M=>
     CK.mk hi r (by rw[j];show aC ⋯) %[%[_|rfl],ai.set q v,aa|by rw[M,g,<-kr z i c I,Zd];rfl]
    lk;show bv (λl=>put hX ?_) λl=>put _ ?_
    .let:=(qI c).mp (Zo l);unfold okc;rw[Zf this,T2]
    .let l: ¬ (⟨([c].toArray)⟩:kG)=oT ".":=λe=>l (Zf e)
     let: ¬ c=46:=λe=>l ((qI c).mpr e)
     unfold okc;rw[Zh this,TH,vf];rfl
   .intro ys d a %[_,q,r|g];lk;show%[z.cps.toList.map okc,?_|?_]
    .let e:z.cps.toList.take z.cps.size=z.cps.toList:=by
      apply Zn;simp
     rw[e]at g;let:(z.cps.toList.map okc).map V.bl=ys:=by rw[g,Yq];rfl
     rw[this];show Qb.of r
    .let e:vz z=(z.cps.toList.map okc).all id:=by
      unfold vz;rw[m,p,WU]
      all_goals rfl
     rw[<-e];show k a q
  .rw[Sn]at p;let e:vz z=hY:=by unfold vz;rw[p,NC,O2]
   rw[e]at k;show k H (ai.refl H)
  .rw[Sn]at m;let e:vz z=hY:=by unfold vz;rw[m,O2,O2]
   rw[e]at k;show k H (ai.refl H)
abbrev oA(p:iv×iv):re:=!decide (p.2=46)||decide (p.1=46)
def qJ(x y:kG)(i c d:iv)(b:x.cps[i]?∣c)(f:y.cps[i]?∣d):((NS x.cps.toList y.cps.toList).take i++[(c,d)])=(NS x.cps.toList y.cps.toList).take (i+1):=by
 let h:(NS x.cps.toList y.cps.toList)[i]?∣(c,d):=Qf.mpr %[↑b|↑f];let%[a|e]:=Xl h;rw[OX a,e]
def qK(T:Txt K mg):↥1 "lies_beneath" ↑"row above" qG:=by
 .exists T.b2,oK,I,hr,%[row,a,rfl,L,M|k];show%[_,%["KCOM~,ghA0BghA1BEIjPEI~k~lAkd?1~.A1A0BlLZ0?2LZ1?2e%~no~D1~H(o)0~HB",0,↑(↑"high low",[])|↑["high","low"]]|?_]
  change aV _ _ _ [-row,-a] H;show am λD1 k1 N=>?_
  lk;show%[cV ⋯,cV ⋯|bv (λj=>?_) λj=>?_]
  .let j: ¬ ((~~~row:on)= ~~~a):=↑j
   let e:gA row a=hY:=by
    unfold gA;rw[Zh ⋯,O2]
   rw[e]at k;show N _ _ (k H (ai.refl H))
  .let j: ~~~row= ~~~a:=by
    let:(~~~row:on)= ~~~a:=↑j
    lia
   show k1 _ _ ?_;let u:row.cps.size=a.cps.size:=j;let v: ~~~(NS a.cps.toList row.cps.toList)=a.cps.size:=by rw[Ud];simp[u]
   lk;show aI λB O=>?_
   lk;show O _ _ λD C=>?_
   show dS (J:=Itz a row) (n:=a.cps.size) (D:=D) (λi ys l g=>A4 (E2 λq r=>l=[q,r]) (ai H g) (g D<*ys) (ys=((NS a.cps.toList row.cps.toList).take i).map (λp=>V.bl (oA p)))) %[%[hH,hH|rfl],ai.Qa C,aa|rfl]
    (λi _ _ _ hi _=>%[hi|⋯]) (λ_ _ _ _=>%[Zi _,⋯|.inl rfl]) ?_ ?_
   .intro i ys l g hi %[%[q,r|rfl],y,z|m] x H2 %[c,d,TT,U,Y,G,rfl|rfl];let o: ~~~ys=i:=by rw[m,Z6,Yk,v];lia
    let ab:i<1000:=by
     let: ~~~a=a.cps.size:=rfl
     lia
    let put:∀b:re,b=oA (c,d)->CK D a.cps.size i (λi ys l g=>A4 (E2 λq r=>l=[q,r]) (ai H g) (g D<*ys) (ys=((NS a.cps.toList row.cps.toList).take i).map (λp=>V.bl (oA p)))) ys [hV (.str ⟨([c].toArray)⟩),hV (.str ⟨([d].toArray)⟩)] (.bl b) (Qa g TT (.tup [.str ⟨([c].toArray)⟩,.str ⟨([d].toArray)⟩])):=λb eb=>
     CK.mk hi (ai.Qa G _ _ z) (o▸aC ⋯) %[%[_,_|rfl],ai.set (y.trans (ai.Qa G)) C,aa|by rw[eb,m,<-qJ a row i c d U Y,Zd];rfl]
    lk;show%[_,SqT.of aa,ρ,_,_,ρ,_,_,ρ,ρ,ρ|?_];simp only[V.str.injEq,qI];show bv (λh=>put hX ?_) λh=>%[⟨⟩|put _ ?_]
    .unfold oA;rw[h,T2]
    .unfold oA;rw[Sn]at h;rw[h,TH]
   .intro ys l g %[_,y,z|m];lk;show%[(NS a.cps.toList row.cps.toList).map oA,?_|?_]
    .let e:(NS a.cps.toList row.cps.toList).take a.cps.size=NS a.cps.toList row.cps.toList:=Zn ⋯;rw[e]at m;let:((NS a.cps.toList row.cps.toList).map oA).map V.bl=ys:=by rw[m,Yq];rfl
     rw[this];show Qb.of z
    .let e:gA row a=((NS a.cps.toList row.cps.toList).map oA).all id:=by
      unfold gA;rw[Zf j,WU,TF];rfl
     show e▸k g y
def CI(h:(rows.map (·.length)).sum<=3000):(vk (!"") rows).length<=3000:=by
 let:=Tk (!"") rows;rw[show(!"").length=0 from rfl]at this
 lia
def mL(T:Txt K mg):↥1 "letters_in" ["rows"] (kT K):=by
 .exists T.b3,sw,M,hr,%[a,rows,rfl,N,g,v|k];show%[_,%["KEI*~/A~I~oAkd?1~m~T~UVA0BZ0?2zM~D0~H0BB",0,↑(["sign"],[])|↑["sign"]]|?_];change iY _ _ [!a] H;lk;show aI λC O=>?_
  lk;show%[rows,N,by rw[show(!"").length=0 from rfl];lia|?_];rw[show Txt.join (!"") rows=vk (!"") rows from OV _ _];let j:=CI g;let b:=ki v;unfold c7 at b k
  generalize vk (!"") rows=z at j b k ⊢
  show O _ _ λD G=>?_
  show dS (J:=Its z) (n:=z.cps.size) (D:=D) (λi ys y m=>A4 (∃o,y=[o]) (ai H m) (m D<*ys) (ys=((z.cps.toList.take i).filter (λc=>decide (c≠46))).map (λc=>V.str (sgn c)))) %[%[hH|rfl],ai.Qa G,aa|rfl]
   (λi _ _ _ hi _=>hi) (λ_ _ _ _=>Zi _) ?_ ?_
  .intro i ys y m hi %[%[o|rfl],r,u|d] x H2 %[U,c,I|rfl];subst U;let L: ~~~ys<=i:=by
    rw[d,Z6];let:=Yh (λc=>decide (c≠46)) (z.cps.toList.take i);rw[Yk]at this
    lia
   let Y:i<3000:=by
    let: ~~~z=z.cps.size:=rfl
    lia
   lk;simp only[qI];show bv (λB=>?_) λB=>?_
   .show CK.mk hi u (aC ⋯) %[%[_|rfl],ai.set r G,aa|?_];rw[<-kr z i c I,Y2,Zd,d];let:decide (c≠46)=hX:=↑B
    rw[Y3,this];rfl
   .show CN.mk hi %[%[_|rfl],r,u|?_];rw[<-kr z i c I,Y2,Zd,d];let:decide (c≠46)=hY:=↑B
    rw[Y3,this];simp
  .intro ys y m %[_,r,u|d];let e:z.cps.toList.take z.cps.size=z.cps.toList:=by
    apply Zn;simp
   rw[e]at d;lk;let ab:=Yh (λc=>decide (c≠46)) z.cps.toList;let ac: ~~~z.cps.toList= ~~~z:=by simp[Ve]
   show%[(z.cps.toList.filter (λc=>decide (c≠46))).map sgn,?_,by rw[Z6];lia|λS hS=>%[_,aa,?_|λl ss p hp ae=>?_]]
   .rw[Yq];let:(z.cps.toList.filter (λc=>decide (c≠46))).map (V.str ∘ sgn)=ys:=by rw[d];rfl
    rw[this];show Qb.of u
   .let:=kY b
    lia
   .let q:ai H (Qa m S (oH w S (a7 ((z.cps.toList.filter (λc=>decide (c≠46))).map sgn)))):=r.trans (ai.Qa hS);show k l _ ss (q.trans (ai.Qa p)) (q.free p) aa hp
def nB(T:Txt K mg):↥2 "rows_of" ["text"] qH:=by
 .exists T.b0,jj,al,M,%[rows,rfl,a|k];let%[wd,w1,w2|hw]:=a.wide;let N:=a.text;let u:=a.split;show%[_,%["KCOmavyA0A?1BE+PCF1~:~;0AVBCR~JA1BlLJ2LJ3eCOfqMp2]WwmaH]XA3BE+PEOf,M~A2D.maH]YA3AN1G~K2DBE+PCOMpghAH~<A1BBDE+PEI1",jj.nd,(blE (v:= .ty "str") rfl T.ab VR rfl rfl rfl)|M]|?_]
  generalize vk nl rows=z at N u
  change aV _ _ _ [-z,hH,hH,hH] H;show am λD1 k1 _=>?_
  lk;show%[.type "str",.str z,hX,by rfl|m7 (k1 _ _ (am λD2 k2 _=>?_))];lk;show%[!1,nI (by lia: ~~~z+2<=5000) (!1)|λl hl=>k2 _ _ ?_];rw[show(!"\n")=nl from rfl,u];show am λD3 k3 _=>az λag hK=>?_
  lk;let O:ai H (Qa H l (.lst (rows\3))):=ai.Qa hl;show%[_,Qb.of aa|hK _ _ (jP (λi J g=>E2 λU Y=>A3 (J=[-z,!l,U,Y]) (ai H g) (g l<*rows\3)) %[hH,hH,ρ,O|aa] (λi J g _ %[_,_,_,_|q]=>Qb.of q) ?_ ?_)]
  .intro i x TT J g y %[U,Y,rfl,sm|j] hT;obtain⟨r,m,rfl⟩:∃r,rows[i]?∣r/\x=V.str r:=by
    rw[Zl]at y;cases e:rows[i]? with
    | none=>rw[e]at y;cases y
    | some r=>rw[e]at y;show%[r,ρ|(Za y).symm]
   let ah:i< ~~~rows:=(Xl m).1;let ak:=a.high;let B:ai H (Qa g TT (.tup [.int i,.str r])):=sm.trans (ai.Qa hT);let o:Qa g TT (.tup [.int i,.str r]) l<*rows\3:=ai.Qa hT _ _ j;let C:Qa g TT (.tup [.int i,.str r]) TT&&&[.int i,.str r]:=aa
   generalize Qa g TT _=HT at B o C
   let G: ~~~r<=1000:=by
    let: ~~~r=wd:=hw r (Z8 m)
    lia
   show%[_,SqT.of C,ρ,_,_,ρ,_,_,ρ,ρ|?_];change aV _ _ _ [-z,!l,hV (.int i),-r] HT;show am λD4 k4 _=>?_
   let go:∀p,ai HT p->D4.nx [-z,!l,hV (.int i),-r] p:=by
    intro p b;show k4 _ _ (aA λD5 k5 _=>?_);let fin:∀L,ai HT L->D5.nx [-z,!l,hV (.int i),-r] L:=λL n=>k5 _ _ %[_,_,rfl,B.trans n|n l _ o]
    lk;show bv (λI=>?_) λ_=>fin _ b
    let I:0<(i:on):=Zo I;obtain⟨d,rfl⟩:∃d,i=d+1:=%[i-1|⋯]
    let ab:d< ~~~rows:=by lia
    let ac:rows[d]?∣rows[d]:=by simp
    let e1:(((d+1:iv):on) -1)=(d:on):=by lia
    show%[_,Qb.of (b l _ o),.str rows[d],e1▸cj ∅,r,rows[d],ρ,G,?_|λL n=>?_]
    .let:rows[d].length=wd:=hw _ (Yc ab)
     lia
    .rw[a.beneath ac m];show fin _ (b.trans n)
   lk;rw[ku ⋯];show%[r,ρ,G|λp b=>?_];rw[a.row (Z8 m)];show go p b
  .intro J g %[U,Y,rfl,sm|j];show k3 _ _ ?_;lk;show%[l,rows,ρ,Qb.of j,by let:=a.sum;lia,a.sign|λl2 p ss b an ae I=>%[_,.inl %[_,Qb.of ae|ρ]|?_]];rw[ku]
   .show k l p (sm.trans b) hl (b l _ j)
   .intro h0;let h0:=Zo h0;rw[Z6]at h0;let:ss=[]:=yu.mp ⋯;rw[this]at I;let hm:=I.symm.eq_nil;let%[c|hc]:=To _ a.signs_ne;let:sgn c∈a7 ((c7 rows).map sgn):=aZ.mpr (Xp %[c,hc|rfl]);rw[hm]at this;cases this
abbrev ix(p:iv×iv):lx ZB:=if p.1≠46/\p.1≠p.2 then hV [sgn p.1,sgn p.2]else hH
abbrev qL(u r:kG):gN ZB:=(NS u.cps.toList r.cps.toList).filterMap ix
def gU(H:Hp):aJ H []:=λp a=>by cases a
def aE(h:aJ H ps)(s:∀b z,H b&&&z->c b&&&z):aJ c ps:=λp a=>%[(h p a).1|s _ _ (h p a).2]
def fY(h:aJ H ps)(a:q.2≠[])(b:H q.1&&&q.2\3):aJ H (ps++[q]):=λp c=>by
 rcases Xm c with z|z
 .show h p z
 .rw[Xn z];show%[a|b]
def qM(a:aJ H ps)(b:aJ H qs):aJ H (ps++qs):=λp c=>(Xm c).elim (a p) (b p)
inductive IJ
 | mk (u r:kG):vs=[.str u,.str r]-> ~~~u<=40-> ~~~r= ~~~u->(∀l H' ps,ai H H'->H l=hH->H' l∣.lst (ps\0)->aJ H' ps->ps\2=qL u r->Q (.ref l) H')->IJ vs H Q E0
inductive AX
 | mk (rows:ZB):vs=[.str (vk nl rows)]->cX rows->(∀l H' (ss:ZB),ai H H'->H l=hH->H' l<*ss\3->ss.Perm (a7 ((c7 rows).map sgn))->Q (.ref l) H')->AX vs H Q E0
def CJ(T:Txt K mg):↥3 "letters" ["text"] AX:=by
 .exists T.b4,zS,d,b,%[rows,rfl,a|e];show%[_,%["KEIH~<AH~=A0BB",0|b],rows,ρ,a|λl q c r g=>%[l,rows,ρ,Qb.of g,by let:=a.sum;lia,a.sign|λi j ss m n o p=>e i j ss (c.trans m) (c.free n) o p]]
def lB(T:Txt K mg):↥1 "meetings_between" ↑"above row" IJ:=by
 .exists T.b6,kI,ac,hr,%[u,r,rfl,hu,ae|kk];let ag: ~~~u=u.cps.size:=rfl;let ah: ~~~r=r.cps.size:=rfl;show%[_,%["KEIkd?1~.A0A1BlLZ0?2LZ1?2ezf,M~D0~H.M~D01cA0A1B",0,↑(↑"high low",[])|↑["high","low"]]|?_];change iY _ _ [-u,-r] H;lk;show aI λab hK=>?_
  lk;show hK _ _ λD O=>?_
  show dS (J:=Itz u r) (n:=u.cps.size) (D:=D) (λi ys U l=>A5 (E2 λo1 o2=>U=[o1,o2]) (ai H l) (l D<*ys) (~~~ys<=i) (∃ps:ZH,A3 (ys=ps\0) (aJ l ps) (ps\2=((NS u.cps.toList r.cps.toList).take i).filterMap ix)))
   %[%[hH,hH|rfl],ai.Qa O,aa,Zi _,[],rfl,gU _|rfl] (λi _ _ _ hi _=>%[hi|⋯]) (λ_ _ _ _=>%[Zi _,⋯|.inl rfl]) ?_ ?_
  .intro i ys U l hi %[%[o1,o2|rfl],Y,hl,I,ps,L,m|j] x H2 %[c,d,TT,hc,hd,hT,rfl|rfl];let v:=ai.Qa (o:= .tup [.str ⟨([c].toArray)⟩,.str ⟨([d].toArray)⟩]) hT;let nx:=qJ u r i c d hc hd;let a:=v _ _ hl;let C:Qa l TT (.tup [.str ⟨([c].toArray)⟩,.str ⟨([d].toArray)⟩]) TT&&&[.str ⟨([c].toArray)⟩,.str ⟨([d].toArray)⟩]:=aa;let g:aJ (Qa l TT (.tup [.str ⟨([c].toArray)⟩,.str ⟨([d].toArray)⟩])) ps:=λp G=>%[(m p G).1|v _ _ (m p G).2]
   let y:=Y.trans v
   generalize Qa l TT _=HT at v a C g y
   show%[_,SqT.of C,ρ,_,_,ρ,_,_,ρ,ρ|?_];change Gf _ _ [hV (.str ⟨([c].toArray)⟩),hV (.str ⟨([d].toArray)⟩)] HT _;lk;simp only[qI,FB];let ak:D≠TT:=λe=>by rw[e,C]at a;cases a
   show bv (λM=>bv (λN=>?_) λN=>?_) λM=>?_
   .let M:c≠46:=↑M
    let N:c≠d:=↑N
    show%[show 2<=lX from !1|λp G=>?_];let B:=ai.Qa (o:= .tup [V.str ⟨([c].toArray)⟩,V.str ⟨([d].toArray)⟩]) G;let al:p≠D:=λe=>by rw[e,a]at G;cases G
    show CK.mk hi (B _ _ a) (aC ⋯) %[%[_,_|rfl],ai.set (y.trans B) O,aa,by rw[Z9,Yj];lia,ps++[(p,[sgn c,sgn d])],by rw[L,Zd];rfl,?_|?_]
    .let keep:∀b z,Qa HT p _ b&&&z->Qa _ D (.lst (ys++[V.ref p])) b&&&z:=λb z e=>by
      let:b≠D:=λe2=>by rw[e2,B _ _ a]at e;cases e
      rw[aq this];show e
     show aE (fY (aE g λb z e=>B _ _ e) ∅ (by rw[aa];rfl)) keep
    .rw[Zd,j,<-nx,Y0];let:ix (c,d)∣[sgn c,sgn d]:=lp %[M|N];rw[Y1,this];rfl
   .show CN.mk hi %[%[_,_|rfl],y,a,⋯,ps,L,g|?_];rw[j,<-nx,Y0];let:ix (c,d)=hH:=ku λq=>q.2 ↑N
    rw[Y1,this];simp
   .show CN.mk hi %[%[_,_|rfl],y,a,⋯,ps,L,g|?_];rw[j,<-nx,Y0];let:ix (c,d)=hH:=ku λq=>q.1 ↑M
    rw[Y1,this];simp
  .intro ys U l %[_,Y,hl,I,ps,L,m|j];rw[Zn (by rw[Ud];simp;lia)]at j;show kk D l ps Y O (by rw[hl,L]) m j
def xM{K:ZA}{xs ys:ZN}{g:TG}{q:TS}{D:iU}(Pv:iv->St->Hp->Prop)(s:Pv 0 c H)(u: ~~~ys<= ~~~xs)(z:∀i c H,i<= ~~~ys->Pv i c H->Qb K H a xs/\Qb K H b ys)
 (A:∀i x y T c H,xs[i]?∣x->ys[i]?∣y->Pv i c H->H T=hH->g (.ref T) c (Qa H T (.tup [x,y])) λd j=>q {D with nx:=Pv (i+1),ct:=Pv (i+1),bk:=D.nx} d j) (B:∀c H,Pv ys.length c H->D.nx c H):
 ∃W:iv->iv->St->Hp->Prop,(∃m,W 0 m c H)/\∀i m c H,W i m c H->
  ((Cf K a b).stop i H/\D.nx c H)\/((Cf K a b).go i H/\∃N:St->Hp->Prop,(∀f h,N f h->∃r,r<m/\W (i+1) r f h)/\∀x h,(Cf K a b).yld i H x h->g x c h λd j=>q {D with nx:=N,ct:=N,bk:=D.nx} d j):=by
 show%[λi m c H=>m= ~~~ys-i/\i<= ~~~ys/\Pv i c H,%[~~~ys,by simp,Xe _|s]|?_];intro i m c H %[rfl,hi|p];let%[l|n]:=z i c H hi p;by_cases o:i< ~~~ys
 .let C:xs[i]?∣xs[i]:=by simp[show i< ~~~xs by lia]
  let E:ys[i]?∣ys[i]:=by simp
  show .inr %[%[xs,ys,_,_,l,n,C|E],Pv _,λf h G=>%[~~~ys-(i+1),⋯,rfl,o|G]|λv h y=>?_];let%[T,I,J,L,rfl,rfl,M|O]:=y;show A i I J T c H (M xs l) (O ys n) p L
 .let e:i= ~~~ys:=by lia
  subst e;show .inl %[%[xs,ys,l,n,⋯,Zi _|.inr rfl]|B c H p]
abbrev bY(rows:ZB)(i:iv):gN ZB:=(p0 i).flatMap λj=>qL (rows.getD j ⟨([].toArray)⟩) (rows.getD (j+1) ⟨([].toArray)⟩)
def mM(rows:ZB)(i:iv):bY rows (i+1)=bY rows i++qL (rows.getD i ⟨([].toArray)⟩) (rows.getD (i+1) ⟨([].toArray)⟩):=by
 unfold bY;rw[PL,Px];simp
def zV(u r:kG): ~~~(qL u r)<= ~~~u:=by
 show nI (OH _ _) ?_;rw[Ud];let: ~~~u.cps.toList= ~~~u:=by simp[Ve]
 lia
def nD(h:k∈bY rows (~~~rows-1)):∃a b,k=[sgn a,sgn b]/\zQ rows a b:=by
 let%[j,d|g]:=M5.mp h;let f:∀j h,rows.getD j ⟨([].toArray)⟩=rows[j]:=λj h=>by simp[h]
 let d:=zp.mp d;let%[%[a|b],i|e]:=Np.mp g;unfold ix at e
 split at e
 .rename_i h
  let%[q|c]:=Xf i;rw[Qf,f j ⋯,f _ ⋯]at c;show%[a,b,(Za e).symm,h.1,h.2,j,q,rows[j],rows[j+1],Z4 _,Z4 _,by simpa using c.1|by simpa using c.2]
 .lia
def uF(m:cX rows)(h:zQ rows a b):Let rows a/\Let rows b:=by
 let%[n1,n,i,j,r,c,d,f,g|l]:=h;show%[%[n1,r,Z8 d|Z8 ↑g],λe=>n1 (m.fall i r c d f j a b g l e),c,Z8 f|Z8 ↑l]
def uG(rows:ZB)(h:rows≠[]):yX (rows\3) (hV 1) hH=(rows.drop 1)\3:=by
 unfold yX;rw[_HT.sIx_none,show(hV (1))∣((1:iv):on)from rfl,_HT.sIx_nat,Z6,RQ (NH.mpr h),<-WA,<-Wz];rw[Zn (Yg▸Zi _)]
inductive AY
 | mk (rows:ZB):vs=[.str (vk nl rows)]->cX rows->sk rows->(∀l H' ss,ai H H'->H l=hH->H' l∣.lst (ss\0)->aJ H' ss-> ~~~ss<=60->(∀t∈ss,∃a b,t.2=[sgn a,sgn b]/\Let rows a/\Let rows b)->(∀k,k∈ss\2↔k∈bY rows (~~~rows-1))->Q (.ref l) H')->AY vs H Q E0
def zW(T:Txt K mg):↥3 "meetings" ["text"] AY:=by
 show T.b5.cal eZ (λH vs Q E h=>?_)
 .let%[rows,rfl,c,%[mm,ml|a5]|kk]:=h;show%[ρ|λf bn A outer s hr=>?_];let%[wd,w1,w2|ab]:=c.wide;let hp:1<= ~~~rows:=c.pos;let bf:=c.high;let a6:rows≠[]:=NH.mp hp;show%[_,%["KCF1H~=A0BCF2QBCR~>A1A~p1~qD~rBlLJ3LJ4eEY~s~t2AH]ZA3A4BBEI*~^A~I~_A2BB",eZ.nd|hr]|?_]
  change aV _ _ _ [hV (.str (vk nl rows)),hH,hH,hH,hH] H;show am λD1 k1 r1=>?_
  lk;show%[rows,ρ,c|λR H1 s1 f1 hR=>k1 _ _ (am λD2 k2 r2=>?_)];lk;show%[Xe _|λL hL=>k2 _ _ (am λD3 k3 r3=>az λbl hK=>?_)];let s2:=ai.Qa (o:= .lst []) hL;let G:=s2 _ _ hR;let I:Qa H1 L (.lst []) L<*[]:=aa;let fL:H L=hH:=s1.free hL;let ac:=s1.trans s2
  generalize Qa H1 L _=H2 at s2 G I ac
  lk;show%[_,Qb.of G|λp hp=>?_];rw[uG rows a6];let s3:=ai.Qa (o:= .lst ((rows.drop 1)\3)) hp;let J:=s3 _ _ G;let ae:=s3 _ _ I;let M:Qa H2 p (.lst ((rows.drop 1)\3)) p<*(rows.drop 1)\3:=aa;let ag:=ac.trans s3;let ba:L≠R:=λe=>by rw[e,hR]at hL;cases hL
  let bb:p≠L:=λe=>by rw[e,I]at hp;cases hp
  generalize Qa H2 p _=H3 at s3 J ae M ag
  show%[%[_|Qb.of J],%[_|Qb.of M]|hK _ _ (xM (xs:=rows\3) (ys:=(rows.drop 1)\3) (λi σ l=>A5 (E2 λo3 o4=>σ=[hV (.str (vk nl rows)),!R,!L,o3,o4]) (ai H l) (l R<*rows\3) (l p<*(rows.drop 1)\3) (∃ps:ZH,A4 (l L∣.lst (ps\0)) (aJ l ps) (ps\2=bY rows i) (~~~ps<=40*i))) %[%[hH,hH|ρ],ag,J,M,[],ae,gU _,ρ|Xe _] (by rw[Z6,Z6,Yg];lia) (λi σ l _ q=>%[Qb.of q.3|Qb.of q.4]) ?_ ?_)]
  .intro i x y TT σ l hx hy %[%[o3,o4|rfl],sm,ah,ak,ps,N,g,n|al] hT;rw[Zl]at hx hy;let%[u,hu|rfl]:=MS.mp hx;let%[r,B|rfl]:=MS.mp hy;rw[PZ,Uv]at B;let bt:i+1< ~~~rows:=(Xl B).1;let ul: ~~~u=wd:=ab u (Z8 hu);let rl: ~~~r=wd:=ab r (Z8 B);let j:=ai.Qa (o:= .tup [V.str u,V.str r]) hT;let an:Qa l TT (.tup [V.str u,V.str r]) TT&&&[V.str u,V.str r]:=aa;let as:=j _ _ ah;let a0:=j _ _ ak;let v:=j _ _ N;let C:aJ (Qa l TT (.tup [V.str u,V.str r])) ps:=aE g λb z e=>j _ _ e
   let a1:=sm.trans j
   generalize Qa l TT _=HT at j an as a0 v C a1
   show%[_,SqT.of an,ρ,_,_,ρ,_,_,ρ,ρ|?_];show aA λD4 k4 r4=>?_
   lk;show%[tyL (Qb.of v),u,r,ρ,⋯,⋯|λl4 H4 ps4 Y f4 h4 a2 e4=>?_];let bx:l4≠L:=λe=>by rw[e,v]at f4;cases f4
   let bm: ~~~ps4<=40:=by
    let: ~~~(ps4\2)= ~~~(qL u r):=by rw[e4]
    rw[Z6]at this;let:=zV u r
    lia
   show%[_,Y _ _ v,_,h4,by rw[Z6,Z6];show cV ⋯|k4 _ _ ?_];let O:∀b z,H4 b&&&z->Qa H4 L (.lst ((ps\0) ++ps4\0)) b&&&z:=λb z e=>by
    let:b≠L:=λe2=>by rw[e2,Y _ _ v]at e;cases e
    rw[aq this];show e
   let bc:R≠L:=J0 ba;show%[%[_,_|ρ],λb u' e=>?_,(aq bc)▸Y _ _ as,(aq bb)▸Y _ _ a0,ps++ps4,by rw[aa,Zd],aE (qM (aE C λb z e=>Y _ _ e) a2) O,?_|by rw[Z9];lia]
   .rw[aq (aw e fL)];show Y _ _ (a1 _ _ e)
   .rw[Zd,n,e4,mM];let g1:rows.getD i ⟨([].toArray)⟩=u:=by rw[Zc,hu];rfl
    let g2:rows.getD (i+1) ⟨([].toArray)⟩=r:=by rw[Zc,B];rfl
    rw[g1,g2]
  .intro σ l %[%[o3,o4|rfl],sm,ah,ak,ps,N,g,n|al];rw[Z6,Yg]at n;show k3 _ _ ?_;lk;let U:∀q∈ps,∃a b,q.2=[sgn a,sgn b]/\zQ rows a b:=λq d=>nD (n▸Xp %[q,d|rfl])
   let a3:∀q∈ps,q.2∈mm:=λq d=>by
    let%[a,b,e|h]:=U q d;rw[e];show a5 a b h
   show%[ps,Qb.of N,g,%[mm,⋯|a3]|λl5 be=>?_];let s5:=ai.Qa (o:=qb P w l5 (bJ ps)) be;let few: ~~~(bJ ps)<=60:=by
    let:=_ST.nodup_sub (eT ps) (m:=mm) λk hk=>by
     let%[q,d|rfl]:=Xo hk;show a3 q (bw ps q d)
    rw[Z6]at this
    lia
   show%[bJ ps,aa,λq d=>%[(g q (bw ps q d)).1|s5 _ _ (g q (bw ps q d)).2],2,λq d=>?_,!1,⋯|λl6 ss a4 pm=>?_]
   .let%[a,b,e|_]:=U q (bw ps q d);rw[e];rfl
   let s6:=ai.Qa (o:= .lst (ss\0)) a4;show kk l6 _ ss ((sm.trans s5).trans s6) ((sm.trans s5).free a4) aa (λq d=>?_) (pm.length_eq▸few) (λq d=>?_) λk=>?_
   .let:=g q (bw ps q (pm.mem_iff.mp d));show%[this.1|s6 _ _ (s5 _ _ this.2)]
   .let%[a,b,e|h]:=U q (bw ps q (pm.mem_iff.mp d));show%[a,b,e|uF c h]
   .rw[(pm.map _).mem_iff,jd,n]
abbrev gW(z:kG):re:=(decide (1<=(~~~z:on))&&decide ((~~~z:on)<=8))&&z.cps.toList.all gx
inductive qN
 | mk (z:kG):vs=[.str z]->gW z=hX->(∀H',ai H H'->Q (.bl hX) H')->qN vs H Q E0
inductive xN (K:ZA)
 | mk (z:kG) (p:kw) (ts:ZB):vs=[.str z,.ref p]->(Qb K H p (ts\3)\/SqT K H p (ts\3))->Q (.bl (decide (z∈ts))) H->xN K vs H Q E0
inductive qO
 | mk (i:on):vs=[.int i]-> -9999<=i->i<=9999->Q (.bl hX) H->qO vs H Q E0
abbrev kU(c:ZB)(vs:ZN):Prop:=
 (∃w a b:kG,vs=[.str w,.str a,.str b]/\(w="later"\/w="same")/\a∈c/\b∈c/\a≠b)\/
 ∃w a y,vs=[.str w,.str a,.int y]/\(w="since"\/w="by")/\a∈c/\ -9999<=y/\y<=9999
inductive mO (K:ZA)
 | mk (t p xs ls):vs=[.ref t,.ref p]->H t&&&xs->Qb K H p (ls\3)->kU ls xs->Q (.bl hX) H->mO K vs H Q E0
abbrev lnS(n z:kG):kG:=MQ++n++oT "."++z
inductive kW
 | mk (n z:kG):vs=[.str n,.str z]-> ~~~n<=100-> ~~~z<=100->Q (.str (lnS n z)) H->kW vs H Q E0
def HP(z:kG)(ts:ZB):inV (V.str z) (ts\3)=decide (z∈ts):=by
 unfold inV
 induction ts with
 | nil=>rfl
 | cons c r a=>
   change((c==z)||_)=_
   grind
def CL(ts:ZB):(ts\3).all kL=hX:=by simp[kL]
def CM(T:Txt K mg):↥1 "is_name" ["thing"] qN:=by
 .exists T.aZ,zR,y,N,%[z,rfl,B|k];show%[_,%["KCOmavyA0A?1BEIjPEI'~j~C~CDghA0B]a(~k~lAkd?2~m0Z0?3%o~*0~+B",0,(blE (v:= .ty "str") rfl T.ab VR rfl rfl rfl),↑(["sign"],[])|↑["sign"]]|?_]
  change aV _ _ _ [-z] H;let a:=B;unfold gW at a;rw[Zv,Zv]at a;let%[%[C|q]|b]:=a;let O: ~~~z<=8:=by let:=Zo q;lia
  lk;show%[.type "str",.str z,hX,by rfl|?_];lk;show%[cV ⋯|?_];rw[lp C,lp q];show aI λr G=>?_
  lk;show G _ _ λD u=>?_
  show dS (J:=Its z) (n:=z.cps.size) (D:=D) (λi ys l d=>A4 (∃o,l=[o]) (ai H d) (d D<*ys) (ys=(z.cps.toList.take i).map (λc=>V.bl (gx c)))) %[%[hH|rfl],ai.Qa u,aa|rfl]
   (λi _ _ _ hi _=>hi) (λ_ _ _ _=>Zi _) ?_ ?_
  .intro i ys l d hi %[%[o|rfl],m,p|g] x U %[I,c,L|rfl];subst I;lk;let j: ~~~ys=i:=by
    rw[g,Z6,Yk];let: ~~~z.cps.toList=z.cps.size:=by simp
    lia
   let M:i<1000:=by
    let: ~~~z=z.cps.size:=rfl
    lia
   show CK.mk hi p (j▸aC ⋯) %[%[_|rfl],ai.set m u,aa|?_];rw[vf,g,<-kr z i c L,Zd]
   all_goals rfl
  .intro ys l d %[_,m,p|g];show%[(z.cps.toList.map gx),?_|?_]
   .let e:z.cps.toList.take z.cps.size=z.cps.toList:=by
     apply Zn;simp
    rw[e]at g;let:(z.cps.toList.map gx).map V.bl=ys:=by rw[g,Yq];rfl
    rw[this];show Qb.of p
   .let e:(z.cps.toList.map gx).all id=hX:=by
     rw[WU];show b
    rw[e];show k d m
def dj(T:Txt K mg):↥1 "is_text_among" ↑"thing texts" (xN K):=by
 .exists T.bc,ny,a,c,%[z,p,ts,rfl,b|k];show%[_,%["KEI'vyA0A?1B(o]b01",0|(blE (v:= .ty "str") rfl T.ab VR rfl rfl rfl)]|?_];change iY _ _ [hV _,hV _] H;lk;show%[.type _,.str z,hX,by rfl|?_];rw[<-HP]at k;show%[_,b,ρ,CL ts|k]
def CO(T:Txt K mg):↥1 "is_year" ["thing"] qO:=by
 .exists T.bd,zT,a,d,%[i,rfl,b,c|k];show%[_,%["KCOfqmavyA0A?1BwavyA0A?2BEIjPEI~j~C~C~|0~}",0,(blE (v:= .ty "int") rfl T.ah boot_int rfl rfl rfl)|(blE (v:= .ty "bool") rfl T.ai boot_bool rfl rfl rfl)]|?_]
  change aV _ _ _ [hV (.int i)] H;lk;show%[.type _,.int i,hX,by rfl,.type _,.int i,hY,by rfl|?_];rw[lp (Zf b),Zf c];show k
def jn(T:Txt K mg):↥1 "layer_name" ↑"name letter" kW:=by
 .exists T.be,sE,d,j,%[n,z,rfl,l,m|k];show%[_,%["KEI~[~L~u0~LV~L~u1~0"|0]|?_];change iY _ _ [-n,hV _] H;lk;let e:∀a b:kG,~~~(a++b)= ~~~a+ ~~~b:=λa b=>RM
  let g:MQ.length=0:=rfl;let i:(!".").length=1:=rfl;let c:∀k,k<=1000->k<=lX:=λk o=>cV ⋯
  show%[c _ ⋯,c _ ?_,c _ ?_,c _ ⋯,c _ ?_,c _ ?_|k]<;> simp only[e,g,i]<;> lia
def xO(T:Txt K mg):↥2 "is_saying" ↑"thing layers" (mO K):=by
 .exists T.bb,vX,o,d,%[t,p,xs,g,rfl,n,i,ok|k];show%[_,%["KCOfqmavyA0A?1BwM~,ghA0BDEIjPCOaH~MAS0DA]cBEI'H~MAS0DA1B'H~MAS0DA1B(o~DS0DS0DPCOaH~MAS0DA]dBEI'H~MAS0DA1B(H]eAS0DBPEIj",0,(blE (v:= .ty "tuple") rfl T.ag Uj rfl rfl rfl)|d]|?_]
  change aV _ _ _ [!t,!p] H;lk;show%[.type "tuple",.tup n,hX,by rfl|?_];let st:=SqT.of (K:=K) n;rcases ok with⟨c,a,b,rfl,hw,j,r,l⟩|⟨c,a,y,rfl,hw,j,u,z⟩
  .let m:decide (c∈([!"later",!"same"]:ZB))=hX:=by rcases hw with rfl|rfl<;> decide
   lk;show%[3,.inr %[_,st|ρ]|?_];rw[ku (!1)];show%[_,st,_,ρ|λq e=>%[c,q,[!"later",!"same"],ρ,.inr (e H)|?_]];rw[m];lk;show%[_,st,_,ρ,a,p,g,ρ,.inl i|?_];rw[Zf j];lk;show%[_,st,_,ρ,b,p,g,ρ,.inl i|?_];rw[Zf r];lk;show%[_,st,_,ρ,_,st,_,ρ,ρ|?_];rw[show(!decide (V.str a=V.str b))=hX from by simp[l]];show k
  .let m:decide (c∈([!"later",!"same"]:ZB))=hY:=by rcases hw with rfl|rfl<;> decide
   let B:decide (c∈([!"since",!"by"]:ZB))=hX:=by rcases hw with rfl|rfl<;> decide
   lk;show%[3,.inr %[_,st|ρ]|?_];rw[ku (!1)];show%[_,st,_,ρ|λq e=>%[c,q,[!"later",!"same"],ρ,.inr (e H)|?_]];rw[m];lk;show%[_,st,_,ρ|λq e=>%[c,q,[!"since",!"by"],ρ,.inr (e H)|?_]];rw[B];lk;show%[_,st,_,ρ,a,p,g,ρ,.inl i|?_];rw[Zf j];lk;show%[_,st,_,ρ,y,ρ,u,z|k]
abbrev bM(H:Hp)(cs:ZI):Prop:=∀p∈cs,H p.1&&&[.str p.2.1,.str (vk nl p.2.2)]/\gW p.2.1=hX/\cX p.2.2
def bM.up(h:bM H cs)(s:ai H b):bM b cs:=λp a=>%[s _ _ (h p a).1|(h p a).2]
inductive uH
 | mk (rows:ZB):vs=[.str (vk nl rows)]->cX rows->(∀H',ai H H'->Q (.bl hX) H')->uH vs H Q E0
inductive xP
 | mk (p:kw×kG×ZB):vs=[.ref p.1]->bM H [p]->(∀H',ai H H'->Q (.bl hX) H')->xP vs H Q E0
abbrev bT(cs:ZI):ZN:=cs\0
inductive kX
 | mk (l cs):vs=[.ref l]->H l<*bT cs->bM H cs->(cs.map λp=>p.2.1).Nodup->1<= ~~~cs-> ~~~cs<=8->(∀H',ai H H'->Q .non H')->kX vs H Q E0
abbrev ci(H:Hp)(a:ZB)(qs:ZO):Prop:=∀q∈qs,H q.1&&&q.2/\kU a q.2
def ci.up(h:ci H b qs)(s:ai H c):ci c b qs:=λp a=>%[s _ _ (h p a).1|(h p a).2]
inductive iR (K:ZA)
 | mk (l r ls qs):vs=[.ref l,.ref r]->H l∣.lst (qs\0)->H r<*ls\3->ci H ls qs-> ~~~qs<=60->(∀H',ai H H'->Q .non H')->iR K vs H Q E0
def FD(T:Txt K mg):↥3 "is_cut" ["thing"] uH:=by
 .exists T.b9,CG,b,c,%[rows,rfl,a|k];show%[_,(QSs.h (aj (LX (λ_ _ h=>h) (ar (bo rfl (aL (nB T) c rfl #[↑0]))))
   (ar (aM eBl))))|?_]
  change aV _ _ _ [hV (.str (vk nl rows))] H;lk;show%[rows,ρ,a|λl d e g i=>k d e]
def qP(T:Txt K mg):↥4 "is_named_cut" ["thing"] xP:=by
 .exists T.b8,oM,e,c,%[p,rfl,g|k];let%[b,i|a]:=g p (Yy.mpr rfl);show%[_,%["KEI'vyA0A?1B'opghA0BD'H]fAS0DB(H]gAS0DB",0,(blE (v:= .ty "tuple") rfl T.ag Uj rfl rfl rfl)|c]|?_];change iY _ _ [hV _] H;lk;show%[.type _,.tup b,hX,by rfl|?_];let st:=SqT.of (K:=K) b;show%[2,.inr %[_,st|ρ],_,st,_,ρ,p.2.1,ρ,i|λm d=>?_];lk;show%[_,SqT.of (d _ _ b),_,ρ,p.2.2,ρ,a|λj l=>k j (d.trans l)]
def v5(T:Txt K mg):↥5 "check_cuts" ["cuts"] kX:=by
 .exists T.b7,eU,ah,J,%[l,cs,rfl,C,L,M,h1,h8|k];let u: ~~~(bT cs)= ~~~cs:=Z6 _;show%[_,%["KCOfqmavyA0A?1BwMpghA0BDE+PCF1xER~JA0BlLJ2LJ3eCOfqMp2]hqmaH]iA3Bw~NS3D1E+PErj1S3D",eU.nd,(blE (v:= .ty "list") rfl T.a5 Rc rfl rfl rfl)|J]|?_]
  change aV _ _ _ [!l,hH,hH,hH] H;show am λD1 k1 _=>?_
  lk;show%[.type "list",.lst C,hX,by rfl|?_];lk;show%[~~~cs,.inl %[_,Qb.of C|u.symm]|?_];rw[ku (by simp only[MW];lia)];show k1 _ _ (am λD2 k2 _=>?_);lk;show λd N=>k2 _ _ (aA λD3 k3 _=>az λag hK=>?_)
  lk;show%[_,Qb.of (ai.Qa N _ _ C)|hK _ _ (jP (λi G c=>∃O U a,G=[!l,!d,O,U]/\ai H c/\c d∣.dK a/\a\1=(cs.take i).map λp=>kj p.2.1) %[hH,hH,[],ρ,ai.Qa N,aa|ρ] (λi G c _ %[_,_,_,_,q|_]=>Qb.of (q _ _ C)) ?_ ?_)]
  .intro i x TT G c I %[O,U,a,rfl,Y,y|g] hT;let hi:i< ~~~cs:=u▸(Xl I).1;obtain⟨q,hq,rfl⟩:∃q,cs[i]?∣q/\x=V.ref q.1:=by
    unfold bT at I;rw[Zl,Z4 hi]at I;show%[cs[i],Z4 hi|(Za I).symm]
   let b:ai H (Qa c TT (.tup [.int i,.ref q.1])):=Y.trans (ai.Qa hT);let z:Qa c TT (.tup [.int i,.ref q.1]) TT&&&[.int i,.ref q.1]:=aa;let r:=ai.Qa (o:= .tup [.int i,.ref q.1]) hT _ _ y
   generalize Qa c TT _=HT at b r z
   let m:=L q (Z8 hq);show%[_,SqT.of z,ρ,_,_,ρ,_,_,ρ,ρ|?_];change aV _ _ _ [!l,!d,hV (.int i),hV (.ref q.1)] HT;show am λD4 k4 _=>?_
   lk;rw[ku (by simp only[MW];lia)];show%[q,ρ,λp hp=>(Xn hp)▸%[b _ _ m.1|m.2]|λH2 B=>bN ?_];let n:(kj q.2.1:Key)∉a\1:=by
    rw[g];intro hm;let%[q',ab|e]:=Xo hm;let e:q'.2.1=q.2.1:=NX e;let%[j|hj]:=Xf ab;let ac:j<i:=by
     let:=(Xl hj).1;rw[Yk]at this
     lia
    rw[Yb ac]at hj;let n1:(cs.map λp=>p.2.1)[j]?∣q.2.1:=by rw[Zl,hj,<-e];rfl
    let:=f9 M n1 (by rw[Zl,hq];rfl)
    lia
   show%[_,SqT.of (B _ _ (b _ _ m.1)),_,ρ,_,cc.k (k:=kj q.2.1) (B _ _ r)|?_];let hv:bQ a (kj q.2.1:Key)=hH:=by
    cases e:bQ a (kj q.2.1:Key)with
    | none=>rfl
    | some v=>show n0 (GP e) n
   rw[hv,ku ∅];show k4 _ _ (aA λD5 k5 _=>?_);lk;let ae: ~~~a=i:=by
    let:=rM MV g;rw[Z6,Z6,Yk]at this
    lia
   show%[_,SqT.of (B _ _ (b _ _ m.1)),_,ρ,_,fA.k (k:=kj q.2.1) (B _ _ r) (ae▸aC ⋯)|k5 _ _ %[_,_,_,ρ,ai.set (b.trans B) N,aa|?_]];rw[ni,ku n,g,X9,Zd,hq];rfl
  .intro G c %[O,U,a,rfl,Y,y|g];show k3 _ _ (k c Y)
def oO(T:Txt K mg):↥3 "check_sayings" ↑"sayings layers" (iR K):=by
 .exists T.ba,eO,B,C,%[l,r,y,qs,rfl,g,j,m,G|k];show%[_,%["KCOmavyA0A?1BE+PER~JA0BlLJ2LJ3eEOfqMp2]jwmaH]kA3A1BE+P",eO.nd,(blE (v:= .ty "list") rfl T.a5 Rc rfl rfl rfl)|C]|?_]
  change aV _ _ _ [!l,!r,hH,hH] H;show am λO k1 _=>?_
  lk;show%[.type "list",.lst g,hX,by rfl|?_];lk;show k1 _ _ (aA λU I _=>az λz J=>?_);lk;show%[_,Qb.of g|J _ _ (jP (λi e b=>E2 λn o=>e=[!l,!r,n,o]/\ai H b) %[hH,hH,ρ|ai.refl H] (λi e b _ %[_,_,_|q]=>Qb.of (q _ _ g)) ?_ ?_)]
  .intro i x TT e b p %[n,o,rfl|u] L;let hi:i< ~~~qs:=(Z6 _)▸(Xl p).1;obtain⟨q,M,rfl⟩:∃q,qs[i]?∣q/\x=V.ref q.1:=by
    rw[Zl,Z4 hi]at p;show%[qs[i],Z4 hi|(Za p).symm]
   let a:ai H (Qa b TT (.tup [.int i,.ref q.1])):=u.trans (ai.Qa L);let c:Qa b TT (.tup [.int i,.ref q.1]) TT&&&[.int i,.ref q.1]:=aa
   generalize Qa b TT _=HT at a c
   let d:=m q (Z8 M);show%[_,SqT.of c,ρ,_,_,ρ,_,_,ρ,ρ|?_];change lJ _ _ _ _ [!l,!r,hV (.int i),hV (.ref q.1)] HT;show aA λY N _=>?_
   lk;rw[ku ⋯];show%[q.1,r,q.2,y,ρ,a _ _ d.1,Qb.of (a _ _ j),d.2|N _ _ %[_,_,ρ|a]]
  .intro e b %[n,o,rfl|u];show I _ _ (k b u)
abbrev lyr(p:kw×kG×ZB):ZB:=(a7 ((c7 p.2.2).map sgn)).map (lnS p.2.1)
inductive mP
 | mk (l cs):vs=[.ref l]->H l<*bT cs->bM H cs-> ~~~cs<=8-> ~~~(cs.flatMap lyr)<=63->(∀r H' (ls:ZB),ai H H'->H r=hH->H' r<*ls\3->ls.Perm (cs.flatMap lyr)->ls.Pairwise (λa b=>aP b a=hY)->Q (.ref r) H')->mP vs H Q E0
abbrev d6(c:ZB)(k:ZB):Prop:=∃a b z,k=[a,b,z]/\a∈c/\b∈c
abbrev Sml(z:kG):Prop:= ~~~z<=30/\∀c∈z.cps.toList,c<16^8
abbrev CP(a:ZB)(k:ZB):Prop:=d6 a k/\∀z∈k,Sml z
def xQ(h:gW z=hX):Sml z:=by
 unfold gW at h;rw[Zv,Zv]at h;show%[⋯|λc a=>?_];let:=(tW.mp (N7.mp h.2 c a)).2
 lia
def Sml.app{a b:kG}(f:∀c∈a.cps.toList,c<16^8)(g:∀c∈b.cps.toList,c<16^8):∀c∈(a++b).cps.toList,c<16^8:=λc d=>by
 let e:(a++b).cps.toList=a.cps.toList++b.cps.toList:=Xd;rw[e]at d;show(Xm d).elim (f c) (g c)
def HQ(h:c<1000):∀x∈(sgn c).cps.toList,x<16^8:=λx a=>by
 let e:=by simpa [sgn]using a
 lia
def nE{c:iv}(h:gW n=hX)(d:c<1000):Sml (lnS n (sgn c)):=by
 let e:∀a b:kG,~~~(a++b)= ~~~a+ ~~~b:=λa b=>RM
 let l: ~~~n<=8:=by
  unfold gW at h
  grind
 show%[?_|Sml.app (Sml.app (Sml.app (λc d=>(nomatch d)) (xQ h).2) (!0)) (HQ d)];unfold lnS;rw[e,e,e,show MQ.length=0 from rfl,show(!".").length=1 from rfl,show(sgn c).length=1 from rfl]
 lia
def zX(h:cX rows)(l:Let rows c):c<1000:=by
 let:=(tW.mp (ki h.sign c (fV.mpr l))).2
 lia
def HR(b:gW p.2.1=hX)(d:cX p.2.2):∀z∈lyr p,Sml z:=λz e=>by
 let%[y,f|rfl]:=Xo e;let%[c,a|rfl]:=Xo (aZ.mp f);show nE b (zX d (fV.mp a))
def KW(e:Sml a)(f:Sml b)(g:Sml c):∀z∈[a,b,c],Sml z:=λz d=>by
 simp only[Yv,X6,No]at d;rcases d with rfl|rfl|rfl
 .show e
 .show f
 .show g
def HS(i:iv)(h:i<=100):Sml (MQ++oT "#"++oT (toString (i:on))):=by
 let all:∀j:Fin 101,Sml (MQ++oT "#"++oT (toString ((j.1)))):=by
  unfold Sml;decide +kernel
 show all %[i|⋯]
def d6.three(h:d6 c k): ~~~k=3:=by
 let%[a,b,z,rfl|_]:=h;rfl
def d6.mono(h:d6 c k)(s:∀x∈c,x∈d):d6 d k:=by
 let%[a,b,z,e,f|g]:=h;show%[a,b,z,e,s a f|s b g]
def jo(h:Let p.2.2 a):lnS p.2.1 (sgn a)∈lyr p:=
 Xp %[_,aZ.mpr (Xp %[a,fV.mpr h|rfl])|rfl]
abbrev mQ(n:kG)(k:ZB):ZB:=k.map (lnS n) ++[n]
abbrev v6(i:iv):kG:=MQ++oT "#"++oT (toString (i:on))
abbrev cR(cs:ZI):gN ZB:=cs.flatMap λp=>(bY p.2.2 (~~~p.2.2-1)).map (mQ p.2.1)
abbrev iF(i:iv):ZN->lx ZB
 |[.str w,.str a,.str b]=>if w=oT "later" then hV [a,b,v6 i]else hH
 | _=>hH
abbrev cS(qs:ZO)(n:iv):gN ZB:=(p0 n).filterMap λj=>qs[j]?.bind λq=>iF j q.2
def mR{cs:gN _}{i:iv}{q:kw×kG×ZB}(a:cs[i]?∣q):cR (cs.take (i+1))=cR (cs.take i) ++(bY q.2.2 (~~~q.2.2-1)).map (mQ q.2.1):=by
 unfold cR;rw[X9,a,Px];change _++([q].flatMap _)=_;rw[T0]
def fO(a:qs[i]?∣q):cS qs (i+1)=cS qs i++(iF i q.2).toList:=by
 unfold cS;rw[PL,Y0];show rM _ ?_;rw[Y1,a];rw[R7];cases iF i q.2<;> rfl
inductive mS
 | mk (l cs):vs=[.ref l]->H l<*bT cs->bM H cs->(∀p∈cs,sk p.2.2)-> ~~~cs<=3->(∀r H' ts,ai H H'->H r=hH->H' r∣.lst (ts\0)->aJ H' ts->(∀t∈ts,CP (cs.flatMap lyr) t.2)-> ~~~ts<=180->(∀k,k∈ts\2↔k∈cR cs)->Q (.ref r) H')->mS vs H Q E0
inductive mT
 | mk (l ls qs):vs=[.ref l]->H l∣.lst (qs\0)->ci H ls qs->(∀z∈ls,Sml z)-> ~~~qs<=63->(∀r H' ts,ai H H'->H r=hH->H' r∣.lst (ts\0)->aJ H' ts->(∀t∈ts,CP ls t.2)-> ~~~ts<= ~~~qs->ts\2=cS qs qs.length->Q (.ref r) H')->mT vs H Q E0
def iS{z:kG}(h:gW z=hX): ~~~z<=8:=by
 unfold gW at h
 grind
def lC{cs:gN iv}{z:kG}(h:z∈a7 (cs.map sgn)):∃c∈cs,z=sgn c:=by
 let:=aZ.mp h;let%[c,a|rfl]:=Xo this;show%[c,a|ρ]
def xR(T:Txt K mg):↥4 "layers_of" ["cuts"] mP:=by
 .exists T.bf,fK,ae,hr,%[l,cs,rfl,hl,G,h8,ag|k];let m: ~~~(bT cs)= ~~~cs:=Z6 _;show%[_,%["KCF1QBCRU0lL~v2tuLJ3eEY~s~t1Akd?1UH]lA3BZ0?2%H~wAT1A0BBEI*]mA1B",fK.nd,↑(↑"letter name",[(1,2)]),↑["letter","name"]|hr]|?_]
  change aV _ _ _ [!l,hH,hH,hH] H;show am λD1 k1 _=>?_
  lk;show%[Xe _|λL I=>k1 _ _ (am λD2 k2 _=>az λn J=>?_)];lk;show%[%[_|Qb.of (ai.Qa I _ _ hl)]|J _ _ (eW (λi d a=>E2 λM N=>A3 (d=[!l,!L,M,N]) (ai H a) (∃e:ZB,A3 (a L<*e\3) (e.Perm ((cs.take i).flatMap lyr)) (~~~e<=26*i)))
   %[hH,hH,ρ,ai.Qa I,[],aa,Nw _|Xe _] (λi d a _ %[_,_,_,q|_]=>Qb.of (q _ _ hl)) ?_ ?_)]
  .intro i x d a y %[M,N,rfl,p,e,B,u|O];let hi:i< ~~~cs:=m▸(Xl y).1;obtain⟨q,hq,rfl⟩:∃q,cs[i]?∣q/\x=V.ref q.1:=by
    unfold bT at y;rw[Zl,Z4 hi]at y;show%[cs[i],Z4 hi|(Za y).symm]
   let b:=G q (Z8 hq);show%[_,SqT.of (p _ _ b.1),ρ,_,_,ρ,_,_,ρ,ρ|aA λD3 k3 _=>?_];change nP _ _ [!l,!L,hV (.str q.2.1),hV (.str (vk nl q.2.2))] a;lk;show%[tyL (Qb.of B)|aI λn J=>?_];lk;show%[q.2.2,ρ,b.2.2|λl2 H2 ss s2 f2 h2 U=>?_];lk;show%[%[_|Qb.of h2]|J _ _ λF hF=>?_];let few: ~~~ss<=26:=U.length_eq▸kY λc hc=>ki b.2.2.sign c hc
   let one:∀z∈ss,~~~z=1:=λz hz=>by
    let%[c,_|rfl]:=lC (U.mem_iff.mp hz);rfl
   show cg (λj ts d a=>A4 (∃o,d=[o,hV (.str q.2.1)]) (ai H2 a) (a F<*ts) (ts=((ss.take j).map (lnS q.2.1))\3))
    %[%[hH|rfl],ai.Qa hF,aa|rfl] (λ_ _ _ a Y=>Y.2 _ _ h2) ?_ ?_
   .intro j ts d H4 hj %[%[o|rfl],C,ab|g];lk;show%[_,_,ρ,by let:=iS b.2.1;lia,by rw[one _ (Yc hj)];decide|CK.mk hj ab (by rw[g,Z6,Z6,Yk];show aC ⋯) %[%[_|ρ],ai.set C hF,aa|?_]];rw[g,X9,Zd,Zd,Z4 hj];rfl
   intro ts d H3 %[_,C,ac|g];rw[Zn (Zi _)]at g;lk;show%[_,C _ _ (s2 _ _ B),_,ac,(by rw[g,Z6,Z6,Z6];show cV ⋯)|k3 _ _ %[_,_,ρ,ai.set (p.trans (s2.trans C)) I,e++ss.map (lnS q.2.1),?_,?_|?_]]
   .rw[aa,g,Zd]
   .rw[X9,hq,Px];show u.append ?_;change MP _ ([q].flatMap lyr);rw[T0];show U.map _
   .rw[Z9,Z6]
    lia
  .intro d a %[M,N,rfl,p,e,B,u|O];show k2 _ _ ?_;lk;rw[m,Zn (Zi _)]at u;show%[e,Qb.of B,by rw[u.length_eq];lia|λr ss v p' q'=>k r _ ss (p.trans (ai.Qa v)) (p.free v) aa (p'.trans u) q']
def qQ(T:Txt K mg):↥4 "ties_of_cuts" ["cuts"] mS:=by
 .exists T.bg,cC,a5,hr,%[l,cs,rfl,hl,a2,a3,h8|k];let ae: ~~~(bT cs)= ~~~cs:=Z6 _;show%[_,%["KCF1QBCRU0lLJ2LJ3eERUH]nA3BlLJ4LJ5eEYni1AcAH~wA2A4BAH~wA2A5BA2BBEI1",cC.nd|hr]|?_]
  change aV _ _ _ [!l,hH,hH,hH,hH,hH] H;show am λD1 k1 _=>?_
  lk;show%[Xe _|λL hL=>k1 _ _ (am λD2 k2 _=>az λag hK=>?_)];lk;show%[%[_|Qb.of (ai.Qa hL _ _ hl)]|hK _ _ (eW (λi y G=>E4 λo2 o3 I J=>A3 (y=[!l,!L,o2,o3,I,J]) (ai H G) (∃ts:ZH,A5 (G L∣.lst (ts\0)) (aJ G ts) (∀t∈ts,CP (cs.flatMap lyr) t.2) (~~~ts<=60*i) (∀k,k∈ts\2↔k∈cR (cs.take i))))
   %[hH,hH,hH,hH,ρ,ai.Qa hL,[],aa,gU _,λt ht=>(nomatch ht),Xe _|λk=>OF] (λi y G _ %[_,_,_,_,_,q|_]=>Qb.of (q _ _ hl)) ?_ ?_)]
  .intro i x y G M %[o2,o3,I,J,rfl,sm,ts,hm,U,Y,ah|d];let hi:i< ~~~cs:=by rw[<-ae];show(Xl M).1
   obtain⟨q,hq,rfl⟩:∃q,cs[i]?∣q/\x=V.ref q.1:=by
    unfold bT at M;rw[Zl,Z4 hi]at M;show%[cs[i],Z4 hi|(Za M).symm]
   let g:=a2 q (Z8 hq);show%[_,SqT.of (sm _ _ g.1),ρ,_,_,ρ,_,_,ρ,ρ|?_];show aA λD3 k3 _=>?_
   change ww _ _ _ _ [!l,!L,hV (.str q.2.1),hV (.str (vk nl q.2.2)),I,J] G;show az λag hK=>?_
   lk;let qm:=Z8 hq;show%[q.2.2,ρ,g.2.2,a3 q qm|?_];intro l2 H2 ss s2 f2 h2 t2 few ak all2;let a4:=iS g.2.1;let al:l2≠L:=λe=>by rw[e,hm]at f2;cases f2
   let an: ~~~(ss\0)= ~~~ss:=Z6 _;show%[%[_|Qb.of h2]|hK _ _ (eW (xs:=ss\0) (λj y B=>E2 λI J=>A5 (y=[!l,!L,hV (.str q.2.1),hV (.str (vk nl q.2.2)),I,J]) (ai H B) (B l2∣.lst (ss\0)) (aJ B ss) (∃c:ZH,A5 (B L∣.lst (c\0)) (aJ B c) (∀t∈c,CP (cs.flatMap lyr) t.2) (~~~c<=60*i+j) (c\2=ts\2 ++((ss.take j)\2).map (mQ q.2.1))))
    %[_,_,ρ,sm.trans s2,h2,t2,ts,s2 _ _ hm,aE U λb z e=>s2 _ _ e,Y,⋯|(Zx _).symm] (λj y B _ %[_,_,_,_,q,_|_]=>Qb.of q) ?_ ?_)]
   .intro j x y B M %[I,J,rfl,ab,as,n,c,C,r,ac,u|m];let hj:j< ~~~ss:=an▸(Xl M).1;rw[Zl,Z4 hj]at M;obtain rfl:x=V.ref ss[j].1:=(Za M).symm;let N:=Yc hj;let%[a,b,a0,la|lb]:=ak _ N;let O:=(n _ N).2;rw[a0]at O;show%[_,SqT.of O,ρ,_,_,ρ,_,_,ρ,ρ|aA λD4 k4 _=>?_];lk;show%[tyL (Qb.of C),q.2.1,sgn a,ρ,⋯,(show 1<=100 by decide)|?_];show%[q.2.1,sgn b,ρ,⋯,(show 1<=100 by decide)|?_];show%[#[3]|λp hp=>?_];let sp:=ai.Qa (o:= .tup [V.str (lnS q.2.1 (sgn a)),V.str (lnS q.2.1 (sgn b)),V.str q.2.1]) hp;let gp:=own sp
    generalize Qa B p _=H4 at sp gp
    let a1:=sp _ _ C;let v:∀b z,H4 b&&&z->Qa H4 L (.lst (c\0 ++[V.ref p])) b&&&z:=λb z e=>by
     let:b≠L:=λe2=>by rw[e2,a1]at e;cases e
     rw[aq this];show e
    show%[_,a1,by rw[Z6];show RY (show ~~~c<=10000 by lia) (!1)|k4 _ _ %[_,_,ρ,ai.set (ab.trans sp) hL,(aq al)▸sp _ _ as,aE (aE n λb z e=>sp _ _ e) v,c++[(p,[lnS q.2.1 (sgn a),lnS q.2.1 (sgn b),q.2.1])],?_,?_,?_,?_|?_]]
    .rw[aa,Zd];rfl
    .show aE (fY (aE r λb z e=>sp _ _ e) ∅ gp) v
    .intro t ht;rcases Xm ht with z|z
     .show ac t z
     .rw[Xn z];show%[%[_,_,_,ρ,M5.mpr %[q,qm|jo la]|M5.mpr %[q,qm|jo lb]]|KW (nE g.2.1 (zX g.2.2 la)) (nE g.2.1 (zX g.2.2 lb)) (xQ g.2.1)]
    .rw[Z9,Yj];lia
    .rw[Zd,m,Ze,X9,Z4 hj,Zd,Zd];change _++(_++[_])=_++(_++[mQ q.2.1 ss[j].2]);rw[a0];rfl
   .intro y B %[I,J,rfl,ab,as,n,c,C,r,ac,u|m];rw[an]at u m;rw[Zn (Zi _)]at m;show k3 _ _ %[_,_,_,_,rfl,ab,c,C,r,ac,⋯|λk=>?_];rw[m,mR hq,Ys,Ys,d,Yw,Yw];show Ra OF (Vc λz=>Um λ_=>all2 z)
  .intro y G %[o2,o3,I,J,rfl,sm,ts,hm,U,Y,ah|d];show k2 _ _ ?_;lk;rw[ae]at ah d;rw[Zn (Zi _)]at d;show k L G ts sm hL hm U Y ⋯ d
def mU(T:Txt K mg):↥1 "ties_of_sayings" ["sayings"] mT:=by
 .exists T.bh,c8,ah,hr,%[l,N,qs,rfl,hl,ab,r,ak|k];let G: ~~~(qs\0)= ~~~qs:=Z6 _;show%[_,%["KCF1QBCR~JA0BlLJ2LJ3eEOM)S3DVEYni1AcAS3DAS3DA~[~LV~L~u2~0BBPEI1"|c8.nd]|?_]
  change aV _ _ _ [!l,hH,hH,hH] H;show am λD1 k1 _=>?_
  lk;show%[Xe _|λL O=>k1 _ _ (am λD2 k2 _=>az λae hK=>?_)];lk;show%[_,Qb.of (ai.Qa O _ _ hl)|hK _ _ (jP (λi U n=>E2 λo2 o3=>A3 (U=[!l,!L,o2,o3]) (ai H n) (∃ts:ZH,A5 (n L∣.lst (ts\0)) (aJ n ts) (∀t∈ts,CP N t.2) (~~~ts<=i) (ts\2=cS qs i)))
   %[hH,hH,ρ,ai.Qa O,[],aa,gU _,λt ht=>(nomatch ht),Xe _|ρ] (λi U n _ %[_,_,_,q|_]=>Qb.of (q _ _ hl)) ?_ ?_)]
  .intro i x TT U n hx %[o2,o3,rfl,sm,ts,hm,u,g,v|d] hT;let hi:i< ~~~qs:=by rw[<-G];show(Xl hx).1
   obtain⟨q,Y,rfl⟩:∃q,qs[i]?∣q/\x=V.ref q.1:=by
    rw[Zl,Z4 hi]at hx;show%[qs[i],Z4 hi|(Za hx).symm]
   let s0:=ai.Qa (o:= .tup [.int i,.ref q.1]) hT;let j:ai H (Qa n TT (.tup [.int i,.ref q.1])):=sm.trans s0;let I:Qa n TT (.tup [.int i,.ref q.1]) TT&&&[.int i,.ref q.1]:=aa;let m:=s0 _ _ hm;let c:=aE u λb z e=>s0 _ _ e
   generalize Qa n TT _=HT at j I m c
   let J:=ab q (Z8 Y);show%[_,SqT.of I,ρ,_,_,ρ,_,_,ρ,ρ|?_];change lJ _ _ _ _ [!l,!L,hV (.int i),hV (.ref q.1)] HT;show aA λD4 k4 _=>?_
   lk;let st:=SqT.of (K:=K) (j _ _ J.1);let ag: ~~~(oT (toString (i:on)))<=21:=by
    let e:=PySem.int_text_length_le10 (a:=(i:on)) (k:=20) (!1) (by let:(i:on).natAbs=i:=rfl;lia);rw[PySem.ofString_length];lia
   let e1:(MQ++oT "#").length=1:=!0
   let ea:∀a b:kG,~~~(a++b)= ~~~a+ ~~~b:=λa b=>RM
   let add:∀a b:kG,a∈N->b∈N->iF i q.2∣[a,b,v6 i]->∀p,HT p=hH->∃x,Qa HT p (.tup [.str a,.str b,V.str (MQ++oT "#"++oT (toString (i:on)))]) L<*x/\ ~~~x<lX/\D4.nx [!l,!L,hV (.int i),hV (.ref q.1)] (Qa (Qa HT p (.tup [.str a,.str b,V.str (MQ++oT "#"++oT (toString (i:on)))])) L (.lst (x++[V.ref p]))):=by
    intro a b ma mb ac p hp;let tn:=fO Y;rw[ac,<-d]at tn;unfold v6 at tn
    generalize hz:MQ++oT "#"++oT (toString (i:on))=z at tn ⊢
    let sp:=ai.Qa (o:= .tup [V.str a,V.str b,V.str z]) hp;let gp:=own sp
    generalize Qa HT p _=H4 at sp gp
    let M:=sp _ _ m;let B:∀b z,H4 b&&&z->Qa H4 L (.lst (ts\0 ++[V.ref p])) b&&&z:=λb z e=>by
     let:b≠L:=λe2=>by rw[e2,M]at e;cases e
     rw[aq this];show e
    show%[_,M,by rw[Z6];show aC ⋯|k4 _ _ %[_,_,ρ,ai.set (j.trans sp) O,ts++[(p,[a,b,z])],?_,?_,?_,?_|?_]]
    .rw[aa,Zd];rfl
    .show aE (fY (aE c λb z e=>sp _ _ e) ∅ gp) B
    .intro t ht;rcases Xm ht with z|z
     .show g t z
     .rw[Xn z];show%[%[_,_,_,ρ,ma|mb]|KW (r a ma) (r b mb) (hz▸HS i ⋯)]
    .rw[Z9,Yj];lia
    .rw[tn,Zd];rfl
   rcases J.2 with⟨wd,a,b,e,hw,ma,mb,_⟩|⟨wd,a,y,e,hw,_⟩
   .rw[e]at st;show%[_,st,_,ρ,ρ|bv (λC=>?_) λC=>?_]
    .show%[tyL (Qb.of m),_,st,_,ρ,_,st,_,ρ,cV ⋯,?_,cV (by rw[ea];lia),cV (by rw[ea];lia),#[3]|add a b ma mb (e▸lp (V.str.inj (Zo C)))];let:(i:on).natAbs=i:=rfl
     lia
    .show k4 _ _ %[_,_,rfl,j,ts,m,c,g,⋯|?_];rw[fO Y,e,show iF i [V.str wd,V.str a,V.str b]=hH from ku λz=>C (Zf (by rw[z])),d];show(Zx _).symm
   .rw[e]at st;show%[_,st,_,ρ,ρ|?_];rw[ku (by rcases hw with rfl|rfl<;> decide)];show k4 _ _ %[_,_,rfl,j,ts,m,c,g,⋯|?_];rw[fO Y,e,d];show(Zx _).symm
  .intro U n %[o2,o3,rfl,sm,ts,hm,u,g,v|d];show k2 _ _ ?_;lk;rw[G]at v d;show k L n ts sm O hm u g v d
structure GrF (mg:ZC) (H:Hp) (g c2 c3 c4:kw) (qs:ZO) (ls:ZB) (ts:ZH):Prop where
 at_:∃dx c1,H g∣.ins (aK mg "Ground") dx [("kept_cuts",.ref c1),("kept_sayings",.ref c2),("kept_layers",.ref c3),("kept_ties",.ref c4)]
 a2:H c2∣.lst (qs\0)
 a3:H c3<*ls\3
 a4:H c4∣.lst (ts\0)
 sa:ci H ls qs
 tu:aJ H ts
def GrF.up(h:GrF mg H g c2 c3 a qs c ts)(s:ai H d):GrF mg d g c2 c3 a qs c ts:=by
 let%[f,c1|i]:=h.at_;show%[%[f,c1|s _ _ i],s _ _ h.a2,s _ _ h.a3,s _ _ h.a4,h.sa.up s|aE h.tu λb z e=>s _ _ e]
inductive uI (mg:ZC)
 | mk (g c2 c3 c4 qs ls ts):vs=[.ref g]->GrF mg H g c2 c3 c4 qs ls ts->(∀l,H l=hH->Q (.ref l) (Qa H l (.lst (ls\3))))->uI mg vs H Q E0
inductive qR (mg:ZC)
 | mk (g c2 c3 c4 qs ls ts):vs=[.ref g]->GrF mg H g c2 c3 c4 qs ls ts->(∀l,H l=hH->Q (.ref l) (Qa H l (.lst (qs\0))))->qR mg vs H Q E0
inductive AZ (mg:ZC)
 | mk (g c2 c3 c4 qs ls ts):vs=[.ref g]->GrF mg H g c2 c3 c4 qs ls ts->(∀l,H l=hH->Q (.ref l) (Qa H l (.lst (ts\0))))->AZ mg vs H Q E0
inductive v7 (mg:ZC)
 | mk (g l m dx cs qs):vs=[.ref g,.ref l,.ref m]->H g∣.ins (aK mg "Ground") dx []->H l<*bT cs->H m∣.lst (qs\0)->bM H cs->(cs.map λp=>p.2.1).Nodup->1<= ~~~cs-> ~~~cs<=3->(∀p∈cs,sk p.2.2)-> ~~~(cs.flatMap lyr)<=63->(∀ls,ls.Perm (cs.flatMap lyr)->ci H ls qs)-> ~~~qs<=60->(∀H' ls ts c2 c3 c4,(∀b o,b≠g->H b∣o->H' b∣o)->GrF mg H' g c2 c3 c4 qs ls ts->(∀t∈ts,CP ls t.2)->(∀z∈ls,Sml z)->(∀k,k∈ts\2↔k∈cR cs\/k∈cS qs qs.length)-> ~~~ts<=250->ls.Perm (cs.flatMap lyr)->ls.Pairwise (λa b=>aP b a=hY)->Q .non H')->v7 mg vs H Q E0
def xS(T:Txt K mg):Hv P w K mg base 6 "Ground" ↑"self cuts sayings" (v7 mg):=by
 .exists T.i_Ground,gQ,bb,hr,%[g,l,m,c,cs,qs,rfl,L,hl,hm,d,ak,h1,h8,al,an,v,bc|k];let h3:=h8;let h8: ~~~cs<=8:=by lia
  show%[_,%["KCYH]oA1BCF3H]pA1BCYH]qA2A3BC~W0/<A1BC~W0/<A2BC~W03E~W0*]rAG]sH]tA1BH]uA2BB",gQ.nd|hr]|?_]
  change aV _ _ _ [!g,!l,!m,hH] H;show am λD1 k1 _=>?_
  lk;show%[l,cs,ρ,hl,d,ak,h1,⋯|λH1 s1=>k1 _ _ (am λD2 k2 _=>?_)];lk;show%[l,cs,ρ,s1 _ _ hl,d.up s1,h8,an|λr H2 y s2 f2 h2 M q2=>k2 _ _ (am λD3 k3 _=>?_)];let N:=s1.trans s2;lk;show%[m,r,y,qs,ρ,N _ _ hm,h2,(v y M).up N,⋯|λH3 s3=>k3 _ _ (am λD4 k4 _=>?_)];let j:=N.trans s3;let OC:=T.o_Ground.cls;let ac:∀z∈y,Sml z:=λz hz=>by
   let%[p,n|hz]:=M5.mp (M.mem_iff.mp hz);show HR (d p n).2.1 (d p n).2.2 z hz
  let gl:l≠g:=λe=>by rw[e,L]at hl;cases hl
  let gm:m≠g:=λe=>by rw[e,L]at hm;cases hm
  let gr:r≠g:=λe=>by rw[e,s1 _ _ L]at f2;cases f2
  lk;show%[_,.inl (Qb.of (j _ _ hl))|λc1 B=>%[_,_,_,ai.Qa B _ _ (j _ _ L),OC,T.n_Ground_kept_cuts,(by change 0<1000;decide)|k4 _ _ (am λD5 k5 _=>?_)]];let as:c1≠g:=λe=>by rw[e,j _ _ L]at B;cases B
  let a0:=ai.Qa (o:= .lst (bT cs)) B;let b4:∀b o,b≠g->H3 b∣o->Qa (Qa H3 c1 (.lst (bT cs))) g (.ins (aK mg "Ground") c (eK (!"kept_cuts") (V.ref c1) [])) b∣o:=λb o a e=>by rw[aq a];show a0 _ _ e
  let g4:Qa (Qa H3 c1 (.lst (bT cs))) g (.ins (aK mg "Ground") c (eK (!"kept_cuts") (V.ref c1) [])) g∣.ins (aK mg "Ground") c [("kept_cuts",V.ref c1)]:=aa;let a4:Qa (Qa H3 c1 (.lst (bT cs))) g (.ins (aK mg "Ground") c (eK (!"kept_cuts") (V.ref c1) [])) c1<*bT cs:=by rw[aq as];show aa
  generalize Qa (Qa H3 c1 (.lst (bT cs))) g _=H4 at b4 g4 a4
  let n4:∀b,H4 b=hH->b≠g:=λb a e=>by rw[e,g4]at a;cases a
  lk;show%[_,.inl (Qb.of (b4 _ _ gm (j _ _ hm)))|λc2 O=>%[_,_,_,ai.Qa O _ _ g4,OC,T.n_Ground_kept_sayings,(by change 1<1000;decide)|k5 _ _ (am λD6 k6 _=>?_)]];let U:=n4 c2 O;let sc2:=ai.Qa (o:= .lst (qs\0)) O;let b5:∀b o,b≠g->H4 b∣o->Qa (Qa H4 c2 (.lst (qs\0))) g (.ins (aK mg "Ground") c (eK (!"kept_sayings") (V.ref c2) [("kept_cuts",V.ref c1)])) b∣o:=λb o a e=>(aq a)▸sc2 _ _ e
  let g5:Qa (Qa H4 c2 (.lst (qs\0))) g (.ins (aK mg "Ground") c (eK (!"kept_sayings") (V.ref c2) [("kept_cuts",V.ref c1)])) g∣.ins (aK mg "Ground") c [("kept_cuts",V.ref c1),("kept_sayings",V.ref c2)]:=by rw[aa];rfl
  let a5:Qa (Qa H4 c2 (.lst (qs\0))) g (.ins (aK mg "Ground") c (eK (!"kept_sayings") (V.ref c2) [("kept_cuts",V.ref c1)])) c2∣.lst (qs\0):=(aq U)▸aa
  generalize Qa (Qa H4 c2 (.lst (qs\0))) g _=H5 at b5 g5 a5
  lk;show%[_,_,_,g5,OC,T.n_Ground_kept_layers,(by change 2<1000;decide)|k6 _ _ (aA λD7 k7 _=>?_)];let b6:∀b o,b≠g->H5 b∣o->Qa H5 g (.ins (aK mg "Ground") c (eK (!"kept_layers") (V.ref r) [("kept_cuts",V.ref c1),("kept_sayings",V.ref c2)])) b∣o:=λb o a e=>(aq a)▸e
  let g6:Qa H5 g (.ins (aK mg "Ground") c (eK (!"kept_layers") (V.ref r) [("kept_cuts",V.ref c1),("kept_sayings",V.ref c2)])) g∣.ins (aK mg "Ground") c [("kept_cuts",V.ref c1),("kept_sayings",V.ref c2),("kept_layers",V.ref r)]:=by rw[aa];rfl
  generalize Qa H5 g _=H6 at b6 g6
  let ae:∀b o,b≠g->H3 b∣o->H6 b∣o:=λb o a e=>b6 b o a (b5 b o a (b4 b o a e))
  let u:∀b o,b≠g->H b∣o->H6 b∣o:=λb o a e=>ae b o a (j _ _ e)
  let ag:bM H6 cs:=λp n=>%[u _ _ (λe=>by let:=(d p n).1;rw[e,L]at this;cases this) (d p n).1|(d p n).2]
  let i:ci H6 y qs:=λq Y=>%[u _ _ (λe=>by let:=(v y M q Y).1;rw[e,L]at this;cases this) (v y M q Y).1|(v y M q Y).2]
  lk;show%[l,cs,ρ,u _ _ gl hl,ag,al,h3|λt1 H7 ts s7 f7 h7 a1 ab be a2=>?_];lk;show%[m,y,qs,ρ,s7 _ _ (u _ _ gm hm),i.up s7,ac,⋯|λt2 H8 us s8 f8 a3 a6 ah bf ba=>?_];lk;let J:aJ H8 (ts++us):=qM (aE a1 λb z e=>s8 _ _ e) a6;let g8:=s8 _ _ (s7 _ _ g6);show%[_,s8 _ _ h7,_,a3,by rw[Z6,Z6,PySem.sizeLine_eq];lia|λp n=>%[ts++us,Zd▸Qb.of aa,aE J λb z e=>ai.Qa n _ _ e,3,?_,!1,by rw[Z9];lia|λc4 ss C G=>%[_,_,_,ai.Qa C _ _ (ai.Qa n _ _ g8),OC,T.n_Ground_kept_ties,(by change 3<1000;decide)|k7 _ _ ?_]]]
  .intro t ht;rcases Xm ht with z|z
   .show(ab t z).1.three
   .show(ah t z).1.three
  .let b9:∀b o,b≠g->H8 b∣o->Qa (Qa (Qa H8 p (.lst (ts\0 ++us\0))) c4 (.lst (ss\0))) g (.ins (aK mg "Ground") c (eK (!"kept_ties") (V.ref c4) [("kept_cuts",V.ref c1),("kept_sayings",V.ref c2),("kept_layers",V.ref r)])) b∣o:=λb o a e=>(aq a)▸((ai.Qa (o:= .lst (ts\0 ++us\0)) n).trans (ai.Qa (o:= .lst (ss\0)) C)) _ _ e
   let I:∀b o,b≠g->H6 b∣o->_:=λb o a e=>b9 b o a (s8 _ _ (s7 _ _ e))
   show k _ y ss c2 r c4 (λb o a e=>I b o a (u b o a e)) %[%[c,c1|?_],?_,?_,?_,?_|?_] (λt ht=>?_) ac (λk=>by rw[(G.map _).mem_iff,Zd,Ys,a2,ba]) (by rw[G.length_eq,Z9];lia) M q2
   .rw[aa];rfl
   .show I _ _ U (b6 _ _ U a5)
   .show I _ _ gr (ae _ _ gr (s3 _ _ h2))
   .rw[aq (λe=>by rw[e,ai.Qa n _ _ g8]at C;cases C)];show aa
   .show λq Y=>%[I _ _ (λe=>by let:=(i q Y).1;rw[e,g6]at this;cases this) (i q Y).1|(i q Y).2]
   .intro t ht;let:=J t (G.mem_iff.mp ht);show%[this.1|b9 _ _ (λe=>by let q:=this.2;rw[e,g8]at q;cases q) this.2]
   .rcases Xm (G.mem_iff.mp ht)with z|z
    .show%[(ab t z).1.mono λx=>M.mem_iff.mpr|(ab t z).2]
    .show ah t z
def fi(T:Txt K mg):Ci P w K mg base 1 "Ground" "layers" ["self"] (uI mg):=by
 .exists T.m_Ground_layers,nA,b,j,%[g,c2,c3,c,qs,d,ts,rfl,a|k];let%[m,c1|e]:=a.at_;show%[_,%["KEI/<A~x0B"|0]|?_];change iY _ _ [hV _] H;lk;show%[_,_,_,e,T.o_Ground.cls,T.n_Ground_kept_layers,_,ρ,_,.inl (Qb.of a.a3)|λl i=>k l i]
def dJ(T:Txt K mg):Ci P w K mg base 1 "Ground" "sayings" ["self"] (qR mg):=by
 .exists T.m_Ground_sayings,mH,b,j,%[g,c2,c3,c,qs,d,ts,rfl,a|k];let%[m,c1|e]:=a.at_;show%[_,%["KEI/<A~x0B"|0]|?_];change iY _ _ [hV _] H;lk;show%[_,_,_,e,T.o_Ground.cls,T.n_Ground_kept_sayings,_,ρ,_,.inl (Qb.of a.a2)|λl i=>k l i]
def sI(T:Txt K mg):Ci P w K mg base 1 "Ground" "ties" ["self"] (AZ mg):=by
 .exists T.m_Ground_ties,qC,b,j,%[g,c2,c3,c,qs,d,ts,rfl,a|k];let%[m,c1|e]:=a.at_;show%[_,%["KEI/<A~x0B"|0]|?_];change iY _ _ [hV _] H;lk;show%[_,_,_,e,T.o_Ground.cls,T.n_Ground_kept_ties,_,ρ,_,.inl (Qb.of a.a4)|λl i=>k l i]
def emB{p q:on}(e:97+(p%26).toNat=97+(q%26).toNat):(p-q)%26=0:=on.emod_eq_emod_iff_emod_sub_eq_zero.mp ((RA (Oi p (show(26:on)≠0 by decide))).symm.trans ((rM on.ofNat (Rz e)).trans (RA (Oi q (show(26:on)≠0 by decide)))))
def A2{r a w:on}(d:0<=r)(f:r<16)(b:0<=a)(c:a<16)(e:ltr r w=ltr a w):r=a:=by
 let all:∀m∈[(1:on),25,7,5],∀x y:Fin 16,((x.1:on)*m-y.1*m)%26=0->x=y:=!0
 let mm:mlt w∈[(1:on),25,7,5]:=by
  unfold mlt
  split
  .show .head _
  .split
   .show .tail _ (.head _)
   .split
    .show .tail _ (.tail _ (.head _))
    .show .tail _ (.tail _ (.tail _ (.head _)))
 let%[x|rfl]:=Xh d;let%[y|rfl]:=Xh b;let k:=emB e;rw[on.add_sub_add_right]at k;show rM (λk:Fin 16=>(k.1:on)) (all _ mm %[x|XP.mp f] %[y|XP.mp c] k)
def uJ(n:kG):MQ++n=n:=lT (by change(([].toArray) ++n.cps).toList=_;simp)
def jp(n z:kG):n++oT "."++z=lnS n z:=by unfold lnS;rw[uJ]
def v8{n:kG}{c a:iv}(e:lnS n (sgn c)=lnS n (sgn a)):c=a:=by
 let:=rM (λz:kG=>z.cps.toList) e;let:((MQ++n++oT ".").cps++ ([c].toArray)).toList=((MQ++n++oT ".").cps++ ([a].toArray)).toList:=this;simpa using this
abbrev zY(rows:ZB)(c:iv):re:=rows.any λz=>decide (c∈z.cps.toList)
abbrev lD(nm:kG)(w:on)(rows:ZB)(n:iv):gN (kG×on):=((p0 n).filter λr:iv=>zY rows (ltr r w)).map λr:iv=>(lnS nm (sgn (ltr r w)),(r:on))
abbrev rkD(rs:gN (kG×on)):gN (Key×V):=rs.map λp=>(kj p.1,V.int p.2)
def qS(p:kG->re):∀rows:ZB,decide ((rows.filter p)\3≠[])=rows.any p
 |[]=>rfl
 | z::r=>by
   let:=qS p r;cases c:p z
   .rw[Y3,c,Zw,c];show this
   .rw[Y3,c,Zw,c];rfl
def Ba(nm:kG)(w:on)(rows:ZB)(n:iv):lD nm w rows (n+1)=lD nm w rows n++if zY rows (ltr n w)=hX then [(lnS nm (sgn (ltr n w)),(n:on))]else []:=by
 unfold lD;rw[PL,Y2,Zd]
 congr 1
 by_cases c:zY rows (ltr n w)=hX
 .rw[lp c,Y3,lp c];rfl
 .rw[ku c,Y3,ku c];rfl
def v9{z:kG}:∀{rs:gN (kG×on)},z∉rs\1->bQ (rkD rs) (kj z)=hH
 |[],_=>rfl
 | p::rs,h=>by
   rw[Yp,Yv,Pr]at h;rw[show rkD (p::rs)=(kj p.1,V.int p.2)::rkD rs from rfl,dB (λq=>h.1 (NX q).symm)];show v9 h.2
def KY{nm:kG}{w:on}{rows:ZB}{n:iv}(h:n<16):lnS nm (sgn (ltr n w))∉(lD nm w rows n)\1:=λa=>by
 let%[p,b|e]:=Xo a;let%[r,c|rfl]:=Xo b;let:=zp.mp (o0.mp c).1;let:=A2 ⋯ ⋯ ⋯ ⋯ (v8 e)
 lia
inductive xT
 | mk (nm:kG) (w:on) (l:kw) (rows:ZB):vs=[.str nm,.int w,.ref l]->0<=w->w<=110-> ~~~nm<=8->H l<*rows\3-> ~~~rows<=100->(∀d H',ai H H'->H d=hH->H' d∣.dK (rkD (lD nm w rows 16))->Q (.ref d) H')->xT vs H Q E0
def xU(T:Txt K mg):↥2 "_law_ranks" ↑"~name ~way ~rows" xT:=by
 .exists T.bz,fM,ab,J,%[nm,w,l,rows,rfl,w0,w1,nl,hl,rl|kk];show%[_,%["KCF3xCR&ADBJ4C;5tuH~iA4A1BEOM^kd?1U2Z0?2zM]vT100QBEr43G!G!0VT5PEI3",fM.nd,↑(↑"~row ~letter_here",[(1,5)]),↑["_law_row","_law_letter_here"]|J]|?_]
  change aV _ _ _ [-nm,hV (.int w),!l,hH,hH,hH] H;show am λD1 k1 _=>?_
  lk;show λd L=>k1 _ _ (am λD2 k2 _=>az λm M=>?_)
  lk;show%[!1,!1|M _ _ (cz (λi g U=>E2 λN v=>A3 (g=[-nm,hV (.int w),!l,!d,N,v]) (ai H U) (U d∣.dK (rkD (lD nm w rows i)))) %[_,_,ρ,ai.Qa L|aa] ?_ ?_)]
  .intro i g y hi %[N,v,rfl,B|j];change aV _ _ _ [-nm,hV (.int w),!l,!d,hV (.int (0+i)),v] y;rw[O9];show am λD3 k3 _=>?_
   lk;show%[i,w,ρ,⋯,⋯,w0,w1|λH2 Y=>k3 _ _ (aA λD4 k4 _=>?_)];lk;show aI λm M=>?_
   lk;let n:=Y _ _ (B _ _ hl);show%[%[_|Qb.of n]|M _ _ λF hF=>?_];show cg (λq ts g C=>A4 (∃o,g=[o,hV (.str (sgn (ltr i w)))]) (ai H2 C) (C F<*ts) (ts=((rows.take q).filter λz=>decide (ltr i w∈z.cps.toList))\3))
    %[%[hH|rfl],ai.Qa hF,aa|rfl] (λ_ _ _ H4 %[_,G,_|_]=>G _ _ n) ?_ ?_
   .intro q ts g H4 O %[%[o|rfl],I,a|r];lk;rw[show(!(KE rows[q] (sgn (ltr i w)) 0 rows[q].length 1).isEmpty)=decide (ltr i w∈rows[q].cps.toList)from vf _ _];let tk:∀b,decide (ltr i w∈rows[q].cps.toList)=b->((rows.take (q+1)).filter λz=>decide (ltr i w∈z.cps.toList))\3=ts++if b=hX then [V.str rows[q]]else []:=λb hb=>by
     rw[r,X9,Z4 O,Y2,Zd]
     congr 1
     change R9 V.str (Ou _ [rows[q]])=_;rw[Y3,hb];cases b<;> rfl
    show .inl (bv (λc=>CK.mk O a (by rw[r,Z6];show aC (nI (Yh _ _) (by rw[Yk];lia))) %[%[_|rfl],ai.set I hF,aa|?_]) λc=>CN.mk O %[%[_|rfl],I,a|?_])
    .rw[tk _ c];rfl
    .rw[tk hY ↑c];simp
   .intro ts g C %[_,I,a|r];rw[Xc]at r;let e:decide (ts≠[])=zY rows (ltr i w):=by
     rw[r];show qS _ rows
    show%[Xe _|λp hp=>%[ts,ai.Qa hp _ _ a,aa|?_]];rw[e,jp];let G:ai y (Qa C p (.lst [])):=(Y.trans I).trans (ai.Qa hp);let u:=G _ _ j;let sH:=B.trans G;show bv (λc=>?_) λc=>?_
    .let:=Ba nm w rows i;rw[lp c]at this;show%[by rw[PySem.sizeLine_eq];change ~~~nm+1<=_;lia,by rw[PySem.sizeLine_eq,Qm];change ~~~nm+1+1<=_;lia,_,fA.k (k:=kj (lnS nm (sgn (ltr i w)))) u (by unfold rkD lD;rw[Z6,Z6];show aC (nI (Yh _ _) (by rw[Yi];lia)))|k4 _ _ %[_,_,ρ,ai.set sH L|?_]];rw[aa,dC _ (v9 (KY hi)),this];unfold rkD;rw[Zd];rfl
    .show k4 _ _ %[_,_,rfl,sH|?_];rw[u,Ba,ku c,Zx]
  .intro g y %[N,v,rfl,B|j];show k2 _ _ ?_;lk;show kk d y B L j
abbrev sJ(c:on):kG:=if c%3=0 then oT "pit" else if c%3=1 then oT "a" else oT "zone"
abbrev nmN(c1 c2:on)(k:iv):kG:=sJ c1++sgn (97+((c2+9*k)%26).toNat)
def KZ{c:on}:gx (97+(c%26).toNat)=hX:=by
 let all:∀i:Fin 26,gx (97+i.1)=hX:=!0
 show all %[(c%26).toNat|⋯]
def FE(c1 c2:on)(k:iv):gW (nmN c1 c2 k)=hX:=by
 let p:∀z:kG,~~~z<=7->z.cps.toList.all gx=hX->gW (z++sgn (97+((c2+9*k)%26).toNat))=hX:=λz c a=>by
  let b: ~~~(z++sgn (97+((c2+9*k)%26).toNat))= ~~~z+1:=Qm _ _;unfold gW;rw[b,show(z++sgn (97+((c2+9*k)%26).toNat)).cps.toList=z.cps.toList++[97+((c2+9*k)%26).toNat] by change(z.cps++ ([_].toArray)).toList=_;simp,gN.all_append,a];simp only[Zv,MW];show%[%[⋯|⋯],M8|by rw[VV,KZ];rfl]
 unfold nmN sJ
 split
 .show p _ (!0) (!0)
 .split
  .show p _ (!0) (!0)
  .show p _ (!0) (!0)
def Bb{c1 c2:on}{k a:iv}(h:k<3)(h':a<3)(e:nmN c1 c2 k=nmN c1 c2 a):k=a:=by
 let e:((sJ c1).cps++ ([97+((c2+9*k)%26).toNat].toArray)).toList=((sJ c1).cps++ ([97+((c2+9*a)%26).toNat].toArray)).toList:=rM (λz:kG=>z.cps.toList) e;let:97+((c2+9*k)%26).toNat=97+((c2+9*a)%26).toNat:=↑e
 let all:∀x y:Fin 3,(9*(x.1:on) -9*y.1)%26=0->x=y:=!0
 let e:=emB this;rw[on.add_sub_add_left]at e;show rM (λk:Fin 3=>k.1) (all %[k|h] %[a|h'] e)
def qT{n a:kG}{c b:iv}(e:lnS n (sgn c)=lnS a (sgn b)):n=a:=by
 rw[<-jp,<-jp]at e;let e:(n.cps++ ([46].toArray) ++ ([c].toArray)).toList=(a.cps++ ([46].toArray) ++ ([b].toArray)).toList:=rM (λz:kG=>z.cps.toList) e;let e:n.cps.toList++[46,c]=a.cps.toList++[46,b]:=↑e
 show lT (gN.append_inj_left' e rfl)
structure xV (cs:ZI) (rs:gN (kG×on)):Prop where
 dr:∀p∈cs,∃w cols hi,iw w cols hi/\p.2.2=bL cols hi
 rk:∀q∈rs,q.1∈cs.flatMap lyr/\0<=q.2/\q.2<16
 nd:(rs\1).Nodup
 len: ~~~rs<=16* ~~~cs
 ne:cs≠[]->rs≠[]
def xW:∀{more rs:gN (kG×on)},((rs++more)\1).Nodup->i4 (rkD rs) (rkD more)=rkD (rs++more)
 |[],rs,_=>by rw[Zx];rfl
 | p::more,rs,h=>by
   let e:rs++p::more=(rs++[p]) ++more:=by simp
   let a:p.1∉rs\1:=by
    rw[Zd,X1]at h;show λq=>h.2.2 _ q p.1 Zm rfl
   rw[e]at h ⊢;rw[<-xW h];change i4 (dw (rkD rs) (kj p.1) (V.int p.2)) (rkD more)=_;rw[dC _ (v9 a)];unfold rkD;rw[Zd];rfl
def FF{p:kw×kG×ZB}{z:kG}(h:z∈lyr p):∃c,z=lnS p.2.1 (sgn c):=by
 let%[y,a|rfl]:=Xo h;let%[c,_|rfl]:=Xo (aZ.mp a);show%[c|ρ]
def qU{nm:kG}{w:on}{rows:ZB}{n:iv}{q:kG×on}:q∈lD nm w rows n↔∃r:iv,r<n/\zY rows (ltr r w)=hX/\q=(lnS nm (sgn (ltr r w)),(r:on)):=by
 unfold lD;rw[Yw];simp only[o0,zp];show%[λ%[r,%[a|b]|e]=>%[r,a,b|e.symm]|λ%[r,a,b|e]=>%[r,%[a|b]|e.symm]]
def xX{rows:ZB}{c:iv}(h:c≠46):zY rows c=hX↔Let rows c:=by
 unfold zY Let;rw[Sm];show%[λ%[z,a|b]=>%[h,z,a|Zo b]|λ%[_,z,a|b]=>%[z,a|Zf b]]
def xV.snoc{cs:ZI}{rs:gN (kG×on)}(h:xV cs rs){a:kw}{nm:kG}{w:on}{b:gN (gN iv)}{hi:iv}(d:iw w b hi)(fr:nm∉cs.map (·.2.1)):xV (cs++[(a,nm,bL b hi)]) (rs++lD nm w (bL b hi) 16):=by
 show%[λp g=>?_,λq f=>?_,?_,?_|λ_=>?_]
 .rcases Xm g with g|g
  .show h.dr p g
  .rw[Xn g];show%[w,b,hi,d|ρ]
 .rw[Px,Ys];rcases Xm f with f|f
  .show%[.inl (h.rk q f).1|(h.rk q f).2]
  .let%[r,m,o|rfl]:=qU.mp f;show%[.inr (M5.mpr %[_,gN.mem_singleton_self _|jo (p:=(a,nm,bL b hi)) ((xX (lA _ _)).mp o)]),by change(0:on)<=(r:on);lia|by change(r:on)<16;lia]
 .rw[Zd,X1];show%[h.nd,?_|λx i y j e=>?_]
  .unfold lD;rw[Yq,X2,Pq];show Xg (λ{x y} i j n e=>n ?_) (X2.mp (RP.filter _));let s:=zp.mp (o0.mp i).1;let B:=zp.mp (o0.mp j).1;let:=A2 ⋯ ⋯ ⋯ ⋯ (v8 e)
   lia
  .let%[p,g|rfl]:=Xo i;let%[q,f|rfl]:=Xo j;let%[c,u|v]:=M5.mp (h.rk p g).1;let%[l|z]:=FF v;let%[r,_,_|rfl]:=qU.mp f;show fr (Xp %[c,u|qT (z.symm.trans e)])
 .rw[Z9,Z9,Yj];let s:=h.len;let: ~~~(lD nm w (bL b hi) 16)<=16:=by
   unfold lD;rw[Z6];show nI (Yh _ _) (by rw[Yi];lia)
  lia
 .let%[r,A,m|l]:=d.ex;let%[r|rfl]:=Xh A;intro e;let:(lnS nm (sgn (ltr r w)),(r:on))∈rs++lD nm w (bL b hi) 16:=mem_append.mpr (.inr (qU.mpr %[r,⋯,(xX (lA _ _)).mpr l|rfl]));rw[e]at this;show nomatch this
inductive Bc (K:ZA)
 | mk (a:kw) (ns:ZM):vs=[.ref a]->Qb K H a (ns\4)->(∀(t l1 l2:kw) H' (cs:ZI) (rs:gN (kG×on)),ai H H'->H' t<*[.ref l1,.ref l2]->H l1=hH->H' l1<*bT cs->H' l2∣.dK (rkD rs)->1<= ~~~cs-> ~~~cs<=3->bM H' cs->(cs.map (·.2.1)).Nodup->xV cs rs->Q (.ref t) H')->Bc K vs H Q E0
def qV(T:Txt K mg):↥3 "_law_cuts" ↑"~script" (Bc K):=by
 .exists T.bA,dF,bb,hr,%[a,ns,rfl,hs|kk];show%[_,%["KCF1H_A0ADADADBCF2QBCF3xCR&AGbDGWN1DDBJ4CF5G!NQAVAVAVBGWN1DD~BVGWGbN1DG$D4DCF6H]wAH_A0AGbD4ADADBAN1GbD4BCYni2AcA5A~T~UVA6BBBEY~1~23AH]xA5AN1GbD4A6BBEIQA2A3B",dF.nd|hr]|?_]
  change aV _ _ _ [!a,hH,hH,hH,hH,hH,hH] H;show am λD1 k1 _=>?_
  lk;show%[a,ns,1,26,6,ρ,hs,!1,!1,!1,!1,!1,!1|λhd H1 xs s1 _ L hx hb=>k1 _ _ (am λD2 k2 _=>?_)];let get:∀i:on,0<=i->i<6->∃c,atI (xs\4) i∣V.int c/\0<=c/\c<26:=λi h0 h1=>by
   let%[c,e|hm]:=mI xs h0 (by rw[hx];show h1);show%[c,e|hb c hm]
  let%[c0,g0,l0|u0]:=get 0 (!1) (!1);let%[c1,g1,l1|u1]:=get 1 (!1) (!1);let%[c2,g2,l2|u2]:=get 2 (!1) (!1);lk;show%[Xe _|λC hC=>k2 _ _ (am λD3 k3 _=>?_)];let sC:=s1.trans (ai.Qa (o:= .lst []) hC);lk;show λD hD=>k3 _ _ (am λD4 k4 _=>az λba hK=>?_)
  let sD:=ai.Qa (o:= .dK []) hD;let ab:C≠D:=λe=>by rw[e,aa]at hD;cases hD
  let fC:=s1.free hC;let ak:hd≠C:=λe=>by rw[e,hC]at L;cases L
  let fD:=sC.free hD;let ac:=sD _ _ (ai.Qa (o:= .lst []) hC _ _ L);lk;obtain⟨n,en,n1,n3⟩:∃n:iv,1+c0%3=n/\1<=n/\n<=3:=%[(1+c0%3).toNat,(by lia -verbose),(by lia -verbose)|(by lia -verbose)]
  show%[_,Qb.of ac,_,g0,!1|?_];rw[en];show%[(by lia -verbose),(by lia -verbose)|hK _ _ (cz (λi σ v=>E5 λ(o4 o5 o6:lx V) (cs:ZI) (rs:gN (kG×on))=>A8 (σ=[!a,!hd,!C,!D,o4,o5,o6]) (ai H v) (v hd<*xs\4) (v C<*bT cs) (v D∣.dK (rkD rs)) (bM v cs) (xV cs rs) (cs.map (·.2.1)=(p0 i).map (nmN c1 c2)))
   %[_,_,_,[],[],ρ,sC.trans sD,ac,sD _ _ aa,aa,(λ_ h=>nomatch h),%[(λ_ h=>nomatch h),(λ_ h=>nomatch h),X3,Xe _|λh=>(h rfl).elim]|ρ] ?_ ?_)]
  .intro i σ v hi %[o4,o5,o6,cs,rs,rfl,sm,j,u,B,l,ok|m];change aV _ _ _ [!a,!hd,!C,!D,hV (.int (0+i)),o5,o6] v;rw[O9];let i3:i<3:=by lia -verbose
   let%[cw,gw,lw|uw]:=get (3+i) (by lia -verbose) (by lia -verbose);show am λD5 k5 _=>?_
   lk;show%[#[3]|λp hp=>?_];let sp:=ai.Qa (o:= .lst [V.str (!"pit"),V.str (!"a"),V.str (!"zone")]) hp;show%[_,Qb.of (sp _ _ j),_,g1,!1,_,Qb.of aa,.str (sJ c1),?_,_,Qb.of (sp _ _ j),_,g2,.inl %[!1|!1],!1,#[26],_,Fz (by lia -verbose) (by lia -verbose),?_|k5 _ _ (am λD6 k6 _=>?_)]
   .unfold sJ;rcases(show c1%3=0\/c1%3=1\/c1%3=2 by lia -verbose)with e|e|e<;> rw[e]<;> rfl
   .let: ~~~(sJ c1)<=4:=by
     unfold sJ
     split
     .decide +kernel
     .split<;> decide +kernel
    rw[PySem.sizeLine_eq];change(sJ c1).length+1<=_
    lia -verbose
   let ae:gW (nmN c1 c2 i)=hX:=FE c1 c2 i;let al:nmN c1 c2 i∉cs.map (·.2.1):=λh=>by
    rw[m]at h;let%[k,hk|e]:=Xo h;let:=zp.mp hk;let:=Bb (by lia -verbose) i3 e
    lia -verbose
   let ag:∀q:kw,∀r,(cs++[(q,nmN c1 c2 i,r)]).map (λp:kw×kG×ZB=>p.2.1)=(p0 (i+1)).map (nmN c1 c2):=λq r=>by rw[Zd,m,PL,Zd];rfl
   let an:sJ c1++(⟨([97+((c2+9*(i:on))%26).toNat].toArray)⟩:kG)=nmN c1 c2 i:=rfl;rw[an];lk;let bc:=hp
   generalize Qa v p _=H2 at sp
   show%[a,ns,2+i,6,30,ρ,(sm.trans sp).seq hs,(by lia -verbose),(by lia -verbose),!1,!1,!1,!1|λds H3 ys s3 _ as hy a0=>%[_,Qb.of ((sp.trans s3) _ _ j),_,gw,ds,ys,cw,ρ,Qb.of as,hy,a0,lw,(by lia -verbose)|λR H4 g I s4 fR hR dr=>k6 _ _ (am λD7 k7 _=>?_)]];let s5:=sp.trans (s3.trans s4);let M:=s5 _ _ u;lk;let cl: ~~~cs=i:=by let:=rM MV m;rwa[Z6,Z6,Yi]at this
   show%[tyL (Qb.of M),bL g I,Qb.of hR,?_,#[2]|λt ht=>?_]
   .let:=dr.cut.sum;let:=dr.cut.high;rw[show(!"\n").length=1 from rfl]
    lia -verbose
   let ej:Txt.join (!"\n") (bL g I)=vk nl (bL g I):=OV _ _;rw[ej];let st:=ai.Qa (o:= .tup [V.str (nmN c1 c2 i),V.str (vk nl (bL g I))]) ht;let gt:=own st
   generalize Qa H4 t _=H5 at st gt
   let a1:t≠C:=λe=>by rw[e,M]at ht;cases ht
   show%[_,st _ _ M,by unfold bT;rw[Z6,cl];show aC (by lia -verbose)|k7 _ _ (aA λD8 k8 _=>?_)];let N:∀b o,b≠C->v b∣o->Qa H5 C (.lst (bT cs++[V.ref t])) b∣o:=λb o n e=>by rw[aq n];show st _ _ (s5 _ _ e)
   let a2:Qa H5 C (.lst (bT cs++[V.ref t])) C<*bT (cs++[(t,nmN c1 c2 i,bL g I)]):=by rw[aa];unfold bT;rw[Zd];rfl
   lk;let a3:R≠C:=λe=>by rw[e,(sp.trans s3) _ _ u]at fR;cases fR
   let sC:ai H (Qa H5 C (.lst (bT cs++[V.ref t]))):=ai.set (sm.trans (s5.trans st)) fC;let G:=N _ _ (J0 ab) B;let O:bM (Qa H5 C (.lst (bT cs++[V.ref t]))) (cs++[(t,nmN c1 c2 i,bL g I)]):=λq J=>by
    rcases Xm J with z|z
    .show%[N _ _ (λe=>?_) (l q z).1|(l q z).2];let:=(l q z).1;rw[e,u]at this;cases this
    .rw[Xn z];show%[by rw[aq a1];show gt,ae|dr.cut]
   let U:=ok.snoc (a:=t) dr al;let ah:=N _ _ ak j;show%[tyD G,_,Qb.of ah,_,gw,_,_,_,_,ρ,lw,(by lia -verbose),iS ae,(by rw[aq a3];show st _ _ hR),?_|λd H7 s7 fd a4=>?_]
   .let:=dr.cut.high
    lia -verbose
   let a5:D≠d:=λe=>by rw[<-e,G]at fd;cases fd
   let a6:=s7 _ _ G;let Y:∀b o,b≠D->Qa H5 C (.lst (bT cs++[V.ref t])) b∣o->Qa H7 D (.dK (i4 (rkD rs) (rkD (lD (nmN c1 c2 i) cw (bL g I) 16)))) b∣o:=λb o n e=>by rw[aq n];show s7 _ _ e
   show%[d,ρ,_,_,a5,a6,a4,?_|k8 _ _ %[_,_,_,_,_,ρ,ai.set (sC.trans s7) fD,Y _ _ (λe=>by rw[e,B]at j;cases j) ah,Y _ _ ab a2,by rw[aa,xW U.nd],λq J=>?_,U|ag _ _]]
   .let:=U.len;rw[Z9]at this;unfold rkD;rw[Z6,Z6];rw[Z9,Yj,cl]at this;show Ye (aC (by lia -verbose))
   .show%[Y _ _ (λe=>?_) (O q J).1|(O q J).2];let:=(O q J).1;rw[e,G]at this;cases this
  .intro σ v %[o4,o5,o6,cs,rs,rfl,sm,j,u,B,l,ok|m];show k4 _ _ ?_;lk;show%[#[2]|λp hp=>?_];let sp:=ai.Qa (o:= .lst [V.ref C,V.ref D]) hp;let cl: ~~~cs=n:=by let:=rM MV m;rw[Z6,Z6,Yi]at this;lia -verbose
   show kk p C D _ cs rs (sm.trans sp) aa fC (sp _ _ u) (sp _ _ B) (by lia -verbose) (by lia -verbose) (λq J=>%[sp _ _ (l q J).1|(l q J).2]) ?_ ok;rw[m,X2,Pq];show Xg (λ{x y} hx hy ne e=>ne (Bb ?_ ?_ e)) (X2.mp RP)
   .let:=zp.mp hx;lia -verbose
   .let:=zp.mp hy;lia -verbose
def wa{rs:gN (kG×on)}(nd:(rs\1).Nodup){z:kG}(h:z∈rs\1):∃r,(z,r)∈rs/\bQ (rkD rs) (kj z)∣V.int r:=by
 induction rs with
 | nil=>show nomatch h
 | cons p rs a=>
   rw[Yp,NZ]at nd;by_cases e:p.1=z
   .subst e;show%[p.2,Zm|eX rfl]
   .let%[r,b|c]:=a nd.2 ((Yv.mp h).resolve_left λq=>e q.symm);show%[r,Zk _ b|?_];rw[show rkD (p::rs)=(kj p.1,V.int p.2)::rkD rs from rfl,dB (λq=>e (NX q))];show c
inductive FG
 | mk (one other:kG) (d:kw) (rs:gN (kG×on)):vs=[.str one,.str other,.ref d]->H d∣.dK (rkD rs)->(rs\1).Nodup->one∈rs\1->other∈rs\1->(∀(t:kw) H' (w a b:kG),ai H H'->H t=hH->H' t&&&[.str w,.str a,.str b]->(w="later"\/w="same")->((a=one/\b=other)\/(a=other/\b=one))->Q (.ref t) H')->FG vs H Q E0
def fj{xs:ZM}{m:iv}(f: ~~~xs=m)(a:∀x∈xs,0<=x/\x<211)(i:on)(b:0<=i)(g:i<m):∃c,atI (xs\4) i∣V.int c/\0<=c/\c<211:=by
 let%[c,e|d]:=mI xs b ⋯;show%[c,e|a c d]
def pf{ys:ZB}(n:on)(d:0< ~~~ys):∃z,atI (ys\3) (n%(~~~ys:on))∣V.str z/\z∈ys:=by
 let a:=Oi n (show(~~~ys:on)≠0 by lia);let c:=Qe n (show(0:on)<(~~~ys:on) by lia)
 generalize n%(~~~ys:on)=i at a c
 let%[j|rfl]:=Xh a;let b:j< ~~~ys:=by lia
 show%[ys[j],cj (by simp[b])|Yc b]
def CQ(T:Txt K mg):↥1 "_law_tie" ↑"~one ~other ~ranks_here" FG:=by
 .exists T.bB,zU,m,g,%[one,c,d,rs,rfl,i,nd,n,o|q];let%[r,C|v1]:=wa nd n;let%[u,m2|v]:=wa nd o;let j:cc H d (.str one) (hV (.int r)):=v1▸cc.k (k:=kj one) i;let l:cc H d (.str c) (hV (.int u)):=v▸cc.k (k:=kj c) i;show%[_,%["KCOM~SX20X21EIcAVA0A1BPCOM~AX20X21EIcAVA1A0BPEIcAVA0A1B",0|g]|?_]
  change aV _ _ _ [-one,-c,!d] H;let tup:∀(w a b:kG),(w="later"\/w="same")->((a=one/\b=c)\/(a=c/\b=one))->[V.str w,V.str a,V.str b].length<=lX/\∀(p:kw),H p=hH->Q (.ref p) (Qa H p (.tup [.str w,.str a,.str b])):=λw a b hw h=>%[#[3]|λp e=>q p _ w a b (ai.Qa e) e aa hw h]
  show am λG k1 z=>?_
  lk;show%[_,j,_,l|bv (λ_=>?_) λ_=>k1 _ _ (am λI k2 B=>?_)]
  .let%[x|y]:=tup "later" one c (.inl rfl) (.inl %[rfl|rfl]);show%[x|λp e=>z _ _ (y p e)]
  lk;show%[_,j,_,l|bv (λ_=>?_) λ_=>k2 _ _ ?_]
  .let%[x|y]:=tup "later" c one (.inl rfl) (.inr %[rfl|rfl]);show%[x|λp e=>B _ _ (y p e)]
  lk;show tup "same" one c (.inr rfl) (.inl %[rfl|rfl])
inductive Bd (K:ZA)
 | mk (l d:kw) (xs:ZM) (rs:gN (kG×on)) (torn wild:re):vs=[.ref l,.ref d,.bl torn,.bl wild]->H l<*xs\4-> ~~~xs=6->(∀x∈xs,0<=x/\x<211)->H d∣.dK (rkD rs)->(rs\1).Nodup->rs≠[]-> ~~~rs<=63->(∀q∈rs,0<=q.2/\q.2<16)->(∀(t:kw) H' (xs:ZN),ai H H'->H' t&&&xs->kU (rs\1) xs->Q (.ref t) H')->Bd K vs H Q E0
def zZ(T:Txt K mg):↥2 "_law_said" ↑"~digits_here ~ranks_here ~torn ~wild" (Bd K):=by
 .exists T.bC,cY,a5,hr,%[l,d,xs,rs,g,i,rfl,hl,hx,hb,hd,nd,ne,rl,rb|kk];let%[c0,g0,l0|u0]:=fj hx hb 0 (!1) (!1);let%[c1,g1,l1|u1]:=fj hx hb 1 (!1) (!1);let%[c2,g2,l2|u2]:=fj hx hb 2 (!1) (!1);let%[c3,g3,l3|u3]:=fj hx hb 3 (!1) (!1);let%[c4,g4,l4|u4]:=fj hx hb 4 (!1) (!1);show%[_,%["KCF4*~3AT1BC;5tuN4GWN0DghA4BCF6N4GWN0DghA4BCOf,M~SGWN0DDD.M~XT56CF7H]yAT5A6AT1BCOf,a2.MpGWN0DDDEIcAS7DAS7DAS7DBPEI7PCOMpGWN0DDDC~Y8utd?1U4Z0?2zf,MpXT20XT2T1.M~X0T10EOM^8QBEIcAVAT5AN8GWN0DghA8BBPPCF9GbG~KDG$DXT1T5G:N0DDCOa3EF9G~KGb9N0DDPCOMpGWN0DDDEIcAVAT5ANQA9A~ZDB~F~GAopGWN0DDDBBPEIcAVAT5ANQAGb9DADB~F~GAopGWN0DDDBB",cY.nd,↑(↑"~name ~one ~ranks_here",[(1,5),(2,1)]),↑["_law_name","_law_one","_law_ranks_here"]|hr]|?_]
  change aV _ _ _ [!l,!d,hV (.bl g),hV (.bl i),hH,hH,hH,hH,hH,hH] H;show am λD1 k1 _=>?_
  lk;show%[_,.inl hd,rs\1,by unfold rkD;rw[Yq,Yq];rfl,by rw[Z6];lia|λL ss hL pm _=>k1 _ _ (am λD2 k2 _=>?_)];let U:=ai.Qa (o:= .lst (ss\3)) hL;let m:=own U
  generalize Qa H L _=H1 at U m
  let n:=U _ _ hl;let ab:=U _ _ hd;let sl: ~~~ss= ~~~rs:=by rw[pm.length_eq,Z6]
  let a3:0< ~~~rs:=NH.mpr ne;let%[one,e1|m1]:=pf (ys:=ss) c1 ⋯;let%[e,e2|m2]:=pf (ys:=ss) c2 ⋯;let C:=pm.mem_iff.mp m1;let ac:=pm.mem_iff.mp m2;let ag: ~~~(ss\3)= ~~~ss:=Z6 _;lk;show%[_,Qb.of n,_,g1,~~~ss,.inl %[_,Qb.of m|ag.symm],⋯,_,Qb.of m,_,e1|k2 _ _ (am λD3 k3 _=>?_)];lk;show%[_,Qb.of n,_,g2,~~~ss,.inl %[_,Qb.of m|ag.symm],⋯,_,Qb.of m,_,e2|k3 _ _ (am λD4 k4 r4=>?_)];lk;let%[r1,al|v1]:=wa nd C;let a6:=rb _ al;let dg:∀r,ai H1 r->cc r d (.str one) (hV (.int r1)):=λr N=>v1▸cc.k (k:=kj one) (N _ _ ab)
  suffices rest:∀oo,D4.nx [!l,!d,hV (.bl g),hV (.bl i),!L,-one,-e,oo,hH,hH] H1 by
   show%[_,Qb.of n,_,g0,!1|bv (λ_=>bv (λO=>?_) λ_=>rest _) λ_=>rest _];let O:one≠e:=↑O
   show%[_,_,_,_,ρ,ab,nd,C,ac|λt r w a b N ft j hw ah=>?_];let B:=N _ _ n;let ok:∀a b,((a=one/\b=e)\/(a=e/\b=one))->kU (rs\1) [.str w,.str a,.str b]:=λa b h=>by
    rcases h with⟨rfl,rfl⟩|⟨rfl,rfl⟩
    .show .inl %[w,_,_,rfl,hw,C,ac|O]
    .show .inl %[w,_,_,rfl,hw,ac,C|J0 O]
   let an:=ok a b ah;let as:=ok b a (ah.elim (λh=> .inr %[h.2|h.1]) λh=> .inl %[h.2|h.1]);let fin:D4.rt (.ref t) r:=r4 _ _ (kk t r _ (U.trans N) j an);show bv (λ_=>?_) λ_=>fin
   show%[_,Qb.of B,_,g3,!1|bv (λ_=>?_) λ_=>fin];show%[_,SqT.of j,.str w,ρ,_,SqT.of j,.str b,ρ,_,SqT.of j,.str a,ρ,#[3]|λp G=>r4 _ _ (kk p _ _ (U.trans (N.trans (ai.Qa G))) aa as)]
  intro oo;show k4 _ _ (am λD5 k5 r5=>?_);lk
  suffices yr:∀o8 r,ai H1 r->D5.nx [!l,!d,hV (.bl g),hV (.bl i),!L,-one,-e,oo,o8,hH] r by
   show%[_,Qb.of n,_,g0,!1|bv (λ_=>?_) λ_=>yr _ _ (ai.refl H1)];show aI λa4 hK=>?_
   lk;show%[%[_|Qb.of m]|hK _ _ λF hF=>?_];show cg (λq ts σ r=>A4 (∃o,σ=[o,-one,!d]) (ai H1 r) (r F<*ts) (∃ys:ZB,A3 (ts=ys\3) (~~~ys<=q) (∀y∈ys,y∈rs\1/\y≠one)))
    %[%[hH|rfl],ai.Qa hF,aa,[],rfl,Xe _|λ_ h=>nomatch h] (λ_ _ _ H4 %[_,s4,_|_]=>s4 _ _ m) ?_ ?_
   .intro q ts σ H4 hq %[%[o|rfl],M,I,ys,j,yl|J];let ak:=pm.mem_iff.mp (Yc hq);let%[rq,mq|vq]:=wa nd ak;let gq:cc H4 d (.str ss[q]) (hV (.int rq)):=vq▸cc.k (k:=kj ss[q]) (M _ _ ab);lk;show%[_,gq,_,dg _ M|bv (λ_=>bv (λc=>?_) λ_=>?_) λ_=>?_]
    .let c:ss[q]≠one:=↑c
     show CK.mk hq I (by rw[j,Z6];show aC ⋯) %[%[_|rfl],ai.set M hF,aa,ys++[ss[q]],by rw[j,Zd];rfl,by rw[Z9];show X8 yl|λy hy=>by
      rcases Xm hy with z|z
      .show J y z
      .rw[Xn z];show%[ak|c]]
    .show CN.mk hq %[%[_|rfl],M,I,ys,j,⋯|J]
    .show CN.mk hq %[%[_|rfl],M,I,ys,j,⋯|J]
   .intro ts σ H3 %[_,M,I,ys,j,yl|J];show%[Xe _|λp G=>%[ts,ai.Qa G _ _ I,aa|bv (λc=>?_) λ_=>?_]]
    .let a0:0< ~~~ys:=by
      cases ys with
      | nil=>show n0 j (Zo c)
      | cons=>show T7 _
     let%[z,ez|mz]:=pf (ys:=ys) c2 a0;let sp:=ai.Qa (o:= .lst []) G;let ae:=sp _ _ I;rw[j]at ae;show%[_,Qb.of ((M.trans sp) _ _ n),_,g2,~~~ys,.inl %[_,Qb.of ae|(Z6 _).symm],⋯,_,Qb.of ae,_,ez,#[3]|λt a1=>r5 _ _ (kk t _ _ (U.trans ((M.trans sp).trans (ai.Qa a1))) aa (.inl %[_,_,_,ρ,.inr rfl,C,(J z mz).1|J0 (J z mz).2]))]
    .show yr _ _ (M.trans (ai.Qa G))
  intro o8 r N;show k5 _ _ (am λD6 k6 _=>?_);lk;let B:=N _ _ n;let a2:=U.trans N;show%[_,dg _ N,.inl %[!1|!1],_,Qb.of B,_,g3,%[!1|!1]|k6 _ _ (am λD7 k7 _=>?_)];let yb: -900<=800-100*r1+c3/5/\800-100*r1+c3/5<=900:=by lia
  generalize 800-100*r1+c3/5=y at yb
  lk
  suffices fin:∀y:on,-2000<=y->y<=2000->D7.nx [!l,!d,hV (.bl g),hV (.bl i),!L,-one,-e,oo,o8,hV (.int y)] r from
   bv (λ_=>%[_,Qb.of B,_,g4|fin _ ⋯ ⋯]) λ_=>fin _ ⋯ ⋯
  intro y y0 y1;show k7 _ _ (am λD8 k8 r8=>?_);let pk:∀(u v:on) (b:re),atI [V.int u,V.int v] (if b=hX then 1 else 0)∣V.int (if b=hX then v else u):=λu v b=>by cases b<;> rfl
  let Y:∀(w:kG) (u:on) (p:kw) (H3:Hp),(w="since"\/w="by")-> -9999<=u->u<=9999->ai r H3->H3 p=hH->Q (.ref p) (Qa H3 p (.tup [.str w,.str one,.int u])):=λw u p H3 hw u0 u1 M G=>kk p _ _ (a2.trans (M.trans (ai.Qa G))) aa (.inr %[w,one,u,rfl,hw,C,u0|u1])
  lk;show%[_,Qb.of B,_,g0,!1|bv (λ_=>?_) λ_=>k8 _ _ ?_]
  .show%[#[2]|λp G=>%[_,Qb.of (ai.Qa G _ _ B),_,g4,!1,_,Qb.of aa,_,pk _ _ _,#[3]|λt j=>r8 _ _ (Y _ _ t _ (.inl rfl) ?_ ?_ (ai.Qa G) j)]]<;> split<;> lia
  .lk;show%[#[2]|λp G=>%[_,Qb.of (ai.Qa G _ _ B),_,g4,!1,_,Qb.of aa,_,pk _ _ _,#[3]|λt j=>Y _ _ t _ (.inr rfl) ?_ ?_ (ai.Qa G) j]]<;> split<;> lia
def ph{H:Hp}{M:kw}{xs ys:ZN}(h:H M<*xs):∀b z,H b&&&z->Qa H M (.lst ys) b&&&z:=λb z e=>by
 rw[aq (λa=>by rw[a,h]at e;cases e)];show e
structure oP (H:Hp) (cs:ZI) (qs:ZO):Prop where
 c1:1<= ~~~cs
 c3: ~~~cs<=3
 ca:bM H cs
 nd:(cs.map (·.2.1)).Nodup
 few:∀p∈cs,sk p.2.2
 ly: ~~~(cs.flatMap lyr)<=63
 sa:ci H (cs.flatMap lyr) qs
 ql: ~~~qs<=60
def pi{H a:Hp}{L t:kw}{c:ZB}{qs:ZO}{zs:ZN}(h:H L∣.lst (qs\0))(s:ai H a)(f:a t&&&zs)(g:ci H c qs)(ok:kU c zs):
 (∀b o,b≠L->a b∣o->Qa a L (.lst ((qs\0) ++[V.ref t])) b∣o)/\Qa a L (.lst ((qs\0) ++[V.ref t])) L∣.lst ((qs++[(t,zs)])\0)/\ci (Qa a L (.lst ((qs\0) ++[V.ref t]))) c (qs++[(t,zs)]):=by
 let d:∀b o,b≠L->a b∣o->Qa a L (.lst ((qs\0) ++[V.ref t])) b∣o:=λb o n e=>by rw[aq n];show e
 let tk:∀{b:kw} {zs:ZN},a b&&&zs->b≠L:=λe z=>by rw[z,s _ _ h]at e;cases e
 show%[d,by rw[aa,Zd];rfl|λq i=>?_];rcases Xm i with z|z
 .let:=s _ _ (g q z).1;show%[d _ _ (tk this) this|(g q z).2]
 .rw[Xn z];show%[d _ _ (tk f) f|ok]
inductive uK (K:ZA)
 | mk (a:kw) (ns:ZM):vs=[.ref a]->Qb K H a (ns\4)-> ~~~ns<=1000->(∀(t l1 l2:kw) H' (cs:ZI) (qs:ZO),ai H H'->H' t<*[.ref l1,.ref l2]->H' l1<*bT cs->H' l2∣.lst (qs\0)->oP H' cs qs->Q (.ref t) H')->uK K vs H Q E0
abbrev bO(w:on):ZB:=(p0 26).map λr:iv=>sgn (ltr r w)
abbrev nmT(k:iv):kG:=if k=0 then oT "zone" else oT "pit"
abbrev eI(W:iv->on)(i:iv):ZB:=(p0 i).flatMap λk=>(bO (W k)).map (lnS (nmT k))
def gX(W:iv->on)(i:iv):eI W (i+1)=eI W i++(bO (W i)).map (lnS (nmT i)):=by unfold eI;rw[PL,Px];simp
def fZ(W:iv->on):∀i,~~~(eI W i)=26*i
 | 0=>rfl
 | i+1=>by rw[gX,Z9,fZ W i,Z6];unfold bO;rw[Z6,Yi];rfl
def qW{w:on}{i:iv}{z:kG}(h:(bO w)[i]?∣z):z=sgn (ltr i w):=by
 unfold bO at h;rw[Zl]at h;by_cases c:i<26
 .rw[RR c]at h;show(Za h).symm
 .rw[Xk ↑c]at h;cases h
def xY(k:iv):gW (nmT k)=hX:=by unfold nmT;split<;> decide +kernel
def iT(w:on): ~~~(bO w)=26:=by unfold bO;rw[Z6,Yi]
def nG{w:on}{i:iv}(h:i<26):(bO w)[i]?∣sgn (ltr i w):=by unfold bO;rw[Zl,RR h];rfl
def Mv(W:iv->on):(eI W 2)[25]?∣lnS (nmT 0) (sgn (ltr (25:iv) (W 0))):=by
 rw[gX,Y9 (by rw[fZ];lia),gX,show eI W 0=[]from rfl,Ub,Zl,nG ⋯];rfl
def Mw(W:iv->on):(eI W 2)[26]?∣lnS (nmT 1) (sgn (ltr (0:iv) (W 1))):=by
 rw[gX,Ya (by rw[fZ];lia),fZ,Zl,nG ⋯];rfl
def kx{w:on}{z:kG}(h:z∈bO w):∃r:iv,z=sgn (ltr r w):=by
 let%[r,_|rfl]:=Xo h;show%[r|ρ]
def z4{x j c:iv}(h:(sgn x).cps[j]?∣c):j=0/\c=x:=by
 let h:[x][j]?∣c:=by simpa [sgn]using h
 match j,h with
 | 0,h=>cases h;show%[ρ|ρ]
def K0(w:on):cX (bO w):=by
 let len: ~~~(bO w)=26:=by unfold bO;rw[Z6,Yi]
 show%[⋯,⋯,%[1,⋯,⋯|λz a=>?_],λz a=>?_,λi r f g e j c h l d b=>?_|?_]
 .let%[r|rfl]:=kx a;rfl
 .let%[r|rfl]:=kx a;change([ltr r w]).all okc=hX;rw[VV];unfold okc;rw[AV,Sb];rfl
 .rw[qW e]at d;show n0 ((z4 d).2.symm.trans b) (lA _ w)
 .show%[sgn (ltr (0:iv) w),Xp %[0,zp.mpr ⋯|ρ],ltr (0:iv) w,by change _∈[_];show Zm|lA _ w]
def fewT(w:on):sk (bO w):=by
 show%[(p0 26).map λi:iv=>[sgn (ltr i w),sgn (ltr (i+1:iv) w)],by rw[Z6,Yi];lia|?_];intro a b %[_,_,i,j,r,g,c,f,d|e];let hi:=(Xl c).1;let len: ~~~(bO w)=26:=by unfold bO;rw[Z6,Yi]
 rw[qW c]at d;rw[qW f]at e;rw[(z4 d).2,(z4 e).2];show Xp %[i,zp.mpr ⋯|rfl]
def Mx{p:kw×kG×ZB}{w:on}(e:p.2.2=bO w): ~~~(lyr p)<=26:=by
 let:=_ST.nodup_sub (dD ((c7 p.2.2).map sgn)) (m:=bO w) λy d=>by
  let%[c,f|rfl]:=Xo (aZ.mp d);let%[_,r,a|b]:=fV.mp f;rw[e]at a;let%[k|rfl]:=kx a;let:c∈[ltr k w]:=b;rw[Xn this];show a
 unfold lyr;rw[Z6];show nI this (by unfold bO;rw[Z6,Yi];show Zi _)
def letT{w:on}{r:iv}(h:r<26):Let (bO w) (ltr r w):=%[lA _ _,sgn (ltr r w),Xp %[r,zp.mpr h|rfl]|by change _∈[_];show Zm]
def CS{W:iv->on}{n:iv}{z:kG}(h:z∈eI W n):∃k r:iv,k<n/\r<26/\z=lnS (nmT k) (sgn (ltr r (W k))):=by
 let%[k,a|b]:=M5.mp h;let%[y,c|rfl]:=Xo b;let%[r,d|rfl]:=Xo c;show%[k,r,zp.mp a,zp.mp d|ρ]
abbrev NmD(a:ZB)(f:kG->kG):gN (Key×V):=a.map λz=>(kj z,V.str (f z))
def jq:∀{a:ZB},z∈a->bQ (NmD a f) (kj z)∣.str (f z)
 |[],h=>(nomatch h)
 | x::a,h=>by
   by_cases e:x=z
   .subst e;show eX rfl
   .rw[show NmD _ f=(kj x,V.str _)::NmD a f from rfl,dB (λq=>e (NX q))];show jq (by rcases Yv.mp h with q|q;show(e q.symm).elim;show q)
def FH:((NmD b f).any λa=>decide (a.1=(kj z:Key)))=hX↔z∈b:=by
 rw[Sm]
 constructor
 .rintro⟨a,c,d⟩;let%[x,e|rfl]:=Xo c
  simp_all
 .intro h;show%[_,Xp %[z,h|ρ]|Zf rfl]
def qX(h:z∈a):dw (NmD a f) (kj z) (.str v)=NmD a (λx=>if x=z then v else f x):=by
 unfold dw;rw[lp (FH.mpr h)];unfold NmD;rw[Yq];show Yo λx _=>?_
 change(if(kj x)=kj z then((kj x),V.str v)else(kj x,V.str _))=(kj x,V.str (if x=z then v else f x))
 by_cases e:x=z
 .rw[lp (rM _ e),lp e]
 .rw[ku (λq=>e (NX q)),ku e]
def FI(h:z∉a):dw (NmD a id) (kj z) (.str z)=NmD (a++[z]) id:=by
 unfold dw;rw[ku (λq=>h (FH.mp q))];unfold NmD;rw[Zd];rfl
abbrev xZ(a:ZB)(z:kG):iv:=a.countP λu=>aP u z
def qY(c:x∈b)(h:aP x y=hX):xZ b x<xZ b y:=by
 unfold xZ
 induction b with
 | nil=>cases c
 | cons u l d=>
   let f:l.countP (λu=>aP u x)<=l.countP λu=>aP u y:=gN.countP_mono_left λu _ a=>d0 a h
   rw[QU,QU];rcases Yv.mp c with rfl|e
   .rw[ku (by rw[dI];simp),lp h]
    lia
   .let:=d e;by_cases a:aP u x=hX
    .rw[lp a,lp (d0 a h)]
     lia
    .rw[ku a]
     split<;> lia
abbrev bd(qs:ZO)(a b:kG):Prop:=∃q∈qs,q.2=[.str "same",.str a,.str b]
def kz{S R:kG->kG->Prop}(F:bX c f r S)(h:∀a b,S a b↔R a b):bX c f r R:=by
 rw[funext λa=>funext λb=>(propext (h a b)).symm];show F
inductive FJ
 | mk (d z ls f r S):vs=[.ref d,.str z]->H d∣.dK (NmD ls f)->bX ls f r S->z∈ls->Q (.str (r z)) H->FJ vs H Q E0
inductive Be
 | mk (d a b ls f r S):vs=[.ref d,.str a,.str b]->H d∣.dK (NmD ls f)->bX ls f r S->a∈ls->b∈ls-> ~~~ls<=5000->(∀f' r',bX ls f' r' (λx y=>S x y\/(x=a/\y=b))->Q .non (Qa H d (.dK (NmD ls f'))))->Be vs H Q E0
def gY(T:Txt K mg):↥1 "least_pointed_to" ↑"names layer" FJ:=by
 .exists T.aH,fo,q,i,%[d,z,e,p,r,S,rfl,u,F,v|j];show%[_,%["KC~OM~XX011EF1X01EI1",fo.nd|i]|am λB k1 _=>%[λm l g=>∃y,l=[hV _,-y]/\g=H/\y∈e/\r y=r z/\m=xZ e y,%[_,z,ρ,ρ,v,ρ|ρ]|?_]]
  intro m l g %[y,rfl,rfl,a,b|rfl];lk;let n:=by
   let:=cc.k (k:=kj y) u;rw[jq a]at this;show this
  show%[_,n|bv (λh=>?_) λh=>?_]
  .let h:=↑h
   show%[λc o=>c=[hV _,hV _]/\o=g,?_,_,n,ρ|ρ];intro c o %[rfl|rfl];show%[_,qY (F.fin y a) (F.dec y a h),p y,ρ,ρ,F.fin y a,(F.rf y a).trans b|ρ]
  .show k1 _ _ ?_;rw[<-b,F.fix y a ↑h]at j;show j
def oQ(T:Txt K mg):↥2 "join_deposits" ↑"names one other" Be:=by
 .exists T.aG,eN,m,e,%[d,a,b,c,p,r,S,rfl,g,F,i,j,n|o];show%[_,%["KCF3H~4A0A1BCF4H~4A0A2BEr|~5A3A4B0~6]zA3A4B",eN.nd|e]|?_]
  change aV _ _ _ [!d,-a,-b,hH,hH] H;show am λu k1 _=>?_
  lk;show%[d,a,c,p,r,S,ρ,g,F,i|k1 _ _ (am λv k2 _=>?_)];lk;show%[d,b,c,p,r,S,ρ,g,F,j|k2 _ _ (aA λy q _=>?_)];lk;let J:=F.join i j rfl rfl;let l:(if aP (r a) (r b)=hX then r b else r a)∈c:=by
   split
   .show F.rin b j
   .show F.rin a i
  generalize (if aP (r a) (r b)=hX then r b else r a)=M at J l
  show%[_,fA.k (k:=kj M) g (by unfold NmD;rw[Z6,PySem.sizeLine_eq];lia)|q _ _ ?_];rw[qX l];show o _ _ J
def z5{qs:ZO}{q:kw×ZN}(c:qs[i]?∣q)(a b:kG):bd (qs.take (i+1)) a b↔bd (qs.take i) a b\/q.2=[.str "same",.str a,.str b]:=by
 unfold bd;rw[X9,c]
 simp_all
def jr{c:ZB}(d:c.Pairwise (λa b=>aP b a=hY)){i:iv}{z w:kG}(f:c[i]?∣z)(hw:w∈c)(h:aP w z=hX):w∈c.take i:=by
 rw[<-Xa i c]at hw;rcases Xm hw with e|e
 .show e
 .let%[hi|g]:=Xl f;let%[j,l|rfl]:=Pu e;rw[gN.getElem_drop]at h;rw[Yg]at l;by_cases m:j=0
  .subst m;rw[<-g]at h;simp only[RU]at h;rw[dI]at h;cases h
  .let:=Tl.mp d i (i+j) hi ⋯ ⋯
   grind
inductive x5 (mg:ZC)
 | mk (g c2 c3 c4 qs ls ts):vs=[.ref g]->GrF mg H g c2 c3 c4 qs ls ts->ls.Nodup->ls.Pairwise (λa b=>aP b a=hY)-> ~~~ls<=5000->(∀d H' r,ai H H'->H d=hH->H' d∣.dK (NmD ls r)->(∀z∈ls,r z∈ls/\cJ (bd qs) z (r z))->Q (.ref d) H')->x5 mg vs H Q E0
def nH{H:Hp}{g c2 c3 b:kw}{qs:gN _}{c:ZB}{ts:gN _}{m:kG}{R:Prop}(h:GrF mg H g c2 c3 b qs c ts)(d:m="layers"\/m="sayings"\/m="ties")(k:R):∃a fs,H g∣.ins (aK mg "Ground") a fs/\Od m fs=hH/\R:=by
 let%[a,c1|e]:=h.at_;show%[a,_,e,by rcases d with rfl|rfl|rfl<;> rfl|k]
def eP(T:Txt K mg):↥3 "names_by_layer" ["ground"] (x5 mg):=by
 .exists T.aE,bq,an,L,%[g,c2,c3,c4,qs,j,ts,rfl,hg,nd,so,al|kk];let lm: ~~~(j\3)= ~~~j:=Z6 _;let qm: ~~~(qs\0)= ~~~qs:=Z6 _;show%[_,%["KCF1xCRU=~y0J2Er212CRU=~a0lLJ3LJ4LJ5eEOM~V3VEYH]!A1A4A5BPCRU=~y0J2ErX1X1212EI1",bq.nd|L]|?_]
  change aV _ _ _ [!g,hH,hH,hH,hH,hH] H;show am λD1 k1 _=>?_
  lk;intro d hd;show k1 _ _ (am λD2 k2 _=>az λM hK=>?_);let s1:=ai.Qa (o:= .dK []) hd;let Y:Qa H d (.dK []) d∣.dK (NmD (j.take 0) id):=aa
  generalize Qa H d _=H1 at s1 Y
  lk;let ab:=hg.up s1;show nH ab (.inl rfl) %[g,c2,c3,c4,qs,j,ts,rfl,ab|λl1 N=>%[%[_|Qb.of aa]|hK _ _ ?_]];let s2:=ai.Qa (o:= .lst (j\3)) N;let ac:=own s2;let n1:l1≠d:=λe=>by rw[e,Y]at N;cases N
  let Y:=s2 _ _ Y
  generalize Qa H1 l1 _=H2 at s2 ac Y
  show bB (λi n l=>A4 (E4 λp u v B=>n=[!g,!d,p,u,v,B]) (ai H l) (l l1<*j\3) (l d∣.dK (NmD (j.take i) id)))
   %[%[_,_,_,_|rfl],s1.trans s2,ac|Y] (λi n l h=>h.3) ?_ ?_
  .intro i z n l C %[%[p,u,v,B|rfl],m,J|c];change pG _ _ _ _ [!g,!d,-z,u,v,B] l;show aA λD3 k3 _=>?_
   lk;let zn:z∉j.take i:=λhm=>by
    let h:=nd;rw[<-Xa i j,X1]at h;show h.2.2 z hm z (Z8 (i:=0) ((PZ)▸C)) rfl
   show%[_,fA.k (k:=kj z) c (by unfold NmD;rw[Z6,Yk,PySem.sizeLine_eq];lia)|k3 _ _ %[%[_,_,_,_|ρ],ai.set m hd,(aq n1).trans J|?_]];rw[aa,FI zn,X9,C];rfl
  intro n H3 %[%[p,u,v,B|rfl],m,J|c];rw[Zn (Zi _)]at c;show k2 _ _ (am λD4 k4 _=>az λM hK=>?_);lk;let ae:=hg.up m;show nH ae (.inr (.inl rfl)) %[g,c2,c3,c4,qs,j,ts,rfl,ae|λl2 O=>%[%[_|Qb.of aa]|hK _ _ ?_]];let s4:=ai.Qa (o:= .lst (qs\0)) O;let ag:=own s4;let n2:l2≠d:=λe=>by rw[e,c]at O;cases O
  let c:=s4 _ _ c;let ah:=m.trans s4
  generalize Qa H3 l2 _=H4 at s4 ag c ah
  show bB (λi n l=>A4 (E4 λp u v B=>n=[!g,!d,p,u,v,B]) (ai H l) (l l2∣.lst (qs\0)) (E2 λf r=>l d∣.dK (NmD j f)/\bX j f r (bd (qs.take i))))
   %[%[_,_,_,_|rfl],ah,ag,id,id,c|kz (bX.start j) λa b=>%[λh=>h.elim|λ%[q,hq|_]=>(nomatch hq)]] (λi n l h=>h.3) ?_ ?_
  .intro i q n l hq %[%[p,u,v,B|rfl],m,J,f,r,c|F];let%[q1|q2]:=hg.sa q (Z8 hq);let st:=m _ _ q1;let G:=z5 hq;rcases q2 with⟨wd,a,b,e,hw,ha,hb,_⟩|⟨wd,a,y,e,hw,_⟩
   .rw[e]at st G;show%[_,SqT.of st,ρ,_,_,ρ,_,_,ρ,_,_,ρ,ρ|?_];change lJ _ _ _ _ [!g,!d,p,-wd,-a,-b] l;show aA λD5 k5 _=>?_
    lk;show bv (λh=>?_) λh=>?_
    .let h:wd=oT "same":=↑h
     show%[d,a,b,j,f,r,_,ρ,c,F,ha,hb,al|λf' r' F'=>k5 _ _ %[%[_,_,_,_|ρ],ai.set m hd,(aq n2).trans J,f',r',aa|kz F' λx y=>?_]];rw[G,h];show Ra OF %[λ%[e1|e2]=>by rw[e1,e2]|λe=>?_];simp only[NT,V.str.injEq,VU,true_and]at e;show%[e.1.symm|e.2.symm]
    .let h:wd≠oT "same":=↑h
     show k5 _ _ %[%[_,_,_,_|rfl],m,J,f,r,c|kz F λx y=>?_];rw[G];show%[.inl|λe=>e.resolve_right λe=>h ?_];simp only[NT,V.str.injEq]at e;show e.1
   .rw[e]at st G;show%[_,SqT.of st,ρ,_,_,ρ,_,_,ρ,_,_,ρ,ρ|?_];change lJ _ _ _ _ [!g,!d,p,-wd,-a,hV (.int y)] l;show aA λD5 k5 _=>?_
    lk;rw[ku (by rcases hw with rfl|rfl<;> decide)];show k5 _ _ %[%[_,_,_,_|rfl],m,J,f,r,c|kz F λx z=>?_];rw[G];show%[.inl|λe=>e.resolve_right λe=>?_];simp at e
  intro n H5 %[%[p,u,v,B|rfl],m,J,f,r,c|F];rw[Zn (Zi _)]at F;show k4 _ _ (am λD6 k6 _=>az λM hK=>?_);lk;let ak:=hg.up m;show nH ak (.inl rfl) %[g,c2,c3,c4,qs,j,ts,rfl,ak|λl3 U=>%[%[_|Qb.of aa]|hK _ _ ?_]];let s6:=ai.Qa (o:= .lst (j\3)) U;let n3:l3≠d:=λe=>by rw[e,c]at U;cases U
  let c:=s6 _ _ c;show bB (λi n l=>A4 (E4 λp u v B=>n=[!g,!d,p,u,v,B]) (ai H l) (l l3<*j\3) (∃f,A3 (l d∣.dK (NmD j f)) (bX j f r (bd qs)) (∀z∈j.take i,f z=r z)))
   %[%[_,_,_,_|rfl],(m.trans s6),aa,f,c,F|λz C=>(nomatch C)] (λi n l h=>h.3) ?_ ?_
  .intro i z n l C %[%[p,u,v,B|rfl],m,J,f,c,F|I];let zm:=Z8 C;change pG _ _ _ _ [!g,!d,-z,u,v,B] l;show aA λD7 k7 _=>?_
   lk;let get:=λy hy=>by
    let:=cc.k (k:=kj y) c;rw[jq hy]at this;show this
   show%[_,get z zm,_,get _ (F.fin z zm),_,fA.k (k:=kj z) c (by unfold NmD;rw[Z6,PySem.sizeLine_eq];lia)|k7 _ _ %[%[_,_,_,_|ρ],ai.set m hd,(aq n3).trans J,_,?_,F.short zm|λy hy=>?_]]
   .rw[aa,qX zm]
   .rw[X9,C]at hy;by_cases e:y=z
    .rw[lp e,e];show F.done zm λw hw h=>I w (jr so C hw h)
    .rw[ku e];rcases Xm hy with h|h
     .show I y h
     .show(e (Xn h)).elim
  intro n H7 %[%[p,u,v,B|rfl],m,J,f,c,F|I];rw[Zn (Zi _)]at I;show k6 _ _ ?_;lk;show kk d H7 r m hd ?_ λz C=>%[F.rin z C|F.least C]
  rw[c];unfold NmD;rw[Yo λz C=>by rw[I z C]]
def K1{X:Cx}{K:ZA}{T id:M9}(h:X.K=K)(l:PR T)(slot:Slot T name id)(g:P8 (.builtin id)=pure (.type "method_descriptor"))(m:MtQ X id r)
 (b:NE o name X.env (Nk o X.env)=Nk o X.env) (a:(e::es).any aS=hY) (i:XJ (e::es).length 30=hX) (c:(d.endLine==f.line)=hX) (n:QE X o p) (q:QA X (e::es) t):
 QE X (.Call (.Attribute o name d) (e::es) [] f) (tBM K T r p t):=by
 let j:=a;rw[Zw,X7]at j;show⟨DP h l slot g m.h n.h q.h b ?_ c (aB j.1) (ei j.2)⟩;rw[vg a];let:decide (~~~(e::es)+ ~~~([]:gN O0)+(if([]:gN O0).isEmpty then 0 else 1)<30)=hX:=Zf ((iv.blt_eq.mp i));rw[this];rfl
abbrev grp(r:kG->kG)(xs:ZB):gN (kG×ZB):=(xs.filter λz=>decide (r z=z)).map λz=>(z,xs.filter λx=>decide (r x=z))
def CT(h:∀z∈xs,r z=b z):grp r xs=grp b xs:=by
 unfold grp;rw[Vm λz a=>by rw[h z a]];show Yo λz a=>?_
 rw[Vm λx c=>by rw[h x c]]
def HU(a:r z=z)(b:z∉xs)(c:∀x∈xs,r x∈xs):grp r (xs++[z])=grp r xs++[(z,[z])]:=by
 unfold grp;rw[Y2,Zd];show VP (rM _ (Yo λw hw=>?_)) ?_
 .let:w≠z:=λe=>b (e▸(o0.mp hw).1)
  rw[Y2,Y4 (by rw[a];simpa using this.symm),Y7,Zx]
 .rw[Y6 (by rw[a];simp),Y7];change [(z,_)]=_;rw[Y2,Y6 (by rw[a];simp),Y7,Py.mpr λx d=>?_]
  .rfl
  .intro e;show b ((Zo e)▸c x d)
def HV(a:r z≠z):grp r (xs++[z])=(grp r xs).map λp=>if p.1=r z then(p.1,p.2++[z])else p:=by
 unfold grp;rw[Y2,Y4 ↑a,Y7,Zx,Yq];show Yo λw hw=>?_
 change(w,_)=if w=r z then(w,_)else(w,_)
 rw[Y2];by_cases e:w=r z
 .rw[lp e,Y6 (by simpa using e.symm),Y7]
 .rw[ku e,Y4 (by simpa using λq=>e q.symm),Y7,Zx]
def kA:y∈(grp r xs)\1↔y∈xs/\r y=y:=by
 unfold grp
 simp_all
def nJ(h:xs.Nodup):((grp r xs)\1).Nodup:=by
 unfold grp;rw[Yq,show((λx=>x.1) ∘ λz=>(z,Ou _ xs))=id from rfl,XM];show h.filter _
abbrev Bf(S:kG->kG->Prop)(a:ZB)(ds:gN ZB):Prop:=∃r:kG->kG,(∀z∈a,r z∈a/\cJ S z (r z))/\ds=(grp r a)\2
def Bf.one{S:kG->kG->Prop}(h:Bf S b ds)(g:Bf S b es):ds=es:=by
 let%[r,c|rfl]:=h;let%[e,d|rfl]:=g;rw[CT λz a=>(c z a).2.one (d z a).2]
noncomputable abbrev Gs(a:Type):=gN (kG×kw×gN a)
abbrev gD{a:Type}(b:Gs a):gN (Key×V):=b.map λg=>(kj g.1,V.ref g.2.1)
def jt:∀{a:Gs b},y∉a\1->bQ (gD a) (kj y)=hH
 |[],_=>rfl
 | g::a,h=>by
   rw[Yp,Yv,Pr]at h;rw[show gD _=(kj g.1,V.ref _)::gD a from rfl,dB (λq=>h.1 (NX q).symm)];show jt h.2
def eV:∀{a:Gs f},bQ (gD a) (kj y)∣v->∃g∈a,g.1=y/\v= .ref g.2.1
 |[],h=>(nomatch h)
 | g::a,h=>by
   rw[show gD _=(kj g.1,V.ref _)::gD a from rfl]at h;by_cases e:g.1=y
   .rw[eX (rM kj e)]at h;show%[g,Zm,e|(Za h).symm]
   .rw[dB (λq=>e (NX q))]at h;let%[b,c|d]:=eV h;show%[b,Zk _ c|d]
def iG:∀{a:Gs b},g∈a->bQ (gD a) (kj g.1)≠hH
 | x::a,h,c=>by
   rw[show gD _=(kj x.1,V.ref _)::gD a from rfl]at c;by_cases e:x.1=g.1
   .rw[eX (rM kj e)]at c;cases c
   .rw[dB (λq=>e (NX q))]at c;rcases Yv.mp h with q|q
    .show e (by rw[q])
    .show iG q c
abbrev pj(H:Hp)(a:ZH):Prop:=∀g∈a,H g.1<*g.2\3
def pj.up{H a:Hp}{b:gN _}(h:pj H b)(s:ai H a):pj a b:=λg c=>s _ _ (h g c)
structure jG {α:Type} (f:α->V) (H0 H:Hp) (d:kw) (gs:Gs α):Prop where
 at_:H d∣.dK (gD gs)
 la:∀g∈gs,H0 g.2.1=hH/\H g.2.1<*g.2.2.map f
 nd:(gs.map (·.2.1)).Nodup
def Bg{f:Type}{c:Gs f}(d:(c\1).Nodup){g h:kG×kw×gN f}(i:g∈c)(j:h∈c)(e:g.1=h.1):g=h:=by
 induction c with
 | nil=>cases i
 | cons x xs l=>
   rw[Yp,NZ]at d;rcases Yv.mp i with a|a<;> rcases Yv.mp j with b|b
   .rw[a,b]
   .show(d.1 (by rw[<-a,e];show Xp %[_,b|rfl])).elim
   .show(d.1 (by rw[<-b,<-e];show Xp %[_,a|rfl])).elim
   .show l d.2 a b
def FK{f:Type}{c:Gs f}(d:(c.map (·.2.1)).Nodup){g h:kG×kw×gN f}(i:g∈c)(j:h∈c)(e:g.2.1=h.2.1):g=h:=by
 induction c with
 | nil=>cases i
 | cons x xs l=>
   rw[Yp,NZ]at d;rcases Yv.mp i with a|a<;> rcases Yv.mp j with b|b
   .rw[a,b]
   .show(d.1 (by rw[<-a,e];show Xp %[_,b|rfl])).elim
   .show(d.1 (by rw[<-b,<-e];show Xp %[_,a|rfl])).elim
   .show l d.2 a b
abbrev nK{a:Type}(y:kG)(z:a)(b:Gs a):Gs a:=b.map λg=>if g.1=y then(g.1,g.2.1,g.2.2++[z])else g
def K2(y:kG)(z:b)(a:Gs b):gD (nK y z a)=gD a:=by
 unfold nK gD;rw[Yq];show Yo λg _=>?_
 change(kj (if g.1=y then(g.1,g.2.1,g.2.2++[z])else g).1,V.ref (if g.1=y then(g.1,g.2.1,g.2.2++[z])else g).2.1)=_
 split<;> rfl
def K3(y:kG)(z:b)(a:Gs b):(nK y z a).map (·.2.1)=a.map (·.2.1):=by
 unfold nK;rw[Yq];show Yo λg _=>?_
 change(if g.1=y then(g.1,g.2.1,g.2.2++[z])else g).2.1=_
 split<;> rfl
def K4(y:kG)(z:b)(a:Gs b):(nK y z a).map (λg=>(g.1,g.2.2))=(a.map λg=>(g.1,g.2.2)).map λp=>if p.1=y then(p.1,p.2++[z])else p:=by
 unfold nK;rw[Yq,Yq];show Yo λg _=>?_
 change((if g.1=y then(g.1,g.2.1,g.2.2++[z])else g).1,(if g.1=y then(g.1,g.2.1,g.2.2++[z])else g).2.2)=if g.1=y then(g.1,g.2.2++[z])else(g.1,g.2.2)
 split<;> rfl
def jG.up{a:Type}{f:a->V}{b H c:Hp}{d:kw}{e:Gs a}(h:jG f b H d e)(s:ai H c):jG f b c d e:=%[s _ _ h.at_,λg i=>%[(h.la g i).1|s _ _ (h.la g i).2]|h.nd]
def jG.add{a:Type}{f:a->V}{l H:Hp}{d:kw}{b:Gs a}(h:jG f l H d b)(m:(b\1).Nodup){g:kG×kw×gN a}(c:g∈b)(z:a):jG f l (Qa H g.2.1 (.lst (g.2.2.map f++[f z]))) d (nK g.1 z b):=by
 show%[?_,λo j=>?_|by rw[K3];show h.nd]
 .rw[K2,aq (λe=>by let:=(h.la g c).2;rw[<-e,h.at_]at this;cases this)];show h.at_
 .let%[n,i|rfl]:=Xo j;by_cases e:n.1=g.1
  .rw[lp e];obtain rfl:=Bg m i c e;show%[(h.la _ c).1|?_];rw[aa,Zd];rfl
  .rw[ku e];show%[(h.la _ i).1|?_];rw[aq (λq=>e (by rw[FK h.nd i c q]))];show(h.la _ i).2
def jG.new{l:Gs n}(h:jG f m H d l)(s:ai m H)(j:H e=hH)(y:kG)(z:n)(o:y∉l\1):jG f m (Qa (Qa (Qa H e (.lst [])) d (.dK (dw (gD l) (kj y) (.ref e)))) e (.lst [f z])) d (l++[(y,e,[z])]):=by
 show%[?_,λg i=>?_|?_]
 .rw[aq (λq=>by rw[<-q,h.at_]at j;cases j),aa,dC _ (jt o)];unfold gD;rw[Zd];rfl
 .rcases Xm i with i|i
  .show%[(h.la g i).1|?_];let q:=(h.la g i).2;rw[aq (λc=>by rw[c,j]at q;cases q),aq (λc=>by rw[c,h.at_]at q;cases q),aq (λc=>by rw[c,j]at q;cases q)];show q
  .rw[Xn i];show%[s.free j|aa]
 .rw[Zd,X1];show%[h.nd,by simp|λa p b r c=>?_];let%[g,i|rfl]:=Xo p;let q:=(h.la g i).2
  simp_all
inductive Bh (mg:ZC)
 | mk (g c2 c3 c4 qs ls ts):vs=[.ref g]->GrF mg H g c2 c3 c4 qs ls ts->ls.Nodup->ls.Pairwise (λa b=>aP b a=hY)-> ~~~ls<=5000->(∀l H' ss,ai H H'->H l=hH->H' l∣.lst (ss\0)->pj H' ss->(∀s∈ss,H s.1=hH)->Bf (bd qs) ls (ss\2)-> ~~~ss<=5000->Q (.ref l) H')->Bh mg vs H Q E0
inductive K5 (mg:ZC)
 | mk (g c2 c3 c4 qs ls ts z):vs=[.ref g,.str z]->GrF mg H g c2 c3 c4 qs ls ts->ls.Nodup->ls.Pairwise (λa b=>aP b a=hY)-> ~~~ls<=5000->z∈ls->(∀H' m,ai H H'->cJ (bd qs) z m->Q (.str m) H')->K5 mg vs H Q E0
def z6(T:Txt K mg):↥4 "deposits" ["ground"] (Bh mg):=by
 .exists T.aI,im,a6,I,%[g,c2,c3,c4,qs,n,ts,rfl,hg,nd,so,al|kk];let lm: ~~~(n\3)= ~~~n:=Z6 _;show%[_,%["KCF1H~zA0BCF2xCRU=~y0J3EY~!i~$~%2AX13AQBBA3BEI/]$A~7~82B",im.nd|I]|?_]
  change aV _ _ _ [!g,hH,hH,hH] H;show am λD1 k1 _=>?_
  lk;show%[g,c2,c3,c4,qs,n,ts,ρ,hg,nd,so,al|λd H1 r s1 fd J I=>k1 _ _ (am λD2 k2 _=>?_)];lk;intro e fe;show k2 _ _ (am λD3 k3 _=>az λa5 hK=>?_);let an:d≠e:=λc=>by rw[c,fe]at J;cases J
  let s2:=ai.Qa (o:= .dK []) fe;let ge:Qa H1 e (.dK []) e∣.dK (gD ([]:Gs kG)):=aa;let J:=s2 _ _ J;let fe:=s1.free fe;let Y:=s1.trans s2
  generalize Qa H1 e _=H2 at s2 ge J Y
  lk;let ac:=hg.up Y;show nH ac (.inl rfl) %[g,c2,c3,c4,qs,n,ts,rfl,ac|λl1 as=>%[%[_|Qb.of aa]|hK _ _ ?_]];let s3:=ai.Qa (o:= .lst (n\3)) as;let L:=own s3;let J:=s3 _ _ J;let ge:=s3 _ _ ge;let ae:=Y.trans s3
  generalize Qa H2 l1 _=H3 at s3 L J ge ae
  let r2:∀z∈n,r (r z)=r z:=λz M=>by
   let h:=(I z M)
   let h2:=(I _ h.1).2;show h2.one %[.refl _|λy c=>h.2.2 y (h.2.1.trans c)]
  let ag:∀z∈n,r z≠z->aP (r z) z=hX:=λz M h=>fU ((I z M).2.2 z (.refl _)) h.symm
  obtain⟨N,a0,a1,a2,ab,s0⟩:∃N:Hp,N e=hH/\N d∣.dK (NmD n r)/\N l1<*n\3/\ai H N/\ai N H3:=by
   show%[λa=>if a=e then hH else H3 a,lp rfl,?_,?_,λa o h=>?_|λa o h=>?_]
   .show(ku (λc=>an c)).trans J
   .show(ku (λc=>by rw[c,ge]at L;cases L)).trans L
   .show(ku (λc=>by rw[c,fe]at h;cases h)).trans (ae _ _ h)
   .let h:(if a=e then hH else H3 a)∣o:=h
    split at h
    .cases h
    .show h
  show bB (λi σ H'=>A3 (∃o3,σ=[!g,!d,!e,o3]) (ai N H') (∃B,jG V.str N H' e B/\B.map (λg=>(g.1,g.2.2))=grp r (n.take i)))
   %[%[_|rfl],s0,[],%[ge,λg hg=>(nomatch hg)|X3]|rfl] (λi σ H' h=>h.2 _ _ a2) ?_ ?_
  .intro i z σ H' M %[%[o3|rfl],O,B,b|u];let zm:=Z8 M;let i1:i< ~~~n:=(Xl M).1;change nP _ _ [!g,!d,!e,-z] H';show aA λD4 k4 _=>?_
   lk;let get:=cc.k (k:=kj z) (O _ _ a1);rw[jq zm]at get;let gk:B\1=(grp r (n.take i))\1:=by rw[<-u,Yq];rfl
   let ah:(B\1).Nodup:=by rw[gk];show nJ (nd.sublist (Vj _ _))
   let gl: ~~~B<= ~~~n:=by
    let:=_ST.nodup_sub ah (m:=n) λy hy=>by rw[gk,kA]at hy;show Yx hy.1
    rw[Z6]at this;show this
   let zn:z∉n.take i:=λhm=>by
    let h:=nd;rw[<-Xa i n,X1]at h;show h.2.2 z hm z (Z8 (i:=0) (by rw[PZ];show M)) rfl
   let tk:n.take (i+1)=n.take i++[z]:=by rw[X9,M];rfl
   show%[tyD (b.at_),_,get,#[0]|λp U=>%[kj (r z),ρ,gD B,?_,?_,λv hv=>?_|λhv=>?_]]
   .rw[aq (λc=>by rw[<-c,b.at_]at U;cases U)];show b.at_
   .unfold gD;rw[Z6];show aC ⋯
   .let%[q,C,e1|rfl]:=eV hv;let a3:q.1∈B\1:=Xp %[q,C|rfl];let ak:=a3;rw[gk,kA,e1]at ak;let rn:r z≠z:=λc=>zn (by show c▸ak.1)
    let sp:=ai.Qa (o:= .lst []) U;let hl:=sp _ _ (b.la q C).2;let G:=(b.up sp).add ah C z;let ml: ~~~q.2.2<= ~~~n:=by
     let:(q.1,q.2.2)∈grp r (n.take i):=u▸Xp %[q,C|rfl];let%[y,hy|c]:=Xo this;show((Prod.mk.inj c).2)▸nI (Yh _ _) (by rw[Yk];lia)
    show%[tyL (Qb.of hl),_,hl,by rw[Z6];show aC ⋯|k4 _ _ %[%[_|ρ],ai.set (O.trans sp) (b.la q C).1,_,G|?_]];rw[K4,u,tk,HV rn,e1]
   .let nk:r z∉B\1:=λh=>by
     let%[q,C|c]:=Xo h;let:=iG C;rw[c,hv]at this;show this rfl
    let rz:r z=z:=NQ λc=>nk (by rw[gk,kA];show%[jr so M (I z zm).1 (ag z zm c)|r2 z zm])
    let de:e≠p:=λq=>by rw[<-q,b.at_]at U;cases U
    rw[rz]at hv nk ⊢;let gp:Qa (Qa H' p (.lst [])) e (.dK (dw (gD B) (kj z) (.ref p))) p<*[]:=by rw[aq de.symm,aa]
    show%[tyL (Qb.of gp),[],gp,(show 0<lX by decide)|k4 _ _ %[%[_|ρ],ai.set (ai.set (O.trans (ai.Qa U)) a0) (O.free U),_,b.new O U z z nk|?_]];rw[Zd,u,tk,HU rz zn λx hx=>?_]
    .rfl
    .let%[j|hj]:=gN.mem_iff_getElem?.mp hx;let xm:=Yx hx;by_cases c:r x=x
     .rw[c];show hx
     .let ji:j<i:=by let:=(Xl hj).1;rw[Yk]at this;lia
      rw[Yb ji]at hj;show gN.take_subset_take_left _ (Ye ji) (jr so hj (I x xm).1 (ag x xm c))
  intro σ H' %[%[o3|rfl],O,B,b|u];rw[Zn (Zi _)]at u;show k3 _ _ ?_;lk;let gk:B\1=(grp r n)\1:=by rw[<-u,Yq];rfl
  let gl: ~~~B<= ~~~n:=by
   let:=_ST.nodup_sub (l:=B\1) (gk▸nJ nd) (m:=n) λy hy=>by rw[gk,kA]at hy;show hy.1
   rw[Z6]at this;show this
  show%[tyD (b.at_),%[_|b.at_]|λv fv=>%[e,aa,_,ai.Qa fv _ _ b.at_|λl fl=>?_]];let sv:=ai.Qa (o:=l8 v e) fv;let sl:=ai.Qa (o:= .lst ((gD B)\2)) fl;let a4:=O.trans (sv.trans sl);show kk l _ (B\2) (ab.trans a4) ((ab.trans (O.trans sv)).free fl) ?_ (λs hs=>?_) (λs hs=>?_) %[r,I|?_] (by rw[Z6];lia)
  .rw[aa];unfold gD;rw[Yq,Yq];rfl
  .let%[q,C|rfl]:=Xo hs;show sl _ _ (sv _ _ (b.la q C).2)
  .let%[q,C|rfl]:=Xo hs;show ab.free (b.la q C).1
  .rw[<-u,Yq,Yq];rfl
structure ck (S:kG->kG->Prop) (ks0 ks:gN _):Prop where
 nd:ks.Nodup
 mem:∀k,k∈ks↔∃a b z a' b',[a,b,z]∈ks0/\cJ S a a'/\cJ S b b'/\k=[a',b',z]
def ck.mm{S:kG->kG->Prop}{a ks b:gN ZB}(h:ck S a ks)(g:ck S a b)(k:ZB):k∈ks↔k∈b:=(h.mem k).trans (g.mem k).symm
def MM{ks c:gN ZB}(e:∀k,k∈ks↔k∈c):Ed ks=Ed c:=by
 funext a b;simp only[Ed,e]
def j8{ks c:gN ZB}(e:∀k,k∈ks↔k∈c):Dst ks=Dst c:=by
 funext a n b;simp only[Dst,e]
def j9{ks c:gN ZB}(e:∀k,k∈ks↔k∈c):Rch ks=Rch c:=by
 funext a b;let q:∀{ks},Rch ks a b↔∃n,Dst ks a (n+1) b:=%[Rch.dst|λ%[_|h]=>h.rch]
 rw[propext q,propext q,j8 e]
abbrev ju(r:kG->kG):ZB->ZB
 |[a,b,z]=>[r a,r b,z]
 | k=>k
def qZ{S:kG->kG->Prop}{c:gN ZB}{l:ZB}{r:kG->kG}(m:∀k∈c,d6 l k)(f:∀z∈l,cJ S z (r z))(k:ZB):k∈c.map (ju r)↔∃a b z g h,[a,b,z]∈c/\cJ S a g/\cJ S b h/\k=[g,h,z]:=by
 rw[Yw]
 constructor
 .rintro⟨t,d,rfl⟩;let%[a,b,z,rfl,i|j]:=m t d;show%[a,b,z,r a,r b,d,f a i,f b j|ρ]
 .rintro⟨a,b,z,g,h,d,n,o,rfl⟩;let%[x,y,u,e,i|j]:=m _ d;simp only[NT,VU]at e;let%[rfl,rfl|rfl]:=e;show%[_,d|by rw[<-(f a i).one n,<-(f b j).one o];rfl]
inductive x6 (mg:ZC)
 | mk (g c2 c3 c4:kw) (qs:ZO) (ls:ZB) (ts:ZH):vs=[.ref g]->GrF mg H g c2 c3 c4 qs ls ts->ls.Nodup->ls.Pairwise (λa b=>aP b a=hY)-> ~~~ls<=5000-> ~~~ts<=250->(∀k∈ts\2,d6 ls k)->(∀l H' (ss:ZH),ai H H'->H l=hH->H' l∣.lst (ss\0)->aJ H' ss->ck (bd qs) (ts\2) (ss\2)-> ~~~ss<=250->Q (.ref l) H')->x6 mg vs H Q E0
def Bi(T:Txt K mg):↥4 "links" ["ground"] (x6 mg):=by
 .exists T.aL,xF,as,n,%[g,c2,c3,O,qs,L,ts,rfl,hg,nd,so,U,a0,Y|kk];let tm: ~~~(ts\0)= ~~~ts:=Z6 _;show%[_,%["KC;1tuH~zA0BEI*~^A~I~_Akd?1U=]%0lLZ0?2LZ1?2LZ2?2e%cAXT30AXT31A2BBB",xF.nd,↑(↑"later earlier source names",[(3,1)]),↑["later","earlier","source","names"]|n]|?_]
  change aV _ _ _ [!g,hH] H;show am λD1 k1 _=>?_
  lk;show%[g,c2,c3,O,qs,L,ts,ρ,hg,nd,so,U|λd H1 r s1 fd hd n=>k1 _ _ ?_];lk;show aI λan hK=>?_
  lk;let u:=hg.up s1;show nH u (.inr (.inr rfl)) %[g,c2,c3,O,qs,L,ts,rfl,u|λl1 ab=>%[%[_|Qb.of aa]|hK _ _ λF hF=>?_]];let v:=ai.Qa (o:= .lst (ts\0)) ab;let B:=own v
  generalize Qa H1 l1 _=H2 at v B hF
  let ac:=v _ _ hd;let ae:=(u.up v).tu;show cg (λj vs σ M=>A4 (E3 λo1 o2 o3=>σ=[o1,o2,o3,!d]) (ai H2 M) (M F<*vs) (∃ps:ZH,A3 (vs=ps\0) (aJ M ps) (ps\2=((ts.take j)\2).map (ju r))))
   %[%[hH,hH,hH|rfl],ai.Qa hF,aa,[],rfl,gU _|rfl] (λ_ _ _ M ag=>ag.2 _ _ B) ?_ ?_
  .intro j vs σ H4 hj %[%[o1,o2,o3|rfl],C,G,ps,N,i|c];let tj:=Yc hj;let%[a,b,z,e,ha|hb]:=Y _ (Xp %[_,tj|rfl]);let st:=C _ _ (ae _ tj).2;rw[e]at st;let get:∀y∈L,cc H4 d (.str y) (hV (.str (r y))):=λy hy=>by
    let:=cc.k (k:=kj y) (C _ _ ac);rw[jq hy]at this;show this
   show%[_,SqT.of st,ρ,_,_,ρ,_,_,ρ,_,_,ρ,ρ|?_];change GR [-a,-b,-z,!d] _ _;lk;show%[_,get a ha,_,get b hb,#[3]|λp hp=>?_];let sp:=ai.Qa (o:= .tup [V.str (r a),V.str (r b),V.str z]) hp;let gp:=own sp
   generalize Qa H4 p _=H5 at sp gp ⊢
   let keep:=ph (ys:=vs++[V.ref p]) (sp _ _ G);let pl:=rM MV c;rw[Z6,Z6,Z6,Yk]at pl;show CK.mk hj (sp _ _ G) (by rw[N,Z6];show aC ⋯) %[%[_,_,_|rfl],ai.set (C.trans sp) hF,aa,ps++[(p,[r a,r b,z])],by rw[N,Zd];rfl,aE (fY (aE i λb z e=>sp _ _ e) ∅ gp) keep|?_];rw[Zd,c,X9,Z4 hj,Zd,Zd];change _++[_]=_++[ju r ts[j].2];rw[e];rfl
  intro vs σ H3 %[_,C,ah,ps,N,i|c];rw[Zn (Zi _)]at c;let pl:=rM MV c;rw[Z6,Z6,Z6]at pl;let p3:∀q∈ps,~~~q.2=3:=λq l=>by
   let:q.2∈ps\2:=Xp %[q,l|rfl];rw[c]at this;let%[k,hk|e]:=Xo this;let%[a,b,z,rfl|_]:=Y k hk;rw[<-e];rfl
  show%[ps,by rw[<-N];show Qb.of ah,i,%[ps\2,by rw[Z6];lia|λq l=>Xp %[q,l|ρ]]|λl5 ak=>?_];let s5:=ai.Qa (o:=qb P w l5 (bJ ps)) ak;let few: ~~~(bJ ps)<=250:=by
   let:=_ST.nodup_sub (eT ps) (m:=ps\2) λk hk=>by
    let%[q,l|rfl]:=Xo hk;show Xp %[q,bw ps q l|rfl]
   rw[Z6,Z6]at this
   lia
  show%[bJ ps,aa,λq l=>%[(i q (bw ps q l)).1|s5 _ _ (i q (bw ps q l)).2],3,λq l=>p3 q (bw ps q l),!1,⋯|λl6 ss I pm=>?_];let s6:=ai.Qa (o:= .lst (ss\0)) I;let J:=s1.trans (v.trans (C.trans s5));let pk:(ss\2).Perm ((bJ ps)\2):=pm.map _;show kk l6 _ ss (J.trans s6) (J.free I) aa (λq l=>?_) %[pk.nodup_iff.mpr (eT ps)|λk=>?_] (by rw[pm.length_eq];show few)
  .let al:=pm.mem_iff.mp l;let:=i q (bw ps q al);show%[this.1|s6 _ _ (s5 _ _ this.2)]
  .rw[pk.mem_iff,jd,c];show qZ Y (λz hz=>(n z hz).2) k
def FL{S:kG->kG->Prop}(d:c.Pairwise (λa b=>aP b a=hY))(i:∀z∈c,r z∈c/\cJ S z (r z))(h:p∈grp r c):p.2[0]?∣p.1:=by
 unfold grp at h;let%[z,j|rfl]:=Xo h;let%[l|m]:=o0.mp j;let f:z∈c.filter (λx=>decide (r x=z)):=o0.mpr %[l|m];let d:=d.sublist (gN.filter_sublist (p:=λx=>decide (r x=z)));let all:∀x∈c.filter (λx=>decide (r x=z)),aP x z=hY:=λx n=>by
  let%[o|s]:=o0.mp n;rw[<-Zo s];show(i x o).2.2 x (.refl _)
 change(c.filter λx=>decide (r x=z))[0]?∣z
 generalize c.filter (λx=>decide (r x=z))=g at all f d
 cases g with
 | nil=>cases f
 | cons y g=>
   rw[TR];rcases Yv.mp f with e|e
   .rw[e]
   .let a:=(UW.mp d).1 z e;by_cases q:y=z
    .rw[q]
    .let:=fU (all y Zm) q;rw[a]at this;cases this
structure rc (S:kG->kG->Prop) (ls ns:ZB):Prop where
 nd:ns.Nodup
 mem:∀x,x∈ns↔x∈ls/\cJ S x x
 so:ns.Pairwise (λa b=>aP b a=hY)
 ne:ls≠[]->ns≠[]
def K6{S:kG->kG->Prop}{a:ZB}{r:kG->kG}(c:∀z∈a,r z∈a/\cJ S z (r z))(h:a≠[]):(grp r a)\1≠[]:=by
 let%[z|f]:=To _ h;let%[e|b]:=c z f;let g:cJ S (r z) (r z):=%[b.1.symm.trans b.1|λy d=>b.2 y (b.1.trans d)]
 show gN.ne_nil_of_mem (kA.mpr %[e|(c _ e).2.one g])
def K7{r:kG->kG}{xs:ZB}(h:xs.Pairwise (λa b=>aP b a=hY)):((grp r xs)\1).Pairwise (λa b=>aP b a=hY):=by
 unfold grp;rw[Yq];change Qs _ (R9 (λz=>z) _);rw[gN.map_id'];show h.filter _
inductive uL (mg:ZC)
 | mk (g c2 c3 c4 qs ls ts):vs=[.ref g]->GrF mg H g c2 c3 c4 qs ls ts->ls.Nodup->ls.Pairwise (λa b=>aP b a=hY)-> ~~~ls<=5000->(∀l H' ns,ai H H'->H l=hH->H' l<*ns\3->rc (bd qs) ls ns->Q (.ref l) H')->uL mg vs H Q E0
def dX(T:Txt K mg):↥5 "deposit_names" ["ground"] (uL mg):=by
 .exists T.aK,nu,L,a,%[g,c2,c3,y,qs,b,ts,rfl,M,nd,i,l|N];show%[_,%["KEIkd?1UH]&A0BZ0?2%N0D",0,↑(["group"],[]),↑["group"]|a]|?_];change iY _ _ [!g] H;lk;show aI λB O=>?_
  lk;show%[g,c2,c3,y,qs,b,ts,ρ,M,nd,i,l|λl1 U ss C f1 G Y _ %[r,a|I] ab=>%[%[_|Qb.of G]|O _ _ λF m=>?_]];let sg: ~~~ss= ~~~(grp r b):=by
   let:=rM MV I;rwa[Z6,Z6]at this
  show cg (λj vs n o=>A4 (∃J,n=[J]) (ai U o) (o F<*vs) (vs=(((grp r b).take j)\1)\3))
   %[%[hH|rfl],ai.Qa m,aa|rfl] (λ_ _ _ o p=>p.2 _ _ G) ?_ ?_
  .intro j vs n H4 q %[%[J|rfl],e,u|c];let v:j< ~~~(grp r b):=by lia
   let e2:ss[j].2=(grp r b)[j].2:=by
    let:=rM (λz=>z[j]?) I;simpa [q,v]using this
   lk;show%[_,Qb.of (e _ _ (Y _ (Yc q))),_,(show atI (ss[j].2\3) ((0:iv):on)∣_ from cj (by rw[Zl,e2,(FL i a (Yc v))];rfl))|?_];show CK.mk q u (by rw[c,Z6,Z6,Yk];show aC ⋯) %[%[_|rfl],ai.set e m,aa|?_];rw[c,X9,Z4 v,Zd,Zd];rfl
  intro vs n H3 %[_,e,d|c];rw[Zn ⋯]at c;rw[c]at d;show N F H3 _ (C.trans e) (C.free m) d %[nJ nd,λx=>?_,K7 i|K6 a];rw[kA];show%[λh=>%[h.1|by let:=(a x h.1).2;rwa[h.2]at this]|λh=>%[h.1|(a x h.1).2.one h.2]]
abbrev GrB(H:Hp)(d:kw)(ss:ZH)(i:iv):Prop:=∃a,H d∣.dK a/\∀n,(∃l,bQ a (kj n)∣.ref l/\H l∣.lst ((ss.filter λt=>decide (t.2[i]? =hV n))\0))\/(bQ a (kj n)=hH/\∀t∈ss,t.2[i]? ≠hV n)
def GrB.up(h:GrB H d ss i)(s:ai H e):GrB e d ss i:=by
 let%[c,f|g]:=h;show%[c,s _ _ f|λn=>(g n).imp_left λ%[l,a|b]=>%[l,a|s _ _ b]]
abbrev dR(H:Hp)(a:ZB)(ss:ZH):Prop:=∀t∈ss,H t.1&&&t.2\3/\d6 a t.2
def dR.up(h:dR H b ss)(s:ai H c):dR c b ss:=λt a=>%[s _ _ (h t a).1|(h t a).2]
def K8(h:d6 c k)(hi:i<2):∃n,k[i]?∣n/\n∈c:=by
 let%[a,b,z,rfl,d|e]:=h
 match i,hi with
 | 0,_=>show%[a,ρ|d]
 | 1,_=>show%[b,ρ|e]
inductive rg
 | mk (l:kw) (i:iv) (ns:ZB) (ss:gN _):vs=[.ref l,.int i]->i<2->H l∣.lst (ss\0)->dR H ns ss-> ~~~ss<=250->(∀d H',ai H H'->H d=hH->GrB H' d ss i->Q (.ref d) H')->rg vs H Q E0
inductive FM (i:iv)
 | mk (l ns ss):vs=[.ref l]->H l∣.lst (ss\0)->dR H ns ss-> ~~~ss<=250->(∀d H',ai H H'->H d=hH->GrB H' d ss i->Q (.ref d) H')->FM i vs H Q E0
def uM(T:Txt K mg):↥1 "grouped" ↑"found side" rg:=by
 .exists T.aO,lv,ae,hr,%[l,i,ns,ss,rfl,hi,U,Y,ag|kk];let ah: ~~~(ss\0)= ~~~ss:=Z6 _;show%[_,%["KCF2xCRU0J3EY~!i~$~%2AS31AQBBA3BEI2"|lv.nd]|?_]
  change aV _ _ _ [!l,hV (.int i),hH,hH] H;show am λD1 k1 _=>?_
  lk;intro e fe;show k1 _ _ (am λD2 k2 _=>az λac hK=>?_);lk;let se:=ai.Qa (o:= .dK []) fe;show%[%[_|Qb.of (se _ _ U)]|hK _ _ ?_];show bB (λj σ u=>A3 (∃o3,σ=[!l,hV (.int i),!e,o3]) (ai H u) (∃m,A4 (jG (λt:kw×ZB=>V.ref t.1) H u e m) ((m\1).Nodup) (∀g∈m,g.2.2=(ss.take j).filter λt=>decide (t.2[i]?∣g.1)) (∀n,n∈m\1↔∃t∈ss.take j,t.2[i]?∣n)))
   %[%[_|rfl],se,[],%[aa,λg B=>(nomatch B)|X3],X3,λg B=>(nomatch B)|by simp] (λj σ u h=>h.2 _ _ U) ?_ ?_
  .intro j t σ u G %[%[o3|rfl],I,m,d,gn,J|N];let tm:=Z8 G;let j1:j< ~~~ss:=(Xl G).1;let%[n,L|_]:=K8 (Y t tm).2 hi;let tk:ss.take (j+1)=ss.take j++[t]:=by rw[X9,G];rfl
   change nP _ _ [!l,hV (.int i),!e,hV (.ref t.1)] u;show aA λD4 k4 _=>?_
   lk;let gl: ~~~m<= ~~~ss:=by
    let:m\1 ⊆ ss.filterMap λt=>t.2[i]? :=λy hy=>by
     let%[t,G|e]:=(N y).mp hy;show Np.mpr %[t,Yx G|e]
    let:=_ST.nodup_sub gn λx hx=>this hx
    rw[Z6]at this;show nI this (OH _ _)
   let st:=I _ _ (Y t tm).1;let keys:∀(M:Gs (kw×ZB)),(∀y,y∈M\1↔y∈m\1\/y=n)->∀y,y∈M\1↔∃t∈ss.take (j+1),t.2[i]?∣y:=λM h y=>by
    rw[h,N,tk]
    constructor
    .rintro(⟨t',h1,h2⟩|rfl)
     .show%[t',Yt _ h1|h2]
     .show%[t,Yu _ Zm|L]
    .rintro⟨t',h1,h2⟩;rcases Xm h1 with q|q
     .show .inl %[t',q|h2]
     .rw[Xn q,L]at h2;show .inr (Za h2).symm
   show%[tyD (d.at_),_,SqT.of st,_,cj (show(t.2\3)[i]?∣.str n by rw[Zl,L];rfl),#[0]|λp C=>%[kj n,ρ,gD m,?_,?_,λv O=>?_|λO=>?_]]
   .rw[aq (λc=>by rw[<-c,d.at_]at C;cases C)];show d.at_
   .unfold gD;rw[Z6];show aC ⋯
   .let%[q,r,e1|rfl]:=eV O;let sp:=ai.Qa (o:= .lst []) C;let U:=sp _ _ (d.la q r).2;let ml: ~~~q.2.2<= ~~~ss:=by
     rw[J q r];show nI (Yh _ _) (by rw[Yk];lia)
    let ka:(nK q.1 t m)\1=m\1:=by
     unfold nK;rw[Yq];show Yo λg _=>?_
     change(if g.1=q.1 then(g.1,g.2.1,g.2.2++[t])else g).1=_
     split<;> rfl
    show%[tyL (Qb.of U),_,U,by rw[Z6];show aC ⋯|k4 _ _ %[%[_|ρ],ai.set (I.trans sp) (d.la q r).1,_,((d.up sp).add gn r t),ka▸gn,λg B=>?_|keys _ λy=>?_]]
    .unfold nK at B;let%[g0,h0|rfl]:=Xo B;rw[tk,Y2];by_cases c:g0.1=q.1
     .rw[lp c];change g0.2.2++[t]=_++Ou (λt=>decide (t.2[i]?∣g0.1)) [t];rw[J g0 h0,Y6 (by rw[L,c,e1];simp),Y7]
     .rw[ku c,J g0 h0,Y4 (by rw[L,<-e1];simpa using λz=>c z.symm),Y7,Zx]
    .rw[ka];show%[.inl|λh=>h.elim id λh=>by rw[h,<-e1];show Xp %[q,r|ρ]]
   .let nk:n∉m\1:=λh=>by
     let%[q,r|c]:=Xo h;let:=iG r;rw[c,O]at this;show this rfl
    let de:e≠p:=λq=>by rw[<-q,d.at_]at C;cases C
    let gp:Qa (Qa u p (.lst [])) e (.dK (dw (gD m) (kj n) (.ref p))) p<*[]:=by rw[aq de.symm,aa]
    show%[tyL (Qb.of gp),[],gp,(show 0<lX by decide)|k4 _ _ %[%[_|ρ],ai.set (ai.set (I.trans (ai.Qa C)) fe) (I.free C),_,d.new I C n t nk,?_,λg B=>?_|keys _ λy=>?_]]
    .rw[Zd,X1];show%[gn,by simp|λa ha b hb c=>nk (by rw[<-show b=n from Xn hb,<-c];show ha)]
    .rw[tk,Y2];rcases Xm B with q|q
     .let c:g.1≠n:=λc=>nk (c▸Xp %[g,q|rfl])
      rw[J g q,Y4 (by rw[L];simpa using λz=>c z.symm),Y7,Zx]
     .rw[Xn q];change [t]=_++Ou (λt=>decide (t.2[i]?∣n)) [t];rw[Y6 (by rw[L];simp),Y7,Py.mpr λt' ab c=>nk ((N n).mpr %[t',ab|Zo c])];rfl
    .rw[Zd,Ys,Yp,SQ,Yy]
  .intro σ u %[%[o3|rfl],I,m,d,gn,J|N];rw[Zn (Zi _)]at J N;show k2 _ _ ?_;lk;show kk e u I fe %[_,d.at_|λn=>?_];cases O:bQ (gD m) (kj n)with
   | none=>
     show .inr %[rfl|λt G c=>?_];let%[q,r|c]:=Xo ((N n).mpr %[t,G|c]);let:=iG r;rw[c,O]at this;show this rfl
   | some v=>
     let%[q,r,e1|rfl]:=eV O;show .inl %[_,rfl|?_];rw[(d.la q r).2,J q r,e1]
def eQ(T:Txt K mg):↥2 "links_by_later" ["found"] (FM 0):=by
 .exists T.aM,mo,d,e,%[l,c,ss,rfl,g,a,b|i];show%[_,%["KEIH~9A0A}B",0|e],l,0,c,ss,ρ,by simp,g,a,b|i]
def lE(T:Txt K mg):↥2 "links_by_earlier" ["found"] (FM 1):=by
 .exists T.aN,kH,d,e,%[l,c,ss,rfl,g,a,b|i];show%[_,%["KEIH~9A0A~EB",0|e],l,1,c,ss,ρ,by simp,g,a,b|i]
structure ReB (ss:ZH) (rs:Gs kG):Prop where
 nd:(rs\1).Nodup
 sub:∀r∈rs,r.2∈ss/\r.2.2[1]?∣r.1
def ReB.len(h:ReB ss rs): ~~~rs<= ~~~ss:=by
 let:=_ST.nodup_sub h.nd (m:=ss.filterMap λt=>t.2[1]?) λx a=>by
  let%[r,b|rfl]:=Xo a;show Np.mpr %[r.2|h.sub r b]
 rw[Z6]at this;show nI this (OH _ _)
def ReB.snoc(h:ReB ss rs)(d:(a,[p,y,z])∈ss)(e:y∉rs\1):ReB ss (rs++[(y,a,[p,y,z])]):=by
 show%[?_|λr f=>?_]
 .rw[Zd,X1];show%[h.nd,by simp|λa g b i c=>e (by rw[<-show b=y from Xn i,<-c];show g)]
 .rcases Xm f with q|q
  .show h.sub r q
  .rw[Xn q];show%[d|ρ]
abbrev dM(d:kw)(H a:Hp):Prop:=∀b o,b≠d->H b∣o->a b∣o
def dM.trans(h:dM d H c)(g:dM d c a):dM d H a:=λb o n e=>g b o n (h b o n e)
def dM.of(h:ai H a):dM d H a:=λb o _ e=>h b o e
def GrB.x(h:GrB H b ss i)(s:dM d H f)(n:b≠d)(m:H d∣.dK o):GrB f b ss i:=by
 let%[e,g|j]:=h;show%[e,s _ _ n g|λn=>(j n).imp_left λ%[l,a|b]=>%[l,a|s _ _ (λc=>by lia) b]]
def dR.x(h:dR H e ss)(s:dM d H f)(g:H d∣.dK i):dR f e ss:=λt a=>%[s _ _ (λc=>by let b:=(h t a).1;grind) (h t a).1|(h t a).2]
def GrB.get(h:GrB f b ss i)(s:dM d f H)(nb:b≠d)(q:∀xs,f d≠hV (.lst xs))(r:H p=hH)(n:kG):∃e a,Qa H p (.lst []) b∣.dK e/\(bQ e (kj n)).getD (.ref p)= .ref a/\Qa H p (.lst []) a∣.lst ((ss.filter λt=>decide (t.2[i]? =hV n))\0)/\(a=p\/∃o,f a∣o):=by
 let%[e,m|u]:=h;let sp:=ai.Qa (o:= .lst []) r;rcases u n with⟨l,g,j⟩|⟨g,v⟩
 .show%[e,l,sp _ _ (s _ _ nb m),by rw[g];rfl,sp _ _ (s _ _ (λc=>q _ (c▸j)) j)|.inr %[_|j]]
 .show%[e,p,sp _ _ (s _ _ nb m),by rw[g];rfl,?_|.inl rfl];rw[Py.mpr λt y c=>v t y (Zo c)];show aa
inductive Bj
 | mk (b e d:kw) (ns F:ZB) (ss:gN _) (rs:Gs kG):vs=[.ref b,.ref e,.ref d]->b≠d->GrB H b ss 0->dR H ns ss-> ~~~ss<=250->H e<*F\3->H d∣.dK (gD rs)->ReB ss rs->(∀g H' new,dM d H H'->H g=hH->H' g<*(new\1)\3->H' d∣.dK (gD (rs++new))->ReB ss (rs++new)->(∀r∈new,∃p∈F,r.2.2[0]?∣p)->(∀x∈F,∀y,Ed (ss\2) x y->y∈(rs++new)\1)->Q (.ref g) H')->Bj vs H Q E0
def x8(T:Txt K mg):↥1 "next_edge" ↑"beneath edge reached" Bj:=by
 .exists T.aR,fJ,be,hr,%[b,e,d,ns,F,ss,rs,rfl,ah,hb,ak,bf,he,hd,a4|kk];let Fm: ~~~(F\3)= ~~~F:=Z6 _;let ed:e≠d:=λc=>by rw[c,hd]at he;cases he
  show%[_,%["KCF3QBCRU1J4ERU~P~Q0A4AQBBJ5EO~RS5~E2Cr52S5~EEYni3AS5~EBPEI3",fJ.nd|hr]|?_]
  change aV _ _ _ [!b,!e,!d,hH,hH,hH] H;show am λD1 k1 _=>?_
  lk;show%[#[0]|λg fg=>k1 _ _ (am λD2 k2 _=>az λal hK=>?_)];let gd:g≠d:=λc=>by rw[c,hd]at fg;cases fg
  let s1:=ai.Qa (o:= .lst []) fg;let gg:Qa H g (.lst []) g<*(([]:Gs kG)\1)\3:=aa
  generalize Qa H g _=H1 at s1 gg
  lk;show%[%[_|Qb.of (s1 _ _ he)]|hK _ _ ?_];show bB (λi U Y=>A3 (E2 λo4 o5=>U=[!b,!e,!d,!g,o4,o5]) (dM d H Y) (∃new:Gs kG,A5 (Y g<*(new\1)\3) (Y d∣.dK (gD (rs++new))) (ReB ss (rs++new)) (∀r∈new,∃p∈F,r.2.2[0]?∣p) (∀x∈F.take i,∀y,Ed (ss\2) x y->y∈(rs++new)\1)))
   %[%[_,_|rfl],dM.of s1,[],gg,by rw[Zx];show s1 _ _ hd,by rw[Zx];show a4,λr hr=>(nomatch hr)|λx hx=>(nomatch hx)] (λi U Y h=>h.2 _ _ ed he) ?_ ?_
  .intro i n U Y hn %[%[o4,o5|rfl],sm,new,hg,l,J,ae|m];let tk:F.take (i+1)=F.take i++[n]:=by rw[X9,hn];rfl
   change ww _ _ _ _ [!b,!e,!d,!g,-n,o5] Y;show aA λD3 k3 _=>az λal hK=>?_
   lk;show%[tyD (sm _ _ ah hb.choose_spec.1),#[0]|λp hp=>?_];let%[a5,a,an,a6,L|ba]:=hb.get sm ah (λxs c=>by rw[hd]at c;cases c) hp n;let ag:a≠g:=by
    rcases ba with rfl|⟨o,ho⟩
    .show λc=>by rw[c,hg]at hp;cases hp
    .show λc=>by rw[c,fg]at ho;cases ho
   let ad:a≠d:=λc=>by
    let:=L;rw[c,aq (λc=>by rw[c,hp]at l;cases l),l]at this;cases this
   let sp:=ai.Qa (o:= .lst []) hp;let hg:=sp _ _ hg;let l:=sp _ _ l;let sm:=sm.trans (dM.of sp)
   generalize Qa Y p _=H2 at an L sp hg l sm ⊢
   generalize as:(ss.filter λt=>decide (t.2[0]?∣n))=ts at L
   let tm: ~~~(ts\0)= ~~~ts:=Z6 _;let bb:∀t∈ts,t∈ss/\∃y z,t.2=[n,y,z]:=λt ht=>by
    rw[<-as]at ht;let%[h1|h2]:=o0.mp ht;let%[x,y,z,e|_]:=(ak t h1).2;let h2:=Zo h2;rw[e]at h2;show%[h1,y,z|by rw[e,show x=n from Za h2]]
   show%[kj n,ρ,a5,an|vV a6 %[%[_|Qb.of L]|hK _ _ ?_]];show bB (λj U O=>A4 (∃o5,U=[!b,!e,!d,!g,-n,o5]) (dM d H O) (O a∣.lst (ts\0)) (∃new:Gs kG,A6 (O g<*(new\1)\3) (O d∣.dK (gD (rs++new))) (ReB ss (rs++new)) (∀r∈new,∃p∈F,r.2.2[0]?∣p) (∀x∈F.take i,∀y,Ed (ss\2) x y->y∈(rs++new)\1) (∀t∈ts.take j,∀y,t.2[1]?∣y->y∈(rs++new)\1)))
    %[%[_|rfl],sm,L,new,hg,l,J,ae,m|λt ht=>(nomatch ht)] (λj U O h=>h.3) ?_ ?_
   .intro j t U O ht %[%[o5|rfl],M,N,new,ab,G,B,C,u|ac];let%[a0,y,z|et]:=bb t (Z8 ht);let I:=(ak.x M hd t a0).1;rw[et]at I;let bc:ts.take (j+1)=ts.take j++[t]:=by rw[X9,ht];rfl
    change lJ _ _ _ _ [!b,!e,!d,!g,-n,hV (.ref t.1)] O;show aA λD4 k4 _=>?_
    lk;show%[_,SqT.of I,_,ρ,_,cc.k (k:=kj y) G|?_];let a1:∀(nw:Gs kG),(∀x∈(rs++new)\1,x∈(rs++nw)\1)->y∈(rs++nw)\1->(∀x∈F.take i,∀y,Ed (ss\2) x y->y∈(rs++nw)\1)/\∀t∈ts.take (j+1),∀y,t.2[1]?∣y->y∈(rs++nw)\1:=λnw mono hy=>by
     show%[λx hx y h=>mono y (u x hx y h)|λt' a2 y' h=>?_];rw[bc]at a2;rcases Xm a2 with q|q
     .show mono y' (ac t' q y' h)
     .rw[Xn q,et]at h;rw[<-show y=y' from Za h];show hy
    cases hv:bQ (gD (rs++new)) (kj y)with
    | some v=>
      rw[ku ∅];let%[q,hq,e1|_]:=eV hv;let%[n1|n2]:=a1 new (λ_ h=>h) (by rw[<-e1];show Xp %[q,hq|rfl]);show k4 _ _ %[%[_|rfl],M,N,new,ab,G,B,C,n1|n2]
    | none=>
      rw[lp (by rfl)];let hy:y∉(rs++new)\1:=λh=>by
       let%[q,hq|c]:=Xo h;let:=iG hq;rw[c,hv]at this;show this rfl
      let ln:=B.len;let nl: ~~~new<=250:=by rw[Z9]at ln;lia
      show%[_,SqT.of I,_,ρ,_,fA.k (k:=kj y) G (by unfold gD;rw[Z6];show aC ⋯)|?_];rw[dC _ hv];let e1:gD (rs++new) ++[(kj y,V.ref t.1)]=gD (rs++(new++[(y,t.1,[n,y,z])])):=by
       unfold gD;rw[<-Ze,Zd (l₂:=[_])];rfl
      rw[e1];let u1:∀c o,c≠d->O c∣o->Qa O d (.dK (gD (rs++(new++[(y,t.1,[n,y,z])])))) c∣o:=λc o h e=>(aq h)▸e
      let a3:=u1 _ _ gd ab;let R:=B.snoc (p:=n) (y:=y) (z:=z) (a:=t.1) (et▸a0) hy;rw[Ze]at R;let%[n1|n2]:=a1 (new++[(y,t.1,[n,y,z])]) (λx hx=>by rw[<-Ze,Zd];show Yt _ hx) (by rw[<-Ze,Zd];show Yu _ Zm);show%[tyL (Qb.of a3),_,SqT.of (u1 _ _ (λc=>by rw[c,G]at I;cases I) I),_,ρ,_,a3,by rw[Z6,Z6];show aC ⋯|k4 _ _ %[%[_|ρ],λc o h e=>?_,(aq ag).trans (u1 _ _ ad N),_,?_,(aq gd.symm).trans aa,R,?_,n1|n2]]
      .rw[aq (aw e fg)];show u1 _ _ h (M _ _ h e)
      .rw[aa,Zd,Zd];rfl
      .intro r hr;rcases Xm hr with q|q
       .show C r q
       .rw[Xn q];show%[n,Z8 hn|ρ]
   .intro U O %[%[o5|rfl],M,N,new,ab,G,B,C,u|ac];rw[Zn (Zi _)]at ac;show k3 _ _ %[%[_,_|rfl],M,new,ab,G,B,C|λx hx y %[z|hy]=>?_];rw[tk]at hx;rcases Xm hx with q|q
    .show u x q y %[z|hy]
    .rw[Xn q]at hy;let%[t,ht|et]:=Xo hy;show ac t (as▸o0.mpr %[ht|by rw[et];simp]) y (by rw[et];rfl)
  .intro U Y %[%[o4,o5|rfl],sm,new,hg,l,J,ae|m];rw[Zn (Zi _)]at m;show k2 _ _ ?_;lk;show kk g Y new sm fg hg l J ae m
def uN{b:re}(h: ¬ (not b)=hX):b=hX:=by
 cases b
 .show n0 rfl h
 .rfl
def lF{rs:Gs kG}{y:kG}(h:y∈rs\1):∃r∈rs,r.1=y/\bQ (gD rs) (kj y)∣.ref r.2.1:=by
 cases b:bQ (gD rs) _ with
 | none=>
   let%[q,a|c]:=Xo h;let:=iG a;rw[c,b]at this;show(this rfl).elim
 | some v=>
   let%[q,a,e|rfl]:=eV b;show%[q,a,e|ρ]
inductive FN
 | mk (d st goal ns F ss rs dd k):vs=[.ref d,.str st,.str goal]->H d∣.dK (gD rs)->ReB ss rs->Lev (ss\2) st rs dd k F->k<=300->dR H ns ss->goal∈rs\1->(∀l H' (ws:gN _),ai H H'->H l=hH->H' l∣.lst (ws\0)->(∀t∈ws,t∈ss)->Wal (ws\2) st goal-> ~~~ws=dd goal->Q (.ref l) H')->FN vs H Q E0
def FO(T:Txt K mg):↥1 "way_to" ↑"reached start goal" FN:=by
 .exists T.aS,uo,ab,j,%[d,st,a,ns,F,ss,rs,i,k,rfl,hd,C,l,hk,G,n|kk];show%[_,%["KCF3QAX02BC~OM~XSN3~ZD}1EYni3AX0SN3~ZD}BEI]'3",uo.nd|j]|?_]
  change aV _ _ _ [!d,-st,-a,hH] H;show am λD1 k1 _=>?_
  lk;let%[r,I,e1|hv]:=lF n;let get:=cc.k (k:=kj a) hd;rw[hv]at get;show%[_,get,#[1]|λb fw=>k1 _ _ (am λD2 k2 _=>?_)];let s1:=ai.Qa (o:= .lst [V.ref r.2.1]) fw;let gw:Qa H b (.lst [V.ref r.2.1]) b∣.lst (([]:ZH).reverse\0 ++[V.ref r.2.1]):=aa
  generalize Qa H b _=H1 at s1 gw
  show%[λm σ u=>σ=[!d,-st,-a,!b]/\ai H u/\∃(us:ZH) (r:kG×kw×ZB),r∈rs/\m=i r.1/\u b∣.lst (us.reverse\0 ++[.ref r.2.1])/\(∀t∈us,t∈ss)/\Wal (us\2) r.1 a/\ ~~~us+m=i a,%[_,rfl,s1,[],r,I,rfl,gw,λt h=>(nomatch h),e1|by rw[e1];simp]|?_];intro m σ H2 %[rfl,v,us,r,j,rfl,hw,y,B|hl];let%[ac,p,z,J|hp]:=l.by_ r j;let e:=(C.sub r j).1;let g:=v _ _ (G _ e).1;rw[J]at g;let gl:=l.le a n;lk;show%[_,Qb.of hw,_,wB _ _,_,SqT.of g,_,ρ|bv (λh=>?_) λh=>?_]
  .let h:p≠st:=↑h
   let%[_,L|ae]:=hp.resolve_left λc=>h c.1
   let%[r',M,N|O]:=lF L;let get:=cc.k (k:=kj p) (v _ _ hd);rw[O]at get;show%[λU u=>∃Y,Y<i r.1/\U=[!d,-st,-a,!b]/\ai H u/\∃(us:ZH) (r:kG×kw×ZB),r∈rs/\Y=i r.1/\u b∣_/\(∀t∈us,t∈ss)/\Wal (us\2) r.1 a/\ ~~~us+Y=i a,λ_ _ h=>h,tyL (Qb.of hw),_,Qb.of hw,_,wB _ _,_,SqT.of g,_,rfl,_,get,_,hw,by rw[Z9,Z6,UK,Yj];show aC ⋯,_,?_,rfl,ai.set v fw,r.2::us,r',M,rfl,?_,?_,?_|?_]
   .rw[N];lia
   .rw[aa,R8,Zd];rfl
   .intro t ht;rcases Yv.mp ht with q|q
    .show q▸e
    .show y t q
   .show%[r.1,z,J.trans (by rw[N])|B]
   .rw[Zr,N];lia
  .let h:p=st:=↑h
   show k2 _ _ ?_;lk;show%[_,hw|λq fq=>kk q _ (r.2::us) (v.trans (ai.Qa fq)) (v.free fq) ?_ (λt ht=>?_) %[r.1,z,J.trans (by rw[h])|B] (by rw[Zr];lia)]
   .rw[aa,gN.reverse_append,<-gN.map_reverse,gN.reverse_reverse];rfl
   .rcases Yv.mp ht with q|q
    .show q▸e
    .show y t q
inductive x9
 | mk (b st goal ns ss):vs=[.ref b,.str st,.str goal]->GrB H b ss 0->dR H ns ss-> ~~~ss<=250->(∀H',ai H H'-> ¬ Rch (ss\2) st goal->Q .non H')->(∀l H' (ws:gN _),ai H H'->H l=hH->H' l∣.lst (ws\0)->(∀t∈ws,t∈ss)->Sho (ss\2) st goal (ws\2)-> ~~~ws<=300->Q (.ref l) H')->x9 vs H Q E0
abbrev My(H:Hp)(b d:kw)(st a:kG)(ss:ZH)(m:iv)(f:_LL.St)(c:Hp):Prop:=∃e F rs g k,f=[!b,-st,-a,!d,!e]/\ai H c/\c e<*F\3/\c d∣.dK (gD rs)/\ReB ss rs/\Lev (ss\2) st rs g k F/\k<= ~~~rs+1/\(F≠[]->k<= ~~~rs)/\m=2*(250-rs.length) +F.length.min 1
def rh(T:Txt K mg):↥2 "shortest_way" ↑"beneath start goal" x9:=by
 .exists T.aQ,dU,as,C,%[b,st,i,ns,ss,rfl,hb,G,ac,kn|ky];show%[_,%["KCF3xCF4QA1BC~Of,M~AghA4BD.~R23EF4H](A0A4A3BCO~R23EI>PEIH])A3A1A2B",dU.nd|C]|?_]
  change aV _ _ _ [!b,-st,-i,hH,hH] H;show am λD1 k1 _=>?_
  lk;intro d fd;show k1 _ _ (am λD2 k2 _=>?_);let ae:b≠d:=λc=>by
   let%[a0,N|_]:=hb;rw[c,fd]at N;cases N
  let s1:=ai.Qa (o:= .dK []) fd;let B:Qa H d (.dK []) d∣.dK (gD ([]:Gs kG)):=aa
  generalize Qa H d _=H1 at s1 B
  lk;show%[#[1]|λe fe=>k2 _ _ (am λD3 k3 _=>?_)];let s2:=ai.Qa (o:= .lst [V.str st]) fe;let O:Qa H1 e (.lst [V.str st]) e<*[st]\3:=aa;let B:=s2 _ _ B;let U:=s1.trans s2
  generalize Qa H1 e _=H2 at U O B
  show%[My H b d st i ss,%[_,e,[st],[],_,_,ρ,U,O,B,%[X3|λ_ h=>(nomatch h)],.nil,by simp,λ_=>Zi _|ρ]|?_];intro m σ H3 %[e,F,rs,dd,k,rfl,I,O,B,J,j,hk,ag|rfl];let fm: ~~~(F\3)= ~~~F:=Z6 _;let get:=cc.k (k:=kj i) B;let rl:=J.len;let L:i∈rs\1↔(bQ (gD rs) (kj i)).isSome=hX:=by
   show%[λh=>?_|λh=>?_]
   .let%[r,_,_|e]:=lF h;rw[e];rfl
   .let%[v|hv]:=QP.mp h;let%[q,hq,c|_]:=eV hv;show c▸Xp %[q,hq|rfl]
  lk;let fin:(i∉rs\1->F=[])->D3.nx [!b,-st,-i,!d,!e] H3:=λh=>by
   show k3 _ _ (am λD4 k4 r4=>?_);lk;show%[_,get|bv (λq=>?_) λq=>?_]
   .let q:i∉rs\1:=λc=>by rw[L.mp c]at q;cases q
    show r4 _ _ (kn H3 I λr=>q ?_);let%[n|hn]:=r.dst;rw[h q]at j;show j.stop hn
   .let q:i∈rs\1:=L.mpr (uN q);show k4 _ _ ?_;lk;show%[d,st,i,ns,F,ss,rs,dd,k,ρ,B,J,j,⋯,G.up I,q|λl H' ws s' fl hl Y ah wl=>ky l H' ws (I.trans s') (I.free fl) hl Y %[λk hk=>?_,ah,?_|λn hn=>?_] (by rw[wl];let:=j.le _ q;lia)]
    .let%[t,ht|rfl]:=Xo hk;show Xp %[t,Y t ht|rfl]
    .rw[Z6,wl];show(j.dst q).1
    .rw[Z6,wl];show j.min q hn
  show%[_,.inl %[_,Qb.of O|ρ]|bv (λh=>?_) λh=>fin λ_=>?_]
  .let h:0< ~~~F:=by
    rw[fm]at h;let:=Zo h
    lia
   show%[_,get|bv (λq=>%[λak H'=>∃m',m'<2*(250-rs.length) +F.length.min 1/\My H b d st i ss m' ak H',λ_ _ h=>h,b,e,d,ns,F,ss,rs,ρ,ae,hb.up I,G.up I,ac,O,B,J|λg H4 new sx fg hg al u an M=>?_]) λq=>fin λc=>n0 (L.mpr (uN q)) c];let ln:=u.len;rw[Z9]at ln;let ab:F.length.min 1=1:=Sw h;let kF:=ag λc=>by rw[c]at h;cases h
   show%[_,?_,g,new\1,rs++new,_,_,ρ,(λc o ec=>sx c o (λz=>by rw[z,fd]at ec;cases ec) (I _ _ ec)),hg,al,u,j.step u.nd (λr C=>?_) M,?_,λnn=>?_|ρ]
   .rw[ab,Z9,Z6];cases new with
    | nil=>simp
    | cons a r=>
      rw[Zr]at ln ⊢;let:(~~~r+1).min 1<=1:=iv.min_le_right _ _
      lia
   .let%[N|h2]:=u.sub r (Yu _ C);let%[p,hp|h3]:=an r C;let%[x,y,z,e|_]:=(G r.2 N).2;rw[e]at h2 h3;show%[Xp %[_,N|ρ],p,z,hp|by rw[e,show x=p from Za h3,show y=r.1 from Za h2]]
   .rw[Z9];lia
   .cases new with
    | nil=>show n0 rfl nn
    | cons a r=>rw[Z9,Zr];lia
  .cases F with
   | nil=>rfl
   | cons x F=>show n0 (Zf (by rw[fm,Zr];lia)) h
abbrev VD(a:ZB)(g:kG->V):gN (Key×V):=a.map λz=>(kj z,g z)
def jv:∀{a:ZB},z∈a->bQ (VD a g) (kj z)∣g z
 | x::a,h=>by
   by_cases e:x=z
   .subst e;show eX rfl
   .rw[show VD _ g=(kj x,g x)::VD a g from rfl,dB (λq=>e (NX q))];show jv ((Yv.mp h).resolve_left λq=>e q.symm)
def jw:∀{a:ZB},z∉a->bQ (VD a g) (kj z)=hH
 |[],_=>rfl
 | x::a,h=>by
   rw[Yv,Pr]at h;rw[show VD _ g=(kj x,g x)::VD a g from rfl,dB (λq=>h.1 (NX q).symm)];show jw h.2
def FP(h:z∈a):dw (VD a g) (kj z) v=VD a (λx=>if x=z then v else g x):=by
 unfold dw;rw[lp (by rw[jJ,jv h];rfl)];unfold VD;rw[Yq];show Yo λx _=>?_
 change(if(kj x)=kj z then((kj x),v)else(kj x,g x))=(kj x,if x=z then v else g x)
 by_cases e:x=z
 .rw[lp (rM _ e),lp e]
 .rw[ku (λq=>e (NX q)),ku e]
abbrev cnt(ss:ZH)(L:ZB)(n:kG):iv:=ss.countP λt=>decide (t.2[0]?∣n)&&t.2[1]?.all λy=>decide (y∉L)
def HW(ss:gN _)(n:kG):cnt ss [] n= ~~~(ss.filter λt=>decide (t.2[0]?∣n)):=by
 unfold cnt;rw[<-gN.countP_eq_length_filter]
 simp_all
def FQ(h:cnt ss L m=0)(e:Ed (ss\2) m y):y∈L:=by
 let%[z|a]:=e;let%[t,b|c]:=Xo a;let:=gN.countP_eq_zero.mp h t b
 simp_all
def yd(c:m∉L):∀ss:ZH,cnt ss L n=cnt ss (L++[m]) n+(ss.filter λt=>decide (t.2[1]?∣m)).countP λt=>decide (t.2[0]?∣n)
 |[]=>rfl
 | t::ss=>by
   let d:=yd (n:=n) c ss;unfold cnt at d ⊢;rw[QU,QU,d];cases b:t.2[1]? with
   | none=>rw[Y4 (by rw[b];simp)];simp only[lx.all_none];lia
   | some y=>
     by_cases e:y=m
     .subst e;rw[Y6 (by rw[b];simp),QU];by_cases a:t.2[0]?∣n
      .simp[a,c];lia
      .simp[a]
     .rw[Y4 (by rw[b];simpa using e)];by_cases a:t.2[0]?∣n
      .by_cases f:y∈L
       .simp[f]
       .simp[a,f,e];lia
      .simp[a]
structure Mz (ss:ZH) (ns L R:ZB):Prop where
 nd:(L++R).Nodup
 mem:∀x,x∈L++R↔x∈ns/\cnt ss L x=0
 ord:∀(i:iv) x,L[i]?∣x->∀y,Ed (ss\2) x y->y∈L.take i
abbrev MA(f:Hp)(l m b a w e ld:kw)(d:ZB)(ss:ZH)(k:iv)(g:_LL.St)(c:Hp):Prop:=∃(h i j:lx V) (L R:ZB),g=[!l,!m,!b,!a,!w,h,!e,!ld,i,j]/\ai f c/\c w∣.dK (VD d λn=> .int (cnt ss L n))/\c e<*R\3/\c ld<*L\3/\Mz ss d L R/\k= ~~~d-L.length
inductive Bk
 | mk (l m:kw) (ns:ZB) (ss:ZH):vs=[.ref l,.ref m]->H l<*ns\3->ns.Nodup-> ~~~ns<=63->H m∣.lst (ss\0)->dR H ns ss-> ~~~ss<=250->(∀r H' (L:ZB),ai H H'->H' r<*L\3->L.Nodup->(∀x∈L,x∈ns)->(∀(i:iv) x,L[i]?∣x->∀y,Ed (ss\2) x y->y∈L.take i)->(∀x∈ns,x∉L->∃y,Ed (ss\2) x y/\y∈ns/\y∉L)->H r=hH->Q (.ref r) H')->Bk vs H Q E0
def kb(T:Txt K mg):↥3 "laid_in_turn" ↑"names found" Bk:=by
 .exists T.aP,bg,cM,hr,%[l,m,d,ss,rfl,hl,nn,nl,hm,ae,b0|kk];let nm: ~~~(d\3)= ~~~d:=Z6 _;show%[_,%["KCF2H~&A1BCF3H]*A1BC;4tuxCRU0J5ErghA~P~Q2A5AQBBBT45C~Y6utd?1U0Z0?2zM)XT10D0CF7QBC~OM~AghA6BDCF8|]+A6BCY],].6A8BCYni7A8BERU~P~Q3A8AQBBJ9CrG~KXT4S9}DT4S9}EOM)XT4S9}DEYni6AS9}BPEI7",bg.nd,↑(↑"name waits",[(1,4)]),↑["name","waits"]|hr]|?_]
  change aV _ _ _ [!l,!m,hH,hH,hH,hH,hH,hH,hH,hH] H;show am λD1 k1 _=>?_
  lk;show%[m,d,ss,ρ,hm,ae,b0|λb H1 s1 fb hb=>k1 _ _ (am λD2 k2 _=>?_)];lk;show%[m,d,ss,ρ,s1 _ _ hm,ae.up s1,b0|λa H2 s2 fa ha=>k2 _ _ (am λD3 k3 _=>?_)];let N:=s1.trans s2;let hb:=hb.up s2;lk;intro w fw;show k3 _ _ (am λD4 k4 _=>az λa3 hK=>?_);let s3:=ai.Qa (o:= .dK []) fw;let gw:Qa H2 w (.dK []) w∣.dK (VD (d.take 0) λn=> .int (cnt ss [] n)):=aa
  generalize Qa H2 w _=H3 at s3 gw
  let ch:=N.trans s3;lk;show%[%[_|Qb.of (ch _ _ hl)]|hK _ _ ?_];let cl:b≠w:=λc=>by
   let%[ab,h1|_]:=hb;rw[c,fw]at h1;cases h1
  let cm:a≠w:=λc=>by
   let%[ab,h1|_]:=ha;rw[c,fw]at h1;cases h1
  let b1:∀xs,H2 w≠hV (.lst xs):=λxs c=>by rw[fw]at c;cases c
  show bB (λi M u=>A3 (∃o5,M=[!l,!m,!b,!a,!w,o5,hH,hH,hH,hH]) (ai H2 u) (u w∣.dK (VD (d.take i) λn=> .int (cnt ss [] n))))
   %[%[_|rfl],s3|gw] (λi M u h=>h.2 _ _ (N _ _ hl)) ?_ ?_
  .intro i n M u hn %[%[o5|rfl],sm|hw];let i1:i< ~~~d:=(Xl hn).1;change pG _ _ _ _ [!l,!m,!b,!a,!w,-n,hH,hH,hH,hH] u;show aA λD5 k5 _=>?_
   lk;show%[tyD (sm _ _ hb.choose_spec.1),#[0]|λp hp=>?_];let%[ab,al,cn,ag,O|b2]:=hb.get (dM.of sm) cl b1 hp n;let sp:=ai.Qa (o:= .lst []) hp;show%[kj n,ρ,ab,cn,_,by rw[ag];show .inl %[_,Qb.of O|ρ],_,fA.k (k:=kj n) (sp _ _ hw) (by unfold VD;rw[Z6,Yk];show aC ⋯)|k5 _ _ %[%[_|ρ],ai.set (sm.trans sp) fw|?_]];let zn:n∉d.take i:=λhm=>by
    let h:=nn;rw[<-Xa i d,X1]at h;show h.2.2 n hm n (Z8 (i:=0) (by rw[PZ];show hn)) rfl
   rw[aa,dC _ (jw zn),Z6,<-HW,X9,hn];unfold VD;rw[Zd];rfl
  .intro M u %[%[o5|rfl],sm|hw];rw[Zn (Zi _)]at hw;show k4 _ _ (am λD5 k5 _=>aI λa3 hK=>?_);lk;let b3:=sm _ _ (N _ _ hl);show%[%[_|Qb.of b3]|hK _ _ λG ac=>?_];show cg (λj vs M H3=>A4 (∃o1,M=[o1,!w]) (ai u H3) (H3 G<*vs) (vs=((d.take j).filter λn=>decide (cnt ss [] n=0))\3))
    %[%[hH|rfl],ai.Qa ac,aa|rfl] (λ_ _ _ H3 co=>co.2 _ _ b3) ?_ ?_
   .intro j vs M H4 hj %[%[o1|rfl],I,b4|hv];let get:=cc.k (k:=kj d[j]) (I _ _ hw);rw[jv (Yc hj)]at get;lk;show%[_,get,ρ|bv (λh=>?_) λh=>?_]
    .let h:cnt ss [] d[j]=0:=↑h
     show CK.mk hj b4 (by rw[hv,Z6];let:=Yh (λn=>decide (cnt ss [] n=0)) (d.take j);rw[Yk]at this;show aC ⋯) %[%[_|rfl],ai.set I ac,aa|?_];rw[hv,X9,Z4 hj,Y2,Zd];change _=_++(Ou _ [d[j]])\3;rw[Y6 ↑h];rfl
    .let h:cnt ss [] d[j]≠0:=↑h
     show CN.mk hj %[%[_|rfl],I,b4|?_];rw[hv,X9,Z4 hj,Y2,Zd];change _=_++(Ou _ [d[j]])\3;rw[Y4 ↑h];simp
   intro vs M H3 %[_,I,ah|hv];rw[Zn (Zi _)]at hv;rw[hv]at ah;show k5 _ _ (am λD6 k6 _=>?_);let U:=I _ _ hw;let a5:=sm.trans I;let a6:w≠G:=λc=>by rw[<-c,hw]at ac;cases ac
   let ba:=sm.free ac;lk;show%[#[0]|λld fld=>k6 _ _ (am λD7 k7 _=>?_)];let s4:=ai.Qa (o:= .lst []) fld;let bb:Qa H3 ld (.lst []) ld<*([]:ZB)\3:=aa;let b5:w≠ld:=λc=>by rw[<-c,U]at fld;cases fld
   let bc:G≠ld:=λc=>by rw[<-c,ah]at fld;cases fld
   let be:=s4 _ _ U;let bf:=s4 _ _ ah;let bl:=a5.trans s4;let fld:=a5.free fld
   generalize Qa H3 ld _=H4 at s4 bb be bf bl
   show%[MA H2 l m b a w G ld d ss,%[_,o5,hH,hH,[],_,ρ,bl,be,bf,bb,%[nn.filter _,λx=>by simp|λi x e=>by simp at e]|ρ]|?_];clear bl be bf bb ah U hw hv I a5 sm;intro k M H5 %[o5,o8,o9,L,R,rfl,sm,hw,hR,hL,v|rfl];let Rm: ~~~(R\3)= ~~~R:=Z6 _;let c0: ~~~L+ ~~~R<= ~~~d:=by
    rw[<-Z9];show _ST.nodup_sub v.nd λx hx=>((v.mem x).mp hx).1
   lk;show%[~~~R,.inl %[_,Qb.of hR|Rm.symm]|bv (λh=>?_) λh=>?_]
   .let h:0< ~~~R:=by let:=Zo h;lia
    show%[λcp u=>∃m',m'< ~~~d-L.length/\MA H2 l m b a w G ld d ss m' cp u,λ_ _ h=>h,R,Qb.of hR,h|λx hx _=>%[tyL (Qb.of hR),R,hR,hx|λR1 pm=>?_]];let u1:=ai.set (o:= .lst (R1\3)) sm ba;let bm:Qa H5 G (.lst (R1\3)) G=_:=aa;let bn:Qa H5 G (.lst (R1\3)) w=_:=(aq a6).trans hw;let ak:Qa H5 G (.lst (R1\3)) ld=_:=(aq bc.symm).trans hL
    generalize Qa H5 G _=H6 at u1 bm bn ak ⊢
    show%[tyL (Qb.of ak),_,ak,by rw[Z6];show aC ⋯|aA λc1 cs _=>az λa3 hK=>?_];let u2:=ai.set (o:= .lst (L\3++[.str x])) u1 fld;let an:Qa H6 ld (.lst (L\3++[.str x])) ld<*(L++[x])\3:=by rw[aa,Zd];rfl
    let as:Qa H6 ld (.lst (L\3++[.str x])) w=_:=(aq b5).trans bn;let a0:Qa H6 ld (.lst (L\3++[.str x])) G=_:=(aq bc).trans bm
    generalize Qa H6 ld _=H7 at u2 an as a0 ⊢
    lk;show%[tyD (u2 _ _ ha.choose_spec.1),#[0]|λp hp=>?_];let%[ab,al,ag,ct,O|b2]:=ha.get (dM.of u2) cm b1 hp x;let bt:∀{c:kw} {o:HO},H7 c∣o->H2 c=hH->al≠c:=λ{c o} h1 h2=>by
     rcases b2 with rfl|⟨o',ho⟩
     .show λz=>by rw[z,h1]at hp;cases hp
     .show λz=>by rw[z,h2]at ho;cases ho
    let cv:=bt as fw;let cw:=bt a0 ba;let all:=bt an fld;let sp:=ai.Qa (o:= .lst []) hp;let U:=sp _ _ as;let b6:=sp _ _ a0;let b9:=sp _ _ an;let u3:=u2.trans sp
    generalize Qa H7 p _=H8 at ag O U b6 b9 u3 ⊢
    clear u1 u2 as a0 an bn bm ak hp sp
    generalize ca:(ss.filter λt=>decide (t.2[1]?∣x))=ts at O
    let tm: ~~~(ts\0)= ~~~ts:=Z6 _;let xL:x∉L:=λc=>(X1.mp v.nd).2.2 x c x hx rfl
    let pr:(L++[x] ++R1).Perm (L++R):=by
     rw[Ze];show pm.append_left L
    let f0:∀n,cnt ss L n=cnt ss (L++[x]) n+(ts.drop 0).countP λt=>decide (t.2[0]?∣n):=λn=>by rw[UR,<-ca];show yd xL ss
    let cx:∀t∈ts,∃n z,t.2=[n,x,z]/\n∈d/\H t.1&&&[n,x,z]\3:=λt ht=>by
     rw[<-ca]at ht;let%[h1|h2]:=o0.mp ht;let%[h3,n,y,z,e,hn|_]:=ae t h1;let h2:=Zo h2;rw[e]at h2 h3;obtain rfl:y=x:=Za h2;show%[n,z,e,hn|h3]
    show%[kj x,ρ,ab,ag|vV ct %[%[_|Qb.of O]|hK _ _ ?_]];show bB (λj M u=>A6 (∃o9,M=[!l,!m,!b,!a,!w,o5,!G,!ld,-x,o9]) (ai H2 u) (u al∣.lst (ts\0)) (u w∣.dK (VD d λn=> .int ((cnt ss (L++[x]) n+(ts.drop j).countP λt=>decide (t.2[0]? =hV n):iv):on))) (u ld<*(L++[x])\3) (∃Rj:ZB,A3 (u G<*Rj\3) ((L++[x] ++Rj).Nodup) (∀y,y∈L++[x] ++Rj↔y∈d/\cnt ss (L++[x]) y+((ts.drop j).countP λt=>decide (t.2[0]?∣y))=0)))
     %[%[_|rfl],u3,O,by rw[U];show rM (λg=>hV (HO.dK (VD d g))) (funext λn=>by rw[f0 n]),b9,R1,b6,pr.nodup_iff.mpr v.nd|λy=>by rw[<-f0,pr.mem_iff];show v.mem y] (λj M u h=>h.3) ?_ ?_
    .intro j t M u ht %[%[o9|rfl],a1,B,J,Y,Rj,C,rn|rz];let jl:=(Xl ht).1;let%[n,z,et,hn|r]:=cx t (Z8 ht);let r:=a1 _ _ (N _ _ r);let dr:ts.drop j=t::ts.drop (j+1):=by rw[Zy jl,(Xl ht).2]
     rw[dr]at J rz;let get:=cc.k (k:=kj n) J;rw[jv hn]at get;let tw:t.1≠w:=λc=>by rw[c,J]at r;cases r
     let c2:=(X1.mp rn)
     let rl: ~~~Rj<= ~~~d:=by
      let:=_ST.nodup_sub rn λy hy=>((rz y).mp hy).1
      rw[Z9]at this
      lia
     change aV _ _ _ [!l,!m,!b,!a,!w,o5,!G,!ld,-x,hV (.ref t.1)] u;show am λc3 cy _=>?_
     lk;let one:∀y,(t::ts.drop (j+1)).countP (λt=>decide (t.2[0]?∣y))=((ts.drop (j+1)).countP λt=>decide (t.2[0]?∣y)) +if y=n then 1 else 0:=λy=>by
      rw[QU,et];by_cases c:y=n
      .rw[lp c,lp (by rw[c];simp)]
      .rw[ku c,ku (by simpa using λq=>c q.symm)]
     show%[_,SqT.of r,_,ρ,_,get,_,SqT.of r,_,ρ,_,fA.k (k:=kj n) J (by unfold VD;rw[Z6];show aC ⋯)|cy _ _ (aA λc4 cd _=>?_)];rw[FP hn];let e1:(λy=>if y=n then V.int (((cnt ss (L++[x]) n+(t::ts.drop (j+1)).countP λt=>decide (t.2[0]?∣n):iv):on) -1)else V.int ((cnt ss (L++[x]) y+(t::ts.drop (j+1)).countP λt=>decide (t.2[0]?∣y):iv):on))=λy=>V.int ((cnt ss (L++[x]) y+(ts.drop (j+1)).countP λt=>decide (t.2[0]?∣y):iv):on):=funext λy=>by
      rw[one,one];by_cases c:y=n
      .rw[lp c,c,lp rfl]
       congr 1
       lia
      .rw[ku c,ku c];rfl
     rw[e1];let v1:=ai.set (o:= .dK (VD d λy=>V.int ((cnt ss (L++[x]) y+(ts.drop (j+1)).countP λt=>decide (t.2[0]?∣y):iv):on))) a1 fw;let bx:Qa u w (.dK (VD d λy=>V.int ((cnt ss (L++[x]) y+(ts.drop (j+1)).countP λt=>decide (t.2[0]?∣y):iv):on))) w=_:=aa;let a2:∀c o,c≠w->u c∣o->Qa u w (.dK (VD d λy=>V.int ((cnt ss (L++[x]) y+(ts.drop (j+1)).countP λt=>decide (t.2[0]?∣y):iv):on))) c∣o:=λc o h e=>by rw[aq h];show e
     let r:=a2 _ _ tw r;let B:=a2 _ _ cv B;let Y:=a2 _ _ b5.symm Y;let C:=a2 _ _ a6.symm C;let get:=cc.k (k:=kj n) bx;rw[jv hn]at get;let ce:n∉L++[x] ++Rj:=λc=>by
      let:=((rz n).mp c).2;rw[one,lp rfl]at this
      lia
     let a4:∀y,y≠n->(y∈L++[x] ++Rj↔y∈d/\cnt ss (L++[x]) y+((ts.drop (j+1)).countP λt=>decide (t.2[0]?∣y))=0):=λy c=>by
      rw[rz y,one,ku c];rfl
     lk;show%[_,SqT.of r,_,ρ,_,get,ρ|bv (λh=>?_) λh=>?_]
     .let h:cnt ss (L++[x]) n+((ts.drop (j+1)).countP λt=>decide (t.2[0]?∣n))=0:=by
       let:=V.int.inj (Zo h)
       lia
      let tr:t.1≠G:=λc=>by rw[c,C]at r;cases r
      show%[tyL (Qb.of C),_,SqT.of r,_,ρ,_,C,by rw[Z6];show aC ⋯|cd _ _ %[%[_|ρ],ai.set v1 ba,(aq cw).trans B,(aq a6).trans bx,(aq bc.symm).trans Y,Rj++[n],by rw[aa,Zd];rfl,?_|λy=>?_]]
      .rw[<-Ze,X1];show%[rn,by simp|λa ha b hb c=>ce (by rw[<-Xn hb,<-c];show ha)]
      .rw[<-Ze,Ys,Yy];by_cases c:y=n
       .rw[c];show%[λ_=>%[hn|h]|λ_=> .inr rfl]
       .rw[<-a4 y c];show%[λq=>q.resolve_right c|.inl]
     .show cd _ _ %[%[_|rfl],v1,B,bx,Y,Rj,C,rn|λy=>?_];by_cases c:y=n
      .rw[c];show%[λq=>n0 q ce|λq=>n0 (Zf (rM (λi:iv=>V.int i) q.2)) h]
      .show a4 y c
    .intro M u %[%[o9|rfl],a1,B,J,Y,Rj,C,rn|rz];rw[gN.drop_length]at J rz;show cs _ _ %[_,?_,o5,_,o9,L++[x],Rj,rfl,a1,J,C,Y,%[rn,rz|λi y hi y' e=>?_]|rfl]
     .rw[Z9,Yj]
      lia
     .by_cases il:i< ~~~L
      .rw[Y9 il]at hi;rw[Xb (Ye il)];show v.ord i y hi y' e
      .let ie:i= ~~~L:=by
        let:=(Xl hi).1;rw[Z9,Yj]at this
        lia
       subst ie;rw[Ya (Zi _),Q7,TR]at hi;obtain rfl:=Za hi;rw[Xb (Zi _),Xc];show FQ ((v.mem x).mp (Yu _ hx)).2 e
   .show k7 _ _ ?_;lk;let R0:R=[]:=by
     cases R with
     | nil=>rfl
     | cons x R=>show n0 (Zf (by rw[Zr];lia)) h
    subst R0;let mem:=v.mem;let nd:=v.nd;rw[Zx]at mem nd;show kk ld H5 L (N.trans sm) hL nd (λx hx=>((mem x).mp hx).1) v.ord (λx hx nx=>?_) (N.free fld);let:cnt ss L x≠0:=λc=>nx ((mem x).mpr %[hx|c])
    let%[t,ht|q]:=gN.countP_pos_iff.mp (RW this);let%[a,b,z,e,_|hb]:=(ae t ht).2;rw[e]at q;simp only[Zv]at q;let q1:a=x:=Za (Zo q.1);show%[b,%[z|by rw[<-q1,<-e];show Xp %[t,ht|ρ]],hb|Zo q.2]
inductive ye
 | mk (l m ns ss):vs=[.ref l,.ref m]->H l<*ns\3->ns.Nodup-> ~~~ns<=63->H m∣.lst (ss\0)->dR H ns ss-> ~~~ss<=250->(∀r H' (us:ZB),ai H H'->H' r<*us\3->(∀x∈ns,Rch (ss\2) x x->x∈us)->Q (.ref r) H')->ye vs H Q E0
structure rj (H:Hp) (ks:gN ZB) (ss:ZH) (r:kw) (ws:ZH) (x:kG):Prop where
 at_:H r∣.lst (ws\0)
 sub:∀t∈ws,t∈ss
 sho:Sho ks x x (ws\2)
 len: ~~~ws<=300
def rj.up(h:rj H ks ss r ws x)(s:ai H a):rj a ks ss r ws x:=%[s _ _ h.at_,h.sub,h.sho|h.len]
inductive yf
 | mk (l m ns ss):vs=[.ref l,.ref m]->H l<*ns\3->ns.Nodup-> ~~~ns<=63->H m∣.lst (ss\0)->dR H ns ss-> ~~~ss<=250->(∀H',ai H H'->(∀x,¬ Rch (ss\2) x x)->Q .non H')->(∀r H' ws x,ai H H'->H r=hH->rj H' (ss\2) ss r ws x->(∀y n,Dst (ss\2) y (n+1) y-> ~~~ws<=n+1)->Q (.ref r) H')->yf vs H Q E0
def wb(T:Txt K mg):↥4 "never_laid" ↑"names found" ye:=by
 .exists T.aV,sr,C,G,%[l,m,a,ss,rfl,n,I,nl,J,g,i|M];show%[_,%["KEI*~/AG]/~I~oA0B~I~oAH]AA0A1BBB",0|G]|?_];change iY _ _ [!l,!m] H;lk;show%[a,Qb.of n,⋯|λp N=>?_];let b:=ai.Qa (o:=oH w p (a7 a)) N;let y:=own b
  generalize Qa H p _=H1 at b y ⊢
  show%[l,m,a,ss,ρ,b _ _ n,I,nl,b _ _ J,g.up b,i|λr H2 L z O U Y j _ _=>?_];let Ll:=_ST.nodup_sub U Y;show%[L,Qb.of O,⋯|λq fq=>?_];let B:=ai.Qa (o:=oH w q (a7 L)) fq;let fl:=_ST.nodup_sub (dD a) λx d=>aZ.mp d
  show%[_,(B _ _ (z _ _ y)),_,aa,⋯|λu ms fu e mn=>%[ms,aa,?_|λv us fv pu _=>?_]]
  .let:=_ST.nodup_sub mn λx d=>aZ.mp ((e x).mp d).1
   lia
  .show M v _ us (b.trans (z.trans (B.trans ((ai.Qa fu).trans (ai.Qa fv))))) aa λx d rx=>?_
   rw[pu.mem_iff,e];show%[aZ.mpr d|λc=>HM j (aZ.mp c) rx]
def yg{d:ZB}{ss:ZH}(h:∀t∈ss,d6 d t.2){x y:kG}(r:Rch (ss\2) x y):x∈d:=by
 induction r with
 | one e=>
   let%[z|g]:=e;let%[t,i|f]:=Xo g;let%[a,b,c,e,j|_]:=h t i;rw[e]at f;show((Oc f).1)▸j
 | more _ _ l=>show l
def jH(T:Txt K mg):↥5 "shortest_ring" ↑"names found" yf:=by
 .exists T.aU,cb,ag,hr,%[l,m,O,ss,rfl,hl,nn,nl,hm,c,z,kn|ky];show%[_,%["KCF2H~&A1BCF3>CRUH]:A0A1BJ4CF5H];A2A4A4BEOf,M~b5>.fqM]<3>wM~SghA5BghA3BEF35PEI3",cb.nd|hr]|?_]
  change aV _ _ _ [!l,!m,hH,hH,hH,hH] H;show am λD1 k1 _=>?_
  lk;show%[m,O,ss,ρ,hm,c,z|λb H1 U fb hb=>k1 _ _ (am λD2 k2 _=>?_)];lk;show k2 _ _ (am λD3 k3 _=>az λae hK=>?_);lk;show%[l,m,O,ss,ρ,U _ _ hl,nn,nl,U _ _ hm,c.up U,z|λr H2 us s2 G I=>%[%[_|Qb.of G]|hK _ _ ?_]];let g:=U.trans s2;show bB (λi Y o=>(E3 λv o4 o5=>Y=[!l,!m,!b,hV v,o4,o5]/\((v= .non/\∀x∈us.take i,¬ Rch (ss\2) x x)\/∃q ws x,v= .ref q/\H q=hH/\rj o (ss\2) ss q ws x/\∀y∈us.take i,∀n,Dst (ss\2) y (n+1) y-> ~~~ws<=n+1))/\ai H2 o)
   %[%[_,_,_,rfl|.inl %[rfl|λx hx=>(nomatch hx)]]|λ_ _ e=>e] (λi Y o h=>h.2 _ _ G) ?_ ?_
  .intro i n Y o hn %[%[v,o4,o5,rfl|J]|j];let tk:us.take (i+1)=us.take i++[n]:=by rw[X9,hn];rfl
   change aV _ _ _ [!l,!m,!b,hV v,-n,o5] o;show am λD4 k4 _=>?_
   lk;show%[b,n,n,O,ss,ρ,hb.up (s2.trans j),c.up (g.trans j),z,λH3 B nr=>k4 _ _ (aA λD5 k5 _=>?_)|λq H3 ws B L C sub rr rl=>k4 _ _ (aA λD5 k5 _=>?_)]
   .lk;rw[ku ∅];show k5 _ _ %[%[v,_,_,rfl|J.imp (λh=>%[h.1|λx hx=>?_]) λ%[q,ws,x,e,L,C|p]=>%[q,ws,x,e,L,C.up B|λy a m d=>?_]]|j.trans B]
    .rw[tk]at hx;rcases Xm hx with h'|h'
     .show h.2 x h'
     .rw[Xn h'];show nr
    .rw[tk]at a;rcases Xm a with h'|h'
     .show p y h' m d
     .rw[Xn h']at d;show(nr d.rch).elim
   .lk;rw[lp ∅];let wl:∀zs:ZH,~~~(zs\0)= ~~~zs:=λzs=>Z6 _
    let u:=λm d=>by
     let:=rr.min m d;rwa[Z6]at this
    let put:(∀y∈us.take i,∀m,Dst (ss\2) y (m+1) y-> ~~~ws<=m+1)->D5.nx [!l,!m,!b,!q,-n,!q] H3:=λp=>k5 _ _ %[%[_,_,_,rfl|.inr %[q,ws,n,rfl,(g.trans j).free L,%[C,sub,rr|rl]|λy a m d=>by
     rw[tk]at a;rcases Xm a with h'|h'
     .show p y h' m d
     .rw[Xn h']at d;show u m d]]|j.trans B]
    rcases J with⟨rfl,ab⟩|⟨q',M,x',rfl,ac,N,p⟩
    .rw[lp ∅];show put λy a m d=>(ab y a d.rch).elim
    .rw[ku ∅];show%[_,.inl %[_,Qb.of C|(wl ws).symm],_,.inl %[_,Qb.of (B _ _ N.at_)|(wl M).symm]|bv (λlt=>put λy a m d=>?_) λlt=>k5 _ _ %[%[_,_,_,ρ|.inr %[q',M,x',ρ,ac,N.up B|λy a m d=>?_]]|j.trans B]]
     .let:=p y a m d;let:=Zo lt
      lia
     .rw[tk]at a;rcases Xm a with h'|h'
      .show p y h' m d
      .rw[Xn h']at d;let:=u m d
       lia
  .intro Y o %[%[v,o4,o5,rfl|J]|j];rw[Zn (Zi _)]at J;show k3 _ _ ?_;lk;rcases J with⟨rfl,h⟩|⟨q,ws,x,rfl,L,C,p⟩
   .show kn o (g.trans j) λx rx=>h x (I x (yg (λt ht=>(c t ht).2) rx) rx) rx
   .show ky q o ws x (g.trans j) L C λy n d=>p y (I y (yg (λt ht=>(c t ht).2) d.rch) d.rch) n d
abbrev MB(ws:ZH):Prop:=∀p∈ws,~~~p.2<=3/\∀z∈p.2,Sml z
inductive wc (C:kw)
 | mk (a r:kw) (ws:ZH):vs=[.ref a,.ref r]->H r∣.lst (ws\0)->aJ H ws-> ~~~ws<=300->MB ws->H a∣ExO a C hH->(∀l d,H l=hH->H d=hH->d≠l->Q .non (Qa (Qa (Qa H l (.lst (ws\0))) a (ExO a C (hV d))) d (.xd [("ring",.ref l)])))->wc C vs H Q E0
def C_Torn(T:Txt K mg):Ke P w K mg base 1 "Torn" ↑"self ring" (wc (aK mg "Torn")):=by
 show T.x_Torn.cal vZ (by intro a b c d h;let%[_,_,_,rfl|_]:=h;rfl) (λf m A outer s H vs Q E n g h=>?_)
 .let%[a,r,ws,rfl,i,o,p,u,j|q]:=h;show%[_,(QSs.h (aj (bo rfl (Ki (C:=aK mg "Torn") n rfl T.c_DigError T.i_DigError rfl rfl %[_|ρ] #[↑0,Et (pjE cr (pjE (L6 g.gd g.units ↑1) Es))]))
   (ar (LL (C:=aK mg "Torn") T.f_Torn_ring rfl ↑0 (ctO (i8 (K:=K) rfl) T.a5 Rc rfl #[↑1])))))|?_]
  change aV _ _ _ [hV _,hV _] H;lk;let y:(MQ++oT "torn by the ring ").length=17:=!0
  show%[by rw[PySem.sizeLine_eq];lia,r,ws,ρ,i,o,p,u|λz B=>%[z,ρ,by rw[strLen_append,PySem.sizeLine_eq];lia,by rw[strLen_append,PySem.sizeLine_eq];lia,by simp,%[_|j]|?_]];show%[_,.inl (Qb.of i)|λl b=>%[a,ρ,ai.Qa b _ _ j|λd c v=>?_]];let dl:d≠l:=λe=>by rw[e,aa]at c;cases c
  rw[aq dl]at c;show q l d b c dl
def z7{C r:kw}{ws:gN _}{H c:Hp}{v:_LL.St}{D:iU}{t:TA}{E:XK}(m:ai H c)(G:c r∣.lst (ws\0))(I:aJ c ws)(f: ~~~ws<=300)(J:MB ws)(L:∀Q,Q [.ref r] c->t v c Q)
 (k:∀d l g,ai H g->ai c g->H d=hH->H l=hH->d≠l->g d∣.xd [("ring",.ref l)]->g l∣.lst (ws\0)->E (.ref C) (hV d) g):
 vC C (zw C (wc C) t) (λa y=>∃d,y a∣ExO a C (hV d)/\H a=hH/\E (.ref C) (hV d) (drop y a)) D v c:=by
 show L _ %[by simp|λx q=>?_];let A:=ai.Qa (o:=ExO x C hH) q;show%[x,r,ws,ρ,A _ _ G,aE I λb z e=>A _ _ e,f,J,aa|λl d f n h=>?_];let s:l≠x:=λe=>by rw[e,aa]at f;cases f
 let p:d≠x:=λe=>by rw[e,aa]at n;cases n
 let i:=by rw[aq s]at f;show f
 let j:=by rw[aq p]at n;show n
 let at_:∀b,b≠x->b≠l->b≠d->drop (Qa (Qa (Qa (Qa c x (ExO x C hH)) l (.lst (ws\0))) x (ExO x C (hV d))) d (.xd [("ring",.ref l)])) x b=c b:=λb n1 M N=>by
  rw[bW n1,aq N,aq n1,aq M,aq n1]
 let B:ai c (drop _ x):=λb u e=>by
  rw[at_ b (aw e q) (aw e i) (aw e j)];show e
 show%[ρ,x,d,ρ,?_,d,?_,m.free q|k d l _ (m.trans B) B (m.free j) (m.free i) h ?_ ?_]
 .rw[aq p.symm,aa]
 .rw[aq p.symm,aa]
 .rw[bW p,aa]
 .rw[bW s,aq h.symm,aq s,aa]
def jx{S:kG->kG->Prop}(h:cJ S z m)(c:df S z x):cJ S x m:=%[c.symm.trans h.1|λy d=>h.2 y (c.trans d)]
def iy(h:ci H c qs)(a b:kG)(s:bd qs a b):a∈c/\b∈c:=by
 let%[q,d|e]:=s;rcases(h q d).2 with⟨f,x,y,g,_,i,j,_⟩|⟨f,x,y,g,_⟩
 .simp_all
 grind
structure iH (mg:ZC) (H:Hp) (g:kw) (qs:ZO) (ls:ZB) (ts:ZH):Prop where
 gr:∃c2 c3 c4,GrF mg H g c2 c3 c4 qs ls ts
 nd:ls.Nodup
 so:ls.Pairwise (λa b=>aP b a=hY)
 ll: ~~~ls<=63
 tl: ~~~ts<=250
 t3:∀k∈ts\2,d6 ls k
 sm:∀k∈ts\2,∀z∈k,Sml z
 lm:∀z∈ls,Sml z
def iH.up(h:iH mg H g qs a ts)(s:ai H b):iH mg b g qs a ts:=by
 let%[c2,c3,c|d]:=h.gr;show%[%[c2,c3,c|d.up s],h.nd,h.so,h.ll,h.tl,h.t3,h.sm|h.lm]
def iH.ends(h:iH mg H g qs f ts)(i:ck (bd qs) (ts\2) lk)(j:k∈lk):∃a b z,k=[a,b,z]/\(a∈f/\cJ (bd qs) a a)/\b∈f/\cJ (bd qs) b b:=by
 let%[c2,c3,r|l]:=h.gr;let%[a,b,z,m,n,o,c,d|rfl]:=(i.mem k).mp j;let%[x,y,u,e,p|q]:=h.t3 _ o;simp only[NT,VU]at e;let%[rfl,rfl|rfl]:=e;let ws:=iy l.sa;show%[m,n,z,ρ,%[c.1.within ws p|jx c c.1],d.1.within ws q|jx d d.1]
def iH.short(h:iH mg H g qs o ts)(d:ck (bd qs) (ts\2) lk)(f:k∈lk): ~~~k<=3/\∀z∈k,Sml z:=by
 let%[c2,c3,p|i]:=h.gr;let%[a,b,z,q,r,c,j,l|rfl]:=(d.mem k).mp f;let%[x,y,u,e,m|n]:=h.t3 _ c;simp only[NT,VU]at e;let%[rfl,rfl|rfl]:=e;let ws:=iy i.sa;show%[Zi _|KW (h.lm _ (j.1.within ws m)) (h.lm _ (l.1.within ws n)) (h.sm _ c z ∅)]
def iH.names(h:iH mg H g qs d ts)(f:ck (bd qs) (ts\2) lk)(c:rc (bd qs) d i):∀k∈lk,d6 i k:=λk j=>by
 let%[a,b,z,e,l|m]:=h.ends f j;show%[a,b,z,e,(c.mem a).mpr l|(c.mem b).mpr m]
def iH.ties(h:iH mg H g qs c ts)(d:ck (bd qs) (ts\2) lk):∀k∈lk,d6 c k:=λk f=>by
 let%[a,b,z,e,i|j]:=h.ends d f;show%[a,b,z,e,i.1|j.1]
def ro(a:aJ H ss)(h:∀k∈ss\2,d6 b k):dR H b ss:=λt q=>%[(a t q).2|h _ (Xp %[t,q|rfl])]
inductive uO (mg:ZC)
 | mk (g:kw) (qs:ZO) (ls:ZB) (ts:ZH):vs=[.ref g]->iH mg H g qs ls ts->(∀lk,ck (bd qs) (ts\2) lk->∀x,¬ Rch lk x x)->(∀l H' ns (ss:ZH),ai H H'->H' l∣.lst (ss\0)->dR H' ns ss-> ~~~ss<=250->ck (bd qs) (ts\2) (ss\2)->Q (.ref l) H')->uO mg vs H Q E0
def _root_._CU.Sho.same{ks c us:gN _}{a b:kG}(h:Sho ks a b us)(e:∀k,k∈ks↔k∈c):Sho c a b us:=%[λk d=>(e k).mp (h.sub k d),h.wal,h.pos|by rw[<-j8 e];show h.min]
structure we (H:Hp) (lk:gN ZB) (d l:kw) (ws:ZH) (x:kG):Prop where
 ad:H d∣.xd [("ring",.ref l)]
 al:H l∣.lst (ws\0)
 tu:aJ H ws
 sho:Sho lk x x (ws\2)
 min:∀y n,Dst lk y (n+1) y-> ~~~ws<=n+1
 len: ~~~ws<=300
inductive jy (mg:ZC) (vs:ZN) (H:Hp) (Q:VK) (E:XK):Prop
 | mk (g:kw) (qs:ZO) (ls:ZB) (ts:ZH) (lk:gN ZB) (us:ZN):vs=[.ref g]->iH mg H g qs ls ts->ck (bd qs) (ts\2) lk->(∃x,Rch lk x x)->(∀d l H' ws x,ai H H'->H d=hH->H l=hH->d≠l->we H' lk d l ws x->E (.ref (aK mg "Torn")) (hV d) H')->jy mg vs H Q E
def rA(T:Txt K mg):↥6 "untorn_links" ["ground"] (uO mg):=by
 .exists T.aW,cB,B,d,%[g,qs,e,ts,rfl,a,nr|C];let%[c2,c3,j|n]:=a.gr;let N:=a.ll;show%[_,%["KCF1H]BA0BCF2H]CAH~cA0BA1BCOM~b2>E+PEI1",cB.nd|d]|?_]
  change aV _ _ _ [!g,hH,hH] H;show am λO k1 _=>?_
  lk;show%[g,c2,c3,j,qs,e,ts,ρ,n,a.nd,a.so,⋯,a.tl,a.t3|λm U ss o Y p G lk q=>k1 _ _ (am λD2 k2 _=>?_)];lk;show%[g,c2,c3,j,qs,e,ts,ρ,n.up o,a.nd,a.so,⋯|λl H2 u i fl I c=>?_];let v:=ro G (a.names lk c);show%[l,m,u,ss,ρ,I,c.nd,?_,i _ _ p,v.up i,q,λy z _=>k2 _ _ (am λD3 J _=>?_)|λr y ws x z _ L _=>(nr _ lk x L.sho.rch).elim]
  .let:=_ST.nodup_sub c.nd λx M=>((c.mem x).mp M).1
   lia
  .lk;show J _ _ ?_;let b:=i.trans z;show C m y u ss (o.trans b) (b _ _ p) (v.up b) q lk
def gZ(T:Txt K mg):vD P w K mg base 7 "untorn_links" ["ground"] (jy mg):=by
 let%[_,_,b|_]:=T.x_Torn.ini;show T.aW.calX cB (λH vs Q E h=>?_)
 .let%[g,qs,y,ts,lk,us,rfl,a,z,%[x0|o]|kk]:=h;show%[ρ|λf Y A outer s p=>?_];let%[c2,c3,M|N]:=a.gr;let ll:=a.ll;show%[_,%["KCF1H]BA0BCF2H]CAH~cA0BA1BCOM~b2>E]=]>]^A2BPEI1",cB.nd|p]|?_]
  change aV _ _ _ [!g,hH,hH] H;show am λD1 k1 _=>?_
  lk;show%[g,c2,c3,M,qs,y,ts,ρ,N,a.nd,a.so,⋯,a.tl,a.t3|λm H1 ss O fm hm B i sl=>k1 _ _ (am λD2 k2 _=>?_)];let e:=i.mm z;rw[<-j9 e]at o;lk;show%[g,c2,c3,M,qs,y,ts,ρ,N.up O,a.nd,a.so,⋯|λl H2 ns u fl hl v=>?_];let la:=ro B (a.names i v);let C:=O.trans u;show%[l,m,ns,ss,ρ,hl,v.nd,?_,u _ _ hm,la.up u,sl,λU G nr=>(nr _ o).elim|λr U ws x G _ j mn=>k2 _ _ (am λD3 k3 _=>?_)]
  .let:=_ST.nodup_sub v.nd λx I=>((v.mem x).mp I).1
   lia
  .lk;rw[lp ∅];let J:=C.trans G;let inl:∀t∈ws,t.2∈ss\2:=λt c=>Xp %[t,j.sub t c|rfl]
   let n:aJ U ws:=λt c=>%[(B t (j.sub t c)).1|G _ _ (u _ _ (B t (j.sub t c)).2)]
   show z7 J j.at_ n j.len (λt c=>a.short i (inl t c)) (λQ q=>?_) λd l H4 s4 s5 hd L dl I hL=>kk d l H4 ws x s4 hd L dl %[I,hL,λt c=>%[(n t c).1|s5 _ _ (n t c).2],j.sho.same e,by rw[<-j8 e];show mn|j.len]
   lk;show q
inductive rB (K:ZA)
 | mk (a:kw) (ns:ZM):vs=[.ref a]->Qb K H a (ns\4)-> ~~~ns<=1000->(∀(t l1 l2:kw) H' (cs:ZI) (qs:ZO),ai H H'->H' t<*[.ref l1,.ref l2]->H' l1<*bT cs->H' l2∣.lst (qs\0)->oP H' cs qs->Q (.ref t) H')->rB K vs H Q E0
def yh(T:Txt K mg):↥3 "_law_tower" ↑"~script" (rB K):=by
 .exists T.bD,br,c4,hr,%[a,ns,rfl,hs,hn|kk];show%[_,%["KC;1tuH_A0ADADADBCF2QBCF3QBCR&ADB~v4tuC;5tuNQAVAVBT4C~Y6utd?1&ADBZ0?2%H~iA0ANT1T2BCYni2AcAT5A~T~UVA6BBBEY~s~t3Akd?3U6Z0?4%G!G!T1V0BCF7QAcAVAN3DAN3DBBCR~hADA|]DAghA0BADBB~v4tuCF8H_A0AT4ADADBCF9GbG~KDG$DGWN8DDN8DEYni7AcANQAVAVBGWN8DDAN3GWN8DDA9BBEIQA2A7B",br.nd,↑(↑"~rank ~ways ~k",[(1,1),(2,4)]),↑["_law_rank","_law_ways","_law_k"],↑(↑"~sign ~name",[(1,5)]),↑["_law_sign","_law_name"]|hr]|?_]
  change aV _ _ _ [!a,hH,hH,hH,hH,hH,hH,hH,hH,hH] H;show am λD1 k1 _=>?_
  lk;show%[a,ns,1,104,2,ρ,hs,!1,!1,!1,!1,!1,!1|λhd H1 xs s1 _ ae hx hb=>k1 _ _ (am λD2 k2 _=>?_)];let bn: ~~~xs=2:=hx;obtain⟨W,hW,Wb⟩:∃W:iv->on,(∀k:iv,k<2->atI (xs\4) (k:on)∣V.int (W k))/\∀k,0<=W k/\W k<104:=by
   show%[λk=>xs.getD k 0,λk hk=>cj (by simp[bn,hk])|λk=>?_];change 0<=xs.getD k 0/\xs.getD k 0<104;rw[Zc];cases e:xs[k]? with
   | none=>show%[!1|!1]
   | some c=>show hb c (Z8 e)
  lk;show%[Xe _|λC hC=>k2 _ _ (am λD3 k3 _=>?_)];lk;show%[Xe _|λB hB=>k3 _ _ (am λD4 k4 _=>az λU hK=>?_)];let sC:=ai.Qa (o:= .lst []) hC;let sB:=ai.Qa (o:= .lst []) hB;let ba:C≠B:=λe=>by rw[e,aa]at hB;cases hB
  let fC:=s1.free hC;let fB:=(s1.trans sC).free hB;let bb:=sB _ _ (sC _ _ ae);let ag:=sB _ _ (aa (H:=H1) (o:= .lst []));let bc:Qa (Qa H1 C (.lst [])) B (.lst []) B<*[]:=aa;let s2:=(s1.trans sC).trans sB
  generalize Qa (Qa H1 C (.lst [])) B _=H2 at bb ag bc s2
  let be:hd≠C:=λe=>by rw[e,hC]at ae;cases ae
  let bt:hd≠B:=λe=>by rw[<-e,aq be,ae]at hB;cases hB
  lk;show%[!1,!1|hK _ _ (cz (λi y M=>∃(o4 o5 o6:lx V) (cs:ZI),y=[!a,!hd,!C,!B,o4,o5,o6,hH,hH,hH]/\ai H M/\M hd<*xs\4/\M C<*bT cs/\M B<*(eI W i)\3/\bM M cs/\cs\2=(p0 i).map λk=>(nmT k,bO (W k)))
   %[_,_,_,[],ρ,s2,bb,ag,bc,(λ_ h=>nomatch h)|ρ] ?_ ?_)]
  .intro i y M hi %[o4,o5,o6,cs,rfl,sm,an,N,g,O|ce];change aV _ _ _ [!a,!hd,!C,!B,hV (.int (0+i)),o5,o6,hH,hH,hH] M;rw[O9];let i2:i<2:=hi;show am λD5 k5 _=>?_
   lk;show%[#[2]|λp hp=>%[_,Qb.of aa,.str (nmT i),?_|k5 _ _ (am λD6 k6 _=>?_)]]
   .rcases(show i=0\/i=1 by lia -verbose)with rfl|rfl<;> rfl
   let sp:=ai.Qa (o:= .lst [V.str (!"zone"),V.str (!"pit")]) hp
   generalize Qa M p _=H3 at sp
   let bx:=sp _ _ an;lk;show aI λU hK=>?_
   lk;show%[!1,!1|hK _ _ λF hF=>?_];show dS (J:=Itr 0 26) (n:=26) (D:=F) (λq ts y H4=>A4 (∃o,y=[o,!hd,hV (.int i)]) (ai H3 H4) (H4 F<*ts) (ts=((bO (W i)).take q)\3))
    %[%[hH|rfl],ai.Qa hF,aa|rfl] (λq _ _ M d _=>d) (λ_ _ M _=>Zi _) ?_ ?_
   .intro q ts y H4 d %[%[o|rfl],s4,ah|v] x I %[e2|e3];subst e2 e3;lk;show%[_,Qb.of (s4 _ _ bx),_,hW i i2,q,W i,ρ,(by lia -verbose),(by lia -verbose),(Wb i).1,by let:=(Wb i).2;lia -verbose|λH6 s6=>CK.mk d (s6 _ _ ah) (by rw[v,Z6,Yk];show aC (by lia -verbose)) %[%[_|ρ],ai.set (s4.trans s6) hF,aa|?_]];rw[v,X9,Zd,nG d];rfl
   .intro ts y H4 %[_,s4,ah|v];rw[Zn (Ut (iT _))]at v;subst v;show k6 _ _ (am λD7 k7 _=>?_);let Y:=sp.trans s4;let as:=Y _ _ N;let b2:=Y _ _ g;lk;show%[tyL (Qb.of as),bO (W i),Qb.of ah,?_,#[2]|λt v=>?_]
    .let:=(K0 (W i)).sum;let:=(K0 (W i)).high;rw[show(!"\n").length=1 from rfl]
     lia -verbose
    rw[show Txt.join (!"\n") (bO (W i))=vk nl (bO (W i))from OV _ _];let st:=ai.Qa (o:= .tup [V.str (nmT i),V.str (vk nl (bO (W i)))]) v;let gt:=own st;let b3:t≠C:=λe=>by rw[e,as]at v;cases v
    generalize Qa H4 t _=I at st gt
    let cl: ~~~cs=i:=by let:=rM MV ce;rwa[Z6,Z6,Yi]at this
    let b4:=st _ _ as;show%[_,b4,by unfold bT;rw[Z6,cl];show aC (by lia -verbose)|k7 _ _ (aA λD8 k8 _=>?_)];let fF:=(sm.trans sp).free hF;let b5:F≠C:=λe=>by rw[e,sp _ _ N]at hF;cases hF
    let c5:F≠B:=λe=>by rw[e,sp _ _ g]at hF;cases hF
    let bf:Qa I C (.lst (bT cs++[V.ref t])) C<*bT (cs++[(t,nmT i,bO (W i))]):=by rw[aa];unfold bT;rw[Zd];rfl
    let keep:∀b o,b≠C->I b∣o->Qa I C (.lst (bT cs++[V.ref t])) b∣o:=λb o n e=>by rw[aq n];show e
    let s6:ai H (Qa I C (.lst (bT cs++[V.ref t]))):=ai.set ((sm.trans Y).trans st) fC
    generalize Qa I C _=H6 at bf keep s6
    let b6:=keep _ _ be (st _ _ (Y _ _ an));let ab:=keep _ _ (J0 ba) (st _ _ b2);let bl:=keep _ _ b5 (st _ _ ah);let a0:bM H6 (cs++[(t,nmT i,bO (W i))]):=λq d=>by
     rcases Xm d with z|z
     .show%[keep _ _ (λe=>?_) (st _ _ (Y _ _ (O q z).1))|(O q z).2];let:=(O q z).1;rw[e,N]at this;cases this
     .rw[Xn z];show%[keep _ _ b3 gt,xY i|K0 _]
    lk;show%[tyL (Qb.of ab)|aI λU hK=>?_];lk;show%[%[_|Qb.of bl]|hK _ _ λG hG=>?_];show cg (λq ts y H7=>A4 (∃o,y=[o,hV (.str (nmT i))]) (ai H6 H7) (H7 G<*ts) (ts=(((bO (W i)).take q).map (lnS (nmT i)))\3))
     %[%[hH|rfl],ai.Qa hG,aa|rfl] (λ_ _ _ H7 %[_,s7,_|_]=>s7 _ _ bl) ?_ ?_
    .intro q ts y H7 d %[%[o|rfl],s7,a1|v];let%[r|er]:=kx (Yc d);rw[iT]at d;lk;rw[jp];let nl:=iS (xY i);show%[by rw[PySem.sizeLine_eq];change(nmT i).length+1<=_;lia -verbose,by rw[er,PySem.sizeLine_eq,Qm];change(nmT i).length+1+1<=_;lia -verbose|CK.mk (by rwa[iT]) a1 (by rw[v,Z6,Z6,Yk];show aC (by lia -verbose)) %[%[_|ρ],ai.set s7 hG,aa|?_]];rw[v,X9,Zd,Zd,Z4 (by rwa[iT])];rfl
    .intro ts y H7 %[_,s7,a1|v];rw[Zn (Zi _)]at v;let a2:∀{b:kw} {o:HO},b≠B->H6 b∣o->Qa H7 B (.lst ((eI W i)\3++ts)) b∣o:=λ{b o} n e=>by rw[aq n];show s7 _ _ e
     show%[_,s7 _ _ ab,_,a1,?_|k8 _ _ %[_,_,_,cs++[(t,nmT i,bO (W i))],ρ,ai.set (s6.trans s7) fB,a2 bt b6,a2 ba bf,?_,λq d=>%[a2 (λe=>?_) (a0 q d).1|(a0 q d).2]|?_]]
     .rw[v,Z6,Z6,Z6,iT,fZ];show Ye (aC (by lia -verbose))
     .rw[aa,v,<-Zd,gX]
     .let:=(a0 q d).1;rw[e,ab]at this;cases this
     .rw[Zd,ce,PL,Zd];rfl
  .intro y M %[o4,o5,o6,cs,rfl,sm,an,N,g,O|ce];let g:M B<*(eI W 2)\3:=g;let ce:cs\2=(p0 2).map λk=>(nmT k,bO (W k)):=ce
   let cl: ~~~cs=2:=by let:=rM MV ce;rwa[Z6,Z6,Yi]at this
   let a3:∀z∈eI W 2,z∈cs.flatMap lyr:=λz hz=>by
    let%[k,r,hk,hr|rfl]:=CS hz;let:(nmT k,bO (W k))∈cs\2:=by rw[ce];show Xp %[k,zp.mpr hk|rfl]
    let%[p,hp|e]:=Xo this;let l:=jo (p:=p) (by rw[e];show letT hr);rw[e]at l;show M5.mpr %[p,hp|l]
   let b9:∀i:iv,i<52->∃z,atI ((eI W 2)\3) (i:on)∣V.str z/\z∈eI W 2:=λi hi=>by
    let hl:i< ~~~(eI W 2):=by rw[fZ];lia -verbose
    show%[(eI W 2)[i],cj (by simp[hl])|Yc hl]
   show k4 _ _ (am λD9 k9 _=>?_);lk;obtain⟨z0,z1,b0,b1,ne⟩:∃z0 z1:kG,(eI W 2)[25]?∣z0/\(eI W 2)[26]?∣z1/\z0≠z1:=%[_,_,Mv W,Mw W|λe=>n0 (qT e) (!0)]
   show%[_,Qb.of g,.str z0,cj (j:=25) (by rw[Zl,b0];rfl),_,Qb.of g,.str z1,cj (j:=26) (by rw[Zl,b1];rfl),#[3]|λp hp=>%[#[1]|λL hL=>k9 _ _ (am λc6 ca _=>az λU hK=>?_)]];let sp:=ai.Qa (o:= .tup [V.str (!"later"),V.str z0,V.str z1]) hp;let gp:=own sp
   generalize Qa M p _=H3 at sp gp hL
   let bm:=ai.Qa (o:= .lst [V.ref p]) hL _ _ gp;let sL:=sp.trans (ai.Qa (o:= .lst [V.ref p]) hL);let fL:=(sm.trans sp).free hL;let a4:Qa H3 L (.lst [V.ref p]) L=_:=aa
   generalize Qa H3 L _=H2 at bm sL a4
   let cd:C≠L:=λe=>by rw[<-e,sp _ _ N]at hL;cases hL
   let ch:B≠L:=λe=>by rw[<-e,sp _ _ g]at hL;cases hL
   let ag:=sL _ _ N;let cm:=sL _ _ g;let a5:bM H2 cs:=λq d=>%[sL _ _ (O q d).1|(O q d).2]
   let cn:=(sm.trans sL).seq hs;lk;show%[~~~ns,.inl %[_,cn|(Z6 _).symm],!1,!1,by split<;> lia -verbose,by split<;> lia -verbose|?_]
   generalize hm:((if 29<(~~~ns:on)then 29 else(~~~ns:on)) -5).toNat=m
   let da:m<=24:=by split at hm<;> lia -verbose
   show hK _ _ (cz (λi y I=>E4 λ(o4 o8 o9:lx V) (qs:ZO)=>A6 (y=[!a,!hd,!C,!B,o4,o5,o6,!L,o8,o9]) (ai H I) (∀b o,b≠L->H2 b∣o->I b∣o) (I L∣.lst (qs\0)) (~~~qs=i+1) (ci I (cs.flatMap lyr) qs))
    %[_,_,_,[(p,[V.str (!"later"),V.str z0,V.str z1])],rfl,sm.trans sL,(λb o _ e=>e),a4,rfl|λq d=>?_] ?_ ?_)
   .rw[Xn d];show%[bm|.inl %[_,_,_,ρ,.inl rfl,a3 _ (Z8 b0),a3 _ (Z8 b1)|ne]]
   .intro i y I hi %[o4,o8,o9,qs,rfl,s5,k5,ac,ql|sa];change aV _ _ _ [!a,!hd,!C,!B,hV (.int (5+i)),o5,o6,!L,o8,o9] I;show am λdb co _=>?_
    lk;show%[a,ns,5+i,211,3,ρ,s5.seq hs,(by lia -verbose),(by lia -verbose),!1,!1,!1,!1|λdl H6 ys s6 _ ak hy a6=>co _ _ (am λdd cp _=>?_)];let%[c0,g0,l0|u0]:=fj (m:=3) hy a6 0 (!1) (!1);let%[c1,g1,l1|u1]:=fj (m:=3) hy a6 1 (!1) (!1);let%[c2,g2,l2|u2]:=fj (m:=3) hy a6 2 (!1) (!1);lk;show%[_,Qb.of ak,_,g1,!1,.inl %[!1|!1],_,Qb.of ak,_,g2|cp _ _ (aA λdg ct _=>?_)];let cv:=s6 _ _ ac;let ab:=s6 _ _ (k5 _ _ ch cm);obtain⟨n1,cw⟩:∃n:iv,c1%52=n:=%[(c1%52).toNat|(by lia -verbose)]
    let%[zb,gz|iz]:=b9 n1 (by lia -verbose);obtain⟨wd,cx,cy⟩:∃wd:kG,atI [V.str (!"since"),V.str (!"by")] (c0%2)∣V.str wd/\(wd="since"\/wd="by"):=by
     rcases(show c0%2=0\/c0%2=1 by lia -verbose)with e|e<;> rw[e]
     .show%[_,ρ|.inl rfl]
     .show%[_,ρ|.inr rfl]
    lk;show%[tyL (Qb.of cv),#[2]|λu hu=>?_];let su:=ai.Qa (o:= .lst [V.str (!"since"),V.str (!"by")]) hu;let gu:=own su
    generalize Qa H6 u _=H7 at su gu
    show%[_,Qb.of (su _ _ ak),_,g0,!1,_,Qb.of gu,_,cx,_,Qb.of (su _ _ ak),_,g1,!1,_,Qb.of (su _ _ ab),_,cw▸gz,#[3]|λt v=>?_];let st:=su.trans (ai.Qa (o:= .tup [V.str wd,V.str zb,V.int (600-10*(c1%52) +c2)]) v);let gt:Qa H7 t (.tup [V.str wd,V.str zb,V.int (600-10*(c1%52) +c2)]) t=_:=aa
    generalize Qa H7 t _=H8 at st gt
    let al:=s6.trans st;let%[k9,cM|c3]:=pi ac al gt sa (.inr %[_,_,_,rfl,cy,a3 _ iz,(by lia -verbose)|(by lia -verbose)]);show%[_,al _ _ ac,by rw[Z6,ql];show aC (by lia -verbose)|ct _ _ %[_,_,_,_,ρ,ai.set (s5.trans al) fL,λb o n e=>k9 b o n (al _ _ (k5 b o n e)),cM,by rw[Z9,ql];rfl|c3]]
   .intro y I %[o4,o8,o9,qs,rfl,s5,k5,ac,ql|sa];show ca _ _ ?_;lk;show%[#[2]|λz hz=>?_];let sz:=ai.Qa (o:= .lst [V.ref C,V.ref L]) hz;let de:∀q∈cs,∃k,q.2=(nmT k,bO (W k)):=λq d=>by
     let:q.2∈cs\2:=Xp %[q,d|rfl];rw[ce]at this;let%[k,_|e]:=Xo this;show%[k|e.symm]
    show kk z C L _ cs qs (s5.trans sz) aa (sz _ _ (k5 _ _ cd ag)) (sz _ _ ac) %[(by lia -verbose),(by lia -verbose),λq d=>%[sz _ _ (k5 _ _ (λe=>?_) (a5 q d).1)|(a5 q d).2],?_,λq d=>?_,?_,λq d=>%[sz _ _ (sa q d).1|(sa q d).2]|(by lia -verbose)]
    .let:=(a5 q d).1;rw[e,a4]at this;cases this
    .rw[show cs.map (λp=>p.2.1)=(cs\2)\1 by rw[Yq];rfl,ce];change [nmT 0,nmT 1].Nodup;decide +kernel
    .let%[k|e]:=de q d;rw[show q.2.2=bO (W k) by rw[e]];show fewT _
    .match cs,cl,de with
     |[q1,q2],_,de=>
      let%[k1|e1]:=de q1 ∅;let%[k2|e2]:=de q2 ∅;let:=Mx (p:=q1) (w:=W k1) (by rw[e1]);let:=Mx (p:=q2) (w:=W k2) (by rw[e2]);rw[Qi,Qi,gN.flatMap_nil,Zx,Z9]
      lia -verbose
def kU.sub{f g:ZB}{vs:ZN}(h:kU f vs)(m:∀z∈f,z∈g):kU g vs:=by
 rcases h with⟨w,a,b,e,hw,c,d,n⟩|⟨w,a,y,e,hw,c,d⟩
 .show .inl %[w,a,b,e,hw,m a c,m b d|n]
 .show .inr %[w,a,y,e,hw,m a c|d]
def wg:∀{cs:gN _},(∀p∈cs,∃w a hi,iw w a hi/\p.2.2=bL a hi)-> ~~~(cs.flatMap lyr)<=16* ~~~cs
 |[],_=>Zi _
 | q::cs,h=>by
   let j:=wg λp b=>h p (Zk _ b)
   let%[w,a,hi,d|e]:=h q Zm;let:=_ST.nodup_sub (dD ((c7 q.2.2).map sgn)) (m:=(p0 16).map λr:iv=>sgn (ltr r w)) λy f=>by
    let%[c,g|rfl]:=Xo (aZ.mp f);let%[r,i,l|rfl]:=d.lets (e▸fV.mp g);show Xp %[r.toNat,zp.mpr ⋯|by rw[RA i]]
   rw[Z6,Yi]at this;rw[Qi,Z9,Zr,lyr,Z6]
   lia
def z8(T:Txt K mg):↥4 "_law_heap" ↑"~script" (rB K):=by
 .exists T.bE,cZ,bb,hr,%[a,ns,rfl,hs,hn|kk];show%[_,%["KC~dH]EA0B~eLJ1LJ2eCF3*~3A2BCF4GbDGWNH_A0ADADADBDDCF5QBCR&ADBJ6CF7H_A0AGbD6ADADBCYni5AcAVAN3GWN7DghA3BANQAN7DADB~F~GAop64BBBEYni5AcAVAN3GWN7DghA3BANQAGbDN7DAGbDGWN7DDB~F~GAop64BBBEIQA1A5B",cZ.nd|hr]|?_]
  change aV _ _ _ [!a,hH,hH,hH,hH,hH,hH,hH] H;show am λD1 k1 _=>?_
  lk;show%[a,ns,ρ,hs|λt C D H1 cs rs s1 ht _ I hD c1 c3 ca an ok=>%[_,Qb.of ht,ρ,_,_,ρ,_,_,ρ,ρ|k1 _ _ (am λD2 k2 _=>?_)]];lk;show%[_,.inl hD,rs\1,by unfold rkD;rw[Yq,Yq];rfl,by rw[Z6];let:=ok.len;lia -verbose|λN ss hN pm _=>k2 _ _ (am λD3 k3 _=>?_)];let sN:=ai.Qa (o:= .lst (ss\3)) hN;let J:=own sN;let s2:=s1.trans sN;let fN:=s1.free hN
  generalize Qa H1 N _=H2 at sN J s2
  let I:=sN _ _ I;let ca:bM H2 cs:=λp g=>%[sN _ _ (ca p g).1|(ca p g).2]
  let sl: ~~~ss= ~~~rs:=by rw[pm.length_eq,Z6]
  let a5:0< ~~~rs:=NH.mpr (ok.ne (λe=>by rw[e]at c1;cases c1));let B:∀n:on,∃z,atI (ss\3) (n%(~~~ss:on))∣V.str z/\z∈cs.flatMap lyr:=λn=>by
   let%[z,e|m]:=pf (ys:=ss) n (by lia -verbose);let%[q,l|rfl]:=Xo (pm.mem_iff.mp m);show%[_,e|(ok.rk q l).1]
  lk;show%[a,ns,1,26,7,ρ,s2.seq hs,!1,!1,!1,!1,!1,!1|λdl H3 xs s3 _ j hx hb=>?_];let%[c6,g6|_]:=mI xs (i:=6) (!1) (by rw[hx];decide);show%[_,Qb.of j,.int c6,g6,!1|k3 _ _ (am λD4 k4 _=>?_)]
  generalize 25+c6%5=G
  lk;show%[Xe _|λL M=>k4 _ _ (am λD5 k5 _=>az λa6 hK=>?_)];let ab:=s2.trans s3;let sL:=ab.trans (ai.Qa (o:= .lst []) M);let fL:=ab.free M;let s4:=s3.trans (ai.Qa (o:= .lst []) M);let gL:Qa H3 L (.lst []) L<*[]:=aa;let nC:C≠L:=λe=>by rw[<-e,s3 _ _ I]at M;cases M
  let nN:N≠L:=λe=>by rw[<-e,s3 _ _ J]at M;cases M
  let I:=s4 _ _ I;let J:=s4 _ _ J;let ca:bM (Qa H3 L (.lst [])) cs:=λp g=>%[s4 _ _ (ca p g).1|(ca p g).2]
  generalize Qa H3 L _=H4 at sL gL I J ca
  lk;show%[!1,!1|hK _ _ (cz (λi σ U=>E3 λo6 o7 (qs:ZO)=>A6 (σ=[!a,!C,!D,!N,hV (.int G),!L,o6,o7]) (ai H U) (∀b o,b≠L->H4 b∣o->U b∣o) (U L∣.lst (qs\0)) (~~~qs=i+i) (ci U (cs.flatMap lyr) qs))
   %[_,_,[],ρ,sL,(λb o _ e=>e),gL,ρ|λ_ h=>nomatch h] ?_ ?_)]
  .intro i σ U hi %[o6,o7,qs,rfl,sH,Y,c,ql|sa];rw[O9];let bc:i<30:=hi;show am λD6 k6 _=>?_
   lk;show%[a,ns,5+i,211,4,ρ,sH.seq hs,(by lia -verbose),(by lia -verbose),!1,!1,!1,!1|λdl H5 ys s5 ac j hy r=>k6 _ _ (am λD7 k7 _=>?_)];let%[c0,g0,l0|u0]:=fj (m:=4) hy r 0 (!1) (!1);let%[c1,g1,l1|u1]:=fj (m:=4) hy r 1 (!1) (!1);let%[c2,g2,l2|u2]:=fj (m:=4) hy r 2 (!1) (!1);let%[c3,g3,l3|u3]:=fj (m:=4) hy r 3 (!1) (!1);let as:=s5 _ _ c;let ae:=s5 _ _ (Y _ _ nN J);let ag:∀x y:on,∃z,atI [V.int x,V.int y] (if decide ((i:on)=G)=hX then 1 else 0)∣V.int z/\(z=x\/z=y):=λx y=>by
    split
    .show%[y,ρ|.inr rfl]
    .show%[x,ρ|.inl rfl]
   let%[z0,e0|m0]:=B c0;let%[y0,f0|b0]:=ag c1 250;lk;show%[tyL (Qb.of as),_,Qb.of j,.int c0,g0,~~~ss,.inl %[_,Qb.of ae|(Z6 _).symm],(by lia -verbose),_,Qb.of ae,_,e0,_,Qb.of j,.int c1,g1,#[2]|λp g=>%[_,Qb.of aa,_,f0,#[3]|λt ht=>?_]];let sp:=s5.trans ((ai.Qa (o:= .lst [V.int c1,V.int 250]) g).trans (ai.Qa (o:= .tup [V.str (!"since"),V.str z0,V.int y0]) ht));let gt:Qa (Qa H5 p (.lst [V.int c1,V.int 250])) t (.tup [V.str (!"since"),V.str z0,V.int y0]) t=_:=aa;let ah:=(ai.Qa (o:= .lst [V.int c1,V.int 250]) g).trans (ai.Qa (o:= .tup [V.str (!"since"),V.str z0,V.int y0]) ht) _ _ j;let a0:dl≠L:=λe=>by rw[e,c]at ac;cases ac
   generalize Qa (Qa H5 p (.lst [V.int c1,V.int 250])) t _=H6 at sp gt ah
   let a1:=sp _ _ c;show%[_,a1,by rw[Z6,ql];show aC (by lia -verbose)|k7 _ _ (aA λD8 k8 _=>?_)];let s7:ai H (Qa H6 L (.lst ((qs\0) ++[V.ref t]))):=ai.set (sH.trans sp) fL;let%[kp,v|ak]:=pi c sp gt sa (.inr %[_,_,_,rfl,.inl rfl,m0,by rcases b0 with rfl|rfl<;> lia -verbose|by rcases b0 with rfl|rfl<;> lia -verbose])
   generalize Qa H6 L _=H7 at s7 kp v ak
   let O:=kp _ _ a0 ah;let al:=kp _ _ nN (sp _ _ (Y _ _ nN J));let a2:∀b o,b≠L->H4 b∣o->H7 b∣o:=λb o n e=>kp _ _ n (sp _ _ (Y b o n e))
   let%[z2,e2|m2]:=B c2;let%[y2,f2|b2]:=ag (500+c3) (300+c3%150);lk;show%[tyL (Qb.of v),_,Qb.of O,.int c2,g2,~~~ss,.inl %[_,Qb.of al|(Z6 _).symm],(by lia -verbose),_,Qb.of al,_,e2,_,Qb.of O,.int c3,g3,_,Qb.of O,.int c3,g3,!1,#[2]|λp g=>%[_,Qb.of aa,_,f2,#[3]|λu hu=>?_]];let sq:=(ai.Qa (o:= .lst [V.int (500+c3),V.int (300+c3%150)]) g).trans (ai.Qa (o:= .tup [V.str (!"by"),V.str z2,V.int y2]) hu);let gu:Qa (Qa H7 p (.lst [V.int (500+c3),V.int (300+c3%150)])) u (.tup [V.str (!"by"),V.str z2,V.int y2]) u=_:=aa
   generalize Qa (Qa H7 p (.lst [V.int (500+c3),V.int (300+c3%150)])) u _=H8 at sq gu
   let%[k9,a3|a4]:=pi v sq gu ak (.inr %[_,_,_,rfl,.inr rfl,m2,by rcases b2 with rfl|rfl<;> lia -verbose|by rcases b2 with rfl|rfl<;> lia -verbose]);show%[_,sq _ _ v,by rw[Z6,Z9,ql];show aC (by change i+i+1<=5000;lia -verbose)|k8 _ _ %[_,_,_,ρ,ai.set (s7.trans sq) fL,λb o n e=>k9 b o n (sq _ _ (a2 b o n e)),a3,by rw[Z9,Z9,ql];change i+i+1+1=_;lia -verbose|a4]]
  .intro σ U %[o6,o7,qs,rfl,sH,Y,c,ql|sa];show k5 _ _ ?_;lk;show%[#[2]|λp g=>?_];let sp:=ai.Qa (o:= .lst [V.ref C,V.ref L]) g;show kk p C L _ cs qs (sH.trans sp) aa (sp _ _ (Y _ _ nC I)) (sp _ _ c) %[c1,c3,λq l=>%[sp _ _ (Y _ _ (λe=>?_) (ca q l).1)|(ca q l).2],an,λq l=>?_,by let:=wg ok.dr;lia -verbose,λq l=>%[sp _ _ (sa q l).1|(sa q l).2]|(by lia -verbose)]
   .let:=(ca q l).1;rw[e,gL]at this;cases this
   .let%[w,ba,hi,d|e]:=ok.dr q l;rw[e];show d.few
def wj(T:Txt K mg):↥5 "_law_ground" ↑"~script" (uK K):=by
 .exists T.bF,cO,a2,v,%[a,c,rfl,J,hn|kk];show%[_,%["KCOMpGWG:H[A0ADBDDDEIH]_A0BPCOMpGWG:H[A0ADBDDDEIH]|A0BPC~dH]EA0B~eLJ1LJ2eCF3QBCF4opGWG:H[A0ADBDDDCF5opGWG:H[A0ADBDDDCR~hADA|]DAghA0BADBBJ6EYni3AH]}AH_A0A6ADADBA2A4A5BBEIQA1A3B",cO.nd|v]|?_]
  change aV _ _ _ [!a,hH,hH,hH,hH,hH,hH] H;show am λD0 k0 r0=>?_
  lk;show%[a,c,0,ρ,J,!1,%[!1|!1],!1|bv (λ_=>%[a,c,ρ,J,hn|λt l1 l2 j cs qs y M h1 h2 ok=>r0 _ _ (kk t l1 l2 j cs qs y M h1 h2 ok)]) λ_=>k0 _ _ (am λa3 ab ac=>?_)];lk;show%[a,c,0,ρ,J,!1,%[!1|!1],!1|bv (λ_=>%[a,c,ρ,J,hn|λt l1 l2 j cs qs y M h1 h2 ok=>ac _ _ (kk t l1 l2 j cs qs y M h1 h2 ok)]) λ_=>ab _ _ (am λD1 k1 _=>?_)];lk;show%[a,c,ρ,J|λt C D H1 cs rs s1 M _ hC hD c1 c3 ca ae ok=>%[_,Qb.of M,ρ,_,_,ρ,_,_,ρ,ρ|k1 _ _ (am λD2 k2 _=>?_)]];lk;show%[Xe _|λL N=>k2 _ _ (am λD3 k3 _=>?_)];let sL:=s1.trans (ai.Qa (o:= .lst []) N);let B:=sL.seq J;lk;show%[a,c,0,ρ,B,!1,%[!1|!1],!1|k3 _ _ (am λD4 k4 _=>?_)]
  generalize decide (c.getD (on.toNat 0) 0/2%6=1)=l
  lk;show%[a,c,0,ρ,B,!1,%[!1|!1],!1|k4 _ _ ?_]
  generalize decide (c.getD (on.toNat 0) 0/12%2=1)=r
  show am λD5 k5 _=>az λa0 hK=>?_
  lk;let fL:=s1.free N;let ag:C≠L:=λe=>by rw[e,N]at hC;cases hC
  let ah:D≠L:=λe=>by rw[e,N]at hD;cases hD
  let U:=ai.Qa (o:= .lst []) N _ _ hC;let Y:=ai.Qa (o:= .lst []) N _ _ hD;let G:bM (Qa H1 L (.lst [])) cs:=λp hp=>%[ai.Qa (o:= .lst []) N _ _ (ca p hp).1|(ca p hp).2]
  let O:Qa H1 L (.lst []) L<*[]:=aa
  generalize Qa H1 L _=H2 at sL B U Y G O
  show%[~~~c,.inl %[_,B|(Z6 _).symm],!1,!1,by split<;> lia,by split<;> lia|?_]
  generalize hm:((if 41<(~~~c:on)then 41 else(~~~c:on)) -5).toNat=m
  let a4:m<=36:=by split at hm<;> lia
  show hK _ _ (cz (λi σ j=>E2 λ(o6:lx V) (qs:ZO)=>A6 (σ=[!a,!C,!D,!L,hV (.bl l),hV (.bl r),o6]) (ai H j) (∀b o,b≠L->H2 b∣o->j b∣o) (j L∣.lst (qs\0)) (~~~qs=i) (ci j (cs.flatMap lyr) qs))
   %[_,[],rfl,sL,(λb o _ e=>e),O,rfl|λ_ h=>nomatch h] ?_ ?_)
  .intro i σ j hi %[o6,qs,rfl,sH,y,u,ql|sa];change nP _ _ [!a,!C,!D,!L,hV (.bl l),hV (.bl r),hV (.int (5+i))] j;show aA λD6 k6 _=>?_
   lk;show%[tyL (Qb.of u),a,c,5+i,211,6,ρ,sH.seq J,⋯,⋯,!1,!1,!1,!1|λdl H3 xs s3 _ ak hx hb=>%[dl,D,xs,rs,l,r,ρ,ak,hx,hb,s3 _ _ (y _ _ ah Y),ok.nd,ok.ne (λe=>by rw[e]at c1;cases c1),by let:=ok.len;lia,λq g=>(ok.rk q g).2|λt H4 zs s4 M al=>?_]];let I:=s3.trans s4;let%[k9,an|as]:=pi u I M sa (al.sub λz hz=>by
    let%[q,g|rfl]:=Xo hz;show(ok.rk q g).1)
   show%[_,I _ _ u,by rw[Z6,ql];show aC ⋯|k6 _ _ %[_,_,ρ,ai.set (sH.trans I) fL,λb o n e=>k9 b o n (I _ _ (y b o n e)),an,by rw[Z9,ql];rfl|as]]
  .intro σ j %[o6,qs,rfl,sH,y,u,ql|sa];show k5 _ _ ?_;lk;show%[#[2]|λp hp=>?_];let sp:=ai.Qa (o:= .lst [V.ref C,V.ref L]) hp;show kk p C L _ cs qs (sH.trans sp) aa (sp _ _ (y _ _ ag U)) (sp _ _ u) %[c1,c3,λq g=>%[sp _ _ (y _ _ (λe=>?_) (G q g).1)|(G q g).2],ae,λq g=>?_,by let:=wg ok.dr;lia,λq g=>%[sp _ _ (sa q g).1|(sa q g).2]|⋯]
   .let:=(G q g).1;rw[e,O]at this;cases this
   .let%[w,a1,hi,d|e]:=ok.dr q g;rw[e];show d.few
def rC{S:kG->kG->Prop}{P:kG->Prop}{x y:kG}(h:df S x y)(e:P x)(d: ¬ P y):∃a b,(S a b\/S b a)/\P a/\ ¬ P b/\df S x a:=by
 induction h with
 | refl=>show(d e).elim
 | @step y z c s f=>
   by_cases p:P y
   .show%[y,z,s,p,d|c]
   .show f p
structure Rnd (ls:ZB) (ps:gN (kG×kG)) (S:kG->kG->Prop) (f:kG->kG) (r:iv):Prop where
 con:∀z∈ls,df S z (f z)
 dn:∀z∈ls,aP z (f z)=hY
 cnt:∀m∈ls,cJ S m m->(∀z∈ls,df S m z->f z=m)\/r<= ~~~(ps.filter λp=>decide (f p.1=m/\f p.2=m))
def Rnd.nil{a:ZB}{ps:gN (kG×kG)}{S:kG->kG->Prop}:Rnd a ps S id 0:=%[λz _=> .refl z,λz _=>dI z|λm b _=> .inr (Xe _)]
def Bl{c:Type}{p q:c->re}:∀{l:gN c},(∀x∈l,p x=hX->q x=hX)-> ~~~(l.filter p)<= ~~~(l.filter q)
 |[],_=>Zi _
 | x::l,h=>by
   let e:=Bl (l:=l) λy d=>h y (Zk _ d)
   let f:=h x Zm;rw[Y3,Y3];cases a:p x<;> cases b:q x<;> simp_all
   lia
def Bm{d:Type}{p q:d->re}:∀{l:gN d},(∀x∈l,p x=hX->q x=hX)->(∃x∈l,q x=hX/\p x=hY)-> ~~~(l.filter p)< ~~~(l.filter q)
 |[],_,h=>(nomatch h.choose_spec.1)
 | x::l,h,%[y,c,e|f]=>by
   let sub:∀y∈l,p y=hX->q y=hX:=λy c=>h y (Zk _ c)
   let g:=h x Zm;rw[Y3,Y3];rcases Yv.mp c with rfl|c
   .let:=Bl sub;rw[e,f];simp
    lia
   .let i:=Bm sub %[y,c,e|f];cases a:p x<;> cases b:q x<;> simp_all
    lia
structure Mid (ls:ZB) (S T:kG->kG->Prop) (f g:kG->kG):Prop where
 con:∀z∈ls,df S z (g z)
 le:∀z∈ls,aP (f z) (g z)=hY
 don:∀a b,T a b->aP (f a) (g b)=hY/\aP (f b) (g a)=hY
def eR{x y z:kG}(b:aP y x=hY)(a:aP z y=hY):aP z x=hY:=by
 cases h:aP z x
 .rfl
 .by_cases e:y=x
  .rw[e,h]at a;cases a
  .rw[d0 h (fU b e)]at a;cases a
def Mid.step{i:ZB}{S T:kG->kG->Prop}{f g:kG->kG}{a b:kG}(h:Mid i S T f g)(ws:∀x y,S x y->x∈i/\y∈i)(s:S a b)(sub:∀x y,T x y->S x y){v:kG}(l:v=if aP (g b) (g a)=hX then g b else g a):
 Mid i S (λx y=>T x y\/(x=a/\y=b)) f (λx=>if x=b then v else if x=a then v else g x):=by
 let%[m|n]:=ws _ _ s;let v1:aP (g a) v=hY:=by
  rw[l];split
  .cases q:aP (g a) (g b)
   .rfl
   .rename_i c;let:=d0 c q;rw[dI]at this;cases this
  .show dI _
 let o:aP (g b) v=hY:=by
  rw[l];split
  .show dI _
  .rename_i c;simpa using c
 let p:df S a v:=by
  rw[l];split
  .show(df.one (.inl s)).trans (h.con b n)
  .show h.con a m
 let d:∀x∈i,aP (g x) (if x=b then v else if x=a then v else g x)=hY:=λx _=>by
  split
  .rename_i e;rw[e];show o
  .split
   .rename_i e;rw[e];show v1
   .show dI _
 show%[λz j=>?_,λz j=>eR (d z j) (h.le z j)|λx y t=>?_]
 .split
  .rename_i e;rw[e];show(df.one (.inr s)).trans p
  .split
   .rename_i e;rw[e];show p
   .show h.con z j
 .rcases t with t|⟨rfl,rfl⟩
  .let%[r|u]:=ws _ _ (sub _ _ t);show%[eR (d y u) (h.don x y t).1|eR (d x r) (h.don x y t).2]
  .show%[?_|?_]
   .rw[lp rfl];show eR v1 (h.le x m)
   .rw[lp (rfl:x=x),ite_self];show eR o (h.le y n)
def Rnd.step{n:ZB}{ps:gN (kG×kG)}{S:kG->kG->Prop}{f g:kG->kG}{r:iv}(h:Rnd n ps S f r)(o:∀x y,S x y↔(x,y)∈ps)(ws:∀x y,S x y->x∈n/\y∈n)(M:Mid n S S f g):Rnd n ps S g (r+1):=by
 show%[M.con,λz d=>eR (M.le z d) (h.dn z d)|λm u A=>?_];let i:∀{y},df S m y->aP m y=hY->y=m:=λ{y} c l=>by
  by_cases q:y=m
  .show q
  .let:=fU (A.2 _ c) q;rw[l]at this;cases this
 let j:∀z∈n,f z=m->g z=m:=λz d e=>by
  let c:=h.con z d;let l:=M.le z d;rw[e]at c l;show i (c.symm.trans (M.con z d)) l
 rcases h.cnt m u A with q|q
 .show .inl λz d c=>j z d (q z d c)
 .by_cases all:∀z∈n,df S m z->f z=m
  .show .inl λz d c=>j z d (all z d c)
  .obtain⟨z,d,c,ne⟩:∃z,z∈n/\df S m z/\f z≠m:=by
    simp only[QN]at all;let%[z,d,c|ne]:=all;show%[z,d,c|ne]
   let G:f m=m:=i (h.con m u) (h.dn m u);let%[a,b,s,v,B|ca]:=rC (P:=λx=>f x=m) c G ne;let H:b∈n:=s.elim (λs=>(ws _ _ s).2) λs=>(ws _ _ s).1
   let C:g b=m:=i ((ca.trans (.one s)).trans (M.con b H)) (by
    rcases s with s|s
    .let:=(M.don a b s).1;rwa[v]at this
    .let:=(M.don b a s).2;rwa[v]at this)
   let E:g a=m:=j a (s.elim (λs=>(ws _ _ s).1) λs=>(ws _ _ s).2) v;let:=Bm (p:=λp:kG×kG=>decide (f p.1=m/\f p.2=m)) (q:=λp=>decide (g p.1=m/\g p.2=m)) (l:=ps) (λp q h=>by
    let e:=Zo h;let:=ws _ _ ((o p.1 p.2).mpr q);show Zf %[j _ this.1 e.1|j _ this.2 e.2]) (by
    rcases s with s|s
    .show%[(a,b),(o a b).mp s,Zf %[E|C]|Zh λh=>B h.2]
    .show%[(b,a),(o b a).mp s,Zf %[C|E]|Zh λh=>B h.1])
   show .inr ⋯
def FR{a:ZB}{S:kG->kG->Prop}(ws:∀x y,S x y->x∈a/\y∈a):∀(n:iv) {z:kG},xZ a z<=n->z∈a->∃m,cJ S z m:=λn=>by
 induction n with
 | zero=>
   intro z g b;show%[z,.refl z|λy c=>?_];cases q:aP y z
   .rfl
   .let:=qY (c.within ws b) q
    lia
 | succ n h=>
   intro z g b;by_cases all:∀y,df S z y->aP y z=hY
   .show%[z,.refl z|all]
   .simp only[QN]at all;let%[y,c|q]:=all;let e:=c.within ws b;let:=qY e ↑q;let%[m|f]:=h ⋯ e;show%[m,c.trans f.1|λu d=>f.2 u (c.symm.trans d)]
def Rnd.done{i:ZB}{ps:gN (kG×kG)}{S:kG->kG->Prop}{f:kG->kG}(h:Rnd i ps S f ps.length)(n:∀x y,S x y↔(x,y)∈ps)(ws:∀x y,S x y->x∈i/\y∈i){z:kG}(l:z∈i):f z∈i/\cJ S z (f z):=by
 let%[m|g]:=FR ws _ (Zi _) l;let j:=g.1.within ws l;let d:cJ S m m:=%[.refl m|λy c=>g.2 y (g.1.trans c)]
 let e:f z=m:=by
  rcases h.cnt m j d with q|q
  .show q z l g.1.symm
  .let all:=gN.length_filter_eq_length_iff.mp (Wd (Yh _ _) q);let p:f m=m:=(cJ.one %[h.con m j|λy c=>eR (h.dn m j) (d.2 y c)] d)
   show NR λne=>?_
   let%[a,b,s,r,o|_]:=rC (P:=λx=>f x=m) g.1.symm p ne;rcases s with s|s
   .show o (Zo (all _ ((n a b).mp s))).2
   .show o (Zo (all _ ((n b a).mp s))).1
 rw[e];show%[j|g]
def yi{c:iv}(h:c≠10):∀{rows:ZB},c∈(vk nl rows).cps.toList↔∃r∈rows,c∈r.cps.toList
 |[]=>by simp[vk,MQ]
 |[x]=>by simp[vk]
 | x::y::r=>by
   rw[fQ nl x y r,Ys,Ys,(yi h (rows:=y::r))];let:c∉nl.cps.toList:=λq=>h (by simpa using (show c∈[10]from q))
   simp[this]
def HX{z:kG}{g:TG}{j:TS}{D:iU}{a:_LL.St}{H:Hp}(Pv:iv->_LL.St->Hp->Prop)(n:Pv 0 a H)
 (o:∀i c a H,z.cps[i]?∣c->Pv i a H->g (.str (sgn c)) a H λb h=>j {D with nx:=Pv (i+1),ct:=Pv (i+1),bk:=D.nx} b h) (q:∀a H,Pv z.cps.size a H->D.nx a H):
 ∃W:iv->iv->_LL.St->Hp->Prop,(∃m,W 0 m a H)/\∀i m a H,W i m a H->
  ((Its z).stop i H/\D.nx a H)\/((Its z).go i H/\∃N:_LL.St->Hp->Prop,(∀d e,N d e->∃l,l<m/\W (i+1) l d e)/\∀x e,(Its z).yld i H x e->g x a e λb h=>j {D with nx:=N,ct:=N,bk:=D.nx} b h):=by
 show%[λi m a H=>m=z.cps.size-i/\i<=z.cps.size/\Pv i a H,%[z.cps.size,by simp,Xe _|n]|?_];intro i m a H %[rfl,hi|p];by_cases f:i<z.cps.size
 .show .inr %[f,Pv _,λd e r=>%[z.cps.size-(i+1),⋯,rfl,f|r]|λx e y=>?_];let%[rfl,c,s|rfl]:=y;show o i c a _ s p
 .obtain rfl:i=z.cps.size:=by lia
  show .inl %[Zi _|q a H p]
def Bn{p:kw×kG×ZB}{z:kG}:z∈lyr p↔∃c,Let p.2.2 c/\z=lnS p.2.1 (sgn c):=by
 constructor
 .intro h;let%[y,b|rfl]:=Xo h;let%[c,a|rfl]:=Xo (aZ.mp b);show%[c,fV.mp a|ρ]
 .rintro⟨c,a,rfl⟩;show jo a
def wk{H:Hp}:∀{cs:gN _},bM H cs-> ~~~(cs.flatMap lyr)<=26* ~~~cs
 |[],_=>Zi _
 | q::cs,h=>by
   let b:=wk λp a=>h p (Zk _ a)
   let: ~~~(lyr q)<=26:=by
    unfold lyr;rw[Z6];show kY (ki (h q Zm).2.2.sign)
   rw[Qi,Z9,Zr]
   lia
abbrev sK(q:kw×ZN):re:=decide (q.2[0]?∣.str (!"same"))
abbrev prT(q:kw×ZN):kG×kG:=match q.2 with|[_,.str a,.str b]=>(a,b)|_=>(MQ,MQ)
def Bo{c:ZB}{q:kw×ZN}(h:kU c q.2)(e:sK q=hX):∃a b,q.2=[.str (!"same"),.str a,.str b]/\a∈c/\b∈c/\prT q=(a,b):=by
 let e:=Zo e;rcases h with⟨w,a,b,h,_,d,f,_⟩|⟨w,a,y,h,hw,_⟩
 .rw[h]at e;obtain rfl:w=oT _:=V.str.inj (Za e);show%[a,b,h,d,f|by unfold prT;rw[h]]
 .rw[h]at e;let:=V.str.inj (Za e);rw[this]at hw;show n0 hw (!1)
def HY{H:Hp}{f:ZB}{qs:gN _}(h:ci H f qs)(a b:kG):bd qs a b↔(a,b)∈(qs.filter sK).map prT:=by
 constructor
 .rintro⟨q,c,e⟩;show Xp %[q,o0.mpr %[c|by unfold sK;show e▸Zf rfl]|by unfold prT;rw[e]]
 .intro m;let%[q,c|e]:=Xo m;let%[d|g]:=o0.mp c;let%[x,y,i,_,_|j]:=Bo (h q d).2 g;rw[j]at e;cases e;show%[q,d|i]
inductive yj
 | mk (l m:kw) (cs:ZI) (qs:ZO):vs=[.ref l,.ref m]->H l<*bT cs->H m∣.lst (qs\0)->bM H cs->ci H (cs.flatMap lyr) qs-> ~~~cs<=3-> ~~~qs<=60->(∀d H' ms f,ai H H'->H d=hH->H' d∣.dK (NmD ms f)->ms.Nodup->(∀z,z∈ms↔z∈cs.flatMap lyr)->(∀z∈ms,f z∈ms/\cJ (bd qs) z (f z))->Q (.ref d) H')->yj vs H Q E0
def yk(T:Txt K mg):↥1 "_law_homes" ↑"~cuts_here ~sayings" yj:=by
 .exists T.bI,bu,bx,hr,%[l,m,cs,qs,rfl,hl,hm,ca,sa,c3,bb|kk];let qm: ~~~(qs\0)= ~~~qs:=Z6 _;let as: ~~~(bT cs)= ~~~cs:=Z6 _;show%[_,%["KCF2xCRU0lLJ3LJ4eER][4J5EOM]F5VErG!G!3V52G!G!3V5PC~Y6utd?1U1Z0?2zM~VS0DV0CR&AghA6BBJ7ERU6lLJ8LJ9LJ:eCF;|~5AX29AX2s:BCrs;29Ers;2s:EI2",bu.nd,↑(↑"~saying",[]),↑["_law_saying"]|hr]|?_]
  change aV _ _ _ [!l,!m,hH,hH,hH,hH,hH,hH,hH,hH,hH,hH] H;show am λD1 k1 _=>?_
  lk;intro d fd;show k1 _ _ (am λD2 k2 _=>az λO hK=>?_);let s1:=ai.Qa (o:= .dK []) fd;lk;show%[%[_|Qb.of (s1 _ _ hl)]|hK _ _ (eW (λi B L=>E4 λo3 o4 o5 n=>A5 (B=[!l,!m,!d,o3,o4,o5,hH,hH,hH,hH,hH,hH]) (ai H L) (L d∣.dK (NmD n id)) n.Nodup (∀z,z∈n↔z∈(cs.take i).flatMap lyr))
   %[_,_,_,[],ρ,s1,aa,X3|λz=>OF] (λi B L _ %[_,_,_,_,_,q,_,_|_]=>Qb.of (q _ _ hl)) ?_ ?_)]
  .intro i x B H1 hx %[o3,o4,o5,n,rfl,U,hd,nd|mem];let hi:i< ~~~cs:=by rw[<-as];show(Xl hx).1
   obtain⟨q,hq,rfl⟩:∃q,cs[i]?∣q/\x=V.ref q.1:=by
    unfold bT at hx;rw[Zl,Z4 hi]at hx;show%[cs[i],Z4 hi|(Za hx).symm]
   let a0:=Z8 hq;let%[a1,bc|be]:=ca q a0;let tk:cs.take (i+1)=cs.take i++[q]:=by rw[X9,hq];rfl
   let tx:∀c,c≠10->c≠46->(c∈(vk nl q.2.2).cps.toList↔Let q.2.2 c):=λc J N=>by
    rw[yi J];show%[λh=>%[N|h]|λh=>h.2]
   let b0:=iS bc
   generalize vk nl q.2.2=tt at tx a1
   show%[_,SqT.of (U _ _ a1),ρ,_,_,ρ,_,_,ρ,ρ|?_];show aA λD3 k3 _=>az λO hK=>?_
   lk;show hK _ _ (HX (λj B L=>E2 λo5 n=>A5 (B=[!l,!m,!d,hV (.str q.2.1),-tt,o5,hH,hH,hH,hH,hH,hH]) (ai H L) (L d∣.dK (NmD n id)) n.Nodup (∀z,z∈n↔z∈(cs.take i).flatMap lyr\/∃c∈tt.cps.toList.take j,c≠10/\c≠46/\z=lnS q.2.1 (sgn c)))
    %[_,n,rfl,U,hd,nd|λz=>by rw[mem];simp] ?_ ?_)
   .intro j c B H2 hc %[o5,n,rfl,U,hd,nd|mem];let C:tt.cps.toList[j]?∣c:=↑hc
    let ka:tt.cps.toList.take (j+1)=tt.cps.toList.take j++[c]:=by rw[X9,C];rfl
    change lJ _ _ _ _ [!l,!m,!d,hV (.str q.2.1),-tt,hV (.str (sgn c)),hH,hH,hH,hH,hH,hH] H2;show aA λD4 k4 _=>?_
    lk;let bf: ~~~n<=100:=by
     let:=_ST.nodup_sub nd (m:=cs.flatMap lyr) λz hz=>by
      rcases(mem z).mp hz with h|⟨c,hc,J,N,rfl⟩
      .let%[p,hp|e]:=M5.mp h;show M5.mpr %[p,Yx hp|e]
      .show M5.mpr %[q,a0|Bn.mpr %[c,(tx c J N).mp (Yx hc)|rfl]]
     let:=wk ca
     lia
    rw[show(!!(KE (!".\n") (sgn c) 0 (!".\n").length 1).isEmpty)=!decide (c∈(!".\n").cps.toList)from rM not (vf _ _),jp];let a2:c∈(!".\n").cps.toList↔c=46\/c=10:=by
     rw[show(!".\n").cps.toList=[46,10]from rfl];simp
    let ag: ~~~q.2.1+(!".").length<=lX:=by rw[PySem.sizeLine_eq];change ~~~q.2.1+1<=_;lia
    let ah:(q.2.1++oT ".").length+ ~~~(sgn c)<=lX:=by rw[PySem.sizeLine_eq,Qm];change ~~~q.2.1+1+1<=_;lia
    show .inl (bv (λh=>?_) λh=>?_)
    .let h: ¬ (c=46\/c=10):=λe=>by rw[Zf (a2.mpr e)]at h;cases h
     let a3:∀z,(z∈(cs.take i).flatMap lyr\/∃c∈tt.cps.toList.take (j+1),c≠10/\c≠46/\z=lnS q.2.1 (sgn c))↔z∈n\/z=lnS q.2.1 (sgn c):=λz=>by
      rw[mem,ka]
      constructor
      .rintro(h|⟨c',C,J,N,e⟩)
       .show .inl (.inl h)
       .rcases Xm C with u|u
        .show .inl (.inr %[c',u,J,N|e])
        .rw[Xn u]at e;show .inr e
      .rintro((h|⟨c',C,J,N,e⟩)|e)
       .show .inl h
       .show .inr %[c',Yt _ C,J,N|e]
       .show .inr %[c,Yu _ Zm,λe=>h (.inr e),λe=>h (.inl e)|e]
     show%[ag,ah,ag,ah,_,fA.k (k:=kj (lnS q.2.1 (sgn c))) hd (by unfold NmD;rw[Z6];show aC ⋯)|?_];by_cases ac:lnS q.2.1 (sgn c)∈n
     .show k4 _ _ %[_,n,rfl,ai.set U fd,?_,nd|λz=>by rw[a3];show%[.inl|λh=>h.elim id λe=>e▸ac]];rw[aa,qX ac];show rM (λf=>hV (HO.dK (NmD n f))) (funext λx=>by by_cases e:x=lnS q.2.1 (sgn c)<;> simp[e])
     .show k4 _ _ %[_,n++[lnS q.2.1 (sgn c)],rfl,ai.set U fd,by rw[aa,FI ac],?_|λz=>by rw[a3,Ys,Yy]];rw[X1];show%[nd,by simp|λa ha b hb e=>ac (by rw[<-Xn hb,<-e];show ha)]
    .show k4 _ _ %[_,n,rfl,U,hd,nd|λz=>?_];let h:c=46\/c=10:=by
      rw[<-a2];simpa using h
     rw[mem,ka];show Ra OF %[λ%[c',C|r]=>%[c',Yt _ C|r]|λ%[c',C,J,N|e]=>?_];rcases Xm C with u|u
     .show%[c',u,J,N|e]
     .rw[Xn u]at J N;show(h.elim N J).elim
   .intro B H2 %[o5,n,rfl,U,hd,nd|mem];show k3 _ _ %[_,_,_,n,rfl,U,hd,nd|λz=>?_];rw[mem,tk,Px,Ys];show Ra OF ?_;rw[show gN.flatMap lyr [q]=lyr q by simp,Bn];let e:tt.cps.toList.take tt.cps.size=tt.cps.toList:=Zn ∅;rw[e]
    constructor
    .rintro⟨c,hc,J,N,e⟩;show%[c,(tx c J N).mp hc|e]
    .rintro⟨c,hc,e⟩;let a4:c≠10:=by
      let%[_,r,hr|bl]:=hc;show Ee (N7.mp (be.sign r hr) c bl)
     show%[c,(tx c a4 hc.1).mpr hc,a4,hc.1|e]
  .intro B H1 %[o3,o4,o5,n,rfl,U,hd,nd|mem];rw[as,Xc]at mem;show k2 _ _ (am λD3 k3 _=>?_);lk;show aI λO hK=>?_
   lk;let a5:=U _ _ hm;show%[%[_|Qb.of a5]|hK _ _ λF hF=>?_];show cg (λj vs B H7=>(∃o1,B=[o1])/\ai H1 H7/\H7 F<*vs/\vs=((qs.take j).filter sK)\0)
    %[%[hH|rfl],ai.Qa hF,aa|rfl] (λ_ _ _ H7 %[_,U|_]=>U _ _ a5) ?_ ?_
   .intro j vs B H8 hj %[%[o1|rfl],s7,a6|hv];let%[ht|so]:=sa _ (Yc hj);let st:=SqT.of (K:=K) (s7 _ _ (U _ _ ht));let fe:∀b:re,sK qs[j]=b->((qs.take (j+1)).filter sK)\0=vs++if b=hX then [V.ref qs[j].1]else []:=λb hb=>by
     rw[hv,X9,Z4 hj,Y2,Zd]
     congr 1
     change R9 _ (Ou sK [qs[j]])=_;rw[Y3,hb];cases b<;> rfl
    let vl: ~~~vs<lX:=by rw[hv,Z6];show aC (nI (Yh _ _) (by rw[Yk];lia))
    obtain⟨w,r,ew⟩:∃w r,qs[j].2=V.str w::r:=by
     rcases so with⟨w,a,b,e,_⟩|⟨w,a,y,e,_⟩
     .show%[_,_|e]
     .show%[_,_|e]
    rw[ew]at st;let is:sK qs[j]=decide (w=!"same"):=by
     unfold sK;rw[ew];simp
    lk;show%[_,st,.str w,(show atI (V.str w::r) ((0:iv):on)∣.str w from cj rfl)|bv (λc=>CK.mk hj a6 vl %[%[_|ρ],ai.set s7 hF,aa|?_]) λc=>CN.mk hj %[%[_|ρ],s7,a6|?_]]
    .rw[fe hX (by rw[is];simpa using c)];rfl
    .rw[fe hY (by rw[is];simpa using c)];simp
   intro vs B H3 %[_,s3,ae|rfl];rw[Zn (Zi _)]at ae
   generalize ak:qs.filter sK=us at ae
   let pI:=HY sa;rw[ak]at pI;let ul: ~~~us<=60:=by rw[<-ak];show nI (Yh _ _) bb
   let tu:∀q∈us,H q.1&&&q.2/\∃a b,q.2=[.str (!"same"),.str a,.str b]/\a∈n/\b∈n/\prT q=(a,b):=λq hq=>by
    rw[<-ak]at hq;let%[J|N]:=o0.mp hq;let%[a,b,e,ha,hb|h]:=Bo (sa q J).2 N;show%[(sa q J).1,a,b,e,(mem a).mpr ha,(mem b).mpr hb|h]
   let ws:∀a b,bd qs a b->a∈n/\b∈n:=λa b h=>by
    let:=iy sa a b h;show%[(mem a).mpr this.1|(mem b).mpr this.2]
   let bf: ~~~n<=100:=by
    let:=_ST.nodup_sub nd (m:=cs.flatMap lyr) λz hz=>(mem z).mp hz
    let:=wk ca
    lia
   let um: ~~~(us\0)= ~~~us:=Z6 _;show k3 _ _ (am λD4 k4 _=>az λO hK=>?_);lk;let bm:=U.trans s3;show%[~~~us,.inl %[_,Qb.of ae|um.symm],⋯,⋯|hK _ _ (cz (λi B L=>E6 λo7 o8 o9 G I f=>A5 (B=[!l,!m,!d,o3,o4,o5,!F,o7,o8,o9,G,I]) (ai H L) (L F∣.lst (us\0)) (L d∣.dK (NmD n f)) (Rnd n (us.map prT) (bd qs) f i))
    %[_,_,_,_,_,id,ρ,bm,ae,s3 _ _ hd|.nil] ?_ ?_)]
   .intro i B H5 hi %[o7,o8,o9,G,I,f,rfl,s5,al,an|R];change ww _ _ _ _ [!l,!m,!d,o3,o4,o5,!F,hV (.int (0+i)),o8,o9,G,I] H5;show aA λD6 k6 _=>az λO hK=>?_
    lk;show%[%[_|Qb.of al]|hK _ _ (bB (λj B L=>E6 λo7 o8 o9 G I g=>A5 (B=[!l,!m,!d,o3,o4,o5,!F,o7,o8,o9,G,I]) (ai H L) (L F∣.lst (us\0)) (L d∣.dK (NmD n g)) (Mid n (bd qs) (λa b=>(a,b)∈(us.take j).map prT) f g))
     %[_,_,_,_,_,f,ρ,s5,al,an,R.con,λz _=>dI _|λa b h=>(nomatch h)] (λj B L %[_,_,_,_,_,_,_,_,q,_|_]=>q) ?_ ?_)]
    .intro j q B H6 hq %[o7,o8,o9,G,I,g,rfl,s6,Y,ab|M];let ba:=Z8 hq;let%[q1,a,b,e,ha,hb|pe]:=tu q ba;let st:=SqT.of (K:=K) (s6 _ _ q1);rw[e]at st;let get:∀y∈n,cc H6 d (.str y) (hV (.str (g y))):=λy hy=>by
      let:=cc.k (k:=kj y) ab;rw[jq hy]at this;show this
     let bn:bd qs a b:=(pI a b).mpr (Xp %[q,ba|pe]);show%[_,st,ρ,_,_,ρ,_,_,ρ,_,_,ρ,ρ|?_];show am λD7 k7 _=>?_
     lk;show%[_,get a ha,_,get b hb|k7 _ _ (am λD8 k8 _=>?_)]
     generalize hv:(if aP (g b) (g a)=hX then g b else g a)=v
     let hn:∀g,~~~(NmD n g)<lX:=λg=>by unfold NmD;rw[Z6];show aC ⋯
     let P1:=fA.k (k:=kj a) (v:= .str v) ab (hn g);rw[qX ha]at P1;let bt:F≠d:=λc=>by rw[c,ab]at Y;cases Y
     lk;show%[_,P1|k8 _ _ (aA λD9 k9 _=>?_)];let P2:=fA.k (k:=kj b) (v:= .str v) (H:=Qa H6 d (.dK (NmD n λx=>if x=a then v else g x))) aa (hn _);rw[qX hb,F9]at P2;lk;show%[_,P2|k9 _ _ %[_,_,_,_,_,_,ρ,ai.set s6 fd,(aq bt).trans Y,aa|?_]];let M2:=M.step ws bn (λx y h=>(pI x y).mpr ((VX prT (Vy j us)) h)) hv.symm;show%[M2.con,M2.le|λx y t=>M2.don x y ?_];let t:(x,y)∈(us.take (j+1)).map prT:=t;rw[X9,hq,Zd]at t;rcases Xm t with z|z
     .show .inl z
     .let z:(x,y)=prT q:=↑z
      rw[pe]at z;cases z;show .inr %[rfl|rfl]
    .intro B H6 %[o7,o8,o9,G,I,g,rfl,s6,Y,ab|M];rw[Zn (Zi _)]at M;show k6 _ _ %[_,_,_,_,_,g,rfl,s6,Y,ab|R.step pI ws %[M.con,M.le|λa b s=>M.don a b ((pI a b).mp s)]]
   .intro B H5 %[o7,o8,o9,G,I,f,rfl,s5,al,an|R];show k4 _ _ ?_;lk;let R:Rnd n (us.map prT) (bd qs) f (us.map prT).length:=by rw[Z6];simpa using R
    show kk d H5 n f s5 fd an nd mem λz hz=>R.done pI ws hz
def MC{rows:ZB}{i n:iv}(h:i<=n){k:ZB}(a:k∈bY rows i):k∈bY rows n:=by
 unfold bY at a ⊢;let%[j,b|e]:=M5.mp a;show M5.mpr %[j,zp.mpr (Zg (zp.mp b) h)|e]
def HZ{p:iv×iv}{k:ZB}(h:ix p∣k):[p].filterMap ix=[k]:=by rw[Y1,h];rfl
def Ia{p:iv×iv}(h:ix p=hH):[p].filterMap ix=[]:=by rw[Y1,h];rfl
inductive yp
 | mk (n:kG) (rows:ZB):vs=[.str n,.str (vk nl rows)]->cX rows-> ~~~n<=8->(∀r H' (ts:ZH),ai H H'->H r=hH->H' r∣.lst (ts\0)->aJ H' ts->ts\2=(bY rows (~~~rows-1)).map (mQ n)-> ~~~ts<=1600->Q (.ref r) H')->yp vs H Q E0
def Ib(c e:iv):inV (V.str ⟨([c].toArray)⟩) [V.str (!"."),V.str ⟨([e].toArray)⟩]=decide (c=46\/c=e):=by
 let d:((⟨([c].toArray)⟩:kG)=!".")↔c=46:=%[λh=>by let:[c]=[46]:=rM (λz:kG=>z.cps.toList) h;show(Oc this).1|λh=>by rw[h];rfl]
 let f:((⟨([c].toArray)⟩:kG)=⟨([e].toArray)⟩)↔c=e:=%[λh=>by let:=rM (λz:kG=>z.cps.toList) h;simpa using this|λh=>by rw[h]]
 change(oT "."==(⟨([c].toArray)⟩:kG)||((⟨([e].toArray)⟩:kG)==(⟨([c].toArray)⟩:kG)||hY))=_;by_cases a:c=46
 .subst a;rw[show(oT "."==(⟨([46].toArray)⟩:kG))=hX by decide +kernel];simp
 .rw[show(oT "."==(⟨([c].toArray)⟩:kG))=hY from MR.mpr λh=>a (d.mp h.symm)];by_cases b:c=e
  .subst b;simp
  .rw[show((⟨([e].toArray)⟩:kG)==⟨([c].toArray)⟩)=hY from MR.mpr λh=>b (f.mp h.symm)];simp[a,b]
def rD(T:Txt K mg):↥1 "_law_cut_ties" ↑"~name ~text" yp:=by
 .exists T.bG,cD,b3,hr,%[n,rows,rfl,a,b4|kk];let%[wd,w1,w2|a1]:=a.wide;let bn:=a.text;let a2:=a.split;let b5:=a.high;let bt:=a.pos
  generalize vk nl rows=z at bn a2
  show%[_,%["KCF2~:~;1AVBCF3QBCR~>A2A~p2~qD~rBlLJ4LJ5eER&AghA4BBJ6EOM]F~B46cAVA~B56BEYni3AcAG!G!0V~B46AG!G!0V~B56A0BBPEI3"|cD.nd]|?_]
  change aV _ _ _ [-n,-z,hH,hH,hH,hH,hH] H;show am λD1 k1 _=>?_
  lk;show%[!1,nI (by lia: ~~~z+2<=5000) (!1)|λR hR=>k1 _ _ ?_];rw[show(!"\n")=nl from rfl,a2];let sR:=ai.Qa (o:= .lst (rows\3)) hR;let gR:=own sR
  generalize Qa H R _=H1 at sR gR
  show am λD2 k2 _=>?_
  lk;show%[Xe _|λL hL=>k2 _ _ (am λD3 k3 _=>az λa3 hK=>?_)];let sL:=sR.trans (ai.Qa (o:= .lst []) hL);let gL:Qa H1 L (.lst []) L<*[]:=aa;let M:=ai.Qa (o:= .lst []) hL _ _ gR;let fL:=sR.free hL
  generalize Qa H1 L _=g at sL gL M
  lk;show%[_,Qb.of M|λp hp=>?_];rw[uG rows (NH.mp bt)];let s3:=ai.Qa (o:= .lst ((rows.drop 1)\3)) hp;let N:=s3 _ _ M;let a4:=s3 _ _ gL;let O:Qa g p (.lst ((rows.drop 1)\3)) p<*(rows.drop 1)\3:=aa;let a5:=sL.trans s3;let bx:R≠L:=λe=>by rw[e,hL]at gR;cases gR
  let b0:p≠L:=λe=>by rw[e,gL]at hp;cases hp
  generalize Qa g p _=H3 at s3 N a4 O a5
  show%[%[_|Qb.of N],%[_|Qb.of O]|hK _ _ (xM (xs:=rows\3) (ys:=(rows.drop 1)\3) (λi G l=>A5 (E3 λo4 o5 I=>G=[-n,-z,!R,!L,o4,o5,I]) (ai H l) (l R<*rows\3) (l p<*(rows.drop 1)\3) (∃ps:ZH,A4 (l L∣.lst (ps\0)) (aJ l ps) (ps\2=(bY rows i).map (mQ n)) (~~~ps<=40*i))) %[%[_,_,_|ρ],a5,N,O,[],a4,gU _,ρ|Xe _] (by rw[Z6,Z6,Yg];lia) (λi G l _ h=>%[Qb.of h.3|Qb.of h.4]) ?_ ?_)]
  .intro i x y TT G l hx hy %[%[o4,o5,I|rfl],sm,a6,ba,ps,U,Y,B|m] hT;rw[Zl]at hx hy;let%[u,hu|rfl]:=MS.mp hx;let%[r,C|rfl]:=MS.mp hy;rw[PZ,Uv]at C;let b6:i+1< ~~~rows:=(Xl C).1;let ul:u.cps.size=wd:=a1 u (Z8 hu);let rl:r.cps.size=wd:=a1 r (Z8 C);let d:=ai.Qa (o:= .tup [V.str u,V.str r]) hT;let bb:Qa l TT (.tup [V.str u,V.str r]) TT&&&[V.str u,V.str r]:=aa;let bc:=d _ _ a6;let be:=d _ _ ba;let bf:=d _ _ U;let J:aJ (Qa l TT (.tup [V.str u,V.str r])) ps:=aE Y λb z e=>d _ _ e
   let bl:=sm.trans d
   generalize Qa l TT _=HT at d bb bc be bf J bl
   let g1:rows.getD i ⟨([].toArray)⟩=u:=by rw[Zc,hu];rfl
   let g2:rows.getD (i+1) ⟨([].toArray)⟩=r:=by rw[Zc,C];rfl
   let b1:bY rows (i+1)=bY rows i++(NS u.cps.toList r.cps.toList).filterMap ix:=by rw[mM,g1,g2];rfl
   show%[_,SqT.of bb,ρ,_,_,ρ,_,_,ρ,ρ|?_];change ww _ _ _ _ [-n,-z,!R,!L,-u,-r,I] HT;show aA λD4 k4 _=>az λa3 hK=>?_
   lk;let us: ~~~u=wd:=ul;show%[by rw[us];show Ye (aC ⋯),⋯,⋯|?_];rw[us,Pa];show hK _ _ (cz (λj G g=>∃I,A5 (G=[-n,-z,!R,!L,-u,-r,I]) (ai H g) (g R<*rows\3) (g p<*(rows.drop 1)\3) (∃ps:ZH,A4 (g L∣.lst (ps\0)) (aJ g ps) (ps\2=(bY rows i++((NS u.cps.toList r.cps.toList).take j).filterMap ix).map (mQ n)) (~~~ps<=40*i+j)))
    %[_,rfl,bl,bc,be,ps,bf,J,by rw[B];simp|m] ?_ ?_)
   .intro j G g hj %[I,rfl,ab,ag,ah,qs,ak,tq,qe|ql];change lJ _ _ _ _ [-n,-z,!R,!L,-u,-r,hV (.int (0+j))] g;rw[O9];obtain⟨c,hc⟩:∃c,u.cps[j]?∣c:=%[u.cps[j]|by simp[show j<u.cps.size by lia]]
    obtain⟨e,he⟩:∃e,r.cps[j]?∣e:=%[r.cps[j]|by simp[show j<r.cps.size by lia]]
    let nx:=qJ u r j c e hc he;let ac:atI u.cps.toList (j:on)∣c:=cj ↑hc;let ae:atI r.cps.toList (j:on)∣e:=cj ↑he;show aA λD5 k5 _=>?_
    lk;let l1: ~~~n+(!".").length<=lX:=cV (by change ~~~n+1<=_;lia);let l2:∀c:iv,(n++oT ".").length+ ~~~(⟨([c].toArray)⟩:kG)<=lX:=λc=>cV (by
     let e:(n++oT ".").length= ~~~n+(!".").length:=RM;let e1: ~~~(⟨([c].toArray)⟩:kG)=1:=rfl;let e2:(!".").length=1:=rfl
     lia)
    let lu: ~~~u<=lX:=by rw[us];show Ye (aC ⋯)
    let lr: ~~~r<=lX:=by rw[show ~~~r=wd from rl];show Ye (aC ⋯)
    show%[lu,c,ac,lr,e,ae,#[2]|λt ht=> .inr %[_,.inr (SqT.of aa),ρ,ρ|?_]];let st:=ai.Qa (o:= .tup [V.str (!"."),V.str ⟨([e].toArray)⟩]) ht;let al:=aE tq λb z e=>st _ _ e
    let v:=st _ _ ak;let an:=ab.trans st;let as:=st _ _ ag;let a0:=st _ _ ah
    generalize Qa g t _=H4 at st al v an as a0
    let stay:ix (c,e)=hH->(bY rows i++((NS u.cps.toList r.cps.toList).take (j+1)).filterMap ix).map (mQ n)=qs\2:=λe=>by rw[qe,<-nx,Y0,Ia e,Zx]
    rw[show inV (V.str ⟨([c].toArray)⟩) [V.str (!"."),V.str ⟨([e].toArray)⟩]=decide (c=46\/c=e)from Ib c e];show bv (λh=>?_) λh=>?_
    .let h: ¬ (c=46\/c=e):=↑h
     show%[tyL (Qb.of v),l1,lu,c,ac,l2 c,l1,lr,e,ae,l2 e,#[3]|λq hq=>?_];rw[jp,jp];let sq:=ai.Qa (o:= .tup [V.str (lnS n ⟨([c].toArray)⟩),V.str (lnS n ⟨([e].toArray)⟩),V.str n]) hq;let bm:=sq _ _ v;let b2:q≠L:=λe=>by rw[e,v]at hq;cases hq
     show%[_,bm,by rw[Z6];show aC ⋯|k5 _ _ %[_,ρ,ai.set (an.trans sq) fL,(aq bx).trans (sq _ _ as),(aq b0).trans (sq _ _ a0),qs++[(q,[lnS n ⟨([c].toArray)⟩,lnS n ⟨([e].toArray)⟩,n])],by rw[aa,Zd];rfl,fY (aE (aE al λb z e=>sq _ _ e) (ph bm)) ∅ ((aq b2).trans aa),?_|by rw[Z9];show X8 ql]];rw[<-nx,Y0,HZ (lp %[λe=>h (.inl e)|λe=>h (.inr e)]),<-Ze,Zd,Zd,qe];rfl
    .show k5 _ _ %[_,rfl,an,as,a0,qs,v,al,(stay (ku λq=>?_)).symm|⋯];rw[Zh (λe=>e.elim q.1 q.2)]at h;show h rfl
   .intro G g %[I,rfl,ab,ag,ah,qs,ak,tq,qe|ql];rw[Zn (by rw[Ud];simp;lia),<-b1]at qe;show k4 _ _ %[%[_,_,_|rfl],ab,ag,ah,qs,ak,tq,qe|⋯]
  .intro G l %[%[o4,o5,I|rfl],sm,a6,ba,ps,U,Y,B|m];rw[Z6,Yg]at B m;show k3 _ _ ?_;lk;show kk L l ps sm fL U Y B ⋯
inductive yq
 | mk (l m:kw) (cs:ZI) (qs:ZO) (ls:ZB):vs=[.ref l,.ref m]->H l<*bT cs->H m∣.lst (qs\0)->bM H cs->ci H ls qs-> ~~~cs<=3-> ~~~qs<=60->(∀r H' (ts:ZH),ai H H'->H' r∣.lst (ts\0)->aJ H' ts->ts\2=cR cs++cS qs qs.length->Q (.ref r) H')->yq vs H Q E0
def z9(T:Txt K mg):↥2 "_law_ties" ↑"~cuts_here ~sayings" yq:=by
 .exists T.bH,dG,a1,hr,%[l,m,cs,qs,ls,rfl,hl,hm,ca,sa,c3,a2|kk];let O: ~~~(bT cs)= ~~~cs:=Z6 _;show%[_,(QSs.h (aj (aG 2 dG.nd rfl (bD ao))
   (aj (bS Qo rfl rfl (cu (K:=K) rfl ↑0) (fE (K:=K) rfl rfl rfl (gsE rfl (aH 3 dG.nd rfl) (gsE rfl (aH 4 dG.nd rfl) cP)))
   (ar (aG 2 dG.nd rfl (opE ID ↑2 (aL (rD T) hr rfl #[↑3,↑4])))))
   (aj (bS Qo rfl rfl (tQ (K:=K) rfl rfl T.ae rfl #[↑1]) (fE (K:=K) rfl rfl rfl (gsE rfl (aH 5 dG.nd rfl) (gsE rfl (aH 6 dG.nd rfl) cP)))
   (ar (ifS (bj jN rfl (↑6>>ax) cr)
    (ar (bo rfl (bmO (K:=K) OS PySem.F.slot_list_append PySem.F.type_list_append aT rfl ↑2 #[(d7 #[(↑6>>ax),(↑6>>ax),opE eD cr (ctO ⟨uW⟩ T.ab VR rfl #[↑5])])])))
    aR)))
   (ar (aM ↑2))))))|?_]
  change aV _ _ _ [!l,!m,hH,hH,hH,hH,hH] H;show am λD1 k1 _=>?_
  lk;show%[Xe _|λL hL=>k1 _ _ (am λD2 k2 _=>az λU hK=>?_)];let sL:=ai.Qa (o:= .lst []) hL;lk;show%[%[_|Qb.of (sL _ _ hl)]|hK _ _ (eW (λi u c=>E4 λL Y o4 ts=>A7 (u=[!l,!m,!L,Y,o4,hH,hH]) (ai H c) (H L=hH) (c L∣.lst (ts.map λt:kw×ZB=>V.ref t.1)) (aJ c ts) (ts\2=cR (cs.take i)) (~~~ts<=1600*i))
   %[L,_,_,[],ρ,sL,hL,aa,gU _,ρ|Xe _] (λi u c _ %[_,_,_,_,_,q,_,_,_,_|_]=>Qb.of (q _ _ hl)) ?_ ?_)]
  .intro i x u H1 B %[L,Y,o4,ts,rfl,n,fL,C,G,g|tl];let hi:i< ~~~cs:=by rw[<-O];show(Xl B).1
   obtain⟨q,hq,rfl⟩:∃q,cs[i]?∣q/\x=V.ref q.1:=by
    unfold bT at B;rw[Zl,Z4 hi]at B;show%[cs[i],Z4 hi|(Za B).symm]
   let%[ak,al|an]:=ca q (Z8 hq);show%[_,SqT.of (n _ _ ak),ρ,_,_,ρ,_,_,ρ,ρ|?_];change uT _ _ _ [!l,!m,!L,hV (.str q.2.1),hV (.str (vk nl q.2.2)),hH,hH] H1;show aA λD3 k3 _=>?_
   lk;show%[_,_,ρ,an,iS al|λr H2 us s2 fr hr tu ue ul=>%[_,s2 _ _ C,_,hr,by rw[Z6,Z6];show Ye (aC ⋯)|λp I=>k3 _ _ %[p,_,_,ts++us,ρ,(n.trans s2).trans (ai.Qa I),(n.trans s2).free I,by rw[aa,Zd],aE (qM (aE G λb z e=>s2 _ _ e) tu) (λb z e=>ai.Qa I _ _ e),by rw[Zd,g,ue,mR hq]|by rw[Z9];lia]]]
  .intro u H1 %[L,Y,o4,ts,rfl,n,fL,C,G,g|tl];rw[O,Xc]at g;show k2 _ _ (am λD3 k3 _=>az λU hK=>?_);lk;let ab: ~~~(qs\0)= ~~~qs:=Z6 _;show%[_,Qb.of (n _ _ hm)|hK _ _ (jP (λi u c=>E2 λo5 o6=>A3 (u=[!l,!m,!L,Y,o4,o5,o6]) (ai H c) (∃ts:ZH,A4 (c L∣.lst (ts\0)) (aJ c ts) (ts\2=cR cs++cS qs i) (~~~ts<=4800+i)))
    %[_,_,ρ,n,ts,C,G,by rw[g,show cS qs 0=[]from rfl,Zx]|⋯] (λi u c _ %[_,_,_,q|_]=>Qb.of (q _ _ hm)) ?_ ?_)]
   .intro i x TT u c B %[o5,o6,rfl,n,ts,J,G,g|tl] hT;let hi:i< ~~~qs:=by rw[<-ab];show(Xl B).1
    obtain⟨q,hq,rfl⟩:∃q,qs[i]?∣q/\x=V.ref q.1:=by
     rw[Zl,Z4 hi]at B;show%[qs[i],Z4 hi|(Za B).symm]
    let s0:=ai.Qa (o:= .tup [.int i,.ref q.1]) hT;let j:ai H (Qa c TT (.tup [.int i,.ref q.1])):=n.trans s0;let ac:Qa c TT (.tup [.int i,.ref q.1]) TT&&&[.int i,.ref q.1]:=aa;let d:=s0 _ _ J;let v:=aE G λb z e=>s0 _ _ e
    generalize Qa c TT _=HT at j ac d v
    let ae:=sa q (Z8 hq);let st:=SqT.of (K:=K) (j _ _ ae.1);let M:=fO hq;show%[_,SqT.of ac,ρ,_,_,ρ,_,_,ρ,ρ|?_];change lJ _ _ _ _ [!l,!m,!L,Y,o4,hV (.int i),hV (.ref q.1)] HT;show aA λD4 k4 _=>?_
    lk;rcases ae.2 with⟨wd,a,b,e,hw,ma,mb,_⟩|⟨wd,a,y,e,hw,_⟩
    .rw[e]at st M;show%[_,st,_,ρ,ρ|bv (λN=>?_) λN=>?_]
     .rw[show iF i [V.str wd,V.str a,V.str b]∣[a,b,v6 i]from lp (V.str.inj (Zo N))]at M;let a0: ~~~(oT (toString (i:on)))<=21:=by
       let e:=PySem.int_text_length_le10 (a:=(i:on)) (k:=20) (!1) (by let:(i:on).natAbs=i:=rfl;lia);rw[PySem.ofString_length];lia
      let e1:(!"#").length=1:=!0
      let ag:(i:on).natAbs.log2<1920:=RY (iv.log2_le_self _) (by let:(i:on).natAbs=i:=rfl;lia);show%[tyL (Qb.of d),_,st,_,ρ,_,st,_,ρ,ag,cV ⋯,#[3]|λp I=>?_];rw[show oT "#"++oT (toString (i:on))=v6 i from by unfold v6;rw[uJ]];let sp:=ai.Qa (o:= .tup [V.str a,V.str b,V.str (v6 i)]) I;let ah:=sp _ _ d;let as:p≠L:=λe=>by rw[e,d]at I;cases I
      show%[_,ah,by rw[Z6];show aC ⋯|k4 _ _ %[_,_,ρ,ai.set (j.trans sp) fL,ts++[(p,[a,b,v6 i])],by rw[aa,Zd];rfl,fY (aE (aE v λb z e=>sp _ _ e) (ph ah)) ∅ ((aq as).trans aa),?_|by rw[Z9];show X8 tl]];rw[M,Zd,g,<-Ze];rfl
     .rw[show iF i [V.str wd,V.str a,V.str b]=hH from ku λz=>N (Zf (by rw[z]))]at M;show k4 _ _ %[_,_,rfl,j,ts,d,v,?_|⋯];rw[M,g,lx.toList_none,Zx]
    .rw[e]at st M;show%[_,st,_,ρ,ρ|?_];rw[ku (by rcases hw with rfl|rfl<;> decide)];show k4 _ _ %[_,_,rfl,j,ts,d,v,?_|⋯];rw[M,g];change _=_++(_++[]);rw[Zx]
   .intro u c %[o5,o6,rfl,n,ts,J,G,g|tl];rw[ab]at g;show k3 _ _ ?_;lk;show kk L c ts n J G g
abbrev kB(a:gN (gN Key×V))(m:ZB->Prop):Prop:=∃ks:gN ZB,a\1=ks.map (λk=>k.map kj)/\ks.Nodup/\∀k,k∈ks↔m k
def FS{c:gN (gN Key×V)}{m j:ZB->Prop}(h:kB c m)(k:ZB)(v:V)(f:∀z,j z↔m z\/z=k):kB (dw c (k.map kj) v) j:=by
 let%[ks,g,l|i]:=h;let n:(k.map (kj:kG->Key))∈c\1↔k∈ks:=by
  rw[g,Yw]
  constructor
  .rintro⟨z,p,e⟩;rw[<-vL _ _ e];show p
  .intro d;show%[k,d|ρ]
 by_cases d:k∈ks
 .show%[ks,by rw[ni,lp (n.mpr d)];show g,l|λz=>?_];rw[i,f]
  constructor
  .show .inl
  .rintro(e|e)
   .show e
   .rw[e];show(i k).mp d
 .show%[ks++[k],by rw[ni,ku (λq=>d (n.mp q)),g,Zd];rfl,?_|λz=>?_]
  .rw[X1];show%[l,by simp|λa o b r e=>by rw[Xn r]at e;rw[e]at o;show d o]
  .rw[Ys,i,Yy,f]
def Le{a:gN (gN Key×V)}{m b:ZB->Prop}(h:kB a m)(e:∀k,m k↔b k):kB a b:=by
 let%[ks,c,d|f]:=h;show%[ks,c,d|λk=>(f k).trans (e k)]
def Ic{a:gN (gN Key×V)}{m:ZB->Prop}{B:gN ZB}(h:kB a m)(s:∀k,m k->k∈B): ~~~a<= ~~~B:=by
 let%[ks,b,c|d]:=h;let:=_ST.nodup_sub c (m:=B) λk e=>s k ((d k).mp e)
 let l:=rM MV b;rw[Z6,Z6]at l
 lia
def Ie{rows:ZB}(h:sk rows)(e:cX rows):∃m:gN ZB,~~~m<=60/\∀k,k∈m↔k∈bY rows (~~~rows-1):=by
 let%[m,c|d]:=h;show%[m.filter λk=>decide (k∈bY rows (~~~rows-1)),nI (Yh _ _) c|λk=>?_];rw[o0,N0];show%[λh=>h.2|λh=>%[?_|h]];let%[a,b,rfl|mt]:=nD h;show d a b mt
def yv{H:Hp}:∀{cs:ZI},bM H cs->(∀p∈cs,sk p.2.2)->∃ks:gN ZB,~~~ks<=60* ~~~cs/\∀k,k∈ks↔k∈cR cs
 |[],_,_=>%[[],Zi _|λk=>OF]
 | q::cs,h,f=>by
   let%[ks,d|b]:=yv (cs:=cs) (λp a=>h p (Zk _ a)) λp a=>f p (Zk _ a)
   let%[m,e|c]:=Ie (f q Zm) (h q Zm).2.2;show%[m.map (mQ q.2.1) ++ks,by rw[Z9,Z6,Zr];lia|λk=>?_];unfold cR at b ⊢;rw[Qi,Ys,Ys,b,Yw,Yw];show Ra (Vc λz=>Um λ_=>c z) OF
def Bp{H:Hp}{cs:ZI}{qs:ZO}(ca:bM H cs)(i:ci H (cs.flatMap lyr) qs){n:iv}{k:ZB}(h:k∈cR cs\/k∈cS qs n):d6 (cs.flatMap lyr) k:=by
 rcases h with h|h
 .let%[p,c|h]:=M5.mp h;let%[z,l|rfl]:=Xo h;let%[a,b,rfl|mt]:=nD l;let%[m|o]:=uF (ca p c).2.2 mt;show%[_,_,_,ρ,M5.mpr %[p,c|jo m]|M5.mpr %[p,c|jo o]]
 .let%[j,u|e]:=Np.mp h;cases d:qs[j]? with
  | none=>rw[d]at e;cases e
  | some q=>
    rw[d]at e;rcases(i q (Z8 d)).2 with⟨g,a,b,f,hw,r,s,_⟩|⟨g,a,y,f,hw,_⟩
    .let e:iF j q.2∣k:=e;rw[f]at e;let e:(if g=oT "later" then hV [a,b,v6 j]else hH)∣k:=e
     split at e
     .cases e;show%[_,_,_,ρ,r|s]
     .cases e
    .let e:iF j q.2∣k:=e;rw[f]at e;cases e
inductive uP
 | mk (l m d:kw) (cs:ZI) (qs:ZO) (ms:ZB) (g:kG->kG) (ks0:gN ZB):vs=[.ref l,.ref m,.ref d]->H l<*bT cs->H m∣.lst (qs\0)->bM H cs->ci H (cs.flatMap lyr) qs-> ~~~cs<=3-> ~~~qs<=60->H d∣.dK (NmD ms g)->(∀z,z∈ms↔z∈cs.flatMap lyr)->(∀z∈ms,g z∈ms/\cJ (bd qs) z (g z))-> ~~~ks0<=250->(∀k,k∈ks0↔k∈cR cs\/k∈cS qs qs.length)->(∀r H' (ss:ZH),ai H H'->H r=hH->H' r∣.lst (ss\0)->aJ H' ss->ck (bd qs) ks0 (ss\2)->(∀k∈ss\2,d6 ms k)-> ~~~ss<=250->Q (.ref r) H')->uP vs H Q E0
def yw(T:Txt K mg):↥3 "_law_links" ↑"~cuts_here ~sayings ~homes_here" uP:=by
 .exists T.bJ,eE,a2,hr,%[l,m,d,cs,qs,ms,g,c,rfl,hl,hm,ca,sa,c3,ah,hd,mem,lg,a0,N|kk];show%[_,%["KCF3]0CRUH]1A0A1BlLJ4LJ5LJ6eErj3cAX24AX25A6BEI*]2A3B",eE.nd|hr]|?_]
  change aV _ _ _ [!l,!m,!d,hH,hH,hH,hH] H;show am λD1 k1 _=>?_
  lk;intro L hL;let O:=ai.Qa (o:= .dT []) hL;show k1 _ _ (am λD2 k2 _=>az λa1 hK=>?_);lk;show%[l,m,cs,qs,_,ρ,O _ _ hl,O _ _ hm,(λp hp=>%[O _ _ (ca p hp).1|(ca p hp).2]),(λq hq=>%[O _ _ (sa q hq).1|(sa q hq).2]),c3,ah|λr H1 ts s1 B tt te=>%[%[_|Qb.of B]|hK _ _ ?_]];let ak:=O.trans s1;let G:=s1 _ _ (show Qa H L (.dT []) L∣.dT [] from aa);let I:∀k,k∈ts\2↔k∈c:=λk=>by rw[te,Ys,N]
  let tok:∀k∈c,d6 ms k:=λk j=>by
   let%[a,b,z,e,U|Y]:=Bp ca sa ((N k).mp j);show%[a,b,z,e,(mem a).mpr U|(mem b).mpr Y]
  let al:r≠L:=λe=>by rw[e,G]at B;cases B
  let ab:∀n k,k∈((ts.take n)\2).map (ju g)->k∈c.map (ju g):=λn k j=>by
   let%[t,M|e]:=Xo j;show Xp %[t,(I t).mp ((VX _ (Vy n ts)) M)|e]
  let tm: ~~~(ts\0)= ~~~ts:=Z6 _;show bB (λi σ H'=>∃o4 o5 o6,σ=[!l,!m,!d,!L,o4,o5,o6]/\ai H H'/\(∀b o,b≠L->H1 b∣o->H' b∣o)/\∃u,H' L∣.dT u/\kB u λk=>k∈((ts.take i)\2).map (ju g))
   %[_,_,_,rfl,ak,(λb o _ e=>e),[],G,[],rfl,X3|λk=>OF] (λi σ H' %[_,_,_,_,_,q|_]=>q _ _ al B) ?_ ?_
  .intro i t σ H2 M %[o4,o5,o6,rfl,s2,sx,u,J|v];let ac:=Z8 M;let%[a,b,z,et,U|Y]:=tok _ ((I t.2).mp (Xp %[t,ac|rfl]));let C:=(tt t ac).2;rw[et]at C;let st:=SqT.of (K:=K) (sx _ _ (λe=>by rw[e,G]at C;cases C) C);let an:=s2 _ _ hd;let get:∀y∈ms,cc H2 d (.str y) (hV (.str (g y))):=λy hy=>by
    let:=cc.k (k:=kj y) an;rw[jq hy]at this;show this
   show%[_,st,ρ,_,_,ρ,_,_,ρ,_,_,ρ,ρ|?_];change pG _ _ _ _ [!l,!m,!d,!L,-a,-b,-z] H2;show aA λD3 k3 _=>?_
   lk;show%[_,get a U,_,get b Y,#[3]|λp hp=>?_];let sp:=ai.Qa (o:= .tup [V.str (g a),V.str (g b),V.str z]) hp;let as:=Ic v (ab i);rw[Z6]at as;show%[_,fA.t (k:=(ju g [a,b,z]).map kj) (sp _ _ J) (by rw[aa];rfl) (by rw[PySem.sizeLine_eq];lia)|k3 _ _ %[_,_,_,ρ,λb o e=>by rw[aq (aw e hL)];show sp _ _ (s2 _ _ e),(λb o n e=>by rw[aq n];show sp _ _ (sx b o n e)),_,aa|FS v _ _ λk=>?_]];rw[X9,M,Zd,Zd,Ys,<-et];show Ra OF Yy
  .intro σ H2 %[o4,o5,o6,rfl,s2,sx,u,J|v];rw[Xc]at v;show k2 _ _ ?_;lk;let%[ks,q1,q2|q3]:=v;let q3:∀k,k∈ks↔k∈c.map (ju g):=λk=>by
    show(q3 k).trans ?_;dsimp only;rw[Yw,Yw];show Vc λt=>Um λ_=>I t
   let lk:=qZ tok (λz hz=>(lg z hz).2);let few: ~~~ks<=250:=by
    let:=_ST.nodup_sub q2 (m:=c.map (ju g)) λk j=>(q3 k).mp j
    rw[Z6]at this
    lia
   let ae:∀k∈ks,d6 ms k:=λk j=>by
    let%[t,M|rfl]:=Xo ((q3 k).mp j);let%[a,b,z,rfl,U|Y]:=tok t M;show%[_,_,_,ρ,(lg a U).1|(lg b Y).1]
   let h3:∀k∈ks,~~~k=3:=λk j=>by
    let%[a,b,z,rfl|_]:=ae k j;rfl
   show%[u,J,ks,q1,3,h3,!1,⋯|λr ss ag ta pm=>?_];let s3:=ai.Qa (o:= .lst (ss\0)) ag;show kk r _ ss (s2.trans s3) (s2.free ag) aa (aE ta λb z e=>s3 _ _ e) %[pm.nodup_iff.mpr q2|λk=>by rw[pm.mem_iff,q3,lk]] (λk j=>ae k (pm.mem_iff.mp j)) (by let:=pm.length_eq;rw[Z6]at this;lia)
def Ig{a:ZB}{g h:kG->V}{z:kG}(b:z∉a)(e:∀x∈a,h x=g x):dw (VD a g) (kj z) (h z)=VD (a++[z]) h:=by
 rw[dC _ (jw b)];unfold VD;rw[Zd];show rM (·++_) (Yo λx c=>by rw[e x c])
abbrev sc2(t:kw×ZB):kG:=t.2.getD 1 MQ
abbrev StB(H:Hp)(d:kw)(ss:ZH):Prop:=∃a,H d∣.dK a/\∀n:kG,(∃l,bQ a (kj n)∣.ref l/\H l∣.lst (((ss.filter λt=>decide (t.2[0]? =hV n)).map sc2)\3))\/(bQ a (kj n)=hH/\∀t∈ss,t.2[0]? ≠hV n)
def StB.up{H e:Hp}{d:kw}{ss:gN _}(h:StB H d ss)(s:ai H e):StB e d ss:=by
 let%[c,f|g]:=h;show%[c,s _ _ f|λn=>(g n).imp_left λ%[l,a|b]=>%[l,a|s _ _ b]]
def StB.at{H i:Hp}{e d q p:kw}{ss:gN _}(h:StB H e ss)(m:e≠d)(r:∃x,H d∣.dK x)(s:H q=hH)(f:∀b o,b≠d->b≠q->H b∣o->i b∣o)(u:∃x,i q<*x)(y:i p=hH)(n:kG):
 ∃g a,Qa i p (.lst []) e∣.dK g/\(bQ g (kj n)).getD (.ref p)= .ref a/\Qa i p (.lst []) a∣.lst (((ss.filter λt=>decide (t.2[0]? =hV n)).map sc2)\3)/\a≠q:=by
 let%[g,z|B]:=h;let sp:=ai.Qa (o:= .lst []) y;let A:=sp _ _ (f e _ m (aw z s) z);rcases B n with⟨l,v,j⟩|⟨v,C⟩
 .show%[g,l,A,by rw[v];rfl,sp _ _ (f l _ (λc=>by let%[x|r]:=r;rw[c,r]at j;cases j) (aw j s) j)|aw j s]
 .show%[g,p,A,by rw[v];rfl,?_|λc=>by let%[x|e]:=u;rw[<-c,y]at e;cases e];rw[Py.mpr λt E c=>C t E (Zo c)];show aa
def StB.fr{H i:Hp}{e d q:kw}{ss:gN _}(h:StB H e ss)(a:e≠d)(u:∃x,H d∣.dK x)(j:H q=hH)(f:∀b o,b≠d->b≠q->H b∣o->i b∣o):StB i e ss:=by
 let%[g,m|r]:=h;show%[g,f e _ a (aw m j) m|λn=>(r n).imp_left λ%[l,s|p]=>%[l,s|f l _ (λc=>!2) (aw p j) p]]
abbrev Fl(ks:gN ZB)(st:kG)(F R:ZB)(g:kG->on)(a:on):Prop:=∃rs b k,rs\1=F/\Lev ks st rs b k R/\a=((k:iv):on)/\∀y∈F,g y=((b y:iv):on)
def FT{ks:gN ZB}{R:ZB}:∀{A:ZB},(∀y∈A,∃p∈R,Ed ks p y)->∃new:gN (kG×kw×ZB),new\1=A/\∀r∈new,r.2.2∈ks/\∃p z,p∈R/\r.2.2=[p,r.1,z]
 |[],_=>%[[],rfl|λ_ h=>nomatch h]
 | a::A,h=>by
   let%[new,e|c]:=FT λy d=>h y (Zk _ d)
   let%[p,f,z|g]:=h a Zm;show%[(a,0,[p,a,z])::new,by rw[Yp,e]|λr b=>?_];rcases Yv.mp b with rfl|b
   .show%[g,p,z,f|ρ]
   .show c r b
def Fl.step{ks:gN _}{st:kG}{F R A:ZB}{g b:kG->on}{a:on}(h:Fl ks st F R g a)(nd:(F++A).Nodup)(e:∀y∈A,b y=a+1/\∃p∈R,Ed ks p y)(f:∀y∈F,b y=g y)(i:∀x∈R,∀y,Ed ks x y->y∈F++A):Fl ks st (F++A) A b (a+1):=by
 let%[rs,m,k,rfl,L,rfl|j]:=h;let%[new,rfl|l]:=FT λy d=>(e y d).2
 let L2:=L.step (by rw[Zd];show nd) l (by rw[Zd];show i);show%[rs++new,_,k+1,Zd,L2,ρ|λy d=>?_];by_cases c:y∈new\1
 .rw[lp c,(e y c).1];rfl
 .let:=(Xm d).resolve_right c;rw[ku c,f y this,j y this]
def Fl.end_{ks:gN _}{st:kG}{F:ZB}{g:kG->on}{a:on}(h:Fl ks st F [] g a){y:kG}(b:y∈F):∃n:iv,g y=((n+1:iv))/\Dst ks st (n+1) y/\∀m,Dst ks st (m+1) y->n<=m:=by
 let%[rs,c,k,rfl,L,rfl|e]:=h;let%[j|f]:=L.dst b;obtain⟨n,d⟩:∃n,c y=n+1:=%[c y-1|⋯]
 show%[n,by rw[e y b,d],d▸f|λm i=>?_];let:=L.min b i
 lia
abbrev Far(ks:gN ZB)(x:kG)(F:ZB)(g:kG->on):Prop:=∀y∈F,∃n:iv,g y=((n+1:iv):on)/\Dst ks x (n+1) y/\∀m,Dst ks x (m+1) y->n<=m
inductive FU
 | mk (l:kw) (st:kG) (ns:ZB) (ss:ZH):vs=[.ref l,.str st]->H l∣.lst (ss\0)->dR H ns ss-> ~~~ss<=250->(∀d H' (F:ZB) (g:kG->on),ai H H'->H d=hH->H' d∣.dK (VD F λx=> .int (g x))->F.Nodup->(∀y,y∈F↔Rch (ss\2) st y)->Far (ss\2) st F g->Q (.ref d) H')->FU vs H Q E0
abbrev ME(H:Hp)(l e d:kw)(st:kG)(ss:ZH)(m:iv)(h:_LL.St)(b:Hp):Prop:=∃(r:kw) (a:on) (i j n o c f:lx V) (R F:ZB) (g:kG->on),h=[!l,-st,!e,i,j,n,!d,!r,hV (.int a),o,c,f]/\ai H b/\StB b e ss/\b r<*R\3/\b d∣.dK (VD F λx=> .int (g x))/\F.Nodup/\(∀y∈F,Rch (ss\2) st y)/\(∀x∈R,x=st\/x∈F)/\(∀x,(x=st\/x∈F)->x∈R\/∀y,Ed (ss\2) x y->y∈F)/\Fl (ss\2) st F R g a/\m=2*(250-F.length) +R.length.min 1
def CU(T:Txt K mg):↥1 "_law_far" ↑"~laid ~one" FU:=by
 .exists T.bK,bF,c2,hr,%[l,st,ns,ss,rfl,hl,bb,c3|kk];let c4: ~~~(ss\0)= ~~~ss:=Z6 _;show%[_,%["KCF2xCRU0lLJ3LJ4LJ5eEY~!i~$~%2A3AQBBA4BCF6xCF7QA1BCF8DC~OM^7QBCF8Gb8DCF9QBCRU7J:ERU~P~Q2As:AQBBJ;EO~Rs;6Cr86s;EYni9As;BPEF79EI6",bF.nd|hr]|?_]
  change aV _ _ _ [!l,-st,hH,hH,hH,hH,hH,hH,hH,hH,hH,hH] H;show am λD1 k1 _=>?_
  lk;intro e fe;show k1 _ _ (am λD2 k2 _=>az λa0 hK=>?_);lk;let se:=ai.Qa (o:= .dK []) fe;show%[%[_|Qb.of (se _ _ hl)]|hK _ _ ?_];show bB (λj N C=>A3 (E3 λo3 o4 o5=>N=[!l,-st,!e,o3,o4,o5,hH,hH,hH,hH,hH,hH]) (ai H C) (∃O:Gs kG,A4 (jG V.str H C e O) ((O\1).Nodup) (∀g∈O,g.2.2=((ss.take j).filter λt=>decide (t.2[0]?∣g.1)).map sc2) (∀n,n∈O\1↔∃t∈ss.take j,t.2[0]?∣n)))
   %[%[_,_,_|rfl],se,[],%[aa,λg hg=>(nomatch hg)|X3],X3,(λg hg=>nomatch hg)|by simp] (λj N C h=>h.2 _ _ hl) ?_ ?_
  .intro j t N C Y %[%[o3,o4,o5|rfl],sm,O,I,gn,gf|gk];let tm:=Z8 Y;let j1:j< ~~~ss:=(Xl Y).1;let%[co,n,y,z,et|_]:=bb t tm;let hn:t.2[0]?∣n:=by rw[et];rfl
   let M:sc2 t=y:=by unfold sc2;rw[et];rfl
   let tk:ss.take (j+1)=ss.take j++[t]:=by rw[X9,Y];rfl
   let bc:=sm _ _ co;rw[et]at bc;show%[_,SqT.of bc,ρ,_,_,ρ,_,_,ρ,_,_,ρ,ρ|?_];change nP _ _ [!l,-st,!e,-n,-y,-z,hH,hH,hH,hH,hH,hH] C;show aA λD4 k4 _=>?_
   lk;let gl: ~~~O<= ~~~ss:=by
    let:O\1 ⊆ ss.filterMap λt=>t.2[0]? :=λy M=>by
     let%[t,Y|e]:=(gk y).mp M;show Np.mpr %[t,Yx Y|e]
    let:=_ST.nodup_sub gn λx U=>this U
    rw[Z6]at this;show nI this (OH _ _)
   let keys:∀(a1:Gs kG),(∀y,y∈a1\1↔y∈O\1\/y=n)->∀y,y∈a1\1↔∃t∈ss.take (j+1),t.2[0]?∣y:=λa1 h y=>by
    rw[h,gk,tk]
    constructor
    .rintro(⟨t',h1,h2⟩|rfl)
     .show%[t',Yt _ h1|h2]
     .show%[t,Yu _ Zm|hn]
    .rintro⟨t',h1,h2⟩;rcases Xm h1 with q|q
     .show .inl %[t',q|h2]
     .rw[Xn q,hn]at h2;show .inr (Za h2).symm
   show%[tyD (I.at_),#[0]|λp hp=>%[kj n,ρ,gD O,?_,?_,λv hv=>?_|λhv=>?_]]
   .rw[aq (λc=>by rw[<-c,I.at_]at hp;cases hp)];show I.at_
   .unfold gD;rw[Z6];show aC ⋯
   .let%[q,hq,e1|rfl]:=eV hv;let sp:=ai.Qa (o:= .lst []) hp;let hl:=sp _ _ (I.la q hq).2;let G:=(I.up sp).add gn hq y;let ml: ~~~q.2.2<= ~~~ss:=by
     rw[gf q hq,Z6];show nI (Yh _ _) (by rw[Yk];lia)
    let ka:(nK q.1 y O)\1=O\1:=by
     unfold nK;rw[Yq];show Yo λg _=>?_
     change(if g.1=q.1 then(g.1,g.2.1,g.2.2++[y])else g).1=_
     split<;> rfl
    show%[tyL (Qb.of hl),_,hl,by rw[Z6];show aC ⋯|k4 _ _ %[%[_,_,_|ρ],ai.set (sm.trans sp) (I.la q hq).1,_,G,by rw[ka];show gn,λg hg=>?_|keys _ λy=>?_]]
    .unfold nK at hg;let%[g0,h0|rfl]:=Xo hg;rw[tk,Y2,Zd];by_cases c:g0.1=q.1
     .rw[lp c];change g0.2.2++[y]=_++(Ou (λt=>decide (t.2[0]?∣g0.1)) [t]).map sc2;rw[gf g0 h0,Y6 (by rw[hn,c,e1];simp),Y7,Yp,SQ,M]
     .rw[ku c,gf g0 h0,Y4 (by rw[hn,<-e1];simpa using λz=>c z.symm),Y7,SQ,Zx]
    .rw[ka];show%[.inl|λh=>h.elim id λh=>by rw[h,<-e1];show Xp %[q,hq|ρ]]
   .let nk:n∉O\1:=λh=>by
     let%[q,hq|c]:=Xo h;let:=iG hq;rw[c,hv]at this;show this rfl
    let de:e≠p:=λq=>by rw[<-q,I.at_]at hp;cases hp
    let gp:Qa (Qa C p (.lst [])) e (.dK (dw (gD O) (kj n) (.ref p))) p<*[]:=by rw[aq de.symm,aa]
    show%[tyL (Qb.of gp),[],gp,(show 0<lX by decide)|k4 _ _ %[%[_,_,_|ρ],ai.set (ai.set (sm.trans (ai.Qa hp)) fe) (sm.free hp),_,I.new sm hp n y nk,?_,λg hg=>?_|keys _ λy=>?_]]
    .rw[Zd,X1];show%[gn,by simp|λa ha b hb c=>nk (by rw[<-show b=n from Xn hb,<-c];show ha)]
    .rw[tk,Y2,Zd];rcases Xm hg with q|q
     .let c:g.1≠n:=λc=>nk (by rw[<-c];show Xp %[g,q|rfl])
      rw[gf g q,Y4 (by rw[hn];simpa using λz=>c z.symm),Y7,SQ,Zx]
     .rw[Xn q];change [y]=_++(Ou (λt=>decide (t.2[0]?∣n)) [t]).map sc2;rw[Y6 (by rw[hn];simp),Y7,Py.mpr λt' cp c=>nk ((gk n).mpr %[t',cp|Zo c]),Yp,M];rfl
    .rw[Zd,Ys,Yp,SQ,Yy]
  .intro N C %[%[o3,o4,o5|rfl],sm,O,I,gn,gf|gk];rw[Zn (Zi _)]at gf gk;let hb:StB C e ss:=%[_,I.at_|λn=>by
    cases hv:bQ (gD O) (kj n)with
    | none=>
      show .inr %[rfl|λt Y c=>?_];let%[q,hq|c]:=Xo ((gk n).mpr %[t,Y|c]);let:=iG hq;rw[c,hv]at this;show this rfl
    | some v=>
      let%[q,hq,e1|rfl]:=eV hv;show .inl %[_,rfl|?_];rw[(I.la q hq).2,gf q hq,e1]]
   show k2 _ _ (am λD3 k3 _=>?_);lk;intro d fd;let s1:=ai.Qa (o:= .dK []) fd;show k3 _ _ (am λD4 k4 _=>?_);let be:=hb.up s1;let bf:Qa C d (.dK []) d∣.dK (VD [] λx=> .int ((λ_=>0:kG->on) x)):=aa;let bl:=sm.trans s1;let bm:=sm.free fd;let a2:e≠d:=λc=>by
    let%[bn,h1|_]:=hb;rw[c,fd]at h1;cases h1
   generalize Qa C d _=H1 at be bf bl
   lk;show%[#[1]|λr0 cs=>k4 _ _ (am λD5 k5 _=>?_)];let s2:=ai.Qa (o:= .lst [V.str st]) cs;let bt:Qa H1 r0 (.lst [V.str st]) r0<*[st]\3:=aa;let bx:=s2 _ _ bf;let b0:=be.up s2;let b1:=bl.trans s2
   generalize Qa H1 r0 _=H2 at b1 bt bx b0
   lk;show k5 _ _ (am λD6 k6 _=>?_);show%[ME H l e d st ss,%[_,r0,0,o3,o4,o5,hH,hH,hH,[st],[],_,ρ,b1,b0,bt,bx,X3,(λ_ h=>nomatch h),(λx h=>Xn h▸ .inl rfl),(λx h=> .inl (h.elim (λh=>h▸Zm) λh=>nomatch h)),%[[],_,0,ρ,.nil,ρ|λ_ h=>nomatch h]|ρ]|?_];intro m N H3 %[r,B,o3,o4,o5,o9,ag,J,R,F,g0,rfl,s3,ct,b2,b3,Fn,Fr,cv,cl,fl|rfl];lk;let few:∀{X:ZB},X.Nodup->(∀y∈X,Rch (ss\2) st y)-> ~~~X<=250:=λ{X} xn xr=>by
    let:=_ST.nodup_sub xn (m:=ss.map sc2) λy M=>by
     let:∃a,Ed (ss\2) a y:=by
      cases xr y M with
      | one e=>show%[_|e]
      | more _ e=>show%[_|e]
     let%[a,z|L]:=this;let%[t,Y|et]:=Xo L;show Xp %[t,Y|by unfold sc2;rw[et];rfl]
    rw[Z6]at this
    lia
   show%[Xe _|λp fp=>%[R\3,ai.Qa fp _ _ b2,aa|bv (λh=>?_) λh=>?_]]
   .let R0:R≠[]:=λc=>by rw[c]at h;show n0 rfl (Zo h)
    let s4:=ai.Qa (o:= .lst []) fp;let ab:=s4 _ _ b2;let ac:=s4 _ _ b3;let ak:=ct.up s4;let a3:=s3.trans s4
    generalize Qa H3 p _=H4 at ab ac ak a3
    show%[λcw C=>∃m',m'<2*(250-F.length) +R.length.min 1/\ME H l e d st ss m' cw C,λ_ _ h=>h,Xe _|λq fq=>az λa0 hK=>?_];let a4:d≠q:=aw ac fq;let cx:=a3.free fq;let f0:∀b o,b≠d->b≠q->H4 b∣o->Qa H4 q (.lst []) b∣o:=λb o _ n e=>by rw[aq n];show e
    let b4:Qa H4 q (.lst []) q<*([]:ZB)\3:=aa;let b5:Qa H4 q (.lst []) d∣.dK (VD (F++[]) λx=> .int (g0 x)):=by rw[aq a4,Zx];show ac
    let b6:=a3.trans (ai.Qa (o:= .lst []) fq);let b9:r≠d:=λc=>by rw[c,ac]at ab;cases ab
    let ca:r≠q:=aw ab fq
    generalize Qa H4 q _=H5 at f0 b4 b5 b6
    lk;show%[%[_|Qb.of (f0 _ _ b9 ca ab)]|hK _ _ ?_];let Rm: ~~~(R\3)= ~~~R:=Z6 _;show bB (λi N C=>E4 λ(ag J:lx V) (A:ZB) (g:kG->on)=>A9 (N=[!l,-st,!e,o3,o4,o5,!d,!r,hV (.int (B+1)),!q,ag,J]) (ai H C) (∀b o,b≠d->b≠q->H4 b∣o->C b∣o) (C q<*A\3) (C d∣.dK (VD (F++A) λx=> .int (g x))) ((F++A).Nodup) (∀y∈A,Rch (ss\2) st y/\g y=B+1/\∃p∈R,Ed (ss\2) p y) (∀y∈F,g y=g0 y) (∀x∈R.take i,∀y,Ed (ss\2) x y->y∈F++A))
     %[_,_,[],g0,rfl,b6,f0,b4,b5,by rw[Zx];show Fn,(λ_ h=>nomatch h),(λ_ _=>rfl)|λ_ h=>nomatch h] (λi N C %[_,_,_,_,_,_,f,_,_,_,_,_|_]=>f _ _ b9 ca ab) ?_ ?_
    .intro i n N H6 hn %[ag,J,A,g,rfl,s6,f6,an,a5,An,Ar,Ao|Ad];let tk:R.take (i+1)=R.take i++[n]:=by rw[X9,hn];rfl
     let nR:n=st\/Rch (ss\2) st n:=(cv n (Z8 hn)).imp id (Fr n);change ww _ _ _ _ [!l,-st,!e,o3,o4,o5,!d,!r,hV (.int (B+1)),!q,-n,J] H6;show aA λD7 k7 _=>az λa0 hK=>?_
     lk;let%[c5,cd|_]:=id ak;show%[tyD (f6 e _ a2 (aw cd fq) cd),#[0]|λp2 ce=>?_];let%[bn,a,ch,cy,ae|cM]:=ak.at a2 %[_|ac] fq f6 %[_|an] ce n;let sp:=ai.Qa (o:= .lst []) ce;let cm:=sp _ _ an;let a6:=sp _ _ a5;let s7:=s6.trans sp;let f7:∀b o,b≠d->b≠q->H4 b∣o->Qa H6 p2 (.lst []) b∣o:=λb o n1 n2 e=>sp _ _ (f6 b o n1 n2 e)
     let c0:a≠d:=λc=>by rw[c,a6]at ae;cases ae
     generalize Qa H6 p2 _=H7 at ch ae cm a6 s7 f7
     show%[kj n,ρ,bn,ch|vV cy %[%[_|Qb.of ae]|hK _ _ ?_]];let yI:∀y,y∈(ss.filter λt=>decide (t.2[0]?∣n)).map sc2↔Ed (ss\2) n y:=λy=>by
      rw[Yw]
      constructor
      .rintro⟨t,Y,rfl⟩;let%[h1|h2]:=o0.mp Y;let%[_,x,y,z,et|_]:=bb t h1;let h2:=Zo h2;rw[et]at h2;obtain rfl:x=n:=Za h2;show%[z|Xp %[t,h1|by unfold sc2;rw[et];rfl]]
      .rintro⟨z,L⟩;let%[t,Y|et]:=Xo L;show%[t,o0.mpr %[Y|Zf (by rw[et];rfl)]|by unfold sc2;rw[et];rfl]
     generalize (ss.filter λt=>decide (t.2[0]?∣n)).map sc2=ys at ae yI
     let ym: ~~~(ys\3)= ~~~ys:=Z6 _;show bB (λj N C=>E3 λ(J:lx V) (A:ZB) (g:kG->on)=>A11 (N=[!l,-st,!e,o3,o4,o5,!d,!r,hV (.int (B+1)),!q,-n,J]) (ai H C) (∀b o,b≠d->b≠q->H4 b∣o->C b∣o) (C a<*ys\3) (C q<*A\3) (C d∣.dK (VD (F++A) λx=> .int (g x))) ((F++A).Nodup) (∀y∈A,Rch (ss\2) st y/\g y=B+1/\∃p∈R,Ed (ss\2) p y) (∀y∈F,g y=g0 y) (∀x∈R.take i,∀y,Ed (ss\2) x y->y∈F++A) (∀y∈ys.take j,y∈F++A))
      %[_,A,g,rfl,s7,f7,ae,cm,a6,An,Ar,Ao,Ad|λ_ h=>nomatch h] (λj N C %[_,_,_,_,_,_,h,_,_,_,_,_,_|_]=>h) ?_ ?_
     .intro j y N H8 M %[J,A,g,rfl,s8,f8,ba,as,ah,An,Ar,Ao,Ad|Aj];let tj:ys.take (j+1)=ys.take j++[y]:=by rw[X9,M];rfl
      let yR:Rch (ss\2) st y:=by
       let e:=(yI y).mp (Z8 M);rcases nR with rfl|h
       .show .one e
       .show .more h e
      let al:=few An λz L=>(Xm L).elim (Fr z) λh=>(Ar z h).1
      let vl: ~~~(VD (F++A) λx=>V.int (g x))<lX:=by unfold VD;rw[Z6];show aC ⋯
      change lJ _ _ _ _ [!l,-st,!e,o3,o4,o5,!d,!r,hV (.int (B+1)),!q,-n,-y] H8;show aA λD8 k8 _=>?_
      lk;show%[_,cc.k (k:=kj y) ah|bv (λc=>?_) λc=>?_]
      .let yn:y∉F++A:=λh=>by rw[jv h]at c;cases c
       let P:=fA.k (k:=kj y) (v:= .int (B+1)) ah vl;let c1:q≠d:=J0 a4;let cn:=(aq (o:= .dK (dw (VD (F++A) λx=>V.int (g x)) (kj y) (V.int (B+1)))) c1).trans as;let vd:=Ig (g:=λx=>V.int (g x)) (h:=λx=>V.int (if x=y then B+1 else g x)) yn λx U=>by
        change V.int (if x=y then B+1 else g x)=V.int (g x);rw[ku (λc:x=y=>yn (c▸U))]
       rw[lp rfl]at vd;show%[_,P,tyL (Qb.of cn),_,cn,by rw[Z6];rw[Z9]at al;show aC ⋯|k8 _ _ %[_,A++[y],λx=>if x=y then B+1 else g x,ρ,ai.set (ai.set s8 bm) cx,(λb o n1 n2 e=>by rw[aq n2,aq n1];show f8 b o n1 n2 e),by rw[aq cM,aq c0];show ba,by rw[aa,Zd];rfl,by rw[aq a4,aa,vd,Ze],?_,(λz L=>?_),(λz L=>?_),(λx U z e=>?_)|λz L=>?_]]
       .rw[<-Ze,X1];show%[An,by simp|λa ha b hb e=>yn (by rw[<-Xn hb,<-e];show ha)]
       .rcases Xm L with u|u
        .show%[(Ar z u).1,(ku λc:z=y=>yn (c▸Yu _ u)).trans (Ar z u).2.1|(Ar z u).2.2]
        .rw[Xn u];show%[yR,lp rfl,n,Z8 hn|(yI y).mp (Z8 M)]
       .show(ku λc:z=y=>yn (c▸Yt _ L)).trans (Ao z L)
       .rw[<-Ze];show Yt _ (Ad x U z e)
       .rw[<-Ze];rw[tj]at L;rcases Xm L with u|u
        .show Yt _ (Aj z u)
        .show Yu _ u
      .let yn:y∈F++A:=NQ λh=>by rw[jw h]at c;show c rfl
       show k8 _ _ %[_,A,g,rfl,s8,f8,ba,as,ah,An,Ar,Ao,Ad|λz L=>?_];rw[tj]at L;rcases Xm L with u|u
       .show Aj z u
       .rw[Xn u];show yn
     .intro N H8 %[J,A,g,rfl,s8,f8,ba,as,ah,An,Ar,Ao,Ad|Aj];rw[Xc]at Aj;show k7 _ _ %[_,_,A,g,rfl,s8,f8,as,ah,An,Ar,Ao|λx U y e=>?_];rw[tk]at U;rcases Xm U with z|z
      .show Ad x z y e
      .rw[Xn z]at e;show Aj y ((yI y).mpr e)
    .intro N H6 %[ag,J,A,g,rfl,s6,f6,an,a5,An,Ar,Ao|Ad];rw[Xc]at Ad;let al:=few An λz L=>(Xm L).elim (Fr z) λh=>(Ar z h).1
     rw[Z9]at al;let rp:R.length.min 1=1:=Sw (NH.mpr R0);dsimp only;lk;show%[_,?_,q,B+1,o3,o4,o5,_,ag,J,A,F++A,g,ρ,s6,ak.fr a2 %[_|ac] fq f6,an,a5,An,(λy M=>(Xm M).elim (Fr y) λh=>(Ar y h).1),(λx U=> .inr (Yu _ U)),(λx U=>?_),fl.step An (λy M=>(Ar y M).2) Ao Ad|ρ]
     .rw[Z9,rp];cases A with
      | nil=>simp
      | cons a A=>
        rw[Zr]at al ⊢;let:(~~~A+1).min 1=1:=Sw ⋯
        lia
     .by_cases hA:x∈A
      .show .inl hA
      .show .inr λy e=>?_
       rcases cl x (U.imp id λh=>(Xm h).resolve_right hA)with h|h
       .show Ad x h y e
       .show Yt _ (h y e)
   .let R0:R=[]:=by
     let:=h;cases R with
     | nil=>rfl
     | cons a R=>show n0 (Zf ∅) h
    subst R0;let s4:=ai.Qa (o:= .lst []) fp;show k6 _ _ ?_;lk;show kk d _ F g0 (s3.trans s4) bm (s4 _ _ b3) Fn (λy=>%[Fr y|λr=>?_]) λy M=>fl.end_ M
    show r.closed (R:=(·∈F)) ((cl st (.inl rfl)).resolve_left λh=>nomatch h) λx y U e=>((cl x (.inr U)).resolve_left λh=>nomatch h) y e
structure Ben (H:Hp) (ks:gN ZB) (rs:Gs kG):Prop where
 nd:(rs\1).Nodup
 at_:∀r∈rs,(∃g:kG->on,H r.2.1∣.dK (VD r.2.2 λx=> .int (g x))/\Far ks r.1 r.2.2 g)/\r.2.2.Nodup/\∀y,y∈r.2.2↔Rch ks r.1 y
structure BeF (H:Hp) (ks:gN ZB) (d:kw) (rs:Gs kG):Prop where
 at_:∃o,H d∣.frz o (.dK (gD rs))
 nd:(rs\1).Nodup
 in_:∀r∈rs,(∃g:kG->on,H r.2.1∣.dK (VD r.2.2 λx=> .int (g x))/\Far ks r.1 r.2.2 g)/\r.2.2.Nodup/\∀y,y∈r.2.2↔Rch ks r.1 y
def BeF.up{H a:Hp}{ks:gN ZB}{d:kw}{rs:Gs kG}(h:BeF H ks d rs)(s:ai H a):BeF a ks d rs:=
 %[h.at_.imp λo e=>s _ _ e,h.nd|λr b=>%[(h.in_ r b).1.imp λg %[e|q]=>%[s _ _ e|q]|(h.in_ r b).2]]
inductive Bq
 | mk (l d:kw) (ns ms:ZB) (ss:ZH) (f:kG->kG):vs=[.ref l,.ref d]->H l∣.lst (ss\0)->dR H ns ss-> ~~~ss<=250->H d∣.dK (NmD ms f)-> ~~~ms<=63->(∀b H' (rs:Gs kG),ai H H'->H b=hH->H' b∣.dK (gD rs)->Ben H' (ss\2) rs->(∀r∈rs,r.2.1≠b/\H r.2.1=hH)->(∀x,x∈rs\1↔∃z∈ms,f z=x)->Q (.ref b) H')->Bq vs H Q E0
inductive FV
 | mk (l d:kw) (ns ms:ZB) (ss:ZH) (f:kG->kG):vs=[.ref l,.ref d]->H l∣.lst (ss\0)->dR H ns ss-> ~~~ss<=250->H d∣.dK (NmD ms f)-> ~~~ms<=63->(∀b H' (rs:Gs kG),ai H H'->BeF H' (ss\2) b rs->(∀x,x∈rs\1↔∃z∈ms,f z=x)->Q (.ref b) H')->FV vs H Q E0
def rE(T:Txt K mg):↥2 "_law_beneath" ↑"~laid ~homes_here" Bq:=by
 show T.bL.cal gP (λH vs Q E h=>?_)
 .let%[l,d,ns,ms,ss,f,rfl,hl,ab,ac,hd,ah|kk]:=h;show%[ρ|λ_ al A outer s q=>?_];show%[_,%["KCF2xCRU*]3A~7~81BJ3EO~R32ErH]4A0A3B23PEI2",gP.nd|q]|?_]
  change aV _ _ _ [!l,!d,hH,hH] H;show am λD1 k1 _=>?_
  lk;intro b fb;let s1:=ai.Qa (o:= .dK []) fb;let J:Qa H b (.dK []) b∣.dK (gD ([]:Gs kG)):=aa;show k1 _ _ (am λD2 k2 _=>az λak hK=>?_)
  generalize Qa H b _=H1 at s1 J
  lk;let y:=s1 _ _ hd;show%[tyD y,%[_|y]|λv fv=>%[d,?_,_,ai.Qa fv _ _ y,ms.map f,by unfold NmD;rw[Yq,Yq];rfl,by rw[Z6];lia|λz zs fz pz _=>?_]]
  .show aa
  let s2:=(ai.Qa (o:=l8 v d) fv).trans (ai.Qa (o:= .lst (zs\3)) fz);let m:Qa (Qa H1 v (l8 v d)) z (.lst (zs\3)) z<*zs\3:=aa;let L:=s1.trans s2;let B:=s2 _ _ J
  generalize Qa (Qa H1 v (l8 v d)) z _=H2 at s2 m L B
  let zl: ~~~zs<=100:=by rw[pz.length_eq,Z6];lia
  let ae:z≠b:=λc=>by rw[c,B]at m;cases m
  let zm: ~~~(zs\3)= ~~~zs:=Z6 _;show%[%[_|Qb.of m]|hK _ _ (bB (λi U M=>E2 λ(o3:lx V) (rs:Gs kG)=>A8 (U=[!l,!d,!b,o3]) (ai H M) (M z<*zs\3) (M b∣.dK (gD rs)) (Ben M (ss\2) rs) (∀r∈rs,r.2.1≠b/\H r.2.1=hH) (∀x,x∈rs\1↔x∈zs.take i) (~~~rs<=i))
   %[_,[],ρ,L,m,B,%[X3|λ_ h=>(nomatch h)],(λ_ h=>nomatch h),(λx=>OF)|Zi _] (λi U M %[_,_,_,_,h,_,_,_,_|_]=>h) ?_ ?_)]
  .intro i n U H3 hn %[o3,rs,rfl,C,G,j,p,N,I|rl];let il:=(Xl hn).1;let tk:zs.take (i+1)=zs.take i++[n]:=by rw[X9,hn];rfl
   change lJ _ _ _ _ [!l,!d,!b,-n] H3;show aA λD3 k3 _=>?_
   lk;show%[_,cc.k (k:=kj n) j|bv (λc=>?_) λc=>?_]
   .let Y:n∉rs\1:=λh=>by
     let%[r,q|e]:=Xo h;let:=iG q;rw[e]at this;cases hv:bQ (gD rs) (kj n)with
     | none=>show this hv
     | some v=>rw[hv]at c;cases c
    show%[l,n,ns,ss,ρ,C _ _ hl,ab.up C,ac|λe H4 F g s4 fe he Fn Fr Ff=>?_];let ag:=s4 _ _ j;let O:e≠b:=λc=>by rw[c,j]at fe;cases fe
    let nv:bQ (gD rs) (kj n)=hH:=jt Y;let pk:dw (gD rs) (kj n) (.ref e)=gD (rs++[(n,e,F)]):=by
     rw[dC _ nv];unfold gD;rw[Zd];rfl
    show%[_,fA.k (k:=kj n) (v:= .ref e) ag (by unfold gD;rw[Z6];show aC ⋯)|k3 _ _ %[_,rs++[(n,e,F)],ρ,ai.set (C.trans s4) fb,(aq ae).trans (s4 _ _ G),by rw[aa,pk],%[?_|λr q=>?_],λr q=>?_,λx=>?_|by rw[Z9];show X8 rl]]
    .rw[Zd,X1];show%[p.nd,by simp|λa ha b hb e=>Y (by rw[<-show b=n by simpa using hb,<-e];show ha)]
    .rcases Xm q with u|u
     .let%[%[g,e1|ef]|r2]:=p.at_ r u;show%[%[g,by rw[aq (N r u).1];show s4 _ _ e1|ef]|r2]
     .rw[Xn u];show%[%[g,by rw[aq O];show he|Ff],Fn|Fr]
    .rcases Xm q with u|u
     .show N r u
     .rw[Xn u];show%[O|C.free fe]
    .rw[Zd,Ys,I,tk,Ys];show Ra OF ∅
   .show k3 _ _ %[_,rs,rfl,C,G,j,p,N,λx=>?_|⋯];let Y:n∈rs\1:=NQ λh=>by rw[jt h]at c;show c rfl
    rw[I,tk,Ys];show%[.inl|λh=>h.elim id λh=>by rw[Xn h];show(I n).mp Y]
  .intro U H3 %[o3,rs,rfl,C,G,j,p,N,I|rl];rw[Xc]at I;show k2 _ _ ?_;lk;show kk b H3 rs C fb j p N λx=>by rw[I,pz.mem_iff,Yw]
def sM(T:Txt K mg):↥2 "_law_beneath" ↑"~laid ~homes_here" FV:=by
 show(rE T).freeze.imp λvs H Q E zqw=>?_;let%[l,d,m,p,ss,f,s,u,v,y,z,A|B]:=zqw;show %[l,d,m,p,ss,f,s,u,v,y,z,A|λb j rs C G I a J L=>%[[b]|λM=>?_]]
 let out:∀c,c≠b->qo [b] M j c=j c:=λc n=>qp λh=>n (Xn h)
 show B b _ rs (λc o e=>(out c (aw e G)).trans (C _ _ e)) %[%[_|pc Zm I],a.nd|λr i=>%[(a.at_ r i).1.imp λg %[e|q]=>%[(out _ (J r i).1).trans e|q]|(a.at_ r i).2]] L
def ke{M:ZB}{g:kG->V}{y:kG}:(bQ (VD M g) (kj y)).isSome=hX↔y∈M:=by
 by_cases c:y∈M
 .rw[jv c];simp[c]
 .rw[jw c];simp[c]
def BeF.get{H:Hp}{ks:gN ZB}{d:kw}{rs:Gs kG}(h:BeF H ks d rs){x:kG}(b:x∈rs\1):∃a M,cc H d (.str x) (hV (.ref a))/\(∃g:kG->on,H a∣.dK (VD M λx=> .int (g x))/\Far ks x M g)/\M.Nodup/\∀y,y∈M↔Rch ks x y:=by
 let%[o|c]:=h.at_;let%[r,e,rfl|f]:=lF b;show%[r.2.1,r.2.2,.inl %[_,kj r.1,.inr %[o|c],ρ|f.symm]|h.in_ r e]
inductive yx
 | mk (b:kw) (ks:gN ZB) (rs:Gs kG):vs=[.ref b]->BeF H ks b rs-> ~~~rs<=1000->(∀H' v,ai H H'->(v=hX↔∃x∈rs\1,Rch ks x x)->Q (.bl v) H')->yx vs H Q E0
def rF(T:Txt K mg):↥1 "_law_has_ring" ↑"~beneath_here" yx:=by
 .exists T.bM,oN,ab,j,%[b,ks,rs,rfl,L,rl|kk];let%[o|z]:=L.at_;show%[_,%["KEIo^kd?1~fT0Z0?2z~N0XT100QB",0,↑(↑"~deposit ~beneath_here",[(1,0)]),↑["_law_deposit","_law_beneath_here"]|j]|?_];change iY _ _ [!b] H;lk;show aI λN hK=>?_
  unfold ui;lk;show%[_,_,z|hK _ _ λF O=>?_];let gl: ~~~(gD rs)= ~~~rs:=Z6 _;show dS (J:=Itk b o (gD rs)) (n:= ~~~(gD rs)) (D:=F) (λi ts B m=>A5 (∃U,B=[U,!b]) (ai H m) (m F<*ts) (~~~ts<=i) (ts≠[]↔∃r∈rs.take i,Rch ks r.1 r.1))
   %[%[hH|rfl],ai.Qa O,aa,Zi _|by simp] (λi _ _ m hi %[_,d,_,_|_]=>%[d _ _ z|hi]) (λ_ _ m %[_,d,_,_|_]=>%[d _ _ z|Zi _]) ?_ ?_
  .intro i ts B m hi %[%[U|rfl],d,e,Y|y] x H2 %[e2,k,v,hk|C];subst e2;let il:i< ~~~rs:=by lia
   obtain⟨r,l⟩:∃r,rs[i]?∣r:=%[_|Z4 il]
   let G:(gD rs)[i]?∣(kj r.1,V.ref r.2.1):=by unfold gD;rw[Zl,l];rfl
   rw[G]at hk;cases hk;obtain rfl:x=V.str r.1:=C;let%[a,M,ga,%[g,ha|_],_|hM]:=(L.up d).get (Xp %[r,Z8 l|rfl]);let tk:rs.take (i+1)=rs.take i++[r]:=by rw[X9,l];rfl
   lk;show%[_,ga,_,.inl %[_,kj r.1,.inl ha,ρ|ρ]|bv (λc=>CK.mk hi e (aC ⋯) %[%[_|ρ],ai.set d O,aa,by rw[Z9];show X8 Y|?_]) λc=>CN.mk hi %[%[_|ρ],d,e,⋯|?_]]
   .rw[tk];show%[λ_=>%[r,Yu _ Zm|(hM _).mp (ke.mp c)]|λ_=>by simp]
   .rw[y,tk];show%[λ%[q,I|h]=>%[q,Yt _ I|h]|λ%[q,I|h]=>?_];rcases Xm I with u|u
    .show%[q,u|h]
    .rw[Xn u]at h;show(c (ke.mpr ((hM _).mpr h))).elim
  .intro ts B m %[_,d,e,Y|y];rw[gl,Xc]at y;show%[Xe _|λp hp=>%[ts,ai.Qa hp _ _ e,aa|kk _ _ (d.trans (ai.Qa hp)) ?_]];rw[N0,y];show%[λ%[r,j|h]=>%[r.1,Xp %[r,j|ρ]|h]|λ%[x,C|h]=>by let%[r,j|rfl]:=Xo C;show%[r,j|h]]
inductive rG
 | mk (l m:kw) (a b:kG) (ws ss:ZH):vs=[.ref l,.ref m,.str a,.str b]->H l∣.lst (ws\0)->aJ H ws->H m∣.lst (ss\0)->aJ H ss->(∀t∈ws,t.2∈ss\2)->Wal (ws\2) a b-> ~~~ws<=300->(∀H',ai H H'->Q (.bl hX) H')->rG vs H Q E0
def FW{b:kG}{us:gN ZB}{i:iv}{k:ZB}{x:kG}(a:us[i]?∣k)(h:Wal (us.drop i) x b):∃y z,k=[x,y,z]/\Wal (us.drop (i+1)) y b:=by
 rw[Zy (Xl a).1]at h;let%[c,z,e|h]:=h;rw[(Xl a).2]at e;show%[c,z,e|h]
def rH(T:Txt K mg):↥1 "_law_is_chain" ↑"~found ~laid ~one ~other" rG:=by
 .exists T.bN,cE,a0,Y,%[l,m,a,b,ws,ss,rfl,r,hw,hm,hs,sub,ab,wl|kk];show%[_,%["KCOfqmavyA0A?1BwM^kd?2U0Z0?3zM]50T10QBEIjPCOM^kd?4U0Z0?5zmavyA0A?6B0QBEIjPCF42CRU0lLJ5LJ6LJ7eCOM~D54EIjPEF46EIo)43",cE.nd,(blE (v:= .ty "list") rfl T.a5 Rc rfl rfl rfl),↑(↑"~link ~laid",[(1,1)]),↑["_law_link","_law_laid"],↑(↑"~link",[]),↑["_law_link"],(blE (v:= .ty "tuple") rfl T.ag Uj rfl rfl rfl)|Y]|?_]
  change aV _ _ _ [!l,!m,-a,-b,hH,hH,hH,hH] H;show am λD1 k1 r1=>?_
  lk;show%[_,.lst r,hX,ρ|?_];show m7 ?_;show aI λas hK=>?_
  lk;show%[%[_|Qb.of r]|hK _ _ λE2 ac=>?_];show cg (λj vs d c=>A4 (∃u,d=[u,!m]) (ai H c) (c E2<*vs) (vs=[]))
   %[%[hH|rfl],ai.Qa ac,aa|rfl] (λ_ _ _ c %[_,g,_|_]=>g _ _ r) ?_ ?_
  .intro j vs d H2 B %[%[u|rfl],g,n|rfl];lk;let C:=Yc B;show%[ws[j].2,g _ _ (hw _ C).2,ss,g _ _ hm,(λt M=>g _ _ (hs t M).2),sub _ C|CN.mk B %[%[_|ρ],g,n|ρ]]
  intro vs d H1 %[_,s1,ae|rfl];show%[Xe _|λp G=>%[[],ai.Qa G _ _ ae,aa|?_]];rw[ku ∅];let N:=s1.trans (ai.Qa (o:= .lst []) G)
  generalize Qa H1 p _=H2 at N
  show k1 _ _ (am λD2 k2 r2=>?_);lk;show aI λag ah=>?_
  lk;let I:=N _ _ r;show%[%[_|Qb.of I]|ah _ _ λE3 q=>?_];show cg (λj vs d c=>A4 (∃u,d=[u]) (ai H2 c) (c E3<*vs) (vs=[]))
   %[%[hH|rfl],ai.Qa q,aa|rfl] (λ_ _ _ c %[_,g,_|_]=>g _ _ I) ?_ ?_
  .intro j vs d H3 B %[%[u|rfl],g,n|rfl];lk;show%[_,.tup ((N.trans g) _ _ (hw _ (Yc B)).2),hX,ρ|m7 (CN.mk B %[%[_|ρ],g,n|ρ])]
  intro vs d H3 %[_,s3,q|rfl];show%[Xe _|λp G=>%[[],ai.Qa G _ _ q,aa|?_]];rw[ku ∅];let O:=(N.trans s3).trans (ai.Qa (o:= .lst []) G)
  generalize Qa H3 p _=H4 at O
  show k2 _ _ (am λD3 k3 r3=>?_);lk;show k3 _ _ (am λD4 k4 r4=>az λak al=>?_);lk;let J:=O _ _ r;show%[%[_|Qb.of J]|al _ _ ?_];show bB (us:=ws) (f:=λt=>V.ref t.1) (λi d c=>c=H4/\∃(x:kG) (o5 o6 o7:lx V),d=[!l,!m,-a,-b,-x,o5,o6,o7]/\Wal ((ws.map λt:kw×ZB=>t.2).drop i) x b) %[rfl,a,_,_,_,rfl|ab] (λi d c h=>h.1▸J) ?_ ?_
  .intro i t d c M %[e,x,o5,o6,o7,rfl|U];subst e;let%[y,z,et|an]:=FW (k:=t.2) (by rw[Zl,M];rfl) U;let L:=O _ _ (hw t (Z8 M)).2;rw[et]at L;show%[_,SqT.of L,ρ,_,_,ρ,_,_,ρ,_,_,ρ,ρ|?_];change aV _ _ _ [!l,!m,-a,-b,-x,-x,-y,-z] c;show am λD5 k5 r5=>?_
   lk;rw[ku ∅];show k5 _ _ ?_;lk;show an
  .intro d c %[e,x,o5,o6,o7,rfl|U];subst e;rw[OZ (by rw[Z6];show Zi _)]at U;obtain rfl:x=b:=U;show k4 _ _ ?_;lk;rw[Zf trivial];show kk _ O
def yy{h:Type}{f:h->ZB}{nm:h->kG}:∀{xs:gN h},(xs.map nm).Nodup->(∀p∈xs,(f p).Nodup)->(∀p∈xs,∀x∈f p,∃c,x=lnS (nm p) (sgn c))->(xs.flatMap f).Nodup
 |[],_,_,_=>X3
 | p::xs,i,m,j=>by
   rw[Yp,NZ]at i;rw[Qi,X1];show%[m p Zm,yy i.2 (λq g=>m q (Zk _ g)) (λq g=>j q (Zk _ g))|λa n b o e=>?_];let%[q,g|l]:=M5.mp o;let%[c|r]:=j p Zm a n;let%[d|s]:=j q (Zk _ g) b l;show i.1 (Xp %[q,g|(qT (r.symm.trans (e.trans s))).symm])
def CV(p:kw×kG×ZB):(lyr p).Nodup:=by
 unfold lyr;rw[X2,Pq];show Xg (λ{x y} b e a f=>?_) (X2.mp (dD ((c7 p.2.2).map sgn)));let%[c,_|rfl]:=lC b;let%[d,_|rfl]:=lC e;show a (by rw[v8 f])
def wn{cs:ZI}(b:(cs.map λp=>p.2.1).Nodup){a:ZB}(h:a.Perm (cs.flatMap lyr)):a.Nodup:=by
 rw[h.nodup_iff];show yy (nm:=λp:kw×kG×ZB=>p.2.1) b (λp _=>CV p) λp d x c=>FF c
structure rJ (H:Hp) (cs:ZI) (qs:ZO):Prop where
 ca:bM H cs
 nd:(cs.map λp=>p.2.1).Nodup
 p1:1<= ~~~cs
 p3: ~~~cs<=3
 few:∀p∈cs,sk p.2.2
 ly: ~~~(cs.flatMap lyr)<=63
 sa:∀ls:ZB,ls.Perm (cs.flatMap lyr)->ci H ls qs
 q20: ~~~qs<=60
def rJ.up{H a:Hp}{cs:ZI}{qs:ZO}(h:rJ H cs qs)(s:ai H a):rJ a cs qs:=
 %[h.ca.up s,h.nd,h.p1,h.p3,h.few,h.ly,λb p=>(h.sa b p).up s|h.q20]
inductive rK (K:ZA)
 | mk (a:kw) (ns:ZM):vs=[.ref a]->Qb K H a (ns\4)->GO H-> ~~~ns<=63->(∀H',Q (.bl hX) H')->rK K vs H Q E0
def rL{a b:Type}(f:a->b)(xs:gN a)(is:gN iv):is.filterMap ((xs.map f)[·]?)=(is.filterMap (xs[·]?)).map f:=by
 rw[gN.map_filterMap];show rM (λg=>gN.filterMap g is) (funext λi=>Zl ..)
def FX{a:Type}{xs:gN a}{is:gN iv}{q:a}(h:q∈is.filterMap (xs[·]?)):q∈xs:=by
 let%[i,_|e]:=Np.mp h;show Z8 e
def oP.sub{H:Hp}{cs:ZI}{qs rs:ZO}(h:oP H cs qs)(r:∀q∈rs,q∈qs)(l: ~~~rs<= ~~~qs):oP H cs rs:=%[h.c1,h.c3,h.ca,h.nd,h.few,h.ly,λq a=>h.sa q (r q a)|nI l h.ql]
def oP.up{H a:Hp}{cs:ZI}{qs:ZO}(h:oP H cs qs)(s:ai H a):oP a cs qs:=%[h.c1,h.c3,h.ca.up s,h.nd,h.few,h.ly,h.sa.up s|h.ql]
def oP.pair{H:Hp}{cs:ZI}{qs:ZO}(h:oP H cs qs):rJ H cs qs:=%[h.ca,h.nd,h.c1,h.c3,h.few,h.ly,λc p q a=>%[(h.sa q a).1|(h.sa q a).2.sub λz b=>p.mem_iff.mpr b]|h.ql]
structure wo (mg:ZC) (H:Hp) (g l1 l2:kw) (cs:ZI) (qs:ZO) (ls:ZB) (ts:ZH):Prop where
 gd:oP H cs qs
 h1:H l1<*bT cs
 h2:H l2∣.lst (qs\0)
 gr:iH mg H g qs ls ts
 pl:ls.Perm (cs.flatMap lyr)
 tm:∀k,k∈ts\2↔k∈cR cs\/k∈cS qs qs.length
def wo.up{mg:ZC}{H a:Hp}{g b c:kw}{cs:ZI}{qs:ZO}{d:ZB}{ts:ZH}(h:wo mg H g b c cs qs d ts)(s:ai H a):wo mg a g b c cs qs d ts:=%[h.gd.up s,s _ _ h.h1,s _ _ h.h2,h.gr.up s,h.pl|h.tm]
def Br{H:Hp}{g c a b:kw}{cs:ZI}{qs:ZO}{R:Hp->Prop}(j:H g=hH)(i:H c=hH)(n:H a<*bT cs)(r:H b∣.lst (qs\0))(p:rJ H cs qs)
 (k:∀f d ts,ai H f->iH mg f g qs d ts->d.Perm (cs.flatMap lyr)->(∀k,k∈ts\2↔k∈cR cs\/k∈cS qs qs.length)->R f):
 v7 mg [.ref g,.ref a,.ref b] (Qa (Qa H c (.own g)) g (.ins (aK mg "Ground") c [])) (λv s=>v= .non/\R s) E0:=by
 let h:ai H (Qa (Qa H c (.own g)) g (.ins (aK mg "Ground") c [])):=λb o e=>by
  rw[aq (aw e j),aq (aw e i)];show e
 show%[g,a,b,c,cs,qs,ρ,aa,h _ _ n,h _ _ r,p.ca.up h,p.nd,p.p1,p.p3,p.few,p.ly,λd q=>(p.sa d q).up h,p.q20|λf d ts c2 c3 u y z tk A B C pl E=>%[ρ|k f d ts (λb o e=>y b o (aw e j) (h _ _ e)) %[%[c2,c3,u|z],wn p.nd pl,E,by rw[pl.length_eq];show p.ly,C,λk l=>?_,λk l=>?_|A] pl B]]<;> have%[t,m|rfl]:=Xo l
 .show(tk t m).1
 .show(tk t m).2
abbrev SD(M:ZB):gN (Key×V):=VD M λ_=> .bl hX
def FY{M:ZB}{x:kG}:∃M2,dw (SD M) (kj x) (.bl hX)=SD M2/\(M.Nodup->M2.Nodup)/\∀y,y∈M2↔y∈M\/y=x:=by
 by_cases c:x∈M
 .show%[M,?_,λh=>h|λy=>%[.inl|λh=>h.elim (λh=>h) λe=>e▸c]];unfold SD;rw[FP c]
  simp_all
 .show%[M++[x],?_,λh=>X1.mpr %[h,by simp|λa d b f e=>c (by rw[<-Xn f,<-e];show d)]|λy=>by simp];unfold SD;rw[dC _ (jw c)];unfold VD;rw[Zd];rfl
def yz:∀{R M:ZB},∃M2,i4 (SD M) (SD R)=SD M2/\(M.Nodup->M2.Nodup)/\∀y,y∈M2↔y∈M\/y∈R
 |[],M=>%[M,rfl,λh=>h|λy=>by simp]
 | x::R,M=>by
   let%[M1,a,n1|b]:=FY;let%[M2,c,d|m2]:=yz (R:=R);show%[M2,?_,λh=>d (n1 h)|λy=>by rw[m2,b,Yv,or_assoc]];change i4 (dw _ (kj x) (.bl hX)) (SD R)=_;rw[a,c]
def CW{ks:gN _}{a c:kG}(r:Rch ks a c):∃y,Ed ks a y/\(y=c\/Rch ks y c):=by
 induction r with
 | one e=>show%[_,e|.inl rfl]
 | more _ e b=>
   let%[y,h|q]:=b;show%[y,h|.inr (q.elim (λq=>q▸ .one e) λq=> .more q e)]
def K9{b:ZB}{ss:ZH}(h:∀t∈ss,d6 b t.2){x y:kG}(r:Rch (ss\2) x y):y∈b:=by
 let:∃a,Ed (ss\2) a y:=by
  cases r with
  | one e=>show%[_|e]
  | more _ e=>show%[_|e]
 let%[a,z|d]:=this;let%[t,f|c]:=Xo d;let%[u,v,w,e,_|g]:=h t f;rw[e]at c;show((Oc (Oc c).2).1)▸g
structure Rea (H:Hp) (ks:gN ZB) (rs:Gs kG):Prop where
 nd:(rs\1).Nodup
 ad:(rs.map (·.2.1)).Nodup
 at_:∀r∈rs,H r.2.1∣.dK (SD r.2.2)/\r.2.2.Nodup/\∀y,y∈r.2.2↔Rch ks r.1 y
inductive Bs
 | mk (l m:kw) (ns:ZB) (ss:ZH):vs=[.ref l,.ref m]->H l<*ns\3->ns.Nodup-> ~~~ns<=63->H m∣.lst (ss\0)->dR H ns ss-> ~~~ss<=250->(∀x,¬ Rch (ss\2) x x)->(∀d H' (rs:Gs kG),ai H H'->H d=hH->H' d∣.dK (gD rs)->Rea H' (ss\2) rs->(∀r∈rs,r.2.1≠d/\H r.2.1=hH)->(∀x,x∈rs\1↔x∈ns)->Q (.ref d) H')->Bs vs H Q E0
def rN(T:Txt K mg):↥4 "all_beneath" ↑"names found" Bs:=by
 .exists T.aT,dE,cl,u,%[l,m,ns,ss,rfl,hl,nn,nl,hm,N,ba,nr|kk];show%[_,%["KCF2H~&A1BCF3xCRUH]AA0A1BJ4Crx34ERU~P~Q2A4AQBBJ5CrjX34S5~EEY~1~2X34AX3S5~EBEI3",dE.nd|u]|?_]
  change aV _ _ _ [!l,!m,hH,hH,hH,hH] H;show am λD1 k1 _=>?_
  lk;show%[m,ns,ss,ρ,hm,N,ba|λb H1 s1 fb hb=>k1 _ _ (am λD2 k2 _=>?_)];lk;intro d fd;show k2 _ _ (am λD3 k3 _=>az λbb hK=>?_);let s2:=ai.Qa (o:= .dK []) fd;let hd:Qa H1 d (.dK []) d∣.dK (gD ([]:Gs kG)):=aa;let O:=s1.trans s2;let bc:b≠d:=λc=>by
   let%[be,G|_]:=hb;rw[c,fd]at G;cases G
  let bf:=s1.free fd;let bl:=hb.up s2
  generalize Qa H1 d _=H2 at s2 hd O bl
  lk;show%[l,m,ns,ss,ρ,O _ _ hl,nn,nl,O _ _ hm,N.up O,ba|λr H3 L s3 ak Ln Ls b9 rest _=>%[%[_|Qb.of ak]|hK _ _ ?_]];let cm:=s2.trans s3;let bm:∀x∈ns,x∈L:=λx Y=>NQ λc=>KU (ks:=ss\2) (U:=ns.filter λx=>decide (x∉L)) (λx Y=>by
   let%[G|J]:=o0.mp Y;let%[y,e,yn|yl]:=rest x G (Zo J);show%[y,o0.mpr %[yn|Zf yl]|e]) nr (o0.mpr %[Y|Zf c])
  let Lm: ~~~(L\3)= ~~~L:=Z6 _;let Ll:=_ST.nodup_sub Ln Ls;let bn:=bl.up s3;let al:=O.trans s3;show bB (λi σ C=>A3 (E2 λo4 o5=>σ=[!l,!m,!b,!d,o4,o5]) (dM d H3 C) (∃rs:Gs kG,A4 (C d∣.dK (gD rs)) (Rea C (ss\2) rs) (∀r∈rs,r.2.1≠d/\H3 r.2.1=hH) (rs\1=L.take i)))
   %[%[_,_|rfl],λ_ _ _ e=>e,[],s3 _ _ hd,%[X3,X3|λ_ h=>(nomatch h)],λ_ h=>(nomatch h)|rfl] (λi σ C h=>h.2 _ _ (λc=>by let:=s3 _ _ hd;rw[<-c,ak]at this;cases this) ak) ?_ ?_
  .intro i n σ C hn %[%[o4,o5|rfl],sm,rs,ac,g,rn|rk];let tk:L.take (i+1)=L.take i++[n]:=by rw[X9,hn];rfl
   change aV _ _ _ [!l,!m,!b,!d,-n,o5] C;show am λD4 k4 _=>?_
   lk;intro e fe;let B:e≠d:=λc=>by rw[c,ac]at fe;cases fe
   let an:n∉rs\1:=by
    rw[rk];intro c;let%[j|hj]:=Xf c;let jl:=(Xl hj).1;rw[Yk]at jl;rw[Yb ⋯]at hj;let:=f9 Ln hj hn
    lia
   let rl: ~~~rs<=63:=by
    let: ~~~(rs\1)<= ~~~L:=by rw[rk,Yk];lia
    rw[Z6]at this
    lia
   let e3:H3 e=hH:=by
    cases q:H3 e with
    | none=>rfl
    | some o=>rw[sm e o B q]at fe;cases fe
   show%[_,fA.k (k:=kj n) (ai.Qa fe _ _ ac) (by unfold gD;rw[Z6];show aC ⋯)|k4 _ _ ?_];rw[dC _ (jt an),show gD rs++[(kj n,V.ref e)]=gD (rs++[(n,e,[])]) by unfold gD;rw[Zd];rfl];let he:Qa (Qa C e (.dK [])) d (.dK (gD (rs++[(n,e,[])]))) e∣.dK (SD []):=by rw[aq B,aa];rfl
   let bt:Qa (Qa C e (.dK [])) d (.dK (gD (rs++[(n,e,[])]))) d=_:=aa;let o4:∀c o,c≠d->C c∣o->Qa (Qa C e (.dK [])) d (.dK (gD (rs++[(n,e,[])]))) c∣o:=λc o h q=>by rw[aq h,aq (aw q fe)];show q
   generalize Qa (Qa C e (.dK [])) d _=H4 at he bt o4
   let as:dM d H3 H4:=λc o h q=>o4 c o h (sm c o h q)
   show aA λD5 k5 _=>az λbb hK=>?_
   lk;show%[tyD (as _ _ bc bn.choose_spec.1),(show 0<=lX by simp)|λp hp=>?_];let%[be,a,bx,ca,ag|cd]:=bn.get as bc (λxs c=>by rw[s3 _ _ hd]at c;cases c) hp n;let sp:=ai.Qa (o:= .lst []) hp;let he:=sp _ _ he;let a0:=sp _ _ bt;let a1:=as.trans (dM.of sp);let a2:∀c o,c≠d->C c∣o->Qa H4 p (.lst []) c∣o:=λc o h q=>sp _ _ (o4 c o h q)
   let ae:a≠e:=by
    rcases cd with rfl|⟨o,ho⟩
    .show λc=>by rw[c]at hp;let:=he;rw[c,aa]at this;cases this
    .show λc=>by rw[c,e3]at ho;cases ho
   generalize Qa H4 p _=H5 at bx ag he a0 a1 a2 ⊢
   generalize b0:(ss.filter λt=>decide (t.2[0]?∣n))=ts at ag
   let tm: ~~~(ts\0)= ~~~ts:=Z6 _;let ce:∀t∈ts,t∈ss/\∃y z,t.2=[n,y,z]:=λt ht=>by
    rw[<-b0]at ht;let%[G|J]:=o0.mp ht;let%[x,y,z,e|_]:=(N t G).2;let J:=Zo J;rw[e]at J;show%[G,y,z|by rw[e,show x=n from Za J]]
   show%[kj n,ρ,be,bx|vV ca %[%[_|Qb.of ag]|hK _ _ ?_]];show bB (λj σ H6=>A3 (∃o5,σ=[!l,!m,!b,!d,-n,o5]) (dM e H5 H6) (∃M:ZB,A4 (H6 e∣.dK (SD M)) M.Nodup (∀y∈M,Rch (ss\2) n y) (∀t∈ts.take j,∀y,t.2[1]?∣y->y∈M/\∀z,Rch (ss\2) y z->z∈M)))
    %[%[_|rfl],λ_ _ _ q=>q,[],he,X3,λ_ h=>(nomatch h)|λ_ h=>(nomatch h)] (λj σ H6 h=>h.2 _ _ ae ag) ?_ ?_
   .intro j t σ H6 ht %[%[o5|rfl],v,M,hM,Mn,Mr|Md];let%[b1,y,z|et]:=ce t (Z8 ht);show am λD6 k6 _=>?_
    lk;let te:∀c zs,H3 c&&&zs->H6 c&&&zs:=λc zs q=>(λc o G J q=>v c o J (a1 c o G q)) c _ (λz=>by rw[z,s3 _ _ hd]at q;cases q) (λz=>by rw[z,e3]at q;cases q) q
    let t6:=te _ _ (al _ _ (N t b1).1);rw[et]at t6;let a3:=v d _ B.symm a0;let ah:bQ (gD (rs++[(n,e,([]:ZB))])) (kj n)∣.ref e:=by
     let%[r,ch,e1|hv]:=lF (rs:=rs++[(n,e,[])]) (y:=n) ∅;rcases Xm ch with q|q
     .show(an (e1▸Xp %[r,q|rfl])).elim
     .rw[Xn q]at hv;show hv
    let gn:=cc.k (k:=kj n) a3;rw[ah]at gn;let ed:Ed (ss\2) n y:=%[z|et▸Xp %[t,b1|rfl]]
    let yt:=b9 i n hn y ed;rw[<-rk]at yt;let%[M1,e1,n1|m1]:=FY (M:=M) (x:=y);let a4:∀U:ZB,U.Nodup->(∀x∈U,Rch (ss\2) n x)-> ~~~U<=63:=λU G J=>nI (_ST.nodup_sub G λx Y=>K9 (λt ht=>(N t ht).2) (J x Y)) nl
    let Ml:=a4 M Mn Mr;show%[_,gn,_,SqT.of t6,_,ρ,_,fA.k (k:=kj y) hM (by unfold SD VD;rw[Z6];show aC ⋯)|k6 _ _ (aA λD7 k7 _=>?_)];rw[e1];let b2:∀x∈M1,Rch (ss\2) n x:=λx Y=>((m1 x).mp Y).elim (Mr x) λq=>q▸ .one ed
    let a5:Qa H6 e (.dK (SD M1)) e∣.dK (SD M1):=aa;let u7:∀c o,c≠e->H6 c∣o->Qa H6 e (.dK (SD M1)) c∣o:=λc o h q=>(aq h)▸q
    generalize Qa H6 e _=H7 at a5 u7
    let b3:=cc.k (k:=kj n) (u7 _ _ B.symm a3);rw[ah]at b3;let%[ry,I,ey|gy]:=lF (rs:=rs++[(n,e,[])]) (y:=y) (Zd▸Yt _ yt);let I:ry∈rs:=by
     rcases Xm I with q|q
     .show q
     .rw[Xn q]at ey;show(nr n (.one (by rw[<-show n=y from ey]at ed;show ed))).elim
    let b4:=cc.k (k:=kj y) (u7 _ _ B.symm a3);rw[gy]at b4;let a6:ry.2.1≠e:=aw (g.at_ ry I).1 fe;lk;let%[M2,e2,n2|m2]:=yz (R:=ry.2.2) (M:=M1);let ab:=(g.at_ ry I).2;rw[ey]at ab;let cn:=a4 M1 (n1 Mn) b2;let Rl:=a4 ry.2.2 ab.1 λx Y=>(Rch.one ed).trans ((ab.2 x).mp Y)
    show%[_,b3,tyD (a5),_,SqT.of (u7 _ _ (λc=>by rw[c,hM]at t6;cases t6) t6),_,ρ,_,b4,ry.2.1,ρ,_,_,a6.symm,a5,(u7 _ _ a6 (v _ _ a6 (a2 _ _ (rn ry I).1 (g.at_ ry I).1))),by unfold SD VD;rw[Z6,Z6,PySem.sizeLine_eq];lia|?_];rw[e2];show k7 _ _ %[%[_|rfl],λc o h q=>(aq h)▸u7 c o h (v c o h q),M2,aa,n2 (n1 Mn),λx Y=>?_|λt' b5 x ex=>?_]
    .rcases(m2 x).mp Y with q|q
     .show b2 x q
     .show(Rch.one ed).trans ((ab.2 x).mp q)
    .rw[X9,ht]at b5;rcases Xm b5 with q|q
     .let%[G|J]:=Md t' q x ex;show%[(m2 x).mpr (.inl ((m1 x).mpr (.inl G)))|λz hz=>(m2 z).mpr (.inl ((m1 z).mpr (.inl (J z hz))))]
     .rw[show t'=t from Xn q,et]at ex;obtain rfl:y=x:=Za ex;show%[(m2 y).mpr (.inl ((m1 y).mpr (.inr rfl)))|λz hz=>(m2 z).mpr (.inr ((ab.2 z).mpr hz))]
   .intro σ H6 %[%[o5|rfl],v,M,hM,Mn,Mr|Md];rw[Zn (Zi _)]at Md;let all:∀y,y∈M↔Rch (ss\2) n y:=λy=>%[Mr y|λr=>by
     let%[x,%[z|hz]|q]:=CW r;let%[t,ht|et]:=Xo hz;let h:=Md t (b0▸o0.mpr %[ht|by rw[et];simp]) x (by rw[et];rfl);show q.elim (λq=>q▸h.1) λq=>h.2 y q]
    let b6:∀r∈rs,r.2.1≠e:=λr u=>aw (g.at_ r u).1 fe
    show k5 _ _ %[%[_,_|rfl],λc o h q=>v c o (aw q e3) (a1 c o h q),rs++[(n,e,M)],?_,%[?_,?_|λr u=>?_],λr u=>?_|by rw[Zd,rk,tk];rfl]
    .rw[v d _ B.symm a0];unfold gD;rw[Zd,Zd];rfl
    .rw[Zd,X1];show%[g.nd,by simp|λa ha b hb c=>an (by rw[<-show b=n from Xn hb,<-c];show ha)]
    .rw[Zd,X1];show%[g.ad,by simp|λa ha b hb c=>?_];let%[r,u|rfl]:=Xo ha;show b6 r u (c.trans (Xn hb))
    .rcases Xm u with q|q
     .show%[v _ _ (b6 r q) (a2 _ _ (rn r q).1 (g.at_ r q).1)|(g.at_ r q).2]
     .rw[Xn q];show%[hM,Mn|all]
    .rcases Xm u with q|q
     .show rn r q
     .rw[Xn q];show%[B|e3]
  .intro σ C %[%[o4,o5|rfl],sm,rs,ac,g,rn|rk];rw[Zn (Zi _)]at rk;show k3 _ _ ?_;lk;show kk d C rs (λc o e=>sm c o (aw e bf) (al _ _ e)) bf ac g (λr u=>%[(rn r u).1|al.free (rn r u).2]) λx=>rk▸%[Ls x|bm x]
structure ReF (H:Hp) (ks:gN ZB) (d:kw) (rs:Gs kG):Prop where
 at_:∃o,H d∣.frz o (.dK (gD rs))
 nd:(rs\1).Nodup
 in_:∀r∈rs,(∃o,H r.2.1∣.frz o (.dK (SD r.2.2)))/\r.2.2.Nodup/\∀y,y∈r.2.2↔Rch ks r.1 y
def ReF.up{H a:Hp}{ks:gN _}{d:kw}{rs:Gs kG}(h:ReF H ks d rs)(s:ai H a):ReF a ks d rs:=
 %[h.at_.imp λo e=>s _ _ e,h.nd|λr b=>%[(h.in_ r b).1.imp λo e=>s _ _ e|(h.in_ r b).2]]
def ReF.same{H:Hp}{ks a:gN _}{d:kw}{rs:Gs kG}(h:ReF H ks d rs)(e:∀k,k∈ks↔k∈a):ReF H a d rs:=%[h.at_,h.nd|(j9 e)▸h.in_]
inductive Bt
 | mk (l m:kw) (ns:ZB) (ss:ZH):vs=[.ref l,.ref m]->H l<*ns\3->ns.Nodup-> ~~~ns<=63->H m∣.lst (ss\0)->dR H ns ss-> ~~~ss<=250->(∀x,¬ Rch (ss\2) x x)->(∀d H' (rs:Gs kG),ai H H'->ReF H' (ss\2) d rs->(∀x,x∈rs\1↔x∈ns)->Q (.ref d) H')->Bt vs H Q E0
def sO(T:Txt K mg):↥4 "all_beneath" ↑"names found" Bt:=by
 show(rN T).freeze.imp λvs H Q E zqw=>?_;let%[l,m,f,ss,g,h,i,j,n,p,s,u|v]:=zqw;show %[l,m,f,ss,g,h,i,j,n,p,s,u|λd C rs y G z a A B=>%[d::rs.map _|λI=>v d _ rs (λc o e=>?_) %[%[_|pc Zm z],a.nd|λr b=>%[%[_|pc (Zk _ (Xp %[r,b|ρ])) (a.at_ r b).1]|(a.at_ r b).2]] B]]
 rw[qp]
 .show y c o e
 .intro q;rcases Yv.mp q with rfl|q
  .lia
  .let%[r,b|rfl]:=Xo q;rw[(A r b).2]at e;cases e
inductive Bu (mg:ZC)
 | mk (g:kw) (qs:ZO) (ls:ZB) (ts:ZH):vs=[.ref g]->iH mg H g qs ls ts->(∀lk,ck (bd qs) (ts\2) lk->∀x,¬ Rch lk x x)->(∀d H' (rs:Gs kG) lk ns,ai H H'->ck (bd qs) (ts\2) lk->rc (bd qs) ls ns->ReF H' lk d rs->(∀x,x∈rs\1↔x∈ns)->Q (.ref d) H')->Bu mg vs H Q E0
def rO(T:Txt K mg):↥7 "earlier_ones" ["ground"] (Bu mg):=by
 .exists T.aY,dW,p,c,%[g,qs,e,ts,rfl,a,nr|q];let%[c2,c3,r|u]:=a.gr;let N:=a.ll;show%[_,%["KCF1H]6A0BEIH]7AH~cA0BA1B",dW.nd|c]|am λO k1 _=>%[g,qs,e,ts,ρ,a,nr|λl U v ss n y z B lk=>k1 _ _ ?_]]
  lk;show%[g,c2,c3,r,qs,e,ts,ρ,u.up n,a.nd,a.so,⋯|λm Y i j fm C b=>?_];let nl: ~~~i<=63:=by
   let:=_ST.nodup_sub b.nd λx G=>((b.mem x).mp G).1
   lia
  show%[m,l,i,ss,ρ,C,b.nd,nl,j _ _ y,λt o=>%[j _ _ (z t o).1|a.names lk b _ (Xp %[t,o|ρ])],B,nr _ lk|λd I rs J L M=>q d I rs _ i (n.trans (j.trans J)) lk b L M]
structure mV (mg:ZC) (H:Hp) (g:kw) (qs:ZO) (ls:ZB) (ts:ZH) (lk:gN ZB):Prop where
 gr:iH mg H g qs ls ts
 li:ck (bd qs) (ts\2) lk
 nr:∀x,¬ Rch lk x x
def mV.up{mg:ZC}{H a:Hp}{g:kw}{qs:gN _}{b:ZB}{ts:gN _}{lk:gN _}(h:mV mg H g qs b ts lk)(s:ai H a):mV mg a g qs b ts lk:=%[h.gr.up s,h.li|h.nr]
def mV.all{mg:ZC}{H:Hp}{g:kw}{qs:ZO}{b:ZB}{ts:ZH}{lk:gN ZB}(h:mV mg H g qs b ts lk)(a:gN ZB)(h':ck (bd qs) (ts\2) a):∀x,¬ Rch a x x:=by
 rw[j9 (h'.mm h.li)];show h.nr
abbrev Up(lk:gN ZB)(a b:kG):Prop:=a=b\/Rch lk a b
abbrev MF(K:ZA)(b:TE):TT:=λc H Q=>b c H λx a=>∃k,BE K x a k/\Q k a
def MG{X:Cx}{K:ZA}{a:zr}{c:TE}(h:X.K=K)(d:∀b,Th a X.env b=(do let v<-b;Pm a.pos;PY [v] (U2 v)))(e:QE X a c):QT X a (MF K c):=truT h d e
noncomputable abbrev Yr:=kw×iv×kG×on
abbrev oB(H:Hp)(ys:gN Yr):Prop:=∀t∈ys,H t.1&&&[.int t.2.1,.str t.2.2.1,.int t.2.2.2]
def oB.up{H a:Hp}{ys:gN Yr}(h:oB H ys)(s:ai H a):oB a ys:=λt b=>s _ _ (h t b)
def La{M:ZB}{y:kG}:(bQ (SD M) (kj y)).isSome=hX↔y∈M:=by
 by_cases c:y∈M
 .unfold SD;rw[jv c];simp[c]
 .unfold SD;rw[jw c];simp[c]
inductive FZ
 | mk (d:kw) (x y:kG) (ks:gN ZB) (rs:Gs kG):vs=[.ref d,.str x,.str y]->ReF H ks d rs->x∈rs\1->(∀b:re,(b=hX↔Up ks x y)->Q (.bl b) H)->FZ vs H Q E0
abbrev upB(ks:gN ZB)(a b:kG):re:= @decide (Up ks a b) (SE _)
def pq{ks:gN _}{a b:kG}:upB ks a b=hX↔Up ks a b:= @N0 _ (SE _)
inductive wp (up:re)
 | mk (l d:kw) (x:kG) (ks:gN ZB) (rs:Gs kG) (ys:gN Yr):vs=[.ref l,.ref d,.str x]->H l∣.lst (ys\0)->oB H ys->ReF H ks d rs->x∈rs\1->(∀t∈ys,t.2.2.1∈rs\1)-> ~~~ys<=60->(∀r H' (us:gN Yr),ai H H'->H r=hH->H' r∣.lst (us\0)-> ~~~us<=60->(∀u,u∈us↔u∈ys/\if up then Up ks u.2.2.1 x else Up ks x u.2.2.1)->Q (.ref r) H')->wp up vs H Q E0
def kC{ys:gN Yr}{p:Yr->re}{j:iv}(a:j< ~~~ys):(ys.take (j+1)).filter p=(ys.take j).filter p++if p ys[j]=hX then [ys[j]]else []:=by
 rw[X9,Z4 a,Y2];rw[show(hV _).toList=[ys[j]]from rfl,Y3,Y7]
def yA{ys:gN Yr}{p:Yr->re}{j:iv}(h: ~~~ys<=60): ~~~(((ys.take j).filter p)\0)<=60:=by
 rw[Z6];show nI (Yh _ _) (nI (gN.length_take_le' ..) h)
def iA(T:Txt K mg):↥1 "is_one_or_later" ↑"reach upper lower" FZ:=by
 .exists T.bo,lz,j,e,%[d,x,y,ks,rs,rfl,g,l|i];show%[_,%["KEI~no~V12(]82X01",0|e]|?_];change iY _ _ [hV _,hV _,hV _] H;let%[r,a,m|n]:=lF l;let%[o|p]:=g.at_;let%[%[q|b],nd|mem]:=g.in_ r a;lk;by_cases c:x=y
  .rw[lp (Zf c)];show i hX %[λ_=> .inl c|λ_=>rfl]
  .rw[ku (by simp[c])];show%[_,.inl %[_,kj x,.inr %[o|p],ρ|n.symm],_,.inl %[_,kj y,.inr %[q|b],ρ|ρ]|i _ ?_];rw[La,mem,m];show%[.inr|λh=>h.resolve_left c]
def yB(T:Txt K mg):↥2 "bys_above" ↑"bys reach name" (wp hX):=by
 .exists T.bn,vY,B,C,%[l,d,x,ks,rs,ys,rfl,q,G,I,U,J,r|L];show%[_,%["KEIkd?1U0Z0?2z]GH]HAT1AS0]IAT2B0",0,↑(↑"said reach name",[(1,1),(2,2)]),↑["said","reach","name"]|C]|?_];change iY _ _ [!l,!d,-x] H;show aI λv M=>?_
  lk;show%[%[_|Qb.of q]|M _ _ λF m=>?_];show cg (λj vs n e=>A4 (∃y,n=[y,!d,-x]) (ai H e) (e F<*vs) (vs=(((ys.take j).filter λt=>upB ks t.2.2.1 x)\0)))
   %[%[hH|rfl],ai.Qa m,aa|rfl] (λ_ _ _ e o=>o.2 _ _ q) ?_ ?_
  .intro j vs n e i %[%[y|rfl],g,a|rfl];let z:=Yc i;let N:=g _ _ (G _ z);lk;show%[_,SqT.of N,_,ρ,d,_,x,ks,rs,ρ,I.up g,J _ z|λb O=>%[b,ρ|?_]];obtain rfl:b=upB ks _ x:=N1.mpr (O.trans pq.symm);show bv (λc=>CK.mk i a (by let:=yA (p:=λt=>upB ks t.2.2.1 x) (j:=j) r;show aC ⋯) %[%[_|rfl],ai.set g m,aa|?_]) λc=>CN.mk i %[%[_|rfl],g,a|?_]
   .rw[kC i,lp c,Zd];rfl
   .rw[kC i,ku c,Zx]
  .intro vs n e %[_,g,a|rfl];rw[Zn (Zi _)]at a;show L F e _ g m a (nI (Yh _ _) r) λu=>by rw[o0];show XX λ_=>pq
def nM(T:Txt K mg):↥2 "sinces_beneath" ↑"sinces reach name" (wp hY):=by
 .exists T.bm,mB,y,z,%[l,d,x,ks,rs,ys,rfl,o,B,C,G,O,q|I];show%[_,%["KEIkd?1U0Z0?2z]GH]HAT1AT2AS0]IB0",0,↑(↑"said reach name",[(1,1),(2,2)]),↑["said","reach","name"]|z]|?_];change iY _ _ [!l,!d,-x] H;show aI λr J=>?_
  lk;show%[%[_|Qb.of o]|J _ _ λF m=>?_];show cg (λj vs n g=>(∃v,n=[v,!d,-x])/\ai H g/\g F<*vs/\vs=(((ys.take j).filter λt=>upB ks x t.2.2.1)\0))
   %[%[hH|rfl],ai.Qa m,aa|rfl] (λ_ _ _ g %[_,e|_]=>e _ _ o) ?_ ?_
  .intro j vs n g i %[%[v|rfl],e,a|rfl];let L:=Yc i;let M:=e _ _ (B _ L);unfold MF;lk;show%[_,SqT.of M,_,ρ,d,x,_,ks,rs,ρ,C.up e,G|λb N=>%[b,ρ|?_]];obtain rfl:b=upB ks x ys[j].2.2.1:=N1.mpr (N.trans pq.symm);show bv (λc=>CK.mk i a (by let:=yA (p:=λt=>upB ks x t.2.2.1) (j:=j) q;show aC (by omega)) %[%[_|rfl],ai.set e m,aa|?_]) λc=>CN.mk i %[%[_|rfl],e,a|?_]
   .rw[kC i,lp c,Zd];rfl
   .rw[kC i,ku c,Zx]
  .intro vs n g %[_,e,a|rfl];rw[Zn (Zi _)]at a;show I F g _ e m a (nI (Yh _ _) q) λu=>by rw[o0];show XX λ_=>pq
abbrev YS(qs:ZO)(b:kG)(n:iv)(d:kG)(y:on):Prop:=∃q a,qs[n]?∣q/\q.2=[.str b,.str a,.int y]/\cJ (bd qs) a d
inductive yC (mg:ZC)
 | mk (g:kw) (wd:kG) (qs:ZO) (ls:ZB) (ts:ZH):vs=[.ref g,.str wd]->iH mg H g qs ls ts->(wd="since"\/wd="by")-> ~~~qs<=60->(∀l H' (ys:gN Yr),ai H H'->H l=hH->H' l∣.lst (ys\0)->oB H' ys->(∀n d y,(n,d,y)∈ys\2↔YS qs wd n d y)-> ~~~ys<=60->ys.Pairwise (λa b=>a.2.1<b.2.1)->Q (.ref l) H')->yC mg vs H Q E0
def mW(T:Txt K mg):↥4 "years_said" ↑"ground word" (yC mg):=by
 .exists T.bj,iE,ah,N,%[g,C,qs,ls,ts,rfl,hg,hw,ql|kk];let%[c2,c3,c4|gr]:=hg.gr;let ll:=hg.ll;show%[_,%["KC;2tuH~zA0BCF3=~a0EIkd?1~JA3BlLZ0?2LZ1?2ezM)S1DT3cA0AXT2S1DAS1DB",iE.nd,↑(↑"number saying names word",[(2,2),(3,1)]),↑["number","saying","names","word"]|N]|?_]
  change aV _ _ _ [!g,-C,hH,hH] H;show am λD1 k1 _=>?_
  lk;show%[g,c2,c3,c4,qs,ls,ts,ρ,gr,hg.nd,hg.so,⋯|λd H1 r s1 fd hd N=>k1 _ _ (am λD2 k2 _=>?_)];let G:=gr.up s1;lk;show nH G (.inr (.inl rfl)) %[g,c2,c3,c4,qs,ls,ts,rfl,G|λl1 ab=>k2 _ _ ?_];let U:=ai.Qa (o:= .lst (qs\0)) ab;let l:=own U;let sa:=(G.up U).sa;let hd:=U _ _ hd;let I:=s1.trans U
  generalize Qa H1 l1 _=H2 at U l hd I sa
  show aI λag hK=>?_
  lk;show%[_,Qb.of l|hK _ _ λF hF=>?_];show dS (J:=Ite K l1 (qs\0)) (n:= ~~~qs) (D:=F) (λj vs Y m=>A4 (E2 λo1 o2=>Y=[o1,o2,!d,-C]) (ai H2 m) (m F<*vs) (∃ys:gN Yr,A5 (vs=ys\0) (oB m ys) (~~~ys<=j) (ys.Pairwise λa b=>a.2.1<b.2.1) (∀n d y,(n,d,y)∈ys\2↔n<j/\YS qs C n d y)))
   %[%[hH,hH|rfl],ai.Qa hF,aa,[],rfl,(λ_ h=>nomatch h),Zi _,.nil|by simp] (λj ys Y m B L=>%[Qb.of (L.2 _ _ l)|by rwa[Z6]]) (λys Y m L=>%[Qb.of (L.2 _ _ l)|by rw[Z6];show Zi _]) ?_ ?_
  .intro j vs Y m B %[%[o1,o2|rfl],v,i,ys,rfl,M,yl,yo|ym] _ _ %[x,t0,hx,ac,rfl|rfl];rw[Zl,Z4 B]at hx;obtain rfl:V.ref qs[j].1=x:=Za hx;let sT:=ai.Qa (o:= .tup [.int j,.ref qs[j].1]) ac;let g0:=own sT;let i:=sT _ _ i;let M:=M.up sT;let v:=v.trans sT
   generalize Qa m t0 _=H3 at sT g0 i M v
   let%[tu|ok]:=(sa.up v) _ (Yc B);show%[_,SqT.of g0,ρ,_,_,ρ,_,_,ρ,ρ|?_];change wx _ [hV (.int j),hV (.ref qs[j].1),!d,-C] _ _;lk;let ex:∃O v1 v2,qs[j].2=[.str O,v1,v2]/\(O=C->∃a y,v1=V.str a/\v2=V.int y/\a∈ls):=by
    rcases ok with⟨O,a,b,e,ae,_⟩|⟨O,a,y,e,_,ha,_⟩
    .show%[_,_,_,e|λc=>?_];subst c;rcases hw with rfl|rfl<;> rcases ae with h|h<;> show n0 h (!1)
    .show%[_,_,_,e|λ_=>%[a,y,ρ,ρ|ha]]
   let%[O,v1,v2,e|he]:=ex;rw[e]at tu;show%[_,SqT.of tu,_,ρ,ρ|bv (λc=>?_) λc=>?_]
   .obtain rfl:O=C:=V.str.inj (Zo c);let%[a,y,rfl,rfl|ha]:=he rfl;let get:=cc.k (k:=kj a) (v _ _ hd);rw[jq ha]at get;show%[_,SqT.of tu,_,ρ,_,get,_,SqT.of tu,_,ρ,#[3]|λp hp=>?_];let sp:=ai.Qa (o:= .tup [.int j,.str (r a),.int y]) hp;let gp:=own sp
    generalize Qa H3 p _=H4 at sp gp ⊢
    show CK.mk B (sp _ _ i) (by rw[Z6];show aC ⋯) %[%[_,_|rfl],ai.set (v.trans sp) hF,aa,ys++[(p,j,r a,y)],by rw[Zd];rfl,λt ht=>?_,by rw[Z9];show X8 yl,gN.pairwise_append.mpr %[yo,TN ..|λt ht u hu=>by rw[Xn hu];show((ym t.2.1 t.2.2.1 t.2.2.2).mp (Xp %[t,ht|rfl])).1]|λn d' y'=>?_]
    .show ph (sp _ _ i) _ _ ?_;rcases Xm ht with q|q
     .show sp _ _ (M t q)
     .rw[Xn q];show gp
    .rw[Zd,Ys,ym];change _\/(n,d',y')∈[(j,r a,y)]↔_;rw[Yy]
     constructor
     .rintro(⟨h1,z⟩|h)
      .show%[⋯|z]
      .cases h;show%[Yn _,_,a,Z4 B,e|(N a ha).2]
     .rintro⟨h1,z⟩;rcases QH.mp h1 with h|rfl
      .show .inl %[h|z]
      .let%[q,a',e1,e2|l2]:=z;rw[Z4 B]at e1;cases e1;rw[e]at e2;cases e2;rw[(N a ha).2.one l2];show .inr rfl
   .show CN.mk B %[%[_,_|rfl],v,i,ys,rfl,M,⋯,yo|λn d' y'=>?_];rw[ym]
    constructor
    .rintro⟨h1,z⟩;show%[⋯|z]
    .rintro⟨h1,z⟩;show%[?_|z];rcases QH.mp h1 with h|rfl
     .show h
     .let%[q,a',e1,e2|_]:=z;rw[Z4 B]at e1;cases e1;rw[e]at e2;cases e2;show n0 (Zf rfl) c
  .intro vs Y m %[_,v,i,ys,rfl,M,yl,yo|ym];show kk F m ys (I.trans v) (I.free hF) i M (λn d y=>(ym n d y).trans %[λh=>h.2|λh=>%[by let%[q,_,e|_]:=h;show(Xl e).1|h]]) ⋯ yo
def YS.in_{mg:ZC}{H:Hp}{g:kw}{qs:gN _}{c f:ZB}{ts:gN _}{i d:kG}{n:iv}{y:on}(b:iH mg H g qs c ts)(j:rc (bd qs) c f)(h:YS qs i n d y):d∈f:=by
 let%[q,a,m,r|l]:=h;let%[c2,c3,s|b]:=b.gr;let o:a∈c:=by
  rcases(b.sa q (Z8 m)).2 with⟨p,x,z,e,_⟩|⟨p,x,z,e,_,u,_⟩
  .lia
  grind
 show(j.mem d).mpr %[l.1.within (iy b.sa) o|jx l l.1]
abbrev Lo(qs:ZO)(lk:gN ZB)(x:kG)(m:on):Prop:=(m= -9999\/∃n d,YS qs "since" n d m/\Up lk x d)/\∀n d y,YS qs "since" n d y->Up lk x d->y<=m
abbrev Hi(qs:ZO)(lk:gN ZB)(x:kG)(m:on):Prop:=(m=9999\/∃n d,YS qs "by" n d m/\Up lk d x)/\∀n d y,YS qs "by" n d y->Up lk d x->m<=y
def F0{ys us:gN Yr}{qs:ZO}{g:kG}{R:kG->Prop}(i:∀n d y,(n,d,y)∈ys\2↔YS qs g n d y)(h:∀u,u∈us↔u∈ys/\R u.2.2.1)(m:on):m∈us.map (·.2.2.2)↔∃n a,YS qs g n a m/\R a:=by
 rw[Yw]
 constructor
 .rintro⟨t,b,rfl⟩;let%[c|f]:=(h t).mp b;show%[_,_,(i _ _ _).mp (Xp %[t,c|ρ])|f]
 .rintro⟨n,a,c,f⟩;let%[t,b|e]:=Xo ((i _ _ _).mpr c);show%[t,(h t).mpr %[b|e▸f]|by rw[e]]
abbrev lG(H:Hp)(qs:ZO)(lk:gN ZB)(bs:Gs on):Prop:=∀b∈bs,∃lo hi,b.2.2=[lo,hi]/\H b.2.1&&&[.int lo,.int hi]/\Lo qs lk b.1 lo/\Hi qs lk b.1 hi
def lG.up{H a:Hp}{qs:gN _}{lk:gN _}{bs:Gs on}(h:lG H qs lk bs)(s:∀b z,H b&&&z->a b&&&z):lG a qs lk bs:=λb c=>by
 let%[lo,hi,e,d|f]:=h b c;show%[lo,hi,e,s _ _ d|f]
def MJ{a:Type}{rs:Gs a}{y:kG}(h:y∈rs\1):∃r∈rs,r.1=y/\bQ (gD rs) (kj y)∣.ref r.2.1:=by
 let%[r,b|rfl]:=Xo h;cases e:bQ (gD rs) _ with
 | none=>show n0 e (iG b)
 | some v=>
   let%[g,c,d|rfl]:=eV e;show%[g,c,d|ρ]
inductive uQ (mg:ZC)
 | mk (g:kw) (qs:ZO) (ls:ZB) (ts:ZH) (lk:gN ZB):vs=[.ref g]->mV mg H g qs ls ts lk-> ~~~qs<=60->(∀d H' ns (bs:Gs on),ai H H'->H d=hH->H' d∣.dK (gD bs)->lG H' qs lk bs->(bs\1).Nodup->rc (bd qs) ls ns->(∀x,x∈bs\1↔x∈ns)->Q (.ref d) H')->uQ mg vs H Q E0
def F1(T:Txt K mg):↥8 "bounds" ["ground"] (uQ mg):=by
 .exists T.bi,dq,b2,M,%[g,qs,ls,ts,lk,rfl,ak,ql|kk];let N:=ak.gr;let%[c2,c3,c4|gr]:=N.gr;let ll:=N.ll;show%[_,%["KCF1H]9A0BCF2H]JA0AVBCF3H]JA0AVBCF4xCRUH~cA0BJ5CF6`Akd?1UH`BA2A1A5BZ0?2%S0]K~|CF7`Ckd?1UH`DA3A1A5BZ0?2%S0]K~}ErcA6A7B45EI4",dq.nd,↑(["said"],[]),↑["said"]|M]|?_]
  change aV _ _ _ [!g,hH,hH,hH,hH,hH,hH,hH] H;show am λD1 k1 _=>?_
  lk;show%[g,qs,ls,ts,ρ,N,ak.all|λd H1 rs b3 ns s1 a2 hn O rn=>k1 _ _ (am λD2 k2 _=>?_)];let O:=O.same (a2.mm ak.li);lk;show%[g,_,qs,ls,ts,ρ,N.up s1,.inl rfl,ql|λl1 H2 ys s2 b4 U ya ym yl _=>k2 _ _ (am λD3 k3 _=>?_)];let ag:=s1.trans s2;lk;show%[g,_,qs,ls,ts,ρ,N.up ag,.inr rfl,ql|λl2 H3 zs s3 b5 Y za zm zl _=>k3 _ _ (am λD4 k4 _=>?_)];let ah:=ag.trans s3;lk;intro e fe;show k4 _ _ (am λD5 k5 _=>az λb1 hK=>?_);let s4:=ai.Qa (o:= .dK []) fe;let ge:=own s4;let O:=(O.up (s2.trans s3)).up s4;let U:=(s3.trans s4) _ _ U;let ya:=ya.up (s3.trans s4);let Y:=s4 _ _ Y;let za:=za.up s4;let ab:=ah.trans s4;let fe:=ah.free fe
  generalize Qa H3 e _=H4 at s4 ge O U ya Y za ab
  lk;show%[g,c2,c3,c4,qs,ls,ts,ρ,gr.up ab,N.nd,N.so,by omega|λm H5 ac s5 fm hm v=>?_];show%[%[_|Qb.of hm]|hK _ _ ?_];let ge:=s5 _ _ ge;let a3:m≠e:=λc=>by rw[c,ge]at hm;cases hm
  let fX:∀{u:Hp},dM e H5 u->∀{c o},H4 c∣o->(∀xs,o≠ .dK xs)->u c∣o:=λ{u} l {c o} h q=>l c o (λz=>by rw[z]at h;let:=s5 _ _ h;rw[ge]at this;show q _ (Za this).symm) (s5 _ _ h)
  show bB (us:=ac) (f:=V.str) (λi G u=>(∃o5 o6 o7,G=[!g,!d,!l1,!l2,!e,o5,o6,o7])/\dM e H5 u/\∃bs:Gs on,u e∣.dK (gD bs)/\lG u qs lk bs/\bs\1=ac.take i)
   %[%[_,_,_|rfl],(λ_ _ _ h=>h),[],ge,(λ_ h=>nomatch h)|rfl] (λi G u %[_,l|_]=>l _ _ a3 hm) ?_ ?_
  .intro i x G u hx %[%[o5,o6,o7|rfl],l,bs,he,ba|be];change aV _ _ _ [!g,!d,!l1,!l2,!e,-x,o6,o7] u;show am λD6 k6 _=>?_
   lk;unfold tXD rXD;show aI λa4 a5=>?_
   lk;let rx:x∈rs\1:=(rn x).mpr ((hn.mem x).mpr ((v.mem x).mp (Z8 hx)));let al:ReF u lk d rs:=%[O.at_.imp λo h=>fX l h (λ_=>nofun),O.nd|λr M=>%[(O.in_ r M).1.imp λo h=>fX l h (λ_=>nofun)|(O.in_ r M).2]]
   show%[l1,d,x,lk,rs,ys,ρ,fX l U (λ_=>nofun),(λt I=>fX l (ya t I) (λ_=>nofun)),al,rx,(λt I=>(rn _).mpr (((ym _ _ _).mp (Xp %[t,I|ρ])).in_ N hn)),yl|λr H6 us s6 fr an ul uh=>%[%[_|Qb.of an]|a5 _ _ λF hF=>?_]];let a6:oB H6 us:=λt I=>s6 _ _ (fX l (ya t ((uh t).mp I).1) (λ_=>nofun))
   let um:∀m,_↔∃n B,YS qs "since" n B m/\Up lk x B:=F0 ym uh;show cg (λj vs G H7=>(∃o1,G=[o1])/\ai H6 H7/\H7 F<*vs/\vs=((us.take j).map λt=>V.int t.2.2.2)) %[%[hH|rfl],ai.Qa hF,aa|rfl] (λ_ _ _ H7 %[_,J|_]=>J _ _ an) ?_ ?_
   .intro j vs G H7 L %[%[o1|rfl],J,a|rfl];let tu:=J _ _ (a6 _ (Yc L));lk;show%[_,SqT.of tu,_,ρ|CK.mk L a (by rw[Z6,Yk];show aC (by omega)) %[%[_|ρ],ai.set J hF,aa|by rw[X9,Z4 L,Zd];rfl]]
   .intro vs G H7 %[_,J,a|rfl];rw[Zn (Zi _)]at a;let C:=s6.trans J;show%[us.map (·.2.2.2),Qb.of (by rw[Yq];show a)|λlo bb=>k6 _ _ (am λD7 k7 _=>?_)];lk;unfold tXD rXD;show aI λbc bf=>?_
    lk;show%[l2,d,x,lk,rs,zs,ρ,C _ _ (fX l Y (λ_=>nofun)),(λt I=>C _ _ (fX l (za t I) (λ_=>nofun))),al.up C,rx,(λt I=>(rn _).mpr (((zm _ _ _).mp (Xp %[t,I|ρ])).in_ N hn)),zl|λr2 H8 ae s8 b6 as vl vh=>%[%[_|Qb.of as]|bf _ _ λF2 a0=>?_]];let bm:oB H8 ae:=λt I=>s8 _ _ (C _ _ (fX l (za t ((vh t).mp I).1) (λ_=>nofun)))
    let vm:∀m,_↔∃n B,YS qs "by" n B m/\Up lk B x:=F0 zm vh;show cg (λj vs G H9=>(∃o1,G=[o1])/\ai H8 H9/\H9 F2<*vs/\vs=((ae.take j).map λt=>V.int t.2.2.2)) %[%[hH|rfl],ai.Qa a0,aa|rfl] (λ_ _ _ H9 %[_,J|_]=>J _ _ as) ?_ ?_
    .intro j vs G H9 L %[%[o1|rfl],J,a|rfl];let tu:=J _ _ (bm _ (Yc L));lk;show%[_,SqT.of tu,_,ρ|CK.mk L a (by rw[Z6,Yk];show aC (by omega)) %[%[_|ρ],ai.set J a0,aa|by rw[X9,Z4 L,Zd];rfl]]
    .intro vs G H9 %[_,bn,a|rfl];rw[Zn (Zi _)]at a;let a1:=s8.trans bn;show%[ae.map (·.2.2.2),Qb.of (by rw[Yq];show a)|λhi bt=>k7 _ _ (aA λD8 k8 _=>?_)];lk;let L1:Lo qs lk x lo:=by
      rcases bb with⟨h0,rfl⟩|⟨h1,h2⟩
      .show%[.inl rfl|λn B y hy hu=>by let:=(um y).mpr %[n,B,hy|hu];rw[h0]at this;cases this]
      .show%[.inr ((um lo).mp h1)|λn B y hy hu=>on.not_lt.mp (h2 y ((um y).mpr %[n,B,hy|hu]))]
     let L2:Hi qs lk x hi:=by
      rcases bt with⟨h0,rfl⟩|⟨h1,h2⟩
      .show%[.inl rfl|λn B y hy hu=>by let:=(vm y).mpr %[n,B,hy|hu];rw[h0]at this;cases this]
      .show%[.inr ((vm hi).mp h1)|λn B y hy hu=>on.not_lt.mp (h2 y ((vm y).mpr %[n,B,hy|hu]))]
     show%[#[2]|λp hp=>?_];let sp:=ai.Qa (o:= .tup [.int lo,.int hi]) hp;let gp:=own sp;let sA:=(C.trans a1).trans sp;let bx:p≠e:=λc=>by let:=(C.trans a1) _ _ he;rw[<-c,hp]at this;cases this
     generalize Qa H9 p _=b0 at sp gp sA
     let xn:x∉bs\1:=λc=>by
      rw[be]at c;let%[j|L]:=Xf c;let jl:=(Xl L).1;rw[Yk]at jl;rw[Yb (by omega)]at L;let:=f9 v.nd L hx;omega
     let bl:=rM MV be;rw[Z6,Yk]at bl;let nl:=_ST.nodup_sub v.nd λx hx=>((v.mem x).mp hx).1
     let keep:∀b z,u b&&&z->Qa b0 e (.dK (gD (bs++[(x,p,[lo,hi])]))) b&&&z:=λb z h=>by
      rw[aq (λc=>by rw[c,he]at h;cases h)];show sA _ _ h
     show%[_,fA.k (k:=kj x) (sA _ _ he) (by unfold gD;rw[Z6];show aC (by omega))|?_];rw[dC _ (jt xn)];rw[show gD bs++[(kj x,V.ref p)]=gD (bs++[(x,p,[lo,hi])]) by unfold gD;rw[Zd];rfl];show k8 _ _ %[%[_,_,_|rfl],(λb o h q=>by rw[aq h];show sA _ _ (l b o h q)),_,aa,λb hb=>?_|?_]
     .rcases Xm hb with q|q
      .show(ba.up keep) b q
      .rw[Xn q];show%[lo,hi,ρ,by rw[aq bx];show gp,L1|L2]
     .rw[Zd,be,X9,hx];rfl
  .intro G u %[%[o5,o6,o7|rfl],l,bs,he,ba|be];rw[Zn (Zi _)]at be;show k5 _ _ ?_;lk;show kk e u ac bs (λb o h=>l b o (aw h fe) ((ab.trans s5) _ _ h)) fe he ba (by rw[be];show v.nd) v (λx=>by rw[be])
def cW(T:Txt K mg):vD P w K mg base 8 "earlier_ones" ["ground"] (jy mg):=by
 let gZ:=gZ (P:=P) (w:=w) (base:=base) T;show T.aY.calX dW (λH vs Q E h=>?_)
 .let%[g,qs,a,ts,lk,us,rfl,d,e,i|j]:=h;show%[ρ|λf b A outer s c=>?_];show%[_,QSs.h (aj (aG 1 dW.nd rfl (AA (oV λ_ _ _ h=>h) gZ c rfl rfl rfl rfl #[↑0])) pd)|?_];show%[g,qs,a,ts,lk,[],ρ,d,e,i|j]
def eS(T:Txt K mg):vD P w K mg base 9 "clashing_pairs" ["ground"] (jy mg):=by
 let cW:=cW (P:=P) (w:=w) (base:=base) T;show T.bp.calX iq (λH vs Q E h=>?_)
 .let%[g,qs,a,ts,lk,us,rfl,d,e,i|j]:=h;show%[ρ|λf b A outer s c=>?_];show%[_,QSs.h (aj (aG 1 iq.nd rfl (AA (oV λ_ _ _ h=>h) cW c rfl rfl rfl rfl #[↑0])) pd)|?_];show%[g,qs,a,ts,lk,[],ρ,d,e,i|j]
def Ih(T:Txt K mg):vD P w K mg base 10 "clash" ["ground"] (jy mg):=by
 let eS:=eS (P:=P) (w:=w) (base:=base) T;show T.bq.calX xK (λH vs Q E h=>?_)
 .let%[g,qs,a,ts,lk,us,rfl,d,e,i|j]:=h;show%[ρ|λf b A outer s c=>?_];show%[_,QSs.h (aj (aG 1 xK.nd rfl (AA (oV λ_ _ _ h=>h) eS c rfl rfl rfl rfl #[↑0])) pd)|?_];show%[g,qs,a,ts,lk,[],ρ,d,e,i|j]
def F3(T:Txt K mg):vD P w K mg base 10 "bounds" ["ground"] (jy mg):=by
 let cW:=cW (P:=P) (w:=w) (base:=base) T;show T.bi.calX dq (λH vs Q E h=>?_)
 .let%[g,qs,a,ts,lk,us,rfl,d,e,i|j]:=h;show%[ρ|λf b A outer s c=>?_];show%[_,QSs.h (aj (aG 1 dq.nd rfl (AA (oV λ_ _ _ h=>h) cW c rfl rfl rfl rfl #[↑0])) pd)|?_];show%[g,qs,a,ts,lk,[],ρ,d,e,i|j]
inductive uR (mg:ZC)
 | mk (a m b dx l:kw) (lk:gN ZB) (ws ss:ZH) (x:kG) (rs:Gs kG):vs=[.ref a,.ref m,.ref b]->H a∣ExH a (aK mg "Torn") (hV dx)->we H lk dx l ws x->H m∣.lst (ss\0)->aJ H ss->(∀k,k∈lk↔k∈ss\2)->BeF H (ss\2) b rs-> ~~~rs<=1000->x∈rs\1->(∀H',ai H H'->Q (.bl hX) H')->uR mg vs H Q E0
def sP(T:Txt K mg):↥2 "_law_is_torn" ↑"~refused ~laid ~beneath_here" (uR mg):=by
 .exists T.bO,j6,a0,hr,%[a,m,b,dx,l,lk,ws,ss,x,rs,rfl,hA,d,hm,hs,le,be,rl,hx|kk];let B:∀H2,ai H H2->TyX K H2 (.ref a) (.ref (aK mg "Torn")):=λH2 s2=> .ex %[_,s2 _ _ hA|.inr %[dx,_,rfl|s2 _ _ d.ad]] T.x_Torn.is
  show%[_,%["KCOfqma~g~'A0A?1Bqma~g`EA0A?2BwmavyA~(0A?3BEIjPCOfqa~g~'A0AcA?4A?5A?6BBwa~g~'A0AcA?7A?8A?9BBEIjPCF3~(0COfqM`F3QBwmaH`GA3A1ASN3DDASN3DDBEIjPEIopghA3B|]LAkd?:~fT2Z0?;z~N0XT10XXT100B",j6.nd,(si (mg:=mg) rfl rfl T.c_Torn rfl),(blE (v:= .ty "ValueError") rfl T.am PyProof.Rows.Boot.«ValueError» rfl rfl rfl),(blE (v:= .ty "list") rfl T.a5 Rc rfl rfl rfl),(si (mg:=mg) rfl rfl T.c_NoCut rfl),(si (mg:=mg) rfl rfl T.c_NoGround rfl),(si (mg:=mg) rfl rfl T.c_NoSaying rfl),(si (mg:=mg) rfl rfl T.c_NoDeed rfl),(si (mg:=mg) rfl rfl T.c_NoRow rfl),(si (mg:=mg) rfl rfl T.c_NoLayer rfl),↑(↑"~deposit ~beneath_here",[(1,2)]),↑["_law_deposit","_law_beneath_here"]|hr]|?_]
  change aV _ _ _ [!a,!m,!b,hH] H;show am λD1 k1 r1=>?_
  lk;show%[_,B _ (ai.refl _),hX,.inl T.k_Torn_Torn|m7 %[_,B _ (ai.refl _),hX,T.k_Torn_ValueError|m7 %[a,dx,_,.ref l,ρ,hA,d.ad,ρ,_,.lst d.al,hX,ρ|m7 (k1 _ _ (am λD2 k2 r2=>?_))]]];lk;show%[#[3]|λp hp=>?_];let sp:=ai.Qa (o:= .tup [V.ref (aK mg "NoCut"),V.ref (aK mg "NoGround"),V.ref (aK mg "NoSaying")]) hp;show%[_,B _ sp,hY,.inr %[_,aa|T.k_Torn_any0]|?_]
  generalize Qa H p _=H1 at sp
  show m7 %[#[3]|λp2 ah=>?_];let G:=sp.trans (ai.Qa (o:= .tup [V.ref (aK mg "NoDeed"),V.ref (aK mg "NoRow"),V.ref (aK mg "NoLayer")]) ah);show%[_,B _ G,hY,.inr %[_,aa|T.k_Torn_any1]|?_]
  generalize Qa H1 p2 _=H2 at G
  show m7 (k2 _ _ (am λD3 k3 r3=>?_));lk;show%[a,dx,_,.ref l,ρ,G _ _ hA,G _ _ d.ad,ρ|k3 _ _ (am λD4 k4 r4=>?_)];lk;show%[Xe _|λp3 ak=>?_];let U:=G.trans (ai.Qa (o:= .lst []) ak);show%[_,U _ _ d.al,aa|?_]
  generalize Qa H2 p3 _=H3 at U
  obtain⟨C,wr,rfl⟩:∃C wr,ws=C::wr:=match ws,d.sho.pos with|C::wr,_=>%[C,wr|rfl]
  rw[ku ∅];let l3:=U _ _ d.al;let ab:=d.sho.wal;let t0:SqT K H3 C.1 (C.2\3):=SqT.of (U _ _ (d.tu C Zm).2);let e0:atI (C.2\3) 0∣.str x:=by
   let%[c,z,ew|_]:=ab;rw[show C.2=[x,c,z]from ew];rfl
  let i0:atI ((C::wr)\0) 0∣.ref C.1:=cj (j:=0) rfl;show%[_,Qb.of l3,_,i0,_,t0,_,e0,_,Qb.of l3,_,i0,_,t0,_,e0,l,m,x,x,C::wr,ss,ρ,l3,aE d.tu (λb z e=>U _ _ e),U _ _ hm,aE hs (λb z e=>U _ _ e),(λt ht=>(le _).mp (d.sho.sub _ (Xp %[t,ht|ρ]))),ab,d.len|λH4 s4=>(k4 _ _ ?_)];let s4:=U.trans s4;lk;let ac:=be.up s4;let%[o|ho]:=ac.at_;show%[_,.inl %[_,Qb.of (s4 _ _ d.al)|ρ]|aI λas hK=>?_];unfold ui;lk;show%[_,_,ho|hK _ _ λF hF=>?_];let gl: ~~~(gD rs)= ~~~rs:=Z6 _;show dS (J:=Itk b o (gD rs)) (n:= ~~~(gD rs)) (D:=F) (λi ts σ H'=>A4 (∃o1,σ=[o1,!b]) (ai H4 H') (H' F<*ts) (∃L:ZM,A4 (ts=L\4) (~~~L<=i) (∀n∈L,∃y k,n=((k+1:iv):on)/\Dst (ss\2) y (k+1) y) (∀r∈rs.take i,Rch (ss\2) r.1 r.1->∃n∈L,∀m,Dst (ss\2) r.1 (m+1) r.1->n<=((m+1:iv):on))))
   %[%[hH|rfl],ai.Qa hF,aa,[],rfl,Zi _,(λ_ h=>nomatch h)|λ_ h=>nomatch h] (λi _ _ H' hi %[_,N,_|_]=>%[N _ _ ho|hi]) (λ_ _ H' %[_,N,_|_]=>%[N _ _ ho|Zi _]) ?_ ?_
  .intro i ts σ H' hi %[%[o1|rfl],N,O,L,rfl,nl,n1|n2] x H2 %[e2,k,v,hk|hx];subst e2;let il:i< ~~~rs:=by lia
   obtain⟨r,I⟩:∃r,rs[i]?∣r:=%[_|Z4 il]
   let al:(gD rs)[i]?∣(kj r.1,V.ref r.2.1):=by unfold gD;rw[Zl,I];rfl
   rw[al]at hk;cases hk;obtain rfl:x=V.str r.1:=hx;let%[a,M,ga,%[g,ha|an],_|hM]:=(ac.up N).get (Xp %[r,Z8 I|rfl]);let tk:rs.take (i+1)=rs.take i++[r]:=by rw[X9,I];rfl
   let Y:=cc.k (k:=kj r.1) ha;lk;show%[_,ga,_,Y|bv (λc=>?_) λc=>CN.mk hi %[%[_|ρ],N,O,L,ρ,⋯,n1|λq hq h=>?_]]
   .let ae:=ke.mp c;let%[n,en,d1|d2]:=an _ ae;rw[jv ae]at Y;show%[_,ga,_,Y|CK.mk hi O (by rw[Z6];show aC ⋯) %[%[_|ρ],ai.set N hF,aa,L++[g r.1],by rw[Zd];rfl,by rw[Z9];show X8 nl,λz hz=>?_|λq hq h=>?_]]
    .rcases Xm hz with u|u
     .show n1 z u
     .rw[Xn u];show%[_,n,en|d1]
    .rw[tk]at hq;rcases Xm hq with u|u
     .let%[z,hz|q2]:=n2 q u h;show%[z,Yt _ hz|q2]
     .rw[Xn u];show%[_,Yu _ Zm|λm hm=>by rw[en];let:=d2 m hm;lia]
   .rw[tk]at hq;rcases Xm hq with u|u
    .show n2 q u h
    .rw[Xn u]at h;show(c (ke.mpr ((hM _).mpr h))).elim
  .intro ts σ H' %[_,N,O,L,rfl,nl,n1|n2];rw[gl,Xc]at n2;let%[k,ek|Y]:=d.sho.dst;rw[j8 le]at Y;let%[r,I|rfl]:=Xo hx;let%[n,hn|ag]:=n2 r I Y.rch;let nk:=ag _ Y;rw[Z6]at ek;show%[L,Qb.of O,OY hn|λq hq qm=>?_];let%[y,k2,rfl|d2]:=n1 q hq;let a1:=qm n hn;let a2:=d.min y k2 (by rw[j8 le];show d2);rw[Zf (by rw[Z6];lia)];show kk _ (s4.trans N)
def Ii{e:ZB}{vs:ZN}(h:kU e vs):∃w a v,vs=[.str w,.str a,v]/\a∈e/\(w="since"\/w="by"->∃y,v= .int y):=by
 rcases h with⟨w,a,b,rfl,hw,d,_⟩|⟨w,a,y,rfl,_,d,_⟩
 .show%[w,a,_,ρ,d|λc=>?_];rcases hw with rfl|rfl<;> rcases c with c|c<;> show n0 c (!1)
 .show%[w,a,_,ρ,d|λ_=>%[y|ρ]]
inductive F4
 | mk (a d b:kw) (qs:ZO) (ls ms:ZB) (gm:kG->kG) (lk:gN ZB) (rs:Gs kG):vs=[.ref a,.ref d,.ref b]->H a∣.lst (qs\0)->ci H ls qs-> ~~~qs<=60->H d∣.dK (NmD ms gm)->(∀z∈ls,z∈ms)->(∀z∈ms,cJ (bd qs) z (gm z))->BeF H lk b rs-> ~~~rs<=63->(∀z∈ms,gm z∈rs\1)->(∀e H' (bs:Gs on),ai H H'->H e=hH->H' e∣.dK (gD bs)->lG H' qs lk bs->bs\1=rs\1->Q (.ref e) H')->F4 vs H Q E0
abbrev Hd(qs:ZO)(up:kG->Prop)(b:kG)(z:on)(i:iv)(a:ZM):Prop:= ~~~a<=i+1/\∀y,y∈a↔y=z\/∃n d,n<i/\YS qs b n d y/\up d
def Hd.skip{qs:gN _}{up:kG->Prop}{a:kG}{z:on}{i:iv}{b:ZM}(h:Hd qs up a z i b)(n:∀d y,YS qs a i d y-> ¬ up d):Hd qs up a z (i+1) b:=
 %[Vx h.1|λy=>(h.2 y).trans (Ra OF %[λ%[k,d,l|r]=>%[k,d,Ym l|r]|λ%[k,d,l|r]=>%[k,d,Vh (iv.le_of_lt_succ l) (λe=>n d y (e▸r.1) r.2)|r]])]
def Hd.add{qs:gN _}{up:kG->Prop}{b d:kG}{z y:on}{i:iv}{f:ZM}(h:Hd qs up b z i f)(ys:YS qs b i d y)(u:up d):Hd qs up b z (i+1) (f++[y]):=by
 show%[Z9▸X8 h.1|λx=>?_];rw[Ys,h.2,Yy]
 constructor
 .rintro((e|⟨k,e,l,r⟩)|rfl)
  .show .inl e
  .show .inr %[k,e,Ym l|r]
  .show .inr %[i,d,Yn i,ys|u]
 .rintro(e|⟨k,e,l,r,v⟩)
  .show .inl (.inl e)
  .by_cases c:k=i
   .let%[q,a,g,j|_]:=ys;let%[m,n,o,p|_]:=r
    grind
   .show .inl (.inr %[k,e,⋯,r|v])
def CY(T:Txt K mg):↥1 "_law_due" ↑"~sayings ~homes_here ~beneath_here" F4:=by
 .exists T.bP,dY,b1,hr,%[a,d,b,qs,ls,ms,gm,lk,rs,rfl,ha,sa,ql,hd,lm,lg,be,rl,rk|kk];let ga:∀{B:Hp},ai H B->∀z∈ls,cc B d (.str z) (hV (.str (gm z))):=λ{B} N z hz=>by
   let:=cc.k (k:=kj z) (N _ _ hd);rwa[jq (lm z hz)]at this
  let%[o|ho]:=be.at_;show%[_,%["KCF3xCR~f2J4CF5QA~ZDBCF6QADBCRU0J7CF8X1S7DCOf,M)S7DV.fqM)84w~N8X24EYni5AS7DBPEOf,M)S7DV.fqM)84w~N4X28EYni6AS7DBPErcA~6`HA5BA|]LA6BB34EI3",dY.nd|hr]|?_]
  change aV _ _ _ [!a,!d,!b,hH,hH,hH,hH,hH,hH] H;show am λD1 k1 r1=>?_
  lk;intro e fe;show k1 _ _ (am λD2 k2 _=>az λa2 hK=>?_);let s1:=ai.Qa (o:= .dK []) fe;let a3:Qa H e (.dK []) e∣.dK (gD ([]:Gs on)):=aa
  generalize Qa H e _=H1 at s1 a3
  unfold ui;lk;let kl: ~~~(gD rs)= ~~~rs:=Z6 _;show%[_,_,s1 _ _ ho|hK _ _ (xE (λi O B=>A3 (E5 λo4 o5 o6 o7 U=>O=[!a,!d,!b,!e,o4,o5,o6,o7,U]) (ai H B) (∃bs:Gs on,A3 (B e∣.dK (gD bs)) (lG B qs lk bs) (bs\1=(rs\1).take i)))
   %[%[_,_,_,_,_|ρ],s1,[],a3,(λ_ h=>nomatch h)|ρ] (λi O B _ %[_,N|_]=>N _ _ ho) ?_ ?_)]
  .intro i k v O B hk %[%[o4,o5,o6,o7,U|rfl],N,bs,Y,ba|bn];let il:i< ~~~rs:=by let:=(Xl hk).1;lia
   obtain⟨r,ab⟩:∃r,rs[i]?∣r:=%[_|Z4 il]
   let a5:(gD rs)[i]?∣(kj r.1,V.ref r.2.1):=by unfold gD;rw[Zl,ab];rfl
   rw[a5]at hk;cases hk;change aV _ _ _ [!a,!d,!b,!e,hV (.str r.1),o5,o6,o7,U] B;show am λD3 k3 _=>?_
   lk;show%[#[1]|λF hF=>k3 _ _ (am λD4 k4 _=>?_)];lk;show%[#[1]|λG hG=>k4 _ _ (am λD5 k5 _=>az λa2 hK=>?_)];lk;let ak:=(ai.Qa (o:= .lst [V.int (-9999)]) hF).trans (ai.Qa (o:= .lst [V.int 9999]) hG);let an:F≠G:=λz=>by rw[<-z,aa]at hG;cases hG
   let gF:Qa (Qa B F (.lst [V.int (-9999)])) G (.lst [V.int 9999]) F<*([-9999]:ZM)\4:=by rw[aq an,aa];rfl
   let gG:Qa (Qa B F (.lst [V.int (-9999)])) G (.lst [V.int 9999]) G<*([9999]:ZM)\4:=aa;let fG:=(N.trans (ai.Qa (o:= .lst [V.int (-9999)]) hF)).free hG;let fF:=N.free hF;let s3:=N.trans ak;let nF:∀{c:kw} {o:HO},B c∣o->c≠F/\c≠G:=λ{c o} h=>%[aw h hF|aw (ai.Qa (o:= .lst [V.int (-9999)]) hF _ _ h) hG]
   generalize Qa (Qa B F (.lst [V.int (-9999)])) G _=H3 at ak gF gG s3
   let rm:r.1∈rs\1:=Xp %[r,Z8 ab|rfl];show%[%[_|Qb.of (s3 _ _ ha)]|hK _ _ (bB (us:=qs) (f:=λq=>V.ref q.1) (λj O I=>A4 (E2 λo7 U=>O=[!a,!d,!b,!e,hV (.str r.1),!F,!G,o7,U]) (∀b o,b≠F->b≠G->H3 b∣o->I b∣o) (∃J:ZM,I F<*J\4/\Hd qs (Up lk r.1) "since" (-9999) j J) (∃J:ZM,I G<*J\4/\Hd qs (λd=>Up lk d r.1) "by" 9999 j J))
    %[%[_,_|ρ],(λ_ _ _ _ h=>h),%[_,gF,Zi _|λy=>%[λh=> .inl (Xn h)|λh=>h.elim (λh=>Yy.mpr h) λ%[_,_,h|_]=>nomatch h]],_,gG,Zi _|λy=>%[λh=> .inl (Xn h)|λh=>h.elim (λh=>Yy.mpr h) λ%[_,_,h|_]=>nomatch h]] (λj O I %[_,kp,_|_]=>kp _ _ (aw ha fF) (aw ha fG) (s3 _ _ ha)) ?_ ?_)]
   .intro j q O I hq %[%[o7,U|rfl],kp,%[J,m|ah],cs,a0|ch];let s2:ai H I:=λb o h=>kp b o (aw h fF) (aw h fG) (s3 _ _ h)
    let%[C|oq]:=sa q (Z8 hq);let%[w,x,v,eq,hx|hy]:=Ii oq;let C:=s2 _ _ C;rw[eq]at C;change aV _ _ _ [!a,!d,!b,!e,hV (.str r.1),!F,!G,hV (.ref q.1),U] I;show am λD6 k6 _=>?_
    lk;show%[_,SqT.of C,_,ρ,_,ga s2 x hx|k6 _ _ (am λD7 k7 _=>?_)];let ac:∀{wd d y},YS qs wd j d y->w=wd/\d=gm x/\v= .int y:=λh=>by
     let%[q',a',e1,e2|l]:=h;rw[hq]at e1;cases e1;rw[eq]at e2;cases e2;show%[ρ,l.one (lg x (lm x hx))|ρ]
    let jl:=(Xl hq).1;let a1:∀(H5:Hp) (ae:ZM),(∀b o,b≠F->I b∣o->H5 b∣o)->H5 F<*ae\4->Hd qs (Up lk r.1) "since" (-9999) (j+1) ae->D7.nx [!a,!d,!b,!e,hV (.str r.1),!F,!G,hV (.ref q.1),hV (.str (gm x))] H5:=λH5 ae k5 h5 a6=>by
     show k7 _ _ (aA λD8 k8 _=>?_);let s5:ai H H5:=λb o h=>k5 b o (aw h fF) (s2 _ _ h)
     let C:=k5 _ _ (λz=>by rw[z,m]at C;cases C) C;let L:=k5 _ _ (J0 an) a0;let fin:∀(H6:Hp) (ag:ZM),(∀b o,b≠G->H5 b∣o->H6 b∣o)->H6 G<*ag\4->Hd qs (λd=>Up lk d r.1) "by" 9999 (j+1) ag->D8.nx [!a,!d,!b,!e,hV (.str r.1),!F,!G,hV (.ref q.1),hV (.str (gm x))] H6:=λH6 ag k6 h6 bb=>
      k8 _ _ %[%[_,_|rfl],λb o n1 n2 h=>k6 b o n2 (k5 b o n1 (kp b o n1 n2 h)),%[ae,k6 _ _ an h5|a6],ag,h6|bb]
     lk;let%[l,M,gb,%[g,hb|bc],_|hM]:=(be.up s5).get (rk x (lm x hx));show%[_,SqT.of C,_,ρ,ρ|bv (λc1=>?_) λc1=>fin _ cs (λ_ _ _ h=>h) L (ch.skip λd y h _=>c1 (Zf (rM V.str (ac h).1)))];obtain rfl:=V.str.inj (Zo c1);let%[y|rfl]:=hy (.inr rfl);let add:Up lk (gm x) r.1->D8.nx _ (Qa H5 G (.lst (cs\4++[.int y]))):=λu=>
      fin _ (cs++[y]) (λb o n h=>by rw[aq n];show h) (by rw[aa,Zd];rfl) (ch.add %[q,x,hq,eq|lg x (lm x hx)] u)
     let al: ~~~(cs\4)<lX:=by rw[Z6];let:=ch.1;show aC ⋯
     show bv (λc2=>%[tyL (Qb.of L),_,SqT.of C,_,rfl,_,L,al|add (.inl (Zo c2))]) λc2=>%[_,gb,_,cc.k (k:=kj r.1) hb|bv (λc3=>%[tyL (Qb.of L),_,SqT.of C,_,rfl,_,L,al|add (.inr ((hM _).mp (ke.mp c3)))]) λc3=>fin _ cs (λ_ _ _ h=>h) L (ch.skip λd y h u=>?_)]
     let%[_,rfl|_]:=ac h;rcases u with u|u
     .show c2 (Zf u)
     .show c3 (ke.mpr ((hM _).mpr u))
    lk;let%[l,M,gb,%[g,hb|bc],_|hM]:=(be.up s2).get rm;show%[_,SqT.of C,_,ρ,ρ|bv (λc1=>?_) λc1=>a1 _ J (λ_ _ _ h=>h) m (ah.skip λd y h _=>c1 (Zf (rM V.str (ac h).1)))];obtain rfl:=V.str.inj (Zo c1);let%[y|rfl]:=hy (.inl rfl);let add:Up lk r.1 (gm x)->D7.nx _ (Qa I F (.lst (J\4++[.int y]))):=λu=>
     a1 _ (J++[y]) (λb o n h=>by rw[aq n];show h) (by rw[aa,Zd];rfl) (ah.add %[q,x,hq,eq|lg x (lm x hx)] u)
    let al: ~~~(J\4)<lX:=by rw[Z6];let:=ah.1;show aC ⋯
    show bv (λc2=>%[tyL (Qb.of m),_,SqT.of C,_,rfl,_,m,al|add (.inl (Zo c2).symm)]) λc2=>%[_,gb,_,cc.k (k:=kj (gm x)) hb|bv (λc3=>%[tyL (Qb.of m),_,SqT.of C,_,rfl,_,m,al|add (.inr ((hM _).mp (ke.mp c3)))]) λc3=>a1 _ J (λ_ _ _ h=>h) m (ah.skip λd y h u=>?_)]
    let%[_,rfl|_]:=ac h;rcases u with u|u
    .show c2 (Zf u.symm)
    .show c3 (ke.mpr ((hM _).mpr u))
   .intro O I %[%[o7,U|rfl],kp,%[J,m|ah],cs,a0|ch];show k5 _ _ (aA λD6 k6 _=>?_);lk;show%[J,Qb.of m,OY ((ah.2 _).mpr (.inl rfl))|λlo bf bm=>%[cs,Qb.of a0,OY ((ch.2 _).mpr (.inl rfl))|λhi bt bx=>%[#[2]|λp hp=>?_]]];let L1:Lo qs lk r.1 lo:=%[((ah.2 lo).mp bf).imp id λ%[n,d,_,h|u]=>%[n,d,h|u]|λn d y h u=>bm y ((ah.2 y).mpr (.inr %[n,d,(Xl (h.choose_spec.choose_spec.1)).1,h|u]))]
    let L2:Hi qs lk r.1 hi:=%[((ch.2 hi).mp bt).imp id λ%[n,d,_,h|u]=>%[n,d,h|u]|λn d y h u=>bx y ((ch.2 y).mpr (.inr %[n,d,(Xl (h.choose_spec.choose_spec.1)).1,h|u]))]
    let k2:∀{b:kw} {o:HO},B b∣o->I b∣o:=λ{b o} h=>kp b o (nF h).1 (nF h).2 (ak _ _ h)
    let s2:ai H I:=λb o h=>kp b o (aw h fF) (aw h fG) (s3 _ _ h)
    let sp:=ai.Qa (o:= .tup [.int lo,.int hi]) hp;let gp:=own sp
    generalize Qa I p _=H4 at sp gp
    let a4:=sp _ _ (k2 Y);let b0:p≠e:=λc=>by rw[c,a4]at gp;cases gp
    let xn:r.1∉bs\1:=λc=>by
     rw[bn]at c;let%[j|hj]:=Xf c;let jl:=(Xl hj).1;rw[Yk]at jl;rw[Yb ⋯]at hj;let:=f9 be.nd hj (show(rs\1)[i]?∣r.1 by rw[Zl,ab];rfl)
     lia
    let bl:=rM MV bn;rw[Z6,Yk,Z6]at bl;let keep:∀b z,B b&&&z->Qa H4 e (.dK (gD (bs++[(r.1,p,[lo,hi])]))) b&&&z:=λb z h=>by
     rw[aq (λc=>by rw[c,Y]at h;cases h)];show sp _ _ (k2 h)
    show%[_,fA.k (k:=kj r.1) a4 (by unfold gD;rw[Z6];show aC ⋯)|?_];rw[dC _ (jt xn)];change D6.nx _ (Qa H4 e (.dK (gD bs++[(kj r.1,V.ref p)])));rw[show gD bs++[(kj r.1,V.ref p)]=gD (bs++[(r.1,p,[lo,hi])]) by unfold gD;rw[Zd];rfl];show k6 _ _ %[%[_,_,_,_,_|rfl],ai.set (s2.trans sp) fe,_,aa,λb hb=>?_|?_]
    .rcases Xm hb with q|q
     .show(ba.up keep) b q
     .rw[Xn q];show%[lo,hi,ρ,by rw[aq b0];show gp,L1|L2]
    .rw[Zd,bn,X9,Zl,ab];rfl
  .intro O B %[%[o4,o5,o6,o7,U|rfl],N,bs,Y,ba|bn];rw[kl,Zn (by rw[Z6];show Zi _)]at bn;show k2 _ _ ?_;lk;show kk e B bs N fe Y ba bn
abbrev Aa(mg:ZC):Sp:=λvs H Q _=>∃(g m b:kw) (qs:ZO) (c:ZB) (ts ss:ZH) (rs:Gs kG),vs=[.ref g,.ref m,.ref b]/\iH mg H g qs c ts/\ck (bd qs) (ts\2) (ss\2)/\(∃x,Rch (ss\2) x x)/\H m∣.lst (ss\0)/\aJ H ss/\BeF H (ss\2) b rs/\ ~~~rs<=1000/\(∀x,Rch (ss\2) x x->x∈rs\1)/\
 ∀a,ai H a->Q (.bl hX) a
def rP(T:Txt K mg):↥11 "_law_all_torn" ↑"~ground_here ~laid ~beneath_here" (Aa mg):=by
 let XL:=F3 (P:=P) (w:=w) (base:=base) T;let XD:=Ih (P:=P) (w:=w) (base:=base) T;show T.bS.cal dh (λH vs Q E h=>?_)
 .let%[g,m,b,qs,ls,ts,ss,rs,rfl,hg,O,hx,hm,hs,be,rl,U|kk]:=h;show%[ρ|λf ac A outer s hr=>?_];show%[_,%["KCRUQA?1A?2A?1BJ3CF4>C?3COmaH`IA4A1A2BEIjPEY`J`K~(4EIj",dh.nd,(si (mg:=mg) rfl rfl T.bi.at_ rfl),(si (mg:=mg) rfl rfl T.bq.at_ rfl),(tryE (i:=5) rfl rfl dh.nd rfl rfl rfl rfl T.c_DigError T.t_DigError rfl (λ_ _=>
    (ar (bo rfl (Mf Cv hr rfl rfl ↑3 #[↑0]))))
    (λ_=>(ar (aG 4 dh.nd rfl ↑5))))|hr]|?_]
  change aV _ _ _ [!g,!m,!b,hH,hH,hH] H;show am λD1 k1 r1=>az λab hK=>?_
  lk;show%[#[3]|λp hp=>?_];let Y:∀v∈[V.ref (aK mg "bounds"),V.ref (aK mg "clash"),V.ref (aK mg "bounds")],∃y,v= .ref (aK mg y)/\vD P w K mg base 10 y ["ground"] (jy mg):=by
   intro v q;rcases Yv.mp q with rfl|q
   .show%[_,ρ|XL]
   rcases Yv.mp q with rfl|q
   .show%[_,ρ|XD]
   rw[Xn q];show%[_,ρ|XL]
  let sp:=ai.Qa (o:= .lst [V.ref (aK mg "bounds"),V.ref (aK mg "clash"),V.ref (aK mg "bounds")]) hp;let gp:=own sp
  generalize Qa H p _=H1 at sp gp
  show%[%[_|Qb.of gp]|hK _ _ (eW (λi M r=>(∃o3 o4,M=[!g,!m,!b,o3,o4,hH])/\ai H1 r) %[%[_,_|ρ]|ai.refl _] (λi M r _ %[_|u]=>Qb.of (u _ _ gp)) ?_ ?_)]
  .intro i v M r q %[%[o3,o4|rfl]|u];let%[y,rfl|hy]:=Y v (Z8 q);let s1:=sp.trans u;show am λD2 k2 r2=>?_
   lk;show k2 _ _ (am λD3 k3 r3=>?_);obtain⟨XE,I⟩:∃XE:_LL.St->XK,XE=λJ c d G=>J=[!g,!m,!b,hV (.ref (aK mg y)),hV .non,hH]/\c= .ref (aK mg "Torn")/\∃j l ws x,d∣j/\ai r G/\r j=hH/\r l=hH/\j≠l/\we G (ss\2) j l ws x:=%[_|rfl]
   show%[XE,?_|?_]
   .lk;show%[10,y,["ground"],_,hy,ρ,ρ|?_];show%[g,qs,ls,ts,ss\2,[],ρ,hg.up s1,O,hx|λd l G ws x s' hd hl dl n=>by rw[I];show%[ρ,ρ,d,l,ws,x,ρ,s',hd,hl,dl|n]]
   .intro J c d G h;rw[I]at h;let%[rfl,rfl,j,l,ws,x,rfl,s2,ae,fl,ag|n]:=h;show%[_,ρ,T.u_Torn|λa _ ha=>?_];let hA:Qa G a (ExH a (aK mg "Torn") (hV j)) a∣_:=aa;let L:=ai.Qa (o:=ExH a (aK mg "Torn") (hV j)) ha;let B:=s2.trans L
    generalize Qa G a _=H3 at hA L B
    show aA λD4 k4 r4=>?_
    lk;show k4 _ _ (k3 _ _ ?_);show am λD5 k5 r5=>?_
    lk;let s3:=s1.trans B;let C:we H3 (ss\2) j l ws x:=%[L _ _ n.ad,L _ _ n.al,aE n.tu (λb z e=>L _ _ e),n.sho,n.min|n.len]
    show%[a,m,b,j,l,ss\2,ws,ss,x,rs,ρ,hA,C,s3 _ _ hm,aE hs (λb z e=>s3 _ _ e),(λk=>OF),be.up s3,rl,U x n.sho.rch|λH4 N=>(k5 _ _ (aA λD6 k6 r6=>?_))];lk;let l4:=N _ _ C.al;show%[a,j,_,.ref l,ρ,N _ _ hA,N _ _ C.ad,ρ,tyL (Qb.of l4),%[_|l4]|k6 _ _ %[%[_,_|ρ]|ai.set (u.trans (B.trans N)) (u.free fl)]]
  .intro M r %[%[o3,o4|rfl]|u];show k1 _ _ ?_;lk;show kk _ (sp.trans u)
inductive yD (mg:ZC)
 | mk (g:kw) (qs:ZO) (ls:ZB) (ts:ZH) (lk:gN ZB):vs=[.ref g]->mV mg H g qs ls ts lk-> ~~~qs<=60->(∀t d H' ns (bs:Gs on),ai H H'->H d=hH->H t=hH->H' t<*[.ref d,.non]->H' d∣.dK (gD bs)->lG H' qs lk bs->(bs\1).Nodup->rc (bd qs) ls ns->(∀x,x∈bs\1↔x∈ns)->Q (.ref t) H')->yD mg vs H Q E0
abbrev Lik(H:Hp)(bs cs:Gs on):Prop:=∀b∈bs,∃(c:kw) (lo hi:on),bQ (gD cs) (kj b.1)∣.ref c/\H b.2.1&&&[.int lo,.int hi]/\H c&&&[.int lo,.int hi]
def Lik.keep{H a:Hp}{bs cs:Gs on}(h:Lik H bs cs)(s:∀b z,H b&&&z->a b&&&z):Lik a bs cs:=λb d=>by
 let%[c,lo,hi,e,f|g]:=h b d;show%[c,lo,hi,e,s _ _ f|s _ _ g]
inductive yE
 | mk (d e:kw) (o:Ov) (bs cs:Gs on):vs=[.ref d,.ref e]->H d∣.frz o (.dK (gD bs))->H e∣.dK (gD cs)-> ~~~bs= ~~~cs->Lik H bs cs->(bs\1).Nodup->(∀H',ai H H'->Q (.bl hX) H')->yE vs H Q E0
def Ab{b:Type}{a:Gs b}(nd:(a\1).Nodup){g:kG×kw×gN b}(h:g∈a):bQ (gD a) (kj g.1)∣.ref g.2.1:=by
 let%[r,d,e|c]:=MJ (Xp %[g,h|rfl]);rw[Bg nd d h e]at c;show c
def rQ(T:Txt K mg):↥9 "_law_told" ↑"~ground_here" (yD mg):=by
 .exists T.bQ,iu,j,l,%[g,qs,a,ts,lk,rfl,m,n|p];show%[_,(QSs.h (aj (aG 1 iu.nd rfl rT)
   (aj (aG 2 iu.nd rfl rT)
   (aj (LX (λ_ _ h=>h) (ar (aG 1 iu.nd rfl (aL (F1 T) l rfl #[↑0]))))
   (ar (aM (bD #[↑1,↑2])))))))|am λG k1 _=>k1 _ _ (am λI k2 _=>k2 _ _ (am λJ q _=>%[g,qs,a,ts,lk,ρ,m,n|λd L r bs c u v y nd B C=>q _ _ %[#[2]|λt i=>?_]]))]
  let sp:=ai.Qa (o:= .lst [V.ref d,V.non]) i;show p t d _ r bs (c.trans sp) u (c.free i) aa (sp _ _ v) (y.up λb z e=>sp _ _ e) nd B C
def wq(T:Txt K mg):↥1 "_law_right" ↑"~told_here ~due_here" yE:=by
 .exists T.bR,jk,G,y,%[d,e,o,bs,cs,rfl,g,I,J,j,nd|L];show%[_,%["KCOfqmav`LA0A?1BwM]M01EIjPCR~f0J2CF3X02EOfqmavyA3A?2BqavyAS3DA?3BwavyAS3DA?3BEIjPEIj",jk.nd,(blE (v:= .ty "dict") rfl T.an boot_dict rfl rfl rfl),(blE (v:= .ty "tuple") rfl T.ag Uj rfl rfl rfl),(blE (v:= .ty "bool") rfl T.ai boot_bool rfl rfl rfl)|y]|?_]
  change aV _ _ _ [!d,!e,hH,hH] H;show am λD1 k1 _=>?_
  lk;show%[%[_|.inr %[o|g]],hX,ρ|m7 %[_,_,.inr %[o|g],.inl I,by unfold gD;rw[Z6,Z6,J],λp M=>?_|?_]]
  .let%[b,a|rfl]:=Xo M;let%[c,lo,hi,z,l|B]:=j b a;show%[_,c,_,ρ,z,l,B|ρ]
  lk;show k1 _ _ (am λD2 k2 r2=>az λC N=>?_);unfold ui;lk;show%[_,_,g|N _ _ (xE (λi n m=>(E2 λq r=>n=[!d,!e,q,r])/\m=H) %[%[_,_|ρ]|ρ] (λi n m _ h=>h.2▸g) ?_ ?_)]
  .intro i k v n m u %[%[q,r|rfl]|rfl];unfold gD at u;rw[Zl]at u;let%[b,a|e]:=MS.mp u;cases e;let a:=Z8 a;let%[c,lo,hi,z,l|B]:=j b a;let O:cc m d (.str b.1) _:= .inl %[_,kj b.1,.inr %[o|g],rfl|(Ab nd a).symm];show am λD3 U _=>?_
   lk;show%[_,O|U _ _ (aA λD4 Y _=>?_)];lk;show%[_,.tup l,hX,ρ|m7 %[_,SqT.of l,.int lo,ρ,_,.int _,hY,ρ|m7 %[_,SqT.of l,.int hi,ρ,_,.int _,hY,ρ|m7 (Y _ _ %[%[_,_|ρ]|ρ])]]]
  .intro n m %[%[q,r|rfl]|rfl];show k2 _ _ ?_;lk;show L _ (ai.refl _)
inductive ExT (mg:ZC) (H6 H:Hp) (g d e:kw):Prop
 | mk (qs:ZO) (ls:ZB) (ts:ZH) (lk:gN ZB) (ns:ZB) (bs:Gs on):mV mg H6 g qs ls ts lk-> ~~~qs<=60->lG H qs lk bs->(bs\1).Nodup->rc (bd qs) ls ns->(∀x,x∈bs\1↔x∈ns)->H d∣.dK (gD bs)->H e∣.dK (gD bs)->ExT mg H6 H g d e
structure Kpt (mg:ZC) (H6 H:Hp) (q:kw×kw×kw×kw):Prop where
 tu:H q.1&&&[.ref q.2.1,.ref q.2.2.1,.ref q.2.2.2]
 ne:q.2.1≠q.2.2.1
 f1:H6 q.2.1=hH
 f2:H6 q.2.2.1=hH
 ex:ExT mg H6 H q.2.2.2 q.2.1 q.2.2.1
def F5{H:Hp}{b:ZB}{qs:gN _}{c d:kG}{n:iv}{y:on}(f:ci H b qs)(h:YS qs c n d y): -9999<=y/\y<=9999:=by
 let%[q,a,g,i|_]:=h;let:=(f q (Z8 g)).2;rw[i]at this;rcases this with⟨j,x,z,e,_⟩|⟨j,x,z,e,_,_,l,m⟩
 .lia
 simp_all
def Lb{qs:gN _}{lk:gN _}{x:kG}{m k:on}(r:∀e n d y,YS qs e n d y-> -9999<=y/\y<=9999)(h:Lo qs lk x m)(g:Lo qs lk x k):m=k:=by
 rcases h.1 with rfl|⟨n,d,a,u⟩<;> rcases g.1 with rfl|⟨f,i,b,c⟩
 .rfl
 .let:=h.2 _ _ _ b c;let:=r _ _ _ _ b;lia
 .let:=g.2 _ _ _ a u;let:=r _ _ _ _ a;lia
 .let:=h.2 _ _ _ b c;let:=g.2 _ _ _ a u;lia
def Lc{qs:gN _}{lk:gN _}{x:kG}{m k:on}(r:∀e n d y,YS qs e n d y-> -9999<=y/\y<=9999)(h:Hi qs lk x m)(g:Hi qs lk x k):m=k:=by
 rcases h.1 with rfl|⟨n,d,a,u⟩<;> rcases g.1 with rfl|⟨f,i,b,c⟩
 .rfl
 .let:=h.2 _ _ _ b c;let:=r _ _ _ _ b;lia
 .let:=g.2 _ _ _ a u;let:=r _ _ _ _ a;lia
 .let:=h.2 _ _ _ b c;let:=g.2 _ _ _ a u;lia
def lG.same{H:Hp}{qs:gN _}{lk mk:gN _}{bs:Gs on}(h:lG H qs lk bs)(e:∀k,k∈lk↔k∈mk):lG H qs mk bs:=λb d=>by
 let%[lo,hi,f,g,a|c]:=h b d;show%[lo,hi,f,g,?_|?_]
 .unfold Lo Up at a ⊢;rwa[j9 e]at a
 .unfold Hi Up at c ⊢;rwa[j9 e]at c
def F6{H:Hp}{qs:ZO}{lk:gN ZB}{bs cs:Gs on}(r:∀i n d y,YS qs i n d y-> -9999<=y/\y<=9999)(j:lG H qs lk bs)(ca:lG H qs lk cs)(nd:(cs\1).Nodup)(sub:∀x∈bs\1,x∈cs\1):Lik H bs cs:=λb a=>by
 let%[c,f|e]:=Xo (sub b.1 (Xp %[b,a|rfl]));let%[lo,hi,_,l,m|o]:=j b a;let%[p,q,_,s,g|h]:=ca c f;rw[e]at g h;obtain rfl:=Lb r m g;obtain rfl:=Lc r o h;show%[c.2.1,lo,hi,by rw[<-e];show Ab nd f,l|s]
def F7{a:Type}(ks:gN a)(f:a->V):yX (ks.map f) hH (hV 1)=(ks.take 1).map f:=by
 unfold yX;rw[show(1:on)=((1:iv))from rfl,_HT.sIx_nat,_HT.sIx_none,UR,Us]
 simp_all
def nO{H e:Hp}{d:kw}{o:Ov}{a:gN _}(f:H d∣.dK a)(s:ai (Qa H d (.frz o (.dK a))) e):ai H (Qa e d (.dK a)):=λb u q=>by
 by_cases c:b=d
 .rw[c]at q ⊢;rw[aa,<-q,f]
 .rw[aq c];show s _ _ ((aq c)▸q)
def Bv{H:Hp}{qs:ZO}(j:iv)(u v:V)(a:(qs\0)[j]?∣u)(b:(qs\0)[j]?∣v):AI H u v:=by
 rw[a]at b;cases b;let%[q,_|rfl]:=Xo (Z8 a);show .inl %[rfl|rfl]
inductive MK (mg:ZC) (kp:kw) (H4 He:Hp) (cs:ZI) (v:V):Prop
 | mk (t gg ll:kw) (qq:ZO) (lls:ZB) (tts:ZH):v= .ref t->He t&&&[.ref gg,.ref ll]->ll≠kp->He ll∣.lst (qq\0)->oP H4 cs qq->iH mg H4 gg qq lls tts->lls.Perm (cs.flatMap lyr)->(∀k,k∈tts\2↔k∈cR cs\/k∈cS qq qq.length)->MK mg kp H4 He cs v
def Kpt.keep{mg:ZC}{i H j:Hp}{q:kw×kw×kw×kw}(h:Kpt mg i H q)(k:∀b o,(∀xs,o≠ .lst xs)->H b∣o->j b∣o):Kpt mg i j q:=by
 let%[a,c,d,f,g,bs,l,m,n,p,r,s,u|v]:=h.ex;show%[k _ _ (λ_=>nofun) h.tu,h.ne,h.f1,h.f2,a,c,d,f,g,bs,l,m,n.up λb z e=>k _ _ (λ_=>nofun) e,p,r,s,k _ _ (λ_=>nofun) u|k _ _ (λ_=>nofun) v]
def yF{L M:ZB}(a:L.Nodup)(b:M.Nodup)(e:∀x,x∈L↔x∈M): ~~~L= ~~~M:=Wd (_ST.nodup_sub a λx c=>(e x).mp c) (_ST.nodup_sub b λx c=>(e x).mpr c)
def Ld{f:kw}{fd:OP}(F:Fun K "law" "law" mG f fd)(T:Txt K mg):d9 P w K mg base CX0 13 f fd ↑"~script" (rK K):=by
 let B:=λT:Txt K mg=>(wq (P:=P) (w:=w) (base:=base) T).frozen
 show F.ok dN (by intro a b c d h;let%[_,_,rfl|_]:=h;rfl) (λfI A outer s H vs Q E G h=>?_)
 .let%[a,ns,rfl,hs,ho,hn|kk]:=h;show%[_,%["KC~dH`MA0B~eLJ1LJ2eCF3]N]OA/<A1BA/<A2BBCF4]N]OA/<A1BA~)2DBCF5QBCRUQAcA3A2BAcA4A~)2DBAcA3A2BBlLJ6LJ7eCF8H`NA1A7BCF9H`OA1A7A8BCF:H`PA9A8BEOaH`QAs:BEOmaH`RA6A9As:BEIjPC~dH]PA6B~eLJ;LJ<eCOfqM~bs<>wmaH]QAs;AH`SA7A8As:BBEIjPEYni5AcAs;A`T`UAs;BA6BBCOM^kd?2U5lLZ0?3LZ1?3LZ2?3ezM]M010QBEIjPCRU~p5~r~qDlLJ;LJ=LJ6eCY`V`Ws;EOmaH]QANH]PA6BDAs=BEIjPEI'o]R=~a32(o]R=~a4~)2D",dN.nd,B,↑(↑"~told_here ~as_told ~one",[]),↑["_law_told_here","_law_as_told","_law_one"]|G]|?_]
  change aV _ _ _ [!a,hH,hH,hH,hH,hH,hH,hH,hH,hH,hH,hH,hH,hH] H;show am λD1 k1 _=>?_
  lk;show%[a,ns,ρ,hs,⋯|λt l1 l2 H1 cs qs s1 ht h1 h2 J=>%[_,Qb.of ht,ρ,_,_,ρ,_,_,ρ,ρ|k1 _ _ (am λD2 k2 _=>?_)]];lk;show%[_,.inl (Qb.of h1)|λx1 cm=>%[_,.inl (Qb.of (ai.Qa cm _ _ h2))|λx2 co=>?_]];let N:=(ai.Qa (o:= .lst (bT cs)) cm).trans (ai.Qa (o:= .lst (qs\0)) co);let cp:=ai.Qa (o:= .lst (qs\0)) co _ _ (aa (H:=H1) (a:=x1) (o:= .lst (bT cs)));let ct:Qa (Qa H1 x1 (.lst (bT cs))) x2 (.lst (qs\0)) x2=_:=aa
  generalize Qa (Qa H1 x1 (.lst (bT cs))) x2 _=Hx at N cp ct
  show λg dx fg ej fL=>Br fg ej cp ct (J.up N).pair λC ls ts s2 gr pl tm=>k2 _ _ (am λD3 k3 _=>?_)
  let bt:=N.trans s2;let l:wo mg C g l1 l2 cs qs ls ts:=%[J.up bt,bt _ _ h1,bt _ _ h2,gr,pl|tm]
  lk;show%[_,.inl (Qb.of l.h1)|λx3 ek=>?_];let u1:=ai.Qa (o:= .lst (bT cs)) ek;let cv:=own u1
  generalize Qa C x3 _=el at u1 cv
  unfold Fq;lk;show%[_,(l.up u1).h2|λb fb il=>?_];simp only[rL,Z6]at il ⊢;let q2:∀q∈(evI qs.length).filterMap (qs[·]?),q∈qs:=λq hq=>FX hq
  generalize cw:(evI qs.length).filterMap (qs[·]?)=Y at il q2 ⊢
  let u2:=ai.Qa (o:= .lst (Y\0)) fb;let gb:=own u2
  generalize Qa el b _=H3 at u2 gb ⊢
  let cx:=u1.trans u2;let cy:=(l.up cx).gd.sub q2 il;show λg2 fN en cM _=>Br en cM (u2 _ _ cv) gb cy.pair λH4 eo ep u3 c0 eq er=>k3 _ _ (am λD5 k5 r5=>?_)
  let l:=(l.up cx).up u3;let es:=cy.up u3;lk;show%[Xe _|λkp ab=>k5 _ _ (am λD6 k6 r6=>az λc5 hK=>?_)];let v1:=ai.Qa (o:= .lst []) ab;let gk:=own v1
  generalize Qa H4 kp _=H5 at v1 gk
  lk;show%[#[2]|λp1 f1=>?_];let w1:=ai.Qa (o:= .tup [V.ref g,V.ref l2]) f1;let c6:=own w1
  generalize Qa H5 p1 _=Ha at w1 c6
  unfold Fq;lk;show%[_,(v1.trans w1) _ _ l.h2|λc fc et=>?_];simp only[rL,Z6,cw]at et ⊢;let w2:=ai.Qa (o:= .lst (Y\0)) fc;let gc:=own w2
  generalize Qa Ha c _=Hb at w2 gc ⊢
  show%[#[2]|λp2 f2=>?_];let w3:=ai.Qa (o:= .tup [V.ref g2,V.ref c]) f2;let da:=own w3
  generalize Qa Hb p2 _=Hc at w3 da
  show%[#[2]|λp3 f3=>?_];let w4:=ai.Qa (o:= .tup [V.ref g,V.ref l2]) f3;let db:=own w4
  generalize Qa Hc p3 _=Hd at w4 db
  show%[#[3]|λp4 f4=>?_];let w5:=ai.Qa (o:= .lst [V.ref p1,V.ref p2,V.ref p3]) f4;let ag:=own w5
  generalize Qa Hd p4 _=He at w5 ag
  let dd:=w4.trans w5;let de:=w3.trans dd;let dg:=w2.trans de;let dk:=w1.trans dg;let xk:=dk _ _ gk;let x4:=v1.trans dk;let eu:c≠kp:=λe=>by rw[e,w1 _ _ gk]at fc;cases fc
  let bx:∀v∈[V.ref p1,V.ref p2,V.ref p3],MK mg kp H4 He cs v:=by
   intro v O;rcases Yv.mp O with rfl|O
   .show%[_,_,_,_,_,_,ρ,dg _ _ c6,aw l.h2 ab,x4 _ _ l.h2,l.gd,l.gr,l.pl|l.tm]
   rcases Yv.mp O with rfl|O
   .show%[_,_,_,_,_,_,ρ,dd _ _ da,eu,de _ _ gc,es,c0,eq|er]
   rw[Xn O];show%[_,_,_,_,_,_,ρ,w5 _ _ db,aw l.h2 ab,x4 _ _ l.h2,l.gd,l.gr,l.pl|l.tm]
  let dn:=aw l.h1 ab;let dp:=x4 _ _ l.h1;let ev:p4≠kp:=λe=>by rw[e,xk]at ag;cases ag
  show%[%[_|Qb.of ag]|hK _ _ (eW (λi σ H'=>A3 (E7 λo6 o7 o8 o9 ac L I=>σ=[!a,!l1,!l2,!g,!g2,!kp,o6,o7,o8,o9,ac,L,I,hH]) (∀b o,b≠kp->He b∣o->H' b∣o) (∃ks:gN (kw×kw×kw×kw),A3 (H' kp∣.lst (ks\0)) (∀q∈ks,Kpt mg H4 H' q) (~~~ks<=i)))
   %[%[_,_,_,_,_,_,_|ρ],λ_ _ _ e=>e,[],xk,(λ_ h=>nomatch h)|Zi _] (λi σ H' _ %[_,M|_]=>Qb.of (M _ _ ev ag)) ?_ ?_)]
  .intro i v σ H' dr %[%[o6,o7,o8,o9,ac,L,I|rfl],N,ks,hk,a1|kl];let%[t0,gg,ll,qq,a2,ah,rfl,ew,b0,b1,J,gr,pl|tm]:=bx v (Z8 dr);let sH:∀b o,(∀xs,o≠ .lst xs)->He b∣o->H' b∣o:=λb o n e=>N b o (λz=>by rw[z,xk]at e;show n _ (Za e).symm) e
   show%[_,SqT.of (sH _ _ (λ_=>nofun) ew),ρ,_,_,ρ,_,_,ρ,ρ|?_];change aV _ _ _ [!a,!l1,!l2,!g,!g2,!kp,!gg,!ll,o8,o9,ac,L,I,hH] H';let s0:ai H4 H':=λb o e=>N b o (aw e ab) (x4 b o e)
   let J:=J.up s0;let ey:=gr.up s0;let fR:=J.ql;show am λD7 k7 _=>?_
   lk;show%[l1,ll,cs,qq,ρ,N _ _ dn dp,N _ _ b0 b1,J.ca,J.sa,J.c3,⋯|λd C ms gm s2 fd hd nd mem lg=>k7 _ _ (am λD8 k8 _=>?_)];let%[kc,fX|b3]:=yv J.ca J.few;let ml: ~~~ms<=63:=nI (_ST.nodup_sub nd λz hz=>(mem z).mp hz) J.ly;let b4:=J.up s2;lk;show%[l1,ll,d,cs,qq,ms,gm,kc++cS qq qq.length,ρ,s2 _ _ (N _ _ dn dp),s2 _ _ (N _ _ b0 b1),b4.ca,b4.sa,J.c3,⋯,hd,mem,lg,?_,λk=>by rw[Ys,b3]|λr H3 ss s3 fr ds tu lk tk sl=>k8 _ _ (am λD9 k9 _=>?_)]
   .let:=OH (λj=>qq[j]?.bind λq=>iF j q.2) (p0 qq.length);rw[Yi]at this;let:=J.c3;rw[Z9];unfold cS
    lia
   let la:=ro tu tk;lk;show%[r,d,ms,ms,ss,gm,ρ,ds,la,sl,s3 _ _ hd,ml|λbb Hx rs s4 be rk=>k9 _ _ (aA λez a3 f0=>?_)];let rl: ~~~rs<=63:=by
    let:=_ST.nodup_sub be.nd (m:=ms.map gm) λx hx=>Xp ((rk x).mp hx)
    rw[Z6,Z6]at this
    lia
   lk;show%[bb,_,rs,ρ,be,⋯|λH6 v s6 vI=>?_];let al:=s2.trans (s3.trans (s4.trans s6));let ends:∀x y,Ed (ss\2) x y->x∈rs\1/\y∈rs\1:=λx y %[z|hz]=>by
    let%[a,b,z',a',b',hm,ha,hb|e]:=(lk.mem _).mp hz;cases e;let%[u,v,w,e,hu|O]:=Bp J.ca J.sa (n:= ~~~qq) (by rw[Ys,b3]at hm;show hm);cases e;let hu:=(mem a).mpr hu;let O:=(mem b).mpr O;show%[(rk _).mpr %[a,hu|(lg a hu).2.one ha]|(rk _).mpr %[b,O|(lg b O).2.one hb]]
   let b5:ck (bd qq) (ah\2) (ss\2):=%[lk.nd|λk=>by simp only[tm,<-b3,<-Ys];show lk.mem k]
   let dt:∀x,Rch (ss\2) x x->x∈rs\1:=λx r=>by
    cases r with
    | one e=>show(ends _ _ e).2
    | more _ e=>show(ends _ _ e).2
   let dy:=ey.up al;let eH:=(s4.trans s6) _ _ ds;let dK:=be.up s6;let e0:aJ H6 ss:=aE tu λb z e=>(s4.trans s6) _ _ e
   let an:∀{H7:Hp},ai H6 H7->(∀b o,b≠kp->He b∣o->H7 b∣o)/\H7 kp∣.lst (ks\0)/\∀q∈ks,Kpt mg H4 H7 q:=λ{H7} U=>by
    let s:=al.trans U;show%[λb o n e=>s _ _ (N b o n e),s _ _ hk|λq hq=>?_];show(a1 q hq).keep λb o _ e=>s _ _ e
   show bv (λO=>?_) λO=>?_
   .let%[x,_|rx]:=vI.mp O;show%[gg,r,bb,qq,a2,ah,ss,rs,ρ,dy,b5,%[x|rx],eH,e0,dK,⋯,dt|λH7 U=>(a3 _ _ ?_)];let%[y1,y2|y3]:=an U;show%[%[_,_,_,_,_,_,_|ρ],y1,ks,y2,y3|⋯]
   .let nr:∀x,¬ Rch (ss\2) x x:=λx r=>O (vI.mpr %[x,dt x r|r])
    let ak:mV mg H6 gg qq a2 ah (ss\2):=%[dy,b5|nr]
    show%[gg,qq,a2,ah,_,ρ,ak,⋯|λt d2 H7 dT bs U e1 ft ht a4 ba ae a5 bn=>%[_,Qb.of ht,ρ,_,_,ρ,_,_,ρ,ρ|?_]];lk;let bf:∀x,x∈bs\1↔x∈rs\1:=λx=>by
     rw[bn,a5.mem,rk]
     constructor
     .rintro⟨h1,h2⟩;let hx:=(mem x).mpr (pl.mem_iff.mp h1);show%[x,hx|(lg x hx).2.one h2]
     .rintro⟨z,hz,rfl⟩;let%[y1|y2]:=lg z hz;show%[pl.mem_iff.mpr ((mem _).mp y1)|jx y2 y2.1]
    let e3:=al.trans U;let dV:=b4.sa.up (s3.trans (s4.trans (s6.trans U)));show m7 %[ll,d,bb,qq,_,ms,gm,_,rs,rfl,e3 _ _ (N _ _ b0 b1),dV,⋯,(s3.trans (s4.trans (s6.trans U))) _ _ hd,λz hz=>(mem z).mpr hz,λz hz=>(lg z hz).2,dK.up U,rl,λz hz=>(rk _).mpr %[z,hz|rfl]|λe H8 b6 s8 fe he ca cn=> .inr %[rfl,d2,_,s8 _ _ a4|λo=>?_]];let e4:e≠d2:=λz=>by rw[z,a4]at fe;cases fe
    let kf:∀b z,H8 b&&&z->Qa H8 d2 (.frz o (.dK (gD bs))) b&&&z:=λb z q=>by
     rw[aq (λc=>by rw[c,s8 _ _ a4]at q;cases q)];show q
    let e5:Lik H8 bs b6:=F6 (λwd n d y h=>F5 dV h) (ba.up λb z q=>s8 _ _ q) ca (by show cn▸be.nd) λx hx=>cn▸(bf x).mp hx
    let e6: ~~~bs= ~~~b6:=by
     let:=yF ae be.nd bf;let c2:=rM MV cn;rw[Z6,Z6]at this c2
     lia
    show%[d2,e,o,bs,b6,ρ,aa,(aq e4)▸he,e6,e5.keep kf,ae|λH9 s9=>bN ?_];let d1:=nO (s8 _ _ a4) s9;let a6:Qa H9 d2 (.dK (gD bs)) d2=_:=aa
    generalize Qa H9 d2 _=Hn at d1 a6
    let d4:=s8.trans d1;let ea:=U.trans d4;let%[y1,y2|y3]:=an ea;show%[tyL (Qb.of y2),_,.inl a6|λe2 b9=>%[#[3]|λp fp=>?_]];let z1:=ai.Qa (o:= .dK (gD bs)) b9;let eb:=own z1
    generalize Qa Hn e2 _=Hm at z1 eb fp
    let z2:=ai.Qa (o:= .tup [V.ref d2,V.ref e2,V.ref gg]) fp;let gp:=own z2
    generalize Qa Hm p _=Ho at z2 gp
    let as:=z1.trans z2;let ec:=as _ _ y2;let a0:∀b u,(∀xs,u≠ .lst xs)->Ho b∣u->Qa Ho kp (.lst ((ks\0) ++[V.ref p])) b∣u:=λb u n e=>by
     rw[aq (λz=>by rw[z,ec]at e;show n _ (Za e).symm)];show e
    show%[_,ec,by rw[Z6];let:=(Xl dr).1;show aC (by simp only[Zr,Wo]at this;lia)|a3 _ _ %[%[_,_,_,_,_,_,_|ρ],λb u n q=>(aq n)▸as _ _ (y1 b u n q),ks++[(p,d2,e2,gg)],by rw[aa,Zd];rfl,λq hq=>?_|Z9▸X8 kl]];rcases Xm hq with z|z
    .show(y3 q z).keep λb u n e=>a0 b u n (as _ _ e)
    .rw[Xn z];show%[a0 _ _ (λ_=>nofun) gp,aw a6 b9,(s0.trans al).free e1,(s0.trans (al.trans ea)).free b9,qq,a2,ah,_,dT,bs,%[gr,b5|nr],⋯,ba.up (λb z q=>a0 _ _ (λ_=>nofun) (as _ _ (d4 _ _ q))),ae,a5,bn,a0 _ _ (λ_=>nofun) (as _ _ a6)|a0 _ _ (λ_=>nofun) (z2 _ _ eb)]
  .intro σ H' %[%[o6,o7,o8,o9,ac,L,I|rfl],N,ks,hk,a1|kl];show k6 _ _ (am λD7 k7 r7=>?_);lk;show aI λc5 hK=>?_
   lk;show%[%[_|Qb.of hk]|hK _ _ λF hF=>cg (λj vs σ C=>A4 (E3 λo1 o2 o3=>σ=[o1,o2,o3]) (ai H' C) (C F<*vs) (vs=[])) %[%[hH,hH,hH|ρ],ai.Qa hF,aa|ρ] (λ_ _ _ C %[_,M,_|_]=>M _ _ hk) ?_ ?_]
   .intro j vs σ C hj %[%[o1,o2,o3|rfl],M,fa|rfl];let kq:=a1 _ (Yc hj);let%[_,_,_,_,_,bs,_,_,ba,nd,_,_,e7|e8]:=kq.ex;show%[_,SqT.of (M _ _ kq.tu),ρ,_,_,ρ,_,_,ρ,_,_,ρ,ρ|?_];lk;show%[_,_,.inl (M _ _ e7),.inl (M _ _ e8),rfl,λp hp=>by let%[b,hb|rfl]:=Xo hp;let%[lo,hi,_,h2|_]:=ba b hb;show%[_,_,_,ρ,Ab nd hb,M _ _ h2,M _ _ h2|ρ]|?_];lk;show CN.mk hj %[%[_,_,_|rfl],M,fa|rfl]
   intro vs σ C %[_,s2,ff|rfl];show%[Xe _|λp hp=>%[[],ai.Qa hp _ _ ff,aa|?_]];rw[ku ∅];let s3:=s2.trans (ai.Qa (o:= .lst []) hp)
   generalize Qa C p _=H3 at s3
   show k7 _ _ (am λD8 k8 r8=>az λfl fm=>?_);lk;show%[_,Qb.of (s3 _ _ hk)|λp' fn=>?_];rw[F7];let s4:=s3.trans (ai.Qa (o:= .lst ((ks.take 1)\0)) fn);let cd:Qa H3 p' (.lst ((ks.take 1)\0)) p'=_:=aa
   generalize Qa H3 p' _=fq at s4 cd
   let s0:ai H4 H':=λb o e=>N b o (aw e ab) (x4 b o e)
   let tl: ~~~(ks.take 1)<=1:=by rw[Yk];lia
   let fu:∀q∈ks.take 1,Kpt mg H4 fq q:=λq hq=>(a1 q (Yx hq)).keep λb o _ e=>s4 _ _ e
   show%[%[_|Qb.of cd]|fm _ _ (bB (λi σ C=>A4 (E4 λo6 L I ce=>σ=[!a,!l1,!l2,!g,!g2,!kp,o6,o7,o8,o9,ac,L,I,ce]) (ai H4 C) (C p'∣.lst ((ks.take 1)\0)) (i=0->∀q∈ks.take 1,Kpt mg H4 C q))
    %[%[_,_,_,_|ρ],(s0.trans s4),cd|λ_=>fu] (λi σ C %[_,_,h|_]=>h) ?_ ?_)]
   .intro i q σ C hq %[%[o6,L,I,ce|rfl],M,ch|kq];obtain rfl:i=0:=by let:=(Xl hq).1;lia
    let kq:=kq rfl q (Z8 hq);let%[ed,fv,fw,lk,dT,bs,ak,ql,ba,ae,a5,bn,e7|e8]:=kq.ex;show%[_,SqT.of kq.tu,ρ,_,_,ρ,_,_,ρ,_,_,ρ,ρ|?_];change aV _ _ _ [!a,!l1,!l2,!g,!g2,!kp,hV (.ref q.2.2.2),o7,o8,o9,ac,hV (.ref q.2.1),I,hV (.ref q.2.2.1)] C;show am λD9 k9 _=>?_
    unfold AR;lk;show%[tyD e7,%[_|e7]|k9 _ _ (aA λez a3 _=>?_)];let sc:ai H4 (Qa C q.2.1 (.dK [])):=ai.set M kq.f1;let cl:=(aq (H:=C) (o:= .dK []) (J0 kq.ne)).trans e8;let ef:=(aq (H:=C) (o:= .dK []) (show p'≠q.2.1 from λz=>by rw[z,e7]at ch;cases ch)).trans ch;let eg:lG (Qa C q.2.1 (.dK [])) ed lk bs:=ba.up λb z u=>by rw[aq (λc=>by rw[c,e7]at u;cases u)];show u
    generalize Qa C q.2.1 _=H6 at sc cl ef eg
    lk;show%[q.2.2.2,ed,fv,fw,lk,ρ,ak.up sc,ql|λt d3 H7 f5 eh U fx ft ht bc fz bl fB fC=>?_];let bm:∀x,x∈eh\1↔x∈bs\1:=λx=>by rw[fC,fB.mem,bn,a5.mem]
    let%[_,_,_|gf]:=ak.gr.gr;show%[_,Qb.of ht,.ref d3,cj (j:=0) rfl|.inr %[ρ,d3,_,bc|λo=>%[d3,q.2.2.1,o,eh,bs,ρ,aa,(aq (aw cl fx))▸U _ _ cl,(by let:=yF bl ae bm;rwa[Z6,Z6]at this),(F6 (λwd n d y h=>F5 gf.sa h) fz (eg.up λb z u=>U _ _ u) ae λx hx=>(bm x).mp hx).keep λb z u=>by rw[aq (λc=>by rw[c,bc]at u;cases u)];show u,bl|λH8 s8=>(a3 _ _ %[%[_,_,_,_|ρ],(sc.trans U).trans (nO bc s8),nO bc s8 _ _ (U _ _ ef)|λz=>nomatch z])]]]
   .intro σ C %[%[o6,L,I,ce|rfl],M|_];show k8 _ _ ?_;lk;let%[c2,c3,c4|gf]:=(l.gr.up M).gr;let%[dx,c1|h0]:=gf.at_;show%[_,_,h0,ρ,g,c2,c3,c4,qs,ls,ts,ρ,gf|λy fy=>?_];let sy:=M.trans (ai.Qa (o:= .lst (qs\0)) fy);let gy:Qa C y (.lst (qs\0)) y=_:=aa
    generalize Qa C y _=H8 at sy gy
    let%[c2,c3,c4|gf]:=(c0.up sy).gr;let%[dx,c1|h0]:=gf.at_;show%[y,l2,_,_,ρ,ρ,gy,sy _ _ l.h2,ρ,Bv|?_];lk;show%[_,_,h0,ρ,g2,c2,c3,c4,Y,eo,ep,ρ,gf|λy2 fD=>?_];unfold Fq;lk;show%[_,(ai.Qa (o:= .lst (Y\0)) fD) _ _ (sy _ _ l.h2)|λb2 fF fG=>?_];simp only[rL,Z6,cw]at fG ⊢;show%[y2,b2,_,_,ρ,ρ,ai.Qa fF _ _ aa,aa,ρ,Bv|kk _]
end
abbrev dfm:= @JW
abbrev gvm:= @LD
def all_mk{l:PySem.W.OpenLaw}{w:wh}{K:ZA}{h:yc}{mg:ZC}{fa aj:kw}(X:K.In h)(G:h.Ns xl mg)(hfa:mg "law"=hV (.ref fa))
 {b7 ay:ZJ} {b8:ZL} {b9 az a0 a1 ak a2:jg}
 (F:Txc K mg->Txt K mg)
 (ca:Sd K xl "law"=hV (hV (.ref aj))) (cb:K.lookup aj=hV %[b9,b7,.func (Ti "law" "law" (dH mG) (bR mG) (ap mG) .none az a0 a1 ay ak a2)|b8]) (cc:RS K ak "law"=hX) (cd:O5 K (.ref aj)=hX)
 {aa ac ad a3 a4 a5 a6 a7:kw}
 {ae:kw} {ce cf:ZJ} {cg:ZL} {ch ci cj a8 ck:jg}
 (al:Sd K xl "Torn"=hV (hV (.ref aa)))
 (a9:Sd K xl "DigError"=hV (hV (.ref ac)))
 (ba:Sd K xl "NoCut"=hV (hV (.ref ad)))
 (bb:Sd K xl "NoSaying"=hV (hV (.ref a3)))
 (bc:Sd K xl "NoGround"=hV (hV (.ref a4)))
 (bd:Sd K xl "NoLayer"=hV (hV (.ref a5)))
 (be:Sd K xl "NoRow"=hV (hV (.ref a6)))
 (bf:Sd K xl "NoDeed"=hV (hV (.ref a7)))
 (bg:Nf K (.ref aa) "__getattribute__"=hV (hV (.builtin "BaseException.__getattribute__")))
 (bh:Nf K (.ref aa) "__getattr__"=hV hH)
 (bi:RL K (.ref aa) (.type "BaseException")∣hX)
 (am:PM K aa=hX)
 (cl:Nf K (.ref aa) "__class__"=hV (hV (.builtin "object.__class__")))
 (cm:Tf K (.builtin "object.__class__") "__get__"=hV (hV (.builtin "getset_descriptor.__get__")))
 (cn:takesIn K (.builtin "object.__class__")∣hX)
 (co:mroIn K aa (.type "object")∣hX)
 (e8:Nf K (.ref aa) "__init__"=hV (hV (.ref ae)))
 (an:K.lookup ae=hV %[.type "function",ce,.func (Ti "__init__" "Torn.__init__" (dH e9) (bR e9) (ap e9) .none ch ci cj cf a8 ck)|cg])
 (bj:RS K a8 "Torn.__init__"=hX)
 (bk:O5 K (.ref ae)=hX)
 (bl:exK K aa ae=hX)
 (cp:O5 K (.ref aa)=hX)
 (cq:Nf K (.ref aa) "__setattr__"=hV (hV (.builtin "object.__setattr__")))
 (bm:vB K aa=hX)
 (bn:Nf K (.ref aa) "ring"=hV hH)






 (cr:RL K (.ref aa) (.ref ad)∣hY)
 (cs:RL K (.ref aa) (.ref ac)∣hX)
 (ct:Ue K (.ref aa) [.ref ad,.ref a4,.ref a3]∣hY)
 (cu:Ue K (.ref aa) [.ref a7,.ref a6,.ref a5]∣hY)
 (cv:Ps K (.ref aa) (.ref aa)∣hX)
 (cw:Ps K (.ref aa) (.type "ValueError")∣hX)
 (cx:Tf K (.ref ac) "__getattribute__"=hV (hV (.builtin "type.__getattribute__")))
 (cy:readsIn K ac (.type "type")=hX)
 (cz:findCls K (.ref ac) (.type "type") "__init__"=hV (.val (.builtin "ValueError.__init__")))
 (c0:Wm K (.ref ad)∣.type "type")
 (c1:RL K (.ref ad) (.type "BaseException")∣hX)
 (bo:(K.lookup ad).any (λo=>match o.data with| .cls _=>hX|_=>hY)=hX)
 (c2:Wm K (.ref ac)∣.type "type")
 (c3:RL K (.ref ac) (.type "BaseException")∣hX)
 (bp:(K.lookup ac).any (λo=>match o.data with| .cls _=>hX|_=>hY)=hX)
 {ab:kw}
 (bq:Sd K xl "Ground"=hV (hV (.ref ab)))
 (c4:T9 K ab MQ=hX)
 (c5:PM K ab=hX)
 (c6:Xw K ab=hX)
 (c7:Nf K (.ref ab) "__setattr__"=hV (hV (.builtin "object.__setattr__")))
 (c8:Nf K (.ref ab) "kept_cuts"=hV hH)
 (c9:Nf K (.ref ab) "kept_sayings"=hV hH)
 (da:Nf K (.ref ab) "kept_layers"=hV hH)
 (db:Nf K (.ref ab) "kept_ties"=hV hH)
 {af:kw} {dc dd:ZJ} {de:ZL} {df dg dh dj br dk:jg}
 (dl:Nf K (.ref ab) "__init__"=hV (hV (.ref af)))
 (bs:K.lookup af=hV %[df,dc,.func (Ti "__init__" "Ground.__init__" (dH cK) (bR cK) (ap cK) .none dg dh dj dd br dk)|de])
 (bt:RS K br "Ground.__init__"=hX)
 (bu:O5 K (.ref af)=hX)
 (dm:YI K (.ref af)=hX)
 (dn:makesIn K ab=hX)
 (dp:O5 K (.ref ab)=hX)
 {ag:kw} {dq dr:ZJ} {ds:ZL} {dt du dv dw bv dx:jg}
 (dy:Nf K (.ref ab) "sayings"=hV (hV (.ref ag)))
 (bw:K.lookup ag=hV %[dt,dq,.func (Ti "sayings" "Ground.sayings" (dH cU) (bR cU) (ap cU) .none du dv dw dr bv dx)|ds])
 (bx:RS K bv "Ground.sayings"=hX)
 (ao:O5 K (.ref ag)=hX)
 (dz:YI K (.ref ag)=hX)
 {ah:kw} {d0 d1:ZJ} {d2:ZL} {d3 d4 d5 d6 bz d7:jg}
 (d8:Nf K (.ref ab) "layers"=hV (hV (.ref ah)))
 (b0:K.lookup ah=hV %[d3,d0,.func (Ti "layers" "Ground.layers" (dH di) (bR di) (ap di) .none d4 d5 d6 d1 bz d7)|d2])
 (b1:RS K bz "Ground.layers"=hX)
 (aq:O5 K (.ref ah)=hX)
 (ea:YI K (.ref ah)=hX)
 {ai:kw} {eb ec:ZJ} {ed:ZL} {ee ef eg eh b2 ei:jg}
 (ej:Nf K (.ref ab) "ties"=hV (hV (.ref ai)))
 (b3:K.lookup ai=hV %[ee,eb,.func (Ti "ties" "Ground.ties" (dH dQ) (bR dQ) (ap dQ) .none ef eg eh ec b2 ei)|ed])
 (b4:RS K b2 "Ground.ties"=hX)
 (ar:O5 K (.ref ai)=hX)
 (ek:YI K (.ref ai)=hX)
 {b5:kw} {au:Ov} {av:ZK} {el:iv}
 (em:Sd K xl "YEAR_WORDS"=hV (hV (.ref b5)))
 (en:K.lookup b5∣au)
 (eo:au.cls= .type "tuple")
 (ep:au.data= .seq av el)
 (eq:av.size<=lX)
 (er:aN [.str "since",.str "by"] av.toList)
 {b6:kw} {aw:Ov} {ax:ZK} {es:iv}
 (et:Sd K xl "LAYER_WORDS"=hV (hV (.ref b6)))
 (eu:K.lookup b6∣aw)
 (ev:aw.cls= .type "tuple")
 (ew:aw.data= .seq ax es)
 (ex:ax.size<=lX)
 (ey:aN [.str "later",.str "same"] ax.toList)
 :∃fd:OP,(∀(s:md) (v:jg),T3 s fd %[[v]|[]] [("_law_script",v)])/\∀base:yc,K.In base->base.Ns xl mg->d9 l.prog w K mg base CX0 13 fa fd ↑"~script" (rK K):=by
 let e:=hfa.symm.trans (OL X G ca);cases e;let ez:=eA (OL X G al);subst ez;let e0:=eA (OL X G a9);subst e0;let e1:=eA (OL X G ba);subst e1;let e2:=eA (OL X G bb);subst e2;let e3:=eA (OL X G bc);subst e3;let e4:=eA (OL X G bd);subst e4;let e5:=eA (OL X G be);subst e5;let e6:=eA (OL X G bf);subst e6;let e7:=eA (OL X G bq);subst e7;let T:Txt K mg:=F %[OL X G al,
  OL X G a9,
  OL X G ba,
  OL X G bb,
  OL X G bc,
  OL X G bd,
  OL X G be,
  OL X G bf,
  %[OL X G al,%[bg,bh,bi,am,cl,cm,cn|co],ae,_,%[bl,by rw[an];rfl|cp],eL an bj bk|(eL an bj bk).binds (by room)],
  %[cq,bm,bn|am],
  %[bg,bh,bi,bn|am],
  cr,
  cs,
  ct,
  cu,
  cv,
  cw,
  %[cx,cy|cz],
  %[c0,c1|bo],
  %[c2,c3|bp],
  %[OL X G bq,c4,c5,c6|c7],
  c8,
  c9,
  da,
  db,
  %[af,_,%[dn,dl,dm|dp],eL bs bt bu|(eL bs bt bu).binds (by room)],
  %[ag,_,%[dy,dz|ao],eL bw bx ao|(eL bw bx ao).binds (by room)],
  %[ah,_,%[d8,ea|aq],eL b0 b1 aq|(eL b0 b1 aq).binds (by room)],
  %[ai,_,%[ej,ek|ar],eL b3 b4 ar|(eL b3 b4 ar).binds (by room)],
  ET X G em en eo ep eq er|
  ET X G et eu ev ew ex ey]
 show%[Ti "law" "law" (dH mG) (bR mG) (ap mG) .none az a0 a1 ay ak a2,λs v=> .of_eq rfl|λbase _ _=>Ld (eL (st:=mG) cb cc cd) T]
def walk{l:PySem.W.OpenLaw}{q:nX}{b:ZB}{j:(kG->lx jg)->yc->Prop}{e:wh->yc->Prop}{d:DefRec}{K:Params->ZA}(m:l.most∣63)(c:d.params.defaults=[])
 (o:∀(w:wh) (h:yc),e w h->(K w.params).In h)
 (F:∀(w:wh) (mg:ZC) (g:kw) (h:yc),(K w.params).In h->h.Ns xl mg->mg d.name∣.ref g->
  ∃i:OP,(∀(s:md) (u:jg),T3 s i %[[u]|[]] [("_law_script",u)])/\∀base:yc,(K w.params).In base->base.Ns xl mg->d9 l.prog w (K w.params) mg base CX0 13 g i ↑"~script" (rK (K w.params))):
 PySem.W.WalkO q b j e l.row.toRowW d [] (λf vs=>PySem.call f vs):=
 _LL.walk_of (n:=63) (k:=13) (x:="_law_script") (CX:=λ_=>CX0) (sp:=λw=>rK (K w.params)) m (!1) c %[rfl,!1,!1|rfl] o F (λ_ _ a p r v y=>%[a,p,rfl,y,v,r|λ_=>rfl]) λ_ _ _ _ _ z=>z
end _KK
end
open PySem PySem.W PyProof.Rows
set_option maxRecDepth 100000 in
theorem PySem.Challenge.cw_digbook_k71_bounds_told_holds : PySem.Challenge.rw_digbook_k71_bounds_told.Holds := by
 w_on;o_law;k_head;(case hw=>w_witness2)
 k_fill
 refine _KK.walk (l:=PySem.Challenge.rw_digbook_k71_bounds_told) rfl rfl (λw h Y=>PySem.W.kIn_of Y) ?F
 case F=>
  intro w mg fa h KX G hmg;apply _KK.all_mk KX G hmg
  (case F=>
   intro C
   constructor
   exact C
   all_goals first|exact PySem.W.mg_none_of KX G (by k_is)|(refine' _KK.gvm KX G ?z ?r;(case z=>k_is);(case r=>exact⟨_,rfl⟩))|(refine' _KK.dfm KX G ?a ?l ?c ?k ?b;(case a=>k_is);(case l=>k_is);(case c=>k_is);(case k=>k_is);(case b=>intro _ _ _ _ _ _;(repeat(refine _KK.zq1 λ_=>?_));exact _KK.zq0 rfl)))
  any_goals k_is
  (case bl|bm|bo|bp=>kernel_rfl)
  any_goals first|kit_is|rfl|decide|exact .cons ⟨_,rfl⟩ (.cons ⟨_,rfl⟩ (.nil))
