import PyProof.Rows.All
import Wide.All
import OpenK.AllK
import PySem.Challenge.RW_digbook_k96_whole_ring_or_fewest
open Array renaming append_assoc->U1,ext->YN,find?_toList->U0,forIn_toList->Rq,getD->RE,getElem?_eq_getElem->xl,getElem?_eq_none->NU,getElem?_eq_some_iff->rb,getElem?_replicate->Tz,getElem?_toList->Ya,length_toList->Zb,mem_of_getElem?->OV,mem_toList_iff->Qg,perm_iff_toList_perm->Tf,replicate->VN,size_append->Qu,size_map->YO,size_push->Xk,size_setIfInBounds->P4,toArray_toList->UD,toList_append->Xf,toList_extract->RQ,toList_push->RP,toList_setIfInBounds->Te
open Bool renaming and_eq_true->Zv,and_false->Nx,and_self->TU,eq_false_iff->Sh,eq_iff_iff->N1,false->gi,false_and->Ob,false_eq_true->Zy,false_ne_true->Zt,false_or->TR,not_eq_true->Sz,not_eq_true'->Vx,not_true->WN,or_eq_false_iff->X6,or_eq_true->Ui,or_false->WM,or_true->Ub,true->gb,true_and->WL,true_or->Ua
open Classical renaming byContradiction->Nw,not_forall->Tx,propDecidable->SO
open Decidable renaming byContradiction->M5
open Eq renaming refl->YJ,symm->YI
open False renaming elim->MJ
open ForInStep renaming yield->OX
open Iff renaming rfl->QV
open Int renaming emod_lt_of_pos->R6,emod_nonneg->Pr,eq_ofNat_of_zero_le->Xj,mul_one->YH,ofNat_le->XV,toNat->Qp,toNat_natCast->M7,toNat_of_nonneg->RC,zero_add->MC
open Int.ofNat renaming inj->PM
open Lean renaming Syntax->XU
open List renaming Pairwise->Pb,Perm->yu,all_cons->WI,all_eq_true->N3,all_map->WZ,any_cons->Zw,any_eq_true->TK,append_assoc->Ze,append_nil->Zx,cons_append->TH,contains_cons->Va,countP_cons->QB,countP_eq_zero->UX,dropLast_concat_getLast->Pg,drop_append->Sy,drop_append_of_le_length->SL,drop_drop->XJ,drop_eq_getElem_cons->Oh,drop_of_length_le->QH,drop_zero->Tq,eraseIdx_eq_take_drop_succ->OS,exists_mem_of_ne_nil->Og,ext_getElem->PH,ext_getElem?->PY,extract_eq_take_drop->Of,filter->Oa,filterMap_append->Zz,filterMap_cons->Y0,filter_append->Y1,filter_congr->Vv,filter_cons->Qz,filter_cons_of_neg->Y2,filter_cons_of_pos->Y3,filter_eq_nil_iff->OF,filter_nil->Y4,filter_sublist->Rw,findIdx?->WH,findIdx?_eq_none_iff->Tw,findIdx?_eq_some_iff_getElem->R5,flatMap_append->RW,flatMap_singleton->QF,foldl_append->SX,foldl_cons->Y6,forIn_cons->SE,forIn_nil->Wo,getD_eq_getElem?_getD->Zc,getElem?_append_left->Y7,getElem?_append_right->Y8,getElem?_cons_zero->Ql,getElem?_drop->Pu,getElem?_eq_getElem->Z4,getElem?_eq_none->Xm,getElem?_map->Zl,getElem?_of_mem->Xh,getElem?_range->O8,getElem?_set_ne->Rg,getElem?_set_self->T7,getElem?_take->RF,getElem?_take_of_lt->Y9,getElem?_zip_eq_some->PV,getElem_mem->Yb,getElem_of_mem->Qi,length->L3,length_append->Z9,length_cons->Zr,length_drop->Yf,length_eq_zero_iff->vu,length_eraseIdx->UJ,length_filterMap_le->On,length_filter_le->Yg,length_flatMap->UW,length_map->Z6,length_nil->Rp,length_pos_iff->NY,length_pos_of_mem->T6,length_range->Yh,length_reverse->UV,length_singleton->Yi,length_take->Yj,length_zip->Uk,lookup->NT,lookup_append->U9,lookup_cons->Yk,map->Rf,map_append->Zd,map_congr_left->Yn,map_cons->Yo,map_drop->WG,map_eq_nil_iff->UU,map_id->XR,map_map->Yp,map_nil->Vm,map_singleton->U8,map_take->VX,mem_append->Yq,mem_append_left->Ys,mem_append_right->Yt,mem_cons->Yu,mem_cons_of_mem->Zk,mem_cons_self->Zm,mem_erase_of_ne->UI,mem_filter->kw,mem_filterMap->MN,mem_flatMap->Nc,mem_flatten->Sx,mem_map->Yv,mem_of_getElem?->Z8,mem_of_mem_drop->Re,mem_of_mem_take->Yw,mem_range->vj,mem_singleton->Yx,ne_nil_of_mem->U7,nil_append->Wx,nodup_append->Yz,nodup_cons->MO,nodup_iff_pairwise_ne->X1,nodup_nil->X2,nodup_range->PF,not_lt->UH,not_mem_nil->X4,of_mem_zip->Ww,pairwise_cons->Sv,pairwise_iff_getElem->Tv,pairwise_map->X7,perm_append_comm->Q0,perm_append_comm_assoc->N6,range->kj,range_succ->Xa,reverse_cons->Se,set_append_right->UB,size_toArray->Zp,sum_cons->WE,take_add_one->Xc,take_append_drop->Xd,take_append_of_le_length->Xe,take_length->RR,take_of_length_le->Zn,take_range->V8,take_sublist->Sd,take_succ_eq_append_getElem->OE,toList_toArray->UT,zip->Nk,zipIdx_cons->Sw,zipIdx_nil->V7
open List.Pairwise renaming filter->XT,imp->XS,imp_of_mem->Xi,nil->QU
open List.Perm renaming append_left->Ou,append_right->S9,cons->UZ,refl->MV,swap->UY,trans->P8
open List.cons renaming inj->Oc,injEq->MZ
open Nat renaming add_assoc->W6,add_comm->Uz,add_left_cancel->RB,add_mod->Vp,add_sub_cancel->Qk,add_sub_cancel_left->NQ,add_zero->Q9,ble->P7,blt->XQ,div_add_mod->Wn,div_div_eq_div_mul->QR,div_lt_of_lt_mul->US,eq_or_lt_of_le->Vu,le_add_left->Wm,le_add_right->PX,le_of_ble_eq_true->Yc,le_of_eq->XO,le_of_lt->Yd,le_of_not_lt->O4,le_refl->Zi,le_sub_one_of_lt->UR,le_succ->Ye,le_trans->lx,lt_irrefl->Xl,lt_of_le_of_lt->PU,lt_of_le_of_ne->Qh,lt_of_lt_of_le->Zg,lt_of_succ_lt->VI,lt_succ_iff_lt_or_eq->NH,lt_succ_of_le->VH,lt_succ_of_lt->Yl,lt_succ_self->Ym,lt_trans->QP,lt_trichotomy->VF,min_eq_left->Qv,min_eq_right->V6,min_le_right->SK,mod_eq_of_lt->Qo,mod_lt->RU,mod_mod_of_dvd->R4,mul_add->YG,mul_le_mul_left->U6,mul_mod->YF,ne_of_gt->Yy,ne_of_lt->Zs,not_lt_of_le->SJ,not_lt_zero->X3,pos_of_ne_zero->PR,pow_dvd_pow->S7,pow_le_pow_right->X8,pow_succ->X9,sub_self->Xb,sub_zero->Uy,succ_le_succ->Ri,succ_pos->Pz,two_pow_pos->S5,zero_add->RH,zero_le->Xg
open Ne renaming symm->wh
open Option renaming any->W4,bind_some->Sc,isSome_iff_exists->Qw,isSome_map->Wz,map_eq_some_iff->zz,none->fD,some->fI
open Option.some renaming inj->Za,injEq->TN
open Prod.mk renaming injEq->MW
open PyProof.Rows renaming AllBare->QK,IntsAre->T8,Keyed->Nt,SortKind->Uv,SortSt->lX,StrsAre->M4,Subscript_->WD,arrOf->p7,assignInOrder_cons->SH,assignInOrder_nil->WY,boot_bool->YE,boot_isinstance->Rv,boot_list->Q6,boot_range->YD,boot_reversed->YC,boot_sorted->TJ,boot_str->V3,callWith_builtin1->Rc,callWith_type1->Nj,countRun'->XM,elem'->OR,envOfC->Ng,failedOf->NL,formatField_str->XZ,isTrue_plain->Vo,join_list->YB,listUpdate_at->Ps,ltAt'->WV,mergeAt'->Uj,minRun'->Vl,pendingOf->ow,reverseSlice'->QM,seqEpoch_at->VU,seqObj->O3,setArr->Vg,setPending->Rn,slice_closes_toL->X5,sortedHeap->Rk,subscriptTail_builtinR->Vc
open PyProof.Rows.F renaming entry_set_update_loop->UK,plain_set_update_loop->QX
open PyProof.Rows.SortSt renaming mk'->UF
open PySem renaming Addr->hW,Around->ri,BindsTo->Uc,Builtin->m4,CmpOp->Wa,DictEntry->Vb,Draws->V9,Expr->tI,FuncData->Pd,GenState->R7,Heap->su,IsPair->Pq,IsTupleKey->J6,IsZip->Ta,Keyword->Pc,NameKind->zr,Obj->NV,PassesOwn->NZ,PlainAttrs->Pp,Program->mu,PyData->J0,Result->Tu,Scope->R3,SetTable->kG,Shared->jg,Stmt->v0,Str->jz,Value->hV,World->rM,argBest->QC,assignEach->Om,assignInOrder->UP,atKey->U3,attributeBase->NB,backTo->Nv,backToKw->Qj,behindInMarks->MU,binaryOp->No,bindC->V5,bindL->V4,bindName->SZ,bootBuiltins->Nz,builtinLookup_eq_fast->Ry,builtinsNs->WC,cLine->Pa,callWith->Uq,call_meets->OK,call_meetsIn->PZ,callerA->T3,cellsFrom->MT,codeAny->Pw,codeAny_builtin->Nd,codeAny_call_builtin->PL,codeAny_extend_loopS->V2,codeAny_of_tree->TY,collect->Rr,compareOp->oT,entryFor->SY,entryFor_alias->RX,entryFor_of_tree->XI,eval->M9,excClassObj->V1,fits_of_scanBound->NK,foldedSetIterable->O9,getAttr?->V0,getItem->T2,getMethod->Q5,getattributeRaised->WB,hashByValue->TC,hashStr->NG,holding->O7,isInstance->WA,isSubtype_stop->Um,isTrue->RV,keywordEach->Ol,letOwnedTupleGo->XY,mainGlobals->r0,model->Nm,ofAClassStatement->SW,pastItsLine_dict->XH,pickOrder->NX,plainId_quiet->N9,plainObj_wpAny_Assign_Attribute->Tg,post_val_or_str->Ru,pushCells_keeps->XX,putSet_of->R9,pyIter->Vj,pyNext->Pj,rawInt->M6,relayAll->Q3,richCompare_gives->WT,richCompare_meets_room->Ro,rule->Rx,scanBound->OQ,setAdd->Vi,setAddHashed->Vh,setEpoch->Uf,setField->SS,setNext->R8,setRelay->VT,setSearchFrom->N8,sizeLine->iv,sizeLine_eq->MD,sliceBounds->PB,slot_list_getitem->WS,standAt->Oy,starEach->q0,storeSet->VS,strIterType->OO,subscripted->TB,swappedStores->Su,swapsWith->Oo,swapsWithSole->UL,sysModules->Nu,table->WR,truthy->Tl,tupleKeyHash->vk,tupleKind->Tk,tupleKind_room_in1->Qf,typeIs_str->Oi,typeLookup->Pi,typeLookup_type->TX,typeOf->Qe,unbindBehindTheSuite->VQ,unsupported->Qt,valueAt->SR,wpAny->pw,wpAny_Call_Name_kw->N5,wpAny_Call_method0_late->U2,wpAny_Dict_empty->XC,wpAny_Name->Wu,wpAny_Try_except->XB,wpAny_askSetting->M0,wpAny_assign_Name->WQ,wpAny_attempt->NO,wpAny_bind->Z2,wpAny_call->OH,wpAny_callSpecial?_slot->Nq,wpAny_call_entry->MA,wpAny_collect_seq->Qs,wpAny_dictEntries->SQ,wpAny_dictEpoch->TW,wpAny_eqBool_int->Xz,wpAny_eqIsQuiet_tuple->VB,wpAny_execs_cons->Xy,wpAny_execs_nil->Ox,wpAny_field->Nn,wpAny_fieldsOf->RM,wpAny_forIn_list->Xx,wpAny_getItem_str_slice->ON,wpAny_holding->vi,wpAny_isInstance->NW,wpAny_isOneOf_keyiter->VA,wpAny_isSubtype_exc->Wi,wpAny_isTrue_Compare1->Vz,wpAny_ite_split->TV,wpAny_letGo->RL,wpAny_letOwnedTupleGo_zip->UE,wpAny_load->Ue,wpAny_loadPart->Qd,wpAny_loadPart_at->O2,wpAny_lookBehind->Xw,wpAny_mono->ME,wpAny_newObj_type->MF,wpAny_newTuple->RK,wpAny_notOrdered_dict->Vy,wpAny_of_eq->VP,wpAny_onRaise->Ss,wpAny_passesOwn->N7,wpAny_pure->Z3,wpAny_pyHash_str->Xv,wpAny_pyIter_enum->WP,wpAny_pyIter_keyiter->VO,wpAny_pyIter_list->Od,wpAny_pyIter_slot->Qr,wpAny_pyIter_strU->WO,wpAny_pyIter_tuple->Wt,wpAny_pyIter_zip->Q2,wpAny_raiseNew_none->Wh,wpAny_rule->N4,wpAny_runValue->Ud,wpAny_seqItems->M8,wpAny_setEntries_of->Oq,wpAny_setField->P9,wpAny_setField_rec->vr,wpAny_setScan_of->Xu,wpAny_setState_of->n7,wpAny_specialOf->PN,wpAny_standAt->QL,wpAny_storeSet_of->NJ,wpAny_truthy_bool->MR,wpAny_typeNameOfWhole_keyiter->N2,wpAny_typeOf->O0,wpAny_updateSeq_pair->RJ
open PySem.Around renaming under_plainId->Nh
open PySem.Builtin.Dict renaming addKeywords->YM,selfAndRest->YL,showsAll->SN,updateFrom->Sr
open PySem.Builtin.Dict_items renaming ownsTuple->QJ
open PySem.Builtin.Frozenset renaming baseOf->Wg,copyOf->Wf,difference->QZ,differenceUpdate->P0,isAnySet->We,newClass->Wd,sizeOf->Rt,slot0->Wc,unchanged->Ot,updateFrom->Wb
open PySem.Builtin.List renaming listExtendWith->NS,listLengthHint->RD,listSameRef->Sg,listTooLong->Ph,listTouch->YK
open PySem.Builtin.ObjectAttr renaming storeInOwnDict->VM
open PySem.Builtin.Range renaming rangeSize->Sf
open PySem.Builtin.SmallTypes renaming nextOf->NR,ownedTupleIsFree->Nb
open PySem.Builtin.Str renaming occurrences->NF,partsBetween->Sq,strKind->Tj,subAt->TQ
open PySem.Calls renaming Name_function_global->Td,callWith_builtin->Qq
open PySem.CmpOp renaming NotIn->Xt
open PySem.Code renaming quiet_builtin->RG
open PySem.F renaming args_dict_keyiterator_next_1->Tc,args_list_ne_2->Us,args_str_split_2->So,args_zip_next_1->Ws,called_set->Pm,entry_dict_keyiterator_next->Ti,entry_list_ne->UO,entry_str_split->SM,entry_zip_next->WK,plainAttrs_dict->OA,plainAttrs_list->NI,plainAttrs_str->Uh,plain_extend_loop->VL,plain_list_iadd->Qm,slot_dict_get->UM,slot_dict_iter->WJ,slot_dict_keyiterator_next->Np,slot_dict_setdefault->RT,slot_dict_update->XF,slot_list_extend->XE,slot_list_ne->Vd,slot_set_iter->W9,slot_set_sub->XW,slot_str_split->Tb,slot_zip_next->Rh,type_dict_setdefault->VR,type_list_extend->XD
open PySem.Heap renaming SameBut->q7,get?_push_ne->Vw,get?_push_of_some->Z7,get?_push_size->Zj,get?_update_other->MG,get?_update_self->MB,lt_size->Zu,size_push->Zq,size_update->VJ
open PySem.Heap.DictOf renaming new->T9
open PySem.Heap.IsSliceOf renaming new->W8
open PySem.Heap.Ns1 renaming of_empty->UC
open PySem.ItemsOf renaming nil->Wr
open PySem.Moved renaming trans->W7
open PySem.NameKind renaming cell->OM,free->Na
open PySem.Obj renaming cls_mapFields->Sm,data_mapFields->Os,isFreed_of_fields->OZ,mapFields->Pe,mapSeq->NA,putSet->N0
open PySem.PassesOwn renaming leaving->T4,never->NP
open PySem.PyData renaming depth->Wl,depthAll->Qn,hasDict->VE,hasDictAll->PQ,leavesShort->UG,leavesShortAll->OL,showable->Vt,showableAll->Py,shown->Wk,str->Px,weight->Th,weightAll->P6
open PySem.SeqAt renaming EqAt->KE,list_neAt->VC
open PySem.SeqAt.EqAt renaming int_str->TM,str_int->TL
open PySem.SetFound renaming there->QD
open PySem.SetTable renaming advance->S3,below->Op,bits->Tr,eraseAt->OD,fill->Ra,fits->Oe,fresh->Pf,grown->Nr,insertAt->Ni,laid->Vr,layClean->Uw,probe->U5,relaid->UQ,runEnd->Ny,turns->RO
open PySem.SetTable.below renaming go->Ur
open PySem.SetTable.layClean renaming free->OI
open PySem.SetTable.probe renaming go->Q4
open PySem.SetTable.sizeAbove renaming go->Vf
open PySem.Shared renaming TypeIs->Rs
open PySem.Str renaming empty->y2,join->ui,length->Vq,ofString->nI
open PySem.StrLaws renaming glued_eq_join->OB,join_length_le->Tt
open PySem.Value renaming bool->XN,builtin->OY,int->Sl,isInt->W3,isStrOf->Wj,none->M3,ref->ku,str->G2,type->MS
open PySem.Value.ref renaming inj->U4
open PySem.W renaming Looks->UA,OpenLaw->W5,any_some->Q8,callWith_K->Uo,cellsFrom_some->RZ,codeIn->RY,emptyDict->Sa,findIn->MP,fnOf->Tp,hasDictIn->Pl,instObj->TZ,isFn->YQ,keepIn->OJ,kia_one->O6,kitAny->Wy,kitOne->Pk,lookIn->YP,looks_clsIn->VZ,looks_findIn->Vn,looks_subIn->VY,mg_of->Ov,nsIn->Si,plainGet->Ug,plainGet_of->VW,plainOver->XG,specialIn->To,subIn->RS,typeIn->Wv
open PySem.W.Looks renaming here->S8
open PySem.W.WData renaming int->X0
open PySem.Walks renaming list->Rz,tuple->W0
open PySem.pickOrder renaming go->SU
open Sum renaming inl->nX,inr->hX
open Sum.inl renaming inj->QN
open Sum.inr renaming inj->NN
open True renaming intro->MK
open _root_ renaming Array->mx,Bool->on,Decidable->OT,DecidableEq->MM,False->yc,ForInStep->pp,Int->md,List->fx,Nat->gf,Option->ij,StateT->zp,String->MX,True->Po,Unit->S4,absurd->lr,and_congr_right->PP,and_true->Ut,beq_eq_false_iff_ne->MQ,beq_iff_eq->NE,beq_self_eq_true->Pn,bne_self_eq_false->WX,congr->WW,congrArg->nY,decide_eq_false->Zh,decide_eq_true->Zf,decide_eq_true_eq->xr,decide_eq_true_iff->NC,eq_false_of_ne_true->Sj,if_false->Ow,if_neg->hH,if_pos->hY,if_true->Qy,modify->Vk,not_or->Oj,of_decide_eq_false->SB,of_decide_eq_true->Zo,or_congr->SV,or_false->J5,propext->WU
open List (any_map cons_append length_eq_zero_iff nil_append)
open Nat (le_add_right le_of_lt le_of_not_lt le_zero lt_of_le_of_ne lt_of_lt_of_le zero_add)
open Option (getD_none map_some)
open PyProof.Rows (boot_all boot_any boot_dict boot_int boot_max boot_min boot_set boot_tuple)
open PySem.F (slot_str_join type_dict_get type_str_join)
open PySem.Heap (ExtBut)
open PySem.W (KatTups KitX check_slot clsIn findCls findObj handedIn hideAll hideAll_get kat_cons kat_go kat_no kat_one kat_yes kitx_dict kitx_list kitx_none makesIn mroIn of_hideAll readsIn set_plain takerIn takesIn)
set_option linter.all false
set_option tactic.hygienic false
set_option compiler.extract_closed false
local macro_rules|`(#check $s:str)=>do
 let(a,_)<-s.getString.toList.foldlM (init:=(#[],0,0)) λ(a,n,k) c=>do
  let n:=n*90+c.toNat-if c.toNat>92 then 37 else 35
  return if k=9 then(a.push (Lean.mkIdent ("tw"++toString n).toName),0,0)else(a,n,k+1)
 `(structure $(Lean.mkIdent `PySem.W.Fast):ident:Prop where($a*:0=0))
#check "2R>Gb%=x$4#q0Lawoqv_LNDlp|l-rMNR`Q/P]N],6wuuR.6b{$BaKWh5'EQNOu#xPw40M-En2=O*Z*1C9&zOe9$su3G&/h{.m8T6I##T5P(KZ6DpLmOW3E^.J&C3#hXAPm?f74ns$ht*<Jx]Y]f#Fm#6K<GLI$o0(~K:}16`>G5%Lhg8#sT+P$>d=7x-wwR?tiIsZpOIF4X1iu$@4gM,4%H~j.&p5O}86AdK}o+`;7tNiV6O%_tFr#Y79^6Gbn5n>F;E1w(PX9#}^mLG^jIT`Z4#9$}t/e@}0G%*@`J1*#l-*D9@YBj&aP4`DYWQODBP?:?qwK$lcy7kb]<mNthE2nEvrmVxL63rOUNDRG{P%wWct3&Es10wdwZ_Tz.>OdA#m/{QY=->'iac8Wox2k~'jLnV@dPJv8aF~(H1:HbrEHixRE5(S1&@GYQRQ<W;l,{ikT2{~Q~e_0cVJlQf*|.b9hCtq1HnxV>6Lu+-.+4PsE+3T2EUAs3b3O7hYC32KXMnap8tRJ3EDn@T{5M&zuJiodZ]:_a0FnFSBr4C+qMMuyz0QM(})b{#/;NBDO,6e&Sb):]WRXcpvjW(;'Cw`b*?qTk'1m4{&Lv1T'NGg1wi{h3O@#XjiKDA6@)*f=t&c=h|OW*FCCD<bGBsOTVPH#ieAg:9PK<Iy/CNW.>E99/&+|R_I*6y0|AGnX5,Ux*<&Uen,$L:cc$&kYNYcb%kCX:*$wqw,K'46$:UyO@)>@]G+mybr-Q>1MrVN/{`RN^k}}cV5{,~m-:.D6=:;Rm;cWCfGpQ(g`UcOt^s<OU?#RvODj?{j%q3/?a,9shJ4>aAI;9,4HL^j#^PJ3s@N|@331(qYpBD<}|e=n'+AP:AjIBY{kK(jI074glOzH4H5o+LC>loYD;k/JS4+|8M;C/W]mvn8->o*F/_+dDfvG.]bP}dy&F1=D]Lk,DziBHGd>=gSW:T%MZ9`r?_I6+Y'w6X2Ldw4E}-wX6X@%(7Hme9,jzVEQzi,U-7~$A~H}&Gi+/q<qR07Fp3dw3cg{%{rlnA,4}8_$i:(I.S]B&X*j2,B:.gdEn]^p6c:0|G@i-w6u^w/BIYUQ,7|4{^|w#qF1WQNYH~~NEmzA3SKgk9,xxqOnB-46IN_j*4.Xs{2<qn|)0K2$OC5>&*A7s0(ed1VF4u9_;glTCY0@K(>-_eJI$y<JQn_w*%3tX?=9A{GPg_b@DDXjpsS_U@I9W&e+U<mnQ4qWFdMsT`>=:86GAu,J'oXlQZ::28P_&s>aHEjG(GAil1fw{d0?L#}s>ksQ75M5soLf04'DD:.73pip*y03akmVv6/rdvt{E|@X$FV;Uu,Mm12Bjw{;P+.n)K>)DDqz,d:T/kN~tLQv)Qu3>C:nW+2QVu/Z*Rb|=#OP(s3Y5B(_NlpSW%XCHr-M;r}`{v5pB)w?fs}yNmMPQyhD*Z2E-I*GFg'l86zm6`Sq0v6Y%'an{N#E4+V1_~Bk9P3=v7|@w]YA6*Dc?>Uj_`':|+ZMy6W|+(trq{9AJwD-3@,mK8l1+7A^6{@=A6:Jmkur}4L'*nHe5jya-3'*p&A+uwplMj{2r9$Q7-4(fZ6yJ+=^(nVy^7`R)vILF9#ZB$j`KM+v)a;v'q:zw6f*UN@k(qbJG/o^,q#%MiYEs8NV>zJxNidCw#J~BS^3&Wat%ja{@x]5ay@V?EW|_O55Fc7b0{n0l|)r-Hy=B;W%6|OhImKOmuORc|*S6)gAG0O5*.|ki+3jGrY3FB@rI%4NWqX1Cz0jq?I>W^%UO__%VgCK@N@kNQUNIyP.7VE7_nzw4r:,kqjYE#,MBFJ;0hu9SL9;cqk(Sk-{04cjo+9k:E<;wb:hF%$qFonR#ltc|&3IHDS>~m5TE~`()@A6%<*z^1aDX8@P'>bb{Gi+]BE?@kqrCJr+-]7<-ZJ36E@|j?*]h)av6tzgz(o@mh'Z{l}DeZW~8IYGCym7G&0>)CL4Th`=NM;s&yP-,SA-sLQx+/4$M`%uo]I+i:&Lb`U>/3*>(^f<(c0V.K0&9DYp@GU&'txzU._B=%E(x8-wRG6VJ+'KVH6(fo7]qHJr>2$10(mNiF/Y==-yYLL.i/O<DfGLBOK/(A0$QTCbJuU7,{Hp{`/V5K:Q]juLgJq%Lw#Yc3(za%99='0x<ly.->#&BO'<$(Mi:qu%aG,%/)~v+#t;o`6I9`cn@)mfOhi>?=ZU/,7mXGCM+)8IP8hm5(0W&N/b:}(*{2uW$,?0Vs.f&.A-*$}`<7P{@Bc59q%azJ>AEOU,s(wY67pG0EWOhx*,MzuzXM^dPjhm,9OAp//UEv#BEKGcI28K(x~HlK-n4p>'Il#q$%9K+sCOl?1f}:pg6Dx]KH69I-+t<T(N;+L:qG-pF,Xmjm/~kYRT'Tq?i#si4xvKD0,@OqDDy1vhqSrRJ6u2h@tgKA-q+]D+uiEm.<Qa2-'YX.*S2P*nW;OF8MVQE<mpqAHzby^0cc)eKmyPq-2l}wCLK@7m7OAv%a.#cIFIgMGfqL/':jqJQi?xQhx5jp:JVbJ#,ss`#qqkau(CyY;p?G+2IFZJ=k*3*>ux;K>9=HNf8Fk2P2V#Q?jA8tOSgycn=B_X)^|vAy.#S*1CR:-4+ov~JCy9Zh/M`>Coesz8N$a-<DsX*Q+Cos(QETYs5dKhGI~PgnRN+DI`RVt@E:-)C(l*B.Mb{s23s`}^e;te,3IeZ70F2|R$bFGv1TH5<,oH3.)z_D-6KU)H:Ck}:lam.:`a@VH0ntRU?9Hw,-dNEJ(XcYH>,Y*cKZQ4BAkI'<^<KR%<QgbBJX?.6jLpLZbyEq1j(6zsSw+mMA#llY{KA#8Zhbfl,RTR/MbuAQkOXG(eg%aQZjJ)I(8fJpZ954;3o4@_tU?R0l5ZvKD3:s,$Y%]g.`Oz)f+.%|Uj7{PmGMq|=aOBAxupZSp|a~%{o=p2)?M)Q%]eTHC3UgDsZ9PFLg6D'C#m'/9B8XJvCVA6yS&l4iM7kp~;vpI/nJxIOe81:A)cOa:4j5:@Gzn4J>`s,aXIV5a8y'CqK0}>B{Hs817HwN^Q-F.`HBT4vx}|+()X&uj$?l,Y)e**bK76E5OW_TWYnaBQ)0;qG_mF9<%w7p0M*G4oawQT9H6cM&fREah>*m*Dr4`^K]1wB,Me;hlo3<>w_fVB:9U+>}/z>qJr?_,K$_^<qU;y>orHX7R*uL3g:nln<9mn3fON%T4V5lKtAm2V)M>x:dAzn_'w}-&0ZYx%Ve=%JDp|mYeJ&:0<E:^XP.iS*gXA5svt$&N=&ZMjWGPZGckFIBK{hxE>$+}_JL2J?ygmOgJwau<|hU~t_naW$x<xjDmj3::hN-p09r+A#%#3I(sIH2Exs-WuYme`:x@HTw$ULCF<6LfjlV<(B>,Cf~t5Hb8j>I*r0d53*x:p4VLj/$)ou-3P?dlqII>8X#L|;y&&Gw~a?m.W(?o+D6-m`n0$ofKK]1Ds-^+z)5Hv:P(h?H2m8u,Q'}IrCSi`1O'TAGEO_#x*D<.9.7w#/1BYBrg:]o3v:,]fiM+r%.8D>Xa|)#0{1=XBse/(jQ.;6|2m@nfc-BkBT%tG,I,SaFOrf<}4*.iggM3PvfPXb5BnL8g9''U@dI:H;S&+:_D+-L'G>WM_6ku$Gb-hUoWCu3<-JTrY8~fi@_9FqnO}|8mi+=2mI_:rttEy>9*j3<^:<rVg{$]7JuM;@_YM6f8>4D(:WDf3vE"
theorem Z0{c:Sort _}{b:Prop}{a:c}:a=a∨b:=Or.inl rfl
theorem Z1{c:Sort _}{b:Prop}{a:c}:b∨a=a:=Or.inr rfl
theorem Xn{b:Type _}{l:fx b}{i:gf}{a:b}(h:l[i]?=fI a):∃h:i<l.length,l[i]=a:=fx.getElem?_eq_some_iff.mp h
theorem Xo{b:Type _}{a:b}{s t:fx b}(h:a∈s++t):a∈s∨a∈t:=fx.mem_append.mp h
theorem Xp{c:Type _}{a b:c}(h:a∈[b]):a=b:=fx.mem_singleton.mp h
theorem Xq{c d:Type _}{f:c->d}{l:fx c}{b:d}(h:b∈l.map f):∃a,a∈l/\f a=b:=Yv.mp h
theorem Xr{c d:Type _}{f:c->d}{l:fx c}{b:d}(h:∃a,a∈l/\f a=b):b∈l.map f:=Yv.mpr h
set_option maxHeartbeats 0
set_option Elab.async false
set_option compiler.extract_closed false
set_option maxRecDepth 100000
section
open PySem
local macro_rules|`(!0)=>`(by decide +kernel)|`(!1)=>`(by decide)|`(!2)=>`(by simp_all)|`(!$s:str)=>`(Str.ofString $s)
local macro_rules|`(↑$h:ident)=>`(by simpa using $h)
theorem sp1{a b c:gf}(h:a-b=c+1):a-(b+1)=c:=nY gf.pred h
local macro_rules|`(tactic|lia)=>`(tactic|first|assumption|exact Nat.le_of_lt ‹_›|exact Nat.le_trans ‹_› (by decide)|exact Nat.lt_of_le_of_lt ‹_› (by decide)|exact Nat.le_trans ‹_› ‹_›|exact Nat.le_add_left _ _|exact Nat.le_antisymm ‹_› (Nat.le_of_not_lt ‹_›)|exact Nat.le_of_not_lt ‹_›|exact Nat.lt_of_le_of_ne ‹_› ‹_›|exact Nat.lt_succ_of_le ‹_›|exact Nat.le_of_eq (Eq.symm ‹_›)|exact Nat.le_add_right _ _|exact Nat.le_of_eq ‹_›|exact Nat.sub_succ_lt_self _ _ ‹_›|exact sp1 ‹_›|exact (Nat.lt_min.mp ‹_›).1|exact (Nat.lt_min.mp ‹_›).2|exact Nat.lt_of_le_of_lt (Nat.le_add_right _ _) ‹_›|exact Nat.lt_of_sub_eq_succ ‹_›|exact Nat.le_antisymm ‹_› (Nat.sub_eq_zero_iff_le.mp ‹_›)|exact Nat.lt_of_lt_of_eq ‹_› (Eq.symm ‹_›)|exact Nat.lt_of_lt_of_eq ‹_› ‹_›|exact Nat.le_trans (Nat.min_le_right _ _) ‹_›|exact Nat.le_trans (Nat.min_le_left _ _) ‹_›|exact Nat.min_le_right _ _|exact Nat.min_le_left _ _|exact Nat.le_succ_of_le ‹_›|(refine Nat.lt_of_le_of_lt (Nat.add_le_add_left ?_ _) ‹_›;decide)|exact Nat.sub_lt ‹_› (by decide)|exact (Nat.sub_add_cancel ‹_›).symm|exact Nat.add_sub_of_le ‹_›|exact Nat.add_lt_of_lt_sub ‹_›|exact Nat.lt_of_lt_of_le ‹_› (Nat.sub_le _ _)|exact Nat.add_lt_of_lt_sub' ‹_›|exact Int.lt_of_le_of_lt (Int.ofNat_le.mpr ‹_›) (by decide)|exact Nat.le_trans ‹_› (Nat.le_trans ‹_› (by decide))|exact Nat.lt_of_lt_of_le ‹_› ‹_›|exact Nat.lt_of_le_of_lt ‹_› ‹_›|exact Nat.lt_trans ‹_› ‹_›|exact Nat.le_trans (Nat.le_of_eq ‹_›) ‹_›|exact Nat.lt_of_le_of_lt (Nat.le_of_eq ‹_›) ‹_›|exact Nat.le_trans ‹_› (Nat.le_of_lt ‹_›)|lia -verbose)
local macro_rules|`(↑$s:str)=>do
 let x:=((s.getString.splitOn " ").map λs=>Lean.Syntax.mkStrLit (s.replace "~" "_law_")).toArray
 `([$x,*])
local macro_rules|`(⋯)=>`(by lia)|`(!_)=>`(by lia)|`(∅)=>`(by simp)
local macro_rules|`(⇑$s:ident)=>`(Shared.heap $s|>.objs.size)
local macro_rules|`($x:ident⁻¹)=>`(wpAny (model ($x).prog ($x).w) ($x).A)
local macro_rules|`($s:ident>>>$e)=>`({$s with heap:=$e})
local macro_rules|`(%[$x,*|$y])=>`(⟨$x,*,$y⟩)
def zqp:Nat->Lean.Syntax->Lean.Syntax
 |n+1,.node i k a=>if k==`«term%[_|_]»then .node i `Lean.Parser.Tactic.rcasesPat.tuple #[.atom i "⟨",.node i `null (a[1]!.getArgs.push (.atom i ",")|>.push a[3]!|>.map λx=>if x.isAtom then x else .node i `Lean.Parser.Tactic.rcasesPatLo #[.node i `Lean.Parser.Tactic.rcasesPatMed #[.node i `null #[zqp n x]],.node i `null #[]]),.atom i "⟩"]else .node i `Lean.Parser.Tactic.rcasesPat.ignore #[.atom i "_"]
 |_,x=>.node .none `Lean.Parser.Tactic.rcasesPat.one #[x]
local macro_rules|`(tactic|have $p:term:=$h)=>if p.raw.isOfKind `«term%[_|_]»then`(tactic|obtain $(⟨zqp 99 p⟩):rcasesPat:=$h)else Lean.Macro.throwUnsupported
local macro_rules|`(tactic|let $d:letDecl)=>`(tactic|have $d:letDecl)|`(tactic|show $e)=>`(tactic|refine $e)
local macro_rules|`(tactic|intro $p*)=>if p.any (·.raw.isOfKind `«term%[_|_]»)then do
  let q:=p.map λx=>(⟨.node .none `Lean.Parser.Tactic.rintroPat.one #[zqp 99 x]⟩:Lean.TSyntax `rintroPat)
  `(tactic|rintro $q*)else Lean.Macro.throwUnsupported
set_option hygiene false in
local macro_rules|`(command|$d:declaration)=>do
 let x:=d.raw[1]
 let b:=x.isOfKind `Lean.Parser.Command.definition
 if x.isOfKind `Lean.Parser.Command.inductive&&x[2][1].isNone&&x[3].isNone then
  let y:=(<-`(inductive q(vs:ZM)(H:Hp)(Q:VK)(E0:XK):Prop)).raw[1][2]
  return d.raw.setArg 1 (x.setArg 2 (y.setArg 0 (Lean.mkNullNode (x[2][0].getArgs++y[0].getArgs))))
 if d.raw[0].getArgs.all (·.isNone)&&(b||x.isOfKind `Lean.Parser.Command.abbrev)then return if b then d.raw.setArg 1 (.node .none `Lean.Parser.Command.theorem #[.atom .none "theorem",x[1],.node .none `Lean.Parser.Command.declSig #[x[2][0],x[2][1][0]],x[3]])else .node .none `Lean.Parser.Command.declaration #[d.raw[0].setArg 4 (Lean.mkNullNode #[.node .none `Lean.Parser.Command.noncomputable #[.atom .none "noncomputable"]]),.node .none `Lean.Parser.Command.definition #[.atom .none "def",x[1],x[2],x[3],Lean.mkNullNode]]
 Lean.Macro.throwUnsupported
set_option hygiene false in
local macro_rules|`(↥$a:ident)=>`(wpAny (model prog w) $a)
set_option hygiene false in
local macro_rules|`(command|#where)=>`(variable{prog:Program}{w:World}{A:Around}{E:ZD}{s:Shared})
set_option hygiene false in
local macro_rules|`(command|#version)=>`(variable{X:Cx}{ff:ZE}{σ:St}{H:Hp}{s:Shared})
nonrec abbrev ZA:=PySem.W.Frag
nonrec abbrev ZB:=fx PySem.Str
nonrec abbrev ZC:=PySem.Str->ij PySem.Value
nonrec abbrev ZD:=PySem.Value->PySem.Shared->Prop
nonrec abbrev ZE:=fx (PySem.Addr×PySem.Obj)
nonrec abbrev ZF:=fx PySem.Value
nonrec abbrev ZG:=fx (PySem.Addr×fx PySem.Str)
nonrec abbrev ZH:=fx (PySem.Addr×PySem.Str×fx PySem.Str)
nonrec abbrev ZI:=ij PySem.Addr
nonrec abbrev ZJ:=mx PySem.Value
nonrec abbrev ZK:=mx (ij PySem.Value)
nonrec abbrev ZL:=fx md
set_option genSizeOf false
set_option genInjectivity false
set_option bootstrap.genMatcherCode false
local macro_rules|`(~~~$x)=>`($(x).length)|`($x<*$y)=>`($x=some (.lst $y))|`($x&&&$y)=>`($x=some (.tup $y))
set_option hygiene false in
local macro_rules|`(tactic|exists $t,$c,$a:ident,$j:ident,$p)=>`(tactic|(refine ($t).cal $c (λH vs Q E h=>?_);have $p:term:=h;refine ⟨rfl,λf $a A outer s $j=>?_⟩))
nonrec theorem ρ{α:Sort _}{a:α}:a=a:=rfl
set_option hygiene false in
local macro_rules|`($x\0)=>`($(x).map λt=>V.ref t.1)|`($x\1)=>`($(x).map (·.1))|`($x\2)=>`($(x).map (·.2))|`($x\3)=>`($(x).map V.str)|`($x\4)=>`($(x).map V.int)|`($x>=$y)=>`($x=some $y)|`($x>$y)=>`($x∈$y)|`($x\5)=>`($(x).length)
namespace _LL
open PySem PySem.Spec PyProof.Rows
noncomputable abbrev Key:=Sum md jz
abbrev kX:Key->hV->on
 | .inl k,v=>W3 k v
 | .inr x,v=>Wj x v
abbrev keyH(w:rM):Key->md
 | .inl k=>hashInt k
 | .inr x=>NG w x
def bA:∀{k:Key} {v:hV},kX k v=gb->(∃i t,k=nX i/\v=Sl i t)\/(∃x t,k=hX x/\v=G2 x t)
 | .inl i,v,h=>by
   let%[t|e]:=hV.isInt_shape h;show .inl %[i,t,rfl|e]
 | .inr x,v,h=>by
   let%[t|e]:=hV.isStrOf_shape h;show .inr %[x,t,rfl|e]
def Bs(i:md)(t:Tok):kX (.inl i) (.int i t)=gb:=by simp[kX,W3]
def eK(x:jz)(t:Tok):kX (.inr x) (.str x t)=gb:=by simp[kX,Wj]
def Ir(a b:md):decide ((nX a:Key)=nX b)=(a==b):=by
 by_cases e:a=b
 .subst e;simp
 simp_all
def Iu(a b:jz):decide ((hX a:Key)=hX b)=decide (a=b):=by
 simp
abbrev aM(prog:mu)(w:rM):PySem.KeyKind prog w Key where
 is:=kX
 hash:=keyH w
 inj:=λv a b ha hb=>by
  rcases bA ha with⟨i,t,rfl,rfl⟩|⟨x,t,rfl,rfl⟩
  .rcases bA hb with⟨j,u,rfl,e⟩|⟨y,u,rfl,e⟩
   .injection e with e1 _;rw[e1]
   .show nomatch e
  .rcases bA hb with⟨j,u,rfl,e⟩|⟨y,u,rfl,e⟩
   .show nomatch e
   .injection e with e1 _;rw[e1]
 byValue:=λk v h=>by
  rcases bA h with⟨i,t,rfl,rfl⟩|⟨x,t,rfl,rfl⟩<;> rfl
 pyHash:=λhv h=>by
  rcases bA hv with⟨i,t,rfl,rfl⟩|⟨x,t,rfl,rfl⟩
  .show wpAny_pyHash_int h
  .show Xv h
 eqBool:=λhu hv h=>by
  rcases bA hu with⟨i,t,rfl,rfl⟩|⟨x,t,rfl,rfl⟩
  .rcases bA hv with⟨j,u,rfl,rfl⟩|⟨y,u,rfl,rfl⟩
   .rw[Ir]at h;show Xz h
   .show TM i t y u _ _ _ _ h
  .rcases bA hv with⟨j,u,rfl,rfl⟩|⟨y,u,rfl,rfl⟩
   .show TL x t j u _ _ _ _ h
   .rw[Iu]at h;show wpAny_eqBool_str h
 «strs»:=λk x t v h=>by
  rcases bA h with⟨i,u,rfl,e⟩|⟨y,u,rfl,e⟩
  .show nomatch e
  .injection e with e1 _
   subst e1;cases v<;> rfl
def wD(prog:mu)(w:rM)(i:md)(t:Tok):(aM prog w).is (.inl i) (.int i t)=gb:=Bs i t
def oG(prog:mu)(w:rM)(x:jz)(t:Tok):(aM prog w).is (.inr x) (.str x t)=gb:=eK x t
set_option genInjectivity true in
inductive V where
 | non|bl (b:on)|int (i:md)|str (x:jz)|byt (b:mx UInt8)|flt (b:UInt64)|ref (a:hW)|ty (n:MX)
 deriving MM
abbrev aY:V->hV->Prop
 | .non,u=>u=M3
 | .bl b,u=>u=XN b
 | .int i,u=>∃t,u=Sl i t
 | .str x,u=>∃t,u=G2 x t
 | .byt b,u=>∃t,u=hV.bytes b t
 | .flt b,u=>∃t,u=hV.float b t
 | .ref a,u=>u=ku a
 | .ty n,u=>u=MS n
nonrec abbrev aQ:fx V->ZF->Prop:=Paired aY
def aQ.length{xs:fx V}{us:ZF}(r:aQ xs us):xs\5=us\5:=Paired.length r
def aQ.get:∀{xs:fx V} {us:ZF} {i:gf} {x:V},aQ xs us->xs[i]?>=x->∃u,us[i]?>=u/\aY x u
 | _,_,_,_,.nil,e=>by simp at e
 | _,_,0,_,.cons r _,e=>by simp at e;subst e;show%[_,ρ|r]
 | _,_,i+1,x,.cons _ t,e=>by
   let%[u,a|b]:=aQ.get t (e);show%[u,a|b]
def aQ.append:∀{xs ys:fx V} {us ws:ZF},aQ xs us->aQ ys ws->aQ (xs++ys) (us++ws)
 | _,_,_,_,.nil,s=>s
 | _,_,_,_,.cons r t,s=> .cons r (aQ.append t s)
def aQ.take:∀{xs:fx V} {us:ZF} n,aQ xs us->aQ (xs.take n) (us.take n)
 | _,_,0,_=> .nil
 | _,_,_+1,.nil=> .nil
 | _,_,n+1,.cons r t=> .cons r (aQ.take n t)
def aQ.drop:∀{xs:fx V} {us:ZF} n,aQ xs us->aQ (xs.drop n) (us.drop n)
 | _,_,0,r=>r
 | _,_,_+1,.nil=> .nil
 | _,_,n+1,.cons _ t=>aQ.drop n t
abbrev iK:ij V->ij hV->Prop
 | fI v,fI u=>aY v u
 | fD,fD=>Po
 | _,_=>yc
abbrev KV{a:Type}:fx (a×V)->fx (a×hV)->Prop:=Paired λp q=>p.1=q.1/\aY p.2 q.2
abbrev kV:Key->V
 | .inl i=> .int i
 | .inr x=> .str x
set_option genInjectivity true in
inductive HO where
 | lst (xs:fx V)
 | tup (xs:fx V)
 | dK (kvs:fx (Key×V))|dT (kvs:fx (fx Key×V))
 | set (S:md->on) (n:gf)
 | ins (C dx:hW) (fs:fx (jz×V))
 | own (x:hW)
 | xd (fs:fx (jz×V))
 | met (f x:hW)
 | rng (lo hi:md)
 | frz (o:NV) (u:HO)
 | tbl (ps:ZJ)
 | ext (φ:su->Prop)
noncomputable abbrev Hp:=hW->ij HO
abbrev Qa(H:Hp)(a:hW)(o:HO):Hp:=λb=>if b=a then fI o else H b
def aa:Qa H a o a>=o:=by unfold Qa;rw[hY rfl]
def ar{H:Hp}{a b:hW}{o:HO}(h:b≠a):Qa H a o b=H b:=by unfold Qa;rw[hH h]
def Am:Qa (Qa H a o) a u=Qa H a u:=by
 funext b;unfold Qa;split<;> rfl
def qc{H:Hp}(h:H a>=o)(h':H b>=u)(d:o≠u):a≠b:=by
 intro e;subst e;rw[h]at h';show d (Za h')
def aC{H:Hp}{a b:hW}{o:HO}(h:H a>=o)(h':H b=fD):a≠b:=by
 lia
section
variable(P:mu)(w:rM)
abbrev ci(H:Hp)(h:su)(a:hW):HO->Prop
 | .lst xs=>xs\5<=iv/\∃(its:ZF) (n:gf),aQ xs its/\h.get? a=fI {cls:= .type "list",data:= .seq its.toArray n}
 | .tup xs=>xs\5<=iv/\∃its:ZF,aQ xs its/\IsTup h a its.toArray
 | .dK b=>b\5<=iv/\(a==Nu)=gi/\∃vs,KV b vs/\h.DictOf (aM P w) a vs
 | .dT b=>b\5<=iv/\(a==Nu)=gi/\∃xs:fx (fx Key×hW×hV),
  Paired (λ(p:fx Key×V) (q:fx Key×hW×hV)=>p.1=q.1/\H q.2.1&&&p.1.map kV/\aY p.2 q.2.2) b xs/\
  ∃o g l,h.get? a>=o/\o.ExactDict/\o.data= .dict g l/\g.toList=xs.map (entryOfKey (Tk (aM P w)))/\(xs\1).Nodup
 | .set S n=>h.SetOf (intKind P w) a S n
 | .ins C d fs=>H d>=.own a/\fs\5<=1000/\d≠a/\h.get? a>=TZ C d/\
  ∃c,h.Ns1 d c/\(∀f,iK (fs.lookup f) (c f))/\PySem.Within c (fs\1)
 | .own _=>∃o,h.get? a>=o
 | .xd fs=>∃c,h.Ns1 a c/\∀f,iK (fs.lookup f) (c f)
 | .rng lo hi=>∃t u v,h.get? a=fI {cls:= .type "range",data:= .fields #[.int lo t,.int hi u,.int 1 v]}
 | .frz o u=>h.get? a>=o/\ci H h a u
 | .tbl ps=>h.get? a=fI {cls:= .none,data:= .fields ps}
 | .met f x=>h.get? a>=PySem.W.methodObj (.ref f) (.ref x)
 | .ext e=>e h/\(∃o,h.get? a>=o)/\∀i j,e i->(∀o,i.get? a>=o->j.get? a>=o)->e j
abbrev HOk(H:Hp)(h:su):Prop:=∀a o,H a>=o->ci P w H h a o
end
section
variable{P:mu}{w:rM}{H H':Hp}{h h':su}{a:hW}{o:HO}
def ci.lt(x:ci P w H h a o):a<h.objs.size:=by
 cases o with
 | lst xs=>have%[_,_,_,_|e]:=x;show Zu e
 | tup xs=>have%[_,_,_|p]:=x;show p.lt
 | dK b=>have%[_,_,_,_,o,_,_,e|_]:=x;show Zu e
 | dT b=>have%[_,_,_,_,o,_,_,e|_]:=x;show Zu e
 | set S n=>have%[o,_,_,_,e|_]:=x;show Zu e
 | ins C c fs=>have%[_,_,_,e|_]:=x;show Zu e
 | own y=>have%[_|e]:=x;show Zu e
 | xd fs=>have%[_,%[_,_,_,e|_]|_]:=x;show Zu e
 | rng lo hi=>have%[_,_,_|e]:=x;show Zu e
 | frz d u=>have%[e|_]:=x;show Zu e
 | tbl ps=>show Zu (x)
 | met f y=>show Zu (x)
 | ext g=>have%[_,%[_|e]|_]:=x;show Zu e
def Paired.mapP{F G:c->d->Prop}:∀{l₁:fx c} {l₂:fx d},Paired F l₁ l₂->(∀a b,F a b->G a b)->Paired G l₁ l₂
 | _,_,.nil,_=> .nil
 | _,_,.cons r t,f=> .cons (f _ _ r) (Paired.mapP t f)
def ci.stay(x:ci P w H h a o)(k:∀b u,(b=a\/H b>=.own a)->h.get? b>=u->h'.get? b>=u)
 (s:∀b,H b>=.own a->H' b>=.own a) (A:∀b xs,H b&&&xs->H' b&&&xs):ci P w H' h' a o:=by
 induction o with
 | lst xs=>have%[z,its,n,r|e]:=x;show%[z,its,n,r|k _ _ (.inl rfl) e]
 | tup xs=>have%[z,its,r,g,e|c]:=x;show%[z,its,r,g,k _ _ (.inl rfl) e|c]
 | dK l=>have%[z,y,vs,r,g,i,j,e|c]:=x;show%[z,y,vs,r,g,i,j,k _ _ (.inl rfl) e|c]
 | dT l=>
   let%[z,y,xs,r,g,i,j,e|c]:=x;show%[z,y,xs,Paired.mapP r λp q z=>%[z.1,A _ _ z.2.1|z.2.2],g,i,j,k _ _ (.inl rfl) e|c]
 | set S n=>have%[g,i,j,t,e|c]:=x;show%[g,i,j,t,k _ _ (.inl rfl) e|c]
 | ins C G fs=>
   let%[d,z,ne,e,m,%[od,i,j,B|c]|r]:=x;show%[s _ d,z,ne,k _ _ (.inl rfl) e,m,%[od,i,j,k _ _ (.inr d) B|c]|r]
 | own y=>have%[g|e]:=x;show%[g|k _ _ (.inl rfl) e]
 | xd fs=>have%[m,%[od,i,j,e|c]|r]:=x;show%[m,%[od,i,j,k _ _ (.inl rfl) e|c]|r]
 | rng lo hi=>have%[t,u,v|e]:=x;show%[t,u,v|k _ _ (.inl rfl) e]
 | frz g u E=>have%[e|q]:=x;show%[k _ _ (.inl rfl) e|E q]
 | tbl ps=>
   show k a _ (.inl rfl) x
 | met f y=>
   show k a _ (.inl rfl) x
 | ext I=>have%[p,%[o|e]|st]:=x;show%[st _ _ p λo q=>k _ _ (.inl rfl) q,%[o|k _ _ (.inl rfl) e]|st]
def HOk.lt(x:HOk P w H h)(e:H a>=o):a<h.objs.size:=(x a o e).lt
def HOk.fresh(x:HOk P w H h)(e:h.objs.size<=a):H a=fD:=by
 cases q:H a with
 | none=>rfl
 | some u=>show lr (Zg (x.lt q) e) (Xl _)
def HOk.kept(x:HOk P w H h)(k:∀b u,h.get? b>=u->h'.get? b>=u):HOk P w H h':=λa o e=>
 (x a o e).stay (λb u _ q=>k b u q) (λ_ q=>q) λ_ _ q=>q
def HOk.laid(x:HOk P w H h)(k:∀b u,h.get? b>=u->h'.get? b>=u)(g:h.objs.size<=a)(new:ci P w (Qa H a o) h' a o):HOk P w (Qa H a o) h':=λb u e=>by
 let d:=x.fresh g;by_cases f:b=a
 .subst f;rw[aa]at e;grind
 .rw[ar f]at e;show(x b u e).stay (λc v _ q=>k c v q) (λc q=>(ar (aC q d))▸q) λc xs q=>(ar (aC q d))▸q
end
abbrev Rd(H:Hp)(a:hW)(u:HO):Prop:=H a>=u\/∃o,H a>=.frz o u
def Rd.ok{P:mu}{w:rM}{H:Hp}{h:su}{a:hW}{u:HO}(r:Rd H a u)(x:HOk P w H h):ci P w H h a u:=by
 rcases r with r|⟨o,r⟩
 .show x a u r
 .let%[_|q]:=x a _ r;show q
abbrev Mut:ij HO->Prop
 | fI (.lst _)=>Po
 | fI (.dK _)=>Po
 | fI (.dT _)=>Po
 | fI (.set _ _)=>Po
 | fI (.ins _ _ _)=>Po
 | fI (.ext _)=>Po
 | _=>yc
section
variable{P:mu}{w:rM}{H:Hp}{h h':su}{x e:hW}{o':HO}
def HOk.write(ok:HOk P w H h)(g:Mut (H x))(m:e=x\/H e>=.own x)(k:∀b u,b≠e->h.get? b>=u->h'.get? b>=u)(i:∃u,h'.get? e>=u)
 (new:ci P w (Qa H x o') h' x o'):HOk P w (Qa H x o') h':=λb u q=>by
 let d:∀c y,H c>=.own y->c≠x:=λc y r z=>by subst z;rw[r]at g;show g
 let f:∀c xs,H c&&&xs->c≠x:=λc xs r z=>by subst z;rw[r]at g;show g
 by_cases j:b=x
 .subst j;rw[aa]at q;grind
 .rw[ar j]at q;by_cases a:b=e
  .let l:H b>=.own x:=by
    rcases m with z|z
    .show lr (a.trans z) j
    .show a▸z
   rw[q]at l;cases l;let%[v|n]:=i;show%[v|a▸n]
  .show(ok b u q).stay (λc v o r=>k c v ?_ r) (λc r=>(ar (d c b r))▸r) λc xs r=>(ar (f c xs r))▸r
   grind
end
structure Un (fs ex:fx hW) (H H':Hp) (h h':su):Prop where
 keep:∀b o,h.get? b>=o->H b=fD->b∉fs->b∉ex->h'.get? b>=o
 slot:∀b o,h.get? b>=o->H b=fD->b>fs->b∉ex->∃sl,h'.get? b=fI {o with slots:=sl}
 free:∀b o,h.get? b>=o->H b=fD->b∉ex->H' b=fD
 there:∀b o,h.get? b>=o->b∉ex->∃o',h'.get? b>=o'
 tups:∀b xs,H b&&&xs->H' b&&&xs
 frzs:∀b o u,H b>=.frz o u->H' b>=.frz o u
 tbls:∀b ps,H b>=.tbl ps->∃more,H' b>=.tbl (ps++more)
section
variable{fs fs' ex ex':fx hW}{H H1 H2:Hp}{h h1 h2 h':su}{a x e:hW}{o:HO}
def Un.any(u:Un fs ex H H1 h h1)(q:h.get? b>=c)(n:H b=fD)(d:b∉ex):∃g,h1.get? b=fI {c with slots:=g}:=by
 by_cases f:b>fs
 .show u.slot b c q n f d
 .show%[c.slots|u.keep b c q n f d]
def Un.trans(a:Un fs ex H H1 h h1)(b:Un fs ex H1 H2 h1 h2):Un fs ex H H2 h h2 where
 keep:=λc ob q n hc hx=>b.keep c ob (a.keep c ob q n hc hx) (a.free c ob q n hx) hc hx
 slot:=λc ob q n hc hx=>by
  let%[sl|e1]:=a.slot c ob q n hc hx;let%[sl'|e2]:=b.slot c _ e1 (a.free c ob q n hx) hc hx;show%[sl'|e2]
 free:=λc ob q n hx=>by
  let%[o'|e1]:=a.there c ob q hx;show b.free c o' e1 (a.free c ob q n hx) hx
 there:=λc ob q hx=>by
  let%[o'|e1]:=a.there c ob q hx;show b.there c o' e1 hx
 tups:=λc xs q=>b.tups c xs (a.tups c xs q)
 frzs:=λc ob xs q=>b.frzs c ob xs (a.frzs c ob xs q)
 tbls:=λc ps q=>by
  let%[m1|e1]:=a.tbls c ps q;let%[m2|e2]:=b.tbls c _ e1;show%[m1++m2|by rw[e2,U1]]
def Un.kept(k:∀b u,h.get? b>=u->h'.get? b>=u):Un fs ex H H h h':=
 %[λb c q _ _ _=>k b c q,λb c q _ _ _=>%[c.slots|k b c q],λ_ _ _ n _=>n,λb c q _=>%[c|k b c q],λ_ _ q=>q,λ_ _ _ q=>q|λ_ ps q=>%[#[]|by rw[q];simp]]
def Un.refl:Un fs ex H H h h:=Un.kept λ_ _ q=>q
def Un.laid(k:∀b u,h.get? b>=u->h'.get? b>=u)(hp:h.objs.size<=a)(hn:H a=fD):Un fs ex H (Qa H a o) h h' where
 keep:=λb u q _ _ _=>k b u q
 slot:=λb u q _ _ _=>%[u.slots|k b u q]
 free:=λb u q n _=>(ar (Zs (Zg (Zu q) hp)))▸n
 there:=λb u q _=>%[u|k b u q]
 tups:=λb xs q=>(ar (aC q hn))▸q
 frzs:=λb u xs q=>(ar (aC q hn))▸q
 tbls:=λb ps q=>%[#[]|by rw[ar (aC q hn),q];simp]
def Un.write(f:Mut (H x))(l:e=x\/H e>=.own x)(k:∀b u,b≠e->h.get? b>=u->h'.get? b>=u)(i:∃u,h'.get? e>=u):Un fs ex H (Qa H x o) h h':=by
 let j:∀b,H b=fD->b≠x:=λb n z=>by subst z;rw[n]at f;show f
 let g:∀b,H b=fD->b≠e:=λb n z=>by
  simp_all
 let c:∀b u,H b>=u-> ¬ Mut (fI u)->b≠x:=λb u q m z=>!2
 show%[λb u q n _ _=>k b u (g b n) q,λb u q n _ _=>%[u.slots|k b u (g b n) q],λb u q n _=>(ar (j b n))▸n,λb u q _=>?_,
  λb xs q=>(ar (c b _ q λz=>z))▸q,λb u xs q=>(ar (c b _ q λz=>z))▸q|λb ps q=>%[#[]|by rw[ar (c b _ q λz=>z),q];simp]]
 by_cases d:b=e
 .simp_all
 .show%[u|k b u d q]
end
abbrev trk(h:su)(H:Hp):fx hW:=(kj h.objs.size).filter λa=>(H a).isSome
abbrev Bt(h:su)(H:Hp):su:=hideAll h (trk h H)
def Bu(h:su)(H:Hp):(Bt h H).objs.size=h.objs.size:=PySem.W.hideAll_size _ _
def CV(e:h.get? b>=o)(n:H b=fD):(Bt h H).get? b>=o:=
 hideAll_get _ e λa=>by
  let q:=(kw.mp a).2;rw[n]at q;simp at q
def FY(e:(Bt h H).get? b>=o):h.get? b>=o/\H b=fD:=by
 let a:=of_hideAll _ e;show%[a|?_];cases q:H b with
 | none=>rfl
 | some x=>
   let z:(Bt h H).get? b=fD:=PySem.W.hideAll_none _ (kw.mpr %[vj.mpr (Zu a)|by simp[q]])
   grind
abbrev FZ(g h:su)(L:hW):ZE:=(kj h.objs.size).filterMap λa=>if a=L\/(g.get? a).isSome=gb then fD else(h.get? a).map λo=>(a,o)
abbrev rest(g h:su)(L d:hW):ZE:=(FZ g h L).filter λp=>decide (p.1≠d)
structure Mod (K:ZA) (mg:ZC) (base:su):Prop where
 kin:K.In base
 glob:base.Ns r0 mg
 blt:∃mb,base.Ns WC mb/\∀x:jz,x≠"__name__"->mb x=Nz x
 nolimit:base.NoLimit
structure Cx where
 prog:mu
 w:rM
 K:ZA
 mg:jz->ij hV
 base:su
 A:ri
 N:ZB
 s₀:jg
 H₀:Hp
 env:Env
 outer:fx Env
 stack:fx Env
 ex:fx hW
 fn:jz->on
 calm:on
 pn:ZE
 xe:hV->jg->Prop
abbrev frs(l:fx Env):fx hW:=l.filterMap (·.frame)
noncomputable abbrev Cx.fs(X:Cx):fx hW:=frs X.outer
abbrev Vis(a:R3)(x:jz):Prop:=a.names.lookup x>=.local\/a.names.lookup x>=.cell\/a.names.lookup x>=.free
abbrev Loc(a:R3)(x:jz):Prop:=a.names.lookup x>=.local\/a.names.lookup x>=.cell
abbrev Look(env:Env)(h:su)(m:ZC)(x:jz)(u:hV):Prop:=
 (env.kindOf x>=.local/\m x>=u)\/((env.kindOf x>=.cell\/env.kindOf x>=.free)/\∃c,env.cells.lookup x>=c/\h.IsCell c (fI u))
structure Cx.Ok (X:Cx):Prop where
 mod:Mod X.K X.mg X.base
 kind:X.env.scope.kind= .function
 glob:X.env.globals=r0
 blt:X.env.builtins=WC
 above:X.s₀.heap.objs.size<=X.env.locals
 inj:∀x y c,X.env.cells.lookup x>=c->X.env.cells.lookup y>=c->x=y
 has:∀x,(X.env.kindOf x>=.cell\/X.env.kindOf x>=.free)->∃c,X.env.cells.lookup x>=c
 cab:∀x c,X.fn x=gb->X.env.cells.lookup x>=c->X.s₀.heap.objs.size<=c
 hd:X.calm=gb->X.A.handled=fD
 frames:X.A.frames>=X.stack
 stk:X.stack=X.outer\/(X.stack=X.env::X.outer/\X.env.frame>=X.env.locals)
 exf:∀b>X.ex,b≠X.env.locals/\∀x c,X.env.cells.lookup x>=c->c≠b
 bs:∀b o,X.base.get? b>=o->X.s₀.heap.get? b>=o/\X.H₀ b=fD
 bsz:X.base.objs.size<=X.s₀.heap.objs.size
 noex:∀b o,X.base.get? b>=o->b∉X.ex
 exfs:∀b>X.ex,b∉X.fs
 funs:X.s₀.heap.FunFrames X.base X.outer
 frf:∀b>X.fs,X.H₀ b=fD
structure Qc (X:Cx) (ff:fx _) (σ:fx _) (H:Hp) (s:jg):Prop where
 ok:X.Ok
 os:s.os=X.s₀.os
 bare:QK s.gens
 base:Un X.fs X.ex X.H₀ H X.s₀.heap s.heap
 loc:∃m,s.heap.Ns X.env.locals m/\∀(i:gf) x v,X.N[i]?>=x->σ[i]?>=fI v->Vis X.env.scope x->∃u,aY v u/\Look X.env s.heap m x u
 cell:∀x c,X.env.cells.lookup x>=c->∃v,s.heap.IsCell c v
 free:H X.env.locals=fD
 freeC:∀x c,X.env.cells.lookup x>=c->H c=fD
 pin:∀p>X.pn++ff,s.heap.get? p.1>=p.2/\H p.1=fD/\p.1≠X.env.locals/\p.1∉X.fs/\∀v,p.2.data≠ .cell v
 hok:HOk X.prog X.w H s.heap
 len:σ.length=X.N\5
section
variable{X:Cx}{ff:ZE}{σ:fx (ij V)}{H H':Hp}{s:jg}{h':su}
def Cx.Ok.nofr(ok:X.Ok)(e:X.base.get? b>=o):b∉X.fs:=λa=>by
 let:=(ok.funs.mem a).1
 grind
def Qc.bs(I:Qc X ff σ H s):∀b o,X.base.get? b>=o->s.heap.get? b>=o/\H b=fD:=λb o e=>
 %[I.base.keep b o (I.ok.bs b o e).1 (I.ok.bs b o e).2 (I.ok.nofr e) (I.ok.noex b o e)|I.base.free b o (I.ok.bs b o e).1 (I.ok.bs b o e).2 (I.ok.noex b o e)]
def Qc.bk(I:Qc X ff σ H s):∀b o,X.base.get? b>=o->s.heap.get? b>=o:=λb o e=>(I.bs b o e).1
def Qc.mod(I:Qc X ff σ H s):Mod X.K X.mg X.base:=I.ok.mod
def Qc.kIn(I:Qc X ff σ H s):X.K.In s.heap:=I.ok.mod.kin.keeps I.bk
def Qc.lt(I:Qc X ff σ H s):X.env.locals<⇑s:=let⟨_,a,_⟩:=I.loc;a.lt
def Qc.sz(I:Qc X ff σ H s):X.s₀.heap.objs.size<=⇑s:=lx I.ok.above (Yd I.lt)
def Qc.nofs(I:Qc X ff σ H s)(h:⇑s<=a):a∉X.fs:=λb=>by
 let%[_,o,c|_]:=I.ok.funs.mem b;show lr (Zg (Zu c) (lx I.sz h)) (Xl _)
def Qc.cne(I:Qc X ff σ H s):∀x c,X.env.cells.lookup x>=c->c≠X.env.locals:=λx c e z=>by
 let%[v,o,d|f]:=I.cell x c e;let%[m,%[g,h,i,a,b|_]|_]:=I.loc
 grind
def Qc.funs(I:Qc X ff σ H s):s.heap.FunFrames X.base X.outer:=by
 let all:∀l,(∀b>frs l,b>X.fs)->X.s₀.heap.FunFrames X.base l->s.heap.FunFrames X.base l:=by
  intro l
  induction l with
  | nil=>intro _ _;trivial
  | cons env r g=>
    intro f h;let%[i,%[L,o,a,j,m|n]|p]:=h;let c:=f L (by unfold frs;rw[Y0,a];show Zm);let%[q|e]:=I.base.slot L o m (I.ok.frf L c) c λz=>I.ok.exfs L z c
    show%[i,%[L,_,a,j,e|n]|g (λb d=>f b (by unfold frs;rw[Y0,a];show Zk _ d)) p]
 show all X.outer (λ_ d=>d) I.ok.funs
def Qc.stack(I:Qc X ff σ H s):s.heap.FunFrames X.base X.stack:=by
 rcases I.ok.stk with e|⟨e,a⟩
 .show e▸I.funs
 .rw[e];let%[m,b|_]:=I.loc;show .cons (by rw[I.ok.kind];decide) a b (su.get?_none_of_le (lx I.ok.bsz I.ok.above)) I.funs
def Qc.stkSub(I:Qc X ff σ H s):∀b>frs X.stack,b>X.env.locals::X.fs:=λb a=>by
 rcases I.ok.stk with e|⟨e,c⟩
 .rw[e]at a;show Zk _ a
 .rw[e]at a;unfold frs at a;rw[Y0,c]at a;show a
def Qc.stkFree(I:Qc X ff σ H s):∀b>frs X.stack,H b=fD:=λb a=>by
 rcases Yu.mp (I.stkSub b a)with e|a
 .show e▸I.free
 .let%[_,o,c|_]:=I.ok.funs.mem a;show I.base.free b o c (I.ok.frf b a) λz=>I.ok.exfs b z a
def Qc.step{T:Drawn}{ch:fx hW}(I:Qc X ff σ H s)
 (f:∀b>ch,(b>X.ex\/X.s₀.heap.objs.size<=b)/\b≠X.env.locals/\(∀x c,X.env.cells.lookup x>=c->c≠b)/\∀p>X.pn++ff,p.1≠b)
 (keep:∀b o,b≠X.env.locals->b∉X.fs->b∉ch->s.heap.get? b>=o->H b=fD->h'.get? b>=o)
 (slot:∀b o,b≠X.env.locals->b>X.fs->b∉ch->s.heap.get? b>=o->H b=fD->∃G,h'.get? b=fI {o with slots:=G}) (free:∀b o,b∉ch->s.heap.get? b>=o->H b=fD->H' b=fD)
 (there:∀b o,b∉ch->s.heap.get? b>=o->∃B,h'.get? b>=B)
 (tups:∀b xs,H b&&&xs->H' b&&&xs) (frzs:∀b o u,H b>=.frz o u->H' b>=.frz o u) (tbls:∀b ps,H b>=.tbl ps->∃more,H' b>=.tbl (ps++more))
 (U:∀m,s.heap.Ns X.env.locals m->h'.Ns X.env.locals m) (J:HOk X.prog X.w H' h') (Y:QK g'):
 Qc X ff σ H' {s with heap:=h',gens:=g',drawn:=T,toks:=t'}:=by
 let C:∀b o,X.s₀.heap.get? b>=o->b≠X.env.locals:=λb o e=>Zs (Zg (Zu e) I.ok.above)
 let j:∀b o,X.s₀.heap.get? b>=o->b∉X.ex->b∉ch:=λb o e a y=>by
  rcases(f b y).1 with z|z
  .show a z
  .show lr (Zg (Zu e) z) (Xl _)
 let g:∀x c,X.env.cells.lookup x>=c->∀v,s.heap.IsCell c v->h'.IsCell c v:=λx c e v ⟨o,A,L⟩=>by
  let h:=λz=>(f c z).2.2.1 x c e rfl
  by_cases N:c>X.fs
  .let%[G|q]:=slot c o (I.cne x c e) N h A (I.freeC x c e);show%[_,q|L]
  .show%[o,keep c o (I.cne x c e) N h A (I.freeC x c e)|L]
 show%[I.ok,I.os,Y,%[λb o e n y a=>?_,λb o e n y a=>?_,λb o e n a=>?_,λb o e a=>?_,λb xs e=>tups b xs (I.base.tups b xs e),λb o xs e=>frzs b o xs (I.base.frzs b o xs e)|λb ps e=>?_],?_,λx c e=>?_,?_,λx c e=>?_,λp O=>?_,J|I.len]
 .show keep b o (C b o e) y (j b o e a) (I.base.keep b o e n y a) (I.base.free b o e n a)
 .let%[G|w]:=I.base.slot b o e n y a;let%[M|E]:=slot b _ (C b o e) y (j b o e a) w (I.base.free b o e n a);show%[M|E]
 .let%[B|w]:=I.base.there b o e a;show free b B (j b o e a) w (I.base.free b o e n a)
 .let%[B|w]:=I.base.there b o e a;show there b B (j b o e a) w
 .let%[m1|w]:=I.base.tbls b ps e;let%[m2|E]:=tbls b _ w;show%[m1++m2|by rw[E,U1]]
 .let%[m,hn|hl]:=I.loc;show%[m,U m hn|λi x v w E e3=>?_];let%[u,r|l]:=hl i x v w E e3;show%[u,r|?_];rcases l with l|⟨k,c,e,z⟩
  .show .inl l
  .show .inr %[k,c,e|g x c e _ z]
 .let%[v|z]:=I.cell x c e;show%[v|g x c e v z]
 .let%[m,%[o,_,_,A|_]|_]:=I.loc;show free _ o (λz=>(f _ z).2.1 rfl) A I.free
 .let%[v,o,A|L]:=I.cell x c e;show free c o (λz=>(f c z).2.2.1 x c e rfl) A (I.freeC x c e)
 .let%[e,n,ne,Q|d]:=I.pin p O;let h:=λz=>(f p.1 z).2.2.2 p O rfl
  show%[keep p.1 p.2 ne Q h e n,free p.1 p.2 h e n,ne,Q|d]
def Qc.un{t':gf}(I:Qc X ff σ H s)(u:Un X.fs [] H H' s.heap h')(c:HOk X.prog X.w H' h'):Qc X ff σ H' {s with heap:=h',toks:=t'}:=by
 let%[m,%[o,p,q,h|r]|_]:=id I.loc;let%[v|i]:=u.any h I.free ∅;show I.step (ch:=[]) (λ_ z=>nomatch z) (λb o _ d _ e n=>u.keep b o e n d ∅) (λb o _ d _ e n=>u.slot b o e n d ∅) (λb o _ e n=>u.free b o e n ∅) (λb o _ e=>u.there b o e ∅) u.tups u.frzs u.tbls (λw j=>by
  let%[y,f,g,a|l]:=j;rw[h]at a;cases a;show%[_,f,g,i|l]) c I.bare
def Qc.call{q:Drawn}{ch:fx hW}(I:Qc X ff σ H s)(u:Un (frs X.stack) ch H H' s.heap h')(g:HOk X.prog X.w H' h')(v:QK w)
 (d:∀b>ch,(b>X.ex\/X.s₀.heap.objs.size<=b)/\b≠X.env.locals/\(∀x c,X.env.cells.lookup x>=c->c≠b)/\∀p>X.pn++ff,p.1≠b):
 Qc X ff σ H' {s with heap:=h',gens:=w,drawn:=q,toks:=t'}:=by
 let%[m,%[o,C,E,l|r]|_]:=id I.loc;let%[G|h]:=u.any l I.free λz=>(d _ z).2.1 rfl
 show I.step d (λb o h y a e n=>u.keep b o e n (λz=>(Yu.mp (I.stkSub b z)).elim h y) a) (λb o _ _ a e n=>u.any e n a) (λb o a e n=>u.free b o e n a) (λb o a e=>u.there b o e a) u.tups u.frzs u.tbls (λJ A=>by
  let%[L,i,j,f|B]:=A;rw[l]at f;cases f;show%[_,i,j,h|B]) g v
def Qc.turned{it:hW}(I:Qc X ff σ H s)(k:∀b o,b≠it->s.heap.get? b>=o->h'.get? b>=o)(B:H it=fD)(f:it≠X.env.locals)
 (g:it>X.ex\/X.s₀.heap.objs.size<=it) (h:∀x c,X.env.cells.lookup x>=c->c≠it) (i:∀p>X.pn++ff,p.1≠it):Qc X ff σ H {s with heap:=h',toks:=t'}:=by
 let d:∀b u,H b>=u->b≠it:=λb u e z=>by lia
 show I.step (ch:=[it]) (λb j=>?_) (λb o _ _ a e _=>k b o (λz=>a (by simp[z])) e) (λb o _ _ a e _=>%[o.slots|k b o (λz=>a (by simp[z])) e]) (λ_ _ _ _ n=>n)
  (λb o a e=>%[o|k b o (λz=>a (by simp[z])) e]) (λ_ _ e=>e) (λ_ _ _ e=>e) (λb ps e=>%[#[]|by rw[e];simp]) (λm l=>?_) (λb u e=>?_) I.bare
 .let e:=↑j
  subst e;show%[g,f,h|i]
 .let%[o,w,y,A|r]:=l;show%[o,w,y,k _ o (wh f) A|r]
 .show(I.hok b u e).stay (λc v a q=>k c v ?_ q) (λ_ q=>q) λ_ _ q=>q
  rcases a with z|z
  .show z▸d b u e
  .show d c _ z
def Qc.tok(I:Qc X ff σ H s)(t:gf):Qc X ff σ H {s with toks:=t}:=I.un Un.refl I.hok
def Qc.kept(I:Qc X ff σ H s)(k:∀b u,s.heap.get? b>=u->h'.get? b>=u):Qc X ff σ H {s with heap:=h',toks:=t'}:=I.un (Un.kept k) (I.hok.kept k)
def Qc.laid{a:hW}{o:HO}{t':gf}(I:Qc X ff σ H s)(k:∀b u,s.heap.get? b>=u->h'.get? b>=u)(c:⇑s<=a)(new:ci X.prog X.w (Qa H a o) h' a o):
 Qc X ff σ (Qa H a o) {s with heap:=h',toks:=t'}:=I.un (Un.laid k c (I.hok.fresh c)) (I.hok.laid k c new)
def Qc.write(I:Qc X ff σ H s)(c:Mut (H x))(d:e=x\/H e>=.own x)(k:∀b u,b≠e->s.heap.get? b>=u->h'.get? b>=u)(a:∃u,h'.get? e>=u)
 (new:ci X.prog X.w (Qa H x o) h' x o):Qc X ff σ (Qa H x o) {s with heap:=h',toks:=t'}:=I.un (Un.write c d k a) (I.hok.write c d k a new)
def Qc.pins_of(I:Qc X ff σ H s)(h:∀p>a,s.heap.get? p.1>=p.2/\H p.1=fD/\p.1≠X.env.locals/\p.1∉X.fs/\∀v,p.2.data≠ .cell v):Qc X a σ H s:=
 %[I.ok,I.os,I.bare,I.base,I.loc,I.cell,I.free,I.freeC,λp b=>(Xo b).elim (λz=>I.pin p (Ys _ z)) (h p),I.hok|I.len]
def iL{N:ZB}(c:N.Nodup){i j:gf}{x:jz}(a:N[i]?>=x)(b:N[j]?>=x):i=j:=by
 let%[f|d]:=Xn a;let%[g|e]:=Xn b;show(fx.getElem_inj c).mp (d.trans e.symm)
def Bv{A:ri}{E:ZD}{i:gf}{x:jz}{v:V}{u:hV}{Q:S4->jg->Prop}(I:Qc X ff σ H s)(hN:X.N.Nodup)(hi:X.N[i]?>=x)(B:Loc X.env.scope x)(r:aY v u)
 (h:∀s',Qc X ff (σ.set i (fI v)) H s'->(∃a,q7 a s.heap s'.heap/\(a=X.env.locals\/X.env.cells.lookup x>=a))->Q () s') (hf:X.fn x=gb\/X.env.scope.names.lookup x>=.local):pw M A (storeName X.env x u) Q E s:=by
 let%[m,hn|hl]:=id I.loc;let J:i<σ.length:=I.len▸(Xn hi).1;let cne:=I.cne;let g:∀{a:hW} {h':su},(∃o,s.heap.get? a>=o/\H a=fD)->q7 a s.heap h'->HOk X.prog X.w H h':=λ{a h'} ha f b ob e=>by
  let%[_,_|C]:=ha;show(I.hok b ob e).stay (λc w' w q=>(f.2 c ?_).trans q) (λ_ q=>q) λ_ _ q=>q
  rintro rfl;rcases w with rfl|w
  .rw[C]at e;cases e
  .rw[C]at w;cases w
 rcases B with L|L
 .show wpAny_storeName_local L hn (λh' ae f=>?_) (by rw[I.ok.kind];rfl);let%[oL,_,_,ag|_]:=id hn;show h _ %[I.ok,I.os,I.bare,%[λb o e n N B=>?_,λb o e n N B=>?_,I.base.free,λb o e B=>?_,I.base.tups,I.base.frzs|I.base.tbls],%[_,ae|λj y v' l G e3=>?_],λy c e=>?_,I.free,I.freeC,λp hp=>?_,g %[oL,ag|I.free] f|by simpa using I.len] %[_,f|.inl rfl]
  .show(f.2 b (Zs (Zg (Zu e) I.ok.above))).trans (I.base.keep b o e n N B)
  .let%[sl|l]:=I.base.slot b o e n N B;show%[sl|(f.2 b (Zs (Zg (Zu e) I.ok.above))).trans l]
  .let%[o'|l]:=I.base.there b o e B;show%[o'|(f.2 b (Zs (Zg (Zu e) I.ok.above))).trans l]
  .by_cases O:j=i
   .subst O;rw[hi]at l;cases l;rw[T7 J]at G;cases G;show%[u,r|.inl %[L|by simp]]
   .rw[Rg (wh O)]at G;let%[u',r'|q]:=hl j y v' l G e3;show%[u',r'|?_];rcases q with⟨k,e⟩|⟨k,c,e,z⟩
    .show .inl %[k|?_];let:y≠x:=λe=>O (iL hN l (e▸hi))
     simp[this,e]
    .show .inr %[k,c,e|z.sameBut f (cne y c e)]
  .let%[w'|z]:=I.cell y c e;show%[w'|z.sameBut f (cne y c e)]
  .let%[e,n,ne,nf|d]:=I.pin p hp;show%[(f.2 p.1 ne).trans e,n,ne,nf|d]
 .let T:X.fn x=gb:=by
   rcases hf with z|z
   .show z
   .rw[z]at L;cases L
  let%[c|w]:=I.ok.has x (.inl L);let%[w'|z]:=I.cell x c w;show wpAny_storeName_cell I.ok.kind L w z (λh' U f=>?_);let%[oc,Y|ab]:=id z;show h _ %[I.ok,I.os,I.bare,%[λb o e n N B=>?_,λb o e n N B=>?_,I.base.free,λb o e B=>?_,I.base.tups,I.base.frzs|I.base.tbls],%[m,hn.sameBut f (wh (cne x c w))|λj y v' l G e3=>?_],λy c' e=>?_,I.free,I.freeC,λp hp=>?_,g %[oc,Y|I.freeC x c w] f|by simpa using I.len] %[c,f|.inr w]
  .show(f.2 b (Zs (Zg (Zu e) (I.ok.cab x c T w)))).trans (I.base.keep b o e n N B)
  .let%[sl|l]:=I.base.slot b o e n N B;show%[sl|(f.2 b (Zs (Zg (Zu e) (I.ok.cab x c T w)))).trans l]
  .let%[o'|l]:=I.base.there b o e B;show%[o'|(f.2 b (Zs (Zg (Zu e) (I.ok.cab x c T w)))).trans l]
  .by_cases O:j=i
   .subst O;rw[hi]at l;cases l;rw[T7 J]at G;cases G;show%[u,r|.inr %[.inl L,c,w|U]]
   .rw[Rg (wh O)]at G;let%[u',r'|q]:=hl j y v' l G e3;show%[u',r'|?_];rcases q with q|⟨k,c',e,z'⟩
    .show .inl q
    .show .inr %[k,c',e|z'.sameBut f ?_];rintro rfl;show O (iL hN l (I.ok.inj _ _ _ e w▸hi))
  .by_cases ac:c'=c
   .subst ac;show%[_|U]
   .let%[w2|z2]:=I.cell y c' e;show%[w2|z2.sameBut f ac]
  .let%[e,n,ne,nf|d]:=I.pin p hp;show%[(f.2 p.1 ?_).trans e,n,ne,nf|d];intro q;rw[q,Y]at e;show d w' ((Za e)▸ab)
def iM(I:Qc X ff σ H s)(a:X.N.Nodup)(hi:X.N[i]?>=x)(b:Loc X.env.scope x)(r:aY v u)
 (h:∀s',Qc X ff (σ.set i (fI v)) H s'->Q () s') (c:X.fn x=gb\/X.env.scope.names.lookup x>=.local):pw M A (storeName X.env x u) Q E s:=
 Bv I a hi b r (λs' d _=>h s' d) c
def Qc.call'(I:Qc X ff σ H s)(e:s'.os=s.os)(u:Un (frs X.stack) ch H H' s.heap s'.heap)(a:HOk X.prog X.w H' s'.heap)(f:QK s'.gens)
 (d:∀b>ch,(b>X.ex\/X.s₀.heap.objs.size<=b)/\b≠X.env.locals/\(∀x c,X.env.cells.lookup x>=c->c≠b)/\∀p>X.pn++ff,p.1≠b):Qc X ff σ H' s':=by
 let%[h',g,h,t'|i]:=s';subst e;show I.call u a f d
end
noncomputable abbrev XK:=hV->ZI->Hp->Prop
noncomputable abbrev St:=fx (ij V)
noncomputable abbrev VK:=V->Hp->Prop
noncomputable abbrev TE:=St->Hp->VK->Prop
noncomputable abbrev TT:=St->Hp->(on->Hp->Prop)->Prop
noncomputable abbrev TA:=St->Hp->(fx V->Hp->Prop)->Prop
structure iN where
 nx:St->Hp->Prop
 rt:VK
 bk:St->Hp->Prop:=λ_ _=>yc
 ct:St->Hp->Prop:=λ_ _=>yc
noncomputable abbrev TS:=iN->St->Hp->Prop
abbrev EP(X:Cx)(ff:ZE)(b:St)(Q:VK)(u:hV)(s':jg):Prop:=∃v a,Qc X ff b a s'/\aY v u/\Q v a
abbrev TP(X:Cx)(ff:ZE)(c:St)(Q:on->Hp->Prop)(b:on)(s':jg):Prop:=∃a,Qc X ff c a s'/\Q b a
abbrev AP(X:Cx)(ff:ZE)(b:St)(Q:fx V->Hp->Prop)(us:ZF)(s':jg):Prop:=∃vs a,Qc X ff b a s'/\aQ vs us/\Q vs a
abbrev SP(X:Cx)(ff:ZE)(D:iN)(f:Flow)(s':jg):Prop:=
 match f with
 | .next=>∃a b,Qc X ff a b s'/\D.nx a b
 | .brk=>∃a b,Qc X ff a b s'/\D.bk a b
 | .cont=>∃a b,Qc X ff a b s'/\D.ct a b
 | .ret u=>∃v a b,Qc X ff a b s'/\aY v u/\D.rt v b
abbrev PE(X:Cx)(e:tI)(t:TE):Prop:=
 ∀ff s (a:St) H Q,Qc X ff a H s->t a H Q->(X⁻¹) (M9 e X.env) (EP X ff a Q) X.xe s
abbrev PT(X:Cx)(e:tI)(t:TT):Prop:=
 ∀ff s (a:St) H Q,Qc X ff a H s->t a H Q->(X⁻¹) (RV e X.env (M9 e X.env)) (TP X ff a Q) X.xe s
abbrev PW(X:Cx)(e:tI)(t:TT):Prop:=
 ∀a ff s (b:St) H Q,Qc X ff b H s->t b H Q->(X⁻¹) (RV e X.env a) (TP X ff b Q) X.xe s
def PW.pt{X:Cx}(h:PW X e t):PT X e t:=h _
abbrev PA(X:Cx)(b:fx tI)(t:TA):Prop:=
 ∀pos ff s (a:St) H Q,Qc X ff a H s->t a H Q->(X⁻¹) (spliced (Nv pos (q0 b X.env))) (AP X ff a Q) X.xe s
abbrev PS(X:Cx)(st:v0)(t:TS):Prop:=
 ∀ff s (a:St) H D,Qc X ff a H s->t D a H->(X⁻¹) (exec st X.env) (SP X ff D) X.xe s
abbrev PSs(X:Cx)(st:fx v0)(t:TS):Prop:=
 ∀ff s (a:St) H D,Qc X ff a H s->t D a H->(X⁻¹) (execs st X.env) (SP X ff D) X.xe s
def thn{b:Type}{t:Sem b}{Q c:b->jg->Prop}{M:Model}{A:ri}{E:ZD}{s:jg}(h:pw M A t Q E s)(d:∀a s,Q a s->c a s):pw M A t c E s:=ME h d λ_ _ x=>x
def thP{c d:Type}{t:Sem c}{X:Cx}{ff:ZE}{e:St}{R:d->c->Prop}{Q:d->Hp->Prop}{f:c->jg->Prop}{M:Model}{A:ri}{E:ZD}{s:jg}(h:pw M A t (λa s=>∃v b,Qc X ff e b s/\R v a/\Q v b) E s)(g:∀a s v b,Qc X ff e b s->R v a->Q v b->f a s):pw M A t f E s:=ME h (λa s ⟨v,b,i,r,q⟩=>g a s v b i r q) λ_ _ x=>x
def thT{c:Type}{t:Sem c}{X:Cx}{ff:ZE}{d:St}{Q:c->Hp->Prop}{e:c->jg->Prop}{M:Model}{A:ri}{E:ZD}{s:jg}(h:pw M A t (λa s=>∃b,Qc X ff d b s/\Q a b) E s)(f:∀a s b,Qc X ff d b s->Q a b->e a s):pw M A t e E s:=ME h (λa s ⟨b,i,q⟩=>f a s b i q) λ_ _ x=>x
section
variable{X:Cx}
abbrev asI(x:V)(f:md->Prop):Prop:=match x with| .int i=>f i|_=>yc
abbrev asB(x:V)(f:on->Prop):Prop:=match x with| .bl i=>f i|_=>yc
abbrev asR(x:V)(f:hW->Prop):Prop:=match x with| .ref i=>f i|_=>yc
def K4:asI (.int i) f=f i:=rfl
def K5:asB (.bl i) f=f i:=rfl
def K6:asR (.ref i) f=f i:=rfl
def dm{x:V}{f:md->Prop}(h:asI x f):∃i,x= .int i/\f i:=by
 cases x<;> first|show⟨_,rfl,h⟩|show h.elim
def qd{x:V}{f:on->Prop}(h:asB x f):∃i,x= .bl i/\f i:=by
 cases x<;> first|show⟨_,rfl,h⟩|show h.elim
def aT{x:V}{f:hW->Prop}(h:asR x f):∃i,x= .ref i/\f i:=by
 cases x<;> first|show⟨_,rfl,h⟩|show h.elim
abbrev asS(x:V)(f:jz->Prop):Prop:=match x with| .str i=>f i|_=>yc
def K7:asS (.str i) f=f i:=rfl
def d6{x:V}{f:jz->Prop}(h:asS x f):∃i,x= .str i/\f i:=by
 cases x<;> first|show⟨_,rfl,h⟩|show h.elim
abbrev cP(xs:fx V)(f:V->Prop):Prop:=match xs with|[x]=>f x|_=>yc
def Iv:cP [x] f=f x:=rfl
def bJ{xs:fx V}{f:V->Prop}(h:cP xs f):∃x,xs=[x]/\f x:=by
 rcases xs with _|⟨x,_|⟨y,r⟩⟩<;> first|show⟨_,rfl,h⟩|show h.elim
abbrev jR(xs:fx V)(f:V->V->Prop):Prop:=match xs with|[x,y]=>f x y|_=>yc
def Iw:jR [x,y] f=f x y:=rfl
def fE{xs:fx V}{f:V->V->Prop}(h:jR xs f):∃x y,xs=[x,y]/\f x y:=by
 rcases xs with _|⟨x,_|⟨y,_|⟨z,r⟩⟩⟩<;> first|show⟨_,_,rfl,h⟩|show h.elim
abbrev Ix(xs:fx V)(p:Prop):Prop:=match xs with|[]=>p|_=>yc
def Iy:Ix [] p=p:=rfl
def Iz{xs:fx V}{p:Prop}(h:Ix xs p):xs=[]/\p:=by
 cases xs<;> first|show⟨rfl,h⟩|show h.elim
abbrev sw:gf->TE
 | 0,fI v::_,H,Q=>Q v H
 | i+1,_::a,H,Q=>sw i a H Q
 | _,_,_,_=>yc
def IA:sw 0 (fI v::a) H Q=Q v H:=rfl
def IB:sw (i+1) (o::a) H Q=sw i a H Q:=rfl
def CW:∀{i:gf} {a:St},sw i a H Q->∃v,a[i]?>=fI v/\Q v H
 | 0,fI v::_,h=>%[v,rfl|h]
 | 0,fD::_,h=>h.elim
 | 0,[],h=>h.elim
 | _+1,[],h=>h.elim
 | i+1,_::a,h=>CW (i:=i) h
abbrev tC(v:V):TE:=λ_ H Q=>Q v H
def CY(j:X.N[i]?>=x)(n:Vis X.env.scope x)(d:(x==("__debug__":jz))=gi)(f:(x==("__classdict__":jz))=gi):PE X (.Name x pos) (sw i):=by
 intro ff s o H Q I h;let%[v,e|h]:=CW h;let%[m,p|q]:=I.loc;let%[u,r|l]:=q i x v j e n;let fin:EP X ff o Q u s:=%[v,H,I,r|h]
 rcases l with⟨b,w⟩|⟨b,c,g,a⟩
 .show Wu (wpAny_loadName_local I.ok.kind b p w fin) d
 .rcases b with b|b
  .show Wu (wpAny_loadName_cell I.ok.kind b g a fin) d
  .show Wu (wpAny_loadName_free I.ok.kind b g a fin f) d
def IC{i j pos}:PE X (.Constant (.int i) j pos) (tC (.int i)):=λ_ _ _ H _ I h=>wpAny_Constant_int %[.int i,H,I.tok _,%[_|rfl]|h]
def K8{b j pos}:PE X (.Constant (.bool b) j pos) (tC (.bl b)):=λ_ _ _ H _ I h=>Constant_bool %[.bl b,H,I,rfl|h]
def ID{j pos}:PE X (.Constant .none j pos) (tC .non):=λ_ _ _ H _ I h=>Constant_none %[.non,H,I,rfl|h]
def IE{x j pos}:PE X (.Constant (.str x) j pos) (tC (.str x)):=λ_ _ _ H _ I h=>Calls.Constant_str %[.str x,H,I.tok _,%[_|rfl]|h]
abbrev Gl(X:Cx)(x:jz):Prop:=X.env.kindOf x>=.globalImplicit
def ig(I:Qc X ff d H s)(a:Gl X x)(b:X.mg x>=u)(h:Q u s)
 (c:(x==("__debug__":jz))=gi):(X⁻¹) (M9 (.Name x pos) X.env) Q E s:=
 Td I.ok.kind a (Calls.loadGlobal_global (I.ok.glob▸I.mod.glob.keeps I.bk) b h) c
def lC(I:Qc X ff i H s)(a:Gl X x)(b:X.mg x=fD)(c:Nz x>=u)(h:Q u s)
 (d:x≠"__name__":=by decide) (e:(x==("__debug__":jz))=gi:=by decide):(X⁻¹) (M9 (.Name x pos) X.env) Q E s:=by
 let%[j,f|g]:=I.mod.blt;show Td I.ok.kind a (Calls.loadGlobal_builtin (I.ok.glob▸I.mod.glob.keeps I.bk) b (I.ok.blt▸f.keeps I.bk) ((g x d).trans c) h) e
def F0(a:Gl X x)(b:X.mg x>=u)(r:aY v u)(c:(x==("__debug__":jz))=gi):PE X (.Name x pos) (tC v):=
 λ_ _ _ H _ I h=>ig I a b %[v,H,I,r|h] c
def F5(a:Gl X x)(b:X.mg x=fD)(c:Nz x>=u)(r:aY v u)(d:x≠"__name__")(e:(x==("__debug__":jz))=gi):PE X (.Name x pos) (tC v):=
 λ_ _ _ H _ I h=>lC I a b c %[v,H,I,r|h] d e
variable{a b:tI}{ta tb:TE}{pos:Pos}
abbrev PC(X:Cx)(op:Wa)(a b:tI)(t:TE):Prop:=
 ∀ff s (e:St) H Q,Qc X ff e H s->t e H Q->
  (X⁻¹) (M9 a X.env) (λv c=>(X⁻¹) (M9 b X.env) (λu d=>(X⁻¹) (oT op v u) (EP X ff e Q) X.xe d) X.xe c) X.xe s
def K9(b:tI)(h:op≠ .In)(e:op≠ .NotIn):MU op b=gi:=by
 let c:(op==Wa.In)=gi:=by lia
 let d:(op==Xt)=gi:=by lia
 cases b<;> simp[MU,c,d]
abbrev tB(t:TE):TT:=λd H Q=>t d H λx e=>asB x λc=>Q c e
def IF(h:PC X op a b t)(c:MU op b=gi):PE X (.Compare a [op] [b] pos) t:=λff s d H Q I hw=>wpAny_Compare1 (h ff s d H Q I hw) c
def CZ{op:Wa}(h:PC X op a b t)(e:MU op b=gi):PT X (.Compare a [op] [b] pos) (tB t):=by
 intro ff s f H Q I hw;show Vz (thn (h ff s f H _ I hw) λv n e=>thn e λu o g=>thn g λc p ⟨x,i,j,l,m⟩=>?_) e;let%[d,rfl|q]:=qd m;cases l;show MR %[i,j|q]
def IG{e:tI}(h:PE X e t)(f:∀c,RV e X.env c=(do let v<-c;Oy e.pos;O7 [v] (Tl v))):PT X e (tB t):=by
 intro ff s g H Q I hw;show Vo (thP (h ff s g H _ I hw) λv n x i j l m=>?_) (f _);let%[d,rfl|q]:=qd m;cases l;show MR %[i,j|q]
variable{tA tB':TT}{rest:fx tI}
abbrev F6(t u:TT):TT:=λd H Q=>t d H λc e=>if c=gb then u d e Q else Q gi e
abbrev tOr(t u:TT):TT:=λd H Q=>t d H λc e=>if c=gb then Q gb e else u d e Q
abbrev IH(t:TT):TT:=λd H Q=>t d H λc e=>Q (!c) e
def F7(d:PT X a tA):PW X (.BoolOp .And [a] pos) tA:=by
 intro g ff s f H Q I h;show isTrue_and (thn (d ff s f H Q I h) λc i e=>?_);cases c with
 | true=>show isTrue_and_nil e
 | false=>show e
def II(d:PT X a tA):PW X (.BoolOp .Or [a] pos) tA:=by
 intro g ff s f H Q I h;show isTrue_or (thn (d ff s f H Q I h) λc i e=>?_);cases c with
 | false=>show isTrue_or_nil e
 | true=>show e
def IJ(i:PT X a tA)(j:PW X (.BoolOp .And (b::rest) pos) tB'):PW X (.BoolOp .And (a::b::rest) pos) (F6 tA tB'):=by
 intro l ff s d H Q I h;show isTrue_and (thT (i ff s d H _ I h) λc m e f g=>?_);cases c with
 | true=>show j l ff m d e Q f g
 | false=>show%[e,f|g]
def La(i:PT X a tA)(j:PW X (.BoolOp .Or (b::rest) pos) tB'):PW X (.BoolOp .Or (a::b::rest) pos) (tOr tA tB'):=by
 intro l ff s d H Q I h;show isTrue_or (thT (i ff s d H _ I h) λc m e f g=>?_);cases c with
 | true=>show%[e,f|g]
 | false=>show j l ff m d e Q f g
def IK(c:PT X a tA):PT X (.UnaryOp .Not a pos) (IH tA):=by
 intro ff s d H Q I h;show isTrue_not (c ff s d H _ I h)
abbrev C0(ta tb:TE):TE:=λd H Q=>ta d H λx e=>asB x λc=>if c=gb then tb d e Q else Q (.bl gi) e
abbrev IL(ta tb:TE):TE:=λd H Q=>ta d H λx e=>asB x λc=>if c=gb then Q (.bl gb) e else tb d e Q
def IM{op}(h:PE X a t):PE X (.BoolOp op [a] pos) t:=λff s c H Q I hw=>BoolOp_one (h ff s c H Q I hw)
def IP(i:PE X a ta)(j:PE X (.BoolOp .And (b::rest) pos) tb):PE X (.BoolOp .And (a::b::rest) pos) (C0 ta tb):=by
 intro ff s e H Q I h;show BoolOp_and (thP (i ff s e H _ I h) λv l x f g m d=>?_);let%[c,rfl|d]:=qd d;cases m;show MR ?_;cases c with
 | true=>show j ff l e f Q g d
 | false=>show%[.bl gi,f,g,ρ|d]
def Lb(i:PE X a ta)(j:PE X (.BoolOp .Or (b::rest) pos) tb):PE X (.BoolOp .Or (a::b::rest) pos) (IL ta tb):=by
 intro ff s e H Q I h;show BoolOp_or (thP (i ff s e H _ I h) λv l x f g m d=>?_);let%[c,rfl|d]:=qd d;cases m;show MR ?_;cases c with
 | false=>show j ff l e f Q g d
 | true=>show%[.bl gb,f,g,ρ|d]
abbrev tIf(t:TT)(ta tb:TE):TE:=λd H Q=>t d H λc e=>if c=gb then ta d e Q else tb d e Q
def C1{c:tI}(l:PT X c tA)(m:PE X a ta)(n:PE X b tb):PE X (.IfExp c a b pos) (tIf tA ta tb):=by
 intro ff s e H Q I h;show wpAny_IfExp (thT (l ff s e H _ I h) λd f g i j=>?_);cases d with
 | true=>show m ff f e g Q i j
 | false=>show n ff f e g Q i j
end
abbrev Qb(K:ZA)(H:Hp)(a:hW)(xs:fx V):Prop:=
 Rd H a (.lst xs)\/
  ∃o its n,K.lookup a>=o/\o.cls= .type "list"/\o.dict=fD/\o.data= .seq its n/\its.size<=iv/\aQ xs its.toList
abbrev SqT(K:ZA)(H:Hp)(a:hW)(xs:fx V):Prop:=
 Rd H a (.tup xs)\/
  ∃o its n,K.lookup a>=o/\o.cls= .type "tuple"/\o.data= .seq its n/\its.size<=iv/\aQ xs its.toList
abbrev absV:hV->ij V
 | .none=>fI .non
 | .bool b=>fI (.bl b)
 | .int i _=>fI (.int i)
 | .str x _=>fI (.str x)
 | .bytes b _=>fI (.byt b)
 | .float b _=>fI (.flt b)
 | .ref a=>fI (.ref a)
 | .type n=>fI (.ty n)
 | _=>fD
def aY.abs(r:aY x u):absV u>=x:=by
 cases x with
 | non=>cases r;rfl
 | bl _=>cases r;rfl
 | int _=>have%[t|rfl]:=r;rfl
 | str _=>have%[t|rfl]:=r;rfl
 | byt _=>have%[t|rfl]:=r;rfl
 | flt _=>have%[t|rfl]:=r;rfl
 | ref _=>cases r;rfl
 | ty _=>cases r;rfl
def aY.inj(r:aY x u)(q:aY y u):x=y:=Za (r.abs.symm.trans q.abs)
def aQ.inj:∀{xs ys:fx V} {us:ZF},aQ xs us->aQ ys us->xs=ys
 | _,_,_,.nil,.nil=>rfl
 | _,_,_,.cons r t,.cons a t'=>by rw[r.inj a,aQ.inj t t']
section
#version
variable{a:hW}{xs ys:fx V}
def Qb.of{K:ZA}(h:H a<*xs):Qb K H a xs:= .inl (.inl h)
def SqT.of{K:ZA}(h:H a&&&xs):SqT K H a xs:= .inl (.inl h)
def Qc.list(I:Qc X ff σ H s)(h:Qb X.K H a xs):∃its:ZF,aQ xs its/\PlainL s.heap a its.toArray/\xs\5<=iv:=by
 rcases h with h|⟨o,its,n,b,c,d,f,g,r⟩
 .let%[z,its,n,r|e]:=h.ok I.hok;show%[its,r,%[_,n,e,ρ,ρ|ρ]|z]
 .show%[its.toList,r,%[o,n,I.kIn a o b,c,d|f]|?_];let e:=r\5
  simp_all
def Qc.tuple(I:Qc X ff σ H s)(h:SqT X.K H a xs):∃its:ZF,aQ xs its/\IsTup s.heap a its.toArray/\xs\5<=iv:=by
 rcases h with h|⟨o,its,n,b,c,d,f,r⟩
 .let%[z,its,r|p]:=h.ok I.hok;show%[its,r,p|z]
 .show%[its.toList,r,%[o,I.kIn a o b,c,n|d]|?_];let e:=r\5;simp only[Zb]at e
  lia
def Qc.list_inj(I:Qc X ff σ H s)(h:Qb X.K H a xs)(h':Qb X.K H a ys):xs=ys:=by
 let%[its,r,%[o,n,e,_,_|d]|_]:=I.list h;let%[its',f,%[i,n',b,_,_|c]|_]:=I.list h';rw[e]at b;cases b;rw[d]at c;injection c with g _
 let:=nY mx.toList g;subst this;show r.inj f
end
noncomputable abbrev Cx.wish(X:Cx)(E:ZD):Cx:={X with xe:=E}
noncomputable abbrev Cx.nox(X:Cx):Cx:=X.wish λ_ _=>yc
def Cx.Ok.wish{X:Cx}(ok:X.Ok)(E:ZD):(X.wish E).Ok:=
 %[ok.mod,ok.kind,ok.glob,ok.blt,ok.above,ok.inj,ok.has,ok.cab,ok.hd,ok.frames,ok.stk,ok.exf,ok.bs,ok.bsz,ok.noex,ok.exfs,ok.funs|ok.frf]
def Cx.Ok.unwish{X:Cx}{E:ZD}(ok:(X.wish E).Ok):X.Ok:=
 %[ok.mod,ok.kind,ok.glob,ok.blt,ok.above,ok.inj,ok.has,ok.cab,ok.hd,ok.frames,ok.stk,ok.exf,ok.bs,ok.bsz,ok.noex,ok.exfs,ok.funs|ok.frf]
section
#version
variable{E:ZD}
def Qc.wish(I:Qc X ff σ H s)(E:ZD):Qc (X.wish E) ff σ H s:=%[I.ok.wish E,I.os,I.bare,I.base,I.loc,I.cell,I.free,I.freeC,I.pin,I.hok|I.len]
def Qc.unwish(I:Qc (X.wish E) ff σ H s):Qc X ff σ H s:=%[I.ok.unwish,I.os,I.bare,I.base,I.loc,I.cell,I.free,I.freeC,I.pin,I.hok|I.len]
def SP.unwish{D:iN}{f:Flow}{s':jg}(h:SP (X.wish E) ff D f s'):SP X ff D f s':=by
 cases f with
 | next=>have%[a,b,I|q]:=h;show%[a,b,I.unwish|q]
 | brk=>have%[a,b,I|q]:=h;show%[a,b,I.unwish|q]
 | cont=>have%[a,b,I|q]:=h;show%[a,b,I.unwish|q]
 | ret u=>have%[v,a,b,I,r|q]:=h;show%[v,a,b,I.unwish,r|q]
def PSs.nox{st:fx v0}(h:PSs X.nox st t):PSs X st t:=λff s σ H D I hw=>
 ME (h ff s σ H D (I.wish _) hw) (λ_ _ q=>q.unwish) λ_ _ z=>MJ z
end
section
variable{X:Cx}{st:v0}{rest:fx v0}{t u:TS}{e:tI}{te:TE}{pos:Pos}
abbrev C2:TS:=λD a H=>D.nx a H
abbrev aZ(t u:TS):TS:=λD a H=>t {D with nx:=u D} a H
def F8:PSs X [] C2:=λ_ _ a H _ I h=>Ox %[a,H,I|h]
def C3(b:PS X st t)(c:PSs X rest u):PSs X (st::rest) (aZ t u):=by
 intro ff s d H D I h;show Xy (thn (b ff s d H _ I h) λf g q=>?_);cases f with
 | next=>
   let%[a,i,j|q]:=q;show c ff g a i D j q
 | ret v=>show q
 | brk=>show q
 | cont=>show q
def F9(a:PS X st t):PSs X [st] t:=by
 intro ff s b H D I h;show Xy (thn (a ff s b H D I h) λf c q=>?_);cases f with
 | next=>show Ox q
 | ret v=>show q
 | brk=>show q
 | cont=>show q
def Qc.quiet{ff:fx _}{a:St}{H:Hp}{s:jg}(I:Qc X ff a H s):interactive X.env=gi:=by simp[interactive,I.ok.kind]
abbrev kY(te:TE):TS:=λD a H=>te a H λ_ b=>D.nx a b
def Ga(b:PE X e te)(c:Oo e fD pos.line X.env=pure gi):PS X (.Expr e pos) (kY te):=by
 intro ff s a H D I h;show wpAny_Expr_any (thP (b ff s a H _ I h) λv i x d f j g=>%[a,d,f|g]) I.quiet c
abbrev jU(te:TE):TS:=λD a H=>te a H D.rt
def IQ(b:PE X e te):PS X (.Return (fI e) pos) (jU te):=by
 intro ff s a H D I h;show wpAny_Return_some (thP (b ff s a H _ I h) λv i x c d f g=>%[x,a,c,d,f|g])
abbrev kO(c:TT)(t u:TS):TS:=λD a H=>c a H λb d=>if b=gb then t D a d else u D a d
def Lc{c:tI}{a b:fx v0}(m:PT X c n)(o:PSs X a t)(p:PSs X b u):PS X (.If c a b pos) (kO n t u):=by
 intro ff s f H D I h;show wpAny_If (thT (m ff s f H _ I h) λd g i j l=>?_);cases d with
 | true=>show o ff g f i D j l
 | false=>show p ff g f i D j l
abbrev C4:TS:=λ_ _ _=>yc
def C5:PS X st C4:=λ_ _ _ _ _ _ h=>h.elim
end
noncomputable abbrev TG:=V->St->Hp->(St->Hp->Prop)->Prop
noncomputable abbrev TGs:=fx V->St->Hp->(St->Hp->Prop)->Prop
abbrev PG(X:Cx)(a:tI)(t:TG):Prop:=
 ∀ff s (c:St) H v u Q,Qc X ff c H s->aY v u->t v c H Q->
  (X⁻¹) (assign a X.env u) (λ_ s'=>∃b d,Qc X ff b d s'/\Q b d) X.xe s
abbrev PGs(X:Cx)(ts:fx tI)(t:TGs):Prop:=
 ∀ff s (b:St) H vs us Q,Qc X ff b H s->aQ vs us->t vs b H Q->
  (X⁻¹) (UP ((Om ts X.env)\2) us) (λ_ s'=>∃a c,Qc X ff a c s'/\Q a c) X.xe s
section
variable{X:Cx}{pos:Pos}
abbrev kZ(i:gf):TG:=λv a H Q=>Q (a.set i (fI v)) H
def Gb(a:X.N.Nodup)(hi:X.N[i]?>=x)(b:Loc X.env.scope x)(c:X.fn x=gb\/X.env.scope.names.lookup x>=.local):PG X (.Name x pos) (kZ i):=by
 intro ff s e H v u Q I r h;show WQ (iM I a hi b r (λs' d=>%[_,H,d|h]) c)
abbrev IR:TGs:=λvs a H Q=>vs=[]/\Q a H
abbrev C6(t:TG)(u:TGs):TGs:=λvs b H Q=>∃v r,vs=v::r/\t v b H λa c=>u r a c Q
def Gc:PGs X [] IR:=by
 intro ff s a H vs us Q I r h;let%[e|h]:=h;show WY %[a,H,I|h]
def C7{e:tI}{u:TGs}(c:PG X e t)(d:PGs X a u)
 (f:(Om (e::a) X.env)\2=assign e X.env::(Om a X.env)\2):PGs X (e::a) (C6 t u):=by
 intro ff s g H vs us Q I r h;let%[v,o,i|h]:=h;subst i;cases r with
 | cons r rr=>
   rw[f];show SH (thn (c ff s g H _ _ _ I r h) λ_ j ⟨b,l,m,n⟩=>d ff j b l _ _ Q m rr n)
abbrev Gd(K:ZA)(n:gf)(t:TGs):TG:=λv b H Q=>asR v λa=>∃xs,SqT K H a xs/\xs\5=n/\t xs b H Q
def IS(g:X.calm=gb)(h:PGs X c t)
 (i:(Om c X.env)\5=n) (d:(Om c X.env).findIdx? (·.1)=fD):PG X (.Tuple c k pos) (Gd X.K n t):=by
 intro ff s j H v u Q I r hw;let%[a,l,xs,m,p|hw]:=aT hw;clear ‹Gd _ _ _ _ _ _ _›;subst l;cases r;let%[its,f,q|y]:=I.tuple m;show assign_Tuple_tuple (I.ok.hd g) q (by simp[i,<-p,f\5]) d λh' w=>h ff _ j H xs _ Q (I.kept λb o e=>w b o (Zs (Zu e)) e) (f) hw
abbrev uV(b:TE)(g:TG):TS:=λD a H=>b a H λx c=>g x a c D.nx
def IT{tg e:tI}{g:TG}(b:PE X e c)(d:PG X tg g)(f:UL [tg] e pos.line X.env=pure gi)(hw:Su [tg] e X.env=pure fD)
 (i:(Om [tg] X.env)\2=[assign tg X.env]):PS X (.Assign [tg] e pos) (uV c g):=by
 intro ff s a H D I h;show wpAny_Assign_stores (thP (b ff s a H _ I h) λv j x l m n o=>?_) f hw;rw[i];show thn (d ff j a l x v _ m n o) λ_ p q=>q
def C8{i:gf}{x:jz}{e:tI}(b:X.N.Nodup)(hi:X.N[i]?>=x)(c:Loc X.env.scope x)(d:PE X e f)(g:Oo e (fI (.Name x a)) pos.line X.env=pure gi)(j:X.fn x=gb\/X.env.scope.names.lookup x>=.local):
 PS X (.Assign [.Name x a] e pos) (uV f (kZ i)):=by
 intro ff s l H D I h;show wpAny_Assign_Name (thP (d ff s l H _ I h) λv r y m n o p=>iM n b hi c o (λu q=>%[_,m,q|p]) j) g
abbrev IU(i j:gf)(b:TA):TS:=λD a H=>b a H λvs c=>∃v w,vs=[v,w]/\D.nx ((a.set i (fI v)).set j (fI w)) c
def IV{i j:gf}{a b:tI}{l k2 c}(M:X.calm=gb)(z:X.N.Nodup)(hi:X.N[i]?>=x)(N:X.N[j]?>=y)(m:i≠j)
 (A:X.env.scope.names.lookup x>=.local) (B:X.env.scope.names.lookup y>=.local) (O:PA X [a,b] Q)
 (hw:Su [.Tuple [.Name x C,.Name y E] l pt] (.Tuple [a,b] k2 c) X.env=pure (fI [x,y]))
 (T:UL [.Tuple [.Name x C,.Name y E] l pt] (.Tuple [a,b] k2 c) pos.line X.env=pure gi):
 PS X (.Assign [.Tuple [.Name x C,.Name y E] l pt] (.Tuple [a,b] k2 c) pos) (IU i j Q):=by
 intro ff s G H D I h;rw[exec_Assign_arm];show Z2 (QL ?_);rw[T];show Z2 (Z3 ?_);rw[hH (!1)];show Z2 (Tuple_ (thP (O _ ff s G H _ I h) λus d vs J U Y n=>?_));let%[v,w,e1|n]:=n;subst e1;obtain⟨f,g,rfl,rv,r⟩:∃f g,us=[f,g]/\aY v f/\aY w g:=by
  cases Y with
  | cons p q=>
    cases q with
    | cons p' q'=>
      cases q';show%[_,_,ρ,p|p']
 show MF ?_ (by change 2<=iv;decide);let I2:Qc X ff G J {d with heap:=d.heap.push {cls:= .type "tuple",data:= .seq [f,g].toArray}}:=U.kept (t':=d.toks) λb o e=>Z7 _ e
 rw[hw];show Z2 (Z3 ?_);change (X⁻¹) (do Rx "assign.swapped-stores";let items<-unpackItems (.ref ⇑d) 2 fD;UP [λv=>SZ X.env y v,λv=>SZ X.env x v] items.reverse;pure Flow.next) _ _ _;show Z2 (N4 (Z2 (unpackItems_tuple (items:= #[f,g]) (I.ok.hd M) (IsTup.new d.heap _) λh' u=>?_)));let I3:=I2.kept (h':=h') (t':=d.toks) λb o e=>u b o (Zs (Zu e)) e
 change pw _ _ (UP [λv=>SZ X.env y v,λv=>SZ X.env x v] [g,f]>>= λ_=>pure Flow.next) _ _ _;show Z2 (SH (wpAny_bindName (iM I3 z N (.inl B) r (λs2 I4=>?_) (.inr B))));show SH (wpAny_bindName (iM I4 z hi (.inl A) rv (λs3 L=>WY (Z3 ?_)) (.inr A)));rw[fx.set_comm _ _ (wh m)]at L;show%[_,J,L|n]
abbrev C9(c:TT)(h:TS):TS:=λD a H=>∃W:gf->St->Hp->Prop,(∃m,W m a H)/\∀m a H,W m a H->
 c a H λb e=>if b=gb then∃N:St->Hp->Prop,(∀d f,N d f->∃g,g<m/\W g d f)/\h {D with nx:=N,ct:=N,bk:=D.nx} a e else D.nx a e
def Da(w:NZ (Nm X.prog X.w) X.A X.env X.xe)(E:PT X c G)(J:PSs X e L):PS X (.While c e [] pos) (C9 G L):=by
 intro ff s M H D I h;let%[W,%[O|Q]|g]:=h;show wpAny_While (codeAny_whileLoop (λn s'=>∃i y,Qc X ff i y s'/\W n i y) ?_ O %[M,H,I|Q]);intro n T %[d,z,U|Y];show N7 w (thT (E ff T d z _ U (g n d z Y)) λb s2 A B l=>?_);cases b with
 | true=>
   let%[N,C|l]:=l;show N7 w (thn (J ff s2 d A _ B l) λf s3 m=>?_);cases f with
   | next=>
     let%[a,j,o|p]:=m;let%[q,r|u]:=C a j p;show%[q,r,a,j,o|u]
   | cont=>
     let%[a,j,o|p]:=m;let%[q,r|u]:=C a j p;show%[q,r,a,j,o|u]
   | brk=>show m
   | ret v=>show m
 | false=>
   show Ox %[d,A,B|l]
end
structure It where
 go:gf->Hp->Prop
 yld:gf->Hp->V->Hp->Prop
 stop:gf->Hp->Prop
abbrev pH(X:Cx)(ff:ZE)(H:Hp)(b:hW):Prop:=
 H b=fD/\b≠X.env.locals/\b∉X.fs/\(b>X.ex\/X.s₀.heap.objs.size<=b)/\(∀x c,X.env.cells.lookup x>=c->c≠b)/\∀p>X.pn++ff,p.1≠b
def Qc.fpOk{X:Cx}(I:Qc X ff h H s)(a:⇑s<=b)(d:f b=fD):pH X ff f b:=by
 show%[d,Yy (Zg I.lt a),I.nofs a,.inr (lx I.sz a),λx c e z=>?_|λp g z=>?_]
 .let%[v|q]:=I.cell x c e;show lr (Zg q.lt (z▸a)) (Xl _)
 .show lr (Zg (Zu (I.pin p g).1) (z▸a)) (Xl _)
structure sE (P:mu) (w:rM) (K:ZA) (tg:tI) (J:It) (fp:fx hW) (it:hW) (tn:gf->su->Prop):Prop where
 mem:it>fp
 obj:∀i h,tn i h->∀b>fp,∃o,h.get? b>=o/\∀v,o.data≠ .cell v
 keep:∀i h h',tn i h->(∀b>fp,∀o,h.get? b>=o->h'.get? b>=o)->tn i h'
 item:∀(X:Cx),X.prog=P->X.w=w->X.K=K->X.calm=gb->∀i (ff:ZE) s (σ:St) H (E:ZD),Qc X ff σ H s->(∀b>fp,pH X ff H b)->tn i s.heap->J.go i H->
  pw (Nm P w) X.A (Pj (.ref it)) (λr s1=>∃u,r>=u/\
   pw (Nm P w) X.A (XY tg (.ref it) u) (λ_ s2=>∃x H',Qc X ff σ H' s2/\aY x u/\J.yld i H x H'/\tn (i+1) s2.heap/\∀b>fp,H' b=fD) E s1) E s
 done:∀X,X.prog=P->X.w=w->X.K=K->X.calm=gb->∀i ff s (σ:St) H E,Qc X ff σ H s->(∀b>fp,pH X ff H b)->tn i s.heap->J.stop i H->
  pw (Nm P w) X.A (Pj (.ref it)) (λr s1=>r=fD/\Qc X ff σ H s1) E s
 self:∀A i s Q E,tn i s.heap->Q (.ref it) s->pw (Nm P w) A (Vj (.ref it)) Q E s
noncomputable abbrev TI:=St->Hp->(It->Hp->Prop)->Prop
abbrev PIE(X:Cx)(ff:ZE)(g:St)(tg:tI)(R:It->Hp->Prop)(a:hV)(d:jg):Prop:=
 ∃it e f J c,a= .ref it/\Qc X ff g c d/\sE X.prog X.w X.K tg J e it f/\f 0 d.heap/\(∀b>e,pH X ff c b)/\R J c
abbrev PI(X:Cx)(tg iter:tI)(b:TI):Prop:=
 ∀ff s (a:St) H R,Qc X ff a H s->b a H R->
  (X⁻¹) (M9 iter X.env) (λv c=>(X⁻¹) (Vj v) (PIE X ff a tg R) X.xe c) X.xe s
def wE(b:s.heap.get? it>=o)(c:o.cls= .type n)(d:o.data= .fields vs)
 (e:["enumerate","zip","dict_itemiterator","dict_reverseitemiterator","odict_iterator","itertools.zip_longest","itertools.pairwise"].contains n=gi) (a:Q () s):pw M A (XY tg (.ref it) u) Q E s:=by
 cases tg<;> first
  | show Z3 a
  |(cases u<;> first
   | show Z3 a
   |(show Z2 (Ue b ?_)
     rw[c,d];change pw M A (if(["enumerate","zip","dict_itemiterator","dict_reverseitemiterator","odict_iterator","itertools.zip_longest","itertools.pairwise"].contains n&&vs[0]? ==fI _)=gb then _ else _) Q E s;rw[hH (by intro h;rw[e,Ob]at h;cases h)];show Z3 a))
abbrev Itl(K:ZA)(a:hW):It:=
 ⟨λi H=>∃xs x,Qb K H a xs/\xs[i]?>=x,λi H x b=>b=H/\∀xs,Qb K H a xs->xs[i]?>=x,λi H=>∃xs,Qb K H a xs/\xs\5<=i⟩
abbrev Itr(lo:md)(n:gf):It:=%[λi _=>i<n,λi H x a=>a=H/\x= .int (lo+i)|λi _=>n<=i]
def Bw{P:mu}{K:ZA}(a it:hW):sE P w K tg (Itl K a) [it] it (λi h=>h.IsListIter it a i) where
 mem:=by simp
 obj:=λi h st b hb=>by
  let e:=↑hb
  subst e;let%[o,e,c|d]:=st;show%[o,e|λv z=>by rw[d]at z;cases z]
 keep:=λi h h' st k=>st.at λo e=>k it ∅ o e
 item:=by
  intro X hP hw hK hc i ff s σ H E I hf st hg;subst hP hw hK;let%[xs,x,hq|hx]:=hg;let%[its,rv,p|hz]:=I.list hq;let%[u,hu|ru]:=rv.get hx;let%[f0,f1,f2,f3,f4|f5]:=hf it ∅;show wpAny_pyNext_list_item st p.isList ↑hu λh' st' sb=>?_
  let%[o,e,c|d]:=id st';show%[u,ρ|wE e c d (!1) %[x,H,(I.turned (λb o hb e=>(sb.2 b hb).trans e) f0 f1 f3 f4 f5),ru,%[ρ|λys hy=>(I.list_inj hy hq)▸hx],st'|λb hb=>(hf b hb).1]]
 done:=by
  intro X hP hw hK hc i ff s σ H E I hf st hg;subst hP hw hK;let%[xs,hq|hx]:=hg;let%[its,rv,p|hz]:=I.list hq;let%[f0,f1,f2,f3,f4|f5]:=hf it ∅;let hl:=rv\5;show wpAny_pyNext_list_end (I.ok.hd hc) st p.isList (by simp;lia) λh' eb=>%[rfl|I.turned (λb o hb e=>eb b o hb e) f0 f1 f3 f4 f5]
 self:=λ_ _ _ _ _ st h=>wpAny_pyIter_listiter st h
def yS{P:mu}{K:ZA}(it:hW)(lo:md)(n:gf):sE P w K tg (Itr lo n) [it] it (λi h=>IsRangeIter h it (lo+(i:gf)*1) ((n:md) -(i:gf)) 1) where
 mem:=by simp
 obj:=λi h st b hb=>by
  simp_all
 keep:=λi h h' st k=>k it ∅ _ st
 item:=by
  intro X hP hw hK hc i ff s σ H E I hf st hg;subst hP hw hK;let%[f0,f1,f2,f3,f4|f5]:=hf it ∅;show(Walks.range (prog:=X.prog) (w:=X.w) (I.ok.hd hc) it lo 1 n).item i s _ _ hg st λv h' tk hv st' kk=>?_
  let%[t|rfl]:=hv;show%[_,ρ|wE st' rfl rfl (!1) %[.int _,H,(I.turned (λb o hb e=>kk b o ↑hb e) f0 f1 f3 f4 f5),%[t|?_],%[ρ|ρ],st'|λb hb=>(hf b hb).1]];rw[YH]
 done:=by
  intro X hP hw hK hc i ff s σ H E I hf st hg;let%[f0,f1,f2,f3,f4|f5]:=hf it ∅;show wpAny_pyNext_range_end (I.ok.hd hc) st (by let:n<=i:=hg;lia) λh' eb=>%[rfl|I.turned (λb o hb e=>eb b o hb e) f0 f1 f3 f4 f5]
 self:=λ_ _ _ _ _ st h=>wpAny_pyIter_rangeiter st h
section
variable{X:Cx}{tg:tI}
def Db{R:It->Hp->Prop}{lo hi:md}(I:Qc X ff c H s)(d: -(2^62)<=lo)(f:lo<2^62)(g: -(2^62)<=hi)(h:hi<2^62)
 (q:R (Itr lo (hi-lo).toNat) H):(X⁻¹) (Vj (.ref ⇑s)) (PIE X ff c tg R) E {s with heap:=s.heap.push {cls:= .type "range",data:= .fields #[.int lo t,.int hi u,.int 1 v]},toks:=tk}:=by
 show wpAny_pyIter_range (IsRange.new ..) (small_one d f g h) ?_;let a:Qc X ff c H {s with heap:=s.heap.push {cls:= .type "range",data:= .fields #[.int lo t,.int hi u,.int 1 v]},toks:=tk}:=I.kept λb o e=>Z7 _ e
 show%[(s.heap.push _).objs.size,[(s.heap.push _).objs.size],_,_,H,ρ,
  a.kept λb o e=>Z7 _ e,yS _ lo _,?_,λb i=>?_|q]
 .let j:lo+((0:gf))*1=lo:=by simp
  let l:(((hi-lo).toNat)) -((0:gf))=Sf lo hi 1:=by rw[rangeSize_one];split<;> lia
  rw[j,l];show Zj _ rfl
 .let e:b=(s.heap.push {cls:= .type "range",data:= .fields #[.int lo t,.int hi u,.int 1 v]}).objs.size:=↑i
  subst e;show a.fpOk (Zi _) (a.hok.fresh (Zi _))
abbrev Dc(a:TA):TI:=λb H R=>a b H λvs c=>cP vs λd=>asI d λj=> -(2^62)<=j/\j<2^62/\R (Itr 0 j.toNat) c
def Bx{a:tI}(e:Gl X "range")(f:X.mg "range"=fD)(g:PA X [a] i)(l:q0 [a] X.env=[(gi,M9 a X.env)]):PI X tg (.Call (.Name "range" p) [a] [] pos) (Dc i):=by
 intro ff s m H R I h;show Call_ (lC I e f boot_range (Nj (thP (g pos ff s m H _ I h) λus v vs w n o b=>?_) l rfl));let%[y,rfl|c]:=bJ b;let%[j,rfl|d]:=dm c;let%[b,u|q]:=d;cases o with
 | cons r rr=>
   cases rr;let%[t|rfl]:=r;show call_range_1 (Db n ⋯ ⋯ b u ↑q)
abbrev yT(f:TI)(g:TG)(h:TS):TS:=λD a H=>f a H λJ j=>∃W:gf->gf->St->Hp->Prop,(∃m,W 0 m a j)/\∀i m a H,W i m a H->
 (J.stop i H/\D.nx a H)\/(J.go i H/\∃N:St->Hp->Prop,(∀b c,N b c->∃e,e<m/\W (i+1) e b c)/\∀x c,J.yld i H x c->g x a c λd l=>h {D with nx:=N,ct:=N,bk:=D.nx} d l)
abbrev uW(a:fx hW)(h:su):ZE:=a.filterMap λb=>(h.get? b).map λo=>(b,o)
def gA(a:b>c)(e:h.get? b>=o):(b,o)>uW c h:=MN.mpr %[b,a|by rw[e];rfl]
def By(a:p>uW c h):p.1>c/\h.get? p.1>=p.2:=by
 let%[b,d|e]:=MN.mp a;cases q:h.get? b with
 | none=>simp_all
 | some o=>
   rw[q]at e;let f:=Za e;subst f;show%[d|q]
def Qc.pinned(I:Qc X ff g H s)(h:∀b>a,pH X ff H b)(i:∀b>a,∃o,s.heap.get? b>=o/\∀v,o.data≠ .cell v):Qc X (ff++uW a s.heap) g H s:=
 I.pins_of λp j=>(Xo j).elim (λz=>I.pin p (Yt _ z)) λz=>by
  let%[c|e]:=By z;let%[l,m,n|_]:=h p.1 c;let%[o,f|d]:=i p.1 c;rw[e]at f;cases f;show%[e,l,m,n|d]
def Qc.unpinned(I:Qc X (ff++pl) a H s):Qc X ff a H s:=I.pins_of λp b=>I.pin p (Yt _ (Ys _ b))
def IW(B:NZ (Nm X.prog X.w) X.A X.env X.xe)(hc:X.calm=gb)(hi:PI X tg iter wi)(hg:PG X tg g)(c:PSs X C tb)
 (hs:∀x,O9 iter X.env x=pure x):PS X (.For tg iter C [] pos) (yT wi g tb):=by
 intro ff s σ H D I h;show wpAny_For (thn (hi ff s σ H _ I h) λv s1 h1=>thn h1 λae s2 h2=>?_) hs;let%[it,O,tn,J,H2,e,I2,T,U,f2,W,%[m0|w0]|E]:=h2;subst e;let j:∀{y:Hp},(∀b>O,y b=fD)->∀b>O,pH X ff y b:=λhn b c=>%[hn b c|(f2 b c).2]
 show codeAny_forLoop_any (λn s'=>∃i l y,Qc X ff l y s'/\tn i s'.heap/\(∀b>O,y b=fD)/\W i n l y) ?_ m0 %[0,σ,H2,I2,U,λb c=>(f2 b c).1|w0];intro n s3 %[i,p,Q,I3,G,L|w3];rcases E i n p Q w3 with⟨stop,qn⟩|⟨go,N,hN,step⟩
 .show N7 B (thn (T.done X rfl rfl rfl hc i ff s3 p Q X.xe I3 (j L) G stop) λr s4 ⟨Y,I4⟩=>?_);subst Y;show Ox %[p,Q,I4|qn]
 .show N7 B (thn (T.item X rfl rfl rfl hc i ff s3 p Q X.xe I3 (j L) G go) λr s4 ⟨u,Y,h4⟩=>?_);subst Y;show N7 B (thn h4 λ_ s5 ⟨x,H5,I5,r5,y5,A,ab⟩=>N7 B (thn (hg _ s5 p H5 x u _ (I5.pinned (j ab) (T.obj _ _ A)) r5 (step x H5 y5)) λ_ s6 ⟨ac,H6,I6,q6⟩=>N7 B (thn (c _ s6 ac H6 _ I6 q6) λf s7 z=>?_)));let again:∀{a:St} {q:Hp},Qc X _ a q s7->N a q->∃m,m<n/\∃i l y,Qc X ff l y s7/\tn i s7.heap/\(∀b>O,y b=fD)/\W i m l y:=λ{a q} w M=>by
   let%[m',hm|w7]:=hN a q M;show%[m',hm,i+1,a,q,w.unpinned,T.keep _ _ _ A λb c o e=>(w.pin _ (Yt _ (Yt _ (gA c e)))).1,λb c=>?_|w7];let%[o,e|d]:=T.obj _ _ A b c;show(w.pin _ (Yt _ (Yt _ (gA c e)))).2.1
  cases f with
  | next=>have%[a,q,w|M]:=z;show again w M
  | cont=>have%[a,q,w|M]:=z;show again w M
  | brk=>have%[a,q,w|z]:=z;show%[a,q,w.unpinned|z]
  | ret v=>have%[x7,a,q,w,r7|z]:=z;show%[x7,a,q,w.unpinned,r7|z]
end
def iO{K:ZA}{g:TG}{l:TS}{D:iN}(Pv:gf->St->Hp->Prop)(o:Pv 0 b H)(r:∀i b H,i<=xs\5->Pv i b H->Qb K H a xs)
 (s:∀i x b H,xs[i]?>=x->Pv i b H->g x b H λc h=>l {D with nx:=Pv (i+1),ct:=Pv (i+1),bk:=D.nx} c h) (u:∀b H,Pv xs.length b H->D.nx b H):
 ∃W:gf->gf->St->Hp->Prop,(∃m,W 0 m b H)/\∀i m b H,W i m b H->
  ((Itl K a).stop i H/\D.nx b H)\/((Itl K a).go i H/\∃N:St->Hp->Prop,(∀d f,N d f->∃n,n<m/\W (i+1) n d f)/\∀x f,(Itl K a).yld i H x f->g x b f λc h=>l {D with nx:=N,ct:=N,bk:=D.nx} c h):=by
 show%[λi m b H=>m=xs\5-i/\i<=xs\5/\Pv i b H,%[xs\5,by simp,Xg _|o]|?_];intro i m b H %[rfl,hi|p];let q:=r i b H hi p;by_cases j:i<xs\5
 .show .inr %[%[xs,xs[i],q|by simp],Pv _,λd f v=>%[xs\5-(i+1),!_,rfl,j|v]|λx f y=>?_];let%[e|y]:=y;subst e;show s i x b _ (y xs q) p
 .let e:i=xs\5:=by lia
  subst e;show .inl %[%[xs,q|Zi _]|u b H p]
def cm{lo:md}{g:TG}{j:TS}{D:iN}(Pv:gf->St->Hp->Prop)(o:Pv 0 a H)
 (q:∀i a H,i<n->Pv i a H->g (.int (lo+i)) a H λb h=>j {D with nx:=Pv (i+1),ct:=Pv (i+1),bk:=D.nx} b h) (r:∀a H,Pv n a H->D.nx a H):
 ∃W:gf->gf->St->Hp->Prop,(∃m,W 0 m a H)/\∀i m a H,W i m a H->
  ((Itr lo n).stop i H/\D.nx a H)\/((Itr lo n).go i H/\∃N:St->Hp->Prop,(∀c d,N c d->∃l,l<m/\W (i+1) l c d)/\∀x d,(Itr lo n).yld i H x d->g x a d λb h=>j {D with nx:=N,ct:=N,bk:=D.nx} b h):=by
 show%[λi m a H=>m=n-i/\i<=n/\Pv i a H,%[n,by simp,Xg _|o]|?_];intro i m a H %[rfl,hi|p];by_cases f:i<n
 .show .inr %[f,Pv _,λc d s=>%[n-(i+1),!_,rfl,f|s]|λx d y=>?_];let%[e|y]:=y;subst e y;show q i a _ f p
 .let e:i=n:=by lia
  subst e;show .inl %[Zi _|r a H p]
noncomputable abbrev R2:=V->V->Hp->VK->Prop
abbrev OpR(X:Cx)(f:hV->hV->Sem hV)(r:R2):Prop:=
 ∀ff s (a:St) H x y v u Q,Qc X ff a H s->aY x v->aY y u->r x y H Q->
  (X⁻¹) (f v u) (EP X ff a Q) X.xe s
abbrev UnR(X:Cx)(f:hV->Sem hV)(r:V->Hp->VK->Prop):Prop:=
 ∀ff s (a:St) H x v Q,Qc X ff a H s->aY x v->r x H Q->
  (X⁻¹) (f v) (EP X ff a Q) X.xe s
abbrev cH(X:Cx)(f:hV)(r:fx V->Hp->VK->Prop):Prop:=
 ∀ff s (a:St) H xs us Q,Qc X ff a H s->aQ xs us->r xs H Q->
  (X⁻¹) (call f us) (EP X ff a Q) X.xe s
abbrev TruR(X:Cx)(r:V->Hp->(on->Hp->Prop)->Prop):Prop:=
 ∀ff s (a:St) H x v Q,Qc X ff a H s->aY x v->r x H Q->
  (X⁻¹) (Tl v) (TP X ff a Q) X.xe s
abbrev tOp(r:R2)(b c:TE):TE:=λa H Q=>b a H λx d=>c a d λy e=>r x y e Q
abbrev tUn(r:V->Hp->VK->Prop)(a:TE):TE:=λb H Q=>a b H λx c=>r x c Q
abbrev rI(C:md->md->Prop)(g:md->md->V):R2:=λx y H Q=>asI x λi=>asI y λj=>C i j/\Q (g i j) H
abbrev rI0(g:md->md->V):R2:=λx y H Q=>asI x λi=>asI y λj=>Q (g i j) H
abbrev rU(g:md->V):V->Hp->VK->Prop:=λx H Q=>asI x λi=>Q (g i) H
section
variable{X:Cx}{a b c:tI}{ta tb tc:TE}{pos:Pos}
def IX(m:PE X a ta)(n:PE X b tb){ff:fx _}{s:jg}{d:St}{H:Hp}{R:V->V->Hp->Prop}(I:Qc X ff d H s)
 (h:ta d H λx l=>tb d l λy e=>R x y e) {Q:ZD} {f:hV->hV->Sem hV}
 (o:∀v u j x y e,Qc X ff d e j->aY x v->aY y u->R x y e->(X⁻¹) (f v u) Q X.xe j):
 (X⁻¹) (M9 a X.env) (λv g=>(X⁻¹) (M9 b X.env) (λu i=>(X⁻¹) (f v u) Q X.xe i) X.xe g) X.xe s:=by
 show thP (m ff s d H _ I h) λv p x l q r w=>thP (n ff p d l _ q w) λu j y e z A B=>o v u j x y e z r A B
def Ld{r:R2}(d:OpR X (No op) r)(e:PE X a ta)(f:PE X b tb):PE X (.BinOp a op b pos) (tOp r ta tb):=by
 intro ff s g H Q I h;show wpAny_BinOp (IX e f I h λv u i x y j l m n q=>d ff i g j x y v u Q l m n q)
def Lf(e:UnR X (unaryOp op) r)(f:PE X a ta):PE X (.UnaryOp op a pos) (tUn r ta):=by
 intro ff s d H Q I h;show UnaryOp_ (thP (f ff s d H _ I h) λv g x i j l m=>e ff g d i x v Q j l m)
def opI{f:hV->hV->Sem hV}{C:md->md->Prop}{g:md->md->md}
 (Rx:∀i j t u s Q E,C i j->Q (.int (g i j) s.toks) {s with toks:=s.toks+1}->(X⁻¹) (f (.int i t) (.int j u)) Q E s):
 OpR X f (rI C λi j=> .int (g i j)):=by
 intro ff s n H x y v u Q I d e h;let%[i,rfl|l]:=dm h;let%[j,rfl,m|q]:=dm l;let%[t|rfl]:=d;let%[t'|rfl]:=e;show Rx i j t t' s _ _ m %[.int _,H,I.tok _,%[_|rfl]|q]
def Lg{g:md->md->md}
 (Rx:∀(i j:md) (t u:Tok) (s:jg) (Q:ZD) (E:ZD),Q (.int (g i j) s.toks) {s with toks:=s.toks+1}->(X⁻¹) (f (.int i t) (.int j u)) Q E s):
 OpR X f (rI0 λi j=> .int (g i j)):=by
 intro ff s m H x y v u Q I d e h;let%[i,rfl|l]:=dm h;let%[j,rfl|q]:=dm l;let%[t|rfl]:=d;let%[t'|rfl]:=e;show Rx i j t t' s _ _ %[.int _,H,I.tok _,%[_|rfl]|q]
def Ge{g:md->md->on}
 (Rx:∀(i j:md) (t u:Tok) (s:jg) (Q:ZD) (E:ZD),Q (.bool (g i j)) s->(X⁻¹) (f (.int i t) (.int j u)) Q E s):
 OpR X f (rI0 λi j=> .bl (g i j)):=by
 intro ff s m H x y v u Q I d e h;let%[i,rfl|l]:=dm h;let%[j,rfl|q]:=dm l;let%[t|rfl]:=d;let%[t'|rfl]:=e;show Rx i j t t' s _ _ %[.bl _,H,I,rfl|q]
abbrev Lh(i j:md):Prop:=0<j/\j<1073741824
abbrev CPow(i j:md):Prop:=0<=j/\j<=1000000/\i.natAbs<2^64
abbrev Gf(i j:md):Prop:=(-(2^64)<i/\i<2^64)\/(-(2^64)<j/\j<2^64)
def Gf.ok{i j:md}(h:Gf i j):IntMulOk i j:=by
 rcases h with⟨d,e⟩|⟨d,e⟩
 .show .of_left (intBits_le_64 d e)
 .show .of_right (intBits_le_64 d e)
def IY:OpR X (No .Add) (rI0 λi j=> .int (i+j)):=Lg λ_ _ _ _ _ _ _ q=>add_int q
def IZ:OpR X (No .Sub) (rI0 λi j=> .int (i-j)):=Lg λ_ _ _ _ _ _ _ q=>sub_int q
def I0:OpR X (No .Mult) (rI Gf λi j=> .int (i*j)):=opI λ_ _ _ _ _ _ _ d q=>mul_int q d.ok
def Gg:OpR X (No .FloorDiv) (rI Lh λi j=> .int (i/j)):=opI λi j _ _ _ _ _ d q=>by
 let e:(0:md)<j:=d.1;let f:j<1073741824:=d.2;show floordiv_int ⋯ (by rw[md.fdiv_eq_ediv_of_nonneg i !_];show q) (.inl (PyProof.noPylong_small !_))
def Ja:OpR X (No .Mod) (rI (λ_ j=>0<j) λi j=> .int (i%j)):=opI λi j _ _ _ _ _ d q=>by
 let e:(0:md)<j:=d;show mod_int' ⋯ (by rw[md.fmod_eq_emod_of_nonneg i !_];show q)
def Dd:OpR X (No .LShift) (rI CPow λi j=> .int (i*2^j.toNat)):=opI λ_ _ _ _ _ _ _ d q=>lshift_int_small d.1 d.2.1 d.2.2 q
def unI{g:md->md}
 (Rx:∀(i:md) (t:Tok) (s:jg) (Q:ZD) (E:ZD),Q (.int (g i) s.toks) {s with toks:=s.toks+1}->(X⁻¹) (f (.int i t)) Q E s):
 UnR X f (rU λi=> .int (g i)):=by
 intro ff s e H x v Q I d h;let%[i,rfl|q]:=dm h;let%[t|rfl]:=d;show Rx i t s _ _ %[.int _,H,I.tok _,%[_|rfl]|q]
def Jb:UnR X (unaryOp .USub) (rU λi=> .int (-i)):=unI λ_ _ _ _ _ q=>neg_int q
end
abbrev Jc(x y:V):on:=match x with
 | .non=>(match y with| .non=>gb| .int _=>gb| .bl _=>gb| .str _=>gb|_=>gi)
 | .int _=>(match y with| .non=>gb| .int _=>gb| .str _=>gb|_=>gi)
 | .bl _=>(match y with| .non=>gb| .bl _=>gb| .str _=>gb|_=>gi)
 | .str _=>(match y with| .non=>gb| .int _=>gb| .bl _=>gb| .str _=>gb|_=>gi)
 | .byt _=>(match y with| .byt _=>gb|_=>gi)
 | _=>gi
abbrev rEq:R2:=λx y H Q=>Jc x y=gb/\Q (.bl (decide (x=y))) H
abbrev rNe:R2:=λx y H Q=>Jc x y=gb/\Q (.bl (!decide (x=y))) H
def An:decide (V.int i=V.int j)=(i==j):=by
 rw[N1];simp
def De:decide (V.bl i=V.bl j)=(i==j):=by
 rw[N1];simp
def Ao:decide (V.str i=V.str j)=(i==j):=by
 rw[N1];simp
def Ap:decide (V.byt i=V.byt j)=(i.toList==j.toList):=by
 rw[N1]
 simp_all
section
variable{X:Cx}{a b c:tI}{ta tb tc:TE}{pos:Pos}
def bq(I:Qc X ff d H s)(q:Q (.bl k) H)(e:k=f):EP X ff d Q (.bool f) s:=by
 subst e;show%[.bl k,H,I,ρ|q]
def HM:OpR X (oT .Eq) rEq:=by
 intro ff s g H x y v u Q I f d h;let%[e|q]:=h;cases x with
 | non=>
   cases f;cases y with
   | non=>cases d;show PySem.EqNone.eq_none_none (bq I q ∅)
   | bl j=>cases d;show PySem.EqNone.eq_none_bool (bq I q ∅)
   | int j=>have%[t'|rfl]:=d;show PySem.EqNone.eq_none_int (bq I q ∅)
   | str j=>have%[t'|rfl]:=d;show PySem.EqNone.eq_none_str (bq I q ∅)
   | _=>show lr (show gi=gb from e) Zt
 | bl i=>
   cases f;cases y with
   | non=>cases d;show PySem.EqNone.eq_bool_none (bq I q ∅)
   | bl j=>cases d;show eq_bool (bq I q De)
   | str j=>have%[t'|rfl]:=d;show PySem.EqMixed.eq_bool_str (bq I q ∅)
   | _=>show lr (show gi=gb from e) Zt
 | int i=>
   let%[t|rfl]:=f;cases y with
   | non=>cases d;show PySem.EqNone.eq_int_none (bq I q ∅)
   | int j=>have%[t'|rfl]:=d;show eq_int (bq I q An)
   | str j=>have%[t'|rfl]:=d;show PySem.EqMixed.eq_int_str (bq I q ∅)
   | _=>show lr (show gi=gb from e) Zt
 | str i=>
   let%[t|rfl]:=f;cases y with
   | non=>cases d;show PySem.EqNone.eq_str_none (bq I q ∅)
   | bl j=>cases d;show PySem.EqMixed.eq_str_bool (bq I q ∅)
   | int j=>have%[t'|rfl]:=d;show PySem.EqMixed.eq_str_int (bq I q ∅)
   | str j=>have%[t'|rfl]:=d;show eq_str (bq I q Ao)
   | _=>show lr (show gi=gb from e) Zt
 | byt i=>
   let%[t|rfl]:=f;cases y with
   | byt j=>have%[t'|rfl]:=d;show PySem.W.eq_bytes (bq I q Ap)
   | _=>show lr (show gi=gb from e) Zt
 | _=>cases y<;> show lr (show gi=gb from e) Zt
def HN:OpR X (oT .NotEq) rNe:=by
 intro ff s g H x y v u Q I f d h;let%[e|q]:=h;cases x with
 | non=>
   cases f;cases y with
   | non=>cases d;show PySem.EqNone.ne_none_none (bq I q ∅)
   | bl j=>cases d;show PySem.EqNone.ne_none_bool (bq I q ∅)
   | int j=>have%[t'|rfl]:=d;show PySem.EqNone.ne_none_int (bq I q ∅)
   | str j=>have%[t'|rfl]:=d;show PySem.EqNone.ne_none_str (bq I q ∅)
   | _=>show lr (show gi=gb from e) Zt
 | bl i=>
   cases f;cases y with
   | non=>cases d;show PySem.EqNone.ne_bool_none (bq I q ∅)
   | bl j=>cases d;show ne_bool (bq I q (nY not De))
   | str j=>have%[t'|rfl]:=d;show PySem.EqMixed.ne_bool_str (bq I q ∅)
   | _=>show lr (show gi=gb from e) Zt
 | int i=>
   let%[t|rfl]:=f;cases y with
   | non=>cases d;show PySem.EqNone.ne_int_none (bq I q ∅)
   | int j=>have%[t'|rfl]:=d;show ne_int (bq I q (nY not An))
   | str j=>have%[t'|rfl]:=d;show PySem.EqMixed.ne_int_str (bq I q ∅)
   | _=>show lr (show gi=gb from e) Zt
 | str i=>
   let%[t|rfl]:=f;cases y with
   | non=>cases d;show PySem.EqNone.ne_str_none (bq I q ∅)
   | bl j=>cases d;show PySem.EqMixed.ne_str_bool (bq I q ∅)
   | int j=>have%[t'|rfl]:=d;show PySem.EqMixed.ne_str_int (bq I q ∅)
   | str j=>have%[t'|rfl]:=d;show ne_str (bq I q (nY not Ao))
   | _=>show lr (show gi=gb from e) Zt
 | byt i=>
   let%[t|rfl]:=f;cases y with
   | byt j=>have%[t'|rfl]:=d;show PySem.W.ne_bytes (bq I q (nY not Ap))
   | _=>show lr (show gi=gb from e) Zt
 | _=>cases y<;> show lr (show gi=gb from e) Zt
def Li:OpR X (oT .Lt) (rI0 λi j=> .bl (decide (i<j))):=Ge λ_ _ _ _ _ _ _ q=>lt_int q
def Lj:OpR X (oT .LtE) (rI0 λi j=> .bl (decide (i<=j))):=Ge λ_ _ _ _ _ _ _ q=>le_int q
def Lk:OpR X (oT .Gt) (rI0 λi j=> .bl (decide (j<i))):=Ge λ_ _ _ _ _ _ _ q=>gt_int q
def Lo:OpR X (oT .GtE) (rI0 λi j=> .bl (decide (j<=i))):=Ge λ_ _ _ _ _ _ _ q=>ge_int q
def Bz:OpR X (oT .In) (λx y H Q=>asS x λi=>asS y λj=>Q (.bl (!(NF j i 0 j.length 1).isEmpty)) H):=by
 intro ff s l H x y v u Q I f g h;let%[i,rfl|d]:=d6 h;let%[j,rfl|e]:=d6 d;let q:=e;let%[t|rfl]:=f;let%[t'|rfl]:=g;show in_str (bq I q rfl)
def Jd:OpR X (oT .Is) (λx y H Q=>y= .non/\Q (.bl (decide (x= .non))) H):=by
 intro ff s f H x y v u Q I d e h;let%[rfl|q]:=h;cases e;show is_none_gen (bq I q ?_);cases x<;> first
  | lia
  |(have%[t|rfl]:=d;rfl)
def Gh:OpR X (oT .IsNot) (λx y H Q=>y= .non/\Q (.bl (!decide (x= .non))) H):=by
 intro ff s f H x y v u Q I d e h;let%[rfl|q]:=h;cases e;show isnot_none_gen (bq I q ?_);cases x<;> first
  | lia
  |(have%[t|rfl]:=d;rfl)
def nomark(b:tI)(h:op≠ .In)(f:op≠ .NotIn):MU op b=gi:=by
 let d:(op==Wa.In)=gi:=by lia
 let e:(op==Xt)=gi:=by lia
 cases b<;> simp[MU,d,e]
def Gi{r:R2}(d:OpR X (oT op) r)(e:PE X a ta)(f:PE X b tb)(g:MU op b=gi):PE X (.Compare a [op] [b] pos) (tOp r ta tb):=by
 intro ff s i H Q I h;show wpAny_Compare1 (IX e f I h λv u j x y l m n o q=>d ff j i l x y v u Q m n o q) g
abbrev wF(t:TE):TT:=λd H Q=>t d H λx e=>asB x λk=>Q k e
def Gj(f:OpR X (oT op) r)(g:PE X a ta)(i:PE X b tb)(j:MU op b=gi):PT X (.Compare a [op] [b] pos) (wF (tOp r ta tb)):=by
 intro ff s d H Q I h;show Vz (thP (g ff s d H _ I h) λv l x m n o p=>thP (i ff l d m _ n p) λu q y w A B C=>
  thP (f ff q d w x y v u _ A o B C) λc L z E G J e=>?_) j
 let%[k,rfl|e]:=qd e;cases J;show MR %[E,G|e]
abbrev yV(r f:R2)(ta tb tc:TE):TE:=λd H Q=>ta d H λx g=>tb d g λy h=>r x y h λz e=>asB z λk=>
 (if k=gb then tc d e λi j=>f y i j Q else Q (.bl gi) e)
def Df(n:OpR X (oT op) r)(i:OpR X (oT e) o)(p:PE X a ta)(q:PE X b tb)(w:PE X c tc)
 (A:lastMarks [op,e] [b,c]=gi):PE X (.Compare a [op,e] [b,c] pos) (yV r o ta tb tc):=by
 intro ff s f H Q I h;show Compare_chain (thP (p ff s f H _ I h) λv B x C E G J=>chain_link (thP (q ff B f C _ E J) λu L y M N j O=>
  thP (n ff L f M x y v u _ N G j O) λd T z l m U g=>?_)) A
 let%[k,rfl|g]:=qd g;cases U;show MR ?_;cases k with
 | false=>show ite_ff %[.bl gi,l,m,rfl|g]
 | true=>show ite_tt (chain_last (thP (w ff T f l _ m g) λY s4 z' H4 I4 r4 q4=>i ff s4 f H4 y z' u Y Q I4 j r4 q4))
abbrev BA(K:ZA)(x:V)(H:Hp)(k:on):Prop:=
 match x with
 | .non=>k=gi
 | .bl b=>k=b
 | .int i=>k=(i != 0)
 | .str y=>y\5<=iv/\k=((y\5:md) != 0)
 | .byt y=>y.size<=iv/\k=((y.size:md) != 0)
 | .ref p=>(∃xs,Qb K H p xs/\k=!xs.isEmpty)\/(∃xs,SqT K H p xs/\k=!xs.isEmpty)\/∃d,H p>=.dK d/\k=!d.isEmpty
 | _=>yc
def yW{e:Type}{d:fx (e×V)}{vs:fx _}(r:KV d vs):(!vs.isEmpty)=!d.isEmpty:=by
 cases r<;> rfl
def qe(r:aQ xs its):(!its.toArray.isEmpty)=!xs.isEmpty:=by
 cases r<;> simp
def uX:iv<2^63:=!1
def Je:TruR X (λx H Q=>∃k,BA X.K x H k/\Q k H):=by
 intro ff s w H x v Q I j h;let%[k,e|q]:=h;let z:=uX;let A:iv=16777216:=MD;cases x with
 | non=>
   cases j;let d:k=gi:=e;subst d;show truthy_none %[H,I|q]
 | bl b=>
   cases j;let d:k=b:=e;subst d;show MR %[H,I|q]
 | int i=>
   let%[t|rfl]:=j;let d:k=(i != 0):=e;subst d;show PySem.P.truthy_int %[H,I|q]
 | str y=>
   let%[t|rfl]:=j;obtain⟨o,d⟩:y\5<=iv/\k=((y\5:md) != 0):=e;subst d;show PySem.P.truthy_str ⋯ %[H,I.tok _|q]
 | byt y=>
   let%[t|rfl]:=j;obtain⟨o,d⟩:y.size<=iv/\k=((y.size:md) != 0):=e;subst d;show PySem.W.truthy_bytes ⋯ %[H,I.tok _|q]
 | ref p=>
   cases j;let d:(∃xs,Qb X.K H p xs/\k=!xs.isEmpty)\/(∃xs,SqT X.K H p xs/\k=!xs.isEmpty)\/∃f,H p>=.dK f/\k=!f.isEmpty:=e;rcases d with⟨xs,l,d⟩|⟨xs,l,d⟩|⟨f,l,d⟩
   .subst d;let%[its,r,pl|n]:=I.list l;let g:=r\5;show wpAny_truthy_list pl.isList (by simp only[Zp];lia) %[H,I.tok _|(qe r)▸q]
   .subst d;let%[its,r,pl|n]:=I.tuple l;let g:=r\5;show truthy_tuple pl (by simp only[Zp];lia) %[H,I.tok _|(qe r)▸q]
   .subst d;obtain⟨n,u,vs,r,m⟩:f\5<=iv/\(p==Nu)=gi/\∃vs,KV f vs/\s.heap.DictOf (aM X.prog X.w) p vs:=I.hok p _ l;let g:f\5=vs\5:=Paired.length r;show wpAny_truthy_dict u m ⋯ %[H,I.tok _|(yW r)▸q]
 | _=>show(show yc from e).elim
def Dg(g:PE X a ta)(i:∀d,RV a X.env d=(do let v<-d;Oy a.pos;O7 [v] (Tl v))):
 PT X a (λe H Q=>ta e H λx f=>∃k,BA X.K x f k/\Q k f):=by
 intro ff s e H Q I h;show Vo (thP (g ff s e H _ I h) λv j x l m n o=>Je ff j e l x v Q m n o) (i _)
def yX:OpR X (No .Add) (λx y H Q=>asS x λi=>asS y λj=>i\5+j\5<=iv/\Q (.str (i++j)) H):=by
 intro ff s m H x y v u Q I f g h;let%[i,rfl|d]:=d6 h;let%[j,rfl|e]:=d6 d;let%[l|q]:=e;let%[t|rfl]:=f;let%[t'|rfl]:=g;show add_str (λt' tk=>%[.str _,H,I.tok _,%[_|rfl]|q]) l
def dq(r:aQ [x] us):∃u,us=[u]/\aY x u:=by
 cases r with
 | cons d e=>cases e;show%[_,ρ|d]
def iP(r:aQ [x,y] us):∃u d,us=[u,d]/\aY x u/\aY y d:=by
 cases r with
 | cons e f=>
   cases f with
   | cons g h=>cases h;show%[_,_,ρ,e|g]
def BB(n:X.calm=gb):cH X (.builtin "max") (λxs H Q=>jR xs λl m=>asI l λi=>asI m λj=>Q (.int (if GT.gt j i then j else i)) H):=by
 intro ff s o H xs us Q I r h;let%[l,m,rfl|e]:=fE h;let%[i,rfl|f]:=dm e;let%[j,rfl|g]:=dm f;let q:=g;let%[u,p,rfl,%[t|rfl],t'|rfl]:=iP r;show max_two_ints (I.ok.hd n) λh' tk k=>%[_,H,I.kept k,?_|q]
 by_cases d:GT.gt j i
 .rw[hY d,hY d];show%[_|ρ]
 .rw[hH d,hH d];show%[_|ρ]
def BC(n:X.calm=gb):cH X (.builtin "min") (λxs H Q=>jR xs λl m=>asI l λi=>asI m λj=>Q (.int (if j<i then j else i)) H):=by
 intro ff s o H xs us Q I r h;let%[l,m,rfl|e]:=fE h;let%[i,rfl|f]:=dm e;let%[j,rfl|g]:=dm f;let q:=g;let%[u,p,rfl,%[t|rfl],t'|rfl]:=iP r;show min_two_ints (I.ok.hd n) λh' tk k=>%[_,H,I.kept k,?_|q]
 by_cases d:j<i
 .rw[hY d,hY d];show%[_|ρ]
 .rw[hH d,hH d];show%[_|ρ]
def BD:cH X (.type "int") (λxs H Q=>(∃i,xs=[.int i]/\Q (.int i) H)\/∃k,xs=[.bl k]/\Q (.int (if k then 1 else 0)) H):=by
 intro ff s e H xs us Q I r h;rcases h with⟨i,rfl,q⟩|⟨k,rfl,q⟩
 .let%[u,rfl,t|rfl]:=dq r;show call_int_int %[.int i,H,I,%[_|rfl]|q]
 .let%[u,rfl|d]:=dq r;cases d;show call_int_bool %[.int _,H,I.tok _,%[_|rfl]|q]
def uY:cH X (.type "str") (λxs H Q=>cP xs λf=>asI f λi=>i.natAbs.log2<1920/\Q (.str (toString i)) H):=by
 intro ff s j H xs us Q I r h;let%[f,rfl|d]:=bJ h;let%[i,rfl|e]:=dm d;let%[g|q]:=e;let%[u,rfl,t|rfl]:=dq r;show PySem.P.str_of_int g %[.str _,H,I.tok _,%[_|rfl]|q]
abbrev Gk(K:ZA)(x:V)(H:Hp)(n:gf):Prop:=
 match x with
 | .str y=>y\5<=iv/\n=y\5
 | .byt y=>y.size<=iv/\n=y.size
 | .ref p=>(∃xs,Qb K H p xs/\n=xs\5)\/∃xs,SqT K H p xs/\n=xs\5
 | _=>yc
def Dh:cH X (.builtin "len") (λxs H Q=>cP xs λx=>∃n,Gk X.K x H n/\Q (.int n) H):=by
 intro ff s v H xs us Q I r h;let%[x,rfl|g]:=bJ h;let%[n,e|q]:=g;let%[u,rfl|i]:=dq r;let w:=MD;cases x with
 | str y=>
   let%[t|rfl]:=i;obtain⟨m,f⟩:y\5<=iv/\n=y\5:=e;subst f;show len_str ⋯ %[.int _,H,I.tok _,%[_|rfl]|q]
 | byt y=>
   let%[t|rfl]:=i;obtain⟨m,f⟩:y.size<=iv/\n=y.size:=e;subst f;show PySem.W.len_bytes ⋯ %[.int _,H,I.tok _,%[_|rfl]|q]
 | ref p=>
   cases i;let f:=e;rcases f with⟨xs,j,f⟩|⟨xs,j,f⟩
   .subst f;let%[its,l,pl|o]:=I.list j;let d:=l\5;show Calls.call_len_list pl.isList (by simp only[Zp];lia) %[.int xs.length,H,I.tok _,%[_|by simp only[Zp];rw[d]]|q]
   .subst f;let%[its,l,pl|o]:=I.tuple j;let d:=l\5;show len_tuple pl (by simp only[Zp];lia) %[.int xs.length,H,I.tok _,%[_|by simp only[Zp];rw[d]]|q]
 | _=>show(e).elim
end
structure yY (h:su) (x dx C:hW) (mA:ZC):Prop where
 obj:h.get? x>=TZ C dx
 ns:h.Ns1 dx mA
 ne:dx≠x
set_option tactic.hygienic true in
def BE{h:su}{c:ZC}(n:h.Ns1 d c):∃od,h.get? d>=od/\∀name,YP name od>=c name:=by
 let%[o,f,p,g,i,j,_|l]:=n;show%[o,g|λname=>?_];let e:=l name;unfold nsFind findBy at e;rw[<-U0]at e;unfold YP;rw[i];dsimp only
 split
 .rename_i y q
  rw[q]at e;show nY fI e
 .rename_i q
  rw[q]at e;let a:f.toList.any (·.refKey)=gi:=by
   rw[fx.any_eq_false];intro y m;let%[z,t|b]:=j y (Qg.mp m);simp[Vb.refKey,b]
  rw[hH (a▸Zt)];show nY fI e
def yY.look(I:yY h x a C b):∃od,PySem.W.InstAt h x (TZ C a) C (fI od)/\∀name,YP name od>=b name:=
 let⟨od,c,d⟩:=BE I.ns
 %[od,%[I.obj,rfl,rfl|c]|d]
section
#where
variable{K:ZA}{x dx C f:hW}{mA:ZC}{name:jz}{v:hV}
def Gm(X:K.In s.heap)(I:yY s.heap x dx C mA)(c:Ug K C name=gb)(d:Pl K C=gb)
 (e:MP K (.ref C) name>=fD) (g:mA name>=v) (a:handedIn v=gb) (h:Q v {s with toks:=s.toks+1}):
 ↥A (getAttr (.ref x) name b) Q E s:=by
 let%[od,J|i]:=I.look;show PySem.W.get_value X J (VW c).1 (PySem.W.findObj_own d e rfl (by rw[i,g])) a h
def Di(X:K.In s.heap)(I:yY s.heap x dx C mA)(a:Ug K C name=gb)
 (b:MP K (.ref C) name>=fI (.ref f)) (c:YQ K (.ref f)=gb) (d:mA name=fD) (h:Q (.ref f,[.ref x]) s):
 ↥A (Q5 (.ref x) name pl) Q E s:=by
 let%[od,J|e]:=I.look;show PySem.W.method_fn X J (VW a).1 (VW a).2 b (NE.mp c) (by change(YP name od).map _>=gi;rw[e,d];rfl) h
def Gn(X:K.In s.heap)(I:yY s.heap x dx C mA)
 (j:MP K (.ref C) "__setattr__"=fI (fI (.builtin "object.__setattr__"))) (l:XG K C=gb) (m:takerIn K C name>=fD) (n:Pl K C=gb)
 (hw:PySem.Within mA o) (p:o\5<=iv)
 (h:∀h',yY h' x dx C (λy=>if y=name then fI v else mA y)->q7 dx s.heap h'->Q () {s with heap:=h',toks:=s.toks+2}):
 ↥A (setAttr (.ref x) name v) Q E s:=by
 let%[od,J|z]:=I.look;show set_plain X J j (PySem.W.osa_open X J l m λb=>?_);let%[B,q|d]:=Q8 n;show Z2 (Z3 (Z2 (Z2 (Qd I.obj (Z2 (S8 (VZ X q) ?_))))));rw[d];show Z3 (Z2 (Z3 (Z2 (wpAny_nsSet1 I.ns λh' a c=>?_))));let%[G,r,u,e,g|i]:=a.count (PySem.Within.cons name v hw);show Z2 (Xw e (g▸XH (lx i (!2))) (Z3 (h _ %[(c.2 _ (wh I.ne)).trans I.obj,a|I.ne] c)))
def Dj{R:Tu->jg->Prop}(X:K.In s.heap)(b:makesIn K C=gb)
 (hi:MP K (.ref C) "__init__"=fI (fI (.ref f))) (c:Wv K (.ref f)>=.type "function")
 (h:Pw (Nm prog w) (A.under (.builtin "type.__call__" %[.ref C::vs|a])) (.call (.ref f) %[.ref (⇑s+1)::vs|a]) (PySem.W.InitBack (⇑s+1) R)
  (s>>>(s.heap.push Sa).push (TZ C ⇑s))):
 Pw (Nm prog w) A (.call (.ref C) %[vs|a]) R s:=by
 show PySem.W.make_core (PySem.W.makes_of X b) (Vn X hi) (λself=>PySem.W.bind_fn X self c) (.inl rfl) h
end
abbrev eL(f:jz)(v:V):fx (jz×V)->fx (jz×V)
 |[]=>[(f,v)]
 |(g,x)::r=>if g=f then(g,v)::r else(g,x)::eL f v r
def oH(f g:jz)(v:V):∀fs,(eL f v fs).lookup g=if g=f then fI v else fs.lookup g
 |[]=>by
  change NT g [(f,v)]=_;by_cases h:g=f
  .let a:=NE.mpr h;simp only[NT,a,hY h]
  .let a:=MQ.mpr h;simp only[NT,a,hH h]
 |(k,x)::r=>by
  rw[show eL f v _=(if k=f then(k,v)::r else(k,x)::eL f v r)from rfl];by_cases b:k=f
  .rw[hY b];by_cases h:g=k
   .let a:=NE.mpr h;simp only[NT,a,hY (h.trans b)]
   .let a:=MQ.mpr h;simp only[NT,a,hH (λe:g=f=>h (e.trans b.symm))]
  .rw[hH b];by_cases h:g=k
   .let a:=NE.mpr h;simp only[NT,a,hH (λe=>b (h.symm.trans e))]
   .let a:=MQ.mpr h;simp only[NT,a];show(oH f g v r)
def nF(f:jz)(v:V):∀fs:fx (jz×V),f>(eL f v fs)\1/\∀g,g>fs\1->g>(eL f v fs)\1
 |[]=>%[by simp[eL]|λg h=>by simp at h]
 |(k,x)::r=>by
  let%[a|b]:=nF f v r;rw[show eL f v _=(if k=f then(k,v)::r else(k,x)::eL f v r)from rfl]
  grind
def oJ(f:jz)(v:V):∀fs,(eL f v fs)\5<=fs\5+1
 |[]=>by simp[eL]
 |(k,x)::r=>by
  let a:=oJ f v r;rw[show eL f v _=(if k=f then(k,v)::r else(k,x)::eL f v r)from rfl];by_cases b:k=f
  .simp_all
  simp_all
def iK.some_of(r:iK (fI v) o):∃u,o>=u/\aY v u:=by
 cases o with
 | none=>show(r).elim
 | some u=>show%[u,ρ|r]
def iK.none_of(r:iK fD o):o=fD:=by
 cases o with
 | none=>rfl
 | some u=>show(r).elim
def BF(r:aY v u):handedIn u=gb:=by
 cases v with
 | non=>cases(r);rfl
 | bl b=>cases(r);rfl
 | int i=>have%[t|e]:=(r);cases e;rfl
 | str x=>have%[t|e]:=(r);cases e;rfl
 | byt b=>have%[t|e]:=(r);cases e;rfl
 | flt b=>have%[t|e]:=(r);cases e;rfl
 | ref a=>cases(r);rfl
 | ty n=>cases(r);rfl
section
variable{P:mu}{w:rM}{H H':Hp}{h h':su}{a C dx:hW}{fs fs':fx (jz×V)}
def pT(c:HOk P w H h)(e:H a>=.ins C dx fs):∃b,yY h a dx C b/\(∀f,iK (fs.lookup f) (b f))/\PySem.Within b (fs\1)/\fs\5<=1000/\H dx>=.own a:=by
 let%[d,z,ne,g,b,n,r|q]:=(c a _ e)
 show%[b,%[g,n|ne],r,q,z|d]
end
structure Cls (K:ZA) (C:hW):Prop where
 pg:Ug K C y2=gb
 hd:Pl K C=gb
 po:XG K C=gb
 sa:MP K (.ref C) "__setattr__"=fI (fI (.builtin "object.__setattr__"))
def Cls.get{K:ZA}{C:hW}(c:Cls K C)(f:jz):Ug K C f=gb:=c.pg
abbrev iC(K:ZA)(C:hW)(f:jz):Prop:=MP K (.ref C) f>=fD
def iC.taker{K:ZA}{C:hW}{f:jz}(n:iC K C f):takerIn K C f>=fD:=by
 unfold takerIn;rw[n];rfl
structure Go (K:ZA) (C:hW) (m:jz) (f:hW):Prop where
 at_:MP K (.ref C) m>=fI (.ref f)
 fn:YQ K (.ref f)=gb
 kp:OJ K (.ref f)=gb
section
#version
variable{a C dx:hW}{fs:fx (jz×V)}{f:jz}{v:V}{A:ri}{E:ZD}
def yZ(I:Qc X ff σ H s)(e:H a>=.ins C dx fs)(c:Cls X.K C)(n:iC X.K C f)(l:fs.lookup f>=v)
 (h:∀u s',Qc X ff σ H s'->aY v u->Q u s'):pw (Nm X.prog X.w) A (getAttr (.ref a) f b) Q E s:=by
 let%[i,O,r,_,_|_]:=pT I.hok e;let%[u,g|d]:=iK.some_of (l▸r f);show Gm I.kIn O (c.get f) c.hd n g (BF d) (h u _ (I.tok _) d)
def y3(I:Qc X ff σ H s)(e:H a>=.ins C dx fs)(c:Cls X.K C)(k:Go X.K C m g)(l:fs.lookup m=fD)
 (h:Q (.ref g,[.ref a]) s):pw (Nm X.prog X.w) A (Q5 (.ref a) m pl) Q E s:=by
 let%[b,O,r,_,_|_]:=pT I.hok e;show Di I.kIn O (c.get m) k.at_ k.fn (iK.none_of (l▸r m)) h
def y4(I:Qc X ff σ H s)(e:H a>=.ins C dx fs)(c:Cls X.K C)(n:iC X.K C f)(J:fs\5<1000)(l:aY y u)
 (h:∀s',Qc X ff σ (Qa H a (.ins C dx (eL f y fs))) s'->Q () s'):pw (Nm X.prog X.w) A (setAttr (.ref a) f u) Q E s:=by
 let%[m,O,r,i,_|j]:=pT I.hok e;show Gn I.kIn O c.sa c.po n.taker c.hd i (by rw[Z6,MD];lia) λh' d p=>h _ (I.write (e▸MK) (.inr j) (λb q w z=>(p.2 b w).trans z) (let⟨o,_,_,B,_⟩:=d.ns;%[o|B]) %[(ar O.ne)▸j,?_,O.ne,d.obj,_,d.ns,λg=>?_|λg G=>?_])
 .let:=oJ f y fs;lia
 .rw[oH];by_cases q:g=f
  .rw[hY q,hY q];show l
  .rw[hH q,hH q];show r g
 .by_cases q:g=f
  .show q▸(nF f y fs).1
  .show(nF f y fs).2 g (i g λz=>G ?_);change(if g=f then fI u else m g)=fD;rw[hH q];show z
def Qc.made(I:Qc X ff σ H s):Qc X ff σ (Qa (Qa H ⇑s (.own (⇑s+1))) (⇑s+1) (.ins C ⇑s []))
 (s>>>(s.heap.push Sa).push (TZ C ⇑s)):=by
 let c:(s.heap.push Sa).get? ⇑s>=Sa:=Zj s.heap rfl;let d:=by
  let:=Zj (s.heap.push Sa) (o:=TZ C ⇑s) rfl;rwa[Zq]at this
 show(I.laid (o:= .own (⇑s+1)) (t':=s.toks) (λb u q=>Z7 _ q) (Zi _) %[_|c]).laid (λb u q=>Z7 _ q) (XO (Zq _ _)) ?_;let ne:⇑s≠⇑s+1:=Zs (Ym _);show%[by rw[ar ne,aa],Xg _,ne,d,λ_=>fD,(UC %[Sa,#[],_,c,ρ,(λe g=>lr g ∅)|λ_=>rfl]).at λo q=>Z7 _ q,λ_=>MK|λy h=>lr rfl h]
def Gp(c:NB e f env (M9 e env)=M9 e env)
 (h:↥A (M9 e env) (λo b=>↥A (getAttr o f gb) Q E b) E s):↥A (M9 (.Attribute e f pos) env) Q E s:=
 Attribute_any_ h (by rw[arm_eval_Attribute,c])
end
abbrev Jf(K:ZA)(c:TE)(f:jz):TE:=λd H Q=>c d H λx b=>asR x λa=>∃C e fs,b a>=.ins C e fs/\Cls K C/\iC K C f/\∃v,fs.lookup f>=v/\Q v b
abbrev Jg(K:ZA)(e g:TE)(f:jz):TS:=λD b H=>g b H λy h=>e b h λx c=>asR x λa=>∃C d fs,c a>=.ins C d fs/\Cls K C/\iC K C f/\fs\5<1000/\
 D.nx b (Qa c a (.ins C d (eL f y fs)))
section
variable{X:Cx}{o e value:tI}{f:jz}{pos pos' tpos:Pos}{ta tv:TE}
def Jh(b:PE X e ta)(d:NB e f X.env (M9 e X.env)=M9 e X.env):PE X (.Attribute e f pos) (Jf X.K ta f):=by
 intro ff s g H Q I h;show Gp d (thP (b ff s g H _ I h) λu y x i j m h=>?_);let%[a,rfl,C,z,fs,p,c,n,v,l|q]:=aT h;obtain rfl:u=ku a:=m;show yZ j p c n l λA B r w=>%[v,i,r,w|q]
def Ji(d:PE X o ta)(g:PE X value tv)(i:Oo value (fI (.Attribute o f pos')) pos.line X.env=pure gi):PS X (.Assign [.Attribute o f pos'] value pos) (Jg X.K ta tv f):=by
 intro ff s b H D I h;show Tg (thP (g ff s b H _ I h) λu j y m p r q=>thP (d ff j b m _ p q) λv G x J w z h=>?_) i;let%[a,rfl,C,L,fs,A,c,n,l|B]:=aT h;obtain rfl:v=ku a:=z;show y4 w A c n l r λM E=>%[b,_,E|B]
end
section
#version
variable{A:ri}{E:ZD}{Q:ZD}{c:hV}{b:on}
inductive kP (K:ZA) (H:Hp):V->hV->Prop where
 | non:kP K H .non (.type "NoneType")
 | bl (x:on):kP K H (.bl x) (.type "bool")
 | int (i:md):kP K H (.int i) (.type "int")
 | str (x:jz):kP K H (.str x) (.type "str")
 | flt (x:UInt64):kP K H (.flt x) (.type "float")
 | lst {a:hW} {xs:fx V} (e:H a<*xs):kP K H (.ref a) (.type "list")
 | frz {a:hW} {o:NV} {xs:fx V} (e:H a>=.frz o (.lst xs)):kP K H (.ref a) (.type "list")
 | tup {a:hW} {xs:fx V} (e:H a&&&xs):kP K H (.ref a) (.type "tuple")
 | dK {a:hW} {kvs:fx _} (e:H a>=.dK kvs):kP K H (.ref a) (.type "dict")
 | dT {a:hW} {kvs:fx _} (e:H a>=.dT kvs):kP K H (.ref a) (.type "dict")
 | ins {a C dx:hW} {fs:fx _} (e:H a>=.ins C dx fs) (cl:Cls K C) (ha:MP K (.ref C) "__class__"=fI (fI (.builtin "object.__class__")))
  (hn:To K (.builtin "object.__class__") "__get__"=fI (fI (.builtin "getset_descriptor.__get__"))) (htk:takesIn K (.builtin "object.__class__")>=gb)
  (hm:mroIn K C (.type "object")>=gb):kP K H (.ref a) (.ref C)
def BG(I:Qc X ff σ H s)(d:aY x u)(ty:kP X.K H x t)(e:Pk X.K t c>=b)(h:∀tk,Q (.bool b) {s with toks:=tk}):
 pw (Nm X.prog X.w) A (call (.builtin "isinstance") [u,c]) Q E s:=by
 cases ty with
 | non=>cases(d);show O6 kitx_none I.kIn MK e (λz=>nomatch z) h
 | bl y=>cases(d);show O6 PySem.W.kitx_bool I.kIn MK e (λz=>nomatch z) h
 | int i=>have%[t|q]:=(d);cases q;show O6 PySem.W.kitx_int I.kIn MK e (λz=>nomatch z) h
 | str y=>have%[t|q]:=(d);cases q;show O6 PySem.W.kitx_str I.kIn MK e (λz=>nomatch z) h
 | flt y=>have%[t|q]:=(d);cases q;show O6 PySem.W.kitx_float I.kIn MK e (λz=>nomatch z) h
 | @lst a xs f=>
   cases(d);let%[_,_,n,_|g]:=(I.hok a _ f)
   show O6 kitx_list I.kIn %[_,g|rfl] e (λz=>nomatch z) h
 | @frz a M xs f=>
   cases(d);let%[_,_,_,n,_|g]:=(I.hok a _ f)
   show O6 kitx_list I.kIn %[_,g|rfl] e (λz=>nomatch z) h
 | @tup a xs f=>
   cases(d);let%[_,_,_|p]:=(I.hok a _ f)
   let%[o,g,j|_]:=p;show O6 PySem.W.kitx_tuple I.kIn %[o,g|j] e (λz=>nomatch z) h
 | @dK a l f=>
   cases(show u=ku a from d);let%[_,_,vs,_|p]:=(I.hok a _ f)
   let%[o,v,w,g,j|_]:=p;show O6 kitx_dict I.kIn %[o,g|j.1] e (λz=>nomatch z) h
 | @dT a l f=>
   cases(show u=ku a from d);let%[_,_,xs,_,o,v,w,g,j|_]:=(I.hok a _ f)
   show O6 kitx_dict I.kIn %[o,g|j.1] e (λz=>nomatch z) h
 | @ins a C N fs f r B G m L=>
   cases(d);let%[T,O|_]:=pT I.hok f;let%[od,J|_]:=O.look;show O6 (PySem.W.kitx_own (r.get _) r.hd B G m L) I.kIn J e (λz=>nomatch z) h
end
structure bW (k:gf) (A:ri):Prop where
 hd:A.handled=fD
 dp:A.depth+3*k+5<recursionLimit
 un:A.units+16*k+200<Pa
 gd:A.guards>=[]
def bW.mono(r:bW k A)(h:j<=k):bW j A:=%[r.hd,by let:=r.dp;lia,by let:=r.un;lia|r.gd]
def bW.deeper(r:bW (k+1) A)(env:Env):bW k (A.deeper env):=
 %[r.hd,by let:=r.dp;change A.depth+1+3*k+5<_;lia,by let:=r.un;change A.units+3+16*k+200<_;lia|r.gd]
def y6{A:ri}:(A.under (.builtin "type.__call__" %[.ref C::us|a])).depth=A.depth+1:=by
 first|rfl|lia
def y8{A:ri}:(A.under (.builtin "type.__call__" %[.ref C::us|a])).units=A.units+1:=by
 first|rfl|lia
def bW.make(r:bW (k+1) A)(C:hW)(us:ZF)(a:fx (jz×hV)):bW k (A.under (.builtin "type.__call__" %[.ref C::us|a])):=
 %[r.hd,by let:=r.dp;rw[y6];lia,by let:=r.un;rw[y8];lia|r.gd]
def bW.depth(r:bW k A):A.depth<recursionLimit:=by let:=r.dp;lia
def bW.units(r:bW k A):A.units+64<Pa:=by let:=r.un;lia
abbrev BH:TA:=λ_ H Q=>Q [] H
abbrev Dk(b:TE)(c:TA):TA:=λa H Q=>b a H λx d=>c a d λxs e=>Q (x::xs) e
section
variable{X:Cx}{e:tI}{es:fx tI}{te:TE}{t:TA}{pos:Pos}
def Jj:PA X [] BH:=λ_ _ _ _ H Q I h=>Calls.spliced_nil %[[],H,I,.nil|h]
def Gq(b:PE X e te)(c:PA X es t)(d:q0 (e::es) X.env=(gi,M9 e X.env)::q0 es X.env):PA X (e::es) (Dk te t):=by
 intro pos ff s a H Q I h;rw[d];change pw _ _ (spliced ((gi,M9 e X.env)::Nv pos _)) _ _ s;show Calls.spliced_cons (thP (b ff s a H _ I h) λu f x g i j l=>thP (c pos ff f a g _ i l) λus q xs m n o p=>%[x::xs,m,n,.cons j o|p])
abbrev Jk(t:TA):TE:=λb H Q=>t b H λxs a=>xs\5<=iv/\∀p,a p=fD->Q (.ref p) (Qa a p (.tup xs))
abbrev Jl(t:TA):TE:=λb H Q=>t b H λxs a=>xs\5<=iv/\∀p,a p=fD->Q (.ref p) (Qa a p (.lst xs))
def Jm{d}(h:PA X es t):PE X (.Tuple es d pos) (Jk t):=by
 intro ff s f H Q I g;show wpAny_Tuple_spliced (thP (h pos ff s f H _ I g) λus a xs i c r ⟨z,q⟩=>%[~~~r▸z|?_]);let j:=c.hok.fresh (Zi _);show%[.ref ⇑a,Qa i ⇑a _,c.laid (λb u e=>Z7 _ e) (Zi _) ?_,ρ|q _ j];show%[z,us,r,_,Zj _ rfl,ρ,_|ρ]
def Jn(h:PA X es t):PE X (.List es pos) (Jl t):=by
 intro ff s d H Q I f;show wpAny_List_spliced (thP (h pos ff s d H _ I f) λus a xs g c r ⟨z,q⟩=>%[~~~r▸z|?_]);let i:=c.hok.fresh (Zi _);show%[.ref ⇑a,Qa g ⇑a _,c.laid (λb u e=>Z7 _ e) (Zi _) ?_,ρ|q _ i];show%[z,us,0,r|Zj _ rfl]
end
noncomputable abbrev Sp:=fx V->Hp->VK->XK->Prop
noncomputable abbrev CXT:=fx Env->Hp->jg->XK->hV->jg->Prop
structure zb (P:mu) (w:rM) (K:ZA) (mg:ZC) (base:su) (A:ri) (outer:fx Env) (s:jg) (H:Hp):Prop where
 frames:A.frames>=outer
 mod:Mod K mg base
 bs:∀b o,base.get? b>=o->s.heap.get? b>=o/\H b=fD
 bsz:base.objs.size<=⇑s
 funs:s.heap.FunFrames base outer
 frf:∀b>frs outer,H b=fD
 hok:HOk P w H s.heap
 bare:QK s.gens
abbrev CE(outer:fx Env)(P:mu)(w:rM)(H:Hp)(s:jg)(Q:VK)(u:hV)(s':jg):Prop:=
 ∃v a,s'.os=s.os/\QK s'.gens/\Un (frs outer) [] H a s.heap s'.heap/\HOk P w a s'.heap/\aY v u/\Q v a
abbrev CR(CX:CXT)(outer:fx Env)(P:mu)(w:rM)(H:Hp)(s:jg)(Q:VK)(E:XK)(r:Tu)(s':jg):Prop:=
 match r with
 | .ok (.ret u)=>CE outer P w H s Q u s'
 | .ok _=>yc
 | .error e=>CX outer H s E e s'
structure d8 (P:mu) (w:rM) (K:ZA) (mg:ZC) (base:su) (CX:CXT) (k:gf) (f:hW) (fd:Pd) (ps:ZB) (sp:Sp):Prop where
 len:∀vs H Q E,sp vs H Q E->vs\5=ps\5
 run:∀A outer s H args us vs Q E,bW k A->zb P w K mg base A outer s H->Uc s fd args (ps.zip us)->aQ vs us->sp vs H Q E->
  Pw (Nm P w) A (.call (.ref f) args) (CR CX outer P w H s Q E) s
def d8.imp{P:mu}{K:ZA}(F:d8 P w K mg base CX k f b ps sp)
 (h:∀vs H Q E,a vs H Q E->sp vs H Q E):d8 P w K mg base CX k f b ps a:=
 %[λvs H Q E q=>F.len vs H Q E (h _ _ _ _ q)|λA outer s H args us vs Q E c d e g i=>F.run A outer s H args us vs Q E c d e g (h _ _ _ _ i)]
def zb.make{P:mu}{K:ZA}(e:zb P w K mg base A outer s H)(C:hW)(us:ZF)(a:fx (jz×hV)):
 zb P w K mg base (A.under (.builtin "type.__call__" %[.ref C::us|a])) outer s H:=⟨by first|show e.frames|lia,e.mod,e.bs,e.bsz,e.funs,e.frf,e.hok,e.bare⟩
section
variable{X:Cx}{ff:ZE}{σ:St}{H:Hp}{s s':jg}
def Qc.env0(I:Qc X ff σ H s):zb X.prog X.w X.K X.mg X.base X.A X.stack s H:=
 %[I.ok.frames,I.ok.mod,I.bs,lx I.ok.bsz I.sz,I.stack,I.stkFree,I.hok|I.bare]
def Qc.after(I:Qc X ff σ H s)(h:CE X.stack X.prog X.w H s Q u s'):EP X ff σ Q u s':=by
 let%[v,f,os,a,un,c,r|q]:=h;let%[i,g,d,t|e]:=s';obtain rfl:e=s.os:=os;show%[v,f,I.call un c a (λb z=>lr z ∅),r|q]
end
abbrev tz(sp:Sp)(dvs:fx V)(E:XK)(t:TA):TE:=λa H Q=>t a H λvs b=>sp (vs++dvs) b Q E
abbrev Aq(C:hW)(m:jz)(sp:Sp)(dvs:fx V)(E:XK)(d:TE)(t:TA):TE:=λb H Q=>d b H λx c=>∃a e fs,x= .ref a/\c a>=.ins C e fs/\fs.lookup m=fD/\
 t b c λvs f=>sp (x::(vs++dvs)) f Q E
abbrev Ar(C:hW)(sp:Sp)(dvs:fx V)(E:XK)(t:TA):TE:=λc H Q=>t c H λvs b=>∀x a,b x=fD->b a=fD->a≠x->
 sp (.ref x::(vs++dvs)) (Qa (Qa b a (.own x)) x (.ins C a [])) (λv d=>v= .non/\Q (.ref x) d) E
abbrev d9(K:ZA)(a:Pd)(ps:ZB)(ds:ZF):Prop:=
 ∀s us,K.In s.heap->(us++ds)\5=ps\5->Uc s a %[us|[]] (ps.zip (us++ds))
def d9.all{K:ZA}(h:∀us:ZF,us\5=ps\5->bindArgs b %[us|[]]=pure (ps.zip us)):d9 K b ps []:=λs us _ a=>by
 rw[Zx]at a ⊢;show .of_eq (h us a)
abbrev je(CX:CXT)(X:Cx)(E:XK):Prop:=∀ff (a:St) H s e s',Qc X ff a H s->CX X.stack H s E e s'->X.xe e s'
section
variable{X:Cx}{CX:CXT}{k:gf}{f C:hW}{fd:Pd}{ps:ZB}{sp:Sp}{dvs:fx V}{ds:ZF}{E:XK}{x m:jz}{p pos apos:Pos}{e o:tI}{es:fx tI}{ta:TE}{t:TA}
def Dl(F:d8 X.prog X.w X.K X.mg X.base CX k f fd ps sp)(d:bW k X.A)(g:d9 X.K fd ps ds)(i:aQ dvs ds)(j:je CX X E)
 (I:Qc X ff b H s) (r:aQ vs us) (h:sp (vs++dvs) H Q E):(X⁻¹) (call (.ref f) us) (EP X ff b Q) X.xe s:=by
 let c:=r.append i;show OH (codeAny_mono (F.run X.A X.stack s H _ _ _ Q E d I.env0 (g s us I.kIn (~~~c▸F.len _ _ _ _ h)) c h) λr s' a=>?_);cases r with
 | error e=>show j ff b H s e s' I a
 | ok l=>
   cases l with
   | ret u=>show I.after a
   | next=>show MJ a
   | brk=>show MJ a
   | cont=>show MJ a
def As(F:d8 X.prog X.w X.K X.mg X.base CX k f fd ps sp)(d:bW k X.A)(g:Gl X x)(i:X.mg x>=.ref f)(j:OJ X.K (.ref f)=gb)(l:d9 X.K fd ps ds)(n:aQ dvs ds)(u:je CX X E)
 (v:PA X (e::es) t) (a:(x==("__debug__":jz))=gi) (w:q0 (e::es) X.env=(gi,M9 e X.env)::q0 es X.env) (b:(Nv pos (q0 es X.env)).any (·.1)=gi):
 PE X (.Call (.Name x p) (e::es) [] pos) (tz sp dvs E t):=by
 intro ff s y H Q I h;show N5 (ig I g i (Uo I.ok.mod.kin j (thP (v pos ff s y H _ I h) λus z vs A c r q=>%[c.kIn|Dl F d l n u c r q]) w b) a)
def Dm(i:PE X o ta)(c:Cls X.K C)(d:Go X.K C m f)(F:d8 X.prog X.w X.K X.mg X.base CX k f fd ps sp)(j:bW k X.A)(n:d9 X.K fd ps ds)(r:aQ dvs ds)(v:je CX X E)
 (w:M9 (.Call (.Attribute o m apos) [] [] pos) X.env=(do
  let g<-M9 o X.env
  Oy apos.atName
  let(f,first)<-O7 [g] (Q5 g m pl)
  Uq pos f first (Nv pos (q0 [] X.env)) (Qj pos (Ol [] X.env)))):
 PE X (.Call (.Attribute o m apos) [] [] pos) (Aq C m sp dvs E ta BH):=by
 intro ff s y H Q I h;show PySem.W.methodCall_KW (thP (i ff s y H _ I h) λu B x G b z ⟨a,J,fs,ex,A,l,q⟩=>?_) w;subst ex;obtain rfl:u=ku a:=z;show y3 b A c d l (PySem.W.callWith_K0 b.kIn d.kp (Dl (us:=[.ref a]) (vs:=[.ref a]) F j n r v b (.cons rfl .nil) q))
structure Mk (K:ZA) (C f:hW):Prop where
 makes:makesIn K C=gb
 init:MP K (.ref C) "__init__"=fI (fI (.ref f))
 fn:YQ K (.ref f)=gb
 kp:OJ K (.ref C)=gb
def Do(M:Mk X.K C f)(F:d8 X.prog X.w X.K X.mg X.base CX k f fd ps sp)(j:bW (k+1) X.A)(l:d9 X.K fd ps ds)(n:aQ dvs ds)
 (q:je CX X E) (I:Qc X ff d H s) (r:aQ vs us)
 (h:∀x b,H x=fD->H b=fD->b≠x->sp (.ref x::(vs++dvs)) (Qa (Qa H b (.own x)) x (.ins C b [])) (λv w=>v= .non/\Q (.ref x) w) E):
 (X⁻¹) (call (.ref C) us) (EP X ff d Q) X.xe s:=by
 let g:=h (⇑s+1) ⇑s (I.hok.fresh (Ye _)) (I.hok.fresh (Zi _)) (Zs (Ym _));let c:=Qc.made (C:=C) I;let i:aQ (V.ref (⇑s+1)::(vs++dvs)) _:= .cons rfl (r.append n);let y:=by
  let e:=i\5;rw[F.len _ _ _ _ g]at e;show e.symm
 show OH (Dj I.kIn M.makes M.init (NE.mp M.fn) (codeAny_mono (F.run _ X.stack _ _ _ _ _ _ E (j.make C us [])
  (c.env0.make C us []) (l _ _ c.kIn y) i g) λr s' a=>?_))
 cases r with
 | error e=>show q ff d _ _ e s' c a
 | ok z=>
   cases z with
   | ret u=>
     let%[v,A,B,G,J|L]:=c.after a;subst J;show%[G,V.ref _,A,B,ρ|L]
   | next=>show MJ a
   | brk=>show MJ a
   | cont=>show MJ a
def Gr(M:Mk X.K C f)(F:d8 X.prog X.w X.K X.mg X.base CX k f fd ps sp)(d:bW (k+1) X.A)(g:Gl X x)(i:X.mg x>=.ref C)(j:d9 X.K fd ps ds)(l:aQ dvs ds)(n:je CX X E)
 (u:PA X (e::es) t) (a:(x==("__debug__":jz))=gi) (v:q0 (e::es) X.env=(gi,M9 e X.env)::q0 es X.env) (b:(Nv pos (q0 es X.env)).any (·.1)=gi):
 PE X (.Call (.Name x p) (e::es) [] pos) (Ar C sp dvs E t):=by
 intro ff s w H Q I h;show N5 (ig I g i (Uo I.ok.mod.kin M.kp (thP (u pos ff s w H _ I h) λus y vs z c r q=>%[c.kIn|Do M F d j l n c r q]) v b) a)
variable{ks:ZB}{kpos:Pos}{kws:fx Pc}{te:TE}{tk:TA}{nm:ij jz}
end
structure aw (N P:ZB) (sc:R3):Prop where
 kind:sc.kind= .function
 co:sc.isCoroutine=gi
 gen:sc.isGenerator=gi
 nd:N.Nodup
 pre:N.take P.length=P
 par:∀x>P,sc.names.lookup x>=.local\/sc.names.lookup x>=.cell
 nofree:∀y>sc.names,y.2≠ .free
def tD{kindOf:jz->ij zr}:∀{binds:fx (jz×hV)} {m:ZC},(∀v,(x,v)∉binds)->V4 kindOf binds m x=m x
 |[],_,_=>rfl
 |(n,v)::r,m,h=>by
  unfold V4;rw[tD λw hw=>h w (Zk _ hw)]
  split
  .let:x≠n:=by rintro rfl;show h v Zm
   simp[this]
  .rfl
def tE{kindOf:jz->ij zr}:∀{binds:fx (jz×hV)} {m:ZC},(∀v,(x,v)∉binds)->V5 kindOf binds m x=m x
 |[],_,_=>rfl
 |(n,v)::r,m,h=>by
  unfold V5;rw[tE λw hw=>h w (Zk _ hw)]
  split
  .rfl
  .let:x≠n:=by rintro rfl;show h v Zm
   simp[this]
def tF{kindOf:jz->ij zr}{x:jz}:∀{P:ZB} {vs:ZF} {i:gf} {m:ZC},P.Nodup->P[i]?>=x->vs[i]?>=v->kindOf x>=.local->
 V4 kindOf (P.zip vs) m x>=v
 |[],_,_,_,_,h,_,_=>by simp at h
 | _::_,[],_,_,_,_,h,_=>by simp at h
 | p::P,w::vs,0,m,nd,a,b,c=>by
   simp at a b;subst a;subst b;change V4 kindOf ((p,w)::P.zip vs) m p=_;unfold V4;rw[tD λv d=>(MO.mp nd).1 (Ww d).1,hY c];simp
 | p::P,w::vs,i+1,m,nd,a,b,c=>by
   change V4 kindOf ((p,w)::P.zip vs) m x=_;show tF (MO.mp nd).2 (a) (b) c
def tG{kindOf:jz->ij zr}{x:jz}:∀{P:ZB} {vs:ZF} {i:gf} {m:ZC},P.Nodup->P[i]?>=x->vs[i]?>=v->kindOf x≠fI .local->
 V5 kindOf (P.zip vs) m x>=v
 |[],_,_,_,_,h,_,_=>by simp at h
 | _::_,[],_,_,_,_,h,_=>by simp at h
 | p::P,w::vs,0,m,nd,a,b,c=>by
   simp at a b;subst a;subst b;change V5 kindOf ((p,w)::P.zip vs) m p=_;unfold V5;rw[tE λv d=>(MO.mp nd).1 (Ww d).1,hH c];simp
 | p::P,w::vs,i+1,m,nd,a,b,c=>by
   change V5 kindOf ((p,w)::P.zip vs) m x=_;show tG (MO.mp nd).2 (a) (b) c
abbrev start(N:ZB)(vs:fx V):St:=vs.map fI++fx.replicate (N\5-vs.length) fD
abbrev gB(CX:CXT)(P:mu)(w:rM)(K:ZA)(mg:ZC)(base:su)(N:ZB)(qual:jz)(scope:R3)(f:hW)(cd:hV)(A:ri)(outer:fx Env)(s:jg)(H:Hp)(E:XK):Cx where
 prog:=P
 w:=w
 K:=K
 mg:=mg
 base:=base
 A:=A.deeper (Ng qual scope ⇑s f cd)
 N:=N
 s₀:=s
 H₀:=H
 env:=Ng qual scope ⇑s f cd
 outer:=outer
 stack:=Ng qual scope ⇑s f cd::outer
 ex:=[]
 calm:=gb
 fn:=λ_=>gb
 pn:=[]
 xe:=λe s'=>pw (Nm P w) (A.deeper (Ng qual scope ⇑s f cd)) (leaving (Ng qual scope ⇑s f cd) e) (λ_ s''=>CX outer H s E e s'') (λe' s''=>CX outer H s E e' s'') s'
def wG{a:R3}{n:gf}{x:jz}(h:a.names.lookup x>=.cell):∃c,(MT n a.names []).lookup x>=c:=by
 show Qw.mp (RZ a.names n [] (.inl h))
def BI{P:mu}{K:ZA}
 (S:aw N ps a) (J:A.handled=fD) (g:zb P w K mg base A outer s H) (T:vs\5=ps\5) (r:aQ vs us)
 (x:InCallC s ⇑s (V4 (Ng d a ⇑s f C).kindOf (ps.zip us) λ_=>fD) (MT (⇑s+1) a.names []) (V5 (Ng d a ⇑s f C).kindOf (ps.zip us) λ_=>fD) L):
 Qc (gB CX P w K mg base N d a f C A outer s H E) [] (start N vs) H L:=by
 let M:ps\5<=N\5:=by let:=nY L3 S.pre;rw[Yj]at this;lia
 let%[B,tk,rfl|G]:=x.done;let l:∀b,b∉(gB CX P w K mg base N d a f C A outer s H E).ex:=λb z=>lr (show b>([])from z) ∅
 show%[%[g.mod,S.kind,ρ,ρ,Zi _,λy z c B j=>?_,λy m=>?_,λy c _ h=>?_,λ_=>J,ri.frames_deeper g.frames,.inr %[ρ|ρ],λb z=>lr z (l b),g.bs,g.bsz,λb _ _=>l b,λb z=>lr z (l b),g.funs|g.frf],
  rfl,g.bare,Un.kept G,%[_,x.toInCall.ns|λi y v B j U=>?_],λy c h=>%[_|x.cell y c h],g.hok.fresh (Zi _),λy c h=>?_,λp n=>lr (show p>([])from n) ∅,g.hok.kept G|?_]
 .show name_of_addr x.apart (PySem.mem_of_lookup B) (PySem.mem_of_lookup j)
 .rcases m with m|m
  .show wG m
  .show lr rfl (S.nofree _ (PySem.mem_of_lookup m))
 .show Yd (x.above y c (PySem.mem_of_lookup h))
 .let hi:i<vs\5:=by
   unfold start at j;by_cases hi:i<vs\5
   .show hi
   .rw[Y8 ↑hi]at j;rw[fx.getElem?_replicate]at j
    split at j<;> cases j
  let O:vs[i]?>=v:=by
   unfold start at j;rw[Y7 ↑hi,Zl]at j
   simp_all
  let%[u,I|Q]:=r.get O;let n:ps[i]?>=y:=by
   rw[<-S.pre,Y9 !_];show B
  let o:ps.Nodup:=S.pre▸S.nd.sublist (Sd _ _);show%[u,Q|?_];rcases S.par y (Z8 n)with k|k
  .show .inl %[k|tF o n I k]
  .let%[c|e]:=wG k;show .inr %[.inl k,c,e|?_];let q:=x.cell y c e;rw[tG o n I (by change a.names.lookup y≠_;rw[k];decide)]at q;show q
 .show g.hok.fresh (Yd (x.above y c (PySem.mem_of_lookup h)))
 .unfold start;change _=N\5;rw[Z9,Z6,fx.length_replicate]
  lia
def HP{P:mu}{K:ZA}{T kV z U d ct oc:hV}
 (lk:K.lookup f=fI %[oc,od,.func (Tp name c g i a T kV z U an d ct)|ab]) (G:RY K d c=gb) (S:aw N ps a)
 (len:∀vs H Q E,sp vs H Q E->vs\5=ps\5)
 (l:∀(A:ri) (outer:fx Env) (s:jg) (H:Hp) (vs:fx V) (Q:VK) (E:XK),bW k (A.deeper (Ng c a ⇑s f d))->sp vs H Q E->
  ∃t,PSs (gB CX P w K mg base N c a f d A outer s H E) i t/\t {nx:=λ_ j=>Q .non j,rt:=Q} (start N vs) H):
 d8 P w K mg base CX (k+1) f (Tp name c g i a T kV z U an d ct) ps sp:=by
 show%[len|λA outer s H args us vs Q E L B hb r C=>?_];let Y:=B.mod.kin.keeps λb o e=>(B.bs b o e).1
 let M:=B.mod.nolimit.keeps λb o e=>(B.bs b o e).1
 let m:∀y>ps.zip us,a.names.lookup y.1>=_\/(a.names.lookup y.1>=_/\((MT (⇑s+1) a.names []).lookup y.1).isSome=gb):=λ⟨n,v⟩ hy=>by
  rcases S.par n (Ww hy).1 with q|q
  .show .inl q
  .show .inr %[q|RZ _ _ _ (.inl q)]
 show codeAny_call_function L.depth (Y _ _ lk) rfl S.co S.gen rfl (PySem.W.codeRec_of Y G) (hb _ _ _ _ (wpAny_newFunctionEnv_cells S.kind m λenv he s1 x=>?_));subst he;show%[M.keeps x.toInCall.keep|codeAny_func ?_];let%[t,ht|hq]:=l A outer s H vs Q E (L.deeper _) C;let I:Qc (gB CX P w K mg base N c a f d A outer s H E) [] _ H s1:=BI S L.hd B (len _ _ _ _ C) r x;show ME (ht [] s1 _ H _ I hq) (λfl s' p=>?_) λe s' p=>p
 let fin:∀{h:St} {j:Hp} {v:V} {u:hV},Qc (gB CX P w K mg base N c a f d A outer s H E) [] h j s'->aY v u->Q v j->CE outer P w H s Q u s':=
  λ{h j v u} J O q=>%[v,j,J.os,J.bare,J.base,J.hok,O|q]
 cases fl with
 | ret u=>
   let%[v,h,j,J,O|q]:=p;show fin J O q
 | next=>
   let%[h,j,J|q]:=p;show fin (v:=V.non) J rfl q
 | brk=>
   let%[_,_,_|q]:=p
   simp_all
 | cont=>
   let%[_,_,_|q]:=p;show MJ q
section
variable{X:Cx}{x:jz}{p pos:Pos}{e:tI}{es:fx tI}{t:TA}{id T:MX}{r:fx V->Hp->VK->Prop}
abbrev tCB(r:fx V->Hp->VK->Prop)(t:TA):TE:=λa H Q=>t a H λvs b=>r vs b Q
def Dp(d:cH X (.builtin id) r)(f:Gl X x)(g:X.mg x=fD)(i:Nz x>=.builtin id)(j:PA X (e::es) t)(l:x≠"__name__")(a:(x==("__debug__":jz))=gi)
 (m:q0 (e::es) X.env=(gi,M9 e X.env)::q0 es X.env) (b:(Nv pos (q0 es X.env)).any (·.1)=gi):PE X (.Call (.Name x p) (e::es) [] pos) (tCB r t):=by
 intro ff s c H Q I h;show N5 (lC I f g i (Rc (thP (j pos ff s c H _ I h) λus n vs o q u v=>d ff n c o vs us Q q u v) m b) l a)
def BJ(d:cH X (.type T) r)(f:Gl X x)(g:X.mg x=fD)(i:Nz x>=.type T)(j:PA X (e::es) t)(l:x≠"__name__")(a:(x==("__debug__":jz))=gi)
 (m:q0 (e::es) X.env=(gi,M9 e X.env)::q0 es X.env) (b:(Nv pos (q0 es X.env)).any (·.1)=gi):PE X (.Call (.Name x p) (e::es) [] pos) (tCB r t):=by
 intro ff s c H Q I h;show N5 (lC I f g i (Nj (thP (j pos ff s c H _ I h) λus n vs o q u v=>d ff n c o vs us Q q u v) m b) l a)
end
end _LL
namespace _HT
open PySem PyProof.Rows
section
open PySem.SeqAt
open PySem.AutoSeq1 (wpAny_loadPart')
open PySem.MeetsSeq PySem.MeetsSeq2 PySem.MeetsSeq3
#where
abbrev sIx(n d:gf):ij md->gf
 | none=>d
 | some v=>if v<0 then(v+n).toNat else min v.toNat n
def sIx_none(n d:gf):sIx n d fD=d:=rfl
def sIx_nat(n d k:gf):sIx n d (fI k)=min k n:=by
 change(if k<0 then((k:md) +n).toNat else min _ n)=min k n;rw[hH !_,M7]
end
end _HT
namespace _LL
open PySem PySem.Spec PyProof.Rows
noncomputable abbrev TO:=St->Hp->(ij md->Hp->Prop)->Prop
abbrev PO(X:Cx)(e:ij tI)(t:TO):Prop:=
 ∀ff s (a:St) H Q,Qc X ff a H s->t a H Q->
  (X⁻¹) (evalPart e X.env) (λu s'=>∃o b,Qc X ff a b s'/\IsPart u o/\Q o b) X.xe s
abbrev uZ:TO:=λ_ H Q=>Q fD H
abbrev Dq(t:TE):TO:=λa H Q=>t a H λx b=>asI x λi=>Q (fI i) b
section
variable{X:Cx}{e:tI}{te:TE}{lo hi:ij tI}{tl th:TO}{pos p2:Pos}
def Gu:PO X fD uZ:=by
 intro ff s a H Q I h;show Z3 %[fD,H,I,.none|h]
def Gw(h:PE X e te):PO X (fI e) (Dq te):=by
 intro ff s a H Q I hw;show thP (h ff s a H _ I hw) λu g x b c d f=>?_
 let%[i,rfl|q]:=dm f;let%[t|rfl]:=d;show%[fI i,b,c,.int i t|q]
abbrev SlR(X:Cx)(r:V->ij md->ij md->Hp->VK->Prop):Prop:=
 ∀ff s (a:St) H x v b c lo hi d Q,Qc X ff a H s->aY x v->s.heap.IsSliceOf d b c .none->IsPart b lo->IsPart c hi->r x lo hi H Q->
  ∃T id,Pi (.type T) "__getitem__"=pure (fI (.builtin id))/\s.TypeIs v T/\(X⁻¹) (T2 v (.ref d)) (EP X ff a Q) X.xe s
abbrev tSl(r:V->ij md->ij md->Hp->VK->Prop)(te:TE)(tl th:TO):TE:=λa H Q=>te a H λx b=>tl a b λl c=>th a c λu d=>r x l u d Q
def wH(c:SlR X r)(d:PE X e te)(f:PO X lo tl)(g:PO X hi th):PE X (.Subscript e (.Slice lo hi fD p2) pos) (tSl r te tl th):=by
 intro ff s a H Q I h;show WD (thP (d ff s a H _ I h) λv i x j m n o=>wpAny_Slice (thP (f ff i a j _ m o) λp w l y z pl A=>thP (g ff w a y _ z A) λB C u E G J L=>Z3 ?_));let%[T,id,M,N|O]:=c ff _ a E x v p B l u ⇑C Q (G.kept λb U q=>Z7 _ q) n (W8 ..) pl J L;show tail_any N M O (by with_unfolding_all rfl)
abbrev u4(xs:fx V)(lo hi:ij md):fx V:=(xs.drop (_HT.sIx xs.length 0 lo)).take (_HT.sIx xs.length xs.length hi-_HT.sIx xs.length 0 lo)
def wI(xs:fx V)(lo hi:ij md):(u4 xs lo hi)\5<=xs\5:=by
 unfold u4;rw[Yj,Yf];show lx (SK _ _) (gf.sub_le _ _)
end
abbrev ixN(n:gf)(i:md):ij gf:=if 0<=i then(if i<n then fI i.toNat else fD)else if -n<=i then fI (i+n).toNat else fD
abbrev atI{a:Type}(xs:fx a)(i:md):ij a:=(ixN xs.length i).bind λj=>xs[j]?
def Gx(h:ixN n i>=j):seqIndex? i n>=j/\j<n/\ -(n:md)<=i/\i<n:=by
 unfold ixN at h;by_cases b:0<=i
 .rw[hY b]at h;by_cases a:i<n
  .rw[hY a]at h;show%[by rw[seqIndex_of b a,(Za h)],!_,!_|a]
  simp_all
 .rw[hH b]at h;by_cases a: -n<=i
  .rw[hY a]at h;show%[by rw[seqIndex_neg ⋯ a,(Za h)],!_,a|!_]
  .rw[hH a]at h;cases h
def u5{a:Type}{xs:fx a}{i:md}{v:a}(h:atI xs i>=v):∃j,seqIndex? i xs.length>=j/\xs[j]?>=v/\j<xs\5/\ -xs.length<=i/\i<xs\5:=by
 unfold atI at h;cases e:ixN xs.length i with
 | none=>simp_all
 | some j=>
   rw[e]at h;let%[b,c,d|f]:=Gx e;show%[j,b,h,c,d|f]
def bP{a:Type}{xs:fx a}{j:gf}{v:a}(h:xs[j]?>=v):atI xs j>=v:=by
 let b:=(Xn h).1;let e:ixN xs.length j>=j:=by
  unfold ixN
  simp_all
 unfold atI;show e▸h
def qf(xs:fx a)(v:a):atI (xs++[v]) (-1)>=v:=by
 let b:(xs++[v])\5=xs\5+1:=by simp
 let e:ixN (xs++[v]).length (-1)>=xs.length:=by
  unfold ixN;rw[b,hH (!1),hY !_]
  congr 1
  lia
 unfold atI
 simp_all
abbrev pU(b:tI):Prop:=∀o i,TB b gi o i=operate [o,i] (T2 o i)
abbrev IxR(X:Cx)(r:R2):Prop:=
 ∀b a ff s (c:St) H x y v u Q,Qc X ff c H s->aY x v->aY y u->r x y H Q->
  TB a gi v u=operate [v,u] (T2 v u)->(X⁻¹) (subscriptTail b a v u) (EP X ff c Q) X.xe s
abbrev MtR(X:Cx)(id:MX)(r:V->fx V->Hp->VK->Prop):Prop:=
 ∀ff s (a:St) H x xs v us Q,Qc X ff a H s->aY x v->aQ xs us->r x xs H Q->
  (X⁻¹) (call (.builtin id) (v::us)) (EP X ff a Q) X.xe s
section
variable{X:Cx}{a b:tI}{ta tb:TE}{pos:Pos}
def Dr(c:IxR X r)(d:PE X a ta)(e:PE X b tb)(f:pU b):PE X (.Subscript a b pos) (tOp r ta tb):=by
 intro ff s g H Q I h;show WD (IX d e I h λv u i x y j l m n q=>c a b ff i g j x y v u Q l m n q (f _ _))
abbrev Jo(K:ZA):R2:=λx y H Q=>asR x λp=>asI y λi=>∃xs,Qb K H p xs/\∃v,atI xs i>=v/\Q v H
abbrev Jp(K:ZA):R2:=λx y H Q=>asR x λp=>asI y λi=>∃xs,SqT K H p xs/\∃v,atI xs i>=v/\Q v H
abbrev Jq:R2:=λx y H Q=>asS x λz=>asI y λi=>z\5<=iv/\∃c,atI z.cps.toList i>=c/\Q (.str ⟨#[c]⟩) H
def Gy:IxR X (Jo X.K):=by
 intro d e ff s A H x y v u Q I B C h m;let%[p,rfl|f]:=aT h;let%[i,rfl,xs,E,z,G|q]:=dm f;cases B;let%[t|rfl]:=C;let%[its,r,pl|N]:=I.list E;let%[j,c,f,O,J|L]:=u5 G;let%[w,n|g]:=r.get f;let M:=r\5;let T:=uX;let fin:EP X ff A Q w s:=%[z,H,I,g|q]
 by_cases o:0<=i
 .let l:=by
   rw[seqIndex_of o L]at c;show Za c
  show item_listR pl.isList o ⋯ (by rw[l];simpa using n) fin m
 .let l:(i+its.toArray.size).toNat=j:=by
   rw[seqIndex_neg ⋯ J]at c;rw[Zp,<-M];show Za c
  show Vc pl.isList.typeIs WS.lookup
   (wpAny_getItem_list_neg pl.isList ⋯ (!2) ⋯ (by rw[l];simpa using n) %[rfl|fin]) m
def Jr:IxR X (Jp X.K):=by
 intro c d ff s g H x y v u Q I l m h n;let%[p,rfl|e]:=aT h;let%[i,rfl,xs,o,z,A|q]:=dm e;cases l;let%[t|rfl]:=m;let%[its,r,pl|E]:=I.tuple o;let%[j,B,e,G,J|L]:=u5 A;let%[w,C|f]:=r.get e;let M:=uX;let fin:EP X ff g Q w s:=%[z,H,I,f|q]
 show Vc pl.typeIs slot_tuple_getitem.lookup
  (getItem_tuple pl ⋯ ⋯ (by rw[Zp,<-r.length];show B) ↑C %[rfl|fin]) n
def Js:IxR X Jq:=by
 intro d e ff s C H x y v u Q I m n h o;let%[z,rfl|f]:=d6 h;let%[i,rfl|g]:=dm f;let%[E,c,p|q]:=g;let%[t|rfl]:=m;let%[t'|rfl]:=n;let%[j,l,r,G,w|A]:=u5 p;let B:z.cps.toList\5=z\5:=by simp[Vq]
 rw[B]at l w A;let J:=uX;show tail_any (Oi s z t) slot_str_getitem.lookup (getItem_str (by
  lia) (by rw[l];simpa using r) %[.str _,H,I.tok _,%[_|rfl]|q]) o
def Dt{i:md}{n:gf}(h:i<0):max 0 (min (i+ ↑(n)) ↑(n))=(((i+ ↑(n)).toNat:gf):md):=by lia
def Du{i:md}{n:gf}:max 0 (min i ↑(n))=((min i.toNat n:gf):md):=by lia
def u8(lo hi:ij md)(n:gf):(PB lo hi fD n).1=((_HT.sIx n 0 lo:gf):md)/\(PB lo hi fD n).2.1=((_HT.sIx n n hi:gf):md)/\(PB lo hi fD n).2.2=1:=by
 show%[?_,?_|ρ]
 .cases lo with
  | none=>simp[PB,_HT.sIx]
  | some i=>
    simp only[PB,_HT.sIx,getD_none,show GT.gt (1:md) 0 by decide,Qy];by_cases h:i<0
    .simp only[h,Qy]<;> show Dt h
    .simp only[h,Ow]<;> show Du
 .cases hi with
  | none=>simp[PB,_HT.sIx]
  | some i=>
    simp only[PB,_HT.sIx,getD_none,show GT.gt (1:md) 0 by decide,Qy];by_cases h:i<0
    .simp only[h,Qy]<;> show Dt h
    .simp only[h,Ow]<;> show Du
def sF(its:ZF)(lo hi:ij md):slicePick its.toArray lo hi fD=((its.drop (_HT.sIx its.length 0 lo)).take (_HT.sIx its.length its.length hi-_HT.sIx its.length 0 lo)).toArray:=by
 let%[c,d|e]:=u8 lo hi its.toArray.size;unfold slicePick;rw[c,d,e];simp only[sliceRange_one,pick_run]<;> rfl
abbrev Jt(K:ZA):V->ij md->ij md->Hp->VK->Prop:=λx lo hi H Q=>asR x λa=>∃xs,Qb K H a xs/\∀p,H p=fD->Q (.ref p) (Qa H p (.lst (u4 xs lo hi)))
def Gz:SlR X (Jt X.K):=by
 intro ff s m H x v n o lo hi p Q I f g pl i h;let%[a,rfl|d]:=aT h;let%[xs,j|q]:=d;cases f;let%[its,r,e|l]:=I.list j;let c:=r\5;show%["list",_,WS.lookup,e.isList.typeIs|wpAny_getItem_list_slice e.isList g pl i .none ∅ ?_ (!2)];rw[sF,<-c];show%[.ref ⇑s,_,I.laid (λb u q=>Z7 _ q) (Zi _) ?_,ρ|q _ (I.hok.fresh (Zi _))];show%[lx (wI xs lo hi) l,_,0,(r.drop _).take _|Zj _ rfl]
abbrev gC:V->on
 | .non=>gb
 | .bl _=>gb
 | .int _=>gb
 | .str _=>gb
 | _=>gi
abbrev eqV:V->V->on
 | .non,.non=>gb
 | .bl a,.bl b=>a==b
 | .bl a,.int b=>(if a then 1 else 0)==b
 | .int a,.bl b=>a==(if b then 1 else 0)
 | .int a,.int b=>a==b
 | .str a,.str b=>a==b
 | _,_=>gi
def Dv(d:aY y u)(c:aY x v)(f:gC y=gb)(e:gC x=gb):KE A s u v (eqV y x):=by
 cases y with
 | non=>
   cases d;cases x with
   | non=>cases c;show KE.same _
   | bl b=>cases c;show KE.none_bool b
   | int b=>have%[t|rfl]:=c;show KE.none_int b t
   | str b=>have%[t|rfl]:=c;show KE.none_str b t
   | _=>show lr (show gi=gb from e) Zt
 | bl a=>
   cases d;cases x with
   | non=>cases c;show KE.bool_none a
   | bl b=>cases c;show KE.bool_bool a b
   | int b=>have%[t|rfl]:=c;show KE.bool_int a b t
   | str b=>have%[t|rfl]:=c;show KE.bool_str a b t
   | _=>show lr (show gi=gb from e) Zt
 | int a=>
   let%[t'|rfl]:=d;cases x with
   | non=>cases c;show KE.int_none a t'
   | bl b=>cases c;show KE.int_bool a t' b
   | int b=>have%[t|rfl]:=c;show KE.int_int a t' b t
   | str b=>have%[t|rfl]:=c;show TM a t' b t
   | _=>show lr (show gi=gb from e) Zt
 | str a=>
   let%[t'|rfl]:=d;cases x with
   | non=>cases c;show KE.str_none a t'
   | bl b=>cases c;show KE.str_bool a t' b
   | int b=>have%[t|rfl]:=c;show TL a t' b t
   | str b=>have%[t|rfl]:=c;show KE.str_str a t' b t
   | _=>show lr (show gi=gb from e) Zt
 | _=>show lr (show gi=gb from f) Zt
abbrev eqU(x:V)(u:hV):on:=match u with
 | .none=>eqV .non x
 | .bool b=>eqV (.bl b) x
 | .int i _=>eqV (.int i) x
 | .str z _=>eqV (.str z) x
 | _=>gi
def Dw(r:aY y u)(f:gC y=gb):eqU x u=eqV y x:=by
 cases y with
 | non=>cases r;rfl
 | bl b=>cases r;rfl
 | int i=>have%[t|rfl]:=r;rfl
 | str z=>have%[t|rfl]:=r;rfl
 | _=>show lr (show gi=gb from f) Zt
def lP:∀{xs:fx V} {us:ZF},aQ xs us->xs.all gC=gb->us.any (eqU x)=xs.any λy=>eqV y x
 | _,_,.nil,_=>rfl
 | y::xs,u::us,.cons r t,f=>by
   rw[WI,Zv]at f;rw[Zw,Zw,Dw r f.1,lP t f.2]
def jV(d:aY x v)(e:gC x=gb):∀{xs:fx V} {us:ZF},aQ xs us->xs.all gC=gb->∀u>us,KE A s u v (eqU x u)
 | _,_,.nil,_=>λu c=>by cases c
 | y::xs,u::us,.cons r t,f=>λg c=>by
   rw[WI,Zv]at f;rcases Yu.mp c with rfl|c
   .rw[Dw r f.1];show Dv r d f.1 e
   .show jV d e t f.2 g c
abbrev inV(x:V)(xs:fx V):on:=xs.any λy=>eqV y x
abbrev rIn(K:ZA)(c:on):R2:=λx y H Q=>asR y λp=>∃xs,(Qb K H p xs\/SqT K H p xs)/\gC x=gb/\xs.all gC=gb/\Q (.bl (bif c then !inV x xs else inV x xs)) H
def BK:OpR X (oT .In) (rIn X.K gi):=by
 intro ff s j H x y v u Q I e g h;let%[p,rfl|d]:=aT h;let%[xs,c,f,fs|q]:=d;cases g;rcases c with c|c
 .let%[its,r,pl|i]:=I.list c;show SeqAt.in_listAt _ pl.isList (λw hw=>jV e f r fs w ↑hw) %[.bl _,H,I,rfl|?_];rw[show its.toArray.any _=its.any (eqU x) by simp,lP r fs];show q
 .let%[its,r,pl|i]:=I.tuple c;show SeqAt.in_tupleAt _ pl (λw hw=>jV e f r fs w ↑hw) %[.bl _,H,I,rfl|?_];rw[show its.toArray.any _=its.any (eqU x) by simp,lP r fs];show q
def u9:OpR X (oT .NotIn) (rIn X.K gb):=by
 intro ff s j H x y v u Q I e g h;let%[p,rfl|d]:=aT h;let%[xs,c,f,fs|q]:=d;cases g;rcases c with c|c
 .let%[its,r,pl|i]:=I.list c;show SeqAt.notIn_listAt _ pl.isList (λw hw=>jV e f r fs w ↑hw) %[.bl _,H,I,rfl|?_];rw[show its.toArray.any _=its.any (eqU x) by simp,lP r fs];show q
 .let%[its,r,pl|i]:=I.tuple c;show SeqAt.notIn_tupleAt _ pl (λw hw=>jV e f r fs w ↑hw) %[.bl _,H,I,rfl|?_];rw[show its.toArray.any _=its.any (eqU x) by simp,lP r fs];show q
def va:cH X (.type "list") (λxs H Q=>cP xs λA=>asR A λp=>∃ys,(Qb X.K H p ys\/SqT X.K H p ys)/\∀l,H l=fD->Q (.ref l) (Qa H l (.lst ys))):=by
 intro ff s C H xs us Q I r h;let%[A,rfl|m]:=bJ h;let%[p,rfl|v]:=aT m;let%[ys,f|q]:=v;let%[u,rfl|E]:=dq r;cases E;let fin:∀its,aQ ys its->ys\5<=iv->∀h' d,(∀b B,s.heap.get? b>=B->h'.get? b>=B)->
  h'.get? ⇑s>=_->EP X ff C Q _ (s>>>h'):=λits c g h' d i e=>
  %[.ref ⇑s,_,I.laid i (Zi _) (show ci X.prog X.w _ h' _ (.lst ys)from%[g,its,d,c|e]),rfl|q _ (I.hok.fresh (Zi _))]
 rcases f with f|f
 .let%[its,c,pl|g]:=I.list f;let j:=c\5;let%[o,w,y,n|z]:=pl.isList;show call_list_seq p (.inl rfl) w y z (λh' d i e=>fin its c g h' d i e) (by simp only[Zp]<;> lia)
 .let%[its,c,pl|g]:=I.tuple f;let j:=c\5;let%[o,w,y,n|z]:=pl;show call_list_seq p (.inr rfl) w y z (λh' d i e=>fin its c g h' d i e) (by simp only[Zp]<;> lia)
abbrev tyV(K:ZA)(T:MX)(x:V)(H:Hp):Prop:=match x with
 | .str _=>T="str"
 | .int _=>T="int"
 | .ref p=>(T="list"/\∃xs,Qb K H p xs)\/(T="tuple"/\∃o,K.lookup p>=o/\o.cls= .type "tuple"/\o.dict=fD)\/
  (T="dict"/\((∃c,H p>=.dK c)\/∃c,H p>=.dT c))\/(T="set"/\∃S n,H p>=.set S n)
 | _=>yc
def Dx(I:Qc X ff q H s)(r:aY x v)(ty:tyV X.K T x H):
 s.TypeIs v T/\∀a,v= .ref a->∃j,s.heap.get? a>=j/\j.dict=fD:=by
 cases x with
 | str z=>
   let%[t|rfl]:=r;cases(show T="str" from ty);show%[Oi s z t|λ_ e=>nomatch e]
 | int i=>
   let%[t|rfl]:=r;cases(show T="int" from ty);show%[typeIs_int s i t|λ_ e=>nomatch e]
 | ref p=>
   cases r;rcases ty with⟨rfl,xs,l⟩|⟨rfl,o,d,m,f⟩|⟨rfl,d⟩|⟨rfl,S,n,d⟩
   .let%[its,_,pl|_]:=I.list l;show%[pl.isList.typeIs|λa e=>?_];cases e;let%[o,n,e,c,f|_]:=pl;show%[o,e|f]
   .show%[%[o,I.kIn p o d|m]|λa e=>?_];cases e;show%[o,I.kIn _ o d|f]
   .let z:∃o,s.heap.get? p>=o/\o.ExactDict:=by
     rcases d with⟨g,d⟩|⟨g,d⟩
     .let%[_,_,_,_,o,_,_,e,ex|_]:=I.hok p _ d;show%[o,e|ex]
     .let%[_,_,_,_,o,_,_,e,ex|_]:=I.hok p _ d;show%[o,e|ex]
    let%[o,e|ex]:=z;show%[%[o,e|ex.1]|λa h=>?_];cases h;show%[o,e|ex.2.1]
   .let%[o,_,_,_,e,ex|_]:=I.hok p _ d;show%[%[o,e|ex.1]|λa h=>?_];cases h;show%[o,e|ex.2.1]
 | _=>show MJ ty
abbrev GA(K:ZA)(T:MX)(r:V->fx V->Hp->VK->Prop)(d:TE):TE:=λe H Q=>d e H λx c=>tyV K T x c/\r x [] c Q
abbrev tBM(K:ZA)(T:MX)(r:V->fx V->Hp->VK->Prop)(e:TE)(t:TA):TE:=λc H Q=>e c H λx d=>tyV K T x d/\t c d λxs f=>r x xs f Q
variable{o e:tI}{es:fx tI}{to:TE}{t:TA}{name:jz}{apos cpos:Pos}{T id:MX}{r:V->fx V->Hp->VK->Prop}
def Ju(l:Pp T)(slot:Slot T name id)(f:Qe (.builtin id)=pure (.type "method_descriptor"))(m:MtR X id r)(n:PE X o to)
 (c:NB o name X.env (M9 o X.env)=M9 o X.env) (d:(apos.endLine==cpos.line)=gb):PE X (.Call (.Attribute o name apos) [] [] cpos) (GA X.K T r to):=by
 intro ff s g H Q I h;show U2 c d (thP (n ff s g H _ I h) λv p x q i j ⟨ty,u⟩=>?_);let%[w|y]:=Dx i j ty;show%[T,id,l,slot,f,w,y|Qq rfl (PySem.evalArgs_none (m ff p g q x [] v [] Q i j .nil u))]
def Lp(p:Pp T)(slot:Slot T name id)(i:Qe (.builtin id)=pure (.type "method_descriptor"))(q:MtR X id r)(u:PE X o to)(w:PA X (e::es) t)
 (d:NB o name X.env (M9 o X.env)=M9 o X.env)
 (g:((Nv cpos (q0 (e::es) X.env)).all (λx=>!x.1)&&(Qj cpos (Ol [] X.env)).all (λx=>x.1.isSome)
  && decide ((e::es)\5+([]:fx Pc)\5+(if([]:fx Pc).isEmpty then 0 else 1)<30))=gb)
 (f:(apos.endLine==cpos.line)=gb) (y:q0 (e::es) X.env=(gi,M9 e X.env)::q0 es X.env) (c:(Nv cpos (q0 es X.env)).any (·.1)=gi):
 PE X (.Call (.Attribute o name apos) (e::es) [] cpos) (tBM X.K T r to t):=by
 intro ff s j H Q I h;show wpAny_Call_method_late d g f rfl (thP (u ff s j H _ I h) λv z x A l m ⟨ty,B⟩=>?_);let%[C|E]:=Dx l m ty;show%[T,id,p,slot,i,C,E|?_];let n:=w cpos ff z j A _ l B;rw[y]at n ⊢;show Qq (by change(gi||(Nv cpos _).any _)=gi;rw[c]<;> rfl) (Calls.evalArgs_plain (thn n λus G ⟨vs,J,L,M,N⟩=>q ff G j J x vs v us Q L m M N))
end
abbrev MtM(X:Cx)(id:MX)(r:V->fx V->Hp->VK->Prop):Prop:=
 ∀ff s (a:St) H x xs v us Q,Qc X ff a H s->aY x v->aQ xs us->r x xs H Q->
  (X⁻¹) (call (.builtin id) (v::us)) (EP X ff a Q) X.xe s
def aQ.one:∀{x:V} {us:ZF},aQ [x] us->∃u,us=[u]/\aY x u
 | _,_,.cons r .nil=>%[_,rfl|r]
def aQ.zero:∀{us:ZF},aQ [] us->us=[]
 | _,.nil=>rfl
def aQ.dropLast{xs:fx V}{us:ZF}(h:aQ xs us):aQ xs.dropLast us.dropLast:=by
 induction h with
 | nil=>show .nil
 | cons r t a=>
   cases t with
   | nil=>show .nil
   | cons q t'=>show .cons r a
def aQ.eraseIdx:∀{xs:fx V} {us:ZF} i,aQ xs us->aQ (xs.eraseIdx i) (us.eraseIdx i)
 | _,_,_,.nil=> .nil
 | _,_,0,.cons _ t=>t
 | _,_,i+1,.cons r t=> .cons r (aQ.eraseIdx i t)
def aQ.reverse(h:aQ xs us):aQ xs.reverse us.reverse:=by
 induction h with
 | nil=>show .nil
 | cons r t a=>rw[Se,Se];show aQ.append a (.cons r .nil)
def tH:∀(l:fx a) (i:gf),(l.eraseIdx i)\5<=l\5
 |[],_=>Zi _
 | _::_,0=>Ye _
 | _::r,i+1=>Ri (tH r i)
section
#version
variable{l b:hW}{xs ys zs:fx V}
def Qc.lset{its its':ZF}{n:gf}{f:ZJ->ZJ}{t':gf}(I:Qc X ff σ H s)(a:H l<*xs)
 (e:s.heap.get? l=fI {cls:= .type "list",data:= .seq its.toArray n}) (c:f its.toArray=its'.toArray) (d:aQ ys its') (g:ys\5<=iv):
 Qc X ff σ (Qa H l (.lst ys)) {s with heap:=s.heap.update l (NA f),toks:=t'}:=by
 let q:=PySem.IsL.update e f;rw[c]at q;show I.write (a▸trivial) (.inl rfl) (λj u h i=>(MG s.heap _ (wh h)).trans i) %[_|q] ?_;show%[g,its',_,d|q]
def Qc.lnew(I:Qc X ff σ H s)(a:aQ ys its)(c:ys\5<=iv):
 Qc X ff σ (Qa H ⇑s (.lst ys)) {s with heap:=s.heap.push {cls:= .type "list",data:= .seq its.toArray},toks:=t'}:=
 I.laid (λ_ _ q=>Z7 _ q) (Zi _) %[c,its,0,a|Zj _ rfl]
def Qc.fresh(I:Qc X ff σ H s):H ⇑s=fD:=I.hok.fresh (Zi _)
def Qc.lstM(I:Qc X ff σ H s)(a:H l<*xs):xs\5<=iv/\∃its n,aQ xs its/\xs\5=its\5/\s.heap.get? l=fI {cls:= .type "list",data:= .seq its.toArray n}:=by
 let%[z,its,n,r|e]:=I.hok l _ a;show%[z,its,n,r,r\5|e]
def Dy{n:gf}(h:n<=iv):Ph n=gi:=by
 unfold Ph
 simp_all
end
section
variable{X:Cx}
abbrev vb:V->fx V->Hp->VK->Prop:=λx vs H Q=>asR x λl=>cP vs λy=>∃xs,H l<*xs/\xs\5<iv/\Q .non (Qa H l (.lst (xs++[y])))
def tJ:MtM X "list.append" vb:=by
 intro ff s g H x vs v us Q I b c h;let%[l,rfl|d]:=aT h;let%[y,rfl,xs,a,i|q]:=bJ d;cases b;let%[u,rfl|f]:=c.one;let%[z,its,n,r,j|e]:=I.lstM a;show OK F.slot_list_append %[_,e|rfl] F.entry_list_append (F.args_list_append_2 _ _) (PySem.list_append l its.toArray n u (!2)) %[e,.non,_,I.lset a e ∅ (r.append (.cons f .nil)) ?_,rfl|q];rw[Z9,Yi]
 lia
abbrev vd:V->fx V->Hp->VK->Prop:=λx vs H Q=>asR x λl=>cP vs λa=>asR a λb=>∃xs,H l<*xs/\∃zs,H b<*zs/\xs\5+zs\5<=iv/\Q .non (Qa H l (.lst (xs++zs)))
def BL:MtM X "list.extend" vd:=by
 intro ff s C H x vs v us Q I j m h;let%[l,rfl|c]:=aT h;let%[E,rfl|d]:=bJ c;let%[b,rfl|f]:=aT d;let%[xs,i,zs,o,G|q]:=f;cases j;let%[u,rfl|p]:=m.one;cases p;let%[z,its,n,r,J|e]:=I.lstM i;let%[L,its2,w,y,A|B]:=I.lstM o;let g:its.toArray.size+its2.toArray.size<=iv:=!2
 let a: ¬ (!its.toArray.isEmpty&&Ph (its.toArray.size+its2.toArray.size))=gb:=by
  rw[Dy g,Nx];show Zt
 show OK F.slot_list_extend %[_,e|rfl] F.entry_list_extend (F.args_list_extend_2 _ _)
  (AutoSeq1.list_extend_list_list_0 l its.toArray n b its2.toArray w a ⋯ !_) %[e,B,.non,_,I.lset i e ∅ (r.append y) ?_,rfl|q]
 simp_all
abbrev Lq:V->fx V->Hp->VK->Prop:=λx vs H Q=>∃l xs y,x= .ref l/\vs=[]/\H l<*xs/\xs[xs\5-1]?>=y/\Q y (Qa H l (.lst xs.dropLast))
def Jv:MtM X "list.pop" Lq:=by
 intro ff s j H x vs v us Q I d f h;let%[l,xs,y,rfl,rfl,c,g|q]:=h;cases d;let a:=f.zero;subst a;let%[z,its,n,r,m|e]:=I.lstM c;let%[u,o|i]:=r.get g;let b:its.toArray[its.toArray.size-1]?>=u:=by
  simp_all
 show OK F.slot_list_pop %[_,e|rfl] F.entry_list_pop (F.args_list_pop_1 _) (MeetsSeq.list_pop_last l its.toArray n u b (!2)) %[e,y,_,I.lset c e ?_ r.dropLast ?_,i|q]
 .simp
 .rw[fx.length_dropLast]
  lia
abbrev Jw:R2:=λx y H Q=>asR x λl=>asR y λb=>∃xs,H l<*xs/\∃zs,H b<*zs/\xs\5+zs\5<=iv/\∀p,H p=fD->Q (.ref p) (Qa H p (.lst (xs++zs)))
def Jx:OpR X (No .Add) Jw:=by
 intro ff s w H x y v u Q I d f h;let%[l,rfl|a]:=aT h;let%[b,rfl|c]:=aT a;let%[xs,g,zs,i,A|q]:=c;cases d;cases f;let%[z,its,n,r,B|e]:=I.lstM g;let%[C,its2,E,j,m|o]:=I.lstM i;show PySem.P.add_list e o ?_ (by rw[Zp,Zp];lia);let p:its.toArray++its2.toArray=(its++its2).toArray:=by simp
 rw[p];show%[.ref _,_,I.lnew (r.append j) (by rw[Z9];lia),ρ|q _ I.fresh]
#where
end
section
variable{κ:Type}[MM κ]
abbrev bD(a:fx (κ×V))(k:κ):ij V:=(a.find? λb=>decide (b.1=k))\2
abbrev cA(a:fx (κ×V))(k:κ)(v:V):fx (κ×V):=
 if(a.any λb=>decide (b.1=k))=gb then a.map (λb=>if b.1=k then(b.1,v)else b)else a++[(k,v)]
def du{p:κ×V}{r:fx _}{k:κ}(e:p.1=k):bD (p::r) k>=p.2:=by simp[bD,e]
def cI{p:κ×V}{r:fx _}{k:κ}(e: ¬ p.1=k):bD (p::r) k=bD r k:=by simp[bD,e]
def iQ(k:κ):∀a,(a.any λb=>decide (b.1=k))=(bD a k).isSome
 |[]=>rfl
 | p::r=>by
   rw[Zw];by_cases e:p.1=k
   .simp only[du e,Zf e,Ua,ij.isSome_some]
   .rw[cI e,Zh e,TR];show iQ k r
def e9(a:fx _)(k:κ)(v:V):(cA a k v)\5<=a\5+1:=by
 unfold cA
 split
 .simp
 simp_all
def gE{k:κ}(v:V)(h:bD a k=fD):cA a k v=a++[(k,v)]:=by
 unfold cA;rw[iQ,h];show hH (!1)
def iK.isSome_eq(r:iK o u):o.isSome=u.isSome:=by
 cases o with
 | none=>cases u with
   | none=>rfl
   | some _=>show(r).elim
 | some _=>cases u with
   | none=>show(r).elim
   | some _=>rfl
def iK.getD{o:ij V}{u:ij hV}{d:V}{a:hV}(r:iK o u)(b:aY d a):aY (o.getD d) (u.getD a):=by
 cases o with
 | none=>cases u with
   | none=>show b
   | some _=>show(r).elim
 | some _=>cases u with
   | none=>show(r).elim
   | some _=>show r
def KV.val{vs:fx (κ×hV)}(r:KV a vs)(k:κ):iK (bD a k) (SR vs k):=by
 induction r with
 | nil=>show MK
 | @cons p q ps qs h t f=>
   let%[d|g]:=h;by_cases e:p.1=k
   .let c:=d.symm.trans e;let b:SR (q::qs) k>=q.2:=by simp[SR,c]
    rw[du e,b];show g
   .let c: ¬ q.1=k:=λz=>e (d.trans z)
    let b:SR (q::qs) k=SR qs k:=by simp[SR,c]
    rw[cI e,b];show f
def KV.any(r:KV a vs)(k:κ):(a.any λb=>decide (b.1=k))=vs.any λb=>decide (b.1=k):=by
 induction r with
 | nil=>rfl
 | cons h t c=>simp_all
def KV.repl(r:KV c vs)(k:κ)(d:aY y u):
 KV (c.map λa=>if a.1=k then(a.1,y)else a) (vs.map λa=>if a.1=k then(a.1,u)else a):=by
 induction r with
 | nil=>show .nil
 | @cons p q ps qs h t f=>
   rw[Yo,Yo];show .cons ?_ f;let%[b|g]:=h;by_cases e:p.1=k
   .rw[hY e,hY (b.symm.trans e)];show%[b|d]
   .rw[hH e,hH (λz=>e (b.trans z))];show%[b|g]
def KV.put(r:KV a vs)(k:κ)(b:aY y u):KV (cA a k y) (stored vs k u):=by
 unfold cA stored;rw[r.any k];by_cases e:(vs.any λc=>decide (c.1=k))=gb
 .rw[hY e,hY e];show r.repl k b
 .rw[hH e,hH e];show Paired.snoc r %[rfl|b]
def KV.length{a:fx (κ×V)}{vs:fx _}(r:KV a vs):a\5=vs\5:=Paired.length r
end
def lQ{P:mu}(r:aY (kV k) u):(aM P w).is k u=gb:=by
 cases k with
 | inl i=>have%[t|e]:=(r);subst e;show wD P w i t
 | inr x=>have%[t|e]:=(r);subst e;show oG P w x t
def tK{P:mu}:∀{ks:fx Key} {us:ZF},aQ (ks.map kV) us->ItemsAre (aM P w) ks us
 |[],_,r=>by cases r;show .nil
 | k::ks,_,r=>by
   cases r with
   | cons h t=>show .cons (lQ h) (tK t)
noncomputable abbrev KT(H:Hp):fx (fx Key×V)->fx (fx Key×hW×hV)->Prop:=Paired λp q=>p.1=q.1/\H q.2.1&&&p.1.map kV/\aY p.2 q.2.2
def KT.val{a:fx (fx Key×V)}{xs:fx (fx Key×hW×hV)}(r:KT H a xs)(k:fx Key):iK (bD a k) ((U3 xs k)\2):=by
 induction r with
 | nil=>show MK
 | @cons p q ps qs h t f=>
   let%[d,_|g]:=h;by_cases e:p.1=k
   .let c:=d.symm.trans e;let b:U3 (q::qs) k>=q.2:=by simp[U3,c]
    rw[du e,b];show g
   .let c: ¬ q.1=k:=λz=>e (d.trans z)
    let b:U3 (q::qs) k=U3 qs k:=by simp[U3,c]
    rw[cI e,b];show f
def KT.repl(r:KT H b xs)(k:fx Key)(f:aY y u):
 KT H (b.map λc=>if c.1=k then(c.1,y)else c) (xs.map (putAt k u)):=by
 induction r with
 | nil=>show .nil
 | @cons p q ps qs h t g=>
   rw[Yo,Yo];show .cons ?_ g;let%[a,d|i]:=h;unfold putAt;by_cases e:p.1=k
   .rw[hY e,hY (a.symm.trans e)];show%[a,d|f]
   .rw[hH e,hH (λz=>e (a.trans z))];show%[a,d|i]
def KT.put(r:KT H a xs)(k:fx Key)(d:H b&&&k.map kV)(c:aY y u):
 KT H (cA a k y) (storedH xs k b u):=by
 let e:(a.any λf=>decide (f.1=k))=(U3 xs k).isSome:=by
  rw[iQ,(r.val k).isSome_eq,Wz]
 unfold cA storedH;rw[e];by_cases q:(U3 xs k).isSome=gb
 .rw[hY q,hY q];show r.repl k c
 .rw[hH q,hH q];show Paired.snoc r %[rfl,d|c]
def KT.keeps(r:KT H a xs)(c:∀b ys,H b&&&ys->d b&&&ys):KT d a xs:=
 Paired.mapP r λ_ _ z=>%[z.1,c _ _ z.2.1|z.2.2]
section
variable{P:mu}{w:rM}{H:Hp}{h:su}{a:hW}
def HQ(ok:HOk P w H h)(e:Rd H a u):ci P w H h a u:=e.ok ok
def qg(ok:HOk P w H h)(e:Rd H a (.dK b)):b\5<=iv/\(a==Nu)=gi/\∃vs,KV b vs/\h.DictOf (aM P w) a vs:=
 HQ ok e
def lR(ok:HOk P w H h)(e:H a>=.dK b):b\5<=iv/\(a==Nu)=gi/\∃vs,KV b vs/\h.DictOf (aM P w) a vs:=qg ok (.inl e)
def qh(ok:HOk P w H h)(e:H a&&&ks.map kV):(Tk (aM P w)).is h ks a:=by
 let%[_,its,r,o,b,c,n|d]:=(ok a _ e)
 show%[o,its.toArray,n,b,c,d|tK r]
def tL(ok:HOk P w H h)(e:Rd H a (.dT b)):b\5<=iv/\(a==Nu)=gi/\
 ∃xs,KT H b xs/\h.DictOfH (Tk (aM P w)) a xs:=by
 let%[z,y,xs,r,o,d,f,g,i,j,n|s]:=(HQ ok e)
 show%[z,y,xs,r,o,d,f,g,i,j,n,λx c=>?_|s];let all:∀{l:fx _} {m:fx _},KT H l m->∀x>m,(Tk (aM P w)).is h x.1 x.2.1:=by
  intro l m q
  induction q with
  | nil=>simp
  | @cons p q ps qs v t u=>
    intro x c;rcases Yu.mp c with e|c
    .show qh ok (!2)
    .show u x c
 show all r x c
def HR(ok:HOk P w H h)(e:H a>=.dT b):b\5<=iv/\(a==Nu)=gi/\
 ∃xs,KT H b xs/\h.DictOfH (Tk (aM P w)) a xs:=tL ok (.inl e)
end
abbrev cZ(H:Hp)(a:hW)(y:V)(r:ij V):Prop:=
 (∃c k,Rd H a (.dK c)/\y=kV k/\r=bD c k)\/∃c k b,Rd H a (.dT c)/\y= .ref b/\H b&&&k.map kV/\r=bD c k
abbrev h9(H:Hp)(a:hW)(y v:V)(d:Hp):Prop:=
 (∃c k,H a>=.dK c/\y=kV k/\c\5<iv/\d=Qa H a (.dK (cA c k v)))\/
 ∃c k b,H a>=.dT c/\y= .ref b/\H b&&&k.map kV/\c\5<iv/\d=Qa H a (.dT (cA c k v))
def cZ.k{k:Key}(e:H a>=.dK b):cZ H a (kV k) (bD b k):= .inl %[b,k,.inl e,rfl|rfl]
def h9.k{k:Key}(e:H a>=.dK b)(c:b\5<iv):h9 H a (kV k) v (Qa H a (.dK (cA b k v))):= .inl %[b,k,e,rfl,c|rfl]
def h9.t{c:fx (fx Key×V)}{k:fx Key}(e:H a>=.dT c)(d:H b&&&k.map kV)(f:c\5<iv):
 h9 H a (.ref b) v (Qa H a (.dT (cA c k v))):= .inr %[c,k,b,e,rfl,d,f|rfl]
section
#version
variable{a:hW}{y v:V}{u r:hV}{o:ij V}{A:ri}{E:ZD}
def Qc.big(I:Qc X ff σ H s):Nu<⇑s:=by
 show QP (!1) ((I.mod.glob.keeps I.bk).lt)
def BM(w:A.units+1<Pa)(I:Qc X ff σ H s)(g:cZ H a y (fI v))(q:aY y u)(h:∀f s',Qc X ff σ H s'->aY v f->Q f s'):
 pw (Nm X.prog X.w) A (T2 (.ref a) u) Q E s:=by
 rcases g with⟨i,k,e,j,l⟩|⟨i,k,b,e,j,B,l⟩
 .subst j;let%[z,C,vs,c|m]:=qg I.hok e;let%[f,hw|d]:=iK.some_of (l▸c.val k);show wpAny_getItem_of (lQ q) m.mapOf hw (h f _ (I.tok _) d)
 .subst j;cases(q);let%[z,C,xs,c|m]:=tL I.hok e;let%[f,hw|d]:=iK.some_of (l▸c.val k);let%[p,G|n]:=zz.mp hw;show wpAny_getItem_heap (Qf w) (qh I.hok B) m G ?_;rw[n];show h f _ (I.tok _) d
def d_in(n:A.units+1<Pa)(I:Qc X ff σ H s)(g:cZ H a y o)(m:aY y u)(h:∀s',Qc X ff σ H s'->Q (.bool o.isSome) s'):
 pw (Nm X.prog X.w) A (oT .In u (.ref a)) Q E s:=by
 rcases g with⟨d,k,e,f,l⟩|⟨d,k,b,e,f,p,l⟩
 .subst f;let%[z,i,vs,c|j]:=qg I.hok e;show wpAny_in_of (lQ m) i j.mapOf ?_;rw[<-(c.val k).isSome_eq,<-l];show h _ (I.tok _)
 .subst f;cases(m);let%[z,i,xs,c|j]:=tL I.hok e;show wpAny_in_heap (Qf n) (qh I.hok p) i j ?_;let q:=(c.val k).isSome_eq;rw[Wz]at q;rw[<-q,<-l];show h _ (I.tok _)
def GB(n:A.units+1<Pa)(I:Qc X ff σ H s)(g:cZ H a y o)(m:aY y u)(h:∀s',Qc X ff σ H s'->Q (.bool (!o.isSome)) s'):
 pw (Nm X.prog X.w) A (oT .NotIn u (.ref a)) Q E s:=by
 rcases g with⟨d,k,e,f,l⟩|⟨d,k,b,e,f,p,l⟩
 .subst f;let%[z,i,vs,c|j]:=qg I.hok e;show wpAny_notIn_of (lQ m) i j.mapOf ?_;rw[<-(c.val k).isSome_eq,<-l];show h _ (I.tok _)
 .subst f;cases(m);let%[z,i,xs,c|j]:=tL I.hok e;show wpAny_notIn_heap (Qf n) (qh I.hok p) i j ?_;let q:=(c.val k).isSome_eq;rw[Wz]at q;rw[<-q,<-l];show h _ (I.tok _)
def lS(I:Qc X ff σ H s)(d:Mut (H a))(e:q7 a s.heap h')(f:∃q,h'.get? a>=q)(new:ci X.prog X.w (Qa H a c) h' a c):
 Qc X ff σ (Qa H a c) {s with heap:=h',toks:=t'}:=
 I.write d (.inl rfl) (λb q g z=>(e.2 b g).trans z) f new
def qj{P:mu}(z:b\5<=iv)(d:(a==Nu)=gi)(c:KV b vs)(e:h'.DictOf (aM P w) a vs):
 ci P w f h' a (.dK b):=%[z,d,vs,c|e]
def BN(N:A.units+1<Pa)(I:Qc X ff σ H s)(g:h9 H a y v O)(G:aY y u)(J:aY v r)(h:∀s',Qc X ff σ O s'->Q () s'):
 pw (Nm X.prog X.w) A (setItem (.ref a) u r) Q E s:=by
 rcases g with⟨d,k,e,m,l,n⟩|⟨d,k,b,e,m,L,l,n⟩
 .subst m n;let%[z,p,vs,f|w]:=lR I.hok e;let T:vs\5<=iv:= ~~~f▸z;let B:(cA d k v)\5<=iv:=by let:=e9 d k v;lia
  show wpAny_setItem_pairs (lQ G) w λh' i C=>h _ (lS I (e▸MK) C (let⟨q,_,_,j,_⟩:=i;%[q|j]) (qj B p (f.put k J) i))
 .subst m n;cases(G);let%[z,p,xs,f|w]:=HR I.hok e;let T:xs\5<=iv:=(Paired.length f)▸z;let B:(cA d k v)\5<=iv:=by let:=e9 d k v;lia
  show wpAny_setItem_heap (Qf N) (qh I.hok L) w λh' i C=>h _ ?_
  let%[q,U,Y,j,h2,h3,h4,_|h5]:=i;show lS I (e▸MK) C %[q|j] %[B,p,_,(f.put k L J).keeps λc ys M=>?_,q,U,Y,j,h2,h3,h4|h5];rw[ar (qc M e (λz=>nomatch z))];show M
end
abbrev Jy(i:tI):Prop:=∀a b,TB i gi a b=operate [a,b] (T2 a b)
def GC{T id:MX}
 (l:Pi (.type T) "__getitem__"=pure (fI (.builtin id))) (m:Jy a)
 (h:↥A (M9 c env) (λo e=>↥A (M9 a env) (λi b=>b.TypeIs o T/\↥A (T2 o i) Q E b) E e) E s):
 ↥A (M9 (.Subscript c a pos) env) Q E s:=by
 show WD (ME h (λo e g=>ME g (λi b d=>?_) λ_ _ x=>x) λ_ _ x=>x);let%[n|d]:=d;show Z2 (Z2 (PN n l ?_));let fin:↥A (TB a gi o i) (λr f=>↥A (letTemporaryGo c o r>>= λ_=>pure r) Q E f) E b:=by
  rw[m o i];show wpAny_operating (ME d (λr f j=>Z2 (wpAny_letTemporaryGo (Z3 j))) λ_ _ x=>x)
 first
  | show Z3 (Z2 fin)
  | lia
  | lia
def oK{X:Cx}(I:Qc X ff f H s)(g:cZ H a y o):s.TypeIs (.ref a) "dict":=by
 rcases g with⟨c,k,e,_,_⟩|⟨c,k,b,e,_,_,_⟩
 .let%[_,_,vs,_|d]:=qg I.hok e;show d.typeIs
 .let%[_,_,xs,_|d]:=tL I.hok e;show d.typeIs
def wJ{X:Cx}(I:Qc X ff i H s)(g:cZ H a y o):
 ∀b,ku a= .ref b->∃c,s.heap.get? b>=c/\c.dict=fD:=λb q=>by
 cases q;rcases g with⟨d,k,e,_,_⟩|⟨d,k,b,e,_,_,_⟩
 .let%[_,_,vs,_,c,_,_,f,h|_]:=qg I.hok e;show%[c,f|h.2.1]
 .let%[_,_,xs,_,c,_,_,f,h|_]:=tL I.hok e;show%[c,f|h.2.1]
abbrev Dz(d ty:TE):TE:=λb H Q=>d b H λx e=>ty b e λy c=>asR x λa=>∃v,cZ c a y (fI v)/\Q v c
abbrev GD(ty d:TE):TE:=λb H Q=>ty b H λy e=>d b e λx c=>asR x λa=>∃o,cZ c a y o/\Q (.bl o.isSome) c
abbrev ve(ty d:TE):TE:=λb H Q=>ty b H λy e=>d b e λx c=>asR x λa=>∃o,cZ c a y o/\Q (.bl (!o.isSome)) c
abbrev tM(d ty e:TE):TS:=λD b H=>e b H λv f=>d b f λx g=>ty b g λy h=>asR x λa=>∃c,h9 h a y v c/\D.nx b c
section
variable{X:Cx}{o i e value:tI}{pos pos' tpos:Pos}{td ty tv:TE}
def GE(f:X.A.units+1<Pa)(j:PE X o td)(hi:PE X i ty)(l:Jy i):PE X (.Subscript o i pos) (Dz td ty):=by
 intro ff s c H Q I h;show GC PySem.F.slot_dict_getitem.lookup l (thP (j ff s c H _ I h) λu m x n p q r=>thP (hi ff m c n _ p r) λC E y w d z h=>?_);let%[a,rfl,v,g|A]:=aT h;obtain rfl:u=ku a:=q;show%[oK d g|BM f d g z λG J B b=>%[v,w,B,b|A]]
def DC(c:X.A.units+1<Pa)(hi:PE X i ty)(d:PE X o td):PC X .In i o (GD ty td):=by
 intro ff s b H Q I h;show thP (hi ff s b H _ I h) λA f y j l m n=>thP (d ff f b j _ l n) λu B x p q r h=>?_
 let%[a,rfl,v,g|w]:=aT h;obtain rfl:u=ku a:=r;show d_in c q g m λC z=>%[.bl v.isSome,p,z,rfl|w]
def BO(c:X.A.units+1<Pa)(hi:PE X i ty)(d:PE X o td):PC X .NotIn i o (ve ty td):=by
 intro ff s b H Q I h;show thP (hi ff s b H _ I h) λz f y j l m n=>thP (d ff f b j _ l n) λu A x p q r h=>?_
 let%[a,rfl,B,g|v]:=aT h;obtain rfl:u=ku a:=r;show GB c q g m λC w=>%[.bl _,p,w,rfl|v]
def GF(c:X.A.units+1<Pa)(d:PE X o td)(hi:PE X i ty)(f:PE X value tv)(j:Oo value (fI (.Subscript o i pos')) pos.line X.env=pure gi):
 PS X (.Assign [.Subscript o i pos'] value pos) (tM td ty tv):=by
 intro ff s b H D I h;show wpAny_Assign_Subscript (thP (f ff s b H _ I h) λr l v m n p q=>thP (d ff l b m _ n q) λu w x z A B C=>thP (hi ff w b z _ A C) λN O y Q E G h=>?_) j;let%[a,rfl,J,g|L]:=aT h;obtain rfl:u=ku a:=B;show BN c E g G p λT M=>%[b,J,M|L]
end
def wK{P:mu}(h:su)(a:Nu<h.objs.size):ci P w H (h.push {cls:= .type "dict",data:= .dict #[]}) h.objs.size (.dK []):=
 %[Xg _,MQ.mpr (wh (Zs a)),[],.nil|T9 h]
def DD{P:mu}(h:su)(a:Nu<h.objs.size):ci P w H (h.push {cls:= .type "dict",data:= .dict #[]}) h.objs.size (.dT []):=
 %[Xg _,MQ.mpr (wh (Zs a)),[],.nil,_,#[],0,Zj _ rfl,%[rfl,rfl|rfl],rfl,rfl|X2]
abbrev zd:TE:=λ_ H Q=>∀p,H p=fD->Q (.ref p) (Qa H p (.dK []))
abbrev ze:TE:=λ_ H Q=>∀p,H p=fD->Q (.ref p) (Qa H p (.dT []))
section
variable{X:Cx}{pos:Pos}
def DE:PE X (.Dict [] [] pos) zd:=λff s a H Q I h=>
 XC %[.ref ⇑s,_,I.laid (λ_ _ q=>Z7 _ q) (Zi _) (wK s.heap I.big),rfl|h _ (I.hok.fresh (Zi _))]
def DF:PE X (.Dict [] [] pos) ze:=λff s b H Q I h=>
 XC %[.ref ⇑s,_,I.laid (a:=⇑s) (o:= .dT []) (t':=s.toks) (λ_ _ q=>Z7 _ q) (Zi _) (DD s.heap I.big),rfl|h _ (I.hok.fresh (Zi _))]
end
abbrev zf:fx (TE×TE)->St->Hp->(fx (V×V)->Hp->Prop)->Prop
 |[],_,H,Q=>Q [] H
 |(tk,b)::r,a,H,Q=>tk a H λx c=>b a c λy d=>zf r a d λps e=>Q ((x,y)::ps) e
noncomputable abbrev VV:fx (V×V)->fx (hV×hV)->Prop:=Paired λp q=>aY p.1 q.1/\aY p.2 q.2
abbrev PPs(X:Cx)(pos:Pos)(b:fx (ij tI))(a:fx tI)(c:fx (TE×TE)):Prop:=
 ∀ff s (d:St) H Q,Qc X ff d H s->zf c d H Q->
  (X⁻¹) (evalPairs (pairTrees b a X.env pos)) (λvs s'=>∃ps e,Qc X ff d e s'/\VV ps vs/\Q ps e) X.xe s
def GG{X:Cx}:PPs X pos [] [] []:=λff s a H Q I h=>pairTrees_nil_walk %[[],H,I,.nil|h]
def DG{X:Cx}(d:PE X k tk)(e:PE X v f)(g:PPs X pos ks vs a):
 PPs X pos (fI k::ks) (v::vs) ((tk,f)::a):=λff s b H Q I h=>
 pairTrees_cons_walk (thP (d ff s b H _ I h) λu i x j l m n=>thP (e ff i b j _ l n) λC o y p q r w=>
  thP (g ff o b p _ q w) λws E ps z A c B=>%[(x,y)::ps,z,A,.cons %[m|r] c|B])
abbrev iD(a more:fx (Key×V)):fx (Key×V):=more.foldl (λacc b=>cA acc b.1 b.2) a
def KV.merge:∀{more:fx _} {rs:fx _} {a:fx _} {vs:fx _},KV more rs->KV a vs->KV (iD a more) (merged vs rs):=by
 intro more rs a vs r
 induction r generalizing a vs with
 | nil=>intro q;show q
 | @cons p q ps qs h t b=>
   intro c;let e:KV (cA a p.1 p.2) (stored vs q.1 q.2):=by
    let:=c.put p.1 h.2;show h.1▸this
   show b e
def iE:∀more a,(iD a more)\5<=a\5+more\5
 |[],a=>by change ~~~a<=a\5+0;lia
 | p::r,a=>by
   let b:=iE r (cA a p.1 p.2);let c:=e9 a p.1 p.2;change(iD _ r).length<=_
   grind
def qk{P:mu}:∀{d:fx (Key×V)} {ws:fx (hV×hV)},VV (d.map λe=>(kV e.1,e.2)) ws->∃rs,Carries (aM P w) ws rs/\KV d rs
 |[],_,r=>by rw[Vm]at r;cases r;show%[[],MK|.nil]
 | p::d,_,r=>by
   rw[Yo]at r;cases r with
   | @cons a b as bs h t=>
     let%[rs,c|q]:=qk (P:=P) (w:=w) t;let%[g|f]:=b;show%[(p.1,f)::rs,%[lQ h.1,ρ|c]|.cons %[ρ|h.2] q]
abbrev HS(b:fx (TE×TE)):TE:=λe H Q=>∀p,H p=fD->zf b e (Qa H p (.dK [])) λps c=>c p>=.dK []/\∃a:fx _,ps=a.map (λd=>(kV d.1,d.2))/\a\5<=15/\Q (.ref p) (Qa c p (.dK (iD [] a)))
def GH{X:Cx}(h:PPs X pos b d j)(f:b.all (·.isSome)=gb)(p:b\5=d\5)(r:b≠[])
 (l:b\5<=15):PE X (.Dict b d pos) (HS j):=by
 intro ff s u H Q I q;let v:=I.hok.fresh (Zi ⇑s);let y:=I.laid (a:=⇑s) (o:= .dK []) (h':=s.heap.push {cls:= .type "dict",data:= .dict #[]}) (t':=s.toks) (λ_ _ q=>Z7 _ q) (Zi _) (wK s.heap I.big);show wpAny_Dict_walk (knd:=aM X.prog X.w) f p r l (thP (h ff _ u _ _ y (q _ v)) λws Y ps H2 n m ⟨e,g,A,lk,B⟩=>?_);subst A;let%[rs,c|C]:=qk (P:=X.prog) (w:=X.w) m;let%[z,E,G,J|L]:=lR n.hok e;cases J;show%[rs,c,L|λh' i M=>%[.ref ⇑s,_,?_,ρ|B]];let N:(iD [] g)\5<=iv:=by
  let O:=iE g [];rw[Rp]at O;rw[MD];lia
 let T:∃q,h'.get? ⇑s>=q:=let⟨q,_,_,U,_⟩:=i;%[q|U];show lS n (by rw[e];show MK) M T (qj N E (C.merge .nil) i)
structure M1 (X:Cx) (o:tI) (m:jz) (apos:Pos) (e:tI) (cpos:Pos):Prop where
 base:NB o m X.env (M9 o X.env)=M9 o X.env
 few:((Nv cpos (q0 [e] X.env)).all (λx=>!x.1)&&(Qj cpos (Ol [] X.env)).all (λx=>x.1.isSome)
  && decide (([e])\5+([]:fx Pc)\5+(if([]:fx Pc).isEmpty then 0 else 1)<30))=gb
 line:(apos.endLine==cpos.line)=gb
 trees:Nv cpos (q0 [e] X.env)=[(gi,M9 e X.env)]
structure M2 (X:Cx) (o:tI) (m:jz) (apos:Pos) (e f:tI) (cpos:Pos):Prop where
 base:NB o m X.env (M9 o X.env)=M9 o X.env
 few:((Nv cpos (q0 [e,f] X.env)).all (λx=>!x.1)&&(Qj cpos (Ol [] X.env)).all (λx=>x.1.isSome)
  && decide (([e,f])\5+([]:fx Pc)\5+(if([]:fx Pc).isEmpty then 0 else 1)<30))=gb
 line:(apos.endLine==cpos.line)=gb
 trees:Nv cpos (q0 [e,f] X.env)=[(gi,M9 e X.env),(gi,M9 f X.env)]
section
#version
variable{a:hW}{y d:V}{u r:hV}{o:ij V}{A:ri}{E:ZD}
variable{o:tI}{e:tI}{f:tI}{apos:Pos}{cpos:Pos}{td:TE}{ty:TE}{tx:TE}
end
end _LL
namespace _AT
open PySem PySem.W PySem.Calls PyProof.Rows
def pI{P:Params}:∀(c:ZL) (vs:ZF),WellAll P h vs (c.map X0)->T8 vs c:=by
 intro c
 induction c with
 | nil=>
   intro vs w;cases w;show .nil
 | cons n c d=>
   intro vs w;cases w with
   | cons a b=>
     cases a;show .cons _ _ (d _ b)
def BP{l:W5}(o:l.most>=n){P:Params}
 (b:l.row.toRowW.claim.pre args=gb) (j:WellAll P h e args):
 ∃a vs c,e=[ku a]/\args=[WData.list (c.map X0)]/\h.get? a=fI {cls:= .type "list",data:= .seq vs.toArray}/\T8 vs c/\c\5<=n:=by
 let m:l.pre.holds [] _=gb:=(pre_splitW b).2;let%[d,r,rfl,p|q]:=hasAllW_cons ((pre_splitW b).1);obtain rfl:=hasAllW_nil q;let%[xs,rfl|s]:=hasW_list p;let%[c|rfl]:=items_int s;let f:c\5<=n:=by
  unfold W5.pre at m;let i:=by
   let i:=(holds_andW m).1;rw[o]at i;show i
  let y:=condW_of i (w_not (w_lt w_lit (w_len_list (w_arg rfl))))
  grind
 cases j with
 | cons u v=>
   cases v;cases u with
   | list w g=>show%[_,_,c,ρ,ρ,w,pI c _ g|f]
def BQ(l:W5)(args:fx WData):l.row.toRowW.claim.post args (.bool gb) args=gb:=
 postW_of
  (by first|rfl|simp|lia)
  (w_eq_bool (w_res rfl) w_lit) rfl
def attach_call{l:W5}{n:gf}{q:mu}
 (I:l.most>=n) (u:d.params.defaults=[])
 (call:∀(w:rM) (s₀ b:jg) (mg v:ZC) (h:hW) (o:NV) (y p c:hV) (a:hW) (vs:ZF) (s:ZL),
  Ground q e [] J w s₀ mg v b.heap->L w b.heap->
  b.heap.get? h>=o->o.data= .func (docDef d.name d.params d.body d.scope y p c)->b.heap.CodeRec p d.name->mg d.name>=.ref h->
  b.heap.get? a=fI {cls:= .type "list",data:= .seq vs.toArray}->T8 vs s->s\5<=n->b.gens= #[]->
  Pw (Nm l.prog w) T3 (.call (.ref h) %[[.ref a]|[]]) (λr s'=>r= .ok (.ret (.bool gb))/\OldK b.heap s'.heap/\s'.os=b.os/\QK s'.gens) b):
 WalkO q e J L l.row.toRowW d [] (λf vs=>PySem.call f vs):=by
 intro w s₀ b mg v G Y h o y p c M kV N O z C A Q args E as i H T B U;obtain rfl:M= .none:=Dflts.none C u;obtain rfl:kV= .none:=Dflts.noKw C;let%[a,vs,s,rfl,rfl,j,g|m]:=BP I i B;show enter_call (codeAny_mono (call w s₀ b mg v h o y p c a vs s G Y N (fd_plain O) z A j g m Q) λr s' hq=>?_);let%[rfl,h2,h3|h4]:=hq;show%[.inl %[.bool gb,.bool gb,[],ρ,λ_=>rfl,.bool gb,BQ l _|λ_=>%[QU|λ_ hm=>(nomatch hm)]],h2,h3|h4]
section
#where
end
end _AT
namespace _LL
open PySem PySem.Spec PyProof.Rows
def kA:∀{vs:ZF} {a:ZL},T8 vs a->aQ (a\4) vs
 | _,_,.nil=> .nil
 | _,_,.cons n t h=> .cons %[t|rfl] (kA h)
abbrev GI(H:Hp):Prop:=∀b,H b=fD\/∃o xs,H b>=.frz o (.lst xs)
def law_call{P:mu}{K:ZA}{mg J:ZC}{vs:ZF}
 (Y:K.In c.heap) (p:c.heap.Ns r0 mg) (g:c.heap.Ns WC J) (L:∀x:jz,x≠"__name__"->J x=Nz x) (y:c.heap.NoLimit) (hg:c.gens= #[])
 (M:c.heap.get? a=fI {cls:= .type "list",data:= .seq vs.toArray}) (hi:T8 vs N) (hl:N\5<=iv) (hr:bW k T3)
 (F:∀base:su,K.In base->base.Ns r0 mg->d8 P w K mg base CX k fa fd [x] sp) (l:∀(s:jg) (u:hV),Uc s fd %[[u]|[]] [(x,u)])
 (O:∀H:Hp,GI H->Qb K H a (N\4)->sp [.ref a] H (λv _=>v= .bl gb) λ_ _ _=>yc)
 (Q:∀H e s',CX [] H c (λ_ _ _=>yc) e s'->yc):
 Pw (Nm P w) T3 (.call (.ref fa) %[[.ref a]|[]]) (λr s'=>r= .ok (.ret (.bool gb))/\OldK c.heap s'.heap/\s'.os=c.os/\QK s'.gens) c:=by
 let rv:=kA hi;let j:∀H,GI H->Qb K H a (N\4)->HOk P w H c.heap->(∀b,H b≠fD->b=a)->(H a≠fD->K.lookup a=fD)->
  Pw (Nm P w) T3 (.call (.ref fa) %[[.ref a]|[]]) (λr s'=>r= .ok (.ret (.bool gb))/\OldK c.heap s'.heap/\s'.os=c.os/\QK s'.gens) c:=by
  intro H hO hS A hA hK;let f:∀{b:hW} {o:NV},c.heap.get? b>=o->H b=fD->(Bt c.heap H).get? b>=o:=λe n=>CV e n
  let T:∀{b:hW} {o:NV} {G:mx Vb} {I:gf},c.heap.get? b>=o->o.data= .dict G I->H b=fD:=λ{b o G I} e d=>by
   grind
  let i:∀{b:hW} {m:ZC},c.heap.Ns b m->(Bt c.heap H).Ns b m:=λ{b m} ⟨o,G,I,e,d,r⟩=>%[o,G,I,f e (T e d),d|r]
  let B:=λb o e=>f (Y b o e) (by
   grind)
  show codeAny_mono ((F _ B (i p)).run T3 [] c H _ _ [.ref a] _ _ hr %[rfl,%[B,i p,%[J,i g|L]|let⟨mc,h1,h2⟩:=y;%[mc,i h1|h2]],λb o e=>FY e,XO (Bu _ _),trivial,λb g=>lr (show b>([])from g) ∅,A|.of_eq hg] (l c _) (.cons rfl .nil) (O H hO hS)) λr s' h=>?_
  cases r with
  | error e=>show(Q H e s' h).elim
  | ok fl=>
    cases fl with
    | next=>show MJ h
    | brk=>show MJ h
    | cont=>show MJ h
    | ret u=>
      let%[v,H',os,C,un,E,r'|q]:=h;subst q;obtain rfl:u=XN gb:=r';show%[ρ,OldK.of_keep λb o e=>?_,os|C];cases q:H b with
      | none=>show un.keep b o e q (by intro z;show lr (show b>([])from z) ∅) ∅
      | some u=>
        rcases hO b with z|⟨ob,xs,z⟩
        .rw[q]at z;cases z
        .let%[e1|_]:=A b _ z;let%[e2|_]:=E b _ (un.frzs b ob _ z);rw[e]at e1;cases e1;show e2
 cases U:K.lookup a with
 | some o=>
   let e:=Y a o U;rw[M]at e;cases e;show j _ (λ_=> .inl rfl) (.inr %[_,vs.toArray,_,U,rfl,rfl,rfl,by rw[Zp,hi\5];show hl|rv]) (λb u z=>!2) (λb z=>lr rfl z) λz=>lr rfl z
 | none=>
   show j (λb=>if b=a then fI (.frz {cls:= .type "list",data:= .seq vs.toArray} _)else fD) (λb=>?_) (.inl (.inr %[{cls:= .type _,data:= .seq vs.toArray}|hY rfl])) (λb u z=>?_) (λb z=>?_) λ_=>U
   .by_cases g:b=a
    .show .inr %[_,_|hY g]
    .show .inl (hH g)
   .by_cases g:b=a
    .let z':=(hY g).symm.trans z;cases z';subst g;show%[M,by rw[Z6];show hl,vs,_,rv|M]
    simp_all
   .by_cases g:b=a
    .show g
    .show lr (hH g) z
def walk_of{l:PySem.W.OpenLaw}{J:(jz->ij hV)->su->Prop}{E:rM->su->Prop}{d:DefRec}{K:Params->ZA}{CX:rM->CXT}{sp:rM->Sp}{x:jz}
 (L:l.most>=n) (p:n<=iv) (r:d.params.defaults=[]) (M:bW k T3)
 (N:∀(w:rM) (h:su),E w h->(K w.params).In h)
 (F:∀(w:rM) (mg:ZC) (j:hW) (h:su),(K w.params).In h->h.Ns r0 mg->mg d.name>=.ref j->
  ∃y:Pd,(∀(s:jg) (u:hV),Uc s y %[[u]|[]] [(x,u)])/\
   ∀base:su,(K w.params).In base->base.Ns r0 mg->d8 l.prog w (K w.params) mg base (CX w) k j y [x] (sp w))
 (z:∀(w:rM) (H:Hp) (a:hW) (m:ZL),m\5<=n->GI H->Qb (K w.params) H a (m\4)->sp w [.ref a] H (λv _=>v= .bl gb) λ_ _ _=>yc)
 (A:∀(w:rM) (H:Hp) (s:jg) (e:hV) (s':jg),CX w [] H s (λ_ _ _=>yc) e s'->yc):
 PySem.W.WalkO q B J E l.row.toRowW d [] (λf vs=>PySem.call f vs):=by
 show _AT.attach_call L r λw s₀ g mg mb j o pm cd O a vs m G Y ho hd Q C i c b T=>?_
 let I:=N w _ Y;let%[y,U|hF]:=F w mg j _ I G.T.g C;show law_call I G.T.g G.T.b G.T.builtins G.T.nolimit T i c (lx b p) M hF U (λH hO hS=>z w H a m b hO hS) λH e s'=>A w H g e s'
abbrev kB(s:v0)(j:gf):v0:=match s with
 | .ClassDef _ _ _ a _ _ _ _ _ _ _=>a.getD j (.Pass %[0,0,0|0])
 | _=> .Pass %[0,0,0|0]
abbrev dA(s:v0):Arguments:=match s with
 | .FunctionDef _ a _ _ _ _ _ _ _ _=>a
 | _=>{posonlyargs:=[],args:=[],vararg:=fD,kwonlyargs:=[],kw_defaults:=[],kwarg:=fD,defaults:=[]}
abbrev bX(s:v0):fx v0:=match s with
 | .FunctionDef _ _ b _ _ _ _ _ _ _=>b
 | _=>[]
abbrev ap(s:v0):R3:=match s with
 | .FunctionDef _ _ _ _ _ _ a _ _ _=>a
 | _=>{kind:= .function,names:=[],isGenerator:=gi,isCoroutine:=gi}
noncomputable abbrev CX0:CXT:=λ_ _ _ _ _ _=>yc
noncomputable abbrev E0:XK:=λ_ _ _=>yc
def DH{X:Cx}:je CX0 X E0:=λ_ _ _ _ _ _ _ h=>h.elim
structure Fun (K:ZA) (x qual:jz) (st:v0) (f:hW) (fd:Pd):Prop where
 ex:∃oc od kV doc pm an cdv ct osl,
  fd=Tp x qual (dA st) (bX st) (ap st) .none kV doc pm an cdv ct/\K.lookup f=fI %[oc,od,.func fd|osl]/\RY K cdv qual=gb
 kp:OJ K (.ref f)=gb
section
variable{P:mu}{w:rM}{K:ZA}{mg:ZC}{base:su}
def Fun.ok{x a:jz}{st:v0}{f:hW}{g:Pd}{N ps:ZB}{k:gf}{sp:Sp}(F:Fun K x a st f g)(S:aw N ps (ap st))(len:∀vs H Q E,sp vs H Q E->vs\5=ps\5)
 (c:∀b (A:ri) (outer:fx Env) s H (vs:fx V) Q E,bW k (A.deeper (Ng a (ap st) ⇑s f b))->sp vs H Q E->
  ∃t,PSs (gB CX0 P w K mg base N a (ap st) f b A outer s H E).nox (bX st) t/\t {nx:=λ_ i=>Q .non i,rt:=Q} (start N vs) H):d8 P w K mg base CX0 (k+1) f g ps sp:=by
 let%[n,od,kV,j,o,p,b,ct,l,rfl,lk|d]:=F.ex;show HP lk d S len λA outer s H vs Q E m e=>?_
 let%[t,h|q]:=c b A outer s H vs Q E m e;show%[t,h.nox|q]
def Fun.binds{st:v0}(F:Fun K x c st f g)
 (h:∀(kV a d:hV) (e:ZI) (b ct:hV) (us:ZF),us\5=ps\5->bindArgs (Tp x c (dA st) (bX st) (ap st) .none kV a d e b ct) %[us|[]]=pure (ps.zip us)):d9 K g ps []:=by
 let%[l,od,kV,a,d,e,b,ct,i,rfl,lk|j]:=F.ex;show .all (h kV a d e b ct)
def eM{st:v0}{kV d e b ct:hV}(l:K.lookup f=fI %[i,od,.func (Tp x a (dA st) (bX st) (ap st) .none kV d e h b ct)|g])
 (c:RY K b a=gb) (k:OJ K (.ref f)=gb):Fun K x a st f (Tp x a (dA st) (bX st) (ap st) .none kV d e h b ct):=%[%[i,od,kV,d,e,h,b,ct,g,rfl,l|c]|k]
variable{X:Cx}
def pv(i:gf)(b:X.N[i]?>=x)(c:Vis X.env.scope x)(d:(x==("__debug__":jz))=gi)
 (a:(x==("__classdict__":jz))=gi):PE X (.Name x pos) (sw i):=CY b c d a
end
def wL{A B:Prop}(h:B):if gi=gb then A else B:=by
 simp_all
def Lr{A B:Prop}(h:A):if gb=gb then A else B:=by
 rw[hY rfl];show h
def br{c A B:Prop}[OT c](a:c->A)(b: ¬ c->B):if c then A else B:=by
 simp_all
abbrev ah(H a:Hp):Prop:=∀b o,H b>=o->a b>=o
def ah.refl(H:Hp):ah H H:=λ_ _ h=>h
def ah.trans{H d e:Hp}(a:ah H d)(b:ah d e):ah H e:=λc o h=>b c o (a c o h)
def ah.free{H a:Hp}(e:ah H a){l:hW}(h:a l=fD):H l=fD:=by
 cases q:H l with
 | none=>rfl
 | some o=>
   rw[e l o q]at h;cases h
def ah.seq{K:ZA}(e:ah H b)(h:Qb K H a xs):Qb K b a xs:=by
 rcases h with(h|⟨o,h⟩)|h
 .show .inl (.inl (e _ _ h))
 .show .inl (.inr %[o|e _ _ h])
 .show .inr h
section
end
section
variable{κ:Type}[MM κ]
def GJ{a:fx (κ×V)}(h:bD a k>=v):k>a\1:=by
 let q:(a.any λb=>decide (b.1=k))=gb:=by
  rw[iQ,h]
  all_goals rfl
 simp_all
def pV:∀{l:fx κ} {k:κ},l.Nodup-> ¬ k>l->(l++[k]).Nodup
 |[],k,_,_=>by simp
 | a::r,k,h,b=>by
   let%[c|d]:=MO.mp h;show MO.mpr %[λm=>?_|pV d λm=>b (Yu.mpr (Or.inr m))];rcases Xo m with q|q
   .show c q
   .show b (Yu.mpr (Or.inl (Xp q).symm))
end
abbrev qo(env:Env):fx (jz×zr)->fx (jz×hW)->fx (jz×hW)
 |[],acc=>acc
 |(n,k)::r,acc=>qo env r (if k= .free then(n,(env.cells.lookup n).getD 0)::acc else acc)
def qq:∀(names:fx (jz×zr)) (acc:fx (jz×hW)),(∀y>names,y.2= .free->∃c,env.cells.lookup y.1>=c)->
 (forIn names acc λx r=>match x with
  |(name,kind)=>if(kind==Na)=gb then do let a<-cellOf env name;pure (OX ((name,a)::r))else pure (OX r):Sem (fx (jz×hW)))=pure (qo env names acc)
 |[],acc,_=>rfl
 |(n,k)::r,acc,h=>by
  let d:=λacc=>qq r acc λy f=>h y (Zk _ f)
  rw[SE];by_cases b:k= .free
  .subst b;let%[c|e]:=h _ Zm rfl;let g:cellOf env n=pure c:=by unfold cellOf;rw[e]
   simp only[Pn,Qy,g,pure_bind];rw[d];change _=pure (qo env r _);rw[hY rfl,e]
   all_goals rfl
  .let i:(k==Na)=gi:=↑b
   simp only[i,Zy,Ow,pure_bind];rw[d];change _=pure (qo env r _);rw[hH b]
def GK(h:∀y>a.names,y.2= .free->∃c,env.cells.lookup y.1>=c):closureFor a env=pure (qo env a.names []):=by
 unfold closureFor;simp only[bind_pure];show(qq a.names [] h)
def wM:∀(names:fx (jz×zr)) (acc:fx (jz×hW)),(∀y>names,y.2= .free->∃c,env.cells.lookup y.1>=c)->
 (∀y d,acc.lookup y>=d->env.cells.lookup y>=d)->(qo env names acc).lookup x>=c->env.cells.lookup x>=c
 |[],acc,_,a,e=>a x c e
 |(n,k)::r,acc,h,a,e=>by
  show wM r _ (λy b=>h y (Zk _ b)) (λy d q=>?_) e;by_cases f:k= .free
  .rw[hY f,Yk]at q;let%[g|i]:=h _ Zm f;cases b:y==n with
   | true=>
     simp_all
   | false=>rw[b]at q;show a y d q
  .rw[hH f]at q;show a y d q
def qr:∀(names:fx (jz×zr)) (acc:fx (jz×hW)),(∃c,acc.lookup x>=c)->∃c,(qo env names acc).lookup x>=c
 |[],_,h=>h
 |(n,k)::r,acc,h=>by
  show qr r _ ?_;by_cases a:k= .free
  .rw[hY a,Yk];cases b:x==n with
   | true=>show%[_|ρ]
   | false=>show h
  .rw[hH a];show h
def qt:∀(names:fx (jz×zr)) (acc:fx (jz×hW)),(x,Na)>names->∃c,(qo env names acc).lookup x>=c
 |[],_,h=>by simp at h
 |(n,k)::r,acc,h=>by
  rcases Yu.mp h with e|h
  .show qr r _ ?_
   simp_all
  .show qt r _ h
abbrev cB(X:Cx)(a:R3)(d:ZB)(b:jg)(c:Hp)(e:fx hW):Cx:=
 {X with
  N:=d
  s₀:=b
  H₀:=c
  env:=compEnvC a (MT (⇑b+1) a.names (qo X.env a.names [])) ⇑b X.env
  outer:=X.stack
  stack:=X.stack
  ex:=e
  fn:=λx=>decide (a.names.lookup x>=.cell)
  pn:=[]
  xe:=λ_ _=>yc}
structure aA (X:Cx) (scope:R3) (N':ZB) (cap:fx (gf×gf)):Prop where
 kind:scope.kind= .function
 cell:∀y>scope.names,y.2= .cell->scope.names.lookup y.1>=.cell
 loc:∀y>scope.names,y.2= .local->scope.names.lookup y.1>=.local
 free:∀y>scope.names,y.2= .free->X.env.kindOf y.1>=.cell\/X.env.kindOf y.1>=.free
 capt:∀p>cap,∃x,N'[p.1]?>=x/\X.N[p.2]?>=x/\scope.names.lookup x>=.free
abbrev tN(n:gf)(a:fx (gf×gf))(b:St):St:=(kj n).map λj=>(a.lookup j).bind λi=>(b[i]?).join
def oM:∀{l:fx _} {j i:gf},l.lookup j>=i->(j,i)>l
 |[],_,_,h=>by simp at h
 |(a,b)::r,j,i,h=>by
  rw[Yk]at h;cases c:j==a with
  | true=>
    simp_all
  | false=>rw[c]at h;show Zk _ (oM h)
def oN{env:Env}{names:fx (jz×zr)}{x:jz}{k:zr}(h:(names.map λ(n,k)=>if(k==Na&&env.scope.kind== .function&&env.kindOf n==fI .cell)then(n,OM)else(n,k)).lookup x>=k)
 (a:k= .cell\/k= .free):(x,Na)>names\/(x,OM)>names:=by
 let m:=PySem.mem_of_lookup h
 grind
def fZ:∀names n acc,MT n names acc=MT n names [] ++acc
 |[],_,_=>rfl
 |(x,k)::r,n,acc=>by
  unfold MT
  split
  .rw[fZ r _ _,fZ r _ [(x,n)],Ze];rfl
  .show fZ r n acc
def nG:∀{names:fx (jz×zr)} {n:gf},(x,c)>MT n names []->(x,OM)>names
 |[],_,h=>nomatch h
 |(y,k)::r,n,h=>by
  unfold MT at h
  split at h
  .rw[fZ]at h;rcases Xo h with q|q
   .show Zk _ (nG q)
   grind
  .show Zk _ (nG h)
def oO(h:(MT n names acc).lookup x>=c):(x,c)>MT n names []\/((MT n names []).lookup x=fD/\acc.lookup x>=c):=by
 rw[fZ,U9]at h;cases e:(MT n names []).lookup x with
 | none=>rw[e]at h;show .inr %[rfl|h]
 | some d=>
   rw[e]at h;let:=↑h
   show this▸ .inl (PySem.mem_of_lookup e)
def lT{env:Env}:∀{names:fx (jz×zr)} {x:jz},names.lookup x>=.free->
 (names.map λ(n,k)=>if(k==Na&&env.scope.kind== .function&&env.kindOf n==fI .cell)then(n,OM)else(n,k)).lookup x>=.cell\/
 (names.map λ(n,k)=>if(k==Na&&env.scope.kind== .function&&env.kindOf n==fI .cell)then(n,OM)else(n,k)).lookup x>=.free
 |[],_,h=>by simp at h
 |(n,k)::r,x,h=>by
  let c:= @lT env r x;simp only[Yo];cases a:x==n with
  | true=>
    rw[Yk,a]at h;let d:=Za h;subst d;by_cases b:((Na==Na)&&env.scope.kind== .function&&env.kindOf n==fI .cell)=gb
    .rw[hY b,Yk,a];show .inl rfl
    .rw[hH b,Yk,a];show .inr rfl
  | false=>
    rw[Yk,a]at h;by_cases b:(k==Na&&env.scope.kind== .function&&env.kindOf n==fI .cell)=gb
    .rw[hY b,Yk,a];show(c h)
    .rw[hH b,Yk,a];show(c h)
section
#version
def Qc.kindL(I:Qc X ff σ H s)(h:X.env.kindOf x>=.cell\/X.env.kindOf x>=.free):∃c,X.env.cells.lookup x>=c:=I.ok.has x h
def Qc.block{a:R3}{E:ZB}{fp:fx hW}{f:su}{tk:gf}(S:aA X a E n)(I:Qc X ff σ H s)(Q:∀b>fp,pH X ff H b)(L:∀b>fp,b<⇑s)
 (hn:f.Ns ⇑s (λ_=>fD)) (B:∀b u,s.heap.get? b>=u->f.get? b>=u) (nc:CellsOk f (⇑s+1) (MT (⇑s+1) a.names [])):
 Qc (cB X a E s H fp) [] (tN E.length n σ) H {s with heap:=f,toks:=tk}:=by
 let h:∀x c,(qo X.env a.names []).lookup x>=c->X.env.cells.lookup x>=c:=λx c e=>wM a.names [] (λy hy hk=>I.kindL (S.free y hy hk)) (λ_ _ q=>by simp at q) e
 let o:∀x c,(MT (⇑s+1) a.names (qo X.env a.names [])).lookup x>=c->((x,c)>MT (⇑s+1) a.names []/\f.IsCell c fD/\⇑s+1<=c)\/(X.env.cells.lookup x>=c/\c<⇑s):=λx c e=>by
  rcases oO e with q|⟨_,q⟩
  .show .inl %[q|nc.empty x c q]
  .let q':=h x c q;let%[v,J,M|_]:=I.cell x c q';show .inr %[q'|Zu M]
 show%[%[I.ok.mod,S.kind,I.ok.glob,I.ok.blt,Zi _,λx y c h1 h2=>?_,λx hx=>?_,λx c hq e=>?_,I.ok.hd,I.ok.frames,.inl rfl,λb g=>%[?_|λx c e=>?_],I.bs,
  lx I.ok.bsz I.sz,λb u e g=>?_,λb g T=>?_,I.stack|I.stkFree],ρ,I.bare,Un.kept B,%[_,hn|λj x v e1 e2 e3=>?_],λx c e=>?_,I.hok.fresh (Zi _),λx c e=>?_,λp hp=>?_,I.hok.kept B|?_]
 .rcases o x c h1 with⟨q1,_,q2⟩|⟨q1,q2⟩<;> rcases o y c h2 with⟨r1,_,r2⟩|⟨r1,r2⟩
  .show name_of_addr nc.apart q1 r1
  .show lr r2 (SJ (lx (Ye _) q2))
  .show lr q2 (SJ (lx (Ye _) r2))
  .show I.ok.inj x y c q1 r1
 .let:(x,Na)>a.names\/(x,OM)>a.names:=by
   rcases hx with q|q
   .show oN q (.inl rfl)
   .show oN q (.inr rfl)
  show Qw.mp (RZ a.names _ _ ?_);rcases this with q|q
  .show .inr (Qw.mpr (qt a.names [] q))
  .show .inl (S.cell _ q rfl)
 .rcases oO e with q|⟨q,_⟩
  .let:=(nc.empty x c q).2;change ⇑s<=c
   lia
  .let:=RZ a.names (⇑s+1) [] (.inl (Zo hq));rw[q]at this;cases this
 .show Zs (L b g)
 .rcases o x c e with⟨_,_,q⟩|⟨q,_⟩
  .show λz=>lr (L b g) (SJ (lx (Ye _) (z▸q)))
  .show(Q b g).2.2.2.2.1 x c q
 .rcases(Q b g).2.2.2.1 with z|z
  .show I.ok.noex b u e z
  .show lr (Zg (Zu e) (lx I.ok.bsz z)) (Xl _)
 .rcases Yu.mp (I.stkSub b T)with z|z
  .show(Q b g).2.1 z
  .show(Q b g).2.2.1 z
 ·
  let hj:∃i,n.lookup j>=i/\σ[i]?>=fI v:=by
   let A:((kj E.length).map _)[j]?>=_:=e2;rw[Zl]at A;cases hr:(kj E.length)[j]? with
   | none=>rw[hr]at A;cases A
   | some j'=>
     rw[hr]at A;let ab:j'=j:=by
      let:=Xn hr;let%[h1|h2]:=this;simpa using h2.symm
     subst ab;let C:((n.lookup j').bind _)>=v:=Za A;cases U:n.lookup j' with
     | none=>rw[U]at C;cases C
     | some i=>
       rw[U]at C;show%[i,ρ|?_];let Y:(σ[i]?).join>=v:=C;cases T:σ[i]? with
       | none=>rw[T]at Y;cases Y
       | some w=>rw[T]at Y;let:w>=v:=Y;rw[this]
  let%[i,U|hi]:=hj;let%[y,n1,n2|n3]:=S.capt _ (oM U);let ac:=Za (n1.symm.trans e1);subst ac;let N:=S.free _ (PySem.mem_of_lookup n3) rfl;let%[m,hm|hl]:=I.loc;let%[u,r|l]:=hl i y v n2 hi (by rcases N with q|q;show .inr (.inl q);show .inr (.inr q));show%[u,r|.inr %[?_|?_]]
  .show lT n3
  .rcases l with⟨k,_⟩|⟨_,c,G,hv⟩
   .rcases N with q|q
    .rw[k]at q;cases q
    .rw[k]at q;cases q
   .let%[c'|O]:=qt a.names [] (PySem.mem_of_lookup n3);let:=h y c' O;rw[G]at this;let e5:=Za this;subst e5;let%[J,M|hd]:=hv;show%[c,?_,J,B c J M|hd];change(MT _ _ _).lookup y>=c;rw[fZ,U9];cases e6:(MT _ a.names []).lookup y with
    | none=>simpa using O
    | some d=>
      let:=S.cell _ (nG (PySem.mem_of_lookup e6)) rfl;rw[n3]at this;cases this
 .rcases o x c e with⟨_,q,_⟩|⟨q,_⟩
  .show%[fD|q]
  .let%[v,J,M|hd]:=I.cell x c q;show%[v,J,B c J M|hd]
 .rcases o x c e with⟨_,_,q⟩|⟨q,_⟩
  .show I.hok.fresh !_
  .show I.freeC x c q
 .show lr (show p>([])from hp) ∅
 .change(tN E.length n σ).length=E\5;unfold tN;rw[Z6,Yh]
end
abbrev PTs(X:Cx)(a:fx tI)(t:TT):Prop:=
 ∀ff s (b:St) H Q,Qc X ff b H s->t b H Q->
  (X⁻¹) (forIn a gb λc r=>if r=gb then do let ok<-RV c X.env (M9 c X.env);pure (OX ok)else pure (OX r)) (TP X ff b Q) X.xe s
abbrev BR:TT:=λ_ H Q=>Q gb H
def GL{X:Cx}:PTs X [] BR:=λ_ _ _ H _ I h=>wpAny_tests_nil %[H,I|h]
def GM{X:Cx}(h:PT X c t):PTs X [c] t:=λff s a H Q I q=>wpAny_tests_one (h ff s a H Q I q)
abbrev tO(q:TI)(n:gf)(f:fx (gf×gf))(g:TG)(r:TT)(s:TE):TE:=λh H Q=>q h H λJ j=>∀D,j D=fD->∃W:gf->gf->fx V->St->Hp->Prop,
 (∃m,W 0 m [] (tN n f h) (Qa j D (.lst [])))/\∀i m ys c d,W i m ys c d->(J.stop i d/\Q (.ref D) d)\/
  (J.go i d/\∀x l,J.yld i d x l->g x c l λa u=>r a u λb o=>if b=gb then s a o λy p=>∃zs e,p D<*zs/\zs\5<iv/\e<m/\W (i+1) e (ys++[y]) a (Qa p D (.lst (zs++[y])))
   else∃e,e<m/\W (i+1) e ys a o)
def GN{code:hV}
 (j:∀h',h'.Ns ⇑s (λ_=>fD)->(∀b u,s.heap.get? b>=u->h'.get? b>=u)->CellsOk h' (⇑s+1) (MT (⇑s+1) a.names [])->
  Q (newEnv a ⇑s d (MT (⇑s+1) a.names f) g h code (fI env) c) (s>>>h')):pw M A (newFunctionEnv a d f [] g h code (fI env) c) Q E s:=by
 show Z2 (wpAny_alloc (Z2 (wpAny_layCells _ (λname kind i=>by lia) _ _ _ _ ?_)));let ok:=cellsFrom_ok a.names (s.heap.push {cls:= .type "dict",data:= .dict #[]}) (⇑s+1) [] %[λ_ _ l=>(nomatch l)|QU] ∅;rw[Zq]at ok;rw[Zq ..];show Z2 (Z3 (Z3 (j _ ((su.Ns.new s.heap _).keeps (XX _ _)) (λb u e=>XX _ _ b u (Z7 _ e)) ok)))
def tP{X:Cx}{a:R3}(S:aA X a N' aR)(hc:X.calm=gb)(hi:PI X tg iter wi)
 (hg:∀L M A,PG (cB X a N' L M A) tg g) (ht:∀L M A,PTs (cB X a N' L M A) aU tc) (he:∀L M A,PE (cB X a N' L M A) a0 te)
 (hs:∀x,O9 iter X.env x=pure x) (I:Qc X ff σ H s) (h:tO wi N'.length aR g tc te σ H Q)
 (a1:∀(D C:hW) (O:Hp) (s6:jg) (fl:Flow) (m:ZC),s6.heap.Ns C m->pH X ff O C->(∀h',q7 C s6.heap h'->Qc X ff σ O (s6>>>h'))->Q (.ref D) O->compPost (Nm X.prog X.w) X.A X.xe use QQ (.ref D) C (.ok fl) s6):
 (X⁻¹) (comprehension (.ListComp a0 [%[tg,iter,aU|0]] a pos) a X.env b3 (newList []) gi (M9 iter X.env) use) QQ X.xe s:=by
 show wpAny_comprehension_free (use:=use) rfl hs (GK (λy hy hk=>I.kindL (S.free y hy hk))) S.kind S.loc (thn (hi ff s σ H _ I h) λv s1 h1=>thn h1 λb4 l h2=>?_);let%[it,A,tn,J,H2,e,I2,T,a2,f2|R]:=h2;subst e;show MF (GN λU Y N ab=>?_);dsimp only at Y N ab ⊢;let I3:Qc X ff σ (Qa H2 ⇑l (.lst [])) {l with heap:=l.heap.push {cls:= .type "list",data:= .seq ([]:ZF).toArray}}:=I2.lnew (its:=[]) (t':=l.toks) .nil (Xg _);let hD:H2 ⇑l=fD:=I2.fresh;let aj:∀b>A,b<⇑l:=λb j=>by let%[o,ho|_]:=T.obj 0 _ a2 b j;show Zu ho
 generalize an:({l with heap:=l.heap.push {cls:= .type "list",data:= .seq ([]:ZF).toArray}}:jg)=B at I3
 let G:B.heap=l.heap.push {cls:= .type "list",data:= .seq ([]:ZF).toArray}:=by rw[<-an]
 let a3:⇑B=⇑l+1:=by rw[G,Zq]
 let f3:∀b>A,pH X ff (Qa H2 ⇑l (.lst [])) b:=λb j=>%[(ar (Zs (aj b j)))▸(f2 b j).1|(f2 b j).2]
 let%[W,%[m0|w0]|a4]:=R _ hD;let ae:∀b u,B.heap.get? b>=u->U.get? b>=u:=G▸N;let I4:Qc (cB X a N' B (Qa H2 ⇑l (.lst [])) A) [] (tN N'.length aR σ) (Qa H2 ⇑l (.lst [])) {B with heap:=U,toks:=B.toks}:=I3.block S f3 (λb j=>a3▸Yl (aj b j)) (G▸Y) ae (G▸ab);let a5:tn 0 U:=T.keep _ _ _ a2 λb j o e=>ae b o (G▸Z7 _ e)
 let b5:(cB X a N' B (Qa H2 ⇑l (.lst [])) A).env=compEnvC a _ ⇑B X.env:=rfl;let ag:∀{H':Hp},(∀b>A,H' b=fD)->∀b>A,pH _ [] H' b:=λhn b j=>
  %[hn b j,(I4.ok.exf b j).1,I4.ok.exfs b j,.inl j,(I4.ok.exf b j).2|λp hp=>lr (show p>([]:ZE)from hp) ∅]
 let al:Pw (Nm X.prog X.w) X.A (.compLoop (.ListComp a0 [%[tg,iter,aU|0]] a pos) 0 (.ref it) (.ref ⇑l) (cB X a N' B (Qa H2 ⇑l (.lst [])) A).env)
  (compPost (Nm X.prog X.w) X.A X.xe use QQ (.ref ⇑l) ⇑B) {B with heap:=U,toks:=B.toks}:=by
  show codeAny_loop rfl (λn s'=>∃i ys a6 H',Qc _ [] a6 H' s'/\tn i s'.heap/\(∀b>A,H' b=fD)/\W i n ys a6 H') ?_ m0 %[0,[],_,_,I4,a5,λb j=>(f3 b j).1|w0];intro n s5 %[i,ys,ai,O,I5,a7,bb|w5];change pw _ X.A _ _ _ s5;show wpAny_noted ?_;rw[compTurn_list];show Z2 (QL (Z2 ?_));rcases a4 i n ys ai O w5 with⟨stop,q⟩|⟨go,step⟩
  .show thn (T.done (cB X a N' B (Qa H2 ⇑l (.lst [])) A) rfl rfl rfl hc i [] s5 ai O _ I5 (ag bb) a7 stop) λr s6 ⟨hr,I6⟩=>?_
   subst hr;show Z3 ?_;let%[m6,bf|_]:=I6.loc;show a1 ⇑l ⇑B O s6 _ m6 bf (I2.fpOk (a3▸Ye _) I6.free) (λh' sb=>?_) q;let u6:Un (frs X.stack) A (Qa H2 ⇑l (.lst [])) O B.heap s6.heap:=I6.base;let aq:∀b u,B.heap.get? b>=u->b≠⇑B:=λb u e=>Zs (Zu e)
   let u7:Un (frs X.stack) A (Qa H2 ⇑l (.lst [])) O B.heap h':=%[λb u e n j hx=>(sb.2 b (aq b u e)).trans (u6.keep b u e n j hx),λb u e n j hx=>by
    let%[sl|q]:=u6.slot b u e n j hx;show%[sl|(sb.2 b (aq b u e)).trans q],u6.free,λb u e hx=>by
    let%[o'|q]:=u6.there b u e hx;show%[o'|(sb.2 b (aq b u e)).trans q],u6.tups,u6.frzs|u6.tbls]
   let bl:HOk X.prog X.w O h':=λb u e=>by
    let bc:∀c w,O c>=w->c≠⇑B:=λc w q z=>by
     let:O ⇑B=fD:=I6.free;rw[z,this]at q;cases q
    show(I6.hok b u e).stay (λc w bm q=>(sb.2 c ?_).trans q) (λ_ q=>q) λ_ _ q=>q
    rcases bm with z|z
    .show z▸bc b u e
    .show bc c _ z
   show I2.call' (s':=(s6>>>h')) (ch:=A) (by change s6.os=l.os;rw[I6.os,<-an];rfl) ((Un.laid (λb u e=>G▸Z7 _ e) (Zi _) hD).trans u7) bl I6.bare λb j=>%[(f2 b j).2.2.2.1,(f2 b j).2.1,(f2 b j).2.2.2.2.1|(f2 b j).2.2.2.2.2]
  .show thn (T.item (cB X a N' B (Qa H2 ⇑l (.lst [])) A) rfl rfl rfl hc i [] s5 ai O _ I5 (ag bb) a7 go) λr s6 ⟨u,hr,h6⟩=>?_
   subst hr;show Z2 (thn h6 λ_ s7 ⟨x,H7,I7,r7,y7,as,bn⟩=>?_);let ac:∀{α:Type} {t:Sem α} {Q1:α->jg->Prop} {E2:ZD} {s':jg},(X⁻¹) t Q1 (λ_ _=>yc) s'->(X⁻¹) t Q1 E2 s':=λh=>ME h (λ_ _ q=>q) λ_ _ f=>f.elim
   let kW:∀{E:St} {H8:Hp} {s8:jg},Qc (cB X a N' B (Qa H2 ⇑l (.lst [])) A) ([] ++uW A s7.heap) E H8 s8->
    Qc _ [] E H8 s8/\tn (i+1) s8.heap/\∀b>A,H8 b=fD:=λ{E H8 s8} I8=>by
    show%[I8.unpinned,T.keep _ _ _ as λb j o e=>(I8.pin (b,o) (Yt _ (Yt _ (gA j e)))).1|λb j=>?_];let%[o,e|d]:=T.obj _ _ as b j;show(I8.pin (b,o) (Yt _ (Yt _ (gA j e)))).2.1
   show Z2 (ac (thn (hg B _ A _ s7 ai H7 x u _ (I7.pinned (ag bn) (T.obj _ _ as)) r7 (step x H7 y7)) λ_ s8 ⟨E,H8,I8,q8⟩=>Z2 (ac (thT (ht B _ A _ s8 E H8 _ I8 q8) λb s9 H9 I9 q9=>?_))));cases b with
   | false=>
     let%[m',hm|w9]:=(q9)
     let%[J1,J2|J3]:=kW I9;show Z3 %[rfl,m',hm,i+1,ys,E,H9,J1,J2,J3|w9]
   | true=>
     let q9:=(q9:te E H9 λy O=>∃zs m',O ⇑l<*zs/\zs\5<iv/\m'<n/\W (i+1) m' (ys++[y]) E _)
     show Z2 (Z2 (ac (thP (he B _ A _ s9 E H9 _ I9 q9) λu2 bp y bd bt bU ⟨zs,m',hz,hl,hm,b0⟩=>Z2 (ac (thP (tJ _ bp E bd (.ref ⇑l) [y] (.ref ⇑l) [u2] (λv H'=>v= .non/\H'=Qa bd ⇑l (.lst (zs++[y]))) bt rfl (.cons bU .nil) %[_,hz,hl,rfl|rfl]) λu3 b6 v3 b7 b1 b9 ⟨ca,b2⟩=>?_)))));subst b2;let%[J1,J2|J3]:=kW b1;show Z3 (Z3 %[rfl,m',hm,i+1,ys++[y],E,_,J1,J2,J3|b0])
 subst an;show(codeAny_compStart_list al (T.self _ 0 _ _ _ a5 al))
def GO{X:Cx}(S:aA X a e f)(l:X.calm=gb)(hi:PI X tg iter n)
 (o:∀b c d,PG (cB X a e b c d) tg g) (p:∀b c d,PTs (cB X a e b c d) i r) (u:∀b c d,PE (cB X a e b c d) j v)
 (w:∀x,O9 iter X.env x=pure x):
 PE X (.ListComp j [%[tg,iter,i|0]] a pos) (tO n e.length f g r v):=by
 intro ff s B H Q I h;show tP S l hi o p u w I h λD C y E G m z _ k q=>%[m,z|λh' A=>%[.ref D,y,k h' A,rfl|q]]
abbrev Its(z:jz):It:=⟨λi _=>i<z.cps.size,λi H x a=>a=H/\∃c,z.cps[i]?>=c/\x= .str ⟨#[c]⟩,λi _=>z.cps.size<=i⟩
def zg{P:mu}{K:ZA}(it:hW)(z:jz)(t:Tok):sE P w K tg (Its z) [it] it (λi h=>h.IsStrIter it "str_ascii_iterator" z t i) where
 mem:=by simp
 obj:=λi h st b hb=>by
  let e:=↑hb
  subst e;let%[o,e,c|d]:=st;show%[o,e|λv z=>by lia]
 keep:=λi h h' st k=>by
  let%[o,e|r]:=st;show%[o,k it ∅ o e|r]
 item:=by
  intro X hP hw hK hc i ff s σ H E I hf st hg;let hlt:i<z.cps.size:=hg;let%[f0,f1,f2,f3,f4|f5]:=hf it ∅;show wpAny_pyNext_ascii_item st (c:=z.cps[i]) ∅ λh' st' sb=>?_
  let%[o,e,c|d]:=id st';show%[_,ρ|wE e c d (!1) %[.str _,H,(I.turned (λb o hb e=>(sb.2 b hb).trans e) f0 f1 f3 f4 f5),%[_|ρ],%[ρ,_,by simp|ρ],st'|λb hb=>(hf b hb).1]]
 done:=by
  intro X hP hw hK hc i ff s σ H E I hf st hg;let hle:z.cps.size<=i:=hg;let%[f0,f1,f2,f3,f4|f5]:=hf it ∅;show wpAny_pyNext_ascii_end (I.ok.hd hc) st (by simp[hle]) λh' eb=>%[rfl|I.turned (λb o hb e=>eb b o hb e) f0 f1 f3 f4 f5]
 self:=λ_ _ _ _ _ st h=>wpAny_pyIter_striter_ascii st h
def BS{P:mu}{K:ZA}(it:hW)(z:jz)(t:Tok):sE P w K tg (Its z) [it] it (λi h=>h.IsStrIter it "str_iterator" z t i) where
 mem:=by simp
 obj:=λi h st b hb=>by
  let e:=↑hb
  subst e;let%[o,e,c|d]:=st;show%[o,e|λv z=>by rw[d]at z;cases z]
 keep:=λi h h' st k=>by
  let%[o,e|r]:=st;show%[o,k it ∅ o e|r]
 item:=by
  intro X hP hw hK hc i ff s σ H E I hf st hg;let hlt:i<z.cps.size:=hg;let%[f0,f1,f2,f3,f4|f5]:=hf it ∅;show wpAny_pyNext_wide_item st (c:=z.cps[i]) ∅ λh' st' sb=>?_
  let%[o,e,c|d]:=id st';show%[_,ρ|wE e c d (!1) %[.str _,H,(I.turned (λb o hb e=>(sb.2 b hb).trans e) f0 f1 f3 f4 f5),%[_|ρ],%[ρ,_,by simp|ρ],st'|λb hb=>(hf b hb).1]]
 done:=by
  intro X hP hw hK hc i ff s σ H E I hf st hg;let hle:z.cps.size<=i:=hg;let%[f0,f1,f2,f3,f4|f5]:=hf it ∅;show wpAny_pyNext_wide_end (I.ok.hd hc) st (by simp[hle]) λh' eb=>%[rfl|I.turned (λb o hb e=>eb b o hb e) f0 f1 f3 f4 f5]
 self:=λ_ _ _ _ _ st h=>wpAny_pyIter_striter_wide st h
abbrev CK(D:hW)(n i:gf)(Pv:gf->fx V->St->Hp->Prop)(ys:fx V)(b:St)(y:V)(H:Hp):Prop:=
 ∃zs a,H D<*zs/\zs\5<iv/\a<n-i/\(a=n-(i+1)/\i+1<=n/\Pv (i+1) (ys++[y]) b (Qa H D (.lst (zs++[y]))))
abbrev CN(n i:gf)(Pv:gf->fx V->St->Hp->Prop)(ys:fx V)(b:St)(H:Hp):Prop:=∃a,a<n-i/\(a=n-(i+1)/\i+1<=n/\Pv (i+1) ys b H)
def CK.mk{Pv:gf->fx V->St->Hp->Prop}(hi:i<n)(a:H D<*zs)(b:zs\5<iv)(p:Pv (i+1) (ys++[y]) c (Qa H D (.lst (zs++[y])))):CK D n i Pv ys c y H:=
 %[zs,n-(i+1),a,b,!_,rfl,hi|p]
def CN.mk{Pv:gf->fx V->St->Hp->Prop}(hi:i<n)(p:Pv (i+1) ys a H):CN n i Pv ys a H:=%[n-(i+1),!_,rfl,hi|p]
def b8{J:It}{g:TG}{v:TT}{w:TE}{z:Hp->Prop}(Pv:gf->fx V->St->Hp->Prop)(A:Pv 0 [] c H)(s:∀i ys c H,i<n->Pv i ys c H->J.go i H)(d:∀ys c H,Pv n ys c H->J.stop n H)
 (B:∀i ys c H,i<n->Pv i ys c H->∀x f,J.yld i H x f->g x c f λa u=>v a u λb h=>if b=gb then w a h λy r=>CK D n i Pv ys a y r else CN n i Pv ys a h) (C:∀ys c H,Pv n ys c H->z H):
 ∃W:gf->gf->fx V->St->Hp->Prop,(∃m,W 0 m [] c H)/\∀i m ys j l,W i m ys j l->(J.stop i l/\z l)\/
  (J.go i l/\∀x f,J.yld i l x f->g x j f λa u=>v a u λb h=>if b=gb then w a h λy r=>∃zs o,r D<*zs/\zs\5<iv/\o<m/\W (i+1) o (ys++[y]) a (Qa r D (.lst (zs++[y])))
   else∃o,o<m/\W (i+1) o ys a h):=by
 show%[λi m ys c H=>m=n-i/\i<=n/\Pv i ys c H,%[n,by simp,Xg _|A]|?_];intro i m ys c H %[rfl,hi|p];by_cases q:i<n
 .show .inr %[s i ys c H q p|λx f y=>B i ys c H q p x f y]
 .let e:i=n:=by lia
  subst e;show .inl %[d ys c H p|C ys c H p]
def vf:∀{bs:fx on} {us:ZF} {i:gf} {v:hV},aQ (bs.map V.bl) us->us[i]?>=v->∃b,bs[i]?>=b/\v= .bool b
 |[],_,_,_,r,e=>by cases r;simp at e
 | b::bs,_,i,v,r,e=>by
   cases r with
   | cons a c=>
     cases(a);cases i with
     | zero=>simp at e;show%[b,ρ|e.symm]
     | succ i=>
       let%[d,f|g]:=vf c (e);show%[d,f|g]
def qu(bs:fx on):(kj bs.length).all (λi=>bs.getD i gi)=bs.all id:=by
 let e:(kj bs.length).map (λi=>bs.getD i gi)=bs:=by
  apply PH
  .simp
  .intro i a b
   simp_all
 let:(kj bs.length).all (λi=>bs.getD i gi)=((kj bs.length).map λi=>bs.getD i gi).all id:=by rw[WZ];rfl
 rw[this,e]
def DI{X:Cx}(m:X.calm=gb):cH X (.builtin "all") (λxs H Q=>cP xs λg=>asR g λp=>∃(bs:fx on),Qb X.K H p (bs.map V.bl)/\Q (.bl (bs.all id)) H):=by
 intro ff s E H xs us Q I r h;let%[g,rfl|d]:=bJ h;let%[p,rfl|f]:=aT d;let%[bs,n|q]:=f;let%[u,rfl|w]:=dq r;cases w;let%[its,j,pl|G]:=I.list n;let y:X.A.in1.handled=fD:=I.ok.hd m;let a:bs\5=its.toArray.size:=by rw[Zp,<-j.length,Z6]
 show call_all_walk (Od pl.isList %[⇑s,[⇑s,p],[⇑s],its.toArray.size,_,_,λi=>bs.getD i gi,rfl,Rz y _ p (Zs (by let%[o,z|_]:=pl.isList;show Zu z)) its.toArray,%[%[_,Zj _ rfl,rfl|rfl]|pl.isList.push _],?_|?_])
 .intro i v s' A J B c;let%[b,l|rfl]:=vf j ↑B;let e:bs.getD i gi=b:=!2
  let c:A (bs.getD i gi) s':=c;rw[e]at c;show MR c
 .intro h' tk C;rw[<-a,qu];show%[.bl _,H,I.kept λb o e=>C b o ?_ (Z7 _ e),ρ|q];let:=Zu e;intro l;show lr (Xp l) (Zs this)
abbrev Jz:V->ij md->ij md->Hp->VK->Prop:=λx lo hi H Q=>asS x λz=>z\5<=iv/\Q (.str (Txt.slice z lo hi)) H
def JA{X:Cx}:SlR X Jz:=by
 intro ff s m H x v n o lo hi p Q I f a pl d h;let%[z,rfl|b]:=d6 h;let%[g|q]:=b;let%[t|rfl]:=f;show%["str",_,F.slot_str_getitem.lookup,Oi _ _ _|?_];let fin:∀l u,(Txt.slice z l u)\5<=iv:=λl u=>lx (Txt.slice_le z _ _) g
 cases pl with
 | none=>
   cases d with
   | none=>show ON (l:=fD) (u:=fD) (st:=fD) a rfl (Ru %[fin _ _|λt' k=>%[.str (Txt.slice z _ _),H,I.tok k,%[_|rfl]|q]])
   | int j c=>show ON (l:=fD) (u:=fI (j,c)) (st:=fD) a rfl (Ru %[fin _ _|λt' k=>%[.str (Txt.slice z _ _),H,I.tok k,%[_|rfl]|q]])
 | int i e=>
   cases d with
   | none=>show ON (l:=fI (i,e)) (u:=fD) (st:=fD) a rfl (Ru %[fin _ _|λt' k=>%[.str (Txt.slice z _ _),H,I.tok k,%[_|rfl]|q]])
   | int j c=>show ON (l:=fI (i,e)) (u:=fI (j,c)) (st:=fD) a rfl (Ru %[fin _ _|λt' k=>%[.str (Txt.slice z _ _),H,I.tok k,%[_|rfl]|q]])
def jf:∀{ss:ZB} {us:ZF},aQ (ss\3) us->M4 us ss
 |[],_,r=>by cases r;show .nil
 | x::ss,_,r=>by
   cases r with
   | cons a b=>
     let%[t|e]:=a;subst e;show .cons x t (jf b)
abbrev At(K:ZA):V->fx V->Hp->VK->Prop:=λx vs H Q=>asS x λz=>cP vs λa=>asR a λl=>∃ss,Qb K H l (ss\3)/\(ss.map (·.length)).sum+ss\5* ~~~z<=16777216/\Q (.str (Txt.join z ss)) H
def GP{X:Cx}:MtM X "str.join" (At X.K):=by
 intro ff s i H x vs v us Q I d e h;let%[z,rfl|a]:=d6 h;let%[j,rfl|b]:=bJ a;let%[l,rfl|c]:=aT b;let%[ss,f,hw|q]:=c;let%[t|rfl]:=d;let%[u,rfl|g]:=e.one;cases g;let%[its,r,pl|m]:=I.list f;show YB pl.isList (jf r) hw λt' k=>%[.str _,H,I.tok k,%[_|rfl]|q]
def DJ{X:Cx}:cH X (.builtin "isinstance") (λxs H Q=>∃x n t b,xs=[x,.ty n]/\kP X.K H x t/\Pk X.K t (.type n)>=b/\Q (.bl b) H):=by
 intro ff s d H xs us Q I r h;let%[x,n,t,b,rfl,ty,e|q]:=h;let%[u,f,rfl,c|a]:=iP r;cases(a);show BG I c ty e λtk=>%[.bl b,H,I.tok tk,rfl|q]
def tQ(z:jz)(c i:gf):TQ z ⟨#[c]⟩ i=decide (z.cps[i]?>=c):=by
 unfold TQ;let b:(⟨#[c]⟩:jz)\5=1:=rfl;rw[b];by_cases hi:i<z.cps.size
 .let e:z.cps.extract i (i+1)= #[z.cps[i]]:=by
   apply YN
   .simp;lia
   .intro j d a;simp at a;subst a;simp
  rw[e,xl hi];by_cases f:z.cps[i]=c
  .subst f;simp
  simp_all
 .let e:z.cps.extract i (i+1)= #[]:=by
   apply YN
   .simp;lia
   .intro j d a;simp at a
  rw[e,NU !_];simp
def DK(z:jz)(c:gf):(!(NF z ⟨#[c]⟩ 0 z.length 1).isEmpty)=decide (c>z.cps.toList):=by
 rcases StrLaws.occ_head z _ 1 (Zi _)with⟨e,d⟩|⟨i,r,e,f,_⟩
 .rw[e];show(Zh λg=>?_).symm;let%[j,h|l]:=fx.mem_iff_getElem.mp g;let a:=↑h
  show d j %[?_|?_]
  .change j+1<=z.cps.size;lia
  .rw[tQ];show Zf (by rw[xl a];simpa using l)
 .rw[e];show(Zf ?_).symm;let b:=f.2;rw[tQ]at b;let:=OV (Zo b);simpa using this
section
variable{X:Cx}
nonrec abbrev HU:R2:=λx y H Q=>asS x λi=>asS y λj=>i\5+j\5<=iv/\Q (.str (i++j)) H
nonrec abbrev JB:R2:=rEq
def JC:OpR X (oT .Eq) JB:=HM
nonrec abbrev JD:R2:=rNe
def JE:OpR X (oT .NotEq) JD:=HN
nonrec abbrev Lu:R2:=λx y H Q=>asS x λi=>asS y λj=>Q (.bl (!(NF j i 0 j.length 1).isEmpty)) H
end
abbrev ba(c:R3)(N:ZB)(a:R3)(d:ZB)(b:fx (gf×gf)):on:=
 decide (a.kind= .function)&&a.names.all (λy=>(decide (y.2≠ .cell)||decide (a.names.lookup y.1>=.cell))&&(decide (y.2≠ .local)||decide (a.names.lookup y.1>=.local))&&(decide (y.2≠ .free)||decide (c.names.lookup y.1>=.cell)||decide (c.names.lookup y.1>=.free)))&&
  b.all λp=>match d[p.1]? with
   | some x=>decide (N[p.2]?>=x)&&decide (a.names.lookup x>=.free)
   | none=>gi
def aA.of{X:Cx}(h:ba X.env.scope X.N a g c=gb):aA X a g c:=by
 unfold ba at h;rw[Zv,Zv,N3,N3]at h;let%[%[i|d]|j]:=h;show%[Zo i,λy b f=>?_,λy b f=>?_,λy b l=>?_|λp m=>?_]
 .let:=d y b;simp only[Zv,Ui,xr]at this;show this.1.1.resolve_left λq=>q f
 .let:=d y b;simp only[Zv,Ui,xr]at this;show this.1.2.resolve_left λq=>q f
 .let:=d y b;simp only[Zv,Ui,xr]at this;rcases this.2 with(q|q)|q
  .show lr l q
  .show .inl q
  .show .inr q
 .let:=j p m;cases e:g[p.1]? with
  | none=>simp_all
  | some x=>
    rw[e]at this;simp only[Zv,xr]at this;show%[x,ρ,this.1|this.2]
structure Gv (mg:ZC) (x:jz) (v:V):Prop where
 ex:∃u,mg x>=u/\aY v u
def HV{X:Cx}(g:Gv X.mg x v)(a:Gl X x)(b:(x==("__debug__":jz))=gi):PE X (.Name x pos) (tC v):=by
 let%[u,h|r]:=g.ex;show F0 a h r b
structure Cal (P:mu) (w:rM) (K:ZA) (mg:ZC) (base:su) (k:gf) (x:jz) (ps:ZB) (sp:Sp):Prop where
 ex:∃f fd,d8 P w K mg base CX0 k f fd ps sp/\mg x>=.ref f/\OJ K (.ref f)=gb/\d9 K fd ps []
structure aK (K:ZA) (mg:ZC) (x:jz) (st:v0) (ps:ZB):Prop where
 ex:∃f fd,Fun K x x st f fd/\mg x>=.ref f/\d9 K fd ps []
def aK.cal{P:mu}{K:ZA}{st:v0}(D:aK K mg x st ps)(S:aw N ps (ap st))
 (a:∀(H:Hp) (vs:fx V) (Q:VK) (E:XK),sp vs H Q E->vs\5=ps\5/\∀(f:hW) (b:hV) (A:ri) (outer:fx Env) (s:jg),bW k (A.deeper (Ng x (ap st) ⇑s f b))->
  ∃t,PSs (gB CX0 P w K mg base N x (ap st) f b A outer s H E).nox (bX st) t/\t {nx:=λ_ c=>Q .non c,rt:=Q} (start N vs) H):Cal P w K mg base (k+1) x ps sp:=by
 let%[f,d,F,e|g]:=D.ex;show%[f,d,F.ok S (λv H Q E h=>(a H v Q E h).1) (λb A o s H v Q E r h=>(a H v Q E h).2 f b A o s r),e,F.kp|g]
def JF{X:Cx}(C:Cal X.prog X.w X.K X.mg X.base j x ps sp)(g:bW k X.A)(h:Gl X x)(i:je CX0 X E0)(l:PA X (e::a) t)(b:j<=k)
 (c:(x==("__debug__":jz))=gi) (m:q0 (e::a) X.env=(gi,M9 e X.env)::q0 a X.env) (d:(Nv pos (q0 a X.env)).any (·.1)=gi):
 PE X (.Call (.Name x p) (e::a) [] pos) (tz sp [] E0 t):=by
 let%[f,r,F,n,o|q]:=C.ex;show As F (g.mono b) h n o q .nil i l c m d
def JG{K:ZA}{h:su}{st:v0}{kV e g d ct:hV}(X:K.In h)(G:h.Ns r0 mg)
 (a:Si K r0 x>=fI (.ref f)) (l:K.lookup f=fI %[m,od,.func (Tp x x (dA st) (bX st) (ap st) .none kV e g i d ct)|j]) (c:RY K d x=gb) (k:OJ K (.ref f)=gb)
 (b:∀(kV e g:hV) (i:ZI) (d ct:hV) (us:ZF),us\5=ps\5->bindArgs (Tp x x (dA st) (bX st) (ap st) .none kV e g i d ct) %[us|[]]=pure (ps.zip us)):aK K mg x st ps:=
 %[f,_,eM l c k,Ov X G a|(eM l c k).binds b]
def Lv{K:ZA}{h:su}(X:K.In h)(G:h.Ns r0 mg)(a:Si K r0 x>=fI u)(r:aY v u):Gv mg x v:=%[u,Ov X G a|r]
def az(h:∀a:It->Hp->Prop,(∀⦃J f⦄,(∃W:gf->gf->St->Hp->Prop,(∃m,W 0 m b f)/\∀i m b H,W i m b H->
 (J.stop i H/\D.nx b H)\/(J.go i H/\∃N:St->Hp->Prop,(∀c d,N c d->∃j,j<m/\W (i+1) j c d)/\∀x d,J.yld i H x d->g x b d λe l=>n {D with nx:=N,ct:=N,bk:=D.nx} e l))->a J f)->o b H a):yT o g n D b H:=h _ λ_ _ x=>x
def aD(h:∀c:It->Hp->Prop,(∀⦃J j⦄,(∀D,j D=fD->∃W:gf->gf->fx V->St->Hp->Prop,
 (∃m,W 0 m [] (tN n l o) (Qa j D (.lst [])))/\∀i m ys d e,W i m ys d e->(J.stop i e/\Q (.ref D) e)\/
  (J.go i e/\∀x p,J.yld i e x p->g x d p λa s=>u a s λb q=>if b=gb then v a q λy r=>∃zs f,r D<*zs/\zs\5<iv/\f<m/\W (i+1) f (ys++[y]) a (Qa r D (.lst (zs++[y])))
   else∃f,f<m/\W (i+1) f ys a q))->c J j)->w o H c):tO w n l g u v o H Q:=h _ λ_ _ x=>x
section
variable{X:Cx}{K:ZA}
def BT(h:X.K=K):cH X (.builtin "len") (λxs H Q=>cP xs λx=>∃n,Gk K x H n/\Q (.int n) H):=by subst h;show Dh
def BU(h:X.K=K)(a:X.calm=gb):cH X (.builtin "all") (λxs H Q=>cP xs λb=>asR b λp=>∃(bs:fx on),Qb K H p (bs.map V.bl)/\Q (.bl (bs.all id)) H):=by subst h;show DI a
def BV(h:X.K=K):cH X (.builtin "isinstance") (λxs H Q=>∃x n t b,xs=[x,.ty n]/\kP K H x t/\Pk K t (.type n)>=b/\Q (.bl b) H):=by subst h;show DJ
def zh(h:X.K=K):cH X (.type "list") (λxs H Q=>cP xs λa=>asR a λp=>∃ys,(Qb K H p ys\/SqT K H p ys)/\∀l,H l=fD->Q (.ref l) (Qa H l (.lst ys))):=by subst h;show va
def DL(h:X.K=K):MtR X "str.join" (At K):=by subst h;show GP
def BW(h:X.K=K)(d:PE X a e)(f:∀b,RV a X.env b=(do let v<-b;Oy a.pos;O7 [v] (Tl v))):PT X a (λg H Q=>e g H λx c=>∃k,BA K x c k/\Q k c):=by subst h;show Dg d f
variable{o e:tI}{es:fx tI}{to:TE}{t:TA}{name:jz}{apos cpos:Pos}{T id:MX}{r:V->fx V->Hp->VK->Prop}
def GQ(h:X.K=K)(d:Pp T)(slot:Slot T name id)(c:Qe (.builtin id)=pure (.type "method_descriptor"))(f:MtR X id r)(g:PE X o to)
 (a:NB o name X.env (M9 o X.env)=M9 o X.env) (b:(apos.endLine==cpos.line)=gb):PE X (.Call (.Attribute o name apos) [] [] cpos) (GA K T r to):=by
 subst h;show Ju d slot c f g a b
def DM(h:X.K=K)(g:Pp T)(slot:Slot T name id)(f:Qe (.builtin id)=pure (.type "method_descriptor"))(i:MtR X id r)(j:PE X o to)(l:PA X (e::es) t)
 (b:NB o name X.env (M9 o X.env)=M9 o X.env)
 (d:((Nv cpos (q0 (e::es) X.env)).all (λx=>!x.1)&&(Qj cpos (Ol [] X.env)).all (λx=>x.1.isSome)
  && decide ((e::es)\5+([]:fx Pc)\5+(if([]:fx Pc).isEmpty then 0 else 1)<30))=gb)
 (c:(apos.endLine==cpos.line)=gb) (m:q0 (e::es) X.env=(gi,M9 e X.env)::q0 es X.env) (a:(Nv cpos (q0 es X.env)).any (·.1)=gi):
 PE X (.Call (.Attribute o name apos) (e::es) [] cpos) (tBM K T r to t):=by
 subst h;show Lp g slot f i j l b d c m a
end
section
variable{X:Cx}{ff:ZE}{σ:St}{H:Hp}{s s':jg}{h':su}{tk:gf}{fp:fx hW}
def Qc.moved(I:Qc X ff σ H s)(c:∀b>fp,pH X ff H b)(d:∀b o,b∉fp->s.heap.get? b>=o->h'.get? b>=o):Qc X ff σ H {s with heap:=h',toks:=tk}:=by
 let f:∀b v,H b>=v->b∉fp:=λb v e a=>by rw[(c b a).1]at e;cases e
 show I.step (λb a=>%[(c b a).2.2.2.1,(c b a).2.1,(c b a).2.2.2.2.1|(c b a).2.2.2.2.2]) (λb o _ _ g e _=>d b o g e) (λb o _ _ g e _=>%[o.slots|d b o g e]) (λ_ _ _ _ n=>n)
  (λb o g e=>%[o|d b o g e]) (λ_ _ e=>e) (λ_ _ _ e=>e) (λb ps e=>%[#[]|by rw[e];simp]) (λm l=>?_) (λb v e=>?_) I.bare
 .let%[o,p,u,w|r]:=l;show%[o,p,u,d _ o (λa=>(c _ a).2.1 rfl) w|r]
 .show(I.hok b v e).stay (λj y h q=>d j y ?_ q) (λ_ q=>q) λ_ _ q=>q
  rcases h with i|i
  .show i▸f b v e
  .show f j _ i
def Qc.stood3(I:Qc X c y B s)(g:∀p>ff,p>c)(J:Qc X ff σ H s')(d:H a=fD)(C:s.heap.get? a=fD)(new:ci X.prog X.w (Qa H a o) s'.heap a o):Qc X ff σ (Qa H a o) s':=by
 let ne:∀{b:hW} {o:NV},s.heap.get? b>=o->b≠a:=λe z=>by lia
 show%[J.ok,J.os,J.bare,?_,J.loc,J.cell,?_,?_,?_,?_|J.len]
 .show%[J.base.keep,J.base.slot,λb o e n j=>?_,J.base.there,λb xs e=>?_,λb o v e=>?_|λb ps e=>?_]
  .let%[E|A]:=I.base.there b o e j;rw[ar (ne A)];show J.base.free b o e n j
  .rw[ar (aC (J.base.tups b xs e) d)];show J.base.tups b xs e
  .rw[ar (aC (J.base.frzs b o v e) d)];show J.base.frzs b o v e
  .let%[m|q]:=J.base.tbls b ps e;show%[m|(ar (aC q d))▸q]
 .let%[m,%[G,_,_,h|_]|_]:=I.loc;rw[ar (ne h)];show J.free
 .intro l f e;let%[L,M,i|_]:=I.cell l f e;rw[ar (ne i)];show J.freeC l f e
 .intro p u;let%[e,n|r]:=J.pin p u;show%[e,?_|r];let:=(I.pin p ((Xo u).elim (λz=>Ys _ z) λz=>Yt _ (g p z))).1;rw[ar (ne this)];show n
 .intro b v e;by_cases w:b=a
  .subst w;rw[aa]at e;cases e;show new
  .rw[ar w]at e;show(J.hok b v e).stay (λ_ _ _ q=>q) (λf q=>?_) λf xs q=>?_
   .rw[ar (aC q d)];show q
   .rw[ar (aC q d)];show q
def Qc.stood2(I:Qc X ff σ d s)(J:Qc X ff σ H s')(b:H a=fD)(c:⇑s<=a)(new:ci X.prog X.w (Qa H a o) s'.heap a o):Qc X ff σ (Qa H a o) s':=
 I.stood3 (λ_ h=>h) J b (by
  cases e:s.heap.get? a with
  | none=>rfl
  | some o=>show lr (Zu e) (gf.not_lt.mpr c)) new
def Qc.stoodS(I:Qc X ff σ H s)(J:Qc X ff σ H s')(b:⇑s<=a)(new:ci X.prog X.w (Qa H a o) s'.heap a o):Qc X ff σ (Qa H a o) s':=I.stood2 J (I.hok.fresh b) b new
def Qc.stood(I:Qc X ff σ H s)(J:Qc X ff σ H {s with heap:=h',toks:=tk})(b:⇑s<=a)(new:ci X.prog X.w (Qa H a o) h' a o):Qc X ff σ (Qa H a o) {s with heap:=h',toks:=tk}:=I.stoodS J b new
end
structure zi (z TI TO i1 i2:hW):Prop where
 TIz:TI≠z
 TOz:TO≠z
 i1z:i1≠z
 i2z:i2≠z
 TITO:TI≠TO
 TIi1:TI≠i1
 TIi2:TI≠i2
 TOi1:TO≠i1
 TOi2:TO≠i2
 i12:i1≠i2
section
#where
variable{z TI TO i1 i2:hW}{fp1 fp2:fx hW}{n1 n2 i:gf}{P1 P2:gf->hV->Prop}{St1 St2:gf->su->Prop}
def DN{Q:ZD}(D1:V9 prog w A i1 fp1 n1 P1 St1)(D2:V9 prog w A i2 fp2 n2 P2 St2)(D:zi z TI TO i1 i2)(T:∀b>fp1,b≠z/\b≠TO/\b≠i2)(m2:∀b>fp2,b≠z/\b≠TO/\b≠i1)
 (U:Ta s.heap z TI TO .none) (ae:Pq s.heap TI (.ref i1) (.ref i2)) (ag:Pq s.heap TO a b) (h1:St1 i s.heap) (h2:St2 i s.heap) (l1:i<n1) (l2:i<n2)
 (hQ:∀x y h' tk,P1 i x->P2 i y->Ta h' z TI TO (M6 ⇑s)->Pq h' TO x y->St1 (i+1) h'->St2 (i+1) h'->Pq h' ⇑s x y->
  (∀c o,c≠z->c≠TO->c≠i1->c≠i2->s.heap.get? c>=o->h'.get? c>=o)->Q (.ref ⇑s) {s with heap:=h',toks:=tk}):
 ↥A (m4.«zip.__next__» %[[.ref z]|[]]) (λfin s'=>∃v,fin= .done (.ret v)/\Q v s') E s:=by
 let r:∀{k h h' c},(∀b>fp1,b≠c)->q7 c h h'->St1 k h->St1 k h':=λhc sb st=>D1.frame _ _ _ st λb d o e=>(sb.2 b (hc b d)).trans e
 let u:∀{k h h' c},(∀b>fp2,b≠c)->q7 c h h'->St2 k h->St2 k h':=λhc sb st=>D2.frame _ _ _ st λb d o e=>(sb.2 b (hc b d)).trans e
 change pw _ _ (field (.ref z) 2>>= _) _ _ _;show Z2 (Nn U rfl (x:= .bool gi) rfl ?_);change pw _ _ (field (.ref z) 3>>= _) _ _ _;show Z2 (Nn U rfl (x:= .ref TI) rfl (Z2 (M8 ae rfl ?_)));change pw _ _ (Nb (.ref z)>>= _) _ _ _;show Z2 ?_;unfold Nb;show Z2 (Nn U rfl (x:= .none) rfl (Z3 ?_));simp only[Qy];show Z2 (N4 (Z2 (Nn U rfl (x:= .ref TO) rfl (Z2 (vr U ∅ λg1 M n=>?_)))));replace M:Ta g1 z TI TO .ellipsis:=M;show Z2 ?_;simp only[Sw,V7,SE,Wo];show Z2 (Z2 (Ss ?_));change pw _ _ (NR (.ref i1)>>= _) _ _ _;show Z2 (D1.item i _ _ _ l1 (r (λb d=>(T b d).1) n h1) λx g2 ai px aj f=>Z3 ?_);replace f:q7 i1 g1 g2:=f;let I:Pq g2 TO a b:=(f.2 _ D.TOi1).trans ((n.2 _ D.TOz).trans ag);show Z2 (M8 I rfl (Z2 (RJ (s:={s with heap:=g2,toks:=ai}) I λg3 p g=>?_)));replace p:Pq g3 TO x b:=p;replace g:q7 TO g2 g3:=g;show Z2 (RL (Z3 (Z2 (Z2 (Ss ?_)))));change pw _ _ (NR (.ref i2)>>= _) _ _ _;show Z2 (D2.item i _ _ _ l2 (u (λb d=>(m2 b d).2.1) g (u (λb d=>(m2 b d).2.2) f (u (λb d=>(m2 b d).1) n h2))) λy g4 B py al j=>Z3 ?_);replace j:q7 i2 g3 g4:=j;let J:Pq g4 TO x b:=(j.2 _ D.TOi2).trans p;show Z2 (M8 J rfl (Z2 (RJ (s:={s with heap:=g4,toks:=B}) J λq m l=>?_)));replace m:Pq q TO x y:=m;replace l:q7 TO g4 q:=l;show Z2 (RL (Z3 (Z3 (Z2 (M8 m rfl (Z2 (RK ?_)))))));let Y:q.objs.size=⇑s:=by rw[l.1,j.1,g.1,f.1,n.1]
 let ab:Ta q z TI TO .ellipsis:=(l.2 _ D.TOz.symm).trans ((j.2 _ D.i2z.symm).trans ((g.2 _ D.TOz.symm).trans ((f.2 _ D.i1z.symm).trans M)));let an:∀c o,c≠z->c≠TO->c≠i1->c≠i2->s.heap.get? c>=o->q.get? c>=o:=λc o N c2 c3 c4 e=>
  (l.2 c c2).trans ((j.2 c c4).trans ((g.2 c c2).trans ((f.2 c c3).trans ((n.2 c N).trans e))))
 let L:z<q.objs.size:=Zu ab;show Z2 (Z2 (vr (s:={s with heap:=q.push {cls:= .type "tuple",data:= .seq #[x,y]},toks:=B}) (Z7 _ ab) ∅ λg7 O C=>?_));replace O:Ta g7 z TI TO (M6 q.objs.size):=O;replace C:q7 z (q.push _) g7:=C;show vr (s:={s with heap:=g7,toks:=B}) O ∅ λg8 G H=>?_
 replace G:Ta g8 z TI TO (M6 q.objs.size):=G;replace H:q7 z g7 g8:=H;let up:∀c o,c≠z->q.get? c>=o->g8.get? c>=o:=λc o N e=>(H.2 c N).trans ((C.2 c N).trans (Z7 _ e))
 let ac:=(H.2 _ (Yy L)).trans ((C.2 _ (Yy L)).trans (Zj _ rfl));rw[Y]at G ac;show Z3 %[_,rfl|?_];rw[Y];show hQ x y g8 B px py G (up _ _ D.TOz m) (D1.frame _ _ _ (r (λb d=>(T b d).2.1) l (r (λb d=>(T b d).2.2) j (r (λb d=>(T b d).2.1) g aj))) λb d o e=>up b o (T b d).1 e) (D2.frame _ _ _ (u (λb d=>(m2 b d).2.1) l al) λb d o e=>up b o (m2 b d).1 e) ac λc o N c2 c3 c4 e=>up c o N (an c o N c2 c3 c4 e)
def DO(L:V9 prog w A i1 fp1 n1 P1 St1)(D2:V9 prog w A i2 fp2 n2 P2 St2)(D:zi z TI TO i1 i2)(m1:∀b>fp1,b≠z/\b≠TO/\b≠i2)(m2:∀b>fp2,b≠z/\b≠TO/\b≠i1)
 (B:Ta s.heap z TI TO .none) (M:Pq s.heap TI (.ref i1) (.ref i2)) (N:Pq s.heap TO a b) (h1:St1 i s.heap) (h2:St2 i s.heap) (l1:i<=n1) (l2:i<=n2) (ab:i=n1\/i=n2)
 (hE:∀h' e tk,(∀c o,c≠z->c≠TO->c≠i1->c≠i2->s.heap.get? c>=o->h'.get? c>=o)->(∃o,h'.get? e>=o/\o.cls= .type "StopIteration")->E (.ref e) {s with heap:=h',toks:=tk}):
 ↥A (m4.«zip.__next__» %[[.ref z]|[]]) Q E s:=by
 let O:∀{k h h' c},(∀b>fp1,b≠c)->q7 c h h'->St1 k h->St1 k h':=λT U st=>L.frame _ _ _ st λb j o e=>(U.2 b (T b j)).trans e
 let u:∀{k h h' c},(∀b>fp2,b≠c)->q7 c h h'->St2 k h->St2 k h':=λT U st=>D2.frame _ _ _ st λb j o e=>(U.2 b (T b j)).trans e
 change pw _ _ (field (.ref z) 2>>= _) _ _ _;show Z2 (Nn B rfl (x:= .bool gi) rfl ?_);change pw _ _ (field (.ref z) 3>>= _) _ _ _;show Z2 (Nn B rfl (x:= .ref TI) rfl (Z2 (M8 M rfl ?_)));change pw _ _ (Nb (.ref z)>>= _) _ _ _;show Z2 ?_;unfold Nb;show Z2 (Nn B rfl (x:= .none) rfl (Z3 ?_));simp only[Qy];show Z2 (N4 (Z2 (Nn B rfl (x:= .ref TO) rfl (Z2 (vr B ∅ λg1 n l=>?_)))));replace n:Ta g1 z TI TO .ellipsis:=n;show Z2 ?_;simp only[Sw,V7,SE,Wo];show Z2 (Z2 (Ss ?_));change pw _ _ (NR (.ref i1)>>= _) _ _ _;let C:St1 i g1:=O (λb j=>(m1 b j).1) l h1;by_cases c1:i<n1
 .let e2:i=n2:=by lia
  show Z2 (L.item i _ _ _ c1 C λx g2 v px ae d=>Z3 ?_);replace d:q7 i1 g1 g2:=d;let r:Pq g2 TO a b:=(d.2 _ D.TOi1).trans ((l.2 _ D.TOz).trans N);show Z2 (M8 r rfl (Z2 (RJ (s:={s with heap:=g2,toks:=v}) r λg3 ac f=>?_)));replace f:q7 TO g2 g3:=f;show Z2 (RL (Z3 (Z2 (Z2 (Ss ?_)))));change pw _ _ (NR (.ref i2)>>= _) _ _ _;show Z2 (D2.done _ _ _ (e2▸u (λb j=>(m2 b j).2.1) f (u (λb j=>(m2 b j).2.2) d (u (λb j=>(m2 b j).1) l h2))) λJ e p Y=>?_);replace p:ExtBut i2 g3 J:=p;let%[oe,g|m]:=Y;let G:Ta J z TI TO .ellipsis:=p _ _ D.i2z.symm ((f.2 _ D.TOz.symm).trans ((d.2 _ D.i1z.symm).trans n));let y:e≠z:=λx=>by subst x;rw[G]at g;cases g;simp at m
  show vr (s:={s with heap:=J,toks:=v}) G ∅ λg5 _ q=>?_
  replace q:q7 z J g5:=q;show hE g5 e v (λc o H d2 d3 d4 x=>(q.2 c H).trans (p c o d4 ((f.2 c d2).trans ((d.2 c d3).trans ((l.2 c H).trans x))))) %[oe,(q.2 e y).trans g|m]
 .let e1:i=n1:=by lia
  show Z2 (L.done _ _ _ (e1▸C) λg2 e d Y=>?_);replace d:ExtBut i1 g1 g2:=d;let%[oe,g|m]:=Y;let I:=d _ _ D.i1z.symm n;let y:e≠z:=λx=>by subst x;rw[I]at g;cases g;simp at m
  show vr (s:=(s>>>g2)) I ∅ λg3 _ f=>?_
  replace f:q7 z g2 g3:=f;show hE g3 e s.toks (λc o H _ d3 _ x=>(f.2 c H).trans (d c o d3 ((l.2 c H).trans x))) %[oe,(f.2 e y).trans g|m]
end
abbrev Itz(x y:jz):It:=⟨λi _=>i<x.cps.size/\i<y.cps.size,λi H v a=>∃c d T,x.cps[i]?>=c/\y.cps[i]?>=d/\H T=fD/\v= .ref T/\a=Qa H T (.tup [.str ⟨#[c]⟩,.str ⟨#[d]⟩]),
 λi _=>i<=x.cps.size/\i<=y.cps.size/\(i=x.cps.size\/i=y.cps.size)⟩
abbrev ZSt(z TI TO c d:hW)(e f:gf->su->Prop)(i:gf)(h:su):Prop:=Ta h z TI TO .none/\Pq h TI (.ref c) (.ref d)/\(∃a b,Pq h TO a b)/\e i h/\f i h
def kC(prog:mu)(w:rM)(x:jz)(t:Tok)(it:hW):∀A,A.handled=fD->
 V9 prog w A it [it] x.cps.size (λi v=>∃c u,x.cps[i]?>=c/\v= .str ⟨#[c]⟩ u) (λi h=>h.IsStrIter it (OO x) x t i):=by
 intro A a;unfold OO;cases b:x.cps.all _ with
 | true=>show V9.strAscii a it x t
 | false=>show V9.strWide a it x t
def DP{P:mu}{K:ZA}(z TI TO i1 i2:hW)(x y:jz)(t u:Tok)(D:zi z TI TO i1 i2):
 sE P w K (.Tuple elts kt tp) (Itz x y) [z,TI,TO,i1,i2] z (ZSt z TI TO i1 i2 (λi h=>h.IsStrIter i1 (OO x) x t i) (λi h=>h.IsStrIter i2 (OO y) y u i)) where
 mem:=by simp
 obj:=λi h st b hb=>by
  let%[hz,hTI,%[a,c|hTO],%[o1,e1,_|d1],o2,e2,_|d2]:=st
  grind
 keep:=λi h h' st k=>by
  let%[hz,hTI,%[a,c|hTO],%[o1,e1|r1],o2,e2|r2]:=st;show%[k z ∅ _ hz,k TI ∅ _ hTI,%[a,c|k TO ∅ _ hTO],%[o1,k i1 ∅ _ e1|r1],o2,k i2 ∅ _ e2|r2]
 item:=by
  intro X hP hw hK hc i ff s σ H E I hf st hg;subst hP hw hK;let%[hz,hTI,%[a,c|hTO],h1|h2]:=st;obtain⟨g1,g2⟩:i<x.cps.size/\i<y.cps.size:=hg;let hT:s.TypeIs (.ref z) "zip":=%[_,hz|rfl]
  let hh:X.A.in1.handled=fD:=I.ok.hd hc;unfold Pj;show Z2 (NO (Nq (name:=!"__next__") hT Rh (MA Rh hT WK
   (DN (kC _ _ x t i1 _ hh) (kC _ _ y u i2 _ hh) D (λb hb=>(show b=i1 by simpa using hb)▸%[D.i1z,wh D.TOi1|D.i12]) (λb hb=>(show b=i2 by simpa using hb)▸%[D.i2z,wh D.TOi2|wh D.i12]) hz hTI hTO h1 h2 g1 g2 λv1 v2 h' tk p1 p2 a1 a2 a3 a4 a5 hk=>Z3 ?_) (Ws _))))
  let%[c1,u1,e1|rfl]:=p1;let%[c2,u2,e2|rfl]:=p2;show%[_,ρ|UE (s:={s with heap:=h',toks:=tk}) a1 λh'' hz'' sb=>?_];replace sb:q7 z h' h'':=sb;let kk:∀b o,b∉[z,TI,TO,i1,i2]->s.heap.get? b>=o->h''.get? b>=o:=λb o hb e=>by
   simp only[Yu,X4,J5,Oj]at hb;show(sb.2 b hb.1).trans (hk b o hb.1 hb.2.2.1 hb.2.2.2.1 hb.2.2.2.2 e)
  let turn1:Qc X ff σ H {s with heap:=h'',toks:=tk}:=I.moved hf kk;let Hn:H ⇑s=fD:=I.fresh;let I2:Qc X ff σ (Qa H ⇑s (.tup [.str ⟨#[c1]⟩,.str ⟨#[c2]⟩])) {s with heap:=h'',toks:=tk}:=
   I.stood turn1 (Zi _) %[by change 2<=iv;decide,[.str _ u1,.str _ u2],.cons %[_|rfl] (.cons %[_|rfl] .nil),_,((sb.2 _ (Yy (Zu hz))).trans a5),rfl,_|rfl]
  show%[.ref ⇑s,_,I2,ρ,%[c1,c2,_,e1,e2,Hn,ρ|ρ],%[hz'',(sb.2 _ D.TIz).trans (hk _ _ D.TIz D.TITO D.TIi1 D.TIi2 hTI),%[_,_|(sb.2 _ D.TOz).trans a2],?_|?_]|λb hb=>?_]
  .let%[o,e|r]:=a3;show%[o,(sb.2 _ D.i1z).trans e|r]
  .let%[o,e|r]:=a4;show%[o,(sb.2 _ D.i2z).trans e|r]
  .let:b<⇑s:=by
    simp only[Yu,X4,J5]at hb;let%[o1,q1|_]:=h1;let%[o2,q2|_]:=h2;rcases hb with rfl|rfl|rfl|rfl|rfl
    .show Zu hz
    .show Zu hTI
    .show Zu hTO
    .show Zu q1
    .show Zu q2
   rw[ar (Zs this)];show(hf b hb).1
 done:=by
  intro X hP hw hK hc i ff s σ H E I hf st hg;let%[hz,hTI,%[a,c|hTO],h1|h2]:=st;obtain⟨g1,g2,g3⟩:i<=x.cps.size/\i<=y.cps.size/\(i=x.cps.size\/i=y.cps.size):=hg;let hT:s.TypeIs (.ref z) "zip":=%[_,hz|rfl]
  let hh:=I.ok.hd hc;show Z2 (NO (Nq hT Rh (MA Rh hT WK
   (DO (kC _ _ x t i1 _ hh) (kC _ _ y u i2 _ hh) D (λb hb=>(show b=i1 by simpa using hb)▸%[D.i1z,wh D.TOi1|D.i12]) (λb hb=>(show b=i2 by simpa using hb)▸%[D.i2z,wh D.TOi2|wh D.i12]) hz hTI hTO h1 h2 g1 g2 g3 λh' e tk hk he=>?_) (Ws _))))
  let%[o,ho|hco]:=he;show Z2 (NW %[o,ho|hco] Um (Z3 %[rfl|?_]));let kk:∀b o,b∉[z,TI,TO,i1,i2]->s.heap.get? b>=o->h'.get? b>=o:=λb o hb e=>by
   simp only[Yu,X4,J5,Oj]at hb;show hk b o hb.1 hb.2.2.1 hb.2.2.2.1 hb.2.2.2.2 e
  show I.moved hf kk
 self:=λ_ _ _ _ _ st h=>Q2 st.1 h
abbrev bu:tI->on
 | .Starred _ _=>gb
 | _=>gi
def aE(h:bu e=gi):q0 (e::a) env=(gi,M9 e env)::q0 a env:=by
 cases e<;> first|rfl|cases(show gb=gi from h)
def eO(h:bu e=gi):Om (e::a) env=(gi,assign e env)::Om a env:=by
 cases e<;> first|rfl|cases(show gb=gi from h)
def ee:∀{a:fx tI},a.any bu=gi->(Nv pos (q0 a env)).any (·.1)=gi
 |[],_=>rfl
 | e::a,h=>by
   rw[Zw,X6]at h;rw[aE h.1];let:=ee (pos:=pos) (env:=env) h.2;cases a with
   | nil=>rfl
   | cons c b=>
     simp only[Nv]at this ⊢;simpa using this
def vg:∀{a:fx tI},a.any bu=gi->(Nv pos (q0 a env)).all (λx=>!x.1)=gb
 |[],_=>rfl
 | e::a,h=>by
   rw[Zw,X6]at h;rw[aE h.1];let:=vg (pos:=pos) (env:=env) h.2;cases a with
   | nil=>rfl
   | cons c b=>
     simp only[Nv]at this ⊢;simpa using this
def lD:∀{a:fx tI},a.any bu=gi->(Om a env)\5=a\5/\(Om a env).findIdx? (·.1)=fD
 |[],_=>%[rfl|rfl]
 | e::a,h=>by
   rw[Zw,X6]at h;rw[eO h.1];let b:=lD (env:=env) h.2;show%[by rw[Zr,Zr,b.1]|?_];rw[fx.findIdx?_cons,b.2];rfl
abbrev ii:tI->on
 | .ListComp _ _ _ _=>gb
 | .SetComp _ _ _ _=>gb
 | .DictComp _ _ _ _ _=>gb
 | _=>gi
def jW(h:ii e=gi):Oo e t l env=pure gi:=by
 cases e<;> first|rfl|cases(show gb=gi from h)
abbrev DQ:tI->on
 | .Tuple _ _ _=>gb
 | _=>gi
def zj(h:DQ e=gi):Su [t] e env=pure fD:=by
 cases t with
 | Tuple _ _ _=>cases e<;> first|rfl|cases(show gb=gi from h)
 | List _ _=>cases e<;> first|rfl|cases(show gb=gi from h)
 | _=>rfl
abbrev jh:tI->on
 | .Call _ _ _ _=>gb
 | _=>gi
def ik(h:jh o=gi):NB o a env w=w:=by
 cases o<;> first|rfl|cases(show gb=gi from h)
abbrev qv:tI->on
 | .Set _ _ _=>gb
 | _=>gi
def nH(h:qv e=gi)(x:hV):O9 e env x=pure x:=by
 cases e<;> first|rfl|cases(show gb=gi from h)
structure QE (X:Cx) (e:tI) (t:TE):Prop where
 h:PE X e t
structure QT (X:Cx) (e:tI) (t:TT):Prop where
 h:PT X e t
structure QW (X:Cx) (e:tI) (t:TT):Prop where
 h:PW X e t
structure QA (X:Cx) (es:fx tI) (t:TA):Prop where
 h:PA X es t
structure QS (X:Cx) (st:v0) (t:TS):Prop where
 h:PS X st t
structure QSs (X:Cx) (st:fx v0) (t:TS):Prop where
 h:PSs X st t
structure QG (X:Cx) (e:tI) (t:TG):Prop where
 h:PG X e t
structure QGs (X:Cx) (es:fx tI) (t:TGs):Prop where
 h:PGs X es t
structure QI (X:Cx) (tg iter:tI) (wi:TI):Prop where
 h:PI X tg iter wi
structure QO (X:Cx) (e:ij tI) (t:TO):Prop where
 h:PO X e t
structure QTs (X:Cx) (ifs:fx tI) (t:TT):Prop where
 h:PTs X ifs t
structure QPs (X:Cx) (pos:Pos) (keys:fx _) (values:fx tI) (trs:fx _):Prop where
 h:PPs X pos keys values trs
structure OpQ (X:Cx) (f:hV->hV->Sem hV) (r:R2):Prop where
 h:OpR X f r
structure cj (X:Cx) (f:hV) (r:fx V->Hp->VK->Prop):Prop where
 h:cH X f r
structure MtQ (X:Cx) (id:MX) (r:V->fx V->Hp->VK->Prop):Prop where
 h:MtR X id r
section
variable{X:Cx}{K:ZA}{pos:Pos}
def ax{i j}:QE X (.Constant (.int i) j pos) (tC (.int i)):=⟨IC⟩
def eBl{b j}:QE X (.Constant (.bool b) j pos) (tC (.bl b)):=⟨K8⟩
def wN{j}:QE X (.Constant .none j pos) (tC .non):=⟨ID⟩
def c9{x j}:QE X (.Constant (.str x) j pos) (tC (.str x)):=⟨IE⟩
def vn(i:gf)(b:X.N[i]?>=x)(c:Vis X.env.scope x)(d:(x==("__debug__":jz))=gi)(a:(x==("__classdict__":jz))=gi):QE X (.Name x pos) (sw i):=⟨CY b c d a⟩
def gvE(g:Gv X.mg x v)(a:Gl X x)(b:(x==("__debug__":jz))=gi):QE X (.Name x pos) (tC v):=⟨HV g a b⟩
def blE(a:Gl X x)(b:X.mg x=fD)(c:Nz x>=u)(r:aY v u)(f:(x==("__name__":jz))=gi)(d:(x==("__debug__":jz))=gi):QE X (.Name x pos) (tC v):=
 ⟨F5 a b c r (λe=>by lia) d⟩
def ao:QA X [] BH:=⟨Jj⟩
def paE(a:bu e=gi)(b:QE X e c)(d:QA X f t):QA X (e::f) (Dk c t):=⟨Gq b.h d.h (aE a)⟩
def calE(C:Cal X.prog X.w X.K X.mg X.base j x ps sp)(f:bW k X.A)(g:Gl X x)(a:P7 j k=gb)
 (b:(x==("__debug__":jz))=gi) (c:(e::d).any bu=gi) (h:QA X (e::d) t):
 QE X (.Call (.Name x p) (e::d) [] pos) (tz sp [] E0 t):=by
 rw[Zw,X6]at c;show⟨JF C f g DH h.h (Yc a) b (aE c.1) (ee c.2)⟩
def cbE{id:MX}(d:cj X (.builtin id) r)(f:Gl X x)(g:X.mg x=fD)(h:Nz x>=.builtin id)(j:(x==("__name__":jz))=gi)(a:(x==("__debug__":jz))=gi)
 (b:(e::c).any bu=gi) (i:QA X (e::c) t):QE X (.Call (.Name x p) (e::c) [] pos) (tCB r t):=by
 rw[Zw,X6]at b;show⟨Dp d.h f g h i.h (λe=>by lia) a (aE b.1) (ee b.2)⟩
def ctE(d:cj X (.type T) r)(f:Gl X x)(g:X.mg x=fD)(h:Nz x>=.type T)(j:(x==("__name__":jz))=gi)(a:(x==("__debug__":jz))=gi)
 (b:(e::c).any bu=gi) (i:QA X (e::c) t):QE X (.Call (.Name x p) (e::c) [] pos) (tCB r t):=by
 rw[Zw,X6]at b;show⟨BJ d.h f g h i.h (λe=>by lia) a (aE b.1) (ee b.2)⟩
def bmE{T id:MX}(h:X.K=K)(m:Pp T)(slot:Slot T name id)(i:Qe (.builtin id)=pure (.type "method_descriptor"))(n:MtQ X id r)
 (b:jh o=gi) (a:(e::g).any bu=gi) (j:XQ (e::g).length 30=gb) (c:(d.endLine==f.line)=gb) (p:QE X o q) (s:QA X (e::g) t):
 QE X (.Call (.Attribute o name d) (e::g) [] f) (tBM K T r q t):=by
 let l:=a;rw[Zw,X6]at l;show⟨DM h m slot i n.h p.h s.h (ik b) ?_ c (aE l.1) (ee l.2)⟩;rw[vg a];let:decide ((e::g)\5+([]:fx Pc)\5+(if([]:fx Pc).isEmpty then 0 else 1)<30)=gb:=Zf ((gf.blt_eq.mp j));rw[this];rfl
def Lw{T id:MX}(h:X.K=K)(f:Pp T)(slot:Slot T name id)(e:Qe (.builtin id)=pure (.type "method_descriptor"))(g:MtQ X id r)
 (a:jh o=gi) (b:(c.endLine==d.line)=gb) (i:QE X o j):QE X (.Call (.Attribute o name c) [] [] d) (GA K T r j):=⟨GQ h f slot e g.h i.h (ik a) b⟩
def fh(b:Gl X "range")(c:X.mg "range"=fD)(d:bu a=gi)(e:QA X [a] f):QI X tg (.Call (.Name "range" p) [a] [] pos) (Dc f):=⟨Bx b c e.h (aE d)⟩
section
variable{a b c:tI}{ta tb tc:TE}{op op':Wa}{r r':R2}
def zk(e:OpQ X (oT op) r)(d:OpQ X (oT op') r')(f:lastMarks [op,op'] [b,c]=gi)(g:QE X a ta)(h:QE X b tb)(i:QE X c tc):QE X (.Compare a [op,op'] [b,c] pos) (yV r r' ta tb tc):=⟨Df e.h d.h g.h h.h i.h f⟩
def kQ(d:OpQ X (oT op) r)(e:MU op b=gi)(f:QE X a ta)(g:QE X b tb):QE X (.Compare a [op] [b] pos) (tOp r ta tb):=⟨Gi d.h f.h g.h e⟩
def bh(d:OpQ X (oT op) r)(e:MU op b=gi)(f:QE X a ta)(g:QE X b tb):QT X (.Compare a [op] [b] pos) (wF (tOp r ta tb)):=⟨Gj d.h f.h g.h e⟩
def opE{op:Operator}(d:OpQ X (No op) r)(e:QE X a ta)(f:QE X b tb):QE X (.BinOp a op b pos) (tOp r ta tb):=⟨Ld d.h e.h f.h⟩
def wO(d:QE X a ta):QE X (.UnaryOp .USub a pos) (tUn (rU λi=> .int (-i)) ta):=⟨Lf Jb d.h⟩
def noO:QO X fD uZ:=⟨Gu⟩
def qw(h:QE X a ta):QO X (fI a) (Dq ta):=⟨Gw h.h⟩
def nJ{op}(h:QE X a ta):QE X (.BoolOp op [a] pos) ta:=⟨IM h.h⟩
def lU{rest:fx tI}(d:QE X a ta)(e:QE X (.BoolOp .And (b::rest) pos) tb):QE X (.BoolOp .And (a::b::rest) pos) (C0 ta tb):=⟨IP d.h e.h⟩
def orV{rest:fx tI}(d:QE X a ta)(e:QE X (.BoolOp .Or (b::rest) pos) tb):QE X (.BoolOp .Or (a::b::rest) pos) (IL ta tb):=⟨Lb d.h e.h⟩
def c6(h:QA X d t):QE X (.List d pos) (Jl t):=⟨Jn h.h⟩
def eG{d}(h:QA X e t):QE X (.Tuple e d pos) (Jk t):=⟨Jm h.h⟩
def iR:QE X (.Dict [] [] pos) zd:=⟨DE⟩
variable{tA tB':TT}{rest:fx tI}
def ifE(d:QT X c tA)(e:QE X a ta)(f:QE X b tb):QE X (.IfExp c a b pos) (tIf tA ta tb):=⟨C1 d.h e.h f.h⟩
def lV(d:QT X a tA):QT X (.UnaryOp .Not a pos) (IH tA):=⟨IK d.h⟩
def iS(d:QT X a tA):QW X (.BoolOp .And [a] pos) tA:=⟨F7 d.h⟩
def pJ(d:QT X a tA):QW X (.BoolOp .Or [a] pos) tA:=⟨II d.h⟩
def lE(d:QT X a tA)(e:QW X (.BoolOp .And (b::rest) pos) tB'):QW X (.BoolOp .And (a::b::rest) pos) (F6 tA tB'):=⟨IJ d.h e.h⟩
def orW(d:QT X a tA)(e:QW X (.BoolOp .Or (b::rest) pos) tB'):QW X (.BoolOp .Or (a::b::rest) pos) (tOr tA tB'):=⟨La d.h e.h⟩
def wT(h:QW X a tA):QT X a tA:=⟨PW.pt h.h⟩
def truT(h:X.K=K)(f:∀d,RV a X.env d=(do let v<-d;Oy a.pos;O7 [v] (Tl v)))(g:QE X a ta):QT X a (λi H Q=>ta i H λx e=>∃k,BA K x e k/\Q k e):=⟨BW h g.h f⟩
def jS:QTs X [] BR:=⟨GL⟩
def fJ(h:QT X c tA):QTs X [c] tA:=⟨GM h.h⟩
end
def cU(S:aA X c e f)(j:X.calm=gb)(l:qv iter=gi)(hi:QI X tg iter m)
 (n:∀a b d,QG (cB X c e a b d) tg g) (o:∀a b d,QTs (cB X c e a b d) h p) (q:∀a b d,QE (cB X c e a b d) i r):
 QE X (.ListComp i [%[tg,iter,h|0]] c pos) (tO m e.length f g p r):=⟨GO S j hi.h (λa b d=>(n a b d).h) (λa b d=>(o a b d).h) (λa b d=>(q a b d).h) (nH l)⟩
def a8:QSs X [] C2:=⟨F8⟩
def ak{st:v0}{rest:fx v0}(a:QS X st t)(b:QSs X rest u):QSs X (st::rest) (aZ t u):=⟨C3 a.h b.h⟩
def au{st:v0}(a:QS X st t):QSs X [st] t:=⟨F9 a.h⟩
def ifS(d:QT X c e)(f:QSs X a t)(g:QSs X b u):QS X (.If c a b pos) (kO e t u):=⟨Lc d.h f.h g.h⟩
def aO(a:QE X e b):QS X (.Return (fI e) pos) (jU b):=⟨IQ a.h⟩
def jj{st:v0}:QS X st C4:=⟨C5⟩
def cC(b:NZ (Nm X.prog X.w) X.A X.env X.xe)(c:X.calm=gb)(d:qv iter=gi)(hi:QI X tg iter e)(f:QG X tg g)(h:QSs X a i):
 QS X (.For tg iter a [] pos) (yT e g i):=⟨IW b c hi.h f.h h.h (nH d)⟩
def kR(i:gf)(b:X.N.Nodup)(hi:X.N[i]?>=x)(c:Loc X.env.scope x)(d:X.fn x=gb\/X.env.scope.names.lookup x>=.local)(f:ii e=gi)(g:QE X e h):
 QS X (.Assign [.Name x a] e pos) (uV h (kZ i)):=⟨C8 b hi c g.h (jW f) d⟩
def bO(a:ii e=gi)(b:QE X e c):QS X (.Expr e pos) (kY c):=⟨Ga b.h (jW a)⟩
def DR(b:ii e=gi)(hw:DQ e=gi)(a:bu tg=gi)(c:QE X e d)(f:QG X tg g):QS X (.Assign [tg] e pos) (uV d g):=
 ⟨IT c.h f.h (jW b) (zj hw) (by rw[eO a];rfl)⟩
def lW(i:gf)(a:X.N.Nodup)(hi:X.N[i]?>=x)(b:Loc X.env.scope x)(c:X.fn x=gb\/X.env.scope.names.lookup x>=.local):QG X (.Name x pos) (kZ i):=⟨Gb a hi b c⟩
def cz:QGs X [] IR:=⟨Gc⟩
def gsE(a:bu e=gi)(b:QG X e t)(c:QGs X d u):QGs X (e::d) (C6 t u):=⟨C7 b.h c.h (by rw[eO a];rfl)⟩
def d5(c:X.K=K)(d:X.calm=gb)(b:a.any bu=gi)(h:QGs X a t):QG X (.Tuple a k pos) (Gd K a.length t):=by
 subst c;show⟨IS d h.h (lD b).1 (lD b).2⟩
def Lx:QPs X pos [] [] []:=⟨GG⟩
def JH(b:QE X k tk)(c:QE X v d)(e:QPs X pos ks vs a):QPs X pos (fI k::ks) (v::vs) ((tk,d)::a):=⟨DG b.h c.h e.h⟩
def Ly(c:a.all (·.isSome)=gb)(g:a\5=b\5)(i:a.isEmpty=gi)(d:P7 a.length 15=gb)(h:QPs X pos a b f):QE X (.Dict a b pos) (HS f):=
 ⟨GH h.h c g (λe=>by subst e;cases i) (Yc d)⟩
def oP:OpQ X (No .Sub) (rI0 λi j=> .int (i-j)):=⟨IZ⟩
def bC:OpQ X (No .Mod) (rI (λ_ j=>0<j) λi j=> .int (i%j)):=⟨Ja⟩
def cD:OpQ X (No .FloorDiv) (rI Lh λi j=> .int (i/j)):=⟨Gg⟩
def fj:OpQ X (oT .Eq) JB:=⟨JC⟩
def iT:OpQ X (oT .NotEq) JD:=⟨JE⟩
def zo:OpQ X (oT .Lt) (rI0 λi j=> .bl (decide (i<j))):=⟨Li⟩
def BX:OpQ X (oT .LtE) (rI0 λi j=> .bl (decide (i<=j))):=⟨Lj⟩
def qx:OpQ X (oT .Gt) (rI0 λi j=> .bl (decide (j<i))):=⟨Lk⟩
def q_ge:OpQ X (oT .GtE) (rI0 λi j=> .bl (decide (j<=i))):=⟨Lo⟩
def Lz:OpQ X (oT .Is) (λx y H Q=>y= .non/\Q (.bl (decide (x= .non))) H):=⟨Jd⟩
def qy:OpQ X (oT .IsNot) (λx y H Q=>y= .non/\Q (.bl (!decide (x= .non))) H):=⟨Gh⟩
def bZ(h:X.K=K):cj X (.builtin "len") (λxs H Q=>cP xs λx=>∃n,Gk K x H n/\Q (.int n) H):=⟨BT h⟩
def DS(h:X.K=K)(a:X.calm=gb):cj X (.builtin "all") (λxs H Q=>cP xs λb=>asR b λp=>∃(bs:fx on),Qb K H p (bs.map V.bl)/\Q (.bl (bs.all id)) H):=⟨BU h a⟩
def HW(a:X.calm=gb):cj X (.builtin "max") (λxs H Q=>jR xs λb c=>asI b λi=>asI c λj=>Q (.int (if GT.gt j i then j else i)) H):=⟨BB a⟩
def LA(a:X.calm=gb):cj X (.builtin "min") (λxs H Q=>jR xs λb c=>asI b λi=>asI c λj=>Q (.int (if j<i then j else i)) H):=⟨BC a⟩
def LB(h:X.K=K):cj X (.builtin "isinstance") (λxs H Q=>∃x n t b,xs=[x,.ty n]/\kP K H x t/\Pk K t (.type n)>=b/\Q (.bl b) H):=⟨BV h⟩
def DT:cj X (.type "int") (λxs H Q=>(∃i,xs=[.int i]/\Q (.int i) H)\/∃k,xs=[.bl k]/\Q (.int (if k then 1 else 0)) H):=⟨BD⟩
def lF(h:X.K=K):cj X (.type "list") (λxs H Q=>cP xs λa=>asR a λp=>∃ys,(Qb K H p ys\/SqT K H p ys)/\∀l,H l=fD->Q (.ref l) (Qa H l (.lst ys))):=⟨zh h⟩
def bv:MtQ X "list.append" vb:=⟨tJ⟩
def lZ:MtQ X "list.extend" vd:=⟨BL⟩
def vh(h:X.K=K):MtQ X "str.join" (At K):=⟨DL h⟩
end
open PySem PySem.Spec PyProof.Rows PySem.SeqAt
nonrec def zq:V->fx V->Hp->VK->Prop:=λx vs H Q=>asS x λz=>cP vs λa=>asS a λy=>1<=y\5/\z\5+2<=iv/\∀l,H l=fD->Q (.ref l) (Qa H l (.lst ((Txt.split z y)\3)))
def tR:∀ss k,aQ (ss\3) (strsFrom k ss)
 |[],_=> .nil
 | _::r,k=> .cons %[_|rfl] (tR r _)
def DU{X:Cx}:MtM X "str.split" zq:=by
 intro ff s o H x vs v us Q I j l h;let%[z,rfl|f]:=d6 h;let%[p,rfl|g]:=bJ f;let%[y,rfl|i]:=d6 g;let%[r,w|q]:=i;let%[t|rfl]:=j;let%[A,rfl|m]:=l.one;let%[u|rfl]:=m;let b:(y\5==0)=gi:=by simp;lia
 let n:=split_le z y;by_cases c:(decide (z\5<y\5)||decide (Tj z<Tj y))=gb
 .let e:Txt.split z y=[z]:=hY c;rw[e]at q;show OK Tb (Oi _ _ _) SM (So _ _) (meets_str_split_cannot_occur z y t u c) %[.ref _,_,I.lnew (ys:=[.str z]) (.cons %[_|rfl] .nil) (by change 1<=iv;decide),rfl|q _ I.fresh]
 .let d:=Sh.mpr c;by_cases c2:(NF z y 0 z.length (z\5+1)).isEmpty=gb
  .let e:Txt.split z y=[z]:=(hH c).trans (hY c2);rw[e]at q;show OK Tb (Oi _ _ _) SM (So _ _) (meets_str_split_not_found z y t u d b c2) %[.ref _,_,I.lnew (ys:=[.str z]) (.cons %[_|rfl] .nil) (by change 1<=iv;decide),rfl|q _ I.fresh]
  .let e:Txt.split z y=Sq z _ y.length:=(hH c).trans (hH c2);let a: ~~~(Sq z (NF z y 0 z.length (z.length+1)) y.length)<=iv:=by rw[<-e];lia
   show OK Tb (Oi _ _ _) SM (So _ _) (meets_str_split_sep z y t u d b (Sh.mpr c2) ⋯ a) ?_;rw[<-e]at a ⊢;show%[.ref _,_,I.lnew (tR _ _) (by rw[Z6];show a),ρ|q _ I.fresh]
def Au{X:Cx}:MtQ X "str.split" zq:=⟨DU⟩
abbrev Ite(K:ZA)(a:hW)(xs:fx V):It:=⟨λi H=>Qb K H a xs/\i<xs\5,λi H v b=>∃x T,xs[i]?>=x/\H T=fD/\v= .ref T/\b=Qa H T (.tup [.int i,x]),λi H=>Qb K H a xs/\xs\5<=i⟩
abbrev ESt(e it a:hW)(i:gf)(h:su):Prop:=(∃b,IsEnum h e it i b)/\h.IsListIter it a i
def BY{P:mu}{K:ZA}(e it a:hW)(xs:fx V)(hne:e≠it):sE P w K (.Tuple elts kt tp) (Ite K a xs) [e,it] e (ESt e it a) where
 mem:=by simp
 obj:=λi h st b hb=>by
  let%[%[old|he],o1,e1,_|d1]:=st;simp only[Yu,X4,J5]at hb;rcases hb with rfl|rfl
  .show%[_,he|λv q=>nomatch q]
  .show%[o1,e1|λv q=>by rw[d1]at q;cases q]
 keep:=λi h h' st k=>by
  let%[%[old|he],o1,e1|r1]:=st;show%[%[old|k e ∅ _ he],o1,k it ∅ _ e1|r1]
 item:=by
  intro X hP hw hK hc i ff s σ H E I hf st hg;subst hP hw hK;let%[%[old|he]|hit]:=st;obtain⟨hq,hi⟩:Qb X.K H a xs/\i<xs\5:=hg;let%[its,rv,p|hz]:=I.list hq;let%[u,hu|ru]:=rv.get (i:=i) (x:=xs[i]) ∅;show wpAny_pyNext_enum_item he hit p.isList ↑hu hne λh1 he1 hit1 ht1 hz1 hk1=>%[_,rfl|wpAny_letOwnedTupleGo_enum he1 λh2 he2 sb2=>?_]
  replace sb2:q7 e h1 h2:=sb2;let elt:=Zu he;let kk:∀b o,b∉[e,it]->s.heap.get? b>=o->h2.get? b>=o:=λb o hb q=>by
   simp only[Yu,X4,J5,Oj]at hb;show(sb2.2 b hb.1).trans (hk1 b o hb.1 hb.2 q)
  let J:Qc X ff σ H {s with heap:=h2,toks:=s.toks+1}:=I.moved hf kk;let I2:Qc X ff σ (Qa H ⇑s (.tup [.int i,xs[i]])) _:=
   I.stood J (Zi _) %[by change 2<=iv;decide,[.int i s.toks,u],.cons %[_|rfl] (.cons ru .nil),_,((sb2.2 _ (Yy elt)).trans ht1),rfl,_|rfl]
  show%[.ref ⇑s,_,I2,ρ,%[xs[i],_,by simp,I.fresh,ρ|ρ],%[%[u|he2]|?_]|λb hb=>?_]
  .let%[o,q|r]:=hit1;show%[o,(sb2.2 _ (wh hne)).trans q|r]
  .let:b<⇑s:=by
    simp only[Yu,X4,J5]at hb;rcases hb with rfl|rfl
    .show elt
    .show(by let%[o,q|_]:=hit;show Zu q)
   rw[ar (Zs this)];show(hf b hb).1
 done:=by
  intro X hP hw hK hc i ff s σ H E I hf st hg;subst hP hw hK;let%[%[old|he]|hit]:=st;obtain⟨hq,hi⟩:Qb X.K H a xs/\xs\5<=i:=hg;let%[its,rv,p|hz]:=I.list hq;let hl:=rv\5;show wpAny_pyNext_enum_end (I.ok.hd hc) he hit p.isList (by simp;lia) λh1 xb=>%[rfl|I.moved hf λb o hb q=>?_]
  simp only[Yu,X4,J5,Oj]at hb;show xb b o hb.2 q
 self:=λA i s Q E st h=>by
  let%[%[old|he]|hit]:=st;show WP he h
abbrev HX(K:ZA)(c:TA):TI:=λd H R=>c d H λvs b=>cP vs λe=>asR e λa=>∃xs,Qb K b a xs/\R (Ite K a xs) b
section
variable{X:Cx}{K:ZA}{pos:Pos}
def wP(n:X.K=K)(o:Gl X "enumerate")(r:X.mg "enumerate"=fD)(v:bu a=gi)(w:QA X [a] y):
 QI X (.Tuple i M N) (.Call (.Name "enumerate" p) [a] [] pos) (HX K y):=by
 subst n
 constructor
 intro ff s z H R I h;show Call_ (lC I o r boot_enumerate (Nj (thP (w.h pos ff s z H _ I h) λus d vs A c B C=>?_) (aE v) rfl));let%[O,rfl|e]:=bJ C;let%[l,rfl|f]:=aT e;let%[xs,E|q]:=f;let%[u,rfl|G]:=dq B;cases G;let%[its,Q,p|T]:=c.list E;show call_enumerate_list p.isList λU j g J L=>WP j %[⇑d+1,[⇑d+1,⇑d],ESt _ ⇑d l,Ite X.K l xs,A,rfl,(c.kept L),BY _ _ _ _ (gf.succ_ne_self _),%[%[_|j]|g],λb m=>?_|q]
 simp only[Yu,X4,J5]at m;rcases m with rfl|rfl
 .show c.fpOk (Ye _) (c.hok.fresh (Ye _))
 .show c.fpOk (Zi _) (c.hok.fresh (Zi _))
end
section
variable(h:su)(x y:jz)(t u:Tok)
noncomputable abbrev zs1:su:=h.push {cls:= .type (OO x),data:= .fields #[.str x t,.int 0 0]}
noncomputable abbrev zs2:su:=(zs1 h x t).push {cls:= .type (OO y),data:= .fields #[.str y u,.int 0 0]}
noncomputable abbrev zs3:su:=(zs2 h x y t u).push {cls:= .type "tuple",data:= .seq #[.ref h.objs.size,.ref (zs1 h x t).objs.size]}
noncomputable abbrev zs4:su:=(zs3 h x y t u).push {cls:= .type "tuple",data:= .seq #[.none,.none]}
noncomputable abbrev zs5:su:=(zs4 h x y t u).push {cls:= .type "zip",data:= .fields #[.none,.bool gi,.bool gi,.ref (zs2 h x y t u).objs.size,.ref (zs3 h x y t u).objs.size]}
end
def pK(x y:jz)(t u:Tok):
 Meets (m4.«zip.__new__» %[[.type "zip",.str x t,.str y u]|[]]) (λ_ R s=>R (.ok (.ret (.ref (zs4 s.heap x y t u).objs.size))) (s>>>zs5 s.heap x y t u)):=
 .of_wp λprog w A R s b=>by
  let%[c,g,d,tk|os]:=s;let a:=PySem.sub_zip
  wp_walk using WO (x:=x) (t:=t),WO (x:=y) (t:=u)
  show%[_,ρ|b]
section
#where
def qz
 (h:∀h',Ta h' (⇑s+4) (⇑s+2) (⇑s+3) .none->Pq h' (⇑s+2) (.ref ⇑s) (.ref (⇑s+1))->Pq h' (⇑s+3) .none .none->
  h'.IsStrIter ⇑s (OO x) x t 0->h'.IsStrIter (⇑s+1) (OO y) y u 0->(∀c o,s.heap.get? c>=o->h'.get? c>=o)->Q (.ref (⇑s+4)) (s>>>h')):
 ↥A (call (.type "zip") [.str x t,.str y u]) Q E s:=by
 show callType_new F.called_zip (!1) (F.typeCall_zip_2 _ _) (F.newCall_zip_2 _ _) (λobj=>F.args_object_init_3 obj _ _) F.entry_zip_new (pK x y t u) ?_;let n1:(zs1 s.heap x t).objs.size=⇑s+1:=Zq ..;let a:(zs2 s.heap x y t u).objs.size=⇑s+2:=by rw[Zq,n1]
 let b:(zs3 s.heap x y t u).objs.size=⇑s+3:=by rw[Zq,a]
 let e:(zs4 s.heap x y t u).objs.size=⇑s+4:=by rw[Zq,b]
 let f:∀c o,(zs4 s.heap x y t u).get? c>=o->(zs5 s.heap x y t u).get? c>=o:=λ_ _ q=>Z7 _ q
 let g:∀c o,(zs3 s.heap x y t u).get? c>=o->(zs5 s.heap x y t u).get? c>=o:=λc o q=>f c o (Z7 _ q)
 let i:∀c o,(zs2 s.heap x y t u).get? c>=o->(zs5 s.heap x y t u).get? c>=o:=λc o q=>g c o (Z7 _ q)
 let k2:∀c o,(zs1 s.heap x t).get? c>=o->(zs5 s.heap x y t u).get? c>=o:=λc o q=>i c o (Z7 _ q)
 let k1:∀c o,s.heap.get? c>=o->(zs5 s.heap x y t u).get? c>=o:=λc o q=>k2 c o (Z7 _ q)
 let d:(zs5 s.heap x y t u).get? (zs4 s.heap x y t u).objs.size>=_:=Zj _ rfl;let j:(zs5 s.heap x y t u).get? (zs3 s.heap x y t u).objs.size>=_:=f _ _ (Zj _ rfl);let l:(zs5 s.heap x y t u).get? (zs2 s.heap x y t u).objs.size>=_:=g _ _ (Zj _ rfl);let m:=i _ _ (Zj _ rfl);change _/\_;rw[a,b,e]at d;rw[n1,a]at l;rw[b]at j;rw[n1]at m;rw[e];show%[%[_,d|ρ]|h _ d l j %[_,(k2 _ _ (Zj _ rfl)),ρ|ρ] %[_,m,ρ|ρ] k1]
end
abbrev HY(a:TA):TI:=λb H R=>a b H λvs c=>jR vs λu v=>asS u λx=>asS v λy=>R (Itz x y) c
section
variable{X:Cx}{K:ZA}{pos:Pos}
def DV(v:Gl X "zip")(w:X.mg "zip"=fD)(z:bu a=gi)(f:bu b=gi)(A:QA X [a,b] B):
 QI X (.Tuple n O Q) (.Call (.Name "zip" p) [a,b] [] pos) (HY B):=by
 constructor
 intro ff s C H R I h;show Call_ (lC I v w boot_zip (Nj (thP (A.h pos ff s C H _ I h) λus c vs E g G J=>?_) (aE z) (by rw[aE f];rfl)));let%[_,_,rfl|L]:=fE J;let%[x,rfl|M]:=d6 L;let%[y,rfl|q]:=d6 M;let%[T,U,rfl,%[t|rfl],u|rfl]:=iP G;show qz λY o l m hi1 hi2 N=>Q2 o ?_
 let ne:∀i j,i≠j->⇑c+i≠⇑c+j:=λi j h e=>h (RB e)
 show%[⇑c+4,[⇑c+4,⇑c+2,⇑c+3,⇑c+0,⇑c+1],_,Itz x y,E,ρ,(g.kept N),
  DP _ _ _ _ _ x y t u %[ne 2 4 (!1),ne 3 4 (!1),ne 0 4 (!1),ne 1 4 (!1),ne 2 3 (!1),ne 2 0 (!1),ne 2 1 (!1),ne 3 0 (!1),ne 3 1 (!1)|ne 0 1 (!1)],
  %[o,l,%[_,_|m],hi1|hi2],λb r=>?_|q]
 let d:⇑c<=b:=by
  simp only[Yu,X4,J5]at r;rcases r with rfl|rfl|rfl|rfl|rfl<;> show PX _ _
 show g.fpOk d (g.hok.fresh d)
end
inductive D where
 | non|bl (b:on)|int (i:md)|str (x:jz)|lst (ds:fx D)|tup (ds:fx D)
section
variable{K:ZA}{H H':Hp}
def ah.seqT(e:ah H H')(h:SqT K H a xs):SqT K H' a xs:=by
 rcases h with(h|⟨o,h⟩)|h
 .show .inl (.inl (e _ _ h))
 .show .inl (.inr %[o|e _ _ h])
 .show .inr h
end
def zt{X:Cx}(G:X.N.Nodup)(u:X.N[i]?>=x)(J:Loc X.env.scope x)(L:X.fn x=gb\/X.env.scope.names.lookup x>=.local)
 (w:Oo (.ListComp l [%[tg,iter,p|0]] a pos) (fI (.Name x A)) f.line X.env=pure gb) (S:aA X a r y) (M:X.calm=gb) (N:∀x,O9 iter X.env x=pure x) (hi:PI X tg iter O)
 (Q:∀c d j,PG (cB X a r c d j) tg g) (T:∀c d j,PTs (cB X a r c d j) p U) (Y:∀c d j,PE (cB X a r c d j) l te):
 PS X (.Assign [.Name x A] (.ListComp l [%[tg,iter,p|0]] a pos) f) (uV (tO O r.length y g U te) (kZ i)):=by
 intro ff s σ H D I h;show Z2 (QL ?_);change pw _ _ (Oo (.ListComp l _ a pos) (fI (.Name x A)) f.line X.env>>= _) _ _ _;rw[w];show Z2 (Z3 (Z2 (Z2 (tP S M hi Q T Y N I h λD' C H5 s6 fl m hn j k q=>?_))));let%[o,es,ep,B,hd|hr]:=id hn;let I7:=(k s6.heap (q7.refl _ _)).pinned (λb n=>(Xp n)▸j) λb n=>by
  rw[Xp n];show%[o,B|λv z=>by lia]
 show WQ (iM I7 G u J (v:= .ref D') rfl (λs8 E=>%[m,%[o,es,ep,((E.pin _ (Yt _ (Yt _ (gA (Yx.mpr rfl) B)))).1),hd|hr]|λh' sb=>Z3 (Z3 %[_,H5,(E.unpinned).moved (λb n=>(Xp n)▸j) λb o' n e=>(sb.2 b (λz=>n (Yx.mpr z))).trans e|q])]) L)
def BZ(h:(env.blockKind== .function&&env.kindOf x==fI .local&&b.line==pos.line&&!(a.names.any λ(n,k)=>n==x&&(k== .local||k== .cell)))=gb):
 Oo (.ListComp c gens a pos) (fI (.Name x b)) l env=pure gb:=by
 change(pure (env.blockKind== .function&&env.kindOf x==fI _&&b.line==pos.line&&!(a.names.any _)))=pure gb;rw[h]
def gF{X:Cx}(i:gf)(p:X.N.Nodup)(f:X.N[i]?>=x)(q:Loc X.env.scope x)(r:X.fn x=gb\/X.env.scope.names.lookup x>=.local)
 (h:(X.env.blockKind== .function&&X.env.kindOf x==fI .local&&s.line==pos.line&&!(c.names.any λ(n,k)=>n==x&&(k== .local||k== .cell)))=gb) (S:aA X c e j) (u:X.calm=gb) (v:qv iter=gi) (hi:QI X tg iter w)
 (y:∀a b d,QG (cB X c e a b d) tg g) (z:∀a b d,QTs (cB X c e a b d) l A) (B:∀a b d,QE (cB X c e a b d) m C):
 QS X (.Assign [.Name x s] (.ListComp m [%[tg,iter,l|0]] c pos) o) (uV (tO w e.length j g A C) (kZ i)):=
 ⟨zt p f q r (BZ h) S u (nH v) hi.h (λa b d=>(y a b d).h) (λa b d=>(z a b d).h) (λa b d=>(B a b d).h)⟩
section
#version
end
def cE:Slot "set_iterator" "__next__" "set_iterator.__next__":=
 .of (owner:="set_iterator") (n:="__next__") (by rw[TX,Ry];kernel_rfl) (!0) (!0) (!0) (by first|show .inl (!0)|show .inr ∅) (by kernel_rfl)
def iU:SY WR "set_iterator.__next__"=fI m4.«set_iterator.__next__»:=XI (by kernel_rfl)
def jG(a:hV):argsOk "set_iterator.__next__" %[[a]|[]]:=by kernel_rfl
def sG:SY WR "set.__iter__"=fI m4.«frozenset.__iter__»:=RX (id':="frozenset.__iter__") (by kernel_rfl) rfl (!0) (by kernel_rfl)
def sH(t:kG)(n:gf):(t.orStandIn n).led=t.led:=by unfold kG.orStandIn;split<;> rfl
def zu(t:kG)(a:mx _)(h:md)(x:hV):(layNew t a h x).2.1.led=t.led:=by
 unfold layNew;cases t.freeSlot h with
 | none=>rfl
 | some p=>
   show sH _ _
def vo(t:kG)(c:mx _)(n:gf):(Q3 t c n).2.1.led=t.led:=by
 unfold Q3;cases a:t.relaid _ n with
 | none=>rfl
 | some p=>
   let%[t'|d]:=p;simp only
   split
   .simp only[UQ,Vr]at a;cases b:Uw _ _ with
    | none=>rw[b]at a;cases a
    | some f=>rw[b]at a;injection a with a;injection a with e g;rw[<-e]
   .rfl
def qA(t:kG)(c:mx _)(n:gf)(d:t.plain=gi):(Q3 t c n).2.1.plain=gi:=by
 unfold Q3;cases a:t.relaid _ n with
 | none=>rfl
 | some p=>
   let%[t'|e]:=p;simp only
   split
   .simp only[UQ,Vr]at a;cases b:Uw _ _ with
    | none=>rw[b]at a;cases a
    | some g=>rw[b]at a;injection a with a;injection a with f h;show f▸d
   .rfl
abbrev bi(w:rM):on:=w.params.followText "set-order"
abbrev bQ(w:rM)(a:hW)(ks:ZB)(h:su):Prop:=
 ∃o b c t ss,h.get? a>=o/\o.ExactSet/\o.data= .set b c t/\M4 (b.toList\2) ss/\ss.Perm ks/\ks.Nodup/\(∀e>b.toList,∃z u,e=(NG w z,.str z u))/\b.size<OQ/\t.fits b.size=gb/\(b.size≠0->t.plain=gi)/\t.led=!bi w
def tT(h:∀e>l,∃z u,e=(NG w z,.str z u)):ElemsOf (aM prog w) l:=λe a=>by
 let%[z,u|rfl]:=h e a;show%[%[hX z,eK z u|ρ]|ρ]
def fk:∀{vs:ZF} {ss:ZB} {z:jz},M4 vs ss->((∃u,G2 z u>vs)↔z>ss)
 | _,_,z,.nil=>by simp
 | _,_,z,.cons x t h=>by
   let b:=fk (z:=z) h
   constructor
   .rintro⟨u,a⟩;rcases Yu.mp a with e|e
    .injection e with c _;show c▸Zm
    .show Zk _ (b.mp %[u|e])
   .intro d;rcases Yu.mp d with e|e
    .show e▸%[t|Zm]
    .let%[u|a]:=b.mpr e;show%[u|Zk _ a]
def jX:∀{vs ws:ZF} {ss ts:ZB},M4 vs ss->M4 ws ts->M4 (vs++ws) (ss++ts)
 | _,_,_,_,.nil,h=>h
 | _,_,_,_,.cons x t h,h'=> .cons x t (jX h h')
def c8:∀{vs:ZF} {ss:ZB},M4 vs ss->vs\5=ss\5
 | _,_,.nil=>rfl
 | _,_,.cons x t h=>by rw[Zr,Zr,c8 h]
def cJ(h:M4 vs ss)(p:ws.Perm vs):∃ts,M4 ws ts/\ts.Perm ss:=by
 show%[ws.map strOf,strsAre_map ws λv a=>h.all v (p.mem_iff.mp a)|?_];let:=p.map strOf;rwa[h.strs]at this
section
#where
variable{a:hW}
def bQ.stored{h:su}{o:NV}{i b:mx (md×hV)}{t t':kG}(j:h.get? a>=o)(c:o.ExactSet)(d:o.data= .set i f t)(l:M4 (b.toList\2) ss)(m:ss.Perm ks)(n:ks.Nodup)
 (p:∀e>b.toList,∃z u,e=(NG w z,.str z u)) (r:b.size<OQ) (v:t'.fits b.size=gb) (y:t'.plain=gi) (B:t'.led=!bi w):
 (h.update a (N0 b t')).get? a=fI {o with data:= .set b (f+1) t'}/\bQ w a ks (h.update a (N0 b t')):=by
 let g:=by
  let q:=MB (N0 b t') j (by rw[R9 b t' d];rfl);rwa[R9 b t' d]at q
 show%[g,_,b,f+1,t',ss,g,c,ρ,l,m,n,p,r,v,λ_=>y|B]
def wQ{g:on->Sem S4}(N:∀(b:on) (h:jg) (q:S4->jg->Prop),q () h->↥A (g b) q E h){m:on}{R:ij on->jg->Prop}(r:s.heap.get? a>=o)(i:o.ExactSet)(v:o.data= .set es ep t)
 (y:M4 (c.toList\2) ss) (B:ss.Perm ks) (C:ks.Nodup) (G:∀e>c.toList,∃z u,e=(NG w z,.str z u)) (j:c.size<OQ) (O:d.fits c.size=gb) (H:d.plain=gi) (I:d.led=!bi w)
 (J:∀h',q7 a s.heap h'->bQ w a ks h'->R (fI gb) (s>>>h')):
 ↥A (do
  VS a c d
  if(!m&&d.tooFull)=gb then do
   g (Q3 d c (Nr c.size)).2.2
   VS a (Q3 d c (Nr c.size)).1 (Q3 d c (Nr c.size)).2.1
   pure (fI gb)
  else pure (fI gb)) R E s:=by
 let%[g1|Q]:=bQ.stored r i v y B C G j O H I;let M:=q7.update s.heap a (N0 c d);show Z2 (NJ r v ?_ (NK j))
 split
 .let p:=relayAll_perm d c (Nr c.size);let f:=relayAll_fits d c (Nr c.size);let l:=vo d c (Nr c.size);let pl:=qA d c (Nr c.size) H
  generalize Q3 d c _=L at p f l pl ⊢
  let%[n,t3|gv]:=L;let z:n.size=c.size:=by rw[<-Zb,p.length_eq,Zb]
  let%[ts,T|U]:=cJ y (p.map _);show Z2 (N _ _ _ (Z2 (NJ g1 rfl (Z3 (J _ (M.trans (q7.update _ a _)) (bQ.stored g1 i rfl T (U.trans B) C (λe Y=>G e (p.mem_iff.mp Y)) (by rw[z];show j) f pl (l.trans I)).2)) (NK (by rw[z];show j)))))
 .show Z3 (J _ M Q)
def l7{ks:ZB}(hS:bQ w a ks s.heap)(r:ks\5+1<OQ)
 (hQ:∀h' b,q7 a s.heap h'->bQ w a (if z>ks then ks else ks++[z]) h'->Q b (s>>>h')):↥A (Vh a (.str z tk) (NG w z)) Q E s:=by
 let%[o,c,ep,t,ss,C,v,G,g,hp,H,h,hb,hf,ab|d]:=hS;let hn:c.size=ks\5:=by
  let q:=c8 g;rw[Z6,Zb,hp.length_eq]at q;show q
 let hE:ElemsOf (aM prog w) c.toList:=tT h;let I:(aM prog w).is (hX z) (.str z tk)=gb:=eK z tk;unfold Vh setAddHashedIn;show vi (Z2 (n7 C G hf ?_));dsimp only;rw[byScan_of (knd:=aM prog w) rfl hb hE];simp only[↓reduceIte];unfold setAddByScan;show Z2 (Z2 (N4 (Z2 (Xu I C G hf hE ?_))));let J:(∃e>c.toList,(aM prog w).is (hX z) e.2=gb)↔z>ks:=by
  rw[<-hp.mem_iff,<-fk g]
  constructor
  .rintro⟨e,l,q⟩;let%[y,u|rfl]:=h e l;let q:kX (hX z) (G2 y u)=gb:=q;rcases bA q with⟨i,t',q1,m⟩|⟨y',t',q1,m⟩
   .cases m
   .cases q1;show%[u|Xr ⟨_,l,by injection m with e1 _;rw[e1]⟩]
  .rintro⟨u,hu⟩;let%[e,l|q]:=Xq hu;show%[e,l|q▸eK z u]
 cases hr:WH _ c.toList with
 | some j=>
   let%[hj,ac|_]:=R5.mp hr;let hz:=J.mp %[c.toList[j],Yb hj|ac];let q:=hQ s.heap gi (q7.refl a s.heap) ((hY hz)▸%[o,c,ep,t,ss,C,v,G,g,hp,H,h,hb,hf,ab|d]);show Z3 (Z3 q)
 | none=>
   let hz:z∉ks:=λq=>by
    let%[e,l|m]:=J.mpr q;let:=Tw.mp hr e l;rw[m]at this;cases this
   rw[hH hz]at hQ;let M:=layNew_perm t c (NG w z) (.str z tk);let lf:=layNew_fits t c (NG w z) (.str z tk);let ll:=zu t c (NG w z) (.str z tk)
   generalize hL:layNew t c _ _=L at M lf ll
   let%[B,t1,ai|ag]:=L;rw[RP]at M;let gone:∀b f Q',Q' () f->↥A (match b with|true=>Rx "set.scan.the-table-gave-way"|false=>pure ()) Q' E f:=λb f Q' q=>by
    cases b
    .show Z3 q
    .show N4 q
   let n:∀e>B.toList,∃z u,e=(NG w z,.str z u):=λe l=>by
    rcases Xo (M.mem_iff.mp l)with q|q
    .show h e q
    .rw[Xp q];show%[z,tk|ρ]
   let q1:M4 ((c.toList++[(NG w z,G2 z tk)])\2) (ss++[z]):=by
    rw[Zd];show jX g (.cons z tk .nil)
   let%[ts,m|q3]:=cJ q1 (M.map _);let N:=q3.trans (hp.append_right _);let p:=pV H hz;let ae:B.size=c.size+1:=by rw[<-Zb,M.length_eq,Z9,Zb];rfl
   let O:B.size<OQ:=by rw[ae,hn];show r
   let fin:∀h',q7 a s.heap h'->bQ w a _ h'->↥A _ Q E _:=λh' T U=>Z3 (hQ h' gb T U)
   show Z2 (gone _ _ _ ?_);cases Y:t1.plain with
   | true=>
     show Z2 (Z3 (wQ gone C v G m N p n O (kG.fits_plain_off lf) rfl (ll.trans d) λh' T U=>fin h' T U))
   | false=>
     show wQ gone C v G m N p n O lf Y (ll.trans d) λh' T U=>fin h' T U
def wR(d:bQ w a ks s.heap)(c:ks\5+1<OQ)
 (e:∀h' b,q7 a s.heap h'->bQ w a (if z>ks then ks else ks++[z]) h'->Q b {s with heap:=h',toks:=s.toks+1}):↥A (Vi a (.str z tk)) Q E s:=by
 show vi (Z2 (Xv (l7 d c e)))
end
abbrev pL(ks:ZB)(z:jz):ZB:=if z>ks then ks else ks++[z]
abbrev aL(ss:ZB):ZB:=ss.foldl pL []
def DW(ks:ZB)(z:jz):(pL ks z)\5<=ks\5+1:=by
 unfold pL;split
 .lia
 .show Z9▸Zi _
def DX:y>pL ks z↔y>ks\/y=z:=by
 unfold pL;by_cases h:z>ks
 .rw[hY h]
  simp_all
 .rw[hH h,Yq,Yx]
def zv(h:ks.Nodup):(pL ks z).Nodup:=by
 unfold pL;by_cases a:z>ks
 .rw[hY a];show h
 .rw[hH a];show pV h a
def wS:∀{ss ks:ZB} {y:jz},y>ss.foldl pL ks↔y>ks\/y>ss
 |[],ks,y=>by simp
 | z::r,ks,y=>by
   rw[Y6,wS,DX,Yu]
   grind
def qB:∀{ss ks:ZB},ks.Nodup->(ss.foldl pL ks).Nodup
 |[],_,h=>h
 | z::r,ks,h=>by
   rw[Y6];show qB (zv h)
def bo:y>aL ss↔y>ss:=by unfold aL;rw[wS];simp
def cu(ss:ZB):(aL ss).Nodup:=qB X2
def wU:∀(ss ks:ZB),(ss.foldl pL ks)\5<=ks\5+ss\5
 |[],ks=>by simp
 | z::r,ks=>by
   let a:=wU r (pL ks z);let b:=DW ks z;rw[Y6,Zr]
   lia
def wV{ss:ZB}{i:gf}{z:jz}(h:ss[i]?>=z):aL (ss.take (i+1))=pL (aL (ss.take i)) z:=by
 unfold aL;rw[Xc,h,SX];rfl
def bQ.keep(S:bQ w a ks h)(k:∀o,h.get? a>=o->h'.get? a>=o):bQ w a ks h':=by
 let%[o,b,c,t,ss,d|r]:=S;show%[o,b,c,t,ss,k o d|r]
section
variable{prog:mu}{w:rM}{A:ri}{R:Tu->jg->Prop}{I:hW}{fp wr:fx hW}{G:mx R7->mx R7->Prop}{n:gf}{P:gf->hV->Prop}{St:gf->jg->Prop}
def wW(W:WalksS prog w A.in1 I fp wr G n P St)(S:hW)(f:S∉fp){T:gf->su->Prop}{V:su->Prop}(tk:∀i h h',T i h->(∀o,h.get? S>=o->h'.get? S>=o)->T i h')(u:∀h h',V h->(∀b o,b≠S->b∉wr->h.get? b>=o->h'.get? b>=o)->V h')
 (add:∀i v (a:jg) (Q:on->jg->Prop) (E:ZD),P i v->T i a.heap->V a.heap->(∀h' b t,q7 S a.heap h'->T (i+1) h'->a.toks<=t->Q b {a with heap:=h',toks:=t})->↥A.in1 (Vi S v) Q E a):
 ∀(k i:gf) (s:jg),n-i=k->i<=n->St i s->T i s.heap->V s.heap->
  (∀s',Moved (S::wr) G s s'->T n s'.heap->R (.ok (.ret .none)) s')->Pw (Nm prog w) A (.builtin "set.update.loop" %[[.ref S,.ref I]|[]]) R s:=by
 let out:S∉wr:=λh=>f (W.sub _ h)
 let more:∀b>wr,b>S::wr:=λb c=>Zk _ c
 intro k
 induction k with
 | zero=>
   intro i s B hi st j y fin;let e:i=n:=by lia
   subst e;show Nd UK ?_;rw[Nh QX _];change pw _ A.in1 (Pj (.ref I)>>= _) _ _ s;show Z2 (W.done s _ _ st λa d=>?_);change pw _ A.in1 (ret M3) _ _ a;show Z3 (fin a (d.mono more) (tk _ _ _ j λo e=>d.heap S o out e))
 | succ k C=>
   intro i s B hi st j y fin;let lt:i<n:=by lia
   show Nd UK ?_;rw[Nh QX _];change pw _ A.in1 (Pj (.ref I)>>= _) _ _ s;show Z2 (W.item i s _ _ lt st λv a pv l d=>?_);let g:=u _ a.heap y λb o _ c e=>d.heap b o c e
   show Z2 (vi (add i v a _ _ pv (tk _ _ _ j λo e=>d.heap S o out e) g λL b M m p z=>Z3 %[N9 QX _|C (i+1) _ ⋯ lt (W.frame _ a _ _ l z λb c o e=>?_) p (u _ _ g λb o n _ e=>(m.2 b n).trans e) λH J r=>?_]))
   .show(m.2 b (λq:b=S=>f (q▸c))).trans e
   .show fin H (W7 W.gtrans ((d.mono more).then_heap z λb o c e=>(m.2 b (λq:b=S=>c (q▸Zm))).trans e) J) r
end
section
#where
noncomputable abbrev cb(w:rM):NV:={cls:= .type "set",dict:=fD,data:= .set #[] 0 (.fresh 0 0 (!bi w))}
def DY(a:hV)(h:Q₁ (.ref ⇑s) (s>>>s.heap.push (cb w))):
 Pw (Nm prog w) A (.call (.builtin "set.__new__") %[[.type "set",a]|[]]) (wants Q₁ E) s:=by
 show TY ?_;change pw _ A.in1 _ _ _ s;show Z2 (VP (PySem.F.newCall_set_1 a) (Z3 %[N9 PySem.F.plain_set_new _|Nd PySem.F.entry_set_new ?_]));unfold m4.«set.__new__» Wd;let b:=sub_set_self;let%[c,g,d,tk|os]:=s;dsimp only
 wp_walk
 show M0 (Z3 ?_);dsimp only;simp only[newObj];show Z2 (wpAny_alloc (Z3 (Z3 h)))
def bQ.empty(e:h.get? a>=cb w):bQ w a [] h:=
 %[_,#[],0,_,[],e,%[rfl,rfl|rfl],rfl,.nil,.nil,X2,λe b=>by simp at b,!1,rfl,λq=>lr rfl q|rfl]
def oQ{T:gf->su->Prop}(hh:A.handled=fD)(hl:s.heap.IsList l items)(t0:∀h,h.get? ⇑s>=cb w->T 0 h)(tk:∀i h h',T i h->(∀o,h.get? ⇑s>=o->h'.get? ⇑s>=o)->T i h')
 (add:∀i v (g:jg) (Q:on->jg->Prop) (E:ZD),items[i]?>=v->T i g.heap->(∀b o,s.heap.get? b>=o->g.heap.get? b>=o)->(∀h' b t,q7 ⇑s g.heap h'->T (i+1) h'->g.toks<=t->Q b {g with heap:=h',toks:=t})->↥A.in1.in1.in1 (Vi ⇑s v) Q E g)
 (hQ:∀(h':su) (tk:gf),T items.size h'->(∀b o,s.heap.get? b>=o->h'.get? b>=o)->Q (.ref ⇑s) {s with heap:=h',toks:=tk}):
 ↥A (call (.type "set") [.ref l]) Q E s:=by
 let%[c,tl|ab]:=Pm.mro;let G:=Pm.made;let ac:=Pm.sub;show OH (TY ?_);change pw _ _ (callAny (.type "set") _) _ _ _;show Z3 %[RG _ (!0)|Nd F.entry_type_call ?_];rw[ri.under_plain (weight_type_call_type "set" [.ref l] []) rfl];let ag:=Pm.notType;let ai:=Pm.canCreate;let aj:=PySem.F.typeCall_set_1 (.ref l)
 repeat any_goals first|assumption|wp_step
 show codeAny_mono (DY (.ref l) (E:=E) (Q₁:=λobj j=>obj= .ref ⇑s/\j=(s>>>s.heap.push (cb w))) %[rfl|rfl]) λr j H=>?_
 cases r with
 | error e=>show H
 | ok fl=>
   cases fl with
   | ret obj=>
     let%[rfl|rfl]:=H;let gS:(s.heap.push (cb w)).get? ⇑s>=cb w:=Zj _ rfl;let tS:Rs (s>>>s.heap.push (cb w)) (.ref ⇑s) "set":=%[_,gS|rfl]
     let al:=Pm.init.lookup;let an:=Pm.init.bind (.ref ⇑s)
     repeat any_goals first|assumption|wp_step
     show codeAny_mono (PL (R:=wants (λr m=>r= .none/\∃h' tk,m={s with heap:=h',toks:=tk}/\T items.size h'/\(∀b o,s.heap.get? b>=o->h'.get? b>=o)) E) Pm.init.plain F.entry_set_init (check_set_init_1 tS ?_)) λu m a=>?_
     .let%[ol,gl,cl,nl|dl]:=hl;let%[ae,n,I|f]:=ol;simp only at cl dl;subst cl;subst dl;let J:(s.heap.push (cb w)).get? l=fI {cls:= .type "list",dict:=n,data:= .seq items nl,slots:=f}:=Z7 _ gl;let aq:=PySem.F.sub_list_set;let as:=PySem.F.sub_list_frozenset;let aR:(MS "list"==MS "dict")=gi:=!1
      let y:(s.heap.push (cb w)).IsList l items:=%[_,J,rfl,nl|rfl]
      unfold m4.«set.__init__»;unfold noKeywords;unfold Wb
      generalize L:Vj=PI
      wp_walk
      subst L;show Od y (Z2 (Ud ?_));let z:l<⇑s:=Zu gl;let h3:A.in1.in1.in1.handled=fD:=by simp[hh]
      let B:(s.heap.push (cb w)).objs.size=⇑s+1:=Zq ..;let M:l≠(s.heap.push (cb w)).objs.size:=by rw[B];show Zs (Yl z)
      let N:⇑s∉[(s.heap.push (cb w)).objs.size,l]:=by
       rw[B];simp only[Yu,X4,J5,Oj];show%[Zs (Ym _)|Yy z]
      show wW ((Rz h3 _ l M items).toS) ⇑s N (V:=λh=>∀b o,s.heap.get? b>=o->h.get? b>=o) tk (λh h' v k b o e=>?_) (λi v g Q E pv t v' q=>add i v g Q E pv t v' q) (items.size-0) 0 _ ⋯ (Xg _)
       %[%[_,Zj _ rfl,rfl|rfl]|y.push _] (t0 _ (Z7 _ gS)) (λb o e=>Z7 _ (Z7 _ e)) ?_
      .let d:=Zu e;show k b o (Zs d) ?_ (v b o e);simp only[Yu,X4,J5,B];show Zs (Yl d)
      intro s3 C O;let%[h',g',d',U|Y]:=s3;let eg:g'=s.gens:=C.gens;let ed:d'=s.drawn:=C.drawn;let eo:Y=s.os:=C.os;subst eg;subst ed;subst eo;show Z3 ?_;change pw _ _ (ret M3) _ _ _;show Z3 %[rfl,h',U,rfl,O|λb o e=>?_];let d:=Zu e;show C.heap b o ?_ (Z7 _ (Z7 _ e));simp only[Yu,X4,J5,Oj,B];show%[Zs d|Zs (Yl d)]
     .cases u with
      | error e=>show a
      | ok p=>
        cases p with
        | ret r=>
          let%[rfl,h',tk,rfl,O|k3]:=a
          repeat any_goals first|assumption|wp_step
          show hQ _ _ O k3
        | _=>show a.elim
   | _=>show H.elim
end
section
variable{X:Cx}{K:ZA}
abbrev jk(w:rM)(a:hW)(ks:ZB):HO:= .ext (bQ w a ks)
def DZ(y:X.calm=gb):cH X (.type "set") (λxs H Q=>cP xs λg=>asR g λp=>∃ss,Qb X.K H p (ss\3)/\ss\5<=4000/\∀l,H l=fD->Q (.ref l) (Qa H l (jk X.w l (aL ss)))):=by
 intro ff s M H xs us Q I r h;let%[g,rfl|a]:=bJ h;let%[p,rfl|c]:=aT a;let%[ss,z,N|q]:=c;let%[u,rfl|A]:=dq r;cases A;let%[its,j,pl|O]:=I.list z;let d:=jf j;let m:its.toArray.size=ss\5:=c8 d;show oQ (T:=λi h=>bQ X.w ⇑s (aL (ss.take i)) h) (I.ok.hd y) pl.isList (λh e=>bQ.empty e) (λi h h' S k=>S.keep k) (λi v U Q E n B _ k=>?_) λh' tk S k=>?_
 .let lt:i<ss\5:=m▸(rb.mp n).1;let%[u,C,t|rfl]:=j.get (i:=i) (x:= .str ss[i]) (by simp[lt]);obtain rfl:v=_:=Za (n.symm.trans ↑C);let q:=wU (ss.take i) [];rw[Yj]at q;show wR B (by change(aL (ss.take i)).length+1<4096;unfold aL;simp only[Rp]at q;lia) λw b G f=>k w b _ G ?_ (Ye _)
  rw[wV (Z4 lt)];show f
 .rw[m,Zn (Zi _)]at S;show%[.ref ⇑s,_,I.laid (o:=jk X.w ⇑s _) k (Zi _) %[S,?_|λY w J k1=>J.keep k1],ρ|q _ I.fresh];let%[o,_,_,_,_,L|_]:=S;show%[o|L]
def wX(h:X.K=K)(hw:X.w=w)(a:X.calm=gb):cj X (.type "set") (λxs H Q=>cP xs λb=>asR b λp=>∃ss,Qb K H p (ss\3)/\ss\5<=4000/\∀l,H l=fD->Q (.ref l) (Qa H l (jk w l (aL ss)))):=by subst h;subst hw;show⟨DZ a⟩
end
def jm:∀{xs:fx a} {i:gf} (h:i<xs\5),(xs[i]::xs.eraseIdx i).Perm xs
 | x::r,0,_=>by simp
 | x::r,i+1,h=>by
   show(UY _ _ _).trans (.cons _ (jm ↑h))
section
#where
def B0(a:n≠0)(h:∀i d,i<n->Q i {s with drawn:=d}):↥A (choose b n) Q E s:=by
 intro c p _;show%[a|h _ _ (RU _ (PR a))]
def vp:∀(n:gf) (xs:fx b) (s:jg) (Q:fx b->jg->Prop),xs\5<=n->(∀ys d,ys.Perm xs->Q ys {s with drawn:=d})->↥A (drawOrder n xs) Q E s
 | 0,xs,s,Q,a,h=>by
   let e:=vu.mp (le_zero.mp a);subst e;show Z3 (h [] s.drawn .nil)
 | n+1,[],s,Q,a,h=>Z3 (h [] s.drawn .nil)
 | n+1,x::r,s,Q,a,h=>by
   unfold drawOrder;show Z2 (B0 ∅ λi d hi=>?_);rw[(Z4 hi)];show Z2 (vp n _ _ _ (by rw[UJ];simp only[hi];simp_all) λys c p=>Z3 (h _ c ((UZ _ p).trans (jm hi))))
end
def Av(next:gf->gf):∀(fuel k:gf) (left:fx a) (out:mx a),left\5<=fuel->(SU next fuel k left out).toList.Perm (out.toList++left)
 | 0,k,left,out,h=>by
   let e:=vu.mp (le_zero.mp h);subst e;rw[Zx];show .refl _
 | fuel+1,k,[],out,h=>by
   unfold SU;simp
 | fuel+1,k,x::r,out,h=>by
   unfold SU;let hi:next k% ~~~(x::r)<(x::r)\5:=RU _ ∅;rw[Z4 hi];show(Av next fuel _ _ _ (by rw[UJ];simp_all)).trans ?_;rw[RP,Ze];show(MV _).append (jm hi)
def tU(next:gf->gf)(xs:mx a):(NX next xs).toList.Perm xs.toList:=by
 let:=Av next xs.size 0 xs.toList #[] ∅;simpa [NX]using this
def tV(p j:gf):Op #[p] j=if p<j then 1 else 0:=by
 unfold Op;simp only[Zp,Zr];unfold Ur;simp
 split<;>(rfl)
def oR{xs:mx gf}{i:gf}(h:xs.size<=1)(hi:i<=xs.size):Op xs (if i=0 then 0 else xs.getD (i-1) 0+1)=i:=by
 obtain⟨l⟩:=xs
 match l,i,h with
 |[],i,_=>
  obtain rfl:i=0:=↑hi
  rfl
 |[p],0,_=>rw[tV];simp
 |[p],1,_=>rw[tV];simp
 |[p],i+2,_=>simp at hi
abbrev SIt(w:rM)(I S T:hW)(o:NV)(b:mx (md×hV))(c:gf)(t:kG)(a:ZF)(i:gf)(h:su):Prop:=
 h.get? S>=o/\∃first,h.get? I=fI {cls:= .type "set_iterator",dict:=fD,data:= .fields #[first,M6 i,.ref S,M6 b.size,M6 c],slots:= #[]}/\
  ((bi w=gb/\first=M6 0/\a=(NX (w.params.setOrder S c) b).toList\2)\/
   (bi w=gi/\first= .ref T/\T≠I/\∃ps:fx gf,h.get? T=fI {cls:= .type "tuple",data:= .seq (ps.map λ(i:gf)=>M6 i).toArray}/\ps\5=a\5/\∀(j p:gf),ps[j]?>=p->∃e,b[p]?>=e/\a[j]?>=e.2)\/
   (bi w=gi/\b.size<=1/\a=b.toList\2/\first=M6 ((if i=0 then 0 else t.place.getD (i-1) 0+1:gf):md)))
def SIt.is{w:rM}{I S T:hW}{o:NV}{b:mx _}{c:gf}{t:kG}{a:ZF}{i:gf}{s:jg}(h:SIt w I S T o b c t a i s.heap):s.TypeIs (.ref I) "set_iterator":=by
 let%[_,f,d|_]:=h;show%[_,d|ρ]
section
#where
variable{I S T:hW}{o:NV}{es:mx (md×hV)}{ep:gf}{t:kG}{ord:ZF}
def wY{slot i:gf}{Q:ij (hV×gf)->jg->Prop}(d:s.heap.get? S>=o)(e:o.data= .set es ep t)(f:t.fits es.size=gb)(b:t.led=!bi w)(c:bi w=gi)(h:es.size<=1)
 (g:Q (match es[Op t.place slot]?,t.place[Op t.place slot]? with|fI (_,x),fI j=>fI (x,j+1)|_,_=>fD) s):↥A (R8 S slot i ep) Q E s:=by
 unfold R8;show Z2 (n7 d e f ?_);change pw _ _ (if bi w=gb then _ else _) _ _ _;rw[hH (by rw[c];decide)];dsimp only
 split
 .rename_i a
  change (!t.plain&&decide (GT.gt es.size 1))=gb at a;rw[show decide (GT.gt es.size 1)=gi from Zh !_,Nx]at a;cases a
 .show Z2 (m:=(if(!t.led&&!es.isEmpty)=gb then Qt "set:maker-not-led" else pure ())) ?_;rw[b,c];show Z3 ?_;show Z3 g
def zw{i:gf}{v:hV}{Q:ij hV->jg->Prop}(p:o.data= .set es ep t)(h:t.fits es.size=gb)(q:t.led=!bi w)(j:S≠I)(st:SIt w I S T o es ep t ord i s.heap)(d:ord[i]?>=v)(hn:ord\5=es.size)
 (L:∀h',SIt w I S T o es ep t ord (i+1) h'->q7 I s.heap h'->Q (fI v) (s>>>h')):↥A (Pj (.ref I)) Q E s:=by
 let Y:=st.is;let%[f,first,H|m]:=st;unfold Pj;show Z2 (NO (Nq (name:=!"__next__") Y cE (MA cE Y iU ?_ (jG _))));unfold m4.«set_iterator.__next__»;show Z2 (m:=slotArgs _ _ _) (Z3 ?_);show Z2 (RM H rfl ?_);change pw _ _ (setEntries S>>= _) _ _ _;show Z2 (Oq f p h ?_);rw[hH ∅];rcases m with⟨g,rfl,r⟩|⟨g,rfl,u,ps,y,M,z⟩|⟨g,h1,r,rfl⟩
 .change pw _ _ (R8 S 0 i ep>>= _) _ _ _;show Z2 ?_;unfold R8;show Z2 (n7 f p h ?_);show Z2 (Z2 (M0 (Z3 ?_)));change pw _ _ (if bi w=gb then _ else _) _ _ _;rw[hY g];dsimp only;rw[hH (show ¬ ((ep != ep)=gb) by simp)];show Z2 ?_;unfold setWalk;show Z2 (n7 f p h ?_);show Z2 (Z2 (M0 (Z3 ?_)));change pw _ _ (if bi w=gb then _ else _) _ _ _;rw[hY g];show Z2 (M0 (Z3 (Z3 ?_)));let c:(NX (w.params.setOrder S ep) es)[i]?.map (·.2)>=v:=by
   rw[r]at d;simpa using d
  cases N:(NX (w.params.setOrder S ep) es)[i]? with
  | none=>rw[N]at c;cases c
  | some e=>
    rw[N]at c;let B:e.2=v:=↑c
    change pw _ _ (match((NX (w.params.setOrder S ep) es)[i]?).map λe=>(e.2,0)with|fI (x,next)=>_|none=>_) _ _ _;rw[N];show Z2 (vr H ∅ λg1 b a=>?_);show Z2 (vr (s:=(s>>>g1)) b ∅ λg2 l n=>?_);rw[B];let C:q7 I s.heap g2:=a.trans n;show Z3 %[v,rfl|Z3 (L g2 %[(C.2 S j).trans f,_,l|.inl %[g,rfl|r]] C)]
 .show Z2 (M8 y rfl ?_);let hi:i<ord\5:=(Xn d).1;let O:i<ps\5:=by lia
  let%[e,J|U]:=z i ps[i] ∅;let B:e.2=v:=by rw[U]at d;show Za d
  let G:(ps.map λ(i:gf)=>M6 i).toArray[(i:md).toNat]?>=M6 ps[i]:=by simp[O]
  dsimp only;rw[G];change pw _ _ (setNextDrawn S ps[i] ep>>= _) _ _ _;show Z2 ?_;unfold setNextDrawn;show Z2 (n7 f p h ?_);dsimp only;rw[hH (show ¬ ((ep != ep)=gb) by simp),J];show Z3 ?_;show Z2 (vr H ∅ λg1 b a=>?_);rw[B];show Z3 %[v,rfl|Z3 (L g1 %[(a.2 S j).trans f,_,b|.inr (.inl %[g,rfl,u,ps,(a.2 T u).trans y,M|z])] a)]
 .let hi:i<ord\5:=(Xn d).1;let pz:t.place.size=es.size:=by
   simp only[Oe,Zv,NE,xr]at h;show h.1
  obtain⟨e,J⟩:∃e,es[i]?>=e:=%[es[i]|by simp]
  let B:e.2=v:=by
   rw[r]at d;let:(es[i]?)\2>=v:=↑d
   rw[J]at this;simpa using this
  change pw _ _ (R8 S (if i=0 then 0 else t.place.getD (i-1) 0+1) i ep>>= _) _ _ _;show Z2 (wY f p h q g h1 ?_);rw[oR ⋯ !_,J,show t.place[i]?>=t.place.getD i 0 by simp[RE,show i<t.place.size by lia]];change pw _ _ (SS (.ref I) 0 (M6 ((t.place.getD i 0+1:gf):md))>>= _) _ _ _;show Z2 (vr H ∅ λg1 b a=>Z2 (vr (s:=(s>>>g1)) b ∅ λg2 l n=>?_));rw[B];let C:q7 I s.heap g2:=a.trans n;show Z3 %[v,rfl|Z3 (L g2 %[(C.2 S j).trans f,_,l|.inr (.inr %[g,h1,r|rfl])] C)]
def wZ{c:Type}{Q:c->jg->Prop}(d:A.handled=fD)(f:∀h' e,(∀b o,s.heap.get? b>=o->h'.get? b>=o)->(∃o,h'.get? e>=o/\o.cls= .type "StopIteration")->E (.ref e) (s>>>h')):
 ↥A (newExc (.type "StopIteration") []>>= λe=>(raiseNew e)) Q E s:=by
 show Z2 ?_;show Z2 (MF ?_ (by size_fits));show Z2 (VP (a:=M3) (by first|rfl|lia) (MF (Wh d (f _ _ (λb o e=>Z7 _ (Z7 _ e)) %[_,Zj _ rfl|rfl])) (by size_fits)))
def B1{i:gf}{Q:ij hV->jg->Prop}(C:A.handled=fD)(j:o.data= .set es ep t)(c:t.fits es.size=gb)(d:t.led=!bi w)(st:SIt w I S T o es ep t ord i s.heap)(hi:i=ord\5)(hn:ord\5=es.size)
 (G:∀h',(∀b o,b≠I->s.heap.get? b>=o->h'.get? b>=o)->Q fD (s>>>h')):↥A (Pj (.ref I)) Q E s:=by
 let y:=st.is;let%[l,first,n|m]:=st;let p:A.in1.handled=fD:=C;let fin:∀(g:su) (z:Fin->jg->Prop),q7 I s.heap g->↥A.in1 (newExc (.type "StopIteration") []>>= λe=>(raiseNew e:Sem Fin)) z (λe s'=>↥A (do
  if(<-WA e (.type "StopIteration"))then pure fD else throw e) Q E s') (s>>>g):=λg z H=>by
  show wZ p λh' e k ⟨J,L,M⟩=>?_
  show Z2 (NW (T:="StopIteration") (b:=gb) %[J,L|M] Um (Z3 (G h' λb o N q=>k b o ((H.2 b N).trans q))))
 unfold Pj;show Z2 (NO (Nq (name:=!"__next__") y cE (MA cE y iU ?_ (jG _))));unfold m4.«set_iterator.__next__»;show Z2 (m:=slotArgs _ _ _) (Z3 ?_);show Z2 (RM n rfl ?_);change pw _ _ (setEntries S>>= _) _ _ _;show Z2 (Oq l j c ?_);rw[hH ∅];rcases m with⟨f,rfl,B⟩|⟨f,rfl,O,ps,r,U,Y⟩|⟨f,h1,B,rfl⟩
 .change pw _ _ (R8 S 0 i ep>>= _) _ _ _;show Z2 ?_;unfold R8;show Z2 (n7 l j c ?_);show Z2 (Z2 (M0 (Z3 ?_)));change pw _ _ (if bi w=gb then _ else _) _ _ _;rw[hY f];dsimp only;rw[hH (show ¬ ((ep != ep)=gb) by simp)];show Z2 ?_;unfold setWalk;show Z2 (n7 l j c (Z2 (Z2 (M0 (Z3 ?_)))));change pw _ _ (if bi w=gb then _ else _) _ _ _;rw[hY f];show Z2 (M0 (Z3 (Z3 ?_)));let hp:(NX (w.params.setOrder S ep) es)[i]? =fD:=by
   rw[mx.getElem?_eq_none_iff,hi,B,Z6,Zb];show Zi _
  change pw _ _ (match((NX (w.params.setOrder S ep) es)[i]?).map λe=>(e.2,0)with|fI (x,next)=>_|none=>_) _ _ _;rw[hp];change pw _ _ (SS (.ref I) 2 .none>>= _) _ _ _;show Z2 (vr n ∅ λg1 _ a=>fin g1 _ a)
 .change pw _ _ (seqItems? (.ref T)>>= _) _ _ _;show Z2 (M8 r rfl ?_);let h:(ps.map λ(i:gf)=>M6 i).toArray[(i:md).toNat]? =fD:=by simp;lia
  dsimp only;rw[h];show Z2 (vr n ∅ λg1 u a=>Z2 (vr u ∅ λg2 _ v=>fin g2 _ (a.trans v)))
 .let pz:t.place.size=es.size:=by
   simp only[Oe,Zv,NE,xr]at c;show c.1
  change pw _ _ (R8 S (if i=0 then 0 else t.place.getD (i-1) 0+1) i ep>>= _) _ _ _;show Z2 (wY l j c d f h1 ?_);rw[oR ⋯ !_,show es[i]? =fD by simp;lia];show Z2 (vr n ∅ λg1 _ a=>fin g1 _ a)
end
def jH:Slot "set_iterator" "__iter__" "set_iterator.__iter__":=
 .of (owner:="set_iterator") (n:="__iter__") (by rw[TX,Ry];kernel_rfl) (!0) (!0) (!0) (by first|show .inl (!0)|show .inr ∅) (by kernel_rfl)
def nK:SY WR "set_iterator.__iter__"=fI m4.«dict_keyiterator.__iter__»:=RX (id':="dict_keyiterator.__iter__") (by kernel_rfl) rfl (!0) (by kernel_rfl)
def pM(a:hV):argsOk "set_iterator.__iter__" %[[a]|[]]:=by kernel_rfl
def vq:Pi (.type "set") "__len__"=pure (fI (.builtin "set.__len__")):=by kernel_rfl
section
#where
variable{I S T:hW}{o:NV}{es:mx (md×hV)}{ep:gf}{t:kG}{ord:ZF}
def B2(hh:A.handled=fD)(hd:o.data= .set es ep t)(hf:t.fits es.size=gb)(hled:t.led=!bi w)(hSI:S≠I)(hn:ord\5=es.size):
 Walks prog w A I [I,S,T] [I] ord.length (λi v=>ord[i]?>=v) (λi h=>SIt w I S T o es ep t ord i h) where
 sub:=by simp
 frame:=λi h h' st k=>by
  let%[hS,first,hI|m]:=st;show⟨k S ∅ _ hS,first,k I ∅ _ hI,?_⟩;rcases m with m|⟨bt,e,hTI,ps,hTt,r⟩|m
  .show .inl m
  .show .inr (.inl %[bt,e,hTI,ps,k T ∅ _ hTt|r])
  .show .inr (.inr m)
 item:=λi s Q E hi st hQ=>zw (v:=ord[i]) hd hf hled hSI st ∅ hn λh' st' sb=>hQ _ h' s.toks ∅ st' λb o' hb e=>(sb.2 b (λq=>hb (by simp[q]))).trans e
 done:=λs Q E st hQ=>B1 hh hd hf hled st rfl hn λh' k=>hQ h' s.toks λb o' hb e=>k b o' (λq=>hb (by simp[q])) e
 self:=λi s Q E st hQ=>by
  let hT:=st.is;show Qr hT jH (MA jH hT nK (Z3 %[_,rfl,"set_iterator",_,hT,cE.lookup|hQ]) (pM _))
def B3(f:s.heap.get? S>=o)(z:o.ExactSet)(B:o.data= .set es ep t)(hb:es.size<OQ)(C:t.fits es.size=gb)(G:es.size≠0->t.plain=gi)(N:t.led=!bi w)
 (hQ:∀(I T:hW) (ord:ZF) (h':su) d,(∀b o,s.heap.get? b>=o->h'.get? b>=o)->⇑s<=I->S≠I->(T=S\/⇑s<=T)->T<h'.objs.size->I<h'.objs.size->ord\5=es.size->
  SIt w I S T o es ep t ord 0 h'->ord.Perm (es.toList\2)->Q (.ref I) {s with heap:=h',drawn:=d}):↥A (Vj (.ref S)) Q E s:=by
 let O:s.TypeIs (.ref S) "set":=%[o,f|z.1]
 let l:S<⇑s:=Zu f;show Qr O W9 (MA W9 O sG ?_ (F.args_set_iter_1 _));unfold m4.«frozenset.__iter__»;show Z2 (m:=Wc _ _) (Z2 (m:=slotArgs _ _ _) (Z3 (Z3 ?_)));show Z2 (m:=Rt S) (Z2 (Oq f B C (Z3 ?_)));show Z2 (m:=setDrawn S) ?_;unfold setDrawn;show Z2 (n7 f B C (Z2 (Z2 (M0 (Z3 (Z3 ?_))))));let fin:∀(first:hV) (a:jg) (T:hW) (ord:ZF),a.heap.get? S>=o->(∃d c,a={s with heap:=c,drawn:=d})->(∀b o,s.heap.get? b>=o->a.heap.get? b>=o)->T<⇑a->⇑s<=⇑a->(T=S\/⇑s<=T)->ord.Perm (es.toList\2)->
  ((bi w=gb/\first=M6 0/\ord=(NX (w.params.setOrder S ep) es).toList\2)\/(bi w=gi/\first= .ref T/\∃ps:fx gf,a.heap.get? T=fI {cls:= .type "tuple",data:= .seq (ps.map λ(i:gf)=>M6 i).toArray}/\ps\5=ord\5/\∀(j p:gf),ps[j]?>=p->∃e,es[p]?>=e/\ord[j]?>=e.2)\/(bi w=gi/\es.size<=1/\ord=es.toList\2/\first=M6 0))->ord\5=es.size->
  ↥A.in1 (do ret (<-newFields "set_iterator" [first,M6 0,.ref S,M6 es.size,M6 (<-Uf S)])) (λfin s'=>∃v,fin=Fin.done (Flow.ret v)/\∃U r,s'.TypeIs v U/\Pi (.type U) "__next__"=pure (fI r)/\Q v s') (λe s'=>E e s') a:=by
  intro first a T ord c %[d,g1|e1] k1 Y sl H u m hn
  subst e1;show Z2 (wpAny_setEpoch_of c B C (Z2 (MF ?_)));let gI:(g1.push {cls:= .type "set_iterator",data:= .fields #[first,M6 0,.ref S,M6 es.size,M6 ep]}).get? g1.objs.size>=_:=Zj _ rfl;show Z3 %[_,rfl,"set_iterator",_,%[_,gI|rfl],cE.lookup|hQ g1.objs.size T ord _ d (λb o' e=>Z7 _ (k1 b o' e)) sl (Zs (Zu c)) H (by rw[Zq];show Yl Y) (by rw[Zq];show Ym _) hn ?_ u];show⟨Z7 _ c,first,gI,?_⟩;rcases m with m|⟨g,e,ps,J,r⟩|⟨g,L,eo,e⟩
  .show .inl m
  .show .inr (.inl %[g,e,Zs Y,ps,Z7 _ J|r])
  .show .inr (.inr %[g,L,eo|e])
 let lst:(es.toList\2)\5=es.size:=by rw[Z6,Zb]
 by_cases g:bi w=gb
 .change pw _ _ (if(!bi w&&_)=gb then _ else _) _ _ _;rw[g,WN,Ob,hH ∅];show Z2 (Z3 ?_);let n:=(tU (w.params.setOrder S ep) es)\2;show fin (M6 0) s S _ f %[s.drawn,s.heap|rfl] (λ_ _ e=>e) l (Zi _) (.inl rfl) n (.inl %[g,rfl|rfl]) (by rw[n.length_eq,lst])
 .let y:bi w=gi:=↑g
  change pw _ _ (if(!bi w&&(!t.plain&&decide (GT.gt es.size 1)))=gb then _ else _) _ _ _;by_cases c:GT.gt es.size 1
  .rw[y,G !_,Zf c];show Z2 (vp es.size _ _ _ ∅ λps d h=>Z2 (RK ?_ (by rw[Z6,h.length_eq,Yh];show NK hb)));let lt:∀p>ps,p<es.size:=λp q=>vj.mp (h.mem_iff.mp q)
   let er:(kj es.size).map (λp=>((es[p]?)\2).getD .none)=es.toList\2:=by
    apply PH
    .simp
    .intro i u q2;simp at u;simp[u]
   let n:(ps.map (λp=>((es[p]?)\2).getD .none)).Perm (es.toList\2):=er▸h.map _;show fin _ _ ⇑s _ (Z7 _ f) %[d,_|rfl] (λb o' e=>Z7 _ e) (by rw[Zq];show Ym _) (by rw[Zq];show Ye _) (.inr (Zi _)) n
    (.inr (.inl %[y,rfl,ps,Zj _ rfl,by rw[Z6]|λj p q=>?_])) (by rw[n.length_eq,lst])
   let M:=lt p (Z8 q);show%[es[p],by simp|by simp[q,M]]
  .rw[y,Zh c];simp only[Nx,Zy];show fin (M6 0) s S _ f %[s.drawn,s.heap|rfl] (λ_ _ e=>e) l (Zi _) (.inl rfl) (MV _) (.inr (.inr %[y,!_,rfl|rfl])) lst
def l8(hh:A.handled=fD)(u:s.heap.get? S>=r)(a:r.ExactSet)(v:r.data= .set g aq t0)(y:g.size<OQ)(z:t0.fits g.size=gb)(B:g.size≠0->t0.plain=gi)(c:t0.led=!bi w)
 (hQ:∀s' vs,vs.Perm (g.toList\2)->(∀b o,s.heap.get? b>=o->s'.heap.get? b>=o)->s'.gens=s.gens->s'.os=s.os->⇑s<=⇑s'->Q vs s'):↥A (Rr (.ref S)) Q E s:=by
 unfold Rr;show Z2 (Ud (Nd F.entry_proto_collect ?_));rw[Nh F.plain_proto_collect _];change pw _ A.in1 (newList []>>= λl=>again (.builtin "list.__iadd__" %[[l,.ref S]|[]])) _ _ s;show Z2 (MF (Z3 %[N9 Qm _|Nd F.entry_list_iadd ?_]));rw[Nh Qm _];let i:S<⇑s:=Zu u;change pw _ A.in1 (NS (.ref ⇑s) (.ref S) (.ref ⇑s)) _ _ _;unfold NS
 generalize O:s.heap.push {cls:= .type "list",data:= .seq ([]:ZF).toArray}=G
 let gS:G.get? S>=r:=by rw[<-O];show Z7 _ u
 let gz:G.objs.size=⇑s+1:=by rw[<-O,Zq]
 let gL:G.get? ⇑s=fI {cls:= .type "list",data:= .seq ([]:ZF).toArray}:=O▸Zj _ rfl;let tS:Rs (s>>>G) (.ref S) "set":=%[r,gS|a.1]
 show Z2 (O0 (T:="set") tS ?_);let n1:Sg (.ref ⇑s) (.ref S)=gi:=by
  change(⇑s==S)=gi;show MQ.mpr (Yy i)
 let n2:(MS "set"==MS "list")=gi:=!1
 let n3:(MS "set"==MS "tuple")=gi:=!1
 simp only[n1,n2,n3,WM,Zy,Ow];show Z2 (B3 (s:=(s>>>G)) gS a v y z B c λI T ord h d k1 U ab ac as aR hn st q1=>?_);replace k1:∀b o,G.get? b>=o->h.get? b>=o:=k1;replace U:G.objs.size<=I:=U;let ae:h.get? S>=r:=k1 _ _ gS;show Z2 (vi ?_);unfold RD;let m:Rs {s with heap:=h,drawn:=d} (.ref S) "set":=%[r,ae|a.1]
 show Z2 (PN (T:="set") m vq ?_)
 wp_delta
 show Z2 (NW (T:="set") (b:=gb) m (by rw[isSubtype_type];kernel_rfl) ?_);change pw _ A.in1 (Qe (.ref S)>>= _) _ _ _;show Z2 (O0 (T:="set") m (Z3 ?_));rw[hY (!1)];show Z2 (N4 ?_);let C:h.get? ⇑s=fI {cls:= .type "list",data:= .seq ([]:ZF).toArray}:=k1 _ _ gL;show Z2 ?_;unfold YK;show Z2 (Ps (s:={s with heap:=h,drawn:=d}) C rfl ?_ (Xg _) (by change 1<=iv+1;lia));let H:=MB (NA (·.push M3)) C rfl;show Ps (xs:= #[M3]) (n:=1) (s:={s with heap:=h.update ⇑s (NA _),drawn:=d}) H rfl ?_ (!1) (by change 0<=iv+1;lia);let ag:=MB (NA (·.pop)) H rfl;let J:∀b o,b≠⇑s->h.get? b>=o->((h.update ⇑s (NA (·.push M3))).update ⇑s (NA (·.pop))).get? b>=o:=λb o Y e=>(MG _ _ (wh Y)).trans ((MG _ _ (wh Y)).trans e)
 let ai:=Zs (Zg (by rw[gz];show Ym _) U);let neT:⇑s≠T:=by
  rcases ac with e|e
  .show e▸Yy i
  .show Zs (Zg (gz▸Ym _) e)
 let L:⇑s∉[I,S,T]:=by
  simp only[Yu,X4,J5,Oj];show%[ai,Yy i|neT]
 let aj:ord\5<=iv:=hn▸NK y;let W:=B2 (prog:=prog) (A:=A.in1) (T:=T) (hh) v z c ab hn;let al:=W.frame 0 h _ st λb Y M e=>J b M (λq=>L (q▸Y)) e
 show Z3 %[N9 VL _|V2 W.toS aj _ L _ ord.length 0 _ _ _ rfl (Xg _) al ag (Wr _) λs5 acc c5 m5 N f=>?_];show Z2 (Ue N (Z3 ?_));let ea:acc.toList=ord:=by
  apply PY;intro j;by_cases hj:j<ord\5
  .let an:j<acc.size:=f.1▸hj;let:=f.2 j acc[j] ∅;rw[this];simp[an]
  .let l1:acc.toList\5=ord\5:=f.1;rw[Xm !_,Xm (l:=ord) !_]
 rw[ea];show hQ s5 ord q1 (λb M e=>?_) m5.gens m5.os (Yd (Zu N));let p:=Zu e;show m5.heap b M ?_ (J b M (Zs p) (k1 b M (O▸Z7 _ e)));simp only[Yu,X4,J5,Oj];show%[Zs p|Zs (Zg p (lx (gz▸Ye _) U))]
def w4(f:A.handled=fD)(h:bQ w S ks s.heap)
 (i:∀s' vs ss,M4 vs ss->ss.Perm ks->(∀b o,s.heap.get? b>=o->s'.heap.get? b>=o)->s'.gens=s.gens->s'.os=s.os->⇑s<=⇑s'->Q vs s'):↥A (Rr (.ref S)) Q E s:=by
 let%[o,es,ep,t,ss,j,c,l,d,m,n,p,q,r,e|a]:=h;show l8 f j c l q r e a λs' vs pv k g os sz=>?_
 let%[ts,u|v]:=cJ d pv;show i s' vs ts u (v.trans m) k g os sz
end
section
variable{X:Cx}{ff:ZE}{σ:St}{H:Hp}{s s':jg}
def Qc.keptS(I:Qc X ff σ H s)(k:∀b o,s.heap.get? b>=o->s'.heap.get? b>=o)(c:s'.gens=s.gens)(a:s'.os=s.os):Qc X ff σ H s':=by
 let%[h',p,u,t'|d]:=s';replace a:d=s.os:=a;subst c;subst a;show I.step (ch:=[]) (λb f=>lr f ∅) (λb o _ _ _ e _=>k b o e) (λb o _ _ _ e _=>%[o.slots|k b o e]) (λ_ _ _ _ n=>n) (λb o _ e=>%[o|k b o e]) (λ_ _ e=>e) (λ_ _ _ e=>e) (λb ps e=>%[#[]|by rw[e];simp]) (λm g=>?_) (λb v e=>?_) I.bare
 .let%[o,h,i,a|r]:=g;show%[o,h,i,k _ o a|r]
 .show(I.hok b v e).stay (λj l _ q=>k j l q) (λ_ q=>q) λ_ _ q=>q
variable{prog:mu}{w:rM}{A:ri}{E:ZD}
variable{S:hW}
end
def am{D:iN}(h:∀c:iN,(∀⦃a b⦄,u D a b->c.nx a b)->(∀v b,D.rt v b->c.rt v b)->t c d H):aZ t u D d H:=h _ (λ_ _ x=>x) λ_ _ x=>x
def aB{t:TS}{D:iN}(h:∀c:iN,(∀⦃a b⦄,D.nx a b->c.nx a b)->(∀v b,D.rt v b->c.rt v b)->t c d H):t D d H:=h _ (λ_ _ x=>x) λ_ _ x=>x
def l9{K:ZA}{xs:fx V}{g:TG}{j:TS}{D:iN}(Pv:gf->St->Hp->Prop)(n:Pv 0 b H)(o:∀i b H,i<=xs\5->Pv i b H->Qb K H a xs)
 (r:∀i x T b H,xs[i]?>=x->Pv i b H->H T=fD->g (.ref T) b (Qa H T (.tup [.int i,x])) λc h=>j {D with nx:=Pv (i+1),ct:=Pv (i+1),bk:=D.nx} c h) (s:∀b H,Pv xs.length b H->D.nx b H):
 ∃W:gf->gf->St->Hp->Prop,(∃m,W 0 m b H)/\∀i m b H,W i m b H->
  ((Ite K a xs).stop i H/\D.nx b H)\/((Ite K a xs).go i H/\∃N:St->Hp->Prop,(∀d f,N d f->∃l,l<m/\W (i+1) l d f)/\∀x f,(Ite K a xs).yld i H x f->g x b f λc h=>j {D with nx:=N,ct:=N,bk:=D.nx} c h):=by
 show%[λi m b H=>m=xs\5-i/\i<=xs\5/\Pv i b H,%[xs\5,by simp,Xg _|n]|?_];intro i m b H %[rfl,hi|p];let q:=o i b H hi p;by_cases lt:i<xs\5
 .show .inr %[%[q|lt],Pv _,λd f u=>%[xs\5-(i+1),!_,rfl,lt|u]|λv f y=>?_];let%[x,T,e,w,rfl|rfl]:=y;show r i x T b _ e p w
 .let e:i=xs\5:=by lia
  subst e;show .inl %[%[q|Zi _]|s b H p]
section
variable{X:Cx}{K:ZA}{pos:Pos}{a b:tI}{ta tb:TE}
def bL:OpQ X (No .Add) (rI0 λi j=> .int (i+j)):=⟨IY⟩
def dG:OpQ X (No .Mult) (rI Gf λi j=> .int (i*j)):=⟨I0⟩
def cn(h:X.K=K)(c:pU b)(d:QE X a ta)(e:QE X b tb):QE X (.Subscript a b pos) (tOp (Jo K) ta tb):=by subst h;show⟨Dr Gy d.h e.h c⟩
def LD(c:pU b)(d:QE X a ta)(e:QE X b tb):QE X (.Subscript a b pos) (tOp Jq ta tb):=⟨Dr Js d.h e.h c⟩
end
end _LL
namespace _CU
open PySem _LL PyProof.Rows
abbrev jn:jz:="abcdefghijklmnopqrstuvwxyz"
abbrev jI(c:gf):on:=decide (c>jn.cps.toList)
abbrev okc(c:gf):on:=decide (c=46)||jI c
abbrev nl:jz:="\n"
def LF:nl=⟨#[10]⟩:=rfl
def nM:jI c=gb↔97<=c/\c<=122:=by
 let e:jn.cps.toList=(kj 26).map (·+97):=!0
 unfold jI;rw[NC,e,Yv]
 constructor
 .rintro⟨i,h,rfl⟩;let:=vj.mp h
  lia
 .rintro⟨a,b⟩;show%[c-97,vj.mpr !_|!_]
def JI(h:okc c=gb):c≠10:=by
 intro e;subst e
 revert h
 decide +kernel
structure cV (rows:ZB):Prop where
 pos:1<=rows\5
 high:rows\5<=40
 wide:∃wd,1<=wd/\wd<=40/\∀r>rows,r.cps.size=wd
 sign:∀r>rows,r.cps.toList.all okc=gb
 fall:∀i r r',rows[i]?>=r->rows[i+1]?>=r'->∀(j c c':gf),r.cps[j]?>=c->r'.cps[j]?>=c'->c'=46->c=46
 some':∃r>rows,∃c>r.cps.toList,c≠46
def im{x y:jz}(h:x.cps.toList=y.cps.toList):x=y:=by
 obtain⟨⟨l⟩⟩:=x
 simp_all
def iV(sep x y:jz)(r:ZB):(ui sep (x::y::r)).cps.toList=x.cps.toList++sep.cps.toList++(ui sep (y::r)).cps.toList:=by
 change((x.cps++sep.cps) ++(ui sep _).cps).toList=_;rw[Xf,Xf]
def Ea [MM f]:∀{a b x y:fx f},c∉a->c∉b->a++c::x=b++c::y->a=b/\x=y
 |[],[],_,_,_,_,h=>%[rfl|(Oc h).2]
 |[],b::bs,_,_,_,d,h=>lr (((Oc h).1)▸Zm) d
 | a::as,[],_,_,e,_,h=>lr (((Oc h).1)▸Zm) e
 | a::as,b::bs,x,y,e,d,h=>by
   let%[g|i]:=Oc h;let%[j|l]:=Ea (λq=>e (Zk _ q)) (λq=>d (Zk _ q)) i;show%[by rw[g,j]|l]
def w6{c:gf}:∀{ps qs:ZB},ps≠[]->qs≠[]->(∀p>ps,c∉p.cps.toList)->(∀q>qs,c∉q.cps.toList)->(ui ⟨#[c]⟩ ps).cps.toList=(ui ⟨#[c]⟩ qs).cps.toList->ps=qs
 |[],_,h,_,_,_,_=>lr rfl h
 | _,[],_,h,_,_,_=>lr rfl h
 |[p],[q],_,_,_,_,e=>by rw[im (show p.cps.toList=q.cps.toList from e)]
 |[p],q::f::qs,_,_,a,_,e=>by
  rw[iV]at e;show lr ?_ (a p Zm);rw[show p.cps.toList=(ui _ [p]).cps.toList from rfl,e];simp
 | p::g::ps,[q],_,_,_,b,e=>by
   rw[iV]at e;show lr ?_ (b q Zm);rw[show q.cps.toList=(ui _ [q]).cps.toList from rfl,<-e];simp
 | p::g::ps,q::f::qs,_,_,a,b,e=>by
   rw[iV,iV,Ze,Ze]at e;let%[i|j]:=Ea (a p Zm) (b q Zm) e;rw[im i,w6 ∅ ∅ (λx d=>a x (Zk _ d)) (λx d=>b x (Zk _ d)) j]
def zx(a:rows≠[])(h:∀r>rows,10∉r.cps.toList):Txt.split (ui nl rows) nl=rows:=by
 let e:=StrLaws.join_split (ui nl rows) nl;rw[LF]at e ⊢;show w6 ?_ a (StrLaws.split_free _ 10) h (by rw[e]);intro q;let:=split_pos (ui ⟨#[10]⟩ rows) ⟨#[10]⟩
 simp_all
def cV.nonl(h:cV rows):∀r>rows,10∉r.cps.toList:=λr a b=>by
 let:=N3.mp (h.sign r a) 10 b;show JI this rfl
def cV.split(h:cV rows):Txt.split (ui nl rows) nl=rows:=
 zx (λe=>by let:=h.pos;simp_all) h.nonl
def vt:∀{xs:fx b},(∀x>xs,f x<=B)->(xs.map f).sum<=xs\5*B
 |[],_=>by simp
 | x::r,h=>by
   let c:=vt λy a=>h y (Zk _ a)
   let d:=h x Zm;rw[Yo,WE,Zr,gf.succ_mul]
   lia
def cV.sum(h:cV rows):(rows.map (·.length)).sum<=1600:=by
 let%[wd,_,c|a]:=h.wide;let:=vt (f:=λr:jz=>r\5) λr b=>by let:=a r b;change r.cps.size<=40;lia
 let:=h.high
 grind
def cV.text(h:cV rows):(ui nl rows)\5<=2000:=by
 let a:=Tt nl rows;let b:=h.sum;let c:=h.high;let d:nl.length=1:=rfl
 lia
abbrev sgn(c:gf):jz:=⟨#[c]⟩
def qC{a:fx gf}(h:∀c>a,jI c=gb): ~~~(aL (a.map sgn))<=26:=by
 let b:∀x>aL _,x>jn.cps.toList.map sgn:=λx d=>by
  let%[c,f|e]:=Xq (bo.mp d);show Xr %[c,Zo (h c f)|e]
 let:=fx.Nodup.length_le_of_subset (cu _) b;rw[Z6]at this;let e:jn.cps.toList.length=26:=!0
 lia
abbrev dQ(rows:ZB):fx gf:=(ui (!"") rows).cps.toList.filter (λc=>decide (c≠46))
def w8:∀(rows:ZB),(ui (!"") rows).cps.toList=(rows.map (·.cps.toList)).flatten
 |[]=>rfl
 |[x]=>by simp[ui]
 | x::y::r=>by
   let e:(!"").cps.toList=[]:=rfl;rw[iV,w8 _,e,Zx];simp
def nN(h:∀r>rows,r.cps.toList.all okc=gb):∀c>dQ rows,jI c=gb:=λc a=>by
 unfold dQ at a;rw[kw,w8]at a;let%[b|d]:=a;let%[l,e|f]:=Sx.mp b;let%[r,g|rfl]:=Xq e;let:=N3.mp (h r g) c f;unfold okc at this;rw[Ui]at this;rcases this with q|q
 .show lr (Zo q) (Zo d)
 .show q
def cV.signs_ne(h:cV rows):dQ rows≠[]:=by
 let%[r,b,c,d|a]:=h.some';let:c>dQ rows:=by
  unfold dQ;rw[kw,w8];show%[Sx.mpr %[_,Xr %[r,b|ρ]|d]|Zf a]
 grind
abbrev vv(z:jz):on:=(decide (1<=(z\5:md))&&decide ((z\5:md)<=40))&&z.cps.toList.all okc
abbrev gG(row a:jz):on:=decide (row\5=a\5)&&(Nk a.cps.toList row.cps.toList).all λp=>!decide (p.2=46)||decide (p.1=46)
def cV.row(h:cV rows)(a:r>rows):vv r=gb:=by
 let%[wd,c,d|b]:=h.wide;let e:r\5=wd:=b r a;unfold vv;rw[h.sign r a,e,Zf !_,Zf !_];rfl
def cV.beneath(h:cV rows)(c:rows[i]?>=r)(d:rows[i+1]?>=a):gG a r=gb:=by
 let%[wd,m,n|e]:=h.wide;let f:r\5=wd:=e r (Z8 c);let g:a\5=wd:=e a (Z8 d);unfold gG;rw[Zf (g.trans f.symm),WL,N3];intro p l;let%[j|b]:=Xh l;rw[PV]at b;let:=h.fall i r a c d j p.1 p.2 (by simpa using b.1) (by simpa using b.2)
 grind
def qD(a:fx gf):(ui (!"") (a.map sgn))=⟨a.toArray⟩:=by
 show im ?_;rw[w8,Yp];change((a.map (λc=>[c])).flatten)=a
 induction a with
 | nil=>rfl
 | cons c r b=>simp_all
def vw:∀a:fx gf,((a.map sgn).map (λx=>x\5)).sum=a\5
 |[]=>rfl
 | c::r=>by
   rw[Yo,Yo,WE,vw r,Zr];change 1+r\5=r\5+1
   lia
end _CU
namespace _CU
open PySem _LL
end _CU
namespace _LL
open PySem PySem.Spec PyProof.Rows
abbrev Up(B:su)(l:fx Env)(e:hW)(cls:hV)(b:ZI)(d:ij hV)(h:su):Prop:=
 B.StaysIn h/\B.get? e=fD/\h.FunFrames B l/\∃a vs,h.get? e>=a/\a.cls=cls/\a.dict=b/\a.data= .fields vs/\1<vs.size/\
  match d with
  | none=>vs[1]?>=.none
  | some f=>∃T c ts,vs[1]?>=.ref T/\B.get? T=fD/\T≠e/\h.get? T>=c/\c.data= .fields ts/\ts[3]?>=f
def tW(o:NV)(f:ZJ->ZJ):(o.mapFields f).dict=o.dict:=by
 let%[c,d,a|b]:=o;cases a<;> rfl
section
variable{M:Model}{A:ri}{E:ZD}{s:jg}{B:su}{env:Env}{outer:fx Env}{L e:hW}{cls:hV}{dct:ZI}{Q:S4->jg->Prop}
def xa(y:A.frames>=(env::outer))(hf:env.frame>=L)(st:B.StaysIn s.heap)(C:B.get? e=fD)(p:s.heap.FunFrames B (env::outer))
 (he:s.heap.get? e>=u) (N:u.data= .fields vs) (d:1<vs.size)
 (k:∀h',Up B (env::outer) e u.cls u.dict (fI (M6 L)) h'->s.heap.UpToSlots h'->Q () (s>>>h')):
 pw M A (do let a<-frameOf env;let pl<-entryPlaceOf L i;let b<-EntryCells.newEntry O a .none (M6 L) .none pl;SS (.ref e) 1 b) Q E s:=by
 let G:e∉(env::outer).filterMap _:=λH=>by
  let%[_,o,ho|ab]:=p.mem H
  simp_all
 show Z2 (wpAny_frameOf_fun y p hf λc v=>Z2 (wpAny_entryPlaceOf λpl I=>Z2 (MF ?_ (I.sizeOk5 _ _ _ _ _))))
 generalize j:({cls:= .type _,dict:=fD,data:= .fields _}:NV)=h
 let T:=(v.2.1 e G).trans he;let U:(c.push h).get? e>=u:=Z7 _ T;show P9 U N d ?_;let ne:=Zs (Zu T);let l:=Os N (·.setIfInBounds 1 (ku c.objs.size));let f:∀b o,b≠e->c.get? b>=o->((c.push h).update e (Pe (·.setIfInBounds 1 (ku c.objs.size)))).get? b>=o:=λb o n q=>by
  rw[MG _ _ (wh n)];show Z7 _ q
 let m:B.StaysIn c:=λb o q=>(v.2.1 b λH=>by rw[(p.mem H).1]at q;cases q).trans (st b o q)
 let nb:∀b o,s.heap.get? b>=o->(∀ws,o.data≠ .fields ws)->b≠e:=λb o q w z=>by
  simp_all
 let t3:((c.push h).update e (Pe (·.setIfInBounds 1 (ku c.objs.size)))).get? c.objs.size>=h:=by
  rw[MG _ _ ne];show Zj c (by subst j;rfl)
 let g:∃ts,h.data= .fields ts/\ts[3]?>=M6 L:=by
  subst j;show%[_,ρ|by simp]
 let%[ts,g|J]:=g;show k _ %[λb o q=>f b o (λz=>by lia) (m b o q),C,p.of_keeps λb o q w=>?_,_,_,(MB _ U (OZ l)),Sm _ _,tW _ _,l,↑d,c.objs.size,h,ts,?_,m.fresh,wh ne,t3,g|J] λb o q w=>?_
 .let%[Y|r]:=v.2.2 b o q;show%[_,f b _ (nb b o q w) r|ρ]
 .simp[d]
 .let%[Y|r]:=v.2.2 b o q;show%[Y|f b _ (nb b o q w) r]
def Aw(st:B.StaysIn s.heap)(r:B.get? e=fD)(y:s.heap.FunFrames B l)
 (C:s.heap.get? e>=c) (G:c.data= .fields vs) (u:1<vs.size) (H:vs[1]?>=.ref T) (v:B.get? T=fD) (d:T≠e) (w:s.heap.get? T>=I) (h:I.data= .fields ts) (J:ts[3]?>=f)
 (k:∀h',Up B l e c.cls c.dict (fI g) h'->h'.get? e>=c->s.heap.UpToSlots h'->Q () (s>>>h')):pw M A (SS (.ref T) 3 g) Q E s:=by
 let i:=(rb.mp J).1;show P9 w h i ?_;let a:∀b,b≠T->(s.heap.update T (Pe (·.setIfInBounds 3 g))).get? b=s.heap.get? b:=λb n=>MG _ _ (wh n)
 let nb:∀b o,s.heap.get? b>=o->(∀ws,o.data≠ .fields ws)->b≠T:=λb o q p z=>by
  simp_all
 let j:=Os h (·.setIfInBounds 3 g);let m:=(a e (wh d)).trans C;show k _ %[λb o q=>(a b λz=>by lia).trans (st b o q),r,y.of_keeps λb o q p=>%[o,(a b (nb b o q p)).trans q|rfl],c,vs,m,rfl,rfl,G,u,T,_,_,H,v,d,
  MB _ w (OZ j),j|by simp[i]] m λb o q p=>%[o.slots|(a b (nb b o q p)).trans q]
def Ax(i:v=fD\/v>=.none)(b:A.frames>=(env::outer))(j:env.frame>=L)(u:Up B (env::outer) e cls dct v s.heap)
 (k:∀h',Up B (env::outer) e cls dct (fI (M6 L)) h'->s.heap.UpToSlots h'->Q () (s>>>h')):pw M A (noteFrame (.ref e) env) Q E s:=by
 let%[st,c,w,N,vs,h,rfl,rfl,d,a|r]:=u;unfold noteFrame;simp only[j];rcases i with rfl|rfl
 .show Z2 (Nn h d r (xa b j st c w h d a k))
 .let%[T,O,ts,y,l,m,z,f|C]:=r;show Z2 (Nn h d y (Z2 (Nn z f C (Z2 (Aw st c w h d a y l m z f C λh' G n H=>?_)))));let%[o,g,p|_]:=G;show xa b j o g p n d a λI J q=>k I J (H.trans q)
def vy(u:Up B l e cls dct (fI f) s.heap)(k:∀h',Up B l e cls dct (fI .none) h'->s.heap.UpToSlots h'->Q () (s>>>h')):
 pw M A (setFlight (.ref e) fD) Q E s:=by
 let%[st,a,m,r,vs,h,rfl,rfl,i,b,T,v,ts,j,c,d,n,g|o]:=u;show Z2 (Nn h i j (Aw st a m h i b j c d n g o λh' p _ q=>k h' p q))
def xc(a:g=fD\/g>=.none)(b:A.frames>=(env::outer))(h:env.frame>=L)(u:Up B (env::outer) e cls dct g s.heap)
 (k:∀h',Up B outer e cls dct (fI .none) h'->s.heap.UpToSlots h'->Q () (s>>>h')):pw M A (leaving env (.ref e)) Q E s:=by
 show Z2 (Ax a b h u λn i c=>vy i λj l d=>?_);let%[st,f,%[_,_|m]|r]:=l;show k j %[st,f,m|r] (c.trans d)
end
section
variable{P:mu}{w:rM}{H:Hp}{h:su}{a:hW}{o:HO}
def ci.there(x:ci P w H h a o):∃b,h.get? a>=b:=by
 cases o with
 | lst xs=>have%[_,_,_,_|e]:=x;show%[_|e]
 | tup xs=>have%[_,_,_,b,e|_]:=x;show%[_|e]
 | dK c=>have%[_,_,_,_,o,_,_,e|_]:=x;show%[_|e]
 | dT c=>have%[_,_,_,_,o,_,_,e|_]:=x;show%[_|e]
 | set S n=>have%[o,_,_,_,e|_]:=x;show%[_|e]
 | ins C d fs=>have%[_,_,_,e|_]:=x;show%[_|e]
 | own y=>have%[_|e]:=x;show%[_|e]
 | xd fs=>have%[_,%[_,_,_,e|_]|_]:=x;show%[_|e]
 | rng lo hi=>have%[_,_,_|e]:=x;show%[_|e]
 | frz b u=>have%[e|_]:=x;show%[_|e]
 | tbl ps=>show%[_|(x)]
 | met f y=>show%[_|(x)]
 | ext g=>have%[_,%[_|e]|_]:=x;show%[_|e]
end
structure Fl (P:mu) (w:rM) (l:fx Env) (H:Hp) (s:jg) (ea:hW) (B:su) (cls:hV) (dx:ZI) (fl:ij hV) (H':Hp) (s':jg):Prop where
 os:s'.os=s.os
 bare:QK s'.gens
 un:Un (frs l) [] H H' s.heap s'.heap
 hok:HOk P w H' s'.heap
 up:Up B l ea cls dx fl s'.heap
 free:H' ea=fD
 new:s.heap.get? ea=fD
 inB:∀b ob,s'.heap.get? b>=ob->((∃o,s.heap.get? b>=o)\/∃o,H' b>=o)->b∉frs l->B.get? b>=ob
 frf:∀b>frs l,H' b=fD
abbrev CXO(P:mu)(w:rM):CXT:=λl H s E e s'=>∃a B cls b c,e= .ref a/\Fl P w l H s a B cls b (fI .none) c s'/\E cls b c
section
variable{P:mu}{w:rM}{l:fx Env}{H H':Hp}{s s':jg}{ea:hW}{B h':su}{cls:hV}{dx:ZI}{fl fl':ij hV}
def Fl.fly(F:Fl P w l H s ea B cls dx fl H' s')(st:B.StaysIn h')(z:s'.heap.UpToSlots h'):Un (frs l) [] H H' s.heap h'/\HOk P w H' h':=by
 let p:∀b g,s'.heap.get? b>=g->b>frs l->∃r,h'.get? b>=_:=λb g q a=>by
  let%[_,d,y|A]:=F.up.2.2.1.mem a;rw[q]at y;cases y;show z b g q A
 show%[%[λb o q n a f=>?_,λb o q n a f=>?_,F.un.free,λb o q f=>?_,F.un.tups,F.un.frzs|F.un.tbls]|λb o q=>?_]
 .show st b o (F.inB b o (F.un.keep b o q n a f) (.inl %[o|q]) a)
 .let%[r|e]:=F.un.slot b o q n a f;let%[h|i]:=p b _ e a;show%[h|i]
 .let%[d|e]:=F.un.there b o q f;by_cases a:b>frs l
  .let%[r|i]:=p b d e a;show%[_|i]
  .show%[d|st b d (F.inB b d e (.inl %[o|q]) a)]
 .show(F.hok b o q).stay (λc u j e=>?_) (λ_ e=>e) λ_ _ e=>e
  let C:∃v,H' c>=v:=by
   rcases j with rfl|j
   .show%[_|q]
   .show%[_|j]
  let%[v|m]:=C;show st c u (F.inB c u e (.inr %[v|m]) λa=>by rw[F.frf c a]at m;cases m)
end
section
variable{P:mu}{w:rM}{K:ZA}{mg:ZC}{base:su}{N:ZB}{qual:jz}{scope:R3}{f:hW}{cd:hV}{A:ri}{outer:fx Env}{s₀:jg}{H₀:Hp}{E:XK}
def Eb(i:v=fD\/v>=.none)
 (I:Qc (gB (CXO P w) P w K mg base N qual scope f cd A outer s₀ H₀ E) ff L H s) (F:Fl P w (Ng qual scope ⇑s₀ f cd::outer) H s d B cls y v g s') (q:E cls y g):
 (gB (CXO P w) P w K mg base N qual scope f cd A outer s₀ H₀ E).xe (.ref d) s':=by
 show xc i I.ok.frames rfl F.up λh' u M=>?_
 let%[un|j]:=F.fly u.1 M;let J:Qc _ ff L g (s'>>>h'):=I.call' F.os un j F.bare λb z=>lr z ∅
 show%[d,B,cls,y,g,ρ,%[J.os,J.bare,J.base,J.hok,u,F.free,?_,λb ob e h O=>?_|λb h=>F.frf b (MN.mpr ?_)]|q]
 .cases z:s₀.heap.get? d with
  | none=>rfl
  | some o=>
    let%[o'|e]:=I.base.there d o z (by simp[gB]);rw[F.new]at e;cases e
 .let Q:b∉frs (Ng qual scope ⇑s₀ f cd::outer):=λT=>by
   rcases Yu.mp (T)with z|z
   .rcases h with⟨o,c⟩|⟨o,c⟩
    .show lr (Zu c) (z▸Xl _)
    .let:=J.free;rw[show(gB _ P w K mg base N qual scope f cd A outer s₀ H₀ E).env.locals=b from z.symm,c]at this;cases this
   .show O z
  let l:∃a,s'.heap.get? b>=a/\((∃o,s.heap.get? b>=o)\/∃o,g b>=o):=by
   rcases h with⟨o,c⟩|⟨o,c⟩
   .let%[C|G]:=I.base.there b o c (by simp[gB]);let%[n|p]:=F.un.there b C G ∅;show%[n,p|.inl %[C|G]]
   .let%[n|p]:=(F.hok b o c).there;show%[n,p|.inr %[o|c]]
  let%[a,U|r]:=l;let Y:=F.inB b a U r Q;let:=u.1 b a Y
  grind
 .let%[en,m|q]:=MN.mp h;show%[en,Yu.mpr (.inr m)|q]
def pW(a:∀c d H,b c d H->E c d H):je (CXO P w) (gB (CXO P w) P w K mg base N qual scope f cd A outer s₀ H₀ E) b:=by
 intro ff g H s e s' I %[h,B,cls,i,j,rfl,F|q];show Eb (.inr rfl) I F (a _ _ _ q)
end
noncomputable abbrev JJ(vs:ZF):NV:={cls:= .type "tuple",data:= .seq vs.toArray}
noncomputable abbrev LG(C t:hW):NV:={cls:= .ref C,data:= .fields #[.ref t,.none,.none,.none,.bool gi,.none]}
noncomputable abbrev zy(h:su)(C:hW)(vs:ZF):su:=(h.push (JJ vs)).push (LG C h.objs.size)
def xf(h:su)(C:hW)(vs:ZF):(zy h C vs).get? (h.objs.size+1)>=LG C h.objs.size:=by
 heap_get
def iW(b:hW)(o:NV)(e:h.get? b>=o):(zy h C vs).get? b>=o:=
 Z7 _ (Z7 _ e)
section
variable{prog:mu}{w:rM}{A:ri}{E:ZD}{h:su}{g:mx R7}{d:Drawn}{t:gf}{os:OsState}
variable{nm q:jz}{C N:hW}{bs bm bmB:ZF}{hdct:on}{sn:ZB}{sub:ZF}{ab:on}{col:ij on}{dd:ZI}{k0 k1 k2 k3 k5:ij hV}{B newId initId:MX}
def B4(F:ExcBaseFacts B newId initId bmB)(T:OwnTail h bmB bm){rest:ZF}
 (b:h.get? C>=V1 nm q C N bs bm hdct sn sub ab col dd k0 k1 k2 k3 k5 newId) (m:h.Ns N i) (hi:i "__init__"=fI (.ref j)) (c:h.get? j>=n) (e:n.cls= .type "function") (a:rest.length<=iv)
 (o:↥A (call (.ref j) (.ref (h.objs.size+1)::rest)) (λr s'=>r= .none/\Q (.done (.ret (.ref (h.objs.size+1)))) s') E %[zy h C rest,g,d,t|os]):
 ↥A (m4.«type.__call__» %[.ref C::rest|[]]) Q E %[h,g,d,t|os]:=by
 repeat (first|with_reducible show O2 b ?_|with_reducible show wpAny_madeBy_exc b ?_|wp_step)
 show codeAny_call_builtin_code (RG _ F.quiet) (wpAny_check_new_subT F T b ?_);show codeAny_exc_new_subT F T b ?_ a;let l:=iW (C:=C) (vs:=rest) _ _ b;let p:=iW (C:=C) (vs:=rest) _ _ c;let n1:(zy h C rest).Ns N i:=m.keeps iW;let s:=xf h C rest;let f:(ku C::bm).contains (.ref C)=gb:=by simp
 unfold WA
 repeat (first|with_reducible show O2 s ?_|(with_reducible show Wi l ?_;rw[f])|wp_step)
 change pw _ _ (Pi (.ref C) _) _ _ _;show wpAny_typeLookup_tail l n1 (T.keeps (h':=zy h C rest) iW) F.mroIs F.init.lookup ?_;rw[hi];show vi (Z2 ?_);unfold bindSpecial;show Z2 (O0 (T:="function") %[_,p|e] ?_);rw[hY (!1)];show Z3 (Z2 (ME o (λr s' u=>?_) λ_ _ x=>x));let%[rfl|v]:=u
 wp_walk
 show v
def B5(F:ExcBaseFacts B newId initId bmB)(T:OwnTail h bmB bm){rest:ZF}
 (b:h.get? C>=V1 nm q C N bs bm hdct sn sub ab col dd k0 k1 k2 k3 k5 newId) (i:h.Ns N j) (hi:j "__init__"=fI (.ref f)) (c:h.get? f>=l) (e:l.cls= .type "function") (a:rest.length<=iv)
 (m:pw (Nm prog w) (A.under (.builtin "type.__call__" %[.ref C::rest|[]])) (call (.ref f) (.ref (h.objs.size+1)::rest)) (λr s'=>r= .none/\Q (.ref (h.objs.size+1)) s') E %[zy h C rest,g,d,t|os]):
 ↥A (call (.ref C) rest) Q E %[h,g,d,t|os]:=by
 let n:=tc_lookup;let o:=tc_bind (.ref C);let p:(%[h,g,d,t|os]:jg).TypeIs (.ref C) "type":=%[_,b|rfl]
 show OH (TY ?_);change pw _ _ (callAny (.ref C) _) _ _ _
 repeat (any_goals (first|assumption|with_reducible show O2 b ?_|wp_step))
 show%[ρ|?_];show codeAny_call_builtin_at (RG _ (!0)) entry_typeCall (wpAny_check_type_call_sub b (B4 F T b i hi c e a m))
end
noncomputable abbrev veB:ZF:=[.type "ValueError",.type "Exception",.type "BaseException",.type "object"]
abbrev bM:ZF->on
 | .ref c::r=>bM r
 | l=>l==veB
def lh(self:hV):∀{l:ZF},bM l=gb->refuseLoop self "__setattr__" l=pure ()
 | .ref c::r,e=>by rw[refuseLoop_ref];show lh self e
 | .type n::r,e=>by
   let a:(MS n::r)=veB:=by simpa [bM]using e
   show a▸PySem.F.store_ValueError.passes self
 |[],e=>by simp[bM]at e
 | .none::r,e=>by simp[bM]at e
 | .bool _::r,e=>by simp[bM]at e
 | .int _ _::r,e=>by simp[bM]at e
 | .str _ _::r,e=>by simp[bM]at e
 | .builtin _::r,e=>by simp[bM]at e
 | .float _ _::r,e=>by simp[bM]at e
 | .bytes _ _::r,e=>by simp[bM]at e
 | .ellipsis::r,e=>by simp[bM]at e
 | .notImplemented::r,e=>by simp[bM]at e
def qF(n:MX)(a:veB.contains (.type n)=gb):∀{l:ZF},bM l=gb->l.contains (.type n)=gb
 | .ref c::r,e=>by rw[Va,qF n a (l:=r) e,Ub]
 | .type m::r,e=>by
   let b:(MS m::r)=veB:=by simpa [bM]using e
   show b▸a
 |[],e=>by simp[bM]at e
 | .none::r,e=>by simp[bM]at e
 | .bool _::r,e=>by simp[bM]at e
 | .int _ _::r,e=>by simp[bM]at e
 | .str _ _::r,e=>by simp[bM]at e
 | .builtin _::r,e=>by simp[bM]at e
 | .float _ _::r,e=>by simp[bM]at e
 | .bytes _ _::r,e=>by simp[bM]at e
 | .ellipsis::r,e=>by simp[bM]at e
 | .notImplemented::r,e=>by simp[bM]at e
abbrev vz(K:ZA)(C:hW):on:=(clsIn K C).any λa=>bM a.mro
section
#where
variable{K:ZA}{x C:hW}{name:jz}{v:hV}{ox:NV}{od:ij NV}
def JK{R:Tu->jg->Prop}(X:K.In s.heap)(I:PySem.W.InstAt s.heap x ox C od)(i:vz K C=gb)(j:MP K (.ref C) name>=fD)
 (h:↥A.in1 (VM (.ref x) (.ref C) (.str name tk) name v gi)
  (λfin s'=>match fin with| .done f=>R (.ok f) s'| .again d=>d.quiet=gb/\Pw (Nm prog w) A d R s') (λe s'=>R (.error e) s') s):
 Pw (Nm prog w) A (.call (.builtin "object.__setattr__") %[[.ref x,.str name tk,v]|[]]) R s:=by
 let a:=PySem.F.store_object;let%[c,g|b]:=Q8 i;let ne:c.mro.isEmpty=gi:=by cases q:c.mro with|nil=>rw[q]at b;simp[bM]at b|cons _ _=>rfl
 show PL a.slot.plain a.entry (@check_slot _ _ _ s _ _ _ _ _ [] _ a.kind a.split (I.type.andThen (PySem.W.looks_mroIn X (by unfold mroIn;rw[g,Sc,hH (by rw[ne];decide),(qF _ (!1) b)]))) (a.args _ _ v) ?_);let l:UA (Nm prog w) s.heap (mroOf (.ref C)) c.mro:=(VZ X g).andThen .now;rw[PySem.W.osa_eq,refuse_eq];show Z2 (Z2 (I.type.here (Z2 (l.here ?_))));rw[lh _ b];show Z3 (Z2 (I.type.here (Z2 ((Vn X j).here (Z2 (Z3 h))))))
def GR(X:K.In s.heap)(g:s.heap.get? x>=ox)(i:ox.cls= .ref C)(j:ox.data= .fields vs)(l:ox.dict=fD)
 (z:MP K (.ref C) "__setattr__"=fI (fI (.builtin "object.__setattr__"))) (B:vz K C=gb) (G:MP K (.ref C) name>=fD) (H:Pl K C=gb)
 (h:∀h',h'.get? x=fI {ox with dict:=fI ⇑s}->h'.Ns1 ⇑s (λy=>if y=name then fI v else fD)->(∀b o,b≠x->s.heap.get? b>=o->h'.get? b>=o)->Q () {s with heap:=h',toks:=s.toks+2}):
 ↥A (setAttr (.ref x) name v) Q E s:=by
 let%[oc,I,L|M]:=ox;subst i j l;let J:PySem.W.InstAt s.heap x _ C fD:=%[g,rfl,rfl|trivial]
 show set_plain X J z (JK X J B G ?_);let%[cd,N|m]:=Q8 H;show Z2 (Z3 (Z2 (Z2 (Qd g (Z2 (S8 (VZ X N) ?_))))));rw[m];let a:(s.heap.push {cls:= .type "dict",data:= .dict #[]}).get? x>=_:=Z7 _ g;let c:=Zs (Zu g);show Z2 (wpAny_alloc' (Z2 (wpAny_update' a (Z3 ?_))));let n:((s.heap.push {cls:= .type "dict",data:= .dict #[]}).update x λo=>{o with dict:=fI ⇑s}).get? ⇑s>=_:=
  (MG _ _ c).trans (su.get?_push_at rfl rfl)
 let p:((s.heap.push _).update x _).Ns ⇑s _:=
  %[_,#[],_,n,rfl,λe O=>lr O ∅|λ_=>rfl]
 show Z2 (Z3 (Z2 (wpAny_nsSet1 (UC p) λh' d f=>?_)));let%[oD,T,U,q,r|u]:=d.count (PySem.Within.cons name v PySem.Within.nil);show Z2 (Xw q (r▸XH (lx u ∅)) (Z3 (h h' ?_ d λb o Y e=>?_)))
 .show(f.2 x c).trans (MB _ a rfl)
 .show(f.2 b (Zs (Zu e))).trans ((MG _ _ (wh Y)).trans (Z7 _ e))
end
abbrev ExO(a C:hW)(d:ZI):HO:= .ext λh=>∃o vs,h.get? a>=o/\o.cls= .ref C/\o.dict=d/\o.data= .fields vs/\1<vs.size/\vs[1]?>=.none
def ExO.ok{P:mu}(e:h.get? a>=o)(c:o.cls= .ref C)(f:o.dict=d)(g:o.data= .fields vs)(i:1<vs.size)(b:vs[1]?>=.none):
 ci P w H h a (ExO a C d):=
 %[%[o,vs,e,c,f,g,i|b],%[o|e]|λb j ⟨o,vs,e,r⟩ k=>%[o,vs,k o e|r]]
def Ec(h:H a>=o):Qa H a o=H:=by
 funext b;unfold Qa;simp_all
abbrev exK(K:ZA)(C f:hW):on:=(K.lookup C).any λo=>o.cls== .type "type"&&(match o.data with
 | .cls a=>a.mro.head? ==fI (.ref C)&&o.slots.size==6&&o.slots[4]? ==fI (fI (.builtin "ValueError.__new__"))&&!a.hasDel&&PySem.W.tailIn K veB a.mro.tail&&PySem.W.nsOkIn K a.ns&&Si K a.ns "__init__"==fI (fI (.ref f))
 | _=>gi)
set_option tactic.hygienic true in
def zA{K:ZA}{h:su}{mg:ZC}(X:K.In h)(G:h.Ns N mg)(e:Si K N n>=fI v):mg n>=v:=by
 let%[o,j,l,a,b,_|f]:=G;unfold Si at e
 split at e
 .rename_i c d g n' m q
  let:=X _ _ q;rw[a]at this;cases this;cases b
  split at e
  .rename_i p i
   cases e;rw[<-f];unfold nsFind findBy;rw[<-U0,i];rfl
  simp_all
 .cases e
def zB{K:ZA}(X:K.In h)(q:exK K C f=gb):∃i j N bs c a l sub m b n o k1 k2 p r s,
 h.get? C>=V1 i j C N bs c a l sub m b n o k1 k2 p r "ValueError.__new__"/\h.Ns N s/\s "__init__"=fI (.ref f)/\OwnTail h veB c:=by
 let%[%[H,n,data|u],w|q]:=Q8 q;dsimp only at q;rw[Zv,NE]at q;let%[rfl|q]:=q;cases data with
 | cls y=>
   let%[i,bs,d,I,j,J,l,sub,m,b|z]:=y;simp only[Zv,NE,Vx]at q;let%[%[%[%[%[%[v|A]|B]|rfl]|E]|e]|g]:=q;cases d with
   | nil=>cases v
   | cons x c=>
     cases v;rcases u with _|⟨o,_|⟨k1,_|⟨k2,_|⟨p,_|⟨L,_|⟨r,_|⟨M,u⟩⟩⟩⟩⟩⟩⟩<;> first|cases A|skip
     cases B;let G:=PySem.Heap.Ns.of_isNs (PySem.W.isNs_of_in X e);show%[_,_,_,_,_,_,_,_,_,_,_,_,_,_,_,_,_,X _ _ w,G,zA X G g|PySem.W.tail_of_in X E]
 | _=>cases q
section
variable{X:Cx}{C f:hW}
set_option tactic.hygienic true in
def zC(A:exK X.K C f=gb):cH X (.builtin "ValueError.__init__") (λxs H Q=>∃a d ys,xs=V.ref a::ys/\ys\5<=9/\H a>=ExO a C d/\Q .non H):=by
 intro ff s B H xs us Q I r h;let%[a,d,ys,rfl,hy,g|q]:=h;cases r with
 | cons E G=>
   rename_i u ws
   obtain rfl:u=ku a:=E;let%[%[o,vs,e,v,L,i,M|O]|_]:=I.hok a _ g;let%[nm,qn,N,bs,bm,w,sn,sub,ab,U,dd,k0,k1,k2,k3,k5,mN,Y,hN,hi|T]:=zB I.kIn A;let F:=PySem.F.excBase_ValueError;let j:ws\5<=iv:=by rw[<-G.length,MD];lia
   show OH (PL F.init.plain F.initEntry (wpAny_check_init_subT F T Y e v ?_));let l:∃m,vs[0]?>=m:=%[vs[0]'!_|xl !_]
   let%[m|l]:=l;let p:(s.heap.push (JJ ws)).get? a>=o:=Z7 _ e;let c:=Os i (·.setIfInBounds 0 (ku ⇑s));let y:=MB (Pe (·.setIfInBounds 0 (ku ⇑s))) p (OZ c);let J:Qc X ff B H (s>>>((s.heap.push (JJ ws)).update a (Pe (·.setIfInBounds 0 (ku ⇑s))))):=by
    let:=I.write (x:=a) (e:=a) (o:=ExO a C d) (t':=s.toks) (g▸MK) (.inl rfl)
     (λb u n z=>by rw[MG _ _ (wh n)];show Z7 _ z) %[_|y]
     (ExO.ok y ((Sm _ _).trans v) ((tW _ _).trans L) c ↑M (by rw[mx.getElem?_setIfInBounds_ne ∅];show O))
    rw[Ec g]at this;show this
   show Z2 (RK (Z2 (Z2 (Nn p i l (Z2 (P9 p i ⋯ ?_))))) j);cases m with
   | ref b=>show RL (Z3 %[.non,H,J,rfl|q])
   | _=>show Z3 (Z3 %[.non,H,J,rfl|q])
end
structure Ee (K:ZA) (D:hW):Prop where
 ga:To K (.ref D) "__getattribute__"=fI (fI (.builtin "type.__getattribute__"))
 rd:readsIn K D (.type "type")=gb
 at_:findCls K (.ref D) (.type "type") "__init__"=fI (.val (.builtin "ValueError.__init__"))
structure JL (K:ZA) (C:hW) (f:jz):Prop where
 sa:MP K (.ref C) "__setattr__"=fI (fI (.builtin "object.__setattr__"))
 ov:vz K C=gb
 no:MP K (.ref C) f>=fD
 hd:Pl K C=gb
section
variable{X:Cx}{C D f:hW}{x nm:jz}{p pos pos' apos:Pos}{e o value:tI}{es:fx tI}{t:TA}{ta tv:TE}{r:fx V->Hp->VK->Prop}
def Ef(g:Gl X x)(i:X.mg x>=.ref D)(B:Ee X.K D)(j:cH X (.builtin "ValueError.__init__") r)(l:PA X (e::es) t)(a:(x==("__debug__":jz))=gi)
 (m:q0 (e::es) X.env=(gi,M9 e X.env)::q0 es X.env) (b:(Nv pos (q0 es X.env)).any (·.1)=gi)
 (n:M9 (.Call (.Attribute (.Name x p) "__init__" apos) (e::es) [] pos) X.env=(do
  let c<-M9 (.Name x p) X.env
  Oy apos.atName
  let(f,first)<-O7 [c] (Q5 c "__init__" pl)
  Uq pos f first (Nv pos (q0 (e::es) X.env)) (Qj pos (Ol [] X.env)))):
 PE X (.Call (.Attribute (.Name x p) "__init__" apos) (e::es) [] pos) (tCB r t):=by
 intro ff s d H Q I h;show PySem.W.methodCall_KW (ig I g i (PySem.W.method_cls I.kIn B.ga (PySem.W.cls_value I.kIn B.rd B.at_ (!1) (Rc (thP (l pos ff _ d H _ (I.tok _) h) λus q vs u v w y=>j ff q d u vs us Q v w y) m b))) a) n
abbrev HZ(K:ZA)(C:hW)(ta tv:TE)(f:jz):TS:=λD b H=>tv b H λy g=>ta b g λx c=>∃a,x= .ref a/\c a>=ExO a C fD/\
 ∀d,c d=fD->d≠a->D.nx b (Qa (Qa c a (ExO a C (fI d))) d (.xd [(f,y)]))
def GS(c:JL X.K C nm)(E:PE X o ta)(G:PE X value tv)(J:Oo value (fI (.Attribute o nm pos')) pos.line X.env=pure gi):PS X (.Assign [.Attribute o nm pos'] value pos) (HZ X.K C ta tv nm):=by
 intro ff s j H D I h;show Tg (thP (G ff s j H _ I h) λu L y M N O q=>thP (E ff L j M _ N q) λQ l x H2 d T ⟨a,ex,m,U⟩=>?_) J;subst ex;obtain rfl:Q=ku a:=T;let%[%[ob,vs,e,v,Y,w,hz|h1]|_]:=d.hok a _ m;let i:=Yy (Zu e);let A:=d.hok.fresh (Zi _);show GR d.kIn e v w Y c.sa c.ov c.no c.hd λh' B n' k=>%[j,_,?_|U ⇑l A i]
 show Qc.stood2 d (d.write (t':=l.toks+2) (m▸MK) (.inl rfl) (λb u n z=>k b u n z) %[_|B] (ExO.ok B v rfl w hz h1)) ((ar i)▸A) (Zi _) %[_,n'|λg=>?_];by_cases z:g=nm
 .rw[hY z,z];simp only[NT,Pn];show O
 .rw[hH z];let z':(g==nm)=gi:=↑z
  simp only[NT,z'];show MK
end
abbrev JM(b:TE):TE:=λc H Q=>b c H λv a=>match v with
 | .int i=>i.natAbs<2^64/\Q (.str (toString i)) a
 | .str y=>y\5<=iv/\Q (.str y) a
 | _=>yc
abbrev qG:fx TE->jz->TE
 |[],out=>λa H Q=>out\5<=iv/\Q (.str out) H
 | t::ts,out=>λa H Q=>t a H λv b=>asS v λy=>(out++y)\5<=iv/\qG ts (out++y) a b Q
inductive PJ (X:Cx):fx tI->fx TE->Prop
 | nil:PJ X [] []
 | cons {e:tI} {es:fx tI} {t:TE} {ts:fx TE}:PE X e t->PJ X es ts->PJ X (e::es) (t::ts)
section
variable{X:Cx}{e v1 v2:tI}{rest:fx tI}{te t1 t2:TE}{ts:fx TE}{pos:Pos}
def JN(c:PE X e te):PE X (.FormattedValue e (-1) fD pos) (JM te):=by
 intro ff s d H Q I h;show FormattedValue_plain (thP (c ff s d H _ I h) λu j v a b r q=>?_)
 match v,q,r with
 | .int i,⟨hi,q⟩,r=>
   let%[t|rfl]:=(show∃t,u=Sl i t from r)
   let f:i.natAbs.log2<1920:=by
    by_cases z:i.natAbs=0
    .rw[z];decide
    .show(gf.log2_lt z).mpr (Zg hi (X8 (!1) ∅))
   show formatField_int_small f %[V.str (toString i),a,b.tok _,%[_|rfl]|q]
 | .str y,⟨g,q⟩,r=>
   let%[t|rfl]:=(r)
   show XZ (λt' tk=>%[.str y,a,b.tok _,%[_|rfl]|q]) g
def Eg(h:PJ X c ts):∀(out:jz) (ff:ZE) (s:jg) (a:St) (H:Hp) (Q:VK),Qc X ff a H s->qG ts out a H Q->
 (X⁻¹) (joinParts out (evalEach c X.env)) (EP X ff a Q) X.xe s:=by
 induction h with
 | nil=>show λout ff s a H Q I ⟨b,q⟩=>joinParts_nil %[.str out,H,I.tok _,%[_|rfl]|q] b
 | cons d _ f=>
   intro out ff s a H Q I q;show joinParts_cons (thP (d ff s a H _ I q) λu g v i j r l=>?_);let%[y,rfl,b|m]:=d6 l;let%[t|rfl]:=(r)
   show%[b|f _ ff g a i Q j m]
def GT(h:PJ X (v1::v2::rest) ts):PE X (.JoinedStr (v1::v2::rest) pos) (qG ts y2):=λff s a H Q I q=>
 JoinedStr_many (Eg h _ ff s a H Q I q)
end
abbrev zD(C:hW)(sp:Sp)(t:TA):TE:=λb H Q=>t b H λvs a=>vs\5<=9/\∀x,a x=fD->sp (.ref x::vs) (Qa a x (ExO x C fD)) (λv c=>v= .non/\Q (.ref x) c) E0
structure MkX (K:ZA) (C f:hW):Prop where
 ex:exK K C f=gb
 fn:(K.lookup f).map (·.cls)>=.type "function"
 kp:OJ K (.ref C)=gb
section
variable{X:Cx}{k:gf}{f C:hW}{fd:Pd}{ps:ZB}{sp:Sp}{x:jz}{p pos cpos:Pos}{e:tI}{es:fx tI}{te:TE}{t:TA}
def B6(M:MkX X.K C f)(F:d8 X.prog X.w X.K X.mg X.base CX0 k f fd ps sp)(w:bW (k+1) X.A)(y:d9 X.K fd ps [])
 (I:Qc X ff j H s) (r:aQ vs us) (hv:vs\5<=9)
 (h:∀x,H x=fD->sp (.ref x::vs) (Qa H x (ExO x C fD)) (λv z=>v= .non/\Q (.ref x) z) E0):
 (X⁻¹) (call (.ref C) us) (EP X ff j Q) X.xe s:=by
 let%[i,g,d,tk|os]:=s;let%[nm,qn,N,bs,bm,n,sn,sub,ab,A,dd,k0,k1,k2,k3,k5,mN,B,E,hi|T]:=zB I.kIn M.ex;let%[oI,G|l]:=zz.mp M.fn;show B5 PySem.F.excBase_ValueError T B E hi (I.kIn _ _ G) l (by rw[<-r.length,MD];lia) ?_;let J:Qc X ff j H %[zy i C us,g,d,tk|os]:=I.keptS iW rfl rfl;let m:Qc X ff j (Qa H _ (ExO _ C fD)) _:=
  I.stoodS J (Ye _) (ExO.ok (xf i C us) rfl rfl rfl ∅ rfl)
 let o:=h _ (I.hok.fresh (Ye _));let q:aQ (V.ref (i.objs.size+1)::vs) _:= .cons rfl r;let b: ~~~(ku (i.objs.size+1)::us++[])=ps\5:=by
  rw[Zx,<-q.length];show F.len _ _ _ _ o
 let c:=y _ _ m.kIn b;rw[Zx]at c;show OH (codeAny_mono (F.run _ X.stack _ _ _ _ _ _ E0 (w.make C us []) (m.env0.make C us []) c q o) λr s' a=>?_);cases r with
 | error e=>show MJ a
 | ok L=>
   cases L with
   | ret u=>
     let%[v,O,U,Y,ev|q3]:=m.after a;subst ev;show%[Y,V.ref _,O,U,ρ|q3]
   | next=>show MJ a
   | brk=>show MJ a
   | cont=>show MJ a
def Eh(M:MkX X.K C f)(F:d8 X.prog X.w X.K X.mg X.base CX0 k f fd ps sp)(d:bW (k+1) X.A)(g:Gl X x)(i:X.mg x>=.ref C)(j:d9 X.K fd ps [])
 (l:PA X (e::es) t) (a:(x==("__debug__":jz))=gi) (m:q0 (e::es) X.env=(gi,M9 e X.env)::q0 es X.env) (b:(Nv pos (q0 es X.env)).any (·.1)=gi):
 PE X (.Call (.Name x p) (e::es) [] pos) (zD C sp t):=by
 intro ff s n H Q I h;show N5 (ig I g i (Uo I.ok.mod.kin M.kp (thP (l pos ff s n H _ I h) λus u vs v c r ⟨o,q⟩=>%[c.kIn|B6 M F d j c r o q]) m b) a)
abbrev vA(C:hW)(te:TE)(W:hW->Hp->Prop):TS:=λ_ c H=>te c H λv b=>∃a d,v= .ref a/\b a>=ExO a C (fI d)/\W a b
def Ei{W:hW->Hp->Prop}(A:exK X.K C f=gb)(B:X.calm=gb)(E:PE X e te)
 (G:∀(ff:ZE) (i:St) (H:Hp) (s:jg) (a d:hW),Qc X ff i H s->H a>=ExO a C (fI d)->W a H->X.xe (.ref a) s):PS X (.Raise (fI e) fD pos) (vA C te W):=by
 intro ff s i H D I h;change pw _ X.A (do Oy pos;raiseStmt X.env (fI (do let v<-M9 e X.env;Oy pos;pure v)) fD) _ _ s;show Z2 (QL ?_);unfold raiseStmt;show Z2 (Z2 (thP (E ff s i H _ I h) λu m v J j r ⟨a,d,L,n,q⟩=>Z2 (QL (Z3 ?_))));subst L;obtain rfl:u=ku a:=r;let%[%[M,vs,O,c,o,w,hz|Q]|_]:=j.hok a _ n;let%[nm,qn,N,bs,U,y,sn,sub,ab,Y,dd,k0,k1,k2,k3,k5,mN,z,hN,hi|T]:=zB j.kIn A;let l:(ku C::U).contains (.type "BaseException")=gb:=by rw[Va,T.hasType (b:=gb) (!1),Ub]
 let hE:=G ff i J m a d j n q;let%[hp,g,dr,tk|os]:=m;let%[oc,od,ac|ae]:=M;dsimp only at c o w;subst c o w;let hh:X.A.handled=fD:=j.ok.hd B
 repeat (first|with_reducible show O2 O ?_|with_reducible show O2 z ?_|(with_reducible show Wi z ?_;rw[l])|wp_step)
 rw[Q];show Z3 ?_;rw[hH (!1)];show Z3 (Wh hh hE)
end
abbrev drop(H:Hp)(a:hW):Hp:=λb=>if b=a then fD else H b
def iX:drop H a a=fD:=by unfold drop;rw[hY rfl]
def cc(h:b≠a):drop H a b=H b:=by unfold drop;rw[hH h]
def B7{P:mu}{K:ZA}
 (hk:exK K C f=gb) (he:PE (gB (CXO P w) P w K mg base N h g p r A outer s₀ H₀ E) e te):
 PS (gB (CXO P w) P w K mg base N h g p r A outer s₀ H₀ E) (.Raise (fI e) fD pos) (vA C te λa H=>∃d,H a>=ExO a C (fI d)/\H₀ a=fD/\E (.ref C) (fI d) (drop H a)):=by
 show Ei hk rfl he λff σ H s a ag I _ ⟨d,J,hn,q⟩=>?_
 let%[%[oe,vs,ea,Y,hd,hf,hz|h1]|_]:=I.hok a _ J;let ST:=I.stack;let SF:=I.stkFree;let L0:⇑s₀<=(Ng h g ⇑s₀ p r).locals:=Zi _;change pw (Nm P w) (A.deeper (Ng h g ⇑s₀ p r)) (leaving (Ng h g ⇑s₀ p r) (.ref a)) _ _ s;let ab:a∉frs (Ng h g ⇑s₀ p r::outer):=λz=>by
  let:=SF a z;rw[J]at this;cases this
 show xc (.inl rfl) I.ok.frames rfl %[λb o z=>of_hideAll _ z,PySem.W.hideAll_none _ (Yu.mpr (.inl rfl)),PySem.W.funFrames_hide ST λen ac b i=>Yu.mpr (.inr (MN.mpr %[en,ac|i])),oe,vs,ea,Y,hd,hf,hz|h1] λh' u sm=>?_
 let G:∀b o,s.heap.get? b>=o->b≠a->b∉frs (Ng h g ⇑s₀ p r::outer)->h'.get? b>=o/\(hideAll s.heap (a::frs (Ng h g ⇑s₀ p r::outer))).get? b>=o:=λb o z n1 n2=>by
  let hB:=hideAll_get (a::frs (Ng h g ⇑s₀ p r::outer)) z λm=>(Yu.mp m).elim n1 n2
  show%[u.1 b o hB|hB]
 let T:∀b o,s.heap.get? b>=o->b>frs (Ng h g ⇑s₀ p r::outer)->∃sl,h'.get? b=fI {o with slots:=sl}:=λb o z i=>by
  let%[_,o',z'|M]:=ST.mem i;rw[z]at z';cases z';show sm b o z M
 let nL:∀b o,s₀.heap.get? b>=o->b∉frs outer->b∉frs (Ng h g ⇑s₀ p r::outer):=λb o z n m=>by
  rcases Yu.mp (show b>⇑s₀::frs outer from m)with y|y
  .show lr (Zu z) (y▸Xl _)
  .show n y
 let sub:∀b,b>frs outer->b>frs (Ng h g ⇑s₀ p r::outer):=λb i=>Yu.mpr (.inr i)
 let j:∀b,b∉(gB (CXO P w) P w K mg base N h g p r A outer s₀ H₀ E).ex:=λb z=>lr (show b>([]:fx hW)from z) ∅
 let new:s₀.heap.get? a=fD:=by
  cases z:s₀.heap.get? a with
  | none=>rfl
  | some o=>
    let:=I.base.free a o z hn (j a);rw[J]at this;cases this
 let trk:∀b o,H b>=o->b∉frs (Ng h g ⇑s₀ p r::outer):=λb o z m=>by
  rw[SF b m]at z;cases z
 show%[a,_,.ref C,fI d,drop H a,ρ,%[I.os,I.bare,%[λb o z n i hx=>?_,λb o z n i hx=>?_,λb o z n hx=>?_,λb o z hx=>?_,λb xs z=>?_,λb o v z=>?_|λb ps z=>?_],λb o z=>?_,u,iX,new,λb ob z i M=>?_|λb i=>?_]|q]
 .let l:=I.base.keep b o z n i (j b);show(G b o l (λy=>?_) (nL b o z i)).1;subst y;rw[new]at z;cases z
 .let%[sl|l]:=I.base.slot b o z n i (j b);let%[ae|Q]:=T b _ l (sub b i);show%[ae|Q]
 .by_cases y:b=a
  .show y▸iX
  .rw[cc y];show I.base.free b o z n (j b)
 .let%[O|l]:=I.base.there b o z (j b);by_cases i:b>frs (Ng h g ⇑s₀ p r::outer)
  .let%[sl|Q]:=T b O l i;show%[_|Q]
  .show%[O|(G b O l (λy=>?_) i).1];subst y;rw[new]at z;cases z
 .let l:=I.base.tups b xs z;rw[cc (qc l J (by simp[ExO]))];show l
 .let l:=I.base.frzs b o v z;rw[cc (qc l J (by simp[ExO]))];show l
 .let%[m|l]:=I.base.tbls b ps z;show%[m|?_];rw[cc (qc l J (by simp[ExO]))];show l
 .let y:b≠a:=λy=>by rw[y,iX]at z;cases z
  rw[cc y]at z;show(I.hok b o z).stay (λc u' U L=>?_) (λc L=>?_) λc xs L=>?_
  .rcases U with rfl|U
   .show(G c u' L y (trk c o z)).1
   .show(G c u' L (qc U J (by simp[ExO])) (trk c _ U)).1
  .rw[cc (qc L J (by simp[ExO]))];show L
  .rw[cc (qc L J (by simp[ExO]))];show L
 .let y:b≠a:=λy=>by
   rcases i with⟨o,B⟩|⟨o,B⟩
   .rw[y,new]at B;cases B
   .rw[y,iX]at B;cases B
  let nf:b∉frs (Ng h g ⇑s₀ p r::outer):=by
   rcases i with⟨o,B⟩|⟨o,B⟩
   .show nL b o B M
   .rw[cc y]at B;show trk b o B
  let ex:∃O,s.heap.get? b>=O:=by
   rcases i with⟨o,B⟩|⟨o,B⟩
   .show I.base.there b o B (j b)
   .rw[cc y]at B;show(I.hok b o B).there
  let%[O|l]:=ex;let%[Q|e3]:=G b O l y nf;rw[show h'.get? b>=ob from z]at Q;cases Q;show e3
 .let y:b≠a:=λy=>ab (y▸sub b i)
  rw[cc y];show SF b (sub b i)
abbrev ExH(a C:hW)(d:ZI):HO:= .ext λh=>∃o vs,h.get? a>=o/\o.cls= .ref C/\o.dict=d/\o.data= .fields vs
def ExH.ok{P:mu}(e:h.get? a>=o)(b:o.cls= .ref C)(c:o.dict=d)(f:o.data= .fields vs):
 ci P w H h a (ExH a C d):=
 %[%[o,vs,e,b,c|f],%[o|e]|λg i ⟨o,vs,e,r⟩ k=>%[o,vs,k o e|r]]
section
variable{X:Cx}{ff:ZE}{σ:St}{H:Hp}{s s':jg}
def GU(I:Qc X ff σ H s)(L:X.N.Nodup)(hi:X.N[i]?>=n)(N:X.env.kindOf n>=.local)
 (h:∀s',Qc X ff (σ.set i fD) H s'->Q () s'):pw M A (do SZ X.env n .none;VQ X.env n pos) Q E s:=by
 let%[m,O|T]:=id I.loc;let B:i<σ.length:=I.len▸(Xn hi).1;show wpAny_nameGoes_keeps N O (by rw[I.ok.kind];rfl) λh' v u a=>h _ ?_
 let f:∀b o,X.s₀.heap.get? b>=o->b≠X.env.locals:=λb o e=>Zs (Zg (Zu e) I.ok.above)
 show%[I.ok,I.os,I.bare,%[λb o e n w l=>?_,λb o e n w l=>?_,I.base.free,λb o e l=>?_,I.base.tups,I.base.frzs|I.base.tbls],%[_,u|λj y U g C Y=>?_],λy c e=>?_,I.free,I.freeC,λp hp=>?_,λb ob e=>?_|by simpa using I.len]
 .show(a.2 b (f b o e)).trans (I.base.keep b o e n w l)
 .let%[sl|g]:=I.base.slot b o e n w l;show%[sl|(a.2 b (f b o e)).trans g]
 .let%[o'|g]:=I.base.there b o e l;show%[o'|(a.2 b (f b o e)).trans g]
 .let G:j≠i:=λz=>by
   simp_all
  rw[Rg (wh G)]at C;let%[u',r'|q]:=T j y U g C Y;show%[u',r'|?_];rcases q with⟨k,e⟩|⟨k,c,e,z⟩
  .show .inl %[k|?_];let:y≠n:=λe=>G (iL L g (e▸hi))
   simp[this,e]
  .show .inr %[k,c,e|z.sameBut a (I.cne y c e)]
 .let%[J|z]:=I.cell y c e;show%[J|z.sameBut a (I.cne y c e)]
 .let%[e,n,ne,nf|d]:=I.pin p hp;show%[(a.2 p.1 ne).trans e,n,ne,nf|d]
 .show(I.hok b ob e).stay (λc J r q=>(a.2 c ?_).trans q) (λ_ q=>q) λ_ _ q=>q
  rintro rfl;rcases r with rfl|r
  .rw[I.free]at e;cases e
  .rw[I.free]at r;cases r
end
section
variable{M:Model}{A:ri}{E:ZD}{s:jg}{K:ZA}{D C e:hW}{oe:NV}{b:on}{Q:on->jg->Prop}
def Ej(X:K.In s.heap)(i:Wv K (.ref D)>=.type "type")(j:RS K (.ref D) (.type "BaseException")>=gb)(d:(K.lookup D).any (λo=>match o.data with| .cls _=>gb|_=>gi)=gb)
 (l:s.heap.get? e>=oe) (m:oe.cls= .ref C) (n:RS K (.ref C) (.ref D)>=b) (f:Q b s):pw M A (excMatches (.ref e) (.ref D)) Q E s:=by
 let%[g,p|c]:=Q8 d;show Z2 (Z2 ((PySem.W.looks_typeIn X i).here ?_));rw[tc_notTuple];show Z3 (Z2 (Z3 ?_));let a:∃h,g.data= .cls h:=by
  revert c
  cases g.data<;> intro c<;> first|show⟨_,rfl⟩|cases c
 let%[h|a]:=a;let LT:UA M s.heap (Qe (.ref e)) _:=λq u v s' k r=>by
  show Z2 (Qd (k _ _ l) (Z3 (m▸r)))
 show Z2 (Z2 (Z2 (Z2 (Z2 (Qd (X _ _ p) (Z3 ?_))))));rw[a,hY rfl];show(VY X j).here (Z3 (Z3 (Z2 (LT.here (Z2 (Z2 (Z2 ((VY X n).here ?_))))))));cases b with
 | true=>
   show Z3 (Z3 (Z3 f))
 | false=>
   show Z3 (Z3 (Z3 f))
end
noncomputable abbrev Cx.suiteX(X:Cx)(a:hW):Cx:={X with A:=X.A.mark (fI (.ref a)),calm:=gi,xe:=λ_ _=>yc}
section
variable{X:Cx}{ff pins' pn:ZE}{σ:St}{H:Hp}{s:jg}{E:ZD}
def LH(ok:X.Ok)(pn:fx _)(E:ZD):({X with pn:=pn,xe:=E}).Ok:=
 %[ok.mod,ok.kind,ok.glob,ok.blt,ok.above,ok.inj,ok.has,ok.cab,ok.hd,ok.frames,ok.stk,ok.exf,ok.bs,ok.bsz,ok.noex,ok.exfs,ok.funs|ok.frf]
def unPn(ok:({X with pn:=pn,xe:=E}).Ok):X.Ok:=
 %[ok.mod,ok.kind,ok.glob,ok.blt,ok.above,ok.inj,ok.has,ok.cab,ok.hd,ok.frames,ok.stk,ok.exf,ok.bs,ok.bsz,ok.noex,ok.exfs,ok.funs|ok.frf]
def Qc.toPn(I:Qc X ff σ H s)(E:ZD):Qc ({X with pn:=X.pn++ff,xe:=E}) [] σ H s:=
 %[LH I.ok _ E,I.os,I.bare,I.base,I.loc,I.cell,I.free,I.freeC,λp a=>I.pin p ↑a,I.hok|I.len]
def Qc.ofPn(I:Qc ({X with pn:=X.pn++ff,xe:=E}) pins' σ H s):Qc X ff σ H s:=
 %[unPn I.ok,I.os,I.bare,I.base,I.loc,I.cell,I.free,I.freeC,λp a=>I.pin p (Ys _ a),I.hok|I.len]
def Qc.toSuite(I:Qc X ff σ H s)(a:hW):Qc (X.suiteX a) ff σ H s:=
 %[%[I.ok.mod,I.ok.kind,I.ok.glob,I.ok.blt,I.ok.above,I.ok.inj,I.ok.has,I.ok.cab,(λz=>on.noConfusion z),I.ok.frames,I.ok.stk,I.ok.exf,I.ok.bs,I.ok.bsz,I.ok.noex,I.ok.exfs,I.ok.funs|I.ok.frf],I.os,I.bare,I.base,I.loc,I.cell,I.free,I.freeC,I.pin,I.hok|I.len]
def Qc.ofSuite(I:Qc (X.suiteX a) ff σ H s)(ok:X.Ok):Qc X ff σ H s:=%[ok,I.os,I.bare,I.base,I.loc,I.cell,I.free,I.freeC,I.pin,I.hok|I.len]
def SP.ofPn{D:iN}(h:SP ({X with pn:=X.pn++ff,xe:=E}:Cx) [] D f s):SP X ff D f s:=by
 cases f with
 | next=>have%[a,b,I|q]:=h;show%[a,b,I.ofPn|q]
 | brk=>have%[a,b,I|q]:=h;show%[a,b,I.ofPn|q]
 | cont=>have%[a,b,I|q]:=h;show%[a,b,I.ofPn|q]
 | ret u=>have%[v,a,b,I,r|q]:=h;show%[v,a,b,I.ofPn,r|q]
end
abbrev iN.gone(D:iN)(i:gf):iN:={nx:=λa H=>D.nx (a.set i fD) H,rt:=D.rt,bk:=λa H=>D.bk (a.set i fD) H,ct:=λa H=>D.ct (a.set i fD) H}
structure Cat (K:ZA) (D:hW):Prop where
 ty:Wv K (.ref D)>=.type "type"
 ex:RS K (.ref D) (.type "BaseException")>=gb
 cd:(K.lookup D).any (λo=>match o.data with| .cls _=>gb|_=>gi)=gb
structure XGet (K:ZA) (C:hW) (f:jz):Prop where
 ga:MP K (.ref C) "__getattribute__"=fI (fI (.builtin "BaseException.__getattribute__"))
 hk:MP K (.ref C) "__getattr__"=fI fD
 sub:RS K (.ref C) (.type "BaseException")>=gb
 no:MP K (.ref C) f>=fD
 hd:Pl K C=gb
section
#where
end
structure XIs (K:ZA) (C:hW):Prop where
 ga:MP K (.ref C) "__getattribute__"=fI (fI (.builtin "BaseException.__getattribute__"))
 hk:MP K (.ref C) "__getattr__"=fI fD
 sub:RS K (.ref C) (.type "BaseException")>=gb
 hd:Pl K C=gb
 cl:MP K (.ref C) "__class__"=fI (fI (.builtin "object.__class__"))
 gt:To K (.builtin "object.__class__") "__get__"=fI (fI (.builtin "getset_descriptor.__get__"))
 tk:takesIn K (.builtin "object.__class__")>=gb
 ob:mroIn K C (.type "object")>=gb
section
#where
variable{K:ZA}{x C:hW}{ox:NV}{od:ij NV}
def JO(X:K.In s.heap)(I:PySem.W.InstAt s.heap x ox C od)(c:XIs K C)(h:Q (fI (.ref C)) {s with toks:=s.toks+1}):↥A (V0 (.ref x) "__class__") Q E s:=by
 let a:UA (Nm prog w) s.heap (Qe (.ref x)) (.ref C):=I.type;let sub:UA (Nm prog w) s.heap (WA (.ref x) (.type "BaseException")) gb:=a.andThen (VY X c.sub);let b:findObj K C od "__class__"=fI (.bind (.builtin "getset_descriptor.__get__") (.builtin "object.__class__")):=by
  let%[g,d|_]:=Q8 c.hd;unfold findObj;rw[d,Sc,c.cl,Sc];dsimp only;rw[c.gt,Sc];dsimp only;rw[c.tk,Sc]
 let f:=PySem.W.looks_find (M:=Nm prog w) X I b;let S:=PySem.F.excAttr_ValueError.ga;unfold V0 getAttrBy? getAttrBy;show Z2 (wpAny_mkText (Z2 (NO (vi (Z2 (a _ _ _ _ (λ_ _ e=>e) (Z2 (Vn X c.ga _ _ _ _ (λ_ _ e=>e) ?_))))))));dsimp only;rw[show(onTheHeap (ku C)&&OY "BaseException.__getattribute__"==OY "object.__getattribute__")=gi from by rw[show(OY "BaseException.__getattribute__"==OY "object.__getattribute__")=gi from !0,Nx],hH (!1)];show Z2 (PySem.W.looks_hook X (mc:= .ref C) (r:=fD) (c.hk) _ _ _ _ (λ_ _ e=>e) (Z2 (NO (vi ?_))));unfold callGetattribute;rw[show(gi&&onTheHeap (OY "BaseException.__getattribute__"))=gi from rfl,hH (!1)];unfold boundAndCalled;rw[S.bind];show Z2 (Z3 ?_);change pw _ _ (call (.builtin "BaseException.__getattribute__") _) _ _ _;show OH ?_;show PL S.plain PySem.F.entry_bexc_ga ?_;show @check_slot (Nm prog w) _ _ {s with toks:=s.toks+1} _ "BaseException" "__getattribute__" (.ref x) [.str "__class__" s.toks] [] _ (!0) (!0) sub (PySem.F.args_bexc_ga (.ref x) (.str "__class__" s.toks)) ?_;show Z2 (Z3 (Z2 (Z3 (Z2 (S8 a (Z2 (S8 f (Z2 (vi (OH (PySem.W.class_get (ox:=ox) (od:=od) X I c.ob (Z3 (Z3 (Z3 h))))))))))))))
set_option tactic.hygienic true in
def GV(c:XIs K C):KitX K (.ref x) (.ref C) (λh=>∃ox od,PySem.W.InstAt h x ox C od) where
 ty:=λ_ _ _ ⟨_,_,I⟩=>I.type
 it:=λ_ _ X _=>by
  let%[cdD,hcD|_]:=Q8 c.hd;unfold clsIn at hcD
  split at hcD
  .rename_i c' d' cd' sl' ho
   intro A' Q' E' s' k q;show Z2 (Qd (k _ _ (X _ _ ho)) (Z3 q))
  .cases hcD
 ne:=λh tp dd its n sl X htp=>by
  let%[cdD,hcD|_]:=Q8 c.hd;show Sh.mpr λq=>?_
  let e:=U4 (NE.mp q);subst e;unfold clsIn at hcD
  split at hcD
  .rename_i c' d' cd' sl' ho
   let z:=(X _ _ ho).symm.trans htp;cases z
  .cases hcD
 ca:=λX ⟨_,_,I⟩ k=>JO X I c k
end
abbrev Held(H:Hp)(a C:hW):Prop:=∃d,H a>=ExH a C d/\(d=fD\/∃b fs,d>=b/\H b>=.xd fs)
inductive TyX (K:ZA) (H:Hp):V->hV->Prop where
 | non:TyX K H .non (.type "NoneType")
 | ex {a C:hW} (h:Held H a C) (c:XIs K C):TyX K H (.ref a) (.ref C)
section
#version
def TyX.kit(ty:TyX X.K H x t)(I:Qc X ff σ H s)(r:aY x u):∃f:su->Prop,KitX X.K u t f/\f s.heap/\u≠ .builtin "__main__.__loader__#opaque":=by
 cases ty with
 | non=>
   cases(r);show%[_,kitx_none,MK|λz=>nomatch z]
 | @ex a C h c=>
   cases(r);let%[d,j|l]:=h;let%[%[o,vs,e,g,b|i]|_]:=I.hok a _ j;let%[y,m,n|p]:=o;dsimp only at g b i;subst g b i;show%[_,GV c,?_|λz=>nomatch z];rcases l with rfl|⟨q,fs,rfl,v⟩
   .show%[_,fD,e,ρ,ρ|trivial]
   .let%[od|w]:=(I.hok q _ v).there;show%[_,fI od,e,ρ,ρ|w]
end
def tX:∀{a:fx hW} {us:ZF},aQ (a.map V.ref) us->us=a.map ku
 |[],_,.nil=>rfl
 | _::_,_,.cons r t=>by
   cases r;rw[tX t];rfl
def Ek{X:Cx}:cH X (.builtin "isinstance") (λxs H Q=>∃x y t b,xs=[x,y]/\TyX X.K H x t/\
 ((∃n,y= .ty n/\Pk X.K t (.type n)>=b)\/(∃D,y= .ref D/\Pk X.K t (.ref D)>=b)\/∃c d,y= .ref c/\H c&&&Rf V.ref d/\Wy X.K t (d.map ku)>=b)/\Q (.bl b) H):=by
 intro ff s B H xs us Q I r h;let%[x,y,t,b,rfl,ty,f|q]:=h;let%[u,C,rfl,g|a]:=iP r;let%[E,Z,p|nb]:=ty.kit I g;rcases f with⟨n,rfl,e⟩|⟨D,rfl,e⟩|⟨c,d,rfl,i,e⟩
 .cases(a);show O6 Z I.kIn p e nb λtk=>%[.bl b,H,I.tok tk,rfl|q]
 .cases(a);show O6 Z I.kIn p e nb λtk=>%[.bl b,H,I.tok tk,rfl|q]
 .cases(a);let%[_,its,j,o,l,m,n|v]:=I.hok c _ i;let:=tX j;subst this;let%[G,w,z|A]:=o;subst m v;show PySem.W.kia_tup Z I.kIn p l e nb λtk=>%[.bl b,H,I.tok tk,rfl|q]
def JP{X:Cx}{D:hW}(b:Gl X x)(c:X.mg x>=.ref D)(a:(x==("__debug__":jz))=gi):PE X (.Name x p) (λd H Q=>Q (.ref D) H):=λff s d H Q I h=>
 ig I b c %[.ref D,H,I,rfl|h] a
def Fun.okX{P:mu}{K:ZA}{st:v0}(F:Fun K x b st f g)(S:aw N ps (ap st))(len:∀vs H Q E,sp vs H Q E->vs\5=ps\5)
 (c:∀(a:hV) (A:ri) (outer:fx Env) (s:jg) (H:Hp) (vs:fx V) (Q:VK) (E:XK),bW k (A.deeper (Ng b (ap st) ⇑s f a))->sp vs H Q E->
  ∃t,PSs (gB (CXO P w) P w K mg base N b (ap st) f a A outer s H E) (bX st) t/\t {nx:=λ_ h=>Q .non h,rt:=Q} (start N vs) H):d8 P w K mg base (CXO P w) (k+1) f g ps sp:=by
 let%[m,od,kV,i,n,o,a,ct,j,rfl,lk|d]:=F.ex;show HP lk d S len λA outer s H vs Q E l e=>c a A outer s H vs Q E l e
abbrev aS(mg:ZC)(x:jz):hW:=match mg x with
 | fI (.ref C)=>C
 | _=>0
def fP(h:mg x>=.ref C):aS mg x=C:=by unfold aS;rw[h]
structure El (K:ZA) (mg:ZC) (x qual:jz) (st:v0) (ps:ZB):Prop where
 at_:mg x>=.ref (aS mg x)
 is:XIs K (aS mg x)
 ini:∃f fd,MkX K (aS mg x) f/\Fun K "__init__" qual st f fd/\d9 K fd ps []
structure xg (P:mu) (w:rM) (K:ZA) (mg:ZC) (base:su) (k:gf) (x:jz) (ps:ZB) (sp:Sp):Prop where
 ex:∃f fd,d8 P w K mg base (CXO P w) k f fd ps sp/\mg x>=.ref f/\OJ K (.ref f)=gb/\d9 K fd ps []
structure JQ (P:mu) (w:rM) (K:ZA) (mg:ZC) (base:su) (k:gf) (x:jz) (ps:ZB) (sp:Sp):Prop where
 ex:∃f fd,d8 P w K mg base CX0 k f fd ps sp/\MkX K (aS mg x) f/\mg x>=.ref (aS mg x)/\d9 K fd ps []
section
variable{P:mu}{w:rM}{K:ZA}{mg:ZC}{base:su}{x qual:jz}{st:v0}{N ps:ZB}{k:gf}{sp:Sp}
def aK.calX(D:aK K mg x st ps)(S:aw N ps (ap st))
 (a:∀(H:Hp) (vs:fx V) (Q:VK) (E:XK),sp vs H Q E->vs\5=ps\5/\∀(f:hW) (b:hV) (A:ri) (outer:fx Env) (s:jg),bW k (A.deeper (Ng x (ap st) ⇑s f b))->
  ∃t,PSs (gB (CXO P w) P w K mg base N x (ap st) f b A outer s H E) (bX st) t/\t {nx:=λ_ c=>Q .non c,rt:=Q} (start N vs) H):xg P w K mg base (k+1) x ps sp:=by
 let%[f,d,F,e|g]:=D.ex;show%[f,d,F.okX S (λv H Q E h=>(a H v Q E h).1) (λb A o s H v Q E r h=>(a H v Q E h).2 f b A o s r),e,F.kp|g]
def El.cal(D:El K mg x qual st ps)(S:aw N ps (ap st))(len:∀vs H Q E,sp vs H Q E->vs\5=ps\5)
 (b:∀(f:hW) (a:hV) (A:ri) (outer:fx Env) (s:jg) (H:Hp) (vs:fx V) (Q:VK) (E:XK),exK K (aS mg x) f=gb->bW k (A.deeper (Ng qual (ap st) ⇑s f a))->sp vs H Q E->
  ∃t,PSs (gB CX0 P w K mg base N qual (ap st) f a A outer s H E).nox (bX st) t/\t {nx:=λ_ c=>Q .non c,rt:=Q} (start N vs) H):JQ P w K mg base (k+1) x ps sp:=by
 let%[f,d,M,F|e]:=D.ini;show%[f,d,F.ok S len λa A outer s H vs Q E=>b f a A outer s H vs Q E M.ex,M,D.at_|e]
end
section
variable{X:Cx}{K:ZA}{pos:Pos}
def Ay(g:je (CXO X.prog X.w) X E)(C:xg X.prog X.w X.K X.mg X.base j x ps sp)(h:bW k X.A)(i:Gl X x)(a:P7 j k=gb)
 (b:(x==("__debug__":jz))=gi) (c:(e::d).any bu=gi) (l:QA X (e::d) t):QE X (.Call (.Name x p) (e::d) [] pos) (tz sp [] E t):=by
 rw[Zw,X6]at c;let%[f,q,F,m,n|o]:=C.ex;show⟨As F (h.mono (Yc a)) i m n o .nil g l.h b (aE c.1) (ee c.2)⟩
def JR(C:JQ X.prog X.w X.K X.mg X.base j x ps sp)(g:bW k X.A)(h:Gl X x)(a:P7 (j+1) k=gb)
 (b:(x==("__debug__":jz))=gi) (c:(e::d).any bu=gi) (i:QA X (e::d) t):QE X (.Call (.Name x p) (e::d) [] pos) (zD (aS X.mg x) sp t):=by
 rw[Zw,X6]at c;let%[f,n,F,M,l|m]:=C.ex;show⟨Eh M F (g.mono (Yc a)) h l m i.h b (aE c.1) (ee c.2)⟩
def clsE(b:Gl X x)(c:X.mg x>=.ref (aS X.mg x))(a:(x==("__debug__":jz))=gi):QE X (.Name x p) (tC (.ref (aS X.mg x))):=⟨JP b c a⟩
def JS(a:QE X e b):QE X (.FormattedValue e (-1) fD pos) (JM b):=⟨JN a.h⟩
def Em:PJ X [] []:= .nil
def pjE(a:QE X e t)(h:PJ X b ts):PJ X (e::b) (t::ts):= .cons a.h h
def En{rest:fx tI}(h:PJ X (v1::a::rest) ts):QE X (.JoinedStr (v1::a::rest) pos) (qG ts y2):=⟨GT h⟩
def LI(c:JL X.K C f)(b:ii e=gi)(d:QE X o g)(h:QE X e i):QS X (.Assign [.Attribute o f a] e pos) (HZ X.K C g i f):=⟨GS c d.h h.h (jW b)⟩
def Ia(h:X.K=K):cj X (.builtin "isinstance") (λxs H Q=>∃x y t b,xs=[x,y]/\TyX K H x t/\
 ((∃n,y= .ty n/\Pk K t (.type n)>=b)\/(∃D,y= .ref D/\Pk K t (.ref D)>=b)\/∃a c,y= .ref a/\H a&&&Rf V.ref c/\Wy K t (c.map ku)>=b)/\Q (.bl b) H):=by
 subst h;show⟨Ek⟩
end
def JT{P:mu}{K:ZA}
 (g:exK K C f=gb) (h:QE (gB (CXO P w) P w K mg base N c b i j A outer s₀ H₀ E) e l):
 QS (gB (CXO P w) P w K mg base N c b i j A outer s₀ H₀ E) (.Raise (fI e) fD pos) (vA C l λa H=>∃d,H a>=ExO a C (fI d)/\H₀ a=fD/\E (.ref C) (fI d) (drop H a)):=⟨B7 g h.h⟩
def JU{X:Cx}{C D f:hW}(l:exK X.K C f=gb)(m:Gl X x)(n:X.mg x>=.ref D)(B:Ee X.K D)(g:(x==("__debug__":jz))=gi)(h:(e::c).any bu=gi)
 (i:∃pl:Sem on,M9 (.Call (.Attribute (.Name x p) "__init__" b) (e::c) [] pos) X.env=(do
  let j<-M9 (.Name x p) X.env
  Oy b.atName
  let(f,first)<-O7 [j] (Q5 j "__init__" pl)
  Uq pos f first (Nv pos (q0 (e::c) X.env)) (Qj pos (Ol [] X.env)))) (o:QA X (e::c) t):
 QE X (.Call (.Attribute (.Name x p) "__init__" b) (e::c) [] pos) (tCB (λxs H Q=>∃a d ys,xs=V.ref a::ys/\ys\5<=9/\H a>=ExO a C d/\Q .non H) t):=by
 rw[Zw,X6]at h;let%[pl|i]:=i;show⟨Ef m n B (zC l) o.h g (aE h.1) (ee h.2) i⟩
section
#where
end
abbrev clo(c:TE):TE:=λd H Q=>∃a:VK,c d H a/\∀v b,a v b->Q v b
def JV{X:Cx}(h:PE X e b):PE X e (clo b):=λff s c H Q I ⟨d,q,k⟩=>
 thP (h ff s c H d I q) λ_ _ v a f r z=>%[v,a,f,r|k v a z]
def JW{X:Cx}(h:PE X e t)(k:∀a H Q,t' a H Q->t a H Q):PE X e t':=λff s a H Q I q=>h ff s a H Q I (k a H Q q)
def Eo(h:H r=fD):drop (Qa H r o) r=H:=by
 funext b;unfold drop Qa
 simp_all
section
end
end _LL
namespace _SB
open PySem PyProof.Rows
section
variable(prog:mu)(w:rM)(A:ri)(SI:jg->Prop)
abbrev SC{a:Type}(m:zp lX Sem a)(Q:a->lX->Prop)(st:lX):Prop:=
 ∀s,SI s->↥A (m.run st) (λr s'=>SI s'/\Q r.1 r.2) (λ_ _=>yc) s
nonrec abbrev ZY:=mx Nt
abbrev Cmp(a:Uv)(D:Nt->Prop):Prop:=
 ∀x y s,D x->D y->SI s->↥A (keyLt' a x.1 y.1) (λ_ s'=>SI s') (λ_ _=>yc) s
end
section
variable{prog:mu}{w:rM}{A:ri}{SI:jg->Prop}{α β:Type}
def ay{st:lX}(h:Q a st):(SC prog w A SI) (pure a) Q st:=λs b=>by
 show Z3 %[b|h]
def av{st:lX}(h:(SC prog w A SI) m (λa b=>(SC prog w A SI) (f a) Q b) st):(SC prog w A SI) (m>>= f) Q st:=λs c=>by
 show Z2 (ME (h s c) (λr s' h'=>h'.2 s' h'.1) λ_ _ e=>e)
def cT{st:lX}(h:(SC prog w A SI) m Q st)(c:∀a b,Q a b->d a b):(SC prog w A SI) m d st:=λs f=>
 ME (h s f) (λr s' h'=>%[h'.1|c _ _ h'.2]) λ_ _ e=>e
def iF{st:lX}(h:Q st st):(SC prog w A SI) get Q st:=λs a=>by
 show Z3 %[a|h]
def di{st:lX}(h:Q ⟨⟩ (f st)):(SC prog w A SI) (Vk f) Q st:=λs a=>by
 show Z3 %[a|h]
def JX{st:lX}(h:Q ⟨⟩ x):(SC prog w A SI) (set x) Q st:=λs a=>by
 show Z3 %[a|h]
def Az{st:lX}(h:∀s,SI s->↥A m (λa s'=>SI s'/\Q a st) (λ_ _=>yc) s):(SC prog w A SI) (liftM m:zp lX Sem α) Q st:=λs b=>by
 show Z2 (ME (h s b) (λa s' h'=>Z3 h') λ_ _ e=>e)
def kD{st:lX}(h:Q () st):(SC prog w A SI) (liftM (Rx t):zp lX Sem S4) Q st:=Az λs a=>N4 %[a|h]
def cw{st:lX}(I:gf->β->lX->Prop)(j:a<=b)(p:I a c st)
 (l:∀i x st,a<=i->i<b->I i x st->(SC prog w A SI) (f i x) (λr g=>match r with| .done y=>Q y g| .yield y=>I (i+1) y g) st) (m:∀x st,I b x st->Q x st):(SC prog w A SI) (forIn [a:b] c f) Q st:=by
 let q:∀d i x st,i+d=b->a<=i->I i x st->(SC prog w A SI) (forIn (fx.range' i d 1) x f) Q st:=by
  intro d
  induction d with
  | zero=>
    intro i x st e _ h;subst e;show ay (m x st h)
  | succ d n=>
    intro i x st e o h;rw[fx.range'_succ,SE];show av (cT (l i x st o ⋯ h) λr g h'=>?_);cases r with
    | done y=>show ay h'
    | yield y=>show n _ y g ⋯ ⋯ h'
 simp_all
def bE{st:lX}(a:xs[i]?>=x)(h:Q x st):(SC prog w A SI) (OR xs i) Q st:=by
 rw[elem'_eq,a];show ay h
def xh{st:lX}(c:Cmp prog w A SI (kindOf st) D)(d:D x)(f:D y)(h:∀b,Q (fI b) st):(SC prog w A SI) (lt' x y) Q st:=
 av (iF (av (Az (λs g=>NO (ME (c x y s d f g) (λb s' a=>%[a|ay (h b)]) λ_ _ e=>e.elim)))))
def GW{st:lX}(c:Cmp prog w A SI (kindOf st) D)(hi:(p7 st)[i]?>=x)(a:(p7 st)[j]?>=y)(d:D x)(e:D y)
 (h:∀b,Q (fI b) st):(SC prog w A SI) (WV i j) Q st:=
 av (iF (av (bE hi (av (bE a (xh c d e h))))))
end
abbrev io:on->Nt->ZY->gf->gf->gf->zp lX Sem (ij gf):=sortPriv% PySem.Builtin.gallop
section
variable{prog:mu}{w:rM}{A:ri}{SI:jg->Prop}{α β:Type}
abbrev ga0(left:on)(key:Nt)(a:ZY)(base i:gf):zp lX Sem (ij on):=do
 let x<-OR a (base+i)
 if left=gb then lt' x key else do
  let y<-lt' key x
  pure (y.map (!·))
abbrev gaM(f:gf->zp lX Sem (ij on))(x:ij (ij gf)×gf×gf):zp lX Sem (pp (ij (ij gf)×gf×gf)):=
 if GE.ge x.2.1 x.2.2 then pure (.done (fD,x.2.1,x.2.2))else do
  match<-f (x.2.1+(x.2.2-x.2.1)/2)with
  | some w=>if w=gb then pure (.yield (fD,x.2.1+(x.2.2-x.2.1)/2+1,x.2.2))else pure (.yield (fD,x.2.1,x.2.1+(x.2.2-x.2.1)/2))
  | _=>pure (.done (fI fD,x.2.1,x.2.2))
abbrev ga3(f:gf->zp lX Sem (ij on))(n lo hi:gf):zp lX Sem (ij gf):=do
 let x<-forIn [0:n] (fD,lo,hi) λ_ x=>gaM f x
 match x.1 with
 | some r=>pure r
 | none=>pure (fI x.2.2)
abbrev ga1(f:gf->zp lX Sem (ij on))(n hint:gf)(x:ij (ij gf)×gf×gf):zp lX Sem (pp (ij (ij gf)×gf×gf)):=
 if GE.ge x.2.2 (n-hint) then pure (.done (fD,x.2.1,x.2.2))else do
  match<-f (hint+x.2.2)with
  | some w=>if(!w)=gb then pure (.done (fD,x.2.1,x.2.2))else pure (.yield (fD,x.2.2,2*x.2.2+1))
  | _=>pure (.done (fI fD,x.2.1,x.2.2))
abbrev ga2(f:gf->zp lX Sem (ij on))(hint:gf)(x:ij (ij gf)×gf×gf):zp lX Sem (pp (ij (ij gf)×gf×gf)):=
 if GE.ge x.2.2 (hint+1) then pure (.done (fD,x.2.1,x.2.2))else do
  match<-f (hint-x.2.2)with
  | some w=>if w=gb then pure (.done (fD,x.2.1,x.2.2))else pure (.yield (fD,x.2.2,2*x.2.2+1))
  | _=>pure (.done (fI fD,x.2.1,x.2.2))
set_option smartUnfolding false in
def LJ(left:on)(key:Nt)(a:ZY)(base n hint:gf):io left key a base n hint=(do
 match<-ga0 left key a base hint with
 | some w=>
   if w=gb then(do
    let x<-forIn [0:n] (fD,0,1) λ_ x=>ga1 (ga0 left key a base) n hint x
    match x.1 with
    | some r=>pure r
    | none=>ga3 (ga0 left key a base) n (hint+x.2.1+1) (hint+min x.2.2 (n-hint)))
   else(do
    let x<-forIn [0:n] (fD,0,1) λ_ x=>ga2 (ga0 left key a base) hint x
    match x.1 with
    | some r=>pure r
    | none=>ga3 (ga0 left key a base) n (hint+1-min x.2.2 (hint+1)) (hint-x.2.1))
 | _=>pure fD):=rfl
def zE{f:ij (ij gf)×gf×gf->zp lX Sem (pp (ij (ij gf)×gf×gf))}{g:ij (ij gf)×gf×gf->zp lX Sem (ij gf)}{n l h:gf}{Q:ij gf->lX->Prop}{st:lX}(P:gf->Prop)(b:P h)
 (c:∀l h (R:pp _->lX->Prop),P h->(∀l h,P h->R (.done (fD,l,h)) st/\R (.yield (fD,l,h)) st)->(SC prog w A SI) (f (fD,l,h)) R st) (d:∀l h,P h->(SC prog w A SI) (g (fD,l,h)) Q st):
 (SC prog w A SI) (do let x<-forIn [0:n] (fD,l,h) λ_ x=>f x;g x) Q st:=by
 show av (cT (cw (Q:=λx a=>a=st/\∃l h,x=(fD,l,h)/\P h) (λ_ x a=>a=st/\∃l h,x=(fD,l,h)/\P h) (Xg _) %[rfl,_,_,rfl|b] ?_ λ_ _ h=>h) ?_)
 .intro _ _ _ _ _ %[rfl,l,h,rfl|p];show c l h _ p λl h p=>%[%[rfl,_,_,rfl|p],rfl,_,_,rfl|p]
 .intro _ _ %[rfl,l,h,rfl|p];show d l h p
def f6{D:Nt->Prop}{left:on}{key:Nt}{a:ZY}{base n hint:gf}{Q:ij gf->lX->Prop}{st:lX}(c:Cmp prog w A SI (kindOf st) D)(e:D key)
 (j:∀i,i<n->∃x,a[base+i]?>=x/\D x) (m:hint<n) (h:∀k,k<=n->Q (fI k) st):(SC prog w A SI) (io left key a base n hint) Q st:=by
 let ask:∀(i:gf) (R:ij on->lX->Prop),i<n->(∀b,R (fI b) st)->(SC prog w A SI) (ga0 left key a base i) R st:=λi R hi f=>by
  let%[x,p|g]:=j i hi;show av (bE p ?_);cases left
  .show av (xh c e g λ_=>ay (f _))
  .show xh c g e f
 let g3:∀l o,o<=n->(SC prog w A SI) (ga3 (ga0 left key a base) n l o) Q st:=λl o d=>by
  show zE (·<=n) d (λl o R d k=>?_) λl o d=>ay (h o d)
  unfold gaM;dsimp only
  split
  .show ay (k _ _ d).1
  .show av (ask _ _ ⋯ λb=>?_);cases b
   .show ay (k _ _ !_).2
   .show ay (k _ _ d).2
 rw[LJ];show av (ask hint _ m λb=>?_);cases b
 .show zE (λ_=>Po) ⟨⟩ (λl o R _ k=>?_) λl o _=>g3 _ _ !_
  unfold ga2;dsimp only
  split
  .show ay (k _ _ ⟨⟩).1
  .show av (ask _ _ ⋯ λb=>?_);cases b
   .show ay (k _ _ ⟨⟩).2
   .show ay (k _ _ ⟨⟩).1
 .show zE (λ_=>Po) ⟨⟩ (λl o R _ k=>?_) λl o _=>g3 _ _ !_
  unfold ga1;dsimp only
  split
  .show ay (k _ _ ⟨⟩).1
  .show av (ask _ _ ⋯ λb=>?_);cases b
   .show ay (k _ _ ⟨⟩).1
   .show ay (k _ _ ⟨⟩).2
end
abbrev qH:ZY->ZY->zp lX Sem ZY:=sortPriv% PySem.Builtin.mergeLo
abbrev qI:ZY->ZY->zp lX Sem ZY:=sortPriv% PySem.Builtin.mergeHi
abbrev dJ:gf->zp lX Sem S4:=sortPriv% PySem.Builtin.setMinGallop
def iY(g:gf):dJ g=Vk (λs=>UF (kindOf s) (p7 s) (ow s) g (NL s)):=rfl
abbrev eI(a b r:ZY):Prop:=r.toList.Perm (a.toList++b.toList)
abbrev MI(a b out:ZY)(c d:gf):Prop:=(out.toList++(a.toList.drop c++b.toList.drop d)).Perm (a.toList++b.toList)
def gH(a:ZY)(i j:gf):(a.extract i j).toList=(a.toList.drop i).take (j-i):=by
 simp
def pX(a:ZY)(i:gf):(a.extract i a.size).toList=a.toList.drop i:=by
 rw[gH,Zn]
 simp_all
def pY(a:ZY)(i k:gf):(a.extract i (i+k)).toList=(a.toList.drop i).take k:=by
 simp
def MI.takeA{a b out:ZY}{c d:gf}(h:MI a b out c d)(k:gf):MI a b (out++a.extract c (c+k)) (c+k) d:=by
 unfold MI at h ⊢;rw[Xf,pY,Ze,<-Ze _ (a.toList.drop _),<-XJ,Xd];show h
def MI.takeB{a b out:ZY}{d c:gf}(h:MI a b out d c)(k:gf):MI a b (out++b.extract c (c+k)) d (c+k):=by
 unfold MI at h ⊢;show P8 ?_ h;rw[Xf,pY,Ze];show Ou _ ?_;show(N6 _ _ _).trans ?_;rw[<-XJ,Xd]
def jo{a:ZY}{i:gf}(h:i<a.size)(out:ZY):out++a.extract i (i+1)=out.push a[i]:=by
 apply mx.ext';rw[Xf,pY,RP,Oh ↑h];rfl
def MI.done{a b out:ZY}{c d:gf}(h:MI a b out c d):eI a b (out++a.extract c a.size++b.extract d b.size):=by
 unfold eI;rw[Xf,Xf,pX,pX,Ze];show h
def MI.last{a b out:ZY}{c d:gf}(h:MI a b out c d):eI a b (out++b.extract d b.size++a.extract c a.size):=by
 unfold eI;rw[Xf,Xf,pX,pX,Ze];show(Ou _ Q0).trans h
abbrev SG(st a:lX):Prop:=kindOf a=kindOf st/\p7 a=p7 st/\ow a=ow st/\NL a=NL st
def SG.refl(st:lX):SG st st:=%[rfl,rfl,rfl|rfl]
def SG.set{st a:lX}(h:SG st a)(g:gf):SG st (UF (kindOf a) (p7 a) (ow a) g (NL a)):=h
def SG.trans{s t u:lX}(h:SG s t)(k:SG t u):SG s u:=%[k.1.trans h.1,k.2.1.trans h.2.1,k.2.2.1.trans h.2.2.1|k.2.2.2.trans h.2.2.2]
structure LC (prog:mu) (w:rM) (A:ri) (SI:jg->Prop) (D:Nt->Prop) (a b:ZY) (st:lX):Prop where
 c:Cmp prog w A SI (kindOf st) D
 DA:∀{i:gf} (hi:i<a.size),a[i]?>=a[i]/\D a[i]
 DB:∀{i:gf} (hi:i<b.size),b[i]?>=b[i]/\D b[i]
def LC.of{prog:mu}{w:rM}{A:ri}{d:jg->Prop}{D:Nt->Prop}{a b:ZY}{s t:lX}(C:LC prog w A d D a b s)(h:SG s t):LC prog w A d D a b t:={C with c:=h.1▸C.c}
section
variable{prog:mu}{w:rM}{A:ri}{SI:jg->Prop}{α β:Type}
structure ML (a b out:ZY) (ia ib:gf):Prop where
 mi:MI a b out ia ib
 na:ia+1<a.size
 nb:ib<b.size
abbrev lo3(a b out:ZY)(c d g k k1:gf):zp lX Sem (pp (ij ZY×ZY×gf×gf×gf×gf×gf)):=OR a c>>= λe=>if(c+1+1==a.size)=gb then pure (.done (fI (out.push e++b.extract d b.size++a.extract (c+1) a.size),out.push e,c+1,d,g,k,k1))else if(decide (k<7)&&decide (k1<7))=gb then pure (.done (fD,out.push e,c+1,d,g,k,k1))else pure (.yield (fD,out.push e,c+1,d,g,k,k1))
abbrev lo2(a b out:ZY)(d c g k f:gf):zp lX Sem (pp (ij ZY×ZY×gf×gf×gf×gf×gf)):=OR b c>>= λe=>if(c+1==b.size)=gb then pure (.done (fI (out.push e++a.extract d a.size++b.extract (c+1) b.size),out.push e,d,c+1,g,k,f))else OR a d>>= λh=>io gb h b (c+1) (b.size-(c+1)) 0>>= fun|some k1=>if GT.gt k1 0 then if(c+1+k1==b.size)=gb then pure (.done (fI (out.push e++b.extract (c+1) (c+1+k1) ++a.extract d a.size++b.extract (c+1+k1) b.size),out.push e++b.extract (c+1) (c+1+k1),d,c+1+k1,g,k,k1))else lo3 a b (out.push e++b.extract (c+1) (c+1+k1)) d (c+1+k1) g k k1 else lo3 a b (out.push e) d (c+1) g k k1|_=>pure (.done (fI (out.push e++a.extract d a.size++b.extract (c+1) b.size),out.push e,d,c+1,g,k,f))
abbrev lo1(a b out:ZY)(c d h f g:gf):zp lX Sem (pp (ij ZY×ZY×gf×gf×gf×gf×gf)):=dJ g>>= λ_=>OR b d>>= λe=>io gi e a c (a.size-c) 0>>= fun|some k=>if GT.gt k 0 then if(c+k+1==a.size)=gb then pure (.done (fI (out++a.extract c (c+k) ++b.extract d b.size++a.extract (c+k) a.size),out++a.extract c (c+k),c+k,d,g,k,f))else if(c+k==a.size)=gb then pure (.done (fI (out++a.extract c (c+k) ++a.extract (c+k) a.size++b.extract d b.size),out++a.extract c (c+k),c+k,d,g,k,f))else lo2 a b (out++a.extract c (c+k)) (c+k) d g k f else lo2 a b out c d g k f|_=>pure (.done (fI (out++a.extract c a.size++b.extract d b.size),out,c,d,g,h,f))
abbrev loI(a b out:ZY)(c d g f h:gf):zp lX Sem (pp (ij ZY×ZY×gf×gf×gf×gf)):=OR b d>>= λi=>OR a c>>= λj=>lt' i j>>= fun|some w=>if w=gb then(OR b d>>= λe=>if(d+1==b.size)=gb then pure (.done (fI (out.push e++a.extract c a.size++b.extract (d+1) b.size),out.push e,c,d+1,0,h+1))else if GE.ge (h+1) g then pure (.done (fD,out.push e,c,d+1,0,h+1))else pure (.yield (fD,out.push e,c,d+1,0,h+1)))else(OR a c>>= λe=>if(c+1+1==a.size)=gb then pure (.done (fI (out.push e++b.extract d b.size++a.extract (c+1) a.size),out.push e,c+1,d,f+1,0))else if GE.ge (f+1) g then pure (.done (fD,out.push e,c+1,d,f+1,0))else pure (.yield (fD,out.push e,c+1,d,f+1,0)))|_=>pure (.done (fI (out++a.extract c a.size++b.extract d b.size),out,c,d,f,h))
abbrev loG(a b:ZY):ij ZY×ZY×gf×gf×gf×gf×gf->zp lX Sem (pp (ij ZY×ZY×gf×gf×gf×gf×gf)):=λx=>
 if GT.gt x.2.2.2.2.1 1 then lo1 a b x.2.1 x.2.2.1 x.2.2.2.1 x.2.2.2.2.2.1 x.2.2.2.2.2.2 (x.2.2.2.2.1-1)else lo1 a b x.2.1 x.2.2.1 x.2.2.2.1 x.2.2.2.2.2.1 x.2.2.2.2.2.2 x.2.2.2.2.1
abbrev loE(x:ij ZY×ZY×gf×gf×gf×gf×gf):zp lX Sem (pp (ij ZY×ZY×gf×gf×gf)):=
 match x.1 with
 | some r=>pure (.done (fI r,x.2.1,x.2.2.1,x.2.2.2.1,x.2.2.2.2.1))
 | none=>do
   dJ (x.2.2.2.2.1+1)
   pure (.yield (fD,x.2.1,x.2.2.1,x.2.2.2.1,x.2.2.2.2.1+1))
abbrev loF(a b:ZY)(g:gf)(x:ij ZY×ZY×gf×gf×gf×gf):zp lX Sem (pp (ij ZY×ZY×gf×gf×gf)):=
 match x.1 with
 | some r=>pure (.done (fI r,x.2.1,x.2.2.1,x.2.2.2.1,g))
 | none=>do
   Rx "list.sort.gallop"
   let x<-forIn [0:a.size+b.size] (fD,x.2.1,x.2.2.1,x.2.2.2.1,g+1,x.2.2.2.2.1,x.2.2.2.2.2) λ_ x=>loG a b x
   loE x
abbrev loO(a b:ZY):ij ZY×ZY×gf×gf×gf->zp lX Sem (pp (ij ZY×ZY×gf×gf×gf)):=λx=>do
 let y<-forIn [0:a.size+b.size] (fD,x.2.1,x.2.2.1,x.2.2.2.1,0,0) λ_ y=>loI a b y.2.1 y.2.2.1 y.2.2.2.1 x.2.2.2.2 y.2.2.2.2.1 y.2.2.2.2.2
 loF a b x.2.2.2.2 y
abbrev loR(x:ij ZY×ZY×gf×gf×gf):zp lX Sem ZY:=
 match x.1 with
 | some r=>pure r
 | none=>Qt "internal:list.sort.merge-bound"
set_option smartUnfolding false in
def LK(a b:ZY):qH a b=(do
 Rx "list.sort.merge-lo"
 let e<-OR b 0
 if(1==b.size)=gb then pure (#[e] ++a.extract 0 a.size++b.extract 1 b.size)
 else if(0+1==a.size)=gb then pure (#[e] ++b.extract 1 b.size++a.extract 0 a.size)
 else do
  let s<-get
  let x<-forIn [0:a.size+b.size] (fD,#[e],0,1,gallopOf s) λ_ x=>loO a b x
  loR x):=by
 rfl
variable{D:Nt->Prop}{a b out:ZY}{ia ib g k bc z:gf}{st:lX}
def be{m n:gf}(h: ¬(m==n)=gb):m≠n:=λe=>h (by simp[e])
def Ep{k1:gf}{R:pp _->lX->Prop}(C:LC prog w A SI D a b st)(m:ML a b out ia ib)(d:z<=out.size+1)
 (e:∀r o,eI a b r->R (.done (fI r,o)) st) (f:∀out ia ib g k k1,ML a b out ia ib->z<=out.size->R (.done (fD,out,ia,ib,g,k,k1)) st/\R (.yield (fD,out,ia,ib,g,k,k1)) st):(SC prog w A SI) (lo3 a b out ia ib g k k1) R st:=by
 let na:=m.na;show av (bE (C.DA !_).1 ?_);let c:=m.mi.takeA 1;rw[jo !_]at c
 split
 .show ay (e _ _ c.last)
 .rename_i q
  let q:=be q;let h:=f _ _ _ g k k1 %[c,!_|m.nb] (by rw[Xk];show d)
  split
  .show ay h.1
  .show ay h.2
def Er{R:pp (ij ZY×ZY×gf×gf×gf×gf×gf)->lX->Prop}(C:LC prog w A SI D a b st)(m:ML a b out ia ib)(p:z<=out.size+2)
 (c:∀r o,eI a b r->R (.done (fI r,o)) st) (e:∀out ia ib g k k1,ML a b out ia ib->z<=out.size->R (.done (fD,out,ia,ib,g,k,k1)) st/\R (.yield (fD,out,ia,ib,g,k,k1)) st):(SC prog w A SI) (lo2 a b out ia ib g k bc) R st:=by
 let%[l,na|nb]:=m;show av (bE (C.DB nb).1 ?_);let d:=l.takeB 1;rw[jo nb]at d
 split
 .show ay (c _ _ d.done)
 .rename_i q
  let q:=be q;let f:=C.DA (show ia<_ by lia);show av (bE f.1 (av (f6 C.c f.2 (λi hi=>%[_|C.DB !_]) ⋯ λk2 n=>?_)));dsimp only
  split
  .let h:=d.takeB k2
   split
   .show ay (c _ _ h.done)
   .rename_i j
    let j:=be j;show Ep C %[h,na|!_] (by simp;lia) c e
  .show Ep C %[d,na|!_] (by rw[Xk];lia) c e
def JY{l:gf}{R:pp (ij ZY×ZY×gf×gf×gf×gf×gf)->lX->Prop}(C:LC prog w A SI D a b st)(m:ML a b out ia ib)(n:z<=out.size+2)
 (d:∀c r o,SG st c->eI a b r->R (.done (fI r,o)) c) (e:∀c out ia ib g k k1,SG st c->ML a b out ia ib->z<=out.size->R (.done (fD,out,ia,ib,g,k,k1)) c/\R (.yield (fD,out,ia,ib,g,k,k1)) c):(SC prog w A SI) (lo1 a b out ia ib l bc g) R st:=by
 let na:=m.na;let f:=C.DB m.nb;unfold lo1;rw[iY];show av (di ?_);let sg:=(SG.refl st).set g;let d:=λr o=>d _ r o sg
 let e:=λout ia ib g k k1=>e _ out ia ib g k k1 sg
 let C:=C.of sg;show av (bE f.1 (av (f6 C.c f.2 (λi hi=>%[_|C.DA !_]) ⋯ λk p=>?_)));dsimp only
 split
 .let mk:=m.mi.takeA k
  split
  .show ay (d _ _ mk.last)
  .rename_i h
   let h:=be h
   split
   .show ay (d _ _ mk.done)
   .rename_i j
    let j:=be j;show Er C %[mk,!_|m.nb] (by simp;lia) d e
 .show Er C m n d e
def JZ{c:gf}{R:pp (ij ZY×ZY×gf×gf×gf×gf)->lX->Prop}(C:LC prog w A SI D a b st)(m:ML a b out ia ib)(f:z<=out.size+1)
 (i:∀r o,eI a b r->R (.done (fI r,o)) st) (j:∀out ia ib c bc,ML a b out ia ib->z<=out.size->R (.done (fD,out,ia,ib,c,bc)) st/\R (.yield (fD,out,ia,ib,c,bc)) st):(SC prog w A SI) (loI a b out ia ib g c bc) R st:=by
 let%[l,na|nb]:=m;let d:=C.DA (show ia<_ by lia);let e:=C.DB nb;show av (bE e.1 (av (bE d.1 (av (xh C.c e.2 d.2 λ_=>?_)))));dsimp only
 split
 .show av (bE e.1 ?_);let m2:=l.takeB 1;rw[jo nb]at m2
  split
  .show ay (i _ _ m2.done)
  .rename_i q
   let q:=be q;let h:=j _ _ _ 0 (bc+1) %[m2,na|!_] (by rw[Xk];show f)
   split
   .show ay h.1
   .show ay h.2
 .show av (bE d.1 ?_);let m2:=l.takeA 1;rw[jo !_]at m2
  split
  .show ay (i _ _ m2.last)
  .rename_i q
   let q:=be q;let h:=j _ _ _ (c+1) 0 %[m2,!_|nb] (by rw[Xk];show f)
   split
   .show ay h.1
   .show ay h.2
def J7{j:gf}{q:ij ZY}{R:pp (ij ZY×ZY×gf×gf×gf)->lX->Prop}(C:LC prog w A SI D a b st)(m:ML a b out ia ib)(e:j+1<=out.size)
 (p:∀d r o,SG st d->eI a b r->R (.done (fI r,o)) d) (s:∀d out ia ib g,SG st d->ML a b out ia ib->j+2<=out.size->R (.yield (fD,out,ia,ib,g)) d):(SC prog w A SI) (loO a b (q,out,ia,ib,g)) R st:=by
 let u:=m.na;show av (cT (cw (Q:=λx d=>SG st d/\((∃r o,x=(fI r,o)/\eI a b r)\/∃out ia ib f bc,x=(fD,out,ia,ib,f,bc)/\ML a b out ia ib/\j+2<=out.size))
  (λj2 x d=>SG st d/\∃out ia ib f bc,x=(fD,out,ia,ib,f,bc)/\ML a b out ia ib/\j+1+j2<=out.size) (Xg _) %[SG.refl _,_,_,_,_,_,rfl,m|e] ?_ ?_) ?_)
 .intro j2 x i _ l %[c,out,ia,ib,f,bc,rfl,m|e];show JZ (C.of c) m ⋯ (λr o h=>%[c|.inl %[r,o,rfl|h]]) λout ia ib f bc h z=>%[%[c|.inr %[_,_,_,_,_,rfl,h|!_]],c,_,_,_,_,_,rfl,h|z]
 .intro x i %[c,out,ia,ib,f,bc,rfl,m|e];show%[c|.inr %[_,_,_,_,_,ρ,m|!_]]
 .rintro x i ⟨c,⟨r,o,rfl,n⟩|⟨out,ia,ib,f,bc,rfl,m,e⟩⟩
  .show ay (p _ r _ c n)
  .show av (kD ?_);show av (cT (cw (Q:=λx d=>SG st d/\((∃r o,x=(fI r,o)/\eI a b r)\/∃out ia ib g f bc,x=(fD,out,ia,ib,g,f,bc)/\ML a b out ia ib/\j+2<=out.size))
    (λj2 x d=>SG st d/\∃out ia ib g f bc,x=(fD,out,ia,ib,g,f,bc)/\ML a b out ia ib/\j+2<=out.size) (Xg _) %[c,_,_,_,_,_,_,rfl,m|e] ?_ ?_) ?_)
   .intro j2 x i _ l %[c,out,ia,ib,g,f,bc,rfl,m|e];unfold loG;rw[<-apply_ite _];show JY (C.of c) m ⋯ (λd r o sg h=>%[SG.trans c sg|.inl %[r,o,rfl|h]]) λd out ia ib g k k1 sg h z=>%[%[SG.trans c sg|.inr %[_,_,_,_,_,_,rfl,h|z]],SG.trans c sg,_,_,_,_,_,_,rfl,h|z]
   .simp_all
   .rintro x i ⟨c,⟨r,o,rfl,n⟩|⟨out,ia,ib,g,f,bc,rfl,m,e⟩⟩
    .show ay (p _ r _ c n)
    .show av (di (ay (s _ _ _ _ _ (c.set _) m e)))
def zF{Q:ZY->lX->Prop}(C:LC prog w A SI D a b st)(v:1<=a.size)(l:1<=b.size)(h:∀r c,SG st c->eI a b r->Q r c):(SC prog w A SI) (qH a b) Q st:=by
 rw[LK];show av (kD (av (bE (C.DB l).1 ?_)));let i:=(show MI a b #[] 0 0 from MV _).takeB 1;rw[jo l]at i
 split
 .show ay (h _ st (SG.refl _) i.done)
 rename_i n
 let n:=be n
 split
 .show ay (h _ st (SG.refl _) i.last)
 rename_i p
 let p:=be p;show av (iF ?_);show av (cT (cw (Q:=λx c=>SG st c/\∃r,x.1>=r/\eI a b r)
  (λj x c=>SG st c/\∃out ia ib g,x=(fD,out,ia,ib,g)/\ML a b out ia ib/\j+1<=out.size) (Xg _) %[SG.refl _,_,_,_,_,rfl,%[i,!_|!_]|Zi _] ?_ ?_) ?_)
 .intro j x d _ y %[sg,out,ia,ib,g,rfl,m|f];show J7 (C.of sg) m f (λc r o e h=>%[SG.trans sg e,r,rfl|h]) λc out ia ib g e h z=>%[SG.trans sg e,_,_,_,_,rfl,h|z]
 .intro x d %[sg,out,ia,ib,g,rfl,m|f];let:=m.na;let q:=m.mi.length_eq;simp only[Z9,Zb,Yf]at q
  lia
 .rintro⟨B,E⟩ d ⟨sg,r,s,u⟩;subst s;show ay (h r d sg u)
end
abbrev MH(a b out:ZY)(na nb:gf):Prop:=(b.toList.take nb++(a.toList.take na++out.reverse.toList)).Perm (a.toList++b.toList)
def AA(a out:ZY){k n:gf}(h:k<=n):a.toList.take k++(out++(a.extract k n).reverse).reverse.toList=a.toList.take n++out.reverse.toList:=by
 rw[mx.reverse_append,mx.reverse_reverse,Xf,gH,<-Ze,<-fx.take_add,gf.add_sub_cancel' h]
def MH.takeA{a b out:ZY}{na nb k:gf}(h:MH a b out na nb)(c:k<=na):MH a b (out++(a.extract k na).reverse) k nb:=by
 unfold MH;rw[AA _ _ c];show h
def MH.takeB{a b out:ZY}{na nb k:gf}(h:MH a b out na nb)(c:k<=nb):MH a b (out++(b.extract k nb).reverse) na k:=by
 show(N6 _ _ _).trans ?_;rw[AA _ _ c];show(N6 _ _ _).trans h
def jY{a:ZY}{i:gf}(h:i<a.size)(out:ZY):out++(a.extract i (i+1)).reverse=out.push a[i]:=by
 rw[<-jo h,<-mx.empty_append (xs:=a.extract i (i+1)),jo h];rfl
def MH.first{a b out:ZY}{na nb:gf}(h:MH a b out na nb):eI a b (b.extract 0 nb++a.extract 0 na++out.reverse):=by
 unfold eI;rw[Xf,Xf,gH,gH,Ze];show h
def MH.done{a b out:ZY}{na nb:gf}(h:MH a b out na nb):eI a b (a.extract 0 na++b.extract 0 nb++out.reverse):=by
 unfold eI;rw[Xf,Xf,gH,gH,Ze];show(N6 _ _ _).trans h
section
variable{prog:mu}{w:rM}{A:ri}{SI:jg->Prop}{α β:Type}
structure MHS (a b out:ZY) (na nb:gf):Prop where
 mh:MH a b out na nb
 pa:1<=na
 pb:2<=nb
 ma:na<=a.size
 mb:nb<=b.size
abbrev hi3(a b:ZY)(na nb:gf)(out:ZY)(g k k1:gf):zp lX Sem (pp (ij ZY×gf×gf×ZY×gf×gf×gf)):=OR a (na-1)>>= λe=>if(na-1==0)=gb then pure (.done (fI (a.extract 0 (na-1) ++b.extract 0 nb++(out.push e).reverse),na-1,nb,out.push e,g,k,k1))else if(decide (k<7)&&decide (k1<7))=gb then pure (.done (fD,na-1,nb,out.push e,g,k,k1))else pure (.yield (fD,na-1,nb,out.push e,g,k,k1))
abbrev hi2(a b:ZY)(na nb:gf)(out:ZY)(g k c:gf):zp lX Sem (pp (ij ZY×gf×gf×ZY×gf×gf×gf)):=OR b (nb-1)>>= λe=>if(nb-1==1)=gb then pure (.done (fI (b.extract 0 (nb-1) ++a.extract 0 na++(out.push e).reverse),na,nb-1,out.push e,g,k,c))else OR a (na-1)>>= λd=>io gb d b 0 (nb-1) (nb-1-1)>>= fun|some k1=>if GT.gt (nb-1-k1) 0 then if(k1==1)=gb then pure (.done (fI (b.extract 0 k1++a.extract 0 na++(out.push e++(b.extract k1 (nb-1)).reverse).reverse),na,k1,out.push e++(b.extract k1 (nb-1)).reverse,g,k,nb-1-k1))else if(k1==0)=gb then pure (.done (fI (a.extract 0 na++b.extract 0 k1++(out.push e++(b.extract k1 (nb-1)).reverse).reverse),na,k1,out.push e++(b.extract k1 (nb-1)).reverse,g,k,nb-1-k1))else hi3 a b na k1 (out.push e++(b.extract k1 (nb-1)).reverse) g k (nb-1-k1)else hi3 a b na (nb-1) (out.push e) g k (nb-1-k1)|_=>pure (.done (fI (a.extract 0 na++b.extract 0 (nb-1) ++(out.push e).reverse),na,nb-1,out.push e,g,k,c))
abbrev hi1(a b:ZY)(na nb:gf)(out:ZY)(d c g:gf):zp lX Sem (pp (ij ZY×gf×gf×ZY×gf×gf×gf)):=dJ g>>= λ_=>OR b (nb-1)>>= λe=>io gi e a 0 na (na-1)>>= fun|some k=>if GT.gt (na-k) 0 then if(k==0)=gb then pure (.done (fI (a.extract 0 k++b.extract 0 nb++(out++(a.extract k na).reverse).reverse),k,nb,out++(a.extract k na).reverse,g,na-k,c))else hi2 a b k nb (out++(a.extract k na).reverse) g (na-k) c else hi2 a b na nb out g (na-k) c|_=>pure (.done (fI (a.extract 0 na++b.extract 0 nb++out.reverse),na,nb,out,g,d,c))
abbrev hiI(a b:ZY)(na nb:gf)(out:ZY)(g c d:gf):zp lX Sem (pp (ij ZY×gf×gf×ZY×gf×gf)):=OR b (nb-1)>>= λf=>OR a (na-1)>>= λh=>lt' f h>>= fun|some w=>if w=gb then(OR a (na-1)>>= λe=>if(na-1==0)=gb then pure (.done (fI (a.extract 0 (na-1) ++b.extract 0 nb++(out.push e).reverse),na-1,nb,out.push e,c+1,0))else if GE.ge (c+1) g then pure (.done (fD,na-1,nb,out.push e,c+1,0))else pure (.yield (fD,na-1,nb,out.push e,c+1,0)))else(OR b (nb-1)>>= λe=>if(nb-1==1)=gb then pure (.done (fI (b.extract 0 (nb-1) ++a.extract 0 na++(out.push e).reverse),na,nb-1,out.push e,0,d+1))else if GE.ge (d+1) g then pure (.done (fD,na,nb-1,out.push e,0,d+1))else pure (.yield (fD,na,nb-1,out.push e,0,d+1)))|_=>pure (.done (fI (a.extract 0 na++b.extract 0 nb++out.reverse),na,nb,out,c,d))
abbrev hiG(a b:ZY)(x:ij ZY×gf×gf×ZY×gf×gf×gf):zp lX Sem (pp (ij ZY×gf×gf×ZY×gf×gf×gf)):=
 if GT.gt x.2.2.2.2.1 1 then hi1 a b x.2.1 x.2.2.1 x.2.2.2.1 x.2.2.2.2.2.1 x.2.2.2.2.2.2 (x.2.2.2.2.1-1)else hi1 a b x.2.1 x.2.2.1 x.2.2.2.1 x.2.2.2.2.2.1 x.2.2.2.2.2.2 x.2.2.2.2.1
abbrev hiE(x:ij ZY×gf×gf×ZY×gf×gf×gf):zp lX Sem (pp (ij ZY×gf×gf×ZY×gf)):=
 match x.1 with
 | some r=>pure (.done (fI r,x.2.1,x.2.2.1,x.2.2.2.1,x.2.2.2.2.1))
 | none=>do
   dJ (x.2.2.2.2.1+1)
   pure (.yield (fD,x.2.1,x.2.2.1,x.2.2.2.1,x.2.2.2.2.1+1))
abbrev hiF(a b:ZY)(g:gf)(x:ij ZY×gf×gf×ZY×gf×gf):zp lX Sem (pp (ij ZY×gf×gf×ZY×gf)):=
 match x.1 with
 | some r=>pure (.done (fI r,x.2.1,x.2.2.1,x.2.2.2.1,g))
 | none=>do
   Rx "list.sort.gallop"
   let x<-forIn [0:a.size+b.size] (fD,x.2.1,x.2.2.1,x.2.2.2.1,g+1,x.2.2.2.2.1,x.2.2.2.2.2) λ_ x=>hiG a b x
   hiE x
abbrev hiO(a b:ZY)(x:ij ZY×gf×gf×ZY×gf):zp lX Sem (pp (ij ZY×gf×gf×ZY×gf)):=do
 let y<-forIn [0:a.size+b.size] (fD,x.2.1,x.2.2.1,x.2.2.2.1,0,0) λ_ y=>hiI a b y.2.1 y.2.2.1 y.2.2.2.1 x.2.2.2.2 y.2.2.2.2.1 y.2.2.2.2.2
 hiF a b x.2.2.2.2 y
abbrev hiR(x:ij ZY×gf×gf×ZY×gf):zp lX Sem ZY:=
 match x.1 with
 | some r=>pure r
 | none=>Qt "internal:list.sort.merge-bound"
set_option smartUnfolding false in
def LL(a b:ZY):qI a b=(do
 Rx "list.sort.merge-hi"
 let e<-OR a (a.size-1)
 if(a.size-1==0)=gb then pure (a.extract 0 (a.size-1) ++b.extract 0 b.size++ #[e].reverse)
 else if(b.size==1)=gb then pure (b.extract 0 b.size++a.extract 0 (a.size-1) ++ #[e].reverse)
 else do
  let s<-get
  let x<-forIn [0:a.size+b.size] (fD,a.size-1,b.size,#[e],gallopOf s) λ_ x=>hiO a b x
  hiR x):=by
 rfl
variable{D:Nt->Prop}{a b out:ZY}{na nb g k bc z:gf}{st:lX}
def Es{k1:gf}{R:pp _->lX->Prop}(C:LC prog w A SI D a b st)(m:MHS a b out (na+1) nb)(d:z<=out.size+1)
 (e:∀r o,eI a b r->R (.done (fI r,o)) st) (f:∀na nb out g k k1,MHS a b out na nb->z<=out.size->R (.done (fD,na,nb,out,g,k,k1)) st/\R (.yield (fD,na,nb,out,g,k,k1)) st):(SC prog w A SI) (hi3 a b (na+1) nb out g k k1) R st:=by
 let%[j,p,l,s|n]:=m;show av (bE (C.DA (i:=na) !_).1 ?_);let c:=j.takeA (Ye na);rw[jY !_]at c
 split
 .show ay (e _ _ c.done)
 rename_i q
 let q:=be q;let h:=f _ _ _ g k k1 %[c,!_,l,!_|n] (by rw[Xk];show d)
 split
 .show ay h.1
 .show ay h.2
def Et{R:pp (ij ZY×gf×gf×ZY×gf×gf×gf)->lX->Prop}(C:LC prog w A SI D a b st)(m:MHS a b out (na+1) (nb+1))(v:z<=out.size+2)
 (c:∀r o,eI a b r->R (.done (fI r,o)) st) (h:∀na nb out g k k1,MHS a b out na nb->z<=out.size->R (.done (fD,na,nb,out,g,k,k1)) st/\R (.yield (fD,na,nb,out,g,k,k1)) st):(SC prog w A SI) (hi2 a b (na+1) (nb+1) out g k bc) R st:=by
 let%[u,j,y,l|B]:=m;let n:=C.DA (i:=na) !_;unfold hi2;rw[Qk,Qk];show av (bE (C.DB (i:=nb) !_).1 ?_);let d:=u.takeB (Ye nb);rw[jY !_]at d
 split
 .show ay (c _ _ d.first)
 rename_i q
 let q:=be q;show av (bE n.1 (av (f6 C.c n.2 (λi hi=>%[_|C.DB !_]) ⋯ λk2 e=>?_)));dsimp only;let f:=d.takeB e
 split
 .split
  .show ay (c _ _ f.first)
  rename_i p
  let p:=be p
  split
  .show ay (c _ _ f.done)
  rename_i s
  let s:=be s;show Es C %[f,j,!_,l|!_] (by simp;lia) c h
 .show Es C %[d,j,!_,l|!_] (by rw[Xk];lia) c h
def J8{p:gf}{R:pp (ij ZY×gf×gf×ZY×gf×gf×gf)->lX->Prop}(C:LC prog w A SI D a b st)(m:MHS a b out na nb)(s:z<=out.size+2)
 (d:∀c r o,SG st c->eI a b r->R (.done (fI r,o)) c) (e:∀c na nb out g k k1,SG st c->MHS a b out na nb->z<=out.size->R (.done (fD,na,nb,out,g,k,k1)) c/\R (.yield (fD,na,nb,out,g,k,k1)) c):(SC prog w A SI) (hi1 a b na nb out p bc g) R st:=by
 let%[f,u,h,v|j]:=m;obtain⟨nb,rfl⟩:∃n,nb=n+1:=%[nb-1|!_]
 let l:=C.DB (i:=nb) !_;unfold hi1;rw[Qk,iY];show av (di ?_);let sg:=(SG.refl st).set g;let d:=λr o=>d _ r o sg
 let e:=λna nb out g k k1=>e _ na nb out g k k1 sg
 let C:=C.of sg;show av (bE l.1 (av (f6 C.c l.2 (λi hi=>%[_|C.DA !_]) ⋯ λk y=>?_)));dsimp only
 split
 .let mk:=f.takeA y
  split
  .show ay (d _ _ mk.done)
  rename_i q
  let q:=be q;obtain⟨k,rfl⟩:∃n,k=n+1:=%[k-1|!_]
  show Et C %[mk,!_,h,!_|j] (by simp;lia) d e
 .obtain⟨na,rfl⟩:∃n,na=n+1:=%[na-1|!_]
  show Et C %[f,u,h,v|j] s d e
def J9{c:gf}{R:pp (ij ZY×gf×gf×ZY×gf×gf)->lX->Prop}(C:LC prog w A SI D a b st)(m:MHS a b out na nb)(f:z<=out.size+1)
 (j:∀r o,eI a b r->R (.done (fI r,o)) st) (l:∀na nb out c bc,MHS a b out na nb->z<=out.size->R (.done (fD,na,nb,out,c,bc)) st/\R (.yield (fD,na,nb,out,c,bc)) st):(SC prog w A SI) (hiI a b na nb out g c bc) R st:=by
 let%[p,s,u,v|y]:=m;obtain⟨na,rfl⟩:∃n,na=n+1:=%[na-1|!_]
 obtain⟨nb,rfl⟩:∃n,nb=n+1:=%[nb-1|!_]
 let d:=C.DA (i:=na) !_;let e:=C.DB (i:=nb) !_;unfold hiI;rw[Qk,Qk];show av (bE e.1 (av (bE d.1 (av (xh C.c e.2 d.2 λ_=>?_)))));dsimp only
 split
 .show av (bE d.1 ?_);let m2:=p.takeA (Ye na);rw[jY !_]at m2
  split
  .show ay (j _ _ m2.done)
  rename_i q
  let q:=be q;let h:=l _ _ _ (c+1) 0 %[m2,!_,u,!_|y] (by rw[Xk];show f)
  split
  .show ay h.1
  .show ay h.2
 .show av (bE e.1 ?_);let m2:=p.takeB (Ye nb);rw[jY !_]at m2
  split
  .show ay (j _ _ m2.first)
  rename_i q
  let q:=be q;let h:=l _ _ _ 0 (bc+1) %[m2,s,!_,v|!_] (by rw[Xk];show f)
  split
  .show ay h.1
  .show ay h.2
def Ka{j:gf}{q:ij ZY}{R:pp (ij ZY×gf×gf×ZY×gf)->lX->Prop}(C:LC prog w A SI D a b st)(m:MHS a b out na nb)(e:j+1<=out.size)
 (p:∀d r o,SG st d->eI a b r->R (.done (fI r,o)) d) (s:∀d na nb out g,SG st d->MHS a b out na nb->j+2<=out.size->R (.yield (fD,na,nb,out,g)) d):(SC prog w A SI) (hiO a b (q,na,nb,out,g)) R st:=by
 let u:=m.pa;let v:=m.ma;show av (cT (cw (Q:=λx d=>SG st d/\((∃r o,x=(fI r,o)/\eI a b r)\/∃na nb out f bc,x=(fD,na,nb,out,f,bc)/\MHS a b out na nb/\j+2<=out.size))
  (λj2 x d=>SG st d/\∃na nb out f bc,x=(fD,na,nb,out,f,bc)/\MHS a b out na nb/\j+1+j2<=out.size) (Xg _) %[SG.refl _,_,_,_,_,_,rfl,m|e] ?_ ?_) ?_)
 .intro j2 x i _ l %[c,na,nb,out,f,bc,rfl,m|e];show J9 (C.of c) m ⋯ (λr o h=>%[c|.inl %[r,o,rfl|h]]) λna nb out f bc h z=>%[%[c|.inr %[_,_,_,_,_,rfl,h|!_]],c,_,_,_,_,_,rfl,h|z]
 .intro x i %[c,na,nb,out,f,bc,rfl,m|e];show%[c|.inr %[_,_,_,_,_,ρ,m|!_]]
 .rintro x i ⟨c,⟨r,o,rfl,n⟩|⟨na,nb,out,f,bc,rfl,m,e⟩⟩
  .show ay (p _ r _ c n)
  .show av (kD ?_);show av (cT (cw (Q:=λx d=>SG st d/\((∃r o,x=(fI r,o)/\eI a b r)\/∃na nb out g f bc,x=(fD,na,nb,out,g,f,bc)/\MHS a b out na nb/\j+2<=out.size))
    (λj2 x d=>SG st d/\∃na nb out g f bc,x=(fD,na,nb,out,g,f,bc)/\MHS a b out na nb/\j+2<=out.size) (Xg _) %[c,_,_,_,_,_,_,rfl,m|e] ?_ ?_) ?_)
   .intro j2 x i _ l %[c,na,nb,out,g,f,bc,rfl,m|e];unfold hiG;rw[<-apply_ite _];show J8 (C.of c) m ⋯ (λd r o sg h=>%[SG.trans c sg|.inl %[r,o,rfl|h]]) λd na nb out g k k1 sg h z=>%[%[SG.trans c sg|.inr %[_,_,_,_,_,_,rfl,h|z]],SG.trans c sg,_,_,_,_,_,_,rfl,h|z]
   .simp_all
   .rintro x i ⟨c,⟨r,o,rfl,n⟩|⟨na,nb,out,g,f,bc,rfl,m,e⟩⟩
    .show ay (p _ r _ c n)
    .show av (di (ay (s _ _ _ _ _ (c.set _) m e)))
def zG{Q:ZY->lX->Prop}(C:LC prog w A SI D a b st)(E:1<=a.size)(G:1<=b.size)(h:∀r c,SG st c->eI a b r->Q r c):(SC prog w A SI) (qI a b) Q st:=by
 rw[LL];obtain⟨f,p⟩:∃f,a.size=f+1:=%[a.size-1|!_]
 rw[show a.size-1=f by lia];show av (kD (av (bE (C.DA (i:=f) !_).1 ?_)));let n:=(show MH a b #[] (f+1) b.size by
  unfold MH;rw[<-p,<-Zb,<-Zb,RR,RR];simpa using Q0).takeA (Ye f)
 rw[jY !_]at n
 split
 .show ay (h _ st (SG.refl _) n.done)
 rename_i s
 let s:=be s
 split
 .show ay (h _ st (SG.refl _) n.first)
 rename_i u
 let u:=be u;show av (iF ?_);show av (cT (cw (Q:=λx c=>SG st c/\∃r,x.1>=r/\eI a b r)
  (λj x c=>SG st c/\∃na nb out g,x=(fD,na,nb,out,g)/\MHS a b out na nb/\j+1<=out.size) (Xg _) %[SG.refl _,_,_,_,_,rfl,%[n,!_,!_,!_|!_]|Zi _] ?_ ?_) ?_)
 .intro j x d _ H %[sg,na,nb,out,g,rfl,m|l];show Ka (C.of sg) m l (λc r o e h=>%[SG.trans sg e,r,rfl|h]) λc na nb out g e h z=>%[SG.trans sg e,_,_,_,_,rfl,h|z]
 .intro x d %[sg,na,nb,out,g,rfl,m|l];let%[v,I,J,L|M]:=m;let q:=v.length_eq;simp only[Z9,Yj,Zb,mx.size_reverse]at q
  lia
 .rintro⟨N,O⟩ d ⟨sg,r,y,B⟩;subst y;show ay (h r d sg B)
end
def xi(i:gf):Uj i=(do
 let s<-get
 let(fI (b,na,c),fI (d,nb,_)):=((ow s)[i]?,(ow s)[i+1]?)|Qt "internal:list.sort.pending"
 set (Rn s (((ow s).setIfInBounds i (b,na+nb,c)).eraseIdxIfInBounds (i+1)))
 let fI k<-io gi (<-OR (p7 s) d) (p7 s) b na 0|return gi
 let(b,na):=(b+k,na-k)
 if na==0 then return gb
 let fI nb<-io gb (<-OR (p7 s) (b+na-1)) (p7 s) d nb (nb-1)|return gi
 if nb==0 then return gb
 let x:=(p7 s).extract b d
 let y:=(p7 s).extract d (d+nb)
 let merged<-if na<=nb then qH x y else qI x y
 Vk λs=>Vg s (merged.toList.zipIdx.foldl (λa (p,j)=>a.setIfInBounds (b+j) p) (p7 s))
 return (NL (<-get)).isNone):=rfl
def xj:∀m c o (a:ZY),o+c+m\5<=a.size->
 ((m.zipIdx c).foldl (λa p=>a.setIfInBounds (o+p.2) p.1) a).toList=a.toList.take (o+c) ++m++a.toList.drop (o+c+m\5)
 |[],c,o,a,_=>by simp
 | x::m,c,o,a,h=>by
   rw[Sw,Y6];rw[Zr]at h;rw[xj m _ o _ (by rw[P4];lia),Te];let b:o+c<a.toList\5:=by rw[Zb];lia
   rw[Zr,fx.take_set,fx.drop_set];rw[show o+(c+1)=o+c+1 by lia,show o+c+1+m\5=o+c+(m\5+1) by lia];let e:(a.toList.take (o+c+1)).set (o+c) x=a.toList.take (o+c) ++[x]:=by
    rw[OE b];rw[UB _ _ (by rw[Yj];lia)];rw[Yj,Qv !_,Xb];rfl
   rw[e];simp
section
variable{prog:mu}{w:rM}{A:ri}{SI:jg->Prop}{α β:Type}
def zH{D:Nt->Prop}{i p J:gf}{b X Y L2:fx Nt}{Q:on->lX->Prop}{st:lX}(c:Cmp prog w A SI (kindOf st) D)(e:(p7 st).toList=b++X++Y++L2)(L:X≠[])(M:Y≠[])
 (d:∀x>(p7 st).toList,D x) (N:(ow st)[i]?>=(b\5,X\5,p)) (q:(ow st)[i+1]?>=(b\5+X\5,Y\5,J)) (z:NL st=fD)
 (h:∀Z g,Z.Perm (X++Y)->(p7 g).toList=b++Z++L2->kindOf g=kindOf st->NL g=fD->ow g=((ow st).setIfInBounds i (b\5,X\5+Y\5,p)).eraseIdxIfInBounds (i+1)->Q gb g):(SC prog w A SI) (Uj i) Q st:=by
 let O:0<X\5:=NY.mpr L;let lY:0<Y\5:=NY.mpr M;let sz:(p7 st).size=b\5+X\5+Y\5+L2\5:=by
  rw[<-Zb,e];simp only[Z9]
 let l:∀i,i<(p7 st).size->∃x,(p7 st)[i]?>=x/\D x:=λi hi=>%[(p7 st)[i],by simp|d _ ∅]
 let sub:∀(u v i:gf) (hi:i<((p7 st).extract u v).size),((p7 st).extract u v)[i]?>=((p7 st).extract u v)[i]/\D ((p7 st).extract u v)[i]:=λu v i hi=>%[xl hi|by rw[mx.getElem_extract];show d _ ∅]
 rw[xi];show av (iF ?_);rw[N,q];dsimp only;let%[y,T|U]:=l (b\5+X\5) !_;show av (JX (av (bE T (av (f6 c U (λi hi=>l _ !_) O λk hk=>?_)))));dsimp only
 split
 .show ay (h (X++Y) _ (MV _) (by change(p7 st).toList=_;rw[e];simp) rfl z rfl)
 rename_i C
 let C:=be C;let%[x,hx|dx]:=l (b\5+k+(X\5-k) -1) !_;show av (bE hx (av (f6 c dx (λi hi=>l _ !_) ⋯ λk2 B=>?_)));dsimp only
 split
 .show ay (h (X++Y) _ (MV _) (by change(p7 st).toList=_;rw[e];simp) rfl z rfl)
 rename_i E
 let E:=be E;let ex:((p7 st).extract (b\5+k) (b\5+X\5)).toList=X.drop k:=by
  rw[gH,e,Ze,Ze,Sy,QH !_,Wx,NQ,SL !_,Xe (by rw[Yf];lia),Zn (by rw[Yf];lia)]
 let G:((p7 st).extract (b\5+X\5) (b\5+X\5+k2)).toList=Y.take k2:=by
  rw[pY,e,Ze,Sy,QH (by rw[Z9];lia),Wx,Z9,Xb,Tq,Xe !_]
 let sx:=nY L3 ex;let sy:=nY L3 G;rw[Zb,Yf]at sx;rw[Zb,Yj]at sy;let H:∀(r:ZY) (f:lX),SG (Rn st (((ow st).setIfInBounds i (b\5,X\5+Y\5,p)).eraseIdxIfInBounds (i+1))) f->eI ((p7 st).extract (b\5+k) (b\5+X\5)) ((p7 st).extract (b\5+X\5) (b\5+X\5+k2)) r->
  (SC prog w A SI) (do Vk (λs=>Vg s (r.toList.zipIdx.foldl (λa (p,j)=>a.setIfInBounds (b\5+k+j) p) (p7 s)));let x<-get;pure (NL x).isNone) Q f:=λr f sg o=>by
  unfold eI at o;rw[ex,G]at o;show av (di (av (iF (ay ?_))));let m:NL f=fD:=by rw[sg.2.2.2];show z
  change Q (NL f).isNone _;rw[m];let I:r.toList\5=(X\5-k) +k2:=by
   rw[o.length_eq,Z9,Yf,Yj,Qv B]
  show h (X.take k++r.toList++Y.drop k2) _ ?_ ?_ sg.1 m sg.2.2.1
  .show(S9 _ (Ou _ o)).trans ?_;rw[<-Ze,Xd,Ze,Xd]
  .change(Vg f _|>p7).toList=_;let n:p7 f=p7 st:=sg.2.1;change((r.toList.zipIdx).foldl (λ(a:ZY) (p:Nt×gf)=>a.setIfInBounds (b\5+k+p.2) p.1) (p7 f)).toList=_;rw[xj _ 0 _ _ (by rw[I,n,sz];lia),n,e,I];let t1:(b++X++Y++L2).take (b\5+k+0)=b++X.take k:=by
    rw[Q9,Ze,Ze,fx.take_append,Zn !_,NQ,Xe !_]
   let t2:(b++X++Y++L2).drop (b\5+k+0+(X\5-k+k2))=Y.drop k2++L2:=by
    rw[show ~~~b+k+0+(X\5-k+k2)=(b++X)\5+k2 by rw[Z9];lia,Ze,Sy,QH !_,Wx,NQ,SL !_]
   rw[t1,t2];simp
 split
 .show av (zF %[c,sub _ _ _|sub _ _ _] ⋯ ⋯ H)
 .show av (zG %[c,sub _ _ _|sub _ _ _] ⋯ ⋯ H)
end
structure CR (st0 st:lX) (lo:gf):Prop where
 kind:kindOf st=kindOf st0
 pend:ow st=ow st0
 fail:NL st=NL st0
 perm:(p7 st).Perm (p7 st0)
 same:∀i,i<lo->(p7 st)[i]? =(p7 st0)[i]?
def CR.refl(st:lX)(lo:gf):CR st st lo:=%[rfl,rfl,rfl,mx.Perm.refl _|λ_ _=>rfl]
def CR.size{a st:lX}{lo:gf}(h:CR a st lo):(p7 st).size=(p7 a).size:=h.perm.size_eq
def CR.rev{a st:lX}{lo i j:gf}(h:CR a st lo)(hi:lo<=i)(b:j<=(p7 st).size):CR a (Vg st (mirror (p7 st) i j ((j-i)/2))) lo:=
 %[h.kind,h.pend,h.fail,(mirror_perm _ _ _ _).trans h.perm|λk c=>by
  rw[getElem?_mirror_all b,hH !_];show h.same k c]
section
variable{prog:mu}{w:rM}{A:ri}{SI:jg->Prop}{α β:Type}
def qJ{i j lo:gf}{a st:lX}(c:Cmp prog w A SI (kindOf a) D)(d:∀x>(p7 a).toList,D x)(r:CR a st lo)(hi:i<(p7 a).size)(f:j<(p7 a).size)
 (h:∀b,Q (fI b) st):(SC prog w A SI) (WV i j) Q st:=by
 let e:=λx g=>d x ((Tf.mp r.perm).mem_iff.mp g)
 show GW (r.kind▸c) (xl (r.size▸hi)) (xl (r.size▸f)) (e _ ∅) (e _ ∅) h
def vB{st:lX}(h:Q () (Vg st (mirror (p7 st) i j ((j-i)/2)))):(SC prog w A SI) (QM i j) Q st:=by
 show di h
abbrev cuL(lo:gf)(x:ij (ij gf)×gf):zp lX Sem (pp (ij (ij gf)×gf)):=do
 match<-WV (lo+x.2) (lo+x.2-1)with
 | some w=>if w=gb then pure (.done (fD,x.2))else pure (.yield (fD,x.2+1))
 | _=>pure (.done (fI fD,x.2))
abbrev cu3(lo nrem n:gf):zp lX Sem (ij gf):=do
 QM lo (lo+n)
 let x<-forIn [n:nrem] (fD,n) λ_ x=>cuL lo x
 match x.1 with
 | some r=>pure r
 | none=>pure (fI x.2)
abbrev cuM(lo:gf)(x:ij (ij gf)×gf×gf):zp lX Sem (pp (ij (ij gf)×gf×gf)):=do
 match<-WV (lo+x.2.1) (lo+x.2.1-1)with
 | some w=>
   if w=gb then(if GT.gt x.2.2 0 then(do
    QM (lo+x.2.1-(x.2.2+1)) (lo+x.2.1)
    pure (.yield (fD,x.2.1+1,0)))else pure (.yield (fD,x.2.1+1,0)))
   else(do
    match<-WV (lo+x.2.1-1) (lo+x.2.1)with
    | some w=>if w=gb then pure (.done (fD,x.2.1,x.2.2))else pure (.yield (fD,x.2.1+1,x.2.2+1))
    | _=>pure (.done (fI fD,x.2.1,x.2.2)))
 | _=>pure (.done (fI fD,x.2.1,x.2.2))
abbrev cu2(lo nrem n:gf):zp lX Sem (ij gf):=do
 Rx "list.sort.descending-run"
 let x<-forIn [n+1:nrem] (fD,n+1,0) λ_ x=>cuM lo x
 match x.1 with
 | some r=>pure r
 | none=>
   if GT.gt x.2.2 0 then(do
    QM (lo+x.2.1-(x.2.2+1)) (lo+x.2.1)
    cu3 lo nrem x.2.1)else cu3 lo nrem x.2.1
set_option smartUnfolding false in
def LM(lo nrem:gf):XM lo nrem=(do
 let x<-forIn [1:nrem] (fD,1) λ_ x=>cuL lo x
 match x.1 with
 | some r=>pure r
 | none=>
   if(x.2==nrem)=gb then pure (fI x.2)
   else if GT.gt x.2 1 then(do
    match<-WV lo (lo+x.2-1)with
    | some w=>if w=gb then pure (fI x.2)else(do
      QM lo (lo+x.2)
      cu2 lo nrem x.2)
    | _=>pure fD)else cu2 lo nrem x.2):=by
 rw[countRun'_eq];rfl
variable{D:Nt->Prop}{lo nrem n j:gf}{Q:ij gf->lX->Prop}{st st2:lX}
def Eu{q:ij _}{R:pp _->lX->Prop}(c:Cmp prog w A SI (kindOf st) D)(d:∀x>(p7 st).toList,D x)(r:CR st st2 lo)(a:lo+nrem<=(p7 st).size)(e:j<nrem)
 (f:R (.done (fD,j)) st2) (g:R (.yield (fD,j+1)) st2):(SC prog w A SI) (cuL lo (q,j)) R st2:=
 av (qJ c d r ⋯ ⋯ λb=>by cases b<;> show ay (by assumption))
def Ev(c:Cmp prog w A SI (kindOf st) D)(d:∀x>(p7 st).toList,D x)(l:lo+nrem<=(p7 st).size)(h:∀n a,CR st a lo->1<=n->n<=nrem->Q (fI n) a)
 (r:CR st st2 lo) (n1:1<=n) (g:n<=nrem):(SC prog w A SI) (cu3 lo nrem n) Q st2:=by
 show av (vB ?_);let o:=r.rev (j:=lo+n) (Zi _) (by rw[r.size];lia);show av (cT (cw (Q:=λx a=>CR st a lo/\∃n,x=(fD,n)/\1<=n/\n<=nrem)
  (λj x a=>CR st a lo/\x=(fD,j)) g %[o|rfl] ?_ ?_) ?_)
 .intro j x b f i %[e|rfl];show Eu c d e l i %[e,j,rfl,lx n1 f|Yd i] %[e|rfl]
 .intro x b %[e|rfl];show%[e,nrem,ρ,lx n1 g|Zi _]
 .intro x b %[e,m,rfl,p|m2];show ay (h m b e p m2)
def Kb{q:ij (ij gf)}{k:gf}{R:pp (ij (ij gf)×gf×gf)->lX->Prop}(c:Cmp prog w A SI (kindOf st) D)(d:∀x>(p7 st).toList,D x)(r:CR st st2 lo)(g:lo+nrem<=(p7 st).size)(e:k+1<=j)(h:j<nrem)
 (f:R (.done (fD,j,k)) st2) (a:∀k st2,CR st st2 lo->k<=j->R (.yield (fD,j+1,k)) st2):(SC prog w A SI) (cuM lo (q,j,k)) R st2:=by
 show av (qJ c d r ⋯ ⋯ λb=>?_);cases b
 .show av (qJ c d r ⋯ ⋯ λb=>?_);cases b
  .show ay (a (k+1) _ r e)
  .show ay f
 .dsimp only;rw[hY rfl]
  split
  .show av (vB (ay (a 0 _ (r.rev ⋯ (by rw[r.size];lia)) (Xg _))))
  .show ay (a 0 _ r (Xg _))
def Ew(c:Cmp prog w A SI (kindOf st) D)(d:∀x>(p7 st).toList,D x)(g:lo+nrem<=(p7 st).size)(h:∀n a,CR st a lo->1<=n->n<=nrem->Q (fI n) a)
 (r:CR st st2 lo) (s:n<nrem):(SC prog w A SI) (cu2 lo nrem n) Q st2:=by
 show av (kD ?_);show av (cT (cw (Q:=λx a=>CR st a lo/\∃m q,x=(fD,m,q)/\q+1<=m/\m<=nrem)
  (λj x a=>CR st a lo/\∃q,x=(fD,j,q)/\q+1<=j) s %[r,0,rfl|Wm _ _] ?_ ?_) ?_)
 .intro j x f u l %[e,q,rfl|b];show Kb c d e g b l %[e,j,q,rfl,b|Yd l] λk st2 r v=>%[r,k,rfl|Ri v]
 .intro x f %[e,q,rfl|b];show%[e,nrem,q,ρ,b|Zi _]
 .intro x f %[e,m,q,rfl,i|o];let p:=lx (Wm _ _) i;dsimp only
  split
  .show av (vB (Ev c d g h (e.rev ⋯ (by rw[e.size];lia)) p o))
  .show Ev c d g h e p o
def xk{lo nrem:gf}{st:lX}(c:Cmp prog w A SI (kindOf st) D)(d:∀x>(p7 st).toList,D x)(i:1<=nrem)(f:lo+nrem<=(p7 st).size)
 (h:∀n a,CR st a lo->1<=n->n<=nrem->Q (fI n) a):(SC prog w A SI) (XM lo nrem) Q st:=by
 rw[LM];show av (cT (cw (Q:=λx a=>a=st/\∃n,x=(fD,n)/\1<=n/\n<=nrem)
  (λj x a=>a=st/\x=(fD,j)) i %[rfl|rfl] ?_ ?_) ?_)
 .intro j x a g l %[rfl|rfl];show Eu c d (CR.refl _ lo) f l %[rfl,j,rfl,g|Yd l] %[rfl|rfl]
 .intro x a %[rfl|rfl];show%[ρ,nrem,ρ,i|Zi _]
 .intro x e %[q,n,rfl,n1|m];subst q;dsimp only;by_cases o:n=nrem
  .rw[hY (by simp[o])];show ay (h n e (CR.refl _ _) n1 m)
  rw[hH (by simp[o])];let p:n<nrem:=by lia
  split
  .show av (qJ c d (CR.refl _ lo) ⋯ ⋯ λb=>?_);cases b
   .show av (vB (Ew c d f h ((CR.refl e lo).rev (Zi _) !_) p))
   .show ay (h n e (CR.refl _ _) n1 m)
  .show Ew c d f h (CR.refl e lo) p
end
section
variable{prog:mu}{w:rM}{A:ri}{SI:jg->Prop}{α β:Type}
def CR.move{a st:lX}{lo k l:gf}(h:CR a st lo)(b:lo+k<(p7 st).size)(c:l<=k):CR a (Vg st (bubble (p7 st) (lo+k) (lo+k-(lo+l)))) lo:=
 %[h.kind,h.pend,h.fail,(bubble_perm _ _ _).trans h.perm|λi hi=>by
  rw[getElem?_bubble b _ !_,hH !_,hH !_];show h.same i hi]
def B8{lo n ok:gf}{e st:lX}(c:Cmp prog w A SI (kindOf e) D)(d:∀x>(p7 e).toList,D x)(r:CR e st lo)(o:1<=ok)(u:ok<=n)(y:lo+n<=(p7 e).size)
 (h:∀a,CR e a lo->Q gb a):(SC prog w A SI) (binarySort' lo n ok) Q st:=by
 rw[binarySort'_eq,gf.max_eq_left o];show av (cT (cw (Q:=λx a=>x=(fD,())/\CR e a lo) (λk x a=>x=(fD,())/\CR e a lo) u %[rfl|r] ?_ λ_ _ h=>h) ?_)
 .intro k x f v z %[rfl|m];dsimp only;show av (cT (cw (Q:=λx a=>a=f/\∃l q,x=(fD,l,q)/\l<=q/\q<=k)
   (λj x a=>a=f/\∃l q,x=(fD,l,q)/\l<=q/\q<=k) (Xg _) %[rfl,0,k,rfl,Xg _|Zi _] ?_ λ_ _ h=>h) ?_)
  .intro j x p _ B %[rfl,l,q,rfl,i|g];dsimp only
   split
   .show ay %[rfl,l,q,rfl,i|g]
   .let o:l<=(l+q)/2:=by lia
    let s:(l+q)/2<q:=by lia
    generalize (l+q)/2=C at o s ⊢
    show av (qJ c d m ⋯ ⋯ λb=>?_);cases b
    .show ay %[rfl,_,q,rfl,s|g]
    .show ay %[rfl,l,_,rfl,o|!_]
  .intro x p %[rfl,l,q,rfl,i|g];dsimp only;rw[moveDown'_eq];show av (di (ay %[rfl|m.move (by rw[m.size];lia) (lx i g)]))
 .intro x f %[rfl|m];show ay (h f m)
end
abbrev ef:fx (fx Nt×gf)->gf->fx (gf×gf×gf)
 |[],_=>[]
 |(r,p)::t,o=>(o,r\5,p)::ef t (o+r\5)
abbrev bV(a:fx (fx Nt×gf)):fx Nt:=(a\1).flatten
def cW(a b:fx _):bV (a++b)=bV a++bV b:=by simp[bV]
def bz(a:fx Nt×gf)(b:fx _):bV (a::b)=a.1++bV b:=by simp[bV]
def dX:∀a b o,ef (a++b) o=ef a o++ef b (o+(bV a)\5)
 |[],b,o=>by simp[ef,bV]
 |(r,p)::t,b,o=>by
  rw[TH,ef,ef,dX t b,bz,Z9,TH,W6]
def gc:∀a o,(ef a o)\5=a\5
 |[],_=>rfl
 |(r,p)::t,o=>by rw[ef,Zr,Zr,gc t]
structure RI (st0 st:lX) (rp:fx (fx Nt×gf)) (rest:fx Nt):Prop where
 kind:kindOf st=kindOf st0
 fail:NL st=fD
 perm:(p7 st).toList.Perm (p7 st0).toList
 arr:(p7 st).toList=bV rp++rest
 pend:(ow st).toList=ef rp 0
 runs:∀r>rp,r.1≠[]
def RI.size{a st:lX}{b:fx _}{rest:fx Nt}(h:RI a st b rest):(p7 st).size=(p7 a).size:=by
 rw[<-Zb,<-Zb,h.perm.length_eq]
def RI.psize{a st:lX}{b:fx _}{rest:fx Nt}(h:RI a st b rest):(ow st).size=b\5:=by
 rw[<-Zb,h.pend,gc]
section
variable{prog:mu}{w:rM}{A:ri}{SI:jg->Prop}{α β:Type}
def mf{D:Nt->Prop}{f st:lX}{a b:fx _}{X Y:fx Nt}{p m i:gf}{rest:fx Nt}{Q:on->lX->Prop}(c:Cmp prog w A SI (kindOf f) D)(d:∀x>(p7 f).toList,D x)
 (h:RI f st (a++(X,p)::(Y,m)::b) rest) (hi:i=a\5) (k:∀Z g,RI f g (a++(Z,p)::b) rest->Z\5=X\5+Y\5->Q gb g):(SC prog w A SI) (Uj i) Q st:=by
 subst hi;let e:=h.arr;rw[cW,bz,bz]at e;let u:(p7 st).toList=bV a++X++Y++(bV b++rest):=by rw[e];simp
 let B:=λx n=>d x (h.perm.mem_iff.mp n)
 let l:=h.pend;rw[dX,ef,ef,RH]at l;let pl:=gc a 0;let C:=by
  let:(ow st).toList[a\5]?>=((bV a)\5,X\5,p):=by
   rw[l,Y8 !_,pl,Xb];rfl
  simpa using this
 let E:=by
  let:(ow st).toList[a\5+1]?>=((bV a)\5+X\5,Y\5,m):=by
   rw[l,Y8 !_,pl,NQ];rfl
  simpa using this
 let v:=h.runs (X,p) ∅;show zH (h.kind▸c) u v (h.runs (Y,m) ∅) B C E h.fail λZ g y z G H o=>?_
 let s:Z\5=X\5+Y\5:=by rw[y.length_eq,Z9]
 show k Z g %[G.trans h.kind,H,?_,?_,?_|λr j=>?_] s
 .show P8 ?_ h.perm;rw[z,u];rw[show bV a++X++Y++(bV b++rest)=bV a++(X++Y) ++(bV b++rest) by simp];show S9 _ (Ou _ y)
 .rw[z,cW,bz];simp
 .rw[o,mx.toList_eraseIdxIfInBounds,Te,l,dX,ef,RH];rw[UB _ _ !_,pl,Xb,fx.set_cons_zero];rw[fx.eraseIdx_append_of_length_le !_,pl,NQ,fx.eraseIdx_cons_succ,fx.eraseIdx_cons_zero];rw[s,W6]
 .rcases Xo j with j|j
  .show h.runs r (Ys _ j)
  .rcases Yu.mp j with rfl|j
   .intro q;let n:=NY.mpr v;dsimp only at q n;rw[q,Rp]at s
    lia
   .show h.runs r (by simp[j])
def CR.toRI{d b a:lX}{f:fx _}{rest:fx Nt}{lo n:gf}(h:RI d b f rest)(r:CR b a lo)(j:(bV f)\5=lo)(o:lo+n<=(p7 b).size):
 ∃R c,RI d a f (R++c)/\R\5=n:=by
 let l:=r.size;show%[((p7 a).toList.drop lo).take n,(p7 a).toList.drop (lo+n),%[r.kind.trans h.kind,r.fail.trans h.fail,(Tf.mp r.perm).trans h.perm,?_,r.pend▸h.pend|h.runs]|?_]
 .let e:(p7 a).toList.take lo=bV f:=by
   let m:(p7 a).toList.take lo=(p7 b).toList.take lo:=by
    apply PY;intro i;rw[RF,RF]
    split
    .rename_i hi
     let:=r.same i hi;simpa using this
    .rfl
   rw[m,h.arr,Xe !_,Zn !_]
  rw[<-e];let g:=Xd n ((p7 a).toList.drop lo);rw[XJ]at g;rw[g,(Xd lo (p7 a).toList)]
 grind
def oS{α:Type}(f:α->α):∀l x,(l++[x]).modify l.length f=l++[f x]
 |[],x=>rfl
 | y::l,x=>by
   rw[TH,Zr,fx.modify_succ_cons,oS f l x,TH]
def mj{α:Type}(l:fx α):l=[]\/∃a x,l=a++[x]:=by
 by_cases h:l=[]
 .show .inl h
 .show .inr %[l.dropLast,l.getLast h|(Pg h).symm]
def B9{α:Type}(l:fx α)(h:1<l\5):∃a x y,l=a++x::y::[]:=by
 rcases mj l with rfl|⟨a,y,rfl⟩
 .simp at h
 .rcases mj a with rfl|⟨b,x,rfl⟩
  .simp at h
  .show%[b,x,y|by simp]
def RI.pushed{a st:lX}{c:fx _}{R rest:fx Nt}{lo m:gf}(h:RI a st c (R++rest))(d:(bV c)\5=lo)(e:R\5=m)(f:1<=m):RI a (Rn st ((ow st).push (lo,m,0))) (c++[(R,0)]) rest:=by
 show%[h.kind,h.fail,h.perm,?_,?_|λr b=>?_]
 .rw[h.arr,cW,bz];simp[bV]
 .rw[RP,h.pend,dX,ef,ef,RH,d,e]
 .rcases Xo b with b|b
  .show h.runs r b
  .rw[Xp b]
   grind
def RI.powered{a st:lX}{b:fx _}{rest:fx Nt}{X:fx Nt}{p:gf}(d:gf)(h:RI a st (b++[(X,p)]) rest):RI a (Rn st ((ow st).modify ((ow st).size-1) λx=>(x.fst,x.2.fst,d))) (b++[(X,d)]) rest:=by
 show%[h.kind,h.fail,h.perm,?_,?_|λr c=>?_]
 .rw[h.arr,cW,cW,bz,bz]
 .rw[mx.toList_modify,h.psize,h.pend,dX,dX];rw[show(b++[(X,p)]).length-1=(ef b 0)\5 by rw[gc];simp];change fx.modify (ef b 0++[_]) _ _=_;rw[oS];rfl
 .rcases Xo c with c|c
  .show h.runs r (Ys _ c)
  .rw[Xp c];show h.runs (X,p) ∅
abbrev srP(lo n:gf):zp lX Sem (pp (ij S4×gf)):=do
 Vk λs=>Rn s ((ow s).push (lo,n,0))
 pure (.yield (fD,lo+n))
abbrev sr1(size lo n:gf):zp lX Sem (pp (ij S4×gf)):=do
 let s<-get
 match(ow s).back? with
 | fI (a,n1,_)=>do
   let x<-forIn [0:size] (fD,()) λ_ _=>(do
    let s<-get
    match if GT.gt (ow s).size 1 then(ow s)[(ow s).size-2]? else fD with
    | fI (_,_,o)=>
      if o<=power' size (2*a+n1) (2*a+n1+n1+n) size then pure (.done (fD,()))
      else(do
       let b<-Uj ((ow s).size-2)
       if(!b)=gb then pure (.done (fI (),()))else pure (.yield (fD,())))
    | _=>pure (.done (fD,())))
   match x.1 with
   | some r=>pure (.done (fI r,lo))
   | none=>do
     Vk λs=>Rn s ((ow s).modify ((ow s).size-1) λx=>(x.1,x.2.1,power' size (2*a+n1) (2*a+n1+n1+n) size))
     srP lo n
 | _=>srP lo n
abbrev srO(size:gf)(x:ij S4×gf):zp lX Sem (pp (ij S4×gf)):=
 if GE.ge x.2 size then pure (.done (fD,x.2))
 else do
  match<-XM x.2 (size-x.2)with
  | some n=>
    if n<Vl size size 0 then(do
     Rx "list.sort.binary-insertion"
     let b<-binarySort' x.2 (min (size-x.2) (Vl size size 0)) n
     if(!b)=gb then pure (.done (fI (),x.2))else sr1 size x.2 (min (size-x.2) (Vl size size 0)))
    else sr1 size x.2 n
  | _=>pure (.done (fI (),x.2))
abbrev srT(size:gf)(x:ij S4×gf):zp lX Sem S4:=
 match x.1 with
 | some r=>pure r
 | none=>do
   let x<-forIn [0:size] (fD,()) λ_ _=>(do
    let s<-get
    if(ow s).size<=1 then pure (.done (fD,()))
    else(do
     let b<-Uj (if W4 (λx=>decide (x<(ow s)[(ow s).size-2+1]?.elim 0 λx=>x.2.1)) (if GT.gt ((ow s).size-2) 0 then ij.map (λx=>x.2.1) (ow s)[(ow s).size-2-1]? else fD)=gb then(ow s).size-2-1 else(ow s).size-2)
     if(!b)=gb then pure (.done (fI (),()))else pure (.yield (fD,()))))
   match x.1 with
   | some r=>pure r
   | none=>pure ()
set_option smartUnfolding false in
def LP:sortRuns'=(do
 let s<-get
 let x<-forIn [0:(p7 s).size] (fD,0) λ_ x=>srO (p7 s).size x
 srT (p7 s).size x):=by
 rw[sortRuns'_eq];rfl
def Ex{D:Nt->Prop}{st m:lX}{v:fx (fx Nt×gf)}{R e:fx Nt}{lo n:gf}{T:pp (ij S4×gf)->lX->Prop}(c:Cmp prog w A SI (kindOf st) D)(d:∀x>(p7 st).toList,D x)(o:RI st m v (R++e))(q:(bV v)\5=lo)(p:R\5=n)(J:1<=n)
 (L:∀a h,RI st h a e->(bV a)\5=lo+n->T (.yield (fD,lo+n)) h):(SC prog w A SI) (sr1 (p7 st).size lo n) T m:=by
 show av (iF ?_);rcases mj v with y|⟨N,⟨O,U⟩,y⟩
 .subst y;let B:(ow m).back? =fD:=by
   let:=o.psize;simp[mx.back?,this]
  rw[B];show av (di (ay (L _ _ (o.pushed q p J) (by rw[cW,Z9,q,bz];simp[bV,p]))))
 .let B:(ow m).back?>=((bV N)\5,O\5,U):=by
   rw[<-mx.getLast?_toList,o.pend,y,dX,ef,ef,RH];simp
  rw[B];show av (cT (cw (Q:=λx h=>x=(fD,())/\∃a,RI st h a (R++e)/\a≠[]/\(bV a)\5=lo) (λj x h=>x=(fD,())/\∃a,RI st h a _/\a≠[]/\(bV a)\5=lo) (Xg _) %[rfl,v,o,by rw[y];simp|q] ?_ ?_) ?_)
  .intro j5 x f _ _ %[rfl,l,b,i|g];show av (iF ?_);by_cases C:GT.gt (ow f).size 1
   .let%[r,%[z|E],%[Y5|q5]|rfl]:=B9 l (b.psize▸C);let s:(ow f).size-2=r\5:=by rw[b.psize];simp
    let G:(ow f)[(ow f).size-2]?>=((bV r)\5,z\5,E):=by
     let:(ow f).toList[r\5]?>=((bV r)\5,z\5,E):=by
      rw[b.pend,dX,Y8 (by rw[gc];lia),gc,Xb,RH];rfl
     rw[s];simpa using this
    rw[hY C,G];dsimp only
    split
    .show ay %[rfl,_,b,i|g]
    .show av (mf c d b s λZ5 Y H I=>ay %[rfl,_,H,by simp|?_]);rw[<-g,cW,cW,bz,bz,bz];simp[bV,I]
   .rw[hH C];show ay %[rfl,_,b,i|g]
  .intro x f %[rfl,l,b,i|g];show%[ρ,l,b,i|g]
  .intro x f %[rfl,l,b,i|g];dsimp only;let%[r,%[z|E]|rfl]:=(mj l).resolve_left i;show av (di (av (di (ay ?_))));let u:∀M,~~~(bV (r++[(z,M)]))=lo:=λM=>by
    rw[<-g,cW,cW,bz,bz]
   show L _ _ ((b.powered _).pushed (u _) p J) (by rw[cW,Z9,u,bz];simp[bV,p])
def sc_sortMany{D:Nt->Prop}{Q:S4->lX->Prop}{st:lX}(c:Cmp prog w A SI (kindOf st) D)(d:∀x>(p7 st).toList,D x)(h2:1<=(p7 st).size)(hp:ow st= #[])(hf:NL st=fD)
 (h:∀f,(p7 f).toList.Perm (p7 st).toList->NL f=fD->Q () f):(SC prog w A SI) sortRuns' Q st:=by
 rw[LP];show av (iF ?_);show av (cT (cw (Q:=λx f=>∃e lo,x=(fD,lo)/\RI st f e [])
  (λj x f=>∃e rest lo,x=(fD,lo)/\RI st f e rest/\(bV e)\5=lo/\j<=lo/\lo<=(p7 st).size) (Xg _) %[[],_,0,rfl,%[rfl,hf,MV _,rfl,by rw[hp];rfl|λ_ h=>(nomatch h)],rfl,Zi _|Xg _] ?_ ?_) ?_)
 .intro j x u _ hj %[e,rest,lo,rfl,g,m,G|H];unfold srO;dsimp only;let s1:=g.size;by_cases B:GE.ge lo (p7 st).size
  .rw[hY B];let I:rest=[]:=by
    let:=nY L3 g.arr;rw[Z9,Zb,s1,m]at this;show vu.mp !_
   subst I;show ay %[e,lo,rfl|g]
  rw[hH B];let U:∀x>(p7 u).toList,D x:=λx hx=>d x (g.perm.mem_iff.mp hx)
  let c1:Cmp prog w A SI (kindOf u) D:=g.kind▸c;show av (xk c1 U ⋯ ⋯ λn o r2 n1 n2=>?_);dsimp only;by_cases v:n<Vl (p7 st).size (p7 st).size 0
  .rw[hY v];show av (kD (av (B8 c1 U r2 n1 ⋯ ⋯ λJ r3=>?_)));rw[hH ∅];let%[R,y,s|z]:=CR.toRI (n:=min ((p7 st).size-lo) (Vl (p7 st).size (p7 st).size 0)) g r3 m !_;show Ex c d s m z ⋯ λL f r l=>%[_,_,_,rfl,r,l,!_|!_]
  .rw[hH v];let%[R,y,s|z]:=CR.toRI (n:=n) g r2 m !_;show Ex c d s m z ⋯ λL f r l=>%[_,_,_,rfl,r,l,!_|!_]
 .intro x u %[e,rest,lo,rfl,g,m,G|H];let I:rest=[]:=by
   let:=nY L3 g.arr;rw[Z9,Zb,g.size,m]at this;show vu.mp !_
  subst I;show%[e,lo,ρ|g]
 .intro x u %[e,lo,rfl|g];unfold srT;dsimp only;let M:∀(e:fx (fx Nt×gf)),(∀r>e,r.1≠[])->e\5<=(bV e)\5:=by
   intro e
   induction e with
   | nil=>intro _;show Xg _
   | cons r t ih=>
     intro hr;rw[bz,Zr,Z9];let:=NY.mpr (hr r ∅);let:=ih λq hq=>hr q (by simp[hq])
     lia
  let l1:e\5<=(p7 st).size:=by
   let a1:=M e g.runs;let a2:=nY L3 g.arr;rw[Zx,Zb,g.size]at a2
   lia
  show av (cT (cw (Q:=λx f=>x=(fD,())/\∃e,RI st f e []/\e\5<=1) (λj x f=>x=(fD,())/\∃e,RI st f e []/\e\5<=max 1 ((p7 st).size-j)) (Xg _) %[rfl,e,g|!_] ?_ ?_) ?_)
  .intro j x o _ hj %[rfl,e,g|N];show av (iF ?_);by_cases O:(ow o).size<=1
   .rw[hY O];show ay %[rfl,e,g|g.psize▸O]
   rw[hH O];let ab:1<e\5:=by rw[<-g.psize];lia
   generalize C:(if W4 _ _=gb then(ow o).size-2-1 else(ow o).size-2)=i
   let hi:i+1<e\5:=by
    let E:∀(c:Prop) [OT c] (n:gf),2<=n->(if c then n-2-1 else n-2) +1<n:=λc _ n hn=>by lia
    rw[<-C,<-g.psize];show E _ _ !_
   clear C;obtain⟨a,X,p,Y,q,b,rfl,T⟩:∃a X p Y q b,e=a++(X,p)::(Y,q)::b/\i=a\5:=by
    show%[e.take i,e[i].1,e[i].2,e[i+1].1,e[i+1].2,e.drop (i+2),?_|by rw[Yj];lia];let t1:=(Xd i e).symm;rw[Oh !_,Oh !_]at t1;show t1
   show av (mf c d g T λZ J s zl=>?_);rw[hH ∅];show ay %[rfl,_,s|?_];simp only[Z9,Zr]at N hi ⊢
   lia
  .intro x o %[rfl,e,g|N];show%[ρ,e,g|!_]
  .intro x o %[rfl,e,g|N];show ay (h o g.perm g.fail)
end
end _SB
namespace _ST
open PySem PySem.SetTable
def xo:∀k,∃q,5^(2^k)=1+2^(k+2)*(2*q+1)
 | 0=>%[0|rfl]
 | k+1=>by
   let%[q|e]:=xo k;show%[q+2^k*(2*q+1)*(2*q+1)|?_];rw[X9 2 k,gf.pow_mul,e]
   grind
abbrev step(M i:gf):gf:=(i*5+1)%M
abbrev iter(M:gf):gf->gf->gf
 | 0,i=>i
 | n+1,i=>step M (iter M n i)
abbrev geo:gf->gf
 | 0=>0
 | n+1=>geo n*5+1
def vC:∀n,4*geo n+1=5^n
 | 0=>rfl
 | n+1=>by
   let:=vC n;rw[X9,<-this,geo]
   lia
def mo(M:gf)(i:gf):∀n,iter M n i%M=(5^n*i+geo n)%M
 | 0=>by simp[iter,geo]
 | n+1=>by
   rw[iter,step,gf.mod_mod,geo,X9];rw[Vp,YF,(mo M i n),<-YF,<-Vp]
   congr 1
   grind
def qK:∀(k i e:gf),e<2^k->∃n,n<2^k/\iter (2^k) n i%2^k=e
 | 0,i,e,c=>%[0,by simp|by simp at c;subst c;simp[gf.mod_one]]
 | k+1,i,e,c=>by
   let%[n,M|s]:=qK k i (e%2^k) (RU _ (S5 k));let d:∀n,iter (2^(k+1)) n i%2^(k+1)%2^k=iter (2^k) n i%2^k:=λn=>by
    rw[R4 _ (S7 2 (Ye k)),<-R4 _ (S7 2 (Ye k)),mo,R4 _ (S7 2 (Ye k)),mo]
   let%[q|b]:=xo k;let w:geo (2^k)=2^k*(2*q+1):=by
    let g:=vC (2^k);rw[b,gf.pow_add]at g;let:2^k*2^2*(2*q+1)=4*(2^k*(2*q+1)):=by
     rw[gf.mul_right_comm];lia
    lia
   let f:∀n,iter (2^(k+1)) (n+2^k) i%2^(k+1)=(iter (2^(k+1)) n i+2^k)%2^(k+1):=λn=>by
    rw[mo];let y:5^(n+2^k)*i+geo (n+2^k)=5^(2^k)*(5^n*i+geo n) +geo (2^k):=by
     let g1:=vC (n+2^k);let g2:=vC n
     grind
    rw[y,b,w];let z:2^(k+1)=2*2^k:=by rw[X9];lia
    let j:2^(k+2)=2*2^(k+1):=by rw[X9];lia
    let o:=mo (2^(k+1)) i n
    generalize 5^n*i+geo n=v at o ⊢
    let A:(1+2^(k+2)*(2*q+1))*v+2^k*(2*q+1)=v+2^k+2^(k+1)*(2*((2*q+1)*v) +q):=by
     rw[gf.add_mul,gf.one_mul,j];let B:2*2^(k+1)*(2*q+1)*v=2^(k+1)*(2*((2*q+1)*v)):=by
      simp only[gf.mul_assoc,gf.mul_left_comm]
     let C:2^k*(2*q+1)=2^k+2^(k+1)*q:=by
      rw[z,YG,gf.mul_one]
      lia
     rw[B,C,YG]
     lia
    rw[A,gf.add_mul_mod_self_left,Vp,<-o,<-Vp]
   let l:=d n;rw[s]at l;let E:iter (2^(k+1)) n i%2^(k+1)<2^(k+1):=RU _ (S5 _);let m:=f n;rw[Vp,Qo (by lia:2^k<2^(k+1))]at m;obtain⟨a,p⟩:∃a,a=iter (2^(k+1)) n i%2^(k+1):=%[_|rfl]
   rw[<-p]at l E m;let key:a=e\/(a+2^k)%2^(k+1)=e:=by
    let r:=Wn a (2^k);let G:=Wn e (2^k);let H:a/2^k<2:=US !_;let I:e/2^k<2:=US !_;rw[l]at r
    generalize a/2^k=u at r H
    generalize e/2^k=v at G I
    let J:u=0\/u=1:=by lia
    let L:v=0\/v=1:=by lia
    rcases J with rfl|rfl<;> rcases L with rfl|rfl
    .left;lia
    .right
     rw[Qo !_]
     lia
    .right
     rw[show a+2^k=e+2^(k+1) by lia,gf.add_mod_right,Qo c]
    .left;lia
   rcases key with h|h
   .show%[n,!_|by rw[<-p,h]]
   .show%[n+2^k,!_|by rw[m,h]]
abbrev stand(t:kG)(h:md):gf->Probe
 | 0=>t.probeStart h
 | n+1=>t.advance (stand t h n)
abbrev way(t:kG)(h:md)(n:gf):gf:=(stand t h n).j
abbrev aW(t:kG)(h:md):gf->gf×gf
 | 0=>(Tr h%(t.mask+1),Tr h)
 | r+1=>leap t.mask (aW t h r).1 (aW t h r).2
def oU(t:kG)(h:md):∀n,(stand t h n).dummy=fD
 | 0=>rfl
 | n+1=>by
   let:=oU t h n;change(t.advance _).dummy=fD;unfold S3
   split
   .show this
   .show this
def GX(m i:gf):Ny m i-i<=9:=by
 unfold Ny
 split<;> lia
def Ca(t:kG)(h:md):∀r,∃n,n<=10*r/\∀d,d<=Ny t.mask (aW t h r).1-(aW t h r).1->
 stand t h (n+d)=%[(aW t h r).1+d,Ny t.mask (aW t h r).1-(aW t h r).1-d,(aW t h r).1,(aW t h r).2|fD]:=by
 let a:∀n i b,stand t h n=%[i,Ny t.mask i-i,i,b|fD]->∀d,d<=Ny t.mask i-i->stand t h (n+d)=%[i+d,Ny t.mask i-i-d,i,b|fD]:=by
  intro n i b e d
  induction d with
  | zero=>intro _;rw[Q9,e];rfl
  | succ d c=>
    intro f;change t.advance (stand t h (n+d))=_;rw[c !_];unfold S3;rw[hY !_]
    grind
 intro r
 induction r with
 | zero=>show%[0,Xg _|a 0 _ _ rfl]
 | succ r c=>
   let%[n,g|e]:=c;let j:=GX t.mask (aW t h r).1;show%[n+(Ny t.mask (aW t h r).1-(aW t h r).1) +1,!_|a _ _ _ ?_];change t.advance _=_;rw[e _ (Zi _)];unfold S3;rw[hH !_];rfl
def GY(h:md):Tr h<2^64:=by
 unfold Tr
 grind
def qL(t:kG)(h:md):∀r,(aW t h r).2=Tr h/32^r
 | 0=>by simp[aW]
 | r+1=>by
   change(aW t h r).2/32=_;rw[qL t h r,QR,X9]
def Ey(t:kG)(h:md):∀r,(aW t h r).1<t.mask+1
 | 0=>RU _ (Pz _)
 | r+1=>RU _ (Pz _)
def lG(t:kG)(h:md):∀m,(aW t h (12+m)).1=iter (t.mask+1) m (aW t h 12).1
 | 0=>rfl
 | m+1=>by
   change((aW t h (12+m)).1*5+1+(aW t h (12+m)).2/32)%(t.mask+1)=step _ _;rw[lG t h m,qL,QR,<-X9];let a:Tr h/32^(12+m+1)=0:=by
    show gf.div_eq_of_lt (Zg (GY h) (lx (by decide:2^64<=32^13) (X8 (!1) !_)))
   rw[a,Q9];rfl
def qM(a:t.mask+1=2^k)(h:md)(e:gf)(c:e<=t.mask):∃r,r<RO t.mask/\(aW t h r).1=e:=by
 let%[n,d|b]:=qK k _ e !_;show%[12+n,by unfold RO;lia|?_];rw[lG,a];rw[<-a]at b;let:iter (t.mask+1) n (aW t h 12).1<t.mask+1:=by rw[<-lG];show Ey t h _
 rw[Qo this]at b;show a▸b
def zI(a:t.mask+1=2^k)(h:md)(e:gf)(b:e<=t.mask):∃n,n+10<=10*RO t.mask/\way t h n=e:=by
 let%[r,f|c]:=qM a h e b;let%[n,g|d]:=Ca t h r;show%[n,!_|?_];let:=d 0 (Xg _);unfold way;rw[Q9]at this;rw[this];show c
def xp(o:t.dummies= #[]){hashAt:gf->md}:∀(fuel n m:gf),n<=m->m<n+fuel->t.slot (way t h m)= .empty->
 ∃q,n<=q/\q<=m/\(∀j,n<=j->j<q->∃i,t.slot (way t h j)= .live i/\hashAt i≠h)/\
  ((t.slot (way t h q)= .empty/\Q4 t hashAt h fuel (stand t h n)>=.empty (way t h q) fD)\/
   ∃i,t.slot (way t h q)= .live i/\hashAt i=h/\Q4 t hashAt h fuel (stand t h n)>=.candidate (way t h q) i (stand t h (q+1)))
 | 0,n,m,g,r,_=>by lia
 | fuel+1,n,m,g,r,p=>by
   let d:Q4 t hashAt h (fuel+1) (stand t h n)=(match t.slot (stand t h n).j with
    | .empty=>fI _
    | .dummy=>Q4 t hashAt h fuel (t.advance {stand t h n with dummy:=fI _})
    | .live i=>if hashAt i==h then fI _ else Q4 t hashAt h fuel _):=rfl
   let l:(stand t h n).j=way t h n:=rfl;cases c:t.slot _ with
   | empty=>
     show%[n,Zi _,g,λj a b=>by lia|.inl %[c|?_]];rw[d,l,c,oU]
   | dummy=>
     exfalso;unfold slot at c;dsimp only at c
     split at c
     .lia
     .split at c
      .rename_i q
       rw[o]at q;simp[has]at q
      .lia
   | live i=>
     by_cases f:hashAt i=h
     .show%[n,Zi _,g,λj a b=>by lia|.inr %[i,c,f|?_]];rw[d,l,c];dsimp only;rw[hY (by simp[f])];rfl
     .let s:n≠m:=λq=>by rw[q,p]at c;cases c
      let%[q,z,u,v|w]:=xp o fuel (n+1) m ⋯ ⋯ p;let y:Q4 t hashAt h (fuel+1) (stand t h n)=Q4 t hashAt h fuel (stand t h (n+1)):=by
       rw[d,l,c];dsimp only;rw[hH (by simp[f])];rfl
      show%[q,!_,u,λj a b=>?_|?_]
      .by_cases e:j=n
       .show e▸%[i,c|f]
       .show v j ⋯ b
      .show y▸w
def qN(xs:mx gf)(j:gf)(g:∀a b (w:a<xs.size) (y:b<xs.size),a<b->xs[a]<xs[b]):∀(fuel lo hi:gf),hi-lo<=fuel->lo<=hi->hi<=xs.size->(∀i (h:i<xs.size),i<lo->xs[i]<j)->(∀i (h:i<xs.size),hi<=i->j<=xs[i])->
 Ur xs j fuel lo hi<=xs.size/\(∀i (h:i<xs.size),i<Ur xs j fuel lo hi->xs[i]<j)/\(∀i (h:i<xs.size),Ur xs j fuel lo hi<=i->j<=xs[i])
 | 0,lo,hi,s,u,d,l,m=>by
   let e:lo=hi:=by lia
   subst e;show%[d,l|m]
 | fuel+1,lo,hi,s,u,d,l,m=>by
   rw[Ur];by_cases f:lo<hi
   .rw[hY f];dsimp only;let r:lo<=(lo+hi)/2:=by lia
    let p:(lo+hi)/2<hi:=by lia
    generalize (lo+hi)/2=c at r p ⊢
    let n:c<xs.size:=Zg p d;let v:xs.getD c j=xs[c]:=by simp[RE,n]
    rw[v];by_cases o:xs[c]<j
    .rw[hY o];show qN xs j g fuel _ hi ⋯ p d (λi h q=>?_) m;by_cases e:i=c
     .subst e;show o
     .show QP (g i _ h n !_) o
    .rw[hH o];show qN xs j g fuel lo _ ⋯ r (Yd n) l (λi h q=>?_);by_cases e:i=c
     .subst e;lia
     .let:=g _ i n h !_
      lia
   .rw[hH f];let e:lo=hi:=by lia
    subst e;show%[d,l|m]
abbrev Ez(xs:mx gf):Prop:=∀a b c (d:b<xs.size),a<b->xs[a]<xs[b]
def lH(a:Ez xs)(j:gf):Op xs j<=xs.size/\(∀i (h:i<xs.size),i<Op xs j->xs[i]<j)/\(∀i (h:i<xs.size),Op xs j<=i->j<=xs[i]):=
 qN xs j a xs.size 0 xs.size ⋯ (Xg _) (Zi _) (λi h q=>lr q (X3 _)) (λi h q=>by lia)
def EA(a:Ez xs)(h:xs[i]?>=j):Op xs j=i:=by
 let%[f,c|d]:=lH a j;let%[hi|e]:=rb.mp h;rcases VF i _ with q|q|q
 .let:=c i hi q
  lia
 .show q.symm
 .let b:Op xs j<xs.size:=by lia
  let:=d _ b (Zi _);let:=a _ i b hi q
  lia
def tY{t:kG}(a:Ez t.place)(h:t.place[i]?>=j):t.slot j= .live i:=by
 unfold slot;dsimp only;rw[EA a h,h];simp
def lI{t:kG}(a:Ez t.place)(b:t.dummies= #[])(j:gf):(∃i,t.place[i]?>=j/\t.slot j= .live i)\/(j∉t.place.toList/\t.slot j= .empty):=by
 by_cases h:j>t.place.toList
 .let%[i|hi]:=Xh h;let hi:=↑hi
  show .inl %[i,hi|tY a hi]
 .show .inr %[h|?_];unfold slot;rw[hH,hH]
  .rw[b];simp[has]
  .intro q;show h (Qg.mpr (OV ↑q))
def xq(h:t.mask=t'.mask)(x:md):∀n,stand t x n=stand t' x n
 | 0=>by
   change t.probeStart x=t'.probeStart x;unfold probeStart;rw[h]
 | n+1=>by
   change t.advance _=t'.advance _;rw[xq h x n];unfold S3;rw[h]
def tZ(h:t.mask=t'.mask)(x:md)(n:gf):way t x n=way t' x n:=by unfold way;rw[xq h]
structure WF (t:kG) (es:mx (md×hV)):Prop where
 pow:∃k,t.mask+1=2^k
 big:7<=t.mask
 dum:t.dummies= #[]
 rise:Ez t.place
 inb:∀j>t.place.toList,j<=t.mask
 size:t.place.size=es.size
 chain:∀(i j:gf) h x,t.place[i]?>=j->es[i]?>=(h,x)->∃n,way t h n=j/\∀m,m<n->way t h m>t.place.toList
def nodup_sub [MM c]:∀{l m:fx c},l.Nodup->(∀x>l,x>m)->l\5<=m\5
 |[],_,_,_=>Xg _
 | x::l,m,d,a=>by
   let%[f|g]:=MO.mp d;let b:=a x Zm;let h:=nodup_sub (m:=m.erase x) g λy i=>(UI (λe=>f (!2))).mpr (a y (Zk _ i))
   rw[fx.length_erase_of_mem b]at h;let:=T6 b;rw[Zr]
   lia
def zJ(W:WF t v)(R:t.place.size<=t.mask)(h:md):∃m,m+10<=10*RO t.mask/\way t h m∉t.place.toList/\(∀q,q<m->way t h q>t.place.toList):=by
 let%[k|l]:=W.pow;let ex:∃e,e<=t.mask/\e∉t.place.toList:=by
  show Nw λb=>?_
  let: ~~~(kj (t.mask+1))<=t.place.toList\5:=nodup_sub PF λx o=>(λe c=>Nw λq=>b %[e,c|q]) x (by let:=vj.mp o;lia)
  rw[Yh,Zb]at this
  lia
 let%[e,c|f]:=ex;let%[n,p|hw]:=zI l h e c;let:∀d,∀n,n<=d->n+10<=10*RO t.mask->way t h n∉t.place.toList->∃m,m+10<=10*RO t.mask/\way t h m∉t.place.toList/\(∀q,q<m->way t h q>t.place.toList):=by
  intro d
  induction d with
  | zero=>
    intro n r g i;let:n=0:=by lia
    subst this;show%[0,g,i|λq j=>lr j (X3 _)]
  | succ d s=>
    intro n r g i;by_cases a:∀q,q<n->way t h q>t.place.toList
    .show%[n,g,i|a]
    .let%[q|j]:=Tx.mp a;let%[w|u]:=Classical.not_imp.mp j;show s q ⋯ ⋯ u
 show this n n (Zi _) p (hw▸f)
def mr(xs:mx a)(p:gf)(x:a)(b:p<=xs.size):(Ni xs p x).toList=xs.toList.take p++x::xs.toList.drop p:=by
 unfold Ni;rw[Xf,RP,RQ,RQ,Of,Of];rw[Tq,Uy,Zn (l:=xs.toList.drop p) ∅];simp
def zK(xs:mx c)(x:c)(f:p<=xs.size)(i:gf):(Ni xs p x)[i]? =if i<p then xs[i]? else if i=p then fI x else xs[i-1]? :=by
 let e:(Ni xs p x)[i]? =(Ni xs p x).toList[i]? :=by simp
 rw[e,mr xs p x f];let g:(xs.toList.take p)\5=p:=!2
 by_cases a:i<p
 .rw[hY a,Y7 !_,RF,hY a];simp
 .rw[hH a,Y8 !_,g];by_cases b:i=p
  .rw[hY b,b,Xb];rfl
  .rw[hH b];obtain⟨d,h⟩:∃d,i-p=d+1:=%[i-p-1|(gf.sub_add_cancel (gf.sub_pos_of_lt (Qh (O4 a) (wh b)))).symm]
   rw[h,fx.getElem?_cons_succ,Pu];rw[show p+d=i-1 by lia];simp
def jZ(xs:mx a)(p:gf)(x:a)(b:p<=xs.size):(Ni xs p x).size=xs.size+1:=by
 rw[<-Zb,mr xs p x b,Z9,Zr,Yj,Yf,Zb]
 lia
def EB(t:kG)(h:md):∀n,(stand t h n).j+(stand t h n).more<=t.mask
 | 0=>by
   change Tr h%(t.mask+1) +(Ny t.mask _-Tr h%(t.mask+1))<=t.mask;let:=RU (Tr h) (show 0<t.mask+1 from Pz _);unfold Ny
   split<;> lia
 | n+1=>by
   let a:=EB t h n;change(t.advance _).j+(t.advance _).more<=t.mask;unfold S3
   split
   .lia
   .dsimp only[leap];let:=RU ((stand t h n).i*5+1+(stand t h n).perturb/32) (show 0<t.mask+1 from Pz _);unfold Ny
    split<;> lia
def vD(t:kG)(h:md)(n:gf):way t h n<=t.mask:=by
 let:=EB t h n;unfold way
 lia
def WF.put(W:WF t H)(Q:way t h m∉t.place.toList)(T:∀q,q<m->way t h q>t.place.toList)(g d:on):
 (t.put (way t h m)).2=Op t.place (way t h m)/\(t.put (way t h m)).1.mask=t.mask/\(t.put (way t h m)).1.place.size=t.place.size+1/\(t.put (way t h m)).1.led=t.led/\(t.put (way t h m)).1.plain=t.plain/\(t.put (way t h m)).1.moves=t.moves/\
  WF {(t.put (way t h m)).1 with led:=g,plain:=d} (Ni H (t.put (way t h m)).2 (h,x)):=by
 let U:has t.dummies (way t h m)=gi:=by rw[W.dum];simp[has]
 let Y:t.put (way t h m)=({t with place:=Ni t.place (Op t.place (way t h m)) (way t h m)},Op t.place (way t h m)):=by
  unfold kG.put;dsimp only;rw[U];rfl
 rw[Y];let%[l,I|J]:=lH W.rise (way t h m)
 generalize hp:Op t.place (way t h m)=p at l I J
 let w:p<=H.size:=by rw[<-W.size];show l
 let s3:∀i (hi:i<t.place.size),p<=i->way t h m<t.place[i]:=λi hi q=>by
  let:=J i hi q;rcases Vu this with e|e
  .show lr (by rw[e];simp) Q
  .show e
 let c:∀y,y>(Ni t.place p (way t h m)).toList↔y=way t h m\/y>t.place.toList:=λy=>by
  rw[mr _ _ _ l,Yq,Yu];let:=Xd p t.place.toList
  constructor
  .rintro(q|q|q)
   .show .inr (Yw q)
   .show .inl q
   .show .inr (Re q)
  .rintro(q|q)
   .show .inr (.inl q)
   .rw[<-this]at q;rcases Xo q with q|q
    .show .inl q
    .show .inr (.inr q)
 show%[ρ,ρ,jZ _ _ _ l,ρ,ρ,ρ,W.pow,W.big,W.dum,?_,?_,?_|?_]
 .intro a b ha C z;let o:(Ni t.place p (way t h m))[a]?>=(Ni t.place p (way t h m))[a]:=by simp
  let f:(Ni t.place p (way t h m))[b]?>=(Ni t.place p (way t h m))[b]:=by simp
  change(Ni t.place p (way t h m))[a]<(Ni t.place p (way t h m))[b];rw[zK _ _ l]at o f;let ab:b<t.place.size+1:=(jZ t.place p (way t h m) l)▸C;by_cases A:a<p
  .rw[hY A]at o;let%[s|E]:=rb.mp o;rw[<-E];by_cases g:b<p
   .rw[hY g]at f;let%[d|v]:=rb.mp f;show v▸W.rise a b s d z
   .rw[hH g]at f;by_cases d:b=p
    .rw[hY d]at f;show(Za f)▸I a s A
    .rw[hH d]at f;let%[v|G]:=rb.mp f;show G▸W.rise a (b-1) s v (Zg A (UR (Qh (O4 g) (wh d))))
  .rw[hH A]at o;let g: ¬ b<p:=by lia
   let d: ¬ b=p:=by lia
   rw[hH g,hH d]at f;let%[v|G]:=rb.mp f;rw[<-G];by_cases s:a=p
   .rw[hY s]at o;show(Za o)▸s3 (b-1) v (UR (Qh (O4 g) (wh d)))
   .rw[hH s]at o;let%[E|a4]:=rb.mp o;show a4▸W.rise (a-1) (b-1) E v (gf.sub_lt_sub_right (PU (Xg p) (Qh (O4 A) (wh s))) z)
 .intro y hy;rcases(c y).mp hy with q|q
  .rw[q];show vD t h m
  .show W.inb y q
 .rw[jZ _ _ _ l,jZ _ _ _ w,W.size]
 .intro i j h' L hi r;let M:∀n,way {t with place:=Ni t.place p (way t h m),led:=g,plain:=d} h' n=way t h' n:=λn=>tZ (t':=t) (by rfl) h' n
  let key:∃n,way t h' n=j/\∀q,q<n->way t h' q>(Ni t.place p (way t h m)).toList:=by
   rw[zK _ _ l]at hi;rw[zK _ _ w]at r;by_cases N:i<p
   .rw[hY N]at hi r;let%[n,n1|B]:=W.chain i j h' L hi r;show%[n,n1|λq u=>(c _).mpr (.inr (B q u))]
   .rw[hH N]at hi r;by_cases O:i=p
    .rw[hY O]at hi r;cases hi;cases r;show%[m,ρ|λq u=>(c _).mpr (.inr (T q u))]
    .rw[hH O]at hi r;let%[n,n1|B]:=W.chain (i-1) j h' L hi r;show%[n,n1|λq u=>(c _).mpr (.inr (B q u))]
  let%[n,n1|B]:=key;show%[n,by rw[M];show n1|λq u=>by rw[M];show B q u]
abbrev nb(t:kG)(h:md):gf->gf
 | 0=>0
 | r+1=>nb t h r+(Ny t.mask (aW t h r).1-(aW t h r).1) +1
def EC(t:kG)(h:md):∀r d,d<=Ny t.mask (aW t h r).1-(aW t h r).1->
 stand t h (nb t h r+d)=%[(aW t h r).1+d,Ny t.mask (aW t h r).1-(aW t h r).1-d,(aW t h r).1,(aW t h r).2|fD]:=by
 let a:∀n i b,stand t h n=%[i,Ny t.mask i-i,i,b|fD]->∀d,d<=Ny t.mask i-i->stand t h (n+d)=%[i+d,Ny t.mask i-i-d,i,b|fD]:=by
  intro n i b e d
  induction d with
  | zero=>intro _;rw[Q9,e];rfl
  | succ d c=>
    intro f;change t.advance (stand t h (n+d))=_;rw[c !_];unfold S3;rw[hY !_]
    grind
 intro r
 induction r with
 | zero=>show a 0 _ _ rfl
 | succ r c=>
   show a _ _ _ ?_;change t.advance _=_;rw[c _ (Zi _)];unfold S3;rw[hH !_];rfl
def zL(t:kG)(h:md)(r d:gf)(a:d<=Ny t.mask (aW t h r).1-(aW t h r).1):way t h (nb t h r+d)=(aW t h r).1+d:=by
 unfold way;rw[EC t h r d a]
abbrev gJ(owner:mx (ij gf))(j:gf):on:=(owner.getD j (fI 0)).isSome
def t5(t:kG)(h:md)(owner:mx (ij gf)):∀(fuel r:gf),(∃a,r<=a/\a<r+fuel/\gJ owner (aW t h a).1=gi)->(∀m,m<nb t h r->gJ owner (way t h m)=gb)->
 ∃j n,OI t.mask owner fuel (aW t h r).1 (aW t h r).2>=j/\way t h n=j/\gJ owner j=gi/\∀m,m<n->gJ owner (way t h m)=gb
 | 0,r,⟨a,o,p,_⟩,_=>by lia
 | fuel+1,r,⟨a,o,p,f⟩,g=>by
   rw[OI];let s:GE.ge (Ny t.mask (aW t h r).1) (aW t h r).1:=by unfold Ny;split<;> lia
   let tk:∀k,(owner.getD ((aW t h r).1+k) (fI 0)).isNone=!gJ owner ((aW t h r).1+k):=λk=>by
    unfold gJ;cases owner.getD ((aW t h r).1+k) (fI 0)<;> rfl
   cases i:(kj (Ny t.mask (aW t h r).1+1-(aW t h r).1)).find? λk=>(owner.getD ((aW t h r).1+k) (fI 0)).isNone with
   | some k=>
     let%[l,as,bs,b|u]:=fx.find?_eq_some_iff_append.mp i;let c:k>kj (Ny t.mask (aW t h r).1+1-(aW t h r).1):=by rw[b];simp
     let c:=vj.mp c;let v:as=kj k:=by
      let w:as\5=k:=by
       let:(kj (Ny t.mask (aW t h r).1+1-(aW t h r).1))[as\5]?>=k:=by rw[b];simp
       rw[O8 (by let:=(Xn this).1;simpa using this)]at this;show Za this
      let y:as=(kj (Ny t.mask (aW t h r).1+1-(aW t h r).1)).take k:=by
       rw[b,<-w];simp
      rw[y,V8,Qv !_]
     dsimp only;show%[_,nb t h r+k,ρ,zL t h r k !_,?_|λm d=>?_]
     .rw[tk]at l;simpa using l
     .by_cases q:m<nb t h r
      .show g m q
      .let:=u (m-nb t h r) (v▸vj.mpr !_);rw[tk]at this;rw[show m=nb t h r+(m-nb t h r) by lia,zL t h r _ !_];simpa using this
   | none=>
     let all:∀k,k<=Ny t.mask (aW t h r).1-(aW t h r).1->gJ owner ((aW t h r).1+k)=gb:=λk c=>by
      let:=(fx.find?_eq_none.mp i) k (vj.mpr !_);rw[tk]at this;simpa using this
     let z:r≠a:=λe=>by
      let:=all 0 (Xg _);rw[Q9,e,f]at this;cases this
     dsimp only;show t5 t h owner fuel (r+1) %[a,!_,!_|f] λm d=>by
      by_cases q:m<nb t h r
      .show g m q
      .let d:m<nb t h r+(Ny t.mask (aW t h r).1-(aW t h r).1) +1:=d;rw[show m=nb t h r+(m-nb t h r) by lia,zL t h r _ !_];show all _ !_
structure LO (t:kG) (hs:ZL) (owner:mx _):Prop where
 size:owner.size=t.mask+1
 own:∀j q,owner[j]?>=fI q->∃h,hs[q]?>=h/\∃n,way t h n=j/\∀m,m<n->gJ owner (way t h m)=gb
 all:∀q,q<hs\5->∃j:gf,owner[j]?>=fI q
 one:∀(j j' q:gf),owner[j]?>=fI q->owner[j']?>=fI q->j=j'
def iZ(b:j<owner.size):gJ owner j=gb↔∃q,owner[j]?>=fI q:=by
 unfold gJ;let e:owner.getD j (fI 0)=owner[j]:=!2
 rw[e];let a:owner[j]?>=owner[j]:=by simp
 rw[a];cases owner[j]with
 | none=>simp
 | some q=>simp
def LO.step(L:LO t f owner)(J:t.mask+1=2^k)(room:f\5<=t.mask)(h:md):
 ∃j,OI t.mask owner (RO t.mask) (Tr h%(t.mask+1)) (Tr h)>=j/\LO t (f++[h]) (owner.setIfInBounds j (fI f.length)):=by
 let d:∀h n,way t h n<owner.size:=λh n=>by rw[L.size];let:=vD t h n;lia
 let ex:∃e,e<=t.mask/\gJ owner e=gi:=by
  show Nw λv=>?_
  let all:∀e,e<t.mask+1->gJ owner e=gb:=λe c=>by
   cases q:gJ owner e with
   | true=>rfl
   | false=>show lr %[e,!_|q] v
  letI g:gf->gf:=λe=>((owner[e]?).getD fD).getD 0
  let w:∀e,e<t.mask+1->owner[e]?>=fI (g e):=λe c=>by
   let%[q|o]:=(λe c=>(iZ (L.size▸c)).mp (all e c)) e c;change owner[e]?>=fI (((owner[e]?).getD fD).getD 0);rw[o];rfl
  let nd:((kj (t.mask+1)).map g).Nodup:=by
   rw[X1,X7];show Xi (λ{a b} M N A q=>A ?_) (X1.mp PF);let E:=w b (vj.mp N);rw[<-q]at E;show L.one a b _ (w a (vj.mp M)) E
  let:=nodup_sub nd λy O=>by
   let%[e,c|rfl]:=Xq O;let%[h',l|_]:=L.own e _ (w e (vj.mp c));show vj.mpr (Xn l).1
  rw[Z6,Yh,Yh]at this
  lia
 let%[e,c|B]:=ex;let%[r,hr|o]:=qM J h e c;let%[j,n,Q,G,T|U]:=t5 t h owner (RO t.mask) 0 %[r,Xg _,!_|o▸B] (λm p=>lr p (X3 _));show%[j,Q|?_];let Y:j<owner.size:=G▸d h n;let nj:∀q,owner[j]? ≠fI _:=λq e=>by
  let:=(iZ Y).mpr %[q|e];rw[T]at this;cases this
 let get:∀i,(owner.setIfInBounds j (fI f.length))[i]? =if j=i then fI _ else owner[i]? :=λi=>by
  rw[mx.getElem?_setIfInBounds]
  split
  .first|rfl|simp
  .rfl
 let keep:∀i,gJ owner i=gb->i<owner.size->gJ (owner.setIfInBounds j _) i=gb:=λi hi H=>by
  let%[q|e]:=(iZ H).mp hi;show(iZ (P4▸H)).mpr ?_;rw[get]
  split
  .show%[_|ρ]
  .show%[q|e]
 show%[by rw[P4];show L.size,λi q e=>?_,λq o=>?_|λi I q e s=>?_]
 .rw[get]at e
  split at e
  .rename_i C
   cases e;show%[h,by simp,n,by rw[G,C]|λm p=>keep _ (U m p) (d h m)]
  .let%[h',l,n',e2|e3]:=L.own i q e;show%[h',(Y7 (Xn l).1)▸l,n',e2|λm p=>keep _ (e3 m p) (d h' m)]
 .rw[Z9,Yi]at o;by_cases e:q=f\5
  .show%[j|by rw[get,hY rfl,e]]
  .let%[i|hi]:=L.all q !_;show%[i|?_];rw[get,hH]
   .show hi
   .intro C;rw[<-C]at hi;show nj q hi
 .let u:∀i,owner[i]?>=fI f.length->yc:=λi e=>by
   let%[h',l|_]:=L.own i _ e;let:=(Xn l).1
   lia
  rw[get]at e s
  split at e<;> split at s
  .lia
  .cases e;show lr s (λz=>u I z)
  .cases s;show lr e (λz=>u i z)
  .show L.one i I q e s
def xt(c:t.mask+1=2^k)(a:mx md)(room:a.size<=t.mask+1):∃owner,layClean t.mask a>=owner/\LO t a.toList owner:=by
 let d:∀rest done owner,LO t done owner->(done++rest)\5<=t.mask+1->
  ∃b,rest.foldl (λacc h=>do
   let(owner,k)<-acc
   let j<-OI t.mask owner (RO t.mask) (Tr h%(t.mask+1)) (Tr h)
   pure (owner.setIfInBounds j (fI k),k+1)) (fI (owner,done\5))>=(b,(done++rest)\5)/\LO t (done++rest) b:=by
  intro rest
  induction rest with
  | nil=>intro done owner L _;show%[owner,by simp|↑L]
  | cons h rest g=>
    intro done owner L i;simp only[Z9,Zr]at i;let%[j,f|l]:=L.step c ⋯ h;let%[b,e|L2]:=g _ _ l (!2);show%[b,?_|↑L2];rw[Y6];let m:(do
     let(owner,k)<-(fI (owner,done\5))
     let j<-OI t.mask owner (RO t.mask) (Tr h%(t.mask+1)) (Tr h)
     pure (owner.setIfInBounds j (fI k),k+1))>=(owner.setIfInBounds j (fI done.length),(done++[h])\5):=by
     change(OI t.mask owner _ _ _).bind _=_;rw[f];simp
    rw[m,e];simp
 let n:LO t [] (VN (t.mask+1) fD):=%[by simp,λj q e=>by
  rw[Tz]at e
  split at e<;> simp at e,λq o=>lr o (X3 _)|λj p q e _=>by
  rw[Tz]at e
  split at e<;> simp at e]
 let%[owner,e|L]:=d a.toList [] _ n (room);show%[owner,?_|L];unfold layClean;rw[<-mx.foldl_toList];rw[show(0)=([])\5 from rfl,e];rfl
def xu(n:gf):∀fuel k,3<=k->n<2^(k+fuel)->(2^k<=2*n\/k=3)->∃a,3<=a/\Vf n fuel (2^k)=2^a/\n<2^a/\(2^a<=2*n\/a=3)
 | 0,k,b,c,d=>%[k,b,rfl,c|d]
 | fuel+1,k,b,c,d=>by
   rw[Vf];by_cases h:2^k<=n
   .rw[hY h];let e:2^k*2=2^(k+1):=by rw[X9]
    rw[e];show xu n fuel _ ⋯ ((show k+1+fuel=k+(fuel+1) by lia)▸c) (.inl !_)
   .rw[hH h];show%[k,b,ρ,!_|d]
def zM(a:n<2^60):∃k,3<=k/\sizeAbove n=2^k/\n<2^k/\(2^k<=2*n\/k=3):=
 xu n 64 3 (Zi _) (Zg a (X8 (!1) ∅)) (.inr rfl)
def qO [MM c]:∀{l m:fx c},l.Nodup->m.Nodup->(∀x,x>l↔x>m)->l.Perm m
 |[],m,_,_,h=>by
  cases m with
  | nil=>simp
  | cons x m=>show lr ((h x).mpr Zm) ∅
 | x::l,m,d,b,h=>by
   let%[f|g]:=MO.mp d;show P8 (UZ x (qO g (b.erase x) λy=>?_)) (fx.perm_cons_erase ((h x).mp Zm)).symm
   constructor
   .intro a;show(UI (λe=>f (!2))).mpr ((h y).mp (Zk _ a))
   .intro a;rcases Yu.mp ((h y).mpr (fx.mem_of_mem_erase a))with q|q
    .show lr q (λe=>by rw[e]at a;show b.not_mem_erase a)
    .show q
def laid_ok{t:kG}(hp:t.mask+1=2^k)(E:7<=t.mask)(c:mx (md×hV))(room:c.size<=t.mask)(finger moves:gf)(led plain:on):
 ∃t' d,laid t.mask finger moves led plain (c\1)>=(t',d)/\t'.mask=t.mask/\t'.led=led/\t'.plain=plain/\t'.moves=moves/\WF t' (d.filterMap (c[·]?))/\(d.filterMap (c[·]?)).toList.Perm c.toList:=by
 let%[owner,e|L]:=xt hp (c\1) (by rw[YO];lia);let G:(c\1).toList.length=c.size:=by simp
 obtain⟨live,v⟩:∃live,(kj (t.mask+1)).filterMap (λj=>(owner.getD j fD).map (λq=>(j,q)))=live:=%[_|rfl]
 show%[%[t.mask,(live\1).toArray,#[],finger,led,moves|plain],(live\2).toArray,by unfold laid;rw[e,<-v];rfl,ρ,ρ,ρ,ρ|?_];let gd:∀j q,owner.getD j fD>=q↔owner[j]?>=fI q:=λj q=>by
  rw[mx.getD_eq_getD_getElem?];cases owner[j]? with
  | none=>simp
  | some o=>simp
 let mem:∀j q,(j,q)>live↔owner[j]?>=fI q:=λj q=>by
  rw[<-v,MN]
  constructor
  .rintro⟨H,ac,I⟩;let%[z,s|J]:=zz.mp I;cases J;show(gd j q).mp s
  .intro ho;let:j<owner.size:=by
    let%[f|_]:=rb.mp ho;show f
   show%[j,vj.mpr (by rw[L.size]at this;show this)|?_];rw[(gd j q).mpr ho];rfl
 let r:(live\1).Pairwise (·<·):=by
  rw[<-v,X7,fx.pairwise_filterMap];show XS (λ{a b} u x hx y M=>?_) fx.pairwise_lt_range;let%[_,_|rfl]:=zz.mp hx;let%[_,_|rfl]:=zz.mp M;show u
 let w:∀j q,(j,q)>live->q<c.size:=λj q h=>by
  let%[h',s|_]:=L.own j q ((mem j q).mp h);let:=(Xn s).1
  lia
 let B:(live\2).Nodup:=by
  rw[X1,X7];show Xi (λ{a b} N E u g=>?_) (by rw[X7]at r;show r);let f:=(mem a.1 a.2).mp N;let O:=(mem b.1 b.2).mp E;rw[<-g]at O;let:=L.one _ _ _ f O
  lia
 let C:(live\2).Perm (kj c.size):=qO B PF λq=>by
  constructor
  .intro g;let%[%[j|z],f|rfl]:=Xq g;show vj.mpr (w j z f)
  .intro g;let%[j|Q]:=L.all q (G▸vj.mp g);show Xr %[(j,q),(mem j q).mpr Q|rfl]
 let fm:∀(l:fx gf),(∀q>l,q<c.size)->l.filterMap (c[·]?)=l.map (λq=>c.getD q (0,M3)):=by
  intro l
  induction l with
  | nil=>intro _;rfl
  | cons q l ih=>
    intro g;let f:=g q Zm;let s:c[q]?>=c.getD q (0,M3):=by simp[RE,f]
    rw[Y0,s,Yo,ih λy M=>g y (Zk _ M)]
 let T:((live\2).toArray.filterMap (c[·]?)).toList=(live\2).map (λq=>c.getD q (0,M3)):=by
  rw[mx.toList_filterMap,UT];show fm _ λq g=>by
   let%[%[j|z],f|rfl]:=Xq g;show w j z f
 let er:c.toList=(kj c.size).map (λq=>c.getD q (0,M3)):=by
  apply PH
  .simp
  .intro i f O;let f:=↑f
   simp[RE,f]
 show%[%[%[k|hp],E,ρ,?_,λj Q=>?_,?_|λi j h x hi A=>?_]|?_]
 .intro a b N U u;let:=Tv.mp r a b (N) (U) u;simpa using this
 .let%[%[H|q],f|rfl]:=Xq Q;let:=(rb.mp ((mem H q).mp f)).1;rw[L.size]at this
  lia
 .rw[<-Zb (xs:=mx.filterMap _ _),T];simp
 .let hi:(live\1)[i]?>=j:=↑hi
  let A:((live\2).toArray.filterMap (c[·]?)).toList[i]?>=(h,x):=↑A
  rw[T,Yp,Zl]at A;rw[Zl]at hi;cases Y:live[i]? with
  | none=>rw[Y]at hi;cases hi
  | some p=>
    let%[H|q]:=p;rw[Y]at hi A;cases hi;let hm:=Z8 Y;let%[h',s,n,n1|n2]:=L.own _ q ((mem _ q).mp hm);let g:=w _ q hm;let eh:h'=h:=by
     let J:(c\1).toList[q]?>=(c[q]).1:=by simp[g]
     rw[J]at s;let e3:c.getD q (0,M3)=c[q]:=by simp[RE,g]
     simp only[Function.comp,map_some,e3,TN]at A;rw[A]at s;show(Za s).symm
    subst eh;let wm:∀n,way {mask:=t.mask,place:=(live\1).toArray,dummies:= #[],finger:=finger,led:=led,moves:=moves,plain:=plain} h' n=way t h' n:=λn=>tZ (t':=t) (by rfl) h' n
    show%[n,by rw[wm];show n1|λm ab=>?_];rw[wm];let%[z|I]:=(iZ (by rw[L.size];let:=vD t h' m;lia)).mp (n2 m ab);show Xr %[(way t h' m,z),(mem _ _).mpr I|rfl]
 .rw[T,er];show C.map _
section
variable{prog:mu}{w:rM}{K:Type}[MM K]{knd:KeyKind prog w K}{A:ri}{E:ZD}{s:jg}
abbrev EL(knd:KeyKind prog w K)(h:su)(a:mx (md×hV)):Prop:=∀(i:gf) e,a[i]?>=e->∃r k,e=(vk knd k,ku r)/\J6 knd h k r
def oV(f:J6 knd s.heap ks r)(h:Q gi s):↥A (SW 8 (.ref r)) Q E s:=by
 let j:=f.typeIs;let%[o,items,n,l,_,m|hi]:=f;unfold SW;show Z2 (O0 j (Z2 (Z3 (Z2 (M8 l m (Z2 ?_))))));rw[<-Rq];show Xx _ (λrest r s'=>r=(fD,())/\s'=s/\∃g,ItemsAre knd g rest) _ ?_ ?_ _ _ %[rfl,rfl,ks|hi]
 .intro x rest r s' %[rfl,rfl,g|c];cases c with
  | @cons k1 u d i p b=>
    let q:=knd.byValue _ _ p;let e:SW 7 x=pure gi:=by
     cases x with
     | ref a=>simp[carriedByValue]at q
     | _=>first|rfl|lia|lia
    show Z2 ?_;rw[e];show Z3 (Z3 %[rfl,rfl,d|b])
 .intro r s' %[rfl,rfl|_];show Z3 h
def zN(d:J6 knd s.heap ks r):∀(l:ZF),(∀y>l,∃a c,y=ku a/\J6 knd s.heap c a)->∀{Q:on->jg->Prop},Q gi s->↥A (searchCouldBeSeen (.ref r) l) Q E s:=by
 intro l g Q h;show Z2 (Xx _ (λrest x s'=>x=(fD,())/\s'=s/\∀y>rest,∃a c,y=ku a/\J6 knd s.heap c a) _ ?_ ?_ _ _ %[rfl,rfl|g])
 .intro y rest x s' %[rfl,rfl|e];let%[a,c,rfl|b]:=e y Zm;let f:=λy i=>e y (Zk _ i)
  dsimp only
  split
  .show Z3 %[rfl,rfl|f]
  .show Z2 (VB d (Z2 (VB b (Z2 (oV d (Z2 (oV b (Z3 %[rfl,rfl|f]))))))))
 .intro x s' %[rfl,rfl|_];show Z3 h
def vE(hu:A.units<Pa)(ho:s.heap.get? a>=o)(hd:o.data= .set B ep t)(W:WF t B)(room:t.place.size<=t.mask)(ac:t.mask<=9000)
 (el:EL knd s.heap B) (hk:J6 knd s.heap k r)
 (h1:(∃(i:gf) (g:hW),B[i]?>=(vk knd k,ku g)/\J6 knd s.heap k g)->Q (.there fD) s)
 (h2:∀m,way t (vk knd k) m∉t.place.toList->(∀q,q<m->way t (vk knd k) q>t.place.toList)->(∀(i:gf) g u,B[i]?>=(vk knd u,ku g)->J6 knd s.heap u g->u≠k)->Q (.free (way t (vk knd k) m) gi) s):
 ↥A (setSearch a (.ref r) (vk knd k) gb) Q E s:=by
 generalize hh:vk knd k=h at h1 h2
 let hf:t.fits B.size=gb:=by
  unfold fits fill;rw[W.dum];simp[W.size];show W.size▸room
 let%[M,m1,m2|m3]:=zJ W room h;let me:t.slot (way t h M)= .empty:=by
  rcases lI W.rise W.dum (way t h M)with⟨i,e,_⟩|⟨_,e⟩
  .show lr (Qg.mpr (OV e)) m2
  .show e
 let ae:t.gaveWay=gi:=by
  let%[c|hc]:=W.pow;let hb:=W.big;let c0:c≠0:=λq=>by rw[q]at hc;lia
  let%[c'|rfl]:=gf.exists_eq_succ_of_ne_zero c0;rw[X9]at hc;unfold gaveWay;let:t.mask%2=1:=by lia
  simp[this]
 let N:∀(fuel n:gf) (st:ij Probe),st.getD (t.probeStart h)=stand t h n->n<=M->M<n+fuel->(∀j,j<n->∀(i:gf) g u,t.slot (way t h j)= .live i->B[i]?>=(vk knd u,ku g)->J6 knd s.heap u g->u≠k)->
  ↥A (N8 a (.ref r) h gb fuel st) Q E s:=by
  intro fuel
  induction fuel with
  | zero=>intro n st _ a1 a2;lia
  | succ fuel ih=>
    intro n st ag hn aU O;unfold N8;show Z2 (n7 ho hd hf ?_);dsimp only;rw[ae];simp only[Zy,Ow];rw[ag]
    generalize ai:U5 t _ h (stand t h n)=pr
    let l:Q4 t (λi=>((B[i]?)\1).getD 0) h (10*RO t.mask) (stand t h n)=pr:=ai;let%[q,q1,q2,q3|q4]:=xp (t:=t) W.dum (hashAt:=λi=>((B[i]?)\1).getD 0) (h:=h) (10*RO t.mask) n M hn ⋯ me;rcases q4 with⟨J,e2⟩|⟨i,J,e2,e3⟩
    .rw[e2]at l;subst l;let hq:q=M:=by
      rcases Vu q2 with z|z
      .show z
      .let:=m3 q z;rcases lI W.rise W.dum (way t h q)with⟨i,_,T⟩|⟨z2,_⟩
       .rw[J]at T;cases T
       .show lr this z2
     subst hq;dsimp only;show Z3 (h2 q m2 m3 λi g u v C p=>?_);subst p;rw[hh]at v;let hi:i<B.size:=(rb.mp v).1;let hp:t.place[i]?>=t.place[i]'(W.size▸hi):=by simp
     let%[U,c1|c2]:=W.chain i _ h _ hp v;let G:=tY W.rise hp;let aj:U<q:=by
      rcases VF U q with z|z|z
      .show z
      .rw[z,]at c1;rw[<-c1,me]at G;cases G
      .show lr (c2 q z) m2
     rw[<-c1]at G;by_cases Y:U<n
     .show O U Y i g u G (hh▸v) C rfl
     .let%[H,T|ab]:=q3 U ⋯ aj;rw[G]at T;cases T;rw[v]at ab;show ab rfl
    .rw[e3]at l;subst l;obtain⟨x0,v⟩:∃e,B[i]?>=e:=by
      let al:t.place[i]?>=way t h q:=by
       rcases lI W.rise W.dum (way t h q)with⟨H,p1,I⟩|⟨_,I⟩
       .rw[J]at I;cases I;show p1
       .rw[J]at I;cases I
      let:=(rb.mp al).1;show%[B[i]'(W.size▸this)|by simp[<-W.size,this]]
     let%[g,u,rfl|C]:=el i x0 v;let a0:q<M:=Qh q2 λz=>by rw[z,me]at J;cases J
     let L:↥A (do
      let f<-O7 [ku g] (eqBool (ku g) (ku r))
      let x<-setState a
      if(gb&&f)=gb then pure (QD fD)
      else match x.2.snd.sameMemory t.moves t.mask with
       | some same=>
         match if same=gb then x.2.snd.slot (way t h q)else Slot.empty with
         | Slot.live H=>
           match x.fst[H]? with
           | fI (_,y')=>do
             let b<-isSame y' (ku g)
             let d<-pure (if b=gb then fI H else fD)
             match d with
              | none=>do
                Rx "set.search.anew"
                N8 a (ku r) h gb fuel fD
              | some H=>
                if f=gb then pure (QD (fI H))
                else N8 a (ku r) h gb fuel (fI (stand t h (q+1)))
           | none=>do
             let d<-pure fD
             match d with
              | none=>do
                Rx "set.search.anew"
                N8 a (ku r) h gb fuel fD
              | some H=>
                if f=gb then pure (QD (fI H))
                else N8 a (ku r) h gb fuel (fI (stand t h (q+1)))
         | x=>do
           let d<-pure fD
           match d with
            | none=>do
              Rx "set.search.anew"
              N8 a (ku r) h gb fuel fD
            | some H=>
              if f=gb then pure (QD (fI H))
              else N8 a (ku r) h gb fuel (fI (stand t h (q+1)))
       | x=>Qt "set.changed-during-lookup:is-the-new-block-at-the-old-address") Q E s:=by
      show Z2 (vi (wpAny_eqBool_tuple hu C hk (Z2 (n7 ho hd hf ?_))));dsimp only;show TV (λc=>?_) λc=>?_
      .let p:u=k:=Zo ↑c;subst p;show Z3 (h1 %[i,g,(by rw[v]at e2;show e2)▸v|C])
      .let p:u≠k:=λe=>c ↑e
       let sm:t.sameMemory t.moves t.mask>=gb:=by unfold sameMemory;rw[hY ∅]
       rw[sm];simp only[Qy];rw[J];dsimp only;rw[v];dsimp only;let same:isSame (ku g) (ku g)=pure gb:=by
        unfold isSame;simp
       show Z2 ?_;rw[same];show Z3 ?_;simp only[Qy];show Z2 (Z3 ?_);dsimp only;show TV (λc2=>lr (Zo c2) p) λ_=>?_
       show ih (q+1) _ rfl ⋯ ⋯ λj hj i2 r2 k2 s2 g2 t2=>?_
       by_cases an:j<n
       .show O j an i2 r2 k2 s2 g2 t2
       .by_cases aq:j=q
        .subst aq;rw[J]at s2;cases s2;rw[v]at g2;let:g=r2:=by
          let:=Za g2;injection this with _ z
          injection z
         subst this;show(C.inj t2)▸p
        .let%[i3,p1|I]:=q3 j ⋯ !_;rw[s2]at p1;cases p1;rw[g2]at I;intro z;rw[z]at I;show I hh
     dsimp only;rw[v];dsimp only;show TV (λ_=>?_) λ_=>L
     .show Z2 (zN hk _ (λy hy=>?_) ?_)
      .let%[e,as|rfl]:=Xq hy;let%[i2|hi2]:=mx.getElem?_of_mem ((mx.mem_filter.mp (Qg.mp as)).1);let%[r2,k2,rfl|aR]:=el i2 e hi2;show%[r2,k2,ρ|aR]
      .show L
 show N 100000 0 fD rfl (Xg _) (by unfold RO at m1;lia) (λj hj=>lr hj (X3 _))
end
structure IN (es:mx _) (t:kG) (led:on):Prop where
 wf:WF t es
 roomy:t.place.size*5<t.mask*3
 small:t.mask<=7\/t.mask+1<=8*es.size
 led:t.led=led
 plain:es.size≠0->t.plain=gi
def IN.fits{a:mx _}{t:kG}{led:on}(I:IN a t led):t.fits a.size=gb:=by
 unfold Oe fill;rw[I.wf.dum];let:=I.roomy;simp[I.wf.size];rw[<-I.wf.size]
 lia
def IN.fresh(finger moves:gf)(led:on):IN #[] (Pf finger moves led) led:=
 %[%[%[3|rfl],Zi _,rfl,λa b c=>lr c (by simp[Pf]),λj d=>by simp[Pf]at d,rfl|λi j h x hi=>by simp[Pf]at hi],show 0*5<7*3 from !1,.inl (Zi _),rfl|λq=>lr rfl q]
section
variable{prog:mu}{w:rM}{K:Type}[MM K]{knd:KeyKind prog w K}{A:ri}{E:ZD}{s:jg}
def relay_w(e:s.heap.get? a>=o)(f:o.data= .set c B t)(j:t.fits c.size=gb)(C:c.size<=n)(hw:n<=4000)
 (h:∀d t',d.toList.Perm c.toList->WF t' d->t'.led=t.led->t'.plain=t.plain->n<=t'.mask->t'.mask+1<=2*n\/t'.mask<=7->Q () (s>>>s.heap.update a (N0 d t'))):
 ↥A (VT a n) Q E s:=by
 let%[k,l,g,lt|m]:=zM (n:=n) !_;let G:8<=2^k:=lx (by simp:8<=2^3) (X8 ∅ l);let i:2^k<=2*n\/2^k=8:=by
  rcases m with q|q
  .show .inl q
  .show .inr (by rw[q])
 let p:2^k<=8000:=by rcases i with q|q<;> lia
 letI r:kG:={t with mask:=2^k-1}
 let%[t',b,u,H,v,y,I,W|P]:=laid_ok (t:=r) (k:=k) (by change 2^k-1+1=2^k;lia) (by change 7<=2^k-1;lia) c (by change c.size<=2^k-1;lia) t.finger _ t.led t.plain;let z:t.relaid (c\1) n>=(t',b):=by
  unfold relaid;rw[g];show u
 let sz:(b.filterMap (c[·]?)).size=c.size:=by rw[<-Zb,P.length_eq,Zb]
 show Z2 (n7 e f j ?_);dsimp only;rw[g,hH (by rw[PySem.sizeLine_eq];lia)];rw[z];show Z2 ?_;change pw _ A (if((b.filterMap _).size != c.size)=gb then _ else pure _) _ E s;rw[hH (by simp[sz])];show Z3 (NJ e f (h _ t' P W v y ⋯ (by rcases i with q|q<;> lia)) (by rw[sz,PySem.sizeLine_eq];lia))
def ED(e:s.heap.get? a>=o)(f:o.data= .set c j t)(g:t.fits c.size=gb)(m:c.size<=1000)(n:c.size≠0)(d:t.plain=gi)
 (h:∀b t',b.toList.Perm c.toList->IN b t' t.led->t'.plain=gi->Q () (s>>>s.heap.update a (N0 b t'))):
 ↥A (VT a (grown c.size)) Q E s:=by
 let i:grown c.size=c.size*4:=by unfold grown;rw[hH !_]
 rw[i];show relay_w e f g ⋯ ⋯ λb t' P W l p q m2=>?_
 let sz:b.size=c.size:=by rw[<-Zb,P.length_eq,Zb]
 show h b t' P %[W,by rw[W.size,sz];lia,!_,l|λ_=>p▸d] (p▸d)
def Cb{led:on}(L:A.units<Pa)(p:s.heap.get? a>=o)(n:o.data= .set d ep t)(I:IN d t led)(hn:d.size+1<=1000)
 (el:EL knd s.heap d) (B:J6 knd s.heap k r) (hv:∀(s':jg) (M:on->jg->Prop),J6 knd s'.heap k r->M gi s'->↥A (TC 8 (.ref r)) M E s')
 (h1:(∃(i:gf) (u:hW),d[i]?>=(vk knd k,ku u)/\J6 knd s.heap k u)->Q gi {s with toks:=s.toks+(k\5+1)})
 (N:(∀(i:gf) (u:hW) (C:fx K),d[i]?>=(vk knd C,ku u)->J6 knd s.heap C u->C≠k)->∀g t' G h',h'.get? a=fI {o with data:= .set g G t'}->q7 a s.heap h'->g.toList.Perm (d.toList++[(vk knd k,ku r)])->IN g t' led->Q gb {s with heap:=h',toks:=s.toks+(k\5+1)}):
 ↥A (Vi a (.ref r)) Q E s:=by
 unfold Vi;show vi (Z2 (wpAny_pyHash_tuple L B ?_));unfold Vh;show vi ?_;unfold setAddHashedIn;show Z2 (n7 (s:={s with toks:=s.toks+(k\5+1)}) p n I.fits ?_);dsimp only;let ns:byScan (ku r) d=gi:=rfl;rw[ns];simp only[Zy,Ow];let rm:=I.roomy;show Z2 (vE (s:={s with toks:=s.toks+(k\5+1)}) L p n I.wf ⋯ (by rcases I.small with q|q<;> lia) el B (λq=>?_) λm O m2 T=>?_)
 .show Z3 (h1 q)
 .dsimp only;show Z2 (n7 (s:={s with toks:=s.toks+(k\5+1)}) p n I.fits ?_);dsimp only;let v:=I.wf;let%[p1,U,Y,p4,p5,p6|Wp]:=v.put (x:=ku r) O m2 t.led gi;let%[_,_,_,_,_,_|Wq]:=v.put (x:=ku r) O m2 (t.put (way t (vk knd k) m)).1.led (t.put (way t (vk knd k) m)).1.plain;let y:(t.put (way t (vk knd k) m)).2<=d.size:=by
   rw[p1,<-v.size];show(lH v.rise _).1
  let e:(Ni d (t.put (way t (vk knd k) m)).2 (vk knd k,ku r)).size=d.size+1:=jZ _ _ _ y;let h:(Ni d (t.put (way t (vk knd k) m)).2 (vk knd k,ku r)).toList.Perm (d.toList++[(vk knd k,ku r)]):=by
   rw[mr _ _ _ y];let q:=Xd (t.put (way t (vk knd k) m)).2 d.toList;show P8 fx.perm_middle ?_;rw[q];show Q0 (l₁:=[_])
  generalize ab:Ni d _ _=c at Wp Wq e h
  let f:∀b:kG,WF b c->b.mask=t.mask->b.place.size=t.place.size+1->b.led=led->b.plain=gi->
   ↥A (do VS a c b;if(!false&&b.tooFull)=gb then do VT a (grown (d.size+1));pure gb else pure gb) Q E {s with toks:=s.toks+(k\5+1)}:=λb W2 e1 e2 e3 e4=>by
   let g1:=by
    let q:=MB (N0 c b) p (by rw[R9 c b n];rfl);rwa[R9 c b n]at q
   let b1:=q7.update s.heap a (N0 c b);show Z2 (NJ p n ?_ (e▸lx hn (!1)));let H:b.tooFull=gb↔b.mask*3<=b.place.size*5:=by
    unfold tooFull fill;rw[W2.dum];simp
   by_cases hf:b.tooFull=gb
   .rw[hY (by simp[hf])];let z:b.fits c.size=gb:=by
     unfold Oe fill;rw[W2.dum];simp[W2.size];show W2.size▸(by rw[e1,e2];let:=v.big;lia)
    rw[<-e];show Z2 (ED g1 rfl z ⋯ ⋯ e4 λj J P3 I3 _=>Z3 ?_);let g2:=by
     let q:=MB (N0 j J) g1 (by rfl);rwa[R9 j J rfl]at q
    show N T j J _ _ g2 (b1.trans (q7.update _ a _)) (P3.trans h) (by rw[e3]at I3;show I3)
   .rw[hH (by simp[hf])];show Z3 (N T c b _ _ g1 b1 h %[W2,!_,?_,e3|λ_=>e4]);rw[e1,e];rcases I.small with q|q
    .show .inl q
    .show .inr !_
  by_cases l:(t.put (way t (vk knd k) m)).1.plain=gb
  .rw[hY l];show Z2 (hv _ _ B (f _ Wp U Y I.led rfl))
  .rw[hH l];show f _ Wq U Y (p4.trans I.led) ↑l
end
end _ST
namespace _LL
open PySem PySem.Spec PyProof.Rows _ST
abbrev jp{a:Type}[MM a](ps:fx (hW×a))(p:hW×a):fx (hW×a):=if p.2>ps\2 then ps else ps++[p]
abbrev bR{a:Type}[MM a](l:fx (hW×a)):fx (hW×a):=l.foldl jp []
section
variable{κ:Type}[MM κ]
def EE{ps:fx _}{p q:hW×κ}(h:q>jp ps p):q>ps\/q=p:=by
 unfold jp at h
 split at h
 .show .inl h
 simp_all
def Cc{ps:fx (hW×κ)}{p:hW×κ}{k:κ}:k>(jp ps p)\2↔k>ps\2\/k=p.2:=by
 unfold jp;by_cases h:p.2>ps\2
 .rw[hY h];show%[.inl|λq=>q.elim id λe=>e▸h]
 .rw[hH h,Zd,Yq];simp
def zO{ps:fx (hW×κ)}{p:hW×κ}(h:(ps\2).Nodup):((jp ps p)\2).Nodup:=by
 unfold jp
 split
 .show h
 .rename_i a
  rw[Zd];show pV h a
def AB:∀(l ps:fx (hW×κ)),(ps\2).Nodup->((l.foldl jp ps)\2).Nodup/\(∀k,k>(l.foldl jp ps)\2↔k>ps\2\/k>l\2)/\(∀q>l.foldl jp ps,q>ps\/q>l)
 |[],ps,h=>%[h,λk=>by simp|λq a=> .inl a]
 | p::l,ps,h=>by
   let%[b,c|d]:=AB l _ (zO h);rw[Y6];show%[b,λk=>?_|λq a=>?_]
   .rw[c,Cc,Yo,Yu]
    grind
   .rcases d q a with z|z
    .rcases EE z with z|z
     .show .inl z
     .show .inr (z▸Zm)
    .show .inr (Zk _ z)
def eY(l:fx (hW×κ)):((bR l)\2).Nodup:=(AB l [] X2).1
def jq(l:fx (hW×κ))(k:κ):k>(bR l)\2↔k>l\2:=by
 let:=(AB l [] X2).2.1 k;simpa [bR]using this
def bI(l:fx (hW×κ)):∀q>bR l,q>l:=λq a=>by
 rcases(AB l [] X2).2.2 q a with z|z
 .cases z
 .show z
def vF{l:fx (hW×κ)}{i:gf}{p:hW×κ}(h:l[i]?>=p):bR (l.take (i+1))=jp (bR (l.take i)) p:=by
 unfold bR;rw[Xc,h,SX];rfl
end
section
variable{prog:mu}{w:rM}{κ:Type}[MM κ]{knd:PySem.KeyKind prog w κ}{A:ri}{E:ZD}{s:jg}{a:hW}
abbrev vG(w:rM)(knd:PySem.KeyKind prog w κ)(a:hW)(ps:fx (hW×fx κ))(h:su):Prop:=
 ∃o b c t,h.get? a>=o/\o.ExactSet/\o.data= .set b c t/\IN b t (!bi w)/\b.toList.Perm (ps.map λp=>(vk knd p.2,ku p.1))
def vG.keep(S:vG w knd a ps h)(k:∀o,h.get? a>=o->h'.get? a>=o):vG w knd a ps h':=by
 let%[o,b,c,t,d|r]:=S;show%[o,b,c,t,k o d|r]
def AC(x:J6 knd h k r)(q:∀o,h.get? r>=o->h'.get? r>=o):J6 knd h' k r:=by
 let%[o,items,n,b|z]:=x;show%[o,items,n,q o b|z]
def EF(v:A.units<Pa)(y:vG w knd a ps s.heap)(tk:∀q>ps,J6 knd s.heap q.2 q.1)(B:J6 knd s.heap p.2 p.1)(room:ps\5+1<=1000)
 (C:∀(s':jg) (m:on->jg->Prop),J6 knd s'.heap p.2 p.1->m gi s'->↥A (TC 8 (.ref p.1)) m E s')
 (n:∀h' b tk,q7 a s.heap h'->vG w knd a (jp ps p) h'->s.toks<=tk->Q b {s with heap:=h',toks:=tk}):↥A (Vi a (.ref p.1)) Q E s:=by
 let%[o,g,G,t,r,f,u,I|P]:=y;let hn:=by
  let:=P.length_eq;rw[Z6,Zb]at this;show this
 let mem:∀i e,g[i]?>=e->∃q>ps,e=(vk knd q.2,ku q.1):=λi e h=>by
  let:=Qg.mpr (OV h);let%[q,c|rfl]:=Xq (P.mem_iff.mp this);show%[q,c|ρ]
 let H:EL knd s.heap g:=λi e h=>by
  let%[q,c|rfl]:=mem i e h;show%[q.1,q.2,ρ|tk q c]
 show Cb v r u I ⋯ H B C (λ⟨i,J,e,L⟩=>?_) λd j t' l h' M N O T=>?_
 .let%[q,c|U]:=mem i _ e;let Y:J=q.1:=by injection U with _ z;injection z
  subst Y;show n s.heap gi _ (q7.refl a s.heap) ?_ (PX _ _);unfold jp;rw[hY (Xr %[q,c|(L.inj (tk q c)).symm])];show%[o,g,G,t,r,f,u,I|P]
 .show n h' gb _ N ?_ (PX _ _);unfold jp;rw[hH]
  .show%[_,j,l,t',M,f,ρ,T|O.trans ?_];rw[Zd];show P.append_right _
  .intro hm;let%[q,c|e]:=Xq hm;let:=P.mem_iff.mpr (Xr %[q,c|rfl]);let%[i|hi]:=Xh this;show d i q.1 q.2 ↑hi (tk q c) e
end
section
variable{prog:mu}{w:rM}{κ:Type}[MM κ]{knd:PySem.KeyKind prog w κ}{A:ri}{E:ZD}{s:jg}
def sI(u:A.handled=fD)(O:A.units+16<Pa)(y:s.heap.IsList l items)(hi:items.toList=ps.map λp=>ku p.1)(tk:∀p>ps,J6 knd s.heap p.2 p.1)(U:fx (fx κ))(Y:U\5<=999)(f:∀p>ps,p.2>U)
 (z:∀p>ps,∀(B:ri) (s':jg) (c:on->jg->Prop) (C:ZD),J6 knd s'.heap p.2 p.1->c gi s'->↥B (TC 8 (.ref p.1)) c C s')
 (G:∀(h':su) (tk:gf),vG w knd ⇑s (bR ps) h'->(∀b o,s.heap.get? b>=o->h'.get? b>=o)->Q (.ref ⇑s) {s with heap:=h',toks:=tk}):
 ↥A (call (.type "set") [.ref l]) Q E s:=by
 let a:items.size=ps\5:=by rw[<-Zb,hi,Z6]
 show oQ (T:=λi h=>vG w knd ⇑s (bR (ps.take i)) h) u y (λh e=>%[_,#[],0,_,e,%[rfl,rfl|rfl],rfl,IN.fresh 0 0 _|MV _]) (λi h h' S k=>S.keep k) (λi v s1 Q E e H n k=>?_) λh' t S k=>G h' t (by rwa[a,Zn (Zi _)]at S) k
 rw[<-Ya,hi,Zl]at e;let%[p,r|rfl]:=zz.mp e;let sub:∀q>bR (ps.take i),q>ps:=λq g=>Yw (bI _ q g)
 let d:=Z8 r;show EF (p:=p) (by simp only[ri.in1];lia) H (λq g=>AC (tk q (sub q g)) λo=>n _ o) (AC (tk p d) λo=>n _ o) ?_ (λs' c=>z p d _ s' c _) λI b J L j M=>k I b J L (by rw[vF r];show j) M
 let q:=nodup_sub (eY (ps.take i)) (m:=U) λk N=>by
  let%[p,d|rfl]:=Xq ((jq _ k).mp N);show f p (Yw d)
 rw[Z6]at q
 lia
end
open PySem PySem.Spec PyProof.Rows
section
variable{prog:mu}{w:rM}{A:ri}{s:jg}
def sJ{a:hW}{vs:ZF}{n:gf}{kd:Uv}{P:Fin->jg->Prop}{E:ZD}(q:s.heap.get? a>=O3 "list" vs.toArray n)(u:vs\5<=100000)
 (f:∀j:su,(∀b o,b≠a->s.heap.get? b>=o->j.get? b>=o)->2<=vs\5->∀Q:Uv->jg->Prop,Q kd (s>>>j)->↥A (keyKind' vs.toArray) Q E (s>>>j))
 (G:∀j:su,(∀b o,b≠a->s.heap.get? b>=o->j.get? b>=o)->_SB.Cmp prog w A (λs'=>s'=(s>>>j)) kd λx=>x.1>vs)
 (h:∀out:ZJ,out.toList.Perm vs->P (.done (.ret .none)) (s>>>Rk s.heap a vs out)):
 ↥A (m4.«list.sort» %[[.ref a]|[]]) P E s:=by
 rw[list_sort_plain];let z:a<⇑s:=Zu q;let g:vs\5<=iv:=lx u (!1);show Z2 (listItems_at q rfl ?_);show Z2 (Ps q rfl ?_ (g));obtain⟨y,l⟩:∃y,(s.heap.update a (NA λ_=> #[])).get? a>=(O3 "list" #[] y):=%[_|get?_update_seq q (λ_=> #[])]
 show Z2 (VU l rfl ?_);show Z2 (RK ?_ (g));show Z2 (wpAny_newList ?_);show vi ?_;let keep:∀b o,b≠a->s.heap.get? b>=o->(((s.heap.update a (NA λ_=> #[])).push (O3 "tuple" vs.toArray 0)).push (O3 "list" #[] 0)).get? b>=o:=λb o H e=>
  Z7 _ (Z7 _ ((MG _ _ (wh H)).trans e))
 let d:(((s.heap.update a (NA λ_=> #[])).push (O3 "tuple" vs.toArray 0)).push (O3 "list" #[] 0)).get? a>=(O3 "list" #[] y):=by
  rw[Vw _ _ _ (by rw[size_push',VJ];show Zs (Yl z)),Vw _ _ _ (by rw[VJ];show Zs z)];show l
 let f:=f _ keep;change ↥A _ P E {s with heap:=((s.heap.update a (NA λ_=> #[])).push (O3 "tuple" vs.toArray 0)).push (O3 "list" #[] 0)};dsimp only;let I:vs.toArray.size=vs\5:=by simp
 let r:(vs.toArray.zip vs.toArray).toList=vs.map λv=>(v,v):=by
  rw[mx.toList_zip,UT];apply PH
  .simp
  .intro i N m;simp
 let fin:∀c:lX,(p7 c).toList.Perm (vs.map λv=>(v,v))->P (.done (.ret .none)) (s>>>(Rk s.heap a vs ((p7 c)\2))):=λc p=>h _ (by
  let:=p\2;rwa[Yp,show((λx:Nt=>x.2) ∘ λv:hV=>(v,v))=id from rfl,XR,<-mx.toList_map]at this)
 by_cases m:vs.toArray.size<2
 .rw[hY m,hY m];show Z2 (Z3 ?_);rw[zp.run_pure];show Z2 (Z3 ?_);dsimp only;show Z2 (VU d rfl (Z2 (Ps d rfl ?_ (hsz2:=by rw[YO];change(pairsOf vs).size<=_;rw[pairsOf_size,MD];omega))));simp only[WX,Zy,Ow];show Z3 (fin _ (by rw[r]))
 .rw[hH m,hH m];show Z2 (f (by omega) _ ?_);show Z2 (ME (_SB.sc_sortMany (D:=λx=>x.1>vs) (st:=UF kd (vs.toArray.zip vs.toArray) #[] 7 fD) (G _ keep) (λx B=>?_) ?_ rfl rfl
   (Q:=λ_ c=>(p7 c).toList.Perm (vs.map λv=>(v,v))/\NL c=fD) (λc J L=>%[?_|L]) _ rfl) ?_ λ_ _ e=>e.elim)
  .rw[r]at B;let%[v,M|rfl]:=Xq B;show M
  .rw[<-Zb,r,Z6];omega
  .rwa[r]at J
  .rintro⟨⟨⟩,c⟩ s' ⟨rfl,p,C⟩;dsimp only at p C ⊢;show Z2 (VU d rfl (Z2 (Ps d rfl ?_ (hsz2:=?_))))
   .rw[C];simp only[WX,Zy,Ow];show Z3 (fin c p)
   .rw[YO,<-Zb,p.length_eq,Z6];show gf.le_succ_of_le g
nonrec abbrev Kp(s a:jg):Prop:=∀b o,s.heap.get? b>=o->a.heap.get? b>=o
def nO{S:hW}{G:ZF->Prop}{O:ZF->ZJ->Prop}{Q:ZD}{E:ZD}(d:∀(i:ZD) (R:ZF->jg->Prop),(∀c us,G us->Kp s c->c.gens=s.gens->c.os=s.os->R us c)->↥A.in1 (Rr (.ref S)) R i s)(j:∀us,G us->us\5<=1000)
 (u:∀(f:jg) (v:ri) (us:ZF) (a:hW) (P:Fin->jg->Prop) (i:ZD),G us->f.heap.get? a>=O3 "list" us.toArray 0->(∀b o,s.heap.get? b>=o->f.heap.get? b>=o/\b≠a)->(∀out,O us out->P (.done (.ret .none)) (f>>>Rk f.heap a us out))->↥v (m4.«list.sort» %[[.ref a]|[]]) P i f)
 (y:∀(c s':jg) (l:hW) (us:ZF) (out:ZJ) (n:gf),G us->O us out->Kp s c->c.gens=s.gens->c.os=s.os->Kp c s'->s'.gens=c.gens->s'.os=c.os->⇑c<=l->s'.heap.get? l=fI {cls:= .type "list",data:= .seq out n}->Q (.ref l) s'):
 ↥A (call (.builtin "sorted") [.ref S]) Q E s:=by
 show Calls.call_function_entry kind_sorted plain_sorted entry_sorted (args_sorted1 _) ?_;unfold m4.«sorted»;show Z2 (m:=checkCount "sorted" 1 1 _) (Z3 ?_);show Z2 (d _ _ λc us g k1 g1 z=>?_);show Z2 (wpAny_newList ?_ (by let:=j us g;rw[MD];lia));let p:(c.heap.push (O3 "list" us.toArray 0)).get? ⇑c>=O3 "list" us.toArray 0:=Zj _ rfl;show Z2 (vi (MA slot_list_sort %[_,p|rfl] entry_list_sort (u (c>>>c.heap.push (O3 "list" us.toArray 0)) _ us _ _ _ g p (λb o e=>%[Z7 _ (k1 b o e)|Zs (Zu (k1 b o e))]) λout q=>%[_,rfl|?_]) (args_list_sort _)));obtain⟨n,B⟩:∃n,(Rk (c.heap.push (O3 "list" us.toArray 0)) ⇑c us out).get? ⇑c>=O3 "list" out n:=sortedHeap_at p;show Z3 %[_,rfl|y c _ ⇑c us out n g q k1 g1 z (λb C r=>?_) rfl rfl (Zi _) B];let h:=Zu r;change(Rk _ _ _ _).get? b=_;rw[sortedHeap_old (Zs h) (by rw[Zq];show Yl h)];show Z7 _ r
def qP{G:ZF->Prop}{kd:Uv}(j:∀us,G us->us\5<=1000)
 (l:∀us (c:jg) (d:ri) (m:ZD) (Q:Uv->jg->Prop),G us->2<=us\5->Kp s c->Q kd c->↥d (keyKind' us.toArray) Q m c)
 (p:∀us x y (c:jg) (d:ri) (Q:on->jg->Prop),G us->x>us->y>us->Kp s c->(∀b,Q b c)->↥d (keyLt' kd x y) Q (λ_ _=>yc) c)
 (f:jg) (d:ri) (us:ZF) (a:hW) (P:Fin->jg->Prop) (m:ZD) (g:G us) (q:f.heap.get? a>=O3 "list" us.toArray 0) (i:∀b o,s.heap.get? b>=o->f.heap.get? b>=o/\b≠a) (h:∀out:ZJ,out.toList.Perm us->P (.done (.ret .none)) (f>>>Rk f.heap a us out)):↥d (m4.«list.sort» %[[.ref a]|[]]) P m f:=
 sJ q (by let:=j us g;lia) (λr n u v z=>l us _ _ _ v g u (λb o e=>n b o (i b o e).2 (i b o e).1) z) (λr n x y s' B C e=>by
  subst e;show p us _ _ _ _ _ g B C (λb o e=>n b o (i b o e).2 (i b o e).1) λ_=>rfl) h
end
abbrev aV(x y:jz):on:=decide (x.cps.toList<y.cps.toList)
def dB(x:jz):aV x x=gi:=Zh (fx.lt_irrefl _)
def Kc{x y:jz}(h:x.cps.toList=y.cps.toList):x=y:=by
 obtain⟨⟨l⟩⟩:=x
 simp_all
def dY{x y z:jz}(a:aV x y=gb)(b:aV y z=gb):aV x z=gb:=Zf (fx.lt_trans (Zo a) (Zo b))
def dZ{x y:jz}(h:aV x y=gi)(a:x≠y):aV y x=gb:=by
 show Zf (Nw λb=>a (Kc (fx.le_antisymm b (SB h))))
def t7:∀(p:jz) (l:ZB),risingS p l=gb->(p::l).Pairwise (λa b=>aV b a=gi)
 | p,[],_=>fx.pairwise_singleton _ _
 | p,x::r,h=>by
   let h:(!ltCps x.cps.toList p.cps.toList&&risingS x r)=gb:=h;rw[Zv,Vx,ltCps_eq]at h;let d:=t7 x r h.2;show Sv.mpr %[λy c=>?_|d];rcases Yu.mp c with rfl|c
   .show h.1
   .show Zh (UH.mpr (fx.le_trans (UH.mp (SB h.1)) (UH.mp (SB (fx.rel_of_pairwise_cons d c)))))
def Cd:∀(l:ZB),sortedS l=gb->l.Pairwise (λa b=>aV b a=gi)
 |[],_=>QU
 | p::l,h=>t7 p l h
section
variable{prog:mu}{w:rM}{A:ri}{s:jg}{E:ZD}
nonrec abbrev Kd(prog:mu)(w:rM)(h:su)(zs:ZB)(r:hW):Prop:=J6 (aM prog w) h (zs.map hX) r
def nP:∀{zs:ZB} {vs:ZF},ItemsAre (aM prog w) (zs.map hX) vs->M4 vs zs
 |[],_,h=>by cases h;show .nil
 | z::zs,_,h=>by
   cases h with
   | cons a d=>
     let a:kX (hX z) _=gb:=a;rcases bA a with⟨i,t,b,c⟩|⟨y,t,b,c⟩
     .cases b
     .cases b;subst c;show .cons z t (nP d)
inductive mv:ZF->ZF->Prop where
 | nl (us:ZF):mv [] us
 | nr (us:ZF):mv us []
 | st (x y:jz) (t u:Tok) {vs us:ZF}:mv vs us->mv (.str x t::vs) (.str y u::us)
 | it (x y:md) (t u:Tok) {vs us:ZF}:mv vs us->mv (.int x t::vs) (.int y u::us)
def Ce{x y:ZB}{vs us:ZF}(h:M4 vs x)(k:M4 us y):mv vs us:=by
 induction h generalizing us y with
 | nil=>show .nl _
 | cons _ _ _ a=>
   cases k with
   | nil=>show .nr _
   | cons _ _ k=>show .st _ _ _ _ (a k)
def LQ{b fin:on}{Q:on->jg->Prop}(h:∀b,Q b s):∀{vs us:ZF} (i:gf),mv vs us->PySem.W.KatLex prog w A b fin Q (vs.zip us) i s:=by
 intro vs us i k
 induction k generalizing i with
 | nl=>show h fin
 | nr vs=>rw[fx.zip_nil_right];show h fin
 | st x y t u k a=>
   show kat_cons (eqBool_str (kat_go (λ_=>kat_yes (a _)) λ_=>kat_no ?_));cases b&&i==0 with
   | true=>show oneLt_str (h _)
   | false=>show kat_one _ _ (lt_str (h _))
 | it x y t u k a=>
   show kat_cons (Xz (kat_go (λ_=>kat_yes (a _)) λ_=>kat_no ?_));cases b&&i==0 with
   | true=>show oneLt_int (h _)
   | false=>show kat_one _ _ (lt_int (h _))
end
def xv [MM d][MM i](g:d->i)(j:∀a b,g a=g b->a=b)(l:fx (hW×d)):bR (l.map λp=>(p.1,g p.2))=(bR l).map λp=>(p.1,g p.2):=by
 let m:∀(l ps:fx _),(l.map λp=>(p.1,g p.2)).foldl jp (ps.map λp=>(p.1,g p.2))=(l.foldl jp ps).map λp=>(p.1,g p.2):=by
  intro l
  induction l with
  | nil=>intro ps;rfl
  | cons p l n=>
    intro ps;rw[Yo,Y6,Y6];let e:jp (ps.map λp=>(p.1,g p.2)) (p.1,g p.2)=(jp ps p).map λp=>(p.1,g p.2):=by
     unfold jp;let f:(g p.2>(ps.map λp=>(p.1,g p.2))\2)↔p.2>ps\2:=by
      rw[Yp]
      constructor
      .intro h;let%[q,c|e]:=Xq h;show Xr %[q,c|j _ _ e]
      .intro h;let%[q,c|e]:=Xq h;show Xr %[q,c|by change g q.2=g p.2;rw[e]]
     by_cases h:p.2>ps\2
     .rw[hY h,hY (f.mpr h)]
     .rw[hH h,hH (λz=>h (f.mp z)),Zd];rfl
    rw[e];show n _
 show m l []
noncomputable abbrev LR(p:hW×ZB):hW×fx Key:=(p.1,p.2.map hX)
def vH:∀a b:ZB,a.map (hX:jz->Key)=b.map hX->a=b
 |[],[],_=>rfl
 |[],_::_,h=>by cases h
 | _::_,[],h=>by cases h
 | x::xs,y::ys,h=>by
   injection h with c d
   injection c with e
   rw[e,vH xs ys d]
section
#where
variable{S:hW}
def qQ:∀{vs:ZF} {zs:ZB},M4 vs zs->ItemsAre (aM prog w) (zs.map hX) vs
 | _,_,.nil=> .nil
 | _,_,.cons x t h=> .cons (eK x t) (qQ h)
def GZ(b:zs≠[])(a:Kd prog w s.heap zs r)(h:Q gi s):↥A (TC 8 (.ref r)) Q E s:=by
 let c:=a.typeIs;let%[o,items,n,d,_,e|hi]:=a;show Z2 (PN c F.slot_tuple_hash.lookup (Z2 (M8 d e (Z2 ?_))));rw[<-Rq]
 match zs,items.toList,(nP hi),b with
 | z::zs,_,.cons _ t f,_=>
   show Z2 (Z2 (Z3 (Z3 (Z3 (Z3 h)))))
def xw{j m:Type}{f:j->m}{x y:fx m}(h:x.Perm y):∀ps,y=ps.map f->∃ss:fx j,ss.Perm ps/\x=ss.map f:=by
 induction h with
 | nil=>show λps e=>%[[],!2|rfl]
 | cons a _ n=>
   intro ps e;cases ps with
   | nil=>cases e
   | cons p ps=>
     rw[Yo,MZ]at e;let%[ss,c|d]:=n ps e.2;show%[p::ss,c.cons p|by rw[e.1,d];rfl]
 | swap a b l=>
   intro ps e
   match ps,e with
   | p::q::ps,e=>
     rw[Yo,Yo,MZ,MZ]at e;show%[q::p::ps,.swap p q ps|!2]
 | trans _ _ g i=>
   intro ps e;let%[ss,c|d]:=i ps e;let%[ts,o|r]:=g ss d;show%[ts,o.trans c|r]
def oW{N:Type}{S:hW}{ps:fx (hW×N)}{G:ZF->Prop}{T:MX}{Q:ZD}(c:∀(U:ZD) (R:ZF->jg->Prop),(∀a vs,vs.Perm (ps.map λp=>ku p.1)->(∀b o,s.heap.get? b>=o->a.heap.get? b>=o)->a.gens=s.gens->a.os=s.os->R vs a)->↥A.in1 (Rr (.ref S)) R U s)(z:ps\5<=1000)
 (tk:∀p>ps,∃o its n,s.heap.get? p.1>=o/\o.cls= .type "tuple"/\o.data= .seq its n/\G its.toList) (g1:∀i,G i->∃f r,i=f::r/\Qe f=pure (.type T)) (gT:(MS T != MS "tuple")=gb) (g2:∀i j,G i->G j->mv i j)
 (hQ:∀(a s':jg) (l:hW) (ss:fx (hW×N)) (n:gf),ss.Perm ps->(∀b o,s.heap.get? b>=o->a.heap.get? b>=o)->a.gens=s.gens->a.os=s.os->(∀b o,a.heap.get? b>=o->s'.heap.get? b>=o)->s'.gens=a.gens->s'.os=a.os->⇑a<=l->s'.heap.get? l=fI {cls:= .type "list",data:= .seq (ss.map λp=>ku p.1).toArray n}->Q (.ref l) s'):
 ↥A (call (.builtin "sorted") [.ref S]) Q E s:=by
 let Y:∀us:ZF,us.Perm (ps.map λp=>ku p.1)->us\5<=1000:=λus h=>by rw[h.length_eq,Z6];show z
 show nO (O:=λus out=>out.toList.Perm us) c Y (qP (kd:=tuples' gb) Y (λus s3 A1 U Q g h2 k q=>?_) λus x y s3 A1 Q g hx hy k q=>?_) λa s' l us out n g o k1 a1 a2 k2 a3 a4 hl gl=>?_
 .let tups:∀l:ZF,(∀v>l,v>ps.map λp=>ku p.1)->∃fs:ZF,KatTups s3.heap l fs/\fs\5=l\5/\∀f>fs,Qe f=pure (.type T):=by
   intro l
   induction l with
   | nil=>show λ_=>%[[],KatTups.nil,rfl|λf B=>nomatch B]
   | cons v l ih=>
     intro m;let%[fs,C,f2|H]:=ih λu d=>m u (Zk _ d)
     let%[p,I|rfl]:=Xq (m v Zm);let%[o,its,n,J,c',L|M]:=tk p I;let%[f,r,e|ft]:=g1 _ M;show%[f::fs,KatTups.cons (k _ _ J) c' L (by rw[<-Ya,e];rfl) C,nY gf.succ f2|λu d=>?_];rcases Yu.mp d with rfl|d
     .show ft
     .show H u d
  let%[fs,C,f2|H]:=tups us λv m=>g.mem_iff.mp m
  show PySem.W.kat_kind (T:= .type T) C ⋯ (λf B=>UA.of_pure (H f B)) ∅ (gT▸q)
 .let%[p,I|rfl]:=Xq (g.mem_iff.mp hx);let%[r,hr|rfl]:=Xq (g.mem_iff.mp hy);let%[o,its,n,J,c',L|M]:=tk p I;let%[o2,its2,n2,g3,c3,d3|i3]:=tk r hr;show PySem.W.kat_lt (k _ _ J) L (k _ _ g3) d3 (LQ q 0 (g2 _ _ M i3))
 .let%[ss,h1|e]:=xw (o.trans g) ps rfl;show hQ a s' l ss n h1 k1 a1 a2 k2 a3 a4 hl (by rw[<-e];show gl)
def lJ(j:∀(u:ZD) (R:ZF->jg->Prop),(∀f vs,vs.Perm (ps.map λp=>ku p.1)->(∀b o,s.heap.get? b>=o->f.heap.get? b>=o)->f.gens=s.gens->f.os=s.os->R vs f)->↥A.in1 (Rr (.ref S)) R u s)(tk:∀p>ps,Kd prog w s.heap p.2 p.1)(v:∀p>ps,p.2\5=m)(y:m≠0)(q:ps\5<=1000)
 (B:∀(f s':jg) (l:hW) (ss:ZG) (n:gf),ss.Perm ps->(∀b o,s.heap.get? b>=o->f.heap.get? b>=o)->f.gens=s.gens->f.os=s.os->(∀b o,f.heap.get? b>=o->s'.heap.get? b>=o)->s'.gens=f.gens->s'.os=f.os->⇑f<=l->s'.heap.get? l=fI {cls:= .type "list",data:= .seq (ss.map λp=>ku p.1).toArray n}->Q (.ref l) s'):
 ↥A (call (.builtin "sorted") [.ref S]) Q E s:=
 oW (G:=λvs=>∃zs:ZB,M4 vs zs/\zs≠[]) (T:="str") j q (λp r=>by
  let%[o,its,n,g,c,d|i]:=tk p r;show%[o,its,n,g,c,d,p.2,nP i|λe=>y (by rw[<-v p r,e];rfl)]) (λ_ ⟨zs,h,n⟩=>by
  cases h with
  | nil=>show lr rfl n
  | cons z t h=>show%[_,_,ρ|ρ]) (!1) (λ_ _ ⟨_,a,_⟩ ⟨_,b,_⟩=>Ce a b) B
end
section
variable{X:Cx}{K:ZA}
abbrev qR(P:mu)(w:rM)(a:hW)(ps:ZG):HO:= .ext (vG w (aM P w) a (ps.map LR))
abbrev aP(H:Hp)(ps:ZG):Prop:=∀p>ps,p.2≠[]/\H p.1&&&p.2\3
def pZ(I:Qc X ff f H s)(h:aP H ps):∀p>ps,Kd X.prog X.w s.heap p.2 p.1:=λp a=>by
 let%[_,its,b,o,c,d,n|e]:=I.hok p.1 _ (h p a).2;show%[o,its.toArray,n,c,d,e|qQ (jf b)]
def vI:∀{ps:ZG} {us:ZF},aQ (ps\0) us->us=ps.map λp=>ku p.1
 |[],_,.nil=>rfl
 | _::_,_,.cons r t=>by
   cases r;rw[vI t];rfl
def p8:∀(ps:ZG),aQ (ps\0) (ps.map λp=>ku p.1)
 |[]=> .nil
 | _::ps=> .cons rfl (p8 ps)
def Cf(v:X.calm=gb)(L:X.A.units+64<Pa):cH X (.type "set") (λxs H Q=>cP xs λj=>asR j λp=>∃ps,Qb X.K H p (ps\0)/\aP H ps/\(∃U:fx _,U\5<=999/\∀q>ps,q.2>U)/\∀l,H l=fD->Q (.ref l) (Qa H l (qR X.prog X.w l (bR ps)))):=by
 intro ff s M H xs us Q I r h;let%[j,rfl|d]:=bJ h;let%[p,rfl|e]:=aT d;let%[ps,w,m,%[U,N|f]|q]:=e;let%[u,rfl|y]:=dq r;cases y;let%[its,A,pl|O]:=I.list w;let C:=vI A;show sI (knd:=aM X.prog X.w) (I.ok.hd v) ⋯ pl.isList (ps:=ps.map LR) (!2) (λn a=>?_) (U.map λz=>z.map hX) (!2) (λn a=>?_) (λn a B s' T Y g i=>?_) λh' E S k=>?_
 .let%[b,c|rfl]:=Xq a;show(pZ I m) b c
 .let%[b,c|rfl]:=Xq a;show Xr %[b.2,f b c|rfl]
 .let%[b,c|rfl]:=Xq a;show GZ (m b c).1 g i
 .rw[(xv _ vH ps)]at S;show%[.ref ⇑s,_,I.laid (o:=qR X.prog X.w ⇑s _) k (Zi _) %[S,?_|λh1 h2 G k1=>vG.keep G k1],ρ|q _ I.fresh];let%[o,_,_,_,J|_]:=S;show%[o|J]
def vJ(z:X.calm=gb):cH X (.builtin "sorted") (λxs H Q=>cP xs λv=>asR v λa=>∃ps,H a>=qR X.prog X.w a ps/\aP H ps/\∃m,(∀p>ps,p.2\5=m)/\m≠0/\ps\5<=1000/\∀l (ss:fx _),H l=fD->ss.Perm ps->Q (.ref l) (Qa H l (.lst (ss\0)))):=by
 intro ff s U H xs us Q I r h;let%[v,rfl|c]:=bJ h;let%[a,rfl|d]:=aT c;let%[ps,A,B,m,C,E,e|q]:=d;let%[u,rfl|G]:=dq r;cases G;let%[%[o,f,Y,t,L,i,M,J|P],_|_]:=(I.hok a _ A)
 let hn:f.size=ps\5:=by
  let:=P.length_eq
  simp_all
 let pv:(f.toList\2).Perm (ps.map λp=>ku p.1):=by
  let:=P\2;rw[Yp,Yp]at this;show this
 show lJ (λE1 R N=>l8 (I.ok.hd z) L i M (by change f.size<4096;lia) J.fits J.plain J.led λw vs O k1 g1 j _=>N w vs (O.trans pv) k1 g1 j) (pZ I B) C E e λw s' l ss n y k1 g1 j k g o b T=>?_
 let I:=I.keptS k1 g1 j;show%[.ref l,_,I.stoodS (o:= .lst _) (I.keptS k g o) b %[?_,ss.map _,n,p8 ss|T],ρ|q l ss (I.hok.fresh b) y];rw[Z6,y.length_eq,MD]
 lia
def EG{P:mu}(h:X.K=K)(d:X.prog=P)(hw:X.w=w)(a:X.calm=gb)(b:bW k X.A):cj X (.type "set") (λxs H Q=>cP xs λc=>asR c λp=>∃ps,Qb K H p (ps\0)/\aP H ps/\(∃U:fx ZB,U\5<=999/\∀q>ps,q.2>U)/\∀l,H l=fD->Q (.ref l) (Qa H l (qR P w l (bR ps)))):=by
 subst h;subst hw;show⟨Cf a b.units⟩
def t8{P:mu}(d:X.prog=P)(hw:X.w=w)(b:X.calm=gb):cj X (.builtin "sorted") (λxs H Q=>cP xs λc=>asR c λa=>∃ps,H a>=qR P w a ps/\aP H ps/\∃m,(∀p>ps,p.2\5=m)/\m≠0/\ps\5<=1000/\∀(l:hW) (ss:ZG),H l=fD->ss.Perm ps->Q (.ref l) (Qa H l (.lst (ss\0)))):=by
 subst hw;show⟨vJ b⟩
end
abbrev Cg(K:ZA)(a b:hW):It:=⟨λi H=>∃xs ys x y,Qb K H a xs/\Qb K H b ys/\xs[i]?>=x/\ys[i]?>=y,
 λi H v c=>∃T x y,H T=fD/\v= .ref T/\c=Qa H T (.tup [x,y])/\(∀xs,Qb K H a xs->xs[i]?>=x)/\(∀ys,Qb K H b ys->ys[i]?>=y),
 λi H=>∃xs ys,Qb K H a xs/\Qb K H b ys/\i<=xs\5/\i<=ys\5/\(i= ~~~xs\/i=ys\5)⟩
def Ch{P:mu}{K:ZA}(z TI TO i1 i2 l1 l2:hW)(D:ZipApart z TI TO i1 i2 l1 l2):
 sE P w K (.Tuple elts kt tp) (Cg K l1 l2) [z,TI,TO,i1,i2] z (ZSt z TI TO i1 i2 (λi h=>h.IsListIter i1 l1 i) (λi h=>h.IsListIter i2 l2 i)) where
 mem:=by simp
 obj:=λi h st b hb=>by
  let%[hz,hTI,%[a,c|hTO],%[o1,e1,_|d1],o2,e2,_|d2]:=st
  grind
 keep:=λi h h' st k=>by
  let%[hz,hTI,%[a,c|hTO],%[o1,e1|r1],o2,e2|r2]:=st;show%[k z ∅ _ hz,k TI ∅ _ hTI,%[a,c|k TO ∅ _ hTO],%[o1,k i1 ∅ _ e1|r1],o2,k i2 ∅ _ e2|r2]
 item:=by
  intro X hP hw hK hc i ff s σ H E I hf st hg;subst hP hw hK;let%[hz,hTI,%[a,c|hTO],h1|h2]:=st;let%[xs,ys,x,y,hq1,hq2,hx|hy]:=hg;let%[its1,rv1,pl1|hz1]:=I.list hq1;let%[its2,rv2,pl2|hz2]:=I.list hq2;let%[u1,hu1|ru1]:=rv1.get hx;let%[u2,hu2|ru2]:=rv2.get hy;show wpAny_pyNext_zip_item D hz hTI hTO h1 h2 pl1.isList pl2.isList (x:=u1) (y:=u2) ↑hu1 ↑hu2 λh' a1 a2 a3 a4 a5 a6 hk=>%[_,rfl|UE (s:=(s>>>h')) a1 λh'' hz'' sb=>?_]
  replace sb:q7 z h' h'':=sb;let kk:∀b o,b∉[z,TI,TO,i1,i2]->s.heap.get? b>=o->h''.get? b>=o:=λb o hb e=>by
   simp only[Yu,X4,J5,Oj]at hb;show(sb.2 b hb.1).trans (hk b o hb.1 hb.2.2.1 hb.2.2.2.1 hb.2.2.2.2 e)
  let turn1:Qc X ff σ H (s>>>h''):=I.moved hf kk;let Hn:H ⇑s=fD:=I.fresh;let I2:Qc X ff σ (Qa H ⇑s (.tup [x,y])) (s>>>h''):=
   I.stood turn1 (Zi _) %[by change 2<=iv;decide,[u1,u2],.cons ru1 (.cons ru2 .nil),_,((sb.2 _ (Yy (Zu hz))).trans a5),rfl,_|rfl]
  show%[.ref ⇑s,_,I2,ρ,%[_,x,y,Hn,ρ,ρ,λzs hzs=>(I.list_inj hzs hq1)▸hx|λzs hzs=>(I.list_inj hzs hq2)▸hy],%[hz'',(sb.2 _ D.TIz).trans (hk _ _ D.TIz D.TITO D.TIi1 D.TIi2 hTI),%[_,_|(sb.2 _ D.TOz).trans a2],?_|?_]|λb hb=>?_]
  .let%[o,e|r]:=a3;show%[o,(sb.2 _ D.i1z).trans e|r]
  .let%[o,e|r]:=a4;show%[o,(sb.2 _ D.i2z).trans e|r]
  .let:b<⇑s:=by
    simp only[Yu,X4,J5]at hb;let%[o1,q1|_]:=h1;let%[o2,q2|_]:=h2;rcases hb with rfl|rfl|rfl|rfl|rfl
    .show Zu hz
    .show Zu hTI
    .show Zu hTO
    .show Zu q1
    .show Zu q2
   rw[ar (Zs this)];show(hf b hb).1
 done:=by
  intro X hP hw hK hc i ff s σ H E I hf st hg;subst hP hw hK;let%[hz,hTI,%[a,c|hTO],h1|h2]:=st;let%[xs,ys,hq1,hq2,g1,g2|g3]:=hg;let%[its1,rv1,pl1|hz1]:=I.list hq1;let%[its2,rv2,pl2|hz2]:=I.list hq2;let n1:=rv1\5;let n2:=rv2\5;show wpAny_pyNext_zip_end (I.ok.hd hc) D hz hTI hTO h1 h2 pl1.isList pl2.isList (by
   rcases g3 with q|q
   .show .inl (by simp;lia)
   .show .inr (by simp;lia)) λh' hk=>%[rfl|?_]
  let kk:∀b o,b∉[z,TI,TO,i1,i2]->s.heap.get? b>=o->h'.get? b>=o:=λb o hb e=>by
   simp only[Yu,X4,J5,Oj]at hb;show hk b o hb.1 hb.2.2.1 hb.2.2.2.1 hb.2.2.2.2 e
  show I.moved hf kk
 self:=λ_ _ _ _ _ st h=>Q2 st.1 h
abbrev Ib(K:ZA)(d:TA):TI:=λe H R=>d e H λvs c=>jR vs λf g=>asR f λa=>asR g λb=>(∃xs,Qb K c a xs)/\(∃ys,Qb K c b ys)/\R (Cg K a b) c
section
variable{X:Cx}{K:ZA}{pos:Pos}
def LS(L:X.K=K){M p:Pos}{a b:tI}{B:TA}(N:Gl X "zip")(O:X.mg "zip"=fD)(Q:bu a=gi)(r:bu b=gi)(T:QA X [a,b] B):
 QI X (.Tuple C kt M) (.Call (.Name "zip" p) [a,b] [] pos) (Ib K B):=by
 subst L
 constructor
 intro ff s U H R I h;show Call_ (lC I N O boot_zip (Nj (thP (T.h pos ff s U H _ I h) λus c vs Y g r1 q1=>?_) (aE Q) (by rw[aE r];rfl)));let%[x1,x2,rfl|d]:=fE q1;let%[u,rfl|f]:=aT d;let%[v,rfl|w]:=aT f;let%[%[xs|d],%[ys|f]|q]:=w;let%[u1,u2,rfl,e1|e2]:=iP r1;cases e1;cases e2;let%[E,ab,l|ac]:=g.list d;let%[its2,ae,m|ag]:=g.list f;show call_zip_2 l.isList m.isList λh1 G y z hi1 hi2 _ hk=>Q2 G ?_
 let ne:∀i j,i≠j->⇑c+i≠⇑c+j:=λi j h e=>h (RB e)
 let na:∀i,u≠⇑c+i:=λi=>Zs (Zg (by let%[o,A|_]:=l.isList;show Zu A) (PX _ _))
 let nb:∀i,v≠⇑c+i:=λi=>Zs (Zg (by let%[o,A|_]:=m.isList;show Zu A) (PX _ _))
 show%[⇑c+4,[⇑c+4,⇑c+2,⇑c+3,⇑c+0,⇑c+1],_,Cg X.K u v,Y,ρ,(g.kept hk),
  Ch _ _ _ _ _ u v %[ne 2 4 (!1),ne 3 4 (!1),ne 0 4 (!1),ne 1 4 (!1),ne 2 3 (!1),ne 2 0 (!1),ne 2 1 (!1),ne 3 0 (!1),ne 3 1 (!1),ne 0 1 (!1),na 4,na 3,na 0,na 1,nb 4,nb 3,nb 0|nb 1],
  %[G,y,%[_,_|z],hi1|hi2],λb J=>?_|q]
 let n:⇑c<=b:=by
  simp only[Yu,X4,J5]at J;rcases J with rfl|rfl|rfl|rfl|rfl<;> show PX _ _
 show g.fpOk n (g.hok.fresh n)
end
open PySem PySem.Spec PySem.Calls PyProof.Rows PyProof.V PySem.W
abbrev Raw(h:su)(d:hW)(a:mx Vb)(b:gf):Prop:=∃o,h.get? d>=o/\o.ExactDict/\o.data= .dict a b
section
#where
variable{d it:hW}{es:mx Vb}{ep i:gf}
def Raw.ty(h:Raw s.heap d es ep):s.TypeIs (.ref d) "dict":=%[h.choose,h.choose_spec.1|h.choose_spec.2.1.1]
def Raw.lt(r:Raw h d es ep):d<h.objs.size:=Zu r.choose_spec.1
def Raw.up(r:Raw h d es ep)(e:∀o,h.get? d>=o->h'.get? d>=o):Raw h' d es ep:=%[r.choose,e _ r.choose_spec.1|r.choose_spec.2]
def EH(lo:(d==Nu)=gi)(r:Raw s.heap d es ep)
 (h:Q (.ref ⇑s) {s with heap:=s.heap.push {cls:= .type "dict_keyiterator",data:= .fields #[.ref d,.int 0 0,.int es.size 0,.int ep 0]}}):↥A (Vj (.ref d)) Q E s:=by
 let ty:=r.ty;let%[o,g,_|a]:=r;show Qr ty WJ (MA WJ ty F.entry_dict_iter (Z2 (Z2 (Vy ty (Z3 ?_)))) (F.args_dict_iter_1 _));change pw _ _ (SN d>>= _) _ _ s;unfold SN;rw[hH (lo▸Zt)];show Z2 (Z3 (Z2 (SQ g a (Z2 (TW g a (Z2 (MF (Z3 %[_,rfl,"dict_keyiterator",_,%[_,Zj _ rfl|rfl],Np.lookup|?_]))))))));simpa [M6]using h
def EI(k:s.heap.IsKeyIter it d i es.size ep)(r:Raw s.heap d es ep)(hi:i<es.size)
 (h:∀h',h'.IsKeyIter it d (i+1) es.size ep->q7 it s.heap h'->Q (fI es[i].key) (s>>>h')):↥A (Pj (.ref it)) Q E s:=by
 let%[o,b,f|a]:=id k;let%[od,c,_|e]:=r;unfold Pj;show Z2 (NO (Nq (name:=!"__next__") k.typeIs Np (MA Np k.typeIs Ti ?_ (Tc _))));show Z2 (Z3 (Z2 (Z2 (Z2 (N2 k.typeIs (Z3 (Z2 (RM b a ?_))))))));rw[show QJ "dict_keyiterator"=gi by decide];change pw _ _ (if(ku d==M3)=gb then _ else _) _ _ s;rw[hH (by show Zt)];show Z2 (Z3 (Z2 (SQ c e ?_)));rw[hH ∅];show Z2 (Z3 (Z2 (TW c e ?_)));rw[hH ∅];show Z3 ?_;simp only[Ow,M7,xl hi];show Z2 (Z2 (N2 k.typeIs (Z3 (Z2 (VA k.typeIs ?_)))));change pw _ _ (SS (.ref it) 1 (M6 ((i:md) +1))>>= _) _ _ s;show Z2 (P9 b a ∅ ?_);let k2:(s.heap.update it (Pe (·.setIfInBounds 1 (M6 ((i:md) +1))))).IsKeyIter it d (i+1) es.size ep:=
  %[_,MB _ b (OZ (Os a _)),(Sm ..).trans f|by rw[Os a];simp[M6]]
 show Z2 (vi (Z2 (VA k2.typeIs (Z3 (Z3 %[_,rfl|Z3 (h _ k2 (q7.update ..))])))))
def G0(j:A.handled=fD)(k:s.heap.IsKeyIter it d i es.size ep)(r:Raw s.heap d es ep)(hi:es.size<=i)
 (h:∀h',ExtBut it s.heap h'->Q fD (s>>>h')):↥A (Pj (.ref it)) Q E s:=by
 let%[o,c,l|e]:=id k;let%[od,f,_|g]:=r;unfold Pj;show Z2 (NO (Nq (name:=!"__next__") k.typeIs Np (MA Np k.typeIs Ti ?_ (Tc _))));show Z2 (Z3 (Z2 (Z2 ?_)));show Z2 (N2 k.typeIs (Z3 (Z2 (RM c e ?_))));rw[show QJ "dict_keyiterator"=gi by decide];change pw _ _ (if(ku d==M3)=gb then _ else _) _ _ s;rw[hH (by show Zt)];show Z2 (Z3 (Z2 (SQ f g ?_)));rw[hH ∅];show Z2 (Z3 (Z2 (TW f g ?_)));rw[hH ∅];show Z3 ?_;simp only[show ¬ ((i:md)<0)from by lia,Ow,M7,NU hi];show Z2 (Z2 (N2 k.typeIs (Z3 ?_)));change pw _ _ (SS (.ref it) 0 .none>>= _) _ _ s;show Z2 (P9 c e ∅ (Z2 ?_));simp only[newExc,newTuple];show Z2 (m:=firstArgMember _ _) (VP (a:=M3) (by first|rfl|(simp only[firstArgMember];rfl)) (MF ?_ (by size_fits)));simp only[raiseNew];show Z2 (wpAny_handled ?_);rw[show A.in1.handled=fD from j];show Z2 (Z3 (wpAny_throw ?_));show Z2 (NW (T:="StopIteration") (b:=gb) %[_,Zj _ rfl|rfl] Um ?_);show Z3 (h _ (((q7.update ..).extBut.push _).push _))
def G1(lo:(d==Nu)=gi):KdlSrc prog w "dict" d d es.size (λi v=>∃h:i<es.size,v=es[i].key) (λh=>Raw h d es ep) where
 type:=λ_ r=>r.ty
 there:=λ_ r=>%[r.lt|r.lt]
 keep:=λ_ _ r hk=>r.up λo e=>hk d (.inl rfl) o e
 notList:=!1
 notTuple:=!1
 hint:=λ_ _ _ _ r hq=>kdl_hint_dict r.ty hq
 iter:=λA s hh r=>%[_,λi h=>h.IsKeyIter ⇑s d i es.size ep/\Raw h d es ep,(λ_ _ hq=>EH lo r hq),{
  sub:=λb hb=>!2
  frame:=λ_ _ _ st hk=>%[st.1.at λo e=>hk _ ∅ o e|st.2.up λo e=>hk d ∅ o e]
  item:=λi s' Q E hi st hQ=>EI st.1 st.2 hi λh' k' hs'=>hQ _ h' s'.toks %[hi|rfl] %[k'|st.2.up λo e=>hs'.extBut d o (Zs r.lt) e] λb o hb e=>hs'.extBut b o (λh=>hb (by simp[h])) e
  done:=λs' Q E st hQ=>G0 hh st.1 st.2 (Zi _) λh' he'=>hQ h' s'.toks λb o hb e=>he' b o (λh=>hb (by simp[h])) e
  self:=λ_ _ _ _ st hQ=>VO st.1 hQ},%[_,Zj _ rfl,rfl|rfl]|r.up λo e=>Z7 _ e]
def xx{P:gf->hV->Prop}{R:ZF->jg->Prop}(K:KdlSrc prog w T r d n P l)(m:A.handled=fD)(ok:l s.heap)(p:n<=iv)
 (h:∀(h':su) (tk:gf) (acc:ZJ),(∀b o,s.heap.get? b>=o->h'.get? b>=o)->⇑s<=h'.objs.size->ItemsOf P acc n->R acc.toList {s with heap:=h',toks:=tk}):↥A (Rr (.ref r)) R E s:=by
 let lt:=K.there _ ok;show Z2 (Ud (Nd entry_proto_collect' (Z2 (MF (Z3 %[N9 Qm _|Nd entry_list_iadd' ?_])))));rw[Nh Qm _];let g:=kdl_extend (s:=(s>>>s.heap.push _))
  (R:=λq s'=>∃h' tk acc c,q= .ok (.ret (.ref ⇑s))/\s'={s with heap:=h',toks:=tk}/\(∀b o,s.heap.get? b>=o->h'.get? b>=o)/\h'.get? ⇑s=fI {cls:= .type _,dict:=fD,data:= .seq acc c,slots:= #[]}/\ItemsOf P acc n)
  K m (K.keep _ _ ok λb _ o e=>Z7 _ e) ⇑s (Yy lt.1) (Yy lt.2) _ 0 (Zj _ rfl)
  (λh' tk acc c j a it=>%[h',tk,acc,c,rfl,rfl,λb o e=>j b o (Zs (Zu e)) (Z7 _ e),a|it]) p
 show ME g (λfin s' x=>?_) λe s' x=>?_
 .cases fin with
  | done f=>
    let%[h',tk,acc,c,e,rfl,j,a|it]:=x;cases e;show Z2 (Ue a (Z3 (h h' tk acc j (Yd (Zu a)) it)))
  | again u=>
    show%[x.1|codeAny_mono x.2 λq v y=>?_];let%[h',tk,acc,c,rfl,rfl,j,a|it]:=y;show Z2 (Ue a (Z3 (h h' tk acc j (Yd (Zu a)) it)))
 simp_all
def xy{R:ZF->jg->Prop}(lo:(d==Nu)=gi)(f:A.handled=fD)(r:Raw s.heap d es ep)(g:es.size<=iv)
 (h:∀(h':su) (tk:gf),(∀b o,s.heap.get? b>=o->h'.get? b>=o)->⇑s<=h'.objs.size->R (es.toList.map (·.key)) {s with heap:=h',toks:=tk}):↥A (Rr (.ref d)) R E s:=by
 show xx (G1 lo) f r g λh' tk acc l c a=>?_
 let e:acc.toList=es.toList.map (·.key):=by
  apply PY;intro j;rw[Zl,Ya,Ya];by_cases m:j<es.size
  .let n:j<acc.size:=a.1▸m;let%[_|q]:=a.2 j acc[j] ∅
   simp_all
  .rw[NU (by rw[a.1];lia),NU !_];rfl
 rw[e];show h h' tk l c
end
section
variable{X:Cx}{K:ZA}
def vK(hc:X.calm=gb):cH X (.builtin "sorted") (λxs H Q=>cP xs λY=>asR Y λa=>∃b,H a>=.dT b/\∃ks,b\1=ks.map (λk:ZB=>k.map hX)/\∃m,(∀k>ks,k\5=m)/\m≠0/\ks\5<=1000/\∀(l:hW) (ss:ZG),H l=fD->aP H ss->(ss\2).Perm ks->Q (.ref l) (Qa H l (.lst (ss\0)))):=by
 intro ff s σ H xs us Q I r h;let%[Y,rfl|A]:=bJ h;let%[a,rfl|B]:=aT A;let%[b,ha,ks,c,m,hm,m0,C|q]:=B;let%[u,rfl|ru]:=dq r;cases ru;let%[_,lo,xs,E,o,z,ep,g,ex,dt,he,_|_]:=HR I.hok ha;let G:∀{b:fx (fx Key×V)} {xs:fx (fx Key×hW×hV)},KT H b xs->∀ks:fx ZB,b\1=ks.map (λk:ZB=>k.map hX)->∃ps:ZG,ps\2=ks/\(xs.map λx=>ku x.2.1)=(ps.map λp=>ku p.1)/\∀p>ps,H p.1&&&p.2\3:=by
  intro b xs E
  induction E with
  | nil=>
    intro ks c;cases ks with
    | nil=>show%[[],ρ,ρ|λp d=>by cases d]
    | cons _ _=>cases c
  | @cons kv x b xs hx t ih=>
    intro ks c;cases ks with
    | nil=>cases c
    | cons k ks=>
      rw[Yo,Yo]at c;injection c with h1 h2
      let%[ps,j,L|M]:=ih ks h2;show%[(x.2.1,k)::ps,by rw[Yo,j],by rw[Yo,Yo,L]|λp d=>?_];rcases Yu.mp d with e|e
      .rw[e];let:=hx.2.1;rw[h1,Yp]at this;show this
      .show M p e
 let%[ps,j,L|M]:=G E ks c;let v:∀p>ps,p.2>ks:=λp d=>by rw[<-j];show Xr %[p,d|rfl]
 let ta:aP H ps:=λp d=>%[λe=>m0 (by rw[<-hm _ (v p d),e];rfl)|M p d]
 let ab:ps\5<=1000:=by rw[<-Z6 (f:=(·.2)),j];show C
 let N:Raw s.heap a z ep:=%[o,g,ex|dt]
 let w:z.toList.map (·.key)=ps.map λp=>ku p.1:=by
  rw[he,Yp,<-L];rfl
 let O:z.size<=iv:=by
  let: ~~~(z.toList.map (·.key))=(ps.map λp=>ku p.1)\5:=by rw[w]
  rw[Z6,Z6,Zb]at this;rw[MD];lia
 show lJ (λE1 R hR=>xy lo (show X.A.in1.handled=fD from I.ok.hd hc) N O λh' tk k ac=>?_) (pZ I ta) (λp d=>hm _ (v p d)) m0 ⋯ λs1 s' l ss n T k1 g1 o1 k g o y gl=>?_
 .rw[w];show hR _ _ (MV _) k rfl rfl
 .let U:Qc X ff σ H s1:=I.keptS k1 g1 o1;let i:H l=fD:=U.hok.fresh y;let J:Qc X ff σ H s':=U.keptS k g o;show%[.ref l,_,U.stoodS (o:= .lst (ss\0)) J y %[?_,ss.map (λp=>ku p.1),n,p8 ss|gl],ρ|q l ss i (λp d=>ta p (T.mem_iff.mp d)) (by rw[<-j];show T.map _)];rw[Z6,T.length_eq,MD]
  lia
def Ci(c:X.calm=gb):cj X (.builtin "sorted") (λxs H Q=>cP xs λd=>asR d λa=>∃b,H a>=.dT b/\∃ks,b\1=ks.map (λk:ZB=>k.map hX)/\∃m,(∀k>ks,k\5=m)/\m≠0/\ks\5<=1000/\∀(l:hW) (ss:ZG),H l=fD->aP H ss->(ss\2).Perm ks->Q (.ref l) (Qa H l (.lst (ss\0)))):=⟨vK c⟩
def Ke:QE X (.Dict [] [] pos) ze:=⟨DF⟩
def fK(c:bW k X.A)(d:Oo a (fI (.Subscript o i b)) pos.line X.env=pure gi)(e:QE X a f)(g:QE X o h)(hi:QE X i ty):QS X (.Assign [.Subscript o i b] a pos) (tM h ty f):=
 ⟨GF (by let:=c.units;lia) g.h hi.h e.h d⟩
def nQ [MM c](a:fx (c×V))(k:c)(v:V):(cA a k v)\1=if k>a\1 then a\1 else a\1 ++[k]:=by
 unfold cA;let e:(a.any λb=>decide (b.1=k))=gb↔k>a\1:=by
  grind
 by_cases h:k>a\1
 .rw[hY (e.mpr h),hY h,Yp];show Yn λb _=>?_
  change(if b.1=k then(b.1,v)else b).1=b.1
  split<;> rfl
 .rw[hH (λz=>h (e.mp z)),hH h,Zd];rfl
end
structure xz (K:ZA) (mg:ZC) (x:jz):Prop where
 at_:mg x>=.ref (aS mg x)
 cls:Cls K (aS mg x)
structure xA (K:ZA) (mg:ZC) (x m qual:jz) (st:v0) (ps:ZB):Prop where
 ex:∃f fd,Go K (aS mg x) m f/\Fun K m qual st f fd/\d9 K fd ps []
structure EJ (K:ZA) (mg:ZC) (x qual:jz) (st:v0) (ps:ZB):Prop where
 ex:∃f fd,Mk K (aS mg x) f/\Fun K "__init__" qual st f fd/\d9 K fd ps []
structure Cj (P:mu) (w:rM) (K:ZA) (mg:ZC) (base:su) (k:gf) (x m:jz) (ps:ZB) (sp:Sp):Prop where
 ex:∃f fd,d8 P w K mg base CX0 k f fd ps sp/\Go K (aS mg x) m f/\d9 K fd ps []
structure G3 (P:mu) (w:rM) (K:ZA) (mg:ZC) (base:su) (k:gf) (x:jz) (ps:ZB) (sp:Sp):Prop where
 ex:∃f fd,d8 P w K mg base CX0 k f fd ps sp/\Mk K (aS mg x) f/\d9 K fd ps []
section
variable{P:mu}{w:rM}{K:ZA}{mg:ZC}{base:su}{x m qual:jz}{st:v0}{N ps:ZB}{k:gf}{sp:Sp}
def xA.cal(D:xA K mg x m qual st ps)(S:aw N ps (ap st))
 (a:∀(H:Hp) (vs:fx V) (Q:VK) (E:XK),sp vs H Q E->vs\5=ps\5/\∀(f:hW) (b:hV) (A:ri) (outer:fx Env) (s:jg),bW k (A.deeper (Ng qual (ap st) ⇑s f b))->
  ∃t,PSs (gB CX0 P w K mg base N qual (ap st) f b A outer s H E).nox (bX st) t/\t {nx:=λ_ c=>Q .non c,rt:=Q} (start N vs) H):Cj P w K mg base (k+1) x m ps sp:=by
 let%[f,d,e,F|g]:=D.ex;show%[f,d,F.ok S (λv H Q E h=>(a H v Q E h).1) (λb A o s H v Q E r h=>(a H v Q E h).2 f b A o s r),e|g]
def EJ.cal(D:EJ K mg x qual st ps)(S:aw N ps (ap st))
 (a:∀(H:Hp) (vs:fx V) (Q:VK) (E:XK),sp vs H Q E->vs\5=ps\5/\∀(f:hW) (b:hV) (A:ri) (outer:fx Env) (s:jg),bW k (A.deeper (Ng qual (ap st) ⇑s f b))->
  ∃t,PSs (gB CX0 P w K mg base N qual (ap st) f b A outer s H E).nox (bX st) t/\t {nx:=λ_ c=>Q .non c,rt:=Q} (start N vs) H):G3 P w K mg base (k+1) x ps sp:=by
 let%[f,d,e,F|g]:=D.ex;show%[f,d,F.ok S (λv H Q E h=>(a H v Q E h).1) (λb A o s H v Q E r h=>(a H v Q E h).2 f b A o s r),e|g]
end
section
variable{X:Cx}{K:ZA}{j k:gf}{x m:jz}{ps:ZB}{sp:Sp}{p pos apos:Pos}{o e:tI}{es:fx tI}{to te:TE}{t:TA}
def Kf(C:Cj X.prog X.w X.K X.mg X.base j x m ps sp)(c:xz X.K X.mg x)(d:bW k X.A)(a:P7 j k=gb)
 (g:M9 (.Call (.Attribute o m apos) [] [] pos) X.env=(do
  let b<-M9 o X.env
  Oy apos.atName
  let(f,first)<-O7 [b] (Q5 b m pl)
  Uq pos f first (Nv pos (q0 [] X.env)) (Qj pos (Ol [] X.env)))) (h:QE X o to):QE X (.Call (.Attribute o m apos) [] [] pos) (Aq (aS X.mg x) m sp [] E0 to BH):=by
 let%[f,n,F,i|l]:=C.ex;show⟨Dm h.h c.cls i F (d.mono (Yc a)) l .nil DH g⟩
def LU(C:G3 X.prog X.w X.K X.mg X.base j x ps sp)(c:xz X.K X.mg x)(g:bW k X.A)(h:Gl X x)(a:P7 (j+1) k=gb)(b:(x==("__debug__"))=gi)(d:(e::es).any bu=gi)(i:QA X (e::es) t):
 QE X (.Call (.Name x p) (e::es) [] pos) (Ar (aS X.mg x) sp [] E0 t):=by
 let%[f,q,F,l|n]:=C.ex;rw[Zw,X6]at d;show⟨Gr l F (g.mono (Yc a)) h c.at_ n .nil DH i.h b (aE d.1) (ee d.2)⟩
def Kg(h:X.K=K)(a:jh o=gi)(b:QE X o to):QE X (.Attribute o f pos) (Jf K to f):=by
 subst h;show⟨Jh b.h (ik a)⟩
def G4(h:X.K=K)(c:ii a=gi)(d:QE X o to)(g:QE X a i):QS X (.Assign [.Attribute o f b] a pos) (Jg K to i f):=by
 subst h;show⟨Ji d.h g.h (jW c)⟩
end
structure GvT (K:ZA) (mg:ZC) (x:jz) (xs:fx V):Prop where
 ex:∃a,mg x>=.ref a/\∀H,SqT K H a xs
def EK{K:ZA}{h:su}{o:NV}{its:ZJ}{n:gf}(X:K.In h)(G:h.Ns r0 mg)(z:Si K r0 x>=fI (.ref a))
 (b:K.lookup a>=o) (c:o.cls= .type "tuple") (d:o.data= .seq its n) (e:its.size<=iv) (r:aQ xs its.toList):GvT K mg x xs:=
 %[a,Ov X G z|λ_=> .inr %[o,its,n,b,c,d,e|r]]
def LV{X:Cx}{K:ZA}{x:jz}(h:X.K=K)(g:GvT K X.mg x xs)(b:Gl X x)(c:(x==("__debug__":jz))=gi):QE X (.Name x pos) (λ_ H Q=>∀a,(∀d,SqT K d a xs)->Q (.ref a) H):=by
 let%[a,e|f]:=g.ex;show⟨λff s i H Q I q=>HV (v:= .ref a) %[.ref a,e|rfl] b c ff s i H Q I (q a f)⟩
def tryN{X:Cx}(c:∀e s,X.xe e s->yc)(d:QSs X a g):QS X (.Try a [h] [] [] pos) g:=by
 show⟨λff s i H D I q=>XB (ME (d.h ff s i H D I q) (λf b q=>?_) λe b q=>(c e b q).elim)⟩;cases f with
 | next=>show Ox q
 | brk=>show q
 | cont=>show q
 | ret u=>show q
section
variable{X:Cx}{K:ZA}
#where
variable{S:hW}
def oX{ks:ZB}{Q:ZD}(v:∀(m:ZD) (R:ZF->jg->Prop),(∀f us c,M4 us c->c.Perm ks->(∀b o,s.heap.get? b>=o->f.heap.get? b>=o)->f.gens=s.gens->f.os=s.os->R us f)->↥A.in1 (Rr (.ref S)) R m s)(H:ks\5<=1000)
 (Y:∀(f s':jg) (l:hW) (vs:ZF) (ss:ZB) (n:gf),M4 vs ss->ss.Perm ks->(ks\5<64->ss.Pairwise (λa b=>aV b a=gi))->(∀b o,s.heap.get? b>=o->f.heap.get? b>=o)->f.gens=s.gens->f.os=s.os->(∀b o,f.heap.get? b>=o->s'.heap.get? b>=o)->s'.gens=f.gens->s'.os=f.os->⇑f<=l->s'.heap.get? l=fI {cls:= .type "list",data:= .seq vs.toArray n}->Q (.ref l) s'):
 ↥A (call (.builtin "sorted") [.ref S]) Q E s:=by
 let L:∀us:ZF,(∃c,M4 us c/\c.Perm ks)->us\5<=1000:=λus ⟨_,h,p⟩=>by rw[c8 h,p.length_eq];show H
 show nO (G:=λus=>∃c,M4 us c/\c.Perm ks) (O:=λus out=>∃ss,M4 out.toList ss/\ss.Perm ks/\(ks\5<64->ss.Pairwise (λa b=>aV b a=gi))) (λm R k=>v m R λf us c a b=>k f us %[c,a|b]) L (λs2 I us a P m g M kp h=>?_) λf s' l us out n g o k1 a1 a2 k2 a3 a4 hl gl=>?_
 .let%[c,d|C]:=g;let N:∀v1 i r,us=v1::i::r->keyKind' (v1::i::r).toArray=pure oneType':=λv1 i r e=>keyKind_strs (e▸d)
  let ll:us\5=ks\5:=by rw[c8 d,C.length_eq]
  by_cases z:us\5<64
  .show list_sort_treeK strKind_oneLt M d.keysOf N z λab hp hs=>?_
   let%[ss,B,j|J]:=sorted_out_str d hp hs;show h _ %[ss,B,j.trans C|λ_=>Cd ss J]
  .show qP (s:=s) (G:=λvs=>vs=us) (kd:=oneType') (λ_ e=>e▸L us %[_,d|C]) (λ_ s3 I m Q e j _ q=>?_) (λ_ x y s3 I Q e T U _ q=>?_) s2 I us a P m rfl M kp λout p=>?_
   .rw[e]at j ⊢;obtain⟨v1,i,r,e⟩:∃v1 i r,us=v1::i::r:=by
     match us,j with
     | v1::i::r,_=>show%[v1,i,r|ρ]
    rw[e,N v1 i r e];show Z3 q
   .rw[e]at T U;let%[a,t|rfl]:=d.all _ T;let%[b,u|rfl]:=d.all _ U;rw[keyLt'_oneType];show oneLt_str (q _)
   .let%[ss,B|j]:=cJ d p;show h out %[ss,B,j.trans C|λl=>lr (ll▸l) z]
 .let%[ss,B,j|J]:=o;show Y f s' l out.toList ss n B j J k1 a1 a2 k2 a3 a4 hl (by rw[UD];show gl)
end
def my:∀{ks:ZB} {us:ZF},aQ (ks\3) us->M4 us ks
 |[],_,.nil=> .nil
 | _::_,_,.cons r t=>by
   let%[t'|rfl]:=r;show .cons _ _ (my t)
def jr:∀{ks:ZB} {us:ZF},M4 us ks->aQ (ks\3) us
 | _,_,.nil=> .nil
 | _,_,.cons _ t h=> .cons %[t|rfl] (jr h)
section
variable{X:Cx}{K:ZA}
def t9(h:X.K=K):cj X (.builtin "sorted") (λxs H Q=>cP xs λm=>asR m λa=>∃ks,Qb K H a (ks\3)/\ks\5<64/\∀l (ss:ZB),H l=fD->ss.Perm ks->ss.Pairwise (λa b=>aV b a=gi)->Q (.ref l) (Qa H l (.lst (ss\3)))):=by
 subst h;show⟨λff s L H xs us Q I r h=>?_⟩;let%[m,rfl|d]:=bJ h;let%[a,rfl|e]:=aT d;let%[ks,w,f|q]:=e;let%[u,rfl|y]:=dq r;cases y;let%[its,p,%[o,n,z,A,M|i]|N]:=I.list w;let O:its\5=ks\5:=by rw[<-p.length,Z6]
 show oX (ks:=ks) (λT R B=>Qs a (.inl rfl) z A i (λh' k=>?_) (!2)) (by omega) λU s' l vs ss n C v E k1 g1 G k g o c J=>?_
 .show B _ _ _ (my p) (.refl _) k rfl rfl
 .let j:=I.keptS k1 g1 G;show%[.ref l,_,j.stoodS (o:= .lst _) (j.keptS k g o) c %[?_,vs,n,jr C|J],ρ|q l ss (j.hok.fresh c) v (E f)];rw[Z6,v.length_eq,MD];omega
def jt{w:rM}(h:X.w=w)(z:X.calm=gb):cj X (.builtin "sorted") (λxs H Q=>cP xs λv=>asR v λa=>∃ks,H a>=jk w a ks/\ks\5<=1000/\∀l (ss:ZB),H l=fD->ss.Perm ks->(ks\5<64->ss.Pairwise (λa b=>aV b a=gi))->Q (.ref l) (Qa H l (.lst (ss\3)))):=by
 subst h;show⟨λff s L H xs us Q I r h=>?_⟩;let%[v,rfl|e]:=bJ h;let%[a,rfl|f]:=aT e;let%[ks,A,i|q]:=f;let%[u,rfl|B]:=dq r;cases B;let%[S,_|_]:=(I.hok a _ A)
 show oX (ks:=ks) (λM R C=>w4 (I.ok.hd z) S λy vs ss j d k1 g1 m E=>C y vs ss j d k1 g1 m) i λy s' l vs ss n j d G k1 g1 m k g o c J=>?_
 let p:=I.keptS k1 g1 m;show%[.ref l,_,p.stoodS (o:= .lst _) (p.keptS k g o) c %[?_,vs,n,jr j|J],ρ|q l ss (p.hok.fresh c) d G];rw[Z6,d.length_eq,MD];omega
def Ck(h:X.K=K):cj X (.builtin "sorted") (λxs H Q=>cP xs λj=>asR j λa=>∃(ps:ZG),Qb K H a (ps\0)/\aP H ps/\∃(m:gf),(∀p>ps,p.2\5=m)/\m≠0/\ps\5<=1000/\∀(l:hW) (ss:ZG),H l=fD->ss.Perm ps->Q (.ref l) (Qa H l (.lst (ss\0)))):=by
 subst h;show⟨λff s N H xs us Q I r h=>?_⟩;let%[j,rfl|c]:=bJ h;let%[a,rfl|d]:=aT c;let%[ps,w,y,m,z,A,e|q]:=d;let%[u,rfl|B]:=dq r;cases B;let%[its,C,%[o,n,E,G,O|f]|T]:=I.list w;let:=vI C;subst this;show lJ (λU R J=>Qs a (.inl rfl) E G f (λh' k=>?_) (!2)) (pZ I y) z A e λY s' l ss n v k1 g1 L k g o b M=>?_
 .show J _ _ (MV _) k rfl rfl
 .let i:=I.keptS k1 g1 L;show%[.ref l,_,i.stoodS (o:= .lst _) (i.keptS k g o) b %[?_,ss.map _,n,p8 ss|M],ρ|q l ss (i.hok.fresh b) v];rw[Z6,v.length_eq,MD];omega
def Kh{k:gf}{i o:tI}{ty a:TE}{pos:Pos}(b:bW k X.A)(c:MU .In o=gi)(hi:QE X i ty)(d:QE X o a):QT X (.Compare i [.In] [o] pos) (tB (GD ty a)):=
 ⟨CZ (DC (by let:=b.units;omega) hi.h d.h) c⟩
end
def bH{X:Cx}{K:ZA}{a b:tI}{c d:TE}{pos:Pos}(h:X.K=K)(e:pU b)(f:QE X a c)(g:QE X b d):QE X (.Subscript a b pos) (tOp (Jp K) c d):=by subst h;show⟨Dr Jr f.h g.h e⟩
def zP(h:(env.blockKind== .function&&env.kindOf x==fI .local&&b.line==pos.line&&!(a.names.any λ(n,k)=>n==x&&(k== .local||k== .cell)))=gi):
 Oo (.ListComp c gens a pos) (fI (.Name x b)) l env=pure gi:=by
 change(pure (env.blockKind== .function&&env.kindOf x==fI _&&b.line==pos.line&&!(a.names.any _)))=pure gi;rw[h]
def qS{X:Cx}(i:gf)(e:X.N.Nodup)(hi:X.N[i]?>=x)(f:Loc X.env.scope x)(g:X.fn x=gb\/X.env.scope.names.lookup x>=.local)
 (b:(X.env.blockKind== .function&&X.env.kindOf x==fI .local&&h.line==pos.line&&!(a.names.any λ(n,k)=>n==x&&(k== .local||k== .cell)))=gi) (j:QE X (.ListComp c gens a pos) l):
 QS X (.Assign [.Name x h] (.ListComp c gens a pos) d) (uV l (kZ i)):=⟨C8 e hi f j.h (zP b) g⟩
section
#where
end
section
end
section
#where
end
section
variable{X:Cx}{pos:Pos}
def j0(b:NZ (Nm X.prog X.w) X.A X.env X.xe)(d:QT X c e)(f:QSs X a g):QS X (.While c a [] pos) (C9 e g):=⟨Da b d.h f.h⟩
def cK(a:bW k X.A)(b:Jy i)(c:QE X o d)(hi:QE X i ty):QE X (.Subscript o i pos) (Dz d ty):=⟨GE (by let:=a.units;lia) c.h hi.h b⟩
#where
def G5{P:gf->hV->Prop}(val:gf->jz)(a:∀i v,P i v->∃t,v= .str (val i) t):CmpOf prog w A .Gt P (λi j=>decide ((val j).cps.toList<(val i).cps.toList)):=λi j b c s Q E hi d h=>by
 let%[t|rfl]:=a i b hi;let%[u|rfl]:=a j c d;show WT (Oi s _ t) (Oi s _ u) PySem.F.slot_str_gt PySem.F.entry_str_gt (PySem.F.args_str_gt_2 _ _) (gives_str_gt _ _ t u) (λx=>nomatch x) h
def AD{P:gf->hV->Prop}(val:gf->jz)(a:∀i v,P i v->∃t,v= .str (val i) t):CmpOf prog w A .Lt P (λi j=>decide ((val i).cps.toList<(val j).cps.toList)):=λi j b c s Q E hi d h=>by
 let%[t|rfl]:=a i b hi;let%[u|rfl]:=a j c d;show WT (Oi s _ t) (Oi s _ u) PySem.F.slot_str_lt PySem.F.entry_str_lt (PySem.F.args_str_lt_2 _ _) (gives_str_lt _ _ t u) (λx=>nomatch x) h
def EM{i:gf}{v:hV}(h:(#[G2 x t,G2 y u]:ZJ)[i]?>=v):∃t,v= .str (if i=0 then x else y) t:=by
 match i,h with
 | 0,h=>show%[t|by simpa using h.symm]
 | 1,h=>show%[u|by simpa using h.symm]
 | i+2,h=>simp at h
def xB(a:gf->gf->on):QC a 1=if a 1 0=gb then 1 else 0:=by simp[QC]
def vL{x y:jz}(l:A.handled=fD)
 (h:∀h' tk,(∀c o,s.heap.get? c>=o->h'.get? c>=o)->Q (if x.cps.toList<y.cps.toList then .str y u else .str x t) {s with heap:=h',toks:=tk}):
 ↥A (call (.builtin "max") [.str x t,.str y u]) Q E s:=by
 let j:(s.heap.push {cls:= .type _,data:= .seq #[.str x t,.str y u]}).IsTuple ⇑s _:=%[_,Zj _ rfl,rfl,0|rfl]
 show call_max_two (Wt j ?_);let b:(s.heap.push {cls:= .type "tuple",data:= .seq #[.str x t,.str y u]}).objs.size=⇑s+1:=Zq ..;show%[_,[_,⇑s],[_],_,_,_,_,ρ,W0 (A:=A.in1) l _ ⇑s (b▸Zs (Ym _)) _,
  %[%[_,Zj _ rfl,ρ|ρ]|j.push _],λc d=>?_,by simp,G5 _ (λ_ _=>EM)|λv h' tk m n=>?_]
 .rw[Zq,b];rcases Yu.mp d with rfl|d
  .simp
  .rcases Yu.mp d with rfl|d
   .show Yl (Ym _)
   .cases d
 .let f:=λc o e=>by
   show n c o (λi=>?_) (Z7 _ (Z7 _ e));rcases Yu.mp i with p|i
   .let:=Zu e;rw[p,b]at this;show Xl _ (VI this)
   .cases i
  let q:=h h' tk f;let a:(#[G2 x t,G2 y u])[QC _ 1]?>=v:=m;rw[xB]at a;by_cases g:x.cps.toList<y.cps.toList
  .rw[hY (by simp[g])]at a;rw[hY g]at q;show(show G2 y u=v by simpa using a)▸q
  .rw[hH (by simp[g])]at a;rw[hH g]at q;show(show G2 x t=v by simpa using a)▸q
def vM{x y:jz}(l:A.handled=fD)
 (h:∀h' tk,(∀c o,s.heap.get? c>=o->h'.get? c>=o)->Q (if y.cps.toList<x.cps.toList then .str y u else .str x t) {s with heap:=h',toks:=tk}):
 ↥A (call (.builtin "min") [.str x t,.str y u]) Q E s:=by
 let j:(s.heap.push {cls:= .type _,data:= .seq #[.str x t,.str y u]}).IsTuple ⇑s _:=%[_,Zj _ rfl,rfl,0|rfl]
 show call_min_two (Wt j ?_);let b:(s.heap.push {cls:= .type "tuple",data:= .seq #[.str x t,.str y u]}).objs.size=⇑s+1:=Zq ..;show%[_,[_,⇑s],[_],_,_,_,_,ρ,W0 (A:=A.in1) l _ ⇑s (b▸Zs (Ym _)) _,
  %[%[_,Zj _ rfl,ρ|ρ]|j.push _],λc d=>?_,by simp,AD _ (λ_ _=>EM)|λv h' tk m n=>?_]
 .rw[Zq,b];rcases Yu.mp d with rfl|d
  .simp
  .rcases Yu.mp d with rfl|d
   .show Yl (Ym _)
   .cases d
 .let f:=λc o e=>by
   show n c o (λi=>?_) (Z7 _ (Z7 _ e));rcases Yu.mp i with p|i
   .let:=Zu e;rw[p,b]at this;show Xl _ (VI this)
   .cases i
  let q:=h h' tk f;let a:(#[G2 x t,G2 y u])[QC _ 1]?>=v:=m;rw[xB]at a;by_cases g:y.cps.toList<x.cps.toList
  .rw[hY (by simp[g])]at a;rw[hY g]at q;show(show G2 y u=v by simpa using a)▸q
  .rw[hH (by simp[g])]at a;rw[hH g]at q;show(show G2 x t=v by simpa using a)▸q
def sK{l:hW}{its:ZJ}{val:gf->jz}{Q:ZD}(n:A.handled=fD)(f:s.heap.IsList l its)(g:0<its.size)(a:∀(i:gf) v,its[i]?>=v->∃t,v= .str (val i) t)
 (h:∀v h' tk,its[QC (λi j=>decide ((val i).cps.toList<(val j).cps.toList)) (its.size-1)]?>=v->(∀b o,s.heap.get? b>=o->h'.get? b>=o)->Q v {s with heap:=h',toks:=tk}):
 ↥A (call (.builtin "min") [.ref l]) Q E s:=by
 let c:l<⇑s:=by let%[_,e|_]:=f;show Zu e
 show call_min_walk (Od f %[_,[⇑s,l],[⇑s],_,_,_,_,rfl,Rz (A:=A.in1) n _ l (Zs c) its,%[%[_,Zj _ rfl,rfl|rfl]|f.push _],λb d=>?_,g,AD val a|λv h' tk p q=>?_])
 .rw[Zq];rcases Yu.mp d with rfl|d
  .simp
  .rcases Yu.mp d with rfl|d
   .show Yl c
   .cases d
 .show h v h' tk p λb o e=>q b o (λm=>?_) (Z7 _ e)
  rcases Yu.mp m with r|m
  .show lr (r▸Zu e) (Xl _)
  .cases m
def qT(val:gf->jz):∀k,QC (λi j=>decide ((val i).cps.toList<(val j).cps.toList)) k<=k/\∀j,j<=k->aV (val j) (val (QC (λi j=>decide ((val i).cps.toList<(val j).cps.toList)) k))=gi
 | 0=>%[Zi _|λj b=>by rw[le_zero.mp b];show dB _]
 | k+1=>by
   let%[g|d]:=qT val k;rw[QC];by_cases c:aV (val (k+1)) (val (QC (λi j=>decide ((val i).cps.toList<(val j).cps.toList)) k))=gb
   .let a:=c;unfold aV at a;rw[hY a];show%[Zi _|λj b=>?_];by_cases e:j=k+1
    .show e▸dB _
    .cases f:aV _ _ with
     | false=>rfl
     | true=>have:=dY f c;rw[d j !_]at this;cases this
   .let a:=c;unfold aV at a;rw[hH a];show%[!_|λj b=>?_];by_cases e:j=k+1
    .lia
    .show d j !_
end
section
variable{X:Cx}
def Cl(i:X.calm=gb):cH X (.builtin "max") (λxs H Q=>jR xs λf g=>asS f λx=>asS g λy=>Q (.str (if aV x y=gb then y else x)) H):=by
 intro ff s j H xs us Q I r h;let%[f,g,rfl|b]:=fE h;let%[x,rfl|c]:=d6 b;let%[y,rfl|d]:=d6 c;let q:=d;let%[u,l,rfl,%[t|rfl],t'|rfl]:=iP r;show vL (I.ok.hd i) λh' tk k=>%[_,H,I.kept k,?_|q]
 by_cases a:x.cps.toList<y.cps.toList
 .rw[hY a,hY (show aV x y=gb from Zf a)];show%[_|ρ]
 .rw[hH a,hH (show ¬ aV x y=gb from λe=>a (Zo e))];show%[_|ρ]
def Cm(i:X.calm=gb):cH X (.builtin "min") (λxs H Q=>jR xs λf g=>asS f λx=>asS g λy=>Q (.str (if aV y x=gb then y else x)) H):=by
 intro ff s j H xs us Q I r h;let%[f,g,rfl|b]:=fE h;let%[x,rfl|c]:=d6 b;let%[y,rfl|d]:=d6 c;let q:=d;let%[u,l,rfl,%[t|rfl],t'|rfl]:=iP r;show vM (I.ok.hd i) λh' tk k=>%[_,H,I.kept k,?_|q]
 by_cases a:y.cps.toList<x.cps.toList
 .rw[hY a,hY (show aV y x=gb from Zf a)];show%[_|ρ]
 .rw[hH a,hH (show ¬ aV y x=gb from λe=>a (Zo e))];show%[_|ρ]
def Cn(C:X.calm=gb):cH X (.builtin "min") (λxs H Q=>cP xs λn=>asR n λp=>∃(ss:ZB),Qb X.K H p (ss\3)/\0<ss\5/\∀m>ss,(∀y>ss,aV y m=gi)->Q (.str m) H):=by
 intro ff s T H xs us Q I r h;let%[n,rfl|f]:=bJ h;let%[p,rfl|g]:=aT f;let%[ss,E,U|q]:=g;let%[u,rfl|l]:=dq r;cases l;let%[its,o,G|Y]:=I.list E;let a:=o\5;rw[Z6]at a;let J:its.toArray.size=ss\5:=by rw[Zp,a]
 let c:∀i v,its.toArray[i]?>=v->∃t,v=G2 (ss.getD i y2) t:=λi v e=>by
  let e:=↑e
  let hi:i<ss\5:=a▸(Xn e).1;let%[u,w|l]:=o.get (by rw[Zl,Z4 hi];rfl);rw[e]at w;let%[t|d]:=l;show%[t|by rw[Za w,d,Zc,Z4 hi];rfl]
 show sK (I.ok.hd C) G.isList ⋯ c λv h' tk z k=>?_
 let%[L|A]:=qT _ _;let%[t|d]:=c _ _ z
 generalize QC _ _=b at L A z d
 let B:b<ss\5:=by lia
 let M:ss.getD b y2=ss[b]:=by rw[Zc,Z4 B];rfl
 show%[.str _,H,I.kept k,%[t|d]|q _ (M▸Yb B) λy N=>?_];let%[j,O|rfl]:=Qi N;let:=A j !_;rwa[show ss.getD j y2=ss[j] by rw[Zc,Z4 O];rfl]at this
def Ki(a:X.calm=gb):cj X (.builtin "max") (λxs H Q=>jR xs λb c=>asS b λx=>asS c λy=>Q (.str (if aV x y=gb then y else x)) H):=⟨Cl a⟩
def EN(a:X.calm=gb):cj X (.builtin "min") (λxs H Q=>jR xs λb c=>asS b λx=>asS c λy=>Q (.str (if aV y x=gb then y else x)) H):=⟨Cm a⟩
def Kj{K:ZA}(h:X.K=K)(a:X.calm=gb):cj X (.builtin "min") (λxs H Q=>cP xs λb=>asR b λp=>∃(ss:ZB),Qb K H p (ss\3)/\0<ss\5/\∀m>ss,(∀y>ss,aV y m=gi)->Q (.str m) H):=by subst h;show⟨Cn a⟩
#where
def Co:Pi (.type "list") "keys"=pure fD:=by rw[TX,Ry];kernel_rfl
def Cp(l:s.heap.get? a>=o)(m:o.cls= .type "list")(f:o.data= .seq xs k)(n:o.dict=fD)(r:A.handled=fD)
 (h:∀h' tk,(∀b p,s.heap.get? b>=p->h'.get? b>=p)->Q fD {s with heap:=h',toks:=tk}):↥A (V0 (.ref a) "keys") Q E s:=by
 let%[c,u,v|y]:=o;simp only at m f n;subst m f n;let%[z,g,d,tk|os]:=s;let q:∀i,(%[z,g,d,i|os]:jg).TypeIs (.ref a) "list":=λ_=>%[_,l|rfl]
 let C:=sub_AttributeError;let G:=PySem.F.slot_list_getattribute.lookup;let H:=PySem.F.slot_list_getattribute.bind (.ref a);let I:=am_list_getattr_none;unfold V0 getAttrBy? getAttrBy
 repeat (any_goals (first|assumption|show q _|((with_reducible show pw _ _ (call (OY "list.__getattribute__") _ _) _ _ _);show OK PySem.F.slot_list_getattribute (q _) am_entry_list_getattribute (PySem.F.args_list_getattribute_2 _ _) (meets_getattribute_miss_list a xs k y "keys" _ Co (!1) (!1)) ⟨l,r,λh' i e j=>?_⟩)|wp_step))
 let%[t',J|L]:=j.there;let B:=j.keeps;change pw _ _ (WB _ _ _ _ _ _ _) _ _ _;unfold WB
 repeat (any_goals (first|assumption|wp_step))
 show h _ _ B
def ud:SY WR "dict.update.loop"=fI m4.«dict.update.loop»:=XI (by kernel_rfl)
def kE:plainId "dict.update.loop"=gb:=!0
variable{R:Tu->jg->Prop}{I:hW}{fp:fx hW}{wr:fx hW}{G:mx R7->mx R7->Prop}{n:gf}{P:gf->hV->Prop}{St:gf->jg->Prop}
end
def G6{b:Type}{a:fx (b×V)}{vs:fx (b×hV)}(r:KV a vs):aQ (a\2) (vs\2):=by
 induction r with
 | nil=>show .nil
 | cons h _ c=>show .cons h.2 c
section
variable{X:Cx}{K:ZA}
abbrev EO:V->fx V->Hp->VK->Prop:=λx vs H Q=>asR x λa=>jR vs λz y=>∃k,z=kV k/\∃b,H a>=.dK b/\b\5<iv/\(∀v,bD b k>=v->Q v H)/\(bD b k=fD->Q y (Qa H a (.dK (cA b k y))))
def G7:MtM X "dict.setdefault" EO:=by
 intro ff s J H x vs v us Q I p r h;let%[a,rfl|h]:=aT h;let%[_,y,rfl,k,rfl,b,e,L,u|w]:=fE h;cases p;let%[M,A,rfl,B|l]:=iP r;let%[z,m,vs,c|n]:=lR I.hok e;show PZ RT n.typeIs PySem.F.entry_dict_setdefault (PySem.F.args_dict_setdefault_3 _ _ _) (kt_meets_setdefault _ a (lQ B) m A) %[vs,n,~~~c▸z,λN hw=>?_|λO h' f C=>?_]
 .let q:=c.val k;cases d:bD b k with
  | none=>
    rw[iK.none_of (o:=SR vs k) (d▸q)]at hw;cases hw
  | some i=>
    let%[E,g|j]:=iK.some_of (d▸q);rw[g]at hw;show(Za hw)▸%[i,H,I.tok _,j|u i d]
 .let d:bD b k=fD:=by
   cases d:bD b k with
   | none=>rfl
   | some i=>
     let%[E,g|_]:=iK.some_of (d▸c.val k)
     grind
  show%[y,_,lS I (e▸MK) C (let⟨q,_,_,G,_⟩:=f;%[q|G]) (qj (by let:=e9 b k y;lia) m (c.put k l) f),l|w d]
def fQ:MtQ X "dict.setdefault" EO:=⟨G7⟩
abbrev xC(v a:hW):HO:= .ext λh=>h.IsValuesView v a
abbrev EQ:V->fx V->Hp->VK->Prop:=λx vs H Q=>asR x λa=>Ix vs (∃b,H a>=.dK b/\∀v,H v=fD->Q (.ref v) (Qa H v (xC v a)))
def G8:MtM X "dict.values" EQ:=by
 intro ff s w H x vs v us Q I i j h;let%[a,rfl|h]:=aT h;let%[rfl,l,e|q]:=Iz h;cases i;let c:=j.zero;subst c;let%[z,m,vs,n|f]:=lR I.hok e;show PZ PySem.F.slot_dict_values f.typeIs PySem.F.entry_dict_values (PySem.F.args_dict_values_1 _) (meets_dict_values _ a m) %[%[vs|f]|?_];let g:(s.heap.push {cls:= .type _,data:= .fields _}).IsValuesView ⇑s a:=%[_,Zj _ rfl,rfl|rfl]
 show%[.ref ⇑s,_,I.laid (o:=xC ⇑s a) (λb u e=>Z7 _ e) (Zi _) %[g,?_|λy A p k1=>?_],ρ|q _ I.fresh]
 .let%[o,d|_]:=g;show%[o|d]
 .let%[o,d|r]:=p;show%[o,k1 _ d|r]
def ER:MtQ X "dict.values" EQ:=⟨G8⟩
def zQ(p:X.calm=gb):cH X (.type "list") (λxs H Q=>cP xs λn=>asR n λv=>∃(a:hW),H v>=xC v a/\∃(b:fx (Key×V)),H a>=.dK b/\∀l,H l=fD->Q (.ref l) (Qa H l (.lst (b\2)))):=by
 intro ff s U H xs us Q I r h;let%[n,rfl|g]:=bJ h;let%[v,rfl|j]:=aT g;let%[a,w,b,y|q]:=j;let%[u,rfl|A]:=dq r;cases A;let%[z,Y,vs,f|B]:=lR I.hok y;let m:=(I.hok _ _ w).1;let%[o,C,E,G|J]:=B;let L:s.heap.DictAt _ a vs E:=%[o,C,G|J]
 let M:=f\5;show PySem.W.kdl_call (PySem.W.kdl_values) (I.ok.hd p) %[m|L] ⋯ λh' tk acc c keep N d=>?_
 let hl:acc.toList\5=b\5:=by rw[Zb,d.1,M]
 show%[.ref ⇑s,_,I.laid keep (Zi _) ?_,ρ|q _ I.fresh];let e:acc.toList=vs\2:=by
  show PH (!2) λi O h2=>?_
  let%[k|T]:=d.2 i _ (xl O);let%[h3|e3]:=Xn T
  simp_all
 show%[by rw[Z6];show z,acc.toList,c,e▸G6 f|N]
def G9(c:X.calm=gb):cj X (.type "list") (λxs H Q=>cP xs λd=>asR d λv=>∃(a:hW),H v>=xC v a/\∃(b:fx (Key×V)),H a>=.dK b/\∀l,H l=fD->Q (.ref l) (Qa H l (.lst (b\2)))):=⟨zQ c⟩
end
def xD:∀{ss:ZB},z>ss->∃j,ss[j]?>=z/\(∀m,m<j->∀y,ss[m]?>=y->y≠z)/\(z::ss.eraseIdx j).Perm ss
 | x::ss,h=>by
   by_cases e:x=z
   .show%[0,by simp[e],λm b=>lr b !_|by simp[e]]
   .let%[j,c,d|f]:=xD ((Yu.mp h).resolve_left λq=>e q.symm);show%[j+1,c,λm b y a=>?_|?_]
    .cases m with
     | zero=>simp at a;show a▸e
     | succ m=>show d m ⋯ y (a)
    .show(UY _ _ _).trans (f.cons _)
section
variable{X:Cx}{K:ZA}
abbrev Kk:V->fx V->Hp->VK->Prop:=λx vs H Q=>asR x λa=>jR vs λz y=>∃k,z=kV k/\∃b,H a>=.dK b/\Q ((bD b k).getD y) H
def Kl:MtM X "dict.get" Kk:=by
 intro ff s n H x vs v us Q I f g h;let%[a,rfl|h]:=aT h;let%[_,y,rfl,k,rfl,b,e|q]:=fE h;cases f;let%[o,i,rfl,j|l]:=iP g;let%[z,m,vs,c|d]:=lR I.hok e;show PZ UM d.typeIs PySem.F.entry_dict_get (PySem.F.args_dict_get_3 _ _ _) (meets_dict_get_default _ a (lQ j) m i) %[_,d.mapOf,(bD b k).getD y,H,I.tok _,(c.val k).getD l|q]
def AE:MtQ X "dict.get" Kk:=⟨Kl⟩
abbrev isZ(z:jz):hV->on
 | .str x _=>x==z
 | _=>gi
def ue(t:Tok)(r:aQ (ss\3) its)(h:ss\5=its\5)(l:z>ss):∃(j:gf) (e:j<its.toArray.size),ss[j]?>=z/\(z::ss.eraseIdx j).Perm ss/\(∀y,y>its.toArray->MeetsSeq.EqGives y (.str z t) (isZ z y))/\isZ z its.toArray[j]=gb/\∀m (a:m<its.toArray.size),m<j->isZ z its.toArray[m]=gi:=by
 let%[j,f,n|o]:=xD l;let b:∀m y,its[m]?>=y->∃x t,y=G2 x t/\ss[m]?>=x:=λm y c=>by
  let a:m<ss\5:=h▸(Xn c).1;let%[u,i|p]:=r.get (by rw[Zl,Z4 a];rfl);rw[c]at i;let%[t|q]:=p;show%[_,t,(Za i).trans q|Z4 a]
 let e:j<its\5:=h▸(Xn f).1;show%[j,e,f,o,λy c=>?_,?_|λm a g=>?_]
 .let%[m|a]:=Xh ↑c;let%[x,t',rfl|_]:=b m y a;show eqGives_str x z t' t
 .let%[x,t',ex|d]:=b j _ (Z4 e);rw[f]at d;change isZ z its[j]=gb;rw[ex,<-Za d];show Pn z
 .let%[x,t',ex|d]:=b m _ (Z4 a);change isZ z its[m]=gi;rw[ex];show MQ.mpr (n m g x d)
abbrev vN:V->fx V->Hp->VK->Prop:=λx vs H Q=>asR x λl=>cP vs λy=>asS y λz=>∃ss:ZB,H l<*ss\3/\z>ss/\∀a,(z::a).Perm ss->Q .non (Qa H l (.lst (a\3)))
def Cq:MtM X "list.remove" vN:=by
 intro ff s A H x vs v us Q I c d h;let%[l,rfl|h]:=aT h;let%[_,rfl|h]:=bJ h;let%[z,rfl,ss,a,f|q]:=d6 h;cases c;let%[u,rfl|g]:=d.one;let%[t|rfl]:=g;let%[i,its,n,r,b|e]:=I.lstM a;rw[Z6]at b i;let%[j,m,_,o,p,w|y]:=ue t r b f;show OK F.slot_list_remove %[_,e|rfl] F.entry_list_remove (F.args_list_remove_2 _ _) (MeetsSeq.list_remove l its.toArray n _ _ p j m w y (!2)) %[e,.non,_,I.lset (its':=its.eraseIdx j) a e ?_ ?_ ?_,rfl|q _ o]
 .simp
 .rw[OS,Zd,VX,WG,<-OS];show r.eraseIdx j
 .let:=tH ss j;rw[Z6]
  lia
abbrev zR:V->fx V->Hp->VK->Prop:=λx vs H Q=>asR x λl=>cP vs λy=>asS y λz=>∃ss:ZB,H l<*ss\3/\z>ss/\∀j:gf,ss[j]?>=z->Q (.int j) H
def ES:MtM X "list.index" zR:=by
 intro ff s B H x vs v us Q I d f h;let%[l,rfl|h]:=aT h;let%[_,rfl|h]:=bJ h;let%[z,rfl,ss,g,i|q]:=d6 h;cases d;let%[u,rfl|m]:=f.one;let%[t|rfl]:=m;let%[b,its,n,r,a|e]:=I.lstM g;rw[Z6]at a b;let%[j,c,o,_,p,w|y]:=ue t r a i;let A:=c;rw[Zp,<-a]at A;rw[MD]at b;show OK F.slot_list_index %[_,e|rfl] F.entry_list_index (F.args_list_index_2 _ _) (MeetsSeq.list_index l its.toArray n (.str z t) (isZ z) p j c ⋯ w y) %[e,.int j,H,I.tok _,%[_|rfl]|q j o]
def AF:MtQ X "list.index" zR:=⟨ES⟩
def ET:MtQ X "list.remove" vN:=⟨Cq⟩
end
def Cr:Pi (.type "list_reverseiterator") "__len__"=pure fD:=by kernel_rfl
def EU:Pi (.type "list_reverseiterator") "__length_hint__"=pure (fI (.builtin "list_reverseiterator.__length_hint__")):=by kernel_rfl
section
#where
def sM(hh:A.handled=fD)(N:s.heap.IsRevIter I l ((items.size:md) -1))(O:s.heap.IsList l items)(ne:l≠I)(hz:items.size<=iv)
 (hQ:∀s' acc c,(∀b o,b≠I->s.heap.get? b>=o->s'.heap.get? b>=o)->s'.gens=s.gens->s'.os=s.os->s'.heap.get? ⇑s=fI {cls:= .type "list",data:= .seq acc c}->acc.toList=items.toList.reverse->Q (.ref ⇑s) s'):
 ↥A (call (.type "list") [.ref I]) Q E s:=by
 let u:I<⇑s:=let⟨_,h,_⟩:=N;Zu h;let v:l<⇑s:=let⟨_,h,_⟩:=O;Zu h
 generalize n:s.heap.push {cls:=MS "list",data:=Data.seq #[]}=G
 let gz:G.objs.size=⇑s+1:=by rw[<-n,Zq]
 let y:∀b o,s.heap.get? b>=o->G.get? b>=o:=λb o e=>by rw[<-n];show Z7 _ e
 let p:G.get? ⇑s=fI {cls:=MS "list",data:=Data.seq #[]}:=by rw[<-n];show Zj _ rfl
 show callType_codes (Q₁:=λobj f=>obj= .ref ⇑s/\f=(s>>>G)) F.called_list (F.typeCall_list_1 (ku I)) F.entry_list_init (code_list_new (ku I) %[rfl|by rw[n]]) λobj f i=>?_
 let%[rfl|rfl]:=i;show%[%[_,p|ρ],F.args_list_init_2 _ _|?_];change ↥A.in1.in1 (m4.«list.__init__» %[[.ref ⇑s,.ref I]|[]]) _ _ _;unfold m4.«list.__init__»;show Z2 ?_;show listItems_at (s:=(s>>>G)) p rfl ?_;show Z2 (Ps (s:=(s>>>G)) p rfl ?_ (Xg _));let U:=MB (NA λ_=> #[]) p rfl;let d:∀b o,b≠⇑s->G.get? b>=o->(G.update ⇑s (NA λ_=> #[])).get? b>=o:=λb o z e=>(MG _ _ (wh z)).trans e
 show Z2 (RL ?_)
 generalize G.update ⇑s (NA λ_=> #[])=g at U d
 let B:I≠⇑s:=Zs u;let nl:l≠⇑s:=Zs v;let j:g.IsRevIter I l ((items.size:md) -1):=N.at λo e=>d _ _ B (y _ _ e)
 let C:g.IsList l items:=let⟨o,h,r⟩:=O;%[o,d _ _ nl (y _ _ h)|r];let W:=Walks.listRev (prog:=prog) (w:=w) (A:=A.in1.in1) hh I l ne items;let m:(0<=items.size/\g.IsRevIter I l (↑(items).size-1-((0:gf):md))/\g.IsList l items):=%[Xg _,↑j|C]
 change ↥A.in1.in1 (NS (.ref ⇑s) (.ref I) .none) _ _ (s>>>g);unfold NS;let q:Rs (s>>>g) (.ref I) "list_reverseiterator":=j.typeIs;show Z2 (O0 (T:="list_reverseiterator") q ?_);let n1:Sg (.ref ⇑s) (.ref I)=gi:=MQ.mpr (wh B);let n2:(MS "list_reverseiterator"==MS "list")=gi:=!1
 let n3:(MS "list_reverseiterator"==MS "tuple")=gi:=!1
 simp only[n1,n2,n3,WM,Zy,Ow];show Z2 (W.self 0 (s>>>g) _ _ m ?_);show Z2 (vi ?_);unfold RD;show Z2 (PN (T:="list_reverseiterator") q Cr ?_);change pw _ _ (specialOf (.ref I) (!"__length_hint__")>>= _) _ _ _;show Z2 (PN q EU ?_)
 wp_delta
 show Z2 (NW (T:="list_reverseiterator") (b:=gb) q (by rw[isSubtype_type];kernel_rfl) ?_);simp only[WN,Zy,Ow];rw[hY (!0)];rw[hH (!1)];show Z3 ?_;rw[hH (!0)];let H:⇑s∉[I,l]:=by
  simp only[Yu,X4,J5,Oj];show%[wh B|wh nl]
 show Z3 %[N9 VL _|V2 W.toS hz _ H _ items.size 0 _ _ _ rfl (Xg _) m U (Wr _) λs5 acc c5 J L a=>?_];show%[ρ|hQ s5 acc c5 (λb o z e=>?_) J.gens J.os L ?_]
 .let nb:b≠⇑s:=Zs (Zu e);show J.heap b o ?_ (d _ _ nb (y _ _ e));simp only[Yu,X4,J5,Oj];show%[nb|z]
 .apply PY;intro k;let al:acc.toList\5=items.size:=Zb▸a.1;by_cases Y:k<items.size
  .let M:k<acc.size:=a.1▸Y;let:=a.2 k acc[k] ∅;rw[fx.getElem?_reverse (Y),Zb,Ya,Ya,this];simp[M]
  .rw[Xm !_,Xm (by simp;lia)]
end
abbrev Km(n:gf)(a l:hW)(m:gf):HO:= .ext λh=>n<=a/\h.IsRevIter a l (m-1)
def Cs{X:Cx}:cH X (.type "reversed") (λxs H Q=>∃(l:hW) (ys:fx V),xs=[.ref l]/\Qb X.K H l ys/\∀r,H r=fD->Q (.ref r) (Qa H r (Km X.s₀.heap.objs.size r l ys.length))):=by
 intro ff s a H xs us Q I r h;let%[l,ys,rfl,c|q]:=h;let%[u,rfl|d]:=dq r;cases d;let%[its,f,pl|j]:=I.list c;show call_reversed_list pl.isList ?_;let g:=I.hok.fresh (Zi _);let J:Qc X ff a H (s>>>(s.heap.push (revObj l (its.toArray.size-1)))):=I.keptS (λb o e=>Z7 _ e) rfl rfl;show%[.ref ⇑s,_,I.stoodS (o:=Km X.s₀.heap.objs.size ⇑s l ys.length) J (Zi _) %[%[I.sz|?_],%[_|Zj _ rfl]|λ_ _ ⟨i,x⟩ k=>%[i|x.at λo e=>k o e]],ρ|q _ g];rw[f\5,<-Zp];show%[_,Zj _ rfl,ρ|ρ]
def Qc.dropped{X:Cx}(I:Qc X ff j H s)(l:H a>=.ext i)(m:X.s₀.heap.objs.size<=a)(f:∀b o,b≠a->s.heap.get? b>=o->s'.heap.get? b>=o)(r:s'.gens=s.gens)(v:s'.os=s.os):Qc X ff j (drop H a) s':=by
 let ne:∀{b:hW} {o:HO},H b>=o->(∀i,o≠ .ext i)->b≠a:=λe n z=>by
  grind
 let un:Un (frs X.stack) [a] H (drop H a) s.heap s'.heap:=by
  show%[λb o e _ _ d=>f b o ↑d e,λb o e _ _ d=>%[o.slots|f b o ↑d e],λb o _ n _=>?_,λb o e d=>%[o|f b o ↑d e],λb xs e=>?_,λb o u e=>?_|λb ps e=>%[#[]|?_]]
  .unfold drop;split
   .rfl
   .show n
  .rw[cc (ne e ∅)];show e
  .rw[cc (ne e ∅)];show e
  .rw[cc (ne e ∅)];simpa using e
 let g:HOk X.prog X.w (drop H a) s'.heap:=λb o e=>by
  let nb:b≠a:=λz=>by rw[z,iX]at e;cases e
  rw[cc nb]at e;show(I.hok b o e).stay (λc u h q=>f c u ?_ q) (λc q=>?_) λc xs q=>?_
  .rcases h with rfl|h
   .show nb
   .show ne h ∅
  .rw[cc (ne q ∅)];show q
  .rw[cc (ne q ∅)];show q
 show I.call' v un g (by rw[r];show I.bare) λb w=>by
  obtain rfl:b=a:=↑w
  show%[.inr m,λz=>?_,λx c e z=>?_|λp y z=>?_]
  .let:=I.free;grind
  .let:=I.freeC x c e;grind
  .let:=(I.pin p y).2.1;rw[z,l]at this;cases this
def xE{X:Cx}(y:X.calm=gb):cH X (.type "list") (λxs H Q=>∃(r l:hW) (ys:fx V),xs=[.ref r]/\H l<*ys/\H r>=Km X.s₀.heap.objs.size r l ys.length/\∀p,drop H r p=fD->p≠r->Q (.ref p) (Qa (drop H r) p (.lst ys.reverse))):=by
 intro ff s L H xs us Q I r h;let%[a,l,ys,rfl,g,f|q]:=h;let%[u,rfl|A]:=dq r;cases A;let%[z,its,n,B,m|e]:=I.lstM g;let%[%[v|b]|_]:=I.hok a _ f;let i:l≠a:=λz=>by rw[z,f]at g;cases g
 let sz:its.toArray.size=ys\5:=!2
 show sM (I.ok.hd y) (by rw[sz];show b) %[_,e,rfl,n|rfl] i (by rw[sz];show z) λs' acc c C E j G d=>?_
 let w:=I.dropped f v (λ_ _ _ e=>e) rfl rfl;let J:=I.dropped f v C E j;let lt:=let⟨_,j,_⟩:=b;Zu j;show%[.ref ⇑s,_,w.stoodS (o:= .lst ys.reverse) J (Zi _) %[?_,acc.toList,c,?_|?_],ρ|q _ (w.hok.fresh (Zi _)) (Yy lt)]
 .rw[UV];show z
 .rw[d];show B.reverse
 .show G
abbrev xF(b:TE):TE:=λc H Q=>b c H λv a=>∃l ys,v= .ref l/\a l<*ys/\∀p,a p=fD->Q (.ref p) (Qa a p (.lst ys.reverse))
def EV{X:Cx}(h:X.calm=gb)(i:Gl X "reversed")(j:X.mg "reversed"=fD)(a:Gl X "list")(b:X.mg "list"=fD)(d:bu e=gi)(m:QE X e n):
 QE X (.Call (.Name "list" o) [.Call (.Name "reversed" s) [e] [] u] [] w) (xF n):=by
 let y:QE X (.Call (.Name _ s) [e] [] u) _:=ctE ⟨Cs⟩ i j YC rfl rfl (by simp[d]) (paE d (⟨JV m.h⟩) ao);let z:=ctE (p:=o) (pos:=w) ⟨xE h⟩ a b Q6 rfl rfl rfl (paE rfl y ao);show⟨JW z.h λB H Q q=>?_⟩;show%[_,q|λv C ⟨l,ys,A,c,q⟩=>%[l,ys,by rw[A],Qb.of c|λr f=>?_]];show%[r,l,ys,ρ,by rw[ar (aC c f)];show c,aa|λp g _=>?_];rw[Eo f]at g ⊢;show q p g
section
variable{X:Cx}
abbrev Kn:R2:=λx y H Q=>asR x λa=>asR y λb=>∃xs,H a<*xs/\H b<*[]/\Q (.bl (decide (xs≠[]))) H
def Ko(B:X.A.units+64<Pa):OpR X (oT .NotEq) Kn:=by
 intro ff s C H x y v u Q I l m h;let%[a,rfl|o]:=aT h;let%[b,rfl,xs,p,w|q]:=aT o;cases l;cases m;let%[z,its,n,r,g|e]:=I.lstM p;let%[E,its2,i,G,d|c]:=I.lstM w;obtain rfl:its2=[]:=vu.mp d.symm;by_cases f:xs=[]
 .subst f;obtain rfl:its=[]:=vu.mp g.symm;show Ro (op:= .NotEq) %[_,e|rfl] %[_,c|rfl] Vd UO (Us _ _) (VC a b #[] #[] n i fD fD #[] #[] rfl λ_=>gb) %[e,c,λj h=>lr h (X3 j),by simp,.bl _,H,I,rfl|q] !_
 .let A:its.toArray.size≠0:=by
   rw[Zp,<-g];show λq=>f (vu.mp q)
  rw[Zf f]at q;show Ro (op:= .NotEq) %[_,e|rfl] %[_,c|rfl] Vd UO (Us _ _) (SeqAt.list_ne_lengthsAt a b its.toArray #[] n i fD fD #[] #[] ↑A) %[e,c,by simp,.bl gb,H,I,rfl|q] !_
def LW(a:bW k X.A):OpQ X (oT .NotEq) Kn:=⟨Ko a.units⟩
#where
def gK(I:fx i->j->jg->Prop):∀(xs:fx i) (b:j) (s:jg),I xs b s->
 (∀x r b s,I (x::r) b s->↥A (f x b) (λy s'=>match y with| .done c=>Q c s'| .yield c=>I r c s') E s)->(∀b s,I [] b s->Q b s)->↥A (forIn xs b f) Q E s
 |[],b,s,h,_,a=>by
  show Z3 (a b s h)
 | x::r,b,s,h,d,a=>by
   rw[SE];show Z2 (ME (d x r b s h) (λy s' g=>?_) λ_ _ e=>e);cases y with
   | done c=>show Z3 g
   | yield c=>show gK I r c s' g d a
def EW:∀as {Q:on->jg->Prop},(∀b>as,∃c,bQ w b c s.heap)->Q gb s->↥A (setsQuiet as) Q E s:=by
 intro as Q h j;show Z2 (gK (λr b s'=>(∀b>r,∃c,bQ w b c s.heap)/\b=(fD,())/\s'=s) as _ s %[h,rfl|rfl] ?_ ?_)
 .intro x r b s' %[f,rfl|rfl];let%[c,o,l,C,t,ss,m,n,p,q,G,v,d,H,y,B|g]:=f x Zm;show Z2 (Oq m p y (Z2 ?_));rw[<-Rq];show gK (λr b a=>(∀e>r,∃z u,e=(NG w z,G2 z u))/\b=(fD,())/\a=s') l.toList _ _ %[d,rfl|rfl] ?_ ?_
  .intro e r b a %[i,rfl|rfl];let%[z,u|rfl]:=i e Zm;show Z3 %[λe h=>i e (Zk _ h),rfl|rfl]
  .intro b a %[_,rfl|rfl];show Z3 %[λe h=>f e (Zk _ h),rfl|rfl]
 .intro b s' %[_,rfl|rfl];show Z3 j
abbrev hsE(w:rM)(p:jz×Tok):md×hV:=(NG w p.1,.str p.1 p.2)
def bQ.texts{a:hW}{h:su}{o:NV}{c:mx (md×hV)}(d:M4 (c.toList\2) ss)(g:ss.Perm ks)(f:∀e>c.toList,∃z u,e=(NG w z,G2 z u))(xs:fx (md×hV))(b:xs.Perm c.toList):∃zs:fx (jz×Tok),xs=zs.map (hsE w)/\(zs\1).Perm ks:=by
 let all:∀l,(∀e>l,∃z u,e=(NG w z,G2 z u))->∃zs:fx _,l=zs.map (hsE w):=λl=>by
  induction l with
  | nil=>show λ_=>%[[]|rfl]
  | cons e l i=>
    intro h;let%[z,u|rfl]:=h e Zm;let%[zs|rfl]:=i λx b=>h x (Zk _ b)
    show%[(z,u)::zs|ρ]
 let%[zs|rfl]:=all xs λe j=>f e (b.mem_iff.mp j)
 show%[zs,ρ|?_];let%[ts,m|n]:=cJ d (b.map _);let e:ts=zs\1:=by
  rw[<-m.strs,Yp,Yp];rfl
 show e▸n.trans g
def uf{f:fx hW}{c:ZI}{Q:mx (md×hV)->jg->Prop}(U:bQ w a ks s.heap)(hO:∀b>f,∃js,bQ w b js s.heap)(n:∀r,c>=r->r≠a/\bQ w r [] s.heap)
 (hQ:∀(zs:fx (jz×Tok)) (d:Drawn) (h':su),(zs\1).Perm ks->(∀b o,c≠fI b->s.heap.get? b>=o->h'.get? b>=o)->(∀r,c>=r->bQ w r [] h')->Q (zs.map (hsE w)).toArray {s with heap:=h',drawn:=d}):
 ↥A (setWalkUnseen a f c) Q E s:=by
 let%[o,g,ep,t,ss,Y,ac,hd,J,hp,ae,L,I,hf,M|i]:=id U;let fin:∀(xs:fx _) d h',xs.Perm g.toList->(∀b o,c≠fI b->s.heap.get? b>=o->h'.get? b>=o)->(∀r,c>=r->bQ w r [] h')->Q xs.toArray {s with heap:=h',drawn:=d}:=λxs d h' hx u h2=>by
  let%[zs,rfl|hz]:=bQ.texts (a:=a) (h:=h') (o:=o) J hp L xs hx;show hQ zs d h' hz u h2
 let walk:↥A (setWalk a) Q E s:=by
  show Z2 (n7 Y hd hf ?_);change pw _ _ (if bi w=gb then _ else _) _ _ _;by_cases N:bi w=gb
  .rw[hY N];show Z2 (M0 (Z3 ?_));let:=fin (NX (w.params.setOrder a ep) g).toList s.drawn s.heap (tU _ _) (λ_ _ _ e=>e) λr e=>(n r e).2
   show this
  .rw[hH N]
   split
   .show Z2 (vp g.size g.toList _ _ ∅ λys d p=>Z3 (fin ys d s.heap p (λ_ _ _ e=>e) λr e=>(n r e).2))
   .show Z2 ?_;change pw _ _ (if(!t.led&&decide _)=gb then Qt _ else pure ()) _ _ _;rw[i,show bi w=gi by simpa using N];show Z3 (Z3 ?_);let:=fin g.toList s.drawn s.heap (.refl _) (λ_ _ _ e=>e) λr e=>(n r e).2
    show this
 show Z2 (n7 Y hd hf ?_);change pw _ _ (if(bi w||t.led&&t.plain||decide _)=gb then _ else _) _ _ _;by_cases u:(bi w||t.led&&t.plain||decide (g.size<=1))=gb
 .rw[hY u];show walk
 .rw[hH u];show Z2 (EW _ (λb I=>?_) ?_)
  .rcases Yu.mp I with e|e
   .show e▸%[_|U]
   .show hO b e
  show Z2 (N4 ?_);cases c with
  | none=>
    let:=fin g.toList s.drawn s.heap (.refl _) (λ_ _ _ e=>e) λr e=>(n r e).2
    show Z3 this
  | some r=>
    let%[ne,o2,O,ag,q,ai,j,v,l,y,T,B,C,G,H,ab|m]:=n r rfl;dsimp only;show Z2 (n7 j l H ?_)
    split
    .show Z2 (NJ j l ?_ (NK G));let:=fin g.toList s.drawn _ (.refl _) (λb o I e=>((q7.update s.heap r (N0 O {q with led:=q.led&&t.led,plain:=q.plain&&t.plain})).2 b λz=>I (by rw[z])).trans e) λr' e=>?_
     .show Z3 this
     .cases e;show(bQ.stored (t':={q with led:=q.led&&t.led,plain:=q.plain&&t.plain}) j v l y T B C G H (by rw[(M λz=>u (by rw[z];simp)),Nx]) (by rw[m,i,TU])).2
    .let:=fin g.toList s.drawn s.heap (.refl _) (λ_ _ _ e=>e) λr e=>(n r e).2
     show Z3 this
def Ha(h:kX (hX z) (G2 y u)=gb):y=z:=by
 rcases bA h with⟨i,t',a,b⟩|⟨c,t',a,b⟩
 .lia
 grind
def xG{ks:ZB}(i:s.heap.get? a>=o)(l:o.data= .set b H t)(c:∀e>b.toList,∃z u,e=(NG w z,G2 z u))(C:b.size<OQ)(m:t.fits b.size=gb)
 (n:∀r,(r=fD->∀e>b.toList,∀u,e.2≠ .str z u)->(∀j,r>=j->∃u,b.toList[j]?>=(NG w z,.str z u))->Q r s):↥A (setFind a (.str z tk) (NG w z)) Q E s:=by
 let p:ElemsOf (aM prog w) b.toList:=tT c;let d:(aM prog w).is (hX z) (.str z tk)=gb:=eK z tk;show Z2 (n7 i l m ?_);dsimp only;rw[byScan_of rfl C p];show Z2 (N4 (Z2 (Xu d i l m p ?_)));cases v:WH _ b.toList with
 | some j=>
   let%[B,f|_]:=R5.mp v;dsimp only;rw[RH];show Z3 (n _ (λh=>(nomatch h)) λI e=>?_);cases e;let%[y,u|g]:=c _ (Yb B);rw[g]at f;rw[Ha (u:=u) f]at g;show%[u|by rw[Z4 B,g]]
 | none=>
   show Z3 (n fD (λ_ e G u q=>?_) λj e=>(nomatch e));let:=Tw.mp v e G;rw[q,show(aM prog w).is (hX z) (G2 z u)=gb from eK z u]at this;cases this
def EX{P D M n i b:gf}(h:P=n/\P+D<=M)(hi:i<n):min i P+(P-(i+1))=n-1/\min i P+(P-(i+1)) +(min b D+1+(D-b))<=M:=by
 let%[rfl|h]:=h;let e:=gf.sub_add_min_cancel D b;let k:i+1+(P-(i+1))=P:=gf.add_sub_of_le hi;rw[Qv (Yd hi),gf.min_comm b D]
 generalize min D b=x at e ⊢
 generalize D-b=y at e ⊢
 generalize P-(i+1)=z at k ⊢
 show%[!_|!_]
def Ct{t:kG}(h:t.fits n=gb)(hi:i<n):(t.drop i).fits (n-1)=gb/\(t.drop i).led=t.led/\(t.drop i).plain=t.plain:=by
 unfold Oe at h ⊢;rw[Zv,NE,xr]at h;unfold kG.drop;let:t.place[i]?>=t.place[i]:=by simp
 rw[this];show%[?_,ρ|ρ];rw[Zv,NE,xr];unfold Ra at h ⊢;simp only[OD,kG.insertAt,Qu,mx.size_extract,Xk,gf.min_self,Uy];show EX h hi
def zS(h:i<a.size):(OD a i).toList=a.toList.eraseIdx i:=by
 rw[OS,OD,Xf,RQ,RQ,Of,Of];simp;show Zn ∅
def xH{ks:ZB}(I:bQ w a ks s.heap)(m:∀h' b,q7 a s.heap h'->bQ w a (ks.erase z) h'->Q b (s>>>h')):↥A (setDiscardHashed a (.str z tk) (NG w z)) Q E s:=by
 let%[o,c,ep,t,ss,h,n,j,d,J,p,f,L,v,y|g]:=id I;show Z2 (xG (ks:=ks) h j f L v λr M N=>?_);cases r with
 | none=>
   let O:z∉ks:=λq=>by
    let%[u|l]:=(fk d).mpr (J.mem_iff.mpr q);let%[e,B|T]:=Xq l;show M rfl e B u T
   rw[fx.erase_of_not_mem O]at m;show Z3 (m s.heap gi (q7.refl a s.heap) I)
 | some i=>
   let%[u|l]:=N i rfl;let hi:i<c.size:=(Xn l).1;let C:((NG w z,G2 z u)::(OD c i).toList).Perm c.toList:=by
    rw[zS hi];let:=jm (xs:=c.toList) (hi);rwa[(Xn l).2]at this
   let%[ts,G|U]:=cJ d (C.map _);cases G with
   | cons _ _ G=>
   let%[Y,d2|d3]:=Ct v hi;let H:(OD c i).size=c.size-1:=by
    rw[<-Zb,<-Zb,<-C.length_eq];simp
   show Z2 (n7 h j v ?_);dsimp only;show Z2 (NJ h j (Z2 (wpAny_point (Z3 (m _ gb (q7.update s.heap a _) (bQ.stored h n j G ((fx.cons_perm_iff_perm_erase.mp (U.trans J)).2) (p.erase z) (λe B=>f e (C.mem_iff.mp (Zk _ B))) ?_ ?_ ?_ ?_).2)))) (NK ?_))
   .lia
   .show H▸Y
   .show d3▸y !_
   .show d2▸g
   .lia
end
def AG(h:_ST.WF t a)(b:a.size<=t.mask):t.fits a.size=gb:=by
 unfold Oe Ra;rw[h.size,h.dum];simpa using b
section
#where
abbrev vO(w:rM)(a:hW)(n:gf)(h:su):Prop:=∃o b t,h.get? a>=o/\o.ExactSet/\o.data= .set #[] b t/\t.place= #[]/\t.dummies= #[]/\t.led=(!bi w)/\(∃k,t.mask+1=2^k)/\7<=t.mask/\n<=t.mask
def vO.fits{t:kG}(a:t.place= #[])(b:t.dummies= #[]):t.fits (#[]:mx (md×hV)).size=gb:=by
 unfold Oe Ra;rw[a,b];simp
def Hb{n:gf}{Q:S4->jg->Prop}(a:s.heap.get? r>=cb w)(f:n<=1000)(c:∀h',q7 r s.heap h'->vO w r n h'->Q () (s>>>h')):↥A (setRoomFor r n) Q E s:=by
 let d:(Pf 0 0 (!bi w)).fits _=gb:=vO.fits rfl rfl;show Z2 (n7 a rfl d ?_);change pw _ _ (match(if GE.ge ((0+n)*5) (7*3) then fI ((0+n)*2)else fD)with|some x=>VT r x|_=>pure ()) _ _ _;by_cases h: GE.ge ((0+n)*5) (7*3)
 .rw[hY h];show _ST.relay_w a rfl d ∅ ⋯ λb t' P W l p g m2=>c _ (q7.update s.heap r _) ?_
  obtain rfl:b= #[]:=by
   let:=P.length_eq;simpa using this
  let e:=by
   let q:=MB (N0 #[] t') a (by rfl);rwa[R9 #[] t' rfl]at q
  show%[_,_,t',e,%[ρ,ρ|ρ],ρ,mx.eq_empty_of_size_eq_zero W.size,W.dum,l,W.pow,W.big|!_]
 .rw[hH h];show Z3 (c s.heap (q7.refl r s.heap) %[_,_,_,a,%[rfl,rfl|rfl],rfl,rfl,rfl,rfl,%[3|rfl],Zi 7|by change n<=7;lia])
def EY{ks:ZB}(M:bQ w a ks s.heap)(N:s.heap.get? r>=cb w)(ne:r≠a)(h1:1<=ks\5)(h2:ks\5<=1000)(O:∀h',q7 r s.heap h'->bQ w r ks h'->Q () (s>>>h')):↥A (setMerge r a) Q E s:=by
 let%[o,d,ep,t,ss,T,U,Y,n,G,z,B,hb,H,C|g]:=id M;let hn:d.size=ks\5:=by
  let q:=c8 n;rw[Z6,Zb,G.length_eq]at q;show q
 let pl:t.plain=gi:=C !_;unfold setMerge;rw[hH ↑ne];show Z2 (n7 T Y H ?_);dsimp only;rw[hH (λh:d.isEmpty=gb=>by let:=Zo h;lia)];show Z2 (Hb N ⋯ λh' sb ⟨o2,ab,u,i,v,j,I,J,L,k2,b2,m2⟩=>Z2 (n7 (s:=(s>>>h')) i j (vO.fits I J) ?_));dsimp only;let m:u.fill=0:=by unfold Ra;rw[I,J];rfl
 let put:∀(b:mx (md×hV)) (t':kG),b.toList.Perm d.toList->t'.fits b.size=gb->t'.plain=gi->t'.led=(!bi w)->↥A (VS r b t') Q E (s>>>h'):=λb t' P f p l=>by
  let sz:b.size=d.size:=by rw[<-Zb,P.length_eq,Zb]
  let%[ts,r1|r2]:=cJ n (P\2);show NJ (s:=(s>>>h')) i j (O _ (sb.trans (q7.update h' r _)) (bQ.stored (w:=w) i v j r1 (r2.trans G) z (λe he=>B e (P.mem_iff.mp he)) ⋯ f p l).2) (NK !_)
 unfold kG.road;rw[m,hH (!1)]
 split
 .show put d _ (.refl _) H (by change(u.plain&&t.plain)=gi;rw[pl,Nx]) (by change(u.led&&t.led)=_;rw[L,g,TU])
 .let%[k|hk]:=k2;let%[t',c,e1,e2,e3,e4,e5,W|P]:=_ST.laid_ok hk b2 d ⋯ u.finger u.moves _ _;let sz:(c.filterMap (d[·]?)).size=d.size:=by rw[<-Zb,P.length_eq,Zb]
  rw[e1];show Z2 ?_;change pw _ A (if((c.filterMap _).size != d.size)=gb then _ else pure _) _ E _;rw[hH (by simp[sz])];show Z3 (put _ t' P (show t'.fits _=gb from AG W (by rw[sz,e2];lia)) (by rw[e4,pl,Nx]) (by rw[e3,L,g,TU]))
 .rename_i y
  split at y<;> cases y
end
def bQ.nd(S:bQ w a ks h):ks.Nodup:=by
 let%[_,_,_,_,_,_,_,_,_,_,h|_]:=S;show h
section
#where
def vP(c:bQ w b f s.heap)(d:Q gb s):↥A (We (.ref b)) Q E s:=by
 let%[o,g,h,t,ss,e,a|_]:=c;show Z2 (NW (b:=gb) %[o,e|a.1] (by kernel_rfl) (Z3 d))
def mz(d:bQ w b e s.heap)(f:Q e.length s):↥A (Rt b) Q E s:=by
 let%[o,u,v,t,ss,g,h,i,a,j,l,m,y,n,p|c]:=d;let r:=by
  let q:=c8 a;rw[Z6,Zb,j.length_eq]at q;show q
 show Z2 (Oq g i n (Z3 (r▸f)))
def EZ(M:bQ w r ks s.heap)(N:bQ w b O s.heap)(ne:r≠b)(big:O\5<ks\5)(aj:ks\5<=900)
 (hQ:∀h' d ms,(∀c o,c≠r->s.heap.get? c>=o->h'.get? c>=o)->(∀x,x>ms↔x>ks/\x∉O)->bQ w r ms h'->Q () {s with heap:=h',drawn:=d}):↥A (P0 nm r (.ref b)) Q E s:=by
 unfold P0;rw[hH (by simpa using ne.symm)];show Z2 (vP N ?_);rw[hY rfl];show Z2 (Z3 (Z2 (mz N (Z2 (mz M ?_)))));rw[hH !_];let%[o,es,ep,t,ss,ho,al,hd,an,hp,aq,as,hb,hf,aR|ai]:=id N;let y:∀(s':jg) (Y:gf->jg->Prop),s'.heap.get? b>=o->Y ep s'->↥A (Uf b) Y E s':=λs' Y e q=>by
  unfold Uf;show Z2 (n7 e hd hf (Z3 q))
 show Z2 (y s _ ho (Z2 (vi (Z2 (uf N (λc i=>%[ks|(Xp i)▸M]) (λ_ e=>(nomatch e)) λzs d h1 pz k1 _=>Z2 ?_)))));rw[<-Rq];show gK (λxs _ s'=>∃f rest h',zs=f++rest/\xs=rest.map (hsE w)/\s'={s with heap:=h',drawn:=d}/\(∀c o,c≠r->s.heap.get? c>=o->h'.get? c>=o)/\∃ms,bQ w r ms h'/\∀x,x>ms↔x>ks/\x∉f\1) _ _ _
  %[[],zs,h1,rfl,rfl,rfl,λc o _ e=>k1 c o ∅ e,ks,M.keep λo e=>k1 r o ∅ e|by simp] ?_ ?_
 .intro x xs _ s' %[f,rest,h',T,ex,rfl,U,ms,S|g];cases rest with
  | nil=>cases ex
  | cons p rest=>
  rw[Yo]at ex;injection ex with ab ac
  subst ab;show Z2 (vi (xH (z:=p.1) (tk:=p.2) (s:={s with heap:=h',drawn:=d}) S λh2 bb sb S2=>Z2 ?_));unfold Ot;let B:∀c o,c≠r->s.heap.get? c>=o->h2.get? c>=o:=λc o i e=>(sb.2 c i).trans (U c o i e)
  show Z2 (y {s with heap:=h2,drawn:=d} _ (B b o ne.symm ho) ?_);rw[hH ∅];show Z3 (Z3 %[f++[p],rest,h2,by rw[T,Ze];rfl,ac,rfl,B,_,S2|λx=>?_]);rw[S.nd.mem_erase_iff,g,Zd,Yq,Yo,Vm,Yx,Oj]
  constructor
  .show λ⟨a,b,c⟩=>%[b,c|a]
  .show λ⟨b,c,a⟩=>%[a,b|c]
 .intro _ s' %[f,rest,h',T,ex,rfl,U,ms,S|g];obtain rfl:rest=[]:=by
   cases rest with
   | nil=>rfl
   | cons p rest=>cases ex
  rw[Zx]at T;let g:∀x,x>ms↔x>ks/\x∉O:=λx=>by rw[g,<-T,pz.mem_iff]
  let ae:ms\5≠0:=λe=>by
   let:=_ST.nodup_sub M.nd (m:=O) λx hx=>M5 λq=>by
    let:=(g x).mpr %[hx|q];rw[vu.mp e]at this;cases this
   lia
  let sub:=_ST.nodup_sub S.nd λx hx=>((g x).mp hx).1
  show Z3 ?_;let%[o2,j,aU,t2,a0,n,C,u,h,G,H,I,a1,J,L|v]:=id S;let hn:=by
   let q:=c8 h;rw[Z6,Zb,G.length_eq]at q;show q
  show Z2 (n7 n u J ?_);dsimp only
  split
  .rw[show Nr j.size=j.size*4 by unfold Nr;rw[hH !_]];show _ST.relay_w n u J ⋯ ⋯ λag t' P W l p m1 m2=>?_
   let sz:ag.size=j.size:=by rw[<-Zb,P.length_eq,Zb]
   let%[ts,r1|r2]:=cJ h (P\2);show hQ _ d ms (λc o i e=>((q7.update h' r _).2 c i).trans (U c o i e)) g (bQ.stored n C u r1 (r2.trans G) H (λe he=>I e (P.mem_iff.mp he)) ⋯ (AG W !_) (p▸L !_) (l▸v)).2
  .show Z3 (hQ h' d ms U g S)
def xI(a:Q (.ref ⇑s) (s>>>s.heap.push (cb w))):↥A (newSet (.type "set")) Q E s:=by
 show Z2 (Z2 (M0 (Z3 (MF a))))
def xJ(d:bQ w a ks s.heap)(e:Q (.type "set") s):↥A (Wg a) Q E s:=by
 let%[o,g,h,t,ss,f,c|_]:=d;show Z2 (NW (b:=gb) %[o,f|c.1] (by kernel_rfl) (Z3 e))
def Hc(n:bQ w a ks s.heap)(B:bQ w b H s.heap)(ab:ks\5<=900)
 (hQ:∀h' d ms,(∀c o,s.heap.get? c>=o->h'.get? c>=o)->(∀x,x>ms↔x>ks/\x∉H)->bQ w ⇑s ms h'->Q (.ref ⇑s) {s with heap:=h',drawn:=d}):↥A (QZ nm a (.ref b)) Q E s:=by
 let lt:∀{c:hW} {ls:ZB},bQ w c ls s.heap->c≠⇑s:=λ{c ls} h=>by
  let%[o,_,_,_,_,T|_]:=h;show Zs (Zu T)
 let I:∀c o,s.heap.get? c>=o->(s.heap.push (cb w)).get? c>=o:=λc o e=>Z7 _ e
 let U:(s.heap.push (cb w)).get? ⇑s>=cb w:=Zj _ rfl;let Y:=n.keep λo e=>I a o e
 let O1:=B.keep λo e=>I b o e
 unfold QZ;dsimp only;show Z2 (vP B ?_);rw[hH (!1)];show Z2 (Z3 ?_);rw[hH ∅,hY rfl];show Z2 (mz B (Z2 (mz n ?_)))
 generalize hG:s.heap.push (cb w)=G at I U Y O1
 split
 .show Z2 (N4 (Z2 ?_));unfold Wf;show Z2 (xJ n (Z2 (xI ?_)));rw[hG];show Z2 (Z3 (Z2 (EY (s:=(s>>>G)) Y U (wh (lt n)) ⋯ ⋯ λh1 sb R1=>Z3 ?_)));let k1:∀c o,s.heap.get? c>=o->h1.get? c>=o:=λc o e=>(sb.2 c (Zs (Zu e))).trans (I c o e)
  show Z2 (Z3 (Z2 (vi (EZ (s:=(s>>>h1)) R1 (B.keep λo e=>k1 b o e) (wh (lt B)) ⋯ ab λi d ms k2 v M=>Z3 (hQ i d ms (λc o e=>k2 c o (Zs (Zu e)) (k1 c o e)) v M)))))
 .show Z2 (xJ n (Z2 (xI ?_)));rw[hG];show Z2 (Z3 ?_);let%[o,es,ep,t,ss,T,aU,hd,a0,hp,a1,a2,hb,hf,a3|an]:=id Y;let J:∀(s':jg) (Q':gf->jg->Prop),s'.heap.get? a>=o->Q' ep s'->↥A (Uf a) Q' E s':=λs' Q' e q=>by
   unfold Uf;show Z2 (n7 e hd hf (Z3 q))
  show Z2 (J (s>>>G) _ T ?_);rw[hY rfl];show Z2 (vi (Z2 (uf (s:=(s>>>G)) Y (λc y=>?_) (λr e=>⟨by cases e;show wh (lt n),by cases e;show bQ.empty U⟩) λzs d h1 pz k1 r1=>Z2 ?_)))
  .simp only[Yu,X4,J5]at y;rcases y with rfl|rfl
   .show%[_|O1]
   .show%[_|bQ.empty U]
  rw[<-Rq];show gK (λxs _ s'=>∃f rest h',zs=f++rest/\xs=rest.map (hsE w)/\s'={s with heap:=h',drawn:=d}/\(∀c o,c≠⇑s->G.get? c>=o->h'.get? c>=o)/\∃ms,bQ w ⇑s ms h'/\ms\5<=f\5/\∀x,x>ms↔x>f\1/\x∉H) _ _ _
   %[[],zs,h1,rfl,rfl,rfl,(λc o y e=>k1 c o (λq=>y (Za q).symm) e),[],r1 _ rfl,Zi _|by simp] ?_ ?_
  .intro x xs _ s' %[f,rest,h',C,ex,rfl,g,ms,M,ml|v];cases rest with
   | nil=>cases ex
   | cons p rest=>
   rw[Yo]at ex;injection ex with ac L
   subst ac;let zl:zs\5=ks\5:=by rw[<-pz.length_eq,Z6]
   let pl:f\5<ks\5:=by rw[<-zl,C,Z9,Zr];lia
   rw[hY rfl];let l:∀(i:su) Qx,(∀c o,c≠⇑s->G.get? c>=o->i.get? c>=o)->Qx (.yield ⟨⟩) {s with heap:=i,drawn:=d}->↥A (Ot nm a ep>>= λ_=>pure (OX PUnit.unit)) Qx E {s with heap:=i,drawn:=d}:=λi Qx k2 q=>by
    show Z2 ?_;unfold Ot;show Z2 (J {s with heap:=i,drawn:=d} _ (k2 a o (lt n) T) ?_);rw[hH ∅];show Z3 (Z3 q)
   let mem:∀x,x>(f++[p])\1↔x>f\1\/x=p.1:=λx=>by rw[Zd,Yq,Yo,Vm,Yx]
   let%[o2,a4,a5,t2,a6,ae,aq,ag,m,N,as,O,ai,aj,aR|al]:=id O1;show Z2 (vi (Z2 (xG (ks:=H) (z:=p.1) (tk:=p.2) (g b o2 (lt B) ae) ag O ai aj λq q1 q2=>Z2 (Z3 ?_))));cases q with
   | none=>
     let hz:p.1∉H:=λz=>by
      let%[u|hu]:=(fk m).mpr (N.mem_iff.mpr z);let%[e,he|q3]:=Xq hu;show q1 rfl e he u q3
     rw[hY (by rfl)];show Z2 (l7 (z:=p.1) (tk:=p.2) M (by rw[show OQ=4096 from rfl];lia) λi bb sb M2=>Z3 ?_);let k2:=λc o y e=>(sb.2 c y).trans (g c o y e)
     show l i _ k2 %[f++[p],rest,i,by rw[C,Ze];rfl,L,rfl,k2,_,M2,?_|λx=>?_]
     .rw[Z9,Yi]
      split
      .lia
      .rw[Z9,Yi];lia
     .rw[mem];by_cases hx:x=p.1
      .subst hx;show%[λ_=>%[.inr rfl|hz]|λ_=>?_]
       split
       .rename_i h;show h
       .show Yt _ Zm
      .split
       .rw[v];show%[λh=>%[.inl h.1|h.2]|λh=>%[h.1.resolve_right hx|h.2]]
       .rw[Yq,Yx,v];show%[λh=>let h:=h.resolve_right hx;%[.inl h.1|h.2]|λh=> .inl %[h.1.resolve_right hx|h.2]]
   | some j=>
     let hz:p.1>H:=by
      let%[u|hu]:=q2 j rfl;show N.mem_iff.mp ((fk m).mp %[u|Xr %[_,Z8 hu|rfl]])
     rw[hH ∅];show Z3 (l h' _ g %[f++[p],rest,h',by rw[C,Ze];rfl,L,rfl,g,ms,M,by rw[Z9];lia|λx=>?_]);rw[v,mem];show%[λh=>%[.inl h.1|h.2]|λh=>%[h.1.resolve_right λe=>h.2 (e▸hz)|h.2]]
  .intro _ s' %[f,rest,h',C,ex,rfl,g,ms,M,ml|v];obtain rfl:rest=[]:=by
    cases rest with
    | nil=>rfl
    | cons p rest=>cases ex
   rw[Zx]at C;show Z3 (Z3 (hQ h' d ms (λc o e=>g c o (Zs (Zu e)) (I c o e)) (λx=>by rw[v,<-C,pz.mem_iff]) M))
end
def vQ:SY WR "set.__sub__"=fI m4.«frozenset.__sub__»:=RX (id':="frozenset.__sub__") (by kernel_rfl) rfl (!0) (by kernel_rfl)
section
variable{X:Cx}
abbrev E5(w:rM):R2:=λx y H Q=>asR x λa=>asR y λb=>∃ks,H a>=jk w a ks/\∃c,H b>=jk w b c/\ks\5<=900/\∀l ms,H l=fD->(∀x,x>ms↔x>ks/\x∉c)->ms.Nodup->Q (.ref l) (Qa H l (jk w l ms))
def Hd:OpR X (No .Sub) (E5 X.w):=by
 intro ff s z H x y v u Q I j l h;let%[a,rfl|m]:=aT h;let%[b,rfl,ks,n,A,p,e|q]:=aT m;cases j;cases l;let%[S,_|_]:=(I.hok a _ n)
 let%[O,_|_]:=(I.hok b _ p)
 let f:∀{c:hW} {ls:ZB},bQ X.w c ls s.heap->s.TypeIs (.ref c) _:=λ{c ls} h=>by
  let%[o,B,C,t,ss,g,i|_]:=h;show%[o,g|i.1]
 show wpAny_binaryOp_same (f S) (f O) F.fills_set_sub XW (MA XW (f S) vQ (Z2 (Z2 (Z3 (Z3 (Z2 (Z2 (vP S (vP O (Z2 (Z3 (Z2 (Hc S O e λh' d ms k r M=>Z3 %[_,rfl,by simp,.ref ⇑s,_,I.stoodS (o:=jk X.w ⇑s ms) (I.keptS k rfl rfl) (Zi _) %[M,?_|λ_ _ w k1=>bQ.keep w k1],rfl|q _ ms (I.hok.fresh (Zi _)) r M.nd])))))))))))) (F.args_set_sub_2 _ _));let%[o,_,_,_,_,g|_]:=M;show%[o|g]
def Kq(h:X.w=w):OpQ X (No .Sub) (E5 w):=by subst h;show⟨Hd⟩
end
def ip{X:Cx}(a:bW k X.A)(b:MU .NotIn o=gi)(hi:QE X i ty)(c:QE X o d):QT X (.Compare i [.NotIn] [o] pos) (tB (ve ty d)):=
 ⟨CZ (BO (by let:=a.units;lia) hi.h c.h) b⟩
open PySem PySem.Spec PyProof.Rows PySem.SeqAt
section
variable{X:Cx}
abbrev Kr:R2:=λx y H Q=>asR x λa=>asR y λb=>∃xs:ZB,H a<*xs\3/\H b<*xs\3/\Q (.bl gi) H
def Ks(J:X.A.units+64<Pa):OpR X (oT .NotEq) Kr:=by
 intro ff s L H x y v u Q I m o h;let%[a,rfl|d]:=aT h;let%[b,rfl,xs,p,w|q]:=aT d;cases m;cases o;let%[z,its,n,r,f|e]:=I.lstM p;let%[M,its2,B,C,c|l]:=I.lstM w;rw[Z6]at f c;show Ro (op:= .NotEq) %[_,e|rfl] %[_,l|rfl] Vd UO (Us _ _) (VC a b its.toArray its2.toArray n B fD fD #[] #[] (by rw[Zp,Zp,<-f,<-c]) λ_=>gb) %[e,l,λj d N=>?_,by simp,.bl gi,H,I,by simp[aY]|q] !_;rw[Zp,<-f]at d;let g:(xs\3)[j]?>=.str xs[j]:=by rw[Zl,Z4 d];rfl
 let%[u,E,t|rfl]:=r.get g;let%[O,i,G|rfl]:=C.get g;change EqAt _ _ its[j] its2[j] _;rw[(Xn E).2,(Xn i).2];let:=EqAt.str_str (A:=X.A.in1) (s:=s) xs[j] t xs[j] G;rwa[Pn]at this
def LX(a:bW k X.A):OpQ X (oT .NotEq) Kr:=⟨Ks a.units⟩
variable{K:ZA}{pos:Pos}
def af(i:gf){x:jz}(h:(X.N[i]?,X.env.scope.names.lookup x,x==("__debug__":jz),x==("__classdict__":jz))=(fI x,fI .local,gi,gi)):QE X (.Name x pos) (sw i):=by
 simp only[MW]at h;show vn i h.1 (.inl h.2.1) h.2.2.1 h.2.2.2
def a9(i:gf){x:jz}(h:(X.N[i]?,X.env.scope.names.lookup x,x==("__debug__":jz),x==("__classdict__":jz))=(fI x,fI .cell,gi,gi)):QE X (.Name x pos) (sw i):=by
 simp only[MW]at h;show vn i h.1 (.inr (.inl h.2.1)) h.2.2.1 h.2.2.2
def aG{mg:ZC}{j k:gf}{x:jz}{ps:ZB}{sp:Sp}{p:Pos}{e:tI}{a:fx tI}{t:TA}(C:Cal X.prog X.w K mg X.base j x ps sp)(b:bW k X.A)(h:(X.K,X.mg,X.env.kindOf x,P7 j k,x==("__debug__":jz),(e::a).any bu)=(K,mg,fI .globalImplicit,gb,gi,gi))(c:QA X (e::a) t):QE X (.Call (.Name x p) (e::a) [] pos) (tz sp [] E0 t):=by
 simp only[MW]at h;let%[rfl,rfl|h]:=h;show calE C b h.1 h.2.1 h.2.2.1 h.2.2.2 c
def LY{mg:ZC}{j k:gf}{x:jz}{ps:ZB}{sp:Sp}{p:Pos}{e:tI}{a:fx tI}{t:TA}(C:G3 X.prog X.w K mg X.base j x ps sp)(c:xz K mg x)(b:bW k X.A)(h:(X.K,X.mg,X.env.kindOf x,P7 (j+1) k,x==("__debug__":jz),(e::a).any bu)=(K,mg,fI .globalImplicit,gb,gi,gi))(d:QA X (e::a) t):QE X (.Call (.Name x p) (e::a) [] pos) (Ar (aS mg x) sp [] E0 t):=by
 simp only[MW]at h;let%[rfl,rfl|h]:=h;show LU C c b h.1 h.2.1 h.2.2.1 h.2.2.2 d
def ug{mg:ZC}{j k:gf}{x m:jz}{ps:ZB}{sp:Sp}{a:Pos}{o:tI}{b:TE}{pl:Sem on}(C:Cj X.prog X.w K mg X.base j x m ps sp)(c:xz K mg x)(e:bW k X.A)(h:(X.K,X.mg,P7 j k)=(K,mg,gb))
 (g:M9 (.Call (.Attribute o m a) [] [] pos) X.env=(do
  let d<-M9 o X.env
  Oy a.atName
  let(f,first)<-O7 [d] (Q5 d m pl)
  Uq pos f first (Nv pos (q0 [] X.env)) (Qj pos (Ol [] X.env)))) (i:QE X o b):QE X (.Call (.Attribute o m a) [] [] pos) (Aq (aS mg x) m sp [] E0 b BH):=by
 simp only[MW]at h;let%[rfl,rfl|h]:=h;show Kf C c e h g i
def cbO{x:jz}{id:MX}{r:fx V->Hp->VK->Prop}{p:Pos}{e:tI}{a:fx tI}{t:TA}(b:cj X (.builtin id) r)(c:X.mg x=fD)(d:Nz x>=.builtin id)(h:(X.env.kindOf x,x==("__name__":jz),x==("__debug__":jz),(e::a).any bu)=(fI .globalImplicit,gi,gi,gi))(f:QA X (e::a) t):QE X (.Call (.Name x p) (e::a) [] pos) (tCB r t):=by
 simp only[MW]at h;show cbE b h.1 c d h.2.1 h.2.2.1 h.2.2.2 f
def ctO{x:jz}{T:MX}{r:fx V->Hp->VK->Prop}{p:Pos}{e:tI}{a:fx tI}{t:TA}(b:cj X (.type T) r)(c:X.mg x=fD)(d:Nz x>=.type T)(h:(X.env.kindOf x,x==("__name__":jz),x==("__debug__":jz),(e::a).any bu)=(fI .globalImplicit,gi,gi,gi))(f:QA X (e::a) t):QE X (.Call (.Name x p) (e::a) [] pos) (tCB r t):=by
 simp only[MW]at h;show ctE b h.1 c d h.2.1 h.2.2.1 h.2.2.2 f
def bmO{o e:tI}{c:fx tI}{f:TE}{t:TA}{name:jz}{a b:Pos}{T id:MX}{r:V->fx V->Hp->VK->Prop}(g:Pp T)(slot:Slot T name id)(d:Qe (.builtin id)=pure (.type "method_descriptor"))(i:MtQ X id r)
 (h:(X.K,jh o,(e::c).any bu,XQ (e::c).length 30,a.endLine==b.line)=(K,gi,gi,gb,gb)) (j:QE X o f) (l:QA X (e::c) t):QE X (.Call (.Attribute o name a) (e::c) [] b) (tBM K T r f t):=by
 simp only[MW]at h;let%[rfl|h]:=h;show bmE rfl g slot d i h.1 h.2.1 h.2.2.1 h.2.2.2 j l
def aJ(i:gf){x:jz}{e:tI}{b:TE}{a:Pos}(c:X.N.Nodup)(h:(X.N[i]?,X.env.scope.names.lookup x,ii e)=(fI x,fI .local,gi))(d:QE X e b):QS X (.Assign [.Name x a] e pos) (uV b (kZ i)):=by
 simp only[MW]at h;show kR i c h.1 (.inl h.2.1) (.inr h.2.1) h.2.2 d
def aH(i:gf){x:jz}(a:X.N.Nodup)(h:(X.N[i]?,X.env.scope.names.lookup x)=(fI x,fI .local)):QG X (.Name x pos) (kZ i):=by
 simp only[MW]at h;show lW i a h.1 (.inl h.2) (.inr h.2)
#where
variable{x:hW}{C:hW}{name:jz}{v:hV}{ox:NV}
variable{o:tI}{value:tI}{nm:jz}{ta:TE}{tv:TE}{pos':Pos}
end
def vR(r:aQ xs us)(h:j<us.toArray.size):∃x,xs[j]?>=x/\aY x us.toArray[j]:=by
 let l:=h;let a:j<xs\5:= ~~~r▸l;let%[u,b|c]:=r.get (i:=j) (x:=xs[j]) ∅
 simp_all
section
#version
end
section
variable{X:Cx}
nonrec abbrev LZ:R2:=λx y H Q=>asR x λa=>asR y λb=>∃xs,H a<*xs/\H b<*[]/\Q (.bl (decide (xs=[]))) H
def Ku(w:X.A.units+64<Pa):OpR X (oT .Eq) LZ:=by
 intro ff s z H x y v u Q I d f h;let%[a,rfl|g]:=aT h;let%[b,rfl|i]:=aT g;let%[xs,o,p|q]:=i;cases d;cases f;let%[us,d,m|_]:=I.list (Qb.of o);let%[vs,f,n|_]:=I.list (Qb.of p);obtain rfl:vs=[]:=vu.mp f.length.symm;by_cases l:xs=[]
 .subst l;obtain rfl:us=[]:=vu.mp d.length.symm;let c:=RcAt.lists (A:=X.A) (e:=λ_=>gb) m.isList n.isList rfl ⋯ λj r B=>lr r (X3 _)
  show c _ _ _ _ %[.bl _,H,I,rfl|q]
 .rw[Zh l]at q;let c:=RcAt.lists_lengths (A:=X.A) m.isList n.isList (by
   let:us\5≠0:= ~~~d▸λq=>l (vu.mp q)
   simpa using this) !_
  show c _ _ _ _ %[.bl _,H,I,rfl|q]
def dinE(a:bW k X.A)(b:MU .In o=gi)(hi:QE X i ty)(c:QE X o d):QE X (.Compare i [.In] [o] pos) (GD ty d):=⟨IF (DC (by let:=a.units;lia) hi.h c.h) b⟩
def Ic(a:bW k X.A):OpQ X (oT .Eq) LZ:=⟨Ku a.units⟩
end
def qU:∀{zs:ZB} {its:ZF},aQ (zs\3) its->ReadsAll h its (zs.map Px) []
 |[],_,.nil=> .nil
 | z::zs,_,.cons r v=>by
   let%[t|rfl]:=r;show .cons (.str _ _) (qU v)
abbrev qV(p:hW×ZB):J0:= .tuple (p.2.map Px)
def qW{X:Cx}(I:Qc X ff g H s):∀{ss:ZG} {its:ZF},aP H ss->aQ (ss\0) its->∃as,ReadsAll s.heap its (ss.map qV) as
 |[],_,_,.nil=>%[_|.nil]
 | p::ss,_,t,.cons r v=>by
   cases r;let%[us,a,%[%[cls,h,data|i],b,c,n|d]|_]:=I.tuple (SqT.of (t p (Zm ..)).2);let%[bs|e]:=qW I (λq f=>t q (Zk _ f)) v;show%[_|.cons (.tuple b c d (qU a)) e]
def zT(zs:ZB):Py (zs.map Px)=gb/\PQ (zs.map Px)=gi/\Qn (zs.map Px)=0:=by
 induction zs with
 | nil=>show%[ρ,ρ|ρ]
 | cons z zs a=>simp only[Yo,Py,PQ,Qn,a.1,a.2.1,a.2.2];show%[ρ,ρ|ρ]
def zU{zs:ZB}(h:∀z>zs,z\5<=30/\∀c>z.cps.toList,c<16^8):OL 8 (zs.map Px)=gb/\P6 (zs.map Px)<=31* ~~~zs:=by
 induction zs with
 | nil=>show%[ρ|Zi _]
 | cons z zs d=>
   let%[a|b]:=d λy e=>h y (Zk _ e)
   let%[l|c]:=h z (Zm ..);simp only[Yo,OL,P6,Th,a,Zr,on.and_true];let:z\5=z.cps.size:=rfl;show%[N3.mpr λx f=>Zf (c x f)|!_]
def zV{ss:fx _}(h:∀p>ss,p.2\5<=3/\∀z>p.2,z\5<=30/\∀c>z.cps.toList,c<16^8):Py (ss.map qV)=gb/\PQ (ss.map qV)=gi/\Qn (ss.map qV)<=1/\OL 8 (ss.map qV)=gb/\P6 (ss.map qV)<=94* ~~~ss:=by
 induction ss with
 | nil=>show%[ρ,ρ,Xg _,ρ|Zi _]
 | cons p ss f=>
   let%[a,b,c,d|e]:=f λy g=>h y (Zk _ g)
   let%[l|z]:=h p (Zm ..);let%[i,j|m]:=zT p.2;let%[g1|g2]:=zU z;simp only[Yo,qV,Py,Vt,PQ,VE,Qn,Wl,OL,UG,P6,Th,i,j,m,g1,Zr];show%[a,b,!_,d|!_]
section
#version
def E7{k:ZB}{x:V}{j:gf}(h:(k\3)[j]?>=x):∃z,k[j]?>=z/\x= .str z:=by
 rw[Zl]at h;let%[z,e|rfl]:=zz.mp h;show%[z,e|ρ]
def xK{k l:ZB}(h:k\3=l\3):k=l:=(fx.map_inj_right λ_ _=>V.str.inj).mp h
def E8(I:Qc X ff σ H s){A:ri}{a b:hW}{k l:ZB}(g:H a&&&k\3)(f:H b&&&l\3)(q:A.units<Pa):EqAt A s (.ref a) (.ref b) (decide (k=l)):=by
 by_cases e:a=b
 .subst e;rw[g]at f;rw[Zf (xK (HO.tup.inj (Za f)))];show EqAt.same _
 .let%[us,m,r|_]:=I.tuple (SqT.of g);let%[vs,n,v|_]:=I.tuple (SqT.of f);let d:=RcAt.tuples r v q λj o p=>by
   let%[x,ex|w]:=vR m o;let%[y,B|C]:=vR n p;let%[z,E|rfl]:=E7 ex;let%[u,G|rfl]:=E7 B;let:=Dv (A:=A.in1) (s:=s) w C rfl rfl;rw[show eqV _ _=decide (k[j]? =l[j]?) by rw[E,G];change(z==u)=_;by_cases c:z=u<;> simp[c]]at this;show this
  rw[show((kj _).all _&&us.toArray.size==vs.toArray.size)=decide (k=l) by
   rw[Zp,Zp,<-m.length,<-n.length,N1,Zv,N3,NC];show%[λ⟨o,p⟩=>PY λi=>?_|λh=>by lia]
   grind]at d
  show EqAt.of_refs e d
end
section
variable{X:Cx}
nonrec abbrev AH:R2:=λx y H Q=>asR x λa=>asR y λp=>∃(k:ZB),H a&&&k\3/\∃(ws:ZG),H p>=.lst (ws\0)/\(∀t>ws,H t.1&&&t.2\3)/\k>ws\2/\Q (.bl gi) H
open Classical in
def Cu(i:X.A.units+64<Pa):OpR X (oT .NotIn) AH:=by
 intro ff s G H x y v u Q I l m h;let%[a,rfl|c]:=aT h;let%[p,rfl|d]:=aT c;let%[k,n,ws,o,hw,w|q]:=d;cases l;cases m;let%[us,r,pl|_]:=I.list (Qb.of o);let of:∀y>us,∃t>ws,y= .ref t.1:=λy f=>by
  let%[j,g|rfl]:=Qi f;let%[x,ex|rr]:=vR r (g);rw[Zl]at ex;let%[t,b|rfl]:=zz.mp ex;show%[t,Z8 b|(rr)]
 show notIn_listAt (λv=>decide (∃t>ws,v= .ref t.1/\t.2=k)) pl.isList (λy f=>?_) %[.bl gi,H,I,?_|q]
 .let%[t,b|rfl]:=of y ↑f;let:=E8 I (A:=X.A.in1) (hw t b) n !_;rw[show decide _=decide (t.2=k)from ?_]
  .show this
  .rw[N1,NC,NC];show%[λ⟨t',z,B,C⟩=>?_|λh=>%[t,b,ρ|h]];let e:=hw t' z;rw[<-U4 B,hw t b]at e;rw[<-C,xK (HO.tup.inj (Za e))]
 .let%[t,b|e]:=Xq w;let%[j|g]:=Xh b;let%[u,i|E]:=r.get (by rw[Zl,g];rfl);cases E;rw[show us.toArray.any _=gb from ?_]
  .rfl
  .rw[fx.any_toArray,TK];show%[_,Z8 i|Zf %[t,b,ρ|e]]
def E9(a:bW k X.A):OpQ X (oT .NotIn) AH:=⟨Cu a.units⟩
end
noncomputable abbrev Cx.tryV(X:Cx)(pn:ZE)(E:St->XK):Cx:={X with pn:=pn,xe:=λe s'=>∃ff a H s,Qc ({X with pn:=pn}) ff a H s/\CXO X.prog X.w X.stack H s (E a) e s'}
abbrev Ie(CX:CXT)(X:Cx)(E:St->XK):Prop:=∀ff (a:St) H s e s',Qc X ff a H s->CX X.stack H s (E a) e s'->X.xe e s'
def uh{X:Cx}:Ie (CXO X.prog X.w) (X.tryV pn E) E:=by
 intro ff a H s e s' I %[b,B,cls,c,d,rfl,F|q];show%[ff,a,H,s,%[LH I.ok _ _,I.os,I.bare,I.base,I.loc,I.cell,I.free,I.freeC,I.pin,I.hok|I.len],b,B,cls,c,d,ρ,F|q]
abbrev Ig(K:ZA)(D:hW)(E:St->XK)(len i:gf)(f ts:TS):TS:=λe g H=>f e g H/\∀b cls d c,E b cls d c->∃C,cls= .ref C/\RS K (.ref C) (.ref D)>=gb/\
 ∀a,b\5=len->c a=fD->ts (e.gone i) (b.set i (fI (.ref a))) (Qa c a (ExH a C d))
def He{X:Cx}{D:hW}(j:X.stack=X.env::X.outer)(hf:X.env.frame>=X.env.locals)(hN:X.N.Nodup)(hi:X.N[i]?>=n)
 (hk:X.env.kindOf n>=.local) (hl:X.env.scope.names.lookup n>=.local) (hg:Gl X x) (hm:X.mg x>=.ref D) (c:Cat X.K D) (l:∀pn,PSs (X.tryV pn E) G tb) (g:∀a,PSs (X.suiteX a) (L::m) ts)
 (ab:(x==("__debug__":jz))=gi):
 PS X (.Try G [.ExceptHandler (fI (.Name x p)) (fI n) (L::m) M] [] [] pos) (Ig X.K D E X.N.length i tb ts):=by
 intro ff s σ H Dn I %[h1|h2];show XB (ME (l _ [] s σ H Dn (I.toPn _) h1) (λf s1 q=>?_) λe s1 q=>?_)
 .let q':=SP.ofPn q;cases f with
  | next=>show Ox q'
  | brk=>show q'
  | cont=>show q'
  | ret u=>show q'
 .let%[ac,ae,H1,s2,I1,y,B,cls,dx,H',rfl,F|qE]:=q;let%[C,rfl,N|ag]:=h2 ae cls dx H' qE;show Ax (.inr rfl) (j▸I.ok.frames) hf (j▸F).up λha ua O=>vy ua λhb ub T=>?_
  let%[un|ai]:=F.fly ub.1 (O.trans T);let J:=(I1.call' (s':=(s1>>>hb)) F.os un ai F.bare λb z=>lr z ∅).ofPn;let%[_,_,_,oe,vs,eb,aj,aU,a0|_]:=id ub;show wpAny_handleBy_cons (codeAny_handlers_test (ig (J.toSuite y) hg hm (Ej J.kIn c.ty c.ex c.cd eb aj N (codeAny_handlers_suite_as (vy ub λhc uc al=>?_))) ab)) (by intro q;cases q);let%[an|U]:=F.fly uc.1 ((O.trans T).trans al);let%[_,_,_,oc,vc,ec,aq,as,aR|_]:=id uc;let Y:=I1.ofPn;show iM (v:= .ref y) (Y.stood3 (λ_ z=>z) ((I1.call' (s':=(s1>>>hc)) F.os an U F.bare λb z=>lr z ∅).ofPn) F.free F.new (ExH.ok ec aq as aR)) hN hi (.inl hl) rfl (λs4 J4=>ME (g y ff s4 _ _ _ (J4.toSuite y) (ag y Y.len F.free)) (λf s5 q5=>?_) λ_ _ z=>z.elim) (.inr hl);let kW:∀{d:St} {A:Hp} {Q:S4->jg->Prop},Qc (X.suiteX y) ff d A s5->(∀s',Qc X ff _ A s'->Q () s')->
   (X⁻¹) (do SZ X.env n _;VQ X.env n M) Q X.xe s5:=λh h5=>GU (h.ofSuite I.ok) hN hi hk h5
  cases f with
  | next=>
    let%[d,A,h|o]:=q5;show kW h λs' w=>%[_,_,w|o]
  | brk=>
    let%[d,A,h|o]:=q5;show kW h λs' w=>%[_,_,w|o]
  | cont=>
    let%[d,A,h|o]:=q5;show kW h λs' w=>%[_,_,w|o]
  | ret u=>
    let%[v,d,A,h,r|o]:=q5;show kW h λs' w=>%[v,_,_,w,r|o]
def tryV{X:Cx}{D:hW}(E:St->XK)(f:X.stack=X.env::X.outer)(m:X.env.frame>=X.env.locals)(o:X.N.Nodup)(hi:X.N[i]?>=n)
 (q:X.env.kindOf n>=.local) (r:X.env.scope.names.lookup n>=.local) (s:Gl X x) (u:X.mg x>=.ref D) (c:Cat X.K D) (j:(x==("__debug__":jz))=gi) (d:∀pn,QSs (X.tryV pn E) g v) (b:∀a,QSs (X.suiteX a) (h::e) ts):
 QS X (.Try g [.ExceptHandler (fI (.Name x p)) (fI n) (h::e) l] [] [] pos) (Ig X.K D E X.N.length i v ts):=
 ⟨He f m o hi q r s u c (λpn=>(d pn).h) (λa=>(b a).h) j⟩
abbrev Kv(sp:Sp)(E:St->XK)(t:TA):TE:=λa H Q=>t a H λvs b=>sp vs b Q (E a)
def Ih{X:Cx}(w:Ie (CXO X.prog X.w) X E)(C:xg X.prog X.w X.K X.mg X.base j x ps sp)(y:bW k X.A)(z:Gl X x)(c:P7 j k=gb)
 (d:(x==("__debug__":jz))=gi) (g:(e::n).any bu=gi) (A:QA X (e::n) t):QE X (.Call (.Name x p) (e::n) [] pos) (Kv sp E t):=by
 rw[Zw,X6]at g;let%[f,M,F,B,G|J]:=C.ex;show⟨λff s i H Q I h=>N5 (ig I z B (Uo I.ok.mod.kin G (thP (A.h pos ff s i H _ I h) λus l vs m a r q=>%[a.kIn|?_]) (aE g.1) (ee g.2)) d)⟩;let o:=r.append .nil;let v:sp (vs++[]) m Q (E i):=by rw[Zx];show q
 show OH (codeAny_mono (F.run X.A X.stack l m _ _ _ Q _ (y.mono (Yc c)) a.env0 (J l us a.kIn (~~~o▸F.len _ _ _ _ v)) o v) λr s' b=>?_);cases r with
 | error e=>show w ff i m l e s' a b
 | ok L=>
   cases L with
   | ret u=>show a.after b
   | next=>show MJ b
   | brk=>show MJ b
   | cont=>show MJ b
abbrev sO(L:fx hW)(c:hW->NV)(H:Hp):Hp:=λb=>if b>L then(match H b with|fI (.dK a)=>fI (.frz (c b) (.dK a))|x=>x)else H b
def kH(h:b>L)(e:H b>=.dK a):sO L c H b>=.frz (c b) (.dK a):=by
 unfold sO;rw[hY h,e]
def j3(h:b∉L):sO L a H b=H b:=hH h
def ju(h:∀a,H b≠fI (.dK a)):sO L d H b=H b:=by
 unfold sO;by_cases c:b>L
 .rw[hY c];cases e:H b with
  | none=>rfl
  | some o=>cases o<;> first|rfl|show(h _ e).elim
 .rw[hH c]
section
variable{P:mu}{w:rM}{K:ZA}{mg:ZC}{base:su}{k:gf}{f:hW}{fd:Pd}{ps:ZB}{sp:Sp}
def Hf(x:HOk P w H h):HOk P w (sO L (λb=>(h.get? b).getD default) H) h:=by
 intro b o e;let st:∀{b:hW} {o:HO},ci P w H h b o->ci P w (sO L (λb=>(h.get? b).getD default) H) h b o:=λq=>q.stay (λ_ _ _ q=>q) (λc q=>by rw[ju (λa z=>by lia)];show q) λc xs q=>by rw[ju (λa z=>by rw[q]at z;cases z)];show q
 by_cases c:b>L
 .by_cases d:∃a,H b>=.dK a
  .let%[a|d]:=d;rw[kH c d]at e;cases e;let%[i|g]:=(x b _ d).there;show%[by rw[g];rfl|st (x b _ d)]
  .rw[ju (λa z=>d %[a|z])]at e;show st (x b o e)
 .rw[j3 c]at e;show st (x b o e)
def Kw(u:Un fs [] H c h h'):Un fs [] H (sO L g c) h h':=by
 show%[u.keep,u.slot,λb o e n d=>?_,u.there,λb xs e=>?_,λb o v e=>?_|λb q e=>?_]
 .let:=u.free b o e n d;rw[ju (λa z=>by lia)];show this
 .let:=u.tups b xs e;rw[ju (λa z=>by rw[this]at z;cases z)];show this
 .let:=u.frzs b o v e;rw[ju (λa z=>by rw[this]at z;cases z)];show this
 .let%[m|this]:=u.tbls b q e;show%[m|by rw[ju (λa z=>by rw[this]at z;cases z)];show this]
def d8.freeze(F:d8 P w K mg base CX0 k f fd ps sp):d8 P w K mg base CX0 k f fd ps (λvs H Q E=>sp vs H (λv b=>∃L,∀c,Q v (sO L c b)) E):=by
 show%[λvs H Q E=>F.len vs H _ E|λA outer s H args us vs Q E d g h i j=>codeAny_mono (F.run A outer s H args us vs _ E d g h i j) λr s' a=>?_];cases r with
 | error e=>show a
 | ok l=>
   cases l with
   | ret u=>
     let%[v,z,m,n,o,p,q,L|y]:=a;show%[v,_,m,n,Kw o,Hf p,q|y _]
   | next=>show a
   | brk=>show a
   | cont=>show a
def d8.frozen(F:d8 P w K mg base CX0 k f fd ps sp):d8 P w K mg base CX0 k f fd ps (λvs H Q E=>∃d a,vs\5=ps\5/\H d>=.dK a/\∀o,sp vs (Qa H d (.frz o (.dK a))) (λv L=>Q v (Qa L d (.dK a))) E):=by
 show%[λvs H Q E ⟨d,a,l,_⟩=>l|λA outer s H args us vs Q E M g B N ⟨d,a,_,C,O⟩=>?_];let%[o|T]:=(g.hok d _ C).there;let h:∀{b:hW},H b=fD->b≠d:=λe z=>by rw[z,C]at e;cases e
 let ne:∀{b:hW} {u:HO},H b>=u->(∀q,u≠ .dK q)->b≠d:=λe n z=>by rw[z,C]at e;cases e;show n _ rfl
 let st:∀{b:hW} {u:HO},ci P w H s.heap b u->ci P w (Qa H d (.frz o (.dK a))) s.heap b u:=λq=>q.stay (λ_ _ _ q=>q) (λc q=>(ar (ne q λ_ z=>nomatch z))▸q) λc xs q=>(ar (ne q λ_ z=>nomatch z))▸q
 let G:zb P w K mg base A outer s (Qa H d (.frz o _)):=⟨g.frames,g.mod,λb i e=>%[(g.bs b i e).1|by rw[ar (h (g.bs b i e).2)];show(g.bs b i e).2],g.bsz,g.funs,λb B=>by rw[ar (h (g.frf b B))];show g.frf b B,λb u e=>by
  by_cases c:b=d
  .subst c;rw[aa]at e;cases e;show%[T|st (g.hok b _ C)]
  .rw[ar c]at e;show st (g.hok b u e),g.bare⟩
 show codeAny_mono (F.run A outer s _ args us vs _ E M G B N (O o)) λr s' m=>?_
 cases r with
 | error e=>show m
 | ok U=>
   cases U with
   | next=>show m
   | brk=>show m
   | cont=>show m
   | ret u=>
     let%[v,I,Y,h2,j,J,h5|h6]:=m;let hf:=j.frzs d o _ aa;let p:∀{b:hW} {u:HO},I b>=u->(∀o q,u≠ .frz o q)->b≠d:=λe n z=>by grind
     let y:∀{b:hW} {u:HO},ci P w I s'.heap b u->ci P w (Qa I d (.dK a)) s'.heap b u:=λq=>q.stay (λ_ _ _ q=>q) (λc q=>(ar (p q λ_ _ z=>nomatch z))▸q) λc xs q=>(ar (p q λ_ _ z=>nomatch z))▸q
     show%[v,_,Y,h2,%[λb i e n=>j.keep b i e ((ar (h n))▸n),λb i e n=>j.slot b i e ((ar (h n))▸n),λb i e n hx=>?_,j.there,λb xs e=>?_,λb i u e=>?_|λb q e=>?_],λb u e=>?_,h5|h6]
     .rw[ar (h n)];show j.free b i e ((ar (h n))▸n) hx
     .let n:=ne e λ_ z=>nomatch z
      rw[ar n];show j.tups b xs ((ar n)▸e)
     .let n:=ne e λ_ z=>nomatch z
      rw[ar n];show j.frzs b i u ((ar n)▸e)
     .let n:=ne e λ_ z=>nomatch z
      rw[ar n];show j.tbls b q ((ar n)▸e)
     .by_cases c:b=d
      .subst c;rw[aa]at e;cases e;show y (J b _ hf).2
      .rw[ar c]at e;show y (J b u e)
end
abbrev Itk(d:hW)(o:NV)(a:fx (Key×V)):It:=⟨λi H=>H d>=.frz o (.dK a)/\i<a\5,λi H x b=>b=H/\∃k v,a[i]?>=(k,v)/\x=kV k,λi H=>H d>=.frz o (.dK a)/\a\5<=i⟩
abbrev uk(c:TE):TI:=λe H R=>c e H λv b=>∃d o a,v= .ref d/\b d>=.frz o (.dK a)/\R (Itk d o a) b
def AI(h:kX k v=gb):aY (kV k) v:=by
 rcases bA h with⟨i,t,rfl,rfl⟩|⟨x,t,rfl,rfl⟩
 .show%[t|ρ]
 .show%[t|ρ]
def Fa{a:fx _}{vs:fx _}(r:KV a vs){i:gf}{k:Key}{v:V}(e:a[i]?>=(k,v)):∃u,vs[i]?>=(k,u)/\aY v u:=by
 induction r generalizing i with
 | nil=>cases e
 | @cons p q ps qs b t c=>
   cases i with
   | zero=>
     obtain rfl:p=(k,v):=Za e;show%[q.2,by rw[show k=q.1 from b.1];rfl|b.2]
   | succ i=>show c e
def j4(r:KV a vs):a\5=vs\5:=by
 induction r with
 | nil=>rfl
 | cons _ _ b=>simp_all
section
variable{P:mu}{w:rM}{K:ZA}{tg:tI}
def vS{X:Cx}(I:Qc X ff p H s)(e:H d>=.frz o (.dK a))(b:o.data= .dict h i):∃vs,KV a vs/\s.heap.DictAt (aM X.prog X.w) d vs i:=by
 let%[g,q,u,vs,r,v,j,l,c,m,f|n]:=I.hok d _ e;rw[g]at c;cases c;rw[b]at f;cases f;show%[vs,r,_,h,g,m,b|n]
def Fb(d it:hW)(o:NV)(kvs:fx _):sE P w K tg (Itk d o kvs) [it] it (λi h=>∃es ep,o.data= .dict es ep/\h.IsKeyIter it d i kvs.length ep) where
 mem:=by simp
 obj:=λi h st b hb=>by
  let e:=↑hb
  subst e;let%[_,_,_,o,e,c|d]:=st;show%[o,e|λv z=>by rw[d]at z;cases z]
 keep:=λi h h' ⟨es,ep,ho,st⟩ k=>%[es,ep,ho|st.at λo e=>k it ∅ o e]
 item:=by
  intro X hP hw hK hc i ff s σ H E I hf st hg;subst hP hw hK;let%[es,ep,ho|st]:=st;let%[hd|hi]:=hg;let%[vs,r|da]:=vS I hd ho;let ln:=j4 r;let%[u,hu|ru]:=Fa r (Z4 hi);let%[f0,f1,f2,f3,f4|f5]:=hf it ∅;rw[ln]at st;show wpAny_pyNext_dict_item st da hu λkey h' hk st' sb=>?_
  rw[<-ln]at st';let%[o',e,c|dd]:=id st';show%[key,ρ|wE e c dd (!1) %[_,H,(I.turned (λb o hb e=>(sb.2 b hb).trans e) f0 f1 f3 f4 f5),AI hk,%[ρ,_,_,Z4 hi|ρ],%[es,ep,ho|st']|λb hb=>(hf b hb).1]]
 done:=by
  intro X hP hw hK hc i ff s σ H E I hf st hg;subst hP hw hK;let%[es,ep,ho|st]:=st;let%[hd|hi]:=hg;let%[vs,r|da]:=vS I hd ho;let ln:=j4 r;let%[f0,f1,f2,f3,f4|f5]:=hf it ∅;rw[ln]at st;show wpAny_pyNext_dict_end (I.ok.hd hc) st da (Xm !_) λh' eb=>%[rfl|I.turned (λb o hb e=>eb b o hb e) f0 f1 f3 f4 f5]
 self:=λ_ _ _ _ _ ⟨_,_,_,st⟩ h=>VO st h
def Hg{X:Cx}(p:PE X l u):PI X tg l (uk u):=by
 intro ff s y H R I h;show thP (p ff s y H _ I h) λv c x z a A B=>?_
 let%[d,o,f,e,C|q]:=B;subst e;cases A;let%[g,O,E,vs,r,G,j,m,i,J,n|L]:=a.hok d _ C;let M:c.heap.DictAt _ d vs m:=%[G,j,i,J,n|L]
 rw[g]at i;cases i;show wpAny_pyIter_dict E M %[⇑c,[⇑c],_,_,z,rfl,a.kept λb o e=>Z7 _ e,Fb d _ o f,%[j,m,n,_,Zj _ rfl,rfl|by rw[j4 r];rfl],λb N=>?_|q];let e:=↑N
 subst e;show a.fpOk (Zi _) (a.hok.fresh (Zi _))
def AJ{X:Cx}(a:QE X l b):QI X tg l (uk b):=⟨Hg a.h⟩
end
abbrev Iti(d:hW)(o:NV)(a:fx (Key×V)):It:=⟨λi H=>H d>=.frz o (.dK a)/\i<a\5,λi H v b=>∃k x T,a[i]?>=(k,x)/\H T=fD/\v= .ref T/\b=Qa H T (.tup [kV k,x]),λi H=>H d>=.frz o (.dK a)/\a\5<=i⟩
abbrev vT(c:TE):TI:=λe H R=>c e H λv b=>asR v λd=>∃o a,b d>=.frz o (.dK a)/\R (Iti d o a) b
def vU:SY WR "dict_itemiterator.__iter__"=fI m4.«dict_keyiterator.__iter__»:=
 RX (id (YJ (fastTable "dict_itemiterator.__iter__"))) (YJ ("dict_itemiterator.__iter__".cutAt '#')) (!0) (id (YJ (fastTable "dict_keyiterator.__iter__")))
section
variable{P:mu}{w:rM}{K:ZA}{elts:fx tI}{kt:gf}{tp:Pos}
def zW(d it:hW)(o:NV)(kvs:fx (Key×V)):sE P w K (.Tuple elts kt tp) (Iti d o kvs) [it] it (λi h=>∃es ep ok ov,o.data= .dict es ep/\IsItemIter h it d i kvs.length ep ok ov) where
 mem:=by simp
 obj:=λi h st b hb=>by
  let e:b=it:=↑hb
  subst e;let%[_,_,_,_,_|e]:=st;show%[_,e|λv z=>nomatch z]
 keep:=λi h h' ⟨es,ep,ok,ov,ho,st⟩ k=>%[es,ep,ok,ov,ho|k it ∅ _ st]
 item:=by
  intro X hP hw hK hc i ff s σ H E I hf st hg;subst hP hw hK;let%[es,ep,ok,ov,ho|st]:=st;let%[hd|hi]:=hg;let%[vs,r|da]:=vS I hd ho;let ln:=j4 r;let%[u,hu|ru]:=Fa r (Z4 hi);let ilt:it<⇑s:=Zu st;rw[ln]at st;show wpAny_pyNext_items_item st da hu λkey h1 hk st1 ht1 hz1 hk1=>%[_,rfl|wpAny_letOwnedTupleGo_items (s:=(s>>>h1)) st1 λh2 st2 sb2=>?_]
  replace sb2:q7 it h1 h2:=sb2;let kk:∀b o,b∉[it]->s.heap.get? b>=o->h2.get? b>=o:=λb o hb q=>by
   let hb:b≠it:=↑hb
   show(sb2.2 b hb).trans (hk1 b o hb q)
  let J:Qc X ff σ H (s>>>h2):=I.moved hf kk;let hT:=(sb2.2 _ (Yy ilt)).trans ht1;let I2:Qc X ff σ (Qa H ⇑s (.tup _)) _:=
   I.stood J (Zi _) %[by change 2<=iv;decide,[key,u],.cons (AI hk) (.cons ru .nil),_,hT,rfl,_|rfl]
  rw[<-ln]at st2;show%[.ref ⇑s,_,I2,ρ,%[_,_,_,Z4 hi,I.fresh,ρ|ρ],%[es,ep,_,_,ho|st2]|λb hb=>?_];rw[ar (↑hb▸Zs ilt)];show(hf b hb).1
 done:=by
  intro X hP hw hK hc i ff s σ H E I hf st hg;subst hP hw hK;let%[es,ep,ok,ov,ho|st]:=st;let%[hd|hi]:=hg;let%[vs,r|da]:=vS I hd ho;let ln:=j4 r;rw[ln]at st;show wpAny_pyNext_items_end (I.ok.hd hc) st da (Xm !_) λh1 xb=>%[rfl|I.moved hf λb o hb q=>?_]
  show xb b o ↑hb q
 self:=λA i s Q E ⟨_,_,_,_,_,st⟩ h=>by
  let hT:s.TypeIs (.ref it) _:=%[_,st|rfl]
  show Qr hT PySem.F.slot_dict_itemiterator_iter (MA PySem.F.slot_dict_itemiterator_iter hT vU (Z3 %[.ref it,rfl,"dict_itemiterator",_,hT,PySem.F.slot_dict_itemiterator_next.lookup|h]) (PySem.F.args_dict_itemiterator_iter_1 _))
def vV{X:Cx}(n:jh o=gi)(c:(i.endLine==j.line)=gb)(M:QE X o N):QI X (.Tuple elts kt tp) (.Call (.Attribute o "items" i) [] [] j) (vT N):=by
 show⟨λff s C H R I h=>?_⟩;show U2 (ik n) c (thP (M.h ff s C H _ I h) λv a x p l O Q=>?_);let%[d,rfl|u]:=aT Q;let%[y,f,z|q]:=u;cases O;let g:cZ p d (kV (.inr y2)) (bD f (.inr y2)):= .inl %[f,_,.inr %[y|z],rfl|rfl];show%["dict",_,OA,PySem.F.slot_dict_items,PySem.F.type_dict_items,oK l g,wJ l g|Qq rfl (PySem.evalArgs_none ?_)];let%[hz,T,vs,r|E]:=qg l.hok (.inr %[y|z]);show PZ PySem.F.slot_dict_items E.typeIs PySem.F.entry_dict_items (PySem.F.args_dict_items_1 _) (meets_dict_items (aM X.prog X.w) d T) %[%[vs|E]|?_];let m:Qc X ff C p {a with heap:=a.heap.push {cls:= .type "dict_items",data:= .fields #[.ref d]}}:=l.kept (t':=a.toks) λb o e=>Z7 _ e
 let%[U,_,_,A,Y,o',G,J,B,h1,L|h3]:=m.hok d _ z;let da:su.DictAt (aM X.prog X.w) (a.heap.push {cls:= .type "dict_items",data:= .fields #[.ref d]}) d A J:=%[o',G,B,h1,L|h3]
 rw[U]at B;cases B;show wpAny_pyIter_items (s:={a with heap:=a.heap.push {cls:= .type "dict_items",data:= .fields #[.ref d]}}) %[_,Zj _ rfl,rfl|rfl] da ?_;show%[_,[_],_,_,p,ρ,(m.kept (t':=a.toks) λb o e=>Z7 _ e),zW d _ y f,%[G,J,_,_,L|by rw[j4 Y];show Zj _ rfl],λb n=>?_|q];let e:b=(a.heap.push {cls:= .type "dict_items",data:= .fields #[.ref d]}).objs.size:=↑n
 subst e;show m.fpOk (Zi _) (m.hok.fresh (Zi _))
end
section
variable{X:Cx}
def L4:MtQ X "list.pop" Lq:=⟨Jv⟩
abbrev L5:V->fx V->Hp->VK->Prop:=λx vs H Q=>asR x λa=>cP vs λy=>asR y λb=>∃c more,a≠b/\H a>=.dK c/\H b>=.dK more/\c\5+more\5<=iv/\Q .non (Qa H a (.dK (iD c more)))
def Kx:MtM X "dict.update" L5:=by
 intro ff s E H x vs v us Q I m n h;let%[a,rfl|o]:=aT h;let%[_,rfl|p]:=bJ o;let%[b,rfl,r,more,ne,g,w,i|q]:=aT p;cases m;let%[u,rfl|y]:=n.one;cases y;let%[z,A,vs,d|j]:=lR I.hok g;let%[G,e,ms,c|f]:=lR I.hok w;show PZ XF j.typeIs PySem.F.entry_dict_update (PySem.F.args_dict_update_2 _ _) (meets_dict_update _ a b ne e) %[vs,ms,j,f,by rw[<-j4 d,<-j4 c];show i|λh' l J B=>%[.non,_,lS I (g▸MK) B (let⟨q,_,_,C,_⟩:=l;%[q|C]) (qj (lx (iE _ _) i) A (KV.merge c d) l),rfl|q]]
def xM:MtQ X "dict.update" L5:=⟨Kx⟩
abbrev Ii:V->fx V->Hp->VK->Prop:=λx vs H Q=>asR x λa=>cP vs λy=>∃k,y=kV k/\∃b,H a>=.dK b/\Q ((bD b k).getD .non) H
def Hh:MtM X "dict.get" Ii:=by
 intro ff s l H x vs v us Q I f g h;let%[a,rfl|h]:=aT h;let%[_,rfl,k,rfl,b,e|q]:=bJ h;cases f;let%[m,rfl|i]:=g.one;let%[z,j,vs,c|d]:=lR I.hok e;show PZ UM d.typeIs PySem.F.entry_dict_get (PySem.F.args_dict_get_2 _ _) (meets_dict_get _ a (lQ i) j) %[_,d.mapOf,(bD b k).getD .non,H,I.tok _,(c.val k).getD rfl|q]
def Ky:MtQ X "dict.get" Ii:=⟨Hh⟩
end
def Cal.freeze{P:mu}{K:ZA}(C:Cal P w K mg base k x ps sp):Cal P w K mg base k x ps (λvs H Q E=>sp vs H (λv a=>∃L,∀b,Q v (sO L b a)) E):=by
 let%[f,c,F|r]:=C.ex;show%[f,c,F.freeze|r]
def Cal.imp{P:mu}{K:ZA}(C:Cal P w K mg base k x ps sp)(h:∀vs H Q E,a vs H Q E->sp vs H Q E):Cal P w K mg base k x ps a:=by
 let%[f,b,F|r]:=C.ex;show%[f,b,F.imp h|r]
def Cal.frozen{P:mu}{K:ZA}(C:Cal P w K mg base k x ps sp):Cal P w K mg base k x ps (λvs H Q E=>sp vs H Q E\/∃d a,vs\5=ps\5/\H d>=.dK a/\∀o,sp vs (Qa H d (.frz o (.dK a))) (λv i=>Q v (Qa i d (.dK a))) E):=by
 let%[f,j,F|r]:=C.ex;show%[f,j,%[λvs H Q E h=>h.elim (F.len vs H Q E) (F.frozen.len vs H Q E)|λA outer s H args us vs Q E b c e g h=>h.elim (F.run A outer s H args us vs Q E b c e g) (F.frozen.run A outer s H args us vs Q E b c e g)]|r]
def Fc{a:fx (Key×V)}{g:TG}{n:TS}{D:iN}(Pv:gf->St->Hp->Prop)(s:Pv 0 b H)(u:∀i b H,i<=a\5->Pv i b H->H d>=.frz o (.dK a))
 (w:∀i k v b H,a[i]?>=(k,v)->Pv i b H->g (kV k) b H λc l=>n {D with nx:=Pv (i+1),ct:=Pv (i+1),bk:=D.nx} c l) (z:∀b H,Pv a.length b H->D.nx b H):
 ∃W:gf->gf->St->Hp->Prop,(∃m,W 0 m b H)/\∀i m b H,W i m b H->
  ((Itk d o a).stop i H/\D.nx b H)\/((Itk d o a).go i H/\∃N:St->Hp->Prop,(∀f h,N f h->∃r,r<m/\W (i+1) r f h)/\∀x h,(Itk d o a).yld i H x h->g x b h λc l=>n {D with nx:=N,ct:=N,bk:=D.nx} c l):=by
 show%[λi m b H=>m=a\5-i/\i<=a\5/\Pv i b H,%[a\5,by simp,Xg _|s]|?_];intro i m b H %[rfl,hi|p];let q:=u i b H hi p;by_cases j:i<a\5
 .show .inr %[%[q|j],Pv _,λf h A=>%[a\5-(i+1),!_,rfl,j|A]|λx h y=>?_];let%[e,k,v,y|rfl]:=y;subst e;show w i k v b _ y p
 .let e:i=a\5:=by lia
  subst e;show .inl %[%[q|Zi _]|z b H p]
def Cv{a:fx (Key×V)}{g:TG}{r:TS}{D:iN}(Pv:gf->St->Hp->Prop)(u:Pv 0 b H)(w:∀i b H,i<=a\5->Pv i b H->H d>=.frz o (.dK a))
 (z:∀i k v T b H,a[i]?>=(k,v)->Pv i b H->H T=fD->g (.ref T) b (Qa H T (.tup [kV k,v])) λc n=>r {D with nx:=Pv (i+1),ct:=Pv (i+1),bk:=D.nx} c n) (A:∀b H,Pv a.length b H->D.nx b H):
 ∃W:gf->gf->St->Hp->Prop,(∃m,W 0 m b H)/\∀i m b H,W i m b H->
  ((Iti d o a).stop i H/\D.nx b H)\/((Iti d o a).go i H/\∃N:St->Hp->Prop,(∀h j,N h j->∃s,s<m/\W (i+1) s h j)/\∀x j,(Iti d o a).yld i H x j->g x b j λc n=>r {D with nx:=N,ct:=N,bk:=D.nx} c n):=by
 show%[λi m b H=>m=a\5-i/\i<=a\5/\Pv i b H,%[a\5,by simp,Xg _|u]|?_];intro i m b H %[rfl,hi|p];let q:=w i b H hi p;by_cases l:i<a\5
 .show .inr %[%[q|l],Pv _,λh j B=>%[a\5-(i+1),!_,rfl,l|B]|λx j y=>?_];let%[k,v,T,y,f,rfl|rfl]:=y;show z i k v T b H y p f
 .let e:i=a\5:=by lia
  subst e;show .inl %[%[q|Zi _]|A b H p]
section
variable{X:Cx}
variable{prog:mu}{w:rM}{A:ri}{R:Tu->jg->Prop}{I S:hW}{fp wr:fx hW}{n:gf}{P:gf->hV->Prop}{St:gf->su->Prop}{val:gf->md}{kn:jz}{d:hV}
variable{e:tI}{v:tI}{te:TE}{tv:TE}{p:Pos}{pos:Pos}{kpos:Pos}
variable{K:ZA}
variable{s:jg}{E:ZD}
end
def L6{X:Cx}{K:ZA}(h:X.K=K)(m:X.calm=gb):cj X (.builtin "any") (λxs H Q=>cP xs λj=>asR j λp=>∃(bs:fx on),Qb K H p (bs.map V.bl)/\Q (.bl (bs.any id)) H):=by
 subst h;show⟨λ{ff s J H xs us Q} I r h=>?_⟩;let%[j,rfl|d]:=bJ h;let%[p,rfl|f]:=aT d;let%[bs,n|q]:=f;let%[u,rfl|w]:=dq r;cases w;let%[its,l,pl|L]:=I.list n;let y:p<⇑s:=by let%[o,z|_]:=pl.isList;show Zu z
 let a:bs\5=its.toArray.size:=by rw[Zp,<-l.length,Z6]
 show call_any_walk (Od pl.isList ?_);show%[⇑s,[⇑s,p],[⇑s],its.toArray.size,_,_,λi=>bs.getD i gi,ρ,Rz (A:=X.A.in1) (I.ok.hd m) _ p (Zs y) its.toArray,%[%[_,Zj _ rfl,ρ|ρ]|pl.isList.push _],?_|?_]
 .intro i v s' B M C c;let%[b,g|rfl]:=vf l ↑C;let c:B (bs.getD i gi) s':=c;rw[Zc,g]at c;show MR c
 .intro h' tk E;rw[<-a,show(kj bs.length).any _=bs.any id by
   let e:(kj bs.length).map (λi=>bs.getD i gi)=bs:=PH ∅ λi N G=>by simp[G]
   rw[show(kj bs.length).any _=((kj bs.length).map λi=>bs.getD i gi).any id by rw[any_map];rfl,e]]
  show%[.bl _,H,I.kept λb o e=>E b o (λg=>lr (Xp g) (Zs (Zu e))) (Z7 _ e),ρ|q]
def slSE{X:Cx}{K:ZA}{a:tI}{b:TE}{pos e:Pos}{lo hi:ij tI}{c d:TO}(_:X.K=K)(f:QE X a b)(g:QO X lo c)(h:QO X hi d):QE X (.Subscript a (.Slice lo hi fD e) pos) (tSl Jz b c d):=⟨wH JA f.h g.h h.h⟩
def valT{X:Cx}{a:tI}{c:TE}(d:∀b,RV a X.env b=(do let v<-b;Oy a.pos;O7 [v] (Tl v)))(e:QE X a c):QT X a (tB c):=⟨IG e.h d⟩
abbrev sP(key:gf->jz)(val:gf->V)(n:gf):fx (Key×V):=(kj n).foldl (λa j=>cA a (hX (key j)) (val j)) []
def nR(key:gf->jz)(val:gf->V)(n:gf):sP key val (n+1)=cA (sP key val n) (hX (key n)) (val n):=by
 unfold sP;rw[Xa,SX];rfl
def qX(key:gf->jz)(val:gf->V):∀n,(sP key val n)\5<=n
 | 0=>Zi _
 | n+1=>by
   rw[nR];let:=e9 (sP key val n) (hX (key n)) (val n);let:=qX key val n
   lia
section
variable{prog:mu}{w:rM}{A:ri}{R:Tu->jg->Prop}{I:hW}{fp wr:fx hW}{G:mx R7->mx R7->Prop}{n:gf}{P:gf->hV->Prop}{St:gf->jg->Prop}
def zX(W:WalksS prog w A.in1 I fp wr G n P St)(d:hW)(y:d∉fp)(z:gf->hW)(key:gf->jz)(val:gf->V)(N:∀i v,P i v->v= .ref (z i))(J:∀i,i<n->z i∉d::wr)(l:n<=iv):
 ∀(k i:gf) (j:md) (s:jg),n-i=k->i<=n->St i s->(∃vs,KV (sP key val i) vs/\s.heap.DictOf (aM prog w) d vs)->
  (∀i,i<n->∃a t u m,s.heap.get? (z i)>=a/\a.cls= .type "tuple"/\a.data= .seq #[.str (key i) t,u] m/\aY (val i) u)->
  (∀s',Moved (d::wr) G s s'->(∃vs,KV (sP key val n) vs/\s'.heap.DictOf (aM prog w) d vs)->R (.ok (.ret .none)) s')->Pw (Nm prog w) A (.builtin "dict.update.loop" %[[.ref d,.ref I,.int j 0,.none]|[]]) R s:=by
 let out:d∉wr:=λh=>y (W.sub _ h)
 let more:∀b>wr,b>d::wr:=λb l=>Zk _ l
 let c:∀{h h':su} {vs:fx (Key×hV)},(∀o,h.get? d>=o->h'.get? d>=o)->h.DictOf (aM prog w) d vs->h'.DictOf (aM prog w) d vs:=λk D=>by
  let%[o,O,Q,T|r]:=D;show%[o,O,Q,k o T|r]
 intro k
 induction k with
 | zero=>
   intro i j s U hi st B L fin;let e:i=n:=by lia
   subst e;show Nd ud ?_;rw[Nh kE _];change pw _ A.in1 (Pj (.ref I)>>= _) _ _ s;show Z2 (W.done s _ _ st λf p=>?_);change pw _ A.in1 (YM d []>>= _) _ _ f;show Z2 (Z3 ?_);change pw _ A.in1 (ret M3) _ _ f;let%[vs,r|D]:=B;show Z3 (fin f (p.mono more) %[vs,r|c (λo e=>p.heap d o out e) D])
 | succ k Y=>
   intro i j s U hi st B L fin;let lt:i<n:=by lia
   show Nd ud ?_;rw[Nh kE _];change pw _ A.in1 (Pj (.ref I)>>= _) _ _ s;show Z2 (W.item i s _ _ lt st λv f pv C p=>?_);obtain rfl:=N i v pv;let%[vs,r|D]:=B;let D1:=c (h':=f.heap) (λo e=>p.heap d o out e) D;let M:∀i,i<n->∃a t u m,f.heap.get? (z i)>=a/\a.cls= .type "tuple"/\a.data= .seq #[.str (key i) t,u] m/\aY (val i) u:=λi hi=>by
    let%[a,t,u,m,g|q]:=L i hi;show%[a,t,u,m,p.heap _ _ (λh=>J i hi (more _ h)) g|q]
   let%[a,t,u,m,g,hc,hd|ru]:=M i lt;show Z2 (vi (Z2 (wpAny_tryCatch ?_)));show Z2 (O0 %[_,g|hc] ?_);show Z2 (M8 g hd (Z3 ?_));let vl:vs\5<=iv:=by
    rw[<-r.length];show lx (qX key val i) !_
   show vi (wpAny_dictSet_pairs (oG prog w (key i) t) D1 λh2 D2 E=>?_);show Z3 %[N9 kE _|Y (i+1) _ _ ⋯ lt (W.frame _ f _ _ C (Ye _) λb l o e=>?_) %[_,by rw[nR];show r.put _ ru|D2] (λi hi=>?_) λs3 m3 H=>?_]
   .rw[E.2 b (λq:b=d=>y (q▸l))];show e
   .let%[a,t,u,m,g|q]:=M i hi;show%[a,t,u,m,(E.2 _ (λq=>J i hi (by rw[q];show Zm))).trans g|q]
   .show fin s3 (W7 W.gtrans ((p.mono more).then_heap (Ye _) λb o l e=>?_) m3) H;rw[E.2 b (λq:b=d=>l (by rw[q];show Zm))];show e
end
section
#where
def nS{l:hW}{o:NV}{items:ZJ}{c:gf}{L:gf->hW}{key:gf->jz}{val:gf->V}{Q:ZD}(hh:A.handled=fD)(Y:s.heap.get? l>=o)(M:o.cls= .type "list")(h:o.data= .seq items c)(hd:o.dict=fD)(hb:items.size<=iv)
 (hv:∀(i:gf) v,items[i]?>=v->v= .ref (L i)) (hT:∀i,i<items.size->∃a t u m,s.heap.get? (L i)>=a/\a.cls= .type "tuple"/\a.data= .seq #[.str (key i) t,u] m/\aY (val i) u)
 (hQ:∀(h':su) (tk:gf) vs,KV (sP key val items.size) vs->h'.DictOf (aM prog w) ⇑s vs->(∀b o,s.heap.get? b>=o->h'.get? b>=o)->Q (.ref ⇑s) {s with heap:=h',toks:=tk}):
 ↥A (call (.type "dict") [.ref l]) Q E s:=by
 show callType_codes (Q₁:=λobj j=>obj= .ref ⇑s/\j={s with heap:=s.heap.push {cls:= .type "dict",data:= .dict #[]}}) PySem.F.kt_called_dict (PySem.F.kt_typeCall_dict_1 _) PySem.F.entry_dict_init (kt_code_dict_new _ %[rfl|rfl]) ?_;intro obj j %[rfl|rfl];let d:(s.heap.push {cls:= .type "dict",data:= .dict #[]}).DictOf (aM prog w) ⇑s []:=T9 s.heap;let n:(s.heap.push {cls:= .type "dict",data:= .dict #[]}).get? l>=o:=Z7 _ Y;show%[d.typeIs,PySem.F.args_dict_init_2 _ _|?_];unfold m4.«dict.__init__»;show Z2 ?_;unfold YL;show Z2 (Vy d.typeIs ?_);change pw _ _ (pure (⇑s,[ku l])) _ _ _;show Z3 ?_;change pw _ _ (Sr "dict.__init__" ⇑s (.ref l) [] .none) _ _ _;unfold Sr;show Z2 (O0 (T:="list") %[_,n|M] ?_);let h2:A.in1.in1.handled=fD:=by simp[hh]
 show Z2 (Cp n M h hd h2 λG ab N=>?_);show Z2 (N4 ?_);let p:G.IsList l items:=%[o,N _ _ n,M,c|h]
 show Z2 (Od p ?_);show Z3 %[N9 kE _|?_];let y:∀b a,s.heap.get? b>=a->G.get? b>=a:=λb a e=>N _ _ (Z7 _ e)
 let z:=Zu Y;let d1:∃od H I,G.get? ⇑s>=od/\_:=let⟨od,H,I,g,r⟩:=d;%[od,H,I,N _ _ g|r];let f:⇑s<G.objs.size:=by let%[_,_,_,g|_]:=d1;show Zu g
 show zX ((Rz h2 _ l (Zs (QP z f)) items).toS) ⇑s ?_ L key val hv (λi hi=>?_) hb items.size 0 0 _ ⋯ (Xg _) %[%[_,Zj _ rfl,rfl|rfl]|p.push _] %[[],.nil|?_] (λi hi=>?_) ?_
 .simp only[Yu,X4,J5,Oj];show%[Zs f|Yy z]
 .let%[a,t,u,m,g|_]:=hT i hi;let B:=Zu g;simp only[Yu,X4,J5,Oj];show%[Zs B|Zs (QP B f)]
 .let%[od,H,I,g|r]:=d1;show%[od,H,I,Z7 _ g|r]
 .let%[a,t,u,m,g|q]:=hT i hi;show%[a,t,u,m,Z7 _ (y _ _ g)|q]
 .intro s3 J %[vs,r|dd];let%[h',g',d',O|U]:=s3;let eg:g'=s.gens:=J.gens;let ed:d'=s.drawn:=J.drawn;let eo:U=s.os:=J.os;subst eg;subst ed;subst eo;show%[ρ|hQ h' O vs r dd λb a e=>?_];let C:=Zu e;show J.heap b a ?_ (Z7 _ (y _ _ e));simp only[Yu,X4,J5,Oj];show%[Zs C|Zs (QP C f)]
end
abbrev mB(ps:fx (hW×jz×V)):fx (Key×V):=ps.foldl (λa q=>cA a (hX q.2.1) q.2.2) []
def uo(ps:fx _)(key:gf->jz)(val:gf->V)(b:∀i q,ps[i]?>=q->key i=q.2.1/\val i=q.2.2):sP key val ps.length=mB ps:=by
 let:∀n,n<=ps\5->sP key val n=mB (ps.take n):=λn=>by
  induction n with
  | zero=>intro _;rfl
  | succ n c=>
    intro h;let a:=Z4 (show n<ps\5 by lia);let%[d|e]:=b n _ a;rw[nR,c !_,Xc,a,d,e];unfold mB;rw[SX];rfl
 simp_all
section
variable{X:Cx}{K:ZA}
def zY(L:X.calm=gb):cH X (.type "dict") (λxs H Q=>cP xs λA=>asR A λp=>∃ps,Qb X.K H p (ps\0)/\(∀q>ps,H q.1&&&[.str q.2.1,q.2.2])/\∀l,H l=fD->Q (.ref l) (Qa H l (.dK (mB ps)))):=by
 intro ff s σ H xs us Q I r h;let%[A,rfl|f]:=bJ h;let%[p,rfl|j]:=aT f;let%[ps,M,N|q]:=j;let%[u,rfl|w]:=dq r;cases w;let%[its,B,%[o,n,O,y,T|d]|C]:=I.list M;let c:=B\5;rw[Z6]at c C;let z:its.toArray.size=ps\5:=!2
 let U:∀(i:gf) v,its.toArray[i]?>=v->v= .ref ((ps[i]?.map _).getD 0):=λi v e=>by
  let e:=↑e
  let hi:i<ps\5:=by rw[c];show(Xn e).1
  let%[u,E|w]:=B.get (by rw[Zl,Z4 hi];rfl);rw[e]at E;rw[Za E,Z4 hi];show w
 show nS (key:=λi=>(ps[i]?.map (·.2.1)).getD y2) (val:=λi=>(ps[i]?.map (·.2.2)).getD .non) (I.ok.hd L) O y d T ⋯ U (λi hi=>?_) λh' tk vs G Y k=>?_
 .let hi:i<ps\5:=by lia
  rw[Z4 hi];let%[_,ts,rt,ob,g,c1,m|J]:=(I.hok _ _ (N _ (Yb hi)))
  let%[a,b,e,%[t|ea]|eb]:=iP rt;rw[e,ea]at J;show%[ob,t,b,m,g,c1,J|eb]
 .rw[z,uo ps _ _ (λi q e=>by rw[e];show%[ρ|ρ])]at G;let hl:(mB ps)\5<=iv:=by
   rw[<-uo ps (λi=>(ps[i]?.map _).getD y2) (λi=>(ps[i]?.map _).getD .non) (λi q e=>by rw[e];show%[ρ|ρ])];show lx (qX _ _ _) C
  show%[.ref ⇑s,_,I.laid k (Zi _) (qj hl ?_ G Y),ρ|q _ I.fresh];show MQ.mpr (wh (Zs I.big))
def AK(h:X.K=K)(a:X.calm=gb)(_:bW k X.A):cj X (.type "dict") (λxs H Q=>cP xs λb=>asR b λp=>∃ps,Qb K H p (ps\0)/\(∀q>ps,H q.1&&&[.str q.2.1,q.2.2])/\∀l,H l=fD->Q (.ref l) (Qa H l (.dK (mB ps)))):=by subst h;show⟨zY a⟩
end
abbrev L7(d:TE):TE:=λe H Q=>d e H λv b=>∃(a:hW) (ss:ZG),v= .ref a/\b a>=.lst (ss\0)/\aP b ss/\ss\5<=300/\(∀p>ss,p.2\5<=3/\∀z>p.2,z\5<=30/\∀c>z.cps.toList,c<16^8)/\∀z:jz,z\5<=400000->Q (.str z) b
def L8{X:Cx}{e:tI}{c:TE}{pos:Pos}(i:X.A.guards>=[])(O:X.A.units+64<Pa)(j:QE X e c):QE X (.FormattedValue e 114 fD pos) (L7 c):=by
 show⟨λff s l H Q I h=>?_⟩;show wpAny_FormattedValue_repr (thP (j.h ff s l H _ I h) λu m v o b r ⟨a,ss,p,w,y,T,z,q⟩=>?_);subst p;cases r;let%[us,A,pl|_]:=b.list (Qb.of w);let%[%[cls,U,data|Y],B,C,n|E]:=pl.isList;let%[as|G]:=qW b y A;let%[J,L,f3,M|f5]:=zV z;let len:=J0.shown_le 8 (!1) (.list (ss.map qV)) (by simpa only[UG]using M);simp only[Th]at len;let f: ~~~(Wk (.list (ss.map qV)))<=400000:=by lia
 let g: ~~~(Wk (.list (ss.map qV)))<=iv:=lx f (!1);show pyReprObj_of_reads (h₀:=m.heap) (d:= .list (ss.map qV)) (.list B C E G) (by simpa only[Vt]using J) (λx=>by simp only[VE,L]at x;cases x) i (by simp only[Wl];lia) (λ_ _ x=>x) (λh' t tk k=>?_) g;show XZ (λt' N=>%[.str _,o,(b.kept k).tok _,%[_|rfl]|q _ f]) g
abbrev L9(K:ZA)(c:TE):TI:=λd H R=>c d H λx b=>asR x λa=>(∃xs,Qb K b a xs)/\R (Itl K a) b
def cS{X:Cx}{K:ZA}{tg l:tI}{f:TE}(h:X.K=K)(g:QE X l f):QI X tg l (L9 K f):=by
 subst h;show⟨λff s i H R I h=>thP (g.h ff s i H _ I h) λv c x j d m n=>?_⟩;let%[a,rfl,%[xs|r]|q]:=aT n;cases m;let%[its,w,p|y]:=d.list r;show Od p.isList ⟨⇑c,[⇑c],_,_,j,rfl,d.kept (t':=c.toks) λb o e=>Z7 _ e,Bw a _,%[_,Zj _ rfl,rfl|rfl],λb u=>by
  obtain rfl:b=⇑c:=↑u
  show d.fpOk (Zi _) (d.hok.fresh (Zi _)),q⟩
def Ij{X:Cx}:OpQ X (No .Add) Jw:=⟨Jx⟩
def Hi{X:Cx}{K:ZA}{e:tI}{lo hi:ij tI}{a:TE}{b c:TO}{d pos:Pos}(h:X.K=K)(f:QE X e a)(g:QO X lo b)(i:QO X hi c):QE X (.Subscript e (.Slice lo hi fD d) pos) (tSl (Jt K) a b c):=by subst h;show⟨wH Gz f.h g.h i.h⟩
def xN{X:Cx}{K:ZA}(h:X.K=K):OpQ X (oT .In) (rIn K gi):=by subst h;show⟨BK⟩
def xO{X:Cx}{K:ZA}(h:X.K=K):OpQ X (oT .NotIn) (rIn K gb):=by subst h;show⟨u9⟩
def dH{X:Cx}:OpQ X (No .Add) HU:=⟨yX⟩
open PySem
def Ma{K:ZA}{z:jz}{H:Hp}:tyV K "str" (.str z) H=Po:=eq_true rfl
def tyL{K:ZA}{l:hW}{H:Hp}{xs:fx V}(h:Qb K H l xs):tyV K "list" (.ref l) H:= .inl %[rfl,_|h]
def tyD{K:ZA}{l:hW}{H:Hp}{a}(h:H l>=.dK a):tyV K "dict" (.ref l) H:= .inr (.inr (.inl %[rfl|.inl %[_|h]]))
def dL{v:Type}{K:ZA}{l D:hW}{us:fx v}{f:v->V}{c:St}{H:Hp}{g:TG}{w:TT}{z:TE}{A:Hp->Prop}(Pv:gf->fx V->St->Hp->Prop)(B:Pv 0 [] c H)(r:∀i ys c H,Pv i ys c H->H l<*us.map f)
 (C:∀i ys c H (hi:i<us\5),Pv i ys c H->g (f us[i]) c H λa s=>w a s λb d=>if b=gb then z a d λy q=>CK D us.length i Pv ys a y q else CN us.length i Pv ys a d) (E:∀ys c H,Pv us.length ys c H->A H):
 ∃W:gf->gf->fx V->St->Hp->Prop,(∃m,W 0 m [] c H)/\∀i m ys h j,W i m ys h j->((Itl K l).stop i j/\A j)\/
  ((Itl K l).go i j/\∀x u,(Itl K l).yld i j x u->g x h u λa s=>w a s λb d=>if b=gb then z a d λy q=>∃zs o,q D<*zs/\zs\5<iv/\o<m/\W (i+1) o (ys++[y]) a (Qa q D (.lst (zs++[y])))
    else∃o,o<m/\W (i+1) o ys a d):=
 b8 (n:=us\5) Pv B (λi ys c H hi p=>%[_,f us[i],Qb.of (r _ _ _ _ p)|by simp[hi]]) (λys c H p=>%[_,Qb.of (r _ _ _ _ p)|by simp]) (λi ys c H hi p x u ⟨e,G⟩=>by
  subst e;let:=G _ (Qb.of (r _ _ _ _ p));rw[Zl,Z4 hi]at this;obtain rfl:f us[i]=x:=Za this;show C i ys c _ hi p) E
def cL{j:Type}{K:ZA}{a:hW}{us:fx j}{f:j->V}{b:St}{H:Hp}{g:TG}{l:TS}{D:iN}(Pv:gf->St->Hp->Prop)(q:Pv 0 b H)(r:∀i b H,Pv i b H->H a<*us.map f)
 (s:∀i u b H,us[i]?>=u->Pv i b H->g (f u) b H λc h=>l {D with nx:=Pv (i+1),ct:=Pv (i+1),bk:=D.nx} c h) (v:∀b H,Pv us.length b H->D.nx b H):
 ∃W:gf->gf->St->Hp->Prop,(∃m,W 0 m b H)/\∀i m b H,W i m b H->
  ((Itl K a).stop i H/\D.nx b H)\/((Itl K a).go i H/\∃N:St->Hp->Prop,(∀d e,N d e->∃n,n<m/\W (i+1) n d e)/\∀x e,(Itl K a).yld i H x e->g x b e λc h=>l {D with nx:=N,ct:=N,bk:=D.nx} c h):=
 iO (xs:=us.map f) Pv q (λi b H _ p=>Qb.of (r i b H p)) (λi x b H o p=>by
  rw[Zl]at o;let%[u,w|rfl]:=zz.mp o;show s i u b H w p) (by rw[Z6];show v)
section
variable{prog:mu}{w:rM}{A:ri}{R:Tu->jg->Prop}{I S:hW}{fp wr:fx hW}{n:gf}{P:gf->hV->Prop}{St:gf->su->Prop}{val:gf->md}{kn:jz}{d:hV}
end
def mC:∀{a:ZL} {us:ZF},aQ (a\4) us->T8 us a
 |[],_,.nil=> .nil
 | _::_,_,.cons r t=>by
   let%[t'|rfl]:=r;show .cons _ _ (mC t)
def xP{a:Type}:∀{ps:fx (hW×a)} {us:ZF},aQ (ps\0) us->us=ps.map λp=>ku p.1
 |[],_,.nil=>rfl
 | _::_,_,.cons r t=>by
   cases r;rw[xP t];rfl
def xQ{a:Type}:∀(ps:fx (hW×a)),aQ (ps\0) (ps.map λp=>ku p.1)
 |[]=> .nil
 | _::ps=> .cons rfl (xQ ps)
section
variable{X:Cx}{K:ZA}
def uq(h:X.K=K):cj X (.builtin "sorted") (λxs H Q=>cP xs λB=>asR B λa=>∃(b:ZL),Qb K H a (b\4)/\b\5<=1000/\∀l (ms:ZL),H l=fD->ms.Perm b->Q (.ref l) (Qa H l (.lst (ms\4)))):=by
 subst h;show⟨λff s σ H xs us Q I r h=>?_⟩;let%[B,rfl|m]:=bJ h;let%[a,rfl|p]:=aT m;let%[b,M,w|q]:=p;let%[u,rfl|N]:=dq r;cases N;let%[its,C,%[o,n,T,U,hd|z]|hz]:=I.list M;let c:=mC C;let Y:its\5=b\5:=by rw[<-C.length,Z6]
 let E:∀us,us=its->us\5<=1000:=λus e=>by rw[e,Y];show w
 show nO (s:=s) (G:=λus=>us=its) (O:=λus out=>out.toList.Perm us) (λE1 R hR=>Qs a (.inl rfl) T U z (λh' k=>hR _ _ rfl k rfl rfl) (!2)) E (qP (kd:=oneType') E (λus s3 A1 E1 Q e h2 _ q=>?_) λus x y s3 A1 Q e hx hy _ q=>?_) λs1 s' l us out n e J k1 g1 o1 k g o d gl=>?_
 .subst e;obtain⟨v1,f,r,e⟩:∃v1 f r,us=v1::f::r:=by
   match us,h2 with
   | v1::f::r,_=>show%[v1,f,r|ρ]
  rw[e,keyKind_ints (e▸c)];show Z3 q
 .subst e;let%[i,t|rfl]:=c.all _ hx;let%[j,u|rfl]:=c.all _ hy;rw[keyLt'_oneType];show oneLt_int (q _)
 .subst e;let A:=I.keptS k1 g1 o1;let L:(out.toList.map numOf).Perm b:=by
   let:=J.map numOf;rwa[c.nums]at this
  show%[.ref l,_,A.stoodS (o:= .lst _) (A.keptS k g o) d %[?_,out.toList,n,kA (intsAre_map out.toList λv hv=>c.all v (J.mem_iff.mp hv))|by rw[UD];show gl],ρ|q l _ (A.hok.fresh d) L];rw[Z6,L.length_eq,MD]
  lia
def lK(h:X.K=K):cj X (.builtin "sorted") (λxs H Q=>cP xs λA=>asR A λa=>∃(ps:fx (hW×gf×gf)),Qb K H a (ps\0)/\(∀p>ps,H p.1&&&[.int p.2.1,.int p.2.2])/\ps\5<=1000/\∀l (ss:fx (hW×gf×gf)),H l=fD->ss.Perm ps->Q (.ref l) (Qa H l (.lst (ss\0)))):=by
 subst h;show⟨λff s σ H xs us Q I r h=>?_⟩;let%[A,rfl|d]:=bJ h;let%[a,rfl|f]:=aT d;let%[ps,E,J,m|q]:=f;let%[u,rfl|L]:=dq r;cases L;let%[its,v,%[o,n,M,w,B|y]|hz]:=I.list E;let:=xP v;subst this;show oW (ps:=ps) (G:=λvs=>∃i t j t',vs=[Sl i t,Sl j t']) (T:="int") (λE1 R N=>Qs a (.inl rfl) M w y (λh' k=>N _ _ (MV _) k rfl rfl) (!2)) m (λp O=>?_) (λ_ ⟨_,_,_,_,e⟩=>%[_,_,e|rfl]) (!1) (λ_ _ ⟨_,_,_,_,a⟩ ⟨_,_,_,_,b⟩=>by
  subst a b;show .it _ _ _ _ (.it _ _ _ _ (.nl _))) λs1 s' l ss n C k1 g1 U k g o c Y=>?_
 .let%[_,its,v,o,ho,w,n|B]:=I.hok p.1 _ (J p O);let%[_,_,rfl,%[t|rfl],t'|rfl]:=iP v;show%[o,_,n,ho,w,B,_,_,_,_|ρ]
 .let z:=I.keptS k1 g1 U;show%[.ref l,_,z.stoodS (o:= .lst _) (z.keptS k g o) c %[?_,ss.map _,n,xQ ss|Y],ρ|q l ss (z.hok.fresh c) C];rw[Z6,C.length_eq,MD]
  lia
end
def parS{X:Cx}(i j:gf){x y:jz}{a b:tI}{l:TA}{d e pt c pos:Pos}{f k2}(m:X.calm=gb)(n:X.N.Nodup)(h:(X.N[i]?,X.N[j]?,X.env.scope.names.lookup x,X.env.scope.names.lookup y)=(fI x,fI y,fI .local,fI .local))(g:i≠j)(o:QA X [a,b] l)
 (hw:Su [.Tuple [.Name x d,.Name y e] f pt] (.Tuple [a,b] k2 c) X.env=pure (fI [x,y])) (p:UL [.Tuple [.Name x d,.Name y e] f pt] (.Tuple [a,b] k2 c) pos.line X.env=pure gi):
 QS X (.Assign [.Tuple [.Name x d,.Name y e] f pt] (.Tuple [a,b] k2 c) pos) (IU i j l):=by
 simp only[MW]at h;show⟨IV m n h.1 h.2.1 g h.2.2.1 h.2.2.2 o.h hw p⟩
section
variable{X:Cx}
def Kz:cj X (.type "range") (λxs H Q=>jR xs λd f=>asI d λi=>asI f λj=>∀p,H p=fD->Q (.ref p) (Qa H p (.rng i j))):=by
 show⟨λff s g H xs us Q I r h=>?_⟩;let%[d,f,rfl|a]:=fE h;let%[i,rfl|c]:=dm a;let%[j,rfl|q]:=dm c;let%[u,l,rfl,%[t|rfl],t'|rfl]:=iP r;show call_range_2 %[.ref ⇑s,_,I.laid (o:= .rng i j) (λb o e=>Z7 _ e) (Zi _) %[_,_,_|Zj s.heap rfl],rfl|q _ (I.hok.fresh (Zi _))]
def Hj(m:X.calm=gb):cj X (.type "list") (λxs H Q=>cP xs λg=>asR g λr=>∃lo hi:md,H r>=.rng lo hi/\ -(2^62)<=lo/\lo<2^62/\ -(2^62)<=hi/\hi<2^62/\hi-lo<=1000/\∀l,H l=fD->Q (.ref l) (Qa H l (.lst ((kj (hi-lo).toNat).map λk:gf=>V.int (lo+k))))):=by
 show⟨λff s N H xs us Q I r h=>?_⟩;let%[g,rfl|f]:=bJ h;let%[a,rfl,lo,hi,n,p,w,y,z,O|q]:=aT f;let%[u,rfl|A]:=dq r;cases A;let%[t,u,v|B]:=I.hok a _ n;let C:Sf lo hi 1=((hi-lo).toNat:md):=by rw[rangeSize_one];split<;> lia
 show call_list_range (I.ok.hd m) B (small_one p w y z) C ⋯ λh' tk acc E G J b=>?_
 show%[.ref ⇑s,_,I.laid (o:= .lst ((kj (hi-lo).toNat).map λk:gf=>V.int (lo+k))) G (Zi _) %[?_,acc.toList,E,?_|↑J],ρ|q _ (I.hok.fresh (Zi _))]
 .rw[Z6,Yh,MD]
  lia
 .let e:acc.toList.map numOf=(kj (hi-lo).toNat).map λk:gf=>lo+k:=by
   show PY λi=>?_
   rw[Zl,Zl,Ya];by_cases c:i<(hi-lo).toNat
   .let d:i<acc.size:=by rw[b.1];show c
    let%[t|e]:=b.2 i acc[i] (xl d);rw[xl d,e,O8 c];change fI (lo+i*1)>=(lo+i);rw[YH]
   .rw[NU (by rw[b.1];lia),Xm (by rw[Yh];lia)];rfl
  let:=kA (intsAre_map acc.toList λv L=>by
   let%[j,M|rfl]:=Qi L;let%[t|e]:=b.2 j _ (by rw[<-Ya,Z4 M]);show%[_,t|e])
  rw[e,Yp]at this;show this
end
abbrev Mb(a:TE):TI:=λb H R=>a b H λx c=>asS x λz=>R (Its z) c
def KA{X:Cx}{tg l:tI}{g:TE}(j:QE X l g):QI X tg l (Mb g):=by
 show⟨λff s m H R I h=>thP (j.h ff s m H _ I h) λv c x f d n p=>?_⟩;let%[z,rfl|q]:=d6 p;let%[t|rfl]:=n;let a:∀b>[⇑c],pH X ff f b:=λb r=>by
  obtain rfl:b=⇑c:=↑r
  show d.fpOk (Zi _) (d.hok.fresh (Zi _))
 cases i:z.cps.all _ with
 | true=>show wpAny_pyIter_ascii i %[⇑c,[⇑c],_,_,f,rfl,d.kept λb o e=>Z7 _ e,zg _ z t,%[_,Zj _ rfl,rfl|rfl],a|q]
 | false=>show wpAny_pyIter_wide i %[⇑c,[⇑c],_,_,f,rfl,d.kept λb o e=>Z7 _ e,BS _ z t,%[_,Zj _ rfl,rfl|rfl],a|q]
def AL{i j:md}:decide (V.int i=V.int j)=decide (i=j):=by
 by_cases c:i=j
 .rw[c,Zf rfl,Zf rfl]
 .rw[Zh c,Zh λe=>c (V.int.inj e)]
def fM{X:Cx}:OpQ X (oT .Eq) (rI0 λi j=> .bl (decide (i=j))):=⟨λff s a H x y v u Q I b c h=>by
 let%[i,rfl|d]:=dm h;let%[j,rfl|q]:=dm d;show HM ff s a H _ _ v u Q I b c %[rfl|by rw[AL];show q]⟩
def Ik{X:Cx}:OpQ X (oT .NotEq) (rI0 λi j=> .bl (!decide (i=j))):=⟨λff s a H x y v u Q I b c h=>by
 let%[i,rfl|d]:=dm h;let%[j,rfl|q]:=dm d;show HN ff s a H _ _ v u Q I b c %[rfl|by rw[AL];show q]⟩
def Il{X:Cx}:OpQ X (oT .In) Lu:=⟨Bz⟩
def Mc{A B:Prop}:(if gb=gb then A else B)=A:=rfl
def Me{A B:Prop}:(if gi=gb then A else B)=B:=rfl
def zZ{x:V}{a:hW}{f:hW->Prop}(h:x= .ref a)(q:f a):asR x f:=by
 rw[h];show q
abbrev asY(x:V)(f:MX->Prop):Prop:=match x with
 | .ty n=>f n
 | _=>yc
def Mf{n:MX}{f:MX->Prop}:asY (.ty n) f=f n:=rfl
def Im{x:V}{f:MX->Prop}(h:asY x f):∃n,x= .ty n/\f n:=by
 cases x<;> first|show⟨_,rfl,h⟩|show h.elim
def j6{X:Cx}{K:ZA}(h:X.K=K):cj X (.builtin "isinstance") (λxs H Q=>jR xs λx y=>asY y λn=>∃t,kP K H x t/\∃b,Pk K t (.type n)>=b/\Q (.bl b) H):=by
 show⟨λff s a H xs us Q I r c=>?_⟩;let%[x,y,rfl|d]:=fE c;let%[n,rfl,t,e,b,f|q]:=Im d;show(LB h).h ff s a H _ us Q I r %[x,n,t,b,rfl,e,f|q]
def KB{X:Cx}{K:ZA}(h:X.K=K):cj X (.builtin "isinstance") (λxs H Q=>jR xs λx y=>asY y λn=>∃t,TyX K H x t/\∃b,Pk K t (.type n)>=b/\Q (.bl b) H):=by
 show⟨λff s a H xs us Q I r c=>?_⟩;let%[x,y,rfl|d]:=fE c;let%[n,rfl,t,e,b,f|q]:=Im d;show(Ia h).h ff s a H _ us Q I r %[x,_,t,b,rfl,e,.inl %[n,rfl|f]|q]
def Fe{X:Cx}{K:ZA}(h:X.K=K):cj X (.builtin "isinstance") (λxs H Q=>jR xs λx y=>asR y λD=>∃t,TyX K H x t/\∃b,(Pk K t (.ref D)>=b\/∃a,H D&&&Rf V.ref a/\Wy K t (a.map ku)>=b)/\Q (.bl b) H):=by
 show⟨λff s c H xs us Q I r d=>?_⟩;let%[x,y,rfl|g]:=fE d;let%[D,rfl,t,i,b,j|q]:=aT g;show(Ia h).h ff s c H _ us Q I r %[x,_,t,b,rfl,i,j.elim (λe=> .inr (.inl %[D,rfl|e])) (λ⟨a,e,f⟩=> .inr (.inr %[D,a,rfl,e|f]))|q]
def ic{X:Cx}{a:tI}{c:TE}(d:∀b,RV a X.env b=(do let v<-b;Oy a.pos;O7 [v] (Tl v)))(e:QE X a c):QT X a (wF c):=by
 show⟨λff s f H Q I h=>?_⟩;show Vo (thP (e.h ff s f H _ I h) λv m x g i j l=>by
  let%[k,rfl|q]:=qd l;cases j;show MR %[g,i|q]) (d _)
def bN{A B:Prop}(h:B):asB (.bl gb) λk=>if(!k)=gb then A else B:=h
inductive E2 {α β:Type} (p:α->β->Prop):Prop|mk (a:α) (b:β):p a b->E2 p
inductive E3 {α β γ:Type} (p:α->β->γ->Prop):Prop|mk (a:α) (b:β) (c:γ):p a b c->E3 p
inductive E4 {α β γ δ:Type} (p:α->β->γ->δ->Prop):Prop|mk (a:α) (b:β) (c:γ) (d:δ):p a b c d->E4 p
inductive E6 {α β γ δ ε ζ:Type} (p:α->β->γ->δ->ε->ζ->Prop):Prop|mk (a:α) (b:β) (c:γ) (d:δ) (e:ε) (f:ζ):p a b c d e f->E6 p
inductive A3 (a b c:Prop):Prop|mk:a->b->c->A3 a b c
inductive A4 (a b c d:Prop):Prop|mk:a->b->c->d->A4 a b c d
inductive A5 (a b c d e:Prop):Prop|mk:a->b->c->d->e->A5 a b c d e
inductive A6 (a b c d e f:Prop):Prop|mk:a->b->c->d->e->f->A6 a b c d e f
inductive A8 (a b c d e f g h:Prop):Prop|mk:a->b->c->d->e->f->g->h->A8 a b c d e f g h
abbrev tg:ij HO->gf
 | none=>0
 | some h=>h.ctorIdx+1
def nq{f:hW->ij HO}{a b:hW}{x y:ij HO}(h:f a=x)(g:f b=y)(d:(tg x==tg y)=gi):a≠b:=λe=>by
 rw[<-h,<-g,e,Pn]at d;cases d
end _LL
namespace _CU
open PySem _LL
inductive dc (S:jz->jz->Prop):jz->jz->Prop
 | refl (x:jz):dc S x x
 | step {x y z:jz}:dc S x y->(S y z\/S z y)->dc S x z
def dc.trans{S:jz->jz->Prop}(h:dc S x y)(g:dc S y z):dc S x z:=by
 induction g with
 | refl=>show h
 | step _ s a=>show .step a s
def dc.one{S:jz->jz->Prop}(h:S x y\/S y x):dc S x y:= .step (.refl x) h
def dc.symm{S:jz->jz->Prop}(h:dc S x y):dc S y x:=by
 induction h with
 | refl=>show .refl _
 | step _ s a=>show(dc.one s.symm).trans a
def dc.mono{S R:jz->jz->Prop}(m:∀a b,S a b->R a b)(h:dc S x y):dc R x y:=by
 induction h with
 | refl=>show .refl _
 | step _ s c=>show .step c (s.imp (m _ _) (m _ _))
def dc.within{S:jz->jz->Prop}{p:jz->Prop}(w:∀a b,S a b->p a/\p b)(h:dc S x y)(c:p x):p y:=by
 induction h with
 | refl=>show c
 | step _ s _=>
   rcases s with s|s
   .show(w _ _ s).2
   .show(w _ _ s).1
abbrev cN(S:jz->jz->Prop)(z r:jz):Prop:=dc S z r/\∀y,dc S z y->aV y r=gi
def cN.one{S:jz->jz->Prop}(h:cN S z r)(g:cN S z a):r=a:=by
 by_cases e:r=a
 .show e
 .let:=dZ (g.2 _ h.1) e;rw[h.2 _ g.1]at this;cases this
structure cf (ls:ZB) (f r:jz->jz) (S:jz->jz->Prop):Prop where
 ws:∀a b,S a b->a>ls/\b>ls
 fin:∀z>ls,f z>ls
 rin:∀z>ls,r z>ls
 rf:∀z>ls,r (f z)=r z
 fr:∀z>ls,f (r z)=r z
 fix:∀z>ls,f z=z->r z=z
 dec:∀z>ls,f z≠z->aV (f z) z=gb
 le:∀z>ls,aV z (r z)=gi
 cl:∀x>ls,∀y>ls,r x=r y↔dc S x y
def cf.rr{S:jz->jz->Prop}(F:cf ls f r S)(h:z>ls):r (r z)=r z:=F.fix _ (F.rin z h) (F.fr z h)
def cf.conn{S:jz->jz->Prop}(F:cf ls f r S)(h:z>ls):dc S z (r z):=(F.cl z h _ (F.rin z h)).mp (F.rr h).symm
def cf.least{S:jz->jz->Prop}(F:cf ls f r S){z:jz}(h:z>ls):cN S z (r z):=by
 show%[F.conn h|λy c=>?_];let a:=c.within F.ws h;rw[(F.cl z h y a).mpr c];show F.le y a
def cf.start(ls:ZB):cf ls id id (λ_ _=>yc):=by
 show%[λ_ _ h=>h.elim,λz h=>h,λz h=>h,λ_ _=>rfl,λ_ _=>rfl,λ_ _ _=>rfl,λz _ h=>(h rfl).elim,λz _=>dB z|λx a y b=>%[λe=>?_|λc=>?_]]
 .rw[show x=y from e];show .refl _
 .induction c with
  | refl=>rfl
  | step _ s _=>simp_all
set_option tactic.hygienic true in
def cf.join{S:jz->jz->Prop}(F:cf ls f r S){a b M m:jz}(p:a>ls)(q:b>ls)(A:M=if aV (r a) (r b)=gb then r b else r a)(B:m=if aV (r b) (r a)=gb then r b else r a):
 cf ls (λx=>if x=M then m else f x) (λx=>if r x=M then m else r x) (λx y=>S x y\/(x=a/\y=b)):=by
 let g:(M=r a/\m=r b)\/(M=r b/\m=r a):=by
  rw[A,B];cases e:aV _ _ with
  | true=>
    let:aV (r b) (r a)=gi:=by
     cases i:aV _ _ with
     | false=>rfl
     | true=>have:=dY e i;rw[dB]at this;cases this
    show this▸ .inr %[rfl|rfl]
  | false=>
    cases i:aV _ _ with
    | true=>show .inl %[rfl|rfl]
    | false=>
      let:r a=r b:=by
       by_cases h:r a=r b
       .show h
       .let:=dZ e h;rw[i]at this;cases this
      show this▸ .inl %[rfl|rfl]
 let lt:m≠M->aV m M=gb:=by
  rw[A,B];cases e:aV _ _ with
  | true=>
    cases i:aV _ _ with
    | true=>intro h;show(h rfl).elim
    | false=>intro _;show e
  | false=>
    cases i:aV _ _ with
    | true=>intro _;show i
    | false=>intro h;show(h rfl).elim
 let Q:=F.rin a p;let T:=F.rin b q;let C:m>ls:=by rcases g with⟨_,h⟩|⟨_,h⟩<;> rw[h]<;> assumption
 let E:r M=M:=by rcases g with⟨h,_⟩|⟨h,_⟩<;> rw[h]<;> apply F.rr<;> assumption
 let L:r m=m:=by rcases g with⟨_,h⟩|⟨_,h⟩<;> rw[h]<;> apply F.rr<;> assumption
 let N:dc (λx y=>S x y\/(x=a/\y=b)) M m:=by
  let G:dc (λx y=>S x y\/(x=a/\y=b)) _ _:=(((F.conn p).mono λ_ _=> .inl).symm.trans (.one (.inl (.inr %[rfl|rfl])))).trans ((F.conn q).mono λ_ _=> .inl);rcases g with⟨j,l⟩|⟨j,l⟩
  .rw[j,l];show G
  .rw[j,l];show G.symm
 let o:∀x>ls,dc _ x (if r x=M then m else r x):=λx w=>by
  let c:=(F.conn w).mono (R:=λx y=>S x y\/(x=a/\y=b)) λ_ _=> .inl
  by_cases e:r x=M
  .rw[hY e];rw[e]at c;show c.trans N
  .rw[hH e];show c
 let H:(if r a=M then m else r a)=(if r b=M then m else r b):=by
  rcases g with⟨j,l⟩|⟨j,l⟩
  .rw[hY j.symm];by_cases e:r b=M
   .rw[hY e]
   .rw[hH e];show l
  .rw[hY j.symm];by_cases e:r a=M
   .rw[hY e]
   .rw[hH e];show l.symm
 show%[λx y h=>?_,λz d=>?_,λz d=>?_,λz d=>?_,λz d=>?_,λz d h=>?_,λz d h=>?_,λz d=>?_|λx w y I=>%[λe=>?_|λc=>?_]]
 .rcases h with h|⟨rfl,rfl⟩
  .show F.ws x y h
  .show%[p|q]
 .split
  .show C
  .show F.fin z d
 .split
  .show C
  .show F.rin z d
 .by_cases e:z=M
  .rw[hY e,e,E,hY rfl,L]
   split<;> rfl
  .rw[hH e,F.rf z d]
 .by_cases e:r z=M
  .rw[hY e]
   split
   .rfl
   .show(by rcases g with⟨_,h⟩|⟨_,h⟩<;> rw[h]<;> apply F.fr<;> assumption)
  .rw[hH e,hH e];show F.fr z d
 .by_cases e:z=M
  .rw[hY e]at h;rw[e,E,hY rfl,<-e];show h
  .rw[hH e]at h;rw[F.fix z d h,hH e]
 .by_cases e:z=M
  .rw[hY e]at h ⊢;rw[e]at h ⊢;show lt h
  .rw[hH e]at h ⊢;show F.dec z d h
 .by_cases e:r z=M
  .rw[hY e];cases i:aV z m with
   | false=>rfl
   | true=>
     let n:=F.le z d;rw[e]at n;by_cases em:m=M
     .rw[em]at i;rw[n]at i;cases i
     .let:=dY i (lt em);rw[n]at this;cases this
  .rw[hH e];show F.le z d
 .let c:=(o x w)
  rw[e]at c;show c.trans (o y I).symm
 .let ws:∀x y,(S x y\/(x=a/\y=b))->x>ls/\y>ls:=λx y h=>by
   rcases h with h|⟨rfl,rfl⟩
   .show F.ws x y h
   .show%[p|q]
  clear I
  induction c with
  | refl=>rfl
  | step c s O=>
    rename_i u v
    let J:=c.within ws w;rw[O];rcases s with(s|⟨rfl,rfl⟩)|(s|⟨rfl,rfl⟩)
    .rw[(F.cl u J v (F.ws u v s).2).mpr (.one (.inl s))]
    .show H
    .rw[(F.cl u J v (F.ws v u s).1).mpr (.one (.inr s))]
    .show H.symm
def cf.short{S:jz->jz->Prop}(F:cf ls f r S)(b:z>ls):cf ls (λx=>if x=z then f (f z)else f x) r S:=by
 let d:f z≠z->aV (f _) z=gb:=λh=>by
  let g:=F.dec z b h;by_cases e:f (f z)=f z
  .show e▸g
  .show dY (F.dec _ (F.fin z b) e) g
 show%[F.ws,λx a=>?_,F.rin,λx a=>?_,λx a=>?_,λx a h=>?_,λx a h=>?_,F.le|F.cl]
 .split
  .show F.fin _ (F.fin z b)
  .show F.fin x a
 .by_cases e:x=z
  .rw[hY e,F.rf _ (F.fin z b),F.rf z b,e]
  .rw[hH e];show F.rf x a
 .by_cases e:r x=z
  .rw[hY e];let:=F.fr x a
   simp_all
  .rw[hH e];show F.fr x a
 .by_cases e:x=z
  .rw[hY e]at h;rw[e]at h ⊢;by_cases c:f z=z
   .show F.fix z b c
   .let:=d c;rw[h,dB]at this;cases this
  .rw[hH e]at h;show F.fix x a h
 .by_cases e:x=z
  .rw[hY e]at h ⊢;rw[e]at h ⊢;show d λc=>h ?_
   rw[c,c]
  .rw[hH e]at h ⊢;show F.dec x a h
def cf.done{S:jz->jz->Prop}(F:cf ls f r S)(a:z>ls)(h:∀w>ls,aV w z=gb->f w=r w):f (f z)=r z:=by
 by_cases e:f z=z
 .rw[e,e];show(F.fix z a e).symm
 .rw[h _ (F.fin z a) (F.dec z a e),F.rf z a]
abbrev Ed(ks:fx ZB)(a b:jz):Prop:=∃z,[a,b,z]>ks
inductive Rch (ks:fx ZB):jz->jz->Prop
 | one {a b:jz}:Ed ks a b->Rch ks a b
 | more {a b c:jz}:Rch ks a b->Ed ks b c->Rch ks a c
def Rch.trans(h:Rch ks a b)(g:Rch ks b c):Rch ks a c:=by
 induction g with
 | one e=>show .more h e
 | more _ e d=>show .more d e
def Rch.closed{R:jz->Prop}(a:∀y,Ed ks s y->R y)(h:∀x y,R x->Ed ks x y->R y)(r:Rch ks s y):R y:=by
 induction r with
 | one e=>show a _ e
 | more _ e b=>show h _ _ b e
def ur{ks:fx _}{laid:ZB}(h:∀i x,laid[i]?>=x->∀y,Ed ks x y->y>laid.take i){i:gf}{x y:jz}(hi:laid[i]?>=x)(r:Rch ks x y):∃j,j<i/\laid[j]?>=y:=by
 let b:∀i y,y>laid.take i->∃j,j<i/\laid[j]?>=y:=λi y d=>by
  let%[j|c]:=Xh d;let f:=(Xn c).1;rw[Yj]at f;show%[j,!_|by rwa[Y9 !_]at c]
 show r.closed (λy e=>b i y (h i x hi y e)) λa y ⟨j,m,c⟩ e=>?_
 let%[g,n|l]:=b j y (h j a c y e);show%[g,!_|l]
def Hk{laid:ZB}(h:∀(i:gf) x,laid[i]?>=x->∀y,Ed ks x y->y>laid.take i){x:jz}(a:x>laid): ¬ Rch ks x x:=by
 intro r;let%[i|hi]:=Xh a;let:∀n i:gf,i<=n->laid[i]? ≠fI x:=λn=>by
  induction n with
  | zero=>
    intro i hi e;let%[j,b|_]:=ur h e r
    lia
  | succ n c=>
    intro i hi e;let%[j,b|d]:=ur h e r;show c j ⋯ d
 show this i i (Zi _) hi
abbrev Wal:fx ZB->jz->jz->Prop
 |[],a,b=>a=b
 | k::r,a,b=>∃c z,k=[a,c,z]/\Wal r c b
def Wal.app:∀{us vs:fx ZB} {a:jz},Wal us a b->Wal vs b c->Wal (us++vs) a c
 |[],_,_,h,g=>h▸g
 | _::_,_,_,⟨d,z,e,h⟩,g=>%[d,z,e|h.app g]
abbrev Dst(ks:fx ZB)(s:jz)(n:gf)(x:jz):Prop:=∃us:fx _,us\5=n/\(∀k>us,k>ks)/\Wal us s x
def Dst.nil:Dst ks s 0 s:=%[[],rfl,λ_ h=>(nomatch h)|rfl]
def Dst.app(h:Dst ks s n x)(g:Dst ks x m y):Dst ks s (n+m) y:=by
 let%[us,d,a|b]:=h;let%[vs,g1,g2|g3]:=g;show%[us++vs,!2,λk c=>(Xo c).elim (a k) (g2 k)|b.app g3]
def Ed.dst(e:Ed ks s x):Dst ks s 1 x:=by
 let%[z|e]:=e;show%[[[s,x,z]],ρ,λk a=>(Xp a)▸e,x,z,ρ|ρ]
def Dst.last:∀{n:gf} {s:jz},Dst ks s (n+1) x->∃y,Dst ks s n y/\Ed ks y x
 | n,s,⟨[],a,_,_⟩=>(nomatch a)
 | 0,s,⟨[k],_,b,c,z,e,h⟩=>%[s,.nil,z|by rw[<-h,<-e];show b k Zm]
 | 0,s,⟨_::_::_,a,_,_⟩=>lr a ∅
 | n+1,s,⟨k::r,a,b,c,z,e,h⟩=>by
   let%[y,d|f]:=Dst.last %[r,↑a,λk g=>b k (Zk _ g)|h];let:Ed ks s c:=%[z|e▸b k Zm]
   show%[y,Uz 1 n▸this.dst.app d|f]
def Rch.dst(h:Rch ks a b):∃n,Dst ks a (n+1) b:=by
 induction h with
 | one e=>show%[0|e.dst]
 | more _ e c=>
   let%[n|h]:=c;show%[n+1|h.app e.dst]
def Dst.rch:∀{n:gf} {b:jz},Dst ks a (n+1) b->Rch ks a b
 | 0,b,h=>by
   let%[y,%[us,d,_|c]|e]:=h.last;rw[vu.mp d]at c;rw[c];show .one e
 | n+1,b,h=>by
   let%[y,h|e]:=h.last;show .more h.rch e
structure Lev (ks:fx ZB) (st:jz) (rs:fx (jz×hW×ZB)) (d:jz->gf) (k:gf) (F:ZB):Prop where
 nd:(rs\1).Nodup
 by_:∀r>rs,r.2.2>ks/\∃p z,r.2.2=[p,r.1,z]/\((p=st/\d r.1=1)\/(p≠st/\p>rs\1/\d r.1=d p+1))
 le:∀x>rs\1,d x<=k
 edge:∀x,x>F↔(k=0/\x=st)\/(1<=k/\x>rs\1/\d x=k)
 all:∀n x,1<=n->n<=k->Dst ks st n x->x>rs\1/\d x<=n
section
variable{ks:fx ZB}{st:jz}{rs:fx (jz×hW×ZB)}{d:jz->gf}{k:gf}{F:ZB}
def Lev.nil:Lev ks st [] (λ_=>0) 0 [st]:=
 %[X2,λ_ h=>(nomatch h),λ_ h=>(nomatch h),λx=>by simp|λn x a b=>by lia]
def Lev.dst(h:Lev ks st rs d k F)(a:x>rs\1):1<=d x/\Dst ks st (d x) x:=by
 let:∀m x,x>rs\1->d x<=m->1<=d x/\Dst ks st (d x) x:=λm=>by
  induction m with
  | zero=>
    intro x a l;let%[r,b|rfl]:=Xq a;obtain⟨_,p,z,_,⟨_,e⟩|⟨_,_,e⟩⟩:=h.by_ r b<;> lia
  | succ m g=>
    intro x a l;let%[r,b|rfl]:=Xq a;let%[c,p,z,i|q]:=h.by_ r b;rw[i]at c;let f:Ed ks p r.1:=%[z|c]
    rcases q with⟨rfl,e⟩|⟨_,j,e⟩
    .rw[e];show%[Zi _|f.dst]
    .show e▸%[!_|(g p j !_).2.app f.dst]
 show this _ x a (Zi _)
def Lev.min(h:Lev ks st rs d k F)(a:x>rs\1)(g:Dst ks st (n+1) x):d x<=n+1:=by
 by_cases c:n+1<=k
 .show(h.all _ x ⋯ c g).2
 .let:=h.le x a
  lia
def Lev.stop(h:Lev ks st rs d k []):∀{n:gf},Dst ks st (n+1) x->x>rs\1:=by
 let k1:=PR λc=>(nomatch (h.edge st).mpr (.inl %[c|rfl]))
 let:∀n x,Dst ks st (n+1) x->x>rs.map _:=λn=>by
  induction n with
  | zero=>show λx g=>(h.all 1 x (Zi _) k1 g).1
  | succ n a=>
    intro x g;let%[y,b|e]:=g.last;let q:=a y b;let l:=h.le y q;let ne:d y≠k:=λc=>(nomatch (h.edge y).mpr (.inr %[k1,q|c]))
    show(h.all _ x ⋯ ⋯ ((h.dst q).2.app e.dst)).1
 show λ{n}=>this n x
def Lev.step(h:Lev ks st rs d k F)(nd:((rs++new)\1).Nodup)(E:∀r>new,r.2.2>ks/\∃p z,p>F/\r.2.2=[p,r.1,z])
 (u:∀x>F,∀y,Ed ks x y->y>(rs++new)\1):Lev ks st (rs++new) (λx=>if x>new\1 then k+1 else d x) (k+1) (new\1):=by
 let l:=nd;rw[Zd,Yz]at l;let f:∀{x},x>rs\1->x∉new\1:=λ{x} a b=>l.2.2 x a x b rfl
 let mem:∀{x},x>(rs++new)\1↔x>rs\1\/x>new\1:=λ{x}=>by rw[Zd,Yq]
 let v:∀x>(rs++new)\1,(if x>new\1 then k+1 else d x)<=k+1:=λx j=>by
  by_cases c:x>new\1
  .rw[hY c];show Zi _
  .rw[hH c];let:=h.le x ((mem.mp j).resolve_right c);lia
 show%[nd,λr G=>?_,v,λx=>?_|λn x n1 M g=>?_]
 .rcases Xo G with q|q
  .let%[s,p,z,e|g]:=h.by_ r q;show%[s,p,z,e|?_];rw[hH (f (Xr %[r,q|rfl]))];show g.imp_right λ⟨a,b,c⟩=>%[a,mem.mpr (.inl b)|?_]
   rw[hH (f b)];show c
  .let%[s,p,z,H|e]:=E r q;let w:r.1>new\1:=Xr %[r,q|rfl];show%[s,p,z,e|?_];rw[hY w];rcases(h.edge p).mp H with⟨rfl,rfl⟩|⟨k1,b,c⟩
   .show .inl %[rfl|rfl]
   .show .inr %[λps=>?_,mem.mpr (.inl b)|by rw[hH (f b),c]];let:Ed ks st r.1:=%[z|by rw[<-ps,<-e];show s]
    show f (h.all 1 _ (Zi _) k1 this.dst).1 w
 .show%[λj=> .inr %[!_,mem.mpr (.inr j)|hY j]|λj=>?_];rcases j with⟨a,_⟩|⟨_,a,b⟩
  .lia
  .show(mem.mp a).resolve_left λc=>?_
   rw[hH (f c)]at b;let:=h.le x c
   lia
 .let i:∀{m},1<=m->m<=k->Dst ks st m x->x>(rs++new).map _/\(if x>new.map _ then k+1 else d x)<=m:=λa b g=>by
   let%[o|A]:=h.all _ x a b g;show%[mem.mpr (.inl o)|by rw[hH (f o)];show A]
  by_cases c:n<=k
  .show i n1 c g
  .obtain rfl:n=k+1:=by lia
   let fin:x>(rs++new).map _->x>(rs++new).map _/\(if x>new.map _ then k+1 else d x)<=k+1:=λa=>%[a|v x a]
   let%[y,B|e]:=g.last;by_cases I:k=0
   .subst I;let%[us,J,_|C]:=B;rw[vu.mp J]at C;show fin (u y ((h.edge y).mpr (.inl %[rfl|(C).symm])) x e)
   .let%[o|A]:=h.all k y ⋯ (Zi _) B;by_cases L:d y=k
    .show fin (u y ((h.edge y).mpr (.inr %[!_,o|L])) x e)
    .show fin (i ⋯ ⋯ ((h.dst o).2.app e.dst)).1
end
structure Sho (ks:fx _) (a b:jz) (us:fx _):Prop where
 sub:∀k>us,k>ks
 wal:Wal us a b
 pos:0<us\5
 min:∀n,Dst ks a (n+1) b->us\5<=n+1
def Sho.dst(h:Sho ks a b us):∃n,us\5=n+1/\Dst ks a (n+1) b:=
 %[us\5-1,by let:=h.pos;lia,us,by let:=h.pos;lia,h.sub|h.wal]
def Sho.rch(h:Sho ks a b us):Rch ks a b:=by
 let%[n,_|d]:=h.dst;show d.rch
def Ff{U:ZB}(h:∀x>U,∃y>U,Ed ks x y)(nr:∀x,¬ Rch ks x x){x:jz}(i:x>U):yc:=by
 let:∀n,∃a p,p\5=n/\(a::p).Nodup/\(∀y>a::p,y>U)/\∀y>p,Rch ks y a:=λn=>by
  induction n with
  | zero=>show%[x,[],ρ,by simp,↑i|λ_ h=>(nomatch h)]
  | succ n j=>
    let%[a,p,l,nd,d|r]:=j;let%[b,m|e]:=h a (d a Zm);let g:∀y>a::p,Rch ks y b:=λy f=>by
     rcases Yu.mp f with rfl|q
     .show .one e
     .show .more (r y q) e
    show%[b,a::p,!2,MO.mpr %[λc=>nr b (g b c)|nd],λy f=>?_|g];rcases Yu.mp f with rfl|q
    .show m
    .show d y q
 let%[a,p,l,nd,d|_]:=this U.length;let:=_ST.nodup_sub nd d;rw[Zr]at this
 lia
structure Mat {α:Type} (E:α->α->Prop) (L:fx α) (m:α->α):Prop where
 nd:L.Nodup
 inj:∀x>L,∀y>L,m x=m y->x=y
 ed:∀x>L,E (m x) x
structure mD {α:Type} (E:α->α->Prop) (L:fx α) (m:α->α) (S T:α->Prop):Prop where
 nb:∀a,S a->∀p,E a p->T p
 mt:∀p,T p->p>L/\S (m p)
structure Ask {α:Type} (E:α->α->Prop) (L:fx α) (m:α->α) (A0 Q:fx α) (g:α->α):Prop where
 nd:Q.Nodup
 by_:∀i x,Q[i]?>=x->E (g x) x/\(g x>A0\/∃y>Q.take i,y>L/\m y=g x)
section
variable{α:Type}[MM α]{E:α->α->Prop}{L A0 Q:fx α}{m g:α->α}{S T S' T':α->Prop}
def mD.or(h:mD E L m S T)(k:mD E L m S' T'):mD E L m (λa=>S a\/S' a) (λp=>T p\/T' p):=
 %[λa s p e=>s.imp (λs=>h.nb a s p e) λs=>k.nb a s p e|λp t=>t.elim (λt=>%[(h.mt p t).1|.inl (h.mt p t).2]) λt=>%[(k.mt p t).1|.inr (k.mt p t).2]]
def Ask.shut(a:Ask E L m A0 Q g)(h:mD E L m S T)(d:∀x>A0,S x):∀x>Q,T x:=by
 let:∀(n i:gf) x,i<n->Q[i]?>=x->T x:=λn=>by
  induction n with
  | zero=>show λi x l=>lr l (X3 _)
  | succ n f=>
    intro i x l e;let%[o|b]:=a.by_ i x e;show h.nb _ ?_ x o;rcases b with b|⟨y,p,s,b⟩
    .show d _ b
    .let%[j|c]:=Xh p;let q:=(Xn c).1;rw[Yj]at q;rw[Y9 !_]at c;show b▸(h.mt y (f j y ⋯ c)).2
 intro x r;let%[i|hi]:=Xh r;show this _ i x (Ym _) hi
def Ask.closed(c:∀x>Q,x>L)(d:∀b,(b>A0\/∃y>Q,y>L/\m y=b)->∀p,E b p->p>Q):mD E L m (λb=>b>A0\/∃y>Q,y>L/\m y=b) (λp=>p>Q):=
 %[d|λp a=>%[c p a|.inr %[p,a,c p a|rfl]]]
structure qY {α:Type} (E:α->α->Prop) (L Q:fx α) (m g:α->α) (T:α->Prop) (f:α) (C:fx α) (i:gf) (p:α):Prop where
 at_:Q[i]?>=p
 own:p=f\/p>L
 far:∀x>C,∃j,i<j/\Q[j]?>=x
 nx:∀x>C,∃y,y>L/\m y=g x/\(y>C\/y=p)
 inj:∀x>C,∀y>C,g x=g y->x=y
 pv:∀y,y>C\/y=p->y=f\/(y>L/\∃x>C,g x=m y)
 nt:∀y,y>C\/y=p-> ¬ T y
 hf:f>C\/p=f
def qZ{Q:fx α}(nd:Q.Nodup){i j:gf}{x:α}(h:Q[i]?>=x)(k:Q[j]?>=x):i=j:=(fx.getElem?_inj (Xn h).1 nd).mp (h.trans k.symm)
def qY.start(h:mD E L m S T)(b:f∉L)(e:Q[i]?>=f):qY E L Q m g T f [] i f:=
 %[e,.inl rfl,λ_ h=>(nomatch h),λ_ h=>(nomatch h),λ_ h=>(nomatch h),λy a=>a.elim (λh=>(nomatch h)) .inl,λy a t=>a.elim (λh=>(nomatch h)) λe=>b (e▸(h.mt y t).1)|.inr rfl]
def qY.inj'(M:Mat E L m)(a:Ask E L m A0 Q g){f:α}{C:fx α}{i:gf}{p:α}(b:qY E L Q m g T f C i p):∀x>C++[p],∀y>C++[p],(∀z>L,m z=g p->z>Q.take i)->g x=g y->x=y:=by
 let o:∀x>C,(∀z>L,m z=g p->z>Q.take i)->g x≠g p:=λx c h e=>by
  let%[y,q,r|n]:=b.nx x c;let%[j|l]:=Xh (h y q (r.trans e));let s:=(Xn l).1;rw[Yj]at s;rw[Y9 !_]at l;rcases n with n|rfl
  .let%[k,v|u]:=b.far y n;let:=qZ a.nd l u
   lia
  .let:=qZ a.nd l b.at_
   lia
 intro x c y d h e;rcases Xo c with c|c<;> rcases Xo d with d|d
 .show b.inj x c y d e
 .rw[Xp d]at e;show(o x c h e).elim
 .rw[Xp c]at e;show(o y d h e.symm).elim
 .rw[Xp c,Xp d]
def qY.step(M:Mat E L m)(a:Ask E L m [w] Q g)(A:∀x>L,m x≠w)(h:mD E L m S T)(b:qY E L Q m g T f C i p)(n:y>L)(o:m y=g p):∃j,j<i/\qY E L Q m g T f (C++[p]) j y:=by
 let%[B|s]:=a.by_ i p b.at_;let v:y>Q.take i:=by
  rcases s with s|⟨z,c,q,r⟩
  .show(A y n (o.trans (Xp s))).elim
  .rw[M.inj y n z q (o.trans r.symm)];show c
 let%[j|u]:=Xh v;let G:=(Xn u).1;rw[Yj]at G;rw[Y9 !_]at u;let l:∀{x},x>C++[p]↔x>C\/x=p:=λ{x}=>by rw[Yq,Yx]
 show%[j,!_,u,.inr n,λx d=>?_,λx d=>?_,λx d z c=>b.inj' M a x d z c λz q r=>(M.inj z q y n (r.trans o.symm))▸v,λz c=>?_,λz c t=>?_|.inl (l.mpr (b.hf.imp_right YI))]
 .rcases l.mp d with d|rfl
  .let%[k,J|H]:=b.far x d;show%[k,!_|H]
  .show%[i,!_|b.at_]
 .rcases l.mp d with d|rfl
  .let%[z,q,r|I]:=b.nx x d;show%[z,q,r|.inl (l.mpr I)]
  .show%[y,n,o|.inr rfl]
 .rcases c with c|rfl
  .show(b.pv z (l.mp c)).imp_right λ⟨a,x,d,e⟩=>%[a,x,l.mpr (.inl d)|e]
  .show(.inr %[n,p,l.mpr (.inr rfl)|o.symm])
 .rcases c with c|rfl
  .show b.nt z (l.mp c) t
  .show b.nt p (.inr rfl) (h.nb _ (o▸(h.mt z t).2) p B)
def qY.fin(M:Mat E L m)(a:Ask E L m [B] Q g)(h:mD E L m S T)(b:qY E L Q m g T f C i p)(J:f∉L)(N:∀y>L,m y≠g p)(nd:v.Nodup)(G:∀x,x>v↔x>L\/x=f):
 Mat E v (λx=>if x>C++[p]then g x else m x)/\mD E v (λx=>if x>C++[p]then g x else m x) S T/\g p=B/\(∀x>v,(if x>C++[p]then g x else m x)=B\/∃y>L,m y=if x>C++[p]then g x else m x)/\∀y,y=B\/(∃x>L,m x=y)->∃x>v,(if x>C++[p]then g x else m x)=y:=by
 let r:∀{x},x>C++[p]↔x>C\/x=p:=λ{x}=>by rw[Yq,Yx]
 let O:g p=B:=by
  obtain⟨_,e|⟨y,_,H,ym⟩⟩:=a.by_ i p b.at_
  .show Xp e
  .show(N y H ym).elim
 let U:∀x>C++[p],∃j,Q[j]?>=x:=λx l=>by
  rcases r.mp l with l|rfl
  .let%[j,_|e]:=b.far x l;show%[j|e]
  .show%[i|b.at_]
 let o:∀x>v,x∉C++[p]->x>L:=λx l n=>((G x).mp l).resolve_right λe=>n (e▸r.mpr (b.hf.imp_right YI))
 let s:∀x>C++[p],∀y>L,y∉C++[p]->g x≠m y:=λx l y H n e=>by
  rcases r.mp l with l|rfl
  .let%[z,w,A|zc]:=b.nx x l;show n ((M.inj y H z w (e.symm.trans A.symm))▸r.mpr zc)
  .show N y H e.symm
 show%[%[nd,λx l y I e=>?_|λx l=>?_],%[h.nb|λq t=>%[(G q).mpr (.inl (h.mt q t).1)|?_]],O,λx l=>?_|λy I=>?_]
 .by_cases d:x>C++[p]<;> by_cases u:y>C++[p]
  .rw[hY d,hY u]at e;show b.inj' M a x d y u (λz w A=>(N z w A).elim) e
  .rw[hY d,hH u]at e;show(s x d y (o y I u) u e).elim
  .rw[hH d,hY u]at e;show(s y u x (o x l d) d e.symm).elim
  .rw[hH d,hH u]at e;show M.inj x (o x l d) y (o y I u) e
 .by_cases d:x>C++[p]
  .rw[hY d];let%[j|e]:=U x d;show(a.by_ j x e).1
  .rw[hH d];show M.ed x (o x l d)
 .rw[hH (λc=>b.nt q (r.mp c) t)];show(h.mt q t).2
 .by_cases d:x>C++[p]
  .rw[hY d];rcases r.mp d with d|rfl
   .let%[z,w,A|_]:=b.nx x d;show .inr %[z,w|A]
   .show .inl O
  .rw[hH d];show .inr %[x,o x l d|rfl]
 .let mem:=λx l=>(G x).mpr ((b.pv x (r.mp l)).elim .inr λh=> .inl h.1)
  rcases I with rfl|⟨x,Y,rfl⟩
  .show%[p,mem p (r.mpr (.inr rfl))|(hY (r.mpr (.inr rfl)))▸O]
  .by_cases d:x>C++[p]
   .rcases b.pv x (r.mp d)with e|⟨_,z,hz,e⟩
    .show(J (e▸Y)).elim
    .show%[z,mem z (r.mpr (.inl hz))|(hY (r.mpr (.inl hz)))▸e]
   .show%[x,(G x).mpr (.inl Y)|by rw[hH d]]
end
def rc(lt:q->q->on)(c:∀x y,lt x y=gi->x≠y->lt y x=gb):∀{l m:fx q},l.Pairwise (λa b=>lt b a=gi)->m.Pairwise (λa b=>lt b a=gi)->l.Nodup->m.Nodup->(∀x,x>l↔x>m)->l=m
 |[],[],_,_,_,_,_=>rfl
 |[],y::m,_,_,_,_,h=>lr ((h y).mpr Zm) ∅
 | x::l,[],_,_,_,_,h=>lr ((h x).mp Zm) ∅
 | x::l,y::m,s,u,nl,v,h=>by
   let%[f|g]:=Sv.mp s;let%[i|j]:=Sv.mp u;let%[w|n]:=MO.mp nl;let%[A|o]:=MO.mp v;let e:=Nw λd=>by
    let B:=(Yu.mp ((h x).mp Zm)).resolve_left d;let r:=f y ((Yu.mp ((h y).mpr Zm)).resolve_left (wh d));rw[c x y (i x B) d]at r;cases r
   subst e;rw[rc lt c g j n o λz=>?_]
   constructor
   .intro p;rcases Yu.mp ((h z).mp (Zk _ p))with e|e
    .simp_all
    .show e
   .intro p;rcases Yu.mp ((h z).mpr (Zk _ p))with e|e
    .simp_all
    .show e
abbrev Let(rows:ZB)(c:gf):Prop:=c≠46/\∃r>rows,c>r.cps.toList
abbrev Hl(rows:ZB)(a b:gf):Prop:=a≠46/\a≠b/\∃(i j:gf) (r c:jz),rows[i]?>=r/\rows[i+1]?>=c/\r.cps[j]?>=a/\c.cps[j]?>=b
def i4:c>dQ rows↔Let rows c:=by
 unfold dQ Let;rw[kw,w8,Sx,xr]
 constructor
 .rintro⟨⟨l,e,b⟩,a⟩;let%[r,d|rfl]:=Xq e;show%[a,r,d|b]
 .rintro⟨a,r,d,b⟩;show%[%[_,Xr %[r,d|ρ]|b]|a]
abbrev St(wd:on)(c d:md):Prop:=c<=d+(if wd=gb then 1 else 0)/\d<=c+(if wd=gb then 1 else 2)
abbrev iq(wd:on)(b:ZL):Prop:=∃a:gf,a<b\5/\(∀k c,b[k]?>=c->(k<a->c= -1)/\(a<=k->0<=c/\c<=7))/\∀k c d,b[k]?>=c->b[k+1]?>=d->a<=k->St wd c d
abbrev sg(a s:md):gf:=if a<0 then 46 else 97+((a*5+s)%26).toNat
def KC(h:0<=a):jI (sg a s)=gb:=by
 unfold sg;rw[hH !_,nM]
 lia
def KD(h:a<0):sg a s=46:=hY h
def Fg(h:0<=a):sg a s≠46:=by
 unfold sg;rw[hH !_]
 lia
def KF(e:0<=a)(c:a<=7)(f:0<=b)(d:b<=7)(h:sg a s=sg b s):a=b:=by
 unfold sg at h;rw[hH (md.not_lt.mpr e),hH (md.not_lt.mpr f)]at h;let h:=nY (λn:gf=>(n:md)) (RB h);let m:∀x:md,((x%26).toNat:md)=x%26:=λx=>RC (Pr _ (!1))
 replace h:(a*5+s)%26=(b*5+s)%26:=(m _).symm.trans (h.trans (m _));let h:=md.emod_eq_emod_iff_emod_sub_eq_zero.mp h;let%[x|rfl]:=Xj e;let%[y|rfl]:=Xj f;rw[show(x:md)*5+s-((y:md)*5+s)=(x:md)*5-(y:md)*5 from md.add_sub_add_right _ _ _]at h;show nY _ ((by decide:∀x:Fin 8,∀y:Fin 8,((x.val:md)*5-(y.val:md)*5)%26=0->x.val=y.val) %[x|VH (XV.mp c)] %[y|VH (XV.mp d)] h)
abbrev j7(a:fx ZL)(b:md)(k:gf):jz:=⟨(a.map λc=>sg (c.getD k 0) b).toArray⟩
abbrev drawn(a:fx ZL)(hi:gf)(b:md):ZB:=(kj hi).map (j7 a b)
def i5(h:(drawn a hi c)[k]?>=z):k<hi/\z=j7 a c k:=by
 unfold drawn at h;rw[Zl]at h;by_cases b:k<hi
 .rw[O8 b]at h;show%[b|(Za h).symm]
 simp_all
def nT{a:fx ZL}{k j c:gf}(h:(j7 a d k).cps[j]?>=c):∃b,a[j]?>=b/\c=sg (b.getD k 0) d:=by
 let h:(a.map λc=>sg (c.getD k 0) d)[j]?>=c:=by simpa [j7]using h
 rw[Zl]at h;cases e:a[j]? with
 | none=>simp_all
 | some b=>rw[e]at h;show%[b,ρ|(Za h).symm]
def eA{a:ZL}(b:a\5=hi)(c:k<hi):a[k]?>=a.getD k 0:=by
 simp_all
def xR{a:fx ZL}{d:md}{wd:on}(I:1<=hi)(J:hi<=40)(w:1<=a\5)(y:a\5<=40)(u:∀c>a,c\5=hi/\iq wd c):cV (drawn a hi d):=by
 let len:(drawn a hi d)\5=hi:=by unfold drawn;rw[Z6,Yh]
 let f:∀z>drawn a hi d,∃k,k<hi/\z=j7 a d k:=λz g=>by
  let%[k|e]:=Xh g;show%[k|i5 e]
 show%[!_,!_,%[a\5,w,y|λz g=>?_],λz g=>?_,λi r L A B j c M g1 g2 p=>?_|?_]
 .let%[k,_|rfl]:=f z g;simp[j7]
 .let%[k,h|rfl]:=f z g;rw[N3];intro c q;let%[j|C]:=Xh q;let%[b,s|rfl]:=nT (j:=j) ↑C;by_cases E:b.getD k 0<0
  .rw[KD E];decide +kernel
  .unfold okc;rw[KC !_,Ub]
 .let%[hi1|rfl]:=i5 A;let%[hi2|rfl]:=i5 B;let%[b,s|rfl]:=nT g1;let%[v,l|rfl]:=nT g2;rw[s]at l;cases l;let%[o,m,G,h|_]:=u b (Z8 s);by_cases H:i+1<m
  .rw[(h i _ (eA o hi1)).1 !_];rfl
  .show lr p (Fg ((h _ _ (eA o hi2)).2 !_).1)
 .let n:0<a\5:=by lia
  let%[o,m,G,h|_]:=(u _ (Yb n))
  show%[j7 a d _,Xr %[hi-1,by rw[vj];lia|ρ],sg (a[0].getD (hi-1) 0) d,Xr %[a[0],Yb n|ρ]|Fg ((h _ _ (eA o !_)).2 !_).1]
def xS{i:md}{wd:on}(s:∀c>d,c\5=hi/\iq wd c){c:gf}:Let (drawn d hi i) c↔∃a:md,0<=a/\a<=7/\(∃b>d,a>b)/\c=sg a i:=by
 constructor
 .rintro⟨l,r,u,m⟩;let%[k|e]:=Xh u;let%[h|rfl]:=i5 e;let%[j|v]:=Xh m;let%[b,w|rfl]:=nT ↑v;let f:=Z8 w;let%[n,o,B,y|_]:=s b f;let g:=eA n h;let q:=y k _ g;let:o<=k:=by
   show O4 λz=>l ?_
   rw[q.1 z];rfl
  show%[_,(q.2 this).1,(q.2 this).2,%[b,f|Z8 g]|ρ]
 .rintro⟨a,A,C,⟨b,f,p⟩,rfl⟩;let%[n|_]:=s b f;let%[k|h]:=Xh p;show%[Fg A,j7 d i k,Xr %[k,by rw[vj];show(n▸(Xn h).1)|ρ]|Xr %[b,f|?_]];rw[Zc,h];rfl
abbrev there(b:fx ZL):ZL:=((kj 8).filter λa:gf=>b.any λc=>decide ((a:md)>c)).map λa:gf=>a
def gj:a>there c↔0<=a/\a<=7/\∃b>c,a>b:=by
 unfold there;rw[Yv]
 constructor
 .rintro⟨n,f,rfl⟩;rw[kw,vj,TK]at f;let%[g,b,d|e]:=f;show%[!_,!_,b,d|Zo e]
 .rintro⟨h,i,b,d,e⟩;show%[a.toNat,?_|!_];rw[kw,vj,TK];show%[!_,b,d|Zf ?_];rw[show a.toNat=a by lia];show e
def xT(a:fx _):(there a).Nodup:=by
 unfold there;rw[X1,X7];show(XT _ (X1.mp PF)).imp λh e=>h !_
def Fh{a:fx ZL}{hi:gf}(i:1<=hi)(j:1<=a\5)(d:∀c>a,c\5=hi/\iq wd c):there a≠[]:=by
 let b:0<a\5:=by lia
 let%[e,f,l,h|_]:=d _ (Yb b);let g:=eA e (show hi-1<hi by lia);let q:=(h _ _ g).2 !_;show U7 (gj.mpr %[q.1,q.2,_,Yb b|Z8 g])
def nU(a:fx _):(there a)\5<=8:=by
 unfold there;rw[Z6];show lx (Yg _ _) (Zi _)
abbrev eJ(n:jz)(c:gf):jz:=⟨(n.cps.toList++[46,c]).toArray⟩
def nV(h:eJ n c=eJ m d):n=m/\c=d:=by
 let e:=by
  let:=nY (λz=>z.cps.toList) h;simpa [eJ]using this
 let q:=fx.append_inj' e rfl;show%[im q.1|?_];let:=q.2;simpa using this
abbrev z0(rows:ZB):Prop:=∃m:fx _,m\5<=26/\∀a b,Hl rows a b->[sgn a,sgn b]>m
abbrev z1(wd:on):fx (md×md):=((kj 7).map λi:gf=>((i:md),(i:md) +1)) ++if wd=gb then(kj 7).map λi:gf=>((i:md) +1,(i:md))else(kj 6).map λi:gf=>(i,i+2)
def Cw(h:St wd c d)(c0:0<=c)(a:c<=7)(b:0<=d)(f:d<=7)(ne:c≠d):(c,d)>z1 wd:=by
 unfold St at h;unfold z1;rw[Yq];by_cases e:d=c+1
 .show .inl (Xr %[c.toNat,vj.mpr !_|by rw[show c.toNat=c by lia,e]])
 .show .inr ?_;cases wd
  .show Xr %[c.toNat,vj.mpr !_|by rw[show c.toNat=c by lia,show d=c+2 by lia]]
  .show Xr %[d.toNat,vj.mpr !_|by grind]
def Fi{hi:gf}{h:md}{wd:on}(v:∀c>d,c\5=hi/\iq wd c):z0 (drawn d hi h):=by
 show%[(z1 wd).map λp=>[sgn (sg p.1 h),sgn (sg p.2 h)],?_|?_]
 .rw[Z6];cases wd<;> decide
 .intro a b %[n1,w,i,j,r,E,y,A,g1|g2];let%[hi1|rfl]:=i5 y;let%[hi2|rfl]:=i5 A;let%[l,n|rfl]:=nT g1;let%[o,f|rfl]:=nT g2;rw[n]at f;cases f;let%[g,B,G,m|C]:=v l (Z8 n);let q:=O4 λz=>n1 (by rw[(m i _ (eA g hi1)).1 z];rfl)
  let s:=(m i _ (eA g hi1)).2 q;let u:=(m _ _ (eA g hi2)).2 !_;show Xr %[(_,_),Cw (C i _ _ (eA g hi1) (eA g hi2) q) s.1 s.2 u.1 u.2 (λe=>w (by rw[e]))|rfl]
end _CU
namespace _KK
open PySem _LL _CU
nonrec abbrev ZqS:=XU
nonrec def zqn:Lean.Name->mx ZqS->ZqS:= .node .none
nonrec def zqa:MX->ZqS:= .atom .none
nonrec def zqi(s:MX):ZqS:=Lean.mkIdent s.toName
nonrec def zqh:ZqS:=zqn `Lean.Parser.Term.hole #[zqa "_"]
nonrec def zqf(k:gf)(b:ZqS):ZqS:=zqn `Lean.Parser.Term.fun #[zqa "fun",zqn `Lean.Parser.Term.basicFun #[zqn `null (VN k zqh),zqn `null #[],zqa "=>",b]]
nonrec def zqd(c:Char):ZqS:=XU.mkNumLit (toString (c.toNat-48))
nonrec def zqe(a:mx ZqS)(x:MX):ZqS:=if x="r"then zqi "rfl"else if x="n"then a[0]! else if x="h"then a.back! else if x="_"then zqh else if x="f"then zqf 2 (zqi "rfl") else if x="g"then zqf 1 (zqi "rfl") else if 1<x\5 then zqi x else zqn `Lean.Parser.Term.namedArgument #[zqa "(",zqi x,zqa ":=",zqi x,zqa ")"]
nonrec def zqx(r:mx ZqS):ZqS:=if r[0]!.isAtom then(if r[0]!.getAtomVal=""then zqf 3 r[1]! else r[1]!)else if r.size<2 then r[0]! else zqn `Lean.Parser.Term.app #[r[0]!,zqn `null (r.extract 1 r.size)]
nonrec def zqp(s t:MX):gf:=(s.splitOn t).head!.length
nonrec def zqs(t:MX)(a:mx ZqS)(l:fx Char)(k:fx (fx MX×mx ZqS)):fx Char×fx (fx MX×mx ZqS):=
 let f:=k.head!
 let k:=k.tail
 let x:=f.1.headD ""
 let w:=f.1.tail
 let c:=l.headD ' '
 if f.1.isEmpty then(l,(k.head!.1,k.head!.2.push (zqx f.2))::k.tail)
 else if x="#"then(l.tail,(w,f.2.push (zqd c))::k)
 else if x="L"then(l,(["*"],#[zqa ""])::(w,f.2)::k)
 else if x="*"then
  if c.isDigit then(l.tail,(["r"],#[zqi "af",zqd c])::(w,f.2)::k)
  else if c='?'then(l.drop 2,(w,f.2.push a[l[1]!.toNat-48]!)::k)
  else
   let p:=zqp "~]`" c.toString
   let q:=if p<3 then 1 else 0
   let s:=((t.splitOn "|")[(74+84*p)*q+zqp "ABCDEFGHIJKLMNOPQRSTUVWXYZabcdefghijklmnopqrstuvwxyz!$%&'()*+,./:;<=>^_|}[0123456789" l[q]!.toString]!).splitOn " "
   (l.drop (q+1),(s.tail,#[zqi s.head!])::(w,f.2)::k)
 else(l,(w,f.2.push (zqe a x))::k)
nonrec def zqt(t:MX)(a:mx ZqS)(l:fx Char):gf->ZqS
 |n=>(n.fold (λ_ _ s=>if ~~~s.2=1&&s.2.head!.1.isEmpty then s else zqs t a s.1 s.2) (l,[(["*"],#[zqa "1"])])).2.head!.2[1]!
nonrec def zqm(s:Lean.StrLit)(a:mx Lean.Term):Lean.MacroM Lean.Term:=
 return⟨zqt "paE r * *|ao|ax|ak * *|au *|opE * * *|aG * h r *|aJ # n r *|aO *|QSs.h *|a9 # r|bh * r * *|aH # n r|gsE r * *|bH K r f * *|ifS * * *|a8|cn K r f * *|bC|cC NP r r * * *|c6 *|cS K r *|aH # * r|bO r *|c9|aA.of *|Z1|Z0|cbO * T.a0 PySem.boot_len r *|bZ K r|bL|d5 K r r r *|cz|cK h f * *|cU * r r * L L L|wT *|eG *|cD|ic g *|bv|bmO K NI PySem.F.slot_list_append PySem.F.type_list_append * r * *|jS|eBl|dG|kQ * r * *|fj|kR # n r * * r *|fM|lV *|fK h r * * *|fh r T.aj r *|lE * *|fJ *|lU * *|orW * *|nJ *|cbO * T.a9 TJ r *|pJ *|iR|iS *|dH|iT|cbO * T.ac Rv r *|j6 K r|qx|jj|wO *|ctO * T.a6 Q6 r *|j0 NP * *|ip h r * *|wN|oP|qw *|ctO * T.a8 boot_set r *|af # r|gvE T.ao r r|zo|gF # n r * * r * r r * L L L|BX|lF K r|ug * T.o_Ground h r r *|gvE T.ap r r|xN K r|gvE T.aw r r|wX K w r r r|wP K r r T.ae r *|pjE * *|dh T|DR r r r * *|bmO K OA UM type_dict_get * r * *|qy|bY T|cbO * T.a1 boot_min r *|Hi K r * * *|lW # n r * *|bmO K Uh slot_str_join type_str_join * r * *|vh K r|jx T|jt w r r|G4 K r r * *|AE|AJ *|iH T|cbO * T.a7 boot_max r *|ctO * T.ah boot_int r *|DT|zk * * r * * *|cbO * T.aa boot_all r *|DS K r r|KA *|orV * *|noO|bmO K NI XE XD * r * *|lZ|JS *|Kh h r * *|jy T|Kg K r r *|fG T|eT T|Hv K r NI PySem.F.slot_list_append PySem.F.type_list_append * r r r r * *|bmO K OA RT VR * r * *|fQ|eU T|eF T|we T|fH T|vV r r *|HW r|LD f * *|qS # n r * * r *|Il|gvE T.ar r r|Ik|DV r T.af r r *|mW T|oa T|t8 P w r r r|EG K P w r r r r h|En *|Em|t9 K r|Ij|gW T|EN r|jc T|uJ T|kz T|ctO * T.al boot_dict r *|AK K r r h|bmO K OA XF PySem.F.type_dict_update * r * *|xM|fY T|jQ T|nD T|lK K r|bmO K NI PySem.F.slot_list_index PySem.F.type_list_index * r * *|AF|sr T|x3 T|LA r|v4 T|lW # * r * *|valT g *|cbO * T.ak boot_any r *|L6 K r r|parS # # r n r * * r r|gvE T.av r r|bmO K Uh PySem.F.slot_str_split PySem.F.type_str_split * r * *|Au|gvE T.au r r|Fs T|rH T|LS K r r T.af r r *|lN T|gvE T.aq r r|gvE T.az r r|gvE T.aA r r|LV K r T.t_LAYER_WORDS r r|LV K r T.t_YEAR_WORDS r r|CJ T|slSE K r * * *|CI T|Fx T|gvE T.ax r r|rN T|gvE T.ay r r|x9 T|CF T|z8 T|v6 T|yf T|pR T|Ck K r|rO T|np T|yb T|pQ T|CC T|v9 T|Ki r|pS T|G9 r|Lw K r OA PySem.F.slot_dict_values PySem.F.type_dict_values * r r *|ER|sW T|Aa T|EV r r T.a5 r T.a6 r *|yk T|FF T|lO T|Kj K r r|bmO K NI PySem.F.slot_list_remove PySem.F.type_list_remove * r * *|ET|Kq w r|wj T|rV T|Lz|JT b.ex *|JR * h r r r r *|C_Torn T|lB T|dinE h r * *|truN K r g *|nC T|gvE T.aB r r|sj T|pG T|gvE T.aC r r|gvE T.aD r r|Lw K r NI PySem.F.slot_list_pop PySem.F.type_list_pop * r r *|L4|Ky|CS T|ifE * * *|oA T|nE T|uq K r|gY T|Ly r r r r *|JH * * *|Lx|LW h|yM T|Ic h|E9 h|LX h|q_ge|wa T|CA T|yB T|ny T|LY * T.o_Ground h r *|Fy T|KU T|oF T|yQ T|HA T|tq T|Hj r|ctO * T.aj YD r *|Kz|sk T|yN T" (a.map (·.raw)) s.getString.toList 9999⟩
nonrec abbrev ZM:=fx V
nonrec abbrev ZN:=fx (hW×fx V)
local macro_rules|`(%[$s:str,$x,*|$y])=>zqm s (x.getElems.push y)|`(%[$s:str|$y])=>zqm s #[y]
local macro_rules|`(tactic|lk)=>do
 let x<-("aZ C2 kO jU kY uV IU kZ wF tB F6 tOr IH C0 IL tIf tOp tUn tC IA IB tCB tz BH Dk Jk Jl yV tBM GA tSl Dq uZ BR rI rI0 rU JB JD rEq rNe HU Jw Jo Jp Jq Lu zq vd Gd C6 IR HX HY L9 Mb Ib Aq Ar Jf Jg JM tM GD ve zd ze Dz EO EQ Kk vN zR Kn Kr E5 xF rIn Jt Jz vb At Dc Ma K4 K5 K6 K7 Mf Iv Iw Iy Mc Me".splitOn " ").toArray.mapM λs=>`(Lean.Parser.Tactic.simpLemma|↓$(Lean.mkIdent s.toName):ident)
 let y<-("qG Gk BA Jc cond_true cond_false List.getElem?_cons_zero List.getElem?_cons_succ List.set_cons_zero List.set_cons_succ Option.some.injEq V.int.injEq V.str.injEq V.bl.injEq V.ref.injEq V.ty.injEq List.cons.injEq reduceCtorEq and_true true_and and_false false_and or_false false_or or_true true_or exists_false exists_eq_left' exists_eq_left exists_eq_right exists_eq_right' exists_and_left exists_and_right exists_eq cons_append nil_append exists_const and_assoc Int.zero_add Bool.not_true Bool.not_false Zy if_true if_false eq_self".splitOn " ").toArray.mapM λs=>`(Lean.Parser.Tactic.simpLemma|$(Lean.mkIdent s.toName):ident)
 `(tactic|simp only[$(x++y),*])
local macro_rules|`(!$n:ident)=>`(some (V.ref $n))
local macro_rules|`(-$n:ident)=>`(some (V.str $n))
local macro_rules|`(#[$n:num])=>`((show $n≤sizeLine by decide))|`(#[$x])=>`(paE rfl $x ao)|`(#[$x,$y,*])=>`(paE rfl $x #[$y,*])
local macro_rules|`(tactic|walk)=>`(tactic|refine⟨rfl,rfl,rfl,?_,rfl,?_,?_⟩<;>decide +kernel)
def zq0{P:List Value->Prop}(h:P []):∀u,u\5=0->P u:=λu e=>by rw[List.length_eq_zero_iff.mp e];show h
def zq1{n:Nat}{P:List Value->Prop}(h:∀a,∀u,u\5=n->P (a::u)):∀u,u\5=n+1->P u:=λu e=>by
 cases u with
 |nil=>cases e
 |cons a u=>show h a u (Nat.succ.inj e)
local macro_rules|`(tactic|room)=>`(tactic|(intro _ _ _ _ _ _;(repeat(refine zq1 λ_=>?_));exact zq0 rfl))
set_option hygiene false in
local macro_rules|`(↑$n:num)=>`(af $n rfl)|`(↑($x,$y))=>`(show ba _ _ _ $x $y=true from rfl)|`(↑[$x,*])=>`(show([$x,*]:ZB).Nodup from by decide)
set_option hygiene false in
local macro_rules|`($a*>$b)=>`(cn (K:=K) rfl (λ_ _=>rfl) $a $b)
set_option hygiene false in
local macro_rules|`($a>>$b)=>`(bH (K:=K) rfl (λ_ _=>rfl) $a $b)
abbrev top(i:gf):v0:=PySem.Challenge.pw_digbook_k96_whole_ring_or_fewest.main.body.getD i (.Pass %[0,0,0|0])
noncomputable section
nonrec def pc(i:gf):jz:=match top i with|.FunctionDef n _ _ _ _ _ _ _ _ _=>n|_=>""
nonrec def pd(i:gf):ZB:=match top i with|.FunctionDef _ a _ _ _ _ _ _ _ _=>a.args.map (·.arg)|_=>[]
abbrev pf(K:ZA)(mg:ZC)(i:gf):=aK K mg (pc i) (top i) (pd i)
def gN:aw ↑"held_by asked_by free holds partner asker" ↑"held_by asked_by free" (ap (top 13)):=by walk
nonrec abbrev kb:v0:=top 36
def cF:aw ↑"ground found torn_by" ["ground"] (ap kb):=by walk
nonrec abbrev kc:v0:=top 38
def dS:aw ↑"ground found" ["ground"] (ap kc):=by walk
def fo:aw ↑"text rows pairs above row" ["text"] (ap (top 51)):=by walk
nonrec abbrev i9:v0:=top 79
def aI:aw ↑"ground reach bys pairs number name year" ["ground"] (ap i9):=by walk
nonrec abbrev kh:v0:=top 81
def aX:aw ↑"ground partners since by held_by pairs" ["ground"] (ap kh):=by walk
nonrec abbrev AN:v0:=top 83
def mM:aw ↑"ground found" ["ground"] (ap AN):=by walk
def dw:aw ↑"~tied ~called_here ~sayings ~found ~by ~beneath ~since" ↑"~tied ~called_here ~sayings" (ap (top 98)):=by walk
def fz:aw ↑"~ground_here ~way ~refused e" ↑"~ground_here ~way" (ap (top 99)):=by walk
def fV:aw ↑"~found ~tied ~called_here ~later ~earlier ~source" ↑"~found ~tied ~called_here" (ap (top 103)):=by walk
nonrec abbrev mU:v0:=top 104
def fF:aw ↑"~script ~cuts ~sayings ~layers ~years ~tied ~called_here ~ground_here ~found ~foes ~numbers" ↑"~script" (ap mU):=by walk
nonrec abbrev cO:v0:=kB (top 60) 0
def gU:aw ↑"self cuts sayings layers" ↑"self cuts sayings" (ap cO):=by walk
nonrec abbrev sV:v0:=kB (top 60) 1
def Fk:aw ["self"] ["self"] (ap sV):=by walk
nonrec abbrev cX:v0:=kB (top 60) 2
def mV:aw ["self"] ["self"] (ap cX):=by walk
nonrec abbrev df:v0:=kB (top 60) 3
def n6:aw ["self"] ["self"] (ap df):=by walk
nonrec abbrev dP:v0:=kB (top 60) 4
def rC:aw ["self"] ["self"] (ap dP):=by walk
nonrec abbrev fA:v0:=kB (top 27) 0
end
def vY:aw ↑"self ring" ↑"self ring" (ap fA):=by walk
inductive rD (K:ZA)
 | mk (a:hW) (ns:ZL) (k:md):vs=[.ref a,.int k]->Qb K H a (ns\4)->0<=k->Q (.int (ns.getD k.toNat 0)) H->rD K vs H Q E0
inductive Fo (K:ZA)
 | mk (a:hW) (ns:ZL) (m:md):vs=[.ref a,.int m]->Qb K H a (ns\4)->ns\5<=1000->0<=m->m<=100->(∀l H' (xs:ZL),ah H H'->H l=fD->H' l<*xs\4->xs\5=m.toNat->(∀x>xs,0<=x/\x<9973)->Q (.ref l) H')->Fo K vs H Q E0
inductive uC
 | mk (n hi:md) (wild:on):vs=[.int n,.int hi,.bl wild]->0<=n->1<=hi->hi<=7->(∀l H' (cs:ZL),ah H H'->H l=fD->H' l<*cs\4->cs\5=hi.toNat->iq wild cs->Q (.ref l) H')->uC vs H Q E0
inductive AO
 | mk (a s:md):vs=[.int a,.int s]->0<=s->Q (.str (sgn (sg a s))) H->AO vs H Q E0
abbrev vZ(H:Hp)(a:fx (hW×ZL)):Prop:=∀p>a,H p.1<*p.2\4
def vZ.up{H a:Hp}{b:fx (hW×ZL)}(h:vZ H b)(s:ah H a):vZ a b:=λp c=>s _ _ (h p c)
inductive Fp (K:ZA)
 | mk (a:hW) (xs:ZL) (sh:md) (wd:on):vs=[.ref a,.int sh,.bl wd]->Qb K H a (xs\4)->(∀H',ah H H'->Qb K H' a (xs\4))->xs\5=6->(∀x>xs,0<=x/\x<9973)->0<=sh->(∀(T th:hW) H' (cols:fx ZL) (hi:gf),ah H H'->H T=fD->H th=fD->T≠th->H' T&&&[.str (ui nl (drawn cols hi sh)),.ref th]->H' th<*(there cols)\4->1<=hi->hi<=7->1<=cols\5->cols\5<=5->(∀c>cols,c\5=hi/\iq wd c)->Q (.ref T) H')->Fp K vs H Q E0
inductive xZ
 | mk (c k:md):vs=[.int c,.int k]->0<=k->k<=100->(∀v,0<=v->v<2147483563->Q (.int v) H)->xZ vs H Q E0
structure Txc (K:ZA) (mg:ZC):Prop where
 c_Torn:mg "Torn"=fI (.ref (aS mg "Torn"))
 c_DigError:mg "DigError"=fI (.ref (aS mg "DigError"))
 c_NoCut:mg "NoCut"=fI (.ref (aS mg "NoCut"))
 c_NoLayer:mg "NoLayer"=fI (.ref (aS mg "NoLayer"))
 c_NoRow:mg "NoRow"=fI (.ref (aS mg "NoRow"))
 c_NoDeed:mg "NoDeed"=fI (.ref (aS mg "NoDeed"))
 c_NoSaying:mg "NoSaying"=fI (.ref (aS mg "NoSaying"))
 c_NoGround:mg "NoGround"=fI (.ref (aS mg "NoGround"))
 x_Torn:El K mg "Torn" "Torn.__init__" fA ↑"self ring"
 f_Torn_ring:JL K (aS mg "Torn") "ring"
 g_Torn_ring:XGet K (aS mg "Torn") "ring"
 u_Torn_NoCut:RS K (.ref (aS mg "Torn")) (.ref (aS mg "NoCut"))>=gi
 u_Torn:RS K (.ref (aS mg "Torn")) (.ref (aS mg "DigError"))>=gb
 k_Torn_any0:Wy K (.ref (aS mg "Torn")) (([(aS mg "NoCut"),(aS mg "NoGround"),(aS mg "NoSaying"),(aS mg "NoDeed"),(aS mg "NoRow"),(aS mg "NoLayer")]).map ku)>=gi
 k_Torn_Torn:Pk K (.ref (aS mg "Torn")) (.ref (aS mg "Torn"))>=gb
 k_Torn_ValueError:Pk K (.ref (aS mg "Torn")) (.type "ValueError")>=gb
 i_DigError:Ee K (aS mg "DigError")
 t_NoCut:Cat K (aS mg "NoCut")
 t_DigError:Cat K (aS mg "DigError")
 o_Ground:xz K mg "Ground"
 n_Ground_kept_cuts:iC K (aS mg "Ground") "kept_cuts"
 n_Ground_kept_sayings:iC K (aS mg "Ground") "kept_sayings"
 n_Ground_kept_layers:iC K (aS mg "Ground") "kept_layers"
 n_Ground_kept_ties:iC K (aS mg "Ground") "kept_ties"
 i_Ground:EJ K mg "Ground" "Ground.__init__" cO ↑"self cuts sayings"
 m_Ground_sayings:xA K mg "Ground" "sayings" "Ground.sayings" cX ["self"]
 m_Ground_layers:xA K mg "Ground" "layers" "Ground.layers" df ["self"]
 m_Ground_ties:xA K mg "Ground" "ties" "Ground.ties" dP ["self"]
 t_YEAR_WORDS:GvT K mg "YEAR_WORDS" [.str "since",.str "by"]
 t_LAYER_WORDS:GvT K mg "LAYER_WORDS" [.str "later",.str "same"]
structure Txt (K:ZA) (mg:ZC):Prop extends Txc K mg where
 a0:mg "len"=fD
 a1:mg "min"=fD
 a5:mg "reversed"=fD
 a6:mg "list"=fD
 a7:mg "max"=fD
 a8:mg "set"=fD
 a9:mg "sorted"=fD
 aa:mg "all"=fD
 ab:mg "str"=fD
 ac:mg "isinstance"=fD
 ae:mg "enumerate"=fD
 af:mg "zip"=fD
 ag:mg "tuple"=fD
 ah:mg "int"=fD
 ai:mg "bool"=fD
 aj:mg "range"=fD
 ak:mg "any"=fD
 al:mg "dict"=fD
 am:mg "ValueError"=fD
 ao:Gv mg "LATER" (.int 0)
 ap:Gv mg "EARLIER" (.int 1)
 aq:Gv mg "LONGEST_NAME" (.int 8)
 ar:Gv mg "LETTERS" (.str "abcdefghijklmnopqrstuvwxyz")
 au:Gv mg "MOST_ROWS" (.int 40)
 av:Gv mg "MOST_SIGNS" (.int 40)
 aw:Gv mg "AIR" (.str ".")
 ax:Gv mg "MOST_CUTS" (.int 8)
 ay:Gv mg "MOST_SAYINGS" (.int 60)
 az:Gv mg "FIRST_YEAR" (.int (-9999))
 aA:Gv mg "LAST_YEAR" (.int 9999)
 aB:Gv mg "DEPOSIT" (.int 1)
 aC:Gv mg "YEAR" (.int 2)
 aD:Gv mg "NUMBER" (.int 0)
 b1:aK K mg "untorn_links" kb ["ground"]
 b2:aK K mg "earlier_ones" kc ["ground"]
 br:aK K mg "clashing_pairs" i9 ["ground"]
 bt:aK K mg "fewest_wrong" kh ["ground"]
 bu:aK K mg "order" AN ["ground"]
 dd:∀i,([3,4,5,6,7,8,9,10,11,12,13,14,15,17,18,19,20,21,22,33,34,35,45,46,47,48,49,50,51,52]++[61,62,63,64,65,66,67,68,69,70,71,76,77,78,85,86,87,88,89,90,91,92,93,94,95,96,97,98,99,100]++[101,102,103]).contains i->pf K mg i
abbrev ph(P:mu)(w:rM)(K:ZA)(mg:ZC)(base:su)(k i:gf)(sp:Sp):Prop:=∀T:Txt K mg,Cal P w K mg base k (pc i) (pd i) sp
set_option hygiene false in
local macro_rules|`(↥$n:num)=>`(ph P w K mg base $n)
set_option hygiene false in
local macro_rules|`(tactic|exists $t:num,$s:str,$a:ident,$j:ident,$p)=>`(tactic|(intro T;refine (λ(D0:aw ↑$s _ _)=>(T.dd $t rfl).cal D0 (λH vs Q E h=>?_)) (by walk);have $p:term:=h;refine ⟨rfl,λf $a A outer s $j=>?_⟩))
section
variable{P:mu}{w:rM}{K:ZA}{mg:ZC}{base:su}
def bK{n:gf}(h:n<=5000):n<=iv:=lx h (!1)
def aF{n:gf}(h:n<=5000):n<iv:=PU h (!1)
def ah.Qa{H:Hp}{p:hW}{o:HO}(h:H p=fD):ah H (Qa H p o):=λb u e=>by rw[ar (aC e h)];show e
def ah.set{H a:Hp}{p:hW}{o:HO}(c:ah H a)(h:H p=fD):ah H (_LL.Qa a p o):=λb u e=>by rw[ar (aC e h)];show c b u e
def Mg{b:Type}(xs:fx b){i:md}(d:0<=i)(e:i<(xs\5:md)):∃c,atI xs i>=c/\c>xs:=by
 let%[j|rfl]:=Xj d;let a:j<xs\5:=by lia
 show%[xs[j],bP (by simp[a])|Yb a]
def km(xs:ZL){i:md}(b:0<=i)(d:i<(xs\5:md)):∃c,atI (xs\4) i>=V.int c/\c>xs:=by
 let%[j|rfl]:=Xj b;let a:j<xs\5:=by lia
 show%[xs[j],bP (by simp[a])|Yb a]
def Io:(jn.cps.toList.length:md)=26:=!0
def iH:↥1 85 (rD K):=by
 .exists 85,"~script ~k",g,m,%[a,c,k,rfl,d,i|q];show%[_,%["JDPL~C1cdA0BEIR01QEIC"|0]|?_]
  change aZ _ _ _ [!a,fI (.int k)] H;lk;show%[_,.inl %[_,d|ρ]|br (λb=>?_) λb=>?_]
  .let b:=Zo b;rw[Z6]at b;show%[_,d,.int (c.getD k.toNat 0),?_|q];let%[j|rfl]:=Xj i;let l:j<c\5:=by lia
   show bP (by simp[l])
  .let b: ¬ k<((c\4)\5:md):=↑b
   rw[Z6]at b;let e:c.getD k.toNat 0=0:=by
    rw[Zc,Xm !_];rfl
   rw[e]at q;show q
def x3:↥1 86 xZ:=by
 .exists 86,"~cell ~k ~one ~two",a,j,%[c,k,rfl,l,m|q];show%[_,%["JDH2FSFrFeFeFS0CFrC1CCCDH3FSFeFr22FrFrC11CEIFSFr33C"|D0.nd]|?_]
  change aZ _ _ _ [fI (.int c),fI (.int k),fD,fD] H;show am λn k1 _=>?_
  lk;show%[!1,.inl %[!1|!1],.inr %[!1|!1],!1|k1 (am λo k2 _=>?_)];let b:=Pr ((c%1000003+7919*k+1)*48271) (by decide:(2147483629:md)≠0);let d:=R6 ((c%1000003+7919*k+1)*48271) (by decide:(0:md)<2147483629)
  generalize (c%1000003+7919*k+1)*48271%2147483629=one at b d
  lk;show%[.inl %[!_|!_],.inl %[!1|!1],.inr %[!_|!_],!1|k2 ?_];let e:=Pr (one*one+104729*k*k) (by decide:(2147483587:md)≠0);let g:=R6 (one*one+104729*k*k) (by decide:(0:md)<2147483587)
  generalize (one*one+104729*k*k)%2147483587=i at e g
  lk;show%[.inl %[!_|!_],!1|q _ ⋯ !_]
def CA:↥2 87 (Fo K):=by
 .exists 87,"~script ~many ~found ~number ~k",Y,p,%[a,j,m,rfl,hs,hn,h0,h1|q];show%[_,%["JDH2UBDH3CDTyA1BM4DPLvFS4CCEH3G~cA0AFeCFl4CBQEPjzLvFSG~cA0ACBCC*L:3CDXon2AFS3CBEH3Fl3CEXon2AFSG]BAG~cA0AFeCFS4~d~%ACAF|cdA0BCBBA4BCBEI2",D0.nd|p]|?_]
  change aZ _ _ _ [!a,fI (.int m),fD,fD,fD] H;show am λD1 k1 _=>?_
  lk;show%[Xg _|λl z=>k1 (am λD2 k2 _=>?_)];let B:ah H (Qa H l (.lst [])):=ah.Qa z;lk;show k2 (am λD3 k3 _=>az λM hK=>?_);lk;show%[(by lia -verbose),(by lia -verbose)|hK (cm (λi C e=>E3 λ(n:md) (o:ij V) (xs:ZL)=>A5 (C=[!a,fI (.int m),!l,fI (.int n),o]) (ah H e) (e l<*xs\4) (xs\5=i) (∀x>xs,0<=x/\x<9973))
   %[_,fD,[],ρ,B,aa,ρ|λ_ h=>nomatch h] ?_ ?_)]
  .intro i C e hi %[n,o,xs,rfl,r,c,u|d];let ab:i<100:=by lia -verbose
   let g:=r.seq hs;change aZ _ _ _ [!a,fI (.int m),!l,fI (.int n),fI (.int (0+i))] e;rw[MC];show am λD4 k4 _=>?_
   let fin:∀n':md,D4.nx [!a,fI (.int m),!l,fI (.int n'),fI (.int i)] e:=λn'=>k4 (aB λD5 N _=>by
    let put:∀v:md,0<=v->v<9973->ah H (Qa e l (.lst (xs\4++[.int v])))/\∃b:ZL,Qa e l (.lst (xs\4++[.int v])) l<*b\4/\b\5=i+1/\∀x>b,0<=x/\x<9973:=λv O v1=>
     ⟨ah.set r z,xs++[v],by rw[aa,Zd];rfl,by rw[Z9,u];rfl,λy hy=>by
      rcases Xo hy with q|q
      .show d y q
      .rw[Xp q];show%[O|v1]⟩
    let len:(xs\4)\5<iv:=by rw[Z6,u];show aF (by lia -verbose)
    let U:∀x:gf,(0:md)<(if GT.gt ((x:md) -1) 1 then(x:md) -1 else 1):=λx=>by split<;> lia -verbose
    lk;show%[a,j,0,ρ,g,!1,!1|br (λ_=>br (λ_=>?g1) λ_=>?g2) λ_=>?g3]
    case g1=>
     let%[G,b,I,J|L]:=put (n'%9973) (by lia -verbose) (by lia -verbose);show%[tyL (Qb.of c),!1,_,c,len,%[!1|!1]|N %[_,_,b,ρ,G,I,J|L]]
    all_goals
     show%[tyL (Qb.of c),_,.inl %[_,g|ρ],U _,a,j,_,ρ,g,?_|?_]
     .let:=Pr (i:md) (md.ne_of_gt (U (j\4).length))
      lia -verbose
     show%[_,_,ρ,(by lia -verbose),(by lia -verbose)|λv O v1=>%[!1,_,c,len|N ?_]];let%[G,b,I,J|L]:=put (v%9973) (by lia -verbose) (by lia -verbose);show%[_,_,b,ρ,G,I,J|L])
   lk;show%[!1|br (λ_=>%[%[!1|!1],a,j,_,ρ,g,(by lia -verbose)|fin _]) λ_=>fin n]
  .intro C e %[n,o,xs,rfl,r,c,u|d];show k3 ?_;lk;show q l e xs r z c u d
def Mh{wd:on}{a c:md}(f:0<=a)(g:a<=7)(b:c>[0,1,if wd=gb then -1 else 2]){x:md}(e:x=if GT.gt (if a+c<7 then a+c else 7) 0 then if a+c<7 then a+c else 7 else 0):0<=x/\x<=7/\_CU.St wd a x:=by
 let h:x=a+c/\0<=x/\x<=7\/x=7/\7<=a+c\/x=0/\a+c<=0:=by
  split at e<;> split at e<;> omega
 clear e;simp only[Yu,X4,J5]at b;let d: -1<=c/\c<=2/\(wd=gb->c<=1)/\(wd=gi->0<=c):=by
  cases wd<;> simp at b ⊢ <;> omega
 clear b;unfold _CU.St;cases wd<;> simp at d ⊢ <;> omega
def tt{c d A B:Prop}[OT c][OT d](b:c->d->A)(a:(c->d->yc)->B):if c then(if d then A else B)else B:=by
 by_cases x:c
 .rw[hY x];by_cases y:d
  .rw[hY y];show b x y
  .rw[hH y];show a λ_ h=>y h
 .rw[hH x];show a λh=>lr h x
def Fq(a:0<=i)(c:i<26):atI jn.cps.toList i>=(97+i.toNat):=by
 let%[j|rfl]:=Xj a;let b:j<26:=by omega
 let all:∀j:Fin 26,jn.cps.toList[j.1]?>=(97+j.1):=!0
 show bP (all %[j|b])
def jx:↥1 90 AO:=by
 .exists 90,"~at ~shift",d,e,%[a,g,rfl,i|c];show%[_,%["JDPL~C0CEIYQEI~&YFSFeFr0C1C"|0]|?_]
  change aZ _ _ _ [fI (.int a),fI _] H;lk;unfold sg at c;show br (λb=>?_) λb=>?_
  .let b:=Zo b;rw[hY b]at c;show c
  .let b: ¬ a<0:=↑b
   rw[hH b]at c;show%[.inr %[by simp|by simp],!1,(!1),_,Fq (by omega) (by omega)|c]
def v4:↥1 89 uC:=by
 .exists 89,"~number ~high ~wild ~air ~at ~signs ~k",aj,hr,%[n,hi,wd,rfl,n0,h1,h6|kk];show%[_,%["JDH3FS0CDH4FSFl0CCDH0Fl0CDH5UBDTyA1BM6EPjzL~C63*L~C6F|1CEXon5A<CBDXon5A4BDH4~d~%ACA~S]CACAFe4RUACACARUACA<CB~e~fA2BBFS0CBBEH0Fl0CEI5"|D0.nd]|?_]
  change aZ _ _ _ [fI (.int n),fI (.int hi),fI (.bl wd),fD,fD,fD,fD] H;show am λD1 k1 _=>?_
  lk;show%[!1|k1 (am λD2 k2 _=>?_)];lk;show%[%[!1|!1],!1|k2 (am λD3 k3 _=>?_)];lk;show%[%[!1|!1]|k3 (am λD4 k4 _=>?_)];lk;show%[Xg _|λL O=>k4 (am λD5 k5 r5=>az λai hK=>?_)];lk;let J:∃a:gf,(a:md)=(if n%3<hi-1 then n%3 else hi-1):=by
   split
   .show%[(n%3).toNat|by omega]
   .show%[(hi-1).toNat|by omega]
  let%[a|ea]:=J;show%[by omega,by omega|hK (cm (λi σ B=>E4 λ(m b:md) (o:ij V) (g:ZL)=>A8 (σ=[fI (.int m),fI (.int hi),fI (.bl wd),fI (.int (n%3)),fI (.int b),!L,o]) (0<=b) (b<=7) (ah H B) (B L<*g\4) (g\5=i) (∀(k:gf) (c:md),g[k]?>=c->(k<a->c= -1)/\(a<=k->0<=c/\c<=7)) (∀(k:gf) (c d:md),g[k]?>=c->(g++[b])[k+1]?>=d->a<=k->St wd c d))
   %[_,_,fD,[],ρ,by omega,by omega,ah.Qa O,aa,ρ,(λk c e=>by simp at e)|λk c d e=>by simp at e] ?_ ?_)]
  .intro i σ B al %[m,b,o,g,rfl,U,Y,sm,l,C,r|G];change kO _ _ _ _ [fI (.int m),fI (.int hi),fI (.bl wd),fI (.int (n%3)),fI (.int b),!L,fI (.int (0+i))] B;rw[MC];let len:(g\4)\5<iv:=by rw[Z6,C];show aF (by omega)
   let put:∀v:md,(i<a->v= -1)->(a<=i->0<=v/\v<=7)->∀(k:gf) (c:md),(g++[v])[k]?>=c->(k<a->c= -1)/\(a<=k->0<=c/\c<=7):=λv v1 v2 k c e=>by
    by_cases hk:k<g\5
    .rw[Y7 hk]at e;show r k c e
    .let ek:k=i:=by
      let:=(Xn e).1;rw[Z9]at this;simp only[Zr,Rp]at this;omega
     subst ek;rw[Y8 (by omega),C,Xb]at e;cases e;show%[v1|v2]
   show aB λD6 k6 _=>?_
   lk;let M:∀v u:md,(a<=i->v=b/\St wd v u)->∀(k:gf) (c d:md),(g++[v])[k]?>=c->(g++[v] ++[u])[k+1]?>=d->a<=k->St wd c d:=λv u q k c d I y hk=>by
    let an:k+1<=g\5+1:=by
     let:=(Xn y).1;simp only[Z9,Zr,Rp]at this;omega
    by_cases h:k+1<g\5+1
    .rw[Y7 (by omega)]at I;rw[Y7 ↑h]at y;by_cases h':a<=i
     .rw[(q h').1]at y;show G k c d I y hk
     .omega
    .let ek:k=i:=by omega
     subst ek;rw[Y8 (by omega),C,Xb]at I;rw[Y8 (by simp;omega)]at y;simp[C]at I y;rw[<-I,<-y];show(q hk).2
   let fin:∀_v:md,¬ i<a->∀(m2 j:md) (HH:Hp),0<=j->j<=7->St wd b j->ah (Qa B L (.lst (g\4++[.int b]))) HH->D6.nx [fI (.int m2),fI (.int hi),fI (.bl wd),fI (.int (n%3)),fI (.int j),!L,fI (.int i)] HH:=λv hv m2 j HH b0 b7 st sh=>
    k6 %[m2,j,_,g++[b],rfl,b0,b7,(ah.set sm O).trans sh,by rw[sh L _ aa,Zd];rfl,by rw[Z9,C];rfl,put b (λz=>lr z hv) λ_=>%[U|Y]|M b j λ_=>%[rfl|st]]
   show tt (λhA hB=>?_) λab=>?_
   .simp only[xr]at hA hB;let N:i<a:=by split at ea<;> omega
    show%[tyL (Qb.of l),_,l,len|k6 %[m,b,_,g++[-1],ρ,U,Y,ah.set sm O,by rw[aa,Zd];rfl,by rw[Z9,C];rfl,put (-1) (λ_=>rfl) λz=>lr N (by omega)|M (-1) b λz=>lr N (by omega)]]
   .let ac: ¬ i<a:=λh=>ab (Zf (by split at ea<;> omega)) (Zf (by split at ea<;> omega))
    show%[tyL (Qb.of l),_,l,len,#[2]|λp hp=>%[_,Qb.of aa,.int (if wd=gb then -1 else 2),by cases wd<;> rfl,#[3]|λp1 ae=>%[!1,_,Qb.of aa|?_]]];let%[c,hc|ag]:=km [0,1,if wd=gb then -1 else 2] (i:=m%3) (by omega) (by change m%3<3;omega);let%[b0,b7|st]:=Mh U Y ag rfl;show%[_,hc,%[!1|!1]|fin 0 ac _ _ _ b0 b7 st ((ah.Qa hp).trans (ah.Qa ae))]
  .intro σ B %[m,b,o,g,rfl,U,Y,sm,l,C,r|G];show k5 ?_;lk;show kk L B g sm O l (by omega) %[a,by omega,r|λk c d I y=>G k c d I ((Y7 (Xn y).1)▸y)]
def x4(xs:ZL){lo hi:md}(a:0<=lo)(b:lo<=hi)(c:hi<=xs\5):u4 (xs\4) (fI lo) (fI hi)=((xs.drop lo.toNat).take (hi.toNat-lo.toNat))\4:=by
 unfold u4;let d:_HT.sIx xs.length 0 (fI lo)=lo.toNat:=by
  change(if lo<0 then _ else min lo.toNat xs.length)=_
  grind
 let e:_HT.sIx xs.length xs.length (fI hi)=hi.toNat:=by
  change(if hi<0 then _ else min hi.toNat xs.length)=_;rw[hH !_]
  lia
 simp_all
def Ho(a:md)(b:ZL):inV (V.int a) (b\4)=decide (a>b):=by
 unfold inV
 induction b with
 | nil=>rfl
 | cons c r d=>
   change((c==a)||_)=_
   grind
def CB(a:ZL):(a\4).all gC=gb:=by simp[gC]
def CC:↥2 91 (Fp K):=by
 .exists 91,"~row_here ~shift ~wild ~wide ~high ~columns ~rows ~k ~there",b7,hr,%[a,xs,v,d,rfl,hs,keep,bp,hb,s0|kk];let get:∀i:md,0<=i->i<6->∃c,atI (xs\4) i>=V.int c/\0<=c/\c<9973:=λi h0 h1=>by
   let%[c,e|hm]:=km xs h0 !_;show%[c,e|hb c hm]
  let%[c0,g0,l0|u0]:=get 0 (!1) (!1);show%[_,%["JDH3FeCFSR0CCDu4abFeCFSFlR0CCCD~'5abiZ?1V~T0}C}FeC3W0?2pG]DA0AK1AK2BDH6UBDTyAK4B~U7abEXon6A~V~WYAiZ?3VK5W0?4pG~XAR0K2AK1BBBD~D8baZ?5yACB]E0?6ab!]F]G]HAiZ?7VK1W0?8ps~IK10BK0EIkA~V~WYA6BA8B",D0.nd,↑(↑"~number ~high ~wild",[(1,4),(2,2)]),↑["_law_number","_law_high","_law_wild"],↑(↑"~column_here ~shift ~k",[(1,1),(2,7)]),↑["_law_column_here","_law_shift","_law_k"],↑(↑"~at ~columns",[(1,5)]),↑["_law_at","_law_columns"],↑(↑"~column_here ~at",[(1,0)]),↑["_law_column_here","_law_at"]|hr]|?_]
  change aZ _ _ _ [!a,fI (.int v),fI (.bl d),fD,fD,fD,fD,fD,fD] H;show am λD1 k1 _=>?_
  lk;show%[_,hs,_,g0,!1|k1 (am λD2 k2 _=>?_)];lk;show%[_,hs,_,g0,%[!1|!1],!1|k2 (am λD4 k4 _=>?_)];let w1:1<=1+c0%5:=by lia
  let w5:1+c0%5<=5:=by lia
  let i1:1<=1+c0/5%7:=by lia
  let i6:1+c0/5%7<=7:=by lia
  generalize b9:1+c0%5=wd at w1 w5
  generalize 1+c0/5%7=hi at i1 i6
  show aD λI Y=>?_
  lk;show%[_,hs|λp hp=>%[%[_|Qb.of aa]|Y λD hD=>?_]];rw[x4 xs (!1) ⋯ !_]at hD ⊢;let aR: ~~~((xs.drop (Qp 1)).take ((1+wd).toNat-Qp 1))=wd.toNat:=by
   rw[Yj,Yf,bp];rw[show(1+wd).toNat=wd.toNat+1 by lia];show Qv !_
  let aU:∀x>(xs.drop (Qp 1)).take ((1+wd).toNat-Qp 1),0<=x/\x<9973:=λx hx=>hb x (Re (Yw hx))
  generalize (xs.drop (Qp 1)).take ((1+wd).toNat-Qp 1)=ys at aR aU hD ⊢
  let a0:ah H (Qa H p (.lst (ys\4))):=ah.Qa hp;let ab:Qa H p (.lst (ys\4)) p<*ys\4:=aa
  generalize Qa H p _=bt at a0 ab hD ⊢
  show b8 (J:=Itl K p) (n:=wd.toNat) (D:=D) (λi zs m j=>A4 (∃o,m=[o,fI (.int hi),fI (.bl d)]) (ah bt j) (j D<*zs) (∃b:fx (hW×ZL),A4 (zs=b\0) (b\5=i) (vZ j b) (∀q>b,q.1≠D/\q.2\5=hi.toNat/\iq d q.2)))
   %[%[fD|rfl],ah.Qa hD,aa,[],rfl,rfl,λq B=>(nomatch B)|λq B=>(nomatch B)]
   (λi _ _ j a1 g=>%[_,V.int (ys[i]'!_),Qb.of (g.2 _ _ ab)|by simp[show i<ys\5 by lia]]) (λ_ _ j g=>%[_,Qb.of (g.2 _ _ ab)|by simp[aR]]) ?_ ?_
  .intro i zs m j a1 %[%[o|rfl],M,a2,b,rfl,L,ac|N] x H2 %[e2|hx];subst e2;let a3:i<ys\5:=by lia
   let y:=hx _ (Qb.of (M _ _ ab));rw[Zl,Z4 a3]at y;obtain rfl:x=V.int ys[i]:=(Za y).symm;lk;show%[_,_,_,ρ,(aU _ (Yb a3)).1,i1,i6|λl H3 bU al b0 a4 a5 b1=>?_];let a6:l≠D:=nq b0 a2 rfl;show CK.mk a1 (al _ _ a2) (by rw[Z6,L];show aF !_) %[%[_|rfl],ah.set (M.trans al) hD,aa,b++[(l,bU)],by rw[Zd];rfl,by rw[Z9,L];rfl,λq B=>?_|λq B=>?_]
   .rcases Xo B with z|z
    .rw[ar (N q z).1];show al _ _ (ac q z)
    .rw[Xp z,ar a6];show a4
   .rcases Xo B with z|z
    .show N q z
    .rw[Xp z];show%[a6,a5|b1]
  intro zs m H4 %[_,b2,a7,b,rfl,L,ac|N];let an:ah H H4:=a0.trans b2;show k4 (am λD5 k5 _=>?_);lk;show%[Xg _|λR hR=>k5 (am λD6 k6 _=>az λI Y=>?_)];lk;let b6:(b\2)\5=wd.toNat:=by rw[Z6];show L
  show%[!_,!_|Y (cm (λi m j=>∃o7,A3 (m=[!a,fI (.int v),fI (.bl d),fI (.int wd),fI (.int hi),!D,!R,o7,fD]) (ah H4 j) (j R<*((kj i).map (j7 (b\2) v))\3))
   %[_,ρ,ah.Qa hR|aa] ?_ ?_)]
  .intro i m H5 ca %[o7,rfl,u|ae];change kY _ _ [!a,fI (.int v),fI (.bl d),fI (.int wd),fI (.int hi),!D,!R,fI (.int (0+i)),fD] H5;rw[MC];show aB λD8 k8 _=>?_
   lk;show%[tyL (Qb.of ae)|aD λI Y=>?_];lk;let ag:=u _ _ a7;show%[%[_|Qb.of ag]|Y λF hF=>?_];show b8 (J:=Itl K D) (n:=wd.toNat) (D:=F) (λq ts m j=>A4 (∃o,m=[o,fI (.int v),fI (.int i)]) (ah H5 j) (j F<*ts) (ts=(((b.take q).map (λp=>sg (p.2.getD i 0) v)).map sgn)\3))
    %[%[fD|rfl],ah.Qa hF,aa|rfl]
    (λq _ _ j B g=>%[_,V.ref (b[q]'!_).1,Qb.of (g.2 _ _ ag)|by simp[show q<b\5 by lia]]) (λ_ _ j g=>%[_,Qb.of (g.2 _ _ ag)|by simp[L]]) ?_ ?_
   .intro q ts m j B %[%[o|rfl],M,aq|O] x H2 %[e2|hx];subst e2;let C:q<b\5:=by lia
    let y:=hx _ (Qb.of (M _ _ ag));rw[Zl,Z4 C]at y;obtain rfl:x=V.ref b[q].1:=(Za y).symm;let hm:=Yb C;lk;show%[_,Qb.of (M _ _ (u _ _ (ac _ hm))),V.int (b[q].2.getD i 0),?_|?_]
    .show bP ?_;rw[Zl,eA (N _ hm).2.1 !_];rfl
    show%[_,_,ρ,s0|?_];show CK.mk B aq (by rw[O,Z6,Z6,Z6,Yj];show aF !_) %[%[_|rfl],ah.set M hF,aa|?_];rw[O,Xc,Zd,Zd,Zd,Z4 C];rfl
   intro ts m H7 %[_,bb,b3|O];rw[Zn !_]at O;lk;show%[(b.map λp=>sg (p.2.getD i 0) v).map sgn,by rw[<-O];show Qb.of b3,?_,_,bb _ _ ae,by rw[Z6,Z6,Yh];show aF !_|k8 %[_,ρ,ah.set (u.trans bb) hR|?_]]
   .rw[vw,Z6,Z6,show(!"").length=0 from rfl]
    lia
   .rw[aa,Xa,Zd,Zd,show Txt.join (!"") ((b.map λp=>sg (p.2.getD i 0) v).map sgn)=ui (!"") ((b.map λp=>sg (p.2.getD i 0) v).map sgn)from OB _ _,qD];let e:j7 (b\2) v i=⟨(b.map λp=>sg (p.2.getD i 0) v).toArray⟩:=by
     unfold j7;rw[Yp];rfl
    rw[<-e];rfl
  .intro m H5 %[o7,rfl,u|ae];show k6 (am λD7 k7 _=>aD λI Y=>?_);lk;show%[!1,!1|Y λF hF=>?_];show b8 (J:=Itr 0 8) (n:=8) (D:=F) (λq ts m j=>A4 (∃o,m=[o,!D]) (ah H5 j) (j F<*ts) (ts=(((kj q).filter λa:gf=>(b\2).any λc=>decide ((a:md)>c)).map λa:gf=>(a:md))\4))
    %[%[fD|rfl],ah.Qa hF,aa|rfl] (λq _ _ j B _=>B) (λ_ _ j _=>Zi _) ?_ ?_
   .intro q ts m j B %[%[o|rfl],M,aq|O] x H2 %[e2|e3];rw[MC]at e3;subst e2 e3;lk;show aD λI Y=>?_
    lk;let ai:=M _ _ (u _ _ a7);show%[%[_|Qb.of ai]|Y λG hG=>?_];show b8 (J:=Itl K D) (n:=wd.toNat) (D:=G) (λr zs m H3=>A4 (∃o,m=[o,fI (.int q)]) (ah H2 H3) (H3 G<*zs) (zs=(b.take r).map (λp=>V.bl (decide ((q:md)>p.2)))))
     %[%[fD|rfl],ah.Qa hG,aa|rfl]
     (λr _ _ H3 bc g=>%[_,V.ref (b[r]'!_).1,Qb.of (g.2 _ _ ai)|by simp[show r<b\5 by lia]]) (λ_ _ H3 g=>%[_,Qb.of (g.2 _ _ ai)|by simp[L]]) ?_ ?_
    .intro r zs m H3 bc %[%[o|rfl],s3,b4|hz] x cd %[e2|hx];subst e2;let C:r<b\5:=by lia
     let y:=hx _ (Qb.of (s3 _ _ ai));rw[Zl,Z4 C]at y;obtain rfl:x=V.ref b[r].1:=(Za y).symm;let hm:=Yb C;lk;show%[_,.inl (Qb.of (s3 _ _ (M _ _ (u _ _ (ac _ hm))))),ρ,CB _|?_];rw[Ho];show CK.mk bc b4 (by rw[hz,Z6,Yj];show aF !_) %[%[_|rfl],ah.set s3 hG,aa|?_];rw[hz,Xc,Zd,Z4 C];rfl
    intro zs m H3 %[_,s3,b5|hz];rw[Zn !_]at hz;let bd:=s3 _ _ aq;lk;show%[b.map λp=>decide ((q:md)>p.2),by rw[Yp];show Qb.of (by rw[b5,hz];rfl)|?_];rw[show((b.map λp=>decide ((q:md)>p.2)).any id)=(b\2).any λc=>decide ((q:md)>c) by rw[any_map,any_map];rfl];let bf:ts\5<iv:=by
     rw[O,Z6,Z6];let:=Yg (λa:gf=>(b\2).any λc=>decide ((a:md)>c)) (kj q);rw[Yh]at this;show aF !_
    show br (λhb=>?_) λhb=>?_
    .show CK.mk B bd bf %[%[_|rfl],ah.set (M.trans s3) hF,aa|?_];rw[O,Xa,Y1,Zd,Zd];rw[show Oa (λa:gf=>(b\2).any λc=>decide ((a:md)>c)) [q]=[q]from by rw[Qz,hY hb];rfl];rfl
    .show CN.mk B %[%[_|rfl],M.trans s3,bd|?_];rw[O,Xa,Y1,Zd,Zd];rw[show Oa (λa:gf=>(b\2).any λc=>decide ((a:md)>c)) [q]=[]from by rw[Qz,hH hb];rfl];simp
   intro ts m H6 %[_,as,bl|O];show k7 ?_;lk;let U:∀c>b\2,c\5=hi.toNat/\iq d c:=λc hc=>by
    let%[p,hp|rfl]:=Xq hc;show(N p hp).2
   let aj:cV (drawn (b\2) hi.toNat v):=xR ⋯ ⋯ ⋯ ⋯ U;let bm:H5 R<*(drawn (b\2) hi.toNat v)\3:=ae;show%[drawn (b\2) hi.toNat v,Qb.of (as _ _ bm),?_,#[2]|λp hp=>?_]
   .let:=aj.sum;let:=aj.high;rw[show(!"\n").length=1 from rfl]
    lia
   .let bn:ah H (Qa H6 p (.tup [V.str (Txt.join (!"\n") (drawn (b\2) hi.toNat v)),V.ref F])):=(an.trans (u.trans as)).trans (ah.Qa hp);show kk p F _ (b\2) hi.toNat bn ((an.trans (u.trans as)).free hp) ((an.trans u).free hF) (nq hp bl rfl) ?_ ?_ ⋯ ⋯ ⋯ ⋯ U
    .rw[aa,show Txt.join (!"\n") (drawn (b\2) hi.toNat v)=ui (!"\n") (drawn (b\2) hi.toNat v)from OB _ _];rfl
    .rw[ah.Qa hp F _ bl,O];rfl
def Hq{wd:on}{p q:md}(f:0<=p)(g:p<=7)(i:0<=q)(j:q<=7)(st:_CU.St wd p q):iq wd [p,q]:=
 ⟨0,Pz _,λk c e=>⟨λh=>lr h (X3 _),λ_=>match k,e with
   | 0,e=>by cases e;show%[f|g]
   | 1,e=>by cases e;show%[i|j]⟩,λk c d a b _=>match k,a,b with
   | 0,a,b=>!2⟩
def colA{wd:on}{q:md}(a:0<=q)(b:q<=7):iq wd [-1,q]:=
 ⟨1,gf.succ_lt_succ (Pz _),λk c e=>match k,e with
   | 0,e=>by cases e;show%[λ_=>rfl|λh=>lr h (!1)]
   | 1,e=>by cases e;show%[λh=>lr h (!1)|λ_=>%[a|b]],λk c d f g h=>match k,f,g,h with
   | 0,_,_,h=>lr h (!1)⟩
inductive x5
 | mk (n sh:md) (wd:on):vs=[.int n,.int sh,.bl wd]->0<=n->n<9973->0<=sh->(∀(t th:hW) H' (cols:fx ZL) (hi:gf),ah H H'->H t=fD->H th=fD->t≠th->H' t&&&[.str (ui nl (drawn cols hi sh)),.ref th]->H' th<*(there cols)\4->1<=hi->hi<=7->1<=cols\5->cols\5<=5->(∀c>cols,c\5=hi/\iq wd c)->(there cols)\5<=2->Q (.ref t) H')->x5 vs H Q E0
def pQ:↥2 92 x5:=by
 .exists 92,"~number ~shift ~wild ~at ~upper ~lower ~text",Y,N,%[n,d,wd,rfl,n0,n1,r|kk];show%[_,%["JDH3FS0CDH4G~XA3A1BDH5G~XAFe3CA1BDPjzm2*LvFSFl0CCCE]I45?1A5A4BQDH6UAF+F+4Y5AF+F+F+4Y55AF+F+F+F+44Y45BEIkAR6FSFl0CCAUA3AFe3CBB",D0.nd,(!1)|N]|?_]
  change aZ _ _ _ [fI (.int n),fI (.int d),fI (.bl wd),fD,fD,fD,fD] H;show am λD1 k1 _=>?_
  lk;obtain⟨a,ea,I⟩:∃a:md,n%3=a/\(a=0\/a=1\/a=2):=%[_,rfl|!_]
  rw[ea];show%[!1|k1 (am λD2 k2 _=>?_)];lk;show%[a,d,ρ,r|k2 (am λD3 k3 _=>?_)];lk;show%[a+1,d,ρ,r|k3 (am λD4 k4 _=>?_)];let J:∀p q:md,(p=a/\q=a+1\/wd=gb/\p=a+1/\q=a)->D4.nx [fI (.int n),fI (.int d),fI (.bl wd),fI (.int a),fI (.str (sgn (sg p d))),fI (.str (sgn (sg q d))),fD] H:=λp q j=>by
   show k4 (am λD5 k5 _=>?_);lk;show%[#[2],#[3],#[3],#[4],#[5],#[2],#[3],#[4],#[5],#[3]|λl hl=>k5 ?_];let y:=ah.Qa (o:= .lst [V.str (sgn (sg p d) ++nI "\n"++sgn (sg q d)),V.str (sgn (sg p d) ++nI ".\n"++sgn (sg q d) ++sgn (sg q d)),V.str (sgn (sg p d) ++sgn (sg p d) ++nI "\n"++sgn (sg p d) ++sgn (sg q d))]) hl;let O:Qa H l (.lst [V.str (sgn (sg p d) ++nI "\n"++sgn (sg q d)),V.str (sgn (sg p d) ++nI ".\n"++sgn (sg q d) ++sgn (sg q d)),V.str (sgn (sg p d) ++sgn (sg p d) ++nI "\n"++sgn (sg p d) ++sgn (sg q d))]) l=_:=aa
   generalize Qa H l _=L at y O
   lk;let fin:∀(z:jz) (g:fx ZL),z=ui nl (drawn g 2 d)->there g=[a,a+1]->1<=g\5->g\5<=5->(∀c>g,c\5=2/\iq wd c)->[V.int a,V.int (a+1)].length<=iv/\∀p:hW,L p=fD->[V.str z,V.ref p].length<=iv/\∀M:hW,Qa L p (.lst [V.int a,V.int (a+1)]) M=fD->Q (.ref M) (Qa (Qa L p (.lst [V.int a,V.int (a+1)])) M (.tup [V.str z,V.ref p])):=
    λz g ez U c1 c5 i=>%[#[2]|λth m=>%[#[2]|λt B=>kk t th _ g 2 (y.trans ((ah.Qa m).trans (ah.Qa B))) (y.free ((ah.Qa m).free B)) (y.free m) (nq B aa rfl) (by rw[aa,ez]) (by rw[U];show ah.Qa B _ _ aa) (!1) (!1) c1 c5 i (by rw[U];show Zi _)]]
   let b:0<=p/\p<=7/\0<=q/\q<=7/\_CU.St wd p q/\_CU.St wd p p:=by
    unfold _CU.St;rcases j with⟨rfl,rfl⟩|⟨rfl,rfl,rfl⟩<;> show%[!_,!_,!_,!_,%[?_|?_],?_|?_]<;> split<;> lia
   let%[u,v,C,G,st|sp]:=b;let ei:n/3%3=0\/n/3%3=1\/n/3%3=2:=by lia
   show%[%[!1|!1],!1,_,Qb.of O|?_];rcases ei with e|e|e<;> rw[e]
   .show%[_,ρ|fin _ [[p,q]] rfl ?_ (Pz _) (show _+1<=_ by simp) λc i=>?_]
    .rcases j with⟨rfl,rfl⟩|⟨_,rfl,rfl⟩<;> rcases I with rfl|rfl|rfl<;> rfl
    .rw[Xp i];show%[ρ|Hq u v C G st]
   .show%[_,ρ|fin _ [[p,q],[-1,q]] rfl ?_ (Pz _) (show _+1<=_ by simp) λc i=>?_]
    .rcases j with⟨rfl,rfl⟩|⟨_,rfl,rfl⟩<;> rcases I with rfl|rfl|rfl<;> rfl
    .rcases Yu.mp i with rfl|i
     .show%[ρ|Hq u v C G st]
     .rw[Xp i];show%[ρ|colA C G]
   .show%[_,ρ|fin _ [[p,p],[p,q]] rfl ?_ (Pz _) (show _+1<=_ by simp) λc i=>?_]
    .rcases j with⟨rfl,rfl⟩|⟨_,rfl,rfl⟩<;> rcases I with rfl|rfl|rfl<;> rfl
    .rcases Yu.mp i with rfl|i
     .show%[ρ|Hq u v u v sp]
     .rw[Xp i];show%[ρ|Hq u v C G st]
  lk;show br (λc=>%[%[!1|!1],!1|br (λ_=>J _ _ (.inr %[c,rfl|rfl])) λ_=>J _ _ (.inl %[rfl|rfl])]) λ_=>J _ _ (.inl %[rfl|rfl])
inductive uD
 | mk (z:jz):vs=[.str z]->z\5<=1000->(∀H',ah H H'->Q (.bl (vv z)) H')->uD vs H Q E0
inductive rE
 | mk (row above:jz):vs=[.str row,.str above]->row\5<=1000->above\5<=1000->(∀H',ah H H'->Q (.bl (gG row above)) H')->rE vs H Q E0
inductive lw (K:ZA)
 | mk (a:hW) (rows:ZB):vs=[.ref a]->Qb K H a (rows\3)->(rows.map (·.length)).sum<=3000->(∀r>rows,r.cps.toList.all okc=gb)->(∀l H' (ss:ZB),ah H H'->H l=fD->H' l<*ss\3->ss.Perm (aL ((dQ rows).map sgn))->Q (.ref l) H')->lw K vs H Q E0
inductive rF
 | mk (rows:ZB):vs=[.str (ui nl rows)]->cV rows->(∀l H',ah H H'->H l=fD->H' l<*rows\3->Q (.ref l) H')->rF vs H Q E0
def kI(z:jz)(i:gf)(c:gf)(h:z.cps[i]?>=c):(z.cps.toList.take i++[c])=z.cps.toList.take (i+1):=by
 let h':z.cps.toList[i]?>=c:=↑h
 let%[a|e]:=Xn h';rw[OE a,e]
def z6(c d:gf):((⟨([c].toArray)⟩:jz)=⟨([d].toArray)⟩)↔c=d:=by
 constructor
 .intro h;let:(([c].toArray):mx gf)= ([d].toArray):=by injection h
  simpa using this
 .intro h;rw[h]
def n9(c:gf):((⟨([c].toArray)⟩:jz)=!".")↔c=46:=z6 c 46
def Fs:↥1 47 uD:=by
 .exists 47,"row",y,N,%[z,rfl,O|k];show%[_,%["JEI$~g~E~ECcdA0B]J&~h~iAiZ?1~j0W0?2p~kst0~J&s~(0~)B",0,↑(["sign"],[])|↑["sign"]]|?_];change jU _ _ [-z] H;lk;show%[bK !_|br (λm=>br (λp=>?_) λp=>?_) λm=>?_]
  .show aD λu B=>?_
   lk;show B λD v=>?_
   show b8 (J:=Its z) (n:=z.cps.size) (D:=D) (λi ys d a=>A4 (∃o,d=[o]) (ah H a) (a D<*ys) (ys=(z.cps.toList.take i).map (λc=>V.bl (okc c)))) %[%[fD|rfl],ah.Qa v,aa|rfl]
    (λi _ _ _ hi _=>hi) (λ_ _ _ _=>Zi _) ?_ ?_
   .intro i ys d a hi %[%[o|rfl],q,r|g] x C %[G,c,I|rfl];subst G;let j:ys\5=i:=by
     rw[g,Z6,Yj];let:z.cps.toList\5=z.cps.size:=by simp
     lia
    let L:i<1000:=by
     let:z\5=z.cps.size:=rfl
     lia
    let put:∀b:on,b=okc c->CK D z.cps.size i (λi ys d a=>A4 (∃o,d=[o]) (ah H a) (a D<*ys) (ys=(z.cps.toList.take i).map (λc=>V.bl (okc c)))) ys [fI (.str ⟨([c].toArray)⟩)] (.bl b) C:=λb M=>
     CK.mk hi r (by rw[j];show aF !_) %[%[_|rfl],ah.set q v,aa|by rw[M,g,<-kI z i c I,Zd];rfl]
    lk;show br (λl=>put gb ?_) λl=>put _ ?_
    .let:=(n9 c).mp (Zo l);unfold okc;rw[Zf this,Ua]
    .let l: ¬ (⟨([c].toArray)⟩:jz)=nI ".":=λe=>l (Zf e)
     let: ¬ c=46:=λe=>l ((n9 c).mpr e)
     unfold okc;rw[Zh this,TR,DK];rfl
   .intro ys d a %[_,q,r|g];lk;show%[z.cps.toList.map okc,?_|?_]
    .let e:z.cps.toList.take z.cps.size=z.cps.toList:=by
      apply Zn;simp
     rw[e]at g;let:(z.cps.toList.map okc).map V.bl=ys:=by rw[g,Yp];rfl
     rw[this];show Qb.of r
    .let e:vv z=(z.cps.toList.map okc).all id:=by
      unfold vv;rw[m,p,WZ]
      all_goals rfl
     rw[<-e];show k a q
  .rw[Sz]at p;let e:vv z=gi:=by unfold vv;rw[p,Nx,Ob]
   rw[e]at k;show k H (ah.refl H)
  .rw[Sz]at m;let e:vv z=gi:=by unfold vv;rw[m,Ob,Ob]
   rw[e]at k;show k H (ah.refl H)
abbrev pD(p:gf×gf):on:=!decide (p.2=46)||decide (p.1=46)
def rG(x y:jz)(i c d:gf)(b:x.cps[i]?>=c)(f:y.cps[i]?>=d):((Nk x.cps.toList y.cps.toList).take i++[(c,d)])=(Nk x.cps.toList y.cps.toList).take (i+1):=by
 let h:(Nk x.cps.toList y.cps.toList)[i]?>=(c,d):=PV.mpr %[↑b|↑f];let%[a|e]:=Xn h;rw[OE a,e]
def rH:↥1 48 rE:=by
 .exists 48,"row above",I,hr,%[row,a,rfl,L,M|k];show%[_,%["JDPL~*cdA0BcdA1BEIqQEI~h~iAiZ?1~+A1A0BfNW0?2NW1?2gp~ks,1~J&st0~JB",0,↑(↑"high low",[])|↑["high","low"]]|?_]
  change aZ _ _ _ [-row,-a] H;show am λD1 k1 N=>?_
  lk;show%[bK !_,bK !_|br (λj=>?_) λj=>?_]
  .let j: ¬ ((row\5:md)=a\5):=↑j
   let e:gG row a=gi:=by
    unfold gG;rw[Zh !_,Ob]
   rw[e]at k;show N _ _ (k H (ah.refl H))
  .let j:row\5=a\5:=by
    let:(row\5:md)=a\5:=↑j
    lia
   show k1 ?_;let u:row.cps.size=a.cps.size:=j;let v:(Nk a.cps.toList row.cps.toList)\5=a.cps.size:=by rw[Uk];simp[u]
   lk;show aD λB O=>?_
   lk;show O λD C=>?_
   show b8 (J:=Itz a row) (n:=a.cps.size) (D:=D) (λi ys l g=>A4 (E2 λq r=>l=[q,r]) (ah H g) (g D<*ys) (ys=((Nk a.cps.toList row.cps.toList).take i).map (λp=>V.bl (pD p)))) %[%[fD,fD|rfl],ah.Qa C,aa|rfl]
    (λi _ _ _ hi _=>%[hi|!_]) (λ_ _ _ _=>%[Zi _,!_|.inl rfl]) ?_ ?_
   .intro i ys l g hi %[%[q,r|rfl],y,z|m] x H2 %[c,d,TT,U,Y,G,rfl|rfl];let o:ys\5=i:=by rw[m,Z6,Yj,v];lia
    let ab:i<1000:=by
     let:a\5=a.cps.size:=rfl
     lia
    let put:∀b:on,b=pD (c,d)->CK D a.cps.size i (λi ys l g=>A4 (E2 λq r=>l=[q,r]) (ah H g) (g D<*ys) (ys=((Nk a.cps.toList row.cps.toList).take i).map (λp=>V.bl (pD p)))) ys [fI (.str ⟨([c].toArray)⟩),fI (.str ⟨([d].toArray)⟩)] (.bl b) (Qa g TT (.tup [.str ⟨([c].toArray)⟩,.str ⟨([d].toArray)⟩])):=λb eb=>
     CK.mk hi (ah.Qa G _ _ z) (o▸aF !_) %[%[_,_|rfl],ah.set (y.trans (ah.Qa G)) C,aa|by rw[eb,m,<-rG a row i c d U Y,Zd];rfl]
    lk;show%[_,SqT.of aa,ρ,_,_,ρ,_,_,ρ,ρ,ρ|?_];simp only[V.str.injEq,n9];show br (λh=>put gb ?_) λh=>%[⟨⟩|put _ ?_]
    .unfold pD;rw[h,Ua]
    .unfold pD;rw[Sz]at h;rw[h,TR]
   .intro ys l g %[_,y,z|m];lk;show%[(Nk a.cps.toList row.cps.toList).map pD,?_|?_]
    .let e:(Nk a.cps.toList row.cps.toList).take a.cps.size=Nk a.cps.toList row.cps.toList:=Zn !_;rw[e]at m;let:((Nk a.cps.toList row.cps.toList).map pD).map V.bl=ys:=by rw[m,Yp];rfl
     rw[this];show Qb.of z
    .let e:gG row a=((Nk a.cps.toList row.cps.toList).map pD).all id:=by
      unfold gG;rw[Zf j,WZ,WL];rfl
     show e▸k g y
def CD(h:(rows.map (·.length)).sum<=3000):(ui (!"") rows).length<=3000:=by
 let:=Tt (!"") rows;rw[show(!"").length=0 from rfl]at this
 lia
def mW:↥1 49 (lw K):=by
 .exists 49,"rows",M,hr,%[a,rows,rfl,N,g,v|k];show%[_,%["JEI'~YA[~KAiZ?1~j~V~WYA0BW0?2!L,0~J0BB",0,↑(["sign"],[])|↑["sign"]]|?_];change jU _ _ [!a] H;lk;show aD λC O=>?_
  lk;show%[rows,N,by rw[show(!"").length=0 from rfl];lia|?_];rw[show Txt.join (!"") rows=ui (!"") rows from OB _ _];let j:=CD g;let b:=nN v;unfold dQ at b k
  generalize ui (!"") rows=z at j b k ⊢
  show O λD G=>?_
  show b8 (J:=Its z) (n:=z.cps.size) (D:=D) (λi ys y m=>A4 (∃o,y=[o]) (ah H m) (m D<*ys) (ys=((z.cps.toList.take i).filter (λc=>decide (c≠46))).map (λc=>V.str (sgn c)))) %[%[fD|rfl],ah.Qa G,aa|rfl]
   (λi _ _ _ hi _=>hi) (λ_ _ _ _=>Zi _) ?_ ?_
  .intro i ys y m hi %[%[o|rfl],r,u|d] x H2 %[U,c,I|rfl];subst U;let L:ys\5<=i:=by
    rw[d,Z6];let:=Yg (λc=>decide (c≠46)) (z.cps.toList.take i);rw[Yj]at this
    lia
   let Y:i<3000:=by
    let:z\5=z.cps.size:=rfl
    lia
   lk;simp only[n9];show br (λB=>?_) λB=>?_
   .show CK.mk hi u (aF !_) %[%[_|rfl],ah.set r G,aa|?_];rw[<-kI z i c I,Y1,Zd,d];let:decide (c≠46)=gb:=↑B
    rw[Qz,this];rfl
   .show CN.mk hi %[%[_|rfl],r,u|?_];rw[<-kI z i c I,Y1,Zd,d];let:decide (c≠46)=gi:=↑B
    rw[Qz,this];simp
  .intro ys y m %[_,r,u|d];let e:z.cps.toList.take z.cps.size=z.cps.toList:=by
    apply Zn;simp
   rw[e]at d;lk;let ab:=Yg (λc=>decide (c≠46)) z.cps.toList;let ac:z.cps.toList\5=z\5:=by simp[Vq]
   show%[(z.cps.toList.filter (λc=>decide (c≠46))).map sgn,?_,by rw[Z6];lia|λS hS=>%[_,aa,?_|λl ss p hp ae=>?_]]
   .rw[Yp];let:(z.cps.toList.filter (λc=>decide (c≠46))).map (V.str ∘ sgn)=ys:=by rw[d];rfl
    rw[this];show Qb.of u
   .let:=qC b
    lia
   .let q:ah H (Qa m S (jk w S (aL ((z.cps.toList.filter (λc=>decide (c≠46))).map sgn)))):=r.trans (ah.Qa hS);show k l _ ss (q.trans (ah.Qa p)) (q.free p) aa hp
def oa:↥2 46 rF:=by
 .exists 46,"text rows number row",al,M,%[rows,rfl,a|k];let%[wd,w1,w2|hw]:=a.wide;let N:=a.text;let u:=a.split;show%[_,%["JDPwm./A0A?1BE;QDH1]K]L0AYBDT~LA1BfNM2NM3gDPj%Lt2]M(wmG]NA3BE;QEPjzL:2C*wmG]OA3AR1F|2CBE;QDPLvcdAG~,A1BBCE;QEI1",D0.nd,(blE (v:= .ty "str") rfl T.ab V3 rfl rfl rfl)|M]|?_]
  generalize ui nl rows=z at N u
  change aZ _ _ _ [-z,fD,fD,fD] H;show am λD1 k1 _=>?_
  lk;show%[.type "str",.str z,gb,by rfl|wL (k1 (am λD2 k2 _=>?_))];lk;show%[!1,lx (by lia:z\5+2<=5000) (!1)|λl hl=>k2 ?_];rw[show(!"\n")=nl from rfl,u];show am λD3 k3 _=>az λag hK=>?_
  lk;let O:ah H (Qa H l (.lst (rows\3))):=ah.Qa hl;show%[_,Qb.of aa|hK (l9 (λi J g=>E2 λU Y=>A3 (J=[-z,!l,U,Y]) (ah H g) (g l<*rows\3)) %[fD,fD,ρ,O|aa] (λi J g _ ⟨_,_,_,_,q⟩=>Qb.of q) ?_ ?_)]
  .intro i x TT J g y %[U,Y,rfl,sm|j] hT;obtain⟨r,m,rfl⟩:∃r,rows[i]?>=r/\x=V.str r:=by
    rw[Zl]at y;cases e:rows[i]? with
    | none=>rw[e]at y;cases y
    | some r=>rw[e]at y;show%[r,ρ|(Za y).symm]
   let ai:i<rows\5:=(Xn m).1;let aj:=a.high;let B:ah H (Qa g TT (.tup [.int i,.str r])):=sm.trans (ah.Qa hT);let o:Qa g TT (.tup [.int i,.str r]) l<*rows\3:=ah.Qa hT _ _ j;let C:Qa g TT (.tup [.int i,.str r]) TT&&&[.int i,.str r]:=aa
   generalize Qa g TT _=HT at B o C
   let G:r\5<=1000:=by
    let:r\5=wd:=hw r (Z8 m)
    lia
   show%[_,SqT.of C,ρ,_,_,ρ,_,_,ρ,ρ|?_];change aZ _ _ _ [-z,!l,fI (.int i),-r] HT;show am λD4 k4 _=>?_
   let go:∀p,ah HT p->D4.nx [-z,!l,fI (.int i),-r] p:=by
    intro p b;show k4 (aB λD5 k5 _=>?_);let fin:∀L,ah HT L->D5.nx [-z,!l,fI (.int i),-r] L:=λL n=>k5 %[_,_,rfl,B.trans n|n l _ o]
    lk;show br (λI=>?_) λ_=>fin _ b
    let I:0<(i:md):=Zo I;obtain⟨d,rfl⟩:∃d,i=d+1:=%[i-1|!_]
    let ab:d<rows\5:=by lia
    let ac:rows[d]?>=rows[d]:=by simp
    let e1:(((d+1:gf):md) -1)=(d:md):=by lia
    show%[_,Qb.of (b l _ o),.str rows[d],e1▸bP ∅,r,rows[d],ρ,G,?_|λL n=>?_]
    .let:rows[d].length=wd:=hw _ (Yb ab)
     lia
    .rw[a.beneath ac m];show fin _ (b.trans n)
   lk;rw[hH !_];show%[r,ρ,G|λp b=>?_];rw[a.row (Z8 m)];show go p b
  .intro J g %[U,Y,rfl,sm|j];show k3 ?_;lk;show%[l,rows,ρ,Qb.of j,by let:=a.sum;lia,a.sign|λl2 p ss b an ae I=>%[_,.inl %[_,Qb.of ae|ρ]|?_]];rw[hH]
   .show k l p (sm.trans b) hl (b l _ j)
   .intro h0;let h0:=Zo h0;rw[Z6]at h0;let:ss=[]:=vu.mp !_;rw[this]at I;let hm:=I.symm.eq_nil;let%[c|hc]:=Og _ a.signs_ne;let:sgn c>aL ((dQ rows).map sgn):=bo.mpr (Xr %[c,hc|rfl]);rw[hm]at this;cases this
abbrev fB(p:gf×gf):ij ZB:=if p.1≠46/\p.1≠p.2 then fI [sgn p.1,sgn p.2]else fD
abbrev rJ(u r:jz):fx ZB:=(Nk u.cps.toList r.cps.toList).filterMap fB
def ko(H:Hp):aP H []:=λp a=>by cases a
def bg(h:aP H ps)(s:∀b z,H b&&&z->c b&&&z):aP c ps:=λp a=>%[(h p a).1|s _ _ (h p a).2]
def kJ(h:aP H ps)(a:q.2≠[])(b:H q.1&&&q.2\3):aP H (ps++[q]):=λp c=>by
 rcases Xo c with z|z
 .show h p z
 .rw[Xp z];show%[a|b]
def x6(a:aP H ps)(b:aP H qs):aP H (ps++qs):=λp c=>(Xo c).elim (a p) (b p)
inductive Ip
 | mk (u r:jz):vs=[.str u,.str r]->u\5<=40->r\5=u\5->(∀l H' ps,ah H H'->H l=fD->H' l>=.lst (ps\0)->aP H' ps->ps\2=rJ u r->Q (.ref l) H')->Ip vs H Q E0
inductive AQ
 | mk (rows:ZB):vs=[.str (ui nl rows)]->cV rows->(∀l H' (ss:ZB),ah H H'->H l=fD->H' l<*ss\3->ss.Perm (aL ((dQ rows).map sgn))->Q (.ref l) H')->AQ vs H Q E0
def CF:↥3 50 AQ:=by
 .exists 50,"text",d,b,%[rows,rfl,a|e];show%[_,%["JEIG~,AG~.A0BB",0|b],rows,ρ,a|λl q c r g=>%[l,rows,ρ,Qb.of g,by let:=a.sum;lia,a.sign|λi j ss m n o p=>e i j ss (c.trans m) (c.free n) o p]]
def lN:↥1 52 Ip:=by
 .exists 52,"above row",ac,hr,%[u,r,rfl,hu,ae|kk];let ag:u\5=u.cps.size:=rfl;let ai:r\5=r.cps.size:=rfl;show%[_,%["JEIiZ?1~+A0A1BfNW0?2NW1?2g!jzL,0~J*L,01kA0A1B",0,↑(↑"high low",[])|↑["high","low"]]|?_];change jU _ _ [-u,-r] H;lk;show aD λab hK=>?_
  lk;show hK λD O=>?_
  show b8 (J:=Itz u r) (n:=u.cps.size) (D:=D) (λi ys U l=>A5 (E2 λo1 o2=>U=[o1,o2]) (ah H l) (l D<*ys) (ys\5<=i) (∃ps:ZG,A3 (ys=ps\0) (aP l ps) (ps\2=((Nk u.cps.toList r.cps.toList).take i).filterMap fB)))
   %[%[fD,fD|rfl],ah.Qa O,aa,Zi _,[],rfl,ko _|rfl] (λi _ _ _ hi _=>%[hi|!_]) (λ_ _ _ _=>%[Zi _,!_|.inl rfl]) ?_ ?_
  .intro i ys U l hi %[%[o1,o2|rfl],Y,hl,G,ps,I,m|j] x H2 %[c,d,TT,hc,hd,hT,rfl|rfl];let v:=ah.Qa (o:= .tup [.str ⟨([c].toArray)⟩,.str ⟨([d].toArray)⟩]) hT;let nx:=rG u r i c d hc hd;let a:=v _ _ hl;let C:Qa l TT (.tup [.str ⟨([c].toArray)⟩,.str ⟨([d].toArray)⟩]) TT&&&[.str ⟨([c].toArray)⟩,.str ⟨([d].toArray)⟩]:=aa;let g:aP (Qa l TT (.tup [.str ⟨([c].toArray)⟩,.str ⟨([d].toArray)⟩])) ps:=λp L=>%[(m p L).1|v _ _ (m p L).2]
   let y:=Y.trans v
   generalize Qa l TT _=HT at v a C g y
   show%[_,SqT.of C,ρ,_,_,ρ,_,_,ρ,ρ|?_];change F6 _ _ [fI (.str ⟨([c].toArray)⟩),fI (.str ⟨([d].toArray)⟩)] HT _;lk;simp only[n9,z6];let aj:D≠TT:=nq a C rfl;show br (λM=>br (λN=>?_) λN=>?_) λM=>?_
   .let M:c≠46:=↑M
    let N:c≠d:=↑N
    show%[show 2<=iv from !1|λp L=>?_];let B:=ah.Qa (o:= .tup [V.str ⟨([c].toArray)⟩,V.str ⟨([d].toArray)⟩]) L;let al:p≠D:=nq L a rfl;show CK.mk hi (B _ _ a) (aF !_) %[%[_,_|rfl],ah.set (y.trans B) O,aa,by rw[Z9,Yi];lia,ps++[(p,[sgn c,sgn d])],by rw[I,Zd];rfl,?_|?_]
    .let keep:∀b z,Qa HT p _ b&&&z->Qa _ D (.lst (ys++[V.ref p])) b&&&z:=λb z e=>by
      let:b≠D:=nq e (B _ _ a) rfl;rw[ar this];show e
     show bg (kJ (bg g λb z e=>B _ _ e) ∅ (by rw[aa];rfl)) keep
    .rw[Zd,j,<-nx,Zz];let:fB (c,d)>=[sgn c,sgn d]:=hY %[M|N];rw[Y0,this];rfl
   .show CN.mk hi %[%[_,_|rfl],y,a,!_,ps,I,g|?_];rw[j,<-nx,Zz];let:fB (c,d)=fD:=hH λq=>q.2 ↑N
    rw[Y0,this];simp
   .show CN.mk hi %[%[_,_|rfl],y,a,!_,ps,I,g|?_];rw[j,<-nx,Zz];let:fB (c,d)=fD:=hH λq=>q.1 ↑M
    rw[Y0,this];simp
  .intro ys U l %[_,Y,hl,G,ps,I,m|j];rw[Zn (by rw[Uk];simp;lia)]at j;show kk D l ps Y O (by rw[hl,I]) m j
def Ft{K:ZA}{xs ys:ZM}{g:TG}{q:TS}{D:iN}(Pv:gf->St->Hp->Prop)(s:Pv 0 c H)(u:ys\5<=xs\5)(z:∀i c H,i<=ys\5->Pv i c H->Qb K H a xs/\Qb K H b ys)
 (A:∀i x y T c H,xs[i]?>=x->ys[i]?>=y->Pv i c H->H T=fD->g (.ref T) c (Qa H T (.tup [x,y])) λd j=>q {D with nx:=Pv (i+1),ct:=Pv (i+1),bk:=D.nx} d j) (B:∀c H,Pv ys.length c H->D.nx c H):
 ∃W:gf->gf->St->Hp->Prop,(∃m,W 0 m c H)/\∀i m c H,W i m c H->
  ((Cg K a b).stop i H/\D.nx c H)\/((Cg K a b).go i H/\∃N:St->Hp->Prop,(∀f h,N f h->∃r,r<m/\W (i+1) r f h)/\∀x h,(Cg K a b).yld i H x h->g x c h λd j=>q {D with nx:=N,ct:=N,bk:=D.nx} d j):=by
 show%[λi m c H=>m=ys\5-i/\i<=ys\5/\Pv i c H,%[ys\5,by simp,Xg _|s]|?_];intro i m c H %[rfl,hi|p];let%[l|n]:=z i c H hi p;by_cases o:i<ys\5
 .let C:xs[i]?>=xs[i]:=by simp[show i<xs\5 by lia]
  let E:ys[i]?>=ys[i]:=by simp
  show .inr %[%[xs,ys,_,_,l,n,C|E],Pv _,λf h G=>%[ys\5-(i+1),!_,rfl,o|G]|λv h y=>?_];let%[T,I,J,L,rfl,rfl,M|O]:=y;show A i I J T c H (M xs l) (O ys n) p L
 .let e:i=ys\5:=by lia
  subst e;show .inl %[%[xs,ys,l,n,!_,Zi _|.inr rfl]|B c H p]
abbrev bB(rows:ZB)(i:gf):fx ZB:=(kj i).flatMap λj=>rJ (rows.getD j ⟨([].toArray)⟩) (rows.getD (j+1) ⟨([].toArray)⟩)
def mX(rows:ZB)(i:gf):bB rows (i+1)=bB rows i++rJ (rows.getD i ⟨([].toArray)⟩) (rows.getD (i+1) ⟨([].toArray)⟩):=by
 unfold bB;rw[Xa,RW];simp
def z7(u r:jz):(rJ u r)\5<=u\5:=by
 show lx (On _ _) ?_;rw[Uk];let:u.cps.toList\5=u\5:=by simp[Vq]
 lia
def og(h:k>bB rows (rows\5-1)):∃a b,k=[sgn a,sgn b]/\Hl rows a b:=by
 let%[j,d|g]:=Nc.mp h;let f:∀j h,rows.getD j ⟨([].toArray)⟩=rows[j]:=λj h=>by simp[h]
 let d:=vj.mp d;let%[%[a|b],i|e]:=MN.mp g;unfold fB at e
 split at e
 .rename_i h
  let%[q|c]:=Xh i;rw[PV,f j !_,f _ !_]at c;show%[a,b,(Za e).symm,h.1,h.2,j,q,rows[j],rows[j+1],Z4 _,Z4 _,by simpa using c.1|by simpa using c.2]
 .lia
def oh(g:cV rows)(h:Hl rows a b):Let rows a/\Let rows b:=by
 let%[n1,l,i,j,r,c,d,f,g1|g2]:=h;show%[%[n1,r,Z8 d|Z8 ↑g1],λe=>n1 (g.fall i r c d f j a b g1 g2 e),c,Z8 f|Z8 ↑g2]
def CG(rows:ZB)(h:rows≠[]):u4 (rows\3) (fI 1) fD=(rows.drop 1)\3:=by
 unfold u4;rw[_HT.sIx_none,show(fI (1))>=((1:gf):md)from rfl,_HT.sIx_nat,Z6,Qv (NY.mpr h),<-WG,<-VX];rw[Zn (Yf▸Zi _)]
inductive AR
 | mk (rows:ZB):vs=[.str (ui nl rows)]->cV rows->z0 rows->(∀l H' ss,ah H H'->H l=fD->H' l>=.lst (ss\0)->aP H' ss->ss\5<=26->(∀t>ss,∃a b,t.2=[sgn a,sgn b]/\Let rows a/\Let rows b)->(∀k,k>ss\2↔k>bB rows (rows\5-1))->Q (.ref l) H')->AR vs H Q E0
def z8:↥3 51 AR:=λT=>by
 show (T.dd 51 rfl).cal fo (λH vs Q E h=>?_)
 .let%[rows,rfl,c,%[mm,ml|a2]|kk]:=h;show%[ρ|λf bl A outer s hr=>?_];let%[wd,w1,w2|ab]:=c.wide;let hp:1<=rows\5:=c.pos;let bc:=c.high;let a3:rows≠[]:=NY.mp hp;show%[_,%["JDH1G~.A0BDH2UBDT]PA1A~T1}C~lBfNM3NM4gEX~m~n2AG]QA3A4BBEI'~/A[~:A2BB",fo.nd|hr]|?_]
  change aZ _ _ _ [fI (.str (ui nl rows)),fD,fD,fD,fD] H;show am λD1 k1 r1=>?_
  lk;show%[rows,ρ,c|λR H1 s1 f1 hR=>k1 (am λD2 k2 r2=>?_)];lk;show%[Xg _|λL hL=>k2 (am λD3 k3 r3=>az λbd hK=>?_)];let s2:=ah.Qa (o:= .lst []) hL;let G:=s2 _ _ hR;let I:Qa H1 L (.lst []) L<*[]:=aa;let fL:H L=fD:=s1.free hL;let ac:=s1.trans s2
  generalize Qa H1 L _=H2 at s2 G I ac
  lk;show%[_,Qb.of G|λp hp=>?_];rw[CG rows a3];let s3:=ah.Qa (o:= .lst ((rows.drop 1)\3)) hp;let J:=s3 _ _ G;let ae:=s3 _ _ I;let M:Qa H2 p (.lst ((rows.drop 1)\3)) p<*(rows.drop 1)\3:=aa;let ag:=ac.trans s3;let a4:L≠R:=nq hL hR rfl;let a5:p≠L:=nq hp I rfl
  generalize Qa H2 p _=H3 at s3 J ae M ag
  show%[%[_|Qb.of J],%[_|Qb.of M]|hK (Ft (xs:=rows\3) (ys:=(rows.drop 1)\3) (λi σ l=>A5 (E2 λo3 o4=>σ=[fI (.str (ui nl rows)),!R,!L,o3,o4]) (ah H l) (l R<*rows\3) (l p<*(rows.drop 1)\3) (∃ps:ZG,A4 (l L>=.lst (ps\0)) (aP l ps) (ps\2=bB rows i) (ps\5<=40*i))) %[%[fD,fD|ρ],ag,J,M,[],ae,ko _,ρ|Xg _] (by rw[Z6,Z6,Yf];lia) (λi σ l _ q=>%[Qb.of q.3|Qb.of q.4]) ?_ ?_)]
  .intro i x y TT σ l hx hy %[%[o3,o4|rfl],sm,ai,aj,ps,N,g,n|al] hT;rw[Zl]at hx hy;let%[u,hu|rfl]:=zz.mp hx;let%[r,B|rfl]:=zz.mp hy;rw[Pu,Uz]at B;let bm:i+1<rows\5:=(Xn B).1;let ul:u\5=wd:=ab u (Z8 hu);let rl:r\5=wd:=ab r (Z8 B);let j:=ah.Qa (o:= .tup [V.str u,V.str r]) hT;let an:Qa l TT (.tup [V.str u,V.str r]) TT&&&[V.str u,V.str r]:=aa;let aq:=j _ _ ai;let as:=j _ _ aj;let v:=j _ _ N;let C:aP (Qa l TT (.tup [V.str u,V.str r])) ps:=bg g λb z e=>j _ _ e
   let aR:=sm.trans j
   generalize Qa l TT _=HT at j an aq as v C aR
   show%[_,SqT.of an,ρ,_,_,ρ,_,_,ρ,ρ|?_];show aB λD4 k4 r4=>?_
   lk;show%[tyL (Qb.of v),u,r,ρ,!_,!_|λl4 H4 ps4 Y f4 h4 aU e4=>?_];let bn:l4≠L:=nq f4 v rfl;let bf:ps4\5<=40:=by
    let:(ps4\2)\5=(rJ u r)\5:=by rw[e4]
    rw[Z6]at this;let:=z7 u r
    lia
   show%[_,Y _ _ v,_,h4,by rw[Z6,Z6];show bK !_|k4 ?_];let O:∀b z,H4 b&&&z->Qa H4 L (.lst ((ps\0) ++ps4\0)) b&&&z:=λb z e=>by
    let:b≠L:=nq e (Y _ _ v) rfl;rw[ar this];show e
   let a6:R≠L:=wh a4;show%[%[_,_|ρ],λb u' e=>?_,(ar a6)▸Y _ _ aq,(ar a5)▸Y _ _ as,ps++ps4,by rw[aa,Zd],bg (x6 (bg C λb z e=>Y _ _ e) aU) O,?_|by rw[Z9];lia]
   .rw[ar (aC e fL)];show Y _ _ (aR _ _ e)
   .rw[Zd,n,e4,mX];let g1:rows.getD i ⟨([].toArray)⟩=u:=by rw[Zc,hu];rfl
    let g2:rows.getD (i+1) ⟨([].toArray)⟩=r:=by rw[Zc,B];rfl
    rw[g1,g2]
  .intro σ l %[%[o3,o4|rfl],sm,ai,aj,ps,N,g,n|al];rw[Z6,Yf]at n;show k3 ?_;lk;let U:∀q>ps,∃a b,q.2=[sgn a,sgn b]/\Hl rows a b:=λq d=>og (n▸Xr %[q,d|rfl])
   let a0:∀q>ps,q.2>mm:=λq d=>by
    let%[a,b,e|h]:=U q d;rw[e];show a2 a b h
   show%[ps,Qb.of N,g,%[mm,!_|a0]|λl5 a7=>?_];let s5:=ah.Qa (o:=qR P w l5 (bR ps)) a7;let bb:(bR ps)\5<=26:=by
    let:=_ST.nodup_sub (eY ps) (m:=mm) λk hk=>by
     let%[q,d|rfl]:=Xq hk;show a0 q (bI ps q d)
    rw[Z6]at this
    lia
   show%[bR ps,aa,λq d=>%[(g q (bI ps q d)).1|s5 _ _ (g q (bI ps q d)).2],2,λq d=>?_,!1,!_|λl6 ss a1 pm=>?_]
   .let%[a,b,e|_]:=U q (bI ps q d);rw[e];rfl
   let s6:=ah.Qa (o:= .lst (ss\0)) a1;show kk l6 _ ss ((sm.trans s5).trans s6) ((sm.trans s5).free a1) aa (λq d=>?_) (pm.length_eq▸bb) (λq d=>?_) λk=>?_
   .let:=g q (bI ps q (pm.mem_iff.mp d));show%[this.1|s6 _ _ (s5 _ _ this.2)]
   .let%[a,b,e|h]:=U q (bI ps q (pm.mem_iff.mp d));show%[a,b,e|oh c h]
   .rw[(pm.map _).mem_iff,jq,n]
abbrev fO(z:jz):on:=(decide (1<=(z\5:md))&&decide ((z\5:md)<=8))&&z.cps.toList.all jI
inductive rK
 | mk (z:jz):vs=[.str z]->fO z=gb->(∀H',ah H H'->Q (.bl gb) H')->rK vs H Q E0
inductive x8 (K:ZA)
 | mk (z:jz) (p:hW) (ts:ZB):vs=[.str z,.ref p]->(Qb K H p (ts\3)\/SqT K H p (ts\3))->Q (.bl (decide (z>ts))) H->x8 K vs H Q E0
inductive rL
 | mk (i:md):vs=[.int i]-> -9999<=i->i<=9999->Q (.bl gb) H->rL vs H Q E0
abbrev mZ(ls:ZB)(vs:ZM):Prop:=
 (∃w a b:jz,vs=[.str w,.str a,.str b]/\(w="later"\/w="same")/\a>ls/\b>ls/\a≠b)\/
 ∃w a y,vs=[.str w,.str a,.int y]/\(w="since"\/w="by")/\a>ls/\ -9999<=y/\y<=9999
inductive m7 (K:ZA)
 | mk (t p xs ls):vs=[.ref t,.ref p]->H t&&&xs->Qb K H p (ls\3)->mZ ls xs->Q (.bl gb) H->m7 K vs H Q E0
abbrev lnS(n z:jz):jz:=y2++n++nI "."++z
inductive lz
 | mk (n z:jz):vs=[.str n,.str z]->n\5<=100->z\5<=100->Q (.str (lnS n z)) H->lz vs H Q E0
def AS(z:jz)(ts:ZB):inV (V.str z) (ts\3)=decide (z>ts):=by
 unfold inV
 induction ts with
 | nil=>rfl
 | cons c r a=>
   change((c==z)||_)=_
   grind
def CH(ts:ZB):(ts\3).all gC=gb:=by simp[gC]
def CI:↥1 45 rK:=by
 .exists 45,"thing",y,N,%[z,rfl,B|k];show%[_,%["JDPwm./A0A?1BEIqQEI$~g~E~ECcdA0B]R&~h~iAiZ?2~j0W0?3ps~(0~)B",0,(blE (v:= .ty "str") rfl T.ab V3 rfl rfl rfl),↑(["sign"],[])|↑["sign"]]|?_]
  change aZ _ _ _ [-z] H;let a:=B;unfold fO at a;rw[Zv,Zv]at a;let%[%[C|q]|b]:=a;let O:z\5<=8:=by let:=Zo q;lia
  lk;show%[.type "str",.str z,gb,by rfl|?_];lk;show%[bK !_|?_];rw[hY C,hY q];show aD λr G=>?_
  lk;show G λD u=>?_
  show b8 (J:=Its z) (n:=z.cps.size) (D:=D) (λi ys l d=>A4 (∃o,l=[o]) (ah H d) (d D<*ys) (ys=(z.cps.toList.take i).map (λc=>V.bl (jI c)))) %[%[fD|rfl],ah.Qa u,aa|rfl]
   (λi _ _ _ hi _=>hi) (λ_ _ _ _=>Zi _) ?_ ?_
  .intro i ys l d hi %[%[o|rfl],m,p|g] x U %[I,c,L|rfl];subst I;lk;let j:ys\5=i:=by
    rw[g,Z6,Yj];let:z.cps.toList\5=z.cps.size:=by simp
    lia
   let M:i<1000:=by
    let:z\5=z.cps.size:=rfl
    lia
   show CK.mk hi p (j▸aF !_) %[%[_|rfl],ah.set m u,aa|?_];rw[DK,g,<-kI z i c L,Zd]
   all_goals rfl
  .intro ys l d %[_,m,p|g];show%[(z.cps.toList.map jI),?_|?_]
   .let e:z.cps.toList.take z.cps.size=z.cps.toList:=by
     apply Zn;simp
    rw[e]at g;let:(z.cps.toList.map jI).map V.bl=ys:=by rw[g,Yp];rfl
    rw[this];show Qb.of p
   .let e:(z.cps.toList.map jI).all id=gb:=by
     rw[WZ];show b
    rw[e];show k d m
def dh:↥1 66 (x8 K):=by
 .exists 66,"thing texts",a,c,%[z,p,ts,rfl,b|k];show%[_,%["JEI$./A0A?1B&s~I01",0|(blE (v:= .ty "str") rfl T.ab V3 rfl rfl rfl)]|?_];change jU _ _ [fI _,fI _] H;lk;show%[.type _,.str z,gb,by rfl|?_];rw[<-AS]at k;show%[_,b,ρ,CH ts|k]
def CJ:↥1 67 rL:=by
 .exists 67,"thing",a,d,%[i,rfl,b,c|k];show%[_,%["JDPj%wm./A0A?1B(m./A0A?2BEIqQEI~g~E~E]S0]T",0,(blE (v:= .ty "int") rfl T.ah boot_int rfl rfl rfl)|(blE (v:= .ty "bool") rfl T.ai YE rfl rfl rfl)]|?_]
  change aZ _ _ _ [fI (.int i)] H;lk;show%[.type _,.int i,gb,by rfl,.type _,.int i,gi,by rfl|?_];rw[hY (Zf b),Zf c];show k
def jy:↥1 68 lz:=by
 .exists 68,"name letter",d,j,%[n,z,rfl,l,m|k];show%[_,%["JEI~;~M~o0~MY~M~o1~<"|0]|?_];change jU _ _ [-n,fI _] H;lk;let e:∀a b:jz,(a++b)\5=a\5+b\5:=λa b=>Qu
  let g:y2.length=0:=rfl;let i:(!".").length=1:=rfl;let c:∀k,k<=1000->k<=iv:=λk o=>bK !_
  show%[c _ !_,c _ ?_,c _ ?_,c _ !_,c _ ?_,c _ ?_|k]<;> simp only[e,g,i]<;> lia
def x9:↥2 65 (m7 K):=by
 .exists 65,"thing layers",m,c,%[t,p,xs,ls,rfl,l,e,ok|k];show%[_,%["JDPj%wm./A0A?1B(L~*cdA0BCEIqQDPmG~NAO0CA]UBEI$G~NAO0CA1B$G~NAO0CA1B&s,O0CO0CQDPmG~NAO0CA]VBEI$G~NAO0CA1B&G]WAO0CBQEIq",0,(blE (v:= .ty "tuple") rfl T.ag boot_tuple rfl rfl rfl)|c]|?_]
  change aZ _ _ _ [!t,!p] H;lk;show%[.type "tuple",.tup l,gb,by rfl|?_];let st:=SqT.of (K:=K) l;rcases ok with⟨wd,a,b,rfl,hw,g,n,i⟩|⟨wd,a,y,rfl,hw,g,o,r⟩
  .let j:decide (wd>([!"later",!"same"]:ZB))=gb:=by rcases hw with rfl|rfl<;> decide
   lk;show%[3,.inr %[_,st|ρ]|?_];rw[hH (!1)];show%[_,st,_,ρ|λq d=>%[wd,q,[!"later",!"same"],ρ,.inr (d H)|?_]];rw[j];lk;show%[_,st,_,ρ,a,p,ls,ρ,.inl e|?_];rw[Zf g];lk;show%[_,st,_,ρ,b,p,ls,ρ,.inl e|?_];rw[Zf n];lk;show%[_,st,_,ρ,_,st,_,ρ,ρ|?_];rw[show(!decide (V.str a=V.str b))=gb from by simp[i]];show k
  .let j:decide (wd>([!"later",!"same"]:ZB))=gi:=by rcases hw with rfl|rfl<;> decide
   let u:decide (wd>([!"since",!"by"]:ZB))=gb:=by rcases hw with rfl|rfl<;> decide
   lk;show%[3,.inr %[_,st|ρ]|?_];rw[hH (!1)];show%[_,st,_,ρ|λq d=>%[wd,q,[!"later",!"same"],ρ,.inr (d H)|?_]];rw[j];lk;show%[_,st,_,ρ|λq d=>%[wd,q,[!"since",!"by"],ρ,.inr (d H)|?_]];rw[u];lk;show%[_,st,_,ρ,a,p,ls,ρ,.inl e|?_];rw[Zf g];lk;show%[_,st,_,ρ,y,ρ,o,r|k]
abbrev nmC(b a k j:gf):gf:=97+(b+5*j*j+k*(if j=a then 1 else 0))%26
abbrev nmS(b a k s:gf):jz:=⟨((kj s).map (nmC b a k)).toArray⟩
def v5(b a k s:gf):(nmS b a k s)\5=s:=by
 change((kj s).map _).toArray.size=s;simp
def Fu{b a k s:gf}(e:1<=s)(f:s<=8):fO (nmS b a k s)=gb:=by
 let all:∀i:Fin 26,jI (97+i.1)=gb:=!0
 unfold fO;rw[v5];simp only[Zv,xr,N3];show%[%[!_|!_]|λc d=>?_];let%[j,_|rfl]:=Xq (d);show all %[_|RU _ (!1)]
def KG{b a k c s s':gf}(h:a<s)(h':a<s')(f:k<8)(d:c<8)(e:nmS b a k s=nmS b a c s'):k=c:=by
 let e:(kj s).map _=(kj s').map _:=nY (λz=>z.cps.toList) e;let e:=nY (·[a]?) e;simp only[Zl,O8 h,O8 h',map_some,TN,nmC,Qy]at e
 generalize b+5*a*a=m at e
 lia
def Hr(b a k s m:gf)(h:m<=s):Txt.slice (nmS b a k s) fD (fI m)=nmS b a k m:=by
 rw[NE.mp (X5 ⋯ (by rw[v5];lia))];show im ?_;change((((kj s).map _).drop 0).take _)=(kj m).map _;rw[Tq,<-VX,V8,show min _ s=m by lia]
abbrev Nm4(ms:ZB):Prop:=ms\5=8/\ms.Nodup/\∀z>ms,fO z=gb
def Fv{b a:gf}{s:gf->gf}(h:∀k<8,a<s k/\s k<=8):Nm4 ((kj 8).map λk=>nmS b a k (s k)):=by
 show%[by simp,?_|λz f=>?_]
 .rw[X1,X7];show Xi (λ{x y} c d e g=>e ?_) (X1.mp (PF));rw[vj]at c d;show KG (h x c).1 (h y d).1 c d g
 .let%[k,i|rfl]:=Xq f;let:=h k (vj.mp i);show Fu ⋯ this.2
inductive Fw
 | mk (n:md):vs=[.int n]->0<=n->n<9973->(∀l H' (ms:ZB),ah H H'->H l=fD->H' l<*ms\3->Nm4 ms->Q (.ref l) H')->Fw vs H Q E0
def yb:↥1 88 Fw:=by
 .exists 88,"~number ~size ~at ~names_here ~k ~signs ~j ~place",ae,hr,%[n,rfl,n0,n1|kk];let%[n|rfl]:=Xj n0;show%[_,%["JDu1abFeCFS0CDu2abFSFl0CK1Du3abUBDTyACBM4DH5UBDTyAK1BM6DH7FeFeFl0CFrFrC66Fr4~e~fAst6K2BEXon5A~&YFS7CBEXonK3A~V~WYA5BBDPLvFSFl0CCCE~'3abiZ?1yACBW0?2p]XRK10~l}RUAK2AFeK3CBFS0CQEIK3",D0.nd,↑(↑"~k ~names_here ~size ~at",[(1,3),(2,1),(3,2)])|↑["_law_k","_law_names_here","_law_size","_law_at"]]|?_]
  change aZ _ _ _ [fI (.int n),fD,fD,fD,fD,fD,fD,fD] H;show am λD1 k1 _=>?_
  lk;show%[!1|k1 (am λD2 k2 _=>?_)];obtain⟨sz,es,s1,s8⟩:∃sz:gf,1+(n:md)%8=sz/\1<=sz/\sz<=8:=%[1+n%8,(by lia -verbose),(by lia -verbose)|(by lia -verbose)]
  rw[es];lk;show%[%[!1|!1],(by lia -verbose)|k2 (am λD3 k3 _=>?_)];obtain⟨a,ea,al⟩:∃a:gf,(n:md)/8%sz=a/\a<sz:=%[n/8%sz,by simp|RU _ (by lia -verbose)]
  rw[ea];lk;show%[Xg _|λL U=>k3 (am λD4 k4 _=>az λv B=>?_)];lk;show%[!1,!1|B (cm (λi d l=>E4 λY I y q=>A3 (d=[fI (.int n),fI (.int sz),fI (.int a),!L,Y,I,y,q]) (ah H l) (l L>=.lst (((kj i).map λk=>nmS (n/64) a k sz)\3)))
   %[_,_,_,_,ρ,ah.Qa U|aa] ?_ ?_)]
  .intro i d z hi %[Y,I,y,q,rfl,g|b];change aZ _ _ _ [fI (.int n),fI (.int sz),fI (.int a),!L,fI (.int (0+i)),I,y,q] z;rw[MC];show am λD5 N _=>?_
   lk;show%[Xg _|λM hM=>N (am λD6 k6 _=>az λv B=>?_)];lk;show%[(by lia -verbose),(by lia -verbose)|B (cm (λj d l=>E2 λy q=>A3 (d=[fI (.int n),fI (.int sz),fI (.int a),!L,fI (.int i),!M,y,q]) (ah z l) (l M>=.lst (((kj j).map λj=>sgn (nmC (n/64) a i j))\3)))
    %[_,_,ρ,ah.Qa hM|aa] ?_ ?_)]
   .intro j d C hj %[y,q,rfl,r|u];change aZ _ _ _ [fI (.int n),fI (.int sz),fI (.int a),!L,fI (.int i),!M,fI (.int (0+j)),q] C;rw[MC];show am λD7 k7 _=>?_
    lk;show%[%[!1|!1],.inl %[!1|!1],.inr %[(by lia -verbose)|(by lia -verbose)],.inr %[by split<;> decide|by split<;> decide]|k7 (aB λD8 k8 _=>?_)];let e:(n:md)/64+5*j*j+i*(if decide ((j:md)=a)=gb then 1 else 0)=((n/64+5*j*j+i*(if j=a then 1 else 0):gf):md):=by
     by_cases h:j=a
     .simp[h]
     .simp[h,show ¬ (j:md)=a by lia -verbose]
    rw[e]
    generalize hp:n/64+5*j*j+i*(if j=a then 1 else 0)=p
    lk;show%[tyL (Qb.of u),!1,#[26],_,Fq (by lia -verbose) (by lia -verbose),_,u,by rw[Z6,Z6,Yh];show aF (by lia -verbose)|k8 %[_,_,ρ,ah.set r hM|?_]];rw[aa,Xa,Zd,Zd];let:97+((p:md)%26).toNat=nmC (n/64) a i j:=by
     unfold nmC;rw[hp]
     lia -verbose
    rw[this];rfl
   .intro d C %[y,q,rfl,r|u];show k6 (aB λD7 k7 _=>?_);lk;let G:=r _ _ b;let e:(kj (Qp sz)).map (λj=>sgn (nmC (n/64) a i j))=((kj sz).map (nmC (n/64) a i)).map sgn:=by rw[Yp];rfl
    show%[tyL (Qb.of G),((kj sz).map (nmC (n/64) a i)).map sgn,Qb.of (by rw[<-e];simpa using u),?_,_,G,by rw[Z6,Z6,Yh];show aF (by lia -verbose)|k7 %[_,_,_,_,ρ,ah.set (g.trans r) U|?_]]
    .rw[vw,Z6,Z6,Yh,show(!"").length=0 from rfl]
     lia -verbose
    .rw[aa,Xa,Zd,Zd,show Txt.join (!"") (((kj sz).map (nmC (n/64) a i)).map sgn)=ui (!"") (((kj sz).map (nmC (n/64) a i)).map sgn)from OB _ _,qD];rfl
  .intro d z %[Y,I,y,q,rfl,g|b];show k4 (am λD5 N _=>?_);let b:z L>=.lst (((kj 8).map λk=>nmS (n/64) a k sz)\3):=b;lk;show%[%[!1|!1],!1|br (λ_=>?_) λ_=>?_]
   .show aD λv B=>?_
    lk;show%[!1,!1|B λF hF=>?_];show b8 (J:=Itr 0 8) (n:=8) (D:=F) (λi vs d l=>A4 (∃o,d=[o,!L,fI (.int sz),fI (.int a)]) (ah z l) (l F<*vs) (vs=((kj i).map λk=>nmS (n/64) a k (if k%2=1 then a+1 else sz))\3))
     %[%[fD|rfl],ah.Qa hF,aa|rfl] (λi _ _ l hi _=>hi) (λ_ _ l _=>Zi _) ?_ ?_
    .intro i vs d C hi %[%[o|rfl],O,ab|rfl] x ag %[e2|e3];rw[MC]at e3;subst e2 e3;lk;obtain⟨m,em,e1,ml⟩:∃m:gf,atI [V.int sz,V.int ((a:md) +1)] ((i:md)%2)>=V.int m/\(if i%2=1 then a+1 else sz)=m/\m<=sz:=by
      rcases(by lia -verbose:i%2=1\/i%2=0)with c|c
      .show%[a+1,by rw[show(i:md)%2=1 by lia -verbose];rfl,hY c|al]
      .show%[sz,by rw[show(i:md)%2=0 by lia -verbose];rfl,hH (by lia -verbose)|Zi _]
     show%[_,Qb.of (O _ _ b),.str (nmS (n/64) a i sz),bP (by rw[Zl,Zl,O8 hi];rfl),#[2]|λp hp=>%[!1,_,Qb.of aa,_,em,by rw[v5];show bK (by lia -verbose)|?_]];let sp:=ah.Qa (o:= .lst [V.int sz,V.int ((a:md) +1)]) hp;show CK.mk hi (sp _ _ ab) (by rw[Z6,Z6,Yh];show aF (by lia -verbose)) %[%[_|rfl],ah.set (O.trans sp) hF,aa|?_];rw[Xa,Zd,Zd,Hr _ _ _ _ _ ml,<-e1];rfl
    intro vs d C %[_,O,ac|rfl];show N ?_;lk;show kk F C ((kj 8).map λk=>nmS (n/64) a k (if k%2=1 then a+1 else sz)) (g.trans O) (g.free hF) ac (Fv (s:=λk=>if k%2=1 then a+1 else sz) λk hk=>by split<;> show%[(by lia -verbose)|(by lia -verbose)])
   .show N ?_;lk;show kk L z ((kj 8).map λk=>nmS (n/64) a k sz) g U b (Fv (s:=λ_=>sz) λk hk=>%[al|s8])
abbrev cQ(H:Hp)(a:ZH):Prop:=∀p>a,H p.1&&&[.str p.2.1,.str (ui nl p.2.2)]/\fO p.2.1=gb/\cV p.2.2
def cQ.up(h:cQ H b)(s:ah H c):cQ c b:=λp a=>%[s _ _ (h p a).1|(h p a).2]
inductive uE
 | mk (rows:ZB):vs=[.str (ui nl rows)]->cV rows->(∀H',ah H H'->Q (.bl gb) H')->uE vs H Q E0
inductive yd
 | mk (p:hW×jz×ZB):vs=[.ref p.1]->cQ H [p]->(∀H',ah H H'->Q (.bl gb) H')->yd vs H Q E0
abbrev dz(a:ZH):ZM:=a\0
inductive lA
 | mk (l cs):vs=[.ref l]->H l<*dz cs->cQ H cs->(cs.map λp=>p.2.1).Nodup->1<=cs\5->cs\5<=8->(∀H',ah H H'->Q .non H')->lA vs H Q E0
abbrev cR(H:Hp)(ls:ZB)(qs:ZN):Prop:=∀q>qs,H q.1&&&q.2/\mZ ls q.2
def cR.up(h:cR H ls qs)(s:ah H b):cR b ls qs:=λp a=>%[s _ _ (h p a).1|(h p a).2]
inductive jb (K:ZA)
 | mk (l r ls qs):vs=[.ref l,.ref r]->H l>=.lst (qs\0)->H r<*ls\3->cR H ls qs->qs\5<=60->(∀H',ah H H'->Q .non H')->jb K vs H Q E0
def Fx:↥3 63 uE:=by
 .exists 63,"thing",b,c,%[rows,rfl,a|k];show%[_,(QSs.h (ak (tryN (λ_ _ h=>h) (au (bO rfl (aG (oa T) c rfl #[↑0]))))
   (au (aO eBl))))|?_]
  change aZ _ _ _ [fI (.str (ui nl rows))] H;lk;show%[rows,ρ,a|λl d e g i=>k d e]
def rN:↥4 62 yd:=by
 .exists 62,"thing",e,c,%[p,rfl,g|k];let%[b,i|a]:=g p (Yx.mpr rfl);show%[_,%["JEI$./A0A?1B$svcdA0BC$G]YAO0CB&G]ZAO0CB",0,(blE (v:= .ty "tuple") rfl T.ag boot_tuple rfl rfl rfl)|c]|?_];change jU _ _ [fI _] H;lk;show%[.type _,.tup b,gb,by rfl|?_];let st:=SqT.of (K:=K) b;show%[2,.inr %[_,st|ρ],_,st,_,ρ,p.2.1,ρ,i|λm d=>?_];lk;show%[_,SqT.of (d _ _ b),_,ρ,p.2.2,ρ,a|λj l=>k j (d.trans l)]
def v6:↥5 61 lA:=by
 .exists 61,"cuts names number thing",ai,L,%[l,c,rfl,G,M,N,h1,h8|k];let y:(dz c)\5=c\5:=Z6 _;show%[_,%["JDPj%wm./A0A?1B(LvcdA0BCE;QDH1)ET~LA0BfNM2NM3gDPj%Lt2]a%wmG]bA3B(~pO3C1E;QExq1O3C",D0.nd,(blE (v:= .ty "list") rfl T.a6 Q6 rfl rfl rfl)|L]|?_]
  change aZ _ _ _ [!l,fD,fD,fD] H;show am λD1 k1 _=>?_
  lk;show%[.type "list",.lst G,gb,by rfl|?_];lk;show%[c\5,.inl %[_,Qb.of G|y.symm]|?_];rw[hH (by simp only[xr];lia)];show k1 (am λD2 k2 _=>?_);lk;show λd O=>k2 (aB λD3 k3 _=>az λag hK=>?_)
  lk;show%[_,Qb.of (ah.Qa O _ _ G)|hK (l9 (λi I g=>∃U Y a,I=[!l,!d,U,Y]/\ah H g/\g d>=.dK a/\a\1=(c.take i).map λp=>hX p.2.1) %[fD,fD,[],ρ,ah.Qa O,aa|ρ] (λi I g _ ⟨_,_,_,_,q,_⟩=>Qb.of (q _ _ G)) ?_ ?_)]
  .intro i x TT I g J %[U,Y,a,rfl,sm,z|m] hT;let hi:i<c\5:=y▸(Xn J).1;obtain⟨q,hq,rfl⟩:∃q,c[i]?>=q/\x=V.ref q.1:=by
    unfold dz at J;rw[Zl,Z4 hi]at J;show%[c[i],Z4 hi|(Za J).symm]
   let b:ah H (Qa g TT (.tup [.int i,.ref q.1])):=sm.trans (ah.Qa hT);let B:Qa g TT (.tup [.int i,.ref q.1]) TT&&&[.int i,.ref q.1]:=aa;let u:=ah.Qa (o:= .tup [.int i,.ref q.1]) hT _ _ z
   generalize Qa g TT _=HT at b u B
   let n:=M q (Z8 hq);show%[_,SqT.of B,ρ,_,_,ρ,_,_,ρ,ρ|?_];change aZ _ _ _ [!l,!d,fI (.int i),fI (.ref q.1)] HT;show am λD4 k4 _=>?_
   lk;rw[hH (by simp only[xr];lia)];show%[q,ρ,λp hp=>(Xp hp)▸%[b _ _ n.1|n.2]|λH2 C=>bN ?_];let r:(hX q.2.1:Key)∉a\1:=by
    rw[m];intro hm;let%[q',ab|e]:=Xq hm;let e:q'.2.1=q.2.1:=NN e;let%[j|hj]:=Xh ab;let ac:j<i:=by
     let:=(Xn hj).1;rw[Yj]at this
     lia
    rw[Y9 ac]at hj;let n1:(c.map λp=>p.2.1)[j]?>=q.2.1:=by rw[Zl,hj,<-e];rfl
    let:=iL N n1 (by rw[Zl,hq];rfl)
    lia
   show%[_,SqT.of (C _ _ (b _ _ n.1)),_,ρ,_,cZ.k (k:=hX q.2.1) (C _ _ u)|?_];let hv:bD a (hX q.2.1:Key)=fD:=by
    cases e:bD a (hX q.2.1:Key)with
    | none=>rfl
    | some v=>show lr (GJ e) r
   rw[hv,hH ∅];show k4 (aB λD5 k5 _=>?_);lk;let ae:a\5=i:=by
    let:=nY L3 m;rw[Z6,Z6,Yj]at this
    lia
   show%[_,SqT.of (C _ _ (b _ _ n.1)),_,ρ,_,h9.k (k:=hX q.2.1) (C _ _ u) (ae▸aF !_)|k5 %[_,_,_,ρ,ah.set (b.trans C) O,aa|?_]];rw[nQ,hH r,m,Xc,Zd,hq];rfl
  .intro I g %[U,Y,a,rfl,sm,z|m];show k3 (k g sm)
def pR:↥3 64 (jb K):=by
 .exists 64,"sayings layers number thing",z,B,%[l,r,ls,qs,rfl,g,j,m,C|k];show%[_,%["JDPwm./A0A?1BE;QET~LA0BfNM2NM3gEPj%Lt2]c(wmG]dA3A1BE;Q",D0.nd,(blE (v:= .ty "list") rfl T.a6 Q6 rfl rfl rfl)|B]|?_]
  change aZ _ _ _ [!l,!r,fD,fD] H;show am λN k1 _=>?_
  lk;show%[.type "list",.lst g,gb,by rfl|?_];lk;show k1 (aB λO G _=>az λy I=>?_);lk;show%[_,Qb.of g|I (l9 (λi e b=>E2 λn o=>e=[!l,!r,n,o]/\ah H b) %[fD,fD,ρ|ah.refl H] (λi e b _ ⟨_,_,_,q⟩=>Qb.of (q _ _ g)) ?_ ?_)]
  .intro i x TT e b p %[n,o,rfl|u] J;let hi:i<qs\5:=(Z6 _)▸(Xn p).1;obtain⟨q,L,rfl⟩:∃q,qs[i]?>=q/\x=V.ref q.1:=by
    rw[Zl,Z4 hi]at p;show%[qs[i],Z4 hi|(Za p).symm]
   let a:ah H (Qa b TT (.tup [.int i,.ref q.1])):=u.trans (ah.Qa J);let c:Qa b TT (.tup [.int i,.ref q.1]) TT&&&[.int i,.ref q.1]:=aa
   generalize Qa b TT _=HT at a c
   let d:=m q (Z8 L);show%[_,SqT.of c,ρ,_,_,ρ,_,_,ρ,ρ|?_];change kO _ _ _ _ [!l,!r,fI (.int i),fI (.ref q.1)] HT;show aB λU M _=>?_
   lk;rw[hH !_];show%[q.1,r,q.2,ls,ρ,a _ _ d.1,Qb.of (a _ _ j),d.2|M %[_,_,ρ|a]]
  .intro e b %[n,o,rfl|u];show G (k b u)
abbrev lyr(p:hW×jz×ZB):ZB:=(aL ((dQ p.2.2).map sgn)).map (lnS p.2.1)
inductive m8
 | mk (l cs):vs=[.ref l]->H l<*dz cs->cQ H cs->cs\5<=8->(cs.flatMap lyr)\5<=63->(∀r H' (ls:ZB),ah H H'->H r=fD->H' r<*ls\3->ls.Perm (cs.flatMap lyr)->ls.Pairwise (λa b=>aV b a=gi)->Q (.ref r) H')->m8 vs H Q E0
abbrev eD(ls:ZB)(k:ZB):Prop:=∃a b z,k=[a,b,z]/\a>ls/\b>ls
abbrev Sml(z:jz):Prop:=z\5<=30/\∀c>z.cps.toList,c<16^8
abbrev CL(ls:ZB)(k:ZB):Prop:=eD ls k/\∀z>k,Sml z
def ye(h:fO z=gb):Sml z:=by
 unfold fO at h;rw[Zv,Zv]at h;show%[!_|λc a=>?_];let:=(nM.mp (N3.mp h.2 c a)).2
 lia
def Sml.app{a b:jz}(f:∀c>a.cps.toList,c<16^8)(g:∀c>b.cps.toList,c<16^8):∀c>(a++b).cps.toList,c<16^8:=λc d=>by
 let e:(a++b).cps.toList=a.cps.toList++b.cps.toList:=Xf;rw[e]at d;show(Xo d).elim (f c) (g c)
def Hs(h:c<1000):∀x>(sgn c).cps.toList,x<16^8:=λx a=>by
 let e:=by simpa [sgn]using a
 lia
def oj{c:gf}(h:fO n=gb)(d:c<1000):Sml (lnS n (sgn c)):=by
 let e:∀a b:jz,(a++b)\5=a\5+b\5:=λa b=>Qu
 let l:n\5<=8:=by
  unfold fO at h
  grind
 show%[?_|Sml.app (Sml.app (Sml.app (λc d=>(nomatch d)) (ye h).2) (!0)) (Hs d)];unfold lnS;rw[e,e,e,show y2.length=0 from rfl,show(!".").length=1 from rfl,show(sgn c).length=1 from rfl]
 lia
def z9(h:cV rows)(l:Let rows c):c<1000:=by
 let:=(nM.mp (nN h.sign c (i4.mpr l))).2
 lia
def Ht(b:fO p.2.1=gb)(d:cV p.2.2):∀z>lyr p,Sml z:=λz e=>by
 let%[y,f|rfl]:=Xq e;let%[c,a|rfl]:=Xq (bo.mp f);show oj b (z9 d (i4.mp a))
def KH(e:Sml a)(f:Sml b)(g:Sml c):∀z>[a,b,c],Sml z:=λz d=>by
 simp only[Yu,X4,J5]at d;rcases d with rfl|rfl|rfl
 .show e
 .show f
 .show g
def Hu(i:gf)(h:i<=100):Sml (y2++nI "#"++nI (toString (i:md))):=by
 let all:∀j:Fin 101,Sml (y2++nI "#"++nI (toString ((j.1)))):=by
  unfold Sml;decide +kernel
 show all %[i|!_]
def eD.three(h:eD ls k):k\5=3:=by
 let%[a,b,z,rfl|_]:=h;rfl
def eD.mono(h:eD ls k)(s:∀x>ls,x>ms):eD ms k:=by
 let%[a,b,z,e,c|d]:=h;show%[a,b,z,e,s a c|s b d]
def AT(h:Let p.2.2 a):lnS p.2.1 (sgn a)>lyr p:=
 Xr %[_,bo.mpr (Xr %[a,i4.mpr h|rfl])|rfl]
abbrev iA(n:jz)(k:ZB):ZB:=k.map (lnS n) ++[n]
abbrev v7(i:gf):jz:=y2++nI "#"++nI (toString (i:md))
abbrev bG(a:ZH):fx ZB:=a.flatMap λp=>(bB p.2.2 (p.2.2\5-1)).map (iA p.2.1)
abbrev kq(i:gf):ZM->ij ZB
 |[.str w,.str a,.str b]=>if w=nI "later" then fI [a,b,v7 i]else fD
 | _=>fD
abbrev dD(qs:ZN)(n:gf):fx ZB:=(kj n).filterMap λj=>qs[j]?.bind λq=>kq j q.2
def m9{a:fx _}{i:gf}{q:hW×jz×ZB}(b:a[i]?>=q):bG (a.take (i+1))=bG (a.take i) ++(bB q.2.2 (q.2.2\5-1)).map (iA q.2.1):=by
 unfold bG;rw[Xc,b,RW];change _++([q].flatMap _)=_;rw[QF]
def fW(a:qs[i]?>=q):dD qs (i+1)=dD qs i++(kq i q.2).toList:=by
 unfold dD;rw[Xa,Zz];show nY _ ?_;rw[Y0,a];rw[Sc];cases kq i q.2<;> rfl
inductive ng
 | mk (l cs):vs=[.ref l]->H l<*dz cs->cQ H cs->(∀p>cs,z0 p.2.2)->cs\5<=8->(∀r H' ts,ah H H'->H r=fD->H' r>=.lst (ts\0)->aP H' ts->(∀t>ts,CL (cs.flatMap lyr) t.2)->ts\5<=208->(∀k,k>ts\2↔k>bG cs)->Q (.ref r) H')->ng vs H Q E0
inductive nh
 | mk (l ls qs):vs=[.ref l]->H l>=.lst (qs\0)->cR H ls qs->(∀z>ls,Sml z)->qs\5<=63->(∀r H' ts,ah H H'->H r=fD->H' r>=.lst (ts\0)->aP H' ts->(∀t>ts,CL ls t.2)->ts\5<=qs\5->ts\2=dD qs qs.length->Q (.ref r) H')->nh vs H Q E0
def ni{z:jz}(h:fO z=gb):z\5<=8:=by
 unfold fO at h
 grind
def jA{a:fx gf}{z:jz}(h:z>aL (a.map sgn)):∃c>a,z=sgn c:=by
 let:=bo.mp h;let%[c,b|rfl]:=Xq this;show%[c,b|ρ]
def yf:↥4 69 m8:=by
 .exists 69,"cuts layers name text",ae,hr,%[l,e,rfl,hl,G,h8,ag|k];let m:(dz e)\5=e\5:=Z6 _;show%[_,%["JDH1UBDTV0fN~U2abNM3gEX~m~n1AiZ?1VG]eA3BW0?2pG~qAK1A0BBEI'~=A1B",D0.nd,↑(↑"letter name",[(1,2)]),↑["letter","name"]|hr]|?_]
  change aZ _ _ _ [!l,fD,fD,fD] H;show am λD1 k1 _=>?_
  lk;show%[Xg _|λL I=>k1 (am λD2 k2 _=>az λn J=>?_)];lk;show%[%[_|Qb.of (ah.Qa I _ _ hl)]|J (iO (λi d a=>E2 λM N=>A3 (d=[!l,!L,M,N]) (ah H a) (∃ms:ZB,A3 (a L<*ms\3) (ms.Perm ((e.take i).flatMap lyr)) (ms\5<=26*i)))
   %[fD,fD,ρ,ah.Qa I,[],aa,MV _|Xg _] (λi d a _ ⟨_,_,_,q,_⟩=>Qb.of (q _ _ hl)) ?_ ?_)]
  .intro i x d a y %[M,N,rfl,p,ms,B,u|O];let hi:i<e\5:=m▸(Xn y).1;obtain⟨q,hq,rfl⟩:∃q,e[i]?>=q/\x=V.ref q.1:=by
    unfold dz at y;rw[Zl,Z4 hi]at y;show%[e[i],Z4 hi|(Za y).symm]
   let b:=G q (Z8 hq);show%[_,SqT.of (p _ _ b.1),ρ,_,_,ρ,_,_,ρ,ρ|aB λD3 k3 _=>?_];change kY _ _ [!l,!L,fI (.str q.2.1),fI (.str (ui nl q.2.2))] a;lk;show%[tyL (Qb.of B)|aD λn J=>?_];lk;show%[q.2.2,ρ,b.2.2|λl2 H2 ss s2 f2 h2 U=>?_];lk;show%[%[_|Qb.of h2]|J λF hF=>?_];let ai:ss\5<=26:=U.length_eq▸qC λc hc=>nN b.2.2.sign c hc
   let one:∀z>ss,z\5=1:=λz hz=>by
    let%[c,_|rfl]:=jA (U.mem_iff.mp hz);rfl
   show dL (λj ts d a=>A4 (∃o,d=[o,fI (.str q.2.1)]) (ah H2 a) (a F<*ts) (ts=((ss.take j).map (lnS q.2.1))\3))
    %[%[fD|rfl],ah.Qa hF,aa|rfl] (λ_ _ _ a Y=>Y.2 _ _ h2) ?_ ?_
   .intro j ts d H4 hj %[%[o|rfl],C,ab|g];lk;show%[_,_,ρ,by let:=ni b.2.1;lia,by rw[one _ (Yb hj)];decide|CK.mk hj ab (by rw[g,Z6,Z6,Yj];show aF !_) %[%[_|ρ],ah.set C hF,aa|?_]];rw[g,Xc,Zd,Zd,Z4 hj];rfl
   intro ts d H3 %[_,C,ac|g];rw[Zn (Zi _)]at g;lk;show%[_,C _ _ (s2 _ _ B),_,ac,(by rw[g,Z6,Z6,Z6];show bK !_)|k3 %[_,_,ρ,ah.set (p.trans (s2.trans C)) I,ms++ss.map (lnS q.2.1),?_,?_|?_]]
   .rw[aa,g,Zd]
   .rw[Xc,hq,RW];show u.append ?_;change yu _ ([q].flatMap lyr);rw[QF];show U.map _
   .rw[Z9,Z6]
    lia
  .intro d a %[M,N,rfl,p,ms,B,u|O];show k2 ?_;lk;rw[m,Zn (Zi _)]at u;show%[ms,Qb.of B,by rw[u.length_eq];lia|λr ss v p' q'=>k r _ ss (p.trans (ah.Qa v)) (p.free v) aa (p'.trans u) q']
def rO:↥4 70 ng:=by
 .exists 70,"cuts ties name text upper lower",a3,hr,%[l,B,rfl,hl,a0,a1,h8|k];let ag:(dz B)\5=B\5:=Z6 _;show%[_,%["JDH1UBDTV0fNM2NM3gETVG]fA3BfNM4NM5gEXon1AkAG~qA2A4BAG~qA2A5BA2BBEI1",D0.nd|hr]|?_]
  change aZ _ _ _ [!l,fD,fD,fD,fD,fD] H;show am λD1 k1 _=>?_
  lk;show%[Xg _|λL hL=>k1 (am λD2 k2 _=>az λai hK=>?_)];lk;show%[%[_|Qb.of (ah.Qa hL _ _ hl)]|hK (iO (λi C I=>E4 λo2 o3 J M=>A3 (C=[!l,!L,o2,o3,J,M]) (ah H I) (∃ts:ZG,A5 (I L>=.lst (ts\0)) (aP I ts) (∀t>ts,CL (B.flatMap lyr) t.2) (ts\5<=26*i) (∀k,k>ts\2↔k>bG (B.take i))))
   %[fD,fD,fD,fD,ρ,ah.Qa hL,[],aa,ko _,λt ht=>(nomatch ht),Xg _|λk=>QV] (λi C I _ ⟨_,_,_,_,_,q,_⟩=>Qb.of (q _ _ hl)) ?_ ?_)]
  .intro i x C I N %[o2,o3,J,M,rfl,sm,ts,hm,Y,ab,aj|d];let hi:i<B\5:=by rw[<-ag];show(Xn N).1
   obtain⟨q,hq,rfl⟩:∃q,B[i]?>=q/\x=V.ref q.1:=by
    unfold dz at N;rw[Zl,Z4 hi]at N;show%[B[i],Z4 hi|(Za N).symm]
   let g:=a0 q (Z8 hq);show%[_,SqT.of (sm _ _ g.1),ρ,_,_,ρ,_,_,ρ,ρ|?_];show aB λD3 k3 _=>?_
   change yT _ _ _ _ [!l,!L,fI (.str q.2.1),fI (.str (ui nl q.2.2)),J,M] I;show az λai hK=>?_
   lk;let qm:=Z8 hq;show%[q.2.2,ρ,g.2.2,a1 q qm|?_];intro l2 H2 ss s2 f2 h2 t2 a4 al all2;let a2:=ni g.2.1;let an:l2≠L:=nq f2 hm rfl;let aq:(ss\0)\5=ss\5:=Z6 _;show%[%[_|Qb.of h2]|hK (iO (xs:=ss\0) (λj C y=>E2 λJ M=>A5 (C=[!l,!L,fI (.str q.2.1),fI (.str (ui nl q.2.2)),J,M]) (ah H y) (y l2>=.lst (ss\0)) (aP y ss) (∃c:ZG,A5 (y L>=.lst (c\0)) (aP y c) (∀t>c,CL (B.flatMap lyr) t.2) (c\5<=26*i+j) (c\2=ts\2 ++((ss.take j)\2).map (iA q.2.1))))
    %[_,_,ρ,sm.trans s2,h2,t2,ts,s2 _ _ hm,bg Y λb z e=>s2 _ _ e,ab,!_|(Zx _).symm] (λj C y _ ⟨_,_,_,_,q,_,_⟩=>Qb.of q) ?_ ?_)]
   .intro j x C y N %[J,M,rfl,ac,as,n,c,G,r,ae,u|m];let hj:j<ss\5:=aq▸(Xn N).1;rw[Zl,Z4 hj]at N;obtain rfl:x=V.ref ss[j].1:=(Za N).symm;let O:=Yb hj;let%[a,b,aR,la|lb]:=al _ O;let U:=(n _ O).2;rw[aR]at U;show%[_,SqT.of U,ρ,_,_,ρ,_,_,ρ,ρ|aB λD4 k4 _=>?_];lk;show%[tyL (Qb.of G),q.2.1,sgn a,ρ,!_,(show 1<=100 by decide)|?_];show%[q.2.1,sgn b,ρ,!_,(show 1<=100 by decide)|?_];show%[#[3]|λp hp=>?_];let sp:=ah.Qa (o:= .tup [V.str (lnS q.2.1 (sgn a)),V.str (lnS q.2.1 (sgn b)),V.str q.2.1]) hp;let gp:Qa y p (.tup [V.str (lnS q.2.1 (sgn a)),V.str (lnS q.2.1 (sgn b)),V.str q.2.1]) p=_:=aa
    generalize Qa y p _=H4 at sp gp
    let aU:=sp _ _ G;let v:∀b z,H4 b&&&z->Qa H4 L (.lst (c\0 ++[V.ref p])) b&&&z:=λb z e=>by
     let:b≠L:=nq e aU rfl;rw[ar this];show e
    show%[_,aU,by rw[Z6];show PU (show ~~~c<=10000 by lia) (!1)|k4 %[_,_,ρ,ah.set (ac.trans sp) hL,(ar an)▸sp _ _ as,bg (bg n λb z e=>sp _ _ e) v,c++[(p,[lnS q.2.1 (sgn a),lnS q.2.1 (sgn b),q.2.1])],?_,?_,?_,?_|?_]]
    .rw[aa,Zd];rfl
    .show bg (kJ (bg r λb z e=>sp _ _ e) ∅ gp) v
    .intro t ht;rcases Xo ht with z|z
     .show ae t z
     .rw[Xp z];show%[%[_,_,_,ρ,Nc.mpr %[q,qm|AT la]|Nc.mpr %[q,qm|AT lb]]|KH (oj g.2.1 (z9 g.2.2 la)) (oj g.2.1 (z9 g.2.2 lb)) (ye g.2.1)]
    .rw[Z9,Yi];lia
    .rw[Zd,m,Ze,Xc,Z4 hj,Zd,Zd];change _++(_++[_])=_++(_++[iA q.2.1 ss[j].2]);rw[aR];rfl
   .intro C y %[J,M,rfl,ac,as,n,c,G,r,ae,u|m];rw[aq]at u m;rw[Zn (Zi _)]at m;show k3 %[_,_,_,_,rfl,ac,c,G,r,ae,!_|λk=>?_];rw[m,m9 hq,Yq,Yq,d,Yv,Yv];show SV QV (exists_congr λz=>and_congr_left λ_=>all2 z)
  .intro C I %[o2,o3,J,M,rfl,sm,ts,hm,Y,ab,aj|d];show k2 ?_;lk;rw[ag]at aj d;rw[Zn (Zi _)]at d;show k L I ts sm hL hm Y ab ⋯ d
def np:↥1 71 nh:=by
 .exists 71,"sayings ties number saying",ai,hr,%[l,ls,qs,rfl,hl,ab,r,aj|k];let G:(qs\0)\5=qs\5:=Z6 _;show%[_,%["JDH1UBDT~LA0BfNM2NM3gEPLtO3CYEXon1AkAO3CAO3CA~;~MY~M~o2~<BBQEI1"|D0.nd]|?_]
  change aZ _ _ _ [!l,fD,fD,fD] H;show am λD1 k1 _=>?_
  lk;show%[Xg _|λL N=>k1 (am λD2 k2 _=>az λae hK=>?_)];lk;show%[_,Qb.of (ah.Qa N _ _ hl)|hK (l9 (λi O n=>E2 λo2 o3=>A3 (O=[!l,!L,o2,o3]) (ah H n) (∃ts:ZG,A5 (n L>=.lst (ts\0)) (aP n ts) (∀t>ts,CL ls t.2) (ts\5<=i) (ts\2=dD qs i)))
   %[fD,fD,ρ,ah.Qa N,[],aa,ko _,λt ht=>(nomatch ht),Xg _|ρ] (λi O n _ ⟨_,_,_,q,_⟩=>Qb.of (q _ _ hl)) ?_ ?_)]
  .intro i x TT O n hx %[o2,o3,rfl,sm,ts,hm,u,g,v|d] hT;let hi:i<qs\5:=by rw[<-G];show(Xn hx).1
   obtain⟨q,U,rfl⟩:∃q,qs[i]?>=q/\x=V.ref q.1:=by
    rw[Zl,Z4 hi]at hx;show%[qs[i],Z4 hi|(Za hx).symm]
   let s0:=ah.Qa (o:= .tup [.int i,.ref q.1]) hT;let j:ah H (Qa n TT (.tup [.int i,.ref q.1])):=sm.trans s0;let I:Qa n TT (.tup [.int i,.ref q.1]) TT&&&[.int i,.ref q.1]:=aa;let m:=s0 _ _ hm;let c:=bg u λb z e=>s0 _ _ e
   generalize Qa n TT _=HT at j I m c
   let J:=ab q (Z8 U);show%[_,SqT.of I,ρ,_,_,ρ,_,_,ρ,ρ|?_];change kO _ _ _ _ [!l,!L,fI (.int i),fI (.ref q.1)] HT;show aB λD4 k4 _=>?_
   lk;let st:=SqT.of (K:=K) (j _ _ J.1);let ag: ~~~(nI (toString (i:md)))<=21:=by
    let e:=PySem.int_text_length_le10 (a:=(i:md)) (k:=20) (!1) (by let:(i:md).natAbs=i:=rfl;lia);rw[PySem.ofString_length];lia
   let e1:(y2++nI "#").length=1:=!0
   let ea:∀a b:jz,(a++b)\5=a\5+b\5:=λa b=>Qu
   let add:∀a b:jz,a>ls->b>ls->kq i q.2>=[a,b,v7 i]->∀p,HT p=fD->∃x,Qa HT p (.tup [.str a,.str b,V.str (y2++nI "#"++nI (toString (i:md)))]) L<*x/\x\5<iv/\D4.nx [!l,!L,fI (.int i),fI (.ref q.1)] (Qa (Qa HT p (.tup [.str a,.str b,V.str (y2++nI "#"++nI (toString (i:md)))])) L (.lst (x++[V.ref p]))):=by
    intro a b Y mb ac p hp;let tn:=fW U;rw[ac,<-d]at tn;unfold v7 at tn
    generalize hz:y2++nI "#"++nI (toString (i:md))=z at tn ⊢
    let sp:=ah.Qa (o:= .tup [V.str a,V.str b,V.str z]) hp;let gp:Qa HT p (.tup [V.str a,V.str b,V.str z]) p=_:=aa
    generalize Qa HT p _=H4 at sp gp
    let M:=sp _ _ m;let B:∀b z,H4 b&&&z->Qa H4 L (.lst (ts\0 ++[V.ref p])) b&&&z:=λb z e=>by
     let:b≠L:=nq e M rfl;rw[ar this];show e
    show%[_,M,by rw[Z6];show aF !_|k4 %[_,_,ρ,ah.set (j.trans sp) N,ts++[(p,[a,b,z])],?_,?_,?_,?_|?_]]
    .rw[aa,Zd];rfl
    .show bg (kJ (bg c λb z e=>sp _ _ e) ∅ gp) B
    .intro t ht;rcases Xo ht with z|z
     .show g t z
     .rw[Xp z];show%[%[_,_,_,ρ,Y|mb]|KH (r a Y) (r b mb) (hz▸Hu i !_)]
    .rw[Z9,Yi];lia
    .rw[tn,Zd];rfl
   rcases J.2 with⟨wd,a,b,e,hw,Y,mb,_⟩|⟨wd,a,y,e,hw,_⟩
   .rw[e]at st;show%[_,st,_,ρ,ρ|br (λC=>?_) λC=>?_]
    .show%[tyL (Qb.of m),_,st,_,ρ,_,st,_,ρ,bK !_,?_,bK (by rw[ea];lia),bK (by rw[ea];lia),#[3]|add a b Y mb (e▸hY (V.str.inj (Zo C)))];let:(i:md).natAbs=i:=rfl
     lia
    .show k4 %[_,_,rfl,j,ts,m,c,g,!_|?_];rw[fW U,e,show kq i [V.str wd,V.str a,V.str b]=fD from hH λz=>C (Zf (by rw[z])),d];show(Zx _).symm
   .rw[e]at st;show%[_,st,_,ρ,ρ|?_];rw[hH (by rcases hw with rfl|rfl<;> decide)];show k4 %[_,_,rfl,j,ts,m,c,g,!_|?_];rw[fW U,e,d];show(Zx _).symm
  .intro O n %[o2,o3,rfl,sm,ts,hm,u,g,v|d];show k2 ?_;lk;rw[G]at v d;show k L n ts sm N hm u g v d
structure GrF (mg:ZC) (H:Hp) (g c2 c3 c4:hW) (qs:ZN) (ls:ZB) (ts:ZG):Prop where
 at_:∃dx c1,H g>=.ins (aS mg "Ground") dx [("kept_cuts",.ref c1),("kept_sayings",.ref c2),("kept_layers",.ref c3),("kept_ties",.ref c4)]
 a2:H c2>=.lst (qs\0)
 a3:H c3<*ls\3
 a4:H c4>=.lst (ts\0)
 sa:cR H ls qs
 tu:aP H ts
def GrF.up(h:GrF mg H g c2 a c qs ls ts)(s:ah H d):GrF mg d g c2 a c qs ls ts:=by
 let%[f,i|j]:=h.at_;show%[%[f,i|s _ _ j],s _ _ h.a2,s _ _ h.a3,s _ _ h.a4,h.sa.up s|bg h.tu λb z e=>s _ _ e]
inductive uF (mg:ZC)
 | mk (g c2 c3 c4 qs ls ts):vs=[.ref g]->GrF mg H g c2 c3 c4 qs ls ts->(∀l,H l=fD->Q (.ref l) (Qa H l (.lst (ls\3))))->uF mg vs H Q E0
inductive rP (mg:ZC)
 | mk (g c2 c3 c4 qs ls ts):vs=[.ref g]->GrF mg H g c2 c3 c4 qs ls ts->(∀l,H l=fD->Q (.ref l) (Qa H l (.lst (qs\0))))->rP mg vs H Q E0
inductive AU (mg:ZC)
 | mk (g c2 c3 c4 qs ls ts):vs=[.ref g]->GrF mg H g c2 c3 c4 qs ls ts->(∀l,H l=fD->Q (.ref l) (Qa H l (.lst (ts\0))))->AU mg vs H Q E0
inductive v8 (mg:ZC)
 | mk (g l m dx cs qs):vs=[.ref g,.ref l,.ref m]->H g>=.ins (aS mg "Ground") dx []->H l<*dz cs->H m>=.lst (qs\0)->cQ H cs->(cs.map λp=>p.2.1).Nodup->1<=cs\5->cs\5<=8->(∀p>cs,z0 p.2.2)->(cs.flatMap lyr)\5<=63->(∀ls,ls.Perm (cs.flatMap lyr)->cR H ls qs)->qs\5<=30->(∀H' ls ts c2 c3 c4,(∀b o,b≠g->H b>=o->H' b>=o)->GrF mg H' g c2 c3 c4 qs ls ts->(∀t>ts,CL ls t.2)->(∀z>ls,Sml z)->(∀k,k>ts\2↔k>bG cs\/k>dD qs qs.length)->ts\5<=250->ls.Perm (cs.flatMap lyr)->ls.Pairwise (λa b=>aV b a=gi)->Q .non H')->v8 mg vs H Q E0
def Fy(T:Txt K mg):G3 P w K mg base 6 "Ground" ↑"self cuts sayings" (v8 mg):=by
 .exists T.i_Ground,gU,a7,hr,%[g,l,m,d,n,qs,rfl,J,hl,hm,i,al,h1,h8,an,aq,B,bb|k];show%[_,%["JDXG]gA1BDH3G]hA1BDXG]iA2A3BD~Z0=~FA1BD~Z0=~FA2BD~Z03E~Z0']jAF~>G]kA1BG]lA2BB",gU.nd|hr]|?_]
  change aZ _ _ _ [!g,!l,!m,fD] H;show am λD1 k1 _=>?_
  lk;show%[l,n,ρ,hl,i,al,h1,!_|λH1 s1=>k1 (am λD2 k2 _=>?_)];lk;show%[l,n,ρ,s1 _ _ hl,i.up s1,h8,aq|λr H2 ls s2 f2 h2 L q2=>k2 (am λD3 k3 _=>?_)];let M:=s1.trans s2;lk;show%[m,r,ls,qs,ρ,M _ _ hm,h2,(B ls L).up M,!_|λH3 s3=>k3 (am λD4 k4 _=>?_)];let u:=M.trans s3;let OC:=T.o_Ground.cls;let ae:∀z>ls,Sml z:=λz hz=>by
   let%[p,v|hz]:=Nc.mp (L.mem_iff.mp hz);show Ht (i p v).2.1 (i p v).2.2 z hz
  let gl:l≠g:=nq hl J rfl;let gm:m≠g:=nq hm J rfl;let gr:r≠g:=nq f2 (s1 _ _ J) rfl;lk;show%[_,.inl (Qb.of (u _ _ hl))|λa N=>%[_,_,_,ah.Qa N _ _ (u _ _ J),OC,T.n_Ground_kept_cuts,(by change 0<1000;decide)|k4 (am λD5 k5 _=>?_)]];let as:a≠g:=nq N (u _ _ J) rfl;let aR:=ah.Qa (o:= .lst (dz n)) N;let b4:∀b o,b≠g->H3 b>=o->Qa (Qa H3 a (.lst (dz n))) g (.ins (aS mg "Ground") d (eL (!"kept_cuts") (V.ref a) [])) b>=o:=λb o c e=>by rw[ar c];show aR _ _ e
  let g4:Qa (Qa H3 a (.lst (dz n))) g (.ins (aS mg "Ground") d (eL (!"kept_cuts") (V.ref a) [])) g>=.ins (aS mg "Ground") d [("kept_cuts",V.ref a)]:=aa;let a4:Qa (Qa H3 a (.lst (dz n))) g (.ins (aS mg "Ground") d (eL (!"kept_cuts") (V.ref a) [])) a<*dz n:=by rw[ar as];show aa
  generalize Qa (Qa H3 a (.lst (dz n))) g _=H4 at b4 g4 a4
  let n4:∀b,H4 b=fD->b≠g:=λb c e=>by rw[e,g4]at c;cases c
  lk;show%[_,.inl (Qb.of (b4 _ _ gm (u _ _ hm)))|λc2 O=>%[_,_,_,ah.Qa O _ _ g4,OC,T.n_Ground_kept_sayings,(by change 1<1000;decide)|k5 (am λD6 k6 _=>?_)]];let U:=n4 c2 O;let aU:=ah.Qa (o:= .lst (qs\0)) O;let b5:∀b o,b≠g->H4 b>=o->Qa (Qa H4 c2 (.lst (qs\0))) g (.ins (aS mg "Ground") d (eL (!"kept_sayings") (V.ref c2) [("kept_cuts",V.ref a)])) b>=o:=λb o c e=>(ar c)▸aU _ _ e
  let g5:Qa (Qa H4 c2 (.lst (qs\0))) g (.ins (aS mg "Ground") d (eL (!"kept_sayings") (V.ref c2) [("kept_cuts",V.ref a)])) g>=.ins (aS mg "Ground") d [("kept_cuts",V.ref a),("kept_sayings",V.ref c2)]:=by rw[aa];rfl
  let a5:Qa (Qa H4 c2 (.lst (qs\0))) g (.ins (aS mg "Ground") d (eL (!"kept_sayings") (V.ref c2) [("kept_cuts",V.ref a)])) c2>=.lst (qs\0):=(ar U)▸aa
  generalize Qa (Qa H4 c2 (.lst (qs\0))) g _=H5 at b5 g5 a5
  lk;show%[_,_,_,g5,OC,T.n_Ground_kept_layers,(by change 2<1000;decide)|k6 (aB λD7 k7 _=>?_)];let b6:∀b o,b≠g->H5 b>=o->Qa H5 g (.ins (aS mg "Ground") d (eL (!"kept_layers") (V.ref r) [("kept_cuts",V.ref a),("kept_sayings",V.ref c2)])) b>=o:=λb o c e=>(ar c)▸e
  let g6:Qa H5 g (.ins (aS mg "Ground") d (eL (!"kept_layers") (V.ref r) [("kept_cuts",V.ref a),("kept_sayings",V.ref c2)])) g>=.ins (aS mg "Ground") d [("kept_cuts",V.ref a),("kept_sayings",V.ref c2),("kept_layers",V.ref r)]:=by rw[aa];rfl
  generalize Qa H5 g _=H6 at b6 g6
  let ag:∀b o,b≠g->H3 b>=o->H6 b>=o:=λb o c e=>b6 b o c (b5 b o c (b4 b o c e))
  let y:∀b o,b≠g->H b>=o->H6 b>=o:=λb o c e=>ag b o c (u _ _ e)
  let ai:cQ H6 n:=λp v=>%[y _ _ (nq ((i p v).1) J rfl) (i p v).1|(i p v).2]
  let j:cR H6 ls qs:=λq Y=>%[y _ _ (nq ((B ls L q Y).1) J rfl) (B ls L q Y).1|(B ls L q Y).2]
  lk;show%[l,n,ρ,y _ _ gl hl,ai,an,h8|λt1 H7 ts s7 f7 h7 a0 ab bc a1=>?_];lk;show%[m,ls,qs,ρ,s7 _ _ (y _ _ gm hm),j.up s7,ae,!_|λt2 H8 us s8 f8 a2 a3 aj bd a6=>?_];lk;let I:aP H8 (ts++us):=x6 (bg a0 λb z e=>s8 _ _ e) a3;let g8:=s8 _ _ (s7 _ _ g6);show%[_,s8 _ _ h7,_,a2,by rw[Z6,Z6,PySem.sizeLine_eq];lia|λp v=>%[ts++us,Zd▸Qb.of aa,bg I λb z e=>ah.Qa v _ _ e,3,?_,!1,by rw[Z9];lia|λc4 ss ac C=>%[_,_,_,ah.Qa ac _ _ (ah.Qa v _ _ g8),OC,T.n_Ground_kept_ties,(by change 3<1000;decide)|k7 ?_]]]
  .intro t ht;rcases Xo ht with z|z
   .show(ab t z).1.three
   .show(aj t z).1.three
  .let b9:∀b o,b≠g->H8 b>=o->Qa (Qa (Qa H8 p (.lst (ts\0 ++us\0))) c4 (.lst (ss\0))) g (.ins (aS mg "Ground") d (eL (!"kept_ties") (V.ref c4) [("kept_cuts",V.ref a),("kept_sayings",V.ref c2),("kept_layers",V.ref r)])) b>=o:=λb o c e=>(ar c)▸((ah.Qa (o:= .lst (ts\0 ++us\0)) v).trans (ah.Qa (o:= .lst (ss\0)) ac)) _ _ e
   let G:∀b o,b≠g->H6 b>=o->_:=λb o c e=>b9 b o c (s8 _ _ (s7 _ _ e))
   show k _ ls ss c2 r c4 (λb o c e=>G b o c (y b o c e)) %[%[d,a|?_],?_,?_,?_,?_|?_] (λt ht=>?_) ae (λk=>by rw[(C.map _).mem_iff,Zd,Yq,a1,a6]) (by rw[C.length_eq,Z9];lia) L q2
   .rw[aa];rfl
   .show G _ _ U (b6 _ _ U a5)
   .show G _ _ gr (ag _ _ gr (s3 _ _ h2))
   .rw[ar (nq ac (ah.Qa v _ _ g8) rfl)];show aa
   .show λq Y=>%[G _ _ (nq ((j q Y).1) g6 rfl) (j q Y).1|(j q Y).2]
   .intro t ht;let:=I t (C.mem_iff.mp ht);show%[this.1|b9 _ _ (λe=>by let q:=this.2;rw[e,g8]at q;cases q) this.2]
   .rcases Xo (C.mem_iff.mp ht)with z|z
    .show%[(ab t z).1.mono λx=>L.mem_iff.mpr|(ab t z).2]
    .show aj t z
def fG(T:Txt K mg):Cj P w K mg base 1 "Ground" "layers" ["self"] (uF mg):=by
 .exists T.m_Ground_layers,n6,b,j,%[g,c2,c,d,qs,ls,ts,rfl,a|k];let%[m,n|e]:=a.at_;show%[_,%["JEI=~FA~r0B"|0]|?_];change jU _ _ [fI _] H;lk;show%[_,_,_,e,T.o_Ground.cls,T.n_Ground_kept_layers,_,ρ,_,.inl (Qb.of a.a3)|λl i=>k l i]
def jc(T:Txt K mg):Cj P w K mg base 1 "Ground" "sayings" ["self"] (rP mg):=by
 .exists T.m_Ground_sayings,mV,b,j,%[g,c2,c,d,qs,ls,ts,rfl,a|k];let%[m,n|e]:=a.at_;show%[_,%["JEI=~FA~r0B"|0]|?_];change jU _ _ [fI _] H;lk;show%[_,_,_,e,T.o_Ground.cls,T.n_Ground_kept_sayings,_,ρ,_,.inl (Qb.of a.a2)|λl i=>k l i]
def sW(T:Txt K mg):Cj P w K mg base 1 "Ground" "ties" ["self"] (AU mg):=by
 .exists T.m_Ground_ties,rC,b,j,%[g,c2,c,d,qs,ls,ts,rfl,a|k];let%[m,n|e]:=a.at_;show%[_,%["JEI=~FA~r0B"|0]|?_];change jU _ _ [fI _] H;lk;show%[_,_,_,e,T.o_Ground.cls,T.n_Ground_kept_ties,_,ρ,_,.inl (Qb.of a.a4)|λl i=>k l i]
abbrev eS(H:Hp)(ys:fx (hW×jz×md)):Prop:=∀p>ys,H p.1&&&[.str p.2.1,.int p.2.2]/\0<=p.2.2/\p.2.2<=7
def eS.up(h:eS H ys)(s:ah H b):eS b ys:=λp a=>%[s _ _ (h p a).1|(h p a).2]
inductive uG
 | mk (one two:md) (l:hW) (torn:on) (ys:fx (hW×jz×md)):vs=[.int one,.int two,.ref l,.bl torn]->H l>=.lst (ys\0)->eS H ys->1<=ys\5->ys\5<=100->0<=one->0<=two->(∀(t:hW) H' (xs:ZM),ah H H'->H t=fD->H' t&&&xs->mZ (ys.map λp=>p.2.1) xs->Q (.ref t) H')->uG vs H Q E0
def v9:↥1 93 uG:=by
 .exists 93,"~one ~two ~layers ~torn_here ~layer ~at ~other ~there ~odd ~kind ~year",ag,hr,%[one,d,l,g,ys,rfl,Y,O,y1,ae,o0,t0|k];let get:∀n:md,0<=n->∃q,atI (ys\0) (n%(ys\5:md))>=V.ref q.1/\q>ys:=λn hn=>by
   let h0:=Pr n (show(ys\5:md)≠0 by lia);let h1:=R6 n (show(0:md)<(ys\5:md) by lia)
   generalize n%(ys\5:md)=i at h0 h1
   let%[j|rfl]:=Xj h0;let hj:j<ys\5:=by lia
   show%[ys[j],bP (by simp[hj])|Yb hj]
  let%[p,gp|mp]:=get one o0;let%[q,gq|mq]:=get d t0;let U:(ys\0)\5=ys\5:=Z6 _;let G:(0:md)<(ys\5:md):=by lia
  let pa:=O p mp;let qa:=O q mq;show%[_,%["JD~OR2FS0cdA2BfNM4NM5gD~OR2FS1cdA2BfNM6NM7gDH8$3&svFSFl1CCCDH9FSFl0CCDPjzL~C9CzL,46*j%L,57(m8DPjzL:57*wm8EIkAYA6A4BQEIkAYA4A6BQDPjzLv9CzL,46*j%Lt57(m8EIkAYA4A6BQDH:FeF|CFrC5RUACA<CA<CACACA<CACACBFS1CDPLvFSFl1CCCEH:RUA<CACBFSFl1CCQEIkARUAYAYBFS0CA4A~A:B"|D0.nd]|?_]
  change aZ _ _ _ [fI (.int one),fI (.int d),!l,fI (.bl g),fD,fD,fD,fD,fD,fD,fD] H;show am λD1 k1 _=>?_
  lk;show%[ys\5,.inl %[_,Qb.of Y|U.symm],G,_,Qb.of Y,_,gp,_,SqT.of pa.1,ρ,_,_,ρ,_,_,ρ,ρ|k1 (am λD2 k2 _=>?_)];lk;show%[ys\5,.inl %[_,Qb.of Y|U.symm],G,_,Qb.of Y,_,gq,_,SqT.of qa.1,ρ,_,_,ρ,_,_,ρ,ρ|k2 (am λD3 k3 _=>?_)];let I:∀v:on,D3.nx [fI (.int one),fI (.int d),!l,fI (.bl g),fI (.str p.2.1),fI (.int p.2.2),fI (.str q.2.1),fI (.int q.2.2),fI (.bl v),fD,fD] H:=by
   intro v;show k3 (am λD4 k4 _=>?_);lk;show%[%[!1|!1],!1|k4 (am λD5 k5 r5=>?_)];let b1:0<=one/64%8:=by lia
   let b2:one/64%8<8:=by lia
   generalize one/64%8=kind at b1 b2
   let%[ai,pn|pi]:=p;let%[aj,u|qi]:=q;dsimp only at pa qa gp gq;let mem:∀{r:hW×jz×md},r>ys->r.2.1>ys.map λp=>p.2.1:=λ{r} hr=>Xr %[r,hr|rfl]
   let fin:∀(z:Hp) (a b:jz),ah H z->a>(ys.map λp=>p.2.1)->b>(ys.map λp=>p.2.1)->a≠b->∀w:jz,w="later"\/w="same"->∀t,z t=fD->Q (.ref t) (Qa z t (.tup [.str w,.str a,.str b])):=λz a b sh ha hb ab w hw t y=>
    k t _ _ (sh.trans (ah.Qa y)) (sh.free y) aa (.inl %[w,a,b,rfl,hw,ha,hb|ab])
   let m1:pn>ys.map λp=>p.2.1:=mem mp
   let m2:u>ys.map λp=>p.2.1:=mem mq
   let B:3<=iv:=!1
   let rest:D5.nx [fI (.int one),fI (.int d),!l,fI (.bl g),-pn,fI (.int pi),-u,fI (.int qi),fI (.bl v),fI (.int kind),fD] H:=by
    show k5 (am λD6 k6 r6=>?_);let J:∀z,ah H z->D6.nx [fI (.int one),fI (.int d),!l,fI (.bl g),-pn,fI (.int pi),-u,fI (.int qi),fI (.bl v),fI (.int kind),fD] z:=by
     intro z sh;show k6 (am λD7 k7 _=>?_);lk;show%[.inl %[!1|!1],#[8]|λp hp=>%[!1,_,Qb.of aa|?_]];let%[c,hc|M]:=km [0,-20,-60,10,60,-200,110,0] (i:=d%8) ⋯ (by change d%8<8;lia);let N: -200<=c/\c<=110:=by
      simp only[Yu,X4,J5]at M
      lia
     show%[_,hc|k7 (am λD8 k8 _=>?_)];let s7:=sh.trans (ah.Qa (o:= .lst [V.int 0,V.int (-20),V.int (-60),V.int 10,V.int 60,V.int (-200),V.int 110,V.int 0]) hp)
     generalize _LL.Qa z p _=H7 at s7
     let done:∀(yr:md) H8,ah H H8-> -9999<=yr->yr<=9999->D8.nx [fI (.int one),fI (.int d),!l,fI (.bl g),-pn,fI (.int pi),-u,fI (.int qi),fI (.bl v),fI (.int kind),fI (.int yr)] H8:=by
      intro yr H8 s8 y0 y9;show k8 ?_;lk;obtain⟨wd,ac,hw⟩:∃wd:jz,atI [V.str (!"since"),V.str (!"by")] (one%2)>=V.str wd/\(wd="since"\/wd="by"):=by
       rcases(show one%2=0\/one%2=1 by lia)with e|e<;> rw[e]
       .show%[_,ρ|.inl rfl]
       .show%[_,ρ|.inr rfl]
      show%[#[2]|λp1 C=>%[!1,_,Qb.of aa,_,ac,B|λt y=>?_]];show k t _ _ (s8.trans ((ah.Qa C).trans (ah.Qa y))) (s8.free ((ah.Qa C).free y)) aa (.inr %[wd,pn,_,rfl,hw,m1,y0|y9])
     lk;show%[%[!1|!1],!1|br (λ_=>%[#[2]|λp1 C=>%[%[!1|!1],!1,_,Qb.of aa|?_]]) λ_=>done _ _ s7 ⋯ !_];let%[c,hc|M]:=km [-9999,9999] (i:=d/240%2) ⋯ (by change d/240%2<2;lia);let N: -9999<=c/\c<=9999:=by
      simp only[Yu,X4,J5]at M
      lia
     show%[_,hc|done _ _ (s7.trans (ah.Qa C)) N.1 N.2]
    lk;let sp:=ah.refl H;let R:=J H sp;show br (λ_=>br (λm=>?_) λ_=>R) λ_=>R
    let m:pn≠u:=↑m
    let L:3<=iv/\∀p,H p=fD->D6.rt (.ref p) (Qa H p (.tup [V.str (!"same"),V.str pn,V.str u])):=%[B|λt y=>r6 _ _ (fin H pn u sp m1 m2 m _ (.inr rfl) t y)]
    show br (λ_=>L) λ_=>br (λ_=>L) λ_=>R
   lk;show br (λ_=>br (λm=>?_) λ_=>rest) λ_=>rest
   let m:pn≠u:=↑m
   let L1:3<=iv/\∀p,H p=fD->D5.rt (.ref p) (Qa H p (.tup [V.str (!"later"),V.str u,V.str pn])):=%[B|λt y=>r5 _ _ (fin H u pn (ah.refl H) m2 m1 (wh m) _ (.inl rfl) t y)]
   let L2:3<=iv/\∀p,H p=fD->D5.rt (.ref p) (Qa H p (.tup [V.str (!"later"),V.str pn,V.str u])):=%[B|λt y=>r5 _ _ (fin H pn u (ah.refl H) m1 m2 m _ (.inl rfl) t y)]
   show br (λ_=>br (λ_=>br (λ_=>L1) λ_=>L2) λ_=>L2) λ_=>br (λ_=>br (λ_=>br (λ_=>L1) λ_=>L2) λ_=>L2) λ_=>rest
  lk;show br (λ_=>%[%[!1|!1],!1|I _]) λ_=>I _
structure Drn where
 name:jz
 cols:fx ZL
 hi:gf
 sh:md
 wd:on
abbrev Drn.rows(d:Drn):ZB:=drawn d.cols d.hi d.sh
abbrev pE(d:Drn):Prop:=fO d.name=gb/\1<=d.hi/\d.hi<=7/\1<=d.cols\5/\d.cols\5<=5/\∀c>d.cols,c\5=d.hi/\iq d.wd c
def pE.cut(h:pE d):cV d.rows:=xR h.2.1 (by let:=h.2.2.1;lia) h.2.2.2.1 (by let:=h.2.2.2.2.1;lia) h.2.2.2.2.2
abbrev iI(d:Drn):fx (jz×md):=(there d.cols).map λa=>(eJ d.name (sg a d.sh),a)
abbrev dcs(ds:fx (hW×Drn)):ZH:=ds.map λp=>(p.1,p.2.name,p.2.rows)
inductive uH (K:ZA)
 | mk (a:hW) (xs:ZL):vs=[.ref a]->Qb K H a (xs\4)->(∀H',ah H H'->Qb K H' a (xs\4))->xs\5=86->(∀x>xs,0<=x/\x<9973)->(∀(t l1 l2 l3:hW) H' (ds:fx (hW×Drn)) (qs:ZN),ah H H'->H t=fD->H l1=fD->H l2=fD->H l3=fD->l1≠l2->l1≠l3->l2≠l3->H' t&&&[.ref l1,.ref l2,.ref l3]->H' l1<*dz (dcs ds)->H' l2>=.lst (qs\0)->H' l3>=.lst ((ds.flatMap λp=>(iI p.2)\1)\3)->1<=ds\5->ds\5<=8->(∀p>ds,pE p.2)->(ds.map λp=>p.2.name).Nodup->cQ H' (dcs ds)->cR H' (ds.flatMap λp=>(iI p.2)\1) qs->qs\5<=30->1<= ~~~(ds.flatMap λp=>(iI p.2)\1)/\ ~~~(ds.flatMap λp=>(iI p.2)\1)<=32->Q (.ref t) H')->uH K vs H Q E0
def e7(h:H M<*xs):∀b z,H b&&&z->Qa H M (.lst ys) b&&&z:=λb z e=>by
 rw[ar (λa=>by grind)];show e
def eS.keep(h:eS H ys)(t:∀b z,H b&&&z->c b&&&z):eS c ys:=λp a=>%[t _ _ (h p a).1|(h p a).2]
def cQ.keep(h:cQ H c)(t:∀b z,H b&&&z->d b&&&z):cQ d c:=λp a=>%[t _ _ (h p a).1|(h p a).2]
def cR.keep(h:cR H ls qs)(t:∀b z,H b&&&z->c b&&&z):cR c ls qs:=λp a=>%[t _ _ (h p a).1|(h p a).2]
def cQ.snoc(h:cQ H a)(b:H q.1&&&[.str q.2.1,.str (ui nl q.2.2)]/\fO q.2.1=gb/\cV q.2.2):cQ H (a++[q]):=λp c=>by
 rcases Xo c with z|z
 .show h p z
 .rw[Xp z];show b
def eS.snoc(h:eS H ys)(a:H q.1&&&[.str q.2.1,.int q.2.2]/\0<=q.2.2/\q.2.2<=7):eS H (ys++[q]):=λp b=>by
 rcases Xo b with z|z
 .show h p z
 .rw[Xp z];show a
def CM(n:jz)(c:gf):n++nI "."++sgn c=eJ n c:=by
 show im ?_;change(n.cps++ ([46].toArray) ++ ([c].toArray)).toList=(n.cps.toList++[46,c]).toArray.toList;simp
def wa:↥3 94 (uH K):=by
 .exists 94,"~row_here ~names_here ~torn_here ~cuts ~layers ~small ~k ~shift ~wild ~text ~there ~at ~many ~sayings",ey,hr,%[a,xs,rfl,hs,keep,cs,hb|kk];let get:∀i:md,0<=i->i<86->∃c,atI (xs\4) i>=V.int c/\0<=c/\c<9973:=λi h0 h1=>by
   let%[c,e|hm]:=km xs h0 (by lia -verbose);show%[c,e|hb c hm]
  let%[c0,g0,l0|u0]:=get 0 (!1) (!1);show%[_,%["JDH1G]mARK0CBDu2absvFSRK0CCCDH3UBDu4abUBDH5svFSFlRK0CCCCDTyARUAFeCFSFlRK0CCCAFeCFSRK0CCB~e~fA5BBM6DH7FeFSFlRK0CCCFrC6DH8$K2&sv6FSFlRK0CCCDPm5E~OG]nARK0FeC6A7AK2BfNM9NM:gE~OG]oA~TK0}FeCFrC6}FeCFrC6A7A8BfNM9NM:gDXon3AkAR16A9BBETV~A:M;EXonK4AkAF+F+R16YG~XA~A;A7BA~A;BBDH<FSFlRK0CCCD~D=baZ?1yA~A<BW0?2pG]pARK3FeCFrC0ARK3FeCFrC0AK1AK2BEIkA3A~A=AiZ?3VK4fNW0?4NW1?4gp0B",D0.nd,↑(↑"~k ~layers ~torn_here ~row_here",[(1,4),(2,2),(3,0)]),↑["_law_k","_law_layers","_law_torn_here","_law_row_here"],↑(↑"~layer ~at",[]),↑["_law_layer","_law_at"]|hr]|?_]
  let%[c1,g1,l1|u1]:=get 1 (!1) (!1);change aZ _ _ _ [!a,fD,fD,fD,fD,fD,fD,fD,fD,fD,fD,fD,fD,fD] H;show am λD1 k1 _=>?_
  lk;show%[_,hs,_,g1,_,ρ,l1,u1|λLN Hn ms sn fn b1 al=>k1 (am λD2 k2 _=>?_)];let keep:∀r,ah Hn r->Qb K r a (xs\4):=λr L=>keep _ (sn.trans L)
  lk;show%[_,keep _ (ah.refl Hn),_,g0,!1|k2 (am λez dK _=>?_)]
  generalize decide (c0%3=1)=m
  lk;show%[Xg _|λv a6=>dK (am λew ct _=>?_)];let s1:=ah.Qa (o:= .lst []) a6;lk;show%[Xg _|λU b2=>ct (am λeE dT _=>?_)];let s2:=s1.trans (ah.Qa (o:= .lst []) b2);lk;show%[_,keep _ s2,_,g0,%[!1|!1],!1|dT ?_]
  generalize decide (c0/1248%8=5)=L
  show am λD3 k3 _=>az λan hK=>?_
  let eH:LN≠v:=nq b1 a6 rfl;let b3:v≠U:=nq aa b2 rfl;lk;let%[c2,g2,l2|u2]:=get 2 (!1) (!1);show%[_,keep _ s2,_,g0,%[!1|!1],!1,_,keep _ s2,_,g2,!1,#[2]|λlp b4=>%[_,Qb.of aa|?_]];obtain⟨nc,en,n1,n4⟩:∃nc:gf,atI [V.int (1+c0/3%4),V.int (5+c2%4)] (if L=gb then 1 else 0)>=V.int nc/\1<=nc/\nc<=if L=gb then 8 else 4:=by
   cases L
   .show%[(1+c0/3%4).toNat,by change fI (V.int (1+c0/3%4))=_;rw[RC (by lia -verbose)],(by lia -verbose)|by simp;lia -verbose]
   .show%[(5+c2%4).toNat,by change fI (V.int (5+c2%4))=_;rw[RC (by lia -verbose)],(by lia -verbose)|by simp;lia -verbose]
  let n8:nc<=8:=lx n4 (by split<;> decide);show%[_,en|?_];let dV:=s2.trans (ah.Qa (o:= .lst [V.int (1+c0/3%4),V.int (5+c2%4)]) b4);let d0:Qa (Qa (Qa Hn v (.lst [])) U (.lst [])) lp (.lst [V.int (1+c0/3%4),V.int (5+c2%4)]) v<*[]:=ah.Qa b4 _ _ (by rw[ar b3];show aa);let d1:Qa (Qa (Qa Hn v (.lst [])) U (.lst [])) lp (.lst [V.int (1+c0/3%4),V.int (5+c2%4)]) U<*[]:=ah.Qa b4 _ _ aa;show%[(by lia -verbose),(by lia -verbose)|hK (cm (λi σ r=>E6 λo3 o4 o5 o6 o7 o8=>A3 (σ=[!a,!LN,fI (.bl m),!v,!U,fI (.bl L),o3,o4,o5,o6,o7,o8,fD,fD]) (ah Hn r) (E2 λ(ds:fx (hW×Drn)) (ys:fx (hW×jz×md))=>A8 (ds\5=i) (r v<*dz (dcs ds)) (r U>=.lst (ys\0)) (eS r ys) ((ys\2)=(ds.flatMap λp=>iI p.2)) (cQ r (dcs ds)) (∀p>ds,pE p.2/\(iI p.2)\5<=if L=gb then 2 else 8) (ds.map (λp=>p.2.name)=ms.take i)))
   %[_,_,_,_,_,_,ρ,dV,[],[],ρ,d0,d1,λp hp=>(nomatch hp),ρ,λp hp=>(nomatch hp),λp hp=>(nomatch hp)|ρ] ?_ ?_)]
  .intro i σ H3 hi %[o3,o4,o5,o6,o7,o8,rfl,s3,ds,ys,b5,G,I,a7,ab,b6,aq|b7];let hi3:i<8:=by lia -verbose
   change aZ _ _ _ [!a,!LN,fI (.bl m),!v,!U,fI (.bl L),fI (.int (0+i)),o4,o5,o6,o7,o8,fD,fD] H3;rw[MC];show am λD4 k4 _=>?_
   let cv:i<ms\5:=by rw[al.1];show hi3
   obtain⟨C,cx,b9⟩:∃C,ms[i]?>=C/\fO C=gb:=%[_,Z4 cv|al.2.2 _ (Yb cv)]
   let bl:atI (ms\3) (i:md)>=V.str C:=bP (by rw[Zl,cx];rfl);lk;show%[_,keep _ s3,_,g0,%[!1|!1],!1,.inl %[!1|!1]|k4 (am λD5 k5 _=>?_)];let bb:0<=c0/12%26+3*(i:md):=by lia -verbose
   generalize c0/12%26+3*(i:md)=u at bb
   let Y:=s3;let as:∀ac:on,D5.nx [!a,!LN,fI (.bl m),!v,!U,fI (.bl L),fI (.int i),fI (.int u),fI (.bl ac),o6,o7,o8,fD,fD] H3:=by
    intro ac;show k5 (am λD6 k6 _=>?_);let rest:∀(wx:on) (th:hW) (H5:Hp) (g:fx ZL) (l:gf),ah H3 H5->H3 th=fD->H5 th<*(there g)\4->1<=l->l<=7->1<=g\5->g\5<=5->(∀c>g,c\5=l/\iq wx c)->(there g)\5<=(if L=gb then 2 else 8)->D6.nx [!a,!LN,fI (.bl m),!v,!U,fI (.bl L),fI (.int i),fI (.int u),fI (.bl ac),fI (.str (nl.join (drawn g l u))),!th,o8,fD,fD] H5:=by
     intro wx th H5 g l bc bm aR aU a0 a1 a2 y ca;show k6 (am λD7 k7 _=>?_);let bn:pE %[C,g,l,u|wx]:=%[b9,aU,a0,a1,a2|y]
     let d2:th≠v:=nq bm G rfl;let d3:th≠U:=nq bm I rfl;lk;show%[tyL (Qb.of (bc _ _ G)),_,Qb.of (bc _ _ (s3 _ _ b1)),_,bl,#[2]|λO d4=>?_];let s6:=ah.Qa (o:= .tup [V.str C,V.str (nl.join (drawn g l u))]) d4;let g6:Qa H5 O (.tup [V.str C,V.str (nl.join (drawn g l u))]) O=_:=aa;let aj:=s6 _ _ (bc _ _ G)
     generalize Qa H5 O _=H6 at s6 g6 aj
     let bd:=bc.trans s6;show%[_,aj,by rw[show(dz (dcs ds)).length=ds\5 by unfold dz dcs;rw[Z6,Z6],b5];show aF (by lia -verbose)|k7 (aB λD8 k8 _=>az λan hK=>?_)];let tk:=e7 (ys:=dz (dcs ds) ++[V.ref O]) aj;let cy:ah Hn (Qa H6 v (.lst (dz (dcs ds) ++[V.ref O]))):=ah.set (s3.trans bd) a6;let cM:Qa H6 v (.lst (dz (dcs ds) ++[V.ref O])) v<*dz (dcs (ds++[(O,%[C,g,l,u|wx])])):=by
      rw[aa];unfold dz dcs;rw[Zd,Zd];rfl
     let c4:Qa H6 v (.lst (dz (dcs ds) ++[V.ref O])) U>=.lst (ys\0):=by rw[ar (wh b3)];show bd _ _ I
     let cd:Qa H6 v (.lst (dz (dcs ds) ++[V.ref O])) th<*(there g)\4:=by rw[ar d2];show s6 _ _ aR
     let c5:cQ (Qa H6 v (.lst (dz (dcs ds) ++[V.ref O]))) (dcs (ds++[(O,%[C,g,l,u|wx])])):=by
      rw[show dcs (ds++[(O,%[C,g,l,u|wx])])=dcs ds++[(O,C,drawn g l u)] by unfold dcs;rw[Zd];rfl];show((b6.up bd).snoc %[g6,b9|bn.cut]).keep tk
     let c7:eS (Qa H6 v (.lst (dz (dcs ds) ++[V.ref O]))) ys:=(a7.up bd).keep tk
     generalize Qa H6 v _=H7 at cy cM c4 cd c5 c7
     let ae:ys\5<=8*i:=by
      let e:=nY L3 ab;rw[Z6,UW]at e;let:=vt (f:=λp:hW×Drn=>(iI p.2)\5) (B:=8) (xs:=ds) λp _=>by
       unfold iI;rw[Z6];show nU _
      lia -verbose
     lk;show%[%[_|Qb.of cd]|hK (iO (xs:=(there g)\4) (λj σ r=>∃o8,σ=[!a,!LN,fI (.bl m),!v,!U,fI (.bl L),fI (.int i),fI (.int u),fI (.bl ac),fI (.str (nl.join (drawn g l u))),!th,o8,fD,fD]/\ah Hn r/\r v<*dz (dcs (ds++[(O,%[C,g,l,u|wx])]))/\r th<*(there g)\4/\cQ r (dcs (ds++[(O,%[C,g,l,u|wx])]))/\
      ∃zs:fx (hW×jz×md),r U>=.lst ((ys++zs)\0)/\eS r (ys++zs)/\zs\2=((there g).take j).map λa=>(eJ C (sg a u),a))
      %[_,ρ,cy,cM,cd,c5,[],by rw[Zx];show c4,by rw[Zx];show c7|ρ] (λj σ r _ ⟨_,_,_,_,q,_⟩=>Qb.of q) ?_ ?_)]
     .intro j x σ H8 hx %[o8,rfl,s8,a3,bp,ce,zs,ag,ch|a4];let hj:j<(there g)\5:=by let:=(Xn hx).1;rwa[Z6]at this
      rw[Zl,Z4 hj]at hx;obtain rfl:x=V.int (there g)[j]:=(Za hx).symm;let da:=gj.mp (Yb hj);change kY _ _ [!a,!LN,fI (.bl m),!v,!U,fI (.bl L),fI (.int i),fI (.int u),fI (.bl ac),fI (.str (nl.join (drawn g l u))),!th,fI (.int (there g)[j]),fD,fD] H8;show aB λD9 k9 _=>?_
      lk;let ex:=ni b9;let ea:∀a b:jz,(a++b)\5=a\5+b\5:=λa b=>Qu
      let e1:(!".").length=1:=rfl;let zl:zs\5<=j:=by
       let:=nY L3 a4;rw[Z6,Z6,Yj]at this
       lia -verbose
      let tl:=nU g;show%[tyL (Qb.of ag),_,Qb.of (s8 _ _ b1),_,bl,bK (by lia -verbose),_,_,ρ,bb,bK (by rw[ea,show(sgn (sg (there g)[j] u)).length=1 from rfl];lia -verbose),#[2]|λp hp=>?_];rw[CM];let s9:=ah.Qa (o:= .tup [V.str (eJ C (sg (there g)[j] u)),V.int (there g)[j]]) hp;let g9:Qa H8 p (.tup [V.str (eJ C (sg (there g)[j] u)),V.int (there g)[j]]) p=_:=aa
      generalize Qa H8 p _=H9 at s9 g9
      let dd:=s9 _ _ ag;let de:=e7 (ys:=(ys++zs)\0 ++[V.ref p]) dd;show%[_,dd,by rw[Z6,Z9];show aF (by lia -verbose)|k9 %[_,ρ,ah.set (s8.trans s9) (s1.free b2),by rw[ar b3];show s9 _ _ a3,by rw[ar d3];show s9 _ _ bp,(ce.up s9).keep de,zs++[(p,eJ C (sg (there g)[j] u),(there g)[j])],?_,?_|?_]]
      .rw[aa,<-Ze,Zd (l₂:=[(p,eJ C (sg (there g)[j] u),(there g)[j])])];rfl
      .rw[<-Ze];show((ch.up s9).snoc %[g9,da.1|da.2.1]).keep de
      .rw[Zd,a4,Xc,Z4 hj,Zd];rfl
     .intro σ H8 %[o8,rfl,s8,a3,bp,ce,zs,ag,ch|a4];rw[Z6,Zn (Zi _)]at a4;show k8 %[_,_,_,_,_,_,rfl,s8,ds++[(O,%[C,g,l,u|wx])],ys++zs,by rw[Z9,b5];rfl,a3,ag,ch,?_,ce,λp hp=>?_|?_]
      .rw[Zd,ab,a4,RW]
       congr 1
       rw[QF];rfl
      .rcases Xo hp with z|z
       .show aq p z
       .rw[Xp z];show%[bn|by unfold iI;rw[Z6];show ca]
      .rw[Zd,b7,Xc,cx];rfl
    lk;show br (λc=>?_) λc=>?_
    .let%[c3,g3,l3|u3]:=get (3+(i:md)) (by lia -verbose) (by lia -verbose);show%[_,keep _ Y,_,g3,c3,u,m,ρ,l3,u3,bb|λT5 th H5 g l s5 f5 cl n5 co aR aU a0 a1 a2 y ca=>%[_,SqT.of co,ρ,_,_,ρ,_,_,ρ,ρ|rest m th H5 g l s5 cl aR aU a0 a1 a2 y (by rw[hY c];show ca)]]
    .let cp:i<4:=by rw[hH c]at n4;lia -verbose
     show%[.inl %[!1|!1],.inl %[!1|!1],_,keep _ Y|λp2 dg=>?_];rw[x4 xs (by lia -verbose) (by lia -verbose) (by lia -verbose)];let dk: ~~~((xs.drop (2+6*(i:md)).toNat).take ((8+6*(i:md)).toNat-(2+6*(i:md)).toNat))=6:=by
      rw[Yj,Yf,cs];show(by decide:∀i:gf,i<4->min ((8+6*(i:md)).toNat-(2+6*(i:md)).toNat) (86-(2+6*(i:md)).toNat)=6) i cp
     let dn:∀x>(xs.drop (2+6*(i:md)).toNat).take ((8+6*(i:md)).toNat-(2+6*(i:md)).toNat),0<=x/\x<9973:=λx hx=>hb x (Re (Yw hx))
     generalize (xs.drop (2+6*(i:md)).toNat).take ((8+6*(i:md)).toNat-(2+6*(i:md)).toNat)=ws at dk dn
     show%[p2,ws,u,ac,ρ,Qb.of aa,λr L=>Qb.of (L _ _ aa),dk,dn,bb|λT5 th H5 g l s5 f5 cl n5 co aR aU a0 a1 a2 y=>%[_,SqT.of co,ρ,_,_,ρ,_,_,ρ,ρ|rest ac th H5 g l ((ah.Qa dg).trans s5) ((ah.Qa dg).free cl) aR aU a0 a1 a2 y (by rw[hH c];show nU _)]]
   lk;show br (λ_=>%[_,keep _ Y,_,g0,%[!1|!1],!1|as _]) λ_=>as _
  .intro σ H3 %[o3,o4,o5,o6,o7,o8,rfl,s3,ds,ys,b5,G,I,a7,ab,b6,aq|b7];show k3 (am λD4 k4 _=>?_);lk;show%[_,keep _ s3,_,g0,%[!1|!1],!1|k4 (am λD5 k5 _=>?_)];let m0:0<=c0/12%31:=by lia -verbose
   let d7:c0/12%31<=30:=by lia -verbose
   generalize c0/12%31=bt at m0 d7
   let eb:1<=ds\5:=by lia -verbose
   let ec:ds\5<=8:=by lia -verbose
   let ae:ys\5<=32/\1<=ys\5:=by
    let e:=nY L3 ab;rw[Z6,UW]at e;let:=vt (f:=λp:hW×Drn=>(iI p.2)\5) (B:=if L=gb then 2 else 8) (xs:=ds) λp hp=>(aq p hp).2
    let eN:(if L=gb then 2 else 8)* ~~~ds<=32:=by
     let:ds\5<=if L=gb then 8 else 4:=by lia -verbose
     show(show∀(s:on) (d:gf),(d<=if s=gb then 8 else 4)->(if s=gb then 2 else 8)*d<=32 from λs d h=>by
      cases s
      .show U6 8 h
      .show lx (U6 2 h) (!1)) L _ this
    show%[(by lia -verbose)|PR λz=>?_];let ed:ys=[]:=vu.mp z;rw[ed]at ab;let dp:0<ds\5:=by lia -verbose
    let hq:=(aq ds[0] (Yb dp)).1;let eg:=Fh hq.2.1 hq.2.2.2.1 hq.2.2.2.2.2;let%[a'|eh]:=Og _ eg;let:(eJ ds[0].2.name (sg a' ds[0].2.sh),a')>ds.flatMap λp=>iI p.2:=Nc.mpr %[ds[0],Yb dp|Xr %[a',eh|rfl]]
    rw[<-ab]at this;cases this
   let M:(ys.map λp=>p.2.1)=ds.flatMap λp=>(iI p.2)\1:=by
    let e:=nY (Rf (·.1)) ab;rw[Yp,fx.map_flatMap]at e;show e
   show aD λan hK=>?_
   lk;show%[(by lia -verbose),(by lia -verbose)|hK λL2 a5=>?_];let ei:L2≠v:=nq a5 G rfl;let e0:L2≠U:=nq a5 I rfl;let ej:=ah.Qa (o:= .lst []) a5;show b8 (J:=Itr 0 bt.toNat) (n:=bt.toNat) (D:=L2) (λi zs σ r=>A4 (∃o,σ=[o,!U,fI (.bl m),!a]) (ah H3 r) (r L2<*zs) (∃qs:ZN,A3 (zs=(qs\0)) (qs\5=i) (cR r (ys.map λp=>p.2.1) qs)))
    %[%[fD|rfl],ej,aa,[],rfl,rfl|λq hq=>(nomatch hq)] (λi _ _ r hi _=>hi) (λ_ _ r _=>Zi _) ?_ ?_
   .intro i zs σ H4 cp %[%[o|rfl],Y,ai,qs,rfl,dr|bf] x e4 %[e2|e3];rw[MC]at e3;subst e2 e3;let%[x1,ek,el|e5]:=get (26+2*(i:md)) (by lia -verbose) (by lia -verbose);let%[x2,eo,ep|e6]:=get (27+2*(i:md)) (by lia -verbose) (by lia -verbose);lk;show%[.inl %[!1|!1],_,keep _ (s3.trans Y),_,ek,.inl %[!1|!1],_,keep _ (s3.trans Y),_,eo|?_];show%[x1,x2,U,m,ys,ρ,Y _ _ I,a7.up Y,ae.2,(by lia -verbose),el,ep|λt H5 eq s5 f5 h5 er=>?_];let aj:=s5 _ _ ai;let dt:=e7 (ys:=qs\0 ++[V.ref t]) aj;show CK.mk cp aj (by rw[Z6];show aF (by lia -verbose)) %[%[_|rfl],ah.set (Y.trans s5) a5,aa,qs++[(t,eq)],by rw[Zd];rfl,by rw[Z9,dr];rfl|λq hq=>?_];rcases Xo hq with z|z
    .show(((bf.up s5).keep dt) q z)
    .rw[Xp z];show%[dt _ _ h5|er]
   .intro zs σ H4 %[_,Y,ai,qs,rfl,dr|bf];show k5 ?_;lk;show aD λan hK=>?_
    lk;let bU:=Y _ _ I;show%[%[_|Qb.of bU]|hK λN hN=>?_];show dL (λj ts σ r=>A4 (E2 λo1 o2=>σ=[o1,o2]) (ah H4 r) (r N<*ts) (ts=((ys.take j).map λp=>p.2.1)\3))
     %[%[fD,fD|rfl],ah.Qa hN,aa|rfl] (λ_ _ _ r es=>es.2 _ _ bU) ?_ ?_
    .intro j ts σ H6 hj %[%[o1,o2|rfl],s5,et|ht];let eu:=(a7 ys[j] (Yb hj)).1;show%[_,SqT.of (s5 _ _ (Y _ _ eu)),ρ,_,_,ρ,_,_,ρ,ρ|?_];change BR [fI (.str ys[j].2.1),fI (.int ys[j].2.2)] _ _;lk;show CK.mk hj et (by rw[ht,Z6,Z6,Yj];show aF (by lia -verbose)) %[%[_,_|rfl],ah.set s5 hN,aa|?_];rw[ht,Xc,Zd,Zd,Z4 hj];rfl
    intro ts σ H5 %[_,s5,ev|ht];rw[Zn (Zi _),M]at ht;show%[#[3]|λt dx=>?_];let st:=ah.Qa (o:= .tup [V.ref v,V.ref L2,V.ref N]) dx;let dy:=s3.trans (Y.trans (s5.trans st));rw[M]at bf;let b0:=Y _ _ G;show kk t v L2 N _ ds qs (sn.trans dy) (sn.free ((s3.trans (Y.trans s5)).free dx)) (sn.free a6) (sn.free (s3.free a5)) (sn.free ((s3.trans Y).free hN)) (wh ei) (nq b0 hN rfl) (nq ai hN rfl) aa (st _ _ (s5 _ _ b0)) (st _ _ (s5 _ _ ai)) (by rw[st _ _ ev,ht]) eb ec (λp hp=>(aq p hp).1) ?_ (b6.up (Y.trans (s5.trans st))) (bf.up (s5.trans st)) (by lia -verbose) (by rw[<-M,Z6];show%[ae.2|ae.1]);rw[b7];show al.2.1.sublist (Sd _ _)
abbrev NmD(ls:ZB)(f:jz->jz):fx (Key×V):=ls.map λz=>(hX z,V.str (f z))
def iJ:∀{ls:ZB},z>ls->bD (NmD ls f) (hX z)>=.str (f z)
 |[],h=>(nomatch h)
 | x::ls,h=>by
   by_cases e:x=z
   .subst e;show du rfl
   .rw[show NmD _ f=(hX x,V.str _)::NmD ls f from rfl,cI (λq=>e (NN q))];show iJ (by rcases Yu.mp h with q|q;show(e q.symm).elim;show q)
def Fz:((NmD ls f).any λa=>decide (a.1=(hX z:Key)))=gb↔z>ls:=by
 rw[TK]
 constructor
 .rintro⟨a,b,c⟩;let%[x,d|rfl]:=Xq b
  simp_all
 .intro h;show%[_,Xr %[z,h|ρ]|Zf rfl]
def wb(h:z>ls):cA (NmD ls f) (hX z) (.str v)=NmD ls (λx=>if x=z then v else f x):=by
 unfold cA;rw[hY (Fz.mpr h)];unfold NmD;rw[Yp];show Yn λx _=>?_
 change(if(hX x)=hX z then((hX x),V.str v)else(hX x,V.str _))=(hX x,V.str (if x=z then v else f x))
 by_cases e:x=z
 .rw[hY (nY _ e),hY e]
 .rw[hH (λq=>e (NN q)),hH e]
def KI(h:z∉ls):cA (NmD ls id) (hX z) (.str z)=NmD (ls++[z]) id:=by
 unfold cA;rw[hH (λq=>h (Fz.mp q))];unfold NmD;rw[Zd];rfl
abbrev yg(ls:ZB)(z:jz):gf:=ls.countP λu=>aV u z
def rQ(b:x>ls)(h:aV x y=gb):yg ls x<yg ls y:=by
 unfold yg
 induction ls with
 | nil=>cases b
 | cons u l c=>
   let d:l.countP (λu=>aV u x)<=l.countP λu=>aV u y:=fx.countP_mono_left λu _ a=>dY a h
   rw[QB,QB];rcases Yu.mp b with rfl|e
   .rw[hH (by rw[dB];simp),hY h]
    lia
   .let:=c e;by_cases a:aV u x=gb
    .rw[hY a,hY (dY a h)]
     lia
    .rw[hH a]
     split<;> lia
abbrev bj(qs:ZN)(a b:jz):Prop:=∃q>qs,q.2=[.str "same",.str a,.str b]
def kK{S R:jz->jz->Prop}(F:cf ls f r S)(h:∀a b,S a b↔R a b):cf ls f r R:=by
 rw[funext λa=>funext λb=>(WU (h a b)).symm];show F
inductive FA
 | mk (d z ls f r S):vs=[.ref d,.str z]->H d>=.dK (NmD ls f)->cf ls f r S->z>ls->Q (.str (r z)) H->FA vs H Q E0
inductive AV
 | mk (d a b ls f r S):vs=[.ref d,.str a,.str b]->H d>=.dK (NmD ls f)->cf ls f r S->a>ls->b>ls->ls\5<=5000->(∀f' r',cf ls f' r' (λx y=>S x y\/(x=a/\y=b))->Q .non (Qa H d (.dK (NmD ls f'))))->AV vs H Q E0
def gW:↥1 19 FA:=by
 .exists 19,"names layer",n,g,%[d,z,ls,p,r,S,rfl,o,F,q|i];show%[_,%["JD>L,h011EH1h01EI1",D0.nd|g]|am λu k1 _=>⟨λm j e=>∃y,j=[fI _,-y]/\e=H/\y>ls/\r y=r z/\m=yg ls y,%[_,z,ρ,ρ,q,ρ|ρ],?_⟩]
  intro m j e %[y,rfl,rfl,a,b|rfl];lk;let g1:=by
   let:=cZ.k (k:=hX y) o;rw[iJ a]at this;show this
  show%[_,g1,ρ|br (λh=>?_) λh=>?_]
  .let h:=↑h
   show%[λc l=>c=[fI _,fI _]/\l=e,?_,_,g1,ρ|ρ];intro c l %[rfl|rfl];show%[_,rQ (F.fin y a) (F.dec y a h),p y,ρ,ρ,F.fin y a,(F.rf y a).trans b|ρ]
  .show k1 ?_;rw[<-b,F.fix y a ↑h]at i;show i
def pS:↥2 18 AV:=by
 .exists 18,"names one other first second",l,c,%[d,a,b,ls,p,r,S,rfl,e,F,g,i,m|n];show%[_,%["JDH3G~^A0A1BDH4G~^A0A2BEx~S~_A3A4B0~d]qA3A4B",D0.nd|c]|?_]
  change aZ _ _ _ [!d,-a,-b,fD,fD] H;show am λq k1 _=>?_
  lk;show%[d,a,ls,p,r,S,ρ,e,F,g|k1 (am λu k2 _=>?_)];lk;show%[d,b,ls,p,r,S,ρ,e,F,i|k2 (aB λv o _=>?_)];lk;let J:=F.join g i rfl rfl;let j:(if aV (r a) (r b)=gb then r b else r a)>ls:=by
   split
   .show F.rin b i
   .show F.rin a g
  generalize (if aV (r a) (r b)=gb then r b else r a)=M at J j
  show%[_,h9.k (k:=hX M) e (by unfold NmD;rw[Z6,PySem.sizeLine_eq];lia)|o ?_];rw[wb j];show n _ _ J
def rR{qs:ZN}{q:hW×ZM}(c:qs[i]?>=q)(a b:jz):bj (qs.take (i+1)) a b↔bj (qs.take i) a b\/q.2=[.str "same",.str a,.str b]:=by
 unfold bj;rw[Xc,c]
 simp_all
def jB{ls:ZB}(c:ls.Pairwise (λa b=>aV b a=gi)){i:gf}{z w:jz}(d:ls[i]?>=z)(hw:w>ls)(h:aV w z=gb):w>ls.take i:=by
 rw[<-Xd i ls]at hw;rcases Xo hw with e|e
 .show e
 .let%[hi|f]:=Xn d;let%[j,g|rfl]:=Qi e;rw[fx.getElem_drop]at h;rw[Yf]at g;by_cases l:j=0
  .subst l;rw[<-f]at h;simp only[Q9]at h;rw[dB]at h;cases h
  .let:=Tv.mp c i (i+j) hi ⋯ !_
   grind
inductive yh (mg:ZC)
 | mk (g c2 c3 c4 qs ls ts):vs=[.ref g]->GrF mg H g c2 c3 c4 qs ls ts->ls.Nodup->ls.Pairwise (λa b=>aV b a=gi)->ls\5<=5000->(∀d H' r,ah H H'->H d=fD->H' d>=.dK (NmD ls r)->(∀z>ls,r z>ls/\cN (bj qs) z (r z))->Q (.ref d) H')->yh mg vs H Q E0
def om{H:Hp}{g c2 b c:hW}{qs:fx _}{ls:ZB}{ts:fx _}{m:jz}{R:Prop}(h:GrF mg H g c2 b c qs ls ts)(d:m="layers"\/m="sayings"\/m="ties")(k:R):∃a fs,H g>=.ins (aS mg "Ground") a fs/\NT m fs=fD/\R:=by
 let%[a,f|e]:=h.at_;show⟨a,_,e,by rcases d with rfl|rfl|rfl<;> rfl,k⟩
def eT:↥3 17 (yh mg):=by
 .exists 17,"ground names layer word one other",as,J,%[g,c2,c3,c4,qs,ls,ts,rfl,hg,nd,so,aq|kk];let lm:(ls\3)\5=ls\5:=Z6 _;let qm:(qs\0)\5=qs\5:=Z6 _;show%[_,%["JDH1)DTV~G~s0M2Ex212DTV~G~|0fNM3NM4NM5gEPLt3YEXG]rA1A4A5BQDTV~G~s0M2Exh1h1212EI1",D0.nd|J]|?_]
  change aZ _ _ _ [!g,fD,fD,fD,fD,fD] H;show am λD1 k1 _=>?_
  lk;intro d N;show k1 (am λD2 k2 _=>az λL O=>?_);let s1:=ah.Qa (o:= .dK []) N;let M:Qa H d (.dK []) d>=.dK (NmD (ls.take 0) id):=aa
  generalize Qa H d _=H1 at s1 M
  lk;let U:=hg.up s1;show om U (.inl rfl) %[g,c2,c3,c4,qs,ls,ts,rfl,U|λY ab=>%[%[_|Qb.of aa]|O ?_]];let s2:=ah.Qa (o:= .lst (ls\3)) ab;let ac:Qa H1 Y (.lst (ls\3)) Y=_:=aa;let n1:Y≠d:=nq ab M rfl;let M:=s2 _ _ M
  generalize Qa H1 Y _=H2 at s2 ac M
  show cL (λi m j=>A4 (E4 λn p u v=>m=[!g,!d,n,p,u,v]) (ah H j) (j Y<*ls\3) (j d>=.dK (NmD (ls.take i) id)))
   %[%[_,_,_,_|rfl],s1.trans s2,ac|M] (λi m j h=>h.3) ?_ ?_
  .intro i z m j B %[%[n,p,u,v|rfl],l,I|c];change tM _ _ _ _ [!g,!d,-z,p,u,v] j;show aB λD3 k3 _=>?_
   lk;let zn:z∉ls.take i:=λhm=>by
    let h:=nd;rw[<-Xd i ls,Yz]at h;show h.2.2 z hm z (Z8 (i:=0) ((Pu)▸B)) rfl
   show%[_,h9.k (k:=hX z) c (by unfold NmD;rw[Z6,Yj,PySem.sizeLine_eq];lia)|k3 %[%[_,_,_,_|ρ],ah.set l N,(ar n1).trans I|?_]];rw[aa,KI zn,Xc,B];rfl
  intro m H3 %[%[n,p,u,v|rfl],l,I|c];rw[Zn (Zi _)]at c;show k2 (am λD4 k4 _=>az λL O=>?_);lk;let ae:=hg.up l;show om ae (.inr (.inl rfl)) %[g,c2,c3,c4,qs,ls,ts,rfl,ae|λl2 ag=>%[%[_|Qb.of aa]|O ?_]];let s4:=ah.Qa (o:= .lst (qs\0)) ag;let ai:Qa H3 l2 (.lst (qs\0)) l2=_:=aa;let n2:l2≠d:=nq ag c rfl;let c:=s4 _ _ c;let aj:=l.trans s4
  generalize Qa H3 l2 _=H4 at s4 ai c aj
  show cL (λi m j=>A4 (E4 λn p u v=>m=[!g,!d,n,p,u,v]) (ah H j) (j l2>=.lst (qs\0)) (E2 λf r=>j d>=.dK (NmD ls f)/\cf ls f r (bj (qs.take i))))
   %[%[_,_,_,_|rfl],aj,ai,id,id,c|kK (cf.start ls) λa b=>%[λh=>h.elim|λ⟨q,hq,_⟩=>(nomatch hq)]] (λi m j h=>h.3) ?_ ?_
  .intro i q m j hq %[%[n,p,u,v|rfl],l,I,f,r,c|F];let%[q1|q2]:=hg.sa q (Z8 hq);let st:=l _ _ q1;let C:=rR hq;rcases q2 with⟨wd,a,b,e,hw,ha,hb,_⟩|⟨wd,a,y,e,hw,_⟩
   .rw[e]at st C;show%[_,SqT.of st,ρ,_,_,ρ,_,_,ρ,_,_,ρ,ρ|?_];change kO _ _ _ _ [!g,!d,n,-wd,-a,-b] j;show aB λD5 k5 _=>?_
    lk;show br (λh=>?_) λh=>?_
    .let h:wd=nI "same":=↑h
     show%[d,a,b,ls,f,r,_,ρ,c,F,ha,hb,aq|λf' r' F'=>k5 %[%[_,_,_,_|ρ],ah.set l N,(ar n2).trans I,f',r',aa|kK F' λx y=>?_]];rw[C,h];show SV QV %[λ⟨e1,e2⟩=>by rw[e1,e2]|λe=>?_];simp only[MZ,V.str.injEq,Ut,true_and]at e;show%[e.1.symm|e.2.symm]
    .let h:wd≠nI "same":=↑h
     show k5 %[%[_,_,_,_|rfl],l,I,f,r,c|kK F λx y=>?_];rw[C];show%[.inl|λe=>e.resolve_right λe=>h ?_];simp only[MZ,V.str.injEq]at e;show e.1
   .rw[e]at st C;show%[_,SqT.of st,ρ,_,_,ρ,_,_,ρ,_,_,ρ,ρ|?_];change kO _ _ _ _ [!g,!d,n,-wd,-a,fI (.int y)] j;show aB λD5 k5 _=>?_
    lk;rw[hH (by rcases hw with rfl|rfl<;> decide)];show k5 %[%[_,_,_,_|rfl],l,I,f,r,c|kK F λx z=>?_];rw[C];show%[.inl|λe=>e.resolve_right λe=>?_];simp at e
  intro m H5 %[%[n,p,u,v|rfl],l,I,f,r,c|F];rw[Zn (Zi _)]at F;show k4 (am λD6 k6 _=>az λL O=>?_);lk;let al:=hg.up l;show om al (.inl rfl) %[g,c2,c3,c4,qs,ls,ts,rfl,al|λl3 an=>%[%[_|Qb.of aa]|O ?_]];let s6:=ah.Qa (o:= .lst (ls\3)) an;let n3:l3≠d:=nq an c rfl;let c:=s6 _ _ c;show cL (λi m j=>A4 (E4 λn p u v=>m=[!g,!d,n,p,u,v]) (ah H j) (j l3<*ls\3) (∃f,A3 (j d>=.dK (NmD ls f)) (cf ls f r (bj qs)) (∀z>ls.take i,f z=r z)))
   %[%[_,_,_,_|rfl],(l.trans s6),aa,f,c,F|λz B=>(nomatch B)] (λi m j h=>h.3) ?_ ?_
  .intro i z m j B %[%[n,p,u,v|rfl],l,I,f,c,F|G];let zm:=Z8 B;change tM _ _ _ _ [!g,!d,-z,p,u,v] j;show aB λD7 k7 _=>?_
   lk;let get:=λy hy=>by
    let:=cZ.k (k:=hX y) c;rw[iJ hy]at this;show this
   show%[_,get z zm,_,get _ (F.fin z zm),_,h9.k (k:=hX z) c (by unfold NmD;rw[Z6,PySem.sizeLine_eq];lia)|k7 %[%[_,_,_,_|ρ],ah.set l N,(ar n3).trans I,_,?_,F.short zm|λy hy=>?_]]
   .rw[aa,wb zm]
   .rw[Xc,B]at hy;by_cases e:y=z
    .rw[hY e,e];show F.done zm λw hw h=>G w (jB so B hw h)
    .rw[hH e];rcases Xo hy with h|h
     .show G y h
     .show(e (Xp h)).elim
  intro m H7 %[%[n,p,u,v|rfl],l,I,f,c,F|G];rw[Zn (Zi _)]at G;show k6 ?_;lk;show kk d H7 r l N ?_ λz B=>%[F.rin z B|F.least B]
  rw[c];unfold NmD;rw[Yn λz B=>by rw[G z B]]
def Hv{X:Cx}{K:ZA}{T id:MX}(h:X.K=K)(m:Pp T)(slot:Slot T name id)(i:Qe (.builtin id)=pure (.type "method_descriptor"))(n:MtQ X id r)
 (b:NB o name X.env (M9 o X.env)=M9 o X.env) (a:(e::g).any bu=gi) (j:XQ (e::g).length 30=gb) (c:(d.endLine==f.line)=gb) (p:QE X o q) (s:QA X (e::g) t):
 QE X (.Call (.Attribute o name d) (e::g) [] f) (tBM K T r q t):=by
 let l:=a;rw[Zw,X6]at l;show⟨DM h m slot i n.h p.h s.h b ?_ c (aE l.1) (ee l.2)⟩;rw[vg a];let:decide ((e::g)\5+([]:fx Pc)\5+(if([]:fx Pc).isEmpty then 0 else 1)<30)=gb:=Zf ((gf.blt_eq.mp j));rw[this];rfl
abbrev grp(r:jz->jz)(xs:ZB):fx (jz×ZB):=(xs.filter λz=>decide (r z=z)).map λz=>(z,xs.filter λx=>decide (r x=z))
def CO(h:∀z>xs,r z=b z):grp r xs=grp b xs:=by
 unfold grp;rw[Vv λz a=>by rw[h z a]];show Yn λz a=>?_
 rw[Vv λx c=>by rw[h x c]]
def Hw(a:r z=z)(b:z∉xs)(c:∀x>xs,r x>xs):grp r (xs++[z])=grp r xs++[(z,[z])]:=by
 unfold grp;rw[Y1,Zd];show WW (nY _ (Yn λw hw=>?_)) ?_
 .let:w≠z:=λe=>b (e▸(kw.mp hw).1)
  rw[Y1,Y2 (by rw[a];simpa using this.symm),Y4,Zx]
 .rw[Y3 (by rw[a];simp),Y4];change [(z,_)]=_;rw[Y1,Y3 (by rw[a];simp),Y4,OF.mpr λx d=>?_]
  .rfl
  .intro e;show b ((Zo e)▸c x d)
def Hx(a:r z≠z):grp r (xs++[z])=(grp r xs).map λp=>if p.1=r z then(p.1,p.2++[z])else p:=by
 unfold grp;rw[Y1,Y2 ↑a,Y4,Zx,Yp];show Yn λw hw=>?_
 change(w,_)=if w=r z then(w,_)else(w,_)
 rw[Y1];by_cases e:w=r z
 .rw[hY e,Y3 (by simpa using e.symm),Y4]
 .rw[hH e,Y2 (by simpa using λq=>e q.symm),Y4,Zx]
def kL:y>(grp r xs)\1↔y>xs/\r y=y:=by
 unfold grp
 simp_all
def ot(h:xs.Nodup):((grp r xs)\1).Nodup:=by
 unfold grp;rw[Yp,show((λx=>x.1) ∘ λz=>(z,Oa _ xs))=id from rfl,XR];show h.filter _
abbrev AW(S:jz->jz->Prop)(ls:ZB)(ds:fx ZB):Prop:=∃r:jz->jz,(∀z>ls,r z>ls/\cN S z (r z))/\ds=(grp r ls)\2
def AW.one{S:jz->jz->Prop}(h:AW S ls ds)(g:AW S ls b):ds=b:=by
 let%[r,c|rfl]:=h;let%[d,g1|rfl]:=g;rw[CO λz a=>(c z a).2.one (g1 z a).2]
noncomputable abbrev Gs(a:Type):=fx (jz×hW×fx a)
abbrev gD{a:Type}(b:Gs a):fx (Key×V):=b.map λg=>(hX g.1,V.ref g.2.1)
def wc:∀{a:Gs b},y∉a\1->bD (gD a) (hX y)=fD
 |[],_=>rfl
 | g::a,h=>by
   rw[Yo,Yu,Oj]at h;rw[show gD _=(hX g.1,V.ref _)::gD a from rfl,cI (λq=>h.1 (NN q).symm)];show wc h.2
def jC:∀{a:Gs f},bD (gD a) (hX y)>=v->∃g>a,g.1=y/\v= .ref g.2.1
 |[],h=>(nomatch h)
 | g::a,h=>by
   rw[show gD _=(hX g.1,V.ref _)::gD a from rfl]at h;by_cases e:g.1=y
   .rw[du (nY hX e)]at h;show%[g,Zm,e|(Za h).symm]
   .rw[cI (λq=>e (NN q))]at h;let%[b,c|d]:=jC h;show%[b,Zk _ c|d]
def ou:∀{a:Gs b},g>a->bD (gD a) (hX g.1)≠fD
 | x::a,h,c=>by
   rw[show gD _=(hX x.1,V.ref _)::gD a from rfl]at c;by_cases e:x.1=g.1
   .rw[du (nY hX e)]at c;cases c
   .rw[cI (λq=>e (NN q))]at c;rcases Yu.mp h with q|q
    .show e (by rw[q])
    .show ou q c
abbrev p9(H:Hp)(a:ZG):Prop:=∀g>a,H g.1<*g.2\3
def p9.up{H a:Hp}{b:fx _}(h:p9 H b)(s:ah H a):p9 a b:=λg c=>s _ _ (h g c)
structure kr {α:Type} (f:α->V) (H0 H:Hp) (d:hW) (gs:Gs α):Prop where
 at_:H d>=.dK (gD gs)
 la:∀g>gs,H0 g.2.1=fD/\H g.2.1<*g.2.2.map f
 nd:(gs.map (·.2.1)).Nodup
def Hy{f:Type}{c:Gs f}(d:(c\1).Nodup){g h:jz×hW×fx f}(i:g>c)(j:h>c)(e:g.1=h.1):g=h:=by
 induction c with
 | nil=>cases i
 | cons x xs l=>
   rw[Yo,MO]at d;rcases Yu.mp i with a|a<;> rcases Yu.mp j with b|b
   .rw[a,b]
   .show(d.1 (by rw[<-a,e];show Xr %[_,b|rfl])).elim
   .show(d.1 (by rw[<-b,<-e];show Xr %[_,a|rfl])).elim
   .show l d.2 a b
def FB{f:Type}{c:Gs f}(d:(c.map (·.2.1)).Nodup){g h:jz×hW×fx f}(i:g>c)(j:h>c)(e:g.2.1=h.2.1):g=h:=by
 induction c with
 | nil=>cases i
 | cons x xs l=>
   rw[Yo,MO]at d;rcases Yu.mp i with a|a<;> rcases Yu.mp j with b|b
   .rw[a,b]
   .show(d.1 (by rw[<-a,e];show Xr %[_,b|rfl])).elim
   .show(d.1 (by rw[<-b,<-e];show Xr %[_,a|rfl])).elim
   .show l d.2 a b
abbrev sX{a:Type}(y:jz)(z:a)(b:Gs a):Gs a:=b.map λg=>if g.1=y then(g.1,g.2.1,g.2.2++[z])else g
def KJ(y:jz)(z:b)(a:Gs b):gD (sX y z a)=gD a:=by
 unfold sX gD;rw[Yp];show Yn λg _=>?_
 change(hX (if g.1=y then(g.1,g.2.1,g.2.2++[z])else g).1,V.ref (if g.1=y then(g.1,g.2.1,g.2.2++[z])else g).2.1)=_
 split<;> rfl
def KK(y:jz)(z:b)(a:Gs b):(sX y z a).map (·.2.1)=a.map (·.2.1):=by
 unfold sX;rw[Yp];show Yn λg _=>?_
 change(if g.1=y then(g.1,g.2.1,g.2.2++[z])else g).2.1=_
 split<;> rfl
def KL(y:jz)(z:b)(a:Gs b):(sX y z a).map (λg=>(g.1,g.2.2))=(a.map λg=>(g.1,g.2.2)).map λp=>if p.1=y then(p.1,p.2++[z])else p:=by
 unfold sX;rw[Yp,Yp];show Yn λg _=>?_
 change((if g.1=y then(g.1,g.2.1,g.2.2++[z])else g).1,(if g.1=y then(g.1,g.2.1,g.2.2++[z])else g).2.2)=if g.1=y then(g.1,g.2.2++[z])else(g.1,g.2.2)
 split<;> rfl
def kr.up{a:Type}{f:a->V}{b H c:Hp}{d:hW}{e:Gs a}(h:kr f b H d e)(s:ah H c):kr f b c d e:=%[s _ _ h.at_,λg i=>%[(h.la g i).1|s _ _ (h.la g i).2]|h.nd]
def kr.add{a:Type}{f:a->V}{l H:Hp}{d:hW}{b:Gs a}(h:kr f l H d b)(m:(b\1).Nodup){g:jz×hW×fx a}(c:g>b)(z:a):kr f l (Qa H g.2.1 (.lst (g.2.2.map f++[f z]))) d (sX g.1 z b):=by
 show%[?_,λo j=>?_|by rw[KK];show h.nd]
 .rw[KJ,ar (nq h.at_ ((h.la g c).2) rfl)];show h.at_
 .let%[n,i|rfl]:=Xq j;by_cases e:n.1=g.1
  .rw[hY e];obtain rfl:=Hy m i c e;show%[(h.la _ c).1|?_];rw[aa,Zd];rfl
  .rw[hH e];show%[(h.la _ i).1|?_];rw[ar (λq=>e (by rw[FB h.nd i c q]))];show(h.la _ i).2
def kr.new{j:Gs n}(h:kr f m H d j)(s:ah m H)(l:H e=fD)(y:jz)(z:n)(o:y∉j\1):kr f m (Qa (Qa (Qa H e (.lst [])) d (.dK (cA (gD j) (hX y) (.ref e)))) e (.lst [f z])) d (j++[(y,e,[z])]):=by
 show%[?_,λg i=>?_|?_]
 .rw[ar (nq h.at_ l rfl),aa,gE _ (wc o)];unfold gD;rw[Zd];rfl
 .rcases Xo i with i|i
  .show%[(h.la g i).1|?_];let q:=(h.la g i).2;rw[ar (nq q l rfl),ar (nq q h.at_ rfl),ar (nq q l rfl)];show q
  .rw[Xp i];show%[s.free l|aa]
 .rw[Zd,Yz];show%[h.nd,by simp|λa p b r c=>?_];let%[g,i|rfl]:=Xq p;let q:=(h.la g i).2
  simp_all
inductive AX (mg:ZC)
 | mk (g c2 c3 c4 qs ls ts):vs=[.ref g]->GrF mg H g c2 c3 c4 qs ls ts->ls.Nodup->ls.Pairwise (λa b=>aV b a=gi)->ls\5<=5000->(∀l H' ss,ah H H'->H l=fD->H' l>=.lst (ss\0)->p9 H' ss->(∀s>ss,H s.1=fD)->AW (bj qs) ls (ss\2)->ss\5<=5000->Q (.ref l) H')->AX mg vs H Q E0
inductive KM (mg:ZC)
 | mk (g c2 c3 c4 qs ls ts z):vs=[.ref g,.str z]->GrF mg H g c2 c3 c4 qs ls ts->ls.Nodup->ls.Pairwise (λa b=>aV b a=gi)->ls\5<=5000->z>ls->(∀H' m,ah H H'->cN (bj qs) z m->Q (.str m) H')->KM mg vs H Q E0
def Aa:↥4 20 (AX mg):=by
 .exists 20,"ground names groups layer",a2,C,%[g,c2,c3,c4,qs,ls,ts,rfl,hg,nd,so,aj|kk];let lm:(ls\3)\5=ls\5:=Z6 _;show%[_,%["JDH1G~tA0BDH2)DTV~G~s0M3EX~un~v~w2Ah13AUBBA3BEI=]sA]t]u2B",D0.nd|C]|?_]
  change aZ _ _ _ [!g,fD,fD,fD] H;show am λD1 k1 _=>?_
  lk;show%[g,c2,c3,c4,qs,ls,ts,ρ,hg,nd,so,aj|λd H1 r s1 fd J C=>k1 (am λD2 k2 _=>?_)];lk;intro e fe;show k2 (am λD3 k3 _=>az λa1 hK=>?_);let al:d≠e:=nq J fe rfl;let s2:=ah.Qa (o:= .dK []) fe;let ge:Qa H1 e (.dK []) e>=.dK (gD ([]:Gs jz)):=aa;let J:=s2 _ _ J;let fe:=s1.free fe;let N:=s1.trans s2
  generalize Qa H1 e _=H2 at s2 ge J N
  lk;let ab:=hg.up N;show om ab (.inl rfl) %[g,c2,c3,c4,qs,ls,ts,rfl,ab|λl1 an=>%[%[_|Qb.of aa]|hK ?_]];let s3:=ah.Qa (o:= .lst (ls\3)) an;let O:Qa H2 l1 (.lst (ls\3)) l1=_:=aa;let J:=s3 _ _ J;let ge:=s3 _ _ ge;let ac:=N.trans s3
  generalize Qa H2 l1 _=H3 at s3 O J ge ac
  let r2:∀z>ls,r (r z)=r z:=λz I=>by
   let h:=(C z I)
   let h2:=(C _ h.1).2;show h2.one %[.refl _|λy c=>h.2.2 y (h.2.1.trans c)]
  let ae:∀z>ls,r z≠z->aV (r z) z=gb:=λz I h=>dZ ((C z I).2.2 z (.refl _)) h.symm
  obtain⟨L,aq,as,aR,U,s0⟩:∃L:Hp,L e=fD/\L d>=.dK (NmD ls r)/\L l1<*ls\3/\ah H L/\ah L H3:=by
   show%[λa=>if a=e then fD else H3 a,hY rfl,?_,?_,λa o h=>?_|λa o h=>?_]
   .show(hH (λc=>al c)).trans J
   .show(hH (nq O ge rfl)).trans O
   .show(hH (nq h fe rfl)).trans (ac _ _ h)
   .let h:(if a=e then fD else H3 a)>=o:=h
    split at h
    .cases h
    .show h
  show cL (λi σ Y=>A3 (∃o3,σ=[!g,!d,!e,o3]) (ah L Y) (∃u,kr V.str L Y e u/\u.map (λg=>(g.1,g.2.2))=grp r (ls.take i)))
   %[%[_|rfl],s0,[],%[ge,λg hg=>(nomatch hg)|X2]|rfl] (λi σ Y h=>h.2 _ _ aR) ?_ ?_
  .intro i z σ Y I %[%[o3|rfl],M,u,b|n];let zm:=Z8 I;let i1:i<ls\5:=(Xn I).1;change kY _ _ [!g,!d,!e,-z] Y;show aB λD4 k4 _=>?_
   lk;let get:=cZ.k (k:=hX z) (M _ _ as);rw[iJ zm]at get;let gk:u\1=(grp r (ls.take i))\1:=by rw[<-n,Yp];rfl
   let ag:(u\1).Nodup:=by rw[gk];show ot (nd.sublist (Sd _ _))
   let gl:u\5<=ls\5:=by
    let:=_ST.nodup_sub ag (m:=ls) λy hy=>by rw[gk,kL]at hy;show Yw hy.1
    rw[Z6]at this;show this
   let zn:z∉ls.take i:=λhm=>by
    let h:=nd;rw[<-Xd i ls,Yz]at h;show h.2.2 z hm z (Z8 (i:=0) (by rw[Pu];show I)) rfl
   let tk:ls.take (i+1)=ls.take i++[z]:=by rw[Xc,I];rfl
   show%[tyD (b.at_),_,get,#[0]|λp hp=>%[hX (r z),ρ,gD u,?_,?_,λv hv=>?_|λhv=>?_]]
   .rw[ar (nq b.at_ hp rfl)];show b.at_
   .unfold gD;rw[Z6];show aF !_
   .let%[q,B,e1|rfl]:=jC hv;let aU:q.1>u\1:=Xr %[q,B|rfl];let ai:=aU;rw[gk,kL,e1]at ai;let rn:r z≠z:=λc=>zn (by show c▸ai.1)
    let sp:=ah.Qa (o:= .lst []) hp;let hl:=sp _ _ (b.la q B).2;let G:=(b.up sp).add ag B z;let ml:q.2.2\5<=ls\5:=by
     let:(q.1,q.2.2)>grp r (ls.take i):=n▸Xr %[q,B|rfl];let%[y,hy|c]:=Xq this;show((Prod.mk.inj c).2)▸lx (Yg _ _) (by rw[Yj];lia)
    show%[tyL (Qb.of hl),_,hl,by rw[Z6];show aF !_|k4 %[%[_|ρ],ah.set (M.trans sp) (b.la q B).1,_,G|?_]];rw[KL,n,tk,Hx rn,e1]
   .let nk:r z∉u\1:=λh=>by
     let%[q,B|c]:=Xq h;let:=ou B;rw[c,hv]at this;show this rfl
    let rz:r z=z:=M5 λc=>nk (by rw[gk,kL];show%[jB so I (C z zm).1 (ae z zm c)|r2 z zm])
    let de:e≠p:=nq b.at_ hp rfl;rw[rz]at hv nk ⊢;let gp:Qa (Qa Y p (.lst [])) e (.dK (cA (gD u) (hX z) (.ref p))) p<*[]:=by rw[ar de.symm,aa]
    show%[tyL (Qb.of gp),[],gp,(show 0<iv by decide)|k4 %[%[_|ρ],ah.set (ah.set (M.trans (ah.Qa hp)) aq) (M.free hp),_,b.new M hp z z nk|?_]];rw[Zd,n,tk,Hw rz zn λx hx=>?_]
    .rfl
    .let%[j|hj]:=fx.mem_iff_getElem?.mp hx;let xm:=Yw hx;by_cases c:r x=x
     .rw[c];show hx
     .let ji:j<i:=by let:=(Xn hj).1;rw[Yj]at this;lia
      rw[Y9 ji]at hj;show fx.take_subset_take_left _ (Yd ji) (jB so hj (C x xm).1 (ae x xm c))
  intro σ Y %[%[o3|rfl],M,u,b|n];rw[Zn (Zi _)]at n;show k3 ?_;lk;let gk:u\1=(grp r ls)\1:=by rw[<-n,Yp];rfl
  let gl:u\5<=ls\5:=by
   let:=_ST.nodup_sub (l:=u\1) (gk▸ot nd) (m:=ls) λy hy=>by rw[gk,kL]at hy;show hy.1
   rw[Z6]at this;show this
  show%[tyD (b.at_),%[_|b.at_]|λv fv=>%[e,aa,_,ah.Qa fv _ _ b.at_|λl fl=>?_]];let sv:=ah.Qa (o:=xC v e) fv;let sl:=ah.Qa (o:= .lst ((gD u)\2)) fl;let a0:=M.trans (sv.trans sl);show kk l _ (u\2) (U.trans a0) ((U.trans (M.trans sv)).free fl) ?_ (λs hs=>?_) (λs hs=>?_) %[r,C|?_] (by rw[Z6];lia)
  .rw[aa];unfold gD;rw[Yp,Yp];rfl
  .let%[q,B|rfl]:=Xq hs;show sl _ _ (sv _ _ (b.la q B).2)
  .let%[q,B|rfl]:=Xq hs;show U.free (b.la q B).1
  .rw[<-n,Yp,Yp];rfl
structure bx (S:jz->jz->Prop) (ks0 ks:fx _):Prop where
 nd:ks.Nodup
 mem:∀k,k>ks↔∃a b z a' b',[a,b,z]>ks0/\cN S a a'/\cN S b b'/\k=[a',b',z]
def bx.mm{S:jz->jz->Prop}{a ks ms:fx ZB}(h:bx S a ks)(g:bx S a ms)(k:ZB):k>ks↔k>ms:=(h.mem k).trans (g.mem k).symm
def AY{ks ms:fx ZB}(e:∀k,k>ks↔k>ms):Ed ks=Ed ms:=by
 funext a b;simp only[Ed,e]
def nu{ks ms:fx ZB}(e:∀k,k>ks↔k>ms):Dst ks=Dst ms:=by
 funext a n b;simp only[Dst,e]
def fC{ks ms:fx ZB}(e:∀k,k>ks↔k>ms):Rch ks=Rch ms:=by
 funext a b;let q:∀{ks},Rch ks a b↔∃n,Dst ks a (n+1) b:=%[Rch.dst|λ⟨_,h⟩=>h.rch]
 rw[WU q,WU q,nu e]
abbrev dW(r:jz->jz):ZB->ZB
 |[a,b,z]=>[r a,r b,z]
 | k=>k
def rS{S:jz->jz->Prop}{c:fx ZB}{ls:ZB}{r:jz->jz}(l:∀k>c,eD ls k)(f:∀z>ls,cN S z (r z))(k:ZB):k>c.map (dW r)↔∃a b z g h,[a,b,z]>c/\cN S a g/\cN S b h/\k=[g,h,z]:=by
 rw[Yv]
 constructor
 .rintro⟨t,d,rfl⟩;let%[a,b,z,rfl,i|j]:=l t d;show%[a,b,z,r a,r b,d,f a i,f b j|ρ]
 .rintro⟨a,b,z,g,h,d,m,n,rfl⟩;let%[x,y,u,e,i|j]:=l _ d;simp only[MZ,Ut]at e;let%[rfl,rfl|rfl]:=e;show%[_,d|by rw[<-(f a i).one m,<-(f b j).one n];rfl]
inductive yi (mg:ZC)
 | mk (g c2 c3 c4:hW) (qs:ZN) (ls:ZB) (ts:ZG):vs=[.ref g]->GrF mg H g c2 c3 c4 qs ls ts->ls.Nodup->ls.Pairwise (λa b=>aV b a=gi)->ls\5<=5000->ts\5<=250->(∀k>ts\2,eD ls k)->(∀l H' (ss:ZG),ah H H'->H l=fD->H' l>=.lst (ss\0)->aP H' ss->bx (bj qs) (ts\2) (ss\2)->ss\5<=250->Q (.ref l) H')->yi mg vs H Q E0
def we:↥4 22 (yi mg):=by
 .exists 22,"ground names",as,n,%[g,c2,N,O,qs,ls,ts,rfl,hg,nd,so,U,aR,Y|kk];let tm:(ts\0)\5=ts\5:=Z6 _;show%[_,%["JDu1abG~tA0BEI'~/A[~:AiZ?1V~G]v0fNW0?2NW1?2NW2?2gpkAhK30AhK31A2BBB",D0.nd,↑(↑"later earlier source names",[(3,1)]),↑["later","earlier","source","names"]|n]|?_]
  change aZ _ _ _ [!g,fD] H;show am λD1 k1 _=>?_
  lk;show%[g,c2,N,O,qs,ls,ts,ρ,hg,nd,so,U|λd H1 r s1 fd hd n=>k1 ?_];lk;show aD λaq hK=>?_
  lk;let u:=hg.up s1;show om u (.inr (.inr rfl)) %[g,c2,N,O,qs,ls,ts,rfl,u|λl1 ab=>%[%[_|Qb.of aa]|hK λF hF=>?_]];let J:=ah.Qa (o:= .lst (ts\0)) ab;let v:Qa H1 l1 (.lst (ts\0)) l1=_:=aa
  generalize Qa H1 l1 _=H2 at J v hF
  let ac:=J _ _ hd;let ae:=(u.up J).tu;show dL (λj vs σ L=>A4 (E3 λo1 o2 o3=>σ=[o1,o2,o3,!d]) (ah H2 L) (L F<*vs) (∃ps:ZG,A3 (vs=ps\0) (aP L ps) (ps\2=((ts.take j)\2).map (dW r))))
   %[%[fD,fD,fD|rfl],ah.Qa hF,aa,[],rfl,ko _|rfl] (λ_ _ _ L ag=>ag.2 _ _ v) ?_ ?_
  .intro j vs σ H4 hj %[%[o1,o2,o3|rfl],B,C,ps,M,i|c];let tj:=Yb hj;let%[a,b,z,e,ha|hb]:=Y _ (Xr %[_,tj|rfl]);let st:=B _ _ (ae _ tj).2;rw[e]at st;let get:∀y>ls,cZ H4 d (.str y) (fI (.str (r y))):=λy hy=>by
    let:=cZ.k (k:=hX y) (B _ _ ac);rw[iJ hy]at this;show this
   show%[_,SqT.of st,ρ,_,_,ρ,_,_,ρ,_,_,ρ,ρ|?_];change BR [-a,-b,-z,!d] _ _;lk;show%[_,get a ha,_,get b hb,#[3]|λp hp=>?_];let sp:=ah.Qa (o:= .tup [V.str (r a),V.str (r b),V.str z]) hp;let gp:Qa H4 p (.tup [V.str (r a),V.str (r b),V.str z]) p=_:=aa
   generalize Qa H4 p _=H5 at sp gp ⊢
   let keep:=e7 (ys:=vs++[V.ref p]) (sp _ _ C);let pl:=nY L3 c;rw[Z6,Z6,Z6,Yj]at pl;show CK.mk hj (sp _ _ C) (by rw[M,Z6];show aF !_) %[%[_,_,_|rfl],ah.set (B.trans sp) hF,aa,ps++[(p,[r a,r b,z])],by rw[M,Zd];rfl,bg (kJ (bg i λb z e=>sp _ _ e) ∅ gp) keep|?_];rw[Zd,c,Xc,Z4 hj,Zd,Zd];change _++[_]=_++[dW r ts[j].2];rw[e];rfl
  intro vs σ H3 %[_,B,ai,ps,M,i|c];rw[Zn (Zi _)]at c;let pl:=nY L3 c;rw[Z6,Z6,Z6]at pl;let p3:∀q>ps,q.2\5=3:=λq l=>by
   let:q.2>ps\2:=Xr %[q,l|rfl];rw[c]at this;let%[k,hk|e]:=Xq this;let%[a,b,z,rfl|_]:=Y k hk;rw[<-e];rfl
  show%[ps,by rw[<-M];show Qb.of ai,i,%[ps\2,by rw[Z6];lia|λq l=>Xr %[q,l|ρ]]|λl5 aj=>?_];let s5:=ah.Qa (o:=qR P w l5 (bR ps)) aj;let al:(bR ps)\5<=250:=by
   let:=_ST.nodup_sub (eY ps) (m:=ps\2) λk hk=>by
    let%[q,l|rfl]:=Xq hk;show Xr %[q,bI ps q l|rfl]
   rw[Z6,Z6]at this
   lia
  show%[bR ps,aa,λq l=>%[(i q (bI ps q l)).1|s5 _ _ (i q (bI ps q l)).2],3,λq l=>p3 q (bI ps q l),!1,!_|λl6 ss G pm=>?_];let s6:=ah.Qa (o:= .lst (ss\0)) G;let I:=s1.trans (J.trans (B.trans s5));let pk:(ss\2).Perm ((bR ps)\2):=pm.map _;show kk l6 _ ss (I.trans s6) (I.free G) aa (λq l=>?_) %[pk.nodup_iff.mpr (eY ps)|λk=>?_] (by rw[pm.length_eq];show al)
  .let an:=pm.mem_iff.mp l;let:=i q (bI ps q an);show%[this.1|s6 _ _ (s5 _ _ this.2)]
  .rw[pk.mem_iff,jq,c];show rS Y (λz hz=>(n z hz).2) k
def FC{S:jz->jz->Prop}(c:ls.Pairwise (λa b=>aV b a=gi))(h:∀z>ls,r z>ls/\cN S z (r z))(f:p>grp r ls):p.2[0]?>=p.1:=by
 unfold grp at f;let%[z,i|rfl]:=Xq f;let%[j|l]:=kw.mp i;let d:z>ls.filter (λx=>decide (r x=z)):=kw.mpr %[j|l];let c:=c.sublist (Rw (p:=λx=>decide (r x=z)));let all:∀x>ls.filter (λx=>decide (r x=z)),aV x z=gi:=λx m=>by
  let%[n|o]:=kw.mp m;rw[<-Zo o];show(h x n).2.2 x (.refl _)
 change(ls.filter λx=>decide (r x=z))[0]?>=z
 generalize ls.filter (λx=>decide (r x=z))=g at all d c
 cases g with
 | nil=>cases d
 | cons y g=>
   rw[Ql];rcases Yu.mp d with e|e
   .rw[e]
   .let a:=(Sv.mp c).1 z e;by_cases q:y=z
    .rw[q]
    .let:=dZ (all y Zm) q;rw[a]at this;cases this
structure yj (S:jz->jz->Prop) (ls ns:ZB):Prop where
 nd:ns.Nodup
 mem:∀x,x>ns↔x>ls/\cN S x x
 so:ns.Pairwise (λa b=>aV b a=gi)
 ne:ls≠[]->ns≠[]
def KN{S:jz->jz->Prop}{ls:ZB}{r:jz->jz}(b:∀z>ls,r z>ls/\cN S z (r z))(h:ls≠[]):(grp r ls)\1≠[]:=by
 let%[z|e]:=Og _ h;let%[c|a]:=b z e;let f:cN S (r z) (r z):=%[a.1.symm.trans a.1|λy d=>a.2 y (a.1.trans d)]
 show U7 (kL.mpr %[c|(b _ c).2.one f])
def KO{r:jz->jz}{xs:ZB}(h:xs.Pairwise (λa b=>aV b a=gi)):((grp r xs)\1).Pairwise (λa b=>aV b a=gi):=by
 unfold grp;rw[Yp];change Pb _ (Rf (λz=>z) _);rw[fx.map_id'];show h.filter _
inductive uI (mg:ZC)
 | mk (g c2 c3 c4 qs ls ts):vs=[.ref g]->GrF mg H g c2 c3 c4 qs ls ts->ls.Nodup->ls.Pairwise (λa b=>aV b a=gi)->ls\5<=5000->(∀l H' ns,ah H H'->H l=fD->H' l<*ns\3->yj (bj qs) ls ns->Q (.ref l) H')->uI mg vs H Q E0
def bY:↥5 21 (uI mg):=by
 .exists 21,"ground",L,a,%[g,c2,v,y,qs,ls,ts,rfl,M,nd,e,i|N];show%[_,%["JEIiZ?1VG]wA0BW0?2pR0C",0,↑(["group"],[]),↑["group"]|a]|?_];change jU _ _ [!g] H;lk;show aD λB O=>?_
  lk;show%[g,c2,v,y,qs,ls,ts,ρ,M,nd,e,i|λl1 U ss C f1 G Y _ ⟨r,a,I⟩ ab=>%[%[_|Qb.of G]|O λF l=>?_]];let sg:ss\5=(grp r ls)\5:=by
   let:=nY L3 I;rwa[Z6,Z6]at this
  show dL (λj vs m n=>A4 (∃J,m=[J]) (ah U n) (n F<*vs) (vs=(((grp r ls).take j)\1)\3))
   %[%[fD|rfl],ah.Qa l,aa|rfl] (λ_ _ _ n o=>o.2 _ _ G) ?_ ?_
  .intro j vs m H4 p %[%[J|rfl],d,q|b];let u:j<(grp r ls)\5:=by lia
   let e2:ss[j].2=(grp r ls)[j].2:=by
    let:=nY (λz=>z[j]?) I;simpa [p,u]using this
   lk;show%[_,Qb.of (d _ _ (Y _ (Yb p))),_,(show atI (ss[j].2\3) ((0:gf):md)>=_ from bP (by rw[Zl,e2,(FC e a (Yb u))];rfl))|?_];show CK.mk p q (by rw[b,Z6,Z6,Yj];show aF !_) %[%[_|rfl],ah.set d l,aa|?_];rw[b,Xc,Z4 u,Zd,Zd];rfl
  intro vs m H3 %[_,d,c|b];rw[Zn !_]at b;rw[b]at c;show N F H3 _ (C.trans d) (C.free l) c %[ot nd,λx=>?_,KO e|KN a];rw[kL];show%[λh=>%[h.1|by let:=(a x h.1).2;rwa[h.2]at this]|λh=>%[h.1|(a x h.1).2.one h.2]]
abbrev GrB(H:Hp)(d:hW)(ss:ZG)(i:gf):Prop:=∃a,H d>=.dK a/\∀n,(∃l,bD a (hX n)>=.ref l/\H l>=.lst ((ss.filter λt=>decide (t.2[i]? =fI n))\0))\/(bD a (hX n)=fD/\∀t>ss,t.2[i]? ≠fI n)
def GrB.up(h:GrB H d ss i)(s:ah H e):GrB e d ss i:=by
 let%[c,f|g]:=h;show%[c,s _ _ f|λn=>(g n).imp_left λ⟨l,a,b⟩=>%[l,a|s _ _ b]]
abbrev dF(H:Hp)(a:ZB)(ss:ZG):Prop:=∀t>ss,H t.1&&&t.2\3/\eD a t.2
def dF.up(h:dF H b ss)(s:ah H c):dF c b ss:=λt a=>%[s _ _ (h t a).1|(h t a).2]
def KP(h:eD c k)(hi:i<2):∃n,k[i]?>=n/\n>c:=by
 let%[a,b,z,rfl,d|e]:=h
 match i,hi with
 | 0,_=>show%[a,ρ|d]
 | 1,_=>show%[b,ρ|e]
inductive rT
 | mk (l:hW) (i:gf) (ns:ZB) (ss:fx _):vs=[.ref l,.int i]->i<2->H l>=.lst (ss\0)->dF H ns ss->ss\5<=250->(∀d H',ah H H'->H d=fD->GrB H' d ss i->Q (.ref d) H')->rT vs H Q E0
inductive FD (i:gf)
 | mk (l ns ss):vs=[.ref l]->H l>=.lst (ss\0)->dF H ns ss->ss\5<=250->(∀d H',ah H H'->H d=fD->GrB H' d ss i->Q (.ref d) H')->FD i vs H Q E0
def uJ:↥1 5 rT:=by
 .exists 5,"found side groups link",ag,hr,%[l,i,ns,ss,rfl,hi,Y,ab,ai|kk];let aj:(ss\0)\5=ss\5:=Z6 _;show%[_,%["JDH2)DTV0M3EX~un~v~w2AO31AUBBA3BEI2"|D0.nd]|?_]
  change aZ _ _ _ [!l,fI (.int i),fD,fD] H;show am λD1 k1 _=>?_
  lk;intro e fe;show k1 (am λD2 k2 _=>az λae hK=>?_);lk;let se:=ah.Qa (o:= .dK []) fe;show%[%[_|Qb.of (se _ _ Y)]|hK ?_];show cL (λj σ u=>A3 (∃o3,σ=[!l,fI (.int i),!e,o3]) (ah H u) (∃m,A4 (kr (λt:hW×ZB=>V.ref t.1) H u e m) ((m\1).Nodup) (∀g>m,g.2.2=(ss.take j).filter λt=>decide (t.2[i]?>=g.1)) (∀n,n>m\1↔∃t>ss.take j,t.2[i]?>=n)))
   %[%[_|rfl],se,[],%[aa,λg B=>(nomatch B)|X2],X2,λg B=>(nomatch B)|by simp] (λj σ u h=>h.2 _ _ Y) ?_ ?_
  .intro j t σ u G %[%[o3|rfl],I,m,d,gn,J|N];let tm:=Z8 G;let j1:j<ss\5:=(Xn G).1;let%[n,L|_]:=KP (ab t tm).2 hi;let tk:ss.take (j+1)=ss.take j++[t]:=by rw[Xc,G];rfl
   change kY _ _ [!l,fI (.int i),!e,fI (.ref t.1)] u;show aB λD4 k4 _=>?_
   lk;let gl:m\5<=ss\5:=by
    let:m\1 ⊆ ss.filterMap λt=>t.2[i]? :=λy hy=>by
     let%[t,G|e]:=(N y).mp hy;show MN.mpr %[t,Yw G|e]
    let:=_ST.nodup_sub gn λx hx=>this hx
    rw[Z6]at this;show lx this (On _ _)
   let st:=I _ _ (ab t tm).1;let C:∀(M:Gs (hW×ZB)),(∀y,y>M\1↔y>m\1\/y=n)->∀y,y>M\1↔∃t>ss.take (j+1),t.2[i]?>=y:=λM h y=>by
    rw[h,N,tk]
    constructor
    .rintro(⟨t',h1,h2⟩|rfl)
     .show%[t',Ys _ h1|h2]
     .show%[t,Yt _ Zm|L]
    .rintro⟨t',h1,h2⟩;rcases Xo h1 with q|q
     .show .inl %[t',q|h2]
     .rw[Xp q,L]at h2;show .inr (Za h2).symm
   show%[tyD (d.at_),_,SqT.of st,_,bP (show(t.2\3)[i]?>=.str n by rw[Zl,L];rfl),#[0]|λp O=>%[hX n,ρ,gD m,?_,?_,λv U=>?_|λU=>?_]]
   .rw[ar (nq d.at_ O rfl)];show d.at_
   .unfold gD;rw[Z6];show aF !_
   .let%[q,r,e1|rfl]:=jC U;let sp:=ah.Qa (o:= .lst []) O;let Y:=sp _ _ (d.la q r).2;let ml:q.2.2\5<=ss\5:=by
     rw[J q r];show lx (Yg _ _) (by rw[Yj];lia)
    let ka:(sX q.1 t m)\1=m\1:=by
     unfold sX;rw[Yp];show Yn λg _=>?_
     change(if g.1=q.1 then(g.1,g.2.1,g.2.2++[t])else g).1=_
     split<;> rfl
    show%[tyL (Qb.of Y),_,Y,by rw[Z6];show aF !_|k4 %[%[_|ρ],ah.set (I.trans sp) (d.la q r).1,_,((d.up sp).add gn r t),ka▸gn,λg B=>?_|C _ λy=>?_]]
    .unfold sX at B;let%[g0,h0|rfl]:=Xq B;rw[tk,Y1];by_cases c:g0.1=q.1
     .rw[hY c];change g0.2.2++[t]=_++Oa (λt=>decide (t.2[i]?>=g0.1)) [t];rw[J g0 h0,Y3 (by rw[L,c,e1];simp),Y4]
     .rw[hH c,J g0 h0,Y2 (by rw[L,<-e1];simpa using λz=>c z.symm),Y4,Zx]
    .rw[ka];show%[.inl|λh=>h.elim id λh=>by rw[h,<-e1];show Xr %[q,r|ρ]]
   .let nk:n∉m\1:=λh=>by
     let%[q,r|c]:=Xq h;let:=ou r;rw[c,U]at this;show this rfl
    let de:e≠p:=nq d.at_ O rfl;let gp:Qa (Qa u p (.lst [])) e (.dK (cA (gD m) (hX n) (.ref p))) p<*[]:=by rw[ar de.symm,aa]
    show%[tyL (Qb.of gp),[],gp,(show 0<iv by decide)|k4 %[%[_|ρ],ah.set (ah.set (I.trans (ah.Qa O)) fe) (I.free O),_,d.new I O n t nk,?_,λg B=>?_|C _ λy=>?_]]
    .rw[Zd,Yz];show%[gn,by simp|λa ha b hb c=>nk (by rw[<-show b=n from Xp hb,<-c];show ha)]
    .rw[tk,Y1];rcases Xo B with q|q
     .let c:g.1≠n:=λc=>nk (c▸Xr %[g,q|rfl])
      rw[J g q,Y2 (by rw[L];simpa using λz=>c z.symm),Y4,Zx]
     .rw[Xp q];change [t]=_++Oa (λt=>decide (t.2[i]?>=n)) [t];rw[Y3 (by rw[L];simp),Y4,OF.mpr λt' ac c=>nk ((N n).mpr %[t',ac|Zo c])];rfl
    .rw[Zd,Yq,Yo,Vm,Yx]
  .intro σ u %[%[o3|rfl],I,m,d,gn,J|N];rw[Zn (Zi _)]at J N;show k2 ?_;lk;show kk e u I fe %[_,d.at_|λn=>?_];cases U:bD (gD m) (hX n)with
   | none=>
     show .inr %[rfl|λt G c=>?_];let%[q,r|c]:=Xq ((N n).mpr %[t,G|c]);let:=ou r;rw[c,U]at this;show this rfl
   | some v=>
     let%[q,r,e1|rfl]:=jC U;show .inl %[_,rfl|?_];rw[(d.la q r).2,J q r,e1]
def eU:↥2 3 (FD 0):=by
 .exists 3,"found",d,e,%[l,c,ss,rfl,g,a,b|i];show%[_,%["JEIG~}A0A~BB",0|e],l,0,c,ss,ρ,by simp,g,a,b|i]
def lO:↥2 4 (FD 1):=by
 .exists 4,"found",d,e,%[l,c,ss,rfl,g,a,b|i];show%[_,%["JEIG~}A0A~HB",0|e],l,1,c,ss,ρ,by simp,g,a,b|i]
structure ReB (ss:ZG) (rs:Gs jz):Prop where
 nd:(rs\1).Nodup
 sub:∀r>rs,r.2>ss/\r.2.2[1]?>=r.1
def ReB.len(h:ReB ss rs):rs\5<=ss\5:=by
 let:=_ST.nodup_sub h.nd (m:=ss.filterMap λt=>t.2[1]?) λx a=>by
  let%[r,b|rfl]:=Xq a;show MN.mpr %[r.2|h.sub r b]
 rw[Z6]at this;show lx this (On _ _)
def ReB.snoc(h:ReB ss rs)(d:(a,[p,y,z])>ss)(e:y∉rs\1):ReB ss (rs++[(y,a,[p,y,z])]):=by
 show%[?_|λr f=>?_]
 .rw[Zd,Yz];show%[h.nd,by simp|λa g b i c=>e (by rw[<-show b=y from Xp i,<-c];show g)]
 .rcases Xo f with q|q
  .show h.sub r q
  .rw[Xp q];show%[d|ρ]
abbrev dj(d:hW)(H a:Hp):Prop:=∀b o,b≠d->H b>=o->a b>=o
def dj.trans(h:dj d H c)(g:dj d c a):dj d H a:=λb o n e=>g b o n (h b o n e)
def dj.of(h:ah H a):dj d H a:=λb o _ e=>h b o e
def GrB.x(h:GrB H b ss i)(s:dj d H f)(n:b≠d)(m:H d>=.dK o):GrB f b ss i:=by
 let%[e,g|j]:=h;show%[e,s _ _ n g|λn=>(j n).imp_left λ⟨l,a,b⟩=>%[l,a|s _ _ (λc=>by lia) b]]
def dF.x(h:dF H e ss)(s:dj d H f)(g:H d>=.dK i):dF f e ss:=λt a=>%[s _ _ (λc=>by let b:=(h t a).1;grind) (h t a).1|(h t a).2]
def GrB.get(h:GrB f b ss i)(s:dj d f H)(nb:b≠d)(q:∀xs,f d≠fI (.lst xs))(r:H p=fD)(n:jz):∃e a,Qa H p (.lst []) b>=.dK e/\(bD e (hX n)).getD (.ref p)= .ref a/\Qa H p (.lst []) a>=.lst ((ss.filter λt=>decide (t.2[i]? =fI n))\0)/\(a=p\/∃o,f a>=o):=by
 let%[e,m|u]:=h;let sp:=ah.Qa (o:= .lst []) r;rcases u n with⟨l,g,j⟩|⟨g,v⟩
 .show%[e,l,sp _ _ (s _ _ nb m),by rw[g];rfl,sp _ _ (s _ _ (λc=>q _ (c▸j)) j)|.inr %[_|j]]
 .show%[e,p,sp _ _ (s _ _ nb m),by rw[g];rfl,?_|.inl rfl];rw[OF.mpr λt y c=>v t y (Zo c)];show aa
inductive AZ
 | mk (b e d:hW) (ns F:ZB) (ss:fx _) (rs:Gs jz):vs=[.ref b,.ref e,.ref d]->b≠d->GrB H b ss 0->dF H ns ss->ss\5<=250->H e<*F\3->H d>=.dK (gD rs)->ReB ss rs->(∀g H' new,dj d H H'->H g=fD->H' g<*(new\1)\3->H' d>=.dK (gD (rs++new))->ReB ss (rs++new)->(∀r>new,∃p>F,r.2.2[0]?>=p)->(∀x>F,∀y,Ed (ss\2) x y->y>(rs++new)\1)->Q (.ref g) H')->AZ vs H Q E0
def yk:↥1 8 AZ:=by
 .exists 8,"beneath edge reached further name link",a7,hr,%[b,e,d,ns,F,ss,rs,rfl,ai,hb,aj,bb,he,hd,a1|kk];let Fm:(F\3)\5=F\5:=Z6 _;let ed:e≠d:=nq he hd rfl;show%[_,%["JDH3UBDTV1M4ETV~P~a0A4AUBBM5EP^O5~H2Dx52O5~HEXon3AO5~HBQEI3",D0.nd|hr]|?_]
  change aZ _ _ _ [!b,!e,!d,fD,fD,fD] H;show am λD1 k1 _=>?_
  lk;show%[#[0]|λg fg=>k1 (am λD2 k2 _=>az λal hK=>?_)];let gd:g≠d:=nq fg hd rfl;let s1:=ah.Qa (o:= .lst []) fg;let gg:Qa H g (.lst []) g<*(([]:Gs jz)\1)\3:=aa
  generalize Qa H g _=H1 at s1 gg
  lk;show%[%[_|Qb.of (s1 _ _ he)]|hK ?_];show cL (λi U Y=>A3 (E2 λo4 o5=>U=[!b,!e,!d,!g,o4,o5]) (dj d H Y) (∃new:Gs jz,A5 (Y g<*(new\1)\3) (Y d>=.dK (gD (rs++new))) (ReB ss (rs++new)) (∀r>new,∃p>F,r.2.2[0]?>=p) (∀x>F.take i,∀y,Ed (ss\2) x y->y>(rs++new)\1)))
   %[%[_,_|rfl],dj.of s1,[],gg,by rw[Zx];show s1 _ _ hd,by rw[Zx];show a1,λr hr=>(nomatch hr)|λx hx=>(nomatch hx)] (λi U Y h=>h.2 _ _ ed he) ?_ ?_
  .intro i n U Y hn %[%[o4,o5|rfl],sm,new,hg,l,I,ae|m];let tk:F.take (i+1)=F.take i++[n]:=by rw[Xc,hn];rfl
   change yT _ _ _ _ [!b,!e,!d,!g,-n,o5] Y;show aB λD3 k3 _=>az λal hK=>?_
   lk;show%[tyD (sm _ _ ai hb.choose_spec.1),#[0]|λp hp=>?_];let%[a2,a,an,a3,J|a4]:=hb.get sm ai (λxs c=>by rw[hd]at c;cases c) hp n;let ag:a≠g:=by
    rcases a4 with rfl|⟨o,ho⟩
    .show nq hp hg rfl
    .show nq ho fg rfl
   let ad:a≠d:=λc=>by
    let:=J;rw[c,ar (λc=>by rw[c,hp]at l;cases l),l]at this;cases this
   let sp:=ah.Qa (o:= .lst []) hp;let hg:=sp _ _ hg;let l:=sp _ _ l;let sm:=sm.trans (dj.of sp)
   generalize Qa Y p _=H2 at an J sp hg l sm ⊢
   generalize aq:(ss.filter λt=>decide (t.2[0]?>=n))=ts at J
   let tm:(ts\0)\5=ts\5:=Z6 _;let a5:∀t>ts,t>ss/\∃y z,t.2=[n,y,z]:=λt ht=>by
    rw[<-aq]at ht;let%[h1|h2]:=kw.mp ht;let%[x,y,z,e|_]:=(aj t h1).2;let h2:=Zo h2;rw[e]at h2;show%[h1,y,z|by rw[e,show x=n from Za h2]]
   show%[hX n,ρ,a2,an|zZ a3 %[%[_|Qb.of J]|hK ?_]];show cL (λj U O=>A4 (∃o5,U=[!b,!e,!d,!g,-n,o5]) (dj d H O) (O a>=.lst (ts\0)) (∃new:Gs jz,A6 (O g<*(new\1)\3) (O d>=.dK (gD (rs++new))) (ReB ss (rs++new)) (∀r>new,∃p>F,r.2.2[0]?>=p) (∀x>F.take i,∀y,Ed (ss\2) x y->y>(rs++new)\1) (∀t>ts.take j,∀y,t.2[1]?>=y->y>(rs++new)\1)))
    %[%[_|rfl],sm,J,new,hg,l,I,ae,m|λt ht=>(nomatch ht)] (λj U O h=>h.3) ?_ ?_
   .intro j t U O ht %[%[o5|rfl],L,M,new,ab,G,B,C,u|ac];let%[as,y,z|et]:=a5 t (Z8 ht);let N:=(aj.x L hd t as).1;rw[et]at N;let a6:ts.take (j+1)=ts.take j++[t]:=by rw[Xc,ht];rfl
    change kO _ _ _ _ [!b,!e,!d,!g,-n,fI (.ref t.1)] O;show aB λD4 k4 _=>?_
    lk;show%[_,SqT.of N,_,ρ,_,cZ.k (k:=hX y) G|?_];let aR:∀(nw:Gs jz),(∀x>(rs++new)\1,x>(rs++nw)\1)->y>(rs++nw)\1->(∀x>F.take i,∀y,Ed (ss\2) x y->y>(rs++nw)\1)/\∀t>ts.take (j+1),∀y,t.2[1]?>=y->y>(rs++nw)\1:=λnw mono hy=>by
     show%[λx hx y h=>mono y (u x hx y h)|λt' aU y' h=>?_];rw[a6]at aU;rcases Xo aU with q|q
     .show mono y' (ac t' q y' h)
     .rw[Xp q,et]at h;rw[<-show y=y' from Za h];show hy
    cases hv:bD (gD (rs++new)) (hX y)with
    | some v=>
      rw[hH ∅];let%[q,hq,e1|_]:=jC hv;let%[n1|n2]:=aR new (λ_ h=>h) (by rw[<-e1];show Xr %[q,hq|rfl]);show k4 %[%[_|rfl],L,M,new,ab,G,B,C,n1|n2]
    | none=>
      rw[hY (by rfl)];let hy:y∉(rs++new)\1:=λh=>by
       let%[q,hq|c]:=Xq h;let:=ou hq;rw[c,hv]at this;show this rfl
      let ln:=B.len;let nl:new\5<=250:=by rw[Z9]at ln;lia
      show%[_,SqT.of N,_,ρ,_,h9.k (k:=hX y) G (by unfold gD;rw[Z6];show aF !_)|?_];rw[gE _ hv];let e1:gD (rs++new) ++[(hX y,V.ref t.1)]=gD (rs++(new++[(y,t.1,[n,y,z])])):=by
       unfold gD;rw[<-Ze,Zd (l₂:=[_])];rfl
      rw[e1];let u1:∀c o,c≠d->O c>=o->Qa O d (.dK (gD (rs++(new++[(y,t.1,[n,y,z])])))) c>=o:=λc o h e=>(ar h)▸e
      let a0:=u1 _ _ gd ab;let R:=B.snoc (p:=n) (y:=y) (z:=z) (a:=t.1) (et▸as) hy;rw[Ze]at R;let%[n1|n2]:=aR (new++[(y,t.1,[n,y,z])]) (λx hx=>by rw[<-Ze,Zd];show Ys _ hx) (by rw[<-Ze,Zd];show Yt _ Zm);show%[tyL (Qb.of a0),_,SqT.of (u1 _ _ (nq N G rfl) N),_,ρ,_,a0,by rw[Z6,Z6];show aF !_|k4 %[%[_|ρ],λc o h e=>?_,(ar ag).trans (u1 _ _ ad M),_,?_,(ar gd.symm).trans aa,R,?_,n1|n2]]
      .rw[ar (aC e fg)];show u1 _ _ h (L _ _ h e)
      .rw[aa,Zd,Zd];rfl
      .intro r hr;rcases Xo hr with q|q
       .show C r q
       .rw[Xp q];show%[n,Z8 hn|ρ]
   .intro U O %[%[o5|rfl],L,M,new,ab,G,B,C,u|ac];rw[Zn (Zi _)]at ac;show k3 %[%[_,_|rfl],L,new,ab,G,B,C|λx hx y ⟨z,hy⟩=>?_];rw[tk]at hx;rcases Xo hx with q|q
    .show u x q y %[z|hy]
    .rw[Xp q]at hy;let%[t,ht|et]:=Xq hy;show ac t (aq▸kw.mpr %[ht|by rw[et];simp]) y (by rw[et];rfl)
  .intro U Y %[%[o4,o5|rfl],sm,new,hg,l,I,ae|m];rw[Zn (Zi _)]at m;show k2 ?_;lk;show kk g Y new sm fg hg l I ae m
def uK{b:on}(h: ¬ (not b)=gb):b=gb:=by
 cases b
 .show lr rfl h
 .rfl
def oy{rs:Gs jz}{y:jz}(h:y>rs\1):∃r>rs,r.1=y/\bD (gD rs) (hX y)>=.ref r.2.1:=by
 cases b:bD (gD rs) _ with
 | none=>
   let%[q,a|c]:=Xq h;let:=ou a;rw[c,b]at this;show(this rfl).elim
 | some v=>
   let%[q,a,e|rfl]:=jC b;show%[q,a,e|ρ]
inductive FE
 | mk (d st goal ns F ss rs dd k):vs=[.ref d,.str st,.str goal]->H d>=.dK (gD rs)->ReB ss rs->Lev (ss\2) st rs dd k F->k<=300->dF H ns ss->goal>rs\1->(∀l H' (ws:fx _),ah H H'->H l=fD->H' l>=.lst (ws\0)->(∀t>ws,t>ss)->Wal (ws\2) st goal->ws\5=dd goal->Q (.ref l) H')->FE vs H Q E0
def FF:↥1 9 FE:=by
 .exists 9,"reached start goal way",ab,j,%[d,st,a,ns,F,ss,rs,i,k,rfl,hd,C,l,hk,G,n|kk];show%[_,%["JDH3UAh02BD>L,OR3<C~B1EXon3Ah0OR3<C~BBEI]x3",D0.nd|j]|?_]
  change aZ _ _ _ [!d,-st,-a,fD] H;show am λD1 k1 _=>?_
  lk;let%[r,I,e1|hv]:=oy n;let get:=cZ.k (k:=hX a) hd;rw[hv]at get;show%[_,get,#[1]|λb fw=>k1 (am λD2 k2 _=>?_)];let s1:=ah.Qa (o:= .lst [V.ref r.2.1]) fw;let gw:Qa H b (.lst [V.ref r.2.1]) b>=.lst (([]:ZG).reverse\0 ++[V.ref r.2.1]):=aa
  generalize Qa H b _=H1 at s1 gw
  show⟨λm σ u=>σ=[!d,-st,-a,!b]/\ah H u/\∃(us:ZG) (r:jz×hW×ZB),r>rs/\m=i r.1/\u b>=.lst (us.reverse\0 ++[.ref r.2.1])/\(∀t>us,t>ss)/\Wal (us\2) r.1 a/\us\5+m=i a,%[_,rfl,s1,[],r,I,rfl,gw,λt h=>(nomatch h),e1|by rw[e1];simp],?_⟩;intro m σ H2 %[rfl,v,us,r,j,rfl,hw,y,B|hl];let%[ac,p,z,J|hp]:=l.by_ r j;let e:=(C.sub r j).1;let g:=v _ _ (G _ e).1;rw[J]at g;let gl:=l.le a n;lk;show%[_,Qb.of hw,_,qf _ _,_,SqT.of g,_,ρ,ρ|br (λh=>?_) λh=>?_]
  .let h:p≠st:=↑h
   let%[_,L|ae]:=hp.resolve_left λc=>h c.1
   let%[r',M,N|O]:=oy L;let get:=cZ.k (k:=hX p) (v _ _ hd);rw[O]at get;show⟨λU u=>∃Y,Y<i r.1/\U=[!d,-st,-a,!b]/\ah H u/\∃(us:ZG) (r:jz×hW×ZB),r>rs/\Y=i r.1/\u b>=_/\(∀t>us,t>ss)/\Wal (us\2) r.1 a/\us\5+Y=i a,λ_ _ h=>h,tyL (Qb.of hw),_,Qb.of hw,_,qf _ _,_,SqT.of g,_,rfl,_,get,_,hw,by rw[Z9,Z6,UV,Yi];show aF !_,_,?_,rfl,ah.set v fw,r.2::us,r',M,rfl,?_,?_,?_,?_⟩
   .rw[N];lia
   .rw[aa,Se,Zd];rfl
   .intro t ht;rcases Yu.mp ht with q|q
    .show q▸e
    .show y t q
   .show%[r.1,z,J.trans (by rw[N])|B]
   .rw[Zr,N];lia
  .let h:p=st:=↑h
   show k2 ?_;lk;show%[_,hw|λq fq=>kk q _ (r.2::us) (v.trans (ah.Qa fq)) (v.free fq) ?_ (λt ht=>?_) %[r.1,z,J.trans (by rw[h])|B] (by rw[Zr];lia)]
   .rw[aa,fx.reverse_append,<-fx.map_reverse,fx.reverse_reverse];rfl
   .rcases Yu.mp ht with q|q
    .show q▸e
    .show y t q
inductive yo
 | mk (b st goal ns ss):vs=[.ref b,.str st,.str goal]->GrB H b ss 0->dF H ns ss->ss\5<=250->(∀H',ah H H'-> ¬ Rch (ss\2) st goal->Q .non H')->(∀l H' (ws:fx _),ah H H'->H l=fD->H' l>=.lst (ws\0)->(∀t>ws,t>ss)->Sho (ss\2) st goal (ws\2)->ws\5<=300->Q (.ref l) H')->yo vs H Q E0
abbrev Mj(H:Hp)(b d:hW)(st a:jz)(ss:ZG)(m:gf)(f:_LL.St)(c:Hp):Prop:=∃e F rs g k,f=[!b,-st,-a,!d,!e]/\ah H c/\c e<*F\3/\c d>=.dK (gD rs)/\ReB ss rs/\Lev (ss\2) st rs g k F/\k<=rs\5+1/\(F≠[]->k<=rs\5)/\m=2*(250-rs.length) +F.length.min 1
def rV:↥2 7 yo:=by
 .exists 7,"beneath start goal reached edge",an,C,%[b,st,i,ns,ss,rfl,hb,G,ab,kn|ky];show%[_,%["JDH3)DH4UA1BD>jzL:cdA4BC*^23EH4G]yA0A4A3BDP^23EI_QEIG]zA3A1A2B",D0.nd|C]|?_]
  change aZ _ _ _ [!b,-st,-i,fD,fD] H;show am λD1 k1 _=>?_
  lk;intro d fd;show k1 (am λD2 k2 _=>?_);let ac:b≠d:=by
   let%[aq,h1|_]:=hb;show nq h1 fd rfl
  let s1:=ah.Qa (o:= .dK []) fd;let B:Qa H d (.dK []) d>=.dK (gD ([]:Gs jz)):=aa
  generalize Qa H d _=H1 at s1 B
  lk;show%[#[1]|λe fe=>k2 (am λD3 k3 _=>?_)];let s2:=ah.Qa (o:= .lst [V.str st]) fe;let N:Qa H1 e (.lst [V.str st]) e<*[st]\3:=aa;let B:=s2 _ _ B;let O:=s1.trans s2
  generalize Qa H1 e _=H2 at O N B
  show%[Mj H b d st i ss,%[_,e,[st],[],_,_,ρ,O,N,B,%[X2|λ_ h=>(nomatch h)],.nil,by simp,λ_=>Zi _|ρ]|?_];intro m σ H3 %[e,F,rs,dd,k,rfl,I,N,B,J,j,hk,ae|rfl];let fm:(F\3)\5=F\5:=Z6 _;let get:=cZ.k (k:=hX i) B;let rl:=J.len;let L:i>rs\1↔(bD (gD rs) (hX i)).isSome=gb:=by
   show%[λh=>?_|λh=>?_]
   .let%[r,_,_|e]:=oy h;rw[e];rfl
   .let%[v|hv]:=Qw.mp h;let%[q,hq,c|_]:=jC hv;show c▸Xr %[q,hq|rfl]
  lk;let fin:(i∉rs\1->F=[])->D3.nx [!b,-st,-i,!d,!e] H3:=λh=>by
   show k3 (am λD4 k4 r4=>?_);lk;show%[_,get|br (λq=>?_) λq=>?_]
   .let q:i∉rs\1:=λc=>by rw[L.mp c]at q;cases q
    show r4 _ _ (kn H3 I λr=>q ?_);let%[n|hn]:=r.dst;rw[h q]at j;show j.stop hn
   .let q:i>rs\1:=L.mpr (uK q);show k4 ?_;lk;show%[d,st,i,ns,F,ss,rs,dd,k,ρ,B,J,j,!_,G.up I,q|λl H' ws s' fl hl U ag wl=>ky l H' ws (I.trans s') (I.free fl) hl U %[λk hk=>?_,ag,?_|λn hn=>?_] (by rw[wl];let:=j.le _ q;lia)]
    .let%[t,ht|rfl]:=Xq hk;show Xr %[t,U t ht|rfl]
    .rw[Z6,wl];show(j.dst q).1
    .rw[Z6,wl];show j.min q hn
  show%[_,.inl %[_,Qb.of N|ρ]|br (λh=>?_) λh=>fin λ_=>?_]
  .let h:0<F\5:=by
    rw[fm]at h;let:=Zo h
    lia
   show%[_,get|br (λq=>⟨λai H'=>∃m',m'<2*(250-rs.length) +F.length.min 1/\Mj H b d st i ss m' ai H',λ_ _ h=>h,b,e,d,ns,F,ss,rs,ρ,ac,hb.up I,G.up I,ab,N,B,J,λg H4 new sx fg hg aj u al M=>?_⟩) λq=>fin λc=>lr (L.mpr (uK q)) c];let ln:=u.len;rw[Z9]at ln;let Y:F.length.min 1=1:=V6 h;let kF:=ae λc=>by rw[c]at h;cases h
   show%[_,?_,g,new\1,rs++new,_,_,ρ,(λc o ec=>sx c o (nq ec fd rfl) (I _ _ ec)),hg,aj,u,j.step u.nd (λr C=>?_) M,?_,λnn=>?_|ρ]
   .rw[Y,Z9,Z6];cases new with
    | nil=>simp
    | cons a r=>
      rw[Zr]at ln ⊢;let:(r\5+1).min 1<=1:=SK _ _
      lia
   .let%[h1|h2]:=u.sub r (Yt _ C);let%[p,hp|h3]:=al r C;let%[x,y,z,e|_]:=(G r.2 h1).2;rw[e]at h2 h3;show%[Xr %[_,h1|ρ],p,z,hp|by rw[e,show x=p from Za h3,show y=r.1 from Za h2]]
   .rw[Z9];lia
   .cases new with
    | nil=>show lr rfl nn
    | cons a r=>rw[Z9,Zr];lia
  .cases F with
   | nil=>rfl
   | cons x F=>show lr (Zf (by rw[fm,Zr];lia)) h
abbrev VD(ls:ZB)(g:jz->V):fx (Key×V):=ls.map λz=>(hX z,g z)
def oz:∀{ls:ZB},z>ls->bD (VD ls g) (hX z)>=g z
 | x::ls,h=>by
   by_cases e:x=z
   .subst e;show du rfl
   .rw[show VD _ g=(hX x,g x)::VD ls g from rfl,cI (λq=>e (NN q))];show oz ((Yu.mp h).resolve_left λq=>e q.symm)
def qb:∀{ls:ZB},z∉ls->bD (VD ls g) (hX z)=fD
 |[],_=>rfl
 | x::ls,h=>by
   rw[Yu,Oj]at h;rw[show VD _ g=(hX x,g x)::VD ls g from rfl,cI (λq=>h.1 (NN q).symm)];show qb h.2
def FG(h:z>ls):cA (VD ls g) (hX z) v=VD ls (λx=>if x=z then v else g x):=by
 unfold cA;rw[hY (by rw[iQ,oz h];rfl)];unfold VD;rw[Yp];show Yn λx _=>?_
 change(if(hX x)=hX z then((hX x),v)else(hX x,g x))=(hX x,if x=z then v else g x)
 by_cases e:x=z
 .rw[hY (nY _ e),hY e]
 .rw[hH (λq=>e (NN q)),hH e]
abbrev cnt(ss:ZG)(L:ZB)(n:jz):gf:=ss.countP λt=>decide (t.2[0]?>=n)&&t.2[1]?.all λy=>decide (y∉L)
def Hz(ss:fx _)(n:jz):cnt ss [] n= ~~~(ss.filter λt=>decide (t.2[0]?>=n)):=by
 unfold cnt;rw[<-fx.countP_eq_length_filter]
 simp_all
def FH(h:cnt ss L m=0)(e:Ed (ss\2) m y):y>L:=by
 let%[z|a]:=e;let%[t,b|c]:=Xq a;let:=UX.mp h t b
 simp_all
def yp(c:m∉L):∀ss:ZG,cnt ss L n=cnt ss (L++[m]) n+(ss.filter λt=>decide (t.2[1]?>=m)).countP λt=>decide (t.2[0]?>=n)
 |[]=>rfl
 | t::ss=>by
   let d:=yp (n:=n) c ss;unfold cnt at d ⊢;rw[QB,QB,d];cases b:t.2[1]? with
   | none=>rw[Y2 (by rw[b];simp)];simp only[ij.all_none];lia
   | some y=>
     by_cases e:y=m
     .subst e;rw[Y3 (by rw[b];simp),QB];by_cases a:t.2[0]?>=n
      .simp[a,c];lia
      .simp[a]
     .rw[Y2 (by rw[b];simpa using e)];by_cases a:t.2[0]?>=n
      .by_cases f:y>L
       .simp[a,f]
       .simp[a,f,e];lia
      .simp[a]
abbrev wg(ks:fx ZB)(a L:ZB):Prop:=∀(i:gf) x,L[i]?>=x->∀y>a,y∉L.take i->(∀z,Ed ks y z->z>L.take i)->aV y x=gi
def KQ{H:Hp}{f L:ZB}{ss:ZG}(c:dF H f ss){y:jz}(h:∀z,Ed (ss\2) y z->z>L):cnt ss L y=0:=by
 show UX.mpr λt d q=>?_
 let%[_,a,b,z,e|_]:=c t d;rw[e]at q;simp only[Zv]at q;let g:=Za (Zo q.1);show Zo q.2 (h b %[z|by rw[<-g,<-e];show Xr %[t,d|rfl]])
structure Mm (ss:ZG) (ns L R:ZB):Prop where
 nd:(L++R).Nodup
 mem:∀x,x>L++R↔x>ns/\cnt ss L x=0
 ord:∀(i:gf) x,L[i]?>=x->∀y,Ed (ss\2) x y->y>L.take i
 lst:wg (ss\2) ns L
abbrev Mo(f:Hp)(l m b a w e ld:hW)(d:ZB)(ss:ZG)(k:gf)(g:_LL.St)(c:Hp):Prop:=∃(h i j:ij V) (L R:ZB),g=[!l,!m,!b,!a,!w,h,!e,!ld,i,j]/\ah f c/\c w>=.dK (VD d λn=> .int (cnt ss L n))/\c e<*R\3/\c ld<*L\3/\Mm ss d L R/\k=d\5-L.length
inductive A2
 | mk (l m:hW) (ns:ZB) (ss:ZG):vs=[.ref l,.ref m]->H l<*ns\3->ns.Nodup->ns\5<=63->H m>=.lst (ss\0)->dF H ns ss->ss\5<=250->(∀r H' (L:ZB),ah H H'->H' r<*L\3->L.Nodup->(∀x>L,x>ns)->(∀(i:gf) x,L[i]?>=x->∀y,Ed (ss\2) x y->y>L.take i)->(∀x>ns,x∉L->∃y,Ed (ss\2) x y/\y>ns/\y∉L)->wg (ss\2) ns L->H r=fD->Q (.ref r) H')->A2 vs H Q E0
def eF:↥3 6 A2:=by
 .exists 6,"names found beneath above waits name ready laid least link",cy,hr,%[l,m,d,ss,rfl,hl,nn,nl,hm,ab,bn|kk];let nm:(d\3)\5=d\5:=Z6 _;show%[_,%["JDH2G~xA1BDH3G]!A1BDu4ab)DTV0M5ExcdA~P~a2A5AUBBBK45D~D6baZ?1V0W0?2!LthK10C0DH7UBD>L:cdA6BCDH8~S]$A6BDX]%]&6A8BDXon7A8BETV~P~a3A8AUBBM9DxF|hK4O9~BCK4O9~BEPLthK4O9~BCEXon6AO9~BBQEI7",D0.nd,↑(↑"name waits",[(1,4)]),↑["name","waits"]|hr]|?_]
  change aZ _ _ _ [!l,!m,fD,fD,fD,fD,fD,fD,fD,fD] H;show am λD1 k1 _=>?_
  lk;show%[m,d,ss,ρ,hm,ab,bn|λb H1 s1 fb hb=>k1 (am λD2 k2 _=>?_)];lk;show%[m,d,ss,ρ,s1 _ _ hm,ab.up s1,bn|λa H2 s2 fa ha=>k2 (am λD3 k3 _=>?_)];let N:=s1.trans s2;let hb:=hb.up s2;lk;intro w fw;show k3 (am λD4 k4 _=>az λa1 hK=>?_);let s3:=ah.Qa (o:= .dK []) fw;let gw:Qa H2 w (.dK []) w>=.dK (VD (d.take 0) λn=> .int (cnt ss [] n)):=aa
  generalize Qa H2 w _=H3 at s3 gw
  let b7:=N.trans s3;lk;show%[%[_|Qb.of (b7 _ _ hl)]|hK ?_];let b9:b≠w:=by
   let%[ac,h1|_]:=hb;show nq h1 fw rfl
  let ca:a≠w:=by
   let%[ac,h1|_]:=ha;show nq h1 fw rfl
  let bp:∀xs,H2 w≠fI (.lst xs):=λxs c=>by rw[fw]at c;cases c
  show cL (λi M u=>A3 (∃o5,M=[!l,!m,!b,!a,!w,o5,fD,fD,fD,fD]) (ah H2 u) (u w>=.dK (VD (d.take i) λn=> .int (cnt ss [] n))))
   %[%[_|rfl],s3|gw] (λi M u h=>h.2 _ _ (N _ _ hl)) ?_ ?_
  .intro i n M u hn %[%[o5|rfl],sm|hw];let i1:i<d\5:=(Xn hn).1;change tM _ _ _ _ [!l,!m,!b,!a,!w,-n,fD,fD,fD,fD] u;show aB λD5 k5 _=>?_
   lk;show%[tyD (sm _ _ hb.choose_spec.1),#[0]|λp hp=>?_];let%[ac,al,cd,ag,O|bt]:=hb.get (dj.of sm) b9 bp hp n;let sp:=ah.Qa (o:= .lst []) hp;show%[hX n,ρ,ac,cd,_,by rw[ag];show .inl %[_,Qb.of O|ρ],_,h9.k (k:=hX n) (sp _ _ hw) (by unfold VD;rw[Z6,Yj];show aF !_)|k5 %[%[_|ρ],ah.set (sm.trans sp) fw|?_]];let zn:n∉d.take i:=λhm=>by
    let h:=nn;rw[<-Xd i d,Yz]at h;show h.2.2 n hm n (Z8 (i:=0) (by rw[Pu];show hn)) rfl
   rw[aa,gE _ (qb zn),Z6,<-Hz,Xc,hn];unfold VD;rw[Zd];rfl
  .intro M u %[%[o5|rfl],sm|hw];rw[Zn (Zi _)]at hw;show k4 (am λD5 k5 _=>aD λa1 hK=>?_);lk;let bU:=sm _ _ (N _ _ hl);show%[%[_|Qb.of bU]|hK λG ai=>?_];show dL (λj vs M H3=>A4 (∃o1,M=[o1,!w]) (ah u H3) (H3 G<*vs) (vs=((d.take j).filter λn=>decide (cnt ss [] n=0))\3))
    %[%[fD|rfl],ah.Qa ai,aa|rfl] (λ_ _ _ H3 ce=>ce.2 _ _ bU) ?_ ?_
   .intro j vs M H4 hj %[%[o1|rfl],I,b0|hv];let get:=cZ.k (k:=hX d[j]) (I _ _ hw);rw[oz (Yb hj)]at get;lk;show%[_,get,ρ|br (λh=>?_) λh=>?_]
    .let h:cnt ss [] d[j]=0:=↑h
     show CK.mk hj b0 (by rw[hv,Z6];let:=Yg (λn=>decide (cnt ss [] n=0)) (d.take j);rw[Yj]at this;show aF !_) %[%[_|rfl],ah.set I ai,aa|?_];rw[hv,Xc,Z4 hj,Y1,Zd];change _=_++(Oa _ [d[j]])\3;rw[Y3 ↑h];rfl
    .let h:cnt ss [] d[j]≠0:=↑h
     show CN.mk hj %[%[_|rfl],I,b0|?_];rw[hv,Xc,Z4 hj,Y1,Zd];change _=_++(Oa _ [d[j]])\3;rw[Y2 ↑h];simp
   intro vs M H3 %[_,I,aj|hv];rw[Zn (Zi _)]at hv;rw[hv]at aj;show k5 (am λD6 k6 _=>?_);let U:=I _ _ hw;let a3:=sm.trans I;let a4:w≠G:=nq hw ai rfl;let a5:=sm.free ai;lk;show%[#[0]|λld fld=>k6 (am λD7 k7 _=>?_)];let s4:=ah.Qa (o:= .lst []) fld;let a6:Qa H3 ld (.lst []) ld<*([]:ZB)\3:=aa;let b1:w≠ld:=nq U fld rfl;let a7:G≠ld:=nq aj fld rfl;let bb:=s4 _ _ U;let bc:=s4 _ _ aj;let bd:=a3.trans s4;let fld:=a3.free fld
   generalize Qa H3 ld _=H4 at s4 a6 bb bc bd
   show%[Mo H2 l m b a w G ld d ss,%[_,o5,fD,fD,[],_,ρ,bd,bb,bc,a6,%[nn.filter _,λx=>by simp,λi x e=>by simp at e|λi x e=>by simp at e]|ρ]|?_];clear bd bb bc a6 aj U hw hv I a3 sm;intro k M H5 %[o5,o8,o9,L,R,rfl,sm,hw,hR,hL,r|rfl];let Rm:(R\3)\5=R\5:=Z6 _;let cM:L\5+R\5<=d\5:=by
    rw[<-Z9];show _ST.nodup_sub r.nd λx hx=>((r.mem x).mp hx).1
   lk;show%[R\5,.inl %[_,Qb.of hR|Rm.symm]|br (λh=>?_) λh=>?_]
   .let h:0<R\5:=by let:=Zo h;lia
    show⟨λch u=>∃m',m'<d\5-L.length/\Mo H2 l m b a w G ld d ss m' ch u,λ_ _ h=>h,R,Qb.of hR,h,λx hx cl=>%[tyL (Qb.of hR),R,hR,hx|λR1 pm=>?_]⟩;let u1:=ah.set (o:= .lst (R1\3)) sm a5;let bf:Qa H5 G (.lst (R1\3)) G=_:=aa;let bl:Qa H5 G (.lst (R1\3)) w=_:=(ar a4).trans hw;let an:Qa H5 G (.lst (R1\3)) ld=_:=(ar a7.symm).trans hL
    generalize Qa H5 G _=H6 at u1 bf bl an ⊢
    show%[tyL (Qb.of an),_,an,by rw[Z6];show aF !_|aB λc0 co _=>az λa1 hK=>?_];let u2:=ah.set (o:= .lst (L\3++[.str x])) u1 fld;let aq:Qa H6 ld (.lst (L\3++[.str x])) ld<*(L++[x])\3:=by rw[aa,Zd];rfl
    let as:Qa H6 ld (.lst (L\3++[.str x])) w=_:=(ar b1).trans bl;let aR:Qa H6 ld (.lst (L\3++[.str x])) G=_:=(ar a7).trans bf
    generalize Qa H6 ld _=H7 at u2 aq as aR ⊢
    lk;show%[tyD (u2 _ _ ha.choose_spec.1),#[0]|λp hp=>?_];let%[ac,al,ag,cp,O|bt]:=ha.get (dj.of u2) ca bp hp x;let bm:∀{c:hW} {o:HO},H7 c>=o->H2 c=fD->al≠c:=λ{c o} h1 h2=>by
     rcases bt with rfl|⟨o',ho⟩
     .show nq hp h1 rfl
     .show nq ho h2 rfl
    let cs:=bm as fw;let ct:=bm aR a5;let all:=bm aq fld;let sp:=ah.Qa (o:= .lst []) hp;let U:=sp _ _ as;let b2:=sp _ _ aR;let b3:=sp _ _ aq;let u3:=u2.trans sp
    generalize Qa H7 p _=H8 at ag O U b2 b3 u3 ⊢
    clear u1 u2 as aR aq bl bf an hp sp
    generalize b4:(ss.filter λt=>decide (t.2[1]?>=x))=ts at O
    let tm:(ts\0)\5=ts\5:=Z6 _;let xL:x∉L:=λc=>(Yz.mp r.nd).2.2 x c x hx rfl
    let pr:(L++[x] ++R1).Perm (L++R):=by
     rw[Ze];show pm.append_left L
    let f0:∀n,cnt ss L n=cnt ss (L++[x]) n+(ts.drop 0).countP λt=>decide (t.2[0]?>=n):=λn=>by rw[Tq,<-b4];show yp xL ss
    let cv:∀t>ts,∃n z,t.2=[n,x,z]/\n>d/\H t.1&&&[n,x,z]\3:=λt ht=>by
     rw[<-b4]at ht;let%[h1|h2]:=kw.mp ht;let%[h3,n,y,z,e,hn|_]:=ab t h1;let h2:=Zo h2;rw[e]at h2 h3;obtain rfl:y=x:=Za h2;show%[n,z,e,hn|h3]
    show%[hX x,ρ,ac,ag|zZ cp %[%[_|Qb.of O]|hK ?_]];show cL (λj M u=>A6 (∃o9,M=[!l,!m,!b,!a,!w,o5,!G,!ld,-x,o9]) (ah H2 u) (u al>=.lst (ts\0)) (u w>=.dK (VD d λn=> .int ((cnt ss (L++[x]) n+(ts.drop j).countP λt=>decide (t.2[0]? =fI n):gf):md))) (u ld<*(L++[x])\3) (∃Rj:ZB,A3 (u G<*Rj\3) ((L++[x] ++Rj).Nodup) (∀y,y>L++[x] ++Rj↔y>d/\cnt ss (L++[x]) y+((ts.drop j).countP λt=>decide (t.2[0]?>=y))=0)))
     %[%[_|rfl],u3,O,by rw[U];show nY (λg=>fI (HO.dK (VD d g))) (funext λn=>by rw[f0 n]),b3,R1,b2,pr.nodup_iff.mpr r.nd|λy=>by rw[<-f0,pr.mem_iff];show r.mem y] (λj M u h=>h.3) ?_ ?_
    .intro j t M u ht %[%[o9|rfl],aU,B,J,Y,Rj,C,rn|rz];let jl:=(Xn ht).1;let%[n,z,et,hn|v]:=cv t (Z8 ht);let v:=aU _ _ (N _ _ v);let dr:ts.drop j=t::ts.drop (j+1):=by rw[Oh jl,(Xn ht).2]
     rw[dr]at J rz;let get:=cZ.k (k:=hX n) J;rw[oz hn]at get;let tw:t.1≠w:=nq v J rfl;let c1:=(Yz.mp rn)
     let rl:Rj\5<=d\5:=by
      let:=_ST.nodup_sub rn λy hy=>((rz y).mp hy).1
      rw[Z9]at this
      lia
     change aZ _ _ _ [!l,!m,!b,!a,!w,o5,!G,!ld,-x,fI (.ref t.1)] u;show am λc2 cx _=>?_
     lk;let one:∀y,(t::ts.drop (j+1)).countP (λt=>decide (t.2[0]?>=y))=((ts.drop (j+1)).countP λt=>decide (t.2[0]?>=y)) +if y=n then 1 else 0:=λy=>by
      rw[QB,et];by_cases c:y=n
      .rw[hY c,hY (by rw[c];simp)]
      .rw[hH c,hH (by simpa using λq=>c q.symm)]
     show%[_,SqT.of v,_,ρ,_,get,_,SqT.of v,_,ρ,_,h9.k (k:=hX n) J (by unfold VD;rw[Z6];show aF !_)|cx (aB λc3 b5 _=>?_)];rw[FG hn];let e1:(λy=>if y=n then V.int (((cnt ss (L++[x]) n+(t::ts.drop (j+1)).countP λt=>decide (t.2[0]?>=n):gf):md) -1)else V.int ((cnt ss (L++[x]) y+(t::ts.drop (j+1)).countP λt=>decide (t.2[0]?>=y):gf):md))=λy=>V.int ((cnt ss (L++[x]) y+(ts.drop (j+1)).countP λt=>decide (t.2[0]?>=y):gf):md):=funext λy=>by
      rw[one,one];by_cases c:y=n
      .rw[hY c,c,hY rfl]
       congr 1
       lia
      .rw[hH c,hH c];rfl
     rw[e1];let v1:=ah.set (o:= .dK (VD d λy=>V.int ((cnt ss (L++[x]) y+(ts.drop (j+1)).countP λt=>decide (t.2[0]?>=y):gf):md))) aU fw;let a0:Qa u w (.dK (VD d λy=>V.int ((cnt ss (L++[x]) y+(ts.drop (j+1)).countP λt=>decide (t.2[0]?>=y):gf):md))) w=_:=aa;let ae:∀c o,c≠w->u c>=o->Qa u w (.dK (VD d λy=>V.int ((cnt ss (L++[x]) y+(ts.drop (j+1)).countP λt=>decide (t.2[0]?>=y):gf):md))) c>=o:=λc o h e=>by rw[ar h];show e
     generalize Qa u w _=H9 at v1 a0 ae
     let v:=ae _ _ tw v;let B:=ae _ _ cs B;let Y:=ae _ _ b1.symm Y;let C:=ae _ _ a4.symm C;let get:=cZ.k (k:=hX n) a0;rw[oz hn]at get;let b6:n∉L++[x] ++Rj:=λc=>by
      let:=((rz n).mp c).2;rw[one,hY rfl]at this
      lia
     let a2:∀y,y≠n->(y>L++[x] ++Rj↔y>d/\cnt ss (L++[x]) y+((ts.drop (j+1)).countP λt=>decide (t.2[0]?>=y))=0):=λy c=>by
      rw[rz y,one,hH c];rfl
     lk;show%[_,SqT.of v,_,ρ,_,get,ρ|br (λh=>?_) λh=>?_]
     .let h:cnt ss (L++[x]) n+((ts.drop (j+1)).countP λt=>decide (t.2[0]?>=n))=0:=by
       let:=V.int.inj (Zo h)
       lia
      let tr:t.1≠G:=nq v C rfl;show%[tyL (Qb.of C),_,SqT.of v,_,ρ,_,C,by rw[Z6];show aF !_|b5 %[%[_|ρ],ah.set v1 a5,(ar ct).trans B,(ar a4).trans a0,(ar a7.symm).trans Y,Rj++[n],by rw[aa,Zd];rfl,?_|λy=>?_]]
      .rw[<-Ze,Yz];show%[rn,by simp|λa ha b hb c=>b6 (by rw[<-Xp hb,<-c];show ha)]
      .rw[<-Ze,Yq,Yx];by_cases c:y=n
       .rw[c];show%[λ_=>%[hn|h]|λ_=> .inr rfl]
       .rw[<-a2 y c];show%[λq=>q.resolve_right c|.inl]
     .show b5 %[%[_|rfl],v1,B,a0,Y,Rj,C,rn|λy=>?_];by_cases c:y=n
      .rw[c];show%[λq=>lr q b6|λq=>lr (Zf (nY (λi:gf=>V.int i) q.2)) h]
      .show a2 y c
    .intro M u %[%[o9|rfl],aU,B,J,Y,Rj,C,rn|rz];rw[fx.drop_length]at J rz;show co %[_,?_,o5,_,o9,L++[x],Rj,rfl,aU,J,C,Y,%[rn,rz,λi y hi y' e=>?_|λi y hi z hz nz e=>?_]|rfl]
     .rw[Z9,Yi]
      lia
     .by_cases il:i<L\5
      .rw[Y7 il]at hi;rw[Xe (Yd il)];show r.ord i y hi y' e
      .let ie:i=L\5:=by
        let:=(Xn hi).1;rw[Z9,Yi]at this
        lia
       subst ie;rw[Y8 (Zi _),Xb,Ql]at hi;obtain rfl:=Za hi;rw[Xe (Zi _),RR];show FH ((r.mem x).mp (Yt _ hx)).2 e
     .by_cases il:i<L\5
      .rw[Y7 il]at hi;rw[Xe (Yd il)]at nz e;show r.lst i y hi z hz nz e
      .let ie:i=L\5:=by
        let:=(Xn hi).1;rw[Z9,Yi]at this
        lia
       subst ie;rw[Y8 (Zi _),Xb,Ql]at hi;obtain rfl:=Za hi;rw[Xe (Zi _),RR]at nz e;show cl z ((Xo ((r.mem z).mpr %[hz|KQ ab e])).resolve_left nz)
   .show k7 ?_;lk;let R0:R=[]:=by
     cases R with
     | nil=>rfl
     | cons x R=>show lr (Zf (by rw[Zr];lia)) h
    subst R0;let mem:=r.mem;let nd:=r.nd;rw[Zx]at mem nd;show kk ld H5 L (N.trans sm) hL nd (λx hx=>((mem x).mp hx).1) r.ord (λx hx nx=>?_) r.lst (N.free fld);let:cnt ss L x≠0:=λc=>nx ((mem x).mpr %[hx|c])
    let%[t,ht|q]:=fx.countP_pos_iff.mp (PR this);let%[a,b,z,e,_|hb]:=(ab t ht).2;rw[e]at q;simp only[Zv]at q;let q1:a=x:=Za (Zo q.1);show%[b,%[z|by rw[<-q1,<-e];show Xr %[t,ht|ρ]],hb|Zo q.2]
inductive yq
 | mk (l m ns ss):vs=[.ref l,.ref m]->H l<*ns\3->ns.Nodup->ns\5<=63->H m>=.lst (ss\0)->dF H ns ss->ss\5<=250->(∀r H' (us:ZB),ah H H'->H' r<*us\3->(∀x>ns,Rch (ss\2) x x->x>us)->Q (.ref r) H')->yq vs H Q E0
structure rW (H:Hp) (ks:fx ZB) (ss:ZG) (r:hW) (ws:ZG) (x:jz):Prop where
 at_:H r>=.lst (ws\0)
 sub:∀t>ws,t>ss
 sho:Sho ks x x (ws\2)
 len:ws\5<=300
def rW.up(h:rW H ks ss r ws x)(s:ah H a):rW a ks ss r ws x:=%[s _ _ h.at_,h.sub,h.sho|h.len]
inductive yv
 | mk (l m ns ss):vs=[.ref l,.ref m]->H l<*ns\3->ns.Nodup->ns\5<=63->H m>=.lst (ss\0)->dF H ns ss->ss\5<=250->(∀H',ah H H'->(∀x,¬ Rch (ss\2) x x)->Q .non H')->(∀r H' ws x,ah H H'->H r=fD->rW H' (ss\2) ss r ws x->(∀y n,Dst (ss\2) y (n+1) y->ws\5<=n+1)->Q (.ref r) H')->yv vs H Q E0
def wj:↥4 35 yq:=by
 .exists 35,"names found",C,G,%[l,m,a,ss,rfl,n,I,nl,J,g,i|M];show%[_,%["JEI'~YAF]'[~KA0B[~KAG~yA0A1BBB",0|G]|?_];change jU _ _ [!l,!m] H;lk;show%[a,Qb.of n,!_|λp N=>?_];let b:=ah.Qa (o:=jk w p (aL a)) N;let y:Qa H p (jk w p (aL a)) p=_:=aa
  generalize Qa H p _=H1 at b y ⊢
  show%[l,m,a,ss,ρ,b _ _ n,I,nl,b _ _ J,g.up b,i|λr H2 L z O U Y j _ _ _=>?_];let Ll:=_ST.nodup_sub U Y;show%[L,Qb.of O,!_|λq fq=>?_];let B:=ah.Qa (o:=jk w q (aL L)) fq;let fl:=_ST.nodup_sub (cu a) λx d=>bo.mp d
  show%[_,(B _ _ (z _ _ y)),_,aa,!_|λu ms fu e mn=>%[ms,aa,?_|λv us fv pu _=>?_]]
  .let:=_ST.nodup_sub mn λx d=>bo.mp ((e x).mp d).1
   lia
  .show M v _ us (b.trans (z.trans (B.trans ((ah.Qa fu).trans (ah.Qa fv))))) aa λx d rx=>?_
   rw[pu.mem_iff,e];show%[bo.mpr d|λc=>Hk j (bo.mp c) rx]
def yw{d:ZB}{ss:ZG}(h:∀t>ss,eD d t.2){x y:jz}(r:Rch (ss\2) x y):x>d:=by
 induction r with
 | one e=>
   let%[z|g]:=e;let%[t,i|f]:=Xq g;let%[a,b,c,e,j|_]:=h t i;rw[e]at f;show((Oc f).1)▸j
 | more _ _ l=>show l
def fH:↥5 34 yv:=by
 .exists 34,"names found beneath shortest name way",ag,hr,%[l,m,O,ss,rfl,hl,nn,nl,hm,c,z,kn|ky];show%[_,%["JDH2G~xA1BDH3_DTVG](A0A1BM4DH5G])A2A4A4BEPjzL~Q5_*j%L]*3_(L~CcdA5BcdA3BEH35QEI3",D0.nd|hr]|?_]
  change aZ _ _ _ [!l,!m,fD,fD,fD,fD] H;show am λD1 k1 _=>?_
  lk;show%[m,O,ss,ρ,hm,c,z|λb H1 U fb hb=>k1 (am λD2 k2 _=>?_)];lk;show k2 (am λD3 k3 _=>az λae hK=>?_);lk;show%[l,m,O,ss,ρ,U _ _ hl,nn,nl,U _ _ hm,c.up U,z|λr H2 us s2 G I=>%[%[_|Qb.of G]|hK ?_]];let g:=U.trans s2;show cL (λi Y o=>(E3 λv o4 o5=>Y=[!l,!m,!b,fI v,o4,o5]/\((v= .non/\∀x>us.take i,¬ Rch (ss\2) x x)\/∃q ws x,v= .ref q/\H q=fD/\rW o (ss\2) ss q ws x/\∀y>us.take i,∀n,Dst (ss\2) y (n+1) y->ws\5<=n+1))/\ah H2 o)
   %[%[_,_,_,rfl|.inl %[rfl|λx hx=>(nomatch hx)]]|λ_ _ e=>e] (λi Y o h=>h.2 _ _ G) ?_ ?_
  .intro i n Y o hn %[%[v,o4,o5,rfl|J]|j];let tk:us.take (i+1)=us.take i++[n]:=by rw[Xc,hn];rfl
   change aZ _ _ _ [!l,!m,!b,fI v,-n,o5] o;show am λD4 k4 _=>?_
   lk;show%[b,n,n,O,ss,ρ,hb.up (s2.trans j),c.up (g.trans j),z,λH3 B nr=>k4 (aB λD5 k5 _=>?_)|λq H3 ws B L C sub rr rl=>k4 (aB λD5 k5 _=>?_)]
   .lk;rw[hH ∅];show k5 %[%[v,_,_,rfl|J.imp (λh=>%[h.1|λx hx=>?_]) λ⟨q,ws,x,e,L,C,p⟩=>%[q,ws,x,e,L,C.up B|λy a m d=>?_]]|j.trans B]
    .rw[tk]at hx;rcases Xo hx with h'|h'
     .show h.2 x h'
     .rw[Xp h'];show nr
    .rw[tk]at a;rcases Xo a with h'|h'
     .show p y h' m d
     .rw[Xp h']at d;show(nr d.rch).elim
   .lk;rw[hY ∅];let wl:∀zs:ZG,(zs\0)\5=zs\5:=λzs=>Z6 _
    let u:=λm d=>by
     let:=rr.min m d;rwa[Z6]at this
    let put:(∀y>us.take i,∀m,Dst (ss\2) y (m+1) y->ws\5<=m+1)->D5.nx [!l,!m,!b,!q,-n,!q] H3:=λp=>k5 ⟨%[_,_,_,rfl|.inr ⟨q,ws,n,rfl,(g.trans j).free L,%[C,sub,rr|rl],λy a m d=>by
     rw[tk]at a;rcases Xo a with h'|h'
     .show p y h' m d
     .rw[Xp h']at d;show u m d⟩],j.trans B⟩
    rcases J with⟨rfl,ab⟩|⟨q',M,x',rfl,ac,N,p⟩
    .rw[hY ∅];show put λy a m d=>(ab y a d.rch).elim
    .rw[hH ∅];show%[_,.inl %[_,Qb.of C|(wl ws).symm],_,.inl %[_,Qb.of (B _ _ N.at_)|(wl M).symm]|br (λlt=>put λy a m d=>?_) λlt=>k5 %[%[_,_,_,ρ|.inr %[q',M,x',ρ,ac,N.up B|λy a m d=>?_]]|j.trans B]]
     .let:=p y a m d;let:=Zo lt
      lia
     .rw[tk]at a;rcases Xo a with h'|h'
      .show p y h' m d
      .rw[Xp h']at d;let:=u m d
       lia
  .intro Y o %[%[v,o4,o5,rfl|J]|j];rw[Zn (Zi _)]at J;show k3 ?_;lk;rcases J with⟨rfl,h⟩|⟨q,ws,x,rfl,L,C,p⟩
   .show kn o (g.trans j) λx rx=>h x (I x (yw (λt ht=>(c t ht).2) rx) rx) rx
   .show ky q o ws x (g.trans j) L C λy n d=>p y (I y (yw (λt ht=>(c t ht).2) d.rch) d.rch) n d
abbrev Mp(ws:ZG):Prop:=∀p>ws,p.2\5<=3/\∀z>p.2,Sml z
inductive wk (C:hW)
 | mk (a r:hW) (ws:ZG):vs=[.ref a,.ref r]->H r>=.lst (ws\0)->aP H ws->ws\5<=300->Mp ws->H a>=ExO a C fD->(∀l d,H l=fD->H d=fD->d≠l->Q .non (Qa (Qa (Qa H l (.lst (ws\0))) a (ExO a C (fI d))) d (.xd [("ring",.ref l)])))->wk C vs H Q E0
def C_Torn(T:Txt K mg):JQ P w K mg base 1 "Torn" ↑"self ring" (wk (aS mg "Torn")):=by
 show T.x_Torn.cal vY (by intro a b c d h;let%[_,_,_,rfl|_]:=h;rfl) (λf j A outer s H vs Q E m e h=>?_)
 .let%[a,r,ws,rfl,g,n,o,p,i|q]:=h;show%[_,(QSs.h (ak (bO rfl (JU (C:=aS mg "Torn") m rfl T.c_DigError T.i_DigError rfl rfl %[_|ρ] #[↑0,En (pjE c9 (pjE (L8 e.gd e.units ↑1) Em))]))
   (au (LI (C:=aS mg "Torn") T.f_Torn_ring rfl ↑0 (ctO (lF (K:=K) rfl) T.a6 Q6 rfl #[↑1])))))|?_]
  change aZ _ _ _ [fI _,fI _] H;lk;let v:(y2++nI "torn by the ring ").length=17:=!0
  show%[by rw[PySem.sizeLine_eq];lia,r,ws,ρ,g,n,o,p|λz y=>%[by rw[strLen_append,PySem.sizeLine_eq];lia,by rw[strLen_append,PySem.sizeLine_eq];lia,by simp,%[_|i]|?_]];show%[_,.inl (Qb.of g)|λl b=>%[a,ρ,ah.Qa b _ _ i|λd c u=>?_]];let dl:d≠l:=nq c aa rfl;rw[ar dl]at c;show q l d b c dl
def Ab{C r:hW}{ws:fx _}{H c:Hp}{y:_LL.St}{D:iN}{t:TA}{E:XK}(m:ah H c)(I:c r>=.lst (ws\0))(J:aP c ws)(f:ws\5<=300)(L:Mp ws)(M:∀Q,Q [.ref r] c->t y c Q)
 (k:∀d l g,ah H g->ah c g->H d=fD->H l=fD->d≠l->g d>=.xd [("ring",.ref l)]->g l>=.lst (ws\0)->E (.ref C) (fI d) g):
 vA C (zD C (wk C) t) (λa A=>∃d,A a>=ExO a C (fI d)/\H a=fD/\E (.ref C) (fI d) (drop A a)) D y c:=by
 show M _ %[by simp|λx p=>?_];let B:=ah.Qa (o:=ExO x C fD) p;show%[x,r,ws,ρ,B _ _ I,bg J λb z e=>B _ _ e,f,L,aa|λl d f q h=>?_];let s:l≠x:=nq f aa rfl;let n:d≠x:=nq q aa rfl;let i:=by rw[ar s]at f;show f
 let j:=by rw[ar n]at q;show q
 let v:∀b,b≠x->b≠l->b≠d->drop (Qa (Qa (Qa (Qa c x (ExO x C fD)) l (.lst (ws\0))) x (ExO x C (fI d))) d (.xd [("ring",.ref l)])) x b=c b:=λb n1 N O=>by
  rw[cc n1,ar O,ar n1,ar N,ar n1]
 let G:ah c (drop _ x):=λb u e=>by
  rw[v b (aC e p) (aC e i) (aC e j)];show e
 show%[ρ,x,d,ρ,?_,d,?_,m.free p|k d l _ (m.trans G) G (m.free j) (m.free i) h ?_ ?_]
 .rw[ar n.symm,aa]
 .rw[ar n.symm,aa]
 .rw[cc n,aa]
 .rw[cc s,ar h.symm,ar s,aa]
def jD{S:jz->jz->Prop}(h:cN S z m)(c:dc S z x):cN S x m:=%[c.symm.trans h.1|λy d=>h.2 y (c.trans d)]
def iB(h:cR H ls qs)(a b:jz)(s:bj qs a b):a>ls/\b>ls:=by
 let%[q,c|e]:=s;rcases(h q c).2 with⟨wd,x,y,d,_,f,g,_⟩|⟨wd,x,y,d,_⟩
 .simp_all
 grind
structure gX (mg:ZC) (H:Hp) (g:hW) (qs:ZN) (ls:ZB) (ts:ZG):Prop where
 gr:∃c2 c3 c4,GrF mg H g c2 c3 c4 qs ls ts
 nd:ls.Nodup
 so:ls.Pairwise (λa b=>aV b a=gi)
 ll:ls\5<=63
 tl:ts\5<=250
 t3:∀k>ts\2,eD ls k
 sm:∀k>ts\2,∀z>k,Sml z
 lm:∀z>ls,Sml z
def gX.up(h:gX mg H g qs ls ts)(s:ah H a):gX mg a g qs ls ts:=by
 let%[c2,b,c|d]:=h.gr;show%[%[c2,b,c|d.up s],h.nd,h.so,h.ll,h.tl,h.t3,h.sm|h.lm]
def gX.ends(h:gX mg H g qs ls ts)(f:bx (bj qs) (ts\2) lk)(i:k>lk):∃a b z,k=[a,b,z]/\(a>ls/\cN (bj qs) a a)/\b>ls/\cN (bj qs) b b:=by
 let%[c2,q,r|j]:=h.gr;let%[a,b,z,l,m,n,c,d|rfl]:=(f.mem k).mp i;let%[x,y,u,e,o|p]:=h.t3 _ n;simp only[MZ,Ut]at e;let%[rfl,rfl|rfl]:=e;let ws:=iB j.sa;show%[l,m,z,ρ,%[c.1.within ws o|jD c c.1],d.1.within ws p|jD d d.1]
def gX.short(h:gX mg H g qs ls ts)(d:bx (bj qs) (ts\2) lk)(f:k>lk):k\5<=3/\∀z>k,Sml z:=by
 let%[c2,o,p|i]:=h.gr;let%[a,b,z,q,r,c,j,l|rfl]:=(d.mem k).mp f;let%[x,y,u,e,m|n]:=h.t3 _ c;simp only[MZ,Ut]at e;let%[rfl,rfl|rfl]:=e;let ws:=iB i.sa;show%[Zi _|KH (h.lm _ (j.1.within ws m)) (h.lm _ (l.1.within ws n)) (h.sm _ c z ∅)]
def gX.names(h:gX mg H g qs ls ts)(d:bx (bj qs) (ts\2) lk)(c:yj (bj qs) ls f):∀k>lk,eD f k:=λk i=>by
 let%[a,b,z,e,j|l]:=h.ends d i;show%[a,b,z,e,(c.mem a).mpr j|(c.mem b).mpr l]
def gX.ties(h:gX mg H g qs ls ts)(c:bx (bj qs) (ts\2) lk):∀k>lk,eD ls k:=λk d=>by
 let%[a,b,z,e,f|i]:=h.ends c d;show%[a,b,z,e,f.1|i.1]
def nv(a:aP H ss)(h:∀k>ss\2,eD b k):dF H b ss:=λt q=>%[(a t q).2|h _ (Xr %[t,q|rfl])]
inductive uL (mg:ZC)
 | mk (g:hW) (qs:ZN) (ls:ZB) (ts:ZG):vs=[.ref g]->gX mg H g qs ls ts->(∀lk,bx (bj qs) (ts\2) lk->∀x,¬ Rch lk x x)->(∀l H' ns (ss:ZG),ah H H'->H' l>=.lst (ss\0)->dF H' ns ss->ss\5<=250->bx (bj qs) (ts\2) (ss\2)->Q (.ref l) H')->uL mg vs H Q E0
def _root_._CU.Sho.same{ks ms us:fx _}{a b:jz}(h:Sho ks a b us)(e:∀k,k>ks↔k>ms):Sho ms a b us:=%[λk c=>(e k).mp (h.sub k c),h.wal,h.pos|by rw[<-nu e];show h.min]
structure FI (H:Hp) (lk:fx ZB) (d l:hW) (ws:ZG) (x:jz):Prop where
 ad:H d>=.xd [("ring",.ref l)]
 al:H l>=.lst (ws\0)
 tu:aP H ws
 sho:Sho lk x x (ws\2)
 min:∀y n,Dst lk y (n+1) y->ws\5<=n+1
 len:ws\5<=300
inductive jE (mg:ZC) (vs:ZM) (H:Hp) (Q:VK) (E:XK):Prop
 | mk (g:hW) (qs:ZN) (ls:ZB) (ts:ZG) (lk:fx ZB) (us:ZM):vs=[.ref g]->gX mg H g qs ls ts->bx (bj qs) (ts\2) lk->(∃x,Rch lk x x)->(∀d l H' ws x,ah H H'->H d=fD->H l=fD->d≠l->FI H' lk d l ws x->E (.ref (aS mg "Torn")) (fI d) H')->jE mg vs H Q E
def kz(T:Txt K mg):Cal P w K mg base 6 "untorn_links" ["ground"] (uL mg):=by
 .exists T.b1,cF,B,d,%[g,qs,ls,ts,rfl,a,nr|C];let%[c2,i,j|n]:=a.gr;let N:=a.ll;show%[_,%["JDH1G~zA0BDH2G~!AG~RA0BA1BDPL~Q2_E;QEI1",cF.nd|d]|?_]
  change aZ _ _ _ [!g,fD,fD] H;show am λO k1 _=>?_
  lk;show%[g,c2,i,j,qs,ls,ts,ρ,n,a.nd,a.so,!_,a.tl,a.t3|λm U ss o Y p G lk q=>k1 (am λD2 k2 _=>?_)];lk;show%[g,c2,i,j,qs,ls,ts,ρ,n.up o,a.nd,a.so,!_|λl H2 u e fl I c=>?_];let v:=nv G (a.names lk c);show%[l,m,u,ss,ρ,I,c.nd,?_,e _ _ p,v.up e,q,λy z _=>k2 (am λD3 J _=>?_)|λr y ws x z _ L _=>(nr _ lk x L.sho.rch).elim]
  .let:=_ST.nodup_sub c.nd λx M=>((c.mem x).mp M).1
   lia
  .lk;show J ?_;let b:=e.trans z;show C m y u ss (o.trans b) (b _ _ p) (v.up b) q lk
def cY(T:Txt K mg):xg P w K mg base 7 "untorn_links" ["ground"] (jE mg):=by
 let%[_,_,b|_]:=T.x_Torn.ini;show T.b1.calX cF (λH vs Q E h=>?_)
 .let%[g,qs,ls,ts,lk,us,rfl,a,y,%[x0|o]|kk]:=h;show%[ρ|λf Y A outer s p=>?_];let%[c2,L,M|N]:=a.gr;let ll:=a.ll;show%[_,%["JDH1G~zA0BDH2G~!AG~RA0BA1BDPL~Q2_E]+],].A2BQEI1",cF.nd|p]|?_]
  change aZ _ _ _ [!g,fD,fD] H;show am λD1 k1 _=>?_
  lk;show%[g,c2,L,M,qs,ls,ts,ρ,N,a.nd,a.so,!_,a.tl,a.t3|λm H1 ss O fm hm z i sl=>k1 (am λD2 k2 _=>?_)];let e:=i.mm y;rw[<-fC e]at o;lk;show%[g,c2,L,M,qs,ls,ts,ρ,N.up O,a.nd,a.so,!_|λl H2 ns u fl hl v=>?_];let la:=nv z (a.names i v);let B:=O.trans u;show%[l,m,ns,ss,ρ,hl,v.nd,?_,u _ _ hm,la.up u,sl,λU C nr=>(nr _ o).elim|λr U ws x C _ j mn=>k2 (am λD3 k3 _=>?_)]
  .let:=_ST.nodup_sub v.nd λx G=>((v.mem x).mp G).1
   lia
  .lk;rw[hY ∅];let I:=B.trans C;let inl:∀t>ws,t.2>ss\2:=λt c=>Xr %[t,j.sub t c|rfl]
   let n:aP U ws:=λt c=>%[(z t (j.sub t c)).1|C _ _ (u _ _ (z t (j.sub t c)).2)]
   show Ab I j.at_ n j.len (λt c=>a.short i (inl t c)) (λQ q=>?_) λd l H4 s4 s5 hd J dl G hL=>kk d l H4 ws x s4 hd J dl %[G,hL,λt c=>%[(n t c).1|s5 _ _ (n t c).2],j.sho.same e,by rw[<-nu e];show mn|j.len]
   lk;show q
structure A7 (ks:fx ZB) (ns L:ZB):Prop where
 nd:L.Nodup
 mem:∀x,x>L↔x>ns
 ord:∀(i:gf) x,L[i]?>=x->∀y,Ed ks x y->y>L.take i
 lst:wg ks ns L
def A7.one{ks:fx _}{m ms L M:ZB}(h:A7 ks m L)(g:A7 ks ms M)(e:∀x,x>m↔x>ms):L=M:=by
 let len:=gf.le_antisymm (_ST.nodup_sub h.nd λx d=>(g.mem x).mpr ((e x).mp ((h.mem x).mp d))) (_ST.nodup_sub g.nd λx d=>(h.mem x).mpr ((e x).mpr ((g.mem x).mp d)));let fresh:∀{L:ZB},L.Nodup->∀{i:gf} {x:jz},L[i]?>=x->x∉L.take i:=λ{L} nd {i x} d c=>by
  rw[<-Xd i L,Yz]at nd;show nd.2.2 x c x (Z8 (i:=0) (by rw[Pu];show d)) rfl
 let step:∀i,i<=L\5->L.take i=M.take i:=λi=>by
  induction i with
  | zero=>show λ_=>rfl
  | succ i f=>
    intro hi;let f:=f !_;obtain⟨x,d⟩:∃x,L[i]?>=x:=%[_|Z4 !_]
    obtain⟨y,j⟩:∃y,M[i]?>=y:=%[_|Z4 !_]
    let q:x=y:=by
     by_cases c:x=y
     .show c
     .let a:=g.lst i y j x ((e x).mp ((h.mem x).mp (Z8 d))) (f▸fresh h.nd d) λz l=>f▸h.ord i x d z l
      let b:=h.lst i x d y ((e y).mpr ((g.mem y).mp (Z8 j))) (f▸fresh g.nd j) λz l=>f▸g.ord i y j z l
      let:=dZ a c
      grind
    rw[Xc,Xc,f,d,j,q]
 let:=step L.length (Zi _)
 grind
inductive yx (mg:ZC)
 | mk (g:hW) (qs:ZN) (ls:ZB) (ts:ZG) (lk:fx ZB):vs=[.ref g]->gX mg H g qs ls ts->bx (bj qs) (ts\2) lk->(∀x,¬ Rch lk x x)->(∀r H' ns L,ah H H'->H r=fD->H' r<*L\3->yj (bj qs) ls ns->A7 lk ns L->Q (.ref r) H')->yx mg vs H Q E0
def HA(T:Txt K mg):Cal P w K mg base 7 "order" ["ground"] (yx mg):=by
 .exists T.bu,mM,C,p,%[g,qs,ls,ts,lk,rfl,i,j,nr|G];let%[c2,I,J|M]:=i.gr;let ll:=i.ll;show%[_,%["JDH1G~[A0BEIG~yAG~RA0BA1B",mM.nd|p]|?_]
  change aZ _ _ _ [!g,fD] H;show am λD1 k1 _=>?_
  lk;show%[g,qs,ls,ts,ρ,i,λN h'=>by rw[fC (h'.mm j)];show nr|λl H1 ns ss z O Y sl m=>k1 ?_];let e:=m.mm j;rw[<-fC e]at nr;lk;show%[g,c2,I,J,qs,ls,ts,ρ,M.up z,i.nd,i.so,!_|λn H2 ms q fn hn d=>?_];let ml:=_ST.nodup_sub d.nd λx u=>((d.mem x).mp u).1
  let o:=z.trans q;show%[n,l,ms,ss,ρ,hn,d.nd,!_,q _ _ O,λt B=>%[q _ _ (Y t B).1|i.names m d _ (Xr %[t,B|ρ])],sl|λr H3 L s3 hL Ln Ls v all lo fr=>?_];show G r H3 ms L (o.trans s3) (o.free fr) hL d %[Ln,λx=>%[Ls x|λu=>M5 λc=>?_],by rw[<-AY e];show v|by unfold wg;rw[<-AY e];show lo];show Ff (U:=ms.filter λy=>decide (y∉L)) (λy hy=>?_) nr (kw.mpr %[u|Zf c]);let%[a|b]:=kw.mp hy;let%[y',e,m1|m2]:=all y a (Zo b);show%[y',kw.mpr %[m1|Zf m2]|e]
def Ac{S:jz->jz->Prop}{P:jz->Prop}{x y:jz}(h:dc S x y)(e:P x)(d: ¬ P y):∃a b,(S a b\/S b a)/\P a/\ ¬ P b/\dc S x a:=by
 induction h with
 | refl=>show(d e).elim
 | @step y z c s f=>
   by_cases p:P y
   .show%[y,z,s,p,d|c]
   .show f p
structure Rnd (ls:ZB) (S:jz->jz->Prop) (f:jz->jz) (r:gf):Prop where
 con:∀z>ls,dc S z (f z)
 dn:∀z>ls,aV z (f z)=gi
 cnt:∀m>ls,cN S m m->(∀z>ls,dc S m z->f z=m)\/r+1<= ~~~(ls.filter λz=>decide (f z=m))
def Rnd.nil{ls:ZB}{S:jz->jz->Prop}:Rnd ls S id 0:=%[λz _=> .refl z,λz _=>dB z|λm a _=> .inr (T6 (kw.mpr %[a|Zf rfl]))]
structure Mid (ls:ZB) (S T:jz->jz->Prop) (f g:jz->jz):Prop where
 con:∀z>ls,dc S z (g z)
 le:∀z>ls,aV (f z) (g z)=gi
 don:∀a b,T a b->aV (f a) (g b)=gi/\aV (f b) (g a)=gi
def gu{x y z:jz}(b:aV y x=gi)(a:aV z y=gi):aV z x=gi:=by
 cases h:aV z x
 .rfl
 .by_cases e:y=x
  .grind
  .rw[dY h (dZ b e)]at a;cases a
def Mid.step{ls:ZB}{S T:jz->jz->Prop}{f g:jz->jz}{a b:jz}(h:Mid ls S T f g)(ws:∀x y,S x y->x>ls/\y>ls)(s:S a b)(sub:∀x y,T x y->S x y){v:jz}(j:v=if aV (g b) (g a)=gb then g b else g a):
 Mid ls S (λx y=>T x y\/(x=a/\y=b)) f (λx=>if x=b then v else if x=a then v else g x):=by
 let%[l|m]:=ws _ _ s;let v1:aV (g a) v=gi:=by
  rw[j];split
  .cases q:aV _ _
   .rfl
   .rename_i c;let:=dY c q;rw[dB]at this;cases this
  .show dB _
 let n:aV (g b) v=gi:=by
  rw[j];split
  .show dB _
  .rename_i c;simpa using c
 let o:dc S a v:=by
  rw[j];split
  .show(dc.one (.inl s)).trans (h.con b m)
  .show h.con a l
 let d:∀x>ls,aV _ (if x=b then v else if x=a then v else g x)=gi:=λx _=>by
  split
  .rename_i e;rw[e];show n
  .split
   .rename_i e;rw[e];show v1
   .show dB _
 show%[λz i=>?_,λz i=>gu (d z i) (h.le z i)|λx y t=>?_]
 .split
  .rename_i e;rw[e];show(dc.one (.inr s)).trans o
  .split
   .rename_i e;rw[e];show o
   .show h.con z i
 .rcases t with t|⟨rfl,rfl⟩
  .let%[p|r]:=ws _ _ (sub _ _ t);show%[gu (d y r) (h.don x y t).1|gu (d x p) (h.don x y t).2]
  .show%[?_|?_]
   .rw[hY rfl];show gu v1 (h.le x l)
   .rw[hY rfl,ite_self];show gu n (h.le y m)
def Rnd.step{ls:ZB}{S:jz->jz->Prop}{f g:jz->jz}{r:gf}(h:Rnd ls S f r)(nd:ls.Nodup)(ws:∀x y,S x y->x>ls/\y>ls)(M:Mid ls S S f g):Rnd ls S g (r+1):=by
 show%[M.con,λz d=>gu (M.le z d) (h.dn z d)|λm n p=>?_];let i:∀{y},dc S m y->aV m y=gi->y=m:=λ{y} c l=>by
  by_cases q:y=m
  .show q
  .let:=dZ (p.2 _ c) q
   grind
 let j:∀z>ls,f z=m->g z=m:=λz d e=>by
  let c:=h.con z d;let l:=M.le z d;rw[e]at c l;show i (c.symm.trans (M.con z d)) l
 rcases h.cnt m n p with q|q
 .show .inl λz d c=>j z d (q z d c)
 .by_cases all:∀z>ls,dc S m z->f z=m
  .show .inl λz d c=>j z d (all z d c)
  .obtain⟨z,d,c,ne⟩:∃z,z>ls/\dc S m z/\f z≠m:=by
    simp_all
   let B:=i (h.con m n) (h.dn m n);let%[a,b,s,u,C|ca]:=Ac (P:=λx=>f x=m) c B ne;let v:=s.elim (λs=>(ws _ _ s).2) λs=>(ws _ _ s).1
   let E:=i ((ca.trans (.one s)).trans (M.con b v)) (by
    rcases s with s|s
    .let:=(M.don a b s).1;rwa[u]at this
    .let:=(M.don b a s).2;rwa[u]at this)
   let:=_ST.nodup_sub (m:=ls.filter λz=>decide (g z=m)) (MO.mpr %[λh=>C (Zo (kw.mp h).2)|nd.sublist Rw]) λx o=>by
    rcases Yu.mp o with rfl|o
    .show kw.mpr %[v|Zf E]
    .let%[A|G]:=kw.mp o;show kw.mpr %[A|Zf (j x A (Zo G))]
   rw[Zr]at this;show .inr !_
def FJ{ls:ZB}{S:jz->jz->Prop}(ws:∀x y,S x y->x>ls/\y>ls):∀n {z:jz},yg ls z<=n->z>ls->∃m,cN S z m:=λn=>by
 induction n with
 | zero=>
   intro z f a;show%[z,.refl z|λy c=>?_];cases q:aV y z
   .rfl
   .let:=rQ (c.within ws a) q
    lia
 | succ n g=>
   intro z f a;by_cases all:∀y,dc S z y->aV y z=gi
   .show%[z,.refl z|all]
   .simp only[Tx]at all;let%[y,c|q]:=all;let b:=c.within ws a;let:=rQ b ↑q;let%[m|e]:=g ⋯ b;show%[m,c.trans e.1|λu d=>e.2 u (c.symm.trans d)]
def Rnd.done{ls:ZB}{S:jz->jz->Prop}{f:jz->jz}(h:Rnd ls S f ls.length)(ws:∀x y,S x y->x>ls/\y>ls){z:jz}(b:z>ls):f z>ls/\cN S z (f z):=by
 let%[m|a]:=FJ ws _ (Zi _) b;let d:=a.1.within ws b;let e:f z=m:=by
  rcases h.cnt m d %[.refl m|λy c=>a.2 y (a.1.trans c)]with q|q
  .show q z b a.1.symm
  .let:=Yg (λz=>decide (f z=m)) ls
   lia
 rw[e];show%[d|a]
def KR{h:jz->V}{z:jz}{v:V}{ls:ZB}(a:z∉ls):cA (ls.map λz=>((hX z:Key),h z)) (hX z) v=(ls.map λz=>((hX z),h z)) ++[(hX z,v)]:=by
 unfold cA
 simp_all
def wo{h:jz->V}:∀{ms ls:ZB},(ls++ms).Nodup->(ms.map λz=>((hX z:Key),h z)).foldl (λacc a=>cA acc a.1 a.2) (ls.map λz=>((hX z),h z))=(ls++ms).map λz=>((hX z),h z)
 |[],ls,_=>by simp
 | m::ms,ls,nd=>by
   rw[Yo,Y6,KR (λq=>(Yz.mp nd).2.2 m q m Zm rfl),show(ls.map _) ++[(hX m,h m)]=(ls++[m]).map λz=>((hX z),h z) by simp,wo ↑nd];simp
def yy{h:jz->V}{ls:ZB}(nd:ls.Nodup){ps:fx (hW×jz×V)}(e:ps\2=ls.map λz=>(z,h z)):mB ps=ls.map λz=>((hX z),h z):=by
 let a:=nY (Rf λq=>((hX q.1:Key),q.2)) e;rw[Yp,Yp]at a;rw[show mB ps=(ps.map ((λq=>((hX q.1),q.2)) ∘ (·.2))).foldl (λacc b=>cA acc b.1 b.2) [] by rw[fx.foldl_map];rfl,a];show wo (ls:=[]) (nd)
def Ad{H:Hp}{a:hW}{o:NV}{b:fx _}{k:Key}(e:H a>=.frz o (.dK b)):cZ H a (kV k) (bD b k):= .inl %[b,k,.inr %[o|e],rfl|rfl]
inductive rX
 | mk (l m:hW) (ls:ZB) (qs:ZN):vs=[.ref l,.ref m]->H l>=.lst (qs\0)->H m<*ls\3->cR H ls qs->ls.Nodup->ls\5<=63->(∀d H' f,ah H H'->H d=fD->H' d>=.dK (NmD ls f)->(∀z>ls,f z>ls/\cN (bj qs) z (f z))->Q (.ref d) H')->rX vs H Q E0
def sY:↥1 95 rX:=by
 .exists 95,"~sayings ~layers ~called_here ~turn ~saying_here ~least_here",ai,hr,%[l,m,ls,qs,rfl,hl,hm,sa,nd,aj|kk];let qm:(qs\0)\5=qs\5:=Z6 _;let lm:(ls\3)\5=ls\5:=Z6 _;let ws:=iB sa;show%[_,%["JDH2~0~1AiZ?1V1W0?2pkA0A0BBDTyAcdA1BBM3ETV0M4EPLtO4CYDH5~S~_Ah2O4CAh2O4CBDx52O4CEx52O4CQEI2",D0.nd,↑(↑"~layer",[]),↑["_law_layer"]|hr]|?_]
  change aZ _ _ _ [!l,!m,fD,fD,fD,fD] H;show am λD1 k1 _=>?_
  lk;show aD λJ hK=>?_
  lk;show%[%[_|Qb.of hm]|hK λF hF=>?_];show dL (λj vs r u=>A4 (∃o1,r=[o1]) (ah H u) (u F<*vs) (∃ps:fx (hW×jz×V),A3 (vs=ps\0) (ps\2=(ls.take j).map (λz=>(z,V.str z))) (∀q>ps,u q.1&&&[.str q.2.1,q.2.2])))
   %[%[fD|rfl],ah.Qa hF,aa,[],rfl,rfl|λq G=>(nomatch G)] (λ_ _ _ u ac=>ac.2 _ _ hm) ?_ ?_
  .intro j vs r H4 hj %[%[o1|rfl],s3,ab,ps,Y,B|O];lk;show%[#[2]|λp hp=>?_];let n:=ah.Qa (o:= .tup [V.str ls[j],V.str ls[j]]) hp;let gp:Qa H4 p (.tup [V.str ls[j],V.str ls[j]]) p=_:=aa
   generalize Qa H4 p _=H6 at n gp ⊢
   let keep:=e7 (ys:=vs++[V.ref p]) (n _ _ ab);let pl:=nY L3 B;rw[Z6,Z6,Yj]at pl;show CK.mk hj (n _ _ ab) (by rw[Y,Z6];show aF !_) %[%[_|rfl],ah.set (s3.trans n) hF,aa,ps++[(p,ls[j],V.str ls[j])],by rw[Y,Zd];rfl,by rw[Zd,B,Xc,Z4 hj,Zd];rfl|λq G=>?_];rcases Xo G with h|h
   .show keep _ _ (n _ _ (O q h))
   .rw[Xp h];show keep _ _ gp
  intro vs r H3 %[_,s3,ae,ps,Y,B|O];rw[Zn (Zi _)]at B;show%[ps,by rw[<-Y];show Qb.of ae,O|λd hd=>k1 (am λD2 k2 _=>az λJ hK=>?_)];rw[show mB ps=NmD ls id from yy nd B];let s4:=s3.trans (ah.Qa (o:= .dK (NmD ls id)) hd);let gd:Qa H3 d (.dK (NmD ls id)) d=_:=aa;let fd:=s3.free hd
  generalize Qa H3 d _=H4 at s4 gd
  lk;show%[ls\5,.inl %[_,Qb.of (s4 _ _ hm)|lm.symm],!_,!_|hK (cm (λi r u=>E4 λL N I f=>A4 (r=[!l,!m,!d,L,N,I]) (ah H u) (u d>=.dK (NmD ls f)) (Rnd ls (bj qs) f i))
   %[_,_,_,id,ρ,s4,gd|.nil] ?_ ?_)]
  .intro i r H5 hi %[L,N,I,f,rfl,s5,U|R];change yT _ _ _ _ [!l,!m,!d,fI (.int (0+i)),N,I] H5;show aB λD6 k6 _=>az λJ hK=>?_
   lk;let ag:=s5 _ _ hl;show%[%[_|Qb.of ag]|hK (cL (λj r u=>E4 λL N I g=>A4 (r=[!l,!m,!d,L,N,I]) (ah H u) (u d>=.dK (NmD ls g)) (Mid ls (bj qs) (bj (qs.take j)) f g))
    %[_,_,_,f,ρ,s5,U,R.con,λz _=>dB _|λa b ⟨q,G,_⟩=>(nomatch G)] (λj r u ⟨_,_,_,_,_,q,_,_⟩=>q _ _ hl) ?_ ?_)]
   .intro j q r H6 G %[L,N,I,g,rfl,n,c|M];let%[q1|q2]:=sa q (Z8 G);let st:=SqT.of (K:=K) (n _ _ q1);let C:=rR G;change kO _ _ _ _ [!l,!m,!d,L,fI (.ref q.1),I] H6;show aB λD7 k7 _=>?_
    lk;rcases q2 with⟨wd,a,b,e,hw,ha,hb,_⟩|⟨wd,a,y,e,hw,_⟩
    .rw[e]at st C;show%[_,st,_,ρ,ρ|br (λh=>?_) λh=>?_]
     .let h:wd=nI "same":=↑h
      subst h;let get:∀y>ls,cZ H6 d (.str y) (fI (.str (g y))):=λy hy=>by
       let:=cZ.k (k:=hX y) c;rw[iJ hy]at this;show this
      show%[_,st,_,ρ,_,get a ha,_,st,_,ρ,_,get b hb|?_];lk
      generalize Y:(if aV (g b) (g a)=gb then g b else g a)=v
      let P1:=h9.k (k:=hX a) (v:= .str v) c (by unfold NmD;rw[Z6];show aF !_);rw[wb ha]at P1;show%[_,st,_,ρ,_,P1,_,SqT.of ((ar (nq (n _ _ q1) c rfl)).trans ((n _ _ q1).trans (by rw[e]))),_,ρ|?_];let P2:=h9.k (k:=hX b) (v:= .str v) (H:=Qa H6 d (.dK (NmD ls λx=>if x=a then v else g x))) aa (by unfold NmD;rw[Z6];show aF !_);rw[wb hb,Am]at P2;show%[_,P2|k7 %[_,_,_,_,ρ,ah.set n fd,aa|?_]];let M2:=M.step ws %[q,Z8 G|e] (λx y ⟨p,hp,e⟩=>%[p,Yw hp|e]) Y.symm;show%[M2.con,M2.le|λx y t=>M2.don x y (((C x y).mp t).imp id λe=>?_)];simp only[MZ,V.str.injEq,Ut,true_and]at e;show%[e.1.symm|e.2.symm]
     .let h:wd≠nI "same":=↑h
      show k7 %[_,_,_,g,rfl,n,c,M.con,M.le|λx y t=>M.don x y (((C x y).mp t).resolve_right λe=>h ?_)];simp only[MZ,V.str.injEq]at e;show e.1
    .rw[e]at st C;show%[_,st,_,ρ,ρ|?_];rw[hH (by rcases hw with rfl|rfl<;> decide)];show k7 %[_,_,_,g,rfl,n,c,M.con,M.le|λx y t=>M.don x y (((C x y).mp t).resolve_right λe=>?_)];simp at e
   .intro r H6 %[L,N,I,g,rfl,n,c|M];rw[Zn (Zi _)]at M;show k6 %[_,_,_,g,rfl,n,c|R.step nd ws M]
  .intro r H5 %[L,N,I,f,rfl,s5,U|R];show k2 ?_;lk;show kk d H5 f s5 fd U λz hz=>R.done ws hz
inductive uM
 | mk (l m:hW) (ls:ZB) (qs:ZN):vs=[.ref l,.ref m]->H l>=.lst (qs\0)->H m<*ls\3->cR H ls qs->ls.Nodup->ls\5<=63->(∀d H' f o,ah H H'->H d=fD->H' d>=.frz o (.dK (NmD ls f))->(∀z>ls,f z>ls/\cN (bj qs) z (f z))->Q (.ref d) H')->uM vs H Q E0
def ny(T:Txt K mg):Cal P w K mg base 1 "_law_called" ↑"~sayings ~layers" uM:=
 (sY T).freeze.imp λvs H Q E ⟨l,m,ls,qs,a,b,g,i,j,n,p⟩=>%[l,m,ls,qs,a,b,g,i,j,n|λd v f q r s u=>%[[d]|λy=>p d _ f _ (λc o e=>(j3 (λh=>!2)).trans (q _ _ e)) r (kH Zm s) u]]
def FK{u r:jz}{g:TG}{o:TS}{D:iN}{a:St}{H:Hp}(Pv:gf->St->Hp->Prop)(s:Pv 0 a H)(z:r.cps.size=u.cps.size)
 (A:∀i c d T a H,u.cps[i]?>=c->r.cps[i]?>=d->Pv i a H->H T=fD->g (.ref T) a (Qa H T (.tup [.str ⟨([c].toArray)⟩,.str ⟨([d].toArray)⟩])) λb l=>o {D with nx:=Pv (i+1),ct:=Pv (i+1),bk:=D.nx} b l) (n:∀a H,Pv u.cps.size a H->D.nx a H):
 ∃W:gf->gf->St->Hp->Prop,(∃m,W 0 m a H)/\∀i m a H,W i m a H->
  ((Itz u r).stop i H/\D.nx a H)\/((Itz u r).go i H/\∃N:St->Hp->Prop,(∀f h,N f h->∃q,q<m/\W (i+1) q f h)/\∀x h,(Itz u r).yld i H x h->g x a h λb l=>o {D with nx:=N,ct:=N,bk:=D.nx} b l):=by
 show%[λi m a H=>m=u.cps.size-i/\i<=u.cps.size/\Pv i a H,%[u.cps.size,by simp,Xg _|s]|?_];intro i m a H %[rfl,hi|p];by_cases j:i<u.cps.size
 .show .inr %[%[j|!_],Pv _,λf h B=>%[u.cps.size-(i+1),!_,rfl,j|B]|λv h y=>?_];let%[c,d,TT,C,n,E,rfl|rfl]:=y;show A i c d TT a H C n p E
 .let e:i=u.cps.size:=by lia
  subst e;show .inl %[%[Zi _,!_|.inl rfl]|n a H p]
abbrev e8(a:fx (fx Key×V))(m:ZB->Prop):Prop:=∃ks:fx ZB,a\1=ks.map (λk=>k.map hX)/\ks.Nodup/\∀k,k>ks↔m k
def yz{c:fx _}{m g:ZB->Prop}(h:e8 c m)(k:ZB)(v:V)(n:∀z,g z↔m z\/z=k):e8 (cA c (k.map hX) v) g:=by
 let%[ks,f,i|r]:=h;let j:(k.map hX)>c\1↔k>ks:=by
  rw[f,Yv]
  constructor
  .rintro⟨z,o,e⟩;show(vH _ _ e)▸o
  .intro d;show%[k,d|ρ]
 by_cases d:k>ks
 .show%[ks,by rw[nQ,hY (j.mpr d)];show f,i|λz=>?_]
  simp_all
 .show%[ks++[k],by rw[nQ,hH (λq=>d (j.mp q)),f,Zd];rfl,?_|λz=>?_]
  .rw[Yz];show%[i,by simp|λa l b p e=>by rw[Xp p]at e;rw[e]at l;show d l]
  simp_all
def gx{a:fx _}{m b:ZB->Prop}(h:e8 a m)(e:∀k,m k↔b k):e8 a b:=by
 let%[ks,c,d|f]:=h;show%[ks,c,d|λk=>(f k).trans (e k)]
def A9{a:fx _}{m:ZB->Prop}{B:fx _}(h:e8 a m)(s:∀k,m k->k>B):a\5<=B\5:=by
 let%[ks,b,c|d]:=h;let:=_ST.nodup_sub c λk e=>s k ((d k).mp e)
 let l:=nY L3 b;rw[Z6,Z6]at l
 lia
def yA{rows:ZB}{i n:gf}(h:i<=n){k:ZB}(a:k>bB rows i):k>bB rows n:=by
 let%[j,b|e]:=Nc.mp a;show Nc.mpr %[j,vj.mpr (Zg (vj.mp b) h)|e]
def HB{l:fx _}{j:gf}{k:ZB}(h:k>(l.take j).filterMap fB):k>l.filterMap fB:=by
 let%[p,a|e]:=MN.mp h;show MN.mpr %[p,Yw a|e]
def KS{a:fx _}{i:gf}{k:ZB}(h:k>bG (a.take i)):k>bG a:=by
 let%[p,b|e]:=Nc.mp h;show Nc.mpr %[p,Yw b|e]
def HC{p:gf×gf}{k:ZB}(h:fB p>=k):[p].filterMap fB=[k]:=!2
def HD{p:gf×gf}(h:fB p=fD):[p].filterMap fB=[]:=!2
def uN(n:jz):y2++n=n:=im (by change(([].toArray) ++n.cps).toList=_;simp)
def Ba(n z:jz):n++nI "."++z=lnS n z:=by unfold lnS;rw[uN]
inductive uO
 | mk (l m u:hW) (cs:ZH) (qs:ZN) (ls:ZB) (ks0:fx ZB):vs=[.ref l,.ref m,.ref u]->H l<*dz cs->H m>=.lst (qs\0)->H u<*ls\3->cQ H cs->cR H ls qs->ls.Nodup->ls\5<=63->qs\5<=60->(∀p>cs,∀a,Let p.2.2 a->lnS p.2.1 (sgn a)>ls)->ks0\5<=250->(∀k>ks0,eD ls k)->(∀k,k>ks0↔k>bG cs\/k>dD qs qs.length)->(∀r H' (ss:ZG),ah H H'->H r=fD->H' r>=.lst (ss\0)->aP H' ss->bx (bj qs) ks0 (ss\2)->ss\5<=250->Q (.ref r) H')->uO vs H Q E0
def yB:↥2 96 uO:=by
 .exists 96,"~cuts ~sayings ~layers ~called_here ~found ~name ~text ~rows ~k ~upper ~lower ~number",ct,hr,%[l,m,u,cs,qs,ls,U,rfl,hl,hm,hu,b9,bl,nd,ca,cv,bm,bn,tok,a3|kk];let bp:(dz cs)\5=cs\5:=Z6 _;let cd:(qs\0)\5=qs\5:=Z6 _;show%[_,(QSs.h (ak (aJ 3 D0.nd rfl (aG (ny T) hr rfl #[↑1,↑2]))
   (ak (aJ 4 D0.nd rfl Ke)
   (ak (cC NP rfl rfl (cS (K:=K) rfl ↑0) (d5 (K:=K) rfl rfl rfl (gsE rfl (aH 5 D0.nd rfl) (gsE rfl (aH 6 D0.nd rfl) cz)))
   (ak (aJ 7 D0.nd rfl (bmO (K:=K) Uh PySem.F.slot_str_split PySem.F.type_str_split Au rfl ↑6 #[c9]))
    (au (cC NP rfl rfl (fh rfl T.aj rfl #[(opE oP (cbO (bZ (K:=K) rfl) T.a0 PySem.boot_len rfl #[↑7]) ax)]) (aH 8 D0.nd rfl)
    (au (cC NP rfl rfl (DV rfl T.af rfl rfl #[(↑7*>↑8),(↑7*>(opE bL ↑8 ax))]) (d5 (K:=K) rfl rfl rfl (gsE rfl (aH 9 D0.nd rfl) (gsE rfl (aH 10 D0.nd rfl) cz)))
     (au (ifS (wT (lE (bh iT rfl ↑9 c9) (iS (bh iT rfl ↑9 ↑10))))
      (au (fK hr rfl eBl ↑4 (eG #[(cK hr (λ_ _=>rfl) ↑3 (opE dH (opE dH ↑5 c9) ↑9)),(cK hr (λ_ _=>rfl) ↑3 (opE dH (opE dH ↑5 c9) ↑10)),↑5])))
      a8))))))))
   (ak (cC NP rfl rfl (fh rfl T.aj rfl #[(cbO (bZ (K:=K) rfl) T.a0 PySem.boot_len rfl #[↑1])]) (aH 11 D0.nd rfl)
   (au (ifS (bh fj rfl ((↑1*>↑11)>>ax) c9)
    (au (fK hr rfl eBl ↑4 (eG #[(cK hr (λ_ _=>rfl) ↑3 ((↑1*>↑11)>>ax)),(cK hr (λ_ _=>rfl) ↑3 ((↑1*>↑11)>>ax)),opE dH c9 (ctO ⟨uY⟩ T.ab V3 rfl #[↑11])])))
    a8)))
   (au (aO (cbO (Ci rfl) T.a9 TJ rfl #[↑4]))))))))|?_]
  change aZ _ _ _ [!l,!m,!u,fD,fD,fD,fD,fD,fD,fD,fD,fD] H;show am λD0 k0 _=>?_
  lk;show%[m,u,ls,qs,ρ,hm,hu,bl,nd,ca|λd H0 g oo s0 fd a4 lg=>k0 (am λD1 k1 _=>?_)];let get:∀{H':Hp},H' d>=.frz oo (.dK (NmD ls g))->∀y>ls,cZ H' d (.str y) (fI (.str (g y))):=λ{H'} e y hy=>by
   let:=Ad (k:=hX y) e;rw[iJ hy]at this;show this
  lk;intro L hL;show k1 (am λD2 k2 _=>az λag hK=>?_);lk;let s1:=ah.Qa (o:= .dT []) hL;let nL:L≠d:=nq hL a4 rfl;let a2:∀X:fx ZB,(∀t>X,t>U)->∀k,k>X.map (dW g)->k>U.map (dW g):=λX h k hk=>by
   let%[t,ht|e]:=Xq hk;show Xr %[t,h t ht|e]
  let kl: ~~~(U.map (dW g))<=250:=by rw[Z6];show bn
  show%[%[_|Qb.of (s1 _ _ (s0 _ _ hl))]|hK (iO (λi σ H'=>∃o5 o6 o7 o8 o9 C,σ=[!l,!m,!u,!d,!L,o5,o6,o7,o8,o9,C,fD]/\ah H0 H'/\∃G,H' L>=.dT G/\e8 G λk=>k>(bG (cs.take i)).map (dW g))
   %[_,_,_,_,_,_,ρ,s1,[],aa,[],ρ,X2|λk=>QV] (λi σ H' _ ⟨_,_,_,_,_,_,_,q,_⟩=>Qb.of (q _ _ (s0 _ _ hl))) ?_ ?_)]
  .intro i x σ H1 hx %[o5,o6,o7,o8,o9,C,rfl,sm,G,aj|al];let hi:i<cs\5:=by rw[<-bp];show(Xn hx).1
   obtain⟨q,hq,rfl⟩:∃q,cs[i]?>=q/\x=V.ref q.1:=by
    unfold dz at hx;rw[Zl,Z4 hi]at hx;show%[cs[i],Z4 hi|(Za hx).symm]
   let a5:=Z8 hq;let ac:=b9 q a5;let a6:∀S:fx ZB,(∀k>S,k>bB q.2.2 (q.2.2\5-1))->∀k>bG (cs.take i) ++S.map (iA q.2.1),k>U:=λS hS k hk=>by
    show(a3 k).mpr (.inl ?_);rcases Xo hk with e|e
    .show KS e
    .let%[z,hz|rfl]:=Xq e;show Nc.mpr %[q,a5|Xr %[z,hS z hz|rfl]]
   let bt:=ni ac.2.1;let an:=bm q a5;show%[_,SqT.of (sm _ _ (s0 _ _ ac.1)),ρ,_,_,ρ,_,_,ρ,ρ|?_];let B:=m9 hq;obtain⟨⟨a,n,rows⟩,e⟩:∃z,z=q:=%[q|rfl]
   subst e;let%[_,_|J]:=ac;let J:cV rows:=J;let an:∀a,Let rows a->lnS n (sgn a)>ls:=an;let a6:∀S:fx ZB,(∀k>S,k>bB rows (rows\5-1))->∀k>bG (cs.take i) ++S.map (iA n),k>U:=a6;let B:bG (cs.take (i+1))=bG (cs.take i) ++(bB rows (rows\5-1)).map (iA n):=B;let bt:n\5<=8:=bt;let%[wd,w1,w2|bU]:=J.wide;let ce:=J.text;let b0:=J.split;let cx:=J.high;let cy:=J.pos;change aZ _ _ _ [!l,!m,!u,!d,!L,-n,fI (.str (ui nl rows)),o7,o8,o9,C,fD] H1
   generalize ui nl rows=z at ce b0
   show am λD3 k3 _=>?_
   lk;show%[!1,lx (by lia:z\5+2<=5000) (!1)|λR hR=>k3 ?_];rw[show(!"\n")=nl from rfl,b0];let sR:=ah.Qa (o:= .lst (rows\3)) hR;let gR:Qa H1 R (.lst (rows\3)) R=_:=aa;let b1:=sR _ _ aj;let b2:=sm.trans sR;let ch:R≠L:=nq hR aj rfl
   generalize Qa H1 R _=cM at sR gR b1 b2
   show aB λD4 k4 _=>az λag hK=>?_
   lk;let en:((rows\5:md) -1).toNat=rows\5-1:=by lia
   show%[rows\5,.inl %[_,Qb.of gR|by simp],!_,!_|?_];rw[en];show hK (cm (λj σ H2=>∃o8 o9 C,σ=[!l,!m,!u,!d,!L,-n,-z,!R,o8,o9,C,fD]/\ah H0 H2/\H2 R<*rows\3/\∃G,H2 L>=.dT G/\e8 G λk=>k>(bG (cs.take i) ++(bB rows j).map (iA n)).map (dW g))
    %[_,_,_,rfl,b2,gR,G,b1|gx al λk=>by rw[show bB rows 0=[]from rfl,Vm,Zx]] ?_ ?_)
   .intro j σ H2 hj %[o8,o9,C,rfl,I,as,M,O|N];let hj:j<rows\5-1:=hj;change yT _ _ _ _ [!l,!m,!u,!d,!L,-n,-z,!R,fI (.int ((0:md) +(j:md))),o9,C,fD] H2;rw[MC];show aB λD5 k5 _=>az λag hK=>?_
    lk;obtain⟨v,hv⟩:∃v,rows[j]?>=v:=%[rows[j]|by simp[show j<rows\5 by lia]]
    obtain⟨r,ab⟩:∃r,rows[j+1]?>=r:=%[rows[j+1]|by simp[show j+1<rows\5 by lia]]
    let ul:v.cps.size=wd:=bU v (Z8 hv);let rl:r.cps.size=wd:=bU r (Z8 ab);let aU:atI (rows\3) (j:md)>=.str v:=bP (by rw[Zl,hv];rfl);let aR:atI (rows\3) ((j:md) +1)>=.str r:=bP (j:=j+1) (by rw[Zl,ab];rfl);let g1:rows.getD j ⟨([].toArray)⟩=v:=by rw[Zc,hv];rfl
    let g2:rows.getD (j+1) ⟨([].toArray)⟩=r:=by rw[Zc,ab];rfl
    let b3:bB rows (j+1)=bB rows j++(Nk v.cps.toList r.cps.toList).filterMap fB:=by rw[mX,g1,g2];rfl
    show%[_,Qb.of as,_,aU,_,Qb.of as,_,aR|hK (FK (λt σ H3=>∃o9 C,σ=[!l,!m,!u,!d,!L,-n,-z,!R,fI (.int (j:md)),o9,C,fD]/\ah H0 H3/\H3 R<*rows\3/\∃G,H3 L>=.dT G/\e8 G λk=>k>(bG (cs.take i) ++(bB rows j++((Nk v.cps.toList r.cps.toList).take t).filterMap fB).map (iA n)).map (dW g))
     %[_,_,ρ,I,as,M,O|gx N λk=>by rw[fx.take_zero,fx.filterMap_nil,Zx]] ⋯ ?_ ?_)]
    .intro t c e TT σ H3 hc he %[o9,C,rfl,a7,bb,Y,bc|ae] hT;let sT:=ah.Qa (o:= .tup [.str ⟨([c].toArray)⟩,.str ⟨([e].toArray)⟩]) hT;let b4:Qa H3 TT (.tup [.str ⟨([c].toArray)⟩,.str ⟨([e].toArray)⟩]) TT&&&[.str ⟨([c].toArray)⟩,.str ⟨([e].toArray)⟩]:=aa;let ai:=a7.trans sT;let a0:=sT _ _ bb;let a1:=sT _ _ bc
     generalize Qa H3 TT _=HT at b4 ai a0 a1
     show%[_,SqT.of b4,ρ,_,_,ρ,_,_,ρ,ρ|?_];change kO _ _ _ _ [!l,!m,!u,!d,!L,-n,-z,!R,fI (.int (j:md)),fI (.str ⟨([c].toArray)⟩),fI (.str ⟨([e].toArray)⟩),fD] HT;show aB λD6 k6 _=>?_
     let nx:=rG v r t c e hc he;let stay:fB (c,e)=fD->e8 Y λk=>k>(bG (cs.take i) ++(bB rows j++((Nk v.cps.toList r.cps.toList).take (t+1)).filterMap fB).map (iA n)).map (dW g):=λe=>gx ae λk=>by
      rw[<-nx,Zz,HD e,Zx]
     lk;simp only[n9,z6];let cl:∀k>bB rows j++((Nk v.cps.toList r.cps.toList).take t).filterMap fB,k>bB rows (rows\5-1):=λk hk=>by
      rcases Xo hk with e|e
      .show yA ⋯ e
      .show yA (i:=j+1) ⋯ ?_;rw[b3];show Yt _ (HB e)
     show br (λh1=>br (λh2=>?_) λh2=>?_) λh1=>?_
     .let h2:c≠e:=↑h2
      let h1:c≠46:=↑h1
      let ed:(!".").length=1:=rfl;let l1:n\5+(!".").length<=iv:=bK !_;let l2:∀c:gf,(n++nI ".").length+ ~~~(⟨([c].toArray)⟩:jz)<=iv:=λc=>bK (by
       let e:(n++nI ".").length=n\5+(!".").length:=Qu;let e1: ~~~(⟨([c].toArray)⟩:jz)=1:=rfl
       lia)
      let%[lc|le]:=oh J (a:=c) (b:=e) %[h1,h2,j,t,v,r,hv,ab,hc|he];let b5:=ai _ _ a4;rw[Ba,Ba];show%[l1,l2 c,_,get b5 _ (an c lc),l1,l2 e,_,get b5 _ (an e le),#[3]|λp hp=>?_];let sp:=ah.Qa (o:= .tup [V.str (g (lnS n (sgn c))),V.str (g (lnS n (sgn e))),V.str n]) hp;let co:=A9 ae (a2 _ (a6 _ cl));show%[_,h9.t (k:=(dW g (iA n [sgn c,sgn e])).map hX) (sp _ _ a1) (by rw[aa];rfl) (by rw[PySem.sizeLine_eq];lia)|k6 %[_,_,ρ,λb o e=>by rw[ar (aC e hL)];show sp _ _ (ai _ _ e),(ar ch).trans (sp _ _ a0),_,aa|yz ae _ _ λk=>?_]];rw[<-nx,Zz,HC (hY %[h1|h2]),<-Ze,Zd (f:=iA n),<-Ze,Zd,Yq];show SV QV Yx
     .show k6 %[_,_,rfl,ai,a0,Y,a1|stay (hH λq=>q.2 ↑h2)]
     .show k6 %[_,_,rfl,ai,a0,Y,a1|stay (hH λq=>q.1 ↑h1)]
    .intro σ H3 %[o9,C,rfl,a7,bb,Y,bc|ae];rw[Zn (l:=Nk v.cps.toList r.cps.toList) (by rw[Uk];simp;lia),<-b3]at ae;show k5 %[_,_,_,rfl,a7,bb,Y,bc|ae]
   .intro σ H2 %[o8,o9,C,rfl,I,as,M,O|N];rw[<-B]at N;show k4 %[_,_,_,_,_,_,rfl,I,M,O|N]
  .intro σ H1 %[o5,o6,o7,o8,o9,C,rfl,sm,G,aj|al];rw[bp,Zn (Zi _)]at al;show k2 (am λD3 k3 _=>az λag hK=>?_);lk;let b6:=s0 _ _ hm;show%[qs\5,.inl %[_,Qb.of (sm _ _ b6)|cd.symm],!_,!_|?_];rw[M7];show hK (cm (λi σ H2=>∃bd,σ=[!l,!m,!u,!d,!L,o5,o6,o7,o8,o9,C,bd]/\ah H0 H2/\∃G,H2 L>=.dT G/\e8 G λk=>k>(bG cs++dD qs i).map (dW g))
    %[_,rfl,sm,G,aj|gx al λk=>by rw[show dD qs 0=[]from rfl,Zx]] ?_ ?_)
   .intro i σ H2 hi %[bd,rfl,I,M,O|N];let hi:i<qs\5:=hi;change kO _ _ _ _ [!l,!m,!u,!d,!L,o5,o6,o7,o8,o9,C,fI (.int ((0:md) +(i:md)))] H2;rw[MC];show aB λD4 k4 _=>?_
    obtain⟨q,hq⟩:∃q,qs[i]?>=q:=%[qs[i]|Z4 hi]
    let aq:atI (qs\0) (i:md)>=.ref q.1:=bP (by rw[Zl,hq];rfl);let ac:=bl q (Z8 hq);let st:=SqT.of (K:=K) (I _ _ (s0 _ _ ac.1));let sl:=Qb.of (K:=K) (I _ _ b6);let B:=fW hq;lk;rcases ac.2 with⟨wd,a,b,e,hw,ha,hb,_⟩|⟨wd,a,y,e,hw,_⟩
    .rw[e]at st B;show%[_,sl,_,aq,_,st,_,ρ,ρ|br (λbf=>?_) λbf=>?_]
     .rw[show kq i [V.str wd,V.str a,V.str b]>=[a,b,v7 i]from hY (V.str.inj (Zo bf))]at B;let cp: ~~~(nI (toString (i:md)))<=21:=by
       let e:=PySem.int_text_length_le10 (a:=(i:md)) (k:=20) ∅ (by let:(i:md).natAbs=i:=rfl;lia);rw[PySem.ofString_length];lia
      let e1:(!"#").length=1:=!0
      let b7:=I _ _ a4;show%[_,sl,_,aq,_,st,_,ρ,_,get b7 a ha,_,sl,_,aq,_,st,_,ρ,_,get b7 b hb,(PU (gf.log2_le_self _) (by let:(i:md).natAbs=i:=rfl;lia)),bK !_,#[3]|λp hp=>?_];rw[show nI "#"++nI (toString (i:md))=v7 i from by unfold v7;rw[uN]];let sp:=ah.Qa (o:= .tup [V.str (g a),V.str (g b),V.str (v7 i)]) hp;let co:=A9 N (a2 _ λt ht=>(a3 t).mpr ((Xo ht).imp id λh=>?_))
      .show%[_,h9.t (k:=(dW g [a,b,v7 i]).map hX) (sp _ _ O) (by rw[aa];rfl) (by rw[PySem.sizeLine_eq];lia)|k4 %[_,ρ,λb o e=>by rw[ar (aC e hL)];show sp _ _ (I _ _ e),_,aa|yz N _ _ λk=>?_]];rw[B,<-Ze,Zd,Yq];show SV QV Yx
      .let%[j,hj|e]:=MN.mp h;show MN.mpr %[j,vj.mpr (by let:=vj.mp hj;lia)|e]
     .rw[show kq i [V.str wd,V.str a,V.str b]=fD from hH λz=>bf (Zf (by rw[z]))]at B;show k4 %[_,rfl,I,M,O|?_];rw[B];show gx N λk=>by rw[ij.toList_none,Zx]
    .rw[e]at st B;show%[_,sl,_,aq,_,st,_,ρ,ρ|?_];rw[hH (by rcases hw with rfl|rfl<;> decide)];show k4 %[_,rfl,I,M,O|?_];rw[B];show gx N λk=>by change _↔_>Rf _ (_++(_++[]));rw[Zx]
   .intro σ H2 %[bd,rfl,I,M,O|N];show k3 ?_;lk;let%[ks,q1,q2|q3]:=N;let q3:∀k,k>ks↔k>U.map (dW g):=λk=>by
     show(q3 k).trans ?_;dsimp only;rw[Yv,Yv];show exists_congr λt=>and_congr_left λ_=>by rw[a3,Yq]
    let lk:=rS tok (λz hz=>(lg z hz).2);let c0:ks\5<=250:=by
     let:=_ST.nodup_sub q2 (m:=U.map (dW g)) λk hk=>(q3 k).mp hk
     lia
    let h3:∀k>ks,k\5=3:=λk hk=>by
     let%[a,b,z,a',b',_,_,_|rfl]:=(lk k).mp ((q3 k).mp hk);rfl
    show%[M,O,ks,q1,3,h3,!1,!_|λr ss ab ta pm=>?_];let s2:=ah.Qa (o:= .lst (ss\0)) ab;show kk r _ ss (s0.trans (I.trans s2)) (s0.free (I.free ab)) aa (bg ta λb z e=>s2 _ _ e) %[pm.nodup_iff.mpr q2|λk=>by rw[pm.mem_iff,q3,lk]] (by let:=pm.length_eq;rw[Z6]at this;lia)
def nA(n:jz)(c:gf):lnS n (sgn c)=eJ n c:=by
 show im ?_;change(([].toArray) ++n.cps++ ([46].toArray) ++ ([c].toArray)).toList=(n.cps.toList++[46,c]).toArray.toList;simp
def wp:x>lyr p↔∃c,Let p.2.2 c/\x=eJ p.2.1 c:=by
 unfold lyr;rw[Yv]
 constructor
 .rintro⟨z,b,rfl⟩;let%[c,a|rfl]:=jA b;show%[c,i4.mp a|nA _ _]
 .rintro⟨c,a,rfl⟩;show%[sgn c,bo.mpr (Xr %[c,i4.mpr a|ρ])|nA _ _]
def rY(h:pE d):x>(iI d)\1↔∃c,Let d.rows c/\x=eJ d.name c:=by
 unfold iI Drn.rows;rw[Yp,Yv]
 constructor
 .rintro⟨a,i,rfl⟩;let%[e,f|g]:=gj.mp i;show%[sg a d.sh,(xS h.2.2.2.2.2).mpr %[a,e,f,g|ρ]|ρ]
 .rintro⟨c,g,rfl⟩;let%[a,e,f,b|rfl]:=(xS h.2.2.2.2.2).mp g;show%[a,gj.mpr %[e,f|b]|ρ]
def rZ:∀{xs:fx u},(xs.map m).Nodup->(∀p>xs,(f p).Nodup)->(∀p>xs,∀x>f p,∃c,x=eJ (m p) c)->(xs.flatMap f).Nodup
 |[],_,_,_=>X2
 | p::xs,h,l,i=>by
   rw[Yo,MO]at h;rw[fx.flatMap_cons,Yz];show%[l p Zm,rZ h.2 (λq g=>l q (Zk _ g)) (λq g=>i q (Zk _ g))|λa n b o e=>?_];let%[q,g|j]:=Nc.mp o;let%[c|r]:=i p Zm a n;let%[d|s]:=i q (Zk _ g) b j;let:=(nV (r.symm.trans (e.trans s))).1;show h.1 (Xr %[q,g|this.symm])
def CP(p:hW×jz×ZB):(lyr p).Nodup:=by
 unfold lyr;rw[X1,X7];show Xi (λ{x y} e f a b=>?_) (X1.mp (cu _));let%[c,_|rfl]:=jA e;let%[d,_|rfl]:=jA f;rw[nA,nA]at b;show a (by rw[(nV b).2])
def Ae(d:Drn):((iI d)\1).Nodup:=by
 unfold iI;rw[Yp,X1,X7];show Xi (λ{x y} b c a e=>?_) (X1.mp (xT d.cols));let%[f,g|_]:=gj.mp b;let%[h,i|_]:=gj.mp c;show a (KF f g h i (nV e).2)
def mZ.mono(h:mZ ls xs)(s:∀x>ls,x>ms):mZ ms xs:=by
 rcases h with⟨w,a,b,e,c,d,f,g⟩|⟨w,a,y,e,c,d,f⟩
 .show .inl %[w,a,b,e,c,s _ d,s _ f|g]
 .show .inr %[w,a,y,e,c,s _ d|f]
def Af{d:fx _}{ls:ZB}(h:ls.Perm (d.flatMap lyr)){x:jz}:x>ls↔∃p>d,∃c,Let p.2.2 c/\x=eJ p.2.1 c:=by
 rw[h.mem_iff,Nc]
 constructor
 .rintro⟨p,a,b⟩;show%[p,a|wp.mp b]
 .rintro⟨p,a,b⟩;show%[p,a|wp.mpr b]
def uP(h:∀p>ds,pE p.2):x>(ds.flatMap λp=>(iI p.2)\1)↔∃p>dcs ds,∃c,Let p.2.2 c/\x=eJ p.2.1 c:=by
 rw[Nc]
 constructor
 .rintro⟨p,a,b⟩;show%[_,Xr %[p,a|ρ]|(rY (h p a)).mp b]
 .rintro⟨q,d,b⟩;let%[p,a|rfl]:=Xq d;show%[p,a|(rY (h p a)).mpr b]
def yC{ds:fx (hW×Drn)}(h:∀p>ds,pE p.2)(a:(ds.map λp=>p.2.name).Nodup):(ds.flatMap λp=>(iI p.2)\1).Nodup:=
 rZ a (λp _=>Ae p.2) λp b x d=>by
  let%[c,_|e]:=(rY (h p b)).mp d;show%[c|e]
def nB{a:fx _}(b:(a.map λp=>p.2.1).Nodup){ls:ZB}(h:ls.Perm (a.flatMap lyr)):ls.Nodup:=by
 rw[h.nodup_iff];show rZ b (λp _=>CP p) λp f x d=>by
  let%[c,_|e]:=wp.mp d;show%[c|e]
structure jF (H:Hp) (cs:ZH) (qs:ZN):Prop where
 ca:cQ H cs
 nd:(cs.map λp=>p.2.1).Nodup
 p1:1<=cs\5
 p3:cs\5<=8
 few:∀p>cs,z0 p.2.2
 ly:(cs.flatMap lyr)\5<=63
 sa:∀ls:ZB,ls.Perm (cs.flatMap lyr)->cR H ls qs
 q20:qs\5<=30
def jF.up(h:jF H a qs)(s:ah H b):jF b a qs:=
 %[h.ca.up s,h.nd,h.p1,h.p3,h.few,h.ly,λls p=>(h.sa ls p).up s|h.q20]
inductive sd (K:ZA)
 | mk (a:hW) (ns:ZL):vs=[.ref a]->Qb K H a (ns\4)->GI H->ns\5<=63->(∀H',Q (.bl gb) H')->sd K vs H Q E0
def HE{R:Hp->Prop}(j:H g=fD)(i:H c=fD)(n:H a<*dz h)(r:H b>=.lst (qs\0))(p:jF H h qs)
 (k:∀d ls ts,ah H d->gX mg d g qs ls ts->ls.Perm (h.flatMap lyr)->(∀k,k>ts\2↔k>bG h\/k>dD qs qs.length)->R d):
 v8 mg [.ref g,.ref a,.ref b] (Qa (Qa H c (.own g)) g (.ins (aS mg "Ground") c [])) (λv s=>v= .non/\R s) E0:=by
 let f:ah H (Qa (Qa H c (.own g)) g (.ins (aS mg "Ground") c [])):=λb o e=>by
  rw[ar (aC e j),ar (aC e i)];show e
 show%[g,a,b,c,h,qs,ρ,aa,f _ _ n,f _ _ r,p.ca.up f,p.nd,p.p1,p.p3,p.few,p.ly,λls q=>(p.sa ls q).up f,p.q20|λd ls ts c2 u y z A tk B C E pl G=>%[ρ|k d ls ts (λb o e=>z b o (aC e j) (f _ _ e)) %[%[c2,u,y|A],nB p.nd pl,G,by rw[pl.length_eq];show p.ly,E,λk l=>?_,λk l=>?_|B] pl C]]<;> have%[t,m|rfl]:=Xq l
 .show(tk t m).1
 .show(tk t m).2
inductive Bb (mg:ZC)
 | mk (g:hW) (qs:ZN) (ls:ZB) (ts:ZG):vs=[.ref g]->gX mg H g qs ls ts->(∀H' lk,ah H H'->bx (bj qs) (ts\2) lk->((∀x,¬ Rch lk x x)->Q .non H')/\∀r ws x,H r=fD->H' r>=.lst (ws\0)->aP H' ws->Sho lk x x (ws\2)->ws\5<=300->(∀y n,Dst lk y (n+1) y->ws\5<=n+1)->Q (.ref r) H')->Bb mg vs H Q E0
def KU:↥6 33 (Bb mg):=by
 .exists 33,"ground",B,i,%[g,qs,ls,ts,rfl,a|o];let%[c2,p,q|u]:=a.gr;let O:=a.ll;show%[_,%["JEIG~!AG~RA0BAG~zA0BB",0|i]|?_];change jU _ _ [!g] H;lk;show%[g,c2,p,q,qs,ls,ts,ρ,u,a.nd,a.so,!_|λl U C v Y G d=>?_];show%[g,c2,p,q,qs,ls,ts,ρ,u.up v,a.nd,a.so,!_,a.tl,a.t3|λm H2 ss y fm I j lk J=>?_];let b:=v.trans y;show%[l,m,C,ss,ρ,y _ _ G,d.nd,?_,I,nv j (a.names lk d),J,λn e nr=>(o n _ (b.trans e) lk).1 nr|λr n ws x e L c M=>(o n _ (b.trans e) lk).2 r ws x (b.free L) c.at_ (λt z=>%[(j t (c.sub t z)).1|e _ _ (j t (c.sub t z)).2]) c.sho c.len M];let:=_ST.nodup_sub d.nd λx N=>((d.mem x).mp N).1
  lia
abbrev SD(M:ZB):fx (Key×V):=VD M λ_=> .bl gb
def FL{M:ZB}{x:jz}:∃M2,cA (SD M) (hX x) (.bl gb)=SD M2/\(M.Nodup->M2.Nodup)/\∀y,y>M2↔y>M\/y=x:=by
 by_cases c:x>M
 .show%[M,?_,λh=>h|λy=>%[.inl|λh=>h.elim (λh=>h) λe=>e▸c]];unfold SD;rw[FG c]
  simp_all
 .show%[M++[x],?_,λh=>Yz.mpr %[h,by simp|λa d b f e=>c (by rw[<-Xp f,<-e];show d)]|λy=>by simp];unfold SD;rw[gE _ (qb c)];unfold VD;rw[Zd];rfl
def yD:∀{R M:ZB},∃M2,iD (SD M) (SD R)=SD M2/\(M.Nodup->M2.Nodup)/\∀y,y>M2↔y>M\/y>R
 |[],M=>%[M,rfl,λh=>h|λy=>by simp]
 | x::R,M=>by
   let%[M1,a,n1|b]:=FL;let%[M2,c,d|m2]:=yD (R:=R);show%[M2,?_,λh=>d (n1 h)|λy=>by rw[m2,b,Yu,or_assoc]];change iD (cA _ (hX x) (.bl gb)) (SD R)=_;rw[a,c]
def CQ{ks:fx _}{a c:jz}(r:Rch ks a c):∃y,Ed ks a y/\(y=c\/Rch ks y c):=by
 induction r with
 | one e=>show%[_,e|.inl rfl]
 | more _ e b=>
   let%[y,h|q]:=b;show%[y,h|.inr (q.elim (λq=>q▸ .one e) λq=> .more q e)]
def KW{b:ZB}{ss:ZG}(h:∀t>ss,eD b t.2){x y:jz}(r:Rch (ss\2) x y):y>b:=by
 let:∃a,Ed (ss\2) a y:=by
  cases r with
  | one e=>show%[_|e]
  | more _ e=>show%[_|e]
 let%[a,z|d]:=this;let%[t,f|c]:=Xq d;let%[u,v,w,e,_|g]:=h t f;rw[e]at c;show((Oc (Oc c).2).1)▸g
structure Rea (H:Hp) (ks:fx ZB) (rs:Gs jz):Prop where
 nd:(rs\1).Nodup
 ad:(rs.map (·.2.1)).Nodup
 at_:∀r>rs,H r.2.1>=.dK (SD r.2.2)/\r.2.2.Nodup/\∀y,y>r.2.2↔Rch ks r.1 y
inductive Bc
 | mk (l m:hW) (ns:ZB) (ss:ZG):vs=[.ref l,.ref m]->H l<*ns\3->ns.Nodup->ns\5<=63->H m>=.lst (ss\0)->dF H ns ss->ss\5<=250->(∀x,¬ Rch (ss\2) x x)->(∀d H' (rs:Gs jz),ah H H'->H d=fD->H' d>=.dK (gD rs)->Rea H' (ss\2) rs->(∀r>rs,r.2.1≠d/\H r.2.1=fD)->(∀x,x>rs\1↔x>ns)->Q (.ref d) H')->Bc vs H Q E0
def si:↥4 10 Bc:=by
 .exists 10,"names found beneath reach name link",cd,u,%[l,m,ns,ss,rfl,hl,nn,nl,hm,O,a5,nr|kk];show%[_,%["JDH2G~xA1BDH3)DTVG~yA0A1BM4Dx)34ETV~P~a2A4AUBBM5Dxqh34O5~HEX~2~3h34Ah3O5~HBEI3",D0.nd|u]|?_]
  change aZ _ _ _ [!l,!m,fD,fD,fD,fD] H;show am λD1 k1 _=>?_
  lk;show%[m,ns,ss,ρ,hm,O,a5|λb H1 s1 fb hb=>k1 (am λD2 k2 _=>?_)];lk;intro d fd;show k2 (am λD3 k3 _=>az λa6 hK=>?_);let s2:=ah.Qa (o:= .dK []) fd;let hd:Qa H1 d (.dK []) d>=.dK (gD ([]:Gs jz)):=aa;let Y:=s1.trans s2;let a7:b≠d:=by
   let%[bb,I|_]:=hb;show nq I fd rfl
  let bc:=s1.free fd;let bd:=hb.up s2
  generalize Qa H1 d _=H2 at s2 hd Y bd
  lk;show%[l,m,ns,ss,ρ,Y _ _ hl,nn,nl,Y _ _ hm,O.up Y,a5|λr H3 L s3 aj Ln Ls b4 rest _ _=>%[%[_|Qb.of aj]|hK ?_]];let ce:=s2.trans s3;let bf:∀x>ns,x>L:=λx hx=>M5 λc=>Ff (ks:=ss\2) (U:=ns.filter λx=>decide (x∉L)) (λx hx=>by
   let%[I|J]:=kw.mp hx;let%[y,e,yn|yl]:=rest x I (Zo J);show%[y,kw.mpr %[yn|Zf yl]|e]) nr (kw.mpr %[hx|Zf c])
  let Lm:(L\3)\5=L\5:=Z6 _;let Ll:=_ST.nodup_sub Ln Ls;let bl:=bd.up s3;let al:=Y.trans s3;show cL (λi σ C=>A3 (E2 λo4 o5=>σ=[!l,!m,!b,!d,o4,o5]) (dj d H3 C) (∃rs:Gs jz,A4 (C d>=.dK (gD rs)) (Rea C (ss\2) rs) (∀r>rs,r.2.1≠d/\H3 r.2.1=fD) (rs\1=L.take i)))
   %[%[_,_|rfl],λ_ _ _ e=>e,[],s3 _ _ hd,%[X2,X2|λ_ h=>(nomatch h)],λ_ h=>(nomatch h)|rfl] (λi σ C h=>h.2 _ _ (nq aj (s3 _ _ hd) rfl) aj) ?_ ?_
  .intro i n σ C hn %[%[o4,o5|rfl],sm,rs,ac,g,rn|rk];let tk:L.take (i+1)=L.take i++[n]:=by rw[Xc,hn];rfl
   change aZ _ _ _ [!l,!m,!b,!d,-n,o5] C;show am λD4 k4 _=>?_
   lk;intro e fe;let B:e≠d:=nq fe ac rfl;let an:n∉rs\1:=by
    rw[rk];intro c;let%[j|hj]:=Xh c;let jl:=(Xn hj).1;rw[Yj]at jl;rw[Y9 !_]at hj;let:=iL Ln hj hn
    lia
   let rl:rs\5<=63:=by
    let:(rs\1)\5<=L\5:=by rw[rk,Yj];lia
    rw[Z6]at this
    lia
   let e3:H3 e=fD:=by
    cases q:H3 e with
    | none=>rfl
    | some o=>rw[sm e o B q]at fe;cases fe
   show%[_,h9.k (k:=hX n) (ah.Qa fe _ _ ac) (by unfold gD;rw[Z6];show aF !_)|k4 ?_];rw[gE _ (wc an),show gD rs++[(hX n,V.ref e)]=gD (rs++[(n,e,[])]) by unfold gD;rw[Zd];rfl];let he:Qa (Qa C e (.dK [])) d (.dK (gD (rs++[(n,e,[])]))) e>=.dK (SD []):=by rw[ar B,aa];rfl
   let bm:Qa (Qa C e (.dK [])) d (.dK (gD (rs++[(n,e,[])]))) d=_:=aa;let o4:∀c o,c≠d->C c>=o->Qa (Qa C e (.dK [])) d (.dK (gD (rs++[(n,e,[])]))) c>=o:=λc o h q=>by rw[ar h,ar (aC q fe)];show q
   generalize Qa (Qa C e (.dK [])) d _=H4 at he bm o4
   let aq:dj d H3 H4:=λc o h q=>o4 c o h (sm c o h q)
   show aB λD5 k5 _=>az λa6 hK=>?_
   lk;show%[tyD (aq _ _ a7 bl.choose_spec.1),#[0]|λp hp=>?_];let%[bb,a,bn,b5,ag|b6]:=bl.get aq a7 (λxs c=>by rw[s3 _ _ hd]at c;cases c) hp n;let sp:=ah.Qa (o:= .lst []) hp;let he:=sp _ _ he;let as:=sp _ _ bm;let aR:=aq.trans (dj.of sp);let aU:∀c o,c≠d->C c>=o->Qa H4 p (.lst []) c>=o:=λc o h q=>sp _ _ (o4 c o h q)
   let ae:a≠e:=by
    rcases b6 with rfl|⟨o,ho⟩
    .show λc=>by rw[c]at hp;let:=he;rw[c,aa]at this;cases this
    .show nq ho e3 rfl
   generalize Qa H4 p _=H5 at bn ag he as aR aU ⊢
   generalize bp:(ss.filter λt=>decide (t.2[0]?>=n))=ts at ag
   let tm:(ts\0)\5=ts\5:=Z6 _;let b7:∀t>ts,t>ss/\∃y z,t.2=[n,y,z]:=λt ht=>by
    rw[<-bp]at ht;let%[I|J]:=kw.mp ht;let%[x,y,z,e|_]:=(O t I).2;let J:=Zo J;rw[e]at J;show%[I,y,z|by rw[e,show x=n from Za J]]
   show%[hX n,ρ,bb,bn|zZ b5 %[%[_|Qb.of ag]|hK ?_]];show cL (λj σ N=>A3 (∃o5,σ=[!l,!m,!b,!d,-n,o5]) (dj e H5 N) (∃M:ZB,A4 (N e>=.dK (SD M)) M.Nodup (∀y>M,Rch (ss\2) n y) (∀t>ts.take j,∀y,t.2[1]?>=y->y>M/\∀z,Rch (ss\2) y z->z>M)))
    %[%[_|rfl],λ_ _ _ q=>q,[],he,X2,λ_ h=>(nomatch h)|λ_ h=>(nomatch h)] (λj σ N h=>h.2 _ _ ae ag) ?_ ?_
   .intro j t σ N ht %[%[o5|rfl],v,M,hM,Mn,Mr|Md];let%[bt,y,z|et]:=b7 t (Z8 ht);change aZ _ _ _ [!l,!m,!b,!d,-n,fI (.ref t.1)] N;show am λD6 k6 _=>?_
    lk;let a0:∀c o,c≠d->c≠e->H3 c>=o->N c>=o:=λc o I J q=>v c o J (aR c o I q)
    let te:∀c zs,H3 c&&&zs->N c&&&zs:=λc zs q=>a0 c _ (nq q (s3 _ _ hd) rfl) (nq q e3 rfl) q
    let t6:=te _ _ (al _ _ (O t bt).1);rw[et]at t6;let a1:=v d _ B.symm as;let ai:bD (gD (rs++[(n,e,([]:ZB))])) (hX n)>=.ref e:=by
     let%[r,b9,e1|hv]:=oy (rs:=rs++[(n,e,[])]) (y:=n) ∅;rcases Xo b9 with q|q
     .show(an (e1▸Xr %[r,q|rfl])).elim
     .rw[Xp q]at hv;show hv
    let gn:=cZ.k (k:=hX n) a1;rw[ai]at gn;let ed:Ed (ss\2) n y:=%[z|et▸Xr %[t,bt|rfl]]
    let yt:=b4 i n hn y ed;rw[<-rk]at yt;let%[M1,e1,n1|m1]:=FL (M:=M) (x:=y);let a2:∀U:ZB,U.Nodup->(∀x>U,Rch (ss\2) n x)->U\5<=63:=λU I J=>lx (_ST.nodup_sub I λx hx=>KW (λt ht=>(O t ht).2) (J x hx)) nl
    let Ml:=a2 M Mn Mr;show%[_,gn,_,SqT.of t6,_,ρ,_,h9.k (k:=hX y) hM (by unfold SD VD;rw[Z6];show aF !_)|k6 (aB λD7 k7 _=>?_)];rw[e1];let bU:∀x>M1,Rch (ss\2) n x:=λx hx=>((m1 x).mp hx).elim (Mr x) λq=>q▸ .one ed
    let a3:Qa N e (.dK (SD M1)) e>=.dK (SD M1):=aa;let u7:∀c o,c≠e->N c>=o->Qa N e (.dK (SD M1)) c>=o:=λc o h q=>(ar h)▸q
    generalize Qa N e _=H7 at a3 u7
    let b0:=cZ.k (k:=hX n) (u7 _ _ B.symm a1);rw[ai]at b0;let%[ry,G,ey|gy]:=oy (rs:=rs++[(n,e,[])]) (y:=y) (Zd▸Ys _ yt);let G:ry>rs:=by
     rcases Xo G with q|q
     .show q
     .rw[Xp q]at ey;show(nr n (.one (by rw[<-show n=y from ey]at ed;show ed))).elim
    let b1:=cZ.k (k:=hX y) (u7 _ _ B.symm a1);rw[gy]at b1;let a4:ry.2.1≠e:=aC (g.at_ ry G).1 fe;let ca:=u7 _ _ a4 (v _ _ a4 (aU _ _ (rn ry G).1 (g.at_ ry G).1));lk;let%[M2,e2,n2|m2]:=yD (R:=ry.2.2) (M:=M1);let ab:=(g.at_ ry G).2;rw[ey]at ab;let ch:=a2 M1 (n1 Mn) bU;let Rl:=a2 ry.2.2 ab.1 λx hx=>(Rch.one ed).trans ((ab.2 x).mp hx)
    show%[_,b0,tyD (a3),_,SqT.of (u7 _ _ (nq t6 hM rfl) t6),_,ρ,_,b1,_,_,a4.symm,a3,ca,by unfold SD VD;rw[Z6,Z6,PySem.sizeLine_eq];lia|?_];rw[e2];show k7 %[%[_|rfl],λc o h q=>(ar h)▸u7 c o h (v c o h q),M2,aa,n2 (n1 Mn),λx hx=>?_|λt' b2 x ex=>?_]
    .rcases(m2 x).mp hx with q|q
     .show bU x q
     .show(Rch.one ed).trans ((ab.2 x).mp q)
    .rw[Xc,ht]at b2;rcases Xo b2 with q|q
     .let%[I|J]:=Md t' q x ex;show%[(m2 x).mpr (.inl ((m1 x).mpr (.inl I)))|λz hz=>(m2 z).mpr (.inl ((m1 z).mpr (.inl (J z hz))))]
     .rw[show t'=t from Xp q,et]at ex;obtain rfl:y=x:=Za ex;show%[(m2 y).mpr (.inl ((m1 y).mpr (.inr rfl)))|λz hz=>(m2 z).mpr (.inr ((ab.2 z).mpr hz))]
   .intro σ N %[%[o5|rfl],v,M,hM,Mn,Mr|Md];rw[Zn (Zi _)]at Md;let all:∀y,y>M↔Rch (ss\2) n y:=λy=>%[Mr y|λr=>by
     let%[x,%[z|hz]|q]:=CQ r;let%[t,ht|et]:=Xq hz;let h:=Md t (bp▸kw.mpr %[ht|by rw[et];simp]) x (by rw[et];rfl);show q.elim (λq=>q▸h.1) λq=>h.2 y q]
    let b3:∀r>rs,r.2.1≠e:=λr u=>aC (g.at_ r u).1 fe
    show k5 %[%[_,_|rfl],λc o h q=>v c o (aC q e3) (aR c o h q),rs++[(n,e,M)],?_,%[?_,?_|λr u=>?_],λr u=>?_|by rw[Zd,rk,tk];rfl]
    .rw[v d _ B.symm as];unfold gD;rw[Zd,Zd];rfl
    .rw[Zd,Yz];show%[g.nd,by simp|λa ha b hb c=>an (by rw[<-show b=n from Xp hb,<-c];show ha)]
    .rw[Zd,Yz];show%[g.ad,by simp|λa ha b hb c=>?_];let%[r,u|rfl]:=Xq ha;show b3 r u (c.trans (Xp hb))
    .rcases Xo u with q|q
     .show%[v _ _ (b3 r q) (aU _ _ (rn r q).1 (g.at_ r q).1)|(g.at_ r q).2]
     .rw[Xp q];show%[hM,Mn|all]
    .rcases Xo u with q|q
     .show rn r q
     .rw[Xp q];show%[B|e3]
  .intro σ C %[%[o4,o5|rfl],sm,rs,ac,g,rn|rk];rw[Zn (Zi _)]at rk;show k3 ?_;lk;show kk d C rs (λc o e=>sm c o (aC e bc) (al _ _ e)) bc ac g (λr u=>%[(rn r u).1|al.free (rn r u).2]) λx=>rk▸%[Ls x|bf x]
structure ReF (H:Hp) (ks:fx ZB) (d:hW) (rs:Gs jz):Prop where
 at_:∃o,H d>=.frz o (.dK (gD rs))
 nd:(rs\1).Nodup
 in_:∀r>rs,(∃o,H r.2.1>=.frz o (.dK (SD r.2.2)))/\r.2.2.Nodup/\∀y,y>r.2.2↔Rch ks r.1 y
def ReF.up{H a:Hp}{ks:fx _}{d:hW}{rs:Gs jz}(h:ReF H ks d rs)(s:ah H a):ReF a ks d rs:=
 %[h.at_.imp λo e=>s _ _ e,h.nd|λr b=>%[(h.in_ r b).1.imp λo e=>s _ _ e|(h.in_ r b).2]]
def ReF.same{H:Hp}{ks ms:fx _}{d:hW}{rs:Gs jz}(h:ReF H ks d rs)(e:∀k,k>ks↔k>ms):ReF H ms d rs:=%[h.at_,h.nd|(fC e)▸h.in_]
inductive Bd
 | mk (l m:hW) (ns:ZB) (ss:ZG):vs=[.ref l,.ref m]->H l<*ns\3->ns.Nodup->ns\5<=63->H m>=.lst (ss\0)->dF H ns ss->ss\5<=250->(∀x,¬ Rch (ss\2) x x)->(∀d H' (rs:Gs jz),ah H H'->ReF H' (ss\2) d rs->(∀x,x>rs\1↔x>ns)->Q (.ref d) H')->Bd vs H Q E0
def lB(T:Txt K mg):Cal P w K mg base 4 "all_beneath" ↑"names found" Bd:=by
 show(si T).freeze.imp λvs H Q E zqw=>?_;let%[l,m,f,ss,g,h,i,j,n,p,s,u|v]:=zqw;show %[l,m,f,ss,g,h,i,j,n,p,s,u|λd C rs y G z a A B=>%[d::rs.map _|λI=>v d _ rs (λc o e=>?_) %[%[_|kH Zm z],a.nd|λr b=>%[%[_|kH (Zk _ (Xr %[r,b|ρ])) (a.at_ r b).1]|(a.at_ r b).2]] B]]
 rw[j3]
 .show y c o e
 .intro q;rcases Yu.mp q with rfl|q
  .lia
  .let%[r,b|rfl]:=Xq q;rw[(A r b).2]at e;cases e
inductive Be (mg:ZC)
 | mk (g:hW) (qs:ZN) (ls:ZB) (ts:ZG):vs=[.ref g]->gX mg H g qs ls ts->(∀lk,bx (bj qs) (ts\2) lk->∀x,¬ Rch lk x x)->(∀d H' (rs:Gs jz) lk ns,ah H H'->bx (bj qs) (ts\2) lk->yj (bj qs) ls ns->ReF H' lk d rs->(∀x,x>rs\1↔x>ns)->Q (.ref d) H')->Be mg vs H Q E0
def sj(T:Txt K mg):Cal P w K mg base 7 "earlier_ones" ["ground"] (Be mg):=by
 .exists T.b2,dS,o,c,%[g,qs,ls,ts,rfl,a,nr|p];let%[c2,q,r|u]:=a.gr;let N:=a.ll;show%[_,%["JDH1G~[A0BEIG]/AG~RA0BA1B",dS.nd|c]|?_]
  change aZ _ _ _ [fI _,fD] H;show am λO k1 _=>?_
  lk;show%[g,qs,ls,ts,ρ,a,nr|λl U v ss j y z B lk=>k1 ?_];lk;show%[g,c2,q,r,qs,ls,ts,ρ,u.up j,a.nd,a.so,!_|λm Y e i fm C b=>?_];let nl:e\5<=63:=by
   let:=_ST.nodup_sub b.nd λx G=>((b.mem x).mp G).1
   lia
  show%[m,l,e,ss,ρ,C,b.nd,nl,i _ _ y,λt n=>%[i _ _ (z t n).1|a.names lk b _ (Xr %[t,n|ρ])],B,nr _ lk|λd I rs J L M=>p d I rs _ e (j.trans (i.trans J)) lk b L M]
structure yE (mg:ZC) (H:Hp) (g:hW) (qs:ZN) (ls:ZB) (ts:ZG) (lk:fx ZB):Prop where
 gr:gX mg H g qs ls ts
 li:bx (bj qs) (ts\2) lk
 nr:∀x,¬ Rch lk x x
def yE.up{mg:ZC}{H a:Hp}{g:hW}{qs:fx _}{ls:ZB}{ts:fx _}{lk:fx _}(h:yE mg H g qs ls ts lk)(s:ah H a):yE mg a g qs ls ts lk:=%[h.gr.up s,h.li|h.nr]
def yE.all{mg:ZC}{H:Hp}{g:hW}{qs:ZN}{ls:ZB}{ts:ZG}{lk:fx ZB}(h:yE mg H g qs ls ts lk)(a:fx ZB)(h':bx (bj qs) (ts\2) a):∀x,¬ Rch a x x:=by
 rw[fC (h'.mm h.li)];show h.nr
abbrev Up(lk:fx ZB)(a b:jz):Prop:=a=b\/Rch lk a b
abbrev tTru(K:ZA)(b:TE):TT:=λc H Q=>b c H λx a=>∃k,BA K x a k/\Q k a
def truN{X:Cx}{K:ZA}{a:tI}{c:TE}(h:X.K=K)(d:∀b,RV a X.env b=(do let v<-b;Oy a.pos;O7 [v] (Tl v)))(e:QE X a c):QT X a (tTru K c):=truT h d e
noncomputable abbrev Yr:=hW×gf×jz×md
abbrev pF(H:Hp)(ys:fx Yr):Prop:=∀t>ys,H t.1&&&[.int t.2.1,.str t.2.2.1,.int t.2.2.2]
def pF.up{H a:Hp}{ys:fx Yr}(h:pF H ys)(s:ah H a):pF a ys:=λt b=>s _ _ (h t b)
def KY{M:ZB}{y:jz}:(bD (SD M) (hX y)).isSome=gb↔y>M:=by
 by_cases c:y>M
 .unfold SD;rw[oz c];simp[c]
 .unfold SD;rw[qb c];simp[c]
inductive FM
 | mk (d:hW) (x y:jz) (ks:fx ZB) (rs:Gs jz):vs=[.ref d,.str x,.str y]->ReF H ks d rs->x>rs\1->(∀b:on,(b=gb↔Up ks x y)->Q (.bl b) H)->FM vs H Q E0
abbrev upB(ks:fx ZB)(a b:jz):on:= @decide (Up ks a b) (SO _)
def Bf{ks:fx _}{a b:jz}:upB ks a b=gb↔Up ks a b:= @NC _ (SO _)
inductive Bg (up:on)
 | mk (l d:hW) (x:jz) (ks:fx ZB) (rs:Gs jz) (ys:fx Yr):vs=[.ref l,.ref d,.str x]->H l>=.lst (ys\0)->pF H ys->ReF H ks d rs->x>rs\1->(∀t>ys,t.2.2.1>rs\1)->ys\5<=60->(∀r H',ah H H'->H r=fD->H' r>=.lst ((ys.filter λt=>if up then upB ks t.2.2.1 x else upB ks x t.2.2.1)\0)->Q (.ref r) H')->Bg up vs H Q E0
def kM{ys:fx Yr}{p:Yr->on}{j:gf}(a:j<ys\5):(ys.take (j+1)).filter p=(ys.take j).filter p++if p ys[j]=gb then [ys[j]]else []:=by
 rw[Xc,Z4 a,Y1];rw[show(fI _).toList=[ys[j]]from rfl,Qz,Y4]
def yF{ys:fx Yr}{p:Yr->on}{j:gf}(h:ys\5<=60): ~~~(((ys.take j).filter p)\0)<=60:=by
 rw[Z6];show lx (Yg _ _) (lx (fx.length_take_le' ..) h)
def nC:↥1 78 FM:=by
 .exists 78,"reach upper lower",j,e,%[d,x,y,ks,rs,rfl,g,l|i];show%[_,%["JEI~kst12&]:2h01",0|e]|?_];change jU _ _ [fI _,fI _,fI _] H;let%[r,a,m|n]:=oy l;let%[o|p]:=g.at_;let%[%[q|b],nd|mem]:=g.in_ r a;lk;by_cases c:x=y
  .rw[hY (Zf c)];show i gb %[λ_=> .inl c|λ_=>rfl]
  .rw[hH (by simp[c])];show%[_,.inl %[_,hX x,.inr %[o|p],ρ|n.symm],_,.inl %[_,hX y,.inr %[q|b],ρ|ρ]|i _ ?_];rw[KY,mem,m];show%[.inr|λh=>h.resolve_left c]
def pG:↥2 77 (Bg gb):=by
 .exists 77,"bys reach name",y,z,%[l,d,x,ks,rs,ys,rfl,q,B,C,O,G,I|J];show%[_,%["JEIiZ?1V0W0?2!];G]<AK1AO0]=AK2B0",0,↑(↑"said reach name",[(1,1),(2,2)]),↑["said","reach","name"]|z]|?_];change jU _ _ [!l,!d,-x] H;show aD λr L=>?_
  lk;show%[%[_|Qb.of q]|L λF m=>?_];show dL (λj vs n e=>A4 (∃u,n=[u,!d,-x]) (ah H e) (e F<*vs) (vs=(((ys.take j).filter λt=>upB ks t.2.2.1 x)\0)))
   %[%[fD|rfl],ah.Qa m,aa|rfl] (λ_ _ _ e o=>o.2 _ _ q) ?_ ?_
  .intro j vs n e i %[%[u|rfl],g,a|rfl];let v:=Yb i;let M:=g _ _ (B _ v);lk;show%[_,SqT.of M,_,ρ,d,_,x,ks,rs,ρ,C.up g,G _ v|λb N=>%[b,ρ|?_]];obtain rfl:b=upB ks _ x:=N1.mpr (N.trans Bf.symm);show br (λc=>CK.mk i a (by let:=yF (p:=λt=>upB ks t.2.2.1 x) (j:=j) I;show aF !_) %[%[_|rfl],ah.set g m,aa|?_]) λc=>CN.mk i %[%[_|rfl],g,a|?_]
   .rw[kM i,hY c,Zd];rfl
   .rw[kM i,hH c,Zx]
  .intro vs n e %[_,g,a|rfl];rw[Zn (Zi _)]at a;show J F e g m a
abbrev YS(qs:ZN)(wd:jz)(n:gf)(d:jz)(y:md):Prop:=∃q a,qs[n]?>=q/\q.2=[.str wd,.str a,.int y]/\cN (bj qs) a d
inductive yG (mg:ZC)
 | mk (g:hW) (wd:jz) (qs:ZN) (ls:ZB) (ts:ZG):vs=[.ref g,.str wd]->gX mg H g qs ls ts->(wd="since"\/wd="by")->qs\5<=60->(∀l H' (ys:fx Yr),ah H H'->H l=fD->H' l>=.lst (ys\0)->pF H' ys->(∀n d y,(n,d,y)>ys\2↔YS qs wd n d y)->ys\5<=60->Q (.ref l) H')->yG mg vs H Q E0
def fY:↥4 76 (yG mg):=by
 .exists 76,"ground word names sayings",ai,M,%[g,wd,qs,ls,ts,rfl,hg,hw,ql|kk];let%[c2,c3,c4|gr]:=hg.gr;let ll:=hg.ll;show%[_,%["JDu2abG~tA0BDH3~G~|0EIiZ?1~LA3BfNW0?2NW1?2g!LtO1CK3kA0AhK2O1CAO1CB",D0.nd,↑(↑"number saying names word",[(2,2),(3,1)]),↑["number","saying","names","word"]|M]|?_]
  change aZ _ _ _ [!g,-wd,fD,fD] H;show am λD1 k1 _=>?_
  lk;show%[g,c2,c3,c4,qs,ls,ts,ρ,gr,hg.nd,hg.so,!_|λd H1 r s1 fd hd M=>k1 (am λD2 k2 _=>?_)];let C:=gr.up s1;lk;show om C (.inr (.inl rfl)) %[g,c2,c3,c4,qs,ls,ts,rfl,C|λl1 ab=>k2 ?_];let s2:=ah.Qa (o:= .lst (qs\0)) ab;let u:Qa H1 l1 (.lst (qs\0)) l1=_:=aa;let sa:=(C.up s2).sa;let hd:=s2 _ _ hd;let G:=s1.trans s2
  generalize Qa H1 l1 _=H2 at s2 u hd G sa
  show aD λag hK=>?_
  lk;show%[_,Qb.of u|hK λF hF=>?_];show b8 (J:=Ite K l1 (qs\0)) (n:=qs\5) (D:=F) (λj vs O m=>A4 (E2 λo1 o2=>O=[o1,o2,!d,-wd]) (ah H2 m) (m F<*vs) (∃ys:fx Yr,A4 (vs=ys\0) (pF m ys) (ys\5<=j) (∀n d y,(n,d,y)>ys\2↔n<j/\YS qs wd n d y)))
   %[%[fD,fD|rfl],ah.Qa hF,aa,[],rfl,(λ_ h=>nomatch h),Zi _|by simp] (λj ys O m z I=>%[Qb.of (I.2 _ _ u)|by rwa[Z6]]) (λys O m I=>%[Qb.of (I.2 _ _ u)|by rw[Z6];show Zi _]) ?_ ?_
  .intro j vs O m z %[%[o1,o2|rfl],v,i,ys,rfl,L,yl|ym] _ _ %[x,t0,hx,ac,rfl|rfl];rw[Zl,Z4 z]at hx;obtain rfl:V.ref qs[j].1=x:=Za hx;let sT:=ah.Qa (o:= .tup [.int j,.ref qs[j].1]) ac;let g0:Qa m t0 (.tup [.int j,.ref qs[j].1]) t0=_:=aa;let i:=sT _ _ i;let L:=L.up sT;let v:=v.trans sT
   generalize Qa m t0 _=H3 at sT g0 i L v
   let%[tu|ok]:=(sa.up v) _ (Yb z);show%[_,SqT.of g0,ρ,_,_,ρ,_,_,ρ,ρ|?_];change wF _ [fI (.int j),fI (.ref qs[j].1),!d,-wd] _ _;lk;let ex:∃N v1 v2,qs[j].2=[.str N,v1,v2]/\(N=wd->∃a y,v1=V.str a/\v2=V.int y/\a>ls):=by
    rcases ok with⟨N,a,b,e,ae,_⟩|⟨N,a,y,e,_,U,_⟩
    .show%[_,_,_,e|λc=>?_];rcases hw with B|B<;> rcases ae with l|l<;> show lr (B.symm.trans (c.symm.trans l)) (!1)
    .show%[_,_,_,e|λ_=>%[a,y,ρ,ρ|U]]
   let%[N,v1,v2,e|he]:=ex;rw[e]at tu;show%[_,SqT.of tu,_,ρ,ρ|br (λc=>?_) λc=>?_]
   .obtain rfl:N=wd:=V.str.inj (Zo c);let%[a,y,rfl,rfl|U]:=he rfl;let get:=cZ.k (k:=hX a) (v _ _ hd);rw[iJ U]at get;show%[_,SqT.of tu,_,ρ,_,get,_,SqT.of tu,_,ρ,#[3]|λp hp=>?_];let sp:=ah.Qa (o:= .tup [.int j,.str (r a),.int y]) hp;let gp:Qa H3 p (.tup [.int j,.str (r a),.int y]) p=_:=aa
    generalize Qa H3 p _=H4 at sp gp ⊢
    show CK.mk z (sp _ _ i) (by rw[Z6];show aF !_) %[%[_,_|rfl],ah.set (v.trans sp) hF,aa,ys++[(p,j,r a,y)],by rw[Zd];rfl,λt ht=>?_,by rw[Z9];show Ri yl|λn d' y'=>?_]
    .show e7 (sp _ _ i) _ _ ?_;rcases Xo ht with q|q
     .show sp _ _ (L t q)
     .rw[Xp q];show gp
    .rw[Zd,Yq,ym];change _\/(n,d',y')>[(j,r a,y)]↔_;rw[Yx]
     constructor
     .rintro(⟨B,l⟩|h)
      .show%[!_|l]
      .cases h;show%[Ym _,_,a,Z4 z,e|(M a U).2]
     .rintro⟨B,l⟩;rcases NH.mp B with h|rfl
      .show .inl %[h|l]
      .let%[q,a',Y,e2|l2]:=l;rw[Z4 z]at Y;cases Y;rw[e]at e2;cases e2;rw[(M a U).2.one l2];show .inr rfl
   .show CN.mk z %[%[_,_|rfl],v,i,ys,rfl,L,!_|λn d' y'=>?_];rw[ym]
    constructor
    .rintro⟨B,l⟩;show%[!_|l]
    .rintro⟨B,l⟩;show%[?_|l];rcases NH.mp B with h|rfl
     .show h
     .let%[q,a',Y,e2|_]:=l;rw[Z4 z]at Y;cases Y;rw[e]at e2;cases e2;show lr (Zf rfl) c
  .intro vs O m %[_,v,i,ys,rfl,L,yl|ym];show kk F m ys (G.trans v) (G.free hF) i L (λn d y=>(ym n d y).trans %[λh=>h.2|λh=>⟨by let%[q,_,e|_]:=h;show(Xn e).1,h⟩]) !_
def YS.in_{mg:ZC}{H:Hp}{g:hW}{qs:fx _}{ls c:ZB}{ts:fx _}{wd d:jz}{n:gf}{y:md}(b:gX mg H g qs ls ts)(f:yj (bj qs) ls c)(h:YS qs wd n d y):d>c:=by
 let%[q,a,i,o|l]:=h;let%[c2,p,r|b]:=b.gr;let j:a>ls:=by
  rcases(b.sa q (Z8 i)).2 with⟨m,x,z,e,_⟩|⟨m,x,z,e,_,s,_⟩
  .grind
  grind
 show(f.mem d).mpr %[l.1.within (iB b.sa) j|jD l l.1]
abbrev Cls(qs:ZN)(lk:fx ZB)(i j:gf):Prop:=∃d x y z,YS qs "since" i d y/\YS qs "by" j x z/\Up lk x d/\GT.gt y z
abbrev PrN(H:Hp)(ps:fx (hW×gf×gf)):Prop:=∀t>ps,H t.1&&&[.int t.2.1,.int t.2.2]
inductive FN (mg:ZC)
 | mk (g:hW) (qs:ZN) (ls:ZB) (ts:ZG):vs=[.ref g]->gX mg H g qs ls ts->(∀lk,bx (bj qs) (ts\2) lk->∀x,¬ Rch lk x x)->qs\5<=60->(∀l H' (ps:fx (hW×gf×gf)) lk,bx (bj qs) (ts\2) lk->ah H H'->H' l>=.lst (ps\0)->PrN H' ps->(∀i j,(i,j)>ps\2↔Cls qs lk i j)->ps\5<=3600->Q (.ref l) H')->FN mg vs H Q E0
def oA(T:Txt K mg):Cal P w K mg base 8 "clashing_pairs" ["ground"] (FN mg):=by
 .exists T.br,aI,a2,U,%[g,qs,ls,ts,rfl,hg,nr,ql|kk];show%[_,%["JDH1G]>A0BDH2G~4A0AYBDH3UBDTVG~4A0AYBfN~U4abNM5N~U6abgEX~m~n3AiZ?1VG]^A2A1A5BW0?2!L:K2O0]_kAK1AO0]|BBEI3",aI.nd,↑(↑"said number year",[(1,4),(2,6)]),↑["said","number","year"]|U]|?_]
  change aZ _ _ _ [!g,fD,fD,fD,fD,fD,fD] H;show am λD1 k1 _=>?_
  lk;show%[g,qs,ls,ts,ρ,hg,nr|λd H1 rs lk ns s1 li hn G rn=>k1 (am λD2 k2 _=>?_)];lk;show%[g,_,qs,ls,ts,ρ,hg.up s1,.inr rfl,ql|λl2 H2 zs s2 a3 n za zm zl=>k2 (am λD3 k3 _=>?_)];let ag:=s1.trans s2;lk;show%[Xg _|λL hL=>k3 (am λD4 k4 _=>az λa1 hK=>?_)];let sL:=ah.Qa (o:= .lst []) hL;let gL:Qa H2 L (.lst []) L=_:=aa;let G:=(G.up s2).up sL;let an:l2≠L:=nq n hL rfl;let n:=sL _ _ n;let za:=za.up sL;let fL:=ag.free hL;let Y:=ag.trans sL
  generalize Qa H2 L _=H3 at sL gL G n za Y
  lk;show%[g,_,qs,ls,ts,ρ,hg.up Y,.inl rfl,ql|λl1 H4 ys s4 aq ai ya ym yl=>%[%[_|Qb.of ai]|hK ?_]];let as:l1≠L:=nq aq gL rfl;let gL:=s4 _ _ gL;let G:=G.up s4;let n:=s4 _ _ n;let za:=za.up s4;show cL (us:=ys) (f:=λt=>V.ref t.1) (λi J v=>A3 (E3 λo4 o5 o6=>J=[!g,!d,!l2,!L,o4,o5,o6]) (dj L H4 v) (∃ps:fx (hW×gf×gf),A4 (v L>=.lst (ps\0)) (PrN v ps) (ps\5<=60*i) (∀a b,(a,b)>ps\2↔∃t>ys.take i,t.2.1=a/\∃u>zs,u.2.1=b/\Up lk u.2.2.1 t.2.2.1/\GT.gt t.2.2.2 u.2.2.2)))
   %[%[_,_,_|rfl],(λ_ _ _ h=>h),[],gL,(λ_ h=>nomatch h),Zi _|by simp] (λi J v ab=>ab.2 _ _ as ai) ?_ ?_
  .intro i x J v hx %[%[o4,o5,o6|rfl],sx,ps,B,pa,pl|pm];let fX:∀{c o},H4 c>=o->(∀xs,o≠ .lst xs)->v c>=o:=λ{c o} h q=>sx c o (λz=>by rw[z,gL]at h;show q _ (Za h).symm) h
   let xm:=Z8 hx;let tx:=fX (ya x xm) (λ_=>nofun);let aR:ReF v lk d rs:=%[G.at_.imp λo h=>fX h (λ_=>nofun),G.nd|λr U=>%[(G.in_ r U).1.imp λo h=>fX h (λ_=>nofun)|(G.in_ r U).2]]
   let aj:pF v zs:=λt m=>fX (za t m) (λ_=>nofun)
   let rx:x.2.2.1>rs\1:=(rn _).mpr (((ym _ _ _).mp (Xr %[x,xm|rfl])).in_ hg hn);show%[_,SqT.of tx,ρ,_,_,ρ,_,_,ρ,_,_,ρ,ρ|?_];change kY _ _ [!g,!d,!l2,!L,fI (.int x.2.1),fI (.str x.2.2.1),fI (.int x.2.2.2)] v;show aB λD5 k5 _=>?_
   lk;show%[tyL (Qb.of B)|?_];show aD λaU a0=>?_
   lk;show%[l2,d,_,lk,rs,zs,ρ,sx _ _ an n,aj,aR,rx,(λt m=>(rn _).mpr (((zm _ _ _).mp (Xr %[t,m|ρ])).in_ hg hn)),zl|λr H5 s5 fr ac=>%[%[_|Qb.of ac]|a0 λF hF=>?_]];let ul:=yF (p:=λt=>if gb=gb then upB lk t.2.2.1 x.2.2.1 else upB lk x.2.2.1 t.2.2.1) (j:=zs\5) zl;rw[RR,Z6]at ul;let um:∀u,u>(zs.filter λt=>if gb=gb then upB lk t.2.2.1 x.2.2.1 else upB lk x.2.2.1 t.2.2.1)↔u>zs/\Up lk u.2.2.1 x.2.2.1:=λu=>by
    rw[kw];show PP λ_=>Bf
   generalize (zs.filter λt=>if gb=gb then upB lk t.2.2.1 x.2.2.1 else upB lk x.2.2.1 t.2.2.1)=us at ac um ul
   let ua:pF H5 us:=λt m=>s5 _ _ (aj t ((um t).mp m).1)
   show dL (λj vs J M=>(∃o1,J=[o1,fI (.int x.2.1),fI (.int x.2.2.2)])/\ah H5 M/\M F<*vs/\∃l:fx (hW×gf×gf),vs=l\0/\PrN M l/\l\5<=j/\l\2=((us.take j).filter λu=>decide (u.2.2.2<x.2.2.2)).map λu=>(x.2.1,u.2.1))
    %[%[fD|rfl],ah.Qa hF,aa,[],rfl,(λ_ h=>nomatch h),Zi _|rfl] (λ_ _ _ M ab=>ab.2.1 _ _ ac) ?_ ?_
   .intro j vs J M hj %[%[o1|rfl],sm,C,l,rfl,ra,rl|rm];let tu:=sm _ _ (ua _ (Yb hj));lk;show%[_,SqT.of tu,_,ρ|br (λc=>%[_,SqT.of tu,_,ρ,#[2]|λp hp=>?_]) λc=>CN.mk hj %[%[_|ρ],sm,C,l,ρ,ra,!_|?_]]
    .let sp:=ah.Qa (o:= .tup [.int x.2.1,.int us[j].2.1]) hp;let gp:Qa M p (.tup [.int x.2.1,.int us[j].2.1]) p=_:=aa
     generalize Qa M p _=H7 at sp gp ⊢
     show CK.mk hj (sp _ _ C) (by rw[Z6];show aF !_) %[%[_|rfl],ah.set (sm.trans sp) hF,aa,l++[(p,x.2.1,us[j].2.1)],by rw[Zd];rfl,λt m=>?_,by rw[Z9];show Ri rl|?_]
     .show e7 (sp _ _ C) _ _ ?_;rcases Xo m with q|q
      .show sp _ _ (ra t q)
      .rw[Xp q];show gp
     .rw[kM hj,hY c,Zd,Zd,rm];rfl
    .rw[kM hj,hH c,Zx,rm]
   .intro vs J M %[_,sm,C,l,rfl,ra,rl|rm];rw[Zn (Zi _)]at rm;let ae:=s5.trans sm;let al:=ae _ _ B;let a4:F≠L:=nq hF (s5 _ _ B) rfl;show%[_,al,_,C,by rw[Z6,Z6,PySem.sizeLine_eq];let:=(Xn hx).1;lia|k5 %[%[_,_,_|ρ],(λb o h q=>by rw[ar h];show ae _ _ (sx b o h q)),ps++l,by rw[aa,Zd],λt m=>?_,by rw[Z9];lia|λa b=>?_]]
    .show e7 al _ _ ?_;rcases Xo m with q|q
     .show ae _ _ (pa t q)
     .show ra t q
    .rw[Zd,Yq,pm,rm,Xc,hx];change _↔∃t>ys.take i++[x],_
     constructor
     .rintro(⟨t,m,h⟩|h)
      .show%[t,Ys _ m|h]
      .let%[u,N|e]:=Xq h;let%[I|O]:=kw.mp N;cases e;show%[x,Yt _ Zm,ρ,u,((um u).mp I).1,ρ,((um u).mp I).2|Zo O]
     .rintro⟨t,m,rfl,u,N,rfl,I,O⟩;rcases Xo m with q|q
      .show .inl %[t,q,rfl,u,N,rfl,I|O]
      .obtain rfl:=Xp q;show .inr (Xr %[u,kw.mpr %[(um u).mpr %[N|I]|Zf O]|rfl])
  .intro J v %[%[o4,o5,o6|rfl],sx,ps,B,pa,pl|pm];rw[Zn (Zi _)]at pm;show k4 ?_;lk;show kk L v ps lk li (λb o h=>sx b o (aC h fL) ((Y.trans s4) _ _ h)) B pa (λi j=>(pm i j).trans ?_) !_
   constructor
   .rintro⟨t,m,rfl,u,N,rfl,I,O⟩;show%[_,_,_,_,(ym _ _ _).mp (Xr %[t,m|ρ]),(zm _ _ _).mp (Xr %[u,N|ρ]),I|O]
   .rintro⟨d',x,y,z,I,O,h3,h4⟩;let%[t,m|e1]:=Xq ((ym _ _ _).mpr I);let%[u,N|e2]:=Xq ((zm _ _ _).mpr O);show%[t,m,by rw[e1],u,N,by rw[e2],by rw[e1,e2];show h3|by rw[e1,e2];show h4]
abbrev ND(L:fx gf)(f:gf->V):fx (Key×V):=L.map λn:gf=>(nX (n:md),f n)
def Ag{L:fx gf}{f:gf->V}{x:gf}(h:x>L):bD (ND L f) (nX x)>=f x:=by
 induction L with
 | nil=>cases h
 | cons y L a=>
   change bD ((nX _,f y)::ND L f) _=_;by_cases e:y=x
   .subst e;show du rfl
   .rw[cI (λq=>e (PM (QN q)))];show a ((Yu.mp h).resolve_left λq=>e q.symm)
def wq{L:fx gf}{f:gf->V}{x:gf}(h:x∉L):bD (ND L f) (nX x)=fD:=by
 induction L with
 | nil=>rfl
 | cons y L a=>
   rw[Yu,Oj]at h;change bD ((nX _,f y)::ND L f) _=_;rw[cI (λq=>h.1 (PM (QN q)).symm)];show a h.2
abbrev TD(L:fx gf)(m:gf->gf):fx (Key×V):=ND L λx=> .int (m x)
noncomputable abbrev Pt:=fx (gf×hW×fx gf)
abbrev nums(l:fx gf):ZM:=l.map λn:gf=>V.int (n:md)
structure PtF (H:Hp) (d:hW) (rs:Pt):Prop where
 at_:∃o,H d>=.frz o (.dK (rs.map λg=>(nX (g.1:md),V.ref g.2.1)))
 la:∀g>rs,H g.2.1<*nums g.2.2
 nd:(rs\1).Nodup
 lt:∀g>rs,g.1<60/\∀p>g.2.2,p<60
def PtF.up{H a:Hp}{d:hW}{rs:Pt}(h:PtF H d rs)(s:ah H a):PtF a d rs:=%[h.at_.imp λ_ e=>s _ _ e,λg b=>s _ _ (h.la g b),h.nd|h.lt]
abbrev PtE(rs:Pt)(a p:gf):Prop:=∃g>rs,g.1=a/\p>g.2.2
def FO{rs:Pt}(nd:(rs\1).Nodup){g r:gf×hW×fx gf}(d:g>rs)(c:r>rs)(e:g.1=r.1):g=r:=by
 induction rs with
 | nil=>cases c
 | cons x rs f=>
   rw[Yo,MO]at nd;rcases Yu.mp c with a|a<;> rcases Yu.mp d with b|b
   .rw[a,b]
   .show(nd.1 (by rw[<-a,<-e];show Xr %[_,b|rfl])).elim
   .show(nd.1 (by rw[<-b,e];show Xr %[_,a|rfl])).elim
   .show f nd.2 b a
def Iq{rs:Pt}(nd:(rs\1).Nodup){r:gf×hW×fx gf}(a:r>rs):bD (rs.map λg=>((nX (g.1):Key),V.ref g.2.1)) (nX (r.1))>=.ref r.2.1:=by
 induction rs with
 | nil=>cases a
 | cons g rs b=>
   rw[Yo,MO]at nd;rw[Yo];rcases Yu.mp a with rfl|a
   .show du rfl
   .rw[cI (λq=>nd.1 (by rw[PM (QN q)];show Xr %[r,a|rfl]))];show b nd.2 a
def KZ{rs:Pt}(nd:(rs\1).Nodup){b:gf}(h:b>rs\1):∃r>rs,r.1=b/\bD (rs.map λg=>((nX (g.1):Key),V.ref g.2.1)) (nX b)>=.ref r.2.1/\∀p,p>r.2.2↔PtE rs b p:=by
 let%[r,a|rfl]:=Xq h;show%[r,a,ρ,Iq nd a|λp=>%[λc=>%[r,a,ρ|c]|λ⟨g,d,e,c⟩=>FO nd d a e▸c]]
structure Mq (rs:Pt) (L:fx gf) (m:gf->gf) (A0 Q:fx gf) (g:gf->gf) (W:fx gf):Prop where
 ask:Ask (PtE rs) L m A0 Q g
 ql:∀x>Q,x>L
 qn:∀x>Q,x<60
 wn:∀b>W,b>rs\1/\(b>A0\/∃y>Q,y>L/\m y=b)
 cl:∀b,(b>A0\/∃y>Q,y>L/\m y=b)->b>W\/∀p,PtE rs b p->p>Q
structure HF (rs:Pt) (L:fx gf) (m:gf->gf) (A0 Q:fx gf) (g:gf->gf) (W:fx gf) (b:gf):Prop where
 ask:Ask (PtE rs) L m A0 Q g
 ql:∀x>Q,x>L
 qn:∀x>Q,x<60
 wn:∀b>W,b>rs\1/\(b>A0\/∃y>Q,y>L/\m y=b)
 cl:∀c,(c>A0\/∃y>Q,y>L/\m y=c)->c>W\/c=b\/∀p,PtE rs c p->p>Q
 by_:b>A0\/∃y>Q,y>L/\m y=b
def Bh{E:gf->gf->Prop}{L f Q:fx gf}{m g:gf->gf}(a:Ask E L m f Q g){b p:gf}(j:p∉Q)(e:E b p)(h:b>f\/∃y>Q,y>L/\m y=b):Ask E L m f (Q++[p]) (λx=>if x=p then b else g x):=by
 show%[Yz.mpr %[a.nd,by simp|λx d y o c=>j (by rw[<-Xp o,<-c];show d)]|λi x d=>?_];by_cases c:i<Q\5
 .rw[Y7 c]at d;let n:x≠p:=λz=>j (z▸Z8 d)
  rw[hH n,Xe (Yd c)];show a.by_ i x d
 .let l:=(Xn d).1;rw[Z9,Yi]at l;obtain rfl:i=Q\5:=by lia
  rw[Y8 (Zi _),Xb]at d;obtain rfl:p=x:=Za d;rw[hY rfl,fx.take_left];show%[e|h]
def HF.add{rs:Pt}{L d Q W:fx gf}{m g:gf->gf}{b p:gf}(a:HF rs L m d Q g W b)(l:p∉Q)(e:PtE rs b p)(pl:p>L)(pn:p<60)(n:m p>rs\1):HF rs L m d (Q++[p]) (λx=>if x=p then b else g x) (W++[m p]) b:=by
 let up:∀{c},(c>d\/∃y>Q,y>L/\m y=c)->c>d\/∃y>Q++[p],y>L/\m y=c:=λh=>h.imp_right λ⟨y,h,q⟩=>%[y,Ys _ h|q]
 show%[Bh a.ask l e a.by_,λx i=>?_,λx i=>?_,λc j=>?_,λc j=>?_|up a.by_]
 .show(Xo i).elim (a.ql x) λh=>Xp h▸pl
 .show(Xo i).elim (a.qn x) λh=>Xp h▸pn
 .rcases Xo j with h|h
  .show%[(a.wn c h).1|up (a.wn c h).2]
  .rw[Xp h];show%[n|.inr %[p,Yt _ Zm,pl|ρ]]
 .let f:(c>d\/∃y>Q,y>L/\m y=c)->c>W++[m p]\/c=b\/∀q,PtE rs c q->q>Q++[p]:=λh=>(a.cl c h).imp (Ys _) λh=>h.imp_right λh q r=>Ys _ (h q r)
  rcases j with h|⟨y,o,s,rfl⟩
  .show f (.inl h)
  .rcases Xo o with h|h
   .show f (.inr %[y,h,s|rfl])
   .rw[Xp h];show .inl (Yt _ Zm)
def eV{L:fx gf}{m:gf->gf}{x:gf}:((bD (TD L m) (nX x)).isSome=gb↔x>L)/\(x>L->bD (TD L m) (nX x)>=.int (m x)):=by
 show%[?_|λh=>Ag h];unfold TD;by_cases c:x>L
 .rw[Ag c];show%[λ_=>c|λ_=>rfl]
 .rw[wq c];simp_all
def Ah{L:fx gf}{m:gf->gf}{x y:gf}(h:x∉L):cA (TD L m) (nX x) (.int y)=TD (L++[x]) (λz=>if z=x then y else m z):=by
 unfold TD;rw[gE _ (wq h)];unfold ND;rw[Zd];show WW (nY _ (Yn λa b=>?_)) ∅;change(nX _,V.int _)=((nX a:Key),V.int (if a=x then y else m a:gf))
 rw[hH (λc:a=x=>h (c▸b))]
def yH{l:fx gf}(n:l.Nodup)(h:∀x>l,x<60):l\5<=60:=by
 let:=_ST.nodup_sub n λx a=>vj.mpr (h x a)
 simp_all
inductive Bi
 | mk (d hb al:hW) (rs:Pt) (L A0:fx gf) (m:gf->gf):vs=[.ref d,.ref hb,.ref al]->PtF H d rs->Rd H hb (.dK (TD L m))->(∀x>L,m x>rs\1)->H al<*nums A0->(∀x>A0,x>rs\1)->A0\5<=80->(∀q H' (U:fx gf) (g:gf->gf),ah H H'->H q=fD->H' q>=.dK (TD U g)->Ask (PtE rs) L m A0 U g->(∀x>U,x<60)->((∃f>U,f∉L)\/((∀x>U,x>L)/\∀b,(b>A0\/∃y>U,y>L/\m y=b)->∀p,PtE rs b p->p>U))->Q (.ref q) H')->Bi vs H Q E0
def sZ:↥1 12 Bi:=by
 .exists 12,"partners held_by askers asked_by waiting asker partner",a7,hr,%[d,v,al,rs,L,O,m,rfl,re,hh,mn,ha,an,a5|kk];let rn:∀b p,PtE rs b p->p<60:=λb p ⟨g,hg,_,hp⟩=>(re.lt g hg).2 p hp
  show%[_,%["JDH3)DH4=~FA2BD>L:cdA4BCDH5]}][4ETVh05M6EP^63Dx536DP^61EI3QEXon4Ah16BQEI3",D0.nd|hr]|?_]
  change aZ _ _ _ [!d,!v,!al,fD,fD,fD,fD] H;show am λD1 k1 _=>?_
  lk;intro q fq;show k1 (am λD2 k2 _=>?_);let s1:=ah.Qa (o:= .dK []) fq;let I:Qa H q (.dK []) q>=.dK (TD [] id):=aa
  generalize Qa H q _=H1 at s1 I
  lk;show%[_,.inl (Qb.of (s1 _ _ ha))|λj fw=>k2 (am λD3 k3 r3=>?_)];let ac:j≠q:=nq fw I rfl;let s2:=ah.Qa (o:= .lst (nums O)) fw;let hw:Qa H1 j (.lst (nums O)) j=_:=aa;let I:=s2 _ _ I;let aq:=s1.trans s2;let as:=s1.free fw
  generalize Qa H1 j _=H2 at hw I aq
  show⟨λn σ a=>∃(o5 G:ij V) (U W:fx gf) (g:gf->gf),σ=[!d,!v,!al,!q,!j,o5,G]/\ah H a/\a q>=.dK (TD U g)/\a j<*nums W/\Mq rs L m O U g W/\n=2*(81-U.length) +W\5/\n<=300,%[_,fD,fD,[],O,id,rfl,aq,I,hw,%[%[X2|λi x e=>(nomatch e)],λ_ h=>(nomatch h),λ_ h=>(nomatch h),λb v=>%[an b v|.inl v]|λb v=> .inl (v.elim (λh=>h) λ⟨_,h,_⟩=>(nomatch h))],rfl|by rw[Rp];lia],?_⟩;intro n σ H3 %[o5,G,U,W,g,rfl,sm,I,hw,y,rfl|Y];lk;let Ul:=yH y.ask.nd y.qn;show%[W\5,.inl %[_,Qb.of hw|(Z6 _).symm]|br (λc=>?_) λc=>?_]
  .let c:=Zo c;obtain⟨W1,b,rfl⟩:∃W1 b,W=W1++[b]:=%[W.dropLast,W.getLast (λe=>by rw[e]at c;simp at c)|(Pg _).symm]
   show⟨λaR a=>∃n',n'<2*(81-U.length) +(W1++[b])\5/\∃(o5 G:ij V) (U W:fx gf) (g:gf->gf),aR=[!d,!v,!al,!q,!j,o5,G]/\ah H a/\a q>=.dK (TD U g)/\a j<*nums W/\Mq rs L m O U g W/\n'=2*(81-U.length) +W\5/\n'<=300,λaR a ⟨n',h1,o5,G,U,W,g,h2,h3,h4,h5,h6,h7⟩=>%[n',h1,%[o5,G|h2],h3,U,W,g,h4,h5,h6|h7],tyL (Qb.of hw),j,_,.int b,rfl,rfl,hw,by simp[nums],az λa6 hK=>?_⟩;let dl:(nums (W1++[b])).dropLast=nums W1:=by unfold nums;show Zd▸fx.dropLast_concat
   rw[dl];let aU:Qa H3 j (.lst (nums W1)) j=_:=aa;let a0:Qa H3 j (.lst (nums W1)) q>=.dK (TD U g):=(ar ac.symm)▸I;let J:ah H (Qa H3 j (.lst (nums W1))):=ah.set sm as
   generalize Qa H3 j _=H4 at aU a0 J ⊢
   let%[bn|a2]:=y.wn b ∅;let%[o|ed]:=re.at_;let%[r,a1,er,gv|ab]:=KZ re.nd bn;let a3:=J _ _ (re.la r a1);lk;show%[_,(.inl %[_,nX (b:md),.inr %[o|J _ _ ed],ρ|gv.symm]),%[_|Qb.of a3]|hK (cL (us:=r.2.2) (f:=λn:gf=>V.int (n:md)) (λi σ a=>A3 (∃G,σ=[!d,!v,!al,!q,!j,fI (.int b),G]) (ah H a) (E3 λ(l W2:fx gf) (g1:gf->gf)=>A5 (a q>=.dK (TD l g1)) (a j<*nums W2) (HF rs L m O l g1 W2 b) (∀x>r.2.2.take i,x>l) (2*(81-l.length) +W2\5<=2*(81-U.length) +W1\5)))
    %[%[_|ρ],J,U,W1,g,a0,aU,%[y.ask,y.ql,y.qn,λc hc=>y.wn c (Ys _ hc),λc hc=>(y.cl c hc).elim (λh=>(Xo h).imp_right λh=> .inl (Xp h)) λh=> .inr (.inr h)|a2],λ_ h=>(nomatch h)|Zi _] (λi σ a h=>h.2 _ _ (re.la r a1)) ?_ ?_)]
   .intro i p σ a hp %[%[G|rfl],M,l,W2,g1,B,N,u,dn|le];let tk:r.2.2.take (i+1)=r.2.2.take i++[p]:=by rw[Xc,hp];rfl
    let bp:=(ab p).mp (Z8 hp);let bb:=yH u.ask.nd u.qn;change kO _ _ _ _ [!d,!v,!al,!q,!j,fI (.int b),fI (.int p)] a;show aB λD4 k4 r4=>?_
    lk;show%[_,cZ.k (k:=nX (p:md)) B|br (λc=>?_) λc=>?_]
    .let pn:p∉l:=λh=>by rw[eV.1.mpr h]at c;cases c
     show%[_,h9.k (k:=nX (p:md)) B (by unfold TD ND;rw[Z6];show aF !_)|?_];rw[Ah pn];let C:=ah.set (o:= .dK (TD (l++[p]) λz=>if z=p then b else g1 z)) M fq;let ae:Qa a q (.dK (TD (l++[p]) λz=>if z=p then b else g1 z)) q=_:=aa;let ag:Qa a q (.dK (TD (l++[p]) λz=>if z=p then b else g1 z)) j<*nums W2:=(ar ac)▸N
     generalize Qa a q _=H6 at C ae ag ⊢
     let gh:cZ H6 v (.int p) (bD (TD L m) (nX (p:md))):= .inl %[_,nX (p:md),hh.imp (C _ _) λ⟨o,e⟩=>%[o|C _ _ e],rfl|rfl];show%[_,gh|br (λe=>?_) λe=>?_]
     .let pl:p∉L:=λh=>by rw[eV.1.mpr h]at e;cases e
      show r4 _ _ (r3 _ _ (kk q H6 _ _ C fq ae (Bh u.ask pn bp u.by_) (λx hx=>(Xo hx).elim (u.qn x) λh=>Xp h▸rn _ _ bp) (.inl %[p,Yt _ Zm|pl])))
     .let pl:p>L:=eV.1.mp (by cases h:(bD (TD L m) (nX (p:md))).isSome with
       | true=>rfl
       | false=>rw[h]at e;show lr rfl e)
      rw[eV.2 pl]at gh;let bc:W2\5<=300:=by rw[Z9]at Y;lia
      show%[tyL (Qb.of ag),_,gh,_,ag,by unfold nums;rw[Z6];show aF !_|k4 %[%[_|ρ],ah.set C as,l++[p],W2++[m p],_,(ar ac.symm).trans ae,by unfold nums;rw[aa,Zd];rfl,u.add pn bp pl (rn _ _ bp) (mn p pl),λx hx=>?_|?_]]
      .rw[tk]at hx;show(Xo hx).elim (λh=>Ys _ (dn x h)) λh=>Yt _ h
      .let a4:=yH (u.add pn bp pl (rn _ _ bp) (mn p pl)).ask.nd (u.add pn bp pl (rn _ _ bp) (mn p pl)).qn;rw[Z9,Yi]at a4 ⊢;rw[Z9,Yi]
       lia
    .let pu:p>l:=eV.1.mp (by cases h:(bD (TD l g1) (nX (p:md))).isSome with
      | true=>rfl
      | false=>rw[h]at c;show lr rfl c)
     show k4 %[%[_|rfl],M,l,W2,g1,B,N,u,λx hx=>?_|le];rw[tk]at hx;show(Xo hx).elim (dn x) λh=>Xp h▸pu
   .intro σ a %[%[G|rfl],M,l,W2,g1,B,N,u,dn|le];rw[Zn (Zi _)]at dn;rw[Z9,Yi]at Y;show%[_,?_,_,_,l,W2,g1,ρ,M,B,N,%[u.ask,u.ql,u.qn,u.wn|λc hc=>?_],ρ|!_]
    .rw[Z9,Yi];lia
    .rcases u.cl c hc with h|rfl|h
     .show .inl h
     .show .inr λp hp=>dn p ((ab p).mpr hp)
     .show .inr h
  .show k3 ?_;let e:W=[]:=by
    cases W with
    | nil=>rfl
    | cons x W=>show lr (Zf (by rw[Zr];lia)) c
   subst e;lk;show kk q H3 U g sm fq I y.ask y.qn (.inr %[y.ql|λb v=>(y.cl b v).resolve_left λh=>(nomatch h)])
inductive FP
 | mk (d hb al:hW) (rs:Pt) (L A0:fx gf) (m:gf->gf):vs=[.ref d,.ref hb,.ref al]->PtF H d rs->Rd H hb (.dK (TD L m))->(∀x>L,m x>rs\1)->H al<*nums A0->(∀x>A0,x>rs\1)->A0\5<=80->(∀q o H' (U:fx gf) (g:gf->gf),ah H H'->H' q>=.frz o (.dK (TD U g))->Ask (PtE rs) L m A0 U g->(∀x>U,x<60)->((∃f>U,f∉L)\/((∀x>U,x>L)/\∀b,(b>A0\/∃y>U,y>L/\m y=b)->∀p,PtE rs b p->p>U))->Q (.ref q) H')->FP vs H Q E0
def K0{L:fx gf}{f:gf->V}{x:gf}{v:V}(h:x>L):cA (ND L f) (nX x) v=ND L λz=>if z=x then v else f z:=by
 unfold cA;rw[hY (by rw[iQ,Ag h];rfl)];unfold ND;rw[Yp];show Yn λy _=>?_
 change(if(nX y:Key)=nX _ then((nX y:Key),v)else(nX y,f y))=(nX _,if y=x then v else f y)
 by_cases e:y=x
 .rw[hY (by rw[e]),hY e]
 .rw[hH (show ¬ (nX y:Key)=nX (x:md)from λq=>e (PM (QN q))),hH e]
inductive Bj
 | mk (d:hW) (o:NV) (L:fx gf) (m:gf->gf):vs=[.ref d]->H d>=.frz o (.dK (TD L m))->L\5<=80->L.Nodup->(∀x>L,∀y>L,m x=m y->x=y)->(∀t H' (i:gf->gf),ah H H'->H t=fD->H' t>=.dK (TD (L.map m) i)->(∀x>L,i (m x)=x)->Q (.ref t) H')->Bj vs H Q E0
inductive FQ
 | mk (d:hW) (L:fx gf) (m:gf->gf):vs=[.ref d]->Rd H d (.dK (TD L m))->L\5<=80->L.Nodup->(∀x>L,∀y>L,m x=m y->x=y)->(∀t H' (i:gf->gf),ah H H'->H t=fD->H' t>=.dK (TD (L.map m) i)->(∀x>L,i (m x)=x)->Q (.ref t) H')->FQ vs H Q E0
def nD(T:Txt K mg):Cal P w K mg base 1 "ask_around" ↑"partners held_by askers" FP:=by
 show(sZ T).freeze.imp λvs H Q E zqw=>?_;let%[d,f,h,rs,L,i,m,j,l,n,p,r,s,u|v]:=zqw;show %[d,f,h,rs,L,i,m,j,l,n,p,r,s,u|λq A U g y B z a b c=>%[[q]|λC=>v q _ _ U g (λx o e=>?_) (kH Zm z) a b c]]
 rw[j3]
 .show y x o e
 grind
def oB:↥1 14 Bj:=by
 .exists 14,"some turned_about key value",ab,hr,%[d,o,L,m,rfl,O,ac,nd,inj|kk];show%[_,%["JDH1)DT~$0fNM2NM3gEx213EI1",D0.nd|hr]|?_]
  change aZ _ _ _ [!d,fD,fD,fD] H;show am λD1 k1 _=>?_
  lk;intro t r;show k1 (am λD2 k2 _=>az λU hK=>?_);let u:=ah.Qa (o:= .dK []) r;let Y:Qa H t (.dK []) t>=.dK (TD (([]:fx gf).map m) id):=aa
  generalize Qa H t _=H1 at u Y
  unfold vT;lk;let ll:(TD L m)\5=L\5:=Z6 _;show%[_,_,u _ _ O|hK (Cv (λi p l=>A3 (E2 λB C=>p=[!d,!t,B,C]) (ah H l) (∃g:gf->gf,l t>=.dK (TD ((L.take i).map m) g)/\∀x>L.take i,g (m x)=x))
   %[%[_,_|ρ],u,id,Y|λ_ h=>(nomatch h)] (λi p l _ h=>h.2 _ _ O) ?_ ?_)]
  .intro i k v tp p l G %[%[B,C|rfl],I,g,a|b] J;unfold TD ND at G;rw[Zl]at G;let%[x,M|ex]:=zz.mp G;obtain⟨rfl,rfl⟩:nX ((x:gf):md)=k/\V.int (m x)=v:=%[nY (·.1) ex|nY (·.2) ex]
   let s2:=ah.Qa (o:= .tup [.int x,.int (m x)]) J;let N:Qa l tp (.tup [.int x,.int (m x)]) tp=_:=aa;let tk:L.take (i+1)=L.take i++[x]:=by rw[Xc,M];rfl
   let xn:m x∉(L.take i).map m:=λc=>by
    let%[y,q|e]:=Xq c;let%[j|n]:=Xh q;let jl:=(Xn n).1;rw[Yj]at jl;rw[Y9 !_]at n;rw[inj y (Z8 n) x (Z8 M) e]at n;let:=qZ nd n M
    lia
   show%[_,SqT.of N,ρ,_,_,ρ,_,_,ρ,ρ|aB λD3 k3 _=>?_];lk;let tl:(L.take i)\5<=80:=by rw[Yj];lia
   show%[_,h9.k (k:=nX (((m x):gf):md)) (s2 _ _ a) (by unfold TD ND;rw[Z6,Z6];show aF !_)|k3 %[%[_,_|ρ],ah.set (I.trans s2) r,λz=>if z=m x then x else g z,?_|λy q=>?_]]
   .rw[aa,Ah xn,tk,Zd];rfl
   .rw[tk]at q;rcases Xo q with h|h
    .change(if m y=m x then x else g (m y))=y;rw[hH (λe:m y=m x=>xn (e▸Xr %[y,h|rfl]))];show b y h
    .rw[Xp h];change(if m x=m x then x else g (m x))=x;rw[hY rfl]
  .intro p l %[%[B,C|rfl],I,g,a|b];rw[ll,Zn (Zi _)]at a b;show k2 ?_;lk;show kk t l g I r a b
def jQ(T:Txt K mg):Cal P w K mg base 1 "keys_by_value" ["some"] FQ:=by
 show(oB T).frozen.imp λvs H Q E zqw=>?_;let%[d,L,m,b,a,g,h,j|l]:=zqw;show a.elim (λa=> .inr %[d,_,by rw[b];rfl,a|λo=>%[d,o,L,m,b,aa,g,h,j|λt r i p f q hi=>?_]]) λ⟨o,a⟩=> .inl %[d,o,L,m,b,a,g,h,j|l]
 let n:t≠d:=nq f aa rfl;rw[ar n]at f;show l t _ i (λc o e=>?_) f ((ar n)▸q) hi;by_cases z:c=d
 .rw[z]at e ⊢;rw[a]at e;rw[aa];show e
 .rw[ar z];show p c o ((ar z)▸e)
inductive Bk
 | mk (hb q:hW) (o:NV) (f a0:gf) (rs:Pt) (L U:fx gf) (m g:gf->gf) (S T:gf->Prop):vs=[.ref hb,.ref q,.int f]->H hb>=.dK (TD L m)->H q>=.frz o (.dK (TD U g))->L\5<80->Mat (PtE rs) L m->Ask (PtE rs) L m [a0] U g->(∀x>L,m x≠a0)->mD (PtE rs) L m S T->f>U->f∉L->(∀H' (L':fx gf) (m':gf->gf),(∀c o,c≠hb->H c>=o->H' c>=o)->H' hb>=.dK (TD L' m')->Mat (PtE rs) L' m'->mD (PtE rs) L' m' S T->(∀x,x>L'↔x>L\/x=f)->(∀x>L',m' x=a0\/∃y>L,m y=m' x)->(∀y,y=a0\/(∃x>L,m x=y)->∃x>L',m' x=y)->Q .non H')->Bk vs H Q E0
abbrev Ms(s:Hp)(d q t:hW)(f l:gf)(rs:Pt)(L U:fx gf)(m g:gf->gf)(S T:gf->Prop)(n:gf)(r:_LL.St)(e:Hp):Prop:=(∀c o,c≠d->s c>=o->e c>=o)/\∃(C h:fx gf),((∃(p j:gf) (i:ij V),r=[!d,!q,fI (.int f),!t,fI (.int p),i]/\qY (PtE rs) L U m g T f C j p/\e d>=.dK (TD h λx=>if x>C then g x else m x)/\((C=[]/\h=L)\/(f>C/\h=L++[f]))/\n=j+1)\/(∃i,r=[!d,!q,fI (.int f),!t,fI .non,i])/\n=0/\∃(a:fx gf) (b:gf->gf),e d>=.dK (TD a b)/\Mat (PtE rs) a b/\mD (PtE rs) a b S T/\(∀x,x>a↔x>L\/x=f)/\(∀x>a,b x=l\/∃y>L,m y=b x)/\∀y,y=l\/(∃x>L,m x=y)->∃x>a,b x=y)
def CS:↥2 13 Bk:=λT=>by
 show (T.dd 13 rfl).cal gN (λH vs Q E h=>?_)
 .let%[b,q,o,f,J,rs,L,U,m,g,S,N,rfl,B,hq,al,M,a,h0,O,fU,G|kk]:=h;show%[ρ|λ_ aj A outer s I=>?_];show%[_,%["JDH3G~5A0BDH42E>L~Q4_DH5h14Dx504EH4~P]03A5B",gN.nd|I]|?_]
  change aZ _ _ _ [!b,!q,fI (.int f),fD,fD,fD] H;show am λD1 k1 _=>?_
  lk;show%[b,L,m,ρ,.inl B,!_,M.nd,M.inj|λt Y i s1 ft ht hi=>k1 (am λD2 k2 _=>?_)];lk;show k2 ?_;let%[i0|ab]:=Xh fU;show%[Ms Y b q t f J rs L U m g S N,
   %[_,λ_ _ _ e=>e,[],L|.inl %[f,i0,fD,ρ,qY.start O G ab,by rw[s1 _ _ B];rfl,.inl %[ρ|ρ]|ρ]]|?_]
  rintro n σ H2 ⟨sm,C,L1,⟨p,j,o5,rfl,bk,ac,r,rfl⟩|⟨⟨o5,rfl⟩,rfl,L',m',e1,e2,e3,e4,e5,e6⟩⟩
  .lk;rw[hY ∅];show⟨λae H'=>∃n',n'<j+1/\Ms Y b q t f J rs L U m g S N n' ae H',λ_ _ h=>h,?_⟩;let an:L1\5<=80:=by
    rcases r with⟨_,rfl⟩|⟨_,rfl⟩
    .lia
    .rw[Z9,Yi];lia
   let pC:p∉C:=λc=>by
    let%[k,kl|hk]:=bk.far p c;let:=qZ a.nd bk.at_ hk
    lia
   let put:cA (TD L1 λx=>if x>C then g x else m x) (nX ((p:gf):md)) (.int (g p))=TD (L++[f]) λx=>if x>C++[p]then g x else m x:=by
    let fe:(λz=>if z=p then g p else if z>C then g z else m z)=λx=>if x>C++[p]then g x else m x:=funext λz=>by
     by_cases e:z=p
     .rw[hY e,hY (by rw[e];simp),e]
     .let:z>C++[p]↔z>C:=by rw[Yq,Yx];show or_iff_left e
      rw[hH e];simp only[this]
    rcases r with⟨rfl,rfl⟩|⟨fc,rfl⟩
    .obtain rfl:p=f:=bk.hf.resolve_left λh=>(nomatch h)
     rw[Ah G,fe]
    .unfold TD;rw[K0 (Ys _ (bk.own.resolve_left λe=>pC (e▸fc))),<-fe];show nY (ND _) (funext λz=>by by_cases e:z=p<;> simp[e])
   show%[_,(.inl %[_,nX ((p:gf):md),.inr %[o|sm _ _ (nq hq B rfl) (s1 _ _ hq)],ρ|(eV.2 (Z8 bk.at_)).symm]),_,h9.k (k:=nX ((p:gf):md)) ac (by unfold TD ND;rw[Z6];show aF !_)|?_];rw[put];let u:Qa H2 b (.dK (TD (L++[f]) λx=>if x>C++[p]then g x else m x)) b=_:=aa;let d:∀c o,c≠b->Y c>=o->Qa H2 b (.dK (TD (L++[f]) λx=>if x>C++[p]then g x else m x)) c>=o:=λc o n e=>(ar n)▸sm c o n e
   let v:=d _ _ (nq ft B rfl) ht;let ag:f>C++[p]:=by rw[Yq,Yx];show bk.hf.imp_right YI
   show%[tyD v,nX (((g p):gf):md),ρ,_,v|?_];by_cases c:∃y>L,m y=g p
   .let%[y,l|ym]:=c;let%[k,kl|ai]:=bk.step M a h0 O l ym;let iy:i (g p)=y:=ym▸hi y l;rw[eV.2 (Xr %[y,l|ym]),iy];show%[k+1,!_,d,C++[p],L++[f]|.inl %[y,k,_,ρ,ai,u,.inr %[ag|ρ]|ρ]]
   .let no:∀y>L,m y≠g p:=λy l e=>c %[y,l|e]
    let nn:bD (TD (L.map m) i) (nX (((g p):gf):md))=fD:=wq λh=>by
     let%[y,l|e]:=Xq h;show no y l e
    rw[nn];let nd:(L++[f]).Nodup:=Yz.mpr %[M.nd,by simp|λx hx y hy e=>G (by rw[<-Xp hy,<-e];show hx)];let%[e2,e3,_,e5|e6]:=bk.fin M a O G no nd λx=>by rw[Yq,Yx]
    show%[0,!_,d,[],[]|.inr %[%[_|ρ],ρ,L++[f],_,u,e2,e3,λx=>by rw[Yq,Yx],e5|e6]]
  .lk;rw[hH ∅];show kk H2 L' m' (λc o n e=>sm c o n (s1 _ _ e)) e1 e2 e3 e4 e5 e6
structure uQ (rs:Pt) (L:fx gf) (m:gf->gf) (N:fx gf):Prop where
 mat:Mat (PtE rs) L m
 mn:∀x>L,m x>N
 ln:∀x>L,x<60
 sh:∃S T,mD (PtE rs) L m S T/\∀a>N,(∃x>L,m x=a)\/S a
inductive yI
 | mk (d:hW) (rs:Pt):vs=[.ref d]->PtF H d rs->(∀hb H' (L:fx gf) (m:gf->gf),ah H H'->H hb=fD->H' hb>=.dK (TD L m)->uQ rs L m (rs\1)->Q (.ref hb) H')->yI vs H Q E0
def CT{L:fx gf}{m:gf->gf}(nd:L.Nodup)(inj:∀x>L,∀y>L,m x=m y->x=y):(L.map m).Nodup:=by
 rw[X1,X7];show Xi (λ{x y} a b n e=>n (inj x a y b e)) (X1.mp nd)
def tf:↥3 11 yI:=by
 .exists 11,"partners held_by asker asked_by free",a7,hr,%[d,rs,rfl,re|kk];let%[o|hd]:=re.at_;let rl:rs\5<=60:=by
   let:=yH re.nd λx b=>by
    let%[g,hg|rfl]:=Xq b;show(re.lt g hg).1
   rwa[Z6]at this
  show%[_,%["JDu1ab)DT~b0M2DH3G~6A0AK1AUA2BBD~D4baZ?1~b3W0?2!^0K10EPL:cdA4BCEXG]1AK1A3AR4CBQEIK1",D0.nd,↑(↑"partner held_by",[(1,1)]),↑["partner","held_by"]|hr]|?_]
  change aZ _ _ _ [!d,fD,fD,fD,fD] H;show am λD1 k1 _=>?_
  lk;intro B fb;show k1 (am λD2 k2 _=>az λab hK=>?_);let s1:=ah.Qa (o:= .dK []) fb;let hh:Qa H B (.dK []) B>=.dK (TD [] id):=aa
  generalize Qa H B _=H1 at s1 hh
  unfold uk;lk;let gl: ~~~(rs.map λg=>((nX (g.1:md):Key),V.ref g.2.1))=rs\5:=Z6 _;show%[_,_,s1 _ _ hd|hK (Fc (λi I C=>A3 (E3 λo2 o3 o4=>I=[!d,!B,o2,o3,o4]) (ah H C) (E2 λ(L:fx gf) (m:gf->gf)=>C B>=.dK (TD L m)/\uQ rs L m ((rs\1).take i)))
   %[%[_,_,_|ρ],s1,[],id,hh,%[X2,λ_ h=>(nomatch h)|λ_ h=>(nomatch h)],λ_ h=>(nomatch h),λ_ h=>(nomatch h),λ_=>yc,λ_=>yc,%[λ_ h=>h.elim|λ_ h=>h.elim]|λ_ h=>(nomatch h)] (λi I C _ h=>h.2 _ _ hd) ?_ ?_)]
  .intro i k v I C hv %[%[o2,o3,o4|rfl],sm,L,m,hh|l];rw[Zl]at hv;let%[r,ac|er]:=zz.mp hv;obtain⟨rfl,rfl⟩:nX (r.1:md)=k/\V.ref r.2.1=v:=%[nY (·.1) er|nY (·.2) er]
   generalize ea:r.1=u at*
   let hN:(rs\1)[i]?>=u:=by rw[Zl,ac,<-ea];rfl
   let tk:(rs\1).take (i+1)=(rs\1).take i++[u]:=by rw[Xc,hN];rfl
   let aR:u∉(rs\1).take i:=λc=>by
    let%[j|z]:=Xh c;let jl:=(Xn z).1;rw[Yj]at jl;rw[Y9 !_]at z;let:=qZ re.nd z hN
    lia
   let aU:u>rs\1:=Z8 hN;let ae:∀x>(rs\1).take i,x>rs\1:=λx b=>Yw b
   let Ll:L\5<=i:=by
    let:=_ST.nodup_sub (CT l.mat.nd l.mat.inj) (m:=(rs\1).take i) λy hy=>by
     let%[x,b|rfl]:=Xq hy;show l.mn x b
    rw[Z6,Yj]at this
    lia
   let il:i<rs\5:=(Xn ac).1;change aZ _ _ _ [!d,!B,fI (.int u),o3,o4] C;show am λD3 k3 _=>?_
   lk;show%[#[1]|λal a1=>?_];let s2:=ah.Qa (o:= .lst [V.int u]) a1;let ag:Qa C al (.lst [V.int u]) al<*nums [u]:=aa;let N:=s2 _ _ hh;let O:=sm.trans s2
   generalize Qa C al _=H2 at ag N O ⊢
   show%[d,B,al,rs,L,[u],m,ρ,re.up O,.inl N,λx b=>ae _ (l.mn x b),ag,λx b=>Xp b▸aU,(show 1<=80 by decide)|λq oq H3 U g s3 hq ask un a2=>k3 (am λD4 k4 _=>aD λab hK=>?_)];let a3:=O.trans s3;let ai:=s3 _ _ N;let Ul:=yH ask.nd un;unfold uk;lk;show%[_,_,hq|hK λF hF=>?_];let ql:(TD U g)\5=U\5:=Z6 _;show b8 (J:=Itk q oq (TD U g)) (n:=U\5) (D:=F) (λj vs I H4=>(∃o1,I=[o1,!B])/\ah H3 H4/\H4 F<*vs/\vs=((U.take j).filter λx=>decide (x∉L)).map λn:gf=>V.int (n:md))
    %[%[fD|rfl],ah.Qa hF,aa|rfl] (λj _ _ H4 z Y=>%[Y.2.1 _ _ hq|by rw[ql];show z]) (λ_ _ H4 Y=>%[Y.2.1 _ _ hq|by rw[ql];show Zi _]) ?_ ?_
   .intro j vs I H4 z %[%[o1|rfl],p,aj|rfl] x H5 %[e2,kx,vx,b|rfl];subst e2;unfold TD ND at b;rw[Zl,Z4 z]at b;obtain rfl:nX ((U[j]:gf):md)=kx:=nY (·.1) (Za b);lk;show%[_,cZ.k (k:=nX ((U[j]:gf):md)) (p _ _ ai)|br (λc=>?_) λc=>?_]
    .let n:U[j]∉L:=λh=>by rw[eV.1.mpr h]at c;cases c
     show CK.mk z aj (by rw[Z6];let:=Yg (λx=>decide (x∉L)) (U.take j);rw[Yj]at this;show aF !_) %[%[_|rfl],ah.set p hF,aa|?_];rw[Xc,Z4 z,Y1,Zd];change _=_++(Oa _ [U[j]]).map λn:gf=>V.int (n:md)
     rw[Y3 ↑n];rfl
    .let n:U[j]>L:=eV.1.mp (by cases h:(bD (TD L m) (nX ((U[j]:gf):md))).isSome with
      | true=>rfl
      | false=>rw[h]at c;show lr rfl c)
     show CN.mk z %[%[_|rfl],p,aj|?_];rw[Xc,Z4 z,Y1,Zd];change _=_++(Oa _ [U[j]]).map λn:gf=>V.int (n:md)
     rw[Y2 ↑n];simp
   intro vs I H4 %[_,p,G|rfl];rw[Zn (Zi _)]at G;show k4 (aB λD5 k5 _=>?_);let M:=a3.trans p;let an:=p _ _ ai;let%[S,T',sh|all]:=l.sh;lk;let h0:∀x>L,m x≠u:=λx b e=>aR (e▸l.mn x b)
   let mt:∀{a},a>(rs\1).take (i+1)↔a>(rs\1).take i\/a=u:=λ{a}=>by rw[tk,Yq,Yx]
   let fl:∀{x},x>U.filter (λx=>decide (x∉L))↔x>U/\x∉L:=λ{x}=>by rw[kw,NC]
   generalize U.filter (λx=>decide (x∉L))=Fr at G fl
   let vl: ~~~(Fr.map λn:gf=>V.int (n:md))=Fr\5:=Z6 _;show%[Fr\5,.inl %[_,Qb.of G|vl.symm]|br (λc=>?_) λc=>?_]
   .let c:0<Fr\5:=by let:=Zo c;lia
    let%[fU|fL]:=fl.mp (Yb c);show%[_,Qb.of G,.int Fr[0],bP (by rw[Zl,Z4 c];rfl),B,q,oq,Fr[0],u,rs,L,U,m,g,S,T',ρ,an,p _ _ hq,!_,l.mat,ask,h0,sh,fU,fL|λH5 L' m' keep a4 aq a5 a6 e5 e6=>k5 %[%[_,_,_|ρ],λc o e=>keep c o (aC e fb) (M _ _ e),L',m',a4,aq,λx b=>?_,λx b=>?_,S,T',a5|λa ha=>?_]]
    .rcases e5 x b with e|⟨y,yl,e⟩
     .show mt.mpr (.inr e)
     .show mt.mpr (.inl (e▸l.mn y yl))
    .show((a6 x).mp b).elim (l.ln x) λe=>e▸un _ fU
    .rcases mt.mp ha with h|h
     .show(all a h).imp_left λh=>e6 a (.inr h)
     .show .inl (e6 a (.inl h))
   .let e:∀x>U,x>L:=λx b=>M5 λn=>by
     let:=fl.mpr %[b|n];cases Fr with
     | nil=>cases this
     | cons y Fr=>show c (Zf (by rw[Zr];lia))
    let cl:=(a2.resolve_left λ⟨f,h1,h2⟩=>h2 (e f h1)).2;show k5 %[%[_,_,_|rfl],M,L,m,an,l.mat,λx b=>mt.mpr (.inl (l.mn x b)),l.ln,_,_,sh.or (Ask.closed e cl)|λa ha=>?_];rcases mt.mp ha with h|h
    .show(all a h).imp_right .inl
    .show .inr (.inr (.inl (by rw[h];show Zm)))
  .intro I C %[%[o2,o3,o4|rfl],sm,L,m,hh|l];rw[gl,<-Z6 (f:=(·.1)) (as:=rs),Zn (Zi _)]at l;show k2 ?_;lk;let%[S,T',sh|all]:=l.sh;show kk B C L m sm fb hh %[l.mat,l.mn,l.ln,S,T',sh|all]
inductive Bl
 | mk (d hb:hW) (o:NV) (rs:Pt) (L:fx gf) (m:gf->gf):vs=[.ref d,.ref hb]->PtF H d rs->H hb>=.frz o (.dK (TD L m))->uQ rs L m (rs\1)->(∀l H' (ch:gf->gf),ah H H'->H' l<*nums (L.map ch)->(∀x>L,ch x=x\/ch x=m x)->(∀a b,PtE rs a b->a>L.map ch\/b>L.map ch)->Q (.ref l) H')->Bl vs H Q E0
def kU:↥2 15 Bl:=by
 .exists 15,"partners held_by holds asked_by",a6,hr,%[d,hb,o,rs,L,m,rfl,re,hh,M|kk];let%[od|hd]:=re.at_;let rl:rs\5<=60:=by
   let:=yH re.nd λx l=>by
    let%[g,hg|rfl]:=Xq l;show(re.lt g hg).1
   rwa[Z6]at this
  let Ll:=yH M.mat.nd M.ln;show%[_,%["JDu2abG~5A1BDu3abG~6A0A1AiZ?1~b0W0?2!^0K10BEIiZ?3~$1fNW0?4NW1?4gp]2~p0K201",D0.nd,↑(↑"asker holds",[(1,2)]),↑["asker","holds"],↑(↑"partner asker asked_by",[(2,3)]),↑["partner","asker","asked_by"]|hr]|?_]
  change aZ _ _ _ [!d,!hb,fD,fD] H;show am λD1 k1 _=>?_
  lk;show%[hb,L,m,ρ,.inr %[o|hh],!_,M.mat.nd,M.mat.inj|λt H1 i s1 ft ht hi=>k1 (am λD2 k2 _=>?_)];lk;show aD λaj hK=>?_
  unfold uk;lk;let O:=s1 _ _ hd;show%[_,_,O|hK λF hF=>?_]
  generalize eN:rs\1=N at M
  let Nl:N\5=rs\5:=by rw[<-eN,Z6]
  let gl: ~~~(rs.map λg=>((nX (g.1:md):Key),V.ref g.2.1))=N\5:=by rw[Nl];show Z6 _
  let kN:∀(j:gf) k v,(rs.map λg=>((nX (g.1:md):Key),V.ref g.2.1))[j]?>=(k,v)->∃x,N[j]?>=x/\k=nX (x:md):=λj k v h=>by
   rw[Zl]at h;let%[r,h1|h2]:=zz.mp h;show%[r.1,by rw[<-eN,Zl,h1];rfl|(nY (·.1) h2).symm]
  show b8 (J:=Itk d od (rs.map λg=>((nX (g.1:md):Key),V.ref g.2.1))) (n:=N\5) (D:=F) (λj vs I H2=>(∃Y,I=[Y,!t])/\ah H1 H2/\H2 F<*vs/\vs=((N.take j).filter λx=>decide (x∉L.map m)).map λn:gf=>V.int (n:md))
   %[%[fD|rfl],ah.Qa hF,aa|rfl] (λj _ _ H2 C p=>%[p.2.1 _ _ O|by rw[gl];show C]) (λ_ _ H2 p=>%[p.2.1 _ _ O|by rw[gl];show Zi _]) ?_ ?_
  .intro j vs I H2 C %[%[Y|rfl],B,an|rfl] x H3 %[e2,kx,vx,l|rfl];subst e2;let%[z,hz|rfl]:=kN j kx vx l;let tk:N.take (j+1)=N.take j++[z]:=by rw[Xc,hz];rfl
   lk;show%[_,cZ.k (k:=nX (z:md)) (B _ _ ht)|br (λc=>?_) λc=>?_]
   .let n:z∉L.map m:=λh=>by rw[eV.1.mpr h]at c;cases c
    show CK.mk C an (by rw[Z6];let:=Yg (λx=>decide (x∉L.map m)) (N.take j);rw[Yj]at this;show aF !_) %[%[_|rfl],ah.set B hF,aa|?_];rw[tk,Y1,Zd,Y3 ↑n];rfl
   .let n:z>L.map m:=eV.1.mp (by cases h:(bD (TD (L.map m) i) (nX (z:md))).isSome with
     | true=>rfl
     | false=>rw[h]at c;show lr rfl c)
    show CN.mk C %[%[_|rfl],B,an|?_];rw[tk,Y1,Zd,Y2 ↑n];simp
  intro vs I H2 %[_,B,ab|rfl];rw[Zn (Zi _)]at ab;let fl:∀{x},x>N.filter (λx=>decide (x∉L.map m))↔x>N/\x∉L.map m:=λ{x}=>by rw[kw,NC]
  let a0:=Yg (λx=>decide (x∉L.map m)) N
  generalize N.filter (λx=>decide (x∉L.map m))=A0 at ab fl a0
  let ac:=s1.trans B;let%[S,T',sh|all]:=M.sh;let a1:∀x>A0,S x:=λx l=>(all x (fl.mp l).1).resolve_left λ⟨y,yl,e⟩=>(fl.mp l).2 (Xr %[y,yl|e])
  show%[d,hb,F,rs,L,A0,m,ρ,re.up ac,.inr %[o|ac _ _ hh],λx l=>eN▸M.mn x l,ab,λx l=>eN▸(fl.mp l).1,!_|λq oq H3 U g s3 hq ask un a2=>k2 ?_];let a3:=ask.shut sh a1;let cl:=(a2.resolve_left λ⟨f,h1,h2⟩=>h2 (sh.mt f (a3 f h1)).1)
  let aq:=ac.trans s3;let ae:=aq _ _ hh;show aD λaj hK=>?_
  unfold vT;lk;show%[_,_,ae|hK λG hG=>?_];let tl:(TD L m)\5=L\5:=Z6 _;show b8 (J:=Iti hb o (TD L m)) (n:=L\5) (D:=G) (λj vs I u=>(∃Y o2,I=[Y,o2,!q])/\ah H3 u/\u G<*vs/\vs=((L.take j).map λx=>if x>U then x else m x).map λn:gf=>V.int (n:md))
   %[%[fD,fD|rfl],ah.Qa hG,aa|rfl] (λj _ _ u C p=>%[p.2.1 _ _ ae|by rw[tl];show C]) (λ_ _ u p=>%[p.2.1 _ _ ae|by rw[tl];show Zi _]) ?_ ?_
  .intro j vs I u C %[%[Y,o2|rfl],ag,a4|rfl] x H5 %[kx,vx,tp,l,a5,rfl|rfl];unfold TD ND at l;rw[Zl,Z4 C]at l;obtain⟨rfl,rfl⟩:nX ((L[j]:gf):md)=kx/\V.int (m L[j]:gf)=vx:=%[nY (·.1) (Za l)|nY (·.2) (Za l)]
   let s5:=ah.Qa (o:= .tup [kV (nX ((L[j]:gf):md)),.int (m L[j]:gf)]) a5;let as:Qa u tp (.tup [kV (nX ((L[j]:gf):md)),.int (m L[j]:gf)]) tp&&&[.int (L[j]:gf),.int (m L[j]:gf)]:=aa;let ai:=ag.trans s5;let aR:=s5 _ _ a4
   generalize Qa u tp _=H5 at as ai aR ⊢
   let tk:L.take (j+1)=L.take j++[L[j]]:=by rw[Xc,Z4 C];rfl
   show%[_,SqT.of as,ρ,_,_,ρ,_,_,ρ,ρ|?_];lk;let gq:cZ H5 q (.int (L[j]:gf)) (bD (TD U g) (nX ((L[j]:gf):md))):= .inl %[_,nX ((L[j]:gf):md),.inr %[oq|ai _ _ hq],rfl|rfl];let put:∀y:gf,(if L[j]>U then L[j]else m L[j])=y->CK G L.length j (λj vs I u=>(∃Y o2,I=[Y,o2,!q])/\ah H3 u/\u G<*vs/\vs=((L.take j).map λx=>if x>U then x else m x).map λn:gf=>V.int (n:md)) _ [fI (.int (L[j]:gf)),fI (.int (m L[j]:gf)),!q] (.int (y:gf)) H5:=λy e=>by
    show CK.mk C aR (by rw[Z6,Z6,Yj];show aF !_) %[%[_,_|rfl],ah.set ai hG,aa|?_];rw[tk,Zd,Zd,<-e];rfl
   show%[_,gq|br (λc=>put _ (hY (eV.1.mp c))) λc=>put _ (hH λh=>c (eV.1.mpr h))]
  intro vs I u %[_,ag,aU|rfl];rw[Zn (Zi _)]at aU;show kk G u _ (aq.trans ag) aU (λx _=>by
   split
   .show .inl rfl
   .show .inr rfl) λa b r=>?_
  let mem:∀x>L,(if x>U then x else m x)>L.map λx=>if x>U then x else m x:=λx l=>Xr %[x,l|rfl]
  by_cases c:a>A0\/∃y>U,y>L/\m y=a
  .let bU:=cl.2 a c b r;let:=mem b (cl.1 b bU);rw[hY bU]at this;show .inr this
  .let al:a>L.map m:=M5 λn=>c (.inl (fl.mpr ⟨by
    let%[g,hg,e|_]:=r;rw[<-eN];show Xr %[g,hg|e],n⟩))
   let%[y,yl|rfl]:=Xq al;let yU:y∉U:=λh=>c (.inr %[y,h,yl|rfl])
   let:=mem y yl;rw[hH yU]at this;show .inl this
noncomputable abbrev PD(rs:Pt):fx (Key×V):=rs.map λg=>(nX (g.1:md),V.ref g.2.1)
structure PtU (H:Hp) (d:hW) (rs:Pt):Prop where
 at_:H d>=.dK (PD rs)
 la:∀g>rs,H g.2.1<*nums g.2.2
 nd:(rs\1).Nodup
 lt:∀g>rs,g.1<60/\∀p>g.2.2,p<60
def PtU.up{H a:Hp}{d:hW}{rs:Pt}(h:PtU H d rs)(s:ah H a):PtU a d rs:=%[s _ _ h.at_,λg b=>s _ _ (h.la g b),h.nd|h.lt]
def PtU.frz{H:Hp}{d:hW}{rs:Pt}(h:PtU H d rs)(o:NV):PtF (Qa H d (.frz o (.dK (PD rs)))) d rs:=%[%[o|aa],λg a=>by
 rw[ar (nq (h.la g a) h.at_ rfl)];show h.la g a,h.nd|h.lt]
def Mt{H b:Hp}{d:hW}{o:NV}{a:fx _}(f:H d>=.dK a)(g:ah (Qa H d (.frz o (.dK a))) b):ah H (Qa b d (.dK a)):=λc h e=>by
 by_cases z:c=d
 .rw[z]at e ⊢;rw[f]at e;rw[aa];show e
 .rw[ar z];show g c h (by rw[ar z];show e)
inductive Bm
 | mk (d:hW) (rs:Pt):vs=[.ref d]->PtU H d rs->(∀hb o H' (L:fx gf) (m:gf->gf),ah H H'->H' hb>=.frz o (.dK (TD L m))->uQ rs L m (rs\1)->Q (.ref hb) H')->Bm vs H Q E0
inductive FR
 | mk (d hb:hW) (o:NV) (rs:Pt) (L:fx gf) (m:gf->gf):vs=[.ref d,.ref hb]->PtU H d rs->H hb>=.frz o (.dK (TD L m))->uQ rs L m (rs\1)->(∀l H' (ch:gf->gf),ah H H'->H' l<*nums (L.map ch)->(∀x>L,ch x=x\/ch x=m x)->(∀a b,PtE rs a b->a>L.map ch\/b>L.map ch)->Q (.ref l) H')->FR vs H Q E0
structure PtN (H0 H:Hp) (d:hW) (rs:Pt):Prop where
 at_:H d>=.dK (PD rs)
 la:∀g>rs,H0 g.2.1=fD/\H g.2.1<*nums g.2.2
 an:(rs.map (·.2.1)).Nodup
 nd:(rs\1).Nodup
def wt{n:gf}{v:V}:∀{rs:Pt},bD (PD rs) (nX n)>=v->∃g>rs,g.1=n/\v= .ref g.2.1
 |[],h=>nomatch h
 | g::rs,h=>by
   by_cases e:g.1=n
   .rw[show PD _=(nX _,V.ref _)::PD rs from rfl,du (by rw[e])]at h;show%[g,Zm,e|(Za h).symm]
   .rw[show PD _=(nX _,V.ref _)::PD rs from rfl,cI (λq=>e (PM (QN q)))]at h;let%[a,b|c]:=wt h;show%[a,Zk _ b|c]
abbrev FS(y z:gf)(rs:Pt):Pt:=rs.map λg=>if g.1=y then(g.1,g.2.1,g.2.2++[z])else g
def wu{y z:gf}{a:Type}(f:gf×hW->a)(rs:Pt):(FS y z rs).map (λg=>f (g.1,g.2.1))=rs.map λg=>f (g.1,g.2.1):=by
 unfold FS;rw[Yp];show Yn λg _=>?_
 change f ((if g.1=y then(g.1,g.2.1,g.2.2++[z])else g).1,(if g.1=y then(g.1,g.2.1,g.2.2++[z])else g).2.1)=_
 split<;> rfl
def PtN.add{r H:Hp}{d:hW}{rs:Pt}(h:PtN r H d rs){g:gf×hW×fx gf}(i:g>rs)(z:gf):PtN r (Qa H g.2.1 (.lst (nums g.2.2++[.int z]))) d (FS g.1 z rs):=by
 show%[?_,λu m=>?_,by rw[wu (·.2)];show h.an|by rw[wu (·.1)];show h.nd]
 .rw[show PD _=PD rs from wu (λp=>((nX (p.1):Key),V.ref p.2)) rs,ar (nq h.at_ ((h.la g i).2) rfl)];show h.at_
 .let%[o,j|rfl]:=Xq m;by_cases e:o.1=g.1
  .rw[hY e];obtain rfl:=FO h.nd j i e;show%[(h.la _ i).1|?_];rw[aa];unfold nums;rw[Zd];rfl
  .rw[hH e];show%[(h.la _ j).1|?_];rw[ar (λq=>e ?_)]
   .show(h.la _ j).2
   .let inj:∀{l:Pt},(l.map (·.2.1)).Nodup->o>l->g>l->o=g:=λ{l} n a b=>by
     induction l with
     | nil=>cases a
     | cons x l s=>
       rw[Yo,MO]at n;rcases Yu.mp a with c|c<;> rcases Yu.mp b with f|f
       .rw[c,f]
       .show(n.1 (by rw[<-c,q];show Xr %[_,f|rfl])).elim
       .show(n.1 (by rw[<-f,<-q];show Xr %[_,c|rfl])).elim
       .show s n.2 c f
    rw[inj h.an j i]
def PtN.new{i H:Hp}{d e:hW}{rs:Pt}(h:PtN i H d rs)(o:i e=fD)(j:H e=fD)(y z:gf)(m:y∉rs\1):PtN i (Qa (Qa (Qa H e (.lst [])) d (.dK (cA (PD rs) (nX y) (.ref e)))) e (.lst [.int z])) d (rs++[(y,e,[z])]):=by
 let p:d≠e:=nq h.at_ j rfl;show%[?_,λg f=>?_,?_|?_]
 .rw[ar p,aa,gE _ (by
   cases r:bD (PD rs) _ with
   | none=>rfl
   | some v=>
     let%[g,f,e|_]:=wt r;show lr (Xr %[g,f|e]) m)]
  unfold PD;rw[Zd];rfl
 .rcases Xo f with f|f
  .show%[(h.la g f).1|?_];let q:=(h.la g f).2;rw[ar (nq q j rfl),ar (nq q h.at_ rfl),ar (nq q j rfl)];show q
  .rw[Xp f];show%[o|aa]
 .rw[Zd,Yz];show%[h.an,by simp|λa l b n c=>?_];let%[g,f|rfl]:=Xq l;let q:=(h.la g f).2
  simp_all
 .rw[Zd,Yz];show%[h.nd,by simp|λa l b n c=>m (by rw[<-show b=y from Xp n,<-c];show l)]
def K1{rs:Pt}{g:gf×hW×fx gf}(j:g>rs)(z a b:gf):PtE (FS g.1 z rs) a b↔PtE rs a b\/(a=g.1/\b=z):=by
 constructor
 .rintro⟨l,i,e,d⟩;let%[f,h|rfl]:=Xq i;by_cases c:f.1=g.1
  .rw[hY c]at e d;rcases Xo d with q|q
   .show .inl %[f,h,e|q]
   .show .inr %[e.symm.trans c|Xp q]
  .rw[hH c]at e d;show .inl %[f,h,e|d]
 .rintro(⟨f,h,e,d⟩|⟨rfl,rfl⟩)
  .show%[_,Xr %[f,h|ρ]|?_];by_cases c:f.1=g.1
   .rw[hY c];show%[e|Ys _ d]
   .rw[hH c];show%[e|d]
  .show%[_,Xr %[g,j|ρ]|?_];rw[hY rfl];show%[ρ|Yt _ Zm]
def K2{rs:Pt}{y z a b:gf}{e:hW}:PtE (rs++[(y,e,[z])]) a b↔PtE rs a b\/(a=y/\b=z):=by
 constructor
 .rintro⟨g,d,q,c⟩;rcases Xo d with h|h
  .show .inl %[g,h,q|c]
  .rw[Xp h]at q c;show .inr %[q.symm|Xp c]
 .rintro(⟨g,d,q,c⟩|⟨rfl,rfl⟩)
  .show%[g,Ys _ d,q|c]
  .show%[_,Yt _ Zm,ρ|Zm]
def nE(T:Txt K mg):Cal P w K mg base 3 "most_pairs" ["partners"] Bm:=by
 let A:Cal P w K mg base 3 "most_pairs" ["partners"] (λvs H Q _=>∃d rs,vs=[.ref d]/\PtU H d rs/\∀a b L m,ah H b->H a=fD->b a>=.dK (TD L m)->uQ rs L m (rs\1)->Q (.ref a) b):=by
  show(tf T).frozen.imp λvs H Q E ⟨d,rs,g,f,j⟩=> .inr %[d,_,by rw[g];rfl,f.at_|λo=>%[d,rs,g,f.frz o|λa b L m l i n p=>?_]]
  let q:a≠d:=nq i aa rfl;rw[ar q]at i;show j a _ L m (Mt f.at_ l) i (by rw[ar q];show n) p
 show A.freeze.imp λvs H Q E ⟨d,rs,g,f,j⟩=>%[d,rs,g,f|λa b L m l i n p=>%[[a]|λr=>j a _ _ L m (λc o e=>(j3 (λh=>!2)).trans (l _ _ e)) (kH Zm n) p]]
def gY(T:Txt K mg):Cal P w K mg base 2 "one_of_each_pair" ↑"partners held_by" FR:=by
 show(kU T).frozen.imp λvs H Q E zqw=>?_;let%[d,g,o,rs,L,m,b,a,e,h|i]:=zqw;show  .inr %[d,_,by rw[b];rfl,a.at_|λj=>%[d,g,o,rs,L,m,b,a.frz j,?_,h|λl r ch f n p q=>?_]]
 .rw[ar (nq e a.at_ rfl)];show e
 .let ld:l≠d:=λc=>by
   let:=f _ _ (aa)
   grind
  show i l _ ch (Mt a.at_ f) (by rw[ar ld];show n) p q
inductive FT (mg:ZC)
 | mk (g:hW) (qs:ZN) (ls:ZB) (ts:ZG):vs=[.ref g]->gX mg H g qs ls ts->(∀lk,bx (bj qs) (ts\2) lk->∀x,¬ Rch lk x x)->qs\5<=60->(∀t a b H' (as L:fx gf) (bs:fx (hW×gf×gf)) (m ch:gf->gf) lk,bx (bj qs) (ts\2) lk->ah H H'->H' t&&&[.ref a,.ref b]->H' a<*nums as->as.Perm (L.map ch)->H' b>=.lst (bs\0)->PrN H' bs->(bs\2).Perm (L.map λx=>(m x,x))->Mat (Cls qs lk) L m->(∀x>L,ch x=x\/ch x=m x)->(∀i j,Cls qs lk i j->i>L.map ch\/j>L.map ch)->Q (.ref t) H')->FT mg vs H Q E0
def FU{qs:fx _}{lk:fx _}{i j:gf}(h:Cls qs lk i j)(l:qs\5<=60):i<60/\j<60:=by
 let%[_,_,_,_,%[_,_,c|_],%[_,_,d|_]|_]:=h;let a:=(Xn c).1;let b:=(Xn d).1;show%[!_|!_]
def sk(T:Txt K mg):Cal P w K mg base 9 "fewest_wrong" ["ground"] (FT mg):=by
 .exists T.bt,aX,a2,hr,%[g,qs,ls,ts,rfl,d,nr,ql|kk];show%[_,%["JDH1)DTVG]3A0BfNM2NM3gEX~un~v~w1A2AUBBA3BDH4G]4A1BD~D5baZ?1~$4fNW0?2NW1?2gpkA1A0BEIkA']5AG]6A1A4BBA'~7A5BB",aX.nd,↑(↑"by since",[]),↑["by","since"]|hr]|?_]
  change aZ _ _ _ [!g,fD,fD,fD,fD,fD] H;show am λD1 k1 _=>?_
  lk;intro e fe;show k1 (am λD2 k2 _=>az λab hK=>?_);let se:=ah.Qa (o:= .dK []) fe;let he:Qa H e (.dK []) e>=.dK (PD []):=aa
  generalize Qa H e _=H1 at se he
  lk;show%[g,qs,ls,ts,ρ,d.up se,nr,ql|λl H2 ps lk li s2 hl pa pm pl=>%[%[_|Qb.of hl]|hK ?_]];let he:=s2 _ _ he;let le:l≠e:=nq hl he rfl;show cL (us:=ps) (f:=λt=>V.ref t.1) (λj B u=>A3 (E2 λo2 o3=>B=[!g,!e,o2,o3,fD,fD]) (dj e H2 u) (∃rs,A4 (PtN H2 u e rs) (rs\5<=j) (∀g>rs,g.2.2≠[]/\g.2.2\5<=j) (∀a b,PtE rs a b↔(a,b)>(ps.take j)\2)))
   %[%[_,_|rfl],(λ_ _ _ h=>h),[],%[he,(λ_ h=>nomatch h),X2|X2],Zi _,(λ_ h=>nomatch h)|λa b=>%[λ⟨_,h,_⟩=>(nomatch h)|λh=>nomatch h]] (λj B u h=>h.2 _ _ le hl) ?_ ?_
  .intro j t B u i %[%[o2,o3|rfl],sx,rs,pn,rl,rg|C];let tm:=Z8 i;let j1:j<ps\5:=(Xn i).1;let tt:=sx _ _ (nq (pa t tm) he rfl) (pa t tm);let tk:(ps.take (j+1))\2=(ps.take j)\2 ++[t.2]:=by rw[Xc,i,Zd];rfl
   let sf:∀{p},u p=fD->H2 p=fD:=λ{p} h=>by
    cases q:H2 p with
    | none=>rfl
    | some o=>
      let pe:p≠e:=nq h pn.at_ rfl;rw[sx _ _ pe q]at h;cases h
   show%[_,SqT.of tt,ρ,_,_,ρ,_,_,ρ,ρ|?_];change kY _ _ [!g,!e,fI (.int t.2.1),fI (.int t.2.2),fD,fD] u;show aB λD4 k4 _=>?_
   lk;let mem:∀G:Pt,(∀a b,PtE G a b↔PtE rs a b\/(a=t.2.1/\b=t.2.2))->∀a b,PtE G a b↔(a,b)>(ps.take (j+1))\2:=λG h a b=>by
    rw[h,C,tk,Yq,Yx];show SV QV %[λ⟨h1,h2⟩=>by rw[h1,h2]|λh=>%[nY (·.1) h|nY (·.2) h]]
   show%[tyD pn.at_,#[0]|λp r=>%[nX (t.2.1:md),ρ,PD rs,?_,?_,λv hv=>?_|λhv=>?_]]
   .rw[ar (nq pn.at_ r rfl)];show pn.at_
   .rw[Z6];show aF !_
   .let%[q,I,e1|rfl]:=wt hv;let sp:=ah.Qa (o:= .lst []) r;let ac:PtN H2 (Qa u p (.lst [])) e rs:=%[sp _ _ pn.at_,λg d=>%[(pn.la g d).1|sp _ _ (pn.la g d).2],pn.an|pn.nd]
    let hl:=(ac.la q I).2;show%[tyL (Qb.of hl),_,hl,by unfold nums;rw[Z6];show aF (by let:=(rg q I).2;lia)|k4 %[%[_,_|ρ],λc o n h=>?_,_,ac.add I t.2.2,?_,λg d=>?_|mem _ λa b=>?_]]
    .rw[ar (nq h ((pn.la q I).1) rfl)];show sp _ _ (sx c o n h)
    .unfold FS;rw[Z6]
     lia
    .let%[g0,h0|rfl]:=Xq d;let:=rg g0 h0
     split
     .show%[by simp|by change(g0.2.2++[t.2.2]).length<=_;rw[Z9,Yi];lia]
     .show%[this.1|!_]
    .rw[K1 I,e1]
   .let nk:t.2.1∉rs\1:=λh=>by
     let%[q,I|c]:=Xq h;let:=Iq pn.nd I;rw[show q.1=t.2.1 from c]at this;rw[this]at hv;cases hv
    let de:e≠p:=nq pn.at_ r rfl;let gp:Qa (Qa u p (.lst [])) e (.dK (cA (PD rs) (nX (t.2.1:md)) (.ref p))) p<*[]:=by rw[ar de.symm,aa]
    show%[tyL (Qb.of gp),[],gp,(show 0<iv by decide)|k4 %[%[_,_|ρ],λc o n h=>?_,_,pn.new (sf r) r t.2.1 t.2.2 nk,?_,λg d=>?_|mem _ λa b=>K2]]
    .let cp:c≠p:=nq h (sf r) rfl;rw[ar cp,ar n,ar cp];show sx c o n h
    .rw[Z9,Yi]
     lia
    .rcases Xo d with q|q
     .show%[(rg g q).1|by let:=(rg g q).2;lia]
     .rw[Xp q];show%[nofun|Ri (Xg _)]
  .intro B u %[%[o2,o3|rfl],sx,rs,pn,rl,rg|C];rw[Zn (Zi _)]at C;let C:∀a b,PtE rs a b↔Cls qs lk a b:=λa b=>(C a b).trans (pm a b)
   let pu:PtU u e rs:=%[pn.at_,λg d=>(pn.la g d).2,pn.nd|λg d=>⟨by
    let%[b|hb]:=Og _ (rg g d).1;show(FU ((C g.1 b).mp %[g,d,rfl|hb]) ql).1,λp r=>(FU ((C g.1 p).mp %[g,d,rfl|r]) ql).2⟩]
   let eE:PtE rs=Cls qs lk:=funext λa=>funext λb=>WU (C a b)
   let s3:ah H u:=λc o h=>by
    let ce:c≠e:=nq h fe rfl;show sx c o ce (s2 _ _ (se _ _ h))
   show k2 (am λD5 k5 _=>?_);lk;show%[e,rs,ρ,pu|λhb ob H4 L m s4 hh pr=>k5 (am λD6 k6 _=>?_)];let Ll:=yH pr.mat.nd pr.ln;show aD λab hK=>?_
   unfold vT;lk;show%[_,_,hh|hK λF hF=>?_];let tl:(TD L m)\5=L\5:=Z6 _;show b8 (J:=Iti hb ob (TD L m)) (n:=L\5) (D:=F) (λj vs B z=>(∃o1 o2,B=[o1,o2])/\ah H4 z/\z F<*vs/\∃bs:fx (hW×gf×gf),vs=(bs\0)/\PrN z bs/\bs\2=(L.take j).map λx=>(m x,x))
    %[%[fD,fD|rfl],ah.Qa hF,aa,[],rfl,(λ_ h=>nomatch h)|rfl] (λj _ _ z hj M=>%[M.2.1 _ _ hh|by show tl▸hj]) (λ_ _ z M=>%[M.2.1 _ _ hh|tl▸Zi _]) ?_ ?_
   .intro j vs B z hj %[%[o1,o2|rfl],y,aq,bs,rfl,pb|eb] x N %[kx,vx,tp,hx,aR,rfl|rfl];unfold TD ND at hx;rw[Zl,Z4 hj]at hx;obtain⟨rfl,rfl⟩:nX ((L[j]:gf):md)=kx/\V.int (m L[j]:gf)=vx:=%[nY (·.1) (Za hx)|nY (·.2) (Za hx)]
    let s6:=ah.Qa (o:= .tup [kV (nX ((L[j]:gf):md)),.int (m L[j]:gf)]) aR;let ae:Qa z tp (.tup [kV (nX ((L[j]:gf):md)),.int (m L[j]:gf)]) tp&&&[.int (L[j]:gf),.int (m L[j]:gf)]:=aa;let ag:=y.trans s6;let ai:=s6 _ _ aq;let aj:PrN (Qa z tp (.tup [kV (nX ((L[j]:gf):md)),.int (m L[j]:gf)])) bs:=λt i=>s6 _ _ (pb t i)
    generalize Qa z tp _=N at ae ag ai aj ⊢
    show%[_,SqT.of ae,ρ,_,_,ρ,_,_,ρ,ρ|?_];change BR [fI (.int (L[j]:gf)),fI (.int (m L[j]:gf))] N _;lk;let bl:bs\5=j:=by
     let:=nY L3 eb;rw[Z6,Z6,Yj]at this
     lia
    show%[#[2]|λp r=>?_];let s7:=ah.Qa (o:= .tup [.int (m L[j]:gf),.int (L[j]:gf)]) r;let O:=s7 _ _ ai;let U:PrN (Qa N p (.tup [.int (m L[j]:gf),.int (L[j]:gf)])) (bs++[(p,m L[j],L[j])]):=λt i=>by
     rcases Xo i with h|h
     .show s7 _ _ (aj t h)
     .rw[Xp h];show aa
    let al:=ag.trans s7
    generalize Qa N p _=H7 at O U al
    show CK.mk hj O (by rw[Z6];show aF !_) %[%[_,_|rfl],ah.set al hF,aa,bs++[(p,m L[j],L[j])],by rw[Zd];rfl,λt i=>?_|?_]
    .rw[ar (nq (U t i) O rfl)];show U t i
    .rw[Zd,eb,Xc,Z4 hj,Zd];rfl
   intro vs B z %[_,y,aU,bs,rfl,pb|eb];rw[Zn (Zi _)]at eb;show k6 ?_;lk;let bl:bs\5=L\5:=by
    let:=nY L3 eb;rwa[Z6,Z6]at this
   show%[e,hb,ob,rs,L,m,ρ,pu.up (s4.trans y),y _ _ hh,pr|λl' N ch s6 a0 e1 e2=>%[(L.map ch).map λn:gf=>(n:md),Qb.of (by rw[Yp];show a0),by rw[Z6,Z6];lia|λl1 ms f1 p1=>?_]];let%[as,a1|rfl]:=xw p1 (L.map ch) rfl;let s7:=ah.Qa (o:= .lst ((as.map λn:gf=>(n:md))\4)) f1;let h1:Qa N l1 (.lst ((as.map λn:gf=>(n:md))\4)) l1<*nums as:=by rw[aa,Yp];rfl
   generalize Qa N l1 _=H7 at s7 h1
   let Y:=s6.trans s7;show%[bs,Qb.of (Y _ _ aU),λt i=>Y _ _ (pb t i),!_|λl2 ss f2 p2=>%[#[2]|λt ft=>?_]];let s8:=ah.Qa (o:= .lst (ss\0)) f2;let h2:Qa H7 l2 (.lst (ss\0)) l2=_:=aa
   generalize Qa H7 l2 _=H8 at s8 h2 ft
   let s9:=ah.Qa (o:= .tup [.ref l1,.ref l2]) ft;let an:=(Y.trans s8).trans s9;rw[eE]at e2;show kk t l1 l2 _ as L ss m ch lk li ((s3.trans (s4.trans y)).trans an) aa ((s8.trans s9) _ _ h1) a1 (s9 _ _ h2) (λp r=>an _ _ (pb p (p2.mem_iff.mp r))) ?_ (eE▸pr.mat) e1 e2;rw[<-eb];show p2.map _
abbrev Kon(E:gf->gf->Prop)(n:gf):Prop:=∃(L C:fx gf) (m:gf->gf),Mat E L m/\(∀i j,E i j->i>C\/j>C)/\L\5=n/\C\5=n
abbrev Two(E:gf->gf->Prop):Prop:=∀i j k,E i j-> ¬ E j k
def oC{E:gf->gf->Prop}(f:Two E){L C:fx gf}{m:gf->gf}(M:Mat E L m)(g:∀i j,E i j->i>C\/j>C):L\5<=C\5:=by
 let nd:(L.map λx=>if m x>C then m x else x).Nodup:=by
  rw[X1,X7];show Xi (λ{x y} c d n e=>n ?_) (X1.mp M.nd);by_cases a:m x>C<;> by_cases b:m y>C
  .rw[hY a,hY b]at e;show M.inj x c y d e
  .rw[hY a,hH b]at e;show(f _ _ _ (M.ed y d) (e▸M.ed x c)).elim
  .rw[hH a,hY b]at e;show(f _ _ _ (M.ed x c) (e.symm▸M.ed y d)).elim
  .rw[hH a,hH b]at e;show e
 let:=_ST.nodup_sub nd λz h=>by
  let%[x,c|rfl]:=Xq h;by_cases a:m x>C
  .rw[hY a];show a
  .rw[hH a];show(g _ _ (M.ed x c)).resolve_left a
 simp_all
abbrev kW(N:gf)(f:gf->gf)(C:fx gf):fx gf:=(kj N).filter λi=>decide (f i>C)
def gZ{N:gf}{f:gf->gf}{C:fx gf}{i:gf}:i>kW N f C↔i<N/\f i>C:=by
 unfold kW
 simp_all
def wv{N:gf}{f:gf->gf}{C:fx gf}(inj:∀i j,i<N->j<N->f i=f j->i=j):((kW N f C).map f).Nodup:=by
 rw[X1,X7];show Xi (λ{x y} a b n e=>n (inj x y (gZ.mp a).1 (gZ.mp b).1 e)) (X1.mp (PF.filter _))
def sq{N:gf}{f:gf->gf}{C:fx gf}:∀z>(kW N f C).map f,z>C:=λz a=>by
 let%[i,hi|rfl]:=Xq a;show(gZ.mp hi).2
def ww{E b:gf->gf->Prop}{N:gf}{f:gf->gf}{C:fx gf}(c:∀i j,E i j->i<N/\j<N)(a:∀i j,E i j->b (f i) (f j))(d:∀i j,b i j->i>C\/j>C):∀i j,E i j->i>kW N f C\/j>kW N f C:=λi j e=>
 (d _ _ (a i j e)).imp (λh=>gZ.mpr %[(c i j e).1|h]) λh=>gZ.mpr %[(c i j e).2|h]
def kon_le{E b:gf->gf->Prop}{n n' N:gf}{f:gf->gf}(c:Two E)(k:Kon E n)(d:Kon b n')(e:∀i j,E i j->i<N/\j<N)(inj:∀i j,i<N->j<N->f i=f j->i=j)(a:∀i j,E i j->b (f i) (f j)):n<=n':=by
 let%[L,_,m,M,_,rfl|_]:=k;let%[_,C,_,_,g,_|rfl]:=d;let:=_ST.nodup_sub (wv (C:=C) inj) sq;rw[Z6]at this;show lx (oC c M (ww e a g)) this
def Mx{E c:gf->gf->Prop}{n n' N:gf}{f g:gf->gf}(r:Two E)(l:Two c)(k:Kon E n)(y:Kon c n')(s:∀i j,E i j->i<N/\j<N)(A:∀i j,i<N->j<N->f i=f j->i=j)(B:∀i j,i<N->j<N->g i=g j->i=j)(G:∀i j,i<N->j<N->f i≠g j)
 (H:∀i j,E i j->c (f i) (f j)) (I:∀i j,E i j->c (g i) (g j)) (all:∀a b,c a b->∃i j,E i j/\(a=f i\/a=g i)/\(b=f j\/b=g j)):n'=2*n:=by
 let%[L,C,m,M,J,Y|e2]:=k;let%[L',u,m',O,d,e3|e4]:=y;let up:=oC (C:=C.map f++C.map g) l O λa b e=>by
  let%[i,j,h,o|p]:=all a b e;rw[Yq,Yq];let v:∀{a i:gf},(a=f i\/a=g i)->i>C->a>C.map f\/a>C.map g:=λh q=>by
   rcases h with rfl|rfl
   .show .inl (Xr %[_,q|rfl])
   .show .inr (Xr %[_,q|rfl])
  show(J i j h).imp (v o) (v p)
 rw[Z9,Z6,Z6]at up;let d1:=oC r M (ww s H d);let d2:=oC r M (ww s I d);let nd:((kW N f u).map f++(kW N g u).map g).Nodup:=Yz.mpr %[wv A,wv B|λa o b p e=>by
  let%[i,hi|rfl]:=Xq o;let%[j,Q|rfl]:=Xq p;show G i j (gZ.mp hi).1 (gZ.mp Q).1 e]
 let T:=_ST.nodup_sub nd λz U=>(Xo U).elim (sq z) (sq z)
 rw[Z9,Z6,Z6]at T
 lia
def Mu{E:gf->gf->Prop}{n:gf}(k:Kon E n)(h:∀i j,¬ E i j):n=0:=by
 let%[L,_,m,M,_,rfl|_]:=k;cases L with
 | nil=>rfl
 | cons x L=>show(h _ _ (M.ed x Zm)).elim
def My{E:gf->gf->Prop}{n c i j:gf}(a:Two E)(k:Kon E n)(h:E i j)(all:∀i j,E i j->i=c\/j=c):n=1:=by
 let%[L,C,m,M,b,rfl|e]:=k;let:=oC a M λi j e=>(all i j e).imp Yx.mpr Yx.mpr
 let:C≠[]:=λz=>by grind
 let:=NY.mpr this;simp only[Yi]at*
 lia
def Mz{E:gf->gf->Prop}{L:fx gf}{m ch:gf->gf}(M:Mat E L m)(a:∀i j,E i j->i>L.map ch\/j>L.map ch):Kon E L.length:=%[L,L.map ch,m,M,a,rfl|Z6 _]
def HG(qs:fx _)(lk:fx _):Two (Cls qs lk):=λi j k ⟨_,_,_,_,_,⟨q,a,d,e,_⟩,_⟩ ⟨_,_,_,_,⟨f,g,b,c,_⟩,_⟩=>by
 rw[d]at b;cases b;rw[e]at c;cases c
def wz(T:Txt K mg):xg P w K mg base 8 "order" ["ground"] (jE mg):=by
 let cY:=cY (P:=P) (w:=w) (base:=base) T;show T.bu.calX mM (λH vs Q E h=>?_)
 .let%[g,qs,ls,ts,lk,us,rfl,c,d,e|i]:=h;show%[ρ|λf b A outer s a=>?_];show%[_,(QSs.h (ak (aJ 1 mM.nd rfl (Ay (pW λ_ _ _ h=>h) cY a rfl rfl rfl rfl #[↑0]))
   (au (aO (aG (eF T) a rfl #[aG (bY T) a rfl #[↑0],↑1])))))|?_]
  show%[g,qs,ls,ts,lk,[],ρ,c,d,e|i]
def hJ(T:Txt K mg):xg P w K mg base 8 "earlier_ones" ["ground"] (jE mg):=by
 let cY:=cY (P:=P) (w:=w) (base:=base) T;show T.b2.calX dS (λH vs Q E h=>?_)
 .let%[g,qs,ls,ts,lk,us,rfl,c,d,e|i]:=h;show%[ρ|λf b A outer s a=>?_];show%[_,(QSs.h (ak (aJ 1 dS.nd rfl (Ay (pW λ_ _ _ h=>h) cY a rfl rfl rfl rfl #[↑0]))
   (au (aO (aG (lB T) a rfl #[aG (bY T) a rfl #[↑0],↑1])))))|?_]
  show%[g,qs,ls,ts,lk,[],ρ,c,d,e|i]
def eW(T:Txt K mg):xg P w K mg base 9 "clashing_pairs" ["ground"] (jE mg):=by
 let hJ:=hJ (P:=P) (w:=w) (base:=base) T;show T.br.calX aI (λH vs Q E h=>?_)
 .let%[g,qs,ls,ts,lk,us,rfl,c,d,e|i]:=h;show%[ρ|λf b A outer s a=>?_];show%[_,(QSs.h (ak (aJ 1 aI.nd rfl (Ay (pW λ_ _ _ h=>h) hJ a rfl rfl rfl rfl #[↑0]))
   (ak (aJ 2 aI.nd rfl (aG (fY T) a rfl #[↑0,c9]))
   (ak (aJ 3 aI.nd rfl (c6 ao))
   (ak (cC T4 rfl rfl (cS (K:=K) rfl (aG (fY T) a rfl #[↑0,c9])) (d5 (K:=K) rfl rfl rfl (gsE rfl (lW 4 aI.nd rfl Z1 Z0) (gsE rfl (aH 5 aI.nd rfl) (gsE rfl (lW 6 aI.nd rfl Z1 Z0) cz))))
   (au (bO rfl (bmO (K:=K) NI XE XD lZ rfl ↑3 #[(cU (aA.of ↑(↑"said number year",[(1,4),(2,6)])) rfl rfl (cS (K:=K) rfl (aG (pG T) a rfl #[↑2,↑1,↑5])) (λ_ _ _=>(aH 0 ↑["said","number","year"] rfl)) (λ_ _ _=>(fJ (bh qx rfl (a9 2 rfl) (↑0>>(gvE T.aC rfl rfl))))) (λ_ _ _=>(eG #[a9 1 rfl,(↑0>>(gvE T.aD rfl rfl))])))]))))
   (au (aO ↑3)))))))|?_]
  show%[g,qs,ls,ts,lk,[],ρ,c,d,e|i]
def hZ(T:Txt K mg):xg P w K mg base 10 "fewest_wrong" ["ground"] (jE mg):=by
 let eW:=eW (P:=P) (w:=w) (base:=base) T;show T.bt.calX aX (λH vs Q E h=>?_)
 .let%[g,qs,ls,ts,lk,us,rfl,n,p,c|q]:=h;show%[ρ|λf m A outer s b=>?_];show%[_,(QSs.h (ak (aJ 1 aX.nd rfl iR)
   (ak (cC T4 rfl rfl (cS (K:=K) rfl (Ay (pW λ_ _ _ h=>h) eW b rfl rfl rfl rfl #[↑0])) (d5 (K:=K) rfl rfl rfl (gsE rfl (aH 2 aX.nd rfl) (gsE rfl (aH 3 aX.nd rfl) cz)))
   (au (bO rfl (Hv (K:=K) rfl NI PySem.F.slot_list_append PySem.F.type_list_append bv rfl rfl rfl rfl (bmO (K:=K) OA RT VR fQ rfl ↑1 #[↑2,c6 ao]) #[↑3]))))
   (ak (aJ 4 aX.nd rfl (aG (nE T) b rfl #[↑1]))
   (ak (gF 5 aX.nd rfl Z0 Z1 rfl (aA.of ↑(↑"by since",[])) rfl rfl (vV rfl rfl ↑4) (λ_ _ _=>(d5 (K:=K) rfl rfl rfl (gsE rfl (aH 0 ↑["by","since"] rfl) (gsE rfl (aH 1 ↑["by","since"] rfl) cz)))) (λ_ _ _=>jS) (λ_ _ _=>(eG #[↑1,↑0])))
   (au (aO (eG #[(cbO (uq (K:=K) rfl) T.a9 TJ rfl #[aG (gY T) b rfl #[↑1,↑4]]),(cbO (lK (K:=K) rfl) T.a9 TJ rfl #[↑5])]))))))))|?_]
  show am λy k1 _=>?_
  intro e r;show k1 (am λz k2 _=>az λj B=>?_);let a:=ah.Qa (o:= .dK []) r;show%[g,qs,ls,ts,lk,[],ρ,n.up a,p,c|λd l u ws x s v i=>q d l u ws x (a.trans s) (a.free v) (a.free i)]
def Ai{X:Cx}{mg:ZC}{x:jz}{p:Pos}(e:X.mg=mg)(b:Gl X x)(c:mg x>=.ref (aS mg x))(a:(x==("__debug__"))=gi):QE X (.Name x p) (tC (.ref (aS mg x))):=by
 subst e;show clsE b c a
inductive yJ (mg:ZC)
 | mk (g:hW) (wy:md) (qs:ZN) (ls:ZB) (ts:ZG) (lk:fx ZB):vs=[.ref g,.int wy]->gX mg H g qs ls ts->bx (bj qs) (ts\2) lk->(∃x,Rch lk x x)->(∀H',ah H H'->Q (.bl gb) H')->yJ mg vs H Q E0
def sr:↥11 99 (yJ mg):=λT=>by
 let wz:=wz (P:=P) (w:=w) (base:=base) T;let hZ:=hZ (P:=P) (w:=w) (base:=base) T;show (T.dd 99 rfl).cal fz (λH vs Q E h=>?_)
 .let%[g,j,qs,ls,ts,lk,rfl,N,r,O|U]:=h;show%[ρ|λf M A outer s C=>?_]
  letI G:_LL.St->XK:=λn c d m=>n=[!g,fI (.int j),fI (.bl gi),fD]/\c= .ref (aS mg "Torn")/\∃e l ws x,d>=e/\ah H m/\H e=fD/\H l=fD/\e≠l/\FI m lk e l ws x
  show%[_,%["JDH2qD?1EI2",fz.nd|(tryV (i:=3) G rfl rfl fz.nd rfl rfl rfl rfl T.c_DigError T.t_DigError rfl (λ_=>
   (au (ifS (bh fM rfl ↑1 ax)
    (au (bO rfl (Ih uh wz C rfl rfl rfl rfl #[↑0])))
    (au (bO rfl (Ih uh hZ C rfl rfl rfl rfl #[↑0]))))))
   (λ_=>(ak (aJ 2 fz.nd rfl (lU (cbE (Fe (K:=K) rfl) rfl T.ac Rv rfl rfl rfl #[↑3,(Ai (mg:=mg) rfl rfl T.c_Torn rfl)]) (nJ (cbE (KB (K:=K) rfl) rfl T.ac Rv rfl rfl rfl #[↑3,(blE (v:= .ty "ValueError") rfl T.am PyProof.Rows.Boot.«ValueError» rfl rfl rfl)]))))
    (au (ifS (ic (λ_=>rfl) (cbE (Fe (K:=K) rfl) rfl T.ac Rv rfl rfl rfl #[↑3,(eG #[(Ai (mg:=mg) rfl rfl T.c_NoCut rfl),(Ai (mg:=mg) rfl rfl T.c_NoGround rfl),(Ai (mg:=mg) rfl rfl T.c_NoSaying rfl),(Ai (mg:=mg) rfl rfl T.c_NoDeed rfl),(Ai (mg:=mg) rfl rfl T.c_NoRow rfl),(Ai (mg:=mg) rfl rfl T.c_NoLayer rfl)])]))
    (au (aJ 2 fz.nd rfl eBl))
    a8)))))]|?_]
  change aZ _ _ _ [!g,fI (.int j),fD,fD] H;show am λD1 k1 r1=>?_
  lk;show k1 (am λY k2 r2=>?_);show%[?_|?_]
  .lk;let I:jE mg [.ref g] H (λx u=>Y.nx [!g,fI (.int j),fI (.bl gi),fD] u) (G [!g,fI (.int j),fI (.bl gi),fD]):=%[g,qs,ls,ts,lk,[],rfl,N,r,O|λd l m ws x s' hd hl dl y=>%[rfl,rfl,d,l,ws,x,rfl,s',hd,hl,dl|y]]
   show br (λ_=>I) λ_=>I
  .intro n c d m %[rfl,rfl,e,l,ws,x,rfl,sm,ab,fl,ac|y];show%[_,ρ,T.u_Torn|λa _ ha=>?_];let J:Qa m a (ExH a (aS mg "Torn") (fI e)) a>=_:=aa;let z:=ah.Qa (o:=ExH a (aS mg "Torn") (fI e)) ha;let q:=sm.trans z;change aZ _ _ _ [!g,fI (.int j),fI (.bl gi),!a] _
   generalize Qa m a _=u at J z q
   let hD:=z _ _ y.ad;let b:∀B,ah u B->TyX K B (.ref a) (.ref (aS mg "Torn")):=λB L=> .ex %[_,L _ _ J|.inr %[e,_,rfl|L _ _ hD]] T.x_Torn.is
   show am λD3 k3 r3=>?_
   lk;show%[_,b _ (ah.refl _),gb,.inl T.k_Torn_Torn|?_];rw[hY rfl];show%[_,b _ (ah.refl _),gb,T.k_Torn_ValueError|k3 (aB λD4 k4 r4=>?_)];lk;show%[#[6]|λp hp=>?_];let sp:=ah.Qa (o:= .tup [V.ref (aS mg "NoCut"),V.ref (aS mg "NoGround"),V.ref (aS mg "NoSaying"),V.ref (aS mg "NoDeed"),V.ref (aS mg "NoRow"),V.ref (aS mg "NoLayer")]) hp;show%[_,b _ sp,gi,.inr %[_,aa|T.k_Torn_any0]|?_];show k4 (k2 ?_);lk;show U _ (q.trans sp)
abbrev bitsN:gf->gf
 | 0=>0
 | n+1=>(n+1)%2+bitsN ((n+1)/2)
def uR{n:gf}(h:0<n):bitsN n=n%2+bitsN (n/2):=by
 cases n with
 | zero=>cases h
 | succ n=>rw[bitsN]
inductive Bn
 | mk (n:gf):vs=[.int (n:md)]->Q (.int (bitsN n:gf)) H->Bn vs H Q E0
def Aj:↥1 100 Bn:=by
 .exists 100,"~number ~found",g,i,%[n,rfl|q];show%[_,%["JDH1CD>L:0CDH1Fe1FS0CEH0Fl0CEI1"|D0.nd]|?_]
  change aZ _ _ _ [fI (.int (n:md)),fD] H;show am λj k1 _=>?_
  lk;show k1 (am λl k2 _=>?_);show⟨λk b d=>d=H/\∃m f:gf,k=m/\b=[fI (.int (m:md)),fI (.int (f:md))]/\f+bitsN m=bitsN n,%[n,rfl,n,0,rfl,rfl|RH _],?_⟩;intro m b d %[rfl,_,f,rfl,rfl|e];lk;show br (λc=>?_) λc=>?_
  .let a:0<m:=↑c
   show%[_,λ_ _ h=>h,!1,%[!1|!1],m/2,!_,ρ,f+m%2,by simp|?_];rw[uR a]at e
   lia
  .let a:m=0:=by
    let: ¬ (0:md)<m:=↑c
    lia
   subst a;show k2 ?_;lk;rw[bitsN,Q9]at e;rw[e];show q
def jd{B:Type}{K:ZA}{l D:hW}{us:fx B}{f q:B->V}{p:B->on}{r:_LL.St}{H:Hp}{g:TG}{I:TT}{J:TE}{L:Hp->Prop}(Q:H l<*us.map f)(M:H D=fD)(hu:us\5<=5000)
 (T:∀i (hi:i<us\5) o a,ah H a->∀(R:_LL.St->V->Hp->Prop) (N:_LL.St->Hp->Prop),(∀o e,ah a e->p us[i]=gb->R (o::r) (q us[i]) e)->(∀o e,ah a e->p us[i]=gi->N (o::r) e)->g (f us[i]) (o::r) a λd C=>I d C λb s=>if b=gb then J d s λy A=>R d y A else N d s)
 (hd:∀a,ah H a->a D<*(us.filter p).map q->L a):
 ∃W:gf->gf->ZM->_LL.St->Hp->Prop,(∃m,W 0 m [] (fD::r) (Qa H D (.lst [])))/\∀i m ys u a,W i m ys u a->((Itl K l).stop i a/\L a)\/
  ((Itl K l).go i a/\∀x e,(Itl K l).yld i a x e->g x u e λd C=>I d C λb s=>if b=gb then J d s λy A=>∃zs v,A D<*zs/\zs\5<iv/\v<m/\W (i+1) v (ys++[y]) d (Qa A D (.lst (zs++[y])))
    else∃v,v<m/\W (i+1) v ys d s):=by
 let U:∀{j:gf} n,(us.take _).filter p=(us.take j).filter p++if p us[j]=gb then [us[j]]else []:=λ{j} n=>by
  rw[Xc,Z4 n,Y1];cases c:p _<;> simp[c]
 show dL (λj ys E a=>(∃o,E=o::r)/\ah H a/\a D<*ys/\ys=((us.take j).filter p).map q) %[%[_|rfl],ah.Qa M,aa|rfl] (λi ys E a h=>h.2.1 _ _ Q) ?_ ?_
 .intro j ys E a n %[%[o|rfl],G,O|rfl];let Y: ~~~(((us.take j).filter p).map q)<=5000:=by
   rw[Z6];let:=Yg p (us.take j);rw[Yj]at this
   lia
  show T j n o a G _ _ (λo e z c=>CK.mk n (z _ _ O) (aF Y) %[%[_|rfl],ah.set (G.trans z) M,aa|?_]) λo e z c=>CN.mk n %[%[_|rfl],G.trans z,z _ _ O|?_]
  .simp_all
  simp_all
 simp_all
structure Sn (ks:fx ZB) (st:jz) (T F:ZB):Prop where
 s0:st>T
 lv:∀x>T,Up ks st x
 fr:∀x>T,∀y,Ed ks x y->y>T\/x>F
 fT:∀x>F,x>T
def Sn.nil{ks:fx _}{st:jz}:Sn ks st [st] [st]:=
 %[Yx.mpr rfl,λx a=> .inl (Xp a).symm,λx a _ _=> .inr a|λ_ h=>h]
def Sn.step{ks:fx _}{st:jz}{T F d:ZB}(h:Sn ks st T F)(f:∀y,y>d↔(∃x>F,Ed ks x y)/\y∉T):Sn ks st (T++d) d:=by
 show%[Ys _ h.s0,λy g=>?_,λx b y e=>?_|λx b=>Yt _ b]
 .rcases Xo g with q|q
  .show h.lv y q
  .let%[%[x,b|e]|_]:=(f y).mp q;rcases h.lv x (h.fT x b)with rfl|r
   .show .inr (.one e)
   .show .inr (r.trans (.one e))
 .rw[Yq];rcases Xo b with q|q
  .rcases h.fr x q y e with a|a
   .show .inl (.inl a)
   .by_cases c:y>T
    .show .inl (.inl c)
    .show .inl (.inr ((f y).mpr %[%[x,a|e]|c]))
  .show .inr q
def Sn.done{ks:fx _}{st:jz}{T:ZB}(h:Sn ks st T [])(y:jz):y>T↔Up ks st y:=by
 show%[h.lv y|?_];let nx:=λx y a e=>(h.fr x a y e).resolve_right λh=>nomatch h
 rintro(rfl|r)
 .show h.s0
 .show r.closed (λy e=>nx _ _ h.s0 e) nx
def Ak{y:jz}:∀{T:ZB},(bD (T.map λz=>((hX z:Key),V.bl gb)) (hX y)).isSome=decide (y>T)
 |[]=>rfl
 | x::T=>by
   by_cases e:x=y
   .subst e;rw[Yo,du rfl];simp
   .rw[Yo,cI (λq=>e (NN q)),Ak];let:y≠x:=λq=>e q.symm
    simp[this]
abbrev fs3(k:ZB):jz:=k.getD 0 y2
abbrev sn3(k:ZB):jz:=k.getD 1 y2
inductive yK
 | mk (r:hW) (st:jz) (ns:ZB) (ss:ZG):vs=[.ref r,.str st]->H r>=.lst (ss\0)->dF H ns ss->ns\5<=60->ss\5<=250->(∀H' p (T:ZB),ah H H'->H' p>=.dK (T.map λz=>(hX z,V.bl gb))->(∀y,y>T↔Up (ss\2) st y)->Q (.ref p) H')->yK vs H Q E0
def eX{t:TT}{b:_LL.St}{H:Hp}{Q:on->Hp->Prop}(h:∀K,(∀a,Q gb a->K gb a)->(∀a,Q gi a->K gi a)->t b H K):t b H Q:=h Q (λ_ q=>q) λ_ q=>q
abbrev RInv(H:Hp)(r p:hW)(st:jz)(b:ZB)(ss:ZG)(m:gf)(c:_LL.St)(a:Hp):Prop:=∃(e:hW) (d:ij V) (T F:ZB),c=[!r,-st,!p,!e,d]/\ah H a/\a p>=.dK (T.map λz=>(hX z,V.bl gb))/\a e<*F\3/\T.Nodup/\(∀x>T,x>st::b)/\m=2*(70-T.length) +F.length.min 1/\Sn (ss\2) st T F
def yM:↥1 97 yK:=by
 .exists 97,"~tied ~start ~there ~edge ~ends",bc,hr,%[r,st,ns,ss,rfl,a3,Y,bd,an|kk];show%[_,%["JDu2ab]7]81q]9Du3abUA1BD>L`AK3UBD~D4baZ?1V0W0?2!L~IO0CK1O0CDu3ab'~YA[~KAiZ?3V4W0?4!^0K10BBEX~2~3K2A~0~1AiZ?5VK3W0?6pkA0AqBBBEIK2",D0.nd,↑(↑"~link ~edge",[(1,3)]),↑["_law_link","_law_edge"],↑(↑"~end ~there",[(1,2)]),↑["_law_end","_law_there"],↑(↑"~end",[]),↑["_law_end"]|hr]|?_]
  change aZ _ _ _ [!r,-st,fD,fD,fD] H;show am λD1 k1 _=>?_
  lk;intro p fp;show%[aa,[(hX st,.bl gb)],ρ,(by decide:1<=15)|k1 (am λD2 k2 _=>?_)];let s1:=ah.Qa (o:= .dK [(hX st,.bl gb)]) fp;rw[Am];let hp:Qa H p (.dK [(hX st,.bl gb)]) p=_:=aa;rw[show iD [] [((hX st:Key),V.bl gb)]=[(hX st,.bl gb)]from rfl]
  generalize Qa H p _=H1 at s1 hp
  lk;show%[#[1]|λe fe=>k2 (am λD3 k3 _=>?_)];let s2:=s1.trans (ah.Qa (o:= .lst [.str st]) fe);let hp:=ah.Qa (o:= .lst [.str st]) fe _ _ hp;let he:Qa H1 e (.lst [.str st]) e=_:=aa
  generalize Qa H1 e _=H2 at s2 hp he
  show%[RInv H r p st ns ss,%[_,e,_,[st],[st],ρ,s2,hp,he,by simp,by simp,ρ|.nil]|?_];intro m σ H6 %[e,o4,T,F,rfl,s6,a4,aq,Tn,Ts,rfl|sn];let bf:T\5<=61:=by
   let:=_ST.nodup_sub Tn Ts;rw[Zr]at this
   lia
  show eX λKt hT hF=>?_
  lk;show%[#[0]|λq fq=>%[_,ah.Qa fq _ _ aq,aa|?_]];let s7:=s6.trans (ah.Qa (o:= .lst []) fq);let B:=ah.Qa (o:= .lst []) fq _ _ a4;let ab:=ah.Qa (o:= .lst []) fq _ _ aq
  generalize Qa H6 q _=H7 at s7 B ab
  by_cases Fn:F=[]
  .subst Fn;rw[Zh ∅];show hF _ ?_;rw[hH ∅];show k3 ?_;lk;show kk _ _ _ s7 B sn.done
  rw[Zf ↑Fn];show hT _ ?_;rw[hY rfl];show%[_,λ_ _ h=>h|?_];show am λD6 k6 _=>aD λO hK=>?_
  lk;let ac:=s7 _ _ a3;show%[%[_|Qb.of ac]|hK λG hG=>jd (r:=[!e]) (q:=λt=>V.str (sn3 t.2)) (p:=λt=>decide (fs3 t.2>F)) ac hG ⋯ ?_ ?_]
  .intro j hj o H9 s9 R N hR hN;let%[q1,a,b,z,ez|_]:=Y ss[j] (Yb hj);let as:=SqT.of (K:=K) (s9 _ _ (s7 _ _ q1));lk;show%[_,as,V.str (fs3 ss[j].2),by rw[ez];rfl,_,.inl (Qb.of (s9 _ _ ab)),ρ,by simp[gC]|?_];rw[AS];show br (λh=>%[_,as,V.str (sn3 ss[j].2),by rw[ez];rfl|hR _ _ (ah.refl _) h]) λh=>hN _ _ (ah.refl _) ↑h
  intro H8 s8 g;show k6 ?_;let em:∀y,y>(ss.filter λt=>decide (fs3 t.2>F)).map (λt=>sn3 t.2)↔∃x>F,Ed (ss\2) x y:=λy=>by
   rw[Yv]
   constructor
   .rintro⟨t,ht,rfl⟩;let%[h1|h2]:=kw.mp ht;let%[_,a,b,z,e|_]:=Y t h1;show%[_,Zo h2,z|Xr %[t,h1|by rw[e];rfl]]
   .rintro⟨x,hx,z,hz⟩;let%[t,ht|e]:=Xq hz;show%[t,kw.mpr %[ht|Zf (by show e▸hx)]|by rw[e];rfl]
  let el: ~~~((ss.filter λt=>decide (fs3 t.2>F)).map λt=>sn3 t.2)<=250:=by
   rw[Z6];show lx (Yg _ _) an
  let ae:∀y>(ss.filter λt=>decide (fs3 t.2>F)).map (λt=>sn3 t.2),y>ns:=λy hy=>by
   let%[t,ht|rfl]:=Xq hy;let%[_,a,b,z,e,_|hb]:=Y t (kw.mp ht).1;rw[e];show hb
  let g:H8 G>=.lst (((ss.filter λt=>decide (fs3 t.2>F)).map λt=>sn3 t.2)\3):=by rw[Yp];show g
  generalize (ss.filter λt=>decide (fs3 t.2>F)).map (λt=>sn3 t.2)=C at em el ae g
  let a5:=s7.trans s8;let aR:=s8 _ _ B;clear ab ac hG hK k6 B;show am λD7 k7 _=>?_
  lk;show aD λO hK=>?_
  lk;show%[%[_|Qb.of g]|hK λM hM=>jd (r:=[!p]) (q:=V.str) (p:=λy=>decide (y∉T)) g hM ⋯ ?_ ?_]
  .intro j hj o H9 s9 R N hR hN;lk;show%[_,cZ.k (k:=hX C[j]) (s9 _ _ aR)|?_];rw[Ak];show br (λh=>hR _ _ (ah.refl _) ↑h) λh=>hN _ _ (ah.refl _) ↑h
  intro H9 s9 aU;let ag:∀y,y>aL (C.filter λy=>decide (y∉T))↔y>C/\y∉T:=λy=>by rw[bo,kw,xr]
  let f9: ~~~(aL (C.filter λy=>decide (y∉T)))<=60:=by
   let:=_ST.nodup_sub (cu (C.filter λy=>decide (y∉T))) (m:=ns) λx hx=>ae x ((ag x).mp hx).1
   lia
  show%[_,Qb.of aU,by let:=Yg (λy=>decide (y∉T)) C;lia|λl fl=>%[_,aa,!_|λq c fq I _=>k7 ?_]];let ai:=s9.trans ((ah.Qa (o:=jk w l (aL (C.filter λy=>decide (y∉T)))) fl).trans (ah.Qa (o:= .lst (c\3)) fq));let U:Qa (Qa H9 l (jk w l (aL (C.filter λy=>decide (y∉T))))) q (.lst (c\3)) q=_:=aa
  generalize Qa (Qa H9 l (jk w l (aL (C.filter λy=>decide (y∉T))))) q _=a6 at ai U
  let Fm:∀y,y>c↔(∃x>F,Ed (ss\2) x y)/\y∉T:=λy=>by rw[I.mem_iff,ag,em]
  let Fd:c.Nodup:=I.nodup_iff.mpr (cu _);let Fl:c\5<=60:=I.length_eq▸f9;let i:=ai _ _ aR;clear I ag f9 fq fl aU hM hK k7;show aB λbl a7 _=>?_
  lk;show%[tyD (i)|aD λO hK=>?_];lk;show%[%[_|Qb.of U]|hK λN hN=>?_];show dL (λj vs σ H'=>(∃o1,σ=[o1])/\ah a6 H'/\H' N<*vs/\∃ps:fx (hW×jz×V),vs=ps\0/\ps\2=(c.take j).map (λz=>(z,V.bl gb))/\∀q>ps,H' q.1&&&[.str q.2.1,q.2.2])
   %[%[fD|rfl],ah.Qa hN,aa,[],rfl,rfl|λq U=>(nomatch U)] (λ_ _ _ H' bb=>bb.2.1 _ _ U) ?_ ?_
  .intro j vs σ aj hj %[%[o1|rfl],J,a0,ps,hv,n|al];lk;show%[#[2]|λa fa=>?_];let s6:=ah.Qa (o:= .tup [V.str c[j],V.bl gb]) fa;let gp:Qa aj a (.tup [V.str c[j],V.bl gb]) a=_:=aa
   generalize Qa aj a _=bm at s6 gp ⊢
   let keep:=e7 (ys:=vs++[V.ref a]) (s6 _ _ a0);let pl:=nY L3 n;rw[Z6,Z6,Yj]at pl;show CK.mk hj (s6 _ _ a0) (by rw[hv,Z6];show aF !_) %[%[_|rfl],ah.set (J.trans s6) hN,aa,ps++[(a,c[j],V.bl gb)],by rw[hv,Zd];rfl,by rw[Zd,n,Xc,Z4 hj,Zd];rfl|λq U=>?_];rcases Xo U with h|h
   .show keep _ _ (s6 _ _ (al q h))
   .rw[Xp h];show keep _ _ gp
  intro vs σ a1 %[_,J,a2,ps,hv,n|al];rw[Zn (Zi _)]at n;show%[ps,hv▸Qb.of a2,al|λd fd=>?_];rw[yy (h:=λ_=>V.bl gb) Fd n];let L:=J.trans (ah.Qa (o:= .dK (c.map λz=>(hX z,V.bl gb))) fd);let gd:Qa a1 d (.dK (c.map λz=>(hX z,V.bl gb))) d=_:=aa;let u:=L _ _ i;let v:=L _ _ U;let ne:p≠d:=nq (J _ _ i) fd rfl
  generalize Qa a1 d _=aj at L gd u v
  let TF:(T++c).Nodup:=Yz.mpr %[Tn,Fd|λa ha b hb e=>((Fm b).mp hb).2 (e▸ha)];show%[_,_,ne,u,gd,by rw[Z6,Z6];show bK !_|a7 ?_];rw[show iD (T.map λz=>((hX z:Key),V.bl gb)) (c.map λz=>(hX z,V.bl gb))=_ from wo TF];let qp:q≠p:=nq v u rfl;show%[_,?_,q,_,T++c,c,ρ,?_,aa,(ar qp).trans v,TF,λx hx=>?_,ρ|sn.step Fm]
  .let:1<=F\5:=NY.mpr Fn;rw[show F.length.min 1=1 from V6 this,Z9];let:=SK c.length 1;let:=gf.min_le_left c.length 1;change 2*(70-(T\5+c\5)) +min c.length 1<_
   lia
  .show λb o hb=>(ar (aC hb fp))▸L _ _ (ai _ _ (a5 _ _ hb))
  .rcases Xo hx with h|h
   .show Ts x h
   .show Zk _ (ae x ((em x).mpr ((Fm x).mp h).1))
inductive uS
 | mk (r d m:hW) (o:NV) (ns:ZB) (f:jz->jz) (ss:ZG) (qs:ZN):vs=[.ref r,.ref d,.ref m]->H r>=.lst (ss\0)->dF H ns ss->ns\5<=60->ss\5<=250->H d>=.frz o (.dK (NmD ns f))->H m>=.lst (qs\0)->cR H ns qs->qs\5<=30->(∀z>ns,f z>ns/\cN (bj qs) z (f z))->(∀l H' (ps:fx (hW×gf×gf)),ah H H'->H' l>=.lst (ps\0)->PrN H' ps->(∀i j,(i,j)>ps\2↔Cls qs (ss\2) i j)->ps\5<=900->Q (.ref l) H')->uS vs H Q E0
abbrev Fnd(H:Hp)(l:hW)(n:gf)(R:gf->gf->Prop):Prop:=∃ps:fx (hW×gf×gf),H l>=.lst (ps\0)/\PrN H ps/\(∀i j,(i,j)>ps\2↔R i j)/\ps\5<=n
def Fnd.up{H a:Hp}{l:hW}{n n':gf}{R R':gf->gf->Prop}(h:Fnd H l n R)(s:ah H a)(g:n<=n')(e:∀i j,R i j↔R' i j):Fnd a l n' R':=by
 let%[ps,b,c,d|m]:=h;show%[ps,s _ _ b,λt f=>s _ _ (c t f),λi j=>(d i j).trans (e i j)|!_]
def HI{qs:fx _}{lk:fx _}{l:ZB}{f:jz->jz}(m:∀z>l,f z>l/\cN (bj qs) z (f z))(v:∀q>qs,mZ l q.2){i j:gf}{q o:hW×ZM}(hi:qs[i]?>=q)(n:qs[j]?>=o):Cls qs lk i j↔∃a y b z,q.2=[.str "since",.str a,.int y]/\o.2=[.str "by",.str b,.int z]/\z<y/\Up lk (f b) (f a):=by
 let c:∀{q:hW×ZM} {w a:jz} {y:md} {k:gf},qs[k]?>=q->q.2=[.str w,.str a,.int y]->a>l:=λ{q w a y k} A e=>by
  rcases v q (Z8 A)with⟨B,x,z,p,_⟩|⟨B,x,z,p,_,C,_⟩<;> rw[e]at p<;> cases p
  show C
 constructor
 .rintro⟨d,x,y,z,⟨H,a,g,h,E⟩,⟨I,b,s,u,G⟩,up,r⟩;rw[hi]at g;rw[n]at s;cases g;cases s;show%[a,y,b,z,h,u,r|?_];rw[(m a (c hi h)).2.one E,(m b (c n u)).2.one G];show up
 .rintro⟨a,y,b,z,g,h,r,up⟩;show%[_,_,y,z,%[q,a,hi,g|(m a (c hi g)).2],%[o,b,n,h|(m b (c n h)).2],up|r]
def wA{qs:fx _}{lk:fx _}{i j:gf}(h:Cls qs lk i j):i<qs\5/\j<qs\5:=by
 let%[_,_,_,_,%[_,_,a|_],%[_,_,b|_]|_]:=h;show%[(Xn a).1|(Xn b).1]
def tq:↥2 98 uS:=λT=>by
 show (T.dd 98 rfl).cal dw (λH vs Q E h=>?_)
 .let%[r,d,m,o,ns,f,ss,qs,rfl,al,ac,an,ae,hd,G,sa,aR,hf|kk]:=h;show%[ρ|λ_ as A outer s hr=>?_];show%[_,%["JDH3UBDTyAcdA2BBM4EPLtOR24CYDH5G`BA0Ah1OR24CBETyAcdA2BBM6EPjzLtOR26CY*L:OR26COR24CEP~ph1OR26C5EXon3AkA6A4BBQQQEI'~7A3B",dw.nd|hr]|?_]
  change aZ _ _ _ [!r,!d,!m,fD,fD,fD,fD] H;show am λD1 k1 _=>?_
  lk;show%[#[0]|λl fl=>k1 (am λD2 k2 _=>az λag hK=>?_)];lk;let ql:(qs\0)\5=qs\5:=Z6 _;let s1:=ah.Qa (o:= .lst []) fl;let F1:Fnd (Qa H l (.lst [])) l (30*0) (λi j=>Cls qs (ss\2) i j/\j<0):=%[[],aa,λ_ h=>(nomatch h),λi j=>%[λh=>(nomatch h)|λh=>(nomatch h.2)]|Zi _]
  generalize Qa H l _=H1 at s1 F1
  let it:=λ(x i:gf) (hx:x<qs\5) (hi:i<qs\5)=>HI (lk:=ss\2) hf (λq hq=>(sa q hq).2) (Z4 hx) (Z4 hi)
  let u:∀i (hi:i<qs\5),atI (qs\0) (i:md)>=.ref qs[i].1:=λi hi=>bP (by rw[Zl,Z4 hi];rfl)
  show%[qs\5,.inl %[_,Qb.of (s1 _ _ G)|ql.symm],!_,!_|hK ?_];rw[M7];show cm (λi L B=>(∃o4 o5 I,L=[!r,!d,!m,!l,o4,o5,I])/\ah H B/\Fnd B l (30*i) λx j=>Cls qs (ss\2) x j/\j<i) %[%[_,_,_|rfl],s1|F1] ?_ ?_
  .intro i L H2 hi %[%[o4,o5,I|rfl],v|F2];change kO _ _ _ _ [!r,!d,!m,!l,fI (.int (0+i)),o5,I] H2;rw[MC];show aB λD3 k3 _=>eX λKt hT hF=>?_
   lk;let%[ti|oi]:=sa qs[i] (Yb hi);let M:(∀b z,qs[i].2≠[.str "by",.str b,.int z])->Kt gi H2:=λc=>hF _ (by
    rw[hH ∅];show k3 %[%[_,_,_|rfl],v|F2.up (ah.refl _) ⋯ λx j=>PP λh=>%[λh=>by lia|λh'=>?_]];rcases NH.mp h' with h'|rfl
    .show h'
    .let%[_,_,b,z,_,e|_]:=(it x j (wA h).1 hi).mp h;show(c b z e).elim)
   show%[_,Qb.of (v _ _ G),_,u i hi,_,SqT.of (v _ _ ti)|?_];rcases oi with⟨N,a,b,e,hw,_⟩|⟨N,b,z,e,hw,hb,_⟩
   .rw[e];show%[.str N,ρ,ρ|?_];rw[Zh (by rcases hw with rfl|rfl<;> decide)];show M λb z c=>by rw[e]at c;cases c
   rw[e];show%[.str N,ρ,ρ|?_];rcases hw with rfl|rfl
   .rw[Zh (!1)];show M λb z c=>by rw[e]at c;cases c
   rw[Zf rfl];show hT _ ?_;rw[hY rfl];clear M;show am λD4 k4 _=>?_
   lk;let ai:∀{B:Hp} {z:jz},B d>=.frz o (.dK (NmD ns f))->z>ns->cZ B d (.str z) (fI (.str (f z))):=λ{B z} h hz=>by
    let dg:=Ad (k:=hX z) h;rw[iJ hz]at dg;show dg
   show%[_,Qb.of (v _ _ G),_,u i hi,_,SqT.of (v _ _ ti),.str b,by rw[e];rfl,_,ai (v _ _ hd) hb,r,f b,ns,ss,ρ,v _ _ al,λt ht=>%[v _ _ (ac t ht).1|(ac t ht).2],an,ae|λH3 p TT s3 hp up=>k4 (aB λD5 k5 _=>az λag hK=>?_)];let F3:=F2.up (n':=30*i+0) (R':=λx j=>Cls qs (ss\2) x j/\(j<i\/j=i/\x<0)) s3 (Zi _) λx j=>PP λ_=>by lia
   let O:=v.trans s3;let pl:p≠l:=by
    let%[ps,h|_]:=F3;show nq hp h rfl
   lk;show%[qs\5,.inl %[_,Qb.of (O _ _ G)|ql.symm],!_,!_|hK ?_];rw[M7];show cm (λk L B=>(∃I,L=[!r,!d,!m,!l,fI (.int i),!p,I])/\dj l H3 B/\Fnd B l (30*i+k) λx j=>Cls qs (ss\2) x j/\(j<i\/j=i/\x<k)) %[%[_|rfl],dj.of (ah.refl _)|F3] ?_ ?_
   .intro k L J hk %[%[I|rfl],U|F4];change kO _ _ _ _ [!r,!d,!m,!l,fI (.int i),!p,fI (.int (0+k))] J;rw[MC];let g:ah H J:=λb o h=>U _ _ (aC h fl) (O _ _ h)
    show aB λD6 k6 _=>eX λKt hT hF=>?_
    lk;let%[tk|ok]:=sa qs[k] (Yb hk);let M: ¬ Cls qs (ss\2) k i->Fnd J l (30*i+(k+1)) λx j=>Cls qs (ss\2) x j/\(j<i\/j=i/\x<k+1):=λc=>F4.up (ah.refl _) ⋯ λx j=>PP λh=>⟨λh=>by lia,λh'=>by
     rcases h' with h'|⟨rfl,h'⟩
     .show .inl h'
     .rcases NH.mp h' with h'|rfl
      .show .inr %[rfl|h']
      .show(c h).elim⟩
    let nk: ¬ Cls qs (ss\2) k i->Kt gi J:=λc=>hF _ (by
     rw[hH ∅];show k6 %[%[_|rfl],U|M c])
    let ki:=it k i hk hi;show%[_,Qb.of (g _ _ G),_,u k hk,_,SqT.of (g _ _ tk)|?_];rcases ok with⟨N,a,b',C,hw,_⟩|⟨N,a,y,C,hw,ha,_⟩
    .rw[C];show%[.str N,ρ,ρ|?_];rw[Zh (by rcases hw with rfl|rfl<;> decide)];show wL (nk λc=>?_);let%[_,_,_,_,c|_]:=ki.mp c;rw[C]at c;cases c
    rw[C];show%[.str N,ρ,ρ|?_];rcases hw with rfl|rfl
    rotate_left
    .rw[Zh (!1)];show wL (nk λc=>?_);let%[_,_,_,_,c|_]:=ki.mp c;rw[C]at c;cases c
    rw[Zf rfl];let Y:Cls qs (ss\2) k i↔z<y/\Up (ss\2) (f b) (f a):=ki.trans ⟨by
     rintro⟨_,_,_,_,c1,c2,h⟩;rw[C]at c1;rw[e]at c2;cases c1;cases c2;show h,λh=>%[_,_,_,_,C,e|h]⟩
    show Lr %[_,Qb.of (g _ _ G),_,u k hk,_,SqT.of (g _ _ tk),.int y,by rw[C];rfl,_,Qb.of (g _ _ G),_,u i hi,_,SqT.of (g _ _ ti),.int z,by rw[e];rfl|?_];change Kt (decide (z<y)) J;by_cases c:z<y
    rotate_left
    .rw[Zh c];show nk λh=>c (Y.mp h).1
    rw[Zf c];show hT _ ?_;rw[hY rfl];clear nk;show aB λD7 k7 _=>eX λKt hT hF=>?_
    lk;show%[_,Qb.of (g _ _ G),_,u k hk,_,SqT.of (g _ _ tk),.str a,by rw[C];rfl,_,ai (g _ _ hd) ha,_,cZ.k (k:=hX (f a)) (U _ _ pl hp)|?_];rw[Ak];by_cases c':f a>TT
    rotate_left
    .rw[Zh c'];show hF _ ?_;rw[hH ∅];show k7 (k6 %[%[_|rfl],U|M λh=>c' ((up _).mpr (Y.mp h).2)])
    rw[Zf c'];show hT _ ?_;rw[hY rfl];clear M;let cl:=Y.mpr %[c|(up _).mp c'];let%[ps,hl,tp,mem|pn]:=F4;lk;show%[tyL (Qb.of hl),#[2]|λt ft=>?_];let s6:=ah.Qa (o:= .tup [V.int k,V.int i]) ft;let gt:Qa J t (.tup [V.int k,V.int i]) t=_:=aa;let ab:=s6 _ _ hl
    generalize Qa J t _=H6 at s6 gt ab
    let keep:=e7 (ys:=ps\0 ++[V.ref t]) ab;show%[_,ab,by rw[Z6];show aF !_|k7 (k6 %[%[_|ρ],λb o n h=>(ar n)▸s6 _ _ (U _ _ n h),ps++[(t,k,i)],by rw[aa,Zd];rfl,λt' aq=>?_,λx j=>?_|by rw[Z9,Yi];lia])]
    .rcases Xo aq with h|h
     .show keep _ _ (s6 _ _ (tp _ h))
     .rw[Xp h];show keep _ _ gt
    .rw[Zd,Yq,mem,U8,Yx,MW]
     constructor
     .rintro(⟨h,h'⟩|⟨rfl,rfl⟩)
      .show%[h|!_]
      .show%[cl|.inr %[ρ|Ym _]]
     .rintro⟨h,h'⟩;by_cases q:j=i/\x=k
      .show .inr %[q.2|q.1]
      .show .inl %[h|!_]
   .intro L J %[%[I|rfl],U|F4];show k5 (k3 %[%[_,_,_|rfl],λb o h=>U _ _ (aC h fl) (O _ _ h)|F4.up (ah.refl _) ⋯ λx j=>PP λh=>?_]);let:=(wA h).1
    lia
  .intro L H2 %[%[o4,o5,I|rfl],v,ps,hl,tp,mem|pl];show k2 ?_;lk;show%[ps,Qb.of hl,tp,!_|λl' aU aj pm=>kk _ _ _ (v.trans (ah.Qa aj)) aa (λt ht=>ah.Qa aj _ _ (tp t (pm.mem_iff.mp ht))) (λi j=>?_) (by rw[pm.length_eq];lia)];rw[(pm.map _).mem_iff,mem];show%[λh=>h.1|λh=>%[h|(wA h).2]]
def FV(s:gf):bitsN s=s%2+bitsN (s/2):=by
 cases s with
 | zero=>rw[bitsN]
 | succ n=>show uR (Pz n)
abbrev Bo(n s:gf):fx gf:=(kj n).filter λk=>decide (s/2^k%2=1)
def Bp(s k:gf):s/2^(k+1)=s/2/2^k:=by rw[QR,X9,gf.mul_comm]
def oE:∀{n s:gf},s<2^n->(Bo n s)\5=bitsN s
 | 0,s,h=>by
   obtain rfl:s=0:=↑h
   rw[bitsN];rfl
 | n+1,s,h=>by
   let a:=oE (n:=n) (s:=s/2) (by rw[X9]at h;lia);unfold Bo at a ⊢;let e:(λk=>decide (s/2^k%2=1)) ∘ gf.succ=λk=>decide _:=funext λk=>by
    change decide _=_;rw[Bp]
   rw[fx.range_succ_eq_map,Qz,fx.filter_map,e,FV s,<-a,gf.pow_zero,gf.div_one];rcases gf.mod_two_eq_zero_or_one s with c|c<;> simp[c,Uz]
def Bq:∀n (p:gf->on),∃s,s<2^n/\∀k,k<n->(s/2^k%2=1↔p k=gb)
 | 0,_=>%[0,by simp|λk h=>lr h (X3 _)]
 | n+1,p=>by
   let%[s,a|b]:=Bq n λk=>p (k+1)
   show%[2*s+(if p 0 then 1 else 0),?_|λk d=>?_]
   .rw[X9]
    split<;> lia
   .cases k with
    | zero=>
      cases c:p 0<;> simp<;> lia
    | succ k=>
      rw[Bp,show(2*s+(if p 0 then 1 else 0))/2=s by lia]
      simp_all
abbrev jT(ys:fx gf)(s:gf):fx gf:=(Bo ys.length s).map λk=>ys.getD k 0
def Al(ys:fx gf):(kj ys.length).map (λk=>ys.getD k 0)=ys:=by
 show PH ∅ λi b a=>?_
 simp[a]
def HJ{ys:fx gf}{s:gf}:fx.Sublist (jT ys s) ys:=by
 let:=(Rw (p:=λk=>decide (s/2^k%2=1)) (l:=kj ys.length)).map (λk=>ys.getD k 0);rwa[Al]at this
abbrev Cov(ps:fx (hW×gf×gf))(C:fx gf):Prop:=∀t>ps,t.2.1>C\/t.2.2>C
def FW{ps:fx _}{ys C:fx gf}(nd:ys.Nodup)(i:∀t>ps,t.2.1>ys/\t.2.2>ys)(h:Cov ps C):∃s,s<2^ ~~~ys/\Cov ps (jT ys s)/\bitsN s<=C\5:=by
 let%[s,d|f]:=Bq ys.length _;let mem:∀x,x>jT ys s↔x>ys/\x>C:=λx=>by
  unfold jT Bo;rw[Yv]
  constructor
  .rintro⟨k,c,rfl⟩;let%[a|b]:=kw.mp c;let a:=vj.mp a;show%[by simp[a]|Zo ((f k a).mp (Zo b))]
  .rintro⟨a,b⟩;let%[k,c|rfl]:=Qi a;let e:ys.getD k 0=ys[k]:=by simp[c]
   show%[k,kw.mpr %[vj.mpr c|Zf ((f k c).mpr (Zf (e▸b)))]|e]
 show%[s,d,λt g=>?_|?_]
 .let%[a|b]:=i t g;show(h t g).imp (λh=>(mem _).mpr %[a|h]) λh=>(mem _).mpr %[b|h]
 .let:=_ST.nodup_sub (HJ.nodup nd) λx j=>((mem x).mp j).2
  unfold jT at this;rwa[Z6,oE d]at this
def wB{x:gf}:∀{L:fx gf},inV (.int x) (nums L)=decide (x>L)
 |[]=>rfl
 | y::L=>by
   change(eqV _ _||inV _ (nums L))=_;rw[wB,show eqV _ _=decide _ from rfl];by_cases c:x=y
   .subst c;simp
   .let: ¬ (y:md)=x:=by lia
    simp[c,this]
def uT{L:fx gf}:(nums L).all gC=gb:=by
 unfold nums;simp[gC]
inductive uU
 | mk (l m:hW) (ps:fx (hW×gf×gf)) (ys:fx gf):vs=[.ref l,.ref m]->H l>=.lst (ps\0)->PrN H ps->ps\5<=900->H m<*nums ys->ys\5<=10->ys.Nodup->(∀t>ps,t.2.1>ys/\t.2.2>ys)->(∀H' (v:gf),ah H H'->(∃C,Cov ps C/\C\5=v)->(∀C,Cov ps C->v<=C\5)->Q (.int v) H')->uU vs H Q E0
def yN:↥2 101 uU:=by
 .exists 101,"~foes ~years ~least_here ~some ~out",as,hr,%[l,m,ps,ys,rfl,hl,tp,pn,hm,ai,yn,hy|kk];show%[_,(QSs.h (ak (aJ 2 D0.nd rfl (cbO (bZ (K:=K) rfl) T.a0 PySem.boot_len rfl #[a9 1 rfl]))
   (ak (cC NP rfl rfl (fh rfl T.aj rfl #[(opE ⟨Dd⟩ ax (cbO (bZ (K:=K) rfl) T.a0 PySem.boot_len rfl #[a9 1 rfl]))]) (lW 3 D0.nd rfl Z1 Z0)
   (au (ifS (bh zo rfl (aG (Aj T) hr rfl #[a9 3 rfl]) ↑2)
    (ak (qS 4 D0.nd rfl Z1 Z0 rfl (cU (aA.of ↑(↑"~k ~years ~some",[(1,1),(2,3)])) rfl rfl (fh rfl T.aj rfl #[(cbO (bZ (K:=K) rfl) T.a0 PySem.boot_len rfl #[a9 1 rfl])]) (λ_ _ _=>(aH 0 ↑["_law_k","_law_years","_law_some"] rfl)) (λ_ _ _=>(fJ (bh fM rfl (opE bC (opE cD (a9 2 rfl) (opE ⟨Dd⟩ ax ↑0)) ax) ax))) (λ_ _ _=>((a9 1 rfl)*>↑0))))
     (au (ifS (bh (Ic hr) rfl (cU (aA.of ↑(↑"~pair ~out",[(1,4)])) rfl rfl (cS (K:=K) rfl ↑0) (λ_ _ _=>(aH 0 ↑["_law_pair","_law_out"] rfl)) (λ_ _ _=>(fJ (wT (lE (bh (xO (K:=K) rfl) rfl (↑0>>ax) (a9 1 rfl)) (iS (bh (xO (K:=K) rfl) rfl (↑0>>ax) (a9 1 rfl))))))) (λ_ _ _=>↑0)) (c6 ao))
     (au (aJ 2 D0.nd rfl (cbO (bZ (K:=K) rfl) T.a0 PySem.boot_len rfl #[a9 4 rfl])))
     a8)))
    a8)))
   (au (aO ↑2)))))|?_]
  change aZ _ _ _ [!l,!m,fD,fD,fD] H;show am λD1 k1 _=>?_
  lk;let yl:(nums ys)\5=ys\5:=Z6 _;show%[ys\5,.inl %[_,Qb.of hm|yl.symm]|k1 (am λD2 k2 _=>az λaq hK=>?_)];lk;let e1:(1:md)*2^((ys\5:md)).toNat=((2^ ~~~ys:gf):md):=by simp
  let aR:2^ ~~~ys<=2^10:=X8 (!1) ai;show%[ys\5,.inl %[_,Qb.of hm|yl.symm],%[!_,!_|!1]|?_];rw[e1];show%[!_,!_|hK ?_];rw[M7];show cm (λi g B=>(E2 λo3 o4=>∃v:gf,A3 (g=[!l,!m,fI (.int v),o3,o4]) (∃C,Cov ps C/\C\5=v) (∀s,s<i->Cov ps (jT ys s)->v<=bitsN s))/\ah H B) %[%[_,_,_,rfl,%[ys,λt ht=> .inl (hy t ht).1|rfl]|λs h=>lr h (X3 _)]|ah.refl _] ?_ ?_
  .intro i g H1 hi %[%[o3,o4,v,rfl,vc|L]|I];change kO _ _ _ _ [!l,!m,fI (.int v),fI (.int (0+i)),o4] H1;rw[MC];show aB λD3 k3 _=>eX λKt hT hF=>?_
   lk;show%[i,ρ|?_];change Kt (decide ((bitsN i:md)<v)) H1;let u:∀{s:gf},s<i+1->s<i\/s=i:=λh=>NH.mp h
   by_cases c:bitsN i<v
   rotate_left
   .rw[Zh !_];show hF _ ?_;rw[hH ∅];show k3 %[%[_,_,_,rfl,vc|λs h cv=>?_]|I];rcases u h with h|rfl
    .show L s h cv
    .lia
   rw[Zf !_];show hT _ ?_;rw[hY rfl];show am λD4 k4 _=>aD λaj al=>?_
   lk;show%[ys\5,.inl %[_,Qb.of (I _ _ hm)|yl.symm],!_,!_|al λG hG=>?_];rw[M7];show b8 (J:=Itr 0 ys.length) (n:=ys\5) (D:=G) (λk vs g B=>A4 (∃o,g=[o,!m,fI (.int i)]) (ah H1 B) (B G<*vs) (vs=nums (((kj k).filter λk=>decide (i/2^k%2=1)).map λk=>ys.getD k 0)))
    %[%[fD|rfl],ah.Qa hG,aa|rfl] (λi _ _ B hi _=>hi) (λ_ _ B _=>Zi _) ?_ ?_
   .intro k vs g H3 hk %[%[o|rfl],O,U|rfl] x aU %[e2|e3];rw[MC]at e3;subst e2 e3;let st:(kj (k+1)).filter (λk=>decide (i/2^k%2=1))=(kj k).filter (λk=>decide (i/2^k%2=1)) ++if i/2^k%2=1 then [k]else []:=by
     rw[Xa,Y1];by_cases c:i/2^k%2=1<;> simp[c]
    lk;let pk:2^k<=2^10:=X8 (!1) !_;let p0:=S5 k;let e2:(1:md)*2^((k:md)).toNat=((2^k:gf):md):=by simp
    let e3:(i:md)/((2^k:gf):md)%2=((i/2^k%2:gf):md):=by rw[<-md.natCast_ediv];rfl
    let len: ~~~(nums (((kj k).filter λk=>decide (i/2^k%2=1)).map λk=>ys.getD k 0))<=10:=by
     unfold nums;rw[Z6,Z6];let:=Yg (λk=>decide (i/2^k%2=1)) (kj k);rw[Yh]at this
     lia
    show%[%[!_,!_|!1]|?_];rw[e2,e3];show%[%[!_|!_],by simp|?_]
    generalize i/2^k%2=b at st
    by_cases c:b=1
    .subst c;show Lr %[_,Qb.of (O _ _ (I _ _ hm)),.int (ys.getD k 0:gf),bP (by unfold nums;rw[Zl,Z4 hk];simp[hk])|CK.mk hk U (aF (lx len ∅)) %[%[_|rfl],ah.set O hG,aa|?_]];rw[st,hY rfl,Zd];unfold nums;rw[Zd];rfl
    .rw[Zh !_];show wL (CN.mk hk %[%[_|rfl],O,U|?_]);rw[st,hH c,Zx]
   intro vs g H3 %[_,O,d|rfl];show k4 ?_;let y:=I.trans O;let Y:=y _ _ hl;let d:H3 G<*nums (jT ys i):=d;show aB λD5 k5 _=>eX λKt hT hF=>?_
   lk;show aD λag ab=>?_
   lk;show%[%[_|Qb.of Y]|ab λM hM=>jd (r:=[!G]) (q:=λt=>V.ref t.1) (p:=λt=>!decide (t.2.1>jT ys i)&&!decide (t.2.2>jT ys i)) Y hM ⋯ ?_ ?_]
   .intro j hj o H9 s9 R N hR hN;let ac:=SqT.of (K:=K) (s9 _ _ ((λt ht=>y _ _ (tp t ht)) ps[j] (Yb hj)));let ae:=Qb.of (K:=K) (s9 _ _ d);lk;show%[_,ac,.int (ps[j].2.1:gf),ρ,_,.inl ae,ρ,uT|?_];rw[wB];show br (λh=>%[_,ac,.int (ps[j].2.2:gf),rfl,_,.inl ae,rfl,uT|?_]) λh=>hN _ _ (ah.refl _) ?_
    .rw[wB];show br (λh'=>hR _ _ (ah.refl _) ?_) λh'=>hN _ _ (ah.refl _) ?_
     .rw[h,h'];rfl
     .rw[Sj h',Nx]
    .rw[Sj h,Ob]
   intro H9 s9 an;show%[Xg _|λq fq=>%[_,ah.Qa fq _ _ an,aa|?_]];let z:=y.trans (s9.trans (ah.Qa (o:= .lst []) fq));let e:=ah.Qa (o:= .lst []) fq _ _ (s9 _ _ d)
   generalize Qa H9 q _=a0 at z e
   let cv:(ps.filter λt=>!decide (t.2.1>jT ys i)&&!decide (t.2.2>jT ys i))\0=[]↔Cov ps (jT ys i):=by
    rw[UU,OF];show forall_congr' λt=>imp_congr_right λht=>?_
    by_cases a:t.2.1>jT ys i<;> by_cases b:t.2.2>jT ys i<;> simp[a,b]
   by_cases c':Cov ps (jT ys i)
   .rw[Zf (cv.mpr c')];show hT _ ?_;rw[hY rfl];lk;let ol:(jT ys i)\5=bitsN i:=by
     unfold jT;rw[Z6,oE hi]
    show%[(jT ys i)\5,.inl %[_,Qb.of e|(Z6 _).symm]|k5 (k3 %[%[_,_,_,ρ,%[_,c'|ρ]|λs h cs=>?_]|z])];rw[ol];rcases u h with h|rfl
    .let:=L s h cs
     lia
    .show Zi _
   .rw[Zh λh=>c' (cv.mp h)];show hF _ ?_;rw[hH ∅];show k5 (k3 %[%[_,_,_,rfl,vc|λs h cs=>?_]|z]);rcases u h with h|rfl
    .show L s h cs
    .show(c' cs).elim
  .intro g H1 %[%[o3,o4,v,rfl,vc|L]|I];show k2 ?_;lk;show kk _ v I vc λC hC=>?_
   let%[s,h1,h2|h3]:=FW yn hy hC;show lx (L s h1 h2) h3
def wC{b:jz}:∀{us:fx _} {a:jz},Wal us a b->∀i,i<us\5->∃p q z,us[i]?>=[p,q,z]/\(i=0->p=a)/\(∀k,us[i+1]?>=k->k[0]?>=q)/\(i+1=us\5->q=b)
 |[],_,_,_,h=>lr h (X3 _)
 | k::r,a,⟨c,z,e,w⟩,0,_=>by
   show%[a,c,z,by rw[e];rfl,λ_=>rfl,λm h'=>?_|λh'=>?_]
   .match r,w,h' with
    | k2::n,⟨c2,o,d,_⟩,h'=>
      rw[<-Za (h'),d];rfl
   .match r,w,h' with
    |[],w,_=>show w
    | _::_,_,h'=>show lr h' ∅
 | k::r,a,⟨c,z,e,w⟩,i+1,h=>by
   let%[p,q,f,g,_,j|l]:=wC w i ↑h;show%[p,q,f,g,λh=>lr h !_,j|λh=>l ↑h]
def CU{ws:ZG}{x:jz}(w:Wal (ws\2) x x){k:gf}(g:k<ws\5):∃t>ws,∃p q z b d,ws[k].2=[p,q,z]/\t.2=[b,p,d]/\atI (ws\0) ((k:md) -1)>=.ref t.1:=by
 let u:(ws\2)\5=ws\5:=Z6 _;let a:∀(i:gf) (h:i<ws\5) l,(ws\2)[i]?>=l->ws[i].2=l:=λi h l e=>by
  rw[Zl,Z4 h]at e;show Za e
 let%[p,q,z,j,n,_|_]:=wC w k !_;let m:=a k g _ j;cases k with
 | zero=>
   let%[b,o,d,g1,_,_|r]:=wC w (ws\5-1) !_;let f:=a (ws\5-1) ⋯ _ g1;rw[r !_,<-n rfl]at f;show%[_,Yb (show ~~~ws-1<ws\5 by lia),p,q,z,b,d,m,f|?_];obtain⟨ys,y,rfl⟩:∃ys y,ws=ys++[y]:=%[ws.dropLast,ws.getLast (by intro c;rw[c]at g;show lr g (X3 _))|(Pg _).symm]
   rw[Zd,show((0:gf):md) -1= -1 from rfl,U8,qf];simp
 | succ k=>
   let%[b,o,d,g1,_,g3|_]:=wC w k !_;let f:=a k ⋯ _ g1;let s:=g3 _ j;rw[<-Za s]at f;show%[_,Yb !_,p,q,z,b,d,m,f|?_];rw[show((k+1:gf):md) -1=k by lia];show bP (by rw[Zl,Z4 !_];rfl)
inductive yO
 | mk (l m:hW) (ns:ZB) (ws ss:ZG) (x:jz):vs=[.ref l,.ref m]->H l>=.lst (ws\0)->aP H ws->ws\5<=300->H m>=.lst (ss\0)->dF H ns ss->Sho (ss\2) x x (ws\2)->(∀H',ah H H'->Q (.bl gb) H')->yO vs H Q E0
def oF:↥1 102 yO:=by
 .exists 102,"~found ~tied ~k",ab,J,%[l,m,ns,ws,ss,x,rfl,a,L,M,r,u,b|kk];let wl:(ws\0)\5=ws\5:=Z6 _;show%[_,%["JDPj%wm./A0A?1B(L`C0UBEIqQDTyAcdA0BBM2EPj%L`DR021(L,OR02COR0F|2CCEIqQEIq",D0.nd,(blE (v:= .ty "list") rfl T.a6 Q6 rfl rfl rfl)|J]|?_]
  change aZ _ _ _ [!l,!m,fD] H;show am λD1 k1 _=>?_
  lk;show%[.type "list",.lst a,gb,by rfl|wL %[Xg _|λq N=>%[_,ah.Qa N _ _ a,aa|?_]]];let d:=ah.Qa (o:= .lst []) N
  generalize Qa H q _=H1 at d
  let a:=d _ _ a;let r:=d _ _ r;rw[Zh λc=>by
   let%[n,e|_]:=b.dst;rw[Z6,UU.mp c]at e;cases e]
  show wL (k1 (am λD2 k2 _=>az λO hK=>?_));lk;show%[ws\5,.inl %[_,Qb.of a|wl.symm],!_,!_|hK ?_];rw[M7];show cm (λi y B=>(∃C,y=[!l,!m,C])/\B=H1) %[%[_|rfl]|rfl] ?_ ?_
  .intro i y B hi %[%[C|rfl]|rfl];rw[MC];show aB λD3 k3 _=>?_
   lk;let%[t',G,p,q,z,p',z',e1,e2|ea]:=CU b.wal hi;let g:=Yb hi;let U:atI (ws\0) (i:md)>=.ref ws[i].1:=bP (by rw[Zl,Z4 hi];rfl);let I:=d _ _ (L _ g).2;let Y:=d _ _ (L _ G).2;let j:=b.sub _ (Xr %[_,g|rfl]);rw[e1]at I j;rw[e2]at Y;show%[_,Qb.of a,_,U,_,I,ss,r,λt ht=>d _ _ (u t ht).1,j,_,Qb.of a,_,U,_,SqT.of I,_,ρ,_,Qb.of a,_,ea,_,SqT.of Y,_,ρ|?_];show%[ρ|by rw[hH ∅];show k3 %[%[_|ρ]|ρ]]
  .intro y B %[%[C|rfl]|rfl];show k2 ?_;lk;show kk _ d
inductive yP
 | mk (a m d:hW) (o:NV) (L nms:ZB) (f:jz->jz) (ss:ZG):vs=[.ref a,.ref m,.ref d]->H a<*L\3->L\5<64->H m>=.lst (ss\0)->aP H ss->H d>=.frz o (.dK (NmD nms f))->nms\5<=60->L.Nodup->(∀x,x>L↔x>nms.map f)->(∀t>ss,∃x y z,t.2=[x,y,z]/\x>L/\y>L)->(∀(i:gf) x,L[i]?>=x->∀y,Ed (ss\2) x y->y>L.take i)->(∀H',ah H H'->Q (.bl gb) H')->yP vs H Q E0
def yQ:↥1 103 yP:=λT=>by
 show (T.dd 103 rfl).cal fV (λH vs Q E h=>?_)
 .let%[a,m,d,o,L,c,f,ss,rfl,ha,Ll,hm,tu,hd,ae,nd,mem,t3,ag|kk]:=h;show%[ρ|λ_ al A outer s hr=>?_];show%[_,%["JDPj%wm./A0A?1B(L`E'~=A0B'~YA[~KAiZ?2~bK2W0?3phK10BBEIqQDTV1fNM3NM4NM5gEPL`F~8~90A4B~8~90A3BEIqQEIq",fV.nd,(blE (v:= .ty "list") rfl T.a6 Q6 rfl rfl rfl),↑(↑"~layer ~called_here",[(1,2)]),↑["_law_layer","_law_called_here"]|hr]|?_]
  change aZ _ _ _ [!a,!m,!d,fD,fD,fD] H;show am λD1 k1 r1=>?_
  lk;show%[.type "list",.lst ha,gb,by rfl|wL %[L,Qb.of ha,Ll|λq M fq pm so=>?_]];let s1:=ah.Qa (o:= .lst (M\3)) fq;let hq:Qa H q (.lst (M\3)) q=_:=aa
  generalize Qa H q _=H1 at s1 hq
  show aD λY hK=>?_
  unfold uk;lk;let g:=s1 _ _ hd;show%[_,_,g|hK λF hF=>?_];let ql:(NmD c f)\5=c\5:=Z6 _;show b8 (J:=Itk d o (NmD c f)) (n:=c\5) (D:=F) (λj vs G B=>A4 (∃U,G=[U,!d]) (ah H1 B) (B F<*vs) (vs=((c.take j).map f)\3))
   %[%[fD|rfl],ah.Qa hF,aa|rfl] (λj _ _ B C I=>%[I.2 _ _ g|by rw[ql];show C]) (λ_ _ B I=>%[I.2 _ _ g|by rw[ql];show Zi _]) ?_ ?_
  .intro j vs G B C %[%[U|rfl],l,ai|rfl] x H5 %[e2,kx,vx,hx|rfl];subst e2;unfold NmD at hx;rw[Zl,Z4 C]at hx;obtain rfl:hX c[j]=kx:=nY (·.1) (Za hx);lk;let dg:=Ad (k:=hX c[j]) (l _ _ g);rw[iJ (Yb C)]at dg;show%[_,dg|CK.mk C ai (by rw[Z6,Z6,Yj];show aF !_) %[%[_|ρ],ah.set l hF,aa|?_]];rw[Xc,Z4 C,Zd,Zd];rfl
  intro vs G B %[_,l,ab|rfl];rw[Zn (Zi _)]at ab;let fl:(c.map f)\5<=60:=by rw[Z6];show ae
  let an: ~~~(aL (c.map f))<=60:=lx (_ST.nodup_sub (cu _) λx hx=>bo.mp hx) fl;show%[c.map f,Qb.of ab,!_|λp fp=>%[_,aa,!_|λn N fn pN sN=>?_]];let s5:=(l.trans (ah.Qa (o:=jk w p (aL (c.map f))) fp)).trans (ah.Qa (o:= .lst (N\3)) fn);let hN:Qa (Qa B p (jk w p (aL (c.map f)))) n (.lst (N\3)) n=_:=aa
  generalize Qa (Qa B p (jk w p (aL (c.map f)))) n _=H5 at s5 hN
  obtain rfl:M=N:=rc aV (λ_ _ a b=>dZ a b) so (sN !_) (pm.nodup_iff.mpr nd) (pN.nodup_iff.mpr (cu _)) λx=>by rw[pm.mem_iff,pN.mem_iff,bo,mem]
  show%[M,s5 _ _ hq,hN|k1 (am λD2 k2 r2=>az λY hK=>?_)];let r:=s1.trans s5;let ac:=r _ _ hm;let u:=r _ _ ha;lk;show%[%[_|Qb.of ac]|hK (cL (us:=ss) (f:=λt=>V.ref t.1) (λi G H'=>(E3 λU o2 o3=>G=[!a,!m,!d,U,o2,o3])/\H'=H5) %[%[fD,fD,fD|ρ]|ρ] (λ_ _ H' h=>h.2▸ac) ?_ ?_)]
  .intro i t G H' ht %[%[U,o2,o3|rfl]|rfl];let O:=Z8 ht;let%[x,y,z,e,xL|yL]:=t3 t O;let tt:=r _ _ (tu t O).2;rw[e]at tt;show%[_,SqT.of tt,ρ,_,_,ρ,_,_,ρ,_,_,ρ,ρ|?_];show aB λD3 k3 r3=>?_
   lk;show%[tyL (Qb.of u),L,u,yL|λj C=>%[tyL (Qb.of u),L,u,xL|λj' aj=>?_]];let%[k|hk]:=Xh (ag j' x aj y %[z|Xr %[t,O|e]]);let kl:k<j':=by
    let:=(Xn hk).1;rw[Yj]at this
    lia
   rw[Y9 kl]at hk;let:=iL nd C hk;rw[Zh !_];show wL (k3 %[%[_,_,_|rfl]|rfl])
  .intro G H' %[%[U,o2,o3|rfl]|rfl];show k2 ?_;lk;show kk _ r
def yR:∀(c:ZH),(∀p>c,z0 p.2.2)->∃ks:fx ZB,ks\5<=26* ~~~c/\∀k,k>ks↔k>bG c
 |[],_=>%[[],by simp|λk=>QV]
 | p::c,h=>by
   let%[ks,l|e]:=yR c λq g=>h q (Zk _ g)
   let%[m,n|i]:=h p Zm;show%[(m.filter λk=>decide (k>bB p.2.2 (p.2.2\5-1))).map (iA p.2.1) ++ks,?_|λk=>?_]
   .let:=Yg (λk=>decide (k>bB p.2.2 (p.2.2\5-1))) m;rw[Z9,Z6,Zr]
    lia
   .rw[Yq,e k,show bG (p::c)=(bB p.2.2 (p.2.2\5-1)).map (iA p.2.1) ++bG c from rfl,Yq];show SV %[λq=>?_|λq=>?_] QV<;> have%[f,d|rfl]:=Xq q
    .show Xr %[f,Zo (kw.mp d).2|rfl]
    .show Xr %[f,kw.mpr %[?_|Zf d]|rfl];let%[a,b,rfl|j]:=og d;show i a b j
def HK{H:Hp}{g:ZH}{qs:ZN}{f:ZB}(p:jF H g qs)(n:cR H f qs)(d:∀p>g,∀a,Let p.2.2 a->lnS p.2.1 (sgn a)>f):
 ∃ks:fx ZB,ks\5<=250/\(∀k>ks,eD f k)/\∀k,k>ks↔k>bG g\/k>dD qs qs.length:=by
 let%[ks,l|e]:=yR g p.few;show%[ks++dD qs qs.length,?_,λk o=>?_|λk=>by rw[Yq,e]]
 .let:=On (λj=>qs[j]?.bind λq=>kq j q.2) (kj qs.length);rw[Yh]at this;let:=p.p3;let:=p.q20;rw[Z9];unfold dD
  lia
 .rcases Xo o with h|h
  .let%[c,i|h]:=Nc.mp ((e k).mp h);let%[B,m|rfl]:=Xq h;let%[a,b,rfl|r]:=og m;let%[s|u]:=oh (p.ca c i).2.2 r;show%[_,_,_,ρ,d c i a s|d c i b u]
  .let%[j,_|h]:=MN.mp h;let%[q,v|h]:=ij.bind_eq_some_iff.mp h;rcases(n q (Z8 v)).2 with⟨w,a,b,e,_,z,A,_⟩|⟨w,a,y,e,_⟩<;> rw[e]at h
   .change (if w=nI "later" then fI [a,b,v7 j]else fD)>=k at h
    split at h
    .show%[a,b,_,(Za h).symm,z|A]
    .lia
   .cases h
abbrev wdS(q:hW×ZM):jz:=match q.2 with
 | .str w::_=>w
 | _=>y2
abbrev dE(q:hW×ZM):on:=inV (.str (wdS q)) [V.str "later",V.str "same"]
def Br{q:hW×ZM}{w:jz}{r:ZM}(e:q.2= .str w::r):wdS q=w:=by
 unfold wdS;rw[e]
def Mv{ls:ZB}{q:hW×ZM}(h:mZ ls q.2):inV (.str (wdS q)) [V.str "since",V.str "by"]=!dE q:=by
 unfold dE;rcases h with⟨w,a,b,e,hw,_⟩|⟨w,a,y,e,hw,_⟩<;> rw[Br e]<;> rcases hw with rfl|rfl<;> decide +kernel
def HL{q:hW×ZM}(h:dE q=gb):wdS q≠"since"/\wdS q≠"by":=by
 unfold dE at h
 constructor<;> intro c<;> rw[c]at h<;> show lr h (!0)
def jF.sub{H:Hp}{b:ZH}{qs a:ZN}(h:jF H b qs)(s:∀q>a,q>qs)(l:a\5<=30):jF H b a:=%[h.ca,h.nd,h.p1,h.p3,h.few,h.ly,λls p q c=>h.sa ls p q (s q c)|l]
def Mw(xs:ZM)(n:gf):u4 xs fD (fI (n:md))=xs.take n:=by
 unfold u4;rw[_HT.sIx_nat,show _HT.sIx xs.length 0 fD=0 from rfl,Tq,Uy];show(fx.take_eq_take_min ..).symm
def FX{qs:ZN}{lk mk:fx ZB}(e:Rch lk=Rch mk):Cls qs lk=Cls qs mk:=by
 unfold Cls Up;rw[e]
def K3{f:hW}{fd:Pd}(F:Fun K "law" "law" mU f fd)(T:Txt K mg):d8 P w K mg base CX0 12 f fd ↑"~script" (sd K):=by
 show F.ok fF (by intro a b c d h;let%[_,_,rfl|_]:=h;rfl) (λdn A outer s H vs Q E J h=>?_)
 .let%[a,ns,rfl,hs,ho,hn|kk]:=h;show%[_,%["JD~OG`GAG`HA0ACBBfNM1NM2NM3gDH4~TiZ?1V2W0?2!L~IO0CkAYAYB0~l}CDH2F~>iZ?1V2W0?2!L~IO0CkAYAYB04DH5G`IA1A2A3BDH6G`JA2A3BDH7`K`LA1A2BDH8G`MA7BDPL~Q8_EI$G`NA8A5B$G]AA7ACB&G]AA7ACBQDPwmG`OAG`PA7BA5A6BEIqQDH9G`QA5A6A2BDH:=`RA`S`TAF|cdA2BcdA4BAcdA2BBBEIsvcdAOG`UA7BCBG`VA9A~A:B",fF.nd,↑(↑"~saying_here",[]),↑["_law_saying_here"]|J]|?_]
  change aZ _ _ _ [!a,fD,fD,fD,fD,fD,fD,fD,fD,fD,fD] H;show am λD0 k0 _=>?_
  lk;show%[a,ns,86,ρ,hs,!_,!1,!1|λl0 H0 xs s0 f0 h0 hx hb=>%[l0,xs,ρ,Qb.of h0,λH' sm=>Qb.of (sm _ _ h0),hx,hb|λt l1 l2 l3 H1 ds qs s1 ft f1 f2 f3 ce co cp G h1 h2 h3 d1 d3 U aq bc l hq ct=>%[_,SqT.of G,ρ,_,_,ρ,_,_,ρ,_,_,ρ,ρ|k0 (am λD2 k2 _=>?_)]]];let nm:((dcs ds).map λp=>p.2.1).Nodup:=by
   unfold dcs;rw[Yp];show aq
  let dl:(dcs ds)\5=ds\5:=by unfold dcs;rw[Z6]
  let sub:∀ls:ZB,ls.Perm ((dcs ds).flatMap lyr)->∀x,x>ls↔x>(ds.flatMap λp=>(iI p.2)\1):=λls pl x=>by rw[Af pl,uP U]
  let bd:∀p>dcs ds,z0 p.2.2:=λp hp=>by
   unfold dcs at hp;let%[d,hd|rfl]:=Xq hp;show Fi (U d hd).2.2.2.2.2
  let bf: ~~~((dcs ds).flatMap lyr)<=32:=by
   let:=_ST.nodup_sub (nB nm (.refl _)) λx hx=>(sub _ (.refl _) x).mp hx
   lia
  let P1:jF H1 (dcs ds) qs:=%[bc,nm,!_,!_,bd,!_,λls p q bl=>%[(l q bl).1|(l q bl).2.mono λx=>(sub ls p x).mpr]|!_]
  let I:∀p>dcs ds,∀a,Let p.2.2 a->lnS p.2.1 (sgn a)>(ds.flatMap λp=>(iI p.2)\1):=λp hp a ha=>(uP U).mpr %[p,hp,a,ha|nA _ _]
  let nn:=yC U aq
  generalize (ds.flatMap λp=>(iI p.2)\1)=B at h3 l sub I nn ct
  generalize dcs ds=cs at h1 P1 sub I bf
  clear bc bd U aq dl nm d1 d3 ho s0 f0 hs;let cx:=P1.q20;let one:∀{q:hW×ZM} {H':Hp},q>qs->ah H1 H'->∃w r,SqT K H' q.1 (.str w::r)/\wdS q=w/\mZ B q.2:=λ{q H'} hq sm=>by
   let%[h|ok]:=l q hq;let st:=SqT.of (K:=K) (sm _ _ h);rcases ok with⟨w,a,b,e,hh⟩|⟨w,a,y,e,hh⟩
   .show%[w,[.str a,.str b],by rw[<-e];show st,Br e|.inl %[w,a,b,e|hh]]
   .show%[w,[.str a,.int y],by rw[<-e];show st,Br e|.inr %[w,a,y,e|hh]]
  lk;show aD λbm hK=>?_
  lk;show%[%[_|Qb.of h2]|hK λF hF=>?_];show jd (r:=[]) (q:=λq=>V.ref q.1) (p:=λq=>!dE q) h2 hF ⋯ (λi hi o H' sm R N r n=>?_) λH2 s2 bn=>?_
  .let%[w,r',st,e|ok]:=one (Yb hi) sm;lk;show%[_,st,_,bP (j:=0) rfl,#[2]|λp hp=>%[_,.inr (SqT.of aa),ρ,ρ|?_]];rw[<-e,Mv ok];show br (λc=>r _ _ (ah.Qa hp) c) λc=>n _ _ (ah.Qa hp) ↑c
  show%[_,Qb.of bn|λy fy=>k2 (am λD3 k3 _=>?_)];rw[show(fI (10:md))>=((10:gf):md)from rfl,Mw,<-VX];let s3:=s2.trans (ah.Qa (o:= .lst (((qs.filter λq=>!dE q).take 10)\0)) fy);let hy:Qa H2 y (.lst (((qs.filter λq=>!dE q).take 10)\0)) y=_:=aa
  generalize Qa H2 y _=H3 at s3 hy
  let pm:qs.Perm (qs.filter dE++qs.filter λq=>!dE q):=(fx.filter_append_perm dE qs).symm;let len:=pm.length_eq;rw[Z9]at len;let hT:∀t>qs.filter dE,dE t=gb:=λt h=>(kw.mp h).2
  let mT:∀t>qs.filter dE,t>qs:=λt h=>(kw.mp h).1
  let mY:∀t>(qs.filter λq=>!dE q).take 10,t>qs:=λt h=>(kw.mp (Yw h)).1
  let lY: ~~~((qs.filter λq=>!dE q).take 10)<=10/\ ~~~((qs.filter λq=>!dE q).take 10)<=(qs.filter λq=>!dE q)\5:=by rw[Yj];lia
  generalize (qs.filter λq=>!dE q).take 10=Y at hy mY lY
  clear bn hF hK fy;lk;show aD λbm hK=>?_
  lk;let aR:=s3 _ _ h2;show%[%[_|Qb.of aR]|hK λF hF=>?_];show jd (r:=[]) (q:=λq=>V.ref q.1) (p:=dE) aR hF ⋯ (λi hi o H' sm R N r n=>?_) λH4 s4 bp=>?_
  .let%[w,r',st,e|ok]:=one (Yb hi) (s3.trans sm);lk;show%[_,st,_,bP (j:=0) rfl,#[2]|λp hp=>%[_,.inr (SqT.of aa),ρ,ρ|e▸br (λc=>r _ _ (ah.Qa hp) c) λc=>n _ _ (ah.Qa hp) (Sj c)]]
  let fl:(qs.filter dE)\5<=30:=by lia
  show%[_,bp,_,s4 _ _ hy,by rw[Z6,Z6];show bK !_|λm fm=>k3 (am λD4 k4 _=>?_)];rw[<-Zd];let s5:=s3.trans (s4.trans (ah.Qa (o:= .lst ((qs.filter dE++Y)\0)) fm));let hy:=ah.Qa (o:= .lst ((qs.filter dE++Y)\0)) fm _ _ (s4 _ _ hy);let hm:Qa H4 m (.lst ((qs.filter dE++Y)\0)) m=_:=aa
  generalize Qa H4 m _=H5 at s5 hy hm
  let mR:∀t>qs.filter dE++Y,t>qs:=λt h=>(Xo h).elim (mT t) (mY t)
  let rl:(qs.filter dE++Y)\5=(qs.filter dE)\5+Y\5:=Z9;let P5:=(P1.sub mR !_).up s5;let l:cR H5 B (qs.filter dE++Y):=λq hq=>%[s5 _ _ (l q (mR q hq)).1|(l q (mR q hq)).2]
  let O:∀(i:gf) (q:hW×ZM) (w:jz) (r:ZM),(qs.filter dE++Y)[i]?>=q->q.2= .str w::r->w="since"\/w="by"->(qs.filter dE)\5<=i:=λi q w r hi e hw=>by
   show O4 λc=>?_
   rw[Y7 c]at hi;let:=HL (hT q (Z8 hi));rw[Br e]at this;show hw.elim this.1 this.2
  let yl:Y\5<=10:=lY.1;let cy:(qs.filter dE++Y)\5<=30:=by lia
  generalize qs.filter dE++Y=rs at hm P5 l O rl cy
  generalize (qs.filter dE).length=n0 at rl O
  let h1:=s5 _ _ h1;let h3:=s5 _ _ h3;clear bp hF hK fm mR mT mY hT pm len s2 s3 s4 h2 aR one P1 lY fl h0 hx hb f1 f2 f3 ce co cp ft G hq cx;let%[cM,bt,bU|aU]:=HK P5 l I;lk;show%[l1,m,l3,cs,rs,B,cM,ρ,h1,hm,h3,P5.ca,l,nn,!_,!_,I,bt,bU,aU|λr H6 ss s6 _ b0 tu lk sl=>k4 (am λD5 k5 _=>?_)];lk;show%[m,l3,B,rs,ρ,s6 _ _ hm,s6 _ _ h3,l.up s6,nn,!_|λd H7 f oo s7 dp b5 hf=>k5 (am λD6 k6 _=>?_)];let ab:=s6.trans s7;lk;show λg dx fg b6 c0=>HE fg b6 (ab _ _ h1) (ab _ _ hm) (P5.up ab) λH8 ls ts s8 gr pl tm=>k6 (am λD7 k7 _=>?_)
  let ag:=ab.trans s8;let a0:=s7.trans s8;let a3:=a0 _ _ b0;let hd:=s8 _ _ b5;let hm:=ag _ _ hm;let hy:=ag _ _ hy;let tu:aP H8 ss:=λt G=>%[(tu t G).1|a0 _ _ (tu t G).2]
  let lk:bx (bj rs) (ts\2) (ss\2):=%[lk.nd|λk=>by simp only[tm,<-aU];show lk.mem k]
  let sub:=sub ls pl;let c1:∀k>ss\2,eD B k:=λk hk=>(gr.ties lk k hk).mono λx=>(sub x).mp
  let la:=nv tu c1;let l:=l.up ag;clear tm bt bU aU h1 h3 P5 I bf s6 s7 s8 ab ag a0 b0 fg b6 c0 b5;lk;show%[g,rs,ls,ts,ρ,gr|λH9 mk s9 ac=>%[λnr=>?_|λr9 ws x fr c2 tw ae b7 mw=>?_]]
  rotate_left
  .show k7 (am λD8 k8 r8=>?_);let al:∃x,Rch mk x x:=by
    let%[n,_|d]:=ae.dst;show%[x|d.rch]
   lk;rw[hY ∅];show%[r9,r,B,ws,ss,x,ρ,c2,tw,b7,s9 _ _ a3,la.up s9,%[λk hk=>(lk.mm ac k).mpr (ae.sub k hk),ae.wal,ae.pos|λn d=>ae.min n ((nu (lk.mm ac))▸d)]|λc3 ai=>?_];let b9:=gr.up (s9.trans ai);show%[g,0,rs,ls,ts,mk,ρ,b9,ac,al|λc4 aj=>%[g,1,rs,ls,ts,mk,ρ,b9.up aj,ac,al|λa5 a6=>r8 _ _ (kk _)]]
  show k7 (am λD8 k8 r8=>?_);lk;let c5:=fC (lk.mm ac);let ca:∀x,¬ Rch (ss\2) x x:=c5▸nr;let all:∀a7,bx (bj rs) (ts\2) a7->∀x,¬ Rch a7 x x:=λa7 h=>(fC (h.mm lk))▸ca
  rw[hH ∅];show k8 (am λD9 k9 r9=>?_);let gr:=gr.up s9;lk;show%[g,rs,ls,ts,_,ρ,gr,lk,ca|λt c3 dr L ai ft an hn ok=>?_];let ms:∀x,x>B.map f↔x>ls/\cN (bj rs) x x:=λx=>by
   rw[Yv]
   constructor
   .rintro⟨z,hz,rfl⟩;let%[a|b]:=hf z hz;show%[(sub _).mpr a|jD b b.1]
   .rintro⟨a,b⟩;let a:=(sub x).mp a;show%[x,a|(hf x a).2.one b]
  let Le:∀x,x>L↔x>B.map f:=λx=>by rw[ok.mem,hn.mem,ms]
  let Ll:L\5<=32:=by
   let:=_ST.nodup_sub ok.nd λx hx=>(Le x).mp hx
   rw[Z6]at this
   lia
  let sA:=s9.trans ai;show%[t,r,d,oo,L,B,f,ss,ρ,an,!_,sA _ _ a3,λt G=>%[(tu t G).1|sA _ _ (tu t G).2],sA _ _ hd,!_,ok.nd,Le,λt G=>?_,ok.ord|λc4 aj=>?_]
  .let%[x,y,z,e,hx|hy]:=gr.ends lk (Xr %[t,G|rfl]);show%[x,y,z,e,(Le x).mpr ((ms x).mpr hx)|(Le y).mpr ((ms y).mpr hy)]
  let sB:=sA.trans aj;let gr:=gr.up (ai.trans aj);show(k9 (am λdt c7 _=>?_));clear ms Le Ll ok hn an ft;lk;show%[r,d,m,oo,B,f,ss,rs,ρ,sB _ _ a3,la.up sB,!_,sl,sB _ _ hd,sB _ _ hm,l.up sB,!_,hf|λc a5 ps a6 hc tp mem pl=>c7 (am λdy da _=>?_)];let sC:=sB.trans a6;lk;show%[rs\5,.inl %[_,Qb.of (sC _ _ hm)|(Z6 _).symm],Y\5,.inl %[_,Qb.of (sC _ _ hy)|(Z6 _).symm],rs\5,.inl %[_,Qb.of (sC _ _ hm)|(Z6 _).symm]|λp fp=>%[_,_,aa,!_,!_,!_,!_,!_|λu fu=>da ?_]];rw[show(kj ((rs\5:md) -((rs\5:md) -Y.length)).toNat).map (λk:gf=>V.int ((rs\5:md) -Y.length+k))=nums ((kj Y.length).map (n0+·)) by
   unfold nums;rw[Yp,show((rs\5:md) -((rs\5:md) -Y.length)).toNat=Y\5 by lia];show Yn λk _=>nY V.int ?_
   change _=((n0+k:gf):md)
   lia]
  let sD:=a6.trans ((ah.Qa (o:= .rng ((rs\5:md) -Y.length) rs.length) fp).trans (ah.Qa (o:= .lst (nums ((kj Y.length).map (n0+·)))) fu));let hc:=((ah.Qa (o:= .rng ((rs\5:md) -Y.length) rs.length) fp).trans (ah.Qa (o:= .lst (nums ((kj Y.length).map (n0+·)))) fu)) _ _ hc;let tp:PrN _ ps:=λt G=>((ah.Qa (o:= .rng ((rs\5:md) -Y.length) rs.length) fp).trans (ah.Qa (o:= .lst (nums ((kj Y.length).map (n0+·)))) fu)) _ _ (tp t G)
  let hu:Qa (Qa a5 p (.rng ((rs\5:md) -Y.length) rs.length)) u (.lst (nums ((kj Y.length).map (n0+·)))) u=_:=aa
  generalize Qa (Qa a5 p (.rng ((rs\5:md) -Y.length) rs.length)) u _=dK at sD hc tp hu
  lk;show%[g,rs,ls,ts,ρ,gr.up sD,all,!_|λt4 a4 b4 dT as L' bs mm ch dV dd bb de dg pa d0 d2 pb M ec cv=>?_];rw[FX (fC (dd.mm lk))]at M cv;show%[_,SqT.of de,_,ρ,as\5,.inl %[_,Qb.of dg|(Z6 _).symm],c,u,ps,(kj Y.length).map (n0+·),ρ,bb _ _ hc,λt G=>bb _ _ (tp t G),pl,bb _ _ hu,by rw[Z6,Yh];show yl,?_,λt G=>?_|λdk v d4 vc vm=>?_]
  .rw[X1,X7];show(X1.mp PF).imp λh e=>h !_
  .let cl:=(mem t.2.1 t.2.2).mp (Xr %[t,G|rfl]);let:=wA cl;let%[_,_,_,_,%[_,_,e1,e2|_],%[_,_,e3,e4|_]|_]:=cl;let a1:=O _ _ _ _ e1 e2 (.inl rfl);let a2:=O _ _ _ _ e3 e4 (.inr rfl);show%[Xr %[t.2.1-n0,vj.mpr !_|!_]|Xr %[t.2.2-n0,vj.mpr !_|!_]]
  let cd:∀C,Cov ps C↔∀i j,Cls rs (ss\2) i j->i>C\/j>C:=λC=>by
   constructor
   .intro h i j e;let%[t,G|e]:=Xq ((mem i j).mpr e);let:=h t G;rw[e]at this;show this
   .show λh t G=>h _ _ ((mem t.2.1 t.2.2).mp (Xr %[t,G|rfl]))
  let%[C,hC|rfl]:=vc;let b1:=oC (HG _ _) M ((cd C).mp hC);let b2:=vm _ ((cd _).mpr cv);rw[Z6]at b2;let b3:=pa.length_eq;rw[Z6]at b3;change Q (.bl (decide ((as\5:md)=(C\5:md)))) dk;rw[show ~~~as=C\5 by lia,Zf rfl];show kk _
end
abbrev dfm:= @JG
abbrev gvm:= @Lv
def all_mk{l:PySem.W.OpenLaw}{w:rM}{K:ZA}{h:su}{mg:ZC}{fa aj:hW}(X:K.In h)(G:h.Ns r0 mg)(hfa:mg "law"=fI (.ref fa))
 {b7 ay:ZI} {b8:ZK} {b9 az a0 a1 ak a2:hV}
 (F:Txc K mg->Txt K mg)
 (ca:Si K r0 "law"=fI (fI (.ref aj))) (cb:K.lookup aj=fI %[b9,b7,.func (Tp "law" "law" (dA mU) (bX mU) (ap mU) .none az a0 a1 ay ak a2)|b8]) (cc:RY K ak "law"=gb) (cd:OJ K (.ref aj)=gb)
 {aa ac ad a3 a4 a5 a6 a7:hW}
 {ae:hW} {ce cf:ZI} {cg:ZK} {ch ci cj a8 ck:hV}
 (al:Si K r0 "Torn"=fI (fI (.ref aa)))
 (a9:Si K r0 "DigError"=fI (fI (.ref ac)))
 (ba:Si K r0 "NoCut"=fI (fI (.ref ad)))
 (bb:Si K r0 "NoLayer"=fI (fI (.ref a3)))
 (bc:Si K r0 "NoRow"=fI (fI (.ref a4)))
 (bd:Si K r0 "NoDeed"=fI (fI (.ref a5)))
 (be:Si K r0 "NoSaying"=fI (fI (.ref a6)))
 (bf:Si K r0 "NoGround"=fI (fI (.ref a7)))
 (bg:MP K (.ref aa) "__getattribute__"=fI (fI (.builtin "BaseException.__getattribute__")))
 (bh:MP K (.ref aa) "__getattr__"=fI fD)
 (bi:RS K (.ref aa) (.type "BaseException")>=gb)
 (am:Pl K aa=gb)
 (cl:MP K (.ref aa) "__class__"=fI (fI (.builtin "object.__class__")))
 (cm:To K (.builtin "object.__class__") "__get__"=fI (fI (.builtin "getset_descriptor.__get__")))
 (cn:takesIn K (.builtin "object.__class__")>=gb)
 (co:mroIn K aa (.type "object")>=gb)
 (e7:MP K (.ref aa) "__init__"=fI (fI (.ref ae)))
 (an:K.lookup ae=fI %[.type "function",ce,.func (Tp "__init__" "Torn.__init__" (dA fA) (bX fA) (ap fA) .none ch ci cj cf a8 ck)|cg])
 (bj:RY K a8 "Torn.__init__"=gb)
 (bk:OJ K (.ref ae)=gb)
 (bl:exK K aa ae=gb)
 (cp:OJ K (.ref aa)=gb)
 (cq:MP K (.ref aa) "__setattr__"=fI (fI (.builtin "object.__setattr__")))
 (bm:vz K aa=gb)
 (bn:MP K (.ref aa) "ring"=fI fD)






 (cr:RS K (.ref aa) (.ref ad)>=gi)
 (cs:RS K (.ref aa) (.ref ac)>=gb)
 (ct:Wy K (.ref aa) [.ref ad,.ref a7,.ref a6,.ref a5,.ref a4,.ref a3]>=gi)
 (cu:Pk K (.ref aa) (.ref aa)>=gb)
 (cv:Pk K (.ref aa) (.type "ValueError")>=gb)
 (cw:To K (.ref ac) "__getattribute__"=fI (fI (.builtin "type.__getattribute__")))
 (cx:readsIn K ac (.type "type")=gb)
 (cy:findCls K (.ref ac) (.type "type") "__init__"=fI (.val (.builtin "ValueError.__init__")))
 (cz:Wv K (.ref ad)>=.type "type")
 (c0:RS K (.ref ad) (.type "BaseException")>=gb)
 (bo:(K.lookup ad).any (λo=>match o.data with| .cls _=>gb|_=>gi)=gb)
 (c1:Wv K (.ref ac)>=.type "type")
 (c2:RS K (.ref ac) (.type "BaseException")>=gb)
 (bp:(K.lookup ac).any (λo=>match o.data with| .cls _=>gb|_=>gi)=gb)
 {ab:hW}
 (bq:Si K r0 "Ground"=fI (fI (.ref ab)))
 (c3:Ug K ab y2=gb)
 (c4:Pl K ab=gb)
 (c5:XG K ab=gb)
 (c6:MP K (.ref ab) "__setattr__"=fI (fI (.builtin "object.__setattr__")))
 (c7:MP K (.ref ab) "kept_cuts"=fI fD)
 (c8:MP K (.ref ab) "kept_sayings"=fI fD)
 (c9:MP K (.ref ab) "kept_layers"=fI fD)
 (da:MP K (.ref ab) "kept_ties"=fI fD)
 {af:hW} {db dc:ZI} {dd:ZK} {de dg dh di br dj:hV}
 (dk:MP K (.ref ab) "__init__"=fI (fI (.ref af)))
 (bs:K.lookup af=fI %[de,db,.func (Tp "__init__" "Ground.__init__" (dA cO) (bX cO) (ap cO) .none dg dh di dc br dj)|dd])
 (bt:RY K br "Ground.__init__"=gb)
 (bu:OJ K (.ref af)=gb)
 (dl:YQ K (.ref af)=gb)
 (dm:makesIn K ab=gb)
 (dn:OJ K (.ref ab)=gb)
 {ag:hW} {dp dq:ZI} {dr:ZK} {ds dt du dv bv dw:hV}
 (dx:MP K (.ref ab) "sayings"=fI (fI (.ref ag)))
 (bw:K.lookup ag=fI %[ds,dp,.func (Tp "sayings" "Ground.sayings" (dA cX) (bX cX) (ap cX) .none dt du dv dq bv dw)|dr])
 (bx:RY K bv "Ground.sayings"=gb)
 (ao:OJ K (.ref ag)=gb)
 (dy:YQ K (.ref ag)=gb)
 {ah:hW} {dz d0:ZI} {d1:ZK} {d2 d3 d4 d5 bz d6:hV}
 (d7:MP K (.ref ab) "layers"=fI (fI (.ref ah)))
 (b0:K.lookup ah=fI %[d2,dz,.func (Tp "layers" "Ground.layers" (dA df) (bX df) (ap df) .none d3 d4 d5 d0 bz d6)|d1])
 (b1:RY K bz "Ground.layers"=gb)
 (aq:OJ K (.ref ah)=gb)
 (d9:YQ K (.ref ah)=gb)
 {ai:hW} {ea eb:ZI} {ec:ZK} {ed ee ef eg b2 eh:hV}
 (ei:MP K (.ref ab) "ties"=fI (fI (.ref ai)))
 (b3:K.lookup ai=fI %[ed,ea,.func (Tp "ties" "Ground.ties" (dA dP) (bX dP) (ap dP) .none ee ef eg eb b2 eh)|ec])
 (b4:RY K b2 "Ground.ties"=gb)
 (ar:OJ K (.ref ai)=gb)
 (ej:YQ K (.ref ai)=gb)
 {b5:hW} {au:NV} {av:ZJ} {ek:gf}
 (el:Si K r0 "YEAR_WORDS"=fI (fI (.ref b5)))
 (em:K.lookup b5>=au)
 (en:au.cls= .type "tuple")
 (eo:au.data= .seq av ek)
 (ep:av.size<=iv)
 (eq:aQ [.str "since",.str "by"] av.toList)
 {b6:hW} {aw:NV} {ax:ZJ} {er:gf}
 (es:Si K r0 "LAYER_WORDS"=fI (fI (.ref b6)))
 (et:K.lookup b6>=aw)
 (eu:aw.cls= .type "tuple")
 (ev:aw.data= .seq ax er)
 (ew:ax.size<=iv)
 (ex:aQ [.str "later",.str "same"] ax.toList)
 :∃fd:Pd,(∀(s:jg) (v:hV),Uc s fd %[[v]|[]] [("_law_script",v)])/\∀base:su,K.In base->base.Ns r0 mg->d8 l.prog w K mg base CX0 12 fa fd ↑"~script" (sd K):=by
 let e:=hfa.symm.trans (Ov X G ca);cases e;let ey:=fP (Ov X G al);subst ey;let ez:=fP (Ov X G a9);subst ez;let e0:=fP (Ov X G ba);subst e0;let e1:=fP (Ov X G bb);subst e1;let e2:=fP (Ov X G bc);subst e2;let e3:=fP (Ov X G bd);subst e3;let e4:=fP (Ov X G be);subst e4;let e5:=fP (Ov X G bf);subst e5;let e6:=fP (Ov X G bq);subst e6;let T:Txt K mg:=F %[Ov X G al,
  Ov X G a9,
  Ov X G ba,
  Ov X G bb,
  Ov X G bc,
  Ov X G bd,
  Ov X G be,
  Ov X G bf,
  %[Ov X G al,%[bg,bh,bi,am,cl,cm,cn|co],ae,_,%[bl,by rw[an];rfl|cp],eM an bj bk|(eM an bj bk).binds (by room)],
  %[cq,bm,bn|am],
  %[bg,bh,bi,bn|am],
  cr,
  cs,
  ct,
  cu,
  cv,
  %[cw,cx|cy],
  %[cz,c0|bo],
  %[c1,c2|bp],
  %[Ov X G bq,c3,c4,c5|c6],
  c7,
  c8,
  c9,
  da,
  %[af,_,%[dm,dk,dl|dn],eM bs bt bu|(eM bs bt bu).binds (by room)],
  %[ag,_,%[dx,dy|ao],eM bw bx ao|(eM bw bx ao).binds (by room)],
  %[ah,_,%[d7,d9|aq],eM b0 b1 aq|(eM b0 b1 aq).binds (by room)],
  %[ai,_,%[ei,ej|ar],eM b3 b4 ar|(eM b3 b4 ar).binds (by room)],
  EK X G el em en eo ep eq|
  EK X G es et eu ev ew ex]
 show%[Tp "law" "law" (dA mU) (bX mU) (ap mU) .none az a0 a1 ay ak a2,λs v=> .of_eq rfl|λbase _ _=>K3 (eM (st:=mU) cb cc cd) T]
def walk{l:PySem.W.OpenLaw}{q:mu}{b:ZB}{j:(jz->ij hV)->su->Prop}{e:rM->su->Prop}{d:DefRec}{K:Params->ZA}(m:l.most>=63)(c:d.params.defaults=[])
 (o:∀(w:rM) (h:su),e w h->(K w.params).In h)
 (F:∀(w:rM) (mg:ZC) (g:hW) (h:su),(K w.params).In h->h.Ns r0 mg->mg d.name>=.ref g->
  ∃i:Pd,(∀(s:jg) (u:hV),Uc s i %[[u]|[]] [("_law_script",u)])/\∀base:su,(K w.params).In base->base.Ns r0 mg->d8 l.prog w (K w.params) mg base CX0 12 g i ↑"~script" (sd (K w.params))):
 PySem.W.WalkO q b j e l.row.toRowW d [] (λf vs=>PySem.call f vs):=
 _LL.walk_of (n:=63) (k:=12) (x:="_law_script") (CX:=λ_=>CX0) (sp:=λw=>sd (K w.params)) m (!1) c %[rfl,!1,!1|rfl] o F (λ_ _ a p r v y=>%[a,p,rfl,y,v,r|λ_=>rfl]) λ_ _ _ _ _ z=>z
end _KK
end
open PySem PySem.W PyProof.Rows
set_option maxRecDepth 100000 in
theorem PySem.Challenge.cw_digbook_k96_whole_ring_or_fewest_holds : PySem.Challenge.rw_digbook_k96_whole_ring_or_fewest.Holds := by
 w_on;o_law;k_head;(case hw=>w_witness2)
 k_fill
 refine _KK.walk (l:=PySem.Challenge.rw_digbook_k96_whole_ring_or_fewest) rfl rfl (λw h Y=>PySem.W.kIn_of Y) ?F
 case F=>
  intro w mg fa h KX G hmg;apply _KK.all_mk KX G hmg
  (case F=>
   intro C
   constructor
   exact C
   any_goals(refine λi e=>(?_:∀i,i∈_->_KK.pf _ mg i) i (List.contains_iff_mem.mp e);repeat' refine List.forall_mem_cons.mpr ⟨?_,?_⟩)
   all_goals first|(intro _ h;cases h)|exact PySem.W.mg_none_of KX G (by k_is)|(refine' _KK.gvm KX G ?z ?r;(case z=>k_is);(case r=>exact⟨_,rfl⟩))|((try unfold _KK.pf);(conv=>arg 3;whnf);refine' _KK.dfm KX G ?a ?l ?c ?k ?b;(case a=>k_is);(case l=>k_is);(case c=>k_is);(case k=>k_is);(case b=>intro _ _ _ _ _ _;(repeat(refine _KK.zq1 λ_=>?_));exact _KK.zq0 rfl)))
  any_goals k_is
  (case bl|bm|bo|bp=>kernel_rfl)
  any_goals first|kit_is|rfl|decide|exact .cons ⟨_,rfl⟩ (.cons ⟨_,rfl⟩ (.nil))
