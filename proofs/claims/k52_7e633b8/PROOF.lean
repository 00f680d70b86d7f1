import PyProof.Rows.All
import Wide.All
import OpenK.AllK
import PySem.Challenge.RW_digbook_k52_levels_told
open Array renaming append_assoc->SS,eq_empty_of_size_eq_zero->Qo,ext->V4,find?_toList->SR,forIn_toList->Pl,getD->Rc,getElem?_eq_getElem->J6,getElem?_eq_none->Nd,getElem?_eq_some_iff->vk,getElem?_replicate->Rx,getElem?_toList->Ni,length_toList->Zb,mem_of_getElem?->NF,mem_toList_iff->OD,perm_iff_toList_perm->Rb,replicate->TV,size_append->PL,size_map->V5,size_push->Xg,size_setIfInBounds->Ol,toList->U2,toList_append->Xb,toList_extract->PF,toList_push->PD,toList_setIfInBounds->Ra
open Bool renaming and_eq_true->Zv,and_false->LU,and_self->RL,eq_false_iff->Qi,eq_iff_iff->M1,false->jg,false_and->No,false_eq_true->Zz,false_ne_true->Zt,false_or->RK,not_eq_true->Qu,not_eq_true'->Tx,not_true->U1,or_eq_false_iff->X4,or_eq_true->Sb,or_false->U0,or_true->Qh,true->iv,true_and->RJ,true_or->RZ
open Classical renaming byContradiction->LD,not_forall->ON
open Decidable renaming byContradiction->K4
open False renaming elim->Lh
open ForInStep renaming yield->NG
open Iff renaming rfl->Nz
open Int renaming emod_lt_of_pos->Od,emod_nonneg->MD,eq_ofNat_of_zero_le->Xf,le_refl->QJ,ofNat_lt->VO,toNat_natCast->Ny,toNat_of_nonneg->Ps,zero_add->Nx
open Lean renaming Syntax->VN
open List renaming Pairwise->Ot,Perm->K2,all_cons->Uf,all_eq_true->Mu,all_map->Vd,any_cons->Zw,any_eq_true->Qt,append_assoc->Ze,append_nil->Zx,cons_append->RC,contains_cons->S5,countP_cons->OR,countP_eq_zero->SN,drop_append->Qs,drop_append_of_le_length->QD,drop_drop->VB,drop_eq_getElem_cons->Zy,drop_of_length_le->Nm,drop_zero->SV,eraseIdx_eq_take_drop_succ->NE,exists_mem_of_ne_nil->Rv,ext_getElem->OQ,ext_getElem?->Pm,extract_eq_take_drop->MW,filter->MT,filterMap_append->Y0,filterMap_cons->Y1,filter_append->Y2,filter_congr->Tt,filter_cons->Y3,filter_cons_of_neg->Y4,filter_cons_of_pos->Y6,filter_eq_nil_iff->NP,filter_nil->Y7,findIdx?->UW,findIdx?_eq_none_iff->Ru,findIdx?_eq_some_iff_getElem->P6,flatMap_append->NO,flatMap_cons->Oh,flatMap_singleton->RY,flatten_cons->Tq,foldl->S4,foldl_append->Tp,foldl_cons->Y8,forIn_cons->Qz,forIn_nil->UC,getD_eq_getElem?_getD->Zc,getElem?_append_left->Y9,getElem?_append_right->Ya,getElem?_cons_zero->OI,getElem?_drop->N3,getElem?_eq_getElem->Z4,getElem?_eq_none->Xi,getElem?_map->Zl,getElem?_of_mem->Xd,getElem?_range->PR,getElem?_replicate->RR,getElem?_set_ne->Pd,getElem?_set_self->RX,getElem?_take->Pu,getElem?_take_of_lt->Yb,getElem?_zip_eq_some->Oe,getElem_mem->Yc,getElem_of_mem->OF,length->Lo,length_append->Z9,length_cons->Zr,length_drop->Yg,length_eq_zero_iff->xl,length_eraseIdx->SB,length_filterMap_le->M6,length_filter_le->Yh,length_map->Z6,length_nil->UM,length_pos_iff->Mj,length_pos_of_mem->RW,length_range->Yi,length_reverse->SM,length_singleton->Yj,length_take->Yk,length_zip->Se,lookup->Mz,lookup_append->S3,lookup_cons->Yl,map->Rh,map_append->Zd,map_congr_left->Yo,map_cons->Yp,map_drop->UV,map_id->VJ,map_map->Yq,map_nil->QY,map_subset->Uh,map_take->UU,mem_append->Yr,mem_append_left->Ys,mem_append_right->Yt,mem_cons->Yu,mem_cons_of_mem->Zk,mem_cons_self->Zm,mem_erase_of_ne->SA,mem_filter->on,mem_filterMap->LG,mem_flatMap->Lf,mem_flatten->Qr,mem_map->N1,mem_of_getElem?->Z8,mem_of_mem_take->Yv,mem_range->wh,mem_singleton->Yw,nil_append->Sc,nodup_append->Yy,nodup_cons->Mi,nodup_iff_pairwise_ne->Yz,nodup_nil->X1,nodup_range->OO,not_lt->Sz,not_mem_nil->X3,of_mem_zip->UL,pairwise_cons->S0,pairwise_iff_getElem->Rt,pairwise_map->NL,perm_append_comm->O2,perm_append_comm_assoc->MP,range->q7,range_succ->NU,replicate->G2,replicate_succ->PN,reverse_cons->Qf,set_append_right->Su,size_toArray->Zp,sum_cons->UT,take_add_one->X7,take_append_drop->X8,take_append_of_le_length->X9,take_length->Xa,take_of_length_le->Zn,take_sublist->To,take_subset->TL,take_subset_take_left->Rg,take_succ_eq_append_getElem->Nl,toList_toArray->SL,zip->L8,zipIdx_cons->Qq,zipIdx_nil->Ug
open List.Pairwise renaming imp->VM,imp_of_mem->Xe,nil->OX
open List.Perm renaming append_left->M9,append_right->Q5,cons->SQ,refl->LL,swap->SO,trans->Os
open List.cons renaming inj->Nn,injEq->L9
open Nat renaming add_assoc->Vi,add_comm->Ss,add_left_cancel->Pr,add_mod->Ti,add_sub_cancel->OH,add_sub_cancel_left->Mw,add_zero->PX,ble->OW,blt->VI,div_add_mod->UB,div_div_eq_div_mul->Sr,div_lt_of_lt_mul->SK,eq_or_lt_of_le->Tn,le_add_left->UA,le_add_right->Og,le_antisymm->Uz,le_of_ble_eq_true->Yd,le_of_eq->Sq,le_of_lt->Ye,le_refl->Zi,le_succ->Yf,le_trans->n7,lt_irrefl->Xh,lt_of_le_of_lt->P4,lt_of_lt_of_le->Zg,lt_of_succ_lt->TK,lt_succ_iff_lt_or_eq->RP,lt_succ_of_lt->Ym,lt_succ_self->Yn,lt_trans->VH,lt_trichotomy->TJ,min_eq_left->PQ,min_eq_right->QC,mod_eq_of_lt->OL,mod_lt->Ro,mod_mod_of_dvd->P0,mul_add->V2,mul_mod->V1,ne_of_gt->Yx,ne_of_lt->Zs,not_lt_of_le->QB,not_lt_zero->X2,pos_of_ne_zero->PZ,pow_dvd_pow->Q4,pow_le_pow_right->NS,pow_succ->OB,sub_self->Oy,sub_zero->So,succ_le_succ->X6,succ_pos->R8,two_pow_pos->Uy,zero_add->QL,zero_le->Xc
open Ne renaming symm->J0
open Option renaming any->Vg,bind_some->Qe,isSome_iff_exists->OP,isSome_map->UN,map_eq_some_iff->Ld,none->hX,some->hY
open Option.some renaming inj->Za
open Prod.mk renaming injEq->LK
open PyProof.Rows renaming AllBare->OU,IntsAre->Tu,Keyed->L6,SortKind->Sm,SortSt->nY,StrsAre->Lr,Subscript_->Sl,arrOf->rM,boot_int->Wa,boot_isinstance->VW,boot_list->O8,boot_max->V0,boot_reversed->VZ,boot_str->Ub,boot_tuple->UR,callWith_builtin1->Pc,callWith_type1->Lp,countRun'->VC,elem'->ND,envOfC->LQ,failedOf->Ms,formatField_str->VV,join_list->VY,listUpdate_at->N2,ltAt'->Va,mergeAt'->Sd,minRun'->Te,pendingOf->ra,reverseSlice'->OV,seqEpoch_at->T1,seqObj->NK,setArr->S8,setPending->Ph,sortedHeap->Pg,subscriptTail_builtinR->S6
open PyProof.Rows.F renaming entry_set_update_loop->SD,plain_set_update_loop->OY
open PyProof.Rows.SortSt renaming mk'->Sx
open PySem renaming Addr->kG,Around->vi,BindsTo->R3,Builtin->o0,CmpOp->Uj,DictEntry->Rw,Draws->Ui,Expr->Ds,FuncData->Nc,GenState->P7,Heap->yu,IsPair->NZ,IsTupleKey->Lc,IsZip->Q6,Keyword->N6,NameKind->K1,Obj->MU,PassesOwn->Oq,PlainAttrs->NY,Program->nX,PyData->La,Result->Rs,Scope->PY,SetTable->nI,Shared->mu,Stmt->I0,Str->lx,Value->ku,Walks->RD,World->v0,argBest->Oi,argsOk->US,assignEach->MO,atKey->SW,attributeBase->Mf,backTo->Mm,backToKw->N8,behindInMarks->LV,binaryOp->Ly,bindC->Ud,bindL->Uc,bootBuiltins->Mb,builtinLookup_eq_fast->TD,builtinsNs->UQ,cLine->M3,callGetattribute->VE,callWith->Si,call_meets->Nu,call_meetsIn->Po,callerA->RV,cellsFrom->Lv,codeAny->NQ,codeAny_builtin->LP,codeAny_call_builtin->Mt,codeAny_extend_loopS->Ua,codeAny_of_tree->RO,collect->Pn,compareOp->qq,entryFor->T8,entryFor_alias->Sg,eval->LB,evalPart_none_step->UO,excClassObj->T7,fits_of_scanBound->Mq,foldedSetIterable->NN,getAttr->Vb,getItem->RU,getMethod->O7,hashByValue->RB,hashStr->Mo,holding->Pk,intItems->O6,isInstance->Qy,isSubtype_stop->Sf,isTrue->Tg,keywordEach->MG,letOwnedTupleGo->VT,mainGlobals->wy,model->Lx,numAt->U9,ofAClassStatement->QX,onTheHeap->SU,pastItsLine_dict->Vz,pickOrder->MB,plainId_quiet->Md,plainObj_wpAny_Assign_Attribute->Re,pushCells_keeps->VS,putSet_of->P8,pyIter->Tc,pyNext->OA,raiseNew->T3,rawInt->Lj,relayAll->O4,richCompare_gives->U8,richCompare_meets_room->Tb,rule->PM,scanBound->NC,setAdd->Ta,setAddHashed->S9,setEpoch->R9,setField->Oz,setNext->Pi,setRelay->T0,setSearchFrom->MS,sizeLine->mv,sizeLine_eq->Le,sliceBounds->MF,slicePick->Vx,slot_list_getitem->QR,standAt->Of,starEach->vj,storeSet->TY,strIterType->NB,subscripted->Rz,swapsWith->NA,sysModules->L7,tupleKeyHash->zr,tupleKind->Rl,tupleKind_room_in1->Ox,typeIs_int->UJ,typeIs_str->Np,typeLookup->Ow,typeLookup_type->VR,typeOf->Oa,unbindBehindTheSuite->TX,unsupported->N7,valueAt->QP,wpAny->sh,wpAny_Call_Name_kw->Mh,wpAny_Dict_empty->Vv,wpAny_Name->UI,wpAny_Try_except->Vu,wpAny_askSetting->Lz,wpAny_assign_Name->U7,wpAny_attempt->Mc,wpAny_bind->Z2,wpAny_call->MJ,wpAny_callSpecial?_slot->L1,wpAny_call_entry->Lm,wpAny_collect_seq->U6,wpAny_dictEntries->QN,wpAny_dictEpoch->RN,wpAny_eqBool_int->Vt,wpAny_eqIsQuiet_tuple->TC,wpAny_execs_cons->Vs,wpAny_execs_nil->Nf,wpAny_field->LW,wpAny_fieldsOf->Pz,wpAny_forIn_list->Vr,wpAny_getItem_list_slice->SE,wpAny_holding->vu,wpAny_isInstance->MA,wpAny_isOneOf_keyiter->TB,wpAny_isSubtype_exc->Uu,wpAny_isTrue_Compare1->Tz,wpAny_letGo->MY,wpAny_letOwnedTupleGo_zip->Sw,wpAny_load->R6,wpAny_loadPart->Ov,wpAny_loadPart_at->NJ,wpAny_lookBehind->Vq,wpAny_mono->Lb,wpAny_newObj_type->Lg,wpAny_newTuple->Py,wpAny_of_eq->Ry,wpAny_onRaise->Qp,wpAny_passesOwn->MR,wpAny_pure->Z3,wpAny_pyHash_str->Vp,wpAny_pyIter_ascii->UH,wpAny_pyIter_enum->U5,wpAny_pyIter_keyiter->TW,wpAny_pyIter_list->NI,wpAny_pyIter_slot->QM,wpAny_pyIter_strU->U4,wpAny_pyIter_tuple->Qv,wpAny_pyIter_wide->U3,wpAny_pyIter_zip->O3,wpAny_raiseNew_none->Us,wpAny_rule->MX,wpAny_runValue->R5,wpAny_seqItems->Lw,wpAny_setEntries_of->M5,wpAny_setField->Ou,wpAny_setField_rec->zz,wpAny_setScan_of->Vo,wpAny_setState_of->p0,wpAny_specialOf->N9,wpAny_standAt->N0,wpAny_storeSet_of->Mp,wpAny_truthy_bool->LZ,wpAny_tryCatch->R4,wpAny_typeNameOfWhole_keyiter->ME,wpAny_typeOf->Pf,wpAny_updateSeq->RM,wpAny_updateSeq_pair->Px
open PySem.Around renaming under_plainId->LR
open PySem.Bind renaming checkArgs->UG
open PySem.Builtin.Builtins renaming bindParams->UF
open PySem.Builtin.Dict renaming showsAll->QH
open PySem.Builtin.Dict_items renaming ownsTuple->OT
open PySem.Builtin.Frozenset renaming baseOf->Ur,copyOf->Uq,difference->OZ,differenceUpdate->Oj,isAnySet->Uo,newClass->Um,sizeOf->Pq,slot0->Ul,unchanged->M8,updateFrom->Uk
open PySem.Builtin.List renaming listExtendWith->My,listLengthHint->Pt,listSameRef->Qg,listTooLong->MQ,listTouch->V3
open PySem.Builtin.ObjectAttr renaming storeInOwnDict->TU
open PySem.Builtin.Range renaming rangeSize->VQ
open PySem.Builtin.SmallTypes renaming nextOf->Mx,ownedTupleIsFree->LN
open PySem.Builtin.Str renaming occurrences->KE,partsBetween->Qn,strKind->Rk,subAt->RH
open PySem.Calls renaming Name_function_global->Q9,callWith_builtin->RS
open PySem.CmpOp renaming NotIn->Vn
open PySem.Code renaming quiet_builtin->Pw
open PySem.F renaming args_dict_keyiterator_next_1->Q8,args_str_split_2->Qm,args_zip_next_1->UE,called_set->NW,entry_dict_keyiterator_next->Ri,entry_max_loop->UZ,entry_str_split->QF,entry_zip_next->UY,plainAttrs_dict->Ob,plainAttrs_list->Ng,plainAttrs_str->V6,plain_extend_loop->TQ,plain_list_iadd->OJ,plain_max_loop->MZ,slot_dict_get->Wc,slot_dict_iter->UX,slot_dict_keyiterator_next->LY,slot_dict_setdefault->TZ,slot_dict_values->Vw,slot_int_rmul->Vk,slot_set_iter->Vj,slot_set_sub->VP,slot_str_split->Q7,slot_zip_next->Pe
open PySem.Heap renaming SameBut->vr,get?_push_ne->Tw,get?_push_of_some->Z7,get?_push_size->Zj,get?_update_other->J5,get?_update_self->K6,lt_size->Zu,size_push->Zq,size_update->TM
open PySem.Heap.IsSliceOf renaming new->QK
open PySem.Heap.Ns1 renaming of_empty->Sv
open PySem.ItemsOf renaming nil->UD
open PySem.Manifest renaming signature?->RQ
open PySem.NameKind renaming cell->Nw,free->LH
open PySem.Obj renaming cls_mapFields->Ql,data_mapFields->M7,isFreed_of_fields->NH,mapFields->NR,mapSeq->LX,putSet->MC
open PySem.PassesOwn renaming never->Op
open PySem.PyData renaming depth->Ux,depthAll->OK,hasDict->TF,hasDictAll->Oc,leavesShort->Sy,leavesShortAll->Nv,showable->Tl,showableAll->N5,shown->Uw,str->N4,weight->Rf,weightAll->On
open PySem.SeqAt renaming EqAt->K8
open PySem.SeqAt.EqAt renaming int_int->RG,int_str->RF,of_refs->Vl,same->TR,str_int->RE
open PySem.SeqAt.RcAt renaming lists->SZ
open PySem.SetFound renaming there->OS
open PySem.SetTable renaming advance->Q0,below->M4,bits->Rq,eraseAt->Nk,fill->Pa,fits->MV,fresh->NT,grown->L5,insertAt->LS,laid->Tk,layClean->Sn,probe->SY,relaid->SJ,runEnd->Ma,turns->PB
open PySem.SetTable.below renaming go->Sj
open PySem.SetTable.layClean renaming free->Nq
open PySem.SetTable.probe renaming go->O5
open PySem.SetTable.sizeAbove renaming go->S7
open PySem.Shared renaming TypeIs->Pp
open PySem.Str renaming empty->K3,join->ry,length->Tj,length_append->Om,ofString->pw
open PySem.StrLaws renaming glued_eq_join->Nj,join_length_le->Rr
open PySem.Value renaming bool->VF,builtin->L4,int->Pb,isInt->Vf,isStrOf->Uv,none->LI,ref->m4,str->K7,type->Lu
open PySem.Value.ref renaming inj->SX
open PySem.W renaming Looks->P5,OpenLaw->Vh,any_some->O9,callWith_K->Sh,cellsFrom_some->PV,check_slot->UP,codeIn->PU,emptyDict->P9,findIn->Lq,fnOf->Rp,handedIn->V9,hasDictIn->NV,instObj->RT,isFn->V8,keepIn->Nt,kia_one->Nh,kitAny->Tf,kitOne->OE,kitx_dict->VA,lookIn->V7,looks_clsIn->T6,looks_findIn->QZ,looks_subIn->RA,mg_of->Na,nsIn->Qj,plainGet->Sa,plainGet_of->T4,plainOver->Vy,specialIn->Rn,subIn->PH,typeIn->UK
open PySem.W.Looks renaming here->OM
open PySem.W.WData renaming int->VX
open PySem.Walks renaming list->Q2,tuple->Ve
open PySem.pickOrder renaming go->QV
open Sum renaming inl->VG,inr->lp
open Sum.inr renaming inj->Mg
open True renaming intro->Li
open _root_ renaming Array->oT,Bool->ri,DecidableEq->Lk,False->KZ,ForInStep->re,Int->pp,List->hH,Nat->kj,Option->lX,StateT->K0,String->LF,True->NX,Unit->Q3,absurd->ow,and_congr_left->Sk,and_true->Ue,beq_eq_false_iff_ne->K5,beq_iff_eq->Mv,beq_self_eq_true->M0,bne_self_eq_false->Vc,congr->T9,congrArg->tI,decide_eq_false->Zh,decide_eq_true->Zf,decide_eq_true_eq->K9,decide_eq_true_iff->MN,exists_congr->Th,if_false->Nb,if_neg->kw,if_pos->md,if_true->Pj,modify->Td,not_or->NM,of_decide_eq_false->Qw,of_decide_eq_true->Zo,or_congr->PP,or_false->LA
open List (cons_append length_eq_zero_iff mem_append nil_append nodup_append)
open Nat (le_add_right le_of_lt le_zero zero_add)
open Option (getD_none)
open PyProof.Rows (boot_all boot_bool boot_dict boot_min boot_set boot_sorted)
open PySem.F (slot_list_extend slot_str_join type_dict_get type_list_extend type_str_join)
open PySem.Heap (ExtBut)
open PySem.W (KatTups KeqHits KitX clsIn findCls findObj findObj_own hideAll hideAll_get kat_cons kat_go kat_no kat_one kat_yes kdl_values kitx_list kitx_none looks_find looks_hook makesIn mroIn of_hideAll readsIn set_plain takerIn takesIn)
set_option linter.all false
set_option tactic.hygienic false
set_option compiler.extract_closed false
local macro_rules|`(#check $s:str)=>do
 let(a,_)<-s.getString.toList.foldlM (init:=(#[],0,0)) λ(a,n,k) c=>do
  let n:=n*90+c.toNat-if c.toNat>92 then 37 else 35
  return if k=9 then(a.push (Lean.mkIdent ("tw"++toString n).toName),0,0)else(a,n,k+1)
 `(structure $(Lean.mkIdent `PySem.W.Fast):ident:Prop where($a*:0=0))
#check "7/6MWD71s~8h@tN2EBCfA6OG,T^;#(>Q@;AKo)g*Ed7@tsFISi8}_/3m=yn1<R;J>+m<#?)Q`@E^raZy4cw$.m^ZQ}.ca;v,psK<$W}bMoERW_5d<w{3KxT0'=t@A>qPQZ2sNSAWO.G*(`=0fy]5s@3*eoh>@RLbRH($dDRk]$E|Uyk:MJB6Iz<*b8_/n1+C$L9jt.:O:Bbq9iLskRBGyr>y5_$P7_-gjXm&)E)Bf,_]W2f<$.v<M?=m*%>ZfwG~{v(n8rmi%Io46aQ|Y`xr)/GDRY*7Byb]}uLAg)aUw<U=/Jgb=c<of8&DL#WuL+/+$Nr<ZM('w3+Qk(A_~PC0IsKu;gTK)qHxbzMIcc#O;a(o8.jRvN)bH,]Gjz,E2-6Me};)->?AQqIPpkZ((l#@C6KXX;%.RCo14}.^9ltkaei>R7=oqVq~BtiKPb~,Xe`c8+3FhB4,FRnFP6.O=aA+z6&FWoElt#NGC@5FZIHtlkADWc5aoagpO,1VU@`rC8-i@3'B/4#M(6{Y)($~~SJy{.aiS`o]KWPOL&8'4nG`7vC]n+wW08.O,M(H-:5TN)0DAZr7/rPhKXiCCTQN_W.STQxRABLJJ4>(|E6/ZT.%n=+D,c%hqLC=n{F-WgyAOwsnOaIPu#hV|zF(lE9C{.By08pC|J;V:@9&'HI@Iq'??dYzZSH+QU/_$m054b7o#R',w;p&_+0m?y)4gB{x41TL4_XZjE1F7{gS2#^h8-&:sGPnhwBnjmB{H7OW3cTrCoX)A2'8+S~>AZ+;@/;aP4k$:n>J.P*XTL8_BK`KyM6|eN@|}0l.GvgR6g34A:~g{9=-m{m5M%qnLEp<B{tucv;9AhV(NL'E+`7w-F7WT(2*Gd))#7l3>AzIzhNV5(5]JsFkMSy1&Id&S)fGg6NDYGZD06iAM+{pH`o=Ut*#kd~C13:a1Oj/cIhWK];aZB?fr9(|.d~dMW5YDBG(Z>LM{1XUQLAZm`9{*f)?B`)6Ap:x..Ha0GWuXRF,%e}]*s#K<0)}0IrB5f;i8UIc2w}o4ZnYh7'2#rF*=w1#E&8&QqmFF&#JaS'Q$GS2QjE,/QvEIS2ollH8(;y;s,Q_NH@L@5|d<VL<^j=^`(=?-<7(EI&q@72_hPh*6K$o>JKc5gj)p@GRsc=_P{~B.2*V9xKzsSCt.4pe}ObI:VjClkZ2e9(VdCZP/64V,*dUFp]AHf$x&`IEb/c*O;^}DTiL*k0b{{'m#f_,#&fCnhk*tePyOL'wTT4yE$.nR@l|x7BX{?9z~SH2(;Aumhjn+6=`mO.h7F3zLC3ruH#l`2F]1|o/%*7X2^Y`Iu_Wim>:SkK*'BRLFuPwm4'`xY#~;z$3QZRCC95qDDt13)D:Ts-9_pS:*G3=FMXP#p#eDs'.YqzJ;PRGZ$L|;XAPlr$BEQ$bG+/sBn(Dr_.WL*STEMn`#/l]A|D>rv6W7lulX.OG#&$QXl~Cv^Q>DQL&4+{REorzMN1v8b($Z,$}u~<;1PW@gj1AiXG}u8k|*%cY4F3Q%wzJYt979g5`o.`2?(;Xp7Mm;=#5QIWXYm:444WrXo6~X:%}UVdXoDdi0T/NmtQ+F/.2_5_UA{a5';ES`2t)`y>yLtr`EvbO%NMh,bKqtgJr__'%*tr.Oo;@^+.)QtD,dqbkcH~d4rIU/y+Xz>&xN9Aqc.?<)>f/7{y'Hw1V'F(ZI2O~M(wB%_Z@)H(0x~$4p#bgNm7`vH:3Dr+S2Nd1d_KP4;:ofV$/GtBM19_mo:T(<]4r&?hl/1Gin23Z-0zp-Y1{uInm^T@M]3X-$a?d5u.%DWbCh2*&t)aR<=?j%t(}H}A#fAG7w3ci)MM^@ePOrO.UU'@~D<Jnl/3W-8s>~MYce^,WE~q`,:+`(6Zhvp?G6N*wJ@{/me/cL3q@(Ub'R@KT*~f||r}:IRfzg01I1/>6g20IO^;g;woNP<yPZm,bWJ'SmFu?193Y=,D:uJ.]`B5CN:nz-c@@A~,r@oE~kKW4kD:B4xRo0A:|4F'kMqgg}Ji7.NuR?YC9'fEvv@)%%|Np5&/a_~%|/<'=D8->/jof%Vm]h>KfRW<?Wrv%@%oC$l;+Za-T1XRM<Y&uN|5jNuz(nVbfyp;r*Cmuc6_:6Q:v6}$ty>*.:p]_f;/eR%QCD:wF87:4XGYSw{CgESI~`hZ(@_9ee.8njeRxDZoY4g;e^i#>Z7WSD;HBFmz#~g+7qMIyNCRy<?,YM<|%tQMs/LKmQT/^mc4w<WZ.0h;f_u/&j()UFfCD?>JEITvVa=(JH|aDc@Q:=Hm-GMAl}y-WQRxRExRt&'6zt%jHflM';/FJ@xTA?^F;5YTywh3Y2]VoQ/@l#^+-lr&pCg/qt0EjMz?&Kk&l$Z1u6p9c%`GUfMBG2^N?~j=7vwP{%8Ut_*dtL&JG^q2zofKf6uDJ'wy9J.BY1yss`#=H8}dRI)8HMq/i6,K8e%8t|%@of*Q-*(Hi*RX8H>OrlyY(`ts?8K(',fzs{/*/BAUg,y+]Dfsj3r/Ml@;k8&w}eO1M5<_:c4a9=&Qm'1%I,d.X9_@CDEfkd{8;>M+918Wl$I4N&^}Qa|DPn3g-r&d%'{RAj^$=>u*_p$FNB39x86x#<E}>;s+ud?z@U}SH*.Tv?wNVTm-Ig~E^?6ot7kZgp%WK^D5Kzm&5~g`^4hL:zBGOzR$0j-6U=oa;+-Fx^R9tguP1(b9bB=K{M?S-K$-ru?Ep|VolnLflDP1<w;`RMm:amcRmQ5@X2X_|xHKo?.>#EiBEnyhV<2cbqQt#*L<*7}Oz3Y*oHD8moL%)Zt.RL5f_=E9],@M.%<`)nh(6v(mwOTMXG]'6&+__M{87K+L~}8}/,.$+C@#,SS4WLz:rC>#:MQH,MK)TWLJtFXlmu-s/,90%1yp4oEH$6oxCR7ut:#sLPb2&#b8iW4o@8j-'']qpfJCR~tO'-R/uWkG6Cdc.}}^^7z>oRj%r~og5+X;1+rtspDPW;S]:y^u6=)Gm#='&&89Q$vo*uijk"
theorem Z0{c:Sort _}{b:Prop}{a:c}:a=a∨b:=Or.inl rfl
theorem Z1{c:Sort _}{b:Prop}{a:c}:b∨a=a:=Or.inr rfl
theorem Xj{b:Type _}{l:hH b}{i:kj}{a:b}(h:l[i]?=hY a):∃h:i<l.length,l[i]=a:=hH.getElem?_eq_some_iff.mp h
theorem Xk{b:Type _}{a:b}{s t:hH b}(h:a∈s++t):a∈s∨a∈t:=hH.mem_append.mp h
theorem Xl{c:Type _}{a b:c}(h:a∈[b]):a=b:=hH.mem_singleton.mp h
theorem Xm{c d:Type _}{f:c->d}{l:hH c}{b:d}(h:b∈l.map f):∃a,a∈l/\f a=b:=N1.mp h
theorem Xn{c d:Type _}{f:c->d}{l:hH c}{b:d}(h:∃a,a∈l/\f a=b):b∈l.map f:=N1.mpr h
set_option maxHeartbeats 0
set_option Elab.async false
set_option compiler.extract_closed false
set_option maxRecDepth 100000
section
open PySem
local macro_rules|`(!0)=>`(by decide +kernel)|`(!1)=>`(by decide)|`(!2)=>`(by simp_all)|`(!$s:str)=>`(Str.ofString $s)
local macro_rules|`(↑$h:ident)=>`(by simpa using $h)
local macro_rules|`(tactic|lia)=>`(tactic|first|assumption|exact Nat.le_of_lt ‹_›|exact Nat.le_trans ‹_› (by decide)|exact Nat.lt_of_le_of_lt ‹_› (by decide)|exact Nat.le_trans ‹_› ‹_›|exact Nat.le_add_left _ _|exact Nat.le_antisymm ‹_› (Nat.le_of_not_lt ‹_›)|exact Nat.le_of_not_lt ‹_›|exact Nat.lt_of_le_of_ne ‹_› ‹_›|exact Nat.lt_succ_of_le ‹_›|exact Nat.le_of_eq (Eq.symm ‹_›)|exact Nat.le_add_right _ _|exact Nat.le_of_eq ‹_›|lia -verbose)
local macro_rules|`(⋯)=>`(by lia)|`(∅)=>`(by simp)
local macro_rules|`(⇑$s:ident)=>`(Shared.heap $s|>.objs.size)
local macro_rules|`($x:ident⁻¹)=>`(wpAny (model ($x).prog ($x).w) ($x).A)
local macro_rules|`($s:ident>>>$e)=>`({$s with heap:=$e})
local macro_rules|`(%[$x,*|$y])=>`(⟨$x,*,$y⟩)
def zqp:Nat->Lean.Syntax->Lean.Syntax
 |n+1,.node i k a=>if k==`«term%[_|_]»then .node i `Lean.Parser.Tactic.rcasesPat.tuple #[.atom i "⟨",.node i `null (a[1]!.getArgs.push (.atom i ",")|>.push a[3]!|>.map λx=>if x.isAtom then x else .node i `Lean.Parser.Tactic.rcasesPatLo #[.node i `Lean.Parser.Tactic.rcasesPatMed #[.node i `null #[zqp n x]],.node i `null #[]]),.atom i "⟩"]else .node i `Lean.Parser.Tactic.rcasesPat.ignore #[.atom i "_"]
 |_,x=>.node .none `Lean.Parser.Tactic.rcasesPat.one #[x]
local macro_rules|`(tactic|have $p:term:=$h)=>if p.raw.isOfKind `«term%[_|_]»then`(tactic|obtain $(⟨zqp 99 p⟩):rcasesPat:=$h)else Lean.Macro.throwUnsupported
local macro_rules|`(tactic|let $d:letDecl)=>`(tactic|have $d:letDecl)|`(tactic|show $e)=>`(tactic|refine $e)
local macro_rules|`(tactic|intro $p*)=>if p.any (·.raw.isOfKind `«term%[_|_]»)then do
  let q:=p.map λx=>(⟨.node .none `Lean.Parser.Tactic.rintroPat.one #[zqp 99 x]⟩:Lean.TSyntax `rintroPat)
  `(tactic|rintro $q*)else Lean.Macro.throwUnsupported
set_option hygiene false in
local macro_rules|`(command|$d:declaration)=>do
 let x:=d.raw[1]
 let b:=x.isOfKind `Lean.Parser.Command.definition
 if x.isOfKind `Lean.Parser.Command.inductive&&x[2][1].isNone&&x[3].isNone then
  let y:=(<-`(inductive q(vs:ZM)(H:Hp)(Q:VK)(E0:XK):Prop)).raw[1][2]
  return d.raw.setArg 1 (x.setArg 2 (y.setArg 0 (Lean.mkNullNode (x[2][0].getArgs++y[0].getArgs))))
 if d.raw[0].getArgs.all (·.isNone)&&(b||x.isOfKind `Lean.Parser.Command.abbrev)then return if b then d.raw.setArg 1 (.node .none `Lean.Parser.Command.theorem #[.atom .none "theorem",x[1],.node .none `Lean.Parser.Command.declSig #[x[2][0],x[2][1][0]],x[3]])else .node .none `Lean.Parser.Command.declaration #[d.raw[0].setArg 4 (Lean.mkNullNode #[.node .none `Lean.Parser.Command.noncomputable #[.atom .none "noncomputable"]]),.node .none `Lean.Parser.Command.definition #[.atom .none "def",x[1],x[2],x[3],Lean.mkNullNode]]
 Lean.Macro.throwUnsupported
set_option hygiene false in
local macro_rules|`(↥$a:ident)=>`(wpAny (model prog w) $a)
set_option hygiene false in
local macro_rules|`(command|#where)=>`(variable{prog:Program}{w:World}{A:Around}{E:ZD}{s:Shared})
set_option hygiene false in
local macro_rules|`(command|#version)=>`(variable{X:Cx}{ij:ZE}{σ:St}{H:Hp}{s:Shared})
nonrec abbrev ZA:=PySem.W.Frag
nonrec abbrev ZB:=hH PySem.Str
nonrec abbrev ZC:=PySem.Str->lX PySem.Value
nonrec abbrev ZD:=PySem.Value->PySem.Shared->Prop
nonrec abbrev ZE:=hH (PySem.Addr×PySem.Obj)
nonrec abbrev ZF:=hH PySem.Value
nonrec abbrev ZG:=hH (PySem.Addr×hH PySem.Str)
nonrec abbrev ZH:=hH (PySem.Addr×PySem.Str×hH PySem.Str)
nonrec abbrev ZI:=lX PySem.Addr
nonrec abbrev ZJ:=oT PySem.Value
nonrec abbrev ZK:=oT (lX PySem.Value)
nonrec abbrev ZL:=hH pp
set_option genSizeOf false
set_option genInjectivity false
set_option bootstrap.genMatcherCode false
local macro_rules|`(~~~$x)=>`($(x).length)|`($x<*$y)=>`($x=some (.lst $y))|`($x&&&$y)=>`($x=some (.tup $y))
set_option hygiene false in
local macro_rules|`(tactic|exists $t,$c,$a:ident,$j:ident,$p)=>`(tactic|(refine ($t).cal $c (λH vs Q E h=>?_);have $p:term:=h;refine ⟨rfl,λf $a A outer s $j=>?_⟩))
nonrec theorem ρ{α:Sort _}{a:α}:a=a:=rfl
set_option hygiene false in
local macro_rules|`($x\0)=>`($(x).map λt=>V.ref t.1)|`($x\1)=>`($(x).map (·.1))|`($x\2)=>`($(x).map (·.2))|`($x\3)=>`($(x).map V.str)|`($x\4)=>`($(x).map V.int)|`($x∣$y)=>`($x=some $y)
namespace _LL
open PySem PySem.Spec PyProof.Rows
noncomputable abbrev Key:=Sum pp lx
abbrev jK:Key->ku->ri
 | .inl k,v=>Vf k v
 | .inr x,v=>Uv x v
abbrev keyH(w:v0):Key->pp
 | .inl k=>hashInt k
 | .inr x=>Mo w x
def aZ:∀{k:Key} {v:ku},jK k v=iv->(∃i t,k=VG i/\v=Pb i t)\/(∃x t,k=lp x/\v=K7 x t)
 | .inl i,v,h=>by
   let%[t|e]:=ku.isInt_shape h;show .inl %[i,t,rfl|e]
 | .inr x,v,h=>by
   let%[t|e]:=ku.isStrOf_shape h;show .inr %[x,t,rfl|e]
def zZ(i:pp)(t:Tok):jK (.inl i) (.int i t)=iv:=by simp[jK,Vf]
def dZ(x:lx)(t:Tok):jK (.inr x) (.str x t)=iv:=by simp[jK,Uv]
def GX(a b:pp):decide ((VG a:Key)=VG b)=(a==b):=by
 by_cases e:a=b
 .subst e;simp
 simp_all
def GY(a b:lx):decide ((lp a:Key)=lp b)=decide (a=b):=by
 simp
abbrev aR(prog:nX)(w:v0):PySem.KeyKind prog w Key where
 is:=jK
 hash:=keyH w
 inj:=λv a b ha hb=>by
  rcases aZ ha with⟨i,t,rfl,rfl⟩|⟨x,t,rfl,rfl⟩
  .rcases aZ hb with⟨j,u,rfl,e⟩|⟨y,u,rfl,e⟩
   .injection e with e1 _;rw[e1]
   .show nomatch e
  .rcases aZ hb with⟨j,u,rfl,e⟩|⟨y,u,rfl,e⟩
   .show nomatch e
   .injection e with e1 _;rw[e1]
 byValue:=λk v h=>by
  rcases aZ h with⟨i,t,rfl,rfl⟩|⟨x,t,rfl,rfl⟩<;> rfl
 pyHash:=λhv h=>by
  rcases aZ hv with⟨i,t,rfl,rfl⟩|⟨x,t,rfl,rfl⟩
  .show wpAny_pyHash_int h
  .show Vp h
 eqBool:=λhu hv h=>by
  rcases aZ hu with⟨i,t,rfl,rfl⟩|⟨x,t,rfl,rfl⟩
  .rcases aZ hv with⟨j,u,rfl,rfl⟩|⟨y,u,rfl,rfl⟩
   .rw[GX]at h;show Vt h
   .show RF i t y u _ _ _ _ h
  .rcases aZ hv with⟨j,u,rfl,rfl⟩|⟨y,u,rfl,rfl⟩
   .show RE x t j u _ _ _ _ h
   .rw[GY]at h;show wpAny_eqBool_str h
 «strs»:=λk x t v h=>by
  rcases aZ h with⟨i,u,rfl,e⟩|⟨y,u,rfl,e⟩
  .show nomatch e
  .injection e with e1 _
   subst e1;cases v<;> rfl
def uV(prog:nX)(w:v0)(i:pp)(t:Tok):(aR prog w).is (.inl i) (.int i t)=iv:=zZ i t
def uW(prog:nX)(w:v0)(x:lx)(t:Tok):(aR prog w).is (.inr x) (.str x t)=iv:=dZ x t
set_option genInjectivity true in
inductive V where
 | non|bl (b:ri)|int (i:pp)|str (x:lx)|byt (b:oT UInt8)|flt (b:UInt64)|ref (a:kG)|ty (n:LF)
 deriving Lk
abbrev aT:V->ku->Prop
 | .non,u=>u=LI
 | .bl b,u=>u=VF b
 | .int i,u=>∃t,u=Pb i t
 | .str x,u=>∃t,u=K7 x t
 | .byt b,u=>∃t,u=ku.bytes b t
 | .flt b,u=>∃t,u=ku.float b t
 | .ref a,u=>u=m4 a
 | .ty n,u=>u=Lu n
nonrec abbrev aI:hH V->ZF->Prop:=Paired aT
def aI.length{xs:hH V}{us:ZF}(r:aI xs us): ~~~xs= ~~~us:=Paired.length r
def aI.get:∀{xs:hH V} {us:ZF} {i:kj} {x:V},aI xs us->xs[i]?∣x->∃u,us[i]?∣u/\aT x u
 | _,_,_,_,.nil,e=>by simp at e
 | _,_,0,_,.cons r _,e=>by simp at e;subst e;show%[_,ρ|r]
 | _,_,i+1,x,.cons _ t,e=>by
   let%[u,a|b]:=aI.get t (e);show%[u,a|b]
def aI.append:∀{xs ys:hH V} {us ws:ZF},aI xs us->aI ys ws->aI (xs++ys) (us++ws)
 | _,_,_,_,.nil,s=>s
 | _,_,_,_,.cons r t,s=> .cons r (aI.append t s)
def aI.take:∀{xs:hH V} {us:ZF} n,aI xs us->aI (xs.take n) (us.take n)
 | _,_,0,_=> .nil
 | _,_,_+1,.nil=> .nil
 | _,_,n+1,.cons r t=> .cons r (aI.take n t)
def aI.drop:∀{xs:hH V} {us:ZF} n,aI xs us->aI (xs.drop n) (us.drop n)
 | _,_,0,r=>r
 | _,_,_+1,.nil=> .nil
 | _,_,n+1,.cons _ t=>aI.drop n t
abbrev fY:lX V->lX ku->Prop
 | hY v,hY u=>aT v u
 | hX,hX=>NX
 | _,_=>KZ
abbrev KV{a:Type}:hH (a×V)->hH (a×ku)->Prop:=Paired λp q=>p.1=q.1/\aT p.2 q.2
abbrev kV:Key->V
 | .inl i=> .int i
 | .inr x=> .str x
set_option genInjectivity true in
inductive HO where
 | lst (xs:hH V)
 | tup (xs:hH V)
 | dK (kvs:hH (Key×V))|dT (kvs:hH (hH Key×V))
 | set (S:pp->ri) (n:kj)
 | ins (C dx:kG) (fs:hH (lx×V))
 | own (x:kG)
 | xd (fs:hH (lx×V))
 | met (f x:kG)
 | rng (lo hi:pp)
 | frz (o:MU) (u:HO)
 | tbl (ps:ZJ)
 | ext (φ:yu->Prop)
noncomputable abbrev Hp:=kG->lX HO
abbrev Qb(H:Hp)(a:kG)(o:HO):Hp:=λb=>if b=a then hY o else H b
def aa:Qb H a o a∣o:=by unfold Qb;rw[md rfl]
def ao{H:Hp}{a b:kG}{o:HO}(h:b≠a):Qb H a o b=H b:=by unfold Qb;rw[kw h]
def EB:Qb (Qb H a o) a u=Qb H a u:=by
 funext b;unfold Qb;split<;> rfl
def nO{H:Hp}(h:H a∣o)(h':H b∣u)(d:o≠u):a≠b:=by
 intro e;subst e;rw[h]at h';show d (Za h')
def ax{H:Hp}{a b:kG}{o:HO}(h:H a∣o)(h':H b=hX):a≠b:=by
 lia
section
variable(P:nX)(w:v0)
abbrev bQ(H:Hp)(h:yu)(a:kG):HO->Prop
 | .lst xs=> ~~~xs<=mv/\∃(its:ZF) (n:kj),aI xs its/\h.get? a=hY {cls:= .type "list",data:= .seq its.toArray n}
 | .tup xs=> ~~~xs<=mv/\∃its:ZF,aI xs its/\IsTup h a its.toArray
 | .dK b=> ~~~b<=mv/\(a==L7)=jg/\∃vs,KV b vs/\h.DictOf (aR P w) a vs
 | .dT b=> ~~~b<=mv/\(a==L7)=jg/\∃xs:hH (hH Key×kG×ku),
  Paired (λ(p:hH Key×V) (q:hH Key×kG×ku)=>p.1=q.1/\H q.2.1&&&p.1.map kV/\aT p.2 q.2.2) b xs/\
  ∃o es j,h.get? a∣o/\o.ExactDict/\o.data= .dict es j/\es.toList=xs.map (entryOfKey (Rl (aR P w)))/\(xs\1).Nodup
 | .set S n=>h.SetOf (intKind P w) a S n
 | .ins C d fs=>H d∣.own a/\ ~~~fs<=1000/\d≠a/\h.get? a∣RT C d/\
  ∃c,h.Ns1 d c/\(∀f,fY (fs.lookup f) (c f))/\PySem.Within c (fs\1)
 | .own _=>∃o,h.get? a∣o
 | .xd fs=>∃c,h.Ns1 a c/\∀f,fY (fs.lookup f) (c f)
 | .rng lo hi=>∃t u v,h.get? a=hY {cls:= .type "range",data:= .fields #[.int lo t,.int hi u,.int 1 v]}
 | .frz o u=>h.get? a∣o/\bQ H h a u
 | .tbl ps=>h.get? a=hY {cls:= .none,data:= .fields ps}
 | .met f x=>h.get? a∣PySem.W.methodObj (.ref f) (.ref x)
 | .ext e=>e h/\(∃o,h.get? a∣o)/\∀g i,e g->(∀o,g.get? a∣o->i.get? a∣o)->e i
abbrev HOk(H:Hp)(h:yu):Prop:=∀a o,H a∣o->bQ P w H h a o
end
section
variable{P:nX}{w:v0}{H H':Hp}{h h':yu}{a:kG}{o:HO}
def bQ.lt(x:bQ P w H h a o):a<h.objs.size:=by
 cases o with
 | lst xs=>have%[_,_,_,_|e]:=x;show Zu e
 | tup xs=>have%[_,_,_|p]:=x;show p.lt
 | dK b=>have%[_,_,_,_,o,_,_,e|_]:=x;show Zu e
 | dT b=>have%[_,_,_,_,o,_,_,e|_]:=x;show Zu e
 | set S n=>have%[o,_,_,_,e|_]:=x;show Zu e
 | ins C c fs=>have%[_,_,_,e|_]:=x;show Zu e
 | own y=>have%[_|e]:=x;show Zu e
 | xd fs=>have%[_,%[_,_,_,e|_]|_]:=x;show Zu e
 | rng lo hi=>have%[_,_,_|e]:=x;show Zu e
 | frz d u=>have%[e|_]:=x;show Zu e
 | tbl ps=>show Zu (x)
 | met f y=>show Zu (x)
 | ext g=>have%[_,%[_|e]|_]:=x;show Zu e
def Paired.mapP{F G:c->d->Prop}:∀{l₁:hH c} {l₂:hH d},Paired F l₁ l₂->(∀a b,F a b->G a b)->Paired G l₁ l₂
 | _,_,.nil,_=> .nil
 | _,_,.cons r t,f=> .cons (f _ _ r) (Paired.mapP t f)
def bQ.stay(x:bQ P w H h a o)(k:∀b u,(b=a\/H b∣.own a)->h.get? b∣u->h'.get? b∣u)
 (m:∀b,H b∣.own a->H' b∣.own a) (s:∀b xs,H b&&&xs->H' b&&&xs):bQ P w H' h' a o:=by
 induction o with
 | lst xs=>have%[z,its,n,r|e]:=x;show%[z,its,n,r|k _ _ (.inl rfl) e]
 | tup xs=>have%[z,its,r,g,e|c]:=x;show%[z,its,r,g,k _ _ (.inl rfl) e|c]
 | dK j=>have%[z,y,vs,r,g,es,i,e|c]:=x;show%[z,y,vs,r,g,es,i,k _ _ (.inl rfl) e|c]
 | dT j=>
   let%[z,y,xs,r,g,es,i,e|c]:=x;show%[z,y,xs,Paired.mapP r λp q z=>%[z.1,s _ _ z.2.1|z.2.2],g,es,i,k _ _ (.inl rfl) e|c]
 | set S n=>have%[g,es,i,t,e|c]:=x;show%[g,es,i,t,k _ _ (.inl rfl) e|c]
 | ins C E fs=>
   let%[d,z,ne,e,l,%[od,es,i,A|c]|r]:=x;show%[m _ d,z,ne,k _ _ (.inl rfl) e,l,%[od,es,i,k _ _ (.inr d) A|c]|r]
 | own y=>have%[g|e]:=x;show%[g|k _ _ (.inl rfl) e]
 | xd fs=>have%[l,%[od,es,i,e|c]|r]:=x;show%[l,%[od,es,i,k _ _ (.inl rfl) e|c]|r]
 | rng lo hi=>have%[t,u,v|e]:=x;show%[t,u,v|k _ _ (.inl rfl) e]
 | frz g u B=>have%[e|q]:=x;show%[k _ _ (.inl rfl) e|B q]
 | tbl ps=>
   show k a _ (.inl rfl) x
 | met f y=>
   show k a _ (.inl rfl) x
 | ext G=>have%[p,%[o|e]|st]:=x;show%[st _ _ p λo q=>k _ _ (.inl rfl) q,%[o|k _ _ (.inl rfl) e]|st]
def HOk.lt(x:HOk P w H h)(e:H a∣o):a<h.objs.size:=(x a o e).lt
def HOk.fresh(x:HOk P w H h)(e:h.objs.size<=a):H a=hX:=by
 cases q:H a with
 | none=>rfl
 | some u=>show ow (Zg (x.lt q) e) (Xh _)
def HOk.kept(x:HOk P w H h)(k:∀b u,h.get? b∣u->h'.get? b∣u):HOk P w H h':=λa o e=>
 (x a o e).stay (λb u _ q=>k b u q) (λ_ q=>q) λ_ _ q=>q
def HOk.laid(x:HOk P w H h)(k:∀b u,h.get? b∣u->h'.get? b∣u)(g:h.objs.size<=a)(new:bQ P w (Qb H a o) h' a o):HOk P w (Qb H a o) h':=λb u e=>by
 let d:=x.fresh g;by_cases f:b=a
 .subst f;rw[aa]at e;grind
 .rw[ao f]at e;show(x b u e).stay (λc v _ q=>k c v q) (λc q=>(ao (ax q d))▸q) λc xs q=>(ao (ax q d))▸q
end
abbrev Rd(H:Hp)(a:kG)(u:HO):Prop:=H a∣u\/∃o,H a∣.frz o u
def Rd.ok{P:nX}{w:v0}{H:Hp}{h:yu}{a:kG}{u:HO}(r:Rd H a u)(x:HOk P w H h):bQ P w H h a u:=by
 rcases r with r|⟨o,r⟩
 .show x a u r
 .let%[_|q]:=x a _ r;show q
abbrev Mut:lX HO->Prop
 | hY (.lst _)=>NX
 | hY (.dK _)=>NX
 | hY (.dT _)=>NX
 | hY (.set _ _)=>NX
 | hY (.ins _ _ _)=>NX
 | hY (.ext _)=>NX
 | _=>KZ
section
variable{P:nX}{w:v0}{H:Hp}{h h':yu}{x e:kG}{o':HO}
def HOk.write(ok:HOk P w H h)(g:Mut (H x))(m:e=x\/H e∣.own x)(k:∀b u,b≠e->h.get? b∣u->h'.get? b∣u)(i:∃u,h'.get? e∣u)
 (new:bQ P w (Qb H x o') h' x o'):HOk P w (Qb H x o') h':=λb u q=>by
 let d:∀c y,H c∣.own y->c≠x:=λc y r z=>by subst z;rw[r]at g;show g
 let f:∀c xs,H c&&&xs->c≠x:=λc xs r z=>by subst z;rw[r]at g;show g
 by_cases j:b=x
 .subst j;rw[aa]at q;grind
 .rw[ao j]at q;by_cases a:b=e
  .let l:H b∣.own x:=by
    rcases m with z|z
    .show ow (a.trans z) j
    .show a▸z
   rw[q]at l;cases l;let%[v|n]:=i;show%[v|a▸n]
  .show(ok b u q).stay (λc v o r=>k c v ?_ r) (λc r=>(ao (d c b r))▸r) λc xs r=>(ao (f c xs r))▸r
   grind
end
structure Un (fs ex:hH kG) (H H':Hp) (h h':yu):Prop where
 keep:∀b o,h.get? b∣o->H b=hX->b∉fs->b∉ex->h'.get? b∣o
 slot:∀b o,h.get? b∣o->H b=hX->b∈fs->b∉ex->∃sl,h'.get? b=hY {o with slots:=sl}
 free:∀b o,h.get? b∣o->H b=hX->b∉ex->H' b=hX
 there:∀b o,h.get? b∣o->b∉ex->∃o',h'.get? b∣o'
 tups:∀b xs,H b&&&xs->H' b&&&xs
 frzs:∀b o u,H b∣.frz o u->H' b∣.frz o u
 tbls:∀b ps,H b∣.tbl ps->∃more,H' b∣.tbl (ps++more)
section
variable{fs fs' ex ex':hH kG}{H H1 H2:Hp}{h h1 h2 h':yu}{a x e:kG}{o:HO}
def Un.any(u:Un fs ex H H1 h h1)(q:h.get? b∣c)(n:H b=hX)(d:b∉ex):∃g,h1.get? b=hY {c with slots:=g}:=by
 by_cases f:b∈fs
 .show u.slot b c q n f d
 .show%[c.slots|u.keep b c q n f d]
def Un.trans(a:Un fs ex H H1 h h1)(b:Un fs ex H1 H2 h1 h2):Un fs ex H H2 h h2 where
 keep:=λc ob q n hc hx=>b.keep c ob (a.keep c ob q n hc hx) (a.free c ob q n hx) hc hx
 slot:=λc ob q n hc hx=>by
  let%[sl|e1]:=a.slot c ob q n hc hx;let%[sl'|e2]:=b.slot c _ e1 (a.free c ob q n hx) hc hx;show%[sl'|e2]
 free:=λc ob q n hx=>by
  let%[o'|e1]:=a.there c ob q hx;show b.free c o' e1 (a.free c ob q n hx) hx
 there:=λc ob q hx=>by
  let%[o'|e1]:=a.there c ob q hx;show b.there c o' e1 hx
 tups:=λc xs q=>b.tups c xs (a.tups c xs q)
 frzs:=λc ob xs q=>b.frzs c ob xs (a.frzs c ob xs q)
 tbls:=λc ps q=>by
  let%[m1|e1]:=a.tbls c ps q;let%[m2|e2]:=b.tbls c _ e1;show%[m1++m2|by rw[e2,SS]]
def Un.kept(k:∀b u,h.get? b∣u->h'.get? b∣u):Un fs ex H H h h':=
 %[λb c q _ _ _=>k b c q,λb c q _ _ _=>%[c.slots|k b c q],λ_ _ _ n _=>n,λb c q _=>%[c|k b c q],λ_ _ q=>q,λ_ _ _ q=>q|λ_ ps q=>%[#[]|by rw[q];simp]]
def Un.refl:Un fs ex H H h h:=Un.kept λ_ _ q=>q
def Un.laid(k:∀b u,h.get? b∣u->h'.get? b∣u)(hp:h.objs.size<=a)(hn:H a=hX):Un fs ex H (Qb H a o) h h' where
 keep:=λb u q _ _ _=>k b u q
 slot:=λb u q _ _ _=>%[u.slots|k b u q]
 free:=λb u q n _=>(ao (Zs (Zg (Zu q) hp)))▸n
 there:=λb u q _=>%[u|k b u q]
 tups:=λb xs q=>(ao (ax q hn))▸q
 frzs:=λb u xs q=>(ao (ax q hn))▸q
 tbls:=λb ps q=>%[#[]|by rw[ao (ax q hn),q];simp]
def Un.write(f:Mut (H x))(l:e=x\/H e∣.own x)(k:∀b u,b≠e->h.get? b∣u->h'.get? b∣u)(i:∃u,h'.get? e∣u):Un fs ex H (Qb H x o) h h':=by
 let j:∀b,H b=hX->b≠x:=λb n z=>by subst z;rw[n]at f;show f
 let g:∀b,H b=hX->b≠e:=λb n z=>by
  simp_all
 let c:∀b u,H b∣u-> ¬ Mut (hY u)->b≠x:=λb u q nm z=>!2
 show%[λb u q n _ _=>k b u (g b n) q,λb u q n _ _=>%[u.slots|k b u (g b n) q],λb u q n _=>(ao (j b n))▸n,λb u q _=>?_,
  λb xs q=>(ao (c b _ q λz=>z))▸q,λb u xs q=>(ao (c b _ q λz=>z))▸q|λb ps q=>%[#[]|by rw[ao (c b _ q λz=>z),q];simp]]
 by_cases d:b=e
 .simp_all
 .show%[u|k b u d q]
end
abbrev trk(h:yu)(H:Hp):hH kG:=(q7 h.objs.size).filter λa=>(H a).isSome
abbrev z4(h:yu)(H:Hp):yu:=hideAll h (trk h H)
def z5(h:yu)(H:Hp):(z4 h H).objs.size=h.objs.size:=PySem.W.hideAll_size _ _
def BB(e:h.get? b∣o)(n:H b=hX):(z4 h H).get? b∣o:=
 hideAll_get _ e λa=>by
  let q:=(on.mp a).2;rw[n]at q;simp at q
def EC(e:(z4 h H).get? b∣o):h.get? b∣o/\H b=hX:=by
 let a:=of_hideAll _ e;show%[a|?_];cases q:H b with
 | none=>rfl
 | some x=>
   let z:(z4 h H).get? b=hX:=PySem.W.hideAll_none _ (on.mpr %[wh.mpr (Zu a)|by simp[q]])
   grind
abbrev ED(g h:yu)(L:kG):ZE:=(q7 h.objs.size).filterMap λa=>if a=L\/(g.get? a).isSome=iv then hX else(h.get? a).map λo=>(a,o)
abbrev rest(g h:yu)(L d:kG):ZE:=(ED g h L).filter λp=>decide (p.1≠d)
structure Mod (K:ZA) (mg:ZC) (base:yu):Prop where
 kin:K.In base
 glob:base.Ns wy mg
 blt:∃mb,base.Ns UQ mb/\∀x:lx,x≠"__name__"->mb x=Mb x
 nolimit:base.NoLimit
structure Cx where
 prog:nX
 w:v0
 K:ZA
 mg:lx->lX ku
 base:yu
 A:vi
 N:ZB
 s₀:mu
 H₀:Hp
 env:Env
 outer:hH Env
 stack:hH Env
 ex:hH kG
 fn:lx->ri
 calm:ri
 pn:ZE
 xe:ku->mu->Prop
abbrev frs(l:hH Env):hH kG:=l.filterMap (·.frame)
noncomputable abbrev Cx.fs(X:Cx):hH kG:=frs X.outer
abbrev Vis(a:PY)(x:lx):Prop:=a.names.lookup x∣.local\/a.names.lookup x∣.cell\/a.names.lookup x∣.free
abbrev Loc(a:PY)(x:lx):Prop:=a.names.lookup x∣.local\/a.names.lookup x∣.cell
abbrev Look(env:Env)(h:yu)(m:ZC)(x:lx)(u:ku):Prop:=
 (env.kindOf x∣.local/\m x∣u)\/((env.kindOf x∣.cell\/env.kindOf x∣.free)/\∃c,env.cells.lookup x∣c/\h.IsCell c (hY u))
structure Cx.Ok (X:Cx):Prop where
 mod:Mod X.K X.mg X.base
 kind:X.env.scope.kind= .function
 glob:X.env.globals=wy
 blt:X.env.builtins=UQ
 above:X.s₀.heap.objs.size<=X.env.locals
 inj:∀x y c,X.env.cells.lookup x∣c->X.env.cells.lookup y∣c->x=y
 has:∀x,(X.env.kindOf x∣.cell\/X.env.kindOf x∣.free)->∃c,X.env.cells.lookup x∣c
 cab:∀x c,X.fn x=iv->X.env.cells.lookup x∣c->X.s₀.heap.objs.size<=c
 hd:X.calm=iv->X.A.handled=hX
 frames:X.A.frames∣X.stack
 stk:X.stack=X.outer\/(X.stack=X.env::X.outer/\X.env.frame∣X.env.locals)
 exf:∀b∈X.ex,b≠X.env.locals/\∀x c,X.env.cells.lookup x∣c->c≠b
 bs:∀b o,X.base.get? b∣o->X.s₀.heap.get? b∣o/\X.H₀ b=hX
 bsz:X.base.objs.size<=X.s₀.heap.objs.size
 noex:∀b o,X.base.get? b∣o->b∉X.ex
 exfs:∀b∈X.ex,b∉X.fs
 funs:X.s₀.heap.FunFrames X.base X.outer
 frf:∀b∈X.fs,X.H₀ b=hX
structure Qd (X:Cx) (ij:hH _) (σ:hH _) (H:Hp) (s:mu):Prop where
 ok:X.Ok
 os:s.os=X.s₀.os
 bare:OU s.gens
 base:Un X.fs X.ex X.H₀ H X.s₀.heap s.heap
 loc:∃m,s.heap.Ns X.env.locals m/\∀(i:kj) x v,X.N[i]?∣x->σ[i]?∣hY v->Vis X.env.scope x->∃u,aT v u/\Look X.env s.heap m x u
 cell:∀x c,X.env.cells.lookup x∣c->∃v,s.heap.IsCell c v
 free:H X.env.locals=hX
 freeC:∀x c,X.env.cells.lookup x∣c->H c=hX
 pin:∀p∈X.pn++ij,s.heap.get? p.1∣p.2/\H p.1=hX/\p.1≠X.env.locals/\p.1∉X.fs/\∀v,p.2.data≠ .cell v
 hok:HOk X.prog X.w H s.heap
 len:σ.length= ~~~X.N
section
variable{X:Cx}{ij:ZE}{σ:hH (lX V)}{H H':Hp}{s:mu}{h':yu}
def Cx.Ok.nofr(ok:X.Ok)(e:X.base.get? b∣o):b∉X.fs:=λa=>by
 let:=(ok.funs.mem a).1
 grind
def Qd.bs(I:Qd X ij σ H s):∀b o,X.base.get? b∣o->s.heap.get? b∣o/\H b=hX:=λb o e=>
 %[I.base.keep b o (I.ok.bs b o e).1 (I.ok.bs b o e).2 (I.ok.nofr e) (I.ok.noex b o e)|I.base.free b o (I.ok.bs b o e).1 (I.ok.bs b o e).2 (I.ok.noex b o e)]
def Qd.bk(I:Qd X ij σ H s):∀b o,X.base.get? b∣o->s.heap.get? b∣o:=λb o e=>(I.bs b o e).1
def Qd.mod(I:Qd X ij σ H s):Mod X.K X.mg X.base:=I.ok.mod
def Qd.kIn(I:Qd X ij σ H s):X.K.In s.heap:=I.ok.mod.kin.keeps I.bk
def Qd.lt(I:Qd X ij σ H s):X.env.locals<⇑s:=let⟨_,a,_⟩:=I.loc;a.lt
def Qd.sz(I:Qd X ij σ H s):X.s₀.heap.objs.size<=⇑s:=n7 I.ok.above (Ye I.lt)
def Qd.nofs(I:Qd X ij σ H s)(h:⇑s<=a):a∉X.fs:=λb=>by
 let%[_,o,c|_]:=I.ok.funs.mem b;show ow (Zg (Zu c) (n7 I.sz h)) (Xh _)
def Qd.cne(I:Qd X ij σ H s):∀x c,X.env.cells.lookup x∣c->c≠X.env.locals:=λx c e z=>by
 let%[v,o,d|f]:=I.cell x c e;let%[m,%[g,es,h,a,b|_]|_]:=I.loc
 grind
def Qd.funs(I:Qd X ij σ H s):s.heap.FunFrames X.base X.outer:=by
 let all:∀l,(∀b∈frs l,b∈X.fs)->X.s₀.heap.FunFrames X.base l->s.heap.FunFrames X.base l:=by
  intro l
  induction l with
  | nil=>intro _ _;trivial
  | cons env r g=>
    intro f h;let%[i,%[L,o,a,j,m|n]|p]:=h;let c:=f L (by unfold frs;rw[Y1,a];show Zm);let%[q|e]:=I.base.slot L o m (I.ok.frf L c) c λz=>I.ok.exfs L z c
    show%[i,%[L,_,a,j,e|n]|g (λb d=>f b (by unfold frs;rw[Y1,a];show Zk _ d)) p]
 show all X.outer (λ_ d=>d) I.ok.funs
def Qd.stack(I:Qd X ij σ H s):s.heap.FunFrames X.base X.stack:=by
 rcases I.ok.stk with e|⟨e,a⟩
 .show e▸I.funs
 .rw[e];let%[m,b|_]:=I.loc;show .cons (by rw[I.ok.kind];decide) a b (yu.get?_none_of_le (n7 I.ok.bsz I.ok.above)) I.funs
def Qd.stkSub(I:Qd X ij σ H s):∀b∈frs X.stack,b∈X.env.locals::X.fs:=λb a=>by
 rcases I.ok.stk with e|⟨e,c⟩
 .rw[e]at a;show Zk _ a
 .rw[e]at a;unfold frs at a;rw[Y1,c]at a;show a
def Qd.stkFree(I:Qd X ij σ H s):∀b∈frs X.stack,H b=hX:=λb a=>by
 rcases Yu.mp (I.stkSub b a)with e|a
 .show e▸I.free
 .let%[_,o,c|_]:=I.ok.funs.mem a;show I.base.free b o c (I.ok.frf b a) λz=>I.ok.exfs b z a
def Qd.step{T:Drawn}{ch:hH kG}(I:Qd X ij σ H s)
 (f:∀b∈ch,(b∈X.ex\/X.s₀.heap.objs.size<=b)/\b≠X.env.locals/\(∀x c,X.env.cells.lookup x∣c->c≠b)/\∀p∈X.pn++ij,p.1≠b)
 (keep:∀b o,b≠X.env.locals->b∉X.fs->b∉ch->s.heap.get? b∣o->H b=hX->h'.get? b∣o)
 (slot:∀b o,b≠X.env.locals->b∈X.fs->b∉ch->s.heap.get? b∣o->H b=hX->∃G,h'.get? b=hY {o with slots:=G}) (free:∀b o,b∉ch->s.heap.get? b∣o->H b=hX->H' b=hX)
 (there:∀b o,b∉ch->s.heap.get? b∣o->∃B,h'.get? b∣B)
 (tups:∀b xs,H b&&&xs->H' b&&&xs) (frzs:∀b o u,H b∣.frz o u->H' b∣.frz o u) (tbls:∀b ps,H b∣.tbl ps->∃more,H' b∣.tbl (ps++more))
 (U:∀m,s.heap.Ns X.env.locals m->h'.Ns X.env.locals m) (J:HOk X.prog X.w H' h') (Y:OU g'):
 Qd X ij σ H' {s with heap:=h',gens:=g',drawn:=T,toks:=t'}:=by
 let C:∀b o,X.s₀.heap.get? b∣o->b≠X.env.locals:=λb o e=>Zs (Zg (Zu e) I.ok.above)
 let j:∀b o,X.s₀.heap.get? b∣o->b∉X.ex->b∉ch:=λb o e a y=>by
  rcases(f b y).1 with z|z
  .show a z
  .show ow (Zg (Zu e) z) (Xh _)
 let g:∀x c,X.env.cells.lookup x∣c->∀v,s.heap.IsCell c v->h'.IsCell c v:=λx c e v ⟨o,A,L⟩=>by
  let h:=λz=>(f c z).2.2.1 x c e rfl
  by_cases N:c∈X.fs
  .let%[G|q]:=slot c o (I.cne x c e) N h A (I.freeC x c e);show%[_,q|L]
  .show%[o,keep c o (I.cne x c e) N h A (I.freeC x c e)|L]
 show%[I.ok,I.os,Y,%[λb o e n y a=>?_,λb o e n y a=>?_,λb o e n a=>?_,λb o e a=>?_,λb xs e=>tups b xs (I.base.tups b xs e),λb o xs e=>frzs b o xs (I.base.frzs b o xs e)|λb ps e=>?_],?_,λx c e=>?_,?_,λx c e=>?_,λp O=>?_,J|I.len]
 .show keep b o (C b o e) y (j b o e a) (I.base.keep b o e n y a) (I.base.free b o e n a)
 .let%[G|w]:=I.base.slot b o e n y a;let%[M|E]:=slot b _ (C b o e) y (j b o e a) w (I.base.free b o e n a);show%[M|E]
 .let%[B|w]:=I.base.there b o e a;show free b B (j b o e a) w (I.base.free b o e n a)
 .let%[B|w]:=I.base.there b o e a;show there b B (j b o e a) w
 .let%[m1|w]:=I.base.tbls b ps e;let%[m2|E]:=tbls b _ w;show%[m1++m2|by rw[E,SS]]
 .let%[m,hn|hl]:=I.loc;show%[m,U m hn|λi x v w E e3=>?_];let%[u,r|l]:=hl i x v w E e3;show%[u,r|?_];rcases l with l|⟨k,c,e,z⟩
  .show .inl l
  .show .inr %[k,c,e|g x c e _ z]
 .let%[v|z]:=I.cell x c e;show%[v|g x c e v z]
 .let%[m,%[o,_,_,A|_]|_]:=I.loc;show free _ o (λz=>(f _ z).2.1 rfl) A I.free
 .let%[v,o,A|L]:=I.cell x c e;show free c o (λz=>(f c z).2.2.1 x c e rfl) A (I.freeC x c e)
 .let%[e,n,ne,Q|d]:=I.pin p O;let h:=λz=>(f p.1 z).2.2.2 p O rfl
  show%[keep p.1 p.2 ne Q h e n,free p.1 p.2 h e n,ne,Q|d]
def Qd.un{t':kj}(I:Qd X ij σ H s)(u:Un X.fs [] H H' s.heap h')(c:HOk X.prog X.w H' h'):Qd X ij σ H' {s with heap:=h',toks:=t'}:=by
 let%[m,%[o,es,p,h|r]|_]:=id I.loc;let%[q|i]:=u.any h I.free ∅;show I.step (ch:=[]) (λ_ z=>nomatch z) (λb o _ d _ e n=>u.keep b o e n d ∅) (λb o _ d _ e n=>u.slot b o e n d ∅) (λb o _ e n=>u.free b o e n ∅) (λb o _ e=>u.there b o e ∅) u.tups u.frzs u.tbls (λv j=>by
  let%[w,f,g,a|l]:=j;rw[h]at a;cases a;show%[_,f,g,i|l]) c I.bare
def Qd.call{q:Drawn}{ch:hH kG}(I:Qd X ij σ H s)(u:Un (frs X.stack) ch H H' s.heap h')(g:HOk X.prog X.w H' h')(v:OU w)
 (d:∀b∈ch,(b∈X.ex\/X.s₀.heap.objs.size<=b)/\b≠X.env.locals/\(∀x c,X.env.cells.lookup x∣c->c≠b)/\∀p∈X.pn++ij,p.1≠b):
 Qd X ij σ H' {s with heap:=h',gens:=w,drawn:=q,toks:=t'}:=by
 let%[m,%[o,es,C,l|r]|_]:=id I.loc;let%[E|h]:=u.any l I.free λz=>(d _ z).2.1 rfl
 show I.step d (λb o h y a e n=>u.keep b o e n (λz=>(Yu.mp (I.stkSub b z)).elim h y) a) (λb o _ _ a e n=>u.any e n a) (λb o a e n=>u.free b o e n a) (λb o a e=>u.there b o e a) u.tups u.frzs u.tbls (λG A=>by
  let%[J,i,j,f|B]:=A;rw[l]at f;cases f;show%[_,i,j,h|B]) g v
def Qd.turned{it:kG}(I:Qd X ij σ H s)(k:∀b o,b≠it->s.heap.get? b∣o->h'.get? b∣o)(A:H it=hX)(f:it≠X.env.locals)
 (g:it∈X.ex\/X.s₀.heap.objs.size<=it) (h:∀x c,X.env.cells.lookup x∣c->c≠it) (i:∀p∈X.pn++ij,p.1≠it):Qd X ij σ H {s with heap:=h',toks:=t'}:=by
 let d:∀b u,H b∣u->b≠it:=λb u e z=>by lia
 show I.step (ch:=[it]) (λb j=>?_) (λb o _ _ a e _=>k b o (λz=>a (by simp[z])) e) (λb o _ _ a e _=>%[o.slots|k b o (λz=>a (by simp[z])) e]) (λ_ _ _ _ n=>n)
  (λb o a e=>%[o|k b o (λz=>a (by simp[z])) e]) (λ_ _ e=>e) (λ_ _ _ e=>e) (λb ps e=>%[#[]|by rw[e];simp]) (λm l=>?_) (λb u e=>?_) I.bare
 .let e:=↑j
  subst e;show%[g,f,h|i]
 .let%[o,es,w,y|r]:=l;show%[o,es,w,k _ o (J0 f) y|r]
 .show(I.hok b u e).stay (λc v a q=>k c v ?_ q) (λ_ q=>q) λ_ _ q=>q
  rcases a with z|z
  .show z▸d b u e
  .show d c _ z
def Qd.tok(I:Qd X ij σ H s)(t:kj):Qd X ij σ H {s with toks:=t}:=I.un Un.refl I.hok
def Qd.kept(I:Qd X ij σ H s)(k:∀b u,s.heap.get? b∣u->h'.get? b∣u):Qd X ij σ H {s with heap:=h',toks:=t'}:=I.un (Un.kept k) (I.hok.kept k)
def Qd.laid{a:kG}{o:HO}{t':kj}(I:Qd X ij σ H s)(k:∀b u,s.heap.get? b∣u->h'.get? b∣u)(c:⇑s<=a)(new:bQ X.prog X.w (Qb H a o) h' a o):
 Qd X ij σ (Qb H a o) {s with heap:=h',toks:=t'}:=I.un (Un.laid k c (I.hok.fresh c)) (I.hok.laid k c new)
def Qd.write(I:Qd X ij σ H s)(c:Mut (H x))(d:e=x\/H e∣.own x)(k:∀b u,b≠e->s.heap.get? b∣u->h'.get? b∣u)(a:∃u,h'.get? e∣u)
 (new:bQ X.prog X.w (Qb H x o) h' x o):Qd X ij σ (Qb H x o) {s with heap:=h',toks:=t'}:=I.un (Un.write c d k a) (I.hok.write c d k a new)
def Qd.pins_of(I:Qd X ij σ H s)(h:∀p∈a,s.heap.get? p.1∣p.2/\H p.1=hX/\p.1≠X.env.locals/\p.1∉X.fs/\∀v,p.2.data≠ .cell v):Qd X a σ H s:=
 %[I.ok,I.os,I.bare,I.base,I.loc,I.cell,I.free,I.freeC,λp b=>(Xk b).elim (λz=>I.pin p (Ys _ z)) (h p),I.hok|I.len]
def gN{N:ZB}(c:N.Nodup){i j:kj}{x:lx}(a:N[i]?∣x)(b:N[j]?∣x):i=j:=by
 let%[f|d]:=Xj a;let%[g|e]:=Xj b;show(hH.getElem_inj c).mp (d.trans e.symm)
def z6{A:vi}{E:ZD}{i:kj}{x:lx}{v:V}{u:ku}{Q:Q3->mu->Prop}(I:Qd X ij σ H s)(hN:X.N.Nodup)(hi:X.N[i]?∣x)(B:Loc X.env.scope x)(r:aT v u)
 (h:∀s',Qd X ij (σ.set i (hY v)) H s'->(∃a,vr a s.heap s'.heap/\(a=X.env.locals\/X.env.cells.lookup x∣a))->Q () s') (hf:X.fn x=iv\/X.env.scope.names.lookup x∣.local):sh M A (storeName X.env x u) Q E s:=by
 let%[m,hn|hl]:=id I.loc;let J:i<σ.length:=I.len▸(Xj hi).1;let cne:=I.cne;let g:∀{a:kG} {h':yu},(∃o,s.heap.get? a∣o/\H a=hX)->vr a s.heap h'->HOk X.prog X.w H h':=λ{a h'} ha f b ob e=>by
  let%[_,_|C]:=ha;show(I.hok b ob e).stay (λc w' w q=>(f.2 c ?_).trans q) (λ_ q=>q) λ_ _ q=>q
  rintro rfl;rcases w with rfl|w
  .rw[C]at e;cases e
  .rw[C]at w;cases w
 rcases B with L|L
 .show wpAny_storeName_local L hn (λh' ae f=>?_) (by rw[I.ok.kind];rfl);let%[oL,_,_,ag|_]:=id hn;show h _ %[I.ok,I.os,I.bare,%[λb o e n N B=>?_,λb o e n N B=>?_,I.base.free,λb o e B=>?_,I.base.tups,I.base.frzs|I.base.tbls],%[_,ae|λj y v' l G e3=>?_],λy c e=>?_,I.free,I.freeC,λp hp=>?_,g %[oL,ag|I.free] f|by simpa using I.len] %[_,f|.inl rfl]
  .show(f.2 b (Zs (Zg (Zu e) I.ok.above))).trans (I.base.keep b o e n N B)
  .let%[sl|l]:=I.base.slot b o e n N B;show%[sl|(f.2 b (Zs (Zg (Zu e) I.ok.above))).trans l]
  .let%[o'|l]:=I.base.there b o e B;show%[o'|(f.2 b (Zs (Zg (Zu e) I.ok.above))).trans l]
  .by_cases O:j=i
   .subst O;rw[hi]at l;cases l;rw[RX J]at G;cases G;show%[u,r|.inl %[L|by simp]]
   .rw[Pd (J0 O)]at G;let%[u',r'|q]:=hl j y v' l G e3;show%[u',r'|?_];rcases q with⟨k,e⟩|⟨k,c,e,z⟩
    .show .inl %[k|?_];let:y≠x:=λe=>O (gN hN l (e▸hi))
     simp[this,e]
    .show .inr %[k,c,e|z.sameBut f (cne y c e)]
  .let%[w'|z]:=I.cell y c e;show%[w'|z.sameBut f (cne y c e)]
  .let%[e,n,ne,nf|d]:=I.pin p hp;show%[(f.2 p.1 ne).trans e,n,ne,nf|d]
 .let T:X.fn x=iv:=by
   rcases hf with z|z
   .show z
   .rw[z]at L;cases L
  let%[c|w]:=I.ok.has x (.inl L);let%[w'|z]:=I.cell x c w;show wpAny_storeName_cell I.ok.kind L w z (λh' U f=>?_);let%[oc,Y|ab]:=id z;show h _ %[I.ok,I.os,I.bare,%[λb o e n N B=>?_,λb o e n N B=>?_,I.base.free,λb o e B=>?_,I.base.tups,I.base.frzs|I.base.tbls],%[m,hn.sameBut f (J0 (cne x c w))|λj y v' l G e3=>?_],λy c' e=>?_,I.free,I.freeC,λp hp=>?_,g %[oc,Y|I.freeC x c w] f|by simpa using I.len] %[c,f|.inr w]
  .show(f.2 b (Zs (Zg (Zu e) (I.ok.cab x c T w)))).trans (I.base.keep b o e n N B)
  .let%[sl|l]:=I.base.slot b o e n N B;show%[sl|(f.2 b (Zs (Zg (Zu e) (I.ok.cab x c T w)))).trans l]
  .let%[o'|l]:=I.base.there b o e B;show%[o'|(f.2 b (Zs (Zg (Zu e) (I.ok.cab x c T w)))).trans l]
  .by_cases O:j=i
   .subst O;rw[hi]at l;cases l;rw[RX J]at G;cases G;show%[u,r|.inr %[.inl L,c,w|U]]
   .rw[Pd (J0 O)]at G;let%[u',r'|q]:=hl j y v' l G e3;show%[u',r'|?_];rcases q with q|⟨k,c',e,z'⟩
    .show .inl q
    .show .inr %[k,c',e|z'.sameBut f ?_];rintro rfl;show O (gN hN l (I.ok.inj _ _ _ e w▸hi))
  .by_cases ac:c'=c
   .subst ac;show%[_|U]
   .let%[w2|z2]:=I.cell y c' e;show%[w2|z2.sameBut f ac]
  .let%[e,n,ne,nf|d]:=I.pin p hp;show%[(f.2 p.1 ?_).trans e,n,ne,nf|d];intro q;rw[q,Y]at e;show d w' ((Za e)▸ab)
def kz(I:Qd X ij σ H s)(a:X.N.Nodup)(hi:X.N[i]?∣x)(b:Loc X.env.scope x)(r:aT v u)
 (h:∀s',Qd X ij (σ.set i (hY v)) H s'->Q () s') (c:X.fn x=iv\/X.env.scope.names.lookup x∣.local):sh M A (storeName X.env x u) Q E s:=
 z6 I a hi b r (λs' d _=>h s' d) c
def Qd.call'(I:Qd X ij σ H s)(e:s'.os=s.os)(u:Un (frs X.stack) ch H H' s.heap s'.heap)(a:HOk X.prog X.w H' s'.heap)(f:OU s'.gens)
 (d:∀b∈ch,(b∈X.ex\/X.s₀.heap.objs.size<=b)/\b≠X.env.locals/\(∀x c,X.env.cells.lookup x∣c->c≠b)/\∀p∈X.pn++ij,p.1≠b):Qd X ij σ H' s':=by
 let%[h',g,h,t'|i]:=s';subst e;show I.call u a f d
end
noncomputable abbrev XK:=ku->ZI->Hp->Prop
noncomputable abbrev St:=hH (lX V)
noncomputable abbrev VK:=V->Hp->Prop
noncomputable abbrev TE:=St->Hp->VK->Prop
noncomputable abbrev TT:=St->Hp->(ri->Hp->Prop)->Prop
noncomputable abbrev TA:=St->Hp->(hH V->Hp->Prop)->Prop
structure ic where
 nx:St->Hp->Prop
 rt:VK
 bk:St->Hp->Prop:=λ_ _=>KZ
 ct:St->Hp->Prop:=λ_ _=>KZ
noncomputable abbrev TS:=ic->St->Hp->Prop
abbrev EP(X:Cx)(ij:ZE)(b:St)(Q:VK)(u:ku)(s':mu):Prop:=∃v a,Qd X ij b a s'/\aT v u/\Q v a
abbrev TP(X:Cx)(ij:ZE)(c:St)(Q:ri->Hp->Prop)(b:ri)(s':mu):Prop:=∃a,Qd X ij c a s'/\Q b a
abbrev AP(X:Cx)(ij:ZE)(b:St)(Q:hH V->Hp->Prop)(us:ZF)(s':mu):Prop:=∃vs a,Qd X ij b a s'/\aI vs us/\Q vs a
abbrev SP(X:Cx)(ij:ZE)(D:ic)(f:Flow)(s':mu):Prop:=
 match f with
 | .next=>∃a b,Qd X ij a b s'/\D.nx a b
 | .brk=>∃a b,Qd X ij a b s'/\D.bk a b
 | .cont=>∃a b,Qd X ij a b s'/\D.ct a b
 | .ret u=>∃v a b,Qd X ij a b s'/\aT v u/\D.rt v b
abbrev PE(X:Cx)(e:Ds)(t:TE):Prop:=
 ∀ij s (a:St) H Q,Qd X ij a H s->t a H Q->(X⁻¹) (LB e X.env) (EP X ij a Q) X.xe s
abbrev PT(X:Cx)(e:Ds)(t:TT):Prop:=
 ∀ij s (a:St) H Q,Qd X ij a H s->t a H Q->(X⁻¹) (Tg e X.env (LB e X.env)) (TP X ij a Q) X.xe s
abbrev PW(X:Cx)(e:Ds)(t:TT):Prop:=
 ∀a ij s (b:St) H Q,Qd X ij b H s->t b H Q->(X⁻¹) (Tg e X.env a) (TP X ij b Q) X.xe s
def PW.pt{X:Cx}(h:PW X e t):PT X e t:=h _
abbrev PA(X:Cx)(es:hH Ds)(t:TA):Prop:=
 ∀pos ij s (a:St) H Q,Qd X ij a H s->t a H Q->(X⁻¹) (spliced (Mm pos (vj es X.env))) (AP X ij a Q) X.xe s
abbrev PS(X:Cx)(st:I0)(t:TS):Prop:=
 ∀ij s (a:St) H D,Qd X ij a H s->t D a H->(X⁻¹) (exec st X.env) (SP X ij D) X.xe s
abbrev PSs(X:Cx)(st:hH I0)(t:TS):Prop:=
 ∀ij s (a:St) H D,Qd X ij a H s->t D a H->(X⁻¹) (execs st X.env) (SP X ij D) X.xe s
def thn{b:Type}{t:Sem b}{Q c:b->mu->Prop}{M:Model}{A:vi}{E:ZD}{s:mu}(h:sh M A t Q E s)(d:∀a s,Q a s->c a s):sh M A t c E s:=Lb h d λ_ _ x=>x
def thP{c d:Type}{t:Sem c}{X:Cx}{ij:ZE}{e:St}{R:d->c->Prop}{Q:d->Hp->Prop}{f:c->mu->Prop}{M:Model}{A:vi}{E:ZD}{s:mu}(h:sh M A t (λa s=>∃v b,Qd X ij e b s/\R v a/\Q v b) E s)(g:∀a s v b,Qd X ij e b s->R v a->Q v b->f a s):sh M A t f E s:=Lb h (λa s ⟨v,b,i,r,q⟩=>g a s v b i r q) λ_ _ x=>x
def thT{c:Type}{t:Sem c}{X:Cx}{ij:ZE}{d:St}{Q:c->Hp->Prop}{e:c->mu->Prop}{M:Model}{A:vi}{E:ZD}{s:mu}(h:sh M A t (λa s=>∃b,Qd X ij d b s/\Q a b) E s)(f:∀a s b,Qd X ij d b s->Q a b->e a s):sh M A t e E s:=Lb h (λa s ⟨b,i,q⟩=>f a s b i q) λ_ _ x=>x
section
variable{X:Cx}
abbrev asI(x:V)(f:pp->Prop):Prop:=match x with| .int i=>f i|_=>KZ
abbrev asB(x:V)(f:ri->Prop):Prop:=match x with| .bl i=>f i|_=>KZ
abbrev asR(x:V)(f:kG->Prop):Prop:=match x with| .ref i=>f i|_=>KZ
def JL:asI (.int i) f=f i:=rfl
def JM:asB (.bl i) f=f i:=rfl
def JN:asR (.ref i) f=f i:=rfl
def cX{x:V}{f:pp->Prop}(h:asI x f):∃i,x= .int i/\f i:=by
 cases x<;> first|show⟨_,rfl,h⟩|show h.elim
def uX{x:V}{f:ri->Prop}(h:asB x f):∃i,x= .bl i/\f i:=by
 cases x<;> first|show⟨_,rfl,h⟩|show h.elim
def aM{x:V}{f:kG->Prop}(h:asR x f):∃i,x= .ref i/\f i:=by
 cases x<;> first|show⟨_,rfl,h⟩|show h.elim
abbrev asS(x:V)(f:lx->Prop):Prop:=match x with| .str i=>f i|_=>KZ
def JO:asS (.str i) f=f i:=rfl
def fj{x:V}{f:lx->Prop}(h:asS x f):∃i,x= .str i/\f i:=by
 cases x<;> first|show⟨_,rfl,h⟩|show h.elim
abbrev cJ(xs:hH V)(f:V->Prop):Prop:=match xs with|[x]=>f x|_=>KZ
def GZ:cJ [x] f=f x:=rfl
def bF{xs:hH V}{f:V->Prop}(h:cJ xs f):∃x,xs=[x]/\f x:=by
 rcases xs with _|⟨x,_|⟨y,r⟩⟩<;> first|show⟨_,rfl,h⟩|show h.elim
abbrev lP(xs:hH V)(f:V->V->Prop):Prop:=match xs with|[x,y]=>f x y|_=>KZ
def G0:lP [x,y] f=f x y:=rfl
def jY{xs:hH V}{f:V->V->Prop}(h:lP xs f):∃x y,xs=[x,y]/\f x y:=by
 rcases xs with _|⟨x,_|⟨y,_|⟨z,r⟩⟩⟩<;> first|show⟨_,_,rfl,h⟩|show h.elim
abbrev EE(xs:hH V)(p:Prop):Prop:=match xs with|[]=>p|_=>KZ
def G1:EE [] p=p:=rfl
def BC{xs:hH V}{p:Prop}(h:EE xs p):xs=[]/\p:=by
 cases xs<;> first|show⟨rfl,h⟩|show h.elim
abbrev lQ:kj->TE
 | 0,hY v::_,H,Q=>Q v H
 | i+1,_::a,H,Q=>lQ i a H Q
 | _,_,_,_=>KZ
def G3:lQ 0 (hY v::a) H Q=Q v H:=rfl
def G4:lQ (i+1) (o::a) H Q=lQ i a H Q:=rfl
def w8:∀{i:kj} {a:St},lQ i a H Q->∃v,a[i]?∣hY v/\Q v H
 | 0,hY v::_,h=>%[v,rfl|h]
 | 0,hX::_,h=>h.elim
 | 0,[],h=>h.elim
 | _+1,[],h=>h.elim
 | i+1,_::a,h=>w8 (i:=i) h
abbrev tC(v:V):TE:=λ_ H Q=>Q v H
def BD(n:X.N[i]?∣x)(o:Vis X.env.scope x)(f:(x==("__debug__":lx))=jg)(g:(x==("__classdict__":lx))=jg):PE X (.Name x pos) (lQ i):=by
 intro ij s p H Q I h;let%[v,e|h]:=w8 h;let%[m,q|w]:=I.loc;let%[u,r|l]:=w i x v n e o;let b:EP X ij p Q u s:=%[v,H,I,r|h]
 rcases l with⟨d,y⟩|⟨d,c,j,a⟩
 .show UI (wpAny_loadName_local I.ok.kind d q y b) f
 .rcases d with d|d
  .show UI (wpAny_loadName_cell I.ok.kind d j a b) f
  .show UI (wpAny_loadName_free I.ok.kind d j a b g) f
def G5{i j pos}:PE X (.Constant (.int i) j pos) (tC (.int i)):=λ_ _ _ H _ I h=>wpAny_Constant_int %[.int i,H,I.tok _,%[_|rfl]|h]
def JP{b j pos}:PE X (.Constant (.bool b) j pos) (tC (.bl b)):=λ_ _ _ H _ I h=>Constant_bool %[.bl b,H,I,rfl|h]
def G6{j pos}:PE X (.Constant .none j pos) (tC .non):=λ_ _ _ H _ I h=>Constant_none %[.non,H,I,rfl|h]
def G7{x j pos}:PE X (.Constant (.str x) j pos) (tC (.str x)):=λ_ _ _ H _ I h=>Calls.Constant_str %[.str x,H,I.tok _,%[_|rfl]|h]
abbrev Gl(X:Cx)(x:lx):Prop:=X.env.kindOf x∣.globalImplicit
def ig(I:Qd X ij d H s)(a:Gl X x)(b:X.mg x∣u)(h:Q u s)
 (c:(x==("__debug__":lx))=jg):(X⁻¹) (LB (.Name x pos) X.env) Q E s:=
 Q9 I.ok.kind a (Calls.loadGlobal_global (I.ok.glob▸I.mod.glob.keeps I.bk) b h) c
def ii(I:Qd X ij i H s)(a:Gl X x)(b:X.mg x=hX)(c:Mb x∣u)(h:Q u s)
 (d:x≠"__name__":=by decide) (e:(x==("__debug__":lx))=jg:=by decide):(X⁻¹) (LB (.Name x pos) X.env) Q E s:=by
 let%[j,f|g]:=I.mod.blt;show Q9 I.ok.kind a (Calls.loadGlobal_builtin (I.ok.glob▸I.mod.glob.keeps I.bk) b (I.ok.blt▸f.keeps I.bk) ((g x d).trans c) h) e
def EF(a:Gl X x)(b:X.mg x∣u)(r:aT v u)(c:(x==("__debug__":lx))=jg):PE X (.Name x pos) (tC v):=
 λ_ _ _ H _ I h=>ig I a b %[v,H,I,r|h] c
def EG(a:Gl X x)(b:X.mg x=hX)(c:Mb x∣u)(r:aT v u)(d:x≠"__name__")(e:(x==("__debug__":lx))=jg):PE X (.Name x pos) (tC v):=
 λ_ _ _ H _ I h=>ii I a b c %[v,H,I,r|h] d e
variable{a b:Ds}{ta tb:TE}{pos:Pos}
abbrev PC(X:Cx)(op:Uj)(a b:Ds)(t:TE):Prop:=
 ∀ij s (e:St) H Q,Qd X ij e H s->t e H Q->
  (X⁻¹) (LB a X.env) (λv c=>(X⁻¹) (LB b X.env) (λu d=>(X⁻¹) (qq op v u) (EP X ij e Q) X.xe d) X.xe c) X.xe s
def JQ(b:Ds)(h:op≠ .In)(e:op≠ .NotIn):LV op b=jg:=by
 let c:(op==Uj.In)=jg:=by lia
 let d:(op==Vn)=jg:=by lia
 cases b<;> simp[LV,c,d]
abbrev tB(t:TE):TT:=λd H Q=>t d H λx e=>asB x λc=>Q c e
def BE{op:Uj}(h:PC X op a b t)(e:LV op b=jg):PT X (.Compare a [op] [b] pos) (tB t):=by
 intro ij s f H Q I hw;show Tz (thn (h ij s f H _ I hw) λv n e=>thn e λu o g=>thn g λc p ⟨x,i,j,l,m⟩=>?_) e;let%[d,rfl|q]:=uX m;cases l;show LZ %[i,j|q]
variable{tA tB':TT}{rest:hH Ds}
abbrev EH(t u:TT):TT:=λd H Q=>t d H λc e=>if c=iv then u d e Q else Q jg e
abbrev tOr(t u:TT):TT:=λd H Q=>t d H λc e=>if c=iv then Q iv e else u d e Q
abbrev G8(t:TT):TT:=λd H Q=>t d H λc e=>Q (!c) e
def EI(d:PT X a tA):PW X (.BoolOp .And [a] pos) tA:=by
 intro g ij s f H Q I h;show isTrue_and (thn (d ij s f H Q I h) λc i e=>?_);cases c with
 | true=>show isTrue_and_nil e
 | false=>show e
def G9(d:PT X a tA):PW X (.BoolOp .Or [a] pos) tA:=by
 intro g ij s f H Q I h;show isTrue_or (thn (d ij s f H Q I h) λc i e=>?_);cases c with
 | false=>show isTrue_or_nil e
 | true=>show e
def Hf(i:PT X a tA)(j:PW X (.BoolOp .And (b::rest) pos) tB'):PW X (.BoolOp .And (a::b::rest) pos) (EH tA tB'):=by
 intro l ij s d H Q I h;show isTrue_and (thT (i ij s d H _ I h) λc m e f g=>?_);cases c with
 | true=>show j l ij m d e Q f g
 | false=>show%[e,f|g]
def JR(i:PT X a tA)(j:PW X (.BoolOp .Or (b::rest) pos) tB'):PW X (.BoolOp .Or (a::b::rest) pos) (tOr tA tB'):=by
 intro l ij s d H Q I h;show isTrue_or (thT (i ij s d H _ I h) λc m e f g=>?_);cases c with
 | true=>show%[e,f|g]
 | false=>show j l ij m d e Q f g
def Hg(c:PT X a tA):PT X (.UnaryOp .Not a pos) (G8 tA):=by
 intro ij s d H Q I h;show isTrue_not (c ij s d H _ I h)
abbrev BF(ta tb:TE):TE:=λd H Q=>ta d H λx e=>asB x λc=>if c=iv then tb d e Q else Q (.bl jg) e
abbrev Hh(ta tb:TE):TE:=λd H Q=>ta d H λx e=>asB x λc=>if c=iv then Q (.bl iv) e else tb d e Q
def Hj{op}(h:PE X a t):PE X (.BoolOp op [a] pos) t:=λij s c H Q I hw=>BoolOp_one (h ij s c H Q I hw)
def Hk(i:PE X a ta)(j:PE X (.BoolOp .And (b::rest) pos) tb):PE X (.BoolOp .And (a::b::rest) pos) (BF ta tb):=by
 intro ij s e H Q I h;show BoolOp_and (thP (i ij s e H _ I h) λv l x f g m d=>?_);let%[c,rfl|d]:=uX d;cases m;show LZ ?_;cases c with
 | true=>show j ij l e f Q g d
 | false=>show%[.bl jg,f,g,ρ|d]
def JS(i:PE X a ta)(j:PE X (.BoolOp .Or (b::rest) pos) tb):PE X (.BoolOp .Or (a::b::rest) pos) (Hh ta tb):=by
 intro ij s e H Q I h;show BoolOp_or (thP (i ij s e H _ I h) λv l x f g m d=>?_);let%[c,rfl|d]:=uX d;cases m;show LZ ?_;cases c with
 | false=>show j ij l e f Q g d
 | true=>show%[.bl iv,f,g,ρ|d]
end
abbrev Qc(K:ZA)(H:Hp)(a:kG)(xs:hH V):Prop:=
 Rd H a (.lst xs)\/
  ∃o its n,K.lookup a∣o/\o.cls= .type "list"/\o.dict=hX/\o.data= .seq its n/\its.size<=mv/\aI xs its.toList
abbrev SqT(K:ZA)(H:Hp)(a:kG)(xs:hH V):Prop:=
 Rd H a (.tup xs)\/
  ∃o its n,K.lookup a∣o/\o.cls= .type "tuple"/\o.data= .seq its n/\its.size<=mv/\aI xs its.toList
abbrev absV:ku->lX V
 | .none=>hY .non
 | .bool b=>hY (.bl b)
 | .int i _=>hY (.int i)
 | .str x _=>hY (.str x)
 | .bytes b _=>hY (.byt b)
 | .float b _=>hY (.flt b)
 | .ref a=>hY (.ref a)
 | .type n=>hY (.ty n)
 | _=>hX
def aT.abs(r:aT x u):absV u∣x:=by
 cases x with
 | non=>cases r;rfl
 | bl _=>cases r;rfl
 | int _=>have%[t|rfl]:=r;rfl
 | str _=>have%[t|rfl]:=r;rfl
 | byt _=>have%[t|rfl]:=r;rfl
 | flt _=>have%[t|rfl]:=r;rfl
 | ref _=>cases r;rfl
 | ty _=>cases r;rfl
def aT.inj(r:aT x u)(q:aT y u):x=y:=Za (r.abs.symm.trans q.abs)
def aI.inj:∀{xs ys:hH V} {us:ZF},aI xs us->aI ys us->xs=ys
 | _,_,_,.nil,.nil=>rfl
 | _,_,_,.cons r t,.cons a t'=>by rw[r.inj a,aI.inj t t']
section
#version
variable{a:kG}{xs ys:hH V}
def Qc.of{K:ZA}(h:H a<*xs):Qc K H a xs:= .inl (.inl h)
def SqT.of{K:ZA}(h:H a&&&xs):SqT K H a xs:= .inl (.inl h)
def Qd.list(I:Qd X ij σ H s)(h:Qc X.K H a xs):∃its:ZF,aI xs its/\PlainL s.heap a its.toArray/\ ~~~xs<=mv:=by
 rcases h with h|⟨o,its,n,b,c,d,f,g,r⟩
 .let%[z,its,n,r|e]:=h.ok I.hok;show%[its,r,%[_,n,e,ρ,ρ|ρ]|z]
 .show%[its.toList,r,%[o,n,I.kIn a o b,c,d|f]|?_];let e:= ~~~r
  simp_all
def Qd.tuple(I:Qd X ij σ H s)(h:SqT X.K H a xs):∃its:ZF,aI xs its/\IsTup s.heap a its.toArray/\ ~~~xs<=mv:=by
 rcases h with h|⟨o,its,n,b,c,d,f,r⟩
 .let%[z,its,r|p]:=h.ok I.hok;show%[its,r,p|z]
 .show%[its.toList,r,%[o,I.kIn a o b,c,n|d]|?_];let e:= ~~~r;simp only[Zb]at e
  lia
def Qd.list_inj(I:Qd X ij σ H s)(h:Qc X.K H a xs)(h':Qc X.K H a ys):xs=ys:=by
 let%[its,r,%[o,n,e,_,_|d]|_]:=I.list h;let%[its',f,%[i,j,b,_,_|c]|_]:=I.list h';rw[e]at b;cases b;rw[d]at c;injection c with g _
 let:=tI U2 g;subst this;show r.inj f
def Qd.tuple_inj(I:Qd X ij σ H s)(h:SqT X.K H a xs)(h':SqT X.K H a ys):xs=ys:=by
 let%[its,r,%[o,e,_,n|d]|_]:=I.tuple h;let%[its',f,%[i,b,_,j|c]|_]:=I.tuple h';rw[e]at b;cases b;rw[d]at c;injection c with g _
 let:=tI U2 g;subst this;show r.inj f
end
noncomputable abbrev Cx.wish(X:Cx)(E:ZD):Cx:={X with xe:=E}
noncomputable abbrev Cx.nox(X:Cx):Cx:=X.wish λ_ _=>KZ
def Cx.Ok.wish{X:Cx}(ok:X.Ok)(E:ZD):(X.wish E).Ok:=
 %[ok.mod,ok.kind,ok.glob,ok.blt,ok.above,ok.inj,ok.has,ok.cab,ok.hd,ok.frames,ok.stk,ok.exf,ok.bs,ok.bsz,ok.noex,ok.exfs,ok.funs|ok.frf]
def Cx.Ok.unwish{X:Cx}{E:ZD}(ok:(X.wish E).Ok):X.Ok:=
 %[ok.mod,ok.kind,ok.glob,ok.blt,ok.above,ok.inj,ok.has,ok.cab,ok.hd,ok.frames,ok.stk,ok.exf,ok.bs,ok.bsz,ok.noex,ok.exfs,ok.funs|ok.frf]
section
#version
variable{E:ZD}
def Qd.wish(I:Qd X ij σ H s)(E:ZD):Qd (X.wish E) ij σ H s:=%[I.ok.wish E,I.os,I.bare,I.base,I.loc,I.cell,I.free,I.freeC,I.pin,I.hok|I.len]
def Qd.unwish(I:Qd (X.wish E) ij σ H s):Qd X ij σ H s:=%[I.ok.unwish,I.os,I.bare,I.base,I.loc,I.cell,I.free,I.freeC,I.pin,I.hok|I.len]
def SP.unwish{D:ic}{f:Flow}{s':mu}(h:SP (X.wish E) ij D f s'):SP X ij D f s':=by
 cases f with
 | next=>have%[a,b,I|q]:=h;show%[a,b,I.unwish|q]
 | brk=>have%[a,b,I|q]:=h;show%[a,b,I.unwish|q]
 | cont=>have%[a,b,I|q]:=h;show%[a,b,I.unwish|q]
 | ret u=>have%[v,a,b,I,r|q]:=h;show%[v,a,b,I.unwish,r|q]
def PSs.nox{st:hH I0}(h:PSs X.nox st t):PSs X st t:=λij s σ H D I hw=>
 Lb (h ij s σ H D (I.wish _) hw) (λ_ _ q=>q.unwish) λ_ _ z=>Lh z
end
section
variable{X:Cx}{st:I0}{rest:hH I0}{t u:TS}{e:Ds}{te:TE}{pos:Pos}
abbrev BG:TS:=λD a H=>D.nx a H
abbrev aU(t u:TS):TS:=λD a H=>t {D with nx:=u D} a H
def EJ:PSs X [] BG:=λ_ _ a H _ I h=>Nf %[a,H,I|h]
def BH(b:PS X st t)(c:PSs X rest u):PSs X (st::rest) (aU t u):=by
 intro ij s d H D I h;show Vs (thn (b ij s d H _ I h) λf g q=>?_);cases f with
 | next=>
   let%[a,i,j|q]:=q;show c ij g a i D j q
 | ret v=>show q
 | brk=>show q
 | cont=>show q
def EK(a:PS X st t):PSs X [st] t:=by
 intro ij s b H D I h;show Vs (thn (a ij s b H D I h) λf c q=>?_);cases f with
 | next=>show Nf q
 | ret v=>show q
 | brk=>show q
 | cont=>show q
def Qd.quiet{ij:hH _}{a:St}{H:Hp}{s:mu}(I:Qd X ij a H s):interactive X.env=jg:=by simp[interactive,I.ok.kind]
abbrev mE(te:TE):TS:=λD a H=>te a H λ_ b=>D.nx a b
def EM(b:PE X e te)(c:NA e hX pos.line X.env=pure jg):PS X (.Expr e pos) (mE te):=by
 intro ij s a H D I h;show wpAny_Expr_any (thP (b ij s a H _ I h) λv i x d f j g=>%[a,d,f|g]) I.quiet c
abbrev jH(te:TE):TS:=λD a H=>te a H D.rt
def Hl(b:PE X e te):PS X (.Return (hY e) pos) (jH te):=by
 intro ij s a H D I h;show wpAny_Return_some (thP (b ij s a H _ I h) λv i x c d f g=>%[x,a,c,d,f|g])
abbrev jZ(c:TT)(t u:TS):TS:=λD a H=>c a H λb d=>if b=iv then t D a d else u D a d
def JT{c:Ds}{a b:hH I0}(m:PT X c n)(o:PSs X a t)(p:PSs X b u):PS X (.If c a b pos) (jZ n t u):=by
 intro ij s f H D I h;show wpAny_If (thT (m ij s f H _ I h) λd g i j l=>?_);cases d with
 | true=>show o ij g f i D j l
 | false=>show p ij g f i D j l
abbrev sZ:TS:=λ_ _ _=>KZ
def BI:PS X st sZ:=λ_ _ _ _ _ _ h=>h.elim
def z7:PSs X a sZ:=λ_ _ _ _ _ _ h=>h.elim
end
noncomputable abbrev TG:=V->St->Hp->(St->Hp->Prop)->Prop
noncomputable abbrev TGs:=hH V->St->Hp->(St->Hp->Prop)->Prop
abbrev PG(X:Cx)(a:Ds)(t:TG):Prop:=
 ∀ij s (c:St) H v u Q,Qd X ij c H s->aT v u->t v c H Q->
  (X⁻¹) (assign a X.env u) (λ_ s'=>∃b d,Qd X ij b d s'/\Q b d) X.xe s
abbrev PGs(X:Cx)(ts:hH Ds)(t:TGs):Prop:=
 ∀ij s (b:St) H vs us Q,Qd X ij b H s->aI vs us->t vs b H Q->
  (X⁻¹) (assignInOrder ((MO ts X.env)\2) us) (λ_ s'=>∃a c,Qd X ij a c s'/\Q a c) X.xe s
section
variable{X:Cx}{pos:Pos}
abbrev kA(i:kj):TG:=λv a H Q=>Q (a.set i (hY v)) H
def EN(a:X.N.Nodup)(hi:X.N[i]?∣x)(b:Loc X.env.scope x)(c:X.fn x=iv\/X.env.scope.names.lookup x∣.local):PG X (.Name x pos) (kA i):=by
 intro ij s e H v u Q I r h;show U7 (kz I a hi b r (λs' d=>%[_,H,d|h]) c)
abbrev Hq:TGs:=λvs a H Q=>vs=[]/\Q a H
abbrev BJ(t:TG)(u:TGs):TGs:=λvs b H Q=>∃v r,vs=v::r/\t v b H λa c=>u r a c Q
def EO:PGs X [] Hq:=by
 intro ij s a H vs us Q I r h;let%[e|h]:=h;show assignInOrder_nil %[a,H,I|h]
def BK{e:Ds}{u:TGs}(b:PG X e t)(c:PGs X es u)
 (d:(MO (e::es) X.env)\2=assign e X.env::(MO es X.env)\2):PGs X (e::es) (BJ t u):=by
 intro ij s f H vs us Q I r h;let%[v,n,g|h]:=h;subst g;cases r with
 | cons r rr=>
   rw[d];show assignInOrder_cons (thn (b ij s f H _ _ _ I r h) λ_ i ⟨a,j,l,m⟩=>c ij i a j _ _ Q l rr m)
abbrev EQ(K:ZA)(n:kj)(t:TGs):TG:=λv b H Q=>asR v λa=>∃xs,SqT K H a xs/\ ~~~xs=n/\t xs b H Q
def Hr(f:X.calm=iv)(h:PGs X es t)
 (g: ~~~(MO es X.env)=n) (c:(MO es X.env).findIdx? (·.1)=hX):PG X (.Tuple es k pos) (EQ X.K n t):=by
 intro ij s i H v u Q I r hw;let%[a,j,xs,l,m|hw]:=aM hw;clear ‹EQ _ _ _ _ _ _ _›;subst j;cases r;let%[its,d,p|w]:=I.tuple l;show assign_Tuple_tuple (I.ok.hd f) p (by simp[g,<-m,~~~d]) c λh' q=>h ij _ i H xs _ Q (I.kept λb o e=>q b o (Zs (Zu e)) e) (d) hw
abbrev qo(b:TE)(g:TG):TS:=λD a H=>b a H λx c=>g x a c D.nx
def Hs{a e:Ds}{g:TG}(c:PE X e d)(f:PG X a g)(i:swapsWithSole [a] e pos.line X.env=pure jg)(hw:swappedStores [a] e X.env=pure hX)
 (j:(MO [a] X.env)\2=[assign a X.env]):PS X (.Assign [a] e pos) (qo d g):=by
 intro ij s b H D I h;show wpAny_Assign_stores (thP (c ij s b H _ I h) λv l x m n o p=>?_) i hw;rw[j];show thn (f ij l b m x v _ n o p) λ_ r q=>q
def Ht{i:kj}{x:lx}{e:Ds}(b:X.N.Nodup)(hi:X.N[i]?∣x)(c:Loc X.env.scope x)(d:PE X e f)(g:NA e (hY (.Name x a)) pos.line X.env=pure jg)(j:X.fn x=iv\/X.env.scope.names.lookup x∣.local):
 PS X (.Assign [.Name x a] e pos) (qo f (kA i)):=by
 intro ij s l H D I h;show wpAny_Assign_Name (thP (d ij s l H _ I h) λv r y m n o p=>kz n b hi c o (λu q=>%[_,m,q|p]) j) g
abbrev BL(c:TT)(h:TS):TS:=λD a H=>∃W:kj->St->Hp->Prop,(∃m,W m a H)/\∀m a H,W m a H->
 c a H λb e=>if b=iv then∃N:St->Hp->Prop,(∀d f,N d f->∃g,g<m/\W g d f)/\h {D with nx:=N,ct:=N,bk:=D.nx} a e else D.nx a e
def BM(w:Oq (Lx X.prog X.w) X.A X.env X.xe)(E:PT X c G)(J:PSs X e L):PS X (.While c e [] pos) (BL G L):=by
 intro ij s M H D I h;let%[W,%[O|Q]|g]:=h;show wpAny_While (codeAny_whileLoop (λn s'=>∃i y,Qd X ij i y s'/\W n i y) ?_ O %[M,H,I|Q]);intro n T %[d,z,U|Y];show MR w (thT (E ij T d z _ U (g n d z Y)) λb s2 A B l=>?_);cases b with
 | true=>
   let%[N,C|l]:=l;show MR w (thn (J ij s2 d A _ B l) λf s3 m=>?_);cases f with
   | next=>
     let%[a,j,o|p]:=m;let%[q,r|u]:=C a j p;show%[q,r,a,j,o|u]
   | cont=>
     let%[a,j,o|p]:=m;let%[q,r|u]:=C a j p;show%[q,r,a,j,o|u]
   | brk=>show m
   | ret v=>show m
 | false=>
   show Nf %[d,A,B|l]
end
structure It where
 go:kj->Hp->Prop
 yld:kj->Hp->V->Hp->Prop
 stop:kj->Hp->Prop
abbrev lR(X:Cx)(ij:ZE)(H:Hp)(b:kG):Prop:=
 H b=hX/\b≠X.env.locals/\b∉X.fs/\(b∈X.ex\/X.s₀.heap.objs.size<=b)/\(∀x c,X.env.cells.lookup x∣c->c≠b)/\∀p∈X.pn++ij,p.1≠b
def Qd.fpOk{X:Cx}(I:Qd X ij h H s)(a:⇑s<=b)(d:f b=hX):lR X ij f b:=by
 show%[d,Yx (Zg I.lt a),I.nofs a,.inr (n7 I.sz a),λx c e z=>?_|λp g z=>?_]
 .let%[v|q]:=I.cell x c e;show ow (Zg q.lt (z▸a)) (Xh _)
 .show ow (Zg (Zu (I.pin p g).1) (z▸a)) (Xh _)
structure qp (P:nX) (w:v0) (K:ZA) (tg:Ds) (J:It) (fp:hH kG) (it:kG) (tn:kj->yu->Prop):Prop where
 mem:it∈fp
 obj:∀i h,tn i h->∀b∈fp,∃o,h.get? b∣o/\∀v,o.data≠ .cell v
 keep:∀i h h',tn i h->(∀b∈fp,∀o,h.get? b∣o->h'.get? b∣o)->tn i h'
 item:∀(X:Cx),X.prog=P->X.w=w->X.K=K->X.calm=iv->∀i (ij:ZE) s (σ:St) H (E:ZD),Qd X ij σ H s->(∀b∈fp,lR X ij H b)->tn i s.heap->J.go i H->
  sh (Lx P w) X.A (OA (.ref it)) (λr s1=>∃u,r∣u/\
   sh (Lx P w) X.A (VT tg (.ref it) u) (λ_ s2=>∃x H',Qd X ij σ H' s2/\aT x u/\J.yld i H x H'/\tn (i+1) s2.heap/\∀b∈fp,H' b=hX) E s1) E s
 done:∀X,X.prog=P->X.w=w->X.K=K->X.calm=iv->∀i ij s (σ:St) H E,Qd X ij σ H s->(∀b∈fp,lR X ij H b)->tn i s.heap->J.stop i H->
  sh (Lx P w) X.A (OA (.ref it)) (λr s1=>r=hX/\Qd X ij σ H s1) E s
 self:∀A i s Q E,tn i s.heap->Q (.ref it) s->sh (Lx P w) A (Tc (.ref it)) Q E s
noncomputable abbrev TI:=St->Hp->(It->Hp->Prop)->Prop
abbrev PIE(X:Cx)(ij:ZE)(g:St)(h:Ds)(R:It->Hp->Prop)(a:ku)(d:mu):Prop:=
 ∃it e f J c,a= .ref it/\Qd X ij g c d/\qp X.prog X.w X.K h J e it f/\f 0 d.heap/\(∀b∈e,lR X ij c b)/\R J c
abbrev PI(X:Cx)(b iter:Ds)(c:TI):Prop:=
 ∀ij s (a:St) H R,Qd X ij a H s->c a H R->
  (X⁻¹) (LB iter X.env) (λv d=>(X⁻¹) (Tc v) (PIE X ij a b R) X.xe d) X.xe s
def qO(b:s.heap.get? it∣o)(c:o.cls= .type n)(d:o.data= .fields vs)
 (e:["enumerate","zip","dict_itemiterator","dict_reverseitemiterator","odict_iterator","itertools.zip_longest","itertools.pairwise"].contains n=jg) (a:Q () s):sh M A (VT f (.ref it) u) Q E s:=by
 cases f<;> first
  | show Z3 a
  |(cases u<;> first
   | show Z3 a
   |(show Z2 (R6 b ?_)
     rw[c,d];change sh M A (if(["enumerate","zip","dict_itemiterator","dict_reverseitemiterator","odict_iterator","itertools.zip_longest","itertools.pairwise"].contains n&&vs[0]? ==hY _)=iv then _ else _) Q E s;rw[kw (by intro h;rw[e,No]at h;cases h)];show Z3 a))
abbrev Itl(K:ZA)(a:kG):It:=
 ⟨λi H=>∃xs x,Qc K H a xs/\xs[i]?∣x,λi H x b=>b=H/\∀xs,Qc K H a xs->xs[i]?∣x,λi H=>∃xs,Qc K H a xs/\ ~~~xs<=i⟩
abbrev Itt(K:ZA)(a:kG):It:=
 ⟨λi H=>∃xs x,SqT K H a xs/\xs[i]?∣x,λi H x b=>b=H/\∀xs,SqT K H a xs->xs[i]?∣x,λi H=>∃xs,SqT K H a xs/\ ~~~xs<=i⟩
abbrev Itr(lo:pp)(n:kj):It:=%[λi _=>i<n,λi H x a=>a=H/\x= .int (lo+i)|λi _=>n<=i]
def qP{P:nX}{K:ZA}(a it:kG):qp P w K tg (Itl K a) [it] it (λi h=>h.IsListIter it a i) where
 mem:=by simp
 obj:=λi h st b hb=>by
  let e:=↑hb
  subst e;let%[o,e,c|d]:=st;show%[o,e|λv z=>by rw[d]at z;cases z]
 keep:=λi h h' st k=>st.at λo e=>k it ∅ o e
 item:=by
  intro X hP hw hK hc i ij s σ H E I hf st hg;subst hP hw hK;let%[xs,x,hq|hx]:=hg;let%[its,rv,p|hz]:=I.list hq;let%[u,hu|ru]:=rv.get hx;let%[f0,f1,f2,f3,f4|f5]:=hf it ∅;show wpAny_pyNext_list_item st p.isList ↑hu λh' st' sb=>?_
  let%[o,e,c|d]:=id st';show%[u,ρ|qO e c d (!1) %[x,H,(I.turned (λb o hb e=>(sb.2 b hb).trans e) f0 f1 f3 f4 f5),ru,%[ρ|λys hy=>(I.list_inj hy hq)▸hx],st'|λb hb=>(hf b hb).1]]
 done:=by
  intro X hP hw hK hc i ij s σ H E I hf st hg;subst hP hw hK;let%[xs,hq|hx]:=hg;let%[its,rv,p|hz]:=I.list hq;let%[f0,f1,f2,f3,f4|f5]:=hf it ∅;let hl:= ~~~rv;show wpAny_pyNext_list_end (I.ok.hd hc) st p.isList (by simp;lia) λh' eb=>%[rfl|I.turned (λb o hb e=>eb b o hb e) f0 f1 f3 f4 f5]
 self:=λ_ _ _ _ _ st h=>wpAny_pyIter_listiter st h
def xa{P:nX}{K:ZA}(a it:kG):qp P w K tg (Itt K a) [it] it (λi h=>h.IsTupleIter it a i) where
 mem:=by simp
 obj:=λi h st b hb=>by
  let e:=↑hb
  subst e;let%[o,e,c|d]:=st;show%[o,e|λv z=>by rw[d]at z;cases z]
 keep:=λi h h' st k=>st.at λo e=>k it ∅ o e
 item:=by
  intro X hP hw hK hc i ij s σ H E I hf st hg;subst hP hw hK;let%[xs,x,hq|hx]:=hg;let%[its,rv,p|hz]:=I.tuple hq;let%[u,hu|ru]:=rv.get hx;let%[f0,f1,f2,f3,f4|f5]:=hf it ∅;show wpAny_pyNext_tuple_item st (p) ↑hu λh' st' sb=>?_
  let%[o,e,c|d]:=id st';show%[u,ρ|qO e c d (!1) %[x,H,(I.turned (λb o hb e=>(sb.2 b hb).trans e) f0 f1 f3 f4 f5),ru,%[ρ|λys hy=>(I.tuple_inj hy hq)▸hx],st'|λb hb=>(hf b hb).1]]
 done:=by
  intro X hP hw hK hc i ij s σ H E I hf st hg;subst hP hw hK;let%[xs,hq|hx]:=hg;let%[its,rv,p|hz]:=I.tuple hq;let%[f0,f1,f2,f3,f4|f5]:=hf it ∅;let hl:= ~~~rv;show wpAny_pyNext_tuple_end (I.ok.hd hc) st (p) (by simp;lia) λh' eb=>%[rfl|I.turned (λb o hb e=>eb b o hb e) f0 f1 f3 f4 f5]
 self:=λ_ _ _ _ _ st h=>wpAny_pyIter_tupleiter st h
def xc{P:nX}{K:ZA}(it:kG)(lo:pp)(n:kj):qp P w K tg (Itr lo n) [it] it (λi h=>IsRangeIter h it (lo+(i:kj)*1) ((n:pp) -(i:kj)) 1) where
 mem:=by simp
 obj:=λi h st b hb=>by
  simp_all
 keep:=λi h h' st k=>k it ∅ _ st
 item:=by
  intro X hP hw hK hc i ij s σ H E I hf st hg;subst hP hw hK;let%[f0,f1,f2,f3,f4|f5]:=hf it ∅;show(RD.range (prog:=X.prog) (w:=X.w) (I.ok.hd hc) it lo 1 n).item i s _ _ hg st λv h' tk hv st' kk=>?_
  let%[t|rfl]:=hv;show%[_,ρ|qO st' rfl rfl (!1) %[.int _,H,(I.turned (λb o hb e=>kk b o ↑hb e) f0 f1 f3 f4 f5),%[t|?_],%[ρ|ρ],st'|λb hb=>(hf b hb).1]];rw[pp.mul_one]
 done:=by
  intro X hP hw hK hc i ij s σ H E I hf st hg;let%[f0,f1,f2,f3,f4|f5]:=hf it ∅;show wpAny_pyNext_range_end (I.ok.hd hc) st (by let:n<=i:=hg;lia) λh' eb=>%[rfl|I.turned (λb o hb e=>eb b o hb e) f0 f1 f3 f4 f5]
 self:=λ_ _ _ _ _ st h=>wpAny_pyIter_rangeiter st h
section
variable{X:Cx}{tg:Ds}
def uY{R:It->Hp->Prop}{lo hi:pp}(I:Qd X ij c H s)(d: -(2^62)<=lo)(f:lo<2^62)(g: -(2^62)<=hi)(h:hi<2^62)
 (q:R (Itr lo (hi-lo).toNat) H):(X⁻¹) (Tc (.ref ⇑s)) (PIE X ij c tg R) E {s with heap:=s.heap.push {cls:= .type "range",data:= .fields #[.int lo t,.int hi u,.int 1 v]},toks:=tk}:=by
 show wpAny_pyIter_range (IsRange.new ..) (small_one d f g h) ?_;let a:Qd X ij c H {s with heap:=s.heap.push {cls:= .type "range",data:= .fields #[.int lo t,.int hi u,.int 1 v]},toks:=tk}:=I.kept λb o e=>Z7 _ e
 show%[(s.heap.push _).objs.size,[(s.heap.push _).objs.size],_,_,H,ρ,
  a.kept λb o e=>Z7 _ e,xc _ lo _,?_,λb i=>?_|q]
 .let j:lo+((0:kj))*1=lo:=by simp
  let l:(((hi-lo).toNat)) -((0:kj))=VQ lo hi 1:=by rw[rangeSize_one];split<;> lia
  rw[j,l];show Zj _ rfl
 .let e:b=(s.heap.push {cls:= .type "range",data:= .fields #[.int lo t,.int hi u,.int 1 v]}).objs.size:=↑i
  subst e;show a.fpOk (Zi _) (a.hok.fresh (Zi _))
abbrev BN(a:TA):TI:=λb H R=>a b H λvs c=>cJ vs λd=>asI d λj=> -(2^62)<=j/\j<2^62/\R (Itr 0 j.toNat) c
abbrev BO(a:TA):TI:=λb H R=>a b H λvs c=>lP vs λd x2=>asI d λi=>asI x2 λj=>(-(2^62)<=i/\i<2^62/\ -(2^62)<=j/\j<2^62)/\R (Itr i (j-i).toNat) c
def z8{a:Ds}(e:Gl X "range")(f:X.mg "range"=hX)(g:PA X [a] i)(l:vj [a] X.env=[(jg,LB a X.env)]):PI X tg (.Call (.Name "range" p) [a] [] pos) (BN i):=by
 intro ij s m H R I h;show Call_ (ii I e f boot_range (Lp (thP (g pos ij s m H _ I h) λus v vs w n o b=>?_) l rfl));let%[y,rfl|c]:=bF b;let%[j,rfl|d]:=cX c;let%[b,u|q]:=d;cases o with
 | cons r rr=>
   cases rr;let%[t|rfl]:=r;show call_range_1 (uY n ⋯ ⋯ b u ↑q)
def z9(l:Gl X "range")(m:X.mg "range"=hX)(n:PA X [a,b] o)(u:vj [a,b] X.env=[(jg,LB a X.env),(jg,LB b X.env)])(c:vj [b] X.env=[(jg,LB b X.env)]):
 PI X tg (.Call (.Name "range" p) [a,b] [] pos) (BO o):=by
 intro ij s v H R I h;show Call_ (ii I l m boot_range (Lp (thP (n pos ij s v H _ I h) λus E vs G w y d=>?_) (by rw[u,c]) (by rw[c];rfl)));let%[J,x2,rfl|e]:=jY d;let%[i,rfl|f]:=cX e;let%[j,rfl|g]:=cX f;let%[%[d,z,A|B]|q]:=g;cases y with
 | cons r rr=>
   cases rr with
   | cons C rr=>
     cases rr;let%[t|rfl]:=r;let%[t'|rfl]:=C;show call_range_2 (uY w d z A B q)
abbrev tf(f:TI)(g:TG)(h:TS):TS:=λD a H=>f a H λJ j=>∃W:kj->kj->St->Hp->Prop,(∃m,W 0 m a j)/\∀i m a H,W i m a H->
 (J.stop i H/\D.nx a H)\/(J.go i H/\∃N:St->Hp->Prop,(∀b c,N b c->∃e,e<m/\W (i+1) e b c)/\∀x c,J.yld i H x c->g x a c λd l=>h {D with nx:=N,ct:=N,bk:=D.nx} d l)
abbrev ti(a:hH kG)(h:yu):ZE:=a.filterMap λb=>(h.get? b).map λo=>(b,o)
def fk(a:b∈c)(e:h.get? b∣o):(b,o)∈ti c h:=LG.mpr %[b,a|by rw[e];rfl]
def Aa(a:p∈ti c h):p.1∈c/\h.get? p.1∣p.2:=by
 let%[b,d|e]:=LG.mp a;cases q:h.get? b with
 | none=>simp_all
 | some o=>
   rw[q]at e;let f:=Za e;subst f;show%[d|q]
def Qd.pinned(I:Qd X ij g H s)(h:∀b∈a,lR X ij H b)(i:∀b∈a,∃o,s.heap.get? b∣o/\∀v,o.data≠ .cell v):Qd X (ij++ti a s.heap) g H s:=
 I.pins_of λp j=>(Xk j).elim (λz=>I.pin p (Yt _ z)) λz=>by
  let%[c|e]:=Aa z;let%[l,m,n|_]:=h p.1 c;let%[o,f|d]:=i p.1 c;rw[e]at f;cases f;show%[e,l,m,n|d]
def Qd.unpinned(I:Qd X (ij++pl) a H s):Qd X ij a H s:=I.pins_of λp b=>I.pin p (Yt _ (Ys _ b))
def Hu(B:Oq (Lx X.prog X.w) X.A X.env X.xe)(hc:X.calm=iv)(hi:PI X tg iter wi)(hg:PG X tg g)(c:PSs X C tb)
 (hs:∀x,NN iter X.env x=pure x):PS X (.For tg iter C [] pos) (tf wi g tb):=by
 intro ij s σ H D I h;show wpAny_For (thn (hi ij s σ H _ I h) λv s1 h1=>thn h1 λae s2 h2=>?_) hs;let%[it,O,tn,J,H2,e,I2,T,U,f2,W,%[m0|w0]|E]:=h2;subst e;let j:∀{y:Hp},(∀b∈O,y b=hX)->∀b∈O,lR X ij y b:=λhn b c=>%[hn b c|(f2 b c).2]
 show codeAny_forLoop_any (λn s'=>∃i l y,Qd X ij l y s'/\tn i s'.heap/\(∀b∈O,y b=hX)/\W i n l y) ?_ m0 %[0,σ,H2,I2,U,λb c=>(f2 b c).1|w0];intro n s3 %[i,p,Q,I3,G,L|w3];rcases E i n p Q w3 with⟨stop,qn⟩|⟨go,N,hN,step⟩
 .show MR B (thn (T.done X rfl rfl rfl hc i ij s3 p Q X.xe I3 (j L) G stop) λr s4 ⟨Y,I4⟩=>?_);subst Y;show Nf %[p,Q,I4|qn]
 .show MR B (thn (T.item X rfl rfl rfl hc i ij s3 p Q X.xe I3 (j L) G go) λr s4 ⟨u,Y,h4⟩=>?_);subst Y;show MR B (thn h4 λ_ s5 ⟨x,H5,I5,r5,y5,A,ab⟩=>MR B (thn (hg _ s5 p H5 x u _ (I5.pinned (j ab) (T.obj _ _ A)) r5 (step x H5 y5)) λ_ s6 ⟨ac,H6,I6,q6⟩=>MR B (thn (c _ s6 ac H6 _ I6 q6) λf s7 z=>?_)));let again:∀{a:St} {q:Hp},Qd X _ a q s7->N a q->∃m,m<n/\∃i l y,Qd X ij l y s7/\tn i s7.heap/\(∀b∈O,y b=hX)/\W i m l y:=λ{a q} w M=>by
   let%[m',hm|w7]:=hN a q M;show%[m',hm,i+1,a,q,w.unpinned,T.keep _ _ _ A λb c o e=>(w.pin _ (Yt _ (Yt _ (fk c e)))).1,λb c=>?_|w7];let%[o,e|d]:=T.obj _ _ A b c;show(w.pin _ (Yt _ (Yt _ (fk c e)))).2.1
  cases f with
  | next=>have%[a,q,w|M]:=z;show again w M
  | cont=>have%[a,q,w|M]:=z;show again w M
  | brk=>have%[a,q,w|z]:=z;show%[a,q,w.unpinned|z]
  | ret v=>have%[x7,a,q,w,r7|z]:=z;show%[x7,a,q,w.unpinned,r7|z]
end
def eC{K:ZA}{g:TG}{l:TS}{D:ic}(Pv:kj->St->Hp->Prop)(o:Pv 0 b H)(r:∀i b H,i<= ~~~xs->Pv i b H->Qc K H a xs)
 (s:∀i x b H,xs[i]?∣x->Pv i b H->g x b H λc h=>l {D with nx:=Pv (i+1),ct:=Pv (i+1),bk:=D.nx} c h) (u:∀b H,Pv xs.length b H->D.nx b H):
 ∃W:kj->kj->St->Hp->Prop,(∃m,W 0 m b H)/\∀i m b H,W i m b H->
  ((Itl K a).stop i H/\D.nx b H)\/((Itl K a).go i H/\∃N:St->Hp->Prop,(∀d f,N d f->∃n,n<m/\W (i+1) n d f)/\∀x f,(Itl K a).yld i H x f->g x b f λc h=>l {D with nx:=N,ct:=N,bk:=D.nx} c h):=by
 show%[λi m b H=>m= ~~~xs-i/\i<= ~~~xs/\Pv i b H,%[~~~xs,by simp,Xc _|o]|?_];intro i m b H %[rfl,hi|p];let q:=r i b H hi p;by_cases j:i< ~~~xs
 .show .inr %[%[xs,xs[i],q|by simp],Pv _,λd f v=>%[~~~xs-(i+1),⋯,rfl,j|v]|λx f y=>?_];let%[e|y]:=y;subst e;show s i x b _ (y xs q) p
 .let e:i= ~~~xs:=by lia
  subst e;show .inl %[%[xs,q|Zi _]|u b H p]
def b7{lo:pp}{g:TG}{j:TS}{D:ic}(Pv:kj->St->Hp->Prop)(o:Pv 0 a H)
 (q:∀i a H,i<n->Pv i a H->g (.int (lo+i)) a H λb h=>j {D with nx:=Pv (i+1),ct:=Pv (i+1),bk:=D.nx} b h) (r:∀a H,Pv n a H->D.nx a H):
 ∃W:kj->kj->St->Hp->Prop,(∃m,W 0 m a H)/\∀i m a H,W i m a H->
  ((Itr lo n).stop i H/\D.nx a H)\/((Itr lo n).go i H/\∃N:St->Hp->Prop,(∀c d,N c d->∃l,l<m/\W (i+1) l c d)/\∀x d,(Itr lo n).yld i H x d->g x a d λb h=>j {D with nx:=N,ct:=N,bk:=D.nx} b h):=by
 show%[λi m a H=>m=n-i/\i<=n/\Pv i a H,%[n,by simp,Xc _|o]|?_];intro i m a H %[rfl,hi|p];by_cases f:i<n
 .show .inr %[f,Pv _,λc d s=>%[n-(i+1),⋯,rfl,f|s]|λx d y=>?_];let%[e|y]:=y;subst e y;show q i a _ f p
 .let e:i=n:=by lia
  subst e;show .inl %[Zi _|r a H p]
noncomputable abbrev R2:=V->V->Hp->VK->Prop
abbrev OpR(X:Cx)(f:ku->ku->Sem ku)(r:R2):Prop:=
 ∀ij s (a:St) H x y v u Q,Qd X ij a H s->aT x v->aT y u->r x y H Q->
  (X⁻¹) (f v u) (EP X ij a Q) X.xe s
abbrev UnR(X:Cx)(f:ku->Sem ku)(r:V->Hp->VK->Prop):Prop:=
 ∀ij s (a:St) H x v Q,Qd X ij a H s->aT x v->r x H Q->
  (X⁻¹) (f v) (EP X ij a Q) X.xe s
abbrev ci(X:Cx)(f:ku)(r:hH V->Hp->VK->Prop):Prop:=
 ∀ij s (a:St) H xs us Q,Qd X ij a H s->aI xs us->r xs H Q->
  (X⁻¹) (call f us) (EP X ij a Q) X.xe s
abbrev TruR(X:Cx)(r:V->Hp->(ri->Hp->Prop)->Prop):Prop:=
 ∀ij s (a:St) H x v Q,Qd X ij a H s->aT x v->r x H Q->
  (X⁻¹) (truthy v) (TP X ij a Q) X.xe s
abbrev tOp(r:R2)(b c:TE):TE:=λa H Q=>b a H λx d=>c a d λy e=>r x y e Q
abbrev tUn(r:V->Hp->VK->Prop)(a:TE):TE:=λb H Q=>a b H λx c=>r x c Q
abbrev rI(C:pp->pp->Prop)(g:pp->pp->V):R2:=λx y H Q=>asI x λi=>asI y λj=>C i j/\Q (g i j) H
abbrev rI0(g:pp->pp->V):R2:=λx y H Q=>asI x λi=>asI y λj=>Q (g i j) H
abbrev rU(g:pp->V):V->Hp->VK->Prop:=λx H Q=>asI x λi=>Q (g i) H
section
variable{X:Cx}{a b c:Ds}{ta tb tc:TE}{pos:Pos}
def Hv(m:PE X a ta)(n:PE X b tb){ij:hH _}{s:mu}{d:St}{H:Hp}{R:V->V->Hp->Prop}(I:Qd X ij d H s)
 (h:ta d H λx l=>tb d l λy e=>R x y e) {Q:ZD} {f:ku->ku->Sem ku}
 (o:∀v u j x y e,Qd X ij d e j->aT x v->aT y u->R x y e->(X⁻¹) (f v u) Q X.xe j):
 (X⁻¹) (LB a X.env) (λv g=>(X⁻¹) (LB b X.env) (λu i=>(X⁻¹) (f v u) Q X.xe i) X.xe g) X.xe s:=by
 show thP (m ij s d H _ I h) λv p x l q r w=>thP (n ij p d l _ q w) λu j y e z A B=>o v u j x y e z r A B
def JU{r:R2}(d:OpR X (Ly op) r)(e:PE X a ta)(f:PE X b tb):PE X (.BinOp a op b pos) (tOp r ta tb):=by
 intro ij s g H Q I h;show wpAny_BinOp (Hv e f I h λv u i x y j l m n q=>d ij i g j x y v u Q l m n q)
def JV(e:UnR X (unaryOp op) r)(f:PE X a ta):PE X (.UnaryOp op a pos) (tUn r ta):=by
 intro ij s d H Q I h;show UnaryOp_ (thP (f ij s d H _ I h) λv g x i j l m=>e ij g d i x v Q j l m)
def opI{f:ku->ku->Sem ku}{C:pp->pp->Prop}{g:pp->pp->pp}
 (PM:∀i j t u s Q E,C i j->Q (.int (g i j) s.toks) {s with toks:=s.toks+1}->(X⁻¹) (f (.int i t) (.int j u)) Q E s):
 OpR X f (rI C λi j=> .int (g i j)):=by
 intro ij s n H x y v u Q I d e h;let%[i,rfl|l]:=cX h;let%[j,rfl,m|q]:=cX l;let%[t|rfl]:=d;let%[t'|rfl]:=e;show PM i j t t' s _ _ m %[.int _,H,I.tok _,%[_|rfl]|q]
def JW{g:pp->pp->pp}
 (PM:∀(i j:pp) (t u:Tok) (s:mu) (Q:ZD) (E:ZD),Q (.int (g i j) s.toks) {s with toks:=s.toks+1}->(X⁻¹) (f (.int i t) (.int j u)) Q E s):
 OpR X f (rI0 λi j=> .int (g i j)):=by
 intro ij s m H x y v u Q I d e h;let%[i,rfl|l]:=cX h;let%[j,rfl|q]:=cX l;let%[t|rfl]:=d;let%[t'|rfl]:=e;show PM i j t t' s _ _ %[.int _,H,I.tok _,%[_|rfl]|q]
def Hw{g:pp->pp->ri}
 (PM:∀(i j:pp) (t u:Tok) (s:mu) (Q:ZD) (E:ZD),Q (.bool (g i j)) s->(X⁻¹) (f (.int i t) (.int j u)) Q E s):
 OpR X f (rI0 λi j=> .bl (g i j)):=by
 intro ij s m H x y v u Q I d e h;let%[i,rfl|l]:=cX h;let%[j,rfl|q]:=cX l;let%[t|rfl]:=d;let%[t'|rfl]:=e;show PM i j t t' s _ _ %[.bl _,H,I,rfl|q]
abbrev JX(i j:pp):Prop:=0<j/\j<1073741824
abbrev BP(i j:pp):Prop:=(-(2^64)<i/\i<2^64)\/(-(2^64)<j/\j<2^64)
def BP.ok{i j:pp}(h:BP i j):IntMulOk i j:=by
 rcases h with⟨d,e⟩|⟨d,e⟩
 .show .of_left (intBits_le_64 d e)
 .show .of_right (intBits_le_64 d e)
def BQ:OpR X (Ly .Add) (rI0 λi j=> .int (i+j)):=JW λ_ _ _ _ _ _ _ q=>add_int q
def Hy:OpR X (Ly .Sub) (rI0 λi j=> .int (i-j)):=JW λ_ _ _ _ _ _ _ q=>sub_int q
def BR:OpR X (Ly .Mult) (rI BP λi j=> .int (i*j)):=opI λ_ _ _ _ _ _ _ d q=>mul_int q d.ok
def ER:OpR X (Ly .FloorDiv) (rI JX λi j=> .int (i/j)):=opI λi j _ _ _ _ _ d q=>by
 let e:(0:pp)<j:=d.1;let f:j<1073741824:=d.2;show floordiv_int ⋯ (by rw[pp.fdiv_eq_ediv_of_nonneg i ⋯];show q) (.inl (PyProof.noPylong_small ⋯))
def Hz:OpR X (Ly .Mod) (rI (λ_ j=>0<j) λi j=> .int (i%j)):=opI λi j _ _ _ _ _ d q=>by
 let e:(0:pp)<j:=d;show mod_int' ⋯ (by rw[pp.fmod_eq_emod_of_nonneg i ⋯];show q)
def unI{g:pp->pp}
 (PM:∀(i:pp) (t:Tok) (s:mu) (Q:ZD) (E:ZD),Q (.int (g i) s.toks) {s with toks:=s.toks+1}->(X⁻¹) (f (.int i t)) Q E s):
 UnR X f (rU λi=> .int (g i)):=by
 intro ij s e H x v Q I d h;let%[i,rfl|q]:=cX h;let%[t|rfl]:=d;show PM i t s _ _ %[.int _,H,I.tok _,%[_|rfl]|q]
def HA:UnR X (unaryOp .USub) (rU λi=> .int (-i)):=unI λ_ _ _ _ _ q=>neg_int q
end
abbrev HB(x y:V):ri:=match x with
 | .non=>(match y with| .non=>iv| .int _=>iv| .bl _=>iv| .str _=>iv|_=>jg)
 | .int _=>(match y with| .non=>iv| .int _=>iv| .str _=>iv|_=>jg)
 | .bl _=>(match y with| .non=>iv| .bl _=>iv| .str _=>iv|_=>jg)
 | .str _=>(match y with| .non=>iv| .int _=>iv| .bl _=>iv| .str _=>iv|_=>jg)
 | .byt _=>(match y with| .byt _=>iv|_=>jg)
 | _=>jg
abbrev rEq:R2:=λx y H Q=>HB x y=iv/\Q (.bl (decide (x=y))) H
abbrev rNe:R2:=λx y H Q=>HB x y=iv/\Q (.bl (!decide (x=y))) H
def yG:decide (V.int i=V.int j)=(i==j):=by
 rw[M1];simp
def BS:decide (V.bl i=V.bl j)=(i==j):=by
 rw[M1];simp
def yH:decide (V.str i=V.str j)=(i==j):=by
 rw[M1];simp
def yJ:decide (V.byt i=V.byt j)=(i.toList==j.toList):=by
 rw[M1]
 simp_all
section
variable{X:Cx}{a b c:Ds}{ta tb tc:TE}{pos:Pos}
def aY(I:Qd X ij d H s)(q:Q (.bl k) H)(e:k=f):EP X ij d Q (.bool f) s:=by
 subst e;show%[.bl k,H,I,ρ|q]
def Gz:OpR X (qq .Eq) rEq:=by
 intro ij s g H x y v u Q I f d h;let%[e|q]:=h;cases x with
 | non=>
   cases f;cases y with
   | non=>cases d;show PySem.EqNone.eq_none_none (aY I q ∅)
   | bl j=>cases d;show PySem.EqNone.eq_none_bool (aY I q ∅)
   | int j=>have%[t'|rfl]:=d;show PySem.EqNone.eq_none_int (aY I q ∅)
   | str j=>have%[t'|rfl]:=d;show PySem.EqNone.eq_none_str (aY I q ∅)
   | _=>show ow (show jg=iv from e) Zt
 | bl i=>
   cases f;cases y with
   | non=>cases d;show PySem.EqNone.eq_bool_none (aY I q ∅)
   | bl j=>cases d;show eq_bool (aY I q BS)
   | str j=>have%[t'|rfl]:=d;show PySem.EqMixed.eq_bool_str (aY I q ∅)
   | _=>show ow (show jg=iv from e) Zt
 | int i=>
   let%[t|rfl]:=f;cases y with
   | non=>cases d;show PySem.EqNone.eq_int_none (aY I q ∅)
   | int j=>have%[t'|rfl]:=d;show eq_int (aY I q yG)
   | str j=>have%[t'|rfl]:=d;show PySem.EqMixed.eq_int_str (aY I q ∅)
   | _=>show ow (show jg=iv from e) Zt
 | str i=>
   let%[t|rfl]:=f;cases y with
   | non=>cases d;show PySem.EqNone.eq_str_none (aY I q ∅)
   | bl j=>cases d;show PySem.EqMixed.eq_str_bool (aY I q ∅)
   | int j=>have%[t'|rfl]:=d;show PySem.EqMixed.eq_str_int (aY I q ∅)
   | str j=>have%[t'|rfl]:=d;show eq_str (aY I q yH)
   | _=>show ow (show jg=iv from e) Zt
 | byt i=>
   let%[t|rfl]:=f;cases y with
   | byt j=>have%[t'|rfl]:=d;show PySem.W.eq_bytes (aY I q yJ)
   | _=>show ow (show jg=iv from e) Zt
 | _=>cases y<;> show ow (show jg=iv from e) Zt
def GA:OpR X (qq .NotEq) rNe:=by
 intro ij s g H x y v u Q I f d h;let%[e|q]:=h;cases x with
 | non=>
   cases f;cases y with
   | non=>cases d;show PySem.EqNone.ne_none_none (aY I q ∅)
   | bl j=>cases d;show PySem.EqNone.ne_none_bool (aY I q ∅)
   | int j=>have%[t'|rfl]:=d;show PySem.EqNone.ne_none_int (aY I q ∅)
   | str j=>have%[t'|rfl]:=d;show PySem.EqNone.ne_none_str (aY I q ∅)
   | _=>show ow (show jg=iv from e) Zt
 | bl i=>
   cases f;cases y with
   | non=>cases d;show PySem.EqNone.ne_bool_none (aY I q ∅)
   | bl j=>cases d;show ne_bool (aY I q (tI not BS))
   | str j=>have%[t'|rfl]:=d;show PySem.EqMixed.ne_bool_str (aY I q ∅)
   | _=>show ow (show jg=iv from e) Zt
 | int i=>
   let%[t|rfl]:=f;cases y with
   | non=>cases d;show PySem.EqNone.ne_int_none (aY I q ∅)
   | int j=>have%[t'|rfl]:=d;show ne_int (aY I q (tI not yG))
   | str j=>have%[t'|rfl]:=d;show PySem.EqMixed.ne_int_str (aY I q ∅)
   | _=>show ow (show jg=iv from e) Zt
 | str i=>
   let%[t|rfl]:=f;cases y with
   | non=>cases d;show PySem.EqNone.ne_str_none (aY I q ∅)
   | bl j=>cases d;show PySem.EqMixed.ne_str_bool (aY I q ∅)
   | int j=>have%[t'|rfl]:=d;show PySem.EqMixed.ne_str_int (aY I q ∅)
   | str j=>have%[t'|rfl]:=d;show ne_str (aY I q (tI not yH))
   | _=>show ow (show jg=iv from e) Zt
 | byt i=>
   let%[t|rfl]:=f;cases y with
   | byt j=>have%[t'|rfl]:=d;show PySem.W.ne_bytes (aY I q (tI not yJ))
   | _=>show ow (show jg=iv from e) Zt
 | _=>cases y<;> show ow (show jg=iv from e) Zt
def JY:OpR X (qq .Lt) (rI0 λi j=> .bl (decide (i<j))):=Hw λ_ _ _ _ _ _ _ q=>lt_int q
def JZ:OpR X (qq .LtE) (rI0 λi j=> .bl (decide (i<=j))):=Hw λ_ _ _ _ _ _ _ q=>le_int q
def J7:OpR X (qq .Gt) (rI0 λi j=> .bl (decide (j<i))):=Hw λ_ _ _ _ _ _ _ q=>gt_int q
def qQ:OpR X (qq .In) (λx y H Q=>asS x λi=>asS y λj=>Q (.bl (!(KE j i 0 j.length 1).isEmpty)) H):=by
 intro ij s l H x y v u Q I f g h;let%[i,rfl|d]:=fj h;let%[j,rfl|e]:=fj d;let q:=e;let%[t|rfl]:=f;let%[t'|rfl]:=g;show in_str (aY I q rfl)
def HC:OpR X (qq .Is) (λx y H Q=>y= .non/\Q (.bl (decide (x= .non))) H):=by
 intro ij s f H x y v u Q I d e h;let%[rfl|q]:=h;cases e;show is_none_gen (aY I q ?_);cases x<;> first
  | lia
  |(have%[t|rfl]:=d;rfl)
def ES:OpR X (qq .IsNot) (λx y H Q=>y= .non/\Q (.bl (!decide (x= .non))) H):=by
 intro ij s f H x y v u Q I d e h;let%[rfl|q]:=h;cases e;show isnot_none_gen (aY I q ?_);cases x<;> first
  | lia
  |(have%[t|rfl]:=d;rfl)
def OpR.or(h:OpR X f r)(h':OpR X f i):OpR X f (λx y H Q=>r x y H Q\/i x y H Q):=by
 intro ij s d H x y v u Q I e g q;rcases q with q|q
 .show h ij s d H x y v u Q I e g q
 .show h' ij s d H x y v u Q I e g q
def nomark(b:Ds)(h:op≠ .In)(f:op≠ .NotIn):LV op b=jg:=by
 let d:(op==Uj.In)=jg:=by lia
 let e:(op==Vn)=jg:=by lia
 cases b<;> simp[LV,d,e]
def ET{r:R2}(d:OpR X (qq op) r)(e:PE X a ta)(f:PE X b tb)(g:LV op b=jg):PE X (.Compare a [op] [b] pos) (tOp r ta tb):=by
 intro ij s i H Q I h;show wpAny_Compare1 (Hv e f I h λv u j x y l m n o q=>d ij j i l x y v u Q m n o q) g
abbrev BT(t:TE):TT:=λd H Q=>t d H λx e=>asB x λk=>Q k e
def EU(f:OpR X (qq op) r)(g:PE X a ta)(i:PE X b tb)(j:LV op b=jg):PT X (.Compare a [op] [b] pos) (BT (tOp r ta tb)):=by
 intro ij s d H Q I h;show Tz (thP (g ij s d H _ I h) λv l x m n o p=>thP (i ij l d m _ n p) λu q y w A B C=>
  thP (f ij q d w x y v u _ A o B C) λc L z E G J e=>?_) j
 let%[k,rfl|e]:=uX e;cases J;show LZ %[E,G|e]
abbrev xf(r f:R2)(ta tb tc:TE):TE:=λd H Q=>ta d H λx g=>tb d g λy h=>r x y h λz e=>asB z λk=>
 (if k=iv then tc d e λi j=>f y i j Q else Q (.bl jg) e)
def BU(n:OpR X (qq op) r)(i:OpR X (qq e) o)(p:PE X a ta)(q:PE X b tb)(w:PE X c tc)
 (A:lastMarks [op,e] [b,c]=jg):PE X (.Compare a [op,e] [b,c] pos) (xf r o ta tb tc):=by
 intro ij s f H Q I h;show Compare_chain (thP (p ij s f H _ I h) λv B x C E G J=>chain_link (thP (q ij B f C _ E J) λu L y M N j O=>
  thP (n ij L f M x y v u _ N G j O) λd T z l m U g=>?_)) A
 let%[k,rfl|g]:=uX g;cases U;show LZ ?_;cases k with
 | false=>show ite_ff %[.bl jg,l,m,rfl|g]
 | true=>show ite_tt (chain_last (thP (w ij T f l _ m g) λY s4 z' H4 I4 r4 q4=>i ij s4 f H4 y z' u Y Q I4 j r4 q4))
abbrev BV(K:ZA)(x:V)(H:Hp)(k:ri):Prop:=
 match x with
 | .non=>k=jg
 | .bl b=>k=b
 | .int i=>k=(i != 0)
 | .str y=> ~~~y<=mv/\k=((~~~y:pp) != 0)
 | .byt y=>y.size<=mv/\k=((y.size:pp) != 0)
 | .ref p=>(∃xs,Qc K H p xs/\k=!xs.isEmpty)\/(∃xs,SqT K H p xs/\k=!xs.isEmpty)\/∃d,H p∣.dK d/\k=!d.isEmpty
 | _=>KZ
def xg{e:Type}{d:hH (e×V)}{vs:hH _}(r:KV d vs):(!vs.isEmpty)=!d.isEmpty:=by
 cases r<;> rfl
def nP(r:aI xs its):(!its.toArray.isEmpty)=!xs.isEmpty:=by
 cases r<;> simp
def tz:mv<2^63:=!1
def HD:TruR X (λx H Q=>∃k,BV X.K x H k/\Q k H):=by
 intro ij s w H x v Q I j h;let%[k,e|q]:=h;let z:=tz;let A:mv=16777216:=Le;cases x with
 | non=>
   cases j;let d:k=jg:=e;subst d;show truthy_none %[H,I|q]
 | bl b=>
   cases j;let d:k=b:=e;subst d;show LZ %[H,I|q]
 | int i=>
   let%[t|rfl]:=j;let d:k=(i != 0):=e;subst d;show PySem.P.truthy_int %[H,I|q]
 | str y=>
   let%[t|rfl]:=j;obtain⟨o,d⟩: ~~~y<=mv/\k=((~~~y:pp) != 0):=e;subst d;show PySem.P.truthy_str ⋯ %[H,I.tok _|q]
 | byt y=>
   let%[t|rfl]:=j;obtain⟨o,d⟩:y.size<=mv/\k=((y.size:pp) != 0):=e;subst d;show PySem.W.truthy_bytes ⋯ %[H,I.tok _|q]
 | ref p=>
   cases j;let d:(∃xs,Qc X.K H p xs/\k=!xs.isEmpty)\/(∃xs,SqT X.K H p xs/\k=!xs.isEmpty)\/∃f,H p∣.dK f/\k=!f.isEmpty:=e;rcases d with⟨xs,l,d⟩|⟨xs,l,d⟩|⟨f,l,d⟩
   .subst d;let%[its,r,pl|n]:=I.list l;let g:= ~~~r;show wpAny_truthy_list pl.isList (by simp only[Zp];lia) %[H,I.tok _|(nP r)▸q]
   .subst d;let%[its,r,pl|n]:=I.tuple l;let g:= ~~~r;show truthy_tuple pl (by simp only[Zp];lia) %[H,I.tok _|(nP r)▸q]
   .subst d;obtain⟨n,u,vs,r,m⟩: ~~~f<=mv/\(p==L7)=jg/\∃vs,KV f vs/\s.heap.DictOf (aR X.prog X.w) p vs:=I.hok p _ l;let g: ~~~f= ~~~vs:=Paired.length r;show wpAny_truthy_dict u m ⋯ %[H,I.tok _|(xg r)▸q]
 | _=>show(show KZ from e).elim
def BW(g:PE X a ta)(i:∀d,Tg a X.env d=(do let v<-d;Of a.pos;Pk [v] (truthy v))):
 PT X a (λe H Q=>ta e H λx f=>∃k,BV X.K x f k/\Q k f):=by
 intro ij s e H Q I h;show isTrue_plain (thP (g ij s e H _ I h) λv j x l m n o=>HD ij j e l x v Q m n o) (i _)
def nQ:OpR X (Ly .Add) (λx y H Q=>asS x λi=>asS y λj=> ~~~i+ ~~~j<=mv/\Q (.str (i++j)) H):=by
 intro ij s m H x y v u Q I f g h;let%[i,rfl|d]:=fj h;let%[j,rfl|e]:=fj d;let%[l|q]:=e;let%[t|rfl]:=f;let%[t'|rfl]:=g;show add_str (λt' tk=>%[.str _,H,I.tok _,%[_|rfl]|q]) l
def cO(r:aI [x] us):∃u,us=[u]/\aT x u:=by
 cases r with
 | cons d e=>cases e;show%[_,ρ|d]
def iY(r:aI [x,y] us):∃u d,us=[u,d]/\aT x u/\aT y d:=by
 cases r with
 | cons e f=>
   cases f with
   | cons g h=>cases h;show%[_,_,ρ,e|g]
def Ab(m:X.calm=iv):ci X (.builtin "max") (λxs H Q=>lP xs λl x2=>asI l λi=>asI x2 λj=>Q (.int (if j>i then j else i)) H):=by
 intro ij s n H xs us Q I r h;let%[l,x2,rfl|e]:=jY h;let%[i,rfl|f]:=cX e;let%[j,rfl|g]:=cX f;let q:=g;let%[u,o,rfl,%[t|rfl],t'|rfl]:=iY r;show max_two_ints (I.ok.hd m) λh' tk k=>%[_,H,I.kept k,?_|q]
 by_cases d:j>i
 .rw[md d,md d];show%[_|ρ]
 .rw[kw d,kw d];show%[_|ρ]
def Ac(m:X.calm=iv):ci X (.builtin "min") (λxs H Q=>lP xs λl x2=>asI l λi=>asI x2 λj=>Q (.int (if j<i then j else i)) H):=by
 intro ij s n H xs us Q I r h;let%[l,x2,rfl|e]:=jY h;let%[i,rfl|f]:=cX e;let%[j,rfl|g]:=cX f;let q:=g;let%[u,o,rfl,%[t|rfl],t'|rfl]:=iY r;show min_two_ints (I.ok.hd m) λh' tk k=>%[_,H,I.kept k,?_|q]
 by_cases d:j<i
 .rw[md d,md d];show%[_|ρ]
 .rw[kw d,kw d];show%[_|ρ]
def Ae:ci X (.type "int") (λxs H Q=>(∃i,xs=[.int i]/\Q (.int i) H)\/∃k,xs=[.bl k]/\Q (.int (if k then 1 else 0)) H):=by
 intro ij s e H xs us Q I r h;rcases h with⟨i,rfl,q⟩|⟨k,rfl,q⟩
 .let%[u,rfl,t|rfl]:=cO r;show call_int_int %[.int i,H,I,%[_|rfl]|q]
 .let%[u,rfl|d]:=cO r;cases d;show call_int_bool %[.int _,H,I.tok _,%[_|rfl]|q]
def tD:ci X (.type "str") (λxs H Q=>cJ xs λf=>asI f λi=>i.natAbs.log2<1920/\Q (.str (toString i)) H):=by
 intro ij s j H xs us Q I r h;let%[f,rfl|d]:=bF h;let%[i,rfl|e]:=cX d;let%[g|q]:=e;let%[u,rfl,t|rfl]:=cO r;show PySem.P.str_of_int g %[.str _,H,I.tok _,%[_|rfl]|q]
abbrev EV(K:ZA)(x:V)(H:Hp)(n:kj):Prop:=
 match x with
 | .str y=> ~~~y<=mv/\n= ~~~y
 | .byt y=>y.size<=mv/\n=y.size
 | .ref p=>(∃xs,Qc K H p xs/\n= ~~~xs)\/∃xs,SqT K H p xs/\n= ~~~xs
 | _=>KZ
def BX:ci X (.builtin "len") (λxs H Q=>cJ xs λx=>∃n,EV X.K x H n/\Q (.int n) H):=by
 intro ij s v H xs us Q I r h;let%[x,rfl|g]:=bF h;let%[n,e|q]:=g;let%[u,rfl|i]:=cO r;let w:=Le;cases x with
 | str y=>
   let%[t|rfl]:=i;obtain⟨m,f⟩: ~~~y<=mv/\n= ~~~y:=e;subst f;show len_str ⋯ %[.int _,H,I.tok _,%[_|rfl]|q]
 | byt y=>
   let%[t|rfl]:=i;obtain⟨m,f⟩:y.size<=mv/\n=y.size:=e;subst f;show PySem.W.len_bytes ⋯ %[.int _,H,I.tok _,%[_|rfl]|q]
 | ref p=>
   cases i;let f:=e;rcases f with⟨xs,j,f⟩|⟨xs,j,f⟩
   .subst f;let%[its,l,pl|o]:=I.list j;let d:= ~~~l;show Calls.call_len_list pl.isList (by simp only[Zp];lia) %[.int xs.length,H,I.tok _,%[_|by simp only[Zp];rw[d]]|q]
   .subst f;let%[its,l,pl|o]:=I.tuple j;let d:= ~~~l;show len_tuple pl (by simp only[Zp];lia) %[.int xs.length,H,I.tok _,%[_|by simp only[Zp];rw[d]]|q]
 | _=>show(e).elim
end
structure xh (h:yu) (x dx C:kG) (mA:ZC):Prop where
 obj:h.get? x∣RT C dx
 ns:h.Ns1 dx mA
 ne:dx≠x
set_option tactic.hygienic true in
def qR{h:yu}{c:ZC}(n:h.Ns1 d c):∃od,h.get? d∣od/\∀name,V7 name od∣c name:=by
 let%[o,es,m,f,g,i,_|j]:=n;show%[o,f|λname=>?_];let e:=j name;unfold nsFind findBy at e;rw[<-SR]at e;unfold V7;rw[g];dsimp only
 split
 .rename_i y q
  rw[q]at e;show tI hY e
 .rename_i q
  rw[q]at e;let a:es.toList.any (·.refKey)=jg:=by
   rw[hH.any_eq_false];intro y l;let%[z,t|b]:=i y (OD.mp l);simp[Rw.refKey,b]
  rw[kw (a▸Zt)];show tI hY e
def xh.look(I:xh h x a C b):∃od,PySem.W.InstAt h x (RT C a) C (hY od)/\∀name,V7 name od∣b name:=
 let⟨od,c,d⟩:=qR I.ns
 %[od,%[I.obj,rfl,rfl|c]|d]
section
#where
variable{K:ZA}{x dx C f:kG}{mA:ZC}{name:lx}{v:ku}
def EW(X:K.In s.heap)(I:xh s.heap x dx C mA)(c:Sa K C name=iv)(d:NV K C=iv)
 (e:Lq K (.ref C) name∣hX) (g:mA name∣v) (a:V9 v=iv) (h:Q v {s with toks:=s.toks+1}):
 ↥A (Vb (.ref x) name b) Q E s:=by
 let%[od,J|i]:=I.look;show PySem.W.get_value X J (T4 c).1 (findObj_own d e rfl (by rw[i,g])) a h
def BY(X:K.In s.heap)(I:xh s.heap x dx C mA)(a:Sa K C name=iv)
 (b:Lq K (.ref C) name∣hY (.ref f)) (c:V8 K (.ref f)=iv) (d:mA name=hX) (h:Q (.ref f,[.ref x]) s):
 ↥A (O7 (.ref x) name pl) Q E s:=by
 let%[od,J|e]:=I.look;show PySem.W.method_fn X J (T4 a).1 (T4 a).2 b (Mv.mp c) (by change(V7 name od).map _∣jg;rw[e,d];rfl) h
def EX(X:K.In s.heap)(I:xh s.heap x dx C mA)
 (j:Lq K (.ref C) "__setattr__"=hY (hY (.builtin "object.__setattr__"))) (l:Vy K C=iv) (m:takerIn K C name∣hX) (n:NV K C=iv)
 (hw:PySem.Within mA o) (p: ~~~o<=mv)
 (h:∀h',xh h' x dx C (λy=>if y=name then hY v else mA y)->vr dx s.heap h'->Q () {s with heap:=h',toks:=s.toks+2}):
 ↥A (setAttr (.ref x) name v) Q E s:=by
 let%[od,J|z]:=I.look;show set_plain X J j (PySem.W.osa_open X J l m λb=>?_);let%[B,q|d]:=O9 n;show Z2 (Z3 (Z2 (Z2 (Ov I.obj (Z2 (OM (T6 X q) ?_))))));rw[d];show Z3 (Z2 (Z3 (Z2 (wpAny_nsSet1 I.ns λh' a c=>?_))));let%[G,r,u,e,g|i]:=a.count (PySem.Within.cons name v hw);show Z2 (Vq e (g▸Vz (n7 i (!2))) (Z3 (h _ %[(c.2 _ (J0 I.ne)).trans I.obj,a|I.ne] c)))
def BZ{R:Rs->mu->Prop}(X:K.In s.heap)(b:makesIn K C=iv)
 (hi:Lq K (.ref C) "__init__"=hY (hY (.ref f))) (c:UK K (.ref f)∣.type "function")
 (h:NQ (Lx prog w) (A.under (.builtin "type.__call__" %[.ref C::vs|a])) (.call (.ref f) %[.ref (⇑s+1)::vs|a]) (PySem.W.InitBack (⇑s+1) R)
  (s>>>(s.heap.push P9).push (RT C ⇑s))):
 NQ (Lx prog w) A (.call (.ref C) %[vs|a]) R s:=by
 show PySem.W.make_core (PySem.W.makes_of X b) (QZ X hi) (λself=>PySem.W.bind_fn X self c) (.inl rfl) h
end
abbrev d0(f:lx)(v:V):hH (lx×V)->hH (lx×V)
 |[]=>[(f,v)]
 |(g,x)::r=>if g=f then(g,v)::r else(g,x)::d0 f v r
def mF(f g:lx)(v:V):∀fs,(d0 f v fs).lookup g=if g=f then hY v else fs.lookup g
 |[]=>by
  change Mz g [(f,v)]=_;by_cases h:g=f
  .let a:=Mv.mpr h;simp only[Mz,a,md h]
  .let a:=K5.mpr h;simp only[Mz,a,kw h]
 |(k,x)::r=>by
  rw[show d0 f v _=(if k=f then(k,v)::r else(k,x)::d0 f v r)from rfl];by_cases b:k=f
  .rw[md b];by_cases h:g=k
   .let a:=Mv.mpr h;simp only[Mz,a,md (h.trans b)]
   .let a:=K5.mpr h;simp only[Mz,a,kw (λe:g=f=>h (e.trans b.symm))]
  .rw[kw b];by_cases h:g=k
   .let a:=Mv.mpr h;simp only[Mz,a,kw (λe=>b (h.symm.trans e))]
   .let a:=K5.mpr h;simp only[Mz,a];show(mF f g v r)
def lS(f:lx)(v:V):∀fs:hH (lx×V),f∈(d0 f v fs)\1/\∀g,g∈fs\1->g∈(d0 f v fs)\1
 |[]=>%[by simp[d0]|λg h=>by simp at h]
 |(k,x)::r=>by
  let%[a|b]:=lS f v r;rw[show d0 f v _=(if k=f then(k,v)::r else(k,x)::d0 f v r)from rfl]
  grind
def mG(f:lx)(v:V):∀fs,~~~(d0 f v fs)<= ~~~fs+1
 |[]=>by simp[d0]
 |(k,x)::r=>by
  let a:=mG f v r;rw[show d0 f v _=(if k=f then(k,v)::r else(k,x)::d0 f v r)from rfl];by_cases b:k=f
  .simp_all
  simp_all
def fY.some_of(r:fY (hY v) o):∃u,o∣u/\aT v u:=by
 cases o with
 | none=>show(r).elim
 | some u=>show%[u,ρ|r]
def fY.none_of(r:fY hX o):o=hX:=by
 cases o with
 | none=>rfl
 | some u=>show(r).elim
def qS(r:aT v u):V9 u=iv:=by
 cases v with
 | non=>cases(r);rfl
 | bl b=>cases(r);rfl
 | int i=>have%[t|e]:=(r);cases e;rfl
 | str x=>have%[t|e]:=(r);cases e;rfl
 | byt b=>have%[t|e]:=(r);cases e;rfl
 | flt b=>have%[t|e]:=(r);cases e;rfl
 | ref a=>cases(r);rfl
 | ty n=>cases(r);rfl
section
variable{P:nX}{w:v0}{H H':Hp}{h h':yu}{a C dx:kG}{fs fs':hH (lx×V)}
def nC(c:HOk P w H h)(e:H a∣.ins C dx fs):∃b,xh h a dx C b/\(∀f,fY (fs.lookup f) (b f))/\PySem.Within b (fs\1)/\ ~~~fs<=1000/\H dx∣.own a:=by
 let%[d,z,ne,g,b,n,r|q]:=(c a _ e)
 show%[b,%[g,n|ne],r,q,z|d]
end
structure Cls (K:ZA) (C:kG):Prop where
 pg:Sa K C K3=iv
 hd:NV K C=iv
 po:Vy K C=iv
 sa:Lq K (.ref C) "__setattr__"=hY (hY (.builtin "object.__setattr__"))
def Cls.get{K:ZA}{C:kG}(c:Cls K C)(f:lx):Sa K C f=iv:=c.pg
abbrev gJ(K:ZA)(C:kG)(f:lx):Prop:=Lq K (.ref C) f∣hX
def gJ.taker{K:ZA}{C:kG}{f:lx}(n:gJ K C f):takerIn K C f∣hX:=by
 unfold takerIn;rw[n];rfl
structure EY (K:ZA) (C:kG) (m:lx) (f:kG):Prop where
 at_:Lq K (.ref C) m∣hY (.ref f)
 fn:V8 K (.ref f)=iv
 kp:Nt K (.ref f)=iv
section
#version
variable{a C dx:kG}{fs:hH (lx×V)}{f:lx}{v:V}{A:vi}{E:ZD}
def xi(I:Qd X ij σ H s)(e:H a∣.ins C dx fs)(c:Cls X.K C)(n:gJ X.K C f)(l:fs.lookup f∣v)
 (h:∀u s',Qd X ij σ H s'->aT v u->Q u s'):sh (Lx X.prog X.w) A (Vb (.ref a) f b) Q E s:=by
 let%[i,O,r,_,_|_]:=nC I.hok e;let%[u,g|d]:=fY.some_of (l▸r f);show EW I.kIn O (c.get f) c.hd n g (qS d) (h u _ (I.tok _) d)
def xj(I:Qd X ij σ H s)(e:H a∣.ins C dx fs)(c:Cls X.K C)(k:EY X.K C m g)(l:fs.lookup m=hX)
 (h:Q (.ref g,[.ref a]) s):sh (Lx X.prog X.w) A (O7 (.ref a) m pl) Q E s:=by
 let%[b,O,r,_,_|_]:=nC I.hok e;show BY I.kIn O (c.get m) k.at_ k.fn (fY.none_of (l▸r m)) h
def xo(I:Qd X ij σ H s)(e:H a∣.ins C dx fs)(c:Cls X.K C)(n:gJ X.K C f)(J: ~~~fs<1000)(l:aT y u)
 (h:∀s',Qd X ij σ (Qb H a (.ins C dx (d0 f y fs))) s'->Q () s'):sh (Lx X.prog X.w) A (setAttr (.ref a) f u) Q E s:=by
 let%[m,O,r,i,_|j]:=nC I.hok e;show EX I.kIn O c.sa c.po n.taker c.hd i (by rw[Z6,Le];lia) λh' d p=>h _ (I.write (e▸Li) (.inr j) (λb q w z=>(p.2 b w).trans z) (let⟨o,_,_,B,_⟩:=d.ns;%[o|B]) %[(ao O.ne)▸j,?_,O.ne,d.obj,_,d.ns,λg=>?_|λg G=>?_])
 .let:=mG f y fs;lia
 .rw[mF];by_cases q:g=f
  .rw[md q,md q];show l
  .rw[kw q,kw q];show r g
 .by_cases q:g=f
  .show q▸(lS f y fs).1
  .show(lS f y fs).2 g (i g λz=>G ?_);change(if g=f then hY u else m g)=hX;rw[kw q];show z
def Qd.made(I:Qd X ij σ H s):Qd X ij σ (Qb (Qb H ⇑s (.own (⇑s+1))) (⇑s+1) (.ins C ⇑s []))
 (s>>>(s.heap.push P9).push (RT C ⇑s)):=by
 let c:(s.heap.push P9).get? ⇑s∣P9:=Zj s.heap rfl;let d:=by
  let:=Zj (s.heap.push P9) (o:=RT C ⇑s) rfl;rwa[Zq]at this
 show(I.laid (o:= .own (⇑s+1)) (t':=s.toks) (λb u q=>Z7 _ q) (Zi _) %[_|c]).laid (λb u q=>Z7 _ q) (Sq (Zq _ _)) ?_;let ne:⇑s≠⇑s+1:=Zs (Yn _);show%[by rw[ao ne,aa],Xc _,ne,d,λ_=>hX,(Sv %[P9,#[],_,c,ρ,(λe g=>ow g ∅)|λ_=>rfl]).at λo q=>Z7 _ q,λ_=>Li|λy h=>ow rfl h]
def yK(c:Mf e f env (LB e env)=LB e env)
 (h:↥A (LB e env) (λo b=>↥A (Vb o f iv) Q E b) E s):↥A (LB (.Attribute e f pos) env) Q E s:=
 Attribute_any_ h (by rw[arm_eval_Attribute,c])
end
abbrev HE(K:ZA)(c:TE)(f:lx):TE:=λd H Q=>c d H λx b=>asR x λa=>∃C e fs,b a∣.ins C e fs/\Cls K C/\gJ K C f/\∃v,fs.lookup f∣v/\Q v b
abbrev HF(K:ZA)(e g:TE)(f:lx):TS:=λD b H=>g b H λy h=>e b h λx c=>asR x λa=>∃C d fs,c a∣.ins C d fs/\Cls K C/\gJ K C f/\ ~~~fs<1000/\
 D.nx b (Qb c a (.ins C d (d0 f y fs)))
section
variable{X:Cx}{o e value:Ds}{f:lx}{pos pos' tpos:Pos}{ta tv:TE}
def HG(b:PE X e ta)(d:Mf e f X.env (LB e X.env)=LB e X.env):PE X (.Attribute e f pos) (HE X.K ta f):=by
 intro ij s g H Q I h;show yK d (thP (b ij s g H _ I h) λu y x i j m h=>?_);let%[a,rfl,C,z,fs,p,c,n,v,l|q]:=aM h;obtain rfl:u=m4 a:=m;show xi j p c n l λA B r w=>%[v,i,r,w|q]
def HH(d:PE X o ta)(g:PE X value tv)(i:NA value (hY (.Attribute o f pos')) pos.line X.env=pure jg):PS X (.Assign [.Attribute o f pos'] value pos) (HF X.K ta tv f):=by
 intro ij s b H D I h;show Re (thP (g ij s b H _ I h) λu j y m p r q=>thP (d ij j b m _ p q) λv G x J w z h=>?_) i;let%[a,rfl,C,L,fs,A,c,n,l|B]:=aM h;obtain rfl:v=m4 a:=z;show xo w A c n l r λM E=>%[b,_,E|B]
end
section
#version
variable{A:vi}{E:ZD}{Q:ZD}{c:ku}{b:ri}
inductive j3 (K:ZA) (H:Hp):V->ku->Prop where
 | non:j3 K H .non (.type "NoneType")
 | bl (x:ri):j3 K H (.bl x) (.type "bool")
 | int (i:pp):j3 K H (.int i) (.type "int")
 | str (x:lx):j3 K H (.str x) (.type "str")
 | flt (x:UInt64):j3 K H (.flt x) (.type "float")
 | lst {a:kG} {xs:hH V} (e:H a<*xs):j3 K H (.ref a) (.type "list")
 | frz {a:kG} {o:MU} {xs:hH V} (e:H a∣.frz o (.lst xs)):j3 K H (.ref a) (.type "list")
 | tup {a:kG} {xs:hH V} (e:H a&&&xs):j3 K H (.ref a) (.type "tuple")
 | dK {a:kG} {kvs:hH _} (e:H a∣.dK kvs):j3 K H (.ref a) (.type "dict")
 | dT {a:kG} {kvs:hH _} (e:H a∣.dT kvs):j3 K H (.ref a) (.type "dict")
 | ins {a C dx:kG} {fs:hH _} (e:H a∣.ins C dx fs) (cl:Cls K C) (ha:Lq K (.ref C) "__class__"=hY (hY (.builtin "object.__class__")))
  (hn:Rn K (.builtin "object.__class__") "__get__"=hY (hY (.builtin "getset_descriptor.__get__"))) (htk:takesIn K (.builtin "object.__class__")∣iv)
  (hm:mroIn K C (.type "object")∣iv):j3 K H (.ref a) (.ref C)
def Af(I:Qd X ij σ H s)(d:aT x u)(ty:j3 X.K H x t)(e:OE X.K t c∣b)(h:∀tk,Q (.bool b) {s with toks:=tk}):
 sh (Lx X.prog X.w) A (call (.builtin "isinstance") [u,c]) Q E s:=by
 cases ty with
 | non=>cases(d);show Nh kitx_none I.kIn Li e (λz=>nomatch z) h
 | bl y=>cases(d);show Nh PySem.W.kitx_bool I.kIn Li e (λz=>nomatch z) h
 | int i=>have%[t|q]:=(d);cases q;show Nh PySem.W.kitx_int I.kIn Li e (λz=>nomatch z) h
 | str y=>have%[t|q]:=(d);cases q;show Nh PySem.W.kitx_str I.kIn Li e (λz=>nomatch z) h
 | flt y=>have%[t|q]:=(d);cases q;show Nh PySem.W.kitx_float I.kIn Li e (λz=>nomatch z) h
 | @lst a xs f=>
   cases(d);let%[_,_,n,_|g]:=(I.hok a _ f)
   show Nh kitx_list I.kIn %[_,g|rfl] e (λz=>nomatch z) h
 | @frz a L xs f=>
   cases(d);let%[_,_,_,n,_|g]:=(I.hok a _ f)
   show Nh kitx_list I.kIn %[_,g|rfl] e (λz=>nomatch z) h
 | @tup a xs f=>
   cases(d);let%[_,_,_|p]:=(I.hok a _ f)
   let%[o,g,j|_]:=p;show Nh PySem.W.kitx_tuple I.kIn %[o,g|j] e (λz=>nomatch z) h
 | @dK a l f=>
   cases(show u=m4 a from d);let%[_,_,vs,_|p]:=(I.hok a _ f)
   let%[o,es,v,g,j|_]:=p;show Nh VA I.kIn %[o,g|j.1] e (λz=>nomatch z) h
 | @dT a l f=>
   cases(show u=m4 a from d);let%[_,_,xs,_,o,es,v,g,j|_]:=(I.hok a _ f)
   show Nh VA I.kIn %[o,g|j.1] e (λz=>nomatch z) h
 | @ins a C M fs f r w B m G=>
   cases(d);let%[N,O|_]:=nC I.hok f;let%[od,J|_]:=O.look;show Nh (PySem.W.kitx_own (r.get _) r.hd w B m G) I.kIn J e (λz=>nomatch z) h
end
structure bE (k:kj) (A:vi):Prop where
 hd:A.handled=hX
 dp:A.depth+3*k+5<recursionLimit
 un:A.units+16*k+200<M3
 gd:A.guards∣[]
def bE.mono(r:bE k A)(h:j<=k):bE j A:=%[r.hd,by let:=r.dp;lia,by let:=r.un;lia|r.gd]
def bE.deeper(r:bE (k+1) A)(env:Env):bE k (A.deeper env):=
 %[r.hd,by let:=r.dp;change A.depth+1+3*k+5<_;lia,by let:=r.un;change A.units+3+16*k+200<_;lia|r.gd]
def xp{A:vi}:(A.under (.builtin "type.__call__" %[.ref C::us|a])).depth=A.depth+1:=by
 first|rfl|lia
def xq{A:vi}:(A.under (.builtin "type.__call__" %[.ref C::us|a])).units=A.units+1:=by
 first|rfl|lia
def bE.make(r:bE (k+1) A)(C:kG)(us:ZF)(a:hH (lx×ku)):bE k (A.under (.builtin "type.__call__" %[.ref C::us|a])):=
 %[r.hd,by let:=r.dp;rw[xp];lia,by let:=r.un;rw[xq];lia|r.gd]
def bE.depth(r:bE k A):A.depth<recursionLimit:=by let:=r.dp;lia
def bE.units(r:bE k A):A.units+64<M3:=by let:=r.un;lia
abbrev xt:TA:=λ_ H Q=>Q [] H
abbrev yL(b:TE)(c:TA):TA:=λa H Q=>b a H λx d=>c a d λxs e=>Q (x::xs) e
section
variable{X:Cx}{e:Ds}{es:hH Ds}{te:TE}{t:TA}{pos:Pos}
def B0:PA X [] xt:=λ_ _ _ _ H Q I h=>Calls.spliced_nil %[[],H,I,.nil|h]
def yM(b:PE X e te)(c:PA X es t)(d:vj (e::es) X.env=(jg,LB e X.env)::vj es X.env):PA X (e::es) (yL te t):=by
 intro pos ij s a H Q I h;rw[d];change sh _ _ (spliced ((jg,LB e X.env)::Mm pos _)) _ _ s;show Calls.spliced_cons (thP (b ij s a H _ I h) λu f x g i j l=>thP (c pos ij f a g _ i l) λus q xs m n o p=>%[x::xs,m,n,.cons j o|p])
abbrev HI(t:TA):TE:=λb H Q=>t b H λxs a=> ~~~xs<=mv/\∀p,a p=hX->Q (.ref p) (Qb a p (.tup xs))
abbrev HJ(t:TA):TE:=λb H Q=>t b H λxs a=> ~~~xs<=mv/\∀p,a p=hX->Q (.ref p) (Qb a p (.lst xs))
def HK{d}(h:PA X es t):PE X (.Tuple es d pos) (HI t):=by
 intro ij s f H Q I g;show wpAny_Tuple_spliced (thP (h pos ij s f H _ I g) λus a xs i c r ⟨z,q⟩=>%[~~~r▸z|?_]);let j:=c.hok.fresh (Zi _);show%[.ref ⇑a,Qb i ⇑a _,c.laid (λb u e=>Z7 _ e) (Zi _) ?_,ρ|q _ j];show%[z,us,r,_,Zj _ rfl,ρ,_|ρ]
def HL(h:PA X es t):PE X (.List es pos) (HJ t):=by
 intro ij s d H Q I f;show wpAny_List_spliced (thP (h pos ij s d H _ I f) λus a xs g c r ⟨z,q⟩=>%[~~~r▸z|?_]);let i:=c.hok.fresh (Zi _);show%[.ref ⇑a,Qb g ⇑a _,c.laid (λb u e=>Z7 _ e) (Zi _) ?_,ρ|q _ i];show%[z,us,0,r|Zj _ rfl]
end
noncomputable abbrev Sp:=hH V->Hp->VK->XK->Prop
noncomputable abbrev CXT:=hH Env->Hp->mu->XK->ku->mu->Prop
structure xu (P:nX) (w:v0) (K:ZA) (mg:ZC) (base:yu) (A:vi) (outer:hH Env) (s:mu) (H:Hp):Prop where
 frames:A.frames∣outer
 mod:Mod K mg base
 bs:∀b o,base.get? b∣o->s.heap.get? b∣o/\H b=hX
 bsz:base.objs.size<=⇑s
 funs:s.heap.FunFrames base outer
 frf:∀b∈frs outer,H b=hX
 hok:HOk P w H s.heap
 bare:OU s.gens
abbrev CE(outer:hH Env)(P:nX)(w:v0)(H:Hp)(s:mu)(Q:VK)(u:ku)(s':mu):Prop:=
 ∃v a,s'.os=s.os/\OU s'.gens/\Un (frs outer) [] H a s.heap s'.heap/\HOk P w a s'.heap/\aT v u/\Q v a
abbrev CR(CX:CXT)(outer:hH Env)(P:nX)(w:v0)(H:Hp)(s:mu)(Q:VK)(E:XK)(r:Rs)(s':mu):Prop:=
 match r with
 | .ok (.ret u)=>CE outer P w H s Q u s'
 | .ok _=>KZ
 | .error e=>CX outer H s E e s'
structure dG (P:nX) (w:v0) (K:ZA) (mg:ZC) (base:yu) (CX:CXT) (k:kj) (f:kG) (fd:Nc) (ps:ZB) (sp:Sp):Prop where
 len:∀vs H Q E,sp vs H Q E-> ~~~vs= ~~~ps
 run:∀A outer s H args us vs Q E,bE k A->xu P w K mg base A outer s H->R3 s fd args (ps.zip us)->aI vs us->sp vs H Q E->
  NQ (Lx P w) A (.call (.ref f) args) (CR CX outer P w H s Q E) s
def dG.imp{P:nX}{K:ZA}(F:dG P w K mg base CX k f b ps sp)
 (h:∀vs H Q E,a vs H Q E->sp vs H Q E):dG P w K mg base CX k f b ps a:=
 %[λvs H Q E q=>F.len vs H Q E (h _ _ _ _ q)|λA outer s H args us vs Q E c d e g i=>F.run A outer s H args us vs Q E c d e g (h _ _ _ _ i)]
def xu.make{P:nX}{K:ZA}(e:xu P w K mg base A outer s H)(C:kG)(us:ZF)(a:hH (lx×ku)):
 xu P w K mg base (A.under (.builtin "type.__call__" %[.ref C::us|a])) outer s H:=⟨by first|show e.frames|lia,e.mod,e.bs,e.bsz,e.funs,e.frf,e.hok,e.bare⟩
section
variable{X:Cx}{ij:ZE}{σ:St}{H:Hp}{s s':mu}
def Qd.env0(I:Qd X ij σ H s):xu X.prog X.w X.K X.mg X.base X.A X.stack s H:=
 %[I.ok.frames,I.ok.mod,I.bs,n7 I.ok.bsz I.sz,I.stack,I.stkFree,I.hok|I.bare]
def Qd.after(I:Qd X ij σ H s)(h:CE X.stack X.prog X.w H s Q u s'):EP X ij σ Q u s':=by
 let%[v,f,os,a,un,c,r|q]:=h;let%[i,g,d,t|e]:=s';obtain rfl:e=s.os:=os;show%[v,f,I.call un c a (λb z=>ow z ∅),r|q]
end
abbrev qT(sp:Sp)(dvs:hH V)(E:XK)(t:TA):TE:=λa H Q=>t a H λvs b=>sp (vs++dvs) b Q E
abbrev yN(C:kG)(m:lx)(sp:Sp)(dvs:hH V)(E:XK)(d:TE)(t:TA):TE:=λb H Q=>d b H λx c=>∃a e fs,x= .ref a/\c a∣.ins C e fs/\fs.lookup m=hX/\
 t b c λvs f=>sp (x::(vs++dvs)) f Q E
abbrev yO(C:kG)(sp:Sp)(dvs:hH V)(E:XK)(t:TA):TE:=λc H Q=>t c H λvs b=>∀x a,b x=hX->b a=hX->a≠x->
 sp (.ref x::(vs++dvs)) (Qb (Qb b a (.own x)) x (.ins C a [])) (λv d=>v= .non/\Q (.ref x) d) E
abbrev dH(K:ZA)(a:Nc)(ps:ZB)(ds:ZF):Prop:=
 ∀s us,K.In s.heap-> ~~~(us++ds)= ~~~ps->R3 s a %[us|[]] (ps.zip (us++ds))
def dH.all{K:ZA}(h:∀us:ZF,~~~us= ~~~ps->bindArgs b %[us|[]]=pure (ps.zip us)):dH K b ps []:=λs us _ a=>by
 rw[Zx]at a ⊢;show .of_eq (h us a)
abbrev ik(CX:CXT)(X:Cx)(E:XK):Prop:=∀ij (a:St) H s e s',Qd X ij a H s->CX X.stack H s E e s'->X.xe e s'
section
variable{X:Cx}{CX:CXT}{k:kj}{f C:kG}{fd:Nc}{ps:ZB}{sp:Sp}{dvs:hH V}{ds:ZF}{E:XK}{x m:lx}{p pos apos:Pos}{e o:Ds}{es:hH Ds}{ta:TE}{t:TA}
def B1(F:dG X.prog X.w X.K X.mg X.base CX k f fd ps sp)(d:bE k X.A)(g:dH X.K fd ps ds)(i:aI dvs ds)(j:ik CX X E)
 (I:Qd X ij b H s) (r:aI vs us) (h:sp (vs++dvs) H Q E):(X⁻¹) (call (.ref f) us) (EP X ij b Q) X.xe s:=by
 let c:=r.append i;show MJ (codeAny_mono (F.run X.A X.stack s H _ _ _ Q E d I.env0 (g s us I.kIn (~~~c▸F.len _ _ _ _ h)) c h) λr s' a=>?_);cases r with
 | error e=>show j ij b H s e s' I a
 | ok l=>
   cases l with
   | ret u=>show I.after a
   | next=>show Lh a
   | brk=>show Lh a
   | cont=>show Lh a
def yP(F:dG X.prog X.w X.K X.mg X.base CX k f fd ps sp)(d:bE k X.A)(g:Gl X x)(i:X.mg x∣.ref f)(j:Nt X.K (.ref f)=iv)(l:dH X.K fd ps ds)(n:aI dvs ds)(u:ik CX X E)
 (v:PA X (e::es) t) (a:(x==("__debug__":lx))=jg) (w:vj (e::es) X.env=(jg,LB e X.env)::vj es X.env) (b:(Mm pos (vj es X.env)).any (·.1)=jg):
 PE X (.Call (.Name x p) (e::es) [] pos) (qT sp dvs E t):=by
 intro ij s y H Q I h;show Mh (ig I g i (Sh I.ok.mod.kin j (thP (v pos ij s y H _ I h) λus z vs A c r q=>%[c.kIn|B1 F d l n u c r q]) w b) a)
def B2(i:PE X o ta)(c:Cls X.K C)(d:EY X.K C m f)(F:dG X.prog X.w X.K X.mg X.base CX k f fd ps sp)(j:bE k X.A)(n:dH X.K fd ps ds)(r:aI dvs ds)(v:ik CX X E)
 (w:LB (.Call (.Attribute o m apos) [] [] pos) X.env=(do
  let g<-LB o X.env
  Of apos.atName
  let(f,first)<-Pk [g] (O7 g m pl)
  Si pos f first (Mm pos (vj [] X.env)) (N8 pos (MG [] X.env)))):
 PE X (.Call (.Attribute o m apos) [] [] pos) (yN C m sp dvs E ta xt):=by
 intro ij s y H Q I h;show PySem.W.methodCall_KW (thP (i ij s y H _ I h) λu B x G b z ⟨a,J,fs,ex,A,l,q⟩=>?_) w;subst ex;obtain rfl:u=m4 a:=z;show xj b A c d l (PySem.W.callWith_K0 b.kIn d.kp (B1 (us:=[.ref a]) (vs:=[.ref a]) F j n r v b (.cons rfl .nil) q))
structure Mk (K:ZA) (C f:kG):Prop where
 makes:makesIn K C=iv
 init:Lq K (.ref C) "__init__"=hY (hY (.ref f))
 fn:V8 K (.ref f)=iv
 kp:Nt K (.ref C)=iv
def B3(M:Mk X.K C f)(F:dG X.prog X.w X.K X.mg X.base CX k f fd ps sp)(j:bE (k+1) X.A)(l:dH X.K fd ps ds)(n:aI dvs ds)
 (q:ik CX X E) (I:Qd X ij d H s) (r:aI vs us)
 (h:∀x b,H x=hX->H b=hX->b≠x->sp (.ref x::(vs++dvs)) (Qb (Qb H b (.own x)) x (.ins C b [])) (λv w=>v= .non/\Q (.ref x) w) E):
 (X⁻¹) (call (.ref C) us) (EP X ij d Q) X.xe s:=by
 let g:=h (⇑s+1) ⇑s (I.hok.fresh (Yf _)) (I.hok.fresh (Zi _)) (Zs (Yn _));let c:=Qd.made (C:=C) I;let i:aI (V.ref (⇑s+1)::(vs++dvs)) _:= .cons rfl (r.append n);let y:=by
  let e:= ~~~i;rw[F.len _ _ _ _ g]at e;show e.symm
 show MJ (BZ I.kIn M.makes M.init (Mv.mp M.fn) (codeAny_mono (F.run _ X.stack _ _ _ _ _ _ E (j.make C us [])
  (c.env0.make C us []) (l _ _ c.kIn y) i g) λr s' a=>?_))
 cases r with
 | error e=>show q ij d _ _ e s' c a
 | ok z=>
   cases z with
   | ret u=>
     let%[v,A,B,G,J|L]:=c.after a;subst J;show%[G,V.ref _,A,B,ρ|L]
   | next=>show Lh a
   | brk=>show Lh a
   | cont=>show Lh a
def EZ(M:Mk X.K C f)(F:dG X.prog X.w X.K X.mg X.base CX k f fd ps sp)(d:bE (k+1) X.A)(g:Gl X x)(i:X.mg x∣.ref C)(j:dH X.K fd ps ds)(l:aI dvs ds)(n:ik CX X E)
 (u:PA X (e::es) t) (a:(x==("__debug__":lx))=jg) (v:vj (e::es) X.env=(jg,LB e X.env)::vj es X.env) (b:(Mm pos (vj es X.env)).any (·.1)=jg):
 PE X (.Call (.Name x p) (e::es) [] pos) (yO C sp dvs E t):=by
 intro ij s w H Q I h;show Mh (ig I g i (Sh I.ok.mod.kin M.kp (thP (u pos ij s w H _ I h) λus y vs z c r q=>%[c.kIn|B3 M F d j l n c r q]) v b) a)
end
abbrev PK(X:Cx)(a:hH N6)(t:TA):Prop:=
 ∀pos ij s (b:St) H Q,Qd X ij b H s->t b H Q->(X⁻¹) (evalAll ((N8 pos (MG a X.env))\2)) (AP X ij b Q) X.xe s
section
variable{X:Cx}{CX:CXT}{k:kj}{f C:kG}{fd:Nc}{ps ks:ZB}{sp:Sp}{E:XK}{x m:lx}{p pos apos kpos:Pos}{e o:Ds}{es:hH Ds}{kws:hH N6}{te ta:TE}{t tk:TA}{nm:lX lx}
def HM:PK X [] xt:=λ_ _ _ _ H Q I h=>wpAny_evalAll_nil %[[],H,I,.nil|h]
def E8(b:PE X e te)(c:PK X kws t):PK X (%[nm,e|kpos]::kws) (yL te t):=by
 intro pos ij s a H Q I h;change sh _ _ (evalAll ((do let v<-LB e X.env;Of pos;pure v)::(N8 pos (MG kws X.env))\2)) _ _ s;show wpAny_evalAll_cons (Z2 (thP (b ij s a H _ I h) λu d x g i j l=>Z2 (N0 (Z3 ?_))));show thP (c pos ij d a g _ i l) λus y xs n q r w=>%[x::xs,n,q,.cons j r|w]
end
structure ar (N P:ZB) (sc:PY):Prop where
 kind:sc.kind= .function
 co:sc.isCoroutine=jg
 gen:sc.isGenerator=jg
 nd:N.Nodup
 pre:N.take P.length=P
 par:∀x∈P,sc.names.lookup x∣.local\/sc.names.lookup x∣.cell
 nofree:∀y∈sc.names,y.2≠ .free
def qU{kindOf:lx->lX K1}:∀{binds:hH (lx×ku)} {m:ZC},(∀v,(x,v)∉binds)->Uc kindOf binds m x=m x
 |[],_,_=>rfl
 |(n,v)::r,m,h=>by
  unfold Uc;rw[qU λw hw=>h w (Zk _ hw)]
  split
  .let:x≠n:=by rintro rfl;show h v Zm
   simp[this]
  .rfl
def qV{kindOf:lx->lX K1}:∀{binds:hH (lx×ku)} {m:ZC},(∀v,(x,v)∉binds)->Ud kindOf binds m x=m x
 |[],_,_=>rfl
 |(n,v)::r,m,h=>by
  unfold Ud;rw[qV λw hw=>h w (Zk _ hw)]
  split
  .rfl
  .let:x≠n:=by rintro rfl;show h v Zm
   simp[this]
def qW{kindOf:lx->lX K1}{x:lx}:∀{P:ZB} {vs:ZF} {i:kj} {m:ZC},P.Nodup->P[i]?∣x->vs[i]?∣v->kindOf x∣.local->
 Uc kindOf (P.zip vs) m x∣v
 |[],_,_,_,_,h,_,_=>by simp at h
 | _::_,[],_,_,_,_,h,_=>by simp at h
 | p::P,w::vs,0,m,nd,a,b,c=>by
   simp at a b;subst a;subst b;change Uc kindOf ((p,w)::P.zip vs) m p=_;unfold Uc;rw[qU λv d=>(Mi.mp nd).1 (UL d).1,md c];simp
 | p::P,w::vs,i+1,m,nd,a,b,c=>by
   change Uc kindOf ((p,w)::P.zip vs) m x=_;show qW (Mi.mp nd).2 (a) (b) c
def qX{kindOf:lx->lX K1}{x:lx}:∀{P:ZB} {vs:ZF} {i:kj} {m:ZC},P.Nodup->P[i]?∣x->vs[i]?∣v->kindOf x≠hY .local->
 Ud kindOf (P.zip vs) m x∣v
 |[],_,_,_,_,h,_,_=>by simp at h
 | _::_,[],_,_,_,_,h,_=>by simp at h
 | p::P,w::vs,0,m,nd,a,b,c=>by
   simp at a b;subst a;subst b;change Ud kindOf ((p,w)::P.zip vs) m p=_;unfold Ud;rw[qV λv d=>(Mi.mp nd).1 (UL d).1,kw c];simp
 | p::P,w::vs,i+1,m,nd,a,b,c=>by
   change Ud kindOf ((p,w)::P.zip vs) m x=_;show qX (Mi.mp nd).2 (a) (b) c
abbrev start(N:ZB)(vs:hH V):St:=vs.map hY++G2 (~~~N-vs.length) hX
abbrev fo(CX:CXT)(P:nX)(w:v0)(K:ZA)(mg:ZC)(base:yu)(N:ZB)(qual:lx)(scope:PY)(f:kG)(cd:ku)(A:vi)(outer:hH Env)(s:mu)(H:Hp)(E:XK):Cx where
 prog:=P
 w:=w
 K:=K
 mg:=mg
 base:=base
 A:=A.deeper (LQ qual scope ⇑s f cd)
 N:=N
 s₀:=s
 H₀:=H
 env:=LQ qual scope ⇑s f cd
 outer:=outer
 stack:=LQ qual scope ⇑s f cd::outer
 ex:=[]
 calm:=iv
 fn:=λ_=>iv
 pn:=[]
 xe:=λe s'=>sh (Lx P w) (A.deeper (LQ qual scope ⇑s f cd)) (leaving (LQ qual scope ⇑s f cd) e) (λ_ s''=>CX outer H s E e s'') (λe' s''=>CX outer H s E e' s'') s'
def uZ{a:PY}{n:kj}{x:lx}(h:a.names.lookup x∣.cell):∃c,(Lv n a.names []).lookup x∣c:=by
 show OP.mp (PV a.names n [] (.inl h))
def Ag{P:nX}{K:ZA}
 (S:ar N ps a) (J:A.handled=hX) (g:xu P w K mg base A outer s H) (T: ~~~vs= ~~~ps) (r:aI vs us)
 (x:InCallC s ⇑s (Uc (LQ d a ⇑s f C).kindOf (ps.zip us) λ_=>hX) (Lv (⇑s+1) a.names []) (Ud (LQ d a ⇑s f C).kindOf (ps.zip us) λ_=>hX) L):
 Qd (fo CX P w K mg base N d a f C A outer s H E) [] (start N vs) H L:=by
 let M: ~~~ps<= ~~~N:=by let:=tI Lo S.pre;rw[Yk]at this;lia
 let%[B,tk,rfl|G]:=x.done;let l:∀b,b∉(fo CX P w K mg base N d a f C A outer s H E).ex:=λb z=>ow (show b∈([])from z) ∅
 show%[%[g.mod,S.kind,ρ,ρ,Zi _,λy z c B j=>?_,λy m=>?_,λy c _ h=>?_,λ_=>J,vi.frames_deeper g.frames,.inr %[ρ|ρ],λb z=>ow z (l b),g.bs,g.bsz,λb _ _=>l b,λb z=>ow z (l b),g.funs|g.frf],
  rfl,g.bare,Un.kept G,%[_,x.toInCall.ns|λi y v B j U=>?_],λy c h=>%[_|x.cell y c h],g.hok.fresh (Zi _),λy c h=>?_,λp n=>ow (show p∈([])from n) ∅,g.hok.kept G|?_]
 .show name_of_addr x.apart (PySem.mem_of_lookup B) (PySem.mem_of_lookup j)
 .rcases m with m|m
  .show uZ m
  .show ow rfl (S.nofree _ (PySem.mem_of_lookup m))
 .show Ye (x.above y c (PySem.mem_of_lookup h))
 .let hi:i< ~~~vs:=by
   unfold start at j;by_cases hi:i< ~~~vs
   .show hi
   .rw[Ya ↑hi]at j;rw[RR]at j
    split at j<;> cases j
  let O:vs[i]?∣v:=by
   unfold start at j;rw[Y9 ↑hi,Zl]at j
   simp_all
  let%[u,I|Q]:=r.get O;let n:ps[i]?∣y:=by
   rw[<-S.pre,Yb ⋯];show B
  let o:ps.Nodup:=S.pre▸S.nd.sublist (To _ _);show%[u,Q|?_];rcases S.par y (Z8 n)with k|k
  .show .inl %[k|qW o n I k]
  .let%[c|e]:=uZ k;show .inr %[.inl k,c,e|?_];let q:=x.cell y c e;rw[qX o n I (by change a.names.lookup y≠_;rw[k];decide)]at q;show q
 .show g.hok.fresh (Ye (x.above y c (PySem.mem_of_lookup h)))
 .unfold start;change _= ~~~N;rw[Z9,Z6,hH.length_replicate]
  lia
def GB{P:nX}{K:ZA}{U kV z Y d ct oc:ku}
 (lk:K.lookup f=hY %[oc,od,.func (Rp name c g i a U kV z Y an d ct)|ab]) (L:PU K d c=iv) (S:ar N ps a)
 (len:∀vs H Q E,sp vs H Q E-> ~~~vs= ~~~ps)
 (l:∀(A:vi) (outer:hH Env) (s:mu) (H:Hp) (vs:hH V) (Q:VK) (E:XK),bE k (A.deeper (LQ c a ⇑s f d))->sp vs H Q E->
  ∃t,PSs (fo CX P w K mg base N c a f d A outer s H E) i t/\t {nx:=λ_ j=>Q .non j,rt:=Q} (start N vs) H):
 dG P w K mg base CX (k+1) f (Rp name c g i a U kV z Y an d ct) ps sp:=by
 show%[len|λA outer s H args us vs Q E M B hb r C=>?_];let KX:=B.mod.kin.keeps λb o e=>(B.bs b o e).1
 let O:=B.mod.nolimit.keeps λb o e=>(B.bs b o e).1
 let m:∀y∈ps.zip us,a.names.lookup y.1∣_\/(a.names.lookup y.1∣_/\((Lv (⇑s+1) a.names []).lookup y.1).isSome=iv):=λ⟨n,v⟩ hy=>by
  rcases S.par n (UL hy).1 with q|q
  .show .inl q
  .show .inr %[q|PV _ _ _ (.inl q)]
 show codeAny_call_function M.depth (KX _ _ lk) rfl S.co S.gen rfl (PySem.W.codeRec_of KX L) (hb _ _ _ _ (wpAny_newFunctionEnv_cells S.kind m λenv he s1 x=>?_));subst he;show%[O.keeps x.toInCall.keep|codeAny_func ?_];let%[t,ht|hq]:=l A outer s H vs Q E (M.deeper _) C;let I:Qd (fo CX P w K mg base N c a f d A outer s H E) [] _ H s1:=Ag S M.hd B (len _ _ _ _ C) r x;show Lb (ht [] s1 _ H _ I hq) (λfl s' p=>?_) λe s' p=>p
 let G:∀{h:St} {j:Hp} {v:V} {u:ku},Qd (fo CX P w K mg base N c a f d A outer s H E) [] h j s'->aT v u->Q v j->CE outer P w H s Q u s':=
  λ{h j v u} J T q=>%[v,j,J.os,J.bare,J.base,J.hok,T|q]
 cases fl with
 | ret u=>
   let%[v,h,j,J,T|q]:=p;show G J T q
 | next=>
   let%[h,j,J|q]:=p;show G (v:=V.non) J rfl q
 | brk=>
   let%[_,_,_|q]:=p
   simp_all
 | cont=>
   let%[_,_,_|q]:=p;show Lh q
section
variable{X:Cx}{x:lx}{p pos:Pos}{e:Ds}{es:hH Ds}{t:TA}{id T:LF}{r:hH V->Hp->VK->Prop}
abbrev tCB(r:hH V->Hp->VK->Prop)(t:TA):TE:=λa H Q=>t a H λvs b=>r vs b Q
def B4(d:ci X (.builtin id) r)(f:Gl X x)(g:X.mg x=hX)(i:Mb x∣.builtin id)(j:PA X (e::es) t)(l:x≠"__name__")(a:(x==("__debug__":lx))=jg)
 (m:vj (e::es) X.env=(jg,LB e X.env)::vj es X.env) (b:(Mm pos (vj es X.env)).any (·.1)=jg):PE X (.Call (.Name x p) (e::es) [] pos) (tCB r t):=by
 intro ij s c H Q I h;show Mh (ii I f g i (Pc (thP (j pos ij s c H _ I h) λus n vs o q u v=>d ij n c o vs us Q q u v) m b) l a)
def Ah(d:ci X (.type T) r)(f:Gl X x)(g:X.mg x=hX)(i:Mb x∣.type T)(j:PA X (e::es) t)(l:x≠"__name__")(a:(x==("__debug__":lx))=jg)
 (m:vj (e::es) X.env=(jg,LB e X.env)::vj es X.env) (b:(Mm pos (vj es X.env)).any (·.1)=jg):PE X (.Call (.Name x p) (e::es) [] pos) (tCB r t):=by
 intro ij s c H Q I h;show Mh (ii I f g i (Lp (thP (j pos ij s c H _ I h) λus n vs o q u v=>d ij n c o vs us Q q u v) m b) l a)
end
end _LL
namespace _HT
open PySem PyProof.Rows
section
open PySem.SeqAt
open PySem.AutoSeq1 (wpAny_loadPart')
open PySem.MeetsSeq PySem.MeetsSeq2 PySem.MeetsSeq3
#where
abbrev sIx(n d:kj):lX pp->kj
 | none=>d
 | some v=>if v<0 then(v+n).toNat else min v.toNat n
def sIx_none(n d:kj):sIx n d hX=d:=rfl
def sIx_nat(n d k:kj):sIx n d (hY k)=min k n:=by
 change(if k<0 then((k:pp) +n).toNat else min _ n)=min k n;rw[kw ⋯,Ny]
end
end _HT
namespace _LL
open PySem PySem.Spec PyProof.Rows
noncomputable abbrev TO:=St->Hp->(lX pp->Hp->Prop)->Prop
abbrev PO(X:Cx)(e:lX Ds)(t:TO):Prop:=
 ∀ij s (a:St) H Q,Qd X ij a H s->t a H Q->
  (X⁻¹) (evalPart e X.env) (λu s'=>∃o b,Qd X ij a b s'/\IsPart u o/\Q o b) X.xe s
abbrev tE:TO:=λ_ H Q=>Q hX H
abbrev B5(t:TE):TO:=λa H Q=>t a H λx b=>asI x λi=>Q (hY i) b
section
variable{X:Cx}{e:Ds}{te:TE}{lo hi:lX Ds}{tl th:TO}{pos p2:Pos}
def E9:PO X hX tE:=by
 intro ij s a H Q I h;show Z3 %[hX,H,I,.none|h]
def Fa(h:PE X e te):PO X (hY e) (B5 te):=by
 intro ij s a H Q I hw;show thP (h ij s a H _ I hw) λu g x b c d f=>?_
 let%[i,rfl|q]:=cX f;let%[t|rfl]:=d;show%[hY i,b,c,.int i t|q]
abbrev SlR(X:Cx)(r:V->lX pp->lX pp->Hp->VK->Prop):Prop:=
 ∀ij s (a:St) H x v b c lo hi d Q,Qd X ij a H s->aT x v->s.heap.IsSliceOf d b c .none->IsPart b lo->IsPart c hi->r x lo hi H Q->
  ∃T id,Ow (.type T) "__getitem__"=pure (hY (.builtin id))/\s.TypeIs v T/\(X⁻¹) (RU v (.ref d)) (EP X ij a Q) X.xe s
abbrev tSl(r:V->lX pp->lX pp->Hp->VK->Prop)(te:TE)(tl th:TO):TE:=λa H Q=>te a H λx b=>tl a b λl c=>th a c λu d=>r x l u d Q
def B6(c:SlR X r)(d:PE X e te)(f:PO X lo tl)(g:PO X hi th):PE X (.Subscript e (.Slice lo hi hX p2) pos) (tSl r te tl th):=by
 intro ij s a H Q I h;show Sl (thP (d ij s a H _ I h) λv i x j m n o=>wpAny_Slice (thP (f ij i a j _ m o) λp w l y z pl A=>thP (g ij w a y _ z A) λB C u E G J L=>Z3 ?_));let%[T,id,M,N|O]:=c ij _ a E x v p B l u ⇑C Q (G.kept λb U q=>Z7 _ q) n (QK ..) pl J L;show tail_any N M O (by with_unfolding_all rfl)
abbrev xv(xs:hH V)(lo hi:lX pp):hH V:=(xs.drop (_HT.sIx xs.length 0 lo)).take (_HT.sIx xs.length xs.length hi-_HT.sIx xs.length 0 lo)
def u5(xs:hH V)(lo hi:lX pp): ~~~(xv xs lo hi)<= ~~~xs:=by
 unfold xv;rw[Yk,Yg]
 lia
end
abbrev ixN(n:kj)(i:pp):lX kj:=if 0<=i then(if i<n then hY i.toNat else hX)else if -n<=i then hY (i+n).toNat else hX
abbrev atI{a:Type}(xs:hH a)(i:pp):lX a:=(ixN xs.length i).bind λj=>xs[j]?
def Fb(h:ixN n i∣j):seqIndex? i n∣j/\j<n/\ -(n:pp)<=i/\i<n:=by
 unfold ixN at h;by_cases b:0<=i
 .rw[md b]at h;by_cases a:i<n
  .rw[md a]at h;show%[by rw[seqIndex_of b a,(Za h)],⋯,⋯|a]
  simp_all
 .rw[kw b]at h;by_cases a: -n<=i
  .rw[md a]at h;show%[by rw[seqIndex_neg ⋯ a,(Za h)],⋯,a|⋯]
  .rw[kw a]at h;cases h
def tF{a:Type}{xs:hH a}{i:pp}{v:a}(h:atI xs i∣v):∃j,seqIndex? i xs.length∣j/\xs[j]?∣v/\j< ~~~xs/\ -xs.length<=i/\i< ~~~xs:=by
 unfold atI at h;cases e:ixN xs.length i with
 | none=>simp_all
 | some j=>
   rw[e]at h;let%[b,c,d|f]:=Fb e;show%[j,b,h,c,d|f]
def bG{a:Type}{xs:hH a}{j:kj}{v:a}(h:xs[j]?∣v):atI xs j∣v:=by
 let b:=(Xj h).1;let e:ixN xs.length j∣j:=by
  unfold ixN
  simp_all
 unfold atI;show e▸h
def u8(xs:hH a)(v:a):atI (xs++[v]) (-1)∣v:=by
 let b: ~~~(xs++[v])= ~~~xs+1:=by simp
 let e:ixN (xs++[v]).length (-1)∣xs.length:=by
  unfold ixN;rw[b,kw (!1),md ⋯]
  congr 1
  lia
 unfold atI
 simp_all
abbrev nD(b:Ds):Prop:=∀o i,Rz b jg o i=operate [o,i] (RU o i)
abbrev IxR(X:Cx)(r:R2):Prop:=
 ∀b a ij s (c:St) H x y v u Q,Qd X ij c H s->aT x v->aT y u->r x y H Q->
  Rz a jg v u=operate [v,u] (RU v u)->(X⁻¹) (subscriptTail b a v u) (EP X ij c Q) X.xe s
abbrev MtR(X:Cx)(id:LF)(r:V->hH V->Hp->VK->Prop):Prop:=
 ∀ij s (a:St) H x xs v us Q,Qd X ij a H s->aT x v->aI xs us->r x xs H Q->
  (X⁻¹) (call (.builtin id) (v::us)) (EP X ij a Q) X.xe s
section
variable{X:Cx}{a b:Ds}{ta tb:TE}{pos:Pos}
def B7(c:IxR X r)(d:PE X a ta)(e:PE X b tb)(f:nD b):PE X (.Subscript a b pos) (tOp r ta tb):=by
 intro ij s g H Q I h;show Sl (Hv d e I h λv u i x y j l m n q=>c a b ij i g j x y v u Q l m n q (f _ _))
abbrev HN(K:ZA):R2:=λx y H Q=>asR x λp=>asI y λi=>∃xs,Qc K H p xs/\∃v,atI xs i∣v/\Q v H
abbrev HP(K:ZA):R2:=λx y H Q=>asR x λp=>asI y λi=>∃xs,SqT K H p xs/\∃v,atI xs i∣v/\Q v H
abbrev HQ:R2:=λx y H Q=>asS x λz=>asI y λi=> ~~~z<=mv/\∃c,atI z.cps.toList i∣c/\Q (.str ⟨#[c]⟩) H
def Fc:IxR X (HN X.K):=by
 intro e f ij s B H x y v u Q I C E h n;let%[p,rfl|g]:=aM h;let%[i,rfl,xs,G,z,J|q]:=cX g;cases C;let%[t|rfl]:=E;let%[its,r,pl|O]:=I.list G;let%[j,d,g,T,L|M]:=tF J;let%[w,o|l]:=r.get g;let N:= ~~~r;let U:=tz;let c:EP X ij B Q w s:=%[z,H,I,l|q]
 by_cases A:0<=i
 .let m:=by
   rw[seqIndex_of A M]at d;show Za d
  show item_listR pl.isList A ⋯ (by rw[m];simpa using o) c n
 .let m:(i+its.toArray.size).toNat=j:=by
   rw[seqIndex_neg ⋯ L]at d;rw[Zp,<-N];show Za d
  show S6 pl.isList.typeIs QR.lookup
   (wpAny_getItem_list_neg pl.isList ⋯ (!2) ⋯ (by rw[m];simpa using o) %[rfl|c]) n
def HR:IxR X (HP X.K):=by
 intro c d ij s l H x y v u Q I m n h o;let%[p,rfl|e]:=aM h;let%[i,rfl,xs,A,z,B|q]:=cX e;cases m;let%[t|rfl]:=n;let%[its,r,pl|G]:=I.tuple A;let%[j,C,e,J,L|M]:=tF B;let%[w,E|f]:=r.get e;let N:=tz;let g:EP X ij l Q w s:=%[z,H,I,f|q]
 show S6 pl.typeIs slot_tuple_getitem.lookup
  (getItem_tuple pl ⋯ ⋯ (by rw[Zp,<-r.length];show C) ↑E %[rfl|g]) o
def HS:IxR X HQ:=by
 intro d e ij s C H x y v u Q I m n h o;let%[z,rfl|f]:=fj h;let%[i,rfl|g]:=cX f;let%[E,c,p|q]:=g;let%[t|rfl]:=m;let%[t'|rfl]:=n;let%[j,l,r,G,w|A]:=tF p;let B: ~~~z.cps.toList= ~~~z:=by simp[Tj]
 rw[B]at l w A;let J:=tz;show tail_any (Np s z t) slot_str_getitem.lookup (getItem_str (by
  lia) (by rw[l];simpa using r) %[.str _,H,I.tok _,%[_|rfl]|q]) o
def tG(lo hi:lX pp)(n:kj):(MF lo hi hX n).1=((_HT.sIx n 0 lo:kj):pp)/\(MF lo hi hX n).2.1=((_HT.sIx n n hi:kj):pp)/\(MF lo hi hX n).2.2=1:=by
 show%[?_,?_|ρ]
 .cases lo with
  | none=>simp[MF,_HT.sIx]
  | some i=>
    simp only[MF,_HT.sIx,getD_none,show(1:pp)>0 by decide,Pj];by_cases h:i<0
    .simp only[h,Pj]<;> lia
    .simp only[h,Nb]<;> lia
 .cases hi with
  | none=>simp[MF,_HT.sIx]
  | some i=>
    simp only[MF,_HT.sIx,getD_none,show(1:pp)>0 by decide,Pj];by_cases h:i<0
    .simp only[h,Pj]<;> lia
    .simp only[h,Nb]<;> lia
def qr(its:ZF)(lo hi:lX pp):Vx its.toArray lo hi hX=((its.drop (_HT.sIx its.length 0 lo)).take (_HT.sIx its.length its.length hi-_HT.sIx its.length 0 lo)).toArray:=by
 let%[c,d|e]:=tG lo hi its.toArray.size;unfold Vx;rw[c,d,e];simp only[sliceRange_one,pick_run]<;> rfl
abbrev HU(K:ZA):V->lX pp->lX pp->Hp->VK->Prop:=λx lo hi H Q=>asR x λa=>∃xs,Qc K H a xs/\∀p,H p=hX->Q (.ref p) (Qb H p (.lst (xv xs lo hi)))
def Fd:SlR X (HU X.K):=by
 intro ij s m H x v n o lo hi p Q I f g pl i h;let%[a,rfl|d]:=aM h;let%[xs,j|q]:=d;cases f;let%[its,r,e|l]:=I.list j;let c:= ~~~r;show%["list",_,QR.lookup,e.isList.typeIs|SE e.isList g pl i .none ∅ ?_ (!2)];rw[qr,<-c];show%[.ref ⇑s,_,I.laid (λb u q=>Z7 _ q) (Zi _) ?_,ρ|q _ (I.hok.fresh (Zi _))];show%[n7 (u5 xs lo hi) l,_,0,(r.drop _).take _|Zj _ rfl]
abbrev jL:V->ri
 | .non=>iv
 | .bl _=>iv
 | .int _=>iv
 | .str _=>iv
 | _=>jg
abbrev eqV:V->V->ri
 | .non,.non=>iv
 | .bl a,.bl b=>a==b
 | .bl a,.int b=>(if a then 1 else 0)==b
 | .int a,.bl b=>a==(if b then 1 else 0)
 | .int a,.int b=>a==b
 | .str a,.str b=>a==b
 | _,_=>jg
def B8(d:aT y u)(c:aT x v)(f:jL y=iv)(e:jL x=iv):K8 A s u v (eqV y x):=by
 cases y with
 | non=>
   cases d;cases x with
   | non=>cases c;show TR _
   | bl b=>cases c;show K8.none_bool b
   | int b=>have%[t|rfl]:=c;show K8.none_int b t
   | str b=>have%[t|rfl]:=c;show K8.none_str b t
   | _=>show ow (show jg=iv from e) Zt
 | bl a=>
   cases d;cases x with
   | non=>cases c;show K8.bool_none a
   | bl b=>cases c;show K8.bool_bool a b
   | int b=>have%[t|rfl]:=c;show K8.bool_int a b t
   | str b=>have%[t|rfl]:=c;show K8.bool_str a b t
   | _=>show ow (show jg=iv from e) Zt
 | int a=>
   let%[t'|rfl]:=d;cases x with
   | non=>cases c;show K8.int_none a t'
   | bl b=>cases c;show K8.int_bool a t' b
   | int b=>have%[t|rfl]:=c;show RG a t' b t
   | str b=>have%[t|rfl]:=c;show RF a t' b t
   | _=>show ow (show jg=iv from e) Zt
 | str a=>
   let%[t'|rfl]:=d;cases x with
   | non=>cases c;show K8.str_none a t'
   | bl b=>cases c;show K8.str_bool a t' b
   | int b=>have%[t|rfl]:=c;show RE a t' b t
   | str b=>have%[t|rfl]:=c;show K8.str_str a t' b t
   | _=>show ow (show jg=iv from e) Zt
 | _=>show ow (show jg=iv from f) Zt
abbrev eqU(x:V)(u:ku):ri:=match u with
 | .none=>eqV .non x
 | .bool b=>eqV (.bl b) x
 | .int i _=>eqV (.int i) x
 | .str z _=>eqV (.str z) x
 | _=>jg
def B9(r:aT y u)(f:jL y=iv):eqU x u=eqV y x:=by
 cases y with
 | non=>cases r;rfl
 | bl b=>cases r;rfl
 | int i=>have%[t|rfl]:=r;rfl
 | str z=>have%[t|rfl]:=r;rfl
 | _=>show ow (show jg=iv from f) Zt
def kB:∀{xs:hH V} {us:ZF},aI xs us->xs.all jL=iv->us.any (eqU x)=xs.any λy=>eqV y x
 | _,_,.nil,_=>rfl
 | y::xs,u::us,.cons r t,f=>by
   rw[Uf,Zv]at f;rw[Zw,Zw,B9 r f.1,kB t f.2]
def iZ(d:aT x v)(e:jL x=iv):∀{xs:hH V} {us:ZF},aI xs us->xs.all jL=iv->∀u∈us,K8 A s u v (eqU x u)
 | _,_,.nil,_=>λu c=>by cases c
 | y::xs,u::us,.cons r t,f=>λg c=>by
   rw[Uf,Zv]at f;rcases Yu.mp c with rfl|c
   .rw[B9 r f.1];show B8 r d f.1 e
   .show iZ d e t f.2 g c
abbrev inV(x:V)(xs:hH V):ri:=xs.any λy=>eqV y x
abbrev rIn(K:ZA)(c:ri):R2:=λx y H Q=>asR y λp=>∃xs,(Qc K H p xs\/SqT K H p xs)/\jL x=iv/\xs.all jL=iv/\Q (.bl (bif c then !inV x xs else inV x xs)) H
def qY:OpR X (qq .In) (rIn X.K jg):=by
 intro ij s j H x y v u Q I e g h;let%[p,rfl|d]:=aM h;let%[xs,c,f,fs|q]:=d;cases g;rcases c with c|c
 .let%[its,r,pl|i]:=I.list c;show SeqAt.in_listAt _ pl.isList (λw hw=>iZ e f r fs w ↑hw) %[.bl _,H,I,rfl|?_];rw[show its.toArray.any _=its.any (eqU x) by simp,kB r fs];show q
 .let%[its,r,pl|i]:=I.tuple c;show SeqAt.in_tupleAt _ pl (λw hw=>iZ e f r fs w ↑hw) %[.bl _,H,I,rfl|?_];rw[show its.toArray.any _=its.any (eqU x) by simp,kB r fs];show q
def tH:OpR X (qq .NotIn) (rIn X.K iv):=by
 intro ij s j H x y v u Q I e g h;let%[p,rfl|d]:=aM h;let%[xs,c,f,fs|q]:=d;cases g;rcases c with c|c
 .let%[its,r,pl|i]:=I.list c;show SeqAt.notIn_listAt _ pl.isList (λw hw=>iZ e f r fs w ↑hw) %[.bl _,H,I,rfl|?_];rw[show its.toArray.any _=its.any (eqU x) by simp,kB r fs];show q
 .let%[its,r,pl|i]:=I.tuple c;show SeqAt.notIn_tupleAt _ pl (λw hw=>iZ e f r fs w ↑hw) %[.bl _,H,I,rfl|?_];rw[show its.toArray.any _=its.any (eqU x) by simp,kB r fs];show q
def tJ:OpR X (qq .NotIn) (λx y H Q=>asS x λi=>asS y λj=>Q (.bl (!(!(KE j i 0 j.length 1).isEmpty))) H):=by
 intro ij s g H x y v u Q I e f h;let%[i,rfl|c]:=fj h;let%[j,rfl|d]:=fj c;let q:=d;let%[t|rfl]:=e;let%[t'|rfl]:=f;show notIn_str %[.bl _,H,I,rfl|q]
def tK:ci X (.type "list") (λxs H Q=>cJ xs λB=>asR B λp=>∃ys,(Qc X.K H p ys\/SqT X.K H p ys)/\∀l,H l=hX->Q (.ref l) (Qb H l (.lst ys))):=by
 intro ij s E H xs us Q I r h;let%[B,rfl|v]:=bF h;let%[p,rfl|w]:=aM v;let%[ys,f|q]:=w;let%[u,rfl|G]:=cO r;cases G;let g:∀its,aI ys its-> ~~~ys<=mv->∀h' d,(∀b C,s.heap.get? b∣C->h'.get? b∣C)->
  h'.get? ⇑s∣_->EP X ij E Q _ (s>>>h'):=λits c i h' d j e=>
  %[.ref ⇑s,_,I.laid j (Zi _) (show bQ X.prog X.w _ h' _ (.lst ys)from%[i,its,d,c|e]),rfl|q _ (I.hok.fresh (Zi _))]
 rcases f with f|f
 .let%[its,c,pl|i]:=I.list f;let m:= ~~~c;let%[o,y,z,n|A]:=pl.isList;show call_list_seq p (.inl rfl) y z A (λh' d j e=>g its c i h' d j e) (by simp only[Zp]<;> lia)
 .let%[its,c,pl|i]:=I.tuple f;let m:= ~~~c;let%[o,y,z,n|A]:=pl;show call_list_seq p (.inr rfl) y z A (λh' d j e=>g its c i h' d j e) (by simp only[Zp]<;> lia)
abbrev tyV(K:ZA)(T:LF)(x:V)(H:Hp):Prop:=match x with
 | .str _=>T="str"
 | .int _=>T="int"
 | .ref p=>(T="list"/\∃xs,Qc K H p xs)\/(T="tuple"/\∃o,K.lookup p∣o/\o.cls= .type "tuple"/\o.dict=hX)\/
  (T="dict"/\((∃c,H p∣.dK c)\/∃c,H p∣.dT c))\/(T="set"/\∃S n,H p∣.set S n)
 | _=>KZ
def Ca(I:Qd X ij q H s)(r:aT x v)(ty:tyV X.K T x H):
 s.TypeIs v T/\∀a,v= .ref a->∃j,s.heap.get? a∣j/\j.dict=hX:=by
 cases x with
 | str z=>
   let%[t|rfl]:=r;cases(show T="str" from ty);show%[Np s z t|λ_ e=>nomatch e]
 | int i=>
   let%[t|rfl]:=r;cases(show T="int" from ty);show%[UJ s i t|λ_ e=>nomatch e]
 | ref p=>
   cases r;rcases ty with⟨rfl,xs,l⟩|⟨rfl,o,d,m,f⟩|⟨rfl,d⟩|⟨rfl,S,n,d⟩
   .let%[its,_,pl|_]:=I.list l;show%[pl.isList.typeIs|λa e=>?_];cases e;let%[o,n,e,c,f|_]:=pl;show%[o,e|f]
   .show%[%[o,I.kIn p o d|m]|λa e=>?_];cases e;show%[o,I.kIn _ o d|f]
   .let z:∃o,s.heap.get? p∣o/\o.ExactDict:=by
     rcases d with⟨g,d⟩|⟨g,d⟩
     .let%[_,_,_,_,o,_,_,e,ex|_]:=I.hok p _ d;show%[o,e|ex]
     .let%[_,_,_,_,o,_,_,e,ex|_]:=I.hok p _ d;show%[o,e|ex]
    let%[o,e|ex]:=z;show%[%[o,e|ex.1]|λa h=>?_];cases h;show%[o,e|ex.2.1]
   .let%[o,_,_,_,e,ex|_]:=I.hok p _ d;show%[%[o,e|ex.1]|λa h=>?_];cases h;show%[o,e|ex.2.1]
 | _=>show Lh ty
abbrev Fe(K:ZA)(T:LF)(r:V->hH V->Hp->VK->Prop)(d:TE):TE:=λe H Q=>d e H λx c=>tyV K T x c/\r x [] c Q
abbrev tBM(K:ZA)(T:LF)(r:V->hH V->Hp->VK->Prop)(e:TE)(t:TA):TE:=λc H Q=>e c H λx d=>tyV K T x d/\t c d λxs f=>r x xs f Q
variable{o e:Ds}{es:hH Ds}{to:TE}{t:TA}{name:lx}{apos cpos:Pos}{T id:LF}{r:V->hH V->Hp->VK->Prop}
def HV(l:NY T)(slot:Slot T name id)(f:Oa (.builtin id)=pure (.type "method_descriptor"))(m:MtR X id r)(n:PE X o to)
 (c:Mf o name X.env (LB o X.env)=LB o X.env) (d:(apos.endLine==cpos.line)=iv):PE X (.Call (.Attribute o name apos) [] [] cpos) (Fe X.K T r to):=by
 intro ij s g H Q I h;show wpAny_Call_method0_late c d (thP (n ij s g H _ I h) λv p x q i j ⟨ty,u⟩=>?_);let%[w|y]:=Ca i j ty;show%[T,id,l,slot,f,w,y|RS rfl (PySem.evalArgs_none (m ij p g q x [] v [] Q i j .nil u))]
def J8(p:NY T)(slot:Slot T name id)(i:Oa (.builtin id)=pure (.type "method_descriptor"))(q:MtR X id r)(u:PE X o to)(w:PA X (e::es) t)
 (d:Mf o name X.env (LB o X.env)=LB o X.env)
 (g:((Mm cpos (vj (e::es) X.env)).all (λx=>!x.1)&&(N8 cpos (MG [] X.env)).all (λx=>x.1.isSome)
  && decide (~~~(e::es)+ ~~~([]:hH N6)+(if([]:hH N6).isEmpty then 0 else 1)<30))=iv)
 (f:(apos.endLine==cpos.line)=iv) (y:vj (e::es) X.env=(jg,LB e X.env)::vj es X.env) (c:(Mm cpos (vj es X.env)).any (·.1)=jg):
 PE X (.Call (.Attribute o name apos) (e::es) [] cpos) (tBM X.K T r to t):=by
 intro ij s j H Q I h;show wpAny_Call_method_late d g f rfl (thP (u ij s j H _ I h) λv z x A l m ⟨ty,B⟩=>?_);let%[C|E]:=Ca l m ty;show%[T,id,p,slot,i,C,E|?_];let n:=w cpos ij z j A _ l B;rw[y]at n ⊢;show RS (by change(jg||(Mm cpos _).any _)=jg;rw[c]<;> rfl) (Calls.evalArgs_plain (thn n λus G ⟨vs,J,L,M,N⟩=>q ij G j J x vs v us Q L m M N))
end
abbrev MtM(X:Cx)(id:LF)(r:V->hH V->Hp->VK->Prop):Prop:=
 ∀ij s (a:St) H x xs v us Q,Qd X ij a H s->aT x v->aI xs us->r x xs H Q->
  (X⁻¹) (call (.builtin id) (v::us)) (EP X ij a Q) X.xe s
def aI.one:∀{x:V} {us:ZF},aI [x] us->∃u,us=[u]/\aT x u
 | _,_,.cons r .nil=>%[_,rfl|r]
def aI.zero:∀{us:ZF},aI [] us->us=[]
 | _,.nil=>rfl
def aI.eraseIdx:∀{xs:hH V} {us:ZF} i,aI xs us->aI (xs.eraseIdx i) (us.eraseIdx i)
 | _,_,_,.nil=> .nil
 | _,_,0,.cons _ t=>t
 | _,_,i+1,.cons r t=> .cons r (aI.eraseIdx i t)
def aI.reverse(h:aI xs us):aI xs.reverse us.reverse:=by
 induction h with
 | nil=>show .nil
 | cons r t a=>rw[Qf,Qf];show aI.append a (.cons r .nil)
def aI.rep(h:aI xs us):∀k:kj,aI (G2 k xs).flatten (G2 k us).flatten
 | 0=> .nil
 | k+1=>by
   show aI.append h (aI.rep h k)
def qZ:∀(l:hH a) (i:kj),~~~(l.eraseIdx i)<= ~~~l
 |[],_=>Zi _
 | _::_,0=>Yf _
 | _::r,i+1=>X6 (qZ r i)
def rc(its:ZF):∀k acc,
 S4 (λa x2=>a++x2) acc.toArray (G2 k its.toArray)=(acc++(G2 k its).flatten).toArray
 | 0,acc=>by simp
 | k+1,acc=>by
   let e:acc.toArray++its.toArray=(acc++its).toArray:=by simp
   let b:(acc++its) ++(G2 k its).flatten=acc++(G2 (k+1) its).flatten:=by
    rw[PN,Tq,Ze]
   rw[<-b,<-rc its k _,<-e,PN,Y8]
section
#version
variable{l b:kG}{xs ys zs:hH V}
def Qd.lset{its its':ZF}{n:kj}{f:ZJ->ZJ}{t':kj}(I:Qd X ij σ H s)(a:H l<*xs)
 (e:s.heap.get? l=hY {cls:= .type "list",data:= .seq its.toArray n}) (c:f its.toArray=its'.toArray) (d:aI ys its') (g: ~~~ys<=mv):
 Qd X ij σ (Qb H l (.lst ys)) {s with heap:=s.heap.update l (LX f),toks:=t'}:=by
 let q:=PySem.IsL.update e f;rw[c]at q;show I.write (a▸trivial) (.inl rfl) (λj u h i=>(J5 s.heap _ (J0 h)).trans i) %[_|q] ?_;show%[g,its',_,d|q]
def Qd.lnew(I:Qd X ij σ H s)(a:aI ys its)(c: ~~~ys<=mv):
 Qd X ij σ (Qb H ⇑s (.lst ys)) {s with heap:=s.heap.push {cls:= .type "list",data:= .seq its.toArray},toks:=t'}:=
 I.laid (λ_ _ q=>Z7 _ q) (Zi _) %[c,its,0,a|Zj _ rfl]
def Qd.fresh(I:Qd X ij σ H s):H ⇑s=hX:=I.hok.fresh (Zi _)
def Qd.lstM(I:Qd X ij σ H s)(a:H l<*xs): ~~~xs<=mv/\∃its n,aI xs its/\ ~~~xs= ~~~its/\s.heap.get? l=hY {cls:= .type "list",data:= .seq its.toArray n}:=by
 let%[z,its,n,r|e]:=I.hok l _ a;show%[z,its,n,r,~~~r|e]
def u9{n:kj}(h:n<=mv):MQ n=jg:=by
 unfold MQ
 simp_all
end
section
variable{X:Cx}
abbrev tL:V->hH V->Hp->VK->Prop:=λx vs H Q=>asR x λl=>cJ vs λy=>∃xs,H l<*xs/\ ~~~xs<mv/\Q .non (Qb H l (.lst (xs++[y])))
def rg:MtM X "list.append" tL:=by
 intro ij s g H x vs v us Q I b c h;let%[l,rfl|d]:=aM h;let%[y,rfl,xs,a,i|q]:=bF d;cases b;let%[u,rfl|f]:=c.one;let%[z,its,n,r,j|e]:=I.lstM a;show Nu F.slot_list_append %[_,e|rfl] F.entry_list_append (F.args_list_append_2 _ _) (PySem.list_append l its.toArray n u (!2)) %[e,.non,_,I.lset a e ∅ (r.append (.cons f .nil)) ?_,rfl|q];rw[Z9,Yj]
 lia
abbrev tM:V->hH V->Hp->VK->Prop:=λx vs H Q=>asR x λl=>cJ vs λa=>asR a λb=>∃xs,H l<*xs/\∃zs,H b<*zs/\ ~~~xs+ ~~~zs<=mv/\Q .non (Qb H l (.lst (xs++zs)))
def Ai:MtM X "list.extend" tM:=by
 intro ij s C H x vs v us Q I j m h;let%[l,rfl|c]:=aM h;let%[E,rfl|d]:=bF c;let%[b,rfl|f]:=aM d;let%[xs,i,zs,o,G|q]:=f;cases j;let%[u,rfl|p]:=m.one;cases p;let%[z,its,n,r,J|e]:=I.lstM i;let%[L,its2,w,y,A|B]:=I.lstM o;let g:its.toArray.size+its2.toArray.size<=mv:=!2
 let a: ¬ (!its.toArray.isEmpty&&MQ (its.toArray.size+its2.toArray.size))=iv:=by
  rw[u9 g,LU];show Zt
 show Nu F.slot_list_extend %[_,e|rfl] F.entry_list_extend (F.args_list_extend_2 _ _)
  (AutoSeq1.list_extend_list_list_0 l its.toArray n b its2.toArray w a ⋯ ⋯) %[e,B,.non,_,I.lset i e ∅ (r.append y) ?_,rfl|q]
 simp_all
abbrev xw:V->hH V->Hp->VK->Prop:=λx vs H Q=>asR x λl=>EE vs (∃xs,H l<*xs/\Q .non (Qb H l (.lst [])))
def Cb:MtM X "list.clear" xw:=by
 intro ij s i H x vs v us Q I f g h;let%[l,rfl|a]:=aM h;let%[rfl|b]:=BC a;let%[xs,d|q]:=b;cases f;let c:=g.zero;subst c;let%[z,its,n,r,j|e]:=I.lstM d;show Nu F.slot_list_clear %[_,e|rfl] F.entry_list_clear (F.args_list_clear_1 _) (AutoSeq1.list_clear_list_0 l its.toArray n (by rw[Zp];lia)) %[e,.non,_,I.lset d e rfl .nil (Xc _),rfl|q]
abbrev Fg:R2:=λx y H Q=>asR x λl=>asR y λb=>∃xs,H l<*xs/\∃zs,H b<*zs/\ ~~~xs+ ~~~zs<=mv/\∀p,H p=hX->Q (.ref p) (Qb H p (.lst (xs++zs)))
def Cc:OpR X (Ly .Add) Fg:=by
 intro ij s w H x y v u Q I d f h;let%[l,rfl|a]:=aM h;let%[b,rfl|c]:=aM a;let%[xs,g,zs,i,A|q]:=c;cases d;cases f;let%[z,its,n,r,B|e]:=I.lstM g;let%[C,its2,E,j,m|o]:=I.lstM i;show PySem.P.add_list e o ?_ (by rw[Zp,Zp];lia);let p:its.toArray++its2.toArray=(its++its2).toArray:=by simp
 rw[p];show%[.ref _,_,I.lnew (r.append j) (by rw[Z9];lia),ρ|q _ I.fresh]
abbrev HW:R2:=λx y H Q=>asR x λl=>asI y λk=>∃xs,H l<*xs/\ -(2^63)<=k/\k<2^63/\ ~~~xs*k.toNat<=mv/\∀p,H p=hX->Q (.ref p) (Qb H p (.lst (G2 k.toNat xs).flatten))
def Fh(xs:hH a)(k:kj):(G2 k xs).flatten.length=k* ~~~xs:=by
 simp
def HX:OpR X (Ly .Mult) HW:=by
 intro ij s J H x y v u Q I w A h;let%[l,rfl|i]:=aM h;let%[k,rfl|j]:=cX i;let%[xs,B,C,E,p|q]:=j;cases w;let%[t|rfl]:=A;let%[z,its,n,r,G|e]:=I.lstM B;let c:its.toArray.size*k.toNat<=mv:=by rw[Zp,<-G];show p
 let d: ¬ its.toArray.size*k.toNat>(2^63-1)/8:=by
  let:mv<=(2^63-1)/8:=!1
  lia
 let f: ¬ (!Builtin.List.listFitsIndex k)=iv:=by
  rw[fitsIndex_both C E];show Zt
 let b: ¬ MQ (its.toArray.size*k.toNat)=iv:=by
  rw[u9 c];show Zt
 let g:S4 (λo x2=>o++x2) #[] (G2 (if its.toArray.isEmpty=iv then 0 else k.toNat) its.toArray)=(G2 k.toNat its).flatten.toArray:=by
  let L:∀m,S4 (λo x2=>o++x2) #[] (G2 m its.toArray)=(G2 m its).flatten.toArray:=λm=>by
   let:=rc its m []
   simp_all
  cases its with
  | nil=>simp
  | cons a M=>simp_all
 show wpAny_binaryOp_repeat_ref (!1) %[_,e|rfl] (λs'=>UJ s' k t) noFill_list_mul F.fills_int_mul Vk repeat_list F.slot_int_index.lookup
  (Nu Vk (UJ s k t) F.entry_int_rmul (F.args_int_rmul_2 _ _) (int___rmul___int_list k t l its.toArray n)
   %[e,rfl,%[_,e|rfl]|Nu F.slot_list_mul %[_,e|rfl] F.entry_list_mul (F.args_list_mul_2 _ _) (AutoListH.list___mul___list_int_3 l its.toArray n k t f d b) %[e|?_]])
 rw[g];show%[.ref _,_,I.lnew (r.rep k.toNat) (by rw[Fh,kj.mul_comm];show p),ρ|q _ I.fresh]
#where
end
section
variable{κ:Type}[Lk κ]
abbrev bV(a:hH (κ×V))(k:κ):lX V:=(a.find? λb=>decide (b.1=k))\2
abbrev cY(a:hH (κ×V))(k:κ)(v:V):hH (κ×V):=
 if(a.any λb=>decide (b.1=k))=iv then a.map (λb=>if b.1=k then(b.1,v)else b)else a++[(k,v)]
def eD{p:κ×V}{r:hH _}{k:κ}(e:p.1=k):bV (p::r) k∣p.2:=by simp[bV,e]
def cZ{p:κ×V}{r:hH _}{k:κ}(e: ¬ p.1=k):bV (p::r) k=bV r k:=by simp[bV,e]
def i4(k:κ):∀a,(a.any λb=>decide (b.1=k))=(bV a k).isSome
 |[]=>rfl
 | p::r=>by
   rw[Zw];by_cases e:p.1=k
   .simp only[eD e,Zf e,RZ,lX.isSome_some]
   .rw[cZ e,Zh e,RK];show i4 k r
def f9(a:hH _)(k:κ)(v:V): ~~~(cY a k v)<= ~~~a+1:=by
 unfold cY
 split
 .simp
 simp_all
def fA{k:κ}(v:V)(h:bV a k=hX):cY a k v=a++[(k,v)]:=by
 unfold cY;rw[i4,h];show kw (!1)
def fY.isSome_eq(r:fY o u):o.isSome=u.isSome:=by
 cases o with
 | none=>cases u with
   | none=>rfl
   | some _=>show(r).elim
 | some _=>cases u with
   | none=>show(r).elim
   | some _=>rfl
def fY.getD{o:lX V}{u:lX ku}{d:V}{a:ku}(r:fY o u)(b:aT d a):aT (o.getD d) (u.getD a):=by
 cases o with
 | none=>cases u with
   | none=>show b
   | some _=>show(r).elim
 | some _=>cases u with
   | none=>show(r).elim
   | some _=>show r
def KV.val{vs:hH (κ×ku)}(r:KV a vs)(k:κ):fY (bV a k) (QP vs k):=by
 induction r with
 | nil=>show Li
 | @cons p q ps qs h t f=>
   let%[d|g]:=h;by_cases e:p.1=k
   .let c:=d.symm.trans e;let b:QP (q::qs) k∣q.2:=by simp[QP,c]
    rw[eD e,b];show g
   .let c: ¬ q.1=k:=λz=>e (d.trans z)
    let b:QP (q::qs) k=QP qs k:=by simp[QP,c]
    rw[cZ e,b];show f
def KV.any(r:KV a vs)(k:κ):(a.any λb=>decide (b.1=k))=vs.any λb=>decide (b.1=k):=by
 induction r with
 | nil=>rfl
 | cons h t c=>simp_all
def KV.repl(r:KV c vs)(k:κ)(d:aT y u):
 KV (c.map λa=>if a.1=k then(a.1,y)else a) (vs.map λa=>if a.1=k then(a.1,u)else a):=by
 induction r with
 | nil=>show .nil
 | @cons p q ps qs h t f=>
   rw[Yp,Yp];show .cons ?_ f;let%[b|g]:=h;by_cases e:p.1=k
   .rw[md e,md (b.symm.trans e)];show%[b|d]
   .rw[kw e,kw (λz=>e (b.trans z))];show%[b|g]
def KV.put(r:KV a vs)(k:κ)(b:aT y u):KV (cY a k y) (stored vs k u):=by
 unfold cY stored;rw[r.any k];by_cases e:(vs.any λc=>decide (c.1=k))=iv
 .rw[md e,md e];show r.repl k b
 .rw[kw e,kw e];show Paired.snoc r %[rfl|b]
def KV.keys{a:hH (κ×V)}{vs:hH (κ×ku)}(r:KV a vs):a\1=vs\1:=by
 induction r with
 | nil=>rfl
 | cons h t b=>simp_all
def KV.length{a:hH (κ×V)}{vs:hH _}(r:KV a vs): ~~~a= ~~~vs:=Paired.length r
end
def nS{P:nX}(r:aT (kV k) u):(aR P w).is k u=iv:=by
 cases k with
 | inl i=>have%[t|e]:=(r);subst e;show uV P w i t
 | inr x=>have%[t|e]:=(r);subst e;show uW P w x t
def rh{P:nX}:∀{ks:hH Key} {us:ZF},aI (ks.map kV) us->ItemsAre (aR P w) ks us
 |[],_,r=>by cases r;show .nil
 | k::ks,_,r=>by
   cases r with
   | cons h t=>show .cons (nS h) (rh t)
noncomputable abbrev KT(H:Hp):hH (hH Key×V)->hH (hH Key×kG×ku)->Prop:=Paired λp q=>p.1=q.1/\H q.2.1&&&p.1.map kV/\aT p.2 q.2.2
def KT.val{a:hH (hH Key×V)}{xs:hH (hH Key×kG×ku)}(r:KT H a xs)(k:hH Key):fY (bV a k) ((SW xs k)\2):=by
 induction r with
 | nil=>show Li
 | @cons p q ps qs h t f=>
   let%[d,_|g]:=h;by_cases e:p.1=k
   .let c:=d.symm.trans e;let b:SW (q::qs) k∣q.2:=by simp[SW,c]
    rw[eD e,b];show g
   .let c: ¬ q.1=k:=λz=>e (d.trans z)
    let b:SW (q::qs) k=SW qs k:=by simp[SW,c]
    rw[cZ e,b];show f
def KT.repl(r:KT H b xs)(k:hH Key)(f:aT y u):
 KT H (b.map λc=>if c.1=k then(c.1,y)else c) (xs.map (putAt k u)):=by
 induction r with
 | nil=>show .nil
 | @cons p q ps qs h t g=>
   rw[Yp,Yp];show .cons ?_ g;let%[a,d|i]:=h;unfold putAt;by_cases e:p.1=k
   .rw[md e,md (a.symm.trans e)];show%[a,d|f]
   .rw[kw e,kw (λz=>e (a.trans z))];show%[a,d|i]
def KT.put(r:KT H a xs)(k:hH Key)(d:H b&&&k.map kV)(c:aT y u):
 KT H (cY a k y) (storedH xs k b u):=by
 let e:(a.any λf=>decide (f.1=k))=(SW xs k).isSome:=by
  rw[i4,(r.val k).isSome_eq,UN]
 unfold cY storedH;rw[e];by_cases q:(SW xs k).isSome=iv
 .rw[md q,md q];show r.repl k c
 .rw[kw q,kw q];show Paired.snoc r %[rfl,d|c]
def KT.keeps(r:KT H a xs)(c:∀b ys,H b&&&ys->d b&&&ys):KT d a xs:=
 Paired.mapP r λ_ _ z=>%[z.1,c _ _ z.2.1|z.2.2]
section
variable{P:nX}{w:v0}{H:Hp}{h:yu}{a:kG}
def GC(ok:HOk P w H h)(e:Rd H a u):bQ P w H h a u:=e.ok ok
def i5(ok:HOk P w H h)(e:Rd H a (.dK b)): ~~~b<=mv/\(a==L7)=jg/\∃vs,KV b vs/\h.DictOf (aR P w) a vs:=
 GC ok e
def kC(ok:HOk P w H h)(e:H a∣.dK b): ~~~b<=mv/\(a==L7)=jg/\∃vs,KV b vs/\h.DictOf (aR P w) a vs:=i5 ok (.inl e)
def nT(ok:HOk P w H h)(e:H a&&&ks.map kV):(Rl (aR P w)).is h ks a:=by
 let%[_,its,r,o,b,c,n|d]:=(ok a _ e)
 show%[o,its.toArray,n,b,c,d|rh r]
def va(ok:HOk P w H h)(e:Rd H a (.dT b)): ~~~b<=mv/\(a==L7)=jg/\
 ∃xs,KT H b xs/\h.DictOfH (Rl (aR P w)) a xs:=by
 let%[z,y,xs,r,o,es,d,f,g,i,j|n]:=(GC ok e)
 show%[z,y,xs,r,o,es,d,f,g,i,j,λx c=>?_|n];let all:∀{l:hH _} {m:hH _},KT H l m->∀x∈m,(Rl (aR P w)).is h x.1 x.2.1:=by
  intro l m q
  induction q with
  | nil=>simp
  | @cons p q ps qs u t s=>
    intro x c;rcases Yu.mp c with e|c
    .show nT ok (!2)
    .show s x c
 show all r x c
def GD(ok:HOk P w H h)(e:H a∣.dT b): ~~~b<=mv/\(a==L7)=jg/\
 ∃xs,KT H b xs/\h.DictOfH (Rl (aR P w)) a xs:=va ok (.inl e)
end
abbrev cr(H:Hp)(a:kG)(y:V)(r:lX V):Prop:=
 (∃c k,Rd H a (.dK c)/\y=kV k/\r=bV c k)\/∃c k b,Rd H a (.dT c)/\y= .ref b/\H b&&&k.map kV/\r=bV c k
abbrev fE(H:Hp)(a:kG)(y v:V)(d:Hp):Prop:=
 (∃c k,H a∣.dK c/\y=kV k/\ ~~~c<mv/\d=Qb H a (.dK (cY c k v)))\/
 ∃c k b,H a∣.dT c/\y= .ref b/\H b&&&k.map kV/\ ~~~c<mv/\d=Qb H a (.dT (cY c k v))
def cr.k{k:Key}(e:H a∣.dK b):cr H a (kV k) (bV b k):= .inl %[b,k,.inl e,rfl|rfl]
def fE.k{k:Key}(e:H a∣.dK b)(c: ~~~b<mv):fE H a (kV k) v (Qb H a (.dK (cY b k v))):= .inl %[b,k,e,rfl,c|rfl]
def fE.t{c:hH (hH Key×V)}{k:hH Key}(e:H a∣.dT c)(d:H b&&&k.map kV)(f: ~~~c<mv):
 fE H a (.ref b) v (Qb H a (.dT (cY c k v))):= .inr %[c,k,b,e,rfl,d,f|rfl]
section
#version
variable{a:kG}{y v:V}{u r:ku}{o:lX V}{A:vi}{E:ZD}
def Qd.big(I:Qd X ij σ H s):L7<⇑s:=by
 show VH (!1) ((I.mod.glob.keeps I.bk).lt)
def Ak(w:A.units+1<M3)(I:Qd X ij σ H s)(g:cr H a y (hY v))(q:aT y u)(h:∀f s',Qd X ij σ H s'->aT v f->Q f s'):
 sh (Lx X.prog X.w) A (RU (.ref a) u) Q E s:=by
 rcases g with⟨i,k,e,j,l⟩|⟨i,k,b,e,j,B,l⟩
 .subst j;let%[z,C,vs,c|m]:=i5 I.hok e;let%[f,hw|d]:=fY.some_of (l▸c.val k);show wpAny_getItem_of (nS q) m.mapOf hw (h f _ (I.tok _) d)
 .subst j;cases(q);let%[z,C,xs,c|m]:=va I.hok e;let%[f,hw|d]:=fY.some_of (l▸c.val k);let%[p,G|n]:=Ld.mp hw;show wpAny_getItem_heap (Ox w) (nT I.hok B) m G ?_;rw[n];show h f _ (I.tok _) d
def d_in(n:A.units+1<M3)(I:Qd X ij σ H s)(g:cr H a y o)(m:aT y u)(h:∀s',Qd X ij σ H s'->Q (.bool o.isSome) s'):
 sh (Lx X.prog X.w) A (qq .In u (.ref a)) Q E s:=by
 rcases g with⟨d,k,e,f,l⟩|⟨d,k,b,e,f,p,l⟩
 .subst f;let%[z,i,vs,c|j]:=i5 I.hok e;show wpAny_in_of (nS m) i j.mapOf ?_;rw[<-(c.val k).isSome_eq,<-l];show h _ (I.tok _)
 .subst f;cases(m);let%[z,i,xs,c|j]:=va I.hok e;show wpAny_in_heap (Ox n) (nT I.hok p) i j ?_;let q:=(c.val k).isSome_eq;rw[UN]at q;rw[<-q,<-l];show h _ (I.tok _)
def Fi(n:A.units+1<M3)(I:Qd X ij σ H s)(g:cr H a y o)(m:aT y u)(h:∀s',Qd X ij σ H s'->Q (.bool (!o.isSome)) s'):
 sh (Lx X.prog X.w) A (qq .NotIn u (.ref a)) Q E s:=by
 rcases g with⟨d,k,e,f,l⟩|⟨d,k,b,e,f,p,l⟩
 .subst f;let%[z,i,vs,c|j]:=i5 I.hok e;show wpAny_notIn_of (nS m) i j.mapOf ?_;rw[<-(c.val k).isSome_eq,<-l];show h _ (I.tok _)
 .subst f;cases(m);let%[z,i,xs,c|j]:=va I.hok e;show wpAny_notIn_heap (Ox n) (nT I.hok p) i j ?_;let q:=(c.val k).isSome_eq;rw[UN]at q;rw[<-q,<-l];show h _ (I.tok _)
def kD(I:Qd X ij σ H s)(d:Mut (H a))(e:vr a s.heap h')(f:∃q,h'.get? a∣q)(new:bQ X.prog X.w (Qb H a c) h' a c):
 Qd X ij σ (Qb H a c) {s with heap:=h',toks:=t'}:=
 I.write d (.inl rfl) (λb q g z=>(e.2 b g).trans z) f new
def nU{P:nX}(z: ~~~b<=mv)(d:(a==L7)=jg)(c:KV b vs)(e:h'.DictOf (aR P w) a vs):
 bQ P w f h' a (.dK b):=%[z,d,vs,c|e]
def Al(N:A.units+1<M3)(I:Qd X ij σ H s)(g:fE H a y v O)(G:aT y u)(J:aT v r)(h:∀s',Qd X ij σ O s'->Q () s'):
 sh (Lx X.prog X.w) A (setItem (.ref a) u r) Q E s:=by
 rcases g with⟨d,k,e,m,l,n⟩|⟨d,k,b,e,m,L,l,n⟩
 .subst m n;let%[z,p,vs,f|w]:=kC I.hok e;let T: ~~~vs<=mv:= ~~~f▸z;let B: ~~~(cY d k v)<=mv:=by let:=f9 d k v;lia
  show wpAny_setItem_pairs (nS G) w λh' i C=>h _ (kD I (e▸Li) C (let⟨q,_,_,j,_⟩:=i;%[q|j]) (nU B p (f.put k J) i))
 .subst m n;cases(G);let%[z,p,xs,f|w]:=GD I.hok e;let T: ~~~xs<=mv:=(Paired.length f)▸z;let B: ~~~(cY d k v)<=mv:=by let:=f9 d k v;lia
  show wpAny_setItem_heap (Ox N) (nT I.hok L) w λh' i C=>h _ ?_
  let%[q,es,U,j,Y,h3,h4,_|h5]:=i;show kD I (e▸Li) C %[q|j] %[B,p,_,(f.put k L J).keeps λc ys M=>?_,q,es,U,j,Y,h3,h4|h5];rw[ao (nO M e (λz=>nomatch z))];show M
variable{kvs:hH (Key×V)}{k:Key}
def Fj(I:Qd X ij σ H s)(e:H a∣.dK kvs)(h:∀s',Qd X ij σ (Qb H a (.dK [])) s'->Q .none s'):sh (Lx X.prog X.w) A (call (.builtin "dict.clear") [.ref a]) Q E s:=by
 let%[z,f,vs,c|d]:=kC I.hok e;show Po PySem.F.slot_dict_clear d.typeIs PySem.F.entry_dict_clear (PySem.F.args_dict_clear_1 _) (meets_dict_clear (aR X.prog X.w) a) %[vs,d,by rw[<-c.length];show z|λh' b g=>h _ ?_];let i:∃q,h'.get? a∣q:=let⟨q,_,_,j,_⟩:=b;%[q|j];show kD (t':=s.toks) I (by rw[e];show Li) g i (nU (Xc _) f .nil b)
def J9(I:Qd X ij σ H s)(e:Rd H a (.dK kvs))(h:∀t s',Qd X ij σ H s'->Q (.int kvs.length t) s'):sh (Lx X.prog X.w) A (call (.builtin "len") [.ref a]) Q E s:=by
 let%[z,c,vs,b|d]:=i5 I.hok e;show call_len_dict c d (by rw[<-b.length];rw[Le]at z;lia) ?_;rw[<-b.length];show h _ _ (I.tok _)
end
abbrev HY(i:Ds):Prop:=∀a b,Rz i jg a b=operate [a,b] (RU a b)
def Fk{T id:LF}
 (m:Ow (.type T) "__getitem__"=pure (hY (.builtin id))) (n:HY a)
 (h:↥A (LB c env) (λo e=>↥A (LB a env) (λi b=>b.TypeIs o T/\↥A (RU o i) Q E b) E e) E s):
 ↥A (LB (.Subscript c a pos) env) Q E s:=by
 show Sl (Lb h (λo e g=>Lb g (λi b d=>?_) λ_ _ x=>x) λ_ _ x=>x);let%[p|d]:=d;show Z2 (Z2 (N9 p m ?_));let l:↥A (Rz a jg o i) (λr f=>↥A (letTemporaryGo c o r>>= λ_=>pure r) Q E f) E b:=by
  rw[n o i];show wpAny_operating (Lb d (λr f j=>Z2 (wpAny_letTemporaryGo (Z3 j))) λ_ _ x=>x)
 first
  | show Z3 (Z2 l)
  | lia
  | lia
def vb{X:Cx}(I:Qd X ij f H s)(g:cr H a y o):s.TypeIs (.ref a) "dict":=by
 rcases g with⟨c,k,e,_,_⟩|⟨c,k,b,e,_,_,_⟩
 .let%[_,_,vs,_|d]:=i5 I.hok e;show d.typeIs
 .let%[_,_,xs,_|d]:=va I.hok e;show d.typeIs
abbrev Cd(d ty:TE):TE:=λb H Q=>d b H λx e=>ty b e λy c=>asR x λa=>∃v,cr c a y (hY v)/\Q v c
abbrev HZ(ty d:TE):TE:=λb H Q=>ty b H λy e=>d b e λx c=>asR x λa=>∃o,cr c a y o/\Q (.bl o.isSome) c
abbrev tN(ty d:TE):TE:=λb H Q=>ty b H λy e=>d b e λx c=>asR x λa=>∃o,cr c a y o/\Q (.bl (!o.isSome)) c
abbrev jM(d ty e:TE):TS:=λD b H=>e b H λv f=>d b f λx g=>ty b g λy h=>asR x λa=>∃c,fE h a y v c/\D.nx b c
section
variable{X:Cx}{o i e value:Ds}{pos pos' tpos:Pos}{td ty tv:TE}
def Fo(f:X.A.units+1<M3)(j:PE X o td)(hi:PE X i ty)(l:HY i):PE X (.Subscript o i pos) (Cd td ty):=by
 intro ij s c H Q I h;show Fk PySem.F.slot_dict_getitem.lookup l (thP (j ij s c H _ I h) λu m x n p q r=>thP (hi ij m c n _ p r) λC E y w d z h=>?_);let%[a,rfl,v,g|A]:=aM h;obtain rfl:u=m4 a:=q;show%[vb d g|Ak f d g z λG J B b=>%[v,w,B,b|A]]
def Ia(c:X.A.units+1<M3)(hi:PE X i ty)(d:PE X o td):PC X .In i o (HZ ty td):=by
 intro ij s b H Q I h;show thP (hi ij s b H _ I h) λA f y j l m n=>thP (d ij f b j _ l n) λu B x p q r h=>?_
 let%[a,rfl,v,g|w]:=aM h;obtain rfl:u=m4 a:=r;show d_in c q g m λC z=>%[.bl v.isSome,p,z,rfl|w]
def Am(c:X.A.units+1<M3)(hi:PE X i ty)(d:PE X o td):PC X .NotIn i o (tN ty td):=by
 intro ij s b H Q I h;show thP (hi ij s b H _ I h) λz f y j l m n=>thP (d ij f b j _ l n) λu A x p q r h=>?_
 let%[a,rfl,B,g|v]:=aM h;obtain rfl:u=m4 a:=r;show Fi c q g m λC w=>%[.bl _,p,w,rfl|v]
def Fp(c:X.A.units+1<M3)(d:PE X o td)(hi:PE X i ty)(f:PE X value tv)(j:NA value (hY (.Subscript o i pos')) pos.line X.env=pure jg):
 PS X (.Assign [.Subscript o i pos'] value pos) (jM td ty tv):=by
 intro ij s b H D I h;show wpAny_Assign_Subscript (thP (f ij s b H _ I h) λr l v m n p q=>thP (d ij l b m _ n q) λu w x z A B C=>thP (hi ij w b z _ A C) λN O y Q E G h=>?_) j;let%[a,rfl,J,g|L]:=aM h;obtain rfl:u=m4 a:=B;show Al c E g G p λT M=>%[b,J,M|L]
end
def Ce{P:nX}(h:yu)(a:L7<h.objs.size):bQ P w H (h.push {cls:= .type "dict",data:= .dict #[]}) h.objs.size (.dK []):=
 %[Xc _,K5.mpr (J0 (Zs a)),[],.nil|yu.DictOf.new h]
def Cf{P:nX}(h:yu)(a:L7<h.objs.size):bQ P w H (h.push {cls:= .type "dict",data:= .dict #[]}) h.objs.size (.dT []):=
 %[Xc _,K5.mpr (J0 (Zs a)),[],.nil,_,#[],0,Zj _ rfl,%[rfl,rfl|rfl],rfl,rfl|X1]
abbrev xx:TE:=λ_ H Q=>∀p,H p=hX->Q (.ref p) (Qb H p (.dK []))
abbrev xy:TE:=λ_ H Q=>∀p,H p=hX->Q (.ref p) (Qb H p (.dT []))
section
variable{X:Cx}{pos:Pos}
def Cg:PE X (.Dict [] [] pos) xx:=λij s a H Q I h=>
 Vv %[.ref ⇑s,_,I.laid (λ_ _ q=>Z7 _ q) (Zi _) (Ce s.heap I.big),rfl|h _ (I.hok.fresh (Zi _))]
def Ch:PE X (.Dict [] [] pos) xy:=λij s b H Q I h=>
 Vv %[.ref ⇑s,_,I.laid (a:=⇑s) (o:= .dT []) (t':=s.toks) (λ_ _ q=>Z7 _ q) (Zi _) (Cf s.heap I.big),rfl|h _ (I.hok.fresh (Zi _))]
end
abbrev j4(a more:hH (Key×V)):hH (Key×V):=more.foldl (λacc b=>cY acc b.1 b.2) a
def KV.merge:∀{more:hH _} {b:hH _} {a:hH _} {vs:hH _},KV more b->KV a vs->KV (j4 a more) (merged vs b):=by
 intro more b a vs r
 induction r generalizing a vs with
 | nil=>intro q;show q
 | @cons p q ps qs h t c=>
   intro d;let e:KV (cY a p.1 p.2) (stored vs q.1 q.2):=by
    let:=d.put p.1 h.2;show h.1▸this
   show c e
def jN:∀more a,~~~(j4 a more)<= ~~~a+ ~~~more
 |[],a=>by change ~~~a<= ~~~a+0;lia
 | p::r,a=>by
   let b:=jN r (cY a p.1 p.2);let c:=f9 a p.1 p.2;change(j4 _ r).length<=_
   grind
structure M2 (X:Cx) (o:Ds) (m:lx) (apos:Pos) (e f:Ds) (cpos:Pos):Prop where
 base:Mf o m X.env (LB o X.env)=LB o X.env
 few:((Mm cpos (vj [e,f] X.env)).all (λx=>!x.1)&&(N8 cpos (MG [] X.env)).all (λx=>x.1.isSome)
  && decide (~~~([e,f])+ ~~~([]:hH N6)+(if([]:hH N6).isEmpty then 0 else 1)<30))=iv
 line:(apos.endLine==cpos.line)=iv
 trees:Mm cpos (vj [e,f] X.env)=[(jg,LB e X.env),(jg,LB f X.env)]
section
#version
variable{a:kG}{y d:V}{u r:ku}{o:lX V}{A:vi}{E:ZD}
end
section
#version
variable{a:kG}{kvs:hH (Key×V)}{A:vi}{E:ZD}
def Ci(I:Qd X ij σ H s)(e:Rd H a (.dK kvs))(h:∀p s',H p=hX->Qd X ij σ (Qb H p (.dK kvs)) s'->Q (.ref p) s'):sh (Lx X.prog X.w) A (call (.type "dict") [.ref a]) Q E s:=by
 let%[z,g,vs,c|i]:=i5 I.hok e;show kt_call_dict g i (by rw[<-c.length];show z) λh' d j=>?_
 show h _ _ (I.hok.fresh (Zi _)) (I.laid (a:=⇑s) (o:= .dK kvs) (t':=s.toks) (λb q f=>?_) (Zi _) (nU z (K5.mpr (J0 (Zs I.big))) c d));show(j.2 b (Zs (Zu f))).trans (Z7 _ f)
end
end _LL
namespace _AT
open PySem PySem.W PySem.Calls PyProof.Rows
def m9{P:Params}:∀(c:ZL) (vs:ZF),WellAll P h vs (c.map VX)->Tu vs c:=by
 intro c
 induction c with
 | nil=>
   intro vs w;cases w;show .nil
 | cons n c d=>
   intro vs w;cases w with
   | cons a b=>
     cases a;show .cons _ _ (d _ b)
def Ap{l:Vh}(o:l.most∣n){P:Params}
 (b:l.row.toRowW.claim.pre args=iv) (j:WellAll P h e args):
 ∃a vs c,e=[m4 a]/\args=[WData.list (c.map VX)]/\h.get? a=hY {cls:= .type "list",data:= .seq vs.toArray}/\Tu vs c/\ ~~~c<=n:=by
 let m:l.pre.holds [] _=iv:=(pre_splitW b).2;let%[d,r,rfl,p|q]:=hasAllW_cons ((pre_splitW b).1);obtain rfl:=hasAllW_nil q;let%[xs,rfl|s]:=hasW_list p;let%[c|rfl]:=items_int s;let f: ~~~c<=n:=by
  unfold Vh.pre at m;let i:=by
   let i:=(holds_andW m).1;rw[o]at i;show i
  let y:=condW_of i (w_not (w_lt w_lit (w_len_list (w_arg rfl))))
  grind
 cases j with
 | cons u v=>
   cases v;cases u with
   | list w g=>show%[_,_,c,ρ,ρ,w,m9 c _ g|f]
def Aq(l:Vh)(args:hH WData):l.row.toRowW.claim.post args (.bool iv) args=iv:=
 postW_of
  (by first|rfl|simp|lia)
  (w_eq_bool (w_res rfl) w_lit) rfl
def attach_call{l:Vh}{n:kj}{q:nX}
 (I:l.most∣n) (u:d.params.defaults=[])
 (call:∀(w:v0) (s₀ b:mu) (mg v:ZC) (h:kG) (o:MU) (y p c:ku) (a:kG) (vs:ZF) (s:ZL),
  Ground q e [] J w s₀ mg v b.heap->L w b.heap->
  b.heap.get? h∣o->o.data= .func (docDef d.name d.params d.body d.scope y p c)->b.heap.CodeRec p d.name->mg d.name∣.ref h->
  b.heap.get? a=hY {cls:= .type "list",data:= .seq vs.toArray}->Tu vs s-> ~~~s<=n->b.gens= #[]->
  NQ (Lx l.prog w) RV (.call (.ref h) %[[.ref a]|[]]) (λr s'=>r= .ok (.ret (.bool iv))/\OldK b.heap s'.heap/\s'.os=b.os/\OU s'.gens) b):
 WalkO q e J L l.row.toRowW d [] (λf vs=>PySem.call f vs):=by
 intro w s₀ b mg v G Y h o y p c M kV N O z C A Q args E as i H T B U;obtain rfl:M= .none:=Dflts.none C u;obtain rfl:kV= .none:=Dflts.noKw C;let%[a,vs,s,rfl,rfl,j,g|m]:=Ap I i B;show enter_call (codeAny_mono (call w s₀ b mg v h o y p c a vs s G Y N (fd_plain O) z A j g m Q) λr s' hq=>?_);let%[rfl,h2,h3|h4]:=hq;show%[.inl %[.bool iv,.bool iv,[],ρ,λ_=>rfl,.bool iv,Aq l _|λ_=>%[OX|λ_ hm=>(nomatch hm)]],h2,h3|h4]
section
#where
end
end _AT
namespace _LL
open PySem PySem.Spec PyProof.Rows
def rj:∀{vs:ZF} {a:ZL},Tu vs a->aI (a\4) vs
 | _,_,.nil=> .nil
 | _,_,.cons n t h=> .cons %[t|rfl] (rj h)
abbrev Fq(H:Hp):Prop:=∀b,H b=hX\/∃o xs,H b∣.frz o (.lst xs)
def law_call{P:nX}{K:ZA}{mg I:ZC}{vs:ZF}
 (U:K.In c.heap) (p:c.heap.Ns wy mg) (g:c.heap.Ns UQ I) (J:∀x:lx,x≠"__name__"->I x=Mb x) (y:c.heap.NoLimit) (hg:c.gens= #[])
 (L:c.heap.get? a=hY {cls:= .type "list",data:= .seq vs.toArray}) (hi:Tu vs M) (Y: ~~~M<=mv) (hr:bE k RV)
 (F:∀base:yu,K.In base->base.Ns wy mg->dG P w K mg base CX k fa fd [x] sp) (l:∀(s:mu) (u:ku),R3 s fd %[[u]|[]] [(x,u)])
 (N:∀H:Hp,Fq H->Qc K H a (M\4)->sp [.ref a] H (λv _=>v= .bl iv) λ_ _ _=>KZ)
 (O:∀H e s',CX [] H c (λ_ _ _=>KZ) e s'->KZ):
 NQ (Lx P w) RV (.call (.ref fa) %[[.ref a]|[]]) (λr s'=>r= .ok (.ret (.bool iv))/\OldK c.heap s'.heap/\s'.os=c.os/\OU s'.gens) c:=by
 let rv:=rj hi;let j:∀H,Fq H->Qc K H a (M\4)->HOk P w H c.heap->(∀b,H b≠hX->b=a)->(H a≠hX->K.lookup a=hX)->
  NQ (Lx P w) RV (.call (.ref fa) %[[.ref a]|[]]) (λr s'=>r= .ok (.ret (.bool iv))/\OldK c.heap s'.heap/\s'.os=c.os/\OU s'.gens) c:=by
  intro H hO hS A hA hK;let f:∀{b:kG} {o:MU},c.heap.get? b∣o->H b=hX->(z4 c.heap H).get? b∣o:=λe n=>BB e n
  let Q:∀{b:kG} {o:MU} {es:oT Rw} {G:kj},c.heap.get? b∣o->o.data= .dict es G->H b=hX:=λ{b o es G} e d=>by
   grind
  let i:∀{b:kG} {m:ZC},c.heap.Ns b m->(z4 c.heap H).Ns b m:=λ{b m} ⟨o,es,G,e,d,r⟩=>%[o,es,G,f e (Q e d),d|r]
  let B:=λb o e=>f (U b o e) (by
   grind)
  show codeAny_mono ((F _ B (i p)).run RV [] c H _ _ [.ref a] _ _ hr %[rfl,%[B,i p,%[I,i g|J]|let⟨mc,h1,h2⟩:=y;%[mc,i h1|h2]],λb o e=>EC e,Sq (z5 _ _),trivial,λb g=>ow (show b∈([])from g) ∅,A|.of_eq hg] (l c _) (.cons rfl .nil) (N H hO hS)) λr s' h=>?_
  cases r with
  | error e=>show(O H e s' h).elim
  | ok fl=>
    cases fl with
    | next=>show Lh h
    | brk=>show Lh h
    | cont=>show Lh h
    | ret u=>
      let%[v,H',os,C,un,E,r'|q]:=h;subst q;obtain rfl:u=VF iv:=r';show%[ρ,OldK.of_keep λb o e=>?_,os|C];cases q:H b with
      | none=>show un.keep b o e q (by intro z;show ow (show b∈([])from z) ∅) ∅
      | some u=>
        rcases hO b with z|⟨ob,xs,z⟩
        .rw[q]at z;cases z
        .let%[e1|_]:=A b _ z;let%[e2|_]:=E b _ (un.frzs b ob _ z);rw[e]at e1;cases e1;show e2
 cases T:K.lookup a with
 | some o=>
   let e:=U a o T;rw[L]at e;cases e;show j _ (λ_=> .inl rfl) (.inr %[_,vs.toArray,_,T,rfl,rfl,rfl,by rw[Zp,~~~hi];show Y|rv]) (λb u z=>!2) (λb z=>ow rfl z) λz=>ow rfl z
 | none=>
   show j (λb=>if b=a then hY (.frz {cls:= .type "list",data:= .seq vs.toArray} _)else hX) (λb=>?_) (.inl (.inr %[{cls:= .type _,data:= .seq vs.toArray}|md rfl])) (λb u z=>?_) (λb z=>?_) λ_=>T
   .by_cases g:b=a
    .show .inr %[_,_|md g]
    .show .inl (kw g)
   .by_cases g:b=a
    .let z':=(md g).symm.trans z;cases z';subst g;show%[L,by rw[Z6];show Y,vs,_,rv|L]
    simp_all
   .by_cases g:b=a
    .show g
    .show ow (kw g) z
def walk_of{l:PySem.W.OpenLaw}{J:(lx->lX ku)->yu->Prop}{E:v0->yu->Prop}{d:DefRec}{K:Params->ZA}{CX:v0->CXT}{sp:v0->Sp}{x:lx}
 (L:l.most∣n) (p:n<=mv) (r:d.params.defaults=[]) (M:bE k RV)
 (N:∀(w:v0) (h:yu),E w h->(K w.params).In h)
 (F:∀(w:v0) (mg:ZC) (j:kG) (h:yu),(K w.params).In h->h.Ns wy mg->mg d.name∣.ref j->
  ∃y:Nc,(∀(s:mu) (u:ku),R3 s y %[[u]|[]] [(x,u)])/\
   ∀base:yu,(K w.params).In base->base.Ns wy mg->dG l.prog w (K w.params) mg base (CX w) k j y [x] (sp w))
 (z:∀(w:v0) (H:Hp) (a:kG) (m:ZL),~~~m<=n->Fq H->Qc (K w.params) H a (m\4)->sp w [.ref a] H (λv _=>v= .bl iv) λ_ _ _=>KZ)
 (A:∀(w:v0) (H:Hp) (s:mu) (e:ku) (s':mu),CX w [] H s (λ_ _ _=>KZ) e s'->KZ):
 PySem.W.WalkO q B J E l.row.toRowW d [] (λf vs=>PySem.call f vs):=by
 show _AT.attach_call L r λw s₀ g mg mb j o pm cd O a vs m G Y ho hd Q C i c b T=>?_
 let I:=N w _ Y;let%[y,U|hF]:=F w mg j _ I G.T.g C;show law_call I G.T.g G.T.b G.T.builtins G.T.nolimit T i c (n7 b p) M hF U (λH hO hS=>z w H a m b hO hS) λH e s'=>A w H g e s'
abbrev jx(s:I0)(j:kj):I0:=match s with
 | .ClassDef _ _ _ a _ _ _ _ _ _ _=>a.getD j (.Pass %[0,0,0|0])
 | _=> .Pass %[0,0,0|0]
abbrev dh(s:I0):Arguments:=match s with
 | .FunctionDef _ a _ _ _ _ _ _ _ _=>a
 | _=>{posonlyargs:=[],args:=[],vararg:=hX,kwonlyargs:=[],kw_defaults:=[],kwarg:=hX,defaults:=[]}
abbrev bB(s:I0):hH I0:=match s with
 | .FunctionDef _ _ b _ _ _ _ _ _ _=>b
 | _=>[]
abbrev am(s:I0):PY:=match s with
 | .FunctionDef _ _ _ _ _ _ a _ _ _=>a
 | _=>{kind:= .function,names:=[],isGenerator:=jg,isCoroutine:=jg}
noncomputable abbrev CX0:CXT:=λ_ _ _ _ _ _=>KZ
noncomputable abbrev E0:XK:=λ_ _ _=>KZ
def Cj{X:Cx}:ik CX0 X E0:=λ_ _ _ _ _ _ _ h=>h.elim
structure Fun (K:ZA) (x qual:lx) (st:I0) (f:kG) (fd:Nc):Prop where
 ex:∃oc od kV doc pm an cdv ct osl,
  fd=Rp x qual (dh st) (bB st) (am st) .none kV doc pm an cdv ct/\K.lookup f=hY %[oc,od,.func fd|osl]/\PU K cdv qual=iv
 kp:Nt K (.ref f)=iv
section
variable{P:nX}{w:v0}{K:ZA}{mg:ZC}{base:yu}
def Fun.ok{x a:lx}{st:I0}{f:kG}{g:Nc}{N ps:ZB}{k:kj}{sp:Sp}(F:Fun K x a st f g)(S:ar N ps (am st))(len:∀vs H Q E,sp vs H Q E-> ~~~vs= ~~~ps)
 (c:∀b (A:vi) (outer:hH Env) s H (vs:hH V) Q E,bE k (A.deeper (LQ a (am st) ⇑s f b))->sp vs H Q E->
  ∃t,PSs (fo CX0 P w K mg base N a (am st) f b A outer s H E).nox (bB st) t/\t {nx:=λ_ i=>Q .non i,rt:=Q} (start N vs) H):dG P w K mg base CX0 (k+1) f g ps sp:=by
 let%[n,od,kV,j,o,p,b,ct,l,rfl,lk|d]:=F.ex;show GB lk d S len λA outer s H vs Q E m e=>?_
 let%[t,h|q]:=c b A outer s H vs Q E m e;show%[t,h.nox|q]
def Fun.binds{st:I0}(F:Fun K x c st f g)
 (h:∀(kV a d:ku) (e:ZI) (b ct:ku) (us:ZF),~~~us= ~~~ps->bindArgs (Rp x c (dh st) (bB st) (am st) .none kV a d e b ct) %[us|[]]=pure (ps.zip us)):dH K g ps []:=by
 let%[l,od,kV,a,d,e,b,ct,i,rfl,lk|j]:=F.ex;show .all (h kV a d e b ct)
def d5{st:I0}{kV d e b ct:ku}(l:K.lookup f=hY %[i,od,.func (Rp x a (dh st) (bB st) (am st) .none kV d e h b ct)|g])
 (c:PU K b a=iv) (k:Nt K (.ref f)=iv):Fun K x a st f (Rp x a (dh st) (bB st) (am st) .none kV d e h b ct):=%[%[i,od,kV,d,e,h,b,ct,g,rfl,l|c]|k]
variable{X:Cx}
def pv(i:kj)(b:X.N[i]?∣x)(c:Vis X.env.scope x)(d:(x==("__debug__":lx))=jg)
 (a:(x==("__classdict__":lx))=jg):PE X (.Name x pos) (lQ i):=BD b c d a
end
def im{A B:Prop}(h:B):if jg=iv then A else B:=by
 simp_all
def bT{c A B:Prop}[Decidable c](a:c->A)(b: ¬ c->B):if c then A else B:=by
 simp_all
abbrev ah(H a:Hp):Prop:=∀b o,H b∣o->a b∣o
def ah.refl(H:Hp):ah H H:=λ_ _ h=>h
def ah.trans{H d e:Hp}(a:ah H d)(b:ah d e):ah H e:=λc o h=>b c o (a c o h)
def ah.free{H a:Hp}(e:ah H a){l:kG}(h:a l=hX):H l=hX:=by
 cases q:H l with
 | none=>rfl
 | some o=>
   rw[e l o q]at h;cases h
def ah.seq{K:ZA}(e:ah H b)(h:Qc K H a xs):Qc K b a xs:=by
 rcases h with(h|⟨o,h⟩)|h
 .show .inl (.inl (e _ _ h))
 .show .inl (.inr %[o|e _ _ h])
 .show .inr h
section
end
section
variable{κ:Type}[Lk κ]
def Fs{a:hH (κ×V)}(h:bV a k∣v):k∈a\1:=by
 let q:(a.any λb=>decide (b.1=k))=iv:=by
  rw[i4,h]
  all_goals rfl
 simp_all
def nE:∀{l:hH κ} {k:κ},l.Nodup-> ¬ k∈l->(l++[k]).Nodup
 |[],k,_,_=>by simp
 | a::r,k,h,b=>by
   let%[c|d]:=Mi.mp h;show Mi.mpr %[λm=>?_|nE d λm=>b (Yu.mpr (Or.inr m))];rcases Xk m with q|q
   .show c q
   .show b (Yu.mpr (Or.inl (Xl q).symm))
end
abbrev nV(env:Env):hH (lx×K1)->hH (lx×kG)->hH (lx×kG)
 |[],acc=>acc
 |(n,k)::r,acc=>nV env r (if k= .free then(n,(env.cells.lookup n).getD 0)::acc else acc)
def nW:∀(names:hH (lx×K1)) (acc:hH (lx×kG)),(∀y∈names,y.2= .free->∃c,env.cells.lookup y.1∣c)->
 (forIn names acc λx r=>match x with
  |(name,kind)=>if(kind==LH)=iv then do let a<-cellOf env name;pure (NG ((name,a)::r))else pure (NG r):Sem (hH (lx×kG)))=pure (nV env names acc)
 |[],acc,_=>rfl
 |(n,k)::r,acc,h=>by
  let d:=λacc=>nW r acc λy f=>h y (Zk _ f)
  rw[Qz];by_cases b:k= .free
  .subst b;let%[c|e]:=h _ Zm rfl;let g:cellOf env n=pure c:=by unfold cellOf;rw[e]
   simp only[M0,Pj,g,pure_bind];rw[d];change _=pure (nV env r _);rw[md rfl,e]
   all_goals rfl
  .let i:(k==LH)=jg:=↑b
   simp only[i,Zz,Nb,pure_bind];rw[d];change _=pure (nV env r _);rw[kw b]
def Ft(h:∀y∈a.names,y.2= .free->∃c,env.cells.lookup y.1∣c):closureFor a env=pure (nV env a.names []):=by
 unfold closureFor;simp only[bind_pure];show(nW a.names [] h)
def ve:∀(names:hH (lx×K1)) (acc:hH (lx×kG)),(∀y∈names,y.2= .free->∃c,env.cells.lookup y.1∣c)->
 (∀y d,acc.lookup y∣d->env.cells.lookup y∣d)->(nV env names acc).lookup x∣c->env.cells.lookup x∣c
 |[],acc,_,a,e=>a x c e
 |(n,k)::r,acc,h,a,e=>by
  show ve r _ (λy b=>h y (Zk _ b)) (λy d q=>?_) e;by_cases f:k= .free
  .rw[md f,Yl]at q;let%[g|i]:=h _ Zm f;cases b:y==n with
   | true=>
     simp_all
   | false=>rw[b]at q;show a y d q
  .rw[kw f]at q;show a y d q
def nZ:∀(names:hH (lx×K1)) (acc:hH (lx×kG)),(∃c,acc.lookup x∣c)->∃c,(nV env names acc).lookup x∣c
 |[],_,h=>h
 |(n,k)::r,acc,h=>by
  show nZ r _ ?_;by_cases a:k= .free
  .rw[md a,Yl];cases b:x==n with
   | true=>show%[_|ρ]
   | false=>show h
  .rw[kw a];show h
def n5:∀(names:hH (lx×K1)) (acc:hH (lx×kG)),(x,LH)∈names->∃c,(nV env names acc).lookup x∣c
 |[],_,h=>by simp at h
 |(n,k)::r,acc,h=>by
  rcases Yu.mp h with e|h
  .show nZ r _ ?_
   simp_all
  .show n5 r _ h
abbrev bZ(X:Cx)(a:PY)(d:ZB)(b:mu)(c:Hp)(e:hH kG):Cx:=
 {X with
  N:=d
  s₀:=b
  H₀:=c
  env:=compEnvC a (Lv (⇑b+1) a.names (nV X.env a.names [])) ⇑b X.env
  outer:=X.stack
  stack:=X.stack
  ex:=e
  fn:=λx=>decide (a.names.lookup x∣.cell)
  pn:=[]
  xe:=λ_ _=>KZ}
structure aD (X:Cx) (scope:PY) (N':ZB) (cap:hH (kj×kj)):Prop where
 kind:scope.kind= .function
 cell:∀y∈scope.names,y.2= .cell->scope.names.lookup y.1∣.cell
 loc:∀y∈scope.names,y.2= .local->scope.names.lookup y.1∣.local
 free:∀y∈scope.names,y.2= .free->X.env.kindOf y.1∣.cell\/X.env.kindOf y.1∣.free
 capt:∀p∈cap,∃x,N'[p.1]?∣x/\X.N[p.2]?∣x/\scope.names.lookup x∣.free
abbrev ro(n:kj)(a:hH (kj×kj))(b:St):St:=(q7 n).map λj=>(a.lookup j).bind λi=>(b[i]?).join
def mH:∀{l:hH _} {j i:kj},l.lookup j∣i->(j,i)∈l
 |[],_,_,h=>by simp at h
 |(a,b)::r,j,i,h=>by
  rw[Yl]at h;cases c:j==a with
  | true=>
    simp_all
  | false=>rw[c]at h;show Zk _ (mH h)
def mI{env:Env}{names:hH (lx×K1)}{x:lx}{k:K1}(h:(names.map λ(n,k)=>if(k==LH&&env.scope.kind== .function&&env.kindOf n==hY .cell)then(n,Nw)else(n,k)).lookup x∣k)
 (a:k= .cell\/k= .free):(x,LH)∈names\/(x,Nw)∈names:=by
 let m:=PySem.mem_of_lookup h
 grind
def eU:∀names n acc,Lv n names acc=Lv n names [] ++acc
 |[],_,_=>rfl
 |(x,k)::r,n,acc=>by
  unfold Lv
  split
  .rw[eU r _ _,eU r _ [(x,n)],Ze];rfl
  .show eU r n acc
def lT:∀{names:hH (lx×K1)} {n:kj},(x,c)∈Lv n names []->(x,Nw)∈names
 |[],_,h=>nomatch h
 |(y,k)::r,n,h=>by
  unfold Lv at h
  split at h
  .rw[eU]at h;rcases Xk h with q|q
   .show Zk _ (lT q)
   grind
  .show Zk _ (lT h)
def mJ(h:(Lv n names acc).lookup x∣c):(x,c)∈Lv n names []\/((Lv n names []).lookup x=hX/\acc.lookup x∣c):=by
 rw[eU,S3]at h;cases e:(Lv n names []).lookup x with
 | none=>rw[e]at h;show .inr %[rfl|h]
 | some d=>
   rw[e]at h;let:=↑h
   show this▸ .inl (PySem.mem_of_lookup e)
def kE{env:Env}:∀{names:hH (lx×K1)} {x:lx},names.lookup x∣.free->
 (names.map λ(n,k)=>if(k==LH&&env.scope.kind== .function&&env.kindOf n==hY .cell)then(n,Nw)else(n,k)).lookup x∣.cell\/
 (names.map λ(n,k)=>if(k==LH&&env.scope.kind== .function&&env.kindOf n==hY .cell)then(n,Nw)else(n,k)).lookup x∣.free
 |[],_,h=>by simp at h
 |(n,k)::r,x,h=>by
  let c:= @kE env r x;simp only[Yp];cases a:x==n with
  | true=>
    rw[Yl,a]at h;let d:=Za h;subst d;by_cases b:((LH==LH)&&env.scope.kind== .function&&env.kindOf n==hY .cell)=iv
    .rw[md b,Yl,a];show .inl rfl
    .rw[kw b,Yl,a];show .inr rfl
  | false=>
    rw[Yl,a]at h;by_cases b:(k==LH&&env.scope.kind== .function&&env.kindOf n==hY .cell)=iv
    .rw[md b,Yl,a];show(c h)
    .rw[kw b,Yl,a];show(c h)
section
#version
def Qd.kindL(I:Qd X ij σ H s)(h:X.env.kindOf x∣.cell\/X.env.kindOf x∣.free):∃c,X.env.cells.lookup x∣c:=I.ok.has x h
def Qd.block{a:PY}{E:ZB}{fp:hH kG}{f:yu}{tk:kj}(S:aD X a E n)(I:Qd X ij σ H s)(Q:∀b∈fp,lR X ij H b)(L:∀b∈fp,b<⇑s)
 (hn:f.Ns ⇑s (λ_=>hX)) (B:∀b u,s.heap.get? b∣u->f.get? b∣u) (nc:CellsOk f (⇑s+1) (Lv (⇑s+1) a.names [])):
 Qd (bZ X a E s H fp) [] (ro E.length n σ) H {s with heap:=f,toks:=tk}:=by
 let h:∀x c,(nV X.env a.names []).lookup x∣c->X.env.cells.lookup x∣c:=λx c e=>ve a.names [] (λy hy hk=>I.kindL (S.free y hy hk)) (λ_ _ q=>by simp at q) e
 let o:∀x c,(Lv (⇑s+1) a.names (nV X.env a.names [])).lookup x∣c->((x,c)∈Lv (⇑s+1) a.names []/\f.IsCell c hX/\⇑s+1<=c)\/(X.env.cells.lookup x∣c/\c<⇑s):=λx c e=>by
  rcases mJ e with q|⟨_,q⟩
  .show .inl %[q|nc.empty x c q]
  .let q':=h x c q;let%[v,J,M|_]:=I.cell x c q';show .inr %[q'|Zu M]
 show%[%[I.ok.mod,S.kind,I.ok.glob,I.ok.blt,Zi _,λx y c h1 h2=>?_,λx hx=>?_,λx c hq e=>?_,I.ok.hd,I.ok.frames,.inl rfl,λb g=>%[?_|λx c e=>?_],I.bs,
  n7 I.ok.bsz I.sz,λb u e g=>?_,λb g T=>?_,I.stack|I.stkFree],ρ,I.bare,Un.kept B,%[_,hn|λj x v e1 e2 e3=>?_],λx c e=>?_,I.hok.fresh (Zi _),λx c e=>?_,λp hp=>?_,I.hok.kept B|?_]
 .rcases o x c h1 with⟨q1,_,q2⟩|⟨q1,q2⟩<;> rcases o y c h2 with⟨r1,_,r2⟩|⟨r1,r2⟩
  .show name_of_addr nc.apart q1 r1
  .show ow r2 (QB (n7 (Yf _) q2))
  .show ow q2 (QB (n7 (Yf _) r2))
  .show I.ok.inj x y c q1 r1
 .let:(x,LH)∈a.names\/(x,Nw)∈a.names:=by
   rcases hx with q|q
   .show mI q (.inl rfl)
   .show mI q (.inr rfl)
  show OP.mp (PV a.names _ _ ?_);rcases this with q|q
  .show .inr (OP.mpr (n5 a.names [] q))
  .show .inl (S.cell _ q rfl)
 .rcases mJ e with q|⟨q,_⟩
  .let:=(nc.empty x c q).2;change ⇑s<=c
   lia
  .let:=PV a.names (⇑s+1) [] (.inl (Zo hq));rw[q]at this;cases this
 .show Zs (L b g)
 .rcases o x c e with⟨_,_,q⟩|⟨q,_⟩
  .show λz=>ow (L b g) (QB (n7 (Yf _) (z▸q)))
  .show(Q b g).2.2.2.2.1 x c q
 .rcases(Q b g).2.2.2.1 with z|z
  .show I.ok.noex b u e z
  .show ow (Zg (Zu e) (n7 I.ok.bsz z)) (Xh _)
 .rcases Yu.mp (I.stkSub b T)with z|z
  .show(Q b g).2.1 z
  .show(Q b g).2.2.1 z
 ·
  let hj:∃i,n.lookup j∣i/\σ[i]?∣hY v:=by
   let A:((q7 E.length).map _)[j]?∣_:=e2;rw[Zl]at A;cases hr:(q7 E.length)[j]? with
   | none=>rw[hr]at A;cases A
   | some j'=>
     rw[hr]at A;let ab:j'=j:=by
      let:=Xj hr;let%[h1|h2]:=this;simpa using h2.symm
     subst ab;let C:((n.lookup j').bind _)∣v:=Za A;cases U:n.lookup j' with
     | none=>rw[U]at C;cases C
     | some i=>
       rw[U]at C;show%[i,ρ|?_];let Y:(σ[i]?).join∣v:=C;cases T:σ[i]? with
       | none=>rw[T]at Y;cases Y
       | some w=>rw[T]at Y;let:w∣v:=Y;rw[this]
  let%[i,U|hi]:=hj;let%[y,n1,n2|n3]:=S.capt _ (mH U);let ac:=Za (n1.symm.trans e1);subst ac;let N:=S.free _ (PySem.mem_of_lookup n3) rfl;let%[m,hm|hl]:=I.loc;let%[u,r|l]:=hl i y v n2 hi (by rcases N with q|q;show .inr (.inl q);show .inr (.inr q));show%[u,r|.inr %[?_|?_]]
  .show kE n3
  .rcases l with⟨k,_⟩|⟨_,c,G,hv⟩
   .rcases N with q|q
    .rw[k]at q;cases q
    .rw[k]at q;cases q
   .let%[c'|O]:=n5 a.names [] (PySem.mem_of_lookup n3);let:=h y c' O;rw[G]at this;let e5:=Za this;subst e5;let%[J,M|hd]:=hv;show%[c,?_,J,B c J M|hd];change(Lv _ _ _).lookup y∣c;rw[eU,S3];cases e6:(Lv _ a.names []).lookup y with
    | none=>simpa using O
    | some d=>
      let:=S.cell _ (lT (PySem.mem_of_lookup e6)) rfl;rw[n3]at this;cases this
 .rcases o x c e with⟨_,q,_⟩|⟨q,_⟩
  .show%[hX|q]
  .let%[v,J,M|hd]:=I.cell x c q;show%[v,J,B c J M|hd]
 .rcases o x c e with⟨_,_,q⟩|⟨q,_⟩
  .show I.hok.fresh ⋯
  .show I.freeC x c q
 .show ow (show p∈([])from hp) ∅
 .change(ro E.length n σ).length= ~~~E;unfold ro;rw[Z6,Yi]
end
abbrev PTs(X:Cx)(a:hH Ds)(t:TT):Prop:=
 ∀ij s (b:St) H Q,Qd X ij b H s->t b H Q->
  (X⁻¹) (forIn a iv λc r=>if r=iv then do let ok<-Tg c X.env (LB c X.env);pure (NG ok)else pure (NG r)) (TP X ij b Q) X.xe s
abbrev Fu:TT:=λ_ H Q=>Q iv H
def Fv{X:Cx}:PTs X [] Fu:=λ_ _ _ H _ I h=>wpAny_tests_nil %[H,I|h]
def Fw{X:Cx}(h:PT X c t):PTs X [c] t:=λij s a H Q I q=>wpAny_tests_one (h ij s a H Q I q)
abbrev rA(q:TI)(n:kj)(f:hH (kj×kj))(g:TG)(r:TT)(s:TE):TE:=λh H Q=>q h H λJ j=>∀D,j D=hX->∃W:kj->kj->hH V->St->Hp->Prop,
 (∃m,W 0 m [] (ro n f h) (Qb j D (.lst [])))/\∀i m ys c d,W i m ys c d->(J.stop i d/\Q (.ref D) d)\/
  (J.go i d/\∀x l,J.yld i d x l->g x c l λa u=>r a u λb o=>if b=iv then s a o λy p=>∃zs e,p D<*zs/\ ~~~zs<mv/\e<m/\W (i+1) e (ys++[y]) a (Qb p D (.lst (zs++[y])))
   else∃e,e<m/\W (i+1) e ys a o)
def Fx{code:ku}
 (j:∀h',h'.Ns ⇑s (λ_=>hX)->(∀b u,s.heap.get? b∣u->h'.get? b∣u)->CellsOk h' (⇑s+1) (Lv (⇑s+1) a.names [])->
  Q (newEnv a ⇑s d (Lv (⇑s+1) a.names f) g h code (hY env) c) (s>>>h')):sh M A (newFunctionEnv a d f [] g h code (hY env) c) Q E s:=by
 show Z2 (wpAny_alloc (Z2 (wpAny_layCells _ (λname kind i=>by lia) _ _ _ _ ?_)));let ok:=cellsFrom_ok a.names (s.heap.push {cls:= .type "dict",data:= .dict #[]}) (⇑s+1) [] %[λ_ _ l=>(nomatch l)|OX] ∅;rw[Zq]at ok;rw[Zq ..];show Z2 (Z3 (Z3 (j _ ((yu.Ns.new s.heap _).keeps (VS _ _)) (λb u e=>VS _ _ b u (Z7 _ e)) ok)))
def rB{X:Cx}{a:PY}(S:aD X a N' a4)(hc:X.calm=iv)(hi:PI X tg iter wi)
 (hg:∀L M A,PG (bZ X a N' L M A) tg g) (ht:∀L M A,PTs (bZ X a N' L M A) a5 tc) (he:∀L M A,PE (bZ X a N' L M A) a6 te)
 (hs:∀x,NN iter X.env x=pure x) (I:Qd X ij σ H s) (h:rA wi N'.length a4 g tc te σ H Q)
 (bb:∀(D C:kG) (O:Hp) (s6:mu) (fl:Flow) (m:ZC),s6.heap.Ns C m->lR X ij O C->(∀h',vr C s6.heap h'->Qd X ij σ O (s6>>>h'))->Q (.ref D) O->compPost (Lx X.prog X.w) X.A X.xe use QQ (.ref D) C (.ok fl) s6):
 (X⁻¹) (comprehension (.ListComp a6 [%[tg,iter,a5|0]] a pos) a X.env co (newList []) jg (LB iter X.env) use) QQ X.xe s:=by
 show wpAny_comprehension_free (use:=use) rfl hs (Ft (λy hy hk=>I.kindL (S.free y hy hk))) S.kind S.loc (thn (hi ij s σ H _ I h) λv s1 h1=>thn h1 λcs l h2=>?_);let%[it,A,tn,J,H2,e,I2,T,bc,f2|R]:=h2;subst e;show Lg (Fx λU Y N ab=>?_);dsimp only at Y N ab ⊢;let I3:Qd X ij σ (Qb H2 ⇑l (.lst [])) {l with heap:=l.heap.push {cls:= .type "list",data:= .seq ([]:ZF).toArray}}:=I2.lnew (its:=[]) (t':=l.toks) .nil (Xc _);let hD:H2 ⇑l=hX:=I2.fresh;let an:∀b∈A,b<⇑l:=λb j=>by let%[o,ho|_]:=T.obj 0 _ bc b j;show Zu ho
 generalize a1:({l with heap:=l.heap.push {cls:= .type "list",data:= .seq ([]:ZF).toArray}}:mu)=B at I3
 let G:B.heap=l.heap.push {cls:= .type "list",data:= .seq ([]:ZF).toArray}:=by rw[<-a1]
 let bd:⇑B=⇑l+1:=by rw[G,Zq]
 let f3:∀b∈A,lR X ij (Qb H2 ⇑l (.lst [])) b:=λb j=>%[(ao (Zs (an b j)))▸(f2 b j).1|(f2 b j).2]
 let%[W,%[m0|w0]|be]:=R _ hD;let ae:∀b u,B.heap.get? b∣u->U.get? b∣u:=G▸N;let I4:Qd (bZ X a N' B (Qb H2 ⇑l (.lst [])) A) [] (ro N'.length a4 σ) (Qb H2 ⇑l (.lst [])) {B with heap:=U,toks:=B.toks}:=I3.block S f3 (λb j=>bd▸Ym (an b j)) (G▸Y) ae (G▸ab);let bf:tn 0 U:=T.keep _ _ _ bc λb j o e=>ae b o (G▸Z7 _ e)
 let ct:(bZ X a N' B (Qb H2 ⇑l (.lst [])) A).env=compEnvC a _ ⇑B X.env:=rfl;let ag:∀{H':Hp},(∀b∈A,H' b=hX)->∀b∈A,lR _ [] H' b:=λhn b j=>
  %[hn b j,(I4.ok.exf b j).1,I4.ok.exfs b j,.inl j,(I4.ok.exf b j).2|λp hp=>ow (show p∈([]:ZE)from hp) ∅]
 let as:NQ (Lx X.prog X.w) X.A (.compLoop (.ListComp a6 [%[tg,iter,a5|0]] a pos) 0 (.ref it) (.ref ⇑l) (bZ X a N' B (Qb H2 ⇑l (.lst [])) A).env)
  (compPost (Lx X.prog X.w) X.A X.xe use QQ (.ref ⇑l) ⇑B) {B with heap:=U,toks:=B.toks}:=by
  show codeAny_loop rfl (λn s'=>∃i ys bl H',Qd _ [] bl H' s'/\tn i s'.heap/\(∀b∈A,H' b=hX)/\W i n ys bl H') ?_ m0 %[0,[],_,_,I4,bf,λb j=>(f3 b j).1|w0];intro n s5 %[i,ys,al,O,I5,bm,bt|w5];change sh _ X.A _ _ _ s5;show wpAny_noted ?_;rw[compTurn_list];show Z2 (N0 (Z2 ?_));rcases be i n ys al O w5 with⟨stop,q⟩|⟨go,step⟩
  .show thn (T.done (bZ X a N' B (Qb H2 ⇑l (.lst [])) A) rfl rfl rfl hc i [] s5 al O _ I5 (ag bt) bm stop) λr s6 ⟨hr,I6⟩=>?_
   subst hr;show Z3 ?_;let%[m6,b2|_]:=I6.loc;show bb ⇑l ⇑B O s6 _ m6 b2 (I2.fpOk (bd▸Yf _) I6.free) (λh' sb=>?_) q;let u6:Un (frs X.stack) A (Qb H2 ⇑l (.lst [])) O B.heap s6.heap:=I6.base;let a2:∀b u,B.heap.get? b∣u->b≠⇑B:=λb u e=>Zs (Zu e)
   let u7:Un (frs X.stack) A (Qb H2 ⇑l (.lst [])) O B.heap h':=%[λb u e n j hx=>(sb.2 b (a2 b u e)).trans (u6.keep b u e n j hx),λb u e n j hx=>by
    let%[sl|q]:=u6.slot b u e n j hx;show%[sl|(sb.2 b (a2 b u e)).trans q],u6.free,λb u e hx=>by
    let%[o'|q]:=u6.there b u e hx;show%[o'|(sb.2 b (a2 b u e)).trans q],u6.tups,u6.frzs|u6.tbls]
   let b3:HOk X.prog X.w O h':=λb u e=>by
    let b0:∀c w,O c∣w->c≠⇑B:=λc w q z=>by
     let:O ⇑B=hX:=I6.free;rw[z,this]at q;cases q
    show(I6.hok b u e).stay (λc w b4 q=>(sb.2 c ?_).trans q) (λ_ q=>q) λ_ _ q=>q
    rcases b4 with z|z
    .show z▸b0 b u e
    .show b0 c _ z
   show I2.call' (s':=(s6>>>h')) (ch:=A) (by change s6.os=l.os;rw[I6.os,<-a1];rfl) ((Un.laid (λb u e=>G▸Z7 _ e) (Zi _) hD).trans u7) b3 I6.bare λb j=>%[(f2 b j).2.2.2.1,(f2 b j).2.1,(f2 b j).2.2.2.2.1|(f2 b j).2.2.2.2.2]
  .show thn (T.item (bZ X a N' B (Qb H2 ⇑l (.lst [])) A) rfl rfl rfl hc i [] s5 al O _ I5 (ag bt) bm go) λr s6 ⟨u,hr,h6⟩=>?_
   subst hr;show Z2 (thn h6 λ_ s7 ⟨x,H7,I7,r7,y7,a3,b5⟩=>?_);let ac:∀{α:Type} {t:Sem α} {Q1:α->mu->Prop} {E2:ZD} {s':mu},(X⁻¹) t Q1 (λ_ _=>KZ) s'->(X⁻¹) t Q1 E2 s':=λh=>Lb h (λ_ _ q=>q) λ_ _ f=>f.elim
   let a0:∀{E:St} {H8:Hp} {s8:mu},Qd (bZ X a N' B (Qb H2 ⇑l (.lst [])) A) ([] ++ti A s7.heap) E H8 s8->
    Qd _ [] E H8 s8/\tn (i+1) s8.heap/\∀b∈A,H8 b=hX:=λ{E H8 s8} I8=>by
    show%[I8.unpinned,T.keep _ _ _ a3 λb j o e=>(I8.pin (b,o) (Yt _ (Yt _ (fk j e)))).1|λb j=>?_];let%[o,e|d]:=T.obj _ _ a3 b j;show(I8.pin (b,o) (Yt _ (Yt _ (fk j e)))).2.1
   show Z2 (ac (thn (hg B _ A _ s7 al H7 x u _ (I7.pinned (ag b5) (T.obj _ _ a3)) r7 (step x H7 y7)) λ_ s8 ⟨E,H8,I8,q8⟩=>Z2 (ac (thT (ht B _ A _ s8 E H8 _ I8 q8) λb s9 H9 I9 q9=>?_))));cases b with
   | false=>
     let%[m',hm|w9]:=(q9)
     let%[J1,J2|J3]:=a0 I9;show Z3 %[rfl,m',hm,i+1,ys,E,H9,J1,J2,J3|w9]
   | true=>
     let q9:=(q9:te E H9 λy O=>∃zs m',O ⇑l<*zs/\ ~~~zs<mv/\m'<n/\W (i+1) m' (ys++[y]) E _)
     show Z2 (Z2 (ac (thP (he B _ A _ s9 E H9 _ I9 q9) λu2 b6 y b1 b9 ca ⟨zs,m',hz,hl,hm,cd⟩=>Z2 (ac (thP (rg _ b6 E b1 (.ref ⇑l) [y] (.ref ⇑l) [u2] (λv H'=>v= .non/\H'=Qb b1 ⇑l (.lst (zs++[y]))) b9 rfl (.cons ca .nil) %[_,hz,hl,rfl|rfl]) λu3 cv v3 cw ce cM ⟨c0,cl⟩=>?_)))));subst cl;let%[J1,J2|J3]:=a0 ce;show Z3 (Z3 %[rfl,m',hm,i+1,ys++[y],E,_,J1,J2,J3|cd])
 subst a1;show(codeAny_compStart_list as (T.self _ 0 _ _ _ bf as))
def Fy{X:Cx}(S:aD X a e f)(n:X.calm=iv)(hi:PI X l iter o)
 (p:∀b c d,PG (bZ X a e b c d) l g) (r:∀b c d,PTs (bZ X a e b c d) i u) (v:∀b c d,PE (bZ X a e b c d) j w)
 (y:∀x,NN iter X.env x=pure x):
 PE X (.ListComp j [%[l,iter,i|0]] a pos) (rA o e.length f g u w):=by
 intro ij s E H Q I h;show rB S n hi p r v y I h λD C z G J m A _ k q=>%[m,A|λh' B=>%[.ref D,z,k h' B,rfl|q]]
abbrev Its(z:lx):It:=⟨λi _=>i<z.cps.size,λi H x a=>a=H/\∃c,z.cps[i]?∣c/\x= .str ⟨#[c]⟩,λi _=>z.cps.size<=i⟩
def n6{P:nX}{K:ZA}(it:kG)(z:lx)(t:Tok):qp P w K tg (Its z) [it] it (λi h=>h.IsStrIter it "str_ascii_iterator" z t i) where
 mem:=by simp
 obj:=λi h st b hb=>by
  let e:=↑hb
  subst e;let%[o,e,c|d]:=st;show%[o,e|λv z=>by lia]
 keep:=λi h h' st k=>by
  let%[o,e|r]:=st;show%[o,k it ∅ o e|r]
 item:=by
  intro X hP hw hK hc i ij s σ H E I hf st hg;let hlt:i<z.cps.size:=hg;let%[f0,f1,f2,f3,f4|f5]:=hf it ∅;show wpAny_pyNext_ascii_item st (c:=z.cps[i]) ∅ λh' st' sb=>?_
  let%[o,e,c|d]:=id st';show%[_,ρ|qO e c d (!1) %[.str _,H,(I.turned (λb o hb e=>(sb.2 b hb).trans e) f0 f1 f3 f4 f5),%[_|ρ],%[ρ,_,by simp|ρ],st'|λb hb=>(hf b hb).1]]
 done:=by
  intro X hP hw hK hc i ij s σ H E I hf st hg;let hle:z.cps.size<=i:=hg;let%[f0,f1,f2,f3,f4|f5]:=hf it ∅;show wpAny_pyNext_ascii_end (I.ok.hd hc) st (by simp[hle]) λh' eb=>%[rfl|I.turned (λb o hb e=>eb b o hb e) f0 f1 f3 f4 f5]
 self:=λ_ _ _ _ _ st h=>wpAny_pyIter_striter_ascii st h
def rC{P:nX}{K:ZA}(it:kG)(z:lx)(t:Tok):qp P w K tg (Its z) [it] it (λi h=>h.IsStrIter it "str_iterator" z t i) where
 mem:=by simp
 obj:=λi h st b hb=>by
  let e:=↑hb
  subst e;let%[o,e,c|d]:=st;show%[o,e|λv z=>by rw[d]at z;cases z]
 keep:=λi h h' st k=>by
  let%[o,e|r]:=st;show%[o,k it ∅ o e|r]
 item:=by
  intro X hP hw hK hc i ij s σ H E I hf st hg;let hlt:i<z.cps.size:=hg;let%[f0,f1,f2,f3,f4|f5]:=hf it ∅;show wpAny_pyNext_wide_item st (c:=z.cps[i]) ∅ λh' st' sb=>?_
  let%[o,e,c|d]:=id st';show%[_,ρ|qO e c d (!1) %[.str _,H,(I.turned (λb o hb e=>(sb.2 b hb).trans e) f0 f1 f3 f4 f5),%[_|ρ],%[ρ,_,by simp|ρ],st'|λb hb=>(hf b hb).1]]
 done:=by
  intro X hP hw hK hc i ij s σ H E I hf st hg;let hle:z.cps.size<=i:=hg;let%[f0,f1,f2,f3,f4|f5]:=hf it ∅;show wpAny_pyNext_wide_end (I.ok.hd hc) st (by simp[hle]) λh' eb=>%[rfl|I.turned (λb o hb e=>eb b o hb e) f0 f1 f3 f4 f5]
 self:=λ_ _ _ _ _ st h=>wpAny_pyIter_striter_wide st h
abbrev CK(D:kG)(n i:kj)(Pv:kj->hH V->St->Hp->Prop)(ys:hH V)(b:St)(y:V)(H:Hp):Prop:=
 ∃zs a,H D<*zs/\ ~~~zs<mv/\a<n-i/\(a=n-(i+1)/\i+1<=n/\Pv (i+1) (ys++[y]) b (Qb H D (.lst (zs++[y]))))
abbrev CN(n i:kj)(Pv:kj->hH V->St->Hp->Prop)(ys:hH V)(b:St)(H:Hp):Prop:=∃a,a<n-i/\(a=n-(i+1)/\i+1<=n/\Pv (i+1) ys b H)
def CK.mk{Pv:kj->hH V->St->Hp->Prop}(hi:i<n)(a:H D<*zs)(b: ~~~zs<mv)(p:Pv (i+1) (ys++[y]) c (Qb H D (.lst (zs++[y])))):CK D n i Pv ys c y H:=
 %[zs,n-(i+1),a,b,⋯,rfl,hi|p]
def CN.mk{Pv:kj->hH V->St->Hp->Prop}(hi:i<n)(p:Pv (i+1) ys a H):CN n i Pv ys a H:=%[n-(i+1),⋯,rfl,hi|p]
def dI{J:It}{g:TG}{v:TT}{w:TE}{z:Hp->Prop}(Pv:kj->hH V->St->Hp->Prop)(A:Pv 0 [] c H)(s:∀i ys c H,i<n->Pv i ys c H->J.go i H)(d:∀ys c H,Pv n ys c H->J.stop n H)
 (B:∀i ys c H,i<n->Pv i ys c H->∀x f,J.yld i H x f->g x c f λa u=>v a u λb h=>if b=iv then w a h λy r=>CK D n i Pv ys a y r else CN n i Pv ys a h) (C:∀ys c H,Pv n ys c H->z H):
 ∃W:kj->kj->hH V->St->Hp->Prop,(∃m,W 0 m [] c H)/\∀i m ys j l,W i m ys j l->(J.stop i l/\z l)\/
  (J.go i l/\∀x f,J.yld i l x f->g x j f λa u=>v a u λb h=>if b=iv then w a h λy r=>∃zs o,r D<*zs/\ ~~~zs<mv/\o<m/\W (i+1) o (ys++[y]) a (Qb r D (.lst (zs++[y])))
   else∃o,o<m/\W (i+1) o ys a h):=by
 show%[λi m ys c H=>m=n-i/\i<=n/\Pv i ys c H,%[n,by simp,Xc _|A]|?_];intro i m ys c H %[rfl,hi|p];by_cases q:i<n
 .show .inr %[s i ys c H q p|λx f y=>B i ys c H q p x f y]
 .let e:i=n:=by lia
  subst e;show .inl %[d ys c H p|C ys c H p]
def yQ:∀{bs:hH ri} {us:ZF} {i:kj} {v:ku},aI (bs.map V.bl) us->us[i]?∣v->∃b,bs[i]?∣b/\v= .bool b
 |[],_,_,_,r,e=>by cases r;simp at e
 | b::bs,_,i,v,r,e=>by
   cases r with
   | cons a c=>
     cases(a);cases i with
     | zero=>simp at e;show%[b,ρ|e.symm]
     | succ i=>
       let%[d,f|g]:=yQ c (e);show%[d,f|g]
def n8(bs:hH ri):(q7 bs.length).all (λi=>bs.getD i jg)=bs.all id:=by
 let e:(q7 bs.length).map (λi=>bs.getD i jg)=bs:=by
  apply OQ
  .simp
  .intro i a b
   simp_all
 let:(q7 bs.length).all (λi=>bs.getD i jg)=((q7 bs.length).map λi=>bs.getD i jg).all id:=by rw[Vd];rfl
 rw[this,e]
def Ck{X:Cx}(m:X.calm=iv):ci X (.builtin "all") (λxs H Q=>cJ xs λg=>asR g λp=>∃(bs:hH ri),Qc X.K H p (bs.map V.bl)/\Q (.bl (bs.all id)) H):=by
 intro ij s E H xs us Q I r h;let%[g,rfl|d]:=bF h;let%[p,rfl|f]:=aM d;let%[bs,n|q]:=f;let%[u,rfl|w]:=cO r;cases w;let%[its,j,pl|G]:=I.list n;let y:X.A.in1.handled=hX:=I.ok.hd m;let a: ~~~bs=its.toArray.size:=by rw[Zp,<-j.length,Z6]
 show call_all_walk (NI pl.isList %[⇑s,[⇑s,p],[⇑s],its.toArray.size,_,_,λi=>bs.getD i jg,rfl,Q2 y _ p (Zs (by let%[o,z|_]:=pl.isList;show Zu z)) its.toArray,%[%[_,Zj _ rfl,rfl|rfl]|pl.isList.push _],?_|?_])
 .intro i v s' A J B c;let%[b,l|rfl]:=yQ j ↑B;let e:bs.getD i jg=b:=!2
  let c:A (bs.getD i jg) s':=c;rw[e]at c;show LZ c
 .intro h' tk C;rw[<-a,n8];show%[.bl _,H,I.kept λb o e=>C b o ?_ (Z7 _ e),ρ|q];let:=Zu e;intro l;show ow (Xl l) (Zs this)
def io:∀{ss:ZB} {us:ZF},aI (ss\3) us->Lr us ss
 |[],_,r=>by cases r;show .nil
 | x::ss,_,r=>by
   cases r with
   | cons a b=>
     let%[t|e]:=a;subst e;show .cons x t (io b)
abbrev yS(K:ZA):V->hH V->Hp->VK->Prop:=λx vs H Q=>asS x λz=>cJ vs λa=>asR a λl=>∃ss,Qc K H l (ss\3)/\(ss.map (·.length)).sum+ ~~~ss* ~~~z<=16777216/\Q (.str (Txt.join z ss)) H
def Fz{X:Cx}:MtM X "str.join" (yS X.K):=by
 intro ij s i H x vs v us Q I d e h;let%[z,rfl|a]:=fj h;let%[j,rfl|b]:=bF a;let%[l,rfl|c]:=aM b;let%[ss,f,hw|q]:=c;let%[t|rfl]:=d;let%[u,rfl|g]:=e.one;cases g;let%[its,r,pl|m]:=I.list f;show VY pl.isList (io r) hw λt' k=>%[.str _,H,I.tok k,%[_|rfl]|q]
def Cl{X:Cx}:ci X (.builtin "isinstance") (λxs H Q=>∃x n t b,xs=[x,.ty n]/\j3 X.K H x t/\OE X.K t (.type n)∣b/\Q (.bl b) H):=by
 intro ij s d H xs us Q I r h;let%[x,n,t,b,rfl,ty,e|q]:=h;let%[u,f,rfl,c|a]:=iY r;cases(a);show Af I c ty e λtk=>%[.bl b,H,I.tok tk,rfl|q]
def rD(z:lx)(c i:kj):RH z ⟨#[c]⟩ i=decide (z.cps[i]?∣c):=by
 unfold RH;let b: ~~~(⟨#[c]⟩:lx)=1:=rfl;rw[b];by_cases hi:i<z.cps.size
 .let e:z.cps.extract i (i+1)= #[z.cps[i]]:=by
   apply V4
   .simp;lia
   .intro j d a;simp at a;subst a;simp
  rw[e,J6 hi];by_cases f:z.cps[i]=c
  .subst f;simp
  simp_all
 .let e:z.cps.extract i (i+1)= #[]:=by
   apply V4
   .simp;lia
   .intro j d a;simp at a
  rw[e,Nd ⋯];simp
def tO(z:lx)(c:kj):(!(KE z ⟨#[c]⟩ 0 z.length 1).isEmpty)=decide (c∈z.cps.toList):=by
 rcases StrLaws.occ_head z _ 1 (Zi _)with⟨e,d⟩|⟨i,r,e,f,_⟩
 .rw[e];show(Zh λg=>?_).symm;let%[j,h|l]:=hH.mem_iff_getElem.mp g;let a:=↑h
  show d j %[?_|?_]
  .change j+1<=z.cps.size;lia
  .rw[rD];show Zf (by rw[J6 a];simpa using l)
 .rw[e];show(Zf ?_).symm;let b:=f.2;rw[rD]at b;let:=NF (Zo b);simpa using this
section
variable{X:Cx}
nonrec abbrev Cm:R2:=λx y H Q=>asS x λi=>asS y λj=> ~~~i+ ~~~j<=mv/\Q (.str (i++j)) H
nonrec abbrev Cn:R2:=λx y H Q=>rI0 (λi j=> .int (i+j)) x y H Q\/(Cm x y H Q\/Fg x y H Q)
def FA:OpR X (Ly .Add) Cn:=BQ.or (nQ.or Cc)
nonrec abbrev Co:R2:=λx y H Q=>rI BP (λi j=> .int (i*j)) x y H Q\/HW x y H Q
def FB:OpR X (Ly .Mult) Co:=BR.or HX
nonrec abbrev Ib:R2:=rEq
def Ic:OpR X (qq .Eq) Ib:=Gz
nonrec abbrev Ie:R2:=rNe
def Ig:OpR X (qq .NotEq) Ie:=GA
nonrec abbrev Ih:R2:=λx y H Q=>asS x λi=>asS y λj=>Q (.bl (!(KE j i 0 j.length 1).isEmpty)) H
nonrec abbrev FC(K:ZA):R2:=λx y H Q=>Ih x y H Q\/rIn K jg x y H Q
def Ii:OpR X (qq .In) (FC X.K):=qQ.or qY
abbrev FD(K:ZA)(c:TE):TI:=λd H R=>c d H λx b=>(∃a,x= .ref a/\(∃xs,Qc K b a xs)/\R (Itl K a) b)\/(∃a,x= .ref a/\(∃xs,SqT K b a xs)/\R (Itt K a) b)\/∃z,x= .str z/\R (Its z) b
def Ij(n:PE X l r):PI X C l (FD X.K r):=by
 intro ij s u H R I h;show thP (n ij s u H _ I h) λv d x g f i w=>?_
 let c:∀b∈[⇑d],lR X ij g b:=λb y=>by
  let e:b=⇑d:=↑y
  subst e;show f.fpOk (Zi _) (f.hok.fresh (Zi _))
 rcases w with⟨a,e,⟨xs,j⟩,q⟩|⟨a,e,⟨xs,j⟩,q⟩|⟨z,e,q⟩
 .subst e;cases i;let%[its,A,p|B]:=f.list j;show NI p.isList %[⇑d,[⇑d],_,_,g,rfl,f.kept (t':=d.toks) λb o e=>Z7 _ e,qP a _,%[_,Zj _ rfl,rfl|rfl],c|q]
 .subst e;cases i;let%[its,A,p|B]:=f.tuple j;show Qv (p) %[⇑d,[⇑d],_,_,g,rfl,f.kept λb o e=>Z7 _ e,xa a _,%[_,Zj _ rfl,rfl|rfl],c|q]
 .subst e;let%[t|rfl]:=i;cases m:z.cps.all _ with
  | true=>
    show UH m %[⇑d,[⇑d],_,_,g,rfl,f.kept λb o e=>Z7 _ e,n6 _ z t,%[_,Zj _ rfl,rfl|rfl],c|q]
  | false=>
    show U3 m %[⇑d,[⇑d],_,_,g,rfl,f.kept λb o e=>Z7 _ e,rC _ z t,%[_,Zj _ rfl,rfl|rfl],c|q]
end
abbrev bH(c:PY)(N:ZB)(a:PY)(d:ZB)(b:hH (kj×kj)):ri:=
 decide (a.kind= .function)&&a.names.all (λy=>(decide (y.2≠ .cell)||decide (a.names.lookup y.1∣.cell))&&(decide (y.2≠ .local)||decide (a.names.lookup y.1∣.local))&&(decide (y.2≠ .free)||decide (c.names.lookup y.1∣.cell)||decide (c.names.lookup y.1∣.free)))&&
  b.all λp=>match d[p.1]? with
   | some x=>decide (N[p.2]?∣x)&&decide (a.names.lookup x∣.free)
   | none=>jg
def aD.of{X:Cx}(h:bH X.env.scope X.N a g c=iv):aD X a g c:=by
 unfold bH at h;rw[Zv,Zv,Mu,Mu]at h;let%[%[i|d]|j]:=h;show%[Zo i,λy b f=>?_,λy b f=>?_,λy b l=>?_|λp m=>?_]
 .let:=d y b;simp only[Zv,Sb,K9]at this;show this.1.1.resolve_left λq=>q f
 .let:=d y b;simp only[Zv,Sb,K9]at this;show this.1.2.resolve_left λq=>q f
 .let:=d y b;simp only[Zv,Sb,K9]at this;rcases this.2 with(q|q)|q
  .show ow l q
  .show .inl q
  .show .inr q
 .let:=j p m;cases e:g[p.1]? with
  | none=>simp_all
  | some x=>
    rw[e]at this;simp only[Zv,K9]at this;show%[x,ρ,this.1|this.2]
structure Gv (mg:ZC) (x:lx) (v:V):Prop where
 ex:∃u,mg x∣u/\aT v u
def GE{X:Cx}(g:Gv X.mg x v)(a:Gl X x)(b:(x==("__debug__":lx))=jg):PE X (.Name x pos) (tC v):=by
 let%[u,h|r]:=g.ex;show EF a h r b
structure Cal (P:nX) (w:v0) (K:ZA) (mg:ZC) (base:yu) (k:kj) (x:lx) (ps:ZB) (sp:Sp):Prop where
 ex:∃f fd,dG P w K mg base CX0 k f fd ps sp/\mg x∣.ref f/\Nt K (.ref f)=iv/\dH K fd ps []
structure aE (K:ZA) (mg:ZC) (x:lx) (st:I0) (ps:ZB):Prop where
 ex:∃f fd,Fun K x x st f fd/\mg x∣.ref f/\dH K fd ps []
def aE.cal{P:nX}{K:ZA}{st:I0}(D:aE K mg x st ps)(S:ar N ps (am st))
 (a:∀(H:Hp) (vs:hH V) (Q:VK) (E:XK),sp vs H Q E-> ~~~vs= ~~~ps/\∀(f:kG) (b:ku) (A:vi) (outer:hH Env) (s:mu),bE k (A.deeper (LQ x (am st) ⇑s f b))->
  ∃t,PSs (fo CX0 P w K mg base N x (am st) f b A outer s H E).nox (bB st) t/\t {nx:=λ_ c=>Q .non c,rt:=Q} (start N vs) H):Cal P w K mg base (k+1) x ps sp:=by
 let%[f,d,F,e|g]:=D.ex;show%[f,d,F.ok S (λv H Q E h=>(a H v Q E h).1) (λb A o s H v Q E r h=>(a H v Q E h).2 f b A o s r),e,F.kp|g]
def Ik{X:Cx}(C:Cal X.prog X.w X.K X.mg X.base j x ps sp)(d:bE k X.A)(g:Gl X x)(h:ik CX0 X E0)(i:PA X (e::es) t)(a:j<=k)
 (b:(x==("__debug__":lx))=jg) (l:vj (e::es) X.env=(jg,LB e X.env)::vj es X.env) (c:(Mm pos (vj es X.env)).any (·.1)=jg):
 PE X (.Call (.Name x p) (e::es) [] pos) (qT sp [] E0 t):=by
 let%[f,q,F,m,n|o]:=C.ex;show yP F (d.mono a) g m n o .nil h i b l c
def Il{K:ZA}{h:yu}{st:I0}{kV e g d ct:ku}(X:K.In h)(G:h.Ns wy mg)
 (a:Qj K wy x∣hY (.ref f)) (l:K.lookup f=hY %[m,od,.func (Rp x x (dh st) (bB st) (am st) .none kV e g i d ct)|j]) (c:PU K d x=iv) (k:Nt K (.ref f)=iv)
 (b:∀(kV e g:ku) (i:ZI) (d ct:ku) (us:ZF),~~~us= ~~~ps->bindArgs (Rp x x (dh st) (bB st) (am st) .none kV e g i d ct) %[us|[]]=pure (ps.zip us)):aE K mg x st ps:=
 %[f,_,d5 l c k,Na X G a|(d5 l c k).binds b]
def Ka{K:ZA}{h:yu}(X:K.In h)(G:h.Ns wy mg)(a:Qj K wy x∣hY u)(r:aT v u):Gv mg x v:=%[u,Na X G a|r]
def aw(h:∀a:It->Hp->Prop,(∀J f,(∃W:kj->kj->St->Hp->Prop,(∃m,W 0 m b f)/\∀i m b H,W i m b H->
 (J.stop i H/\D.nx b H)\/(J.go i H/\∃N:St->Hp->Prop,(∀c d,N c d->∃j,j<m/\W (i+1) j c d)/\∀x d,J.yld i H x d->g x b d λe l=>n {D with nx:=N,ct:=N,bk:=D.nx} e l))->a J f)->o b H a):tf o g n D b H:=h _ λ_ _ x=>x
def aK(h:∀c:It->Hp->Prop,(∀J j,(∀D,j D=hX->∃W:kj->kj->hH V->St->Hp->Prop,
 (∃m,W 0 m [] (ro n l o) (Qb j D (.lst [])))/\∀i m ys d e,W i m ys d e->(J.stop i e/\Q (.ref D) e)\/
  (J.go i e/\∀x p,J.yld i e x p->g x d p λa s=>u a s λb q=>if b=iv then v a q λy r=>∃zs f,r D<*zs/\ ~~~zs<mv/\f<m/\W (i+1) f (ys++[y]) a (Qb r D (.lst (zs++[y])))
   else∃f,f<m/\W (i+1) f ys a q))->c J j)->w o H c):rA w n l g u v o H Q:=h _ λ_ _ x=>x
section
variable{X:Cx}{K:ZA}
def Im(h:X.K=K):OpR X (qq .In) (FC K):=by subst h;show Ii
def As(h:X.K=K):ci X (.builtin "len") (λxs H Q=>cJ xs λx=>∃n,EV K x H n/\Q (.int n) H):=by subst h;show BX
def At(h:X.K=K)(a:X.calm=iv):ci X (.builtin "all") (λxs H Q=>cJ xs λb=>asR b λp=>∃(bs:hH ri),Qc K H p (bs.map V.bl)/\Q (.bl (bs.all id)) H):=by subst h;show Ck a
def Au(h:X.K=K):ci X (.builtin "isinstance") (λxs H Q=>∃x n t b,xs=[x,.ty n]/\j3 K H x t/\OE K t (.type n)∣b/\Q (.bl b) H):=by subst h;show Cl
def xz(h:X.K=K):ci X (.type "list") (λxs H Q=>cJ xs λa=>asR a λp=>∃ys,(Qc K H p ys\/SqT K H p ys)/\∀l,H l=hX->Q (.ref l) (Qb H l (.lst ys))):=by subst h;show tK
def Cp(h:X.K=K):MtR X "str.join" (yS K):=by subst h;show Fz
def Av(h:X.K=K)(d:PE X a e)(f:∀b,Tg a X.env b=(do let v<-b;Of a.pos;Pk [v] (truthy v))):PT X a (λg H Q=>e g H λx c=>∃k,BV K x c k/\Q k c):=by subst h;show BW d f
def FE(h:X.K=K)(a:PE X l b):PI X c l (FD K b):=by subst h;show Ij a
variable{o e:Ds}{es:hH Ds}{to:TE}{t:TA}{name:lx}{apos cpos:Pos}{T id:LF}{r:V->hH V->Hp->VK->Prop}
def FF(h:X.K=K)(d:NY T)(slot:Slot T name id)(c:Oa (.builtin id)=pure (.type "method_descriptor"))(f:MtR X id r)(g:PE X o to)
 (a:Mf o name X.env (LB o X.env)=LB o X.env) (b:(apos.endLine==cpos.line)=iv):PE X (.Call (.Attribute o name apos) [] [] cpos) (Fe K T r to):=by
 subst h;show HV d slot c f g a b
def Cq(h:X.K=K)(g:NY T)(slot:Slot T name id)(f:Oa (.builtin id)=pure (.type "method_descriptor"))(i:MtR X id r)(j:PE X o to)(l:PA X (e::es) t)
 (b:Mf o name X.env (LB o X.env)=LB o X.env)
 (d:((Mm cpos (vj (e::es) X.env)).all (λx=>!x.1)&&(N8 cpos (MG [] X.env)).all (λx=>x.1.isSome)
  && decide (~~~(e::es)+ ~~~([]:hH N6)+(if([]:hH N6).isEmpty then 0 else 1)<30))=iv)
 (c:(apos.endLine==cpos.line)=iv) (m:vj (e::es) X.env=(jg,LB e X.env)::vj es X.env) (a:(Mm cpos (vj es X.env)).any (·.1)=jg):
 PE X (.Call (.Attribute o name apos) (e::es) [] cpos) (tBM K T r to t):=by
 subst h;show J8 g slot f i j l b d c m a
end
section
variable{X:Cx}{ij:ZE}{σ:St}{H:Hp}{s s':mu}{h':yu}{tk:kj}{fp:hH kG}
def Qd.moved(I:Qd X ij σ H s)(c:∀b∈fp,lR X ij H b)(d:∀b o,b∉fp->s.heap.get? b∣o->h'.get? b∣o):Qd X ij σ H {s with heap:=h',toks:=tk}:=by
 let f:∀b v,H b∣v->b∉fp:=λb v e a=>by rw[(c b a).1]at e;cases e
 show I.step (λb a=>%[(c b a).2.2.2.1,(c b a).2.1,(c b a).2.2.2.2.1|(c b a).2.2.2.2.2]) (λb o _ _ g e _=>d b o g e) (λb o _ _ g e _=>%[o.slots|d b o g e]) (λ_ _ _ _ n=>n)
  (λb o g e=>%[o|d b o g e]) (λ_ _ e=>e) (λ_ _ _ e=>e) (λb ps e=>%[#[]|by rw[e];simp]) (λm l=>?_) (λb v e=>?_) I.bare
 .let%[o,es,p,u|r]:=l;show%[o,es,p,d _ o (λa=>(c _ a).2.1 rfl) u|r]
 .show(I.hok b v e).stay (λj w h q=>d j w ?_ q) (λ_ q=>q) λ_ _ q=>q
  rcases h with i|i
  .show i▸f b v e
  .show f j _ i
def Qd.stood3(I:Qd X c y B s)(g:∀p∈ij,p∈c)(J:Qd X ij σ H s')(d:H a=hX)(C:s.heap.get? a=hX)(new:bQ X.prog X.w (Qb H a o) s'.heap a o):Qd X ij σ (Qb H a o) s':=by
 let ne:∀{b:kG} {o:MU},s.heap.get? b∣o->b≠a:=λe z=>by lia
 show%[J.ok,J.os,J.bare,?_,J.loc,J.cell,?_,?_,?_,?_|J.len]
 .show%[J.base.keep,J.base.slot,λb o e n j=>?_,J.base.there,λb xs e=>?_,λb o v e=>?_|λb ps e=>?_]
  .let%[E|A]:=I.base.there b o e j;rw[ao (ne A)];show J.base.free b o e n j
  .rw[ao (ax (J.base.tups b xs e) d)];show J.base.tups b xs e
  .rw[ao (ax (J.base.frzs b o v e) d)];show J.base.frzs b o v e
  .let%[m|q]:=J.base.tbls b ps e;show%[m|(ao (ax q d))▸q]
 .let%[m,%[G,_,_,h|_]|_]:=I.loc;rw[ao (ne h)];show J.free
 .intro l f e;let%[L,M,i|_]:=I.cell l f e;rw[ao (ne i)];show J.freeC l f e
 .intro p u;let%[e,n|r]:=J.pin p u;show%[e,?_|r];let:=(I.pin p ((Xk u).elim (λz=>Ys _ z) λz=>Yt _ (g p z))).1;rw[ao (ne this)];show n
 .intro b v e;by_cases w:b=a
  .subst w;rw[aa]at e;cases e;show new
  .rw[ao w]at e;show(J.hok b v e).stay (λ_ _ _ q=>q) (λf q=>?_) λf xs q=>?_
   .rw[ao (ax q d)];show q
   .rw[ao (ax q d)];show q
def Qd.stood2(I:Qd X ij σ d s)(J:Qd X ij σ H s')(b:H a=hX)(c:⇑s<=a)(new:bQ X.prog X.w (Qb H a o) s'.heap a o):Qd X ij σ (Qb H a o) s':=
 I.stood3 (λ_ h=>h) J b (by
  cases e:s.heap.get? a with
  | none=>rfl
  | some o=>show ow (Zu e) (kj.not_lt.mpr c)) new
def Qd.stoodS(I:Qd X ij σ H s)(J:Qd X ij σ H s')(b:⇑s<=a)(new:bQ X.prog X.w (Qb H a o) s'.heap a o):Qd X ij σ (Qb H a o) s':=I.stood2 J (I.hok.fresh b) b new
def Qd.stood(I:Qd X ij σ H s)(J:Qd X ij σ H {s with heap:=h',toks:=tk})(b:⇑s<=a)(new:bQ X.prog X.w (Qb H a o) h' a o):Qd X ij σ (Qb H a o) {s with heap:=h',toks:=tk}:=I.stoodS J b new
end
structure xA (z TI TO i1 i2:kG):Prop where
 TIz:TI≠z
 TOz:TO≠z
 i1z:i1≠z
 i2z:i2≠z
 TITO:TI≠TO
 TIi1:TI≠i1
 TIi2:TI≠i2
 TOi1:TO≠i1
 TOi2:TO≠i2
 i12:i1≠i2
section
#where
variable{z TI TO i1 i2:kG}{fp1 fp2:hH kG}{n1 n2 i:kj}{P1 P2:kj->ku->Prop}{St1 St2:kj->yu->Prop}
def Cr{Q:ZD}(D1:Ui prog w A i1 fp1 n1 P1 St1)(D2:Ui prog w A i2 fp2 n2 P2 St2)(D:xA z TI TO i1 i2)(O:∀b∈fp1,b≠z/\b≠TO/\b≠i2)(m2:∀b∈fp2,b≠z/\b≠TO/\b≠i1)
 (T:Q6 s.heap z TI TO .none) (ac:NZ s.heap TI (.ref i1) (.ref i2)) (ae:NZ s.heap TO a b) (h1:St1 i s.heap) (h2:St2 i s.heap) (l1:i<n1) (l2:i<n2)
 (hQ:∀x y h' tk,P1 i x->P2 i y->Q6 h' z TI TO (Lj ⇑s)->NZ h' TO x y->St1 (i+1) h'->St2 (i+1) h'->NZ h' ⇑s x y->
  (∀c o,c≠z->c≠TO->c≠i1->c≠i2->s.heap.get? c∣o->h'.get? c∣o)->Q (.ref ⇑s) {s with heap:=h',toks:=tk}):
 ↥A (o0.«zip.__next__» %[[.ref z]|[]]) (λag s'=>∃v,ag= .done (.ret v)/\Q v s') E s:=by
 let r:∀{k h h' c},(∀b∈fp1,b≠c)->vr c h h'->St1 k h->St1 k h':=λhc sb st=>D1.frame _ _ _ st λb d o e=>(sb.2 b (hc b d)).trans e
 let u:∀{k h h' c},(∀b∈fp2,b≠c)->vr c h h'->St2 k h->St2 k h':=λhc sb st=>D2.frame _ _ _ st λb d o e=>(sb.2 b (hc b d)).trans e
 change sh _ _ (field (.ref z) 2>>= _) _ _ _;show Z2 (LW T rfl (x:= .bool jg) rfl ?_);change sh _ _ (field (.ref z) 3>>= _) _ _ _;show Z2 (LW T rfl (x:= .ref TI) rfl (Z2 (Lw ac rfl ?_)));change sh _ _ (LN (.ref z)>>= _) _ _ _;show Z2 ?_;unfold LN;show Z2 (LW T rfl (x:= .none) rfl (Z3 ?_));simp only[Pj];show Z2 (MX (Z2 (LW T rfl (x:= .ref TO) rfl (Z2 (zz T ∅ λg1 M n=>?_)))));replace M:Q6 g1 z TI TO .ellipsis:=M;show Z2 ?_;simp only[Qq,Ug,Qz,UC];show Z2 (Z2 (Qp ?_));change sh _ _ (Mx (.ref i1)>>= _) _ _ _;show Z2 (D1.item i _ _ _ l1 (r (λb d=>(O b d).1) n h1) λx g2 al px an f=>Z3 ?_);replace f:vr i1 g1 g2:=f;let I:NZ g2 TO a b:=(f.2 _ D.TOi1).trans ((n.2 _ D.TOz).trans ae);show Z2 (Lw I rfl (Z2 (Px (s:={s with heap:=g2,toks:=al}) I λg3 p g=>?_)));replace p:NZ g3 TO x b:=p;replace g:vr TO g2 g3:=g;show Z2 (MY (Z3 (Z2 (Z2 (Qp ?_)))));change sh _ _ (Mx (.ref i2)>>= _) _ _ _;show Z2 (D2.item i _ _ _ l2 (u (λb d=>(m2 b d).2.1) g (u (λb d=>(m2 b d).2.2) f (u (λb d=>(m2 b d).1) n h2))) λy g4 B py as j=>Z3 ?_);replace j:vr i2 g3 g4:=j;let J:NZ g4 TO x b:=(j.2 _ D.TOi2).trans p;show Z2 (Lw J rfl (Z2 (Px (s:={s with heap:=g4,toks:=B}) J λq m l=>?_)));replace m:NZ q TO x y:=m;replace l:vr TO g4 q:=l;show Z2 (MY (Z3 (Z3 (Z2 (Lw m rfl (Z2 (Py ?_)))))));let U:q.objs.size=⇑s:=by rw[l.1,j.1,g.1,f.1,n.1]
 let Y:Q6 q z TI TO .ellipsis:=(l.2 _ D.TOz.symm).trans ((j.2 _ D.i2z.symm).trans ((g.2 _ D.TOz.symm).trans ((f.2 _ D.i1z.symm).trans M)));let a0:∀c o,c≠z->c≠TO->c≠i1->c≠i2->s.heap.get? c∣o->q.get? c∣o:=λc o c1 c2 c3 c4 e=>
  (l.2 c c2).trans ((j.2 c c4).trans ((g.2 c c2).trans ((f.2 c c3).trans ((n.2 c c1).trans e))))
 let L:z<q.objs.size:=Zu Y;show Z2 (Z2 (zz (s:={s with heap:=q.push {cls:= .type "tuple",data:= .seq #[x,y]},toks:=B}) (Z7 _ Y) ∅ λg7 N C=>?_));replace N:Q6 g7 z TI TO (Lj q.objs.size):=N;replace C:vr z (q.push _) g7:=C;show zz (s:={s with heap:=g7,toks:=B}) N ∅ λg8 G H=>?_
 replace G:Q6 g8 z TI TO (Lj q.objs.size):=G;replace H:vr z g7 g8:=H;let up:∀c o,c≠z->q.get? c∣o->g8.get? c∣o:=λc o c1 e=>(H.2 c c1).trans ((C.2 c c1).trans (Z7 _ e))
 let ab:=(H.2 _ (Yx L)).trans ((C.2 _ (Yx L)).trans (Zj _ rfl));rw[U]at G ab;show Z3 %[_,rfl|?_];rw[U];show hQ x y g8 B px py G (up _ _ D.TOz m) (D1.frame _ _ _ (r (λb d=>(O b d).2.1) l (r (λb d=>(O b d).2.2) j (r (λb d=>(O b d).2.1) g an))) λb d o e=>up b o (O b d).1 e) (D2.frame _ _ _ (u (λb d=>(m2 b d).2.1) l as) λb d o e=>up b o (m2 b d).1 e) ab λc o c1 c2 c3 c4 e=>up c o c1 (a0 c o c1 c2 c3 c4 e)
def Cs(O:Ui prog w A i1 fp1 n1 P1 St1)(D2:Ui prog w A i2 fp2 n2 P2 St2)(D:xA z TI TO i1 i2)(m1:∀b∈fp1,b≠z/\b≠TO/\b≠i2)(m2:∀b∈fp2,b≠z/\b≠TO/\b≠i1)
 (C:Q6 s.heap z TI TO .none) (T:NZ s.heap TI (.ref i1) (.ref i2)) (U:NZ s.heap TO a b) (h1:St1 i s.heap) (h2:St2 i s.heap) (l1:i<=n1) (l2:i<=n2) (ab:i=n1\/i=n2)
 (hE:∀h' e tk,(∀c o,c≠z->c≠TO->c≠i1->c≠i2->s.heap.get? c∣o->h'.get? c∣o)->(∃o,h'.get? e∣o/\o.cls= .type "StopIteration")->E (.ref e) {s with heap:=h',toks:=tk}):
 ↥A (o0.«zip.__next__» %[[.ref z]|[]]) Q E s:=by
 let Y:∀{k h h' c},(∀b∈fp1,b≠c)->vr c h h'->St1 k h->St1 k h':=λhc sb st=>O.frame _ _ _ st λb j o e=>(sb.2 b (hc b j)).trans e
 let v:∀{k h h' c},(∀b∈fp2,b≠c)->vr c h h'->St2 k h->St2 k h':=λhc sb st=>D2.frame _ _ _ st λb j o e=>(sb.2 b (hc b j)).trans e
 change sh _ _ (field (.ref z) 2>>= _) _ _ _;show Z2 (LW C rfl (x:= .bool jg) rfl ?_);change sh _ _ (field (.ref z) 3>>= _) _ _ _;show Z2 (LW C rfl (x:= .ref TI) rfl (Z2 (Lw T rfl ?_)));change sh _ _ (LN (.ref z)>>= _) _ _ _;show Z2 ?_;unfold LN;show Z2 (LW C rfl (x:= .none) rfl (Z3 ?_));simp only[Pj];show Z2 (MX (Z2 (LW C rfl (x:= .ref TO) rfl (Z2 (zz C ∅ λM n l=>?_)))));replace n:Q6 M z TI TO .ellipsis:=n;show Z2 ?_;simp only[Qq,Ug,Qz,UC];show Z2 (Z2 (Qp ?_));change sh _ _ (Mx (.ref i1)>>= _) _ _ _;let G:St1 i M:=Y (λb j=>(m1 b j).1) l h1;by_cases c1:i<n1
 .let e2:i=n2:=by lia
  show Z2 (O.item i _ _ _ c1 G λx r y px ae d=>Z3 ?_);replace d:vr i1 M r:=d;let u:NZ r TO a b:=(d.2 _ D.TOi1).trans ((l.2 _ D.TOz).trans U);show Z2 (Lw u rfl (Z2 (Px (s:={s with heap:=r,toks:=y}) u λH ac f=>?_)));replace f:vr TO r H:=f;show Z2 (MY (Z3 (Z2 (Z2 (Qp ?_)))));change sh _ _ (Mx (.ref i2)>>= _) _ _ _;show Z2 (D2.done _ _ _ (e2▸v (λb j=>(m2 b j).2.1) f (v (λb j=>(m2 b j).2.2) d (v (λb j=>(m2 b j).1) l h2))) λN e p he=>?_);replace p:ExtBut i2 H N:=p;let%[oe,g|m]:=he;let I:Q6 N z TI TO .ellipsis:=p _ _ D.i2z.symm ((f.2 _ D.TOz.symm).trans ((d.2 _ D.i1z.symm).trans n));let B:e≠z:=λx=>by subst x;rw[I]at g;cases g;simp at m
  show zz (s:={s with heap:=N,toks:=y}) I ∅ λg5 _ q=>?_
  replace q:vr z N g5:=q;show hE g5 e y (λc o J d2 d3 d4 x=>(q.2 c J).trans (p c o d4 ((f.2 c d2).trans ((d.2 c d3).trans ((l.2 c J).trans x))))) %[oe,(q.2 e B).trans g|m]
 .let e1:i=n1:=by lia
  show Z2 (O.done _ _ _ (e1▸G) λr e d he=>?_);replace d:ExtBut i1 M r:=d;let%[oe,g|m]:=he;let L:=d _ _ D.i1z.symm n;let B:e≠z:=λx=>by subst x;rw[L]at g;cases g;simp at m
  show zz (s:=(s>>>r)) L ∅ λH _ f=>?_
  replace f:vr z r H:=f;show hE H e s.toks (λc o J _ d3 _ x=>(f.2 c J).trans (d c o d3 ((l.2 c J).trans x))) %[oe,(f.2 e B).trans g|m]
end
abbrev Itz(x y:lx):It:=⟨λi _=>i<x.cps.size/\i<y.cps.size,λi H v a=>∃c d T,x.cps[i]?∣c/\y.cps[i]?∣d/\H T=hX/\v= .ref T/\a=Qb H T (.tup [.str ⟨#[c]⟩,.str ⟨#[d]⟩]),
 λi _=>i<=x.cps.size/\i<=y.cps.size/\(i=x.cps.size\/i=y.cps.size)⟩
abbrev ZSt(z TI TO c d:kG)(e f:kj->yu->Prop)(i:kj)(h:yu):Prop:=Q6 h z TI TO .none/\NZ h TI (.ref c) (.ref d)/\(∃a b,NZ h TO a b)/\e i h/\f i h
def jy(prog:nX)(w:v0)(x:lx)(t:Tok)(it:kG):∀A,A.handled=hX->
 Ui prog w A it [it] x.cps.size (λi v=>∃c u,x.cps[i]?∣c/\v= .str ⟨#[c]⟩ u) (λi h=>h.IsStrIter it (NB x) x t i):=by
 intro A a;unfold NB;cases b:x.cps.all _ with
 | true=>show Ui.strAscii a it x t
 | false=>show Ui.strWide a it x t
def Ct{P:nX}{K:ZA}(z TI TO i1 i2:kG)(x y:lx)(t u:Tok)(D:xA z TI TO i1 i2):
 qp P w K (.Tuple elts kt tp) (Itz x y) [z,TI,TO,i1,i2] z (ZSt z TI TO i1 i2 (λi h=>h.IsStrIter i1 (NB x) x t i) (λi h=>h.IsStrIter i2 (NB y) y u i)) where
 mem:=by simp
 obj:=λi h st b hb=>by
  let%[hz,hTI,%[a,c|hTO],%[o1,e1,_|d1],o2,e2,_|d2]:=st
  grind
 keep:=λi h h' st k=>by
  let%[hz,hTI,%[a,c|hTO],%[o1,e1|r1],o2,e2|r2]:=st;show%[k z ∅ _ hz,k TI ∅ _ hTI,%[a,c|k TO ∅ _ hTO],%[o1,k i1 ∅ _ e1|r1],o2,k i2 ∅ _ e2|r2]
 item:=by
  intro X hP hw hK hc i ij s σ H E I hf st hg;subst hP hw hK;let%[hz,hTI,%[a,c|hTO],h1|h2]:=st;obtain⟨g1,g2⟩:i<x.cps.size/\i<y.cps.size:=hg;let hT:s.TypeIs (.ref z) "zip":=%[_,hz|rfl]
  let hh:X.A.in1.handled=hX:=I.ok.hd hc;unfold OA;show Z2 (Mc (L1 (name:=!"__next__") hT Pe (Lm Pe hT UY
   (Cr (jy _ _ x t i1 _ hh) (jy _ _ y u i2 _ hh) D (λb hb=>(show b=i1 by simpa using hb)▸%[D.i1z,J0 D.TOi1|D.i12]) (λb hb=>(show b=i2 by simpa using hb)▸%[D.i2z,J0 D.TOi2|J0 D.i12]) hz hTI hTO h1 h2 g1 g2 λv1 v2 h' tk p1 p2 a1 a2 a3 a4 a5 hk=>Z3 ?_) (UE _))))
  let%[c1,u1,e1|rfl]:=p1;let%[c2,u2,e2|rfl]:=p2;show%[_,ρ|Sw (s:={s with heap:=h',toks:=tk}) a1 λh'' hz'' sb=>?_];replace sb:vr z h' h'':=sb;let kk:∀b o,b∉[z,TI,TO,i1,i2]->s.heap.get? b∣o->h''.get? b∣o:=λb o hb e=>by
   simp only[Yu,X3,LA,NM]at hb;show(sb.2 b hb.1).trans (hk b o hb.1 hb.2.2.1 hb.2.2.2.1 hb.2.2.2.2 e)
  let turn1:Qd X ij σ H {s with heap:=h'',toks:=tk}:=I.moved hf kk;let Hn:H ⇑s=hX:=I.fresh;let I2:Qd X ij σ (Qb H ⇑s (.tup [.str ⟨#[c1]⟩,.str ⟨#[c2]⟩])) {s with heap:=h'',toks:=tk}:=
   I.stood turn1 (Zi _) %[by change 2<=mv;decide,[.str _ u1,.str _ u2],.cons %[_|rfl] (.cons %[_|rfl] .nil),_,((sb.2 _ (Yx (Zu hz))).trans a5),rfl,_|rfl]
  show%[.ref ⇑s,_,I2,ρ,%[c1,c2,_,e1,e2,Hn,ρ|ρ],%[hz'',(sb.2 _ D.TIz).trans (hk _ _ D.TIz D.TITO D.TIi1 D.TIi2 hTI),%[_,_|(sb.2 _ D.TOz).trans a2],?_|?_]|λb hb=>?_]
  .let%[o,e|r]:=a3;show%[o,(sb.2 _ D.i1z).trans e|r]
  .let%[o,e|r]:=a4;show%[o,(sb.2 _ D.i2z).trans e|r]
  .let:b<⇑s:=by
    simp only[Yu,X3,LA]at hb;let%[o1,q1|_]:=h1;let%[o2,q2|_]:=h2;rcases hb with rfl|rfl|rfl|rfl|rfl
    .show Zu hz
    .show Zu hTI
    .show Zu hTO
    .show Zu q1
    .show Zu q2
   rw[ao (Zs this)];show(hf b hb).1
 done:=by
  intro X hP hw hK hc i ij s σ H E I hf st hg;let%[hz,hTI,%[a,c|hTO],h1|h2]:=st;obtain⟨g1,g2,g3⟩:i<=x.cps.size/\i<=y.cps.size/\(i=x.cps.size\/i=y.cps.size):=hg;let hT:s.TypeIs (.ref z) "zip":=%[_,hz|rfl]
  let hh:=I.ok.hd hc;show Z2 (Mc (L1 hT Pe (Lm Pe hT UY
   (Cs (jy _ _ x t i1 _ hh) (jy _ _ y u i2 _ hh) D (λb hb=>(show b=i1 by simpa using hb)▸%[D.i1z,J0 D.TOi1|D.i12]) (λb hb=>(show b=i2 by simpa using hb)▸%[D.i2z,J0 D.TOi2|J0 D.i12]) hz hTI hTO h1 h2 g1 g2 g3 λh' e tk hk he=>?_) (UE _))))
  let%[o,ho|hco]:=he;show Z2 (MA %[o,ho|hco] Sf (Z3 %[rfl|?_]));let kk:∀b o,b∉[z,TI,TO,i1,i2]->s.heap.get? b∣o->h'.get? b∣o:=λb o hb e=>by
   simp only[Yu,X3,LA,NM]at hb;show hk b o hb.1 hb.2.2.1 hb.2.2.2.1 hb.2.2.2.2 e
  show I.moved hf kk
 self:=λ_ _ _ _ _ st h=>O3 st.1 h
abbrev aQ:Ds->ri
 | .Starred _ _=>iv
 | _=>jg
def ay(h:aQ e=jg):vj (e::es) env=(jg,LB e env)::vj es env:=by
 cases e<;> first|rfl|cases(show iv=jg from h)
def d6(h:aQ e=jg):MO (e::es) env=(jg,assign e env)::MO es env:=by
 cases e<;> first|rfl|cases(show iv=jg from h)
def dJ:∀{es:hH Ds},es.any aQ=jg->(Mm pos (vj es env)).any (·.1)=jg
 |[],_=>rfl
 | e::es,h=>by
   rw[Zw,X4]at h;rw[ay h.1];let:=dJ (pos:=pos) (env:=env) h.2;cases es with
   | nil=>rfl
   | cons b a=>
     simp only[Mm]at this ⊢;simpa using this
def tP:∀{es:hH Ds},es.any aQ=jg->(Mm pos (vj es env)).all (λx=>!x.1)=iv
 |[],_=>rfl
 | e::es,h=>by
   rw[Zw,X4]at h;rw[ay h.1];let:=tP (pos:=pos) (env:=env) h.2;cases es with
   | nil=>rfl
   | cons b a=>
     simp only[Mm]at this ⊢;simpa using this
def fG:∀{es:hH Ds},es.any aQ=jg-> ~~~(MO es env)= ~~~es/\(MO es env).findIdx? (·.1)=hX
 |[],_=>%[rfl|rfl]
 | e::es,h=>by
   rw[Zw,X4]at h;rw[d6 h.1];let a:=fG (env:=env) h.2;show%[by rw[Zr,Zr,a.1]|?_];rw[hH.findIdx?_cons,a.2];rfl
abbrev gh:Ds->ri
 | .ListComp _ _ _ _=>iv
 | .SetComp _ _ _ _=>iv
 | .DictComp _ _ _ _ _=>iv
 | _=>jg
def i6(h:gh e=jg):NA e t l env=pure jg:=by
 cases e<;> first|rfl|cases(show iv=jg from h)
abbrev Cu:Ds->ri
 | .Tuple _ _ _=>iv
 | _=>jg
def xB(h:Cu e=jg):swappedStores [t] e env=pure hX:=by
 cases t with
 | Tuple _ _ _=>cases e<;> first|rfl|cases(show iv=jg from h)
 | List _ _=>cases e<;> first|rfl|cases(show iv=jg from h)
 | _=>rfl
abbrev ip:Ds->ri
 | .Call _ _ _ _=>iv
 | _=>jg
def gi(h:ip o=jg):Mf o a env w=w:=by
 cases o<;> first|rfl|cases(show iv=jg from h)
abbrev n9:Ds->ri
 | .Set _ _ _=>iv
 | _=>jg
def lU(h:n9 e=jg)(x:ku):NN e env x=pure x:=by
 cases e<;> first|rfl|cases(show iv=jg from h)
structure QE (X:Cx) (e:Ds) (t:TE):Prop where
 h:PE X e t
structure QT (X:Cx) (e:Ds) (t:TT):Prop where
 h:PT X e t
structure QW (X:Cx) (e:Ds) (t:TT):Prop where
 h:PW X e t
structure QA (X:Cx) (es:hH Ds) (t:TA):Prop where
 h:PA X es t
structure QS (X:Cx) (st:I0) (t:TS):Prop where
 h:PS X st t
structure QSs (X:Cx) (st:hH I0) (t:TS):Prop where
 h:PSs X st t
structure QG (X:Cx) (e:Ds) (t:TG):Prop where
 h:PG X e t
structure QGs (X:Cx) (es:hH Ds) (t:TGs):Prop where
 h:PGs X es t
structure QI (X:Cx) (tg iter:Ds) (wi:TI):Prop where
 h:PI X tg iter wi
structure QO (X:Cx) (e:lX Ds) (t:TO):Prop where
 h:PO X e t
structure QTs (X:Cx) (ifs:hH Ds) (t:TT):Prop where
 h:PTs X ifs t
structure OpQ (X:Cx) (f:ku->ku->Sem ku) (r:R2):Prop where
 h:OpR X f r
structure cj (X:Cx) (f:ku) (r:hH V->Hp->VK->Prop):Prop where
 h:ci X f r
structure MtQ (X:Cx) (id:LF) (r:V->hH V->Hp->VK->Prop):Prop where
 h:MtR X id r
section
variable{X:Cx}{K:ZA}{pos:Pos}
def av{i j}:QE X (.Constant (.int i) j pos) (tC (.int i)):=⟨G5⟩
def eBl{b j}:QE X (.Constant (.bool b) j pos) (tC (.bl b)):=⟨JP⟩
def qt{j}:QE X (.Constant .none j pos) (tC .non):=⟨G6⟩
def cK{x j}:QE X (.Constant (.str x) j pos) (tC (.str x)):=⟨G7⟩
def vn(i:kj)(b:X.N[i]?∣x)(c:Vis X.env.scope x)(d:(x==("__debug__":lx))=jg)(a:(x==("__classdict__":lx))=jg):QE X (.Name x pos) (lQ i):=⟨BD b c d a⟩
def gvE(g:Gv X.mg x v)(a:Gl X x)(b:(x==("__debug__":lx))=jg):QE X (.Name x pos) (tC v):=⟨GE g a b⟩
def blE(a:Gl X x)(b:X.mg x=hX)(c:Mb x∣u)(r:aT v u)(f:(x==("__name__":lx))=jg)(d:(x==("__debug__":lx))=jg):QE X (.Name x pos) (tC v):=
 ⟨EG a b c r (λe=>by lia) d⟩
def ak:QA X [] xt:=⟨B0⟩
def paE(a:aQ e=jg)(b:QE X e c)(d:QA X es t):QA X (e::es) (yL c t):=⟨yM b.h d.h (ay a)⟩
def calE(C:Cal X.prog X.w X.K X.mg X.base j x ps sp)(d:bE k X.A)(f:Gl X x)(a:OW j k=iv)
 (b:(x==("__debug__":lx))=jg) (c:(e::es).any aQ=jg) (g:QA X (e::es) t):
 QE X (.Call (.Name x p) (e::es) [] pos) (qT sp [] E0 t):=by
 rw[Zw,X4]at c;show⟨Ik C d f Cj g.h (Yd a) b (ay c.1) (dJ c.2)⟩
def cbE{id:LF}(c:cj X (.builtin id) r)(d:Gl X x)(f:X.mg x=hX)(g:Mb x∣.builtin id)(i:(x==("__name__":lx))=jg)(a:(x==("__debug__":lx))=jg)
 (b:(e::es).any aQ=jg) (h:QA X (e::es) t):QE X (.Call (.Name x p) (e::es) [] pos) (tCB r t):=by
 rw[Zw,X4]at b;show⟨B4 c.h d f g h.h (λe=>by lia) a (ay b.1) (dJ b.2)⟩
def ctE(c:cj X (.type T) r)(d:Gl X x)(f:X.mg x=hX)(g:Mb x∣.type T)(i:(x==("__name__":lx))=jg)(a:(x==("__debug__":lx))=jg)
 (b:(e::es).any aQ=jg) (h:QA X (e::es) t):QE X (.Call (.Name x p) (e::es) [] pos) (tCB r t):=by
 rw[Zw,X4]at b;show⟨Ah c.h d f g h.h (λe=>by lia) a (ay b.1) (dJ b.2)⟩
def bmE{T id:LF}(h:X.K=K)(l:NY T)(slot:Slot T name id)(g:Oa (.builtin id)=pure (.type "method_descriptor"))(m:MtQ X id r)
 (b:ip o=jg) (a:(e::es).any aQ=jg) (i:VI (e::es).length 30=iv) (c:(d.endLine==f.line)=iv) (n:QE X o p) (q:QA X (e::es) t):
 QE X (.Call (.Attribute o name d) (e::es) [] f) (tBM K T r p t):=by
 let j:=a;rw[Zw,X4]at j;show⟨Cq h l slot g m.h n.h q.h (gi b) ?_ c (ay j.1) (dJ j.2)⟩;rw[tP a];let:decide (~~~(e::es)+ ~~~([]:hH N6)+(if([]:hH N6).isEmpty then 0 else 1)<30)=iv:=Zf ((kj.blt_eq.mp i));rw[this];rfl
def FG{T id:LF}(h:X.K=K)(f:NY T)(slot:Slot T name id)(e:Oa (.builtin id)=pure (.type "method_descriptor"))(g:MtQ X id r)
 (a:ip o=jg) (b:(c.endLine==d.line)=iv) (i:QE X o j):QE X (.Call (.Attribute o name c) [] [] d) (Fe K T r j):=⟨FF h f slot e g.h i.h (gi a) b⟩
def i7(b:Gl X "range")(c:X.mg "range"=hX)(d:aQ a=jg)(e:QA X [a] f):QI X g (.Call (.Name "range" p) [a] [] pos) (BN f):=⟨z8 b c e.h (ay d)⟩
def Cv(d:Gl X "range")(e:X.mg "range"=hX)(f:aQ a=jg)(c:aQ b=jg)(g:QA X [a,b] h):QI X i (.Call (.Name "range" p) [a,b] [] pos) (BO h):=
 ⟨z9 d e g.h ((ay f).trans (by rw[ay c];rfl)) (ay c)⟩
def anyI(h:X.K=K)(a:QE X l b):QI X c l (FD K b):=⟨FE h a.h⟩
section
variable{a b c:Ds}{ta tb tc:TE}{op op':Uj}{r r':R2}
def xC(e:OpQ X (qq op) r)(d:OpQ X (qq op') r')(f:lastMarks [op,op'] [b,c]=jg)(g:QE X a ta)(h:QE X b tb)(i:QE X c tc):QE X (.Compare a [op,op'] [b,c] pos) (xf r r' ta tb tc):=⟨BU e.h d.h g.h h.h i.h f⟩
def iX(d:OpQ X (qq op) r)(e:LV op b=jg)(f:QE X a ta)(g:QE X b tb):QE X (.Compare a [op] [b] pos) (tOp r ta tb):=⟨ET d.h f.h g.h e⟩
def bv(d:OpQ X (qq op) r)(e:LV op b=jg)(f:QE X a ta)(g:QE X b tb):QT X (.Compare a [op] [b] pos) (BT (tOp r ta tb)):=⟨EU d.h f.h g.h e⟩
def opE{op:Operator}(d:OpQ X (Ly op) r)(e:QE X a ta)(f:QE X b tb):QE X (.BinOp a op b pos) (tOp r ta tb):=⟨JU d.h e.h f.h⟩
def Io(d:QE X a ta):QE X (.UnaryOp .USub a pos) (tUn (rU λi=> .int (-i)) ta):=⟨JV HA d.h⟩
def noO:QO X hX tE:=⟨E9⟩
def Cw(h:QE X a ta):QO X (hY a) (B5 ta):=⟨Fa h.h⟩
def tQ{op}(h:QE X a ta):QE X (.BoolOp op [a] pos) ta:=⟨Hj h.h⟩
def qu{rest:hH Ds}(d:QE X a ta)(e:QE X (.BoolOp .And (b::rest) pos) tb):QE X (.BoolOp .And (a::b::rest) pos) (BF ta tb):=⟨Hk d.h e.h⟩
def orV{rest:hH Ds}(d:QE X a ta)(e:QE X (.BoolOp .Or (b::rest) pos) tb):QE X (.BoolOp .Or (a::b::rest) pos) (Hh ta tb):=⟨JS d.h e.h⟩
def bI(h:QA X es t):QE X (.List es pos) (HJ t):=⟨HL h.h⟩
def eJ{d}(h:QA X es t):QE X (.Tuple es d pos) (HI t):=⟨HK h.h⟩
def gj:QE X (.Dict [] [] pos) xx:=⟨Cg⟩
variable{tA tB':TT}{rest:hH Ds}
def fZ(d:QT X a tA):QT X (.UnaryOp .Not a pos) (G8 tA):=⟨Hg d.h⟩
def oa(d:QT X a tA):QW X (.BoolOp .And [a] pos) tA:=⟨EI d.h⟩
def kH(d:QT X a tA):QW X (.BoolOp .Or [a] pos) tA:=⟨G9 d.h⟩
def xD(d:QT X a tA)(e:QW X (.BoolOp .And (b::rest) pos) tB'):QW X (.BoolOp .And (a::b::rest) pos) (EH tA tB'):=⟨Hf d.h e.h⟩
def orW(d:QT X a tA)(e:QW X (.BoolOp .Or (b::rest) pos) tB'):QW X (.BoolOp .Or (a::b::rest) pos) (tOr tA tB'):=⟨JR d.h e.h⟩
def wT(h:QW X a tA):QT X a tA:=⟨PW.pt h.h⟩
def dB(h:X.K=K)(f:∀d,Tg a X.env d=(do let v<-d;Of a.pos;Pk [v] (truthy v)))(g:QE X a ta):QT X a (λi H Q=>ta i H λx e=>∃k,BV K x e k/\Q k e):=⟨Av h g.h f⟩
def og:QTs X [] Fu:=⟨Fv⟩
def i8(h:QT X c tA):QTs X [c] tA:=⟨Fw h.h⟩
end
def dW(S:aD X c e f)(l:X.calm=iv)(m:n9 iter=jg)(hi:QI X j iter n)
 (o:∀a b d,QG (bZ X c e a b d) j g) (p:∀a b d,QTs (bZ X c e a b d) h q) (r:∀a b d,QE (bZ X c e a b d) i s):
 QE X (.ListComp i [%[j,iter,h|0]] c pos) (rA n e.length f g q s):=⟨Fy S l hi.h (λa b d=>(o a b d).h) (λa b d=>(p a b d).h) (λa b d=>(r a b d).h) (lU m)⟩
def aP:QSs X [] BG:=⟨EJ⟩
def ai{st:I0}{rest:hH I0}(a:QS X st t)(b:QSs X rest u):QSs X (st::rest) (aU t u):=⟨BH a.h b.h⟩
def ap{st:I0}(a:QS X st t):QSs X [st] t:=⟨EK a.h⟩
def ifS(d:QT X c e)(f:QSs X a t)(g:QSs X b u):QS X (.If c a b pos) (jZ e t u):=⟨JT d.h f.h g.h⟩
def aL(a:QE X e b):QS X (.Return (hY e) pos) (jH b):=⟨Hl a.h⟩
def iq{st:I0}:QS X st sZ:=⟨BI⟩
def bJ(c:Oq (Lx X.prog X.w) X.A X.env X.xe)(d:X.calm=iv)(e:n9 iter=jg)(hi:QI X b iter f)(h:QG X b g)(i:QSs X a j):
 QS X (.For b iter a [] pos) (tf f g j):=⟨Hu c d hi.h h.h i.h (lU e)⟩
def tR(i:kj)(b:X.N.Nodup)(hi:X.N[i]?∣x)(c:Loc X.env.scope x)(d:X.fn x=iv\/X.env.scope.names.lookup x∣.local)(f:gh e=jg)(g:QE X e h):
 QS X (.Assign [.Name x a] e pos) (qo h (kA i)):=⟨Ht b hi c g.h (i6 f) d⟩
def bC(a:gh e=jg)(b:QE X e c):QS X (.Expr e pos) (mE c):=⟨EM b.h (i6 a)⟩
def Ip(c:gh e=jg)(hw:Cu e=jg)(a:aQ b=jg)(d:QE X e f)(h:QG X b g):QS X (.Assign [b] e pos) (qo f g):=
 ⟨Hs d.h h.h (i6 c) (xB hw) (by rw[d6 a];rfl)⟩
def vf(i:kj)(a:X.N.Nodup)(hi:X.N[i]?∣x)(b:Loc X.env.scope x)(c:X.fn x=iv\/X.env.scope.names.lookup x∣.local):QG X (.Name x pos) (kA i):=⟨EN a hi b c⟩
def cz:QGs X [] Hq:=⟨EO⟩
def gsE(a:aQ e=jg)(b:QG X e t)(c:QGs X es u):QGs X (e::es) (BJ t u):=⟨BK b.h c.h (by rw[d6 a];rfl)⟩
def eO(b:X.K=K)(c:X.calm=iv)(a:es.any aQ=jg)(h:QGs X es t):QG X (.Tuple es k pos) (EQ K es.length t):=by
 subst b;show⟨Hr c h.h (fG a).1 (fG a).2⟩
def Iq:OpQ X (Ly .Add) Cn:=⟨FA⟩
def vg:OpQ X (Ly .Sub) (rI0 λi j=> .int (i-j)):=⟨Hy⟩
def Ir:OpQ X (Ly .Mult) Co:=⟨FB⟩
def bW:OpQ X (Ly .Mod) (rI (λ_ j=>0<j) λi j=> .int (i%j)):=⟨Hz⟩
def j6:OpQ X (Ly .FloorDiv) (rI JX λi j=> .int (i/j)):=⟨ER⟩
def c7:OpQ X (qq .Eq) Ib:=⟨Ic⟩
def jO:OpQ X (qq .NotEq) Ie:=⟨Ig⟩
def FH:OpQ X (qq .Lt) (rI0 λi j=> .bl (decide (i<j))):=⟨JY⟩
def Aw:OpQ X (qq .LtE) (rI0 λi j=> .bl (decide (i<=j))):=⟨JZ⟩
def Ax:OpQ X (qq .Gt) (rI0 λi j=> .bl (decide (j<i))):=⟨J7⟩
def Kb:OpQ X (qq .Is) (λx y H Q=>y= .non/\Q (.bl (decide (x= .non))) H):=⟨HC⟩
def tT:OpQ X (qq .IsNot) (λx y H Q=>y= .non/\Q (.bl (!decide (x= .non))) H):=⟨ES⟩
def q_in(h:X.K=K):OpQ X (qq .In) (FC K):=⟨Im h⟩
nonrec abbrev yT:R2:=λx y H Q=>asS x λi=>asS y λj=>Q (.bl (!(!(KE j i 0 j.length 1).isEmpty))) H
nonrec abbrev yU(K:ZA):R2:=λx y H Q=>yT x y H Q\/rIn K iv x y H Q
def yV(h:X.K=K):OpQ X (qq .NotIn) (yU K):=by subst h;show⟨tJ.or tH⟩
def dm(h:X.K=K):cj X (.builtin "len") (λxs H Q=>cJ xs λx=>∃n,EV K x H n/\Q (.int n) H):=⟨As h⟩
def Cy(h:X.K=K)(a:X.calm=iv):cj X (.builtin "all") (λxs H Q=>cJ xs λb=>asR b λp=>∃(bs:hH ri),Qc K H p (bs.map V.bl)/\Q (.bl (bs.all id)) H):=⟨At h a⟩
def Kc(a:X.calm=iv):cj X (.builtin "max") (λxs H Q=>lP xs λb x2=>asI b λi=>asI x2 λj=>Q (.int (if j>i then j else i)) H):=⟨Ab a⟩
def GF(a:X.calm=iv):cj X (.builtin "min") (λxs H Q=>lP xs λb x2=>asI b λi=>asI x2 λj=>Q (.int (if j<i then j else i)) H):=⟨Ac a⟩
def gx(h:X.K=K):cj X (.builtin "isinstance") (λxs H Q=>∃x n t b,xs=[x,.ty n]/\j3 K H x t/\OE K t (.type n)∣b/\Q (.bl b) H):=⟨Au h⟩
def Cz:cj X (.type "int") (λxs H Q=>(∃i,xs=[.int i]/\Q (.int i) H)\/∃k,xs=[.bl k]/\Q (.int (if k then 1 else 0)) H):=⟨Ae⟩
def ir(h:X.K=K):cj X (.type "list") (λxs H Q=>cJ xs λa=>asR a λp=>∃ys,(Qc K H p ys\/SqT K H p ys)/\∀l,H l=hX->Q (.ref l) (Qb H l (.lst ys))):=⟨xz h⟩
def a7:MtQ X "list.append" tL:=⟨rg⟩
def oh:MtQ X "list.extend" tM:=⟨Ai⟩
def FI:MtQ X "list.clear" xw:=⟨Cb⟩
def tU(h:X.K=K):MtQ X "str.join" (yS K):=⟨Cp h⟩
end
open PySem PySem.Spec PyProof.Rows PySem.SeqAt
abbrev xE:V->hH V->Hp->VK->Prop:=λx vs H Q=>asS x λz=>cJ vs λa=>asS a λy=>1<= ~~~y/\ ~~~z+2<=mv/\∀l,H l=hX->Q (.ref l) (Qb H l (.lst ((Txt.split z y)\3)))
def rE:∀ss k,aI (ss\3) (strsFrom k ss)
 |[],_=> .nil
 | _::r,k=> .cons %[_|rfl] (rE r _)
def CA{X:Cx}:MtM X "str.split" xE:=by
 intro ij s n H x vs v us Q I i j h;let%[z,rfl|d]:=fj h;let%[o,rfl|f]:=bF d;let%[y,rfl|g]:=fj f;let%[p,r|q]:=g;let%[t|rfl]:=i;let%[w,rfl|l]:=j.one;let%[u|rfl]:=l;let b:(~~~y==0)=jg:=by simp;lia
 let m:=split_le z y;by_cases c1:(decide (~~~z< ~~~y)||decide (Rk z<Rk y))=iv
 .let e:Txt.split z y=[z]:=md c1;rw[e]at q;show Nu Q7 (Np _ _ _) QF (Qm _ _) (meets_str_split_cannot_occur z y t u c1) %[.ref _,_,I.lnew (ys:=[.str z]) (.cons %[_|rfl] .nil) (by change 1<=mv;decide),rfl|q _ I.fresh]
 .let c:=Qi.mpr c1;by_cases c2:(KE z y 0 z.length (~~~z+1)).isEmpty=iv
  .let e:Txt.split z y=[z]:=(kw c1).trans (md c2);rw[e]at q;show Nu Q7 (Np _ _ _) QF (Qm _ _) (meets_str_split_not_found z y t u c b c2) %[.ref _,_,I.lnew (ys:=[.str z]) (.cons %[_|rfl] .nil) (by change 1<=mv;decide),rfl|q _ I.fresh]
  .let e:Txt.split z y=Qn z _ y.length:=(kw c1).trans (kw c2);let a: ~~~(Qn z (KE z y 0 z.length (z.length+1)) y.length)<=mv:=by rw[<-e];lia
   show Nu Q7 (Np _ _ _) QF (Qm _ _) (meets_str_split_sep z y t u c b (Qi.mpr c2) ⋯ a) ?_;rw[<-e]at a ⊢;show%[.ref _,_,I.lnew (rE _ _) (by rw[Z6];show a),ρ|q _ I.fresh]
def yW{X:Cx}:MtQ X "str.split" xE:=⟨CA⟩
abbrev Ite(K:ZA)(a:kG)(xs:hH V):It:=⟨λi H=>Qc K H a xs/\i< ~~~xs,λi H v b=>∃x T,xs[i]?∣x/\H T=hX/\v= .ref T/\b=Qb H T (.tup [.int i,x]),λi H=>Qc K H a xs/\ ~~~xs<=i⟩
abbrev ESt(e it a:kG)(i:kj)(h:yu):Prop:=(∃b,IsEnum h e it i b)/\h.IsListIter it a i
def Ay{P:nX}{K:ZA}(e it a:kG)(xs:hH V)(hne:e≠it):qp P w K (.Tuple elts kt tp) (Ite K a xs) [e,it] e (ESt e it a) where
 mem:=by simp
 obj:=λi h st b hb=>by
  let%[%[old|he],o1,e1,_|d1]:=st;simp only[Yu,X3,LA]at hb;rcases hb with rfl|rfl
  .show%[_,he|λv q=>nomatch q]
  .show%[o1,e1|λv q=>by rw[d1]at q;cases q]
 keep:=λi h h' st k=>by
  let%[%[old|he],o1,e1|r1]:=st;show%[%[old|k e ∅ _ he],o1,k it ∅ _ e1|r1]
 item:=by
  intro X hP hw hK hc i ij s σ H E I hf st hg;subst hP hw hK;let%[%[old|he]|hit]:=st;obtain⟨hq,hi⟩:Qc X.K H a xs/\i< ~~~xs:=hg;let%[its,rv,p|hz]:=I.list hq;let%[u,hu|ru]:=rv.get (i:=i) (x:=xs[i]) ∅;show wpAny_pyNext_enum_item he hit p.isList ↑hu hne λh1 he1 hit1 ht1 hz1 hk1=>%[_,rfl|wpAny_letOwnedTupleGo_enum he1 λh2 he2 sb2=>?_]
  replace sb2:vr e h1 h2:=sb2;let elt:=Zu he;let kk:∀b o,b∉[e,it]->s.heap.get? b∣o->h2.get? b∣o:=λb o hb q=>by
   simp only[Yu,X3,LA,NM]at hb;show(sb2.2 b hb.1).trans (hk1 b o hb.1 hb.2 q)
  let J:Qd X ij σ H {s with heap:=h2,toks:=s.toks+1}:=I.moved hf kk;let I2:Qd X ij σ (Qb H ⇑s (.tup [.int i,xs[i]])) _:=
   I.stood J (Zi _) %[by change 2<=mv;decide,[.int i s.toks,u],.cons %[_|rfl] (.cons ru .nil),_,((sb2.2 _ (Yx elt)).trans ht1),rfl,_|rfl]
  show%[.ref ⇑s,_,I2,ρ,%[xs[i],_,by simp,I.fresh,ρ|ρ],%[%[u|he2]|?_]|λb hb=>?_]
  .let%[o,q|r]:=hit1;show%[o,(sb2.2 _ (J0 hne)).trans q|r]
  .let:b<⇑s:=by
    simp only[Yu,X3,LA]at hb;rcases hb with rfl|rfl
    .show elt
    .show(by let%[o,q|_]:=hit;show Zu q)
   rw[ao (Zs this)];show(hf b hb).1
 done:=by
  intro X hP hw hK hc i ij s σ H E I hf st hg;subst hP hw hK;let%[%[old|he]|hit]:=st;obtain⟨hq,hi⟩:Qc X.K H a xs/\ ~~~xs<=i:=hg;let%[its,rv,p|hz]:=I.list hq;let hl:= ~~~rv;show wpAny_pyNext_enum_end (I.ok.hd hc) he hit p.isList (by simp;lia) λh1 xb=>%[rfl|I.moved hf λb o hb q=>?_]
  simp only[Yu,X3,LA,NM]at hb;show xb b o hb.2 q
 self:=λA i s Q E st h=>by
  let%[%[old|he]|hit]:=st;show U5 he h
abbrev GG(K:ZA)(c:TA):TI:=λd H R=>c d H λvs b=>cJ vs λe=>asR e λa=>∃xs,Qc K b a xs/\R (Ite K a xs) b
section
variable{X:Cx}{K:ZA}{pos:Pos}
def vh(n:X.K=K)(o:Gl X "enumerate")(r:X.mg "enumerate"=hX)(v:aQ a=jg)(w:QA X [a] y):
 QI X (.Tuple i M N) (.Call (.Name "enumerate" p) [a] [] pos) (GG K y):=by
 subst n
 constructor
 intro ij s z H R I h;show Call_ (ii I o r boot_enumerate (Lp (thP (w.h pos ij s z H _ I h) λus d vs A c B C=>?_) (ay v) rfl));let%[O,rfl|e]:=bF C;let%[l,rfl|f]:=aM e;let%[xs,E|q]:=f;let%[u,rfl|G]:=cO B;cases G;let%[its,Q,p|T]:=c.list E;show call_enumerate_list p.isList λU j g J L=>U5 j %[⇑d+1,[⇑d+1,⇑d],ESt _ ⇑d l,Ite X.K l xs,A,rfl,(c.kept L),Ay _ _ _ _ (kj.succ_ne_self _),%[%[_|j]|g],λb m=>?_|q]
 simp only[Yu,X3,LA]at m;rcases m with rfl|rfl
 .show c.fpOk (Yf _) (c.hok.fresh (Yf _))
 .show c.fpOk (Zi _) (c.hok.fresh (Zi _))
end
section
variable(h:yu)(x y:lx)(t u:Tok)
noncomputable abbrev zs1:yu:=h.push {cls:= .type (NB x),data:= .fields #[.str x t,.int 0 0]}
noncomputable abbrev zs2:yu:=(zs1 h x t).push {cls:= .type (NB y),data:= .fields #[.str y u,.int 0 0]}
noncomputable abbrev zs3:yu:=(zs2 h x y t u).push {cls:= .type "tuple",data:= .seq #[.ref h.objs.size,.ref (zs1 h x t).objs.size]}
noncomputable abbrev zs4:yu:=(zs3 h x y t u).push {cls:= .type "tuple",data:= .seq #[.none,.none]}
noncomputable abbrev zs5:yu:=(zs4 h x y t u).push {cls:= .type "zip",data:= .fields #[.none,.bool jg,.bool jg,.ref (zs2 h x y t u).objs.size,.ref (zs3 h x y t u).objs.size]}
end
def ng(x y:lx)(t u:Tok):
 Meets (o0.«zip.__new__» %[[.type "zip",.str x t,.str y u]|[]]) (λ_ R s=>R (.ok (.ret (.ref (zs4 s.heap x y t u).objs.size))) (s>>>zs5 s.heap x y t u)):=
 .of_wp λprog w A R s b=>by
  let%[c,g,d,tk|os]:=s;let a:=PySem.sub_zip
  wp_walk using U4 (x:=x) (t:=t),U4 (x:=y) (t:=u)
  show%[_,ρ|b]
section
#where
def oi
 (h:∀h',Q6 h' (⇑s+4) (⇑s+2) (⇑s+3) .none->NZ h' (⇑s+2) (.ref ⇑s) (.ref (⇑s+1))->NZ h' (⇑s+3) .none .none->
  h'.IsStrIter ⇑s (NB x) x t 0->h'.IsStrIter (⇑s+1) (NB y) y u 0->(∀c o,s.heap.get? c∣o->h'.get? c∣o)->Q (.ref (⇑s+4)) (s>>>h')):
 ↥A (call (.type "zip") [.str x t,.str y u]) Q E s:=by
 show callType_new F.called_zip (!1) (F.typeCall_zip_2 _ _) (F.newCall_zip_2 _ _) (λobj=>F.args_object_init_3 obj _ _) F.entry_zip_new (ng x y t u) ?_;let n1:(zs1 s.heap x t).objs.size=⇑s+1:=Zq ..;let a:(zs2 s.heap x y t u).objs.size=⇑s+2:=by rw[Zq,n1]
 let b:(zs3 s.heap x y t u).objs.size=⇑s+3:=by rw[Zq,a]
 let e:(zs4 s.heap x y t u).objs.size=⇑s+4:=by rw[Zq,b]
 let f:∀c o,(zs4 s.heap x y t u).get? c∣o->(zs5 s.heap x y t u).get? c∣o:=λ_ _ q=>Z7 _ q
 let g:∀c o,(zs3 s.heap x y t u).get? c∣o->(zs5 s.heap x y t u).get? c∣o:=λc o q=>f c o (Z7 _ q)
 let i:∀c o,(zs2 s.heap x y t u).get? c∣o->(zs5 s.heap x y t u).get? c∣o:=λc o q=>g c o (Z7 _ q)
 let k2:∀c o,(zs1 s.heap x t).get? c∣o->(zs5 s.heap x y t u).get? c∣o:=λc o q=>i c o (Z7 _ q)
 let k1:∀c o,s.heap.get? c∣o->(zs5 s.heap x y t u).get? c∣o:=λc o q=>k2 c o (Z7 _ q)
 let d:(zs5 s.heap x y t u).get? (zs4 s.heap x y t u).objs.size∣_:=Zj _ rfl;let j:(zs5 s.heap x y t u).get? (zs3 s.heap x y t u).objs.size∣_:=f _ _ (Zj _ rfl);let l:(zs5 s.heap x y t u).get? (zs2 s.heap x y t u).objs.size∣_:=g _ _ (Zj _ rfl);let m:=i _ _ (Zj _ rfl);change _/\_;rw[a,b,e]at d;rw[n1,a]at l;rw[b]at j;rw[n1]at m;rw[e];show%[%[_,d|ρ]|h _ d l j %[_,(k2 _ _ (Zj _ rfl)),ρ|ρ] %[_,m,ρ|ρ] k1]
end
abbrev GH(a:TA):TI:=λb H R=>a b H λvs c=>∃x y,vs=[.str x,.str y]/\R (Itz x y) c
section
variable{X:Cx}{K:ZA}{pos:Pos}
def GI(v:Gl X "zip")(w:X.mg "zip"=hX)(z:aQ a=jg)(f:aQ b=jg)(A:QA X [a,b] B):
 QI X (.Tuple n M N) (.Call (.Name "zip" p) [a,b] [] pos) (GH B):=by
 constructor
 intro ij s C H R I h;show Call_ (ii I v w boot_zip (Lp (thP (A.h pos ij s C H _ I h) λus c vs E g G J=>?_) (ay z) (by rw[ay f];rfl)));let%[x,y,e|q]:=J;subst e;let%[O,Q,rfl,%[t|rfl],u|rfl]:=iY G;show oi λT o l m hi1 hi2 L=>O3 o ?_
 let ne:∀i j,i≠j->⇑c+i≠⇑c+j:=λi j h e=>h (Pr e)
 show%[⇑c+4,[⇑c+4,⇑c+2,⇑c+3,⇑c+0,⇑c+1],_,Itz x y,E,ρ,(g.kept L),
  Ct _ _ _ _ _ x y t u %[ne 2 4 (!1),ne 3 4 (!1),ne 0 4 (!1),ne 1 4 (!1),ne 2 3 (!1),ne 2 0 (!1),ne 2 1 (!1),ne 3 0 (!1),ne 3 1 (!1)|ne 0 1 (!1)],
  %[o,l,%[_,_|m],hi1|hi2],λb r=>?_|q]
 let d:⇑c<=b:=by
  simp only[Yu,X3,LA]at r;rcases r with rfl|rfl|rfl|rfl|rfl<;> show Og _ _
 show g.fpOk d (g.hok.fresh d)
end
inductive D where
 | non|bl (b:ri)|int (i:pp)|str (x:lx)|lst (ds:hH D)|tup (ds:hH D)
section
variable{K:ZA}{H H':Hp}
def ah.seqT(e:ah H H')(h:SqT K H a xs):SqT K H' a xs:=by
 rcases h with(h|⟨o,h⟩)|h
 .show .inl (.inl (e _ _ h))
 .show .inl (.inr %[o|e _ _ h])
 .show .inr h
end
def xF{X:Cx}(J:X.N.Nodup)(u:X.N[i]?∣x)(L:Loc X.env.scope x)(M:X.fn x=iv\/X.env.scope.names.lookup x∣.local)
 (w:NA (.ListComp l [%[y,iter,p|0]] a pos) (hY (.Name x B)) f.line X.env=pure iv) (S:aD X a r A) (N:X.calm=iv) (O:∀x,NN iter X.env x=pure x) (hi:PI X y iter Q)
 (T:∀c d j,PG (bZ X a r c d j) y g) (U:∀c d j,PTs (bZ X a r c d j) p Y) (he:∀c d j,PE (bZ X a r c d j) l te):
 PS X (.Assign [.Name x B] (.ListComp l [%[y,iter,p|0]] a pos) f) (qo (rA Q r.length A g Y te) (kA i)):=by
 intro ij s σ H D I h;show Z2 (N0 ?_);change sh _ _ (NA (.ListComp l _ a pos) (hY (.Name x B)) f.line X.env>>= _) _ _ _;rw[w];show Z2 (Z3 (Z2 (Z2 (rB S N hi T U he O I h λD' C H5 s6 fl m hn j k q=>?_))));let%[o,es,ep,E,hd|hr]:=id hn;let I7:=(k s6.heap (vr.refl _ _)).pinned (λb n=>(Xl n)▸j) λb n=>by
  rw[Xl n];show%[o,E|λv z=>by lia]
 show U7 (kz I7 J u L (v:= .ref D') rfl (λs8 G=>%[m,%[o,es,ep,((G.pin _ (Yt _ (Yt _ (fk (Yw.mpr rfl) E)))).1),hd|hr]|λh' sb=>Z3 (Z3 %[_,H5,(G.unpinned).moved (λb n=>(Xl n)▸j) λb o' n e=>(sb.2 b (λz=>n (Yw.mpr z))).trans e|q])]) M)
def Az(h:(env.blockKind== .function&&env.kindOf x==hY .local&&b.line==pos.line&&!(a.names.any λ(n,k)=>n==x&&(k== .local||k== .cell)))=iv):
 NA (.ListComp c gens a pos) (hY (.Name x b)) l env=pure iv:=by
 change(pure (env.blockKind== .function&&env.kindOf x==hY _&&b.line==pos.line&&!(a.names.any _)))=pure iv;rw[h]
def kI{X:Cx}(i:kj)(q:X.N.Nodup)(f:X.N[i]?∣x)(r:Loc X.env.scope x)(s:X.fn x=iv\/X.env.scope.names.lookup x∣.local)
 (h:(X.env.blockKind== .function&&X.env.kindOf x==hY .local&&u.line==pos.line&&!(c.names.any λ(n,k)=>n==x&&(k== .local||k== .cell)))=iv) (S:aD X c e j) (v:X.calm=iv) (w:n9 iter=jg) (hi:QI X o iter y)
 (z:∀a b d,QG (bZ X c e a b d) o g) (A:∀a b d,QTs (bZ X c e a b d) l B) (C:∀a b d,QE (bZ X c e a b d) m E):
 QS X (.Assign [.Name x u] (.ListComp m [%[o,iter,l|0]] c pos) p) (qo (rA y e.length j g B E) (kA i)):=
 ⟨xF q f r s (Az h) S v (lU w) hi.h (λa b d=>(z a b d).h) (λa b d=>(A a b d).h) (λa b d=>(C a b d).h)⟩
section
#version
end
def b8:Slot "set_iterator" "__next__" "set_iterator.__next__":=
 .of (owner:="set_iterator") (n:="__next__") (by rw[VR,TD];kernel_rfl) (!0) (!0) (!0) (by first|show .inl (!0)|show .inr ∅) (by kernel_rfl)
def gO:T8 table "set_iterator.__next__"=hY o0.«set_iterator.__next__»:=entryFor_of_tree (by kernel_rfl)
def iN(a:ku):US "set_iterator.__next__" %[[a]|[]]:=by kernel_rfl
def qv:T8 table "set.__iter__"=hY o0.«frozenset.__iter__»:=Sg (id':="frozenset.__iter__") (by kernel_rfl) rfl (!0) (by kernel_rfl)
def qw(t:nI)(n:kj):(t.orStandIn n).led=t.led:=by unfold nI.orStandIn;split<;> rfl
def xG(t:nI)(es:oT _)(h:pp)(x:ku):(layNew t es h x).2.1.led=t.led:=by
 unfold layNew;cases t.freeSlot h with
 | none=>rfl
 | some p=>
   show qw _ _
def tV(t:nI)(es:oT _)(n:kj):(O4 t es n).2.1.led=t.led:=by
 unfold O4;cases a:t.relaid _ n with
 | none=>rfl
 | some p=>
   let%[t'|c]:=p;simp only
   split
   .simp only[SJ,Tk]at a;cases b:Sn _ _ with
    | none=>rw[b]at a;cases a
    | some e=>rw[b]at a;injection a with a;injection a with d f;rw[<-d]
   .rfl
def oj(t:nI)(es:oT _)(n:kj)(c:t.plain=jg):(O4 t es n).2.1.plain=jg:=by
 unfold O4;cases a:t.relaid _ n with
 | none=>rfl
 | some p=>
   let%[t'|d]:=p;simp only
   split
   .simp only[SJ,Tk]at a;cases b:Sn _ _ with
    | none=>rw[b]at a;cases a
    | some f=>rw[b]at a;injection a with a;injection a with e g;show e▸c
   .rfl
abbrev aW(w:v0):ri:=w.params.followText "set-order"
abbrev bw(w:v0)(a:kG)(ks:ZB)(h:yu):Prop:=
 ∃o es b t ss,h.get? a∣o/\o.ExactSet/\o.data= .set es b t/\Lr (es.toList\2) ss/\ss.Perm ks/\ks.Nodup/\(∀e∈es.toList,∃z u,e=(Mo w z,.str z u))/\es.size<NC/\t.fits es.size=iv/\(es.size≠0->t.plain=jg)/\t.led=!aW w
def rF(h:∀e∈l,∃z u,e=(Mo w z,.str z u)):ElemsOf (aR prog w) l:=λe a=>by
 let%[z,u|rfl]:=h e a;show%[%[lp z,dZ z u|ρ]|ρ]
def eE:∀{vs:ZF} {ss:ZB} {z:lx},Lr vs ss->((∃u,K7 z u∈vs)↔z∈ss)
 | _,_,z,.nil=>by simp
 | _,_,z,.cons x t h=>by
   let b:=eE (z:=z) h
   constructor
   .rintro⟨u,a⟩;rcases Yu.mp a with e|e
    .injection e with c _;show c▸Zm
    .show Zk _ (b.mp %[u|e])
   .intro d;rcases Yu.mp d with e|e
    .show e▸%[t|Zm]
    .let%[u|a]:=b.mpr e;show%[u|Zk _ a]
def i9:∀{vs ws:ZF} {ss ts:ZB},Lr vs ss->Lr ws ts->Lr (vs++ws) (ss++ts)
 | _,_,_,_,.nil,h=>h
 | _,_,_,_,.cons x t h,h'=> .cons x t (i9 h h')
def ck:∀{vs:ZF} {ss:ZB},Lr vs ss-> ~~~vs= ~~~ss
 | _,_,.nil=>rfl
 | _,_,.cons x t h=>by rw[Zr,Zr,ck h]
def cm(h:Lr vs ss)(p:ws.Perm vs):∃ts,Lr ws ts/\ts.Perm ss:=by
 show%[ws.map strOf,strsAre_map ws λv a=>h.all v (p.mem_iff.mp a)|?_];let:=p.map strOf;rwa[h.strs]at this
section
#where
variable{a:kG}
def bw.stored{h:yu}{o:MU}{es b:oT (pp×ku)}{t t':nI}(i:h.get? a∣o)(c:o.ExactSet)(d:o.data= .set es f t)(j:Lr (b.toList\2) ss)(l:ss.Perm ks)(m:ks.Nodup)
 (n:∀e∈b.toList,∃z u,e=(Mo w z,.str z u)) (p:b.size<NC) (r:t'.fits b.size=iv) (v:t'.plain=jg) (y:t'.led=!aW w):
 (h.update a (MC b t')).get? a=hY {o with data:= .set b (f+1) t'}/\bw w a ks (h.update a (MC b t')):=by
 let g:=by
  let q:=K6 (MC b t') i (by rw[P8 b t' d];rfl);rwa[P8 b t' d]at q
 show%[g,_,b,f+1,t',ss,g,c,ρ,j,l,m,n,p,r,λ_=>v|y]
def vm{g:ri->Sem Q3}(O:∀(b:ri) (h:mu) (q:Q3->mu->Prop),q () h->↥A (g b) q E h){m:ri}{R:lX ri->mu->Prop}(r:s.heap.get? a∣o)(i:o.ExactSet)(v:o.data= .set es ep t)
 (y:Lr (c.toList\2) ss) (B:ss.Perm ks) (C:ks.Nodup) (G:∀e∈c.toList,∃z u,e=(Mo w z,.str z u)) (j:c.size<NC) (Q:d.fits c.size=iv) (H:d.plain=jg) (I:d.led=!aW w)
 (J:∀h',vr a s.heap h'->bw w a ks h'->R (hY iv) (s>>>h')):
 ↥A (do
  TY a c d
  if(!m&&d.tooFull)=iv then do
   g (O4 d c (L5 c.size)).2.2
   TY a (O4 d c (L5 c.size)).1 (O4 d c (L5 c.size)).2.1
   pure (hY iv)
  else pure (hY iv)) R E s:=by
 let%[M|T]:=bw.stored r i v y B C G j Q H I;let N:=vr.update s.heap a (MC c d);show Z2 (Mp r v ?_ (Mq j))
 split
 .let p:=relayAll_perm d c (L5 c.size);let f:=relayAll_fits d c (L5 c.size);let l:=tV d c (L5 c.size);let pl:=oj d c (L5 c.size) H
  generalize O4 d c _=L at p f l pl ⊢
  let%[n,t3|gv]:=L;let z:n.size=c.size:=by rw[<-Zb,p.length_eq,Zb]
  let%[ts,U|Y]:=cm y (p.map _);show Z2 (O _ _ _ (Z2 (Mp M rfl (Z3 (J _ (N.trans (vr.update _ a _)) (bw.stored M i rfl U (Y.trans B) C (λe he=>G e (p.mem_iff.mp he)) (by rw[z];show j) f pl (l.trans I)).2)) (Mq (by rw[z];show j)))))
 .show Z3 (J _ N T)
def kJ{ks:ZB}(hS:bw w a ks s.heap)(p: ~~~ks+1<NC)
 (hQ:∀h' b,vr a s.heap h'->bw w a (if z∈ks then ks else ks++[z]) h'->Q b (s>>>h')):↥A (S9 a (.str z tk) (Mo w z)) Q E s:=by
 let%[o,es,ep,t,ss,B,r,C,f,hp,G,g,hb,hf,ab|c]:=hS;let hn:es.size= ~~~ks:=by
  let q:=ck f;rw[Z6,Zb,hp.length_eq]at q;show q
 let hE:ElemsOf (aR prog w) es.toList:=rF g;let H:(aR prog w).is (lp z) (.str z tk)=iv:=dZ z tk;unfold S9 setAddHashedIn;show vu (Z2 (p0 B C hf ?_));dsimp only;rw[byScan_of (knd:=aR prog w) rfl hb hE];simp only[↓reduceIte];unfold setAddByScan;show Z2 (Z2 (MX (Z2 (Vo H B C hf hE ?_))));let I:(∃e∈es.toList,(aR prog w).is (lp z) e.2=iv)↔z∈ks:=by
  rw[<-hp.mem_iff,<-eE f]
  constructor
  .rintro⟨e,h,q⟩;let%[y,u|rfl]:=g e h;let q:jK (lp z) (K7 y u)=iv:=q;rcases aZ q with⟨i,t',q1,l⟩|⟨y',t',q1,l⟩
   .cases l
   .cases q1;show%[u|Xn ⟨_,h,by injection l with e1 _;rw[e1]⟩]
  .rintro⟨u,hu⟩;let%[e,h|q]:=Xm hu;show%[e,h|q▸dZ z u]
 cases hr:UW _ es.toList with
 | some j=>
   let%[hj,ac|_]:=P6.mp hr;let hz:=I.mp %[es.toList[j],Yc hj|ac];let q:=hQ s.heap jg (vr.refl a s.heap) ((md hz)▸%[o,es,ep,t,ss,B,r,C,f,hp,G,g,hb,hf,ab|c]);show Z3 (Z3 q)
 | none=>
   let hz:z∉ks:=λq=>by
    let%[e,h|l]:=I.mpr q;let:=Ru.mp hr e h;rw[l]at this;cases this
   rw[kw hz]at hQ;let J:=layNew_perm t es (Mo w z) (.str z tk);let lf:=layNew_fits t es (Mo w z) (.str z tk);let ll:=xG t es (Mo w z) (.str z tk)
   generalize hL:layNew t es _ _=L at J lf ll
   let%[v,t1,al|ag]:=L;rw[PD]at J;let gone:∀b d Q',Q' () d->↥A (match b with|true=>PM "set.scan.the-table-gave-way"|false=>pure ()) Q' E d:=λb d Q' q=>by
    cases b
    .show Z3 q
    .show MX q
   let m:∀e∈v.toList,∃z u,e=(Mo w z,.str z u):=λe h=>by
    rcases Xk (J.mem_iff.mp h)with q|q
    .show g e q
    .rw[Xl q];show%[z,tk|ρ]
   let q1:Lr ((es.toList++[(Mo w z,K7 z tk)])\2) (ss++[z]):=by
    rw[Zd];show i9 f (.cons z tk .nil)
   let%[ts,l|q3]:=cm q1 (J.map _);let M:=q3.trans (hp.append_right _);let n:=nE G hz;let ae:v.size=es.size+1:=by rw[<-Zb,J.length_eq,Z9,Zb];rfl
   let N:v.size<NC:=by rw[ae,hn];show p
   let O:∀h',vr a s.heap h'->bw w a _ h'->↥A _ Q E _:=λh' T U=>Z3 (hQ h' iv T U)
   show Z2 (gone _ _ _ ?_);cases Y:t1.plain with
   | true=>
     show Z2 (Z3 (vm gone B r C l M n m N (nI.fits_plain_off lf) rfl (ll.trans c) λh' T U=>O h' T U))
   | false=>
     show vm gone B r C l M n m N lf Y (ll.trans c) λh' T U=>O h' T U
def vo(d:bw w a ks s.heap)(c: ~~~ks+1<NC)
 (e:∀h' b,vr a s.heap h'->bw w a (if z∈ks then ks else ks++[z]) h'->Q b {s with heap:=h',toks:=s.toks+1}):↥A (Ta a (.str z tk)) Q E s:=by
 show vu (Z2 (Vp (kJ d c e)))
end
abbrev nh(ks:ZB)(z:lx):ZB:=if z∈ks then ks else ks++[z]
abbrev aV(ss:ZB):ZB:=ss.foldl nh []
def CB(ks:ZB)(z:lx): ~~~(nh ks z)<= ~~~ks+1:=by
 unfold nh;split
 .lia
 .show Z9▸Zi _
def CC:y∈nh ks z↔y∈ks\/y=z:=by
 unfold nh;by_cases h:z∈ks
 .rw[md h]
  simp_all
 .rw[kw h,Yr,Yw]
def xH(h:ks.Nodup):(nh ks z).Nodup:=by
 unfold nh;by_cases a:z∈ks
 .rw[md a];show h
 .rw[kw a];show nE h a
def vp:∀{ss ks:ZB} {y:lx},y∈ss.foldl nh ks↔y∈ks\/y∈ss
 |[],ks,y=>by simp
 | z::r,ks,y=>by
   rw[Y8,vp,CC,Yu]
   grind
def om:∀{ss ks:ZB},ks.Nodup->(ss.foldl nh ks).Nodup
 |[],_,h=>h
 | z::r,ks,h=>by
   rw[Y8];show om (xH h)
def aX:y∈aV ss↔y∈ss:=by unfold aV;rw[vp];simp
def c8(ss:ZB):(aV ss).Nodup:=om X1
def vt:∀(ss ks:ZB),~~~(ss.foldl nh ks)<= ~~~ks+ ~~~ss
 |[],ks=>by simp
 | z::r,ks=>by
   let a:=vt r (nh ks z);let b:=CB ks z;rw[Y8,Zr]
   lia
def vv{ss:ZB}{i:kj}{z:lx}(h:ss[i]?∣z):aV (ss.take (i+1))=nh (aV (ss.take i)) z:=by
 unfold aV;rw[X7,h,Tp];rfl
def bw.keep(S:bw w a ks h)(k:∀o,h.get? a∣o->h'.get? a∣o):bw w a ks h':=by
 let%[o,es,b,t,ss,c|r]:=S;show%[o,es,b,t,ss,k o c|r]
section
variable{prog:nX}{w:v0}{A:vi}{R:Rs->mu->Prop}{I:kG}{fp wr:hH kG}{G:oT P7->oT P7->Prop}{n:kj}{P:kj->ku->Prop}{St:kj->mu->Prop}
def vw(W:WalksS prog w A.in1 I fp wr G n P St)(S:kG)(g:S∉fp){T:kj->yu->Prop}{V:yu->Prop}(tk:∀i h h',T i h->(∀o,h.get? S∣o->h'.get? S∣o)->T i h')(y:∀h h',V h->(∀b o,b≠S->b∉wr->h.get? b∣o->h'.get? b∣o)->V h')
 (add:∀i v (a:mu) (Q:ri->mu->Prop) (E:ZD),P i v->T i a.heap->V a.heap->(∀h' b t,vr S a.heap h'->T (i+1) h'->a.toks<=t->Q b {a with heap:=h',toks:=t})->↥A.in1 (Ta S v) Q E a):
 ∀(k i:kj) (s:mu),n-i=k->i<=n->St i s->T i s.heap->V s.heap->
  (∀s',Moved (S::wr) G s s'->T n s'.heap->R (.ok (.ret .none)) s')->NQ (Lx prog w) A (.builtin "set.update.loop" %[[.ref S,.ref I]|[]]) R s:=by
 let out:S∉wr:=λh=>g (W.sub _ h)
 let more:∀b∈wr,b∈S::wr:=λb c=>Zk _ c
 intro k
 induction k with
 | zero=>
   intro i s C hi st l z d;let e:i=n:=by lia
   subst e;show LP SD ?_;rw[LR OY _];change sh _ A.in1 (OA (.ref I)>>= _) _ _ s;show Z2 (W.done s _ _ st λa f=>?_);change sh _ A.in1 (ret LI) _ _ a;show Z3 (d a (f.mono more) (tk _ _ _ l λo e=>f.heap S o out e))
 | succ k H=>
   intro i s C hi st l z d;let lt:i<n:=by lia
   show LP SD ?_;rw[LR OY _];change sh _ A.in1 (OA (.ref I)>>= _) _ _ s;show Z2 (W.item i s _ _ lt st λv a pv m f=>?_);let j:=y _ a.heap z λb o _ c e=>f.heap b o c e
   show Z2 (vu (add i v a _ _ pv (tk _ _ _ l λo e=>f.heap S o out e) j λM b N p r B=>Z3 %[Md OY _|H (i+1) _ ⋯ lt (W.frame _ a _ _ m B λb c o e=>?_) r (y _ _ j λb o n _ e=>(p.2 b n).trans e) λJ L u=>?_]))
   .show(p.2 b (λq:b=S=>g (q▸c))).trans e
   .show d J (Moved.trans W.gtrans ((f.mono more).then_heap B λb o c e=>(p.2 b (λq:b=S=>c (q▸Zm))).trans e) L) u
end
section
#where
noncomputable abbrev bK(w:v0):MU:={cls:= .type "set",dict:=hX,data:= .set #[] 0 (.fresh 0 0 (!aW w))}
def CD(a:ku)(h:Q₁ (.ref ⇑s) (s>>>s.heap.push (bK w))):
 NQ (Lx prog w) A (.call (.builtin "set.__new__") %[[.type "set",a]|[]]) (wants Q₁ E) s:=by
 show RO ?_;change sh _ A.in1 _ _ _ s;show Z2 (Ry (PySem.F.newCall_set_1 a) (Z3 %[Md PySem.F.plain_set_new _|LP PySem.F.entry_set_new ?_]));unfold o0.«set.__new__» Um;let b:=sub_set_self;let%[c,g,d,tk|os]:=s;dsimp only
 wp_walk
 show Lz (Z3 ?_);dsimp only;simp only[newObj];show Z2 (wpAny_alloc (Z3 (Z3 h)))
def bw.empty(e:h.get? a∣bK w):bw w a [] h:=
 %[_,#[],0,_,[],e,%[rfl,rfl|rfl],rfl,.nil,.nil,X1,λe b=>by simp at b,!1,rfl,λq=>ow rfl q|rfl]
def mK{T:kj->yu->Prop}(hh:A.handled=hX)(hl:s.heap.IsList l a)(t0:∀h,h.get? ⇑s∣bK w->T 0 h)(tk:∀i h h',T i h->(∀o,h.get? ⇑s∣o->h'.get? ⇑s∣o)->T i h')
 (add:∀i v (j:mu) (Q:ri->mu->Prop) (E:ZD),a[i]?∣v->T i j.heap->(∀b o,s.heap.get? b∣o->j.heap.get? b∣o)->(∀h' b t,vr ⇑s j.heap h'->T (i+1) h'->j.toks<=t->Q b {j with heap:=h',toks:=t})->↥A.in1.in1.in1 (Ta ⇑s v) Q E j)
 (hQ:∀(h':yu) (tk:kj),T a.size h'->(∀b o,s.heap.get? b∣o->h'.get? b∣o)->Q (.ref ⇑s) {s with heap:=h',toks:=tk}):
 ↥A (call (.type "set") [.ref l]) Q E s:=by
 let%[c,tl|ac]:=NW.mro;let H:=NW.made;let ae:=NW.sub;show MJ (RO ?_);change sh _ _ (callAny (.type "set") _) _ _ _;show Z3 %[Pw _ (!0)|LP F.entry_type_call ?_];rw[vi.under_plain (weight_type_call_type "set" [.ref l] []) rfl];let al:=NW.notType;let an:=NW.canCreate;let as:=PySem.F.typeCall_set_1 (.ref l)
 repeat any_goals first|assumption|wp_step
 show codeAny_mono (CD (.ref l) (E:=E) (Q₁:=λobj m=>obj= .ref ⇑s/\m=(s>>>s.heap.push (bK w))) %[rfl|rfl]) λr m I=>?_
 cases r with
 | error e=>show I
 | ok fl=>
   cases fl with
   | ret obj=>
     let%[rfl|rfl]:=I;let gS:(s.heap.push (bK w)).get? ⇑s∣bK w:=Zj _ rfl;let tS:Pp (s>>>s.heap.push (bK w)) (.ref ⇑s) "set":=%[_,gS|rfl]
     let a0:=NW.init.lookup;let a1:=NW.init.bind (.ref ⇑s)
     repeat any_goals first|assumption|wp_step
     show codeAny_mono (Mt (R:=wants (λr n=>r= .none/\∃h' tk,n={s with heap:=h',toks:=tk}/\T a.size h'/\(∀b o,s.heap.get? b∣o->h'.get? b∣o)) E) NW.init.plain F.entry_set_init (check_set_init_1 tS ?_)) λy n d=>?_
     .let%[ol,gl,cl,nl|dl]:=hl;let%[ag,p,J|g]:=ol;simp only at cl dl;subst cl;subst dl;let L:(s.heap.push (bK w)).get? l=hY {cls:= .type "list",dict:=p,data:= .seq a nl,slots:=g}:=Z7 _ gl;let a2:=PySem.F.sub_list_set;let a3:=PySem.F.sub_list_frozenset;let a4:(Lu "list"==Lu "dict")=jg:=!1
      let z:(s.heap.push (bK w)).IsList l a:=%[_,L,rfl,nl|rfl]
      unfold o0.«set.__init__»;unfold noKeywords;unfold Uk
      generalize M:Tc=PI
      wp_walk
      subst M;show NI z (Z2 (R5 ?_));let B:l<⇑s:=Zu gl;let h3:A.in1.in1.in1.handled=hX:=by simp[hh]
      let C:(s.heap.push (bK w)).objs.size=⇑s+1:=Zq ..;let N:l≠(s.heap.push (bK w)).objs.size:=by rw[C];show Zs (Ym B)
      let O:⇑s∉[(s.heap.push (bK w)).objs.size,l]:=by
       rw[C];simp only[Yu,X3,LA,NM];show%[Zs (Yn _)|Yx B]
      show vw ((Q2 h3 _ l N a).toS) ⇑s O (V:=λh=>∀b o,s.heap.get? b∣o->h.get? b∣o) tk (λh h' v k b o e=>?_) (λi v j Q E pv t v' q=>add i v j Q E pv t v' q) (a.size-0) 0 _ ⋯ (Xc _)
       %[%[_,Zj _ rfl,rfl|rfl]|z.push _] (t0 _ (Z7 _ gS)) (λb o e=>Z7 _ (Z7 _ e)) ?_
      .let f:=Zu e;show k b o (Zs f) ?_ (v b o e);simp only[Yu,X3,LA,C];show Zs (Ym f)
      intro s3 G U;let%[h',g',d',Y|ab]:=s3;let eg:g'=s.gens:=G.gens;let ed:d'=s.drawn:=G.drawn;let eo:ab=s.os:=G.os;subst eg;subst ed;subst eo;show Z3 ?_;change sh _ _ (ret LI) _ _ _;show Z3 %[rfl,h',Y,rfl,U|λb o e=>?_];let f:=Zu e;show G.heap b o ?_ (Z7 _ (Z7 _ e));simp only[Yu,X3,LA,NM,C];show%[Zs f|Zs (Ym f)]
     .cases y with
      | error e=>show d
      | ok u=>
        cases u with
        | ret r=>
          let%[rfl,h',tk,rfl,U|k3]:=d
          repeat any_goals first|assumption|wp_step
          show hQ _ _ U k3
        | _=>show d.elim
   | _=>show I.elim
end
section
variable{X:Cx}{K:ZA}
abbrev lV(w:v0)(a:kG)(ks:ZB):HO:= .ext (bw w a ks)
def CF(y:X.calm=iv):ci X (.type "set") (λxs H Q=>cJ xs λg=>asR g λp=>∃ss,Qc X.K H p (ss\3)/\ ~~~ss<=4000/\∀l,H l=hX->Q (.ref l) (Qb H l (lV X.w l (aV ss)))):=by
 intro ij s M H xs us Q I r h;let%[g,rfl|a]:=bF h;let%[p,rfl|c]:=aM a;let%[ss,z,N|q]:=c;let%[u,rfl|A]:=cO r;cases A;let%[its,j,pl|O]:=I.list z;let d:=io j;let m:its.toArray.size= ~~~ss:=ck d;show mK (T:=λi h=>bw X.w ⇑s (aV (ss.take i)) h) (I.ok.hd y) pl.isList (λh e=>bw.empty e) (λi h h' S k=>S.keep k) (λi v U Q E n B _ k=>?_) λh' tk S k=>?_
 .let lt:i< ~~~ss:=m▸(vk.mp n).1;let%[u,C,t|rfl]:=j.get (i:=i) (x:= .str ss[i]) (by simp[lt]);obtain rfl:v=_:=Za (n.symm.trans ↑C);let q:=vt (ss.take i) [];rw[Yk]at q;show vo B (by change(aV (ss.take i)).length+1<4096;unfold aV;simp only[UM]at q;lia) λw b G f=>k w b _ G ?_ (Yf _)
  rw[vv (Z4 lt)];show f
 .rw[m,Zn (Zi _)]at S;show%[.ref ⇑s,_,I.laid (o:=lV X.w ⇑s _) k (Zi _) %[S,?_|λY w J k1=>J.keep k1],ρ|q _ I.fresh];let%[o,_,_,_,_,L|_]:=S;show%[o|L]
def CG(h:X.K=K)(hw:X.w=w)(a:X.calm=iv):cj X (.type "set") (λxs H Q=>cJ xs λb=>asR b λp=>∃ss,Qc K H p (ss\3)/\ ~~~ss<=4000/\∀l,H l=hX->Q (.ref l) (Qb H l (lV w l (aV ss)))):=by subst h;subst hw;show⟨CF a⟩
end
def iu:∀{xs:hH a} {i:kj} (h:i< ~~~xs),(xs[i]::xs.eraseIdx i).Perm xs
 | x::r,0,_=>by simp
 | x::r,i+1,h=>by
   show(SO _ _ _).trans (.cons _ (iu ↑h))
section
#where
def AA(a:n≠0)(h:∀i d,i<n->Q i {s with drawn:=d}):↥A (choose b n) Q E s:=by
 intro c p _;show%[a|h _ _ (Ro _ (PZ a))]
def tW:∀(n:kj) (xs:hH b) (s:mu) (Q:hH b->mu->Prop),~~~xs<=n->(∀ys d,ys.Perm xs->Q ys {s with drawn:=d})->↥A (drawOrder n xs) Q E s
 | 0,xs,s,Q,a,h=>by
   let e:=xl.mp (le_zero.mp a);subst e;show Z3 (h [] s.drawn .nil)
 | n+1,[],s,Q,a,h=>Z3 (h [] s.drawn .nil)
 | n+1,x::r,s,Q,a,h=>by
   unfold drawOrder;show Z2 (AA ∅ λi d hi=>?_);rw[(Z4 hi)];show Z2 (tW n _ _ _ (by rw[SB];simp only[hi];simp_all) λys c p=>Z3 (h _ c ((SQ _ p).trans (iu hi))))
end
def yX(next:kj->kj):∀(fuel k:kj) (left:hH a) (out:oT a),~~~left<=fuel->(QV next fuel k left out).toList.Perm (out.toList++left)
 | 0,k,left,out,h=>by
   let e:=xl.mp (le_zero.mp h);subst e;rw[Zx];show .refl _
 | fuel+1,k,[],out,h=>by
   unfold QV;simp
 | fuel+1,k,x::r,out,h=>by
   unfold QV;let hi:next k% ~~~(x::r)< ~~~(x::r):=Ro _ ∅;rw[Z4 hi];show(yX next fuel _ _ _ (by rw[SB];simp_all)).trans ?_;rw[PD,Ze];show(LL _).append (iu hi)
def rG(next:kj->kj)(xs:oT a):(MB next xs).toList.Perm xs.toList:=by
 let:=yX next xs.size 0 xs.toList #[] ∅;simpa [MB]using this
def rH(p j:kj):M4 #[p] j=if p<j then 1 else 0:=by
 unfold M4;simp only[Zp,Zr];unfold Sj;simp
 split<;>(rfl)
def xI(j:kj):M4 #[] j=0:=rfl
def rJ{a:Type}{xs:oT a}(h:xs.size=1):∃p,xs= #[p]:=by
 obtain⟨l⟩:=xs
 match l,h with
 |[p],_=>show%[p|ρ]
abbrev SIt(w:v0)(I S T:kG)(o:MU)(es:oT (pp×ku))(b:kj)(t:nI)(a:ZF)(i:kj)(h:yu):Prop:=
 h.get? S∣o/\∃first,h.get? I=hY {cls:= .type "set_iterator",dict:=hX,data:= .fields #[first,Lj i,.ref S,Lj es.size,Lj b],slots:= #[]}/\
  ((aW w=iv/\first=Lj 0/\a=(MB (w.params.setOrder S b) es).toList\2)\/
   (aW w=jg/\first= .ref T/\T≠I/\∃ps:hH kj,h.get? T=hY {cls:= .type "tuple",data:= .seq (ps.map λ(i:kj)=>Lj i).toArray}/\ ~~~ps= ~~~a/\∀(j p:kj),ps[j]?∣p->∃e,es[p]?∣e/\a[j]?∣e.2)\/
   (aW w=jg/\es.size<=1/\a=es.toList\2/\(i=0->first=Lj 0)/\(i=1->∃p:kj,t.place[0]?∣p/\first=Lj (p+1))))
def SIt.is{w:v0}{I S T:kG}{o:MU}{es:oT _}{b:kj}{t:nI}{a:ZF}{i:kj}{s:mu}(h:SIt w I S T o es b t a i s.heap):s.TypeIs (.ref I) "set_iterator":=by
 let%[_,f,c|_]:=h;show%[_,c|ρ]
section
#where
variable{I S T:kG}{o:MU}{es:oT (pp×ku)}{ep:kj}{t:nI}{ord:ZF}
def xJ{i:kj}{v:ku}{Q:lX ku->mu->Prop}(y:o.data= .set es ep t)(h:t.fits es.size=iv)(z:t.led=!aW w)(j:S≠I)(st:SIt w I S T o es ep t ord i s.heap)(f:ord[i]?∣v)(hn: ~~~ord=es.size)
 (hQ:∀h',SIt w I S T o es ep t ord (i+1) h'->vr I s.heap h'->Q (hY v) (s>>>h')):↥A (OA (.ref I)) Q E s:=by
 let hT:=st.is;let%[g,first,U|m]:=st;unfold OA;show Z2 (Mc (L1 (name:=!"__next__") hT b8 (Lm b8 hT gO ?_ (iN _))));unfold o0.«set_iterator.__next__»;show Z2 (m:=slotArgs _ _ _) (Z3 ?_);show Z2 (Pz U rfl ?_);change sh _ _ (setEntries S>>= _) _ _ _;show Z2 (M5 g y h ?_);rw[kw ∅];rcases m with⟨c,rfl,B⟩|⟨c,rfl,C,ps,G,ab,H⟩|⟨c,h1,B,f0,f1⟩
 .change sh _ _ (Pi S 0 i ep>>= _) _ _ _;show Z2 ?_;unfold Pi;show Z2 (p0 g y h ?_);show Z2 (Z2 (Lz (Z3 ?_)));change sh _ _ (if aW w=iv then _ else _) _ _ _;rw[md c];dsimp only;rw[kw (show ¬ ((ep != ep)=iv) by simp)];show Z2 ?_;unfold setWalk;show Z2 (p0 g y h ?_);show Z2 (Z2 (Lz (Z3 ?_)));change sh _ _ (if aW w=iv then _ else _) _ _ _;rw[md c];show Z2 (Lz (Z3 (Z3 ?_)));let d:(MB (w.params.setOrder S ep) es)[i]?.map (·.2)∣v:=by
   rw[B]at f;simpa using f
  cases u:(MB (w.params.setOrder S ep) es)[i]? with
  | none=>rw[u]at d;cases d
  | some e=>
    rw[u]at d;let J:e.2=v:=↑d
    change sh _ _ (match((MB (w.params.setOrder S ep) es)[i]?).map λe=>(e.2,0)with|hY (x,next)=>_|none=>_) _ _ _;rw[u];show Z2 (zz U ∅ λL b a=>?_);show Z2 (zz (s:=(s>>>L)) b ∅ λM l n=>?_);rw[J];let N:vr I s.heap M:=a.trans n;show Z3 %[v,rfl|Z3 (hQ M %[(N.2 S j).trans g,_,l|.inl %[c,rfl|B]] N)]
 .show Z2 (Lw G rfl ?_);let hi:i< ~~~ord:=(Xj f).1;let ac:i< ~~~ps:=by lia
  let%[e,Y|ae]:=H i ps[i] ∅;let J:e.2=v:=by rw[ae]at f;show Za f
  let O:(ps.map λ(i:kj)=>Lj i).toArray[(i:pp).toNat]?∣Lj ps[i]:=by simp[ac]
  dsimp only;rw[O];change sh _ _ (setNextDrawn S ps[i] ep>>= _) _ _ _;show Z2 ?_;unfold setNextDrawn;show Z2 (p0 g y h ?_);dsimp only;rw[kw (show ¬ ((ep != ep)=iv) by simp),Y];show Z3 ?_;show Z2 (zz U ∅ λL b a=>?_);rw[J];show Z3 %[v,rfl|Z3 (hQ L %[(a.2 S j).trans g,_,b|.inr (.inl %[c,rfl,C,ps,(a.2 T C).trans G,ab|H])] a)]
 .let hi:i< ~~~ord:=(Xj f).1;let i0:i=0:=by lia
  subst i0;let f0:=f0 rfl;subst f0;let e1:es.size=1:=by lia
  let pz:t.place.size=1:=by
   simp only[MV,Zv,Mv,K9]at h;rw[h.1,e1]
  let%[p|u]:=rJ pz;obtain⟨e,Y⟩:∃e,es[0]?∣e:=%[es[0]|by simp]
  let J:e.2=v:=by
   rw[B]at f;let:(es[0]?)\2∣v:=↑f
   rw[Y]at this;simpa using this
  change sh _ _ (Pi S 0 0 ep>>= _) _ _ _;show Z2 ?_;unfold Pi;show Z2 (p0 g y h ?_);change sh _ _ (if aW w=iv then _ else _) _ _ _;rw[kw (by rw[c];decide)];dsimp only
  split
  .rename_i r
   change (!t.plain&&decide (es.size>1))=iv at r;rw[e1]at r;simp at r
  .show Z2 (m:=(if(!t.led&&!es.isEmpty)=iv then N7 "set:maker-not-led" else pure ())) ?_;rw[z,c];show Z3 ?_;rw[u,rH];simp only[X2,↓reduceIte,Y];show Z3 ?_;change sh _ _ (Oz (.ref I) 0 (Lj ((p+1:kj):pp))>>= _) _ _ _;show Z2 (zz U ∅ λL b a=>Z2 (zz (s:=(s>>>L)) b ∅ λM l n=>?_));rw[J];let N:vr I s.heap M:=a.trans n;show Z3 %[v,rfl|Z3 (hQ M %[(N.2 S j).trans g,_,l|.inr (.inr %[c,⋯,B,λq=>by lia|λ_=>%[p,by rw[u];rfl|rfl]])] N)]
def vx{c:Type}{Q:c->mu->Prop}(d:A.handled=hX)(f:∀h' e,(∀b o,s.heap.get? b∣o->h'.get? b∣o)->(∃o,h'.get? e∣o/\o.cls= .type "StopIteration")->E (.ref e) (s>>>h')):
 ↥A (newExc (.type "StopIteration") []>>= λe=>(T3 e)) Q E s:=by
 show Z2 ?_;show Z2 (Lg ?_ (by size_fits));show Z2 (Ry (a:=LI) (by first|rfl|lia) (Lg (Us d (f _ _ (λb o e=>Z7 _ (Z7 _ e)) %[_,Zj _ rfl|rfl])) (by size_fits)))
def AB{i:kj}{Q:lX ku->mu->Prop}(hh:A.handled=hX)(y:o.data= .set es ep t)(j:t.fits es.size=iv)(n:t.led=!aW w)(st:SIt w I S T o es ep t ord i s.heap)(hi:i= ~~~ord)(hn: ~~~ord=es.size)
 (hQ:∀h',(∀b o,b≠I->s.heap.get? b∣o->h'.get? b∣o)->Q hX (s>>>h')):↥A (OA (.ref I)) Q E s:=by
 let hT:=st.is;let%[z,first,B|m]:=st;let J:A.in1.handled=hX:=hh;let c:∀(g:yu) (Q':Fin->mu->Prop),vr I s.heap g->↥A.in1 (newExc (.type "StopIteration") []>>= λe=>(T3 e:Sem Fin)) Q' (λe s'=>↥A (do
  if(<-Qy e (.type "StopIteration"))then pure hX else throw e) Q E s') (s>>>g):=λg Q' sb=>by
  show vx J λh' e k ⟨oe,he,hc⟩=>?_
  show Z2 (MA (T:="StopIteration") (b:=iv) %[oe,he|hc] Sf (Z3 (hQ h' λb o r q=>k b o ((sb.2 b r).trans q))))
 unfold OA;show Z2 (Mc (L1 (name:=!"__next__") hT b8 (Lm b8 hT gO ?_ (iN _))));unfold o0.«set_iterator.__next__»;show Z2 (m:=slotArgs _ _ _) (Z3 ?_);show Z2 (Pz B rfl ?_);change sh _ _ (setEntries S>>= _) _ _ _;show Z2 (M5 z y j ?_);rw[kw ∅];rcases m with⟨l,rfl,eo⟩|⟨l,rfl,ab,ps,L,ac,ae⟩|⟨l,h1,eo,M,N⟩
 .change sh _ _ (Pi S 0 i ep>>= _) _ _ _;show Z2 ?_;unfold Pi;show Z2 (p0 z y j ?_);show Z2 (Z2 (Lz (Z3 ?_)));change sh _ _ (if aW w=iv then _ else _) _ _ _;rw[md l];dsimp only;rw[kw (show ¬ ((ep != ep)=iv) by simp)];show Z2 ?_;unfold setWalk;show Z2 (p0 z y j (Z2 (Z2 (Lz (Z3 ?_)))));change sh _ _ (if aW w=iv then _ else _) _ _ _;rw[md l];show Z2 (Lz (Z3 (Z3 ?_)));let C:(MB (w.params.setOrder S ep) es)[i]? =hX:=by
   rw[oT.getElem?_eq_none_iff,hi,eo,Z6,Zb];show Zi _
  change sh _ _ (match((MB (w.params.setOrder S ep) es)[i]?).map λe=>(e.2,0)with|hY (x,next)=>_|none=>_) _ _ _;rw[C];change sh _ _ (Oz (.ref I) 2 .none>>= _) _ _ _;show Z2 (zz B ∅ λG _ d=>c G _ d)
 .change sh _ _ (seqItems? (.ref T)>>= _) _ _ _;show Z2 (Lw L rfl ?_);let u:(ps.map λ(i:kj)=>Lj i).toArray[(i:pp).toNat]? =hX:=by simp;lia
  dsimp only;rw[u];show Z2 (zz B ∅ λG O d=>Z2 (zz O ∅ λg2 _ U=>c g2 _ (d.trans U)))
 .let done:∀slot:kj,first=Lj slot->M4 t.place slot=es.size->↥A.in1 (Pi S slot i ep) (λa s'=>a=hX/\s'=s) (λ_ _=>KZ) s:=by
   intro slot _ r;unfold Pi;show Z2 (p0 z y j ?_);change sh _ _ (if aW w=iv then _ else _) _ _ _;rw[kw (by rw[l];decide)];dsimp only
   split
   .rename_i h
    change (!t.plain&&decide (es.size>1))=iv at h;let:decide (es.size>1)=jg:=Zh ⋯;rw[this,LU]at h;cases h
   .show Z2 (m:=(if(!t.led&&!es.isEmpty)=iv then N7 "set:maker-not-led" else pure ())) ?_;rw[n,l];show Z3 ?_;rw[r,show es[es.size]? =hX by simp];show Z3 %[rfl|rfl]
  let go:∀slot:kj,first=Lj slot->M4 t.place slot=es.size->↥A.in1 (Pi S slot i ep>>= λa=>match a with
   | hY (x,next)=>(do
     Oz (.ref I) 0 (Lj ↑(next))
     Oz (.ref I) 1 (Lj (↑(i)+1))
     ret x)
   | none=>(do
     Oz (.ref I) 2 .none
     let e<-newExc (.type "StopIteration") []
     T3 e)) (λc s'=>∃v,c=Fin.done (Flow.ret v)/\↥A (pure (hY v)) Q E s') (λe s'=>↥A (do
   if(<-Qy e (.type "StopIteration"))then pure hX else throw e) Q E s') s:=by
   intro slot e r;show Z2 (Lb (done slot e r) (λa s' ⟨H,e2⟩=>?_) λ_ _ f=>f.elim);subst H;subst e2;show Z2 (zz B ∅ λG _ d=>c G _ d)
  let pz:=by
   simp only[MV,Zv,Mv,K9]at j;show j.1
  by_cases e0:es.size=0
  .let i0:i=0:=by lia
   subst i0;let M:=M rfl;subst M;show go 0 rfl ?_;let:t.place= #[]:=Qo ⋯;rw[this,xI,e0]
  .let H:es.size=1:=by lia
   let i1:i=1:=by lia
   subst i1;let%[p,C|N]:=N rfl;subst N;show go (p+1) rfl ?_;let%[p'|Y]:=rJ (by rw[pz,H]:t.place.size=1);rw[Y]at C ⊢;let:p'=p:=↑C
   subst this;rw[rH,md (Yn _),H]
end
def iO:Slot "set_iterator" "__iter__" "set_iterator.__iter__":=
 .of (owner:="set_iterator") (n:="__iter__") (by rw[VR,TD];kernel_rfl) (!0) (!0) (!0) (by first|show .inl (!0)|show .inr ∅) (by kernel_rfl)
def lW:T8 table "set_iterator.__iter__"=hY o0.«dict_keyiterator.__iter__»:=Sg (id':="dict_keyiterator.__iter__") (by kernel_rfl) rfl (!0) (by kernel_rfl)
def ni(a:ku):US "set_iterator.__iter__" %[[a]|[]]:=by kernel_rfl
def tX:Ow (.type "set") "__len__"=pure (hY (.builtin "set.__len__")):=by kernel_rfl
section
#where
variable{I S T:kG}{o:MU}{es:oT (pp×ku)}{ep:kj}{t:nI}{ord:ZF}
def AC(hh:A.handled=hX)(hd:o.data= .set es ep t)(hf:t.fits es.size=iv)(hled:t.led=!aW w)(hSI:S≠I)(hn: ~~~ord=es.size):
 RD prog w A I [I,S,T] [I] ord.length (λi v=>ord[i]?∣v) (λi h=>SIt w I S T o es ep t ord i h) where
 sub:=by simp
 frame:=λi h h' st k=>by
  let%[hS,first,hI|m]:=st;show⟨k S ∅ _ hS,first,k I ∅ _ hI,?_⟩;rcases m with m|⟨bt,e,hTI,ps,hTt,r⟩|m
  .show .inl m
  .show .inr (.inl %[bt,e,hTI,ps,k T ∅ _ hTt|r])
  .show .inr (.inr m)
 item:=λi s Q E hi st hQ=>xJ (v:=ord[i]) hd hf hled hSI st ∅ hn λh' st' sb=>hQ _ h' s.toks ∅ st' λb o' hb e=>(sb.2 b (λq=>hb (by simp[q]))).trans e
 done:=λs Q E st hQ=>AB hh hd hf hled st rfl hn λh' k=>hQ h' s.toks λb o' hb e=>k b o' (λq=>hb (by simp[q])) e
 self:=λi s Q E st hQ=>by
  let hT:=st.is;show QM hT iO (Lm iO hT lW (Z3 %[_,rfl,"set_iterator",_,hT,b8.lookup|hQ]) (ni _))
def AD(g:s.heap.get? S∣o)(B:o.ExactSet)(C:o.data= .set es ep t)(hb:es.size<NC)(G:t.fits es.size=iv)(H:es.size≠0->t.plain=jg)(U:t.led=!aW w)
 (hQ:∀(I T:kG) (ord:ZF) (h':yu) d,(∀b o,s.heap.get? b∣o->h'.get? b∣o)->⇑s<=I->S≠I->(T=S\/⇑s<=T)->T<h'.objs.size->I<h'.objs.size-> ~~~ord=es.size->
  SIt w I S T o es ep t ord 0 h'->ord.Perm (es.toList\2)->Q (.ref I) {s with heap:=h',drawn:=d}):↥A (Tc (.ref S)) Q E s:=by
 let Y:s.TypeIs (.ref S) "set":=%[o,g|B.1]
 let n:S<⇑s:=Zu g;show QM Y Vj (Lm Vj Y qv ?_ (F.args_set_iter_1 _));unfold o0.«frozenset.__iter__»;show Z2 (m:=Ul _ _) (Z2 (m:=slotArgs _ _ _) (Z3 (Z3 ?_)));show Z2 (m:=Pq S) (Z2 (M5 g C G (Z3 ?_)));show Z2 (m:=setDrawn S) ?_;unfold setDrawn;show Z2 (p0 g C G (Z2 (Z2 (Lz (Z3 (Z3 ?_))))));let a:∀(first:ku) (c:mu) (T:kG) (ord:ZF),c.heap.get? S∣o->(∃d f,c={s with heap:=f,drawn:=d})->(∀b o,s.heap.get? b∣o->c.heap.get? b∣o)->T<⇑c->⇑s<=⇑c->(T=S\/⇑s<=T)->ord.Perm (es.toList\2)->
  ((aW w=iv/\first=Lj 0/\ord=(MB (w.params.setOrder S ep) es).toList\2)\/(aW w=jg/\first= .ref T/\∃ps:hH kj,c.heap.get? T=hY {cls:= .type "tuple",data:= .seq (ps.map λ(i:kj)=>Lj i).toArray}/\ ~~~ps= ~~~ord/\∀(j p:kj),ps[j]?∣p->∃e,es[p]?∣e/\ord[j]?∣e.2)\/(aW w=jg/\es.size<=1/\ord=es.toList\2/\first=Lj 0))-> ~~~ord=es.size->
  ↥A.in1 (do ret (<-newFields "set_iterator" [first,Lj 0,.ref S,Lj es.size,Lj (<-R9 S)])) (λa s'=>∃v,a=Fin.done (Flow.ret v)/\∃T' r,s'.TypeIs v T'/\Ow (.type T') "__next__"=pure (hY r)/\Q v s') (λe s'=>E e s') c:=by
  intro first c T ord f %[d,J|e1] k1 tl sl L y m hn
  subst e1;show Z2 (wpAny_setEpoch_of f C G (Z2 (Lg ?_)));let gI:(J.push {cls:= .type "set_iterator",data:= .fields #[first,Lj 0,.ref S,Lj es.size,Lj ep]}).get? J.objs.size∣_:=Zj _ rfl;show Z3 %[_,rfl,"set_iterator",_,%[_,gI|rfl],b8.lookup|hQ J.objs.size T ord _ d (λb o' e=>Z7 _ (k1 b o' e)) sl (Zs (Zu f)) L (by rw[Zq];show Ym tl) (by rw[Zq];show Yn _) hn ?_ y];show⟨Z7 _ f,first,gI,?_⟩;rcases m with m|⟨h,e,ps,M,r⟩|⟨h,N,eo,e⟩
  .show .inl m
  .show .inr (.inl %[h,e,Zs tl,ps,Z7 _ M|r])
  .show .inr (.inr %[h,N,eo,λ_=>e|λq=>ow q ∅])
 let lst: ~~~(es.toList\2)=es.size:=by rw[Z6,Zb]
 by_cases h:aW w=iv
 .change sh _ _ (if(!aW w&&_)=iv then _ else _) _ _ _;rw[h,U1,No,kw ∅];show Z2 (Z3 ?_);let u:=(rG (w.params.setOrder S ep) es)\2;show a (Lj 0) s S _ g %[s.drawn,s.heap|rfl] (λ_ _ e=>e) n (Zi _) (.inl rfl) u (.inl %[h,rfl|rfl]) (by rw[u.length_eq,lst])
 .let z:aW w=jg:=↑h
  change sh _ _ (if(!aW w&&(!t.plain&&decide (es.size>1)))=iv then _ else _) _ _ _;by_cases f:es.size>1
  .rw[z,H ⋯,Zf f];show Z2 (tW es.size _ _ _ ∅ λps d l=>Z2 (Py ?_ (by rw[Z6,l.length_eq,Yi];show Mq hb)));let lt:∀p∈ps,p<es.size:=λp q=>wh.mp (l.mem_iff.mp q)
   let er:(q7 es.size).map (λp=>((es[p]?)\2).getD .none)=es.toList\2:=by
    apply OQ
    .simp
    .intro i y q2;simp at y;simp[y]
   let u:(ps.map (λp=>((es[p]?)\2).getD .none)).Perm (es.toList\2):=er▸l.map _;show a _ _ ⇑s _ (Z7 _ g) %[d,_|rfl] (λb o' e=>Z7 _ e) (by rw[Zq];show Yn _) (by rw[Zq];show Yf _) (.inr (Zi _)) u
    (.inr (.inl %[z,rfl,ps,Zj _ rfl,by rw[Z6]|λj p q=>?_])) (by rw[u.length_eq,lst])
   let O:=lt p (Z8 q);show%[es[p],by simp|by simp[q,O]]
  .rw[z,Zh f];simp only[LU,Zz];show a (Lj 0) s S _ g %[s.drawn,s.heap|rfl] (λ_ _ e=>e) n (Zi _) (.inl rfl) (LL _) (.inr (.inr %[z,⋯,rfl|rfl])) lst
def kK(hh:A.handled=hX)(u:s.heap.get? S∣r)(a:r.ExactSet)(v:r.data= .set g a1 t0)(y:g.size<NC)(z:t0.fits g.size=iv)(B:g.size≠0->t0.plain=jg)(c:t0.led=!aW w)
 (hQ:∀s' vs,vs.Perm (g.toList\2)->(∀b o,s.heap.get? b∣o->s'.heap.get? b∣o)->s'.gens=s.gens->s'.os=s.os->⇑s<=⇑s'->Q vs s'):↥A (Pn (.ref S)) Q E s:=by
 unfold Pn;show Z2 (R5 (LP F.entry_proto_collect ?_));rw[LR F.plain_proto_collect _];change sh _ A.in1 (newList []>>= λl=>again (.builtin "list.__iadd__" %[[l,.ref S]|[]])) _ _ s;show Z2 (Lg (Z3 %[Md OJ _|LP F.entry_list_iadd ?_]));rw[LR OJ _];let i:S<⇑s:=Zu u;change sh _ A.in1 (My (.ref ⇑s) (.ref S) (.ref ⇑s)) _ _ _;unfold My
 generalize O:s.heap.push {cls:= .type "list",data:= .seq ([]:ZF).toArray}=G
 let gS:G.get? S∣r:=by rw[<-O];show Z7 _ u
 let gz:G.objs.size=⇑s+1:=by rw[<-O,Zq]
 let gL:G.get? ⇑s=hY {cls:= .type "list",data:= .seq ([]:ZF).toArray}:=O▸Zj _ rfl;let tS:Pp (s>>>G) (.ref S) "set":=%[r,gS|a.1]
 show Z2 (Pf (T:="set") tS ?_);let n1:Qg (.ref ⇑s) (.ref S)=jg:=by
  change(⇑s==S)=jg;show K5.mpr (Yx i)
 let n2:(Lu "set"==Lu "list")=jg:=!1
 let n3:(Lu "set"==Lu "tuple")=jg:=!1
 simp only[n1,n2,n3,U0,Zz,Nb];show Z2 (AD (s:=(s>>>G)) gS a v y z B c λI T ord h d k1 U ab ac a2 a3 hn st q1=>?_);replace k1:∀b o,G.get? b∣o->h.get? b∣o:=k1;replace U:G.objs.size<=I:=U;let ae:h.get? S∣r:=k1 _ _ gS;show Z2 (vu ?_);unfold Pt;let m:Pp {s with heap:=h,drawn:=d} (.ref S) "set":=%[r,ae|a.1]
 show Z2 (N9 (T:="set") m tX ?_)
 wp_delta
 show Z2 (MA (T:="set") (b:=iv) m (by rw[isSubtype_type];kernel_rfl) ?_);change sh _ A.in1 (Oa (.ref S)>>= _) _ _ _;show Z2 (Pf (T:="set") m (Z3 ?_));rw[md (!1)];show Z2 (MX ?_);let C:h.get? ⇑s=hY {cls:= .type "list",data:= .seq ([]:ZF).toArray}:=k1 _ _ gL;show Z2 ?_;unfold V3;show Z2 (N2 (s:={s with heap:=h,drawn:=d}) C rfl ?_ (Xc _) (by change 1<=mv+1;lia));let H:=K6 (LX (·.push LI)) C rfl;show N2 (xs:= #[LI]) (n:=1) (s:={s with heap:=h.update ⇑s (LX _),drawn:=d}) H rfl ?_ (!1) (by change 0<=mv+1;lia);let ag:=K6 (LX (·.pop)) H rfl;let J:∀b o,b≠⇑s->h.get? b∣o->((h.update ⇑s (LX (·.push LI))).update ⇑s (LX (·.pop))).get? b∣o:=λb o Y e=>(J5 _ _ (J0 Y)).trans ((J5 _ _ (J0 Y)).trans e)
 let al:=Zs (Zg (by rw[gz];show Yn _) U);let neT:⇑s≠T:=by
  rcases ac with e|e
  .show e▸Yx i
  .show Zs (Zg (gz▸Yn _) e)
 let L:⇑s∉[I,S,T]:=by
  simp only[Yu,X3,LA,NM];show%[al,Yx i|neT]
 let an: ~~~ord<=mv:=hn▸Mq y;let W:=AC (prog:=prog) (A:=A.in1) (T:=T) (hh) v z c ab hn;let as:=W.frame 0 h _ st λb Y M e=>J b M (λq=>L (q▸Y)) e
 show Z3 %[Md TQ _|Ua W.toS an _ L _ ord.length 0 _ _ _ rfl (Xc _) as ag (UD _) λs5 acc c5 m5 N f=>?_];show Z2 (R6 N (Z3 ?_));let ea:acc.toList=ord:=by
  apply Pm;intro j;by_cases hj:j< ~~~ord
  .let a0:j<acc.size:=f.1▸hj;let:=f.2 j acc[j] ∅;rw[this];simp[a0]
  .let l1: ~~~acc.toList= ~~~ord:=f.1;rw[Xi ⋯,Xi (l:=ord) ⋯]
 rw[ea];show hQ s5 ord q1 (λb M e=>?_) m5.gens m5.os (Ye (Zu N));let p:=Zu e;show m5.heap b M ?_ (J b M (Zs p) (k1 b M (O▸Z7 _ e)));simp only[Yu,X3,LA,NM];show%[Zs p|Zs (Zg p (n7 (gz▸Yf _) U))]
def vy(f:A.handled=hX)(h:bw w S ks s.heap)
 (i:∀s' vs ss,Lr vs ss->ss.Perm ks->(∀b o,s.heap.get? b∣o->s'.heap.get? b∣o)->s'.gens=s.gens->s'.os=s.os->⇑s<=⇑s'->Q vs s'):↥A (Pn (.ref S)) Q E s:=by
 let%[o,es,ep,t,ss,j,c,l,d,m,n,p,q,r,e|a]:=h;show kK f j c l q r e a λs' vs pv k g os sz=>?_
 let%[ts,u|v]:=cm d pv;show i s' vs ts u (v.trans m) k g os sz
end
section
variable{X:Cx}{ij:ZE}{σ:St}{H:Hp}{s s':mu}
def Qd.keptS(I:Qd X ij σ H s)(k:∀b o,s.heap.get? b∣o->s'.heap.get? b∣o)(c:s'.gens=s.gens)(a:s'.os=s.os):Qd X ij σ H s':=by
 let%[h',l,p,t'|d]:=s';replace a:d=s.os:=a;subst c;subst a;show I.step (ch:=[]) (λb f=>ow f ∅) (λb o _ _ _ e _=>k b o e) (λb o _ _ _ e _=>%[o.slots|k b o e]) (λ_ _ _ _ n=>n) (λb o _ e=>%[o|k b o e]) (λ_ _ e=>e) (λ_ _ _ e=>e) (λb ps e=>%[#[]|by rw[e];simp]) (λm g=>?_) (λb v e=>?_) I.bare
 .let%[o,es,h,a|r]:=g;show%[o,es,h,k _ o a|r]
 .show(I.hok b v e).stay (λi j _ q=>k i j q) (λ_ q=>q) λ_ _ q=>q
variable{prog:nX}{w:v0}{A:vi}{E:ZD}
variable{S:kG}
end
def aj{D:ic}(h:∀c:ic,(∀a b,u D a b->c.nx a b)->(∀v b,D.rt v b->c.rt v b)->t c d H):aU t u D d H:=h _ (λ_ _ x=>x) λ_ _ x=>x
def az{t:TS}{D:ic}(h:∀c:ic,(∀a b,D.nx a b->c.nx a b)->(∀v b,D.rt v b->c.rt v b)->t c d H):t D d H:=h _ (λ_ _ x=>x) λ_ _ x=>x
def ja{K:ZA}{xs:hH V}{g:TG}{j:TS}{D:ic}(Pv:kj->St->Hp->Prop)(n:Pv 0 b H)(o:∀i b H,i<= ~~~xs->Pv i b H->Qc K H a xs)
 (r:∀i x T b H,xs[i]?∣x->Pv i b H->H T=hX->g (.ref T) b (Qb H T (.tup [.int i,x])) λc h=>j {D with nx:=Pv (i+1),ct:=Pv (i+1),bk:=D.nx} c h) (s:∀b H,Pv xs.length b H->D.nx b H):
 ∃W:kj->kj->St->Hp->Prop,(∃m,W 0 m b H)/\∀i m b H,W i m b H->
  ((Ite K a xs).stop i H/\D.nx b H)\/((Ite K a xs).go i H/\∃N:St->Hp->Prop,(∀d f,N d f->∃l,l<m/\W (i+1) l d f)/\∀x f,(Ite K a xs).yld i H x f->g x b f λc h=>j {D with nx:=N,ct:=N,bk:=D.nx} c h):=by
 show%[λi m b H=>m= ~~~xs-i/\i<= ~~~xs/\Pv i b H,%[~~~xs,by simp,Xc _|n]|?_];intro i m b H %[rfl,hi|p];let q:=o i b H hi p;by_cases lt:i< ~~~xs
 .show .inr %[%[q|lt],Pv _,λd f u=>%[~~~xs-(i+1),⋯,rfl,lt|u]|λv f y=>?_];let%[x,T,e,w,rfl|rfl]:=y;show r i x T b _ e p w
 .let e:i= ~~~xs:=by lia
  subst e;show .inl %[%[q|Zi _]|s b H p]
section
variable{X:Cx}{K:ZA}{pos:Pos}{a b:Ds}{ta tb:TE}
def bo:OpQ X (Ly .Add) (rI0 λi j=> .int (i+j)):=⟨BQ⟩
def eK:OpQ X (Ly .Mult) (rI BP λi j=> .int (i*j)):=⟨BR⟩
def bX(h:X.K=K)(c:nD b)(d:QE X a ta)(e:QE X b tb):QE X (.Subscript a b pos) (tOp (HN K) ta tb):=by subst h;show⟨B7 Fc d.h e.h c⟩
def AE(c:nD b)(d:QE X a ta)(e:QE X b tb):QE X (.Subscript a b pos) (tOp HQ ta tb):=⟨B7 HS d.h e.h c⟩
end
end _LL
namespace _CU
open PySem _LL PyProof.Rows
abbrev iw:lx:="abcdefghijklmnopqrstuvwxyz"
abbrev fH(c:kj):ri:=decide (c∈iw.cps.toList)
abbrev okc(c:kj):ri:=decide (c=46)||fH c
abbrev nl:lx:="\n"
def Kd:nl=⟨#[10]⟩:=rfl
def rK:fH c=iv↔97<=c/\c<=122:=by
 let e:iw.cps.toList=(q7 26).map (·+97):=!0
 unfold fH;rw[MN,e,N1]
 constructor
 .rintro⟨i,h,rfl⟩;let:=wh.mp h
  lia
 .rintro⟨a,b⟩;show%[c-97,wh.mpr ⋯|⋯]
def CH(h:okc c=iv):c≠10:=by
 intro e;subst e
 revert h
 decide +kernel
structure cH (rows:ZB):Prop where
 pos:1<= ~~~rows
 high: ~~~rows<=40
 wide:∃wd,1<=wd/\wd<=40/\∀r∈rows,r.cps.size=wd
 sign:∀r∈rows,r.cps.toList.all okc=iv
 fall:∀i r r',rows[i]?∣r->rows[i+1]?∣r'->∀(j c c':kj),r.cps[j]?∣c->r'.cps[j]?∣c'->c'=46->c=46
 some':∃r∈rows,∃c∈r.cps.toList,c≠46
def kL{x y:lx}(h:x.cps.toList=y.cps.toList):x=y:=by
 obtain⟨⟨l⟩⟩:=x
 simp_all
def eV(sep x y:lx)(r:ZB):(ry sep (x::y::r)).cps.toList=x.cps.toList++sep.cps.toList++(ry sep (y::r)).cps.toList:=by
 change((x.cps++sep.cps) ++(ry sep _).cps).toList=_;rw[Xb,Xb]
def CI [Lk f]:∀{a b x y:hH f},c∉a->c∉b->a++c::x=b++c::y->a=b/\x=y
 |[],[],_,_,_,_,h=>%[rfl|(Nn h).2]
 |[],b::bs,_,_,_,d,h=>ow (((Nn h).1)▸Zm) d
 | a::g,[],_,_,e,_,h=>ow (((Nn h).1)▸Zm) e
 | a::g,b::bs,x,y,e,d,h=>by
   let%[i|j]:=Nn h;let%[l|m]:=CI (λq=>e (Zk _ q)) (λq=>d (Zk _ q)) j;show%[by rw[i,l]|m]
def vz{c:kj}:∀{ps qs:ZB},ps≠[]->qs≠[]->(∀p∈ps,c∉p.cps.toList)->(∀q∈qs,c∉q.cps.toList)->(ry ⟨#[c]⟩ ps).cps.toList=(ry ⟨#[c]⟩ qs).cps.toList->ps=qs
 |[],_,h,_,_,_,_=>ow rfl h
 | _,[],_,h,_,_,_=>ow rfl h
 |[p],[q],_,_,_,_,e=>by rw[kL (show p.cps.toList=q.cps.toList from e)]
 |[p],q::f::qs,_,_,a,_,e=>by
  rw[eV]at e;show ow ?_ (a p Zm);rw[show p.cps.toList=(ry _ [p]).cps.toList from rfl,e];simp
 | p::g::ps,[q],_,_,_,b,e=>by
   rw[eV]at e;show ow ?_ (b q Zm);rw[show q.cps.toList=(ry _ [q]).cps.toList from rfl,<-e];simp
 | p::g::ps,q::f::qs,_,_,a,b,e=>by
   rw[eV,eV,Ze,Ze]at e;let%[i|j]:=CI (a p Zm) (b q Zm) e;rw[kL i,vz ∅ ∅ (λx d=>a x (Zk _ d)) (λx d=>b x (Zk _ d)) j]
def xK(a:rows≠[])(h:∀r∈rows,10∉r.cps.toList):Txt.split (ry nl rows) nl=rows:=by
 let e:=StrLaws.join_split (ry nl rows) nl;rw[Kd]at e ⊢;show vz ?_ a (StrLaws.split_free _ 10) h (by rw[e]);intro q;let:=split_pos (ry ⟨#[10]⟩ rows) ⟨#[10]⟩
 simp_all
def cH.nonl(h:cH rows):∀r∈rows,10∉r.cps.toList:=λr a b=>by
 let:=Mu.mp (h.sign r a) 10 b;show CH this rfl
def cH.split(h:cH rows):Txt.split (ry nl rows) nl=rows:=
 xK (λe=>by let:=h.pos;simp_all) h.nonl
def CJ:∀{xs:hH b},(∀x∈xs,f x<=B)->(xs.map f).sum<= ~~~xs*B
 |[],_=>by simp
 | x::r,h=>by
   let c:=CJ λy a=>h y (Zk _ a)
   let d:=h x Zm;rw[Yp,UT,Zr,kj.succ_mul]
   lia
def cH.sum(h:cH rows):(rows.map (·.length)).sum<=1600:=by
 let%[c,_,d|a]:=h.wide;let:=CJ (f:=λr:lx=> ~~~r) λr b=>by let:=a r b;change r.cps.size<=40;lia
 let:=h.high
 grind
def cH.text(h:cH rows): ~~~(ry nl rows)<=2000:=by
 let a:=Rr nl rows;let b:=h.sum;let c:=h.high;let d:nl.length=1:=rfl
 lia
abbrev sgn(c:kj):lx:=⟨#[c]⟩
def j7{cs:hH kj}(h:∀c∈cs,fH c=iv): ~~~(aV (cs.map sgn))<=26:=by
 let a:∀x∈aV _,x∈iw.cps.toList.map sgn:=λx b=>by
  let%[c,d|e]:=Xm (aX.mp b);show Xn %[c,Zo (h c d)|e]
 let:=hH.Nodup.length_le_of_subset (c8 _) a;rw[Z6]at this;let e:iw.cps.toList.length=26:=!0
 lia
abbrev cL(rows:ZB):hH kj:=(ry (!"") rows).cps.toList.filter (λc=>decide (c≠46))
def vA:∀(rows:ZB),(ry (!"") rows).cps.toList=(rows.map (·.cps.toList)).flatten
 |[]=>rfl
 |[x]=>by simp[ry]
 | x::y::r=>by
   let e:(!"").cps.toList=[]:=rfl;rw[eV,vA _,e,Zx];simp
def jz(h:∀r∈rows,r.cps.toList.all okc=iv):∀c∈cL rows,fH c=iv:=λc a=>by
 unfold cL at a;rw[on,vA]at a;let%[b|d]:=a;let%[l,e|f]:=Qr.mp b;let%[r,g|rfl]:=Xm e;let:=Mu.mp (h r g) c f;unfold okc at this;rw[Sb]at this;rcases this with q|q
 .show ow (Zo q) (Zo d)
 .show q
def cH.signs_ne(h:cH rows):cL rows≠[]:=by
 let%[r,b,c,d|a]:=h.some';let:c∈cL rows:=by
  unfold cL;rw[on,vA];show%[Qr.mpr %[_,Xn %[r,b|ρ]|d]|Zf a]
 grind
abbrev tY(z:lx):ri:=(decide (1<=(~~~z:pp))&&decide ((~~~z:pp)<=40))&&z.cps.toList.all okc
abbrev fJ(row a:lx):ri:=decide (~~~row= ~~~a)&&(L8 a.cps.toList row.cps.toList).all λp=>!decide (p.2=46)||decide (p.1=46)
def cH.row(h:cH rows)(a:r∈rows):tY r=iv:=by
 let%[b,d,f|c]:=h.wide;let e: ~~~r=b:=c r a;unfold tY;rw[h.sign r a,e,Zf ⋯,Zf ⋯];rfl
def cH.beneath(h:cH rows)(c:rows[i]?∣r)(d:rows[i+1]?∣a):fJ a r=iv:=by
 let%[e,n,o|f]:=h.wide;let g: ~~~r=e:=f r (Z8 c);let l: ~~~a=e:=f a (Z8 d);unfold fJ;rw[Zf (l.trans g.symm),RJ,Mu];intro p m;let%[j|b]:=Xd m;rw[Oe]at b;let:=h.fall i r a c d j p.1 p.2 (by simpa using b.1) (by simpa using b.2)
 grind
def xM(cs:hH kj):(ry (!"") (cs.map sgn))=⟨cs.toArray⟩:=by
 show kL ?_;rw[vA,Yq];change((cs.map (λc=>[c])).flatten)=cs
 induction cs with
 | nil=>rfl
 | cons c r a=>simp_all
def yY:∀cs:hH kj,((cs.map sgn).map (λx=> ~~~x)).sum= ~~~cs
 |[]=>rfl
 | c::r=>by
   rw[Yp,Yp,UT,yY r,Zr];change 1+ ~~~r= ~~~r+1
   lia
end _CU
namespace _CU
open PySem _LL
end _CU
namespace _LL
open PySem PySem.Spec PyProof.Rows
abbrev Up(B:yu)(l:hH Env)(e:kG)(cls:ku)(b:ZI)(d:lX ku)(h:yu):Prop:=
 B.StaysIn h/\B.get? e=hX/\h.FunFrames B l/\∃a vs,h.get? e∣a/\a.cls=cls/\a.dict=b/\a.data= .fields vs/\1<vs.size/\
  match d with
  | none=>vs[1]?∣.none
  | some f=>∃T c ts,vs[1]?∣.ref T/\B.get? T=hX/\T≠e/\h.get? T∣c/\c.data= .fields ts/\ts[3]?∣f
def rL(o:MU)(f:ZJ->ZJ):(o.mapFields f).dict=o.dict:=by
 let%[c,d,a|b]:=o;cases a<;> rfl
section
variable{M:Model}{A:vi}{E:ZD}{s:mu}{B:yu}{env:Env}{outer:hH Env}{L e:kG}{cls:ku}{dct:ZI}{Q:Q3->mu->Prop}
def vB(y:A.frames∣(env::outer))(hf:env.frame∣L)(st:B.StaysIn s.heap)(C:B.get? e=hX)(p:s.heap.FunFrames B (env::outer))
 (he:s.heap.get? e∣u) (N:u.data= .fields vs) (d:1<vs.size)
 (k:∀h',Up B (env::outer) e u.cls u.dict (hY (Lj L)) h'->s.heap.UpToSlots h'->Q () (s>>>h')):
 sh M A (do let a<-frameOf env;let pl<-entryPlaceOf L i;let b<-EntryCells.newEntry O a .none (Lj L) .none pl;Oz (.ref e) 1 b) Q E s:=by
 let G:e∉(env::outer).filterMap _:=λH=>by
  let%[_,o,ho|ab]:=p.mem H
  simp_all
 show Z2 (wpAny_frameOf_fun y p hf λc v=>Z2 (wpAny_entryPlaceOf λpl I=>Z2 (Lg ?_ (I.sizeOk5 _ _ _ _ _))))
 generalize j:({cls:= .type _,dict:=hX,data:= .fields _}:MU)=h
 let T:=(v.2.1 e G).trans he;let U:(c.push h).get? e∣u:=Z7 _ T;show Ou U N d ?_;let ne:=Zs (Zu T);let l:=M7 N (·.setIfInBounds 1 (m4 c.objs.size));let f:∀b o,b≠e->c.get? b∣o->((c.push h).update e (NR (·.setIfInBounds 1 (m4 c.objs.size)))).get? b∣o:=λb o n q=>by
  rw[J5 _ _ (J0 n)];show Z7 _ q
 let m:B.StaysIn c:=λb o q=>(v.2.1 b λH=>by rw[(p.mem H).1]at q;cases q).trans (st b o q)
 let nb:∀b o,s.heap.get? b∣o->(∀ws,o.data≠ .fields ws)->b≠e:=λb o q w z=>by
  simp_all
 let t3:((c.push h).update e (NR (·.setIfInBounds 1 (m4 c.objs.size)))).get? c.objs.size∣h:=by
  rw[J5 _ _ ne];show Zj c (by subst j;rfl)
 let g:∃ts,h.data= .fields ts/\ts[3]?∣Lj L:=by
  subst j;show%[_,ρ|by simp]
 let%[ts,g|J]:=g;show k _ %[λb o q=>f b o (λz=>by lia) (m b o q),C,p.of_keeps λb o q w=>?_,_,_,(K6 _ U (NH l)),Ql _ _,rL _ _,l,↑d,c.objs.size,h,ts,?_,m.fresh,J0 ne,t3,g|J] λb o q w=>?_
 .let%[Y|r]:=v.2.2 b o q;show%[_,f b _ (nb b o q w) r|ρ]
 .simp[d]
 .let%[Y|r]:=v.2.2 b o q;show%[Y|f b _ (nb b o q w) r]
def yZ(st:B.StaysIn s.heap)(r:B.get? e=hX)(y:s.heap.FunFrames B l)
 (C:s.heap.get? e∣c) (G:c.data= .fields vs) (u:1<vs.size) (H:vs[1]?∣.ref T) (v:B.get? T=hX) (d:T≠e) (w:s.heap.get? T∣I) (h:I.data= .fields ts) (J:ts[3]?∣f)
 (k:∀h',Up B l e c.cls c.dict (hY g) h'->h'.get? e∣c->s.heap.UpToSlots h'->Q () (s>>>h')):sh M A (Oz (.ref T) 3 g) Q E s:=by
 let i:=(vk.mp J).1;show Ou w h i ?_;let a:∀b,b≠T->(s.heap.update T (NR (·.setIfInBounds 3 g))).get? b=s.heap.get? b:=λb n=>J5 _ _ (J0 n)
 let nb:∀b o,s.heap.get? b∣o->(∀ws,o.data≠ .fields ws)->b≠T:=λb o q p z=>by
  simp_all
 let j:=M7 h (·.setIfInBounds 3 g);let m:=(a e (J0 d)).trans C;show k _ %[λb o q=>(a b λz=>by lia).trans (st b o q),r,y.of_keeps λb o q p=>%[o,(a b (nb b o q p)).trans q|rfl],c,vs,m,rfl,rfl,G,u,T,_,_,H,v,d,
  K6 _ w (NH j),j|by simp[i]] m λb o q p=>%[o.slots|(a b (nb b o q p)).trans q]
def y4(i:v=hX\/v∣.none)(b:A.frames∣(env::outer))(j:env.frame∣L)(u:Up B (env::outer) e cls dct v s.heap)
 (k:∀h',Up B (env::outer) e cls dct (hY (Lj L)) h'->s.heap.UpToSlots h'->Q () (s>>>h')):sh M A (noteFrame (.ref e) env) Q E s:=by
 let%[st,c,w,N,vs,h,rfl,rfl,d,a|r]:=u;unfold noteFrame;simp only[j];rcases i with rfl|rfl
 .show Z2 (LW h d r (vB b j st c w h d a k))
 .let%[T,O,ts,y,l,m,z,f|C]:=r;show Z2 (LW h d y (Z2 (LW z f C (Z2 (yZ st c w h d a y l m z f C λh' G n H=>?_)))));let%[o,g,p|_]:=G;show vB b j o g p n d a λI J q=>k I J (H.trans q)
def tZ(u:Up B l e cls dct (hY f) s.heap)(k:∀h',Up B l e cls dct (hY .none) h'->s.heap.UpToSlots h'->Q () (s>>>h')):
 sh M A (setFlight (.ref e) hX) Q E s:=by
 let%[st,a,m,r,vs,h,rfl,rfl,i,b,T,v,ts,j,c,d,n,g|o]:=u;show Z2 (LW h i j (yZ st a m h i b j c d n g o λh' p _ q=>k h' p q))
def vC(a:g=hX\/g∣.none)(b:A.frames∣(env::outer))(h:env.frame∣L)(u:Up B (env::outer) e cls dct g s.heap)
 (k:∀h',Up B outer e cls dct (hY .none) h'->s.heap.UpToSlots h'->Q () (s>>>h')):sh M A (leaving env (.ref e)) Q E s:=by
 show Z2 (y4 a b h u λn i c=>tZ i λj l d=>?_);let%[st,f,%[_,_|m]|r]:=l;show k j %[st,f,m|r] (c.trans d)
end
section
variable{P:nX}{w:v0}{H:Hp}{h:yu}{a:kG}{o:HO}
def bQ.there(x:bQ P w H h a o):∃b,h.get? a∣b:=by
 cases o with
 | lst xs=>have%[_,_,_,_|e]:=x;show%[_|e]
 | tup xs=>have%[_,_,_,b,e|_]:=x;show%[_|e]
 | dK c=>have%[_,_,_,_,o,_,_,e|_]:=x;show%[_|e]
 | dT c=>have%[_,_,_,_,o,_,_,e|_]:=x;show%[_|e]
 | set S n=>have%[o,_,_,_,e|_]:=x;show%[_|e]
 | ins C d fs=>have%[_,_,_,e|_]:=x;show%[_|e]
 | own y=>have%[_|e]:=x;show%[_|e]
 | xd fs=>have%[_,%[_,_,_,e|_]|_]:=x;show%[_|e]
 | rng lo hi=>have%[_,_,_|e]:=x;show%[_|e]
 | frz b u=>have%[e|_]:=x;show%[_|e]
 | tbl ps=>show%[_|(x)]
 | met f y=>show%[_|(x)]
 | ext g=>have%[_,%[_|e]|_]:=x;show%[_|e]
end
structure Fl (P:nX) (w:v0) (l:hH Env) (H:Hp) (s:mu) (ea:kG) (B:yu) (cls:ku) (dx:ZI) (fl:lX ku) (H':Hp) (s':mu):Prop where
 os:s'.os=s.os
 bare:OU s'.gens
 un:Un (frs l) [] H H' s.heap s'.heap
 hok:HOk P w H' s'.heap
 up:Up B l ea cls dx fl s'.heap
 free:H' ea=hX
 new:s.heap.get? ea=hX
 inB:∀b ob,s'.heap.get? b∣ob->((∃o,s.heap.get? b∣o)\/∃o,H' b∣o)->b∉frs l->B.get? b∣ob
 frf:∀b∈frs l,H' b=hX
abbrev CXO(P:nX)(w:v0):CXT:=λl H s E e s'=>∃a B cls b c,e= .ref a/\Fl P w l H s a B cls b (hY .none) c s'/\E cls b c
section
variable{P:nX}{w:v0}{l:hH Env}{H H':Hp}{s s':mu}{ea:kG}{B h':yu}{cls:ku}{dx:ZI}{fl fl':lX ku}
def Fl.fly(F:Fl P w l H s ea B cls dx fl H' s')(st:B.StaysIn h')(y:s'.heap.UpToSlots h'):Un (frs l) [] H H' s.heap h'/\HOk P w H' h':=by
 let fr:∀b g,s'.heap.get? b∣g->b∈frs l->∃p,h'.get? b∣_:=λb g q a=>by
  let%[_,d,r|z]:=F.up.2.2.1.mem a;rw[q]at r;cases r;show y b g q z
 show%[%[λb o q n a f=>?_,λb o q n a f=>?_,F.un.free,λb o q f=>?_,F.un.tups,F.un.frzs|F.un.tbls]|λb o q=>?_]
 .show st b o (F.inB b o (F.un.keep b o q n a f) (.inl %[o|q]) a)
 .let%[p|e]:=F.un.slot b o q n a f;let%[h|i]:=fr b _ e a;show%[h|i]
 .let%[d|e]:=F.un.there b o q f;by_cases a:b∈frs l
  .let%[p|i]:=fr b d e a;show%[_|i]
  .show%[d|st b d (F.inB b d e (.inl %[o|q]) a)]
 .show(F.hok b o q).stay (λc u j e=>?_) (λ_ e=>e) λ_ _ e=>e
  let A:∃v,H' c∣v:=by
   rcases j with rfl|j
   .show%[_|q]
   .show%[_|j]
  let%[v|m]:=A;show st c u (F.inB c u e (.inr %[v|m]) λa=>by rw[F.frf c a]at m;cases m)
end
section
variable{P:nX}{w:v0}{K:ZA}{mg:ZC}{base:yu}{N:ZB}{qual:lx}{scope:PY}{f:kG}{cd:ku}{A:vi}{outer:hH Env}{s₀:mu}{H₀:Hp}{E:XK}
def CL(i:v=hX\/v∣.none)
 (I:Qd (fo (CXO P w) P w K mg base N qual scope f cd A outer s₀ H₀ E) ij L H s) (F:Fl P w (LQ qual scope ⇑s₀ f cd::outer) H s d B cls y v g s') (q:E cls y g):
 (fo (CXO P w) P w K mg base N qual scope f cd A outer s₀ H₀ E).xe (.ref d) s':=by
 show vC i I.ok.frames rfl F.up λh' u M=>?_
 let%[un|j]:=F.fly u.1 M;let J:Qd _ ij L g (s'>>>h'):=I.call' F.os un j F.bare λb z=>ow z ∅
 show%[d,B,cls,y,g,ρ,%[J.os,J.bare,J.base,J.hok,u,F.free,?_,λb ob e h O=>?_|λb h=>F.frf b (LG.mpr ?_)]|q]
 .cases z:s₀.heap.get? d with
  | none=>rfl
  | some o=>
    let%[o'|e]:=I.base.there d o z (by simp[fo]);rw[F.new]at e;cases e
 .let Q:b∉frs (LQ qual scope ⇑s₀ f cd::outer):=λT=>by
   rcases Yu.mp (T)with z|z
   .rcases h with⟨o,c⟩|⟨o,c⟩
    .show ow (Zu c) (z▸Xh _)
    .let:=J.free;rw[show(fo _ P w K mg base N qual scope f cd A outer s₀ H₀ E).env.locals=b from z.symm,c]at this;cases this
   .show O z
  let l:∃a,s'.heap.get? b∣a/\((∃o,s.heap.get? b∣o)\/∃o,g b∣o):=by
   rcases h with⟨o,c⟩|⟨o,c⟩
   .let%[C|G]:=I.base.there b o c (by simp[fo]);let%[n|p]:=F.un.there b C G ∅;show%[n,p|.inl %[C|G]]
   .let%[n|p]:=(F.hok b o c).there;show%[n,p|.inr %[o|c]]
  let%[a,U|r]:=l;let Y:=F.inB b a U r Q;let:=u.1 b a Y
  grind
 .let%[en,m|q]:=LG.mp h;show%[en,Yu.mpr (.inr m)|q]
def y6(a:∀c d H,b c d H->E c d H):ik (CXO P w) (fo (CXO P w) P w K mg base N qual scope f cd A outer s₀ H₀ E) b:=by
 intro ij g H s e s' I %[h,B,cls,i,j,rfl,F|q];show CL (.inr rfl) I F (a _ _ _ q)
end
noncomputable abbrev Iu(vs:ZF):MU:={cls:= .type "tuple",data:= .seq vs.toArray}
noncomputable abbrev Ke(C t:kG):MU:={cls:= .ref C,data:= .fields #[.ref t,.none,.none,.none,.bool jg,.none]}
noncomputable abbrev xN(h:yu)(C:kG)(vs:ZF):yu:=(h.push (Iu vs)).push (Ke C h.objs.size)
def vD(h:yu)(C:kG)(vs:ZF):(xN h C vs).get? (h.objs.size+1)∣Ke C h.objs.size:=by
 heap_get
def gP(b:kG)(o:MU)(e:h.get? b∣o):(xN h C vs).get? b∣o:=
 Z7 _ (Z7 _ e)
section
variable{prog:nX}{w:v0}{A:vi}{E:ZD}{h:yu}{g:oT P7}{d:Drawn}{t:kj}{os:OsState}
variable{nm q:lx}{C N:kG}{bs bm bmB:ZF}{hdct:ri}{sn:ZB}{sub:ZF}{ab:ri}{col:lX ri}{dd:ZI}{k0 k1 k2 k3 k5:lX ku}{B newId initId:LF}
def AF(F:ExcBaseFacts B newId initId bmB)(T:OwnTail h bmB bm){rest:ZF}
 (b:h.get? C∣T7 nm q C N bs bm hdct sn sub ab col dd k0 k1 k2 k3 k5 newId) (l:h.Ns N i) (hi:i "__init__"=hY (.ref j)) (c:h.get? j∣m) (e:m.cls= .type "function") (a:rest.length<=mv)
 (n:↥A (call (.ref j) (.ref (h.objs.size+1)::rest)) (λr s'=>r= .none/\Q (.done (.ret (.ref (h.objs.size+1)))) s') E %[xN h C rest,g,d,t|os]):
 ↥A (o0.«type.__call__» %[.ref C::rest|[]]) Q E %[h,g,d,t|os]:=by
 repeat (first|with_reducible show NJ b ?_|with_reducible show wpAny_madeBy_exc b ?_|wp_step)
 show codeAny_call_builtin_code (Pw _ F.quiet) (wpAny_check_new_subT F T b ?_);show codeAny_exc_new_subT F T b ?_ a;let c1:=gP (C:=C) (vs:=rest) _ _ b;let o:=gP (C:=C) (vs:=rest) _ _ c;let n1:(xN h C rest).Ns N i:=l.keeps gP;let p:=vD h C rest;let f:(m4 C::bm).contains (.ref C)=iv:=by simp
 unfold Qy
 repeat (first|with_reducible show NJ p ?_|(with_reducible show Uu c1 ?_;rw[f])|wp_step)
 change sh _ _ (Ow (.ref C) _) _ _ _;show wpAny_typeLookup_tail c1 n1 (T.keeps (h':=xN h C rest) gP) F.mroIs F.init.lookup ?_;rw[hi];show vu (Z2 ?_);unfold bindSpecial;show Z2 (Pf (T:="function") %[_,o|e] ?_);rw[md (!1)];show Z3 (Z2 (Lb n (λr s' s=>?_) λ_ _ x=>x));let%[rfl|u]:=s
 wp_walk
 show u
def AG(F:ExcBaseFacts B newId initId bmB)(T:OwnTail h bmB bm){rest:ZF}
 (b:h.get? C∣T7 nm q C N bs bm hdct sn sub ab col dd k0 k1 k2 k3 k5 newId) (i:h.Ns N j) (hi:j "__init__"=hY (.ref f)) (c:h.get? f∣l) (e:l.cls= .type "function") (a:rest.length<=mv)
 (m:sh (Lx prog w) (A.under (.builtin "type.__call__" %[.ref C::rest|[]])) (call (.ref f) (.ref (h.objs.size+1)::rest)) (λr s'=>r= .none/\Q (.ref (h.objs.size+1)) s') E %[xN h C rest,g,d,t|os]):
 ↥A (call (.ref C) rest) Q E %[h,g,d,t|os]:=by
 let n:=tc_lookup;let o:=tc_bind (.ref C);let p:(%[h,g,d,t|os]:mu).TypeIs (.ref C) "type":=%[_,b|rfl]
 show MJ (RO ?_);change sh _ _ (callAny (.ref C) _) _ _ _
 repeat (any_goals (first|assumption|with_reducible show NJ b ?_|wp_step))
 show%[ρ|?_];show codeAny_call_builtin_at (Pw _ (!0)) entry_typeCall (wpAny_check_type_call_sub b (AF F T b i hi c e a m))
end
noncomputable abbrev veB:ZF:=[.type "ValueError",.type "Exception",.type "BaseException",.type "object"]
abbrev bp:ZF->ri
 | .ref c::r=>bp r
 | l=>l==veB
def jP(self:ku):∀{l:ZF},bp l=iv->refuseLoop self "__setattr__" l=pure ()
 | .ref c::r,e=>by rw[refuseLoop_ref];show jP self e
 | .type n::r,e=>by
   let a:(Lu n::r)=veB:=by simpa [bp]using e
   show a▸PySem.F.store_ValueError.passes self
 |[],e=>by simp[bp]at e
 | .none::r,e=>by simp[bp]at e
 | .bool _::r,e=>by simp[bp]at e
 | .int _ _::r,e=>by simp[bp]at e
 | .str _ _::r,e=>by simp[bp]at e
 | .builtin _::r,e=>by simp[bp]at e
 | .float _ _::r,e=>by simp[bp]at e
 | .bytes _ _::r,e=>by simp[bp]at e
 | .ellipsis::r,e=>by simp[bp]at e
 | .notImplemented::r,e=>by simp[bp]at e
def oq(n:LF)(a:veB.contains (.type n)=iv):∀{l:ZF},bp l=iv->l.contains (.type n)=iv
 | .ref c::r,e=>by rw[S5,oq n a (l:=r) e,Qh]
 | .type m::r,e=>by
   let b:(Lu m::r)=veB:=by simpa [bp]using e
   show b▸a
 |[],e=>by simp[bp]at e
 | .none::r,e=>by simp[bp]at e
 | .bool _::r,e=>by simp[bp]at e
 | .int _ _::r,e=>by simp[bp]at e
 | .str _ _::r,e=>by simp[bp]at e
 | .builtin _::r,e=>by simp[bp]at e
 | .float _ _::r,e=>by simp[bp]at e
 | .bytes _ _::r,e=>by simp[bp]at e
 | .ellipsis::r,e=>by simp[bp]at e
 | .notImplemented::r,e=>by simp[bp]at e
abbrev t4(K:ZA)(C:kG):ri:=(clsIn K C).any λa=>bp a.mro
section
#where
variable{K:ZA}{x C:kG}{name:lx}{v:ku}{ox:MU}{od:lX MU}
def Iv{R:Rs->mu->Prop}(X:K.In s.heap)(I:PySem.W.InstAt s.heap x ox C od)(j:t4 K C=iv)(l:Lq K (.ref C) name∣hX)
 (h:↥A.in1 (TU (.ref x) (.ref C) (.str name tk) name v jg)
  (λc s'=>match c with| .done f=>R (.ok f) s'| .again g=>g.quiet=iv/\NQ (Lx prog w) A g R s') (λe s'=>R (.error e) s') s):
 NQ (Lx prog w) A (.call (.builtin "object.__setattr__") %[[.ref x,.str name tk,v]|[]]) R s:=by
 let a:=PySem.F.store_object;let%[d,i|b]:=O9 j;let ne:d.mro.isEmpty=jg:=by cases q:d.mro with|nil=>rw[q]at b;simp[bp]at b|cons _ _=>rfl
 show Mt a.slot.plain a.entry (@UP _ _ _ s _ _ _ _ _ [] _ a.kind a.split (I.type.andThen (PySem.W.looks_mroIn X (by unfold mroIn;rw[i,Qe,kw (by rw[ne];decide),(oq _ (!1) b)]))) (a.args _ _ v) ?_);let m:P5 (Lx prog w) s.heap (mroOf (.ref C)) d.mro:=(T6 X i).andThen .now;rw[PySem.W.osa_eq,refuse_eq];show Z2 (Z2 (I.type.here (Z2 (m.here ?_))));rw[jP _ b];show Z3 (Z2 (I.type.here (Z2 ((QZ X l).here (Z2 (Z3 h))))))
def FJ(X:K.In s.heap)(g:s.heap.get? x∣ox)(i:ox.cls= .ref C)(j:ox.data= .fields vs)(l:ox.dict=hX)
 (z:Lq K (.ref C) "__setattr__"=hY (hY (.builtin "object.__setattr__"))) (B:t4 K C=iv) (G:Lq K (.ref C) name∣hX) (H:NV K C=iv)
 (h:∀h',h'.get? x=hY {ox with dict:=hY ⇑s}->h'.Ns1 ⇑s (λy=>if y=name then hY v else hX)->(∀b o,b≠x->s.heap.get? b∣o->h'.get? b∣o)->Q () {s with heap:=h',toks:=s.toks+2}):
 ↥A (setAttr (.ref x) name v) Q E s:=by
 let%[oc,I,L|M]:=ox;subst i j l;let J:PySem.W.InstAt s.heap x _ C hX:=%[g,rfl,rfl|trivial]
 show set_plain X J z (Iv X J B G ?_);let%[cd,N|m]:=O9 H;show Z2 (Z3 (Z2 (Z2 (Ov g (Z2 (OM (T6 X N) ?_))))));rw[m];let a:(s.heap.push {cls:= .type "dict",data:= .dict #[]}).get? x∣_:=Z7 _ g;let c:=Zs (Zu g);show Z2 (wpAny_alloc' (Z2 (wpAny_update' a (Z3 ?_))));let n:((s.heap.push {cls:= .type "dict",data:= .dict #[]}).update x λo=>{o with dict:=hY ⇑s}).get? ⇑s∣_:=
  (J5 _ _ c).trans (yu.get?_push_at rfl rfl)
 let p:((s.heap.push _).update x _).Ns ⇑s _:=
  %[_,#[],_,n,rfl,λe O=>ow O ∅|λ_=>rfl]
 show Z2 (Z3 (Z2 (wpAny_nsSet1 (Sv p) λh' d f=>?_)));let%[oD,T,U,q,r|u]:=d.count (PySem.Within.cons name v PySem.Within.nil);show Z2 (Vq q (r▸Vz (n7 u ∅)) (Z3 (h h' ?_ d λb o Y e=>?_)))
 .show(f.2 x c).trans (K6 _ a rfl)
 .show(f.2 b (Zs (Zu e))).trans ((J5 _ _ (J0 Y)).trans (Z7 _ e))
end
abbrev ExO(a C:kG)(d:ZI):HO:= .ext λh=>∃o vs,h.get? a∣o/\o.cls= .ref C/\o.dict=d/\o.data= .fields vs/\1<vs.size/\vs[1]?∣.none
def ExO.ok{P:nX}(e:h.get? a∣o)(c:o.cls= .ref C)(f:o.dict=d)(g:o.data= .fields vs)(i:1<vs.size)(b:vs[1]?∣.none):
 bQ P w H h a (ExO a C d):=
 %[%[o,vs,e,c,f,g,i|b],%[o|e]|λb j ⟨o,vs,e,r⟩ k=>%[o,vs,k o e|r]]
def CM(h:H a∣o):Qb H a o=H:=by
 funext b;unfold Qb;simp_all
abbrev exK(K:ZA)(C f:kG):ri:=(K.lookup C).any λo=>o.cls== .type "type"&&(match o.data with
 | .cls a=>a.mro.head? ==hY (.ref C)&&o.slots.size==6&&o.slots[4]? ==hY (hY (.builtin "ValueError.__new__"))&&!a.hasDel&&PySem.W.tailIn K veB a.mro.tail&&PySem.W.nsOkIn K a.ns&&Qj K a.ns "__init__"==hY (hY (.ref f))
 | _=>jg)
set_option tactic.hygienic true in
def xO{K:ZA}{h:yu}{mg:ZC}(X:K.In h)(G:h.Ns N mg)(e:Qj K N n∣hY v):mg n∣v:=by
 let%[o,es,j,a,b,_|f]:=G;unfold Qj at e
 split at e
 .rename_i c d g l m q
  let:=X _ _ q;rw[a]at this;cases this;cases b
  split at e
  .rename_i p i
   cases e;rw[<-f];unfold nsFind findBy;rw[<-SR,i];rfl
  simp_all
 .cases e
def xP{K:ZA}(X:K.In h)(q:exK K C f=iv):∃nm i N bs c a j sub l b m n k1 k2 o p r,
 h.get? C∣T7 nm i C N bs c a j sub l b m n k1 k2 o p "ValueError.__new__"/\h.Ns N r/\r "__init__"=hY (.ref f)/\OwnTail h veB c:=by
 let%[%[E,m,data|s],v|q]:=O9 q;dsimp only at q;rw[Zv,Mv]at q;let%[rfl|q]:=q;cases data with
 | cls w=>
   let%[nm,bs,d,H,i,I,j,sub,l,b|y]:=w;simp only[Zv,Mv,Tx]at q;let%[%[%[%[%[%[u|z]|A]|rfl]|B]|e]|g]:=q;cases d with
   | nil=>cases u
   | cons x c=>
     cases u;rcases s with _|⟨n,_|⟨k1,_|⟨k2,_|⟨o,_|⟨J,_|⟨p,_|⟨L,s⟩⟩⟩⟩⟩⟩⟩<;> first|cases z|skip
     cases A;let G:=PySem.Heap.Ns.of_isNs (PySem.W.isNs_of_in X e);show%[_,_,_,_,_,_,_,_,_,_,_,_,_,_,_,_,_,X _ _ v,G,xO X G g|PySem.W.tail_of_in X B]
 | _=>cases q
section
variable{X:Cx}{C f:kG}
set_option tactic.hygienic true in
def xQ(A:exK X.K C f=iv):ci X (.builtin "ValueError.__init__") (λxs H Q=>∃a d ys,xs=V.ref a::ys/\ ~~~ys<=9/\H a∣ExO a C d/\Q .non H):=by
 intro ij s B H xs us Q I r h;let%[a,d,ys,rfl,hy,g|q]:=h;cases r with
 | cons E G=>
   rename_i u ws
   obtain rfl:u=m4 a:=E;let%[%[o,vs,e,v,L,i,M|O]|_]:=I.hok a _ g;let%[nm,qn,N,bs,bm,w,sn,sub,ab,U,dd,k0,k1,k2,k3,k5,mN,Y,hN,hi|T]:=xP I.kIn A;let F:=PySem.F.excBase_ValueError;let j: ~~~ws<=mv:=by rw[<-G.length,Le];lia
   show MJ (Mt F.init.plain F.initEntry (wpAny_check_init_subT F T Y e v ?_));let l:∃m,vs[0]?∣m:=%[vs[0]'⋯|J6 ⋯]
   let%[m|l]:=l;let p:(s.heap.push (Iu ws)).get? a∣o:=Z7 _ e;let c:=M7 i (·.setIfInBounds 0 (m4 ⇑s));let y:=K6 (NR (·.setIfInBounds 0 (m4 ⇑s))) p (NH c);let J:Qd X ij B H (s>>>((s.heap.push (Iu ws)).update a (NR (·.setIfInBounds 0 (m4 ⇑s))))):=by
    let:=I.write (x:=a) (e:=a) (o:=ExO a C d) (t':=s.toks) (g▸Li) (.inl rfl)
     (λb u n z=>by rw[J5 _ _ (J0 n)];show Z7 _ z) %[_|y]
     (ExO.ok y ((Ql _ _).trans v) ((rL _ _).trans L) c ↑M (by rw[oT.getElem?_setIfInBounds_ne ∅];show O))
    rw[CM g]at this;show this
   show Z2 (Py (Z2 (Z2 (LW p i l (Z2 (Ou p i ⋯ ?_))))) j);cases m with
   | ref b=>show MY (Z3 %[.non,H,J,rfl|q])
   | _=>show Z3 (Z3 %[.non,H,J,rfl|q])
end
structure CO (K:ZA) (D:kG):Prop where
 ga:Rn K (.ref D) "__getattribute__"=hY (hY (.builtin "type.__getattribute__"))
 rd:readsIn K D (.type "type")=iv
 at_:findCls K (.ref D) (.type "type") "__init__"=hY (.val (.builtin "ValueError.__init__"))
structure Iw (K:ZA) (C:kG) (f:lx):Prop where
 sa:Lq K (.ref C) "__setattr__"=hY (hY (.builtin "object.__setattr__"))
 ov:t4 K C=iv
 no:Lq K (.ref C) f∣hX
 hd:NV K C=iv
section
variable{X:Cx}{C D f:kG}{x nm:lx}{p pos pos' apos:Pos}{e o value:Ds}{es:hH Ds}{t:TA}{ta tv:TE}{r:hH V->Hp->VK->Prop}
def CP(g:Gl X x)(i:X.mg x∣.ref D)(B:CO X.K D)(j:ci X (.builtin "ValueError.__init__") r)(l:PA X (e::es) t)(a:(x==("__debug__":lx))=jg)
 (m:vj (e::es) X.env=(jg,LB e X.env)::vj es X.env) (b:(Mm pos (vj es X.env)).any (·.1)=jg)
 (n:LB (.Call (.Attribute (.Name x p) "__init__" apos) (e::es) [] pos) X.env=(do
  let c<-LB (.Name x p) X.env
  Of apos.atName
  let(f,first)<-Pk [c] (O7 c "__init__" pl)
  Si pos f first (Mm pos (vj (e::es) X.env)) (N8 pos (MG [] X.env)))):
 PE X (.Call (.Attribute (.Name x p) "__init__" apos) (e::es) [] pos) (tCB r t):=by
 intro ij s d H Q I h;show PySem.W.methodCall_KW (ig I g i (PySem.W.method_cls I.kIn B.ga (PySem.W.cls_value I.kIn B.rd B.at_ (!1) (Pc (thP (l pos ij _ d H _ (I.tok _) h) λus q vs u v w y=>j ij q d u vs us Q v w y) m b))) a) n
abbrev GJ(K:ZA)(C:kG)(ta tv:TE)(f:lx):TS:=λD b H=>tv b H λy g=>ta b g λx c=>∃a,x= .ref a/\c a∣ExO a C hX/\
 ∀d,c d=hX->d≠a->D.nx b (Qb (Qb c a (ExO a C (hY d))) d (.xd [(f,y)]))
def FK(c:Iw X.K C nm)(E:PE X o ta)(G:PE X value tv)(J:NA value (hY (.Attribute o nm pos')) pos.line X.env=pure jg):PS X (.Assign [.Attribute o nm pos'] value pos) (GJ X.K C ta tv nm):=by
 intro ij s j H D I h;show Re (thP (G ij s j H _ I h) λu L y M N O q=>thP (E ij L j M _ N q) λQ l x H2 d T ⟨a,ex,m,U⟩=>?_) J;subst ex;obtain rfl:Q=m4 a:=T;let%[%[ob,vs,e,v,Y,w,hz|h1]|_]:=d.hok a _ m;let i:=Yx (Zu e);let A:=d.hok.fresh (Zi _);show FJ d.kIn e v w Y c.sa c.ov c.no c.hd λh' B n' k=>%[j,_,?_|U ⇑l A i]
 show Qd.stood2 d (d.write (t':=l.toks+2) (m▸Li) (.inl rfl) (λb u n z=>k b u n z) %[_|B] (ExO.ok B v rfl w hz h1)) ((ao i)▸A) (Zi _) %[_,n'|λg=>?_];by_cases z:g=nm
 .rw[md z,z];simp only[Mz,M0];show O
 .rw[kw z];let z':(g==nm)=jg:=↑z
  simp only[Mz,z'];show Li
end
abbrev Ix(b:TE):TE:=λc H Q=>b c H λv a=>(∃i:pp,v= .int i/\i.natAbs<2^64/\Q (.str (toString i)) a)\/∃y:lx,v= .str y/\ ~~~y<=mv/\Q (.str y) a
abbrev ot:hH TE->lx->TE
 |[],out=>λa H Q=> ~~~out<=mv/\Q (.str out) H
 | t::ts,out=>λa H Q=>t a H λv b=>∃y:lx,v= .str y/\ ~~~(out++y)<=mv/\ot ts (out++y) a b Q
inductive PJ (X:Cx):hH Ds->hH TE->Prop
 | nil:PJ X [] []
 | cons {e:Ds} {es:hH Ds} {t:TE} {ts:hH TE}:PE X e t->PJ X es ts->PJ X (e::es) (t::ts)
section
variable{X:Cx}{e v1 v2:Ds}{rest:hH Ds}{te t1 t2:TE}{ts:hH TE}{pos:Pos}
def Iy(c:PE X e te):PE X (.FormattedValue e (-1) hX pos) (Ix te):=by
 intro ij s d H Q I h;show FormattedValue_plain (thP (c ij s d H _ I h) λu j v a b r q=>?_);rcases q with⟨i,rfl,hi,q⟩|⟨y,rfl,f,q⟩
 .let%[t|rfl]:=(show∃t,u=Pb i t from r)
  let g:i.natAbs.log2<1920:=by
   by_cases z:i.natAbs=0
   .rw[z];decide
   .show(kj.log2_lt z).mpr (Zg hi (NS (!1) ∅))
  show formatField_int_small g %[V.str (toString i),a,b.tok _,%[_|rfl]|q]
 .let%[t|rfl]:=(r)
  show VV (λt' tk=>%[.str y,a,b.tok _,%[_|rfl]|q]) f
def CQ(h:PJ X es ts):∀(out:lx) (ij:ZE) (s:mu) (a:St) (H:Hp) (Q:VK),Qd X ij a H s->ot ts out a H Q->
 (X⁻¹) (joinParts out (evalEach es X.env)) (EP X ij a Q) X.xe s:=by
 induction h with
 | nil=>show λout ij s a H Q I ⟨b,q⟩=>joinParts_nil %[.str out,H,I.tok _,%[_|rfl]|q] b
 | cons c _ d=>
   intro out ij s a H Q I q;show joinParts_cons (thP (c ij s a H _ I q) λu f v g i r ⟨y,j,b,l⟩=>?_);subst j;let%[t|rfl]:=(r)
   show%[b|d _ ij f a g Q i l]
def FL(h:PJ X (v1::v2::rest) ts):PE X (.JoinedStr (v1::v2::rest) pos) (ot ts K3):=λij s a H Q I q=>
 JoinedStr_many (CQ h _ ij s a H Q I q)
end
abbrev xR(C:kG)(sp:Sp)(t:TA):TE:=λb H Q=>t b H λvs a=> ~~~vs<=9/\∀x,a x=hX->sp (.ref x::vs) (Qb a x (ExO x C hX)) (λv c=>v= .non/\Q (.ref x) c) E0
structure MkX (K:ZA) (C f:kG):Prop where
 ex:exK K C f=iv
 fn:(K.lookup f).map (·.cls)∣.type "function"
 kp:Nt K (.ref C)=iv
section
variable{X:Cx}{k:kj}{f C:kG}{fd:Nc}{ps:ZB}{sp:Sp}{x:lx}{p pos cpos:Pos}{e:Ds}{es:hH Ds}{te:TE}{t:TA}
def AH(M:MkX X.K C f)(F:dG X.prog X.w X.K X.mg X.base CX0 k f fd ps sp)(w:bE (k+1) X.A)(y:dH X.K fd ps [])
 (I:Qd X ij j H s) (r:aI vs us) (hv: ~~~vs<=9)
 (h:∀x,H x=hX->sp (.ref x::vs) (Qb H x (ExO x C hX)) (λv z=>v= .non/\Q (.ref x) z) E0):
 (X⁻¹) (call (.ref C) us) (EP X ij j Q) X.xe s:=by
 let%[i,g,d,tk|os]:=s;let%[nm,qn,N,bs,bm,n,sn,sub,ab,A,dd,k0,k1,k2,k3,k5,mN,B,E,hi|T]:=xP I.kIn M.ex;let%[oI,G|l]:=Ld.mp M.fn;show AG PySem.F.excBase_ValueError T B E hi (I.kIn _ _ G) l (by rw[<-r.length,Le];lia) ?_;let J:Qd X ij j H %[xN i C us,g,d,tk|os]:=I.keptS gP rfl rfl;let m:Qd X ij j (Qb H _ (ExO _ C hX)) _:=
  I.stoodS J (Yf _) (ExO.ok (vD i C us) rfl rfl rfl ∅ rfl)
 let o:=h _ (I.hok.fresh (Yf _));let q:aI (V.ref (i.objs.size+1)::vs) _:= .cons rfl r;let b: ~~~(m4 (i.objs.size+1)::us++[])= ~~~ps:=by
  rw[Zx,<-q.length];show F.len _ _ _ _ o
 let c:=y _ _ m.kIn b;rw[Zx]at c;show MJ (codeAny_mono (F.run _ X.stack _ _ _ _ _ _ E0 (w.make C us []) (m.env0.make C us []) c q o) λr s' a=>?_);cases r with
 | error e=>show Lh a
 | ok L=>
   cases L with
   | ret u=>
     let%[v,O,U,Y,ev|q3]:=m.after a;subst ev;show%[Y,V.ref _,O,U,ρ|q3]
   | next=>show Lh a
   | brk=>show Lh a
   | cont=>show Lh a
def CS(M:MkX X.K C f)(F:dG X.prog X.w X.K X.mg X.base CX0 k f fd ps sp)(d:bE (k+1) X.A)(g:Gl X x)(i:X.mg x∣.ref C)(j:dH X.K fd ps [])
 (l:PA X (e::es) t) (a:(x==("__debug__":lx))=jg) (m:vj (e::es) X.env=(jg,LB e X.env)::vj es X.env) (b:(Mm pos (vj es X.env)).any (·.1)=jg):
 PE X (.Call (.Name x p) (e::es) [] pos) (xR C sp t):=by
 intro ij s n H Q I h;show Mh (ig I g i (Sh I.ok.mod.kin M.kp (thP (l pos ij s n H _ I h) λus u vs v c r ⟨o,q⟩=>%[c.kIn|AH M F d j c r o q]) m b) a)
abbrev t5(C:kG)(te:TE)(W:kG->Hp->Prop):TS:=λ_ c H=>te c H λv b=>∃a d,v= .ref a/\b a∣ExO a C (hY d)/\W a b
def CT{W:kG->Hp->Prop}(A:exK X.K C f=iv)(B:X.calm=iv)(E:PE X e te)
 (G:∀(ij:ZE) (i:St) (H:Hp) (s:mu) (a d:kG),Qd X ij i H s->H a∣ExO a C (hY d)->W a H->X.xe (.ref a) s):PS X (.Raise (hY e) hX pos) (t5 C te W):=by
 intro ij s i H D I h;change sh _ X.A (do Of pos;raiseStmt X.env (hY (do let v<-LB e X.env;Of pos;pure v)) hX) _ _ s;show Z2 (N0 ?_);unfold raiseStmt;show Z2 (Z2 (thP (E ij s i H _ I h) λu m v J j r ⟨a,d,L,n,q⟩=>Z2 (N0 (Z3 ?_))));subst L;obtain rfl:u=m4 a:=r;let%[%[M,vs,O,c,o,w,hz|Q]|_]:=j.hok a _ n;let%[nm,qn,N,bs,U,y,sn,sub,ab,Y,dd,k0,k1,k2,k3,k5,mN,z,hN,hi|T]:=xP j.kIn A;let l:(m4 C::U).contains (.type "BaseException")=iv:=by rw[S5,T.hasType (b:=iv) (!1),Qh]
 let hE:=G ij i J m a d j n q;let%[hp,g,dr,tk|os]:=m;let%[oc,od,ac|ae]:=M;dsimp only at c o w;subst c o w;let hh:X.A.handled=hX:=j.ok.hd B
 repeat (first|with_reducible show NJ O ?_|with_reducible show NJ z ?_|(with_reducible show Uu z ?_;rw[l])|wp_step)
 rw[Q];show Z3 ?_;rw[kw (!1)];show Z3 (Us hh hE)
end
abbrev drop(H:Hp)(a:kG):Hp:=λb=>if b=a then hX else H b
def gQ:drop H a a=hX:=by unfold drop;rw[md rfl]
def bL(h:b≠a):drop H a b=H b:=by unfold drop;rw[kw h]
def AI{P:nX}{K:ZA}
 (hk:exK K C f=iv) (he:PE (fo (CXO P w) P w K mg base N h g p r A outer s₀ H₀ E) e te):
 PS (fo (CXO P w) P w K mg base N h g p r A outer s₀ H₀ E) (.Raise (hY e) hX pos) (t5 C te λa H=>∃d,H a∣ExO a C (hY d)/\H₀ a=hX/\E (.ref C) (hY d) (drop H a)):=by
 show CT hk rfl he λij σ H s a ag I _ ⟨d,J,hn,q⟩=>?_
 let%[%[oe,vs,ea,Y,hd,hf,hz|h1]|_]:=I.hok a _ J;let ST:=I.stack;let SF:=I.stkFree;let L0:⇑s₀<=(LQ h g ⇑s₀ p r).locals:=Zi _;change sh (Lx P w) (A.deeper (LQ h g ⇑s₀ p r)) (leaving (LQ h g ⇑s₀ p r) (.ref a)) _ _ s;let ab:a∉frs (LQ h g ⇑s₀ p r::outer):=λz=>by
  let:=SF a z;rw[J]at this;cases this
 show vC (.inl rfl) I.ok.frames rfl %[λb o z=>of_hideAll _ z,PySem.W.hideAll_none _ (Yu.mpr (.inl rfl)),PySem.W.funFrames_hide ST λen ac b i=>Yu.mpr (.inr (LG.mpr %[en,ac|i])),oe,vs,ea,Y,hd,hf,hz|h1] λh' u sm=>?_
 let G:∀b o,s.heap.get? b∣o->b≠a->b∉frs (LQ h g ⇑s₀ p r::outer)->h'.get? b∣o/\(hideAll s.heap (a::frs (LQ h g ⇑s₀ p r::outer))).get? b∣o:=λb o z n1 n2=>by
  let hB:=hideAll_get (a::frs (LQ h g ⇑s₀ p r::outer)) z λm=>(Yu.mp m).elim n1 n2
  show%[u.1 b o hB|hB]
 let T:∀b o,s.heap.get? b∣o->b∈frs (LQ h g ⇑s₀ p r::outer)->∃sl,h'.get? b=hY {o with slots:=sl}:=λb o z i=>by
  let%[_,o',z'|M]:=ST.mem i;rw[z]at z';cases z';show sm b o z M
 let nL:∀b o,s₀.heap.get? b∣o->b∉frs outer->b∉frs (LQ h g ⇑s₀ p r::outer):=λb o z n m=>by
  rcases Yu.mp (show b∈⇑s₀::frs outer from m)with y|y
  .show ow (Zu z) (y▸Xh _)
  .show n y
 let sub:∀b,b∈frs outer->b∈frs (LQ h g ⇑s₀ p r::outer):=λb i=>Yu.mpr (.inr i)
 let j:∀b,b∉(fo (CXO P w) P w K mg base N h g p r A outer s₀ H₀ E).ex:=λb z=>ow (show b∈([]:hH kG)from z) ∅
 let new:s₀.heap.get? a=hX:=by
  cases z:s₀.heap.get? a with
  | none=>rfl
  | some o=>
    let:=I.base.free a o z hn (j a);rw[J]at this;cases this
 let trk:∀b o,H b∣o->b∉frs (LQ h g ⇑s₀ p r::outer):=λb o z m=>by
  rw[SF b m]at z;cases z
 show%[a,_,.ref C,hY d,drop H a,ρ,%[I.os,I.bare,%[λb o z n i hx=>?_,λb o z n i hx=>?_,λb o z n hx=>?_,λb o z hx=>?_,λb xs z=>?_,λb o v z=>?_|λb ps z=>?_],λb o z=>?_,u,gQ,new,λb ob z i M=>?_|λb i=>?_]|q]
 .let l:=I.base.keep b o z n i (j b);show(G b o l (λy=>?_) (nL b o z i)).1;subst y;rw[new]at z;cases z
 .let%[sl|l]:=I.base.slot b o z n i (j b);let%[ae|Q]:=T b _ l (sub b i);show%[ae|Q]
 .by_cases y:b=a
  .show y▸gQ
  .rw[bL y];show I.base.free b o z n (j b)
 .let%[O|l]:=I.base.there b o z (j b);by_cases i:b∈frs (LQ h g ⇑s₀ p r::outer)
  .let%[sl|Q]:=T b O l i;show%[_|Q]
  .show%[O|(G b O l (λy=>?_) i).1];subst y;rw[new]at z;cases z
 .let l:=I.base.tups b xs z;rw[bL (nO l J (by simp[ExO]))];show l
 .let l:=I.base.frzs b o v z;rw[bL (nO l J (by simp[ExO]))];show l
 .let%[m|l]:=I.base.tbls b ps z;show%[m|?_];rw[bL (nO l J (by simp[ExO]))];show l
 .let y:b≠a:=λy=>by rw[y,gQ]at z;cases z
  rw[bL y]at z;show(I.hok b o z).stay (λc u' U L=>?_) (λc L=>?_) λc xs L=>?_
  .rcases U with rfl|U
   .show(G c u' L y (trk c o z)).1
   .show(G c u' L (nO U J (by simp[ExO])) (trk c _ U)).1
  .rw[bL (nO L J (by simp[ExO]))];show L
  .rw[bL (nO L J (by simp[ExO]))];show L
 .let y:b≠a:=λy=>by
   rcases i with⟨o,B⟩|⟨o,B⟩
   .rw[y,new]at B;cases B
   .rw[y,gQ]at B;cases B
  let nf:b∉frs (LQ h g ⇑s₀ p r::outer):=by
   rcases i with⟨o,B⟩|⟨o,B⟩
   .show nL b o B M
   .rw[bL y]at B;show trk b o B
  let ex:∃O,s.heap.get? b∣O:=by
   rcases i with⟨o,B⟩|⟨o,B⟩
   .show I.base.there b o B (j b)
   .rw[bL y]at B;show(I.hok b o B).there
  let%[O|l]:=ex;let%[Q|e3]:=G b O l y nf;rw[show h'.get? b∣ob from z]at Q;cases Q;show e3
 .let y:b≠a:=λy=>ab (y▸sub b i)
  rw[bL y];show SF b (sub b i)
abbrev ExH(a C:kG)(d:ZI):HO:= .ext λh=>∃o vs,h.get? a∣o/\o.cls= .ref C/\o.dict=d/\o.data= .fields vs
def ExH.ok{P:nX}(e:h.get? a∣o)(b:o.cls= .ref C)(c:o.dict=d)(f:o.data= .fields vs):
 bQ P w H h a (ExH a C d):=
 %[%[o,vs,e,b,c|f],%[o|e]|λg i ⟨o,vs,e,r⟩ k=>%[o,vs,k o e|r]]
section
variable{X:Cx}{ij:ZE}{σ:St}{H:Hp}{s s':mu}
def FM(I:Qd X ij σ H s)(L:X.N.Nodup)(hi:X.N[i]?∣n)(N:X.env.kindOf n∣.local)
 (h:∀s',Qd X ij (σ.set i hX) H s'->Q () s'):sh M A (do bindName X.env n .none;TX X.env n pos) Q E s:=by
 let%[m,O|T]:=id I.loc;let B:i<σ.length:=I.len▸(Xj hi).1;show wpAny_nameGoes_keeps N O (by rw[I.ok.kind];rfl) λh' v u a=>h _ ?_
 let f:∀b o,X.s₀.heap.get? b∣o->b≠X.env.locals:=λb o e=>Zs (Zg (Zu e) I.ok.above)
 show%[I.ok,I.os,I.bare,%[λb o e n w l=>?_,λb o e n w l=>?_,I.base.free,λb o e l=>?_,I.base.tups,I.base.frzs|I.base.tbls],%[_,u|λj y U g C Y=>?_],λy c e=>?_,I.free,I.freeC,λp hp=>?_,λb ob e=>?_|by simpa using I.len]
 .show(a.2 b (f b o e)).trans (I.base.keep b o e n w l)
 .let%[sl|g]:=I.base.slot b o e n w l;show%[sl|(a.2 b (f b o e)).trans g]
 .let%[o'|g]:=I.base.there b o e l;show%[o'|(a.2 b (f b o e)).trans g]
 .let G:j≠i:=λz=>by
   simp_all
  rw[Pd (J0 G)]at C;let%[u',r'|q]:=T j y U g C Y;show%[u',r'|?_];rcases q with⟨k,e⟩|⟨k,c,e,z⟩
  .show .inl %[k|?_];let:y≠n:=λe=>G (gN L g (e▸hi))
   simp[this,e]
  .show .inr %[k,c,e|z.sameBut a (I.cne y c e)]
 .let%[J|z]:=I.cell y c e;show%[J|z.sameBut a (I.cne y c e)]
 .let%[e,n,ne,nf|d]:=I.pin p hp;show%[(a.2 p.1 ne).trans e,n,ne,nf|d]
 .show(I.hok b ob e).stay (λc J r q=>(a.2 c ?_).trans q) (λ_ q=>q) λ_ _ q=>q
  rintro rfl;rcases r with rfl|r
  .rw[I.free]at e;cases e
  .rw[I.free]at r;cases r
end
section
variable{M:Model}{A:vi}{E:ZD}{s:mu}{K:ZA}{D C e:kG}{oe:MU}{b:ri}{Q:ri->mu->Prop}
def CU(X:K.In s.heap)(i:UK K (.ref D)∣.type "type")(j:PH K (.ref D) (.type "BaseException")∣iv)(d:(K.lookup D).any (λo=>match o.data with| .cls _=>iv|_=>jg)=iv)
 (l:s.heap.get? e∣oe) (m:oe.cls= .ref C) (n:PH K (.ref C) (.ref D)∣b) (f:Q b s):sh M A (excMatches (.ref e) (.ref D)) Q E s:=by
 let%[g,p|c]:=O9 d;show Z2 (Z2 ((PySem.W.looks_typeIn X i).here ?_));rw[tc_notTuple];show Z3 (Z2 (Z3 ?_));let a:∃h,g.data= .cls h:=by
  revert c
  cases g.data<;> intro c<;> first|show⟨_,rfl⟩|cases c
 let%[h|a]:=a;let LT:P5 M s.heap (Oa (.ref e)) _:=λq u v s' k r=>by
  show Z2 (Ov (k _ _ l) (Z3 (m▸r)))
 show Z2 (Z2 (Z2 (Z2 (Z2 (Ov (X _ _ p) (Z3 ?_))))));rw[a,md rfl];show(RA X j).here (Z3 (Z3 (Z2 (LT.here (Z2 (Z2 (Z2 ((RA X n).here ?_))))))));cases b with
 | true=>
   show Z3 (Z3 (Z3 f))
 | false=>
   show Z3 (Z3 (Z3 f))
end
noncomputable abbrev Cx.suiteX(X:Cx)(a:kG):Cx:={X with A:=X.A.mark (hY (.ref a)),calm:=jg,xe:=λ_ _=>KZ}
section
variable{X:Cx}{ij pins' pn:ZE}{σ:St}{H:Hp}{s:mu}{E:ZD}
def Kf(ok:X.Ok)(pn:hH _)(E:ZD):({X with pn:=pn,xe:=E}).Ok:=
 %[ok.mod,ok.kind,ok.glob,ok.blt,ok.above,ok.inj,ok.has,ok.cab,ok.hd,ok.frames,ok.stk,ok.exf,ok.bs,ok.bsz,ok.noex,ok.exfs,ok.funs|ok.frf]
def unPn(ok:({X with pn:=pn,xe:=E}).Ok):X.Ok:=
 %[ok.mod,ok.kind,ok.glob,ok.blt,ok.above,ok.inj,ok.has,ok.cab,ok.hd,ok.frames,ok.stk,ok.exf,ok.bs,ok.bsz,ok.noex,ok.exfs,ok.funs|ok.frf]
def Qd.toPn(I:Qd X ij σ H s)(E:ZD):Qd ({X with pn:=X.pn++ij,xe:=E}) [] σ H s:=
 %[Kf I.ok _ E,I.os,I.bare,I.base,I.loc,I.cell,I.free,I.freeC,λp a=>I.pin p ↑a,I.hok|I.len]
def Qd.ofPn(I:Qd ({X with pn:=X.pn++ij,xe:=E}) pins' σ H s):Qd X ij σ H s:=
 %[unPn I.ok,I.os,I.bare,I.base,I.loc,I.cell,I.free,I.freeC,λp a=>I.pin p (Ys _ a),I.hok|I.len]
def Qd.toSuite(I:Qd X ij σ H s)(a:kG):Qd (X.suiteX a) ij σ H s:=
 %[%[I.ok.mod,I.ok.kind,I.ok.glob,I.ok.blt,I.ok.above,I.ok.inj,I.ok.has,I.ok.cab,(λz=>ri.noConfusion z),I.ok.frames,I.ok.stk,I.ok.exf,I.ok.bs,I.ok.bsz,I.ok.noex,I.ok.exfs,I.ok.funs|I.ok.frf],I.os,I.bare,I.base,I.loc,I.cell,I.free,I.freeC,I.pin,I.hok|I.len]
def Qd.ofSuite(I:Qd (X.suiteX a) ij σ H s)(ok:X.Ok):Qd X ij σ H s:=%[ok,I.os,I.bare,I.base,I.loc,I.cell,I.free,I.freeC,I.pin,I.hok|I.len]
def SP.ofPn{D:ic}(h:SP ({X with pn:=X.pn++ij,xe:=E}:Cx) [] D f s):SP X ij D f s:=by
 cases f with
 | next=>have%[a,b,I|q]:=h;show%[a,b,I.ofPn|q]
 | brk=>have%[a,b,I|q]:=h;show%[a,b,I.ofPn|q]
 | cont=>have%[a,b,I|q]:=h;show%[a,b,I.ofPn|q]
 | ret u=>have%[v,a,b,I,r|q]:=h;show%[v,a,b,I.ofPn,r|q]
end
abbrev ic.gone(D:ic)(i:kj):ic:={nx:=λa H=>D.nx (a.set i hX) H,rt:=D.rt,bk:=λa H=>D.bk (a.set i hX) H,ct:=λa H=>D.ct (a.set i hX) H}
structure Cat (K:ZA) (D:kG):Prop where
 ty:UK K (.ref D)∣.type "type"
 ex:PH K (.ref D) (.type "BaseException")∣iv
 cd:(K.lookup D).any (λo=>match o.data with| .cls _=>iv|_=>jg)=iv
structure FN (K:ZA) (C:kG) (f:lx):Prop where
 ga:Lq K (.ref C) "__getattribute__"=hY (hY (.builtin "BaseException.__getattribute__"))
 hk:Lq K (.ref C) "__getattr__"=hY hX
 sub:PH K (.ref C) (.type "BaseException")∣iv
 no:Lq K (.ref C) f∣hX
 hd:NV K C=iv
section
#where
variable{K:ZA}{x C:kG}{name:lx}{v:ku}{ox:MU}{od:lX MU}
def Iz(X:K.In s.heap)(I:PySem.W.InstAt s.heap x ox C od)(c:FN K C name)(d:findObj K C od name∣.value v)(f:V9 v=iv)
 (h:Q v {s with toks:=s.toks+1}):↥A (Vb (.ref x) name a) Q E s:=by
 let b:P5 (Lx prog w) s.heap (Oa (.ref x)) (.ref C):=I.type;let sub:P5 (Lx prog w) s.heap (Qy (.ref x) (.type "BaseException")) iv:=b.andThen (RA X c.sub);let g:=looks_find (M:=Lx prog w) X I d;let S:=PySem.F.excAttr_ValueError.ga;show Z2 (wpAny_mkText (vu (Z2 (b _ _ _ _ (λ_ _ e=>e) (Z2 (QZ X c.ga _ _ _ _ (λ_ _ e=>e) ?_))))));dsimp only;rw[show(SU (m4 C)&&L4 "BaseException.__getattribute__"==L4 "object.__getattribute__")=jg from by rw[show(L4 "BaseException.__getattribute__"==L4 "object.__getattribute__")=jg from !0,LU],kw (!1)];show Z2 (looks_hook X (mc:= .ref C) (r:=hX) (c.hk) _ _ _ _ (λ_ _ e=>e) (Z2 (Mc (vu ?_))));unfold VE;rw[show(a&&SU (L4 _))=jg from LU _,kw (!1)];unfold boundAndCalled;rw[S.bind];show MJ ?_;show Mt S.plain PySem.F.entry_bexc_ga ?_;show @UP _ _ _ _ _ _ "__getattribute__" _ _ [] _ (!0) (!0) sub (PySem.F.args_bexc_ga _ _) ?_;show Z2 (Z3 (Z2 (Z3 (Z2 (OM b (Z2 (OM g (Z3 ?_))))))));change sh _ _ (handedOut v) _ _ _;rw[PySem.W.handedOut_of f];show Z3 h
end
abbrev GK(C:kG)(c:TE)(f:lx):TE:=λe H Q=>c e H λx b=>∃a d fs v,x= .ref a/\b a∣ExH a C (hY d)/\b d∣.xd fs/\fs.lookup f∣v/\Q v b
def FO{X:Cx}(c:FN X.K C f)(n:PE X e p)(w:Mf e f X.env (LB e X.env)=LB e X.env):PE X (.Attribute e f pos) (GK C p f):=by
 intro ij s y H Q I h;show yK w (thP (n ij s y H _ I h) λu U x z b A ⟨a,d,fs,v,ex,B,E,l,q⟩=>?_);subst ex;obtain rfl:u=m4 a:=A;let%[%[o,vs,G,g,i|j]|_]:=b.hok a _ B;let%[Y,n1|r]:=b.hok d _ E;let%[uv,J|m]:=fY.some_of (l▸r f);let%[od,L|M]:=qR n1;let%[oc,N,O|T]:=o;dsimp only at g i j;subst g i j;show Iz b.kIn %[G,rfl,rfl|L] c (findObj_own c.hd c.no rfl (by rw[M,J])) (qS m) %[v,z,b.tok _,m|q]
structure XIs (K:ZA) (C:kG):Prop where
 ga:Lq K (.ref C) "__getattribute__"=hY (hY (.builtin "BaseException.__getattribute__"))
 hk:Lq K (.ref C) "__getattr__"=hY hX
 sub:PH K (.ref C) (.type "BaseException")∣iv
 hd:NV K C=iv
 cl:Lq K (.ref C) "__class__"=hY (hY (.builtin "object.__class__"))
 gt:Rn K (.builtin "object.__class__") "__get__"=hY (hY (.builtin "getset_descriptor.__get__"))
 tk:takesIn K (.builtin "object.__class__")∣iv
 ob:mroIn K C (.type "object")∣iv
section
#where
variable{K:ZA}{x C:kG}{ox:MU}{od:lX MU}
def IA(X:K.In s.heap)(I:PySem.W.InstAt s.heap x ox C od)(c:XIs K C)(h:Q (hY (.ref C)) {s with toks:=s.toks+1}):↥A (getAttr? (.ref x) "__class__") Q E s:=by
 let a:P5 (Lx prog w) s.heap (Oa (.ref x)) (.ref C):=I.type;let sub:P5 (Lx prog w) s.heap (Qy (.ref x) (.type "BaseException")) iv:=a.andThen (RA X c.sub);let b:findObj K C od "__class__"=hY (.bind (.builtin "getset_descriptor.__get__") (.builtin "object.__class__")):=by
  let%[g,d|_]:=O9 c.hd;unfold findObj;rw[d,Qe,c.cl,Qe];dsimp only;rw[c.gt,Qe];dsimp only;rw[c.tk,Qe]
 let f:=looks_find (M:=Lx prog w) X I b;let S:=PySem.F.excAttr_ValueError.ga;unfold getAttr? getAttrBy? getAttrBy;show Z2 (wpAny_mkText (Z2 (Mc (vu (Z2 (a _ _ _ _ (λ_ _ e=>e) (Z2 (QZ X c.ga _ _ _ _ (λ_ _ e=>e) ?_))))))));dsimp only;rw[show(SU (m4 C)&&L4 "BaseException.__getattribute__"==L4 "object.__getattribute__")=jg from by rw[show(L4 "BaseException.__getattribute__"==L4 "object.__getattribute__")=jg from !0,LU],kw (!1)];show Z2 (looks_hook X (mc:= .ref C) (r:=hX) (c.hk) _ _ _ _ (λ_ _ e=>e) (Z2 (Mc (vu ?_))));unfold VE;rw[show(jg&&SU (L4 "BaseException.__getattribute__"))=jg from rfl,kw (!1)];unfold boundAndCalled;rw[S.bind];show Z2 (Z3 ?_);change sh _ _ (call (.builtin "BaseException.__getattribute__") _) _ _ _;show MJ ?_;show Mt S.plain PySem.F.entry_bexc_ga ?_;show @UP (Lx prog w) _ _ {s with toks:=s.toks+1} _ "BaseException" "__getattribute__" (.ref x) [.str "__class__" s.toks] [] _ (!0) (!0) sub (PySem.F.args_bexc_ga (.ref x) (.str "__class__" s.toks)) ?_;show Z2 (Z3 (Z2 (Z3 (Z2 (OM a (Z2 (OM f (Z2 (vu (MJ (PySem.W.class_get (ox:=ox) (od:=od) X I c.ob (Z3 (Z3 (Z3 h))))))))))))))
set_option tactic.hygienic true in
def FP(c:XIs K C):KitX K (.ref x) (.ref C) (λh=>∃ox od,PySem.W.InstAt h x ox C od) where
 ty:=λ_ _ _ ⟨_,_,I⟩=>I.type
 it:=λ_ _ X _=>by
  let%[cdD,hcD|_]:=O9 c.hd;unfold clsIn at hcD
  split at hcD
  .rename_i c' d' cd' sl' ho
   intro A' Q' E' s' k q;show Z2 (Ov (k _ _ (X _ _ ho)) (Z3 q))
  .cases hcD
 ne:=λh tp dd its n sl X htp=>by
  let%[cdD,hcD|_]:=O9 c.hd;show Qi.mpr λq=>?_
  let e:=SX (Mv.mp q);subst e;unfold clsIn at hcD
  split at hcD
  .rename_i c' d' cd' sl' ho
   let z:=(X _ _ ho).symm.trans htp;cases z
  .cases hcD
 ca:=λX ⟨_,_,I⟩ k=>IA X I c k
end
abbrev Held(H:Hp)(a C:kG):Prop:=∃d,H a∣ExH a C d/\(d=hX\/∃b fs,d∣b/\H b∣.xd fs)
inductive TyX (K:ZA) (H:Hp):V->ku->Prop where
 | non:TyX K H .non (.type "NoneType")
 | ex {a C:kG} (h:Held H a C) (c:XIs K C):TyX K H (.ref a) (.ref C)
section
#version
def TyX.kit(ty:TyX X.K H x t)(I:Qd X ij σ H s)(r:aT x u):∃f:yu->Prop,KitX X.K u t f/\f s.heap/\u≠ .builtin "__main__.__loader__#opaque":=by
 cases ty with
 | non=>
   cases(r);show%[_,kitx_none,Li|λz=>nomatch z]
 | @ex a C h c=>
   cases(r);let%[d,j|l]:=h;let%[%[o,vs,e,g,b|i]|_]:=I.hok a _ j;let%[y,m,n|p]:=o;dsimp only at g b i;subst g b i;show%[_,FP c,?_|λz=>nomatch z];rcases l with rfl|⟨q,fs,rfl,v⟩
   .show%[_,hX,e,ρ,ρ|trivial]
   .let%[od|w]:=(I.hok q _ v).there;show%[_,hY od,e,ρ,ρ|w]
end
def rN:∀{a:hH kG} {us:ZF},aI (a.map V.ref) us->us=a.map m4
 |[],_,.nil=>rfl
 | _::_,_,.cons r t=>by
   cases r;rw[rN t];rfl
def CV{X:Cx}:ci X (.builtin "isinstance") (λxs H Q=>∃x y t b,xs=[x,y]/\TyX X.K H x t/\
 ((∃n,y= .ty n/\OE X.K t (.type n)∣b)\/(∃D,y= .ref D/\OE X.K t (.ref D)∣b)\/∃c d,y= .ref c/\H c&&&Rh V.ref d/\Tf X.K t (d.map m4)∣b)/\Q (.bl b) H):=by
 intro ij s B H xs us Q I r h;let%[x,y,t,b,rfl,ty,f|q]:=h;let%[u,C,rfl,g|a]:=iY r;let%[E,Z,p|nb]:=ty.kit I g;rcases f with⟨n,rfl,e⟩|⟨D,rfl,e⟩|⟨c,d,rfl,i,e⟩
 .cases(a);show Nh Z I.kIn p e nb λtk=>%[.bl b,H,I.tok tk,rfl|q]
 .cases(a);show Nh Z I.kIn p e nb λtk=>%[.bl b,H,I.tok tk,rfl|q]
 .cases(a);let%[_,its,j,o,l,m,n|v]:=I.hok c _ i;let:=rN j;subst this;let%[G,w,z|A]:=o;subst m v;show PySem.W.kia_tup Z I.kIn p l e nb λtk=>%[.bl b,H,I.tok tk,rfl|q]
def IB{X:Cx}{D:kG}(b:Gl X x)(c:X.mg x∣.ref D)(a:(x==("__debug__":lx))=jg):PE X (.Name x p) (λd H Q=>Q (.ref D) H):=λij s d H Q I h=>
 ig I b c %[.ref D,H,I,rfl|h] a
def Fun.okX{P:nX}{K:ZA}{st:I0}(F:Fun K x b st f g)(S:ar N ps (am st))(len:∀vs H Q E,sp vs H Q E-> ~~~vs= ~~~ps)
 (c:∀(a:ku) (A:vi) (outer:hH Env) (s:mu) (H:Hp) (vs:hH V) (Q:VK) (E:XK),bE k (A.deeper (LQ b (am st) ⇑s f a))->sp vs H Q E->
  ∃t,PSs (fo (CXO P w) P w K mg base N b (am st) f a A outer s H E) (bB st) t/\t {nx:=λ_ h=>Q .non h,rt:=Q} (start N vs) H):dG P w K mg base (CXO P w) (k+1) f g ps sp:=by
 let%[m,od,kV,i,n,o,a,ct,j,rfl,lk|d]:=F.ex;show GB lk d S len λA outer s H vs Q E l e=>c a A outer s H vs Q E l e
abbrev aC(mg:ZC)(x:lx):kG:=match mg x with
 | hY (.ref C)=>C
 | _=>0
def dL(h:mg x∣.ref C):aC mg x=C:=by unfold aC;rw[h]
structure CW (K:ZA) (mg:ZC) (x qual:lx) (st:I0) (ps:ZB):Prop where
 at_:mg x∣.ref (aC mg x)
 is:XIs K (aC mg x)
 ini:∃f fd,MkX K (aC mg x) f/\Fun K "__init__" qual st f fd/\dH K fd ps []
structure xS (P:nX) (w:v0) (K:ZA) (mg:ZC) (base:yu) (k:kj) (x:lx) (ps:ZB) (sp:Sp):Prop where
 ex:∃f fd,dG P w K mg base (CXO P w) k f fd ps sp/\mg x∣.ref f/\Nt K (.ref f)=iv/\dH K fd ps []
structure IC (P:nX) (w:v0) (K:ZA) (mg:ZC) (base:yu) (k:kj) (x:lx) (ps:ZB) (sp:Sp):Prop where
 ex:∃f fd,dG P w K mg base CX0 k f fd ps sp/\MkX K (aC mg x) f/\mg x∣.ref (aC mg x)/\dH K fd ps []
section
variable{P:nX}{w:v0}{K:ZA}{mg:ZC}{base:yu}{x qual:lx}{st:I0}{N ps:ZB}{k:kj}{sp:Sp}
def aE.calX(D:aE K mg x st ps)(S:ar N ps (am st))
 (a:∀(H:Hp) (vs:hH V) (Q:VK) (E:XK),sp vs H Q E-> ~~~vs= ~~~ps/\∀(f:kG) (b:ku) (A:vi) (outer:hH Env) (s:mu),bE k (A.deeper (LQ x (am st) ⇑s f b))->
  ∃t,PSs (fo (CXO P w) P w K mg base N x (am st) f b A outer s H E) (bB st) t/\t {nx:=λ_ c=>Q .non c,rt:=Q} (start N vs) H):xS P w K mg base (k+1) x ps sp:=by
 let%[f,d,F,e|g]:=D.ex;show%[f,d,F.okX S (λv H Q E h=>(a H v Q E h).1) (λb A o s H v Q E r h=>(a H v Q E h).2 f b A o s r),e,F.kp|g]
def CW.cal(D:CW K mg x qual st ps)(S:ar N ps (am st))(len:∀vs H Q E,sp vs H Q E-> ~~~vs= ~~~ps)
 (b:∀(f:kG) (a:ku) (A:vi) (outer:hH Env) (s:mu) (H:Hp) (vs:hH V) (Q:VK) (E:XK),exK K (aC mg x) f=iv->bE k (A.deeper (LQ qual (am st) ⇑s f a))->sp vs H Q E->
  ∃t,PSs (fo CX0 P w K mg base N qual (am st) f a A outer s H E).nox (bB st) t/\t {nx:=λ_ c=>Q .non c,rt:=Q} (start N vs) H):IC P w K mg base (k+1) x ps sp:=by
 let%[f,d,M,F|e]:=D.ini;show%[f,d,F.ok S len λa A outer s H vs Q E=>b f a A outer s H vs Q E M.ex,M,D.at_|e]
end
section
variable{X:Cx}{K:ZA}{pos:Pos}
def GL(d:ik (CXO X.prog X.w) X E)(C:xS X.prog X.w X.K X.mg X.base j x ps sp)(g:bE k X.A)(h:Gl X x)(a:OW j k=iv)
 (b:(x==("__debug__":lx))=jg) (c:(e::es).any aQ=jg) (i:QA X (e::es) t):QE X (.Call (.Name x p) (e::es) [] pos) (qT sp [] E t):=by
 rw[Zw,X4]at c;let%[f,o,F,l,m|n]:=C.ex;show⟨yP F (g.mono (Yd a)) h l m n .nil d i.h b (ay c.1) (dJ c.2)⟩
def ID(C:IC X.prog X.w X.K X.mg X.base j x ps sp)(d:bE k X.A)(g:Gl X x)(a:OW (j+1) k=iv)
 (b:(x==("__debug__":lx))=jg) (c:(e::es).any aQ=jg) (h:QA X (e::es) t):QE X (.Call (.Name x p) (e::es) [] pos) (xR (aC X.mg x) sp t):=by
 rw[Zw,X4]at c;let%[f,m,F,M,i|l]:=C.ex;show⟨CS M F (d.mono (Yd a)) g i l h.h b (ay c.1) (dJ c.2)⟩
def clsE(b:Gl X x)(c:X.mg x∣.ref (aC X.mg x))(a:(x==("__debug__":lx))=jg):QE X (.Name x p) (tC (.ref (aC X.mg x))):=⟨IB b c a⟩
def IE(a:QE X e b):QE X (.FormattedValue e (-1) hX pos) (Ix b):=⟨Iy a.h⟩
def CY:PJ X [] []:= .nil
def pjE(a:QE X e t)(h:PJ X es ts):PJ X (e::es) (t::ts):= .cons a.h h
def CZ{rest:hH Ds}(h:PJ X (v1::a::rest) ts):QE X (.JoinedStr (v1::a::rest) pos) (ot ts K3):=⟨FL h⟩
def C0(c:FN X.K C f)(a:ip e=jg)(b:QE X e d):QE X (.Attribute e f pos) (GK C d f):=⟨FO c b.h (gi a)⟩
def Kg(c:Iw X.K C f)(b:gh e=jg)(d:QE X o g)(h:QE X e i):QS X (.Assign [.Attribute o f a] e pos) (GJ X.K C g i f):=⟨FK c d.h h.h (i6 b)⟩
def y8(h:X.K=K):cj X (.builtin "isinstance") (λxs H Q=>∃x y t b,xs=[x,y]/\TyX K H x t/\
 ((∃n,y= .ty n/\OE K t (.type n)∣b)\/(∃D,y= .ref D/\OE K t (.ref D)∣b)\/∃a c,y= .ref a/\H a&&&Rh V.ref c/\Tf K t (c.map m4)∣b)/\Q (.bl b) H):=by
 subst h;show⟨CV⟩
end
def IF{P:nX}{K:ZA}
 (g:exK K C f=iv) (h:QE (fo (CXO P w) P w K mg base N c b i j A outer s₀ H₀ E) e l):
 QS (fo (CXO P w) P w K mg base N c b i j A outer s₀ H₀ E) (.Raise (hY e) hX pos) (t5 C l λa H=>∃d,H a∣ExO a C (hY d)/\H₀ a=hX/\E (.ref C) (hY d) (drop H a)):=⟨AI g h.h⟩
def IG{X:Cx}{C D f:kG}(j:exK X.K C f=iv)(l:Gl X x)(m:X.mg x∣.ref D)(B:CO X.K D)(c:(x==("__debug__":lx))=jg)(g:(e::es).any aQ=jg)
 (h:∃pl:Sem ri,LB (.Call (.Attribute (.Name x p) "__init__" b) (e::es) [] pos) X.env=(do
  let i<-LB (.Name x p) X.env
  Of b.atName
  let(f,first)<-Pk [i] (O7 i "__init__" pl)
  Si pos f first (Mm pos (vj (e::es) X.env)) (N8 pos (MG [] X.env)))) (n:QA X (e::es) t):
 QE X (.Call (.Attribute (.Name x p) "__init__" b) (e::es) [] pos) (tCB (λxs H Q=>∃a d ys,xs=V.ref a::ys/\ ~~~ys<=9/\H a∣ExO a C d/\Q .non H) t):=by
 rw[Zw,X4]at g;let%[pl|h]:=h;show⟨CP l m B (xQ j) n.h c (ay g.1) (dJ g.2) h⟩
section
#where
end
abbrev clo(c:TE):TE:=λd H Q=>∃a:VK,c d H a/\∀v b,a v b->Q v b
def IH{X:Cx}(h:PE X e b):PE X e (clo b):=λij s c H Q I ⟨d,q,k⟩=>
 thP (h ij s c H d I q) λ_ _ v a f r z=>%[v,a,f,r|k v a z]
def II{X:Cx}(h:PE X e t)(k:∀a H Q,t' a H Q->t a H Q):PE X e t':=λij s a H Q I q=>h ij s a H Q I (k a H Q q)
def C1(h:H r=hX):drop (Qb H r o) r=H:=by
 funext b;unfold drop Qb
 simp_all
section
end
end _LL
namespace _SB
open PySem PyProof.Rows
section
variable(prog:nX)(w:v0)(A:vi)(SI:mu->Prop)
abbrev SC{a:Type}(m:K0 nY Sem a)(Q:a->nY->Prop)(st:nY):Prop:=
 ∀s,SI s->↥A (m.run st) (λr s'=>SI s'/\Q r.1 r.2) (λ_ _=>KZ) s
nonrec abbrev ZY:=oT L6
abbrev Cmp(a:Sm)(D:L6->Prop):Prop:=
 ∀x y s,D x->D y->SI s->↥A (keyLt' a x.1 y.1) (λ_ s'=>SI s') (λ_ _=>KZ) s
end
section
variable{prog:nX}{w:v0}{A:vi}{SI:mu->Prop}{α β:Type}
def au{st:nY}(h:Q a st):(SC prog w A SI) (pure a) Q st:=λs b=>by
 show Z3 %[b|h]
def aq{st:nY}(h:(SC prog w A SI) m (λa b=>(SC prog w A SI) (f a) Q b) st):(SC prog w A SI) (m>>= f) Q st:=λs c=>by
 show Z2 (Lb (h s c) (λr s' h'=>h'.2 s' h'.1) λ_ _ e=>e)
def cu{st:nY}(h:(SC prog w A SI) m Q st)(c:∀a b,Q a b->d a b):(SC prog w A SI) m d st:=λs f=>
 Lb (h s f) (λr s' h'=>%[h'.1|c _ _ h'.2]) λ_ _ e=>e
def gK{st:nY}(h:Q st st):(SC prog w A SI) get Q st:=λs a=>by
 show Z3 %[a|h]
def cU{st:nY}(h:Q ⟨⟩ (f st)):(SC prog w A SI) (Td f) Q st:=λs a=>by
 show Z3 %[a|h]
def IJ{st:nY}(h:Q ⟨⟩ x):(SC prog w A SI) (set x) Q st:=λs a=>by
 show Z3 %[a|h]
def y9{st:nY}(h:∀s,SI s->↥A m (λa s'=>SI s'/\Q a st) (λ_ _=>KZ) s):(SC prog w A SI) (liftM m:K0 nY Sem α) Q st:=λs b=>by
 show Z2 (Lb (h s b) (λa s' h'=>Z3 h') λ_ _ e=>e)
def jA{st:nY}(h:Q () st):(SC prog w A SI) (liftM (PM t):K0 nY Sem Q3) Q st:=y9 λs a=>MX %[a|h]
def bY{st:nY}(I:kj->β->nY->Prop)(j:a<=b)(p:I a c st)
 (l:∀i x st,a<=i->i<b->I i x st->(SC prog w A SI) (f i x) (λr g=>match r with| .done y=>Q y g| .yield y=>I (i+1) y g) st) (m:∀x st,I b x st->Q x st):(SC prog w A SI) (forIn [a:b] c f) Q st:=by
 let q:∀d i x st,i+d=b->a<=i->I i x st->(SC prog w A SI) (forIn (hH.range' i d 1) x f) Q st:=by
  intro d
  induction d with
  | zero=>
    intro i x st e _ h;subst e;show au (m x st h)
  | succ d n=>
    intro i x st e o h;rw[hH.range'_succ,Qz];show aq (cu (l i x st o ⋯ h) λr g h'=>?_);cases r with
    | done y=>show au h'
    | yield y=>show n _ y g ⋯ ⋯ h'
 simp_all
def bg{st:nY}(a:xs[i]?∣x)(h:Q x st):(SC prog w A SI) (ND xs i) Q st:=by
 rw[elem'_eq,a];show au h
def vE{st:nY}(c:Cmp prog w A SI (kindOf st) D)(d:D x)(f:D y)(h:∀b,Q (hY b) st):(SC prog w A SI) (lt' x y) Q st:=
 aq (gK (aq (y9 (λs g=>Mc (Lb (c x y s d f g) (λb s' a=>%[a|au (h b)]) λ_ _ e=>e.elim)))))
def FQ{st:nY}(c:Cmp prog w A SI (kindOf st) D)(hi:(rM st)[i]?∣x)(a:(rM st)[j]?∣y)(d:D x)(e:D y)
 (h:∀b,Q (hY b) st):(SC prog w A SI) (Va i j) Q st:=
 aq (gK (aq (bg hi (aq (bg a (vE c d e h))))))
end
abbrev gA:ri->L6->ZY->kj->kj->kj->K0 nY Sem (lX kj):=sortPriv% PySem.Builtin.gallop
section
variable{prog:nX}{w:v0}{A:vi}{SI:mu->Prop}{α β:Type}
abbrev ga0(left:ri)(a:L6)(b:ZY)(base i:kj):K0 nY Sem (lX ri):=do
 let x<-ND b (base+i)
 if left=iv then lt' x a else do
  let y<-lt' a x
  pure (y.map (!·))
abbrev gaM(f:kj->K0 nY Sem (lX ri))(x:lX (lX kj)×kj×kj):K0 nY Sem (re (lX (lX kj)×kj×kj)):=
 if x.2.1>=x.2.2 then pure (.done (hX,x.2.1,x.2.2))else do
  match<-f (x.2.1+(x.2.2-x.2.1)/2)with
  | some w=>if w=iv then pure (.yield (hX,x.2.1+(x.2.2-x.2.1)/2+1,x.2.2))else pure (.yield (hX,x.2.1,x.2.1+(x.2.2-x.2.1)/2))
  | _=>pure (.done (hY hX,x.2.1,x.2.2))
abbrev ga3(f:kj->K0 nY Sem (lX ri))(n lo hi:kj):K0 nY Sem (lX kj):=do
 let x<-forIn [0:n] (hX,lo,hi) λ_ x=>gaM f x
 match x.1 with
 | some r=>pure r
 | none=>pure (hY x.2.2)
abbrev ga1(f:kj->K0 nY Sem (lX ri))(n hint:kj)(x:lX (lX kj)×kj×kj):K0 nY Sem (re (lX (lX kj)×kj×kj)):=
 if x.2.2>=n-hint then pure (.done (hX,x.2.1,x.2.2))else do
  match<-f (hint+x.2.2)with
  | some w=>if(!w)=iv then pure (.done (hX,x.2.1,x.2.2))else pure (.yield (hX,x.2.2,2*x.2.2+1))
  | _=>pure (.done (hY hX,x.2.1,x.2.2))
abbrev ga2(f:kj->K0 nY Sem (lX ri))(hint:kj)(x:lX (lX kj)×kj×kj):K0 nY Sem (re (lX (lX kj)×kj×kj)):=
 if x.2.2>=hint+1 then pure (.done (hX,x.2.1,x.2.2))else do
  match<-f (hint-x.2.2)with
  | some w=>if w=iv then pure (.done (hX,x.2.1,x.2.2))else pure (.yield (hX,x.2.2,2*x.2.2+1))
  | _=>pure (.done (hY hX,x.2.1,x.2.2))
set_option smartUnfolding false in
def Kh(left:ri)(a:L6)(b:ZY)(base n hint:kj):gA left a b base n hint=(do
 match<-ga0 left a b base hint with
 | some w=>
   if w=iv then(do
    let x<-forIn [0:n] (hX,0,1) λ_ x=>ga1 (ga0 left a b base) n hint x
    match x.1 with
    | some r=>pure r
    | none=>ga3 (ga0 left a b base) n (hint+x.2.1+1) (hint+min x.2.2 (n-hint)))
   else(do
    let x<-forIn [0:n] (hX,0,1) λ_ x=>ga2 (ga0 left a b base) hint x
    match x.1 with
    | some r=>pure r
    | none=>ga3 (ga0 left a b base) n (hint+1-min x.2.2 (hint+1)) (hint-x.2.1))
 | _=>pure hX):=rfl
def xT{f:lX (lX kj)×kj×kj->K0 nY Sem (re (lX (lX kj)×kj×kj))}{g:lX (lX kj)×kj×kj->K0 nY Sem (lX kj)}{n l h:kj}{Q:lX kj->nY->Prop}{st:nY}(P:kj->Prop)(b:P h)
 (c:∀l h (R:re _->nY->Prop),P h->(∀l h,P h->R (.done (hX,l,h)) st/\R (.yield (hX,l,h)) st)->(SC prog w A SI) (f (hX,l,h)) R st) (d:∀l h,P h->(SC prog w A SI) (g (hX,l,h)) Q st):
 (SC prog w A SI) (do let x<-forIn [0:n] (hX,l,h) λ_ x=>f x;g x) Q st:=by
 show aq (cu (bY (Q:=λx a=>a=st/\∃l h,x=(hX,l,h)/\P h) (λ_ x a=>a=st/\∃l h,x=(hX,l,h)/\P h) (Xc _) %[rfl,_,_,rfl|b] ?_ λ_ _ h=>h) ?_)
 .intro _ _ _ _ _ %[rfl,l,h,rfl|p];show c l h _ p λl h p=>%[%[rfl,_,_,rfl|p],rfl,_,_,rfl|p]
 .intro _ _ %[rfl,l,h,rfl|p];show d l h p
def eW{D:L6->Prop}{left:ri}{a:L6}{d:ZY}{base n hint:kj}{Q:lX kj->nY->Prop}{st:nY}(c:Cmp prog w A SI (kindOf st) D)(f:D a)
 (p:∀i,i<n->∃x,d[base+i]?∣x/\D x) (q:hint<n) (h:∀k,k<=n->Q (hY k) st):(SC prog w A SI) (gA left a d base n hint) Q st:=by
 let ask:∀(i:kj) (R:lX ri->nY->Prop),i<n->(∀b,R (hY b) st)->(SC prog w A SI) (ga0 left a d base i) R st:=λi R hi g=>by
  let%[x,r|j]:=p i hi;show aq (bg r ?_);cases left
  .show aq (vE c f j λ_=>au (g _))
  .show vE c j f g
 let m:∀l o,o<=n->(SC prog w A SI) (ga3 (ga0 left a d base) n l o) Q st:=λl o e=>by
  show xT (·<=n) e (λl o R e k=>?_) λl o e=>au (h o e)
  unfold gaM;dsimp only
  split
  .show au (k _ _ e).1
  .show aq (ask _ _ ⋯ λb=>?_);cases b
   .show au (k _ _ ⋯).2
   .show au (k _ _ e).2
 rw[Kh];show aq (ask hint _ q λb=>?_);cases b
 .show xT (λ_=>NX) ⟨⟩ (λl o R _ k=>?_) λl o _=>m _ _ ⋯
  unfold ga2;dsimp only
  split
  .show au (k _ _ ⟨⟩).1
  .show aq (ask _ _ ⋯ λb=>?_);cases b
   .show au (k _ _ ⟨⟩).2
   .show au (k _ _ ⟨⟩).1
 .show xT (λ_=>NX) ⟨⟩ (λl o R _ k=>?_) λl o _=>m _ _ ⋯
  unfold ga1;dsimp only
  split
  .show au (k _ _ ⟨⟩).1
  .show aq (ask _ _ ⋯ λb=>?_);cases b
   .show au (k _ _ ⟨⟩).1
   .show au (k _ _ ⟨⟩).2
end
abbrev ou:ZY->ZY->K0 nY Sem ZY:=sortPriv% PySem.Builtin.mergeLo
abbrev oy:ZY->ZY->K0 nY Sem ZY:=sortPriv% PySem.Builtin.mergeHi
abbrev dv:kj->K0 nY Sem Q3:=sortPriv% PySem.Builtin.setMinGallop
def gU(g:kj):dv g=Td (λs=>Sx (kindOf s) (rM s) (ra s) g (Ms s)):=rfl
abbrev dU(a b r:ZY):Prop:=r.toList.Perm (a.toList++b.toList)
abbrev MI(a b out:ZY)(c d:kj):Prop:=(out.toList++(a.toList.drop c++b.toList.drop d)).Perm (a.toList++b.toList)
def fK(a:ZY)(i j:kj):(a.extract i j).toList=(a.toList.drop i).take (j-i):=by
 simp
def nF(a:ZY)(i:kj):(a.extract i a.size).toList=a.toList.drop i:=by
 rw[fK,Zn]
 simp_all
def nG(a:ZY)(i k:kj):(a.extract i (i+k)).toList=(a.toList.drop i).take k:=by
 simp
def MI.takeA{a b out:ZY}{c d:kj}(h:MI a b out c d)(k:kj):MI a b (out++a.extract c (c+k)) (c+k) d:=by
 unfold MI at h ⊢;rw[Xb,nG,Ze,<-Ze _ (a.toList.drop _),<-VB,X8];show h
def MI.takeB{a b out:ZY}{d c:kj}(h:MI a b out d c)(k:kj):MI a b (out++b.extract c (c+k)) d (c+k):=by
 unfold MI at h ⊢;show Os ?_ h;rw[Xb,nG,Ze];show M9 _ ?_;show(MP _ _ _).trans ?_;rw[<-VB,X8]
def ix{a:ZY}{i:kj}(h:i<a.size)(out:ZY):out++a.extract i (i+1)=out.push a[i]:=by
 apply oT.ext';rw[Xb,nG,PD,Zy ↑h];rfl
def MI.done{a b out:ZY}{c d:kj}(h:MI a b out c d):dU a b (out++a.extract c a.size++b.extract d b.size):=by
 unfold dU;rw[Xb,Xb,nF,nF,Ze];show h
def MI.last{a b out:ZY}{c d:kj}(h:MI a b out c d):dU a b (out++b.extract d b.size++a.extract c a.size):=by
 unfold dU;rw[Xb,Xb,nF,nF,Ze];show(M9 _ O2).trans h
abbrev SG(st a:nY):Prop:=kindOf a=kindOf st/\rM a=rM st/\ra a=ra st/\Ms a=Ms st
def SG.refl(st:nY):SG st st:=%[rfl,rfl,rfl|rfl]
def SG.set{st a:nY}(h:SG st a)(g:kj):SG st (Sx (kindOf a) (rM a) (ra a) g (Ms a)):=h
def SG.trans{s t u:nY}(h:SG s t)(k:SG t u):SG s u:=%[k.1.trans h.1,k.2.1.trans h.2.1,k.2.2.1.trans h.2.2.1|k.2.2.2.trans h.2.2.2]
structure LC (prog:nX) (w:v0) (A:vi) (SI:mu->Prop) (D:L6->Prop) (a b:ZY) (st:nY):Prop where
 c:Cmp prog w A SI (kindOf st) D
 DA:∀{i:kj} (hi:i<a.size),a[i]?∣a[i]/\D a[i]
 DB:∀{i:kj} (hi:i<b.size),b[i]?∣b[i]/\D b[i]
def LC.of{prog:nX}{w:v0}{A:vi}{d:mu->Prop}{D:L6->Prop}{a b:ZY}{s t:nY}(C:LC prog w A d D a b s)(h:SG s t):LC prog w A d D a b t:={C with c:=h.1▸C.c}
section
variable{prog:nX}{w:v0}{A:vi}{SI:mu->Prop}{α β:Type}
structure ML (a b out:ZY) (ia ib:kj):Prop where
 mi:MI a b out ia ib
 na:ia+1<a.size
 nb:ib<b.size
abbrev lo3(a b out:ZY)(c d g k k1:kj):K0 nY Sem (re (lX ZY×ZY×kj×kj×kj×kj×kj)):=ND a c>>= λe=>if(c+1+1==a.size)=iv then pure (.done (hY (out.push e++b.extract d b.size++a.extract (c+1) a.size),out.push e,c+1,d,g,k,k1))else if(decide (k<7)&&decide (k1<7))=iv then pure (.done (hX,out.push e,c+1,d,g,k,k1))else pure (.yield (hX,out.push e,c+1,d,g,k,k1))
abbrev lo2(a b out:ZY)(d c g k f:kj):K0 nY Sem (re (lX ZY×ZY×kj×kj×kj×kj×kj)):=ND b c>>= λe=>if(c+1==b.size)=iv then pure (.done (hY (out.push e++a.extract d a.size++b.extract (c+1) b.size),out.push e,d,c+1,g,k,f))else ND a d>>= λh=>gA iv h b (c+1) (b.size-(c+1)) 0>>= fun|some k1=>if k1>0 then if(c+1+k1==b.size)=iv then pure (.done (hY (out.push e++b.extract (c+1) (c+1+k1) ++a.extract d a.size++b.extract (c+1+k1) b.size),out.push e++b.extract (c+1) (c+1+k1),d,c+1+k1,g,k,k1))else lo3 a b (out.push e++b.extract (c+1) (c+1+k1)) d (c+1+k1) g k k1 else lo3 a b (out.push e) d (c+1) g k k1|_=>pure (.done (hY (out.push e++a.extract d a.size++b.extract (c+1) b.size),out.push e,d,c+1,g,k,f))
abbrev lo1(a b out:ZY)(c d h f g:kj):K0 nY Sem (re (lX ZY×ZY×kj×kj×kj×kj×kj)):=dv g>>= λ_=>ND b d>>= λe=>gA jg e a c (a.size-c) 0>>= fun|some k=>if k>0 then if(c+k+1==a.size)=iv then pure (.done (hY (out++a.extract c (c+k) ++b.extract d b.size++a.extract (c+k) a.size),out++a.extract c (c+k),c+k,d,g,k,f))else if(c+k==a.size)=iv then pure (.done (hY (out++a.extract c (c+k) ++a.extract (c+k) a.size++b.extract d b.size),out++a.extract c (c+k),c+k,d,g,k,f))else lo2 a b (out++a.extract c (c+k)) (c+k) d g k f else lo2 a b out c d g k f|_=>pure (.done (hY (out++a.extract c a.size++b.extract d b.size),out,c,d,g,h,f))
abbrev loI(a b out:ZY)(c d g f h:kj):K0 nY Sem (re (lX ZY×ZY×kj×kj×kj×kj)):=ND b d>>= λi=>ND a c>>= λj=>lt' i j>>= fun|some w=>if w=iv then(ND b d>>= λe=>if(d+1==b.size)=iv then pure (.done (hY (out.push e++a.extract c a.size++b.extract (d+1) b.size),out.push e,c,d+1,0,h+1))else if h+1>=g then pure (.done (hX,out.push e,c,d+1,0,h+1))else pure (.yield (hX,out.push e,c,d+1,0,h+1)))else(ND a c>>= λe=>if(c+1+1==a.size)=iv then pure (.done (hY (out.push e++b.extract d b.size++a.extract (c+1) a.size),out.push e,c+1,d,f+1,0))else if f+1>=g then pure (.done (hX,out.push e,c+1,d,f+1,0))else pure (.yield (hX,out.push e,c+1,d,f+1,0)))|_=>pure (.done (hY (out++a.extract c a.size++b.extract d b.size),out,c,d,f,h))
abbrev loG(a b:ZY):lX ZY×ZY×kj×kj×kj×kj×kj->K0 nY Sem (re (lX ZY×ZY×kj×kj×kj×kj×kj)):=λx=>
 if x.2.2.2.2.1>1 then lo1 a b x.2.1 x.2.2.1 x.2.2.2.1 x.2.2.2.2.2.1 x.2.2.2.2.2.2 (x.2.2.2.2.1-1)else lo1 a b x.2.1 x.2.2.1 x.2.2.2.1 x.2.2.2.2.2.1 x.2.2.2.2.2.2 x.2.2.2.2.1
abbrev loE(x:lX ZY×ZY×kj×kj×kj×kj×kj):K0 nY Sem (re (lX ZY×ZY×kj×kj×kj)):=
 match x.1 with
 | some r=>pure (.done (hY r,x.2.1,x.2.2.1,x.2.2.2.1,x.2.2.2.2.1))
 | none=>do
   dv (x.2.2.2.2.1+1)
   pure (.yield (hX,x.2.1,x.2.2.1,x.2.2.2.1,x.2.2.2.2.1+1))
abbrev loF(a b:ZY)(g:kj)(x:lX ZY×ZY×kj×kj×kj×kj):K0 nY Sem (re (lX ZY×ZY×kj×kj×kj)):=
 match x.1 with
 | some r=>pure (.done (hY r,x.2.1,x.2.2.1,x.2.2.2.1,g))
 | none=>do
   PM "list.sort.gallop"
   let x<-forIn [0:a.size+b.size] (hX,x.2.1,x.2.2.1,x.2.2.2.1,g+1,x.2.2.2.2.1,x.2.2.2.2.2) λ_ x=>loG a b x
   loE x
abbrev loO(a b:ZY):lX ZY×ZY×kj×kj×kj->K0 nY Sem (re (lX ZY×ZY×kj×kj×kj)):=λx=>do
 let y<-forIn [0:a.size+b.size] (hX,x.2.1,x.2.2.1,x.2.2.2.1,0,0) λ_ y=>loI a b y.2.1 y.2.2.1 y.2.2.2.1 x.2.2.2.2 y.2.2.2.2.1 y.2.2.2.2.2
 loF a b x.2.2.2.2 y
abbrev loR(x:lX ZY×ZY×kj×kj×kj):K0 nY Sem ZY:=
 match x.1 with
 | some r=>pure r
 | none=>N7 "internal:list.sort.merge-bound"
set_option smartUnfolding false in
def Ki(a b:ZY):ou a b=(do
 PM "list.sort.merge-lo"
 let e<-ND b 0
 if(1==b.size)=iv then pure (#[e] ++a.extract 0 a.size++b.extract 1 b.size)
 else if(0+1==a.size)=iv then pure (#[e] ++b.extract 1 b.size++a.extract 0 a.size)
 else do
  let s<-get
  let x<-forIn [0:a.size+b.size] (hX,#[e],0,1,gallopOf s) λ_ x=>loO a b x
  loR x):=by
 rfl
variable{D:L6->Prop}{a b out:ZY}{ia ib g k bc z:kj}{st:nY}
def aS{m n:kj}(h: ¬(m==n)=iv):m≠n:=λe=>h (by simp[e])
def C2{k1:kj}{R:re _->nY->Prop}(C:LC prog w A SI D a b st)(m:ML a b out ia ib)(d:z<=out.size+1)
 (e:∀r o,dU a b r->R (.done (hY r,o)) st) (f:∀out ia ib g k k1,ML a b out ia ib->z<=out.size->R (.done (hX,out,ia,ib,g,k,k1)) st/\R (.yield (hX,out,ia,ib,g,k,k1)) st):(SC prog w A SI) (lo3 a b out ia ib g k k1) R st:=by
 let na:=m.na;show aq (bg (C.DA ⋯).1 ?_);let c:=m.mi.takeA 1;rw[ix ⋯]at c
 split
 .show au (e _ _ c.last)
 .rename_i q
  let q:=aS q;let h:=f _ _ _ g k k1 %[c,⋯|m.nb] (by rw[Xg];show d)
  split
  .show au h.1
  .show au h.2
def C3{R:re (lX ZY×ZY×kj×kj×kj×kj×kj)->nY->Prop}(C:LC prog w A SI D a b st)(m:ML a b out ia ib)(p:z<=out.size+2)
 (c:∀r o,dU a b r->R (.done (hY r,o)) st) (e:∀out ia ib g k k1,ML a b out ia ib->z<=out.size->R (.done (hX,out,ia,ib,g,k,k1)) st/\R (.yield (hX,out,ia,ib,g,k,k1)) st):(SC prog w A SI) (lo2 a b out ia ib g k bc) R st:=by
 let%[l,na|nb]:=m;show aq (bg (C.DB nb).1 ?_);let d:=l.takeB 1;rw[ix nb]at d
 split
 .show au (c _ _ d.done)
 .rename_i q
  let q:=aS q;let f:=C.DA (show ia<_ by lia);show aq (bg f.1 (aq (eW C.c f.2 (λi hi=>%[_|C.DB ⋯]) ⋯ λk2 n=>?_)));dsimp only
  split
  .let h:=d.takeB k2
   split
   .show au (c _ _ h.done)
   .rename_i j
    let j:=aS j;show C2 C %[h,na|⋯] (by simp;lia) c e
  .show C2 C %[d,na|⋯] (by rw[Xg];lia) c e
def IK{l:kj}{R:re (lX ZY×ZY×kj×kj×kj×kj×kj)->nY->Prop}(C:LC prog w A SI D a b st)(m:ML a b out ia ib)(n:z<=out.size+2)
 (d:∀c r o,SG st c->dU a b r->R (.done (hY r,o)) c) (e:∀c out ia ib g k k1,SG st c->ML a b out ia ib->z<=out.size->R (.done (hX,out,ia,ib,g,k,k1)) c/\R (.yield (hX,out,ia,ib,g,k,k1)) c):(SC prog w A SI) (lo1 a b out ia ib l bc g) R st:=by
 let na:=m.na;let f:=C.DB m.nb;unfold lo1;rw[gU];show aq (cU ?_);let sg:=(SG.refl st).set g;let d:=λr o=>d _ r o sg
 let e:=λout ia ib g k k1=>e _ out ia ib g k k1 sg
 let C:=C.of sg;show aq (bg f.1 (aq (eW C.c f.2 (λi hi=>%[_|C.DA ⋯]) ⋯ λk p=>?_)));dsimp only
 split
 .let mk:=m.mi.takeA k
  split
  .show au (d _ _ mk.last)
  .rename_i h
   let h:=aS h
   split
   .show au (d _ _ mk.done)
   .rename_i j
    let j:=aS j;show C3 C %[mk,⋯|m.nb] (by simp;lia) d e
 .show C3 C m n d e
def IL{c:kj}{R:re (lX ZY×ZY×kj×kj×kj×kj)->nY->Prop}(C:LC prog w A SI D a b st)(m:ML a b out ia ib)(f:z<=out.size+1)
 (i:∀r o,dU a b r->R (.done (hY r,o)) st) (j:∀out ia ib c bc,ML a b out ia ib->z<=out.size->R (.done (hX,out,ia,ib,c,bc)) st/\R (.yield (hX,out,ia,ib,c,bc)) st):(SC prog w A SI) (loI a b out ia ib g c bc) R st:=by
 let%[l,na|nb]:=m;let d:=C.DA (show ia<_ by lia);let e:=C.DB nb;show aq (bg e.1 (aq (bg d.1 (aq (vE C.c e.2 d.2 λ_=>?_)))));dsimp only
 split
 .show aq (bg e.1 ?_);let m2:=l.takeB 1;rw[ix nb]at m2
  split
  .show au (i _ _ m2.done)
  .rename_i q
   let q:=aS q;let h:=j _ _ _ 0 (bc+1) %[m2,na|⋯] (by rw[Xg];show f)
   split
   .show au h.1
   .show au h.2
 .show aq (bg d.1 ?_);let m2:=l.takeA 1;rw[ix ⋯]at m2
  split
  .show au (i _ _ m2.last)
  .rename_i q
   let q:=aS q;let h:=j _ _ _ (c+1) 0 %[m2,⋯|nb] (by rw[Xg];show f)
   split
   .show au h.1
   .show au h.2
def IM{j:kj}{q:lX ZY}{R:re (lX ZY×ZY×kj×kj×kj)->nY->Prop}(C:LC prog w A SI D a b st)(m:ML a b out ia ib)(e:j+1<=out.size)
 (p:∀d r o,SG st d->dU a b r->R (.done (hY r,o)) d) (s:∀d out ia ib g,SG st d->ML a b out ia ib->j+2<=out.size->R (.yield (hX,out,ia,ib,g)) d):(SC prog w A SI) (loO a b (q,out,ia,ib,g)) R st:=by
 let u:=m.na;show aq (cu (bY (Q:=λx d=>SG st d/\((∃r o,x=(hY r,o)/\dU a b r)\/∃out ia ib f bc,x=(hX,out,ia,ib,f,bc)/\ML a b out ia ib/\j+2<=out.size))
  (λj2 x d=>SG st d/\∃out ia ib f bc,x=(hX,out,ia,ib,f,bc)/\ML a b out ia ib/\j+1+j2<=out.size) (Xc _) %[SG.refl _,_,_,_,_,_,rfl,m|e] ?_ ?_) ?_)
 .intro j2 x i _ l %[c,out,ia,ib,f,bc,rfl,m|e];show IL (C.of c) m ⋯ (λr o h=>%[c|.inl %[r,o,rfl|h]]) λout ia ib f bc h z=>%[%[c|.inr %[_,_,_,_,_,rfl,h|⋯]],c,_,_,_,_,_,rfl,h|z]
 .intro x i %[c,out,ia,ib,f,bc,rfl,m|e];show%[c|.inr %[_,_,_,_,_,ρ,m|⋯]]
 .rintro x i ⟨c,⟨r,o,rfl,n⟩|⟨out,ia,ib,f,bc,rfl,m,e⟩⟩
  .show au (p _ r _ c n)
  .show aq (jA ?_);show aq (cu (bY (Q:=λx d=>SG st d/\((∃r o,x=(hY r,o)/\dU a b r)\/∃out ia ib g f bc,x=(hX,out,ia,ib,g,f,bc)/\ML a b out ia ib/\j+2<=out.size))
    (λj2 x d=>SG st d/\∃out ia ib g f bc,x=(hX,out,ia,ib,g,f,bc)/\ML a b out ia ib/\j+2<=out.size) (Xc _) %[c,_,_,_,_,_,_,rfl,m|e] ?_ ?_) ?_)
   .intro j2 x i _ l %[c,out,ia,ib,g,f,bc,rfl,m|e];unfold loG;rw[<-apply_ite _];show IK (C.of c) m ⋯ (λd r o sg h=>%[SG.trans c sg|.inl %[r,o,rfl|h]]) λd out ia ib g k k1 sg h z=>%[%[SG.trans c sg|.inr %[_,_,_,_,_,_,rfl,h|z]],SG.trans c sg,_,_,_,_,_,_,rfl,h|z]
   .simp_all
   .rintro x i ⟨c,⟨r,o,rfl,n⟩|⟨out,ia,ib,g,f,bc,rfl,m,e⟩⟩
    .show au (p _ r _ c n)
    .show aq (cU (au (s _ _ _ _ _ (c.set _) m e)))
def xU{Q:ZY->nY->Prop}(C:LC prog w A SI D a b st)(v:1<=a.size)(l:1<=b.size)(h:∀r c,SG st c->dU a b r->Q r c):(SC prog w A SI) (ou a b) Q st:=by
 rw[Ki];show aq (jA (aq (bg (C.DB l).1 ?_)));let i:=(show MI a b #[] 0 0 from LL _).takeB 1;rw[ix l]at i
 split
 .show au (h _ st (SG.refl _) i.done)
 rename_i n
 let n:=aS n
 split
 .show au (h _ st (SG.refl _) i.last)
 rename_i p
 let p:=aS p;show aq (gK ?_);show aq (cu (bY (Q:=λx c=>SG st c/\∃r,x.1∣r/\dU a b r)
  (λj x c=>SG st c/\∃out ia ib g,x=(hX,out,ia,ib,g)/\ML a b out ia ib/\j+1<=out.size) (Xc _) %[SG.refl _,_,_,_,_,rfl,%[i,⋯|⋯]|Zi _] ?_ ?_) ?_)
 .intro j x d _ y %[sg,out,ia,ib,g,rfl,m|f];show IM (C.of sg) m f (λc r o e h=>%[SG.trans sg e,r,rfl|h]) λc out ia ib g e h z=>%[SG.trans sg e,_,_,_,_,rfl,h|z]
 .intro x d %[sg,out,ia,ib,g,rfl,m|f];let:=m.na;let q:=m.mi.length_eq;simp only[Z9,Zb,Yg]at q
  lia
 .rintro⟨B,x2⟩ d ⟨sg,r,s,u⟩;subst s;show au (h r d sg u)
end
abbrev MH(a b out:ZY)(na nb:kj):Prop:=(b.toList.take nb++(a.toList.take na++out.reverse.toList)).Perm (a.toList++b.toList)
def za(a out:ZY){k n:kj}(h:k<=n):a.toList.take k++(out++(a.extract k n).reverse).reverse.toList=a.toList.take n++out.reverse.toList:=by
 rw[oT.reverse_append,oT.reverse_reverse,Xb,fK,<-Ze,<-hH.take_add,kj.add_sub_cancel' h]
def MH.takeA{a b out:ZY}{na nb k:kj}(h:MH a b out na nb)(c:k<=na):MH a b (out++(a.extract k na).reverse) k nb:=by
 unfold MH;rw[za _ _ c];show h
def MH.takeB{a b out:ZY}{na nb k:kj}(h:MH a b out na nb)(c:k<=nb):MH a b (out++(b.extract k nb).reverse) na k:=by
 show(MP _ _ _).trans ?_;rw[za _ _ c];show(MP _ _ _).trans h
def jb{a:ZY}{i:kj}(h:i<a.size)(out:ZY):out++(a.extract i (i+1)).reverse=out.push a[i]:=by
 rw[<-ix h,<-oT.empty_append (xs:=a.extract i (i+1)),ix h];rfl
def MH.first{a b out:ZY}{na nb:kj}(h:MH a b out na nb):dU a b (b.extract 0 nb++a.extract 0 na++out.reverse):=by
 unfold dU;rw[Xb,Xb,fK,fK,Ze];show h
def MH.done{a b out:ZY}{na nb:kj}(h:MH a b out na nb):dU a b (a.extract 0 na++b.extract 0 nb++out.reverse):=by
 unfold dU;rw[Xb,Xb,fK,fK,Ze];show(MP _ _ _).trans h
section
variable{prog:nX}{w:v0}{A:vi}{SI:mu->Prop}{α β:Type}
structure MHS (a b out:ZY) (na nb:kj):Prop where
 mh:MH a b out na nb
 pa:1<=na
 pb:2<=nb
 ma:na<=a.size
 mb:nb<=b.size
abbrev hi3(a b:ZY)(na nb:kj)(out:ZY)(g k k1:kj):K0 nY Sem (re (lX ZY×kj×kj×ZY×kj×kj×kj)):=ND a (na-1)>>= λe=>if(na-1==0)=iv then pure (.done (hY (a.extract 0 (na-1) ++b.extract 0 nb++(out.push e).reverse),na-1,nb,out.push e,g,k,k1))else if(decide (k<7)&&decide (k1<7))=iv then pure (.done (hX,na-1,nb,out.push e,g,k,k1))else pure (.yield (hX,na-1,nb,out.push e,g,k,k1))
abbrev hi2(a b:ZY)(na nb:kj)(out:ZY)(g k c:kj):K0 nY Sem (re (lX ZY×kj×kj×ZY×kj×kj×kj)):=ND b (nb-1)>>= λe=>if(nb-1==1)=iv then pure (.done (hY (b.extract 0 (nb-1) ++a.extract 0 na++(out.push e).reverse),na,nb-1,out.push e,g,k,c))else ND a (na-1)>>= λd=>gA iv d b 0 (nb-1) (nb-1-1)>>= fun|some k1=>if nb-1-k1>0 then if(k1==1)=iv then pure (.done (hY (b.extract 0 k1++a.extract 0 na++(out.push e++(b.extract k1 (nb-1)).reverse).reverse),na,k1,out.push e++(b.extract k1 (nb-1)).reverse,g,k,nb-1-k1))else if(k1==0)=iv then pure (.done (hY (a.extract 0 na++b.extract 0 k1++(out.push e++(b.extract k1 (nb-1)).reverse).reverse),na,k1,out.push e++(b.extract k1 (nb-1)).reverse,g,k,nb-1-k1))else hi3 a b na k1 (out.push e++(b.extract k1 (nb-1)).reverse) g k (nb-1-k1)else hi3 a b na (nb-1) (out.push e) g k (nb-1-k1)|_=>pure (.done (hY (a.extract 0 na++b.extract 0 (nb-1) ++(out.push e).reverse),na,nb-1,out.push e,g,k,c))
abbrev hi1(a b:ZY)(na nb:kj)(out:ZY)(d c g:kj):K0 nY Sem (re (lX ZY×kj×kj×ZY×kj×kj×kj)):=dv g>>= λ_=>ND b (nb-1)>>= λe=>gA jg e a 0 na (na-1)>>= fun|some k=>if na-k>0 then if(k==0)=iv then pure (.done (hY (a.extract 0 k++b.extract 0 nb++(out++(a.extract k na).reverse).reverse),k,nb,out++(a.extract k na).reverse,g,na-k,c))else hi2 a b k nb (out++(a.extract k na).reverse) g (na-k) c else hi2 a b na nb out g (na-k) c|_=>pure (.done (hY (a.extract 0 na++b.extract 0 nb++out.reverse),na,nb,out,g,d,c))
abbrev hiI(a b:ZY)(na nb:kj)(out:ZY)(g c d:kj):K0 nY Sem (re (lX ZY×kj×kj×ZY×kj×kj)):=ND b (nb-1)>>= λf=>ND a (na-1)>>= λh=>lt' f h>>= fun|some w=>if w=iv then(ND a (na-1)>>= λe=>if(na-1==0)=iv then pure (.done (hY (a.extract 0 (na-1) ++b.extract 0 nb++(out.push e).reverse),na-1,nb,out.push e,c+1,0))else if c+1>=g then pure (.done (hX,na-1,nb,out.push e,c+1,0))else pure (.yield (hX,na-1,nb,out.push e,c+1,0)))else(ND b (nb-1)>>= λe=>if(nb-1==1)=iv then pure (.done (hY (b.extract 0 (nb-1) ++a.extract 0 na++(out.push e).reverse),na,nb-1,out.push e,0,d+1))else if d+1>=g then pure (.done (hX,na,nb-1,out.push e,0,d+1))else pure (.yield (hX,na,nb-1,out.push e,0,d+1)))|_=>pure (.done (hY (a.extract 0 na++b.extract 0 nb++out.reverse),na,nb,out,c,d))
abbrev hiG(a b:ZY)(x:lX ZY×kj×kj×ZY×kj×kj×kj):K0 nY Sem (re (lX ZY×kj×kj×ZY×kj×kj×kj)):=
 if x.2.2.2.2.1>1 then hi1 a b x.2.1 x.2.2.1 x.2.2.2.1 x.2.2.2.2.2.1 x.2.2.2.2.2.2 (x.2.2.2.2.1-1)else hi1 a b x.2.1 x.2.2.1 x.2.2.2.1 x.2.2.2.2.2.1 x.2.2.2.2.2.2 x.2.2.2.2.1
abbrev hiE(x:lX ZY×kj×kj×ZY×kj×kj×kj):K0 nY Sem (re (lX ZY×kj×kj×ZY×kj)):=
 match x.1 with
 | some r=>pure (.done (hY r,x.2.1,x.2.2.1,x.2.2.2.1,x.2.2.2.2.1))
 | none=>do
   dv (x.2.2.2.2.1+1)
   pure (.yield (hX,x.2.1,x.2.2.1,x.2.2.2.1,x.2.2.2.2.1+1))
abbrev hiF(a b:ZY)(g:kj)(x:lX ZY×kj×kj×ZY×kj×kj):K0 nY Sem (re (lX ZY×kj×kj×ZY×kj)):=
 match x.1 with
 | some r=>pure (.done (hY r,x.2.1,x.2.2.1,x.2.2.2.1,g))
 | none=>do
   PM "list.sort.gallop"
   let x<-forIn [0:a.size+b.size] (hX,x.2.1,x.2.2.1,x.2.2.2.1,g+1,x.2.2.2.2.1,x.2.2.2.2.2) λ_ x=>hiG a b x
   hiE x
abbrev hiO(a b:ZY)(x:lX ZY×kj×kj×ZY×kj):K0 nY Sem (re (lX ZY×kj×kj×ZY×kj)):=do
 let y<-forIn [0:a.size+b.size] (hX,x.2.1,x.2.2.1,x.2.2.2.1,0,0) λ_ y=>hiI a b y.2.1 y.2.2.1 y.2.2.2.1 x.2.2.2.2 y.2.2.2.2.1 y.2.2.2.2.2
 hiF a b x.2.2.2.2 y
abbrev hiR(x:lX ZY×kj×kj×ZY×kj):K0 nY Sem ZY:=
 match x.1 with
 | some r=>pure r
 | none=>N7 "internal:list.sort.merge-bound"
set_option smartUnfolding false in
def Kj(a b:ZY):oy a b=(do
 PM "list.sort.merge-hi"
 let e<-ND a (a.size-1)
 if(a.size-1==0)=iv then pure (a.extract 0 (a.size-1) ++b.extract 0 b.size++ #[e].reverse)
 else if(b.size==1)=iv then pure (b.extract 0 b.size++a.extract 0 (a.size-1) ++ #[e].reverse)
 else do
  let s<-get
  let x<-forIn [0:a.size+b.size] (hX,a.size-1,b.size,#[e],gallopOf s) λ_ x=>hiO a b x
  hiR x):=by
 rfl
variable{D:L6->Prop}{a b out:ZY}{na nb g k bc z:kj}{st:nY}
def C4{k1:kj}{R:re _->nY->Prop}(C:LC prog w A SI D a b st)(m:MHS a b out (na+1) nb)(d:z<=out.size+1)
 (e:∀r o,dU a b r->R (.done (hY r,o)) st) (f:∀na nb out g k k1,MHS a b out na nb->z<=out.size->R (.done (hX,na,nb,out,g,k,k1)) st/\R (.yield (hX,na,nb,out,g,k,k1)) st):(SC prog w A SI) (hi3 a b (na+1) nb out g k k1) R st:=by
 let%[j,p,l,s|n]:=m;show aq (bg (C.DA (i:=na) ⋯).1 ?_);let c:=j.takeA (Yf na);rw[jb ⋯]at c
 split
 .show au (e _ _ c.done)
 rename_i q
 let q:=aS q;let h:=f _ _ _ g k k1 %[c,⋯,l,⋯|n] (by rw[Xg];show d)
 split
 .show au h.1
 .show au h.2
def C5{R:re (lX ZY×kj×kj×ZY×kj×kj×kj)->nY->Prop}(C:LC prog w A SI D a b st)(m:MHS a b out (na+1) (nb+1))(v:z<=out.size+2)
 (c:∀r o,dU a b r->R (.done (hY r,o)) st) (h:∀na nb out g k k1,MHS a b out na nb->z<=out.size->R (.done (hX,na,nb,out,g,k,k1)) st/\R (.yield (hX,na,nb,out,g,k,k1)) st):(SC prog w A SI) (hi2 a b (na+1) (nb+1) out g k bc) R st:=by
 let%[u,j,y,l|B]:=m;let n:=C.DA (i:=na) ⋯;unfold hi2;rw[OH,OH];show aq (bg (C.DB (i:=nb) ⋯).1 ?_);let d:=u.takeB (Yf nb);rw[jb ⋯]at d
 split
 .show au (c _ _ d.first)
 rename_i q
 let q:=aS q;show aq (bg n.1 (aq (eW C.c n.2 (λi hi=>%[_|C.DB ⋯]) ⋯ λk2 e=>?_)));dsimp only;let f:=d.takeB e
 split
 .split
  .show au (c _ _ f.first)
  rename_i p
  let p:=aS p
  split
  .show au (c _ _ f.done)
  rename_i s
  let s:=aS s;show C4 C %[f,j,⋯,l|⋯] (by simp;lia) c h
 .show C4 C %[d,j,⋯,l|⋯] (by rw[Xg];lia) c h
def IP{p:kj}{R:re (lX ZY×kj×kj×ZY×kj×kj×kj)->nY->Prop}(C:LC prog w A SI D a b st)(m:MHS a b out na nb)(s:z<=out.size+2)
 (d:∀c r o,SG st c->dU a b r->R (.done (hY r,o)) c) (e:∀c na nb out g k k1,SG st c->MHS a b out na nb->z<=out.size->R (.done (hX,na,nb,out,g,k,k1)) c/\R (.yield (hX,na,nb,out,g,k,k1)) c):(SC prog w A SI) (hi1 a b na nb out p bc g) R st:=by
 let%[f,u,h,v|j]:=m;obtain⟨nb,rfl⟩:∃n,nb=n+1:=%[nb-1|⋯]
 let l:=C.DB (i:=nb) ⋯;unfold hi1;rw[OH,gU];show aq (cU ?_);let sg:=(SG.refl st).set g;let d:=λr o=>d _ r o sg
 let e:=λna nb out g k k1=>e _ na nb out g k k1 sg
 let C:=C.of sg;show aq (bg l.1 (aq (eW C.c l.2 (λi hi=>%[_|C.DA ⋯]) ⋯ λk y=>?_)));dsimp only
 split
 .let mk:=f.takeA y
  split
  .show au (d _ _ mk.done)
  rename_i q
  let q:=aS q;obtain⟨k,rfl⟩:∃n,k=n+1:=%[k-1|⋯]
  show C5 C %[mk,⋯,h,⋯|j] (by simp;lia) d e
 .obtain⟨na,rfl⟩:∃n,na=n+1:=%[na-1|⋯]
  show C5 C %[f,u,h,v|j] s d e
def IQ{c:kj}{R:re (lX ZY×kj×kj×ZY×kj×kj)->nY->Prop}(C:LC prog w A SI D a b st)(m:MHS a b out na nb)(f:z<=out.size+1)
 (j:∀r o,dU a b r->R (.done (hY r,o)) st) (l:∀na nb out c bc,MHS a b out na nb->z<=out.size->R (.done (hX,na,nb,out,c,bc)) st/\R (.yield (hX,na,nb,out,c,bc)) st):(SC prog w A SI) (hiI a b na nb out g c bc) R st:=by
 let%[p,s,u,v|y]:=m;obtain⟨na,rfl⟩:∃n,na=n+1:=%[na-1|⋯]
 obtain⟨nb,rfl⟩:∃n,nb=n+1:=%[nb-1|⋯]
 let d:=C.DA (i:=na) ⋯;let e:=C.DB (i:=nb) ⋯;unfold hiI;rw[OH,OH];show aq (bg e.1 (aq (bg d.1 (aq (vE C.c e.2 d.2 λ_=>?_)))));dsimp only
 split
 .show aq (bg d.1 ?_);let m2:=p.takeA (Yf na);rw[jb ⋯]at m2
  split
  .show au (j _ _ m2.done)
  rename_i q
  let q:=aS q;let h:=l _ _ _ (c+1) 0 %[m2,⋯,u,⋯|y] (by rw[Xg];show f)
  split
  .show au h.1
  .show au h.2
 .show aq (bg e.1 ?_);let m2:=p.takeB (Yf nb);rw[jb ⋯]at m2
  split
  .show au (j _ _ m2.first)
  rename_i q
  let q:=aS q;let h:=l _ _ _ 0 (bc+1) %[m2,s,⋯,v|⋯] (by rw[Xg];show f)
  split
  .show au h.1
  .show au h.2
def IR{j:kj}{q:lX ZY}{R:re (lX ZY×kj×kj×ZY×kj)->nY->Prop}(C:LC prog w A SI D a b st)(m:MHS a b out na nb)(e:j+1<=out.size)
 (p:∀d r o,SG st d->dU a b r->R (.done (hY r,o)) d) (s:∀d na nb out g,SG st d->MHS a b out na nb->j+2<=out.size->R (.yield (hX,na,nb,out,g)) d):(SC prog w A SI) (hiO a b (q,na,nb,out,g)) R st:=by
 let u:=m.pa;let v:=m.ma;show aq (cu (bY (Q:=λx d=>SG st d/\((∃r o,x=(hY r,o)/\dU a b r)\/∃na nb out f bc,x=(hX,na,nb,out,f,bc)/\MHS a b out na nb/\j+2<=out.size))
  (λj2 x d=>SG st d/\∃na nb out f bc,x=(hX,na,nb,out,f,bc)/\MHS a b out na nb/\j+1+j2<=out.size) (Xc _) %[SG.refl _,_,_,_,_,_,rfl,m|e] ?_ ?_) ?_)
 .intro j2 x i _ l %[c,na,nb,out,f,bc,rfl,m|e];show IQ (C.of c) m ⋯ (λr o h=>%[c|.inl %[r,o,rfl|h]]) λna nb out f bc h z=>%[%[c|.inr %[_,_,_,_,_,rfl,h|⋯]],c,_,_,_,_,_,rfl,h|z]
 .intro x i %[c,na,nb,out,f,bc,rfl,m|e];show%[c|.inr %[_,_,_,_,_,ρ,m|⋯]]
 .rintro x i ⟨c,⟨r,o,rfl,n⟩|⟨na,nb,out,f,bc,rfl,m,e⟩⟩
  .show au (p _ r _ c n)
  .show aq (jA ?_);show aq (cu (bY (Q:=λx d=>SG st d/\((∃r o,x=(hY r,o)/\dU a b r)\/∃na nb out g f bc,x=(hX,na,nb,out,g,f,bc)/\MHS a b out na nb/\j+2<=out.size))
    (λj2 x d=>SG st d/\∃na nb out g f bc,x=(hX,na,nb,out,g,f,bc)/\MHS a b out na nb/\j+2<=out.size) (Xc _) %[c,_,_,_,_,_,_,rfl,m|e] ?_ ?_) ?_)
   .intro j2 x i _ l %[c,na,nb,out,g,f,bc,rfl,m|e];unfold hiG;rw[<-apply_ite _];show IP (C.of c) m ⋯ (λd r o sg h=>%[SG.trans c sg|.inl %[r,o,rfl|h]]) λd na nb out g k k1 sg h z=>%[%[SG.trans c sg|.inr %[_,_,_,_,_,_,rfl,h|z]],SG.trans c sg,_,_,_,_,_,_,rfl,h|z]
   .simp_all
   .rintro x i ⟨c,⟨r,o,rfl,n⟩|⟨na,nb,out,g,f,bc,rfl,m,e⟩⟩
    .show au (p _ r _ c n)
    .show aq (cU (au (s _ _ _ _ _ (c.set _) m e)))
def xV{Q:ZY->nY->Prop}(C:LC prog w A SI D a b st)(E:1<=a.size)(G:1<=b.size)(h:∀r c,SG st c->dU a b r->Q r c):(SC prog w A SI) (oy a b) Q st:=by
 rw[Kj];obtain⟨f,p⟩:∃f,a.size=f+1:=%[a.size-1|⋯]
 rw[show a.size-1=f by lia];show aq (jA (aq (bg (C.DA (i:=f) ⋯).1 ?_)));let n:=(show MH a b #[] (f+1) b.size by
  unfold MH;rw[<-p,<-Zb,<-Zb,Xa,Xa];simpa using O2).takeA (Yf f)
 rw[jb ⋯]at n
 split
 .show au (h _ st (SG.refl _) n.done)
 rename_i s
 let s:=aS s
 split
 .show au (h _ st (SG.refl _) n.first)
 rename_i u
 let u:=aS u;show aq (gK ?_);show aq (cu (bY (Q:=λx c=>SG st c/\∃r,x.1∣r/\dU a b r)
  (λj x c=>SG st c/\∃na nb out g,x=(hX,na,nb,out,g)/\MHS a b out na nb/\j+1<=out.size) (Xc _) %[SG.refl _,_,_,_,_,rfl,%[n,⋯,⋯,⋯|⋯]|Zi _] ?_ ?_) ?_)
 .intro j x d _ H %[sg,na,nb,out,g,rfl,m|l];show IR (C.of sg) m l (λc r o e h=>%[SG.trans sg e,r,rfl|h]) λc na nb out g e h z=>%[SG.trans sg e,_,_,_,_,rfl,h|z]
 .intro x d %[sg,na,nb,out,g,rfl,m|l];let%[v,I,J,L|M]:=m;let q:=v.length_eq;simp only[Z9,Yk,Zb,oT.size_reverse]at q
  lia
 .rintro⟨N,x2⟩ d ⟨sg,r,y,B⟩;subst y;show au (h r d sg B)
end
def vF(i:kj):Sd i=(do
 let s<-get
 let(hY (b,na,c),hY (d,nb,_)):=((ra s)[i]?,(ra s)[i+1]?)|N7 "internal:list.sort.pending"
 set (Ph s (((ra s).setIfInBounds i (b,na+nb,c)).eraseIdxIfInBounds (i+1)))
 let hY k<-gA jg (<-ND (rM s) d) (rM s) b na 0|return jg
 let(b,na):=(b+k,na-k)
 if na==0 then return iv
 let hY nb<-gA iv (<-ND (rM s) (b+na-1)) (rM s) d nb (nb-1)|return jg
 if nb==0 then return iv
 let x:=(rM s).extract b d
 let y:=(rM s).extract d (d+nb)
 let merged<-if na<=nb then ou x y else oy x y
 Td λs=>S8 s (merged.toList.zipIdx.foldl (λa (p,j)=>a.setIfInBounds (b+j) p) (rM s))
 return (Ms (<-get)).isNone):=rfl
def vG:∀m c o (a:ZY),o+c+ ~~~m<=a.size->
 ((m.zipIdx c).foldl (λa p=>a.setIfInBounds (o+p.2) p.1) a).toList=a.toList.take (o+c) ++m++a.toList.drop (o+c+ ~~~m)
 |[],c,o,a,_=>by simp
 | x::m,c,o,a,h=>by
   rw[Qq,Y8];rw[Zr]at h;rw[vG m _ o _ (by rw[Ol];lia),Ra];let b:o+c< ~~~a.toList:=by rw[Zb];lia
   rw[Zr,hH.take_set,hH.drop_set];rw[show o+(c+1)=o+c+1 by lia,show o+c+1+ ~~~m=o+c+(~~~m+1) by lia];let e:(a.toList.take (o+c+1)).set (o+c) x=a.toList.take (o+c) ++[x]:=by
    rw[Nl b];rw[Su _ _ (by rw[Yk];lia)];rw[Yk,PQ ⋯,Oy];rfl
   rw[e];simp
section
variable{prog:nX}{w:v0}{A:vi}{SI:mu->Prop}{α β:Type}
def xW{D:L6->Prop}{i p J:kj}{b X Y L2:hH L6}{Q:ri->nY->Prop}{st:nY}(c:Cmp prog w A SI (kindOf st) D)(e:(rM st).toList=b++X++Y++L2)(L:X≠[])(M:Y≠[])
 (d:∀x∈(rM st).toList,D x) (N:(ra st)[i]?∣(~~~b,~~~X,p)) (q:(ra st)[i+1]?∣(~~~b+ ~~~X,~~~Y,J)) (z:Ms st=hX)
 (h:∀Z g,Z.Perm (X++Y)->(rM g).toList=b++Z++L2->kindOf g=kindOf st->Ms g=hX->ra g=((ra st).setIfInBounds i (~~~b,~~~X+ ~~~Y,p)).eraseIdxIfInBounds (i+1)->Q iv g):(SC prog w A SI) (Sd i) Q st:=by
 let O:0< ~~~X:=Mj.mpr L;let lY:0< ~~~Y:=Mj.mpr M;let sz:(rM st).size= ~~~b+ ~~~X+ ~~~Y+ ~~~L2:=by
  rw[<-Zb,e];simp only[Z9]
 let l:∀i,i<(rM st).size->∃x,(rM st)[i]?∣x/\D x:=λi hi=>%[(rM st)[i],by simp|d _ ∅]
 let sub:∀(u v i:kj) (hi:i<((rM st).extract u v).size),((rM st).extract u v)[i]?∣((rM st).extract u v)[i]/\D ((rM st).extract u v)[i]:=λu v i hi=>%[J6 hi|by rw[oT.getElem_extract];show d _ ∅]
 rw[vF];show aq (gK ?_);rw[N,q];dsimp only;let%[y,T|U]:=l (~~~b+ ~~~X) ⋯;show aq (IJ (aq (bg T (aq (eW c U (λi hi=>l _ ⋯) O λk hk=>?_)))));dsimp only
 split
 .show au (h (X++Y) _ (LL _) (by change(rM st).toList=_;rw[e];simp) rfl z rfl)
 rename_i C
 let C:=aS C;let%[x,hx|dx]:=l (~~~b+k+(~~~X-k) -1) ⋯;show aq (bg hx (aq (eW c dx (λi hi=>l _ ⋯) ⋯ λk2 B=>?_)));dsimp only
 split
 .show au (h (X++Y) _ (LL _) (by change(rM st).toList=_;rw[e];simp) rfl z rfl)
 rename_i E
 let E:=aS E;let ex:((rM st).extract (~~~b+k) (~~~b+ ~~~X)).toList=X.drop k:=by
  rw[fK,e,Ze,Ze,Qs,Nm ⋯,Sc,Mw,QD ⋯,X9 (by rw[Yg];lia),Zn (by rw[Yg];lia)]
 let G:((rM st).extract (~~~b+ ~~~X) (~~~b+ ~~~X+k2)).toList=Y.take k2:=by
  rw[nG,e,Ze,Qs,Nm (by rw[Z9];lia),Sc,Z9,Oy,SV,X9 ⋯]
 let sx:=tI Lo ex;let sy:=tI Lo G;rw[Zb,Yg]at sx;rw[Zb,Yk]at sy;let H:∀(r:ZY) (f:nY),SG (Ph st (((ra st).setIfInBounds i (~~~b,~~~X+ ~~~Y,p)).eraseIdxIfInBounds (i+1))) f->dU ((rM st).extract (~~~b+k) (~~~b+ ~~~X)) ((rM st).extract (~~~b+ ~~~X) (~~~b+ ~~~X+k2)) r->
  (SC prog w A SI) (do Td (λs=>S8 s (r.toList.zipIdx.foldl (λa (p,j)=>a.setIfInBounds (~~~b+k+j) p) (rM s)));let x<-get;pure (Ms x).isNone) Q f:=λr f sg o=>by
  unfold dU at o;rw[ex,G]at o;show aq (cU (aq (gK (au ?_))));let m:Ms f=hX:=by rw[sg.2.2.2];show z
  change Q (Ms f).isNone _;rw[m];let I: ~~~r.toList=(~~~X-k) +k2:=by
   rw[o.length_eq,Z9,Yg,Yk,PQ B]
  show h (X.take k++r.toList++Y.drop k2) _ ?_ ?_ sg.1 m sg.2.2.1
  .show(Q5 _ (M9 _ o)).trans ?_;rw[<-Ze,X8,Ze,X8]
  .change(S8 f _|>rM).toList=_;let n:rM f=rM st:=sg.2.1;change((r.toList.zipIdx).foldl (λ(a:ZY) (p:L6×kj)=>a.setIfInBounds (~~~b+k+p.2) p.1) (rM f)).toList=_;rw[vG _ 0 _ _ (by rw[I,n,sz];lia),n,e,I];let t1:(b++X++Y++L2).take (~~~b+k+0)=b++X.take k:=by
    rw[PX,Ze,Ze,hH.take_append,Zn ⋯,Mw,X9 ⋯]
   let t2:(b++X++Y++L2).drop (~~~b+k+0+(~~~X-k+k2))=Y.drop k2++L2:=by
    rw[show ~~~b+k+0+(~~~X-k+k2)= ~~~(b++X)+k2 by rw[Z9];lia,Ze,Qs,Nm ⋯,Sc,Mw,QD ⋯]
   rw[t1,t2];simp
 split
 .show aq (xU %[c,sub _ _ _|sub _ _ _] ⋯ ⋯ H)
 .show aq (xV %[c,sub _ _ _|sub _ _ _] ⋯ ⋯ H)
end
structure CR (st0 st:nY) (lo:kj):Prop where
 kind:kindOf st=kindOf st0
 pend:ra st=ra st0
 fail:Ms st=Ms st0
 perm:(rM st).Perm (rM st0)
 same:∀i,i<lo->(rM st)[i]? =(rM st0)[i]?
def CR.refl(st:nY)(lo:kj):CR st st lo:=%[rfl,rfl,rfl,oT.Perm.refl _|λ_ _=>rfl]
def CR.size{a st:nY}{lo:kj}(h:CR a st lo):(rM st).size=(rM a).size:=h.perm.size_eq
def CR.rev{a st:nY}{lo i j:kj}(h:CR a st lo)(hi:lo<=i)(b:j<=(rM st).size):CR a (S8 st (mirror (rM st) i j ((j-i)/2))) lo:=
 %[h.kind,h.pend,h.fail,(mirror_perm _ _ _ _).trans h.perm|λk c=>by
  rw[getElem?_mirror_all b,kw ⋯];show h.same k c]
section
variable{prog:nX}{w:v0}{A:vi}{SI:mu->Prop}{α β:Type}
def oz{i j lo:kj}{a st:nY}(c:Cmp prog w A SI (kindOf a) D)(d:∀x∈(rM a).toList,D x)(r:CR a st lo)(hi:i<(rM a).size)(f:j<(rM a).size)
 (h:∀b,Q (hY b) st):(SC prog w A SI) (Va i j) Q st:=by
 let e:=λx g=>d x ((Rb.mp r.perm).mem_iff.mp g)
 show FQ (r.kind▸c) (J6 (r.size▸hi)) (J6 (r.size▸f)) (e _ ∅) (e _ ∅) h
def t6{st:nY}(h:Q () (S8 st (mirror (rM st) i j ((j-i)/2)))):(SC prog w A SI) (OV i j) Q st:=by
 show cU h
abbrev cuL(lo:kj)(x:lX (lX kj)×kj):K0 nY Sem (re (lX (lX kj)×kj)):=do
 match<-Va (lo+x.2) (lo+x.2-1)with
 | some w=>if w=iv then pure (.done (hX,x.2))else pure (.yield (hX,x.2+1))
 | _=>pure (.done (hY hX,x.2))
abbrev cu3(lo nrem n:kj):K0 nY Sem (lX kj):=do
 OV lo (lo+n)
 let x<-forIn [n:nrem] (hX,n) λ_ x=>cuL lo x
 match x.1 with
 | some r=>pure r
 | none=>pure (hY x.2)
abbrev cuM(lo:kj)(x:lX (lX kj)×kj×kj):K0 nY Sem (re (lX (lX kj)×kj×kj)):=do
 match<-Va (lo+x.2.1) (lo+x.2.1-1)with
 | some w=>
   if w=iv then(if x.2.2>0 then(do
    OV (lo+x.2.1-(x.2.2+1)) (lo+x.2.1)
    pure (.yield (hX,x.2.1+1,0)))else pure (.yield (hX,x.2.1+1,0)))
   else(do
    match<-Va (lo+x.2.1-1) (lo+x.2.1)with
    | some w=>if w=iv then pure (.done (hX,x.2.1,x.2.2))else pure (.yield (hX,x.2.1+1,x.2.2+1))
    | _=>pure (.done (hY hX,x.2.1,x.2.2)))
 | _=>pure (.done (hY hX,x.2.1,x.2.2))
abbrev cu2(lo nrem n:kj):K0 nY Sem (lX kj):=do
 PM "list.sort.descending-run"
 let x<-forIn [n+1:nrem] (hX,n+1,0) λ_ x=>cuM lo x
 match x.1 with
 | some r=>pure r
 | none=>
   if x.2.2>0 then(do
    OV (lo+x.2.1-(x.2.2+1)) (lo+x.2.1)
    cu3 lo nrem x.2.1)else cu3 lo nrem x.2.1
set_option smartUnfolding false in
def Kk(lo nrem:kj):VC lo nrem=(do
 let x<-forIn [1:nrem] (hX,1) λ_ x=>cuL lo x
 match x.1 with
 | some r=>pure r
 | none=>
   if(x.2==nrem)=iv then pure (hY x.2)
   else if x.2>1 then(do
    match<-Va lo (lo+x.2-1)with
    | some w=>if w=iv then pure (hY x.2)else(do
      OV lo (lo+x.2)
      cu2 lo nrem x.2)
    | _=>pure hX)else cu2 lo nrem x.2):=by
 rw[countRun'_eq];rfl
variable{D:L6->Prop}{lo nrem n j:kj}{Q:lX kj->nY->Prop}{st st2:nY}
def C6{q:lX _}{R:re _->nY->Prop}(c:Cmp prog w A SI (kindOf st) D)(d:∀x∈(rM st).toList,D x)(r:CR st st2 lo)(a:lo+nrem<=(rM st).size)(e:j<nrem)
 (f:R (.done (hX,j)) st2) (g:R (.yield (hX,j+1)) st2):(SC prog w A SI) (cuL lo (q,j)) R st2:=
 aq (oz c d r ⋯ ⋯ λb=>by cases b<;> show au (by assumption))
def C7(c:Cmp prog w A SI (kindOf st) D)(d:∀x∈(rM st).toList,D x)(l:lo+nrem<=(rM st).size)(h:∀n a,CR st a lo->1<=n->n<=nrem->Q (hY n) a)
 (r:CR st st2 lo) (n1:1<=n) (g:n<=nrem):(SC prog w A SI) (cu3 lo nrem n) Q st2:=by
 show aq (t6 ?_);let o:=r.rev (j:=lo+n) (Zi _) (by rw[r.size];lia);show aq (cu (bY (Q:=λx a=>CR st a lo/\∃n,x=(hX,n)/\1<=n/\n<=nrem)
  (λj x a=>CR st a lo/\x=(hX,j)) g %[o|rfl] ?_ ?_) ?_)
 .intro j x b f i %[e|rfl];show C6 c d e l i %[e,j,rfl,n7 n1 f|Ye i] %[e|rfl]
 .intro x b %[e|rfl];show%[e,nrem,ρ,n7 n1 g|Zi _]
 .intro x b %[e,m,rfl,p|m2];show au (h m b e p m2)
def IS{q:lX (lX kj)}{k:kj}{R:re (lX (lX kj)×kj×kj)->nY->Prop}(c:Cmp prog w A SI (kindOf st) D)(d:∀x∈(rM st).toList,D x)(r:CR st st2 lo)(g:lo+nrem<=(rM st).size)(e:k+1<=j)(h:j<nrem)
 (f:R (.done (hX,j,k)) st2) (a:∀k st2,CR st st2 lo->k<=j->R (.yield (hX,j+1,k)) st2):(SC prog w A SI) (cuM lo (q,j,k)) R st2:=by
 show aq (oz c d r ⋯ ⋯ λb=>?_);cases b
 .show aq (oz c d r ⋯ ⋯ λb=>?_);cases b
  .show au (a (k+1) _ r e)
  .show au f
 .dsimp only;rw[md rfl]
  split
  .show aq (t6 (au (a 0 _ (r.rev ⋯ (by rw[r.size];lia)) (Xc _))))
  .show au (a 0 _ r (Xc _))
def C8(c:Cmp prog w A SI (kindOf st) D)(d:∀x∈(rM st).toList,D x)(g:lo+nrem<=(rM st).size)(h:∀n a,CR st a lo->1<=n->n<=nrem->Q (hY n) a)
 (r:CR st st2 lo) (s:n<nrem):(SC prog w A SI) (cu2 lo nrem n) Q st2:=by
 show aq (jA ?_);show aq (cu (bY (Q:=λx a=>CR st a lo/\∃m q,x=(hX,m,q)/\q+1<=m/\m<=nrem)
  (λj x a=>CR st a lo/\∃q,x=(hX,j,q)/\q+1<=j) s %[r,0,rfl|UA _ _] ?_ ?_) ?_)
 .intro j x f u l %[e,q,rfl|b];show IS c d e g b l %[e,j,q,rfl,b|Ye l] λk st2 r v=>%[r,k,rfl|X6 v]
 .intro x f %[e,q,rfl|b];show%[e,nrem,q,ρ,b|Zi _]
 .intro x f %[e,m,q,rfl,i|o];let p:=n7 (UA _ _) i;dsimp only
  split
  .show aq (t6 (C7 c d g h (e.rev ⋯ (by rw[e.size];lia)) p o))
  .show C7 c d g h e p o
def vH{lo nrem:kj}{st:nY}(c:Cmp prog w A SI (kindOf st) D)(d:∀x∈(rM st).toList,D x)(i:1<=nrem)(f:lo+nrem<=(rM st).size)
 (h:∀n a,CR st a lo->1<=n->n<=nrem->Q (hY n) a):(SC prog w A SI) (VC lo nrem) Q st:=by
 rw[Kk];show aq (cu (bY (Q:=λx a=>a=st/\∃n,x=(hX,n)/\1<=n/\n<=nrem)
  (λj x a=>a=st/\x=(hX,j)) i %[rfl|rfl] ?_ ?_) ?_)
 .intro j x a g l %[rfl|rfl];show C6 c d (CR.refl _ lo) f l %[rfl,j,rfl,g|Ye l] %[rfl|rfl]
 .intro x a %[rfl|rfl];show%[ρ,nrem,ρ,i|Zi _]
 .intro x e %[q,n,rfl,n1|m];subst q;dsimp only;by_cases o:n=nrem
  .rw[md (by simp[o])];show au (h n e (CR.refl _ _) n1 m)
  rw[kw (by simp[o])];let p:n<nrem:=by lia
  split
  .show aq (oz c d (CR.refl _ lo) ⋯ ⋯ λb=>?_);cases b
   .show aq (t6 (C8 c d f h ((CR.refl e lo).rev (Zi _) ⋯) p))
   .show au (h n e (CR.refl _ _) n1 m)
  .show C8 c d f h (CR.refl e lo) p
end
section
variable{prog:nX}{w:v0}{A:vi}{SI:mu->Prop}{α β:Type}
def CR.move{a st:nY}{lo k l:kj}(h:CR a st lo)(b:lo+k<(rM st).size)(c:l<=k):CR a (S8 st (bubble (rM st) (lo+k) (lo+k-(lo+l)))) lo:=
 %[h.kind,h.pend,h.fail,(bubble_perm _ _ _).trans h.perm|λi hi=>by
  rw[getElem?_bubble b _ ⋯,kw ⋯,kw ⋯];show h.same i hi]
def AJ{lo n ok:kj}{e st:nY}(c:Cmp prog w A SI (kindOf e) D)(d:∀x∈(rM e).toList,D x)(r:CR e st lo)(o:1<=ok)(u:ok<=n)(y:lo+n<=(rM e).size)
 (h:∀a,CR e a lo->Q iv a):(SC prog w A SI) (binarySort' lo n ok) Q st:=by
 rw[binarySort'_eq,kj.max_eq_left o];show aq (cu (bY (Q:=λx a=>x=(hX,())/\CR e a lo) (λk x a=>x=(hX,())/\CR e a lo) u %[rfl|r] ?_ λ_ _ h=>h) ?_)
 .intro k x f v z %[rfl|m];dsimp only;show aq (cu (bY (Q:=λx a=>a=f/\∃l q,x=(hX,l,q)/\l<=q/\q<=k)
   (λj x a=>a=f/\∃l q,x=(hX,l,q)/\l<=q/\q<=k) (Xc _) %[rfl,0,k,rfl,Xc _|Zi _] ?_ λ_ _ h=>h) ?_)
  .intro j x p _ B %[rfl,l,q,rfl,i|g];dsimp only
   split
   .show au %[rfl,l,q,rfl,i|g]
   .let o:l<=(l+q)/2:=by lia
    let s:(l+q)/2<q:=by lia
    generalize (l+q)/2=C at o s ⊢
    show aq (oz c d m ⋯ ⋯ λb=>?_);cases b
    .show au %[rfl,_,q,rfl,s|g]
    .show au %[rfl,l,_,rfl,o|⋯]
  .intro x p %[rfl,l,q,rfl,i|g];dsimp only;rw[moveDown'_eq];show aq (cU (au %[rfl|m.move (by rw[m.size];lia) (n7 i g)]))
 .intro x f %[rfl|m];show au (h f m)
end
abbrev dM:hH (hH L6×kj)->kj->hH (kj×kj×kj)
 |[],_=>[]
 |(r,p)::t,o=>(o,~~~r,p)::dM t (o+ ~~~r)
abbrev bz(a:hH (hH L6×kj)):hH L6:=(a\1).flatten
def cA(a b:hH _):bz (a++b)=bz a++bz b:=by simp[bz]
def a9(a:hH L6×kj)(b:hH _):bz (a::b)=a.1++bz b:=by simp[bz]
def dD:∀a b o,dM (a++b) o=dM a o++dM b (o+ ~~~(bz a))
 |[],b,o=>by simp[dM,bz]
 |(r,p)::t,b,o=>by
  rw[RC,dM,dM,dD t b,a9,Z9,RC,Vi]
def eX:∀a o,~~~(dM a o)= ~~~a
 |[],_=>rfl
 |(r,p)::t,o=>by rw[dM,Zr,Zr,eX t]
structure RI (st0 st:nY) (rp:hH (hH L6×kj)) (rest:hH L6):Prop where
 kind:kindOf st=kindOf st0
 fail:Ms st=hX
 perm:(rM st).toList.Perm (rM st0).toList
 arr:(rM st).toList=bz rp++rest
 pend:(ra st).toList=dM rp 0
 runs:∀r∈rp,r.1≠[]
def RI.size{a st:nY}{b:hH _}{rest:hH L6}(h:RI a st b rest):(rM st).size=(rM a).size:=by
 rw[<-Zb,<-Zb,h.perm.length_eq]
def RI.psize{a st:nY}{b:hH _}{rest:hH L6}(h:RI a st b rest):(ra st).size= ~~~b:=by
 rw[<-Zb,h.pend,eX]
section
variable{prog:nX}{w:v0}{A:vi}{SI:mu->Prop}{α β:Type}
def kM{D:L6->Prop}{f st:nY}{a b:hH _}{X Y:hH L6}{p m i:kj}{rest:hH L6}{Q:ri->nY->Prop}(c:Cmp prog w A SI (kindOf f) D)(d:∀x∈(rM f).toList,D x)
 (h:RI f st (a++(X,p)::(Y,m)::b) rest) (hi:i= ~~~a) (k:∀Z g,RI f g (a++(Z,p)::b) rest-> ~~~Z= ~~~X+ ~~~Y->Q iv g):(SC prog w A SI) (Sd i) Q st:=by
 subst hi;let e:=h.arr;rw[cA,a9,a9]at e;let u:(rM st).toList=bz a++X++Y++(bz b++rest):=by rw[e];simp
 let B:=λx n=>d x (h.perm.mem_iff.mp n)
 let l:=h.pend;rw[dD,dM,dM,QL]at l;let pl:=eX a 0;let C:=by
  let:(ra st).toList[~~~a]?∣(~~~(bz a),~~~X,p):=by
   rw[l,Ya ⋯,pl,Oy];rfl
  simpa using this
 let E:=by
  let:(ra st).toList[~~~a+1]?∣(~~~(bz a)+ ~~~X,~~~Y,m):=by
   rw[l,Ya ⋯,pl,Mw];rfl
  simpa using this
 let v:=h.runs (X,p) ∅;show xW (h.kind▸c) u v (h.runs (Y,m) ∅) B C E h.fail λZ g y z G H o=>?_
 let s: ~~~Z= ~~~X+ ~~~Y:=by rw[y.length_eq,Z9]
 show k Z g %[G.trans h.kind,H,?_,?_,?_|λr j=>?_] s
 .show Os ?_ h.perm;rw[z,u];rw[show bz a++X++Y++(bz b++rest)=bz a++(X++Y) ++(bz b++rest) by simp];show Q5 _ (M9 _ y)
 .rw[z,cA,a9];simp
 .rw[o,oT.toList_eraseIdxIfInBounds,Ra,l,dD,dM,QL];rw[Su _ _ ⋯,pl,Oy,hH.set_cons_zero];rw[hH.eraseIdx_append_of_length_le ⋯,pl,Mw,hH.eraseIdx_cons_succ,hH.eraseIdx_cons_zero];rw[s,Vi]
 .rcases Xk j with j|j
  .show h.runs r (Ys _ j)
  .rcases Yu.mp j with rfl|j
   .intro q;let n:=Mj.mpr v;dsimp only at q n;rw[q,UM]at s
    lia
   .show h.runs r (by simp[j])
def CR.toRI{d b a:nY}{f:hH _}{rest:hH L6}{lo n:kj}(h:RI d b f rest)(r:CR b a lo)(j: ~~~(bz f)=lo)(o:lo+n<=(rM b).size):
 ∃R c,RI d a f (R++c)/\ ~~~R=n:=by
 let l:=r.size;show%[((rM a).toList.drop lo).take n,(rM a).toList.drop (lo+n),%[r.kind.trans h.kind,r.fail.trans h.fail,(Rb.mp r.perm).trans h.perm,?_,r.pend▸h.pend|h.runs]|?_]
 .let e:(rM a).toList.take lo=bz f:=by
   let m:(rM a).toList.take lo=(rM b).toList.take lo:=by
    apply Pm;intro i;rw[Pu,Pu]
    split
    .rename_i hi
     let:=r.same i hi;simpa using this
    .rfl
   rw[m,h.arr,X9 ⋯,Zn ⋯]
  rw[<-e];let g:=X8 n ((rM a).toList.drop lo);rw[VB]at g;rw[g,(X8 lo (rM a).toList)]
 grind
def mL{α:Type}(f:α->α):∀l x,(l++[x]).modify l.length f=l++[f x]
 |[],x=>rfl
 | y::l,x=>by
   rw[RC,Zr,hH.modify_succ_cons,mL f l x,RC]
def kN{α:Type}(l:hH α):l=[]\/∃a x,l=a++[x]:=by
 by_cases h:l=[]
 .show .inl h
 .show .inr %[l.dropLast,l.getLast h|(hH.dropLast_concat_getLast h).symm]
def AK{α:Type}(l:hH α)(h:1< ~~~l):∃a x y,l=a++x::y::[]:=by
 rcases kN l with rfl|⟨a,y,rfl⟩
 .simp at h
 .rcases kN a with rfl|⟨b,x,rfl⟩
  .simp at h
  .show%[b,x,y|by simp]
def RI.pushed{a st:nY}{c:hH _}{R rest:hH L6}{lo m:kj}(h:RI a st c (R++rest))(d: ~~~(bz c)=lo)(e: ~~~R=m)(f:1<=m):RI a (Ph st ((ra st).push (lo,m,0))) (c++[(R,0)]) rest:=by
 show%[h.kind,h.fail,h.perm,?_,?_|λr b=>?_]
 .rw[h.arr,cA,a9];simp[bz]
 .rw[PD,h.pend,dD,dM,dM,QL,d,e]
 .rcases Xk b with b|b
  .show h.runs r b
  .rw[Xl b]
   grind
def RI.powered{a st:nY}{b:hH _}{rest:hH L6}{X:hH L6}{p:kj}(d:kj)(h:RI a st (b++[(X,p)]) rest):RI a (Ph st ((ra st).modify ((ra st).size-1) λx=>(x.fst,x.2.fst,d))) (b++[(X,d)]) rest:=by
 show%[h.kind,h.fail,h.perm,?_,?_|λr c=>?_]
 .rw[h.arr,cA,cA,a9,a9]
 .rw[oT.toList_modify,h.psize,h.pend,dD,dD];rw[show(b++[(X,p)]).length-1= ~~~(dM b 0) by rw[eX];simp];change hH.modify (dM b 0++[_]) _ _=_;rw[mL];rfl
 .rcases Xk c with c|c
  .show h.runs r (Ys _ c)
  .rw[Xl c];show h.runs (X,p) ∅
abbrev srP(lo n:kj):K0 nY Sem (re (lX Q3×kj)):=do
 Td λs=>Ph s ((ra s).push (lo,n,0))
 pure (.yield (hX,lo+n))
abbrev sr1(size lo n:kj):K0 nY Sem (re (lX Q3×kj)):=do
 let s<-get
 match(ra s).back? with
 | hY (a,n1,_)=>do
   let x<-forIn [0:size] (hX,()) λ_ _=>(do
    let s<-get
    match if(ra s).size>1 then(ra s)[(ra s).size-2]? else hX with
    | hY (_,_,o)=>
      if o<=power' size (2*a+n1) (2*a+n1+n1+n) size then pure (.done (hX,()))
      else(do
       let b<-Sd ((ra s).size-2)
       if(!b)=iv then pure (.done (hY (),()))else pure (.yield (hX,())))
    | _=>pure (.done (hX,())))
   match x.1 with
   | some r=>pure (.done (hY r,lo))
   | none=>do
     Td λs=>Ph s ((ra s).modify ((ra s).size-1) λx=>(x.1,x.2.1,power' size (2*a+n1) (2*a+n1+n1+n) size))
     srP lo n
 | _=>srP lo n
abbrev srO(size:kj)(x:lX Q3×kj):K0 nY Sem (re (lX Q3×kj)):=
 if x.2>=size then pure (.done (hX,x.2))
 else do
  match<-VC x.2 (size-x.2)with
  | some n=>
    if n<Te size size 0 then(do
     PM "list.sort.binary-insertion"
     let b<-binarySort' x.2 (min (size-x.2) (Te size size 0)) n
     if(!b)=iv then pure (.done (hY (),x.2))else sr1 size x.2 (min (size-x.2) (Te size size 0)))
    else sr1 size x.2 n
  | _=>pure (.done (hY (),x.2))
abbrev srT(size:kj)(x:lX Q3×kj):K0 nY Sem Q3:=
 match x.1 with
 | some r=>pure r
 | none=>do
   let x<-forIn [0:size] (hX,()) λ_ _=>(do
    let s<-get
    if(ra s).size<=1 then pure (.done (hX,()))
    else(do
     let b<-Sd (if Vg (λx=>decide (x<(ra s)[(ra s).size-2+1]?.elim 0 λx=>x.2.1)) (if(ra s).size-2>0 then lX.map (λx=>x.2.1) (ra s)[(ra s).size-2-1]? else hX)=iv then(ra s).size-2-1 else(ra s).size-2)
     if(!b)=iv then pure (.done (hY (),()))else pure (.yield (hX,()))))
   match x.1 with
   | some r=>pure r
   | none=>pure ()
set_option smartUnfolding false in
def Kl:sortRuns'=(do
 let s<-get
 let x<-forIn [0:(rM s).size] (hX,0) λ_ x=>srO (rM s).size x
 srT (rM s).size x):=by
 rw[sortRuns'_eq];rfl
def C9{D:L6->Prop}{st m:nY}{v:hH (hH L6×kj)}{R e:hH L6}{lo n:kj}{T:re (lX Q3×kj)->nY->Prop}(c:Cmp prog w A SI (kindOf st) D)(d:∀x∈(rM st).toList,D x)(o:RI st m v (R++e))(q: ~~~(bz v)=lo)(p: ~~~R=n)(J:1<=n)
 (L:∀a h,RI st h a e-> ~~~(bz a)=lo+n->T (.yield (hX,lo+n)) h):(SC prog w A SI) (sr1 (rM st).size lo n) T m:=by
 show aq (gK ?_);rcases kN v with y|⟨N,⟨O,U⟩,y⟩
 .subst y;let B:(ra m).back? =hX:=by
   let:=o.psize;simp[oT.back?,this]
  rw[B];show aq (cU (au (L _ _ (o.pushed q p J) (by rw[cA,Z9,q,a9];simp[bz,p]))))
 .let B:(ra m).back?∣(~~~(bz N),~~~O,U):=by
   rw[<-oT.getLast?_toList,o.pend,y,dD,dM,dM,QL];simp
  rw[B];show aq (cu (bY (Q:=λx h=>x=(hX,())/\∃a,RI st h a (R++e)/\a≠[]/\ ~~~(bz a)=lo) (λj x h=>x=(hX,())/\∃a,RI st h a _/\a≠[]/\ ~~~(bz a)=lo) (Xc _) %[rfl,v,o,by rw[y];simp|q] ?_ ?_) ?_)
  .intro j5 x f _ _ %[rfl,l,b,i|g];show aq (gK ?_);by_cases C:(ra f).size>1
   .let%[r,%[z|E],%[Y5|q5]|rfl]:=AK l (b.psize▸C);let s:(ra f).size-2= ~~~r:=by rw[b.psize];simp
    let G:(ra f)[(ra f).size-2]?∣(~~~(bz r),~~~z,E):=by
     let:(ra f).toList[~~~r]?∣(~~~(bz r),~~~z,E):=by
      rw[b.pend,dD,Ya (by rw[eX];lia),eX,Oy,QL];rfl
     rw[s];simpa using this
    rw[md C,G];dsimp only
    split
    .show au %[rfl,_,b,i|g]
    .show aq (kM c d b s λZ5 Y H I=>au %[rfl,_,H,by simp|?_]);rw[<-g,cA,cA,a9,a9,a9];simp[bz,I]
   .rw[kw C];show au %[rfl,_,b,i|g]
  .intro x f %[rfl,l,b,i|g];show%[ρ,l,b,i|g]
  .intro x f %[rfl,l,b,i|g];dsimp only;let%[r,%[z|E]|rfl]:=(kN l).resolve_left i;show aq (cU (aq (cU (au ?_))));let u:∀M,~~~(bz (r++[(z,M)]))=lo:=λM=>by
    rw[<-g,cA,cA,a9,a9]
   show L _ _ ((b.powered _).pushed (u _) p J) (by rw[cA,Z9,u,a9];simp[bz,p])
def sc_sortMany{D:L6->Prop}{Q:Q3->nY->Prop}{st:nY}(c:Cmp prog w A SI (kindOf st) D)(d:∀x∈(rM st).toList,D x)(h2:1<=(rM st).size)(hp:ra st= #[])(hf:Ms st=hX)
 (h:∀f,(rM f).toList.Perm (rM st).toList->Ms f=hX->Q () f):(SC prog w A SI) sortRuns' Q st:=by
 rw[Kl];show aq (gK ?_);show aq (cu (bY (Q:=λx f=>∃e lo,x=(hX,lo)/\RI st f e [])
  (λj x f=>∃e rest lo,x=(hX,lo)/\RI st f e rest/\ ~~~(bz e)=lo/\j<=lo/\lo<=(rM st).size) (Xc _) %[[],_,0,rfl,%[rfl,hf,LL _,rfl,by rw[hp];rfl|λ_ h=>(nomatch h)],rfl,Zi _|Xc _] ?_ ?_) ?_)
 .intro j x u _ hj %[e,rest,lo,rfl,g,m,G|H];unfold srO;dsimp only;let s1:=g.size;by_cases B:lo>=(rM st).size
  .rw[md B];let I:rest=[]:=by
    let:=tI Lo g.arr;rw[Z9,Zb,s1,m]at this;show xl.mp ⋯
   subst I;show au %[e,lo,rfl|g]
  rw[kw B];let T:∀x∈(rM u).toList,D x:=λx hx=>d x (g.perm.mem_iff.mp hx)
  let c1:Cmp prog w A SI (kindOf u) D:=g.kind▸c;show aq (vH c1 T ⋯ ⋯ λn o U n1 n2=>?_);dsimp only;by_cases v:n<Te (rM st).size (rM st).size 0
  .rw[md v];show aq (jA (aq (AJ c1 T U n1 ⋯ ⋯ λJ r3=>?_)));rw[kw ∅];let%[R,y,s|z]:=CR.toRI (n:=min ((rM st).size-lo) (Te (rM st).size (rM st).size 0)) g r3 m ⋯;show C9 c d s m z ⋯ λL f r l=>%[_,_,_,rfl,r,l,⋯|⋯]
  .rw[kw v];let%[R,y,s|z]:=CR.toRI (n:=n) g U m ⋯;show C9 c d s m z ⋯ λL f r l=>%[_,_,_,rfl,r,l,⋯|⋯]
 .intro x u %[e,rest,lo,rfl,g,m,G|H];let I:rest=[]:=by
   let:=tI Lo g.arr;rw[Z9,Zb,g.size,m]at this;show xl.mp ⋯
  subst I;show%[e,lo,ρ|g]
 .intro x u %[e,lo,rfl|g];unfold srT;dsimp only;let few:∀(e:hH (hH L6×kj)),(∀r∈e,r.1≠[])-> ~~~e<= ~~~(bz e):=by
   intro e
   induction e with
   | nil=>intro _;show Xc _
   | cons r t ih=>
     intro hr;rw[a9,Zr,Z9];let:=Mj.mpr (hr r ∅);let:=ih λq hq=>hr q (by simp[hq])
     lia
  let l1: ~~~e<=(rM st).size:=by
   let a1:=few e g.runs;let a2:=tI Lo g.arr;rw[Zx,Zb,g.size]at a2
   lia
  show aq (cu (bY (Q:=λx f=>x=(hX,())/\∃e,RI st f e []/\ ~~~e<=1) (λj x f=>x=(hX,())/\∃e,RI st f e []/\ ~~~e<=max 1 ((rM st).size-j)) (Xc _) %[rfl,e,g|⋯] ?_ ?_) ?_)
  .intro j x o _ hj %[rfl,e,g|M];show aq (gK ?_);by_cases N:(ra o).size<=1
   .rw[md N];show au %[rfl,e,g|g.psize▸N]
   rw[kw N];let ab:1< ~~~e:=by rw[<-g.psize];lia
   generalize C:(if Vg _ _=iv then(ra o).size-2-1 else(ra o).size-2)=i
   let hi:i+1< ~~~e:=by
    let E:∀(c:Prop) [Decidable c] (n:kj),2<=n->(if c then n-2-1 else n-2) +1<n:=λc _ n hn=>by lia
    rw[<-C,<-g.psize];show E _ _ ⋯
   clear C;obtain⟨a,X,p,Y,q,b,rfl,O⟩:∃a X p Y q b,e=a++(X,p)::(Y,q)::b/\i= ~~~a:=by
    show%[e.take i,e[i].1,e[i].2,e[i+1].1,e[i+1].2,e.drop (i+2),?_|by rw[Yk];lia];let t1:=(X8 i e).symm;rw[Zy ⋯,Zy ⋯]at t1;show t1
   show aq (kM c d g O λZ J s zl=>?_);rw[kw ∅];show au %[rfl,_,s|?_];simp only[Z9,Zr]at M hi ⊢
   lia
  .intro x o %[rfl,e,g|M];show%[ρ,e,g|⋯]
  .intro x o %[rfl,e,g|M];show au (h o g.perm g.fail)
end
end _SB
namespace _ST
open PySem PySem.SetTable
def vJ:∀k,∃q,5^(2^k)=1+2^(k+2)*(2*q+1)
 | 0=>%[0|rfl]
 | k+1=>by
   let%[q|e]:=vJ k;show%[q+2^k*(2*q+1)*(2*q+1)|?_];rw[OB 2 k,kj.pow_mul,e]
   grind
abbrev step(M i:kj):kj:=(i*5+1)%M
abbrev iter(M:kj):kj->kj->kj
 | 0,i=>i
 | n+1,i=>step M (iter M n i)
abbrev geo:kj->kj
 | 0=>0
 | n+1=>geo n*5+1
def t8:∀n,4*geo n+1=5^n
 | 0=>rfl
 | n+1=>by
   let:=t8 n;rw[OB,<-this,geo]
   lia
def kO(M:kj)(i:kj):∀n,iter M n i%M=(5^n*i+geo n)%M
 | 0=>by simp[iter,geo]
 | n+1=>by
   rw[iter,step,kj.mod_mod,geo,OB];rw[Ti,V1,(kO M i n),<-V1,<-Ti]
   congr 1
   grind
def oA:∀(k i e:kj),e<2^k->∃n,n<2^k/\iter (2^k) n i%2^k=e
 | 0,i,e,c=>%[0,by simp|by simp at c;subst c;simp[kj.mod_one]]
 | k+1,i,e,c=>by
   let%[n,N|w]:=oA k i (e%2^k) (Ro _ (Uy k));let d:∀n,iter (2^(k+1)) n i%2^(k+1)%2^k=iter (2^k) n i%2^k:=λn=>by
    rw[P0 _ (Q4 2 (Yf k)),<-P0 _ (Q4 2 (Yf k)),kO,P0 _ (Q4 2 (Yf k)),kO]
   let%[q|b]:=vJ k;let y:geo (2^k)=2^k*(2*q+1):=by
    let g:=t8 (2^k);rw[b,kj.pow_add]at g;let:2^k*2^2*(2*q+1)=4*(2^k*(2*q+1)):=by
     rw[kj.mul_right_comm];lia
    lia
   let f:∀n,iter (2^(k+1)) (n+2^k) i%2^(k+1)=(iter (2^(k+1)) n i+2^k)%2^(k+1):=λn=>by
    rw[kO];let z:5^(n+2^k)*i+geo (n+2^k)=5^(2^k)*(5^n*i+geo n) +geo (2^k):=by
     let O:=t8 (n+2^k);let Q:=t8 n
     grind
    rw[z,b,y];let A:2^(k+1)=2*2^k:=by rw[OB];lia
    let j:2^(k+2)=2*2^(k+1):=by rw[OB];lia
    let p:=kO (2^(k+1)) i n
    generalize 5^n*i+geo n=v at p ⊢
    let B:(1+2^(k+2)*(2*q+1))*v+2^k*(2*q+1)=v+2^k+2^(k+1)*(2*((2*q+1)*v) +q):=by
     rw[kj.add_mul,kj.one_mul,j];let C:2*2^(k+1)*(2*q+1)*v=2^(k+1)*(2*((2*q+1)*v)):=by
      simp only[kj.mul_assoc,kj.mul_left_comm]
     let E:2^k*(2*q+1)=2^k+2^(k+1)*q:=by
      rw[A,V2,kj.mul_one]
      lia
     rw[C,E,V2]
     lia
    rw[B,kj.add_mul_mod_self_left,Ti,<-p,<-Ti]
   let l:=d n;rw[w]at l;let G:iter (2^(k+1)) n i%2^(k+1)<2^(k+1):=Ro _ (Uy _);let m:=f n;rw[Ti,OL (by lia:2^k<2^(k+1))]at m;obtain⟨a,r⟩:∃a,a=iter (2^(k+1)) n i%2^(k+1):=%[_|rfl]
   rw[<-r]at l G m;let o:a=e\/(a+2^k)%2^(k+1)=e:=by
    let s:=UB a (2^k);let H:=UB e (2^k);let I:a/2^k<2:=SK ⋯;let J:e/2^k<2:=SK ⋯;rw[l]at s
    generalize a/2^k=u at s I
    generalize e/2^k=v at H J
    let L:u=0\/u=1:=by lia
    let M:v=0\/v=1:=by lia
    rcases L with rfl|rfl<;> rcases M with rfl|rfl
    .left;lia
    .right
     rw[OL ⋯]
     lia
    .right
     rw[show a+2^k=e+2^(k+1) by lia,kj.add_mod_right,OL c]
    .left;lia
   rcases o with h|h
   .show%[n,⋯|by rw[<-r,h]]
   .show%[n+2^k,⋯|by rw[m,h]]
abbrev stand(t:nI)(h:pp):kj->Probe
 | 0=>t.probeStart h
 | n+1=>t.advance (stand t h n)
abbrev way(t:nI)(h:pp)(n:kj):kj:=(stand t h n).j
abbrev aO(t:nI)(h:pp):kj->kj×kj
 | 0=>(Rq h%(t.mask+1),Rq h)
 | r+1=>leap t.mask (aO t h r).1 (aO t h r).2
def mM(t:nI)(h:pp):∀n,(stand t h n).dummy=hX
 | 0=>rfl
 | n+1=>by
   let:=mM t h n;change(t.advance _).dummy=hX;unfold Q0
   split
   .show this
   .show this
def FR(m i:kj):Ma m i-i<=9:=by
 unfold Ma
 split<;> lia
def AL(t:nI)(h:pp):∀r,∃n,n<=10*r/\∀d,d<=Ma t.mask (aO t h r).1-(aO t h r).1->
 stand t h (n+d)=%[(aO t h r).1+d,Ma t.mask (aO t h r).1-(aO t h r).1-d,(aO t h r).1,(aO t h r).2|hX]:=by
 let a:∀n i b,stand t h n=%[i,Ma t.mask i-i,i,b|hX]->∀d,d<=Ma t.mask i-i->stand t h (n+d)=%[i+d,Ma t.mask i-i-d,i,b|hX]:=by
  intro n i b e d
  induction d with
  | zero=>intro _;rw[PX,e];rfl
  | succ d c=>
    intro f;change t.advance (stand t h (n+d))=_;rw[c ⋯];unfold Q0;rw[md ⋯]
    grind
 intro r
 induction r with
 | zero=>show%[0,Xc _|a 0 _ _ rfl]
 | succ r c=>
   let%[n,g|e]:=c;let j:=FR t.mask (aO t h r).1;show%[n+(Ma t.mask (aO t h r).1-(aO t h r).1) +1,⋯|a _ _ _ ?_];change t.advance _=_;rw[e _ (Zi _)];unfold Q0;rw[kw ⋯];rfl
def FS(h:pp):Rq h<2^64:=by
 unfold Rq
 grind
def oB(t:nI)(h:pp):∀r,(aO t h r).2=Rq h/32^r
 | 0=>by simp[aO]
 | r+1=>by
   change(aO t h r).2/32=_;rw[oB t h r,Sr,OB]
def Da(t:nI)(h:pp):∀r,(aO t h r).1<t.mask+1
 | 0=>Ro _ (R8 _)
 | r+1=>Ro _ (R8 _)
def j8(t:nI)(h:pp):∀m,(aO t h (12+m)).1=iter (t.mask+1) m (aO t h 12).1
 | 0=>rfl
 | m+1=>by
   change((aO t h (12+m)).1*5+1+(aO t h (12+m)).2/32)%(t.mask+1)=step _ _;rw[j8 t h m,oB,Sr,<-OB];let a:Rq h/32^(12+m+1)=0:=by
    show kj.div_eq_of_lt (Zg (FS h) (n7 (by decide:2^64<=32^13) (NS (!1) ⋯)))
   rw[a,PX];rfl
def oC(a:t.mask+1=2^k)(h:pp)(e:kj)(c:e<=t.mask):∃r,r<PB t.mask/\(aO t h r).1=e:=by
 let%[n,d|b]:=oA k _ e ⋯;show%[12+n,by unfold PB;lia|?_];rw[j8,a];rw[<-a]at b;let:iter (t.mask+1) n (aO t h 12).1<t.mask+1:=by rw[<-j8];show Da t h _
 rw[OL this]at b;show a▸b
def xX(a:t.mask+1=2^k)(h:pp)(e:kj)(b:e<=t.mask):∃n,n+10<=10*PB t.mask/\way t h n=e:=by
 let%[r,f|c]:=oC a h e b;let%[n,g|d]:=AL t h r;show%[n,⋯|?_];let:=d 0 (Xc _);unfold way;rw[PX]at this;rw[this];show c
def vK(o:t.dummies= #[]){hashAt:kj->pp}:∀(fuel n m:kj),n<=m->m<n+fuel->t.slot (way t h m)= .empty->
 ∃q,n<=q/\q<=m/\(∀j,n<=j->j<q->∃i,t.slot (way t h j)= .live i/\hashAt i≠h)/\
  ((t.slot (way t h q)= .empty/\O5 t hashAt h fuel (stand t h n)∣.empty (way t h q) hX)\/
   ∃i,t.slot (way t h q)= .live i/\hashAt i=h/\O5 t hashAt h fuel (stand t h n)∣.candidate (way t h q) i (stand t h (q+1)))
 | 0,n,m,g,r,_=>by lia
 | fuel+1,n,m,g,r,p=>by
   let d:O5 t hashAt h (fuel+1) (stand t h n)=(match t.slot (stand t h n).j with
    | .empty=>hY _
    | .dummy=>O5 t hashAt h fuel (t.advance {stand t h n with dummy:=hY _})
    | .live i=>if hashAt i==h then hY _ else O5 t hashAt h fuel _):=rfl
   let l:(stand t h n).j=way t h n:=rfl;cases c:t.slot _ with
   | empty=>
     show%[n,Zi _,g,λj a b=>by lia|.inl %[c|?_]];rw[d,l,c,mM]
   | dummy=>
     exfalso;unfold slot at c;dsimp only at c
     split at c
     .lia
     .split at c
      .rename_i q
       rw[o]at q;simp[has]at q
      .lia
   | live i=>
     by_cases f:hashAt i=h
     .show%[n,Zi _,g,λj a b=>by lia|.inr %[i,c,f|?_]];rw[d,l,c];dsimp only;rw[md (by simp[f])];rfl
     .let s:n≠m:=λq=>by rw[q,p]at c;cases c
      let%[q,z,u,v|w]:=vK o fuel (n+1) m ⋯ ⋯ p;let y:O5 t hashAt h (fuel+1) (stand t h n)=O5 t hashAt h fuel (stand t h (n+1)):=by
       rw[d,l,c];dsimp only;rw[kw (by simp[f])];rfl
      show%[q,⋯,u,λj a b=>?_|?_]
      .by_cases e:j=n
       .show e▸%[i,c|f]
       .show v j ⋯ b
      .show y▸w
def oE(xs:oT kj)(j:kj)(d:∀a b (s:a<xs.size) (u:b<xs.size),a<b->xs[a]<xs[b]):∀(fuel lo hi:kj),hi-lo<=fuel->lo<=hi->hi<=xs.size->(∀i (h:i<xs.size),i<lo->xs[i]<j)->(∀i (h:i<xs.size),hi<=i->j<=xs[i])->
 Sj xs j fuel lo hi<=xs.size/\(∀i (h:i<xs.size),i<Sj xs j fuel lo hi->xs[i]<j)/\(∀i (h:i<xs.size),Sj xs j fuel lo hi<=i->j<=xs[i])
 | 0,lo,hi,p,q,f,g,l=>by
   let e:lo=hi:=by lia
   subst e;show%[f,g|l]
 | fuel+1,lo,hi,p,q,f,g,l=>by
   rw[Sj];by_cases c:lo<hi
   .rw[md c];dsimp only;let n:(lo+hi)/2<xs.size:=by lia
    let r:xs.getD ((lo+hi)/2) j=xs[(lo+hi)/2]:=by simp[Rc,n]
    rw[r];by_cases m:xs[(lo+hi)/2]<j
    .rw[md m];show oE xs j d fuel _ hi ⋯ ⋯ f (λi h o=>?_) l;by_cases e:i=(lo+hi)/2
     .subst e;show m
     .show VH (d i _ h n ⋯) m
    .rw[kw m];show oE xs j d fuel lo _ ⋯ ⋯ ⋯ g (λi h o=>?_);by_cases e:i=(lo+hi)/2
     .subst e;lia
     .let:=d _ i n h ⋯
      lia
   .rw[kw c];let e:lo=hi:=by lia
    subst e;show%[f,g|l]
abbrev Db(xs:oT kj):Prop:=∀a b c (d:b<xs.size),a<b->xs[a]<xs[b]
def j9(a:Db xs)(j:kj):M4 xs j<=xs.size/\(∀i (h:i<xs.size),i<M4 xs j->xs[i]<j)/\(∀i (h:i<xs.size),M4 xs j<=i->j<=xs[i]):=
 oE xs j a xs.size 0 xs.size ⋯ (Xc _) (Zi _) (λi h q=>ow q (X2 _)) (λi h q=>by lia)
def Dc(a:Db xs)(h:xs[i]?∣j):M4 xs j=i:=by
 let%[f,c|d]:=j9 a j;let%[hi|e]:=vk.mp h;rcases TJ i _ with q|q|q
 .let:=c i hi q
  lia
 .show q.symm
 .let b:M4 xs j<xs.size:=by lia
  let:=d _ b (Zi _);let:=a _ i b hi q
  lia
def rO{t:nI}(a:Db t.place)(h:t.place[i]?∣j):t.slot j= .live i:=by
 unfold slot;dsimp only;rw[Dc a h,h];simp
def kb{t:nI}(a:Db t.place)(b:t.dummies= #[])(j:kj):(∃i,t.place[i]?∣j/\t.slot j= .live i)\/(j∉t.place.toList/\t.slot j= .empty):=by
 by_cases h:j∈t.place.toList
 .let%[i|hi]:=Xd h;let hi:=↑hi
  show .inl %[i,hi|rO a hi]
 .show .inr %[h|?_];unfold slot;rw[kw,kw]
  .rw[b];simp[has]
  .intro q;show h (OD.mpr (NF ↑q))
def vL(h:t.mask=t'.mask)(x:pp):∀n,stand t x n=stand t' x n
 | 0=>by
   change t.probeStart x=t'.probeStart x;unfold probeStart;rw[h]
 | n+1=>by
   change t.advance _=t'.advance _;rw[vL h x n];unfold Q0;rw[h]
def rP(h:t.mask=t'.mask)(x:pp)(n:kj):way t x n=way t' x n:=by unfold way;rw[vL h]
structure WF (t:nI) (es:oT (pp×ku)):Prop where
 pow:∃k,t.mask+1=2^k
 big:7<=t.mask
 dum:t.dummies= #[]
 rise:Db t.place
 inb:∀j∈t.place.toList,j<=t.mask
 size:t.place.size=es.size
 chain:∀(i j:kj) h x,t.place[i]?∣j->es[i]?∣(h,x)->∃n,way t h n=j/\∀m,m<n->way t h m∈t.place.toList
def nodup_sub [Lk c]:∀{l m:hH c},l.Nodup->(∀x∈l,x∈m)-> ~~~l<= ~~~m
 |[],_,_,_=>Xc _
 | x::l,m,d,a=>by
   let%[f|g]:=Mi.mp d;let b:=a x Zm;let h:=nodup_sub (m:=m.erase x) g λy i=>(SA (λe=>f (!2))).mpr (a y (Zk _ i))
   rw[hH.length_erase_of_mem b]at h;let:=RW b;rw[Zr]
   lia
def xY(W:WF t es)(R:t.place.size<=t.mask)(h:pp):∃m,m+10<=10*PB t.mask/\way t h m∉t.place.toList/\(∀q,q<m->way t h q∈t.place.toList):=by
 let%[k|l]:=W.pow;let ex:∃e,e<=t.mask/\e∉t.place.toList:=by
  show LD λb=>?_
  let: ~~~(q7 (t.mask+1))<= ~~~t.place.toList:=nodup_sub OO λx o=>(λe c=>LD λq=>b %[e,c|q]) x (by let:=wh.mp o;lia)
  rw[Yi,Zb]at this
  lia
 let%[e,c|f]:=ex;let%[n,p|hw]:=xX l h e c;let:∀d,∀n,n<=d->n+10<=10*PB t.mask->way t h n∉t.place.toList->∃m,m+10<=10*PB t.mask/\way t h m∉t.place.toList/\(∀q,q<m->way t h q∈t.place.toList):=by
  intro d
  induction d with
  | zero=>
    intro n r g i;let:n=0:=by lia
    subst this;show%[0,g,i|λq j=>ow j (X2 _)]
  | succ d s=>
    intro n r g i;by_cases a:∀q,q<n->way t h q∈t.place.toList
    .show%[n,g,i|a]
    .let%[q|j]:=ON.mp a;let%[v|u]:=Classical.not_imp.mp j;show s q ⋯ ⋯ u
 show this n n (Zi _) p (hw▸f)
def kP(xs:oT a)(p:kj)(x:a)(b:p<=xs.size):(LS xs p x).toList=xs.toList.take p++x::xs.toList.drop p:=by
 unfold LS;rw[Xb,PD,PF,PF,MW,MW];rw[SV,So,Zn (l:=xs.toList.drop p) ∅];simp
def xZ(xs:oT c)(x:c)(f:p<=xs.size)(i:kj):(LS xs p x)[i]? =if i<p then xs[i]? else if i=p then hY x else xs[i-1]? :=by
 let e:(LS xs p x)[i]? =(LS xs p x).toList[i]? :=by simp
 rw[e,kP xs p x f];let g: ~~~(xs.toList.take p)=p:=!2
 by_cases a:i<p
 .rw[md a,Y9 ⋯,Pu,md a];simp
 .rw[kw a,Ya ⋯,g];by_cases b:i=p
  .rw[md b,b,Oy];rfl
  .rw[kw b];obtain⟨d,h⟩:∃d,i-p=d+1:=%[i-p-1|⋯]
   rw[h,hH.getElem?_cons_succ,N3];rw[show p+d=i-1 by lia];simp
def jc(xs:oT a)(p:kj)(x:a)(b:p<=xs.size):(LS xs p x).size=xs.size+1:=by
 rw[<-Zb,kP xs p x b,Z9,Zr,Yk,Yg,Zb]
 lia
def Dd(t:nI)(h:pp):∀n,(stand t h n).j+(stand t h n).more<=t.mask
 | 0=>by
   change Rq h%(t.mask+1) +(Ma t.mask _-Rq h%(t.mask+1))<=t.mask;let:=Ro (Rq h) (show 0<t.mask+1 from R8 _);unfold Ma
   split<;> lia
 | n+1=>by
   let a:=Dd t h n;change(t.advance _).j+(t.advance _).more<=t.mask;unfold Q0
   split
   .lia
   .dsimp only[leap];let:=Ro ((stand t h n).i*5+1+(stand t h n).perturb/32) (show 0<t.mask+1 from R8 _);unfold Ma
    split<;> lia
def t9(t:nI)(h:pp)(n:kj):way t h n<=t.mask:=by
 let:=Dd t h n;unfold way
 lia
def WF.put(W:WF t es)(Q:way t h m∉t.place.toList)(T:∀q,q<m->way t h q∈t.place.toList)(r f:ri):
 (t.put (way t h m)).2=M4 t.place (way t h m)/\(t.put (way t h m)).1.mask=t.mask/\(t.put (way t h m)).1.place.size=t.place.size+1/\(t.put (way t h m)).1.led=t.led/\(t.put (way t h m)).1.plain=t.plain/\(t.put (way t h m)).1.moves=t.moves/\
  WF {(t.put (way t h m)).1 with led:=r,plain:=f} (LS es (t.put (way t h m)).2 (h,x)):=by
 let U:has t.dummies (way t h m)=jg:=by rw[W.dum];simp[has]
 let Y:t.put (way t h m)=({t with place:=LS t.place (M4 t.place (way t h m)) (way t h m)},M4 t.place (way t h m)):=by
  unfold nI.put;dsimp only;rw[U];rfl
 rw[Y];let%[g,I|J]:=j9 W.rise (way t h m)
 generalize hp:M4 t.place (way t h m)=p at g I J
 let w:p<=es.size:=by rw[<-W.size];show g
 let s3:∀i (hi:i<t.place.size),p<=i->way t h m<t.place[i]:=λi hi q=>by
  let:=J i hi q;rcases Tn this with e|e
  .show ow (by rw[e];simp) Q
  .show e
 let c:∀y,y∈(LS t.place p (way t h m)).toList↔y=way t h m\/y∈t.place.toList:=λy=>by
  rw[kP _ _ _ g,Yr,Yu];let:=X8 p t.place.toList
  constructor
  .rintro(q|q|q)
   .show .inr (Yv q)
   .show .inl q
   .show .inr (hH.mem_of_mem_drop q)
  .rintro(q|q)
   .show .inr (.inl q)
   .rw[<-this]at q;rcases Xk q with q|q
    .show .inl q
    .show .inr (.inr q)
 show%[ρ,ρ,jc _ _ _ g,ρ,ρ,ρ,W.pow,W.big,W.dum,?_,?_,?_|?_]
 .intro a b ha A B;let l:(LS t.place p (way t h m))[a]?∣(LS t.place p (way t h m))[a]:=by simp
  let d:(LS t.place p (way t h m))[b]?∣(LS t.place p (way t h m))[b]:=by simp
  change(LS t.place p (way t h m))[a]<(LS t.place p (way t h m))[b];rw[xZ _ _ g]at l d;let ab:b<t.place.size+1:=(jc t.place p (way t h m) g)▸A;by_cases C:a<p
  .rw[md C]at l;let%[u|E]:=vk.mp l;rw[<-E];by_cases r:b<p
   .rw[md r]at d;let%[f|v]:=vk.mp d;show v▸W.rise a b u f B
   .rw[kw r]at d;by_cases f:b=p
    .rw[md f]at d;show(Za d)▸I a u C
    .rw[kw f]at d;let%[v|G]:=vk.mp d;show G▸W.rise a (b-1) u v ⋯
  .rw[kw C]at l;let r: ¬ b<p:=by lia
   let f: ¬ b=p:=by lia
   rw[kw r,kw f]at d;let%[v|G]:=vk.mp d;rw[<-G];by_cases u:a=p
   .rw[md u]at l;show(Za l)▸s3 (b-1) v ⋯
   .rw[kw u]at l;let%[E|a4]:=vk.mp l;show a4▸W.rise (a-1) (b-1) E v ⋯
 .intro y hy;rcases(c y).mp hy with q|q
  .rw[q];show t9 t h m
  .show W.inb y q
 .rw[jc _ _ _ g,jc _ _ _ w,W.size]
 .intro i j h' L hi o;let M:∀n,way {t with place:=LS t.place p (way t h m),led:=r,plain:=f} h' n=way t h' n:=λn=>rP (t':=t) (by rfl) h' n
  let H:∃n,way t h' n=j/\∀q,q<n->way t h' q∈(LS t.place p (way t h m)).toList:=by
   rw[xZ _ _ g]at hi;rw[xZ _ _ w]at o;by_cases N:i<p
   .rw[md N]at hi o;let%[n,n1|z]:=W.chain i j h' L hi o;show%[n,n1|λq s=>(c _).mpr (.inr (z q s))]
   .rw[kw N]at hi o;by_cases O:i=p
    .rw[md O]at hi o;cases hi;cases o;show%[m,ρ|λq s=>(c _).mpr (.inr (T q s))]
    .rw[kw O]at hi o;let%[n,n1|z]:=W.chain (i-1) j h' L hi o;show%[n,n1|λq s=>(c _).mpr (.inr (z q s))]
  let%[n,n1|z]:=H;show%[n,by rw[M];show n1|λq s=>by rw[M];show z q s]
abbrev nb(t:nI)(h:pp):kj->kj
 | 0=>0
 | r+1=>nb t h r+(Ma t.mask (aO t h r).1-(aO t h r).1) +1
def De(t:nI)(h:pp):∀r d,d<=Ma t.mask (aO t h r).1-(aO t h r).1->
 stand t h (nb t h r+d)=%[(aO t h r).1+d,Ma t.mask (aO t h r).1-(aO t h r).1-d,(aO t h r).1,(aO t h r).2|hX]:=by
 let a:∀n i b,stand t h n=%[i,Ma t.mask i-i,i,b|hX]->∀d,d<=Ma t.mask i-i->stand t h (n+d)=%[i+d,Ma t.mask i-i-d,i,b|hX]:=by
  intro n i b e d
  induction d with
  | zero=>intro _;rw[PX,e];rfl
  | succ d c=>
    intro f;change t.advance (stand t h (n+d))=_;rw[c ⋯];unfold Q0;rw[md ⋯]
    grind
 intro r
 induction r with
 | zero=>show a 0 _ _ rfl
 | succ r c=>
   show a _ _ _ ?_;change t.advance _=_;rw[c _ (Zi _)];unfold Q0;rw[kw ⋯];rfl
def x5(t:nI)(h:pp)(r d:kj)(a:d<=Ma t.mask (aO t h r).1-(aO t h r).1):way t h (nb t h r+d)=(aO t h r).1+d:=by
 unfold way;rw[De t h r d a]
abbrev fM(owner:oT (lX kj))(j:kj):ri:=(owner.getD j (hY 0)).isSome
def rQ(t:nI)(h:pp)(owner:oT (lX kj)):∀(fuel r:kj),(∃a,r<=a/\a<r+fuel/\fM owner (aO t h a).1=jg)->(∀m,m<nb t h r->fM owner (way t h m)=iv)->
 ∃j n,Nq t.mask owner fuel (aO t h r).1 (aO t h r).2∣j/\way t h n=j/\fM owner j=jg/\∀m,m<n->fM owner (way t h m)=iv
 | 0,r,⟨a,p,s,_⟩,_=>by lia
 | fuel+1,r,⟨a,p,s,g⟩,i=>by
   rw[Nq];let u:Ma t.mask (aO t h r).1>=(aO t h r).1:=by unfold Ma;split<;> lia
   let tk:∀k,(owner.getD ((aO t h r).1+k) (hY 0)).isNone=!fM owner ((aO t h r).1+k):=λk=>by
    unfold fM;cases owner.getD ((aO t h r).1+k) (hY 0)<;> rfl
   cases l:(q7 (Ma t.mask (aO t h r).1+1-(aO t h r).1)).find? λk=>(owner.getD ((aO t h r).1+k) (hY 0)).isNone with
   | some k=>
     let%[o,b,bs,c|v]:=hH.find?_eq_some_iff_append.mp l;let d:k∈q7 (Ma t.mask (aO t h r).1+1-(aO t h r).1):=by rw[c];simp
     let d:=wh.mp d;let w:b=q7 k:=by
      let y: ~~~b=k:=by
       let:(q7 (Ma t.mask (aO t h r).1+1-(aO t h r).1))[~~~b]?∣k:=by rw[c];simp
       rw[PR (by let:=(Xj this).1;simpa using this)]at this;show Za this
      let z:b=(q7 (Ma t.mask (aO t h r).1+1-(aO t h r).1)).take k:=by
       rw[c,<-y];simp
      rw[z,hH.take_range,PQ ⋯]
     dsimp only;show%[_,nb t h r+k,ρ,x5 t h r k ⋯,?_|λm f=>?_]
     .rw[tk]at o;simpa using o
     .by_cases q:m<nb t h r
      .show i m q
      .let:=v (m-nb t h r) (w▸wh.mpr ⋯);rw[tk]at this;rw[show m=nb t h r+(m-nb t h r) by lia,x5 t h r _ ⋯];simpa using this
   | none=>
     let all:∀k,k<=Ma t.mask (aO t h r).1-(aO t h r).1->fM owner ((aO t h r).1+k)=iv:=λk d=>by
      let:=(hH.find?_eq_none.mp l) k (wh.mpr ⋯);rw[tk]at this;simpa using this
     let A:r≠a:=λe=>by
      let:=all 0 (Xc _);rw[PX,e,g]at this;cases this
     dsimp only;show rQ t h owner fuel (r+1) %[a,⋯,⋯|g] λm f=>by
      by_cases q:m<nb t h r
      .show i m q
      .let f:m<nb t h r+(Ma t.mask (aO t h r).1-(aO t h r).1) +1:=f;rw[show m=nb t h r+(m-nb t h r) by lia,x5 t h r _ ⋯];show all _ ⋯
structure LO (t:nI) (hs:ZL) (owner:oT _):Prop where
 size:owner.size=t.mask+1
 own:∀j q,owner[j]?∣hY q->∃h,hs[q]?∣h/\∃n,way t h n=j/\∀m,m<n->fM owner (way t h m)=iv
 all:∀q,q< ~~~hs->∃j:kj,owner[j]?∣hY q
 one:∀(j j' q:kj),owner[j]?∣hY q->owner[j']?∣hY q->j=j'
def gW(b:j<owner.size):fM owner j=iv↔∃q,owner[j]?∣hY q:=by
 unfold fM;let e:owner.getD j (hY 0)=owner[j]:=!2
 rw[e];let a:owner[j]?∣owner[j]:=by simp
 rw[a];cases owner[j]with
 | none=>simp
 | some q=>simp
def LO.step(L:LO t f owner)(J:t.mask+1=2^k)(room: ~~~f<=t.mask)(h:pp):
 ∃j,Nq t.mask owner (PB t.mask) (Rq h%(t.mask+1)) (Rq h)∣j/\LO t (f++[h]) (owner.setIfInBounds j (hY f.length)):=by
 let d:∀h n,way t h n<owner.size:=λh n=>by rw[L.size];let:=t9 t h n;lia
 let ex:∃e,e<=t.mask/\fM owner e=jg:=by
  show LD λv=>?_
  let all:∀e,e<t.mask+1->fM owner e=iv:=λe c=>by
   cases q:fM owner e with
   | true=>rfl
   | false=>show ow %[e,⋯|q] v
  letI g:kj->kj:=λe=>((owner[e]?).getD hX).getD 0
  let w:∀e,e<t.mask+1->owner[e]?∣hY (g e):=λe c=>by
   let%[q|o]:=(λe c=>(gW (L.size▸c)).mp (all e c)) e c;change owner[e]?∣hY (((owner[e]?).getD hX).getD 0);rw[o];rfl
  let nd:((q7 (t.mask+1)).map g).Nodup:=by
   rw[Yz,NL];show Xe (λ{a b} M N A q=>A ?_) (Yz.mp OO);let E:=w b (wh.mp N);rw[<-q]at E;show L.one a b _ (w a (wh.mp M)) E
  let:=nodup_sub nd λy O=>by
   let%[e,c|rfl]:=Xm O;let%[h',l|_]:=L.own e _ (w e (wh.mp c));show wh.mpr (Xj l).1
  rw[Z6,Yi,Yi]at this
  lia
 let%[e,c|B]:=ex;let%[r,hr|o]:=oC J h e c;let%[j,n,Q,G,T|U]:=rQ t h owner (PB t.mask) 0 %[r,Xc _,⋯|o▸B] (λm p=>ow p (X2 _));show%[j,Q|?_];let Y:j<owner.size:=G▸d h n;let nj:∀q,owner[j]? ≠hY _:=λq e=>by
  let:=(gW Y).mpr %[q|e];rw[T]at this;cases this
 let get:∀i,(owner.setIfInBounds j (hY f.length))[i]? =if j=i then hY _ else owner[i]? :=λi=>by
  rw[oT.getElem?_setIfInBounds]
  split
  .first|rfl|simp
  .rfl
 let keep:∀i,fM owner i=iv->i<owner.size->fM (owner.setIfInBounds j _) i=iv:=λi hi H=>by
  let%[q|e]:=(gW H).mp hi;show(gW (Ol▸H)).mpr ?_;rw[get]
  split
  .show%[_|ρ]
  .show%[q|e]
 show%[by rw[Ol];show L.size,λi q e=>?_,λq o=>?_|λi I q e s=>?_]
 .rw[get]at e
  split at e
  .rename_i C
   cases e;show%[h,by simp,n,by rw[G,C]|λm p=>keep _ (U m p) (d h m)]
  .let%[h',l,n',e2|e3]:=L.own i q e;show%[h',(Y9 (Xj l).1)▸l,n',e2|λm p=>keep _ (e3 m p) (d h' m)]
 .rw[Z9,Yj]at o;by_cases e:q= ~~~f
  .show%[j|by rw[get,md rfl,e]]
  .let%[i|hi]:=L.all q ⋯;show%[i|?_];rw[get,kw]
   .show hi
   .intro C;rw[<-C]at hi;show nj q hi
 .let u:∀i,owner[i]?∣hY f.length->KZ:=λi e=>by
   let%[h',l|_]:=L.own i _ e;let:=(Xj l).1
   lia
  rw[get]at e s
  split at e<;> split at s
  .lia
  .cases e;show ow s (λz=>u I z)
  .cases s;show ow e (λz=>u i z)
  .show L.one i I q e s
def vM(c:t.mask+1=2^k)(a:oT pp)(room:a.size<=t.mask+1):∃owner,layClean t.mask a∣owner/\LO t a.toList owner:=by
 let d:∀rest done owner,LO t done owner-> ~~~(done++rest)<=t.mask+1->
  ∃b,rest.foldl (λacc h=>do
   let(owner,k)<-acc
   let j<-Nq t.mask owner (PB t.mask) (Rq h%(t.mask+1)) (Rq h)
   pure (owner.setIfInBounds j (hY k),k+1)) (hY (owner,~~~done))∣(b,~~~(done++rest))/\LO t (done++rest) b:=by
  intro rest
  induction rest with
  | nil=>intro done owner L _;show%[owner,by simp|↑L]
  | cons h rest g=>
    intro done owner L i;simp only[Z9,Zr]at i;let%[j,f|l]:=L.step c ⋯ h;let%[b,e|L2]:=g _ _ l (!2);show%[b,?_|↑L2];rw[Y8];let m:(do
     let(owner,k)<-(hY (owner,~~~done))
     let j<-Nq t.mask owner (PB t.mask) (Rq h%(t.mask+1)) (Rq h)
     pure (owner.setIfInBounds j (hY k),k+1))∣(owner.setIfInBounds j (hY done.length),~~~(done++[h])):=by
     change(Nq t.mask owner _ _ _).bind _=_;rw[f];simp
    rw[m,e];simp
 let n:LO t [] (TV (t.mask+1) hX):=%[by simp,λj q e=>by
  rw[Rx]at e
  split at e<;> simp at e,λq o=>ow o (X2 _)|λj p q e _=>by
  rw[Rx]at e
  split at e<;> simp at e]
 let%[owner,e|L]:=d a.toList [] _ n (room);show%[owner,?_|L];unfold layClean;rw[<-oT.foldl_toList];rw[show(0)= ~~~([]) from rfl,e];rfl
def vN(n:kj):∀fuel k,3<=k->n<2^(k+fuel)->(2^k<=2*n\/k=3)->∃a,3<=a/\S7 n fuel (2^k)=2^a/\n<2^a/\(2^a<=2*n\/a=3)
 | 0,k,b,c,d=>%[k,b,rfl,c|d]
 | fuel+1,k,b,c,d=>by
   rw[S7];by_cases h:2^k<=n
   .rw[md h];let e:2^k*2=2^(k+1):=by rw[OB]
    rw[e];show vN n fuel _ ⋯ ((show k+1+fuel=k+(fuel+1) by lia)▸c) (.inl ⋯)
   .rw[kw h];show%[k,b,ρ,⋯|d]
def x6(a:n<2^60):∃k,3<=k/\sizeAbove n=2^k/\n<2^k/\(2^k<=2*n\/k=3):=
 vN n 64 3 (Zi _) (Zg a (NS (!1) ∅)) (.inr rfl)
def oF [Lk c]:∀{l m:hH c},l.Nodup->m.Nodup->(∀x,x∈l↔x∈m)->l.Perm m
 |[],m,_,_,h=>by
  cases m with
  | nil=>simp
  | cons x m=>show ow ((h x).mpr Zm) ∅
 | x::l,m,d,b,h=>by
   let%[f|g]:=Mi.mp d;show Os (SQ x (oF g (b.erase x) λy=>?_)) (hH.perm_cons_erase ((h x).mp Zm)).symm
   constructor
   .intro a;show(SA (λe=>f (!2))).mpr ((h y).mp (Zk _ a))
   .intro a;rcases Yu.mp ((h y).mpr (hH.mem_of_mem_erase a))with q|q
    .show ow q (λe=>by rw[e]at a;show b.not_mem_erase a)
    .show q
def laid_ok{t:nI}(hp:t.mask+1=2^k)(C:7<=t.mask)(es:oT (pp×ku))(room:es.size<=t.mask)(finger moves:kj)(led plain:ri):
 ∃t' c,laid t.mask finger moves led plain (es\1)∣(t',c)/\t'.mask=t.mask/\t'.led=led/\t'.plain=plain/\t'.moves=moves/\WF t' (c.filterMap (es[·]?))/\(c.filterMap (es[·]?)).toList.Perm es.toList:=by
 let%[owner,e|L]:=vM hp (es\1) (by rw[V5];lia);let E:(es\1).toList.length=es.size:=by simp
 obtain⟨live,u⟩:∃live,(q7 (t.mask+1)).filterMap (λj=>(owner.getD j hX).map (λq=>(j,q)))=live:=%[_|rfl]
 show%[%[t.mask,(live\1).toArray,#[],finger,led,moves|plain],(live\2).toArray,by unfold laid;rw[e,<-u];rfl,ρ,ρ,ρ,ρ|?_];let gd:∀j q,owner.getD j hX∣q↔owner[j]?∣hY q:=λj q=>by
  rw[oT.getD_eq_getD_getElem?];cases owner[j]? with
  | none=>simp
  | some o=>simp
 let mem:∀j q,(j,q)∈live↔owner[j]?∣hY q:=λj q=>by
  rw[<-u,LG]
  constructor
  .rintro⟨G,ab,H⟩;let%[w,r|I]:=Ld.mp H;cases I;show(gd j q).mp r
  .intro ho;let:j<owner.size:=by
    let%[d|_]:=vk.mp ho;show d
   show%[j,wh.mpr (by rw[L.size]at this;show this)|?_];rw[(gd j q).mpr ho];rfl
 let g:(live\1).Pairwise (·<·):=by
  rw[<-u,NL,hH.pairwise_filterMap];show VM (λ{a b} s x hx y J=>?_) hH.pairwise_lt_range;let%[_,_|rfl]:=Ld.mp hx;let%[_,_|rfl]:=Ld.mp J;show s
 let v:∀j q,(j,q)∈live->q<es.size:=λj q h=>by
  let%[h',r|_]:=L.own j q ((mem j q).mp h);let:=(Xj r).1
  lia
 let A:(live\2).Nodup:=by
  rw[Yz,NL];show Xe (λ{a b} M C s f=>?_) (by rw[NL]at g;show g);let d:=(mem a.1 a.2).mp M;let N:=(mem b.1 b.2).mp C;rw[<-f]at N;let:=L.one _ _ _ d N
  lia
 let B:(live\2).Perm (q7 es.size):=oF A OO λq=>by
  constructor
  .intro f;let%[%[j|w],d|rfl]:=Xm f;show wh.mpr (v j w d)
  .intro f;let%[j|O]:=L.all q (E▸wh.mp f);show Xn %[(j,q),(mem j q).mpr O|rfl]
 let fm:∀(l:hH kj),(∀q∈l,q<es.size)->l.filterMap (es[·]?)=l.map (λq=>es.getD q (0,LI)):=by
  intro l
  induction l with
  | nil=>intro _;rfl
  | cons q l ih=>
    intro f;let d:=f q Zm;let r:es[q]?∣es.getD q (0,LI):=by simp[Rc,d]
    rw[Y1,r,Yp,ih λy J=>f y (Zk _ J)]
 let Q:((live\2).toArray.filterMap (es[·]?)).toList=(live\2).map (λq=>es.getD q (0,LI)):=by
  rw[oT.toList_filterMap,SL];show fm _ λq f=>by
   let%[%[j|w],d|rfl]:=Xm f;show v j w d
 let er:es.toList=(q7 es.size).map (λq=>es.getD q (0,LI)):=by
  apply OQ
  .simp
  .intro i d N;let d:=↑d
   simp[Rc,d]
 show%[%[%[k|hp],C,ρ,?_,λj O=>?_,?_|λi j h x hi z=>?_]|?_]
 .intro a b M T s;let:=Rt.mp g a b (M) (T) s;simpa using this
 .let%[%[G|q],d|rfl]:=Xm O;let:=(vk.mp ((mem G q).mp d)).1;rw[L.size]at this
  lia
 .rw[<-Zb (xs:=oT.filterMap _ _),Q];simp
 .let hi:(live\1)[i]?∣j:=↑hi
  let z:((live\2).toArray.filterMap (es[·]?)).toList[i]?∣(h,x):=↑z
  rw[Q,Yq,Zl]at z;rw[Zl]at hi;cases U:live[i]? with
  | none=>rw[U]at hi;cases hi
  | some p=>
    let%[G|q]:=p;rw[U]at hi z;cases hi;let hm:=Z8 U;let%[h',r,n,n1|n2]:=L.own _ q ((mem _ q).mp hm);let f:=v _ q hm;let eh:h'=h:=by
     let I:(es\1).toList[q]?∣(es[q]).1:=by simp[f]
     rw[I]at r;let e3:es.getD q (0,LI)=es[q]:=by simp[Rc,f]
     simp only[Function.comp,lX.map_some,e3,lX.some.injEq]at z;rw[z]at r;show(Za r).symm
    subst eh;let wm:∀n,way {mask:=t.mask,place:=(live\1).toArray,dummies:= #[],finger:=finger,led:=led,moves:=moves,plain:=plain} h' n=way t h' n:=λn=>rP (t':=t) (by rfl) h' n
    show%[n,by rw[wm];show n1|λm Y=>?_];rw[wm];let%[w|H]:=(gW (by rw[L.size];let:=t9 t h' m;lia)).mp (n2 m Y);show Xn %[(way t h' m,w),(mem _ _).mpr H|rfl]
 .rw[Q,er];show B.map _
section
variable{prog:nX}{w:v0}{K:Type}[Lk K]{knd:KeyKind prog w K}{A:vi}{E:ZD}{s:mu}
abbrev EL(knd:KeyKind prog w K)(h:yu)(es:oT (pp×ku)):Prop:=∀(i:kj) e,es[i]?∣e->∃r k,e=(zr knd k,m4 r)/\Lc knd h k r
def mO(g:Lc knd s.heap ks r)(h:Q jg s):↥A (QX 8 (.ref r)) Q E s:=by
 let l:=g.typeIs;let%[o,c,n,m,_,p|hi]:=g;unfold QX;show Z2 (Pf l (Z2 (Z3 (Z2 (Lw m p (Z2 ?_))))));rw[<-Pl];show Vr _ (λrest r s'=>r=(hX,())/\s'=s/\∃i,ItemsAre knd i rest) _ ?_ ?_ _ _ %[rfl,rfl,ks|hi]
 .intro x rest r s' %[rfl,rfl,i|d];cases d with
  | @cons k1 v f j q b=>
    let u:=knd.byValue _ _ q;let e:QX 7 x=pure jg:=by
     cases x with
     | ref a=>simp[carriedByValue]at u
     | _=>first|rfl|lia|lia
    show Z2 ?_;rw[e];show Z3 (Z3 %[rfl,rfl,f|b])
 .intro r s' %[rfl,rfl|_];show Z3 h
def x8(d:Lc knd s.heap ks r):∀(l:ZF),(∀y∈l,∃a c,y=m4 a/\Lc knd s.heap c a)->∀{Q:ri->mu->Prop},Q jg s->↥A (searchCouldBeSeen (.ref r) l) Q E s:=by
 intro l g Q h;show Z2 (Vr _ (λrest x s'=>x=(hX,())/\s'=s/\∀y∈rest,∃a c,y=m4 a/\Lc knd s.heap c a) _ ?_ ?_ _ _ %[rfl,rfl|g])
 .intro y rest x s' %[rfl,rfl|e];let%[a,c,rfl|b]:=e y Zm;let f:=λy i=>e y (Zk _ i)
  dsimp only
  split
  .show Z3 %[rfl,rfl|f]
  .show Z2 (TC d (Z2 (TC b (Z2 (mO d (Z2 (mO b (Z3 %[rfl,rfl|f]))))))))
 .intro x s' %[rfl,rfl|_];show Z3 h
def uf(hu:A.units<M3)(ho:s.heap.get? a∣o)(hd:o.data= .set es ep t)(W:WF t es)(room:t.place.size<=t.mask)(ac:t.mask<=9000)
 (el:EL knd s.heap es) (hk:Lc knd s.heap k r)
 (h1:(∃(i:kj) (g:kG),es[i]?∣(zr knd k,m4 g)/\Lc knd s.heap k g)->Q (.there hX) s)
 (h2:∀m,way t (zr knd k) m∉t.place.toList->(∀q,q<m->way t (zr knd k) q∈t.place.toList)->(∀(i:kj) g u,es[i]?∣(zr knd u,m4 g)->Lc knd s.heap u g->u≠k)->Q (.free (way t (zr knd k) m) jg) s):
 ↥A (setSearch a (.ref r) (zr knd k) iv) Q E s:=by
 generalize hh:zr knd k=h at h1 h2
 let hf:t.fits es.size=iv:=by
  unfold fits fill;rw[W.dum];simp[W.size];show W.size▸room
 let%[M,m1,m2|m3]:=xY W room h;let me:t.slot (way t h M)= .empty:=by
  rcases kb W.rise W.dum (way t h M)with⟨i,e,_⟩|⟨_,e⟩
  .show ow (OD.mpr (NF e)) m2
  .show e
 let ae:t.gaveWay=jg:=by
  let%[c|hc]:=W.pow;let hb:=W.big;let c0:c≠0:=λq=>by rw[q]at hc;lia
  let%[c'|rfl]:=kj.exists_eq_succ_of_ne_zero c0;rw[OB]at hc;unfold gaveWay;let:t.mask%2=1:=by lia
  simp[this]
 let N:∀(fuel n:kj) (st:lX Probe),st.getD (t.probeStart h)=stand t h n->n<=M->M<n+fuel->(∀j,j<n->∀(i:kj) g u,t.slot (way t h j)= .live i->es[i]?∣(zr knd u,m4 g)->Lc knd s.heap u g->u≠k)->
  ↥A (MS a (.ref r) h iv fuel st) Q E s:=by
  intro fuel
  induction fuel with
  | zero=>intro n st _ a1 a2;lia
  | succ fuel ih=>
    intro n st ag hn a6 O;unfold MS;show Z2 (p0 ho hd hf ?_);dsimp only;rw[ae];simp only[Zz,Nb];rw[ag]
    generalize al:SY t _ h (stand t h n)=pr
    let l:O5 t (λi=>((es[i]?)\1).getD 0) h (10*PB t.mask) (stand t h n)=pr:=al;let%[q,q1,q2,q3|q4]:=vK (t:=t) W.dum (hashAt:=λi=>((es[i]?)\1).getD 0) (h:=h) (10*PB t.mask) n M hn ⋯ me;rcases q4 with⟨I,e2⟩|⟨i,I,e2,e3⟩
    .rw[e2]at l;subst l;let hq:q=M:=by
      rcases Tn q2 with z|z
      .show z
      .let:=m3 q z;rcases kb W.rise W.dum (way t h q)with⟨i,_,T⟩|⟨z2,_⟩
       .rw[I]at T;cases T
       .show ow this z2
     subst hq;dsimp only;show Z3 (h2 q m2 m3 λi g u p v B=>?_);subst B;rw[hh]at p;let hi:i<es.size:=(vk.mp p).1;let hp:t.place[i]?∣t.place[i]'(W.size▸hi):=by simp
     let%[U,c1|c2]:=W.chain i _ h _ hp p;let C:=rO W.rise hp;let an:U<q:=by
      rcases TJ U q with z|z|z
      .show z
      .rw[z,]at c1;rw[<-c1,me]at C;cases C
      .show ow (c2 q z) m2
     rw[<-c1]at C;by_cases Y:U<n
     .show O U Y i g u C (hh▸p) v rfl
     .let%[G,T|ab]:=q3 U ⋯ an;rw[C]at T;cases T;rw[p]at ab;show ab rfl
    .rw[e3]at l;subst l;obtain⟨x0,p⟩:∃e,es[i]?∣e:=by
      let as:t.place[i]?∣way t h q:=by
       rcases kb W.rise W.dum (way t h q)with⟨G,p1,H⟩|⟨_,H⟩
       .rw[I]at H;cases H;show p1
       .rw[I]at H;cases H
      let:=(vk.mp as).1;show%[es[i]'(W.size▸this)|by simp[<-W.size,this]]
     let%[g,u,rfl|v]:=el i x0 p;let bb:q<M:=kj.lt_of_le_of_ne q2 λz=>by rw[z,me]at I;cases I
     let J:↥A (do
      let f<-Pk [m4 g] (eqBool (m4 g) (m4 r))
      let x<-setState a
      if(iv&&f)=iv then pure (OS hX)
      else match x.2.snd.sameMemory t.moves t.mask with
       | some same=>
         match if same=iv then x.2.snd.slot (way t h q)else Slot.empty with
         | Slot.live G=>
           match x.fst[G]? with
           | hY (_,y')=>do
             let b<-isSame y' (m4 g)
             let d<-pure (if b=iv then hY G else hX)
             match d with
              | none=>do
                PM "set.search.anew"
                MS a (m4 r) h iv fuel hX
              | some G=>
                if f=iv then pure (OS (hY G))
                else MS a (m4 r) h iv fuel (hY (stand t h (q+1)))
           | none=>do
             let d<-pure hX
             match d with
              | none=>do
                PM "set.search.anew"
                MS a (m4 r) h iv fuel hX
              | some G=>
                if f=iv then pure (OS (hY G))
                else MS a (m4 r) h iv fuel (hY (stand t h (q+1)))
         | x=>do
           let d<-pure hX
           match d with
            | none=>do
              PM "set.search.anew"
              MS a (m4 r) h iv fuel hX
            | some G=>
              if f=iv then pure (OS (hY G))
              else MS a (m4 r) h iv fuel (hY (stand t h (q+1)))
       | x=>N7 "set.changed-during-lookup:is-the-new-block-at-the-old-address") Q E s:=by
      show Z2 (vu (wpAny_eqBool_tuple hu v hk (Z2 (p0 ho hd hf ?_))));dsimp only;by_cases B:u=k
      .subst B;rw[Zf rfl];show Z3 (h1 %[i,g,(by rw[p]at e2;show e2)▸p|v])
      .rw[Zh B];let sm:t.sameMemory t.moves t.mask∣iv:=by unfold sameMemory;rw[md ∅]
       rw[sm];simp only[Pj];rw[I];dsimp only;rw[p];dsimp only;let same:isSame (m4 g) (m4 g)=pure iv:=by
        unfold isSame;simp
       show Z2 ?_;rw[same];show Z3 ?_;simp only[Pj];show Z2 (Z3 ?_);dsimp only;show ih (q+1) _ rfl ⋯ ⋯ λj hj i2 r2 k2 s2 g2 t2=>?_
       by_cases a0:j<n
       .show O j a0 i2 r2 k2 s2 g2 t2
       .by_cases a3:j=q
        .subst a3;rw[I]at s2;cases s2;rw[p]at g2;let:g=r2:=by
          let:=Za g2;injection this with _ z
          injection z
         subst this;show(v.inj t2)▸B
        .let%[i3,p1|H]:=q3 j ⋯ ⋯;rw[s2]at p1;cases p1;rw[g2]at H;intro z;rw[z]at H;show H hh
     dsimp only;rw[p];dsimp only;by_cases L:(!t.led)=iv
     .rw[md L];show Z2 (x8 hk _ (λy hy=>?_) ?_)
      .let%[e,a4|rfl]:=Xm hy;let%[i2|hi2]:=oT.getElem?_of_mem ((oT.mem_filter.mp (OD.mp a4)).1);let%[r2,k2,rfl|a5]:=el i2 e hi2;show%[r2,k2,ρ|a5]
      .show J
     .rw[kw L];show J
 show N 100000 0 hX rfl (Xc _) (by unfold PB at m1;lia) (λj hj=>ow hj (X2 _))
end
structure IN (es:oT _) (t:nI) (led:ri):Prop where
 wf:WF t es
 roomy:t.place.size*5<t.mask*3
 small:t.mask<=7\/t.mask+1<=8*es.size
 led:t.led=led
 plain:es.size≠0->t.plain=jg
def IN.fits{es:oT _}{t:nI}{led:ri}(I:IN es t led):t.fits es.size=iv:=by
 unfold MV fill;rw[I.wf.dum];let:=I.roomy;simp[I.wf.size];rw[<-I.wf.size]
 lia
def IN.fresh(finger moves:kj)(led:ri):IN #[] (NT finger moves led) led:=
 %[%[%[3|rfl],Zi _,rfl,λa b c=>ow c (by simp[NT]),λj d=>by simp[NT]at d,rfl|λi j h x hi=>by simp[NT]at hi],show 0*5<7*3 from !1,.inl (Zi _),rfl|λq=>ow rfl q]
section
variable{prog:nX}{w:v0}{K:Type}[Lk K]{knd:KeyKind prog w K}{A:vi}{E:ZD}{s:mu}
def relay_w(d:s.heap.get? a∣o)(e:o.data= .set es z t)(i:t.fits es.size=iv)(B:es.size<=n)(hw:n<=4000)
 (h:∀c t',c.toList.Perm es.toList->WF t' c->t'.led=t.led->t'.plain=t.plain->n<=t'.mask->t'.mask+1<=2*n\/t'.mask<=7->Q () (s>>>s.heap.update a (MC c t'))):
 ↥A (T0 a n) Q E s:=by
 let%[k,j,f,lt|l]:=x6 (n:=n) ⋯;let C:8<=2^k:=n7 (by simp:8<=2^3) (NS ∅ j);let g:2^k<=2*n\/2^k=8:=by
  rcases l with q|q
  .show .inl q
  .show .inr (by rw[q])
 let m:2^k<=8000:=by rcases g with q|q<;> lia
 letI p:nI:={t with mask:=2^k-1}
 let%[t',b,r,G,u,v,H,W|P]:=laid_ok (t:=p) (k:=k) (by change 2^k-1+1=2^k;lia) (by change 7<=2^k-1;lia) es (by change es.size<=2^k-1;lia) t.finger _ t.led t.plain;let y:t.relaid (es\1) n∣(t',b):=by
  unfold relaid;rw[f];show r
 let sz:(b.filterMap (es[·]?)).size=es.size:=by rw[<-Zb,P.length_eq,Zb]
 show Z2 (p0 d e i ?_);dsimp only;rw[f,kw (by rw[PySem.sizeLine_eq];lia)];rw[y];show Z2 ?_;change sh _ A (if((b.filterMap _).size != es.size)=iv then _ else pure _) _ E s;rw[kw (by simp[sz])];show Z3 (Mp d e (h _ t' P W u v ⋯ (by rcases g with q|q<;> lia)) (by rw[sz,PySem.sizeLine_eq];lia))
def Df(d:s.heap.get? a∣o)(e:o.data= .set es i t)(f:t.fits es.size=iv)(j:es.size<=1000)(m:es.size≠0)(c:t.plain=jg)
 (h:∀b t',b.toList.Perm es.toList->IN b t' t.led->t'.plain=jg->Q () (s>>>s.heap.update a (MC b t'))):
 ↥A (T0 a (grown es.size)) Q E s:=by
 let g:grown es.size=es.size*4:=by unfold grown;rw[kw ⋯]
 rw[g];show relay_w d e f ⋯ ⋯ λb t' P W l p n m2=>?_
 let sz:b.size=es.size:=by rw[<-Zb,P.length_eq,Zb]
 show h b t' P %[W,by rw[W.size,sz];lia,⋯,l|λ_=>p▸c] (p▸c)
def AM{led:ri}(M:A.units<M3)(n:s.heap.get? a∣o)(l:o.data= .set es ep t)(I:IN es t led)(hn:es.size+1<=1000)
 (el:EL knd s.heap es) (B:Lc knd s.heap k r) (hv:∀(s':mu) (N:ri->mu->Prop),Lc knd s'.heap k r->N jg s'->↥A (RB 8 (.ref r)) N E s')
 (h1:(∃(i:kj) (p:kG),es[i]?∣(zr knd k,m4 p)/\Lc knd s.heap k p)->Q jg {s with toks:=s.toks+(~~~k+1)})
 (O:(∀(i:kj) (p:kG) (C:hH K),es[i]?∣(zr knd C,m4 p)->Lc knd s.heap C p->C≠k)->∀f t' G h',h'.get? a=hY {o with data:= .set f G t'}->vr a s.heap h'->f.toList.Perm (es.toList++[(zr knd k,m4 r)])->IN f t' led->Q iv {s with heap:=h',toks:=s.toks+(~~~k+1)}):
 ↥A (Ta a (.ref r)) Q E s:=by
 unfold Ta;show vu (Z2 (wpAny_pyHash_tuple M B ?_));unfold S9;show vu ?_;unfold setAddHashedIn;show Z2 (p0 (s:={s with toks:=s.toks+(~~~k+1)}) n l I.fits ?_);dsimp only;let ns:byScan (m4 r) es=jg:=rfl;rw[ns];simp only[Zz,Nb];let rm:=I.roomy;show Z2 (uf (s:={s with toks:=s.toks+(~~~k+1)}) M n l I.wf ⋯ (by rcases I.small with q|q<;> lia) el B (λq=>?_) λm T m2 U=>?_)
 .show Z3 (h1 q)
 .dsimp only;show Z2 (p0 (s:={s with toks:=s.toks+(~~~k+1)}) n l I.fits ?_);dsimp only;let u:=I.wf;let%[p1,Y,p3,p4,p5,p6|Wp]:=u.put (x:=m4 r) T m2 t.led jg;let%[_,_,_,_,_,_|Wq]:=u.put (x:=m4 r) T m2 (t.put (way t (zr knd k) m)).1.led (t.put (way t (zr knd k) m)).1.plain;let v:(t.put (way t (zr knd k) m)).2<=es.size:=by
   rw[p1,<-u.size];show(j9 u.rise _).1
  let d:(LS es (t.put (way t (zr knd k) m)).2 (zr knd k,m4 r)).size=es.size+1:=jc _ _ _ v;let g:(LS es (t.put (way t (zr knd k) m)).2 (zr knd k,m4 r)).toList.Perm (es.toList++[(zr knd k,m4 r)]):=by
   rw[kP _ _ _ v];let q:=X8 (t.put (way t (zr knd k) m)).2 es.toList;show Os hH.perm_middle ?_;rw[q];show O2 (l₁:=[_])
  generalize ab:LS es _ _=c at Wp Wq d g
  let e:∀b:nI,WF b c->b.mask=t.mask->b.place.size=t.place.size+1->b.led=led->b.plain=jg->
   ↥A (do TY a c b;if(!false&&b.tooFull)=iv then do T0 a (grown (es.size+1));pure iv else pure iv) Q E {s with toks:=s.toks+(~~~k+1)}:=λb y e1 e2 e3 e4=>by
   let H:=by
    let q:=K6 (MC c b) n (by rw[P8 c b l];rfl);rwa[P8 c b l]at q
   let b1:=vr.update s.heap a (MC c b);show Z2 (Mp n l ?_ (d▸n7 hn (!1)));let J:b.tooFull=iv↔b.mask*3<=b.place.size*5:=by
    unfold tooFull fill;rw[y.dum];simp
   by_cases hf:b.tooFull=iv
   .rw[md (by simp[hf])];let z:b.fits c.size=iv:=by
     unfold MV fill;rw[y.dum];simp[y.size];show y.size▸(by rw[e1,e2];let:=u.big;lia)
    rw[<-d];show Z2 (Df H rfl z ⋯ ⋯ e4 λh L P3 I3 _=>Z3 ?_);let g2:=by
     let q:=K6 (MC h L) H (by rfl);rwa[P8 h L rfl]at q
    show O U h L _ _ g2 (b1.trans (vr.update _ a _)) (P3.trans g) (by rw[e3]at I3;show I3)
   .rw[kw (by simp[hf])];show Z3 (O U c b _ _ H b1 g %[y,⋯,?_,e3|λ_=>e4]);rw[e1,d];rcases I.small with q|q
    .show .inl q
    .show .inr ⋯
  by_cases j:(t.put (way t (zr knd k) m)).1.plain=iv
  .rw[md j];show Z2 (hv _ _ B (e _ Wp Y p3 I.led rfl))
  .rw[kw j];show e _ Wq Y p3 (p4.trans I.led) ↑j
end
end _ST
namespace _LL
open PySem PySem.Spec PyProof.Rows _ST
abbrev iy{a:Type}[Lk a](ps:hH (kG×a))(p:kG×a):hH (kG×a):=if p.2∈ps\2 then ps else ps++[p]
abbrev bx{a:Type}[Lk a](l:hH (kG×a)):hH (kG×a):=l.foldl iy []
section
variable{κ:Type}[Lk κ]
def Dg{ps:hH _}{p q:kG×κ}(h:q∈iy ps p):q∈ps\/q=p:=by
 unfold iy at h
 split at h
 .show .inl h
 simp_all
def AN{ps:hH (kG×κ)}{p:kG×κ}{k:κ}:k∈(iy ps p)\2↔k∈ps\2\/k=p.2:=by
 unfold iy;by_cases h:p.2∈ps\2
 .rw[md h];show%[.inl|λq=>q.elim id λe=>e▸h]
 .rw[kw h,Zd,Yr];simp
def x9{ps:hH (kG×κ)}{p:kG×κ}(h:(ps\2).Nodup):((iy ps p)\2).Nodup:=by
 unfold iy
 split
 .show h
 .rename_i a
  rw[Zd];show nE h a
def zc:∀(l ps:hH (kG×κ)),(ps\2).Nodup->((l.foldl iy ps)\2).Nodup/\(∀k,k∈(l.foldl iy ps)\2↔k∈ps\2\/k∈l\2)/\(∀q∈l.foldl iy ps,q∈ps\/q∈l)
 |[],ps,h=>%[h,λk=>by simp|λq a=> .inl a]
 | p::l,ps,h=>by
   let%[b,c|d]:=zc l _ (x9 h);rw[Y8];show%[b,λk=>?_|λq a=>?_]
   .rw[c,AN,Yp,Yu]
    grind
   .rcases d q a with z|z
    .rcases Dg z with z|z
     .show .inl z
     .show .inr (z▸Zm)
    .show .inr (Zk _ z)
def eA(l:hH (kG×κ)):((bx l)\2).Nodup:=(zc l [] X1).1
def iA(l:hH (kG×κ))(k:κ):k∈(bx l)\2↔k∈l\2:=by
 let:=(zc l [] X1).2.1 k;simpa [bx]using this
def bn(l:hH (kG×κ)):∀q∈bx l,q∈l:=λq a=>by
 rcases(zc l [] X1).2.2 q a with z|z
 .cases z
 .show z
def ug{l:hH (kG×κ)}{i:kj}{p:kG×κ}(h:l[i]?∣p):bx (l.take (i+1))=iy (bx (l.take i)) p:=by
 unfold bx;rw[X7,h,Tp];rfl
end
section
variable{prog:nX}{w:v0}{κ:Type}[Lk κ]{knd:PySem.KeyKind prog w κ}{A:vi}{E:ZD}{s:mu}{a:kG}
abbrev uh(w:v0)(knd:PySem.KeyKind prog w κ)(a:kG)(ps:hH (kG×hH κ))(h:yu):Prop:=
 ∃o es b t,h.get? a∣o/\o.ExactSet/\o.data= .set es b t/\IN es t (!aW w)/\es.toList.Perm (ps.map λp=>(zr knd p.2,m4 p.1))
def uh.keep(S:uh w knd a ps h)(k:∀o,h.get? a∣o->h'.get? a∣o):uh w knd a ps h':=by
 let%[o,es,b,t,c|r]:=S;show%[o,es,b,t,k o c|r]
def zd(x:Lc knd h k r)(q:∀o,h.get? r∣o->h'.get? r∣o):Lc knd h' k r:=by
 let%[o,b,n,c|z]:=x;show%[o,b,n,q o c|z]
def Dh(u:A.units<M3)(v:uh w knd a ps s.heap)(tk:∀q∈ps,Lc knd s.heap q.2 q.1)(y:Lc knd s.heap p.2 p.1)(room: ~~~ps+1<=1000)
 (B:∀(s':mu) (l:ri->mu->Prop),Lc knd s'.heap p.2 p.1->l jg s'->↥A (RB 8 (.ref p.1)) l E s')
 (m:∀h' b tk,vr a s.heap h'->uh w knd a (iy ps p) h'->s.toks<=tk->Q b {s with heap:=h',toks:=tk}):↥A (Ta a (.ref p.1)) Q E s:=by
 let%[o,es,C,t,n,f,r,I|P]:=v;let hn:=by
  let:=P.length_eq;rw[Z6,Zb]at this;show this
 let mem:∀i e,es[i]?∣e->∃q∈ps,e=(zr knd q.2,m4 q.1):=λi e g=>by
  let:=OD.mpr (NF g);let%[q,c|rfl]:=Xm (P.mem_iff.mp this);show%[q,c|ρ]
 let G:EL knd s.heap es:=λi e g=>by
  let%[q,c|rfl]:=mem i e g;show%[q.1,q.2,ρ|tk q c]
 show AM u n r I ⋯ G y B (λ⟨i,H,e,J⟩=>?_) λd h t' j h' L M N O=>?_
 .let%[q,c|T]:=mem i _ e;let U:H=q.1:=by injection T with _ z;injection z
  subst U;show m s.heap jg _ (vr.refl a s.heap) ?_ (Og _ _);unfold iy;rw[md (Xn %[q,c|(J.inj (tk q c)).symm])];show%[o,es,C,t,n,f,r,I|P]
 .show m h' iv _ M ?_ (Og _ _);unfold iy;rw[kw]
  .show%[_,h,j,t',L,f,ρ,O|N.trans ?_];rw[Zd];show P.append_right _
  .intro Y;let%[q,c|e]:=Xm Y;let:=P.mem_iff.mpr (Xn %[q,c|rfl]);let%[i|hi]:=Xd this;show d i q.1 q.2 ↑hi (tk q c) e
end
section
variable{prog:nX}{w:v0}{κ:Type}[Lk κ]{knd:PySem.KeyKind prog w κ}{A:vi}{E:ZD}{s:mu}
def qx(y:A.handled=hX)(Y:A.units+16<M3)(z:s.heap.IsList l a)(hi:a.toList=ps.map λp=>m4 p.1)(tk:∀p∈ps,Lc knd s.heap p.2 p.1)(U:hH (hH κ))(hU: ~~~U<=999)(g:∀p∈ps,p.2∈U)
 (C:∀p∈ps,∀(B:vi) (s':mu) (d:ri->mu->Prop) (G:ZD),Lc knd s'.heap p.2 p.1->d jg s'->↥B (RB 8 (.ref p.1)) d G s')
 (H:∀(h':yu) (tk:kj),uh w knd ⇑s (bx ps) h'->(∀b o,s.heap.get? b∣o->h'.get? b∣o)->Q (.ref ⇑s) {s with heap:=h',toks:=tk}):
 ↥A (call (.type "set") [.ref l]) Q E s:=by
 let c:a.size= ~~~ps:=by rw[<-Zb,hi,Z6]
 show mK (T:=λi h=>uh w knd ⇑s (bx (ps.take i)) h) y z (λh e=>%[_,#[],0,_,e,%[rfl,rfl|rfl],rfl,IN.fresh 0 0 _|LL _]) (λi h h' S k=>S.keep k) (λi v s1 Q E e I r k=>?_) λh' t S k=>H h' t (by rwa[c,Zn (Zi _)]at S) k
 rw[<-Ni,hi,Zl]at e;let%[p,u|rfl]:=Ld.mp e;let sub:∀q∈bx (ps.take i),q∈ps:=λq j=>Yv (bn _ q j)
 let f:=Z8 u;show Dh (p:=p) (by simp only[vi.in1];lia) I (λq j=>zd (tk q (sub q j)) λo=>r _ o) (zd (tk p f) λo=>r _ o) ?_ (λs' d=>C p f _ s' d _) λJ b L M n N=>k J b L M (by rw[ug u];show n) N
 let q:=nodup_sub (eA (ps.take i)) (m:=U) λk O=>by
  let%[p,f|rfl]:=Xm ((iA _ k).mp O);show g p (Yv f)
 rw[Z6]at q
 lia
end
open PySem PySem.Spec PyProof.Rows
section
variable{prog:nX}{w:v0}{A:vi}{s:mu}
def qy{a:kG}{vs:ZF}{n:kj}{kd:Sm}{P:Fin->mu->Prop}{E:ZD}(r:s.heap.get? a∣NK "list" vs.toArray n)(y: ~~~vs<=100000)
 (f:∀j:yu,(∀b o,b≠a->s.heap.get? b∣o->j.get? b∣o)->2<= ~~~vs->∀Q:Sm->mu->Prop,Q kd (s>>>j)->↥A (keyKind' vs.toArray) Q E (s>>>j))
 (H:∀j:yu,(∀b o,b≠a->s.heap.get? b∣o->j.get? b∣o)->_SB.Cmp prog w A (λs'=>s'=(s>>>j)) kd λx=>x.1∈vs)
 (h:∀out:ZJ,out.toList.Perm vs->P (.done (.ret .none)) (s>>>Pg s.heap a vs out)):
 ↥A (o0.«list.sort» %[[.ref a]|[]]) P E s:=by
 rw[list_sort_plain];let B:a<⇑s:=Zu r;let g: ~~~vs<=mv:=n7 y (!1);show Z2 (listItems_at r rfl ?_);show Z2 (N2 r rfl ?_ (g));obtain⟨z,l⟩:∃z,(s.heap.update a (LX λ_=> #[])).get? a∣(NK "list" #[] z):=%[_|get?_update_seq r (λ_=> #[])]
 show Z2 (T1 l rfl ?_);show Z2 (Py ?_ (g));show Z2 (wpAny_newList ?_);show vu ?_;let keep:∀b o,b≠a->s.heap.get? b∣o->(((s.heap.update a (LX λ_=> #[])).push (NK "tuple" vs.toArray 0)).push (NK "list" #[] 0)).get? b∣o:=λb o I e=>
  Z7 _ (Z7 _ ((J5 _ _ (J0 I)).trans e))
 let d:(((s.heap.update a (LX λ_=> #[])).push (NK "tuple" vs.toArray 0)).push (NK "list" #[] 0)).get? a∣(NK "list" #[] z):=by
  rw[Tw _ _ _ (by rw[size_push',TM];show Zs (Ym B)),Tw _ _ _ (by rw[TM];show Zs B)];show l
 let f:=f _ keep;change ↥A _ P E {s with heap:=((s.heap.update a (LX λ_=> #[])).push (NK "tuple" vs.toArray 0)).push (NK "list" #[] 0)};dsimp only;let J:vs.toArray.size= ~~~vs:=by simp
 let u:(vs.toArray.zip vs.toArray).toList=vs.map λv=>(v,v):=by
  rw[oT.toList_zip,SL];apply OQ
  .simp
  .intro i O m;simp
 let p:∀c:nY,(rM c).toList.Perm (vs.map λv=>(v,v))->P (.done (.ret .none)) (s>>>(Pg s.heap a vs ((rM c)\2))):=λc q=>h _ (by
  let:=q\2;rwa[Yq,show((λx:L6=>x.2) ∘ λv:ku=>(v,v))=id from rfl,VJ,<-oT.toList_map]at this)
 by_cases m:vs.toArray.size<2
 .rw[md m,md m];show Z2 (Z3 ?_);rw[K0.run_pure];show Z2 (Z3 ?_);dsimp only;show Z2 (T1 d rfl (Z2 (N2 d rfl ?_ (hsz2:=by rw[V5];change(pairsOf vs).size<=_;rw[pairsOf_size,Le];omega))));simp only[Vc,Zz,Nb];show Z3 (p _ (by rw[u]))
 .rw[kw m,kw m];show Z2 (f (by omega) _ ?_);show Z2 (Lb (_SB.sc_sortMany (D:=λx=>x.1∈vs) (st:=Sx kd (vs.toArray.zip vs.toArray) #[] 7 hX) (H _ keep) (λx C=>?_) ?_ rfl rfl
   (Q:=λ_ c=>(rM c).toList.Perm (vs.map λv=>(v,v))/\Ms c=hX) (λc L M=>%[?_|M]) _ rfl) ?_ λ_ _ e=>e.elim)
  .rw[u]at C;let%[v,N|rfl]:=Xm C;show N
  .rw[<-Zb,u,Z6];omega
  .rwa[u]at L
  .rintro⟨⟨⟩,c⟩ s' ⟨rfl,q,G⟩;dsimp only at q G ⊢;show Z2 (T1 d rfl (Z2 (N2 d rfl ?_ (hsz2:=?_))))
   .rw[G];simp only[Vc,Zz,Nb];show Z3 (p c q)
   .rw[V5,<-Zb,q.length_eq,Z6];show kj.le_succ_of_le g
nonrec abbrev Kp(s a:mu):Prop:=∀b o,s.heap.get? b∣o->a.heap.get? b∣o
def rR{S:kG}{G:ZF->Prop}{O:ZF->ZJ->Prop}{Q:ZD}{E:ZD}(d:∀(i:ZD) (R:ZF->mu->Prop),(∀c us,G us->Kp s c->c.gens=s.gens->c.os=s.os->R us c)->↥A.in1 (Pn (.ref S)) R i s)(few:∀us,G us-> ~~~us<=1000)
 (r:∀(f:mu) (u:vi) (us:ZF) (a:kG) (P:Fin->mu->Prop) (i:ZD),G us->f.heap.get? a∣NK "list" us.toArray 0->(∀b o,s.heap.get? b∣o->f.heap.get? b∣o/\b≠a)->(∀out,O us out->P (.done (.ret .none)) (f>>>Pg f.heap a us out))->↥u (o0.«list.sort» %[[.ref a]|[]]) P i f)
 (v:∀(c s':mu) (l:kG) (us:ZF) (out:ZJ) (n:kj),G us->O us out->Kp s c->c.gens=s.gens->c.os=s.os->Kp c s'->s'.gens=c.gens->s'.os=c.os->⇑c<=l->s'.heap.get? l=hY {cls:= .type "list",data:= .seq out n}->Q (.ref l) s'):
 ↥A (call (.builtin "sorted") [.ref S]) Q E s:=by
 show Calls.call_function_entry kind_sorted plain_sorted entry_sorted (args_sorted1 _) ?_;unfold o0.«sorted»;show Z2 (m:=checkCount "sorted" 1 1 _) (Z3 ?_);show Z2 (d _ _ λc us g k1 y z=>?_);show Z2 (wpAny_newList ?_ (by let:=few us g;rw[Le];lia));let j:(c.heap.push (NK "list" us.toArray 0)).get? ⇑c∣NK "list" us.toArray 0:=Zj _ rfl;show Z2 (vu (Lm slot_list_sort %[_,j|rfl] entry_list_sort (r (c>>>c.heap.push (NK "list" us.toArray 0)) _ us _ _ _ g j (λb o e=>%[Z7 _ (k1 b o e)|Zs (Zu (k1 b o e))]) λout q=>%[_,rfl|?_]) (args_list_sort _)));obtain⟨n,B⟩:∃n,(Pg (c.heap.push (NK "list" us.toArray 0)) ⇑c us out).get? ⇑c∣NK "list" out n:=sortedHeap_at j;show Z3 %[_,rfl|v c _ ⇑c us out n g q k1 y z (λb C p=>?_) rfl rfl (Zi _) B];let h:=Zu p;change(Pg _ _ _ _).get? b=_;rw[sortedHeap_old (Zs h) (by rw[Zq];show Ym h)];show Z7 _ p
def vO{G:ZF->Prop}{kd:Sm}(few:∀us,G us-> ~~~us<=1000)
 (j:∀us (c:mu) (d:vi) (l:ZD) (Q:Sm->mu->Prop),G us->2<= ~~~us->Kp s c->Q kd c->↥d (keyKind' us.toArray) Q l c)
 (n:∀us x y (c:mu) (d:vi) (Q:ri->mu->Prop),G us->x∈us->y∈us->Kp s c->(∀b,Q b c)->↥d (keyLt' kd x y) Q (λ_ _=>KZ) c)
 (f:mu) (d:vi) (us:ZF) (a:kG) (P:Fin->mu->Prop) (l:ZD) (g:G us) (p:f.heap.get? a∣NK "list" us.toArray 0) (i:∀b o,s.heap.get? b∣o->f.heap.get? b∣o/\b≠a) (h:∀out:ZJ,out.toList.Perm us->P (.done (.ret .none)) (f>>>Pg f.heap a us out)):↥d (o0.«list.sort» %[[.ref a]|[]]) P l f:=
 qy p (by let:=few us g;lia) (λq m r u v=>j us _ _ _ u g r (λb o e=>m b o (i b o e).2 (i b o e).1) v) (λq m x y s' z B e=>by
  subst e;show n us _ _ _ _ _ g z B (λb o e=>m b o (i b o e).2 (i b o e).1) λ_=>rfl) h
end
abbrev aN(x y:lx):ri:=decide (x.cps.toList<y.cps.toList)
def di(x:lx):aN x x=jg:=Zh (hH.lt_irrefl _)
def IT{x y:lx}(h:x.cps.toList=y.cps.toList):x=y:=by
 obtain⟨⟨l⟩⟩:=x
 simp_all
def dE{x y z:lx}(a:aN x y=iv)(b:aN y z=iv):aN x z=iv:=Zf (hH.lt_trans (Zo a) (Zo b))
def eY{x y:lx}(h:aN x y=jg)(a:x≠y):aN y x=iv:=by
 show Zf (LD λb=>a (IT (hH.le_antisymm b (Qw h))))
def rS:∀(p:lx) (l:ZB),risingS p l=iv->(p::l).Pairwise (λa b=>aN b a=jg)
 | p,[],_=>hH.pairwise_singleton _ _
 | p,x::r,h=>by
   let h:(!ltCps x.cps.toList p.cps.toList&&risingS x r)=iv:=h;rw[Zv,Tx,ltCps_eq]at h;let d:=rS x r h.2;show S0.mpr %[λy c=>?_|d];rcases Yu.mp c with rfl|c
   .show h.1
   .show Zh (Sz.mpr (hH.le_trans (Sz.mp (Qw h.1)) (Sz.mp (Qw (hH.rel_of_pairwise_cons d c)))))
def AO:∀(l:ZB),sortedS l=iv->l.Pairwise (λa b=>aN b a=jg)
 |[],_=>OX
 | p::l,h=>rS p l h
section
variable{prog:nX}{w:v0}{A:vi}{s:mu}{E:ZD}
nonrec abbrev IU(prog:nX)(w:v0)(h:yu)(zs:ZB)(r:kG):Prop:=Lc (aR prog w) h (zs.map lp) r
def lZ:∀{zs:ZB} {vs:ZF},ItemsAre (aR prog w) (zs.map lp) vs->Lr vs zs
 |[],_,h=>by cases h;show .nil
 | z::zs,_,h=>by
   cases h with
   | cons a d=>
     let a:jK (lp z) _=iv:=a;rcases aZ a with⟨i,t,b,c⟩|⟨y,t,b,c⟩
     .cases b
     .cases b;subst c;show .cons z t (lZ d)
inductive kQ:ZF->ZF->Prop where
 | nl (us:ZF):kQ [] us
 | nr (us:ZF):kQ us []
 | st (x y:lx) (t u:Tok) {vs us:ZF}:kQ vs us->kQ (.str x t::vs) (.str y u::us)
 | it (x y:pp) (t u:Tok) {vs us:ZF}:kQ vs us->kQ (.int x t::vs) (.int y u::us)
def rT:∀{x y:ZB} {vs us:ZF},Lr vs x->Lr us y->kQ vs us
 |[],_,_,_,.nil,_=> .nl _
 | _::_,[],_,_,_,.nil=> .nr _
 | _::_,_::_,_,_,.cons _ t h,.cons _ u k=> .st _ _ t u (rT h k)
def Km{b a:ri}{Q:ri->mu->Prop}(h:∀b,Q b s):∀{vs us:ZF} (i:kj),kQ vs us->PySem.W.KatLex prog w A b a Q (vs.zip us) i s:=by
 intro vs us i k
 induction k generalizing i with
 | nl=>show h a
 | nr vs=>rw[hH.zip_nil_right];show h a
 | st x y t u k c=>
   show kat_cons (eqBool_str (kat_go (λ_=>kat_yes (c _)) λ_=>kat_no ?_));cases b&&i==0 with
   | true=>show oneLt_str (h _)
   | false=>show kat_one _ _ (lt_str (h _))
 | it x y t u k c=>
   show kat_cons (Vt (kat_go (λ_=>kat_yes (c _)) λ_=>kat_no ?_));cases b&&i==0 with
   | true=>show oneLt_int (h _)
   | false=>show kat_one _ _ (lt_int (h _))
end
def vP [Lk d][Lk i](g:d->i)(j:∀a b,g a=g b->a=b)(l:hH (kG×d)):bx (l.map λp=>(p.1,g p.2))=(bx l).map λp=>(p.1,g p.2):=by
 let m:∀(l ps:hH _),(l.map λp=>(p.1,g p.2)).foldl iy (ps.map λp=>(p.1,g p.2))=(l.foldl iy ps).map λp=>(p.1,g p.2):=by
  intro l
  induction l with
  | nil=>intro ps;rfl
  | cons p l n=>
    intro ps;rw[Yp,Y8,Y8];let e:iy (ps.map λp=>(p.1,g p.2)) (p.1,g p.2)=(iy ps p).map λp=>(p.1,g p.2):=by
     unfold iy;let f:(g p.2∈(ps.map λp=>(p.1,g p.2))\2)↔p.2∈ps\2:=by
      rw[Yq]
      constructor
      .intro h;let%[q,c|e]:=Xm h;show Xn %[q,c|j _ _ e]
      .intro h;let%[q,c|e]:=Xm h;show Xn %[q,c|by change g q.2=g p.2;rw[e]]
     by_cases h:p.2∈ps\2
     .rw[md h,md (f.mpr h)]
     .rw[kw h,kw (λz=>h (f.mp z)),Zd];rfl
    rw[e];show n _
 show m l []
noncomputable abbrev Kn(p:kG×ZB):kG×hH Key:=(p.1,p.2.map lp)
def ui:∀a b:ZB,a.map (lp:lx->Key)=b.map lp->a=b
 |[],[],_=>rfl
 |[],_::_,h=>by cases h
 | _::_,[],h=>by cases h
 | x::xs,y::ys,h=>by
   injection h with c d
   injection c with e
   rw[e,ui xs ys d]
section
#where
variable{S:kG}
def oG:∀{vs:ZF} {zs:ZB},Lr vs zs->ItemsAre (aR prog w) (zs.map lp) vs
 | _,_,.nil=> .nil
 | _,_,.cons x t h=> .cons (dZ x t) (oG h)
def FT(c:zs≠[])(b:IU prog w s.heap zs r)(h:Q jg s):↥A (RB 8 (.ref r)) Q E s:=by
 let d:=b.typeIs;let%[o,a,n,e,_,f|hi]:=b;show Z2 (N9 d F.slot_tuple_hash.lookup (Z2 (Lw e f (Z2 ?_))));rw[<-Pl]
 match zs,a.toList,(lZ hi),c with
 | z::zs,_,.cons _ t g,_=>
   show Z2 (Z2 (Z3 (Z3 (Z3 (Z3 h)))))
def Di{j m:Type}{f:j->m}{x y:hH m}(h:x.Perm y):∀ps,y=ps.map f->∃ss:hH j,ss.Perm ps/\x=ss.map f:=by
 induction h with
 | nil=>show λps e=>%[[],!2|rfl]
 | cons a _ n=>
   intro ps e;cases ps with
   | nil=>cases e
   | cons p ps=>
     rw[Yp,L9]at e;let%[ss,c|d]:=n ps e.2;show%[p::ss,c.cons p|by rw[e.1,d];rfl]
 | swap a b l=>
   intro ps e
   match ps,e with
   | p::q::ps,e=>
     rw[Yp,Yp,L9,L9]at e;show%[q::p::ps,.swap p q ps|!2]
 | trans _ _ g i=>
   intro ps e;let%[ss,c|d]:=i ps e;let%[ts,o|r]:=g ss d;show%[ts,o.trans c|r]
def vQ{M:Type}{S:kG}{ps:hH (kG×M)}{G:ZF->Prop}{T:LF}{Q:ZD}(c:∀(N:ZD) (R:ZF->mu->Prop),(∀a vs,vs.Perm (ps.map λp=>m4 p.1)->(∀b o,s.heap.get? b∣o->a.heap.get? b∣o)->a.gens=s.gens->a.os=s.os->R vs a)->↥A.in1 (Pn (.ref S)) R N s)(few: ~~~ps<=1000)
 (tk:∀p∈ps,∃o its n,s.heap.get? p.1∣o/\o.cls= .type "tuple"/\o.data= .seq its n/\G its.toList) (g1:∀i,G i->∃f r,i=f::r/\Oa f=pure (.type T)) (gT:(Lu T != Lu "tuple")=iv) (g2:∀i j,G i->G j->kQ i j)
 (hQ:∀(a s':mu) (l:kG) (ss:hH (kG×M)) (n:kj),ss.Perm ps->(∀b o,s.heap.get? b∣o->a.heap.get? b∣o)->a.gens=s.gens->a.os=s.os->(∀b o,a.heap.get? b∣o->s'.heap.get? b∣o)->s'.gens=a.gens->s'.os=a.os->⇑a<=l->s'.heap.get? l=hY {cls:= .type "list",data:= .seq (ss.map λp=>m4 p.1).toArray n}->Q (.ref l) s'):
 ↥A (call (.builtin "sorted") [.ref S]) Q E s:=by
 let U:∀us:ZF,us.Perm (ps.map λp=>m4 p.1)-> ~~~us<=1000:=λus h=>by rw[h.length_eq,Z6];show few
 show rR (O:=λus out=>out.toList.Perm us) c U (vO (kd:=tuples' iv) U (λus Y A1 N Q g h2 k q=>?_) λus x y Y A1 Q g hx hy k q=>?_) λa s' l us out n g o k1 a1 a2 k2 a3 a4 hl gl=>?_
 .let tups:∀l:ZF,(∀v∈l,v∈ps.map λp=>m4 p.1)->∃fs:ZF,KatTups Y.heap l fs/\ ~~~fs= ~~~l/\∀f∈fs,Oa f=pure (.type T):=by
   intro l
   induction l with
   | nil=>show λ_=>%[[],KatTups.nil,rfl|λf z=>nomatch z]
   | cons v l ih=>
     intro m;let%[fs,B,f2|C]:=ih λu d=>m u (Zk _ d)
     let%[p,H|rfl]:=Xm (m v Zm);let%[o,its,n,I,c',J|L]:=tk p H;let%[f,r,e|ft]:=g1 _ L;show%[f::fs,KatTups.cons (k _ _ I) c' J (by rw[<-Ni,e];rfl) B,tI kj.succ f2|λu d=>?_];rcases Yu.mp d with rfl|d
     .show ft
     .show C u d
  let%[fs,B,f2|C]:=tups us λv m=>g.mem_iff.mp m
  show PySem.W.kat_kind (T:= .type T) B ⋯ (λf z=>P5.of_pure (C f z)) ∅ (gT▸q)
 .let%[p,H|rfl]:=Xm (g.mem_iff.mp hx);let%[r,hr|rfl]:=Xm (g.mem_iff.mp hy);let%[o,its,n,I,c',J|L]:=tk p H;let%[o2,its2,n2,g3,c3,d3|i3]:=tk r hr;show PySem.W.kat_lt (k _ _ I) J (k _ _ g3) d3 (Km q 0 (g2 _ _ L i3))
 .let%[ss,h1|e]:=Di (o.trans g) ps rfl;show hQ a s' l ss n h1 k1 a1 a2 k2 a3 a4 hl (by rw[<-e];show gl)
def ke(j:∀(r:ZD) (R:ZF->mu->Prop),(∀f vs,vs.Perm (ps.map λp=>m4 p.1)->(∀b o,s.heap.get? b∣o->f.heap.get? b∣o)->f.gens=s.gens->f.os=s.os->R vs f)->↥A.in1 (Pn (.ref S)) R r s)(tk:∀p∈ps,IU prog w s.heap p.2 p.1)(u:∀p∈ps,~~~p.2=m)(v:m≠0)(few: ~~~ps<=1000)
 (y:∀(f s':mu) (l:kG) (ss:ZG) (n:kj),ss.Perm ps->(∀b o,s.heap.get? b∣o->f.heap.get? b∣o)->f.gens=s.gens->f.os=s.os->(∀b o,f.heap.get? b∣o->s'.heap.get? b∣o)->s'.gens=f.gens->s'.os=f.os->⇑f<=l->s'.heap.get? l=hY {cls:= .type "list",data:= .seq (ss.map λp=>m4 p.1).toArray n}->Q (.ref l) s'):
 ↥A (call (.builtin "sorted") [.ref S]) Q E s:=
 vQ (G:=λvs=>∃zs:ZB,Lr vs zs/\zs≠[]) (T:="str") j few (λp q=>by
  let%[o,its,n,g,c,d|i]:=tk p q;show%[o,its,n,g,c,d,p.2,lZ i|λe=>v (by rw[<-u p q,e];rfl)]) (λ_ ⟨zs,h,n⟩=>by
  cases h with
  | nil=>show ow rfl n
  | cons z t h=>show%[_,_,ρ|ρ]) (!1) (λ_ _ ⟨_,a,_⟩ ⟨_,b,_⟩=>rT a b) y
end
section
variable{X:Cx}{K:ZA}
abbrev oH(P:nX)(w:v0)(a:kG)(ps:ZG):HO:= .ext (uh w (aR P w) a (ps.map Kn))
abbrev aF(H:Hp)(ps:ZG):Prop:=∀p∈ps,p.2≠[]/\H p.1&&&p.2\3
def nH(I:Qd X ij f H s)(h:aF H ps):∀p∈ps,IU X.prog X.w s.heap p.2 p.1:=λp a=>by
 let%[_,its,b,o,c,d,n|e]:=I.hok p.1 _ (h p a).2;show%[o,its.toArray,n,c,d,e|oG (io b)]
def uj:∀{ps:ZG} {us:ZF},aI (ps\0) us->us=ps.map λp=>m4 p.1
 |[],_,.nil=>rfl
 | _::_,_,.cons r t=>by
   cases r;rw[uj t];rfl
def nJ:∀(ps:ZG),aI (ps\0) (ps.map λp=>m4 p.1)
 |[]=> .nil
 | _::ps=> .cons rfl (nJ ps)
def AQ(v:X.calm=iv)(L:X.A.units+64<M3):ci X (.type "set") (λxs H Q=>cJ xs λj=>asR j λp=>∃ps,Qc X.K H p (ps\0)/\aF H ps/\(∃U:hH _,~~~U<=999/\∀q∈ps,q.2∈U)/\∀l,H l=hX->Q (.ref l) (Qb H l (oH X.prog X.w l (bx ps)))):=by
 intro ij s M H xs us Q I r h;let%[j,rfl|d]:=bF h;let%[p,rfl|e]:=aM d;let%[ps,w,m,%[U,N|f]|q]:=e;let%[u,rfl|y]:=cO r;cases y;let%[its,A,pl|O]:=I.list w;let C:=uj A;show qx (knd:=aR X.prog X.w) (I.ok.hd v) ⋯ pl.isList (ps:=ps.map Kn) (!2) (λn a=>?_) (U.map λz=>z.map lp) (!2) (λn a=>?_) (λn a B s' T Y g i=>?_) λh' E S k=>?_
 .let%[b,c|rfl]:=Xm a;show(nH I m) b c
 .let%[b,c|rfl]:=Xm a;show Xn %[b.2,f b c|rfl]
 .let%[b,c|rfl]:=Xm a;show FT (m b c).1 g i
 .rw[(vP _ ui ps)]at S;show%[.ref ⇑s,_,I.laid (o:=oH X.prog X.w ⇑s _) k (Zi _) %[S,?_|λh1 h2 G k1=>uh.keep G k1],ρ|q _ I.fresh];let%[o,_,_,_,J|_]:=S;show%[o|J]
def uk(y:X.calm=iv):ci X (.builtin "sorted") (λxs H Q=>cJ xs λj=>asR j λa=>∃ps,H a∣oH X.prog X.w a ps/\aF H ps/\∃m,(∀p∈ps,~~~p.2=m)/\m≠0/\ ~~~ps<=1000/\∀l (ss:hH _),H l=hX->ss.Perm ps->Q (.ref l) (Qb H l (.lst (ss\0)))):=by
 intro ij s T H xs us Q I r h;let%[j,rfl|c]:=bF h;let%[a,rfl|d]:=aM c;let%[ps,z,A,m,B,C,few|q]:=d;let%[u,rfl|E]:=cO r;cases E;let%[%[o,es,U,t,G,e,L,J|P],_|_]:=(I.hok a _ z)
 let Y:es.size= ~~~ps:=by
  let:=P.length_eq
  simp_all
 let pv:(es.toList\2).Perm (ps.map λp=>m4 p.1):=by
  let:=P\2;rw[Yq,Yq]at this;show this
 show ke (λE1 R M=>kK (I.ok.hd y) G e L (by change es.size<4096;lia) J.fits J.plain J.led λv vs N k1 f i _=>M v vs (N.trans pv) k1 f i) (nH I A) B C few λv s' l ss n w k1 f i k g o b O=>?_
 let I:=I.keptS k1 f i;show%[.ref l,_,I.stoodS (o:= .lst _) (I.keptS k g o) b %[?_,ss.map _,n,nJ ss|O],ρ|q l ss (I.hok.fresh b) w];rw[Z6,w.length_eq,Le]
 lia
def Dj{P:nX}(h:X.K=K)(d:X.prog=P)(hw:X.w=w)(a:X.calm=iv)(b:bE k X.A):cj X (.type "set") (λxs H Q=>cJ xs λc=>asR c λp=>∃ps,Qc K H p (ps\0)/\aF H ps/\(∃U:hH ZB,~~~U<=999/\∀q∈ps,q.2∈U)/\∀l,H l=hX->Q (.ref l) (Qb H l (oH P w l (bx ps)))):=by
 subst h;subst hw;show⟨AQ a b.units⟩
def rV{P:nX}(d:X.prog=P)(hw:X.w=w)(b:X.calm=iv):cj X (.builtin "sorted") (λxs H Q=>cJ xs λc=>asR c λa=>∃ps,H a∣oH P w a ps/\aF H ps/\∃m,(∀p∈ps,~~~p.2=m)/\m≠0/\ ~~~ps<=1000/\∀(l:kG) (ss:ZG),H l=hX->ss.Perm ps->Q (.ref l) (Qb H l (.lst (ss\0)))):=by
 subst hw;show⟨uk b⟩
end
abbrev AR(K:ZA)(a b:kG):It:=⟨λi H=>∃xs ys x y,Qc K H a xs/\Qc K H b ys/\xs[i]?∣x/\ys[i]?∣y,
 λi H v c=>∃T x y,H T=hX/\v= .ref T/\c=Qb H T (.tup [x,y])/\(∀xs,Qc K H a xs->xs[i]?∣x)/\(∀ys,Qc K H b ys->ys[i]?∣y),
 λi H=>∃xs ys,Qc K H a xs/\Qc K H b ys/\i<= ~~~xs/\i<= ~~~ys/\(i= ~~~xs\/i= ~~~ys)⟩
def AS{P:nX}{K:ZA}(z TI TO i1 i2 l1 l2:kG)(D:ZipApart z TI TO i1 i2 l1 l2):
 qp P w K (.Tuple elts kt tp) (AR K l1 l2) [z,TI,TO,i1,i2] z (ZSt z TI TO i1 i2 (λi h=>h.IsListIter i1 l1 i) (λi h=>h.IsListIter i2 l2 i)) where
 mem:=by simp
 obj:=λi h st b hb=>by
  let%[hz,hTI,%[a,c|hTO],%[o1,e1,_|d1],o2,e2,_|d2]:=st
  grind
 keep:=λi h h' st k=>by
  let%[hz,hTI,%[a,c|hTO],%[o1,e1|r1],o2,e2|r2]:=st;show%[k z ∅ _ hz,k TI ∅ _ hTI,%[a,c|k TO ∅ _ hTO],%[o1,k i1 ∅ _ e1|r1],o2,k i2 ∅ _ e2|r2]
 item:=by
  intro X hP hw hK hc i ij s σ H E I hf st hg;subst hP hw hK;let%[hz,hTI,%[a,c|hTO],h1|h2]:=st;let%[xs,ys,x,y,hq1,hq2,hx|hy]:=hg;let%[its1,rv1,pl1|hz1]:=I.list hq1;let%[its2,rv2,pl2|hz2]:=I.list hq2;let%[u1,hu1|ru1]:=rv1.get hx;let%[u2,hu2|ru2]:=rv2.get hy;show wpAny_pyNext_zip_item D hz hTI hTO h1 h2 pl1.isList pl2.isList (x:=u1) (y:=u2) ↑hu1 ↑hu2 λh' a1 a2 a3 a4 a5 a6 hk=>%[_,rfl|Sw (s:=(s>>>h')) a1 λh'' hz'' sb=>?_]
  replace sb:vr z h' h'':=sb;let kk:∀b o,b∉[z,TI,TO,i1,i2]->s.heap.get? b∣o->h''.get? b∣o:=λb o hb e=>by
   simp only[Yu,X3,LA,NM]at hb;show(sb.2 b hb.1).trans (hk b o hb.1 hb.2.2.1 hb.2.2.2.1 hb.2.2.2.2 e)
  let turn1:Qd X ij σ H (s>>>h''):=I.moved hf kk;let Hn:H ⇑s=hX:=I.fresh;let I2:Qd X ij σ (Qb H ⇑s (.tup [x,y])) (s>>>h''):=
   I.stood turn1 (Zi _) %[by change 2<=mv;decide,[u1,u2],.cons ru1 (.cons ru2 .nil),_,((sb.2 _ (Yx (Zu hz))).trans a5),rfl,_|rfl]
  show%[.ref ⇑s,_,I2,ρ,%[_,x,y,Hn,ρ,ρ,λzs hzs=>(I.list_inj hzs hq1)▸hx|λzs hzs=>(I.list_inj hzs hq2)▸hy],%[hz'',(sb.2 _ D.TIz).trans (hk _ _ D.TIz D.TITO D.TIi1 D.TIi2 hTI),%[_,_|(sb.2 _ D.TOz).trans a2],?_|?_]|λb hb=>?_]
  .let%[o,e|r]:=a3;show%[o,(sb.2 _ D.i1z).trans e|r]
  .let%[o,e|r]:=a4;show%[o,(sb.2 _ D.i2z).trans e|r]
  .let:b<⇑s:=by
    simp only[Yu,X3,LA]at hb;let%[o1,q1|_]:=h1;let%[o2,q2|_]:=h2;rcases hb with rfl|rfl|rfl|rfl|rfl
    .show Zu hz
    .show Zu hTI
    .show Zu hTO
    .show Zu q1
    .show Zu q2
   rw[ao (Zs this)];show(hf b hb).1
 done:=by
  intro X hP hw hK hc i ij s σ H E I hf st hg;subst hP hw hK;let%[hz,hTI,%[a,c|hTO],h1|h2]:=st;let%[xs,ys,hq1,hq2,g1,g2|g3]:=hg;let%[its1,rv1,pl1|hz1]:=I.list hq1;let%[its2,rv2,pl2|hz2]:=I.list hq2;let n1:= ~~~rv1;let n2:= ~~~rv2;show wpAny_pyNext_zip_end (I.ok.hd hc) D hz hTI hTO h1 h2 pl1.isList pl2.isList (by
   rcases g3 with q|q
   .show .inl (by simp;lia)
   .show .inr (by simp;lia)) λh' hk=>%[rfl|?_]
  let kk:∀b o,b∉[z,TI,TO,i1,i2]->s.heap.get? b∣o->h'.get? b∣o:=λb o hb e=>by
   simp only[Yu,X3,LA,NM]at hb;show hk b o hb.1 hb.2.2.1 hb.2.2.2.1 hb.2.2.2.2 e
  show I.moved hf kk
 self:=λ_ _ _ _ _ st h=>O3 st.1 h
abbrev GM(K:ZA)(d:TA):TI:=λe H R=>d e H λvs c=>lP vs λf x2=>asR f λa=>asR x2 λb=>(∃xs,Qc K c a xs)/\(∃ys,Qc K c b ys)/\R (AR K a b) c
section
variable{X:Cx}{K:ZA}{pos:Pos}
def GN(L:X.K=K){M p:Pos}{a b:Ds}{B:TA}(N:Gl X "zip")(O:X.mg "zip"=hX)(Q:aQ a=jg)(r:aQ b=jg)(T:QA X [a,b] B):
 QI X (.Tuple C kt M) (.Call (.Name "zip" p) [a,b] [] pos) (GM K B):=by
 subst L
 constructor
 intro ij s U H R I h;show Call_ (ii I N O boot_zip (Lp (thP (T.h pos ij s U H _ I h) λus c vs Y g r1 q1=>?_) (ay Q) (by rw[ay r];rfl)));let%[x1,x2,rfl|d]:=jY q1;let%[u,rfl|f]:=aM d;let%[v,rfl|w]:=aM f;let%[%[xs|d],%[ys|f]|q]:=w;let%[u1,u2,rfl,e1|e2]:=iY r1;cases e1;cases e2;let%[E,ab,l|ac]:=g.list d;let%[its2,ae,m|ag]:=g.list f;show call_zip_2 l.isList m.isList λh1 G y z hi1 hi2 _ hk=>O3 G ?_
 let ne:∀i j,i≠j->⇑c+i≠⇑c+j:=λi j h e=>h (Pr e)
 let na:∀i,u≠⇑c+i:=λi=>Zs (Zg (by let%[o,A|_]:=l.isList;show Zu A) (Og _ _))
 let nb:∀i,v≠⇑c+i:=λi=>Zs (Zg (by let%[o,A|_]:=m.isList;show Zu A) (Og _ _))
 show%[⇑c+4,[⇑c+4,⇑c+2,⇑c+3,⇑c+0,⇑c+1],_,AR X.K u v,Y,ρ,(g.kept hk),
  AS _ _ _ _ _ u v %[ne 2 4 (!1),ne 3 4 (!1),ne 0 4 (!1),ne 1 4 (!1),ne 2 3 (!1),ne 2 0 (!1),ne 2 1 (!1),ne 3 0 (!1),ne 3 1 (!1),ne 0 1 (!1),na 4,na 3,na 0,na 1,nb 4,nb 3,nb 0|nb 1],
  %[G,y,%[_,_|z],hi1|hi2],λb J=>?_|q]
 let n:⇑c<=b:=by
  simp only[Yu,X3,LA]at J;rcases J with rfl|rfl|rfl|rfl|rfl<;> show Og _ _
 show g.fpOk n (g.hok.fresh n)
end
open PySem PySem.Spec PySem.Calls PyProof.Rows PyProof.V PySem.W
abbrev Raw(h:yu)(d:kG)(es:oT Rw)(a:kj):Prop:=∃o,h.get? d∣o/\o.ExactDict/\o.data= .dict es a
section
#where
variable{d it:kG}{es:oT Rw}{ep i:kj}
def Raw.ty(h:Raw s.heap d es ep):s.TypeIs (.ref d) "dict":=%[h.choose,h.choose_spec.1|h.choose_spec.2.1.1]
def Raw.lt(r:Raw h d es ep):d<h.objs.size:=Zu r.choose_spec.1
def Raw.up(r:Raw h d es ep)(e:∀o,h.get? d∣o->h'.get? d∣o):Raw h' d es ep:=%[r.choose,e _ r.choose_spec.1|r.choose_spec.2]
def Dk(lo:(d==L7)=jg)(r:Raw s.heap d es ep)
 (h:Q (.ref ⇑s) {s with heap:=s.heap.push {cls:= .type "dict_keyiterator",data:= .fields #[.ref d,.int 0 0,.int es.size 0,.int ep 0]}}):↥A (Tc (.ref d)) Q E s:=by
 let ty:=r.ty;let%[o,g,_|a]:=r;show QM ty UX (Lm UX ty F.entry_dict_iter (Z2 (Z2 (wpAny_notOrdered_dict ty (Z3 ?_)))) (F.args_dict_iter_1 _));change sh _ _ (QH d>>= _) _ _ s;unfold QH;rw[kw (lo▸Zt)];show Z2 (Z3 (Z2 (QN g a (Z2 (RN g a (Z2 (Lg (Z3 %[_,rfl,"dict_keyiterator",_,%[_,Zj _ rfl|rfl],LY.lookup|?_]))))))));simpa [Lj]using h
def Dl(k:s.heap.IsKeyIter it d i es.size ep)(r:Raw s.heap d es ep)(hi:i<es.size)
 (h:∀h',h'.IsKeyIter it d (i+1) es.size ep->vr it s.heap h'->Q (hY es[i].key) (s>>>h')):↥A (OA (.ref it)) Q E s:=by
 let%[o,b,f|a]:=id k;let%[od,c,_|e]:=r;unfold OA;show Z2 (Mc (L1 (name:=!"__next__") k.typeIs LY (Lm LY k.typeIs Ri ?_ (Q8 _))));show Z2 (Z3 (Z2 (Z2 (Z2 (ME k.typeIs (Z3 (Z2 (Pz b a ?_))))))));rw[show OT "dict_keyiterator"=jg by decide];change sh _ _ (if(m4 d==LI)=iv then _ else _) _ _ s;rw[kw (by show Zt)];show Z2 (Z3 (Z2 (QN c e ?_)));rw[kw ∅];show Z2 (Z3 (Z2 (RN c e ?_)));rw[kw ∅];show Z3 ?_;simp only[Nb,Ny,J6 hi];show Z2 (Z2 (ME k.typeIs (Z3 (Z2 (TB k.typeIs ?_)))));change sh _ _ (Oz (.ref it) 1 (Lj ((i:pp) +1))>>= _) _ _ s;show Z2 (Ou b a ∅ ?_);let k2:(s.heap.update it (NR (·.setIfInBounds 1 (Lj ((i:pp) +1))))).IsKeyIter it d (i+1) es.size ep:=
  %[_,K6 _ b (NH (M7 a _)),(Ql ..).trans f|by rw[M7 a];simp[Lj]]
 show Z2 (vu (Z2 (TB k2.typeIs (Z3 (Z3 %[_,rfl|Z3 (h _ k2 (vr.update ..))])))))
def FU(j:A.handled=hX)(k:s.heap.IsKeyIter it d i es.size ep)(r:Raw s.heap d es ep)(hi:es.size<=i)
 (h:∀h',ExtBut it s.heap h'->Q hX (s>>>h')):↥A (OA (.ref it)) Q E s:=by
 let%[o,c,l|e]:=id k;let%[od,f,_|g]:=r;unfold OA;show Z2 (Mc (L1 (name:=!"__next__") k.typeIs LY (Lm LY k.typeIs Ri ?_ (Q8 _))));show Z2 (Z3 (Z2 (Z2 ?_)));show Z2 (ME k.typeIs (Z3 (Z2 (Pz c e ?_))));rw[show OT "dict_keyiterator"=jg by decide];change sh _ _ (if(m4 d==LI)=iv then _ else _) _ _ s;rw[kw (by show Zt)];show Z2 (Z3 (Z2 (QN f g ?_)));rw[kw ∅];show Z2 (Z3 (Z2 (RN f g ?_)));rw[kw ∅];show Z3 ?_;simp only[show ¬ ((i:pp)<0)from by lia,Nb,Ny,Nd hi];show Z2 (Z2 (ME k.typeIs (Z3 ?_)));change sh _ _ (Oz (.ref it) 0 .none>>= _) _ _ s;show Z2 (Ou c e ∅ (Z2 ?_));simp only[newExc,newTuple];show Z2 (m:=firstArgMember _ _) (Ry (a:=LI) (by first|rfl|(simp only[firstArgMember];rfl)) (Lg ?_ (by size_fits)));simp only[T3];show Z2 (wpAny_handled ?_);rw[show A.in1.handled=hX from j];show Z2 (Z3 (wpAny_throw ?_));show Z2 (MA (T:="StopIteration") (b:=iv) %[_,Zj _ rfl|rfl] Sf ?_);show Z3 (h _ (((vr.update ..).extBut.push _).push _))
def FV(lo:(d==L7)=jg):KdlSrc prog w "dict" d d es.size (λi v=>∃h:i<es.size,v=es[i].key) (λh=>Raw h d es ep) where
 type:=λ_ r=>r.ty
 there:=λ_ r=>%[r.lt|r.lt]
 keep:=λ_ _ r hk=>r.up λo e=>hk d (.inl rfl) o e
 notList:=!1
 notTuple:=!1
 hint:=λ_ _ _ _ r hq=>kdl_hint_dict r.ty hq
 iter:=λA s hh r=>%[_,λi h=>h.IsKeyIter ⇑s d i es.size ep/\Raw h d es ep,(λ_ _ hq=>Dk lo r hq),{
  sub:=λb hb=>!2
  frame:=λ_ _ _ st hk=>%[st.1.at λo e=>hk _ ∅ o e|st.2.up λo e=>hk d ∅ o e]
  item:=λi s' Q E hi st hQ=>Dl st.1 st.2 hi λh' k' hs'=>hQ _ h' s'.toks %[hi|rfl] %[k'|st.2.up λo e=>hs'.extBut d o (Zs r.lt) e] λb o hb e=>hs'.extBut b o (λh=>hb (by simp[h])) e
  done:=λs' Q E st hQ=>FU hh st.1 st.2 (Zi _) λh' he'=>hQ h' s'.toks λb o hb e=>he' b o (λh=>hb (by simp[h])) e
  self:=λ_ _ _ _ st hQ=>TW st.1 hQ},%[_,Zj _ rfl,rfl|rfl]|r.up λo e=>Z7 _ e]
def mP{P:kj->ku->Prop}{R:ZF->mu->Prop}(K:KdlSrc prog w T r d n P m)(p:A.handled=hX)(ok:m s.heap)(u:n<=mv)
 (h:∀(h':yu) (tk:kj) (acc:ZJ),(∀b o,s.heap.get? b∣o->h'.get? b∣o)->⇑s<=h'.objs.size->ItemsOf P acc n->R acc.toList {s with heap:=h',toks:=tk}):↥A (Pn (.ref r)) R E s:=by
 let lt:=K.there _ ok;show Z2 (R5 (LP entry_proto_collect' (Z2 (Lg (Z3 %[Md OJ _|LP entry_list_iadd' ?_])))));rw[LR OJ _];let g:=kdl_extend (s:=(s>>>s.heap.push _))
  (R:=λq s'=>∃h' tk acc c,q= .ok (.ret (.ref ⇑s))/\s'={s with heap:=h',toks:=tk}/\(∀b o,s.heap.get? b∣o->h'.get? b∣o)/\h'.get? ⇑s=hY {cls:= .type _,dict:=hX,data:= .seq acc c,slots:= #[]}/\ItemsOf P acc n)
  K p (K.keep _ _ ok λb _ o e=>Z7 _ e) ⇑s (Yx lt.1) (Yx lt.2) _ 0 (Zj _ rfl)
  (λh' tk acc c j a it=>%[h',tk,acc,c,rfl,rfl,λb o e=>j b o (Zs (Zu e)) (Z7 _ e),a|it]) u
 show Lb g (λl s' x=>?_) λe s' x=>?_
 .cases l with
  | done f=>
    let%[h',tk,acc,c,e,rfl,j,a|it]:=x;cases e;show Z2 (R6 a (Z3 (h h' tk acc j (Ye (Zu a)) it)))
  | again c1=>
    show%[x.1|codeAny_mono x.2 λq v y=>?_];let%[h',tk,acc,c,rfl,rfl,j,a|it]:=y;show Z2 (R6 a (Z3 (h h' tk acc j (Ye (Zu a)) it)))
 simp_all
def mQ{R:ZF->mu->Prop}(lo:(d==L7)=jg)(f:A.handled=hX)(r:Raw s.heap d es ep)(g:es.size<=mv)
 (h:∀(h':yu) (tk:kj),(∀b o,s.heap.get? b∣o->h'.get? b∣o)->⇑s<=h'.objs.size->R (es.toList.map (·.key)) {s with heap:=h',toks:=tk}):↥A (Pn (.ref d)) R E s:=by
 show mP (FV lo) f r g λh' tk acc l c a=>?_
 let e:acc.toList=es.toList.map (·.key):=by
  apply Pm;intro j;rw[Zl,Ni,Ni];by_cases m:j<es.size
  .let n:j<acc.size:=a.1▸m;let%[_|q]:=a.2 j acc[j] ∅
   simp_all
  .rw[Nd (by rw[a.1];lia),Nd ⋯];rfl
 rw[e];show h h' tk l c
end
section
variable{X:Cx}{K:ZA}
def uo(hc:X.calm=iv):ci X (.builtin "sorted") (λxs H Q=>cJ xs λT=>asR T λa=>∃b,H a∣.dT b/\∃ks,b\1=ks.map (λk:ZB=>k.map lp)/\∃m,(∀k∈ks,~~~k=m)/\m≠0/\ ~~~ks<=1000/\∀(l:kG) (ss:ZG),H l=hX->aF H ss->(ss\2).Perm ks->Q (.ref l) (Qb H l (.lst (ss\0)))):=by
 intro ij s U H xs us Q I r h;let%[T,rfl|z]:=bF h;let%[a,rfl|A]:=aM z;let%[b,ha,ks,c,m,Y,m0,few|q]:=A;let%[u,rfl|ru]:=cO r;cases ru;let%[_,lo,xs,B,o,es,ep,g,ex,dt,he,_|_]:=GD I.hok ha;let C:∀{b:hH (hH Key×V)} {xs:hH (hH Key×kG×ku)},KT H b xs->∀ks:hH ZB,b\1=ks.map (λk:ZB=>k.map lp)->∃ps:ZG,ps\2=ks/\(xs.map λx=>m4 x.2.1)=(ps.map λp=>m4 p.1)/\∀p∈ps,H p.1&&&p.2\3:=by
  intro b xs B
  induction B with
  | nil=>
    intro ks c;cases ks with
    | nil=>show%[[],ρ,ρ|λp d=>by cases d]
    | cons _ _=>cases c
  | @cons kv x b xs hx t ih=>
    intro ks c;cases ks with
    | nil=>cases c
    | cons k ks=>
      rw[Yp,Yp]at c;injection c with h1 h2
      let%[ps,j,E|G]:=ih ks h2;show%[(x.2.1,k)::ps,by rw[Yp,j],by rw[Yp,Yp,E]|λp d=>?_];rcases Yu.mp d with e|e
      .rw[e];let:=hx.2.1;rw[h1,Yq]at this;show this
      .show G p e
 let%[ps,j,E|G]:=C B ks c;let v:∀p∈ps,p.2∈ks:=λp d=>by rw[<-j];show Xn %[p,d|rfl]
 let ta:aF H ps:=λp d=>%[λe=>m0 (by rw[<-Y _ (v p d),e];rfl)|G p d]
 let ab: ~~~ps<=1000:=by rw[<-Z6 (f:=(·.2)),j];show few
 let L:Raw s.heap a es ep:=%[o,g,ex|dt]
 let w:es.toList.map (·.key)=ps.map λp=>m4 p.1:=by
  rw[he,Yq,<-E];rfl
 let M:es.size<=mv:=by
  let: ~~~(es.toList.map (·.key))= ~~~(ps.map λp=>m4 p.1):=by rw[w]
  rw[Z6,Z6,Zb]at this;rw[Le];lia
 show ke (λE1 R hR=>mQ lo (show X.A.in1.handled=hX from I.ok.hd hc) L M λh' tk k ac=>?_) (nH I ta) (λp d=>Y _ (v p d)) m0 ⋯ λs1 s' l ss n N k1 g1 o1 k g o y gl=>?_
 .rw[w];show hR _ _ (LL _) k rfl rfl
 .let O:Qd X ij U H s1:=I.keptS k1 g1 o1;let i:H l=hX:=O.hok.fresh y;let J:Qd X ij U H s':=O.keptS k g o;show%[.ref l,_,O.stoodS (o:= .lst (ss\0)) J y %[?_,ss.map (λp=>m4 p.1),n,nJ ss|gl],ρ|q l ss i (λp d=>ta p (N.mem_iff.mp d)) (by rw[<-j];show N.map _)];rw[Z6,N.length_eq,Le]
  lia
def AT(c:X.calm=iv):cj X (.builtin "sorted") (λxs H Q=>cJ xs λd=>asR d λa=>∃b,H a∣.dT b/\∃ks,b\1=ks.map (λk:ZB=>k.map lp)/\∃m,(∀k∈ks,~~~k=m)/\m≠0/\ ~~~ks<=1000/\∀(l:kG) (ss:ZG),H l=hX->aF H ss->(ss\2).Perm ks->Q (.ref l) (Qb H l (.lst (ss\0)))):=⟨uo c⟩
def IV:QE X (.Dict [] [] pos) xy:=⟨Ch⟩
def eF(c:bE k X.A)(d:NA a (hY (.Subscript o i b)) pos.line X.env=pure jg)(e:QE X a f)(g:QE X o h)(hi:QE X i ty):QS X (.Assign [.Subscript o i b] a pos) (jM h ty f):=
 ⟨Fp (by let:=c.units;lia) g.h hi.h e.h d⟩
def l7 [Lk c](a:hH (c×V))(k:c)(v:V):(cY a k v)\1=if k∈a\1 then a\1 else a\1 ++[k]:=by
 unfold cY;let e:(a.any λb=>decide (b.1=k))=iv↔k∈a\1:=by
  grind
 by_cases h:k∈a\1
 .rw[md (e.mpr h),md h,Yq];show Yo λb _=>?_
  change(if b.1=k then(b.1,v)else b).1=b.1
  split<;> rfl
 .rw[kw (λz=>h (e.mp z)),kw h,Zd];rfl
end
structure vR (K:ZA) (mg:ZC) (x:lx):Prop where
 at_:mg x∣.ref (aC mg x)
 cls:Cls K (aC mg x)
structure vS (K:ZA) (mg:ZC) (x m qual:lx) (st:I0) (ps:ZB):Prop where
 ex:∃f fd,EY K (aC mg x) m f/\Fun K m qual st f fd/\dH K fd ps []
structure Dm (K:ZA) (mg:ZC) (x qual:lx) (st:I0) (ps:ZB):Prop where
 ex:∃f fd,Mk K (aC mg x) f/\Fun K "__init__" qual st f fd/\dH K fd ps []
structure AU (P:nX) (w:v0) (K:ZA) (mg:ZC) (base:yu) (k:kj) (x m:lx) (ps:ZB) (sp:Sp):Prop where
 ex:∃f fd,dG P w K mg base CX0 k f fd ps sp/\EY K (aC mg x) m f/\dH K fd ps []
structure FW (P:nX) (w:v0) (K:ZA) (mg:ZC) (base:yu) (k:kj) (x:lx) (ps:ZB) (sp:Sp):Prop where
 ex:∃f fd,dG P w K mg base CX0 k f fd ps sp/\Mk K (aC mg x) f/\dH K fd ps []
section
variable{P:nX}{w:v0}{K:ZA}{mg:ZC}{base:yu}{x m qual:lx}{st:I0}{N ps:ZB}{k:kj}{sp:Sp}
def vS.cal(D:vS K mg x m qual st ps)(S:ar N ps (am st))
 (a:∀(H:Hp) (vs:hH V) (Q:VK) (E:XK),sp vs H Q E-> ~~~vs= ~~~ps/\∀(f:kG) (b:ku) (A:vi) (outer:hH Env) (s:mu),bE k (A.deeper (LQ qual (am st) ⇑s f b))->
  ∃t,PSs (fo CX0 P w K mg base N qual (am st) f b A outer s H E).nox (bB st) t/\t {nx:=λ_ c=>Q .non c,rt:=Q} (start N vs) H):AU P w K mg base (k+1) x m ps sp:=by
 let%[f,d,e,F|g]:=D.ex;show%[f,d,F.ok S (λv H Q E h=>(a H v Q E h).1) (λb A o s H v Q E r h=>(a H v Q E h).2 f b A o s r),e|g]
def Dm.cal(D:Dm K mg x qual st ps)(S:ar N ps (am st))
 (a:∀(H:Hp) (vs:hH V) (Q:VK) (E:XK),sp vs H Q E-> ~~~vs= ~~~ps/\∀(f:kG) (b:ku) (A:vi) (outer:hH Env) (s:mu),bE k (A.deeper (LQ qual (am st) ⇑s f b))->
  ∃t,PSs (fo CX0 P w K mg base N qual (am st) f b A outer s H E).nox (bB st) t/\t {nx:=λ_ c=>Q .non c,rt:=Q} (start N vs) H):FW P w K mg base (k+1) x ps sp:=by
 let%[f,d,e,F|g]:=D.ex;show%[f,d,F.ok S (λv H Q E h=>(a H v Q E h).1) (λb A o s H v Q E r h=>(a H v Q E h).2 f b A o s r),e|g]
end
section
variable{X:Cx}{K:ZA}{j k:kj}{x m:lx}{ps:ZB}{sp:Sp}{p pos apos:Pos}{o e:Ds}{es:hH Ds}{to te:TE}{t:TA}
def IW(C:AU X.prog X.w X.K X.mg X.base j x m ps sp)(c:vR X.K X.mg x)(d:bE k X.A)(a:OW j k=iv)
 (g:LB (.Call (.Attribute o m apos) [] [] pos) X.env=(do
  let b<-LB o X.env
  Of apos.atName
  let(f,first)<-Pk [b] (O7 b m pl)
  Si pos f first (Mm pos (vj [] X.env)) (N8 pos (MG [] X.env)))) (h:QE X o to):QE X (.Call (.Attribute o m apos) [] [] pos) (yN (aC X.mg x) m sp [] E0 to xt):=by
 let%[f,n,F,i|l]:=C.ex;show⟨B2 h.h c.cls i F (d.mono (Yd a)) l .nil Cj g⟩
def Ko(C:FW X.prog X.w X.K X.mg X.base j x ps sp)(c:vR X.K X.mg x)(g:bE k X.A)(h:Gl X x)(a:OW (j+1) k=iv)(b:(x==("__debug__"))=jg)(d:(e::es).any aQ=jg)(i:QA X (e::es) t):
 QE X (.Call (.Name x p) (e::es) [] pos) (yO (aC X.mg x) sp [] E0 t):=by
 let%[f,q,F,l|n]:=C.ex;rw[Zw,X4]at d;show⟨EZ l F (g.mono (Yd a)) h c.at_ n .nil Cj i.h b (ay d.1) (dJ d.2)⟩
def IX(h:X.K=K)(a:ip o=jg)(b:QE X o to):QE X (.Attribute o f pos) (HE K to f):=by
 subst h;show⟨HG b.h (gi a)⟩
def FX(h:X.K=K)(c:gh a=jg)(d:QE X o to)(g:QE X a i):QS X (.Assign [.Attribute o f b] a pos) (HF K to i f):=by
 subst h;show⟨HH d.h g.h (i6 c)⟩
end
structure GvT (K:ZA) (mg:ZC) (x:lx) (xs:hH V):Prop where
 ex:∃a,mg x∣.ref a/\∀H,SqT K H a xs
def Do{K:ZA}{h:yu}{o:MU}{its:ZJ}{n:kj}(X:K.In h)(G:h.Ns wy mg)(z:Qj K wy x∣hY (.ref a))
 (b:K.lookup a∣o) (c:o.cls= .type "tuple") (d:o.data= .seq its n) (e:its.size<=mv) (r:aI xs its.toList):GvT K mg x xs:=
 %[a,Na X G z|λ_=> .inr %[o,its,n,b,c,d,e|r]]
def Kq{X:Cx}{K:ZA}{x:lx}(h:X.K=K)(g:GvT K X.mg x xs)(b:Gl X x)(c:(x==("__debug__":lx))=jg):QE X (.Name x pos) (λ_ H Q=>∀a,(∀d,SqT K d a xs)->Q (.ref a) H):=by
 let%[a,e|f]:=g.ex;show⟨λij s i H Q I q=>GE (v:= .ref a) %[.ref a,e|rfl] b c ij s i H Q I (q a f)⟩
def Kr{X:Cx}(c:∀e s,X.xe e s->KZ)(d:QSs X a g):QS X (.Try a [h] [] [] pos) g:=by
 show⟨λij s i H D I q=>Vu (Lb (d.h ij s i H D I q) (λf b q=>?_) λe b q=>(c e b q).elim)⟩;cases f with
 | next=>show Nf q
 | brk=>show q
 | cont=>show q
 | ret u=>show q
section
variable{X:Cx}{K:ZA}
#where
variable{S:kG}
def gB{ks:ZB}{Q:ZD}(v:∀(m:ZD) (R:ZF->mu->Prop),(∀f us c,Lr us c->c.Perm ks->(∀b o,s.heap.get? b∣o->f.heap.get? b∣o)->f.gens=s.gens->f.os=s.os->R us f)->↥A.in1 (Pn (.ref S)) R m s)(few: ~~~ks<=1000)
 (U:∀(f s':mu) (l:kG) (vs:ZF) (ss:ZB) (n:kj),Lr vs ss->ss.Perm ks->(~~~ks<64->ss.Pairwise (λa b=>aN b a=jg))->(∀b o,s.heap.get? b∣o->f.heap.get? b∣o)->f.gens=s.gens->f.os=s.os->(∀b o,f.heap.get? b∣o->s'.heap.get? b∣o)->s'.gens=f.gens->s'.os=f.os->⇑f<=l->s'.heap.get? l=hY {cls:= .type "list",data:= .seq vs.toArray n}->Q (.ref l) s'):
 ↥A (call (.builtin "sorted") [.ref S]) Q E s:=by
 let J:∀us:ZF,(∃c,Lr us c/\c.Perm ks)-> ~~~us<=1000:=λus ⟨_,h,p⟩=>by rw[ck h,p.length_eq];show few
 show rR (G:=λus=>∃c,Lr us c/\c.Perm ks) (O:=λus out=>∃ss,Lr out.toList ss/\ss.Perm ks/\(~~~ks<64->ss.Pairwise (λa b=>aN b a=jg))) (λm R k=>v m R λf us c a b=>k f us %[c,a|b]) J (λY H us a P m g L kp h=>?_) λf s' l us out n g o k1 a1 a2 k2 a3 a4 hl gl=>?_
 .let%[c,d|C]:=g;let M:∀v1 i r,us=v1::i::r->keyKind' (v1::i::r).toArray=pure oneType':=λv1 i r e=>keyKind_strs (e▸d)
  let ll: ~~~us= ~~~ks:=by rw[ck d,C.length_eq]
  by_cases z: ~~~us<64
  .show list_sort_treeK strKind_oneLt L d.keysOf M z λab hp hs=>?_
   let%[ss,B,j|I]:=sorted_out_str d hp hs;show h _ %[ss,B,j.trans C|λ_=>AO ss I]
  .show vO (s:=s) (G:=λvs=>vs=us) (kd:=oneType') (λ_ e=>e▸J us %[_,d|C]) (λ_ s3 H m Q e j _ q=>?_) (λ_ x y s3 H Q e N T _ q=>?_) Y H us a P m rfl L kp λout p=>?_
   .rw[e]at j ⊢;obtain⟨v1,i,r,e⟩:∃v1 i r,us=v1::i::r:=by
     match us,j with
     | v1::i::r,_=>show%[v1,i,r|ρ]
    rw[e,M v1 i r e];show Z3 q
   .rw[e]at N T;let%[a,t|rfl]:=d.all _ N;let%[b,u|rfl]:=d.all _ T;rw[keyLt'_oneType];show oneLt_str (q _)
   .let%[ss,B|j]:=cm d p;show h out %[ss,B,j.trans C|λl=>ow (ll▸l) z]
 .let%[ss,B,j|I]:=o;show U f s' l out.toList ss n B j I k1 a1 a2 k2 a3 a4 hl (by rw[oT.toArray_toList];show gl)
end
def iB:∀{ks:ZB} {us:ZF},aI (ks\3) us->Lr us ks
 |[],_,.nil=> .nil
 | _::_,_,.cons r t=>by
   let%[t'|rfl]:=r;show .cons _ _ (iB t)
def dN:∀{ks:ZB} {us:ZF},Lr us ks->aI (ks\3) us
 | _,_,.nil=> .nil
 | _,_,.cons _ t h=> .cons %[t|rfl] (dN h)
section
variable{X:Cx}{K:ZA}
def AV(h:X.K=K):cj X (.builtin "sorted") (λxs H Q=>cJ xs λj=>asR j λa=>∃ks,Qc K H a (ks\3)/\ ~~~ks<64/\∀l (ss:ZB),H l=hX->ss.Perm ks->ss.Pairwise (λa b=>aN b a=jg)->Q (.ref l) (Qb H l (.lst (ss\3)))):=by
 subst h;show⟨λij s L H xs us Q I r h=>?_⟩;let%[j,rfl|d]:=bF h;let%[a,rfl|e]:=aM d;let%[ks,v,few|q]:=e;let%[u,rfl|w]:=cO r;cases w;let%[its,m,%[o,n,y,z,M|f]|N]:=I.list v;let O: ~~~its= ~~~ks:=by rw[<-m.length,Z6]
 show gB (ks:=ks) (λT R A=>U6 a (.inl rfl) y z f (λh' k=>?_) (!2)) (by omega) λU s' l vs ss n B p C k1 E G k g o c J=>?_
 .show A _ _ _ (iB m) (.refl _) k rfl rfl
 .let i:=I.keptS k1 E G;show%[.ref l,_,i.stoodS (o:= .lst _) (i.keptS k g o) c %[?_,vs,n,dN B|J],ρ|q l ss (i.hok.fresh c) p (C few)];rw[Z6,p.length_eq,Le];omega
def oJ{P:nX}{w:v0}:∀{es:hH Rw} {vs:hH (Key×ku)} {ks:ZB},Pairs (aR P w) es vs->vs\1=ks.map lp->Lr (es.map (·.key)) ks
 | _,_,[],h,e=>by
   cases h with
   | nil=>show .nil
   | cons _ _ _=>cases e
 | _,_,k::ks,h,e=>by
   cases h with
   | nil=>cases e
   | @cons l m a b c n d=>
     rw[Yp,Yp]at e;injection e with f g
     rcases aZ (c)with⟨i,t,q,_⟩|⟨x,t,q,j⟩
     .simp_all
     .rw[f]at q;cases q;rw[Yp,j];show .cons _ _ (oJ d g)
def AW(w:X.calm=iv):cj X (.builtin "sorted") (λxs H Q=>cJ xs λm=>asR m λa=>∃(c:hH (Key×V)),Rd H a (.dK c)/\∃(ks:ZB),c\1=ks.map lp/\ ~~~ks<64/\∀l (ss:ZB),H l=hX->ss.Perm ks->ss.Pairwise (λa b=>aN b a=jg)->Q (.ref l) (Qb H l (.lst (ss\3)))):=by
 show⟨λij s T H xs us Q I r h=>?_⟩;let%[m,rfl|e]:=bF h;let%[a,rfl|f]:=aM e;let%[c,y,ks,i,few|q]:=f;let%[u,rfl|z]:=cO r;cases z;let%[_,lo,vs,A,o,es,U,g,ex,B,_,C|_]:=i5 I.hok y;let p:=oJ C (i▸A.keys.symm);let Y:=by
  let:=ck p;rw[Z6,Zb]at this;omega
 show gB (ks:=ks) (λE1 R E=>mQ lo (I.ok.hd w) %[o,g,ex|B] (by rw[Le];omega) λh' tk k G=>E _ _ _ p (.refl _) k rfl rfl) (by omega) λs1 s' l vs ss n J v L k1 M N k g o d O=>?_
 let j:=I.keptS k1 M N;show%[.ref l,_,j.stoodS (o:= .lst _) (j.keptS k g o) d %[?_,vs,n,dN J|O],ρ|q l ss (j.hok.fresh d) v (L few)];rw[Z6,v.length_eq,Le];omega
def oK{w:v0}(h:X.w=w)(z:X.calm=iv):cj X (.builtin "sorted") (λxs H Q=>cJ xs λv=>asR v λa=>∃ks,H a∣lV w a ks/\ ~~~ks<=1000/\∀l (ss:ZB),H l=hX->ss.Perm ks->(~~~ks<64->ss.Pairwise (λa b=>aN b a=jg))->Q (.ref l) (Qb H l (.lst (ss\3)))):=by
 subst h;show⟨λij s L H xs us Q I r h=>?_⟩;let%[v,rfl|e]:=bF h;let%[a,rfl|f]:=aM e;let%[ks,A,few|q]:=f;let%[u,rfl|B]:=cO r;cases B;let%[S,_|_]:=(I.hok a _ A)
 show gB (ks:=ks) (λM R C=>vy (I.ok.hd z) S λy vs ss i d k1 j m E=>C y vs ss i d k1 j m) few λy s' l vs ss n i d G k1 j m k g o c J=>?_
 let p:=I.keptS k1 j m;show%[.ref l,_,p.stoodS (o:= .lst _) (p.keptS k g o) c %[?_,vs,n,dN i|J],ρ|q l ss (p.hok.fresh c) d G];rw[Z6,d.length_eq,Le];omega
def AX(h:X.K=K):cj X (.builtin "sorted") (λxs H Q=>cJ xs λi=>asR i λa=>∃(ps:ZG),Qc K H a (ps\0)/\aF H ps/\∃(m:kj),(∀p∈ps,~~~p.2=m)/\m≠0/\ ~~~ps<=1000/\∀(l:kG) (ss:ZG),H l=hX->ss.Perm ps->Q (.ref l) (Qb H l (.lst (ss\0)))):=by
 subst h;show⟨λij s N H xs us Q I r h=>?_⟩;let%[i,rfl|c]:=bF h;let%[a,rfl|d]:=aM c;let%[ps,v,w,m,y,z,few|q]:=d;let%[u,rfl|A]:=cO r;cases A;let%[its,B,%[o,n,C,E,O|e]|T]:=I.list v;let:=uj B;subst this;show ke (λU R G=>U6 a (.inl rfl) C E e (λh' k=>?_) (!2)) (nH I w) y z few λY s' l ss n j k1 J L k g o b M=>?_
 .show G _ _ (LL _) k rfl rfl
 .let f:=I.keptS k1 J L;show%[.ref l,_,f.stoodS (o:= .lst _) (f.keptS k g o) b %[?_,ss.map _,n,nJ ss|M],ρ|q l ss (f.hok.fresh b) j];rw[Z6,j.length_eq,Le];omega
def IY{k:kj}{i o:Ds}{ty a:TE}{pos:Pos}(b:bE k X.A)(c:LV .In o=jg)(hi:QE X i ty)(d:QE X o a):QT X (.Compare i [.In] [o] pos) (tB (HZ ty a)):=
 ⟨BE (Ia (by let:=b.units;omega) hi.h d.h) c⟩
end
def c9{X:Cx}{K:ZA}{a b:Ds}{c d:TE}{pos:Pos}(h:X.K=K)(e:nD b)(f:QE X a c)(g:QE X b d):QE X (.Subscript a b pos) (tOp (HP K) c d):=by subst h;show⟨B7 HR f.h g.h e⟩
section
#where
end
section
end
section
#where
end
section
variable{X:Cx}{pos:Pos}
def oM(b:Oq (Lx X.prog X.w) X.A X.env X.xe)(d:QT X c e)(f:QSs X a g):QS X (.While c a [] pos) (BL e g):=⟨BM b d.h f.h⟩
def bR(a:bE k X.A)(b:HY i)(c:QE X o d)(hi:QE X i ty):QE X (.Subscript o i pos) (Cd d ty):=⟨Fo (by let:=a.units;lia) c.h hi.h b⟩
#where
def FY{P:kj->ku->Prop}(val:kj->lx)(a:∀i v,P i v->∃t,v= .str (val i) t):CmpOf prog w A .Gt P (λi j=>decide ((val j).cps.toList<(val i).cps.toList)):=λi j b c s Q E hi d h=>by
 let%[t|rfl]:=a i b hi;let%[u|rfl]:=a j c d;show U8 (Np s _ t) (Np s _ u) PySem.F.slot_str_gt PySem.F.entry_str_gt (PySem.F.args_str_gt_2 _ _) (gives_str_gt _ _ t u) (λx=>nomatch x) h
def ze{P:kj->ku->Prop}(val:kj->lx)(a:∀i v,P i v->∃t,v= .str (val i) t):CmpOf prog w A .Lt P (λi j=>decide ((val i).cps.toList<(val j).cps.toList)):=λi j b c s Q E hi d h=>by
 let%[t|rfl]:=a i b hi;let%[u|rfl]:=a j c d;show U8 (Np s _ t) (Np s _ u) PySem.F.slot_str_lt PySem.F.entry_str_lt (PySem.F.args_str_lt_2 _ _) (gives_str_lt _ _ t u) (λx=>nomatch x) h
def Dp{i:kj}{v:ku}(h:(#[K7 x t,K7 y u]:ZJ)[i]?∣v):∃t,v= .str (if i=0 then x else y) t:=by
 match i,h with
 | 0,h=>show%[t|by simpa using h.symm]
 | 1,h=>show%[u|by simpa using h.symm]
 | i+2,h=>simp at h
def vT(a:kj->kj->ri):Oi a 1=if a 1 0=iv then 1 else 0:=by simp[Oi]
def uq{x y:lx}(l:A.handled=hX)
 (h:∀h' tk,(∀c o,s.heap.get? c∣o->h'.get? c∣o)->Q (if x.cps.toList<y.cps.toList then .str y u else .str x t) {s with heap:=h',toks:=tk}):
 ↥A (call (.builtin "max") [.str x t,.str y u]) Q E s:=by
 let j:(s.heap.push {cls:= .type _,data:= .seq #[.str x t,.str y u]}).IsTuple ⇑s _:=%[_,Zj _ rfl,rfl,0|rfl]
 show call_max_two (Qv j ?_);let b:(s.heap.push {cls:= .type "tuple",data:= .seq #[.str x t,.str y u]}).objs.size=⇑s+1:=Zq ..;show%[_,[_,⇑s],[_],_,_,_,_,ρ,Ve (A:=A.in1) l _ ⇑s (b▸Zs (Yn _)) _,
  %[%[_,Zj _ rfl,ρ|ρ]|j.push _],λc d=>?_,by simp,FY _ (λ_ _=>Dp)|λv h' tk m n=>?_]
 .rw[Zq,b];rcases Yu.mp d with rfl|d
  .simp
  .rcases Yu.mp d with rfl|d
   .show Ym (Yn _)
   .cases d
 .let f:=λc o e=>by
   show n c o (λi=>?_) (Z7 _ (Z7 _ e));rcases Yu.mp i with p|i
   .let:=Zu e;rw[p,b]at this;show Xh _ (TK this)
   .cases i
  let q:=h h' tk f;let a:(#[K7 x t,K7 y u])[Oi _ 1]?∣v:=m;rw[vT]at a;by_cases g:x.cps.toList<y.cps.toList
  .rw[md (by simp[g])]at a;rw[md g]at q;show(show K7 y u=v by simpa using a)▸q
  .rw[kw (by simp[g])]at a;rw[kw g]at q;show(show K7 x t=v by simpa using a)▸q
def ur{x y:lx}(l:A.handled=hX)
 (h:∀h' tk,(∀c o,s.heap.get? c∣o->h'.get? c∣o)->Q (if y.cps.toList<x.cps.toList then .str y u else .str x t) {s with heap:=h',toks:=tk}):
 ↥A (call (.builtin "min") [.str x t,.str y u]) Q E s:=by
 let j:(s.heap.push {cls:= .type _,data:= .seq #[.str x t,.str y u]}).IsTuple ⇑s _:=%[_,Zj _ rfl,rfl,0|rfl]
 show call_min_two (Qv j ?_);let b:(s.heap.push {cls:= .type "tuple",data:= .seq #[.str x t,.str y u]}).objs.size=⇑s+1:=Zq ..;show%[_,[_,⇑s],[_],_,_,_,_,ρ,Ve (A:=A.in1) l _ ⇑s (b▸Zs (Yn _)) _,
  %[%[_,Zj _ rfl,ρ|ρ]|j.push _],λc d=>?_,by simp,ze _ (λ_ _=>Dp)|λv h' tk m n=>?_]
 .rw[Zq,b];rcases Yu.mp d with rfl|d
  .simp
  .rcases Yu.mp d with rfl|d
   .show Ym (Yn _)
   .cases d
 .let f:=λc o e=>by
   show n c o (λi=>?_) (Z7 _ (Z7 _ e));rcases Yu.mp i with p|i
   .let:=Zu e;rw[p,b]at this;show Xh _ (TK this)
   .cases i
  let q:=h h' tk f;let a:(#[K7 x t,K7 y u])[Oi _ 1]?∣v:=m;rw[vT]at a;by_cases g:y.cps.toList<x.cps.toList
  .rw[md (by simp[g])]at a;rw[md g]at q;show(show K7 y u=v by simpa using a)▸q
  .rw[kw (by simp[g])]at a;rw[kw g]at q;show(show K7 x t=v by simpa using a)▸q
def qz{l:kG}{its:ZJ}{val:kj->lx}{Q:ZD}(n:A.handled=hX)(f:s.heap.IsList l its)(g:0<its.size)(a:∀(i:kj) v,its[i]?∣v->∃t,v= .str (val i) t)
 (h:∀v h' tk,its[Oi (λi j=>decide ((val i).cps.toList<(val j).cps.toList)) (its.size-1)]?∣v->(∀b o,s.heap.get? b∣o->h'.get? b∣o)->Q v {s with heap:=h',toks:=tk}):
 ↥A (call (.builtin "min") [.ref l]) Q E s:=by
 let c:l<⇑s:=by let%[_,e|_]:=f;show Zu e
 show call_min_walk (NI f %[_,[⇑s,l],[⇑s],_,_,_,_,rfl,Q2 (A:=A.in1) n _ l (Zs c) its,%[%[_,Zj _ rfl,rfl|rfl]|f.push _],λb d=>?_,g,ze val a|λv h' tk p q=>?_])
 .rw[Zq];rcases Yu.mp d with rfl|d
  .simp
  .rcases Yu.mp d with rfl|d
   .show Ym c
   .cases d
 .show h v h' tk p λb o e=>q b o (λm=>?_) (Z7 _ e)
  rcases Yu.mp m with r|m
  .show ow (r▸Zu e) (Xh _)
  .cases m
def oN(val:kj->lx):∀k,Oi (λi j=>decide ((val i).cps.toList<(val j).cps.toList)) k<=k/\∀j,j<=k->aN (val j) (val (Oi (λi j=>decide ((val i).cps.toList<(val j).cps.toList)) k))=jg
 | 0=>%[Zi _|λj b=>by rw[le_zero.mp b];show di _]
 | k+1=>by
   let%[g|d]:=oN val k;rw[Oi];by_cases c:aN (val (k+1)) (val (Oi (λi j=>decide ((val i).cps.toList<(val j).cps.toList)) k))=iv
   .let a:=c;unfold aN at a;rw[md a];show%[Zi _|λj b=>?_];by_cases e:j=k+1
    .show e▸di _
    .cases f:aN _ _ with
     | false=>rfl
     | true=>have:=dE f c;rw[d j ⋯]at this;cases this
   .let a:=c;unfold aN at a;rw[kw a];show%[⋯|λj b=>?_];by_cases e:j=k+1
    .lia
    .show d j ⋯
end
section
variable{X:Cx}
def AY(g:X.calm=iv):ci X (.builtin "max") (λxs H Q=>lP xs λf x2=>asS f λx=>asS x2 λy=>Q (.str (if aN x y=iv then y else x)) H):=by
 intro ij s i H xs us Q I r h;let%[f,x2,rfl|b]:=jY h;let%[x,rfl|c]:=fj b;let%[y,rfl|d]:=fj c;let q:=d;let%[u,j,rfl,%[t|rfl],t'|rfl]:=iY r;show uq (I.ok.hd g) λh' tk k=>%[_,H,I.kept k,?_|q]
 by_cases a:x.cps.toList<y.cps.toList
 .rw[md a,md (show aN x y=iv from Zf a)];show%[_|ρ]
 .rw[kw a,kw (show ¬ aN x y=iv from λe=>a (Zo e))];show%[_|ρ]
def AZ(g:X.calm=iv):ci X (.builtin "min") (λxs H Q=>lP xs λf x2=>asS f λx=>asS x2 λy=>Q (.str (if aN y x=iv then y else x)) H):=by
 intro ij s i H xs us Q I r h;let%[f,x2,rfl|b]:=jY h;let%[x,rfl|c]:=fj b;let%[y,rfl|d]:=fj c;let q:=d;let%[u,j,rfl,%[t|rfl],t'|rfl]:=iY r;show ur (I.ok.hd g) λh' tk k=>%[_,H,I.kept k,?_|q]
 by_cases a:y.cps.toList<x.cps.toList
 .rw[md a,md (show aN y x=iv from Zf a)];show%[_|ρ]
 .rw[kw a,kw (show ¬ aN y x=iv from λe=>a (Zo e))];show%[_|ρ]
def A0(C:X.calm=iv):ci X (.builtin "min") (λxs H Q=>cJ xs λn=>asR n λp=>∃(ss:ZB),Qc X.K H p (ss\3)/\0< ~~~ss/\∀m∈ss,(∀y∈ss,aN y m=jg)->Q (.str m) H):=by
 intro ij s T H xs us Q I r h;let%[n,rfl|f]:=bF h;let%[p,rfl|g]:=aM f;let%[ss,E,U|q]:=g;let%[u,rfl|l]:=cO r;cases l;let%[its,o,G|Y]:=I.list E;let a:= ~~~o;rw[Z6]at a;let J:its.toArray.size= ~~~ss:=by rw[Zp,a]
 let c:∀i v,its.toArray[i]?∣v->∃t,v=K7 (ss.getD i K3) t:=λi v e=>by
  let e:=↑e
  let hi:i< ~~~ss:=a▸(Xj e).1;let%[u,w|l]:=o.get (by rw[Zl,Z4 hi];rfl);rw[e]at w;let%[t|d]:=l;show%[t|by rw[Za w,d,Zc,Z4 hi];rfl]
 show qz (I.ok.hd C) G.isList ⋯ c λv h' tk z k=>?_
 let%[L|A]:=oN _ _;let%[t|d]:=c _ _ z
 generalize Oi _ _=b at L A z d
 let B:b< ~~~ss:=by lia
 let M:ss.getD b K3=ss[b]:=by rw[Zc,Z4 B];rfl
 show%[.str _,H,I.kept k,%[t|d]|q _ (M▸Yc B) λy N=>?_];let%[j,O|rfl]:=OF N;let:=A j ⋯;rwa[show ss.getD j K3=ss[j] by rw[Zc,Z4 O];rfl]at this
def IZ(a:X.calm=iv):cj X (.builtin "max") (λxs H Q=>lP xs λb x2=>asS b λx=>asS x2 λy=>Q (.str (if aN x y=iv then y else x)) H):=⟨AY a⟩
def Dq(a:X.calm=iv):cj X (.builtin "min") (λxs H Q=>lP xs λb x2=>asS b λx=>asS x2 λy=>Q (.str (if aN y x=iv then y else x)) H):=⟨AZ a⟩
def Ja{K:ZA}(h:X.K=K)(a:X.calm=iv):cj X (.builtin "min") (λxs H Q=>cJ xs λb=>asR b λp=>∃(ss:ZB),Qc K H p (ss\3)/\0< ~~~ss/\∀m∈ss,(∀y∈ss,aN y m=jg)->Q (.str m) H):=by subst h;show⟨A0 a⟩
#where
variable{R:Rs->mu->Prop}{I:kG}{fp:hH kG}{wr:hH kG}{G:oT P7->oT P7->Prop}{n:kj}{P:kj->ku->Prop}{St:kj->mu->Prop}
end
def zf{b:Type}{a:hH (b×V)}{vs:hH (b×ku)}(r:KV a vs):aI (a\2) (vs\2):=by
 induction r with
 | nil=>show .nil
 | cons h _ c=>show .cons h.2 c
section
variable{X:Cx}{K:ZA}
abbrev Dr:V->hH V->Hp->VK->Prop:=λx vs H Q=>asR x λa=>∃k y,vs=[kV k,y]/\∃b,H a∣.dK b/\ ~~~b<mv/\(∀v,bV b k∣v->Q v H)/\(bV b k=hX->Q y (Qb H a (.dK (cY b k y))))
def FZ:MtM X "dict.setdefault" Dr:=by
 intro ij s J H x vs v us Q I p r h;let%[a,rfl,k,y,rfl,b,e,L,u|w]:=aM h;cases p;let%[M,A,rfl,B|l]:=iY r;let%[z,m,vs,c|n]:=kC I.hok e;show Po TZ n.typeIs PySem.F.entry_dict_setdefault (PySem.F.args_dict_setdefault_3 _ _ _) (kt_meets_setdefault _ a (nS B) m A) %[vs,n,~~~c▸z,λN hw=>?_|λO h' f C=>?_]
 .let q:=c.val k;cases d:bV b k with
  | none=>
    rw[fY.none_of (o:=QP vs k) (d▸q)]at hw;cases hw
  | some i=>
    let%[E,g|j]:=fY.some_of (d▸q);rw[g]at hw;show(Za hw)▸%[i,H,I.tok _,j|u i d]
 .let d:bV b k=hX:=by
   cases d:bV b k with
   | none=>rfl
   | some i=>
     let%[E,g|_]:=fY.some_of (d▸c.val k)
     grind
  show%[y,_,kD I (e▸Li) C (let⟨q,_,_,G,_⟩:=f;%[q|G]) (nU (by let:=f9 b k y;lia) m (c.put k l) f),l|w d]
def iC:MtQ X "dict.setdefault" Dr:=⟨FZ⟩
abbrev kR(v a:kG):HO:= .ext λh=>h.IsValuesView v a
abbrev Dt:V->hH V->Hp->VK->Prop:=λx vs H Q=>asR x λa=>vs=[]/\∃b,H a∣.dK b/\∀v,H v=hX->Q (.ref v) (Qb H v (kR v a))
def F0:MtM X "dict.values" Dt:=by
 intro ij s w H x vs v us Q I i j h;let%[a,rfl,rfl,l,e|q]:=aM h;cases i;let c:=j.zero;subst c;let%[z,m,vs,n|f]:=kC I.hok e;show Po Vw f.typeIs PySem.F.entry_dict_values (PySem.F.args_dict_values_1 _) (meets_dict_values _ a m) %[%[vs|f]|?_];let g:(s.heap.push {cls:= .type _,data:= .fields _}).IsValuesView ⇑s a:=%[_,Zj _ rfl,rfl|rfl]
 show%[.ref ⇑s,_,I.laid (o:=kR ⇑s a) (λb u e=>Z7 _ e) (Zi _) %[g,?_|λy A p k1=>?_],ρ|q _ I.fresh]
 .let%[o,d|_]:=g;show%[o|d]
 .let%[o,d|r]:=p;show%[o,k1 _ d|r]
def vU:MtQ X "dict.values" Dt:=⟨F0⟩
def ya(p:X.calm=iv):ci X (.type "list") (λxs H Q=>cJ xs λn=>asR n λv=>∃(a:kG),H v∣kR v a/\∃(b:hH (Key×V)),H a∣.dK b/\∀l,H l=hX->Q (.ref l) (Qb H l (.lst (b\2)))):=by
 intro ij s T H xs us Q I r h;let%[n,rfl|g]:=bF h;let%[v,rfl|j]:=aM g;let%[a,w,b,y|q]:=j;let%[u,rfl|A]:=cO r;cases A;let%[z,U,vs,f|B]:=kC I.hok y;let m:=(I.hok _ _ w).1;let%[o,es,C,E|G]:=B;let J:s.heap.DictAt _ a vs C:=%[o,es,E|G]
 let L:= ~~~f;show PySem.W.kdl_call (kdl_values) (I.ok.hd p) %[m|J] ⋯ λh' tk acc c keep M d=>?_
 let Y: ~~~acc.toList= ~~~b:=by rw[Zb,d.1,L]
 show%[.ref ⇑s,_,I.laid keep (Zi _) ?_,ρ|q _ I.fresh];let e:acc.toList=vs\2:=by
  show OQ (!2) λi N h2=>?_
  let%[k|O]:=d.2 i _ (J6 N);let%[h3|e3]:=Xj O
  simp_all
 show%[by rw[Z6];show z,acc.toList,c,e▸zf f|M]
def F1(c:X.calm=iv):cj X (.type "list") (λxs H Q=>cJ xs λd=>asR d λv=>∃(a:kG),H v∣kR v a/\∃(b:hH (Key×V)),H a∣.dK b/\∀l,H l=hX->Q (.ref l) (Qb H l (.lst (b\2)))):=⟨ya c⟩
end
def vV:∀{ss:ZB},z∈ss->∃j,ss[j]?∣z/\(∀m,m<j->∀y,ss[m]?∣y->y≠z)/\(z::ss.eraseIdx j).Perm ss
 | x::ss,h=>by
   by_cases e:x=z
   .show%[0,by simp[e],λm b=>ow b ⋯|by simp[e]]
   .let%[j,c,d|f]:=vV ((Yu.mp h).resolve_left λq=>e q.symm);show%[j+1,c,λm b y a=>?_|?_]
    .cases m with
     | zero=>simp at a;show a▸e
     | succ m=>show d m ⋯ y (a)
    .show(SO _ _ _).trans (f.cons _)
section
variable{X:Cx}{K:ZA}
abbrev Jb:V->hH V->Hp->VK->Prop:=λx vs H Q=>asR x λa=>∃k y,vs=[kV k,y]/\∃b,H a∣.dK b/\Q ((bV b k).getD y) H
def Jc:MtM X "dict.get" Jb:=by
 intro ij s n H x vs v us Q I f g h;let%[a,rfl,k,y,rfl,b,e|q]:=aM h;cases f;let%[o,i,rfl,j|l]:=iY g;let%[z,m,vs,c|d]:=kC I.hok e;show Po Wc d.typeIs PySem.F.entry_dict_get (PySem.F.args_dict_get_3 _ _ _) (meets_dict_get_default _ a (nS j) m i) %[_,d.mapOf,(bV b k).getD y,H,I.tok _,(c.val k).getD l|q]
def vW:MtQ X "dict.get" Jb:=⟨Jc⟩
abbrev isZ(z:lx):ku->ri
 | .str x _=>x==z
 | _=>jg
def A2(t:Tok)(r:aI (ss\3) its)(g: ~~~ss= ~~~its)(i:z∈ss):∃(j:kj) (d:j<its.toArray.size),ss[j]?∣z/\(z::ss.eraseIdx j).Perm ss/\(∀y,y∈its.toArray->MeetsSeq.EqGives y (.str z t) (isZ z y))/\isZ z its.toArray[j]=iv/\∀m (a:m<its.toArray.size),m<j->isZ z its.toArray[m]=jg:=by
 let%[j,e,l|n]:=vV i;let at_:∀m y,its[m]?∣y->∃x t,y=K7 x t/\ss[m]?∣x:=λm y b=>by
  let a:m< ~~~ss:=g▸(Xj b).1;let%[u,h|o]:=r.get (by rw[Zl,Z4 a];rfl);rw[b]at h;let%[t|p]:=o;show%[_,t,(Za h).trans p|Z4 a]
 let d:j< ~~~its:=g▸(Xj e).1;show%[j,d,e,n,λy b=>?_,?_|λm a f=>?_]
 .let%[m|a]:=Xd ↑b;let%[x,t',rfl|_]:=at_ m y a;show eqGives_str x z t' t
 .let%[x,t',ex|c]:=at_ j _ (Z4 d);rw[e]at c;change isZ z its[j]=iv;rw[ex,<-Za c];show M0 z
 .let%[x,t',ex|c]:=at_ m _ (Z4 a);change isZ z its[m]=jg;rw[ex];show K5.mpr (l m f x c)
abbrev ut:V->hH V->Hp->VK->Prop:=λx vs H Q=>asR x λl=>∃z,vs=[.str z]/\∃ss:ZB,H l<*ss\3/\z∈ss/\∀a,(z::a).Perm ss->Q .non (Qb H l (.lst (a\3)))
def Ba:MtM X "list.remove" ut:=by
 intro ij s A H x vs v us Q I c d h;let%[l,rfl,z,rfl,ss,a,f|q]:=aM h;cases c;let%[u,rfl|g]:=d.one;let%[t|rfl]:=g;let%[i,its,n,r,b|e]:=I.lstM a;rw[Z6]at b i;let%[j,m,_,o,p,w|y]:=A2 t r b f;show Nu F.slot_list_remove %[_,e|rfl] F.entry_list_remove (F.args_list_remove_2 _ _) (MeetsSeq.list_remove l its.toArray n _ _ p j m w y (!2)) %[e,.non,_,I.lset (its':=its.eraseIdx j) a e ?_ ?_ ?_,rfl|q _ o]
 .simp
 .rw[NE,Zd,UU,UV,<-NE];show r.eraseIdx j
 .let:=qZ ss j;rw[Z6]
  lia
def Du:MtQ X "list.remove" ut:=⟨Ba⟩
end
def Bb:Ow (.type "list_reverseiterator") "__len__"=pure hX:=by kernel_rfl
def Dv:Ow (.type "list_reverseiterator") "__length_hint__"=pure (hY (.builtin "list_reverseiterator.__length_hint__")):=by kernel_rfl
section
#where
def qA(hh:A.handled=hX)(O:s.heap.IsRevIter I l ((a.size:pp) -1))(U:s.heap.IsList l a)(ne:l≠I)(hz:a.size<=mv)
 (hQ:∀s' acc c,(∀b o,b≠I->s.heap.get? b∣o->s'.heap.get? b∣o)->s'.gens=s.gens->s'.os=s.os->s'.heap.get? ⇑s=hY {cls:= .type "list",data:= .seq acc c}->acc.toList=a.toList.reverse->Q (.ref ⇑s) s'):
 ↥A (call (.type "list") [.ref I]) Q E s:=by
 let v:I<⇑s:=let⟨_,i,_⟩:=O;Zu i;let y:l<⇑s:=let⟨_,i,_⟩:=U;Zu i
 generalize p:s.heap.push {cls:=Lu "list",data:=Data.seq #[]}=G
 let gz:G.objs.size=⇑s+1:=by rw[<-p,Zq]
 let z:∀b o,s.heap.get? b∣o->G.get? b∣o:=λb o e=>by rw[<-p];show Z7 _ e
 let q:G.get? ⇑s=hY {cls:=Lu "list",data:=Data.seq #[]}:=by rw[<-p];show Zj _ rfl
 show callType_codes (Q₁:=λobj g=>obj= .ref ⇑s/\g=(s>>>G)) F.called_list (F.typeCall_list_1 (m4 I)) F.entry_list_init (code_list_new (m4 I) %[rfl|by rw[p]]) λobj g j=>?_
 let%[rfl|rfl]:=j;show%[%[_,q|ρ],F.args_list_init_2 _ _|?_];change ↥A.in1.in1 (o0.«list.__init__» %[[.ref ⇑s,.ref I]|[]]) _ _ _;unfold o0.«list.__init__»;show Z2 ?_;show listItems_at (s:=(s>>>G)) q rfl ?_;show Z2 (N2 (s:=(s>>>G)) q rfl ?_ (Xc _));let Y:=K6 (LX λ_=> #[]) q rfl;let f:∀b o,b≠⇑s->G.get? b∣o->(G.update ⇑s (LX λ_=> #[])).get? b∣o:=λb o B e=>(J5 _ _ (J0 B)).trans e
 show Z2 (MY ?_)
 generalize G.update ⇑s (LX λ_=> #[])=h at Y f
 let C:I≠⇑s:=Zs v;let nl:l≠⇑s:=Zs y;let m:h.IsRevIter I l ((a.size:pp) -1):=O.at λo e=>f _ _ C (z _ _ e)
 let H:h.IsList l a:=let⟨o,i,r⟩:=U;%[o,f _ _ nl (z _ _ i)|r];let W:=RD.listRev (prog:=prog) (w:=w) (A:=A.in1.in1) hh I l ne a;let n:(0<=a.size/\h.IsRevIter I l (↑(a).size-1-((0:kj):pp))/\h.IsList l a):=%[Xc _,↑m|H]
 change ↥A.in1.in1 (My (.ref ⇑s) (.ref I) .none) _ _ (s>>>h);unfold My;let u:Pp (s>>>h) (.ref I) "list_reverseiterator":=m.typeIs;show Z2 (Pf (T:="list_reverseiterator") u ?_);let n1:Qg (.ref ⇑s) (.ref I)=jg:=K5.mpr (J0 C);let n2:(Lu "list_reverseiterator"==Lu "list")=jg:=!1
 let n3:(Lu "list_reverseiterator"==Lu "tuple")=jg:=!1
 simp only[n1,n2,n3,U0,Zz,Nb];show Z2 (W.self 0 (s>>>h) _ _ n ?_);show Z2 (vu ?_);unfold Pt;show Z2 (N9 (T:="list_reverseiterator") u Bb ?_);change sh _ _ (specialOf (.ref I) (!"__length_hint__")>>= _) _ _ _;show Z2 (N9 u Dv ?_)
 wp_delta
 show Z2 (MA (T:="list_reverseiterator") (b:=iv) u (by rw[isSubtype_type];kernel_rfl) ?_);simp only[U1,Zz,Nb];rw[md (!0)];rw[kw (!1)];show Z3 ?_;rw[kw (!0)];let J:⇑s∉[I,l]:=by
  simp only[Yu,X3,LA,NM];show%[J0 C|J0 nl]
 show Z3 %[Md TQ _|Ua W.toS hz _ J _ a.size 0 _ _ _ rfl (Xc _) n Y (UD _) λs5 acc c5 L M d=>?_];show%[ρ|hQ s5 acc c5 (λb o B e=>?_) L.gens L.os M ?_]
 .let nb:b≠⇑s:=Zs (Zu e);show L.heap b o ?_ (f _ _ nb (z _ _ e));simp only[Yu,X3,LA,NM];show%[nb|B]
 .apply Pm;intro k;let al: ~~~acc.toList=a.size:=Zb▸d.1;by_cases hk:k<a.size
  .let N:k<acc.size:=d.1▸hk;let:=d.2 k acc[k] ∅;rw[hH.getElem?_reverse (hk),Zb,Ni,Ni,this];simp[N]
  .rw[Xi ⋯,Xi (by simp;lia)]
end
abbrev Jd(n:kj)(a l:kG)(m:kj):HO:= .ext λh=>n<=a/\h.IsRevIter a l (m-1)
def Bc{X:Cx}:ci X (.type "reversed") (λxs H Q=>∃(l:kG) (ys:hH V),xs=[.ref l]/\Qc X.K H l ys/\∀r,H r=hX->Q (.ref r) (Qb H r (Jd X.s₀.heap.objs.size r l ys.length))):=by
 intro ij s a H xs us Q I r h;let%[l,ys,rfl,c|q]:=h;let%[u,rfl|d]:=cO r;cases d;let%[its,f,pl|j]:=I.list c;show call_reversed_list pl.isList ?_;let g:=I.hok.fresh (Zi _);let J:Qd X ij a H (s>>>(s.heap.push (revObj l (its.toArray.size-1)))):=I.keptS (λb o e=>Z7 _ e) rfl rfl;show%[.ref ⇑s,_,I.stoodS (o:=Jd X.s₀.heap.objs.size ⇑s l ys.length) J (Zi _) %[%[I.sz|?_],%[_|Zj _ rfl]|λ_ _ ⟨i,x⟩ k=>%[i|x.at λo e=>k o e]],ρ|q _ g];rw[~~~f,<-Zp];show%[_,Zj _ rfl,ρ|ρ]
def Qd.dropped{X:Cx}(I:Qd X ij j H s)(l:H a∣.ext i)(m:X.s₀.heap.objs.size<=a)(f:∀b o,b≠a->s.heap.get? b∣o->s'.heap.get? b∣o)(r:s'.gens=s.gens)(v:s'.os=s.os):Qd X ij j (drop H a) s':=by
 let ne:∀{b:kG} {o:HO},H b∣o->(∀i,o≠ .ext i)->b≠a:=λe n z=>by
  grind
 let un:Un (frs X.stack) [a] H (drop H a) s.heap s'.heap:=by
  show%[λb o e _ _ d=>f b o ↑d e,λb o e _ _ d=>%[o.slots|f b o ↑d e],λb o _ n _=>?_,λb o e d=>%[o|f b o ↑d e],λb xs e=>?_,λb o u e=>?_|λb ps e=>%[#[]|?_]]
  .unfold drop;split
   .rfl
   .show n
  .rw[bL (ne e ∅)];show e
  .rw[bL (ne e ∅)];show e
  .rw[bL (ne e ∅)];simpa using e
 let g:HOk X.prog X.w (drop H a) s'.heap:=λb o e=>by
  let nb:b≠a:=λz=>by rw[z,gQ]at e;cases e
  rw[bL nb]at e;show(I.hok b o e).stay (λc u h q=>f c u ?_ q) (λc q=>?_) λc xs q=>?_
  .rcases h with rfl|h
   .show nb
   .show ne h ∅
  .rw[bL (ne q ∅)];show q
  .rw[bL (ne q ∅)];show q
 show I.call' v un g (by rw[r];show I.bare) λb w=>by
  obtain rfl:b=a:=↑w
  show%[.inr m,λz=>?_,λx c e z=>?_|λp y z=>?_]
  .let:=I.free;grind
  .let:=I.freeC x c e;grind
  .let:=(I.pin p y).2.1;rw[z,l]at this;cases this
def vX{X:Cx}(y:X.calm=iv):ci X (.type "list") (λxs H Q=>∃(r l:kG) (ys:hH V),xs=[.ref r]/\H l<*ys/\H r∣Jd X.s₀.heap.objs.size r l ys.length/\∀p,drop H r p=hX->p≠r->Q (.ref p) (Qb (drop H r) p (.lst ys.reverse))):=by
 intro ij s L H xs us Q I r h;let%[a,l,ys,rfl,g,f|q]:=h;let%[u,rfl|A]:=cO r;cases A;let%[z,its,n,B,m|e]:=I.lstM g;let%[%[v|b]|_]:=I.hok a _ f;let i:l≠a:=λz=>by rw[z,f]at g;cases g
 let sz:its.toArray.size= ~~~ys:=!2
 show qA (I.ok.hd y) (by rw[sz];show b) %[_,e,rfl,n|rfl] i (by rw[sz];show z) λs' acc c C E j G d=>?_
 let w:=I.dropped f v (λ_ _ _ e=>e) rfl rfl;let J:=I.dropped f v C E j;let lt:=let⟨_,j,_⟩:=b;Zu j;show%[.ref ⇑s,_,w.stoodS (o:= .lst ys.reverse) J (Zi _) %[?_,acc.toList,c,?_|?_],ρ|q _ (w.hok.fresh (Zi _)) (Yx lt)]
 .rw[SM];show z
 .rw[d];show B.reverse
 .show G
abbrev vY(b:TE):TE:=λc H Q=>b c H λv a=>∃l ys,v= .ref l/\a l<*ys/\∀p,a p=hX->Q (.ref p) (Qb a p (.lst ys.reverse))
def Dw{X:Cx}(h:X.calm=iv)(i:Gl X "reversed")(j:X.mg "reversed"=hX)(a:Gl X "list")(b:X.mg "list"=hX)(d:aQ e=jg)(m:QE X e n):
 QE X (.Call (.Name "list" o) [.Call (.Name "reversed" s) [e] [] u] [] w) (vY n):=by
 let y:QE X (.Call (.Name _ s) [e] [] u) _:=ctE ⟨Bc⟩ i j VZ rfl rfl (by simp[d]) (paE d (⟨IH m.h⟩) ak);let z:=ctE (p:=o) (pos:=w) ⟨vX h⟩ a b O8 rfl rfl rfl (paE rfl y ak);show⟨II z.h λB H Q q=>?_⟩;show%[_,q|λv C ⟨l,ys,A,c,q⟩=>%[l,ys,by rw[A],Qc.of c|λr f=>?_]];show%[r,l,ys,ρ,by rw[ao (ax c f)];show c,aa|λp g _=>?_];rw[C1 f]at g ⊢;show q p g
section
variable{X:Cx}
abbrev Je:R2:=λx y H Q=>asR x λa=>asR y λb=>∃xs,H a<*xs/\H b<*[]/\Q (.bl (decide (xs≠[]))) H
def Jf(B:X.A.units+64<M3):OpR X (qq .NotEq) Je:=by
 intro ij s C H x y v u Q I l m h;let%[a,rfl|o]:=aM h;let%[b,rfl,xs,p,w|q]:=aM o;cases l;cases m;let%[z,its,n,r,g|e]:=I.lstM p;let%[E,its2,i,G,d|c]:=I.lstM w;obtain rfl:its2=[]:=xl.mp d.symm;by_cases f:xs=[]
 .subst f;obtain rfl:its=[]:=xl.mp g.symm;show Tb (op:= .NotEq) %[_,e|rfl] %[_,c|rfl] PySem.F.slot_list_ne PySem.F.entry_list_ne (PySem.F.args_list_ne_2 _ _) (SeqAt.list_neAt a b #[] #[] n i hX hX #[] #[] rfl λ_=>iv) %[e,c,λj h=>ow h (X2 j),by simp,.bl _,H,I,rfl|q] ⋯
 .let A:its.toArray.size≠0:=by
   rw[Zp,<-g];show λq=>f (xl.mp q)
  rw[Zf f]at q;show Tb (op:= .NotEq) %[_,e|rfl] %[_,c|rfl] PySem.F.slot_list_ne PySem.F.entry_list_ne (PySem.F.args_list_ne_2 _ _) (SeqAt.list_ne_lengthsAt a b its.toArray #[] n i hX hX #[] #[] ↑A) %[e,c,by simp,.bl iv,H,I,rfl|q] ⋯
def oO(a:bE k X.A):OpQ X (qq .NotEq) Je:=⟨Jf a.units⟩
#where
def fN(I:hH i->j->mu->Prop):∀(xs:hH i) (b:j) (s:mu),I xs b s->
 (∀x r b s,I (x::r) b s->↥A (f x b) (λy s'=>match y with| .done c=>Q c s'| .yield c=>I r c s') E s)->(∀b s,I [] b s->Q b s)->↥A (forIn xs b f) Q E s
 |[],b,s,h,_,a=>by
  show Z3 (a b s h)
 | x::r,b,s,h,d,a=>by
   rw[Qz];show Z2 (Lb (d x r b s h) (λy s' g=>?_) λ_ _ e=>e);cases y with
   | done c=>show Z3 g
   | yield c=>show fN I r c s' g d a
def Dx:∀c {Q:ri->mu->Prop},(∀b∈c,∃d,bw w b d s.heap)->Q iv s->↥A (setsQuiet c) Q E s:=by
 intro c Q h l;show Z2 (fN (λr b s'=>(∀b∈r,∃d,bw w b d s.heap)/\b=(hX,())/\s'=s) c _ s %[h,rfl|rfl] ?_ ?_)
 .intro x r b s' %[g,rfl|rfl];let%[d,o,es,C,t,ss,m,n,p,q,G,v,f,H,y,B|i]:=g x Zm;show Z2 (M5 m p y (Z2 ?_));rw[<-Pl];show fN (λr b a=>(∀e∈r,∃z u,e=(Mo w z,K7 z u))/\b=(hX,())/\a=s') es.toList _ _ %[f,rfl|rfl] ?_ ?_
  .intro e r b a %[j,rfl|rfl];let%[z,u|rfl]:=j e Zm;show Z3 %[λe h=>j e (Zk _ h),rfl|rfl]
  .intro b a %[_,rfl|rfl];show Z3 %[λe h=>g e (Zk _ h),rfl|rfl]
 .intro b s' %[_,rfl|rfl];show Z3 l
abbrev hsE(w:v0)(p:lx×Tok):pp×ku:=(Mo w p.1,.str p.1 p.2)
def bw.texts{a:kG}{h:yu}{o:MU}{es:oT (pp×ku)}(c:Lr (es.toList\2) ss)(f:ss.Perm ks)(d:∀e∈es.toList,∃z u,e=(Mo w z,K7 z u))(xs:hH (pp×ku))(b:xs.Perm es.toList):∃zs:hH (lx×Tok),xs=zs.map (hsE w)/\(zs\1).Perm ks:=by
 let all:∀l,(∀e∈l,∃z u,e=(Mo w z,K7 z u))->∃zs:hH _,l=zs.map (hsE w):=λl=>by
  induction l with
  | nil=>show λ_=>%[[]|rfl]
  | cons e l g=>
    intro h;let%[z,u|rfl]:=h e Zm;let%[zs|rfl]:=g λx b=>h x (Zk _ b)
    show%[(z,u)::zs|ρ]
 let%[zs|rfl]:=all xs λe i=>d e (b.mem_iff.mp i)
 show%[zs,ρ|?_];let%[ts,j|m]:=cm c (b.map _);let e:ts=zs\1:=by
  rw[<-j.strs,Yq,Yq];rfl
 show e▸m.trans f
def rW{f:hH kG}{c:ZI}{Q:oT (pp×ku)->mu->Prop}(U:bw w a ks s.heap)(hO:∀b∈f,∃js,bw w b js s.heap)(n:∀r,c∣r->r≠a/\bw w r [] s.heap)
 (hQ:∀(zs:hH (lx×Tok)) (d:Drawn) (h':yu),(zs\1).Perm ks->(∀b o,c≠hY b->s.heap.get? b∣o->h'.get? b∣o)->(∀r,c∣r->bw w r [] h')->Q (zs.map (hsE w)).toArray {s with heap:=h',drawn:=d}):
 ↥A (setWalkUnseen a f c) Q E s:=by
 let%[o,es,ep,t,ss,Y,ac,hd,J,hp,ae,L,I,hf,M|i]:=id U;let g:∀(xs:hH _) d h',xs.Perm es.toList->(∀b o,c≠hY b->s.heap.get? b∣o->h'.get? b∣o)->(∀r,c∣r->bw w r [] h')->Q xs.toArray {s with heap:=h',drawn:=d}:=λxs d h' hx u h2=>by
  let%[zs,rfl|hz]:=bw.texts (a:=a) (h:=h') (o:=o) J hp L xs hx;show hQ zs d h' hz u h2
 let walk:↥A (setWalk a) Q E s:=by
  show Z2 (p0 Y hd hf ?_);change sh _ _ (if aW w=iv then _ else _) _ _ _;by_cases N:aW w=iv
  .rw[md N];show Z2 (Lz (Z3 ?_));let:=g (MB (w.params.setOrder a ep) es).toList s.drawn s.heap (rG _ _) (λ_ _ _ e=>e) λr e=>(n r e).2
   show this
  .rw[kw N]
   split
   .show Z2 (tW es.size es.toList _ _ ∅ λys d p=>Z3 (g ys d s.heap p (λ_ _ _ e=>e) λr e=>(n r e).2))
   .show Z2 ?_;change sh _ _ (if(!t.led&&decide _)=iv then N7 _ else pure ()) _ _ _;rw[i,show aW w=jg by simpa using N];show Z3 (Z3 ?_);let:=g es.toList s.drawn s.heap (.refl _) (λ_ _ _ e=>e) λr e=>(n r e).2
    show this
 show Z2 (p0 Y hd hf ?_);change sh _ _ (if(aW w||t.led&&t.plain||decide _)=iv then _ else _) _ _ _;by_cases u:(aW w||t.led&&t.plain||decide (es.size<=1))=iv
 .rw[md u];show walk
 .rw[kw u];show Z2 (Dx _ (λb I=>?_) ?_)
  .rcases Yu.mp I with e|e
   .show e▸%[_|U]
   .show hO b e
  show Z2 (MX ?_);cases c with
  | none=>
    let:=g es.toList s.drawn s.heap (.refl _) (λ_ _ _ e=>e) λr e=>(n r e).2
    show Z3 this
  | some r=>
    let%[ne,o2,O,ag,q,al,j,v,l,y,T,B,C,G,H,ab|m]:=n r rfl;dsimp only;show Z2 (p0 j l H ?_)
    split
    .show Z2 (Mp j l ?_ (Mq G));let:=g es.toList s.drawn _ (.refl _) (λb o I e=>((vr.update s.heap r (MC O {q with led:=q.led&&t.led,plain:=q.plain&&t.plain})).2 b λz=>I (by rw[z])).trans e) λr' e=>?_
     .show Z3 this
     .cases e;show(bw.stored (t':={q with led:=q.led&&t.led,plain:=q.plain&&t.plain}) j v l y T B C G H (by rw[(M λz=>u (by rw[z];simp)),LU]) (by rw[m,i,RL])).2
    .let:=g es.toList s.drawn s.heap (.refl _) (λ_ _ _ e=>e) λr e=>(n r e).2
     show Z3 this
def F2(h:jK (lp z) (K7 y u)=iv):y=z:=by
 rcases aZ h with⟨i,t',a,b⟩|⟨c,t',a,b⟩
 .lia
 grind
def vZ{ks:ZB}(g:s.heap.get? a∣o)(i:o.data= .set es G t)(b:∀e∈es.toList,∃z u,e=(Mo w z,K7 z u))(B:es.size<NC)(l:t.fits es.size=iv)
 (m:∀r,(r=hX->∀e∈es.toList,∀u,e.2≠ .str z u)->(∀j,r∣j->∃u,es.toList[j]?∣(Mo w z,.str z u))->Q r s):↥A (setFind a (.str z tk) (Mo w z)) Q E s:=by
 let n:ElemsOf (aR prog w) es.toList:=rF b;let c:(aR prog w).is (lp z) (.str z tk)=iv:=dZ z tk;show Z2 (p0 g i l ?_);dsimp only;rw[byScan_of rfl B n];show Z2 (MX (Z2 (Vo c g i l n ?_)));cases p:UW _ es.toList with
 | some j=>
   let%[v,d|_]:=P6.mp p;dsimp only;rw[QL];show Z3 (m _ (λh=>(nomatch h)) λH e=>?_);cases e;let%[y,u|f]:=b _ (Yc v);rw[f]at d;rw[F2 (u:=u) d]at f;show%[u|by rw[Z4 v,f]]
 | none=>
   show Z3 (m hX (λ_ e C u q=>?_) λj e=>(nomatch e));let:=Ru.mp p e C;rw[q,show(aR prog w).is (lp z) (K7 z u)=iv from dZ z u]at this;cases this
def Dy{P D M n i b:kj}(h:P=n/\P+D<=M)(hi:i<n):min i P+(P-(i+1))=n-1/\min i P+(P-(i+1)) +(min b D+1+(D-b))<=M:=by
 let%[rfl|h]:=h;let e:=kj.sub_add_min_cancel D b;let k:i+1+(P-(i+1))=P:=kj.add_sub_of_le hi;rw[PQ (Ye hi),kj.min_comm b D]
 generalize min D b=x at e ⊢
 generalize D-b=y at e ⊢
 generalize P-(i+1)=z at k ⊢
 show%[⋯|⋯]
def Bd{t:nI}(h:t.fits n=iv)(hi:i<n):(t.drop i).fits (n-1)=iv/\(t.drop i).led=t.led/\(t.drop i).plain=t.plain:=by
 unfold MV at h ⊢;rw[Zv,Mv,K9]at h;unfold nI.drop;let:t.place[i]?∣t.place[i]:=by simp
 rw[this];show%[?_,ρ|ρ];rw[Zv,Mv,K9];unfold Pa at h ⊢;simp only[Nk,nI.insertAt,PL,oT.size_extract,Xg,kj.min_self,So];show Dy h hi
def yc(h:i<es.size):(Nk es i).toList=es.toList.eraseIdx i:=by
 rw[NE,Nk,Xb,PF,PF,MW,MW];simp;show Zn ∅
def v4{ks:ZB}(H:bw w a ks s.heap)(l:∀h' b,vr a s.heap h'->bw w a (ks.erase z) h'->Q b (s>>>h')):↥A (setDiscardHashed a (.str z tk) (Mo w z)) Q E s:=by
 let%[o,es,ep,t,ss,g,m,h,c,I,n,d,J,p,v|f]:=id H;show Z2 (vZ (ks:=ks) g h d J p λr L M=>?_);cases r with
 | none=>
   let N:z∉ks:=λq=>by
    let%[u|j]:=(eE c).mpr (I.mem_iff.mpr q);let%[e,y|O]:=Xm j;show L rfl e y u O
   rw[hH.erase_of_not_mem N]at l;show Z3 (l s.heap jg (vr.refl a s.heap) H)
 | some i=>
   let%[u|j]:=M i rfl;let hi:i<es.size:=(Xj j).1;let B:((Mo w z,K7 z u)::(Nk es i).toList).Perm es.toList:=by
    rw[yc hi];let:=iu (xs:=es.toList) (hi);rwa[(Xj j).2]at this
   let%[ts,C|T]:=cm c (B.map _);cases C with
   | cons _ _ C=>
   let%[U,Y|d3]:=Bd p hi;let G:(Nk es i).size=es.size-1:=by
    rw[<-Zb,<-Zb,<-B.length_eq];simp
   show Z2 (p0 g h p ?_);dsimp only;show Z2 (Mp g h (Z2 (wpAny_point (Z3 (l _ iv (vr.update s.heap a _) (bw.stored g m h C ((hH.cons_perm_iff_perm_erase.mp (T.trans I)).2) (n.erase z) (λe y=>d e (B.mem_iff.mp (Zk _ y))) ?_ ?_ ?_ ?_).2)))) (Mq ?_))
   .lia
   .show G▸U
   .show d3▸v ⋯
   .show Y▸f
   .lia
end
def zg(h:_ST.WF t es)(a:es.size<=t.mask):t.fits es.size=iv:=by
 unfold MV Pa;rw[h.size,h.dum];simpa using a
section
#where
abbrev uu(w:v0)(a:kG)(n:kj)(h:yu):Prop:=∃o b t,h.get? a∣o/\o.ExactSet/\o.data= .set #[] b t/\t.place= #[]/\t.dummies= #[]/\t.led=(!aW w)/\(∃k,t.mask+1=2^k)/\7<=t.mask/\n<=t.mask
def uu.fits{t:nI}(a:t.place= #[])(b:t.dummies= #[]):t.fits (#[]:oT (pp×ku)).size=iv:=by
 unfold MV Pa;rw[a,b];simp
def F3{n:kj}{Q:Q3->mu->Prop}(a:s.heap.get? r∣bK w)(f:n<=1000)(c:∀h',vr r s.heap h'->uu w r n h'->Q () (s>>>h')):↥A (setRoomFor r n) Q E s:=by
 let d:(NT 0 0 (!aW w)).fits _=iv:=uu.fits rfl rfl;show Z2 (p0 a rfl d ?_);change sh _ _ (match(if(0+n)*5>=7*3 then hY ((0+n)*2)else hX)with|some x=>T0 r x|_=>pure ()) _ _ _;by_cases h:(0+n)*5>=7*3
 .rw[md h];show _ST.relay_w a rfl d ∅ ⋯ λb t' P W l p g m2=>c _ (vr.update s.heap r _) ?_
  obtain rfl:b= #[]:=by
   let:=P.length_eq;simpa using this
  let e:=by
   let q:=K6 (MC #[] t') a (by rfl);rwa[P8 #[] t' rfl]at q
  show%[_,_,t',e,%[ρ,ρ|ρ],ρ,Qo W.size,W.dum,l,W.pow,W.big|⋯]
 .rw[kw h];show Z3 (c s.heap (vr.refl r s.heap) %[_,_,_,a,%[rfl,rfl|rfl],rfl,rfl,rfl,rfl,%[3|rfl],Zi 7|by change n<=7;lia])
def Dz{ks:ZB}(L:bw w a ks s.heap)(M:s.heap.get? r∣bK w)(ne:r≠a)(h1:1<= ~~~ks)(h2: ~~~ks<=1000)(N:∀h',vr r s.heap h'->bw w r ks h'->Q () (s>>>h')):↥A (setMerge r a) Q E s:=by
 let%[o,es,ep,t,ss,O,T,U,m,C,y,z,hb,G,B|d]:=id L;let hn:es.size= ~~~ks:=by
  let q:=ck m;rw[Z6,Zb,C.length_eq]at q;show q
 let pl:t.plain=jg:=B ⋯;unfold setMerge;rw[kw ↑ne];show Z2 (p0 O U G ?_);dsimp only;rw[kw (λh:es.isEmpty=iv=>by let:=Zo h;lia)];show Z2 (F3 M ⋯ λh' Y ⟨o2,ab,n,g,u,i,H,I,J,k2,b2,m2⟩=>Z2 (p0 (s:=(s>>>h')) g i (uu.fits H I) ?_));dsimp only;let j:n.fill=0:=by unfold Pa;rw[H,I];rfl
 let put:∀(b:oT (pp×ku)) (t':nI),b.toList.Perm es.toList->t'.fits b.size=iv->t'.plain=jg->t'.led=(!aW w)->↥A (TY r b t') Q E (s>>>h'):=λb t' P f p l=>by
  let sz:b.size=es.size:=by rw[<-Zb,P.length_eq,Zb]
  let%[ts,r1|r2]:=cm m (P\2);show Mp (s:=(s>>>h')) g i (N _ (Y.trans (vr.update h' r _)) (bw.stored (w:=w) g u i r1 (r2.trans C) y (λe he=>z e (P.mem_iff.mp he)) ⋯ f p l).2) (Mq ⋯)
 unfold nI.road;rw[j,kw (!1)]
 split
 .show put es _ (.refl _) G (by change(n.plain&&t.plain)=jg;rw[pl,LU]) (by change(n.led&&t.led)=_;rw[J,d,RL])
 .let%[k|hk]:=k2;let%[t',c,e1,e2,e3,e4,e5,W|P]:=_ST.laid_ok hk b2 es ⋯ n.finger n.moves _ _;let sz:(c.filterMap (es[·]?)).size=es.size:=by rw[<-Zb,P.length_eq,Zb]
  rw[e1];show Z2 ?_;change sh _ A (if((c.filterMap _).size != es.size)=iv then _ else pure _) _ E _;rw[kw (by simp[sz])];show Z3 (put _ t' P (show t'.fits _=iv from zg W (by rw[sz,e2];lia)) (by rw[e4,pl,LU]) (by rw[e3,J,d,RL]))
 .rename_i v
  split at v<;> cases v
end
def bw.nd(S:bw w a ks h):ks.Nodup:=by
 let%[_,_,_,_,_,_,_,_,_,_,h|_]:=S;show h
section
#where
def ux(c:bw w b f s.heap)(d:Q iv s):↥A (Uo (.ref b)) Q E s:=by
 let%[o,es,g,t,ss,e,a|_]:=c;show Z2 (MA (b:=iv) %[o,e|a.1] (by kernel_rfl) (Z3 d))
def kS(d:bw w b e s.heap)(f:Q e.length s):↥A (Pq b) Q E s:=by
 let%[o,es,u,t,ss,g,h,i,a,j,l,m,v,n,p|c]:=d;let r:=by
  let q:=ck a;rw[Z6,Zb,j.length_eq]at q;show q
 show Z2 (M5 g i n (Z3 (r▸f)))
def DC(N:bw w r ks s.heap)(O:bw w b T s.heap)(ne:r≠b)(big: ~~~T< ~~~ks)(few: ~~~ks<=900)
 (hQ:∀h' d f,(∀c o,c≠r->s.heap.get? c∣o->h'.get? c∣o)->(∀x,x∈f↔x∈ks/\x∉T)->bw w r f h'->Q () {s with heap:=h',drawn:=d}):↥A (Oj nm r (.ref b)) Q E s:=by
 unfold Oj;rw[kw (by simpa using ne.symm)];show Z2 (ux O ?_);rw[md rfl];show Z2 (Z3 (Z2 (kS O (Z2 (kS N ?_)))));rw[kw ⋯];let%[o,es,ep,t,ss,ho,an,hd,as,hp,a0,a1,hb,hf,a2|al]:=id O;let B:∀(s':mu) (Q':kj->mu->Prop),s'.heap.get? b∣o->Q' ep s'->↥A (R9 b) Q' E s':=λs' Q' e q=>by
  unfold R9;show Z2 (p0 e hd hf (Z3 q))
 show Z2 (B s _ ho (Z2 (vu (Z2 (rW O (λc j=>%[ks|(Xl j)▸N]) (λ_ e=>(nomatch e)) λzs d h1 pz k1 _=>Z2 ?_)))));rw[<-Pl];show fN (λxs _ s'=>∃g rest h',zs=g++rest/\xs=rest.map (hsE w)/\s'={s with heap:=h',drawn:=d}/\(∀c o,c≠r->s.heap.get? c∣o->h'.get? c∣o)/\∃f,bw w r f h'/\∀x,x∈f↔x∈ks/\x∉g\1) _ _ _
  %[[],zs,h1,rfl,rfl,rfl,λc o _ e=>k1 c o ∅ e,ks,N.keep λo e=>k1 r o ∅ e|by simp] ?_ ?_
 .intro x xs _ s' %[g,rest,h',U,ex,rfl,Y,f,S|h];cases rest with
  | nil=>cases ex
  | cons p rest=>
  rw[Yp]at ex;injection ex with ab ac
  subst ab;show Z2 (vu (v4 (z:=p.1) (tk:=p.2) (s:={s with heap:=h',drawn:=d}) S λh2 bb sb S2=>Z2 ?_));unfold M8;let C:∀c o,c≠r->s.heap.get? c∣o->h2.get? c∣o:=λc o j e=>(sb.2 c j).trans (Y c o j e)
  show Z2 (B {s with heap:=h2,drawn:=d} _ (C b o ne.symm ho) ?_);rw[kw ∅];show Z3 (Z3 %[g++[p],rest,h2,by rw[U,Ze];rfl,ac,rfl,C,_,S2|λx=>?_]);rw[S.nd.mem_erase_iff,h,Zd,Yr,Yp,QY,Yw,NM]
  constructor
  .show λ⟨a,b,c⟩=>%[b,c|a]
  .show λ⟨b,c,a⟩=>%[a,b|c]
 .intro _ s' %[g,rest,h',U,ex,rfl,Y,f,S|h];obtain rfl:rest=[]:=by
   cases rest with
   | nil=>rfl
   | cons p rest=>cases ex
  rw[Zx]at U;let h:∀x,x∈f↔x∈ks/\x∉T:=λx=>by rw[h,<-U,pz.mem_iff]
  let ae: ~~~f≠0:=λe=>by
   let:=_ST.nodup_sub N.nd (m:=T) λx hx=>K4 λq=>by
    let:=(h x).mpr %[hx|q];rw[xl.mp e]at this;cases this
   lia
  let sub:=_ST.nodup_sub S.nd λx hx=>((h x).mp hx).1
  show Z3 ?_;let%[o2,n,a3,t2,a4,u,G,v,i,H,I,J,a5,L,M|y]:=id S;let hn:=by
   let q:=ck i;rw[Z6,Zb,H.length_eq]at q;show q
  show Z2 (p0 u v L ?_);dsimp only
  split
  .rw[show L5 n.size=n.size*4 by unfold L5;rw[kw ⋯]];show _ST.relay_w u v L ⋯ ⋯ λag t' P W l p m1 m2=>?_
   let sz:ag.size=n.size:=by rw[<-Zb,P.length_eq,Zb]
   let%[ts,r1|r2]:=cm i (P\2);show hQ _ d f (λc o j e=>((vr.update h' r _).2 c j).trans (Y c o j e)) h (bw.stored u G v r1 (r2.trans H) I (λe he=>J e (P.mem_iff.mp he)) ⋯ (zg W ⋯) (p▸M ⋯) (l▸y)).2
  .show Z3 (hQ h' d f Y h S)
def v5(a:Q (.ref ⇑s) (s>>>s.heap.push (bK w))):↥A (newSet (.type "set")) Q E s:=by
 show Z2 (Z2 (Lz (Z3 (Lg a))))
def v6(d:bw w a ks s.heap)(e:Q (.type "set") s):↥A (Ur a) Q E s:=by
 let%[o,es,g,t,ss,f,c|_]:=d;show Z2 (MA (b:=iv) %[o,f|c.1] (by kernel_rfl) (Z3 e))
def F4(v:bw w a ks s.heap)(C:bw w b I s.heap)(few: ~~~ks<=900)
 (hQ:∀h' d i,(∀c o,s.heap.get? c∣o->h'.get? c∣o)->(∀x,x∈i↔x∈ks/\x∉I)->bw w ⇑s i h'->Q (.ref ⇑s) {s with heap:=h',drawn:=d}):↥A (OZ nm a (.ref b)) Q E s:=by
 let lt:∀{c:kG} {ls:ZB},bw w c ls s.heap->c≠⇑s:=λ{c ls} h=>by
  let%[o,_,_,_,_,U|_]:=h;show Zs (Zu U)
 let J:∀c o,s.heap.get? c∣o->(s.heap.push (bK w)).get? c∣o:=λc o e=>Z7 _ e
 let Y:(s.heap.push (bK w)).get? ⇑s∣bK w:=Zj _ rfl;let S1:=v.keep λo e=>J a o e
 let O1:=C.keep λo e=>J b o e
 unfold OZ;dsimp only;show Z2 (ux C ?_);rw[kw (!1)];show Z2 (Z3 ?_);rw[kw ∅,md rfl];show Z2 (kS C (Z2 (kS v ?_)))
 generalize hG:s.heap.push (bK w)=G at J Y S1 O1
 split
 .show Z2 (MX (Z2 ?_));unfold Uq;show Z2 (v6 v (Z2 (v5 ?_)));rw[hG];show Z2 (Z3 (Z2 (Dz (s:=(s>>>G)) S1 Y (J0 (lt v)) ⋯ ⋯ λh1 sb R1=>Z3 ?_)));let k1:∀c o,s.heap.get? c∣o->h1.get? c∣o:=λc o e=>(sb.2 c (Zs (Zu e))).trans (J c o e)
  show Z2 (Z3 (Z2 (vu (DC (s:=(s>>>h1)) R1 (C.keep λo e=>k1 b o e) (J0 (lt C)) ⋯ few λl d i k2 y M=>Z3 (hQ l d i (λc o e=>k2 c o (Zs (Zu e)) (k1 c o e)) y M)))))
 .show Z2 (v6 v (Z2 (v5 ?_)));rw[hG];show Z2 (Z3 ?_);let%[o,es,ep,t,ss,U,a3,hd,a4,hp,a5,a6,hb,hf,bc|as]:=id S1;let L:∀(s':mu) (Q':kj->mu->Prop),s'.heap.get? a∣o->Q' ep s'->↥A (R9 a) Q' E s':=λs' Q' e q=>by
   unfold R9;show Z2 (p0 e hd hf (Z3 q))
  show Z2 (L (s>>>G) _ U ?_);rw[md rfl];show Z2 (vu (Z2 (rW (s:=(s>>>G)) S1 (λc B=>?_) (λr e=>⟨by cases e;show J0 (lt v),by cases e;show bw.empty Y⟩) λzs d h1 pz k1 r1=>Z2 ?_)))
  .simp only[Yu,X3,LA]at B;rcases B with rfl|rfl
   .show%[_|O1]
   .show%[_|bw.empty Y]
  rw[<-Pl];show fN (λxs _ s'=>∃f rest h',zs=f++rest/\xs=rest.map (hsE w)/\s'={s with heap:=h',drawn:=d}/\(∀c o,c≠⇑s->G.get? c∣o->h'.get? c∣o)/\∃i,bw w ⇑s i h'/\ ~~~i<= ~~~f/\∀x,x∈i↔x∈f\1/\x∉I) _ _ _
   %[[],zs,h1,rfl,rfl,rfl,(λc o B e=>k1 c o (λq=>B (Za q).symm) e),[],r1 _ rfl,Zi _|by simp] ?_ ?_
  .intro x xs _ s' %[f,rest,h',H,ex,rfl,g,i,M,ml|y];cases rest with
   | nil=>cases ex
   | cons p rest=>
   rw[Yp]at ex;injection ex with ab N
   subst ab;let zl: ~~~zs= ~~~ks:=by rw[<-pz.length_eq,Z6]
   let pl: ~~~f< ~~~ks:=by rw[<-zl,H,Z9,Zr];lia
   rw[md rfl];let m:∀(l:yu) Qx,(∀c o,c≠⇑s->G.get? c∣o->l.get? c∣o)->Qx (.yield ⟨⟩) {s with heap:=l,drawn:=d}->↥A (M8 nm a ep>>= λ_=>pure (NG PUnit.unit)) Qx E {s with heap:=l,drawn:=d}:=λl Qx k2 q=>by
    show Z2 ?_;unfold M8;show Z2 (L {s with heap:=l,drawn:=d} _ (k2 a o (lt v) U) ?_);rw[kw ∅];show Z3 (Z3 q)
   let mem:∀x,x∈(f++[p])\1↔x∈f\1\/x=p.1:=λx=>by rw[Zd,Yr,Yp,QY,Yw]
   let%[o2,bd,be,t2,bf,ac,a0,ae,n,O,a1,T,ag,al,a2|an]:=id O1;show Z2 (vu (Z2 (vZ (ks:=I) (z:=p.1) (tk:=p.2) (g b o2 (lt C) ac) ae T ag al λq q1 q2=>Z2 (Z3 ?_))));cases q with
   | none=>
     let hz:p.1∉I:=λz=>by
      let%[u|hu]:=(eE n).mpr (O.mem_iff.mpr z);let%[e,he|q3]:=Xm hu;show q1 rfl e he u q3
     rw[md (by rfl)];show Z2 (kJ (z:=p.1) (tk:=p.2) M (by rw[show NC=4096 from rfl];lia) λl bb sb M2=>Z3 ?_);let k2:=λc o B e=>(sb.2 c B).trans (g c o B e)
     show m l _ k2 %[f++[p],rest,l,by rw[H,Ze];rfl,N,rfl,k2,_,M2,?_|λx=>?_]
     .rw[Z9,Yj]
      split
      .lia
      .rw[Z9,Yj];lia
     .rw[mem];by_cases hx:x=p.1
      .subst hx;show%[λ_=>%[.inr rfl|hz]|λ_=>?_]
       split
       .rename_i h;show h
       .show Yt _ Zm
      .split
       .rw[y];show%[λh=>%[.inl h.1|h.2]|λh=>%[h.1.resolve_right hx|h.2]]
       .rw[Yr,Yw,y];show%[λh=>let h:=h.resolve_right hx;%[.inl h.1|h.2]|λh=> .inl %[h.1.resolve_right hx|h.2]]
   | some j=>
     let hz:p.1∈I:=by
      let%[u|hu]:=q2 j rfl;show O.mem_iff.mp ((eE n).mp %[u|Xn %[_,Z8 hu|rfl]])
     rw[kw ∅];show Z3 (m h' _ g %[f++[p],rest,h',by rw[H,Ze];rfl,N,rfl,g,i,M,by rw[Z9];lia|λx=>?_]);rw[y,mem];show%[λh=>%[.inl h.1|h.2]|λh=>%[h.1.resolve_right λe=>h.2 (e▸hz)|h.2]]
  .intro _ s' %[f,rest,h',H,ex,rfl,g,i,M,ml|y];obtain rfl:rest=[]:=by
    cases rest with
    | nil=>rfl
    | cons p rest=>cases ex
   rw[Zx]at H;show Z3 (Z3 (hQ h' d i (λc o e=>g c o (Zs (Zu e)) (J c o e)) (λx=>by rw[y,<-H,pz.mem_iff]) M))
end
def uy:T8 table "set.__sub__"=hY o0.«frozenset.__sub__»:=Sg (id':="frozenset.__sub__") (by kernel_rfl) rfl (!0) (by kernel_rfl)
section
variable{X:Cx}
abbrev DD(w:v0):R2:=λx y H Q=>asR x λa=>asR y λb=>∃ks d,H a∣lV w a ks/\H b∣lV w b d/\ ~~~ks<=900/\∀l c,H l=hX->(∀x,x∈c↔x∈ks/\x∉d)->c.Nodup->Q (.ref l) (Qb H l (lV w l c))
def F5:OpR X (Ly .Sub) (DD X.w):=by
 intro ij s A H x y v u Q I l m h;let%[a,rfl|n]:=aM h;let%[b,rfl,ks,B,p,r,few|q]:=aM n;cases l;cases m;let%[S,_|_]:=(I.hok a _ p)
 let%[O,_|_]:=(I.hok b _ r)
 let e:∀{c:kG} {i:ZB},bw X.w c i s.heap->s.TypeIs (.ref c) _:=λ{c i} h=>by
  let%[o,es,C,t,ss,f,g|_]:=h;show%[o,f|g.1]
 show wpAny_binaryOp_same (e S) (e O) F.fills_set_sub VP (Lm VP (e S) uy (Z2 (Z2 (Z3 (Z3 (Z2 (Z2 (ux S (ux O (Z2 (Z3 (Z2 (F4 S O few λh' d j k w M=>Z3 %[_,rfl,by simp,.ref ⇑s,_,I.stoodS (o:=lV X.w ⇑s j) (I.keptS k rfl rfl) (Zi _) %[M,?_|λ_ _ z k1=>bw.keep z k1],rfl|q _ j (I.hok.fresh (Zi _)) w M.nd])))))))))))) (F.args_set_sub_2 _ _));let%[o,_,_,_,_,f|_]:=M;show%[o|f]
def Jg(h:X.w=w):OpQ X (Ly .Sub) (DD w):=by subst h;show⟨F5⟩
end
def kT{X:Cx}(a:bE k X.A)(b:LV .NotIn o=jg)(hi:QE X i ty)(c:QE X o d):QT X (.Compare i [.NotIn] [o] pos) (tB (tN ty d)):=
 ⟨BE (Am (by let:=a.units;lia) hi.h c.h) b⟩
open PySem PySem.Spec PyProof.Rows PySem.SeqAt
section
variable{X:Cx}
variable{K:ZA}{pos:Pos}
def af(i:kj){x:lx}(h:(X.N[i]?,X.env.scope.names.lookup x,x==("__debug__":lx),x==("__classdict__":lx))=(hY x,hY .local,jg,jg)):QE X (.Name x pos) (lQ i):=by
 simp only[LK]at h;show vn i h.1 (.inl h.2.1) h.2.2.1 h.2.2.2
def cB(i:kj){x:lx}(h:(X.N[i]?,X.env.scope.names.lookup x,x==("__debug__":lx),x==("__classdict__":lx))=(hY x,hY .cell,jg,jg)):QE X (.Name x pos) (lQ i):=by
 simp only[LK]at h;show vn i h.1 (.inr (.inl h.2.1)) h.2.2.1 h.2.2.2
def aJ{mg:ZC}{j k:kj}{x:lx}{ps:ZB}{sp:Sp}{p:Pos}{e:Ds}{es:hH Ds}{t:TA}(C:Cal X.prog X.w K mg X.base j x ps sp)(a:bE k X.A)(h:(X.K,X.mg,X.env.kindOf x,OW j k,x==("__debug__":lx),(e::es).any aQ)=(K,mg,hY .globalImplicit,iv,jg,jg))(b:QA X (e::es) t):QE X (.Call (.Name x p) (e::es) [] pos) (qT sp [] E0 t):=by
 simp only[LK]at h;let%[rfl,rfl|h]:=h;show calE C a h.1 h.2.1 h.2.2.1 h.2.2.2 b
def GO{mg:ZC}{j k:kj}{x:lx}{ps:ZB}{sp:Sp}{p:Pos}{e:Ds}{es:hH Ds}{t:TA}(C:FW X.prog X.w K mg X.base j x ps sp)(c:vR K mg x)(a:bE k X.A)(h:(X.K,X.mg,X.env.kindOf x,OW (j+1) k,x==("__debug__":lx),(e::es).any aQ)=(K,mg,hY .globalImplicit,iv,jg,jg))(b:QA X (e::es) t):QE X (.Call (.Name x p) (e::es) [] pos) (yO (aC mg x) sp [] E0 t):=by
 simp only[LK]at h;let%[rfl,rfl|h]:=h;show Ko C c a h.1 h.2.1 h.2.2.1 h.2.2.2 b
def oP{mg:ZC}{j k:kj}{x m:lx}{ps:ZB}{sp:Sp}{a:Pos}{o:Ds}{b:TE}{pl:Sem ri}(C:AU X.prog X.w K mg X.base j x m ps sp)(c:vR K mg x)(e:bE k X.A)(h:(X.K,X.mg,OW j k)=(K,mg,iv))
 (g:LB (.Call (.Attribute o m a) [] [] pos) X.env=(do
  let d<-LB o X.env
  Of a.atName
  let(f,first)<-Pk [d] (O7 d m pl)
  Si pos f first (Mm pos (vj [] X.env)) (N8 pos (MG [] X.env)))) (i:QE X o b):QE X (.Call (.Attribute o m a) [] [] pos) (yN (aC mg x) m sp [] E0 b xt):=by
 simp only[LK]at h;let%[rfl,rfl|h]:=h;show IW C c e h g i
def cbO{x:lx}{id:LF}{r:hH V->Hp->VK->Prop}{p:Pos}{e:Ds}{es:hH Ds}{t:TA}(a:cj X (.builtin id) r)(b:X.mg x=hX)(c:Mb x∣.builtin id)(h:(X.env.kindOf x,x==("__name__":lx),x==("__debug__":lx),(e::es).any aQ)=(hY .globalImplicit,jg,jg,jg))(d:QA X (e::es) t):QE X (.Call (.Name x p) (e::es) [] pos) (tCB r t):=by
 simp only[LK]at h;show cbE a h.1 b c h.2.1 h.2.2.1 h.2.2.2 d
def ctO{x:lx}{T:LF}{r:hH V->Hp->VK->Prop}{p:Pos}{e:Ds}{es:hH Ds}{t:TA}(a:cj X (.type T) r)(b:X.mg x=hX)(c:Mb x∣.type T)(h:(X.env.kindOf x,x==("__name__":lx),x==("__debug__":lx),(e::es).any aQ)=(hY .globalImplicit,jg,jg,jg))(d:QA X (e::es) t):QE X (.Call (.Name x p) (e::es) [] pos) (tCB r t):=by
 simp only[LK]at h;show ctE a h.1 b c h.2.1 h.2.2.1 h.2.2.2 d
def bmO{o e:Ds}{es:hH Ds}{d:TE}{t:TA}{name:lx}{a b:Pos}{T id:LF}{r:V->hH V->Hp->VK->Prop}(f:NY T)(slot:Slot T name id)(c:Oa (.builtin id)=pure (.type "method_descriptor"))(g:MtQ X id r)
 (h:(X.K,ip o,(e::es).any aQ,VI (e::es).length 30,a.endLine==b.line)=(K,jg,jg,iv,iv)) (i:QE X o d) (j:QA X (e::es) t):QE X (.Call (.Attribute o name a) (e::es) [] b) (tBM K T r d t):=by
 simp only[LK]at h;let%[rfl|h]:=h;show bmE rfl f slot c g h.1 h.2.1 h.2.2.1 h.2.2.2 i j
def aH(i:kj){x:lx}{e:Ds}{b:TE}{a:Pos}(c:X.N.Nodup)(h:(X.N[i]?,X.env.scope.names.lookup x,gh e)=(hY x,hY .local,jg))(d:QE X e b):QS X (.Assign [.Name x a] e pos) (qo b (kA i)):=by
 simp only[LK]at h;show tR i c h.1 (.inl h.2.1) (.inr h.2.1) h.2.2 d
def aG(i:kj){x:lx}(a:X.N.Nodup)(h:(X.N[i]?,X.env.scope.names.lookup x)=(hY x,hY .local)):QG X (.Name x pos) (kA i):=by
 simp only[LK]at h;show vf i a h.1 (.inl h.2) (.inr h.2)
#where
variable{x:kG}{C:kG}{name:lx}{v:ku}{ox:MU}
variable{o:Ds}{value:Ds}{nm:lx}{ta:TE}{tv:TE}{pos':Pos}
end
abbrev oQ:V->ri
 | .byt _=>jg
 | .flt _=>jg
 | _=>iv
def iD(r:aI xs us)(h:j<us.toArray.size):∃x,xs[j]?∣x/\aT x us.toArray[j]:=by
 let l:=h;let a:j< ~~~xs:= ~~~r▸l;let%[u,b|c]:=r.get (i:=j) (x:=xs[j]) ∅
 simp_all
def rX{A:vi}{s:mu}{x:V}{u v:ku}(e:oQ x=iv)(a:aT x u)(c:aT x v):K8 A s u v iv:=by
 cases x with
 | int i=>
   let%[t|rfl]:=a;let%[d|rfl]:=c;let:=K8.int_int (A:=A) (s:=s) i t i d;rwa[M0]at this
 | str z=>
   let%[t|rfl]:=a;let%[d|rfl]:=c;let:=K8.str_str (A:=A) (s:=s) z t z d;rwa[M0]at this
 | byt b=>cases e
 | flt b=>cases e
 | _=>cases a;cases c;show TR _
abbrev zh(H:Hp)(x y:V):Prop:=(x=y/\oQ x=iv)\/∃a b xs,x= .ref a/\y= .ref b/\H a<*xs/\H b<*xs/\xs.all oQ=iv
def DE{xs:hH V}(h:xs.all oQ=iv){j:kj}{x:V}(e:xs[j]?∣x):oQ x=iv:=Mu.mp h x (Z8 e)
section
#version
def yd(I:Qd X ij σ H s){A:vi}(h:zh H x y)(n:A.units<M3)(f:aT x u)(g:aT y v):K8 A s u v iv:=by
 rcases h with⟨rfl,d⟩|⟨a,b,xs,rfl,rfl,o,p,d⟩
 .show rX d f g
 .cases f;cases g;by_cases e:a=b
  .subst e;show TR _
  .let%[us,i,q|_]:=I.list (Qc.of o);let%[vs,l,r|_]:=I.list (Qc.of p);let c:=SZ (A:=A) (s:=s) (e:=λ_=>iv) q.isList r.isList (by rw[Zp,Zp,<-i.length,<-l.length]) n λj w z=>by
    let%[x,ex|B]:=iD i w;let%[y,m|C]:=iD l z;rw[ex]at m;cases m;show rX (DE d ex) B C
   rw[show(q7 us.toArray.size).all (λ_=>iv)=iv by simp]at c;show Vl e c
end
section
variable{X:Cx}
nonrec abbrev Ks:R2:=λx y H Q=>∃a b xs ys,x= .ref a/\y= .ref b/\H a<*xs/\H b<*ys/\ ~~~xs= ~~~ys/\(∀(j:kj) x y,xs[j]?∣x->ys[j]?∣y->zh H x y)/\Q (.bl iv) H
def Jh(C:X.A.units+64<M3):OpR X (qq .Eq) Ks:=by
 intro ij s E H x y v u Q I d f h;let%[a,b,xs,ys,rfl,rfl,g,i,l,m|q]:=h;cases d;cases f;let%[us,d,n|_]:=I.list (Qc.of g);let%[vs,f,o|_]:=I.list (Qc.of i);let c:=SZ (A:=X.A) (s:=s) (e:=λ_=>iv) n.isList o.isList (by rw[Zp,Zp,<-d.length,<-f.length,l]) ⋯ λj p r=>by
  let%[x,ex|w]:=iD d p;let%[y,z|B]:=iD f r;show yd I (m j x y ex z) (by change X.A.units+1<M3;lia) w B
 rw[show(q7 us.toArray.size).all (λ_=>iv)=iv by simp]at c;show c _ _ _ _ %[.bl _,H,I,rfl|q]
def GP(a:bE k X.A):OpQ X (qq .Eq) Ks:=⟨Jh a.units⟩
nonrec abbrev Kt:R2:=λx y H Q=>asR x λa=>asR y λb=>∃xs,H a<*xs/\H b<*[]/\Q (.bl (decide (xs=[]))) H
def Ji(w:X.A.units+64<M3):OpR X (qq .Eq) Kt:=by
 intro ij s z H x y v u Q I d f h;let%[a,rfl|g]:=aM h;let%[b,rfl|i]:=aM g;let%[xs,o,p|q]:=i;cases d;cases f;let%[us,d,m|_]:=I.list (Qc.of o);let%[vs,f,n|_]:=I.list (Qc.of p);obtain rfl:vs=[]:=xl.mp f.length.symm;by_cases l:xs=[]
 .subst l;obtain rfl:us=[]:=xl.mp d.length.symm;let c:=SZ (A:=X.A) (e:=λ_=>iv) m.isList n.isList rfl ⋯ λj r B=>ow r (X2 _)
  show c _ _ _ _ %[.bl _,H,I,rfl|q]
 .rw[Zh l]at q;let c:=RcAt.lists_lengths (A:=X.A) m.isList n.isList (by
   let: ~~~us≠0:= ~~~d▸λq=>l (xl.mp q)
   simpa using this) ⋯
  show c _ _ _ _ %[.bl _,H,I,rfl|q]
def Ku(a:bE k X.A):OpQ X (qq .Eq) Kt:=⟨Ji a.units⟩
end
def oR:∀{zs:ZB} {its:ZF},aI (zs\3) its->ReadsAll h its (zs.map N4) []
 |[],_,.nil=> .nil
 | z::zs,_,.cons r v=>by
   let%[t|rfl]:=r;show .cons (.str _ _) (oR v)
abbrev oS(p:kG×ZB):La:= .tuple (p.2.map N4)
def oU{X:Cx}(I:Qd X ij h H s):∀{ss:ZG} {its:ZF},aF H ss->aI (ss\0) its->∃a,ReadsAll s.heap its (ss.map oS) a
 |[],_,_,.nil=>%[_|.nil]
 | p::ss,_,t,.cons r v=>by
   cases r;let%[us,b,%[%[cls,i,data|j],c,d,n|e]|_]:=I.tuple (SqT.of (t p (Zm ..)).2);let%[bs|f]:=oU I (λq g=>t q (Zk _ g)) v;show%[_|.cons (.tuple c d e (oR b)) f]
def yf(zs:ZB):N5 (zs.map N4)=iv/\Oc (zs.map N4)=jg/\OK (zs.map N4)=0:=by
 induction zs with
 | nil=>show%[ρ,ρ|ρ]
 | cons z zs a=>simp only[Yp,N5,Oc,OK,a.1,a.2.1,a.2.2];show%[ρ,ρ|ρ]
def yg{zs:ZB}(h:∀z∈zs,~~~z<=30/\∀c∈z.cps.toList,c<16^8):Nv 8 (zs.map N4)=iv/\On (zs.map N4)<=31* ~~~zs:=by
 induction zs with
 | nil=>show%[ρ|Zi _]
 | cons z zs d=>
   let%[a|b]:=d λy e=>h y (Zk _ e)
   let%[l|c]:=h z (Zm ..);simp only[Yp,Nv,On,Rf,a,Zr,ri.and_true];let: ~~~z=z.cps.size:=rfl;show%[Mu.mpr λx f=>Zf (c x f)|⋯]
def yh{ss:hH _}(h:∀p∈ss,~~~p.2<=3/\∀z∈p.2,~~~z<=30/\∀c∈z.cps.toList,c<16^8):N5 (ss.map oS)=iv/\Oc (ss.map oS)=jg/\OK (ss.map oS)<=1/\Nv 8 (ss.map oS)=iv/\On (ss.map oS)<=94* ~~~ss:=by
 induction ss with
 | nil=>show%[ρ,ρ,Xc _,ρ|Zi _]
 | cons p ss f=>
   let%[a,b,c,d|e]:=f λy g=>h y (Zk _ g)
   let%[l|z]:=h p (Zm ..);let%[i,j|m]:=yf p.2;let%[n|o]:=yg z;simp only[Yp,oS,N5,Tl,Oc,TF,OK,Ux,Nv,Sy,On,Rf,i,j,m,n,Zr];show%[a,b,⋯,d|⋯]
section
#version
def DF{k:ZB}{x:V}{j:kj}(h:(k\3)[j]?∣x):∃z,k[j]?∣z/\x= .str z:=by
 rw[Zl]at h;let%[z,e|rfl]:=Ld.mp h;show%[z,e|ρ]
def v7{k l:ZB}(h:k\3=l\3):k=l:=(hH.map_inj_right λ_ _=>V.str.inj).mp h
def DG(I:Qd X ij σ H s){A:vi}{a b:kG}{k l:ZB}(g:H a&&&k\3)(f:H b&&&l\3)(q:A.units<M3):K8 A s (.ref a) (.ref b) (decide (k=l)):=by
 by_cases e:a=b
 .subst e;rw[g]at f;rw[Zf (v7 (HO.tup.inj (Za f)))];show TR _
 .let%[us,m,r|_]:=I.tuple (SqT.of g);let%[vs,n,v|_]:=I.tuple (SqT.of f);let d:=RcAt.tuples r v q λj o p=>by
   let%[x,ex|w]:=iD m o;let%[y,B|C]:=iD n p;let%[z,E|rfl]:=DF ex;let%[u,G|rfl]:=DF B;let:=B8 (A:=A.in1) (s:=s) w C rfl rfl;rw[show eqV _ _=decide (k[j]? =l[j]?) by rw[E,G];change(z==u)=_;by_cases c:z=u<;> simp[c]]at this;show this
  rw[show((q7 _).all _&&us.toArray.size==vs.toArray.size)=decide (k=l) by
   rw[Zp,Zp,<-m.length,<-n.length,M1,Zv,Mu,MN];show%[λ⟨o,p⟩=>Pm λi=>?_|λh=>by lia]
   grind]at d
  show Vl e d
end
section
variable{X:Cx}
nonrec abbrev zi:R2:=λx y H Q=>asR x λa=>asR y λp=>∃(k:ZB),H a&&&k\3/\∃(ws:ZG),H p∣.lst (ws\0)/\(∀t∈ws,H t.1&&&t.2\3)/\k∈ws\2/\Q (.bl jg) H
open Classical in
def Be(i:X.A.units+64<M3):OpR X (qq .NotIn) zi:=by
 intro ij s G H x y v u Q I l m h;let%[a,rfl|c]:=aM h;let%[p,rfl|d]:=aM c;let%[k,n,ws,o,hw,w|q]:=d;cases l;cases m;let%[us,r,pl|_]:=I.list (Qc.of o);let of:∀y∈us,∃t∈ws,y= .ref t.1:=λy f=>by
  let%[j,g|rfl]:=OF f;let%[x,ex|rr]:=iD r (g);rw[Zl]at ex;let%[t,b|rfl]:=Ld.mp ex;show%[t,Z8 b|(rr)]
 show notIn_listAt (λv=>decide (∃t∈ws,v= .ref t.1/\t.2=k)) pl.isList (λy f=>?_) %[.bl jg,H,I,?_|q]
 .let%[t,b|rfl]:=of y ↑f;let:=DG I (A:=X.A.in1) (hw t b) n ⋯;rw[show decide _=decide (t.2=k)from ?_]
  .show this
  .rw[M1,MN,MN];show%[λ⟨t',z,B,C⟩=>?_|λh=>%[t,b,ρ|h]];let e:=hw t' z;rw[<-SX B,hw t b]at e;rw[<-C,v7 (HO.tup.inj (Za e))]
 .let%[t,b|e]:=Xm w;let%[j|g]:=Xd b;let%[u,i|E]:=r.get (by rw[Zl,g];rfl);cases E;rw[show us.toArray.any _=iv from ?_]
  .rfl
  .rw[hH.any_toArray,Qt];show%[_,Z8 i|Zf %[t,b,ρ|e]]
def DH(a:bE k X.A):OpQ X (qq .NotIn) zi:=⟨Be a.units⟩
def l8:∀{a:ZL} {us:ZF},aI (a\4) us->∃ps:hH (pp×Tok),ps\1=a/\us=ps.map λp=>Pb p.1 p.2
 |[],_,.nil=>%[[],rfl|rfl]
 | n::a,_,.cons r v=>by
   let%[t|rfl]:=r;let%[ps,rfl|rfl]:=l8 v;show%[(n,t)::ps,ρ|ρ]
def Bf(w:X.calm=iv):ci X (.builtin "min") (λxs H Q=>cJ xs λf=>asR f λp=>∃(a:ZL),Qc X.K H p (a\4)/\0< ~~~a/\∀m∈a,(∀y∈a,m<=y)->Q (.int m) H):=by
 intro ij s L H xs us Q I r h;let%[f,rfl|c]:=bF h;let%[p,rfl|d]:=aM c;let%[a,e,g|q]:=d;let%[u,rfl|z]:=cO r;cases z;let%[its,A,B|M]:=I.list e;let%[ps,rfl|rfl]:=l8 A;rw[Z6]at g;let%[C|l]:=argBest_lt _ (~~~ps-1);show min_intList (I.ok.hd w) ((show O6 ps.toArray=(ps.map λp=>Pb p.1 p.2).toArray by simp[O6])▸B.isList) g λv h' tk n k=>?_
 generalize Oi _ _=b at C l n
 let E:∀i h,U9 ps.toArray i=ps[i].1:=λi h=>by simp[U9,h]
 let o:b< ~~~ps:=by lia
 let G:v= .int ps[b].1 ps[b].2:=by simpa [O6,o,eq_comm]using n
 show%[.int _,H,I.kept k,%[_|G]|q _ (Xn %[_,Yc o|ρ]) λy J=>?_];let%[p,e|rfl]:=Xm J;let%[j,N|rfl]:=OF e;let:=l j ⋯
 simp_all
def Jj{K:ZA}(h:X.K=K)(b:X.calm=iv):cj X (.builtin "min") (λxs H Q=>cJ xs λc=>asR c λp=>∃(a:ZL),Qc K H p (a\4)/\0< ~~~a/\∀m∈a,(∀y∈a,m<=y)->Q (.int m) H):=by subst h;show⟨Bf b⟩
end
noncomputable abbrev Cx.tryV(X:Cx)(pn:ZE)(E:St->XK):Cx:={X with pn:=pn,xe:=λe s'=>∃ij a H s,Qd ({X with pn:=pn}) ij a H s/\CXO X.prog X.w X.stack H s (E a) e s'}
abbrev GQ(CX:CXT)(X:Cx)(E:St->XK):Prop:=∀ij (a:St) H s e s',Qd X ij a H s->CX X.stack H s (E a) e s'->X.xe e s'
def Bg{X:Cx}:GQ (CXO X.prog X.w) (X.tryV pn E) E:=by
 intro ij a H s e s' I %[b,B,cls,c,d,rfl,F|q];show%[ij,a,H,s,%[Kf I.ok _ _,I.os,I.bare,I.base,I.loc,I.cell,I.free,I.freeC,I.pin,I.hok|I.len],b,B,cls,c,d,ρ,F|q]
abbrev DI(K:ZA)(D:kG)(E:St->XK)(len i:kj)(f ts:TS):TS:=λe g H=>f e g H/\∀b cls d c,E b cls d c->∃C,cls= .ref C/\PH K (.ref C) (.ref D)∣iv/\
 ∀a,~~~b=len->c a=hX->ts (e.gone i) (b.set i (hY (.ref a))) (Qb c a (ExH a C d))
def zj{X:Cx}{D:kG}(l:X.stack=X.env::X.outer)(hf:X.env.frame∣X.env.locals)(hN:X.N.Nodup)(hi:X.N[i]?∣n)
 (hk:X.env.kindOf n∣.local) (hl:X.env.scope.names.lookup n∣.local) (hg:Gl X x) (hm:X.mg x∣.ref D) (c:Cat X.K D) (m:∀pn,PSs (X.tryV pn E) L tb) (h:∀a,PSs (X.suiteX a) (M::o) ts)
 (ac:(x==("__debug__":lx))=jg):
 PS X (.Try L [.ExceptHandler (hY (.Name x p)) (hY n) (M::o) N] [] [] pos) (DI X.K D E X.N.length i tb ts):=by
 intro ij s σ H Dn I %[h1|h2];show Vu (Lb (m _ [] s σ H Dn (I.toPn _) h1) (λf s1 q=>?_) λe s1 q=>?_)
 .let q':=SP.ofPn q;cases f with
  | next=>show Nf q'
  | brk=>show q'
  | cont=>show q'
  | ret u=>show q'
 .let%[ae,ag,H1,s2,I1,A,B,cls,dx,H',rfl,F|qE]:=q;let%[C,rfl,O|al]:=h2 ag cls dx H' qE;show y4 (.inr rfl) (l▸I.ok.frames) hf (l▸F).up λha ua T=>tZ ua λhb ub U=>?_
  let%[un|an]:=F.fly ub.1 (T.trans U);let J:=(I1.call' (s':=(s1>>>hb)) F.os un an F.bare λb z=>ow z ∅).ofPn;let%[_,_,_,oe,vs,eb,as,a5,a6|_]:=id ub;show wpAny_handleBy_cons (codeAny_handlers_test (ig (J.toSuite A) hg hm (CU J.kIn c.ty c.ex c.cd eb as O (codeAny_handlers_suite_as (tZ ub λhc uc a0=>?_))) ac)) (by intro q;cases q);let%[a1|Y]:=F.fly uc.1 ((T.trans U).trans a0);let%[_,_,_,oc,vc,ec,a2,a3,a4|_]:=id uc;let ab:=I1.ofPn;show kz (v:= .ref A) (ab.stood3 (λ_ z=>z) ((I1.call' (s':=(s1>>>hc)) F.os a1 Y F.bare λb z=>ow z ∅).ofPn) F.free F.new (ExH.ok ec a2 a3 a4)) hN hi (.inl hl) rfl (λs4 J4=>Lb (h A ij s4 _ _ _ (J4.toSuite A) (al A ab.len F.free)) (λf s5 q5=>?_) λ_ _ z=>z.elim) (.inr hl);let d:∀{g:St} {G:Hp} {Q:Q3->mu->Prop},Qd (X.suiteX A) ij g G s5->(∀s',Qd X ij _ G s'->Q () s')->
   (X⁻¹) (do bindName X.env n _;TX X.env n N) Q X.xe s5:=λj h5=>FM (j.ofSuite I.ok) hN hi hk h5
  cases f with
  | next=>
    let%[g,G,j|w]:=q5;show d j λs' y=>%[_,_,y|w]
  | brk=>
    let%[g,G,j|w]:=q5;show d j λs' y=>%[_,_,y|w]
  | cont=>
    let%[g,G,j|w]:=q5;show d j λs' y=>%[_,_,y|w]
  | ret u=>
    let%[v,g,G,j,r|w]:=q5;show d j λs' y=>%[v,_,_,y,r|w]
def tryV{X:Cx}{D:kG}(E:St->XK)(f:X.stack=X.env::X.outer)(m:X.env.frame∣X.env.locals)(o:X.N.Nodup)(hi:X.N[i]?∣n)
 (q:X.env.kindOf n∣.local) (r:X.env.scope.names.lookup n∣.local) (s:Gl X x) (u:X.mg x∣.ref D) (c:Cat X.K D) (j:(x==("__debug__":lx))=jg) (d:∀pn,QSs (X.tryV pn E) g v) (b:∀a,QSs (X.suiteX a) (h::e) ts):
 QS X (.Try g [.ExceptHandler (hY (.Name x p)) (hY n) (h::e) l] [] [] pos) (DI X.K D E X.N.length i v ts):=
 ⟨zj f m o hi q r s u c (λpn=>(d pn).h) (λa=>(b a).h) j⟩
abbrev oV(L:hH kG)(c:kG->MU)(H:Hp):Hp:=λb=>if b∈L then(match H b with|hY (.dK a)=>hY (.frz (c b) (.dK a))|x=>x)else H b
def zk(h:b∈L)(e:H b∣.dK a):oV L c H b∣.frz (c b) (.dK a):=by
 unfold oV;rw[md h,e]
def v8(h:b∉L):oV L a H b=H b:=kw h
def iE(h:∀a,H b≠hY (.dK a)):oV L d H b=H b:=by
 unfold oV;by_cases c:b∈L
 .rw[md c];cases e:H b with
  | none=>rfl
  | some o=>cases o<;> first|rfl|show(h _ e).elim
 .rw[kw c]
section
variable{P:nX}{w:v0}{K:ZA}{mg:ZC}{base:yu}{k:kj}{f:kG}{fd:Nc}{ps:ZB}{sp:Sp}
def F6(x:HOk P w H h):HOk P w (oV L (λb=>(h.get? b).getD default) H) h:=by
 intro b o e;let st:∀{b:kG} {o:HO},bQ P w H h b o->bQ P w (oV L (λb=>(h.get? b).getD default) H) h b o:=λq=>q.stay (λ_ _ _ q=>q) (λc q=>by rw[iE (λa z=>by lia)];show q) λc xs q=>by rw[iE (λa z=>by rw[q]at z;cases z)];show q
 by_cases c:b∈L
 .by_cases d:∃a,H b∣.dK a
  .let%[a|d]:=d;rw[zk c d]at e;cases e;let%[i|g]:=(x b _ d).there;show%[by rw[g];rfl|st (x b _ d)]
  .rw[iE (λa z=>d %[a|z])]at e;show st (x b o e)
 .rw[v8 c]at e;show st (x b o e)
def Jk(u:Un fs [] H c h h'):Un fs [] H (oV L g c) h h':=by
 show%[u.keep,u.slot,λb o e n d=>?_,u.there,λb xs e=>?_,λb o v e=>?_|λb q e=>?_]
 .let:=u.free b o e n d;rw[iE (λa z=>by lia)];show this
 .let:=u.tups b xs e;rw[iE (λa z=>by rw[this]at z;cases z)];show this
 .let:=u.frzs b o v e;rw[iE (λa z=>by rw[this]at z;cases z)];show this
 .let%[m|this]:=u.tbls b q e;show%[m|by rw[iE (λa z=>by rw[this]at z;cases z)];show this]
def dG.freeze(F:dG P w K mg base CX0 k f fd ps sp):dG P w K mg base CX0 k f fd ps (λvs H Q E=>sp vs H (λv b=>∃L,∀c,Q v (oV L c b)) E):=by
 show%[λvs H Q E=>F.len vs H _ E|λA outer s H args us vs Q E d g h i j=>codeAny_mono (F.run A outer s H args us vs _ E d g h i j) λr s' a=>?_];cases r with
 | error e=>show a
 | ok l=>
   cases l with
   | ret u=>
     let%[v,z,m,n,o,p,q,L|y]:=a;show%[v,_,m,n,Jk o,F6 p,q|y _]
   | next=>show a
   | brk=>show a
   | cont=>show a
def dG.frozen(F:dG P w K mg base CX0 k f fd ps sp):dG P w K mg base CX0 k f fd ps (λvs H Q E=>∃d a,~~~vs= ~~~ps/\H d∣.dK a/\∀o,sp vs (Qb H d (.frz o (.dK a))) (λv L=>Q v (Qb L d (.dK a))) E):=by
 show%[λvs H Q E ⟨d,a,l,_⟩=>l|λA outer s H args us vs Q E M g B N ⟨d,a,_,C,O⟩=>?_];let%[o|T]:=(g.hok d _ C).there;let h:∀{b:kG},H b=hX->b≠d:=λe z=>by rw[z,C]at e;cases e
 let ne:∀{b:kG} {u:HO},H b∣u->(∀q,u≠ .dK q)->b≠d:=λe n z=>by rw[z,C]at e;cases e;show n _ rfl
 let st:∀{b:kG} {u:HO},bQ P w H s.heap b u->bQ P w (Qb H d (.frz o (.dK a))) s.heap b u:=λq=>q.stay (λ_ _ _ q=>q) (λc q=>(ao (ne q λ_ z=>nomatch z))▸q) λc xs q=>(ao (ne q λ_ z=>nomatch z))▸q
 let G:xu P w K mg base A outer s (Qb H d (.frz o _)):=⟨g.frames,g.mod,λb i e=>%[(g.bs b i e).1|by rw[ao (h (g.bs b i e).2)];show(g.bs b i e).2],g.bsz,g.funs,λb B=>by rw[ao (h (g.frf b B))];show g.frf b B,λb u e=>by
  by_cases c:b=d
  .subst c;rw[aa]at e;cases e;show%[T|st (g.hok b _ C)]
  .rw[ao c]at e;show st (g.hok b u e),g.bare⟩
 show codeAny_mono (F.run A outer s _ args us vs _ E M G B N (O o)) λr s' m=>?_
 cases r with
 | error e=>show m
 | ok U=>
   cases U with
   | next=>show m
   | brk=>show m
   | cont=>show m
   | ret u=>
     let%[v,I,Y,h2,j,J,h5|h6]:=m;let hf:=j.frzs d o _ aa;let p:∀{b:kG} {u:HO},I b∣u->(∀o q,u≠ .frz o q)->b≠d:=λe n z=>by grind
     let y:∀{b:kG} {u:HO},bQ P w I s'.heap b u->bQ P w (Qb I d (.dK a)) s'.heap b u:=λq=>q.stay (λ_ _ _ q=>q) (λc q=>(ao (p q λ_ _ z=>nomatch z))▸q) λc xs q=>(ao (p q λ_ _ z=>nomatch z))▸q
     show%[v,_,Y,h2,%[λb i e n=>j.keep b i e ((ao (h n))▸n),λb i e n=>j.slot b i e ((ao (h n))▸n),λb i e n hx=>?_,j.there,λb xs e=>?_,λb i u e=>?_|λb q e=>?_],λb u e=>?_,h5|h6]
     .rw[ao (h n)];show j.free b i e ((ao (h n))▸n) hx
     .let n:=ne e λ_ z=>nomatch z
      rw[ao n];show j.tups b xs ((ao n)▸e)
     .let n:=ne e λ_ z=>nomatch z
      rw[ao n];show j.frzs b i u ((ao n)▸e)
     .let n:=ne e λ_ z=>nomatch z
      rw[ao n];show j.tbls b q ((ao n)▸e)
     .by_cases c:b=d
      .subst c;rw[aa]at e;cases e;show y (J b _ hf).2
      .rw[ao c]at e;show y (J b u e)
end
abbrev Itk(d:kG)(o:MU)(a:hH (Key×V)):It:=⟨λi H=>H d∣.frz o (.dK a)/\i< ~~~a,λi H x b=>b=H/\∃k v,a[i]?∣(k,v)/\x=kV k,λi H=>H d∣.frz o (.dK a)/\ ~~~a<=i⟩
abbrev rY(c:TE):TI:=λe H R=>c e H λv b=>∃d o a,v= .ref d/\b d∣.frz o (.dK a)/\R (Itk d o a) b
def F7(h:jK k v=iv):aT (kV k) v:=by
 rcases aZ h with⟨i,t,rfl,rfl⟩|⟨x,t,rfl,rfl⟩
 .show%[t|ρ]
 .show%[t|ρ]
def Jl{a:hH _}{vs:hH _}(r:KV a vs){i:kj}{k:Key}{v:V}(e:a[i]?∣(k,v)):∃u,vs[i]?∣(k,u)/\aT v u:=by
 induction r generalizing i with
 | nil=>cases e
 | @cons p q ps qs b t c=>
   cases i with
   | zero=>
     obtain rfl:p=(k,v):=Za e;show%[q.2,by rw[show k=q.1 from b.1];rfl|b.2]
   | succ i=>show c e
def oW(r:KV a vs): ~~~a= ~~~vs:=by
 induction r with
 | nil=>rfl
 | cons _ _ b=>simp_all
section
variable{P:nX}{w:v0}{K:ZA}{tg:Ds}
def DJ{X:Cx}(I:Qd X ij n H s)(e:H d∣.frz o (.dK a))(b:o.data= .dict es h):∃vs,KV a vs/\s.heap.DictAt (aR X.prog X.w) d vs h:=by
 let%[g,p,q,vs,r,u,i,j,c,l,f|m]:=I.hok d _ e;rw[g]at c;cases c;rw[b]at f;cases f;show%[vs,r,_,es,g,l,b|m]
def DK(d it:kG)(o:MU)(kvs:hH _):qp P w K tg (Itk d o kvs) [it] it (λi h=>∃es ep,o.data= .dict es ep/\h.IsKeyIter it d i kvs.length ep) where
 mem:=by simp
 obj:=λi h st b hb=>by
  let e:=↑hb
  subst e;let%[_,_,_,o,e,c|d]:=st;show%[o,e|λv z=>by rw[d]at z;cases z]
 keep:=λi h h' ⟨es,ep,ho,st⟩ k=>%[es,ep,ho|st.at λo e=>k it ∅ o e]
 item:=by
  intro X hP hw hK hc i ij s σ H E I hf st hg;subst hP hw hK;let%[es,ep,ho|st]:=st;let%[hd|hi]:=hg;let%[vs,r|da]:=DJ I hd ho;let ln:=oW r;let%[u,hu|ru]:=Jl r (Z4 hi);let%[f0,f1,f2,f3,f4|f5]:=hf it ∅;rw[ln]at st;show wpAny_pyNext_dict_item st da hu λkey h' hk st' sb=>?_
  rw[<-ln]at st';let%[o',e,c|dd]:=id st';show%[key,ρ|qO e c dd (!1) %[_,H,(I.turned (λb o hb e=>(sb.2 b hb).trans e) f0 f1 f3 f4 f5),F7 hk,%[ρ,_,_,Z4 hi|ρ],%[es,ep,ho|st']|λb hb=>(hf b hb).1]]
 done:=by
  intro X hP hw hK hc i ij s σ H E I hf st hg;subst hP hw hK;let%[es,ep,ho|st]:=st;let%[hd|hi]:=hg;let%[vs,r|da]:=DJ I hd ho;let ln:=oW r;let%[f0,f1,f2,f3,f4|f5]:=hf it ∅;rw[ln]at st;show wpAny_pyNext_dict_end (I.ok.hd hc) st da (Xi ⋯) λh' eb=>%[rfl|I.turned (λb o hb e=>eb b o hb e) f0 f1 f3 f4 f5]
 self:=λ_ _ _ _ _ ⟨_,_,_,st⟩ h=>TW st h
def F8{X:Cx}(n:PE X l p):PI X tg l (rY p):=by
 intro ij s u H R I h;show thP (n ij s u H _ I h) λv c x y a z A=>?_
 let%[d,o,f,e,B|q]:=A;subst e;cases z;let%[g,N,C,vs,r,E,es,j,i,G,m|J]:=a.hok d _ B;let L:c.heap.DictAt _ d vs j:=%[E,es,i,G,m|J]
 rw[g]at i;cases i;show wpAny_pyIter_dict C L %[⇑c,[⇑c],_,_,y,rfl,a.kept λb o e=>Z7 _ e,DK d _ o f,%[es,j,m,_,Zj _ rfl,rfl|by rw[oW r];rfl],λb M=>?_|q];let e:=↑M
 subst e;show a.fpOk (Zi _) (a.hok.fresh (Zi _))
def zo{X:Cx}(a:QE X l b):QI X tg l (rY b):=⟨F8 a.h⟩
end
section
variable{X:Cx}
abbrev Kv:V->hH V->Hp->VK->Prop:=λx vs H Q=>asR x λa=>∃b,vs=[.ref b]/\∃c more,a≠b/\H a∣.dK c/\H b∣.dK more/\ ~~~c+ ~~~more<=mv/\Q .non (Qb H a (.dK (j4 c more)))
def Jm:MtM X "dict.update" Kv:=by
 intro ij s C H x vs v us Q I m n h;let%[a,rfl,b,rfl,o,more,ne,g,p,i|q]:=aM h;cases m;let%[u,rfl|r]:=n.one;cases r;let%[z,w,vs,d|j]:=kC I.hok g;let%[E,e,y,c|f]:=kC I.hok p;show Po PySem.F.slot_dict_update j.typeIs PySem.F.entry_dict_update (PySem.F.args_dict_update_2 _ _) (meets_dict_update _ a b ne e) %[vs,y,j,f,by rw[<-oW d,<-oW c];show i|λh' l G A=>%[.non,_,kD I (g▸Li) A (let⟨q,_,_,B,_⟩:=l;%[q|B]) (nU (n7 (jN _ _) i) w (KV.merge c d) l),rfl|q]]
def DL:MtQ X "dict.update" Kv:=⟨Jm⟩
end
def Cal.freeze{P:nX}{K:ZA}(C:Cal P w K mg base k x ps sp):Cal P w K mg base k x ps (λvs H Q E=>sp vs H (λv a=>∃L,∀b,Q v (oV L b a)) E):=by
 let%[f,c,F|r]:=C.ex;show%[f,c,F.freeze|r]
def Cal.imp{P:nX}{K:ZA}(C:Cal P w K mg base k x ps sp)(h:∀vs H Q E,a vs H Q E->sp vs H Q E):Cal P w K mg base k x ps a:=by
 let%[f,b,F|r]:=C.ex;show%[f,b,F.imp h|r]
def Cal.frozen{P:nX}{K:ZA}(C:Cal P w K mg base k x ps sp):Cal P w K mg base k x ps (λvs H Q E=>sp vs H Q E\/∃d a,~~~vs= ~~~ps/\H d∣.dK a/\∀o,sp vs (Qb H d (.frz o (.dK a))) (λv i=>Q v (Qb i d (.dK a))) E):=by
 let%[f,j,F|r]:=C.ex;show%[f,j,%[λvs H Q E h=>h.elim (F.len vs H Q E) (F.frozen.len vs H Q E)|λA outer s H args us vs Q E b c e g h=>h.elim (F.run A outer s H args us vs Q E b c e g) (F.frozen.run A outer s H args us vs Q E b c e g)]|r]
def v9{a:hH (Key×V)}{g:TG}{n:TS}{D:ic}(Pv:kj->St->Hp->Prop)(s:Pv 0 b H)(u:∀i b H,i<= ~~~a->Pv i b H->H d∣.frz o (.dK a))
 (w:∀i k v b H,a[i]?∣(k,v)->Pv i b H->g (kV k) b H λc l=>n {D with nx:=Pv (i+1),ct:=Pv (i+1),bk:=D.nx} c l) (z:∀b H,Pv a.length b H->D.nx b H):
 ∃W:kj->kj->St->Hp->Prop,(∃m,W 0 m b H)/\∀i m b H,W i m b H->
  ((Itk d o a).stop i H/\D.nx b H)\/((Itk d o a).go i H/\∃N:St->Hp->Prop,(∀f h,N f h->∃r,r<m/\W (i+1) r f h)/\∀x h,(Itk d o a).yld i H x h->g x b h λc l=>n {D with nx:=N,ct:=N,bk:=D.nx} c l):=by
 show%[λi m b H=>m= ~~~a-i/\i<= ~~~a/\Pv i b H,%[~~~a,by simp,Xc _|s]|?_];intro i m b H %[rfl,hi|p];let q:=u i b H hi p;by_cases j:i< ~~~a
 .show .inr %[%[q|j],Pv _,λf h A=>%[~~~a-(i+1),⋯,rfl,j|A]|λx h y=>?_];let%[e,k,v,y|rfl]:=y;subst e;show w i k v b _ y p
 .let e:i= ~~~a:=by lia
  subst e;show .inl %[%[q|Zi _]|z b H p]
section
variable{X:Cx}
variable{prog:nX}{w:v0}{A:vi}{R:Rs->mu->Prop}{I S:kG}{fp wr:hH kG}{n:kj}{P:kj->ku->Prop}{St:kj->yu->Prop}{val:kj->pp}{kn:lx}{d:ku}
abbrev Top(val:kj->pp)(n:kj)(v:ku):Prop:=∃m t,v= .int m t/\(∃j,j<n/\val j=m)/\∀j,j<n->val j<=m
def Top.step(h:Top val i v)(x:pp)(t:Tok)(e:val i=x):if x>(match v with| .int m _=>m|_=>0)then Top val (i+1) (.int x t)else Top val (i+1) v:=by
 let%[m,t',rfl,%[j,a|c]|b]:=h;change if x>m then _ else _
 split
 .show%[x,t,ρ,%[i,⋯|e]|λj a=>?_];rcases RP.mp a with h|h
  .let:=b j h
   lia
  .rw[h,e];show QJ _
 .show%[m,t',ρ,%[j,⋯|c]|λj a=>?_];rcases RP.mp a with h|h
  .show b j h
  .rw[h,e]
   lia
def Bh(W:RD prog w A.in1 I fp wr n P St)(T:∀i v,P i v->∃t,v= .int (val i) t)(G:S∉fp):∀(k i:kj) (s:mu) (l:ZJ) (c:kj),n-i=k->i<=n->St i s.heap->
 s.heap.get? S=hY {cls:= .type "list",dict:=hX,data:= .seq l c,slots:= #[]}->(i=0/\l= #[]\/∃v,l= #[v,v]/\Top val i v)->
 (∀v h' tk,(n=0/\v=d\/Top val n v)->(∀b o,b∉wr->b≠S->s.heap.get? b∣o->h'.get? b∣o)->R (.ok (.ret v)) {s with heap:=h',toks:=tk})->
 NQ (Lx prog w) A (.builtin "max.loop" %[[.ref I,.none,.ref S]|[(kn,d)]]) R s:=by
 let H:S∉wr:=λh=>G (W.sub _ h)
 let a:(toString "max"++toString ".loop":LF)="max.loop":=!1
 intro k
 induction k with
 | zero=>
   intro i s l c U hi y J N L;obtain rfl:i=n:=by lia
   show LP UZ ?_;rw[LR MZ _];show Z2 (Lw J rfl ?_);show Z2 (R4 (W.done s _ _ y λh' tk z=>?_));let f:=z S _ H J;rcases N with⟨rfl,rfl⟩|⟨v,rfl,M⟩
   .show Z2 (MX (Z3 (L d _ tk (.inl %[rfl|rfl]) λb o p _ e=>z b o p e)))
   .show Z2 (RM f rfl (Z2 (MY (Z3 ?_))));show L v _ tk (.inr M) λb o p g e=>(J5 _ _ (J0 g)).trans (z b o p e)
 | succ k Q=>
   intro i s l c U hi y J N L;let B:i<n:=by lia
   show LP UZ ?_;rw[LR MZ _];show Z2 (Lw J rfl ?_);show Z2 (R4 (W.item i s _ _ B y λu h' tk Y r z=>?_));let f:=z S _ H J;let%[t|rfl]:=T i u Y;let up:∀(x:ZJ),(∃v,x= #[v,v]/\Top val (i+1) v)->NQ (Lx prog w) A (.builtin "max.loop" %[[.ref I,.none,.ref S]|[(kn,d)]]) R {s with heap:=h'.update S (LX λ_=>x),toks:=tk}:=λx hx=>
    Q (i+1) _ x _ ⋯ B (W.frame _ _ _ r λb p o e=>(J5 _ _ (λh:S=b=>G (by rw[h];show p))).trans e) (K6 _ f rfl) (.inr hx)
     λv O C q E=>L v O C q λb o p g e=>E b o p g ((J5 _ _ (J0 g)).trans (z b o p e))
   rcases N with⟨rfl,rfl⟩|⟨v,rfl,M⟩
   .show Z2 (Z3 (Z2 (RM f rfl ?_)));rw[a];show Z3 %[Md MZ _|up _ %[_,rfl,_,_,rfl,%[0,⋯|rfl]|λj hj=>by rw[show j=0 by lia];show QJ _]]
   .let st:=M.step _ t rfl;let%[m,t',rfl,_|_]:=M;show Z2 (Z3 ?_);show Z2 (R4 (vu (Z2 (CmpOf.ints_gt (P:=λj v=>∃t,v= .int (if j=0 then val i else m) t) (λj=>if j=0 then val i else m) (λ_ _ h=>h) 0 1 _ _ _ _ _ %[t|rfl] %[t'|rfl] ?_))));show Z2 (vu (LZ ?_));show Z2 (MY (Z3 ?_))
    split
    .rename_i h
     let c:val i>m:=Zo h;show Z2 (RM f rfl (Z2 (MY ?_)));rw[a];show Z3 %[Md MZ _|up _ %[_,rfl|by rwa[md c]at st]]
    .rename_i h
     let c: ¬ val i>m:=λc=>h (Zf c)
     show Z2 (MY ?_);rw[a];show Z3 %[Md MZ _|Q (i+1) _ _ _ ⋯ B r f (.inr %[_,rfl|by rwa[kw c]at st]) λv O C q E=>L v O C q λb o p g e=>E b o p g (z b o p e)]
end
def Bi(a d:ku):US "max" %[[a]|[("default",d)]]:=by kernel_rfl
def F9{id:LF}(c:US id a)(h:Q () s):↥A (match RQ id with|some b=>UG id b a|none=>pure ()) Q E s:=by
 cases e:RQ id with
 | none=>show Z3 h
 | some b=>
   simp only[US,e]at c;change sh _ _ (UG id b a) _ _ s;rw[c];show Z3 h
def Bj{prog:nX}{w:v0}{A:vi}{E:ZD}{s:mu}{l:kG}{ps:hH (pp×Tok)}{d:ku}{Q:ZD}(g:A.handled=hX)(i:s.heap.IsList l (O6 ps.toArray))
 (h:∀v h' tk,(ps.toArray.size=0/\v=d\/Top (U9 ps.toArray) ps.toArray.size v)->(∀b o,s.heap.get? b∣o->h'.get? b∣o)->Q v {s with heap:=h',toks:=tk}):
 ↥A (call (.builtin "max") [.ref l] [("default",d)]) Q E s:=by
 let a:(toString "max"++toString ".loop":LF)="max.loop":=!1
 show MJ (Mt F.plain_max F.entry_max ?_);simp only[checkBuiltinCall,F.kind_max];show F9 (Bi _ _) ?_;show Z2 (Ry (show UF "max" ["key","default"] 0 %[[]|[("default",d)]]=pure [hX,hY d]from rfl) ?_);show Z2 (Z3 ?_);show Z2 (iter_intList i λp e st c f=>?_);subst e;show Z2 (Lg ?_);rw[a];show Z3 %[Md MZ _|Bh (Q2 (A:=A.in1) g _ l f (O6 ps.toArray)) (val:=U9 ps.toArray) (λ_ _=>intItems_at) (λj=>Xh _ (c _ j)) _ 0 _ #[] 0 rfl (Xc _) %[st.1.at λo e=>Z7 _ e|st.2.at λo e=>Z7 _ e] (Zj _ rfl) (.inl %[rfl|rfl]) λv h' tk q m=>?_];show h v h' tk (by simpa [O6]using q) (old_kept λb o n e=>m b o n (Zs (Zu e)) (Z7 _ e))
section
variable{X:Cx}{e v:Ds}{te tv:TE}{p pos kpos:Pos}
abbrev DM(K:ZA)(te tv:TE):TE:=λc H Q=>te c H λx f=>tv c f λy d=>∃(a:kG) (b:ZL) (z:pp),x= .ref a/\y= .int z/\Qc K d a (b\4)/\∀m,(b=[]/\m=z\/m∈b/\∀y∈b,y<=m)->Q (.int m) d
def Ga(C:X.calm=iv)(E:Gl X "max")(g:X.mg "max"=hX)(G:aQ e=jg)(J:PE X e te)(L:PE X v tv):PE X (.Call (.Name "max" p) [e] [%[hY "default",v|kpos]] pos) (DM X.K te tv):=by
 intro ij s l H Q I h;let d:=ay (es:=[]) (env:=X.env) G;show Mh (ii I E g boot_max ?_);show callWith_kw (thP (yM J B0 d pos ij s l H (λvs n=>match vs with|[x]=>tv l n λy c=>∃(a:kG) (b:ZL) (z:pp),x= .ref a/\y= .int z/\Qc X.K c a (b\4)/\∀m,(b=[]/\m=z\/m∈b/\∀y∈b,y<=m)->Q (.int m) c|_=>KZ) I h) λus M vs n N O r=>?_) (by rw[d];rfl) (by rw[d];rfl) rfl rfl
 match vs,r with
 |[x],r=>
  let%[u,rfl|T]:=cO O;show thP (E8 L HM pos ij M l n (λzs c=>match zs with|[y]=>∃a b z,x= .ref a/\y= .int z/\Qc X.K c a (b\4)/\∀m,(b=[]/\m=z\/m∈b/\∀y∈b,y<=m)->Q (.int m) c|_=>KZ) N r) λws s2 zs c w U Y=>?_
  match zs,Y with
  |[y],⟨a,b,z,e1,e2,ha,q⟩=>
   subst e1 e2;let%[u2,rfl,t|rfl]:=cO U;cases T;let%[its,rv,hl|hz]:=w.list ha;let%[ps,rfl|rfl]:=l8 rv;show Bj (I.ok.hd C) (by rw[show O6 ps.toArray=(ps.map λp=>Pb p.1 p.2).toArray by simp[O6]];show hl.isList) λv h' tk o A=>?_
   let f:∀i h,U9 ps.toArray i=ps[i].1:=λi h=>by simp[U9,h]
   let sz:ps.toArray.size= ~~~ps:=rfl;rw[sz]at o;rcases o with⟨o,rfl⟩|⟨m,t',rfl,⟨j,B,ej⟩,g⟩
   .show%[.int z,c,w.kept A,%[t|ρ]|q z (.inl %[by rw[xl.mp o];rfl|ρ])]
   .show%[.int m,c,w.kept A,%[t'|ρ]|q m (.inr %[Xn %[_,Yc B|by rw[<-f j B,ej]]|λy hy=>?_])];let%[p,hp|rfl]:=Xm hy;let%[i,hi|rfl]:=OF hp;rw[<-f i hi];show g i hi
variable{K:ZA}
def Kw(h:X.K=K)(a:X.calm=iv)(b:X.mg "max"=hX)(c:Gl X "max")(d:aQ e=jg)(f:QE X e te)(g:QE X v tv):QE X (.Call (.Name "max" p) [e] [%[hY "default",v|kpos]] pos) (DM K te tv):=by
 subst h;show⟨Ga a c b d f.h g.h⟩
variable{prog:nX}{w:v0}{A:vi}{s:mu}{E:ZD}
def l9{xs:hH V}{us:ZF}(r:aI xs us):∀is:hH kj,aI (is.filterMap (xs[·]?)) (is.filterMap (us.toArray[·]?))
 |[]=> .nil
 | i::is=>by
   let h:us.toArray[i]? =us[i]? :=by simp
   rw[Y1,Y1,h];by_cases c:i< ~~~xs
   .let%[u,a|b]:=r.get (i:=i) (x:=xs[i]) ∅;rw[a,Z4 c];show .cons b (l9 r is)
   .rw[Xi (by omega),Xi (by let:= ~~~r;omega)];show l9 r is
variable{ij:ZE}{σ:St}{H:Hp}
end
section
variable{X:Cx}
abbrev evI(n:kj):hH kj:=sliceRange (MF hX hX (hY 2) n).1 (MF hX hX (hY 2) n).2.1 (MF hX hX (hY 2) n).2.2
abbrev DN(e b:TE):TE:=λd H Q=>e d H λx f=>b d f λy c=>∃a xs,x= .ref a/\c a<*xs/\y= .int 2/\∀p:kG,c p=hX-> ~~~((evI xs.length).filterMap (xs[·]?))<= ~~~xs->Q (.ref p) (Qb c p (.lst ((evI xs.length).filterMap (xs[·]?))))
def Jn{e st:Ds}{m c:TE}{pos p:Pos}(w:PE X e m)(g:PE X st c):PE X (.Subscript e (.Slice hX hX (hY st) p) pos) (DN m c):=by
 intro ij s i H Q I h;show Sl (thP (w ij s i H _ I h) λv z x A B C E=>?_);show wpAny_Slice (UO (UO (evalPart_some_step (thP (g ij z i A _ B E) λu f y G J L ⟨a,xs,ex,M,N,q⟩=>?_))));subst ex N;cases C;let%[j|rfl]:=(L)
 let l:Qd X ij i G {f with heap:=f.heap.push {cls:= .type "slice",data:= .fields #[.none,.none,.int 2 j]}}:=J.kept λb O q=>Z7 _ q
 let T:(f.heap.push {cls:= .type _,data:= .fields #[.none,.none,.int 2 j]}).IsSliceOf ⇑f _ _ _:=QK ..;let%[its,r,n|U]:=l.list (Qc.of M);let d:= ~~~r;show tail_any n.isList.typeIs QR.lookup (SE n.isList T .none .none (.int 2 j) ∅ ?_ (!2)) (by with_unfolding_all rfl);let sz:=slicePick_size_le its.toArray hX hX (hY 2);unfold Vx at sz ⊢;rw[show its.toArray.size= ~~~xs by show d.symm]at sz ⊢;let pv:=l9 r (evI xs.length);let o: ~~~((evI xs.length).filterMap (xs[·]?))<= ~~~xs:=by rw[pv.length];show sz
 show%[.ref _,_,l.laid (λb O q=>Z7 _ q) (Zi _) ?_,ρ|q _ (l.hok.fresh (Zi _)) o];show%[n7 o U,_,0,pv|Zj _ rfl]
def Jo{e st:Ds}{c a:TE}{pos d:Pos}(f:QE X e c)(b:QE X st a):QE X (.Subscript e (.Slice hX hX (hY st) d) pos) (DN c a):=⟨Jn f.h b.h⟩
end
abbrev Kx(d:TE):TE:=λe H Q=>d e H λv b=>∃(a:kG) (ss:ZG),v= .ref a/\b a∣.lst (ss\0)/\aF b ss/\ ~~~ss<=300/\(∀p∈ss,~~~p.2<=3/\∀z∈p.2,~~~z<=30/\∀c∈z.cps.toList,c<16^8)/\∀z:lx,~~~z<=400000->Q (.str z) b
def Ky{X:Cx}{e:Ds}{c:TE}{pos:Pos}(i:X.A.guards∣[])(O:X.A.units+64<M3)(j:QE X e c):QE X (.FormattedValue e 114 hX pos) (Kx c):=by
 show⟨λij s l H Q I h=>?_⟩;show wpAny_FormattedValue_repr (thP (j.h ij s l H _ I h) λu m v o b r ⟨a,ss,p,w,y,T,z,q⟩=>?_);subst p;cases r;let%[us,A,pl|_]:=b.list (Qc.of w);let%[%[cls,U,data|Y],B,C,n|E]:=pl.isList;let%[as|G]:=oU b y A;let%[J,L,f3,M|f5]:=yh z;let len:=La.shown_le 8 (!1) (.list (ss.map oS)) (by simpa only[Sy]using M);simp only[Rf]at len;let f: ~~~(Uw (.list (ss.map oS)))<=400000:=by lia
 let g: ~~~(Uw (.list (ss.map oS)))<=mv:=n7 f (!1);show pyReprObj_of_reads (h₀:=m.heap) (d:= .list (ss.map oS)) (.list B C E G) (by simpa only[Tl]using J) (λx=>by simp only[TF,L]at x;cases x) i (by simp only[Ux];lia) (λ_ _ x=>x) (λh' t tk k=>?_) g;show VV (λt' N=>%[.str _,o,(b.kept k).tok _,%[_|rfl]|q _ f]) g
abbrev Kz(K:ZA)(c:TE):TI:=λd H R=>c d H λx b=>asR x λa=>(∃xs,Qc K b a xs)/\R (Itl K a) b
def cG{X:Cx}{K:ZA}{g l:Ds}{f:TE}(h:X.K=K)(i:QE X l f):QI X g l (Kz K f):=by
 subst h;show⟨λij s j H R I h=>thP (i.h ij s j H _ I h) λv c x m d n r=>?_⟩;let%[a,rfl,%[xs|u]|q]:=aM r;cases n;let%[its,y,p|z]:=d.list u;show NI p.isList ⟨⇑c,[⇑c],_,_,m,rfl,d.kept (t':=c.toks) λb o e=>Z7 _ e,qP a _,%[_,Zj _ rfl,rfl|rfl],λb w=>by
  obtain rfl:b=⇑c:=↑w
  show d.fpOk (Zi _) (d.hok.fresh (Zi _)),q⟩
def GR{X:Cx}:OpQ X (Ly .Add) Fg:=⟨Cc⟩
def Jp{X:Cx}{K:ZA}{e:Ds}{lo hi:lX Ds}{a:TE}{b c:TO}{d pos:Pos}(h:X.K=K)(f:QE X e a)(g:QO X lo b)(i:QO X hi c):QE X (.Subscript e (.Slice lo hi hX d) pos) (tSl (HU K) a b c):=by subst h;show⟨B6 Fd f.h g.h i.h⟩
def KA{X:Cx}{K:ZA}(h:X.K=K):OpQ X (qq .In) (rIn K jg):=by subst h;show⟨qY⟩
def dO{X:Cx}:OpQ X (Ly .Add) Cm:=⟨nQ⟩
open PySem
def KB{K:ZA}{z:lx}{H:Hp}:tyV K "str" (.str z) H=NX:=eq_true rfl
def tyL{K:ZA}{l:kG}{H:Hp}{xs:hH V}(h:Qc K H l xs):tyV K "list" (.ref l) H:= .inl %[rfl,_|h]
def tyD{K:ZA}{l:kG}{H:Hp}{a}(h:H l∣.dK a):tyV K "dict" (.ref l) H:= .inr (.inr (.inl %[rfl|.inl %[_|h]]))
abbrev gLst(K:ZA)(n:kj)(t:TGs):TG:=λv b H Q=>asR v λa=>∃xs,Qc K H a xs/\ ~~~xs=n/\t xs b H Q
def Jq{X:Cx}{K:ZA}{es:hH Ds}{t:TGs}{k}{pos:Pos}(f:X.K=K)(g:X.calm=iv)(c:es.any aQ=jg)(h:QGs X es t):QG X (.Tuple es k pos) (gLst K es.length t):=by
 subst f;show⟨λij s i H v u Q I r hw=>?_⟩;let%[a,rfl,xs,j,l|hw]:=aM hw;cases r;let%[its,d,p|q]:=I.list j;rw[assign_Tuple];show Z2 (N0 ?_);unfold unpack;let m: ~~~(MO es X.env)=its.toArray.size:=by rw[(fG c).1,<-l];simpa using d.length
 rw[m,(fG c).2];show Z2 (vu (PySem.W.kun_itemsOf (I.ok.hd g) p.isList λh' n=>h.h ij _ i H xs _ Q (I.kept λb o e=>n b o (Zs (Zu e)) e) ↑d hw))
def Bk{X:Cx}(E:X.calm=iv):cj X (.builtin "sorted") (λxs H Q=>cJ xs λB=>asR B λv=>∃(a:kG),H v∣kR v a/\∃(c:hH (Key×V)),H a∣.dK c/\∃(ks:ZB),c\2=ks\3/\ ~~~ks<64/\∀l (ss:ZB),H l=hX->ss.Perm ks->ss.Pairwise (λa b=>aN b a=jg)->Q (.ref l) (Qb H l (.lst (ss\3)))):=by
 show⟨λij s σ H xs us Q I r h=>?_⟩;let%[B,rfl|p]:=bF h;let%[v,rfl|w]:=aM p;let%[a,G,c,J,ks,f,few|q]:=w;let%[u,rfl|L]:=cO r;cases L;let%[z,hd,vs,j|M]:=kC I.hok J;let y:=(I.hok _ _ G).1;let%[o,es,N,O|T]:=M;let U:s.heap.DictAt _ a vs N:=%[o,es,O|T]
 let vl:= ~~~j;let kl: ~~~c= ~~~ks:=by let:=tI Lo f;rwa[Z6,Z6]at this
 let Y:Lr (vs\2) ks:=iB (f▸zf j);show gB (ks:=ks) (λE1 R hR=>mP kdl_values (I.ok.hd E) %[y|U] (by rw[Le];omega) λh' tk acc k ab d=>?_) (by omega) λs1 s' l vs ss n q1 C q3 k1 g1 o1 k g o m gl=>?_
 .let e:acc.toList=vs\2:=by
   show OQ (by rw[Zb,d.1,Z6]) λi h1 h2=>?_
   let%[k|ek]:=d.2 i _ (J6 h1);let%[h3|e3]:=Xj ek
   simp_all
  rw[e];show hR _ _ _ Y (.refl _) k rfl rfl
 .let A:=I.keptS k1 g1 o1;show%[.ref l,_,A.stoodS (o:= .lst _) (A.keptS k g o) m %[?_,vs,n,dN q1|gl],ρ|q l ss (A.hok.fresh m) C (q3 few)];rw[Z6,C.length_eq,Le];omega
def cP{v:Type}{K:ZA}{l D:kG}{us:hH v}{f:v->V}{c:St}{H:Hp}{g:TG}{w:TT}{z:TE}{A:Hp->Prop}(Pv:kj->hH V->St->Hp->Prop)(B:Pv 0 [] c H)(r:∀i ys c H,Pv i ys c H->H l<*us.map f)
 (C:∀i ys c H (hi:i< ~~~us),Pv i ys c H->g (f us[i]) c H λa s=>w a s λb d=>if b=iv then z a d λy q=>CK D us.length i Pv ys a y q else CN us.length i Pv ys a d) (E:∀ys c H,Pv us.length ys c H->A H):
 ∃W:kj->kj->hH V->St->Hp->Prop,(∃m,W 0 m [] c H)/\∀i m ys h j,W i m ys h j->((Itl K l).stop i j/\A j)\/
  ((Itl K l).go i j/\∀x u,(Itl K l).yld i j x u->g x h u λa s=>w a s λb d=>if b=iv then z a d λy q=>∃zs o,q D<*zs/\ ~~~zs<mv/\o<m/\W (i+1) o (ys++[y]) a (Qb q D (.lst (zs++[y])))
    else∃o,o<m/\W (i+1) o ys a d):=
 dI (n:= ~~~us) Pv B (λi ys c H hi p=>%[_,f us[i],Qc.of (r _ _ _ _ p)|by simp[hi]]) (λys c H p=>%[_,Qc.of (r _ _ _ _ p)|by simp]) (λi ys c H hi p x u ⟨e,G⟩=>by
  subst e;let:=G _ (Qc.of (r _ _ _ _ p));rw[Zl,Z4 hi]at this;obtain rfl:f us[i]=x:=Za this;show C i ys c _ hi p) E
def bD{j:Type}{K:ZA}{a:kG}{us:hH j}{f:j->V}{b:St}{H:Hp}{g:TG}{l:TS}{D:ic}(Pv:kj->St->Hp->Prop)(q:Pv 0 b H)(r:∀i b H,Pv i b H->H a<*us.map f)
 (s:∀i u b H,us[i]?∣u->Pv i b H->g (f u) b H λc h=>l {D with nx:=Pv (i+1),ct:=Pv (i+1),bk:=D.nx} c h) (v:∀b H,Pv us.length b H->D.nx b H):
 ∃W:kj->kj->St->Hp->Prop,(∃m,W 0 m b H)/\∀i m b H,W i m b H->
  ((Itl K a).stop i H/\D.nx b H)\/((Itl K a).go i H/\∃N:St->Hp->Prop,(∀d e,N d e->∃n,n<m/\W (i+1) n d e)/\∀x e,(Itl K a).yld i H x e->g x b e λc h=>l {D with nx:=N,ct:=N,bk:=D.nx} c h):=
 eC (xs:=us.map f) Pv q (λi b H _ p=>Qc.of (r i b H p)) (λi x b H o p=>by
  rw[Zl]at o;let%[u,w|rfl]:=Ld.mp o;show s i u b H w p) (by rw[Z6];show v)
section
variable{prog:nX}{w:v0}{A:vi}{R:Rs->mu->Prop}{I S:kG}{fp wr:hH kG}{n:kj}{P:kj->ku->Prop}{St:kj->yu->Prop}{val:kj->pp}{kn:lx}{d:ku}
variable{X:Cx}{e v:Ds}{te tv:TE}{p pos kpos:Pos}
end
abbrev KC(a:TE):TI:=λb H R=>a b H λx c=>asS x λz=>R (Its z) c
def Jr{X:Cx}{j l:Ds}{g:TE}(m:QE X l g):QI X j l (KC g):=by
 show⟨λij s n H R I h=>thP (m.h ij s n H _ I h) λv c x f d p r=>?_⟩;let%[z,rfl|q]:=fj r;let%[t|rfl]:=p;let a:∀b∈[⇑c],lR X ij f b:=λb u=>by
  obtain rfl:b=⇑c:=↑u
  show d.fpOk (Zi _) (d.hok.fresh (Zi _))
 cases i:z.cps.all _ with
 | true=>show UH i %[⇑c,[⇑c],_,_,f,rfl,d.kept λb o e=>Z7 _ e,n6 _ z t,%[_,Zj _ rfl,rfl|rfl],a|q]
 | false=>show U3 i %[⇑c,[⇑c],_,_,f,rfl,d.kept λb o e=>Z7 _ e,rC _ z t,%[_,Zj _ rfl,rfl|rfl],a|q]
def zq{i j:Int}:decide (V.int i=V.int j)=decide (i=j):=by
 by_cases c:i=j
 .rw[c,Zf rfl,Zf rfl]
 .rw[Zh c,Zh λe=>c (V.int.inj e)]
def DO{X:Cx}:OpQ X (qq .Eq) (rI0 λi j=> .bl (decide (i=j))):=⟨λij s a H x y v u Q I b c h=>by
 let%[i,rfl|d]:=cX h;let%[j,rfl|q]:=cX d;show Gz ij s a H _ _ v u Q I b c %[rfl|by rw[zq];show q]⟩
def GS{X:Cx}:OpQ X (qq .NotEq) (rI0 λi j=> .bl (!decide (i=j))):=⟨λij s a H x y v u Q I b c h=>by
 let%[i,rfl|d]:=cX h;let%[j,rfl|q]:=cX d;show GA ij s a H _ _ v u Q I b c %[rfl|by rw[zq];show q]⟩
def GT{X:Cx}:OpQ X (qq .In) Ih:=⟨qQ⟩
def KD{A B:Prop}:(if iv=iv then A else B)=A:=rfl
def KF{A B:Prop}:(if jg=iv then A else B)=B:=rfl
def uz{x:V}{a:kG}{f:kG->Prop}(h:x= .ref a)(q:f a):asR x f:=by
 rw[h];show q
inductive E2 {α β:Type} (p:α->β->Prop):Prop|mk (a:α) (b:β):p a b->E2 p
inductive E3 {α β γ:Type} (p:α->β->γ->Prop):Prop|mk (a:α) (b:β) (c:γ):p a b c->E3 p
inductive E4 {α β γ δ:Type} (p:α->β->γ->δ->Prop):Prop|mk (a:α) (b:β) (c:γ) (d:δ):p a b c d->E4 p
inductive E5 {α β γ δ ε:Type} (p:α->β->γ->δ->ε->Prop):Prop|mk (a:α) (b:β) (c:γ) (d:δ) (e:ε):p a b c d e->E5 p
inductive E6 {α β γ δ ε ζ:Type} (p:α->β->γ->δ->ε->ζ->Prop):Prop|mk (a:α) (b:β) (c:γ) (d:δ) (e:ε) (f:ζ):p a b c d e f->E6 p
inductive E7 {α β γ δ ε ζ η:Type} (p:α->β->γ->δ->ε->ζ->η->Prop):Prop|mk (a:α) (b:β) (c:γ) (d:δ) (e:ε) (f:ζ) (g:η):p a b c d e f g->E7 p
inductive A3 (a b c:Prop):Prop|mk:a->b->c->A3 a b c
inductive A4 (a b c d:Prop):Prop|mk:a->b->c->d->A4 a b c d
inductive A5 (a b c d e:Prop):Prop|mk:a->b->c->d->e->A5 a b c d e
inductive A6 (a b c d e f:Prop):Prop|mk:a->b->c->d->e->f->A6 a b c d e f
inductive A7 (a b c d e f g:Prop):Prop|mk:a->b->c->d->e->f->g->A7 a b c d e f g
inductive A8 (a b c d e f g h:Prop):Prop|mk:a->b->c->d->e->f->g->h->A8 a b c d e f g h
inductive A9 (a b c d e f g h i:Prop):Prop|mk:a->b->c->d->e->f->g->h->i->A9 a b c d e f g h i
inductive A11 (a b c d e f g h i j k:Prop):Prop|mk:a->b->c->d->e->f->g->h->i->j->k->A11 a b c d e f g h i j k
inductive DP (P:nX) (w:v0) (K:ZA) (mg:ZC) (base:yu) (k i:kj) (E:St->XK) (t:TA) (σ:St) (H:Hp) (Q:VK):Prop
 | mk (j:kj) (y:lx) (ps:ZB) (sp:Sp) (z0:xS P w K mg base j y ps sp) (z1:OW j k=iv) (z2:lQ i σ H λv _=>v= .ref (aC mg y)) (z3:t σ H λvs H1=>sp vs H1 Q (E σ)):DP P w K mg base k i E t σ H Q
def zt{v:V}:∀{i:kj} {a:St},a[i]?∣hY v->Q v H->lQ i a H Q
 | 0,_::_,e,q=>by cases e;show q
 | i+1,_::a,e,q=>zt (i:=i) (a:=a) e q
def KG{X:Cx}{P:nX}{w:v0}{K:ZA}{mg:ZC}{base:yu}{E:St->XK}(G:GQ (CXO X.prog X.w) X E)(J:bE k X.A)(n:(X.prog,X.w,X.K,X.mg,X.base)=(P,w,K,mg,base))(d:(e::es).any aQ=jg)(L:QE X (.Name x p) (lQ i))(M:QA X (e::es) t):
 QE X (.Call (.Name x p) (e::es) [] pos) (DP P w K mg base k i E t):=by
 simp only[LK]at n;let%[rfl,rfl,rfl,rfl|rfl]:=n;rw[Zw,X4]at d;show⟨λij s c H Q I h=>?_⟩;let%[j,y,ps,sp,C,g,o|h]:=h;let%[f,fd,F,N,O|T]:=C.ex;rw[dL N]at o;let%[v,U|rfl]:=w8 o;show Mh (thP (L.h ij s c H (λv Y=>v= .ref f/\Y=H) I (zt U %[rfl|rfl])) λu s0 v H0 z r0 q0=>?_);let%[rfl|rfl]:=q0;cases r0;show Sh z.ok.mod.kin O (thP (M.h pos ij s0 c _ _ z h) λus l vs m a r q=>%[a.kIn|?_]) (ay d.1) (dJ d.2);let A:=r.append .nil;let B:sp (vs++[]) m Q (E c):=by rw[Zx];show q
 show MJ (codeAny_mono (F.run X.A X.stack l m _ _ _ Q _ (J.mono (Yd g)) a.env0 (T l us a.kIn (~~~A▸F.len _ _ _ _ B)) A B) λr s' b=>?_);cases r with
 | error e=>show G ij c m l e s' a b
 | ok fl=>
   cases fl with
   | ret u=>show a.after b
   | next=>show Lh b
   | brk=>show Lh b
   | cont=>show Lh b
def qB{X:Cx}{mg:ZC}{x:lx}{p:Pos}(e:X.mg=mg)(b:Gl X x)(c:mg x∣.ref (aC mg x))(a:(x==("__debug__":lx))=jg):QE X (.Name x p) (tC (.ref (aC mg x))):=by
 subst e;show clsE b c a
def aE.at_{K:ZA}{mg:ZC}{x:lx}{st:I0}{ps:ZB}(D:aE K mg x st ps):mg x∣.ref (aC mg x):=by
 let%[f,_,_,e|_]:=D.ex;rw[dL e,e]
abbrev KH(K:ZA)(D:kG)(len i:kj)(a:(St->XK)->TS)(ts:TS):TS:=λb c H=>∃E:St->XK,DI K D E len i (a E) ts b c H
def tryE{X:Cx}{D:kG}{m:(St->XK)->TS}(f:X.stack=X.env::X.outer)(q:X.env.frame∣X.env.locals)(r:X.N.Nodup)(hi:X.N[i]?∣n)
 (u:X.env.kindOf n∣.local) (v:X.env.scope.names.lookup n∣.local) (w:Gl X x) (y:X.mg x∣.ref D) (c:Cat X.K D) (l:(x==("__debug__":lx))=jg) (d:∀E pn,QSs (X.tryV pn E) g (m E)) (b:∀a,QSs (X.suiteX a) (j::e) ts):
 QS X (.Try g [.ExceptHandler (hY (.Name x p)) (hY n) (j::e) o] [] [] pos) (KH X.K D X.N.length i m ts):=
 ⟨λij s z H A I ⟨E,h⟩=>zj f q r hi u v w y c (λpn=>(d E pn).h) (λa=>(b a).h) l ij s z H A I h⟩
def Js{X:Cx}:cj X (.builtin "len") (λxs H Q=>cJ xs λx=>asR x λa=>∃b,Rd H a (.dK b)/\Q (.int b.length) H):=⟨by
 intro ij s g H xs us Q I r h;let%[x,rfl|c]:=bF h;let%[a,rfl,b,d|q]:=aM c;let%[u,rfl|e]:=cO r;cases e;show J9 I d λt s' f=>%[.int b.length,H,f,%[t|rfl]|q]⟩
def Gb{X:Cx}:cj X (.type "dict") (λxs H Q=>cJ xs λx=>asR x λa=>∃b,Rd H a (.dK b)/\∀d,H d=hX->Q (.ref d) (Qb H d (.dK b))):=⟨by
 intro ij s j H xs us Q I r h;let%[x,rfl|c]:=bF h;let%[a,rfl,b,e|q]:=aM c;let%[u,rfl|f]:=cO r;cases f;show Ci I e λp s' g i=>%[.ref p,_,i,rfl|q p g]⟩
abbrev zu:V->hH V->Hp->VK->Prop:=λx vs H Q=>asR x λl=>EE vs (∃a,H l∣.dK a/\Q .non (Qb H l (.dK [])))
def DQ{X:Cx}:MtQ X "dict.clear" zu:=⟨by
 intro ij s j H x vs v us Q I d e h;let%[l,rfl|a]:=aM h;let%[rfl|b]:=BC a;let%[f,g|q]:=b;cases d;let c:=e.zero;subst c;show Fj I g λs' i=>%[.non,_,i,rfl|q]⟩
def wa{b:Type}[Lk b]{A:vi}{s:mu}{c:hH (b×V)}{ws:hH (b×ku)}(r:KV c ws):∀{a:hH (b×V)} {vs:hH (b×ku)},KV a vs->(∀p∈a,∃i,p.2= .int i/\bV c p.1∣.int i)->KeqHits A s ws vs iv
 |[],[],_,_=> .nil
 |(k,v)::a,(m,u)::vs,.cons e rr,h=>by
  let%[rfl|d]:=e;let%[i,rfl|f]:=h _ Zm;let%[t|rfl]:=d;let q:=r.val k;rw[f]at q;let%[y,g,j|rfl]:=fY.some_of q;let:=KeqHits.hit (A:=A) (s:=s) (v:= .int i t) g (RG i t i j) (wa r rr λp l=>h p (Zk _ l));rwa[M0,RJ]at this
abbrev KI:R2:=λx y H Q=>asR x λa=>asR y λb=>∃c d,Rd H a (.dK c)/\Rd H b (.dK d)/\ ~~~c= ~~~d/\(∀p∈c,∃i,p.2= .int i/\bV d p.1∣.int i)/\Q (.bl jg) H
def Jt{X:Cx}(A:X.A.units+64<M3):OpR X (qq .NotEq) KI:=by
 intro ij s B H x y v u Q I e f h;let%[a,rfl|g]:=aM h;let%[b,rfl,i,j,l,m,n,o|q]:=aM g;cases e;cases f;let%[z,na,vs,d|p]:=i5 I.hok l;let%[C,nb,ws,c|w]:=i5 I.hok m;show PySem.W.keq_ne na nb p w ⋯ (r:=iv) (λ_=>wa c d o) ?_;rw[show(~~~vs== ~~~ws&&iv)=iv by rw[<-d.length,<-c.length,n];simp];show%[.bl jg,H,I,ρ|q]
def GU{X:Cx}(a:bE k X.A):OpQ X (qq .NotEq) KI:=⟨Jt a.units⟩
def KJ{X:Cx}{K:ZA}(f:X.K=K):cj X (.builtin "isinstance") (λxs H Q=>lP xs λx y=>asR x λa=>∃d c b,Rd H a (.dK d)/\y= .ty c/\OE K (.type "dict") (.type c)∣b/\Q (.bl b) H):=⟨by
 subst f;intro ij s u H xs us Q I r h;let%[x,y,rfl|g]:=jY h;let%[a,rfl,d,c,b,i,rfl,e|q]:=aM g;let%[v,w,rfl,j|l]:=iY r;cases j;cases l;let%[_,_,vs,_|p]:=i5 I.hok i;let%[o,es,A,m,n|_]:=p;show Nh VA I.kIn %[o,m|n.1] e (λz=>nomatch z) λtk=>%[.bl b,H,I.tok _,rfl|q]⟩
def zv{st:hH I0}:QSs X st sZ:=⟨z7⟩
end _LL
namespace _CU
open PySem _LL
inductive cQ (S:lx->lx->Prop):lx->lx->Prop
 | refl (x:lx):cQ S x x
 | step {x y z:lx}:cQ S x y->(S y z\/S z y)->cQ S x z
def cQ.trans{S:lx->lx->Prop}(h:cQ S x y)(g:cQ S y z):cQ S x z:=by
 induction g with
 | refl=>show h
 | step _ s a=>show .step a s
def cQ.one{S:lx->lx->Prop}(h:S x y\/S y x):cQ S x y:= .step (.refl x) h
def cQ.symm{S:lx->lx->Prop}(h:cQ S x y):cQ S y x:=by
 induction h with
 | refl=>show .refl _
 | step _ s a=>show(cQ.one s.symm).trans a
def cQ.mono{S R:lx->lx->Prop}(m:∀a b,S a b->R a b)(h:cQ S x y):cQ R x y:=by
 induction h with
 | refl=>show .refl _
 | step _ s c=>show .step c (s.imp (m _ _) (m _ _))
def cQ.within{S:lx->lx->Prop}{p:lx->Prop}(w:∀a b,S a b->p a/\p b)(h:cQ S x y)(c:p x):p y:=by
 induction h with
 | refl=>show c
 | step _ s _=>
   rcases s with s|s
   .show(w _ _ s).2
   .show(w _ _ s).1
abbrev cC(S:lx->lx->Prop)(z r:lx):Prop:=cQ S z r/\∀y,cQ S z y->aN y r=jg
def cC.one{S:lx->lx->Prop}(h:cC S z r)(g:cC S z a):r=a:=by
 by_cases e:r=a
 .show e
 .let:=eY (g.2 _ h.1) e;rw[h.2 _ g.1]at this;cases this
structure bM (ls:ZB) (f r:lx->lx) (S:lx->lx->Prop):Prop where
 ws:∀a b,S a b->a∈ls/\b∈ls
 fin:∀z∈ls,f z∈ls
 rin:∀z∈ls,r z∈ls
 rf:∀z∈ls,r (f z)=r z
 fr:∀z∈ls,f (r z)=r z
 fix:∀z∈ls,f z=z->r z=z
 dec:∀z∈ls,f z≠z->aN (f z) z=iv
 le:∀z∈ls,aN z (r z)=jg
 cl:∀x∈ls,∀y∈ls,r x=r y↔cQ S x y
def bM.rr{S:lx->lx->Prop}(F:bM a f r S)(h:z∈a):r (r z)=r z:=F.fix _ (F.rin z h) (F.fr z h)
def bM.conn{S:lx->lx->Prop}(F:bM a f r S)(h:z∈a):cQ S z (r z):=(F.cl z h _ (F.rin z h)).mp (F.rr h).symm
def bM.least{S:lx->lx->Prop}(F:bM b f r S){z:lx}(h:z∈b):cC S z (r z):=by
 show%[F.conn h|λy c=>?_];let a:=c.within F.ws h;rw[(F.cl z h y a).mpr c];show F.le y a
def bM.start(a:ZB):bM a id id (λ_ _=>KZ):=by
 show%[λ_ _ h=>h.elim,λz h=>h,λz h=>h,λ_ _=>rfl,λ_ _=>rfl,λ_ _ _=>rfl,λz _ h=>(h rfl).elim,λz _=>di z|λx b y d=>%[λe=>?_|λc=>?_]]
 .rw[show x=y from e];show .refl _
 .induction c with
  | refl=>rfl
  | step _ s _=>simp_all
set_option tactic.hygienic true in
def bM.join{S:lx->lx->Prop}(F:bM j f r S){a b M m:lx}(q:a∈j)(w:b∈j)(B:M=if aN (r a) (r b)=iv then r b else r a)(C:m=if aN (r b) (r a)=iv then r b else r a):
 bM j (λx=>if x=M then m else f x) (λx=>if r x=M then m else r x) (λx y=>S x y\/(x=a/\y=b)):=by
 let g:(M=r a/\m=r b)\/(M=r b/\m=r a):=by
  rw[B,C];cases e:aN _ _ with
  | true=>
    let:aN (r b) (r a)=jg:=by
     cases i:aN _ _ with
     | false=>rfl
     | true=>have:=dE e i;rw[di]at this;cases this
    show this▸ .inr %[rfl|rfl]
  | false=>
    cases i:aN _ _ with
    | true=>show .inl %[rfl|rfl]
    | false=>
      let:r a=r b:=by
       by_cases h:r a=r b
       .show h
       .let:=eY e h;rw[i]at this;cases this
      show this▸ .inl %[rfl|rfl]
 let lt:m≠M->aN m M=iv:=by
  rw[B,C];cases e:aN _ _ with
  | true=>
    cases i:aN _ _ with
    | true=>intro h;show(h rfl).elim
    | false=>intro _;show e
  | false=>
    cases i:aN _ _ with
    | true=>intro _;show i
    | false=>intro h;show(h rfl).elim
 let Q:=F.rin a q;let T:=F.rin b w;let E:m∈j:=by rcases g with⟨_,h⟩|⟨_,h⟩<;> rw[h]<;> assumption
 let G:r M=M:=by rcases g with⟨h,_⟩|⟨h,_⟩<;> rw[h]<;> apply F.rr<;> assumption
 let L:r m=m:=by rcases g with⟨_,h⟩|⟨_,h⟩<;> rw[h]<;> apply F.rr<;> assumption
 let N:cQ (λx y=>S x y\/(x=a/\y=b)) M m:=by
  let c1:cQ (λx y=>S x y\/(x=a/\y=b)) _ _:=(((F.conn q).mono λ_ _=> .inl).symm.trans (.one (.inl (.inr %[rfl|rfl])))).trans ((F.conn w).mono λ_ _=> .inl);rcases g with⟨l,n⟩|⟨l,n⟩
  .rw[l,n];show c1
  .rw[l,n];show c1.symm
 let p:∀x∈j,cQ _ x (if r x=M then m else r x):=λx A=>by
  let c:=(F.conn A).mono (R:=λx y=>S x y\/(x=a/\y=b)) λ_ _=> .inl
  by_cases e:r x=M
  .rw[md e];rw[e]at c;show c.trans N
  .rw[kw e];show c
 let H:(if r a=M then m else r a)=(if r b=M then m else r b):=by
  rcases g with⟨l,n⟩|⟨l,n⟩
  .rw[md l.symm];by_cases e:r b=M
   .rw[md e]
   .rw[kw e];show n
  .rw[md l.symm];by_cases e:r a=M
   .rw[md e]
   .rw[kw e];show n.symm
 show%[λx y h=>?_,λz d=>?_,λz d=>?_,λz d=>?_,λz d=>?_,λz d h=>?_,λz d h=>?_,λz d=>?_|λx A y I=>%[λe=>?_|λc=>?_]]
 .rcases h with h|⟨rfl,rfl⟩
  .show F.ws x y h
  .show%[q|w]
 .split
  .show E
  .show F.fin z d
 .split
  .show E
  .show F.rin z d
 .by_cases e:z=M
  .rw[md e,e,G,md rfl,L]
   split<;> rfl
  .rw[kw e,F.rf z d]
 .by_cases e:r z=M
  .rw[md e]
   split
   .rfl
   .show(by rcases g with⟨_,h⟩|⟨_,h⟩<;> rw[h]<;> apply F.fr<;> assumption)
  .rw[kw e,kw e];show F.fr z d
 .by_cases e:z=M
  .rw[md e]at h;rw[e,G,md rfl,<-e];show h
  .rw[kw e]at h;rw[F.fix z d h,kw e]
 .by_cases e:z=M
  .rw[md e]at h ⊢;rw[e]at h ⊢;show lt h
  .rw[kw e]at h ⊢;show F.dec z d h
 .by_cases e:r z=M
  .rw[md e];cases i:aN z m with
   | false=>rfl
   | true=>
     let o:=F.le z d;rw[e]at o;by_cases em:m=M
     .rw[em]at i;rw[o]at i;cases i
     .let:=dE i (lt em);rw[o]at this;cases this
  .rw[kw e];show F.le z d
 .let c:=(p x A)
  rw[e]at c;show c.trans (p y I).symm
 .let ws:∀x y,(S x y\/(x=a/\y=b))->x∈j/\y∈j:=λx y h=>by
   rcases h with h|⟨rfl,rfl⟩
   .show F.ws x y h
   .show%[q|w]
  clear I
  induction c with
  | refl=>rfl
  | step c s O=>
    rename_i u v
    let J:=c.within ws A;rw[O];rcases s with(s|⟨rfl,rfl⟩)|(s|⟨rfl,rfl⟩)
    .rw[(F.cl u J v (F.ws u v s).2).mpr (.one (.inl s))]
    .show H
    .rw[(F.cl u J v (F.ws v u s).1).mpr (.one (.inr s))]
    .show H.symm
def bM.short{S:lx->lx->Prop}(F:bM d f r S)(b:z∈d):bM d (λx=>if x=z then f (f z)else f x) r S:=by
 let g:f z≠z->aN (f _) z=iv:=λh=>by
  let i:=F.dec z b h;by_cases e:f (f z)=f z
  .show e▸i
  .show dE (F.dec _ (F.fin z b) e) i
 show%[F.ws,λx a=>?_,F.rin,λx a=>?_,λx a=>?_,λx a h=>?_,λx a h=>?_,F.le|F.cl]
 .split
  .show F.fin _ (F.fin z b)
  .show F.fin x a
 .by_cases e:x=z
  .rw[md e,F.rf _ (F.fin z b),F.rf z b,e]
  .rw[kw e];show F.rf x a
 .by_cases e:r x=z
  .rw[md e];let:=F.fr x a
   simp_all
  .rw[kw e];show F.fr x a
 .by_cases e:x=z
  .rw[md e]at h;rw[e]at h ⊢;by_cases c:f z=z
   .show F.fix z b c
   .let:=g c;rw[h,di]at this;cases this
  .rw[kw e]at h;show F.fix x a h
 .by_cases e:x=z
  .rw[md e]at h ⊢;rw[e]at h ⊢;show g λc=>h ?_
   rw[c,c]
  .rw[kw e]at h ⊢;show F.dec x a h
def bM.done{S:lx->lx->Prop}(F:bM b f r S)(a:z∈b)(h:∀w∈b,aN w z=iv->f w=r w):f (f z)=r z:=by
 by_cases e:f z=z
 .rw[e,e];show(F.fix z a e).symm
 .rw[h _ (F.fin z a) (F.dec z a e),F.rf z a]
abbrev Ed(ks:hH ZB)(a b:lx):Prop:=∃z,[a,b,z]∈ks
inductive Rch (ks:hH ZB):lx->lx->Prop
 | one {a b:lx}:Ed ks a b->Rch ks a b
 | more {a b c:lx}:Rch ks a b->Ed ks b c->Rch ks a c
def Rch.closed{R:lx->Prop}(a:∀y,Ed ks s y->R y)(h:∀x y,R x->Ed ks x y->R y)(r:Rch ks s y):R y:=by
 induction r with
 | one e=>show a _ e
 | more _ e b=>show h _ _ b e
def rZ{ks:hH _}{laid:ZB}(h:∀i x,laid[i]?∣x->∀y,Ed ks x y->y∈laid.take i){i:kj}{x y:lx}(hi:laid[i]?∣x)(r:Rch ks x y):∃j,j<i/\laid[j]?∣y:=by
 let at_:∀i y,y∈laid.take i->∃j,j<i/\laid[j]?∣y:=λi y c=>by
  let%[j|b]:=Xd c;let d:=(Xj b).1;rw[Yk]at d;show%[j,⋯|by rwa[Yb ⋯]at b]
 show r.closed (λy e=>at_ i y (h i x hi y e)) λa y ⟨j,l,b⟩ e=>?_
 let%[f,m|g]:=at_ j y (h j a b y e);show%[f,⋯|g]
def Gc{laid:ZB}(h:∀(i:kj) x,laid[i]?∣x->∀y,Ed ks x y->y∈laid.take i){x:lx}(a:x∈laid): ¬ Rch ks x x:=by
 intro r;let%[i|hi]:=Xd a;let:∀n i:kj,i<=n->laid[i]? ≠hY x:=λn=>by
  induction n with
  | zero=>
    intro i hi e;let%[j,b|_]:=rZ h e r
    lia
  | succ n c=>
    intro i hi e;let%[j,b|d]:=rZ h e r;show c j ⋯ d
 show this i i (Zi _) hi
abbrev Wal:hH ZB->lx->lx->Prop
 |[],a,b=>a=b
 | k::r,a,b=>∃c z,k=[a,c,z]/\Wal r c b
def Wal.app:∀{us vs:hH ZB} {a:lx},Wal us a b->Wal vs b c->Wal (us++vs) a c
 |[],_,_,h,g=>h▸g
 | _::_,_,_,⟨d,z,e,h⟩,g=>%[d,z,e|h.app g]
abbrev Dst(ks:hH ZB)(s:lx)(n:kj)(x:lx):Prop:=∃us:hH _,~~~us=n/\(∀k∈us,k∈ks)/\Wal us s x
def Dst.nil:Dst ks s 0 s:=%[[],rfl,λ_ h=>(nomatch h)|rfl]
def Dst.app(h:Dst ks s n x)(g:Dst ks x m y):Dst ks s (n+m) y:=by
 let%[us,f,a|b]:=h;let%[vs,i,c|d]:=g;show%[us++vs,!2,λk e=>(Xk e).elim (a k) (c k)|b.app d]
def Ed.dst(e:Ed ks s x):Dst ks s 1 x:=by
 let%[z|e]:=e;show%[[[s,x,z]],ρ,λk a=>(Xl a)▸e,x,z,ρ|ρ]
def Dst.last:∀{n:kj} {s:lx},Dst ks s (n+1) x->∃y,Dst ks s n y/\Ed ks y x
 | n,s,⟨[],a,_,_⟩=>(nomatch a)
 | 0,s,⟨[k],_,b,c,z,e,h⟩=>%[s,.nil,z|by rw[<-h,<-e];show b k Zm]
 | 0,s,⟨_::_::_,a,_,_⟩=>ow a ∅
 | n+1,s,⟨k::r,a,b,c,z,e,h⟩=>by
   let%[y,d|f]:=Dst.last %[r,↑a,λk g=>b k (Zk _ g)|h];let:Ed ks s c:=%[z|e▸b k Zm]
   show%[y,Ss 1 n▸this.dst.app d|f]
def Rch.dst(h:Rch ks a b):∃n,Dst ks a (n+1) b:=by
 induction h with
 | one e=>show%[0|e.dst]
 | more _ e c=>
   let%[n|h]:=c;show%[n+1|h.app e.dst]
def Dst.rch:∀{n:kj} {b:lx},Dst ks a (n+1) b->Rch ks a b
 | 0,b,h=>by
   let%[y,%[us,d,_|c]|e]:=h.last;rw[xl.mp d]at c;rw[c];show .one e
 | n+1,b,h=>by
   let%[y,h|e]:=h.last;show .more h.rch e
structure Lev (ks:hH ZB) (st:lx) (rs:hH (lx×kG×ZB)) (d:lx->kj) (k:kj) (F:ZB):Prop where
 nd:(rs\1).Nodup
 by_:∀r∈rs,r.2.2∈ks/\∃p z,r.2.2=[p,r.1,z]/\((p=st/\d r.1=1)\/(p≠st/\p∈rs\1/\d r.1=d p+1))
 le:∀x∈rs\1,d x<=k
 edge:∀x,x∈F↔(k=0/\x=st)\/(1<=k/\x∈rs\1/\d x=k)
 all:∀n x,1<=n->n<=k->Dst ks st n x->x∈rs\1/\d x<=n
section
variable{ks:hH ZB}{st:lx}{rs:hH (lx×kG×ZB)}{d:lx->kj}{k:kj}{F:ZB}
def Lev.nil:Lev ks st [] (λ_=>0) 0 [st]:=
 %[X1,λ_ h=>(nomatch h),λ_ h=>(nomatch h),λx=>by simp|λn x a b=>by lia]
def Lev.dst(h:Lev ks st rs d k F)(a:x∈rs\1):1<=d x/\Dst ks st (d x) x:=by
 let:∀m x,x∈rs\1->d x<=m->1<=d x/\Dst ks st (d x) x:=λm=>by
  induction m with
  | zero=>
    intro x a l;let%[r,b|rfl]:=Xm a;obtain⟨_,p,z,_,⟨_,e⟩|⟨_,_,e⟩⟩:=h.by_ r b<;> lia
  | succ m g=>
    intro x a l;let%[r,b|rfl]:=Xm a;let%[c,p,z,i|q]:=h.by_ r b;rw[i]at c;let f:Ed ks p r.1:=%[z|c]
    rcases q with⟨rfl,e⟩|⟨_,j,e⟩
    .rw[e];show%[Zi _|f.dst]
    .show e▸%[⋯|(g p j ⋯).2.app f.dst]
 show this _ x a (Zi _)
def Lev.min(h:Lev ks st rs d k F)(a:x∈rs\1)(g:Dst ks st (n+1) x):d x<=n+1:=by
 by_cases c:n+1<=k
 .show(h.all _ x ⋯ c g).2
 .let:=h.le x a
  lia
def Lev.stop(h:Lev ks st rs d k []):∀{n:kj},Dst ks st (n+1) x->x∈rs\1:=by
 let k1:=PZ λc=>(nomatch (h.edge st).mpr (.inl %[c|rfl]))
 let:∀n x,Dst ks st (n+1) x->x∈rs.map _:=λn=>by
  induction n with
  | zero=>show λx g=>(h.all 1 x (Zi _) k1 g).1
  | succ n a=>
    intro x g;let%[y,b|e]:=g.last;let q:=a y b;let l:=h.le y q;let ne:d y≠k:=λc=>(nomatch (h.edge y).mpr (.inr %[k1,q|c]))
    show(h.all _ x ⋯ ⋯ ((h.dst q).2.app e.dst)).1
 show λ{n}=>this n x
def Lev.step(h:Lev ks st rs d k F)(nd:((rs++new)\1).Nodup)(G:∀r∈new,r.2.2∈ks/\∃p z,p∈F/\r.2.2=[p,r.1,z])
 (v:∀x∈F,∀y,Ed ks x y->y∈(rs++new)\1):Lev ks st (rs++new) (λx=>if x∈new\1 then k+1 else d x) (k+1) (new\1):=by
 let o:=nd;rw[Zd,Yy]at o;let f:∀{x},x∈rs\1->x∉new\1:=λ{x} a b=>o.2.2 x a x b rfl
 let mem:∀{x},x∈(rs++new)\1↔x∈rs\1\/x∈new\1:=λ{x}=>by rw[Zd,Yr]
 let w:∀x∈(rs++new)\1,(if x∈new\1 then k+1 else d x)<=k+1:=λx l=>by
  by_cases c:x∈new\1
  .rw[md c];show Zi _
  .rw[kw c];let:=h.le x ((mem.mp l).resolve_right c);lia
 show%[nd,λr H=>?_,w,λx=>?_|λn x n1 N g=>?_]
 .rcases Xk H with q|q
  .let%[u,p,z,e|g]:=h.by_ r q;show%[u,p,z,e|?_];rw[kw (f (Xn %[r,q|rfl]))];show g.imp_right λ⟨a,b,c⟩=>%[a,mem.mpr (.inl b)|?_]
   rw[kw (f b)];show c
  .let%[u,p,z,I|e]:=G r q;let A:r.1∈new\1:=Xn %[r,q|rfl];show%[u,p,z,e|?_];rw[md A];rcases(h.edge p).mp I with⟨rfl,rfl⟩|⟨k1,b,c⟩
   .show .inl %[rfl|rfl]
   .show .inr %[λps=>?_,mem.mpr (.inl b)|by rw[kw (f b),c]];let:Ed ks st r.1:=%[z|by rw[<-ps,<-e];show u]
    show f (h.all 1 _ (Zi _) k1 this.dst).1 A
 .show%[λl=> .inr %[⋯,mem.mpr (.inr l)|md l]|λl=>?_];rcases l with⟨a,_⟩|⟨_,a,b⟩
  .lia
  .show(mem.mp a).resolve_left λc=>?_
   rw[kw (f c)]at b;let:=h.le x c
   lia
 .let i:∀{m},1<=m->m<=k->Dst ks st m x->x∈(rs++new).map _/\(if x∈new.map _ then k+1 else d x)<=m:=λa b g=>by
   let%[s|B]:=h.all _ x a b g;show%[mem.mpr (.inl s)|by rw[kw (f s)];show B]
  by_cases c:n<=k
  .show i n1 c g
  .obtain rfl:n=k+1:=by lia
   let j:x∈(rs++new).map _->x∈(rs++new).map _/\(if x∈new.map _ then k+1 else d x)<=k+1:=λa=>%[a|w x a]
   let%[y,C|e]:=g.last;by_cases J:k=0
   .subst J;let%[us,L,_|E]:=C;rw[xl.mp L]at E;show j (v y ((h.edge y).mpr (.inl %[rfl|(E).symm])) x e)
   .let%[s|B]:=h.all k y ⋯ (Zi _) C;by_cases M:d y=k
    .show j (v y ((h.edge y).mpr (.inr %[⋯,s|M])) x e)
    .show j (i ⋯ ⋯ ((h.dst s).2.app e.dst)).1
end
structure Sho (ks:hH _) (a b:lx) (us:hH _):Prop where
 sub:∀k∈us,k∈ks
 wal:Wal us a b
 pos:0< ~~~us
 min:∀n,Dst ks a (n+1) b-> ~~~us<=n+1
def Sho.dst(h:Sho ks a b us):∃n,~~~us=n+1/\Dst ks a (n+1) b:=
 %[~~~us-1,by let:=h.pos;lia,us,by let:=h.pos;lia,h.sub|h.wal]
def Sho.rch(h:Sho ks a b us):Rch ks a b:=by
 let%[n,_|d]:=h.dst;show d.rch
def yi{U:ZB}(h:∀x∈U,∃y∈U,Ed ks x y)(nr:∀x,¬ Rch ks x x){x:lx}(i:x∈U):KZ:=by
 let:∀n,∃a p,~~~p=n/\(a::p).Nodup/\(∀y∈a::p,y∈U)/\∀y∈p,Rch ks y a:=λn=>by
  induction n with
  | zero=>show%[x,[],ρ,by simp,↑i|λ_ h=>(nomatch h)]
  | succ n j=>
    let%[a,p,l,nd,d|r]:=j;let%[b,m|e]:=h a (d a Zm);let g:∀y∈a::p,Rch ks y b:=λy f=>by
     rcases Yu.mp f with rfl|q
     .show .one e
     .show .more (r y q) e
    show%[b,a::p,!2,Mi.mpr %[λc=>nr b (g b c)|nd],λy f=>?_|g];rcases Yu.mp f with rfl|q
    .show m
    .show d y q
 let%[a,p,l,nd,d|_]:=this U.length;let:=_ST.nodup_sub nd d;rw[Zr]at this
 lia
abbrev Let(rows:ZB)(c:kj):Prop:=c≠46/\∃r∈rows,c∈r.cps.toList
abbrev yj(rows:ZB)(a b:kj):Prop:=a≠46/\a≠b/\∃(i j:kj) (r c:lx),rows[i]?∣r/\rows[i+1]?∣c/\r.cps[j]?∣a/\c.cps[j]?∣b
def eZ:c∈cL rows↔Let rows c:=by
 unfold cL Let;rw[on,vA,Qr,K9]
 constructor
 .rintro⟨⟨l,e,b⟩,a⟩;let%[r,d|rfl]:=Xm e;show%[a,r,d|b]
 .rintro⟨a,r,d,b⟩;show%[%[_,Xn %[r,d|ρ]|b]|a]
abbrev zh(rows d:ZB):Prop:=(∀c,Let rows c↔Let d c)/\∀a b,yj rows a b↔yj d a b
abbrev St(a:ri)(c d:pp):Prop:=c<=d+(if a=iv then 1 else 0)/\d<=c+(if a=iv then 1 else 2)
abbrev sg(a s:pp):kj:=if a<0 then 46 else 97+((a*5+s)%26).toNat
abbrev KK(a:hH ZL)(b:pp)(k:kj):lx:=⟨(a.map λc=>sg (c.getD k 0) b).toArray⟩
abbrev drawn(a:hH ZL)(hi:kj)(b:pp):ZB:=(q7 hi).map (KK a b)
abbrev there(b:hH ZL):ZL:=((q7 8).filter λa:kj=>b.any λc=>decide ((a:pp)∈c)).map λa:kj=>a
abbrev qC(rows:ZB):Prop:=∃m:hH _,~~~m<=26/\∀a b,yj rows a b->[sgn a,sgn b]∈m
end _CU
namespace _KK
open PySem _LL _CU
nonrec abbrev ZqS:=VN
nonrec def zqn:Lean.Name->oT ZqS->ZqS:= .node .none
nonrec def zqa:LF->ZqS:= .atom .none
nonrec def zqi(s:LF):ZqS:=Lean.mkIdent s.toName
nonrec def zqh:ZqS:=zqn `Lean.Parser.Term.hole #[zqa "_"]
nonrec def zqf(k:kj)(b:ZqS):ZqS:=zqn `Lean.Parser.Term.fun #[zqa "fun",zqn `Lean.Parser.Term.basicFun #[zqn `null (TV k zqh),zqn `null #[],zqa "=>",b]]
nonrec def zqd(c:Char):ZqS:=VN.mkNumLit (toString (c.toNat-48))
nonrec def zqe(a:oT ZqS)(x:LF):ZqS:=if x="r"then zqi "rfl"else if x="n"then a[0]! else if x="h"then a.back! else if x="_"then zqh else if x="f"then zqf 2 (zqi "rfl") else if x="g"then zqf 1 (zqi "rfl") else if ~~~x>1 then zqi x else zqn `Lean.Parser.Term.namedArgument #[zqa "(",zqi x,zqa ":=",zqi x,zqa ")"]
nonrec def zqx(r:oT ZqS):ZqS:=if r[0]!.isAtom then(if r[0]!.getAtomVal=""then zqf 3 r[1]! else r[1]!)else if r.size<2 then r[0]! else zqn `Lean.Parser.Term.app #[r[0]!,zqn `null (r.extract 1 r.size)]
nonrec def zqp(s t:LF):kj:=(s.splitOn t).head!.length
nonrec def zqs(t:LF)(a:oT ZqS)(l:hH Char)(k:hH (hH LF×oT ZqS)):hH Char×hH (hH LF×oT ZqS):=
 let f:=k.head!
 let k:=k.tail
 let x:=f.1.headD ""
 let w:=f.1.tail
 let c:=l.headD ' '
 if f.1.isEmpty then(l,(k.head!.1,k.head!.2.push (zqx f.2))::k.tail)
 else if x="#"then(l.tail,(w,f.2.push (zqd c))::k)
 else if x="L"then(l,(["*"],#[zqa ""])::(w,f.2)::k)
 else if x="*"then
  if c.isDigit then(l.tail,(["r"],#[zqi "af",zqd c])::(w,f.2)::k)
  else if c='?'then(l.drop 2,(w,f.2.push a[l[1]!.toNat-48]!)::k)
  else
   let p:=zqp "~]`" c.toString
   let q:=if p<3 then 1 else 0
   let s:=((t.splitOn "|")[(74+84*p)*q+zqp "ABCDEFGHIJKLMNOPQRSTUVWXYZabcdefghijklmnopqrstuvwxyz!$%&'()*+,./:;<=>^_|}[0123456789" l[q]!.toString]!).splitOn " "
   (l.drop (q+1),(s.tail,#[zqi s.head!])::(w,f.2)::k)
 else(l,(w,f.2.push (zqe a x))::k)
nonrec def zqt(t:LF)(a:oT ZqS)(l:hH Char):kj->ZqS
 |n=>(n.fold (λ_ _ s=>if ~~~s.2=1&&s.2.head!.1.isEmpty then s else zqs t a s.1 s.2) (l,[(["*"],#[zqa "1"])])).2.head!.2[1]!
nonrec def zqm(s:Lean.StrLit)(a:oT Lean.Term):Lean.MacroM Lean.Term:=
 return⟨zqt "paE r * *|ak|ai * *|av|ap *|opE * * *|aH # n r *|aJ * h r *|aL *|aG # n r|QSs.h *|gsE r * *|ifS * * *|bv * r * *|aP|bX K r f * *|bJ Op r r * * *|bI *|cB # r|cG K r *|cK|c9 K r f * *|bR h f * *|bW|dB K r g *|bC r *|bo|aG # * r|cz|eJ *|cbO * T.a8 PySem.boot_len r *|dm K r|c7|aD.of *|eBl|eO K r r r *|fZ *|wT *|a7|iX * r * *|dW * r r * L L L|bmO K Ng PySem.F.slot_list_append PySem.F.type_list_append * r * *|eF h r * * *|af # r|Z1|Z0|orW * *|cbO * T.ae VW r *|gx K r|kH *|gj|dO|eK|i7 r T.ak r *|og|i8 *|qu * *|jO|tQ *|cbO * T.a7 boot_sorted r *|iq|ctO * T.a5 O8 r *|tR # n r * * r *|ir K r|qt|j6|xD * *|oa *|oO h|oP * T.o_Ground h r r *|gvE T.ao r r|Ax|AE f * *|Aw|cbO * T.a0 boot_min r *|dz T|gvE T.aw r r|ctO * T.a6 boot_set r *|vg|pjE * *|cT T|dQ T|oM Op * *|gvE T.ap r r|bmO K Ob Wc type_dict_get * r * *|vW|kT h r * *|FH|bmO K V6 slot_str_join type_str_join * r * *|tU K r|vh K r r T.af r *|FX K r r * *|kI # n r * * r * r r * L L L|tT|zo *|cbE * r T.ae VW r r r *|y8 K r|ctO * T.ai Wa r *|Cz|Cv r T.ak r r *|iG T|xC * * r * * *|cbO * T.ab boot_all r *|Cy K r r|Jr *|CG K w r r r|DO|Jp K r * * *|Cw *|noO|bmO K Ng slot_list_extend type_list_extend * r * *|oh|IE *|IY h r * *|vf # n r * *|iH T|IX K r r *|Io *|eL T|ee T|Jy K r Ng PySem.F.slot_list_append PySem.F.type_list_append * r r r r * *|bmO K Ob TZ PySem.F.type_dict_setdefault * r * *|iC|dj T|eM T|Ip r r r * *|Jq K r r r *|C0 T.g_Torn_ring r *|Jo * *|orV * *|GT|gvE T.ar r r|GS|GI r T.ag r r *|oK w r r|bmO K V6 PySem.F.slot_str_split PySem.F.type_str_split * r * *|yW|lE T|mr T|GN K r r T.ag r r *|rV P w r r r|Dj K P w r r r r h|CZ *|CY|fX T|Dq r|cbO * T.a1 V0 r *|hZ T|FG K r Ob Vw PySem.F.type_dict_values * r r *|vU|sT T|jv T|zL T|iW T|GF r|yV K r|GU h|GO * T.o_Ground h r *|wu T|qh T|B T|GP h|uC T|Ir|vf # * r * *|gvE T.av r r|gvE T.au r r|DX T|pE T|kh T|gvE T.aq r r|KA K r|gvE T.az r r|gvE T.aA r r|Kq K r T.t_LAYER_WORDS r r|Kq K r T.t_YEAR_WORDS r r|Bs T|Br T|DY T|gvE T.ax r r|pK T|gvE T.ay r r|wo T|Bp T|AV K r|yw T|uD T|wt T|ny T|AX K r|GR|pL T|lM T|q_in K r|Bn T|bmO K Ob PySem.F.slot_dict_update PySem.F.type_dict_update * r * *|DL|ww T|AW r|Bu T|Iq|IZ r|nB T|F1 r|qJ T|yD T|Dw r r T.a9 r T.a5 r *|wG T|Ek T|kr T|Ja K r r|bmO K Ng PySem.F.slot_list_remove PySem.F.type_list_remove * r * *|Du|Jg w r|uL T|pW T|Kb|IF b.ex *|ID * h r r r r *|C_Torn T|wN T|yz T|yA T|pZ T|Kw K r r T.a1 r r * *|anyI K r *|IV|yF T|AT r|Bk r|Bx T|DH h|Ku h|qc T|Jj K r r|qN T|FG K r Ng PySem.F.slot_list_clear PySem.F.type_list_clear * r r *|FI|Js|Kc r|KJ K r|uO T|wQ T|wV T|qM T|qa T|qg T|By T|ctO * T.an boot_dict r *|Gb|FG K r Ob PySem.F.slot_dict_clear PySem.F.type_dict_clear * r r *|DQ" (a.map (·.raw)) s.getString.toList 9999⟩
nonrec abbrev ZM:=hH V
nonrec abbrev ZN:=hH (kG×hH V)
local macro_rules|`(%[$s:str,$x,*|$y])=>zqm s (x.getElems.push y)|`(%[$s:str|$y])=>zqm s #[y]
local macro_rules|`(tactic|lk)=>do
 let x<-("aU BG jZ jH mE qo kA BT tB EH tOr G8 BF Hh tOp tUn tC G3 G4 tCB qT xt yL HI HJ xf tBM Fe tSl B5 tE Fu rI rI0 rU Ib Ie rEq rNe Cn Cm Co Fg HW HN HP HQ FC Ih yU yT xE xw tM EQ BJ Hq GG GH Kz KC GM yN yO HE HF Ix jM HZ tN xx xy Cd Dr Dt Jb ut Je DD vY rIn HU tL yS BN BO FD KB JL JM JN JO GZ G0 G1 KD KF".splitOn " ").toArray.mapM λs=>`(Lean.Parser.Tactic.simpLemma|↓$(Lean.mkIdent s.toName):ident)
 let y<-("ot EV BV HB cond_true cond_false List.getElem?_cons_zero List.getElem?_cons_succ List.set_cons_zero List.set_cons_succ Option.some.injEq V.int.injEq V.str.injEq V.bl.injEq V.ref.injEq V.ty.injEq List.cons.injEq reduceCtorEq and_true true_and and_false false_and or_false false_or or_true true_or exists_false exists_eq_left' exists_eq_left exists_eq_right exists_eq_right' exists_and_left exists_and_right exists_eq cons_append nil_append exists_const and_assoc Int.zero_add Bool.not_true Bool.not_false Zz if_true if_false eq_self".splitOn " ").toArray.mapM λs=>`(Lean.Parser.Tactic.simpLemma|$(Lean.mkIdent s.toName):ident)
 `(tactic|simp only[$(x++y),*])
local macro_rules|`(!$n:ident)=>`(some (V.ref $n))
local macro_rules|`(-$n:ident)=>`(some (V.str $n))
local macro_rules|`(#[$n:num])=>`((show $n≤sizeLine by decide))|`(#[$x])=>`(paE rfl $x ak)|`(#[$x,$y,*])=>`(paE rfl $x #[$y,*])
local macro_rules|`(tactic|walk)=>`(tactic|refine⟨rfl,rfl,rfl,?_,rfl,?_,?_⟩<;>decide +kernel)
def zq0{P:List Value->Prop}(h:P []):∀u,~~~u=0->P u:=λu e=>by rw[List.length_eq_zero_iff.mp e];show h
def zq1{n:Nat}{P:List Value->Prop}(h:∀a,∀u,~~~u=n->P (a::u)):∀u,~~~u=n+1->P u:=λu e=>by
 cases u with
 |nil=>cases e
 |cons a u=>show h a u (Nat.succ.inj e)
local macro_rules|`(tactic|room)=>`(tactic|(intro _ _ _ _ _ _;(repeat(refine zq1 λ_=>?_));exact zq0 rfl))
set_option hygiene false in
local macro_rules|`(↑$n:num)=>`(af $n rfl)|`(↑($x,$y))=>`(show bH _ _ _ $x $y=true from rfl)|`(↑[$x,*])=>`(show([$x,*]:ZB).Nodup from by decide)
set_option hygiene false in
local macro_rules|`($a>>$b)=>`(c9 (K:=K) rfl (λ_ _=>rfl) $a $b)
set_option hygiene false in
local macro_rules|`(↥$n:num)=>`(Cal P w K mg base $n)
abbrev top(i:kj):I0:=PySem.Challenge.pw_digbook_k52_levels_told.main.body.getD i (.Pass %[0,0,0|0])
noncomputable section
nonrec abbrev gX:I0:=top 1
def bh:ar ["ground","names","layer","word","one","other"] ["ground"] (am gX):=by walk
nonrec abbrev iP:I0:=top 2
def d7:ar ["names","one","other","first","second"] ["names","one","other"] (am iP):=by walk
nonrec abbrev fO:I0:=top 3
def eN:ar ["names","layer"] ["names","layer"] (am fO):=by walk
nonrec abbrev oX:I0:=top 4
def gC:ar ["ground","names","groups","layer"] ["ground"] (am oX):=by walk
nonrec abbrev iQ:I0:=top 5
def mf:ar ["ground"] ["ground"] (am iQ):=by walk
nonrec abbrev zw:I0:=top 6
def wb:ar ["ground","names"] ["ground"] (am zw):=by walk
nonrec abbrev gY:I0:=top 19
def kU:ar ["found"] ["found"] (am gY):=by walk
nonrec abbrev fP:I0:=top 20
def jI:ar ["found"] ["found"] (am fP):=by walk
nonrec abbrev r9:I0:=top 21
def kf:ar ["found","side","groups","link"] ["found","side"] (am r9):=by walk
nonrec abbrev jd:I0:=top 22
def a8:ar ["names","found","beneath","above","waits","name","ready","laid","least","link"] ["names","found"] (am jd):=by walk
nonrec abbrev je:I0:=top 23
def dA:ar ["beneath","start","goal","reached","edge"] ["beneath","start","goal"] (am je):=by walk
nonrec abbrev mR:I0:=top 24
def eP:ar ["beneath","edge","reached","further","name","link"] ["beneath","edge","reached"] (am mR):=by walk
nonrec abbrev wc:I0:=top 25
def sd:ar ["reached","start","goal","way"] ["reached","start","goal"] (am wc):=by walk
nonrec abbrev jQ:I0:=top 26
def DR:ar ["names","found","beneath","reach","name","link"] ["names","found"] (am jQ):=by walk
nonrec abbrev iR:I0:=top 28
def bU:ar ["names","found","beneath","shortest","name","way"] ["names","found"] (am iR):=by walk
nonrec abbrev kW:I0:=top 29
def qD:ar ["names","found"] ["names","found"] (am kW):=by walk
nonrec abbrev jf:I0:=top 30
def cb:ar ["ground","found","torn_by"] ["ground"] (am jf):=by walk
nonrec abbrev jh:I0:=top 32
def BA:ar ["ground","found"] ["ground"] (am jh):=by walk
nonrec abbrev jj:I0:=top 34
def iS:ar ["ground","beneath","reach","pairs","later","steps"] ["ground"] (am jj):=by walk
nonrec abbrev jR:I0:=top 35
def DS:ar ["reach","steps","earlier"] ["reach","steps","earlier"] (am jR):=by walk
nonrec abbrev we:I0:=top 36
def d8:ar ["ground","found","beneath","told","name"] ["ground"] (am we):=by walk
nonrec abbrev sf:I0:=top 43
def yk:ar ["thing"] ["thing"] (am sf):=by walk
nonrec abbrev si:I0:=top 44
def iF:ar ["text","rows","number","row"] ["text"] (am si):=by walk
nonrec abbrev wg:I0:=top 45
def Bl:ar ["row"] ["row"] (am wg):=by walk
nonrec abbrev jk:I0:=top 46
def np:ar ["row","above"] ["row","above"] (am jk):=by walk
nonrec abbrev kX:I0:=top 47
def qF:ar ["rows"] ["rows"] (am kX):=by walk
nonrec abbrev sj:I0:=top 48
def yo:ar ["text"] ["text"] (am sj):=by walk
nonrec abbrev oY:I0:=top 49
def eG:ar ["text","rows","pairs","above","row"] ["text"] (am oY):=by walk
nonrec abbrev fQ:I0:=top 50
def jJ:ar ["above","row"] ["above","row"] (am fQ):=by walk
nonrec abbrev kY:I0:=top 59
def eB:ar ["cuts","names","number","thing"] ["cuts"] (am kY):=by walk
nonrec abbrev jm:I0:=top 60
def nq:ar ["thing"] ["thing"] (am jm):=by walk
nonrec abbrev wj:I0:=top 61
def Bm:ar ["thing"] ["thing"] (am wj):=by walk
nonrec abbrev iT:I0:=top 62
def d9:ar ["sayings","layers","number","thing"] ["sayings","layers"] (am iT):=by walk
nonrec abbrev mS:I0:=top 63
def uA:ar ["thing","layers"] ["thing","layers"] (am mS):=by walk
nonrec abbrev iU:I0:=top 64
def mj:ar ["thing","texts"] ["thing","texts"] (am iU):=by walk
nonrec abbrev sk:I0:=top 65
def yp:ar ["thing"] ["thing"] (am sk):=by walk
nonrec abbrev kZ:I0:=top 66
def qG:ar ["name","letter"] ["name","letter"] (am kZ):=by walk
nonrec abbrev mT:I0:=top 67
def eQ:ar ["cuts","layers","name","text"] ["cuts"] (am mT):=by walk
nonrec abbrev jn:I0:=top 68
def cc:ar ["cuts","ties","name","text","upper","lower"] ["cuts"] (am jn):=by walk
nonrec abbrev gE:I0:=top 69
def cN:ar ["sayings","ties","number","saying"] ["sayings"] (am gE):=by walk
nonrec abbrev jS:I0:=top 71
def oZ:ar ["_law_script","_law_k"] ["_law_script","_law_k"] (am jS):=by walk
nonrec abbrev lc:I0:=top 72
def cV:ar ["_law_cell","_law_k","_law_number","_law_found","_law_j"] ["_law_cell","_law_k"] (am lc):=by walk
nonrec abbrev lh:I0:=top 73
def bS:ar ["_law_script","_law_k","_law_base","_law_many","_law_cell","_law_mixed_one","_law_digits_here","_law_turn"] ["_law_script","_law_k","_law_base","_law_many"] (am lh):=by walk
nonrec abbrev li:I0:=top 74
def qH:ar ["_law_rank","_law_way"] ["_law_rank","_law_way"] (am li):=by walk
nonrec abbrev sr:I0:=top 75
def cp:ar ["_law_digits_here","_law_way","_law_wide","_law_high","_law_columns","_law_j","_law_air","_law_rank","_law_column","_law_k"] ["_law_digits_here","_law_way"] (am sr):=by walk
nonrec abbrev mU:I0:=top 76
def eR:ar ["_law_name","_law_way","_law_rows","_law_ranks_here","_law_rank","_law_letter_here"] ["_law_name","_law_way","_law_rows"] (am mU):=by walk
nonrec abbrev pc:I0:=top 77
def dc:ar ["_law_script","_law_head","_law_cuts_here","_law_ranks_here","_law_k","_law_name","_law_rows"] ["_law_script"] (am pc):=by walk
nonrec abbrev sw:I0:=top 78
def yq:ar ["_law_one","_law_other","_law_ranks_here"] ["_law_one","_law_other","_law_ranks_here"] (am sw):=by walk
nonrec abbrev pd:I0:=top 79
def cI:ar ["_law_digits_here","_law_ranks_here","_law_torn","_law_wild","_law_names","_law_one","_law_other","_law_saying","_law_alike","_law_year"] ["_law_digits_here","_law_ranks_here","_law_torn","_law_wild"] (am pd):=by walk
nonrec abbrev mV:I0:=top 80
def bi:ar ["_law_script","_law_ways","_law_cuts_here","_law_beds","_law_k","_law_name","_law_signs","_law_sayings","_law_digits_here","_law_year"] ["_law_script"] (am mV):=by walk
nonrec abbrev lj:I0:=top 81
def cq:ar ["_law_script","_law_cuts_here","_law_ranks_here","_law_sayings","_law_torn","_law_wild","_law_k"] ["_law_script"] (am lj):=by walk
nonrec abbrev jo:I0:=top 82
def cf:ar ["_law_name","_law_text","_law_rows","_law_ties_here","_law_upper","_law_lower","_law_k"] ["_law_name","_law_text"] (am jo):=by walk
nonrec abbrev pf:I0:=top 83
def df:ar ["_law_cuts_here","_law_sayings","_law_ties_here","_law_name","_law_text","_law_number","_law_saying"] ["_law_cuts_here","_law_sayings"] (am pf):=by walk
nonrec abbrev mW:I0:=top 84
def bj:ar ["_law_cuts_here","_law_sayings","_law_homes_here","_law_name","_law_text","_law_sign","_law_pairs","_law_turn","_law_word","_law_one","_law_other","_law_least"] ["_law_cuts_here","_law_sayings"] (am mW):=by walk
nonrec abbrev mX:I0:=top 85
def dP:ar ["_law_cuts_here","_law_sayings","_law_homes_here","_law_laid","_law_one","_law_other","_law_source"] ["_law_cuts_here","_law_sayings","_law_homes_here"] (am mX):=by walk
nonrec abbrev sA:I0:=top 86
def bq:ar ["_law_laid","_law_one","_law_steps","_law_later","_law_earlier","_law_source","_law_far_here","_law_row","_law_many","_law_ahead","_law_deposit","_law_other"] ["_law_laid","_law_one"] (am sA):=by walk
nonrec abbrev jT:I0:=top 87
def fS:ar ["_law_laid","_law_homes_here","_law_beneath_here","_law_deposit"] ["_law_laid","_law_homes_here"] (am jT):=by walk
nonrec abbrev jp:I0:=top 88
def nu:ar ["_law_beneath_here"] ["_law_beneath_here"] (am jp):=by walk
nonrec abbrev jq:I0:=top 89
def cg:ar ["_law_found","_law_laid","_law_one","_law_other","_law_here","_law_later","_law_earlier","_law_source"] ["_law_found","_law_laid","_law_one","_law_other"] (am jq):=by walk
nonrec abbrev jU:I0:=top 90
def jr:ar ["_law_refused","_law_laid","_law_beneath_here","_law_told_ring"] ["_law_refused","_law_laid","_law_beneath_here"] (am jU):=by walk
nonrec abbrev sE:I0:=top 91
def dC:ar ["_law_laid","_law_beneath_here","_law_high","_law_deposit","_law_turn","_law_later","_law_earlier","_law_source"] ["_law_laid","_law_beneath_here"] (am sE):=by walk
nonrec abbrev ph:I0:=top 92
def gF:ar ["_law_ground_here","_law_told_here","_law_refused","e"] ["_law_ground_here"] (am ph):=by walk
nonrec abbrev mY:I0:=top 93
def lq:ar ["_law_told_here","_law_due_here","_law_deposit"] ["_law_told_here","_law_due_here"] (am mY):=by walk
nonrec abbrev jt:I0:=top 94
def cR:ar ["_law_ground_here","_law_laid","_law_beneath_here","_law_asked","_law_refused","e"] ["_law_ground_here","_law_laid","_law_beneath_here"] (am jt):=by walk
nonrec abbrev lz:I0:=top 95
def du:ar ["_law_script","_law_cuts_here","_law_sayings","_law_ground_here","_law_beside","_law_kept","_law_one","_law_some","_law_homes_here","_law_laid","_law_beneath_here","_law_told_here","_law_refused","_law_as_told"] ["_law_script"] (am lz):=by walk
nonrec abbrev cn:I0:=jx (top 58) 0
def fT:ar ["self","cuts","sayings","layers"] ["self","cuts","sayings"] (am cn):=by walk
nonrec abbrev qI:I0:=jx (top 58) 1
def DT:ar ["self"] ["self"] (am qI):=by walk
nonrec abbrev cD:I0:=jx (top 58) 2
def lA:ar ["self"] ["self"] (am cD):=by walk
nonrec abbrev cS:I0:=jx (top 58) 3
def mo:ar ["self"] ["self"] (am cS):=by walk
nonrec abbrev dw:I0:=jx (top 58) 4
def pi:ar ["self"] ["self"] (am dw):=by walk
nonrec abbrev eI:I0:=jx (top 11) 0
end
def uB:ar ["self","ring"] ["self","ring"] (am eI):=by walk
inductive pj (K:ZA)
 | mk (a:kG) (ns:ZL) (k:pp):vs=[.ref a,.int k]->Qc K H a (ns\4)->0<=k->Q (.int (ns.getD k.toNat 0)) H->pj K vs H Q E0
inductive sF
 | mk (c k:pp):vs=[.int c,.int k]->0<=k->k<=100->(∀v,Q (.int v) H)->sF vs H Q E0
inductive sG (K:ZA)
 | mk (a:kG) (ns:ZL) (k b m:pp):vs=[.ref a,.int k,.int b,.int m]->Qc K H a (ns\4)->0<=k->k<=100->2<=b->b<=1000->0<=m->m<=100->(∀l H' (xs:ZL),ah H H'->H l=hX->H' l<*xs\4-> ~~~xs=m.toNat->(∀x∈xs,0<=x/\x<b)->Q (.ref l) H')->sG K vs H Q E0
structure Txc (K:ZA) (mg:ZC):Prop where
 c_Torn:mg "Torn"=hY (.ref (aC mg "Torn"))
 c_DigError:mg "DigError"=hY (.ref (aC mg "DigError"))
 c_NoCut:mg "NoCut"=hY (.ref (aC mg "NoCut"))
 c_NoSaying:mg "NoSaying"=hY (.ref (aC mg "NoSaying"))
 c_NoGround:mg "NoGround"=hY (.ref (aC mg "NoGround"))
 c_NoLayer:mg "NoLayer"=hY (.ref (aC mg "NoLayer"))
 c_NoRow:mg "NoRow"=hY (.ref (aC mg "NoRow"))
 c_NoDeed:mg "NoDeed"=hY (.ref (aC mg "NoDeed"))
 x_Torn:CW K mg "Torn" "Torn.__init__" eI ["self","ring"]
 f_Torn_ring:Iw K (aC mg "Torn") "ring"
 g_Torn_ring:FN K (aC mg "Torn") "ring"
 u_Torn_NoCut:PH K (.ref (aC mg "Torn")) (.ref (aC mg "NoCut"))∣jg
 u_Torn:PH K (.ref (aC mg "Torn")) (.ref (aC mg "DigError"))∣iv
 k_Torn_any0:Tf K (.ref (aC mg "Torn")) (([(aC mg "NoCut"),(aC mg "NoGround"),(aC mg "NoSaying")]).map m4)∣jg
 k_Torn_any1:Tf K (.ref (aC mg "Torn")) (([(aC mg "NoDeed"),(aC mg "NoRow"),(aC mg "NoLayer")]).map m4)∣jg
 k_Torn_Torn:OE K (.ref (aC mg "Torn")) (.ref (aC mg "Torn"))∣iv
 k_Torn_ValueError:OE K (.ref (aC mg "Torn")) (.type "ValueError")∣iv
 i_DigError:CO K (aC mg "DigError")
 t_NoCut:Cat K (aC mg "NoCut")
 t_DigError:Cat K (aC mg "DigError")
 o_Ground:vR K mg "Ground"
 n_Ground_kept_cuts:gJ K (aC mg "Ground") "kept_cuts"
 n_Ground_kept_sayings:gJ K (aC mg "Ground") "kept_sayings"
 n_Ground_kept_layers:gJ K (aC mg "Ground") "kept_layers"
 n_Ground_kept_ties:gJ K (aC mg "Ground") "kept_ties"
 i_Ground:Dm K mg "Ground" "Ground.__init__" cn ["self","cuts","sayings"]
 m_Ground_sayings:vS K mg "Ground" "sayings" "Ground.sayings" cD ["self"]
 m_Ground_layers:vS K mg "Ground" "layers" "Ground.layers" cS ["self"]
 m_Ground_ties:vS K mg "Ground" "ties" "Ground.ties" dw ["self"]
 t_YEAR_WORDS:GvT K mg "YEAR_WORDS" [.str "since",.str "by"]
 t_LAYER_WORDS:GvT K mg "LAYER_WORDS" [.str "later",.str "same"]
structure Txt (K:ZA) (mg:ZC):Prop extends Txc K mg where
 a0:mg "min"=hX
 a1:mg "max"=hX
 a5:mg "list"=hX
 a6:mg "set"=hX
 a7:mg "sorted"=hX
 a8:mg "len"=hX
 a9:mg "reversed"=hX
 aa:mg "any"=hX
 ab:mg "all"=hX
 ac:mg "str"=hX
 ae:mg "isinstance"=hX
 af:mg "enumerate"=hX
 ag:mg "zip"=hX
 ah:mg "tuple"=hX
 ai:mg "int"=hX
 aj:mg "bool"=hX
 ak:mg "range"=hX
 am:mg "ValueError"=hX
 an:mg "dict"=hX
 ao:Gv mg "LATER" (.int 0)
 ap:Gv mg "EARLIER" (.int 1)
 aq:Gv mg "LONGEST_NAME" (.int 8)
 ar:Gv mg "LETTERS" (.str "abcdefghijklmnopqrstuvwxyz")
 au:Gv mg "MOST_ROWS" (.int 40)
 av:Gv mg "MOST_SIGNS" (.int 40)
 aw:Gv mg "AIR" (.str ".")
 ax:Gv mg "MOST_CUTS" (.int 8)
 ay:Gv mg "MOST_SAYINGS" (.int 60)
 az:Gv mg "FIRST_YEAR" (.int (-9999))
 aA:Gv mg "LAST_YEAR" (.int 9999)
 aB:aE K mg "names_by_layer" gX ["ground"]
 aC:aE K mg "join_deposits" iP ["names","one","other"]
 aD:aE K mg "least_pointed_to" fO ["names","layer"]
 aF:aE K mg "deposits" oX ["ground"]
 aG:aE K mg "deposit_names" iQ ["ground"]
 aH:aE K mg "links" zw ["ground"]
 aI:aE K mg "links_by_later" gY ["found"]
 aJ:aE K mg "links_by_earlier" fP ["found"]
 aK:aE K mg "grouped" r9 ["found","side"]
 aL:aE K mg "laid_in_turn" jd ["names","found"]
 aM:aE K mg "shortest_way" je ["beneath","start","goal"]
 aN:aE K mg "next_edge" mR ["beneath","edge","reached"]
 aO:aE K mg "way_to" wc ["reached","start","goal"]
 aP:aE K mg "all_beneath" jQ ["names","found"]
 aQ:aE K mg "shortest_ring" iR ["names","found"]
 aR:aE K mg "never_laid" kW ["names","found"]
 aS:aE K mg "untorn_links" jf ["ground"]
 aT:aE K mg "earlier_ones" jh ["ground"]
 aU:aE K mg "direct_pairs" jj ["ground"]
 aV:aE K mg "is_replaced" jR ["reach","steps","earlier"]
 aW:aE K mg "levels" we ["ground"]
 aX:aE K mg "is_name" sf ["thing"]
 aY:aE K mg "rows_of" si ["text"]
 aZ:aE K mg "is_row" wg ["row"]
 b0:aE K mg "lies_beneath" jk ["row","above"]
 b1:aE K mg "letters_in" kX ["rows"]
 b2:aE K mg "letters" sj ["text"]
 b3:aE K mg "meetings" oY ["text"]
 b4:aE K mg "meetings_between" fQ ["above","row"]
 b5:aE K mg "check_cuts" kY ["cuts"]
 b6:aE K mg "is_named_cut" jm ["thing"]
 b7:aE K mg "is_cut" wj ["thing"]
 b8:aE K mg "check_sayings" iT ["sayings","layers"]
 b9:aE K mg "is_saying" mS ["thing","layers"]
 ba:aE K mg "is_text_among" iU ["thing","texts"]
 bb:aE K mg "is_year" sk ["thing"]
 bc:aE K mg "layer_name" kZ ["name","letter"]
 bd:aE K mg "layers_of" mT ["cuts"]
 be:aE K mg "ties_of_cuts" jn ["cuts"]
 bf:aE K mg "ties_of_sayings" gE ["sayings"]
 bg:aE K mg "_law_cell_at" jS ["_law_script","_law_k"]
 bh:aE K mg "_law_spread" lc ["_law_cell","_law_k"]
 bi:aE K mg "_law_digits" lh ["_law_script","_law_k","_law_base","_law_many"]
 bj:aE K mg "_law_letter" li ["_law_rank","_law_way"]
 bm:aE K mg "_law_cut" sr ["_law_digits_here","_law_way"]
 bn:aE K mg "_law_ranks" mU ["_law_name","_law_way","_law_rows"]
 bo:aE K mg "_law_cuts" pc ["_law_script"]
 bp:aE K mg "_law_tie" sw ["_law_one","_law_other","_law_ranks_here"]
 bq:aE K mg "_law_said" pd ["_law_digits_here","_law_ranks_here","_law_torn","_law_wild"]
 br:aE K mg "_law_tower" mV ["_law_script"]
 bt:aE K mg "_law_ground" lj ["_law_script"]
 bu:aE K mg "_law_cut_ties" jo ["_law_name","_law_text"]
 bv:aE K mg "_law_ties" pf ["_law_cuts_here","_law_sayings"]
 bw:aE K mg "_law_homes" mW ["_law_cuts_here","_law_sayings"]
 bx:aE K mg "_law_links" mX ["_law_cuts_here","_law_sayings","_law_homes_here"]
 bz:aE K mg "_law_far" sA ["_law_laid","_law_one"]
 bA:aE K mg "_law_beneath" jT ["_law_laid","_law_homes_here"]
 bB:aE K mg "_law_has_ring" jp ["_law_beneath_here"]
 bC:aE K mg "_law_is_chain" jq ["_law_found","_law_laid","_law_one","_law_other"]
 bD:aE K mg "_law_is_torn" jU ["_law_refused","_law_laid","_law_beneath_here"]
 bE:aE K mg "_law_due" sE ["_law_laid","_law_beneath_here"]
 bF:aE K mg "_law_told" ph ["_law_ground_here"]
 bG:aE K mg "_law_right" mY ["_law_told_here","_law_due_here"]
 bH:aE K mg "_law_all_torn" jt ["_law_ground_here","_law_laid","_law_beneath_here"]
section
variable{P:nX}{w:v0}{K:ZA}{mg:ZC}{base:yu}
def cE{n:kj}(h:n<=5000):n<=mv:=n7 h (!1)
def aB{n:kj}(h:n<=5000):n<mv:=P4 h (!1)
def ah.Qb{H:Hp}{p:kG}{o:HO}(h:H p=hX):ah H (Qb H p o):=λb u e=>by rw[ao (ax e h)];show e
def ah.set{H a:Hp}{p:kG}{o:HO}(c:ah H a)(h:H p=hX):ah H (_LL.Qb a p o):=λb u e=>by rw[ao (ax e h)];show c b u e
def KL{b:Type}(xs:hH b){i:pp}(d:0<=i)(e:i<(~~~xs:pp)):∃c,atI xs i∣c/\c∈xs:=by
 let%[j|rfl]:=Xf d;let a:j< ~~~xs:=by lia
 show%[xs[j],bG (by simp[a])|Yc a]
def lB(xs:ZL){i:pp}(b:0<=i)(d:i<(~~~xs:pp)):∃c,atI (xs\4) i∣V.int c/\c∈xs:=by
 let%[j|rfl]:=Xf b;let a:j< ~~~xs:=by lia
 show%[xs[j],bG (by simp[a])|Yc a]
def GV:(iw.cps.toList.length:pp)=26:=!0
def dz(T:Txt K mg):↥1 "_law_cell_at" ["_law_script","_law_k"] (pj K):=by
 .exists T.bg,oZ,g,m,%[a,c,k,rfl,d,i|q];show%[_,%["KCMN~N1efA0BEIP01OEID"|0]|?_]
  change aU _ _ _ [!a,hY (.int k)] H;lk;show%[_,.inl %[_,d|ρ]|bT (λb=>?_) λb=>?_]
  .let b:=Zo b;rw[Z6]at b;show%[_,d,.int (c.getD k.toNat 0),?_|q];let%[j|rfl]:=Xf i;let l:j< ~~~c:=by lia
   show bG (by simp[l])
  .let b: ¬ k<(~~~(c\4):pp):=↑b
   rw[Z6]at b;let e:c.getD k.toNat 0=0:=by
    rw[Zc,Xi ⋯];rfl
   rw[e]at q;show q
def uC(T:Txt K mg):↥1 "_law_spread" ["_law_cell","_law_k"] sF:=by
 .exists T.bh,cV,j,B,%[c,k,rfl,C,G|q];show%[_,%["KCG2FaFaFX0DF!D1DCG3DCQ$ADBJ4CG2FXFaFaFaFaF!22F!FaF!F!444D2F!D14DDEG3FaF!3DFXF;2DDEI3"|cV.nd]|?_]
  change aU _ _ _ [hY (.int c),hY (.int k),hX,hX,hX] H;show aj λI k1 _=>?_
  lk;show%[!1,.inl %[!1|!1]|k1 _ _ (aj λJ k2 _=>?_)];let d:0<=c%2147483647+977*k+5/\c%2147483647+977*k+5<2^40:=by lia -verbose
  generalize c%2147483647+977*k+5=n at d
  lk;show k2 _ _ (aj λL l _=>aw λe p=>?_);lk;show%[!1,!1|p _ _ (b7 (λi a b=>∃(n v:pp) (o:lX V),a=[hY (.int c),hY (.int k),hY (.int n),hY (.int v),o]/\b=H/\0<=n/\n<2^40) %[_,_,_,ρ,ρ|d] ?_ ?_)]
  .intro i a b hi %[n,v,o,rfl,rfl,r|n1];change aU _ _ _ [hY (.int c),hY (.int k),hY (.int n),hY (.int v),hY (.int (0+i))] _;rw[Nx];show aj λM u _=>?_
   lk;show%[.inl %[(by lia -verbose)|(by lia -verbose)],.inl %[(by lia -verbose)|(by lia -verbose)],.inr %[(by lia -verbose)|(by lia -verbose)],.inr %[(by lia -verbose)|(by lia -verbose)],.inl %[!1|!1],!1|u _ _ (az λN y _=>?_)];let g:=MD (n*n+(i*i*i+7)*n+104729*k+i+1) (by decide:(2147483629:pp)≠0);let z:=Od (n*n+(i*i*i+7)*n+104729*k+i+1) (by decide:(0:pp)<2147483629)
   generalize (n*n+((i:pp)*i*i+7)*n+104729*k+i+1)%2147483629=m at g z
   lk;show%[.inr %[!1|!1],%[!1|!1],!1|y _ _ %[m,_,_,ρ,ρ,g|(by lia -verbose)]]
  .intro a b %[n,v,o,rfl,rfl,r|n1];show l _ _ ?_;lk;show q v
def dQ(T:Txt K mg):↥2 "_law_digits" ["_law_script","_law_k","_law_base","_law_many"] (sG K):=by
 .exists T.bi,bS,U,u,%[a,n,k,b,m,rfl,I,J,k1,b2,b1,m0,m1|q];show%[_,%["KCG4H~BA0A1BCG5H]EA4A1BCMNgFXH~BA0ADBDDEG4DOCG6RBCQ$A3BJ7EMN|4DCZpm6AFX42BEG4F;42CZpm6AFX52BEG5F;52EI6",bS.nd|u]|?_]
  change aU _ _ _ [!a,hY (.int k),hY (.int b),hY (.int m),hX,hX,hX,hX] H;show aj λD1 k1 _=>?_
  lk;show%[a,n,k,ρ,I,J|k1 _ _ (aj λD2 k2 _=>?_)]
  generalize n.getD k.toNat 0=c
  lk;show%[_,_,ρ,J,⋯|λv=>k2 _ _ (aj λY k3 _=>?_)];lk;show%[a,n,0,ρ,I,!1,!1|?_]
  suffices L:∀M:pp,Y.nx [!a,hY (.int k),hY (.int b),hY (.int m),hY (.int M),hY (.int v),hX,hX] H from bT (λ_=>L 0) λ_=>L c
  intro M;show k3 _ _ (aj λD4 k4 _=>?_);lk;show%[Xc _|λl z=>k4 _ _ (aj λD5 k5 _=>aw λN hK=>?_)];lk;show%[⋯,⋯|hK _ _ (b7 (λi B j=>∃(c v:pp) (o:lX V) (xs:ZL),B=[!a,hY (.int k),hY (.int b),hY (.int m),hY (.int c),hY (.int v),!l,o]/\ah H j/\j l<*xs\4/\ ~~~xs=i/\∀x∈xs,0<=x/\x<b) %[_,_,_,[],ρ,ah.Qb z,aa,ρ|λ_ h=>nomatch h] ?_ ?_)]
  .intro i B j hi %[c,v,o,xs,rfl,C,e,r|g];let put:∀v:pp,ah H (Qb j l (.lst (xs\4++[.int (v%b)])))/\∃d:ZL,Qb j l (.lst (xs\4++[.int (v%b)])) l<*d\4/\ ~~~d=i+1/\∀x∈d,0<=x/\x<b:=λv=>
    ⟨ah.set C z,xs++[v%b],by rw[aa,Zd];rfl,by rw[Z9,r];rfl,λy hy=>by
     rcases Xk hy with q|q
     .show g y q
     .rw[Xl q];show%[MD _ ⋯|Od _ ⋯]⟩
   let len: ~~~(xs\4)<mv:=by rw[Z6,r];show aB ⋯
   change jZ _ _ _ _ [!a,hY (.int k),hY (.int b),hY (.int m),hY (.int c),hY (.int v),!l,hY (.int (0+i))] j;show az λD6 O _=>?_
   lk;show bT (λ_=>?_) λ_=>?_
   .let%[G,d|p]:=put c;show%[tyL (Qc.of e),⋯,_,e,len,%[⋯|⋯]|O _ _ %[_,_,_,d,ρ,G|p]]
   .let%[G,d|p]:=put v;show%[tyL (Qc.of e),⋯,_,e,len,%[⋯|⋯]|O _ _ %[_,_,_,d,ρ,G|p]]
  .intro B j %[c,v,o,xs,rfl,C,e,r|g];show k5 _ _ ?_;lk;show q l j xs C z e r g
abbrev qC(rows:ZB):Prop:=∃m:hH _,~~~m<=60/\∀a b,yj rows a b->[sgn a,sgn b]∈m
abbrev mlt(w:pp):pp:=if w%4=0 then 1 else if w%4=1 then 25 else if w%4=2 then 7 else 5
abbrev ltr(r w:pp):kj:=97+((r*mlt w+w)%26).toNat
def zx(r w:pp):fH (ltr r w)=iv:=by
 let all:∀i:Fin 26,fH (97+i.1)=iv:=!0
 show all %[((r*mlt w+w)%26).toNat|⋯]
def kg(r w:pp):ltr r w≠46:=by unfold ltr;lia
abbrev Gd(w:pp)(hi:kj)(c:hH kj):Prop:= ~~~c=hi/\∃a:kj,∀(k x:kj),c[k]?∣x->(k<a->x=46)/\(a<=k->∃r:pp,0<=r/\r<16/\x=ltr r w)
abbrev pq(a:hH (hH kj))(k:kj):lx:=⟨(a.map λc=>c.getD k 46).toArray⟩
abbrev br(a:hH (hH kj))(hi:kj):ZB:=(q7 hi).map (pq a)
def e9{a:hH (hH kj)}{hi k:kj}{z:lx}(h:(br a hi)[k]?∣z):k<hi/\z=pq a k:=by
 unfold br at h;rw[Zl]at h;by_cases b:k<hi
 .rw[PR b]at h;show%[b|(Za h).symm]
 simp_all
def lC{a:hH (hH kj)}{k j c:kj}(h:(pq a k).cps[j]?∣c):∃b,a[j]?∣b/\c=b.getD k 46:=by
 let h:(a.map λc=>c.getD k 46)[j]?∣c:=by simpa [pq]using h
 rw[Zl]at h;cases e:a[j]? with
 | none=>simp_all
 | some b=>rw[e]at h;show%[b,ρ|(Za h).symm]
def lD{a:hH kj}{hi k:kj}(b: ~~~a=hi)(c:k<hi):a[k]?∣a.getD k 46:=!2
structure gG (w:pp) (cols:hH (hH kj)) (hi:kj):Prop where
 h1:1<=hi
 h5:hi<=5
 w1:1<= ~~~cols
 w4: ~~~cols<=4
 ok:∀c∈cols,Gd w hi c
 fst:∃col,cols[0]?∣col/\∃r:pp,0<=r/\r<16/\col[hi-1]?∣ltr r w
section
variable{w:pp}{cols:hH (hH kj)}{hi:kj}
def gG.let_(d:gG w cols hi){k j c:kj}(e:k<hi)(h:(pq cols k).cps[j]?∣c):c=46\/∃r:pp,0<=r/\r<16/\c=ltr r w:=by
 let%[a,f|rfl]:=lC h;let%[g,b|i]:=d.ok a (Z8 f);let:=i k _ (lD g e);by_cases c:k<b
 .show .inl (this.1 c)
 .show .inr (this.2 ⋯)
def gG.cut(d:gG w cols hi):cH (br cols hi):=by
 let len: ~~~(br cols hi)=hi:=by unfold br;rw[Z6,Yi]
 let b:∀z∈br cols hi,∃k,k<hi/\z=pq cols k:=λz f=>by
  let%[k|e]:=Xd f;show%[k|e9 e]
 let C:=d.h1;let E:=d.h5;let G:=d.w4;show%[⋯,⋯,%[~~~cols,d.w1,⋯|λz f=>?_],λz f=>?_,λi r H s u j c I v y m=>?_|?_]
 .let%[k,_|rfl]:=b z f;simp[pq]
 .let%[k,h|rfl]:=b z f;rw[Mu];intro c n;let%[j|A]:=Xd n;rcases d.let_ h (j:=j) ↑A with rfl|⟨r,_,_,rfl⟩
  .decide +kernel
  .unfold okc;rw[zx,Qh]
 .let%[hi1|rfl]:=e9 s;let%[hi2|rfl]:=e9 u;let%[a,l|rfl]:=lC v;let%[p,g|rfl]:=lC y;rw[l]at g;cases g;let%[q,o|h]:=d.ok a (Z8 l);by_cases B:i+1<o
  .show(h i _ (lD q hi1)).1 ⋯
  .let%[r,_,_|e]:=(h _ _ (lD q hi2)).2 ⋯;show ow (e.symm.trans m) (kg r w)
 .let%[a,l,r,_,_|e]:=d.fst;show%[pq cols (hi-1),Xn %[hi-1,by rw[wh];lia|ρ],ltr r w,Xn %[a,Z8 l|?_]|kg r w];rw[Zc,e];rfl
def gG.few(d:gG w cols hi):qC (br cols hi):=by
 show%[(q7 4).flatMap λi=>(q7 4).map λj=>[sgn ((cols.getD j []).getD i 46),sgn ((cols.getD j []).getD (i+1) 46)],by simp[hH.length_flatMap,NU]|?_];intro a b %[_,_,i,j,r,p,g,h,m|n];let%[hi1|rfl]:=e9 g;let%[hi2|rfl]:=e9 h;let%[o,e|rfl]:=lC m;let%[f,c|rfl]:=lC n;rw[e]at c;cases c;let q:=d.h5;let s:=d.w4;let:=(Xj e).1;show Lf.mpr %[i,wh.mpr ⋯|Xn %[j,wh.mpr ⋯|?_]];rw[Zc (l:=cols),e];rfl
def gG.lets(d:gG w cols hi){c:kj}(h:Let (br cols hi) c):∃r:pp,0<=r/\r<16/\c=ltr r w:=by
 let%[a,r,f|b]:=h;let%[k|e]:=Xd f;let%[g|rfl]:=e9 e;let%[j|i]:=Xd b;show(d.let_ g (j:=j) ↑i).resolve_left a
def gG.ex(d:gG w cols hi):∃r:pp,0<=r/\r<16/\Let (br cols hi) (ltr r w):=by
 let%[r,b,c,e|ne]:=d.cut.some';let l:Let (br cols hi) c:=%[ne,r,b|e]
 let%[a,f,g|rfl]:=d.lets l;show%[a,f,g|l]
end
inductive sI
 | mk (r w:pp):vs=[.int r,.int w]->0<=r->r<=100->0<=w->w<=110->(∀H',ah H H'->Q (.str (sgn (ltr r w))) H')->sI vs H Q E0
def DU{i:pp}(a:0<=i)(c:i<26):atI iw.cps.toList i∣(97+i.toNat):=by
 let%[j|rfl]:=Xf a;let b:j<26:=by lia
 let all:∀j:Fin 26,iw.cps.toList[j.1]?∣(97+j.1):=!0
 show bG (all %[j|b])
def iG(T:Txt K mg):↥1 "_law_letter" ["_law_rank","_law_way"] sI:=by
 .exists T.bj,qH,b,g,%[r,w,rfl,i,j,l,m|c];show%[_,%["KEI}UFXFaF!0PRADADADADBFX1D1D"|0]|?_];change jH _ _ [hY (.int r),hY (.int w)] H;lk;show%[#[4]|λp d=>%[!1,_,Qc.of aa,.int (mlt w),?_,.inr ?_,!1,#[26],_,DU ⋯ ⋯|c _ (ah.Qb d)]]
  all_goals
   unfold mlt;rcases(show w%4=0\/w%4=1\/w%4=2\/w%4=3 by lia)with e|e|e|e<;> rw[e]<;> first|rfl|decide
inductive DV (K:ZA)
 | mk (a:kG) (xs:ZL) (w:pp):vs=[.ref a,.int w]->Qc K H a (xs\4)-> ~~~xs=30->(∀x∈xs,0<=x/\x<6)->0<=w->w<=110->(∀l H' (cols:hH (hH kj)) (hi:kj),ah H H'->H l=hX->H' l<*(br cols hi)\3->gG w cols hi->Q (.ref l) H')->DV K vs H Q E0
abbrev KM(H:Hp)(cs:hH (kG×hH kj)):Prop:=∀p∈cs,H p.1∣.lst (p.2.map λx=>V.str (sgn x))
def Gd.put{w:pp}{a i:kj}{c:hH kj}(h:∀(k x:kj),c[k]?∣x->(k<a->x=46)/\(a<=k->∃r:pp,0<=r/\r<16/\x=ltr r w))(g: ~~~c=i)(j:a<=i){r:pp}(b:0<=r)(d:r<16)(k x:kj)(e:(c++[ltr r w])[k]?∣x):(k<a->x=46)/\(a<=k->∃r:pp,0<=r/\r<16/\x=ltr r w):=by
 by_cases f:k< ~~~c
 .rw[Y9 f]at e;show h k x e
 .let:k= ~~~c:=by
   let:=(Xj e).1;simp at this
   lia
  subst this;rw[Ya ⋯,Oy]at e;cases e;show%[λz=>by lia|λ_=>%[r,b,d|ρ]]
def zy:∀n:kj,(G2 n [V.str (!".")]).flatten=(G2 n 46).map λx=>V.str (sgn x)
 | 0=>rfl
 | n+1=>by rw[PN,Tq,zy n,PN,Yp];rfl
def Bn(T:Txt K mg):↥2 "_law_cut" ["_law_digits_here","_law_way"] (DV K):=by
 .exists T.bm,cp,bd,hr,%[a,xs,w,rfl,hs,hx,hb,w0,w1|kk];let get:∀i:pp,0<=i->i<30->∃c,atI (xs\4) i∣V.int c/\0<=c/\c<6:=λi h0 h1=>by
   let%[c,e|hm]:=lB xs h0 (by lia -verbose);show%[c,e|hb c hm]
  let%[c0,g0,l0|u0]:=get 0 (!1) (!1);let%[c1,g1,l1|u1]:=get 1 (!1) (!1);show%[_,%["KCG2FaDFXP0DDCG3FaDFXP0DDC.4stRBCQ$A2BJ5CG6FXP0FaD5Fa3~X~YAn|5DBCG7FXP0FaD5DCG8F]FRAUB6CQ~ZA6A3BJ9CZpm8AH~aA7A1BBEG7Fa7FXP0FaFaDF!D59DEZpmS4A8BEIoh?1$A3B]G0?2st%~O~PUAoh?3TS1b0?4%P0S1B",cp.nd,↑(["_law_k","_law_columns"],[(1,4)]),↑["_law_k","_law_columns"],↑(["_law_column","_law_k"],[(1,0)]),↑["_law_column","_law_k"]|hr]|?_]
  change aU _ _ _ [!a,hY (.int w),hX,hX,hX,hX,hX,hX,hX,hX] H;show aj λD1 k1 _=>?_
  lk;show%[_,hs,_,g0,!1|k1 _ _ (aj λD2 k2 _=>?_)];lk;show%[_,hs,_,g1,!1|k2 _ _ (aj λD3 k3 _=>?_)];obtain⟨O,ew,be,bf⟩:∃O:kj,1+c0%4=O/\1<=O/\O<=4:=%[(1+c0%4).toNat,(by lia -verbose),(by lia -verbose)|(by lia -verbose)]
  obtain⟨hi,eh,hi1,bb⟩:∃hi:kj,1+c1%5=hi/\1<=hi/\hi<=5:=%[(1+c1%5).toNat,(by lia -verbose),(by lia -verbose)|(by lia -verbose)]
  rw[ew,eh];clear ew eh;lk;show%[Xc _|λL hL=>k3 _ _ (aj λD4 k4 _=>aw λy hK=>?_)];lk;show%[(by lia -verbose),(by lia -verbose)|hK _ _ (b7 (λi g l=>E6 λ(o5 o6 o7 o8 o9:lX V) (cs:hH (kG×hH kj))=>A7 (g=[!a,hY (.int w),hY (.int O),hY (.int hi),!L,o5,o6,o7,o8,o9]) (ah H l) (l L∣.lst (cs\0)) (~~~cs=i) (KM l cs) (∀p∈cs,p.1≠L/\Gd w hi p.2) (∀p:kG×hH kj,cs[0]?∣p->∃r:pp,0<=r/\r<16/\p.2[hi-1]?∣ltr r w))
   %[_,_,_,_,_,[],ρ,ah.Qb hL,aa,ρ,(λ_ h=>nomatch h),(λ_ h=>nomatch h)|λ_ h=>nomatch h] ?_ ?_)]
  .intro j g l u %[o5,o6,o7,o8,o9,cs,rfl,sm,B,ac,ae,I|ag];change aU _ _ _ [!a,hY (.int w),hY (.int O),hY (.int hi),!L,hY (.int (0+j)),o6,o7,o8,o9] l;rw[Nx];let%[c2,g2,l2|u2]:=get (2+j) (by lia -verbose) (by lia -verbose);let%[c6,g6,l6|u6]:=get (6+j) (by lia -verbose) (by lia -verbose);show aj λD5 k5 _=>?_
   lk;obtain⟨u,ej,bl,bm⟩:∃u:kj,(hi+if decide (0<(j:pp))=iv then 1 else 0:pp)=u/\(j=0->u=hi)/\hi<=u:=by
    by_cases c:0<(j:pp)
    .show%[hi+1,by rw[md (Zf c)];rfl,λe=>by lia -verbose|(by lia -verbose)]
    .show%[hi,by rw[kw ↑c];simp,λ_=>rfl|Zi _]
   let bt:u<=hi+1:=by split at ej<;> lia -verbose
   rw[ej];clear ej;show%[_,sm.seq hs,_,g2,(by lia -verbose)|k5 _ _ (aj λD6 k6 _=>?_)];obtain⟨d,ea,al⟩:∃d:kj,c2%(u:pp)=d/\d<u:=%[(c2%(u:pp)).toNat,by let:=MD c2 (b:=u) (by lia -verbose);lia -verbose|by let:=Od c2 (b:=u) (by lia -verbose);let:=MD c2 (b:=u) (by lia -verbose);lia -verbose]
   rw[ea];clear ea;lk;show%[_,sm.seq hs,_,g6,!1|k6 _ _ (aj λD7 k7 _=>?_)];lk;show%[#[1]|λp hp=> .inr %[_,aa,(by lia -verbose),(by lia -verbose),by rw[Yj];show Ye (aB (by lia -verbose))|λC hC=>k7 _ _ (aj λD8 k8 _=>aw λy hK=>?_)]];let s1:=(ah.Qb (o:= .lst [V.str (!".")]) hp).trans (ah.Qb (o:= .lst (G2 (d:pp).toNat [V.str (!".")]).flatten) hC);let fC:=(ah.Qb (o:= .lst [V.str (!".")]) hp).free hC;let a1:Qb (Qb l p (.lst [V.str (!".")])) C (.lst (G2 (d:pp).toNat [V.str (!".")]).flatten) C∣.lst ((G2 d 46).map λx=>V.str (sgn x)):=by
    rw[aa,Ny,zy]
   generalize Qb (Qb l p (.lst [V.str (!".")])) C _=H1 at s1 a1
   let a2:C≠L:=λe=>by rw[e,B]at fC;cases fC
   lk;show%[(by lia -verbose),(by lia -verbose),(by lia -verbose),(by lia -verbose)|hK _ _ (b7 (λi g M=>E3 λ(r:pp) (o9:lX V) (c:hH kj)=>A7 (g=[!a,hY (.int w),hY (.int O),hY (.int hi),!L,hY (.int j),hY (.int d),hY (.int r),!C,o9]) (ah l M) (M C∣.lst (c.map λx=>V.str (sgn x))) (~~~c=d+i) (0<=r) (r<=3+2*i) (∀(k x:kj),c[k]?∣x->(k<d->x=46)/\(d<=k->∃r:pp,0<=r/\r<16/\x=ltr r w)))
    %[_,_,_,ρ,s1,a1,by simp,(by lia -verbose),(by lia -verbose)|λk x e=>?_] ?_ ?_)]
   .let:=RR (a:=46) (n:=d) (i:=k);rw[e]at this
    split at this
    .cases this;show%[λ_=>rfl|λz=>by lia -verbose]
    .cases this
   .intro i g M hi2 %[r,o9,c,rfl,v,U,cl,r0,r1|Y];change aU _ _ _ [!a,hY (.int w),hY (.int O),hY (.int hi),!L,hY (.int j),hY (.int d),hY (.int r),!C,hY (.int (d+i))] M;show aj λD9 k9 _=>?_
    lk;let%[cd,gd,ld|ud]:=get (10+5*j+(d+i)) (by lia -verbose) (by lia -verbose);show%[tyL (Qc.of U),r,w,ρ,r0,(by lia -verbose),w0,w1|λH3 s3=>%[_,s3 _ _ U,by rw[Z6,cl];show aB (by lia -verbose)|k9 _ _ (az λb0 bc _=>?_)]];let m:ah l (Qb H3 C (.lst ((c.map λx=>V.str (sgn x)) ++[V.str (sgn (ltr r w))]))):=ah.set (v.trans s3) fC;lk;show%[.inl %[!1|!1],_,(sm.trans m).seq hs,_,gd,!1|bc _ _ %[_,_,c++[ltr r w],ρ,m,by rw[aa,Zd];rfl,by rw[Z9,cl];rfl,(by lia -verbose),(by lia -verbose)|Gd.put Y cl (by lia -verbose) r0 (by lia -verbose)]]
   .intro g M %[r,o9,c,rfl,v,U,cl,r0,r1|Y];show k8 _ _ (az λD9 k9 _=>?_);lk;let b1: ~~~c=max d hi:=by lia -verbose
    show%[tyL (Qc.of (v _ _ B)),_,v _ _ B,by rw[Z6,ac];show aB (by lia -verbose)|k9 _ _ %[_,_,_,_,_,cs++[(C,c)],ρ,ah.set (sm.trans v) hL,by rw[aa,Zd];rfl,by rw[Z9,ac];rfl,λq N=>?_,λq N=>?_|λq N=>?_]]
    .rcases Xk N with z|z
     .rw[ao (I q z).1];show v _ _ (ae q z)
     .rw[Xl z,ao a2];show U
    .rcases Xk N with z|z
     .show I q z
     .rw[Xl z];show%[a2,by change ~~~c=hi;lia -verbose,d|Y]
    .by_cases j0:j=0
     .obtain rfl:cs=[]:=xl.mp (by lia -verbose);cases N;let:=Y (hi-1) (c[hi-1]'(by lia -verbose)) (Z4 (by lia -verbose));let%[r,a,b|e]:=this.2 (by lia -verbose);show%[r,a,b|by rw[Z4 (by lia -verbose:hi-1< ~~~c),e]]
     .rw[Y9 (by lia -verbose)]at N;show ag q N
  .intro g l %[o5,o6,o7,o8,o9,cs,rfl,sm,B,ac,ae,I|ag];show k4 _ _ ?_;lk;show aK λy hK=>?_
   lk;let a3: ~~~cs=O:=by lia -verbose
   show%[(by lia -verbose),(by lia -verbose)|hK _ _ λF hF=>?_];show dI (J:=Itr 0 hi) (n:=hi) (D:=F) (λq ts g M=>A4 (∃o,g=[o,!L]) (ah l M) (M F<*ts) (ts=((q7 q).map (pq (cs\2)))\3))
    %[%[hX|rfl],ah.Qb hF,aa|rfl] (λq _ _ l N _=>N) (λ_ _ l _=>Zi _) ?_ ?_
   .intro q ts g M N %[%[o|rfl],v,an|ht] x H3 %[e2|e3];subst e2 e3;lk;show aK λy hK=>?_
    lk;let ab:=v _ _ B;show%[%[_|Qc.of ab]|hK _ _ λG hG=>?_];show dI (J:=Itl K L) (n:=O) (D:=G) (λr zs g H4=>A4 (∃o,g=[o,hY (.int q)]) (ah H3 H4) (H4 G<*zs) (zs=(((cs.take r).map λp=>p.2.getD q 46).map sgn)\3))
     %[%[hX|rfl],ah.Qb hG,aa|rfl]
     (λr _ _ H4 a4 ⟨_,m,_,_⟩=>%[_,V.ref (cs[r]'(by lia -verbose)).1,Qc.of (m _ _ ab)|by simp[show r< ~~~cs by lia -verbose]]) (λ_ _ H4 ⟨_,m,_,_⟩=>%[_,Qc.of (m _ _ ab)|by simp[a3]]) ?_ ?_
    .intro r zs g H4 a4 %[%[o|rfl],m,as|hz] x H5 %[e2|hx];subst e2;let a0:r< ~~~cs:=by lia -verbose
     let a5:=hx _ (Qc.of (m _ _ ab));rw[Zl,Z4 a0]at a5;obtain rfl:x=V.ref cs[r].1:=(Za a5).symm;let hm:=Yc a0;lk;show%[_,Qc.of (m _ _ (v _ _ (ae _ hm))),V.str (sgn (cs[r].2.getD q 46)),?_|CK.mk a4 as (by rw[hz,Z6,Z6,Z6,Yk];show aB (by lia -verbose)) %[%[_|ρ],ah.set m hG,aa|?_]]
     .show bG ?_;rw[Zl,lD (I _ hm).2.1 (by lia -verbose)];rfl
     .rw[hz,X7,Zd,Zd,Zd,Z4 a0];rfl
    intro zs g H4 %[_,m,as|hz];rw[Zn (by lia -verbose)]at hz;lk;show%[(cs.map λp=>p.2.getD q 46).map sgn,by rw[<-hz];show Qc.of as,?_|CK.mk N (m _ _ an) (by rw[ht,Z6,Z6,Yi];show aB (by lia -verbose)) %[%[_|ρ],ah.set (v.trans m) hF,aa|?_]]
    .rw[yY,Z6,Z6,show(!"").length=0 from rfl]
     lia -verbose
    .rw[ht,NU,Zd,Zd,show Txt.join (!"") ((cs.map λp=>p.2.getD q 46).map sgn)=ry (!"") ((cs.map λp=>p.2.getD q 46).map sgn)from Nj _ _,xM];let e:pq (cs\2) q=⟨(cs.map λp=>p.2.getD q 46).toArray⟩:=by
      unfold pq;rw[Yq];rfl
     rw[<-e];rfl
   .intro ts g M %[_,v,an|ht];let a6:0< ~~~cs:=by lia -verbose
    show kk F M (cs\2) hi (sm.trans v) (sm.free hF) (by rw[an,ht];rfl) %[hi1,bb,by rw[Z6];lia -verbose,by rw[Z6];lia -verbose,λc hc=>?_,cs[0].2,by rw[Zl,Z4 a6];rfl|ag _ (Z4 a6)];let%[p,hp|rfl]:=Xm hc;show(I p hp).2
inductive sJ
 | mk (z:lx):vs=[.str z]-> ~~~z<=1000->(∀H',ah H H'->Q (.bl (tY z)) H')->sJ vs H Q E0
inductive pA
 | mk (row above:lx):vs=[.str row,.str above]-> ~~~row<=1000-> ~~~above<=1000->(∀H',ah H H'->Q (.bl (fJ row above)) H')->pA vs H Q E0
inductive jV (K:ZA)
 | mk (a:kG) (rows:ZB):vs=[.ref a]->Qc K H a (rows\3)->(rows.map (·.length)).sum<=3000->(∀r∈rows,r.cps.toList.all okc=iv)->(∀l H' (ss:ZB),ah H H'->H l=hX->H' l<*ss\3->ss.Perm (aV ((cL rows).map sgn))->Q (.ref l) H')->jV K vs H Q E0
inductive pB
 | mk (rows:ZB):vs=[.str (ry nl rows)]->cH rows->(∀l H',ah H H'->H l=hX->H' l<*rows\3->Q (.ref l) H')->pB vs H Q E0
def jB(z:lx)(i:kj)(c:kj)(h:z.cps[i]?∣c):(z.cps.toList.take i++[c])=z.cps.toList.take (i+1):=by
 let h':z.cps.toList[i]?∣c:=↑h
 let%[a|e]:=Xj h';rw[Nl a,e]
def DW(c d:kj):((⟨([c].toArray)⟩:lx)=⟨([d].toArray)⟩)↔c=d:=by
 constructor
 .intro h;let:(([c].toArray):oT kj)= ([d].toArray):=by injection h
  simpa using this
 .intro h;rw[h]
def pC(c:kj):((⟨([c].toArray)⟩:lx)=!".")↔c=46:=DW c 46
def DX(T:Txt K mg):↥1 "is_row" ["row"] sJ:=by
 .exists T.aZ,Bl,y,N,%[z,rfl,O|k];show%[_,%["KEI'~b[[DefA0B]H)~c~dAoh?1~e0b0?2%~&ng0~C)n~'0~(B",0,↑(["sign"],[])|↑["sign"]]|?_];change jH _ _ [-z] H;lk;show%[cE ⋯|bT (λm=>bT (λp=>?_) λp=>?_) λm=>?_]
  .show aK λu B=>?_
   lk;show B _ _ λD v=>?_
   show dI (J:=Its z) (n:=z.cps.size) (D:=D) (λi ys d a=>A4 (∃o,d=[o]) (ah H a) (a D<*ys) (ys=(z.cps.toList.take i).map (λc=>V.bl (okc c)))) %[%[hX|rfl],ah.Qb v,aa|rfl]
    (λi _ _ _ hi _=>hi) (λ_ _ _ _=>Zi _) ?_ ?_
   .intro i ys d a hi %[%[o|rfl],q,r|g] x C %[G,c,I|rfl];subst G;let j: ~~~ys=i:=by
     rw[g,Z6,Yk];let: ~~~z.cps.toList=z.cps.size:=by simp
     lia
    let L:i<1000:=by
     let: ~~~z=z.cps.size:=rfl
     lia
    let put:∀b:ri,b=okc c->CK D z.cps.size i (λi ys d a=>A4 (∃o,d=[o]) (ah H a) (a D<*ys) (ys=(z.cps.toList.take i).map (λc=>V.bl (okc c)))) ys [hY (.str ⟨([c].toArray)⟩)] (.bl b) C:=λb M=>
     CK.mk hi r (by rw[j];show aB ⋯) %[%[_|rfl],ah.set q v,aa|by rw[M,g,<-jB z i c I,Zd];rfl]
    lk;show bT (λl=>put iv ?_) λl=>put _ ?_
    .let:=(pC c).mp (Zo l);unfold okc;rw[Zf this,RZ]
    .let l: ¬ (⟨([c].toArray)⟩:lx)=pw ".":=λe=>l (Zf e)
     let: ¬ c=46:=λe=>l ((pC c).mpr e)
     unfold okc;rw[Zh this,RK,tO];rfl
   .intro ys d a %[_,q,r|g];lk;show%[z.cps.toList.map okc,?_|?_]
    .let e:z.cps.toList.take z.cps.size=z.cps.toList:=by
      apply Zn;simp
     rw[e]at g;let:(z.cps.toList.map okc).map V.bl=ys:=by rw[g,Yq];rfl
     rw[this];show Qc.of r
    .let e:tY z=(z.cps.toList.map okc).all id:=by
      unfold tY;rw[m,p,Vd]
      all_goals rfl
     rw[<-e];show k a q
  .rw[Qu]at p;let e:tY z=jg:=by unfold tY;rw[p,LU,No]
   rw[e]at k;show k H (ah.refl H)
  .rw[Qu]at m;let e:tY z=jg:=by unfold tY;rw[m,No,No]
   rw[e]at k;show k H (ah.refl H)
abbrev mZ(p:kj×kj):ri:=!decide (p.2=46)||decide (p.1=46)
def pD(x y:lx)(i c d:kj)(b:x.cps[i]?∣c)(f:y.cps[i]?∣d):((L8 x.cps.toList y.cps.toList).take i++[(c,d)])=(L8 x.cps.toList y.cps.toList).take (i+1):=by
 let h:(L8 x.cps.toList y.cps.toList)[i]?∣(c,d):=Oe.mpr %[↑b|↑f];let%[a|e]:=Xj h;rw[Nl a,e]
def pE(T:Txt K mg):↥1 "lies_beneath" ["row","above"] pA:=by
 .exists T.b0,np,I,hr,%[row,a,rfl,L,M|k];show%[_,%["KCMN~)efA0BefA1BEIiOEI~c~dAoh?1~*A1A0BjLb0?2Lb1?2c%~&n(1~C)ng0~CB",0,↑(["high","low"],[])|↑["high","low"]]|?_]
  change aU _ _ _ [-row,-a] H;show aj λD1 k1 N=>?_
  lk;show%[cE ⋯,cE ⋯|bT (λj=>?_) λj=>?_]
  .let j: ¬ ((~~~row:pp)= ~~~a):=↑j
   let e:fJ row a=jg:=by
    unfold fJ;rw[Zh ⋯,No]
   rw[e]at k;show N _ _ (k H (ah.refl H))
  .let j: ~~~row= ~~~a:=by
    let:(~~~row:pp)= ~~~a:=↑j
    lia
   show k1 _ _ ?_;let u:row.cps.size=a.cps.size:=j;let v: ~~~(L8 a.cps.toList row.cps.toList)=a.cps.size:=by rw[Se];simp[u]
   lk;show aK λB O=>?_
   lk;show O _ _ λD C=>?_
   show dI (J:=Itz a row) (n:=a.cps.size) (D:=D) (λi ys l g=>A4 (E2 λq r=>l=[q,r]) (ah H g) (g D<*ys) (ys=((L8 a.cps.toList row.cps.toList).take i).map (λp=>V.bl (mZ p)))) %[%[hX,hX|rfl],ah.Qb C,aa|rfl]
    (λi _ _ _ hi _=>%[hi|⋯]) (λ_ _ _ _=>%[Zi _,⋯|.inl rfl]) ?_ ?_
   .intro i ys l g hi %[%[q,r|rfl],y,z|m] x H2 %[c,d,TT,U,Y,G,rfl|rfl];let o: ~~~ys=i:=by rw[m,Z6,Yk,v];lia
    let ab:i<1000:=by
     let: ~~~a=a.cps.size:=rfl
     lia
    let put:∀b:ri,b=mZ (c,d)->CK D a.cps.size i (λi ys l g=>A4 (E2 λq r=>l=[q,r]) (ah H g) (g D<*ys) (ys=((L8 a.cps.toList row.cps.toList).take i).map (λp=>V.bl (mZ p)))) ys [hY (.str ⟨([c].toArray)⟩),hY (.str ⟨([d].toArray)⟩)] (.bl b) (Qb g TT (.tup [.str ⟨([c].toArray)⟩,.str ⟨([d].toArray)⟩])):=λb eb=>
     CK.mk hi (ah.Qb G _ _ z) (o▸aB ⋯) %[%[_,_|rfl],ah.set (y.trans (ah.Qb G)) C,aa|by rw[eb,m,<-pD a row i c d U Y,Zd];rfl]
    lk;show%[_,SqT.of aa,ρ,_,_,ρ,_,_,ρ,ρ,ρ|?_];simp only[V.str.injEq,pC];show bT (λh=>put iv ?_) λh=>%[⟨⟩|put _ ?_]
    .unfold mZ;rw[h,RZ]
    .unfold mZ;rw[Qu]at h;rw[h,RK]
   .intro ys l g %[_,y,z|m];lk;show%[(L8 a.cps.toList row.cps.toList).map mZ,?_|?_]
    .let e:(L8 a.cps.toList row.cps.toList).take a.cps.size=L8 a.cps.toList row.cps.toList:=Zn ⋯;rw[e]at m;let:((L8 a.cps.toList row.cps.toList).map mZ).map V.bl=ys:=by rw[m,Yq];rfl
     rw[this];show Qc.of z
    .let e:fJ row a=((L8 a.cps.toList row.cps.toList).map mZ).all id:=by
      unfold fJ;rw[Zf j,Vd,RJ];rfl
     show e▸k g y
def Bo(h:(rows.map (·.length)).sum<=3000):(ry (!"") rows).length<=3000:=by
 let:=Rr (!"") rows;rw[show(!"").length=0 from rfl]at this
 lia
def lE(T:Txt K mg):↥1 "letters_in" ["rows"] (jV K):=by
 .exists T.b1,qF,M,hr,%[a,rows,rfl,N,g,v|k];show%[_,%["KEI*~+A~D~fAoh?1~e~O~PUA0Bb0?2&N(0~C0BB",0,↑(["sign"],[])|↑["sign"]]|?_];change jH _ _ [!a] H;lk;show aK λC O=>?_
  lk;show%[rows,N,by rw[show(!"").length=0 from rfl];lia|?_];rw[show Txt.join (!"") rows=ry (!"") rows from Nj _ _];let j:=Bo g;let b:=jz v;unfold cL at b k
  generalize ry (!"") rows=z at j b k ⊢
  show O _ _ λD G=>?_
  show dI (J:=Its z) (n:=z.cps.size) (D:=D) (λi ys y m=>A4 (∃o,y=[o]) (ah H m) (m D<*ys) (ys=((z.cps.toList.take i).filter (λc=>decide (c≠46))).map (λc=>V.str (sgn c)))) %[%[hX|rfl],ah.Qb G,aa|rfl]
   (λi _ _ _ hi _=>hi) (λ_ _ _ _=>Zi _) ?_ ?_
  .intro i ys y m hi %[%[o|rfl],r,u|d] x H2 %[U,c,I|rfl];subst U;let L: ~~~ys<=i:=by
    rw[d,Z6];let:=Yh (λc=>decide (c≠46)) (z.cps.toList.take i);rw[Yk]at this
    lia
   let Y:i<3000:=by
    let: ~~~z=z.cps.size:=rfl
    lia
   lk;simp only[pC];show bT (λB=>?_) λB=>?_
   .show CK.mk hi u (aB ⋯) %[%[_|rfl],ah.set r G,aa|?_];rw[<-jB z i c I,Y2,Zd,d];let:decide (c≠46)=iv:=↑B
    rw[Y3,this];rfl
   .show CN.mk hi %[%[_|rfl],r,u|?_];rw[<-jB z i c I,Y2,Zd,d];let:decide (c≠46)=jg:=↑B
    rw[Y3,this];simp
  .intro ys y m %[_,r,u|d];let e:z.cps.toList.take z.cps.size=z.cps.toList:=by
    apply Zn;simp
   rw[e]at d;lk;let ab:=Yh (λc=>decide (c≠46)) z.cps.toList;let ac: ~~~z.cps.toList= ~~~z:=by simp[Tj]
   show%[(z.cps.toList.filter (λc=>decide (c≠46))).map sgn,?_,by rw[Z6];lia|λS hS=>%[_,aa,?_|λl ss p hp ae=>?_]]
   .rw[Yq];let:(z.cps.toList.filter (λc=>decide (c≠46))).map (V.str ∘ sgn)=ys:=by rw[d];rfl
    rw[this];show Qc.of u
   .let:=j7 b
    lia
   .let q:ah H (Qb m S (lV w S (aV ((z.cps.toList.filter (λc=>decide (c≠46))).map sgn)))):=r.trans (ah.Qb hS);show k l _ ss (q.trans (ah.Qb p)) (q.free p) aa hp
def mr(T:Txt K mg):↥2 "rows_of" ["text"] pB:=by
 .exists T.aY,iF,as,N,%[rows,rfl,a|k];let%[wd,w1,w2|hw]:=a.wide;let O:=a.text;let u:=a.split;show%[_,%["KCMkYvwA0A?1BE+OCG1~,~.0AUBCQ~QA1BjLJ2LJ3cCMluNg2]IxkYH]JA3BE+OEMl<N|2D=kYH]KA3AP1F~E2DBE+OCMN~gefAH~/A1BBDE+OEI1",iF.nd,(blE (v:= .ty "str") rfl T.ac Ub rfl rfl rfl)|N]|?_]
  generalize ry nl rows=z at O u
  change aU _ _ _ [-z,hX,hX,hX] H;show aj λD1 k1 _=>?_
  lk;show%[.type "str",.str z,iv,by rfl|im (k1 _ _ (aj λD2 k2 _=>?_))];lk;show%[!1,n7 (by lia: ~~~z+2<=5000) (!1)|λl hl=>k2 _ _ ?_];rw[show(!"\n")=nl from rfl,u];show aj λD3 k3 _=>aw λag hK=>?_
  lk;let U:ah H (Qb H l (.lst (rows\3))):=ah.Qb hl;show%[_,Qc.of aa|hK _ _ (ja (λi L g=>E2 λY o3=>A3 (L=[-z,!l,Y,o3]) (ah H g) (g l<*rows\3)) %[hX,hX,ρ,U|aa] (λi L g _ ⟨_,_,_,_,q⟩=>Qc.of q) ?_ ?_)]
  .intro i x TT L g y %[Y,o3,rfl,sm|j] hT;obtain⟨r,m,rfl⟩:∃r,rows[i]?∣r/\x=V.str r:=by
    rw[Zl]at y;cases e:rows[i]? with
    | none=>rw[e]at y;cases y
    | some r=>rw[e]at y;show%[r,ρ|(Za y).symm]
   let al:i< ~~~rows:=(Xj m).1;let an:=a.high;let B:ah H (Qb g TT (.tup [.int i,.str r])):=sm.trans (ah.Qb hT);let o:Qb g TT (.tup [.int i,.str r]) l<*rows\3:=ah.Qb hT _ _ j;let C:Qb g TT (.tup [.int i,.str r]) TT&&&[.int i,.str r]:=aa
   generalize Qb g TT _=HT at B o C
   let G: ~~~r<=1000:=by
    let: ~~~r=wd:=hw r (Z8 m)
    lia
   show%[_,SqT.of C,ρ,_,_,ρ,_,_,ρ,ρ|?_];change aU _ _ _ [-z,!l,hY (.int i),-r] HT;show aj λD4 k4 _=>?_
   let go:∀p,ah HT p->D4.nx [-z,!l,hY (.int i),-r] p:=by
    intro p b;show k4 _ _ (az λD5 k5 _=>?_);let I:∀M,ah HT M->D5.nx [-z,!l,hY (.int i),-r] M:=λM n=>k5 _ _ %[_,_,rfl,B.trans n|n l _ o]
    lk;show bT (λJ=>?_) λ_=>I _ b
    let J:0<(i:pp):=Zo J;obtain⟨d,rfl⟩:∃d,i=d+1:=%[i-1|⋯]
    let ab:d< ~~~rows:=by lia
    let ac:rows[d]?∣rows[d]:=by simp
    let e1:(((d+1:kj):pp) -1)=(d:pp):=by lia
    show%[_,Qc.of (b l _ o),.str rows[d],e1▸bG ∅,r,rows[d],ρ,G,?_|λM n=>%[_,ρ|?_]]
    .let:rows[d].length=wd:=hw _ (Yc ab)
     lia
    .rw[a.beneath ac m];show im (I _ (b.trans n))
   lk;rw[kw ⋯];show%[r,ρ,G|λp b=>%[_,ρ|?_]];rw[a.row (Z8 m)];show im (go p b)
  .intro L g %[Y,o3,rfl,sm|j];show k3 _ _ ?_;lk;show%[l,rows,ρ,Qc.of j,by let:=a.sum;lia,a.sign|λl2 p ss b a0 ae J=>%[_,.inl %[_,Qc.of ae|ρ]|?_]];rw[kw]
   .show k l p (sm.trans b) hl (b l _ j)
   .intro h0;let h0:=Zo h0;rw[Z6]at h0;let:ss=[]:=xl.mp ⋯;rw[this]at J;let hm:=J.symm.eq_nil;let%[c|hc]:=Rv _ a.signs_ne;let:sgn c∈aV ((cL rows).map sgn):=aX.mpr (Xn %[c,hc|rfl]);rw[hm]at this;cases this
abbrev gH(p:kj×kj):lX ZB:=if p.1≠46/\p.1≠p.2 then hY [sgn p.1,sgn p.2]else hX
abbrev pF(u r:lx):hH ZB:=(L8 u.cps.toList r.cps.toList).filterMap gH
def fU(H:Hp):aF H []:=λp a=>by cases a
def aA(h:aF H ps)(s:∀b z,H b&&&z->c b&&&z):aF c ps:=λp a=>%[(h p a).1|s _ _ (h p a).2]
def fh(h:aF H ps)(a:q.2≠[])(b:H q.1&&&q.2\3):aF H (ps++[q]):=λp c=>by
 rcases Xk c with z|z
 .show h p z
 .rw[Xl z];show%[a|b]
def pG(a:aF H ps)(b:aF H qs):aF H (ps++qs):=λp c=>(Xk c).elim (a p) (b p)
inductive GW
 | mk (u r:lx):vs=[.str u,.str r]-> ~~~u<=40-> ~~~r= ~~~u->(∀l H' ps,ah H H'->H l=hX->H' l∣.lst (ps\0)->aF H' ps->ps\2=pF u r->Q (.ref l) H')->GW vs H Q E0
inductive zA
 | mk (rows:ZB):vs=[.str (ry nl rows)]->cH rows->(∀l H' (ss:ZB),ah H H'->H l=hX->H' l<*ss\3->ss.Perm (aV ((cL rows).map sgn))->Q (.ref l) H')->zA vs H Q E0
def Bp(T:Txt K mg):↥3 "letters" ["text"] zA:=by
 .exists T.b2,yo,d,b,%[rows,rfl,a|e];show%[_,%["KEIH~/AH~:A0BB",0|b],rows,ρ,a|λl q c r g=>%[l,rows,ρ,Qc.of g,by let:=a.sum;lia,a.sign|λi j ss m n o p=>e i j ss (c.trans m) (c.free n) o p]]
def kh(T:Txt K mg):↥1 "meetings_between" ["above","row"] GW:=by
 .exists T.b4,jJ,ac,hr,%[u,r,rfl,hu,ae|kk];let ag: ~~~u=u.cps.size:=rfl;let al: ~~~r=r.cps.size:=rfl;show%[_,%["KEIoh?1~*A0A1BjLb0?2Lb1?2c&l<N(0~C=N(01dA0A1B",0,↑(["high","low"],[])|↑["high","low"]]|?_];change jH _ _ [-u,-r] H;lk;show aK λab hK=>?_
  lk;show hK _ _ λD O=>?_
  show dI (J:=Itz u r) (n:=u.cps.size) (D:=D) (λi ys U l=>A5 (E2 λo1 o2=>U=[o1,o2]) (ah H l) (l D<*ys) (~~~ys<=i) (∃ps:ZG,A3 (ys=ps\0) (aF l ps) (ps\2=((L8 u.cps.toList r.cps.toList).take i).filterMap gH)))
   %[%[hX,hX|rfl],ah.Qb O,aa,Zi _,[],rfl,fU _|rfl] (λi _ _ _ hi _=>%[hi|⋯]) (λ_ _ _ _=>%[Zi _,⋯|.inl rfl]) ?_ ?_
  .intro i ys U l hi %[%[o1,o2|rfl],Y,hl,I,ps,L,m|j] x H2 %[c,d,TT,hc,hd,hT,rfl|rfl];let v:=ah.Qb (o:= .tup [.str ⟨([c].toArray)⟩,.str ⟨([d].toArray)⟩]) hT;let nx:=pD u r i c d hc hd;let a:=v _ _ hl;let C:Qb l TT (.tup [.str ⟨([c].toArray)⟩,.str ⟨([d].toArray)⟩]) TT&&&[.str ⟨([c].toArray)⟩,.str ⟨([d].toArray)⟩]:=aa;let g:aF (Qb l TT (.tup [.str ⟨([c].toArray)⟩,.str ⟨([d].toArray)⟩])) ps:=λp G=>%[(m p G).1|v _ _ (m p G).2]
   let y:=Y.trans v
   generalize Qb l TT _=HT at v a C g y
   show%[_,SqT.of C,ρ,_,_,ρ,_,_,ρ,ρ|?_];change EH _ _ [hY (.str ⟨([c].toArray)⟩),hY (.str ⟨([d].toArray)⟩)] HT _;lk;simp only[pC,DW];let an:D≠TT:=λe=>by rw[e,C]at a;cases a
   show bT (λM=>bT (λN=>?_) λN=>?_) λM=>?_
   .let M:c≠46:=↑M
    let N:c≠d:=↑N
    show%[show 2<=mv from !1|λp G=>?_];let B:=ah.Qb (o:= .tup [V.str ⟨([c].toArray)⟩,V.str ⟨([d].toArray)⟩]) G;let as:p≠D:=λe=>by rw[e,a]at G;cases G
    show CK.mk hi (B _ _ a) (aB ⋯) %[%[_,_|rfl],ah.set (y.trans B) O,aa,by rw[Z9,Yj];lia,ps++[(p,[sgn c,sgn d])],by rw[L,Zd];rfl,?_|?_]
    .let keep:∀b z,Qb HT p _ b&&&z->Qb _ D (.lst (ys++[V.ref p])) b&&&z:=λb z e=>by
      let:b≠D:=λe2=>by rw[e2,B _ _ a]at e;cases e
      rw[ao this];show e
     show aA (fh (aA g λb z e=>B _ _ e) ∅ (by rw[aa];rfl)) keep
    .rw[Zd,j,<-nx,Y0];let:gH (c,d)∣[sgn c,sgn d]:=md %[M|N];rw[Y1,this];rfl
   .show CN.mk hi %[%[_,_|rfl],y,a,⋯,ps,L,g|?_];rw[j,<-nx,Y0];let:gH (c,d)=hX:=kw λq=>q.2 ↑N
    rw[Y1,this];simp
   .show CN.mk hi %[%[_,_|rfl],y,a,⋯,ps,L,g|?_];rw[j,<-nx,Y0];let:gH (c,d)=hX:=kw λq=>q.1 ↑M
    rw[Y1,this];simp
  .intro ys U l %[_,Y,hl,I,ps,L,m|j];rw[Zn (by rw[Se];simp;lia)]at j;show kk D l ps Y O (by rw[hl,L]) m j
def wk{K:ZA}{xs ys:ZM}{g:TG}{q:TS}{D:ic}(Pv:kj->St->Hp->Prop)(s:Pv 0 c H)(u: ~~~ys<= ~~~xs)(z:∀i c H,i<= ~~~ys->Pv i c H->Qc K H a xs/\Qc K H b ys)
 (A:∀i x y T c H,xs[i]?∣x->ys[i]?∣y->Pv i c H->H T=hX->g (.ref T) c (Qb H T (.tup [x,y])) λd j=>q {D with nx:=Pv (i+1),ct:=Pv (i+1),bk:=D.nx} d j) (B:∀c H,Pv ys.length c H->D.nx c H):
 ∃W:kj->kj->St->Hp->Prop,(∃m,W 0 m c H)/\∀i m c H,W i m c H->
  ((AR K a b).stop i H/\D.nx c H)\/((AR K a b).go i H/\∃N:St->Hp->Prop,(∀f h,N f h->∃r,r<m/\W (i+1) r f h)/\∀x h,(AR K a b).yld i H x h->g x c h λd j=>q {D with nx:=N,ct:=N,bk:=D.nx} d j):=by
 show%[λi m c H=>m= ~~~ys-i/\i<= ~~~ys/\Pv i c H,%[~~~ys,by simp,Xc _|s]|?_];intro i m c H %[rfl,hi|p];let%[l|n]:=z i c H hi p;by_cases o:i< ~~~ys
 .let C:xs[i]?∣xs[i]:=by simp[show i< ~~~xs by lia]
  let E:ys[i]?∣ys[i]:=by simp
  show .inr %[%[xs,ys,_,_,l,n,C|E],Pv _,λf h G=>%[~~~ys-(i+1),⋯,rfl,o|G]|λv h y=>?_];let%[T,I,J,L,rfl,rfl,M|O]:=y;show A i I J T c H (M xs l) (O ys n) p L
 .let e:i= ~~~ys:=by lia
  subst e;show .inl %[%[xs,ys,l,n,⋯,Zi _|.inr rfl]|B c H p]
abbrev bN(rows:ZB)(i:kj):hH ZB:=(q7 i).flatMap λj=>pF (rows.getD j ⟨([].toArray)⟩) (rows.getD (j+1) ⟨([].toArray)⟩)
def lF(rows:ZB)(i:kj):bN rows (i+1)=bN rows i++pF (rows.getD i ⟨([].toArray)⟩) (rows.getD (i+1) ⟨([].toArray)⟩):=by
 unfold bN;rw[NU,NO];simp
def yv(u r:lx): ~~~(pF u r)<= ~~~u:=by
 show n7 (M6 _ _) ?_;rw[Se];let: ~~~u.cps.toList= ~~~u:=by simp[Tj]
 lia
def mw(h:k∈bN rows (~~~rows-1)):∃a b,k=[sgn a,sgn b]/\yj rows a b:=by
 let%[j,d|g]:=Lf.mp h;let f:∀j h,rows.getD j ⟨([].toArray)⟩=rows[j]:=λj h=>by simp[h]
 let d:=wh.mp d;let%[%[a|b],i|e]:=LG.mp g;unfold gH at e
 split at e
 .rename_i h
  let%[q|c]:=Xd i;rw[Oe,f j ⋯,f _ ⋯]at c;show%[a,b,(Za e).symm,h.1,h.2,j,q,rows[j],rows[j+1],Z4 _,Z4 _,by simpa using c.1|by simpa using c.2]
 .lia
def sK(m:cH rows)(h:yj rows a b):Let rows a/\Let rows b:=by
 let%[n1,n,i,j,r,c,d,f,g|l]:=h;show%[%[n1,r,Z8 d|Z8 ↑g],λe=>n1 (m.fall i r c d f j a b g l e),c,Z8 f|Z8 ↑l]
def sM(rows:ZB)(h:rows≠[]):xv (rows\3) (hY 1) hX=(rows.drop 1)\3:=by
 unfold xv;rw[_HT.sIx_none,show(hY (1))∣((1:kj):pp)from rfl,_HT.sIx_nat,Z6,PQ (Mj.mpr h),<-UV,<-UU];rw[Zn (Yg▸Zi _)]
inductive zB
 | mk (rows:ZB):vs=[.str (ry nl rows)]->cH rows->qC rows->(∀l H' ss,ah H H'->H l=hX->H' l∣.lst (ss\0)->aF H' ss-> ~~~ss<=60->(∀t∈ss,∃a b,t.2=[sgn a,sgn b]/\Let rows a/\Let rows b)->(∀k,k∈ss\2↔k∈bN rows (~~~rows-1))->Q (.ref l) H')->zB vs H Q E0
def yw(T:Txt K mg):↥3 "meetings" ["text"] zB:=by
 show T.b3.cal eG (λH vs Q E h=>?_)
 .let%[rows,rfl,c,%[mm,ml|bb]|kk]:=h;show%[ρ|λf b1 A outer s hr=>?_];let%[wd,w1,w2|ab]:=c.wide;let hp:1<= ~~~rows:=c.pos;let bm:=c.high;let bc:rows≠[]:=Mj.mp hp;show%[_,%["KCG1H~:A0BCG2RBCQ~;A1A~h1~iD~jBjLJ3LJ4cEZ~k~l2AH]LA3A4BBEI*~<A~D~=A2BB",eG.nd|hr]|?_]
  change aU _ _ _ [hY (.str (ry nl rows)),hX,hX,hX,hX] H;show aj λD1 k1 r1=>?_
  lk;show%[rows,ρ,c|λR H1 s1 f1 hR=>k1 _ _ (aj λD2 k2 r2=>?_)];lk;show%[Xc _|λL hL=>k2 _ _ (aj λD3 k3 r3=>aw λbt hK=>?_)];let s2:=ah.Qb (o:= .lst []) hL;let G:=s2 _ _ hR;let I:Qb H1 L (.lst []) L<*[]:=aa;let fL:H L=hX:=s1.free hL;let ac:=s1.trans s2
  generalize Qb H1 L _=H2 at s2 G I ac
  lk;show%[_,Qc.of G|λp hp=>?_];rw[sM rows bc];let s3:=ah.Qb (o:= .lst ((rows.drop 1)\3)) hp;let J:=s3 _ _ G;let ae:=s3 _ _ I;let M:Qb H2 p (.lst ((rows.drop 1)\3)) p<*(rows.drop 1)\3:=aa;let ag:=ac.trans s3;let bd:L≠R:=λe=>by rw[e,hR]at hL;cases hL
  let be:p≠L:=λe=>by rw[e,I]at hp;cases hp
  generalize Qb H2 p _=H3 at s3 J ae M ag
  show%[%[_|Qc.of J],%[_|Qc.of M]|hK _ _ (wk (xs:=rows\3) (ys:=(rows.drop 1)\3) (λi σ l=>A5 (E2 λo3 o4=>σ=[hY (.str (ry nl rows)),!R,!L,o3,o4]) (ah H l) (l R<*rows\3) (l p<*(rows.drop 1)\3) (∃ps:ZG,A4 (l L∣.lst (ps\0)) (aF l ps) (ps\2=bN rows i) (~~~ps<=40*i))) %[%[hX,hX|ρ],ag,J,M,[],ae,fU _,ρ|Xc _] (by rw[Z6,Z6,Yg];lia) (λi σ l _ q=>%[Qc.of q.3|Qc.of q.4]) ?_ ?_)]
  .intro i x y TT σ l hx hy %[%[o3,o4|rfl],sm,al,an,ps,N,g,n|as] hT;rw[Zl]at hx hy;let%[u,hu|rfl]:=Ld.mp hx;let%[r,B|rfl]:=Ld.mp hy;rw[N3,Ss]at B;let b2:i+1< ~~~rows:=(Xj B).1;let ul: ~~~u=wd:=ab u (Z8 hu);let rl: ~~~r=wd:=ab r (Z8 B);let j:=ah.Qb (o:= .tup [V.str u,V.str r]) hT;let a0:Qb l TT (.tup [V.str u,V.str r]) TT&&&[V.str u,V.str r]:=aa;let a1:=j _ _ al;let a2:=j _ _ an;let v:=j _ _ N;let C:aF (Qb l TT (.tup [V.str u,V.str r])) ps:=aA g λb z e=>j _ _ e
   let a3:=sm.trans j
   generalize Qb l TT _=HT at j a0 a1 a2 v C a3
   show%[_,SqT.of a0,ρ,_,_,ρ,_,_,ρ,ρ|?_];show az λD4 k4 r4=>?_
   lk;show%[tyL (Qc.of v),u,r,ρ,⋯,⋯|λl4 H4 ps4 Y f4 h4 a4 e4=>?_];let b3:l4≠L:=λe=>by rw[e,v]at f4;cases f4
   let b0: ~~~ps4<=40:=by
    let: ~~~(ps4\2)= ~~~(pF u r):=by rw[e4]
    rw[Z6]at this;let:=yv u r
    lia
   show%[_,Y _ _ v,_,h4,by rw[Z6,Z6];show cE ⋯|k4 _ _ ?_];let O:∀b z,H4 b&&&z->Qb H4 L (.lst ((ps\0) ++ps4\0)) b&&&z:=λb z e=>by
    let:b≠L:=λe2=>by rw[e2,Y _ _ v]at e;cases e
    rw[ao this];show e
   let bf:R≠L:=J0 bd;show%[%[_,_|ρ],λb u' e=>?_,(ao bf)▸Y _ _ a1,(ao be)▸Y _ _ a2,ps++ps4,by rw[aa,Zd],aA (pG (aA C λb z e=>Y _ _ e) a4) O,?_|by rw[Z9];lia]
   .rw[ao (ax e fL)];show Y _ _ (a3 _ _ e)
   .rw[Zd,n,e4,lF];let g1:rows.getD i ⟨([].toArray)⟩=u:=by rw[Zc,hu];rfl
    let g2:rows.getD (i+1) ⟨([].toArray)⟩=r:=by rw[Zc,B];rfl
    rw[g1,g2]
  .intro σ l %[%[o3,o4|rfl],sm,al,an,ps,N,g,n|as];rw[Z6,Yg]at n;show k3 _ _ ?_;lk;let U:∀q∈ps,∃a b,q.2=[sgn a,sgn b]/\yj rows a b:=λq d=>mw (n▸Xn %[q,d|rfl])
   let a5:∀q∈ps,q.2∈mm:=λq d=>by
    let%[a,b,e|h]:=U q d;rw[e];show bb a b h
   show%[ps,Qc.of N,g,%[mm,⋯|a5]|λl5 bl=>?_];let s5:=ah.Qb (o:=oH P w l5 (bx ps)) bl;let few: ~~~(bx ps)<=60:=by
    let:=_ST.nodup_sub (eA ps) (m:=mm) λk hk=>by
     let%[q,d|rfl]:=Xm hk;show a5 q (bn ps q d)
    rw[Z6]at this
    lia
   show%[bx ps,aa,λq d=>%[(g q (bn ps q d)).1|s5 _ _ (g q (bn ps q d)).2],2,λq d=>?_,!1,⋯|λl6 ss a6 pm=>?_]
   .let%[a,b,e|_]:=U q (bn ps q d);rw[e];rfl
   let s6:=ah.Qb (o:= .lst (ss\0)) a6;show kk l6 _ ss ((sm.trans s5).trans s6) ((sm.trans s5).free a6) aa (λq d=>?_) (pm.length_eq▸few) (λq d=>?_) λk=>?_
   .let:=g q (bn ps q (pm.mem_iff.mp d));show%[this.1|s6 _ _ (s5 _ _ this.2)]
   .let%[a,b,e|h]:=U q (bn ps q (pm.mem_iff.mp d));show%[a,b,e|sK c h]
   .rw[(pm.map _).mem_iff,iA,n]
abbrev fV(z:lx):ri:=(decide (1<=(~~~z:pp))&&decide ((~~~z:pp)<=8))&&z.cps.toList.all fH
inductive pH
 | mk (z:lx):vs=[.str z]->fV z=iv->(∀H',ah H H'->Q (.bl iv) H')->pH vs H Q E0
inductive wn (K:ZA)
 | mk (z:lx) (p:kG) (ts:ZB):vs=[.str z,.ref p]->(Qc K H p (ts\3)\/SqT K H p (ts\3))->Q (.bl (decide (z∈ts))) H->wn K vs H Q E0
inductive pJ
 | mk (i:pp):vs=[.int i]-> -9999<=i->i<=9999->Q (.bl iv) H->pJ vs H Q E0
abbrev m7(c:ZB)(vs:ZM):Prop:=
 (∃w a b:lx,vs=[.str w,.str a,.str b]/\(w="later"\/w="same")/\a∈c/\b∈c/\a≠b)\/
 ∃w a y,vs=[.str w,.str a,.int y]/\(w="since"\/w="by")/\a∈c/\ -9999<=y/\y<=9999
inductive lG (K:ZA)
 | mk (t p xs ls):vs=[.ref t,.ref p]->H t&&&xs->Qc K H p (ls\3)->m7 ls xs->Q (.bl iv) H->lG K vs H Q E0
abbrev lnS(n z:lx):lx:=K3++n++pw "."++z
inductive jW
 | mk (n z:lx):vs=[.str n,.str z]-> ~~~n<=100-> ~~~z<=100->Q (.str (lnS n z)) H->jW vs H Q E0
def Ge(z:lx)(ts:ZB):inV (V.str z) (ts\3)=decide (z∈ts):=by
 unfold inV
 induction ts with
 | nil=>rfl
 | cons c r a=>
   change((c==z)||_)=_
   grind
def Bq(ts:ZB):(ts\3).all jL=iv:=by simp[jL]
def Br(T:Txt K mg):↥1 "is_name" ["thing"] pH:=by
 .exists T.aX,yk,y,N,%[z,rfl,B|k];show%[_,%["KCMkYvwA0A?1BEIiOEI'~b[[DefA0B]M)~c~dAoh?2~e0b0?3%n~'0~(B",0,(blE (v:= .ty "str") rfl T.ac Ub rfl rfl rfl),↑(["sign"],[])|↑["sign"]]|?_]
  change aU _ _ _ [-z] H;let a:=B;unfold fV at a;rw[Zv,Zv]at a;let%[%[C|q]|b]:=a;let O: ~~~z<=8:=by let:=Zo q;lia
  lk;show%[.type "str",.str z,iv,by rfl|?_];lk;show%[cE ⋯|?_];rw[md C,md q];show aK λr G=>?_
  lk;show G _ _ λD u=>?_
  show dI (J:=Its z) (n:=z.cps.size) (D:=D) (λi ys l d=>A4 (∃o,l=[o]) (ah H d) (d D<*ys) (ys=(z.cps.toList.take i).map (λc=>V.bl (fH c)))) %[%[hX|rfl],ah.Qb u,aa|rfl]
   (λi _ _ _ hi _=>hi) (λ_ _ _ _=>Zi _) ?_ ?_
  .intro i ys l d hi %[%[o|rfl],m,p|g] x U %[I,c,L|rfl];subst I;lk;let j: ~~~ys=i:=by
    rw[g,Z6,Yk];let: ~~~z.cps.toList=z.cps.size:=by simp
    lia
   let M:i<1000:=by
    let: ~~~z=z.cps.size:=rfl
    lia
   show CK.mk hi p (j▸aB ⋯) %[%[_|rfl],ah.set m u,aa|?_];rw[tO,g,<-jB z i c L,Zd]
   all_goals rfl
  .intro ys l d %[_,m,p|g];show%[(z.cps.toList.map fH),?_|?_]
   .let e:z.cps.toList.take z.cps.size=z.cps.toList:=by
     apply Zn;simp
    rw[e]at g;let:(z.cps.toList.map fH).map V.bl=ys:=by rw[g,Yq];rfl
    rw[this];show Qc.of p
   .let e:(z.cps.toList.map fH).all id=iv:=by
     rw[Vd];show b
    rw[e];show k d m
def cT(T:Txt K mg):↥1 "is_text_among" ["thing","texts"] (wn K):=by
 .exists T.ba,mj,a,c,%[z,p,ts,rfl,b|k];show%[_,%["KEI'vwA0A?1B)n]N01",0|(blE (v:= .ty "str") rfl T.ac Ub rfl rfl rfl)]|?_];change jH _ _ [hY _,hY _] H;lk;show%[.type _,.str z,iv,by rfl|?_];rw[<-Ge]at k;show%[_,b,ρ,Bq ts|k]
def Bs(T:Txt K mg):↥1 "is_year" ["thing"] pJ:=by
 .exists T.bb,yp,a,d,%[i,rfl,b,c|k];show%[_,%["KCMlukYvwA0A?1BxYvwA0A?2BEIiOEI~b[[]O0]P",0,(blE (v:= .ty "int") rfl T.ai Wa rfl rfl rfl)|(blE (v:= .ty "bool") rfl T.aj boot_bool rfl rfl rfl)]|?_]
  change aU _ _ _ [hY (.int i)] H;lk;show%[.type _,.int i,iv,by rfl,.type _,.int i,jg,by rfl|?_];rw[md (Zf b),Zf c];show k
def iH(T:Txt K mg):↥1 "layer_name" ["name","letter"] jW:=by
 .exists T.bc,qG,d,j,%[n,z,rfl,l,m|k];show%[_,%["KEI~>~F~m0~FU~F~m1~^"|0]|?_];change jH _ _ [-n,hY _] H;lk;let e:∀a b:lx,~~~(a++b)= ~~~a+ ~~~b:=λa b=>PL
  let g:K3.length=0:=rfl;let i:(!".").length=1:=rfl;let c:∀k,k<=1000->k<=mv:=λk o=>cE ⋯
  show%[c _ ⋯,c _ ?_,c _ ?_,c _ ⋯,c _ ?_,c _ ?_|k]<;> simp only[e,g,i]<;> lia
def wo(T:Txt K mg):↥2 "is_saying" ["thing","layers"] (lG K):=by
 .exists T.b9,uA,o,d,%[t,p,xs,g,rfl,n,i,ok|k];show%[_,%["KCMlukYvwA0A?1BxN~)efA0BDEIiOCMYH~GAV0DA]QBEI'H~GAV0DA1B'H~GAV0DA1B)n(V0DV0DOCMYH~GAV0DA]RBEI'H~GAV0DA1B)H]SAV0DBOEIi",0,(blE (v:= .ty "tuple") rfl T.ah UR rfl rfl rfl)|d]|?_]
  change aU _ _ _ [!t,!p] H;lk;show%[.type "tuple",.tup n,iv,by rfl|?_];let st:=SqT.of (K:=K) n;rcases ok with⟨c,a,b,rfl,hw,j,r,l⟩|⟨c,a,y,rfl,hw,j,u,z⟩
  .let m:decide (c∈([!"later",!"same"]:ZB))=iv:=by rcases hw with rfl|rfl<;> decide
   lk;show%[3,.inr %[_,st|ρ]|?_];rw[kw (!1)];show%[_,st,_,ρ|λq e=>%[c,q,[!"later",!"same"],ρ,.inr (e H)|?_]];rw[m];lk;show%[_,st,_,ρ,a,p,g,ρ,.inl i|?_];rw[Zf j];lk;show%[_,st,_,ρ,b,p,g,ρ,.inl i|?_];rw[Zf r];lk;show%[_,st,_,ρ,_,st,_,ρ,ρ|?_];rw[show(!decide (V.str a=V.str b))=iv from by simp[l]];show k
  .let m:decide (c∈([!"later",!"same"]:ZB))=jg:=by rcases hw with rfl|rfl<;> decide
   let B:decide (c∈([!"since",!"by"]:ZB))=iv:=by rcases hw with rfl|rfl<;> decide
   lk;show%[3,.inr %[_,st|ρ]|?_];rw[kw (!1)];show%[_,st,_,ρ|λq e=>%[c,q,[!"later",!"same"],ρ,.inr (e H)|?_]];rw[m];lk;show%[_,st,_,ρ|λq e=>%[c,q,[!"since",!"by"],ρ,.inr (e H)|?_]];rw[B];lk;show%[_,st,_,ρ,a,p,g,ρ,.inl i|?_];rw[Zf j];lk;show%[_,st,_,ρ,y,ρ,u,z|k]
abbrev bO(H:Hp)(cs:ZH):Prop:=∀p∈cs,H p.1&&&[.str p.2.1,.str (ry nl p.2.2)]/\fV p.2.1=iv/\cH p.2.2
def bO.up(h:bO H cs)(s:ah H b):bO b cs:=λp a=>%[s _ _ (h p a).1|(h p a).2]
inductive sN
 | mk (rows:ZB):vs=[.str (ry nl rows)]->cH rows->(∀H',ah H H'->Q (.bl iv) H')->sN vs H Q E0
inductive wp
 | mk (p:kG×lx×ZB):vs=[.ref p.1]->bO H [p]->(∀H',ah H H'->Q (.bl iv) H')->wp vs H Q E0
abbrev bA(cs:ZH):ZM:=cs\0
inductive jX
 | mk (l cs):vs=[.ref l]->H l<*bA cs->bO H cs->(cs.map λp=>p.2.1).Nodup->1<= ~~~cs-> ~~~cs<=8->(∀H',ah H H'->Q .non H')->jX vs H Q E0
abbrev cW(H:Hp)(a:ZB)(qs:ZN):Prop:=∀q∈qs,H q.1&&&q.2/\m7 a q.2
def cW.up(h:cW H b qs)(s:ah H c):cW c b qs:=λp a=>%[s _ _ (h p a).1|(h p a).2]
inductive gZ (K:ZA)
 | mk (l r ls qs):vs=[.ref l,.ref r]->H l∣.lst (qs\0)->H r<*ls\3->cW H ls qs-> ~~~qs<=60->(∀H',ah H H'->Q .non H')->gZ K vs H Q E0
def DY(T:Txt K mg):↥3 "is_cut" ["thing"] sN:=by
 .exists T.b7,Bm,b,c,%[rows,rfl,a|k];show%[_,(QSs.h (ai (Kr (λ_ _ h=>h) (ap (bC rfl (aJ (mr T) c rfl #[↑0]))))
   (ap (aL eBl))))|?_]
  change aU _ _ _ [hY (.str (ry nl rows))] H;lk;show%[rows,ρ,a|λl d e g i=>k d e]
def pK(T:Txt K mg):↥4 "is_named_cut" ["thing"] wp:=by
 .exists T.b6,nq,e,c,%[p,rfl,g|k];let%[b,i|a]:=g p (Yw.mpr rfl);show%[_,%["KEI'vwA0A?1B'n~gefA0BD'H]TAV0DB)H]UAV0DB",0,(blE (v:= .ty "tuple") rfl T.ah UR rfl rfl rfl)|c]|?_];change jH _ _ [hY _] H;lk;show%[.type _,.tup b,iv,by rfl|?_];let st:=SqT.of (K:=K) b;show%[2,.inr %[_,st|ρ],_,st,_,ρ,p.2.1,ρ,i|λm d=>?_];lk;show%[_,SqT.of (d _ _ b),_,ρ,p.2.2,ρ,a|λj l=>k j (d.trans l)]
def uD(T:Txt K mg):↥5 "check_cuts" ["cuts"] jX:=by
 .exists T.b5,eB,al,J,%[l,cs,rfl,C,L,M,h1,h8|k];let u: ~~~(bA cs)= ~~~cs:=Z6 _;show%[_,%["KCMlukYvwA0A?1BxN~gefA0BDE+OCG1yEQ~QA0BjLJ2LJ3cCMluNg2]VukYH]WA3Bx~nV3D1E+OEqi1V3D",eB.nd,(blE (v:= .ty "list") rfl T.a5 O8 rfl rfl rfl)|J]|?_]
  change aU _ _ _ [!l,hX,hX,hX] H;show aj λD1 k1 _=>?_
  lk;show%[.type "list",.lst C,iv,by rfl|?_];lk;show%[~~~cs,.inl %[_,Qc.of C|u.symm]|?_];rw[kw (by simp only[K9];lia)];show k1 _ _ (aj λD2 k2 _=>?_);lk;show λd N=>k2 _ _ (az λD3 k3 _=>aw λag hK=>?_)
  lk;show%[_,Qc.of (ah.Qb N _ _ C)|hK _ _ (ja (λi G c=>∃O U a,G=[!l,!d,O,U]/\ah H c/\c d∣.dK a/\a\1=(cs.take i).map λp=>lp p.2.1) %[hX,hX,[],ρ,ah.Qb N,aa|ρ] (λi G c _ ⟨_,_,_,_,q,_⟩=>Qc.of (q _ _ C)) ?_ ?_)]
  .intro i x TT G c I %[O,U,a,rfl,Y,y|g] hT;let hi:i< ~~~cs:=u▸(Xj I).1;obtain⟨q,hq,rfl⟩:∃q,cs[i]?∣q/\x=V.ref q.1:=by
    unfold bA at I;rw[Zl,Z4 hi]at I;show%[cs[i],Z4 hi|(Za I).symm]
   let b:ah H (Qb c TT (.tup [.int i,.ref q.1])):=Y.trans (ah.Qb hT);let z:Qb c TT (.tup [.int i,.ref q.1]) TT&&&[.int i,.ref q.1]:=aa;let r:=ah.Qb (o:= .tup [.int i,.ref q.1]) hT _ _ y
   generalize Qb c TT _=HT at b r z
   let m:=L q (Z8 hq);show%[_,SqT.of z,ρ,_,_,ρ,_,_,ρ,ρ|?_];change aU _ _ _ [!l,!d,hY (.int i),hY (.ref q.1)] HT;show aj λD4 k4 _=>?_
   lk;rw[kw (by simp only[K9];lia)];show%[q,ρ,λp hp=>(Xl hp)▸%[b _ _ m.1|m.2]|λH2 B=>%[iv,ρ|?_]];rw[kw ∅];let n:(lp q.2.1:Key)∉a\1:=by
    rw[g];intro hm;let%[q',ab|e]:=Xm hm;let e:q'.2.1=q.2.1:=Mg e;let%[j|hj]:=Xd ab;let ac:j<i:=by
     let:=(Xj hj).1;rw[Yk]at this
     lia
    rw[Yb ac]at hj;let n1:(cs.map λp=>p.2.1)[j]?∣q.2.1:=by rw[Zl,hj,<-e];rfl
    let:=gN M n1 (by rw[Zl,hq];rfl)
    lia
   show%[_,SqT.of (B _ _ (b _ _ m.1)),_,ρ,_,cr.k (k:=lp q.2.1) (B _ _ r)|?_];let hv:bV a (lp q.2.1:Key)=hX:=by
    cases e:bV a (lp q.2.1:Key)with
    | none=>rfl
    | some v=>show ow (Fs e) n
   rw[hv,kw ∅];show k4 _ _ (az λD5 k5 _=>?_);lk;let ae: ~~~a=i:=by
    let:=tI Lo g;rw[Z6,Z6,Yk]at this
    lia
   show%[_,SqT.of (B _ _ (b _ _ m.1)),_,ρ,_,fE.k (k:=lp q.2.1) (B _ _ r) (ae▸aB ⋯)|k5 _ _ %[_,_,_,ρ,ah.set (b.trans B) N,aa|?_]];rw[l7,kw n,g,X7,Zd,hq];rfl
  .intro G c %[O,U,a,rfl,Y,y|g];show k3 _ _ (k c Y)
def ny(T:Txt K mg):↥3 "check_sayings" ["sayings","layers"] (gZ K):=by
 .exists T.b8,d9,B,C,%[l,r,y,qs,rfl,g,j,m,G|k];show%[_,%["KCMkYvwA0A?1BE+OEQ~QA0BjLJ2LJ3cEMluNg2]XxkYH]YA3A1BE+O",d9.nd,(blE (v:= .ty "list") rfl T.a5 O8 rfl rfl rfl)|C]|?_]
  change aU _ _ _ [!l,!r,hX,hX] H;show aj λO k1 _=>?_
  lk;show%[.type "list",.lst g,iv,by rfl|?_];lk;show k1 _ _ (az λU I _=>aw λz J=>?_);lk;show%[_,Qc.of g|J _ _ (ja (λi e b=>E2 λn o=>e=[!l,!r,n,o]/\ah H b) %[hX,hX,ρ|ah.refl H] (λi e b _ ⟨_,_,_,q⟩=>Qc.of (q _ _ g)) ?_ ?_)]
  .intro i x TT e b p %[n,o,rfl|u] L;let hi:i< ~~~qs:=(Z6 _)▸(Xj p).1;obtain⟨q,M,rfl⟩:∃q,qs[i]?∣q/\x=V.ref q.1:=by
    rw[Zl,Z4 hi]at p;show%[qs[i],Z4 hi|(Za p).symm]
   let a:ah H (Qb b TT (.tup [.int i,.ref q.1])):=u.trans (ah.Qb L);let c:Qb b TT (.tup [.int i,.ref q.1]) TT&&&[.int i,.ref q.1]:=aa
   generalize Qb b TT _=HT at a c
   let d:=m q (Z8 M);show%[_,SqT.of c,ρ,_,_,ρ,_,_,ρ,ρ|?_];change jZ _ _ _ _ [!l,!r,hY (.int i),hY (.ref q.1)] HT;show az λY N _=>?_
   lk;rw[kw ⋯];show%[q.1,r,q.2,y,ρ,a _ _ d.1,Qc.of (a _ _ j),d.2,iv,ρ|?_];rw[kw ∅];show N _ _ %[_,_,rfl|a]
  .intro e b %[n,o,rfl|u];show I _ _ (k b u)
abbrev lyr(p:kG×lx×ZB):ZB:=(aV ((cL p.2.2).map sgn)).map (lnS p.2.1)
inductive lH
 | mk (l cs):vs=[.ref l]->H l<*bA cs->bO H cs-> ~~~cs<=8-> ~~~(cs.flatMap lyr)<=63->(∀r H' (ls:ZB),ah H H'->H r=hX->H' r<*ls\3->ls.Perm (cs.flatMap lyr)->ls.Pairwise (λa b=>aN b a=jg)->Q (.ref r) H')->lH vs H Q E0
abbrev dR(c:ZB)(k:ZB):Prop:=∃a b z,k=[a,b,z]/\a∈c/\b∈c
abbrev Sml(z:lx):Prop:= ~~~z<=30/\∀c∈z.cps.toList,c<16^8
abbrev Bt(a:ZB)(k:ZB):Prop:=dR a k/\∀z∈k,Sml z
def wq(h:fV z=iv):Sml z:=by
 unfold fV at h;rw[Zv,Zv]at h;show%[⋯|λc a=>?_];let:=(rK.mp (Mu.mp h.2 c a)).2
 lia
def Sml.app{a b:lx}(f:∀c∈a.cps.toList,c<16^8)(g:∀c∈b.cps.toList,c<16^8):∀c∈(a++b).cps.toList,c<16^8:=λc d=>by
 let e:(a++b).cps.toList=a.cps.toList++b.cps.toList:=Xb;rw[e]at d;show(Xk d).elim (f c) (g c)
def Gf(h:c<1000):∀x∈(sgn c).cps.toList,x<16^8:=λx a=>by
 let e:=by simpa [sgn]using a
 lia
def mx{c:kj}(h:fV n=iv)(d:c<1000):Sml (lnS n (sgn c)):=by
 let e:∀a b:lx,~~~(a++b)= ~~~a+ ~~~b:=λa b=>PL
 let l: ~~~n<=8:=by
  unfold fV at h
  grind
 show%[?_|Sml.app (Sml.app (Sml.app (λc d=>(nomatch d)) (wq h).2) (!0)) (Gf d)];unfold lnS;rw[e,e,e,show K3.length=0 from rfl,show(!".").length=1 from rfl,show(sgn c).length=1 from rfl]
 lia
def yx(h:cH rows)(l:Let rows c):c<1000:=by
 let:=(rK.mp (jz h.sign c (eZ.mpr l))).2
 lia
def Gg(b:fV p.2.1=iv)(d:cH p.2.2):∀z∈lyr p,Sml z:=λz e=>by
 let%[y,f|rfl]:=Xm e;let%[c,a|rfl]:=Xm (aX.mp f);show mx b (yx d (eZ.mp a))
def Ju(e:Sml a)(f:Sml b)(g:Sml c):∀z∈[a,b,c],Sml z:=λz d=>by
 simp only[Yu,X3,LA]at d;rcases d with rfl|rfl|rfl
 .show e
 .show f
 .show g
def Gh(i:kj)(h:i<=100):Sml (K3++pw "#"++pw (toString (i:pp))):=by
 let all:∀j:Fin 101,Sml (K3++pw "#"++pw (toString ((j.1)))):=by
  unfold Sml;decide +kernel
 show all %[i|⋯]
def dR.three(h:dR c k): ~~~k=3:=by
 let%[a,b,z,rfl|_]:=h;rfl
def dR.mono(h:dR c k)(s:∀x∈c,x∈d):dR d k:=by
 let%[a,b,z,e,f|g]:=h;show%[a,b,z,e,s a f|s b g]
def iI(h:Let p.2.2 a):lnS p.2.1 (sgn a)∈lyr p:=
 Xn %[_,aX.mpr (Xn %[a,eZ.mpr h|rfl])|rfl]
abbrev lI(n:lx)(k:ZB):ZB:=k.map (lnS n) ++[n]
abbrev uE(i:kj):lx:=K3++pw "#"++pw (toString (i:pp))
abbrev cx(cs:ZH):hH ZB:=cs.flatMap λp=>(bN p.2.2 (~~~p.2.2-1)).map (lI p.2.1)
abbrev gM(i:kj):ZM->lX ZB
 |[.str w,.str a,.str b]=>if w=pw "later" then hY [a,b,uE i]else hX
 | _=>hX
abbrev cy(qs:ZN)(n:kj):hH ZB:=(q7 n).filterMap λj=>qs[j]?.bind λq=>gM j q.2
def lJ{cs:hH _}{i:kj}{q:kG×lx×ZB}(a:cs[i]?∣q):cx (cs.take (i+1))=cx (cs.take i) ++(bN q.2.2 (~~~q.2.2-1)).map (lI q.2.1):=by
 unfold cx;rw[X7,a,NO];change _++([q].flatMap _)=_;rw[RY]
def eS(a:qs[i]?∣q):cy qs (i+1)=cy qs i++(gM i q.2).toList:=by
 unfold cy;rw[NU,Y0];show tI _ ?_;rw[Y1,a];rw[Qe];cases gM i q.2<;> rfl
inductive lK
 | mk (l cs):vs=[.ref l]->H l<*bA cs->bO H cs->(∀p∈cs,qC p.2.2)-> ~~~cs<=3->(∀r H' ts,ah H H'->H r=hX->H' r∣.lst (ts\0)->aF H' ts->(∀t∈ts,Bt (cs.flatMap lyr) t.2)-> ~~~ts<=180->(∀k,k∈ts\2↔k∈cx cs)->Q (.ref r) H')->lK vs H Q E0
inductive lL
 | mk (l ls qs):vs=[.ref l]->H l∣.lst (qs\0)->cW H ls qs->(∀z∈ls,Sml z)-> ~~~qs<=63->(∀r H' ts,ah H H'->H r=hX->H' r∣.lst (ts\0)->aF H' ts->(∀t∈ts,Bt ls t.2)-> ~~~ts<= ~~~qs->ts\2=cy qs qs.length->Q (.ref r) H')->lL vs H Q E0
def g9{z:lx}(h:fV z=iv): ~~~z<=8:=by
 unfold fV at h
 grind
def ki{cs:hH kj}{z:lx}(h:z∈aV (cs.map sgn)):∃c∈cs,z=sgn c:=by
 let:=aX.mp h;let%[c,a|rfl]:=Xm this;show%[c,a|ρ]
def wt(T:Txt K mg):↥4 "layers_of" ["cuts"] lH:=by
 .exists T.bd,eQ,ae,hr,%[l,cs,rfl,hl,G,h8,ag|k];let m: ~~~(bA cs)= ~~~cs:=Z6 _;show%[_,%["KCG1RBCQT0jL~o2stLJ3cEZ~k~l1Aoh?1TH]ZA3Bb0?2%H~pAS1A0BBEI*]aA1B",eQ.nd,↑(["letter","name"],[(1,2)]),↑["letter","name"]|hr]|?_]
  change aU _ _ _ [!l,hX,hX,hX] H;show aj λD1 k1 _=>?_
  lk;show%[Xc _|λL I=>k1 _ _ (aj λD2 k2 _=>aw λn J=>?_)];lk;show%[%[_|Qc.of (ah.Qb I _ _ hl)]|J _ _ (eC (λi d a=>E2 λM N=>A3 (d=[!l,!L,M,N]) (ah H a) (∃e:ZB,A3 (a L<*e\3) (e.Perm ((cs.take i).flatMap lyr)) (~~~e<=26*i)))
   %[hX,hX,ρ,ah.Qb I,[],aa,LL _|Xc _] (λi d a _ ⟨_,_,_,q,_⟩=>Qc.of (q _ _ hl)) ?_ ?_)]
  .intro i x d a y %[M,N,rfl,p,e,B,u|O];let hi:i< ~~~cs:=m▸(Xj y).1;obtain⟨q,hq,rfl⟩:∃q,cs[i]?∣q/\x=V.ref q.1:=by
    unfold bA at y;rw[Zl,Z4 hi]at y;show%[cs[i],Z4 hi|(Za y).symm]
   let b:=G q (Z8 hq);show%[_,SqT.of (p _ _ b.1),ρ,_,_,ρ,_,_,ρ,ρ|az λD3 k3 _=>?_];change mE _ _ [!l,!L,hY (.str q.2.1),hY (.str (ry nl q.2.2))] a;lk;show%[tyL (Qc.of B)|aK λn J=>?_];lk;show%[q.2.2,ρ,b.2.2|λl2 H2 ss s2 f2 h2 U=>?_];lk;show%[%[_|Qc.of h2]|J _ _ λF hF=>?_];let few: ~~~ss<=26:=U.length_eq▸j7 λc hc=>jz b.2.2.sign c hc
   let one:∀z∈ss,~~~z=1:=λz hz=>by
    let%[c,_|rfl]:=ki (U.mem_iff.mp hz);rfl
   show cP (λj ts d a=>A4 (∃o,d=[o,hY (.str q.2.1)]) (ah H2 a) (a F<*ts) (ts=((ss.take j).map (lnS q.2.1))\3))
    %[%[hX|rfl],ah.Qb hF,aa|rfl] (λ_ _ _ a Y=>Y.2 _ _ h2) ?_ ?_
   .intro j ts d H4 hj %[%[o|rfl],C,ab|g];lk;show%[_,_,ρ,by let:=g9 b.2.1;lia,by rw[one _ (Yc hj)];decide|CK.mk hj ab (by rw[g,Z6,Z6,Yk];show aB ⋯) %[%[_|ρ],ah.set C hF,aa|?_]];rw[g,X7,Zd,Zd,Z4 hj];rfl
   intro ts d H3 %[_,C,ac|g];rw[Zn (Zi _)]at g;lk;show%[_,C _ _ (s2 _ _ B),_,ac,(by rw[g,Z6,Z6,Z6];show cE ⋯)|k3 _ _ %[_,_,ρ,ah.set (p.trans (s2.trans C)) I,e++ss.map (lnS q.2.1),?_,?_|?_]]
   .rw[aa,g,Zd]
   .rw[X7,hq,NO];show u.append ?_;change K2 _ ([q].flatMap lyr);rw[RY];show U.map _
   .rw[Z9,Z6]
    lia
  .intro d a %[M,N,rfl,p,e,B,u|O];show k2 _ _ ?_;lk;rw[m,Zn (Zi _)]at u;show%[e,Qc.of B,by rw[u.length_eq];lia|λr ss v p' q'=>k r _ ss (p.trans (ah.Qb v)) (p.free v) aa (p'.trans u) q']
def pL(T:Txt K mg):↥4 "ties_of_cuts" ["cuts"] lK:=by
 .exists T.be,cc,bb,hr,%[l,cs,rfl,hl,a4,a5,h8|k];let ae: ~~~(bA cs)= ~~~cs:=Z6 _;show%[_,%["KCG1RBCQT0jLJ2LJ3cEQTH]bA3BjLJ4LJ5cEZpm1AdAH~pA2A4BAH~pA2A5BA2BBEI1",cc.nd|hr]|?_]
  change aU _ _ _ [!l,hX,hX,hX,hX,hX] H;show aj λD1 k1 _=>?_
  lk;show%[Xc _|λL hL=>k1 _ _ (aj λD2 k2 _=>aw λag hK=>?_)];lk;show%[%[_|Qc.of (ah.Qb hL _ _ hl)]|hK _ _ (eC (λi B G=>E4 λo2 o3 I J=>A3 (B=[!l,!L,o2,o3,I,J]) (ah H G) (∃ts:ZG,A5 (G L∣.lst (ts\0)) (aF G ts) (∀t∈ts,Bt (cs.flatMap lyr) t.2) (~~~ts<=60*i) (∀k,k∈ts\2↔k∈cx (cs.take i))))
   %[hX,hX,hX,hX,ρ,ah.Qb hL,[],aa,fU _,λt ht=>(nomatch ht),Xc _|λk=>Nz] (λi B G _ ⟨_,_,_,_,_,q,_⟩=>Qc.of (q _ _ hl)) ?_ ?_)]
  .intro i x B G M %[o2,o3,I,J,rfl,sm,ts,hm,U,Y,al|d];let hi:i< ~~~cs:=by rw[<-ae];show(Xj M).1
   obtain⟨q,hq,rfl⟩:∃q,cs[i]?∣q/\x=V.ref q.1:=by
    unfold bA at M;rw[Zl,Z4 hi]at M;show%[cs[i],Z4 hi|(Za M).symm]
   let g:=a4 q (Z8 hq);show%[_,SqT.of (sm _ _ g.1),ρ,_,_,ρ,_,_,ρ,ρ|?_];show az λD3 k3 _=>?_
   change tf _ _ _ _ [!l,!L,hY (.str q.2.1),hY (.str (ry nl q.2.2)),I,J] G;show aw λag hK=>?_
   lk;let qm:=Z8 hq;show%[q.2.2,ρ,g.2.2,a5 q qm|?_];intro l2 H2 ss s2 f2 h2 t2 few an all2;let a6:=g9 g.2.1;let as:l2≠L:=λe=>by rw[e,hm]at f2;cases f2
   let a0: ~~~(ss\0)= ~~~ss:=Z6 _;show%[%[_|Qc.of h2]|hK _ _ (eC (xs:=ss\0) (λj B y=>E2 λI J=>A5 (B=[!l,!L,hY (.str q.2.1),hY (.str (ry nl q.2.2)),I,J]) (ah H y) (y l2∣.lst (ss\0)) (aF y ss) (∃c:ZG,A5 (y L∣.lst (c\0)) (aF y c) (∀t∈c,Bt (cs.flatMap lyr) t.2) (~~~c<=60*i+j) (c\2=ts\2 ++((ss.take j)\2).map (lI q.2.1))))
    %[_,_,ρ,sm.trans s2,h2,t2,ts,s2 _ _ hm,aA U λb z e=>s2 _ _ e,Y,⋯|(Zx _).symm] (λj B y _ ⟨_,_,_,_,q,_,_⟩=>Qc.of q) ?_ ?_)]
   .intro j x B y M %[I,J,rfl,ab,a1,n,c,C,r,ac,u|m];let hj:j< ~~~ss:=a0▸(Xj M).1;rw[Zl,Z4 hj]at M;obtain rfl:x=V.ref ss[j].1:=(Za M).symm;let N:=Yc hj;let%[a,b,a2,la|lb]:=an _ N;let O:=(n _ N).2;rw[a2]at O;show%[_,SqT.of O,ρ,_,_,ρ,_,_,ρ,ρ|az λD4 k4 _=>?_];lk;show%[tyL (Qc.of C),q.2.1,sgn a,ρ,⋯,(show 1<=100 by decide)|?_];show%[q.2.1,sgn b,ρ,⋯,(show 1<=100 by decide)|?_];show%[#[3]|λp hp=>?_];let sp:=ah.Qb (o:= .tup [V.str (lnS q.2.1 (sgn a)),V.str (lnS q.2.1 (sgn b)),V.str q.2.1]) hp;let gp:Qb y p (.tup [V.str (lnS q.2.1 (sgn a)),V.str (lnS q.2.1 (sgn b)),V.str q.2.1]) p=_:=aa
    generalize Qb y p _=H4 at sp gp
    let a3:=sp _ _ C;let v:∀b z,H4 b&&&z->Qb H4 L (.lst (c\0 ++[V.ref p])) b&&&z:=λb z e=>by
     let:b≠L:=λe2=>by rw[e2,a3]at e;cases e
     rw[ao this];show e
    show%[_,a3,by rw[Z6];show P4 (show ~~~c<=10000 by lia) (!1)|k4 _ _ %[_,_,ρ,ah.set (ab.trans sp) hL,(ao as)▸sp _ _ a1,aA (aA n λb z e=>sp _ _ e) v,c++[(p,[lnS q.2.1 (sgn a),lnS q.2.1 (sgn b),q.2.1])],?_,?_,?_,?_|?_]]
    .rw[aa,Zd];rfl
    .show aA (fh (aA r λb z e=>sp _ _ e) ∅ gp) v
    .intro t ht;rcases Xk ht with z|z
     .show ac t z
     .rw[Xl z];show%[%[_,_,_,ρ,Lf.mpr %[q,qm|iI la]|Lf.mpr %[q,qm|iI lb]]|Ju (mx g.2.1 (yx g.2.2 la)) (mx g.2.1 (yx g.2.2 lb)) (wq g.2.1)]
    .rw[Z9,Yj];lia
    .rw[Zd,m,Ze,X7,Z4 hj,Zd,Zd];change _++(_++[_])=_++(_++[lI q.2.1 ss[j].2]);rw[a2];rfl
   .intro B y %[I,J,rfl,ab,a1,n,c,C,r,ac,u|m];rw[a0]at u m;rw[Zn (Zi _)]at m;show k3 _ _ %[_,_,_,_,rfl,ab,c,C,r,ac,⋯|λk=>?_];rw[m,lJ hq,Yr,Yr,d,N1,N1];show PP Nz (Th λz=>Sk λ_=>all2 z)
  .intro B G %[o2,o3,I,J,rfl,sm,ts,hm,U,Y,al|d];show k2 _ _ ?_;lk;rw[ae]at al d;rw[Zn (Zi _)]at d;show k L G ts sm hL hm U Y ⋯ d
def lM(T:Txt K mg):↥1 "ties_of_sayings" ["sayings"] lL:=by
 .exists T.bf,cN,al,hr,%[l,N,qs,rfl,hl,ab,r,an|k];let G: ~~~(qs\0)= ~~~qs:=Z6 _;show%[_,%["KCG1RBCQ~QA0BjLJ2LJ3cEMNgV3DUEZpm1AdAV3DAV3DA~>~FU~F~m2~^BBOEI1"|cN.nd]|?_]
  change aU _ _ _ [!l,hX,hX,hX] H;show aj λD1 k1 _=>?_
  lk;show%[Xc _|λL O=>k1 _ _ (aj λD2 k2 _=>aw λae hK=>?_)];lk;show%[_,Qc.of (ah.Qb O _ _ hl)|hK _ _ (ja (λi U n=>E2 λo2 o3=>A3 (U=[!l,!L,o2,o3]) (ah H n) (∃ts:ZG,A5 (n L∣.lst (ts\0)) (aF n ts) (∀t∈ts,Bt N t.2) (~~~ts<=i) (ts\2=cy qs i)))
   %[hX,hX,ρ,ah.Qb O,[],aa,fU _,λt ht=>(nomatch ht),Xc _|ρ] (λi U n _ ⟨_,_,_,q,_⟩=>Qc.of (q _ _ hl)) ?_ ?_)]
  .intro i x TT U n hx %[o2,o3,rfl,sm,ts,hm,u,g,v|d] hT;let hi:i< ~~~qs:=by rw[<-G];show(Xj hx).1
   obtain⟨q,Y,rfl⟩:∃q,qs[i]?∣q/\x=V.ref q.1:=by
    rw[Zl,Z4 hi]at hx;show%[qs[i],Z4 hi|(Za hx).symm]
   let s0:=ah.Qb (o:= .tup [.int i,.ref q.1]) hT;let j:ah H (Qb n TT (.tup [.int i,.ref q.1])):=sm.trans s0;let I:Qb n TT (.tup [.int i,.ref q.1]) TT&&&[.int i,.ref q.1]:=aa;let m:=s0 _ _ hm;let c:=aA u λb z e=>s0 _ _ e
   generalize Qb n TT _=HT at j I m c
   let J:=ab q (Z8 Y);show%[_,SqT.of I,ρ,_,_,ρ,_,_,ρ,ρ|?_];change jZ _ _ _ _ [!l,!L,hY (.int i),hY (.ref q.1)] HT;show az λD4 k4 _=>?_
   lk;let st:=SqT.of (K:=K) (j _ _ J.1);let ag: ~~~(pw (toString (i:pp)))<=21:=by
    let e:=PySem.int_text_length_le10 (a:=(i:pp)) (k:=20) (!1) (by let:(i:pp).natAbs=i:=rfl;lia);rw[PySem.ofString_length];lia
   let e1:(K3++pw "#").length=1:=!0
   let ea:∀a b:lx,~~~(a++b)= ~~~a+ ~~~b:=λa b=>PL
   let add:∀a b:lx,a∈N->b∈N->gM i q.2∣[a,b,uE i]->∀p,HT p=hX->∃x,Qb HT p (.tup [.str a,.str b,V.str (K3++pw "#"++pw (toString (i:pp)))]) L<*x/\ ~~~x<mv/\D4.nx [!l,!L,hY (.int i),hY (.ref q.1)] (Qb (Qb HT p (.tup [.str a,.str b,V.str (K3++pw "#"++pw (toString (i:pp)))])) L (.lst (x++[V.ref p]))):=by
    intro a b ma mb ac p hp;let tn:=eS Y;rw[ac,<-d]at tn;unfold uE at tn
    generalize hz:K3++pw "#"++pw (toString (i:pp))=z at tn ⊢
    let sp:=ah.Qb (o:= .tup [V.str a,V.str b,V.str z]) hp;let gp:Qb HT p (.tup [V.str a,V.str b,V.str z]) p=_:=aa
    generalize Qb HT p _=H4 at sp gp
    let M:=sp _ _ m;let B:∀b z,H4 b&&&z->Qb H4 L (.lst (ts\0 ++[V.ref p])) b&&&z:=λb z e=>by
     let:b≠L:=λe2=>by rw[e2,M]at e;cases e
     rw[ao this];show e
    show%[_,M,by rw[Z6];show aB ⋯|k4 _ _ %[_,_,ρ,ah.set (j.trans sp) O,ts++[(p,[a,b,z])],?_,?_,?_,?_|?_]]
    .rw[aa,Zd];rfl
    .show aA (fh (aA c λb z e=>sp _ _ e) ∅ gp) B
    .intro t ht;rcases Xk ht with z|z
     .show g t z
     .rw[Xl z];show%[%[_,_,_,ρ,ma|mb]|Ju (r a ma) (r b mb) (hz▸Gh i ⋯)]
    .rw[Z9,Yj];lia
    .rw[tn,Zd];rfl
   rcases J.2 with⟨wd,a,b,e,hw,ma,mb,_⟩|⟨wd,a,y,e,hw,_⟩
   .rw[e]at st;show%[_,st,_,ρ,ρ|bT (λC=>?_) λC=>?_]
    .show%[tyL (Qc.of m),_,st,_,ρ,_,st,_,ρ,cE ⋯,?_,cE (by rw[ea];lia),cE (by rw[ea];lia),#[3]|add a b ma mb (e▸md (V.str.inj (Zo C)))];let:(i:pp).natAbs=i:=rfl
     lia
    .show k4 _ _ %[_,_,rfl,j,ts,m,c,g,⋯|?_];rw[eS Y,e,show gM i [V.str wd,V.str a,V.str b]=hX from kw λz=>C (Zf (by rw[z])),d];show(Zx _).symm
   .rw[e]at st;show%[_,st,_,ρ,ρ|?_];rw[kw (by rcases hw with rfl|rfl<;> decide)];show k4 _ _ %[_,_,rfl,j,ts,m,c,g,⋯|?_];rw[eS Y,e,d];show(Zx _).symm
  .intro U n %[o2,o3,rfl,sm,ts,hm,u,g,v|d];show k2 _ _ ?_;lk;rw[G]at v d;show k L n ts sm O hm u g v d
structure GrF (mg:ZC) (H:Hp) (g c2 c3 c4:kG) (qs:ZN) (ls:ZB) (ts:ZG):Prop where
 at_:∃dx c1,H g∣.ins (aC mg "Ground") dx [("kept_cuts",.ref c1),("kept_sayings",.ref c2),("kept_layers",.ref c3),("kept_ties",.ref c4)]
 a2:H c2∣.lst (qs\0)
 a3:H c3<*ls\3
 a4:H c4∣.lst (ts\0)
 sa:cW H ls qs
 tu:aF H ts
def GrF.up(h:GrF mg H g c2 c3 a qs c ts)(s:ah H d):GrF mg d g c2 c3 a qs c ts:=by
 let%[f,c1|i]:=h.at_;show%[%[f,c1|s _ _ i],s _ _ h.a2,s _ _ h.a3,s _ _ h.a4,h.sa.up s|aA h.tu λb z e=>s _ _ e]
inductive sO (mg:ZC)
 | mk (g c2 c3 c4 qs ls ts):vs=[.ref g]->GrF mg H g c2 c3 c4 qs ls ts->(∀l,H l=hX->Q (.ref l) (Qb H l (.lst (ls\3))))->sO mg vs H Q E0
inductive pM (mg:ZC)
 | mk (g c2 c3 c4 qs ls ts):vs=[.ref g]->GrF mg H g c2 c3 c4 qs ls ts->(∀l,H l=hX->Q (.ref l) (Qb H l (.lst (qs\0))))->pM mg vs H Q E0
inductive zC (mg:ZC)
 | mk (g c2 c3 c4 qs ls ts):vs=[.ref g]->GrF mg H g c2 c3 c4 qs ls ts->(∀l,H l=hX->Q (.ref l) (Qb H l (.lst (ts\0))))->zC mg vs H Q E0
inductive uF (mg:ZC)
 | mk (g l m dx cs qs):vs=[.ref g,.ref l,.ref m]->H g∣.ins (aC mg "Ground") dx []->H l<*bA cs->H m∣.lst (qs\0)->bO H cs->(cs.map λp=>p.2.1).Nodup->1<= ~~~cs-> ~~~cs<=3->(∀p∈cs,qC p.2.2)-> ~~~(cs.flatMap lyr)<=63->(∀ls,ls.Perm (cs.flatMap lyr)->cW H ls qs)-> ~~~qs<=36->(∀H' ls ts c2 c3 c4,(∀b o,b≠g->H b∣o->H' b∣o)->GrF mg H' g c2 c3 c4 qs ls ts->(∀t∈ts,Bt ls t.2)->(∀z∈ls,Sml z)->(∀k,k∈ts\2↔k∈cx cs\/k∈cy qs qs.length)-> ~~~ts<=250->ls.Perm (cs.flatMap lyr)->ls.Pairwise (λa b=>aN b a=jg)->Q .non H')->uF mg vs H Q E0
def wu(T:Txt K mg):FW P w K mg base 6 "Ground" ["self","cuts","sayings"] (uF mg):=by
 .exists T.i_Ground,fT,be,hr,%[g,l,m,c,cs,qs,rfl,L,hl,hm,d,an,h1,h8,as,a0,v,bf|k];let h3:=h8;let h8: ~~~cs<=8:=by lia
  show%[_,%["KCZH]cA1BCG3H]dA1BCZH]eA2A3BC~R0,/A1BC~R0,/A2BC~R03E~R0*]fAF]gH]hA1BH]iA2BB",fT.nd|hr]|?_]
  change aU _ _ _ [!g,!l,!m,hX] H;show aj λD1 k1 _=>?_
  lk;show%[l,cs,ρ,hl,d,an,h1,⋯|λH1 s1=>k1 _ _ (aj λD2 k2 _=>?_)];lk;show%[l,cs,ρ,s1 _ _ hl,d.up s1,h8,a0|λr H2 y s2 f2 h2 M q2=>k2 _ _ (aj λD3 k3 _=>?_)];let N:=s1.trans s2;lk;show%[m,r,y,qs,ρ,N _ _ hm,h2,(v y M).up N,⋯|λH3 s3=>k3 _ _ (aj λD4 k4 _=>?_)];let j:=N.trans s3;let OC:=T.o_Ground.cls;let ac:∀z∈y,Sml z:=λz hz=>by
   let%[p,n|hz]:=Lf.mp (M.mem_iff.mp hz);show Gg (d p n).2.1 (d p n).2.2 z hz
  let gl:l≠g:=λe=>by rw[e,L]at hl;cases hl
  let gm:m≠g:=λe=>by rw[e,L]at hm;cases hm
  let gr:r≠g:=λe=>by rw[e,s1 _ _ L]at f2;cases f2
  lk;show%[_,.inl (Qc.of (j _ _ hl))|λc1 B=>%[_,_,_,ah.Qb B _ _ (j _ _ L),OC,T.n_Ground_kept_cuts,(by change 0<1000;decide)|k4 _ _ (aj λD5 k5 _=>?_)]];let a1:c1≠g:=λe=>by rw[e,j _ _ L]at B;cases B
  let a2:=ah.Qb (o:= .lst (bA cs)) B;let b4:∀b o,b≠g->H3 b∣o->Qb (Qb H3 c1 (.lst (bA cs))) g (.ins (aC mg "Ground") c (d0 (!"kept_cuts") (V.ref c1) [])) b∣o:=λb o a e=>by rw[ao a];show a2 _ _ e
  let g4:Qb (Qb H3 c1 (.lst (bA cs))) g (.ins (aC mg "Ground") c (d0 (!"kept_cuts") (V.ref c1) [])) g∣.ins (aC mg "Ground") c [("kept_cuts",V.ref c1)]:=aa;let a4:Qb (Qb H3 c1 (.lst (bA cs))) g (.ins (aC mg "Ground") c (d0 (!"kept_cuts") (V.ref c1) [])) c1<*bA cs:=by rw[ao a1];show aa
  generalize Qb (Qb H3 c1 (.lst (bA cs))) g _=H4 at b4 g4 a4
  let n4:∀b,H4 b=hX->b≠g:=λb a e=>by rw[e,g4]at a;cases a
  lk;show%[_,.inl (Qc.of (b4 _ _ gm (j _ _ hm)))|λc2 O=>%[_,_,_,ah.Qb O _ _ g4,OC,T.n_Ground_kept_sayings,(by change 1<1000;decide)|k5 _ _ (aj λD6 k6 _=>?_)]];let U:=n4 c2 O;let sc2:=ah.Qb (o:= .lst (qs\0)) O;let b5:∀b o,b≠g->H4 b∣o->Qb (Qb H4 c2 (.lst (qs\0))) g (.ins (aC mg "Ground") c (d0 (!"kept_sayings") (V.ref c2) [("kept_cuts",V.ref c1)])) b∣o:=λb o a e=>(ao a)▸sc2 _ _ e
  let g5:Qb (Qb H4 c2 (.lst (qs\0))) g (.ins (aC mg "Ground") c (d0 (!"kept_sayings") (V.ref c2) [("kept_cuts",V.ref c1)])) g∣.ins (aC mg "Ground") c [("kept_cuts",V.ref c1),("kept_sayings",V.ref c2)]:=by rw[aa];rfl
  let a5:Qb (Qb H4 c2 (.lst (qs\0))) g (.ins (aC mg "Ground") c (d0 (!"kept_sayings") (V.ref c2) [("kept_cuts",V.ref c1)])) c2∣.lst (qs\0):=(ao U)▸aa
  generalize Qb (Qb H4 c2 (.lst (qs\0))) g _=H5 at b5 g5 a5
  lk;show%[_,_,_,g5,OC,T.n_Ground_kept_layers,(by change 2<1000;decide)|k6 _ _ (az λD7 k7 _=>?_)];let b6:∀b o,b≠g->H5 b∣o->Qb H5 g (.ins (aC mg "Ground") c (d0 (!"kept_layers") (V.ref r) [("kept_cuts",V.ref c1),("kept_sayings",V.ref c2)])) b∣o:=λb o a e=>(ao a)▸e
  let g6:Qb H5 g (.ins (aC mg "Ground") c (d0 (!"kept_layers") (V.ref r) [("kept_cuts",V.ref c1),("kept_sayings",V.ref c2)])) g∣.ins (aC mg "Ground") c [("kept_cuts",V.ref c1),("kept_sayings",V.ref c2),("kept_layers",V.ref r)]:=by rw[aa];rfl
  generalize Qb H5 g _=H6 at b6 g6
  let ae:∀b o,b≠g->H3 b∣o->H6 b∣o:=λb o a e=>b6 b o a (b5 b o a (b4 b o a e))
  let u:∀b o,b≠g->H b∣o->H6 b∣o:=λb o a e=>ae b o a (j _ _ e)
  let ag:bO H6 cs:=λp n=>⟨u _ _ (λe=>by let:=(d p n).1;rw[e,L]at this;cases this) (d p n).1,(d p n).2⟩
  let i:cW H6 y qs:=λq Y=>⟨u _ _ (λe=>by let:=(v y M q Y).1;rw[e,L]at this;cases this) (v y M q Y).1,(v y M q Y).2⟩
  lk;show%[l,cs,ρ,u _ _ gl hl,ag,as,h3|λt1 H7 ts s7 f7 h7 a3 ab bl a6=>?_];lk;show%[m,y,qs,ρ,s7 _ _ (u _ _ gm hm),i.up s7,ac,⋯|λt2 H8 us s8 f8 bb bc al bm bd=>?_];lk;let J:aF H8 (ts++us):=pG (aA a3 λb z e=>s8 _ _ e) bc;let g8:=s8 _ _ (s7 _ _ g6);show%[_,s8 _ _ h7,_,bb,by rw[Z6,Z6,PySem.sizeLine_eq];lia|λp n=>%[ts++us,Zd▸Qc.of aa,aA J λb z e=>ah.Qb n _ _ e,3,?_,!1,by rw[Z9];lia|λc4 ss C G=>%[_,_,_,ah.Qb C _ _ (ah.Qb n _ _ g8),OC,T.n_Ground_kept_ties,(by change 3<1000;decide)|k7 _ _ ?_]]]
  .intro t ht;rcases Xk ht with z|z
   .show(ab t z).1.three
   .show(al t z).1.three
  .let b9:∀b o,b≠g->H8 b∣o->Qb (Qb (Qb H8 p (.lst (ts\0 ++us\0))) c4 (.lst (ss\0))) g (.ins (aC mg "Ground") c (d0 (!"kept_ties") (V.ref c4) [("kept_cuts",V.ref c1),("kept_sayings",V.ref c2),("kept_layers",V.ref r)])) b∣o:=λb o a e=>(ao a)▸((ah.Qb (o:= .lst (ts\0 ++us\0)) n).trans (ah.Qb (o:= .lst (ss\0)) C)) _ _ e
   let I:∀b o,b≠g->H6 b∣o->_:=λb o a e=>b9 b o a (s8 _ _ (s7 _ _ e))
   show k _ y ss c2 r c4 (λb o a e=>I b o a (u b o a e)) %[%[c,c1|?_],?_,?_,?_,?_|?_] (λt ht=>?_) ac (λk=>by rw[(G.map _).mem_iff,Zd,Yr,a6,bd]) (by rw[G.length_eq,Z9];lia) M q2
   .rw[aa];rfl
   .show I _ _ U (b6 _ _ U a5)
   .show I _ _ gr (ae _ _ gr (s3 _ _ h2))
   .rw[ao (λe=>by rw[e,ah.Qb n _ _ g8]at C;cases C)];show aa
   .show λq Y=>⟨I _ _ (λe=>by let:=(i q Y).1;rw[e,g6]at this;cases this) (i q Y).1,(i q Y).2⟩
   .intro t ht;let:=J t (G.mem_iff.mp ht);show%[this.1|b9 _ _ (λe=>by let q:=this.2;rw[e,g8]at q;cases q) this.2]
   .rcases Xk (G.mem_iff.mp ht)with z|z
    .show%[(ab t z).1.mono λx=>M.mem_iff.mpr|(ab t z).2]
    .show al t z
def eL(T:Txt K mg):AU P w K mg base 1 "Ground" "layers" ["self"] (sO mg):=by
 .exists T.m_Ground_layers,mo,b,j,%[g,c2,c3,c,qs,d,ts,rfl,a|k];let%[m,c1|e]:=a.at_;show%[_,%["KEI,/A~q0B"|0]|?_];change jH _ _ [hY _] H;lk;show%[_,_,_,e,T.o_Ground.cls,T.n_Ground_kept_layers,_,ρ,_,.inl (Qc.of a.a3)|λl i=>k l i]
def ee(T:Txt K mg):AU P w K mg base 1 "Ground" "sayings" ["self"] (pM mg):=by
 .exists T.m_Ground_sayings,lA,b,j,%[g,c2,c3,c,qs,d,ts,rfl,a|k];let%[m,c1|e]:=a.at_;show%[_,%["KEI,/A~q0B"|0]|?_];change jH _ _ [hY _] H;lk;show%[_,_,_,e,T.o_Ground.cls,T.n_Ground_kept_sayings,_,ρ,_,.inl (Qc.of a.a2)|λl i=>k l i]
def qJ(T:Txt K mg):AU P w K mg base 1 "Ground" "ties" ["self"] (zC mg):=by
 .exists T.m_Ground_ties,pi,b,j,%[g,c2,c3,c,qs,d,ts,rfl,a|k];let%[m,c1|e]:=a.at_;show%[_,%["KEI,/A~q0B"|0]|?_];change jH _ _ [hY _] H;lk;show%[_,_,_,e,T.o_Ground.cls,T.n_Ground_kept_ties,_,ρ,_,.inl (Qc.of a.a4)|λl i=>k l i]
def emB{p q:pp}(e:97+(p%26).toNat=97+(q%26).toNat):(p-q)%26=0:=pp.emod_eq_emod_iff_emod_sub_eq_zero.mp ((Ps (MD p (show(26:pp)≠0 by decide))).symm.trans ((tI pp.ofNat (Pr e)).trans (Ps (MD q (show(26:pp)≠0 by decide)))))
def zD{r a w:pp}(d:0<=r)(f:r<16)(b:0<=a)(c:a<16)(e:ltr r w=ltr a w):r=a:=by
 let all:∀m∈[(1:pp),25,7,5],∀x y:Fin 16,((x.1:pp)*m-y.1*m)%26=0->x=y:=!0
 let mm:mlt w∈[(1:pp),25,7,5]:=by
  unfold mlt
  split
  .show .head _
  .split
   .show .tail _ (.head _)
   .split
    .show .tail _ (.tail _ (.head _))
    .show .tail _ (.tail _ (.tail _ (.head _)))
 let%[x|rfl]:=Xf d;let%[y|rfl]:=Xf b;let k:=emB e;rw[pp.add_sub_add_right]at k;show tI (λk:Fin 16=>(k.1:pp)) (all _ mm %[x|VO.mp f] %[y|VO.mp c] k)
def sP(n:lx):K3++n=n:=kL (by change(([].toArray) ++n.cps).toList=_;simp)
def iJ(n z:lx):n++pw "."++z=lnS n z:=by unfold lnS;rw[sP]
def uG{n:lx}{c a:kj}(e:lnS n (sgn c)=lnS n (sgn a)):c=a:=by
 let:=tI (λz:lx=>z.cps.toList) e;let:((K3++n++pw ".").cps++ ([c].toArray)).toList=((K3++n++pw ".").cps++ ([a].toArray)).toList:=this;simpa using this
abbrev yy(rows:ZB)(c:kj):ri:=rows.any λz=>decide (c∈z.cps.toList)
abbrev km(nm:lx)(w:pp)(rows:ZB)(n:kj):hH (lx×pp):=((q7 n).filter λr:kj=>yy rows (ltr r w)).map λr:kj=>(lnS nm (sgn (ltr r w)),(r:pp))
abbrev rkD(a:hH (lx×pp)):hH (Key×V):=a.map λp=>(lp p.1,V.int p.2)
def pN(p:lx->ri):∀rows:ZB,decide ((rows.filter p)\3≠[])=rows.any p
 |[]=>rfl
 | z::r=>by
   let:=pN p r;cases c:p z
   .rw[Y3,c,Zw,c];show this
   .rw[Y3,c,Zw,c];rfl
def zE(nm:lx)(w:pp)(rows:ZB)(n:kj):km nm w rows (n+1)=km nm w rows n++if yy rows (ltr n w)=iv then [(lnS nm (sgn (ltr n w)),(n:pp))]else []:=by
 unfold km;rw[NU,Y2,Zd]
 congr 1
 by_cases c:yy rows (ltr n w)=iv
 .rw[md c,Y3,md c];rfl
 .rw[kw c,Y3,kw c];rfl
def uH{z:lx}:∀{a:hH (lx×pp)},z∉a\1->bV (rkD a) (lp z)=hX
 |[],_=>rfl
 | p::a,h=>by
   rw[Yp,Yu,NM]at h;rw[show rkD (p::a)=(lp p.1,V.int p.2)::rkD a from rfl,cZ (λq=>h.1 (Mg q).symm)];show uH h.2
def Jv{nm:lx}{w:pp}{rows:ZB}{n:kj}(h:n<16):lnS nm (sgn (ltr n w))∉(km nm w rows n)\1:=λa=>by
 let%[p,b|e]:=Xm a;let%[r,c|rfl]:=Xm b;let:=wh.mp (on.mp c).1;let:=zD ⋯ ⋯ ⋯ ⋯ (uG e)
 lia
inductive wv
 | mk (nm:lx) (w:pp) (l:kG) (rows:ZB):vs=[.str nm,.int w,.ref l]->0<=w->w<=110-> ~~~nm<=8->H l<*rows\3-> ~~~rows<=100->(∀d H',ah H H'->H d=hX->H' d∣.dK (rkD (km nm w rows 16))->Q (.ref d) H')->wv vs H Q E0
def ww(T:Txt K mg):↥2 "_law_ranks" ["_law_name","_law_way","_law_rows"] wv:=by
 .exists T.bn,eR,ab,J,%[nm,w,l,rows,rfl,w0,w1,nl,hl,rl|kk];show%[_,%["KCG3yCQ$ADBJ4C.5stH~aA4A1BEMN>oh?1T2b0?2&N]jS100RBEq43FzFz0US5OEI3",eR.nd,↑(["_law_row","_law_letter_here"],[(1,5)]),↑["_law_row","_law_letter_here"]|J]|?_]
  change aU _ _ _ [-nm,hY (.int w),!l,hX,hX,hX] H;show aj λD1 k1 _=>?_
  lk;show λd L=>k1 _ _ (aj λD2 k2 _=>aw λm M=>?_)
  lk;show%[!1,!1|M _ _ (b7 (λi g U=>E2 λN v=>A3 (g=[-nm,hY (.int w),!l,!d,N,v]) (ah H U) (U d∣.dK (rkD (km nm w rows i)))) %[_,_,ρ,ah.Qb L|aa] ?_ ?_)]
  .intro i g y hi %[N,v,rfl,B|j];change aU _ _ _ [-nm,hY (.int w),!l,!d,hY (.int (0+i)),v] y;rw[Nx];show aj λD3 k3 _=>?_
   lk;show%[i,w,ρ,⋯,⋯,w0,w1|λH2 Y=>k3 _ _ (az λD4 k4 _=>?_)];lk;show aK λm M=>?_
   lk;let n:=Y _ _ (B _ _ hl);show%[%[_|Qc.of n]|M _ _ λF hF=>?_];show cP (λq ts g C=>A4 (∃o,g=[o,hY (.str (sgn (ltr i w)))]) (ah H2 C) (C F<*ts) (ts=((rows.take q).filter λz=>decide (ltr i w∈z.cps.toList))\3))
    %[%[hX|rfl],ah.Qb hF,aa|rfl] (λ_ _ _ H4 ⟨_,G,_,_⟩=>G _ _ n) ?_ ?_
   .intro q ts g H4 O %[%[o|rfl],I,a|r];lk;rw[show(!(KE rows[q] (sgn (ltr i w)) 0 rows[q].length 1).isEmpty)=decide (ltr i w∈rows[q].cps.toList)from tO _ _];let tk:∀b,decide (ltr i w∈rows[q].cps.toList)=b->((rows.take (q+1)).filter λz=>decide (ltr i w∈z.cps.toList))\3=ts++if b=iv then [V.str rows[q]]else []:=λb hb=>by
     rw[r,X7,Z4 O,Y2,Zd]
     congr 1
     change Rh V.str (MT _ [rows[q]])=_;rw[Y3,hb];cases b<;> rfl
    show .inl (bT (λc=>CK.mk O a (by rw[r,Z6];show aB (n7 (Yh _ _) (by rw[Yk];lia))) %[%[_|rfl],ah.set I hF,aa|?_]) λc=>CN.mk O %[%[_|rfl],I,a|?_])
    .rw[tk _ c];rfl
    .rw[tk jg ↑c];simp
   .intro ts g C %[_,I,a|r];rw[Xa]at r;let e:decide (ts≠[])=yy rows (ltr i w):=by
     rw[r];show pN _ rows
    show%[Xc _|λp hp=>%[ts,ah.Qb hp _ _ a,aa|?_]];rw[e,iJ];let G:ah y (Qb C p (.lst [])):=(Y.trans I).trans (ah.Qb hp);let u:=G _ _ j;let sH:=B.trans G;show bT (λc=>?_) λc=>?_
    .let:=zE nm w rows i;rw[md c]at this;show%[by rw[PySem.sizeLine_eq];change ~~~nm+1<=_;lia,by rw[PySem.sizeLine_eq,Om];change ~~~nm+1+1<=_;lia,_,fE.k (k:=lp (lnS nm (sgn (ltr i w)))) u (by unfold rkD km;rw[Z6,Z6];show aB (n7 (Yh _ _) (by rw[Yi];lia)))|k4 _ _ %[_,_,ρ,ah.set sH L|?_]];rw[aa,fA _ (uH (Jv hi)),this];unfold rkD;rw[Zd];rfl
    .show k4 _ _ %[_,_,rfl,sH|?_];rw[u,zE,kw c,Zx]
  .intro g y %[N,v,rfl,B|j];show k2 _ _ ?_;lk;show kk d y B L j
abbrev qK(c:pp):lx:=if c%3=0 then pw "pit" else if c%3=1 then pw "a" else pw "zone"
abbrev nmN(c1 c2:pp)(k:kj):lx:=qK c1++sgn (97+((c2+9*k)%26).toNat)
def Jw{c:pp}:fH (97+(c%26).toNat)=iv:=by
 let all:∀i:Fin 26,fH (97+i.1)=iv:=!0
 show all %[(c%26).toNat|⋯]
def DZ(c1 c2:pp)(k:kj):fV (nmN c1 c2 k)=iv:=by
 let p:∀z:lx,~~~z<=7->z.cps.toList.all fH=iv->fV (z++sgn (97+((c2+9*k)%26).toNat))=iv:=λz c a=>by
  let b: ~~~(z++sgn (97+((c2+9*k)%26).toNat))= ~~~z+1:=Om _ _;unfold fV;rw[b,show(z++sgn (97+((c2+9*k)%26).toNat)).cps.toList=z.cps.toList++[97+((c2+9*k)%26).toNat] by change(z.cps++ ([_].toArray)).toList=_;simp,hH.all_append,a];simp only[Zv,K9];show%[%[⋯|⋯],Li|by rw[Uf,Jw];rfl]
 unfold nmN qK
 split
 .show p _ (!0) (!0)
 .split
  .show p _ (!0) (!0)
  .show p _ (!0) (!0)
def zF{c1 c2:pp}{k a:kj}(h:k<3)(h':a<3)(e:nmN c1 c2 k=nmN c1 c2 a):k=a:=by
 let e:((qK c1).cps++ ([97+((c2+9*k)%26).toNat].toArray)).toList=((qK c1).cps++ ([97+((c2+9*a)%26).toNat].toArray)).toList:=tI (λz:lx=>z.cps.toList) e;let:97+((c2+9*k)%26).toNat=97+((c2+9*a)%26).toNat:=↑e
 let all:∀x y:Fin 3,(9*(x.1:pp) -9*y.1)%26=0->x=y:=!0
 let e:=emB this;rw[pp.add_sub_add_left]at e;show tI (λk:Fin 3=>k.1) (all %[k|h] %[a|h'] e)
def pO{n a:lx}{c b:kj}(e:lnS n (sgn c)=lnS a (sgn b)):n=a:=by
 rw[<-iJ,<-iJ]at e;let e:(n.cps++ ([46].toArray) ++ ([c].toArray)).toList=(a.cps++ ([46].toArray) ++ ([b].toArray)).toList:=tI (λz:lx=>z.cps.toList) e;let e:n.cps.toList++[46,c]=a.cps.toList++[46,b]:=↑e
 show kL (hH.append_inj_left' e rfl)
structure wx (cs:ZH) (rs:hH (lx×pp)):Prop where
 dr:∀p∈cs,∃w cols hi,gG w cols hi/\p.2.2=br cols hi
 rk:∀q∈rs,q.1∈cs.flatMap lyr/\0<=q.2/\q.2<16
 nd:(rs\1).Nodup
 len: ~~~rs<=16* ~~~cs
 ne:cs≠[]->rs≠[]
def wz:∀{more a:hH (lx×pp)},((a++more)\1).Nodup->j4 (rkD a) (rkD more)=rkD (a++more)
 |[],a,_=>by rw[Zx];rfl
 | p::more,a,h=>by
   let e:a++p::more=(a++[p]) ++more:=by simp
   let b:p.1∉a\1:=by
    rw[Zd,Yy]at h;show λq=>h.2.2 _ q p.1 Zm rfl
   rw[e]at h ⊢;rw[<-wz h];change j4 (cY (rkD a) (lp p.1) (V.int p.2)) (rkD more)=_;rw[fA _ (uH b)];unfold rkD;rw[Zd];rfl
def Ea{p:kG×lx×ZB}{z:lx}(h:z∈lyr p):∃c,z=lnS p.2.1 (sgn c):=by
 let%[y,a|rfl]:=Xm h;let%[c,_|rfl]:=Xm (aX.mp a);show%[c|ρ]
def pP{nm:lx}{w:pp}{rows:ZB}{n:kj}{q:lx×pp}:q∈km nm w rows n↔∃r:kj,r<n/\yy rows (ltr r w)=iv/\q=(lnS nm (sgn (ltr r w)),(r:pp)):=by
 unfold km;rw[N1];simp only[on,wh];show%[λ⟨r,⟨a,b⟩,e⟩=>%[r,a,b|e.symm]|λ⟨r,a,b,e⟩=>%[r,%[a|b]|e.symm]]
def wA{rows:ZB}{c:kj}(h:c≠46):yy rows c=iv↔Let rows c:=by
 unfold yy Let;rw[Qt];show%[λ⟨z,a,b⟩=>%[h,z,a|Zo b]|λ⟨_,z,a,b⟩=>%[z,a|Zf b]]
def wx.snoc{cs:ZH}{i:hH (lx×pp)}(h:wx cs i){a:kG}{nm:lx}{w:pp}{b:hH (hH kj)}{hi:kj}(d:gG w b hi)(fr:nm∉cs.map (·.2.1)):wx (cs++[(a,nm,br b hi)]) (i++km nm w (br b hi) 16):=by
 show%[λp g=>?_,λq f=>?_,?_,?_|λ_=>?_]
 .rcases Xk g with g|g
  .show h.dr p g
  .rw[Xl g];show%[w,b,hi,d|ρ]
 .rw[NO,Yr];rcases Xk f with f|f
  .show%[.inl (h.rk q f).1|(h.rk q f).2]
  .let%[r,o,s|rfl]:=pP.mp f;show%[.inr (Lf.mpr %[_,hH.mem_singleton_self _|iI (p:=(a,nm,br b hi)) ((wA (kg _ _)).mp s)]),by change(0:pp)<=(r:pp);lia|by change(r:pp)<16;lia]
 .rw[Zd,Yy];show%[h.nd,?_|λx j y m e=>?_]
  .unfold km;rw[Yq,Yz,NL];show Xe (λ{x y} j m n e=>n ?_) (Yz.mp (OO.filter _));let u:=wh.mp (on.mp j).1;let C:=wh.mp (on.mp m).1;let:=zD ⋯ ⋯ ⋯ ⋯ (uG e)
   lia
  .let%[p,g|rfl]:=Xm j;let%[q,f|rfl]:=Xm m;let%[c,v|z]:=Lf.mp (h.rk p g).1;let%[l|A]:=Ea z;let%[r,_,_|rfl]:=pP.mp f;show fr (Xn %[c,v|pO (A.symm.trans e)])
 .rw[Z9,Z9,Yj];let u:=h.len;let: ~~~(km nm w (br b hi) 16)<=16:=by
   unfold km;rw[Z6];show n7 (Yh _ _) (by rw[Yi];lia)
  lia
 .let%[r,B,o|l]:=d.ex;let%[r|rfl]:=Xf B;intro e;let:(lnS nm (sgn (ltr r w)),(r:pp))∈i++km nm w (br b hi) 16:=mem_append.mpr (.inr (pP.mpr %[r,⋯,(wA (kg _ _)).mpr l|rfl]));rw[e]at this;show nomatch this
inductive zG (K:ZA)
 | mk (a:kG) (ns:ZL):vs=[.ref a]->Qc K H a (ns\4)->(∀(t l1 l2:kG) H' (cs:ZH) (rs:hH (lx×pp)),ah H H'->H' t<*[.ref l1,.ref l2]->H l1=hX->H' l1<*bA cs->H' l2∣.dK (rkD rs)->1<= ~~~cs-> ~~~cs<=3->bO H' cs->(cs.map (·.2.1)).Nodup->wx cs rs->Q (.ref t) H')->zG K vs H Q E0
def yz(T:Txt K mg):↥3 "_law_cuts" ["_law_script"] (zG K):=by
 .exists T.bo,dc,be,hr,%[a,ns,rfl,hs|kk];show%[_,%["KCG1H~HA0ADADADBCG2RBCG3yCQ$AFaDFXP1DDBJ4CG5FzPRAUAUAUBFXP1DD}UFXFaP1DF!D4DCG6H]kAH~HA0AFaD4ADADBAP1FaD4BCZpm2AdA5A~O~PUA6BBBEZ]l]m3AH]nA5AP1FaD4A6BBEIRA2A3B",dc.nd|hr]|?_]
  change aU _ _ _ [!a,hX,hX,hX,hX,hX,hX] H;show aj λD1 k1 _=>?_
  lk;show%[a,ns,1,26,6,ρ,hs,!1,!1,!1,!1,!1,!1|λhd H1 xs s1 _ L hx hb=>k1 _ _ (aj λD2 k2 _=>?_)];let get:∀i:pp,0<=i->i<6->∃c,atI (xs\4) i∣V.int c/\0<=c/\c<26:=λi h0 h1=>by
   let%[c,e|hm]:=lB xs h0 (by rw[hx];show h1);show%[c,e|hb c hm]
  let%[c0,g0,l0|u0]:=get 0 (!1) (!1);let%[c1,g1,l1|u1]:=get 1 (!1) (!1);let%[c2,g2,l2|u2]:=get 2 (!1) (!1);lk;show%[Xc _|λC hC=>k2 _ _ (aj λD3 k3 _=>?_)];let sC:=s1.trans (ah.Qb (o:= .lst []) hC);lk;show λD hD=>k3 _ _ (aj λD4 k4 _=>aw λbd hK=>?_)
  let sD:=ah.Qb (o:= .dK []) hD;let ab:C≠D:=λe=>by rw[e,aa]at hD;cases hD
  let fC:=s1.free hC;let an:hd≠C:=λe=>by rw[e,hC]at L;cases L
  let fD:=sC.free hD;let ac:=sD _ _ (ah.Qb (o:= .lst []) hC _ _ L);lk;obtain⟨n,en,n1,n3⟩:∃n:kj,1+c0%3=n/\1<=n/\n<=3:=%[(1+c0%3).toNat,(by lia -verbose),(by lia -verbose)|(by lia -verbose)]
  show%[_,Qc.of ac,_,g0,!1|?_];rw[en];show%[(by lia -verbose),(by lia -verbose)|hK _ _ (b7 (λi σ v=>E5 λ(o4 o5 o6:lX V) (cs:ZH) (rs:hH (lx×pp))=>A8 (σ=[!a,!hd,!C,!D,o4,o5,o6]) (ah H v) (v hd<*xs\4) (v C<*bA cs) (v D∣.dK (rkD rs)) (bO v cs) (wx cs rs) (cs.map (·.2.1)=(q7 i).map (nmN c1 c2)))
   %[_,_,_,[],[],ρ,sC.trans sD,ac,sD _ _ aa,aa,(λ_ h=>nomatch h),%[(λ_ h=>nomatch h),(λ_ h=>nomatch h),X1,Xc _|λh=>(h rfl).elim]|ρ] ?_ ?_)]
  .intro i σ v hi %[o4,o5,o6,cs,rs,rfl,sm,j,u,B,l,ok|m];change aU _ _ _ [!a,!hd,!C,!D,hY (.int (0+i)),o5,o6] v;rw[Nx];let i3:i<3:=by lia -verbose
   let%[cw,gw,lw|uw]:=get (3+i) (by lia -verbose) (by lia -verbose);show aj λD5 k5 _=>?_
   lk;show%[#[3]|λp hp=>?_];let sp:=ah.Qb (o:= .lst [V.str (!"pit"),V.str (!"a"),V.str (!"zone")]) hp;show%[_,Qc.of (sp _ _ j),_,g1,!1,_,Qc.of aa,.str (qK c1),?_,_,Qc.of (sp _ _ j),_,g2,.inl %[!1|!1],!1,#[26],_,DU (by lia -verbose) (by lia -verbose),?_|k5 _ _ (aj λD6 k6 _=>?_)]
   .unfold qK;rcases(show c1%3=0\/c1%3=1\/c1%3=2 by lia -verbose)with e|e|e<;> rw[e]<;> rfl
   .let: ~~~(qK c1)<=4:=by
     unfold qK
     split
     .decide +kernel
     .split<;> decide +kernel
    rw[PySem.sizeLine_eq];change(qK c1).length+1<=_
    lia -verbose
   let ae:fV (nmN c1 c2 i)=iv:=DZ c1 c2 i;let as:nmN c1 c2 i∉cs.map (·.2.1):=λh=>by
    rw[m]at h;let%[k,hk|e]:=Xm h;let:=wh.mp hk;let:=zF (by lia -verbose) i3 e
    lia -verbose
   let ag:∀q:kG,∀r,(cs++[(q,nmN c1 c2 i,r)]).map (λp:kG×lx×ZB=>p.2.1)=(q7 (i+1)).map (nmN c1 c2):=λq r=>by rw[Zd,m,NU,Zd];rfl
   let a0:qK c1++(⟨([97+((c2+9*(i:pp))%26).toNat].toArray)⟩:lx)=nmN c1 c2 i:=rfl;rw[a0];lk;let bf:=hp
   generalize Qb v p _=H2 at sp
   show%[a,ns,2+i,6,30,ρ,(sm.trans sp).seq hs,(by lia -verbose),(by lia -verbose),!1,!1,!1,!1|λds H3 ys s3 _ a1 hy a2=>%[_,Qc.of ((sp.trans s3) _ _ j),_,gw,ds,ys,cw,ρ,Qc.of a1,hy,a2,lw,(by lia -verbose)|λR H4 g G s4 fR hR dr=>k6 _ _ (aj λD7 k7 _=>?_)]];let s5:=sp.trans (s3.trans s4);let M:=s5 _ _ u;lk;let cl: ~~~cs=i:=by let:=tI Lo m;rwa[Z6,Z6,Yi]at this
   show%[tyL (Qc.of M),br g G,Qc.of hR,?_,#[2]|λt ht=>?_]
   .let:=dr.cut.sum;let:=dr.cut.high;rw[show(!"\n").length=1 from rfl]
    lia -verbose
   let ej:Txt.join (!"\n") (br g G)=ry nl (br g G):=Nj _ _;rw[ej];let st:=ah.Qb (o:= .tup [V.str (nmN c1 c2 i),V.str (ry nl (br g G))]) ht;let gt:Qb H4 t (.tup [V.str (nmN c1 c2 i),V.str (ry nl (br g G))]) t=_:=aa
   generalize Qb H4 t _=H5 at st gt
   let a3:t≠C:=λe=>by rw[e,M]at ht;cases ht
   show%[_,st _ _ M,by unfold bA;rw[Z6,cl];show aB (by lia -verbose)|k7 _ _ (az λD8 k8 _=>?_)];let N:∀b o,b≠C->v b∣o->Qb H5 C (.lst (bA cs++[V.ref t])) b∣o:=λb o n e=>by rw[ao n];show st _ _ (s5 _ _ e)
   let a4:Qb H5 C (.lst (bA cs++[V.ref t])) C<*bA (cs++[(t,nmN c1 c2 i,br g G)]):=by rw[aa];unfold bA;rw[Zd];rfl
   lk;let a5:R≠C:=λe=>by rw[e,(sp.trans s3) _ _ u]at fR;cases fR
   let sC:ah H (Qb H5 C (.lst (bA cs++[V.ref t]))):=ah.set (sm.trans (s5.trans st)) fC;let I:=N _ _ (J0 ab) B;let O:bO (Qb H5 C (.lst (bA cs++[V.ref t]))) (cs++[(t,nmN c1 c2 i,br g G)]):=λq J=>by
    rcases Xk J with z|z
    .show%[N _ _ (λe=>?_) (l q z).1|(l q z).2];let:=(l q z).1;rw[e,u]at this;cases this
    .rw[Xl z];show%[by rw[ao a3];show gt,ae|dr.cut]
   let U:=ok.snoc (a:=t) dr as;let al:=N _ _ an j;show%[tyD I,_,Qc.of al,_,gw,_,_,_,_,ρ,lw,(by lia -verbose),g9 ae,(by rw[ao a5];show st _ _ hR),?_|λd H7 s7 fd a6=>?_]
   .let:=dr.cut.high
    lia -verbose
   let bb:D≠d:=λe=>by rw[<-e,I]at fd;cases fd
   let bc:=s7 _ _ I;let Y:∀b o,b≠D->Qb H5 C (.lst (bA cs++[V.ref t])) b∣o->Qb H7 D (.dK (j4 (rkD rs) (rkD (km (nmN c1 c2 i) cw (br g G) 16)))) b∣o:=λb o n e=>by rw[ao n];show s7 _ _ e
   show%[d,ρ,_,_,bb,bc,a6,?_|k8 _ _ %[_,_,_,_,_,ρ,ah.set (sC.trans s7) fD,Y _ _ (λe=>by rw[e,B]at j;cases j) al,Y _ _ ab a4,by rw[aa,wz U.nd],λq J=>?_,U|ag _ _]]
   .let:=U.len;rw[Z9]at this;unfold rkD;rw[Z6,Z6];rw[Z9,Yj,cl]at this;show Ye (aB (by lia -verbose))
   .show%[Y _ _ (λe=>?_) (O q J).1|(O q J).2];let:=(O q J).1;rw[e,I]at this;cases this
  .intro σ v %[o4,o5,o6,cs,rs,rfl,sm,j,u,B,l,ok|m];show k4 _ _ ?_;lk;show%[#[2]|λp hp=>?_];let sp:=ah.Qb (o:= .lst [V.ref C,V.ref D]) hp;let cl: ~~~cs=n:=by let:=tI Lo m;rw[Z6,Z6,Yi]at this;lia -verbose
   show kk p C D _ cs rs (sm.trans sp) aa fC (sp _ _ u) (sp _ _ B) (by lia -verbose) (by lia -verbose) (λq J=>%[sp _ _ (l q J).1|(l q J).2]) ?_ ok;rw[m,Yz,NL];show Xe (λ{x y} hx hy ne e=>ne (zF ?_ ?_ e)) (Yz.mp OO)
   .let:=wh.mp hx;lia -verbose
   .let:=wh.mp hy;lia -verbose
def uI{a:hH (lx×pp)}(nd:(a\1).Nodup){z:lx}(h:z∈a\1):∃r,(z,r)∈a/\bV (rkD a) (lp z)∣V.int r:=by
 induction a with
 | nil=>show nomatch h
 | cons p a b=>
   rw[Yp,Mi]at nd;by_cases e:p.1=z
   .subst e;show%[p.2,Zm|eD rfl]
   .let%[r,c|d]:=b nd.2 ((Yu.mp h).resolve_left λq=>e q.symm);show%[r,Zk _ c|?_];rw[show rkD (p::a)=(lp p.1,V.int p.2)::rkD a from rfl,cZ (λq=>e (Mg q))];show d
inductive Eb
 | mk (one other:lx) (d:kG) (rs:hH (lx×pp)):vs=[.str one,.str other,.ref d]->H d∣.dK (rkD rs)->(rs\1).Nodup->one∈rs\1->other∈rs\1->(∀(t:kG) H' (w a b:lx),ah H H'->H t=hX->H' t&&&[.str w,.str a,.str b]->(w="later"\/w="same")->((a=one/\b=other)\/(a=other/\b=one))->Q (.ref t) H')->Eb vs H Q E0
def Bu(T:Txt K mg):↥1 "_law_tie" ["_law_one","_law_other","_law_ranks_here"] Eb:=by
 .exists T.bp,yq,m,g,%[one,c,d,n,rfl,i,nd,o,q|r];let%[u,G|v1]:=uI nd o;let%[v,m2|z]:=uI nd q;let j:cr H d (.str one) (hY (.int u)):=v1▸cr.k (k:=lp one) i;let l:cr H d (.str c) (hY (.int v)):=z▸cr.k (k:=lp c) i;show%[_,%["KCMN~NW20W21EIdAUA0A1BOCMN|W20W21EIdAUA1A0BOEIdAUA0A1B",0|g]|?_]
  change aU _ _ _ [-one,-c,!d] H;let tup:∀(w a b:lx),(w="later"\/w="same")->((a=one/\b=c)\/(a=c/\b=one))->[V.str w,V.str a,V.str b].length<=mv/\∀(p:kG),H p=hX->Q (.ref p) (Qb H p (.tup [.str w,.str a,.str b])):=λw a b hw h=>%[#[3]|λp e=>r p _ w a b (ah.Qb e) e aa hw h]
  show aj λI k1 B=>?_
  lk;show%[_,j,_,l|bT (λ_=>?_) λ_=>k1 _ _ (aj λJ k2 C=>?_)]
  .let%[x|y]:=tup "later" one c (.inl rfl) (.inl %[rfl|rfl]);show%[x|λp e=>B _ _ (y p e)]
  lk;show%[_,j,_,l|bT (λ_=>?_) λ_=>k2 _ _ ?_]
  .let%[x|y]:=tup "later" c one (.inl rfl) (.inr %[rfl|rfl]);show%[x|λp e=>C _ _ (y p e)]
  lk;show tup "same" one c (.inr rfl) (.inl %[rfl|rfl])
inductive zH (K:ZA)
 | mk (l d:kG) (xs:ZL) (rs:hH (lx×pp)) (torn wild:ri):vs=[.ref l,.ref d,.bl torn,.bl wild]->H l<*xs\4-> ~~~xs=6->(∀x∈xs,0<=x/\x<211)->H d∣.dK (rkD rs)->(rs\1).Nodup->rs≠[]-> ~~~rs<=63->(∀q∈rs,0<=q.2/\q.2<16)->(∀(t:kG) H' (xs:ZM),ah H H'->H' t&&&xs->m7 (rs\1) xs->Q (.ref t) H')->zH K vs H Q E0
def yA(T:Txt K mg):↥2 "_law_said" ["_law_digits_here","_law_ranks_here","_law_torn","_law_wild"] (zH K):=by
 .exists T.bq,cI,be,hr,%[l,d,xs,rs,m,r,rfl,hl,hx,hb,hd,nd,ne,rl,rb|kk];let get:∀i:pp,0<=i->i<6->∃c,atI (xs\4) i∣V.int c/\0<=c/\c<211:=λi h0 h1=>by
   let%[c,e|hm]:=lB xs h0 ⋯;show%[c,e|hb c hm]
  let%[c0,g0,l0|u0]:=get 0 (!1) (!1);let%[c1,g1,l1|u1]:=get 1 (!1) (!1);let%[c2,g2,l2|u2]:=get 2 (!1) (!1);let%[c3,g3,l3|u3]:=get 3 (!1) (!1);let%[c4,g4,l4|u4]:=get 4 (!1) (!1);show%[_,%["KCG4*]oAS1BC.5stP4FXP0DefA4BCG6P4FXP0DefA4BCMl<N~NFXP0DDD=N(S56CG7H]pAS5A6AS1BCMl<Y2=NgFXP0DDDEIdAV7DAV7DAV7DBOEI7OCMNgFXP0DDDC~S8tsh?1T4b0?2&l<NgWS20WS2S1=N(0S10EMN>8RBEIdAUAS5AP8FXP0DefA8BBOOCG9FaF~EDF!DWS1S5F;P0DDCMY3EG9F~EF]q9P0DDOCMNgFXP0DDDEIdAUAS5APRA9A~rDB~X~YAngFXP0DDDBBOEIdAUAS5APRAFa9DADB~X~YAngFXP0DDDBB",cI.nd,↑(["_law_name","_law_one","_law_ranks_here"],[(1,5),(2,1)]),↑["_law_name","_law_one","_law_ranks_here"]|hr]|?_]
  change aU _ _ _ [!l,!d,hY (.bl m),hY (.bl r),hX,hX,hX,hX,hX,hX] H;show aj λD1 k1 _=>?_
  lk;show%[_,.inl hd,rs\1,by unfold rkD;rw[Yq,Yq];rfl,by rw[Z6];lia|λL ss hL pm _=>k1 _ _ (aj λD2 k2 _=>?_)];let s1:=ah.Qb (o:= .lst (ss\3)) hL;let C:Qb H L (.lst (ss\3)) L=_:=aa
  generalize Qb H L _=H1 at s1 C
  let G:=s1 _ _ hl;let ag:=s1 _ _ hd;let sl: ~~~ss= ~~~rs:=by rw[pm.length_eq,Z6]
  let bc:0< ~~~rs:=Mj.mpr ne;let Y:∀{ys:ZB} (n:pp),0< ~~~ys->∃z,atI (ys\3) (n%(~~~ys:pp))∣V.str z/\z∈ys:=λ{ys} n M=>by
   let h0:=MD n (show(~~~ys:pp)≠0 by lia);let h1:=Od n (show(0:pp)<(~~~ys:pp) by lia)
   generalize n%(~~~ys:pp)=i at h0 h1
   let%[j|rfl]:=Xf h0;let hj:j< ~~~ys:=by lia
   show%[ys[j],bG (by simp[hj])|Yc hj]
  let%[one,e1|m1]:=Y (ys:=ss) c1 ⋯;let%[g,e2|m2]:=Y (ys:=ss) c2 ⋯;let N:=pm.mem_iff.mp m1;let al:=pm.mem_iff.mp m2;let as: ~~~(ss\3)= ~~~ss:=Z6 _;lk;show%[_,Qc.of G,_,g1,~~~ss,.inl %[_,Qc.of C|as.symm],⋯,_,Qc.of C,_,e1|k2 _ _ (aj λD3 k3 _=>?_)];lk;show%[_,Qc.of G,_,g2,~~~ss,.inl %[_,Qc.of C|as.symm],⋯,_,Qc.of C,_,e2|k3 _ _ (aj λD4 k4 r4=>?_)];lk;let%[r1,a2|v1]:=uI nd N;let bf:=rb _ a2;let dg:∀I,ah H1 I->cr I d (.str one) (hY (.int r1)):=λI s2=>v1▸cr.k (k:=lp one) (s2 _ _ ag)
  suffices rest:∀oo,D4.nx [!l,!d,hY (.bl m),hY (.bl r),!L,-one,-g,oo,hX,hX] H1 by
   show%[_,Qc.of G,_,g0,!1|bT (λ_=>bT (λac=>?_) λ_=>rest _) λ_=>rest _];let ac:one≠g:=↑ac
   show%[_,_,_,_,ρ,ag,nd,N,al|λt I w a b s2 ft B hw a0=>?_];let J:=s2 _ _ G;let ok:∀a b,((a=one/\b=g)\/(a=g/\b=one))->m7 (rs\1) [.str w,.str a,.str b]:=λa b h=>by
    rcases h with⟨rfl,rfl⟩|⟨rfl,rfl⟩
    .show .inl %[w,_,_,rfl,hw,N,al|ac]
    .show .inl %[w,_,_,rfl,hw,al,N|J0 ac]
   let a3:=ok a b a0;let a4:=ok b a (a0.elim (λh=> .inr %[h.2|h.1]) λh=> .inl %[h.2|h.1]);let ab:D4.rt (.ref t) I:=r4 _ _ (kk t I _ (s1.trans s2) B a3);show bT (λ_=>?_) λ_=>ab
   show%[_,Qc.of J,_,g3,!1|bT (λ_=>?_) λ_=>ab];show%[_,SqT.of B,.str w,ρ,_,SqT.of B,.str b,ρ,_,SqT.of B,.str a,ρ,#[3]|λp M=>r4 _ _ (kk p _ _ (s1.trans (s2.trans (ah.Qb M))) aa a4)]
  intro oo;show k4 _ _ (aj λD5 k5 r5=>?_);lk
  suffices yr:∀o8 I,ah H1 I->D5.nx [!l,!d,hY (.bl m),hY (.bl r),!L,-one,-g,oo,o8,hX] I by
   show%[_,Qc.of G,_,g0,!1|bT (λ_=>?_) λ_=>yr _ _ (ah.refl H1)];show aK λbd hK=>?_
   lk;show%[%[_|Qc.of C]|hK _ _ λF hF=>?_];show cP (λq ts σ I=>A4 (∃o,σ=[o,-one,!d]) (ah H1 I) (I F<*ts) (∃ys:ZB,A3 (ts=ys\3) (~~~ys<=q) (∀y∈ys,y∈rs\1/\y≠one)))
    %[%[hX|rfl],ah.Qb hF,aa,[],rfl,Xc _|λ_ h=>nomatch h] (λ_ _ _ H4 ⟨_,s4,_,_⟩=>s4 _ _ C) ?_ ?_
   .intro q ts σ H4 hq %[%[o|rfl],s3,O,ys,B,yl|U];let a1:=pm.mem_iff.mp (Yc hq);let%[rq,mq|vq]:=uI nd a1;let gq:cr H4 d (.str ss[q]) (hY (.int rq)):=vq▸cr.k (k:=lp ss[q]) (s3 _ _ ag);lk;show%[_,gq,_,dg _ s3,ρ|bT (λ_=>bT (λc=>?_) λ_=>?_) λ_=>?_]
    .let c:ss[q]≠one:=↑c
     show CK.mk hq O (by rw[B,Z6];show aB ⋯) ⟨%[_|rfl],ah.set s3 hF,aa,ys++[ss[q]],by rw[B,Zd];rfl,by rw[Z9];show X6 yl,λy hy=>by
      rcases Xk hy with z|z
      .show U y z
      .rw[Xl z];show%[a1|c]⟩
    .show CN.mk hq %[%[_|rfl],s3,O,ys,B,⋯|U]
    .show CN.mk hq %[%[_|rfl],s3,O,ys,B,⋯|U]
   .intro ts σ H3 %[_,s3,O,ys,B,yl|U];show%[Xc _|λp M=>%[ts,ah.Qb M _ _ O,aa|bT (λc=>?_) λ_=>?_]]
    .let a5:0< ~~~ys:=by
      cases ys with
      | nil=>show ow B (Zo c)
      | cons=>show R8 _
     let%[z,ez|mz]:=Y (ys:=ys) c2 a5;let sp:=ah.Qb (o:= .lst []) M;let an:=sp _ _ O;rw[B]at an;show%[_,Qc.of ((s3.trans sp) _ _ G),_,g2,~~~ys,.inl %[_,Qc.of an|(Z6 _).symm],⋯,_,Qc.of an,_,ez,#[3]|λt a6=>r5 _ _ (kk t _ _ (s1.trans ((s3.trans sp).trans (ah.Qb a6))) aa (.inl %[_,_,_,ρ,.inr rfl,N,(U z mz).1|J0 (U z mz).2]))]
    .show yr _ _ (s3.trans (ah.Qb M))
  intro o8 I s2;show k5 _ _ (aj λD6 k6 _=>?_);lk;let J:=s2 _ _ G;let bb:=s1.trans s2;show%[_,dg _ s2,.inl %[!1|!1],_,Qc.of J,_,g3,%[!1|!1]|k6 _ _ (aj λD7 k7 _=>?_)];let yb: -900<=800-100*r1+c3/5/\800-100*r1+c3/5<=900:=by lia
  generalize 800-100*r1+c3/5=y at yb
  lk
  suffices ab:∀y:pp,-2000<=y->y<=2000->D7.nx [!l,!d,hY (.bl m),hY (.bl r),!L,-one,-g,oo,o8,hY (.int y)] I from
   bT (λ_=>%[_,Qc.of J,_,g4|.inl (ab _ ⋯ ⋯)]) λ_=>ab _ ⋯ ⋯
  intro y y0 y1;show k7 _ _ (aj λD8 k8 r8=>?_);let pk:∀(u v:pp) (b:ri),atI [V.int u,V.int v] (if b=iv then 1 else 0)∣V.int (if b=iv then v else u):=λu v b=>by cases b<;> rfl
  let ae:∀(w:lx) (u:pp) (p:kG) (H3:Hp),(w="since"\/w="by")-> -9999<=u->u<=9999->ah I H3->H3 p=hX->Q (.ref p) (Qb H3 p (.tup [.str w,.str one,.int u])):=λw u p H3 hw u0 u1 s3 M=>kk p _ _ (bb.trans (s3.trans (ah.Qb M))) aa (.inr %[w,one,u,rfl,hw,N,u0|u1])
  lk;show%[_,Qc.of J,_,g0,!1|bT (λ_=>?_) λ_=>k8 _ _ ?_]
  .show%[#[2]|λp M=>%[_,Qc.of (ah.Qb M _ _ J),_,g4,!1,_,Qc.of aa,_,pk _ _ _,#[3]|λt B=>r8 _ _ (ae _ _ t _ (.inl rfl) ?_ ?_ (ah.Qb M) B)]]<;> split<;> lia
  .lk;show%[#[2]|λp M=>%[_,Qc.of (ah.Qb M _ _ J),_,g4,!1,_,Qc.of aa,_,pk _ _ _,#[3]|λt B=>ae _ _ t _ (.inr rfl) ?_ ?_ (ah.Qb M) B]]<;> split<;> lia
def uJ{H:Hp}{M:kG}{xs ys:ZM}(h:H M<*xs):∀b z,H b&&&z->Qb H M (.lst ys) b&&&z:=λb z e=>by
 rw[ao (λa=>by rw[a,h]at e;cases e)];show e
structure nA (H:Hp) (cs:ZH) (qs:ZN):Prop where
 c1:1<= ~~~cs
 c3: ~~~cs<=3
 ca:bO H cs
 nd:(cs.map (·.2.1)).Nodup
 few:∀p∈cs,qC p.2.2
 ly: ~~~(cs.flatMap lyr)<=63
 sa:cW H (cs.flatMap lyr) qs
 ql: ~~~qs<=36
inductive sQ (K:ZA)
 | mk (a:kG) (ns:ZL):vs=[.ref a]->Qc K H a (ns\4)-> ~~~ns<=1000->(∀(t l1 l2:kG) H' (cs:ZH) (qs:ZN),ah H H'->H' t<*[.ref l1,.ref l2]->H' l1<*bA cs->H' l2∣.lst (qs\0)->nA H' cs qs->Q (.ref t) H')->sQ K vs H Q E0
abbrev bu(w:pp):ZB:=(q7 26).map λr:kj=>sgn (ltr r w)
abbrev nmT(k:kj):lx:=if k=0 then pw "zone" else pw "pit"
abbrev dX(W:kj->pp)(i:kj):ZB:=(q7 i).flatMap λk=>(bu (W k)).map (lnS (nmT k))
def fW(W:kj->pp)(i:kj):dX W (i+1)=dX W i++(bu (W i)).map (lnS (nmT i)):=by unfold dX;rw[NU,NO];simp
def fi(W:kj->pp):∀i,~~~(dX W i)=26*i
 | 0=>rfl
 | i+1=>by rw[fW,Z9,fi W i,Z6];unfold bu;rw[Z6,Yi];rfl
def pQ{w:pp}{i:kj}{z:lx}(h:(bu w)[i]?∣z):z=sgn (ltr i w):=by
 unfold bu at h;rw[Zl]at h;by_cases c:i<26
 .rw[PR c]at h;show(Za h).symm
 .rw[Xi ↑c]at h;cases h
def wB(k:kj):fV (nmT k)=iv:=by unfold nmT;split<;> decide +kernel
def hJ(w:pp): ~~~(bu w)=26:=by unfold bu;rw[Z6,Yi]
def my{w:pp}{i:kj}(h:i<26):(bu w)[i]?∣sgn (ltr i w):=by unfold bu;rw[Zl,PR h];rfl
def KN(W:kj->pp):(dX W 2)[25]?∣lnS (nmT 0) (sgn (ltr (25:kj) (W 0))):=by
 rw[fW,Y9 (by rw[fi];lia),fW,show dX W 0=[]from rfl,Sc,Zl,my ⋯];rfl
def KO(W:kj->pp):(dX W 2)[26]?∣lnS (nmT 1) (sgn (ltr (0:kj) (W 1))):=by
 rw[fW,Ya (by rw[fi];lia),fi,Zl,my ⋯];rfl
def jC{w:pp}{z:lx}(h:z∈bu w):∃r:kj,z=sgn (ltr r w):=by
 let%[r,_|rfl]:=Xm h;show%[r|ρ]
def yB{x j c:kj}(h:(sgn x).cps[j]?∣c):j=0/\c=x:=by
 let h:[x][j]?∣c:=by simpa [sgn]using h
 match j,h with
 | 0,h=>cases h;show%[ρ|ρ]
def Jx(w:pp):cH (bu w):=by
 let len: ~~~(bu w)=26:=by unfold bu;rw[Z6,Yi]
 show%[⋯,⋯,%[1,⋯,⋯|λz a=>?_],λz a=>?_,λi r f g e j c h l d b=>?_|?_]
 .let%[r|rfl]:=jC a;rfl
 .let%[r|rfl]:=jC a;change([ltr r w]).all okc=iv;rw[Uf];unfold okc;rw[zx,Qh];rfl
 .rw[pQ e]at d;show ow ((yB d).2.symm.trans b) (kg _ w)
 .show%[sgn (ltr (0:kj) w),Xn %[0,wh.mpr ⋯|ρ],ltr (0:kj) w,by change _∈[_];show Zm|kg _ w]
def fewT(w:pp):qC (bu w):=by
 show%[(q7 26).map λi:kj=>[sgn (ltr i w),sgn (ltr (i+1:kj) w)],by rw[Z6,Yi];lia|?_];intro a b %[_,_,i,j,r,g,c,f,d|e];let hi:=(Xj c).1;let len: ~~~(bu w)=26:=by unfold bu;rw[Z6,Yi]
 rw[pQ c]at d;rw[pQ f]at e;rw[(yB d).2,(yB e).2];show Xn %[i,wh.mpr ⋯|rfl]
def KP{p:kG×lx×ZB}{w:pp}(e:p.2.2=bu w): ~~~(lyr p)<=26:=by
 let:=_ST.nodup_sub (c8 ((cL p.2.2).map sgn)) (m:=bu w) λy d=>by
  let%[c,f|rfl]:=Xm (aX.mp d);let%[_,r,a|b]:=eZ.mp f;rw[e]at a;let%[k|rfl]:=jC a;let:c∈[ltr k w]:=b;rw[Xl this];show a
 unfold lyr;rw[Z6];show n7 this (by unfold bu;rw[Z6,Yi];show Zi _)
def letT{w:pp}{r:kj}(h:r<26):Let (bu w) (ltr r w):=%[kg _ _,sgn (ltr r w),Xn %[r,wh.mpr h|rfl]|by change _∈[_];show Zm]
def Bv{W:kj->pp}{n:kj}{z:lx}(h:z∈dX W n):∃k r:kj,k<n/\r<26/\z=lnS (nmT k) (sgn (ltr r (W k))):=by
 let%[k,a|b]:=Lf.mp h;let%[y,c|rfl]:=Xm b;let%[r,d|rfl]:=Xm c;show%[k,r,wh.mp a,wh.mp d|ρ]
abbrev NmD(a:ZB)(f:lx->lx):hH (Key×V):=a.map λz=>(lp z,V.str (f z))
def ko:∀{a:ZB},z∈a->bV (NmD a f) (lp z)∣.str (f z)
 |[],h=>(nomatch h)
 | x::a,h=>by
   by_cases e:x=z
   .subst e;show eD rfl
   .rw[show NmD _ f=(lp x,V.str _)::NmD a f from rfl,cZ (λq=>e (Mg q))];show ko (by rcases Yu.mp h with q|q;show(e q.symm).elim;show q)
def Ec:((NmD b f).any λa=>decide (a.1=(lp z:Key)))=iv↔z∈b:=by
 rw[Qt]
 constructor
 .rintro⟨a,c,d⟩;let%[x,e|rfl]:=Xm c
  simp_all
 .intro h;show%[_,Xn %[z,h|ρ]|Zf rfl]
def pR(h:z∈a):cY (NmD a f) (lp z) (.str v)=NmD a (λx=>if x=z then v else f x):=by
 unfold cY;rw[md (Ec.mpr h)];unfold NmD;rw[Yq];show Yo λx _=>?_
 change(if(lp x)=lp z then((lp x),V.str v)else(lp x,V.str _))=(lp x,V.str (if x=z then v else f x))
 by_cases e:x=z
 .rw[md (tI _ e),md e]
 .rw[kw (λq=>e (Mg q)),kw e]
def Ee(h:z∉a):cY (NmD a id) (lp z) (.str z)=NmD (a++[z]) id:=by
 unfold cY;rw[kw (λq=>h (Ec.mp q))];unfold NmD;rw[Zd];rfl
abbrev wC(a:ZB)(z:lx):kj:=a.countP λu=>aN u z
def pS(c:x∈b)(h:aN x y=iv):wC b x<wC b y:=by
 unfold wC
 induction b with
 | nil=>cases c
 | cons u l d=>
   let f:l.countP (λu=>aN u x)<=l.countP λu=>aN u y:=hH.countP_mono_left λu _ a=>dE a h
   rw[OR,OR];rcases Yu.mp c with rfl|e
   .rw[kw (by rw[di];simp),md h]
    lia
   .let:=d e;by_cases a:aN u x=iv
    .rw[md a,md (dE a h)]
     lia
    .rw[kw a]
     split<;> lia
abbrev ba(qs:ZN)(a b:lx):Prop:=∃q∈qs,q.2=[.str "same",.str a,.str b]
def jD{S R:lx->lx->Prop}(F:bM c f r S)(h:∀a b,S a b↔R a b):bM c f r R:=by
 rw[funext λa=>funext λb=>(propext (h a b)).symm];show F
inductive Ef
 | mk (d z ls f r S):vs=[.ref d,.str z]->H d∣.dK (NmD ls f)->bM ls f r S->z∈ls->Q (.str (r z)) H->Ef vs H Q E0
inductive zI
 | mk (d a b ls f r S):vs=[.ref d,.str a,.str b]->H d∣.dK (NmD ls f)->bM ls f r S->a∈ls->b∈ls-> ~~~ls<=5000->(∀f' r',bM ls f' r' (λx y=>S x y\/(x=a/\y=b))->Q .non (Qb H d (.dK (NmD ls f'))))->zI vs H Q E0
def fX(T:Txt K mg):↥1 "least_pointed_to" ["names","layer"] Ef:=by
 .exists T.aD,eN,q,i,%[d,z,e,p,r,S,rfl,u,F,v|j];show%[_,%["KC~IN(W011EG1W01EI1",eN.nd|i]|aj λB k1 _=>⟨λm l g=>∃y,l=[hY _,-y]/\g=H/\y∈e/\r y=r z/\m=wC e y,%[_,z,ρ,ρ,v,ρ|ρ],?_⟩]
  intro m l g %[y,rfl,rfl,a,b|rfl];lk;let n:=by
   let:=cr.k (k:=lp y) u;rw[ko a]at this;show this
  show%[_,n,ρ|bT (λh=>?_) λh=>?_]
  .let h:=↑h
   show%[λc o=>c=[hY _,hY _]/\o=g,?_,_,n,ρ|ρ];intro c o %[rfl|rfl];show%[_,pS (F.fin y a) (F.dec y a h),p y,ρ,ρ,F.fin y a,(F.rf y a).trans b|ρ]
  .show k1 _ _ ?_;rw[<-b,F.fix y a ↑h]at j;show j
def nB(T:Txt K mg):↥2 "join_deposits" ["names","one","other"] zI:=by
 .exists T.aC,d7,m,e,%[d,a,b,c,p,r,S,rfl,g,F,i,j,n|o];show%[_,%["KCG3H~_A0A1BCG4H~_A0A2BEq~A~|A3A4B0~}]rA3A4B",d7.nd|e]|?_]
  change aU _ _ _ [!d,-a,-b,hX,hX] H;show aj λu k1 _=>?_
  lk;show%[d,a,c,p,r,S,ρ,g,F,i|k1 _ _ (aj λv k2 _=>?_)];lk;show%[d,b,c,p,r,S,ρ,g,F,j|k2 _ _ (az λy q _=>?_)];lk;let J:=F.join i j rfl rfl;let l:(if aN (r a) (r b)=iv then r b else r a)∈c:=by
   split
   .show F.rin b j
   .show F.rin a i
  generalize (if aN (r a) (r b)=iv then r b else r a)=M at J l
  show%[_,fE.k (k:=lp M) g (by unfold NmD;rw[Z6,PySem.sizeLine_eq];lia)|q _ _ ?_];rw[pR l];show o _ _ J
def yC{qs:ZN}{q:kG×ZM}(c:qs[i]?∣q)(a b:lx):ba (qs.take (i+1)) a b↔ba (qs.take i) a b\/q.2=[.str "same",.str a,.str b]:=by
 unfold ba;rw[X7,c]
 simp_all
def iK{c:ZB}(d:c.Pairwise (λa b=>aN b a=jg)){i:kj}{z w:lx}(f:c[i]?∣z)(hw:w∈c)(h:aN w z=iv):w∈c.take i:=by
 rw[<-X8 i c]at hw;rcases Xk hw with e|e
 .show e
 .let%[hi|g]:=Xj f;let%[j,l|rfl]:=OF e;rw[hH.getElem_drop]at h;rw[Yg]at l;by_cases m:j=0
  .subst m;rw[<-g]at h;simp only[PX]at h;rw[di]at h;cases h
  .let:=Rt.mp d i (i+j) hi ⋯ ⋯
   grind
inductive wD (mg:ZC)
 | mk (g c2 c3 c4 qs ls ts):vs=[.ref g]->GrF mg H g c2 c3 c4 qs ls ts->ls.Nodup->ls.Pairwise (λa b=>aN b a=jg)-> ~~~ls<=5000->(∀d H' r,ah H H'->H d=hX->H' d∣.dK (NmD ls r)->(∀z∈ls,r z∈ls/\cC (ba qs) z (r z))->Q (.ref d) H')->wD mg vs H Q E0
def pT{H:Hp}{g c2 c3 b:kG}{qs:hH _}{c:ZB}{ts:hH _}{m:lx}{R:Prop}(h:GrF mg H g c2 c3 b qs c ts)(d:m="layers"\/m="sayings"\/m="ties")(k:R):∃a fs,H g∣.ins (aC mg "Ground") a fs/\Mz m fs=hX/\R:=by
 let%[a,c1|e]:=h.at_;show⟨a,_,e,by rcases d with rfl|rfl|rfl<;> rfl,k⟩
def hZ(T:Txt K mg):↥3 "names_by_layer" ["ground"] (wD mg):=by
 .exists T.aB,bh,a0,L,%[g,c2,c3,c4,qs,j,ts,rfl,hg,nd,so,as|kk];let lm: ~~~(j\3)= ~~~j:=Z6 _;let qm: ~~~(qs\0)= ~~~qs:=Z6 _;show%[_,%["KCG1yCQT^~s0J2Eq212CQT^~t0jLJ3LJ4LJ5cEMNg3UEZH]sA1A4A5BOCQT^~s0J2EqW1W1212EI1",bh.nd|L]|?_]
  change aU _ _ _ [!g,hX,hX,hX,hX,hX] H;show aj λD1 k1 _=>?_
  lk;intro d hd;show k1 _ _ (aj λD2 k2 _=>aw λM hK=>?_);let s1:=ah.Qb (o:= .dK []) hd;let Y:Qb H d (.dK []) d∣.dK (NmD (j.take 0) id):=aa
  generalize Qb H d _=H1 at s1 Y
  lk;let ab:=hg.up s1;show pT ab (.inl rfl) %[g,c2,c3,c4,qs,j,ts,rfl,ab|λl1 N=>%[%[_|Qc.of aa]|hK _ _ ?_]];let s2:=ah.Qb (o:= .lst (j\3)) N;let ac:Qb H1 l1 (.lst (j\3)) l1=_:=aa;let n1:l1≠d:=λe=>by rw[e,Y]at N;cases N
  let Y:=s2 _ _ Y
  generalize Qb H1 l1 _=H2 at s2 ac Y
  show bD (λi n l=>A4 (E4 λp u v B=>n=[!g,!d,p,u,v,B]) (ah H l) (l l1<*j\3) (l d∣.dK (NmD (j.take i) id)))
   %[%[_,_,_,_|rfl],s1.trans s2,ac|Y] (λi n l h=>h.3) ?_ ?_
  .intro i z n l C %[%[p,u,v,B|rfl],m,J|c];change jM _ _ _ _ [!g,!d,-z,u,v,B] l;show az λD3 k3 _=>?_
   lk;let zn:z∉j.take i:=λhm=>by
    let h:=nd;rw[<-X8 i j,Yy]at h;show h.2.2 z hm z (Z8 (i:=0) ((N3)▸C)) rfl
   show%[_,fE.k (k:=lp z) c (by unfold NmD;rw[Z6,Yk,PySem.sizeLine_eq];lia)|k3 _ _ %[%[_,_,_,_|ρ],ah.set m hd,(ao n1).trans J|?_]];rw[aa,Ee zn,X7,C];rfl
  intro n H3 %[%[p,u,v,B|rfl],m,J|c];rw[Zn (Zi _)]at c;show k2 _ _ (aj λD4 k4 _=>aw λM hK=>?_);lk;let ae:=hg.up m;show pT ae (.inr (.inl rfl)) %[g,c2,c3,c4,qs,j,ts,rfl,ae|λl2 O=>%[%[_|Qc.of aa]|hK _ _ ?_]];let s4:=ah.Qb (o:= .lst (qs\0)) O;let ag:Qb H3 l2 (.lst (qs\0)) l2=_:=aa;let n2:l2≠d:=λe=>by rw[e,c]at O;cases O
  let c:=s4 _ _ c;let al:=m.trans s4
  generalize Qb H3 l2 _=H4 at s4 ag c al
  show bD (λi n l=>A4 (E4 λp u v B=>n=[!g,!d,p,u,v,B]) (ah H l) (l l2∣.lst (qs\0)) (E2 λf r=>l d∣.dK (NmD j f)/\bM j f r (ba (qs.take i))))
   %[%[_,_,_,_|rfl],al,ag,id,id,c|jD (bM.start j) λa b=>%[λh=>h.elim|λ⟨q,hq,_⟩=>(nomatch hq)]] (λi n l h=>h.3) ?_ ?_
  .intro i q n l hq %[%[p,u,v,B|rfl],m,J,f,r,c|F];let%[q1|q2]:=hg.sa q (Z8 hq);let st:=m _ _ q1;let G:=yC hq;rcases q2 with⟨wd,a,b,e,hw,ha,hb,_⟩|⟨wd,a,y,e,hw,_⟩
   .rw[e]at st G;show%[_,SqT.of st,ρ,_,_,ρ,_,_,ρ,_,_,ρ,ρ|?_];change jZ _ _ _ _ [!g,!d,p,-wd,-a,-b] l;show az λD5 k5 _=>?_
    lk;show bT (λh=>?_) λh=>?_
    .let h:wd=pw "same":=↑h
     show%[d,a,b,j,f,r,_,ρ,c,F,ha,hb,as|λf' r' F'=>k5 _ _ %[%[_,_,_,_|ρ],ah.set m hd,(ao n2).trans J,f',r',aa|jD F' λx y=>?_]];rw[G,h];show PP Nz %[λ⟨e1,e2⟩=>by rw[e1,e2]|λe=>?_];simp only[L9,V.str.injEq,Ue,true_and]at e;show%[e.1.symm|e.2.symm]
    .let h:wd≠pw "same":=↑h
     show k5 _ _ %[%[_,_,_,_|rfl],m,J,f,r,c|jD F λx y=>?_];rw[G];show%[.inl|λe=>e.resolve_right λe=>h ?_];simp only[L9,V.str.injEq]at e;show e.1
   .rw[e]at st G;show%[_,SqT.of st,ρ,_,_,ρ,_,_,ρ,_,_,ρ,ρ|?_];change jZ _ _ _ _ [!g,!d,p,-wd,-a,hY (.int y)] l;show az λD5 k5 _=>?_
    lk;rw[kw (by rcases hw with rfl|rfl<;> decide)];show k5 _ _ %[%[_,_,_,_|rfl],m,J,f,r,c|jD F λx z=>?_];rw[G];show%[.inl|λe=>e.resolve_right λe=>?_];simp at e
  intro n H5 %[%[p,u,v,B|rfl],m,J,f,r,c|F];rw[Zn (Zi _)]at F;show k4 _ _ (aj λD6 k6 _=>aw λM hK=>?_);lk;let an:=hg.up m;show pT an (.inl rfl) %[g,c2,c3,c4,qs,j,ts,rfl,an|λl3 U=>%[%[_|Qc.of aa]|hK _ _ ?_]];let s6:=ah.Qb (o:= .lst (j\3)) U;let n3:l3≠d:=λe=>by rw[e,c]at U;cases U
  let c:=s6 _ _ c;show bD (λi n l=>A4 (E4 λp u v B=>n=[!g,!d,p,u,v,B]) (ah H l) (l l3<*j\3) (∃f,A3 (l d∣.dK (NmD j f)) (bM j f r (ba qs)) (∀z∈j.take i,f z=r z)))
   %[%[_,_,_,_|rfl],(m.trans s6),aa,f,c,F|λz C=>(nomatch C)] (λi n l h=>h.3) ?_ ?_
  .intro i z n l C %[%[p,u,v,B|rfl],m,J,f,c,F|I];let zm:=Z8 C;change jM _ _ _ _ [!g,!d,-z,u,v,B] l;show az λD7 k7 _=>?_
   lk;let get:=λy hy=>by
    let:=cr.k (k:=lp y) c;rw[ko hy]at this;show this
   show%[_,get z zm,_,get _ (F.fin z zm),_,fE.k (k:=lp z) c (by unfold NmD;rw[Z6,PySem.sizeLine_eq];lia)|k7 _ _ %[%[_,_,_,_|ρ],ah.set m hd,(ao n3).trans J,_,?_,F.short zm|λy hy=>?_]]
   .rw[aa,pR zm]
   .rw[X7,C]at hy;by_cases e:y=z
    .rw[md e,e];show F.done zm λw hw h=>I w (iK so C hw h)
    .rw[kw e];rcases Xk hy with h|h
     .show I y h
     .show(e (Xl h)).elim
  intro n H7 %[%[p,u,v,B|rfl],m,J,f,c,F|I];rw[Zn (Zi _)]at I;show k6 _ _ ?_;lk;show kk d H7 r m hd ?_ λz C=>%[F.rin z C|F.least C]
  rw[c];unfold NmD;rw[Yo λz C=>by rw[I z C]]
def Jy{X:Cx}{K:ZA}{T id:LF}(h:X.K=K)(l:NY T)(slot:Slot T name id)(g:Oa (.builtin id)=pure (.type "method_descriptor"))(m:MtQ X id r)
 (b:Mf o name X.env (LB o X.env)=LB o X.env) (a:(e::es).any aQ=jg) (i:VI (e::es).length 30=iv) (c:(d.endLine==f.line)=iv) (n:QE X o p) (q:QA X (e::es) t):
 QE X (.Call (.Attribute o name d) (e::es) [] f) (tBM K T r p t):=by
 let j:=a;rw[Zw,X4]at j;show⟨Cq h l slot g m.h n.h q.h b ?_ c (ay j.1) (dJ j.2)⟩;rw[tP a];let:decide (~~~(e::es)+ ~~~([]:hH N6)+(if([]:hH N6).isEmpty then 0 else 1)<30)=iv:=Zf ((kj.blt_eq.mp i));rw[this];rfl
abbrev grp(r:lx->lx)(xs:ZB):hH (lx×ZB):=(xs.filter λz=>decide (r z=z)).map λz=>(z,xs.filter λx=>decide (r x=z))
def Bw(h:∀z∈xs,r z=b z):grp r xs=grp b xs:=by
 unfold grp;rw[Tt λz a=>by rw[h z a]];show Yo λz a=>?_
 rw[Tt λx c=>by rw[h x c]]
def Gi(a:r z=z)(b:z∉xs)(c:∀x∈xs,r x∈xs):grp r (xs++[z])=grp r xs++[(z,[z])]:=by
 unfold grp;rw[Y2,Zd];show T9 (tI _ (Yo λw hw=>?_)) ?_
 .let:w≠z:=λe=>b (e▸(on.mp hw).1)
  rw[Y2,Y4 (by rw[a];simpa using this.symm),Y7,Zx]
 .rw[Y6 (by rw[a];simp),Y7];change [(z,_)]=_;rw[Y2,Y6 (by rw[a];simp),Y7,NP.mpr λx d=>?_]
  .rfl
  .intro e;show b ((Zo e)▸c x d)
def Gj(a:r z≠z):grp r (xs++[z])=(grp r xs).map λp=>if p.1=r z then(p.1,p.2++[z])else p:=by
 unfold grp;rw[Y2,Y4 ↑a,Y7,Zx,Yq];show Yo λw hw=>?_
 change(w,_)=if w=r z then(w,_)else(w,_)
 rw[Y2];by_cases e:w=r z
 .rw[md e,Y6 (by simpa using e.symm),Y7]
 .rw[kw e,Y4 (by simpa using λq=>e q.symm),Y7,Zx]
def jE:y∈(grp r xs)\1↔y∈xs/\r y=y:=by
 unfold grp
 simp_all
def mB(h:xs.Nodup):((grp r xs)\1).Nodup:=by
 unfold grp;rw[Yq,show((λx=>x.1) ∘ λz=>(z,MT _ xs))=id from rfl,VJ];show h.filter _
abbrev zJ(S:lx->lx->Prop)(a:ZB)(ds:hH ZB):Prop:=∃r:lx->lx,(∀z∈a,r z∈a/\cC S z (r z))/\ds=(grp r a)\2
def zJ.one{S:lx->lx->Prop}(h:zJ S b ds)(g:zJ S b es):ds=es:=by
 let%[r,c|rfl]:=h;let%[e,d|rfl]:=g;rw[Bw λz a=>(c z a).2.one (d z a).2]
noncomputable abbrev Gs(a:Type):=hH (lx×kG×hH a)
abbrev gD{a:Type}(b:Gs a):hH (Key×V):=b.map λg=>(lp g.1,V.ref g.2.1)
def nK:∀{a:Gs b},y∉a\1->bV (gD a) (lp y)=hX
 |[],_=>rfl
 | g::a,h=>by
   rw[Yp,Yu,NM]at h;rw[show gD _=(lp g.1,V.ref _)::gD a from rfl,cZ (λq=>h.1 (Mg q).symm)];show nK h.2
def eT:∀{a:Gs f},bV (gD a) (lp y)∣v->∃g∈a,g.1=y/\v= .ref g.2.1
 |[],h=>(nomatch h)
 | g::a,h=>by
   rw[show gD _=(lp g.1,V.ref _)::gD a from rfl]at h;by_cases e:g.1=y
   .rw[eD (tI lp e)]at h;show%[g,Zm,e|(Za h).symm]
   .rw[cZ (λq=>e (Mg q))]at h;let%[b,c|d]:=eT h;show%[b,Zk _ c|d]
def iL:∀{a:Gs b},g∈a->bV (gD a) (lp g.1)≠hX
 | x::a,h,c=>by
   rw[show gD _=(lp x.1,V.ref _)::gD a from rfl]at c;by_cases e:x.1=g.1
   .rw[eD (tI lp e)]at c;cases c
   .rw[cZ (λq=>e (Mg q))]at c;rcases Yu.mp h with q|q
    .show e (by rw[q])
    .show iL q c
abbrev nM(H:Hp)(a:ZG):Prop:=∀g∈a,H g.1<*g.2\3
def nM.up{H a:Hp}{b:hH _}(h:nM H b)(s:ah H a):nM a b:=λg c=>s _ _ (h g c)
structure iV {α:Type} (f:α->V) (H0 H:Hp) (d:kG) (gs:Gs α):Prop where
 at_:H d∣.dK (gD gs)
 la:∀g∈gs,H0 g.2.1=hX/\H g.2.1<*g.2.2.map f
 nd:(gs.map (·.2.1)).Nodup
def Gk{f:Type}{c:Gs f}(d:(c\1).Nodup){g h:lx×kG×hH f}(i:g∈c)(j:h∈c)(e:g.1=h.1):g=h:=by
 induction c with
 | nil=>cases i
 | cons x xs l=>
   rw[Yp,Mi]at d;rcases Yu.mp i with a|a<;> rcases Yu.mp j with b|b
   .rw[a,b]
   .show(d.1 (by rw[<-a,e];show Xn %[_,b|rfl])).elim
   .show(d.1 (by rw[<-b,<-e];show Xn %[_,a|rfl])).elim
   .show l d.2 a b
def Eg{f:Type}{c:Gs f}(d:(c.map (·.2.1)).Nodup){g h:lx×kG×hH f}(i:g∈c)(j:h∈c)(e:g.2.1=h.2.1):g=h:=by
 induction c with
 | nil=>cases i
 | cons x xs l=>
   rw[Yp,Mi]at d;rcases Yu.mp i with a|a<;> rcases Yu.mp j with b|b
   .rw[a,b]
   .show(d.1 (by rw[<-a,e];show Xn %[_,b|rfl])).elim
   .show(d.1 (by rw[<-b,<-e];show Xn %[_,a|rfl])).elim
   .show l d.2 a b
abbrev mC{a:Type}(y:lx)(z:a)(b:Gs a):Gs a:=b.map λg=>if g.1=y then(g.1,g.2.1,g.2.2++[z])else g
def Jz(y:lx)(z:b)(a:Gs b):gD (mC y z a)=gD a:=by
 unfold mC gD;rw[Yq];show Yo λg _=>?_
 change(lp (if g.1=y then(g.1,g.2.1,g.2.2++[z])else g).1,V.ref (if g.1=y then(g.1,g.2.1,g.2.2++[z])else g).2.1)=_
 split<;> rfl
def JA(y:lx)(z:b)(a:Gs b):(mC y z a).map (·.2.1)=a.map (·.2.1):=by
 unfold mC;rw[Yq];show Yo λg _=>?_
 change(if g.1=y then(g.1,g.2.1,g.2.2++[z])else g).2.1=_
 split<;> rfl
def JB(y:lx)(z:b)(a:Gs b):(mC y z a).map (λg=>(g.1,g.2.2))=(a.map λg=>(g.1,g.2.2)).map λp=>if p.1=y then(p.1,p.2++[z])else p:=by
 unfold mC;rw[Yq,Yq];show Yo λg _=>?_
 change((if g.1=y then(g.1,g.2.1,g.2.2++[z])else g).1,(if g.1=y then(g.1,g.2.1,g.2.2++[z])else g).2.2)=if g.1=y then(g.1,g.2.2++[z])else(g.1,g.2.2)
 split<;> rfl
def iV.up{a:Type}{f:a->V}{b H c:Hp}{d:kG}{e:Gs a}(h:iV f b H d e)(s:ah H c):iV f b c d e:=%[s _ _ h.at_,λg i=>%[(h.la g i).1|s _ _ (h.la g i).2]|h.nd]
def iV.add{a:Type}{f:a->V}{l H:Hp}{d:kG}{b:Gs a}(h:iV f l H d b)(m:(b\1).Nodup){g:lx×kG×hH a}(c:g∈b)(z:a):iV f l (Qb H g.2.1 (.lst (g.2.2.map f++[f z]))) d (mC g.1 z b):=by
 show%[?_,λo j=>?_|by rw[JA];show h.nd]
 .rw[Jz,ao (λe=>by let:=(h.la g c).2;rw[<-e,h.at_]at this;cases this)];show h.at_
 .let%[n,i|rfl]:=Xm j;by_cases e:n.1=g.1
  .rw[md e];obtain rfl:=Gk m i c e;show%[(h.la _ c).1|?_];rw[aa,Zd];rfl
  .rw[kw e];show%[(h.la _ i).1|?_];rw[ao (λq=>e (by rw[Eg h.nd i c q]))];show(h.la _ i).2
def iV.new{l:Gs n}(h:iV f m H d l)(s:ah m H)(j:H e=hX)(y:lx)(z:n)(o:y∉l\1):iV f m (Qb (Qb (Qb H e (.lst [])) d (.dK (cY (gD l) (lp y) (.ref e)))) e (.lst [f z])) d (l++[(y,e,[z])]):=by
 show%[?_,λg i=>?_|?_]
 .rw[ao (λq=>by rw[<-q,h.at_]at j;cases j),aa,fA _ (nK o)];unfold gD;rw[Zd];rfl
 .rcases Xk i with i|i
  .show%[(h.la g i).1|?_];let q:=(h.la g i).2;rw[ao (λc=>by rw[c,j]at q;cases q),ao (λc=>by rw[c,h.at_]at q;cases q),ao (λc=>by rw[c,j]at q;cases q)];show q
  .rw[Xl i];show%[s.free j|aa]
 .rw[Zd,Yy];show%[h.nd,by simp|λa p b r c=>?_];let%[g,i|rfl]:=Xm p;let q:=(h.la g i).2
  simp_all
inductive zK (mg:ZC)
 | mk (g c2 c3 c4 qs ls ts):vs=[.ref g]->GrF mg H g c2 c3 c4 qs ls ts->ls.Nodup->ls.Pairwise (λa b=>aN b a=jg)-> ~~~ls<=5000->(∀l H' ss,ah H H'->H l=hX->H' l∣.lst (ss\0)->nM H' ss->(∀s∈ss,H s.1=hX)->zJ (ba qs) ls (ss\2)-> ~~~ss<=5000->Q (.ref l) H')->zK mg vs H Q E0
inductive JC (mg:ZC)
 | mk (g c2 c3 c4 qs ls ts z):vs=[.ref g,.str z]->GrF mg H g c2 c3 c4 qs ls ts->ls.Nodup->ls.Pairwise (λa b=>aN b a=jg)-> ~~~ls<=5000->z∈ls->(∀H' m,ah H H'->cC (ba qs) z m->Q (.str m) H')->JC mg vs H Q E0
def yD(T:Txt K mg):↥4 "deposits" ["ground"] (zK mg):=by
 .exists T.aF,gC,bc,I,%[g,c2,c3,c4,qs,n,ts,rfl,hg,nd,so,as|kk];let lm: ~~~(n\3)= ~~~n:=Z6 _;show%[_,%["KCG1H~[A0BCG2yCQT^~s0J3EZ~um~v~w2AW13ARBBA3BEI,]tA~0~12B",gC.nd|I]|?_]
  change aU _ _ _ [!g,hX,hX,hX] H;show aj λD1 k1 _=>?_
  lk;show%[g,c2,c3,c4,qs,n,ts,ρ,hg,nd,so,as|λd H1 r s1 fd J I=>k1 _ _ (aj λD2 k2 _=>?_)];lk;intro e fe;show k2 _ _ (aj λD3 k3 _=>aw λbb hK=>?_);let a0:d≠e:=λc=>by rw[c,fe]at J;cases J
  let s2:=ah.Qb (o:= .dK []) fe;let ge:Qb H1 e (.dK []) e∣.dK (gD ([]:Gs lx)):=aa;let J:=s2 _ _ J;let fe:=s1.free fe;let Y:=s1.trans s2
  generalize Qb H1 e _=H2 at s2 ge J Y
  lk;let ac:=hg.up Y;show pT ac (.inl rfl) %[g,c2,c3,c4,qs,n,ts,rfl,ac|λl1 a1=>%[%[_|Qc.of aa]|hK _ _ ?_]];let s3:=ah.Qb (o:= .lst (n\3)) a1;let L:Qb H2 l1 (.lst (n\3)) l1=_:=aa;let J:=s3 _ _ J;let ge:=s3 _ _ ge;let ae:=Y.trans s3
  generalize Qb H2 l1 _=H3 at s3 L J ge ae
  let r2:∀z∈n,r (r z)=r z:=λz M=>by
   let h:=(I z M)
   let h2:=(I _ h.1).2;show h2.one %[.refl _|λy c=>h.2.2 y (h.2.1.trans c)]
  let ag:∀z∈n,r z≠z->aN (r z) z=iv:=λz M h=>eY ((I z M).2.2 z (.refl _)) h.symm
  obtain⟨N,a2,a3,a4,ab,s0⟩:∃N:Hp,N e=hX/\N d∣.dK (NmD n r)/\N l1<*n\3/\ah H N/\ah N H3:=by
   show%[λa=>if a=e then hX else H3 a,md rfl,?_,?_,λa o h=>?_|λa o h=>?_]
   .show(kw (λc=>a0 c)).trans J
   .show(kw (λc=>by rw[c,ge]at L;cases L)).trans L
   .show(kw (λc=>by rw[c,fe]at h;cases h)).trans (ae _ _ h)
   .let h:(if a=e then hX else H3 a)∣o:=h
    split at h
    .cases h
    .show h
  show bD (λi σ H'=>A3 (∃o3,σ=[!g,!d,!e,o3]) (ah N H') (∃B,iV V.str N H' e B/\B.map (λg=>(g.1,g.2.2))=grp r (n.take i)))
   %[%[_|rfl],s0,[],%[ge,λg hg=>(nomatch hg)|X1]|rfl] (λi σ H' h=>h.2 _ _ a4) ?_ ?_
  .intro i z σ H' M %[%[o3|rfl],O,B,b|u];let zm:=Z8 M;let i1:i< ~~~n:=(Xj M).1;change mE _ _ [!g,!d,!e,-z] H';show az λD4 k4 _=>?_
   lk;let get:=cr.k (k:=lp z) (O _ _ a3);rw[ko zm]at get;let gk:B\1=(grp r (n.take i))\1:=by rw[<-u,Yq];rfl
   let al:(B\1).Nodup:=by rw[gk];show mB (nd.sublist (To _ _))
   let gl: ~~~B<= ~~~n:=by
    let:=_ST.nodup_sub al (m:=n) λy hy=>by rw[gk,jE]at hy;show Yv hy.1
    rw[Z6]at this;show this
   let zn:z∉n.take i:=λhm=>by
    let h:=nd;rw[<-X8 i n,Yy]at h;show h.2.2 z hm z (Z8 (i:=0) (by rw[N3];show M)) rfl
   let tk:n.take (i+1)=n.take i++[z]:=by rw[X7,M];rfl
   show%[tyD (b.at_),_,get,#[0]|λp U=>%[lp (r z),ρ,gD B,?_,?_,λv hv=>?_|λhv=>?_]]
   .rw[ao (λc=>by rw[<-c,b.at_]at U;cases U)];show b.at_
   .unfold gD;rw[Z6];show aB ⋯
   .let%[q,C,e1|rfl]:=eT hv;let a5:q.1∈B\1:=Xn %[q,C|rfl];let an:=a5;rw[gk,jE,e1]at an;let rn:r z≠z:=λc=>zn (by show c▸an.1)
    let sp:=ah.Qb (o:= .lst []) U;let hl:=sp _ _ (b.la q C).2;let G:=(b.up sp).add al C z;let ml: ~~~q.2.2<= ~~~n:=by
     let:(q.1,q.2.2)∈grp r (n.take i):=u▸Xn %[q,C|rfl];let%[y,hy|c]:=Xm this;show((Prod.mk.inj c).2)▸n7 (Yh _ _) (by rw[Yk];lia)
    show%[tyL (Qc.of hl),_,hl,by rw[Z6];show aB ⋯|k4 _ _ %[%[_|ρ],ah.set (O.trans sp) (b.la q C).1,_,G|?_]];rw[JB,u,tk,Gj rn,e1]
   .let nk:r z∉B\1:=λh=>by
     let%[q,C|c]:=Xm h;let:=iL C;rw[c,hv]at this;show this rfl
    let rz:r z=z:=K4 λc=>nk (by rw[gk,jE];show%[iK so M (I z zm).1 (ag z zm c)|r2 z zm])
    let de:e≠p:=λq=>by rw[<-q,b.at_]at U;cases U
    rw[rz]at hv nk ⊢;let gp:Qb (Qb H' p (.lst [])) e (.dK (cY (gD B) (lp z) (.ref p))) p<*[]:=by rw[ao de.symm,aa]
    show%[tyL (Qc.of gp),[],gp,(show 0<mv by decide)|k4 _ _ %[%[_|ρ],ah.set (ah.set (O.trans (ah.Qb U)) a2) (O.free U),_,b.new O U z z nk|?_]];rw[Zd,u,tk,Gi rz zn λx hx=>?_]
    .rfl
    .let%[j|hj]:=hH.mem_iff_getElem?.mp hx;let xm:=Yv hx;by_cases c:r x=x
     .rw[c];show hx
     .let ji:j<i:=by let:=(Xj hj).1;rw[Yk]at this;lia
      rw[Yb ji]at hj;show Rg _ (Ye ji) (iK so hj (I x xm).1 (ag x xm c))
  intro σ H' %[%[o3|rfl],O,B,b|u];rw[Zn (Zi _)]at u;show k3 _ _ ?_;lk;let gk:B\1=(grp r n)\1:=by rw[<-u,Yq];rfl
  let gl: ~~~B<= ~~~n:=by
   let:=_ST.nodup_sub (l:=B\1) (gk▸mB nd) (m:=n) λy hy=>by rw[gk,jE]at hy;show hy.1
   rw[Z6]at this;show this
  show%[tyD (b.at_),%[_|b.at_]|λv fv=>%[e,aa,_,ah.Qb fv _ _ b.at_|λl fl=>?_]];let sv:=ah.Qb (o:=kR v e) fv;let sl:=ah.Qb (o:= .lst ((gD B)\2)) fl;let a6:=O.trans (sv.trans sl);show kk l _ (B\2) (ab.trans a6) ((ab.trans (O.trans sv)).free fl) ?_ (λs hs=>?_) (λs hs=>?_) %[r,I|?_] (by rw[Z6];lia)
  .rw[aa];unfold gD;rw[Yq,Yq];rfl
  .let%[q,C|rfl]:=Xm hs;show sl _ _ (sv _ _ (b.la q C).2)
  .let%[q,C|rfl]:=Xm hs;show ab.free (b.la q C).1
  .rw[<-u,Yq,Yq];rfl
structure bP (S:lx->lx->Prop) (ks0 ks:hH _):Prop where
 nd:ks.Nodup
 mem:∀k,k∈ks↔∃a b z a' b',[a,b,z]∈ks0/\cC S a a'/\cC S b b'/\k=[a',b',z]
def bP.mm{S:lx->lx->Prop}{a ks b:hH ZB}(h:bP S a ks)(g:bP S a b)(k:ZB):k∈ks↔k∈b:=(h.mem k).trans (g.mem k).symm
def nN{ks c:hH ZB}(e:∀k,k∈ks↔k∈c):Ed ks=Ed c:=by
 funext a b;simp only[Ed,e]
def ju{ks c:hH ZB}(e:∀k,k∈ks↔k∈c):Dst ks=Dst c:=by
 funext a n b;simp only[Dst,e]
def lN{ks c:hH ZB}(e:∀k,k∈ks↔k∈c):Rch ks=Rch c:=by
 funext a b;let q:∀{ks},Rch ks a b↔∃n,Dst ks a (n+1) b:=%[Rch.dst|λ⟨_,h⟩=>h.rch]
 rw[propext q,propext q,ju e]
abbrev iM(r:lx->lx):ZB->ZB
 |[a,b,z]=>[r a,r b,z]
 | k=>k
def pU{S:lx->lx->Prop}{c:hH ZB}{l:ZB}{r:lx->lx}(m:∀k∈c,dR l k)(f:∀z∈l,cC S z (r z))(k:ZB):k∈c.map (iM r)↔∃a b z g h,[a,b,z]∈c/\cC S a g/\cC S b h/\k=[g,h,z]:=by
 rw[N1]
 constructor
 .rintro⟨t,d,rfl⟩;let%[a,b,z,rfl,i|j]:=m t d;show%[a,b,z,r a,r b,d,f a i,f b j|ρ]
 .rintro⟨a,b,z,g,h,d,n,o,rfl⟩;let%[x,y,u,e,i|j]:=m _ d;simp only[L9,Ue]at e;let%[rfl,rfl|rfl]:=e;show%[_,d|by rw[<-(f a i).one n,<-(f b j).one o];rfl]
inductive wE (mg:ZC)
 | mk (g c2 c3 c4:kG) (qs:ZN) (ls:ZB) (ts:ZG):vs=[.ref g]->GrF mg H g c2 c3 c4 qs ls ts->ls.Nodup->ls.Pairwise (λa b=>aN b a=jg)-> ~~~ls<=5000-> ~~~ts<=250->(∀k∈ts\2,dR ls k)->(∀l H' (ss:ZG),ah H H'->H l=hX->H' l∣.lst (ss\0)->aF H' ss->bP (ba qs) (ts\2) (ss\2)-> ~~~ss<=250->Q (.ref l) H')->wE mg vs H Q E0
def zL(T:Txt K mg):↥4 "links" ["ground"] (wE mg):=by
 .exists T.aH,wb,a1,n,%[g,c2,c3,O,qs,J,ts,rfl,hg,nd,so,U,a2,Y|kk];let tm: ~~~(ts\0)= ~~~ts:=Z6 _;show%[_,%["KC.1stH~[A0BEI*~<A~D~=Aoh?1T^]u0jLb0?2Lb1?2Lb2?2c%dAWS30AWS31A2BBB",wb.nd,↑(["later","earlier","source","names"],[(3,1)]),↑["later","earlier","source","names"]|n]|?_]
  change aU _ _ _ [!g,hX] H;show aj λD1 k1 _=>?_
  lk;show%[g,c2,c3,O,qs,J,ts,ρ,hg,nd,so,U|λd H1 r s1 fd hd n=>k1 _ _ ?_];lk;show aK λa0 hK=>?_
  lk;let u:=hg.up s1;show pT u (.inr (.inr rfl)) %[g,c2,c3,O,qs,J,ts,rfl,u|λl1 ab=>%[%[_|Qc.of aa]|hK _ _ λF hF=>?_]];let L:=ah.Qb (o:= .lst (ts\0)) ab;let v:Qb H1 l1 (.lst (ts\0)) l1=_:=aa
  generalize Qb H1 l1 _=H2 at L v hF
  let ac:=L _ _ hd;let ae:=(u.up L).tu;show cP (λj vs σ M=>A4 (E3 λo1 o2 o3=>σ=[o1,o2,o3,!d]) (ah H2 M) (M F<*vs) (∃ps:ZG,A3 (vs=ps\0) (aF M ps) (ps\2=((ts.take j)\2).map (iM r))))
   %[%[hX,hX,hX|rfl],ah.Qb hF,aa,[],rfl,fU _|rfl] (λ_ _ _ M ag=>ag.2 _ _ v) ?_ ?_
  .intro j vs σ H4 hj %[%[o1,o2,o3|rfl],B,C,ps,N,i|c];let tj:=Yc hj;let%[a,b,z,e,ha|hb]:=Y _ (Xn %[_,tj|rfl]);let st:=B _ _ (ae _ tj).2;rw[e]at st;let get:∀y∈J,cr H4 d (.str y) (hY (.str (r y))):=λy hy=>by
    let:=cr.k (k:=lp y) (B _ _ ac);rw[ko hy]at this;show this
   show%[_,SqT.of st,ρ,_,_,ρ,_,_,ρ,_,_,ρ,ρ|?_];change Fu [-a,-b,-z,!d] _ _;lk;show%[_,get a ha,_,get b hb,#[3]|λp hp=>?_];let sp:=ah.Qb (o:= .tup [V.str (r a),V.str (r b),V.str z]) hp;let gp:Qb H4 p (.tup [V.str (r a),V.str (r b),V.str z]) p=_:=aa
   generalize Qb H4 p _=H5 at sp gp ⊢
   let keep:=uJ (ys:=vs++[V.ref p]) (sp _ _ C);let pl:=tI Lo c;rw[Z6,Z6,Z6,Yk]at pl;show CK.mk hj (sp _ _ C) (by rw[N,Z6];show aB ⋯) %[%[_,_,_|rfl],ah.set (B.trans sp) hF,aa,ps++[(p,[r a,r b,z])],by rw[N,Zd];rfl,aA (fh (aA i λb z e=>sp _ _ e) ∅ gp) keep|?_];rw[Zd,c,X7,Z4 hj,Zd,Zd];change _++[_]=_++[iM r ts[j].2];rw[e];rfl
  intro vs σ H3 %[_,B,al,ps,N,i|c];rw[Zn (Zi _)]at c;let pl:=tI Lo c;rw[Z6,Z6,Z6]at pl;let p3:∀q∈ps,~~~q.2=3:=λq l=>by
   let:q.2∈ps\2:=Xn %[q,l|rfl];rw[c]at this;let%[k,hk|e]:=Xm this;let%[a,b,z,rfl|_]:=Y k hk;rw[<-e];rfl
  show%[ps,by rw[<-N];show Qc.of al,i,%[ps\2,by rw[Z6];lia|λq l=>Xn %[q,l|ρ]]|λl5 an=>?_];let s5:=ah.Qb (o:=oH P w l5 (bx ps)) an;let few: ~~~(bx ps)<=250:=by
   let:=_ST.nodup_sub (eA ps) (m:=ps\2) λk hk=>by
    let%[q,l|rfl]:=Xm hk;show Xn %[q,bn ps q l|rfl]
   rw[Z6,Z6]at this
   lia
  show%[bx ps,aa,λq l=>%[(i q (bn ps q l)).1|s5 _ _ (i q (bn ps q l)).2],3,λq l=>p3 q (bn ps q l),!1,⋯|λl6 ss G pm=>?_];let s6:=ah.Qb (o:= .lst (ss\0)) G;let I:=s1.trans (L.trans (B.trans s5));let pk:(ss\2).Perm ((bx ps)\2):=pm.map _;show kk l6 _ ss (I.trans s6) (I.free G) aa (λq l=>?_) %[pk.nodup_iff.mpr (eA ps)|λk=>?_] (by rw[pm.length_eq];show few)
  .let as:=pm.mem_iff.mp l;let:=i q (bn ps q as);show%[this.1|s6 _ _ (s5 _ _ this.2)]
  .rw[pk.mem_iff,iA,c];show pU Y (λz hz=>(n z hz).2) k
def Eh{S:lx->lx->Prop}(d:c.Pairwise (λa b=>aN b a=jg))(i:∀z∈c,r z∈c/\cC S z (r z))(h:p∈grp r c):p.2[0]?∣p.1:=by
 unfold grp at h;let%[z,j|rfl]:=Xm h;let%[l|m]:=on.mp j;let f:z∈c.filter (λx=>decide (r x=z)):=on.mpr %[l|m];let d:=d.sublist (hH.filter_sublist (p:=λx=>decide (r x=z)));let all:∀x∈c.filter (λx=>decide (r x=z)),aN x z=jg:=λx n=>by
  let%[o|s]:=on.mp n;rw[<-Zo s];show(i x o).2.2 x (.refl _)
 change(c.filter λx=>decide (r x=z))[0]?∣z
 generalize c.filter (λx=>decide (r x=z))=g at all f d
 cases g with
 | nil=>cases f
 | cons y g=>
   rw[OI];rcases Yu.mp f with e|e
   .rw[e]
   .let a:=(S0.mp d).1 z e;by_cases q:y=z
    .rw[q]
    .let:=eY (all y Zm) q;rw[a]at this;cases this
structure wF (S:lx->lx->Prop) (ls ns:ZB):Prop where
 nd:ns.Nodup
 mem:∀x,x∈ns↔x∈ls/\cC S x x
 so:ns.Pairwise (λa b=>aN b a=jg)
 ne:ls≠[]->ns≠[]
def JD{S:lx->lx->Prop}{a:ZB}{r:lx->lx}(c:∀z∈a,r z∈a/\cC S z (r z))(h:a≠[]):(grp r a)\1≠[]:=by
 let%[z|f]:=Rv _ h;let%[e|b]:=c z f;let g:cC S (r z) (r z):=%[b.1.symm.trans b.1|λy d=>b.2 y (b.1.trans d)]
 show hH.ne_nil_of_mem (jE.mpr %[e|(c _ e).2.one g])
def JE{r:lx->lx}{xs:ZB}(h:xs.Pairwise (λa b=>aN b a=jg)):((grp r xs)\1).Pairwise (λa b=>aN b a=jg):=by
 unfold grp;rw[Yq];change Ot _ (Rh (λz=>z) _);rw[hH.map_id'];show h.filter _
inductive sS (mg:ZC)
 | mk (g c2 c3 c4 qs ls ts):vs=[.ref g]->GrF mg H g c2 c3 c4 qs ls ts->ls.Nodup->ls.Pairwise (λa b=>aN b a=jg)-> ~~~ls<=5000->(∀l H' ns,ah H H'->H l=hX->H' l<*ns\3->wF (ba qs) ls ns->Q (.ref l) H')->sS mg vs H Q E0
def eM(T:Txt K mg):↥5 "deposit_names" ["ground"] (sS mg):=by
 .exists T.aG,mf,L,a,%[g,c2,c3,y,qs,b,ts,rfl,M,nd,i,l|N];show%[_,%["KEIoh?1TH]vA0Bb0?2%P0D",0,↑(["group"],[]),↑["group"]|a]|?_];change jH _ _ [!g] H;lk;show aK λB O=>?_
  lk;show%[g,c2,c3,y,qs,b,ts,ρ,M,nd,i,l|λl1 U ss C f1 G Y _ ⟨r,a,I⟩ ab=>%[%[_|Qc.of G]|O _ _ λF m=>?_]];let sg: ~~~ss= ~~~(grp r b):=by
   let:=tI Lo I;rwa[Z6,Z6]at this
  show cP (λj vs n o=>A4 (∃J,n=[J]) (ah U o) (o F<*vs) (vs=(((grp r b).take j)\1)\3))
   %[%[hX|rfl],ah.Qb m,aa|rfl] (λ_ _ _ o p=>p.2 _ _ G) ?_ ?_
  .intro j vs n H4 q %[%[J|rfl],e,u|c];let v:j< ~~~(grp r b):=by lia
   let e2:ss[j].2=(grp r b)[j].2:=by
    let:=tI (λz=>z[j]?) I;simpa [q,v]using this
   lk;show%[_,Qc.of (e _ _ (Y _ (Yc q))),_,(show atI (ss[j].2\3) ((0:kj):pp)∣_ from bG (by rw[Zl,e2,(Eh i a (Yc v))];rfl))|?_];show CK.mk q u (by rw[c,Z6,Z6,Yk];show aB ⋯) %[%[_|rfl],ah.set e m,aa|?_];rw[c,X7,Z4 v,Zd,Zd];rfl
  intro vs n H3 %[_,e,d|c];rw[Zn ⋯]at c;rw[c]at d;show N F H3 _ (C.trans e) (C.free m) d %[mB nd,λx=>?_,JE i|JD a];rw[jE];show%[λh=>%[h.1|by let:=(a x h.1).2;rwa[h.2]at this]|λh=>%[h.1|(a x h.1).2.one h.2]]
abbrev GrB(H:Hp)(d:kG)(ss:ZG)(i:kj):Prop:=∃a,H d∣.dK a/\∀n,(∃l,bV a (lp n)∣.ref l/\H l∣.lst ((ss.filter λt=>decide (t.2[i]? =hY n))\0))\/(bV a (lp n)=hX/\∀t∈ss,t.2[i]? ≠hY n)
def GrB.up(h:GrB H d ss i)(s:ah H e):GrB e d ss i:=by
 let%[c,f|g]:=h;show%[c,s _ _ f|λn=>(g n).imp_left λ⟨l,a,b⟩=>%[l,a|s _ _ b]]
abbrev dq(H:Hp)(a:ZB)(ss:ZG):Prop:=∀t∈ss,H t.1&&&t.2\3/\dR a t.2
def dq.up(h:dq H b ss)(s:ah H c):dq c b ss:=λt a=>%[s _ _ (h t a).1|(h t a).2]
def JF(h:dR c k)(hi:i<2):∃n,k[i]?∣n/\n∈c:=by
 let%[a,b,z,rfl,d|e]:=h
 match i,hi with
 | 0,_=>show%[a,ρ|d]
 | 1,_=>show%[b,ρ|e]
inductive pV
 | mk (l:kG) (i:kj) (ns:ZB) (ss:hH _):vs=[.ref l,.int i]->i<2->H l∣.lst (ss\0)->dq H ns ss-> ~~~ss<=250->(∀d H',ah H H'->H d=hX->GrB H' d ss i->Q (.ref d) H')->pV vs H Q E0
inductive Ei (i:kj)
 | mk (l ns ss):vs=[.ref l]->H l∣.lst (ss\0)->dq H ns ss-> ~~~ss<=250->(∀d H',ah H H'->H d=hX->GrB H' d ss i->Q (.ref d) H')->Ei i vs H Q E0
def sT(T:Txt K mg):↥1 "grouped" ["found","side"] pV:=by
 .exists T.aK,kf,ae,hr,%[l,i,ns,ss,rfl,hi,U,Y,ag|kk];let al: ~~~(ss\0)= ~~~ss:=Z6 _;show%[_,%["KCG2yCQT0J3EZ~um~v~w2AV31ARBBA3BEI2"|kf.nd]|?_]
  change aU _ _ _ [!l,hY (.int i),hX,hX] H;show aj λD1 k1 _=>?_
  lk;intro e fe;show k1 _ _ (aj λD2 k2 _=>aw λac hK=>?_);lk;let se:=ah.Qb (o:= .dK []) fe;show%[%[_|Qc.of (se _ _ U)]|hK _ _ ?_];show bD (λj σ u=>A3 (∃o3,σ=[!l,hY (.int i),!e,o3]) (ah H u) (∃m,A4 (iV (λt:kG×ZB=>V.ref t.1) H u e m) ((m\1).Nodup) (∀g∈m,g.2.2=(ss.take j).filter λt=>decide (t.2[i]?∣g.1)) (∀n,n∈m\1↔∃t∈ss.take j,t.2[i]?∣n)))
   %[%[_|rfl],se,[],%[aa,λg B=>(nomatch B)|X1],X1,λg B=>(nomatch B)|by simp] (λj σ u h=>h.2 _ _ U) ?_ ?_
  .intro j t σ u G %[%[o3|rfl],I,m,d,gn,J|N];let tm:=Z8 G;let j1:j< ~~~ss:=(Xj G).1;let%[n,L|_]:=JF (Y t tm).2 hi;let tk:ss.take (j+1)=ss.take j++[t]:=by rw[X7,G];rfl
   change mE _ _ [!l,hY (.int i),!e,hY (.ref t.1)] u;show az λD4 k4 _=>?_
   lk;let gl: ~~~m<= ~~~ss:=by
    let:m\1 ⊆ ss.filterMap λt=>t.2[i]? :=λy hy=>by
     let%[t,G|e]:=(N y).mp hy;show LG.mpr %[t,Yv G|e]
    let:=_ST.nodup_sub gn λx hx=>this hx
    rw[Z6]at this;show n7 this (M6 _ _)
   let st:=I _ _ (Y t tm).1;let keys:∀(M:Gs (kG×ZB)),(∀y,y∈M\1↔y∈m\1\/y=n)->∀y,y∈M\1↔∃t∈ss.take (j+1),t.2[i]?∣y:=λM h y=>by
    rw[h,N,tk]
    constructor
    .rintro(⟨t',h1,h2⟩|rfl)
     .show%[t',Ys _ h1|h2]
     .show%[t,Yt _ Zm|L]
    .rintro⟨t',h1,h2⟩;rcases Xk h1 with q|q
     .show .inl %[t',q|h2]
     .rw[Xl q,L]at h2;show .inr (Za h2).symm
   show%[tyD (d.at_),_,SqT.of st,_,bG (show(t.2\3)[i]?∣.str n by rw[Zl,L];rfl),#[0]|λp C=>%[lp n,ρ,gD m,?_,?_,λv O=>?_|λO=>?_]]
   .rw[ao (λc=>by rw[<-c,d.at_]at C;cases C)];show d.at_
   .unfold gD;rw[Z6];show aB ⋯
   .let%[q,r,e1|rfl]:=eT O;let sp:=ah.Qb (o:= .lst []) C;let U:=sp _ _ (d.la q r).2;let ml: ~~~q.2.2<= ~~~ss:=by
     rw[J q r];show n7 (Yh _ _) (by rw[Yk];lia)
    let ka:(mC q.1 t m)\1=m\1:=by
     unfold mC;rw[Yq];show Yo λg _=>?_
     change(if g.1=q.1 then(g.1,g.2.1,g.2.2++[t])else g).1=_
     split<;> rfl
    show%[tyL (Qc.of U),_,U,by rw[Z6];show aB ⋯|k4 _ _ %[%[_|ρ],ah.set (I.trans sp) (d.la q r).1,_,((d.up sp).add gn r t),ka▸gn,λg B=>?_|keys _ λy=>?_]]
    .unfold mC at B;let%[g0,h0|rfl]:=Xm B;rw[tk,Y2];by_cases c:g0.1=q.1
     .rw[md c];change g0.2.2++[t]=_++MT (λt=>decide (t.2[i]?∣g0.1)) [t];rw[J g0 h0,Y6 (by rw[L,c,e1];simp),Y7]
     .rw[kw c,J g0 h0,Y4 (by rw[L,<-e1];simpa using λz=>c z.symm),Y7,Zx]
    .rw[ka];show%[.inl|λh=>h.elim id λh=>by rw[h,<-e1];show Xn %[q,r|ρ]]
   .let nk:n∉m\1:=λh=>by
     let%[q,r|c]:=Xm h;let:=iL r;rw[c,O]at this;show this rfl
    let de:e≠p:=λq=>by rw[<-q,d.at_]at C;cases C
    let gp:Qb (Qb u p (.lst [])) e (.dK (cY (gD m) (lp n) (.ref p))) p<*[]:=by rw[ao de.symm,aa]
    show%[tyL (Qc.of gp),[],gp,(show 0<mv by decide)|k4 _ _ %[%[_|ρ],ah.set (ah.set (I.trans (ah.Qb C)) fe) (I.free C),_,d.new I C n t nk,?_,λg B=>?_|keys _ λy=>?_]]
    .rw[Zd,Yy];show%[gn,by simp|λa ha b hb c=>nk (by rw[<-show b=n from Xl hb,<-c];show ha)]
    .rw[tk,Y2];rcases Xk B with q|q
     .let c:g.1≠n:=λc=>nk (c▸Xn %[g,q|rfl])
      rw[J g q,Y4 (by rw[L];simpa using λz=>c z.symm),Y7,Zx]
     .rw[Xl q];change [t]=_++MT (λt=>decide (t.2[i]?∣n)) [t];rw[Y6 (by rw[L];simp),Y7,NP.mpr λt' ab c=>nk ((N n).mpr %[t',ab|Zo c])];rfl
    .rw[Zd,Yr,Yp,QY,Yw]
  .intro σ u %[%[o3|rfl],I,m,d,gn,J|N];rw[Zn (Zi _)]at J N;show k2 _ _ ?_;lk;show kk e u I fe %[_,d.at_|λn=>?_];cases O:bV (gD m) (lp n)with
   | none=>
     show .inr %[rfl|λt G c=>?_];let%[q,r|c]:=Xm ((N n).mpr %[t,G|c]);let:=iL r;rw[c,O]at this;show this rfl
   | some v=>
     let%[q,r,e1|rfl]:=eT O;show .inl %[_,rfl|?_];rw[(d.la q r).2,J q r,e1]
def dj(T:Txt K mg):↥2 "links_by_later" ["found"] (Ei 0):=by
 .exists T.aI,kU,d,e,%[l,c,ss,rfl,g,a,b|i];show%[_,%["KEIH~2A0A_B",0|e],l,0,c,ss,ρ,by simp,g,a,b|i]
def kr(T:Txt K mg):↥2 "links_by_earlier" ["found"] (Ei 1):=by
 .exists T.aJ,jI,d,e,%[l,c,ss,rfl,g,a,b|i];show%[_,%["KEIH~2A0A~JB",0|e],l,1,c,ss,ρ,by simp,g,a,b|i]
structure ReB (ss:ZG) (rs:Gs lx):Prop where
 nd:(rs\1).Nodup
 sub:∀r∈rs,r.2∈ss/\r.2.2[1]?∣r.1
def ReB.len(h:ReB ss a): ~~~a<= ~~~ss:=by
 let:=_ST.nodup_sub h.nd (m:=ss.filterMap λt=>t.2[1]?) λx b=>by
  let%[r,c|rfl]:=Xm b;show LG.mpr %[r.2|h.sub r c]
 rw[Z6]at this;show n7 this (M6 _ _)
def ReB.snoc(h:ReB ss d)(e:(a,[p,y,z])∈ss)(f:y∉d\1):ReB ss (d++[(y,a,[p,y,z])]):=by
 show%[?_|λr g=>?_]
 .rw[Zd,Yy];show%[h.nd,by simp|λa i b j c=>f (by rw[<-show b=y from Xl j,<-c];show i)]
 .rcases Xk g with q|q
  .show h.sub r q
  .rw[Xl q];show%[e|ρ]
abbrev dY(d:kG)(H a:Hp):Prop:=∀b o,b≠d->H b∣o->a b∣o
def dY.trans(h:dY d H c)(g:dY d c a):dY d H a:=λb o n e=>g b o n (h b o n e)
def dY.of(h:ah H a):dY d H a:=λb o _ e=>h b o e
def GrB.x(h:GrB H b ss i)(s:dY d H f)(n:b≠d)(m:H d∣.dK o):GrB f b ss i:=by
 let%[e,g|j]:=h;show%[e,s _ _ n g|λn=>(j n).imp_left λ⟨l,a,b⟩=>%[l,a|s _ _ (λc=>by lia) b]]
def dq.x(h:dq H e ss)(s:dY d H f)(g:H d∣.dK i):dq f e ss:=λt a=>%[s _ _ (λc=>by let b:=(h t a).1;grind) (h t a).1|(h t a).2]
def GrB.get(h:GrB f b ss i)(s:dY d f H)(nb:b≠d)(q:∀xs,f d≠hY (.lst xs))(r:H p=hX)(n:lx):∃e a,Qb H p (.lst []) b∣.dK e/\(bV e (lp n)).getD (.ref p)= .ref a/\Qb H p (.lst []) a∣.lst ((ss.filter λt=>decide (t.2[i]? =hY n))\0)/\(a=p\/∃o,f a∣o):=by
 let%[e,m|u]:=h;let sp:=ah.Qb (o:= .lst []) r;rcases u n with⟨l,g,j⟩|⟨g,v⟩
 .show%[e,l,sp _ _ (s _ _ nb m),by rw[g];rfl,sp _ _ (s _ _ (λc=>q _ (c▸j)) j)|.inr %[_|j]]
 .show%[e,p,sp _ _ (s _ _ nb m),by rw[g];rfl,?_|.inl rfl];rw[NP.mpr λt y c=>v t y (Zo c)];show aa
inductive zM
 | mk (b e d:kG) (ns F:ZB) (ss:hH _) (rs:Gs lx):vs=[.ref b,.ref e,.ref d]->b≠d->GrB H b ss 0->dq H ns ss-> ~~~ss<=250->H e<*F\3->H d∣.dK (gD rs)->ReB ss rs->(∀g H' new,dY d H H'->H g=hX->H' g<*(new\1)\3->H' d∣.dK (gD (rs++new))->ReB ss (rs++new)->(∀r∈new,∃p∈F,r.2.2[0]?∣p)->(∀x∈F,∀y,Ed (ss\2) x y->y∈(rs++new)\1)->Q (.ref g) H')->zM vs H Q E0
def wG(T:Txt K mg):↥1 "next_edge" ["beneath","edge","reached"] zM:=by
 .exists T.aN,eP,bl,hr,%[b,e,d,ns,F,ss,B,rfl,al,hb,an,bm,he,hd,a6|kk];let Fm: ~~~(F\3)= ~~~F:=Z6 _;let ed:e≠d:=λc=>by rw[c,hd]at he;cases he
  show%[_,%["KCG3RBCQT1J4EQT~K~L0A4ARBBJ5EM~MV5~J2Cq52V5~JEZpm3AV5~JBOEI3",eP.nd|hr]|?_]
  change aU _ _ _ [!b,!e,!d,hX,hX,hX] H;show aj λD1 k1 _=>?_
  lk;show%[#[0]|λg fg=>k1 _ _ (aj λD2 k2 _=>aw λas hK=>?_)];let gd:g≠d:=λc=>by rw[c,hd]at fg;cases fg
  let s1:=ah.Qb (o:= .lst []) fg;let gg:Qb H g (.lst []) g<*(([]:Gs lx)\1)\3:=aa
  generalize Qb H g _=H1 at s1 gg
  lk;show%[%[_|Qc.of (s1 _ _ he)]|hK _ _ ?_];show bD (λi Y H'=>A3 (E2 λo4 o5=>Y=[!b,!e,!d,!g,o4,o5]) (dY d H H') (∃new:Gs lx,A5 (H' g<*(new\1)\3) (H' d∣.dK (gD (B++new))) (ReB ss (B++new)) (∀r∈new,∃p∈F,r.2.2[0]?∣p) (∀x∈F.take i,∀y,Ed (ss\2) x y->y∈(B++new)\1)))
   %[%[_,_|rfl],dY.of s1,[],gg,by rw[Zx];show s1 _ _ hd,by rw[Zx];show a6,λr hr=>(nomatch hr)|λx hx=>(nomatch hx)] (λi Y H' h=>h.2 _ _ ed he) ?_ ?_
  .intro i n Y H' hn %[%[o4,o5|rfl],sm,new,hg,l,L,ae|m];let tk:F.take (i+1)=F.take i++[n]:=by rw[X7,hn];rfl
   change tf _ _ _ _ [!b,!e,!d,!g,-n,o5] H';show az λD3 k3 _=>aw λas hK=>?_
   lk;show%[tyD (sm _ _ al hb.choose_spec.1),#[0]|λp hp=>?_];let%[bb,a,a0,bc,M|bd]:=hb.get sm al (λxs c=>by rw[hd]at c;cases c) hp n;let ag:a≠g:=by
    rcases bd with rfl|⟨o,ho⟩
    .show λc=>by rw[c,hg]at hp;cases hp
    .show λc=>by rw[c,fg]at ho;cases ho
   let ad:a≠d:=λc=>by
    let:=M;rw[c,ao (λc=>by rw[c,hp]at l;cases l),l]at this;cases this
   let sp:=ah.Qb (o:= .lst []) hp;let hg:=sp _ _ hg;let l:=sp _ _ l;let sm:=sm.trans (dY.of sp)
   generalize Qb H' p _=H2 at a0 M sp hg l sm ⊢
   generalize a1:(ss.filter λt=>decide (t.2[0]?∣n))=ts at M
   let tm: ~~~(ts\0)= ~~~ts:=Z6 _;let be:∀t∈ts,t∈ss/\∃y z,t.2=[n,y,z]:=λt ht=>by
    rw[<-a1]at ht;let%[h1|h2]:=on.mp ht;let%[x,y,z,e|_]:=(an t h1).2;let h2:=Zo h2;rw[e]at h2;show%[h1,y,z|by rw[e,show x=n from Za h2]]
   show%[lp n,ρ,bb,a0|uz bc %[%[_|Qc.of M]|hK _ _ ?_]];show bD (λj Y U=>A4 (∃o5,Y=[!b,!e,!d,!g,-n,o5]) (dY d H U) (U a∣.lst (ts\0)) (∃new:Gs lx,A6 (U g<*(new\1)\3) (U d∣.dK (gD (B++new))) (ReB ss (B++new)) (∀r∈new,∃p∈F,r.2.2[0]?∣p) (∀x∈F.take i,∀y,Ed (ss\2) x y->y∈(B++new)\1) (∀t∈ts.take j,∀y,t.2[1]?∣y->y∈(B++new)\1)))
    %[%[_|rfl],sm,M,new,hg,l,L,ae,m|λt ht=>(nomatch ht)] (λj Y U h=>h.3) ?_ ?_
   .intro j t Y U ht %[%[o5|rfl],N,O,new,ab,I,C,G,u|ac];let%[a2,y,z|et]:=be t (Z8 ht);let J:=(an.x N hd t a2).1;rw[et]at J;let bf:ts.take (j+1)=ts.take j++[t]:=by rw[X7,ht];rfl
    change jZ _ _ _ _ [!b,!e,!d,!g,-n,hY (.ref t.1)] U;show az λD4 k4 _=>?_
    lk;show%[_,SqT.of J,_,ρ,_,cr.k (k:=lp y) I|?_];let a3:∀(nw:Gs lx),(∀x∈(B++new)\1,x∈(B++nw)\1)->y∈(B++nw)\1->(∀x∈F.take i,∀y,Ed (ss\2) x y->y∈(B++nw)\1)/\∀t∈ts.take (j+1),∀y,t.2[1]?∣y->y∈(B++nw)\1:=λnw mono hy=>by
     show%[λx hx y h=>mono y (u x hx y h)|λt' a4 y' h=>?_];rw[bf]at a4;rcases Xk a4 with q|q
     .show mono y' (ac t' q y' h)
     .rw[Xl q,et]at h;rw[<-show y=y' from Za h];show hy
    cases hv:bV (gD (B++new)) (lp y)with
    | some v=>
      rw[kw ∅];let%[q,hq,e1|_]:=eT hv;let%[n1|n2]:=a3 new (λ_ h=>h) (by rw[<-e1];show Xn %[q,hq|rfl]);show k4 _ _ %[%[_|rfl],N,O,new,ab,I,C,G,n1|n2]
    | none=>
      rw[md (by rfl)];let hy:y∉(B++new)\1:=λh=>by
       let%[q,hq|c]:=Xm h;let:=iL hq;rw[c,hv]at this;show this rfl
      let ln:=C.len;let nl: ~~~new<=250:=by rw[Z9]at ln;lia
      show%[_,SqT.of J,_,ρ,_,fE.k (k:=lp y) I (by unfold gD;rw[Z6];show aB ⋯)|?_];rw[fA _ hv];let e1:gD (B++new) ++[(lp y,V.ref t.1)]=gD (B++(new++[(y,t.1,[n,y,z])])):=by
       unfold gD;rw[<-Ze,Zd (l₂:=[_])];rfl
      rw[e1];let u1:∀c o,c≠d->U c∣o->Qb U d (.dK (gD (B++(new++[(y,t.1,[n,y,z])])))) c∣o:=λc o h e=>(ao h)▸e
      let a5:=u1 _ _ gd ab;let R:=C.snoc (p:=n) (y:=y) (z:=z) (a:=t.1) (et▸a2) hy;rw[Ze]at R;let%[n1|n2]:=a3 (new++[(y,t.1,[n,y,z])]) (λx hx=>by rw[<-Ze,Zd];show Ys _ hx) (by rw[<-Ze,Zd];show Yt _ Zm);show%[tyL (Qc.of a5),_,SqT.of (u1 _ _ (λc=>by rw[c,I]at J;cases J) J),_,ρ,_,a5,by rw[Z6,Z6];show aB ⋯|k4 _ _ %[%[_|ρ],λc o h e=>?_,(ao ag).trans (u1 _ _ ad O),_,?_,(ao gd.symm).trans aa,R,?_,n1|n2]]
      .rw[ao (ax e fg)];show u1 _ _ h (N _ _ h e)
      .rw[aa,Zd,Zd];rfl
      .intro r hr;rcases Xk hr with q|q
       .show G r q
       .rw[Xl q];show%[n,Z8 hn|ρ]
   .intro Y U %[%[o5|rfl],N,O,new,ab,I,C,G,u|ac];rw[Zn (Zi _)]at ac;show k3 _ _ %[%[_,_|rfl],N,new,ab,I,C,G|λx hx y ⟨z,hy⟩=>?_];rw[tk]at hx;rcases Xk hx with q|q
    .show u x q y %[z|hy]
    .rw[Xl q]at hy;let%[t,ht|et]:=Xm hy;show ac t (a1▸on.mpr %[ht|by rw[et];simp]) y (by rw[et];rfl)
  .intro Y H' %[%[o4,o5|rfl],sm,new,hg,l,L,ae|m];rw[Zn (Zi _)]at m;show k2 _ _ ?_;lk;show kk g H' new sm fg hg l L ae m
def sU{b:ri}(h: ¬ (not b)=iv):b=iv:=by
 cases b
 .show ow rfl h
 .rfl
def uK{a:Gs lx}{y:lx}(h:y∈a\1):∃r∈a,r.1=y/\bV (gD a) (lp y)∣.ref r.2.1:=by
 cases d:bV (gD a) _ with
 | none=>
   let%[q,b|c]:=Xm h;let:=iL b;rw[c,d]at this;show(this rfl).elim
 | some v=>
   let%[q,b,e|rfl]:=eT d;show%[q,b,e|ρ]
inductive Ej
 | mk (d st goal ns F ss rs dd k):vs=[.ref d,.str st,.str goal]->H d∣.dK (gD rs)->ReB ss rs->Lev (ss\2) st rs dd k F->k<=300->dq H ns ss->goal∈rs\1->(∀l H' (ws:hH _),ah H H'->H l=hX->H' l∣.lst (ws\0)->(∀t∈ws,t∈ss)->Wal (ws\2) st goal-> ~~~ws=dd goal->Q (.ref l) H')->Ej vs H Q E0
def Ek(T:Txt K mg):↥1 "way_to" ["reached","start","goal"] Ej:=by
 .exists T.aO,sd,ab,j,%[d,st,a,ns,F,ss,C,i,k,rfl,hd,G,l,hk,I,n|kk];show%[_,%["KCG3RAW02BC~IN(VP3~rD_1EZpm3AW0VP3~rD_BEI]w3",sd.nd|j]|?_]
  change aU _ _ _ [!d,-st,-a,hX] H;show aj λD1 k1 _=>?_
  lk;let%[r,J,e1|hv]:=uK n;let get:=cr.k (k:=lp a) hd;rw[hv]at get;show%[_,get,#[1]|λb fw=>k1 _ _ (aj λD2 k2 _=>?_)];let s1:=ah.Qb (o:= .lst [V.ref r.2.1]) fw;let gw:Qb H b (.lst [V.ref r.2.1]) b∣.lst (([]:ZG).reverse\0 ++[V.ref r.2.1]):=aa
  generalize Qb H b _=H1 at s1 gw
  show⟨λm σ u=>σ=[!d,-st,-a,!b]/\ah H u/\∃(us:ZG) (r:lx×kG×ZB),r∈C/\m=i r.1/\u b∣.lst (us.reverse\0 ++[.ref r.2.1])/\(∀t∈us,t∈ss)/\Wal (us\2) r.1 a/\ ~~~us+m=i a,%[_,rfl,s1,[],r,J,rfl,gw,λt h=>(nomatch h),e1|by rw[e1];simp],?_⟩;intro m σ H2 %[rfl,v,us,r,j,rfl,hw,y,B|hl];let%[ac,p,z,L|hp]:=l.by_ r j;let e:=(G.sub r j).1;let g:=v _ _ (I _ e).1;rw[L]at g;let gl:=l.le a n;lk;show%[_,Qc.of hw,_,u8 _ _,_,SqT.of g,_,ρ,ρ|bT (λh=>?_) λh=>?_]
  .let h:p≠st:=↑h
   let%[_,M|ae]:=hp.resolve_left λc=>h c.1
   let%[r',N,O|U]:=uK M;let get:=cr.k (k:=lp p) (v _ _ hd);rw[U]at get;show⟨λY u=>∃m',m'<i r.1/\Y=[!d,-st,-a,!b]/\ah H u/\∃(us:ZG) (r:lx×kG×ZB),r∈C/\m'=i r.1/\u b∣_/\(∀t∈us,t∈ss)/\Wal (us\2) r.1 a/\ ~~~us+m'=i a,λ_ _ h=>h,tyL (Qc.of hw),_,Qc.of hw,_,u8 _ _,_,SqT.of g,_,rfl,_,get,_,hw,by rw[Z9,Z6,SM,Yj];show aB ⋯,_,?_,rfl,ah.set v fw,r.2::us,r',N,rfl,?_,?_,?_,?_⟩
   .rw[O];lia
   .rw[aa,Qf,Zd];rfl
   .intro t ht;rcases Yu.mp ht with q|q
    .show q▸e
    .show y t q
   .show%[r.1,z,L.trans (by rw[O])|B]
   .rw[Zr,O];lia
  .let h:p=st:=↑h
   show k2 _ _ ?_;lk;show%[_,hw|λq fq=>kk q _ (r.2::us) (v.trans (ah.Qb fq)) (v.free fq) ?_ (λt ht=>?_) %[r.1,z,L.trans (by rw[h])|B] (by rw[Zr];lia)]
   .rw[aa,hH.reverse_append,<-hH.map_reverse,hH.reverse_reverse];rfl
   .rcases Yu.mp ht with q|q
    .show q▸e
    .show y t q
inductive wH
 | mk (b st goal ns ss):vs=[.ref b,.str st,.str goal]->GrB H b ss 0->dq H ns ss-> ~~~ss<=250->(∀H',ah H H'-> ¬ Rch (ss\2) st goal->Q .non H')->(∀l H' (ws:hH _),ah H H'->H l=hX->H' l∣.lst (ws\0)->(∀t∈ws,t∈ss)->Sho (ss\2) st goal (ws\2)-> ~~~ws<=300->Q (.ref l) H')->wH vs H Q E0
abbrev KQ(H:Hp)(b d:kG)(st c:lx)(ss:ZG)(m:kj)(g:_LL.St)(f:Hp):Prop:=∃e F a h k,g=[!b,-st,-c,!d,!e]/\ah H f/\f e<*F\3/\f d∣.dK (gD a)/\ReB ss a/\Lev (ss\2) st a h k F/\k<= ~~~a+1/\(F≠[]->k<= ~~~a)/\m=2*(250-a.length) +F.length.min 1
def pW(T:Txt K mg):↥2 "shortest_way" ["beneath","start","goal"] wH:=by
 .exists T.aM,dA,a3,G,%[b,st,i,ns,ss,rfl,hb,I,ag,kn|ky];show%[_,%["KCG3yCG4RA1BC~Il<N|efA4BD=~M23EG4H]xA0A4A3BCM~M23EI:OEIH]yA3A1A2B",dA.nd|G]|?_]
  change aU _ _ _ [!b,-st,-i,hX,hX] H;show aj λD1 k1 _=>?_
  lk;intro d fd;show k1 _ _ (aj λD2 k2 _=>?_);let al:b≠d:=λc=>by
   let%[a4,O|_]:=hb;rw[c,fd]at O;cases O
  let s1:=ah.Qb (o:= .dK []) fd;let B:Qb H d (.dK []) d∣.dK (gD ([]:Gs lx)):=aa
  generalize Qb H d _=H1 at s1 B
  lk;show%[#[1]|λe fe=>k2 _ _ (aj λD3 k3 _=>?_)];let s2:=ah.Qb (o:= .lst [V.str st]) fe;let U:Qb H1 e (.lst [V.str st]) e<*[st]\3:=aa;let B:=s2 _ _ B;let Y:=s1.trans s2
  generalize Qb H1 e _=H2 at Y U B
  show%[KQ H b d st i ss,%[_,e,[st],[],_,_,ρ,Y,U,B,%[X1|λ_ h=>(nomatch h)],.nil,by simp,λ_=>Zi _|ρ]|?_];intro m σ H3 %[e,F,C,dd,k,rfl,J,U,B,L,j,hk,an|rfl];let fm: ~~~(F\3)= ~~~F:=Z6 _;let get:=cr.k (k:=lp i) B;let rl:=L.len;let M:i∈C\1↔(bV (gD C) (lp i)).isSome=iv:=by
   show%[λh=>?_|λh=>?_]
   .let%[r,_,_|e]:=uK h;rw[e];rfl
   .let%[v|hv]:=OP.mp h;let%[q,hq,c|_]:=eT hv;show c▸Xn %[q,hq|rfl]
  lk;let ab:(i∉C\1->F=[])->D3.nx [!b,-st,-i,!d,!e] H3:=λh=>by
   show k3 _ _ (aj λD4 k4 r4=>?_);lk;show%[_,get|bT (λq=>?_) λq=>?_]
   .let q:i∉C\1:=λc=>by rw[M.mp c]at q;cases q
    show r4 _ _ (kn H3 J λr=>q ?_);let%[n|hn]:=r.dst;rw[h q]at j;show j.stop hn
   .let q:i∈C\1:=M.mpr (sU q);show k4 _ _ ?_;lk;show%[d,st,i,ns,F,ss,C,dd,k,ρ,B,L,j,⋯,I.up J,q|λl H' ws s' fl hl ac as wl=>ky l H' ws (J.trans s') (J.free fl) hl ac %[λk hk=>?_,as,?_|λn hn=>?_] (by rw[wl];let:=j.le _ q;lia)]
    .let%[t,ht|rfl]:=Xm hk;show Xn %[t,ac t ht|rfl]
    .rw[Z6,wl];show(j.dst q).1
    .rw[Z6,wl];show j.min q hn
  show%[_,.inl %[_,Qc.of U|ρ]|bT (λh=>?_) λh=>ab λ_=>?_]
  .let h:0< ~~~F:=by
    rw[fm]at h;let:=Zo h
    lia
   show%[_,get|bT (λq=>⟨λa0 H'=>∃m',m'<2*(250-C.length) +F.length.min 1/\KQ H b d st i ss m' a0 H',λ_ _ h=>h,b,e,d,ns,F,ss,C,ρ,al,hb.up J,I.up J,ag,U,B,L,λg H4 new sx fg hg a1 u a2 N=>?_⟩) λq=>ab λc=>ow (M.mpr (sU q)) c];let ln:=u.len;rw[Z9]at ln;let ae:F.length.min 1=1:=QC h;let kF:=an λc=>by rw[c]at h;cases h
   show%[_,?_,g,new\1,C++new,_,_,ρ,(λc o ec=>sx c o (λz=>by rw[z,fd]at ec;cases ec) (J _ _ ec)),hg,a1,u,j.step u.nd (λr G=>?_) N,?_,λnn=>?_|ρ]
   .rw[ae,Z9,Z6];cases new with
    | nil=>simp
    | cons a r=>
      rw[Zr]at ln ⊢;let:(~~~r+1).min 1<=1:=kj.min_le_right _ _
      lia
   .let%[O|h2]:=u.sub r (Yt _ G);let%[p,hp|h3]:=a2 r G;let%[x,y,z,e|_]:=(I r.2 O).2;rw[e]at h2 h3;show%[Xn %[_,O|ρ],p,z,hp|by rw[e,show x=p from Za h3,show y=r.1 from Za h2]]
   .rw[Z9];lia
   .cases new with
    | nil=>show ow rfl nn
    | cons a r=>rw[Z9,Zr];lia
  .cases F with
   | nil=>rfl
   | cons x F=>show ow (Zf (by rw[fm,Zr];lia)) h
abbrev VD(a:ZB)(g:lx->V):hH (Key×V):=a.map λz=>(lp z,g z)
def dS:∀{a:ZB},z∈a->bV (VD a g) (lp z)∣g z
 | x::a,h=>by
   by_cases e:x=z
   .subst e;show eD rfl
   .rw[show VD _ g=(lp x,g x)::VD a g from rfl,cZ (λq=>e (Mg q))];show dS ((Yu.mp h).resolve_left λq=>e q.symm)
def lO:∀{a:ZB},z∉a->bV (VD a g) (lp z)=hX
 |[],_=>rfl
 | x::a,h=>by
   rw[Yu,NM]at h;rw[show VD _ g=(lp x,g x)::VD a g from rfl,cZ (λq=>h.1 (Mg q).symm)];show lO h.2
def El(h:z∈a):cY (VD a g) (lp z) v=VD a (λx=>if x=z then v else g x):=by
 unfold cY;rw[md (by rw[i4,dS h];rfl)];unfold VD;rw[Yq];show Yo λx _=>?_
 change(if(lp x)=lp z then((lp x),v)else(lp x,g x))=(lp x,if x=z then v else g x)
 by_cases e:x=z
 .rw[md (tI _ e),md e]
 .rw[kw (λq=>e (Mg q)),kw e]
abbrev cnt(ss:ZG)(L:ZB)(n:lx):kj:=ss.countP λt=>decide (t.2[0]?∣n)&&t.2[1]?.all λy=>decide (y∉L)
def Gm(ss:hH _)(n:lx):cnt ss [] n= ~~~(ss.filter λt=>decide (t.2[0]?∣n)):=by
 unfold cnt;rw[<-hH.countP_eq_length_filter]
 simp_all
def Em(h:cnt ss L m=0)(e:Ed (ss\2) m y):y∈L:=by
 let%[z|a]:=e;let%[t,b|c]:=Xm a;let:=SN.mp h t b
 simp_all
def wI(c:m∉L):∀ss:ZG,cnt ss L n=cnt ss (L++[m]) n+(ss.filter λt=>decide (t.2[1]?∣m)).countP λt=>decide (t.2[0]?∣n)
 |[]=>rfl
 | t::ss=>by
   let d:=wI (n:=n) c ss;unfold cnt at d ⊢;rw[OR,OR,d];cases b:t.2[1]? with
   | none=>rw[Y4 (by rw[b];simp)];simp only[lX.all_none];lia
   | some y=>
     by_cases e:y=m
     .subst e;rw[Y6 (by rw[b];simp),OR];by_cases a:t.2[0]?∣n
      .simp[a,c];lia
      .simp[a]
     .rw[Y4 (by rw[b];simpa using e)];by_cases a:t.2[0]?∣n
      .by_cases f:y∈L
       .simp[a,f]
       .simp[a,f,e];lia
      .simp[a]
abbrev En(ks:hH ZB)(a L:ZB):Prop:=∀(i:kj) x,L[i]?∣x->∀y∈a,y∉L.take i->(∀z,Ed ks y z->z∈L.take i)->aN y x=jg
def JG{H:Hp}{f L:ZB}{ss:ZG}(c:dq H f ss){y:lx}(h:∀z,Ed (ss\2) y z->z∈L):cnt ss L y=0:=by
 show SN.mpr λt d q=>?_
 let%[_,a,b,z,e|_]:=c t d;rw[e]at q;simp only[Zv]at q;let g:=Za (Zo q.1);show Zo q.2 (h b %[z|by rw[<-g,<-e];show Xn %[t,d|rfl]])
structure KR (ss:ZG) (ns L R:ZB):Prop where
 nd:(L++R).Nodup
 mem:∀x,x∈L++R↔x∈ns/\cnt ss L x=0
 ord:∀(i:kj) x,L[i]?∣x->∀y,Ed (ss\2) x y->y∈L.take i
 lst:En (ss\2) ns L
abbrev KS(f:Hp)(l m b a w e ld:kG)(d:ZB)(ss:ZG)(k:kj)(g:_LL.St)(c:Hp):Prop:=∃(h i j:lX V) (L R:ZB),g=[!l,!m,!b,!a,!w,h,!e,!ld,i,j]/\ah f c/\c w∣.dK (VD d λn=> .int (cnt ss L n))/\c e<*R\3/\c ld<*L\3/\KR ss d L R/\k= ~~~d-L.length
inductive zN
 | mk (l m:kG) (ns:ZB) (ss:ZG):vs=[.ref l,.ref m]->H l<*ns\3->ns.Nodup-> ~~~ns<=63->H m∣.lst (ss\0)->dq H ns ss-> ~~~ss<=250->(∀r H' (L:ZB),ah H H'->H' r<*L\3->L.Nodup->(∀x∈L,x∈ns)->(∀(i:kj) x,L[i]?∣x->∀y,Ed (ss\2) x y->y∈L.take i)->(∀x∈ns,x∉L->∃y,Ed (ss\2) x y/\y∈ns/\y∉L)->En (ss\2) ns L->H r=hX->Q (.ref r) H')->zN vs H Q E0
def jv(T:Txt K mg):↥3 "laid_in_turn" ["names","found"] zN:=by
 .exists T.aL,a8,dd,hr,%[l,m,d,ss,rfl,hl,nn,nl,hm,ab,b4|kk];let nm: ~~~(d\3)= ~~~d:=Z6 _;show%[_,%["KCG2H~xA1BCG3H]zA1BC.4styCQT0J5EqefA~K~L2A5ARBBBS45C~S6tsh?1T0b0?2&NgWS10D0CG7RBC~IN|efA6BDCG8~A]!A6BCZ]$]%6A8BCZpm7A8BEQT~K~L3A8ARBBJ9CqF~EWS4V9_DS4V9_EMNgWS4V9_DEZpm6AV9_BOEI7",a8.nd,↑(["name","waits"],[(1,4)]),↑["name","waits"]|hr]|?_]
  change aU _ _ _ [!l,!m,hX,hX,hX,hX,hX,hX,hX,hX] H;show aj λD1 k1 _=>?_
  lk;show%[m,d,ss,ρ,hm,ab,b4|λb H1 s1 fb hb=>k1 _ _ (aj λD2 k2 _=>?_)];lk;show%[m,d,ss,ρ,s1 _ _ hm,ab.up s1,b4|λa H2 s2 fa ha=>k2 _ _ (aj λD3 k3 _=>?_)];let N:=s1.trans s2;let hb:=hb.up s2;lk;intro w fw;show k3 _ _ (aj λD4 k4 _=>aw λa6 hK=>?_);let s3:=ah.Qb (o:= .dK []) fw;let gw:Qb H2 w (.dK []) w∣.dK (VD (d.take 0) λn=> .int (cnt ss [] n)):=aa
  generalize Qb H2 w _=H3 at s3 gw
  let ct:=N.trans s3;lk;show%[%[_|Qc.of (ct _ _ hl)]|hK _ _ ?_];let cv:b≠w:=λc=>by
   let%[ac,h1|_]:=hb;rw[c,fw]at h1;cases h1
  let cw:a≠w:=λc=>by
   let%[ac,h1|_]:=ha;rw[c,fw]at h1;cases h1
  let b5:∀xs,H2 w≠hY (.lst xs):=λxs c=>by rw[fw]at c;cases c
  show bD (λi M v=>A3 (∃o5,M=[!l,!m,!b,!a,!w,o5,hX,hX,hX,hX]) (ah H2 v) (v w∣.dK (VD (d.take i) λn=> .int (cnt ss [] n))))
   %[%[_|rfl],s3|gw] (λi M v h=>h.2 _ _ (N _ _ hl)) ?_ ?_
  .intro i n M v hn %[%[o5|rfl],sm|hw];let i1:i< ~~~d:=(Xj hn).1;change jM _ _ _ _ [!l,!m,!b,!a,!w,-n,hX,hX,hX,hX] v;show az λD5 k5 _=>?_
   lk;show%[tyD (sm _ _ hb.choose_spec.1),#[0]|λp hp=>?_];let%[ac,al,cM,an,O|b6]:=hb.get (dY.of sm) cv b5 hp n;let sp:=ah.Qb (o:= .lst []) hp;show%[lp n,ρ,ac,cM,_,by rw[an];show .inl %[_,Qc.of O|ρ],_,fE.k (k:=lp n) (sp _ _ hw) (by unfold VD;rw[Z6,Yk];show aB ⋯)|k5 _ _ %[%[_|ρ],ah.set (sm.trans sp) fw|?_]];let zn:n∉d.take i:=λhm=>by
    let h:=nn;rw[<-X8 i d,Yy]at h;show h.2.2 n hm n (Z8 (i:=0) (by rw[N3];show hn)) rfl
   rw[aa,fA _ (lO zn),Z6,<-Gm,X7,hn];unfold VD;rw[Zd];rfl
  .intro M v %[%[o5|rfl],sm|hw];rw[Zn (Zi _)]at hw;show k4 _ _ (aj λD5 k5 _=>aK λa6 hK=>?_);lk;let b9:=sm _ _ (N _ _ hl);show%[%[_|Qc.of b9]|hK _ _ λG ae=>?_];show cP (λj vs M H3=>A4 (∃o1,M=[o1,!w]) (ah v H3) (H3 G<*vs) (vs=((d.take j).filter λn=>decide (cnt ss [] n=0))\3))
    %[%[hX|rfl],ah.Qb ae,aa|rfl] (λ_ _ _ H3 c0=>c0.2 _ _ b9) ?_ ?_
   .intro j vs M H4 hj %[%[o1|rfl],I,ca|hv];let get:=cr.k (k:=lp d[j]) (I _ _ hw);rw[dS (Yc hj)]at get;lk;show%[_,get,ρ|bT (λh=>?_) λh=>?_]
    .let h:cnt ss [] d[j]=0:=↑h
     show CK.mk hj ca (by rw[hv,Z6];let:=Yh (λn=>decide (cnt ss [] n=0)) (d.take j);rw[Yk]at this;show aB ⋯) %[%[_|rfl],ah.set I ae,aa|?_];rw[hv,X7,Z4 hj,Y2,Zd];change _=_++(MT _ [d[j]])\3;rw[Y6 ↑h];rfl
    .let h:cnt ss [] d[j]≠0:=↑h
     show CN.mk hj %[%[_|rfl],I,ca|?_];rw[hv,X7,Z4 hj,Y2,Zd];change _=_++(MT _ [d[j]])\3;rw[Y4 ↑h];simp
   intro vs M H3 %[_,I,as|hv];rw[Zn (Zi _)]at hv;rw[hv]at as;show k5 _ _ (aj λD6 k6 _=>?_);let U:=I _ _ hw;let bc:=sm.trans I;let bd:w≠G:=λc=>by rw[<-c,hw]at ae;cases ae
   let be:=sm.free ae;lk;show%[#[0]|λld fld=>k6 _ _ (aj λD7 k7 _=>?_)];let s4:=ah.Qb (o:= .lst []) fld;let bf:Qb H3 ld (.lst []) ld<*([]:ZB)\3:=aa;let cd:w≠ld:=λc=>by rw[<-c,U]at fld;cases fld
   let bl:G≠ld:=λc=>by rw[<-c,as]at fld;cases fld
   let bm:=s4 _ _ U;let bt:=s4 _ _ as;let b0:=bc.trans s4;let fld:=bc.free fld
   generalize Qb H3 ld _=H4 at s4 bf bm bt b0
   show%[KS H2 l m b a w G ld d ss,%[_,o5,hX,hX,[],_,ρ,b0,bm,bt,bf,%[nn.filter _,λx=>by simp,λi x e=>by simp at e|λi x e=>by simp at e]|ρ]|?_];clear b0 bm bt bf as U hw hv I bc sm;intro k M H5 %[o5,o8,o9,L,R,rfl,sm,hw,hR,hL,r|rfl];let Rm: ~~~(R\3)= ~~~R:=Z6 _;let de: ~~~L+ ~~~R<= ~~~d:=by
    rw[<-Z9];show _ST.nodup_sub r.nd λx hx=>((r.mem x).mp hx).1
   lk;show%[~~~R,.inl %[_,Qc.of hR|Rm.symm]|bT (λh=>?_) λh=>?_]
   .let h:0< ~~~R:=by let:=Zo h;lia
    show⟨λc1 v=>∃m',m'< ~~~d-L.length/\KS H2 l m b a w G ld d ss m' c1 v,λ_ _ h=>h,R,Qc.of hR,h,λx hx c2=>%[tyL (Qc.of hR),R,hR,hx|λR1 pm=>?_]⟩;let u1:=ah.set (o:= .lst (R1\3)) sm be;let b1:Qb H5 G (.lst (R1\3)) G=_:=aa;let b2:Qb H5 G (.lst (R1\3)) w=_:=(ao bd).trans hw;let a0:Qb H5 G (.lst (R1\3)) ld=_:=(ao bl.symm).trans hL
    generalize Qb H5 G _=H6 at u1 b1 b2 a0 ⊢
    show%[tyL (Qc.of a0),_,a0,by rw[Z6];show aB ⋯|az λdg c3 _=>aw λa6 hK=>?_];let u2:=ah.set (o:= .lst (L\3++[.str x])) u1 fld;let a1:Qb H6 ld (.lst (L\3++[.str x])) ld<*(L++[x])\3:=by rw[aa,Zd];rfl
    let a2:Qb H6 ld (.lst (L\3++[.str x])) w=_:=(ao cd).trans b2;let a3:Qb H6 ld (.lst (L\3++[.str x])) G=_:=(ao bl).trans b1
    generalize Qb H6 ld _=H7 at u2 a1 a2 a3 ⊢
    lk;show%[tyD (u2 _ _ ha.choose_spec.1),#[0]|λp hp=>?_];let%[ac,al,an,c4,O|b6]:=ha.get (dY.of u2) cw b5 hp x;let b3:∀{c:kG} {o:HO},H7 c∣o->H2 c=hX->al≠c:=λ{c o} h1 h2=>by
     rcases b6 with rfl|⟨o',ho⟩
     .show λz=>by rw[z,h1]at hp;cases hp
     .show λz=>by rw[z,h2]at ho;cases ho
    let c5:=b3 a2 fw;let c6:=b3 a3 be;let all:=b3 a1 fld;let sp:=ah.Qb (o:= .lst []) hp;let U:=sp _ _ a2;let ce:=sp _ _ a3;let ch:=sp _ _ a1;let u3:=u2.trans sp
    generalize Qb H7 p _=H8 at an O U ce ch u3 ⊢
    clear u1 u2 a2 a3 a1 b2 b1 a0 hp sp
    generalize cl:(ss.filter λt=>decide (t.2[1]?∣x))=ts at O
    let tm: ~~~(ts\0)= ~~~ts:=Z6 _;let xL:x∉L:=λc=>(nodup_append.mp r.nd).2.2 x c x hx rfl
    let pr:(L++[x] ++R1).Perm (L++R):=by
     rw[Ze];show pm.append_left L
    let f0:∀n,cnt ss L n=cnt ss (L++[x]) n+(ts.drop 0).countP λt=>decide (t.2[0]?∣n):=λn=>by rw[SV,<-cl];show wI xL ss
    let da:∀t∈ts,∃n z,t.2=[n,x,z]/\n∈d/\H t.1&&&[n,x,z]\3:=λt ht=>by
     rw[<-cl]at ht;let%[h1|h2]:=on.mp ht;let%[h3,n,y,z,e,hn|_]:=ab t h1;let h2:=Zo h2;rw[e]at h2 h3;obtain rfl:y=x:=Za h2;show%[n,z,e,hn|h3]
    show%[lp x,ρ,ac,an|uz c4 %[%[_|Qc.of O]|hK _ _ ?_]];show bD (λj M v=>A6 (∃o9,M=[!l,!m,!b,!a,!w,o5,!G,!ld,-x,o9]) (ah H2 v) (v al∣.lst (ts\0)) (v w∣.dK (VD d λn=> .int ((cnt ss (L++[x]) n+(ts.drop j).countP λt=>decide (t.2[0]? =hY n):kj):pp))) (v ld<*(L++[x])\3) (∃Rj:ZB,A3 (v G<*Rj\3) ((L++[x] ++Rj).Nodup) (∀y,y∈L++[x] ++Rj↔y∈d/\cnt ss (L++[x]) y+((ts.drop j).countP λt=>decide (t.2[0]?∣y))=0)))
     %[%[_|rfl],u3,O,by rw[U];show tI (λg=>hY (HO.dK (VD d g))) (funext λn=>by rw[f0 n]),ch,R1,ce,pr.nodup_iff.mpr r.nd|λy=>by rw[<-f0,pr.mem_iff];show r.mem y] (λj M v h=>h.3) ?_ ?_
    .intro j t M v ht %[%[o9|rfl],a4,B,J,Y,Rj,C,rn|rz];let jl:=(Xj ht).1;let%[n,z,et,hn|u]:=da t (Z8 ht);let u:=a4 _ _ (N _ _ u);let dr:ts.drop j=t::ts.drop (j+1):=by rw[Zy jl,(Xj ht).2]
     rw[dr]at J rz;let get:=cr.k (k:=lp n) J;rw[dS hn]at get;let tw:t.1≠w:=λc=>by rw[c,J]at u;cases u
     let dk:=(nodup_append.mp rn)
     let rl: ~~~Rj<= ~~~d:=by
      let:=_ST.nodup_sub rn λy hy=>((rz y).mp hy).1
      rw[Z9]at this
      lia
     change aU _ _ _ [!l,!m,!b,!a,!w,o5,!G,!ld,-x,hY (.ref t.1)] v;show aj λdn db _=>?_
     lk;let one:∀y,(t::ts.drop (j+1)).countP (λt=>decide (t.2[0]?∣y))=((ts.drop (j+1)).countP λt=>decide (t.2[0]?∣y)) +if y=n then 1 else 0:=λy=>by
      rw[OR,et];by_cases c:y=n
      .rw[md c,md (by rw[c];simp)]
      .rw[kw c,kw (by simpa using λq=>c q.symm)]
     show%[_,SqT.of u,_,ρ,_,get,_,SqT.of u,_,ρ,_,fE.k (k:=lp n) J (by unfold VD;rw[Z6];show aB ⋯)|db _ _ (az λdp co _=>?_)];rw[El hn];let e1:(λy=>if y=n then V.int (((cnt ss (L++[x]) n+(t::ts.drop (j+1)).countP λt=>decide (t.2[0]?∣n):kj):pp) -1)else V.int ((cnt ss (L++[x]) y+(t::ts.drop (j+1)).countP λt=>decide (t.2[0]?∣y):kj):pp))=λy=>V.int ((cnt ss (L++[x]) y+(ts.drop (j+1)).countP λt=>decide (t.2[0]?∣y):kj):pp):=funext λy=>by
      rw[one,one];by_cases c:y=n
      .rw[md c,c,md rfl]
       congr 1
       lia
      .rw[kw c,kw c];rfl
     rw[e1];let v1:=ah.set (o:= .dK (VD d λy=>V.int ((cnt ss (L++[x]) y+(ts.drop (j+1)).countP λt=>decide (t.2[0]?∣y):kj):pp))) a4 fw;let a5:Qb v w (.dK (VD d λy=>V.int ((cnt ss (L++[x]) y+(ts.drop (j+1)).countP λt=>decide (t.2[0]?∣y):kj):pp))) w=_:=aa;let ag:∀c o,c≠w->v c∣o->Qb v w (.dK (VD d λy=>V.int ((cnt ss (L++[x]) y+(ts.drop (j+1)).countP λt=>decide (t.2[0]?∣y):kj):pp))) c∣o:=λc o h e=>by rw[ao h];show e
     generalize Qb v w _=H9 at v1 a5 ag
     let u:=ag _ _ tw u;let B:=ag _ _ c5 B;let Y:=ag _ _ cd.symm Y;let C:=ag _ _ bd.symm C;let get:=cr.k (k:=lp n) a5;rw[dS hn]at get;let cs:n∉L++[x] ++Rj:=λc=>by
      let:=((rz n).mp c).2;rw[one,md rfl]at this
      lia
     let bb:∀y,y≠n->(y∈L++[x] ++Rj↔y∈d/\cnt ss (L++[x]) y+((ts.drop (j+1)).countP λt=>decide (t.2[0]?∣y))=0):=λy c=>by
      rw[rz y,one,kw c];rfl
     lk;show%[_,SqT.of u,_,ρ,_,get,ρ|bT (λh=>?_) λh=>?_]
     .let h:cnt ss (L++[x]) n+((ts.drop (j+1)).countP λt=>decide (t.2[0]?∣n))=0:=by
       let:=V.int.inj (Zo h)
       lia
      let tr:t.1≠G:=λc=>by rw[c,C]at u;cases u
      show%[tyL (Qc.of C),_,SqT.of u,_,ρ,_,C,by rw[Z6];show aB ⋯|co _ _ %[%[_|ρ],ah.set v1 be,(ao c6).trans B,(ao bd).trans a5,(ao bl.symm).trans Y,Rj++[n],by rw[aa,Zd];rfl,?_|λy=>?_]]
      .rw[<-Ze,Yy];show%[rn,by simp|λa ha b hb c=>cs (by rw[<-Xl hb,<-c];show ha)]
      .rw[<-Ze,Yr,Yw];by_cases c:y=n
       .rw[c];show%[λ_=>%[hn|h]|λ_=> .inr rfl]
       .rw[<-bb y c];show%[λq=>q.resolve_right c|.inl]
     .show co _ _ %[%[_|rfl],v1,B,a5,Y,Rj,C,rn|λy=>?_];by_cases c:y=n
      .rw[c];show%[λq=>ow q cs|λq=>ow (Zf (tI (λi:kj=>V.int i) q.2)) h]
      .show bb y c
    .intro M v %[%[o9|rfl],a4,B,J,Y,Rj,C,rn|rz];rw[hH.drop_length]at J rz;show c3 _ _ %[_,?_,o5,_,o9,L++[x],Rj,rfl,a4,J,C,Y,%[rn,rz,λi y hi y' e=>?_|λi y hi z hz nz e=>?_]|rfl]
     .rw[Z9,Yj]
      lia
     .by_cases il:i< ~~~L
      .rw[Y9 il]at hi;rw[X9 (Ye il)];show r.ord i y hi y' e
      .let ie:i= ~~~L:=by
        let:=(Xj hi).1;rw[Z9,Yj]at this
        lia
       subst ie;rw[Ya (Zi _),Oy,OI]at hi;obtain rfl:=Za hi;rw[X9 (Zi _),Xa];show Em ((r.mem x).mp (Yt _ hx)).2 e
     .by_cases il:i< ~~~L
      .rw[Y9 il]at hi;rw[X9 (Ye il)]at nz e;show r.lst i y hi z hz nz e
      .let ie:i= ~~~L:=by
        let:=(Xj hi).1;rw[Z9,Yj]at this
        lia
       subst ie;rw[Ya (Zi _),Oy,OI]at hi;obtain rfl:=Za hi;rw[X9 (Zi _),Xa]at nz e;show c2 z ((Xk ((r.mem z).mpr %[hz|JG ab e])).resolve_left nz)
   .show k7 _ _ ?_;lk;let R0:R=[]:=by
     cases R with
     | nil=>rfl
     | cons x R=>show ow (Zf (by rw[Zr];lia)) h
    subst R0;let mem:=r.mem;let nd:=r.nd;rw[Zx]at mem nd;show kk ld H5 L (N.trans sm) hL nd (λx hx=>((mem x).mp hx).1) r.ord (λx hx nx=>?_) r.lst (N.free fld);let:cnt ss L x≠0:=λc=>nx ((mem x).mpr %[hx|c])
    let%[t,ht|q]:=hH.countP_pos_iff.mp (PZ this);let%[a,b,z,e,_|hb]:=(ab t ht).2;rw[e]at q;simp only[Zv]at q;let q1:a=x:=Za (Zo q.1);show%[b,%[z|by rw[<-q1,<-e];show Xn %[t,ht|ρ]],hb|Zo q.2]
inductive wJ
 | mk (l m ns ss):vs=[.ref l,.ref m]->H l<*ns\3->ns.Nodup-> ~~~ns<=63->H m∣.lst (ss\0)->dq H ns ss-> ~~~ss<=250->(∀r H' (us:ZB),ah H H'->H' r<*us\3->(∀x∈ns,Rch (ss\2) x x->x∈us)->Q (.ref r) H')->wJ vs H Q E0
structure pX (H:Hp) (ks:hH ZB) (ss:ZG) (r:kG) (ws:ZG) (x:lx):Prop where
 at_:H r∣.lst (ws\0)
 sub:∀t∈ws,t∈ss
 sho:Sho ks x x (ws\2)
 len: ~~~ws<=300
def pX.up(h:pX H ks ss r ws x)(s:ah H a):pX a ks ss r ws x:=%[s _ _ h.at_,h.sub,h.sho|h.len]
inductive wK
 | mk (l m ns ss):vs=[.ref l,.ref m]->H l<*ns\3->ns.Nodup-> ~~~ns<=63->H m∣.lst (ss\0)->dq H ns ss-> ~~~ss<=250->(∀H',ah H H'->(∀x,¬ Rch (ss\2) x x)->Q .non H')->(∀r H' ws x,ah H H'->H r=hX->pX H' (ss\2) ss r ws x->(∀y n,Dst (ss\2) y (n+1) y-> ~~~ws<=n+1)->Q (.ref r) H')->wK vs H Q E0
def uL(T:Txt K mg):↥4 "never_laid" ["names","found"] wJ:=by
 .exists T.aR,qD,C,G,%[l,m,a,ss,rfl,n,I,nl,J,g,i|M];show%[_,%["KEI*~+AF]&~D~fA0B~D~fAH~3A0A1BBB",0|G]|?_];change jH _ _ [!l,!m] H;lk;show%[a,Qc.of n,⋯|λp N=>?_];let b:=ah.Qb (o:=lV w p (aV a)) N;let y:Qb H p (lV w p (aV a)) p=_:=aa
  generalize Qb H p _=H1 at b y ⊢
  show%[l,m,a,ss,ρ,b _ _ n,I,nl,b _ _ J,g.up b,i|λr H2 L z O U Y j _ _ _=>?_];let Ll:=_ST.nodup_sub U Y;show%[L,Qc.of O,⋯|λq fq=>?_];let B:=ah.Qb (o:=lV w q (aV L)) fq;let fl:=_ST.nodup_sub (c8 a) λx d=>aX.mp d
  show%[_,(B _ _ (z _ _ y)),_,aa,⋯|λu ms fu e mn=>%[ms,aa,?_|λv us fv pu _=>?_]]
  .let:=_ST.nodup_sub mn λx d=>aX.mp ((e x).mp d).1
   lia
  .show M v _ us (b.trans (z.trans (B.trans ((ah.Qb fu).trans (ah.Qb fv))))) aa λx d rx=>?_
   rw[pu.mem_iff,e];show%[aX.mpr d|λc=>Gc j (aX.mp c) rx]
def wL{d:ZB}{ss:ZG}(h:∀t∈ss,dR d t.2){x y:lx}(r:Rch (ss\2) x y):x∈d:=by
 induction r with
 | one e=>
   let%[z|g]:=e;let%[t,i|f]:=Xm g;let%[a,b,c,e,j|_]:=h t i;rw[e]at f;show((Nn f).1)▸j
 | more _ _ l=>show l
def iW(T:Txt K mg):↥5 "shortest_ring" ["names","found"] wK:=by
 .exists T.aQ,bU,ag,hr,%[l,m,O,ss,rfl,hl,nn,nl,hm,c,z,kn|ky];show%[_,%["KCG2H~xA1BCG3:CQTH]'A0A1BJ4CG5H](A2A4A4BEMl<N~T5:=luN])3:xN~NefA5BefA3BEG35OEI3",bU.nd|hr]|?_]
  change aU _ _ _ [!l,!m,hX,hX,hX,hX] H;show aj λD1 k1 _=>?_
  lk;show%[m,O,ss,ρ,hm,c,z|λb H1 U fb hb=>k1 _ _ (aj λD2 k2 _=>?_)];lk;show k2 _ _ (aj λD3 k3 _=>aw λae hK=>?_);lk;show%[l,m,O,ss,ρ,U _ _ hl,nn,nl,U _ _ hm,c.up U,z|λr H2 us s2 G I=>%[%[_|Qc.of G]|hK _ _ ?_]];let g:=U.trans s2;show bD (λi Y o=>(E3 λv o4 o5=>Y=[!l,!m,!b,hY v,o4,o5]/\((v= .non/\∀x∈us.take i,¬ Rch (ss\2) x x)\/∃q ws x,v= .ref q/\H q=hX/\pX o (ss\2) ss q ws x/\∀y∈us.take i,∀n,Dst (ss\2) y (n+1) y-> ~~~ws<=n+1))/\ah H2 o)
   %[%[_,_,_,rfl|.inl %[rfl|λx hx=>(nomatch hx)]]|λ_ _ e=>e] (λi Y o h=>h.2 _ _ G) ?_ ?_
  .intro i n Y o hn %[%[v,o4,o5,rfl|J]|j];let tk:us.take (i+1)=us.take i++[n]:=by rw[X7,hn];rfl
   change aU _ _ _ [!l,!m,!b,hY v,-n,o5] o;show aj λD4 k4 _=>?_
   lk;show%[b,n,n,O,ss,ρ,hb.up (s2.trans j),c.up (g.trans j),z,λH3 B nr=>k4 _ _ (az λD5 k5 _=>?_)|λq H3 ws B L C sub rr rl=>k4 _ _ (az λD5 k5 _=>?_)]
   .lk;rw[kw ∅];show k5 _ _ %[%[v,_,_,rfl|J.imp (λh=>%[h.1|λx hx=>?_]) λ⟨q,ws,x,e,L,C,p⟩=>%[q,ws,x,e,L,C.up B|λy a m d=>?_]]|j.trans B]
    .rw[tk]at hx;rcases Xk hx with h'|h'
     .show h.2 x h'
     .rw[Xl h'];show nr
    .rw[tk]at a;rcases Xk a with h'|h'
     .show p y h' m d
     .rw[Xl h']at d;show(nr d.rch).elim
   .lk;rw[md ∅];let wl:∀zs:ZG,~~~(zs\0)= ~~~zs:=λzs=>Z6 _
    let u:=λm d=>by
     let:=rr.min m d;rwa[Z6]at this
    let put:(∀y∈us.take i,∀m,Dst (ss\2) y (m+1) y-> ~~~ws<=m+1)->D5.nx [!l,!m,!b,!q,-n,!q] H3:=λp=>k5 _ _ ⟨%[_,_,_,rfl|.inr ⟨q,ws,n,rfl,(g.trans j).free L,%[C,sub,rr|rl],λy a m d=>by
     rw[tk]at a;rcases Xk a with h'|h'
     .show p y h' m d
     .rw[Xl h']at d;show u m d⟩],j.trans B⟩
    rcases J with⟨rfl,ab⟩|⟨q',M,x',rfl,ac,N,p⟩
    .rw[md ∅];show put λy a m d=>(ab y a d.rch).elim
    .rw[kw ∅];show%[_,.inl %[_,Qc.of C|(wl ws).symm],_,.inl %[_,Qc.of (B _ _ N.at_)|(wl M).symm]|bT (λlt=>put λy a m d=>?_) λlt=>k5 _ _ %[%[_,_,_,ρ|.inr %[q',M,x',ρ,ac,N.up B|λy a m d=>?_]]|j.trans B]]
     .let:=p y a m d;let:=Zo lt
      lia
     .rw[tk]at a;rcases Xk a with h'|h'
      .show p y h' m d
      .rw[Xl h']at d;let:=u m d
       lia
  .intro Y o %[%[v,o4,o5,rfl|J]|j];rw[Zn (Zi _)]at J;show k3 _ _ ?_;lk;rcases J with⟨rfl,h⟩|⟨q,ws,x,rfl,L,C,p⟩
   .show kn o (g.trans j) λx rx=>h x (I x (wL (λt ht=>(c t ht).2) rx) rx) rx
   .show ky q o ws x (g.trans j) L C λy n d=>p y (I y (wL (λt ht=>(c t ht).2) d.rch) d.rch) n d
abbrev KU(ws:ZG):Prop:=∀p∈ws,~~~p.2<=3/\∀z∈p.2,Sml z
inductive uM (C:kG)
 | mk (a r:kG) (ws:ZG):vs=[.ref a,.ref r]->H r∣.lst (ws\0)->aF H ws-> ~~~ws<=300->KU ws->H a∣ExO a C hX->(∀l d,H l=hX->H d=hX->d≠l->Q .non (Qb (Qb (Qb H l (.lst (ws\0))) a (ExO a C (hY d))) d (.xd [("ring",.ref l)])))->uM C vs H Q E0
def C_Torn(T:Txt K mg):IC P w K mg base 1 "Torn" ["self","ring"] (uM (aC mg "Torn")):=by
 show T.x_Torn.cal uB (by intro a b c d h;let%[_,_,_,rfl|_]:=h;rfl) (λf m A outer s H vs Q E n g h=>?_)
 .let%[a,r,ws,rfl,i,o,p,u,j|q]:=h;show%[_,(QSs.h (ai (bC rfl (IG (C:=aC mg "Torn") n rfl T.c_DigError T.i_DigError rfl rfl %[_|ρ] #[↑0,CZ (pjE cK (pjE (Ky g.gd g.units ↑1) CY))]))
   (ap (Kg (C:=aC mg "Torn") T.f_Torn_ring rfl ↑0 (ctO (ir (K:=K) rfl) T.a5 O8 rfl #[↑1])))))|?_]
  change aU _ _ _ [hY _,hY _] H;lk;let y:(K3++pw "torn by the ring ").length=17:=!0
  show%[by rw[PySem.sizeLine_eq];lia,r,ws,ρ,i,o,p,u|λz B=>%[z,ρ,by rw[strLen_append,PySem.sizeLine_eq];lia,by rw[strLen_append,PySem.sizeLine_eq];lia,by simp,%[_|j]|?_]];show%[_,.inl (Qc.of i)|λl b=>%[a,ρ,ah.Qb b _ _ j|λd c v=>?_]];let dl:d≠l:=λe=>by rw[e,aa]at c;cases c
  rw[ao dl]at c;show q l d b c dl
def yE{C r:kG}{ws:hH _}{H c:Hp}{v:_LL.St}{D:ic}{t:TA}{E:XK}(m:ah H c)(G:c r∣.lst (ws\0))(I:aF c ws)(f: ~~~ws<=300)(J:KU ws)(L:∀Q,Q [.ref r] c->t v c Q)
 (k:∀d l g,ah H g->ah c g->H d=hX->H l=hX->d≠l->g d∣.xd [("ring",.ref l)]->g l∣.lst (ws\0)->E (.ref C) (hY d) g):
 t5 C (xR C (uM C) t) (λa y=>∃d,y a∣ExO a C (hY d)/\H a=hX/\E (.ref C) (hY d) (drop y a)) D v c:=by
 show L _ %[by simp|λx q=>?_];let A:=ah.Qb (o:=ExO x C hX) q;show%[x,r,ws,ρ,A _ _ G,aA I λb z e=>A _ _ e,f,J,aa|λl d f n h=>?_];let s:l≠x:=λe=>by rw[e,aa]at f;cases f
 let p:d≠x:=λe=>by rw[e,aa]at n;cases n
 let i:=by rw[ao s]at f;show f
 let j:=by rw[ao p]at n;show n
 let at_:∀b,b≠x->b≠l->b≠d->drop (Qb (Qb (Qb (Qb c x (ExO x C hX)) l (.lst (ws\0))) x (ExO x C (hY d))) d (.xd [("ring",.ref l)])) x b=c b:=λb n1 M N=>by
  rw[bL n1,ao N,ao n1,ao M,ao n1]
 let B:ah c (drop _ x):=λb u e=>by
  rw[at_ b (ax e q) (ax e i) (ax e j)];show e
 show%[ρ,x,d,ρ,?_,d,?_,m.free q|k d l _ (m.trans B) B (m.free j) (m.free i) h ?_ ?_]
 .rw[ao p.symm,aa]
 .rw[ao p.symm,aa]
 .rw[bL p,aa]
 .rw[bL s,ao h.symm,ao s,aa]
def kx{S:lx->lx->Prop}(h:cC S z m)(c:cQ S z x):cC S x m:=%[c.symm.trans h.1|λy d=>h.2 y (c.trans d)]
def jw(h:cW H c qs)(a b:lx)(s:ba qs a b):a∈c/\b∈c:=by
 let%[q,d|e]:=s;rcases(h q d).2 with⟨f,x,y,g,_,i,j,_⟩|⟨f,x,y,g,_⟩
 .simp_all
 grind
structure h9 (mg:ZC) (H:Hp) (g:kG) (qs:ZN) (ls:ZB) (ts:ZG):Prop where
 gr:∃c2 c3 c4,GrF mg H g c2 c3 c4 qs ls ts
 nd:ls.Nodup
 so:ls.Pairwise (λa b=>aN b a=jg)
 ll: ~~~ls<=63
 tl: ~~~ts<=250
 t3:∀k∈ts\2,dR ls k
 sm:∀k∈ts\2,∀z∈k,Sml z
 lm:∀z∈ls,Sml z
def h9.up(h:h9 mg H g qs a ts)(s:ah H b):h9 mg b g qs a ts:=by
 let%[c2,c3,c|d]:=h.gr;show%[%[c2,c3,c|d.up s],h.nd,h.so,h.ll,h.tl,h.t3,h.sm|h.lm]
def h9.ends(h:h9 mg H g qs f ts)(i:bP (ba qs) (ts\2) lk)(j:k∈lk):∃a b z,k=[a,b,z]/\(a∈f/\cC (ba qs) a a)/\b∈f/\cC (ba qs) b b:=by
 let%[c2,c3,r|l]:=h.gr;let%[a,b,z,m,n,o,c,d|rfl]:=(i.mem k).mp j;let%[x,y,u,e,p|q]:=h.t3 _ o;simp only[L9,Ue]at e;let%[rfl,rfl|rfl]:=e;let ws:=jw l.sa;show%[m,n,z,ρ,%[c.1.within ws p|kx c c.1],d.1.within ws q|kx d d.1]
def h9.short(h:h9 mg H g qs o ts)(d:bP (ba qs) (ts\2) lk)(f:k∈lk): ~~~k<=3/\∀z∈k,Sml z:=by
 let%[c2,c3,p|i]:=h.gr;let%[a,b,z,q,r,c,j,l|rfl]:=(d.mem k).mp f;let%[x,y,u,e,m|n]:=h.t3 _ c;simp only[L9,Ue]at e;let%[rfl,rfl|rfl]:=e;let ws:=jw i.sa;show%[Zi _|Ju (h.lm _ (j.1.within ws m)) (h.lm _ (l.1.within ws n)) (h.sm _ c z ∅)]
def h9.names(h:h9 mg H g qs d ts)(f:bP (ba qs) (ts\2) lk)(c:wF (ba qs) d i):∀k∈lk,dR i k:=λk j=>by
 let%[a,b,z,e,l|m]:=h.ends f j;show%[a,b,z,e,(c.mem a).mpr l|(c.mem b).mpr m]
def h9.ties(h:h9 mg H g qs c ts)(d:bP (ba qs) (ts\2) lk):∀k∈lk,dR c k:=λk f=>by
 let%[a,b,z,e,i|j]:=h.ends d f;show%[a,b,z,e,i.1|j.1]
def pY(a:aF H ss)(h:∀k∈ss\2,dR b k):dq H b ss:=λt q=>%[(a t q).2|h _ (Xn %[t,q|rfl])]
inductive sV (mg:ZC)
 | mk (g:kG) (qs:ZN) (ls:ZB) (ts:ZG):vs=[.ref g]->h9 mg H g qs ls ts->(∀lk,bP (ba qs) (ts\2) lk->∀x,¬ Rch lk x x)->(∀l H' ns (ss:ZG),ah H H'->H' l∣.lst (ss\0)->dq H' ns ss-> ~~~ss<=250->bP (ba qs) (ts\2) (ss\2)->Q (.ref l) H')->sV mg vs H Q E0
def _root_._CU.Sho.same{ks c us:hH _}{a b:lx}(h:Sho ks a b us)(e:∀k,k∈ks↔k∈c):Sho c a b us:=%[λk d=>(e k).mp (h.sub k d),h.wal,h.pos|by rw[<-ju e];show h.min]
structure uN (H:Hp) (lk:hH ZB) (d l:kG) (ws:ZG) (x:lx):Prop where
 ad:H d∣.xd [("ring",.ref l)]
 al:H l∣.lst (ws\0)
 tu:aF H ws
 sho:Sho lk x x (ws\2)
 min:∀y n,Dst lk y (n+1) y-> ~~~ws<=n+1
 len: ~~~ws<=300
inductive jF (mg:ZC) (vs:ZM) (H:Hp) (Q:VK) (E:XK):Prop
 | mk (g:kG) (qs:ZN) (ls:ZB) (ts:ZG) (lk:hH ZB) (us:ZM):vs=[.ref g]->h9 mg H g qs ls ts->bP (ba qs) (ts\2) lk->(∃x,Rch lk x x)->(∀d l H' ws x,ah H H'->H d=hX->H l=hX->d≠l->uN H' lk d l ws x->E (.ref (aC mg "Torn")) (hY d) H')->jF mg vs H Q E
def pZ(T:Txt K mg):↥6 "untorn_links" ["ground"] (sV mg):=by
 .exists T.aS,cb,B,d,%[g,qs,e,ts,rfl,a,nr|C];let%[c2,c3,j|n]:=a.gr;let N:=a.ll;show%[_,%["KCG1H~4A0BCG2H~5AH~yA0BA1BCMN~T2:E+OEI1",cb.nd|d]|?_]
  change aU _ _ _ [!g,hX,hX] H;show aj λO k1 _=>?_
  lk;show%[g,c2,c3,j,qs,e,ts,ρ,n,a.nd,a.so,⋯,a.tl,a.t3|λm U ss o Y p G lk q=>k1 _ _ (aj λD2 k2 _=>?_)];lk;show%[g,c2,c3,j,qs,e,ts,ρ,n.up o,a.nd,a.so,⋯|λl H2 u i fl I c=>?_];let v:=pY G (a.names lk c);show%[l,m,u,ss,ρ,I,c.nd,?_,i _ _ p,v.up i,q,λy z _=>k2 _ _ (aj λD3 J _=>?_)|λr y ws x z _ L _=>(nr _ lk x L.sho.rch).elim]
  .let:=_ST.nodup_sub c.nd λx M=>((c.mem x).mp M).1
   lia
  .lk;show J _ _ ?_;let b:=i.trans z;show C m y u ss (o.trans b) (b _ _ p) (v.up b) q lk
def cF(T:Txt K mg):xS P w K mg base 7 "untorn_links" ["ground"] (jF mg):=by
 let%[_,_,b|_]:=T.x_Torn.ini;show T.aS.calX cb (λH vs Q E h=>?_)
 .let%[g,qs,y,ts,lk,us,rfl,a,z,%[x0|o]|kk]:=h;show%[ρ|λf Y A outer s p=>?_];let%[c2,c3,M|N]:=a.gr;let ll:=a.ll;show%[_,%["KCG1H~4A0BCG2H~5AH~yA0BA1BCMN~T2:E]*]+],A2BOEI1",cb.nd|p]|?_]
  change aU _ _ _ [!g,hX,hX] H;show aj λD1 k1 _=>?_
  lk;show%[g,c2,c3,M,qs,y,ts,ρ,N,a.nd,a.so,⋯,a.tl,a.t3|λm H1 ss O fm hm B i sl=>k1 _ _ (aj λD2 k2 _=>?_)];let e:=i.mm z;rw[<-lN e]at o;lk;show%[g,c2,c3,M,qs,y,ts,ρ,N.up O,a.nd,a.so,⋯|λl H2 ns u fl hl v=>?_];let la:=pY B (a.names i v);let C:=O.trans u;show%[l,m,ns,ss,ρ,hl,v.nd,?_,u _ _ hm,la.up u,sl,λU G nr=>(nr _ o).elim|λr U ws x G _ j mn=>k2 _ _ (aj λD3 k3 _=>?_)]
  .let:=_ST.nodup_sub v.nd λx I=>((v.mem x).mp I).1
   lia
  .lk;rw[md ∅];let J:=C.trans G;let inl:∀t∈ws,t.2∈ss\2:=λt c=>Xn %[t,j.sub t c|rfl]
   let n:aF U ws:=λt c=>%[(B t (j.sub t c)).1|G _ _ (u _ _ (B t (j.sub t c)).2)]
   show yE J j.at_ n j.len (λt c=>a.short i (inl t c)) (λQ q=>?_) λd l H4 s4 s5 hd L dl I hL=>kk d l H4 ws x s4 hd L dl %[I,hL,λt c=>%[(n t c).1|s5 _ _ (n t c).2],j.sho.same e,by rw[<-ju e];show mn|j.len]
   lk;show q
inductive wM (K:ZA)
 | mk (a:kG) (ns:ZL):vs=[.ref a]->Qc K H a (ns\4)-> ~~~ns<=1000->(∀(t l1 l2:kG) H' (cs:ZH) (qs:ZN),ah H H'->H' t<*[.ref l1,.ref l2]->H' l1<*bA cs->H' l2∣.lst (qs\0)->nA H' cs qs->Q (.ref t) H')->wM K vs H Q E0
def wN(T:Txt K mg):↥3 "_law_tower" ["_law_script"] (wM K):=by
 .exists T.br,bi,dp,hr,%[a,ns,rfl,hs,hn|kk];show%[_,%["KC.1stH~HA0ADADADBCG2RBCG3RBCQ$ADB~o4stC.5stPRAUAUBS4C~S6tsh?1$ADBb0?2%H~aA0APS1S2BCZpm2AdAS5A~O~PUA6BBBEZ~k~l3Aoh?3T6b0?4%FzFzS1U0BCG7RAdAUAP3DAP3DBBCQ~ZADA~A~6AefA0BADBB~o4stCG8H~HA0AS4ADADBCG9FaF~EDF!DFXP8DDP8DEZpm7AdAPRAUAUBFXP8DDAP3FXP8DDA9BBEIRA2A7B",bi.nd,↑(["_law_rank","_law_ways","_law_k"],[(1,1),(2,4)]),↑["_law_rank","_law_ways","_law_k"],↑(["_law_sign","_law_name"],[(1,5)]),↑["_law_sign","_law_name"]|hr]|?_]
  change aU _ _ _ [!a,hX,hX,hX,hX,hX,hX,hX,hX,hX] H;show aj λD1 k1 _=>?_
  lk;show%[a,ns,1,104,2,ρ,hs,!1,!1,!1,!1,!1,!1|λhd H1 xs s1 _ ae hx hb=>k1 _ _ (aj λD2 k2 _=>?_)];let b3: ~~~xs=2:=hx;obtain⟨W,hW,Wb⟩:∃W:kj->pp,(∀k:kj,k<2->atI (xs\4) (k:pp)∣V.int (W k))/\∀k,0<=W k/\W k<104:=by
   show%[λk=>xs.getD k 0,λk hk=>bG (by simp[b3,hk])|λk=>?_];change 0<=xs.getD k 0/\xs.getD k 0<104;rw[Zc];cases e:xs[k]? with
   | none=>show%[!1|!1]
   | some c=>show hb c (Z8 e)
  lk;show%[Xc _|λC hC=>k2 _ _ (aj λD3 k3 _=>?_)];lk;show%[Xc _|λB hB=>k3 _ _ (aj λD4 k4 _=>aw λU hK=>?_)];let sC:=ah.Qb (o:= .lst []) hC;let sB:=ah.Qb (o:= .lst []) hB;let bc:C≠B:=λe=>by rw[e,aa]at hB;cases hB
  let fC:=s1.free hC;let fB:=(s1.trans sC).free hB;let bd:=sB _ _ (sC _ _ ae);let ag:=sB _ _ (aa (H:=H1) (o:= .lst []));let be:Qb (Qb H1 C (.lst [])) B (.lst []) B<*[]:=aa;let s2:=(s1.trans sC).trans sB
  generalize Qb (Qb H1 C (.lst [])) B _=H2 at bd ag be s2
  let bf:hd≠C:=λe=>by rw[e,hC]at ae;cases ae
  let b4:hd≠B:=λe=>by rw[<-e,ao bf,ae]at hB;cases hB
  lk;show%[!1,!1|hK _ _ (b7 (λi y I=>∃(o4 o5 o6:lX V) (cs:ZH),y=[!a,!hd,!C,!B,o4,o5,o6,hX,hX,hX]/\ah H I/\I hd<*xs\4/\I C<*bA cs/\I B<*(dX W i)\3/\bO I cs/\cs\2=(q7 i).map λk=>(nmT k,bu (W k)))
   %[_,_,_,[],ρ,s2,bd,ag,be,(λ_ h=>nomatch h)|ρ] ?_ ?_)]
  .intro i y I hi %[o4,o5,o6,cs,rfl,sm,a0,N,g,O|ce];change aU _ _ _ [!a,!hd,!C,!B,hY (.int (0+i)),o5,o6,hX,hX,hX] I;rw[Nx];let i2:i<2:=hi;show aj λD5 k5 _=>?_
   lk;show%[#[2]|λp hp=>%[_,Qc.of aa,.str (nmT i),?_|k5 _ _ (aj λD6 k6 _=>?_)]]
   .rcases(show i=0\/i=1 by lia -verbose)with rfl|rfl<;> rfl
   let sp:=ah.Qb (o:= .lst [V.str (!"zone"),V.str (!"pit")]) hp
   generalize Qb I p _=H3 at sp
   let b5:=sp _ _ a0;lk;show aK λU hK=>?_
   lk;show%[!1,!1|hK _ _ λF hF=>?_];show dI (J:=Itr 0 26) (n:=26) (D:=F) (λq ts y H4=>A4 (∃o,y=[o,!hd,hY (.int i)]) (ah H3 H4) (H4 F<*ts) (ts=((bu (W i)).take q)\3))
    %[%[hX|rfl],ah.Qb hF,aa|rfl] (λq _ _ I d _=>d) (λ_ _ I _=>Zi _) ?_ ?_
   .intro q ts y H4 d %[%[o|rfl],s4,al|v] x M %[e2|e3];subst e2 e3;lk;show%[_,Qc.of (s4 _ _ b5),_,hW i i2,q,W i,ρ,(by lia -verbose),(by lia -verbose),(Wb i).1,by let:=(Wb i).2;lia -verbose|λH6 s6=>CK.mk d (s6 _ _ al) (by rw[v,Z6,Yk];show aB (by lia -verbose)) %[%[_|ρ],ah.set (s4.trans s6) hF,aa|?_]];rw[v,X7,Zd,my d];rfl
   .intro ts y H4 %[_,s4,al|v];rw[Zn (Sq (hJ _))]at v;subst v;show k6 _ _ (aj λD7 k7 _=>?_);let Y:=sp.trans s4;let a1:=Y _ _ N;let b6:=Y _ _ g;lk;show%[tyL (Qc.of a1),bu (W i),Qc.of al,?_,#[2]|λt v=>?_]
    .let:=(Jx (W i)).sum;let:=(Jx (W i)).high;rw[show(!"\n").length=1 from rfl]
     lia -verbose
    rw[show Txt.join (!"\n") (bu (W i))=ry nl (bu (W i))from Nj _ _];let st:=ah.Qb (o:= .tup [V.str (nmT i),V.str (ry nl (bu (W i)))]) v;let gt:Qb H4 t (.tup [V.str (nmT i),V.str (ry nl (bu (W i)))]) t=_:=aa;let b9:t≠C:=λe=>by rw[e,a1]at v;cases v
    generalize Qb H4 t _=M at st gt
    let cl: ~~~cs=i:=by let:=tI Lo ce;rwa[Z6,Z6,Yi]at this
    let ca:=st _ _ a1;show%[_,ca,by unfold bA;rw[Z6,cl];show aB (by lia -verbose)|k7 _ _ (az λD8 k8 _=>?_)];let fF:=(sm.trans sp).free hF;let cd:F≠C:=λe=>by rw[e,sp _ _ N]at hF;cases hF
    let dr:F≠B:=λe=>by rw[e,sp _ _ g]at hF;cases hF
    let bl:Qb M C (.lst (bA cs++[V.ref t])) C<*bA (cs++[(t,nmT i,bu (W i))]):=by rw[aa];unfold bA;rw[Zd];rfl
    let keep:∀b o,b≠C->M b∣o->Qb M C (.lst (bA cs++[V.ref t])) b∣o:=λb o n e=>by rw[ao n];show e
    let s6:ah H (Qb M C (.lst (bA cs++[V.ref t]))):=ah.set ((sm.trans Y).trans st) fC
    generalize Qb M C _=H6 at bl keep s6
    let ch:=keep _ _ bf (st _ _ (Y _ _ a0));let ab:=keep _ _ (J0 bc) (st _ _ b6);let bm:=keep _ _ cd (st _ _ al);let a2:bO H6 (cs++[(t,nmT i,bu (W i))]):=λq d=>by
     rcases Xk d with z|z
     .show%[keep _ _ (λe=>?_) (st _ _ (Y _ _ (O q z).1))|(O q z).2];let:=(O q z).1;rw[e,N]at this;cases this
     .rw[Xl z];show%[keep _ _ b9 gt,wB i|Jx _]
    lk;show%[tyL (Qc.of ab)|aK λU hK=>?_];lk;show%[%[_|Qc.of bm]|hK _ _ λG hG=>?_];show cP (λq ts y H7=>A4 (∃o,y=[o,hY (.str (nmT i))]) (ah H6 H7) (H7 G<*ts) (ts=(((bu (W i)).take q).map (lnS (nmT i)))\3))
     %[%[hX|rfl],ah.Qb hG,aa|rfl] (λ_ _ _ H7 ⟨_,s7,_,_⟩=>s7 _ _ bm) ?_ ?_
    .intro q ts y H7 d %[%[o|rfl],s7,a3|v];let%[r|er]:=jC (Yc d);rw[hJ]at d;lk;rw[iJ];let nl:=g9 (wB i);show%[by rw[PySem.sizeLine_eq];change(nmT i).length+1<=_;lia -verbose,by rw[er,PySem.sizeLine_eq,Om];change(nmT i).length+1+1<=_;lia -verbose|CK.mk (by rwa[hJ]) a3 (by rw[v,Z6,Z6,Yk];show aB (by lia -verbose)) %[%[_|ρ],ah.set s7 hG,aa|?_]];rw[v,X7,Zd,Zd,Z4 (by rwa[hJ])];rfl
    .intro ts y H7 %[_,s7,a3|v];rw[Zn (Zi _)]at v;let a4:∀{b:kG} {o:HO},b≠B->H6 b∣o->Qb H7 B (.lst ((dX W i)\3++ts)) b∣o:=λ{b o} n e=>by rw[ao n];show s7 _ _ e
     show%[_,s7 _ _ ab,_,a3,?_|k8 _ _ %[_,_,_,cs++[(t,nmT i,bu (W i))],ρ,ah.set (s6.trans s7) fB,a4 b4 ch,a4 bc bl,?_,λq d=>%[a4 (λe=>?_) (a2 q d).1|(a2 q d).2]|?_]]
     .rw[v,Z6,Z6,Z6,hJ,fi];show Ye (aB (by lia -verbose))
     .rw[aa,v,<-Zd,fW]
     .let:=(a2 q d).1;rw[e,ab]at this;cases this
     .rw[Zd,ce,NU,Zd];rfl
  .intro y I %[o4,o5,o6,cs,rfl,sm,a0,N,g,O|ce];let g:I B<*(dX W 2)\3:=g;let ce:cs\2=(q7 2).map λk=>(nmT k,bu (W k)):=ce
   let cl: ~~~cs=2:=by let:=tI Lo ce;rwa[Z6,Z6,Yi]at this
   let a5:∀z∈dX W 2,z∈cs.flatMap lyr:=λz hz=>by
    let%[k,r,hk,hr|rfl]:=Bv hz;let:(nmT k,bu (W k))∈cs\2:=by rw[ce];show Xn %[k,wh.mpr hk|rfl]
    let%[p,hp|e]:=Xm this;let l:=iI (p:=p) (by rw[e];show letT hr);rw[e]at l;show Lf.mpr %[p,hp|l]
   let co:∀i:kj,i<52->∃z,atI ((dX W 2)\3) (i:pp)∣V.str z/\z∈dX W 2:=λi hi=>by
    let hl:i< ~~~(dX W 2):=by rw[fi];lia -verbose
    show%[(dX W 2)[i],bG (by simp[hl])|Yc hl]
   show k4 _ _ (aj λD9 k9 _=>?_);lk;obtain⟨z0,z1,b0,b1,ne⟩:∃z0 z1:lx,(dX W 2)[25]?∣z0/\(dX W 2)[26]?∣z1/\z0≠z1:=%[_,_,KN W,KO W|λe=>ow (pO e) (!0)]
   show%[_,Qc.of g,.str z0,bG (j:=25) (by rw[Zl,b0];rfl),_,Qc.of g,.str z1,bG (j:=26) (by rw[Zl,b1];rfl),#[3]|λp hp=>%[#[1]|λL hL=>k9 _ _ (aj λds ct _=>aw λU hK=>?_)]];let sp:=ah.Qb (o:= .tup [V.str (!"later"),V.str z0,V.str z1]) hp;let gp:Qb I p (.tup [V.str (!"later"),V.str z0,V.str z1]) p=_:=aa
   generalize Qb I p _=H3 at sp gp hL
   let bt:=ah.Qb (o:= .lst [V.ref p]) hL _ _ gp;let sL:=sp.trans (ah.Qb (o:= .lst [V.ref p]) hL);let fL:=(sm.trans sp).free hL;let a6:Qb H3 L (.lst [V.ref p]) L=_:=aa
   generalize Qb H3 L _=H2 at bt sL a6
   let cv:C≠L:=λe=>by rw[<-e,sp _ _ N]at hL;cases hL
   let cw:B≠L:=λe=>by rw[<-e,sp _ _ g]at hL;cases hL
   let ag:=sL _ _ N;let cM:=sL _ _ g;let bb:bO H2 cs:=λq d=>%[sL _ _ (O q d).1|(O q d).2]
   let c3:=(sm.trans sL).seq hs;lk;show%[~~~ns,.inl %[_,c3|(Z6 _).symm],!1,!1,by split<;> lia -verbose,by split<;> lia -verbose|?_]
   generalize hm:((if 29<(~~~ns:pp)then 29 else(~~~ns:pp)) -5).toNat=m
   let dt:m<=24:=by split at hm<;> lia -verbose
   show hK _ _ (b7 (λi y M=>E4 λ(o4 o8 o9:lX V) (qs:ZN)=>A6 (y=[!a,!hd,!C,!B,o4,o5,o6,!L,o8,o9]) (ah H M) (∀b o,b≠L->H2 b∣o->M b∣o) (M L∣.lst (qs\0)) (~~~qs=i+1) (cW M (cs.flatMap lyr) qs))
    %[_,_,_,[(p,[V.str (!"later"),V.str z0,V.str z1])],rfl,sm.trans sL,(λb o _ e=>e),a6,rfl|λq d=>?_] ?_ ?_)
   .rw[Xl d];show%[bt|.inl %[_,_,_,ρ,.inl rfl,a5 _ (Z8 b0),a5 _ (Z8 b1)|ne]]
   .intro i y M hi %[o4,o8,o9,qs,rfl,s5,k5,ac,ql|sa];change aU _ _ _ [!a,!hd,!C,!B,hY (.int (5+i)),o5,o6,!L,o8,o9] M;show aj λdx c4 _=>?_
    lk;show%[a,ns,5+i,211,3,ρ,s5.seq hs,(by lia -verbose),(by lia -verbose),!1,!1,!1,!1|λdl H6 ys s6 _ an hy c5=>c4 _ _ (aj λdy c6 _=>?_)];let get:∀i:pp,0<=i->i<3->∃c,atI (ys\4) i∣V.int c/\0<=c/\c<211:=λi h0 h1=>by
     let%[c,e|hm]:=lB ys h0 (by rw[hy];show h1);show%[c,e|c5 c hm]
    let%[c0,g0,l0|u0]:=get 0 (!1) (!1);let%[c1,g1,l1|u1]:=get 1 (!1) (!1);let%[c2,g2,l2|u2]:=get 2 (!1) (!1);lk;show%[_,Qc.of an,_,g1,!1,.inl %[!1|!1],_,Qc.of an,_,g2|c6 _ _ (az λdF da _=>?_)];let db:=s6 _ _ ac;let ab:=s6 _ _ (k5 _ _ cw cM);obtain⟨n1,dd⟩:∃n:kj,c1%52=n:=%[(c1%52).toNat|(by lia -verbose)]
    let%[zb,gz|iz]:=co n1 (by lia -verbose);obtain⟨wd,dg,dk⟩:∃wd:lx,atI [V.str (!"since"),V.str (!"by")] (c0%2)∣V.str wd/\(wd="since"\/wd="by"):=by
     rcases(show c0%2=0\/c0%2=1 by lia -verbose)with e|e<;> rw[e]
     .show%[_,ρ|.inl rfl]
     .show%[_,ρ|.inr rfl]
    lk;show%[tyL (Qc.of db),#[2]|λu hu=>?_];let su:=ah.Qb (o:= .lst [V.str (!"since"),V.str (!"by")]) hu;let gu:Qb H6 u (.lst [V.str (!"since"),V.str (!"by")]) u=_:=aa
    generalize Qb H6 u _=H7 at su gu
    show%[_,Qc.of (su _ _ an),_,g0,!1,_,Qc.of gu,_,dg,_,Qc.of (su _ _ an),_,g1,!1,_,Qc.of (su _ _ ab),_,by rw[dd];show gz,#[3]|λt v=>?_];let st:=su.trans (ah.Qb (o:= .tup [V.str wd,V.str zb,V.int (600-10*(c1%52) +c2)]) v);let gt:Qb H7 t (.tup [V.str wd,V.str zb,V.int (600-10*(c1%52) +c2)]) t=_:=aa
    generalize Qb H7 t _=H8 at st gt
    let as:=s6.trans st;let b2:=as _ _ ac;let dn:t≠L:=λe=>by rw[e,b2]at gt;cases gt
    show%[_,b2,by rw[Z6,ql];show aB (by lia -verbose)|da _ _ %[_,_,_,qs++[(t,[V.str wd,V.str zb,V.int (600-10*(c1%52) +c2)])],ρ,ah.set (s5.trans as) fL,λb o n e=>by rw[ao n];show as _ _ (k5 b o n e),by rw[aa,Zd];rfl,by rw[Z9,ql];rfl|λq d=>?_]];rcases Xk d with z|z
    .show%[?_|(sa q z).2];rw[ao (λe=>by let:=(sa q z).1;rw[e,ac]at this;cases this)];show as _ _ (sa q z).1
    .rw[Xl z];show%[by rw[ao dn];show gt|.inr %[_,_,_,ρ,dk,a5 _ iz,(by lia -verbose)|(by lia -verbose)]]
   .intro y M %[o4,o8,o9,qs,rfl,s5,k5,ac,ql|sa];show ct _ _ ?_;lk;show%[#[2]|λz hz=>?_];let sz:=ah.Qb (o:= .lst [V.ref C,V.ref L]) hz;let de:∀q∈cs,∃k,q.2=(nmT k,bu (W k)):=λq d=>by
     let:q.2∈cs\2:=Xn %[q,d|rfl];rw[ce]at this;let%[k,_|e]:=Xm this;show%[k|e.symm]
    show kk z C L _ cs qs (s5.trans sz) aa (sz _ _ (k5 _ _ cv ag)) (sz _ _ ac) %[(by lia -verbose),(by lia -verbose),λq d=>%[sz _ _ (k5 _ _ (λe=>?_) (bb q d).1)|(bb q d).2],?_,λq d=>?_,?_,λq d=>%[sz _ _ (sa q d).1|(sa q d).2]|(by lia -verbose)]
    .let:=(bb q d).1;rw[e,a6]at this;cases this
    .rw[show cs.map (λp=>p.2.1)=(cs\2)\1 by rw[Yq];rfl,ce];change [nmT 0,nmT 1].Nodup;decide +kernel
    .let%[k|e]:=de q d;rw[show q.2.2=bu (W k) by rw[e]];show fewT _
    .match cs,cl,de with
     |[q1,q2],_,de=>
      let%[k1|e1]:=de q1 ∅;let%[k2|e2]:=de q2 ∅;let:=KP (p:=q1) (w:=W k1) (by rw[e1]);let:=KP (p:=q2) (w:=W k2) (by rw[e2]);rw[Oh,Oh,hH.flatMap_nil,Zx,Z9]
      lia -verbose
def m7.sub{f g:ZB}{vs:ZM}(h:m7 f vs)(m:∀z∈f,z∈g):m7 g vs:=by
 rcases h with⟨w,a,b,e,hw,c,d,n⟩|⟨w,a,y,e,hw,c,d⟩
 .show .inl %[w,a,b,e,hw,m a c,m b d|n]
 .show .inr %[w,a,y,e,hw,m a c|d]
def zO:∀{cs:ZH},(∀p∈cs,∃w a hi,gG w a hi/\p.2.2=br a hi)-> ~~~(cs.flatMap lyr)<=16* ~~~cs
 |[],_=>Zi _
 | q::cs,h=>by
   let j:=zO (cs:=cs) λp b=>h p (Zk _ b)
   let%[w,a,hi,d|e]:=h q Zm;let:=_ST.nodup_sub (c8 ((cL q.2.2).map sgn)) (m:=(q7 16).map λr:kj=>sgn (ltr r w)) λy f=>by
    let%[c,g|rfl]:=Xm (aX.mp f);let%[r,i,l|rfl]:=d.lets (e▸eZ.mp g);show Xn %[r.toNat,wh.mpr ⋯|by rw[Ps i]]
   rw[Z6,Yi]at this;rw[Oh,Z9,Zr,lyr,Z6]
   lia
def uO(T:Txt K mg):↥4 "_law_ground" ["_law_script"] (sQ K):=by
 .exists T.bt,cq,a3,G,%[a,g,rfl,U,hn|kk];show%[_,%["KCMNgFXF;H~BA0ADBDDDEIH].A0BOC~zH]/A0B~!LJ1LJ2cCG3RBCG4ngFXF;H~BA0ADBDDDCG5ngFXF;H~BA0ADBDDDCQ~ZADA~A~6AefA0BADBBJ6EZpm3AH]:AH~HA0A6ADADBA2A4A5BBEIRA1A3B",cq.nd|G]|?_]
  change aU _ _ _ [!a,hX,hX,hX,hX,hX,hX] H;show aj λD0 k0 r0=>?_
  lk;show%[a,g,0,ρ,U,!1,%[!1|!1],!1|bT (λ_=>%[a,g,ρ,U,hn|λt l1 l2 u cs qs I J h1 h2 ok=>r0 _ _ (kk t l1 l2 u cs qs I J h1 h2 ok)]) λ_=>k0 _ _ (aj λD1 k1 _=>?_)];lk;show%[a,g,ρ,U|λt C D H1 cs rs s1 J _ hC hD c1 c3 ca ae ok=>%[_,Qc.of J,ρ,_,_,ρ,_,_,ρ,ρ|k1 _ _ (aj λD2 k2 _=>?_)]];lk;show%[Xc _|λL M=>k2 _ _ (aj λD3 k3 _=>?_)];let sL:=s1.trans (ah.Qb (o:= .lst []) M);let v:=sL.seq U;lk;show%[a,g,0,ρ,v,!1,%[!1|!1],!1|k3 _ _ (aj λD4 k4 _=>?_)]
  generalize decide (g.getD (pp.toNat 0) 0/2%6=1)=j
  lk;show%[a,g,0,ρ,v,!1,%[!1|!1],!1|k4 _ _ ?_]
  generalize decide (g.getD (pp.toNat 0) 0/12%2=1)=l
  show aj λD5 k5 _=>aw λa1 hK=>?_
  lk;let fL:=s1.free M;let ag:C≠L:=λe=>by rw[e,M]at hC;cases hC
  let al:D≠L:=λe=>by rw[e,M]at hD;cases hD
  let Y:=ah.Qb (o:= .lst []) M _ _ hC;let ab:=ah.Qb (o:= .lst []) M _ _ hD;let y:bO (Qb H1 L (.lst [])) cs:=λp hp=>%[ah.Qb (o:= .lst []) M _ _ (ca p hp).1|(ca p hp).2]
  let N:Qb H1 L (.lst []) L<*[]:=aa
  generalize Qb H1 L _=H2 at sL v Y ab y N
  show%[~~~g,.inl %[_,v|(Z6 _).symm],!1,!1,by split<;> lia,by split<;> lia|?_]
  generalize hm:((if 41<(~~~g:pp)then 41 else(~~~g:pp)) -5).toNat=m
  let a4:m<=36:=by split at hm<;> lia
  show hK _ _ (b7 (λi σ u=>E2 λ(o6:lX V) (qs:ZN)=>A6 (σ=[!a,!C,!D,!L,hY (.bl j),hY (.bl l),o6]) (ah H u) (∀b o,b≠L->H2 b∣o->u b∣o) (u L∣.lst (qs\0)) (~~~qs=i) (cW u (cs.flatMap lyr) qs))
   %[_,[],rfl,sL,(λb o _ e=>e),N,rfl|λ_ h=>nomatch h] ?_ ?_)
  .intro i σ u hi %[o6,qs,rfl,sH,I,r,ql|O];change mE _ _ [!a,!C,!D,!L,hY (.bl j),hY (.bl l),hY (.int (5+i))] u;show az λD6 k6 _=>?_
   lk;show%[tyL (Qc.of r),a,g,5+i,211,6,ρ,sH.seq U,⋯,⋯,!1,!1,!1,!1|λdl H3 xs s3 _ an hx hb=>%[dl,D,xs,rs,j,l,ρ,an,hx,hb,s3 _ _ (I _ _ al ab),ok.nd,ok.ne (λe=>by rw[e]at c1;cases c1),by let:=ok.len;lia,λq c=>(ok.rk q c).2|λt H4 zs s4 J as=>?_]];let B:=s3.trans s4;let ac:=B _ _ r;let a0:t≠L:=λe=>by rw[e,ac]at J;cases J
   show%[_,ac,by rw[Z6,ql];show aB ⋯|k6 _ _ %[_,qs++[(t,zs)],ρ,ah.set (sH.trans B) fL,λb o n e=>by rw[ao n];show B _ _ (I b o n e),by rw[aa,Zd];rfl,by rw[Z9,ql];rfl|λq c=>?_]];rcases Xk c with z|z
   .show%[?_|(O q z).2];rw[ao (λe=>by let:=(O q z).1;rw[e,r]at this;cases this)];show B _ _ (O q z).1
   .rw[Xl z];show%[by rw[ao a0];show J|as.sub λz hz=>?_];let%[q,c|rfl]:=Xm hz;show(ok.rk q c).1
  .intro σ u %[o6,qs,rfl,sH,I,r,ql|O];show k5 _ _ ?_;lk;show%[#[2]|λp hp=>?_];let sp:=ah.Qb (o:= .lst [V.ref C,V.ref L]) hp;show kk p C L _ cs qs (sH.trans sp) aa (sp _ _ (I _ _ ag Y)) (sp _ _ r) %[c1,c3,λq c=>%[sp _ _ (I _ _ (λe=>?_) (y q c).1)|(y q c).2],ae,λq c=>?_,by let:=zO ok.dr;lia,λq c=>%[sp _ _ (O q c).1|(O q c).2]|⋯]
   .let:=(y q c).1;rw[e,N]at this;cases this
   .let%[w,a2,hi,d|e]:=ok.dr q c;rw[e];show d.few
def uP{a:ZB}{g h:lx->V}{z:lx}(b:z∉a)(e:∀x∈a,h x=g x):cY (VD a g) (lp z) (h z)=VD (a++[z]) h:=by
 rw[fA _ (lO b)];unfold VD;rw[Zd];show tI (·++_) (Yo λx c=>by rw[e x c])
abbrev Gn(ks:hH ZB)(a:lx->pp)(x:lx):Prop:=(∀y,Ed ks x y->a y<a x)/\((∃y,Ed ks x y/\a x=a y+1)\/((∀y,¬ Ed ks x y)/\a x=0))
structure m8 (lk:hH ZB) (ns L:ZB) (lv:lx->pp):Prop where
 mem:∀x,x∈L↔x∈ns
 at_:∀x∈L,Gn lk lv x
 nd:L.Nodup
inductive sW (mg:ZC)
 | mk (g:kG) (qs:ZN) (ls:ZB) (ts:ZG):vs=[.ref g]->h9 mg H g qs ls ts->(∀lk,bP (ba qs) (ts\2) lk->∀x,¬ Rch lk x x)->(∀d H' lk ns L lv,ah H H'->H d=hX->bP (ba qs) (ts\2) lk->wF (ba qs) ls ns->H' d∣.dK (VD L λx=> .int (lv x))->m8 lk ns L lv->Q (.ref d) H')->sW mg vs H Q E0
def Eo(T:Txt K mg):↥8 "levels" ["ground"] (sW mg):=by
 .exists T.aW,d8,cd,hr,%[g,qs,ls,ts,rfl,hg,nr|kk];let%[c2,c3,c4|gr]:=hg.gr;let ll:=hg.ll;show%[_,%["KCG1H];A0BCG2H~xA1BC.3styCQTH~3AH~yA0BA1BJ4Eq]<oh?1T~K~L2A4ARBBb0?2%FaWS1V0~JDDS34EIS3",d8.nd,↑(["link","told"],[(1,3)]),↑["link","told"]|hr]|?_]
  change aU _ _ _ [!g,hX,hX,hX,hX] H;show aj λD1 k1 _=>?_
  lk;show%[g,qs,ls,ts,ρ,hg,nr|λso H1 n0 ss s1 a6 la sl lk=>k1 _ _ (aj λD2 k2 _=>?_)];let nr:=nr _ lk;lk;show%[so,n0,ss,ρ,a6,la,sl|λb H2 s2 fb hb=>k2 _ _ (aj λD3 k3 _=>?_)];lk;intro d fd;show k3 _ _ (aj λD4 k4 _=>aw λbb hK=>?_);let s3:=ah.Qb (o:= .dK []) fd;let hd:Qb H2 d (.dK []) d∣.dK (VD [] λ_=> .int 0):=aa;let bc:=s1.trans s2;let as:=bc.trans s3;let bd:b≠d:=λc=>by
   let%[be,N|_]:=hb;rw[c,fd]at N;cases N
  let bf:=bc.free fd;let bl:=hb.up s3;let bm:=s2.trans s3
  generalize Qb H2 d _=H3 at s3 hd as bl bm
  lk;show%[g,c2,c3,c4,qs,ls,ts,ρ,gr.up as,hg.nd,hg.so,⋯|λnl H4 ms s4 fm hm hn=>?_];let b9: ~~~ms<=63:=by
   let:=_ST.nodup_sub hn.nd λx u=>((hn.mem x).mp u).1
   lia
  let bt:=bm.trans s4;let lm:dq H4 ms ss:=λt q=>%[bt _ _ (la t q).1|hg.names lk hn _ (Xn %[t,q|rfl])]
  show%[nl,so,ms,ss,ρ,hm,hn.nd,b9,bt _ _ a6,lm,sl|λr H5 L s5 a0 Ln Ls b0 rest _ _=>%[%[_|Qc.of a0]|hK _ _ ?_]];let b1:∀x∈ms,x∈L:=λx u=>K4 λc=>yi (ks:=ss\2) (U:=ms.filter λx=>decide (x∉L)) (λx u=>by
   let%[N|h2]:=on.mp u;let%[y,e,yn|yl]:=rest x N (Zo h2);show%[y,on.mpr %[yn|Zf yl]|e]) nr (on.mpr %[u|Zf c])
  let Ll:=_ST.nodup_sub Ln Ls;let a1:=s4.trans s5;let b2:=bl.up a1;let B:=a1 _ _ hd;let b3:=lm.up s5;show bD (λi σ O=>A3 (∃o4,σ=[!g,!so,!b,!d,o4]) (dY d H5 O) (∃l:lx->pp,O d∣.dK (VD (L.take i) λx=> .int (l x))/\∀x∈L.take i,Gn (ss\2) l x))
   %[%[_|rfl],λ_ _ _ e=>e,_,B|λx h=>(nomatch h)] (λi σ O h=>h.2 _ _ (λc=>by rw[<-c,a0]at B;cases B) a0) ?_ ?_
  .intro i n σ O Y %[%[o4|rfl],sm,l,ab|ac];let il:=(Xj Y).1;let tk:L.take (i+1)=L.take i++[n]:=by rw[X7,Y];rfl
   let nt:n∉L.take i:=λc=>by
    let%[j|C]:=Xd c;let jl:=(Xj C).1;rw[Yk]at jl;rw[Yb ⋯]at C;let:=gN Ln C Y
    lia
   change jM _ _ _ _ [!g,!so,!b,!d,-n] O;show az λD5 k5 _=>?_
   lk;unfold DM;show aK λbb hK=>?_
   lk;show%[tyD (sm _ _ bd b2.choose_spec.1),#[0]|λp hp=>?_];let%[be,a,b4,ca,ae|ce]:=b2.get sm bd (λxs c=>by rw[B]at c;cases c) hp n;let sp:=ah.Qb (o:= .lst []) hp;let ag:=sp _ _ ab;let a2:=sm.trans (dY.of sp)
   generalize Qb O p _=H6 at b4 ae ag a2 ⊢
   generalize a3:(ss.filter λt=>decide (t.2[0]?∣n))=us at ae
   let b5:∀t∈us,t∈ss/\∃y z,t.2=[n,y,z]:=λt G=>by
    rw[<-a3]at G;let%[N|h2]:=on.mp G;let%[x,y,z,e|_]:=(lm t N).2;let h2:=Zo h2;rw[e]at h2;show%[N,y,z|by rw[e,show x=n from Za h2]]
   let ul: ~~~us<=250:=by rw[<-a3];show n7 (Yh _ _) sl
   let yt:∀y,Ed (ss\2) n y->y∈L.take i:=λy e=>b0 i n Y y e
   show%[lp n,ρ,be,b4|uz ca %[%[_|Qc.of ae]|hK _ _ λF hF=>?_]];let dF:d≠F:=ax ag hF;show cP (λj vs σ H7=>A3 (∃o1,σ=[o1,!d]) (ah H6 H7) (∃J:ZL,A5 (H7 F<*J\4) (vs=J\4) (~~~J=j) (∀t∈us.take j,∀y,t.2[1]?∣y->l y+1∈J) (∀v∈J,∃t∈us.take j,∃y,t.2[1]?∣y/\v=l y+1)))
    %[%[hX|rfl],ah.Qb hF,[],aa,rfl,rfl,(λt h=>nomatch h)|λ_ h=>nomatch h] (λ_ _ _ H7 ⟨_,sm,_⟩=>sm _ _ ae) ?_ ?_
   .intro j vs σ H8 C %[%[o1|rfl],s7,J,a4,rfl,b6,al|an];let ka:us.take (j+1)=us.take j++[us[j]]:=by rw[X7,Z4 C];rfl
    let%[I,y,z|M]:=b5 _ (Yc C);let t7:=s7 _ _ (a2 _ _ (λc=>by let:=(b3 _ I).1;rw[c,B]at this;cases this) (b3 _ I).1);rw[M]at t7;let ye:y∈L.take i:=yt y %[z|Xn %[_,I|M]];let g1:=cr.k (k:=lp y) (s7 _ _ ag);rw[dS ye]at g1;lk;show%[_,SqT.of t7,_,(show atI ([n,y,z]\3) ((1:kj):pp)∣.str y from bG rfl),_,g1|?_];lk;show CK.mk C a4 (by rw[Z6];show aB ⋯) %[%[_|rfl],ah.set s7 hF,J++[l y+1],by rw[aa,Zd];rfl,by rw[Zd];rfl,by rw[Z9,b6];rfl,λt G y' ey=>?_|λv hv=>?_]
    .rw[ka]at G;rcases Xk G with q|q
     .show Ys _ (al t q y' ey)
     .rw[Xl q,M]at ey;obtain rfl:y=y':=Za ey;show Yt _ Zm
    .rw[ka];rcases Xk hv with q|q
     .let%[t,G|r]:=an v q;show%[t,Ys _ G|r]
     .show%[_,Yt _ Zm,y,by rw[M];rfl|Xl q]
   .intro vs σ H7 %[_,s7,J,a4,rfl,b6,al|an];rw[Zn (Zi _)]at al an;show%[F,J,0,ρ,ρ,Qc.of a4|λm hm=>%[_,fE.k (k:=lp n) (s7 _ _ ag) (by unfold VD;rw[Z6,Yk];show aB ⋯)|k5 _ _ %[%[_|ρ],λc o h q=>(ao h).trans (s7 _ _ (a2 c o h q)),λx=>if x=n then m else l x,?_|λx u=>?_]]]
    .let:=uP (g:=λx=>V.int (l x)) (h:=λx=>V.int (if x=n then m else l x)) nt λx u=>by
      change V.int (if x=n then m else l x)=V.int (l x);rw[kw (λc:x=n=>nt (c▸u))]
     rw[md rfl]at this;rw[aa,this,tk]
    .rw[tk]at u;let yn:∀x,x∈L.take (i+1)->∀y,Ed (ss\2) x y->y≠n:=λx u y e c=>by
      let%[j|C]:=Xd u;let jl:=(Xj C).1;rw[Yk]at jl;rw[Yb ⋯]at C;let:=b0 j x C y e;show nt (c▸(Rg L (show j<=i by lia)) this)
     let yn:=yn x (by rw[tk];show u);unfold Gn;dsimp only;rcases Xk u with q|q
     .let%[N|h2]:=ac x q;rw[kw (λc:x=n=>nt (c▸q))];show%[λy e=>by rw[kw (yn y e)];show N y e|h2.imp (λ⟨y,e,h⟩=>%[y,e|by rw[kw (yn y e)];show h]) id]
     .obtain rfl:x=n:=Xl q;rw[md rfl];let a5:∀y,Ed (ss\2) x y->l y+1∈J:=λy ⟨z,hz⟩=>by
       let%[t,G|M]:=Xm hz;let tu:t∈us:=by
        rw[<-a3];show on.mpr %[G|Zf (by rw[M];rfl)]
       show al t tu y (by rw[M];rfl)
      show%[λy e=>?_|?_]
      .rw[kw (yn y e)];rcases hm with⟨rfl,_⟩|⟨_,h⟩
       .cases a5 y e
       .let:=h _ (a5 y e)
        lia
      .rcases hm with⟨rfl,h⟩|⟨h,_⟩
       .show .inr %[λy e=>(nomatch a5 y e)|h]
       .let%[t,G,y,ey|rfl]:=an m h;let%[I,y',z|M]:=b5 t G;rw[M]at ey;obtain rfl:y'=y:=Za ey;let e:Ed (ss\2) x y':=%[z|Xn %[t,I|M]]
        show .inl %[y',e|by rw[kw (yn y' e)]]
  .intro σ O %[%[o4|rfl],sm,l,ab|ac];rw[Zn (Zi _)]at ab ac;show k4 _ _ ?_;lk;let keep:ah H O:=λc o e=>sm c o (ax e bf) ((as.trans a1) _ _ e)
   show kk d O _ ms L l keep bf lk hn ab %[λx=>%[Ls x|b1 x],ac|Ln]
def p7{S:lx->lx->Prop}{P:lx->Prop}{x y:lx}(h:cQ S x y)(e:P x)(d: ¬ P y):∃a b,(S a b\/S b a)/\P a/\ ¬ P b/\cQ S x a:=by
 induction h with
 | refl=>show(d e).elim
 | @step y z c s f=>
   by_cases p:P y
   .show%[y,z,s,p,d|c]
   .show f p
structure Rnd (ls:ZB) (ps:hH (lx×lx)) (S:lx->lx->Prop) (f:lx->lx) (r:kj):Prop where
 con:∀z∈ls,cQ S z (f z)
 dn:∀z∈ls,aN z (f z)=jg
 cnt:∀m∈ls,cC S m m->(∀z∈ls,cQ S m z->f z=m)\/r<= ~~~(ps.filter λp=>decide (f p.1=m/\f p.2=m))
def Rnd.nil{a:ZB}{ps:hH (lx×lx)}{S:lx->lx->Prop}:Rnd a ps S id 0:=%[λz _=> .refl z,λz _=>di z|λm b _=> .inr (Xc _)]
def zP{c:Type}{p q:c->ri}:∀{l:hH c},(∀x∈l,p x=iv->q x=iv)-> ~~~(l.filter p)<= ~~~(l.filter q)
 |[],_=>Zi _
 | x::l,h=>by
   let e:=zP (l:=l) λy d=>h y (Zk _ d)
   let f:=h x Zm;rw[Y3,Y3];cases a:p x<;> cases b:q x<;> simp_all
   lia
def zQ{d:Type}{p q:d->ri}:∀{l:hH d},(∀x∈l,p x=iv->q x=iv)->(∃x∈l,q x=iv/\p x=jg)-> ~~~(l.filter p)< ~~~(l.filter q)
 |[],_,h=>(nomatch h.choose_spec.1)
 | x::l,h,⟨y,c,e,f⟩=>by
   let sub:∀y∈l,p y=iv->q y=iv:=λy c=>h y (Zk _ c)
   let g:=h x Zm;rw[Y3,Y3];rcases Yu.mp c with rfl|c
   .let:=zP sub;rw[e,f];simp
    lia
   .let i:=zQ sub %[y,c,e|f];cases a:p x<;> cases b:q x<;> simp_all
    lia
structure Mid (ls:ZB) (S T:lx->lx->Prop) (f g:lx->lx):Prop where
 con:∀z∈ls,cQ S z (g z)
 le:∀z∈ls,aN (f z) (g z)=jg
 don:∀a b,T a b->aN (f a) (g b)=jg/\aN (f b) (g a)=jg
def ei{x y z:lx}(b:aN y x=jg)(a:aN z y=jg):aN z x=jg:=by
 cases h:aN z x
 .rfl
 .by_cases e:y=x
  .rw[e,h]at a;cases a
  .rw[dE h (eY b e)]at a;cases a
def Mid.step{i:ZB}{S T:lx->lx->Prop}{f g:lx->lx}{a b:lx}(h:Mid i S T f g)(ws:∀x y,S x y->x∈i/\y∈i)(s:S a b)(sub:∀x y,T x y->S x y){v:lx}(l:v=if aN (g b) (g a)=iv then g b else g a):
 Mid i S (λx y=>T x y\/(x=a/\y=b)) f (λx=>if x=b then v else if x=a then v else g x):=by
 let%[m|n]:=ws _ _ s;let v1:aN (g a) v=jg:=by
  rw[l];split
  .cases q:aN (g a) (g b)
   .rfl
   .rename_i c;let:=dE c q;rw[di]at this;cases this
  .show di _
 let o:aN (g b) v=jg:=by
  rw[l];split
  .show di _
  .rename_i c;simpa using c
 let p:cQ S a v:=by
  rw[l];split
  .show(cQ.one (.inl s)).trans (h.con b n)
  .show h.con a m
 let d:∀x∈i,aN (g x) (if x=b then v else if x=a then v else g x)=jg:=λx _=>by
  split
  .rename_i e;rw[e];show o
  .split
   .rename_i e;rw[e];show v1
   .show di _
 show%[λz j=>?_,λz j=>ei (d z j) (h.le z j)|λx y t=>?_]
 .split
  .rename_i e;rw[e];show(cQ.one (.inr s)).trans p
  .split
   .rename_i e;rw[e];show p
   .show h.con z j
 .rcases t with t|⟨rfl,rfl⟩
  .let%[r|u]:=ws _ _ (sub _ _ t);show%[ei (d y u) (h.don x y t).1|ei (d x r) (h.don x y t).2]
  .show%[?_|?_]
   .rw[md rfl];show ei v1 (h.le x m)
   .rw[md (rfl:x=x),ite_self];show ei o (h.le y n)
def Rnd.step{n:ZB}{ps:hH (lx×lx)}{S:lx->lx->Prop}{f g:lx->lx}{r:kj}(h:Rnd n ps S f r)(o:∀x y,S x y↔(x,y)∈ps)(ws:∀x y,S x y->x∈n/\y∈n)(M:Mid n S S f g):Rnd n ps S g (r+1):=by
 show%[M.con,λz d=>ei (M.le z d) (h.dn z d)|λm u A=>?_];let i:∀{y},cQ S m y->aN m y=jg->y=m:=λ{y} c l=>by
  by_cases q:y=m
  .show q
  .let:=eY (A.2 _ c) q;rw[l]at this;cases this
 let j:∀z∈n,f z=m->g z=m:=λz d e=>by
  let c:=h.con z d;let l:=M.le z d;rw[e]at c l;show i (c.symm.trans (M.con z d)) l
 rcases h.cnt m u A with q|q
 .show .inl λz d c=>j z d (q z d c)
 .by_cases all:∀z∈n,cQ S m z->f z=m
  .show .inl λz d c=>j z d (all z d c)
  .obtain⟨z,d,c,ne⟩:∃z,z∈n/\cQ S m z/\f z≠m:=by
    simp only[ON]at all;let%[z,d,c|ne]:=all;show%[z,d,c|ne]
   let G:f m=m:=i (h.con m u) (h.dn m u);let%[a,b,s,v,B|ca]:=p7 (P:=λx=>f x=m) c G ne;let H:b∈n:=s.elim (λs=>(ws _ _ s).2) λs=>(ws _ _ s).1
   let C:g b=m:=i ((ca.trans (.one s)).trans (M.con b H)) (by
    rcases s with s|s
    .let:=(M.don a b s).1;rwa[v]at this
    .let:=(M.don b a s).2;rwa[v]at this)
   let E:g a=m:=j a (s.elim (λs=>(ws _ _ s).1) λs=>(ws _ _ s).2) v;let:=zQ (p:=λp:lx×lx=>decide (f p.1=m/\f p.2=m)) (q:=λp=>decide (g p.1=m/\g p.2=m)) (l:=ps) (λp q h=>by
    let e:=Zo h;let:=ws _ _ ((o p.1 p.2).mpr q);show Zf %[j _ this.1 e.1|j _ this.2 e.2]) (by
    rcases s with s|s
    .show%[(a,b),(o a b).mp s,Zf %[E|C]|Zh λh=>B h.2]
    .show%[(b,a),(o b a).mp s,Zf %[C|E]|Zh λh=>B h.1])
   show .inr ⋯
def Ep{a:ZB}{S:lx->lx->Prop}(ws:∀x y,S x y->x∈a/\y∈a):∀(n:kj) {z:lx},wC a z<=n->z∈a->∃m,cC S z m:=λn=>by
 induction n with
 | zero=>
   intro z g b;show%[z,.refl z|λy c=>?_];cases q:aN y z
   .rfl
   .let:=pS (c.within ws b) q
    lia
 | succ n h=>
   intro z g b;by_cases all:∀y,cQ S z y->aN y z=jg
   .show%[z,.refl z|all]
   .simp only[ON]at all;let%[y,c|q]:=all;let e:=c.within ws b;let:=pS e ↑q;let%[m|f]:=h ⋯ e;show%[m,c.trans f.1|λu d=>f.2 u (c.symm.trans d)]
def Rnd.done{i:ZB}{ps:hH (lx×lx)}{S:lx->lx->Prop}{f:lx->lx}(h:Rnd i ps S f ps.length)(n:∀x y,S x y↔(x,y)∈ps)(ws:∀x y,S x y->x∈i/\y∈i){z:lx}(l:z∈i):f z∈i/\cC S z (f z):=by
 let%[m|g]:=Ep ws _ (Zi _) l;let j:=g.1.within ws l;let d:cC S m m:=%[.refl m|λy c=>g.2 y (g.1.trans c)]
 let e:f z=m:=by
  rcases h.cnt m j d with q|q
  .show q z l g.1.symm
  .let all:=hH.length_filter_eq_length_iff.mp (Uz (Yh _ _) q);let p:f m=m:=(cC.one %[h.con m j|λy c=>ei (h.dn m j) (d.2 y c)] d)
   show LD λne=>?_
   let%[a,b,s,r,o|_]:=p7 (P:=λx=>f x=m) g.1.symm p ne;rcases s with s|s
   .show o (Zo (all _ ((n a b).mp s))).2
   .show o (Zo (all _ ((n b a).mp s))).1
 rw[e];show%[j|g]
def wO{c:kj}(h:c≠10):∀{rows:ZB},c∈(ry nl rows).cps.toList↔∃r∈rows,c∈r.cps.toList
 |[]=>by simp[ry,K3]
 |[x]=>by simp[ry]
 | x::y::r=>by
   let a:=wO h (rows:=y::r);rw[show(ry nl (x::y::r)).cps.toList=_ from eV nl x y r,Yr,Yr,a];let:c∉nl.cps.toList:=λq=>h (by simpa using (show c∈[10]from q))
   simp[this]
def Go{z:lx}{g:TG}{j:TS}{D:ic}{a:_LL.St}{H:Hp}(Pv:kj->_LL.St->Hp->Prop)(n:Pv 0 a H)
 (o:∀i c a H,z.cps[i]?∣c->Pv i a H->g (.str (sgn c)) a H λb h=>j {D with nx:=Pv (i+1),ct:=Pv (i+1),bk:=D.nx} b h) (q:∀a H,Pv z.cps.size a H->D.nx a H):
 ∃W:kj->kj->_LL.St->Hp->Prop,(∃m,W 0 m a H)/\∀i m a H,W i m a H->
  ((Its z).stop i H/\D.nx a H)\/((Its z).go i H/\∃N:_LL.St->Hp->Prop,(∀d e,N d e->∃l,l<m/\W (i+1) l d e)/\∀x e,(Its z).yld i H x e->g x a e λb h=>j {D with nx:=N,ct:=N,bk:=D.nx} b h):=by
 show%[λi m a H=>m=z.cps.size-i/\i<=z.cps.size/\Pv i a H,%[z.cps.size,by simp,Xc _|n]|?_];intro i m a H %[rfl,hi|p];by_cases f:i<z.cps.size
 .show .inr %[f,Pv _,λd e r=>%[z.cps.size-(i+1),⋯,rfl,f|r]|λx e y=>?_];let%[rfl,c,s|rfl]:=y;show o i c a _ s p
 .obtain rfl:i=z.cps.size:=by lia
  show .inl %[Zi _|q a H p]
def zR{p:kG×lx×ZB}{z:lx}:z∈lyr p↔∃c,Let p.2.2 c/\z=lnS p.2.1 (sgn c):=by
 constructor
 .intro h;let%[y,b|rfl]:=Xm h;let%[c,a|rfl]:=Xm (aX.mp b);show%[c,eZ.mp a|ρ]
 .rintro⟨c,a,rfl⟩;show iI a
def uQ{H:Hp}:∀{cs:ZH},bO H cs-> ~~~(cs.flatMap lyr)<=26* ~~~cs
 |[],_=>Zi _
 | q::cs,h=>by
   let b:=uQ (cs:=cs) λp a=>h p (Zk _ a)
   let: ~~~(lyr q)<=26:=by
    unfold lyr;rw[Z6];show j7 (jz (h q Zm).2.2.sign)
   rw[Oh,Z9,Zr]
   lia
abbrev qL(q:kG×ZM):ri:=decide (q.2[0]?∣.str (!"same"))
abbrev prT(q:kG×ZM):lx×lx:=match q.2 with|[_,.str a,.str b]=>(a,b)|_=>(K3,K3)
def zS{c:ZB}{q:kG×ZM}(h:m7 c q.2)(e:qL q=iv):∃a b,q.2=[.str (!"same"),.str a,.str b]/\a∈c/\b∈c/\prT q=(a,b):=by
 let e:=Zo e;rcases h with⟨w,a,b,h,_,d,f,_⟩|⟨w,a,y,h,hw,_⟩
 .rw[h]at e;obtain rfl:w=pw "same":=V.str.inj (Za e);show%[a,b,h,d,f|by unfold prT;rw[h]]
 .rw[h]at e;let:=V.str.inj (Za e);rw[this]at hw;show ow hw (!1)
def Gp{H:Hp}{f:ZB}{qs:ZN}(h:cW H f qs)(a b:lx):ba qs a b↔(a,b)∈(qs.filter qL).map prT:=by
 constructor
 .rintro⟨q,c,e⟩;show Xn %[q,on.mpr %[c|by unfold qL;rw[e];show Zf rfl]|by unfold prT;rw[e]]
 .intro m;let%[q,c|e]:=Xm m;let%[d|g]:=on.mp c;let%[x,y,i,_,_|j]:=zS (h q d).2 g;rw[j]at e;cases e;show%[q,d|i]
inductive wP
 | mk (l m:kG) (cs:ZH) (qs:ZN):vs=[.ref l,.ref m]->H l<*bA cs->H m∣.lst (qs\0)->bO H cs->cW H (cs.flatMap lyr) qs-> ~~~cs<=3-> ~~~qs<=40->(∀d H' ms f,ah H H'->H d=hX->H' d∣.dK (NmD ms f)->ms.Nodup->(∀z,z∈ms↔z∈cs.flatMap lyr)->(∀z∈ms,f z∈ms/\cC (ba qs) z (f z))->Q (.ref d) H')->wP vs H Q E0
def wQ(T:Txt K mg):↥1 "_law_homes" ["_law_cuts_here","_law_sayings"] wP:=by
 .exists T.bw,bj,b4,hr,%[l,m,cs,qs,rfl,hl,hm,ca,sa,c3,bf|kk];let qm: ~~~(qs\0)= ~~~qs:=Z6 _;let a2: ~~~(bA cs)= ~~~cs:=Z6 _;show%[_,%["KCG2yCQT0jLJ3LJ4cEQ]=4J5EMN~75UEqFzFz3U52FzFz3U5OC~S6tsh?1T1b0?2&NgV0DU0CQ$AefA6BBJ7EQT6jLJ8LJ9LJ:cCG;~A~|AW29AW2r:BCqr;29Eqr;2r:EI2",bj.nd,↑(["_law_saying"],[]),↑["_law_saying"]|hr]|?_]
  change aU _ _ _ [!l,!m,hX,hX,hX,hX,hX,hX,hX,hX,hX,hX] H;show aj λD1 k1 _=>?_
  lk;intro d fd;show k1 _ _ (aj λD2 k2 _=>aw λO hK=>?_);let s1:=ah.Qb (o:= .dK []) fd;lk;show%[%[_|Qc.of (s1 _ _ hl)]|hK _ _ (eC (λi B L=>E4 λo3 o4 Y n=>A5 (B=[!l,!m,!d,o3,o4,Y,hX,hX,hX,hX,hX,hX]) (ah H L) (L d∣.dK (NmD n id)) n.Nodup (∀z,z∈n↔z∈(cs.take i).flatMap lyr))
   %[_,_,_,[],ρ,s1,aa,X1|λz=>Nz] (λi B L _ ⟨_,_,_,_,_,q,_,_,_⟩=>Qc.of (q _ _ hl)) ?_ ?_)]
  .intro i x B H1 hx %[o3,o4,Y,n,rfl,U,hd,nd|mem];let hi:i< ~~~cs:=by rw[<-a2];show(Xj hx).1
   obtain⟨q,hq,rfl⟩:∃q,cs[i]?∣q/\x=V.ref q.1:=by
    unfold bA at hx;rw[Zl,Z4 hi]at hx;show%[cs[i],Z4 hi|(Za hx).symm]
   let a3:=Z8 hq;let%[a4,bl|bm]:=ca q a3;let tk:cs.take (i+1)=cs.take i++[q]:=by rw[X7,hq];rfl
   let tx:∀c,c≠10->c≠46->(c∈(ry nl q.2.2).cps.toList↔Let q.2.2 c):=λc J N=>by
    rw[wO J];show%[λh=>%[N|h]|λh=>h.2]
   let b5:=g9 bl
   generalize ry nl q.2.2=tt at tx a4
   show%[_,SqT.of (U _ _ a4),ρ,_,_,ρ,_,_,ρ,ρ|?_];show az λD3 k3 _=>aw λO hK=>?_
   lk;show hK _ _ (Go (λj B L=>E2 λY n=>A5 (B=[!l,!m,!d,hY (.str q.2.1),-tt,Y,hX,hX,hX,hX,hX,hX]) (ah H L) (L d∣.dK (NmD n id)) n.Nodup (∀z,z∈n↔z∈(cs.take i).flatMap lyr\/∃c∈tt.cps.toList.take j,c≠10/\c≠46/\z=lnS q.2.1 (sgn c)))
    %[_,n,rfl,U,hd,nd|λz=>by rw[mem];simp] ?_ ?_)
   .intro j c B H2 hc %[Y,n,rfl,U,hd,nd|mem];let C:tt.cps.toList[j]?∣c:=↑hc
    let ka:tt.cps.toList.take (j+1)=tt.cps.toList.take j++[c]:=by rw[X7,C];rfl
    change jZ _ _ _ _ [!l,!m,!d,hY (.str q.2.1),-tt,hY (.str (sgn c)),hX,hX,hX,hX,hX,hX] H2;show az λD4 k4 _=>?_
    lk;let bt: ~~~n<=100:=by
     let:=_ST.nodup_sub nd (m:=cs.flatMap lyr) λz hz=>by
      rcases(mem z).mp hz with h|⟨c,hc,J,N,rfl⟩
      .let%[p,hp|e]:=Lf.mp h;show Lf.mpr %[p,Yv hp|e]
      .show Lf.mpr %[q,a3|zR.mpr %[c,(tx c J N).mp (Yv hc)|rfl]]
     let:=uQ ca
     lia
    rw[show(!!(KE (!".\n") (sgn c) 0 (!".\n").length 1).isEmpty)=!decide (c∈(!".\n").cps.toList)from tI not (tO _ _),iJ];let a5:c∈(!".\n").cps.toList↔c=46\/c=10:=by
     rw[show(!".\n").cps.toList=[46,10]from rfl];simp
    let al: ~~~q.2.1+(!".").length<=mv:=by rw[PySem.sizeLine_eq];change ~~~q.2.1+1<=_;lia
    let an:(q.2.1++pw ".").length+ ~~~(sgn c)<=mv:=by rw[PySem.sizeLine_eq,Om];change ~~~q.2.1+1+1<=_;lia
    show .inl (bT (λh=>?_) λh=>?_)
    .let h: ¬ (c=46\/c=10):=λe=>by rw[Zf (a5.mpr e)]at h;cases h
     let a6:∀z,(z∈(cs.take i).flatMap lyr\/∃c∈tt.cps.toList.take (j+1),c≠10/\c≠46/\z=lnS q.2.1 (sgn c))↔z∈n\/z=lnS q.2.1 (sgn c):=λz=>by
      rw[mem,ka]
      constructor
      .rintro(h|⟨c',C,J,N,e⟩)
       .show .inl (.inl h)
       .rcases Xk C with u|u
        .show .inl (.inr %[c',u,J,N|e])
        .rw[Xl u]at e;show .inr e
      .rintro((h|⟨c',C,J,N,e⟩)|e)
       .show .inl h
       .show .inr %[c',Ys _ C,J,N|e]
       .show .inr %[c,Yt _ Zm,λe=>h (.inr e),λe=>h (.inl e)|e]
     show%[al,an,al,an,_,fE.k (k:=lp (lnS q.2.1 (sgn c))) hd (by unfold NmD;rw[Z6];show aB ⋯)|?_];by_cases ae:lnS q.2.1 (sgn c)∈n
     .show k4 _ _ %[_,n,rfl,ah.set U fd,?_,nd|λz=>by rw[a6];show%[.inl|λh=>h.elim id λe=>e▸ae]];rw[aa,pR ae];show tI (λf=>hY (HO.dK (NmD n f))) (funext λx=>by by_cases e:x=lnS q.2.1 (sgn c)<;> simp[e])
     .show k4 _ _ %[_,n++[lnS q.2.1 (sgn c)],rfl,ah.set U fd,by rw[aa,Ee ae],?_|λz=>by rw[a6,Yr,Yw]];rw[Yy];show%[nd,by simp|λa ha b hb e=>ae (by rw[<-Xl hb,<-e];show ha)]
    .show k4 _ _ %[_,n,rfl,U,hd,nd|λz=>?_];let h:c=46\/c=10:=by
      rw[<-a5];simpa using h
     rw[mem,ka];show PP Nz %[λ⟨c',C,r⟩=>%[c',Ys _ C|r]|λ⟨c',C,J,N,e⟩=>?_];rcases Xk C with u|u
     .show%[c',u,J,N|e]
     .rw[Xl u]at J N;show(h.elim N J).elim
   .intro B H2 %[Y,n,rfl,U,hd,nd|mem];show k3 _ _ %[_,_,_,n,rfl,U,hd,nd|λz=>?_];rw[mem,tk,NO,Yr];show PP Nz ?_;rw[show hH.flatMap lyr [q]=lyr q by simp,zR];let e:tt.cps.toList.take tt.cps.size=tt.cps.toList:=Zn ∅;rw[e]
    constructor
    .rintro⟨c,hc,J,N,e⟩;show%[c,(tx c J N).mp hc|e]
    .rintro⟨c,hc,e⟩;let bb:c≠10:=by
      let%[_,r,hr|b0]:=hc;show CH (Mu.mp (bm.sign r hr) c b0)
     show%[c,(tx c bb hc.1).mpr hc,bb,hc.1|e]
  .intro B H1 %[o3,o4,Y,n,rfl,U,hd,nd|mem];rw[a2,Xa]at mem;show k2 _ _ (aj λD3 k3 _=>?_);lk;show aK λO hK=>?_
   lk;let bc:=U _ _ hm;show%[%[_|Qc.of bc]|hK _ _ λF hF=>?_];show cP (λj vs B H7=>(∃o1,B=[o1])/\ah H1 H7/\H7 F<*vs/\vs=((qs.take j).filter qL)\0)
    %[%[hX|rfl],ah.Qb hF,aa|rfl] (λ_ _ _ H7 ⟨_,U,_⟩=>U _ _ bc) ?_ ?_
   .intro j vs B H8 hj %[%[o1|rfl],s7,bd|hv];let%[ht|so]:=sa _ (Yc hj);let st:=SqT.of (K:=K) (s7 _ _ (U _ _ ht));let fe:∀b:ri,qL qs[j]=b->((qs.take (j+1)).filter qL)\0=vs++if b=iv then [V.ref qs[j].1]else []:=λb hb=>by
     rw[hv,X7,Z4 hj,Y2,Zd]
     congr 1
     change Rh _ (MT qL [qs[j]])=_;rw[Y3,hb];cases b<;> rfl
    let vl: ~~~vs<mv:=by rw[hv,Z6];show aB (n7 (Yh _ _) (by rw[Yk];lia))
    obtain⟨w,r,ew⟩:∃w r,qs[j].2=V.str w::r:=by
     rcases so with⟨w,a,b,e,_⟩|⟨w,a,y,e,_⟩
     .show%[_,_|e]
     .show%[_,_|e]
    rw[ew]at st;let is:qL qs[j]=decide (w=!"same"):=by
     unfold qL;rw[ew];simp
    lk;show%[_,st,.str w,(show atI (V.str w::r) ((0:kj):pp)∣.str w from bG rfl),ρ|bT (λc=>CK.mk hj bd vl %[%[_|ρ],ah.set s7 hF,aa|?_]) λc=>CN.mk hj %[%[_|ρ],s7,bd|?_]]
    .rw[fe iv (by rw[is];simpa using c)];rfl
    .rw[fe jg (by rw[is];simpa using c)];simp
   intro vs B H3 %[_,s3,ag|rfl];rw[Zn (Zi _)]at ag
   generalize as:qs.filter qL=us at ag
   let pI:=Gp sa;rw[as]at pI;let ul: ~~~us<=40:=by rw[<-as];show n7 (Yh _ _) bf
   let tu:∀q∈us,H q.1&&&q.2/\∃a b,q.2=[.str (!"same"),.str a,.str b]/\a∈n/\b∈n/\prT q=(a,b):=λq hq=>by
    rw[<-as]at hq;let%[J|N]:=on.mp hq;let%[a,b,e,ha,hb|h]:=zS (sa q J).2 N;show%[(sa q J).1,a,b,e,(mem a).mpr ha,(mem b).mpr hb|h]
   let ws:∀a b,ba qs a b->a∈n/\b∈n:=λa b h=>by
    let:=jw sa a b h;show%[(mem a).mpr this.1|(mem b).mpr this.2]
   let bt: ~~~n<=100:=by
    let:=_ST.nodup_sub nd (m:=cs.flatMap lyr) λz hz=>(mem z).mp hz
    let:=uQ ca
    lia
   let um: ~~~(us\0)= ~~~us:=Z6 _;show k3 _ _ (aj λD4 k4 _=>aw λO hK=>?_);lk;let b1:=U.trans s3;show%[~~~us,.inl %[_,Qc.of ag|um.symm],⋯,⋯|hK _ _ (b7 (λi B L=>E6 λo7 o8 o9 I G f=>A5 (B=[!l,!m,!d,o3,o4,Y,!F,o7,o8,o9,I,G]) (ah H L) (L F∣.lst (us\0)) (L d∣.dK (NmD n f)) (Rnd n (us.map prT) (ba qs) f i))
    %[_,_,_,_,_,id,ρ,b1,ag,s3 _ _ hd|.nil] ?_ ?_)]
   .intro i B H5 hi %[o7,o8,o9,I,G,f,rfl,s5,a0,a1|R];change tf _ _ _ _ [!l,!m,!d,o3,o4,Y,!F,hY (.int (0+i)),o8,o9,I,G] H5;show az λD6 k6 _=>aw λO hK=>?_
    lk;show%[%[_|Qc.of a0]|hK _ _ (bD (λj B L=>E6 λo7 o8 o9 I G g=>A5 (B=[!l,!m,!d,o3,o4,Y,!F,o7,o8,o9,I,G]) (ah H L) (L F∣.lst (us\0)) (L d∣.dK (NmD n g)) (Mid n (ba qs) (λa b=>(a,b)∈(us.take j).map prT) f g))
     %[_,_,_,_,_,f,ρ,s5,a0,a1,R.con,λz _=>di _|λa b h=>(nomatch h)] (λj B L ⟨_,_,_,_,_,_,_,_,q,_,_⟩=>q) ?_ ?_)]
    .intro j q B H6 hq %[o7,o8,o9,I,G,g,rfl,s6,ab,ac|M];let be:=Z8 hq;let%[q1,a,b,e,ha,hb|pe]:=tu q be;let st:=SqT.of (K:=K) (s6 _ _ q1);rw[e]at st;let get:∀y∈n,cr H6 d (.str y) (hY (.str (g y))):=λy hy=>by
      let:=cr.k (k:=lp y) ac;rw[ko hy]at this;show this
     let b2:ba qs a b:=(pI a b).mpr (Xn %[q,be|pe]);show%[_,st,ρ,_,_,ρ,_,_,ρ,_,_,ρ,ρ|?_];change aU _ _ _ [!l,!m,!d,o3,o4,Y,!F,o7,hY (.str (!"same")),-a,-b,G] H6;show aj λD7 k7 _=>?_
     lk;show%[_,get a ha,_,get b hb|k7 _ _ (aj λD8 k8 _=>?_)]
     generalize hv:(if aN (g b) (g a)=iv then g b else g a)=v
     let hn:∀g,~~~(NmD n g)<mv:=λg=>by unfold NmD;rw[Z6];show aB ⋯
     let P1:=fE.k (k:=lp a) (v:= .str v) ac (hn g);rw[pR ha]at P1;let b3:F≠d:=λc=>by rw[c,ac]at ab;cases ab
     lk;show%[_,P1|k8 _ _ (az λD9 k9 _=>?_)];let P2:=fE.k (k:=lp b) (v:= .str v) (H:=Qb H6 d (.dK (NmD n λx=>if x=a then v else g x))) aa (hn _);rw[pR hb,EB]at P2;lk;show%[_,P2|k9 _ _ %[_,_,_,_,_,_,ρ,ah.set s6 fd,(ao b3).trans ab,aa|?_]];let M2:=M.step ws b2 (λx y h=>(pI x y).mpr ((Uh prT (TL j us)) h)) hv.symm;show%[M2.con,M2.le|λx y t=>M2.don x y ?_];let t:(x,y)∈(us.take (j+1)).map prT:=t;rw[X7,hq,Zd]at t;rcases Xk t with z|z
     .show .inl z
     .let z:(x,y)=prT q:=↑z
      rw[pe]at z;cases z;show .inr %[rfl|rfl]
    .intro B H6 %[o7,o8,o9,I,G,g,rfl,s6,ab,ac|M];rw[Zn (Zi _)]at M;show k6 _ _ %[_,_,_,_,_,g,rfl,s6,ab,ac|R.step pI ws %[M.con,M.le|λa b s=>M.don a b ((pI a b).mp s)]]
   .intro B H5 %[o7,o8,o9,I,G,f,rfl,s5,a0,a1|R];show k4 _ _ ?_;lk;let R:Rnd n (us.map prT) (ba qs) f (us.map prT).length:=by rw[Z6];simpa using R
    show kk d H5 n f s5 fd a1 nd mem λz hz=>R.done pI ws hz
def KW{rows:ZB}{i n:kj}(h:i<=n){k:ZB}(a:k∈bN rows i):k∈bN rows n:=by
 unfold bN at a ⊢;let%[j,b|e]:=Lf.mp a;show Lf.mpr %[j,wh.mpr (Zg (wh.mp b) h)|e]
def Gq{p:kj×kj}{k:ZB}(h:gH p∣k):[p].filterMap gH=[k]:=by rw[Y1,h];rfl
def Gr{p:kj×kj}(h:gH p=hX):[p].filterMap gH=[]:=by rw[Y1,h];rfl
inductive wR
 | mk (n:lx) (rows:ZB):vs=[.str n,.str (ry nl rows)]->cH rows-> ~~~n<=8->(∀r H' (ts:ZG),ah H H'->H r=hX->H' r∣.lst (ts\0)->aF H' ts->ts\2=(bN rows (~~~rows-1)).map (lI n)-> ~~~ts<=1600->Q (.ref r) H')->wR vs H Q E0
def Gu(c e:kj):inV (V.str ⟨([c].toArray)⟩) [V.str (!"."),V.str ⟨([e].toArray)⟩]=decide (c=46\/c=e):=by
 let d:((⟨([c].toArray)⟩:lx)=!".")↔c=46:=%[λh=>by let:[c]=[46]:=tI (λz:lx=>z.cps.toList) h;show(Nn this).1|λh=>by rw[h];rfl]
 let f:((⟨([c].toArray)⟩:lx)=⟨([e].toArray)⟩)↔c=e:=%[λh=>by let:=tI (λz:lx=>z.cps.toList) h;simpa using this|λh=>by rw[h]]
 simp only[inV,Zw,hH.any_nil,eqV];by_cases a:c=46
 .subst a;rw[show(pw "."==(⟨([46].toArray)⟩:lx))=iv by decide +kernel];simp
 .rw[show(pw "."==(⟨([c].toArray)⟩:lx))=jg from K5.mpr λh=>a (d.mp h.symm)];by_cases b:c=e
  .subst b;simp
  .rw[show((⟨([e].toArray)⟩:lx)==⟨([c].toArray)⟩)=jg from K5.mpr λh=>b (f.mp h.symm)];simp[a,b]
def p8(T:Txt K mg):↥1 "_law_cut_ties" ["_law_name","_law_text"] wR:=by
 .exists T.bu,cf,b9,hr,%[n,rows,rfl,a,ca|kk];let%[wd,w1,w2|a3]:=a.wide;let b1:=a.text;let a4:=a.split;let cd:=a.high;let b2:=a.pos
  generalize ry nl rows=z at b1 a4
  show%[_,%["KCG2~,~.1AUBCG3RBCQ~;A2A~h2~iD~jBjLJ4LJ5cEQ$AefA4BBJ6EMN~7}46dAUA}56BEZpm3AdAFzFz0U}46AFzFz0U}56A0BBOEI3"|cf.nd]|?_]
  change aU _ _ _ [-n,-z,hX,hX,hX,hX,hX] H;show aj λD1 k1 _=>?_
  lk;show%[!1,n7 (by lia: ~~~z+2<=5000) (!1)|λR hR=>k1 _ _ ?_];rw[show(!"\n")=nl from rfl,a4];let sR:=ah.Qb (o:= .lst (rows\3)) hR;let gR:Qb H R (.lst (rows\3)) R=_:=aa
  generalize Qb H R _=H1 at sR gR
  show aj λD2 k2 _=>?_
  lk;show%[Xc _|λL hL=>k2 _ _ (aj λD3 k3 _=>aw λa5 hK=>?_)];let sL:=sR.trans (ah.Qb (o:= .lst []) hL);let gL:Qb H1 L (.lst []) L<*[]:=aa;let M:=ah.Qb (o:= .lst []) hL _ _ gR;let fL:=sR.free hL
  generalize Qb H1 L _=g at sL gL M
  lk;show%[_,Qc.of M|λp hp=>?_];rw[sM rows (Mj.mp b2)];let s3:=ah.Qb (o:= .lst ((rows.drop 1)\3)) hp;let N:=s3 _ _ M;let a6:=s3 _ _ gL;let O:Qb g p (.lst ((rows.drop 1)\3)) p<*(rows.drop 1)\3:=aa;let bb:=sL.trans s3;let b3:R≠L:=λe=>by rw[e,hL]at gR;cases gR
  let b4:p≠L:=λe=>by rw[e,gL]at hp;cases hp
  generalize Qb g p _=H3 at s3 N a6 O bb
  show%[%[_|Qc.of N],%[_|Qc.of O]|hK _ _ (wk (xs:=rows\3) (ys:=(rows.drop 1)\3) (λi G l=>A5 (E3 λo4 o5 I=>G=[-n,-z,!R,!L,o4,o5,I]) (ah H l) (l R<*rows\3) (l p<*(rows.drop 1)\3) (∃ps:ZG,A4 (l L∣.lst (ps\0)) (aF l ps) (ps\2=(bN rows i).map (lI n)) (~~~ps<=40*i))) %[%[_,_,_|ρ],bb,N,O,[],a6,fU _,ρ|Xc _] (by rw[Z6,Z6,Yg];lia) (λi G l _ h=>%[Qc.of h.3|Qc.of h.4]) ?_ ?_)]
  .intro i x y TT G l hx hy %[%[o4,o5,I|rfl],sm,bc,bd,ps,U,Y,B|m] hT;rw[Zl]at hx hy;let%[u,hu|rfl]:=Ld.mp hx;let%[r,C|rfl]:=Ld.mp hy;rw[N3,Ss]at C;let ce:i+1< ~~~rows:=(Xj C).1;let ul:u.cps.size=wd:=a3 u (Z8 hu);let rl:r.cps.size=wd:=a3 r (Z8 C);let d:=ah.Qb (o:= .tup [V.str u,V.str r]) hT;let be:Qb l TT (.tup [V.str u,V.str r]) TT&&&[V.str u,V.str r]:=aa;let bf:=d _ _ bc;let bl:=d _ _ bd;let bm:=d _ _ U;let J:aF (Qb l TT (.tup [V.str u,V.str r])) ps:=aA Y λb z e=>d _ _ e
   let bt:=sm.trans d
   generalize Qb l TT _=HT at d be bf bl bm J bt
   let g1:rows.getD i ⟨([].toArray)⟩=u:=by rw[Zc,hu];rfl
   let g2:rows.getD (i+1) ⟨([].toArray)⟩=r:=by rw[Zc,C];rfl
   let b5:bN rows (i+1)=bN rows i++(L8 u.cps.toList r.cps.toList).filterMap gH:=by rw[lF,g1,g2];rfl
   show%[_,SqT.of be,ρ,_,_,ρ,_,_,ρ,ρ|?_];change tf _ _ _ _ [-n,-z,!R,!L,-u,-r,I] HT;show az λD4 k4 _=>aw λa5 hK=>?_
   lk;let us: ~~~u=wd:=ul;show%[by rw[us];show Ye (aB ⋯),⋯,⋯|?_];rw[us,Ny];show hK _ _ (b7 (λj G g=>∃I,A5 (G=[-n,-z,!R,!L,-u,-r,I]) (ah H g) (g R<*rows\3) (g p<*(rows.drop 1)\3) (∃ps:ZG,A4 (g L∣.lst (ps\0)) (aF g ps) (ps\2=(bN rows i++((L8 u.cps.toList r.cps.toList).take j).filterMap gH).map (lI n)) (~~~ps<=40*i+j)))
    %[_,rfl,bt,bf,bl,ps,bm,J,by rw[B];simp|m] ?_ ?_)
   .intro j G g hj %[I,rfl,ab,ag,al,qs,an,tq,qe|ql];change jZ _ _ _ _ [-n,-z,!R,!L,-u,-r,hY (.int (0+j))] g;rw[Nx];obtain⟨c,hc⟩:∃c,u.cps[j]?∣c:=%[u.cps[j]|by simp[show j<u.cps.size by lia]]
    obtain⟨e,he⟩:∃e,r.cps[j]?∣e:=%[r.cps[j]|by simp[show j<r.cps.size by lia]]
    let nx:=pD u r j c e hc he;let ac:atI u.cps.toList (j:pp)∣c:=bG ↑hc;let ae:atI r.cps.toList (j:pp)∣e:=bG ↑he;show az λD5 k5 _=>?_
    lk;let l1: ~~~n+(!".").length<=mv:=cE (by change ~~~n+1<=_;lia);let l2:∀c:kj,(n++pw ".").length+ ~~~(⟨([c].toArray)⟩:lx)<=mv:=λc=>cE (by
     let e:(n++pw ".").length= ~~~n+(!".").length:=PL;let e1: ~~~(⟨([c].toArray)⟩:lx)=1:=rfl;let e2:(!".").length=1:=rfl
     lia)
    let lu: ~~~u<=mv:=by rw[us];show Ye (aB ⋯)
    let lr: ~~~r<=mv:=by rw[show ~~~r=wd from rl];show Ye (aB ⋯)
    show%[lu,c,ac,lr,e,ae,#[2]|λt ht=> .inr %[_,.inr (SqT.of aa),ρ,ρ|?_]];let st:=ah.Qb (o:= .tup [V.str (!"."),V.str ⟨([e].toArray)⟩]) ht;let as:=aA tq λb z e=>st _ _ e
    let v:=st _ _ an;let a0:=ab.trans st;let a1:=st _ _ ag;let a2:=st _ _ al
    generalize Qb g t _=H4 at st as v a0 a1 a2
    let stay:gH (c,e)=hX->(bN rows i++((L8 u.cps.toList r.cps.toList).take (j+1)).filterMap gH).map (lI n)=qs\2:=λe=>by rw[qe,<-nx,Y0,Gr e,Zx]
    rw[show inV (V.str ⟨([c].toArray)⟩) [V.str (!"."),V.str ⟨([e].toArray)⟩]=decide (c=46\/c=e)from Gu c e];show bT (λh=>?_) λh=>?_
    .let h: ¬ (c=46\/c=e):=↑h
     show%[tyL (Qc.of v),l1,lu,c,ac,l2 c,l1,lr,e,ae,l2 e,#[3]|λq hq=>?_];rw[iJ,iJ];let sq:=ah.Qb (o:= .tup [V.str (lnS n ⟨([c].toArray)⟩),V.str (lnS n ⟨([e].toArray)⟩),V.str n]) hq;let b0:=sq _ _ v;let b6:q≠L:=λe=>by rw[e,v]at hq;cases hq
     show%[_,b0,by rw[Z6];show aB ⋯|k5 _ _ %[_,ρ,ah.set (a0.trans sq) fL,(ao b3).trans (sq _ _ a1),(ao b4).trans (sq _ _ a2),qs++[(q,[lnS n ⟨([c].toArray)⟩,lnS n ⟨([e].toArray)⟩,n])],by rw[aa,Zd];rfl,fh (aA (aA as λb z e=>sq _ _ e) (uJ b0)) ∅ ((ao b6).trans aa),?_|by rw[Z9];show X6 ql]];rw[<-nx,Y0,Gq (md %[λe=>h (.inl e)|λe=>h (.inr e)]),<-Ze,Zd,Zd,qe];rfl
    .show k5 _ _ %[_,rfl,a0,a1,a2,qs,v,as,(stay (kw λq=>?_)).symm|⋯];rw[Zh (λe=>e.elim q.1 q.2)]at h;show h rfl
   .intro G g %[I,rfl,ab,ag,al,qs,an,tq,qe|ql];rw[Zn (by rw[Se];simp;lia),<-b5]at qe;show k4 _ _ %[%[_,_,_|rfl],ab,ag,al,qs,an,tq,qe|⋯]
  .intro G l %[%[o4,o5,I|rfl],sm,bc,bd,ps,U,Y,B|m];rw[Z6,Yg]at B m;show k3 _ _ ?_;lk;show kk L l ps sm fL U Y B ⋯
inductive wS
 | mk (l m:kG) (cs:ZH) (qs:ZN) (ls:ZB):vs=[.ref l,.ref m]->H l<*bA cs->H m∣.lst (qs\0)->bO H cs->cW H ls qs-> ~~~cs<=3-> ~~~qs<=40->(∀r H' (ts:ZG),ah H H'->H' r∣.lst (ts\0)->aF H' ts->ts\2=cx cs++cy qs qs.length->Q (.ref r) H')->wS vs H Q E0
def yF(T:Txt K mg):↥2 "_law_ties" ["_law_cuts_here","_law_sayings"] wS:=by
 .exists T.bv,df,a3,hr,%[l,m,cs,qs,ls,rfl,hl,hm,ca,sa,c3,a4|kk];let O: ~~~(bA cs)= ~~~cs:=Z6 _;show%[_,(QSs.h (ai (aH 2 df.nd rfl (bI ak))
   (ai (bJ Op rfl rfl (cG (K:=K) rfl ↑0) (eO (K:=K) rfl rfl rfl (gsE rfl (aG 3 df.nd rfl) (gsE rfl (aG 4 df.nd rfl) cz)))
   (ap (aH 2 df.nd rfl (opE GR ↑2 (aJ (p8 T) hr rfl #[↑3,↑4])))))
   (ai (bJ Op rfl rfl (vh (K:=K) rfl rfl T.af rfl #[↑1]) (eO (K:=K) rfl rfl rfl (gsE rfl (aG 5 df.nd rfl) (gsE rfl (aG 6 df.nd rfl) cz)))
   (ap (ifS (bv c7 rfl (↑6>>av) cK)
    (ap (bC rfl (bmO (K:=K) Ng PySem.F.slot_list_append PySem.F.type_list_append a7 rfl ↑2 #[(eJ #[(↑6>>av),(↑6>>av),opE dO cK (ctO ⟨tD⟩ T.ac Ub rfl #[↑5])])])))
    aP)))
   (ap (aL ↑2))))))|?_]
  change aU _ _ _ [!l,!m,hX,hX,hX,hX,hX] H;show aj λD1 k1 _=>?_
  lk;show%[Xc _|λL hL=>k1 _ _ (aj λD2 k2 _=>aw λU hK=>?_)];let sL:=ah.Qb (o:= .lst []) hL;lk;show%[%[_|Qc.of (sL _ _ hl)]|hK _ _ (eC (λi u c=>E4 λL Y o4 ts=>A7 (u=[!l,!m,!L,Y,o4,hX,hX]) (ah H c) (H L=hX) (c L∣.lst (ts.map λt:kG×ZB=>V.ref t.1)) (aF c ts) (ts\2=cx (cs.take i)) (~~~ts<=1600*i))
   %[L,_,_,[],ρ,sL,hL,aa,fU _,ρ|Xc _] (λi u c _ ⟨_,_,_,_,_,q,_,_,_,_,_⟩=>Qc.of (q _ _ hl)) ?_ ?_)]
  .intro i x u H1 B %[L,Y,o4,ts,rfl,n,fL,C,G,g|tl];let hi:i< ~~~cs:=by rw[<-O];show(Xj B).1
   obtain⟨q,hq,rfl⟩:∃q,cs[i]?∣q/\x=V.ref q.1:=by
    unfold bA at B;rw[Zl,Z4 hi]at B;show%[cs[i],Z4 hi|(Za B).symm]
   let%[an,as|a0]:=ca q (Z8 hq);show%[_,SqT.of (n _ _ an),ρ,_,_,ρ,_,_,ρ,ρ|?_];change qo _ _ _ [!l,!m,!L,hY (.str q.2.1),hY (.str (ry nl q.2.2)),hX,hX] H1;show az λD3 k3 _=>?_
   lk;show%[_,_,ρ,a0,g9 as|λr H2 us s2 fr hr tu ue ul=>%[_,s2 _ _ C,_,hr,by rw[Z6,Z6];show Ye (aB ⋯)|λp I=>k3 _ _ %[p,_,_,ts++us,ρ,(n.trans s2).trans (ah.Qb I),(n.trans s2).free I,by rw[aa,Zd],aA (pG (aA G λb z e=>s2 _ _ e) tu) (λb z e=>ah.Qb I _ _ e),by rw[Zd,g,ue,lJ hq]|by rw[Z9];lia]]]
  .intro u H1 %[L,Y,o4,ts,rfl,n,fL,C,G,g|tl];rw[O,Xa]at g;show k2 _ _ (aj λD3 k3 _=>aw λU hK=>?_);lk;let ab: ~~~(qs\0)= ~~~qs:=Z6 _;show%[_,Qc.of (n _ _ hm)|hK _ _ (ja (λi u c=>E2 λo5 o6=>A3 (u=[!l,!m,!L,Y,o4,o5,o6]) (ah H c) (∃ts:ZG,A4 (c L∣.lst (ts\0)) (aF c ts) (ts\2=cx cs++cy qs i) (~~~ts<=4800+i)))
    %[_,_,ρ,n,ts,C,G,by rw[g,show cy qs 0=[]from rfl,Zx]|⋯] (λi u c _ ⟨_,_,_,q,_⟩=>Qc.of (q _ _ hm)) ?_ ?_)]
   .intro i x TT u c B %[o5,o6,rfl,n,ts,J,G,g|tl] hT;let hi:i< ~~~qs:=by rw[<-ab];show(Xj B).1
    obtain⟨q,hq,rfl⟩:∃q,qs[i]?∣q/\x=V.ref q.1:=by
     rw[Zl,Z4 hi]at B;show%[qs[i],Z4 hi|(Za B).symm]
    let s0:=ah.Qb (o:= .tup [.int i,.ref q.1]) hT;let j:ah H (Qb c TT (.tup [.int i,.ref q.1])):=n.trans s0;let ac:Qb c TT (.tup [.int i,.ref q.1]) TT&&&[.int i,.ref q.1]:=aa;let d:=s0 _ _ J;let v:=aA G λb z e=>s0 _ _ e
    generalize Qb c TT _=HT at j ac d v
    let ae:=sa q (Z8 hq);let st:=SqT.of (K:=K) (j _ _ ae.1);let M:=eS hq;show%[_,SqT.of ac,ρ,_,_,ρ,_,_,ρ,ρ|?_];change jZ _ _ _ _ [!l,!m,!L,Y,o4,hY (.int i),hY (.ref q.1)] HT;show az λD4 k4 _=>?_
    lk;rcases ae.2 with⟨wd,a,b,e,hw,ma,mb,_⟩|⟨wd,a,y,e,hw,_⟩
    .rw[e]at st M;show%[_,st,_,ρ,ρ|bT (λN=>?_) λN=>?_]
     .rw[show gM i [V.str wd,V.str a,V.str b]∣[a,b,uE i]from md (V.str.inj (Zo N))]at M;let a2: ~~~(pw (toString (i:pp)))<=21:=by
       let e:=PySem.int_text_length_le10 (a:=(i:pp)) (k:=20) (!1) (by let:(i:pp).natAbs=i:=rfl;lia);rw[PySem.ofString_length];lia
      let e1:(!"#").length=1:=!0
      let ag:(i:pp).natAbs.log2<1920:=P4 (kj.log2_le_self _) (by let:(i:pp).natAbs=i:=rfl;lia);show%[tyL (Qc.of d),_,st,_,ρ,_,st,_,ρ,ag,cE ⋯,#[3]|λp I=>?_];rw[show pw "#"++pw (toString (i:pp))=uE i from by unfold uE;rw[sP]];let sp:=ah.Qb (o:= .tup [V.str a,V.str b,V.str (uE i)]) I;let al:=sp _ _ d;let a1:p≠L:=λe=>by rw[e,d]at I;cases I
      show%[_,al,by rw[Z6];show aB ⋯|k4 _ _ %[_,_,ρ,ah.set (j.trans sp) fL,ts++[(p,[a,b,uE i])],by rw[aa,Zd];rfl,fh (aA (aA v λb z e=>sp _ _ e) (uJ al)) ∅ ((ao a1).trans aa),?_|by rw[Z9];show X6 tl]];rw[M,Zd,g,<-Ze];rfl
     .rw[show gM i [V.str wd,V.str a,V.str b]=hX from kw λz=>N (Zf (by rw[z]))]at M;show k4 _ _ %[_,_,rfl,j,ts,d,v,?_|⋯];rw[M,g,lX.toList_none,Zx]
    .rw[e]at st M;show%[_,st,_,ρ,ρ|?_];rw[kw (by rcases hw with rfl|rfl<;> decide)];show k4 _ _ %[_,_,rfl,j,ts,d,v,?_|⋯];rw[M,g];change _=_++(_++[]);rw[Zx]
   .intro u c %[o5,o6,rfl,n,ts,J,G,g|tl];rw[ab]at g;show k3 _ _ ?_;lk;show kk L c ts n J G g
abbrev jG(a:hH (hH Key×V))(m:ZB->Prop):Prop:=∃ks:hH ZB,a\1=ks.map (λk=>k.map lp)/\ks.Nodup/\∀k,k∈ks↔m k
def Er{c:hH (hH Key×V)}{m j:ZB->Prop}(h:jG c m)(k:ZB)(v:V)(f:∀z,j z↔m z\/z=k):jG (cY c (k.map lp) v) j:=by
 let%[ks,g,l|i]:=h;let n:(k.map (lp:lx->Key))∈c\1↔k∈ks:=by
  rw[g,N1]
  constructor
  .rintro⟨z,p,e⟩;rw[<-ui _ _ e];show p
  .intro d;show%[k,d|ρ]
 by_cases d:k∈ks
 .show%[ks,by rw[l7,md (n.mpr d)];show g,l|λz=>?_];rw[i,f]
  constructor
  .show .inl
  .rintro(e|e)
   .show e
   .rw[e];show(i k).mp d
 .show%[ks++[k],by rw[l7,kw (λq=>d (n.mp q)),g,Zd];rfl,?_|λz=>?_]
  .rw[Yy];show%[l,by simp|λa o b r e=>by rw[Xl r]at e;rw[e]at o;show d o]
  .rw[Yr,i,Yw,f]
def JK{a:hH (hH Key×V)}{m b:ZB->Prop}(h:jG a m)(e:∀k,m k↔b k):jG a b:=by
 let%[ks,c,d|f]:=h;show%[ks,c,d|λk=>(f k).trans (e k)]
def Gw{a:hH (hH Key×V)}{m:ZB->Prop}{B:hH ZB}(h:jG a m)(s:∀k,m k->k∈B): ~~~a<= ~~~B:=by
 let%[ks,b,c|d]:=h;let:=_ST.nodup_sub c (m:=B) λk e=>s k ((d k).mp e)
 let l:=tI Lo b;rw[Z6,Z6]at l
 lia
def Gx{rows:ZB}(h:qC rows)(e:cH rows):∃m:hH ZB,~~~m<=60/\∀k,k∈m↔k∈bN rows (~~~rows-1):=by
 let%[m,c|d]:=h;show%[m.filter λk=>decide (k∈bN rows (~~~rows-1)),n7 (Yh _ _) c|λk=>?_];rw[on,MN];show%[λh=>h.2|λh=>%[?_|h]];let%[a,b,rfl|mt]:=mw h;show d a b mt
def wU{H:Hp}:∀{cs:ZH},bO H cs->(∀p∈cs,qC p.2.2)->∃ks:hH ZB,~~~ks<=60* ~~~cs/\∀k,k∈ks↔k∈cx cs
 |[],_,_=>%[[],Zi _|λk=>Nz]
 | q::cs,h,f=>by
   let%[ks,d|b]:=wU (cs:=cs) (λp a=>h p (Zk _ a)) λp a=>f p (Zk _ a)
   let%[m,e|c]:=Gx (f q Zm) (h q Zm).2.2;show%[m.map (lI q.2.1) ++ks,by rw[Z9,Z6,Zr];lia|λk=>?_];unfold cx at b ⊢;rw[Oh,Yr,Yr,b,N1,N1];show PP (Th λz=>Sk λ_=>c z) Nz
def zT{H:Hp}{cs:ZH}{qs:ZN}(ca:bO H cs)(i:cW H (cs.flatMap lyr) qs){n:kj}{k:ZB}(h:k∈cx cs\/k∈cy qs n):dR (cs.flatMap lyr) k:=by
 rcases h with h|h
 .let%[p,c|h]:=Lf.mp h;let%[z,l|rfl]:=Xm h;let%[a,b,rfl|mt]:=mw l;let%[m|o]:=sK (ca p c).2.2 mt;show%[_,_,_,ρ,Lf.mpr %[p,c|iI m]|Lf.mpr %[p,c|iI o]]
 .let%[j,u|e]:=LG.mp h;cases d:qs[j]? with
  | none=>rw[d]at e;cases e
  | some q=>
    rw[d]at e;rcases(i q (Z8 d)).2 with⟨g,a,b,f,hw,r,s,_⟩|⟨g,a,y,f,hw,_⟩
    .let e:gM j q.2∣k:=e;rw[f]at e;let e:(if g=pw "later" then hY [a,b,uE j]else hX)∣k:=e
     split at e
     .cases e;show%[_,_,_,ρ,r|s]
     .cases e
    .let e:gM j q.2∣k:=e;rw[f]at e;cases e
inductive sX
 | mk (l m d:kG) (cs:ZH) (qs:ZN) (ms:ZB) (g:lx->lx) (ks0:hH ZB):vs=[.ref l,.ref m,.ref d]->H l<*bA cs->H m∣.lst (qs\0)->bO H cs->cW H (cs.flatMap lyr) qs-> ~~~cs<=3-> ~~~qs<=40->H d∣.dK (NmD ms g)->(∀z,z∈ms↔z∈cs.flatMap lyr)->(∀z∈ms,g z∈ms/\cC (ba qs) z (g z))-> ~~~ks0<=250->(∀k,k∈ks0↔k∈cx cs\/k∈cy qs qs.length)->(∀r H' (ss:ZG),ah H H'->H r=hX->H' r∣.lst (ss\0)->aF H' ss->bP (ba qs) ks0 (ss\2)->(∀k∈ss\2,dR ms k)-> ~~~ss<=250->Q (.ref r) H')->sX vs H Q E0
def wV(T:Txt K mg):↥3 "_law_links" ["_law_cuts_here","_law_sayings","_law_homes_here"] sX:=by
 .exists T.bx,dP,a4,hr,%[l,m,d,cs,qs,ms,g,c,rfl,hl,hm,ca,sa,c3,al,hd,mem,lg,a2,N|kk];show%[_,%["KCG3]>CQTH]^A0A1BjLJ4LJ5LJ6cEqi3dAW24AW25A6BEI*]_A3B",dP.nd|hr]|?_]
  change aU _ _ _ [!l,!m,!d,hX,hX,hX,hX] H;show aj λD1 k1 _=>?_
  lk;intro L hL;let O:=ah.Qb (o:= .dT []) hL;show k1 _ _ (aj λD2 k2 _=>aw λa3 hK=>?_);lk;show%[l,m,cs,qs,_,ρ,O _ _ hl,O _ _ hm,(λp hp=>%[O _ _ (ca p hp).1|(ca p hp).2]),(λq hq=>%[O _ _ (sa q hq).1|(sa q hq).2]),c3,al|λr H1 ts s1 B tt te=>%[%[_|Qc.of B]|hK _ _ ?_]];let an:=O.trans s1;let G:=s1 _ _ (show Qb H L (.dT []) L∣.dT [] from aa);let I:∀k,k∈ts\2↔k∈c:=λk=>by rw[te,Yr,N]
  let tok:∀k∈c,dR ms k:=λk j=>by
   let%[a,b,z,e,U|Y]:=zT ca sa ((N k).mp j);show%[a,b,z,e,(mem a).mpr U|(mem b).mpr Y]
  let as:r≠L:=λe=>by rw[e,G]at B;cases B
  let ab:∀n k,k∈((ts.take n)\2).map (iM g)->k∈c.map (iM g):=λn k j=>by
   let%[t,M|e]:=Xm j;show Xn %[t,(I t).mp ((Uh _ (TL n ts)) M)|e]
  let tm: ~~~(ts\0)= ~~~ts:=Z6 _;show bD (λi σ H'=>∃o4 o5 o6,σ=[!l,!m,!d,!L,o4,o5,o6]/\ah H H'/\(∀b o,b≠L->H1 b∣o->H' b∣o)/\∃u,H' L∣.dT u/\jG u λk=>k∈((ts.take i)\2).map (iM g))
   %[_,_,_,rfl,an,(λb o _ e=>e),[],G,[],rfl,X1|λk=>Nz] (λi σ H' ⟨_,_,_,_,_,q,_⟩=>q _ _ as B) ?_ ?_
  .intro i t σ H2 M %[o4,o5,o6,rfl,s2,sx,u,J|v];let ac:=Z8 M;let%[a,b,z,et,U|Y]:=tok _ ((I t.2).mp (Xn %[t,ac|rfl]));let C:=(tt t ac).2;rw[et]at C;let st:=SqT.of (K:=K) (sx _ _ (λe=>by rw[e,G]at C;cases C) C);let a0:=s2 _ _ hd;let get:∀y∈ms,cr H2 d (.str y) (hY (.str (g y))):=λy hy=>by
    let:=cr.k (k:=lp y) a0;rw[ko hy]at this;show this
   show%[_,st,ρ,_,_,ρ,_,_,ρ,_,_,ρ,ρ|?_];change jM _ _ _ _ [!l,!m,!d,!L,-a,-b,-z] H2;show az λD3 k3 _=>?_
   lk;show%[_,get a U,_,get b Y,#[3]|λp hp=>?_];let sp:=ah.Qb (o:= .tup [V.str (g a),V.str (g b),V.str z]) hp;let a1:=Gw v (ab i);rw[Z6]at a1;show%[_,fE.t (k:=(iM g [a,b,z]).map lp) (sp _ _ J) (by rw[aa];rfl) (by rw[PySem.sizeLine_eq];lia)|k3 _ _ %[_,_,_,ρ,λb o e=>by rw[ao (ax e hL)];show sp _ _ (s2 _ _ e),(λb o n e=>by rw[ao n];show sp _ _ (sx b o n e)),_,aa|Er v _ _ λk=>?_]];rw[X7,M,Zd,Zd,Yr,<-et];show PP Nz Yw
  .intro σ H2 %[o4,o5,o6,rfl,s2,sx,u,J|v];rw[Xa]at v;show k2 _ _ ?_;lk;let%[ks,q1,q2|q3]:=v;let q3:∀k,k∈ks↔k∈c.map (iM g):=λk=>by
    show(q3 k).trans ?_;dsimp only;rw[N1,N1];show Th λt=>Sk λ_=>I t
   let lk:=pU tok (λz hz=>(lg z hz).2);let few: ~~~ks<=250:=by
    let:=_ST.nodup_sub q2 (m:=c.map (iM g)) λk j=>(q3 k).mp j
    rw[Z6]at this
    lia
   let ae:∀k∈ks,dR ms k:=λk j=>by
    let%[t,M|rfl]:=Xm ((q3 k).mp j);let%[a,b,z,rfl,U|Y]:=tok t M;show%[_,_,_,ρ,(lg a U).1|(lg b Y).1]
   let h3:∀k∈ks,~~~k=3:=λk j=>by
    let%[a,b,z,rfl|_]:=ae k j;rfl
   show%[u,J,ks,q1,3,h3,!1,⋯|λr ss ag ta pm=>?_];let s3:=ah.Qb (o:= .lst (ss\0)) ag;show kk r _ ss (s2.trans s3) (s2.free ag) aa (aA ta λb z e=>s3 _ _ e) %[pm.nodup_iff.mpr q2|λk=>by rw[pm.mem_iff,q3,lk]] (λk j=>ae k (pm.mem_iff.mp j)) (by let:=pm.length_eq;rw[Z6]at this;lia)
abbrev sc2(t:kG×ZB):lx:=t.2.getD 1 K3
abbrev StB(H:Hp)(d:kG)(ss:ZG):Prop:=∃a,H d∣.dK a/\∀n:lx,(∃l,bV a (lp n)∣.ref l/\H l∣.lst (((ss.filter λt=>decide (t.2[0]? =hY n)).map sc2)\3))\/(bV a (lp n)=hX/\∀t∈ss,t.2[0]? ≠hY n)
def StB.up{H e:Hp}{d:kG}{ss:ZG}(h:StB H d ss)(s:ah H e):StB e d ss:=by
 let%[c,f|g]:=h;show%[c,s _ _ f|λn=>(g n).imp_left λ⟨l,a,b⟩=>%[l,a|s _ _ b]]
def StB.at{H i:Hp}{e d q p:kG}{ss:ZG}(h:StB H e ss)(m:e≠d)(r:∃x,H d∣.dK x)(s:H q=hX)(f:∀b o,b≠d->b≠q->H b∣o->i b∣o)(u:∃x,i q<*x)(y:i p=hX)(n:lx):
 ∃g a,Qb i p (.lst []) e∣.dK g/\(bV g (lp n)).getD (.ref p)= .ref a/\Qb i p (.lst []) a∣.lst (((ss.filter λt=>decide (t.2[0]? =hY n)).map sc2)\3)/\a≠q:=by
 let%[g,z|B]:=h;let sp:=ah.Qb (o:= .lst []) y;let A:=sp _ _ (f e _ m (ax z s) z);rcases B n with⟨l,v,j⟩|⟨v,C⟩
 .show⟨g,l,A,by rw[v];rfl,sp _ _ (f l _ (λc=>by let%[x|r]:=r;rw[c,r]at j;cases j) (ax j s) j),ax j s⟩
 .show%[g,p,A,by rw[v];rfl,?_|λc=>by let%[x|e]:=u;rw[<-c,y]at e;cases e];rw[NP.mpr λt E c=>C t E (Zo c)];show aa
def StB.fr{H m:Hp}{e d q:kG}{ss:ZG}(h:StB H e ss)(g:e≠d)(i:∃x,H d∣.dK x)(p:H q=hX)(f:∀b o,b≠d->b≠q->H b∣o->m b∣o):StB m e ss:=by
 let%[j,r|s]:=h;show%[j,f e _ g (ax r p) r|λn=>(s n).imp_left λ⟨l,u,a⟩=>%[l,u|f l _ (λc=>by let%[x|i]:=i;rw[c,i]at a;cases a) (ax a p) a]]
abbrev Fl(ks:hH ZB)(st:lx)(F R:ZB)(g:lx->pp)(a:pp):Prop:=∃b c k,b\1=F/\Lev ks st b c k R/\a=((k:kj):pp)/\∀y∈F,g y=((c y:kj):pp)
def Es{ks:hH ZB}{R:ZB}:∀{A:ZB},(∀y∈A,∃p∈R,Ed ks p y)->∃new:hH (lx×kG×ZB),new\1=A/\∀r∈new,r.2.2∈ks/\∃p z,p∈R/\r.2.2=[p,r.1,z]
 |[],_=>%[[],rfl|λ_ h=>nomatch h]
 | a::A,h=>by
   let%[new,e|c]:=Es (A:=A) λy d=>h y (Zk _ d)
   let%[p,f,z|g]:=h a Zm;show%[(a,0,[p,a,z])::new,by rw[Yp,e]|λr b=>?_];rcases Yu.mp b with rfl|b
   .show%[g,p,z,f|ρ]
   .show c r b
def Fl.step{ks:hH ZB}{st:lx}{F R A:ZB}{g b:lx->pp}{a:pp}(h:Fl ks st F R g a)(nd:(F++A).Nodup)(e:∀y∈A,b y=a+1/\∃p∈R,Ed ks p y)(f:∀y∈F,b y=g y)(i:∀x∈R,∀y,Ed ks x y->y∈F++A):Fl ks st (F++A) A b (a+1):=by
 let%[j,n,k,rfl,L,rfl|l]:=h;let%[new,rfl|m]:=Es λy d=>(e y d).2
 let L2:=L.step (by rw[Zd];show nd) m (by rw[Zd];show i);show%[j++new,_,k+1,Zd,L2,ρ|λy d=>?_];by_cases c:y∈new\1
 .rw[md c,(e y c).1];rfl
 .let:=(Xk d).resolve_right c;rw[kw c,f y this,l y this]
def Fl.end_{ks:hH ZB}{st:lx}{F:ZB}{g:lx->pp}{a:pp}(h:Fl ks st F [] g a){y:lx}(b:y∈F):∃n:kj,g y=((n+1:kj):pp)/\Dst ks st (n+1) y/\∀m,Dst ks st (m+1) y->n<=m:=by
 let%[j,c,k,rfl,L,rfl|e]:=h;let%[l|f]:=L.dst b;obtain⟨n,d⟩:∃n,c y=n+1:=%[c y-1|⋯]
 show%[n,by rw[e y b,d],d▸f|λm i=>?_];let:=L.min b i
 lia
abbrev Far(ks:hH ZB)(x:lx)(F:ZB)(g:lx->pp):Prop:=∀y∈F,∃n:kj,g y=((n+1:kj):pp)/\Dst ks x (n+1) y/\∀m,Dst ks x (m+1) y->n<=m
inductive Et
 | mk (l:kG) (st:lx) (ns:ZB) (ss:ZG):vs=[.ref l,.str st]->H l∣.lst (ss\0)->dq H ns ss-> ~~~ss<=250->(∀d H' (F:ZB) (g:lx->pp),ah H H'->H d=hX->H' d∣.dK (VD F λx=> .int (g x))->F.Nodup->(∀y,y∈F↔Rch (ss\2) st y)->Far (ss\2) st F g->Q (.ref d) H')->Et vs H Q E0
abbrev KY(H:Hp)(l e d:kG)(st:lx)(ss:ZG)(m:kj)(h:_LL.St)(b:Hp):Prop:=∃(r:kG) (a:pp) (i j n o c f:lX V) (R F:ZB) (g:lx->pp),h=[!l,-st,!e,i,j,n,!d,!r,hY (.int a),o,c,f]/\ah H b/\StB b e ss/\b r<*R\3/\b d∣.dK (VD F λx=> .int (g x))/\F.Nodup/\(∀y∈F,Rch (ss\2) st y)/\(∀x∈R,x=st\/x∈F)/\(∀x,(x=st\/x∈F)->x∈R\/∀y,Ed (ss\2) x y->y∈F)/\Fl (ss\2) st F R g a/\m=2*(250-F.length) +R.length.min 1
def Bx(T:Txt K mg):↥1 "_law_far" ["_law_laid","_law_one"] Et:=by
 .exists T.bz,bq,dk,hr,%[l,st,ns,ss,rfl,hl,be,dn|kk];let dp: ~~~(ss\0)= ~~~ss:=Z6 _;show%[_,%["KCG2yCQT0jLJ3LJ4LJ5cEZ~um~v~w2A3ARBBA4BCG6yCG7RA1BCG8DC~IN>7RBCG8Fa8DCG9RBCQT7J:EQT~K~L2Ar:ARBBJ;EM~Mr;6Cq86r;EZpm9Ar;BOEG79EI6",bq.nd|hr]|?_]
  change aU _ _ _ [!l,-st,hX,hX,hX,hX,hX,hX,hX,hX,hX,hX] H;show aj λD1 k1 _=>?_
  lk;intro e fe;show k1 _ _ (aj λD2 k2 _=>aw λa2 hK=>?_);lk;let se:=ah.Qb (o:= .dK []) fe;show%[%[_|Qc.of (se _ _ hl)]|hK _ _ ?_];show bD (λj N C=>A3 (E3 λo3 o4 o5=>N=[!l,-st,!e,o3,o4,o5,hX,hX,hX,hX,hX,hX]) (ah H C) (∃O:Gs lx,A4 (iV V.str H C e O) ((O\1).Nodup) (∀g∈O,g.2.2=((ss.take j).filter λt=>decide (t.2[0]?∣g.1)).map sc2) (∀n,n∈O\1↔∃t∈ss.take j,t.2[0]?∣n)))
   %[%[_,_,_|rfl],se,[],%[aa,λg hg=>(nomatch hg)|X1],X1,(λg hg=>nomatch hg)|by simp] (λj N C h=>h.2 _ _ hl) ?_ ?_
  .intro j t N C Y %[%[o3,o4,o5|rfl],sm,O,I,gn,gf|gk];let tm:=Z8 Y;let j1:j< ~~~ss:=(Xj Y).1;let%[c0,n,y,z,et|_]:=be t tm;let hn:t.2[0]?∣n:=by rw[et];rfl
   let M:sc2 t=y:=by unfold sc2;rw[et];rfl
   let tk:ss.take (j+1)=ss.take j++[t]:=by rw[X7,Y];rfl
   let bf:=sm _ _ c0;rw[et]at bf;show%[_,SqT.of bf,ρ,_,_,ρ,_,_,ρ,_,_,ρ,ρ|?_];change mE _ _ [!l,-st,!e,-n,-y,-z,hX,hX,hX,hX,hX,hX] C;show az λD4 k4 _=>?_
   lk;let gl: ~~~O<= ~~~ss:=by
    let:O\1 ⊆ ss.filterMap λt=>t.2[0]? :=λy M=>by
     let%[t,Y|e]:=(gk y).mp M;show LG.mpr %[t,Yv Y|e]
    let:=_ST.nodup_sub gn λx U=>this U
    rw[Z6]at this;show n7 this (M6 _ _)
   let keys:∀(a3:Gs lx),(∀y,y∈a3\1↔y∈O\1\/y=n)->∀y,y∈a3\1↔∃t∈ss.take (j+1),t.2[0]?∣y:=λa3 h y=>by
    rw[h,gk,tk]
    constructor
    .rintro(⟨t',h1,h2⟩|rfl)
     .show%[t',Ys _ h1|h2]
     .show%[t,Yt _ Zm|hn]
    .rintro⟨t',h1,h2⟩;rcases Xk h1 with q|q
     .show .inl %[t',q|h2]
     .rw[Xl q,hn]at h2;show .inr (Za h2).symm
   show%[tyD (I.at_),#[0]|λp hp=>%[lp n,ρ,gD O,?_,?_,λv hv=>?_|λhv=>?_]]
   .rw[ao (λc=>by rw[<-c,I.at_]at hp;cases hp)];show I.at_
   .unfold gD;rw[Z6];show aB ⋯
   .let%[q,hq,e1|rfl]:=eT hv;let sp:=ah.Qb (o:= .lst []) hp;let hl:=sp _ _ (I.la q hq).2;let G:=(I.up sp).add gn hq y;let ml: ~~~q.2.2<= ~~~ss:=by
     rw[gf q hq,Z6];show n7 (Yh _ _) (by rw[Yk];lia)
    let ka:(mC q.1 y O)\1=O\1:=by
     unfold mC;rw[Yq];show Yo λg _=>?_
     change(if g.1=q.1 then(g.1,g.2.1,g.2.2++[y])else g).1=_
     split<;> rfl
    show%[tyL (Qc.of hl),_,hl,by rw[Z6];show aB ⋯|k4 _ _ %[%[_,_,_|ρ],ah.set (sm.trans sp) (I.la q hq).1,_,G,by rw[ka];show gn,λg hg=>?_|keys _ λy=>?_]]
    .unfold mC at hg;let%[g0,h0|rfl]:=Xm hg;rw[tk,Y2,Zd];by_cases c:g0.1=q.1
     .rw[md c];change g0.2.2++[y]=_++(MT (λt=>decide (t.2[0]?∣g0.1)) [t]).map sc2;rw[gf g0 h0,Y6 (by rw[hn,c,e1];simp),Y7,Yp,QY,M]
     .rw[kw c,gf g0 h0,Y4 (by rw[hn,<-e1];simpa using λz=>c z.symm),Y7,QY,Zx]
    .rw[ka];show%[.inl|λh=>h.elim id λh=>by rw[h,<-e1];show Xn %[q,hq|ρ]]
   .let nk:n∉O\1:=λh=>by
     let%[q,hq|c]:=Xm h;let:=iL hq;rw[c,hv]at this;show this rfl
    let de:e≠p:=λq=>by rw[<-q,I.at_]at hp;cases hp
    let gp:Qb (Qb C p (.lst [])) e (.dK (cY (gD O) (lp n) (.ref p))) p<*[]:=by rw[ao de.symm,aa]
    show%[tyL (Qc.of gp),[],gp,(show 0<mv by decide)|k4 _ _ %[%[_,_,_|ρ],ah.set (ah.set (sm.trans (ah.Qb hp)) fe) (sm.free hp),_,I.new sm hp n y nk,?_,λg hg=>?_|keys _ λy=>?_]]
    .rw[Zd,Yy];show%[gn,by simp|λa ha b hb c=>nk (by rw[<-show b=n from Xl hb,<-c];show ha)]
    .rw[tk,Y2,Zd];rcases Xk hg with q|q
     .let c:g.1≠n:=λc=>nk (by rw[<-c];show Xn %[g,q|rfl])
      rw[gf g q,Y4 (by rw[hn];simpa using λz=>c z.symm),Y7,QY,Zx]
     .rw[Xl q];change [y]=_++(MT (λt=>decide (t.2[0]?∣n)) [t]).map sc2;rw[Y6 (by rw[hn];simp),Y7,NP.mpr λt' c1 c=>nk ((gk n).mpr %[t',c1|Zo c]),Yp,M];rfl
    .rw[Zd,Yr,Yp,QY,Yw]
  .intro N C %[%[o3,o4,o5|rfl],sm,O,I,gn,gf|gk];rw[Zn (Zi _)]at gf gk;let hb:StB C e ss:=⟨_,I.at_,λn=>by
    cases hv:bV (gD O) (lp n)with
    | none=>
      show .inr %[rfl|λt Y c=>?_];let%[q,hq|c]:=Xm ((gk n).mpr %[t,Y|c]);let:=iL hq;rw[c,hv]at this;show this rfl
    | some v=>
      let%[q,hq,e1|rfl]:=eT hv;show .inl %[_,rfl|?_];rw[(I.la q hq).2,gf q hq,e1]⟩
   show k2 _ _ (aj λD3 k3 _=>?_);lk;intro d fd;let s1:=ah.Qb (o:= .dK []) fd;show k3 _ _ (aj λD4 k4 _=>?_);let bl:=hb.up s1;let bm:Qb C d (.dK []) d∣.dK (VD [] λx=> .int ((λ_=>0:lx->pp) x)):=aa;let bt:=sm.trans s1;let b0:=sm.free fd;let a4:e≠d:=λc=>by
    let%[b1,h1|_]:=hb;rw[c,fd]at h1;cases h1
   generalize Qb C d _=H1 at bl bm bt
   lk;show%[#[1]|λr0 c2=>k4 _ _ (aj λD5 k5 _=>?_)];let s2:=ah.Qb (o:= .lst [V.str st]) c2;let b2:Qb H1 r0 (.lst [V.str st]) r0<*[st]\3:=aa;let b3:=s2 _ _ bm;let b4:=bl.up s2;let b5:=bt.trans s2
   generalize Qb H1 r0 _=H2 at b5 b2 b3 b4
   lk;show k5 _ _ (aj λD6 k6 _=>?_);show%[KY H l e d st ss,%[_,r0,0,o3,o4,o5,hX,hX,hX,[st],[],_,ρ,b5,b4,b2,b3,X1,(λ_ h=>nomatch h),(λx h=>Xl h▸ .inl rfl),(λx h=> .inl (h.elim (λh=>h▸Zm) λh=>nomatch h)),%[[],_,0,ρ,.nil,ρ|λ_ h=>nomatch h]|ρ]|?_];intro m N H3 %[r,B,o3,o4,o5,o9,ag,J,R,F,g0,rfl,s3,c3,b6,b9,Fn,Fr,c4,cl,fl|rfl];lk;let few:∀{X:ZB},X.Nodup->(∀y∈X,Rch (ss\2) st y)-> ~~~X<=250:=λ{X} xn xr=>by
    let:=_ST.nodup_sub xn (m:=ss.map sc2) λy M=>by
     let:∃a,Ed (ss\2) a y:=by
      cases xr y M with
      | one e=>show%[_|e]
      | more _ e=>show%[_|e]
     let%[a,z|L]:=this;let%[t,Y|et]:=Xm L;show Xn %[t,Y|by unfold sc2;rw[et];rfl]
    rw[Z6]at this
    lia
   show%[Xc _|λp fp=>%[R\3,ah.Qb fp _ _ b6,aa|bT (λh=>?_) λh=>?_]]
   .let R0:R≠[]:=λc=>by rw[c]at h;show ow rfl (Zo h)
    let s4:=ah.Qb (o:= .lst []) fp;let ab:=s4 _ _ b6;let ac:=s4 _ _ b9;let as:=c3.up s4;let a5:=s3.trans s4
    generalize Qb H3 p _=H4 at ab ac as a5
    show⟨λc5 C=>∃m',m'<2*(250-F.length) +R.length.min 1/\KY H l e d st ss m' c5 C,λ_ _ h=>h,Xc _,λq fq=>aw λa2 hK=>?_⟩;let a6:d≠q:=ax ac fq;let c6:=a5.free fq;let f0:∀b o,b≠d->b≠q->H4 b∣o->Qb H4 q (.lst []) b∣o:=λb o _ n e=>by rw[ao n];show e
    let ca:Qb H4 q (.lst []) q<*([]:ZB)\3:=aa;let cd:Qb H4 q (.lst []) d∣.dK (VD (F++[]) λx=> .int (g0 x)):=by rw[ao a6,Zx];show ac
    let ce:=a5.trans (ah.Qb (o:= .lst []) fq);let ch:r≠d:=λc=>by rw[c,ac]at ab;cases ab
    let co:r≠q:=ax ab fq
    generalize Qb H4 q _=H5 at f0 ca cd ce
    lk;show%[%[_|Qc.of (f0 _ _ ch co ab)]|hK _ _ ?_];let Rm: ~~~(R\3)= ~~~R:=Z6 _;show bD (λi N C=>E4 λ(ag J:lX V) (A:ZB) (g:lx->pp)=>A9 (N=[!l,-st,!e,o3,o4,o5,!d,!r,hY (.int (B+1)),!q,ag,J]) (ah H C) (∀b o,b≠d->b≠q->H4 b∣o->C b∣o) (C q<*A\3) (C d∣.dK (VD (F++A) λx=> .int (g x))) ((F++A).Nodup) (∀y∈A,Rch (ss\2) st y/\g y=B+1/\∃p∈R,Ed (ss\2) p y) (∀y∈F,g y=g0 y) (∀x∈R.take i,∀y,Ed (ss\2) x y->y∈F++A))
     %[_,_,[],g0,rfl,ce,f0,ca,cd,by rw[Zx];show Fn,(λ_ h=>nomatch h),(λ_ _=>rfl)|λ_ h=>nomatch h] (λi N C ⟨_,_,_,_,_,_,f,_,_,_,_,_,_⟩=>f _ _ ch co ab) ?_ ?_
    .intro i n N H6 hn %[ag,J,A,g,rfl,s6,f6,a0,bb,An,Ar,Ao|Ad];let tk:R.take (i+1)=R.take i++[n]:=by rw[X7,hn];rfl
     let nR:n=st\/Rch (ss\2) st n:=(c4 n (Z8 hn)).imp id (Fr n);change tf _ _ _ _ [!l,-st,!e,o3,o4,o5,!d,!r,hY (.int (B+1)),!q,-n,J] H6;show az λD7 k7 _=>aw λa2 hK=>?_
     lk;let%[dr,cs|_]:=id as;show%[tyD (f6 e _ a4 (ax cs fq) cs),#[0]|λp2 ct=>?_];let%[b1,a,cv,da,ae|db]:=as.at a4 %[_|ac] fq f6 %[_|a0] ct n;let sp:=ah.Qb (o:= .lst []) ct;let cw:=sp _ _ a0;let bc:=sp _ _ bb;let s7:=s6.trans sp;let f7:∀b o,b≠d->b≠q->H4 b∣o->Qb H6 p2 (.lst []) b∣o:=λb o n1 n2 e=>sp _ _ (f6 b o n1 n2 e)
     let dd:a≠d:=λc=>by rw[c,bc]at ae;cases ae
     generalize Qb H6 p2 _=H7 at cv ae cw bc s7 f7
     show%[lp n,ρ,b1,cv|uz da %[%[_|Qc.of ae]|hK _ _ ?_]];let yI:∀y,y∈(ss.filter λt=>decide (t.2[0]?∣n)).map sc2↔Ed (ss\2) n y:=λy=>by
      rw[N1]
      constructor
      .rintro⟨t,Y,rfl⟩;let%[h1|h2]:=on.mp Y;let%[_,x,y,z,et|_]:=be t h1;let h2:=Zo h2;rw[et]at h2;obtain rfl:x=n:=Za h2;show%[z|Xn %[t,h1|by unfold sc2;rw[et];rfl]]
      .rintro⟨z,L⟩;let%[t,Y|et]:=Xm L;show%[t,on.mpr %[Y|Zf (by rw[et];rfl)]|by unfold sc2;rw[et];rfl]
     generalize (ss.filter λt=>decide (t.2[0]?∣n)).map sc2=ys at ae yI
     let ym: ~~~(ys\3)= ~~~ys:=Z6 _;show bD (λj N C=>E3 λ(J:lX V) (A:ZB) (g:lx->pp)=>A11 (N=[!l,-st,!e,o3,o4,o5,!d,!r,hY (.int (B+1)),!q,-n,J]) (ah H C) (∀b o,b≠d->b≠q->H4 b∣o->C b∣o) (C a<*ys\3) (C q<*A\3) (C d∣.dK (VD (F++A) λx=> .int (g x))) ((F++A).Nodup) (∀y∈A,Rch (ss\2) st y/\g y=B+1/\∃p∈R,Ed (ss\2) p y) (∀y∈F,g y=g0 y) (∀x∈R.take i,∀y,Ed (ss\2) x y->y∈F++A) (∀y∈ys.take j,y∈F++A))
      %[_,A,g,rfl,s7,f7,ae,cw,bc,An,Ar,Ao,Ad|λ_ h=>nomatch h] (λj N C ⟨_,_,_,_,_,_,h,_,_,_,_,_,_,_⟩=>h) ?_ ?_
     .intro j y N H8 M %[J,A,g,rfl,s8,f8,bd,a1,an,An,Ar,Ao,Ad|Aj];let tj:ys.take (j+1)=ys.take j++[y]:=by rw[X7,M];rfl
      let yR:Rch (ss\2) st y:=by
       let e:=(yI y).mp (Z8 M);rcases nR with rfl|h
       .show .one e
       .show .more h e
      let al:=few An λz L=>(Xk L).elim (Fr z) λh=>(Ar z h).1
      let vl: ~~~(VD (F++A) λx=>V.int (g x))<mv:=by unfold VD;rw[Z6];show aB ⋯
      change jZ _ _ _ _ [!l,-st,!e,o3,o4,o5,!d,!r,hY (.int (B+1)),!q,-n,-y] H8;show az λD8 k8 _=>?_
      lk;show%[_,cr.k (k:=lp y) an|bT (λc=>?_) λc=>?_]
      .let yn:y∉F++A:=λh=>by rw[dS h]at c;cases c
       let P:=fE.k (k:=lp y) (v:= .int (B+1)) an vl;let dg:q≠d:=J0 a6;let cM:=(ao (o:= .dK (cY (VD (F++A) λx=>V.int (g x)) (lp y) (V.int (B+1)))) dg).trans a1;let vd:=uP (g:=λx=>V.int (g x)) (h:=λx=>V.int (if x=y then B+1 else g x)) yn λx U=>by
        change V.int (if x=y then B+1 else g x)=V.int (g x);rw[kw (λc:x=y=>yn (c▸U))]
       rw[md rfl]at vd;show%[_,P,tyL (Qc.of cM),_,cM,by rw[Z6];rw[Z9]at al;show aB ⋯|k8 _ _ %[_,A++[y],λx=>if x=y then B+1 else g x,ρ,ah.set (ah.set s8 b0) c6,(λb o n1 n2 e=>by rw[ao n2,ao n1];show f8 b o n1 n2 e),by rw[ao db,ao dd];show bd,by rw[aa,Zd];rfl,by rw[ao a6,aa,vd,Ze],?_,(λz L=>?_),(λz L=>?_),(λx U z e=>?_)|λz L=>?_]]
       .rw[<-Ze,Yy];show%[An,by simp|λa ha b hb e=>yn (by rw[<-Xl hb,<-e];show ha)]
       .rcases Xk L with u|u
        .show%[(Ar z u).1,(kw λc:z=y=>yn (c▸Yt _ u)).trans (Ar z u).2.1|(Ar z u).2.2]
        .rw[Xl u];show%[yR,md rfl,n,Z8 hn|(yI y).mp (Z8 M)]
       .show(kw λc:z=y=>yn (c▸Ys _ L)).trans (Ao z L)
       .rw[<-Ze];show Ys _ (Ad x U z e)
       .rw[<-Ze];rw[tj]at L;rcases Xk L with u|u
        .show Ys _ (Aj z u)
        .show Yt _ u
      .let yn:y∈F++A:=K4 λh=>by rw[lO h]at c;show c rfl
       show k8 _ _ %[_,A,g,rfl,s8,f8,bd,a1,an,An,Ar,Ao,Ad|λz L=>?_];rw[tj]at L;rcases Xk L with u|u
       .show Aj z u
       .rw[Xl u];show yn
     .intro N H8 %[J,A,g,rfl,s8,f8,bd,a1,an,An,Ar,Ao,Ad|Aj];rw[Xa]at Aj;show k7 _ _ %[_,_,A,g,rfl,s8,f8,a1,an,An,Ar,Ao|λx U y e=>?_];rw[tk]at U;rcases Xk U with z|z
      .show Ad x z y e
      .rw[Xl z]at e;show Aj y ((yI y).mpr e)
    .intro N H6 %[ag,J,A,g,rfl,s6,f6,a0,bb,An,Ar,Ao|Ad];rw[Xa]at Ad;let al:=few An λz L=>(Xk L).elim (Fr z) λh=>(Ar z h).1
     rw[Z9]at al;let rp:R.length.min 1=1:=QC (Mj.mpr R0);dsimp only;lk;show%[_,?_,q,B+1,o3,o4,o5,_,ag,J,A,F++A,g,ρ,s6,as.fr a4 %[_|ac] fq f6,a0,bb,An,(λy M=>(Xk M).elim (Fr y) λh=>(Ar y h).1),(λx U=> .inr (Yt _ U)),(λx U=>?_),fl.step An (λy M=>(Ar y M).2) Ao Ad|ρ]
     .rw[Z9,rp];cases A with
      | nil=>simp
      | cons a A=>
        rw[Zr]at al ⊢;let:(~~~A+1).min 1=1:=QC ⋯
        lia
     .by_cases hA:x∈A
      .show .inl hA
      .show .inr λy e=>?_
       rcases cl x (U.imp id λh=>(Xk h).resolve_right hA)with h|h
       .show Ad x h y e
       .show Ys _ (h y e)
   .let R0:R=[]:=by
     let:=h;cases R with
     | nil=>rfl
     | cons a R=>show ow (Zf ∅) h
    subst R0;let s4:=ah.Qb (o:= .lst []) fp;show k6 _ _ ?_;lk;show kk d _ F g0 (s3.trans s4) b0 (s4 _ _ b9) Fn (λy=>%[Fr y|λr=>?_]) λy M=>fl.end_ M
    show r.closed (R:=(·∈F)) ((cl st (.inl rfl)).resolve_left λh=>nomatch h) λx y U e=>((cl x (.inr U)).resolve_left λh=>nomatch h) y e
structure Ben (H:Hp) (ks:hH ZB) (rs:Gs lx):Prop where
 nd:(rs\1).Nodup
 at_:∀r∈rs,(∃g:lx->pp,H r.2.1∣.dK (VD r.2.2 λx=> .int (g x))/\Far ks r.1 r.2.2 g)/\r.2.2.Nodup/\∀y,y∈r.2.2↔Rch ks r.1 y
structure BeF (H:Hp) (ks:hH ZB) (d:kG) (rs:Gs lx):Prop where
 at_:∃o,H d∣.frz o (.dK (gD rs))
 nd:(rs\1).Nodup
 in_:∀r∈rs,(∃g:lx->pp,H r.2.1∣.dK (VD r.2.2 λx=> .int (g x))/\Far ks r.1 r.2.2 g)/\r.2.2.Nodup/\∀y,y∈r.2.2↔Rch ks r.1 y
def BeF.up{H a:Hp}{ks:hH ZB}{d:kG}{b:Gs lx}(h:BeF H ks d b)(s:ah H a):BeF a ks d b:=
 %[h.at_.imp λo e=>s _ _ e,h.nd|λr c=>%[(h.in_ r c).1.imp λg ⟨e,q⟩=>%[s _ _ e|q]|(h.in_ r c).2]]
inductive zU
 | mk (l d:kG) (ns ms:ZB) (ss:ZG) (f:lx->lx):vs=[.ref l,.ref d]->H l∣.lst (ss\0)->dq H ns ss-> ~~~ss<=250->H d∣.dK (NmD ms f)-> ~~~ms<=63->(∀b H' (rs:Gs lx),ah H H'->H b=hX->H' b∣.dK (gD rs)->Ben H' (ss\2) rs->(∀r∈rs,r.2.1≠b/\H r.2.1=hX)->(∀x,x∈rs\1↔∃z∈ms,f z=x)->Q (.ref b) H')->zU vs H Q E0
inductive Eu
 | mk (l d:kG) (ns ms:ZB) (ss:ZG) (f:lx->lx):vs=[.ref l,.ref d]->H l∣.lst (ss\0)->dq H ns ss-> ~~~ss<=250->H d∣.dK (NmD ms f)-> ~~~ms<=63->(∀b H' (rs:Gs lx),ah H H'->BeF H' (ss\2) b rs->(∀x,x∈rs\1↔∃z∈ms,f z=x)->Q (.ref b) H')->Eu vs H Q E0
def p9(T:Txt K mg):↥2 "_law_beneath" ["_law_laid","_law_homes_here"] zU:=by
 show T.bA.cal fS (λH vs Q E h=>?_)
 .let%[l,d,ns,ms,ss,f,rfl,hl,ab,ac,hd,al|kk]:=h;show%[ρ|λ_ as A outer s y=>?_];show%[_,%["KCG2yCQT*]|A~0~11BJ3EM~M32EqH]}A0A3B23OEI2",fS.nd|y]|?_]
  change aU _ _ _ [!l,!d,hX,hX] H;show aj λD1 k1 _=>?_
  lk;intro b fb;let s1:=ah.Qb (o:= .dK []) fb;let L:Qb H b (.dK []) b∣.dK (gD ([]:Gs lx)):=aa;show k1 _ _ (aj λD2 k2 _=>aw λan hK=>?_)
  generalize Qb H b _=H1 at s1 L
  lk;let B:=s1 _ _ hd;show%[tyD B,%[_|B]|λv fv=>%[d,?_,_,ah.Qb fv _ _ B,ms.map f,by unfold NmD;rw[Yq,Yq];rfl,by rw[Z6];lia|λz zs fz pz _=>?_]]
  .show aa
  let s2:=(ah.Qb (o:=kR v d) fv).trans (ah.Qb (o:= .lst (zs\3)) fz);let p:Qb (Qb H1 v (kR v d)) z (.lst (zs\3)) z<*zs\3:=aa;let M:=s1.trans s2;let C:=s2 _ _ L
  generalize Qb (Qb H1 v (kR v d)) z _=H2 at s2 p M C
  let zl: ~~~zs<=100:=by rw[pz.length_eq,Z6];lia
  let ae:z≠b:=λc=>by rw[c,C]at p;cases p
  let zm: ~~~(zs\3)= ~~~zs:=Z6 _;show%[%[_|Qc.of p]|hK _ _ (bD (λi Y N=>E2 λ(o3:lX V) (j:Gs lx)=>A8 (Y=[!l,!d,!b,o3]) (ah H N) (N z<*zs\3) (N b∣.dK (gD j)) (Ben N (ss\2) j) (∀r∈j,r.2.1≠b/\H r.2.1=hX) (∀x,x∈j\1↔x∈zs.take i) (~~~j<=i))
   %[_,[],ρ,M,p,C,%[X1|λ_ h=>(nomatch h)],(λ_ h=>nomatch h),(λx=>Nz)|Zi _] (λi Y N ⟨_,_,_,_,h,_,_,_,_,_⟩=>h) ?_ ?_)]
  .intro i n Y H3 hn %[o3,j,rfl,G,I,m,q,O,J|rl];let il:=(Xj hn).1;let tk:zs.take (i+1)=zs.take i++[n]:=by rw[X7,hn];rfl
   change jZ _ _ _ _ [!l,!d,!b,-n] H3;show az λD3 k3 _=>?_
   lk;show%[_,cr.k (k:=lp n) m|bT (λc=>?_) λc=>?_]
   .let nn:n∉j\1:=λh=>by
     let%[r,y|e]:=Xm h;let:=iL y;rw[e]at this;cases hv:bV (gD j) (lp n)with
     | none=>show this hv
     | some v=>rw[hv]at c;cases c
    show%[l,n,ns,ss,ρ,G _ _ hl,ab.up G,ac|λe H4 F g s4 fe he Fn Fr Ff=>?_];let ag:=s4 _ _ m;let U:e≠b:=λc=>by rw[c,m]at fe;cases fe
    let nv:bV (gD j) (lp n)=hX:=nK nn;let pk:cY (gD j) (lp n) (.ref e)=gD (j++[(n,e,F)]):=by
     rw[fA _ nv];unfold gD;rw[Zd];rfl
    show%[_,fE.k (k:=lp n) (v:= .ref e) ag (by unfold gD;rw[Z6];show aB ⋯)|k3 _ _ %[_,j++[(n,e,F)],ρ,ah.set (G.trans s4) fb,(ao ae).trans (s4 _ _ I),by rw[aa,pk],%[?_|λr y=>?_],λr y=>?_,λx=>?_|by rw[Z9];show X6 rl]]
    .rw[Zd,Yy];show%[q.nd,by simp|λa ha b hb e=>nn (by rw[<-show b=n by simpa using hb,<-e];show ha)]
    .rcases Xk y with u|u
     .let%[%[g,e1|ef]|r2]:=q.at_ r u;show%[%[g,by rw[ao (O r u).1];show s4 _ _ e1|ef]|r2]
     .rw[Xl u];show%[%[g,by rw[ao U];show he|Ff],Fn|Fr]
    .rcases Xk y with u|u
     .show O r u
     .rw[Xl u];show%[U|G.free fe]
    .rw[Zd,Yr,J,tk,Yr];show PP Nz ∅
   .show k3 _ _ %[_,j,rfl,G,I,m,q,O,λx=>?_|⋯];let nn:n∈j\1:=K4 λh=>by rw[nK h]at c;show c rfl
    rw[J,tk,Yr];show%[.inl|λh=>h.elim id λh=>by rw[Xl h];show(J n).mp nn]
  .intro Y H3 %[o3,j,rfl,G,I,m,q,O,J|rl];rw[Xa]at J;show k2 _ _ ?_;lk;show kk b H3 j G fb m q O λx=>by rw[J,pz.mem_iff,N1]
def qM(T:Txt K mg):↥2 "_law_beneath" ["_law_laid","_law_homes_here"] Eu:=by
 show(p9 T).freeze.imp λvs H Q E zqw=>?_;let%[l,d,m,p,ss,f,s,u,v,y,z,A|B]:=zqw;show %[l,d,m,p,ss,f,s,u,v,y,z,A|λb j C G I J a L M=>%[[b]|λN=>?_]]
 let out:∀c,c≠b->oV [b] N j c=j c:=λc n=>v8 λh=>n (Xl h)
 show B b _ C (λc o e=>(out c (ax e I)).trans (G _ _ e)) %[%[_|zk Zm J],a.nd|λr i=>%[(a.at_ r i).1.imp λg ⟨e,q⟩=>%[(out _ (L r i).1).trans e|q]|(a.at_ r i).2]] M
def uR{M:ZB}{g:lx->V}{y:lx}:(bV (VD M g) (lp y)).isSome=iv↔y∈M:=by
 by_cases c:y∈M
 .rw[dS c];simp[c]
 .rw[lO c];simp[c]
def BeF.get{H:Hp}{ks:hH ZB}{d:kG}{b:Gs lx}(h:BeF H ks d b){x:lx}(c:x∈b\1):∃a M,cr H d (.str x) (hY (.ref a))/\(∃g:lx->pp,H a∣.dK (VD M λx=> .int (g x))/\Far ks x M g)/\M.Nodup/\∀y,y∈M↔Rch ks x y:=by
 let%[o|e]:=h.at_;let%[r,f,rfl|i]:=uK c;show%[r.2.1,r.2.2,.inl %[_,lp r.1,.inr %[o|e],ρ|i.symm]|h.in_ r f]
inductive wW
 | mk (b:kG) (ks:hH ZB) (rs:Gs lx):vs=[.ref b]->BeF H ks b rs-> ~~~rs<=1000->(∀H' v,ah H H'->(v=iv↔∃x∈rs\1,Rch ks x x)->Q (.bl v) H')->wW vs H Q E0
def qa(T:Txt K mg):↥1 "_law_has_ring" ["_law_beneath_here"] wW:=by
 .exists T.bB,nu,ab,l,%[b,ks,d,rfl,N,rl|kk];let%[o|B]:=N.at_;show%[_,%["KEIn>oh?1~US0b0?2&~n0WS100RB",0,↑(["_law_deposit","_law_beneath_here"],[(1,0)]),↑["_law_deposit","_law_beneath_here"]|l]|?_];change jH _ _ [!b] H;lk;show aK λO hK=>?_
  unfold rY;lk;show%[_,_,B|hK _ _ λF U=>?_];let gl: ~~~(gD d)= ~~~d:=Z6 _;show dI (J:=Itk b o (gD d)) (n:= ~~~(gD d)) (D:=F) (λi ts C y=>A5 (∃Y,C=[Y,!b]) (ah H y) (y F<*ts) (~~~ts<=i) (ts≠[]↔∃r∈d.take i,Rch ks r.1 r.1))
   %[%[hX|rfl],ah.Qb U,aa,Zi _|by simp] (λi _ _ y hi ⟨_,e,_,_,_⟩=>%[e _ _ B|hi]) (λ_ _ y ⟨_,e,_,_,_⟩=>%[e _ _ B|Zi _]) ?_ ?_
  .intro i ts C y hi %[%[Y|rfl],e,j,tl|z] x H2 %[e2,k,v,hk|G];subst e2;let il:i< ~~~d:=by lia
   obtain⟨r,m⟩:∃r,d[i]?∣r:=%[_|Z4 il]
   let I:(gD d)[i]?∣(lp r.1,V.ref r.2.1):=by unfold gD;rw[Zl,m];rfl
   rw[I]at hk;cases hk;obtain rfl:x=V.str r.1:=G;let%[a,M,ga,%[g,ha|_],_|hM]:=(N.up e).get (Xn %[r,Z8 m|rfl]);let tk:d.take (i+1)=d.take i++[r]:=by rw[X7,m];rfl
   lk;show%[_,ga,_,.inl %[_,lp r.1,.inl ha,ρ|ρ]|bT (λc=>CK.mk hi j (aB ⋯) %[%[_|ρ],ah.set e U,aa,by rw[Z9];show X6 tl|?_]) λc=>CN.mk hi %[%[_|ρ],e,j,⋯|?_]]
   .rw[tk];show%[λ_=>%[r,Yt _ Zm|(hM _).mp (uR.mp c)]|λ_=>by simp]
   .rw[z,tk];show%[λ⟨q,L,h⟩=>%[q,Ys _ L|h]|λ⟨q,L,h⟩=>?_];rcases Xk L with u|u
    .show%[q,u|h]
    .rw[Xl u]at h;show(c (uR.mpr ((hM _).mpr h))).elim
  .intro ts C y %[_,e,j,tl|z];rw[gl,Xa]at z;show%[Xc _|λp hp=>%[ts,ah.Qb hp _ _ j,aa|kk _ _ (e.trans (ah.Qb hp)) ?_]];rw[MN,z];show%[λ⟨r,l,h⟩=>%[r.1,Xn %[r,l|ρ]|h]|λ⟨x,G,h⟩=>by let%[r,l|rfl]:=Xm G;show%[r,l|h]]
inductive qb
 | mk (l m:kG) (a b:lx) (ws ss:ZG):vs=[.ref l,.ref m,.str a,.str b]->H l∣.lst (ws\0)->aF H ws->H m∣.lst (ss\0)->aF H ss->(∀t∈ws,t.2∈ss\2)->Wal (ws\2) a b-> ~~~ws<=300->(∀H',ah H H'->Q (.bl iv) H')->qb vs H Q E0
def Ev{b:lx}{us:hH ZB}{i:kj}{k:ZB}{x:lx}(a:us[i]?∣k)(h:Wal (us.drop i) x b):∃y z,k=[x,y,z]/\Wal (us.drop (i+1)) y b:=by
 rw[Zy (Xj a).1]at h;let%[c,z,e|h]:=h;rw[(Xj a).2]at e;show%[c,z,e|h]
def qc(T:Txt K mg):↥1 "_law_is_chain" ["_law_found","_law_laid","_law_one","_law_other"] qb:=by
 .exists T.bC,cg,a2,Y,%[l,m,a,b,ws,ss,rfl,r,hw,hm,hs,sub,ab,wl|kk];show%[_,%["KCMlukYvwA0A?1BxN>oh?2T0b0?3&N][0S10RBEIiOCMN>oh?4T0b0?5&kYvwA0A?6B0RBEIiOCG42CQT0jLJ5LJ6LJ7cCMN(54EIiOEG46EIng43",cg.nd,(blE (v:= .ty "list") rfl T.a5 O8 rfl rfl rfl),↑(["_law_link","_law_laid"],[(1,1)]),↑["_law_link","_law_laid"],↑(["_law_link"],[]),↑["_law_link"],(blE (v:= .ty "tuple") rfl T.ah UR rfl rfl rfl)|Y]|?_]
  change aU _ _ _ [!l,!m,-a,-b,hX,hX,hX,hX] H;show aj λD1 k1 r1=>?_
  lk;show%[_,.lst r,iv,ρ|?_];show im ?_;show aK λa1 hK=>?_
  lk;show%[%[_|Qc.of r]|hK _ _ λE2 ac=>?_];show cP (λj vs d c=>A4 (∃u,d=[u,!m]) (ah H c) (c E2<*vs) (vs=[]))
   %[%[hX|rfl],ah.Qb ac,aa|rfl] (λ_ _ _ c ⟨_,g,_,_⟩=>g _ _ r) ?_ ?_
  .intro j vs d H2 B %[%[u|rfl],g,n|rfl];lk;let C:=Yc B;show%[ws[j].2,g _ _ (hw _ C).2,ss,g _ _ hm,(λt M=>g _ _ (hs t M).2),sub _ C|CN.mk B %[%[_|ρ],g,n|ρ]]
  intro vs d H1 %[_,s1,ae|rfl];show%[Xc _|λp G=>%[[],ah.Qb G _ _ ae,aa|?_]];rw[kw ∅];let N:=s1.trans (ah.Qb (o:= .lst []) G)
  generalize Qb H1 p _=H2 at N
  show k1 _ _ (aj λD2 k2 r2=>?_);lk;show aK λag al=>?_
  lk;let I:=N _ _ r;show%[%[_|Qc.of I]|al _ _ λE3 q=>?_];show cP (λj vs d c=>A4 (∃u,d=[u]) (ah H2 c) (c E3<*vs) (vs=[]))
   %[%[hX|rfl],ah.Qb q,aa|rfl] (λ_ _ _ c ⟨_,g,_,_⟩=>g _ _ I) ?_ ?_
  .intro j vs d H3 B %[%[u|rfl],g,n|rfl];lk;show%[_,.tup ((N.trans g) _ _ (hw _ (Yc B)).2),iv,ρ|im (CN.mk B %[%[_|ρ],g,n|ρ])]
  intro vs d H3 %[_,s3,q|rfl];show%[Xc _|λp G=>%[[],ah.Qb G _ _ q,aa|?_]];rw[kw ∅];let O:=(N.trans s3).trans (ah.Qb (o:= .lst []) G)
  generalize Qb H3 p _=H4 at O
  show k2 _ _ (aj λD3 k3 r3=>?_);lk;show k3 _ _ (aj λD4 k4 r4=>aw λan as=>?_);lk;let J:=O _ _ r;show%[%[_|Qc.of J]|as _ _ ?_];show bD (us:=ws) (f:=λt=>V.ref t.1) (λi d c=>c=H4/\∃(x:lx) (o5 o6 o7:lX V),d=[!l,!m,-a,-b,-x,o5,o6,o7]/\Wal ((ws.map λt:kG×ZB=>t.2).drop i) x b) %[rfl,a,_,_,_,rfl|ab] (λi d c h=>h.1▸J) ?_ ?_
  .intro i t d c M %[e,x,o5,o6,o7,rfl|U];subst e;let%[y,z,et|a0]:=Ev (k:=t.2) (by rw[Zl,M];rfl) U;let L:=O _ _ (hw t (Z8 M)).2;rw[et]at L;show%[_,SqT.of L,ρ,_,_,ρ,_,_,ρ,_,_,ρ,ρ|?_];change aU _ _ _ [!l,!m,-a,-b,-x,-x,-y,-z] c;show aj λD5 k5 r5=>?_
   lk;rw[kw ∅];show k5 _ _ ?_;lk;show a0
  .intro d c %[e,x,o5,o6,o7,rfl|U];subst e;rw[Nm (by rw[Z6];show Zi _)]at U;obtain rfl:x=b:=U;show k4 _ _ ?_;lk;rw[Zf trivial];show kk _ O
def Ew(T:Txt K mg):xS P w K mg base 8 "levels" ["ground"] (jF mg):=by
 let cF:=cF (P:=P) (w:=w) (base:=base) T;show T.aW.calX d8 (λH vs Q E h=>?_)
 .let%[g,qs,a,ts,lk,us,rfl,d,e,i|j]:=h;show%[ρ|λf b A outer s c=>?_];show%[_,QSs.h (ai (aH 1 d8.nd rfl (GL (y6 λ_ _ _ h=>h) cF c rfl rfl rfl rfl #[↑0])) zv)|?_];show%[g,qs,a,ts,lk,[],ρ,d,e,i|j]
def qd(T:Txt K mg):xS P w K mg base 8 "direct_pairs" ["ground"] (jF mg):=by
 let cF:=cF (P:=P) (w:=w) (base:=base) T;show T.aU.calX iS (λH vs Q E h=>?_)
 .let%[g,qs,b,ts,lk,us,rfl,d,e,i|j]:=h;show%[ρ|λf c A outer s a=>?_];show%[_,QSs.h (ai (aH 1 iS.nd rfl (aJ (dj T) a rfl #[(GL (y6 λ_ _ _ h=>h) cF a rfl rfl rfl rfl #[↑0])])) zv)|?_];show%[g,qs,b,ts,lk,[],ρ,d,e,i|j]
inductive sY (mg:ZC)
 | mk (a m b dx l:kG) (lk:hH ZB) (ws ss:ZG) (x:lx) (rs:Gs lx):vs=[.ref a,.ref m,.ref b]->H a∣ExH a (aC mg "Torn") (hY dx)->uN H lk dx l ws x->H m∣.lst (ss\0)->aF H ss->(∀k,k∈lk↔k∈ss\2)->BeF H (ss\2) b rs-> ~~~rs<=1000->x∈rs\1->(∀H',ah H H'->Q (.bl iv) H')->sY mg vs H Q E0
def qN(T:Txt K mg):↥2 "_law_is_torn" ["_law_refused","_law_laid","_law_beneath_here"] (sY mg):=by
 .exists T.bD,jr,a4,hr,%[a,m,b,dx,l,lk,ws,ss,x,G,rfl,hA,d,hm,hs,le,be,rl,hx|kk];let B:∀H2,ah H H2->TyX K H2 (.ref a) (.ref (aC mg "Torn")):=λH2 s2=> .ex %[_,s2 _ _ hA|.inr %[dx,_,rfl|s2 _ _ d.ad]] T.x_Torn.is
  show%[_,%["KCMlukY~V~WA0A?1BukY~V~WA0A?2BxkYvwA~$0A?3BEIiOCMluY~V~WA0AdA?4A?5A?6BBxY~V~WA0AdA?7A?8A?9BBEIiOCG3~$0CMluN]03RBxkYH]1A3A1AVP3DDAVP3DDBEIiOEIngefA3B~A]2Aoh?:~US2b0?;&~n0WS10WWS100B",jr.nd,(qB (mg:=mg) rfl rfl T.c_Torn rfl),(blE (v:= .ty "ValueError") rfl T.am PyProof.Rows.Boot.«ValueError» rfl rfl rfl),(blE (v:= .ty "list") rfl T.a5 O8 rfl rfl rfl),(qB (mg:=mg) rfl rfl T.c_NoCut rfl),(qB (mg:=mg) rfl rfl T.c_NoGround rfl),(qB (mg:=mg) rfl rfl T.c_NoSaying rfl),(qB (mg:=mg) rfl rfl T.c_NoDeed rfl),(qB (mg:=mg) rfl rfl T.c_NoRow rfl),(qB (mg:=mg) rfl rfl T.c_NoLayer rfl),↑(["_law_deposit","_law_beneath_here"],[(1,2)]),↑["_law_deposit","_law_beneath_here"]|hr]|?_]
  change aU _ _ _ [!a,!m,!b,hX] H;show aj λD1 k1 r1=>?_
  lk;show%[_,B _ (ah.refl _),iv,.inl T.k_Torn_Torn|im %[_,B _ (ah.refl _),iv,T.k_Torn_ValueError|im %[a,dx,_,.ref l,ρ,hA,d.ad,ρ,_,.lst d.al,iv,ρ|im (k1 _ _ (aj λD2 k2 r2=>?_))]]];lk;show%[#[3]|λp hp=>?_];let sp:=ah.Qb (o:= .tup [V.ref (aC mg "NoCut"),V.ref (aC mg "NoGround"),V.ref (aC mg "NoSaying")]) hp;show%[_,B _ sp,jg,.inr %[_,aa|T.k_Torn_any0]|?_]
  generalize Qb H p _=H1 at sp
  show im %[#[3]|λp2 al=>?_];let I:=sp.trans (ah.Qb (o:= .tup [V.ref (aC mg "NoDeed"),V.ref (aC mg "NoRow"),V.ref (aC mg "NoLayer")]) al);show%[_,B _ I,jg,.inr %[_,aa|T.k_Torn_any1]|?_]
  generalize Qb H1 p2 _=H2 at I
  show im (k2 _ _ (aj λD3 k3 r3=>?_));lk;show%[a,dx,_,.ref l,ρ,I _ _ hA,I _ _ d.ad,ρ|k3 _ _ (aj λD4 k4 r4=>?_)];lk;show%[Xc _|λp3 an=>?_];let Y:=I.trans (ah.Qb (o:= .lst []) an);show%[_,Y _ _ d.al,aa|?_]
  generalize Qb H2 p3 _=H3 at Y
  obtain⟨C,wr,rfl⟩:∃C wr,ws=C::wr:=match ws,d.sho.pos with|C::wr,_=>%[C,wr|rfl]
  rw[kw ∅];let l3:=Y _ _ d.al;let ab:=d.sho.wal;let t0:SqT K H3 C.1 (C.2\3):=SqT.of (Y _ _ (d.tu C Zm).2);let e0:atI (C.2\3) 0∣.str x:=by
   let%[c,z,ew|_]:=ab;rw[show C.2=[x,c,z]from ew];rfl
  let i0:atI ((C::wr)\0) 0∣.ref C.1:=bG (j:=0) rfl;show%[_,Qc.of l3,_,i0,_,t0,_,e0,_,Qc.of l3,_,i0,_,t0,_,e0,l,m,x,x,C::wr,ss,ρ,l3,aA d.tu (λb z e=>Y _ _ e),Y _ _ hm,aA hs (λb z e=>Y _ _ e),(λt ht=>(le _).mp (d.sho.sub _ (Xn %[t,ht|ρ]))),ab,d.len|λH4 s4=>%[iv,ρ|im (k4 _ _ ?_)]];let s4:=Y.trans s4;lk;let ac:=be.up s4;let%[o|ho]:=ac.at_;show%[_,.inl %[_,Qc.of (s4 _ _ d.al)|ρ]|aK λa3 hK=>?_];unfold rY;lk;show%[_,_,ho|hK _ _ λF hF=>?_];let gl: ~~~(gD G)= ~~~G:=Z6 _;show dI (J:=Itk b o (gD G)) (n:= ~~~(gD G)) (D:=F) (λi ts σ H'=>A4 (∃o1,σ=[o1,!b]) (ah H4 H') (H' F<*ts) (∃N:ZL,A4 (ts=N\4) (~~~N<=i) (∀n∈N,∃y k,n=((k+1:kj):pp)/\Dst (ss\2) y (k+1) y) (∀r∈G.take i,Rch (ss\2) r.1 r.1->∃n∈N,∀m,Dst (ss\2) r.1 (m+1) r.1->n<=((m+1:kj):pp))))
   %[%[hX|rfl],ah.Qb hF,aa,[],rfl,Zi _,(λ_ h=>nomatch h)|λ_ h=>nomatch h] (λi _ _ H' hi ⟨_,O,_,_⟩=>%[O _ _ ho|hi]) (λ_ _ H' ⟨_,O,_,_⟩=>%[O _ _ ho|Zi _]) ?_ ?_
  .intro i ts σ H' hi %[%[o1|rfl],O,U,N,rfl,nl,n1|n2] x H2 %[e2,k,v,hk|hx];subst e2;let il:i< ~~~G:=by lia
   obtain⟨r,L⟩:∃r,G[i]?∣r:=%[_|Z4 il]
   let as:(gD G)[i]?∣(lp r.1,V.ref r.2.1):=by unfold gD;rw[Zl,L];rfl
   rw[as]at hk;cases hk;obtain rfl:x=V.str r.1:=hx;let%[a,M,ga,%[g,ha|a0],_|hM]:=(ac.up O).get (Xn %[r,Z8 L|rfl]);let tk:G.take (i+1)=G.take i++[r]:=by rw[X7,L];rfl
   let dk:=cr.k (k:=lp r.1) ha;lk;show%[_,ga,_,dk|bT (λc=>?_) λc=>CN.mk hi %[%[_|ρ],O,U,N,ρ,⋯,n1|λq hq h=>?_]]
   .let ae:=uR.mp c;let%[n,en,d1|d2]:=a0 _ ae;rw[dS ae]at dk;show%[_,ga,_,dk|CK.mk hi U (by rw[Z6];show aB ⋯) %[%[_|ρ],ah.set O hF,aa,N++[g r.1],by rw[Zd];rfl,by rw[Z9];show X6 nl,λz hz=>?_|λq hq h=>?_]]
    .rcases Xk hz with u|u
     .show n1 z u
     .rw[Xl u];show%[_,n,en|d1]
    .rw[tk]at hq;rcases Xk hq with u|u
     .let%[z,hz|q2]:=n2 q u h;show%[z,Ys _ hz|q2]
     .rw[Xl u];show%[_,Yt _ Zm|λm hm=>by rw[en];let:=d2 m hm;lia]
   .rw[tk]at hq;rcases Xk hq with u|u
    .show n2 q u h
    .rw[Xl u]at h;show(c (uR.mpr ((hM _).mpr h))).elim
  .intro ts σ H' %[_,O,U,N,rfl,nl,n1|n2];rw[gl,Xa]at n2;let%[k,ek|dk]:=d.sho.dst;rw[ju le]at dk;let%[r,L|rfl]:=Xm hx;let%[n,hn|ag]:=n2 r L dk.rch;let nk:=ag _ dk;rw[Z6]at ek;show%[N,Qc.of U,RW hn|λq hq qm=>?_];let%[y,k2,rfl|d2]:=n1 q hq;let a1:=qm n hn;let a2:=d.min y k2 (by rw[ju le];show d2);rw[show decide ((~~~((C::wr)\0):pp)=((k2+1:kj):pp))=iv from Zf (by rw[Z6];lia)];show kk _ (s4.trans O)
inductive qf (mg:ZC)
 | mk (g m b:kG) (qs:ZN) (ls:ZB) (ts ss:ZG) (rs:Gs lx):vs=[.ref g,.ref m,.ref b]->h9 mg H g qs ls ts->bP (ba qs) (ts\2) (ss\2)->(∃x,Rch (ss\2) x x)->H m∣.lst (ss\0)->aF H ss->BeF H (ss\2) b rs-> ~~~rs<=1000->(∀x,Rch (ss\2) x x->x∈rs\1)->(∀H',ah H H'->Q (.bl iv) H')->qf mg vs H Q E0
def qg(T:Txt K mg):↥9 "_law_all_torn" ["_law_ground_here","_law_laid","_law_beneath_here"] (qf mg):=by
 let XL:=Ew (P:=P) (w:=w) (base:=base) T;let XD:=qd (P:=P) (w:=w) (base:=base) T;show T.bH.cal cR (λH vs Q E h=>?_)
 .let%[g,m,b,qs,ls,ts,ss,rs,rfl,hg,U,hx,hm,hs,be,rl,Y|kk]:=h;show%[ρ|λf ae A outer s hr=>?_];show%[_,%["KCQTRA?1A?2A?1BJ3CG4:C?3CMkYH]3A4A1A2BEIiOEZ]4]5~$4EIi",cR.nd,(qB (mg:=mg) rfl rfl T.aW.at_ rfl),(qB (mg:=mg) rfl rfl T.aU.at_ rfl),(tryE (i:=5) rfl rfl cR.nd rfl rfl rfl rfl T.c_DigError T.t_DigError rfl (λ_ _=>
    (ap (bC rfl (KG Bg hr rfl rfl ↑3 #[↑0]))))
    (λ_=>(ap (aH 4 cR.nd rfl ↑5))))|hr]|?_]
  change aU _ _ _ [!g,!m,!b,hX,hX,hX] H;show aj λD1 k1 r1=>aw λac hK=>?_
  lk;show%[#[3]|λp hp=>?_];let ab:∀v∈[V.ref (aC mg "levels"),V.ref (aC mg "direct_pairs"),V.ref (aC mg "levels")],∃y,v= .ref (aC mg y)/\xS P w K mg base 8 y ["ground"] (jF mg):=by
   intro v r;rcases Yu.mp r with rfl|r
   .show%[_,ρ|XL]
   rcases Yu.mp r with rfl|r
   .show%[_,ρ|XD]
   rw[Xl r];show%[_,ρ|XL]
  let sp:=ah.Qb (o:= .lst [V.ref (aC mg "levels"),V.ref (aC mg "direct_pairs"),V.ref (aC mg "levels")]) hp;let gp:Qb H p (.lst [V.ref (aC mg "levels"),V.ref (aC mg "direct_pairs"),V.ref (aC mg "levels")]) p=_:=aa
  generalize Qb H p _=H1 at sp gp
  show%[%[_|Qc.of gp]|hK _ _ (eC (λi M n=>(E2 λo3 N=>M=[!g,!m,!b,o3,N,hX])/\ah H1 n) %[%[_,_|ρ]|ah.refl _] (λi M n _ ⟨_,u⟩=>Qc.of (u _ _ gp)) ?_ ?_)]
  .intro i v M n r %[%[o3,N|rfl]|u];let%[y,rfl|hy]:=ab v (Z8 r);let s1:=sp.trans u;change aU _ _ _ [!g,!m,!b,hY (.ref (aC mg y)),N,hX] n;show aj λD2 k2 r2=>?_
   lk;show k2 _ _ (aj λD3 k3 r3=>?_);obtain⟨XE,I⟩:∃XE:_LL.St->XK,XE=λJ c d G=>J=[!g,!m,!b,hY (.ref (aC mg y)),hY .non,hX]/\c= .ref (aC mg "Torn")/\∃j l ws x,d∣j/\ah n G/\n j=hX/\n l=hX/\j≠l/\uN G (ss\2) j l ws x:=%[_|rfl]
   show%[XE,?_|?_]
   .lk;show%[8,y,["ground"],_,hy,ρ,ρ|?_];change jF mg [.ref g] n _ _;show%[g,qs,ls,ts,ss\2,[],ρ,hg.up s1,U,hx|λd l G ws x s' hd hl dl q=>by rw[I];show%[ρ,ρ,d,l,ws,x,ρ,s',hd,hl,dl|q]]
   .intro J c d G h;rw[I]at h;let%[rfl,rfl,j,l,ws,x,rfl,s2,ag,fl,al|q]:=h;show%[_,ρ,T.u_Torn|λa _ ha=>?_];let hA:Qb G a (ExH a (aC mg "Torn") (hY j)) a∣_:=aa;let L:=ah.Qb (o:=ExH a (aC mg "Torn") (hY j)) ha;let B:=s2.trans L;change qo _ _ _ [!g,!m,!b,hY (.ref (aC mg y)),hY .non,!a] _
    generalize Qb G a _=H3 at hA L B
    show az λD4 k4 r4=>?_
    lk;show k4 _ _ (k3 _ _ ?_);change aU _ _ _ [!g,!m,!b,hY (.ref (aC mg y)),!a,hX] H3;show aj λD5 k5 r5=>?_
    lk;let s3:=s1.trans B;let C:uN H3 (ss\2) j l ws x:=%[L _ _ q.ad,L _ _ q.al,aA q.tu (λb z e=>L _ _ e),q.sho,q.min|q.len]
    show%[a,m,b,j,l,ss\2,ws,ss,x,rs,ρ,hA,C,s3 _ _ hm,aA hs (λb z e=>s3 _ _ e),(λk=>Nz),be.up s3,rl,Y x q.sho.rch|λH4 O=>%[iv,ρ|im (k5 _ _ (az λD6 k6 r6=>?_))]];lk;let l4:=O _ _ C.al;show%[a,j,_,.ref l,ρ,O _ _ hA,O _ _ C.ad,ρ,tyL (Qc.of l4),%[_|l4]|k6 _ _ %[%[_,_|ρ]|ah.set (u.trans (B.trans O)) (u.free fl)]]
  .intro M n %[%[o3,N|rfl]|u];show k1 _ _ ?_;lk;show kk _ (sp.trans u)
structure Hi (ks:hH ZB) (lv h:lx->pp) (t:pp):Prop where
 le:∀x,h x<=lv x
 up:∀x,lv x<=t->h x=lv x
inductive Ex
 | mk (m b:kG) (ss:ZG) (rs:Gs lx) (lv:lx->pp):vs=[.ref m,.ref b]->H m∣.lst (ss\0)->dq H (rs\1) ss-> ~~~ss<=250->BeF H (ss\2) b rs-> ~~~rs<=63->(∀x y,Ed (ss\2) x y->lv y<lv x)->(∀x,0<=lv x/\lv x<= ~~~rs/\((∃y,Ed (ss\2) x y/\lv x=lv y+1)\/lv x=0))->(∀d H',ah H H'->H d=hX->H' d∣.dK (VD (rs\1) λx=> .int (lv x))->Q (.ref d) H')->Ex vs H Q E0
def By(T:Txt K mg):↥1 "_law_due" ["_law_laid","_law_beneath_here"] Ex:=by
 .exists T.bE,dC,a2,hr,%[m,b,ss,a,O,rfl,hm,hs,sl,be,rl,al,C|kk];let%[o|ho]:=be.at_;show%[_,%["KCG2yCQ~U1J3EqD23CQ$Ae]6A1BBJ4EQT0jLJ5LJ6LJ7cEq~}]7AW25AFaW26DB25EI2",dC.nd|hr]|?_]
  change aU _ _ _ [!m,!b,hX,hX,hX,hX,hX,hX] H;show aj λD1 k1 _=>?_
  lk;intro d U;show k1 _ _ (aj λD2 k2 _=>aw λG Y=>?_);let s1:=ah.Qb (o:= .dK []) U;let ab:Qb H d (.dK []) d∣.dK (VD [] λ_=> .int 0):=aa
  generalize Qb H d _=H1 at s1 ab
  unfold rY;lk;let kl: ~~~(gD a)= ~~~a:=Z6 _;let bd:b≠d:=ax ho U;show%[_,_,s1 _ _ ho|Y _ _ (v9 (λi l n=>A3 (∃B,l=[!m,!b,!d,B,hX,hX,hX,hX]) (ah H n) (n d∣.dK (VD ((a\1).take i) λ_=> .int 0)))
   %[%[_|ρ],s1|ab] (λi l n _ ⟨_,sm,_⟩=>sm _ _ ho) ?_ ?_)]
  .intro i k v l n hk %[%[B|rfl],sm|an];let il:i< ~~~a:=by let:=(Xj hk).1;lia
   obtain⟨r,ac⟩:∃r,a[i]?∣r:=%[_|Z4 il]
   let as:(gD a)[i]?∣(lp r.1,V.ref r.2.1):=by unfold gD;rw[Zl,ac];rfl
   rw[as]at hk;cases hk;let en:(a\1)[i]?∣r.1:=by rw[Zl,ac];rfl
   let tk:(a\1).take (i+1)=(a\1).take i++[r.1]:=by rw[X7,en];rfl
   let nt:r.1∉(a\1).take i:=λc=>by
    let%[j|hj]:=Xd c;let jl:=(Xj hj).1;rw[Yk]at jl;rw[Yb ⋯]at hj;let:=gN be.nd hj en
    lia
   change jM _ _ _ _ [!m,!b,!d,hY (.str r.1),hX,hX,hX,hX] n;show az λD3 k3 _=>?_
   lk;show%[_,fE.k (k:=lp r.1) (v:= .int 0) an (by unfold VD;rw[Z6,Yk,Z6];show aB ⋯)|k3 _ _ %[%[_|ρ],ah.set sm U|?_]];rw[aa,tk,uP (h:=λ_=> .int 0) nt λ_ _=>rfl]
  .intro l H2 %[%[B|rfl],s2|ae];rw[kl,Zn (by rw[Z6];show Zi _)]at ae;show k2 _ _ (aj λD4 k4 _=>aw λG Y=>?_);lk;show%[_,.inr %[_|s2 _ _ ho],⋯,⋯|Y _ _ (b7 (λi l n=>E6 λ(B o4 I J L:lX V) (h:lx->pp)=>A4 (l=[!m,!b,!d,B,o4,I,J,L]) (ah H n) (n d∣.dK (VD (a\1) λx=> .int (h x))) (Hi (ss\2) O h i))
    %[_,_,_,_,_,λ_=>0,ρ,s2,ae,λx=>(C x).1|λx q=>by let:=(C x).1;change(0:pp)=_;lia] ?_ ?_)]
   .intro i l H3 hi %[B,o4,I,J,L,h,rfl,s3,M|hh];change tf _ _ _ _ [!m,!b,!d,B,hY (.int (0+i)),I,J,L] H3;rw[Nx];show az λD5 k5 _=>aw λG Y=>?_
    lk;show%[%[_|Qc.of (s3 _ _ hm)]|Y _ _ (bD (λj l n=>E4 λ(I J L:lX V) (g:lx->pp)=>A6 (l=[!m,!b,!d,B,hY (.int i),I,J,L]) (ah H n) (n d∣.dK (VD (a\1) λx=> .int (g x))) (∀x,g x<=O x) (∀x,h x<=g x) (∀x y z,[x,y,z]∈(ss.take j)\2->h y+1<=g x))
     %[_,_,_,h,ρ,s3,M,hh.le,(λ_=>QJ _)|λ_ _ _ h=>nomatch h] (λj l n ⟨_,_,_,_,_,sm,_,_,_,_⟩=>sm _ _ hm) ?_ ?_)]
    .intro j t l H4 ht %[I,J,L,g,rfl,s4,p,N,gm|gd];let tm:=Z8 ht;let%[a0,x,y,z,et,hx|hy]:=hs t tm;let tk:ss.take (j+1)=ss.take j++[t]:=by rw[X7,ht];rfl
     let ag:=s4 _ _ a0;rw[et]at ag;let a1:Ed (ss\2) x y:=%[z|Xn %[t,tm|et]]
     let g1:=cr.k (k:=lp x) p;let g2:=cr.k (k:=lp y) p;rw[dS hx]at g1;rw[dS hy]at g2;show%[_,SqT.of ag,ρ,_,_,ρ,_,_,ρ,_,_,ρ,ρ|?_];change jM _ _ _ _ [!m,!b,!d,B,hY (.int i),-x,-y,-z] H4;show az λD6 k6 _=>?_
     lk;obtain⟨v,ev,v1,v2,v3⟩:∃v:pp,(if g y+1>g x then g y+1 else g x)=v/\g x<=v/\g y+1<=v/\v<=O x:=%[_,rfl,by split<;> lia,by split<;> lia|by let:=al x y a1;let:=N x;let:=N y;split<;> lia]
     show%[_,g1,_,g2,_,fE.k (k:=lp x) (v:= .int _) p (by unfold VD;rw[Z6,Z6];show aB ⋯)|k6 _ _ %[_,_,_,λz=>if z=x then v else g z,ρ,ah.set s4 U,?_,λu=>?_,λu=>?_|λu y' z' hu=>?_]]
     .rw[aa,ev,El hx];show tI (λf=>hY (HO.dK (VD (a\1) f))) (funext λu=>?_);change(if u=x then V.int v else V.int (g u))=V.int (if u=x then v else g u)
      split<;> rfl
     .change(if u=x then v else g u)<=_
      split
      .rename_i c;rw[c];show v3
      .show N u
     .change _<=(if u=x then v else g u)
      split
      .rename_i c;rw[c];let:=gm x;lia
      .show gm u
     .change _<=(if u=x then v else g u)
      rw[tk,Zd]at hu;rcases Xk hu with q|q
      .let:=gd u y' z' q
       split
       .rename_i c;rw[c]at this;lia
       .show this
      .let e:[u,y',z']=[x,y,z]:=(Xl q).trans et;cases e;rw[md rfl];let:=gm y
       lia
    .intro l H4 %[I,J,L,g,rfl,s4,p,N,gm|gd];rw[Xa]at gd;show k5 _ _ %[_,_,_,_,_,g,rfl,s4,p,N|λx q=>?_];by_cases c:O x<=i
     .let:=gm x;let:=N x;let:=hh.up x c
      lia
     .let%[y,%[z|hz]|e]:=(C x).2.2.resolve_right λc2=>by lia
      let:=gd x y z hz;let:=hh.up y ⋯;let:=N x
      lia
   .intro l H3 %[B,o4,I,J,L,h,rfl,s3,M|hh];show k4 _ _ ?_;lk;show kk d H3 s3 U ?_;rw[M];let:h=O:=funext λx=>hh.up x (by rw[kl];let:=(C x).2.1;lia)
    rw[this]
inductive wX (mg:ZC)
 | mk (g:kG) (qs:ZN) (ls:ZB) (ts:ZG):vs=[.ref g]->h9 mg H g qs ls ts->(∀lk,bP (ba qs) (ts\2) lk->∀x,¬ Rch lk x x)->(∀t d H' lk ns L lv,ah H H'->H d=hX->H t=hX->H' t<*[.ref d,.non]->bP (ba qs) (ts\2) lk->wF (ba qs) ls ns->H' d∣.dK (VD L λx=> .int (lv x))->m8 lk ns L lv->Q (.ref t) H')->wX mg vs H Q E0
inductive wY
 | mk (d e:kG) (o:MU) (L M:ZB) (lv:lx->pp):vs=[.ref d,.ref e]->H d∣.frz o (.dK (VD L λx=> .int (lv x)))->H e∣.dK (VD M λx=> .int (lv x))-> ~~~L= ~~~M->(∀x∈L,x∈M)->(∀H',ah H H'->Q (.bl iv) H')->wY vs H Q E0
def qh(T:Txt K mg):↥9 "_law_told" ["_law_ground_here"] (wX mg):=by
 .exists T.bF,gF,i,j,%[g,qs,b,ts,rfl,l,nr|m];show%[_,(QSs.h (ai (aH 1 gF.nd rfl qt)
   (ai (aH 2 gF.nd rfl qt)
   (ai (Kr (λ_ _ h=>h) (ap (aH 1 gF.nd rfl (aJ (Eo T) j rfl #[↑0]))))
   (ap (aL (bI #[↑1,↑2])))))))|?_]
  change aU _ _ _ [!g,hX,hX,hX] H;show aj λy k1 _=>?_
  lk;show k1 _ _ (aj λz k2 _=>?_);lk;show k2 _ _ (aj λB n _=>?_);lk;show%[g,qs,b,ts,ρ,l,nr|λd C lk p L q c r a u v lo=>n _ _ ?_];lk;show%[#[2]|λt e=>?_];let sp:=ah.Qb (o:= .lst [V.ref d,V.non]) e;show m t d _ lk p L q (c.trans sp) r (c.free e) aa a u (sp _ _ v) lo
def uS(T:Txt K mg):↥1 "_law_right" ["_law_told_here","_law_due_here"] wY:=by
 .exists T.bG,lq,z,m,%[d,e,o,L,M,a,rfl,c,B,C,sub|G];show%[_,%["KCMlukYv]8A0A?1BxN~801EIiOCQ~U0J2EMlukYvwAW02A?2BxYvwAW02A?3BEIiOEIi",lq.nd,(blE (v:= .ty "dict") rfl T.an boot_dict rfl rfl rfl),(blE (v:= .ty "int") rfl T.ai Wa rfl rfl rfl),(blE (v:= .ty "bool") rfl T.aj boot_bool rfl rfl rfl)|m]|?_]
  change aU _ _ _ [!d,!e,hX] H;show aj λU k1 _=>?_
  lk;show%[%[_|.inr %[o|c]],iv,ρ|?_];show im ?_;show%[_,_,.inr %[o|c],.inl B,by unfold VD;rw[Z6,Z6,C],λp I=>?_|?_]
  .let%[x,j|rfl]:=Xm I;show%[a x,ρ|dS (sub x j)]
  lk;show k1 _ _ (aj λY k2 r2=>aw λu J=>?_);unfold rY;lk;show%[_,_,c|J _ _ (v9 (λi l b=>(∃n,l=[!d,!e,n])/\b=H) %[%[_|ρ]|ρ] (λi l b _ h=>h.2▸c) ?_ ?_)]
  .intro i k v l b q %[%[n|rfl]|rfl];let N:i< ~~~L:=by let:=(Xj q).1;unfold VD at this;rwa[Z6]at this
   obtain⟨x,j⟩:∃x,L[i]?∣x:=%[_|Z4 N]
   let r:(VD L λx=>V.int (a x))[i]?∣(lp x,V.int (a x)):=by unfold VD;rw[Zl,j];rfl
   rw[r]at q;cases q;let y:cr b d (.str x) (hY (.int (a x))):= .inl %[_,lp x,.inr %[o|c],rfl|(dS (g:=λx=>V.int (a x)) (Z8 j)).symm];change jZ _ _ _ _ [!d,!e,-x] b;show az λD3 O _=>?_
   lk;show%[_,y,_,.int _,iv,ρ|im %[_,y,_,.int _,jg,ρ|im (O _ _ %[%[_|ρ]|ρ])]]
  .intro l b %[%[n|rfl]|rfl];show k2 _ _ ?_;lk;show G _ (ah.refl _)
def wZ{h:Type}{f:h->ZB}{nm:h->lx}:∀{xs:hH h},(xs.map nm).Nodup->(∀p∈xs,(f p).Nodup)->(∀p∈xs,∀x∈f p,∃c,x=lnS (nm p) (sgn c))->(xs.flatMap f).Nodup
 |[],_,_,_=>X1
 | p::xs,i,m,j=>by
   rw[Yp,Mi]at i;rw[Oh,Yy];show%[m p Zm,wZ i.2 (λq g=>m q (Zk _ g)) (λq g=>j q (Zk _ g))|λa n b o e=>?_];let%[q,g|l]:=Lf.mp o;let%[c|r]:=j p Zm a n;let%[d|s]:=j q (Zk _ g) b l;show i.1 (Xn %[q,g|(pO (r.symm.trans (e.trans s))).symm])
def Bz(p:kG×lx×ZB):(lyr p).Nodup:=by
 unfold lyr;rw[Yz,NL];show Xe (λ{x y} b e a f=>?_) (Yz.mp (c8 ((cL p.2.2).map sgn)));let%[c,_|rfl]:=ki b;let%[d,_|rfl]:=ki e;show a (by rw[uG f])
def uT{cs:ZH}(b:(cs.map λp=>p.2.1).Nodup){a:ZB}(h:a.Perm (cs.flatMap lyr)):a.Nodup:=by
 rw[h.nodup_iff];show wZ (nm:=λp:kG×lx×ZB=>p.2.1) b (λp _=>Bz p) λp d x c=>Ea c
structure qi (H:Hp) (cs:ZH) (qs:ZN):Prop where
 ca:bO H cs
 nd:(cs.map λp=>p.2.1).Nodup
 p1:1<= ~~~cs
 p3: ~~~cs<=3
 few:∀p∈cs,qC p.2.2
 ly: ~~~(cs.flatMap lyr)<=63
 sa:∀ls:ZB,ls.Perm (cs.flatMap lyr)->cW H ls qs
 q20: ~~~qs<=36
def qi.up{H a:Hp}{cs:ZH}{qs:ZN}(h:qi H cs qs)(s:ah H a):qi a cs qs:=
 %[h.ca.up s,h.nd,h.p1,h.p3,h.few,h.ly,λb p=>(h.sa b p).up s|h.q20]
inductive qj (K:ZA)
 | mk (a:kG) (ns:ZL):vs=[.ref a]->Qc K H a (ns\4)->Fq H-> ~~~ns<=63->(∀H',Q (.bl iv) H')->qj K vs H Q E0
def qk{a b:Type}(f:a->b)(xs:hH a)(is:hH kj):is.filterMap ((xs.map f)[·]?)=(is.filterMap (xs[·]?)).map f:=by
 rw[hH.map_filterMap];show tI (λg=>hH.filterMap g is) (funext λi=>Zl ..)
def Ey{a:Type}{xs:hH a}{is:hH kj}{q:a}(h:q∈is.filterMap (xs[·]?)):q∈xs:=by
 let%[i,_|e]:=LG.mp h;show Z8 e
def nA.sub{H:Hp}{cs:ZH}{qs a:ZN}(h:nA H cs qs)(r:∀q∈a,q∈qs)(l: ~~~a<= ~~~qs):nA H cs a:=%[h.c1,h.c3,h.ca,h.nd,h.few,h.ly,λq b=>h.sa q (r q b)|n7 l h.ql]
def nA.up{H a:Hp}{cs:ZH}{qs:ZN}(h:nA H cs qs)(s:ah H a):nA a cs qs:=%[h.c1,h.c3,h.ca.up s,h.nd,h.few,h.ly,h.sa.up s|h.ql]
def nA.pair{H:Hp}{cs:ZH}{qs:ZN}(h:nA H cs qs):qi H cs qs:=%[h.ca,h.nd,h.c1,h.c3,h.few,h.ly,λc p q a=>%[(h.sa q a).1|(h.sa q a).2.sub λz b=>p.mem_iff.mpr b]|h.ql]
structure uU (mg:ZC) (H:Hp) (g l1 l2:kG) (cs:ZH) (qs:ZN) (ls:ZB) (ts:ZG):Prop where
 gd:nA H cs qs
 h1:H l1<*bA cs
 h2:H l2∣.lst (qs\0)
 gr:h9 mg H g qs ls ts
 pl:ls.Perm (cs.flatMap lyr)
 tm:∀k,k∈ts\2↔k∈cx cs\/k∈cy qs qs.length
def uU.up{mg:ZC}{H a:Hp}{g b c:kG}{cs:ZH}{qs:ZN}{d:ZB}{ts:ZG}(h:uU mg H g b c cs qs d ts)(s:ah H a):uU mg a g b c cs qs d ts:=%[h.gd.up s,s _ _ h.h1,s _ _ h.h2,h.gr.up s,h.pl|h.tm]
def zV{H:Hp}{g c a b:kG}{cs:ZH}{qs:ZN}{R:Hp->Prop}(j:H g=hX)(i:H c=hX)(n:H a<*bA cs)(r:H b∣.lst (qs\0))(p:qi H cs qs)
 (k:∀f d ts,ah H f->h9 mg f g qs d ts->d.Perm (cs.flatMap lyr)->(∀k,k∈ts\2↔k∈cx cs\/k∈cy qs qs.length)->R f):
 uF mg [.ref g,.ref a,.ref b] (Qb (Qb H c (.own g)) g (.ins (aC mg "Ground") c [])) (λv s=>v= .non/\R s) E0:=by
 let h:ah H (Qb (Qb H c (.own g)) g (.ins (aC mg "Ground") c [])):=λb o e=>by
  rw[ao (ax e j),ao (ax e i)];show e
 show%[g,a,b,c,cs,qs,ρ,aa,h _ _ n,h _ _ r,p.ca.up h,p.nd,p.p1,p.p3,p.few,p.ly,λd q=>(p.sa d q).up h,p.q20|λf d ts c2 c3 u y z tk A B C pl E=>%[ρ|k f d ts (λb o e=>y b o (ax e j) (h _ _ e)) %[%[c2,c3,u|z],uT p.nd pl,E,by rw[pl.length_eq];show p.ly,C,λk l=>?_,λk l=>?_|A] pl B]]<;> have%[t,m|rfl]:=Xm l
 .show(tk t m).1
 .show(tk t m).2
def zW{ks:hH ZB}{f L:ZB}{a:lx->pp}(h:m8 ks f L a)(nr:∀x,¬ Rch ks x x)(g:∀x y,Ed ks x y->x∈L/\y∈L){x:lx}(b:x∈L):0<=a x:=
 K4 λc=>yi (ks:=ks) (U:=L.filter λx=>decide (a x<0)) (λx b=>by
  let%[i|d]:=on.mp b;let d:=Zo d;let%[y,e|q]:=(h.at_ x i).2.resolve_right λq=>by lia
  show%[y,on.mpr %[(g x y e).2|Zf ⋯]|e]) nr (on.mpr %[b|Zf ⋯])
def Gy{ks o:hH ZB}{u j L M:ZB}{f g:lx->pp}(h:m8 ks u L f)(v:m8 o j M g)(e:∀k,k∈ks↔k∈o)(nr:∀x,¬ Rch ks x x)(A:∀x y,Ed ks x y->x∈L/\y∈L)(B:∀x∈L,x∈M){x:lx}(l:x∈L):f x=g x:=
 K4 λc=>yi (ks:=ks) (U:=L.filter λx=>decide (f x≠g x)) (λx l=>by
  let%[p|m]:=on.mp l;let n:=Zo m;let a:=h.at_ x p;let b:=v.at_ x (B x p);unfold Gn at b;rw[<-nN e]at b;show LD λq=>n ?_
  let r:∀y,Ed ks x y->f y=g y:=λy d=>K4 λc=>q %[y,on.mpr %[(A x y d).2|Zf c]|d]
  rcases a.2 with⟨y,d,C⟩|⟨n1,C⟩
  .let:=r y d;let:=b.1 y d;rcases b.2 with⟨z,i,s⟩|⟨j,_⟩
   .let:=r z i;let:=a.1 z i
    lia
   .show(j y d).elim
  .rcases b.2 with⟨z,i,s⟩|⟨_,s⟩
   .show(n1 z i).elim
   .lia) nr (on.mpr %[l|Zf c])
def zX{ks:hH ZB}{f L:ZB}{b:lx->pp}(h:m8 ks f L b)(d:∀x y,Ed ks x y->x∈L/\y∈L):∀{n:kj} {x:lx},x∈L->b x=n->∀k:kj,k<=n->∃y∈L,b y=k
 | 0,x,a,e,k,g=>%[x,a|⋯]
 | n+1,x,a,e,k,g=>by
   by_cases c:k=n+1
   .show%[x,a|⋯]
   .let%[y,i|q]:=(h.at_ x a).2.resolve_right λq=>by lia
    show zX h d (n:=n) (d x y i).2 ⋯ k ⋯
def JH{ks:hH ZB}{d L:ZB}{a:lx->pp}(h:m8 ks d L a)(nr:∀x,¬ Rch ks x x)(b:∀x y,Ed ks x y->x∈L/\y∈L){x:lx}(c:x∈L):a x<= ~~~L:=by
 let%[n|e]:=Xf (zW h nr b c);let:=_ST.nodup_sub (OO (n:=n+1)) (m:=L.map λx=>(a x).toNat) λk f=>by
  let%[y,g|q]:=zX h b c e k (by let:=wh.mp f;lia);show Xn %[y,g|by rw[q];rfl]
 rw[Yi,Z6]at this
 lia
def w6{L M:ZB}(a:L.Nodup)(b:M.Nodup)(e:∀x,x∈L↔x∈M): ~~~L= ~~~M:=Uz (_ST.nodup_sub a λx c=>(e x).mp c) (_ST.nodup_sub b λx c=>(e x).mpr c)
abbrev lvO(L:ZB)(a:lx->pp)(x:lx):pp:=if x∈L then a x else 0
def JI(L:ZB)(a:lx->pp):(VD L λx=>V.int (a x))=VD L λx=>V.int (lvO L a x):=by
 unfold VD;show Yo λx b=>?_
 change(lp x,V.int (a x))=(lp x,V.int (if x∈L then a x else 0))
 rw[md b]
structure Kpt (mg:ZC) (H6 H:Hp) (q:kG×kG×kG×kG):Prop where
 tu:H q.1&&&[.ref q.2.1,.ref q.2.2.1,.ref q.2.2.2]
 ne:q.2.1≠q.2.2.1
 f1:H6 q.2.1=hX
 f2:H6 q.2.2.1=hX
 ex:∃qs ls ts lk ns L lv,h9 mg H6 q.2.2.2 qs ls ts/\bP (ba qs) (ts\2) lk/\(∀x,¬ Rch lk x x)/\wF (ba qs) ls ns/\m8 lk ns L lv/\(∀x y,Ed lk x y->x∈L/\y∈L)/\H q.2.1∣.dK (VD L λx=> .int (lv x))/\H q.2.2.1∣.dK (VD L λx=> .int (lv x))
def Ez{a:Type}(ks:hH a)(f:a->V):xv (ks.map f) hX (hY 1)=(ks.take 1).map f:=by
 unfold xv;rw[show(1:pp)=((1:kj):pp)from rfl,_HT.sIx_nat,_HT.sIx_none,SV,So];cases ks with
 | nil=>rfl
 | cons q r=>simp
def EA{L:ZB}{g h:lx->V}(e:∀x∈L,g x=h x):VD L g=VD L h:=Yo λx a=>by rw[e x a]
def mD{H e:Hp}{d:kG}{o:MU}{a:hH (Key×V)}(f:H d∣.dK a)(s:ah (Qb H d (.frz o (.dK a))) e):ah H (Qb e d (.dK a)):=λb u q=>by
 by_cases c:b=d
 .rw[c]at q ⊢;rw[aa,<-q,f]
 .rw[ao c];show s _ _ (by rw[ao c];show q)
def zY{H:Hp}{qs:ZN}(j:kj)(u v:V)(a:(qs\0)[j]?∣u)(b:(qs\0)[j]?∣v):zh H u v:=by
 rw[a]at b;cases b;let%[q,_|rfl]:=Xm (Z8 a);show .inl %[rfl|rfl]
def Kpt.keep{mg:ZC}{i H j:Hp}{q:kG×kG×kG×kG}(h:Kpt mg i H q)(k:∀b o,(∀xs,o≠ .lst xs)->H b∣o->j b∣o):Kpt mg i j q:=by
 let%[a,c,d,e,f,l,g,m,n,p,r,s,u,v|y]:=h.ex;show%[k _ _ (λ_=>nofun) h.tu,h.ne,h.f1,h.f2,a,c,d,e,f,l,g,m,n,p,r,s,u,k _ _ (λ_=>nofun) v|k _ _ (λ_=>nofun) y]
def JJ{f:kG}{fd:Nc}(F:Fun K "law" "law" lz f fd)(T:Txt K mg):dG P w K mg base CX0 12 f fd ["_law_script"] (qj K):=by
 let B:=λT:Txt K mg=>(uS (P:=P) (w:=w) (base:=base) T).frozen
 show F.ok du (by intro a b c d h;let%[_,_,rfl|_]:=h;rfl) (λf0 A outer s H vs Q E I h=>?_)
 .let%[a,ns,rfl,hs,ho,hn|kk]:=h;show%[_,%["KC~zH]9A0B~!LJ1LJ2cCG3~9]AA,/A1BA,/A2BBCG4~9]AA,/A1BA~%2DBCG5RBCQTRAdA3A2BAdA4A~%2DBAdA3A2BBjLJ6LJ7cCG8H`AA1A7BCG9H`BA1A7A8BCG:H`CA9A8BEMYH`DAr:BEMkYH`EA6A9Ar:BEIiOC~zH]BA6B~!LJ;LJ<cCMluN~Tr<:xkYH]CAr;AH`FA9Ar:BBEIiOEZpm5AdAr;A`G`HAr;BA6BBCMN>oh?2T5jLb0?3Lb1?3Lb2?3c&N~8010RBEIiOCQT~h5~j~iDjLJ;LJ=LJ6cCZ`I`Jr;EMkYH]CAPH]BA6BDAr=BEIiOEI'n]D^~t32)n]D^~t4~%2D",du.nd,B,↑(["_law_told_here","_law_as_told","_law_one"],[]),↑["_law_told_here","_law_as_told","_law_one"]|I]|?_]
  change aU _ _ _ [!a,hX,hX,hX,hX,hX,hX,hX,hX,hX,hX,hX,hX,hX] H;show aj λD1 k1 _=>?_
  lk;show%[a,ns,ρ,hs,⋯|λt l1 l2 H1 cs qs s1 ht h1 h2 M=>%[_,Qc.of ht,ρ,_,_,ρ,_,_,ρ,ρ|k1 _ _ (aj λD2 k2 _=>?_)]];lk;show%[_,.inl (Qc.of h1)|λx1 cl=>%[_,.inl (Qc.of (ah.Qb cl _ _ h2))|λx2 co=>?_]];let sx:=(ah.Qb (o:= .lst (bA cs)) cl).trans (ah.Qb (o:= .lst (qs\0)) co);let ct:=ah.Qb (o:= .lst (qs\0)) co _ _ (aa (H:=H1) (a:=x1) (o:= .lst (bA cs)));let cv:Qb (Qb H1 x1 (.lst (bA cs))) x2 (.lst (qs\0)) x2=_:=aa
  generalize Qb (Qb H1 x1 (.lst (bA cs))) x2 _=Hx at sx ct cv
  show λg dx fg er f5=>zV fg er ct cv (M.up sx).pair λC ls ts s2 gr pl tm=>k2 _ _ (aj λD3 k3 _=>?_)
  let bl:=sx.trans s2;let l:uU mg C g l1 l2 cs qs ls ts:=%[M.up bl,bl _ _ h1,bl _ _ h2,gr,pl|tm]
  lk;show%[_,.inl (Qc.of l.h1)|λx3 es=>?_];let u1:=ah.Qb (o:= .lst (bA cs)) es;let cw:Qb C x3 (.lst (bA cs)) x3=_:=aa
  generalize Qb C x3 _=cM at u1 cw
  unfold DN;lk;show%[_,(l.up u1).h2|λb fb il=>?_];simp only[qk,Z6]at il ⊢;let q2:∀q∈(evI qs.length).filterMap (qs[·]?),q∈qs:=λq hq=>Ey hq
  generalize c0:(evI qs.length).filterMap (qs[·]?)=N at il q2 ⊢
  let u2:=ah.Qb (o:= .lst (N\0)) fb;let gb:Qb cM b (.lst (N\0)) b=_:=aa
  generalize Qb cM b _=H3 at u2 gb ⊢
  let c5:=u1.trans u2;let c6:=(l.up c5).gd.sub q2 il;show λg2 f6 et da _=>zV et da (u2 _ _ cw) gb c6.pair λH4 eu ev u3 db ew ey=>k3 _ _ (aj λD5 k5 r5=>?_)
  let l:=(l.up c5).up u3;let ez:=c6.up u3;lk;show%[Xc _|λkp ag=>k5 _ _ (aj λD6 k6 r6=>aw λdd hK=>?_)];let v1:=ah.Qb (o:= .lst []) ag;let gk:Qb H4 kp (.lst []) kp=_:=aa
  generalize Qb H4 kp _=H5 at v1 gk
  lk;show%[#[2]|λp1 f1=>?_];let w1:=ah.Qb (o:= .tup [V.ref g,V.ref l2]) f1;let de:Qb H5 p1 (.tup [V.ref g,V.ref l2]) p1=_:=aa
  generalize Qb H5 p1 _=Ha at w1 de
  unfold DN;lk;show%[_,(v1.trans w1) _ _ l.h2|λc fc eH=>?_];simp only[qk,Z6,c0]at eH ⊢;let w2:=ah.Qb (o:= .lst (N\0)) fc;let gc:Qb Ha c (.lst (N\0)) c=_:=aa
  generalize Qb Ha c _=Hb at w2 gc ⊢
  show%[#[2]|λp2 f2=>?_];let w3:=ah.Qb (o:= .tup [V.ref g2,V.ref c]) f2;let dg:Qb Hb p2 (.tup [V.ref g2,V.ref c]) p2=_:=aa
  generalize Qb Hb p2 _=Hc at w3 dg
  show%[#[2]|λp3 f3=>?_];let w4:=ah.Qb (o:= .tup [V.ref g,V.ref l2]) f3;let dk:Qb Hc p3 (.tup [V.ref g,V.ref l2]) p3=_:=aa
  generalize Qb Hc p3 _=Hd at w4 dk
  show%[#[3]|λp4 f4=>?_];let w5:=ah.Qb (o:= .lst [V.ref p1,V.ref p2,V.ref p3]) f4;let as:Qb Hd p4 (.lst [V.ref p1,V.ref p2,V.ref p3]) p4=_:=aa
  generalize Qb Hd p4 _=He at w5 as
  let dn:=w4.trans w5;let dp:=w3.trans dn;let dr:=w2.trans dp;let ds:=w1.trans dr;let xk:=ds _ _ gk;let x4:=v1.trans ds;let e0:c≠kp:=λe=>by rw[e,w1 _ _ gk]at fc;cases fc
  let bm:∀v∈[V.ref p1,V.ref p2,V.ref p3],∃t gg ll O al ab,v= .ref t/\He t&&&[.ref gg,.ref ll]/\ll≠kp/\He ll∣.lst (O\0)/\nA H4 cs O/\h9 mg H4 gg O al ab/\al.Perm (cs.flatMap lyr)/\∀k,k∈ab\2↔k∈cx cs\/k∈cy O O.length:=by
   intro v hv;rcases Yu.mp hv with rfl|hv
   .show%[_,_,_,_,_,_,ρ,dr _ _ de,ax l.h2 ag,x4 _ _ l.h2,l.gd,l.gr,l.pl|l.tm]
   rcases Yu.mp hv with rfl|hv
   .show%[_,_,_,_,_,_,ρ,dn _ _ dg,e0,dp _ _ gc,ez,db,ew|ey]
   rw[Xl hv];show%[_,_,_,_,_,_,ρ,w5 _ _ dk,ax l.h2 ag,x4 _ _ l.h2,l.gd,l.gr,l.pl|l.tm]
  let dt:=ax l.h1 ag;let dy:=x4 _ _ l.h1;let e1:p4≠kp:=λe=>by rw[e,xk]at as;cases as
  show%[%[_|Qc.of as]|hK _ _ (eC (λi σ H'=>A3 (E7 λo6 o7 o8 o9 an U J=>σ=[!a,!l1,!l2,!g,!g2,!kp,o6,o7,o8,o9,an,U,J,hX]) (∀b o,b≠kp->He b∣o->H' b∣o) (∃ks:hH (kG×kG×kG×kG),A3 (H' kp∣.lst (ks\0)) (∀q∈ks,Kpt mg H4 H' q) (~~~ks<=i)))
   %[%[_,_,_,_,_,_,_|ρ],λ_ _ _ e=>e,[],xk,(λ_ h=>nomatch h)|Zi _] (λi σ H' _ ⟨_,sm,_⟩=>Qc.of (sm _ _ e1 as)) ?_ ?_)]
  .intro i v σ H' dF %[%[o6,o7,o8,o9,an,U,J|rfl],sx,ks,hk,a2|kl];let%[t0,gg,ll,O,al,ab,rfl,e3,dK,dT,M,gr,pl|tm]:=bm v (Z8 dF);let sH:∀b o,(∀xs,o≠ .lst xs)->He b∣o->H' b∣o:=λb o n e=>sx b o (λz=>by rw[z,xk]at e;show n _ (Za e).symm) e
   show%[_,SqT.of (sH _ _ (λ_=>nofun) e3),ρ,_,_,ρ,_,_,ρ,ρ|?_];change aU _ _ _ [!a,!l1,!l2,!g,!g2,!kp,!gg,!ll,o8,o9,an,U,J,hX] H';let s0:ah H4 H':=λb o e=>sx b o (ax e ag) (x4 b o e)
   let M:=M.up s0;let bt:=gr.up s0;let f7:=M.ql;show aj λD7 k7 _=>?_
   lk;show%[l1,ll,cs,O,ρ,sx _ _ dt dy,sx _ _ dK dT,M.ca,M.sa,M.c3,⋯|λd C ms gm s2 fd hd nd mem lg=>k7 _ _ (aj λD8 k8 _=>?_)];let%[kc,f8|b0]:=wU M.ca M.few;let ml: ~~~ms<=63:=n7 (_ST.nodup_sub nd λz hz=>(mem z).mp hz) M.ly;let dV:=M.up s2;lk;show%[l1,ll,d,cs,O,ms,gm,kc++cy O O.length,ρ,s2 _ _ (sx _ _ dt dy),s2 _ _ (sx _ _ dK dT),dV.ca,dV.sa,M.c3,⋯,hd,mem,lg,?_,λk=>by rw[Yr,b0]|λr H3 ss s3 fr d1 tu lk tk sl=>k8 _ _ (aj λD9 k9 _=>?_)]
   .let:=M6 (λj=>O[j]?.bind λq=>gM j q.2) (q7 O.length);rw[Yi]at this;let:=M.c3;rw[Z9];unfold cy
    lia
   let la:=pY tu tk;lk;show%[r,d,ms,ms,ss,gm,ρ,d1,la,sl,s3 _ _ hd,ml|λbb Hx rs s4 be rk=>k9 _ _ (az λe4 a3 ga=>?_)];let rl: ~~~rs<=63:=by
    let:=_ST.nodup_sub be.nd (m:=ms.map gm) λx hx=>Xn ((rk x).mp hx)
    rw[Z6,Z6]at this
    lia
   lk;show%[bb,_,rs,ρ,be,⋯|λH6 v s6 vI=>?_];let a4:=s2.trans (s3.trans (s4.trans s6));let ends:∀x y,Ed (ss\2) x y->x∈rs\1/\y∈rs\1:=λx y ⟨z,hz⟩=>by
    let%[a,b,z',a',b',hm,ha,hb|e]:=(lk.mem _).mp hz;cases e;let%[u,v,w,e,hu|hv]:=zT M.ca M.sa (n:= ~~~O) (by rw[Yr,b0]at hm;show hm);cases e;let hu:=(mem a).mpr hu;let hv:=(mem b).mpr hv;show%[(rk _).mpr %[a,hu|(lg a hu).2.one ha]|(rk _).mpr %[b,hv|(lg b hv).2.one hb]]
   let b1:bP (ba O) (ab\2) (ss\2):=%[lk.nd|λk=>by simp only[tm,<-b0,<-Yr];show lk.mem k]
   let d4:∀x,Rch (ss\2) x x->x∈rs\1:=λx r=>by
    cases r with
    | one e=>show(ends _ _ e).2
    | more _ e=>show(ends _ _ e).2
   let ea:=bt.up a4;let eb:=(s4.trans s6) _ _ d1;let ec:=be.up s6;let ed:aF H6 ss:=aA tu λb z e=>(s4.trans s6) _ _ e
   let a0:∀{H7:Hp},ah H6 H7->(∀b o,b≠kp->He b∣o->H7 b∣o)/\H7 kp∣.lst (ks\0)/\∀q∈ks,Kpt mg H4 H7 q:=λ{H7} s7=>by
    let s:=a4.trans s7;show%[λb o n e=>s _ _ (sx b o n e),s _ _ hk|λq hq=>?_];show(a2 q hq).keep λb o _ e=>s _ _ e
   show%[v,ρ|bT (λhv=>?_) λhv=>?_]
   .let%[x,_|rx]:=vI.mp hv;show%[gg,r,bb,O,al,ab,ss,rs,ρ,ea,b1,%[x|rx],eb,ed,ec,⋯,d4|λH7 s7=>%[iv,ρ|im (a3 _ _ ?_)]];let%[y1,y2|y3]:=a0 s7;show%[%[_,_,_,_,_,_,_|ρ],y1,ks,y2,y3|⋯]
   .let nr:∀x,¬ Rch (ss\2) x x:=λx r=>hv (vI.mpr %[x,d4 x r|r])
    show%[gg,O,al,ab,ρ,ea,λa5 h' x=>by rw[lN (h'.mm b1)];show nr x|λt d2 H7 a5 ef L Y s7 e5 ft ht a1 a6 b3 lo=>%[_,Qc.of ht,ρ,_,_,ρ,_,_,ρ,ρ|?_]];lk;let G:∀x,x∈L↔x∈rs\1:=λx=>by
     rw[lo.mem,a6.mem,rk]
     constructor
     .rintro⟨h1,h2⟩;let hx:=(mem x).mpr (pl.mem_iff.mp h1);show%[x,hx|(lg x hx).2.one h2]
     .rintro⟨z,hz,rfl⟩;let%[y1|y2]:=lg z hz;show%[pl.mem_iff.mpr ((mem _).mp y1)|kx y2 y2.1]
    let em:=a1.mm b1;let b4:∀x,¬ Rch a5 x x:=λx=>by rw[lN em];show nr x
    let en:∀x y,Ed a5 x y->x∈L/\y∈L:=λx y e=>by
     rw[nN em]at e;show%[(G x).mpr (ends x y e).1|(G y).mpr (ends x y e).2]
    let eg:=w6 lo.nd be.nd G;let ac:∀{x},x∈L->lvO L Y x=Y x:=λh=>md h
    rw[Z6]at eg;show im %[r,bb,ss,rs,lvO L Y,rfl,s7 _ _ eb,λt ht=>%[s7 _ _ (ed t ht).2|?_],sl,ec.up s7,rl,λx y e=>?_,λx=>?_|λe H8 s8 fe he=> .inr %[rfl,d2,_,s8 _ _ b3|λo=>?_]]
    .let eh:t.2∈ss\2:=Xn %[t,ht|rfl];let%[x,y,z,e|_]:=tk _ eh;let:=ends x y %[z|e▸eh];show%[x,y,z,e,this.1|this.2]
    .let q:=ends x y e;rw[<-nN em]at e;rw[ac ((G _).mpr q.1),ac ((G _).mpr q.2)];show(lo.at_ x ((G _).mpr q.1)).1 y e
    .by_cases c:x∈L
     .rw[ac c];show%[zW lo b4 en c,by let:=JH lo b4 en c;lia|?_];rcases(lo.at_ x c).2 with⟨y,e,q⟩|⟨_,q⟩
      .show .inl %[y,by rw[<-nN em];show e|by rw[ac (en x y e).2];show q]
      .show .inr q
     .rw[show lvO L Y x=0 from kw c];show%[QJ _,⋯|.inr rfl]
    let b5:e≠d2:=λz=>by rw[z,b3]at fe;cases fe
    show%[d2,e,o,L,rs\1,lvO L Y,ρ,by rw[aa,JI],by rw[ao b5];show he,by rw[Z6];show eg,λx hx=>(G x).mp hx|λH9 s9=>%[iv,ρ|im ?_]];let ej:=mD (s8 _ _ b3) s9;let bc:Qb H9 d2 (.dK (VD L λx=>V.int (Y x))) d2=_:=aa
    generalize Qb H9 d2 _=Hn at ej bc
    let e6:=s8.trans ej;let ek:=s7.trans e6;let%[y1,y2|y3]:=a0 ek;show%[tyL (Qc.of y2),_,.inl bc|λe2 b6=>%[#[3]|λp fp=>?_]];let z1:=ah.Qb (o:= .dK (VD L λx=>V.int (Y x))) b6;let el:Qb Hn e2 (.dK (VD L λx=>V.int (Y x))) e2=_:=aa
    generalize Qb Hn e2 _=Hm at z1 el fp
    let z2:=ah.Qb (o:= .tup [V.ref d2,V.ref e2,V.ref gg]) fp;let gp:Qb Hm p (.tup [V.ref d2,V.ref e2,V.ref gg]) p=_:=aa
    generalize Qb Hm p _=Ho at z2 gp
    let bd:=z1.trans z2;let eo:=bd _ _ y2;let bf:∀b u,(∀xs,u≠ .lst xs)->Ho b∣u->Qb Ho kp (.lst ((ks\0) ++[V.ref p])) b∣u:=λb u n e=>by
     rw[ao (λz=>by rw[z,eo]at e;show n _ (Za e).symm)];show e
    show%[_,eo,by rw[Z6];let:=(Xj dF).1;show aB (by simp only[Zr,UM]at this;lia)|a3 _ _ %[%[_,_,_,_,_,_,_|ρ],λb u n q=>by rw[ao n];show bd _ _ (y1 b u n q),ks++[(p,d2,e2,gg)],by rw[aa,Zd];rfl,λq hq=>?_|by rw[Z9];show X6 kl]];rcases Xk hq with z|z
    .show(y3 q z).keep λb u n e=>bf b u n (bd _ _ e)
    .rw[Xl z];show%[bf _ _ (λ_=>nofun) gp,ax bc b6,(s0.trans a4).free e5,(s0.trans (a4.trans ek)).free b6,O,al,ab,a5,ef,L,Y,gr,a1,b4,a6,lo,en,bf _ _ (λ_=>nofun) (bd _ _ bc)|bf _ _ (λ_=>nofun) (z2 _ _ el)]
  .intro σ H' %[%[o6,o7,o8,o9,an,U,J|rfl],sx,ks,hk,a2|kl];show k6 _ _ (aj λD7 k7 r7=>?_);lk;show aK λdd hK=>?_
   lk;show%[%[_|Qc.of hk]|hK _ _ λF hF=>?_];show cP (λj vs σ C=>A4 (E3 λo1 o2 o3=>σ=[o1,o2,o3]) (ah H' C) (C F<*vs) (vs=[])) %[%[hX,hX,hX|rfl],ah.Qb hF,aa|rfl] (λ_ _ _ C ⟨_,sm,_,_⟩=>sm _ _ hk) ?_ ?_
   .intro j vs σ C hj %[%[o1,o2,o3|rfl],sm,fa|rfl];let kq:=a2 _ (Yc hj);let%[_,_,_,_,_,L,Y,_,_,_,_,lo,_,e7|e8]:=kq.ex;show%[_,SqT.of (sm _ _ kq.tu),ρ,_,_,ρ,_,_,ρ,_,_,ρ,ρ|?_];lk;show⟨_,_,.inl (sm _ _ e7),.inl (sm _ _ e8),rfl,λp hp=>by let%[x,hx|rfl]:=Xm hp;show%[Y x,ρ|dS hx],?_⟩;lk;show CN.mk hj %[%[_,_,_|rfl],sm,fa|rfl]
   intro vs σ C %[_,s2,ff|rfl];show%[Xc _|λp hp=>%[[],ah.Qb hp _ _ ff,aa|?_]];rw[kw ∅];let s3:=s2.trans (ah.Qb (o:= .lst []) hp)
   generalize Qb C p _=H3 at s3
   show k7 _ _ (aj λD8 k8 r8=>aw λfl fm=>?_);lk;show%[_,Qc.of (s3 _ _ hk)|λp' fn=>?_];rw[Ez];let s4:=s3.trans (ah.Qb (o:= .lst ((ks.take 1)\0)) fn);let b9:Qb H3 p' (.lst ((ks.take 1)\0)) p'=_:=aa
   generalize Qb H3 p' _=fq at s4 b9
   let s0:ah H4 H':=λb o e=>sx b o (ax e ag) (x4 b o e)
   let sb:=s0.trans s4;let tl: ~~~(ks.take 1)<=1:=by rw[Yk];lia
   let fu:∀q∈ks.take 1,Kpt mg H4 fq q:=λq hq=>(a2 q (Yv hq)).keep λb o _ e=>s4 _ _ e
   show%[%[_|Qc.of b9]|fm _ _ (bD (λi σ C=>A4 (E4 λo6 U J ca=>σ=[!a,!l1,!l2,!g,!g2,!kp,o6,o7,o8,o9,an,U,J,ca]) (ah H4 C) (C p'∣.lst ((ks.take 1)\0)) (i=0->∀q∈ks.take 1,Kpt mg H4 C q))
    %[%[_,_,_,_|ρ],sb,b9|λ_=>fu] (λi σ C ⟨_,_,h,_⟩=>h) ?_ ?_)]
   .intro i q σ C hq %[%[o6,U,J,ca|rfl],sm,cd|kq];obtain rfl:i=0:=by let:=(Xj hq).1;lia
    let kq:=kq rfl q (Z8 hq);let%[fv,fw,fx,lk,ef,L,Y,bt,a1,nr,a6,lo,en,e7|e8]:=kq.ex;show%[_,SqT.of kq.tu,ρ,_,_,ρ,_,_,ρ,_,_,ρ,ρ|?_];change aU _ _ _ [!a,!l1,!l2,!g,!g2,!kp,hY (.ref q.2.2.2),o7,o8,o9,an,hY (.ref q.2.1),J,hY (.ref q.2.2.1)] C;show aj λD9 k9 _=>?_
    unfold zu;lk;show%[tyD e7,%[_|e7]|k9 _ _ (az λe4 a3 _=>?_)];let sc:ah H4 (Qb C q.2.1 (.dK [])):=ah.set sm kq.f1;let ce:=(ao (H:=C) (o:= .dK []) (J0 kq.ne)).trans e8;let ep:=(ao (H:=C) (o:= .dK []) (show p'≠q.2.1 from λz=>by rw[z,e7]at cd;cases cd)).trans cd
    generalize Qb C q.2.1 _=H6 at sc ce ep
    lk;show%[q.2.2.2,fv,fw,fx,ρ,bt.up sc,λge h2 x=>by rw[lN (h2.mm a1)];show nr x|λt d3 H7 gl gn L3 fz s7 fB ft ht fC fD ch lo3=>?_];let ae:∀x,x∈L3↔x∈L:=λx=>by rw[lo3.mem,fD.mem,lo.mem,a6.mem]
    let eq:∀x∈L3,fz x=Y x:=λx hx=>(Gy lo lo3 (a1.mm fC) nr en (λy hy=>(ae y).mpr hy) ((ae x).mp hx)).symm
    let b5:q.2.2.1≠d3:=ax ce fB;show%[_,Qc.of ht,.ref d3,bG (j:=0) rfl|.inr %[ρ,d3,_,ch|λo=>%[d3,q.2.2.1,o,L3,L,Y,ρ,by rw[aa,EA λx hx=>by rw[eq x hx]],by rw[ao b5];show s7 _ _ ce,w6 lo3.nd lo.nd ae,λx hx=>(ae x).mp hx|λH8 s8=>%[iv,ρ|im (a3 _ _ %[%[_,_,_,_|ρ],(sc.trans s7).trans (mD ch s8),mD ch s8 _ _ (s7 _ _ ep)|λz=>nomatch z])]]]]
   .intro σ C %[%[o6,U,J,ca|rfl],sm|_];show k8 _ _ ?_;lk;let%[c2,c3,c4|gf]:=(l.gr.up sm).gr;let%[dx,c1|h0]:=gf.at_;show%[_,_,h0,ρ,g,c2,c3,c4,qs,ls,ts,ρ,gf|λy fy=>?_];let sy:=sm.trans (ah.Qb (o:= .lst (qs\0)) fy);let gy:Qb C y (.lst (qs\0)) y=_:=aa
    generalize Qb C y _=H8 at sy gy
    let%[c2,c3,c4|gf]:=(db.up sy).gr;let%[dx,c1|h0]:=gf.at_;show%[y,l2,_,_,ρ,ρ,gy,sy _ _ l.h2,ρ,zY|?_];lk;show%[_,_,h0,ρ,g2,c2,c3,c4,N,eu,ev,ρ,gf|λy2 fF=>?_];unfold DN;lk;let fI:=ah.Qb (o:= .lst (N\0)) fF;show%[_,fI _ _ (sy _ _ l.h2)|λb2 fL fR=>?_];simp only[qk,Z6,c0]at fR ⊢;show%[y2,b2,_,_,ρ,ρ,ah.Qb fL _ _ aa,aa,ρ,zY|kk _]
end
abbrev dfm:= @Il
abbrev gvm:= @Ka
def all_mk{l:PySem.W.OpenLaw}{w:v0}{K:ZA}{h:yu}{mg:ZC}{fa aj:kG}(X:K.In h)(G:h.Ns wy mg)(hfa:mg "law"=hY (.ref fa))
 {b7 ay:ZI} {b8:ZK} {b9 az a0 a1 ak a2:ku}
 (F:Txc K mg->Txt K mg)
 (ca:Qj K wy "law"=hY (hY (.ref aj))) (cb:K.lookup aj=hY %[b9,b7,.func (Rp "law" "law" (dh lz) (bB lz) (am lz) .none az a0 a1 ay ak a2)|b8]) (cc:PU K ak "law"=iv) (cd:Nt K (.ref aj)=iv)
 {aa ac ad a3 a4 a5 a6 a7:kG}
 {ae:kG} {ce cf:ZI} {cg:ZK} {ch ci cj a8 ck:ku}
 (al:Qj K wy "Torn"=hY (hY (.ref aa)))
 (a9:Qj K wy "DigError"=hY (hY (.ref ac)))
 (ba:Qj K wy "NoCut"=hY (hY (.ref ad)))
 (bb:Qj K wy "NoSaying"=hY (hY (.ref a3)))
 (bc:Qj K wy "NoGround"=hY (hY (.ref a4)))
 (bd:Qj K wy "NoLayer"=hY (hY (.ref a5)))
 (be:Qj K wy "NoRow"=hY (hY (.ref a6)))
 (bf:Qj K wy "NoDeed"=hY (hY (.ref a7)))
 (bg:Lq K (.ref aa) "__getattribute__"=hY (hY (.builtin "BaseException.__getattribute__")))
 (bh:Lq K (.ref aa) "__getattr__"=hY hX)
 (bi:PH K (.ref aa) (.type "BaseException")∣iv)
 (an:NV K aa=iv)
 (cl:Lq K (.ref aa) "__class__"=hY (hY (.builtin "object.__class__")))
 (cm:Rn K (.builtin "object.__class__") "__get__"=hY (hY (.builtin "getset_descriptor.__get__")))
 (co:takesIn K (.builtin "object.__class__")∣iv)
 (cp:mroIn K aa (.type "object")∣iv)
 (fb:Lq K (.ref aa) "__init__"=hY (hY (.ref ae)))
 (ao:K.lookup ae=hY %[.type "function",ce,.func (Rp "__init__" "Torn.__init__" (dh eI) (bB eI) (am eI) .none ch ci cj cf a8 ck)|cg])
 (bj:PU K a8 "Torn.__init__"=iv)
 (bk:Nt K (.ref ae)=iv)
 (bl:exK K aa ae=iv)
 (cq:Nt K (.ref aa)=iv)
 (cr:Lq K (.ref aa) "__setattr__"=hY (hY (.builtin "object.__setattr__")))
 (bm:t4 K aa=iv)
 (bn:Lq K (.ref aa) "ring"=hY hX)






 (cs:PH K (.ref aa) (.ref ad)∣jg)
 (ct:PH K (.ref aa) (.ref ac)∣iv)
 (cu:Tf K (.ref aa) [.ref ad,.ref a4,.ref a3]∣jg)
 (cv:Tf K (.ref aa) [.ref a7,.ref a6,.ref a5]∣jg)
 (cw:OE K (.ref aa) (.ref aa)∣iv)
 (cx:OE K (.ref aa) (.type "ValueError")∣iv)
 (cy:Rn K (.ref ac) "__getattribute__"=hY (hY (.builtin "type.__getattribute__")))
 (cz:readsIn K ac (.type "type")=iv)
 (c0:findCls K (.ref ac) (.type "type") "__init__"=hY (.val (.builtin "ValueError.__init__")))
 (c1:UK K (.ref ad)∣.type "type")
 (c2:PH K (.ref ad) (.type "BaseException")∣iv)
 (bo:(K.lookup ad).any (λo=>match o.data with| .cls _=>iv|_=>jg)=iv)
 (c3:UK K (.ref ac)∣.type "type")
 (c4:PH K (.ref ac) (.type "BaseException")∣iv)
 (bp:(K.lookup ac).any (λo=>match o.data with| .cls _=>iv|_=>jg)=iv)
 {ab:kG}
 (bq:Qj K wy "Ground"=hY (hY (.ref ab)))
 (c5:Sa K ab K3=iv)
 (c6:NV K ab=iv)
 (c7:Vy K ab=iv)
 (c8:Lq K (.ref ab) "__setattr__"=hY (hY (.builtin "object.__setattr__")))
 (c9:Lq K (.ref ab) "kept_cuts"=hY hX)
 (da:Lq K (.ref ab) "kept_sayings"=hY hX)
 (db:Lq K (.ref ab) "kept_layers"=hY hX)
 (dc:Lq K (.ref ab) "kept_ties"=hY hX)
 {af:kG} {dd de:ZI} {df:ZK} {dg di dj dk br dl:ku}
 (dm:Lq K (.ref ab) "__init__"=hY (hY (.ref af)))
 (bs:K.lookup af=hY %[dg,dd,.func (Rp "__init__" "Ground.__init__" (dh cn) (bB cn) (am cn) .none di dj dk de br dl)|df])
 (bt:PU K br "Ground.__init__"=iv)
 (bu:Nt K (.ref af)=iv)
 (dn:V8 K (.ref af)=iv)
 (dp:makesIn K ab=iv)
 (dq:Nt K (.ref ab)=iv)
 {ag:kG} {dr ds:ZI} {dt:ZK} {du dv dx dy bv dz:ku}
 (d0:Lq K (.ref ab) "sayings"=hY (hY (.ref ag)))
 (bw:K.lookup ag=hY %[du,dr,.func (Rp "sayings" "Ground.sayings" (dh cD) (bB cD) (am cD) .none dv dx dy ds bv dz)|dt])
 (bx:PU K bv "Ground.sayings"=iv)
 (ap:Nt K (.ref ag)=iv)
 (d1:V8 K (.ref ag)=iv)
 {ah:kG} {d2 d3:ZI} {d4:ZK} {d6 d7 d8 d9 bz ea:ku}
 (eb:Lq K (.ref ab) "layers"=hY (hY (.ref ah)))
 (b0:K.lookup ah=hY %[d6,d2,.func (Rp "layers" "Ground.layers" (dh cS) (bB cS) (am cS) .none d7 d8 d9 d3 bz ea)|d4])
 (b1:PU K bz "Ground.layers"=iv)
 (aq:Nt K (.ref ah)=iv)
 (ec:V8 K (.ref ah)=iv)
 {ai:kG} {ed ee:ZI} {ef:ZK} {eg eh ei ej b2 ek:ku}
 (el:Lq K (.ref ab) "ties"=hY (hY (.ref ai)))
 (b3:K.lookup ai=hY %[eg,ed,.func (Rp "ties" "Ground.ties" (dh dw) (bB dw) (am dw) .none eh ei ej ee b2 ek)|ef])
 (b4:PU K b2 "Ground.ties"=iv)
 (ar:Nt K (.ref ai)=iv)
 (em:V8 K (.ref ai)=iv)
 {b5:kG} {au:MU} {av:ZJ} {en:kj}
 (eo:Qj K wy "YEAR_WORDS"=hY (hY (.ref b5)))
 (ep:K.lookup b5∣au)
 (eq:au.cls= .type "tuple")
 (er:au.data= .seq av en)
 (es:av.size<=mv)
 (et:aI [.str "since",.str "by"] av.toList)
 {b6:kG} {aw:MU} {ax:ZJ} {eu:kj}
 (ev:Qj K wy "LAYER_WORDS"=hY (hY (.ref b6)))
 (ew:K.lookup b6∣aw)
 (ex:aw.cls= .type "tuple")
 (ey:aw.data= .seq ax eu)
 (ez:ax.size<=mv)
 (e0:aI [.str "later",.str "same"] ax.toList)
 :∃fd:Nc,(∀(s:mu) (v:ku),R3 s fd %[[v]|[]] [("_law_script",v)])/\∀base:yu,K.In base->base.Ns wy mg->dG l.prog w K mg base CX0 12 fa fd ["_law_script"] (qj K):=by
 let e:=hfa.symm.trans (Na X G ca);cases e;let e1:=dL (Na X G al);subst e1;let e2:=dL (Na X G a9);subst e2;let e3:=dL (Na X G ba);subst e3;let e4:=dL (Na X G bb);subst e4;let e5:=dL (Na X G bc);subst e5;let e6:=dL (Na X G bd);subst e6;let e7:=dL (Na X G be);subst e7;let e8:=dL (Na X G bf);subst e8;let e9:=dL (Na X G bq);subst e9;let T:Txt K mg:=F %[Na X G al,
  Na X G a9,
  Na X G ba,
  Na X G bb,
  Na X G bc,
  Na X G bd,
  Na X G be,
  Na X G bf,
  %[Na X G al,%[bg,bh,bi,an,cl,cm,co|cp],ae,_,%[bl,by rw[ao];rfl|cq],d5 ao bj bk|(d5 ao bj bk).binds (by room)],
  %[cr,bm,bn|an],
  %[bg,bh,bi,bn|an],
  cs,
  ct,
  cu,
  cv,
  cw,
  cx,
  %[cy,cz|c0],
  %[c1,c2|bo],
  %[c3,c4|bp],
  %[Na X G bq,c5,c6,c7|c8],
  c9,
  da,
  db,
  dc,
  %[af,_,%[dp,dm,dn|dq],d5 bs bt bu|(d5 bs bt bu).binds (by room)],
  %[ag,_,%[d0,d1|ap],d5 bw bx ap|(d5 bw bx ap).binds (by room)],
  %[ah,_,%[eb,ec|aq],d5 b0 b1 aq|(d5 b0 b1 aq).binds (by room)],
  %[ai,_,%[el,em|ar],d5 b3 b4 ar|(d5 b3 b4 ar).binds (by room)],
  Do X G eo ep eq er es et|
  Do X G ev ew ex ey ez e0]
 show%[Rp "law" "law" (dh lz) (bB lz) (am lz) .none az a0 a1 ay ak a2,λs v=> .of_eq rfl|λbase _ _=>JJ (d5 (st:=lz) cb cc cd) T]
def walk{l:PySem.W.OpenLaw}{q:nX}{b:ZB}{j:(lx->lX ku)->yu->Prop}{e:v0->yu->Prop}{d:DefRec}{K:Params->ZA}(m:l.most∣63)(c:d.params.defaults=[])
 (o:∀(w:v0) (h:yu),e w h->(K w.params).In h)
 (F:∀(w:v0) (mg:ZC) (g:kG) (h:yu),(K w.params).In h->h.Ns wy mg->mg d.name∣.ref g->
  ∃i:Nc,(∀(s:mu) (u:ku),R3 s i %[[u]|[]] [("_law_script",u)])/\∀base:yu,(K w.params).In base->base.Ns wy mg->dG l.prog w (K w.params) mg base CX0 12 g i ["_law_script"] (qj (K w.params))):
 PySem.W.WalkO q b j e l.row.toRowW d [] (λf vs=>PySem.call f vs):=
 _LL.walk_of (n:=63) (k:=12) (x:="_law_script") (CX:=λ_=>CX0) (sp:=λw=>qj (K w.params)) m (!1) c %[rfl,!1,!1|rfl] o F (λ_ _ a p r v y=>%[a,p,rfl,y,v,r|λ_=>rfl]) λ_ _ _ _ _ z=>z
end _KK
end
open PySem PySem.W PyProof.Rows
set_option maxRecDepth 100000 in
theorem PySem.Challenge.cw_digbook_k52_levels_told_holds : PySem.Challenge.rw_digbook_k52_levels_told.Holds := by
 w_on;o_law;k_head;(case hw=>w_witness2)
 k_fill
 refine _KK.walk (l:=PySem.Challenge.rw_digbook_k52_levels_told) rfl rfl (λw h Y=>PySem.W.kIn_of Y) ?F
 case F=>
  intro w mg fa h KX G hmg;apply _KK.all_mk KX G hmg
  (case F=>
   intro C
   constructor
   exact C
   all_goals first|exact PySem.W.mg_none_of KX G (by k_is)|(refine' _KK.gvm KX G ?z ?r;(case z=>k_is);(case r=>exact⟨_,rfl⟩))|(refine' _KK.dfm KX G ?a ?l ?c ?k ?b;(case a=>k_is);(case l=>k_is);(case c=>k_is);(case k=>k_is);(case b=>intro _ _ _ _ _ _;(repeat(refine _KK.zq1 λ_=>?_));exact _KK.zq0 rfl)))
  any_goals k_is
  (case bl|bm|bo|bp=>kernel_rfl)
  any_goals first|kit_is|rfl|decide|exact .cons ⟨_,rfl⟩ (.cons ⟨_,rfl⟩ (.nil))
