import PyProof.Rows.All
import Wide.All
import OpenK.AllK
import PySem.Challenge.RW_digbook_k73_why_bounds_are_so
open Array renaming append_assoc->Ur,eq_empty_of_size_eq_zero->RR,ext->Xu,find?_toList->Uq,forIn_toList->QZ,getD->SA,getElem?_eq_getElem->Ds,getElem?_eq_none->Ng,getElem?_eq_some_iff->vi,getElem?_replicate->S0,getElem?_toList->Yc,length_toList->Zb,mem_of_getElem?->ON,mem_toList_iff->P8,perm_iff_toList_perm->Sz,replicate->Ve,size_append->Rn,size_map->Xw,size_push->Xi,size_setIfInBounds->PL,toList->Wa,toList_append->Xd,toList_extract->Ri,toList_push->Rh,toList_setIfInBounds->Sy
open Bool renaming and_eq_true->Zv,and_false->M7,and_self->Tc,eq_false_iff->RK,eq_iff_iff->Ny,false->fS,false_and->Oy,false_eq_true->Zz,false_ne_true->Zt,false_or->Tb,not_eq_true->RX,not_eq_true'->U1,not_true->V9,or_eq_false_iff->X7,or_eq_true->TD,or_false->V8,or_true->RJ,true->fI,true_and->V7,true_or->Tt
open Classical renaming byContradiction->Nn,not_forall->Qh,propDecidable->Sb
open Decidable renaming byContradiction->MW
open False renaming elim->Mq
open ForInStep renaming yield->OO
open Iff renaming rfl->Od
open Int renaming emod_lt_of_pos->Oj,emod_nonneg->NA,eq_ofNat_of_zero_le->Xh,ofNat_lt->WX,toNat->Ts,toNat_natCast->OH,toNat_of_nonneg->Pp,zero_add->Ps
open Lean renaming Syntax->WW
open List renaming Pairwise->PV,Perm->Mc,all_cons->Vx,all_eq_true->NV,all_map->Wn,any_cons->Zw,any_eq_true->RW,append_assoc->Ze,append_nil->Zx,cons_append->S7,contains_cons->UC,countP_cons->Ql,drop_append->RV,drop_append_of_le_length->R7,drop_drop->WN,drop_eq_getElem_cons->Zy,drop_of_length_le->Ow,drop_zero->SQ,eraseIdx_eq_take_drop_succ->OM,exists_mem_of_ne_nil->SY,ext_getElem->Qk,ext_getElem?->PD,extract_eq_take_drop->N4,filter->N1,filterMap_append->Y0,filterMap_cons->Y1,filter_append->Y2,filter_congr->UY,filter_cons->Y3,filter_cons_of_neg->Y4,filter_cons_of_pos->Y6,filter_eq_nil_iff->O2,filter_nil->Y7,filter_sublist->Q6,findIdx?->V4,findIdx?_eq_none_iff->SX,findIdx?_eq_some_iff_getElem->RA,flatMap_append->O0,flatMap_cons->PB,flatMap_singleton->Tr,flatten_cons->UX,foldl->Uz,foldl_append->UW,foldl_cons->Y8,forIn_cons->R4,forIn_nil->VR,getD_eq_getElem?_getD->Zc,getElem?_append_left->Y9,getElem?_append_right->Ya,getElem?_cons_zero->Tk,getElem?_drop->Pl,getElem?_eq_getElem->Z4,getElem?_eq_none->Xk,getElem?_map->Zl,getElem?_of_mem->Xf,getElem?_range->Rs,getElem?_replicate->Tj,getElem?_set_ne->QM,getElem?_set_self->Tq,getElem?_take->Q9,getElem?_take_of_lt->Yb,getElem?_zip_eq_some->Py,getElem_mem->Yd,getElem_of_mem->Rr,length->Mz,length_append->Z9,length_cons->Zr,length_drop->Yh,length_eq_zero_iff->y2,length_eraseIdx->Uc,length_filterMap_le->Of,length_filter_le->Yi,length_map->Z6,length_nil->TK,length_pos_iff->Nc,length_pos_of_mem->OX,length_range->Yj,length_reverse->Ul,length_singleton->Yk,length_take->Yl,length_zip->TJ,lookup->NL,lookup_append->Uy,lookup_cons->Ym,map->RG,map_append->Zd,map_congr_left->Yp,map_cons->Yq,map_drop->Xz,map_id->WU,map_map->Ys,map_nil->Sj,map_subset->Vz,map_take->Xy,mem_append->Yt,mem_append_left->Yu,mem_append_right->Yv,mem_cons->Yw,mem_cons_of_mem->Zk,mem_cons_self->Zm,mem_erase_of_ne->Ub,mem_filter->n7,mem_filterMap->MX,mem_flatMap->Mi,mem_flatten->RU,mem_map->Pi,mem_of_getElem?->Z8,mem_of_mem_drop->Ua,mem_of_mem_take->Yx,mem_range->vu,mem_singleton->Yy,ne_nil_of_length_pos->SW,nil_append->TF,nodup_append->X1,nodup_cons->Nw,nodup_iff_pairwise_ne->X2,nodup_nil->X3,nodup_range->Rq,not_lt->T9,not_mem_nil->X6,of_mem_zip->VY,pairwise_cons->Ux,pairwise_iff_getElem->Px,pairwise_map->OV,pairwise_singleton->Ti,perm_append_comm->Qu,perm_append_comm_assoc->NX,range->o0,range_succ->Pa,replicate->zp,replicate_succ->Rp,reverse_cons->RF,set_append_right->T4,size_toArray->Zp,sum_cons->V3,take_add_one->X9,take_append_drop->Xa,take_append_of_le_length->Xb,take_length->Xc,take_of_length_le->Zn,take_sublist->UV,take_subset->Va,take_succ_eq_append_getElem->Ov,toList_toArray->Uk,zip->No,zipIdx_cons->RT,zipIdx_nil->Vy
open List.Pairwise renaming imp->WV,imp_of_mem->Xg,nil->Qq
open List.Perm renaming append_left->Om,append_right->Sr,cons->Uo,refl->M3,swap->Um,trans->PU
open List.cons renaming inj->NK,injEq->Np
open Nat renaming add_assoc->Wu,add_comm->T3,add_left_cancel->Q7,add_mod->UP,add_sub_cancel->P9,add_sub_cancel_left->NH,add_zero->Rv,ble->O6,blt->WT,div_add_mod->VQ,div_div_eq_div_mul->T2,div_lt_of_lt_mul->Uj,eq_or_lt_of_le->UU,le_add_left->VP,le_add_right->Pz,le_of_ble_eq_true->Ye,le_of_eq->T1,le_of_lt->Yf,le_refl->Zi,le_succ->Yg,le_trans->md,lt_irrefl->Xj,lt_of_le_of_lt->Ry,lt_of_le_of_ne->UT,lt_of_lt_of_le->Zg,lt_of_succ_lt->U9,lt_succ_iff_lt_or_eq->Th,lt_succ_of_lt->Yn,lt_succ_self->Yo,lt_trans->WS,lt_trichotomy->RO,min_eq_left->Qi,min_eq_right->R6,mod_eq_of_lt->Qf,mod_lt->SM,mod_mod_of_dvd->Rx,mul_add->Xs,mul_mod->Xr,ne_of_gt->Yz,ne_of_lt->Zs,not_lt_of_le->R5,not_lt_zero->X4,pos_of_ne_zero->P7,pow_dvd_pow->Sq,pow_le_pow_right->O7,pow_succ->P6,sub_self->Qw,sub_zero->Vh,succ_le_succ->X8,succ_pos->Tz,two_pow_pos->VO,zero_add->Sc,zero_le->Xe
open Ne renaming symm->zr
open Option renaming any->Ws,bind_some->RE,isSome_iff_exists->Qj,isSome_map->VZ,map_eq_some_iff->zz,none->eH,some->fx
open Option.some renaming inj->Za
open Prod.mk renaming injEq->Nd
open PyProof.Rows renaming AllBare->Qo,IntsAre->UZ,Keyed->Nk,SortKind->TZ,SortSt->mu,StrsAre->MF,Subscript_->TY,arrOf->q7,boot_isinstance->W4,boot_list->QD,boot_max->Xq,boot_min->W9,boot_reversed->W8,boot_str->Vt,boot_tuple->TV,callWith_builtin1->QL,callWith_type1->MC,countRun'->WO,elem'->OL,envOfC->M5,failedOf->NF,formatField_str->W3,join_list->W7,listUpdate_at->Pj,ltAt'->Wk,mergeAt'->TH,minRun'->UN,pendingOf->ow,reverseSlice'->Qp,seqEpoch_at->Vl,seqObj->NB,setArr->UH,setPending->QX,sortedHeap->QV,subscriptTail_builtinR->UE
open PyProof.Rows.F renaming entry_set_update_loop->Ud,plain_set_update_loop->Qr
open PyProof.Rows.SortSt renaming mk'->T7
open PySem renaming Addr->ij,Around->vj,BindsTo->Tu,Builtin->nI,CmpOp->Sw,DictEntry->SZ,Draws->VA,Expr->wh,FuncData->Oa,GenState->RB,Heap->v0,IsPair->Pg,IsTupleKey->Mj,IsZip->Ss,Keyword->Ox,NameKind->Mb,Obj->NQ,PassesOwn->PR,PlainAttrs->Pe,Program->nz,PyData->Mh,Result->SV,Scope->Rw,SetTable->lx,Shared->kj,Stmt->yc,Str->iv,Value->hV,World->vk,argBest->PF,assignEach->NW,atKey->Uu,attributeBase->M9,backTo->Nm,backToKw->O3,behindInMarks->MQ,binaryOp->MP,bindC->Vv,bindL->Vu,bootBuiltins->M8,builtinLookup_eq_fast->U7,builtinsNs->V2,cLine->O8,callGetattribute->WP,callWith->TU,call_meets->OE,call_meetsIn->Sm,callerA->Tp,cellsFrom->MJ,codeAny->Pm,codeAny_builtin->MT,codeAny_call_builtin->N9,codeAny_extend_loopS->Vs,codeAny_of_tree->Tg,collect->Q0,compareOp->pw,entryFor->Sl,entryFor_alias->TQ,eval->MO,evalPart_none_step->V0,excClassObj->Vp,fits_of_scanBound->NE,foldedSetIterable->OZ,getAttr->Wl,getItem->To,getMethod->QC,hashByValue->S6,hashStr->Nz,holding->Oq,isInstance->R3,isSubtype_stop->TN,isTrue->SN,keywordEach->ND,letOwnedTupleGo->W2,mainGlobals->vr,model->MU,ofAClassStatement->Si,onTheHeap->Ut,pastItsLine_dict->WM,pickOrder->NN,plainId_quiet->Nt,plainObj_wpAny_Assign_Attribute->SB,pushCells_keeps->W1,putSet_of->RC,pyIter->UL,pyNext->OT,raiseNew->Vm,rawInt->Mu,relayAll->Qy,richCompare_gives->Wj,richCompare_meets_room->UK,rule->Ro,scanBound->OK,seqItems?->Us,setAdd->UJ,setAddHashed->UI,setEpoch->TB,setField->P4,setNext->QY,setRelay->Vk,setSearchFrom->N0,sizeLine->ku,sizeLine_eq->Mt,sliceBounds->NT,slicePick->WK,slot_list_getitem->Sg,standAt->OS,starEach->ri,storeSet->Vi,strIterType->OJ,subscripted->S4,swapsWith->OI,sysModules->Nl,table->Wi,truthy->UD,tupleKeyHash->wy,tupleKind->SK,tupleKind_room_in1->P0,typeIs_int->VW,typeIs_str->OA,typeLookup->PZ,typeLookup_type->W0,typeOf->Pu,unbindBehindTheSuite->Vg,unsupported->Pq,valueAt->Sf,wpAny->oT,wpAny_Call_Name_kw->Nv,wpAny_Dict_empty->WH,wpAny_Name->VV,wpAny_Try_except->WG,wpAny_askSetting->MV,wpAny_assign_Name->Wh,wpAny_attempt->Nr,wpAny_bind->Z2,wpAny_call->N6,wpAny_callSpecial?_slot->Nh,wpAny_call_entry->My,wpAny_collect_seq->Wg,wpAny_dictEntries->Se,wpAny_dictEpoch->Te,wpAny_eqBool_int->WE,wpAny_eqIsQuiet_tuple->U6,wpAny_execs_cons->WC,wpAny_execs_nil->Oo,wpAny_field->Nb,wpAny_fieldsOf->Rf,wpAny_forIn_list->WB,wpAny_getItem_list_slice->Uf,wpAny_holding->ra,wpAny_isInstance->NM,wpAny_isOneOf_keyiter->U5,wpAny_isSubtype_exc->VJ,wpAny_isTrue_Compare1->U4,wpAny_letGo->N5,wpAny_letOwnedTupleGo_zip->T6,wpAny_load->Tx,wpAny_loadPart->PY,wpAny_loadPart_at->OR,wpAny_lookBehind->WA,wpAny_mono->J5,wpAny_newList->Ue,wpAny_newObj_type->ME,wpAny_newTuple->Re,wpAny_of_eq->S3,wpAny_onRaise->RS,wpAny_passesOwn->NZ,wpAny_pure->Z3,wpAny_pyHash_str->Wz,wpAny_pyIter_ascii->VU,wpAny_pyIter_enum->Wf,wpAny_pyIter_keyiter->Vf,wpAny_pyIter_list->N2,wpAny_pyIter_slot->Sd,wpAny_pyIter_strU->Wd,wpAny_pyIter_tuple->RY,wpAny_pyIter_wide->Wc,wpAny_pyIter_zip->Qv,wpAny_pyNext_list_end->U2,wpAny_pyNext_list_item->QU,wpAny_raiseNew_none->VI,wpAny_rule->Oz,wpAny_runValue->Tv,wpAny_seqItems->Ms,wpAny_setEntries_of->Oe,wpAny_setField->PX,wpAny_setField_rec->yu,wpAny_setScan_of->Wy,wpAny_setState_of->on,wpAny_specialOf->Pt,wpAny_standAt->Ph,wpAny_storeSet_of->NC,wpAny_truthy_bool->MY,wpAny_tryCatch->OQ,wpAny_typeNameOfWhole_keyiter->NS,wpAny_typeOf->QR,wpAny_updateSeq->Td,wpAny_updateSeq_pair->Rc
open PySem.Around renaming under_plainId->MK
open PySem.Builtin.Builtins renaming bindParams->QK
open PySem.Builtin.Dict renaming showsAll->R9
open PySem.Builtin.Dict_items renaming ownsTuple->Qn
open PySem.Builtin.Frozenset renaming baseOf->VH,copyOf->VG,difference->Qs,differenceUpdate->PH,isAnySet->VF,newClass->VE,sizeOf->Q4,slot0->VC,unchanged->Ol,updateFrom->VB
open PySem.Builtin.List renaming listExtendWith->NJ,listLengthHint->Q8,listSameRef->RH,listTooLong->NY,listTouch->Xt
open PySem.Builtin.ObjectAttr renaming storeInOwnDict->Vd
open PySem.Builtin.Range renaming rangeSize->WZ
open PySem.Builtin.SmallTypes renaming nextOf->NI,ownedTupleIsFree->M4
open PySem.Builtin.Str renaming occurrences->KE,partsBetween->RQ,strKind->SJ,subAt->Ta
open PySem.Calls renaming Name_function_global->Sx,callWith_builtin->Tl
open PySem.CmpOp renaming NotIn->Wx
open PySem.Code renaming quiet_builtin->Rb
open PySem.F renaming args_dict_keyiterator_next_1->Sv,args_str_split_2->RP,args_zip_next_1->VT,called_set->Pd,entry_dict_keyiterator_next->SH,entry_str_split->R8,entry_zip_next->V6,plainAttrs_dict->Q5,plainAttrs_list->Op,plainAttrs_str->Xx,plain_extend_loop->Vc,plain_list_iadd->Qd,slot_dict_get->XD,slot_dict_iter->V5,slot_dict_keyiterator_next->Nf,slot_dict_setdefault->Vj,slot_dict_update->WJ,slot_dict_values->WI,slot_int_rmul->Ww,slot_set_iter->Wv,slot_set_sub->WY,slot_str_split->Su,slot_zip_next->QP
open PySem.Heap renaming SameBut->tI,get?_push_ne->U0,get?_push_of_some->Z7,get?_push_size->Zj,get?_update_other->J6,get?_update_self->Mo,lt_size->Zu,size_push->Zq,size_update->Vb
open PySem.Heap.IsSliceOf renaming new->Sa
open PySem.Heap.Ns1 renaming of_empty->T5
open PySem.ItemsOf renaming nil->VS
open PySem.NameKind renaming cell->OG,free->MZ
open PySem.Obj renaming cls_mapFields->RN,data_mapFields->Oh,isFreed_of_fields->OP,mapFields->O5,mapSeq->MR,putSet->NP
open PySem.PassesOwn renaming never->PQ
open PySem.PyData renaming depth->VN,depthAll->Qe,hasDict->U8,hasDictAll->Pw,leavesShort->T8,leavesShortAll->OF,showable->US,showableAll->Po,shown->VM,str->Pn,weight->SE,weightAll->PN
open PySem.SeqAt renaming EqAt->Mm
open PySem.SeqAt.EqAt renaming int_str->S9,str_int->S8
open PySem.SetFound renaming there->Qm
open PySem.SetTable renaming advance->Sn,below->Oc,bits->SR,eraseAt->Ou,fill->QJ,fits->N3,fresh->O9,grown->Nj,insertAt->M6,laid->UR,layClean->T0,probe->Uw,relaid->Uh,runEnd->Nq,turns->Rg
open PySem.SetTable.below renaming go->TW
open PySem.SetTable.layClean renaming free->OB
open PySem.SetTable.probe renaming go->Qz
open PySem.SetTable.sizeAbove renaming go->UG
open PySem.Shared renaming TypeIs->Q2
open PySem.Str renaming empty->Me,join->rM,length->UQ,length_append->PM,ofString->n0
open PySem.StrLaws renaming glued_eq_join->Os,join_length_le->SU
open PySem.Value renaming bool->WQ,builtin->Ni,int->RM,isInt->Wr,isStrOf->VL,none->M0,ref->kG,str->Mf,type->MG
open PySem.Value.ref renaming inj->Uv
open PySem.W renaming Looks->Rz,OpenLaw->Wt,any_some->QH,callWith_K->TR,cellsFrom_some->Ru,check_slot->V1,codeIn->Rt,emptyDict->RD,findIn->MD,fnOf->SO,handedIn->XC,hasDictIn->Pc,instObj->Tn,isFn->XB,keepIn->OD,kia_one->OY,kitAny->TM,kitOne->Pb,lookIn->XA,looks_clsIn->Vo,looks_findIn->Sk,looks_subIn->S5,mg_of->On,nsIn->RL,plainGet->TC,plainGet_of->Vn,plainOver->WL,specialIn->SL,subIn->Rk,typeIn->VX
open PySem.W.Looks renaming here->Qg
open PySem.W.WData renaming int->W6
open PySem.Walks renaming list->Ug,tuple->Wo
open PySem.pickOrder renaming go->Sh
open Sum renaming inl->WR,inr->hY
open Sum.inr renaming inj->Nu
open True renaming intro->Mx
open _root_ renaming Array->nY,Bool->pp,Decidable->Ob,DecidableEq->Mw,False->G2,ForInStep->p0,Int->nX,List->dV,Nat->hH,Option->kf,StateT->L1,String->Mv,True->Pr,Unit->So,absurd->m4,and_congr_left->TX,and_congr_right->W5,and_true->Vw,beq_eq_false_iff_ne->Mp,beq_iff_eq->NG,beq_self_eq_true->SS,bne_self_eq_false->Wm,congr->Vr,congrArg->vb,decide_eq_false->Zh,decide_eq_true->Zf,decide_eq_true_eq->Mg,decide_eq_true_iff->Nx,decide_true->Vq,exists_congr->UO,if_false->N7,if_neg->hX,if_pos->jg,if_true->Pk,modify->UM,not_or->OW,of_decide_eq_false->RZ,of_decide_eq_true->Zo,or_congr->QB,or_false->MN
open List (cons_append length_eq_zero_iff mem_append nil_append)
open Nat (le_add_right le_of_lt le_zero zero_add)
open Option (getD_none)
open PyProof.Rows (boot_all boot_bool boot_int boot_set boot_sorted)
open PySem.F (slot_list_extend slot_str_join type_dict_get type_list_extend type_str_join)
open PySem.Heap (ExtBut)
open PySem.W (KatTups KitX clsIn findCls findObj findObj_own hideAll hideAll_get kat_cons kat_go kat_no kat_one kat_yes kdl_call kdl_values kitx_dict kitx_list kitx_none looks_find looks_hook makesIn mroIn of_hideAll readsIn set_plain takerIn takesIn)
set_option linter.all false
set_option tactic.hygienic false
set_option compiler.extract_closed false
local macro_rules|`(#check $s:str)=>do
 let(a,_)<-s.getString.toList.foldlM (init:=(#[],0,0)) λ(a,n,k) c=>do
  let n:=n*90+c.toNat-if c.toNat>92 then 37 else 35
  return if k=9 then(a.push (Lean.mkIdent ("tw"++toString n).toName),0,0)else(a,n,k+1)
 `(structure $(Lean.mkIdent `PySem.W.Fast):ident:Prop where($a*:0=0))
#check "75aHwdDXZ&QO3TpMJ|A'A$N~}9zY=W<ZZ3+^z_xs/;jZ<s]0.o*]-NZe.K-09UA,PHYPx{5vHyu.Nn5<Q-5aZz]DDHQ}^Fn~,yaHDqx*^_/7X@6?+$S^0SK2+<NU?61uEB&64Ra,98_@.U&fS4m5R~<r^NO}_=U3%QmenUogIX(yPfJ}Uk8LB$if&?giYGE+u:IgriUh/wghm_?1-0GH8Ijw(fC3M0f+e&qK2b8Fo>7vrR4p-/2:(@'$jH50h~`1P>i>;ha:b#x,e%@:&KX7tk)bLz@fsYVb_]2U7C|Og;ceO#cp{jqQG80eTp*weQ@)KjTH>B,m8],arow21>`SMAu:^ZMm;d@FIn@N8_B`0FQFb6`l?2&5R>ZXOwRiH)z^')5ehBE^trcqoYT37t_<sx8>P{0|rpDQm,$E,y}xBAnf;-DpY34P~jg8J'&dP8bjZuD/M+s&rlUU0U5^^<YTPA0};D|QEfGHCwt?dVIfcW)h]mE~K1G.<Q{6pL}eGt9.jj#ZuE?O/'JMQEzM38HkTdhO/g34HA)w#)E,aL$Bq><3lyin+C?WKnul`Z)rA3lb<M,5>r{sVb]Co9&0avPyy5s2GnBqi>>h@'8O'LT?sMxF,GBeGQW}Q&,zPY1*r]]k)}PvRAZKuI;EP%ib>-;gJ^l)@5NXxpOzDcvfQ~m)A$0N_=6m$3CZwN/H%xVM#C@0-rhOoxLD2p4C{*tG5c77r0t+]LB=pSQib7pJ2MeK,A0_8A?R>8wC@;f}Oi-}WGY0K|Jh4<n;%;QN#)7p(O=S2K?smR~'ONI%J0<-89h5o;*DvG8PLnR}7AXo+O(*LQ9`4|H'.jejDPQg(G_4y;@}N8:)5@3S4S</&y*GCV'c7Ei+el/W(s6pv&;$WvLqbHP9UWTHF<M/rt$=4O?e2}UF~Ui,*@`WD-hELDQ'WfxnAA5PF}'L<u9jtK#`%~9Ubb]g2_OM=joe'Y..v(O3hp}2,-:.#rOa-c2hY_v@AQbX0^;zOGyZ3KIl4Ov*(Q=qNb:.Ed(8.eKcQrESBGsk;*LFlyw>P5@$=8B%Q&kL90R={&z%tcCOkvg>1pA]D5%^87Slqz+*NhgPv>ABIneecwN~o#0=6X(v60>JEIa1jGe>7x2PW6d{@hU(;}NnWeKQN&6d>NR>;*hMHICTK^77+<J0IucF:31p6*+D>u>Kpa9?^Yt^s)>32VfTu*tv5qKvBT,UlE`a)NraE@*pFi:}AGC%c|MSJkOtgPSVw>-O{:2l%d:C*ppmjfL`PmM1e=B3$R-8J~~jg3:*J#5|FJEfB%:t=',_q-0q:IK+P:t2^/h-L(htvs&<]@$n&Xv)xCXf<zMx>,2S%0L6_W]c@#7M<wK8nLe5k.(mJqYU{+E-EwH#oz)ak&G`//hE];G)<zWJ;PT}bX-ajxWA^L,,?(WlooFnU>HY_7:]-pcKQAc`$v0y?B6k49vdUCxX@Di?{zInT}=k^Nnul8.P6FFZvJe8tn3Qi_J;lXO+,d+g'7X@1^3_VJM<ca|{?,Jt-3uJ{>,o>rtl,nb18hp=GB,L@<$;Y)1|KDMq2K;P~4Lz,*=iV,/u$GvB&jW=)=wBY9I/>e5McB)785^zeL4wb62Ijt?{lb'|2/9gt/DP]IMs>0@<mxIn9l*sB7F(NN0-4N4XjNFi%4eNza8K)}(Gh}9nA5ev:tLVS0ocN<;*>(2oS>E'@evdAB%#A#7JCSdRq@;5Ax+vkILN4YLl%;a/,]iTBdE_1NI5#v=6V>|2@2(j$>CFKg%Y]sM5INFIk'Z>1/xb+$hED;+G(SpS}O4^IPuCtq^4We+(5v1swGqR<yn_g*mI:=6`lLaN,PJfPD@)Z$oa}a']*=qy,|N_DZ{W/saK}`6rLk#xW]|A=#grV0$KTc+Z*j<Xd+9L#FX8qO}xZZIWL$$ZUJSoAXw/UB&yai&9siMWgMBA5r+QI@G44?Dz+czn/U$lLPZ%3}@zB`QnN*#/Rm@&6bfS@M,6NFF`Et,SvLJ2+PVVK+9p9:E2a)K}l+W{RQ3wRqW+Tw#(rjEMIPD@Mvu2(Y8]1h.EEQ~&}`d9-YS~~K:E<4Ot<(]J&'Z|%:A,|?%EGR'Dn*3THq-+G?Lj3zv_b,Dr(LJ,fN5~&]lX|$^DrC9,7g;47J'H3_ew9h`UIJ@02Ray_1mX3GH_bb+9rpG_)Z1BC(U$/}-nxBxv|3#P(*]56AuGP1Q0Qd*6]vK8gU?SrZ0F8CWCZ6@QA>Mz5:TQJFT/B+Y%MR9#1,#IaqaIPcre/tCfw/HK_h:mr~KqEB>W7uFIB;&$M'<sfw@4;ht>*rrR]hU'90;N&eVUnvj$K%1Wtto-w6Ba8Wrz(~]F=6K><n9.5gOd/sh07KUFFkfMuyqg^{2ys'9c*@g.+Lo0;G*N{UI36'Eb7b}B1$`f.%`Vvj58xO(>(9u&-Pwx=3wtp)+$>Zf%mX}|'B.5~<S6b;7_0^c4;s4PA>91.dR4#i;$Qt%Lb|w5+RxL~.4`Lp&Y*^?MA>NpMDbt42s%Q+&v<qJtr`*_F(zuZTffa@PVP@V.1@zw:4L._=Pctf$VP'@0&dfUQ5/IhkN/<:&D167DD55#3MS@__3`{m*lbI$JX<b+FPQ?9yRQWc1f`L}1PP%/%CzJ=6e4B.+^3#]oMx*TMYu5w@AW8%Mmr-7ST$omIbCp}e~P#r*dk<-i#D-F#LU]1^jLAvA91~u=lp,%@~]z-So'3&>PXES]:G+85lvte.1$5]FEY+DDa7mu%K:F];+ZzWF'5xoTYl*{':CAA+]j13Ka&z0x@ajdHvXMpIF;Od0VaZzO`^+$6x%LCSCn{N*$rk7dkB0.1?ci2H,x*%*;AyPC$mz,?)%33^.@j;%`f:.xw*eu(#@B*yA'q&0rF'gLaSiv)}Xus_S:7'8S_)3'9sHl0i4;Q/}^+.0i&s5]*Sy_L6|Pf:F,GJ>Dlgp,LB&z$eknbBZM^355;G5SqhB=$(@iJ>M/.;MAeh=&rWJeF,h)|FPAMqNDOdI5JEMI"
theorem Z0{c:Sort _}{b:Prop}{a:c}:a=a∨b:=Or.inl rfl
theorem Z1{c:Sort _}{b:Prop}{a:c}:b∨a=a:=Or.inr rfl
theorem Xl{b:Type _}{l:dV b}{i:hH}{a:b}(h:l[i]?=fx a):∃h:i<l.length,l[i]=a:=dV.getElem?_eq_some_iff.mp h
theorem Xm{b:Type _}{a:b}{s t:dV b}(h:a∈s++t):a∈s∨a∈t:=dV.mem_append.mp h
theorem Xn{c:Type _}{a b:c}(h:a∈[b]):a=b:=dV.mem_singleton.mp h
theorem Xo{c d:Type _}{f:c->d}{l:dV c}{b:d}(h:b∈l.map f):∃a,a∈l/\f a=b:=Pi.mp h
theorem Xp{c d:Type _}{f:c->d}{l:dV c}{b:d}(h:∃a,a∈l/\f a=b):b∈l.map f:=Pi.mpr h
set_option maxHeartbeats 0
set_option Elab.async false
set_option compiler.extract_closed false
set_option maxRecDepth 100000
section
open PySem
local macro_rules|`(!0)=>`(by decide +kernel)|`(!1)=>`(by decide)|`(!2)=>`(by simp_all)|`(!$s:str)=>`(Str.ofString $s)
local macro_rules|`(↑$h:ident)=>`(by simpa using $h)
local macro_rules|`(tactic|lia)=>`(tactic|first|assumption|exact Nat.le_of_lt ‹_›|exact Nat.le_trans ‹_› (by decide)|exact Nat.lt_of_le_of_lt ‹_› (by decide)|exact Nat.le_trans ‹_› ‹_›|exact Nat.le_add_left _ _|exact Nat.le_antisymm ‹_› (Nat.le_of_not_lt ‹_›)|exact Nat.le_of_not_lt ‹_›|exact Nat.lt_of_le_of_ne ‹_› ‹_›|exact Nat.lt_succ_of_le ‹_›|exact Nat.le_of_eq (Eq.symm ‹_›)|exact Nat.le_add_right _ _|exact Nat.le_of_eq ‹_›|lia -verbose)
local macro_rules|`(⋯)=>`(by lia)|`(∅)=>`(by simp)
local macro_rules|`(⇑$s:ident)=>`(Shared.heap $s|>.objs.size)
local macro_rules|`($x:ident⁻¹)=>`(wpAny (model ($x).prog ($x).w) ($x).A)
local macro_rules|`($s:ident>>>$e)=>`({$s with heap:=$e})
local macro_rules|`(%[$x,*|$y])=>`(⟨$x,*,$y⟩)
def zqp:Nat->Lean.Syntax->Lean.Syntax
 |n+1,.node i k a=>if k==`«term%[_|_]»then .node i `Lean.Parser.Tactic.rcasesPat.tuple #[.atom i "⟨",.node i `null (a[1]!.getArgs.push (.atom i ",")|>.push a[3]!|>.map λx=>if x.isAtom then x else .node i `Lean.Parser.Tactic.rcasesPatLo #[.node i `Lean.Parser.Tactic.rcasesPatMed #[.node i `null #[zqp n x]],.node i `null #[]]),.atom i "⟩"]else .node i `Lean.Parser.Tactic.rcasesPat.ignore #[.atom i "_"]
 |_,x=>.node .none `Lean.Parser.Tactic.rcasesPat.one #[x]
local macro_rules|`(tactic|have $p:term:=$h)=>if p.raw.isOfKind `«term%[_|_]»then`(tactic|obtain $(⟨zqp 99 p⟩):rcasesPat:=$h)else Lean.Macro.throwUnsupported
local macro_rules|`(tactic|let $d:letDecl)=>`(tactic|have $d:letDecl)|`(tactic|show $e)=>`(tactic|refine $e)
local macro_rules|`(tactic|intro $p*)=>if p.any (·.raw.isOfKind `«term%[_|_]»)then do
  let q:=p.map λx=>(⟨.node .none `Lean.Parser.Tactic.rintroPat.one #[zqp 99 x]⟩:Lean.TSyntax `rintroPat)
  `(tactic|rintro $q*)else Lean.Macro.throwUnsupported
set_option hygiene false in
local macro_rules|`(command|$d:declaration)=>do
 let x:=d.raw[1]
 let b:=x.isOfKind `Lean.Parser.Command.definition
 if x.isOfKind `Lean.Parser.Command.inductive&&x[2][1].isNone&&x[3].isNone then
  let y:=(<-`(inductive q(vs:ZM)(H:Hp)(Q:VK)(E0:XK):Prop)).raw[1][2]
  return d.raw.setArg 1 (x.setArg 2 (y.setArg 0 (Lean.mkNullNode (x[2][0].getArgs++y[0].getArgs))))
 if d.raw[0].getArgs.all (·.isNone)&&(b||x.isOfKind `Lean.Parser.Command.abbrev)then return if b then d.raw.setArg 1 (.node .none `Lean.Parser.Command.theorem #[.atom .none "theorem",x[1],.node .none `Lean.Parser.Command.declSig #[x[2][0],x[2][1][0]],x[3]])else .node .none `Lean.Parser.Command.declaration #[d.raw[0].setArg 4 (Lean.mkNullNode #[.node .none `Lean.Parser.Command.noncomputable #[.atom .none "noncomputable"]]),.node .none `Lean.Parser.Command.definition #[.atom .none "def",x[1],x[2],x[3],Lean.mkNullNode]]
 Lean.Macro.throwUnsupported
set_option hygiene false in
local macro_rules|`(↥$a:ident)=>`(wpAny (model prog w) $a)
set_option hygiene false in
local macro_rules|`(command|#where)=>`(variable{prog:Program}{w:World}{A:Around}{E:ZD}{s:Shared})
set_option hygiene false in
local macro_rules|`(command|#version)=>`(variable{X:Cx}{ff:ZE}{σ:St}{H:Hp}{s:Shared})
nonrec abbrev ZA:=PySem.W.Frag
nonrec abbrev ZB:=dV PySem.Str
nonrec abbrev ZC:=PySem.Str->kf PySem.Value
nonrec abbrev ZD:=PySem.Value->PySem.Shared->Prop
nonrec abbrev ZE:=dV (PySem.Addr×PySem.Obj)
nonrec abbrev ZF:=dV PySem.Value
nonrec abbrev ZG:=dV (PySem.Addr×dV PySem.Str)
nonrec abbrev ZH:=dV (PySem.Addr×PySem.Str×dV PySem.Str)
nonrec abbrev ZI:=kf PySem.Addr
nonrec abbrev ZJ:=nY PySem.Value
nonrec abbrev ZK:=nY (kf PySem.Value)
nonrec abbrev ZL:=dV nX
set_option genSizeOf false
set_option genInjectivity false
set_option bootstrap.genMatcherCode false
local macro_rules|`(~~~$x)=>`($(x).length)|`($x<*$y)=>`($x=some (.lst $y))|`($x&&&$y)=>`($x=some (.tup $y))
set_option hygiene false in
local macro_rules|`(tactic|exists $t,$c,$a:ident,$j:ident,$p)=>`(tactic|(refine ($t).cal $c (λH vs Q E h=>?_);have $p:term:=h;refine ⟨rfl,λf $a A outer s $j=>?_⟩))
nonrec theorem ρ{α:Sort _}{a:α}:a=a:=rfl
set_option hygiene false in
local macro_rules|`($x\0)=>`($(x).map λt=>V.ref t.1)|`($x\1)=>`($(x).map (·.1))|`($x\2)=>`($(x).map (·.2))|`($x\3)=>`($(x).map V.str)|`($x\4)=>`($(x).map V.int)|`($x∣$y)=>`($x=some $y)
namespace _LL
open PySem PySem.Spec PyProof.Rows
noncomputable abbrev Key:=Sum nX iv
abbrev kH:Key->hV->pp
 | .inl k,v=>Wr k v
 | .inr x,v=>VL x v
abbrev keyH(w:vk):Key->nX
 | .inl k=>hashInt k
 | .inr x=>Nz w x
def bh:∀{k:Key} {v:hV},kH k v=fI->(∃i t,k=WR i/\v=RM i t)\/(∃x t,k=hY x/\v=Mf x t)
 | .inl i,v,h=>by
   let%[t|e]:=hV.isInt_shape h;show .inl %[i,t,rfl|e]
 | .inr x,v,h=>by
   let%[t|e]:=hV.isStrOf_shape h;show .inr %[x,t,rfl|e]
def By(i:nX)(t:Tok):kH (.inl i) (.int i t)=fI:=by simp[kH,Wr]
def eM(x:iv)(t:Tok):kH (.inr x) (.str x t)=fI:=by simp[kH,VL]
def Iv(a b:nX):decide ((WR a:Key)=WR b)=(a==b):=by
 by_cases e:a=b
 .subst e;simp
 simp_all
def Iw(a b:iv):decide ((hY a:Key)=hY b)=decide (a=b):=by
 simp
abbrev aX(prog:nz)(w:vk):PySem.KeyKind prog w Key where
 is:=kH
 hash:=keyH w
 inj:=λv a b ha hb=>by
  rcases bh ha with⟨i,t,rfl,rfl⟩|⟨x,t,rfl,rfl⟩
  .rcases bh hb with⟨j,u,rfl,e⟩|⟨y,u,rfl,e⟩
   .injection e with e1 _;rw[e1]
   .show nomatch e
  .rcases bh hb with⟨j,u,rfl,e⟩|⟨y,u,rfl,e⟩
   .show nomatch e
   .injection e with e1 _;rw[e1]
 byValue:=λk v h=>by
  rcases bh h with⟨i,t,rfl,rfl⟩|⟨x,t,rfl,rfl⟩<;> rfl
 pyHash:=λhv h=>by
  rcases bh hv with⟨i,t,rfl,rfl⟩|⟨x,t,rfl,rfl⟩
  .show wpAny_pyHash_int h
  .show Wz h
 eqBool:=λhu hv h=>by
  rcases bh hu with⟨i,t,rfl,rfl⟩|⟨x,t,rfl,rfl⟩
  .rcases bh hv with⟨j,u,rfl,rfl⟩|⟨y,u,rfl,rfl⟩
   .rw[Iv]at h;show WE h
   .show S9 i t y u _ _ _ _ h
  .rcases bh hv with⟨j,u,rfl,rfl⟩|⟨y,u,rfl,rfl⟩
   .show S8 x t j u _ _ _ _ h
   .rw[Iw]at h;show wpAny_eqBool_str h
 «strs»:=λk x t v h=>by
  rcases bh h with⟨i,u,rfl,e⟩|⟨y,u,rfl,e⟩
  .show nomatch e
  .injection e with e1 _
   subst e1;cases v<;> rfl
def wz(prog:nz)(w:vk)(i:nX)(t:Tok):(aX prog w).is (.inl i) (.int i t)=fI:=By i t
def wA(prog:nz)(w:vk)(x:iv)(t:Tok):(aX prog w).is (.inr x) (.str x t)=fI:=eM x t
set_option genInjectivity true in
inductive V where
 | non|bl (b:pp)|int (i:nX)|str (x:iv)|byt (b:nY UInt8)|flt (b:UInt64)|ref (a:ij)|ty (n:Mv)
 deriving Mw
abbrev aY:V->hV->Prop
 | .non,u=>u=M0
 | .bl b,u=>u=WQ b
 | .int i,u=>∃t,u=RM i t
 | .str x,u=>∃t,u=Mf x t
 | .byt b,u=>∃t,u=hV.bytes b t
 | .flt b,u=>∃t,u=hV.float b t
 | .ref a,u=>u=kG a
 | .ty n,u=>u=MG n
nonrec abbrev aQ:dV V->ZF->Prop:=Paired aY
def aQ.length{xs:dV V}{us:ZF}(r:aQ xs us): ~~~xs= ~~~us:=Paired.length r
def aQ.get:∀{xs:dV V} {us:ZF} {i:hH} {x:V},aQ xs us->xs[i]?∣x->∃u,us[i]?∣u/\aY x u
 | _,_,_,_,.nil,e=>by simp at e
 | _,_,0,_,.cons r _,e=>by simp at e;subst e;show%[_,ρ|r]
 | _,_,i+1,x,.cons _ t,e=>by
   let%[u,a|b]:=aQ.get t (e);show%[u,a|b]
def aQ.append:∀{xs ys:dV V} {us ws:ZF},aQ xs us->aQ ys ws->aQ (xs++ys) (us++ws)
 | _,_,_,_,.nil,s=>s
 | _,_,_,_,.cons r t,s=> .cons r (aQ.append t s)
def aQ.take:∀{xs:dV V} {us:ZF} n,aQ xs us->aQ (xs.take n) (us.take n)
 | _,_,0,_=> .nil
 | _,_,_+1,.nil=> .nil
 | _,_,n+1,.cons r t=> .cons r (aQ.take n t)
def aQ.drop:∀{xs:dV V} {us:ZF} n,aQ xs us->aQ (xs.drop n) (us.drop n)
 | _,_,0,r=>r
 | _,_,_+1,.nil=> .nil
 | _,_,n+1,.cons _ t=>aQ.drop n t
abbrev iB:kf V->kf hV->Prop
 | fx v,fx u=>aY v u
 | eH,eH=>Pr
 | _,_=>G2
abbrev KV{a:Type}:dV (a×V)->dV (a×hV)->Prop:=Paired λp q=>p.1=q.1/\aY p.2 q.2
abbrev kV:Key->V
 | .inl i=> .int i
 | .inr x=> .str x
set_option genInjectivity true in
inductive HO where
 | lst (xs:dV V)
 | tup (xs:dV V)
 | dK (kvs:dV (Key×V))|dT (kvs:dV (dV Key×V))
 | set (S:nX->pp) (n:hH)
 | ins (C dx:ij) (fs:dV (iv×V))
 | own (x:ij)
 | xd (fs:dV (iv×V))
 | met (f x:ij)
 | rng (lo hi:nX)
 | frz (o:NQ) (u:HO)
 | tbl (ps:ZJ)
 | ext (φ:v0->Prop)
noncomputable abbrev Hp:=ij->kf HO
abbrev Qa(H:Hp)(a:ij)(o:HO):Hp:=λb=>if b=a then fx o else H b
def af:Qa H a o a∣o:=by unfold Qa;rw[jg rfl]
def av{H:Hp}{a b:ij}{o:HO}(h:b≠a):Qa H a o b=H b:=by unfold Qa;rw[hX h]
def FW:Qa (Qa H a o) a u=Qa H a u:=by
 funext b;unfold Qa;split<;> rfl
def pA{H:Hp}(h:H a∣o)(h':H b∣u)(d:o≠u):a≠b:=by
 intro e;subst e;rw[h]at h';show d (Za h')
def aC{H:Hp}{a b:ij}{o:HO}(h:H a∣o)(h':H b=eH):a≠b:=by
 lia
section
variable(P:nz)(w:vk)
abbrev cN(H:Hp)(h:v0)(a:ij):HO->Prop
 | .lst xs=> ~~~xs<=ku/\∃(its:ZF) (n:hH),aQ xs its/\h.get? a=fx {cls:= .type "list",data:= .seq its.toArray n}
 | .tup xs=> ~~~xs<=ku/\∃its:ZF,aQ xs its/\IsTup h a its.toArray
 | .dK b=> ~~~b<=ku/\(a==Nl)=fS/\∃vs,KV b vs/\h.DictOf (aX P w) a vs
 | .dT b=> ~~~b<=ku/\(a==Nl)=fS/\∃xs:dV (dV Key×ij×hV),
  Paired (λ(p:dV Key×V) (q:dV Key×ij×hV)=>p.1=q.1/\H q.2.1&&&p.1.map kV/\aY p.2 q.2.2) b xs/\
  ∃o es j,h.get? a∣o/\o.ExactDict/\o.data= .dict es j/\es.toList=xs.map (entryOfKey (SK (aX P w)))/\(xs\1).Nodup
 | .set S n=>h.SetOf (intKind P w) a S n
 | .ins C d fs=>H d∣.own a/\ ~~~fs<=1000/\d≠a/\h.get? a∣Tn C d/\
  ∃c,h.Ns1 d c/\(∀f,iB (fs.lookup f) (c f))/\PySem.Within c (fs\1)
 | .own _=>∃o,h.get? a∣o
 | .xd fs=>∃c,h.Ns1 a c/\∀f,iB (fs.lookup f) (c f)
 | .rng lo hi=>∃t u v,h.get? a=fx {cls:= .type "range",data:= .fields #[.int lo t,.int hi u,.int 1 v]}
 | .frz o u=>h.get? a∣o/\cN H h a u
 | .tbl ps=>h.get? a=fx {cls:= .none,data:= .fields ps}
 | .met f x=>h.get? a∣PySem.W.methodObj (.ref f) (.ref x)
 | .ext e=>e h/\(∃o,h.get? a∣o)/\∀g i,e g->(∀o,g.get? a∣o->i.get? a∣o)->e i
abbrev HOk(H:Hp)(h:v0):Prop:=∀a o,H a∣o->cN P w H h a o
end
section
variable{P:nz}{w:vk}{H H':Hp}{h h':v0}{a:ij}{o:HO}
def cN.lt(x:cN P w H h a o):a<h.objs.size:=by
 cases o with
 | lst xs=>have%[_,_,_,_|e]:=x;show Zu e
 | tup xs=>have%[_,_,_|p]:=x;show p.lt
 | dK b=>have%[_,_,_,_,o,_,_,e|_]:=x;show Zu e
 | dT b=>have%[_,_,_,_,o,_,_,e|_]:=x;show Zu e
 | set S n=>have%[o,_,_,_,e|_]:=x;show Zu e
 | ins C c fs=>have%[_,_,_,e|_]:=x;show Zu e
 | own y=>have%[_|e]:=x;show Zu e
 | xd fs=>have%[_,%[_,_,_,e|_]|_]:=x;show Zu e
 | rng lo hi=>have%[_,_,_|e]:=x;show Zu e
 | frz d u=>have%[e|_]:=x;show Zu e
 | tbl ps=>show Zu (x)
 | met f y=>show Zu (x)
 | ext g=>have%[_,%[_|e]|_]:=x;show Zu e
def Paired.mapP{F G:c->d->Prop}:∀{l₁:dV c} {l₂:dV d},Paired F l₁ l₂->(∀a b,F a b->G a b)->Paired G l₁ l₂
 | _,_,.nil,_=> .nil
 | _,_,.cons r t,f=> .cons (f _ _ r) (Paired.mapP t f)
def cN.stay(x:cN P w H h a o)(k:∀b u,(b=a\/H b∣.own a)->h.get? b∣u->h'.get? b∣u)
 (m:∀b,H b∣.own a->H' b∣.own a) (s:∀b xs,H b&&&xs->H' b&&&xs):cN P w H' h' a o:=by
 induction o with
 | lst xs=>have%[z,its,n,r|e]:=x;show%[z,its,n,r|k _ _ (.inl rfl) e]
 | tup xs=>have%[z,its,r,g,e|c]:=x;show%[z,its,r,g,k _ _ (.inl rfl) e|c]
 | dK j=>have%[z,y,vs,r,g,es,i,e|c]:=x;show%[z,y,vs,r,g,es,i,k _ _ (.inl rfl) e|c]
 | dT j=>
   let%[z,y,xs,r,g,es,i,e|c]:=x;show%[z,y,xs,Paired.mapP r λp q z=>%[z.1,s _ _ z.2.1|z.2.2],g,es,i,k _ _ (.inl rfl) e|c]
 | set S n=>have%[g,es,i,t,e|c]:=x;show%[g,es,i,t,k _ _ (.inl rfl) e|c]
 | ins C E fs=>
   let%[d,z,ne,e,l,%[od,es,i,A|c]|r]:=x;show%[m _ d,z,ne,k _ _ (.inl rfl) e,l,%[od,es,i,k _ _ (.inr d) A|c]|r]
 | own y=>have%[g|e]:=x;show%[g|k _ _ (.inl rfl) e]
 | xd fs=>have%[l,%[od,es,i,e|c]|r]:=x;show%[l,%[od,es,i,k _ _ (.inl rfl) e|c]|r]
 | rng lo hi=>have%[t,u,v|e]:=x;show%[t,u,v|k _ _ (.inl rfl) e]
 | frz g u B=>have%[e|q]:=x;show%[k _ _ (.inl rfl) e|B q]
 | tbl ps=>
   show k a _ (.inl rfl) x
 | met f y=>
   show k a _ (.inl rfl) x
 | ext G=>have%[p,%[o|e]|st]:=x;show%[st _ _ p λo q=>k _ _ (.inl rfl) q,%[o|k _ _ (.inl rfl) e]|st]
def HOk.lt(x:HOk P w H h)(e:H a∣o):a<h.objs.size:=(x a o e).lt
def HOk.fresh(x:HOk P w H h)(e:h.objs.size<=a):H a=eH:=by
 cases q:H a with
 | none=>rfl
 | some u=>show m4 (Zg (x.lt q) e) (Xj _)
def HOk.kept(x:HOk P w H h)(k:∀b u,h.get? b∣u->h'.get? b∣u):HOk P w H h':=λa o e=>
 (x a o e).stay (λb u _ q=>k b u q) (λ_ q=>q) λ_ _ q=>q
def HOk.laid(x:HOk P w H h)(k:∀b u,h.get? b∣u->h'.get? b∣u)(g:h.objs.size<=a)(new:cN P w (Qa H a o) h' a o):HOk P w (Qa H a o) h':=λb u e=>by
 let d:=x.fresh g;by_cases f:b=a
 .subst f;rw[af]at e;grind
 .rw[av f]at e;show(x b u e).stay (λc v _ q=>k c v q) (λc q=>(av (aC q d))▸q) λc xs q=>(av (aC q d))▸q
end
abbrev Rd(H:Hp)(a:ij)(u:HO):Prop:=H a∣u\/∃o,H a∣.frz o u
def Rd.ok{P:nz}{w:vk}{H:Hp}{h:v0}{a:ij}{u:HO}(r:Rd H a u)(x:HOk P w H h):cN P w H h a u:=by
 rcases r with r|⟨o,r⟩
 .show x a u r
 .let%[_|q]:=x a _ r;show q
abbrev Mut:kf HO->Prop
 | fx (.lst _)=>Pr
 | fx (.dK _)=>Pr
 | fx (.dT _)=>Pr
 | fx (.set _ _)=>Pr
 | fx (.ins _ _ _)=>Pr
 | fx (.ext _)=>Pr
 | _=>G2
section
variable{P:nz}{w:vk}{H:Hp}{h h':v0}{x e:ij}{o':HO}
def HOk.write(ok:HOk P w H h)(g:Mut (H x))(m:e=x\/H e∣.own x)(k:∀b u,b≠e->h.get? b∣u->h'.get? b∣u)(i:∃u,h'.get? e∣u)
 (new:cN P w (Qa H x o') h' x o'):HOk P w (Qa H x o') h':=λb u q=>by
 let d:∀c y,H c∣.own y->c≠x:=λc y r z=>by subst z;rw[r]at g;show g
 let f:∀c xs,H c&&&xs->c≠x:=λc xs r z=>by subst z;rw[r]at g;show g
 by_cases j:b=x
 .subst j;rw[af]at q;grind
 .rw[av j]at q;by_cases a:b=e
  .let l:H b∣.own x:=by
    rcases m with z|z
    .show m4 (a.trans z) j
    .show a▸z
   rw[q]at l;cases l;let%[v|n]:=i;show%[v|a▸n]
  .show(ok b u q).stay (λc v o r=>k c v ?_ r) (λc r=>(av (d c b r))▸r) λc xs r=>(av (f c xs r))▸r
   grind
end
structure Un (fs ex:dV ij) (H H':Hp) (h h':v0):Prop where
 keep:∀b o,h.get? b∣o->H b=eH->b∉fs->b∉ex->h'.get? b∣o
 slot:∀b o,h.get? b∣o->H b=eH->b∈fs->b∉ex->∃sl,h'.get? b=fx {o with slots:=sl}
 free:∀b o,h.get? b∣o->H b=eH->b∉ex->H' b=eH
 there:∀b o,h.get? b∣o->b∉ex->∃o',h'.get? b∣o'
 tups:∀b xs,H b&&&xs->H' b&&&xs
 frzs:∀b o u,H b∣.frz o u->H' b∣.frz o u
 tbls:∀b ps,H b∣.tbl ps->∃more,H' b∣.tbl (ps++more)
section
variable{fs fs' ex ex':dV ij}{H H1 H2:Hp}{h h1 h2 h':v0}{a x e:ij}{o:HO}
def Un.any(u:Un fs ex H H1 h h1)(q:h.get? b∣c)(n:H b=eH)(d:b∉ex):∃g,h1.get? b=fx {c with slots:=g}:=by
 by_cases f:b∈fs
 .show u.slot b c q n f d
 .show%[c.slots|u.keep b c q n f d]
def Un.trans(a:Un fs ex H H1 h h1)(b:Un fs ex H1 H2 h1 h2):Un fs ex H H2 h h2 where
 keep:=λc ob q n hc hx=>b.keep c ob (a.keep c ob q n hc hx) (a.free c ob q n hx) hc hx
 slot:=λc ob q n hc hx=>by
  let%[sl|e1]:=a.slot c ob q n hc hx;let%[sl'|e2]:=b.slot c _ e1 (a.free c ob q n hx) hc hx;show%[sl'|e2]
 free:=λc ob q n hx=>by
  let%[o'|e1]:=a.there c ob q hx;show b.free c o' e1 (a.free c ob q n hx) hx
 there:=λc ob q hx=>by
  let%[o'|e1]:=a.there c ob q hx;show b.there c o' e1 hx
 tups:=λc xs q=>b.tups c xs (a.tups c xs q)
 frzs:=λc ob xs q=>b.frzs c ob xs (a.frzs c ob xs q)
 tbls:=λc ps q=>by
  let%[m1|e1]:=a.tbls c ps q;let%[m2|e2]:=b.tbls c _ e1;show%[m1++m2|by rw[e2,Ur]]
def Un.kept(k:∀b u,h.get? b∣u->h'.get? b∣u):Un fs ex H H h h':=
 %[λb c q _ _ _=>k b c q,λb c q _ _ _=>%[c.slots|k b c q],λ_ _ _ n _=>n,λb c q _=>%[c|k b c q],λ_ _ q=>q,λ_ _ _ q=>q|λ_ ps q=>%[#[]|by rw[q];simp]]
def Un.refl:Un fs ex H H h h:=Un.kept λ_ _ q=>q
def Un.laid(k:∀b u,h.get? b∣u->h'.get? b∣u)(hp:h.objs.size<=a)(hn:H a=eH):Un fs ex H (Qa H a o) h h' where
 keep:=λb u q _ _ _=>k b u q
 slot:=λb u q _ _ _=>%[u.slots|k b u q]
 free:=λb u q n _=>(av (Zs (Zg (Zu q) hp)))▸n
 there:=λb u q _=>%[u|k b u q]
 tups:=λb xs q=>(av (aC q hn))▸q
 frzs:=λb u xs q=>(av (aC q hn))▸q
 tbls:=λb ps q=>%[#[]|by rw[av (aC q hn),q];simp]
def Un.write(f:Mut (H x))(l:e=x\/H e∣.own x)(k:∀b u,b≠e->h.get? b∣u->h'.get? b∣u)(i:∃u,h'.get? e∣u):Un fs ex H (Qa H x o) h h':=by
 let j:∀b,H b=eH->b≠x:=λb n z=>by subst z;rw[n]at f;show f
 let g:∀b,H b=eH->b≠e:=λb n z=>by
  simp_all
 let c:∀b u,H b∣u-> ¬ Mut (fx u)->b≠x:=λb u q nm z=>!2
 show%[λb u q n _ _=>k b u (g b n) q,λb u q n _ _=>%[u.slots|k b u (g b n) q],λb u q n _=>(av (j b n))▸n,λb u q _=>?_,
  λb xs q=>(av (c b _ q λz=>z))▸q,λb u xs q=>(av (c b _ q λz=>z))▸q|λb ps q=>%[#[]|by rw[av (c b _ q λz=>z),q];simp]]
 by_cases d:b=e
 .simp_all
 .show%[u|k b u d q]
end
abbrev trk(h:v0)(H:Hp):dV ij:=(o0 h.objs.size).filter λa=>(H a).isSome
abbrev Bz(h:v0)(H:Hp):v0:=hideAll h (trk h H)
def BA(h:v0)(H:Hp):(Bz h H).objs.size=h.objs.size:=PySem.W.hideAll_size _ _
def CS(e:h.get? b∣o)(n:H b=eH):(Bz h H).get? b∣o:=
 hideAll_get _ e λa=>by
  let q:=(n7.mp a).2;rw[n]at q;simp at q
def FX(e:(Bz h H).get? b∣o):h.get? b∣o/\H b=eH:=by
 let a:=of_hideAll _ e;show%[a|?_];cases q:H b with
 | none=>rfl
 | some x=>
   let z:(Bz h H).get? b=eH:=PySem.W.hideAll_none _ (n7.mpr %[vu.mpr (Zu a)|by simp[q]])
   grind
abbrev FY(g h:v0)(L:ij):ZE:=(o0 h.objs.size).filterMap λa=>if a=L\/(g.get? a).isSome=fI then eH else(h.get? a).map λo=>(a,o)
abbrev rest(g h:v0)(L d:ij):ZE:=(FY g h L).filter λp=>decide (p.1≠d)
structure Mod (K:ZA) (mg:ZC) (base:v0):Prop where
 kin:K.In base
 glob:base.Ns vr mg
 blt:∃mb,base.Ns V2 mb/\∀x:iv,x≠"__name__"->mb x=M8 x
 nolimit:base.NoLimit
structure Cx where
 prog:nz
 w:vk
 K:ZA
 mg:iv->kf hV
 base:v0
 A:vj
 N:ZB
 s₀:kj
 H₀:Hp
 env:Env
 outer:dV Env
 stack:dV Env
 ex:dV ij
 fn:iv->pp
 calm:pp
 pn:ZE
 xe:hV->kj->Prop
abbrev frs(l:dV Env):dV ij:=l.filterMap (·.frame)
noncomputable abbrev Cx.fs(X:Cx):dV ij:=frs X.outer
abbrev Vis(a:Rw)(x:iv):Prop:=a.names.lookup x∣.local\/a.names.lookup x∣.cell\/a.names.lookup x∣.free
abbrev Loc(a:Rw)(x:iv):Prop:=a.names.lookup x∣.local\/a.names.lookup x∣.cell
abbrev Look(env:Env)(h:v0)(m:ZC)(x:iv)(u:hV):Prop:=
 (env.kindOf x∣.local/\m x∣u)\/((env.kindOf x∣.cell\/env.kindOf x∣.free)/\∃c,env.cells.lookup x∣c/\h.IsCell c (fx u))
structure Cx.Ok (X:Cx):Prop where
 mod:Mod X.K X.mg X.base
 kind:X.env.scope.kind= .function
 glob:X.env.globals=vr
 blt:X.env.builtins=V2
 above:X.s₀.heap.objs.size<=X.env.locals
 inj:∀x y c,X.env.cells.lookup x∣c->X.env.cells.lookup y∣c->x=y
 has:∀x,(X.env.kindOf x∣.cell\/X.env.kindOf x∣.free)->∃c,X.env.cells.lookup x∣c
 cab:∀x c,X.fn x=fI->X.env.cells.lookup x∣c->X.s₀.heap.objs.size<=c
 hd:X.calm=fI->X.A.handled=eH
 frames:X.A.frames∣X.stack
 stk:X.stack=X.outer\/(X.stack=X.env::X.outer/\X.env.frame∣X.env.locals)
 exf:∀b∈X.ex,b≠X.env.locals/\∀x c,X.env.cells.lookup x∣c->c≠b
 bs:∀b o,X.base.get? b∣o->X.s₀.heap.get? b∣o/\X.H₀ b=eH
 bsz:X.base.objs.size<=X.s₀.heap.objs.size
 noex:∀b o,X.base.get? b∣o->b∉X.ex
 exfs:∀b∈X.ex,b∉X.fs
 funs:X.s₀.heap.FunFrames X.base X.outer
 frf:∀b∈X.fs,X.H₀ b=eH
structure Qc (X:Cx) (ff:dV _) (σ:dV _) (H:Hp) (s:kj):Prop where
 ok:X.Ok
 os:s.os=X.s₀.os
 bare:Qo s.gens
 base:Un X.fs X.ex X.H₀ H X.s₀.heap s.heap
 loc:∃m,s.heap.Ns X.env.locals m/\∀(i:hH) x v,X.N[i]?∣x->σ[i]?∣fx v->Vis X.env.scope x->∃u,aY v u/\Look X.env s.heap m x u
 cell:∀x c,X.env.cells.lookup x∣c->∃v,s.heap.IsCell c v
 free:H X.env.locals=eH
 freeC:∀x c,X.env.cells.lookup x∣c->H c=eH
 pin:∀p∈X.pn++ff,s.heap.get? p.1∣p.2/\H p.1=eH/\p.1≠X.env.locals/\p.1∉X.fs/\∀v,p.2.data≠ .cell v
 hok:HOk X.prog X.w H s.heap
 len:σ.length= ~~~X.N
section
variable{X:Cx}{ff:ZE}{σ:dV (kf V)}{H H':Hp}{s:kj}{h':v0}
def Cx.Ok.nofr(ok:X.Ok)(e:X.base.get? b∣o):b∉X.fs:=λa=>by
 let:=(ok.funs.mem a).1
 grind
def Qc.bs(I:Qc X ff σ H s):∀b o,X.base.get? b∣o->s.heap.get? b∣o/\H b=eH:=λb o e=>
 %[I.base.keep b o (I.ok.bs b o e).1 (I.ok.bs b o e).2 (I.ok.nofr e) (I.ok.noex b o e)|I.base.free b o (I.ok.bs b o e).1 (I.ok.bs b o e).2 (I.ok.noex b o e)]
def Qc.bk(I:Qc X ff σ H s):∀b o,X.base.get? b∣o->s.heap.get? b∣o:=λb o e=>(I.bs b o e).1
def Qc.mod(I:Qc X ff σ H s):Mod X.K X.mg X.base:=I.ok.mod
def Qc.kIn(I:Qc X ff σ H s):X.K.In s.heap:=I.ok.mod.kin.keeps I.bk
def Qc.lt(I:Qc X ff σ H s):X.env.locals<⇑s:=let⟨_,a,_⟩:=I.loc;a.lt
def Qc.sz(I:Qc X ff σ H s):X.s₀.heap.objs.size<=⇑s:=md I.ok.above (Yf I.lt)
def Qc.nofs(I:Qc X ff σ H s)(h:⇑s<=a):a∉X.fs:=λb=>by
 let%[_,o,c|_]:=I.ok.funs.mem b;show m4 (Zg (Zu c) (md I.sz h)) (Xj _)
def Qc.cne(I:Qc X ff σ H s):∀x c,X.env.cells.lookup x∣c->c≠X.env.locals:=λx c e z=>by
 let%[v,o,d|f]:=I.cell x c e;let%[m,%[g,es,h,a,b|_]|_]:=I.loc
 grind
def Qc.funs(I:Qc X ff σ H s):s.heap.FunFrames X.base X.outer:=by
 let all:∀l,(∀b∈frs l,b∈X.fs)->X.s₀.heap.FunFrames X.base l->s.heap.FunFrames X.base l:=by
  intro l
  induction l with
  | nil=>intro _ _;trivial
  | cons env r g=>
    intro f h;let%[i,%[L,o,a,j,m|n]|p]:=h;let c:=f L (by unfold frs;rw[Y1,a];show Zm);let%[q|e]:=I.base.slot L o m (I.ok.frf L c) c λz=>I.ok.exfs L z c
    show%[i,%[L,_,a,j,e|n]|g (λb d=>f b (by unfold frs;rw[Y1,a];show Zk _ d)) p]
 show all X.outer (λ_ d=>d) I.ok.funs
def Qc.stack(I:Qc X ff σ H s):s.heap.FunFrames X.base X.stack:=by
 rcases I.ok.stk with e|⟨e,a⟩
 .show e▸I.funs
 .rw[e];let%[m,b|_]:=I.loc;show .cons (by rw[I.ok.kind];decide) a b (v0.get?_none_of_le (md I.ok.bsz I.ok.above)) I.funs
def Qc.stkSub(I:Qc X ff σ H s):∀b∈frs X.stack,b∈X.env.locals::X.fs:=λb a=>by
 rcases I.ok.stk with e|⟨e,c⟩
 .rw[e]at a;show Zk _ a
 .rw[e]at a;unfold frs at a;rw[Y1,c]at a;show a
def Qc.stkFree(I:Qc X ff σ H s):∀b∈frs X.stack,H b=eH:=λb a=>by
 rcases Yw.mp (I.stkSub b a)with e|a
 .show e▸I.free
 .let%[_,o,c|_]:=I.ok.funs.mem a;show I.base.free b o c (I.ok.frf b a) λz=>I.ok.exfs b z a
def Qc.step{T:Drawn}{ch:dV ij}(I:Qc X ff σ H s)
 (f:∀b∈ch,(b∈X.ex\/X.s₀.heap.objs.size<=b)/\b≠X.env.locals/\(∀x c,X.env.cells.lookup x∣c->c≠b)/\∀p∈X.pn++ff,p.1≠b)
 (keep:∀b o,b≠X.env.locals->b∉X.fs->b∉ch->s.heap.get? b∣o->H b=eH->h'.get? b∣o)
 (slot:∀b o,b≠X.env.locals->b∈X.fs->b∉ch->s.heap.get? b∣o->H b=eH->∃G,h'.get? b=fx {o with slots:=G}) (free:∀b o,b∉ch->s.heap.get? b∣o->H b=eH->H' b=eH)
 (there:∀b o,b∉ch->s.heap.get? b∣o->∃B,h'.get? b∣B)
 (tups:∀b xs,H b&&&xs->H' b&&&xs) (frzs:∀b o u,H b∣.frz o u->H' b∣.frz o u) (tbls:∀b ps,H b∣.tbl ps->∃more,H' b∣.tbl (ps++more))
 (U:∀m,s.heap.Ns X.env.locals m->h'.Ns X.env.locals m) (J:HOk X.prog X.w H' h') (Y:Qo g'):
 Qc X ff σ H' {s with heap:=h',gens:=g',drawn:=T,toks:=t'}:=by
 let C:∀b o,X.s₀.heap.get? b∣o->b≠X.env.locals:=λb o e=>Zs (Zg (Zu e) I.ok.above)
 let j:∀b o,X.s₀.heap.get? b∣o->b∉X.ex->b∉ch:=λb o e a y=>by
  rcases(f b y).1 with z|z
  .show a z
  .show m4 (Zg (Zu e) z) (Xj _)
 let g:∀x c,X.env.cells.lookup x∣c->∀v,s.heap.IsCell c v->h'.IsCell c v:=λx c e v ⟨o,A,L⟩=>by
  let h:=λz=>(f c z).2.2.1 x c e rfl
  by_cases N:c∈X.fs
  .let%[G|q]:=slot c o (I.cne x c e) N h A (I.freeC x c e);show%[_,q|L]
  .show%[o,keep c o (I.cne x c e) N h A (I.freeC x c e)|L]
 show%[I.ok,I.os,Y,%[λb o e n y a=>?_,λb o e n y a=>?_,λb o e n a=>?_,λb o e a=>?_,λb xs e=>tups b xs (I.base.tups b xs e),λb o xs e=>frzs b o xs (I.base.frzs b o xs e)|λb ps e=>?_],?_,λx c e=>?_,?_,λx c e=>?_,λp O=>?_,J|I.len]
 .show keep b o (C b o e) y (j b o e a) (I.base.keep b o e n y a) (I.base.free b o e n a)
 .let%[G|w]:=I.base.slot b o e n y a;let%[M|E]:=slot b _ (C b o e) y (j b o e a) w (I.base.free b o e n a);show%[M|E]
 .let%[B|w]:=I.base.there b o e a;show free b B (j b o e a) w (I.base.free b o e n a)
 .let%[B|w]:=I.base.there b o e a;show there b B (j b o e a) w
 .let%[m1|w]:=I.base.tbls b ps e;let%[m2|E]:=tbls b _ w;show%[m1++m2|by rw[E,Ur]]
 .let%[m,hn|hl]:=I.loc;show%[m,U m hn|λi x v w E e3=>?_];let%[u,r|l]:=hl i x v w E e3;show%[u,r|?_];rcases l with l|⟨k,c,e,z⟩
  .show .inl l
  .show .inr %[k,c,e|g x c e _ z]
 .let%[v|z]:=I.cell x c e;show%[v|g x c e v z]
 .let%[m,%[o,_,_,A|_]|_]:=I.loc;show free _ o (λz=>(f _ z).2.1 rfl) A I.free
 .let%[v,o,A|L]:=I.cell x c e;show free c o (λz=>(f c z).2.2.1 x c e rfl) A (I.freeC x c e)
 .let%[e,n,ne,Q|d]:=I.pin p O;let h:=λz=>(f p.1 z).2.2.2 p O rfl
  show%[keep p.1 p.2 ne Q h e n,free p.1 p.2 h e n,ne,Q|d]
def Qc.un{t':hH}(I:Qc X ff σ H s)(u:Un X.fs [] H H' s.heap h')(c:HOk X.prog X.w H' h'):Qc X ff σ H' {s with heap:=h',toks:=t'}:=by
 let%[m,%[o,es,p,h|r]|_]:=id I.loc;let%[q|i]:=u.any h I.free ∅;show I.step (ch:=[]) (λ_ z=>nomatch z) (λb o _ d _ e n=>u.keep b o e n d ∅) (λb o _ d _ e n=>u.slot b o e n d ∅) (λb o _ e n=>u.free b o e n ∅) (λb o _ e=>u.there b o e ∅) u.tups u.frzs u.tbls (λv j=>by
  let%[w,f,g,a|l]:=j;rw[h]at a;cases a;show%[_,f,g,i|l]) c I.bare
def Qc.call{q:Drawn}{ch:dV ij}(I:Qc X ff σ H s)(u:Un (frs X.stack) ch H H' s.heap h')(g:HOk X.prog X.w H' h')(v:Qo w)
 (d:∀b∈ch,(b∈X.ex\/X.s₀.heap.objs.size<=b)/\b≠X.env.locals/\(∀x c,X.env.cells.lookup x∣c->c≠b)/\∀p∈X.pn++ff,p.1≠b):
 Qc X ff σ H' {s with heap:=h',gens:=w,drawn:=q,toks:=t'}:=by
 let%[m,%[o,es,C,l|r]|_]:=id I.loc;let%[E|h]:=u.any l I.free λz=>(d _ z).2.1 rfl
 show I.step d (λb o h y a e n=>u.keep b o e n (λz=>(Yw.mp (I.stkSub b z)).elim h y) a) (λb o _ _ a e n=>u.any e n a) (λb o a e n=>u.free b o e n a) (λb o a e=>u.there b o e a) u.tups u.frzs u.tbls (λG A=>by
  let%[J,i,j,f|B]:=A;rw[l]at f;cases f;show%[_,i,j,h|B]) g v
def Qc.turned{it:ij}(I:Qc X ff σ H s)(k:∀b o,b≠it->s.heap.get? b∣o->h'.get? b∣o)(A:H it=eH)(f:it≠X.env.locals)
 (g:it∈X.ex\/X.s₀.heap.objs.size<=it) (h:∀x c,X.env.cells.lookup x∣c->c≠it) (i:∀p∈X.pn++ff,p.1≠it):Qc X ff σ H {s with heap:=h',toks:=t'}:=by
 let d:∀b u,H b∣u->b≠it:=λb u e z=>by lia
 show I.step (ch:=[it]) (λb j=>?_) (λb o _ _ a e _=>k b o (λz=>a (by simp[z])) e) (λb o _ _ a e _=>%[o.slots|k b o (λz=>a (by simp[z])) e]) (λ_ _ _ _ n=>n)
  (λb o a e=>%[o|k b o (λz=>a (by simp[z])) e]) (λ_ _ e=>e) (λ_ _ _ e=>e) (λb ps e=>%[#[]|by rw[e];simp]) (λm l=>?_) (λb u e=>?_) I.bare
 .let e:=↑j
  subst e;show%[g,f,h|i]
 .let%[o,es,w,y|r]:=l;show%[o,es,w,k _ o (zr f) y|r]
 .show(I.hok b u e).stay (λc v a q=>k c v ?_ q) (λ_ q=>q) λ_ _ q=>q
  rcases a with z|z
  .show z▸d b u e
  .show d c _ z
def Qc.tok(I:Qc X ff σ H s)(t:hH):Qc X ff σ H {s with toks:=t}:=I.un Un.refl I.hok
def Qc.kept(I:Qc X ff σ H s)(k:∀b u,s.heap.get? b∣u->h'.get? b∣u):Qc X ff σ H {s with heap:=h',toks:=t'}:=I.un (Un.kept k) (I.hok.kept k)
def Qc.laid{a:ij}{o:HO}{t':hH}(I:Qc X ff σ H s)(k:∀b u,s.heap.get? b∣u->h'.get? b∣u)(c:⇑s<=a)(new:cN X.prog X.w (Qa H a o) h' a o):
 Qc X ff σ (Qa H a o) {s with heap:=h',toks:=t'}:=I.un (Un.laid k c (I.hok.fresh c)) (I.hok.laid k c new)
def Qc.write(I:Qc X ff σ H s)(c:Mut (H x))(d:e=x\/H e∣.own x)(k:∀b u,b≠e->s.heap.get? b∣u->h'.get? b∣u)(a:∃u,h'.get? e∣u)
 (new:cN X.prog X.w (Qa H x o) h' x o):Qc X ff σ (Qa H x o) {s with heap:=h',toks:=t'}:=I.un (Un.write c d k a) (I.hok.write c d k a new)
def Qc.pins_of(I:Qc X ff σ H s)(h:∀p∈a,s.heap.get? p.1∣p.2/\H p.1=eH/\p.1≠X.env.locals/\p.1∉X.fs/\∀v,p.2.data≠ .cell v):Qc X a σ H s:=
 %[I.ok,I.os,I.bare,I.base,I.loc,I.cell,I.free,I.freeC,λp b=>(Xm b).elim (λz=>I.pin p (Yu _ z)) (h p),I.hok|I.len]
def jD{N:ZB}(c:N.Nodup){i j:hH}{x:iv}(a:N[i]?∣x)(b:N[j]?∣x):i=j:=by
 let%[f|d]:=Xl a;let%[g|e]:=Xl b;show(dV.getElem_inj c).mp (d.trans e.symm)
def BB{A:vj}{E:ZD}{i:hH}{x:iv}{v:V}{u:hV}{Q:So->kj->Prop}(I:Qc X ff σ H s)(hN:X.N.Nodup)(hi:X.N[i]?∣x)(B:Loc X.env.scope x)(r:aY v u)
 (h:∀s',Qc X ff (σ.set i (fx v)) H s'->(∃a,tI a s.heap s'.heap/\(a=X.env.locals\/X.env.cells.lookup x∣a))->Q () s') (hf:X.fn x=fI\/X.env.scope.names.lookup x∣.local):oT M A (storeName X.env x u) Q E s:=by
 let%[m,hn|hl]:=id I.loc;let J:i<σ.length:=I.len▸(Xl hi).1;let cne:=I.cne;let g:∀{a:ij} {h':v0},(∃o,s.heap.get? a∣o/\H a=eH)->tI a s.heap h'->HOk X.prog X.w H h':=λ{a h'} ha f b ob e=>by
  let%[_,_|C]:=ha;show(I.hok b ob e).stay (λc w' w q=>(f.2 c ?_).trans q) (λ_ q=>q) λ_ _ q=>q
  rintro rfl;rcases w with rfl|w
  .rw[C]at e;cases e
  .rw[C]at w;cases w
 rcases B with L|L
 .show wpAny_storeName_local L hn (λh' ae f=>?_) (by rw[I.ok.kind];rfl);let%[oL,_,_,ag|_]:=id hn;show h _ %[I.ok,I.os,I.bare,%[λb o e n N B=>?_,λb o e n N B=>?_,I.base.free,λb o e B=>?_,I.base.tups,I.base.frzs|I.base.tbls],%[_,ae|λj y v' l G e3=>?_],λy c e=>?_,I.free,I.freeC,λp hp=>?_,g %[oL,ag|I.free] f|by simpa using I.len] %[_,f|.inl rfl]
  .show(f.2 b (Zs (Zg (Zu e) I.ok.above))).trans (I.base.keep b o e n N B)
  .let%[sl|l]:=I.base.slot b o e n N B;show%[sl|(f.2 b (Zs (Zg (Zu e) I.ok.above))).trans l]
  .let%[o'|l]:=I.base.there b o e B;show%[o'|(f.2 b (Zs (Zg (Zu e) I.ok.above))).trans l]
  .by_cases O:j=i
   .subst O;rw[hi]at l;cases l;rw[Tq J]at G;cases G;show%[u,r|.inl %[L|by simp]]
   .rw[QM (zr O)]at G;let%[u',r'|q]:=hl j y v' l G e3;show%[u',r'|?_];rcases q with⟨k,e⟩|⟨k,c,e,z⟩
    .show .inl %[k|?_];let:y≠x:=λe=>O (jD hN l (e▸hi))
     simp[this,e]
    .show .inr %[k,c,e|z.sameBut f (cne y c e)]
  .let%[w'|z]:=I.cell y c e;show%[w'|z.sameBut f (cne y c e)]
  .let%[e,n,ne,nf|d]:=I.pin p hp;show%[(f.2 p.1 ne).trans e,n,ne,nf|d]
 .let T:X.fn x=fI:=by
   rcases hf with z|z
   .show z
   .rw[z]at L;cases L
  let%[c|w]:=I.ok.has x (.inl L);let%[w'|z]:=I.cell x c w;show wpAny_storeName_cell I.ok.kind L w z (λh' U f=>?_);let%[oc,Y|ab]:=id z;show h _ %[I.ok,I.os,I.bare,%[λb o e n N B=>?_,λb o e n N B=>?_,I.base.free,λb o e B=>?_,I.base.tups,I.base.frzs|I.base.tbls],%[m,hn.sameBut f (zr (cne x c w))|λj y v' l G e3=>?_],λy c' e=>?_,I.free,I.freeC,λp hp=>?_,g %[oc,Y|I.freeC x c w] f|by simpa using I.len] %[c,f|.inr w]
  .show(f.2 b (Zs (Zg (Zu e) (I.ok.cab x c T w)))).trans (I.base.keep b o e n N B)
  .let%[sl|l]:=I.base.slot b o e n N B;show%[sl|(f.2 b (Zs (Zg (Zu e) (I.ok.cab x c T w)))).trans l]
  .let%[o'|l]:=I.base.there b o e B;show%[o'|(f.2 b (Zs (Zg (Zu e) (I.ok.cab x c T w)))).trans l]
  .by_cases O:j=i
   .subst O;rw[hi]at l;cases l;rw[Tq J]at G;cases G;show%[u,r|.inr %[.inl L,c,w|U]]
   .rw[QM (zr O)]at G;let%[u',r'|q]:=hl j y v' l G e3;show%[u',r'|?_];rcases q with q|⟨k,c',e,z'⟩
    .show .inl q
    .show .inr %[k,c',e|z'.sameBut f ?_];rintro rfl;show O (jD hN l (I.ok.inj _ _ _ e w▸hi))
  .by_cases ac:c'=c
   .subst ac;show%[_|U]
   .let%[w2|z2]:=I.cell y c' e;show%[w2|z2.sameBut f ac]
  .let%[e,n,ne,nf|d]:=I.pin p hp;show%[(f.2 p.1 ?_).trans e,n,ne,nf|d];intro q;rw[q,Y]at e;show d w' ((Za e)▸ab)
def lI(I:Qc X ff σ H s)(a:X.N.Nodup)(hi:X.N[i]?∣x)(b:Loc X.env.scope x)(r:aY v u)
 (h:∀s',Qc X ff (σ.set i (fx v)) H s'->Q () s') (c:X.fn x=fI\/X.env.scope.names.lookup x∣.local):oT M A (storeName X.env x u) Q E s:=
 BB I a hi b r (λs' d _=>h s' d) c
def Qc.call'(I:Qc X ff σ H s)(e:s'.os=s.os)(u:Un (frs X.stack) ch H H' s.heap s'.heap)(a:HOk X.prog X.w H' s'.heap)(f:Qo s'.gens)
 (d:∀b∈ch,(b∈X.ex\/X.s₀.heap.objs.size<=b)/\b≠X.env.locals/\(∀x c,X.env.cells.lookup x∣c->c≠b)/\∀p∈X.pn++ff,p.1≠b):Qc X ff σ H' s':=by
 let%[h',g,h,t'|i]:=s';subst e;show I.call u a f d
end
noncomputable abbrev XK:=hV->ZI->Hp->Prop
noncomputable abbrev St:=dV (kf V)
noncomputable abbrev VK:=V->Hp->Prop
noncomputable abbrev TE:=St->Hp->VK->Prop
noncomputable abbrev TT:=St->Hp->(pp->Hp->Prop)->Prop
noncomputable abbrev TA:=St->Hp->(dV V->Hp->Prop)->Prop
structure jC where
 nx:St->Hp->Prop
 rt:VK
 bk:St->Hp->Prop:=λ_ _=>G2
 ct:St->Hp->Prop:=λ_ _=>G2
noncomputable abbrev TS:=jC->St->Hp->Prop
abbrev EP(X:Cx)(ff:ZE)(a:St)(Q:VK)(u:hV)(s':kj):Prop:=∃v H',Qc X ff a H' s'/\aY v u/\Q v H'
abbrev TP(X:Cx)(ff:ZE)(a:St)(Q:pp->Hp->Prop)(b:pp)(s':kj):Prop:=∃H',Qc X ff a H' s'/\Q b H'
abbrev AP(X:Cx)(ff:ZE)(a:St)(Q:dV V->Hp->Prop)(us:ZF)(s':kj):Prop:=∃vs H',Qc X ff a H' s'/\aQ vs us/\Q vs H'
abbrev SP(X:Cx)(ff:ZE)(D:jC)(f:Flow)(s':kj):Prop:=
 match f with
 | .next=>∃a H',Qc X ff a H' s'/\D.nx a H'
 | .brk=>∃a H',Qc X ff a H' s'/\D.bk a H'
 | .cont=>∃a H',Qc X ff a H' s'/\D.ct a H'
 | .ret u=>∃v a H',Qc X ff a H' s'/\aY v u/\D.rt v H'
abbrev PE(X:Cx)(e:wh)(t:TE):Prop:=
 ∀ff s (a:St) H Q,Qc X ff a H s->t a H Q->(X⁻¹) (MO e X.env) (EP X ff a Q) X.xe s
abbrev PT(X:Cx)(e:wh)(t:TT):Prop:=
 ∀ff s (a:St) H Q,Qc X ff a H s->t a H Q->(X⁻¹) (SN e X.env (MO e X.env)) (TP X ff a Q) X.xe s
abbrev PW(X:Cx)(e:wh)(t:TT):Prop:=
 ∀a ff s (b:St) H Q,Qc X ff b H s->t b H Q->(X⁻¹) (SN e X.env a) (TP X ff b Q) X.xe s
def PW.pt{X:Cx}(h:PW X e t):PT X e t:=h _
abbrev PA(X:Cx)(es:dV wh)(t:TA):Prop:=
 ∀pos ff s (a:St) H Q,Qc X ff a H s->t a H Q->(X⁻¹) (spliced (Nm pos (ri es X.env))) (AP X ff a Q) X.xe s
abbrev PS(X:Cx)(st:yc)(t:TS):Prop:=
 ∀ff s (a:St) H D,Qc X ff a H s->t D a H->(X⁻¹) (exec st X.env) (SP X ff D) X.xe s
abbrev PSs(X:Cx)(st:dV yc)(t:TS):Prop:=
 ∀ff s (a:St) H D,Qc X ff a H s->t D a H->(X⁻¹) (execs st X.env) (SP X ff D) X.xe s
def thn{b:Type}{t:Sem b}{Q c:b->kj->Prop}{M:Model}{A:vj}{E:ZD}{s:kj}(h:oT M A t Q E s)(d:∀a s,Q a s->c a s):oT M A t c E s:=J5 h d λ_ _ x=>x
def thP{b c:Type}{t:Sem b}{X:Cx}{ff:ZE}{d:St}{R:c->b->Prop}{Q:c->Hp->Prop}{e:b->kj->Prop}{M:Model}{A:vj}{E:ZD}{s:kj}(h:oT M A t (λa s=>∃v H',Qc X ff d H' s/\R v a/\Q v H') E s)(f:∀a s v H',Qc X ff d H' s->R v a->Q v H'->e a s):oT M A t e E s:=J5 h (λa s ⟨v,H',i,r,q⟩=>f a s v H' i r q) λ_ _ x=>x
def thT{b:Type}{t:Sem b}{X:Cx}{ff:ZE}{c:St}{Q:b->Hp->Prop}{d:b->kj->Prop}{M:Model}{A:vj}{E:ZD}{s:kj}(h:oT M A t (λa s=>∃H',Qc X ff c H' s/\Q a H') E s)(e:∀a s H',Qc X ff c H' s->Q a H'->d a s):oT M A t d E s:=J5 h (λa s ⟨H',i,q⟩=>e a s H' i q) λ_ _ x=>x
section
variable{X:Cx}
abbrev asI(x:V)(f:nX->Prop):Prop:=match x with| .int i=>f i|_=>G2
abbrev asB(x:V)(f:pp->Prop):Prop:=match x with| .bl i=>f i|_=>G2
abbrev asR(x:V)(f:ij->Prop):Prop:=match x with| .ref i=>f i|_=>G2
def KU:asI (.int i) f=f i:=rfl
def KW:asB (.bl i) f=f i:=rfl
def KY:asR (.ref i) f=f i:=rfl
def dS{x:V}{f:nX->Prop}(h:asI x f):∃i,x= .int i/\f i:=by
 cases x<;> first|show⟨_,rfl,h⟩|show h.elim
def sI{x:V}{f:pp->Prop}(h:asB x f):∃i,x= .bl i/\f i:=by
 cases x<;> first|show⟨_,rfl,h⟩|show h.elim
def aU{x:V}{f:ij->Prop}(h:asR x f):∃i,x= .ref i/\f i:=by
 cases x<;> first|show⟨_,rfl,h⟩|show h.elim
abbrev asS(x:V)(f:iv->Prop):Prop:=match x with| .str i=>f i|_=>G2
def KZ:asS (.str i) f=f i:=rfl
def fY{x:V}{f:iv->Prop}(h:asS x f):∃i,x= .str i/\f i:=by
 cases x<;> first|show⟨_,rfl,h⟩|show h.elim
abbrev dh(xs:dV V)(f:V->Prop):Prop:=match xs with|[x]=>f x|_=>G2
def Ix:dh [x] f=f x:=rfl
def ck{xs:dV V}{f:V->Prop}(h:dh xs f):∃x,xs=[x]/\f x:=by
 rcases xs with _|⟨x,_|⟨y,r⟩⟩<;> first|show⟨_,rfl,h⟩|show h.elim
abbrev mZ(xs:dV V)(f:V->V->Prop):Prop:=match xs with|[x,y]=>f x y|_=>G2
def Iy:mZ [x,y] f=f x y:=rfl
def jE{xs:dV V}{f:V->V->Prop}(h:mZ xs f):∃x y,xs=[x,y]/\f x y:=by
 rcases xs with _|⟨x,_|⟨y,_|⟨z,r⟩⟩⟩<;> first|show⟨_,_,rfl,h⟩|show h.elim
abbrev Iz(xs:dV V)(p:Prop):Prop:=match xs with|[]=>p|_=>G2
def IA:Iz [] p=p:=rfl
def IB{xs:dV V}{p:Prop}(h:Iz xs p):xs=[]/\p:=by
 cases xs<;> first|show⟨rfl,h⟩|show h.elim
abbrev rH:hH->TE
 | 0,fx v::_,H,Q=>Q v H
 | i+1,_::a,H,Q=>rH i a H Q
 | _,_,_,_=>G2
def IC:rH 0 (fx v::a) H Q=Q v H:=rfl
def ID:rH (i+1) (o::a) H Q=rH i a H Q:=rfl
def CT:∀{i:hH} {a:St},rH i a H Q->∃v,a[i]?∣fx v/\Q v H
 | 0,fx v::_,h=>%[v,rfl|h]
 | 0,eH::_,h=>h.elim
 | 0,[],h=>h.elim
 | _+1,[],h=>h.elim
 | i+1,_::a,h=>CT (i:=i) h
abbrev tC(v:V):TE:=λ_ H Q=>Q v H
def CU(j:X.N[i]?∣x)(n:Vis X.env.scope x)(d:(x==("__debug__":iv))=fS)(f:(x==("__classdict__":iv))=fS):PE X (.Name x pos) (rH i):=by
 intro ff s o H Q I h;let%[v,e|h]:=CT h;let%[m,p|q]:=I.loc;let%[u,r|l]:=q i x v j e n;let fin:EP X ff o Q u s:=%[v,H,I,r|h]
 rcases l with⟨b,w⟩|⟨b,c,g,a⟩
 .show VV (wpAny_loadName_local I.ok.kind b p w fin) d
 .rcases b with b|b
  .show VV (wpAny_loadName_cell I.ok.kind b g a fin) d
  .show VV (wpAny_loadName_free I.ok.kind b g a fin f) d
def IE{i j pos}:PE X (.Constant (.int i) j pos) (tC (.int i)):=λ_ _ _ H _ I h=>wpAny_Constant_int %[.int i,H,I.tok _,%[_|rfl]|h]
def K0{b j pos}:PE X (.Constant (.bool b) j pos) (tC (.bl b)):=λ_ _ _ H _ I h=>Constant_bool %[.bl b,H,I,rfl|h]
def IF{j pos}:PE X (.Constant .none j pos) (tC .non):=λ_ _ _ H _ I h=>Constant_none %[.non,H,I,rfl|h]
def IG{x j pos}:PE X (.Constant (.str x) j pos) (tC (.str x)):=λ_ _ _ H _ I h=>Calls.Constant_str %[.str x,H,I.tok _,%[_|rfl]|h]
abbrev Gl(X:Cx)(x:iv):Prop:=X.env.kindOf x∣.globalImplicit
def gZ(I:Qc X ff d H s)(a:Gl X x)(b:X.mg x∣u)(h:Q u s)
 (c:(x==("__debug__":iv))=fS):(X⁻¹) (MO (.Name x pos) X.env) Q E s:=
 Sx I.ok.kind a (Calls.loadGlobal_global (I.ok.glob▸I.mod.glob.keeps I.bk) b h) c
def iX(I:Qc X ff i H s)(a:Gl X x)(b:X.mg x=eH)(c:M8 x∣u)(h:Q u s)
 (d:x≠"__name__":=by decide) (e:(x==("__debug__":iv))=fS:=by decide):(X⁻¹) (MO (.Name x pos) X.env) Q E s:=by
 let%[j,f|g]:=I.mod.blt;show Sx I.ok.kind a (Calls.loadGlobal_builtin (I.ok.glob▸I.mod.glob.keeps I.bk) b (I.ok.blt▸f.keeps I.bk) ((g x d).trans c) h) e
def FZ(a:Gl X x)(b:X.mg x∣u)(r:aY v u)(c:(x==("__debug__":iv))=fS):PE X (.Name x pos) (tC v):=
 λ_ _ _ H _ I h=>gZ I a b %[v,H,I,r|h] c
def F0(a:Gl X x)(b:X.mg x=eH)(c:M8 x∣u)(r:aY v u)(d:x≠"__name__")(e:(x==("__debug__":iv))=fS):PE X (.Name x pos) (tC v):=
 λ_ _ _ H _ I h=>iX I a b c %[v,H,I,r|h] d e
variable{a b:wh}{ta tb:TE}{pos:Pos}
abbrev PC(X:Cx)(op:Sw)(a b:wh)(t:TE):Prop:=
 ∀ff s (e:St) H Q,Qc X ff e H s->t e H Q->
  (X⁻¹) (MO a X.env) (λv c=>(X⁻¹) (MO b X.env) (λu d=>(X⁻¹) (pw op v u) (EP X ff e Q) X.xe d) X.xe c) X.xe s
def K1(b:wh)(h:op≠ .In)(e:op≠ .NotIn):MQ op b=fS:=by
 let c:(op==Sw.In)=fS:=by lia
 let d:(op==Wx)=fS:=by lia
 cases b<;> simp[MQ,c,d]
abbrev tB(t:TE):TT:=λd H Q=>t d H λx e=>asB x λc=>Q c e
def IH(h:PC X op a b t)(c:MQ op b=fS):PE X (.Compare a [op] [b] pos) t:=λff s d H Q I hw=>wpAny_Compare1 (h ff s d H Q I hw) c
def CV{op:Sw}(h:PC X op a b t)(e:MQ op b=fS):PT X (.Compare a [op] [b] pos) (tB t):=by
 intro ff s f H Q I hw;show U4 (thn (h ff s f H _ I hw) λv n e=>thn e λu o g=>thn g λc p ⟨x,i,j,l,m⟩=>?_) e;let%[d,rfl|q]:=sI m;cases l;show MY %[i,j|q]
variable{tA tB':TT}{rest:dV wh}
abbrev F1(t u:TT):TT:=λd H Q=>t d H λc e=>if c=fI then u d e Q else Q fS e
abbrev tOr(t u:TT):TT:=λd H Q=>t d H λc e=>if c=fI then Q fI e else u d e Q
abbrev II(t:TT):TT:=λd H Q=>t d H λc e=>Q (!c) e
def F2(d:PT X a tA):PW X (.BoolOp .And [a] pos) tA:=by
 intro g ff s f H Q I h;show isTrue_and (thn (d ff s f H Q I h) λc i e=>?_);cases c with
 | true=>show isTrue_and_nil e
 | false=>show e
def IJ(d:PT X a tA):PW X (.BoolOp .Or [a] pos) tA:=by
 intro g ff s f H Q I h;show isTrue_or (thn (d ff s f H Q I h) λc i e=>?_);cases c with
 | false=>show isTrue_or_nil e
 | true=>show e
def IK(i:PT X a tA)(j:PW X (.BoolOp .And (b::rest) pos) tB'):PW X (.BoolOp .And (a::b::rest) pos) (F1 tA tB'):=by
 intro l ff s d H Q I h;show isTrue_and (thT (i ff s d H _ I h) λc m e f g=>?_);cases c with
 | true=>show j l ff m d e Q f g
 | false=>show%[e,f|g]
def K2(i:PT X a tA)(j:PW X (.BoolOp .Or (b::rest) pos) tB'):PW X (.BoolOp .Or (a::b::rest) pos) (tOr tA tB'):=by
 intro l ff s d H Q I h;show isTrue_or (thT (i ff s d H _ I h) λc m e f g=>?_);cases c with
 | true=>show%[e,f|g]
 | false=>show j l ff m d e Q f g
def IL(c:PT X a tA):PT X (.UnaryOp .Not a pos) (II tA):=by
 intro ff s d H Q I h;show isTrue_not (c ff s d H _ I h)
abbrev CW(ta tb:TE):TE:=λd H Q=>ta d H λx e=>asB x λc=>if c=fI then tb d e Q else Q (.bl fS) e
abbrev IM(ta tb:TE):TE:=λd H Q=>ta d H λx e=>asB x λc=>if c=fI then Q (.bl fI) e else tb d e Q
def IP{op}(h:PE X a t):PE X (.BoolOp op [a] pos) t:=λff s c H Q I hw=>BoolOp_one (h ff s c H Q I hw)
def IQ(i:PE X a ta)(j:PE X (.BoolOp .And (b::rest) pos) tb):PE X (.BoolOp .And (a::b::rest) pos) (CW ta tb):=by
 intro ff s e H Q I h;show BoolOp_and (thP (i ff s e H _ I h) λv l x f g m d=>?_);let%[c,rfl|d]:=sI d;cases m;show MY ?_;cases c with
 | true=>show j ff l e f Q g d
 | false=>show%[.bl fS,f,g,ρ|d]
def K3(i:PE X a ta)(j:PE X (.BoolOp .Or (b::rest) pos) tb):PE X (.BoolOp .Or (a::b::rest) pos) (IM ta tb):=by
 intro ff s e H Q I h;show BoolOp_or (thP (i ff s e H _ I h) λv l x f g m d=>?_);let%[c,rfl|d]:=sI d;cases m;show MY ?_;cases c with
 | false=>show j ff l e f Q g d
 | true=>show%[.bl fI,f,g,ρ|d]
abbrev tIf(t:TT)(ta tb:TE):TE:=λd H Q=>t d H λc e=>if c=fI then ta d e Q else tb d e Q
def CY{c:wh}(l:PT X c tA)(m:PE X a ta)(n:PE X b tb):PE X (.IfExp c a b pos) (tIf tA ta tb):=by
 intro ff s e H Q I h;show wpAny_IfExp (thT (l ff s e H _ I h) λd f g i j=>?_);cases d with
 | true=>show m ff f e g Q i j
 | false=>show n ff f e g Q i j
end
abbrev Qb(K:ZA)(H:Hp)(a:ij)(xs:dV V):Prop:=
 Rd H a (.lst xs)\/
  ∃o its n,K.lookup a∣o/\o.cls= .type "list"/\o.dict=eH/\o.data= .seq its n/\its.size<=ku/\aQ xs its.toList
abbrev SqT(K:ZA)(H:Hp)(a:ij)(xs:dV V):Prop:=
 Rd H a (.tup xs)\/
  ∃o its n,K.lookup a∣o/\o.cls= .type "tuple"/\o.data= .seq its n/\its.size<=ku/\aQ xs its.toList
abbrev absV:hV->kf V
 | .none=>fx .non
 | .bool b=>fx (.bl b)
 | .int i _=>fx (.int i)
 | .str x _=>fx (.str x)
 | .bytes b _=>fx (.byt b)
 | .float b _=>fx (.flt b)
 | .ref a=>fx (.ref a)
 | .type n=>fx (.ty n)
 | _=>eH
def aY.abs(r:aY x u):absV u∣x:=by
 cases x with
 | non=>cases r;rfl
 | bl _=>cases r;rfl
 | int _=>have%[t|rfl]:=r;rfl
 | str _=>have%[t|rfl]:=r;rfl
 | byt _=>have%[t|rfl]:=r;rfl
 | flt _=>have%[t|rfl]:=r;rfl
 | ref _=>cases r;rfl
 | ty _=>cases r;rfl
def aY.inj(r:aY x u)(q:aY y u):x=y:=Za (r.abs.symm.trans q.abs)
def aQ.inj:∀{xs ys:dV V} {us:ZF},aQ xs us->aQ ys us->xs=ys
 | _,_,_,.nil,.nil=>rfl
 | _,_,_,.cons r t,.cons a t'=>by rw[r.inj a,aQ.inj t t']
section
#version
variable{a:ij}{xs ys:dV V}
def Qb.of{K:ZA}(h:H a<*xs):Qb K H a xs:= .inl (.inl h)
def SqT.of{K:ZA}(h:H a&&&xs):SqT K H a xs:= .inl (.inl h)
def Qc.list(I:Qc X ff σ H s)(h:Qb X.K H a xs):∃its:ZF,aQ xs its/\PlainL s.heap a its.toArray/\ ~~~xs<=ku:=by
 rcases h with h|⟨o,its,n,b,c,d,f,g,r⟩
 .let%[z,its,n,r|e]:=h.ok I.hok;show%[its,r,%[_,n,e,ρ,ρ|ρ]|z]
 .show%[its.toList,r,%[o,n,I.kIn a o b,c,d|f]|?_];let e:= ~~~r
  simp_all
def Qc.tuple(I:Qc X ff σ H s)(h:SqT X.K H a xs):∃its:ZF,aQ xs its/\IsTup s.heap a its.toArray/\ ~~~xs<=ku:=by
 rcases h with h|⟨o,its,n,b,c,d,f,r⟩
 .let%[z,its,r|p]:=h.ok I.hok;show%[its,r,p|z]
 .show%[its.toList,r,%[o,I.kIn a o b,c,n|d]|?_];let e:= ~~~r;simp only[Zb]at e
  lia
def Qc.list_inj(I:Qc X ff σ H s)(h:Qb X.K H a xs)(h':Qb X.K H a ys):xs=ys:=by
 let%[its,r,%[o,n,e,_,_|d]|_]:=I.list h;let%[its',f,%[i,j,b,_,_|c]|_]:=I.list h';rw[e]at b;cases b;rw[d]at c;injection c with g _
 let:=vb Wa g;subst this;show r.inj f
def Qc.tuple_inj(I:Qc X ff σ H s)(h:SqT X.K H a xs)(h':SqT X.K H a ys):xs=ys:=by
 let%[its,r,%[o,e,_,n|d]|_]:=I.tuple h;let%[its',f,%[i,b,_,j|c]|_]:=I.tuple h';rw[e]at b;cases b;rw[d]at c;injection c with g _
 let:=vb Wa g;subst this;show r.inj f
end
noncomputable abbrev Cx.wish(X:Cx)(E:ZD):Cx:={X with xe:=E}
noncomputable abbrev Cx.nox(X:Cx):Cx:=X.wish λ_ _=>G2
def Cx.Ok.wish{X:Cx}(ok:X.Ok)(E:ZD):(X.wish E).Ok:=
 %[ok.mod,ok.kind,ok.glob,ok.blt,ok.above,ok.inj,ok.has,ok.cab,ok.hd,ok.frames,ok.stk,ok.exf,ok.bs,ok.bsz,ok.noex,ok.exfs,ok.funs|ok.frf]
def Cx.Ok.unwish{X:Cx}{E:ZD}(ok:(X.wish E).Ok):X.Ok:=
 %[ok.mod,ok.kind,ok.glob,ok.blt,ok.above,ok.inj,ok.has,ok.cab,ok.hd,ok.frames,ok.stk,ok.exf,ok.bs,ok.bsz,ok.noex,ok.exfs,ok.funs|ok.frf]
section
#version
variable{E:ZD}
def Qc.wish(I:Qc X ff σ H s)(E:ZD):Qc (X.wish E) ff σ H s:=%[I.ok.wish E,I.os,I.bare,I.base,I.loc,I.cell,I.free,I.freeC,I.pin,I.hok|I.len]
def Qc.unwish(I:Qc (X.wish E) ff σ H s):Qc X ff σ H s:=%[I.ok.unwish,I.os,I.bare,I.base,I.loc,I.cell,I.free,I.freeC,I.pin,I.hok|I.len]
def SP.unwish{D:jC}{f:Flow}{s':kj}(h:SP (X.wish E) ff D f s'):SP X ff D f s':=by
 cases f with
 | next=>have%[a,H',I|q]:=h;show%[a,H',I.unwish|q]
 | brk=>have%[a,H',I|q]:=h;show%[a,H',I.unwish|q]
 | cont=>have%[a,H',I|q]:=h;show%[a,H',I.unwish|q]
 | ret u=>have%[v,a,H',I,r|q]:=h;show%[v,a,H',I.unwish,r|q]
def PSs.nox{st:dV yc}(h:PSs X.nox st t):PSs X st t:=λff s σ H D I hw=>
 J5 (h ff s σ H D (I.wish _) hw) (λ_ _ q=>q.unwish) λ_ _ z=>Mq z
end
section
variable{X:Cx}{st:yc}{rest:dV yc}{t u:TS}{e:wh}{te:TE}{pos:Pos}
abbrev CZ:TS:=λD a H=>D.nx a H
abbrev aW(t u:TS):TS:=λD a H=>t {D with nx:=u D} a H
def F3:PSs X [] CZ:=λ_ _ a H _ I h=>Oo %[a,H,I|h]
def C0(b:PS X st t)(c:PSs X rest u):PSs X (st::rest) (aW t u):=by
 intro ff s d H D I h;show WC (thn (b ff s d H _ I h) λf g q=>?_);cases f with
 | next=>
   let%[a,H',i|q]:=q;show c ff g a H' D i q
 | ret v=>show q
 | brk=>show q
 | cont=>show q
def F4(a:PS X st t):PSs X [st] t:=by
 intro ff s b H D I h;show WC (thn (a ff s b H D I h) λf c q=>?_);cases f with
 | next=>show Oo q
 | ret v=>show q
 | brk=>show q
 | cont=>show q
def Qc.quiet{ff:dV _}{a:St}{H:Hp}{s:kj}(I:Qc X ff a H s):interactive X.env=fS:=by simp[interactive,I.ok.kind]
abbrev nN(te:TE):TS:=λD a H=>te a H λ_ b=>D.nx a b
def F5(b:PE X e te)(c:OI e eH pos.line X.env=pure fS):PS X (.Expr e pos) (nN te):=by
 intro ff s a H D I h;show wpAny_Expr_any (thP (b ff s a H _ I h) λv i x d f j g=>%[a,d,f|g]) I.quiet c
abbrev iI(te:TE):TS:=λD a H=>te a H D.rt
def IR(b:PE X e te):PS X (.Return (fx e) pos) (iI te):=by
 intro ff s a H D I h;show wpAny_Return_some (thP (b ff s a H _ I h) λv i x c d f g=>%[x,a,c,d,f|g])
abbrev kY(c:TT)(t u:TS):TS:=λD a H=>c a H λb d=>if b=fI then t D a d else u D a d
def K4{c:wh}{a b:dV yc}(m:PT X c n)(o:PSs X a t)(p:PSs X b u):PS X (.If c a b pos) (kY n t u):=by
 intro ff s f H D I h;show wpAny_If (thT (m ff s f H _ I h) λd g i j l=>?_);cases d with
 | true=>show o ff g f i D j l
 | false=>show p ff g f i D j l
abbrev uT:TS:=λ_ _ _=>G2
def C1:PS X st uT:=λ_ _ _ _ _ _ h=>h.elim
def BC:PSs X a uT:=λ_ _ _ _ _ _ h=>h.elim
end
noncomputable abbrev TG:=V->St->Hp->(St->Hp->Prop)->Prop
noncomputable abbrev TGs:=dV V->St->Hp->(St->Hp->Prop)->Prop
abbrev PG(X:Cx)(a:wh)(t:TG):Prop:=
 ∀ff s (c:St) H v u Q,Qc X ff c H s->aY v u->t v c H Q->
  (X⁻¹) (assign a X.env u) (λ_ s'=>∃b H',Qc X ff b H' s'/\Q b H') X.xe s
abbrev PGs(X:Cx)(ts:dV wh)(t:TGs):Prop:=
 ∀ff s (b:St) H vs us Q,Qc X ff b H s->aQ vs us->t vs b H Q->
  (X⁻¹) (assignInOrder ((NW ts X.env)\2) us) (λ_ s'=>∃a H',Qc X ff a H' s'/\Q a H') X.xe s
section
variable{X:Cx}{pos:Pos}
abbrev lJ(i:hH):TG:=λv a H Q=>Q (a.set i (fx v)) H
def F6(a:X.N.Nodup)(hi:X.N[i]?∣x)(b:Loc X.env.scope x)(c:X.fn x=fI\/X.env.scope.names.lookup x∣.local):PG X (.Name x pos) (lJ i):=by
 intro ff s e H v u Q I r h;show Wh (lI I a hi b r (λs' d=>%[_,H,d|h]) c)
abbrev IS:TGs:=λvs a H Q=>vs=[]/\Q a H
abbrev C2(t:TG)(u:TGs):TGs:=λvs b H Q=>∃v r,vs=v::r/\t v b H λa H'=>u r a H' Q
def F7:PGs X [] IS:=by
 intro ff s a H vs us Q I r h;let%[e|h]:=h;show assignInOrder_nil %[a,H,I|h]
def C3{e:wh}{u:TGs}(b:PG X e t)(c:PGs X es u)
 (d:(NW (e::es) X.env)\2=assign e X.env::(NW es X.env)\2):PGs X (e::es) (C2 t u):=by
 intro ff s f H vs us Q I r h;let%[v,n,g|h]:=h;subst g;cases r with
 | cons r rr=>
   rw[d];show assignInOrder_cons (thn (b ff s f H _ _ _ I r h) λ_ i ⟨a,j,l,m⟩=>c ff i a j _ _ Q l rr m)
abbrev F8(K:ZA)(n:hH)(t:TGs):TG:=λv b H Q=>asR v λa=>∃xs,SqT K H a xs/\ ~~~xs=n/\t xs b H Q
def IT(f:X.calm=fI)(h:PGs X es t)
 (g: ~~~(NW es X.env)=n) (c:(NW es X.env).findIdx? (·.1)=eH):PG X (.Tuple es k pos) (F8 X.K n t):=by
 intro ff s i H v u Q I r hw;let%[a,j,xs,l,m|hw]:=aU hw;clear ‹F8 _ _ _ _ _ _ _›;subst j;cases r;let%[its,d,p|w]:=I.tuple l;show assign_Tuple_tuple (I.ok.hd f) p (by simp[g,<-m,~~~d]) c λh' q=>h ff _ i H xs _ Q (I.kept λb o e=>q b o (Zs (Zu e)) e) (d) hw
abbrev uU(b:TE)(g:TG):TS:=λD a H=>b a H λx c=>g x a c D.nx
def IU{a e:wh}{g:TG}(c:PE X e d)(f:PG X a g)(i:swapsWithSole [a] e pos.line X.env=pure fS)(hw:swappedStores [a] e X.env=pure eH)
 (j:(NW [a] X.env)\2=[assign a X.env]):PS X (.Assign [a] e pos) (uU d g):=by
 intro ff s b H D I h;show wpAny_Assign_stores (thP (c ff s b H _ I h) λv l x m n o p=>?_) i hw;rw[j];show thn (f ff l b m x v _ n o p) λ_ r q=>q
def IV{i:hH}{x:iv}{e:wh}(b:X.N.Nodup)(hi:X.N[i]?∣x)(c:Loc X.env.scope x)(d:PE X e f)(g:OI e (fx (.Name x a)) pos.line X.env=pure fS)(j:X.fn x=fI\/X.env.scope.names.lookup x∣.local):
 PS X (.Assign [.Name x a] e pos) (uU f (lJ i)):=by
 intro ff s l H D I h;show wpAny_Assign_Name (thP (d ff s l H _ I h) λv r y m n o p=>lI n b hi c o (λu q=>%[_,m,q|p]) j) g
abbrev C4(c:TT)(g:TS):TS:=λD a H=>∃W:hH->St->Hp->Prop,(∃m,W m a H)/\∀m a H,W m a H->
 c a H λb e=>if b=fI then∃N:St->Hp->Prop,(∀d H',N d H'->∃f,f<m/\W f d H')/\g {D with nx:=N,ct:=N,bk:=D.nx} a e else D.nx a e
def C5(u:PR (MU X.prog X.w) X.A X.env X.xe)(B:PT X c C)(E:PSs X e G):PS X (.While c e [] pos) (C4 C G):=by
 intro ff s J H D I h;let%[W,%[L|M]|turn]:=h;show wpAny_While (codeAny_whileLoop (λn s'=>∃g H',Qc X ff g H' s'/\W n g H') ?_ L %[J,H,I|M]);intro n O %[d,w,Q|T];show NZ u (thT (B ff O d w _ Q (turn n d w T)) λb U y z j=>?_);cases b with
 | true=>
   let%[N,A|j]:=j;show NZ u (thn (E ff U d y _ z j) λf Y l=>?_);cases f with
   | next=>
     let%[a,i,m|o]:=l;let%[p,q|r]:=A a i o;show%[p,q,a,i,m|r]
   | cont=>
     let%[a,i,m|o]:=l;let%[p,q|r]:=A a i o;show%[p,q,a,i,m|r]
   | brk=>show l
   | ret v=>show l
 | false=>
   show Oo %[d,y,z|j]
end
structure It where
 go:hH->Hp->Prop
 yld:hH->Hp->V->Hp->Prop
 stop:hH->Hp->Prop
abbrev iY(X:Cx)(ff:ZE)(H:Hp)(b:ij):Prop:=
 H b=eH/\b≠X.env.locals/\b∉X.fs/\(b∈X.ex\/X.s₀.heap.objs.size<=b)/\(∀x c,X.env.cells.lookup x∣c->c≠b)/\∀p∈X.pn++ff,p.1≠b
def Qc.fpOk{X:Cx}(I:Qc X ff g H s)(a:⇑s<=b)(d:H' b=eH):iY X ff H' b:=by
 show%[d,Yz (Zg I.lt a),I.nofs a,.inr (md I.sz a),λx c e z=>?_|λp f z=>?_]
 .let%[v|q]:=I.cell x c e;show m4 (Zg q.lt (z▸a)) (Xj _)
 .show m4 (Zg (Zu (I.pin p f).1) (z▸a)) (Xj _)
structure rJ (P:nz) (w:vk) (K:ZA) (tg:wh) (J:It) (fp:dV ij) (it:ij) (tn:hH->v0->Prop):Prop where
 mem:it∈fp
 obj:∀i h,tn i h->∀b∈fp,∃o,h.get? b∣o/\∀v,o.data≠ .cell v
 keep:∀i h h',tn i h->(∀b∈fp,∀o,h.get? b∣o->h'.get? b∣o)->tn i h'
 item:∀(X:Cx),X.prog=P->X.w=w->X.K=K->X.calm=fI->∀i (ff:ZE) s (σ:St) H (E:ZD),Qc X ff σ H s->(∀b∈fp,iY X ff H b)->tn i s.heap->J.go i H->
  oT (MU P w) X.A (OT (.ref it)) (λr s1=>∃u,r∣u/\
   oT (MU P w) X.A (W2 tg (.ref it) u) (λ_ s2=>∃x H',Qc X ff σ H' s2/\aY x u/\J.yld i H x H'/\tn (i+1) s2.heap/\∀b∈fp,H' b=eH) E s1) E s
 done:∀X,X.prog=P->X.w=w->X.K=K->X.calm=fI->∀i ff s (σ:St) H E,Qc X ff σ H s->(∀b∈fp,iY X ff H b)->tn i s.heap->J.stop i H->
  oT (MU P w) X.A (OT (.ref it)) (λr s1=>r=eH/\Qc X ff σ H s1) E s
 self:∀A i s Q E,tn i s.heap->Q (.ref it) s->oT (MU P w) A (UL (.ref it)) Q E s
noncomputable abbrev TI:=St->Hp->(It->Hp->Prop)->Prop
abbrev PIE(X:Cx)(ff:ZE)(f:St)(g:wh)(R:It->Hp->Prop)(a:hV)(c:kj):Prop:=
 ∃it d e J H',a= .ref it/\Qc X ff f H' c/\rJ X.prog X.w X.K g J d it e/\e 0 c.heap/\(∀b∈d,iY X ff H' b)/\R J H'
abbrev PI(X:Cx)(b iter:wh)(c:TI):Prop:=
 ∀ff s (a:St) H R,Qc X ff a H s->c a H R->
  (X⁻¹) (MO iter X.env) (λv d=>(X⁻¹) (UL v) (PIE X ff a b R) X.xe d) X.xe s
def sJ(b:s.heap.get? it∣o)(c:o.cls= .type n)(d:o.data= .fields vs)
 (e:["enumerate","zip","dict_itemiterator","dict_reverseitemiterator","odict_iterator","itertools.zip_longest","itertools.pairwise"].contains n=fS) (a:Q () s):oT M A (W2 f (.ref it) u) Q E s:=by
 cases f<;> first
  | show Z3 a
  |(cases u<;> first
   | show Z3 a
   |(show Z2 (Tx b ?_)
     rw[c,d];change oT M A (if(["enumerate","zip","dict_itemiterator","dict_reverseitemiterator","odict_iterator","itertools.zip_longest","itertools.pairwise"].contains n&&vs[0]? ==fx _)=fI then _ else _) Q E s;rw[hX (by intro h;rw[e,Oy]at h;cases h)];show Z3 a))
abbrev Itl(K:ZA)(a:ij):It:=
 ⟨λi H=>∃xs x,Qb K H a xs/\xs[i]?∣x,λi H x H'=>H'=H/\∀xs,Qb K H a xs->xs[i]?∣x,λi H=>∃xs,Qb K H a xs/\ ~~~xs<=i⟩
abbrev Itt(K:ZA)(a:ij):It:=
 ⟨λi H=>∃xs x,SqT K H a xs/\xs[i]?∣x,λi H x H'=>H'=H/\∀xs,SqT K H a xs->xs[i]?∣x,λi H=>∃xs,SqT K H a xs/\ ~~~xs<=i⟩
abbrev Itr(lo:nX)(n:hH):It:=%[λi _=>i<n,λi H x H'=>H'=H/\x= .int (lo+i)|λi _=>n<=i]
def sK{P:nz}{K:ZA}(a it:ij):rJ P w K tg (Itl K a) [it] it (λi h=>h.IsListIter it a i) where
 mem:=by simp
 obj:=λi h st b hb=>by
  let e:=↑hb
  subst e;let%[o,e,c|d]:=st;show%[o,e|λv z=>by rw[d]at z;cases z]
 keep:=λi h h' st k=>st.at λo e=>k it ∅ o e
 item:=by
  intro X hP hw hK hc i ff s σ H E I hf st hg;subst hP hw hK;let%[xs,x,hq|hx]:=hg;let%[its,rv,p|hz]:=I.list hq;let%[u,hu|ru]:=rv.get hx;let%[f0,f1,f2,f3,f4|f5]:=hf it ∅;show QU st p.isList ↑hu λh' st' sb=>?_
  let%[o,e,c|d]:=id st';show%[u,ρ|sJ e c d (!1) %[x,H,(I.turned (λb o hb e=>(sb.2 b hb).trans e) f0 f1 f3 f4 f5),ru,%[ρ|λys hy=>(I.list_inj hy hq)▸hx],st'|λb hb=>(hf b hb).1]]
 done:=by
  intro X hP hw hK hc i ff s σ H E I hf st hg;subst hP hw hK;let%[xs,hq|hx]:=hg;let%[its,rv,p|hz]:=I.list hq;let%[f0,f1,f2,f3,f4|f5]:=hf it ∅;let hl:= ~~~rv;show U2 (I.ok.hd hc) st p.isList (by simp;lia) λh' eb=>%[rfl|I.turned (λb o hb e=>eb b o hb e) f0 f1 f3 f4 f5]
 self:=λ_ _ _ _ _ st h=>wpAny_pyIter_listiter st h
def yQ{P:nz}{K:ZA}(a it:ij):rJ P w K tg (Itt K a) [it] it (λi h=>h.IsTupleIter it a i) where
 mem:=by simp
 obj:=λi h st b hb=>by
  let e:=↑hb
  subst e;let%[o,e,c|d]:=st;show%[o,e|λv z=>by rw[d]at z;cases z]
 keep:=λi h h' st k=>st.at λo e=>k it ∅ o e
 item:=by
  intro X hP hw hK hc i ff s σ H E I hf st hg;subst hP hw hK;let%[xs,x,hq|hx]:=hg;let%[its,rv,p|hz]:=I.tuple hq;let%[u,hu|ru]:=rv.get hx;let%[f0,f1,f2,f3,f4|f5]:=hf it ∅;show wpAny_pyNext_tuple_item st (p) ↑hu λh' st' sb=>?_
  let%[o,e,c|d]:=id st';show%[u,ρ|sJ e c d (!1) %[x,H,(I.turned (λb o hb e=>(sb.2 b hb).trans e) f0 f1 f3 f4 f5),ru,%[ρ|λys hy=>(I.tuple_inj hy hq)▸hx],st'|λb hb=>(hf b hb).1]]
 done:=by
  intro X hP hw hK hc i ff s σ H E I hf st hg;subst hP hw hK;let%[xs,hq|hx]:=hg;let%[its,rv,p|hz]:=I.tuple hq;let%[f0,f1,f2,f3,f4|f5]:=hf it ∅;let hl:= ~~~rv;show wpAny_pyNext_tuple_end (I.ok.hd hc) st (p) (by simp;lia) λh' eb=>%[rfl|I.turned (λb o hb e=>eb b o hb e) f0 f1 f3 f4 f5]
 self:=λ_ _ _ _ _ st h=>wpAny_pyIter_tupleiter st h
def yS{P:nz}{K:ZA}(it:ij)(lo:nX)(n:hH):rJ P w K tg (Itr lo n) [it] it (λi h=>IsRangeIter h it (lo+(i:hH)*1) ((n:nX) -(i:hH)) 1) where
 mem:=by simp
 obj:=λi h st b hb=>by
  simp_all
 keep:=λi h h' st k=>k it ∅ _ st
 item:=by
  intro X hP hw hK hc i ff s σ H E I hf st hg;subst hP hw hK;let%[f0,f1,f2,f3,f4|f5]:=hf it ∅;show(Walks.range (prog:=X.prog) (w:=X.w) (I.ok.hd hc) it lo 1 n).item i s _ _ hg st λv h' tk hv st' kk=>?_
  let%[t|rfl]:=hv;show%[_,ρ|sJ st' rfl rfl (!1) %[.int _,H,(I.turned (λb o hb e=>kk b o ↑hb e) f0 f1 f3 f4 f5),%[t|?_],%[ρ|ρ],st'|λb hb=>(hf b hb).1]];rw[nX.mul_one]
 done:=by
  intro X hP hw hK hc i ff s σ H E I hf st hg;let%[f0,f1,f2,f3,f4|f5]:=hf it ∅;show wpAny_pyNext_range_end (I.ok.hd hc) st (by let:n<=i:=hg;lia) λh' eb=>%[rfl|I.turned (λb o hb e=>eb b o hb e) f0 f1 f3 f4 f5]
 self:=λ_ _ _ _ _ st h=>wpAny_pyIter_rangeiter st h
section
variable{X:Cx}{tg:wh}
def wB{R:It->Hp->Prop}{lo hi:nX}(I:Qc X ff c H s)(d: -(2^62)<=lo)(f:lo<2^62)(g: -(2^62)<=hi)(h:hi<2^62)
 (q:R (Itr lo (hi-lo).toNat) H):(X⁻¹) (UL (.ref ⇑s)) (PIE X ff c tg R) E {s with heap:=s.heap.push {cls:= .type "range",data:= .fields #[.int lo t,.int hi u,.int 1 v]},toks:=tk}:=by
 show wpAny_pyIter_range (IsRange.new ..) (small_one d f g h) ?_;let a:Qc X ff c H {s with heap:=s.heap.push {cls:= .type "range",data:= .fields #[.int lo t,.int hi u,.int 1 v]},toks:=tk}:=I.kept λb o e=>Z7 _ e
 show%[(s.heap.push _).objs.size,[(s.heap.push _).objs.size],_,_,H,ρ,
  a.kept λb o e=>Z7 _ e,yS _ lo _,?_,λb i=>?_|q]
 .let j:lo+((0:hH))*1=lo:=by simp
  let l:(((hi-lo).toNat)) -((0:hH))=WZ lo hi 1:=by rw[rangeSize_one];split<;> lia
  rw[j,l];show Zj _ rfl
 .let e:b=(s.heap.push {cls:= .type "range",data:= .fields #[.int lo t,.int hi u,.int 1 v]}).objs.size:=↑i
  subst e;show a.fpOk (Zi _) (a.hok.fresh (Zi _))
abbrev C6(a:TA):TI:=λb H R=>a b H λvs c=>dh vs λd=>asI d λj=> -(2^62)<=j/\j<2^62/\R (Itr 0 j.toNat) c
abbrev C7(a:TA):TI:=λb H R=>a b H λvs c=>mZ vs λd x2=>asI d λi=>asI x2 λj=>(-(2^62)<=i/\i<2^62/\ -(2^62)<=j/\j<2^62)/\R (Itr i (j-i).toNat) c
def BD{a:wh}(e:Gl X "range")(f:X.mg "range"=eH)(g:PA X [a] i)(l:ri [a] X.env=[(fS,MO a X.env)]):PI X tg (.Call (.Name "range" p) [a] [] pos) (C6 i):=by
 intro ff s m H R I h;show Call_ (iX I e f boot_range (MC (thP (g pos ff s m H _ I h) λus v vs w n o b=>?_) l rfl));let%[y,rfl|c]:=ck b;let%[j,rfl|d]:=dS c;let%[b,u|q]:=d;cases o with
 | cons r rr=>
   cases rr;let%[t|rfl]:=r;show call_range_1 (wB n ⋯ ⋯ b u ↑q)
def BE(l:Gl X "range")(m:X.mg "range"=eH)(n:PA X [a,b] o)(u:ri [a,b] X.env=[(fS,MO a X.env),(fS,MO b X.env)])(c:ri [b] X.env=[(fS,MO b X.env)]):
 PI X tg (.Call (.Name "range" p) [a,b] [] pos) (C7 o):=by
 intro ff s v H R I h;show Call_ (iX I l m boot_range (MC (thP (n pos ff s v H _ I h) λus E vs G w y d=>?_) (by rw[u,c]) (by rw[c];rfl)));let%[J,x2,rfl|e]:=jE d;let%[i,rfl|f]:=dS e;let%[j,rfl|g]:=dS f;let%[%[d,z,A|B]|q]:=g;cases y with
 | cons r rr=>
   cases rr with
   | cons C rr=>
     cases rr;let%[t|rfl]:=r;let%[t'|rfl]:=C;show call_range_2 (wB w d z A B q)
abbrev wC(e:TI)(g:TG)(f:TS):TS:=λD a H=>e a H λJ h=>∃W:hH->hH->St->Hp->Prop,(∃m,W 0 m a h)/\∀i m a H,W i m a H->
 (J.stop i H/\D.nx a H)\/(J.go i H/\∃N:St->Hp->Prop,(∀b H',N b H'->∃d,d<m/\W (i+1) d b H')/\∀x H',J.yld i H x H'->g x a H' λc j=>f {D with nx:=N,ct:=N,bk:=D.nx} c j)
abbrev uV(a:dV ij)(h:v0):ZE:=a.filterMap λb=>(h.get? b).map λo=>(b,o)
def fZ(a:b∈c)(e:h.get? b∣o):(b,o)∈uV c h:=MX.mpr %[b,a|by rw[e];rfl]
def BF(a:p∈uV c h):p.1∈c/\h.get? p.1∣p.2:=by
 let%[b,d|e]:=MX.mp a;cases q:h.get? b with
 | none=>simp_all
 | some o=>
   rw[q]at e;let f:=Za e;subst f;show%[d|q]
def Qc.pinned(I:Qc X ff g H s)(h:∀b∈a,iY X ff H b)(i:∀b∈a,∃o,s.heap.get? b∣o/\∀v,o.data≠ .cell v):Qc X (ff++uV a s.heap) g H s:=
 I.pins_of λp j=>(Xm j).elim (λz=>I.pin p (Yv _ z)) λz=>by
  let%[c|e]:=BF z;let%[l,m,n|_]:=h p.1 c;let%[o,f|d]:=i p.1 c;rw[e]at f;cases f;show%[e,l,m,n|d]
def Qc.unpinned(I:Qc X (ff++pl) a H s):Qc X ff a H s:=I.pins_of λp b=>I.pin p (Yv _ (Yu _ b))
def IW(A:PR (MU X.prog X.w) X.A X.env X.xe)(hc:X.calm=fI)(hi:PI X tg iter wi)(hg:PG X tg g)(c:PSs X B tb)
 (hs:∀x,OZ iter X.env x=pure x):PS X (.For tg iter B [] pos) (wC wi g tb):=by
 intro ff s σ H D I h;show wpAny_For (thn (hi ff s σ H _ I h) λv s1 h1=>thn h1 λab s2 h2=>?_) hs;let%[it,L,tn,J,H2,e,I2,T,O,f2,W,%[m0|w0]|turn]:=h2;subst e;let j:∀{H':Hp},(∀b∈L,H' b=eH)->∀b∈L,iY X ff H' b:=λhn b c=>%[hn b c|(f2 b c).2]
 show codeAny_forLoop_any (λn s'=>∃i l H',Qc X ff l H' s'/\tn i s'.heap/\(∀b∈L,H' b=eH)/\W i n l H') ?_ m0 %[0,σ,H2,I2,O,λb c=>(f2 b c).1|w0];intro n s3 %[i,p,M,I3,C,E|w3];rcases turn i n p M w3 with⟨stop,qn⟩|⟨go,N,hN,step⟩
 .show NZ A (thn (T.done X rfl rfl rfl hc i ff s3 p M X.xe I3 (j E) C stop) λr s4 ⟨Q,I4⟩=>?_);subst Q;show Oo %[p,M,I4|qn]
 .show NZ A (thn (T.item X rfl rfl rfl hc i ff s3 p M X.xe I3 (j E) C go) λr s4 ⟨u,Q,h4⟩=>?_);subst Q;show NZ A (thn h4 λ_ s5 ⟨x,H5,I5,r5,y5,z,U⟩=>NZ A (thn (hg _ s5 p H5 x u _ (I5.pinned (j U) (T.obj _ _ z)) r5 (step x H5 y5)) λ_ s6 ⟨Y,H6,I6,q6⟩=>NZ A (thn (c _ s6 Y H6 _ I6 q6) λf s7 y=>?_)));let again:∀{a:St} {q:Hp},Qc X _ a q s7->N a q->∃m,m<n/\∃i l H',Qc X ff l H' s7/\tn i s7.heap/\(∀b∈L,H' b=eH)/\W i m l H':=λ{a q} w G=>by
   let%[m',hm|w7]:=hN a q G;show%[m',hm,i+1,a,q,w.unpinned,T.keep _ _ _ z λb c o e=>(w.pin _ (Yv _ (Yv _ (fZ c e)))).1,λb c=>?_|w7];let%[o,e|d]:=T.obj _ _ z b c;show(w.pin _ (Yv _ (Yv _ (fZ c e)))).2.1
  cases f with
  | next=>have%[a,q,w|G]:=y;show again w G
  | cont=>have%[a,q,w|G]:=y;show again w G
  | brk=>have%[a,q,w|y]:=y;show%[a,q,w.unpinned|y]
  | ret v=>have%[x7,a,q,w,r7|y]:=y;show%[x7,a,q,w.unpinned,r7|y]
end
def f9{K:ZA}{g:TG}{j:TS}{D:jC}(Pv:hH->St->Hp->Prop)(n:Pv 0 b H)(o:∀i b H,i<= ~~~xs->Pv i b H->Qb K H a xs)
 (r:∀i x b H,xs[i]?∣x->Pv i b H->g x b H λc f=>j {D with nx:=Pv (i+1),ct:=Pv (i+1),bk:=D.nx} c f) (s:∀b H,Pv xs.length b H->D.nx b H):
 ∃W:hH->hH->St->Hp->Prop,(∃m,W 0 m b H)/\∀i m b H,W i m b H->
  ((Itl K a).stop i H/\D.nx b H)\/((Itl K a).go i H/\∃N:St->Hp->Prop,(∀d H',N d H'->∃l,l<m/\W (i+1) l d H')/\∀x H',(Itl K a).yld i H x H'->g x b H' λc f=>j {D with nx:=N,ct:=N,bk:=D.nx} c f):=by
 show%[λi m b H=>m= ~~~xs-i/\i<= ~~~xs/\Pv i b H,%[~~~xs,by simp,Xe _|n]|?_];intro i m b H %[rfl,hi|p];let q:=o i b H hi p;by_cases h:i< ~~~xs
 .show .inr %[%[xs,xs[i],q|by simp],Pv _,λd H' u=>%[~~~xs-(i+1),⋯,rfl,h|u]|λx H' y=>?_];let%[e|y]:=y;subst e;show r i x b _ (y xs q) p
 .let e:i= ~~~xs:=by lia
  subst e;show .inl %[%[xs,q|Zi _]|s b H p]
def cR{lo:nX}{g:TG}{h:TS}{D:jC}(Pv:hH->St->Hp->Prop)(l:Pv 0 a H)
 (o:∀i a H,i<n->Pv i a H->g (.int (lo+i)) a H λb f=>h {D with nx:=Pv (i+1),ct:=Pv (i+1),bk:=D.nx} b f) (q:∀a H,Pv n a H->D.nx a H):
 ∃W:hH->hH->St->Hp->Prop,(∃m,W 0 m a H)/\∀i m a H,W i m a H->
  ((Itr lo n).stop i H/\D.nx a H)\/((Itr lo n).go i H/\∃N:St->Hp->Prop,(∀c H',N c H'->∃j,j<m/\W (i+1) j c H')/\∀x H',(Itr lo n).yld i H x H'->g x a H' λb f=>h {D with nx:=N,ct:=N,bk:=D.nx} b f):=by
 show%[λi m a H=>m=n-i/\i<=n/\Pv i a H,%[n,by simp,Xe _|l]|?_];intro i m a H %[rfl,hi|p];by_cases d:i<n
 .show .inr %[d,Pv _,λc H' r=>%[n-(i+1),⋯,rfl,d|r]|λx H' y=>?_];let%[e|y]:=y;subst e y;show o i a _ d p
 .let e:i=n:=by lia
  subst e;show .inl %[Zi _|q a H p]
noncomputable abbrev R2:=V->V->Hp->VK->Prop
abbrev OpR(X:Cx)(f:hV->hV->Sem hV)(r:R2):Prop:=
 ∀ff s (a:St) H x y v u Q,Qc X ff a H s->aY x v->aY y u->r x y H Q->
  (X⁻¹) (f v u) (EP X ff a Q) X.xe s
abbrev UnR(X:Cx)(f:hV->Sem hV)(r:V->Hp->VK->Prop):Prop:=
 ∀ff s (a:St) H x v Q,Qc X ff a H s->aY x v->r x H Q->
  (X⁻¹) (f v) (EP X ff a Q) X.xe s
abbrev cO(X:Cx)(f:hV)(r:dV V->Hp->VK->Prop):Prop:=
 ∀ff s (a:St) H xs us Q,Qc X ff a H s->aQ xs us->r xs H Q->
  (X⁻¹) (call f us) (EP X ff a Q) X.xe s
abbrev TruR(X:Cx)(r:V->Hp->(pp->Hp->Prop)->Prop):Prop:=
 ∀ff s (a:St) H x v Q,Qc X ff a H s->aY x v->r x H Q->
  (X⁻¹) (UD v) (TP X ff a Q) X.xe s
abbrev tOp(r:R2)(b c:TE):TE:=λa H Q=>b a H λx d=>c a d λy e=>r x y e Q
abbrev tUn(r:V->Hp->VK->Prop)(a:TE):TE:=λb H Q=>a b H λx c=>r x c Q
abbrev rI(C:nX->nX->Prop)(g:nX->nX->V):R2:=λx y H Q=>asI x λi=>asI y λj=>C i j/\Q (g i j) H
abbrev rI0(g:nX->nX->V):R2:=λx y H Q=>asI x λi=>asI y λj=>Q (g i j) H
abbrev rU(g:nX->V):V->Hp->VK->Prop:=λx H Q=>asI x λi=>Q (g i) H
section
variable{X:Cx}{a b c:wh}{ta tb tc:TE}{pos:Pos}
def IX(m:PE X a ta)(n:PE X b tb){ff:dV _}{s:kj}{d:St}{H:Hp}{R:V->V->Hp->Prop}(I:Qc X ff d H s)
 (h:ta d H λx l=>tb d l λy e=>R x y e) {Q:ZD} {f:hV->hV->Sem hV}
 (o:∀v u j x y e,Qc X ff d e j->aY x v->aY y u->R x y e->(X⁻¹) (f v u) Q X.xe j):
 (X⁻¹) (MO a X.env) (λv g=>(X⁻¹) (MO b X.env) (λu i=>(X⁻¹) (f v u) Q X.xe i) X.xe g) X.xe s:=by
 show thP (m ff s d H _ I h) λv p x l q r w=>thP (n ff p d l _ q w) λu j y e z A B=>o v u j x y e z r A B
def K5{r:R2}(d:OpR X (MP op) r)(e:PE X a ta)(f:PE X b tb):PE X (.BinOp a op b pos) (tOp r ta tb):=by
 intro ff s g H Q I h;show wpAny_BinOp (IX e f I h λv u i x y j l m n q=>d ff i g j x y v u Q l m n q)
def K6(e:UnR X (unaryOp op) r)(f:PE X a ta):PE X (.UnaryOp op a pos) (tUn r ta):=by
 intro ff s d H Q I h;show UnaryOp_ (thP (f ff s d H _ I h) λv g x i j l m=>e ff g d i x v Q j l m)
def opI{f:hV->hV->Sem hV}{C:nX->nX->Prop}{g:nX->nX->nX}
 (Ro:∀i j t u s Q E,C i j->Q (.int (g i j) s.toks) {s with toks:=s.toks+1}->(X⁻¹) (f (.int i t) (.int j u)) Q E s):
 OpR X f (rI C λi j=> .int (g i j)):=by
 intro ff s n H x y v u Q I d e h;let%[i,rfl|l]:=dS h;let%[j,rfl,m|q]:=dS l;let%[t|rfl]:=d;let%[t'|rfl]:=e;show Ro i j t t' s _ _ m %[.int _,H,I.tok _,%[_|rfl]|q]
def K7{g:nX->nX->nX}
 (Ro:∀(i j:nX) (t u:Tok) (s:kj) (Q:ZD) (E:ZD),Q (.int (g i j) s.toks) {s with toks:=s.toks+1}->(X⁻¹) (f (.int i t) (.int j u)) Q E s):
 OpR X f (rI0 λi j=> .int (g i j)):=by
 intro ff s m H x y v u Q I d e h;let%[i,rfl|l]:=dS h;let%[j,rfl|q]:=dS l;let%[t|rfl]:=d;let%[t'|rfl]:=e;show Ro i j t t' s _ _ %[.int _,H,I.tok _,%[_|rfl]|q]
def IY{g:nX->nX->pp}
 (Ro:∀(i j:nX) (t u:Tok) (s:kj) (Q:ZD) (E:ZD),Q (.bool (g i j)) s->(X⁻¹) (f (.int i t) (.int j u)) Q E s):
 OpR X f (rI0 λi j=> .bl (g i j)):=by
 intro ff s m H x y v u Q I d e h;let%[i,rfl|l]:=dS h;let%[j,rfl|q]:=dS l;let%[t|rfl]:=d;let%[t'|rfl]:=e;show Ro i j t t' s _ _ %[.bl _,H,I,rfl|q]
abbrev K8(i j:nX):Prop:=0<j/\j<1073741824
abbrev C8(i j:nX):Prop:=(-(2^64)<i/\i<2^64)\/(-(2^64)<j/\j<2^64)
def C8.ok{i j:nX}(h:C8 i j):IntMulOk i j:=by
 rcases h with⟨d,e⟩|⟨d,e⟩
 .show .of_left (intBits_le_64 d e)
 .show .of_right (intBits_le_64 d e)
def C9:OpR X (MP .Add) (rI0 λi j=> .int (i+j)):=K7 λ_ _ _ _ _ _ _ q=>add_int q
def IZ:OpR X (MP .Sub) (rI0 λi j=> .int (i-j)):=K7 λ_ _ _ _ _ _ _ q=>sub_int q
def Da:OpR X (MP .Mult) (rI C8 λi j=> .int (i*j)):=opI λ_ _ _ _ _ _ _ d q=>mul_int q d.ok
def F9:OpR X (MP .FloorDiv) (rI K8 λi j=> .int (i/j)):=opI λi j _ _ _ _ _ d q=>by
 let e:(0:nX)<j:=d.1;let f:j<1073741824:=d.2;show floordiv_int ⋯ (by rw[nX.fdiv_eq_ediv_of_nonneg i ⋯];show q) (.inl (PyProof.noPylong_small ⋯))
def I0:OpR X (MP .Mod) (rI (λ_ j=>0<j) λi j=> .int (i%j)):=opI λi j _ _ _ _ _ d q=>by
 let e:(0:nX)<j:=d;show mod_int' ⋯ (by rw[nX.fmod_eq_emod_of_nonneg i ⋯];show q)
def unI{g:nX->nX}
 (Ro:∀(i:nX) (t:Tok) (s:kj) (Q:ZD) (E:ZD),Q (.int (g i) s.toks) {s with toks:=s.toks+1}->(X⁻¹) (f (.int i t)) Q E s):
 UnR X f (rU λi=> .int (g i)):=by
 intro ff s e H x v Q I d h;let%[i,rfl|q]:=dS h;let%[t|rfl]:=d;show Ro i t s _ _ %[.int _,H,I.tok _,%[_|rfl]|q]
def Ja:UnR X (unaryOp .USub) (rU λi=> .int (-i)):=unI λ_ _ _ _ _ q=>neg_int q
end
abbrev Jb(x y:V):pp:=match x with
 | .non=>(match y with| .non=>fI| .int _=>fI| .bl _=>fI| .str _=>fI|_=>fS)
 | .int _=>(match y with| .non=>fI| .int _=>fI| .str _=>fI|_=>fS)
 | .bl _=>(match y with| .non=>fI| .bl _=>fI| .str _=>fI|_=>fS)
 | .str _=>(match y with| .non=>fI| .int _=>fI| .bl _=>fI| .str _=>fI|_=>fS)
 | .byt _=>(match y with| .byt _=>fI|_=>fS)
 | _=>fS
abbrev rEq:R2:=λx y H Q=>Jb x y=fI/\Q (.bl (decide (x=y))) H
abbrev rNe:R2:=λx y H Q=>Jb x y=fI/\Q (.bl (!decide (x=y))) H
def Ag:decide (V.int i=V.int j)=(i==j):=by
 rw[Ny];simp
def Db:decide (V.bl i=V.bl j)=(i==j):=by
 rw[Ny];simp
def Ah:decide (V.str i=V.str j)=(i==j):=by
 rw[Ny];simp
def Ai:decide (V.byt i=V.byt j)=(i.toList==j.toList):=by
 rw[Ny]
 simp_all
section
variable{X:Cx}{a b c:wh}{ta tb tc:TE}{pos:Pos}
def bd(I:Qc X ff d H s)(q:Q (.bl k) H)(e:k=f):EP X ff d Q (.bool f) s:=by
 subst e;show%[.bl k,H,I,ρ|q]
def HL:OpR X (pw .Eq) rEq:=by
 intro ff s g H x y v u Q I f d h;let%[e|q]:=h;cases x with
 | non=>
   cases f;cases y with
   | non=>cases d;show PySem.EqNone.eq_none_none (bd I q ∅)
   | bl j=>cases d;show PySem.EqNone.eq_none_bool (bd I q ∅)
   | int j=>have%[t'|rfl]:=d;show PySem.EqNone.eq_none_int (bd I q ∅)
   | str j=>have%[t'|rfl]:=d;show PySem.EqNone.eq_none_str (bd I q ∅)
   | _=>show m4 (show fS=fI from e) Zt
 | bl i=>
   cases f;cases y with
   | non=>cases d;show PySem.EqNone.eq_bool_none (bd I q ∅)
   | bl j=>cases d;show eq_bool (bd I q Db)
   | str j=>have%[t'|rfl]:=d;show PySem.EqMixed.eq_bool_str (bd I q ∅)
   | _=>show m4 (show fS=fI from e) Zt
 | int i=>
   let%[t|rfl]:=f;cases y with
   | non=>cases d;show PySem.EqNone.eq_int_none (bd I q ∅)
   | int j=>have%[t'|rfl]:=d;show eq_int (bd I q Ag)
   | str j=>have%[t'|rfl]:=d;show PySem.EqMixed.eq_int_str (bd I q ∅)
   | _=>show m4 (show fS=fI from e) Zt
 | str i=>
   let%[t|rfl]:=f;cases y with
   | non=>cases d;show PySem.EqNone.eq_str_none (bd I q ∅)
   | bl j=>cases d;show PySem.EqMixed.eq_str_bool (bd I q ∅)
   | int j=>have%[t'|rfl]:=d;show PySem.EqMixed.eq_str_int (bd I q ∅)
   | str j=>have%[t'|rfl]:=d;show eq_str (bd I q Ah)
   | _=>show m4 (show fS=fI from e) Zt
 | byt i=>
   let%[t|rfl]:=f;cases y with
   | byt j=>have%[t'|rfl]:=d;show PySem.W.eq_bytes (bd I q Ai)
   | _=>show m4 (show fS=fI from e) Zt
 | _=>cases y<;> show m4 (show fS=fI from e) Zt
def HM:OpR X (pw .NotEq) rNe:=by
 intro ff s g H x y v u Q I f d h;let%[e|q]:=h;cases x with
 | non=>
   cases f;cases y with
   | non=>cases d;show PySem.EqNone.ne_none_none (bd I q ∅)
   | bl j=>cases d;show PySem.EqNone.ne_none_bool (bd I q ∅)
   | int j=>have%[t'|rfl]:=d;show PySem.EqNone.ne_none_int (bd I q ∅)
   | str j=>have%[t'|rfl]:=d;show PySem.EqNone.ne_none_str (bd I q ∅)
   | _=>show m4 (show fS=fI from e) Zt
 | bl i=>
   cases f;cases y with
   | non=>cases d;show PySem.EqNone.ne_bool_none (bd I q ∅)
   | bl j=>cases d;show ne_bool (bd I q (vb not Db))
   | str j=>have%[t'|rfl]:=d;show PySem.EqMixed.ne_bool_str (bd I q ∅)
   | _=>show m4 (show fS=fI from e) Zt
 | int i=>
   let%[t|rfl]:=f;cases y with
   | non=>cases d;show PySem.EqNone.ne_int_none (bd I q ∅)
   | int j=>have%[t'|rfl]:=d;show ne_int (bd I q (vb not Ag))
   | str j=>have%[t'|rfl]:=d;show PySem.EqMixed.ne_int_str (bd I q ∅)
   | _=>show m4 (show fS=fI from e) Zt
 | str i=>
   let%[t|rfl]:=f;cases y with
   | non=>cases d;show PySem.EqNone.ne_str_none (bd I q ∅)
   | bl j=>cases d;show PySem.EqMixed.ne_str_bool (bd I q ∅)
   | int j=>have%[t'|rfl]:=d;show PySem.EqMixed.ne_str_int (bd I q ∅)
   | str j=>have%[t'|rfl]:=d;show ne_str (bd I q (vb not Ah))
   | _=>show m4 (show fS=fI from e) Zt
 | byt i=>
   let%[t|rfl]:=f;cases y with
   | byt j=>have%[t'|rfl]:=d;show PySem.W.ne_bytes (bd I q (vb not Ai))
   | _=>show m4 (show fS=fI from e) Zt
 | _=>cases y<;> show m4 (show fS=fI from e) Zt
def K9:OpR X (pw .Lt) (rI0 λi j=> .bl (decide (i<j))):=IY λ_ _ _ _ _ _ _ q=>lt_int q
def La:OpR X (pw .LtE) (rI0 λi j=> .bl (decide (i<=j))):=IY λ_ _ _ _ _ _ _ q=>le_int q
def Lb:OpR X (pw .Gt) (rI0 λi j=> .bl (decide (j<i))):=IY λ_ _ _ _ _ _ _ q=>gt_int q
def sM:OpR X (pw .In) (λx y H Q=>asS x λi=>asS y λj=>Q (.bl (!(KE j i 0 j.length 1).isEmpty)) H):=by
 intro ff s l H x y v u Q I f g h;let%[i,rfl|d]:=fY h;let%[j,rfl|e]:=fY d;let q:=e;let%[t|rfl]:=f;let%[t'|rfl]:=g;show in_str (bd I q rfl)
def Jc:OpR X (pw .Is) (λx y H Q=>y= .non/\Q (.bl (decide (x= .non))) H):=by
 intro ff s f H x y v u Q I d e h;let%[rfl|q]:=h;cases e;show is_none_gen (bd I q ?_);cases x<;> first
  | lia
  |(have%[t|rfl]:=d;rfl)
def Ga:OpR X (pw .IsNot) (λx y H Q=>y= .non/\Q (.bl (!decide (x= .non))) H):=by
 intro ff s f H x y v u Q I d e h;let%[rfl|q]:=h;cases e;show isnot_none_gen (bd I q ?_);cases x<;> first
  | lia
  |(have%[t|rfl]:=d;rfl)
def OpR.or(h:OpR X f r)(h':OpR X f i):OpR X f (λx y H Q=>r x y H Q\/i x y H Q):=by
 intro ff s d H x y v u Q I e g q;rcases q with q|q
 .show h ff s d H x y v u Q I e g q
 .show h' ff s d H x y v u Q I e g q
def nomark(b:wh)(h:op≠ .In)(f:op≠ .NotIn):MQ op b=fS:=by
 let d:(op==Sw.In)=fS:=by lia
 let e:(op==Wx)=fS:=by lia
 cases b<;> simp[MQ,d,e]
def Gb{r:R2}(d:OpR X (pw op) r)(e:PE X a ta)(f:PE X b tb)(g:MQ op b=fS):PE X (.Compare a [op] [b] pos) (tOp r ta tb):=by
 intro ff s i H Q I h;show wpAny_Compare1 (IX e f I h λv u j x y l m n o q=>d ff j i l x y v u Q m n o q) g
abbrev wD(t:TE):TT:=λd H Q=>t d H λx H'=>asB x λk=>Q k H'
def Gc(f:OpR X (pw op) r)(g:PE X a ta)(i:PE X b tb)(j:MQ op b=fS):PT X (.Compare a [op] [b] pos) (wD (tOp r ta tb)):=by
 intro ff s d H Q I h;show U4 (thP (g ff s d H _ I h) λv l x m n o p=>thP (i ff l d m _ n p) λu q y w A B C=>
  thP (f ff q d w x y v u _ A o B C) λc L z E G J e=>?_) j
 let%[k,rfl|e]:=sI e;cases J;show MY %[E,G|e]
abbrev yT(r f:R2)(ta tb tc:TE):TE:=λd H Q=>ta d H λx g=>tb d g λy h=>r x y h λz e=>asB z λk=>
 (if k=fI then tc d e λi j=>f y i j Q else Q (.bl fS) e)
def Dc(n:OpR X (pw op) r)(i:OpR X (pw e) o)(p:PE X a ta)(q:PE X b tb)(w:PE X c tc)
 (A:lastMarks [op,e] [b,c]=fS):PE X (.Compare a [op,e] [b,c] pos) (yT r o ta tb tc):=by
 intro ff s f H Q I h;show Compare_chain (thP (p ff s f H _ I h) λv B x C E G J=>chain_link (thP (q ff B f C _ E J) λu L y M N j O=>
  thP (n ff L f M x y v u _ N G j O) λd T z l m U g=>?_)) A
 let%[k,rfl|g]:=sI g;cases U;show MY ?_;cases k with
 | false=>show ite_ff %[.bl fS,l,m,rfl|g]
 | true=>show ite_tt (chain_last (thP (w ff T f l _ m g) λY s4 z' H4 I4 r4 q4=>i ff s4 f H4 y z' u Y Q I4 j r4 q4))
abbrev BG(K:ZA)(x:V)(H:Hp)(k:pp):Prop:=
 match x with
 | .non=>k=fS
 | .bl b=>k=b
 | .int i=>k=(i != 0)
 | .str y=> ~~~y<=ku/\k=((~~~y:nX) != 0)
 | .byt y=>y.size<=ku/\k=((y.size:nX) != 0)
 | .ref p=>(∃xs,Qb K H p xs/\k=!xs.isEmpty)\/(∃xs,SqT K H p xs/\k=!xs.isEmpty)\/∃d,H p∣.dK d/\k=!d.isEmpty
 | _=>G2
def yU{e:Type}{d:dV (e×V)}{vs:dV _}(r:KV d vs):(!vs.isEmpty)=!d.isEmpty:=by
 cases r<;> rfl
def pB(r:aQ xs its):(!its.toArray.isEmpty)=!xs.isEmpty:=by
 cases r<;> simp
def uW:ku<2^63:=!1
def Jd:TruR X (λx H Q=>∃k,BG X.K x H k/\Q k H):=by
 intro ff s w H x v Q I j h;let%[k,e|q]:=h;let z:=uW;let A:ku=16777216:=Mt;cases x with
 | non=>
   cases j;let d:k=fS:=e;subst d;show truthy_none %[H,I|q]
 | bl b=>
   cases j;let d:k=b:=e;subst d;show MY %[H,I|q]
 | int i=>
   let%[t|rfl]:=j;let d:k=(i != 0):=e;subst d;show PySem.P.truthy_int %[H,I|q]
 | str y=>
   let%[t|rfl]:=j;obtain⟨o,d⟩: ~~~y<=ku/\k=((~~~y:nX) != 0):=e;subst d;show PySem.P.truthy_str ⋯ %[H,I.tok _|q]
 | byt y=>
   let%[t|rfl]:=j;obtain⟨o,d⟩:y.size<=ku/\k=((y.size:nX) != 0):=e;subst d;show PySem.W.truthy_bytes ⋯ %[H,I.tok _|q]
 | ref p=>
   cases j;let d:(∃xs,Qb X.K H p xs/\k=!xs.isEmpty)\/(∃xs,SqT X.K H p xs/\k=!xs.isEmpty)\/∃f,H p∣.dK f/\k=!f.isEmpty:=e;rcases d with⟨xs,l,d⟩|⟨xs,l,d⟩|⟨f,l,d⟩
   .subst d;let%[its,r,pl|n]:=I.list l;let g:= ~~~r;show wpAny_truthy_list pl.isList (by simp only[Zp];lia) %[H,I.tok _|(pB r)▸q]
   .subst d;let%[its,r,pl|n]:=I.tuple l;let g:= ~~~r;show truthy_tuple pl (by simp only[Zp];lia) %[H,I.tok _|(pB r)▸q]
   .subst d;obtain⟨n,u,vs,r,m⟩: ~~~f<=ku/\(p==Nl)=fS/\∃vs,KV f vs/\s.heap.DictOf (aX X.prog X.w) p vs:=I.hok p _ l;let g: ~~~f= ~~~vs:=Paired.length r;show wpAny_truthy_dict u m ⋯ %[H,I.tok _|(yU r)▸q]
 | _=>show(show G2 from e).elim
def Dd(f:PE X a ta)(g:∀d,SN a X.env d=(do let v<-d;OS a.pos;Oq [v] (UD v))):
 PT X a (λe H Q=>ta e H λx H'=>∃k,BG X.K x H' k/\Q k H'):=by
 intro ff s e H Q I h;show isTrue_plain (thP (f ff s e H _ I h) λv i x j l m n=>Jd ff i e j x v Q l m n) (g _)
def pC:OpR X (MP .Add) (λx y H Q=>asS x λi=>asS y λj=> ~~~i+ ~~~j<=ku/\Q (.str (i++j)) H):=by
 intro ff s m H x y v u Q I f g h;let%[i,rfl|d]:=fY h;let%[j,rfl|e]:=fY d;let%[l|q]:=e;let%[t|rfl]:=f;let%[t'|rfl]:=g;show add_str (λt' tk=>%[.str _,H,I.tok _,%[_|rfl]|q]) l
def dA(r:aQ [x] us):∃u,us=[u]/\aY x u:=by
 cases r with
 | cons d e=>cases e;show%[_,ρ|d]
def lK(r:aQ [x,y] us):∃u d,us=[u,d]/\aY x u/\aY y d:=by
 cases r with
 | cons e f=>
   cases f with
   | cons g h=>cases h;show%[_,_,ρ,e|g]
def BH(m:X.calm=fI):cO X (.builtin "min") (λxs H Q=>mZ xs λl x2=>asI l λi=>asI x2 λj=>Q (.int (if j<i then j else i)) H):=by
 intro ff s n H xs us Q I r h;let%[l,x2,rfl|e]:=jE h;let%[i,rfl|f]:=dS e;let%[j,rfl|g]:=dS f;let q:=g;let%[u,o,rfl,%[t|rfl],t'|rfl]:=lK r;show min_two_ints (I.ok.hd m) λh' tk k=>%[_,H,I.kept k,?_|q]
 by_cases d:j<i
 .rw[jg d,jg d];show%[_|ρ]
 .rw[hX d,hX d];show%[_|ρ]
def BI:cO X (.type "int") (λxs H Q=>(∃i,xs=[.int i]/\Q (.int i) H)\/∃k,xs=[.bl k]/\Q (.int (if k then 1 else 0)) H):=by
 intro ff s e H xs us Q I r h;rcases h with⟨i,rfl,q⟩|⟨k,rfl,q⟩
 .let%[u,rfl,t|rfl]:=dA r;show call_int_int %[.int i,H,I,%[_|rfl]|q]
 .let%[u,rfl|d]:=dA r;cases d;show call_int_bool %[.int _,H,I.tok _,%[_|rfl]|q]
def uX:cO X (.type "str") (λxs H Q=>dh xs λf=>asI f λi=>i.natAbs.log2<1920/\Q (.str (toString i)) H):=by
 intro ff s j H xs us Q I r h;let%[f,rfl|d]:=ck h;let%[i,rfl|e]:=dS d;let%[g|q]:=e;let%[u,rfl,t|rfl]:=dA r;show PySem.P.str_of_int g %[.str _,H,I.tok _,%[_|rfl]|q]
abbrev Gd(K:ZA)(x:V)(H:Hp)(n:hH):Prop:=
 match x with
 | .str y=> ~~~y<=ku/\n= ~~~y
 | .byt y=>y.size<=ku/\n=y.size
 | .ref p=>(∃xs,Qb K H p xs/\n= ~~~xs)\/∃xs,SqT K H p xs/\n= ~~~xs
 | _=>G2
def De:cO X (.builtin "len") (λxs H Q=>dh xs λx=>∃n,Gd X.K x H n/\Q (.int n) H):=by
 intro ff s v H xs us Q I r h;let%[x,rfl|g]:=ck h;let%[n,e|q]:=g;let%[u,rfl|i]:=dA r;let w:=Mt;cases x with
 | str y=>
   let%[t|rfl]:=i;obtain⟨m,f⟩: ~~~y<=ku/\n= ~~~y:=e;subst f;show len_str ⋯ %[.int _,H,I.tok _,%[_|rfl]|q]
 | byt y=>
   let%[t|rfl]:=i;obtain⟨m,f⟩:y.size<=ku/\n=y.size:=e;subst f;show PySem.W.len_bytes ⋯ %[.int _,H,I.tok _,%[_|rfl]|q]
 | ref p=>
   cases i;let f:=e;rcases f with⟨xs,j,f⟩|⟨xs,j,f⟩
   .subst f;let%[its,l,pl|o]:=I.list j;let d:= ~~~l;show Calls.call_len_list pl.isList (by simp only[Zp];lia) %[.int xs.length,H,I.tok _,%[_|by simp only[Zp];rw[d]]|q]
   .subst f;let%[its,l,pl|o]:=I.tuple j;let d:= ~~~l;show len_tuple pl (by simp only[Zp];lia) %[.int xs.length,H,I.tok _,%[_|by simp only[Zp];rw[d]]|q]
 | _=>show(e).elim
end
structure yV (h:v0) (x dx C:ij) (mA:ZC):Prop where
 obj:h.get? x∣Tn C dx
 ns:h.Ns1 dx mA
 ne:dx≠x
set_option tactic.hygienic true in
def sN{h:v0}{c:ZC}(n:h.Ns1 d c):∃od,h.get? d∣od/\∀name,XA name od∣c name:=by
 let%[o,es,m,f,g,i,_|j]:=n;show%[o,f|λname=>?_];let e:=j name;unfold nsFind findBy at e;rw[<-Uq]at e;unfold XA;rw[g];dsimp only
 split
 .rename_i y q
  rw[q]at e;show vb fx e
 .rename_i q
  rw[q]at e;let a:es.toList.any (·.refKey)=fS:=by
   rw[dV.any_eq_false];intro y l;let%[z,t|b]:=i y (P8.mp l);simp[SZ.refKey,b]
  rw[hX (a▸Zt)];show vb fx e
def yV.look(I:yV h x a C b):∃od,PySem.W.InstAt h x (Tn C a) C (fx od)/\∀name,XA name od∣b name:=
 let⟨od,c,d⟩:=sN I.ns
 %[od,%[I.obj,rfl,rfl|c]|d]
section
#where
variable{K:ZA}{x dx C f:ij}{mA:ZC}{name:iv}{v:hV}
def Ge(X:K.In s.heap)(I:yV s.heap x dx C mA)(c:TC K C name=fI)(d:Pc K C=fI)
 (e:MD K (.ref C) name∣eH) (g:mA name∣v) (a:XC v=fI) (h:Q v {s with toks:=s.toks+1}):
 ↥A (Wl (.ref x) name b) Q E s:=by
 let%[od,J|i]:=I.look;show PySem.W.get_value X J (Vn c).1 (findObj_own d e rfl (by rw[i,g])) a h
def Df(X:K.In s.heap)(I:yV s.heap x dx C mA)(a:TC K C name=fI)
 (b:MD K (.ref C) name∣fx (.ref f)) (c:XB K (.ref f)=fI) (d:mA name=eH) (h:Q (.ref f,[.ref x]) s):
 ↥A (QC (.ref x) name pl) Q E s:=by
 let%[od,J|e]:=I.look;show PySem.W.method_fn X J (Vn a).1 (Vn a).2 b (NG.mp c) (by change(XA name od).map _∣fS;rw[e,d];rfl) h
def Gf(X:K.In s.heap)(I:yV s.heap x dx C mA)
 (j:MD K (.ref C) "__setattr__"=fx (fx (.builtin "object.__setattr__"))) (l:WL K C=fI) (m:takerIn K C name∣eH) (n:Pc K C=fI)
 (hw:PySem.Within mA o) (p: ~~~o<=ku)
 (h:∀h',yV h' x dx C (λy=>if y=name then fx v else mA y)->tI dx s.heap h'->Q () {s with heap:=h',toks:=s.toks+2}):
 ↥A (setAttr (.ref x) name v) Q E s:=by
 let%[od,J|z]:=I.look;show set_plain X J j (PySem.W.osa_open X J l m λb=>?_);let%[B,q|d]:=QH n;show Z2 (Z3 (Z2 (Z2 (PY I.obj (Z2 (Qg (Vo X q) ?_))))));rw[d];show Z3 (Z2 (Z3 (Z2 (wpAny_nsSet1 I.ns λh' a c=>?_))));let%[G,r,u,e,g|i]:=a.count (PySem.Within.cons name v hw);show Z2 (WA e (g▸WM (md i (!2))) (Z3 (h _ %[(c.2 _ (zr I.ne)).trans I.obj,a|I.ne] c)))
def Dg{R:SV->kj->Prop}(X:K.In s.heap)(a:makesIn K C=fI)
 (hi:MD K (.ref C) "__init__"=fx (fx (.ref f))) (b:VX K (.ref f)∣.type "function")
 (h:Pm (MU prog w) (A.under (.builtin "type.__call__" %[.ref C::vs|kw])) (.call (.ref f) %[.ref (⇑s+1)::vs|kw]) (PySem.W.InitBack (⇑s+1) R)
  (s>>>(s.heap.push RD).push (Tn C ⇑s))):
 Pm (MU prog w) A (.call (.ref C) %[vs|kw]) R s:=by
 show PySem.W.make_core (PySem.W.makes_of X a) (Sk X hi) (λself=>PySem.W.bind_fn X self b) (.inl rfl) h
end
abbrev eN(f:iv)(v:V):dV (iv×V)->dV (iv×V)
 |[]=>[(f,v)]
 |(g,x)::r=>if g=f then(g,v)::r else(g,x)::eN f v r
def nO(f g:iv)(v:V):∀fs,(eN f v fs).lookup g=if g=f then fx v else fs.lookup g
 |[]=>by
  change NL g [(f,v)]=_;by_cases h:g=f
  .let a:=NG.mpr h;simp only[NL,a,jg h]
  .let a:=Mp.mpr h;simp only[NL,a,hX h]
 |(k,x)::r=>by
  rw[show eN f v _=(if k=f then(k,v)::r else(k,x)::eN f v r)from rfl];by_cases b:k=f
  .rw[jg b];by_cases h:g=k
   .let a:=NG.mpr h;simp only[NL,a,jg (h.trans b)]
   .let a:=Mp.mpr h;simp only[NL,a,hX (λe:g=f=>h (e.trans b.symm))]
  .rw[hX b];by_cases h:g=k
   .let a:=NG.mpr h;simp only[NL,a,hX (λe=>b (h.symm.trans e))]
   .let a:=Mp.mpr h;simp only[NL,a];show(nO f g v r)
def m7(f:iv)(v:V):∀fs:dV (iv×V),f∈(eN f v fs)\1/\∀g,g∈fs\1->g∈(eN f v fs)\1
 |[]=>%[by simp[eN]|λg h=>by simp at h]
 |(k,x)::r=>by
  let%[a|b]:=m7 f v r;rw[show eN f v _=(if k=f then(k,v)::r else(k,x)::eN f v r)from rfl]
  grind
def nP(f:iv)(v:V):∀fs,~~~(eN f v fs)<= ~~~fs+1
 |[]=>by simp[eN]
 |(k,x)::r=>by
  let a:=nP f v r;rw[show eN f v _=(if k=f then(k,v)::r else(k,x)::eN f v r)from rfl];by_cases b:k=f
  .simp_all
  simp_all
def iB.some_of(r:iB (fx v) o):∃u,o∣u/\aY v u:=by
 cases o with
 | none=>show(r).elim
 | some u=>show%[u,ρ|r]
def iB.none_of(r:iB eH o):o=eH:=by
 cases o with
 | none=>rfl
 | some u=>show(r).elim
def sO(r:aY v u):XC u=fI:=by
 cases v with
 | non=>cases(r);rfl
 | bl b=>cases(r);rfl
 | int i=>have%[t|e]:=(r);cases e;rfl
 | str x=>have%[t|e]:=(r);cases e;rfl
 | byt b=>have%[t|e]:=(r);cases e;rfl
 | flt b=>have%[t|e]:=(r);cases e;rfl
 | ref a=>cases(r);rfl
 | ty n=>cases(r);rfl
section
variable{P:nz}{w:vk}{H H':Hp}{h h':v0}{a C dx:ij}{fs fs':dV (iv×V)}
def oV(c:HOk P w H h)(e:H a∣.ins C dx fs):∃b,yV h a dx C b/\(∀f,iB (fs.lookup f) (b f))/\PySem.Within b (fs\1)/\ ~~~fs<=1000/\H dx∣.own a:=by
 let%[d,z,ne,g,b,n,r|q]:=(c a _ e)
 show%[b,%[g,n|ne],r,q,z|d]
end
structure Cls (K:ZA) (C:ij):Prop where
 pg:TC K C Me=fI
 hd:Pc K C=fI
 po:WL K C=fI
 sa:MD K (.ref C) "__setattr__"=fx (fx (.builtin "object.__setattr__"))
def Cls.get{K:ZA}{C:ij}(c:Cls K C)(f:iv):TC K C f=fI:=c.pg
abbrev iC(K:ZA)(C:ij)(f:iv):Prop:=MD K (.ref C) f∣eH
def iC.taker{K:ZA}{C:ij}{f:iv}(n:iC K C f):takerIn K C f∣eH:=by
 unfold takerIn;rw[n];rfl
structure Gg (K:ZA) (C:ij) (m:iv) (f:ij):Prop where
 at_:MD K (.ref C) m∣fx (.ref f)
 fn:XB K (.ref f)=fI
 kp:OD K (.ref f)=fI
section
#version
variable{a C dx:ij}{fs:dV (iv×V)}{f:iv}{v:V}{A:vj}{E:ZD}
def yW(I:Qc X ff σ H s)(e:H a∣.ins C dx fs)(c:Cls X.K C)(n:iC X.K C f)(l:fs.lookup f∣v)
 (h:∀u s',Qc X ff σ H s'->aY v u->Q u s'):oT (MU X.prog X.w) A (Wl (.ref a) f b) Q E s:=by
 let%[i,O,r,_,_|_]:=oV I.hok e;let%[u,g|d]:=iB.some_of (l▸r f);show Ge I.kIn O (c.get f) c.hd n g (sO d) (h u _ (I.tok _) d)
def yX(I:Qc X ff σ H s)(e:H a∣.ins C dx fs)(c:Cls X.K C)(k:Gg X.K C m g)(l:fs.lookup m=eH)
 (h:Q (.ref g,[.ref a]) s):oT (MU X.prog X.w) A (QC (.ref a) m pl) Q E s:=by
 let%[b,O,r,_,_|_]:=oV I.hok e;show Df I.kIn O (c.get m) k.at_ k.fn (iB.none_of (l▸r m)) h
def yY(I:Qc X ff σ H s)(e:H a∣.ins C dx fs)(c:Cls X.K C)(n:iC X.K C f)(J: ~~~fs<1000)(l:aY y u)
 (h:∀s',Qc X ff σ (Qa H a (.ins C dx (eN f y fs))) s'->Q () s'):oT (MU X.prog X.w) A (setAttr (.ref a) f u) Q E s:=by
 let%[m,O,r,i,_|j]:=oV I.hok e;show Gf I.kIn O c.sa c.po n.taker c.hd i (by rw[Z6,Mt];lia) λh' d p=>h _ (I.write (e▸Mx) (.inr j) (λb q w z=>(p.2 b w).trans z) (let⟨o,_,_,B,_⟩:=d.ns;%[o|B]) %[(av O.ne)▸j,?_,O.ne,d.obj,_,d.ns,λg=>?_|λg G=>?_])
 .let:=nP f y fs;lia
 .rw[nO];by_cases q:g=f
  .rw[jg q,jg q];show l
  .rw[hX q,hX q];show r g
 .by_cases q:g=f
  .show q▸(m7 f y fs).1
  .show(m7 f y fs).2 g (i g λz=>G ?_);change(if g=f then fx u else m g)=eH;rw[hX q];show z
def Qc.made(I:Qc X ff σ H s):Qc X ff σ (Qa (Qa H ⇑s (.own (⇑s+1))) (⇑s+1) (.ins C ⇑s []))
 (s>>>(s.heap.push RD).push (Tn C ⇑s)):=by
 let c:(s.heap.push RD).get? ⇑s∣RD:=Zj s.heap rfl;let d:=by
  let:=Zj (s.heap.push RD) (o:=Tn C ⇑s) rfl;rwa[Zq]at this
 show(I.laid (o:= .own (⇑s+1)) (t':=s.toks) (λb u q=>Z7 _ q) (Zi _) %[_|c]).laid (λb u q=>Z7 _ q) (T1 (Zq _ _)) ?_;let ne:⇑s≠⇑s+1:=Zs (Yo _);show%[by rw[av ne,af],Xe _,ne,d,λ_=>eH,(T5 %[RD,#[],_,c,ρ,(λe g=>m4 g ∅)|λ_=>rfl]).at λo q=>Z7 _ q,λ_=>Mx|λy h=>m4 rfl h]
def Ak(c:M9 e f env (MO e env)=MO e env)
 (h:↥A (MO e env) (λo b=>↥A (Wl o f fI) Q E b) E s):↥A (MO (.Attribute e f pos) env) Q E s:=
 Attribute_any_ h (by rw[arm_eval_Attribute,c])
end
abbrev Je(K:ZA)(c:TE)(f:iv):TE:=λd H Q=>c d H λx b=>asR x λa=>∃C e fs,b a∣.ins C e fs/\Cls K C/\iC K C f/\∃v,fs.lookup f∣v/\Q v b
abbrev Jf(K:ZA)(e g:TE)(f:iv):TS:=λD b H=>g b H λy h=>e b h λx c=>asR x λa=>∃C d fs,c a∣.ins C d fs/\Cls K C/\iC K C f/\ ~~~fs<1000/\
 D.nx b (Qa c a (.ins C d (eN f y fs)))
section
variable{X:Cx}{o e value:wh}{f:iv}{pos pos' tpos:Pos}{ta tv:TE}
def Jg(b:PE X e ta)(d:M9 e f X.env (MO e X.env)=MO e X.env):PE X (.Attribute e f pos) (Je X.K ta f):=by
 intro ff s g H Q I h;show Ak d (thP (b ff s g H _ I h) λu y x i j m h=>?_);let%[a,rfl,C,z,fs,p,c,n,v,l|q]:=aU h;obtain rfl:u=kG a:=m;show yW j p c n l λA B r w=>%[v,i,r,w|q]
def Jh(d:PE X o ta)(g:PE X value tv)(i:OI value (fx (.Attribute o f pos')) pos.line X.env=pure fS):PS X (.Assign [.Attribute o f pos'] value pos) (Jf X.K ta tv f):=by
 intro ff s b H D I h;show SB (thP (g ff s b H _ I h) λu j y m p r q=>thP (d ff j b m _ p q) λv G x J w z h=>?_) i;let%[a,rfl,C,L,fs,A,c,n,l|B]:=aU h;obtain rfl:v=kG a:=z;show yY w A c n l r λM E=>%[b,_,E|B]
end
section
#version
variable{A:vj}{E:ZD}{Q:ZD}{c:hV}{b:pp}
inductive kC (K:ZA) (H:Hp):V->hV->Prop where
 | non:kC K H .non (.type "NoneType")
 | bl (x:pp):kC K H (.bl x) (.type "bool")
 | int (i:nX):kC K H (.int i) (.type "int")
 | str (x:iv):kC K H (.str x) (.type "str")
 | flt (x:UInt64):kC K H (.flt x) (.type "float")
 | lst {a:ij} {xs:dV V} (e:H a<*xs):kC K H (.ref a) (.type "list")
 | frz {a:ij} {o:NQ} {xs:dV V} (e:H a∣.frz o (.lst xs)):kC K H (.ref a) (.type "list")
 | tup {a:ij} {xs:dV V} (e:H a&&&xs):kC K H (.ref a) (.type "tuple")
 | dK {a:ij} {kvs:dV _} (e:H a∣.dK kvs):kC K H (.ref a) (.type "dict")
 | dT {a:ij} {kvs:dV _} (e:H a∣.dT kvs):kC K H (.ref a) (.type "dict")
 | ins {a C dx:ij} {fs:dV _} (e:H a∣.ins C dx fs) (cl:Cls K C) (ha:MD K (.ref C) "__class__"=fx (fx (.builtin "object.__class__")))
  (hn:SL K (.builtin "object.__class__") "__get__"=fx (fx (.builtin "getset_descriptor.__get__"))) (htk:takesIn K (.builtin "object.__class__")∣fI)
  (hm:mroIn K C (.type "object")∣fI):kC K H (.ref a) (.ref C)
def BJ(I:Qc X ff σ H s)(d:aY x u)(ty:kC X.K H x t)(e:Pb X.K t c∣b)(h:∀tk,Q (.bool b) {s with toks:=tk}):
 oT (MU X.prog X.w) A (call (.builtin "isinstance") [u,c]) Q E s:=by
 cases ty with
 | non=>cases(d);show OY kitx_none I.kIn Mx e (λz=>nomatch z) h
 | bl y=>cases(d);show OY PySem.W.kitx_bool I.kIn Mx e (λz=>nomatch z) h
 | int i=>have%[t|q]:=(d);cases q;show OY PySem.W.kitx_int I.kIn Mx e (λz=>nomatch z) h
 | str y=>have%[t|q]:=(d);cases q;show OY PySem.W.kitx_str I.kIn Mx e (λz=>nomatch z) h
 | flt y=>have%[t|q]:=(d);cases q;show OY PySem.W.kitx_float I.kIn Mx e (λz=>nomatch z) h
 | @lst a xs f=>
   cases(d);let%[_,_,n,_|g]:=(I.hok a _ f)
   show OY kitx_list I.kIn %[_,g|rfl] e (λz=>nomatch z) h
 | @frz a L xs f=>
   cases(d);let%[_,_,_,n,_|g]:=(I.hok a _ f)
   show OY kitx_list I.kIn %[_,g|rfl] e (λz=>nomatch z) h
 | @tup a xs f=>
   cases(d);let%[_,_,_|p]:=(I.hok a _ f)
   let%[o,g,j|_]:=p;show OY PySem.W.kitx_tuple I.kIn %[o,g|j] e (λz=>nomatch z) h
 | @dK a l f=>
   cases(show u=kG a from d);let%[_,_,vs,_|p]:=(I.hok a _ f)
   let%[o,es,v,g,j|_]:=p;show OY kitx_dict I.kIn %[o,g|j.1] e (λz=>nomatch z) h
 | @dT a l f=>
   cases(show u=kG a from d);let%[_,_,xs,_,o,es,v,g,j|_]:=(I.hok a _ f)
   show OY kitx_dict I.kIn %[o,g|j.1] e (λz=>nomatch z) h
 | @ins a C M fs f r w B m G=>
   cases(d);let%[N,O|_]:=oV I.hok f;let%[od,J|_]:=O.look;show OY (PySem.W.kitx_own (r.get _) r.hd w B m G) I.kIn J e (λz=>nomatch z) h
end
structure bB (k:hH) (A:vj):Prop where
 hd:A.handled=eH
 dp:A.depth+3*k+5<recursionLimit
 un:A.units+16*k+200<O8
 gd:A.guards∣[]
def bB.mono(r:bB k A)(h:j<=k):bB j A:=%[r.hd,by let:=r.dp;lia,by let:=r.un;lia|r.gd]
def bB.deeper(r:bB (k+1) A)(env:Env):bB k (A.deeper env):=
 %[r.hd,by let:=r.dp;change A.depth+1+3*k+5<_;lia,by let:=r.un;change A.units+3+16*k+200<_;lia|r.gd]
def bB.in1(r:bB (k+1) A):bB k A.in1:=
 %[r.hd,by let:=r.dp;lia,by let:=r.un;lia|r.gd]
def yZ{A:vj}:(A.under (.builtin "type.__call__" %[.ref C::us|kw])).depth=A.depth+1:=by
 first|rfl|lia
def y3{A:vj}:(A.under (.builtin "type.__call__" %[.ref C::us|kw])).units=A.units+1:=by
 first|rfl|lia
def bB.make(r:bB (k+1) A)(C:ij)(us:ZF)(kw:dV (iv×hV)):bB k (A.under (.builtin "type.__call__" %[.ref C::us|kw])):=
 %[r.hd,by let:=r.dp;rw[yZ];lia,by let:=r.un;rw[y3];lia|r.gd]
def bB.depth(r:bB k A):A.depth<recursionLimit:=by let:=r.dp;lia
def bB.units(r:bB k A):A.units+64<O8:=by let:=r.un;lia
abbrev y4:TA:=λ_ H Q=>Q [] H
abbrev Al(b:TE)(c:TA):TA:=λa H Q=>b a H λx d=>c a d λxs e=>Q (x::xs) e
section
variable{X:Cx}{e:wh}{es:dV wh}{te:TE}{t:TA}{pos:Pos}
def Dh:PA X [] y4:=λ_ _ _ _ H Q I h=>Calls.spliced_nil %[[],H,I,.nil|h]
def Am(b:PE X e te)(c:PA X es t)(d:ri (e::es) X.env=(fS,MO e X.env)::ri es X.env):PA X (e::es) (Al te t):=by
 intro pos ff s a H Q I h;rw[d];change oT _ _ (spliced ((fS,MO e X.env)::Nm pos _)) _ _ s;show Calls.spliced_cons (thP (b ff s a H _ I h) λu f x g i j l=>thP (c pos ff f a g _ i l) λus q xs m n o p=>%[x::xs,m,n,.cons j o|p])
abbrev Ji(t:TA):TE:=λb H Q=>t b H λxs a=> ~~~xs<=ku/\∀p,a p=eH->Q (.ref p) (Qa a p (.tup xs))
abbrev Jj(t:TA):TE:=λb H Q=>t b H λxs a=> ~~~xs<=ku/\∀p,a p=eH->Q (.ref p) (Qa a p (.lst xs))
def Jk{d}(h:PA X es t):PE X (.Tuple es d pos) (Ji t):=by
 intro ff s f H Q I g;show wpAny_Tuple_spliced (thP (h pos ff s f H _ I g) λus a xs i c r ⟨z,q⟩=>%[~~~r▸z|?_]);let j:=c.hok.fresh (Zi _);show%[.ref ⇑a,Qa i ⇑a _,c.laid (λb u e=>Z7 _ e) (Zi _) ?_,ρ|q _ j];show%[z,us,r,_,Zj _ rfl,ρ,_|ρ]
def Jl(h:PA X es t):PE X (.List es pos) (Jj t):=by
 intro ff s d H Q I f;show wpAny_List_spliced (thP (h pos ff s d H _ I f) λus a xs g c r ⟨z,q⟩=>%[~~~r▸z|?_]);let i:=c.hok.fresh (Zi _);show%[.ref ⇑a,Qa g ⇑a _,c.laid (λb u e=>Z7 _ e) (Zi _) ?_,ρ|q _ i];show%[z,us,0,r|Zj _ rfl]
end
noncomputable abbrev Sp:=dV V->Hp->VK->XK->Prop
noncomputable abbrev CXT:=dV Env->Hp->kj->XK->hV->kj->Prop
structure BK (P:nz) (w:vk) (K:ZA) (mg:ZC) (base:v0) (A:vj) (outer:dV Env) (s:kj) (H:Hp):Prop where
 frames:A.frames∣outer
 mod:Mod K mg base
 bs:∀b o,base.get? b∣o->s.heap.get? b∣o/\H b=eH
 bsz:base.objs.size<=⇑s
 funs:s.heap.FunFrames base outer
 frf:∀b∈frs outer,H b=eH
 hok:HOk P w H s.heap
 bare:Qo s.gens
abbrev CE(outer:dV Env)(P:nz)(w:vk)(H:Hp)(s:kj)(Q:VK)(u:hV)(s':kj):Prop:=
 ∃v H',s'.os=s.os/\Qo s'.gens/\Un (frs outer) [] H H' s.heap s'.heap/\HOk P w H' s'.heap/\aY v u/\Q v H'
abbrev CR(CX:CXT)(outer:dV Env)(P:nz)(w:vk)(H:Hp)(s:kj)(Q:VK)(E:XK)(r:SV)(s':kj):Prop:=
 match r with
 | .ok (.ret u)=>CE outer P w H s Q u s'
 | .ok _=>G2
 | .error e=>CX outer H s E e s'
structure eO (P:nz) (w:vk) (K:ZA) (mg:ZC) (base:v0) (CX:CXT) (k:hH) (f:ij) (fd:Oa) (ps:ZB) (sp:Sp):Prop where
 len:∀vs H Q E,sp vs H Q E-> ~~~vs= ~~~ps
 run:∀A outer s H args us vs Q E,bB k A->BK P w K mg base A outer s H->Tu s fd args (ps.zip us)->aQ vs us->sp vs H Q E->
  Pm (MU P w) A (.call (.ref f) args) (CR CX outer P w H s Q E) s
def eO.imp{P:nz}{K:ZA}(F:eO P w K mg base CX k f b ps sp)
 (h:∀vs H Q E,a vs H Q E->sp vs H Q E):eO P w K mg base CX k f b ps a:=
 %[λvs H Q E q=>F.len vs H Q E (h _ _ _ _ q)|λA outer s H args us vs Q E c d e g i=>F.run A outer s H args us vs Q E c d e g (h _ _ _ _ i)]
def BK.make{P:nz}{K:ZA}(e:BK P w K mg base A outer s H)(C:ij)(us:ZF)(kw:dV (iv×hV)):
 BK P w K mg base (A.under (.builtin "type.__call__" %[.ref C::us|kw])) outer s H:=⟨by first|show e.frames|lia,e.mod,e.bs,e.bsz,e.funs,e.frf,e.hok,e.bare⟩
section
variable{X:Cx}{ff:ZE}{σ:St}{H:Hp}{s s':kj}
def Qc.env0(I:Qc X ff σ H s):BK X.prog X.w X.K X.mg X.base X.A X.stack s H:=
 %[I.ok.frames,I.ok.mod,I.bs,md I.ok.bsz I.sz,I.stack,I.stkFree,I.hok|I.bare]
def Qc.after(I:Qc X ff σ H s)(h:CE X.stack X.prog X.w H s Q u s'):EP X ff σ Q u s':=by
 let%[v,H',os,a,un,c,r|q]:=h;let%[f,g,d,t|e]:=s';obtain rfl:e=s.os:=os;show%[v,H',I.call un c a (λb z=>m4 z ∅),r|q]
end
abbrev sP(sp:Sp)(dvs:dV V)(E:XK)(t:TA):TE:=λa H Q=>t a H λvs b=>sp (vs++dvs) b Q E
abbrev Ap(C:ij)(m:iv)(sp:Sp)(dvs:dV V)(E:XK)(d:TE)(t:TA):TE:=λb H Q=>d b H λx c=>∃a e fs,x= .ref a/\c a∣.ins C e fs/\fs.lookup m=eH/\
 t b c λvs f=>sp (x::(vs++dvs)) f Q E
abbrev Aq(C:ij)(sp:Sp)(dvs:dV V)(E:XK)(t:TA):TE:=λc H Q=>t c H λvs b=>∀x a,b x=eH->b a=eH->a≠x->
 sp (.ref x::(vs++dvs)) (Qa (Qa b a (.own x)) x (.ins C a [])) (λv d=>v= .non/\Q (.ref x) d) E
abbrev d6(K:ZA)(a:Oa)(ps:ZB)(ds:ZF):Prop:=
 ∀s us,K.In s.heap-> ~~~(us++ds)= ~~~ps->Tu s a %[us|[]] (ps.zip (us++ds))
def d6.all{K:ZA}(h:∀us:ZF,~~~us= ~~~ps->bindArgs b %[us|[]]=pure (ps.zip us)):d6 K b ps []:=λs us _ a=>by
 rw[Zx]at a ⊢;show .of_eq (h us a)
abbrev iZ(CX:CXT)(X:Cx)(E:XK):Prop:=∀ff (a:St) H s e s',Qc X ff a H s->CX X.stack H s E e s'->X.xe e s'
section
variable{X:Cx}{CX:CXT}{k:hH}{f C:ij}{fd:Oa}{ps:ZB}{sp:Sp}{dvs:dV V}{ds:ZF}{E:XK}{x m:iv}{p pos apos:Pos}{e o:wh}{es:dV wh}{ta:TE}{t:TA}
def y6(F:eO X.prog X.w X.K X.mg X.base CX k f fd ps sp)(d:bB k X.A)(g:d6 X.K fd ps ds)(i:aQ dvs ds)(j:iZ CX X E)
 (I:Qc X ff b H s) (r:aQ vs us) (h:sp (vs++dvs) H Q E):(X⁻¹) (call (.ref f) us) (EP X ff b Q) X.xe s:=by
 let c:=r.append i;show N6 (codeAny_mono (F.run X.A X.stack s H _ _ _ Q E d I.env0 (g s us I.kIn (~~~c▸F.len _ _ _ _ h)) c h) λr s' a=>?_);cases r with
 | error e=>show j ff b H s e s' I a
 | ok l=>
   cases l with
   | ret u=>show I.after a
   | next=>show Mq a
   | brk=>show Mq a
   | cont=>show Mq a
def As(F:eO X.prog X.w X.K X.mg X.base CX k f fd ps sp)(d:bB k X.A)(g:Gl X x)(i:X.mg x∣.ref f)(j:OD X.K (.ref f)=fI)(l:d6 X.K fd ps ds)(n:aQ dvs ds)(u:iZ CX X E)
 (v:PA X (e::es) t) (a:(x==("__debug__":iv))=fS) (w:ri (e::es) X.env=(fS,MO e X.env)::ri es X.env) (b:(Nm pos (ri es X.env)).any (·.1)=fS):
 PE X (.Call (.Name x p) (e::es) [] pos) (sP sp dvs E t):=by
 intro ff s y H Q I h;show Nv (gZ I g i (TR I.ok.mod.kin j (thP (v pos ff s y H _ I h) λus z vs A c r q=>%[c.kIn|y6 F d l n u c r q]) w b) a)
def Di(i:PE X o ta)(c:Cls X.K C)(d:Gg X.K C m f)(F:eO X.prog X.w X.K X.mg X.base CX k f fd ps sp)(j:bB k X.A)(n:d6 X.K fd ps ds)(r:aQ dvs ds)(v:iZ CX X E)
 (w:MO (.Call (.Attribute o m apos) [] [] pos) X.env=(do
  let g<-MO o X.env
  OS apos.atName
  let(f,first)<-Oq [g] (QC g m pl)
  TU pos f first (Nm pos (ri [] X.env)) (O3 pos (ND [] X.env)))):
 PE X (.Call (.Attribute o m apos) [] [] pos) (Ap C m sp dvs E ta y4):=by
 intro ff s y H Q I h;show PySem.W.methodCall_KW (thP (i ff s y H _ I h) λu B x G b z ⟨a,J,fs,ex,A,l,q⟩=>?_) w;subst ex;obtain rfl:u=kG a:=z;show yX b A c d l (PySem.W.callWith_K0 b.kIn d.kp (y6 (us:=[.ref a]) (vs:=[.ref a]) F j n r v b (.cons rfl .nil) q))
structure Mk (K:ZA) (C f:ij):Prop where
 makes:makesIn K C=fI
 init:MD K (.ref C) "__init__"=fx (fx (.ref f))
 fn:XB K (.ref f)=fI
 kp:OD K (.ref C)=fI
def Dj(M:Mk X.K C f)(F:eO X.prog X.w X.K X.mg X.base CX k f fd ps sp)(j:bB (k+1) X.A)(l:d6 X.K fd ps ds)(n:aQ dvs ds)
 (q:iZ CX X E) (I:Qc X ff d H s) (r:aQ vs us)
 (h:∀x b,H x=eH->H b=eH->b≠x->sp (.ref x::(vs++dvs)) (Qa (Qa H b (.own x)) x (.ins C b [])) (λv w=>v= .non/\Q (.ref x) w) E):
 (X⁻¹) (call (.ref C) us) (EP X ff d Q) X.xe s:=by
 let g:=h (⇑s+1) ⇑s (I.hok.fresh (Yg _)) (I.hok.fresh (Zi _)) (Zs (Yo _));let c:=Qc.made (C:=C) I;let i:aQ (V.ref (⇑s+1)::(vs++dvs)) _:= .cons rfl (r.append n);let y:=by
  let e:= ~~~i;rw[F.len _ _ _ _ g]at e;show e.symm
 show N6 (Dg I.kIn M.makes M.init (NG.mp M.fn) (codeAny_mono (F.run _ X.stack _ _ _ _ _ _ E (j.make C us [])
  (c.env0.make C us []) (l _ _ c.kIn y) i g) λr s' a=>?_))
 cases r with
 | error e=>show q ff d _ _ e s' c a
 | ok z=>
   cases z with
   | ret u=>
     let%[v,H',A,B,G|J]:=c.after a;subst G;show%[B,V.ref _,H',A,ρ|J]
   | next=>show Mq a
   | brk=>show Mq a
   | cont=>show Mq a
def Gh(M:Mk X.K C f)(F:eO X.prog X.w X.K X.mg X.base CX k f fd ps sp)(d:bB (k+1) X.A)(g:Gl X x)(i:X.mg x∣.ref C)(j:d6 X.K fd ps ds)(l:aQ dvs ds)(n:iZ CX X E)
 (u:PA X (e::es) t) (a:(x==("__debug__":iv))=fS) (v:ri (e::es) X.env=(fS,MO e X.env)::ri es X.env) (b:(Nm pos (ri es X.env)).any (·.1)=fS):
 PE X (.Call (.Name x p) (e::es) [] pos) (Aq C sp dvs E t):=by
 intro ff s w H Q I h;show Nv (gZ I g i (TR I.ok.mod.kin M.kp (thP (u pos ff s w H _ I h) λus y vs z c r q=>%[c.kIn|Dj M F d j l n c r q]) v b) a)
end
abbrev PK(X:Cx)(a:dV Ox)(t:TA):Prop:=
 ∀pos ff s (b:St) H Q,Qc X ff b H s->t b H Q->(X⁻¹) (evalAll ((O3 pos (ND a X.env))\2)) (AP X ff b Q) X.xe s
section
variable{X:Cx}{CX:CXT}{k:hH}{f C:ij}{fd:Oa}{ps ks:ZB}{sp:Sp}{E:XK}{x m:iv}{p pos apos kpos:Pos}{e o:wh}{es:dV wh}{kws:dV Ox}{te ta:TE}{t tk:TA}{nm:kf iv}
def Jm:PK X [] y4:=λ_ _ _ _ H Q I h=>wpAny_evalAll_nil %[[],H,I,.nil|h]
def Gi(b:PE X e te)(c:PK X kws t):PK X (%[nm,e|kpos]::kws) (Al te t):=by
 intro pos ff s a H Q I h;change oT _ _ (evalAll ((do let v<-MO e X.env;OS pos;pure v)::(O3 pos (ND kws X.env))\2)) _ _ s;show wpAny_evalAll_cons (Z2 (thP (b ff s a H _ I h) λu d x g i j l=>Z2 (Ph (Z3 ?_))));show thP (c pos ff d a g _ i l) λus y xs n q r w=>%[x::xs,n,q,.cons j r|w]
end
structure ay (N P:ZB) (sc:Rw):Prop where
 kind:sc.kind= .function
 co:sc.isCoroutine=fS
 gen:sc.isGenerator=fS
 nd:N.Nodup
 pre:N.take P.length=P
 par:∀x∈P,sc.names.lookup x∣.local\/sc.names.lookup x∣.cell
 nofree:∀y∈sc.names,y.2≠ .free
def sQ{kindOf:iv->kf Mb}:∀{binds:dV (iv×hV)} {m:ZC},(∀v,(x,v)∉binds)->Vu kindOf binds m x=m x
 |[],_,_=>rfl
 |(n,v)::r,m,h=>by
  unfold Vu;rw[sQ λw hw=>h w (Zk _ hw)]
  split
  .let:x≠n:=by rintro rfl;show h v Zm
   simp[this]
  .rfl
def sS{kindOf:iv->kf Mb}:∀{binds:dV (iv×hV)} {m:ZC},(∀v,(x,v)∉binds)->Vv kindOf binds m x=m x
 |[],_,_=>rfl
 |(n,v)::r,m,h=>by
  unfold Vv;rw[sS λw hw=>h w (Zk _ hw)]
  split
  .rfl
  .let:x≠n:=by rintro rfl;show h v Zm
   simp[this]
def sU{kindOf:iv->kf Mb}{x:iv}:∀{P:ZB} {vs:ZF} {i:hH} {m:ZC},P.Nodup->P[i]?∣x->vs[i]?∣v->kindOf x∣.local->
 Vu kindOf (P.zip vs) m x∣v
 |[],_,_,_,_,h,_,_=>by simp at h
 | _::_,[],_,_,_,_,h,_=>by simp at h
 | p::P,w::vs,0,m,nd,a,b,c=>by
   simp at a b;subst a;subst b;change Vu kindOf ((p,w)::P.zip vs) m p=_;unfold Vu;rw[sQ λv d=>(Nw.mp nd).1 (VY d).1,jg c];simp
 | p::P,w::vs,i+1,m,nd,a,b,c=>by
   change Vu kindOf ((p,w)::P.zip vs) m x=_;show sU (Nw.mp nd).2 (a) (b) c
def sV{kindOf:iv->kf Mb}{x:iv}:∀{P:ZB} {vs:ZF} {i:hH} {m:ZC},P.Nodup->P[i]?∣x->vs[i]?∣v->kindOf x≠fx .local->
 Vv kindOf (P.zip vs) m x∣v
 |[],_,_,_,_,h,_,_=>by simp at h
 | _::_,[],_,_,_,_,h,_=>by simp at h
 | p::P,w::vs,0,m,nd,a,b,c=>by
   simp at a b;subst a;subst b;change Vv kindOf ((p,w)::P.zip vs) m p=_;unfold Vv;rw[sS λv d=>(Nw.mp nd).1 (VY d).1,hX c];simp
 | p::P,w::vs,i+1,m,nd,a,b,c=>by
   change Vv kindOf ((p,w)::P.zip vs) m x=_;show sV (Nw.mp nd).2 (a) (b) c
abbrev start(N:ZB)(vs:dV V):St:=vs.map fx++zp (~~~N-vs.length) eH
abbrev gc(CX:CXT)(P:nz)(w:vk)(K:ZA)(mg:ZC)(base:v0)(N:ZB)(qual:iv)(scope:Rw)(f:ij)(cd:hV)(A:vj)(outer:dV Env)(s:kj)(H:Hp)(E:XK):Cx where
 prog:=P
 w:=w
 K:=K
 mg:=mg
 base:=base
 A:=A.deeper (M5 qual scope ⇑s f cd)
 N:=N
 s₀:=s
 H₀:=H
 env:=M5 qual scope ⇑s f cd
 outer:=outer
 stack:=M5 qual scope ⇑s f cd::outer
 ex:=[]
 calm:=fI
 fn:=λ_=>fI
 pn:=[]
 xe:=λe s'=>oT (MU P w) (A.deeper (M5 qual scope ⇑s f cd)) (leaving (M5 qual scope ⇑s f cd) e) (λ_ s''=>CX outer H s E e s'') (λe' s''=>CX outer H s E e' s'') s'
def wE{a:Rw}{n:hH}{x:iv}(h:a.names.lookup x∣.cell):∃c,(MJ n a.names []).lookup x∣c:=by
 show Qj.mp (Ru a.names n [] (.inl h))
def BL{P:nz}{K:ZA}
 (S:ay N ps a) (J:A.handled=eH) (g:BK P w K mg base A outer s H) (T: ~~~vs= ~~~ps) (r:aQ vs us)
 (x:InCallC s ⇑s (Vu (M5 d a ⇑s f C).kindOf (ps.zip us) λ_=>eH) (MJ (⇑s+1) a.names []) (Vv (M5 d a ⇑s f C).kindOf (ps.zip us) λ_=>eH) L):
 Qc (gc CX P w K mg base N d a f C A outer s H E) [] (start N vs) H L:=by
 let M: ~~~ps<= ~~~N:=by let:=vb Mz S.pre;rw[Yl]at this;lia
 let%[B,tk,rfl|G]:=x.done;let l:∀b,b∉(gc CX P w K mg base N d a f C A outer s H E).ex:=λb z=>m4 (show b∈([])from z) ∅
 show%[%[g.mod,S.kind,ρ,ρ,Zi _,λy z c B j=>?_,λy m=>?_,λy c _ h=>?_,λ_=>J,vj.frames_deeper g.frames,.inr %[ρ|ρ],λb z=>m4 z (l b),g.bs,g.bsz,λb _ _=>l b,λb z=>m4 z (l b),g.funs|g.frf],
  rfl,g.bare,Un.kept G,%[_,x.toInCall.ns|λi y v B j U=>?_],λy c h=>%[_|x.cell y c h],g.hok.fresh (Zi _),λy c h=>?_,λp n=>m4 (show p∈([])from n) ∅,g.hok.kept G|?_]
 .show name_of_addr x.apart (PySem.mem_of_lookup B) (PySem.mem_of_lookup j)
 .rcases m with m|m
  .show wE m
  .show m4 rfl (S.nofree _ (PySem.mem_of_lookup m))
 .show Yf (x.above y c (PySem.mem_of_lookup h))
 .let hi:i< ~~~vs:=by
   unfold start at j;by_cases hi:i< ~~~vs
   .show hi
   .rw[Ya ↑hi]at j;rw[Tj]at j
    split at j<;> cases j
  let O:vs[i]?∣v:=by
   unfold start at j;rw[Y9 ↑hi,Zl]at j
   simp_all
  let%[u,I|Q]:=r.get O;let n:ps[i]?∣y:=by
   rw[<-S.pre,Yb ⋯];show B
  let o:ps.Nodup:=S.pre▸S.nd.sublist (UV _ _);show%[u,Q|?_];rcases S.par y (Z8 n)with k|k
  .show .inl %[k|sU o n I k]
  .let%[c|e]:=wE k;show .inr %[.inl k,c,e|?_];let q:=x.cell y c e;rw[sV o n I (by change a.names.lookup y≠_;rw[k];decide)]at q;show q
 .show g.hok.fresh (Yf (x.above y c (PySem.mem_of_lookup h)))
 .unfold start;change _= ~~~N;rw[Z9,Z6,dV.length_replicate]
  lia
def HN{P:nz}{K:ZA}{O kV p T d ct oc:hV}
 (lk:K.lookup f=fx %[oc,od,.func (SO name c g i a O kV p T an d ct)|ab]) (C:Rt K d c=fI) (S:ay N ps a)
 (len:∀vs H Q E,sp vs H Q E-> ~~~vs= ~~~ps)
 (j:∀(A:vj) (outer:dV Env) (s:kj) (H:Hp) (vs:dV V) (Q:VK) (E:XK),bB k (A.deeper (M5 c a ⇑s f d))->sp vs H Q E->
  ∃t,PSs (gc CX P w K mg base N c a f d A outer s H E) i t/\t {nx:=λ_ H'=>Q .non H',rt:=Q} (start N vs) H):
 eO P w K mg base CX (k+1) f (SO name c g i a O kV p T an d ct) ps sp:=by
 show%[len|λA outer s H args us vs Q E G z hb r B=>?_];let U:=z.mod.kin.keeps λb o e=>(z.bs b o e).1
 let L:=z.mod.nolimit.keeps λb o e=>(z.bs b o e).1
 let l:∀y∈ps.zip us,a.names.lookup y.1∣_\/(a.names.lookup y.1∣_/\((MJ (⇑s+1) a.names []).lookup y.1).isSome=fI):=λ⟨n,v⟩ hy=>by
  rcases S.par n (VY hy).1 with q|q
  .show .inl q
  .show .inr %[q|Ru _ _ _ (.inl q)]
 show codeAny_call_function G.depth (U _ _ lk) rfl S.co S.gen rfl (PySem.W.codeRec_of U C) (hb _ _ _ _ (wpAny_newFunctionEnv_cells S.kind l λenv he Y x=>?_));subst he;show%[L.keeps x.toInCall.keep|codeAny_func ?_];let%[t,ht|hq]:=j A outer s H vs Q E (G.deeper _) B;let I:Qc (gc CX P w K mg base N c a f d A outer s H E) [] _ H Y:=BL S G.hd z (len _ _ _ _ B) r x;show J5 (ht [] Y _ H _ I hq) (λfl s' m=>?_) λe s' m=>m
 let fin:∀{h:St} {H':Hp} {v:V} {u:hV},Qc (gc CX P w K mg base N c a f d A outer s H E) [] h H' s'->aY v u->Q v H'->CE outer P w H s Q u s':=
  λ{h H' v u} J M q=>%[v,H',J.os,J.bare,J.base,J.hok,M|q]
 cases fl with
 | ret u=>
   let%[v,h,H',J,M|q]:=m;show fin J M q
 | next=>
   let%[h,H',J|q]:=m;show fin (v:=V.non) J rfl q
 | brk=>
   let%[_,_,_|q]:=m
   simp_all
 | cont=>
   let%[_,_,_|q]:=m;show Mq q
section
variable{X:Cx}{x:iv}{p pos:Pos}{e:wh}{es:dV wh}{t:TA}{id T:Mv}{r:dV V->Hp->VK->Prop}
abbrev tCB(r:dV V->Hp->VK->Prop)(t:TA):TE:=λa H Q=>t a H λvs b=>r vs b Q
def Dk(d:cO X (.builtin id) r)(f:Gl X x)(g:X.mg x=eH)(i:M8 x∣.builtin id)(j:PA X (e::es) t)(l:x≠"__name__")(a:(x==("__debug__":iv))=fS)
 (m:ri (e::es) X.env=(fS,MO e X.env)::ri es X.env) (b:(Nm pos (ri es X.env)).any (·.1)=fS):PE X (.Call (.Name x p) (e::es) [] pos) (tCB r t):=by
 intro ff s c H Q I h;show Nv (iX I f g i (QL (thP (j pos ff s c H _ I h) λus n vs o q u v=>d ff n c o vs us Q q u v) m b) l a)
def BM(d:cO X (.type T) r)(f:Gl X x)(g:X.mg x=eH)(i:M8 x∣.type T)(j:PA X (e::es) t)(l:x≠"__name__")(a:(x==("__debug__":iv))=fS)
 (m:ri (e::es) X.env=(fS,MO e X.env)::ri es X.env) (b:(Nm pos (ri es X.env)).any (·.1)=fS):PE X (.Call (.Name x p) (e::es) [] pos) (tCB r t):=by
 intro ff s c H Q I h;show Nv (iX I f g i (MC (thP (j pos ff s c H _ I h) λus n vs o q u v=>d ff n c o vs us Q q u v) m b) l a)
end
end _LL
namespace _HT
open PySem PyProof.Rows
section
open PySem.SeqAt
open PySem.AutoSeq1 (wpAny_loadPart')
open PySem.MeetsSeq PySem.MeetsSeq2 PySem.MeetsSeq3
#where
abbrev sIx(n d:hH):kf nX->hH
 | none=>d
 | some v=>if v<0 then(v+n).toNat else min v.toNat n
def sIx_none(n d:hH):sIx n d eH=d:=rfl
def sIx_nat(n d k:hH):sIx n d (fx k)=min k n:=by
 change(if k<0 then((k:nX) +n).toNat else min _ n)=min k n;rw[hX ⋯,OH]
end
end _HT
namespace _LL
open PySem PySem.Spec PyProof.Rows
noncomputable abbrev TO:=St->Hp->(kf nX->Hp->Prop)->Prop
abbrev PO(X:Cx)(e:kf wh)(t:TO):Prop:=
 ∀ff s (a:St) H Q,Qc X ff a H s->t a H Q->
  (X⁻¹) (evalPart e X.env) (λu s'=>∃o H',Qc X ff a H' s'/\IsPart u o/\Q o H') X.xe s
abbrev uY:TO:=λ_ H Q=>Q eH H
abbrev Dl(t:TE):TO:=λa H Q=>t a H λx b=>asI x λi=>Q (fx i) b
section
variable{X:Cx}{e:wh}{te:TE}{lo hi:kf wh}{tl th:TO}{pos p2:Pos}
def Gj:PO X eH uY:=by
 intro ff s a H Q I h;show Z3 %[eH,H,I,.none|h]
def Gk(h:PE X e te):PO X (fx e) (Dl te):=by
 intro ff s a H Q I hw;show thP (h ff s a H _ I hw) λu g x b c d f=>?_
 let%[i,rfl|q]:=dS f;let%[t|rfl]:=d;show%[fx i,b,c,.int i t|q]
abbrev SlR(X:Cx)(r:V->kf nX->kf nX->Hp->VK->Prop):Prop:=
 ∀ff s (a:St) H x v b c lo hi d Q,Qc X ff a H s->aY x v->s.heap.IsSliceOf d b c .none->IsPart b lo->IsPart c hi->r x lo hi H Q->
  ∃T id,PZ (.type T) "__getitem__"=pure (fx (.builtin id))/\s.TypeIs v T/\(X⁻¹) (To v (.ref d)) (EP X ff a Q) X.xe s
abbrev tSl(r:V->kf nX->kf nX->Hp->VK->Prop)(te:TE)(tl th:TO):TE:=λa H Q=>te a H λx b=>tl a b λl c=>th a c λu d=>r x l u d Q
def Dm(c:SlR X r)(d:PE X e te)(f:PO X lo tl)(g:PO X hi th):PE X (.Subscript e (.Slice lo hi eH p2) pos) (tSl r te tl th):=by
 intro ff s a H Q I h;show TY (thP (d ff s a H _ I h) λv i x j m n o=>wpAny_Slice (thP (f ff i a j _ m o) λp w l y z pl A=>thP (g ff w a y _ z A) λB C u E G J L=>Z3 ?_));let%[T,id,M,N|O]:=c ff _ a E x v p B l u ⇑C Q (G.kept λb U q=>Z7 _ q) n (Sa ..) pl J L;show tail_any N M O (by with_unfolding_all rfl)
abbrev pD(xs:dV V)(lo hi:kf nX):dV V:=(xs.drop (_HT.sIx xs.length 0 lo)).take (_HT.sIx xs.length xs.length hi-_HT.sIx xs.length 0 lo)
def wF(xs:dV V)(lo hi:kf nX): ~~~(pD xs lo hi)<= ~~~xs:=by
 unfold pD;rw[Yl,Yh]
 lia
end
abbrev ixN(n:hH)(i:nX):kf hH:=if 0<=i then(if i<n then fx i.toNat else eH)else if -n<=i then fx (i+n).toNat else eH
abbrev atI{a:Type}(xs:dV a)(i:nX):kf a:=(ixN xs.length i).bind λj=>xs[j]?
def Gm(h:ixN n i∣j):seqIndex? i n∣j/\j<n/\ -(n:nX)<=i/\i<n:=by
 unfold ixN at h;by_cases b:0<=i
 .rw[jg b]at h;by_cases a:i<n
  .rw[jg a]at h;show%[by rw[seqIndex_of b a,(Za h)],⋯,⋯|a]
  simp_all
 .rw[hX b]at h;by_cases a: -n<=i
  .rw[jg a]at h;show%[by rw[seqIndex_neg ⋯ a,(Za h)],⋯,a|⋯]
  .rw[hX a]at h;cases h
def uZ{a:Type}{xs:dV a}{i:nX}{v:a}(h:atI xs i∣v):∃j,seqIndex? i xs.length∣j/\xs[j]?∣v/\j< ~~~xs/\ -xs.length<=i/\i< ~~~xs:=by
 unfold atI at h;cases e:ixN xs.length i with
 | none=>simp_all
 | some j=>
   rw[e]at h;let%[b,c,d|f]:=Gm e;show%[j,b,h,c,d|f]
def bG{a:Type}{xs:dV a}{j:hH}{v:a}(h:xs[j]?∣v):atI xs j∣v:=by
 let b:=(Xl h).1;let e:ixN xs.length j∣j:=by
  unfold ixN
  simp_all
 unfold atI;show e▸h
def wG(xs:dV a)(v:a):atI (xs++[v]) (-1)∣v:=by
 let b: ~~~(xs++[v])= ~~~xs+1:=by simp
 let e:ixN (xs++[v]).length (-1)∣xs.length:=by
  unfold ixN;rw[b,hX (!1),jg ⋯]
  congr 1
  lia
 unfold atI
 simp_all
abbrev oW(b:wh):Prop:=∀o i,S4 b fS o i=operate [o,i] (To o i)
abbrev IxR(X:Cx)(r:R2):Prop:=
 ∀b a ff s (c:St) H x y v u Q,Qc X ff c H s->aY x v->aY y u->r x y H Q->
  S4 a fS v u=operate [v,u] (To v u)->(X⁻¹) (subscriptTail b a v u) (EP X ff c Q) X.xe s
abbrev MtR(X:Cx)(id:Mv)(r:V->dV V->Hp->VK->Prop):Prop:=
 ∀ff s (a:St) H x xs v us Q,Qc X ff a H s->aY x v->aQ xs us->r x xs H Q->
  (X⁻¹) (call (.builtin id) (v::us)) (EP X ff a Q) X.xe s
section
variable{X:Cx}{a b:wh}{ta tb:TE}{pos:Pos}
def Do(c:IxR X r)(d:PE X a ta)(e:PE X b tb)(f:oW b):PE X (.Subscript a b pos) (tOp r ta tb):=by
 intro ff s g H Q I h;show TY (IX d e I h λv u i x y j l m n q=>c a b ff i g j x y v u Q l m n q (f _ _))
abbrev Jn(K:ZA):R2:=λx y H Q=>asR x λp=>asI y λi=>∃xs,Qb K H p xs/\∃v,atI xs i∣v/\Q v H
abbrev Jo(K:ZA):R2:=λx y H Q=>asR x λp=>asI y λi=>∃xs,SqT K H p xs/\∃v,atI xs i∣v/\Q v H
abbrev Jp:R2:=λx y H Q=>asS x λz=>asI y λi=> ~~~z<=ku/\∃c,atI z.cps.toList i∣c/\Q (.str ⟨#[c]⟩) H
def Gn:IxR X (Jn X.K):=by
 intro d e ff s A H x y v u Q I B C h m;let%[p,rfl|f]:=aU h;let%[i,rfl,xs,E,z,G|q]:=dS f;cases B;let%[t|rfl]:=C;let%[its,r,pl|N]:=I.list E;let%[j,c,f,O,J|L]:=uZ G;let%[w,n|g]:=r.get f;let M:= ~~~r;let T:=uW;let fin:EP X ff A Q w s:=%[z,H,I,g|q]
 by_cases o:0<=i
 .let l:=by
   rw[seqIndex_of o L]at c;show Za c
  show item_listR pl.isList o ⋯ (by rw[l];simpa using n) fin m
 .let l:(i+its.toArray.size).toNat=j:=by
   rw[seqIndex_neg ⋯ J]at c;rw[Zp,<-M];show Za c
  show UE pl.isList.typeIs Sg.lookup
   (wpAny_getItem_list_neg pl.isList ⋯ (!2) ⋯ (by rw[l];simpa using n) %[rfl|fin]) m
def Jq:IxR X (Jo X.K):=by
 intro c d ff s g H x y v u Q I l m h n;let%[p,rfl|e]:=aU h;let%[i,rfl,xs,o,z,A|q]:=dS e;cases l;let%[t|rfl]:=m;let%[its,r,pl|E]:=I.tuple o;let%[j,B,e,G,J|L]:=uZ A;let%[w,C|f]:=r.get e;let M:=uW;let fin:EP X ff g Q w s:=%[z,H,I,f|q]
 show UE pl.typeIs slot_tuple_getitem.lookup
  (getItem_tuple pl ⋯ ⋯ (by rw[Zp,<-r.length];show B) ↑C %[rfl|fin]) n
def Jr:IxR X Jp:=by
 intro d e ff s C H x y v u Q I m n h o;let%[z,rfl|f]:=fY h;let%[i,rfl|g]:=dS f;let%[E,c,p|q]:=g;let%[t|rfl]:=m;let%[t'|rfl]:=n;let%[j,l,r,G,w|A]:=uZ p;let B: ~~~z.cps.toList= ~~~z:=by simp[UQ]
 rw[B]at l w A;let J:=uW;show tail_any (OA s z t) slot_str_getitem.lookup (getItem_str (by
  lia) (by rw[l];simpa using r) %[.str _,H,I.tok _,%[_|rfl]|q]) o
def u5(lo hi:kf nX)(n:hH):(NT lo hi eH n).1=((_HT.sIx n 0 lo:hH):nX)/\(NT lo hi eH n).2.1=((_HT.sIx n n hi:hH):nX)/\(NT lo hi eH n).2.2=1:=by
 show%[?_,?_|ρ]
 .cases lo with
  | none=>simp[NT,_HT.sIx]
  | some i=>
    simp only[NT,_HT.sIx,getD_none,show(1:nX)>0 by decide,Pk];by_cases h:i<0
    .simp only[h,Pk]<;> lia
    .simp only[h,N7]<;> lia
 .cases hi with
  | none=>simp[NT,_HT.sIx]
  | some i=>
    simp only[NT,_HT.sIx,getD_none,show(1:nX)>0 by decide,Pk];by_cases h:i<0
    .simp only[h,Pk]<;> lia
    .simp only[h,N7]<;> lia
def rK(its:ZF)(lo hi:kf nX):WK its.toArray lo hi eH=((its.drop (_HT.sIx its.length 0 lo)).take (_HT.sIx its.length its.length hi-_HT.sIx its.length 0 lo)).toArray:=by
 let%[c,d|e]:=u5 lo hi its.toArray.size;unfold WK;rw[c,d,e];simp only[sliceRange_one,pick_run]<;> rfl
abbrev Js(K:ZA):V->kf nX->kf nX->Hp->VK->Prop:=λx lo hi H Q=>asR x λa=>∃xs,Qb K H a xs/\∀p,H p=eH->Q (.ref p) (Qa H p (.lst (pD xs lo hi)))
def Go:SlR X (Js X.K):=by
 intro ff s m H x v n o lo hi p Q I f g pl i h;let%[a,rfl|d]:=aU h;let%[xs,j|q]:=d;cases f;let%[its,r,e|l]:=I.list j;let c:= ~~~r;show%["list",_,Sg.lookup,e.isList.typeIs|Uf e.isList g pl i .none ∅ ?_ (!2)];rw[rK,<-c];show%[.ref ⇑s,_,I.laid (λb u q=>Z7 _ q) (Zi _) ?_,ρ|q _ (I.hok.fresh (Zi _))];show%[md (wF xs lo hi) l,_,0,(r.drop _).take _|Zj _ rfl]
abbrev kJ:V->pp
 | .non=>fI
 | .bl _=>fI
 | .int _=>fI
 | .str _=>fI
 | _=>fS
abbrev eqV:V->V->pp
 | .non,.non=>fI
 | .bl a,.bl b=>a==b
 | .bl a,.int b=>(if a then 1 else 0)==b
 | .int a,.bl b=>a==(if b then 1 else 0)
 | .int a,.int b=>a==b
 | .str a,.str b=>a==b
 | _,_=>fS
def Dp(d:aY y u)(c:aY x v)(f:kJ y=fI)(e:kJ x=fI):Mm A s u v (eqV y x):=by
 cases y with
 | non=>
   cases d;cases x with
   | non=>cases c;show Mm.same _
   | bl b=>cases c;show Mm.none_bool b
   | int b=>have%[t|rfl]:=c;show Mm.none_int b t
   | str b=>have%[t|rfl]:=c;show Mm.none_str b t
   | _=>show m4 (show fS=fI from e) Zt
 | bl a=>
   cases d;cases x with
   | non=>cases c;show Mm.bool_none a
   | bl b=>cases c;show Mm.bool_bool a b
   | int b=>have%[t|rfl]:=c;show Mm.bool_int a b t
   | str b=>have%[t|rfl]:=c;show Mm.bool_str a b t
   | _=>show m4 (show fS=fI from e) Zt
 | int a=>
   let%[t'|rfl]:=d;cases x with
   | non=>cases c;show Mm.int_none a t'
   | bl b=>cases c;show Mm.int_bool a t' b
   | int b=>have%[t|rfl]:=c;show Mm.int_int a t' b t
   | str b=>have%[t|rfl]:=c;show S9 a t' b t
   | _=>show m4 (show fS=fI from e) Zt
 | str a=>
   let%[t'|rfl]:=d;cases x with
   | non=>cases c;show Mm.str_none a t'
   | bl b=>cases c;show Mm.str_bool a t' b
   | int b=>have%[t|rfl]:=c;show S8 a t' b t
   | str b=>have%[t|rfl]:=c;show Mm.str_str a t' b t
   | _=>show m4 (show fS=fI from e) Zt
 | _=>show m4 (show fS=fI from f) Zt
abbrev eqU(x:V)(u:hV):pp:=match u with
 | .none=>eqV .non x
 | .bool b=>eqV (.bl b) x
 | .int i _=>eqV (.int i) x
 | .str z _=>eqV (.str z) x
 | _=>fS
def Dq(r:aY y u)(f:kJ y=fI):eqU x u=eqV y x:=by
 cases y with
 | non=>cases r;rfl
 | bl b=>cases r;rfl
 | int i=>have%[t|rfl]:=r;rfl
 | str z=>have%[t|rfl]:=r;rfl
 | _=>show m4 (show fS=fI from f) Zt
def lL:∀{xs:dV V} {us:ZF},aQ xs us->xs.all kJ=fI->us.any (eqU x)=xs.any λy=>eqV y x
 | _,_,.nil,_=>rfl
 | y::xs,u::us,.cons r t,f=>by
   rw[Vx,Zv]at f;rw[Zw,Zw,Dq r f.1,lL t f.2]
def jF(d:aY x v)(e:kJ x=fI):∀{xs:dV V} {us:ZF},aQ xs us->xs.all kJ=fI->∀u∈us,Mm A s u v (eqU x u)
 | _,_,.nil,_=>λu c=>by cases c
 | y::xs,u::us,.cons r t,f=>λg c=>by
   rw[Vx,Zv]at f;rcases Yw.mp c with rfl|c
   .rw[Dq r f.1];show Dp r d f.1 e
   .show jF d e t f.2 g c
abbrev inV(x:V)(xs:dV V):pp:=xs.any λy=>eqV y x
abbrev rIn(K:ZA)(c:pp):R2:=λx y H Q=>asR y λp=>∃xs,(Qb K H p xs\/SqT K H p xs)/\kJ x=fI/\xs.all kJ=fI/\Q (.bl (bif c then !inV x xs else inV x xs)) H
def sW:OpR X (pw .In) (rIn X.K fS):=by
 intro ff s j H x y v u Q I e g h;let%[p,rfl|d]:=aU h;let%[xs,c,f,fs|q]:=d;cases g;rcases c with c|c
 .let%[its,r,pl|i]:=I.list c;show SeqAt.in_listAt _ pl.isList (λw hw=>jF e f r fs w ↑hw) %[.bl _,H,I,rfl|?_];rw[show its.toArray.any _=its.any (eqU x) by simp,lL r fs];show q
 .let%[its,r,pl|i]:=I.tuple c;show SeqAt.in_tupleAt _ pl (λw hw=>jF e f r fs w ↑hw) %[.bl _,H,I,rfl|?_];rw[show its.toArray.any _=its.any (eqU x) by simp,lL r fs];show q
def u8:OpR X (pw .NotIn) (rIn X.K fI):=by
 intro ff s j H x y v u Q I e g h;let%[p,rfl|d]:=aU h;let%[xs,c,f,fs|q]:=d;cases g;rcases c with c|c
 .let%[its,r,pl|i]:=I.list c;show SeqAt.notIn_listAt _ pl.isList (λw hw=>jF e f r fs w ↑hw) %[.bl _,H,I,rfl|?_];rw[show its.toArray.any _=its.any (eqU x) by simp,lL r fs];show q
 .let%[its,r,pl|i]:=I.tuple c;show SeqAt.notIn_tupleAt _ pl (λw hw=>jF e f r fs w ↑hw) %[.bl _,H,I,rfl|?_];rw[show its.toArray.any _=its.any (eqU x) by simp,lL r fs];show q
def u9:OpR X (pw .NotIn) (λx y H Q=>asS x λi=>asS y λj=>Q (.bl (!(!(KE j i 0 j.length 1).isEmpty))) H):=by
 intro ff s g H x y v u Q I e f h;let%[i,rfl|c]:=fY h;let%[j,rfl|d]:=fY c;let q:=d;let%[t|rfl]:=e;let%[t'|rfl]:=f;show notIn_str %[.bl _,H,I,rfl|q]
def va:cO X (.type "list") (λxs H Q=>dh xs λA=>asR A λp=>∃ys,(Qb X.K H p ys\/SqT X.K H p ys)/\∀l,H l=eH->Q (.ref l) (Qa H l (.lst ys))):=by
 intro ff s C H xs us Q I r h;let%[A,rfl|m]:=ck h;let%[p,rfl|v]:=aU m;let%[ys,f|q]:=v;let%[u,rfl|E]:=dA r;cases E;let fin:∀its,aQ ys its-> ~~~ys<=ku->∀h' d,(∀b B,s.heap.get? b∣B->h'.get? b∣B)->
  h'.get? ⇑s∣_->EP X ff C Q _ (s>>>h'):=λits c g h' d i e=>
  %[.ref ⇑s,_,I.laid i (Zi _) (show cN X.prog X.w _ h' _ (.lst ys)from%[g,its,d,c|e]),rfl|q _ (I.hok.fresh (Zi _))]
 rcases f with f|f
 .let%[its,c,pl|g]:=I.list f;let j:= ~~~c;let%[o,w,y,n|z]:=pl.isList;show call_list_seq p (.inl rfl) w y z (λh' d i e=>fin its c g h' d i e) (by simp only[Zp]<;> lia)
 .let%[its,c,pl|g]:=I.tuple f;let j:= ~~~c;let%[o,w,y,n|z]:=pl;show call_list_seq p (.inr rfl) w y z (λh' d i e=>fin its c g h' d i e) (by simp only[Zp]<;> lia)
abbrev tyV(K:ZA)(T:Mv)(x:V)(H:Hp):Prop:=match x with
 | .str _=>T="str"
 | .int _=>T="int"
 | .ref p=>(T="list"/\∃xs,Qb K H p xs)\/(T="tuple"/\∃o,K.lookup p∣o/\o.cls= .type "tuple"/\o.dict=eH)\/
  (T="dict"/\((∃c,H p∣.dK c)\/∃c,H p∣.dT c))\/(T="set"/\∃S n,H p∣.set S n)
 | _=>G2
def Dr(I:Qc X ff q H s)(r:aY x v)(ty:tyV X.K T x H):
 s.TypeIs v T/\∀a,v= .ref a->∃j,s.heap.get? a∣j/\j.dict=eH:=by
 cases x with
 | str z=>
   let%[t|rfl]:=r;cases(show T="str" from ty);show%[OA s z t|λ_ e=>nomatch e]
 | int i=>
   let%[t|rfl]:=r;cases(show T="int" from ty);show%[VW s i t|λ_ e=>nomatch e]
 | ref p=>
   cases r;rcases ty with⟨rfl,xs,l⟩|⟨rfl,o,d,m,f⟩|⟨rfl,d⟩|⟨rfl,S,n,d⟩
   .let%[its,_,pl|_]:=I.list l;show%[pl.isList.typeIs|λa e=>?_];cases e;let%[o,n,e,c,f|_]:=pl;show%[o,e|f]
   .show%[%[o,I.kIn p o d|m]|λa e=>?_];cases e;show%[o,I.kIn _ o d|f]
   .let z:∃o,s.heap.get? p∣o/\o.ExactDict:=by
     rcases d with⟨g,d⟩|⟨g,d⟩
     .let%[_,_,_,_,o,_,_,e,ex|_]:=I.hok p _ d;show%[o,e|ex]
     .let%[_,_,_,_,o,_,_,e,ex|_]:=I.hok p _ d;show%[o,e|ex]
    let%[o,e|ex]:=z;show%[%[o,e|ex.1]|λa h=>?_];cases h;show%[o,e|ex.2.1]
   .let%[o,_,_,_,e,ex|_]:=I.hok p _ d;show%[%[o,e|ex.1]|λa h=>?_];cases h;show%[o,e|ex.2.1]
 | _=>show Mq ty
abbrev Gp(K:ZA)(T:Mv)(r:V->dV V->Hp->VK->Prop)(d:TE):TE:=λe H Q=>d e H λx c=>tyV K T x c/\r x [] c Q
abbrev tBM(K:ZA)(T:Mv)(r:V->dV V->Hp->VK->Prop)(e:TE)(t:TA):TE:=λc H Q=>e c H λx d=>tyV K T x d/\t c d λxs f=>r x xs f Q
variable{o e:wh}{es:dV wh}{to:TE}{t:TA}{name:iv}{apos cpos:Pos}{T id:Mv}{r:V->dV V->Hp->VK->Prop}
def Jt(l:Pe T)(slot:Slot T name id)(f:Pu (.builtin id)=pure (.type "method_descriptor"))(m:MtR X id r)(n:PE X o to)
 (c:M9 o name X.env (MO o X.env)=MO o X.env) (d:(apos.endLine==cpos.line)=fI):PE X (.Call (.Attribute o name apos) [] [] cpos) (Gp X.K T r to):=by
 intro ff s g H Q I h;show wpAny_Call_method0_late c d (thP (n ff s g H _ I h) λv p x q i j ⟨ty,u⟩=>?_);let%[w|y]:=Dr i j ty;show%[T,id,l,slot,f,w,y|Tl rfl (PySem.evalArgs_none (m ff p g q x [] v [] Q i j .nil u))]
def Lc(p:Pe T)(slot:Slot T name id)(i:Pu (.builtin id)=pure (.type "method_descriptor"))(q:MtR X id r)(u:PE X o to)(w:PA X (e::es) t)
 (d:M9 o name X.env (MO o X.env)=MO o X.env)
 (g:((Nm cpos (ri (e::es) X.env)).all (λx=>!x.1)&&(O3 cpos (ND [] X.env)).all (λx=>x.1.isSome)
  && decide (~~~(e::es)+ ~~~([]:dV Ox)+(if([]:dV Ox).isEmpty then 0 else 1)<30))=fI)
 (f:(apos.endLine==cpos.line)=fI) (y:ri (e::es) X.env=(fS,MO e X.env)::ri es X.env) (c:(Nm cpos (ri es X.env)).any (·.1)=fS):
 PE X (.Call (.Attribute o name apos) (e::es) [] cpos) (tBM X.K T r to t):=by
 intro ff s j H Q I h;show wpAny_Call_method_late d g f rfl (thP (u ff s j H _ I h) λv z x A l m ⟨ty,B⟩=>?_);let%[C|E]:=Dr l m ty;show%[T,id,p,slot,i,C,E|?_];let n:=w cpos ff z j A _ l B;rw[y]at n ⊢;show Tl (by change(fS||(Nm cpos _).any _)=fS;rw[c]<;> rfl) (Calls.evalArgs_plain (thn n λus G ⟨vs,J,L,M,N⟩=>q ff G j J x vs v us Q L m M N))
end
abbrev MtM(X:Cx)(id:Mv)(r:V->dV V->Hp->VK->Prop):Prop:=
 ∀ff s (a:St) H x xs v us Q,Qc X ff a H s->aY x v->aQ xs us->r x xs H Q->
  (X⁻¹) (call (.builtin id) (v::us)) (EP X ff a Q) X.xe s
def aQ.one:∀{x:V} {us:ZF},aQ [x] us->∃u,us=[u]/\aY x u
 | _,_,.cons r .nil=>%[_,rfl|r]
def aQ.zero:∀{us:ZF},aQ [] us->us=[]
 | _,.nil=>rfl
def aQ.eraseIdx:∀{xs:dV V} {us:ZF} i,aQ xs us->aQ (xs.eraseIdx i) (us.eraseIdx i)
 | _,_,_,.nil=> .nil
 | _,_,0,.cons _ t=>t
 | _,_,i+1,.cons r t=> .cons r (aQ.eraseIdx i t)
def aQ.reverse(h:aQ xs us):aQ xs.reverse us.reverse:=by
 induction h with
 | nil=>show .nil
 | cons r t a=>rw[RF,RF];show aQ.append a (.cons r .nil)
def aQ.rep(h:aQ xs us):∀k:hH,aQ (zp k xs).flatten (zp k us).flatten
 | 0=> .nil
 | k+1=>by
   show aQ.append h (aQ.rep h k)
def sX:∀(l:dV a) (i:hH),~~~(l.eraseIdx i)<= ~~~l
 |[],_=>Zi _
 | _::_,0=>Yg _
 | _::r,i+1=>X8 (sX r i)
def sY(its:ZF):∀k acc,
 Uz (λa x2=>a++x2) acc.toArray (zp k its.toArray)=(acc++(zp k its).flatten).toArray
 | 0,acc=>by simp
 | k+1,acc=>by
   let e:acc.toArray++its.toArray=(acc++its).toArray:=by simp
   let b:(acc++its) ++(zp k its).flatten=acc++(zp (k+1) its).flatten:=by
    rw[Rp,UX,Ze]
   rw[<-b,<-sY its k _,<-e,Rp,Y8]
section
#version
variable{l b:ij}{xs ys zs:dV V}
def Qc.lset{its its':ZF}{n:hH}{f:ZJ->ZJ}{t':hH}(I:Qc X ff σ H s)(a:H l<*xs)
 (e:s.heap.get? l=fx {cls:= .type "list",data:= .seq its.toArray n}) (c:f its.toArray=its'.toArray) (d:aQ ys its') (g: ~~~ys<=ku):
 Qc X ff σ (Qa H l (.lst ys)) {s with heap:=s.heap.update l (MR f),toks:=t'}:=by
 let q:=PySem.IsL.update e f;rw[c]at q;show I.write (a▸trivial) (.inl rfl) (λj u h i=>(J6 s.heap _ (zr h)).trans i) %[_|q] ?_;show%[g,its',_,d|q]
def Qc.lnew(I:Qc X ff σ H s)(a:aQ ys its)(c: ~~~ys<=ku):
 Qc X ff σ (Qa H ⇑s (.lst ys)) {s with heap:=s.heap.push {cls:= .type "list",data:= .seq its.toArray},toks:=t'}:=
 I.laid (λ_ _ q=>Z7 _ q) (Zi _) %[c,its,0,a|Zj _ rfl]
def Qc.fresh(I:Qc X ff σ H s):H ⇑s=eH:=I.hok.fresh (Zi _)
def Qc.lstM(I:Qc X ff σ H s)(a:H l<*xs): ~~~xs<=ku/\∃its n,aQ xs its/\ ~~~xs= ~~~its/\s.heap.get? l=fx {cls:= .type "list",data:= .seq its.toArray n}:=by
 let%[z,its,n,r|e]:=I.hok l _ a;show%[z,its,n,r,~~~r|e]
def wH{n:hH}(h:n<=ku):NY n=fS:=by
 unfold NY
 simp_all
end
section
variable{X:Cx}
abbrev ve:V->dV V->Hp->VK->Prop:=λx vs H Q=>asR x λl=>dh vs λy=>∃xs,H l<*xs/\ ~~~xs<ku/\Q .non (Qa H l (.lst (xs++[y])))
def sZ:MtM X "list.append" ve:=by
 intro ff s g H x vs v us Q I b c h;let%[l,rfl|d]:=aU h;let%[y,rfl,xs,a,i|q]:=ck d;cases b;let%[u,rfl|f]:=c.one;let%[z,its,n,r,j|e]:=I.lstM a;show OE F.slot_list_append %[_,e|rfl] F.entry_list_append (F.args_list_append_2 _ _) (PySem.list_append l its.toArray n u (!2)) %[e,.non,_,I.lset a e ∅ (r.append (.cons f .nil)) ?_,rfl|q];rw[Z9,Yk]
 lia
abbrev vf:V->dV V->Hp->VK->Prop:=λx vs H Q=>asR x λl=>dh vs λa=>asR a λb=>∃xs,H l<*xs/\∃zs,H b<*zs/\ ~~~xs+ ~~~zs<=ku/\Q .non (Qa H l (.lst (xs++zs)))
def BN:MtM X "list.extend" vf:=by
 intro ff s C H x vs v us Q I j m h;let%[l,rfl|c]:=aU h;let%[E,rfl|d]:=ck c;let%[b,rfl|f]:=aU d;let%[xs,i,zs,o,G|q]:=f;cases j;let%[u,rfl|p]:=m.one;cases p;let%[z,its,n,r,J|e]:=I.lstM i;let%[L,its2,w,y,A|B]:=I.lstM o;let g:its.toArray.size+its2.toArray.size<=ku:=!2
 let a: ¬ (!its.toArray.isEmpty&&NY (its.toArray.size+its2.toArray.size))=fI:=by
  rw[wH g,M7];show Zt
 show OE F.slot_list_extend %[_,e|rfl] F.entry_list_extend (F.args_list_extend_2 _ _)
  (AutoSeq1.list_extend_list_list_0 l its.toArray n b its2.toArray w a ⋯ ⋯) %[e,B,.non,_,I.lset i e ∅ (r.append y) ?_,rfl|q]
 simp_all
abbrev y8:V->dV V->Hp->VK->Prop:=λx vs H Q=>asR x λl=>Iz vs (∃xs,H l<*xs/\Q .non (Qa H l (.lst [])))
def Dt:MtM X "list.clear" y8:=by
 intro ff s i H x vs v us Q I f g h;let%[l,rfl|a]:=aU h;let%[rfl|b]:=IB a;let%[xs,d|q]:=b;cases f;let c:=g.zero;subst c;let%[z,its,n,r,j|e]:=I.lstM d;show OE F.slot_list_clear %[_,e|rfl] F.entry_list_clear (F.args_list_clear_1 _) (AutoSeq1.list_clear_list_0 l its.toArray n (by rw[Zp];lia)) %[e,.non,_,I.lset d e rfl .nil (Xe _),rfl|q]
abbrev Gq:R2:=λx y H Q=>asR x λl=>asR y λb=>∃xs,H l<*xs/\∃zs,H b<*zs/\ ~~~xs+ ~~~zs<=ku/\∀p,H p=eH->Q (.ref p) (Qa H p (.lst (xs++zs)))
def Du:OpR X (MP .Add) Gq:=by
 intro ff s w H x y v u Q I d f h;let%[l,rfl|a]:=aU h;let%[b,rfl|c]:=aU a;let%[xs,g,zs,i,A|q]:=c;cases d;cases f;let%[z,its,n,r,B|e]:=I.lstM g;let%[C,its2,E,j,m|o]:=I.lstM i;show PySem.P.add_list e o ?_ (by rw[Zp,Zp];lia);let p:its.toArray++its2.toArray=(its++its2).toArray:=by simp
 rw[p];show%[.ref _,_,I.lnew (r.append j) (by rw[Z9];lia),ρ|q _ I.fresh]
abbrev Ju:R2:=λx y H Q=>asR x λl=>asI y λk=>∃xs,H l<*xs/\ -(2^63)<=k/\k<2^63/\ ~~~xs*k.toNat<=ku/\∀p,H p=eH->Q (.ref p) (Qa H p (.lst (zp k.toNat xs).flatten))
def Gr(xs:dV a)(k:hH):(zp k xs).flatten.length=k* ~~~xs:=by
 simp
def Jv:OpR X (MP .Mult) Ju:=by
 intro ff s J H x y v u Q I w A h;let%[l,rfl|i]:=aU h;let%[k,rfl|j]:=dS i;let%[xs,B,C,E,p|q]:=j;cases w;let%[t|rfl]:=A;let%[z,its,n,r,G|e]:=I.lstM B;let c:its.toArray.size*k.toNat<=ku:=by rw[Zp,<-G];show p
 let d: ¬ its.toArray.size*k.toNat>(2^63-1)/8:=by
  let:ku<=(2^63-1)/8:=!1
  lia
 let f: ¬ (!Builtin.List.listFitsIndex k)=fI:=by
  rw[fitsIndex_both C E];show Zt
 let b: ¬ NY (its.toArray.size*k.toNat)=fI:=by
  rw[wH c];show Zt
 let g:Uz (λo x2=>o++x2) #[] (zp (if its.toArray.isEmpty=fI then 0 else k.toNat) its.toArray)=(zp k.toNat its).flatten.toArray:=by
  let L:∀m,Uz (λo x2=>o++x2) #[] (zp m its.toArray)=(zp m its).flatten.toArray:=λm=>by
   let:=sY its m []
   simp_all
  cases its with
  | nil=>simp
  | cons a M=>simp_all
 show wpAny_binaryOp_repeat_ref (!1) %[_,e|rfl] (λs'=>VW s' k t) noFill_list_mul F.fills_int_mul Ww repeat_list F.slot_int_index.lookup
  (OE Ww (VW s k t) F.entry_int_rmul (F.args_int_rmul_2 _ _) (int___rmul___int_list k t l its.toArray n)
   %[e,rfl,%[_,e|rfl]|OE F.slot_list_mul %[_,e|rfl] F.entry_list_mul (F.args_list_mul_2 _ _) (AutoListH.list___mul___list_int_3 l its.toArray n k t f d b) %[e|?_]])
 rw[g];show%[.ref _,_,I.lnew (r.rep k.toNat) (by rw[Gr,hH.mul_comm];show p),ρ|q _ I.fresh]
#where
end
section
variable{κ:Type}[Mw κ]
abbrev cf(a:dV (κ×V))(k:κ):kf V:=(a.find? λb=>decide (b.1=k))\2
abbrev dz(a:dV (κ×V))(k:κ)(v:V):dV (κ×V):=
 if(a.any λb=>decide (b.1=k))=fI then a.map (λb=>if b.1=k then(b.1,v)else b)else a++[(k,v)]
def eY{p:κ×V}{r:dV _}{k:κ}(e:p.1=k):cf (p::r) k∣p.2:=by simp[cf,e]
def dC{p:κ×V}{r:dV _}{k:κ}(e: ¬ p.1=k):cf (p::r) k=cf r k:=by simp[cf,e]
def jG(k:κ):∀a,(a.any λb=>decide (b.1=k))=(cf a k).isSome
 |[]=>rfl
 | p::r=>by
   rw[Zw];by_cases e:p.1=k
   .simp only[eY e,Zf e,Tt,kf.isSome_some]
   .rw[dC e,Zh e,Tb];show jG k r
def g9(a:dV _)(k:κ)(v:V): ~~~(dz a k v)<= ~~~a+1:=by
 unfold dz
 split
 .simp
 simp_all
def ei{k:κ}(v:V)(h:cf a k=eH):dz a k v=a++[(k,v)]:=by
 unfold dz;rw[jG,h];show hX (!1)
def iB.isSome_eq(r:iB o u):o.isSome=u.isSome:=by
 cases o with
 | none=>cases u with
   | none=>rfl
   | some _=>show(r).elim
 | some _=>cases u with
   | none=>show(r).elim
   | some _=>rfl
def iB.getD{o:kf V}{u:kf hV}{d:V}{a:hV}(r:iB o u)(b:aY d a):aY (o.getD d) (u.getD a):=by
 cases o with
 | none=>cases u with
   | none=>show b
   | some _=>show(r).elim
 | some _=>cases u with
   | none=>show(r).elim
   | some _=>show r
def KV.val{vs:dV (κ×hV)}(r:KV a vs)(k:κ):iB (cf a k) (Sf vs k):=by
 induction r with
 | nil=>show Mx
 | @cons p q ps qs h t f=>
   let%[d|g]:=h;by_cases e:p.1=k
   .let c:=d.symm.trans e;let b:Sf (q::qs) k∣q.2:=by simp[Sf,c]
    rw[eY e,b];show g
   .let c: ¬ q.1=k:=λz=>e (d.trans z)
    let b:Sf (q::qs) k=Sf qs k:=by simp[Sf,c]
    rw[dC e,b];show f
def KV.any(r:KV a vs)(k:κ):(a.any λb=>decide (b.1=k))=vs.any λb=>decide (b.1=k):=by
 induction r with
 | nil=>rfl
 | cons h t c=>simp_all
def KV.repl(r:KV c vs)(k:κ)(d:aY y u):
 KV (c.map λa=>if a.1=k then(a.1,y)else a) (vs.map λa=>if a.1=k then(a.1,u)else a):=by
 induction r with
 | nil=>show .nil
 | @cons p q ps qs h t f=>
   rw[Yq,Yq];show .cons ?_ f;let%[b|g]:=h;by_cases e:p.1=k
   .rw[jg e,jg (b.symm.trans e)];show%[b|d]
   .rw[hX e,hX (λz=>e (b.trans z))];show%[b|g]
def KV.put(r:KV a vs)(k:κ)(b:aY y u):KV (dz a k y) (stored vs k u):=by
 unfold dz stored;rw[r.any k];by_cases e:(vs.any λc=>decide (c.1=k))=fI
 .rw[jg e,jg e];show r.repl k b
 .rw[hX e,hX e];show Paired.snoc r %[rfl|b]
def KV.keys{a:dV (κ×V)}{vs:dV (κ×hV)}(r:KV a vs):a\1=vs\1:=by
 induction r with
 | nil=>rfl
 | cons h t b=>simp_all
def KV.length{a:dV (κ×V)}{vs:dV _}(r:KV a vs): ~~~a= ~~~vs:=Paired.length r
end
def pE{P:nz}(r:aY (kV k) u):(aX P w).is k u=fI:=by
 cases k with
 | inl i=>have%[t|e]:=(r);subst e;show wz P w i t
 | inr x=>have%[t|e]:=(r);subst e;show wA P w x t
def tf{P:nz}:∀{ks:dV Key} {us:ZF},aQ (ks.map kV) us->ItemsAre (aX P w) ks us
 |[],_,r=>by cases r;show .nil
 | k::ks,_,r=>by
   cases r with
   | cons h t=>show .cons (pE h) (tf t)
noncomputable abbrev KT(H:Hp):dV (dV Key×V)->dV (dV Key×ij×hV)->Prop:=Paired λp q=>p.1=q.1/\H q.2.1&&&p.1.map kV/\aY p.2 q.2.2
def KT.val{a:dV (dV Key×V)}{xs:dV (dV Key×ij×hV)}(r:KT H a xs)(k:dV Key):iB (cf a k) ((Uu xs k)\2):=by
 induction r with
 | nil=>show Mx
 | @cons p q ps qs h t f=>
   let%[d,_|g]:=h;by_cases e:p.1=k
   .let c:=d.symm.trans e;let b:Uu (q::qs) k∣q.2:=by simp[Uu,c]
    rw[eY e,b];show g
   .let c: ¬ q.1=k:=λz=>e (d.trans z)
    let b:Uu (q::qs) k=Uu qs k:=by simp[Uu,c]
    rw[dC e,b];show f
def KT.repl(r:KT H b xs)(k:dV Key)(f:aY y u):
 KT H (b.map λc=>if c.1=k then(c.1,y)else c) (xs.map (putAt k u)):=by
 induction r with
 | nil=>show .nil
 | @cons p q ps qs h t g=>
   rw[Yq,Yq];show .cons ?_ g;let%[a,d|i]:=h;unfold putAt;by_cases e:p.1=k
   .rw[jg e,jg (a.symm.trans e)];show%[a,d|f]
   .rw[hX e,hX (λz=>e (a.trans z))];show%[a,d|i]
def KT.put(r:KT H a xs)(k:dV Key)(d:H b&&&k.map kV)(c:aY y u):
 KT H (dz a k y) (storedH xs k b u):=by
 let e:(a.any λf=>decide (f.1=k))=(Uu xs k).isSome:=by
  rw[jG,(r.val k).isSome_eq,VZ]
 unfold dz storedH;rw[e];by_cases q:(Uu xs k).isSome=fI
 .rw[jg q,jg q];show r.repl k c
 .rw[hX q,hX q];show Paired.snoc r %[rfl,d|c]
def KT.keeps(r:KT H a xs)(c:∀b ys,H b&&&ys->H' b&&&ys):KT H' a xs:=
 Paired.mapP r λ_ _ z=>%[z.1,c _ _ z.2.1|z.2.2]
section
variable{P:nz}{w:vk}{H:Hp}{h:v0}{a:ij}
def HP(ok:HOk P w H h)(e:Rd H a u):cN P w H h a u:=e.ok ok
def pF(ok:HOk P w H h)(e:Rd H a (.dK b)): ~~~b<=ku/\(a==Nl)=fS/\∃vs,KV b vs/\h.DictOf (aX P w) a vs:=
 HP ok e
def nQ(ok:HOk P w H h)(e:H a∣.dK b): ~~~b<=ku/\(a==Nl)=fS/\∃vs,KV b vs/\h.DictOf (aX P w) a vs:=pF ok (.inl e)
def pG(ok:HOk P w H h)(e:H a&&&ks.map kV):(SK (aX P w)).is h ks a:=by
 let%[_,its,r,o,b,c,n|d]:=(ok a _ e)
 show%[o,its.toArray,n,b,c,d|tf r]
def wI(ok:HOk P w H h)(e:Rd H a (.dT b)): ~~~b<=ku/\(a==Nl)=fS/\
 ∃xs,KT H b xs/\h.DictOfH (SK (aX P w)) a xs:=by
 let%[z,y,xs,r,o,es,d,f,g,i,j|n]:=(HP ok e)
 show%[z,y,xs,r,o,es,d,f,g,i,j,λx c=>?_|n];let all:∀{l:dV _} {m:dV _},KT H l m->∀x∈m,(SK (aX P w)).is h x.1 x.2.1:=by
  intro l m q
  induction q with
  | nil=>simp
  | @cons p q ps qs u t s=>
    intro x c;rcases Yw.mp c with e|c
    .show pG ok (!2)
    .show s x c
 show all r x c
def HQ(ok:HOk P w H h)(e:H a∣.dT b): ~~~b<=ku/\(a==Nl)=fS/\
 ∃xs,KT H b xs/\h.DictOfH (SK (aX P w)) a xs:=wI ok (.inl e)
end
abbrev cg(H:Hp)(a:ij)(y:V)(r:kf V):Prop:=
 (∃c k,Rd H a (.dK c)/\y=kV k/\r=cf c k)\/∃c k b,Rd H a (.dT c)/\y= .ref b/\H b&&&k.map kV/\r=cf c k
abbrev gX(H:Hp)(a:ij)(y v:V)(H':Hp):Prop:=
 (∃c k,H a∣.dK c/\y=kV k/\ ~~~c<ku/\H'=Qa H a (.dK (dz c k v)))\/
 ∃c k b,H a∣.dT c/\y= .ref b/\H b&&&k.map kV/\ ~~~c<ku/\H'=Qa H a (.dT (dz c k v))
def cg.k{k:Key}(e:H a∣.dK b):cg H a (kV k) (cf b k):= .inl %[b,k,.inl e,rfl|rfl]
def gX.k{k:Key}(e:H a∣.dK b)(c: ~~~b<ku):gX H a (kV k) v (Qa H a (.dK (dz b k v))):= .inl %[b,k,e,rfl,c|rfl]
def gX.t{c:dV (dV Key×V)}{k:dV Key}(e:H a∣.dT c)(d:H b&&&k.map kV)(f: ~~~c<ku):
 gX H a (.ref b) v (Qa H a (.dT (dz c k v))):= .inr %[c,k,b,e,rfl,d,f|rfl]
section
#version
variable{a:ij}{y v:V}{u r:hV}{o:kf V}{A:vj}{E:ZD}
def Qc.big(I:Qc X ff σ H s):Nl<⇑s:=by
 show WS (!1) ((I.mod.glob.keeps I.bk).lt)
def BO(w:A.units+1<O8)(I:Qc X ff σ H s)(g:cg H a y (fx v))(q:aY y u)(h:∀f s',Qc X ff σ H s'->aY v f->Q f s'):
 oT (MU X.prog X.w) A (To (.ref a) u) Q E s:=by
 rcases g with⟨i,k,e,j,l⟩|⟨i,k,b,e,j,B,l⟩
 .subst j;let%[z,C,vs,c|m]:=pF I.hok e;let%[f,hw|d]:=iB.some_of (l▸c.val k);show wpAny_getItem_of (pE q) m.mapOf hw (h f _ (I.tok _) d)
 .subst j;cases(q);let%[z,C,xs,c|m]:=wI I.hok e;let%[f,hw|d]:=iB.some_of (l▸c.val k);let%[p,G|n]:=zz.mp hw;show wpAny_getItem_heap (P0 w) (pG I.hok B) m G ?_;rw[n];show h f _ (I.tok _) d
def d_in(n:A.units+1<O8)(I:Qc X ff σ H s)(g:cg H a y o)(m:aY y u)(h:∀s',Qc X ff σ H s'->Q (.bool o.isSome) s'):
 oT (MU X.prog X.w) A (pw .In u (.ref a)) Q E s:=by
 rcases g with⟨d,k,e,f,l⟩|⟨d,k,b,e,f,p,l⟩
 .subst f;let%[z,i,vs,c|j]:=pF I.hok e;show wpAny_in_of (pE m) i j.mapOf ?_;rw[<-(c.val k).isSome_eq,<-l];show h _ (I.tok _)
 .subst f;cases(m);let%[z,i,xs,c|j]:=wI I.hok e;show wpAny_in_heap (P0 n) (pG I.hok p) i j ?_;let q:=(c.val k).isSome_eq;rw[VZ]at q;rw[<-q,<-l];show h _ (I.tok _)
def Gu(n:A.units+1<O8)(I:Qc X ff σ H s)(g:cg H a y o)(m:aY y u)(h:∀s',Qc X ff σ H s'->Q (.bool (!o.isSome)) s'):
 oT (MU X.prog X.w) A (pw .NotIn u (.ref a)) Q E s:=by
 rcases g with⟨d,k,e,f,l⟩|⟨d,k,b,e,f,p,l⟩
 .subst f;let%[z,i,vs,c|j]:=pF I.hok e;show wpAny_notIn_of (pE m) i j.mapOf ?_;rw[<-(c.val k).isSome_eq,<-l];show h _ (I.tok _)
 .subst f;cases(m);let%[z,i,xs,c|j]:=wI I.hok e;show wpAny_notIn_heap (P0 n) (pG I.hok p) i j ?_;let q:=(c.val k).isSome_eq;rw[VZ]at q;rw[<-q,<-l];show h _ (I.tok _)
def oX(I:Qc X ff σ H s)(d:Mut (H a))(e:tI a s.heap h')(f:∃q,h'.get? a∣q)(new:cN X.prog X.w (Qa H a c) h' a c):
 Qc X ff σ (Qa H a c) {s with heap:=h',toks:=t'}:=
 I.write d (.inl rfl) (λb q g z=>(e.2 b g).trans z) f new
def y9{P:nz}(z: ~~~b<=ku)(d:(a==Nl)=fS)(c:KV b vs)(e:h'.DictOf (aX P w) a vs):
 cN P w H' h' a (.dK b):=%[z,d,vs,c|e]
def BP(N:A.units+1<O8)(I:Qc X ff σ H s)(g:gX H a y v H')(G:aY y u)(J:aY v r)(h:∀s',Qc X ff σ H' s'->Q () s'):
 oT (MU X.prog X.w) A (setItem (.ref a) u r) Q E s:=by
 rcases g with⟨d,k,e,m,l,n⟩|⟨d,k,b,e,m,L,l,n⟩
 .subst m n;let%[z,p,vs,f|w]:=nQ I.hok e;let O: ~~~vs<=ku:= ~~~f▸z;let B: ~~~(dz d k v)<=ku:=by let:=g9 d k v;lia
  show wpAny_setItem_pairs (pE G) w λh' i C=>h _ (oX I (e▸Mx) C (let⟨q,_,_,j,_⟩:=i;%[q|j]) (y9 B p (f.put k J) i))
 .subst m n;cases(G);let%[z,p,xs,f|w]:=HQ I.hok e;let O: ~~~xs<=ku:=(Paired.length f)▸z;let B: ~~~(dz d k v)<=ku:=by let:=g9 d k v;lia
  show wpAny_setItem_heap (P0 N) (pG I.hok L) w λh' i C=>h _ ?_
  let%[q,es,T,j,U,Y,h4,_|h5]:=i;show oX I (e▸Mx) C %[q|j] %[B,p,_,(f.put k L J).keeps λc ys M=>?_,q,es,T,j,U,Y,h4|h5];rw[av (pA M e (λz=>nomatch z))];show M
end
abbrev Jw(i:wh):Prop:=∀a b,S4 i fS a b=operate [a,b] (To a b)
def Gw{T id:Mv}
 (l:PZ (.type T) "__getitem__"=pure (fx (.builtin id))) (m:Jw a)
 (h:↥A (MO c env) (λo e=>↥A (MO a env) (λi b=>b.TypeIs o T/\↥A (To o i) Q E b) E e) E s):
 ↥A (MO (.Subscript c a pos) env) Q E s:=by
 show TY (J5 h (λo e g=>J5 g (λi b d=>?_) λ_ _ x=>x) λ_ _ x=>x);let%[n|d]:=d;show Z2 (Z2 (Pt n l ?_));let fin:↥A (S4 a fS o i) (λr f=>↥A (letTemporaryGo c o r>>= λ_=>pure r) Q E f) E b:=by
  rw[m o i];show wpAny_operating (J5 d (λr f j=>Z2 (wpAny_letTemporaryGo (Z3 j))) λ_ _ x=>x)
 first
  | show Z3 (Z2 fin)
  | lia
  | lia
def wJ{X:Cx}(I:Qc X ff f H s)(g:cg H a y o):s.TypeIs (.ref a) "dict":=by
 rcases g with⟨c,k,e,_,_⟩|⟨c,k,b,e,_,_,_⟩
 .let%[_,_,vs,_|d]:=pF I.hok e;show d.typeIs
 .let%[_,_,xs,_|d]:=wI I.hok e;show d.typeIs
abbrev Dv(d ty:TE):TE:=λb H Q=>d b H λx e=>ty b e λy c=>asR x λa=>∃v,cg c a y (fx v)/\Q v c
abbrev Gx(ty d:TE):TE:=λb H Q=>ty b H λy e=>d b e λx c=>asR x λa=>∃o,cg c a y o/\Q (.bl o.isSome) c
abbrev vg(ty d:TE):TE:=λb H Q=>ty b H λy e=>d b e λx c=>asR x λa=>∃o,cg c a y o/\Q (.bl (!o.isSome)) c
abbrev pH(d ty e:TE):TS:=λD b H=>e b H λv f=>d b f λx g=>ty b g λy h=>asR x λa=>∃c,gX h a y v c/\D.nx b c
section
variable{X:Cx}{o i e value:wh}{pos pos' tpos:Pos}{td ty tv:TE}
def Gy(f:X.A.units+1<O8)(j:PE X o td)(hi:PE X i ty)(l:Jw i):PE X (.Subscript o i pos) (Dv td ty):=by
 intro ff s c H Q I h;show Gw PySem.F.slot_dict_getitem.lookup l (thP (j ff s c H _ I h) λu m x n p q r=>thP (hi ff m c n _ p r) λC E y w d z h=>?_);let%[a,rfl,v,g|A]:=aU h;obtain rfl:u=kG a:=q;show%[wJ d g|BO f d g z λG J B b=>%[v,w,B,b|A]]
def Dw(c:X.A.units+1<O8)(hi:PE X i ty)(d:PE X o td):PC X .In i o (Gx ty td):=by
 intro ff s b H Q I h;show thP (hi ff s b H _ I h) λA f y j l m n=>thP (d ff f b j _ l n) λu B x p q r h=>?_
 let%[a,rfl,v,g|w]:=aU h;obtain rfl:u=kG a:=r;show d_in c q g m λC z=>%[.bl v.isSome,p,z,rfl|w]
def BQ(c:X.A.units+1<O8)(hi:PE X i ty)(d:PE X o td):PC X .NotIn i o (vg ty td):=by
 intro ff s b H Q I h;show thP (hi ff s b H _ I h) λz f y j l m n=>thP (d ff f b j _ l n) λu A x p q r h=>?_
 let%[a,rfl,B,g|v]:=aU h;obtain rfl:u=kG a:=r;show Gu c q g m λC w=>%[.bl _,p,w,rfl|v]
def Gz(c:X.A.units+1<O8)(d:PE X o td)(hi:PE X i ty)(f:PE X value tv)(j:OI value (fx (.Subscript o i pos')) pos.line X.env=pure fS):
 PS X (.Assign [.Subscript o i pos'] value pos) (pH td ty tv):=by
 intro ff s b H D I h;show wpAny_Assign_Subscript (thP (f ff s b H _ I h) λr l v m n p q=>thP (d ff l b m _ n q) λu w x z A B C=>thP (hi ff w b z _ A C) λN O y Q E G h=>?_) j;let%[a,rfl,J,g|L]:=aU h;obtain rfl:u=kG a:=B;show BP c E g G p λT M=>%[b,J,M|L]
end
def Dx{P:nz}(h:v0)(a:Nl<h.objs.size):cN P w H (h.push {cls:= .type "dict",data:= .dict #[]}) h.objs.size (.dK []):=
 %[Xe _,Mp.mpr (zr (Zs a)),[],.nil|v0.DictOf.new h]
def Dy{P:nz}(h:v0)(a:Nl<h.objs.size):cN P w H (h.push {cls:= .type "dict",data:= .dict #[]}) h.objs.size (.dT []):=
 %[Xe _,Mp.mpr (zr (Zs a)),[],.nil,_,#[],0,Zj _ rfl,%[rfl,rfl|rfl],rfl,rfl|X3]
abbrev zd:TE:=λ_ H Q=>∀p,H p=eH->Q (.ref p) (Qa H p (.dK []))
abbrev ze:TE:=λ_ H Q=>∀p,H p=eH->Q (.ref p) (Qa H p (.dT []))
section
variable{X:Cx}{pos:Pos}
def Dz:PE X (.Dict [] [] pos) zd:=λff s a H Q I h=>
 WH %[.ref ⇑s,_,I.laid (λ_ _ q=>Z7 _ q) (Zi _) (Dx s.heap I.big),rfl|h _ (I.hok.fresh (Zi _))]
def DC:PE X (.Dict [] [] pos) ze:=λff s b H Q I h=>
 WH %[.ref ⇑s,_,I.laid (a:=⇑s) (o:= .dT []) (t':=s.toks) (λ_ _ q=>Z7 _ q) (Zi _) (Dy s.heap I.big),rfl|h _ (I.hok.fresh (Zi _))]
end
abbrev i4(a more:dV (Key×V)):dV (Key×V):=more.foldl (λacc b=>dz acc b.1 b.2) a
def KV.merge:∀{more:dV _} {rs:dV _} {a:dV _} {vs:dV _},KV more rs->KV a vs->KV (i4 a more) (merged vs rs):=by
 intro more rs a vs r
 induction r generalizing a vs with
 | nil=>intro q;show q
 | @cons p q ps qs h t b=>
   intro c;let e:KV (dz a p.1 p.2) (stored vs q.1 q.2):=by
    let:=c.put p.1 h.2;show h.1▸this
   show b e
def kK:∀more a,~~~(i4 a more)<= ~~~a+ ~~~more
 |[],a=>by change ~~~a<= ~~~a+0;lia
 | p::r,a=>by
   let b:=kK r (dz a p.1 p.2);let c:=g9 a p.1 p.2;change(i4 _ r).length<=_
   grind
structure M1 (X:Cx) (o:wh) (m:iv) (apos:Pos) (e:wh) (cpos:Pos):Prop where
 base:M9 o m X.env (MO o X.env)=MO o X.env
 few:((Nm cpos (ri [e] X.env)).all (λx=>!x.1)&&(O3 cpos (ND [] X.env)).all (λx=>x.1.isSome)
  && decide (~~~([e])+ ~~~([]:dV Ox)+(if([]:dV Ox).isEmpty then 0 else 1)<30))=fI
 line:(apos.endLine==cpos.line)=fI
 trees:Nm cpos (ri [e] X.env)=[(fS,MO e X.env)]
structure M2 (X:Cx) (o:wh) (m:iv) (apos:Pos) (e f:wh) (cpos:Pos):Prop where
 base:M9 o m X.env (MO o X.env)=MO o X.env
 few:((Nm cpos (ri [e,f] X.env)).all (λx=>!x.1)&&(O3 cpos (ND [] X.env)).all (λx=>x.1.isSome)
  && decide (~~~([e,f])+ ~~~([]:dV Ox)+(if([]:dV Ox).isEmpty then 0 else 1)<30))=fI
 line:(apos.endLine==cpos.line)=fI
 trees:Nm cpos (ri [e,f] X.env)=[(fS,MO e X.env),(fS,MO f X.env)]
section
#version
variable{a:ij}{y d:V}{u r:hV}{o:kf V}{A:vj}{E:ZD}
variable{o:wh}{e:wh}{f:wh}{apos:Pos}{cpos:Pos}{td:TE}{ty:TE}{tx:TE}
end
end _LL
namespace _AT
open PySem PySem.W PySem.Calls PyProof.Rows
def oJ{P:Params}:∀(c:ZL) (vs:ZF),WellAll P h vs (c.map W6)->UZ vs c:=by
 intro c
 induction c with
 | nil=>
   intro vs w;cases w;show .nil
 | cons n c d=>
   intro vs w;cases w with
   | cons a b=>
     cases a;show .cons _ _ (d _ b)
def BR{l:Wt}(o:l.most∣n){P:Params}
 (b:l.row.toRowW.claim.pre args=fI) (j:WellAll P h e args):
 ∃a vs c,e=[kG a]/\args=[WData.list (c.map W6)]/\h.get? a=fx {cls:= .type "list",data:= .seq vs.toArray}/\UZ vs c/\ ~~~c<=n:=by
 let m:l.pre.holds [] _=fI:=(pre_splitW b).2;let%[d,r,rfl,p|q]:=hasAllW_cons ((pre_splitW b).1);obtain rfl:=hasAllW_nil q;let%[xs,rfl|s]:=hasW_list p;let%[c|rfl]:=items_int s;let f: ~~~c<=n:=by
  unfold Wt.pre at m;let i:=by
   let i:=(holds_andW m).1;rw[o]at i;show i
  let y:=condW_of i (w_not (w_lt w_lit (w_len_list (w_arg rfl))))
  grind
 cases j with
 | cons u v=>
   cases v;cases u with
   | list w g=>show%[_,_,c,ρ,ρ,w,oJ c _ g|f]
def BS(l:Wt)(args:dV WData):l.row.toRowW.claim.post args (.bool fI) args=fI:=
 postW_of
  (by first|rfl|simp|lia)
  (w_eq_bool (w_res rfl) w_lit) rfl
def attach_call{l:Wt}{n:hH}{q:nz}
 (I:l.most∣n) (u:d.params.defaults=[])
 (call:∀(w:vk) (s₀ b:kj) (mg v:ZC) (h:ij) (o:NQ) (y p c:hV) (a:ij) (vs:ZF) (s:ZL),
  Ground q e [] J w s₀ mg v b.heap->L w b.heap->
  b.heap.get? h∣o->o.data= .func (docDef d.name d.params d.body d.scope y p c)->b.heap.CodeRec p d.name->mg d.name∣.ref h->
  b.heap.get? a=fx {cls:= .type "list",data:= .seq vs.toArray}->UZ vs s-> ~~~s<=n->b.gens= #[]->
  Pm (MU l.prog w) Tp (.call (.ref h) %[[.ref a]|[]]) (λr s'=>r= .ok (.ret (.bool fI))/\OldK b.heap s'.heap/\s'.os=b.os/\Qo s'.gens) b):
 WalkO q e J L l.row.toRowW d [] (λf vs=>PySem.call f vs):=by
 intro w s₀ b mg v G Y h o y p c M kV N O z C A Q args E as i H T B U;obtain rfl:M= .none:=Dflts.none C u;obtain rfl:kV= .none:=Dflts.noKw C;let%[a,vs,s,rfl,rfl,j,g|m]:=BR I i B;show enter_call (codeAny_mono (call w s₀ b mg v h o y p c a vs s G Y N (fd_plain O) z A j g m Q) λr s' hq=>?_);let%[rfl,h2,h3|h4]:=hq;show%[.inl %[.bool fI,.bool fI,[],ρ,λ_=>rfl,.bool fI,BS l _|λ_=>%[Qq|λ_ hm=>(nomatch hm)]],h2,h3|h4]
section
#where
end
end _AT
namespace _LL
open PySem PySem.Spec PyProof.Rows
def ti:∀{vs:ZF} {a:ZL},UZ vs a->aQ (a\4) vs
 | _,_,.nil=> .nil
 | _,_,.cons n t h=> .cons %[t|rfl] (ti h)
abbrev GA(H:Hp):Prop:=∀b,H b=eH\/∃o xs,H b∣.frz o (.lst xs)
def law_call{P:nz}{K:ZA}{mg I:ZC}{vs:ZF}
 (U:K.In c.heap) (p:c.heap.Ns vr mg) (g:c.heap.Ns V2 I) (J:∀x:iv,x≠"__name__"->I x=M8 x) (y:c.heap.NoLimit) (hg:c.gens= #[])
 (L:c.heap.get? a=fx {cls:= .type "list",data:= .seq vs.toArray}) (hi:UZ vs M) (Y: ~~~M<=ku) (hr:bB k Tp)
 (F:∀base:v0,K.In base->base.Ns vr mg->eO P w K mg base CX k fa fd [x] sp) (l:∀(s:kj) (u:hV),Tu s fd %[[u]|[]] [(x,u)])
 (N:∀H:Hp,GA H->Qb K H a (M\4)->sp [.ref a] H (λv _=>v= .bl fI) λ_ _ _=>G2)
 (O:∀H e s',CX [] H c (λ_ _ _=>G2) e s'->G2):
 Pm (MU P w) Tp (.call (.ref fa) %[[.ref a]|[]]) (λr s'=>r= .ok (.ret (.bool fI))/\OldK c.heap s'.heap/\s'.os=c.os/\Qo s'.gens) c:=by
 let rv:=ti hi;let j:∀H,GA H->Qb K H a (M\4)->HOk P w H c.heap->(∀b,H b≠eH->b=a)->(H a≠eH->K.lookup a=eH)->
  Pm (MU P w) Tp (.call (.ref fa) %[[.ref a]|[]]) (λr s'=>r= .ok (.ret (.bool fI))/\OldK c.heap s'.heap/\s'.os=c.os/\Qo s'.gens) c:=by
  intro H hO hS A hA hK;let f:∀{b:ij} {o:NQ},c.heap.get? b∣o->H b=eH->(Bz c.heap H).get? b∣o:=λe n=>CS e n
  let Q:∀{b:ij} {o:NQ} {es:nY SZ} {G:hH},c.heap.get? b∣o->o.data= .dict es G->H b=eH:=λ{b o es G} e d=>by
   grind
  let i:∀{b:ij} {m:ZC},c.heap.Ns b m->(Bz c.heap H).Ns b m:=λ{b m} ⟨o,es,G,e,d,r⟩=>%[o,es,G,f e (Q e d),d|r]
  let B:=λb o e=>f (U b o e) (by
   grind)
  show codeAny_mono ((F _ B (i p)).run Tp [] c H _ _ [.ref a] _ _ hr %[rfl,%[B,i p,%[I,i g|J]|let⟨mc,h1,h2⟩:=y;%[mc,i h1|h2]],λb o e=>FX e,T1 (BA _ _),trivial,λb g=>m4 (show b∈([])from g) ∅,A|.of_eq hg] (l c _) (.cons rfl .nil) (N H hO hS)) λr s' h=>?_
  cases r with
  | error e=>show(O H e s' h).elim
  | ok fl=>
    cases fl with
    | next=>show Mq h
    | brk=>show Mq h
    | cont=>show Mq h
    | ret u=>
      let%[v,H',os,C,un,E,r'|q]:=h;subst q;obtain rfl:u=WQ fI:=r';show%[ρ,OldK.of_keep λb o e=>?_,os|C];cases q:H b with
      | none=>show un.keep b o e q (by intro z;show m4 (show b∈([])from z) ∅) ∅
      | some u=>
        rcases hO b with z|⟨ob,xs,z⟩
        .rw[q]at z;cases z
        .let%[e1|_]:=A b _ z;let%[e2|_]:=E b _ (un.frzs b ob _ z);rw[e]at e1;cases e1;show e2
 cases T:K.lookup a with
 | some o=>
   let e:=U a o T;rw[L]at e;cases e;show j _ (λ_=> .inl rfl) (.inr %[_,vs.toArray,_,T,rfl,rfl,rfl,by rw[Zp,~~~hi];show Y|rv]) (λb u z=>!2) (λb z=>m4 rfl z) λz=>m4 rfl z
 | none=>
   show j (λb=>if b=a then fx (.frz {cls:= .type "list",data:= .seq vs.toArray} _)else eH) (λb=>?_) (.inl (.inr %[{cls:= .type _,data:= .seq vs.toArray}|jg rfl])) (λb u z=>?_) (λb z=>?_) λ_=>T
   .by_cases g:b=a
    .show .inr %[_,_|jg g]
    .show .inl (hX g)
   .by_cases g:b=a
    .let z':=(jg g).symm.trans z;cases z';subst g;show%[L,by rw[Z6];show Y,vs,_,rv|L]
    simp_all
   .by_cases g:b=a
    .show g
    .show m4 (hX g) z
def walk_of{l:PySem.W.OpenLaw}{J:(iv->kf hV)->v0->Prop}{E:vk->v0->Prop}{d:DefRec}{K:Params->ZA}{CX:vk->CXT}{sp:vk->Sp}{x:iv}
 (L:l.most∣n) (p:n<=ku) (r:d.params.defaults=[]) (M:bB k Tp)
 (N:∀(w:vk) (h:v0),E w h->(K w.params).In h)
 (F:∀(w:vk) (mg:ZC) (j:ij) (h:v0),(K w.params).In h->h.Ns vr mg->mg d.name∣.ref j->
  ∃y:Oa,(∀(s:kj) (u:hV),Tu s y %[[u]|[]] [(x,u)])/\
   ∀base:v0,(K w.params).In base->base.Ns vr mg->eO l.prog w (K w.params) mg base (CX w) k j y [x] (sp w))
 (z:∀(w:vk) (H:Hp) (a:ij) (m:ZL),~~~m<=n->GA H->Qb (K w.params) H a (m\4)->sp w [.ref a] H (λv _=>v= .bl fI) λ_ _ _=>G2)
 (A:∀(w:vk) (H:Hp) (s:kj) (e:hV) (s':kj),CX w [] H s (λ_ _ _=>G2) e s'->G2):
 PySem.W.WalkO q B J E l.row.toRowW d [] (λf vs=>PySem.call f vs):=by
 show _AT.attach_call L r λw s₀ g mg mb j o pm cd O a vs m G Y ho hd Q C i c b T=>?_
 let I:=N w _ Y;let%[y,U|hF]:=F w mg j _ I G.T.g C;show law_call I G.T.g G.T.b G.T.builtins G.T.nolimit T i c (md b p) M hF U (λH hO hS=>z w H a m b hO hS) λH e s'=>A w H g e s'
abbrev kh(s:yc)(j:hH):yc:=match s with
 | .ClassDef _ _ _ a _ _ _ _ _ _ _=>a.getD j (.Pass %[0,0,0|0])
 | _=> .Pass %[0,0,0|0]
abbrev dL(s:yc):Arguments:=match s with
 | .FunctionDef _ a _ _ _ _ _ _ _ _=>a
 | _=>{posonlyargs:=[],args:=[],vararg:=eH,kwonlyargs:=[],kw_defaults:=[],kwarg:=eH,defaults:=[]}
abbrev bQ(s:yc):dV yc:=match s with
 | .FunctionDef _ _ b _ _ _ _ _ _ _=>b
 | _=>[]
abbrev ar(s:yc):Rw:=match s with
 | .FunctionDef _ _ _ _ _ _ a _ _ _=>a
 | _=>{kind:= .function,names:=[],isGenerator:=fS,isCoroutine:=fS}
noncomputable abbrev CX0:CXT:=λ_ _ _ _ _ _=>G2
noncomputable abbrev E0:XK:=λ_ _ _=>G2
def DD{X:Cx}:iZ CX0 X E0:=λ_ _ _ _ _ _ _ h=>h.elim
structure Fun (K:ZA) (x qual:iv) (st:yc) (f:ij) (fd:Oa):Prop where
 ex:∃oc od kV doc pm an cdv ct osl,
  fd=SO x qual (dL st) (bQ st) (ar st) .none kV doc pm an cdv ct/\K.lookup f=fx %[oc,od,.func fd|osl]/\Rt K cdv qual=fI
 kp:OD K (.ref f)=fI
section
variable{P:nz}{w:vk}{K:ZA}{mg:ZC}{base:v0}
def Fun.ok{x a:iv}{st:yc}{f:ij}{g:Oa}{N ps:ZB}{k:hH}{sp:Sp}(F:Fun K x a st f g)(S:ay N ps (ar st))(len:∀vs H Q E,sp vs H Q E-> ~~~vs= ~~~ps)
 (c:∀b (A:vj) (outer:dV Env) s H (vs:dV V) Q E,bB k (A.deeper (M5 a (ar st) ⇑s f b))->sp vs H Q E->
  ∃t,PSs (gc CX0 P w K mg base N a (ar st) f b A outer s H E).nox (bQ st) t/\t {nx:=λ_ H'=>Q .non H',rt:=Q} (start N vs) H):eO P w K mg base CX0 (k+1) f g ps sp:=by
 let%[m,od,kV,i,n,o,b,ct,j,rfl,lk|d]:=F.ex;show HN lk d S len λA outer s H vs Q E l e=>?_
 let%[t,h|q]:=c b A outer s H vs Q E l e;show%[t,h.nox|q]
def Fun.binds{st:yc}(F:Fun K x c st f g)
 (h:∀(kV a d:hV) (e:ZI) (b ct:hV) (us:ZF),~~~us= ~~~ps->bindArgs (SO x c (dL st) (bQ st) (ar st) .none kV a d e b ct) %[us|[]]=pure (ps.zip us)):d6 K g ps []:=by
 let%[l,od,kV,a,d,e,b,ct,i,rfl,lk|j]:=F.ex;show .all (h kV a d e b ct)
def eP{st:yc}{kV d e b ct:hV}(l:K.lookup f=fx %[i,od,.func (SO x a (dL st) (bQ st) (ar st) .none kV d e h b ct)|g])
 (c:Rt K b a=fI) (k:OD K (.ref f)=fI):Fun K x a st f (SO x a (dL st) (bQ st) (ar st) .none kV d e h b ct):=%[%[i,od,kV,d,e,h,b,ct,g,rfl,l|c]|k]
variable{X:Cx}
def pv(i:hH)(b:X.N[i]?∣x)(c:Vis X.env.scope x)(d:(x==("__debug__":iv))=fS)
 (a:(x==("__classdict__":iv))=fS):PE X (.Name x pos) (rH i):=CU b c d a
end
def rL{A B:Prop}(h:B):if fS=fI then A else B:=by
 simp_all
def bz{c A B:Prop}[Ob c](a:c->A)(b: ¬ c->B):if c then A else B:=by
 simp_all
abbrev ah(H H':Hp):Prop:=∀b o,H b∣o->H' b∣o
def ah.refl(H:Hp):ah H H:=λ_ _ h=>h
def ah.trans{H d e:Hp}(a:ah H d)(b:ah d e):ah H e:=λc o h=>b c o (a c o h)
def ah.free{H H':Hp}(e:ah H H'){l:ij}(h:H' l=eH):H l=eH:=by
 cases q:H l with
 | none=>rfl
 | some o=>
   rw[e l o q]at h;cases h
def ah.seq{K:ZA}(e:ah H H')(h:Qb K H a xs):Qb K H' a xs:=by
 rcases h with(h|⟨o,h⟩)|h
 .show .inl (.inl (e _ _ h))
 .show .inl (.inr %[o|e _ _ h])
 .show .inr h
section
end
section
variable{κ:Type}[Mw κ]
def GB{a:dV (κ×V)}(h:cf a k∣v):k∈a\1:=by
 let q:(a.any λb=>decide (b.1=k))=fI:=by
  rw[jG,h]
  all_goals rfl
 simp_all
def oY:∀{l:dV κ} {k:κ},l.Nodup-> ¬ k∈l->(l++[k]).Nodup
 |[],k,_,_=>by simp
 | a::r,k,h,b=>by
   let%[c|d]:=Nw.mp h;show Nw.mpr %[λm=>?_|oY d λm=>b (Yw.mpr (Or.inr m))];rcases Xm m with q|q
   .show c q
   .show b (Yw.mpr (Or.inl (Xn q).symm))
end
abbrev pJ(env:Env):dV (iv×Mb)->dV (iv×ij)->dV (iv×ij)
 |[],acc=>acc
 |(n,k)::r,acc=>pJ env r (if k= .free then(n,(env.cells.lookup n).getD 0)::acc else acc)
def pK:∀(names:dV (iv×Mb)) (acc:dV (iv×ij)),(∀y∈names,y.2= .free->∃c,env.cells.lookup y.1∣c)->
 (forIn names acc λx r=>match x with
  |(name,kind)=>if(kind==MZ)=fI then do let a<-cellOf env name;pure (OO ((name,a)::r))else pure (OO r):Sem (dV (iv×ij)))=pure (pJ env names acc)
 |[],acc,_=>rfl
 |(n,k)::r,acc,h=>by
  let d:=λacc=>pK r acc λy f=>h y (Zk _ f)
  rw[R4];by_cases b:k= .free
  .subst b;let%[c|e]:=h _ Zm rfl;let g:cellOf env n=pure c:=by unfold cellOf;rw[e]
   simp only[SS,Pk,g,pure_bind];rw[d];change _=pure (pJ env r _);rw[jg rfl,e]
   all_goals rfl
  .let i:(k==MZ)=fS:=↑b
   simp only[i,Zz,N7,pure_bind];rw[d];change _=pure (pJ env r _);rw[hX b]
def GC(h:∀y∈a.names,y.2= .free->∃c,env.cells.lookup y.1∣c):closureFor a env=pure (pJ env a.names []):=by
 unfold closureFor;simp only[bind_pure];show(pK a.names [] h)
def wK:∀(names:dV (iv×Mb)) (acc:dV (iv×ij)),(∀y∈names,y.2= .free->∃c,env.cells.lookup y.1∣c)->
 (∀y d,acc.lookup y∣d->env.cells.lookup y∣d)->(pJ env names acc).lookup x∣c->env.cells.lookup x∣c
 |[],acc,_,a,e=>a x c e
 |(n,k)::r,acc,h,a,e=>by
  show wK r _ (λy b=>h y (Zk _ b)) (λy d q=>?_) e;by_cases f:k= .free
  .rw[jg f,Ym]at q;let%[g|i]:=h _ Zm f;cases b:y==n with
   | true=>
     simp_all
   | false=>rw[b]at q;show a y d q
  .rw[hX f]at q;show a y d q
def pL:∀(names:dV (iv×Mb)) (acc:dV (iv×ij)),(∃c,acc.lookup x∣c)->∃c,(pJ env names acc).lookup x∣c
 |[],_,h=>h
 |(n,k)::r,acc,h=>by
  show pL r _ ?_;by_cases a:k= .free
  .rw[jg a,Ym];cases b:x==n with
   | true=>show%[_|ρ]
   | false=>show h
  .rw[hX a];show h
def pM:∀(names:dV (iv×Mb)) (acc:dV (iv×ij)),(x,MZ)∈names->∃c,(pJ env names acc).lookup x∣c
 |[],_,h=>by simp at h
 |(n,k)::r,acc,h=>by
  rcases Yw.mp h with e|h
  .show pL r _ ?_
   simp_all
  .show pM r _ h
abbrev cz(X:Cx)(a:Rw)(d:ZB)(b:kj)(c:Hp)(e:dV ij):Cx:=
 {X with
  N:=d
  s₀:=b
  H₀:=c
  env:=compEnvC a (MJ (⇑b+1) a.names (pJ X.env a.names [])) ⇑b X.env
  outer:=X.stack
  stack:=X.stack
  ex:=e
  fn:=λx=>decide (a.names.lookup x∣.cell)
  pn:=[]
  xe:=λ_ _=>G2}
structure aL (X:Cx) (scope:Rw) (N':ZB) (cap:dV (hH×hH)):Prop where
 kind:scope.kind= .function
 cell:∀y∈scope.names,y.2= .cell->scope.names.lookup y.1∣.cell
 loc:∀y∈scope.names,y.2= .local->scope.names.lookup y.1∣.local
 free:∀y∈scope.names,y.2= .free->X.env.kindOf y.1∣.cell\/X.env.kindOf y.1∣.free
 capt:∀p∈cap,∃x,N'[p.1]?∣x/\X.N[p.2]?∣x/\scope.names.lookup x∣.free
abbrev tz(n:hH)(a:dV (hH×hH))(b:St):St:=(o0 n).map λj=>(a.lookup j).bind λi=>(b[i]?).join
def nS:∀{l:dV _} {j i:hH},l.lookup j∣i->(j,i)∈l
 |[],_,_,h=>by simp at h
 |(a,b)::r,j,i,h=>by
  rw[Ym]at h;cases c:j==a with
  | true=>
    simp_all
  | false=>rw[c]at h;show Zk _ (nS h)
def nT{env:Env}{names:dV (iv×Mb)}{x:iv}{k:Mb}(h:(names.map λ(n,k)=>if(k==MZ&&env.scope.kind== .function&&env.kindOf n==fx .cell)then(n,OG)else(n,k)).lookup x∣k)
 (a:k= .cell\/k= .free):(x,MZ)∈names\/(x,OG)∈names:=by
 let m:=PySem.mem_of_lookup h
 grind
def fN:∀names n acc,MJ n names acc=MJ n names [] ++acc
 |[],_,_=>rfl
 |(x,k)::r,n,acc=>by
  unfold MJ
  split
  .rw[fN r _ _,fN r _ [(x,n)],Ze];rfl
  .show fN r n acc
def m8:∀{names:dV (iv×Mb)} {n:hH},(x,c)∈MJ n names []->(x,OG)∈names
 |[],_,h=>nomatch h
 |(y,k)::r,n,h=>by
  unfold MJ at h
  split at h
  .rw[fN]at h;rcases Xm h with q|q
   .show Zk _ (m8 q)
   grind
  .show Zk _ (m8 h)
def nU(h:(MJ n names acc).lookup x∣c):(x,c)∈MJ n names []\/((MJ n names []).lookup x=eH/\acc.lookup x∣c):=by
 rw[fN,Uy]at h;cases e:(MJ n names []).lookup x with
 | none=>rw[e]at h;show .inr %[rfl|h]
 | some d=>
   rw[e]at h;let:=↑h
   show this▸ .inl (PySem.mem_of_lookup e)
def lM{env:Env}:∀{names:dV (iv×Mb)} {x:iv},names.lookup x∣.free->
 (names.map λ(n,k)=>if(k==MZ&&env.scope.kind== .function&&env.kindOf n==fx .cell)then(n,OG)else(n,k)).lookup x∣.cell\/
 (names.map λ(n,k)=>if(k==MZ&&env.scope.kind== .function&&env.kindOf n==fx .cell)then(n,OG)else(n,k)).lookup x∣.free
 |[],_,h=>by simp at h
 |(n,k)::r,x,h=>by
  let c:= @lM env r x;simp only[Yq];cases a:x==n with
  | true=>
    rw[Ym,a]at h;let d:=Za h;subst d;by_cases b:((MZ==MZ)&&env.scope.kind== .function&&env.kindOf n==fx .cell)=fI
    .rw[jg b,Ym,a];show .inl rfl
    .rw[hX b,Ym,a];show .inr rfl
  | false=>
    rw[Ym,a]at h;by_cases b:(k==MZ&&env.scope.kind== .function&&env.kindOf n==fx .cell)=fI
    .rw[jg b,Ym,a];show(c h)
    .rw[hX b,Ym,a];show(c h)
section
#version
def Qc.kindL(I:Qc X ff σ H s)(h:X.env.kindOf x∣.cell\/X.env.kindOf x∣.free):∃c,X.env.cells.lookup x∣c:=I.ok.has x h
def Qc.block{a:Rw}{E:ZB}{fp:dV ij}{f:v0}{tk:hH}(S:aL X a E n)(I:Qc X ff σ H s)(Q:∀b∈fp,iY X ff H b)(L:∀b∈fp,b<⇑s)
 (hn:f.Ns ⇑s (λ_=>eH)) (B:∀b u,s.heap.get? b∣u->f.get? b∣u) (nc:CellsOk f (⇑s+1) (MJ (⇑s+1) a.names [])):
 Qc (cz X a E s H fp) [] (tz E.length n σ) H {s with heap:=f,toks:=tk}:=by
 let h:∀x c,(pJ X.env a.names []).lookup x∣c->X.env.cells.lookup x∣c:=λx c e=>wK a.names [] (λy hy hk=>I.kindL (S.free y hy hk)) (λ_ _ q=>by simp at q) e
 let o:∀x c,(MJ (⇑s+1) a.names (pJ X.env a.names [])).lookup x∣c->((x,c)∈MJ (⇑s+1) a.names []/\f.IsCell c eH/\⇑s+1<=c)\/(X.env.cells.lookup x∣c/\c<⇑s):=λx c e=>by
  rcases nU e with q|⟨_,q⟩
  .show .inl %[q|nc.empty x c q]
  .let q':=h x c q;let%[v,J,M|_]:=I.cell x c q';show .inr %[q'|Zu M]
 show%[%[I.ok.mod,S.kind,I.ok.glob,I.ok.blt,Zi _,λx y c h1 h2=>?_,λx hx=>?_,λx c hq e=>?_,I.ok.hd,I.ok.frames,.inl rfl,λb g=>%[?_|λx c e=>?_],I.bs,
  md I.ok.bsz I.sz,λb u e g=>?_,λb g T=>?_,I.stack|I.stkFree],ρ,I.bare,Un.kept B,%[_,hn|λj x v e1 e2 e3=>?_],λx c e=>?_,I.hok.fresh (Zi _),λx c e=>?_,λp hp=>?_,I.hok.kept B|?_]
 .rcases o x c h1 with⟨q1,_,q2⟩|⟨q1,q2⟩<;> rcases o y c h2 with⟨r1,_,r2⟩|⟨r1,r2⟩
  .show name_of_addr nc.apart q1 r1
  .show m4 r2 (R5 (md (Yg _) q2))
  .show m4 q2 (R5 (md (Yg _) r2))
  .show I.ok.inj x y c q1 r1
 .let:(x,MZ)∈a.names\/(x,OG)∈a.names:=by
   rcases hx with q|q
   .show nT q (.inl rfl)
   .show nT q (.inr rfl)
  show Qj.mp (Ru a.names _ _ ?_);rcases this with q|q
  .show .inr (Qj.mpr (pM a.names [] q))
  .show .inl (S.cell _ q rfl)
 .rcases nU e with q|⟨q,_⟩
  .let:=(nc.empty x c q).2;change ⇑s<=c
   lia
  .let:=Ru a.names (⇑s+1) [] (.inl (Zo hq));rw[q]at this;cases this
 .show Zs (L b g)
 .rcases o x c e with⟨_,_,q⟩|⟨q,_⟩
  .show λz=>m4 (L b g) (R5 (md (Yg _) (z▸q)))
  .show(Q b g).2.2.2.2.1 x c q
 .rcases(Q b g).2.2.2.1 with z|z
  .show I.ok.noex b u e z
  .show m4 (Zg (Zu e) (md I.ok.bsz z)) (Xj _)
 .rcases Yw.mp (I.stkSub b T)with z|z
  .show(Q b g).2.1 z
  .show(Q b g).2.2.1 z
 ·
  let hj:∃i,n.lookup j∣i/\σ[i]?∣fx v:=by
   let A:((o0 E.length).map _)[j]?∣_:=e2;rw[Zl]at A;cases hr:(o0 E.length)[j]? with
   | none=>rw[hr]at A;cases A
   | some j'=>
     rw[hr]at A;let ab:j'=j:=by
      let:=Xl hr;let%[h1|h2]:=this;simpa using h2.symm
     subst ab;let C:((n.lookup j').bind _)∣v:=Za A;cases U:n.lookup j' with
     | none=>rw[U]at C;cases C
     | some i=>
       rw[U]at C;show%[i,ρ|?_];let Y:(σ[i]?).join∣v:=C;cases T:σ[i]? with
       | none=>rw[T]at Y;cases Y
       | some w=>rw[T]at Y;let:w∣v:=Y;rw[this]
  let%[i,U|hi]:=hj;let%[y,n1,n2|n3]:=S.capt _ (nS U);let ac:=Za (n1.symm.trans e1);subst ac;let N:=S.free _ (PySem.mem_of_lookup n3) rfl;let%[m,hm|hl]:=I.loc;let%[u,r|l]:=hl i y v n2 hi (by rcases N with q|q;show .inr (.inl q);show .inr (.inr q));show%[u,r|.inr %[?_|?_]]
  .show lM n3
  .rcases l with⟨k,_⟩|⟨_,c,G,hv⟩
   .rcases N with q|q
    .rw[k]at q;cases q
    .rw[k]at q;cases q
   .let%[c'|O]:=pM a.names [] (PySem.mem_of_lookup n3);let:=h y c' O;rw[G]at this;let e5:=Za this;subst e5;let%[J,M|hd]:=hv;show%[c,?_,J,B c J M|hd];change(MJ _ _ _).lookup y∣c;rw[fN,Uy];cases e6:(MJ _ a.names []).lookup y with
    | none=>simpa using O
    | some d=>
      let:=S.cell _ (m8 (PySem.mem_of_lookup e6)) rfl;rw[n3]at this;cases this
 .rcases o x c e with⟨_,q,_⟩|⟨q,_⟩
  .show%[eH|q]
  .let%[v,J,M|hd]:=I.cell x c q;show%[v,J,B c J M|hd]
 .rcases o x c e with⟨_,_,q⟩|⟨q,_⟩
  .show I.hok.fresh ⋯
  .show I.freeC x c q
 .show m4 (show p∈([])from hp) ∅
 .change(tz E.length n σ).length= ~~~E;unfold tz;rw[Z6,Yj]
end
abbrev PTs(X:Cx)(a:dV wh)(t:TT):Prop:=
 ∀ff s (b:St) H Q,Qc X ff b H s->t b H Q->
  (X⁻¹) (forIn a fI λc r=>if r=fI then do let ok<-SN c X.env (MO c X.env);pure (OO ok)else pure (OO r)) (TP X ff b Q) X.xe s
abbrev GD:TT:=λ_ H Q=>Q fI H
def GE{X:Cx}:PTs X [] GD:=λ_ _ _ H _ I h=>wpAny_tests_nil %[H,I|h]
def GF{X:Cx}(h:PT X c t):PTs X [c] t:=λff s a H Q I q=>wpAny_tests_one (h ff s a H Q I q)
abbrev tD(p:TI)(n:hH)(e:dV (hH×hH))(g:TG)(q:TT)(r:TE):TE:=λf H Q=>p f H λJ h=>∀D,h D=eH->∃W:hH->hH->dV V->St->Hp->Prop,
 (∃m,W 0 m [] (tz n e f) (Qa h D (.lst [])))/\∀i m ys c H',W i m ys c H'->(J.stop i H'/\Q (.ref D) H')\/
  (J.go i H'/\∀x j,J.yld i H' x j->g x c j λa s=>q a s λb l=>if b=fI then r a l λy o=>∃zs d,o D<*zs/\ ~~~zs<ku/\d<m/\W (i+1) d (ys++[y]) a (Qa o D (.lst (zs++[y])))
   else∃d,d<m/\W (i+1) d ys a l)
def GG{code:hV}
 (j:∀h',h'.Ns ⇑s (λ_=>eH)->(∀b u,s.heap.get? b∣u->h'.get? b∣u)->CellsOk h' (⇑s+1) (MJ (⇑s+1) a.names [])->
  Q (newEnv a ⇑s d (MJ (⇑s+1) a.names f) g h code (fx env) c) (s>>>h')):oT M A (newFunctionEnv a d f [] g h code (fx env) c) Q E s:=by
 show Z2 (wpAny_alloc (Z2 (wpAny_layCells _ (λname kind i=>by lia) _ _ _ _ ?_)));let ok:=cellsFrom_ok a.names (s.heap.push {cls:= .type "dict",data:= .dict #[]}) (⇑s+1) [] %[λ_ _ l=>(nomatch l)|Qq] ∅;rw[Zq]at ok;rw[Zq ..];show Z2 (Z3 (Z3 (j _ ((v0.Ns.new s.heap _).keeps (W1 _ _)) (λb u e=>W1 _ _ b u (Z7 _ e)) ok)))
def tE{X:Cx}{a:Rw}(S:aL X a N' ax)(hc:X.calm=fI)(hi:PI X tg iter wi)
 (hg:∀L M A,PG (cz X a N' L M A) tg g) (ht:∀L M A,PTs (cz X a N' L M A) a0 tc) (he:∀L M A,PE (cz X a N' L M A) a1 te)
 (hs:∀x,OZ iter X.env x=pure x) (I:Qc X ff σ H s) (h:tD wi N'.length ax g tc te σ H Q)
 (a2:∀(D C:ij) (O:Hp) (s6:kj) (fl:Flow) (m:ZC),s6.heap.Ns C m->iY X ff O C->(∀h',tI C s6.heap h'->Qc X ff σ O (s6>>>h'))->Q (.ref D) O->compPost (MU X.prog X.w) X.A X.xe use QQ (.ref D) C (.ok fl) s6):
 (X⁻¹) (comprehension (.ListComp a1 [%[tg,iter,a0|0]] a pos) a X.env b6 (newList []) fS (MO iter X.env) use) QQ X.xe s:=by
 show wpAny_comprehension_free (use:=use) rfl hs (GC (λy hy hk=>I.kindL (S.free y hy hk))) S.kind S.loc (thn (hi ff s σ H _ I h) λv s1 h1=>thn h1 λb9 l h2=>?_);let%[it,A,tn,J,H2,e,I2,T,a3,f2|R]:=h2;subst e;show ME (GG λU Y N ab=>?_);dsimp only at Y N ab ⊢;let I3:Qc X ff σ (Qa H2 ⇑l (.lst [])) {l with heap:=l.heap.push {cls:= .type "list",data:= .seq ([]:ZF).toArray}}:=I2.lnew (its:=[]) (t':=l.toks) .nil (Xe _);let hD:H2 ⇑l=eH:=I2.fresh;let al:∀b∈A,b<⇑l:=λb j=>by let%[o,ho|_]:=T.obj 0 _ a3 b j;show Zu ho
 generalize ap:({l with heap:=l.heap.push {cls:= .type "list",data:= .seq ([]:ZF).toArray}}:kj)=B at I3
 let G:B.heap=l.heap.push {cls:= .type "list",data:= .seq ([]:ZF).toArray}:=by rw[<-ap]
 let a4:⇑B=⇑l+1:=by rw[G,Zq]
 let f3:∀b∈A,iY X ff (Qa H2 ⇑l (.lst [])) b:=λb j=>%[(av (Zs (al b j)))▸(f2 b j).1|(f2 b j).2]
 let%[W,%[m0|w0]|turn]:=R _ hD;let ae:∀b u,B.heap.get? b∣u->U.get? b∣u:=G▸N;let I4:Qc (cz X a N' B (Qa H2 ⇑l (.lst [])) A) [] (tz N'.length ax σ) (Qa H2 ⇑l (.lst [])) {B with heap:=U,toks:=B.toks}:=I3.block S f3 (λb j=>a4▸Yn (al b j)) (G▸Y) ae (G▸ab);let a5:tn 0 U:=T.keep _ _ _ a3 λb j o e=>ae b o (G▸Z7 _ e)
 let ca:(cz X a N' B (Qa H2 ⇑l (.lst [])) A).env=compEnvC a _ ⇑B X.env:=rfl;let ag:∀{H':Hp},(∀b∈A,H' b=eH)->∀b∈A,iY _ [] H' b:=λhn b j=>
  %[hn b j,(I4.ok.exf b j).1,I4.ok.exfs b j,.inl j,(I4.ok.exf b j).2|λp hp=>m4 (show p∈([]:ZE)from hp) ∅]
 let an:Pm (MU X.prog X.w) X.A (.compLoop (.ListComp a1 [%[tg,iter,a0|0]] a pos) 0 (.ref it) (.ref ⇑l) (cz X a N' B (Qa H2 ⇑l (.lst [])) A).env)
  (compPost (MU X.prog X.w) X.A X.xe use QQ (.ref ⇑l) ⇑B) {B with heap:=U,toks:=B.toks}:=by
  show codeAny_loop rfl (λn s'=>∃i ys a6 H',Qc _ [] a6 H' s'/\tn i s'.heap/\(∀b∈A,H' b=eH)/\W i n ys a6 H') ?_ m0 %[0,[],_,_,I4,a5,λb j=>(f3 b j).1|w0];intro n s5 %[i,ys,ak,O,I5,bb,bc|w5];change oT _ X.A _ _ _ s5;show wpAny_noted ?_;rw[compTurn_list];show Z2 (Ph (Z2 ?_));rcases turn i n ys ak O w5 with⟨stop,q⟩|⟨go,step⟩
  .show thn (T.done (cz X a N' B (Qa H2 ⇑l (.lst [])) A) rfl rfl rfl hc i [] s5 ak O _ I5 (ag bc) bb stop) λr s6 ⟨hr,I6⟩=>?_
   subst hr;show Z3 ?_;let%[m6,bl|_]:=I6.loc;show a2 ⇑l ⇑B O s6 _ m6 bl (I2.fpOk (a4▸Yg _) I6.free) (λh' sb=>?_) q;let u6:Un (frs X.stack) A (Qa H2 ⇑l (.lst [])) O B.heap s6.heap:=I6.base;let aq:∀b u,B.heap.get? b∣u->b≠⇑B:=λb u e=>Zs (Zu e)
   let u7:Un (frs X.stack) A (Qa H2 ⇑l (.lst [])) O B.heap h':=%[λb u e n j hx=>(sb.2 b (aq b u e)).trans (u6.keep b u e n j hx),λb u e n j hx=>by
    let%[sl|q]:=u6.slot b u e n j hx;show%[sl|(sb.2 b (aq b u e)).trans q],u6.free,λb u e hx=>by
    let%[o'|q]:=u6.there b u e hx;show%[o'|(sb.2 b (aq b u e)).trans q],u6.tups,u6.frzs|u6.tbls]
   let bm:HOk X.prog X.w O h':=λb u e=>by
    let be:∀c w,O c∣w->c≠⇑B:=λc w q z=>by
     let:O ⇑B=eH:=I6.free;rw[z,this]at q;cases q
    show(I6.hok b u e).stay (λc w bt q=>(sb.2 c ?_).trans q) (λ_ q=>q) λ_ _ q=>q
    rcases bt with z|z
    .show z▸be b u e
    .show be c _ z
   show I2.call' (s':=(s6>>>h')) (ch:=A) (by change s6.os=l.os;rw[I6.os,<-ap];rfl) ((Un.laid (λb u e=>G▸Z7 _ e) (Zi _) hD).trans u7) bm I6.bare λb j=>%[(f2 b j).2.2.2.1,(f2 b j).2.1,(f2 b j).2.2.2.2.1|(f2 b j).2.2.2.2.2]
  .show thn (T.item (cz X a N' B (Qa H2 ⇑l (.lst [])) A) rfl rfl rfl hc i [] s5 ak O _ I5 (ag bc) bb go) λr s6 ⟨u,hr,h6⟩=>?_
   subst hr;show Z2 (thn h6 λ_ s7 ⟨x,H7,I7,r7,y7,as,bx⟩=>?_);let ac:∀{α:Type} {t:Sem α} {Q1:α->kj->Prop} {E2:ZD} {s':kj},(X⁻¹) t Q1 (λ_ _=>G2) s'->(X⁻¹) t Q1 E2 s':=λh=>J5 h (λ_ _ q=>q) λ_ _ f=>f.elim
   let ao:∀{E:St} {H8:Hp} {s8:kj},Qc (cz X a N' B (Qa H2 ⇑l (.lst [])) A) ([] ++uV A s7.heap) E H8 s8->
    Qc _ [] E H8 s8/\tn (i+1) s8.heap/\∀b∈A,H8 b=eH:=λ{E H8 s8} I8=>by
    show%[I8.unpinned,T.keep _ _ _ as λb j o e=>(I8.pin (b,o) (Yv _ (Yv _ (fZ j e)))).1|λb j=>?_];let%[o,e|d]:=T.obj _ _ as b j;show(I8.pin (b,o) (Yv _ (Yv _ (fZ j e)))).2.1
   show Z2 (ac (thn (hg B _ A _ s7 ak H7 x u _ (I7.pinned (ag bx) (T.obj _ _ as)) r7 (step x H7 y7)) λ_ s8 ⟨E,H8,I8,q8⟩=>Z2 (ac (thT (ht B _ A _ s8 E H8 _ I8 q8) λb s9 H9 I9 q9=>?_))));cases b with
   | false=>
     let%[m',hm|w9]:=(q9)
     let%[J1,J2|J3]:=ao I9;show Z3 %[rfl,m',hm,i+1,ys,E,H9,J1,J2,J3|w9]
   | true=>
     let q9:=(q9:te E H9 λy O=>∃zs m',O ⇑l<*zs/\ ~~~zs<ku/\m'<n/\W (i+1) m' (ys++[y]) E _)
     show Z2 (Z2 (ac (thP (he B _ A _ s9 E H9 _ I9 q9) λu2 b0 y bf b1 b2 ⟨zs,m',hz,hl,hm,b3⟩=>Z2 (ac (thP (sZ _ b0 E bf (.ref ⇑l) [y] (.ref ⇑l) [u2] (λv H'=>v= .non/\H'=Qa bf ⇑l (.lst (zs++[y]))) b1 rfl (.cons b2 .nil) %[_,hz,hl,rfl|rfl]) λu3 cd v3 ce b4 cl ⟨cm,b5⟩=>?_)))));subst b5;let%[J1,J2|J3]:=ao b4;show Z3 (Z3 %[rfl,m',hm,i+1,ys++[y],E,_,J1,J2,J3|b3])
 subst ap;show(codeAny_compStart_list an (T.self _ 0 _ _ _ a5 an))
def GH{X:Cx}(S:aL X a e f)(n:X.calm=fI)(hi:PI X l iter o)
 (p:∀b c d,PG (cz X a e b c d) l g) (r:∀b c d,PTs (cz X a e b c d) i u) (v:∀b c d,PE (cz X a e b c d) j w)
 (y:∀x,OZ iter X.env x=pure x):
 PE X (.ListComp j [%[l,iter,i|0]] a pos) (tD o e.length f g u w):=by
 intro ff s E H Q I h;show tE S n hi p r v y I h λD C z G J m A _ k q=>%[m,A|λh' B=>%[.ref D,z,k h' B,rfl|q]]
abbrev Its(z:iv):It:=⟨λi _=>i<z.cps.size,λi H x H'=>H'=H/\∃c,z.cps[i]?∣c/\x= .str ⟨#[c]⟩,λi _=>z.cps.size<=i⟩
def pN{P:nz}{K:ZA}(it:ij)(z:iv)(t:Tok):rJ P w K tg (Its z) [it] it (λi h=>h.IsStrIter it "str_ascii_iterator" z t i) where
 mem:=by simp
 obj:=λi h st b hb=>by
  let e:=↑hb
  subst e;let%[o,e,c|d]:=st;show%[o,e|λv z=>by lia]
 keep:=λi h h' st k=>by
  let%[o,e|r]:=st;show%[o,k it ∅ o e|r]
 item:=by
  intro X hP hw hK hc i ff s σ H E I hf st hg;let hlt:i<z.cps.size:=hg;let%[f0,f1,f2,f3,f4|f5]:=hf it ∅;show wpAny_pyNext_ascii_item st (c:=z.cps[i]) ∅ λh' st' sb=>?_
  let%[o,e,c|d]:=id st';show%[_,ρ|sJ e c d (!1) %[.str _,H,(I.turned (λb o hb e=>(sb.2 b hb).trans e) f0 f1 f3 f4 f5),%[_|ρ],%[ρ,_,by simp|ρ],st'|λb hb=>(hf b hb).1]]
 done:=by
  intro X hP hw hK hc i ff s σ H E I hf st hg;let hle:z.cps.size<=i:=hg;let%[f0,f1,f2,f3,f4|f5]:=hf it ∅;show wpAny_pyNext_ascii_end (I.ok.hd hc) st (by simp[hle]) λh' eb=>%[rfl|I.turned (λb o hb e=>eb b o hb e) f0 f1 f3 f4 f5]
 self:=λ_ _ _ _ _ st h=>wpAny_pyIter_striter_ascii st h
def tF{P:nz}{K:ZA}(it:ij)(z:iv)(t:Tok):rJ P w K tg (Its z) [it] it (λi h=>h.IsStrIter it "str_iterator" z t i) where
 mem:=by simp
 obj:=λi h st b hb=>by
  let e:=↑hb
  subst e;let%[o,e,c|d]:=st;show%[o,e|λv z=>by rw[d]at z;cases z]
 keep:=λi h h' st k=>by
  let%[o,e|r]:=st;show%[o,k it ∅ o e|r]
 item:=by
  intro X hP hw hK hc i ff s σ H E I hf st hg;let hlt:i<z.cps.size:=hg;let%[f0,f1,f2,f3,f4|f5]:=hf it ∅;show wpAny_pyNext_wide_item st (c:=z.cps[i]) ∅ λh' st' sb=>?_
  let%[o,e,c|d]:=id st';show%[_,ρ|sJ e c d (!1) %[.str _,H,(I.turned (λb o hb e=>(sb.2 b hb).trans e) f0 f1 f3 f4 f5),%[_|ρ],%[ρ,_,by simp|ρ],st'|λb hb=>(hf b hb).1]]
 done:=by
  intro X hP hw hK hc i ff s σ H E I hf st hg;let hle:z.cps.size<=i:=hg;let%[f0,f1,f2,f3,f4|f5]:=hf it ∅;show wpAny_pyNext_wide_end (I.ok.hd hc) st (by simp[hle]) λh' eb=>%[rfl|I.turned (λb o hb e=>eb b o hb e) f0 f1 f3 f4 f5]
 self:=λ_ _ _ _ _ st h=>wpAny_pyIter_striter_wide st h
abbrev CK(D:ij)(n i:hH)(Pv:hH->dV V->St->Hp->Prop)(ys:dV V)(b:St)(y:V)(H:Hp):Prop:=
 ∃zs a,H D<*zs/\ ~~~zs<ku/\a<n-i/\(a=n-(i+1)/\i+1<=n/\Pv (i+1) (ys++[y]) b (Qa H D (.lst (zs++[y]))))
abbrev CN(n i:hH)(Pv:hH->dV V->St->Hp->Prop)(ys:dV V)(b:St)(H:Hp):Prop:=∃a,a<n-i/\(a=n-(i+1)/\i+1<=n/\Pv (i+1) ys b H)
def CK.mk{Pv:hH->dV V->St->Hp->Prop}(hi:i<n)(a:H D<*zs)(b: ~~~zs<ku)(p:Pv (i+1) (ys++[y]) c (Qa H D (.lst (zs++[y])))):CK D n i Pv ys c y H:=
 %[zs,n-(i+1),a,b,⋯,rfl,hi|p]
def CN.mk{Pv:hH->dV V->St->Hp->Prop}(hi:i<n)(p:Pv (i+1) ys a H):CN n i Pv ys a H:=%[n-(i+1),⋯,rfl,hi|p]
def dM{J:It}{g:TG}{u:TT}{v:TE}{w:Hp->Prop}(Pv:hH->dV V->St->Hp->Prop)(z:Pv 0 [] c H)(r:∀i ys c H,i<n->Pv i ys c H->J.go i H)(d:∀ys c H,Pv n ys c H->J.stop n H)
 (A:∀i ys c H,i<n->Pv i ys c H->∀x f,J.yld i H x f->g x c f λa s=>u a s λb h=>if b=fI then v a h λy q=>CK D n i Pv ys a y q else CN n i Pv ys a h) (B:∀ys c H,Pv n ys c H->w H):
 ∃W:hH->hH->dV V->St->Hp->Prop,(∃m,W 0 m [] c H)/\∀i m ys j H',W i m ys j H'->(J.stop i H'/\w H')\/
  (J.go i H'/\∀x f,J.yld i H' x f->g x j f λa s=>u a s λb h=>if b=fI then v a h λy q=>∃zs l,q D<*zs/\ ~~~zs<ku/\l<m/\W (i+1) l (ys++[y]) a (Qa q D (.lst (zs++[y])))
   else∃l,l<m/\W (i+1) l ys a h):=by
 show%[λi m ys c H=>m=n-i/\i<=n/\Pv i ys c H,%[n,by simp,Xe _|z]|?_];intro i m ys c H %[rfl,hi|p];by_cases o:i<n
 .show .inr %[r i ys c H o p|λx f y=>A i ys c H o p x f y]
 .let e:i=n:=by lia
  subst e;show .inl %[d ys c H p|B ys c H p]
def At:∀{bs:dV pp} {us:ZF} {i:hH} {v:hV},aQ (bs.map V.bl) us->us[i]?∣v->∃b,bs[i]?∣b/\v= .bool b
 |[],_,_,_,r,e=>by cases r;simp at e
 | b::bs,_,i,v,r,e=>by
   cases r with
   | cons a c=>
     cases(a);cases i with
     | zero=>simp at e;show%[b,ρ|e.symm]
     | succ i=>
       let%[d,f|g]:=At c (e);show%[d,f|g]
def pO(bs:dV pp):(o0 bs.length).all (λi=>bs.getD i fS)=bs.all id:=by
 let e:(o0 bs.length).map (λi=>bs.getD i fS)=bs:=by
  apply Qk
  .simp
  .intro i a b
   simp_all
 let:(o0 bs.length).all (λi=>bs.getD i fS)=((o0 bs.length).map λi=>bs.getD i fS).all id:=by rw[Wn];rfl
 rw[this,e]
def DE{X:Cx}(m:X.calm=fI):cO X (.builtin "all") (λxs H Q=>dh xs λg=>asR g λp=>∃(bs:dV pp),Qb X.K H p (bs.map V.bl)/\Q (.bl (bs.all id)) H):=by
 intro ff s E H xs us Q I r h;let%[g,rfl|d]:=ck h;let%[p,rfl|f]:=aU d;let%[bs,n|q]:=f;let%[u,rfl|w]:=dA r;cases w;let%[its,j,pl|G]:=I.list n;let y:X.A.in1.handled=eH:=I.ok.hd m;let a: ~~~bs=its.toArray.size:=by rw[Zp,<-j.length,Z6]
 show call_all_walk (N2 pl.isList %[⇑s,[⇑s,p],[⇑s],its.toArray.size,_,_,λi=>bs.getD i fS,rfl,Ug y _ p (Zs (by let%[o,z|_]:=pl.isList;show Zu z)) its.toArray,%[%[_,Zj _ rfl,rfl|rfl]|pl.isList.push _],?_|?_])
 .intro i v s' A J B c;let%[b,l|rfl]:=At j ↑B;let e:bs.getD i fS=b:=!2
  let c:A (bs.getD i fS) s':=c;rw[e]at c;show MY c
 .intro h' tk C;rw[<-a,pO];show%[.bl _,H,I.kept λb o e=>C b o ?_ (Z7 _ e),ρ|q];let:=Zu e;intro l;show m4 (Xn l) (Zs this)
def i5:∀{ss:ZB} {us:ZF},aQ (ss\3) us->MF us ss
 |[],_,r=>by cases r;show .nil
 | x::ss,_,r=>by
   cases r with
   | cons a b=>
     let%[t|e]:=a;subst e;show .cons x t (i5 b)
abbrev Au(K:ZA):V->dV V->Hp->VK->Prop:=λx vs H Q=>asS x λz=>dh vs λa=>asR a λl=>∃ss,Qb K H l (ss\3)/\(ss.map (·.length)).sum+ ~~~ss* ~~~z<=16777216/\Q (.str (Txt.join z ss)) H
def GI{X:Cx}:MtM X "str.join" (Au X.K):=by
 intro ff s i H x vs v us Q I d e h;let%[z,rfl|a]:=fY h;let%[j,rfl|b]:=ck a;let%[l,rfl|c]:=aU b;let%[ss,f,hw|q]:=c;let%[t|rfl]:=d;let%[u,rfl|g]:=e.one;cases g;let%[its,r,pl|m]:=I.list f;show W7 pl.isList (i5 r) hw λt' k=>%[.str _,H,I.tok k,%[_|rfl]|q]
def DF{X:Cx}:cO X (.builtin "isinstance") (λxs H Q=>∃x n t b,xs=[x,.ty n]/\kC X.K H x t/\Pb X.K t (.type n)∣b/\Q (.bl b) H):=by
 intro ff s d H xs us Q I r h;let%[x,n,t,b,rfl,ty,e|q]:=h;let%[u,f,rfl,c|a]:=lK r;cases(a);show BJ I c ty e λtk=>%[.bl b,H,I.tok tk,rfl|q]
def tG(z:iv)(c i:hH):Ta z ⟨#[c]⟩ i=decide (z.cps[i]?∣c):=by
 unfold Ta;let b: ~~~(⟨#[c]⟩:iv)=1:=rfl;rw[b];by_cases hi:i<z.cps.size
 .let e:z.cps.extract i (i+1)= #[z.cps[i]]:=by
   apply Xu
   .simp;lia
   .intro j d a;simp at a;subst a;simp
  rw[e,Ds hi];by_cases f:z.cps[i]=c
  .subst f;simp
  simp_all
 .let e:z.cps.extract i (i+1)= #[]:=by
   apply Xu
   .simp;lia
   .intro j d a;simp at a
  rw[e,Ng ⋯];simp
def vh(z:iv)(c:hH):(!(KE z ⟨#[c]⟩ 0 z.length 1).isEmpty)=decide (c∈z.cps.toList):=by
 rcases StrLaws.occ_head z _ 1 (Zi _)with⟨e,d⟩|⟨i,r,e,f,_⟩
 .rw[e];show(Zh λg=>?_).symm;let%[j,h|l]:=dV.mem_iff_getElem.mp g;let a:=↑h
  show d j %[?_|?_]
  .change j+1<=z.cps.size;lia
  .rw[tG];show Zf (by rw[Ds a];simpa using l)
 .rw[e];show(Zf ?_).symm;let b:=f.2;rw[tG]at b;let:=ON (Zo b);simpa using this
section
variable{X:Cx}
nonrec abbrev DG:R2:=λx y H Q=>asS x λi=>asS y λj=> ~~~i+ ~~~j<=ku/\Q (.str (i++j)) H
nonrec abbrev DH:R2:=λx y H Q=>rI0 (λi j=> .int (i+j)) x y H Q\/(DG x y H Q\/Gq x y H Q)
def GJ:OpR X (MP .Add) DH:=C9.or (pC.or Du)
nonrec abbrev DI:R2:=λx y H Q=>rI C8 (λi j=> .int (i*j)) x y H Q\/Ju x y H Q
def GK:OpR X (MP .Mult) DI:=Da.or Jv
nonrec abbrev Jx:R2:=rEq
def Jy:OpR X (pw .Eq) Jx:=HL
nonrec abbrev Jz:R2:=rNe
def JA:OpR X (pw .NotEq) Jz:=HM
nonrec abbrev JB:R2:=λx y H Q=>asS x λi=>asS y λj=>Q (.bl (!(KE j i 0 j.length 1).isEmpty)) H
nonrec abbrev GL(K:ZA):R2:=λx y H Q=>JB x y H Q\/rIn K fS x y H Q
def JC:OpR X (pw .In) (GL X.K):=sM.or sW
abbrev GM(K:ZA)(c:TE):TI:=λd H R=>c d H λx b=>(∃a,x= .ref a/\(∃xs,Qb K b a xs)/\R (Itl K a) b)\/(∃a,x= .ref a/\(∃xs,SqT K b a xs)/\R (Itt K a) b)\/∃z,x= .str z/\R (Its z) b
def JD(n:PE X l r):PI X C l (GM X.K r):=by
 intro ff s u H R I h;show thP (n ff s u H _ I h) λv d x g f i w=>?_
 let c:∀b∈[⇑d],iY X ff g b:=λb y=>by
  let e:b=⇑d:=↑y
  subst e;show f.fpOk (Zi _) (f.hok.fresh (Zi _))
 rcases w with⟨a,e,⟨xs,j⟩,q⟩|⟨a,e,⟨xs,j⟩,q⟩|⟨z,e,q⟩
 .subst e;cases i;let%[its,A,p|B]:=f.list j;show N2 p.isList %[⇑d,[⇑d],_,_,g,rfl,f.kept (t':=d.toks) λb o e=>Z7 _ e,sK a _,%[_,Zj _ rfl,rfl|rfl],c|q]
 .subst e;cases i;let%[its,A,p|B]:=f.tuple j;show RY (p) %[⇑d,[⇑d],_,_,g,rfl,f.kept λb o e=>Z7 _ e,yQ a _,%[_,Zj _ rfl,rfl|rfl],c|q]
 .subst e;let%[t|rfl]:=i;cases m:z.cps.all _ with
  | true=>
    show VU m %[⇑d,[⇑d],_,_,g,rfl,f.kept λb o e=>Z7 _ e,pN _ z t,%[_,Zj _ rfl,rfl|rfl],c|q]
  | false=>
    show Wc m %[⇑d,[⇑d],_,_,g,rfl,f.kept λb o e=>Z7 _ e,tF _ z t,%[_,Zj _ rfl,rfl|rfl],c|q]
end
abbrev bJ(c:Rw)(N:ZB)(a:Rw)(d:ZB)(b:dV (hH×hH)):pp:=
 decide (a.kind= .function)&&a.names.all (λy=>(decide (y.2≠ .cell)||decide (a.names.lookup y.1∣.cell))&&(decide (y.2≠ .local)||decide (a.names.lookup y.1∣.local))&&(decide (y.2≠ .free)||decide (c.names.lookup y.1∣.cell)||decide (c.names.lookup y.1∣.free)))&&
  b.all λp=>match d[p.1]? with
   | some x=>decide (N[p.2]?∣x)&&decide (a.names.lookup x∣.free)
   | none=>fS
def aL.of{X:Cx}(h:bJ X.env.scope X.N a g c=fI):aL X a g c:=by
 unfold bJ at h;rw[Zv,Zv,NV,NV]at h;let%[%[i|d]|j]:=h;show%[Zo i,λy b f=>?_,λy b f=>?_,λy b l=>?_|λp m=>?_]
 .let:=d y b;simp only[Zv,TD,Mg]at this;show this.1.1.resolve_left λq=>q f
 .let:=d y b;simp only[Zv,TD,Mg]at this;show this.1.2.resolve_left λq=>q f
 .let:=d y b;simp only[Zv,TD,Mg]at this;rcases this.2 with(q|q)|q
  .show m4 l q
  .show .inl q
  .show .inr q
 .let:=j p m;cases e:g[p.1]? with
  | none=>simp_all
  | some x=>
    rw[e]at this;simp only[Zv,Mg]at this;show%[x,ρ,this.1|this.2]
structure Gv (mg:ZC) (x:iv) (v:V):Prop where
 ex:∃u,mg x∣u/\aY v u
def HR{X:Cx}(g:Gv X.mg x v)(a:Gl X x)(b:(x==("__debug__":iv))=fS):PE X (.Name x pos) (tC v):=by
 let%[u,h|r]:=g.ex;show FZ a h r b
structure Cal (P:nz) (w:vk) (K:ZA) (mg:ZC) (base:v0) (k:hH) (x:iv) (ps:ZB) (sp:Sp):Prop where
 ex:∃f fd,eO P w K mg base CX0 k f fd ps sp/\mg x∣.ref f/\OD K (.ref f)=fI/\d6 K fd ps []
structure aK (K:ZA) (mg:ZC) (x:iv) (st:yc) (ps:ZB):Prop where
 ex:∃f fd,Fun K x x st f fd/\mg x∣.ref f/\d6 K fd ps []
def aK.cal{P:nz}{K:ZA}{st:yc}(D:aK K mg x st ps)(S:ay N ps (ar st))
 (a:∀(H:Hp) (vs:dV V) (Q:VK) (E:XK),sp vs H Q E-> ~~~vs= ~~~ps/\∀(f:ij) (b:hV) (A:vj) (outer:dV Env) (s:kj),bB k (A.deeper (M5 x (ar st) ⇑s f b))->
  ∃t,PSs (gc CX0 P w K mg base N x (ar st) f b A outer s H E).nox (bQ st) t/\t {nx:=λ_ H'=>Q .non H',rt:=Q} (start N vs) H):Cal P w K mg base (k+1) x ps sp:=by
 let%[f,c,F,d|e]:=D.ex;show%[f,c,F.ok S (λv H Q E h=>(a H v Q E h).1) (λb A o s H v Q E r h=>(a H v Q E h).2 f b A o s r),d,F.kp|e]
def JE{X:Cx}(C:Cal X.prog X.w X.K X.mg X.base j x ps sp)(d:bB k X.A)(g:Gl X x)(h:iZ CX0 X E0)(i:PA X (e::es) t)(a:j<=k)
 (b:(x==("__debug__":iv))=fS) (l:ri (e::es) X.env=(fS,MO e X.env)::ri es X.env) (c:(Nm pos (ri es X.env)).any (·.1)=fS):
 PE X (.Call (.Name x p) (e::es) [] pos) (sP sp [] E0 t):=by
 let%[f,q,F,m,n|o]:=C.ex;show As F (d.mono a) g m n o .nil h i b l c
def JF{K:ZA}{h:v0}{st:yc}{kV e g d ct:hV}(X:K.In h)(G:h.Ns vr mg)
 (a:RL K vr x∣fx (.ref f)) (l:K.lookup f=fx %[m,od,.func (SO x x (dL st) (bQ st) (ar st) .none kV e g i d ct)|j]) (c:Rt K d x=fI) (k:OD K (.ref f)=fI)
 (b:∀(kV e g:hV) (i:ZI) (d ct:hV) (us:ZF),~~~us= ~~~ps->bindArgs (SO x x (dL st) (bQ st) (ar st) .none kV e g i d ct) %[us|[]]=pure (ps.zip us)):aK K mg x st ps:=
 %[f,_,eP l c k,On X G a|(eP l c k).binds b]
def Ld{K:ZA}{h:v0}(X:K.In h)(G:h.Ns vr mg)(a:RL K vr x∣fx u)(r:aY v u):Gv mg x v:=%[u,On X G a|r]
def aB(h:∀a:It->Hp->Prop,(∀J e,(∃W:hH->hH->St->Hp->Prop,(∃m,W 0 m b e)/\∀i m b H,W i m b H->
 (J.stop i H/\D.nx b H)\/(J.go i H/\∃N:St->Hp->Prop,(∀c H',N c H'->∃f,f<m/\W (i+1) f c H')/\∀x H',J.yld i H x H'->g x b H' λd j=>l {D with nx:=N,ct:=N,bk:=D.nx} d j))->a J e)->n b H a):wC n g l D b H:=h _ λ_ _ x=>x
def aN(h:∀c:It->Hp->Prop,(∀J f,(∀D,f D=eH->∃W:hH->hH->dV V->St->Hp->Prop,
 (∃m,W 0 m [] (tz n j l) (Qa f D (.lst [])))/\∀i m ys d H',W i m ys d H'->(J.stop i H'/\Q (.ref D) H')\/
  (J.go i H'/\∀x o,J.yld i H' x o->g x d o λa r=>s a r λb p=>if b=fI then u a p λy q=>∃zs e,q D<*zs/\ ~~~zs<ku/\e<m/\W (i+1) e (ys++[y]) a (Qa q D (.lst (zs++[y])))
   else∃e,e<m/\W (i+1) e ys a p))->c J f)->v l H c):tD v n j g s u l H Q:=h _ λ_ _ x=>x
section
variable{X:Cx}{K:ZA}
def JG(h:X.K=K):OpR X (pw .In) (GL K):=by subst h;show JC
def BT(h:X.K=K):cO X (.builtin "len") (λxs H Q=>dh xs λx=>∃n,Gd K x H n/\Q (.int n) H):=by subst h;show De
def BU(h:X.K=K)(a:X.calm=fI):cO X (.builtin "all") (λxs H Q=>dh xs λb=>asR b λp=>∃(bs:dV pp),Qb K H p (bs.map V.bl)/\Q (.bl (bs.all id)) H):=by subst h;show DE a
def BV(h:X.K=K):cO X (.builtin "isinstance") (λxs H Q=>∃x n t b,xs=[x,.ty n]/\kC K H x t/\Pb K t (.type n)∣b/\Q (.bl b) H):=by subst h;show DF
def zf(h:X.K=K):cO X (.type "list") (λxs H Q=>dh xs λa=>asR a λp=>∃ys,(Qb K H p ys\/SqT K H p ys)/\∀l,H l=eH->Q (.ref l) (Qa H l (.lst ys))):=by subst h;show va
def DJ(h:X.K=K):MtR X "str.join" (Au K):=by subst h;show GI
def BW(h:X.K=K)(c:PE X a d)(e:∀b,SN a X.env b=(do let v<-b;OS a.pos;Oq [v] (UD v))):PT X a (λf H Q=>d f H λx H'=>∃k,BG K x H' k/\Q k H'):=by subst h;show Dd c e
def GN(h:X.K=K)(a:PE X l b):PI X c l (GM K b):=by subst h;show JD a
variable{o e:wh}{es:dV wh}{to:TE}{t:TA}{name:iv}{apos cpos:Pos}{T id:Mv}{r:V->dV V->Hp->VK->Prop}
def GO(h:X.K=K)(d:Pe T)(slot:Slot T name id)(c:Pu (.builtin id)=pure (.type "method_descriptor"))(f:MtR X id r)(g:PE X o to)
 (a:M9 o name X.env (MO o X.env)=MO o X.env) (b:(apos.endLine==cpos.line)=fI):PE X (.Call (.Attribute o name apos) [] [] cpos) (Gp K T r to):=by
 subst h;show Jt d slot c f g a b
def DK(h:X.K=K)(g:Pe T)(slot:Slot T name id)(f:Pu (.builtin id)=pure (.type "method_descriptor"))(i:MtR X id r)(j:PE X o to)(l:PA X (e::es) t)
 (b:M9 o name X.env (MO o X.env)=MO o X.env)
 (d:((Nm cpos (ri (e::es) X.env)).all (λx=>!x.1)&&(O3 cpos (ND [] X.env)).all (λx=>x.1.isSome)
  && decide (~~~(e::es)+ ~~~([]:dV Ox)+(if([]:dV Ox).isEmpty then 0 else 1)<30))=fI)
 (c:(apos.endLine==cpos.line)=fI) (m:ri (e::es) X.env=(fS,MO e X.env)::ri es X.env) (a:(Nm cpos (ri es X.env)).any (·.1)=fS):
 PE X (.Call (.Attribute o name apos) (e::es) [] cpos) (tBM K T r to t):=by
 subst h;show Lc g slot f i j l b d c m a
end
section
variable{X:Cx}{ff:ZE}{σ:St}{H:Hp}{s s':kj}{h':v0}{tk:hH}{fp:dV ij}
def Qc.moved(I:Qc X ff σ H s)(c:∀b∈fp,iY X ff H b)(d:∀b o,b∉fp->s.heap.get? b∣o->h'.get? b∣o):Qc X ff σ H {s with heap:=h',toks:=tk}:=by
 let f:∀b v,H b∣v->b∉fp:=λb v e a=>by rw[(c b a).1]at e;cases e
 show I.step (λb a=>%[(c b a).2.2.2.1,(c b a).2.1,(c b a).2.2.2.2.1|(c b a).2.2.2.2.2]) (λb o _ _ g e _=>d b o g e) (λb o _ _ g e _=>%[o.slots|d b o g e]) (λ_ _ _ _ n=>n)
  (λb o g e=>%[o|d b o g e]) (λ_ _ e=>e) (λ_ _ _ e=>e) (λb ps e=>%[#[]|by rw[e];simp]) (λm l=>?_) (λb v e=>?_) I.bare
 .let%[o,es,p,u|r]:=l;show%[o,es,p,d _ o (λa=>(c _ a).2.1 rfl) u|r]
 .show(I.hok b v e).stay (λj w h q=>d j w ?_ q) (λ_ q=>q) λ_ _ q=>q
  rcases h with i|i
  .show i▸f b v e
  .show f j _ i
def Qc.stood3(I:Qc X c y B s)(g:∀p∈ff,p∈c)(J:Qc X ff σ H s')(d:H a=eH)(C:s.heap.get? a=eH)(new:cN X.prog X.w (Qa H a o) s'.heap a o):Qc X ff σ (Qa H a o) s':=by
 let ne:∀{b:ij} {o:NQ},s.heap.get? b∣o->b≠a:=λe z=>by lia
 show%[J.ok,J.os,J.bare,?_,J.loc,J.cell,?_,?_,?_,?_|J.len]
 .show%[J.base.keep,J.base.slot,λb o e n j=>?_,J.base.there,λb xs e=>?_,λb o v e=>?_|λb ps e=>?_]
  .let%[E|A]:=I.base.there b o e j;rw[av (ne A)];show J.base.free b o e n j
  .rw[av (aC (J.base.tups b xs e) d)];show J.base.tups b xs e
  .rw[av (aC (J.base.frzs b o v e) d)];show J.base.frzs b o v e
  .let%[m|q]:=J.base.tbls b ps e;show%[m|(av (aC q d))▸q]
 .let%[m,%[G,_,_,h|_]|_]:=I.loc;rw[av (ne h)];show J.free
 .intro l f e;let%[L,M,i|_]:=I.cell l f e;rw[av (ne i)];show J.freeC l f e
 .intro p u;let%[e,n|r]:=J.pin p u;show%[e,?_|r];let:=(I.pin p ((Xm u).elim (λz=>Yu _ z) λz=>Yv _ (g p z))).1;rw[av (ne this)];show n
 .intro b v e;by_cases w:b=a
  .subst w;rw[af]at e;cases e;show new
  .rw[av w]at e;show(J.hok b v e).stay (λ_ _ _ q=>q) (λf q=>?_) λf xs q=>?_
   .rw[av (aC q d)];show q
   .rw[av (aC q d)];show q
def Qc.stood2(I:Qc X ff σ d s)(J:Qc X ff σ H s')(b:H a=eH)(c:⇑s<=a)(new:cN X.prog X.w (Qa H a o) s'.heap a o):Qc X ff σ (Qa H a o) s':=
 I.stood3 (λ_ h=>h) J b (by
  cases e:s.heap.get? a with
  | none=>rfl
  | some o=>show m4 (Zu e) (hH.not_lt.mpr c)) new
def Qc.stoodS(I:Qc X ff σ H s)(J:Qc X ff σ H s')(b:⇑s<=a)(new:cN X.prog X.w (Qa H a o) s'.heap a o):Qc X ff σ (Qa H a o) s':=I.stood2 J (I.hok.fresh b) b new
def Qc.stood(I:Qc X ff σ H s)(J:Qc X ff σ H {s with heap:=h',toks:=tk})(b:⇑s<=a)(new:cN X.prog X.w (Qa H a o) h' a o):Qc X ff σ (Qa H a o) {s with heap:=h',toks:=tk}:=I.stoodS J b new
end
structure zg (z TI TO i1 i2:ij):Prop where
 TIz:TI≠z
 TOz:TO≠z
 i1z:i1≠z
 i2z:i2≠z
 TITO:TI≠TO
 TIi1:TI≠i1
 TIi2:TI≠i2
 TOi1:TO≠i1
 TOi2:TO≠i2
 i12:i1≠i2
section
#where
variable{z TI TO i1 i2:ij}{fp1 fp2:dV ij}{n1 n2 i:hH}{P1 P2:hH->hV->Prop}{St1 St2:hH->v0->Prop}
def DL{Q:ZD}(D1:VA prog w A i1 fp1 n1 P1 St1)(D2:VA prog w A i2 fp2 n2 P2 St2)(D:zg z TI TO i1 i2)(O:∀b∈fp1,b≠z/\b≠TO/\b≠i2)(m2:∀b∈fp2,b≠z/\b≠TO/\b≠i1)
 (T:Ss s.heap z TI TO .none) (ac:Pg s.heap TI (.ref i1) (.ref i2)) (ae:Pg s.heap TO a b) (h1:St1 i s.heap) (h2:St2 i s.heap) (l1:i<n1) (l2:i<n2)
 (hQ:∀x y h' tk,P1 i x->P2 i y->Ss h' z TI TO (Mu ⇑s)->Pg h' TO x y->St1 (i+1) h'->St2 (i+1) h'->Pg h' ⇑s x y->
  (∀c o,c≠z->c≠TO->c≠i1->c≠i2->s.heap.get? c∣o->h'.get? c∣o)->Q (.ref ⇑s) {s with heap:=h',toks:=tk}):
 ↥A (nI.«zip.__next__» %[[.ref z]|[]]) (λfin s'=>∃v,fin= .done (.ret v)/\Q v s') E s:=by
 let r:∀{k h h' c},(∀b∈fp1,b≠c)->tI c h h'->St1 k h->St1 k h':=λhc sb st=>D1.frame _ _ _ st λb d o e=>(sb.2 b (hc b d)).trans e
 let u:∀{k h h' c},(∀b∈fp2,b≠c)->tI c h h'->St2 k h->St2 k h':=λhc sb st=>D2.frame _ _ _ st λb d o e=>(sb.2 b (hc b d)).trans e
 change oT _ _ (field (.ref z) 2>>= _) _ _ _;show Z2 (Nb T rfl (x:= .bool fS) rfl ?_);change oT _ _ (field (.ref z) 3>>= _) _ _ _;show Z2 (Nb T rfl (x:= .ref TI) rfl (Z2 (Ms ac rfl ?_)));change oT _ _ (M4 (.ref z)>>= _) _ _ _;show Z2 ?_;unfold M4;show Z2 (Nb T rfl (x:= .none) rfl (Z3 ?_));simp only[Pk];show Z2 (Oz (Z2 (Nb T rfl (x:= .ref TO) rfl (Z2 (yu T ∅ λg1 M n=>?_)))));replace M:Ss g1 z TI TO .ellipsis:=M;show Z2 ?_;simp only[RT,Vy,R4,VR];show Z2 (Z2 (RS ?_));change oT _ _ (NI (.ref i1)>>= _) _ _ _;show Z2 (D1.item i _ _ _ l1 (r (λb d=>(O b d).1) n h1) λx g2 ag px ak f=>Z3 ?_);replace f:tI i1 g1 g2:=f;let I:Pg g2 TO a b:=(f.2 _ D.TOi1).trans ((n.2 _ D.TOz).trans ae);show Z2 (Ms I rfl (Z2 (Rc (s:={s with heap:=g2,toks:=ag}) I λg3 p g=>?_)));replace p:Pg g3 TO x b:=p;replace g:tI TO g2 g3:=g;show Z2 (N5 (Z3 (Z2 (Z2 (RS ?_)))));change oT _ _ (NI (.ref i2)>>= _) _ _ _;show Z2 (D2.item i _ _ _ l2 (u (λb d=>(m2 b d).2.1) g (u (λb d=>(m2 b d).2.2) f (u (λb d=>(m2 b d).1) n h2))) λy g4 B py al j=>Z3 ?_);replace j:tI i2 g3 g4:=j;let J:Pg g4 TO x b:=(j.2 _ D.TOi2).trans p;show Z2 (Ms J rfl (Z2 (Rc (s:={s with heap:=g4,toks:=B}) J λq m l=>?_)));replace m:Pg q TO x y:=m;replace l:tI TO g4 q:=l;show Z2 (N5 (Z3 (Z3 (Z2 (Ms m rfl (Z2 (Re ?_)))))));let U:q.objs.size=⇑s:=by rw[l.1,j.1,g.1,f.1,n.1]
 let Y:Ss q z TI TO .ellipsis:=(l.2 _ D.TOz.symm).trans ((j.2 _ D.i2z.symm).trans ((g.2 _ D.TOz.symm).trans ((f.2 _ D.i1z.symm).trans M)));let an:∀c o,c≠z->c≠TO->c≠i1->c≠i2->s.heap.get? c∣o->q.get? c∣o:=λc o c1 c2 c3 c4 e=>
  (l.2 c c2).trans ((j.2 c c4).trans ((g.2 c c2).trans ((f.2 c c3).trans ((n.2 c c1).trans e))))
 let L:z<q.objs.size:=Zu Y;show Z2 (Z2 (yu (s:={s with heap:=q.push {cls:= .type "tuple",data:= .seq #[x,y]},toks:=B}) (Z7 _ Y) ∅ λg7 N C=>?_));replace N:Ss g7 z TI TO (Mu q.objs.size):=N;replace C:tI z (q.push _) g7:=C;show yu (s:={s with heap:=g7,toks:=B}) N ∅ λg8 G H=>?_
 replace G:Ss g8 z TI TO (Mu q.objs.size):=G;replace H:tI z g7 g8:=H;let up:∀c o,c≠z->q.get? c∣o->g8.get? c∣o:=λc o c1 e=>(H.2 c c1).trans ((C.2 c c1).trans (Z7 _ e))
 let ab:=(H.2 _ (Yz L)).trans ((C.2 _ (Yz L)).trans (Zj _ rfl));rw[U]at G ab;show Z3 %[_,rfl|?_];rw[U];show hQ x y g8 B px py G (up _ _ D.TOz m) (D1.frame _ _ _ (r (λb d=>(O b d).2.1) l (r (λb d=>(O b d).2.2) j (r (λb d=>(O b d).2.1) g ak))) λb d o e=>up b o (O b d).1 e) (D2.frame _ _ _ (u (λb d=>(m2 b d).2.1) l al) λb d o e=>up b o (m2 b d).1 e) ab λc o c1 c2 c3 c4 e=>up c o c1 (an c o c1 c2 c3 c4 e)
def DM(O:VA prog w A i1 fp1 n1 P1 St1)(D2:VA prog w A i2 fp2 n2 P2 St2)(D:zg z TI TO i1 i2)(m1:∀b∈fp1,b≠z/\b≠TO/\b≠i2)(m2:∀b∈fp2,b≠z/\b≠TO/\b≠i1)
 (C:Ss s.heap z TI TO .none) (T:Pg s.heap TI (.ref i1) (.ref i2)) (U:Pg s.heap TO a b) (h1:St1 i s.heap) (h2:St2 i s.heap) (l1:i<=n1) (l2:i<=n2) (ab:i=n1\/i=n2)
 (hE:∀h' e tk,(∀c o,c≠z->c≠TO->c≠i1->c≠i2->s.heap.get? c∣o->h'.get? c∣o)->(∃o,h'.get? e∣o/\o.cls= .type "StopIteration")->E (.ref e) {s with heap:=h',toks:=tk}):
 ↥A (nI.«zip.__next__» %[[.ref z]|[]]) Q E s:=by
 let Y:∀{k h h' c},(∀b∈fp1,b≠c)->tI c h h'->St1 k h->St1 k h':=λhc sb st=>O.frame _ _ _ st λb j o e=>(sb.2 b (hc b j)).trans e
 let v:∀{k h h' c},(∀b∈fp2,b≠c)->tI c h h'->St2 k h->St2 k h':=λhc sb st=>D2.frame _ _ _ st λb j o e=>(sb.2 b (hc b j)).trans e
 change oT _ _ (field (.ref z) 2>>= _) _ _ _;show Z2 (Nb C rfl (x:= .bool fS) rfl ?_);change oT _ _ (field (.ref z) 3>>= _) _ _ _;show Z2 (Nb C rfl (x:= .ref TI) rfl (Z2 (Ms T rfl ?_)));change oT _ _ (M4 (.ref z)>>= _) _ _ _;show Z2 ?_;unfold M4;show Z2 (Nb C rfl (x:= .none) rfl (Z3 ?_));simp only[Pk];show Z2 (Oz (Z2 (Nb C rfl (x:= .ref TO) rfl (Z2 (yu C ∅ λM n l=>?_)))));replace n:Ss M z TI TO .ellipsis:=n;show Z2 ?_;simp only[RT,Vy,R4,VR];show Z2 (Z2 (RS ?_));change oT _ _ (NI (.ref i1)>>= _) _ _ _;let G:St1 i M:=Y (λb j=>(m1 b j).1) l h1;by_cases c1:i<n1
 .let e2:i=n2:=by lia
  show Z2 (O.item i _ _ _ c1 G λx r y px ae d=>Z3 ?_);replace d:tI i1 M r:=d;let u:Pg r TO a b:=(d.2 _ D.TOi1).trans ((l.2 _ D.TOz).trans U);show Z2 (Ms u rfl (Z2 (Rc (s:={s with heap:=r,toks:=y}) u λH ac f=>?_)));replace f:tI TO r H:=f;show Z2 (N5 (Z3 (Z2 (Z2 (RS ?_)))));change oT _ _ (NI (.ref i2)>>= _) _ _ _;show Z2 (D2.done _ _ _ (e2▸v (λb j=>(m2 b j).2.1) f (v (λb j=>(m2 b j).2.2) d (v (λb j=>(m2 b j).1) l h2))) λN e p he=>?_);replace p:ExtBut i2 H N:=p;let%[oe,g|m]:=he;let I:Ss N z TI TO .ellipsis:=p _ _ D.i2z.symm ((f.2 _ D.TOz.symm).trans ((d.2 _ D.i1z.symm).trans n));let B:e≠z:=λx=>by subst x;rw[I]at g;cases g;simp at m
  show yu (s:={s with heap:=N,toks:=y}) I ∅ λg5 _ q=>?_
  replace q:tI z N g5:=q;show hE g5 e y (λc o J d2 d3 d4 x=>(q.2 c J).trans (p c o d4 ((f.2 c d2).trans ((d.2 c d3).trans ((l.2 c J).trans x))))) %[oe,(q.2 e B).trans g|m]
 .let e1:i=n1:=by lia
  show Z2 (O.done _ _ _ (e1▸G) λr e d he=>?_);replace d:ExtBut i1 M r:=d;let%[oe,g|m]:=he;let L:=d _ _ D.i1z.symm n;let B:e≠z:=λx=>by subst x;rw[L]at g;cases g;simp at m
  show yu (s:=(s>>>r)) L ∅ λH _ f=>?_
  replace f:tI z r H:=f;show hE H e s.toks (λc o J _ d3 _ x=>(f.2 c J).trans (d c o d3 ((l.2 c J).trans x))) %[oe,(f.2 e B).trans g|m]
end
abbrev Itz(x y:iv):It:=⟨λi _=>i<x.cps.size/\i<y.cps.size,λi H v H'=>∃c d T,x.cps[i]?∣c/\y.cps[i]?∣d/\H T=eH/\v= .ref T/\H'=Qa H T (.tup [.str ⟨#[c]⟩,.str ⟨#[d]⟩]),
 λi _=>i<=x.cps.size/\i<=y.cps.size/\(i=x.cps.size\/i=y.cps.size)⟩
abbrev ZSt(z TI TO c d:ij)(e f:hH->v0->Prop)(i:hH)(h:v0):Prop:=Ss h z TI TO .none/\Pg h TI (.ref c) (.ref d)/\(∃a b,Pg h TO a b)/\e i h/\f i h
def ki(prog:nz)(w:vk)(x:iv)(t:Tok)(it:ij):∀A,A.handled=eH->
 VA prog w A it [it] x.cps.size (λi v=>∃c u,x.cps[i]?∣c/\v= .str ⟨#[c]⟩ u) (λi h=>h.IsStrIter it (OJ x) x t i):=by
 intro A a;unfold OJ;cases b:x.cps.all _ with
 | true=>show VA.strAscii a it x t
 | false=>show VA.strWide a it x t
def DN{P:nz}{K:ZA}(z TI TO i1 i2:ij)(x y:iv)(t u:Tok)(D:zg z TI TO i1 i2):
 rJ P w K (.Tuple elts kt tp) (Itz x y) [z,TI,TO,i1,i2] z (ZSt z TI TO i1 i2 (λi h=>h.IsStrIter i1 (OJ x) x t i) (λi h=>h.IsStrIter i2 (OJ y) y u i)) where
 mem:=by simp
 obj:=λi h st b hb=>by
  let%[hz,hTI,%[a,c|hTO],%[o1,e1,_|d1],o2,e2,_|d2]:=st
  grind
 keep:=λi h h' st k=>by
  let%[hz,hTI,%[a,c|hTO],%[o1,e1|r1],o2,e2|r2]:=st;show%[k z ∅ _ hz,k TI ∅ _ hTI,%[a,c|k TO ∅ _ hTO],%[o1,k i1 ∅ _ e1|r1],o2,k i2 ∅ _ e2|r2]
 item:=by
  intro X hP hw hK hc i ff s σ H E I hf st hg;subst hP hw hK;let%[hz,hTI,%[a,c|hTO],h1|h2]:=st;obtain⟨g1,g2⟩:i<x.cps.size/\i<y.cps.size:=hg;let hT:s.TypeIs (.ref z) "zip":=%[_,hz|rfl]
  let hh:X.A.in1.handled=eH:=I.ok.hd hc;unfold OT;show Z2 (Nr (Nh (name:=!"__next__") hT QP (My QP hT V6
   (DL (ki _ _ x t i1 _ hh) (ki _ _ y u i2 _ hh) D (λb hb=>(show b=i1 by simpa using hb)▸%[D.i1z,zr D.TOi1|D.i12]) (λb hb=>(show b=i2 by simpa using hb)▸%[D.i2z,zr D.TOi2|zr D.i12]) hz hTI hTO h1 h2 g1 g2 λv1 v2 h' tk p1 p2 a1 a2 a3 a4 a5 hk=>Z3 ?_) (VT _))))
  let%[c1,u1,e1|rfl]:=p1;let%[c2,u2,e2|rfl]:=p2;show%[_,ρ|T6 (s:={s with heap:=h',toks:=tk}) a1 λh'' hz'' sb=>?_];replace sb:tI z h' h'':=sb;let kk:∀b o,b∉[z,TI,TO,i1,i2]->s.heap.get? b∣o->h''.get? b∣o:=λb o hb e=>by
   simp only[Yw,X6,MN,OW]at hb;show(sb.2 b hb.1).trans (hk b o hb.1 hb.2.2.1 hb.2.2.2.1 hb.2.2.2.2 e)
  let turn1:Qc X ff σ H {s with heap:=h'',toks:=tk}:=I.moved hf kk;let Hn:H ⇑s=eH:=I.fresh;let I2:Qc X ff σ (Qa H ⇑s (.tup [.str ⟨#[c1]⟩,.str ⟨#[c2]⟩])) {s with heap:=h'',toks:=tk}:=
   I.stood turn1 (Zi _) %[by change 2<=ku;decide,[.str _ u1,.str _ u2],.cons %[_|rfl] (.cons %[_|rfl] .nil),_,((sb.2 _ (Yz (Zu hz))).trans a5),rfl,_|rfl]
  show%[.ref ⇑s,_,I2,ρ,%[c1,c2,_,e1,e2,Hn,ρ|ρ],%[hz'',(sb.2 _ D.TIz).trans (hk _ _ D.TIz D.TITO D.TIi1 D.TIi2 hTI),%[_,_|(sb.2 _ D.TOz).trans a2],?_|?_]|λb hb=>?_]
  .let%[o,e|r]:=a3;show%[o,(sb.2 _ D.i1z).trans e|r]
  .let%[o,e|r]:=a4;show%[o,(sb.2 _ D.i2z).trans e|r]
  .let:b<⇑s:=by
    simp only[Yw,X6,MN]at hb;let%[o1,q1|_]:=h1;let%[o2,q2|_]:=h2;rcases hb with rfl|rfl|rfl|rfl|rfl
    .show Zu hz
    .show Zu hTI
    .show Zu hTO
    .show Zu q1
    .show Zu q2
   rw[av (Zs this)];show(hf b hb).1
 done:=by
  intro X hP hw hK hc i ff s σ H E I hf st hg;let%[hz,hTI,%[a,c|hTO],h1|h2]:=st;obtain⟨g1,g2,g3⟩:i<=x.cps.size/\i<=y.cps.size/\(i=x.cps.size\/i=y.cps.size):=hg;let hT:s.TypeIs (.ref z) "zip":=%[_,hz|rfl]
  let hh:=I.ok.hd hc;show Z2 (Nr (Nh hT QP (My QP hT V6
   (DM (ki _ _ x t i1 _ hh) (ki _ _ y u i2 _ hh) D (λb hb=>(show b=i1 by simpa using hb)▸%[D.i1z,zr D.TOi1|D.i12]) (λb hb=>(show b=i2 by simpa using hb)▸%[D.i2z,zr D.TOi2|zr D.i12]) hz hTI hTO h1 h2 g1 g2 g3 λh' e tk hk he=>?_) (VT _))))
  let%[o,ho|hco]:=he;show Z2 (NM %[o,ho|hco] TN (Z3 %[rfl|?_]));let kk:∀b o,b∉[z,TI,TO,i1,i2]->s.heap.get? b∣o->h'.get? b∣o:=λb o hb e=>by
   simp only[Yw,X6,MN,OW]at hb;show hk b o hb.1 hb.2.2.1 hb.2.2.2.1 hb.2.2.2.2 e
  show I.moved hf kk
 self:=λ_ _ _ _ _ st h=>Qv st.1 h
abbrev aV:wh->pp
 | .Starred _ _=>fI
 | _=>fS
def aD(h:aV e=fS):ri (e::es) env=(fS,MO e env)::ri es env:=by
 cases e<;> first|rfl|cases(show fI=fS from h)
def eQ(h:aV e=fS):NW (e::es) env=(fS,assign e env)::NW es env:=by
 cases e<;> first|rfl|cases(show fI=fS from h)
def eA:∀{es:dV wh},es.any aV=fS->(Nm pos (ri es env)).any (·.1)=fS
 |[],_=>rfl
 | e::es,h=>by
   rw[Zw,X7]at h;rw[aD h.1];let:=eA (pos:=pos) (env:=env) h.2;cases es with
   | nil=>rfl
   | cons b a=>
     simp only[Nm]at this ⊢;simpa using this
def vm:∀{es:dV wh},es.any aV=fS->(Nm pos (ri es env)).all (λx=>!x.1)=fI
 |[],_=>rfl
 | e::es,h=>by
   rw[Zw,X7]at h;rw[aD h.1];let:=vm (pos:=pos) (env:=env) h.2;cases es with
   | nil=>rfl
   | cons b a=>
     simp only[Nm]at this ⊢;simpa using this
def gh:∀{es:dV wh},es.any aV=fS-> ~~~(NW es env)= ~~~es/\(NW es env).findIdx? (·.1)=eH
 |[],_=>%[rfl|rfl]
 | e::es,h=>by
   rw[Zw,X7]at h;rw[eQ h.1];let a:=gh (env:=env) h.2;show%[by rw[Zr,Zr,a.1]|?_];rw[dV.findIdx?_cons,a.2];rfl
abbrev hJ:wh->pp
 | .ListComp _ _ _ _=>fI
 | .SetComp _ _ _ _=>fI
 | .DictComp _ _ _ _ _=>fI
 | _=>fS
def jH(h:hJ e=fS):OI e t l env=pure fS:=by
 cases e<;> first|rfl|cases(show fI=fS from h)
abbrev DO:wh->pp
 | .Tuple _ _ _=>fI
 | _=>fS
def zh(h:DO e=fS):swappedStores [t] e env=pure eH:=by
 cases t with
 | Tuple _ _ _=>cases e<;> first|rfl|cases(show fI=fS from h)
 | List _ _=>cases e<;> first|rfl|cases(show fI=fS from h)
 | _=>rfl
abbrev i6:wh->pp
 | .Call _ _ _ _=>fI
 | _=>fS
def hZ(h:i6 o=fS):M9 o a env w=w:=by
 cases o<;> first|rfl|cases(show fI=fS from h)
abbrev pP:wh->pp
 | .Set _ _ _=>fI
 | _=>fS
def m9(h:pP e=fS)(x:hV):OZ e env x=pure x:=by
 cases e<;> first|rfl|cases(show fI=fS from h)
structure QE (X:Cx) (e:wh) (t:TE):Prop where
 h:PE X e t
structure QT (X:Cx) (e:wh) (t:TT):Prop where
 h:PT X e t
structure QW (X:Cx) (e:wh) (t:TT):Prop where
 h:PW X e t
structure QA (X:Cx) (es:dV wh) (t:TA):Prop where
 h:PA X es t
structure QS (X:Cx) (st:yc) (t:TS):Prop where
 h:PS X st t
structure QSs (X:Cx) (st:dV yc) (t:TS):Prop where
 h:PSs X st t
structure QG (X:Cx) (e:wh) (t:TG):Prop where
 h:PG X e t
structure QGs (X:Cx) (es:dV wh) (t:TGs):Prop where
 h:PGs X es t
structure QI (X:Cx) (tg iter:wh) (wi:TI):Prop where
 h:PI X tg iter wi
structure QO (X:Cx) (e:kf wh) (t:TO):Prop where
 h:PO X e t
structure QTs (X:Cx) (ifs:dV wh) (t:TT):Prop where
 h:PTs X ifs t
structure OpQ (X:Cx) (f:hV->hV->Sem hV) (r:R2):Prop where
 h:OpR X f r
structure cG (X:Cx) (f:hV) (r:dV V->Hp->VK->Prop):Prop where
 h:cO X f r
structure MtQ (X:Cx) (id:Mv) (r:V->dV V->Hp->VK->Prop):Prop where
 h:MtR X id r
section
variable{X:Cx}{K:ZA}{pos:Pos}
def az{i j}:QE X (.Constant (.int i) j pos) (tC (.int i)):=⟨IE⟩
def eBl{b j}:QE X (.Constant (.bool b) j pos) (tC (.bl b)):=⟨K0⟩
def jI{j}:QE X (.Constant .none j pos) (tC .non):=⟨IF⟩
def cA{x j}:QE X (.Constant (.str x) j pos) (tC (.str x)):=⟨IG⟩
def vn(i:hH)(b:X.N[i]?∣x)(c:Vis X.env.scope x)(d:(x==("__debug__":iv))=fS)(a:(x==("__classdict__":iv))=fS):QE X (.Name x pos) (rH i):=⟨CU b c d a⟩
def gvE(g:Gv X.mg x v)(a:Gl X x)(b:(x==("__debug__":iv))=fS):QE X (.Name x pos) (tC v):=⟨HR g a b⟩
def blE(a:Gl X x)(b:X.mg x=eH)(c:M8 x∣u)(r:aY v u)(f:(x==("__name__":iv))=fS)(d:(x==("__debug__":iv))=fS):QE X (.Name x pos) (tC v):=
 ⟨F0 a b c r (λe=>by lia) d⟩
def am:QA X [] y4:=⟨Dh⟩
def paE(a:aV e=fS)(b:QE X e c)(d:QA X es t):QA X (e::es) (Al c t):=⟨Am b.h d.h (aD a)⟩
def calE(C:Cal X.prog X.w X.K X.mg X.base j x ps sp)(d:bB k X.A)(f:Gl X x)(a:O6 j k=fI)
 (b:(x==("__debug__":iv))=fS) (c:(e::es).any aV=fS) (g:QA X (e::es) t):
 QE X (.Call (.Name x p) (e::es) [] pos) (sP sp [] E0 t):=by
 rw[Zw,X7]at c;show⟨JE C d f DD g.h (Ye a) b (aD c.1) (eA c.2)⟩
def cbE{id:Mv}(c:cG X (.builtin id) r)(d:Gl X x)(f:X.mg x=eH)(g:M8 x∣.builtin id)(i:(x==("__name__":iv))=fS)(a:(x==("__debug__":iv))=fS)
 (b:(e::es).any aV=fS) (h:QA X (e::es) t):QE X (.Call (.Name x p) (e::es) [] pos) (tCB r t):=by
 rw[Zw,X7]at b;show⟨Dk c.h d f g h.h (λe=>by lia) a (aD b.1) (eA b.2)⟩
def ctE(c:cG X (.type T) r)(d:Gl X x)(f:X.mg x=eH)(g:M8 x∣.type T)(i:(x==("__name__":iv))=fS)(a:(x==("__debug__":iv))=fS)
 (b:(e::es).any aV=fS) (h:QA X (e::es) t):QE X (.Call (.Name x p) (e::es) [] pos) (tCB r t):=by
 rw[Zw,X7]at b;show⟨BM c.h d f g h.h (λe=>by lia) a (aD b.1) (eA b.2)⟩
def bmE{T id:Mv}(h:X.K=K)(l:Pe T)(slot:Slot T name id)(g:Pu (.builtin id)=pure (.type "method_descriptor"))(m:MtQ X id r)
 (b:i6 o=fS) (a:(e::es).any aV=fS) (i:WT (e::es).length 30=fI) (c:(d.endLine==f.line)=fI) (n:QE X o p) (q:QA X (e::es) t):
 QE X (.Call (.Attribute o name d) (e::es) [] f) (tBM K T r p t):=by
 let j:=a;rw[Zw,X7]at j;show⟨DK h l slot g m.h n.h q.h (hZ b) ?_ c (aD j.1) (eA j.2)⟩;rw[vm a];let:decide (~~~(e::es)+ ~~~([]:dV Ox)+(if([]:dV Ox).isEmpty then 0 else 1)<30)=fI:=Zf ((hH.blt_eq.mp i));rw[this];rfl
def JH{T id:Mv}(h:X.K=K)(f:Pe T)(slot:Slot T name id)(e:Pu (.builtin id)=pure (.type "method_descriptor"))(g:MtQ X id r)
 (a:i6 o=fS) (b:(c.endLine==d.line)=fI) (i:QE X o j):QE X (.Call (.Attribute o name c) [] [] d) (Gp K T r j):=⟨GO h f slot e g.h i.h (hZ a) b⟩
def kL(b:Gl X "range")(c:X.mg "range"=eH)(d:aV a=fS)(e:QA X [a] f):QI X g (.Call (.Name "range" p) [a] [] pos) (C6 f):=⟨BD b c e.h (aD d)⟩
def DP(d:Gl X "range")(e:X.mg "range"=eH)(f:aV a=fS)(c:aV b=fS)(g:QA X [a,b] h):QI X i (.Call (.Name "range" p) [a,b] [] pos) (C7 h):=
 ⟨BE d e g.h ((aD f).trans (by rw[aD c];rfl)) (aD c)⟩
def anyI(h:X.K=K)(a:QE X l b):QI X c l (GM K b):=⟨GN h a.h⟩
section
variable{a b c:wh}{ta tb tc:TE}{op op':Sw}{r r':R2}
def zi(e:OpQ X (pw op) r)(d:OpQ X (pw op') r')(f:lastMarks [op,op'] [b,c]=fS)(g:QE X a ta)(h:QE X b tb)(i:QE X c tc):QE X (.Compare a [op,op'] [b,c] pos) (yT r r' ta tb tc):=⟨Dc e.h d.h g.h h.h i.h f⟩
def iJ(d:OpQ X (pw op) r)(e:MQ op b=fS)(f:QE X a ta)(g:QE X b tb):QE X (.Compare a [op] [b] pos) (tOp r ta tb):=⟨Gb d.h f.h g.h e⟩
def bg(d:OpQ X (pw op) r)(e:MQ op b=fS)(f:QE X a ta)(g:QE X b tb):QT X (.Compare a [op] [b] pos) (wD (tOp r ta tb)):=⟨Gc d.h f.h g.h e⟩
def opE{op:Operator}(d:OpQ X (MP op) r)(e:QE X a ta)(f:QE X b tb):QE X (.BinOp a op b pos) (tOp r ta tb):=⟨K5 d.h e.h f.h⟩
def JI(d:QE X a ta):QE X (.UnaryOp .USub a pos) (tUn (rU λi=> .int (-i)) ta):=⟨K6 Ja d.h⟩
def noO:QO X eH uY:=⟨Gj⟩
def nV(h:QE X a ta):QO X (fx a) (Dl ta):=⟨Gk h.h⟩
def vo{op}(h:QE X a ta):QE X (.BoolOp op [a] pos) ta:=⟨IP h.h⟩
def vp{rest:dV wh}(d:QE X a ta)(e:QE X (.BoolOp .And (b::rest) pos) tb):QE X (.BoolOp .And (a::b::rest) pos) (CW ta tb):=⟨IQ d.h e.h⟩
def orV{rest:dV wh}(d:QE X a ta)(e:QE X (.BoolOp .Or (b::rest) pos) tb):QE X (.BoolOp .Or (a::b::rest) pos) (IM ta tb):=⟨K3 d.h e.h⟩
def ci(h:QA X es t):QE X (.List es pos) (Jj t):=⟨Jl h.h⟩
def fA{d}(h:QA X es t):QE X (.Tuple es d pos) (Ji t):=⟨Jk h.h⟩
def h9:QE X (.Dict [] [] pos) zd:=⟨Dz⟩
variable{tA tB':TT}{rest:dV wh}
def ifE(d:QT X c tA)(e:QE X a ta)(f:QE X b tb):QE X (.IfExp c a b pos) (tIf tA ta tb):=⟨CY d.h e.h f.h⟩
def gi(d:QT X a tA):QT X (.UnaryOp .Not a pos) (II tA):=⟨IL d.h⟩
def kM(d:QT X a tA):QW X (.BoolOp .And [a] pos) tA:=⟨F2 d.h⟩
def kZ(d:QT X a tA):QW X (.BoolOp .Or [a] pos) tA:=⟨IJ d.h⟩
def rN(d:QT X a tA)(e:QW X (.BoolOp .And (b::rest) pos) tB'):QW X (.BoolOp .And (a::b::rest) pos) (F1 tA tB'):=⟨IK d.h e.h⟩
def orW(d:QT X a tA)(e:QW X (.BoolOp .Or (b::rest) pos) tB'):QW X (.BoolOp .Or (a::b::rest) pos) (tOr tA tB'):=⟨K2 d.h e.h⟩
def wT(h:QW X a tA):QT X a tA:=⟨PW.pt h.h⟩
def truT(h:X.K=K)(e:∀d,SN a X.env d=(do let v<-d;OS a.pos;Oq [v] (UD v)))(f:QE X a ta):QT X a (λg H Q=>ta g H λx H'=>∃k,BG K x H' k/\Q k H'):=⟨BW h f.h e⟩
def rO:QTs X [] GD:=⟨GE⟩
def ic(h:QT X c tA):QTs X [c] tA:=⟨GF h.h⟩
end
def eB(S:aL X c e f)(l:X.calm=fI)(m:pP iter=fS)(hi:QI X j iter n)
 (o:∀a b d,QG (cz X c e a b d) j g) (p:∀a b d,QTs (cz X c e a b d) h q) (r:∀a b d,QE (cz X c e a b d) i s):
 QE X (.ListComp i [%[j,iter,h|0]] c pos) (tD n e.length f g q s):=⟨GH S l hi.h (λa b d=>(o a b d).h) (λa b d=>(p a b d).h) (λa b d=>(r a b d).h) (m9 m)⟩
def aR:QSs X [] CZ:=⟨F3⟩
def ai{st:yc}{rest:dV yc}(a:QS X st t)(b:QSs X rest u):QSs X (st::rest) (aW t u):=⟨C0 a.h b.h⟩
def au{st:yc}(a:QS X st t):QSs X [st] t:=⟨F4 a.h⟩
def ifS(d:QT X c e)(f:QSs X a t)(g:QSs X b u):QS X (.If c a b pos) (kY e t u):=⟨K4 d.h f.h g.h⟩
def aM(a:QE X e b):QS X (.Return (fx e) pos) (iI b):=⟨IR a.h⟩
def i7{st:yc}:QS X st uT:=⟨C1⟩
def cu(c:PR (MU X.prog X.w) X.A X.env X.xe)(d:X.calm=fI)(e:pP iter=fS)(hi:QI X b iter f)(h:QG X b g)(i:QSs X a j):
 QS X (.For b iter a [] pos) (wC f g j):=⟨IW c d hi.h h.h i.h (m9 e)⟩
def rP(i:hH)(b:X.N.Nodup)(hi:X.N[i]?∣x)(c:Loc X.env.scope x)(d:X.fn x=fI\/X.env.scope.names.lookup x∣.local)(f:hJ e=fS)(g:QE X e h):
 QS X (.Assign [.Name x a] e pos) (uU h (lJ i)):=⟨IV b hi c g.h (jH f) d⟩
def bK(a:hJ e=fS)(b:QE X e c):QS X (.Expr e pos) (nN c):=⟨F5 b.h (jH a)⟩
def Le(c:hJ e=fS)(hw:DO e=fS)(a:aV b=fS)(d:QE X e f)(h:QG X b g):QS X (.Assign [b] e pos) (uU f g):=
 ⟨IU d.h h.h (jH c) (zh hw) (by rw[eQ a];rfl)⟩
def wL(i:hH)(a:X.N.Nodup)(hi:X.N[i]?∣x)(b:Loc X.env.scope x)(c:X.fn x=fI\/X.env.scope.names.lookup x∣.local):QG X (.Name x pos) (lJ i):=⟨F6 a hi b c⟩
def dB:QGs X [] IS:=⟨F7⟩
def gsE(a:aV e=fS)(b:QG X e t)(c:QGs X es u):QGs X (e::es) (C2 t u):=⟨C3 b.h c.h (by rw[eQ a];rfl)⟩
def gY(b:X.K=K)(c:X.calm=fI)(a:es.any aV=fS)(h:QGs X es t):QG X (.Tuple es k pos) (F8 K es.length t):=by
 subst b;show⟨IT c h.h (gh a).1 (gh a).2⟩
def JJ:OpQ X (MP .Add) DH:=⟨GJ⟩
def tH:OpQ X (MP .Sub) (rI0 λi j=> .int (i-j)):=⟨IZ⟩
def JK:OpQ X (MP .Mult) DI:=⟨GK⟩
def b8:OpQ X (MP .Mod) (rI (λ_ j=>0<j) λi j=> .int (i%j)):=⟨I0⟩
def lc:OpQ X (MP .FloorDiv) (rI K8 λi j=> .int (i/j)):=⟨F9⟩
def cn:OpQ X (pw .Eq) Jx:=⟨Jy⟩
def iK:OpQ X (pw .NotEq) Jz:=⟨JA⟩
def DQ:OpQ X (pw .Lt) (rI0 λi j=> .bl (decide (i<j))):=⟨K9⟩
def BX:OpQ X (pw .LtE) (rI0 λi j=> .bl (decide (i<=j))):=⟨La⟩
def wM:OpQ X (pw .Gt) (rI0 λi j=> .bl (decide (j<i))):=⟨Lb⟩
def pQ:OpQ X (pw .Is) (λx y H Q=>y= .non/\Q (.bl (decide (x= .non))) H):=⟨Jc⟩
def zj:OpQ X (pw .IsNot) (λx y H Q=>y= .non/\Q (.bl (!decide (x= .non))) H):=⟨Ga⟩
def q_in(h:X.K=K):OpQ X (pw .In) (GL K):=⟨JG h⟩
nonrec abbrev Av:R2:=λx y H Q=>asS x λi=>asS y λj=>Q (.bl (!(!(KE j i 0 j.length 1).isEmpty))) H
nonrec abbrev Aw(K:ZA):R2:=λx y H Q=>Av x y H Q\/rIn K fI x y H Q
def Ax(h:X.K=K):OpQ X (pw .NotIn) (Aw K):=by subst h;show⟨u9.or u8⟩
def cP(h:X.K=K):cG X (.builtin "len") (λxs H Q=>dh xs λx=>∃n,Gd K x H n/\Q (.int n) H):=⟨BT h⟩
def DR(h:X.K=K)(a:X.calm=fI):cG X (.builtin "all") (λxs H Q=>dh xs λb=>asR b λp=>∃(bs:dV pp),Qb K H p (bs.map V.bl)/\Q (.bl (bs.all id)) H):=⟨BU h a⟩
def HS(a:X.calm=fI):cG X (.builtin "min") (λxs H Q=>mZ xs λb x2=>asI b λi=>asI x2 λj=>Q (.int (if j<i then j else i)) H):=⟨BH a⟩
def Lf(h:X.K=K):cG X (.builtin "isinstance") (λxs H Q=>∃x n t b,xs=[x,.ty n]/\kC K H x t/\Pb K t (.type n)∣b/\Q (.bl b) H):=⟨BV h⟩
def Ay:cG X (.type "int") (λxs H Q=>(∃i,xs=[.int i]/\Q (.int i) H)\/∃k,xs=[.bl k]/\Q (.int (if k then 1 else 0)) H):=⟨BI⟩
def i8(h:X.K=K):cG X (.type "list") (λxs H Q=>dh xs λa=>asR a λp=>∃ys,(Qb K H p ys\/SqT K H p ys)/\∀l,H l=eH->Q (.ref l) (Qa H l (.lst ys))):=⟨zf h⟩
def bj:MtQ X "list.append" ve:=⟨sZ⟩
def pR:MtQ X "list.extend" vf:=⟨BN⟩
def GP:MtQ X "list.clear" y8:=⟨Dt⟩
def vt(h:X.K=K):MtQ X "str.join" (Au K):=⟨DJ h⟩
end
open PySem PySem.Spec PyProof.Rows PySem.SeqAt
abbrev zk:V->dV V->Hp->VK->Prop:=λx vs H Q=>asS x λz=>dh vs λa=>asS a λy=>1<= ~~~y/\ ~~~z+2<=ku/\∀l,H l=eH->Q (.ref l) (Qa H l (.lst ((Txt.split z y)\3)))
def tJ:∀ss k,aQ (ss\3) (strsFrom k ss)
 |[],_=> .nil
 | _::r,k=> .cons %[_|rfl] (tJ r _)
def DS{X:Cx}:MtM X "str.split" zk:=by
 intro ff s n H x vs v us Q I i j h;let%[z,rfl|d]:=fY h;let%[o,rfl|f]:=ck d;let%[y,rfl|g]:=fY f;let%[p,r|q]:=g;let%[t|rfl]:=i;let%[w,rfl|l]:=j.one;let%[u|rfl]:=l;let b:(~~~y==0)=fS:=by simp;lia
 let m:=split_le z y;by_cases c1:(decide (~~~z< ~~~y)||decide (SJ z<SJ y))=fI
 .let e:Txt.split z y=[z]:=jg c1;rw[e]at q;show OE Su (OA _ _ _) R8 (RP _ _) (meets_str_split_cannot_occur z y t u c1) %[.ref _,_,I.lnew (ys:=[.str z]) (.cons %[_|rfl] .nil) (by change 1<=ku;decide),rfl|q _ I.fresh]
 .let c:=RK.mpr c1;by_cases c2:(KE z y 0 z.length (~~~z+1)).isEmpty=fI
  .let e:Txt.split z y=[z]:=(hX c1).trans (jg c2);rw[e]at q;show OE Su (OA _ _ _) R8 (RP _ _) (meets_str_split_not_found z y t u c b c2) %[.ref _,_,I.lnew (ys:=[.str z]) (.cons %[_|rfl] .nil) (by change 1<=ku;decide),rfl|q _ I.fresh]
  .let e:Txt.split z y=RQ z _ y.length:=(hX c1).trans (hX c2);let a: ~~~(RQ z (KE z y 0 z.length (z.length+1)) y.length)<=ku:=by rw[<-e];lia
   show OE Su (OA _ _ _) R8 (RP _ _) (meets_str_split_sep z y t u c b (RK.mpr c2) ⋯ a) ?_;rw[<-e]at a ⊢;show%[.ref _,_,I.lnew (tJ _ _) (by rw[Z6];show a),ρ|q _ I.fresh]
def Az{X:Cx}:MtQ X "str.split" zk:=⟨DS⟩
abbrev Ite(K:ZA)(a:ij)(xs:dV V):It:=⟨λi H=>Qb K H a xs/\i< ~~~xs,λi H v H'=>∃x T,xs[i]?∣x/\H T=eH/\v= .ref T/\H'=Qa H T (.tup [.int i,x]),λi H=>Qb K H a xs/\ ~~~xs<=i⟩
abbrev ESt(e it a:ij)(i:hH)(h:v0):Prop:=(∃b,IsEnum h e it i b)/\h.IsListIter it a i
def BY{P:nz}{K:ZA}(e it a:ij)(xs:dV V)(hne:e≠it):rJ P w K (.Tuple elts kt tp) (Ite K a xs) [e,it] e (ESt e it a) where
 mem:=by simp
 obj:=λi h st b hb=>by
  let%[%[old|he],o1,e1,_|d1]:=st;simp only[Yw,X6,MN]at hb;rcases hb with rfl|rfl
  .show%[_,he|λv q=>nomatch q]
  .show%[o1,e1|λv q=>by rw[d1]at q;cases q]
 keep:=λi h h' st k=>by
  let%[%[old|he],o1,e1|r1]:=st;show%[%[old|k e ∅ _ he],o1,k it ∅ _ e1|r1]
 item:=by
  intro X hP hw hK hc i ff s σ H E I hf st hg;subst hP hw hK;let%[%[old|he]|hit]:=st;obtain⟨hq,hi⟩:Qb X.K H a xs/\i< ~~~xs:=hg;let%[its,rv,p|hz]:=I.list hq;let%[u,hu|ru]:=rv.get (i:=i) (x:=xs[i]) ∅;show wpAny_pyNext_enum_item he hit p.isList ↑hu hne λh1 he1 hit1 ht1 hz1 hk1=>%[_,rfl|wpAny_letOwnedTupleGo_enum he1 λh2 he2 sb2=>?_]
  replace sb2:tI e h1 h2:=sb2;let elt:=Zu he;let kk:∀b o,b∉[e,it]->s.heap.get? b∣o->h2.get? b∣o:=λb o hb q=>by
   simp only[Yw,X6,MN,OW]at hb;show(sb2.2 b hb.1).trans (hk1 b o hb.1 hb.2 q)
  let J:Qc X ff σ H {s with heap:=h2,toks:=s.toks+1}:=I.moved hf kk;let I2:Qc X ff σ (Qa H ⇑s (.tup [.int i,xs[i]])) _:=
   I.stood J (Zi _) %[by change 2<=ku;decide,[.int i s.toks,u],.cons %[_|rfl] (.cons ru .nil),_,((sb2.2 _ (Yz elt)).trans ht1),rfl,_|rfl]
  show%[.ref ⇑s,_,I2,ρ,%[xs[i],_,by simp,I.fresh,ρ|ρ],%[%[u|he2]|?_]|λb hb=>?_]
  .let%[o,q|r]:=hit1;show%[o,(sb2.2 _ (zr hne)).trans q|r]
  .let:b<⇑s:=by
    simp only[Yw,X6,MN]at hb;rcases hb with rfl|rfl
    .show elt
    .show(by let%[o,q|_]:=hit;show Zu q)
   rw[av (Zs this)];show(hf b hb).1
 done:=by
  intro X hP hw hK hc i ff s σ H E I hf st hg;subst hP hw hK;let%[%[old|he]|hit]:=st;obtain⟨hq,hi⟩:Qb X.K H a xs/\ ~~~xs<=i:=hg;let%[its,rv,p|hz]:=I.list hq;let hl:= ~~~rv;show wpAny_pyNext_enum_end (I.ok.hd hc) he hit p.isList (by simp;lia) λh1 xb=>%[rfl|I.moved hf λb o hb q=>?_]
  simp only[Yw,X6,MN,OW]at hb;show xb b o hb.2 q
 self:=λA i s Q E st h=>by
  let%[%[old|he]|hit]:=st;show Wf he h
abbrev HU(K:ZA)(c:TA):TI:=λd H R=>c d H λvs b=>dh vs λe=>asR e λa=>∃xs,Qb K b a xs/\R (Ite K a xs) b
section
variable{X:Cx}{K:ZA}{pos:Pos}
def pS(n:X.K=K)(o:Gl X "enumerate")(r:X.mg "enumerate"=eH)(v:aV a=fS)(w:QA X [a] y):
 QI X (.Tuple i M N) (.Call (.Name "enumerate" p) [a] [] pos) (HU K y):=by
 subst n
 constructor
 intro ff s z H R I h;show Call_ (iX I o r boot_enumerate (MC (thP (w.h pos ff s z H _ I h) λus d vs A c B C=>?_) (aD v) rfl));let%[O,rfl|e]:=ck C;let%[l,rfl|f]:=aU e;let%[xs,E|q]:=f;let%[u,rfl|G]:=dA B;cases G;let%[its,Q,p|T]:=c.list E;show call_enumerate_list p.isList λU j g J L=>Wf j %[⇑d+1,[⇑d+1,⇑d],ESt _ ⇑d l,Ite X.K l xs,A,rfl,(c.kept L),BY _ _ _ _ (hH.succ_ne_self _),%[%[_|j]|g],λb m=>?_|q]
 simp only[Yw,X6,MN]at m;rcases m with rfl|rfl
 .show c.fpOk (Yg _) (c.hok.fresh (Yg _))
 .show c.fpOk (Zi _) (c.hok.fresh (Zi _))
end
section
variable(h:v0)(x y:iv)(t u:Tok)
noncomputable abbrev zs1:v0:=h.push {cls:= .type (OJ x),data:= .fields #[.str x t,.int 0 0]}
noncomputable abbrev zs2:v0:=(zs1 h x t).push {cls:= .type (OJ y),data:= .fields #[.str y u,.int 0 0]}
noncomputable abbrev zs3:v0:=(zs2 h x y t u).push {cls:= .type "tuple",data:= .seq #[.ref h.objs.size,.ref (zs1 h x t).objs.size]}
noncomputable abbrev zs4:v0:=(zs3 h x y t u).push {cls:= .type "tuple",data:= .seq #[.none,.none]}
noncomputable abbrev zs5:v0:=(zs4 h x y t u).push {cls:= .type "zip",data:= .fields #[.none,.bool fS,.bool fS,.ref (zs2 h x y t u).objs.size,.ref (zs3 h x y t u).objs.size]}
end
def oK(x y:iv)(t u:Tok):
 Meets (nI.«zip.__new__» %[[.type "zip",.str x t,.str y u]|[]]) (λ_ R s=>R (.ok (.ret (.ref (zs4 s.heap x y t u).objs.size))) (s>>>zs5 s.heap x y t u)):=
 .of_wp λprog w A R s b=>by
  let%[c,g,d,tk|os]:=s;let a:=PySem.sub_zip
  wp_walk using Wd (x:=x) (t:=t),Wd (x:=y) (t:=u)
  show%[_,ρ|b]
section
#where
def pT
 (h:∀h',Ss h' (⇑s+4) (⇑s+2) (⇑s+3) .none->Pg h' (⇑s+2) (.ref ⇑s) (.ref (⇑s+1))->Pg h' (⇑s+3) .none .none->
  h'.IsStrIter ⇑s (OJ x) x t 0->h'.IsStrIter (⇑s+1) (OJ y) y u 0->(∀c o,s.heap.get? c∣o->h'.get? c∣o)->Q (.ref (⇑s+4)) (s>>>h')):
 ↥A (call (.type "zip") [.str x t,.str y u]) Q E s:=by
 show callType_new F.called_zip (!1) (F.typeCall_zip_2 _ _) (F.newCall_zip_2 _ _) (λobj=>F.args_object_init_3 obj _ _) F.entry_zip_new (oK x y t u) ?_;let n1:(zs1 s.heap x t).objs.size=⇑s+1:=Zq ..;let a:(zs2 s.heap x y t u).objs.size=⇑s+2:=by rw[Zq,n1]
 let b:(zs3 s.heap x y t u).objs.size=⇑s+3:=by rw[Zq,a]
 let e:(zs4 s.heap x y t u).objs.size=⇑s+4:=by rw[Zq,b]
 let f:∀c o,(zs4 s.heap x y t u).get? c∣o->(zs5 s.heap x y t u).get? c∣o:=λ_ _ q=>Z7 _ q
 let g:∀c o,(zs3 s.heap x y t u).get? c∣o->(zs5 s.heap x y t u).get? c∣o:=λc o q=>f c o (Z7 _ q)
 let i:∀c o,(zs2 s.heap x y t u).get? c∣o->(zs5 s.heap x y t u).get? c∣o:=λc o q=>g c o (Z7 _ q)
 let k2:∀c o,(zs1 s.heap x t).get? c∣o->(zs5 s.heap x y t u).get? c∣o:=λc o q=>i c o (Z7 _ q)
 let k1:∀c o,s.heap.get? c∣o->(zs5 s.heap x y t u).get? c∣o:=λc o q=>k2 c o (Z7 _ q)
 let d:(zs5 s.heap x y t u).get? (zs4 s.heap x y t u).objs.size∣_:=Zj _ rfl;let j:(zs5 s.heap x y t u).get? (zs3 s.heap x y t u).objs.size∣_:=f _ _ (Zj _ rfl);let l:(zs5 s.heap x y t u).get? (zs2 s.heap x y t u).objs.size∣_:=g _ _ (Zj _ rfl);let m:=i _ _ (Zj _ rfl);change _/\_;rw[a,b,e]at d;rw[n1,a]at l;rw[b]at j;rw[n1]at m;rw[e];show%[%[_,d|ρ]|h _ d l j %[_,(k2 _ _ (Zj _ rfl)),ρ|ρ] %[_,m,ρ|ρ] k1]
end
abbrev HV(a:TA):TI:=λb H R=>a b H λvs c=>∃x y,vs=[.str x,.str y]/\R (Itz x y) c
section
variable{X:Cx}{K:ZA}{pos:Pos}
def HW(v:Gl X "zip")(w:X.mg "zip"=eH)(z:aV a=fS)(f:aV b=fS)(A:QA X [a,b] B):
 QI X (.Tuple n M N) (.Call (.Name "zip" p) [a,b] [] pos) (HV B):=by
 constructor
 intro ff s C H R I h;show Call_ (iX I v w boot_zip (MC (thP (A.h pos ff s C H _ I h) λus c vs E g G J=>?_) (aD z) (by rw[aD f];rfl)));let%[x,y,e|q]:=J;subst e;let%[O,Q,rfl,%[t|rfl],u|rfl]:=lK G;show pT λT o l m hi1 hi2 L=>Qv o ?_
 let ne:∀i j,i≠j->⇑c+i≠⇑c+j:=λi j h e=>h (Q7 e)
 show%[⇑c+4,[⇑c+4,⇑c+2,⇑c+3,⇑c+0,⇑c+1],_,Itz x y,E,ρ,(g.kept L),
  DN _ _ _ _ _ x y t u %[ne 2 4 (!1),ne 3 4 (!1),ne 0 4 (!1),ne 1 4 (!1),ne 2 3 (!1),ne 2 0 (!1),ne 2 1 (!1),ne 3 0 (!1),ne 3 1 (!1)|ne 0 1 (!1)],
  %[o,l,%[_,_|m],hi1|hi2],λb r=>?_|q]
 let d:⇑c<=b:=by
  simp only[Yw,X6,MN]at r;rcases r with rfl|rfl|rfl|rfl|rfl<;> show Pz _ _
 show g.fpOk d (g.hok.fresh d)
end
inductive D where
 | non|bl (b:pp)|int (i:nX)|str (x:iv)|lst (ds:dV D)|tup (ds:dV D)
section
variable{K:ZA}{H H':Hp}
def ah.seqT(e:ah H H')(h:SqT K H a xs):SqT K H' a xs:=by
 rcases h with(h|⟨o,h⟩)|h
 .show .inl (.inl (e _ _ h))
 .show .inl (.inr %[o|e _ _ h])
 .show .inr h
end
def zo{X:Cx}(J:X.N.Nodup)(u:X.N[i]?∣x)(L:Loc X.env.scope x)(M:X.fn x=fI\/X.env.scope.names.lookup x∣.local)
 (w:OI (.ListComp l [%[y,iter,p|0]] a pos) (fx (.Name x B)) f.line X.env=pure fI) (S:aL X a r A) (N:X.calm=fI) (O:∀x,OZ iter X.env x=pure x) (hi:PI X y iter Q)
 (T:∀c d j,PG (cz X a r c d j) y g) (U:∀c d j,PTs (cz X a r c d j) p Y) (he:∀c d j,PE (cz X a r c d j) l te):
 PS X (.Assign [.Name x B] (.ListComp l [%[y,iter,p|0]] a pos) f) (uU (tD Q r.length A g Y te) (lJ i)):=by
 intro ff s σ H D I h;show Z2 (Ph ?_);change oT _ _ (OI (.ListComp l _ a pos) (fx (.Name x B)) f.line X.env>>= _) _ _ _;rw[w];show Z2 (Z3 (Z2 (Z2 (tE S N hi T U he O I h λD' C H5 s6 fl m hn j k q=>?_))));let%[o,es,ep,E,hd|hr]:=id hn;let I7:=(k s6.heap (tI.refl _ _)).pinned (λb n=>(Xn n)▸j) λb n=>by
  rw[Xn n];show%[o,E|λv z=>by lia]
 show Wh (lI I7 J u L (v:= .ref D') rfl (λs8 G=>%[m,%[o,es,ep,((G.pin _ (Yv _ (Yv _ (fZ (Yy.mpr rfl) E)))).1),hd|hr]|λh' sb=>Z3 (Z3 %[_,H5,(G.unpinned).moved (λb n=>(Xn n)▸j) λb o' n e=>(sb.2 b (λz=>n (Yy.mpr z))).trans e|q])]) M)
def BZ(h:(env.blockKind== .function&&env.kindOf x==fx .local&&b.line==pos.line&&!(a.names.any λ(n,k)=>n==x&&(k== .local||k== .cell)))=fI):
 OI (.ListComp c gens a pos) (fx (.Name x b)) l env=pure fI:=by
 change(pure (env.blockKind== .function&&env.kindOf x==fx _&&b.line==pos.line&&!(a.names.any _)))=pure fI;rw[h]
def jJ{X:Cx}(i:hH)(q:X.N.Nodup)(f:X.N[i]?∣x)(r:Loc X.env.scope x)(s:X.fn x=fI\/X.env.scope.names.lookup x∣.local)
 (h:(X.env.blockKind== .function&&X.env.kindOf x==fx .local&&u.line==pos.line&&!(c.names.any λ(n,k)=>n==x&&(k== .local||k== .cell)))=fI) (S:aL X c e j) (v:X.calm=fI) (w:pP iter=fS) (hi:QI X o iter y)
 (z:∀a b d,QG (cz X c e a b d) o g) (A:∀a b d,QTs (cz X c e a b d) l B) (C:∀a b d,QE (cz X c e a b d) m E):
 QS X (.Assign [.Name x u] (.ListComp m [%[o,iter,l|0]] c pos) p) (uU (tD y e.length j g B E) (lJ i)):=
 ⟨zo q f r s (BZ h) S v (m9 w) hi.h (λa b d=>(z a b d).h) (λa b d=>(A a b d).h) (λa b d=>(C a b d).h)⟩
section
#version
end
def cB:Slot "set_iterator" "__next__" "set_iterator.__next__":=
 .of (owner:="set_iterator") (n:="__next__") (by rw[W0,U7];kernel_rfl) (!0) (!0) (!0) (by first|show .inl (!0)|show .inr ∅) (by kernel_rfl)
def iL:Sl Wi "set_iterator.__next__"=fx nI.«set_iterator.__next__»:=entryFor_of_tree (by kernel_rfl)
def jt(a:hV):argsOk "set_iterator.__next__" %[[a]|[]]:=by kernel_rfl
def rQ:Sl Wi "set.__iter__"=fx nI.«frozenset.__iter__»:=TQ (id':="frozenset.__iter__") (by kernel_rfl) rfl (!0) (by kernel_rfl)
def rR(t:lx)(n:hH):(t.orStandIn n).led=t.led:=by unfold lx.orStandIn;split<;> rfl
def zq(t:SetTable)(es:Array _)(h:Int)(x:Value):(layNew t es h x).2.1.led=t.led:=by
 unfold layNew;cases t.freeSlot h with
 | none=>rfl
 | some p=>
   show rR _ _
def vv(t:lx)(es:nY _)(n:hH):(Qy t es n).2.1.led=t.led:=by
 unfold Qy;cases a:t.relaid _ n with
 | none=>rfl
 | some p=>
   let%[t'|c]:=p;simp only
   split
   .simp only[Uh,UR]at a;cases b:T0 _ _ with
    | none=>rw[b]at a;cases a
    | some e=>rw[b]at a;injection a with a;injection a with d f;rw[<-d]
   .rfl
def pU(t:lx)(es:nY _)(n:hH)(c:t.plain=fS):(Qy t es n).2.1.plain=fS:=by
 unfold Qy;cases a:t.relaid _ n with
 | none=>rfl
 | some p=>
   let%[t'|d]:=p;simp only
   split
   .simp only[Uh,UR]at a;cases b:T0 _ _ with
    | none=>rw[b]at a;cases a
    | some f=>rw[b]at a;injection a with a;injection a with e g;show e▸c
   .rfl
abbrev a8(w:vk):pp:=w.params.followText "set-order"
abbrev bH(w:vk)(a:ij)(ks:ZB)(h:v0):Prop:=
 ∃o es b t ss,h.get? a∣o/\o.ExactSet/\o.data= .set es b t/\MF (es.toList\2) ss/\ss.Perm ks/\ks.Nodup/\(∀e∈es.toList,∃z u,e=(Nz w z,.str z u))/\es.size<OK/\t.fits es.size=fI/\(es.size≠0->t.plain=fS)/\t.led=!a8 w
def tK(h:∀e∈l,∃z u,e=(Nz w z,.str z u)):ElemsOf (aX prog w) l:=λe a=>by
 let%[z,u|rfl]:=h e a;show%[%[hY z,eM z u|ρ]|ρ]
def eZ:∀{vs:ZF} {ss:ZB} {z:iv},MF vs ss->((∃u,Mf z u∈vs)↔z∈ss)
 | _,_,z,.nil=>by simp
 | _,_,z,.cons x t h=>by
   let b:=eZ (z:=z) h
   constructor
   .rintro⟨u,a⟩;rcases Yw.mp a with e|e
    .injection e with c _;show c▸Zm
    .show Zk _ (b.mp %[u|e])
   .intro d;rcases Yw.mp d with e|e
    .show e▸%[t|Zm]
    .let%[u|a]:=b.mpr e;show%[u|Zk _ a]
def jK:∀{vs ws:ZF} {ss ts:ZB},MF vs ss->MF ws ts->MF (vs++ws) (ss++ts)
 | _,_,_,_,.nil,h=>h
 | _,_,_,_,.cons x t h,h'=> .cons x t (jK h h')
def cb:∀{vs:ZF} {ss:ZB},MF vs ss-> ~~~vs= ~~~ss
 | _,_,.nil=>rfl
 | _,_,.cons x t h=>by rw[Zr,Zr,cb h]
def cH(h:MF vs ss)(p:ws.Perm vs):∃ts,MF ws ts/\ts.Perm ss:=by
 show%[ws.map strOf,strsAre_map ws λv a=>h.all v (p.mem_iff.mp a)|?_];let:=p.map strOf;rwa[h.strs]at this
section
#where
variable{a:ij}
def bH.stored{h:v0}{o:NQ}{es b:nY (nX×hV)}{t t':lx}(i:h.get? a∣o)(c:o.ExactSet)(d:o.data= .set es f t)(j:MF (b.toList\2) ss)(l:ss.Perm ks)(m:ks.Nodup)
 (n:∀e∈b.toList,∃z u,e=(Nz w z,.str z u)) (p:b.size<OK) (r:t'.fits b.size=fI) (v:t'.plain=fS) (y:t'.led=!a8 w):
 (h.update a (NP b t')).get? a=fx {o with data:= .set b (f+1) t'}/\bH w a ks (h.update a (NP b t')):=by
 let g:=by
  let q:=Mo (NP b t') i (by rw[RC b t' d];rfl);rwa[RC b t' d]at q
 show%[g,_,b,f+1,t',ss,g,c,ρ,j,l,m,n,p,r,λ_=>v|y]
def wN{g:pp->Sem So}(O:∀(b:pp) (h:kj) (q:So->kj->Prop),q () h->↥A (g b) q E h){m:pp}{R:kf pp->kj->Prop}(r:s.heap.get? a∣o)(i:o.ExactSet)(v:o.data= .set es ep t)
 (y:MF (c.toList\2) ss) (B:ss.Perm ks) (C:ks.Nodup) (G:∀e∈c.toList,∃z u,e=(Nz w z,.str z u)) (j:c.size<OK) (Q:d.fits c.size=fI) (H:d.plain=fS) (I:d.led=!a8 w)
 (J:∀h',tI a s.heap h'->bH w a ks h'->R (fx fI) (s>>>h')):
 ↥A (do
  Vi a c d
  if(!m&&d.tooFull)=fI then do
   g (Qy d c (Nj c.size)).2.2
   Vi a (Qy d c (Nj c.size)).1 (Qy d c (Nj c.size)).2.1
   pure (fx fI)
  else pure (fx fI)) R E s:=by
 let%[M|T]:=bH.stored r i v y B C G j Q H I;let N:=tI.update s.heap a (NP c d);show Z2 (NC r v ?_ (NE j))
 split
 .let p:=relayAll_perm d c (Nj c.size);let f:=relayAll_fits d c (Nj c.size);let l:=vv d c (Nj c.size);let pl:=pU d c (Nj c.size) H
  generalize Qy d c _=L at p f l pl ⊢
  let%[n,t3|gv]:=L;let z:n.size=c.size:=by rw[<-Zb,p.length_eq,Zb]
  let%[ts,U|Y]:=cH y (p.map _);show Z2 (O _ _ _ (Z2 (NC M rfl (Z3 (J _ (N.trans (tI.update _ a _)) (bH.stored M i rfl U (Y.trans B) C (λe he=>G e (p.mem_iff.mp he)) (by rw[z];show j) f pl (l.trans I)).2)) (NE (by rw[z];show j)))))
 .show Z3 (J _ N T)
def lN{ks:ZB}(hS:bH w a ks s.heap)(p: ~~~ks+1<OK)
 (hQ:∀h' b,tI a s.heap h'->bH w a (if z∈ks then ks else ks++[z]) h'->Q b (s>>>h')):↥A (UI a (.str z tk) (Nz w z)) Q E s:=by
 let%[o,es,ep,t,ss,B,r,C,f,Y,G,g,hb,hf,ab|c]:=hS;let hn:es.size= ~~~ks:=by
  let q:=cb f;rw[Z6,Zb,Y.length_eq]at q;show q
 let hE:ElemsOf (aX prog w) es.toList:=tK g;let H:(aX prog w).is (hY z) (.str z tk)=fI:=eM z tk;unfold UI setAddHashedIn;show ra (Z2 (on B C hf ?_));dsimp only;rw[byScan_of (knd:=aX prog w) rfl hb hE];simp only[↓reduceIte];unfold setAddByScan;show Z2 (Z2 (Oz (Z2 (Wy H B C hf hE ?_))));let I:(∃e∈es.toList,(aX prog w).is (hY z) e.2=fI)↔z∈ks:=by
  rw[<-Y.mem_iff,<-eZ f]
  constructor
  .rintro⟨e,h,q⟩;let%[y,u|rfl]:=g e h;let q:kH (hY z) (Mf y u)=fI:=q;rcases bh q with⟨i,t',q1,l⟩|⟨y',t',q1,l⟩
   .cases l
   .cases q1;show%[u|Xp ⟨_,h,by injection l with e1 _;rw[e1]⟩]
  .rintro⟨u,hu⟩;let%[e,h|q]:=Xo hu;show%[e,h|q▸eM z u]
 cases hr:V4 _ es.toList with
 | some j=>
   let%[hj,ac|_]:=RA.mp hr;let hz:=I.mp %[es.toList[j],Yd hj|ac];let q:=hQ s.heap fS (tI.refl a s.heap) ((jg hz)▸%[o,es,ep,t,ss,B,r,C,f,Y,G,g,hb,hf,ab|c]);show Z3 (Z3 q)
 | none=>
   let hz:z∉ks:=λq=>by
    let%[e,h|l]:=I.mpr q;let:=SX.mp hr e h;rw[l]at this;cases this
   rw[hX hz]at hQ;let J:=layNew_perm t es (Nz w z) (.str z tk);let lf:=layNew_fits t es (Nz w z) (.str z tk);let ll:=zq t es (Nz w z) (.str z tk)
   generalize hL:layNew t es _ _=L at J lf ll
   let%[v,t1,ak|ag]:=L;rw[Rh]at J;let gone:∀b d Q',Q' () d->↥A (match b with|true=>Ro "set.scan.the-table-gave-way"|false=>pure ()) Q' E d:=λb d Q' q=>by
    cases b
    .show Z3 q
    .show Oz q
   let m:∀e∈v.toList,∃z u,e=(Nz w z,.str z u):=λe h=>by
    rcases Xm (J.mem_iff.mp h)with q|q
    .show g e q
    .rw[Xn q];show%[z,tk|ρ]
   let q1:MF ((es.toList++[(Nz w z,Mf z tk)])\2) (ss++[z]):=by
    rw[Zd];show jK f (.cons z tk .nil)
   let%[ts,l|q3]:=cH q1 (J.map _);let M:=q3.trans (Y.append_right _);let n:=oY G hz;let ae:v.size=es.size+1:=by rw[<-Zb,J.length_eq,Z9,Zb];rfl
   let N:v.size<OK:=by rw[ae,hn];show p
   let fin:∀h',tI a s.heap h'->bH w a _ h'->↥A _ Q E _:=λh' O T=>Z3 (hQ h' fI O T)
   show Z2 (gone _ _ _ ?_);cases U:t1.plain with
   | true=>
     show Z2 (Z3 (wN gone B r C l M n m N (lx.fits_plain_off lf) rfl (ll.trans c) λh' O T=>fin h' O T))
   | false=>
     show wN gone B r C l M n m N lf U (ll.trans c) λh' O T=>fin h' O T
def wO(d:bH w a ks s.heap)(c: ~~~ks+1<OK)
 (e:∀h' b,tI a s.heap h'->bH w a (if z∈ks then ks else ks++[z]) h'->Q b {s with heap:=h',toks:=s.toks+1}):↥A (UJ a (.str z tk)) Q E s:=by
 show ra (Z2 (Wz (lN d c e)))
end
abbrev oM(ks:ZB)(z:iv):ZB:=if z∈ks then ks else ks++[z]
abbrev ba(ss:ZB):ZB:=ss.foldl oM []
def DT(ks:ZB)(z:iv): ~~~(oM ks z)<= ~~~ks+1:=by
 unfold oM;split
 .lia
 .show Z9▸Zi _
def DU:y∈oM ks z↔y∈ks\/y=z:=by
 unfold oM;by_cases h:z∈ks
 .rw[jg h]
  simp_all
 .rw[hX h,Yt,Yy]
def zt(h:ks.Nodup):(oM ks z).Nodup:=by
 unfold oM;by_cases a:z∈ks
 .rw[jg a];show h
 .rw[hX a];show oY h a
def wP:∀{ss ks:ZB} {y:iv},y∈ss.foldl oM ks↔y∈ks\/y∈ss
 |[],ks,y=>by simp
 | z::r,ks,y=>by
   rw[Y8,wP,DU,Yw]
   grind
def pV:∀{ss ks:ZB},ks.Nodup->(ss.foldl oM ks).Nodup
 |[],_,h=>h
 | z::r,ks,h=>by
   rw[Y8];show pV (zt h)
def a9:y∈ba ss↔y∈ss:=by unfold ba;rw[wP];simp
def dD(ss:ZB):(ba ss).Nodup:=pV X3
def wQ:∀(ss ks:ZB),~~~(ss.foldl oM ks)<= ~~~ks+ ~~~ss
 |[],ks=>by simp
 | z::r,ks=>by
   let a:=wQ r (oM ks z);let b:=DT ks z;rw[Y8,Zr]
   lia
def wR{ss:ZB}{i:hH}{z:iv}(h:ss[i]?∣z):ba (ss.take (i+1))=oM (ba (ss.take i)) z:=by
 unfold ba;rw[X9,h,UW];rfl
def bH.keep(S:bH w a ks h)(k:∀o,h.get? a∣o->h'.get? a∣o):bH w a ks h':=by
 let%[o,es,b,t,ss,c|r]:=S;show%[o,es,b,t,ss,k o c|r]
section
variable{prog:nz}{w:vk}{A:vj}{R:SV->kj->Prop}{I:ij}{fp wr:dV ij}{G:nY RB->nY RB->Prop}{n:hH}{P:hH->hV->Prop}{St:hH->kj->Prop}
def wS(W:WalksS prog w A.in1 I fp wr G n P St)(S:ij)(f:S∉fp){T:hH->v0->Prop}{V:v0->Prop}(tk:∀i h h',T i h->(∀o,h.get? S∣o->h'.get? S∣o)->T i h')(u:∀h h',V h->(∀b o,b≠S->b∉wr->h.get? b∣o->h'.get? b∣o)->V h')
 (add:∀i v (a:kj) (Q:pp->kj->Prop) (E:ZD),P i v->T i a.heap->V a.heap->(∀h' b t,tI S a.heap h'->T (i+1) h'->a.toks<=t->Q b {a with heap:=h',toks:=t})->↥A.in1 (UJ S v) Q E a):
 ∀(k i:hH) (s:kj),n-i=k->i<=n->St i s->T i s.heap->V s.heap->
  (∀s',Moved (S::wr) G s s'->T n s'.heap->R (.ok (.ret .none)) s')->Pm (MU prog w) A (.builtin "set.update.loop" %[[.ref S,.ref I]|[]]) R s:=by
 let out:S∉wr:=λh=>f (W.sub _ h)
 let more:∀b∈wr,b∈S::wr:=λb c=>Zk _ c
 intro k
 induction k with
 | zero=>
   intro i s B hi st j y fin;let e:i=n:=by lia
   subst e;show MT Ud ?_;rw[MK Qr _];change oT _ A.in1 (OT (.ref I)>>= _) _ _ s;show Z2 (W.done s _ _ st λa d=>?_);change oT _ A.in1 (ret M0) _ _ a;show Z3 (fin a (d.mono more) (tk _ _ _ j λo e=>d.heap S o out e))
 | succ k C=>
   intro i s B hi st j y fin;let lt:i<n:=by lia
   show MT Ud ?_;rw[MK Qr _];change oT _ A.in1 (OT (.ref I)>>= _) _ _ s;show Z2 (W.item i s _ _ lt st λv a pv l d=>?_);let g:=u _ a.heap y λb o _ c e=>d.heap b o c e
   show Z2 (ra (add i v a _ _ pv (tk _ _ _ j λo e=>d.heap S o out e) g λL b M m p z=>Z3 %[Nt Qr _|C (i+1) _ ⋯ lt (W.frame _ a _ _ l z λb c o e=>?_) p (u _ _ g λb o n _ e=>(m.2 b n).trans e) λH J r=>?_]))
   .show(m.2 b (λq:b=S=>f (q▸c))).trans e
   .show fin H (Moved.trans W.gtrans ((d.mono more).then_heap z λb o c e=>(m.2 b (λq:b=S=>c (q▸Zm))).trans e) J) r
end
section
#where
noncomputable abbrev bV(w:vk):NQ:={cls:= .type "set",dict:=eH,data:= .set #[] 0 (.fresh 0 0 (!a8 w))}
def DV(a:hV)(h:Q₁ (.ref ⇑s) (s>>>s.heap.push (bV w))):
 Pm (MU prog w) A (.call (.builtin "set.__new__") %[[.type "set",a]|[]]) (wants Q₁ E) s:=by
 show Tg ?_;change oT _ A.in1 _ _ _ s;show Z2 (S3 (PySem.F.newCall_set_1 a) (Z3 %[Nt PySem.F.plain_set_new _|MT PySem.F.entry_set_new ?_]));unfold nI.«set.__new__» VE;let b:=sub_set_self;let%[c,g,d,tk|os]:=s;dsimp only
 wp_walk
 show MV (Z3 ?_);dsimp only;simp only[newObj];show Z2 (wpAny_alloc (Z3 (Z3 h)))
def bH.empty(e:h.get? a∣bV w):bH w a [] h:=
 %[_,#[],0,_,[],e,%[rfl,rfl|rfl],rfl,.nil,.nil,X3,λe b=>by simp at b,!1,rfl,λq=>m4 rfl q|rfl]
def nW{T:hH->v0->Prop}(hh:A.handled=eH)(hl:s.heap.IsList l a)(t0:∀h,h.get? ⇑s∣bV w->T 0 h)(tk:∀i h h',T i h->(∀o,h.get? ⇑s∣o->h'.get? ⇑s∣o)->T i h')
 (add:∀i v (j:kj) (Q:pp->kj->Prop) (E:ZD),a[i]?∣v->T i j.heap->(∀b o,s.heap.get? b∣o->j.heap.get? b∣o)->(∀h' b t,tI ⇑s j.heap h'->T (i+1) h'->j.toks<=t->Q b {j with heap:=h',toks:=t})->↥A.in1.in1.in1 (UJ ⇑s v) Q E j)
 (hQ:∀(h':v0) (tk:hH),T a.size h'->(∀b o,s.heap.get? b∣o->h'.get? b∣o)->Q (.ref ⇑s) {s with heap:=h',toks:=tk}):
 ↥A (call (.type "set") [.ref l]) Q E s:=by
 let%[c,tl|ac]:=Pd.mro;let H:=Pd.made;let ae:=Pd.sub;show N6 (Tg ?_);change oT _ _ (callAny (.type "set") _) _ _ _;show Z3 %[Rb _ (!0)|MT F.entry_type_call ?_];rw[vj.under_plain (weight_type_call_type "set" [.ref l] []) rfl];let ak:=Pd.notType;let al:=Pd.canCreate;let an:=PySem.F.typeCall_set_1 (.ref l)
 repeat any_goals first|assumption|wp_step
 show codeAny_mono (DV (.ref l) (E:=E) (Q₁:=λobj m=>obj= .ref ⇑s/\m=(s>>>s.heap.push (bV w))) %[rfl|rfl]) λr m I=>?_
 cases r with
 | error e=>show I
 | ok fl=>
   cases fl with
   | ret obj=>
     let%[rfl|rfl]:=I;let gS:(s.heap.push (bV w)).get? ⇑s∣bV w:=Zj _ rfl;let tS:Q2 (s>>>s.heap.push (bV w)) (.ref ⇑s) "set":=%[_,gS|rfl]
     let ao:=Pd.init.lookup;let ap:=Pd.init.bind (.ref ⇑s)
     repeat any_goals first|assumption|wp_step
     show codeAny_mono (N9 (R:=wants (λr n=>r= .none/\∃h' tk,n={s with heap:=h',toks:=tk}/\T a.size h'/\(∀b o,s.heap.get? b∣o->h'.get? b∣o)) E) Pd.init.plain F.entry_set_init (check_set_init_1 tS ?_)) λy n d=>?_
     .let%[ol,gl,cl,nl|dl]:=hl;let%[ag,p,J|g]:=ol;simp only at cl dl;subst cl;subst dl;let L:(s.heap.push (bV w)).get? l=fx {cls:= .type "list",dict:=p,data:= .seq a nl,slots:=g}:=Z7 _ gl;let aq:=PySem.F.sub_list_set;let as:=PySem.F.sub_list_frozenset;let ax:(MG "list"==MG "dict")=fS:=!1
      let z:(s.heap.push (bV w)).IsList l a:=%[_,L,rfl,nl|rfl]
      unfold nI.«set.__init__»;unfold noKeywords;unfold VB
      generalize M:UL=PI
      wp_walk
      subst M;show N2 z (Z2 (Tv ?_));let B:l<⇑s:=Zu gl;let h3:A.in1.in1.in1.handled=eH:=by simp[hh]
      let C:(s.heap.push (bV w)).objs.size=⇑s+1:=Zq ..;let N:l≠(s.heap.push (bV w)).objs.size:=by rw[C];show Zs (Yn B)
      let O:⇑s∉[(s.heap.push (bV w)).objs.size,l]:=by
       rw[C];simp only[Yw,X6,MN,OW];show%[Zs (Yo _)|Yz B]
      show wS ((Ug h3 _ l N a).toS) ⇑s O (V:=λh=>∀b o,s.heap.get? b∣o->h.get? b∣o) tk (λh h' v k b o e=>?_) (λi v j Q E pv t v' q=>add i v j Q E pv t v' q) (a.size-0) 0 _ ⋯ (Xe _)
       %[%[_,Zj _ rfl,rfl|rfl]|z.push _] (t0 _ (Z7 _ gS)) (λb o e=>Z7 _ (Z7 _ e)) ?_
      .let f:=Zu e;show k b o (Zs f) ?_ (v b o e);simp only[Yw,X6,MN,C];show Zs (Yn f)
      intro s3 G U;let%[h',g',d',Y|ab]:=s3;let eg:g'=s.gens:=G.gens;let ed:d'=s.drawn:=G.drawn;let eo:ab=s.os:=G.os;subst eg;subst ed;subst eo;show Z3 ?_;change oT _ _ (ret M0) _ _ _;show Z3 %[rfl,h',Y,rfl,U|λb o e=>?_];let f:=Zu e;show G.heap b o ?_ (Z7 _ (Z7 _ e));simp only[Yw,X6,MN,OW,C];show%[Zs f|Zs (Yn f)]
     .cases y with
      | error e=>show d
      | ok u=>
        cases u with
        | ret r=>
          let%[rfl,h',tk,rfl,U|k3]:=d
          repeat any_goals first|assumption|wp_step
          show hQ _ _ U k3
        | _=>show d.elim
   | _=>show I.elim
end
section
variable{X:Cx}{K:ZA}
abbrev oN(w:vk)(a:ij)(ks:ZB):HO:= .ext (bH w a ks)
def DW(y:X.calm=fI):cO X (.type "set") (λxs H Q=>dh xs λg=>asR g λp=>∃ss,Qb X.K H p (ss\3)/\ ~~~ss<=4000/\∀l,H l=eH->Q (.ref l) (Qa H l (oN X.w l (ba ss)))):=by
 intro ff s M H xs us Q I r h;let%[g,rfl|a]:=ck h;let%[p,rfl|c]:=aU a;let%[ss,z,N|q]:=c;let%[u,rfl|A]:=dA r;cases A;let%[its,j,pl|O]:=I.list z;let d:=i5 j;let m:its.toArray.size= ~~~ss:=cb d;show nW (T:=λi h=>bH X.w ⇑s (ba (ss.take i)) h) (I.ok.hd y) pl.isList (λh e=>bH.empty e) (λi h h' S k=>S.keep k) (λi v U Q E n B _ k=>?_) λh' tk S k=>?_
 .let lt:i< ~~~ss:=m▸(vi.mp n).1;let%[u,C,t|rfl]:=j.get (i:=i) (x:= .str ss[i]) (by simp[lt]);obtain rfl:v=_:=Za (n.symm.trans ↑C);let q:=wQ (ss.take i) [];rw[Yl]at q;show wO B (by change(ba (ss.take i)).length+1<4096;unfold ba;simp only[TK]at q;lia) λw b G f=>k w b _ G ?_ (Yg _)
  rw[wR (Z4 lt)];show f
 .rw[m,Zn (Zi _)]at S;show%[.ref ⇑s,_,I.laid (o:=oN X.w ⇑s _) k (Zi _) %[S,?_|λY w J k1=>J.keep k1],ρ|q _ I.fresh];let%[o,_,_,_,_,L|_]:=S;show%[o|L]
def DX(h:X.K=K)(hw:X.w=w)(a:X.calm=fI):cG X (.type "set") (λxs H Q=>dh xs λb=>asR b λp=>∃ss,Qb K H p (ss\3)/\ ~~~ss<=4000/\∀l,H l=eH->Q (.ref l) (Qa H l (oN w l (ba ss)))):=by subst h;subst hw;show⟨DW a⟩
end
def i9:∀{xs:dV a} {i:hH} (h:i< ~~~xs),(xs[i]::xs.eraseIdx i).Perm xs
 | x::r,0,_=>by simp
 | x::r,i+1,h=>by
   show(Um _ _ _).trans (.cons _ (i9 ↑h))
section
#where
def B0(a:n≠0)(h:∀i d,i<n->Q i {s with drawn:=d}):↥A (choose b n) Q E s:=by
 intro c p _;show%[a|h _ _ (SM _ (P7 a))]
def vw:∀(n:hH) (xs:dV b) (s:kj) (Q:dV b->kj->Prop),~~~xs<=n->(∀ys d,ys.Perm xs->Q ys {s with drawn:=d})->↥A (drawOrder n xs) Q E s
 | 0,xs,s,Q,a,h=>by
   let e:=y2.mp (le_zero.mp a);subst e;show Z3 (h [] s.drawn .nil)
 | n+1,[],s,Q,a,h=>Z3 (h [] s.drawn .nil)
 | n+1,x::r,s,Q,a,h=>by
   unfold drawOrder;show Z2 (B0 ∅ λi d hi=>?_);rw[(Z4 hi)];show Z2 (vw n _ _ _ (by rw[Uc];simp only[hi];simp_all) λys c p=>Z3 (h _ c ((Uo _ p).trans (i9 hi))))
end
def AA(next:hH->hH):∀(fuel k:hH) (left:dV a) (out:nY a),~~~left<=fuel->(Sh next fuel k left out).toList.Perm (out.toList++left)
 | 0,k,left,out,h=>by
   let e:=y2.mp (le_zero.mp h);subst e;rw[Zx];show .refl _
 | fuel+1,k,[],out,h=>by
   unfold Sh;simp
 | fuel+1,k,x::r,out,h=>by
   unfold Sh;let hi:next k% ~~~(x::r)< ~~~(x::r):=SM _ ∅;rw[Z4 hi];show(AA next fuel _ _ _ (by rw[Uc];simp_all)).trans ?_;rw[Rh,Ze];show(M3 _).append (i9 hi)
def tL(next:hH->hH)(xs:nY a):(NN next xs).toList.Perm xs.toList:=by
 let:=AA next xs.size 0 xs.toList #[] ∅;simpa [NN]using this
def tM(p j:hH):Oc #[p] j=if p<j then 1 else 0:=by
 unfold Oc;simp only[Zp,Zr];unfold TW;simp
 split<;>(rfl)
def zu(j:hH):Oc #[] j=0:=rfl
def tN{a:Type}{xs:nY a}(h:xs.size=1):∃p,xs= #[p]:=by
 obtain⟨l⟩:=xs
 match l,h with
 |[p],_=>show%[p|ρ]
abbrev SIt(w:vk)(I S T:ij)(o:NQ)(es:nY (nX×hV))(b:hH)(t:lx)(a:ZF)(i:hH)(h:v0):Prop:=
 h.get? S∣o/\∃first,h.get? I=fx {cls:= .type "set_iterator",dict:=eH,data:= .fields #[first,Mu i,.ref S,Mu es.size,Mu b],slots:= #[]}/\
  ((a8 w=fI/\first=Mu 0/\a=(NN (w.params.setOrder S b) es).toList\2)\/
   (a8 w=fS/\first= .ref T/\T≠I/\∃ps:dV hH,h.get? T=fx {cls:= .type "tuple",data:= .seq (ps.map λ(i:hH)=>Mu i).toArray}/\ ~~~ps= ~~~a/\∀(j p:hH),ps[j]?∣p->∃e,es[p]?∣e/\a[j]?∣e.2)\/
   (a8 w=fS/\es.size<=1/\a=es.toList\2/\(i=0->first=Mu 0)/\(i=1->∃p:hH,t.place[0]?∣p/\first=Mu (p+1))))
def SIt.is{w:vk}{I S T:ij}{o:NQ}{es:nY _}{b:hH}{t:lx}{a:ZF}{i:hH}{s:kj}(h:SIt w I S T o es b t a i s.heap):s.TypeIs (.ref I) "set_iterator":=by
 let%[_,f,c|_]:=h;show%[_,c|ρ]
section
#where
variable{I S T:ij}{o:NQ}{es:nY (nX×hV)}{ep:hH}{t:lx}{ord:ZF}
def zv{i:hH}{v:hV}{Q:kf hV->kj->Prop}(y:o.data= .set es ep t)(h:t.fits es.size=fI)(z:t.led=!a8 w)(j:S≠I)(st:SIt w I S T o es ep t ord i s.heap)(f:ord[i]?∣v)(hn: ~~~ord=es.size)
 (hQ:∀h',SIt w I S T o es ep t ord (i+1) h'->tI I s.heap h'->Q (fx v) (s>>>h')):↥A (OT (.ref I)) Q E s:=by
 let hT:=st.is;let%[g,first,U|m]:=st;unfold OT;show Z2 (Nr (Nh (name:=!"__next__") hT cB (My cB hT iL ?_ (jt _))));unfold nI.«set_iterator.__next__»;show Z2 (m:=slotArgs _ _ _) (Z3 ?_);show Z2 (Rf U rfl ?_);change oT _ _ (setEntries S>>= _) _ _ _;show Z2 (Oe g y h ?_);rw[hX ∅];rcases m with⟨c,rfl,B⟩|⟨c,rfl,C,ps,G,ab,H⟩|⟨c,h1,B,f0,f1⟩
 .change oT _ _ (QY S 0 i ep>>= _) _ _ _;show Z2 ?_;unfold QY;show Z2 (on g y h ?_);show Z2 (Z2 (MV (Z3 ?_)));change oT _ _ (if a8 w=fI then _ else _) _ _ _;rw[jg c];dsimp only;rw[hX (show ¬ ((ep != ep)=fI) by simp)];show Z2 ?_;unfold setWalk;show Z2 (on g y h ?_);show Z2 (Z2 (MV (Z3 ?_)));change oT _ _ (if a8 w=fI then _ else _) _ _ _;rw[jg c];show Z2 (MV (Z3 (Z3 ?_)));let d:(NN (w.params.setOrder S ep) es)[i]?.map (·.2)∣v:=by
   rw[B]at f;simpa using f
  cases u:(NN (w.params.setOrder S ep) es)[i]? with
  | none=>rw[u]at d;cases d
  | some e=>
    rw[u]at d;let J:e.2=v:=↑d
    change oT _ _ (match((NN (w.params.setOrder S ep) es)[i]?).map λe=>(e.2,0)with|fx (x,next)=>_|none=>_) _ _ _;rw[u];show Z2 (yu U ∅ λL b a=>?_);show Z2 (yu (s:=(s>>>L)) b ∅ λM l n=>?_);rw[J];let N:tI I s.heap M:=a.trans n;show Z3 %[v,rfl|Z3 (hQ M %[(N.2 S j).trans g,_,l|.inl %[c,rfl|B]] N)]
 .show Z2 (Ms G rfl ?_);let hi:i< ~~~ord:=(Xl f).1;let ac:i< ~~~ps:=by lia
  let%[e,Y|ae]:=H i ps[i] ∅;let J:e.2=v:=by rw[ae]at f;show Za f
  let O:(ps.map λ(i:hH)=>Mu i).toArray[(i:nX).toNat]?∣Mu ps[i]:=by simp[ac]
  dsimp only;rw[O];change oT _ _ (setNextDrawn S ps[i] ep>>= _) _ _ _;show Z2 ?_;unfold setNextDrawn;show Z2 (on g y h ?_);dsimp only;rw[hX (show ¬ ((ep != ep)=fI) by simp),Y];show Z3 ?_;show Z2 (yu U ∅ λL b a=>?_);rw[J];show Z3 %[v,rfl|Z3 (hQ L %[(a.2 S j).trans g,_,b|.inr (.inl %[c,rfl,C,ps,(a.2 T C).trans G,ab|H])] a)]
 .let hi:i< ~~~ord:=(Xl f).1;let i0:i=0:=by lia
  subst i0;let f0:=f0 rfl;subst f0;let e1:es.size=1:=by lia
  let pz:t.place.size=1:=by
   simp only[N3,Zv,NG,Mg]at h;rw[h.1,e1]
  let%[p|u]:=tN pz;obtain⟨e,Y⟩:∃e,es[0]?∣e:=%[es[0]|by simp]
  let J:e.2=v:=by
   rw[B]at f;let:(es[0]?)\2∣v:=↑f
   rw[Y]at this;simpa using this
  change oT _ _ (QY S 0 0 ep>>= _) _ _ _;show Z2 ?_;unfold QY;show Z2 (on g y h ?_);change oT _ _ (if a8 w=fI then _ else _) _ _ _;rw[hX (by rw[c];decide)];dsimp only
  split
  .rename_i r
   change (!t.plain&&decide (es.size>1))=fI at r;rw[e1]at r;simp at r
  .show Z2 (m:=(if(!t.led&&!es.isEmpty)=fI then Pq "set:maker-not-led" else pure ())) ?_;rw[z,c];show Z3 ?_;rw[u,tM];simp only[X4,↓reduceIte,Y];show Z3 ?_;change oT _ _ (P4 (.ref I) 0 (Mu ((p+1:hH):nX))>>= _) _ _ _;show Z2 (yu U ∅ λL b a=>Z2 (yu (s:=(s>>>L)) b ∅ λM l n=>?_));rw[J];let N:tI I s.heap M:=a.trans n;show Z3 %[v,rfl|Z3 (hQ M %[(N.2 S j).trans g,_,l|.inr (.inr %[c,⋯,B,λq=>by lia|λ_=>%[p,by rw[u];rfl|rfl]])] N)]
def wU{c:Type}{Q:c->kj->Prop}(d:A.handled=eH)(f:∀h' e,(∀b o,s.heap.get? b∣o->h'.get? b∣o)->(∃o,h'.get? e∣o/\o.cls= .type "StopIteration")->E (.ref e) (s>>>h')):
 ↥A (newExc (.type "StopIteration") []>>= λe=>(Vm e)) Q E s:=by
 show Z2 ?_;show Z2 (ME ?_ (by size_fits));show Z2 (S3 (a:=M0) (by first|rfl|lia) (ME (VI d (f _ _ (λb o e=>Z7 _ (Z7 _ e)) %[_,Zj _ rfl|rfl])) (by size_fits)))
def B1{i:hH}{Q:kf hV->kj->Prop}(hh:A.handled=eH)(u:o.data= .set es ep t)(h:t.fits es.size=fI)(l:t.led=!a8 w)(st:SIt w I S T o es ep t ord i s.heap)(hi:i= ~~~ord)(hn: ~~~ord=es.size)
 (hQ:∀h',(∀b o,b≠I->s.heap.get? b∣o->h'.get? b∣o)->Q eH (s>>>h')):↥A (OT (.ref I)) Q E s:=by
 let Y:=st.is;let%[y,first,z|m]:=st;let H:A.in1.handled=eH:=hh;let fin:∀(g:v0) (Q':Fin->kj->Prop),tI I s.heap g->↥A.in1 (newExc (.type "StopIteration") []>>= λe=>(Vm e:Sem Fin)) Q' (λe s'=>↥A (do
  if(<-R3 e (.type "StopIteration"))then pure eH else throw e) Q E s') (s>>>g):=λg Q' sb=>by
  show wU H λh' e k ⟨oe,he,hc⟩=>?_
  show Z2 (NM (T:="StopIteration") (b:=fI) %[oe,he|hc] TN (Z3 (hQ h' λb o n q=>k b o ((sb.2 b n).trans q))))
 unfold OT;show Z2 (Nr (Nh (name:=!"__next__") Y cB (My cB Y iL ?_ (jt _))));unfold nI.«set_iterator.__next__»;show Z2 (m:=slotArgs _ _ _) (Z3 ?_);show Z2 (Rf z rfl ?_);change oT _ _ (setEntries S>>= _) _ _ _;show Z2 (Oe y u h ?_);rw[hX ∅];rcases m with⟨j,rfl,eo⟩|⟨j,rfl,ab,ps,J,ac,ae⟩|⟨j,h1,eo,L,M⟩
 .change oT _ _ (QY S 0 i ep>>= _) _ _ _;show Z2 ?_;unfold QY;show Z2 (on y u h ?_);show Z2 (Z2 (MV (Z3 ?_)));change oT _ _ (if a8 w=fI then _ else _) _ _ _;rw[jg j];dsimp only;rw[hX (show ¬ ((ep != ep)=fI) by simp)];show Z2 ?_;unfold setWalk;show Z2 (on y u h (Z2 (Z2 (MV (Z3 ?_)))));change oT _ _ (if a8 w=fI then _ else _) _ _ _;rw[jg j];show Z2 (MV (Z3 (Z3 ?_)));let B:(NN (w.params.setOrder S ep) es)[i]? =eH:=by
   rw[nY.getElem?_eq_none_iff,hi,eo,Z6,Zb];show Zi _
  change oT _ _ (match((NN (w.params.setOrder S ep) es)[i]?).map λe=>(e.2,0)with|fx (x,next)=>_|none=>_) _ _ _;rw[B];change oT _ _ (P4 (.ref I) 2 .none>>= _) _ _ _;show Z2 (yu z ∅ λC _ c=>fin C _ c)
 .change oT _ _ (Us (.ref T)>>= _) _ _ _;show Z2 (Ms J rfl ?_);let r:(ps.map λ(i:hH)=>Mu i).toArray[(i:nX).toNat]? =eH:=by simp;lia
  dsimp only;rw[r];show Z2 (yu z ∅ λC N c=>Z2 (yu N ∅ λg2 _ O=>fin g2 _ (c.trans O)))
 .let done:∀slot:hH,first=Mu slot->Oc t.place slot=es.size->↥A.in1 (QY S slot i ep) (λa s'=>a=eH/\s'=s) (λ_ _=>G2) s:=by
   intro slot _ n;unfold QY;show Z2 (on y u h ?_);change oT _ _ (if a8 w=fI then _ else _) _ _ _;rw[hX (by rw[j];decide)];dsimp only
   split
   .rename_i d
    change (!t.plain&&decide (es.size>1))=fI at d;let:decide (es.size>1)=fS:=Zh ⋯;rw[this,M7]at d;cases d
   .show Z2 (m:=(if(!t.led&&!es.isEmpty)=fI then Pq "set:maker-not-led" else pure ())) ?_;rw[l,j];show Z3 ?_;rw[n,show es[es.size]? =eH by simp];show Z3 %[rfl|rfl]
  let go:∀slot:hH,first=Mu slot->Oc t.place slot=es.size->↥A.in1 (QY S slot i ep>>= λa=>match a with
   | fx (x,next)=>(do
     P4 (.ref I) 0 (Mu ↑(next))
     P4 (.ref I) 1 (Mu (↑(i)+1))
     ret x)
   | none=>(do
     P4 (.ref I) 2 .none
     let e<-newExc (.type "StopIteration") []
     Vm e)) (λfin s'=>∃v,fin=Fin.done (Flow.ret v)/\↥A (pure (fx v)) Q E s') (λe s'=>↥A (do
   if(<-R3 e (.type "StopIteration"))then pure eH else throw e) Q E s') s:=by
   intro slot e n;show Z2 (J5 (done slot e n) (λa s' ⟨G,e2⟩=>?_) λ_ _ f=>f.elim);subst G;subst e2;show Z2 (yu z ∅ λC _ c=>fin C _ c)
  let pz:=by
   simp only[N3,Zv,NG,Mg]at h;show h.1
  by_cases e0:es.size=0
  .let i0:i=0:=by lia
   subst i0;let L:=L rfl;subst L;show go 0 rfl ?_;let:t.place= #[]:=RR ⋯;rw[this,zu,e0]
  .let G:es.size=1:=by lia
   let i1:i=1:=by lia
   subst i1;let%[p,B|M]:=M rfl;subst M;show go (p+1) rfl ?_;let%[p'|U]:=tN (by rw[pz,G]:t.place.size=1);rw[U]at B ⊢;let:p'=p:=↑B
   subst this;rw[tM,jg (Yo _),G]
end
def ju:Slot "set_iterator" "__iter__" "set_iterator.__iter__":=
 .of (owner:="set_iterator") (n:="__iter__") (by rw[W0,U7];kernel_rfl) (!0) (!0) (!0) (by first|show .inl (!0)|show .inr ∅) (by kernel_rfl)
def ng:Sl Wi "set_iterator.__iter__"=fx nI.«dict_keyiterator.__iter__»:=TQ (id':="dict_keyiterator.__iter__") (by kernel_rfl) rfl (!0) (by kernel_rfl)
def oO(a:hV):argsOk "set_iterator.__iter__" %[[a]|[]]:=by kernel_rfl
def vx:PZ (.type "set") "__len__"=pure (fx (.builtin "set.__len__")):=by kernel_rfl
section
#where
variable{I S T:ij}{o:NQ}{es:nY (nX×hV)}{ep:hH}{t:lx}{ord:ZF}
def B2(hh:A.handled=eH)(hd:o.data= .set es ep t)(hf:t.fits es.size=fI)(hled:t.led=!a8 w)(hSI:S≠I)(hn: ~~~ord=es.size):
 Walks prog w A I [I,S,T] [I] ord.length (λi v=>ord[i]?∣v) (λi h=>SIt w I S T o es ep t ord i h) where
 sub:=by simp
 frame:=λi h h' st k=>by
  let%[hS,first,hI|m]:=st;show⟨k S ∅ _ hS,first,k I ∅ _ hI,?_⟩;rcases m with m|⟨bt,e,hTI,ps,hTt,r⟩|m
  .show .inl m
  .show .inr (.inl %[bt,e,hTI,ps,k T ∅ _ hTt|r])
  .show .inr (.inr m)
 item:=λi s Q E hi st hQ=>zv (v:=ord[i]) hd hf hled hSI st ∅ hn λh' st' sb=>hQ _ h' s.toks ∅ st' λb o' hb e=>(sb.2 b (λq=>hb (by simp[q]))).trans e
 done:=λs Q E st hQ=>B1 hh hd hf hled st rfl hn λh' k=>hQ h' s.toks λb o' hb e=>k b o' (λq=>hb (by simp[q])) e
 self:=λi s Q E st hQ=>by
  let hT:=st.is;show Sd hT ju (My ju hT ng (Z3 %[_,rfl,"set_iterator",_,hT,cB.lookup|hQ]) (oO _))
def B3(f:s.heap.get? S∣o)(z:o.ExactSet)(B:o.data= .set es ep t)(hb:es.size<OK)(C:t.fits es.size=fI)(G:es.size≠0->t.plain=fS)(O:t.led=!a8 w)
 (hQ:∀(I T:ij) (ord:ZF) (h':v0) d,(∀b o,s.heap.get? b∣o->h'.get? b∣o)->⇑s<=I->S≠I->(T=S\/⇑s<=T)->T<h'.objs.size->I<h'.objs.size-> ~~~ord=es.size->
  SIt w I S T o es ep t ord 0 h'->ord.Perm (es.toList\2)->Q (.ref I) {s with heap:=h',drawn:=d}):↥A (UL (.ref S)) Q E s:=by
 let U:s.TypeIs (.ref S) "set":=%[o,f|z.1]
 let l:S<⇑s:=Zu f;show Sd U Wv (My Wv U rQ ?_ (F.args_set_iter_1 _));unfold nI.«frozenset.__iter__»;show Z2 (m:=VC _ _) (Z2 (m:=slotArgs _ _ _) (Z3 (Z3 ?_)));show Z2 (m:=Q4 S) (Z2 (Oe f B C (Z3 ?_)));show Z2 (m:=setDrawn S) ?_;unfold setDrawn;show Z2 (on f B C (Z2 (Z2 (MV (Z3 (Z3 ?_))))));let fin:∀(first:hV) (a:kj) (T:ij) (ord:ZF),a.heap.get? S∣o->(∃d c,a={s with heap:=c,drawn:=d})->(∀b o,s.heap.get? b∣o->a.heap.get? b∣o)->T<⇑a->⇑s<=⇑a->(T=S\/⇑s<=T)->ord.Perm (es.toList\2)->
  ((a8 w=fI/\first=Mu 0/\ord=(NN (w.params.setOrder S ep) es).toList\2)\/(a8 w=fS/\first= .ref T/\∃ps:dV hH,a.heap.get? T=fx {cls:= .type "tuple",data:= .seq (ps.map λ(i:hH)=>Mu i).toArray}/\ ~~~ps= ~~~ord/\∀(j p:hH),ps[j]?∣p->∃e,es[p]?∣e/\ord[j]?∣e.2)\/(a8 w=fS/\es.size<=1/\ord=es.toList\2/\first=Mu 0))-> ~~~ord=es.size->
  ↥A.in1 (do ret (<-newFields "set_iterator" [first,Mu 0,.ref S,Mu es.size,Mu (<-TB S)])) (λfin s'=>∃v,fin=Fin.done (Flow.ret v)/\∃Y r,s'.TypeIs v Y/\PZ (.type Y) "__next__"=pure (fx r)/\Q v s') (λe s'=>E e s') a:=by
  intro first a T ord c %[d,H|e1] k1 tl sl J u m hn
  subst e1;show Z2 (wpAny_setEpoch_of c B C (Z2 (ME ?_)));let gI:(H.push {cls:= .type "set_iterator",data:= .fields #[first,Mu 0,.ref S,Mu es.size,Mu ep]}).get? H.objs.size∣_:=Zj _ rfl;show Z3 %[_,rfl,"set_iterator",_,%[_,gI|rfl],cB.lookup|hQ H.objs.size T ord _ d (λb o' e=>Z7 _ (k1 b o' e)) sl (Zs (Zu c)) J (by rw[Zq];show Yn tl) (by rw[Zq];show Yo _) hn ?_ u];show⟨Z7 _ c,first,gI,?_⟩;rcases m with m|⟨g,e,ps,L,r⟩|⟨g,M,eo,e⟩
  .show .inl m
  .show .inr (.inl %[g,e,Zs tl,ps,Z7 _ L|r])
  .show .inr (.inr %[g,M,eo,λ_=>e|λq=>m4 q ∅])
 let lst: ~~~(es.toList\2)=es.size:=by rw[Z6,Zb]
 by_cases g:a8 w=fI
 .change oT _ _ (if(!a8 w&&_)=fI then _ else _) _ _ _;rw[g,V9,Oy,hX ∅];show Z2 (Z3 ?_);let n:=(tL (w.params.setOrder S ep) es)\2;show fin (Mu 0) s S _ f %[s.drawn,s.heap|rfl] (λ_ _ e=>e) l (Zi _) (.inl rfl) n (.inl %[g,rfl|rfl]) (by rw[n.length_eq,lst])
 .let y:a8 w=fS:=↑g
  change oT _ _ (if(!a8 w&&(!t.plain&&decide (es.size>1)))=fI then _ else _) _ _ _;by_cases c:es.size>1
  .rw[y,G ⋯,Zf c];show Z2 (vw es.size _ _ _ ∅ λps d h=>Z2 (Re ?_ (by rw[Z6,h.length_eq,Yj];show NE hb)));let lt:∀p∈ps,p<es.size:=λp q=>vu.mp (h.mem_iff.mp q)
   let er:(o0 es.size).map (λp=>((es[p]?)\2).getD .none)=es.toList\2:=by
    apply Qk
    .simp
    .intro i u q2;simp at u;simp[u]
   let n:(ps.map (λp=>((es[p]?)\2).getD .none)).Perm (es.toList\2):=er▸h.map _;show fin _ _ ⇑s _ (Z7 _ f) %[d,_|rfl] (λb o' e=>Z7 _ e) (by rw[Zq];show Yo _) (by rw[Zq];show Yg _) (.inr (Zi _)) n
    (.inr (.inl %[y,rfl,ps,Zj _ rfl,by rw[Z6]|λj p q=>?_])) (by rw[n.length_eq,lst])
   let N:=lt p (Z8 q);show%[es[p],by simp|by simp[q,N]]
  .rw[y,Zh c];simp only[M7,Zz];show fin (Mu 0) s S _ f %[s.drawn,s.heap|rfl] (λ_ _ e=>e) l (Zi _) (.inl rfl) (M3 _) (.inr (.inr %[y,⋯,rfl|rfl])) lst
def lO(hh:A.handled=eH)(u:s.heap.get? S∣r)(a:r.ExactSet)(v:r.data= .set g ap t0)(y:g.size<OK)(z:t0.fits g.size=fI)(B:g.size≠0->t0.plain=fS)(c:t0.led=!a8 w)
 (hQ:∀s' vs,vs.Perm (g.toList\2)->(∀b o,s.heap.get? b∣o->s'.heap.get? b∣o)->s'.gens=s.gens->s'.os=s.os->⇑s<=⇑s'->Q vs s'):↥A (Q0 (.ref S)) Q E s:=by
 unfold Q0;show Z2 (Tv (MT F.entry_proto_collect ?_));rw[MK F.plain_proto_collect _];change oT _ A.in1 (newList []>>= λl=>again (.builtin "list.__iadd__" %[[l,.ref S]|[]])) _ _ s;show Z2 (ME (Z3 %[Nt Qd _|MT F.entry_list_iadd ?_]));rw[MK Qd _];let i:S<⇑s:=Zu u;change oT _ A.in1 (NJ (.ref ⇑s) (.ref S) (.ref ⇑s)) _ _ _;unfold NJ
 generalize O:s.heap.push {cls:= .type "list",data:= .seq ([]:ZF).toArray}=G
 let gS:G.get? S∣r:=by rw[<-O];show Z7 _ u
 let gz:G.objs.size=⇑s+1:=by rw[<-O,Zq]
 let gL:G.get? ⇑s=fx {cls:= .type "list",data:= .seq ([]:ZF).toArray}:=O▸Zj _ rfl;let tS:Q2 (s>>>G) (.ref S) "set":=%[r,gS|a.1]
 show Z2 (QR (T:="set") tS ?_);let n1:RH (.ref ⇑s) (.ref S)=fS:=by
  change(⇑s==S)=fS;show Mp.mpr (Yz i)
 let n2:(MG "set"==MG "list")=fS:=!1
 let n3:(MG "set"==MG "tuple")=fS:=!1
 simp only[n1,n2,n3,V8,Zz,N7];show Z2 (B3 (s:=(s>>>G)) gS a v y z B c λI T ord h d k1 U ab ac aq as hn st q1=>?_);replace k1:∀b o,G.get? b∣o->h.get? b∣o:=k1;replace U:G.objs.size<=I:=U;let ae:h.get? S∣r:=k1 _ _ gS;show Z2 (ra ?_);unfold Q8;let m:Q2 {s with heap:=h,drawn:=d} (.ref S) "set":=%[r,ae|a.1]
 show Z2 (Pt (T:="set") m vx ?_)
 wp_delta
 show Z2 (NM (T:="set") (b:=fI) m (by rw[isSubtype_type];kernel_rfl) ?_);change oT _ A.in1 (Pu (.ref S)>>= _) _ _ _;show Z2 (QR (T:="set") m (Z3 ?_));rw[jg (!1)];show Z2 (Oz ?_);let C:h.get? ⇑s=fx {cls:= .type "list",data:= .seq ([]:ZF).toArray}:=k1 _ _ gL;show Z2 ?_;unfold Xt;show Z2 (Pj (s:={s with heap:=h,drawn:=d}) C rfl ?_ (Xe _) (by change 1<=ku+1;lia));let H:=Mo (MR (·.push M0)) C rfl;show Pj (xs:= #[M0]) (n:=1) (s:={s with heap:=h.update ⇑s (MR _),drawn:=d}) H rfl ?_ (!1) (by change 0<=ku+1;lia);let ag:=Mo (MR (·.pop)) H rfl;let J:∀b o,b≠⇑s->h.get? b∣o->((h.update ⇑s (MR (·.push M0))).update ⇑s (MR (·.pop))).get? b∣o:=λb o Y e=>(J6 _ _ (zr Y)).trans ((J6 _ _ (zr Y)).trans e)
 let ak:=Zs (Zg (by rw[gz];show Yo _) U);let neT:⇑s≠T:=by
  rcases ac with e|e
  .show e▸Yz i
  .show Zs (Zg (gz▸Yo _) e)
 let L:⇑s∉[I,S,T]:=by
  simp only[Yw,X6,MN,OW];show%[ak,Yz i|neT]
 let al: ~~~ord<=ku:=hn▸NE y;let W:=B2 (prog:=prog) (A:=A.in1) (T:=T) (hh) v z c ab hn;let an:=W.frame 0 h _ st λb Y M e=>J b M (λq=>L (q▸Y)) e
 show Z3 %[Nt Vc _|Vs W.toS al _ L _ ord.length 0 _ _ _ rfl (Xe _) an ag (VS _) λs5 acc c5 m5 N f=>?_];show Z2 (Tx N (Z3 ?_));let ea:acc.toList=ord:=by
  apply PD;intro j;by_cases hj:j< ~~~ord
  .let ao:j<acc.size:=f.1▸hj;let:=f.2 j acc[j] ∅;rw[this];simp[ao]
  .let l1: ~~~acc.toList= ~~~ord:=f.1;rw[Xk ⋯,Xk (l:=ord) ⋯]
 rw[ea];show hQ s5 ord q1 (λb M e=>?_) m5.gens m5.os (Yf (Zu N));let p:=Zu e;show m5.heap b M ?_ (J b M (Zs p) (k1 b M (O▸Z7 _ e)));simp only[Yw,X6,MN,OW];show%[Zs p|Zs (Zg p (md (gz▸Yg _) U))]
def wV(f:A.handled=eH)(h:bH w S ks s.heap)
 (i:∀s' vs ss,MF vs ss->ss.Perm ks->(∀b o,s.heap.get? b∣o->s'.heap.get? b∣o)->s'.gens=s.gens->s'.os=s.os->⇑s<=⇑s'->Q vs s'):↥A (Q0 (.ref S)) Q E s:=by
 let%[o,es,ep,t,ss,j,c,l,d,m,n,p,q,r,e|a]:=h;show lO f j c l q r e a λs' vs pv k g os sz=>?_
 let%[ts,u|v]:=cH d pv;show i s' vs ts u (v.trans m) k g os sz
end
section
variable{X:Cx}{ff:ZE}{σ:St}{H:Hp}{s s':kj}
def Qc.keptS(I:Qc X ff σ H s)(k:∀b o,s.heap.get? b∣o->s'.heap.get? b∣o)(c:s'.gens=s.gens)(a:s'.os=s.os):Qc X ff σ H s':=by
 let%[h',l,p,t'|d]:=s';replace a:d=s.os:=a;subst c;subst a;show I.step (ch:=[]) (λb f=>m4 f ∅) (λb o _ _ _ e _=>k b o e) (λb o _ _ _ e _=>%[o.slots|k b o e]) (λ_ _ _ _ n=>n) (λb o _ e=>%[o|k b o e]) (λ_ _ e=>e) (λ_ _ _ e=>e) (λb ps e=>%[#[]|by rw[e];simp]) (λm g=>?_) (λb v e=>?_) I.bare
 .let%[o,es,h,a|r]:=g;show%[o,es,h,k _ o a|r]
 .show(I.hok b v e).stay (λi j _ q=>k i j q) (λ_ q=>q) λ_ _ q=>q
variable{prog:nz}{w:vk}{A:vj}{E:ZD}
variable{S:ij}
end
def aj{D:jC}(h:∀b:jC,(∀a H',u D a H'->b.nx a H')->(∀v H',D.rt v H'->b.rt v H')->t b c H):aW t u D c H:=h _ (λ_ _ x=>x) λ_ _ x=>x
def aE{t:TS}{D:jC}(h:∀b:jC,(∀a H',D.nx a H'->b.nx a H')->(∀v H',D.rt v H'->b.rt v H')->t b c H):t D c H:=h _ (λ_ _ x=>x) λ_ _ x=>x
def iM{K:ZA}{xs:dV V}{g:TG}{h:TS}{D:jC}(Pv:hH->St->Hp->Prop)(l:Pv 0 b H)(n:∀i b H,i<= ~~~xs->Pv i b H->Qb K H a xs)
 (o:∀i x T b H,xs[i]?∣x->Pv i b H->H T=eH->g (.ref T) b (Qa H T (.tup [.int i,x])) λc f=>h {D with nx:=Pv (i+1),ct:=Pv (i+1),bk:=D.nx} c f) (r:∀b H,Pv xs.length b H->D.nx b H):
 ∃W:hH->hH->St->Hp->Prop,(∃m,W 0 m b H)/\∀i m b H,W i m b H->
  ((Ite K a xs).stop i H/\D.nx b H)\/((Ite K a xs).go i H/\∃N:St->Hp->Prop,(∀d H',N d H'->∃j,j<m/\W (i+1) j d H')/\∀x H',(Ite K a xs).yld i H x H'->g x b H' λc f=>h {D with nx:=N,ct:=N,bk:=D.nx} c f):=by
 show%[λi m b H=>m= ~~~xs-i/\i<= ~~~xs/\Pv i b H,%[~~~xs,by simp,Xe _|l]|?_];intro i m b H %[rfl,hi|p];let q:=n i b H hi p;by_cases lt:i< ~~~xs
 .show .inr %[%[q|lt],Pv _,λd H' s=>%[~~~xs-(i+1),⋯,rfl,lt|s]|λv H' y=>?_];let%[x,T,e,u,rfl|rfl]:=y;show o i x T b _ e p u
 .let e:i= ~~~xs:=by lia
  subst e;show .inl %[%[q|Zi _]|r b H p]
section
variable{X:Cx}{K:ZA}{pos:Pos}{a b:wh}{ta tb:TE}
def bL:OpQ X (MP .Add) (rI0 λi j=> .int (i+j)):=⟨C9⟩
def eR:OpQ X (MP .Mult) (rI C8 λi j=> .int (i*j)):=⟨Da⟩
def bS(h:X.K=K)(c:oW b)(d:QE X a ta)(e:QE X b tb):QE X (.Subscript a b pos) (tOp (Jn K) ta tb):=by subst h;show⟨Do Gn d.h e.h c⟩
def B4(c:oW b)(d:QE X a ta)(e:QE X b tb):QE X (.Subscript a b pos) (tOp Jp ta tb):=⟨Do Jr d.h e.h c⟩
end
end _LL
namespace _CU
open PySem _LL PyProof.Rows
abbrev ja:iv:="abcdefghijklmnopqrstuvwxyz"
abbrev gj(c:hH):pp:=decide (c∈ja.cps.toList)
abbrev okc(c:hH):pp:=decide (c=46)||gj c
abbrev nl:iv:="\n"
def Lg:nl=⟨#[10]⟩:=rfl
def tO:gj c=fI↔97<=c/\c<=122:=by
 let e:ja.cps.toList=(o0 26).map (·+97):=!0
 unfold gj;rw[Nx,e,Pi]
 constructor
 .rintro⟨i,h,rfl⟩;let:=vu.mp h
  lia
 .rintro⟨a,b⟩;show%[c-97,vu.mpr ⋯|⋯]
def DY(h:okc c=fI):c≠10:=by
 intro e;subst e
 revert h
 decide +kernel
structure cX (rows:ZB):Prop where
 pos:1<= ~~~rows
 high: ~~~rows<=40
 wide:∃wd,1<=wd/\wd<=40/\∀r∈rows,r.cps.size=wd
 sign:∀r∈rows,r.cps.toList.all okc=fI
 fall:∀i r r',rows[i]?∣r->rows[i+1]?∣r'->∀(j c c':hH),r.cps[j]?∣c->r'.cps[j]?∣c'->c'=46->c=46
 some':∃r∈rows,∃c∈r.cps.toList,c≠46
def lP{x y:iv}(h:x.cps.toList=y.cps.toList):x=y:=by
 obtain⟨⟨l⟩⟩:=x
 simp_all
def fO(sep x y:iv)(r:ZB):(rM sep (x::y::r)).cps.toList=x.cps.toList++sep.cps.toList++(rM sep (y::r)).cps.toList:=by
 change((x.cps++sep.cps) ++(rM sep _).cps).toList=_;rw[Xd,Xd]
def DZ [Mw f]:∀{a b x y:dV f},c∉a->c∉b->a++c::x=b++c::y->a=b/\x=y
 |[],[],_,_,_,_,h=>%[rfl|(NK h).2]
 |[],b::bs,_,_,_,d,h=>m4 (((NK h).1)▸Zm) d
 | a::as,[],_,_,e,_,h=>m4 (((NK h).1)▸Zm) e
 | a::as,b::bs,x,y,e,d,h=>by
   let%[g|i]:=NK h;let%[j|l]:=DZ (λq=>e (Zk _ q)) (λq=>d (Zk _ q)) i;show%[by rw[g,j]|l]
def wW{c:hH}:∀{ps qs:ZB},ps≠[]->qs≠[]->(∀p∈ps,c∉p.cps.toList)->(∀q∈qs,c∉q.cps.toList)->(rM ⟨#[c]⟩ ps).cps.toList=(rM ⟨#[c]⟩ qs).cps.toList->ps=qs
 |[],_,h,_,_,_,_=>m4 rfl h
 | _,[],_,h,_,_,_=>m4 rfl h
 |[p],[q],_,_,_,_,e=>by rw[lP (show p.cps.toList=q.cps.toList from e)]
 |[p],q::f::qs,_,_,a,_,e=>by
  rw[fO]at e;show m4 ?_ (a p Zm);rw[show p.cps.toList=(rM _ [p]).cps.toList from rfl,e];simp
 | p::g::ps,[q],_,_,_,b,e=>by
   rw[fO]at e;show m4 ?_ (b q Zm);rw[show q.cps.toList=(rM _ [q]).cps.toList from rfl,<-e];simp
 | p::g::ps,q::f::qs,_,_,a,b,e=>by
   rw[fO,fO,Ze,Ze]at e;let%[i|j]:=DZ (a p Zm) (b q Zm) e;rw[lP i,wW ∅ ∅ (λx d=>a x (Zk _ d)) (λx d=>b x (Zk _ d)) j]
def zw(a:rows≠[])(h:∀r∈rows,10∉r.cps.toList):Txt.split (rM nl rows) nl=rows:=by
 let e:=StrLaws.join_split (rM nl rows) nl;rw[Lg]at e ⊢;show wW ?_ a (StrLaws.split_free _ 10) h (by rw[e]);intro q;let:=split_pos (rM ⟨#[10]⟩ rows) ⟨#[10]⟩
 simp_all
def cX.nonl(h:cX rows):∀r∈rows,10∉r.cps.toList:=λr a b=>by
 let:=NV.mp (h.sign r a) 10 b;show DY this rfl
def cX.split(h:cX rows):Txt.split (rM nl rows) nl=rows:=
 zw (λe=>by let:=h.pos;simp_all) h.nonl
def Ea:∀{xs:dV b},(∀x∈xs,f x<=B)->(xs.map f).sum<= ~~~xs*B
 |[],_=>by simp
 | x::r,h=>by
   let c:=Ea λy a=>h y (Zk _ a)
   let d:=h x Zm;rw[Yq,V3,Zr,hH.succ_mul]
   lia
def cX.sum(h:cX rows):(rows.map (·.length)).sum<=1600:=by
 let%[c,_,d|a]:=h.wide;let:=Ea (f:=λr:iv=> ~~~r) λr b=>by let:=a r b;change r.cps.size<=40;lia
 let:=h.high
 grind
def cX.text(h:cX rows): ~~~(rM nl rows)<=2000:=by
 let a:=SU nl rows;let b:=h.sum;let c:=h.high;let d:nl.length=1:=rfl
 lia
abbrev sgn(c:hH):iv:=⟨#[c]⟩
def lh{cs:dV hH}(h:∀c∈cs,gj c=fI): ~~~(ba (cs.map sgn))<=26:=by
 let a:∀x∈ba _,x∈ja.cps.toList.map sgn:=λx b=>by
  let%[c,d|e]:=Xo (a9.mp b);show Xp %[c,Zo (h c d)|e]
 let:=dV.Nodup.length_le_of_subset (dD _) a;rw[Z6]at this;let e:ja.cps.toList.length=26:=!0
 lia
abbrev c7(rows:ZB):dV hH:=(rM (!"") rows).cps.toList.filter (λc=>decide (c≠46))
def wX:∀(rows:ZB),(rM (!"") rows).cps.toList=(rows.map (·.cps.toList)).flatten
 |[]=>rfl
 |[x]=>by simp[rM]
 | x::y::r=>by
   let e:(!"").cps.toList=[]:=rfl;rw[fO,wX _,e,Zx];simp
def km(h:∀r∈rows,r.cps.toList.all okc=fI):∀c∈c7 rows,gj c=fI:=λc a=>by
 unfold c7 at a;rw[n7,wX]at a;let%[b|d]:=a;let%[l,e|f]:=RU.mp b;let%[r,g|rfl]:=Xo e;let:=NV.mp (h r g) c f;unfold okc at this;rw[TD]at this;rcases this with q|q
 .show m4 (Zo q) (Zo d)
 .show q
def cX.signs_ne(h:cX rows):c7 rows≠[]:=by
 let%[r,b,c,d|a]:=h.some';let:c∈c7 rows:=by
  unfold c7;rw[n7,wX];show%[RU.mpr %[_,Xp %[r,b|ρ]|d]|Zf a]
 grind
abbrev vy(z:iv):pp:=(decide (1<=(~~~z:nX))&&decide ((~~~z:nX)<=40))&&z.cps.toList.all okc
abbrev gx(row a:iv):pp:=decide (~~~row= ~~~a)&&(No a.cps.toList row.cps.toList).all λp=>!decide (p.2=46)||decide (p.1=46)
def cX.row(h:cX rows)(a:r∈rows):vy r=fI:=by
 let%[b,d,f|c]:=h.wide;let e: ~~~r=b:=c r a;unfold vy;rw[h.sign r a,e,Zf ⋯,Zf ⋯];rfl
def cX.beneath(h:cX rows)(c:rows[i]?∣r)(d:rows[i+1]?∣a):gx a r=fI:=by
 let%[e,n,o|f]:=h.wide;let g: ~~~r=e:=f r (Z8 c);let l: ~~~a=e:=f a (Z8 d);unfold gx;rw[Zf (l.trans g.symm),V7,NV];intro p m;let%[j|b]:=Xf m;rw[Py]at b;let:=h.fall i r a c d j p.1 p.2 (by simpa using b.1) (by simpa using b.2)
 grind
def zx(cs:dV hH):(rM (!"") (cs.map sgn))=⟨cs.toArray⟩:=by
 show lP ?_;rw[wX,Ys];change((cs.map (λc=>[c])).flatten)=cs
 induction cs with
 | nil=>rfl
 | cons c r a=>simp_all
def AB:∀cs:dV hH,((cs.map sgn).map (λx=> ~~~x)).sum= ~~~cs
 |[]=>rfl
 | c::r=>by
   rw[Yq,Yq,V3,AB r,Zr];change 1+ ~~~r= ~~~r+1
   lia
end _CU
namespace _CU
open PySem _LL
end _CU
namespace _LL
open PySem PySem.Spec PyProof.Rows
abbrev Up(B:v0)(l:dV Env)(e:ij)(cls:hV)(b:ZI)(d:kf hV)(h:v0):Prop:=
 B.StaysIn h/\B.get? e=eH/\h.FunFrames B l/\∃a vs,h.get? e∣a/\a.cls=cls/\a.dict=b/\a.data= .fields vs/\1<vs.size/\
  match d with
  | none=>vs[1]?∣.none
  | some f=>∃T c ts,vs[1]?∣.ref T/\B.get? T=eH/\T≠e/\h.get? T∣c/\c.data= .fields ts/\ts[3]?∣f
def tP(o:NQ)(f:ZJ->ZJ):(o.mapFields f).dict=o.dict:=by
 let%[c,d,a|b]:=o;cases a<;> rfl
section
variable{M:Model}{A:vj}{E:ZD}{s:kj}{B:v0}{env:Env}{outer:dV Env}{L e:ij}{cls:hV}{dct:ZI}{Q:So->kj->Prop}
def wY(y:A.frames∣(env::outer))(hf:env.frame∣L)(st:B.StaysIn s.heap)(C:B.get? e=eH)(p:s.heap.FunFrames B (env::outer))
 (he:s.heap.get? e∣u) (N:u.data= .fields vs) (d:1<vs.size)
 (k:∀h',Up B (env::outer) e u.cls u.dict (fx (Mu L)) h'->s.heap.UpToSlots h'->Q () (s>>>h')):
 oT M A (do let a<-frameOf env;let pl<-entryPlaceOf L i;let b<-EntryCells.newEntry O a .none (Mu L) .none pl;P4 (.ref e) 1 b) Q E s:=by
 let G:e∉(env::outer).filterMap _:=λH=>by
  let%[_,o,ho|ab]:=p.mem H
  simp_all
 show Z2 (wpAny_frameOf_fun y p hf λc v=>Z2 (wpAny_entryPlaceOf λpl I=>Z2 (ME ?_ (I.sizeOk5 _ _ _ _ _))))
 generalize j:({cls:= .type _,dict:=eH,data:= .fields _}:NQ)=h
 let T:=(v.2.1 e G).trans he;let U:(c.push h).get? e∣u:=Z7 _ T;show PX U N d ?_;let ne:=Zs (Zu T);let l:=Oh N (·.setIfInBounds 1 (kG c.objs.size));let f:∀b o,b≠e->c.get? b∣o->((c.push h).update e (O5 (·.setIfInBounds 1 (kG c.objs.size)))).get? b∣o:=λb o n q=>by
  rw[J6 _ _ (zr n)];show Z7 _ q
 let m:B.StaysIn c:=λb o q=>(v.2.1 b λH=>by rw[(p.mem H).1]at q;cases q).trans (st b o q)
 let nb:∀b o,s.heap.get? b∣o->(∀ws,o.data≠ .fields ws)->b≠e:=λb o q w z=>by
  simp_all
 let t3:((c.push h).update e (O5 (·.setIfInBounds 1 (kG c.objs.size)))).get? c.objs.size∣h:=by
  rw[J6 _ _ ne];show Zj c (by subst j;rfl)
 let g:∃ts,h.data= .fields ts/\ts[3]?∣Mu L:=by
  subst j;show%[_,ρ|by simp]
 let%[ts,g|J]:=g;show k _ %[λb o q=>f b o (λz=>by lia) (m b o q),C,p.of_keeps λb o q w=>?_,_,_,(Mo _ U (OP l)),RN _ _,tP _ _,l,↑d,c.objs.size,h,ts,?_,m.fresh,zr ne,t3,g|J] λb o q w=>?_
 .let%[Y|r]:=v.2.2 b o q;show%[_,f b _ (nb b o q w) r|ρ]
 .simp[d]
 .let%[Y|r]:=v.2.2 b o q;show%[Y|f b _ (nb b o q w) r]
def AC(st:B.StaysIn s.heap)(r:B.get? e=eH)(y:s.heap.FunFrames B l)
 (C:s.heap.get? e∣c) (G:c.data= .fields vs) (u:1<vs.size) (H:vs[1]?∣.ref T) (v:B.get? T=eH) (d:T≠e) (w:s.heap.get? T∣I) (h:I.data= .fields ts) (J:ts[3]?∣f)
 (k:∀h',Up B l e c.cls c.dict (fx g) h'->h'.get? e∣c->s.heap.UpToSlots h'->Q () (s>>>h')):oT M A (P4 (.ref T) 3 g) Q E s:=by
 let i:=(vi.mp J).1;show PX w h i ?_;let a:∀b,b≠T->(s.heap.update T (O5 (·.setIfInBounds 3 g))).get? b=s.heap.get? b:=λb n=>J6 _ _ (zr n)
 let nb:∀b o,s.heap.get? b∣o->(∀ws,o.data≠ .fields ws)->b≠T:=λb o q p z=>by
  simp_all
 let j:=Oh h (·.setIfInBounds 3 g);let m:=(a e (zr d)).trans C;show k _ %[λb o q=>(a b λz=>by lia).trans (st b o q),r,y.of_keeps λb o q p=>%[o,(a b (nb b o q p)).trans q|rfl],c,vs,m,rfl,rfl,G,u,T,_,_,H,v,d,
  Mo _ w (OP j),j|by simp[i]] m λb o q p=>%[o.slots|(a b (nb b o q p)).trans q]
def AD(i:v=eH\/v∣.none)(b:A.frames∣(env::outer))(j:env.frame∣L)(u:Up B (env::outer) e cls dct v s.heap)
 (k:∀h',Up B (env::outer) e cls dct (fx (Mu L)) h'->s.heap.UpToSlots h'->Q () (s>>>h')):oT M A (noteFrame (.ref e) env) Q E s:=by
 let%[st,c,w,N,vs,h,rfl,rfl,d,a|r]:=u;unfold noteFrame;simp only[j];rcases i with rfl|rfl
 .show Z2 (Nb h d r (wY b j st c w h d a k))
 .let%[T,O,ts,y,l,m,z,f|C]:=r;show Z2 (Nb h d y (Z2 (Nb z f C (Z2 (AC st c w h d a y l m z f C λh' G n H=>?_)))));let%[o,g,p|_]:=G;show wY b j o g p n d a λI J q=>k I J (H.trans q)
def vz(u:Up B l e cls dct (fx f) s.heap)(k:∀h',Up B l e cls dct (fx .none) h'->s.heap.UpToSlots h'->Q () (s>>>h')):
 oT M A (setFlight (.ref e) eH) Q E s:=by
 let%[st,a,m,r,vs,h,rfl,rfl,i,b,T,v,ts,j,c,d,n,g|o]:=u;show Z2 (Nb h i j (AC st a m h i b j c d n g o λh' p _ q=>k h' p q))
def wZ(a:g=eH\/g∣.none)(b:A.frames∣(env::outer))(h:env.frame∣L)(u:Up B (env::outer) e cls dct g s.heap)
 (k:∀h',Up B outer e cls dct (fx .none) h'->s.heap.UpToSlots h'->Q () (s>>>h')):oT M A (leaving env (.ref e)) Q E s:=by
 show Z2 (AD a b h u λn i c=>vz i λj l d=>?_);let%[st,f,%[_,_|m]|r]:=l;show k j %[st,f,m|r] (c.trans d)
end
section
variable{P:nz}{w:vk}{H:Hp}{h:v0}{a:ij}{o:HO}
def cN.there(x:cN P w H h a o):∃b,h.get? a∣b:=by
 cases o with
 | lst xs=>have%[_,_,_,_|e]:=x;show%[_|e]
 | tup xs=>have%[_,_,_,b,e|_]:=x;show%[_|e]
 | dK c=>have%[_,_,_,_,o,_,_,e|_]:=x;show%[_|e]
 | dT c=>have%[_,_,_,_,o,_,_,e|_]:=x;show%[_|e]
 | set S n=>have%[o,_,_,_,e|_]:=x;show%[_|e]
 | ins C d fs=>have%[_,_,_,e|_]:=x;show%[_|e]
 | own y=>have%[_|e]:=x;show%[_|e]
 | xd fs=>have%[_,%[_,_,_,e|_]|_]:=x;show%[_|e]
 | rng lo hi=>have%[_,_,_|e]:=x;show%[_|e]
 | frz b u=>have%[e|_]:=x;show%[_|e]
 | tbl ps=>show%[_|(x)]
 | met f y=>show%[_|(x)]
 | ext g=>have%[_,%[_|e]|_]:=x;show%[_|e]
end
structure Fl (P:nz) (w:vk) (l:dV Env) (H:Hp) (s:kj) (ea:ij) (B:v0) (cls:hV) (dx:ZI) (fl:kf hV) (H':Hp) (s':kj):Prop where
 os:s'.os=s.os
 bare:Qo s'.gens
 un:Un (frs l) [] H H' s.heap s'.heap
 hok:HOk P w H' s'.heap
 up:Up B l ea cls dx fl s'.heap
 free:H' ea=eH
 new:s.heap.get? ea=eH
 inB:∀b ob,s'.heap.get? b∣ob->((∃o,s.heap.get? b∣o)\/∃o,H' b∣o)->b∉frs l->B.get? b∣ob
 frf:∀b∈frs l,H' b=eH
abbrev CXO(P:nz)(w:vk):CXT:=λl H s E e s'=>∃a B cls b H',e= .ref a/\Fl P w l H s a B cls b (fx .none) H' s'/\E cls b H'
section
variable{P:nz}{w:vk}{l:dV Env}{H H':Hp}{s s':kj}{ea:ij}{B h':v0}{cls:hV}{dx:ZI}{fl fl':kf hV}
def Fl.fly(F:Fl P w l H s ea B cls dx fl H' s')(st:B.StaysIn h')(y:s'.heap.UpToSlots h'):Un (frs l) [] H H' s.heap h'/\HOk P w H' h':=by
 let fr:∀b g,s'.heap.get? b∣g->b∈frs l->∃p,h'.get? b∣_:=λb g q a=>by
  let%[_,d,r|z]:=F.up.2.2.1.mem a;rw[q]at r;cases r;show y b g q z
 show%[%[λb o q n a f=>?_,λb o q n a f=>?_,F.un.free,λb o q f=>?_,F.un.tups,F.un.frzs|F.un.tbls]|λb o q=>?_]
 .show st b o (F.inB b o (F.un.keep b o q n a f) (.inl %[o|q]) a)
 .let%[p|e]:=F.un.slot b o q n a f;let%[h|i]:=fr b _ e a;show%[h|i]
 .let%[d|e]:=F.un.there b o q f;by_cases a:b∈frs l
  .let%[p|i]:=fr b d e a;show%[_|i]
  .show%[d|st b d (F.inB b d e (.inl %[o|q]) a)]
 .show(F.hok b o q).stay (λc u j e=>?_) (λ_ e=>e) λ_ _ e=>e
  let A:∃v,H' c∣v:=by
   rcases j with rfl|j
   .show%[_|q]
   .show%[_|j]
  let%[v|m]:=A;show st c u (F.inB c u e (.inr %[v|m]) λa=>by rw[F.frf c a]at m;cases m)
end
section
variable{P:nz}{w:vk}{K:ZA}{mg:ZC}{base:v0}{N:ZB}{qual:iv}{scope:Rw}{f:ij}{cd:hV}{A:vj}{outer:dV Env}{s₀:kj}{H₀:Hp}{E:XK}
def Eb(h:p=eH\/p∣.none)
 (I:Qc (gc (CXO P w) P w K mg base N qual scope f cd A outer s₀ H₀ E) ff G H s) (F:Fl P w (M5 qual scope ⇑s₀ f cd::outer) H s d B cls v p H' s') (q:E cls v H'):
 (gc (CXO P w) P w K mg base N qual scope f cd A outer s₀ H₀ E).xe (.ref d) s':=by
 show wZ h I.ok.frames rfl F.up λh' u L=>?_
 let%[un|i]:=F.fly u.1 L;let J:Qc _ ff G H' (s'>>>h'):=I.call' F.os un i F.bare λb z=>m4 z ∅
 show%[d,B,cls,v,H',ρ,%[J.os,J.bare,J.base,J.hok,u,F.free,?_,λb ob e g M=>?_|λb g=>F.frf b (MX.mpr ?_)]|q]
 .cases z:s₀.heap.get? d with
  | none=>rfl
  | some o=>
    let%[o'|e]:=I.base.there d o z (by simp[gc]);rw[F.new]at e;cases e
 .let O:b∉frs (M5 qual scope ⇑s₀ f cd::outer):=λQ=>by
   rcases Yw.mp (Q)with z|z
   .rcases g with⟨o,c⟩|⟨o,c⟩
    .show m4 (Zu c) (z▸Xj _)
    .let:=J.free;rw[show(gc _ P w K mg base N qual scope f cd A outer s₀ H₀ E).env.locals=b from z.symm,c]at this;cases this
   .show M z
  let j:∃a,s'.heap.get? b∣a/\((∃o,s.heap.get? b∣o)\/∃o,H' b∣o):=by
   rcases g with⟨o,c⟩|⟨o,c⟩
   .let%[y|C]:=I.base.there b o c (by simp[gc]);let%[l|n]:=F.un.there b y C ∅;show%[l,n|.inl %[y|C]]
   .let%[l|n]:=(F.hok b o c).there;show%[l,n|.inr %[o|c]]
  let%[a,T|r]:=j;let U:=F.inB b a T r O;let:=u.1 b a U
  grind
 .let%[Y,m|q]:=MX.mp g;show%[Y,Yw.mpr (.inr m)|q]
def vA(a:∀c d H,b c d H->E c d H):iZ (CXO P w) (gc (CXO P w) P w K mg base N qual scope f cd A outer s₀ H₀ E) b:=by
 intro ff g H s e s' I %[h,B,cls,i,H',rfl,F|q];show Eb (.inr rfl) I F (a _ _ _ q)
end
noncomputable abbrev JL(vs:ZF):NQ:={cls:= .type "tuple",data:= .seq vs.toArray}
noncomputable abbrev Lh(C t:ij):NQ:={cls:= .ref C,data:= .fields #[.ref t,.none,.none,.none,.bool fS,.none]}
noncomputable abbrev zy(h:v0)(C:ij)(vs:ZF):v0:=(h.push (JL vs)).push (Lh C h.objs.size)
def w8(h:v0)(C:ij)(vs:ZF):(zy h C vs).get? (h.objs.size+1)∣Lh C h.objs.size:=by
 heap_get
def iN(b:ij)(o:NQ)(e:h.get? b∣o):(zy h C vs).get? b∣o:=
 Z7 _ (Z7 _ e)
section
variable{prog:nz}{w:vk}{A:vj}{E:ZD}{h:v0}{g:nY RB}{d:Drawn}{t:hH}{os:OsState}
variable{nm q:iv}{C N:ij}{bs bm bmB:ZF}{hdct:pp}{sn:ZB}{sub:ZF}{ab:pp}{col:kf pp}{dd:ZI}{k0 k1 k2 k3 k5:kf hV}{B newId initId:Mv}
def B5(F:ExcBaseFacts B newId initId bmB)(T:OwnTail h bmB bm){rest:ZF}
 (b:h.get? C∣Vp nm q C N bs bm hdct sn sub ab col dd k0 k1 k2 k3 k5 newId) (l:h.Ns N i) (hi:i "__init__"=fx (.ref j)) (c:h.get? j∣m) (e:m.cls= .type "function") (a:rest.length<=ku)
 (n:↥A (call (.ref j) (.ref (h.objs.size+1)::rest)) (λr s'=>r= .none/\Q (.done (.ret (.ref (h.objs.size+1)))) s') E %[zy h C rest,g,d,t|os]):
 ↥A (nI.«type.__call__» %[.ref C::rest|[]]) Q E %[h,g,d,t|os]:=by
 repeat (first|with_reducible show OR b ?_|with_reducible show wpAny_madeBy_exc b ?_|wp_step)
 show codeAny_call_builtin_code (Rb _ F.quiet) (wpAny_check_new_subT F T b ?_);show codeAny_exc_new_subT F T b ?_ a;let c1:=iN (C:=C) (vs:=rest) _ _ b;let o:=iN (C:=C) (vs:=rest) _ _ c;let n1:(zy h C rest).Ns N i:=l.keeps iN;let p:=w8 h C rest;let f:(kG C::bm).contains (.ref C)=fI:=by simp
 unfold R3
 repeat (first|with_reducible show OR p ?_|(with_reducible show VJ c1 ?_;rw[f])|wp_step)
 change oT _ _ (PZ (.ref C) _) _ _ _;show wpAny_typeLookup_tail c1 n1 (T.keeps (h':=zy h C rest) iN) F.mroIs F.init.lookup ?_;rw[hi];show ra (Z2 ?_);unfold bindSpecial;show Z2 (QR (T:="function") %[_,o|e] ?_);rw[jg (!1)];show Z3 (Z2 (J5 n (λr s' s=>?_) λ_ _ x=>x));let%[rfl|u]:=s
 wp_walk
 show u
def B6(F:ExcBaseFacts B newId initId bmB)(T:OwnTail h bmB bm){rest:ZF}
 (b:h.get? C∣Vp nm q C N bs bm hdct sn sub ab col dd k0 k1 k2 k3 k5 newId) (i:h.Ns N j) (hi:j "__init__"=fx (.ref f)) (c:h.get? f∣l) (e:l.cls= .type "function") (a:rest.length<=ku)
 (m:oT (MU prog w) (A.under (.builtin "type.__call__" %[.ref C::rest|[]])) (call (.ref f) (.ref (h.objs.size+1)::rest)) (λr s'=>r= .none/\Q (.ref (h.objs.size+1)) s') E %[zy h C rest,g,d,t|os]):
 ↥A (call (.ref C) rest) Q E %[h,g,d,t|os]:=by
 let n:=tc_lookup;let o:=tc_bind (.ref C);let p:(%[h,g,d,t|os]:kj).TypeIs (.ref C) "type":=%[_,b|rfl]
 show N6 (Tg ?_);change oT _ _ (callAny (.ref C) _) _ _ _
 repeat (any_goals (first|assumption|with_reducible show OR b ?_|wp_step))
 show%[ρ|?_];show codeAny_call_builtin_at (Rb _ (!0)) entry_typeCall (wpAny_check_type_call_sub b (B5 F T b i hi c e a m))
end
noncomputable abbrev veB:ZF:=[.type "ValueError",.type "Exception",.type "BaseException",.type "object"]
abbrev bC:ZF->pp
 | .ref c::r=>bC r
 | l=>l==veB
def kN(self:hV):∀{l:ZF},bC l=fI->refuseLoop self "__setattr__" l=pure ()
 | .ref c::r,e=>by rw[refuseLoop_ref];show kN self e
 | .type n::r,e=>by
   let a:(MG n::r)=veB:=by simpa [bC]using e
   show a▸PySem.F.store_ValueError.passes self
 |[],e=>by simp[bC]at e
 | .none::r,e=>by simp[bC]at e
 | .bool _::r,e=>by simp[bC]at e
 | .int _ _::r,e=>by simp[bC]at e
 | .str _ _::r,e=>by simp[bC]at e
 | .builtin _::r,e=>by simp[bC]at e
 | .float _ _::r,e=>by simp[bC]at e
 | .bytes _ _::r,e=>by simp[bC]at e
 | .ellipsis::r,e=>by simp[bC]at e
 | .notImplemented::r,e=>by simp[bC]at e
def pW(n:Mv)(a:veB.contains (.type n)=fI):∀{l:ZF},bC l=fI->l.contains (.type n)=fI
 | .ref c::r,e=>by rw[UC,pW n a (l:=r) e,RJ]
 | .type m::r,e=>by
   let b:(MG m::r)=veB:=by simpa [bC]using e
   show b▸a
 |[],e=>by simp[bC]at e
 | .none::r,e=>by simp[bC]at e
 | .bool _::r,e=>by simp[bC]at e
 | .int _ _::r,e=>by simp[bC]at e
 | .str _ _::r,e=>by simp[bC]at e
 | .builtin _::r,e=>by simp[bC]at e
 | .float _ _::r,e=>by simp[bC]at e
 | .bytes _ _::r,e=>by simp[bC]at e
 | .ellipsis::r,e=>by simp[bC]at e
 | .notImplemented::r,e=>by simp[bC]at e
abbrev vB(K:ZA)(C:ij):pp:=(clsIn K C).any λa=>bC a.mro
section
#where
variable{K:ZA}{x C:ij}{name:iv}{v:hV}{ox:NQ}{od:kf NQ}
def JM{R:SV->kj->Prop}(X:K.In s.heap)(I:PySem.W.InstAt s.heap x ox C od)(i:vB K C=fI)(j:MD K (.ref C) name∣eH)
 (h:↥A.in1 (Vd (.ref x) (.ref C) (.str name tk) name v fS)
  (λfin s'=>match fin with| .done f=>R (.ok f) s'| .again d=>d.quiet=fI/\Pm (MU prog w) A d R s') (λe s'=>R (.error e) s') s):
 Pm (MU prog w) A (.call (.builtin "object.__setattr__") %[[.ref x,.str name tk,v]|[]]) R s:=by
 let a:=PySem.F.store_object;let%[c,g|b]:=QH i;let ne:c.mro.isEmpty=fS:=by cases q:c.mro with|nil=>rw[q]at b;simp[bC]at b|cons _ _=>rfl
 show N9 a.slot.plain a.entry (@V1 _ _ _ s _ _ _ _ _ [] _ a.kind a.split (I.type.andThen (PySem.W.looks_mroIn X (by unfold mroIn;rw[g,RE,hX (by rw[ne];decide),(pW _ (!1) b)]))) (a.args _ _ v) ?_);let l:Rz (MU prog w) s.heap (mroOf (.ref C)) c.mro:=(Vo X g).andThen .now;rw[PySem.W.osa_eq,refuse_eq];show Z2 (Z2 (I.type.here (Z2 (l.here ?_))));rw[kN _ b];show Z3 (Z2 (I.type.here (Z2 ((Sk X j).here (Z2 (Z3 h))))))
def GQ(X:K.In s.heap)(g:s.heap.get? x∣ox)(i:ox.cls= .ref C)(j:ox.data= .fields vs)(l:ox.dict=eH)
 (z:MD K (.ref C) "__setattr__"=fx (fx (.builtin "object.__setattr__"))) (B:vB K C=fI) (G:MD K (.ref C) name∣eH) (H:Pc K C=fI)
 (h:∀h',h'.get? x=fx {ox with dict:=fx ⇑s}->h'.Ns1 ⇑s (λy=>if y=name then fx v else eH)->(∀b o,b≠x->s.heap.get? b∣o->h'.get? b∣o)->Q () {s with heap:=h',toks:=s.toks+2}):
 ↥A (setAttr (.ref x) name v) Q E s:=by
 let%[oc,I,L|M]:=ox;subst i j l;let J:PySem.W.InstAt s.heap x _ C eH:=%[g,rfl,rfl|trivial]
 show set_plain X J z (JM X J B G ?_);let%[cd,N|m]:=QH H;show Z2 (Z3 (Z2 (Z2 (PY g (Z2 (Qg (Vo X N) ?_))))));rw[m];let a:(s.heap.push {cls:= .type "dict",data:= .dict #[]}).get? x∣_:=Z7 _ g;let c:=Zs (Zu g);show Z2 (wpAny_alloc' (Z2 (wpAny_update' a (Z3 ?_))));let n:((s.heap.push {cls:= .type "dict",data:= .dict #[]}).update x λo=>{o with dict:=fx ⇑s}).get? ⇑s∣_:=
  (J6 _ _ c).trans (v0.get?_push_at rfl rfl)
 let p:((s.heap.push _).update x _).Ns ⇑s _:=
  %[_,#[],_,n,rfl,λe O=>m4 O ∅|λ_=>rfl]
 show Z2 (Z3 (Z2 (wpAny_nsSet1 (T5 p) λh' d f=>?_)));let%[oD,T,U,q,r|u]:=d.count (PySem.Within.cons name v PySem.Within.nil);show Z2 (WA q (r▸WM (md u ∅)) (Z3 (h h' ?_ d λb o Y e=>?_)))
 .show(f.2 x c).trans (Mo _ a rfl)
 .show(f.2 b (Zs (Zu e))).trans ((J6 _ _ (zr Y)).trans (Z7 _ e))
end
abbrev ExO(a C:ij)(d:ZI):HO:= .ext λh=>∃o vs,h.get? a∣o/\o.cls= .ref C/\o.dict=d/\o.data= .fields vs/\1<vs.size/\vs[1]?∣.none
def ExO.ok{P:nz}(e:h.get? a∣o)(c:o.cls= .ref C)(f:o.dict=d)(g:o.data= .fields vs)(i:1<vs.size)(b:vs[1]?∣.none):
 cN P w H h a (ExO a C d):=
 %[%[o,vs,e,c,f,g,i|b],%[o|e]|λb j ⟨o,vs,e,r⟩ k=>%[o,vs,k o e|r]]
def Ec(h:H a∣o):Qa H a o=H:=by
 funext b;unfold Qa;simp_all
abbrev exK(K:ZA)(C f:ij):pp:=(K.lookup C).any λo=>o.cls== .type "type"&&(match o.data with
 | .cls a=>a.mro.head? ==fx (.ref C)&&o.slots.size==6&&o.slots[4]? ==fx (fx (.builtin "ValueError.__new__"))&&!a.hasDel&&PySem.W.tailIn K veB a.mro.tail&&PySem.W.nsOkIn K a.ns&&RL K a.ns "__init__"==fx (fx (.ref f))
 | _=>fS)
set_option tactic.hygienic true in
def zA{K:ZA}{h:v0}{mg:ZC}(X:K.In h)(G:h.Ns N mg)(e:RL K N n∣fx v):mg n∣v:=by
 let%[o,es,j,a,b,_|f]:=G;unfold RL at e
 split at e
 .rename_i c d g l m q
  let:=X _ _ q;rw[a]at this;cases this;cases b
  split at e
  .rename_i p i
   cases e;rw[<-f];unfold nsFind findBy;rw[<-Uq,i];rfl
  simp_all
 .cases e
def zB{K:ZA}(X:K.In h)(q:exK K C f=fI):∃nm i N bs c a j sub l b m n k1 k2 o p r,
 h.get? C∣Vp nm i C N bs c a j sub l b m n k1 k2 o p "ValueError.__new__"/\h.Ns N r/\r "__init__"=fx (.ref f)/\OwnTail h veB c:=by
 let%[%[E,m,data|s],v|q]:=QH q;dsimp only at q;rw[Zv,NG]at q;let%[rfl|q]:=q;cases data with
 | cls w=>
   let%[nm,bs,d,H,i,I,j,sub,l,b|y]:=w;simp only[Zv,NG,U1]at q;let%[%[%[%[%[%[u|z]|A]|rfl]|B]|e]|g]:=q;cases d with
   | nil=>cases u
   | cons x c=>
     cases u;rcases s with _|⟨n,_|⟨k1,_|⟨k2,_|⟨o,_|⟨J,_|⟨p,_|⟨L,s⟩⟩⟩⟩⟩⟩⟩<;> first|cases z|skip
     cases A;let G:=PySem.Heap.Ns.of_isNs (PySem.W.isNs_of_in X e);show%[_,_,_,_,_,_,_,_,_,_,_,_,_,_,_,_,_,X _ _ v,G,zA X G g|PySem.W.tail_of_in X B]
 | _=>cases q
section
variable{X:Cx}{C f:ij}
set_option tactic.hygienic true in
def zC(A:exK X.K C f=fI):cO X (.builtin "ValueError.__init__") (λxs H Q=>∃a d ys,xs=V.ref a::ys/\ ~~~ys<=9/\H a∣ExO a C d/\Q .non H):=by
 intro ff s B H xs us Q I r h;let%[a,d,ys,rfl,hy,g|q]:=h;cases r with
 | cons E G=>
   rename_i u ws
   obtain rfl:u=kG a:=E;let%[%[o,vs,e,v,L,i,M|O]|_]:=I.hok a _ g;let%[nm,qn,N,bs,bm,w,sn,sub,ab,U,dd,k0,k1,k2,k3,k5,mN,Y,hN,hi|T]:=zB I.kIn A;let F:=PySem.F.excBase_ValueError;let j: ~~~ws<=ku:=by rw[<-G.length,Mt];lia
   show N6 (N9 F.init.plain F.initEntry (wpAny_check_init_subT F T Y e v ?_));let l:∃m,vs[0]?∣m:=%[vs[0]'⋯|Ds ⋯]
   let%[m|l]:=l;let p:(s.heap.push (JL ws)).get? a∣o:=Z7 _ e;let c:=Oh i (·.setIfInBounds 0 (kG ⇑s));let y:=Mo (O5 (·.setIfInBounds 0 (kG ⇑s))) p (OP c);let J:Qc X ff B H (s>>>((s.heap.push (JL ws)).update a (O5 (·.setIfInBounds 0 (kG ⇑s))))):=by
    let:=I.write (x:=a) (e:=a) (o:=ExO a C d) (t':=s.toks) (g▸Mx) (.inl rfl)
     (λb u n z=>by rw[J6 _ _ (zr n)];show Z7 _ z) %[_|y]
     (ExO.ok y ((RN _ _).trans v) ((tP _ _).trans L) c ↑M (by rw[nY.getElem?_setIfInBounds_ne ∅];show O))
    rw[Ec g]at this;show this
   show Z2 (Re (Z2 (Z2 (Nb p i l (Z2 (PX p i ⋯ ?_))))) j);cases m with
   | ref b=>show N5 (Z3 %[.non,H,J,rfl|q])
   | _=>show Z3 (Z3 %[.non,H,J,rfl|q])
end
structure Ee (K:ZA) (D:ij):Prop where
 ga:SL K (.ref D) "__getattribute__"=fx (fx (.builtin "type.__getattribute__"))
 rd:readsIn K D (.type "type")=fI
 at_:findCls K (.ref D) (.type "type") "__init__"=fx (.val (.builtin "ValueError.__init__"))
structure JN (K:ZA) (C:ij) (f:iv):Prop where
 sa:MD K (.ref C) "__setattr__"=fx (fx (.builtin "object.__setattr__"))
 ov:vB K C=fI
 no:MD K (.ref C) f∣eH
 hd:Pc K C=fI
section
variable{X:Cx}{C D f:ij}{x nm:iv}{p pos pos' apos:Pos}{e o value:wh}{es:dV wh}{t:TA}{ta tv:TE}{r:dV V->Hp->VK->Prop}
def Ef(g:Gl X x)(i:X.mg x∣.ref D)(B:Ee X.K D)(j:cO X (.builtin "ValueError.__init__") r)(l:PA X (e::es) t)(a:(x==("__debug__":iv))=fS)
 (m:ri (e::es) X.env=(fS,MO e X.env)::ri es X.env) (b:(Nm pos (ri es X.env)).any (·.1)=fS)
 (n:MO (.Call (.Attribute (.Name x p) "__init__" apos) (e::es) [] pos) X.env=(do
  let c<-MO (.Name x p) X.env
  OS apos.atName
  let(f,first)<-Oq [c] (QC c "__init__" pl)
  TU pos f first (Nm pos (ri (e::es) X.env)) (O3 pos (ND [] X.env)))):
 PE X (.Call (.Attribute (.Name x p) "__init__" apos) (e::es) [] pos) (tCB r t):=by
 intro ff s d H Q I h;show PySem.W.methodCall_KW (gZ I g i (PySem.W.method_cls I.kIn B.ga (PySem.W.cls_value I.kIn B.rd B.at_ (!1) (QL (thP (l pos ff _ d H _ (I.tok _) h) λus q vs u v w y=>j ff q d u vs us Q v w y) m b))) a) n
abbrev HX(K:ZA)(C:ij)(ta tv:TE)(f:iv):TS:=λD b H=>tv b H λy g=>ta b g λx c=>∃a,x= .ref a/\c a∣ExO a C eH/\
 ∀d,c d=eH->d≠a->D.nx b (Qa (Qa c a (ExO a C (fx d))) d (.xd [(f,y)]))
def GR(c:JN X.K C nm)(E:PE X o ta)(G:PE X value tv)(J:OI value (fx (.Attribute o nm pos')) pos.line X.env=pure fS):PS X (.Assign [.Attribute o nm pos'] value pos) (HX X.K C ta tv nm):=by
 intro ff s j H D I h;show SB (thP (G ff s j H _ I h) λu L y M N O q=>thP (E ff L j M _ N q) λQ l x H2 d T ⟨a,ex,m,U⟩=>?_) J;subst ex;obtain rfl:Q=kG a:=T;let%[%[ob,vs,e,v,Y,w,hz|h1]|_]:=d.hok a _ m;let i:=Yz (Zu e);let A:=d.hok.fresh (Zi _);show GQ d.kIn e v w Y c.sa c.ov c.no c.hd λh' B n' k=>%[j,_,?_|U ⇑l A i]
 show Qc.stood2 d (d.write (t':=l.toks+2) (m▸Mx) (.inl rfl) (λb u n z=>k b u n z) %[_|B] (ExO.ok B v rfl w hz h1)) ((av i)▸A) (Zi _) %[_,n'|λg=>?_];by_cases z:g=nm
 .rw[jg z,z];simp only[NL,SS];show O
 .rw[hX z];let z':(g==nm)=fS:=↑z
  simp only[NL,z'];show Mx
end
abbrev JO(b:TE):TE:=λc H Q=>b c H λv a=>(∃i:nX,v= .int i/\i.natAbs<2^64/\Q (.str (toString i)) a)\/∃y:iv,v= .str y/\ ~~~y<=ku/\Q (.str y) a
abbrev pX:dV TE->iv->TE
 |[],out=>λa H Q=> ~~~out<=ku/\Q (.str out) H
 | t::ts,out=>λa H Q=>t a H λv b=>∃y:iv,v= .str y/\ ~~~(out++y)<=ku/\pX ts (out++y) a b Q
inductive PJ (X:Cx):dV wh->dV TE->Prop
 | nil:PJ X [] []
 | cons {e:wh} {es:dV wh} {t:TE} {ts:dV TE}:PE X e t->PJ X es ts->PJ X (e::es) (t::ts)
section
variable{X:Cx}{e v1 v2:wh}{rest:dV wh}{te t1 t2:TE}{ts:dV TE}{pos:Pos}
def JP(c:PE X e te):PE X (.FormattedValue e (-1) eH pos) (JO te):=by
 intro ff s d H Q I h;show FormattedValue_plain (thP (c ff s d H _ I h) λu j v a b r q=>?_);rcases q with⟨i,rfl,hi,q⟩|⟨y,rfl,f,q⟩
 .let%[t|rfl]:=(show∃t,u=RM i t from r)
  let g:i.natAbs.log2<1920:=by
   by_cases z:i.natAbs=0
   .rw[z];decide
   .show(hH.log2_lt z).mpr (Zg hi (O7 (!1) ∅))
  show formatField_int_small g %[V.str (toString i),a,b.tok _,%[_|rfl]|q]
 .let%[t|rfl]:=(r)
  show W3 (λt' tk=>%[.str y,a,b.tok _,%[_|rfl]|q]) f
def Eg(h:PJ X es ts):∀(out:iv) (ff:ZE) (s:kj) (a:St) (H:Hp) (Q:VK),Qc X ff a H s->pX ts out a H Q->
 (X⁻¹) (joinParts out (evalEach es X.env)) (EP X ff a Q) X.xe s:=by
 induction h with
 | nil=>show λout ff s a H Q I ⟨b,q⟩=>joinParts_nil %[.str out,H,I.tok _,%[_|rfl]|q] b
 | cons c _ d=>
   intro out ff s a H Q I q;show joinParts_cons (thP (c ff s a H _ I q) λu f v g i r ⟨y,j,b,l⟩=>?_);subst j;let%[t|rfl]:=(r)
   show%[b|d _ ff f a g Q i l]
def GS(h:PJ X (v1::v2::rest) ts):PE X (.JoinedStr (v1::v2::rest) pos) (pX ts Me):=λff s a H Q I q=>
 JoinedStr_many (Eg h _ ff s a H Q I q)
end
abbrev zD(C:ij)(sp:Sp)(t:TA):TE:=λb H Q=>t b H λvs a=> ~~~vs<=9/\∀x,a x=eH->sp (.ref x::vs) (Qa a x (ExO x C eH)) (λv c=>v= .non/\Q (.ref x) c) E0
structure MkX (K:ZA) (C f:ij):Prop where
 ex:exK K C f=fI
 fn:(K.lookup f).map (·.cls)∣.type "function"
 kp:OD K (.ref C)=fI
section
variable{X:Cx}{k:hH}{f C:ij}{fd:Oa}{ps:ZB}{sp:Sp}{x:iv}{p pos cpos:Pos}{e:wh}{es:dV wh}{te:TE}{t:TA}
def B7(M:MkX X.K C f)(F:eO X.prog X.w X.K X.mg X.base CX0 k f fd ps sp)(w:bB (k+1) X.A)(y:d6 X.K fd ps [])
 (I:Qc X ff j H s) (r:aQ vs us) (hv: ~~~vs<=9)
 (h:∀x,H x=eH->sp (.ref x::vs) (Qa H x (ExO x C eH)) (λv z=>v= .non/\Q (.ref x) z) E0):
 (X⁻¹) (call (.ref C) us) (EP X ff j Q) X.xe s:=by
 let%[i,g,d,tk|os]:=s;let%[nm,qn,N,bs,bm,n,sn,sub,ab,A,dd,k0,k1,k2,k3,k5,mN,B,E,hi|T]:=zB I.kIn M.ex;let%[oI,G|l]:=zz.mp M.fn;show B6 PySem.F.excBase_ValueError T B E hi (I.kIn _ _ G) l (by rw[<-r.length,Mt];lia) ?_;let J:Qc X ff j H %[zy i C us,g,d,tk|os]:=I.keptS iN rfl rfl;let m:Qc X ff j (Qa H _ (ExO _ C eH)) _:=
  I.stoodS J (Yg _) (ExO.ok (w8 i C us) rfl rfl rfl ∅ rfl)
 let o:=h _ (I.hok.fresh (Yg _));let q:aQ (V.ref (i.objs.size+1)::vs) _:= .cons rfl r;let b: ~~~(kG (i.objs.size+1)::us++[])= ~~~ps:=by
  rw[Zx,<-q.length];show F.len _ _ _ _ o
 let c:=y _ _ m.kIn b;rw[Zx]at c;show N6 (codeAny_mono (F.run _ X.stack _ _ _ _ _ _ E0 (w.make C us []) (m.env0.make C us []) c q o) λr s' a=>?_);cases r with
 | error e=>show Mq a
 | ok L=>
   cases L with
   | ret u=>
     let%[v,H',O,U,Y|q3]:=m.after a;subst Y;show%[U,V.ref _,H',O,ρ|q3]
   | next=>show Mq a
   | brk=>show Mq a
   | cont=>show Mq a
def Eh(M:MkX X.K C f)(F:eO X.prog X.w X.K X.mg X.base CX0 k f fd ps sp)(d:bB (k+1) X.A)(g:Gl X x)(i:X.mg x∣.ref C)(j:d6 X.K fd ps [])
 (l:PA X (e::es) t) (a:(x==("__debug__":iv))=fS) (m:ri (e::es) X.env=(fS,MO e X.env)::ri es X.env) (b:(Nm pos (ri es X.env)).any (·.1)=fS):
 PE X (.Call (.Name x p) (e::es) [] pos) (zD C sp t):=by
 intro ff s n H Q I h;show Nv (gZ I g i (TR I.ok.mod.kin M.kp (thP (l pos ff s n H _ I h) λus u vs v c r ⟨o,q⟩=>%[c.kIn|B7 M F d j c r o q]) m b) a)
abbrev vC(C:ij)(te:TE)(W:ij->Hp->Prop):TS:=λ_ c H=>te c H λv b=>∃a d,v= .ref a/\b a∣ExO a C (fx d)/\W a b
def Ei{W:ij->Hp->Prop}(A:exK X.K C f=fI)(B:X.calm=fI)(E:PE X e te)
 (G:∀(ff:ZE) (i:St) (H:Hp) (s:kj) (a d:ij),Qc X ff i H s->H a∣ExO a C (fx d)->W a H->X.xe (.ref a) s):PS X (.Raise (fx e) eH pos) (vC C te W):=by
 intro ff s i H D I h;change oT _ X.A (do OS pos;raiseStmt X.env (fx (do let v<-MO e X.env;OS pos;pure v)) eH) _ _ s;show Z2 (Ph ?_);unfold raiseStmt;show Z2 (Z2 (thP (E ff s i H _ I h) λu m v J j r ⟨a,d,L,n,q⟩=>Z2 (Ph (Z3 ?_))));subst L;obtain rfl:u=kG a:=r;let%[%[M,vs,O,c,o,w,hz|Q]|_]:=j.hok a _ n;let%[nm,qn,N,bs,U,y,sn,sub,ab,Y,dd,k0,k1,k2,k3,k5,mN,z,hN,hi|T]:=zB j.kIn A;let l:(kG C::U).contains (.type "BaseException")=fI:=by rw[UC,T.hasType (b:=fI) (!1),RJ]
 let hE:=G ff i J m a d j n q;let%[hp,g,dr,tk|os]:=m;let%[oc,od,ac|ae]:=M;dsimp only at c o w;subst c o w;let hh:X.A.handled=eH:=j.ok.hd B
 repeat (first|with_reducible show OR O ?_|with_reducible show OR z ?_|(with_reducible show VJ z ?_;rw[l])|wp_step)
 rw[Q];show Z3 ?_;rw[hX (!1)];show Z3 (VI hh hE)
end
abbrev drop(H:Hp)(a:ij):Hp:=λb=>if b=a then eH else H b
def iO:drop H a a=eH:=by unfold drop;rw[jg rfl]
def bW(h:b≠a):drop H a b=H b:=by unfold drop;rw[hX h]
def B8{P:nz}{K:ZA}
 (hk:exK K C f=fI) (he:PE (gc (CXO P w) P w K mg base N h g p r A outer s₀ H₀ E) e te):
 PS (gc (CXO P w) P w K mg base N h g p r A outer s₀ H₀ E) (.Raise (fx e) eH pos) (vC C te λa H=>∃d,H a∣ExO a C (fx d)/\H₀ a=eH/\E (.ref C) (fx d) (drop H a)):=by
 show Ei hk rfl he λff σ H s a ag I _ ⟨d,J,hn,q⟩=>?_
 let%[%[oe,vs,ea,Y,hd,hf,hz|h1]|_]:=I.hok a _ J;let ST:=I.stack;let SF:=I.stkFree;let L0:⇑s₀<=(M5 h g ⇑s₀ p r).locals:=Zi _;change oT (MU P w) (A.deeper (M5 h g ⇑s₀ p r)) (leaving (M5 h g ⇑s₀ p r) (.ref a)) _ _ s;let ab:a∉frs (M5 h g ⇑s₀ p r::outer):=λz=>by
  let:=SF a z;rw[J]at this;cases this
 show wZ (.inl rfl) I.ok.frames rfl %[λb o z=>of_hideAll _ z,PySem.W.hideAll_none _ (Yw.mpr (.inl rfl)),PySem.W.funFrames_hide ST λen ac b i=>Yw.mpr (.inr (MX.mpr %[en,ac|i])),oe,vs,ea,Y,hd,hf,hz|h1] λh' u sm=>?_
 let G:∀b o,s.heap.get? b∣o->b≠a->b∉frs (M5 h g ⇑s₀ p r::outer)->h'.get? b∣o/\(hideAll s.heap (a::frs (M5 h g ⇑s₀ p r::outer))).get? b∣o:=λb o z n1 n2=>by
  let hB:=hideAll_get (a::frs (M5 h g ⇑s₀ p r::outer)) z λm=>(Yw.mp m).elim n1 n2
  show%[u.1 b o hB|hB]
 let T:∀b o,s.heap.get? b∣o->b∈frs (M5 h g ⇑s₀ p r::outer)->∃sl,h'.get? b=fx {o with slots:=sl}:=λb o z i=>by
  let%[_,o',z'|M]:=ST.mem i;rw[z]at z';cases z';show sm b o z M
 let nL:∀b o,s₀.heap.get? b∣o->b∉frs outer->b∉frs (M5 h g ⇑s₀ p r::outer):=λb o z n m=>by
  rcases Yw.mp (show b∈⇑s₀::frs outer from m)with y|y
  .show m4 (Zu z) (y▸Xj _)
  .show n y
 let sub:∀b,b∈frs outer->b∈frs (M5 h g ⇑s₀ p r::outer):=λb i=>Yw.mpr (.inr i)
 let j:∀b,b∉(gc (CXO P w) P w K mg base N h g p r A outer s₀ H₀ E).ex:=λb z=>m4 (show b∈([]:dV ij)from z) ∅
 let new:s₀.heap.get? a=eH:=by
  cases z:s₀.heap.get? a with
  | none=>rfl
  | some o=>
    let:=I.base.free a o z hn (j a);rw[J]at this;cases this
 let trk:∀b o,H b∣o->b∉frs (M5 h g ⇑s₀ p r::outer):=λb o z m=>by
  rw[SF b m]at z;cases z
 show%[a,_,.ref C,fx d,drop H a,ρ,%[I.os,I.bare,%[λb o z n i hx=>?_,λb o z n i hx=>?_,λb o z n hx=>?_,λb o z hx=>?_,λb xs z=>?_,λb o v z=>?_|λb ps z=>?_],λb o z=>?_,u,iO,new,λb ob z i M=>?_|λb i=>?_]|q]
 .let l:=I.base.keep b o z n i (j b);show(G b o l (λy=>?_) (nL b o z i)).1;subst y;rw[new]at z;cases z
 .let%[sl|l]:=I.base.slot b o z n i (j b);let%[ae|Q]:=T b _ l (sub b i);show%[ae|Q]
 .by_cases y:b=a
  .show y▸iO
  .rw[bW y];show I.base.free b o z n (j b)
 .let%[O|l]:=I.base.there b o z (j b);by_cases i:b∈frs (M5 h g ⇑s₀ p r::outer)
  .let%[sl|Q]:=T b O l i;show%[_|Q]
  .show%[O|(G b O l (λy=>?_) i).1];subst y;rw[new]at z;cases z
 .let l:=I.base.tups b xs z;rw[bW (pA l J (by simp[ExO]))];show l
 .let l:=I.base.frzs b o v z;rw[bW (pA l J (by simp[ExO]))];show l
 .let%[m|l]:=I.base.tbls b ps z;show%[m|?_];rw[bW (pA l J (by simp[ExO]))];show l
 .let y:b≠a:=λy=>by rw[y,iO]at z;cases z
  rw[bW y]at z;show(I.hok b o z).stay (λc u' U L=>?_) (λc L=>?_) λc xs L=>?_
  .rcases U with rfl|U
   .show(G c u' L y (trk c o z)).1
   .show(G c u' L (pA U J (by simp[ExO])) (trk c _ U)).1
  .rw[bW (pA L J (by simp[ExO]))];show L
  .rw[bW (pA L J (by simp[ExO]))];show L
 .let y:b≠a:=λy=>by
   rcases i with⟨o,B⟩|⟨o,B⟩
   .rw[y,new]at B;cases B
   .rw[y,iO]at B;cases B
  let nf:b∉frs (M5 h g ⇑s₀ p r::outer):=by
   rcases i with⟨o,B⟩|⟨o,B⟩
   .show nL b o B M
   .rw[bW y]at B;show trk b o B
  let ex:∃O,s.heap.get? b∣O:=by
   rcases i with⟨o,B⟩|⟨o,B⟩
   .show I.base.there b o B (j b)
   .rw[bW y]at B;show(I.hok b o B).there
  let%[O|l]:=ex;let%[Q|e3]:=G b O l y nf;rw[show h'.get? b∣ob from z]at Q;cases Q;show e3
 .let y:b≠a:=λy=>ab (y▸sub b i)
  rw[bW y];show SF b (sub b i)
abbrev ExH(a C:ij)(d:ZI):HO:= .ext λh=>∃o vs,h.get? a∣o/\o.cls= .ref C/\o.dict=d/\o.data= .fields vs
def ExH.ok{P:nz}(e:h.get? a∣o)(b:o.cls= .ref C)(c:o.dict=d)(f:o.data= .fields vs):
 cN P w H h a (ExH a C d):=
 %[%[o,vs,e,b,c|f],%[o|e]|λg i ⟨o,vs,e,r⟩ k=>%[o,vs,k o e|r]]
section
variable{X:Cx}{ff:ZE}{σ:St}{H:Hp}{s s':kj}
def GT(I:Qc X ff σ H s)(L:X.N.Nodup)(hi:X.N[i]?∣n)(N:X.env.kindOf n∣.local)
 (h:∀s',Qc X ff (σ.set i eH) H s'->Q () s'):oT M A (do bindName X.env n .none;Vg X.env n pos) Q E s:=by
 let%[m,O|T]:=id I.loc;let B:i<σ.length:=I.len▸(Xl hi).1;show wpAny_nameGoes_keeps N O (by rw[I.ok.kind];rfl) λh' v u a=>h _ ?_
 let f:∀b o,X.s₀.heap.get? b∣o->b≠X.env.locals:=λb o e=>Zs (Zg (Zu e) I.ok.above)
 show%[I.ok,I.os,I.bare,%[λb o e n w l=>?_,λb o e n w l=>?_,I.base.free,λb o e l=>?_,I.base.tups,I.base.frzs|I.base.tbls],%[_,u|λj y U g C Y=>?_],λy c e=>?_,I.free,I.freeC,λp hp=>?_,λb ob e=>?_|by simpa using I.len]
 .show(a.2 b (f b o e)).trans (I.base.keep b o e n w l)
 .let%[sl|g]:=I.base.slot b o e n w l;show%[sl|(a.2 b (f b o e)).trans g]
 .let%[o'|g]:=I.base.there b o e l;show%[o'|(a.2 b (f b o e)).trans g]
 .let G:j≠i:=λz=>by
   simp_all
  rw[QM (zr G)]at C;let%[u',r'|q]:=T j y U g C Y;show%[u',r'|?_];rcases q with⟨k,e⟩|⟨k,c,e,z⟩
  .show .inl %[k|?_];let:y≠n:=λe=>G (jD L g (e▸hi))
   simp[this,e]
  .show .inr %[k,c,e|z.sameBut a (I.cne y c e)]
 .let%[J|z]:=I.cell y c e;show%[J|z.sameBut a (I.cne y c e)]
 .let%[e,n,ne,nf|d]:=I.pin p hp;show%[(a.2 p.1 ne).trans e,n,ne,nf|d]
 .show(I.hok b ob e).stay (λc J r q=>(a.2 c ?_).trans q) (λ_ q=>q) λ_ _ q=>q
  rintro rfl;rcases r with rfl|r
  .rw[I.free]at e;cases e
  .rw[I.free]at r;cases r
end
section
variable{M:Model}{A:vj}{E:ZD}{s:kj}{K:ZA}{D C e:ij}{oe:NQ}{b:pp}{Q:pp->kj->Prop}
def Ej(X:K.In s.heap)(i:VX K (.ref D)∣.type "type")(j:Rk K (.ref D) (.type "BaseException")∣fI)(d:(K.lookup D).any (λo=>match o.data with| .cls _=>fI|_=>fS)=fI)
 (l:s.heap.get? e∣oe) (m:oe.cls= .ref C) (n:Rk K (.ref C) (.ref D)∣b) (f:Q b s):oT M A (excMatches (.ref e) (.ref D)) Q E s:=by
 let%[g,p|c]:=QH d;show Z2 (Z2 ((PySem.W.looks_typeIn X i).here ?_));rw[tc_notTuple];show Z3 (Z2 (Z3 ?_));let a:∃h,g.data= .cls h:=by
  revert c
  cases g.data<;> intro c<;> first|show⟨_,rfl⟩|cases c
 let%[h|a]:=a;let LT:Rz M s.heap (Pu (.ref e)) _:=λq u v s' k r=>by
  show Z2 (PY (k _ _ l) (Z3 (m▸r)))
 show Z2 (Z2 (Z2 (Z2 (Z2 (PY (X _ _ p) (Z3 ?_))))));rw[a,jg rfl];show(S5 X j).here (Z3 (Z3 (Z2 (LT.here (Z2 (Z2 (Z2 ((S5 X n).here ?_))))))));cases b with
 | true=>
   show Z3 (Z3 (Z3 f))
 | false=>
   show Z3 (Z3 (Z3 f))
end
noncomputable abbrev Cx.suiteX(X:Cx)(a:ij):Cx:={X with A:=X.A.mark (fx (.ref a)),calm:=fS,xe:=λ_ _=>G2}
section
variable{X:Cx}{ff pins' pn:ZE}{σ:St}{H:Hp}{s:kj}{E:ZD}
def Li(ok:X.Ok)(pn:dV _)(E:ZD):({X with pn:=pn,xe:=E}).Ok:=
 %[ok.mod,ok.kind,ok.glob,ok.blt,ok.above,ok.inj,ok.has,ok.cab,ok.hd,ok.frames,ok.stk,ok.exf,ok.bs,ok.bsz,ok.noex,ok.exfs,ok.funs|ok.frf]
def unPn(ok:({X with pn:=pn,xe:=E}).Ok):X.Ok:=
 %[ok.mod,ok.kind,ok.glob,ok.blt,ok.above,ok.inj,ok.has,ok.cab,ok.hd,ok.frames,ok.stk,ok.exf,ok.bs,ok.bsz,ok.noex,ok.exfs,ok.funs|ok.frf]
def Qc.toPn(I:Qc X ff σ H s)(E:ZD):Qc ({X with pn:=X.pn++ff,xe:=E}) [] σ H s:=
 %[Li I.ok _ E,I.os,I.bare,I.base,I.loc,I.cell,I.free,I.freeC,λp a=>I.pin p ↑a,I.hok|I.len]
def Qc.ofPn(I:Qc ({X with pn:=X.pn++ff,xe:=E}) pins' σ H s):Qc X ff σ H s:=
 %[unPn I.ok,I.os,I.bare,I.base,I.loc,I.cell,I.free,I.freeC,λp a=>I.pin p (Yu _ a),I.hok|I.len]
def Qc.toSuite(I:Qc X ff σ H s)(a:ij):Qc (X.suiteX a) ff σ H s:=
 %[%[I.ok.mod,I.ok.kind,I.ok.glob,I.ok.blt,I.ok.above,I.ok.inj,I.ok.has,I.ok.cab,(λz=>pp.noConfusion z),I.ok.frames,I.ok.stk,I.ok.exf,I.ok.bs,I.ok.bsz,I.ok.noex,I.ok.exfs,I.ok.funs|I.ok.frf],I.os,I.bare,I.base,I.loc,I.cell,I.free,I.freeC,I.pin,I.hok|I.len]
def Qc.ofSuite(I:Qc (X.suiteX a) ff σ H s)(ok:X.Ok):Qc X ff σ H s:=%[ok,I.os,I.bare,I.base,I.loc,I.cell,I.free,I.freeC,I.pin,I.hok|I.len]
def SP.ofPn{D:jC}(h:SP ({X with pn:=X.pn++ff,xe:=E}:Cx) [] D f s):SP X ff D f s:=by
 cases f with
 | next=>have%[a,H',I|q]:=h;show%[a,H',I.ofPn|q]
 | brk=>have%[a,H',I|q]:=h;show%[a,H',I.ofPn|q]
 | cont=>have%[a,H',I|q]:=h;show%[a,H',I.ofPn|q]
 | ret u=>have%[v,a,H',I,r|q]:=h;show%[v,a,H',I.ofPn,r|q]
end
abbrev jC.gone(D:jC)(i:hH):jC:={nx:=λa H=>D.nx (a.set i eH) H,rt:=D.rt,bk:=λa H=>D.bk (a.set i eH) H,ct:=λa H=>D.ct (a.set i eH) H}
structure Cat (K:ZA) (D:ij):Prop where
 ty:VX K (.ref D)∣.type "type"
 ex:Rk K (.ref D) (.type "BaseException")∣fI
 cd:(K.lookup D).any (λo=>match o.data with| .cls _=>fI|_=>fS)=fI
structure GU (K:ZA) (C:ij) (f:iv):Prop where
 ga:MD K (.ref C) "__getattribute__"=fx (fx (.builtin "BaseException.__getattribute__"))
 hk:MD K (.ref C) "__getattr__"=fx eH
 sub:Rk K (.ref C) (.type "BaseException")∣fI
 no:MD K (.ref C) f∣eH
 hd:Pc K C=fI
section
#where
variable{K:ZA}{x C:ij}{name:iv}{v:hV}{ox:NQ}{od:kf NQ}
def JQ(X:K.In s.heap)(I:PySem.W.InstAt s.heap x ox C od)(c:GU K C name)(d:findObj K C od name∣.value v)(f:XC v=fI)
 (h:Q v {s with toks:=s.toks+1}):↥A (Wl (.ref x) name a) Q E s:=by
 let b:Rz (MU prog w) s.heap (Pu (.ref x)) (.ref C):=I.type;let sub:Rz (MU prog w) s.heap (R3 (.ref x) (.type "BaseException")) fI:=b.andThen (S5 X c.sub);let g:=looks_find (M:=MU prog w) X I d;let S:=PySem.F.excAttr_ValueError.ga;show Z2 (wpAny_mkText (ra (Z2 (b _ _ _ _ (λ_ _ e=>e) (Z2 (Sk X c.ga _ _ _ _ (λ_ _ e=>e) ?_))))));dsimp only;rw[show(Ut (kG C)&&Ni "BaseException.__getattribute__"==Ni "object.__getattribute__")=fS from by rw[show(Ni "BaseException.__getattribute__"==Ni "object.__getattribute__")=fS from !0,M7],hX (!1)];show Z2 (looks_hook X (mc:= .ref C) (r:=eH) (c.hk) _ _ _ _ (λ_ _ e=>e) (Z2 (Nr (ra ?_))));unfold WP;rw[show(a&&Ut (Ni _))=fS from M7 _,hX (!1)];unfold boundAndCalled;rw[S.bind];show N6 ?_;show N9 S.plain PySem.F.entry_bexc_ga ?_;show @V1 _ _ _ _ _ _ "__getattribute__" _ _ [] _ (!0) (!0) sub (PySem.F.args_bexc_ga _ _) ?_;show Z2 (Z3 (Z2 (Z3 (Z2 (Qg b (Z2 (Qg g (Z3 ?_))))))));change oT _ _ (handedOut v) _ _ _;rw[PySem.W.handedOut_of f];show Z3 h
end
abbrev HY(C:ij)(c:TE)(f:iv):TE:=λe H Q=>c e H λx b=>∃a d fs v,x= .ref a/\b a∣ExH a C (fx d)/\b d∣.xd fs/\fs.lookup f∣v/\Q v b
def GV{X:Cx}(c:GU X.K C f)(n:PE X e p)(w:M9 e f X.env (MO e X.env)=MO e X.env):PE X (.Attribute e f pos) (HY C p f):=by
 intro ff s y H Q I h;show Ak w (thP (n ff s y H _ I h) λu U x z b A ⟨a,d,fs,v,ex,B,E,l,q⟩=>?_);subst ex;obtain rfl:u=kG a:=A;let%[%[o,vs,G,g,i|j]|_]:=b.hok a _ B;let%[Y,n1|r]:=b.hok d _ E;let%[uv,J|m]:=iB.some_of (l▸r f);let%[od,L|M]:=sN n1;let%[oc,N,O|T]:=o;dsimp only at g i j;subst g i j;show JQ b.kIn %[G,rfl,rfl|L] c (findObj_own c.hd c.no rfl (by rw[M,J])) (sO m) %[v,z,b.tok _,m|q]
structure XIs (K:ZA) (C:ij):Prop where
 ga:MD K (.ref C) "__getattribute__"=fx (fx (.builtin "BaseException.__getattribute__"))
 hk:MD K (.ref C) "__getattr__"=fx eH
 sub:Rk K (.ref C) (.type "BaseException")∣fI
 hd:Pc K C=fI
 cl:MD K (.ref C) "__class__"=fx (fx (.builtin "object.__class__"))
 gt:SL K (.builtin "object.__class__") "__get__"=fx (fx (.builtin "getset_descriptor.__get__"))
 tk:takesIn K (.builtin "object.__class__")∣fI
 ob:mroIn K C (.type "object")∣fI
section
#where
variable{K:ZA}{x C:ij}{ox:NQ}{od:kf NQ}
def JR(X:K.In s.heap)(I:PySem.W.InstAt s.heap x ox C od)(c:XIs K C)(h:Q (fx (.ref C)) {s with toks:=s.toks+1}):↥A (getAttr? (.ref x) "__class__") Q E s:=by
 let a:Rz (MU prog w) s.heap (Pu (.ref x)) (.ref C):=I.type;let sub:Rz (MU prog w) s.heap (R3 (.ref x) (.type "BaseException")) fI:=a.andThen (S5 X c.sub);let b:findObj K C od "__class__"=fx (.bind (.builtin "getset_descriptor.__get__") (.builtin "object.__class__")):=by
  let%[g,d|_]:=QH c.hd;unfold findObj;rw[d,RE,c.cl,RE];dsimp only;rw[c.gt,RE];dsimp only;rw[c.tk,RE]
 let f:=looks_find (M:=MU prog w) X I b;let S:=PySem.F.excAttr_ValueError.ga;unfold getAttr? getAttrBy? getAttrBy;show Z2 (wpAny_mkText (Z2 (Nr (ra (Z2 (a _ _ _ _ (λ_ _ e=>e) (Z2 (Sk X c.ga _ _ _ _ (λ_ _ e=>e) ?_))))))));dsimp only;rw[show(Ut (kG C)&&Ni "BaseException.__getattribute__"==Ni "object.__getattribute__")=fS from by rw[show(Ni "BaseException.__getattribute__"==Ni "object.__getattribute__")=fS from !0,M7],hX (!1)];show Z2 (looks_hook X (mc:= .ref C) (r:=eH) (c.hk) _ _ _ _ (λ_ _ e=>e) (Z2 (Nr (ra ?_))));unfold WP;rw[show(fS&&Ut (Ni "BaseException.__getattribute__"))=fS from rfl,hX (!1)];unfold boundAndCalled;rw[S.bind];show Z2 (Z3 ?_);change oT _ _ (call (.builtin "BaseException.__getattribute__") _) _ _ _;show N6 ?_;show N9 S.plain PySem.F.entry_bexc_ga ?_;show @V1 (MU prog w) _ _ {s with toks:=s.toks+1} _ "BaseException" "__getattribute__" (.ref x) [.str "__class__" s.toks] [] _ (!0) (!0) sub (PySem.F.args_bexc_ga (.ref x) (.str "__class__" s.toks)) ?_;show Z2 (Z3 (Z2 (Z3 (Z2 (Qg a (Z2 (Qg f (Z2 (ra (N6 (PySem.W.class_get (ox:=ox) (od:=od) X I c.ob (Z3 (Z3 (Z3 h))))))))))))))
set_option tactic.hygienic true in
def GW(c:XIs K C):KitX K (.ref x) (.ref C) (λh=>∃ox od,PySem.W.InstAt h x ox C od) where
 ty:=λ_ _ _ ⟨_,_,I⟩=>I.type
 it:=λ_ _ X _=>by
  let%[cdD,hcD|_]:=QH c.hd;unfold clsIn at hcD
  split at hcD
  .rename_i c' d' cd' sl' ho
   intro A' Q' E' s' k q;show Z2 (PY (k _ _ (X _ _ ho)) (Z3 q))
  .cases hcD
 ne:=λh tp dd its n sl X htp=>by
  let%[cdD,hcD|_]:=QH c.hd;show RK.mpr λq=>?_
  let e:=Uv (NG.mp q);subst e;unfold clsIn at hcD
  split at hcD
  .rename_i c' d' cd' sl' ho
   let z:=(X _ _ ho).symm.trans htp;cases z
  .cases hcD
 ca:=λX ⟨_,_,I⟩ k=>JR X I c k
end
abbrev Held(H:Hp)(a C:ij):Prop:=∃d,H a∣ExH a C d/\(d=eH\/∃b fs,d∣b/\H b∣.xd fs)
inductive TyX (K:ZA) (H:Hp):V->hV->Prop where
 | non:TyX K H .non (.type "NoneType")
 | ex {a C:ij} (h:Held H a C) (c:XIs K C):TyX K H (.ref a) (.ref C)
section
#version
def TyX.kit(ty:TyX X.K H x t)(I:Qc X ff σ H s)(r:aY x u):∃f:v0->Prop,KitX X.K u t f/\f s.heap/\u≠ .builtin "__main__.__loader__#opaque":=by
 cases ty with
 | non=>
   cases(r);show%[_,kitx_none,Mx|λz=>nomatch z]
 | @ex a C h c=>
   cases(r);let%[d,j|l]:=h;let%[%[o,vs,e,g,b|i]|_]:=I.hok a _ j;let%[y,m,n|p]:=o;dsimp only at g b i;subst g b i;show%[_,GW c,?_|λz=>nomatch z];rcases l with rfl|⟨q,fs,rfl,v⟩
   .show%[_,eH,e,ρ,ρ|trivial]
   .let%[od|w]:=(I.hok q _ v).there;show%[_,fx od,e,ρ,ρ|w]
end
def tQ:∀{a:dV ij} {us:ZF},aQ (a.map V.ref) us->us=a.map kG
 |[],_,.nil=>rfl
 | _::_,_,.cons r t=>by
   cases r;rw[tQ t];rfl
def Ek{X:Cx}:cO X (.builtin "isinstance") (λxs H Q=>∃x y t b,xs=[x,y]/\TyX X.K H x t/\
 ((∃n,y= .ty n/\Pb X.K t (.type n)∣b)\/(∃D,y= .ref D/\Pb X.K t (.ref D)∣b)\/∃c d,y= .ref c/\H c&&&RG V.ref d/\TM X.K t (d.map kG)∣b)/\Q (.bl b) H):=by
 intro ff s B H xs us Q I r h;let%[x,y,t,b,rfl,ty,f|q]:=h;let%[u,C,rfl,g|a]:=lK r;let%[E,Z,p|nb]:=ty.kit I g;rcases f with⟨n,rfl,e⟩|⟨D,rfl,e⟩|⟨c,d,rfl,i,e⟩
 .cases(a);show OY Z I.kIn p e nb λtk=>%[.bl b,H,I.tok tk,rfl|q]
 .cases(a);show OY Z I.kIn p e nb λtk=>%[.bl b,H,I.tok tk,rfl|q]
 .cases(a);let%[_,its,j,o,l,m,n|v]:=I.hok c _ i;let:=tQ j;subst this;let%[G,w,z|A]:=o;subst m v;show PySem.W.kia_tup Z I.kIn p l e nb λtk=>%[.bl b,H,I.tok tk,rfl|q]
def JS{X:Cx}{D:ij}(b:Gl X x)(c:X.mg x∣.ref D)(a:(x==("__debug__":iv))=fS):PE X (.Name x p) (λd H Q=>Q (.ref D) H):=λff s d H Q I h=>
 gZ I b c %[.ref D,H,I,rfl|h] a
def Fun.okX{P:nz}{K:ZA}{st:yc}(F:Fun K x b st f g)(S:ay N ps (ar st))(len:∀vs H Q E,sp vs H Q E-> ~~~vs= ~~~ps)
 (c:∀(a:hV) (A:vj) (outer:dV Env) (s:kj) (H:Hp) (vs:dV V) (Q:VK) (E:XK),bB k (A.deeper (M5 b (ar st) ⇑s f a))->sp vs H Q E->
  ∃t,PSs (gc (CXO P w) P w K mg base N b (ar st) f a A outer s H E) (bQ st) t/\t {nx:=λ_ H'=>Q .non H',rt:=Q} (start N vs) H):eO P w K mg base (CXO P w) (k+1) f g ps sp:=by
 let%[l,od,kV,h,m,n,a,ct,i,rfl,lk|d]:=F.ex;show HN lk d S len λA outer s H vs Q E j e=>c a A outer s H vs Q E j e
abbrev aP(mg:ZC)(x:iv):ij:=match mg x with
 | fx (.ref C)=>C
 | _=>0
def eC(h:mg x∣.ref C):aP mg x=C:=by unfold aP;rw[h]
structure El (K:ZA) (mg:ZC) (x qual:iv) (st:yc) (ps:ZB):Prop where
 at_:mg x∣.ref (aP mg x)
 is:XIs K (aP mg x)
 ini:∃f fd,MkX K (aP mg x) f/\Fun K "__init__" qual st f fd/\d6 K fd ps []
structure zE (P:nz) (w:vk) (K:ZA) (mg:ZC) (base:v0) (k:hH) (x:iv) (ps:ZB) (sp:Sp):Prop where
 ex:∃f fd,eO P w K mg base (CXO P w) k f fd ps sp/\mg x∣.ref f/\OD K (.ref f)=fI/\d6 K fd ps []
structure JT (P:nz) (w:vk) (K:ZA) (mg:ZC) (base:v0) (k:hH) (x:iv) (ps:ZB) (sp:Sp):Prop where
 ex:∃f fd,eO P w K mg base CX0 k f fd ps sp/\MkX K (aP mg x) f/\mg x∣.ref (aP mg x)/\d6 K fd ps []
section
variable{P:nz}{w:vk}{K:ZA}{mg:ZC}{base:v0}{x qual:iv}{st:yc}{N ps:ZB}{k:hH}{sp:Sp}
def aK.calX(D:aK K mg x st ps)(S:ay N ps (ar st))
 (a:∀(H:Hp) (vs:dV V) (Q:VK) (E:XK),sp vs H Q E-> ~~~vs= ~~~ps/\∀(f:ij) (b:hV) (A:vj) (outer:dV Env) (s:kj),bB k (A.deeper (M5 x (ar st) ⇑s f b))->
  ∃t,PSs (gc (CXO P w) P w K mg base N x (ar st) f b A outer s H E) (bQ st) t/\t {nx:=λ_ H'=>Q .non H',rt:=Q} (start N vs) H):zE P w K mg base (k+1) x ps sp:=by
 let%[f,c,F,d|e]:=D.ex;show%[f,c,F.okX S (λv H Q E h=>(a H v Q E h).1) (λb A o s H v Q E r h=>(a H v Q E h).2 f b A o s r),d,F.kp|e]
def El.cal(D:El K mg x qual st ps)(S:ay N ps (ar st))(len:∀vs H Q E,sp vs H Q E-> ~~~vs= ~~~ps)
 (b:∀(f:ij) (a:hV) (A:vj) (outer:dV Env) (s:kj) (H:Hp) (vs:dV V) (Q:VK) (E:XK),exK K (aP mg x) f=fI->bB k (A.deeper (M5 qual (ar st) ⇑s f a))->sp vs H Q E->
  ∃t,PSs (gc CX0 P w K mg base N qual (ar st) f a A outer s H E).nox (bQ st) t/\t {nx:=λ_ H'=>Q .non H',rt:=Q} (start N vs) H):JT P w K mg base (k+1) x ps sp:=by
 let%[f,c,M,F|d]:=D.ini;show%[f,c,F.ok S len λa A outer s H vs Q E=>b f a A outer s H vs Q E M.ex,M,D.at_|d]
end
section
variable{X:Cx}{K:ZA}{pos:Pos}
def Em(d:iZ (CXO X.prog X.w) X E)(C:zE X.prog X.w X.K X.mg X.base j x ps sp)(g:bB k X.A)(h:Gl X x)(a:O6 j k=fI)
 (b:(x==("__debug__":iv))=fS) (c:(e::es).any aV=fS) (i:QA X (e::es) t):QE X (.Call (.Name x p) (e::es) [] pos) (sP sp [] E t):=by
 rw[Zw,X7]at c;let%[f,o,F,l,m|n]:=C.ex;show⟨As F (g.mono (Ye a)) h l m n .nil d i.h b (aD c.1) (eA c.2)⟩
def JU(C:JT X.prog X.w X.K X.mg X.base j x ps sp)(d:bB k X.A)(g:Gl X x)(a:O6 (j+1) k=fI)
 (b:(x==("__debug__":iv))=fS) (c:(e::es).any aV=fS) (h:QA X (e::es) t):QE X (.Call (.Name x p) (e::es) [] pos) (zD (aP X.mg x) sp t):=by
 rw[Zw,X7]at c;let%[f,m,F,M,i|l]:=C.ex;show⟨Eh M F (d.mono (Ye a)) g i l h.h b (aD c.1) (eA c.2)⟩
def clsE(b:Gl X x)(c:X.mg x∣.ref (aP X.mg x))(a:(x==("__debug__":iv))=fS):QE X (.Name x p) (tC (.ref (aP X.mg x))):=⟨JS b c a⟩
def JV(a:QE X e b):QE X (.FormattedValue e (-1) eH pos) (JO b):=⟨JP a.h⟩
def En:PJ X [] []:= .nil
def pjE(a:QE X e t)(h:PJ X es ts):PJ X (e::es) (t::ts):= .cons a.h h
def Eo{rest:dV wh}(h:PJ X (v1::a::rest) ts):QE X (.JoinedStr (v1::a::rest) pos) (pX ts Me):=⟨GS h⟩
def Ep(c:GU X.K C f)(a:i6 e=fS)(b:QE X e d):QE X (.Attribute e f pos) (HY C d f):=⟨GV c b.h (hZ a)⟩
def Lj(c:JN X.K C f)(b:hJ e=fS)(d:QE X o g)(h:QE X e i):QS X (.Assign [.Attribute o f a] e pos) (HX X.K C g i f):=⟨GR c d.h h.h (jH b)⟩
def HZ(h:X.K=K):cG X (.builtin "isinstance") (λxs H Q=>∃x y t b,xs=[x,y]/\TyX K H x t/\
 ((∃n,y= .ty n/\Pb K t (.type n)∣b)\/(∃D,y= .ref D/\Pb K t (.ref D)∣b)\/∃a c,y= .ref a/\H a&&&RG V.ref c/\TM K t (c.map kG)∣b)/\Q (.bl b) H):=by
 subst h;show⟨Ek⟩
end
def JW{P:nz}{K:ZA}
 (g:exK K C f=fI) (h:QE (gc (CXO P w) P w K mg base N c b i j A outer s₀ H₀ E) e l):
 QS (gc (CXO P w) P w K mg base N c b i j A outer s₀ H₀ E) (.Raise (fx e) eH pos) (vC C l λa H=>∃d,H a∣ExO a C (fx d)/\H₀ a=eH/\E (.ref C) (fx d) (drop H a)):=⟨B8 g h.h⟩
def JX{X:Cx}{C D f:ij}(j:exK X.K C f=fI)(l:Gl X x)(m:X.mg x∣.ref D)(B:Ee X.K D)(c:(x==("__debug__":iv))=fS)(g:(e::es).any aV=fS)
 (h:∃pl:Sem pp,MO (.Call (.Attribute (.Name x p) "__init__" b) (e::es) [] pos) X.env=(do
  let i<-MO (.Name x p) X.env
  OS b.atName
  let(f,first)<-Oq [i] (QC i "__init__" pl)
  TU pos f first (Nm pos (ri (e::es) X.env)) (O3 pos (ND [] X.env)))) (n:QA X (e::es) t):
 QE X (.Call (.Attribute (.Name x p) "__init__" b) (e::es) [] pos) (tCB (λxs H Q=>∃a d ys,xs=V.ref a::ys/\ ~~~ys<=9/\H a∣ExO a C d/\Q .non H) t):=by
 rw[Zw,X7]at g;let%[pl|h]:=h;show⟨Ef l m B (zC j) n.h c (aD g.1) (eA g.2) h⟩
section
#where
end
abbrev clo(c:TE):TE:=λd H Q=>∃a:VK,c d H a/\∀v b,a v b->Q v b
def JY{X:Cx}(h:PE X e b):PE X e (clo b):=λff s c H Q I ⟨d,q,k⟩=>
 thP (h ff s c H d I q) λ_ _ v a f r z=>%[v,a,f,r|k v a z]
def JZ{X:Cx}(h:PE X e t)(k:∀a H Q,t' a H Q->t a H Q):PE X e t':=λff s a H Q I q=>h ff s a H Q I (k a H Q q)
def Er(h:H r=eH):drop (Qa H r o) r=H:=by
 funext b;unfold drop Qa
 simp_all
section
end
end _LL
namespace _SB
open PySem PyProof.Rows
section
variable(prog:nz)(w:vk)(A:vj)(SI:kj->Prop)
abbrev SC{a:Type}(m:L1 mu Sem a)(Q:a->mu->Prop)(st:mu):Prop:=
 ∀s,SI s->↥A (m.run st) (λr s'=>SI s'/\Q r.1 r.2) (λ_ _=>G2) s
nonrec abbrev ZY:=nY Nk
abbrev Cmp(a:TZ)(D:Nk->Prop):Prop:=
 ∀x y s,D x->D y->SI s->↥A (keyLt' a x.1 y.1) (λ_ s'=>SI s') (λ_ _=>G2) s
end
section
variable{prog:nz}{w:vk}{A:vj}{SI:kj->Prop}{α β:Type}
def aA{st:mu}(h:Q a st):(SC prog w A SI) (pure a) Q st:=λs b=>by
 show Z3 %[b|h]
def aw{st:mu}(h:(SC prog w A SI) m (λa b=>(SC prog w A SI) (f a) Q b) st):(SC prog w A SI) (m>>= f) Q st:=λs c=>by
 show Z2 (J5 (h s c) (λr s' h'=>h'.2 s' h'.1) λ_ _ e=>e)
def cQ{st:mu}(h:(SC prog w A SI) m Q st)(c:∀a b,Q a b->d a b):(SC prog w A SI) m d st:=λs f=>
 J5 (h s f) (λr s' h'=>%[h'.1|c _ _ h'.2]) λ_ _ e=>e
def iD{st:mu}(h:Q st st):(SC prog w A SI) get Q st:=λs a=>by
 show Z3 %[a|h]
def du{st:mu}(h:Q ⟨⟩ (f st)):(SC prog w A SI) (UM f) Q st:=λs a=>by
 show Z3 %[a|h]
def J7{st:mu}(h:Q ⟨⟩ x):(SC prog w A SI) (set x) Q st:=λs a=>by
 show Z3 %[a|h]
def AE{st:mu}(h:∀s,SI s->↥A m (λa s'=>SI s'/\Q a st) (λ_ _=>G2) s):(SC prog w A SI) (liftM m:L1 mu Sem α) Q st:=λs b=>by
 show Z2 (J5 (h s b) (λa s' h'=>Z3 h') λ_ _ e=>e)
def ko{st:mu}(h:Q () st):(SC prog w A SI) (liftM (Ro t):L1 mu Sem So) Q st:=AE λs a=>Oz %[a|h]
def cq{st:mu}(I:hH->β->mu->Prop)(j:a<=b)(p:I a c st)
 (l:∀i x st,a<=i->i<b->I i x st->(SC prog w A SI) (f i x) (λr g=>match r with| .done y=>Q y g| .yield y=>I (i+1) y g) st) (m:∀x st,I b x st->Q x st):(SC prog w A SI) (forIn [a:b] c f) Q st:=by
 let q:∀d i x st,i+d=b->a<=i->I i x st->(SC prog w A SI) (forIn (dV.range' i d 1) x f) Q st:=by
  intro d
  induction d with
  | zero=>
    intro i x st e _ h;subst e;show aA (m x st h)
  | succ d n=>
    intro i x st e o h;rw[dV.range'_succ,R4];show aw (cQ (l i x st o ⋯ h) λr g h'=>?_);cases r with
    | done y=>show aA h'
    | yield y=>show n _ y g ⋯ ⋯ h'
 simp_all
def bq{st:mu}(a:xs[i]?∣x)(h:Q x st):(SC prog w A SI) (OL xs i) Q st:=by
 rw[elem'_eq,a];show aA h
def xa{st:mu}(c:Cmp prog w A SI (kindOf st) D)(d:D x)(f:D y)(h:∀b,Q (fx b) st):(SC prog w A SI) (lt' x y) Q st:=
 aw (iD (aw (AE (λs g=>Nr (J5 (c x y s d f g) (λb s' a=>%[a|aA (h b)]) λ_ _ e=>e.elim)))))
def GX{st:mu}(c:Cmp prog w A SI (kindOf st) D)(hi:(q7 st)[i]?∣x)(a:(q7 st)[j]?∣y)(d:D x)(e:D y)
 (h:∀b,Q (fx b) st):(SC prog w A SI) (Wk i j) Q st:=
 aw (iD (aw (bq hi (aw (bq a (xa c d e h))))))
end
abbrev ig:pp->Nk->ZY->hH->hH->hH->L1 mu Sem (kf hH):=sortPriv% PySem.Builtin.gallop
section
variable{prog:nz}{w:vk}{A:vj}{SI:kj->Prop}{α β:Type}
abbrev ga0(left:pp)(a:Nk)(b:ZY)(base i:hH):L1 mu Sem (kf pp):=do
 let x<-OL b (base+i)
 if left=fI then lt' x a else do
  let y<-lt' a x
  pure (y.map (!·))
abbrev gaM(f:hH->L1 mu Sem (kf pp))(x:kf (kf hH)×hH×hH):L1 mu Sem (p0 (kf (kf hH)×hH×hH)):=
 if x.2.1>=x.2.2 then pure (.done (eH,x.2.1,x.2.2))else do
  match<-f (x.2.1+(x.2.2-x.2.1)/2)with
  | some w=>if w=fI then pure (.yield (eH,x.2.1+(x.2.2-x.2.1)/2+1,x.2.2))else pure (.yield (eH,x.2.1,x.2.1+(x.2.2-x.2.1)/2))
  | _=>pure (.done (fx eH,x.2.1,x.2.2))
abbrev ga3(f:hH->L1 mu Sem (kf pp))(n lo hi:hH):L1 mu Sem (kf hH):=do
 let x<-forIn [0:n] (eH,lo,hi) λ_ x=>gaM f x
 match x.1 with
 | some r=>pure r
 | none=>pure (fx x.2.2)
abbrev ga1(f:hH->L1 mu Sem (kf pp))(n hint:hH)(x:kf (kf hH)×hH×hH):L1 mu Sem (p0 (kf (kf hH)×hH×hH)):=
 if x.2.2>=n-hint then pure (.done (eH,x.2.1,x.2.2))else do
  match<-f (hint+x.2.2)with
  | some w=>if(!w)=fI then pure (.done (eH,x.2.1,x.2.2))else pure (.yield (eH,x.2.2,2*x.2.2+1))
  | _=>pure (.done (fx eH,x.2.1,x.2.2))
abbrev ga2(f:hH->L1 mu Sem (kf pp))(hint:hH)(x:kf (kf hH)×hH×hH):L1 mu Sem (p0 (kf (kf hH)×hH×hH)):=
 if x.2.2>=hint+1 then pure (.done (eH,x.2.1,x.2.2))else do
  match<-f (hint-x.2.2)with
  | some w=>if w=fI then pure (.done (eH,x.2.1,x.2.2))else pure (.yield (eH,x.2.2,2*x.2.2+1))
  | _=>pure (.done (fx eH,x.2.1,x.2.2))
set_option smartUnfolding false in
def Lk(left:pp)(a:Nk)(b:ZY)(base n hint:hH):ig left a b base n hint=(do
 match<-ga0 left a b base hint with
 | some w=>
   if w=fI then(do
    let x<-forIn [0:n] (eH,0,1) λ_ x=>ga1 (ga0 left a b base) n hint x
    match x.1 with
    | some r=>pure r
    | none=>ga3 (ga0 left a b base) n (hint+x.2.1+1) (hint+min x.2.2 (n-hint)))
   else(do
    let x<-forIn [0:n] (eH,0,1) λ_ x=>ga2 (ga0 left a b base) hint x
    match x.1 with
    | some r=>pure r
    | none=>ga3 (ga0 left a b base) n (hint+1-min x.2.2 (hint+1)) (hint-x.2.1))
 | _=>pure eH):=rfl
def zF{f:kf (kf hH)×hH×hH->L1 mu Sem (p0 (kf (kf hH)×hH×hH))}{g:kf (kf hH)×hH×hH->L1 mu Sem (kf hH)}{n l h:hH}{Q:kf hH->mu->Prop}{st:mu}(P:hH->Prop)(b:P h)
 (c:∀l h (R:p0 _->mu->Prop),P h->(∀l h,P h->R (.done (eH,l,h)) st/\R (.yield (eH,l,h)) st)->(SC prog w A SI) (f (eH,l,h)) R st) (d:∀l h,P h->(SC prog w A SI) (g (eH,l,h)) Q st):
 (SC prog w A SI) (do let x<-forIn [0:n] (eH,l,h) λ_ x=>f x;g x) Q st:=by
 show aw (cQ (cq (Q:=λx a=>a=st/\∃l h,x=(eH,l,h)/\P h) (λ_ x a=>a=st/\∃l h,x=(eH,l,h)/\P h) (Xe _) %[rfl,_,_,rfl|b] ?_ λ_ _ h=>h) ?_)
 .intro _ _ _ _ _ %[rfl,l,h,rfl|p];show c l h _ p λl h p=>%[%[rfl,_,_,rfl|p],rfl,_,_,rfl|p]
 .intro _ _ %[rfl,l,h,rfl|p];show d l h p
def fP{D:Nk->Prop}{left:pp}{a:Nk}{d:ZY}{base n hint:hH}{Q:kf hH->mu->Prop}{st:mu}(c:Cmp prog w A SI (kindOf st) D)(f:D a)
 (p:∀i,i<n->∃x,d[base+i]?∣x/\D x) (q:hint<n) (h:∀k,k<=n->Q (fx k) st):(SC prog w A SI) (ig left a d base n hint) Q st:=by
 let ask:∀(i:hH) (R:kf pp->mu->Prop),i<n->(∀b,R (fx b) st)->(SC prog w A SI) (ga0 left a d base i) R st:=λi R hi g=>by
  let%[x,r|j]:=p i hi;show aw (bq r ?_);cases left
  .show aw (xa c f j λ_=>aA (g _))
  .show xa c j f g
 let m:∀l o,o<=n->(SC prog w A SI) (ga3 (ga0 left a d base) n l o) Q st:=λl o e=>by
  show zF (·<=n) e (λl o R e k=>?_) λl o e=>aA (h o e)
  unfold gaM;dsimp only
  split
  .show aA (k _ _ e).1
  .show aw (ask _ _ ⋯ λb=>?_);cases b
   .show aA (k _ _ ⋯).2
   .show aA (k _ _ e).2
 rw[Lk];show aw (ask hint _ q λb=>?_);cases b
 .show zF (λ_=>Pr) ⟨⟩ (λl o R _ k=>?_) λl o _=>m _ _ ⋯
  unfold ga2;dsimp only
  split
  .show aA (k _ _ ⟨⟩).1
  .show aw (ask _ _ ⋯ λb=>?_);cases b
   .show aA (k _ _ ⟨⟩).2
   .show aA (k _ _ ⟨⟩).1
 .show zF (λ_=>Pr) ⟨⟩ (λl o R _ k=>?_) λl o _=>m _ _ ⋯
  unfold ga1;dsimp only
  split
  .show aA (k _ _ ⟨⟩).1
  .show aw (ask _ _ ⋯ λb=>?_);cases b
   .show aA (k _ _ ⟨⟩).1
   .show aA (k _ _ ⟨⟩).2
end
abbrev pY:ZY->ZY->L1 mu Sem ZY:=sortPriv% PySem.Builtin.mergeLo
abbrev pZ:ZY->ZY->L1 mu Sem ZY:=sortPriv% PySem.Builtin.mergeHi
abbrev dU:hH->L1 mu Sem So:=sortPriv% PySem.Builtin.setMinGallop
def iP(g:hH):dU g=UM (λs=>T7 (kindOf s) (q7 s) (ow s) g (NF s)):=rfl
abbrev eK(a b r:ZY):Prop:=r.toList.Perm (a.toList++b.toList)
abbrev MI(a b out:ZY)(c d:hH):Prop:=(out.toList++(a.toList.drop c++b.toList.drop d)).Perm (a.toList++b.toList)
def gA(a:ZY)(i j:hH):(a.extract i j).toList=(a.toList.drop i).take (j-i):=by
 simp
def oZ(a:ZY)(i:hH):(a.extract i a.size).toList=a.toList.drop i:=by
 rw[gA,Zn]
 simp_all
def pc(a:ZY)(i k:hH):(a.extract i (i+k)).toList=(a.toList.drop i).take k:=by
 simp
def MI.takeA{a b out:ZY}{c d:hH}(h:MI a b out c d)(k:hH):MI a b (out++a.extract c (c+k)) (c+k) d:=by
 unfold MI at h ⊢;rw[Xd,pc,Ze,<-Ze _ (a.toList.drop _),<-WN,Xa];show h
def MI.takeB{a b out:ZY}{d c:hH}(h:MI a b out d c)(k:hH):MI a b (out++b.extract c (c+k)) d (c+k):=by
 unfold MI at h ⊢;show PU ?_ h;rw[Xd,pc,Ze];show Om _ ?_;show(NX _ _ _).trans ?_;rw[<-WN,Xa]
def jb{a:ZY}{i:hH}(h:i<a.size)(out:ZY):out++a.extract i (i+1)=out.push a[i]:=by
 apply nY.ext';rw[Xd,pc,Rh,Zy ↑h];rfl
def MI.done{a b out:ZY}{c d:hH}(h:MI a b out c d):eK a b (out++a.extract c a.size++b.extract d b.size):=by
 unfold eK;rw[Xd,Xd,oZ,oZ,Ze];show h
def MI.last{a b out:ZY}{c d:hH}(h:MI a b out c d):eK a b (out++b.extract d b.size++a.extract c a.size):=by
 unfold eK;rw[Xd,Xd,oZ,oZ,Ze];show(Om _ Qu).trans h
abbrev SG(st a:mu):Prop:=kindOf a=kindOf st/\q7 a=q7 st/\ow a=ow st/\NF a=NF st
def SG.refl(st:mu):SG st st:=%[rfl,rfl,rfl|rfl]
def SG.set{st a:mu}(h:SG st a)(g:hH):SG st (T7 (kindOf a) (q7 a) (ow a) g (NF a)):=h
def SG.trans{s t u:mu}(h:SG s t)(k:SG t u):SG s u:=%[k.1.trans h.1,k.2.1.trans h.2.1,k.2.2.1.trans h.2.2.1|k.2.2.2.trans h.2.2.2]
structure LC (prog:nz) (w:vk) (A:vj) (SI:kj->Prop) (D:Nk->Prop) (a b:ZY) (st:mu):Prop where
 c:Cmp prog w A SI (kindOf st) D
 DA:∀{i:hH} (hi:i<a.size),a[i]?∣a[i]/\D a[i]
 DB:∀{i:hH} (hi:i<b.size),b[i]?∣b[i]/\D b[i]
def LC.of{prog:nz}{w:vk}{A:vj}{d:kj->Prop}{D:Nk->Prop}{a b:ZY}{s t:mu}(C:LC prog w A d D a b s)(h:SG s t):LC prog w A d D a b t:={C with c:=h.1▸C.c}
section
variable{prog:nz}{w:vk}{A:vj}{SI:kj->Prop}{α β:Type}
structure ML (a b out:ZY) (ia ib:hH):Prop where
 mi:MI a b out ia ib
 na:ia+1<a.size
 nb:ib<b.size
abbrev lo3(a b out:ZY)(c d g k k1:hH):L1 mu Sem (p0 (kf ZY×ZY×hH×hH×hH×hH×hH)):=OL a c>>= λe=>if(c+1+1==a.size)=fI then pure (.done (fx (out.push e++b.extract d b.size++a.extract (c+1) a.size),out.push e,c+1,d,g,k,k1))else if(decide (k<7)&&decide (k1<7))=fI then pure (.done (eH,out.push e,c+1,d,g,k,k1))else pure (.yield (eH,out.push e,c+1,d,g,k,k1))
abbrev lo2(a b out:ZY)(d c g k f:hH):L1 mu Sem (p0 (kf ZY×ZY×hH×hH×hH×hH×hH)):=OL b c>>= λe=>if(c+1==b.size)=fI then pure (.done (fx (out.push e++a.extract d a.size++b.extract (c+1) b.size),out.push e,d,c+1,g,k,f))else OL a d>>= λh=>ig fI h b (c+1) (b.size-(c+1)) 0>>= fun|some k1=>if k1>0 then if(c+1+k1==b.size)=fI then pure (.done (fx (out.push e++b.extract (c+1) (c+1+k1) ++a.extract d a.size++b.extract (c+1+k1) b.size),out.push e++b.extract (c+1) (c+1+k1),d,c+1+k1,g,k,k1))else lo3 a b (out.push e++b.extract (c+1) (c+1+k1)) d (c+1+k1) g k k1 else lo3 a b (out.push e) d (c+1) g k k1|_=>pure (.done (fx (out.push e++a.extract d a.size++b.extract (c+1) b.size),out.push e,d,c+1,g,k,f))
abbrev lo1(a b out:ZY)(c d h f g:hH):L1 mu Sem (p0 (kf ZY×ZY×hH×hH×hH×hH×hH)):=dU g>>= λ_=>OL b d>>= λe=>ig fS e a c (a.size-c) 0>>= fun|some k=>if k>0 then if(c+k+1==a.size)=fI then pure (.done (fx (out++a.extract c (c+k) ++b.extract d b.size++a.extract (c+k) a.size),out++a.extract c (c+k),c+k,d,g,k,f))else if(c+k==a.size)=fI then pure (.done (fx (out++a.extract c (c+k) ++a.extract (c+k) a.size++b.extract d b.size),out++a.extract c (c+k),c+k,d,g,k,f))else lo2 a b (out++a.extract c (c+k)) (c+k) d g k f else lo2 a b out c d g k f|_=>pure (.done (fx (out++a.extract c a.size++b.extract d b.size),out,c,d,g,h,f))
abbrev loI(a b out:ZY)(c d g f h:hH):L1 mu Sem (p0 (kf ZY×ZY×hH×hH×hH×hH)):=OL b d>>= λi=>OL a c>>= λj=>lt' i j>>= fun|some w=>if w=fI then(OL b d>>= λe=>if(d+1==b.size)=fI then pure (.done (fx (out.push e++a.extract c a.size++b.extract (d+1) b.size),out.push e,c,d+1,0,h+1))else if h+1>=g then pure (.done (eH,out.push e,c,d+1,0,h+1))else pure (.yield (eH,out.push e,c,d+1,0,h+1)))else(OL a c>>= λe=>if(c+1+1==a.size)=fI then pure (.done (fx (out.push e++b.extract d b.size++a.extract (c+1) a.size),out.push e,c+1,d,f+1,0))else if f+1>=g then pure (.done (eH,out.push e,c+1,d,f+1,0))else pure (.yield (eH,out.push e,c+1,d,f+1,0)))|_=>pure (.done (fx (out++a.extract c a.size++b.extract d b.size),out,c,d,f,h))
abbrev loG(a b:ZY):kf ZY×ZY×hH×hH×hH×hH×hH->L1 mu Sem (p0 (kf ZY×ZY×hH×hH×hH×hH×hH)):=λx=>
 if x.2.2.2.2.1>1 then lo1 a b x.2.1 x.2.2.1 x.2.2.2.1 x.2.2.2.2.2.1 x.2.2.2.2.2.2 (x.2.2.2.2.1-1)else lo1 a b x.2.1 x.2.2.1 x.2.2.2.1 x.2.2.2.2.2.1 x.2.2.2.2.2.2 x.2.2.2.2.1
abbrev loE(x:kf ZY×ZY×hH×hH×hH×hH×hH):L1 mu Sem (p0 (kf ZY×ZY×hH×hH×hH)):=
 match x.1 with
 | some r=>pure (.done (fx r,x.2.1,x.2.2.1,x.2.2.2.1,x.2.2.2.2.1))
 | none=>do
   dU (x.2.2.2.2.1+1)
   pure (.yield (eH,x.2.1,x.2.2.1,x.2.2.2.1,x.2.2.2.2.1+1))
abbrev loF(a b:ZY)(g:hH)(x:kf ZY×ZY×hH×hH×hH×hH):L1 mu Sem (p0 (kf ZY×ZY×hH×hH×hH)):=
 match x.1 with
 | some r=>pure (.done (fx r,x.2.1,x.2.2.1,x.2.2.2.1,g))
 | none=>do
   Ro "list.sort.gallop"
   let x<-forIn [0:a.size+b.size] (eH,x.2.1,x.2.2.1,x.2.2.2.1,g+1,x.2.2.2.2.1,x.2.2.2.2.2) λ_ x=>loG a b x
   loE x
abbrev loO(a b:ZY):kf ZY×ZY×hH×hH×hH->L1 mu Sem (p0 (kf ZY×ZY×hH×hH×hH)):=λx=>do
 let y<-forIn [0:a.size+b.size] (eH,x.2.1,x.2.2.1,x.2.2.2.1,0,0) λ_ y=>loI a b y.2.1 y.2.2.1 y.2.2.2.1 x.2.2.2.2 y.2.2.2.2.1 y.2.2.2.2.2
 loF a b x.2.2.2.2 y
abbrev loR(x:kf ZY×ZY×hH×hH×hH):L1 mu Sem ZY:=
 match x.1 with
 | some r=>pure r
 | none=>Pq "internal:list.sort.merge-bound"
set_option smartUnfolding false in
def Lo(a b:ZY):pY a b=(do
 Ro "list.sort.merge-lo"
 let e<-OL b 0
 if(1==b.size)=fI then pure (#[e] ++a.extract 0 a.size++b.extract 1 b.size)
 else if(0+1==a.size)=fI then pure (#[e] ++b.extract 1 b.size++a.extract 0 a.size)
 else do
  let s<-get
  let x<-forIn [0:a.size+b.size] (eH,#[e],0,1,gallopOf s) λ_ x=>loO a b x
  loR x):=by
 rfl
variable{D:Nk->Prop}{a b out:ZY}{ia ib g k bc z:hH}{st:mu}
def aZ{m n:hH}(h: ¬(m==n)=fI):m≠n:=λe=>h (by simp[e])
def Es{k1:hH}{R:p0 _->mu->Prop}(C:LC prog w A SI D a b st)(m:ML a b out ia ib)(d:z<=out.size+1)
 (e:∀r o,eK a b r->R (.done (fx r,o)) st) (f:∀out ia ib g k k1,ML a b out ia ib->z<=out.size->R (.done (eH,out,ia,ib,g,k,k1)) st/\R (.yield (eH,out,ia,ib,g,k,k1)) st):(SC prog w A SI) (lo3 a b out ia ib g k k1) R st:=by
 let na:=m.na;show aw (bq (C.DA ⋯).1 ?_);let c:=m.mi.takeA 1;rw[jb ⋯]at c
 split
 .show aA (e _ _ c.last)
 .rename_i q
  let q:=aZ q;let h:=f _ _ _ g k k1 %[c,⋯|m.nb] (by rw[Xi];show d)
  split
  .show aA h.1
  .show aA h.2
def Et{R:p0 (kf ZY×ZY×hH×hH×hH×hH×hH)->mu->Prop}(C:LC prog w A SI D a b st)(m:ML a b out ia ib)(p:z<=out.size+2)
 (c:∀r o,eK a b r->R (.done (fx r,o)) st) (e:∀out ia ib g k k1,ML a b out ia ib->z<=out.size->R (.done (eH,out,ia,ib,g,k,k1)) st/\R (.yield (eH,out,ia,ib,g,k,k1)) st):(SC prog w A SI) (lo2 a b out ia ib g k bc) R st:=by
 let%[l,na|nb]:=m;show aw (bq (C.DB nb).1 ?_);let d:=l.takeB 1;rw[jb nb]at d
 split
 .show aA (c _ _ d.done)
 .rename_i q
  let q:=aZ q;let f:=C.DA (show ia<_ by lia);show aw (bq f.1 (aw (fP C.c f.2 (λi hi=>%[_|C.DB ⋯]) ⋯ λk2 n=>?_)));dsimp only
  split
  .let h:=d.takeB k2
   split
   .show aA (c _ _ h.done)
   .rename_i j
    let j:=aZ j;show Es C %[h,na|⋯] (by simp;lia) c e
  .show Es C %[d,na|⋯] (by rw[Xi];lia) c e
def J8{l:hH}{R:p0 (kf ZY×ZY×hH×hH×hH×hH×hH)->mu->Prop}(C:LC prog w A SI D a b st)(m:ML a b out ia ib)(n:z<=out.size+2)
 (d:∀c r o,SG st c->eK a b r->R (.done (fx r,o)) c) (e:∀c out ia ib g k k1,SG st c->ML a b out ia ib->z<=out.size->R (.done (eH,out,ia,ib,g,k,k1)) c/\R (.yield (eH,out,ia,ib,g,k,k1)) c):(SC prog w A SI) (lo1 a b out ia ib l bc g) R st:=by
 let na:=m.na;let f:=C.DB m.nb;unfold lo1;rw[iP];show aw (du ?_);let sg:=(SG.refl st).set g;let d:=λr o=>d _ r o sg
 let e:=λout ia ib g k k1=>e _ out ia ib g k k1 sg
 let C:=C.of sg;show aw (bq f.1 (aw (fP C.c f.2 (λi hi=>%[_|C.DA ⋯]) ⋯ λk p=>?_)));dsimp only
 split
 .let mk:=m.mi.takeA k
  split
  .show aA (d _ _ mk.last)
  .rename_i h
   let h:=aZ h
   split
   .show aA (d _ _ mk.done)
   .rename_i j
    let j:=aZ j;show Et C %[mk,⋯|m.nb] (by simp;lia) d e
 .show Et C m n d e
def J9{c:hH}{R:p0 (kf ZY×ZY×hH×hH×hH×hH)->mu->Prop}(C:LC prog w A SI D a b st)(m:ML a b out ia ib)(f:z<=out.size+1)
 (i:∀r o,eK a b r->R (.done (fx r,o)) st) (j:∀out ia ib c bc,ML a b out ia ib->z<=out.size->R (.done (eH,out,ia,ib,c,bc)) st/\R (.yield (eH,out,ia,ib,c,bc)) st):(SC prog w A SI) (loI a b out ia ib g c bc) R st:=by
 let%[l,na|nb]:=m;let d:=C.DA (show ia<_ by lia);let e:=C.DB nb;show aw (bq e.1 (aw (bq d.1 (aw (xa C.c e.2 d.2 λ_=>?_)))));dsimp only
 split
 .show aw (bq e.1 ?_);let m2:=l.takeB 1;rw[jb nb]at m2
  split
  .show aA (i _ _ m2.done)
  .rename_i q
   let q:=aZ q;let h:=j _ _ _ 0 (bc+1) %[m2,na|⋯] (by rw[Xi];show f)
   split
   .show aA h.1
   .show aA h.2
 .show aw (bq d.1 ?_);let m2:=l.takeA 1;rw[jb ⋯]at m2
  split
  .show aA (i _ _ m2.last)
  .rename_i q
   let q:=aZ q;let h:=j _ _ _ (c+1) 0 %[m2,⋯|nb] (by rw[Xi];show f)
   split
   .show aA h.1
   .show aA h.2
def Ka{j:hH}{q:kf ZY}{R:p0 (kf ZY×ZY×hH×hH×hH)->mu->Prop}(C:LC prog w A SI D a b st)(m:ML a b out ia ib)(e:j+1<=out.size)
 (p:∀d r o,SG st d->eK a b r->R (.done (fx r,o)) d) (s:∀d out ia ib g,SG st d->ML a b out ia ib->j+2<=out.size->R (.yield (eH,out,ia,ib,g)) d):(SC prog w A SI) (loO a b (q,out,ia,ib,g)) R st:=by
 let u:=m.na;show aw (cQ (cq (Q:=λx d=>SG st d/\((∃r o,x=(fx r,o)/\eK a b r)\/∃out ia ib f bc,x=(eH,out,ia,ib,f,bc)/\ML a b out ia ib/\j+2<=out.size))
  (λj2 x d=>SG st d/\∃out ia ib f bc,x=(eH,out,ia,ib,f,bc)/\ML a b out ia ib/\j+1+j2<=out.size) (Xe _) %[SG.refl _,_,_,_,_,_,rfl,m|e] ?_ ?_) ?_)
 .intro j2 x i _ l %[c,out,ia,ib,f,bc,rfl,m|e];show J9 (C.of c) m ⋯ (λr o h=>%[c|.inl %[r,o,rfl|h]]) λout ia ib f bc h z=>%[%[c|.inr %[_,_,_,_,_,rfl,h|⋯]],c,_,_,_,_,_,rfl,h|z]
 .intro x i %[c,out,ia,ib,f,bc,rfl,m|e];show%[c|.inr %[_,_,_,_,_,ρ,m|⋯]]
 .rintro x i ⟨c,⟨r,o,rfl,n⟩|⟨out,ia,ib,f,bc,rfl,m,e⟩⟩
  .show aA (p _ r _ c n)
  .show aw (ko ?_);show aw (cQ (cq (Q:=λx d=>SG st d/\((∃r o,x=(fx r,o)/\eK a b r)\/∃out ia ib g f bc,x=(eH,out,ia,ib,g,f,bc)/\ML a b out ia ib/\j+2<=out.size))
    (λj2 x d=>SG st d/\∃out ia ib g f bc,x=(eH,out,ia,ib,g,f,bc)/\ML a b out ia ib/\j+2<=out.size) (Xe _) %[c,_,_,_,_,_,_,rfl,m|e] ?_ ?_) ?_)
   .intro j2 x i _ l %[c,out,ia,ib,g,f,bc,rfl,m|e];unfold loG;rw[<-apply_ite _];show J8 (C.of c) m ⋯ (λd r o sg h=>%[SG.trans c sg|.inl %[r,o,rfl|h]]) λd out ia ib g k k1 sg h z=>%[%[SG.trans c sg|.inr %[_,_,_,_,_,_,rfl,h|z]],SG.trans c sg,_,_,_,_,_,_,rfl,h|z]
   .simp_all
   .rintro x i ⟨c,⟨r,o,rfl,n⟩|⟨out,ia,ib,g,f,bc,rfl,m,e⟩⟩
    .show aA (p _ r _ c n)
    .show aw (du (aA (s _ _ _ _ _ (c.set _) m e)))
def zG{Q:ZY->mu->Prop}(C:LC prog w A SI D a b st)(v:1<=a.size)(l:1<=b.size)(h:∀r c,SG st c->eK a b r->Q r c):(SC prog w A SI) (pY a b) Q st:=by
 rw[Lo];show aw (ko (aw (bq (C.DB l).1 ?_)));let i:=(show MI a b #[] 0 0 from M3 _).takeB 1;rw[jb l]at i
 split
 .show aA (h _ st (SG.refl _) i.done)
 rename_i n
 let n:=aZ n
 split
 .show aA (h _ st (SG.refl _) i.last)
 rename_i p
 let p:=aZ p;show aw (iD ?_);show aw (cQ (cq (Q:=λx c=>SG st c/\∃r,x.1∣r/\eK a b r)
  (λj x c=>SG st c/\∃out ia ib g,x=(eH,out,ia,ib,g)/\ML a b out ia ib/\j+1<=out.size) (Xe _) %[SG.refl _,_,_,_,_,rfl,%[i,⋯|⋯]|Zi _] ?_ ?_) ?_)
 .intro j x d _ y %[sg,out,ia,ib,g,rfl,m|f];show Ka (C.of sg) m f (λc r o e h=>%[SG.trans sg e,r,rfl|h]) λc out ia ib g e h z=>%[SG.trans sg e,_,_,_,_,rfl,h|z]
 .intro x d %[sg,out,ia,ib,g,rfl,m|f];let:=m.na;let q:=m.mi.length_eq;simp only[Z9,Zb,Yh]at q
  lia
 .rintro⟨B,x2⟩ d ⟨sg,r,s,u⟩;subst s;show aA (h r d sg u)
end
abbrev MH(a b out:ZY)(na nb:hH):Prop:=(b.toList.take nb++(a.toList.take na++out.reverse.toList)).Perm (a.toList++b.toList)
def AF(a out:ZY){k n:hH}(h:k<=n):a.toList.take k++(out++(a.extract k n).reverse).reverse.toList=a.toList.take n++out.reverse.toList:=by
 rw[nY.reverse_append,nY.reverse_reverse,Xd,gA,<-Ze,<-dV.take_add,hH.add_sub_cancel' h]
def MH.takeA{a b out:ZY}{na nb k:hH}(h:MH a b out na nb)(c:k<=na):MH a b (out++(a.extract k na).reverse) k nb:=by
 unfold MH;rw[AF _ _ c];show h
def MH.takeB{a b out:ZY}{na nb k:hH}(h:MH a b out na nb)(c:k<=nb):MH a b (out++(b.extract k nb).reverse) na k:=by
 show(NX _ _ _).trans ?_;rw[AF _ _ c];show(NX _ _ _).trans h
def jL{a:ZY}{i:hH}(h:i<a.size)(out:ZY):out++(a.extract i (i+1)).reverse=out.push a[i]:=by
 rw[<-jb h,<-nY.empty_append (xs:=a.extract i (i+1)),jb h];rfl
def MH.first{a b out:ZY}{na nb:hH}(h:MH a b out na nb):eK a b (b.extract 0 nb++a.extract 0 na++out.reverse):=by
 unfold eK;rw[Xd,Xd,gA,gA,Ze];show h
def MH.done{a b out:ZY}{na nb:hH}(h:MH a b out na nb):eK a b (a.extract 0 na++b.extract 0 nb++out.reverse):=by
 unfold eK;rw[Xd,Xd,gA,gA,Ze];show(NX _ _ _).trans h
section
variable{prog:nz}{w:vk}{A:vj}{SI:kj->Prop}{α β:Type}
structure MHS (a b out:ZY) (na nb:hH):Prop where
 mh:MH a b out na nb
 pa:1<=na
 pb:2<=nb
 ma:na<=a.size
 mb:nb<=b.size
abbrev hi3(a b:ZY)(na nb:hH)(out:ZY)(g k k1:hH):L1 mu Sem (p0 (kf ZY×hH×hH×ZY×hH×hH×hH)):=OL a (na-1)>>= λe=>if(na-1==0)=fI then pure (.done (fx (a.extract 0 (na-1) ++b.extract 0 nb++(out.push e).reverse),na-1,nb,out.push e,g,k,k1))else if(decide (k<7)&&decide (k1<7))=fI then pure (.done (eH,na-1,nb,out.push e,g,k,k1))else pure (.yield (eH,na-1,nb,out.push e,g,k,k1))
abbrev hi2(a b:ZY)(na nb:hH)(out:ZY)(g k c:hH):L1 mu Sem (p0 (kf ZY×hH×hH×ZY×hH×hH×hH)):=OL b (nb-1)>>= λe=>if(nb-1==1)=fI then pure (.done (fx (b.extract 0 (nb-1) ++a.extract 0 na++(out.push e).reverse),na,nb-1,out.push e,g,k,c))else OL a (na-1)>>= λd=>ig fI d b 0 (nb-1) (nb-1-1)>>= fun|some k1=>if nb-1-k1>0 then if(k1==1)=fI then pure (.done (fx (b.extract 0 k1++a.extract 0 na++(out.push e++(b.extract k1 (nb-1)).reverse).reverse),na,k1,out.push e++(b.extract k1 (nb-1)).reverse,g,k,nb-1-k1))else if(k1==0)=fI then pure (.done (fx (a.extract 0 na++b.extract 0 k1++(out.push e++(b.extract k1 (nb-1)).reverse).reverse),na,k1,out.push e++(b.extract k1 (nb-1)).reverse,g,k,nb-1-k1))else hi3 a b na k1 (out.push e++(b.extract k1 (nb-1)).reverse) g k (nb-1-k1)else hi3 a b na (nb-1) (out.push e) g k (nb-1-k1)|_=>pure (.done (fx (a.extract 0 na++b.extract 0 (nb-1) ++(out.push e).reverse),na,nb-1,out.push e,g,k,c))
abbrev hi1(a b:ZY)(na nb:hH)(out:ZY)(d c g:hH):L1 mu Sem (p0 (kf ZY×hH×hH×ZY×hH×hH×hH)):=dU g>>= λ_=>OL b (nb-1)>>= λe=>ig fS e a 0 na (na-1)>>= fun|some k=>if na-k>0 then if(k==0)=fI then pure (.done (fx (a.extract 0 k++b.extract 0 nb++(out++(a.extract k na).reverse).reverse),k,nb,out++(a.extract k na).reverse,g,na-k,c))else hi2 a b k nb (out++(a.extract k na).reverse) g (na-k) c else hi2 a b na nb out g (na-k) c|_=>pure (.done (fx (a.extract 0 na++b.extract 0 nb++out.reverse),na,nb,out,g,d,c))
abbrev hiI(a b:ZY)(na nb:hH)(out:ZY)(g c d:hH):L1 mu Sem (p0 (kf ZY×hH×hH×ZY×hH×hH)):=OL b (nb-1)>>= λf=>OL a (na-1)>>= λh=>lt' f h>>= fun|some w=>if w=fI then(OL a (na-1)>>= λe=>if(na-1==0)=fI then pure (.done (fx (a.extract 0 (na-1) ++b.extract 0 nb++(out.push e).reverse),na-1,nb,out.push e,c+1,0))else if c+1>=g then pure (.done (eH,na-1,nb,out.push e,c+1,0))else pure (.yield (eH,na-1,nb,out.push e,c+1,0)))else(OL b (nb-1)>>= λe=>if(nb-1==1)=fI then pure (.done (fx (b.extract 0 (nb-1) ++a.extract 0 na++(out.push e).reverse),na,nb-1,out.push e,0,d+1))else if d+1>=g then pure (.done (eH,na,nb-1,out.push e,0,d+1))else pure (.yield (eH,na,nb-1,out.push e,0,d+1)))|_=>pure (.done (fx (a.extract 0 na++b.extract 0 nb++out.reverse),na,nb,out,c,d))
abbrev hiG(a b:ZY)(x:kf ZY×hH×hH×ZY×hH×hH×hH):L1 mu Sem (p0 (kf ZY×hH×hH×ZY×hH×hH×hH)):=
 if x.2.2.2.2.1>1 then hi1 a b x.2.1 x.2.2.1 x.2.2.2.1 x.2.2.2.2.2.1 x.2.2.2.2.2.2 (x.2.2.2.2.1-1)else hi1 a b x.2.1 x.2.2.1 x.2.2.2.1 x.2.2.2.2.2.1 x.2.2.2.2.2.2 x.2.2.2.2.1
abbrev hiE(x:kf ZY×hH×hH×ZY×hH×hH×hH):L1 mu Sem (p0 (kf ZY×hH×hH×ZY×hH)):=
 match x.1 with
 | some r=>pure (.done (fx r,x.2.1,x.2.2.1,x.2.2.2.1,x.2.2.2.2.1))
 | none=>do
   dU (x.2.2.2.2.1+1)
   pure (.yield (eH,x.2.1,x.2.2.1,x.2.2.2.1,x.2.2.2.2.1+1))
abbrev hiF(a b:ZY)(g:hH)(x:kf ZY×hH×hH×ZY×hH×hH):L1 mu Sem (p0 (kf ZY×hH×hH×ZY×hH)):=
 match x.1 with
 | some r=>pure (.done (fx r,x.2.1,x.2.2.1,x.2.2.2.1,g))
 | none=>do
   Ro "list.sort.gallop"
   let x<-forIn [0:a.size+b.size] (eH,x.2.1,x.2.2.1,x.2.2.2.1,g+1,x.2.2.2.2.1,x.2.2.2.2.2) λ_ x=>hiG a b x
   hiE x
abbrev hiO(a b:ZY)(x:kf ZY×hH×hH×ZY×hH):L1 mu Sem (p0 (kf ZY×hH×hH×ZY×hH)):=do
 let y<-forIn [0:a.size+b.size] (eH,x.2.1,x.2.2.1,x.2.2.2.1,0,0) λ_ y=>hiI a b y.2.1 y.2.2.1 y.2.2.2.1 x.2.2.2.2 y.2.2.2.2.1 y.2.2.2.2.2
 hiF a b x.2.2.2.2 y
abbrev hiR(x:kf ZY×hH×hH×ZY×hH):L1 mu Sem ZY:=
 match x.1 with
 | some r=>pure r
 | none=>Pq "internal:list.sort.merge-bound"
set_option smartUnfolding false in
def Lp(a b:ZY):pZ a b=(do
 Ro "list.sort.merge-hi"
 let e<-OL a (a.size-1)
 if(a.size-1==0)=fI then pure (a.extract 0 (a.size-1) ++b.extract 0 b.size++ #[e].reverse)
 else if(b.size==1)=fI then pure (b.extract 0 b.size++a.extract 0 (a.size-1) ++ #[e].reverse)
 else do
  let s<-get
  let x<-forIn [0:a.size+b.size] (eH,a.size-1,b.size,#[e],gallopOf s) λ_ x=>hiO a b x
  hiR x):=by
 rfl
variable{D:Nk->Prop}{a b out:ZY}{na nb g k bc z:hH}{st:mu}
def Eu{k1:hH}{R:p0 _->mu->Prop}(C:LC prog w A SI D a b st)(m:MHS a b out (na+1) nb)(d:z<=out.size+1)
 (e:∀r o,eK a b r->R (.done (fx r,o)) st) (f:∀na nb out g k k1,MHS a b out na nb->z<=out.size->R (.done (eH,na,nb,out,g,k,k1)) st/\R (.yield (eH,na,nb,out,g,k,k1)) st):(SC prog w A SI) (hi3 a b (na+1) nb out g k k1) R st:=by
 let%[j,p,l,s|n]:=m;show aw (bq (C.DA (i:=na) ⋯).1 ?_);let c:=j.takeA (Yg na);rw[jL ⋯]at c
 split
 .show aA (e _ _ c.done)
 rename_i q
 let q:=aZ q;let h:=f _ _ _ g k k1 %[c,⋯,l,⋯|n] (by rw[Xi];show d)
 split
 .show aA h.1
 .show aA h.2
def Ev{R:p0 (kf ZY×hH×hH×ZY×hH×hH×hH)->mu->Prop}(C:LC prog w A SI D a b st)(m:MHS a b out (na+1) (nb+1))(v:z<=out.size+2)
 (c:∀r o,eK a b r->R (.done (fx r,o)) st) (h:∀na nb out g k k1,MHS a b out na nb->z<=out.size->R (.done (eH,na,nb,out,g,k,k1)) st/\R (.yield (eH,na,nb,out,g,k,k1)) st):(SC prog w A SI) (hi2 a b (na+1) (nb+1) out g k bc) R st:=by
 let%[u,j,y,l|B]:=m;let n:=C.DA (i:=na) ⋯;unfold hi2;rw[P9,P9];show aw (bq (C.DB (i:=nb) ⋯).1 ?_);let d:=u.takeB (Yg nb);rw[jL ⋯]at d
 split
 .show aA (c _ _ d.first)
 rename_i q
 let q:=aZ q;show aw (bq n.1 (aw (fP C.c n.2 (λi hi=>%[_|C.DB ⋯]) ⋯ λk2 e=>?_)));dsimp only;let f:=d.takeB e
 split
 .split
  .show aA (c _ _ f.first)
  rename_i p
  let p:=aZ p
  split
  .show aA (c _ _ f.done)
  rename_i s
  let s:=aZ s;show Eu C %[f,j,⋯,l|⋯] (by simp;lia) c h
 .show Eu C %[d,j,⋯,l|⋯] (by rw[Xi];lia) c h
def Kb{p:hH}{R:p0 (kf ZY×hH×hH×ZY×hH×hH×hH)->mu->Prop}(C:LC prog w A SI D a b st)(m:MHS a b out na nb)(s:z<=out.size+2)
 (d:∀c r o,SG st c->eK a b r->R (.done (fx r,o)) c) (e:∀c na nb out g k k1,SG st c->MHS a b out na nb->z<=out.size->R (.done (eH,na,nb,out,g,k,k1)) c/\R (.yield (eH,na,nb,out,g,k,k1)) c):(SC prog w A SI) (hi1 a b na nb out p bc g) R st:=by
 let%[f,u,h,v|j]:=m;obtain⟨nb,rfl⟩:∃n,nb=n+1:=%[nb-1|⋯]
 let l:=C.DB (i:=nb) ⋯;unfold hi1;rw[P9,iP];show aw (du ?_);let sg:=(SG.refl st).set g;let d:=λr o=>d _ r o sg
 let e:=λna nb out g k k1=>e _ na nb out g k k1 sg
 let C:=C.of sg;show aw (bq l.1 (aw (fP C.c l.2 (λi hi=>%[_|C.DA ⋯]) ⋯ λk y=>?_)));dsimp only
 split
 .let mk:=f.takeA y
  split
  .show aA (d _ _ mk.done)
  rename_i q
  let q:=aZ q;obtain⟨k,rfl⟩:∃n,k=n+1:=%[k-1|⋯]
  show Ev C %[mk,⋯,h,⋯|j] (by simp;lia) d e
 .obtain⟨na,rfl⟩:∃n,na=n+1:=%[na-1|⋯]
  show Ev C %[f,u,h,v|j] s d e
def Kc{c:hH}{R:p0 (kf ZY×hH×hH×ZY×hH×hH)->mu->Prop}(C:LC prog w A SI D a b st)(m:MHS a b out na nb)(f:z<=out.size+1)
 (j:∀r o,eK a b r->R (.done (fx r,o)) st) (l:∀na nb out c bc,MHS a b out na nb->z<=out.size->R (.done (eH,na,nb,out,c,bc)) st/\R (.yield (eH,na,nb,out,c,bc)) st):(SC prog w A SI) (hiI a b na nb out g c bc) R st:=by
 let%[p,s,u,v|y]:=m;obtain⟨na,rfl⟩:∃n,na=n+1:=%[na-1|⋯]
 obtain⟨nb,rfl⟩:∃n,nb=n+1:=%[nb-1|⋯]
 let d:=C.DA (i:=na) ⋯;let e:=C.DB (i:=nb) ⋯;unfold hiI;rw[P9,P9];show aw (bq e.1 (aw (bq d.1 (aw (xa C.c e.2 d.2 λ_=>?_)))));dsimp only
 split
 .show aw (bq d.1 ?_);let m2:=p.takeA (Yg na);rw[jL ⋯]at m2
  split
  .show aA (j _ _ m2.done)
  rename_i q
  let q:=aZ q;let h:=l _ _ _ (c+1) 0 %[m2,⋯,u,⋯|y] (by rw[Xi];show f)
  split
  .show aA h.1
  .show aA h.2
 .show aw (bq e.1 ?_);let m2:=p.takeB (Yg nb);rw[jL ⋯]at m2
  split
  .show aA (j _ _ m2.first)
  rename_i q
  let q:=aZ q;let h:=l _ _ _ 0 (bc+1) %[m2,s,⋯,v|⋯] (by rw[Xi];show f)
  split
  .show aA h.1
  .show aA h.2
def Kd{j:hH}{q:kf ZY}{R:p0 (kf ZY×hH×hH×ZY×hH)->mu->Prop}(C:LC prog w A SI D a b st)(m:MHS a b out na nb)(e:j+1<=out.size)
 (p:∀d r o,SG st d->eK a b r->R (.done (fx r,o)) d) (s:∀d na nb out g,SG st d->MHS a b out na nb->j+2<=out.size->R (.yield (eH,na,nb,out,g)) d):(SC prog w A SI) (hiO a b (q,na,nb,out,g)) R st:=by
 let u:=m.pa;let v:=m.ma;show aw (cQ (cq (Q:=λx d=>SG st d/\((∃r o,x=(fx r,o)/\eK a b r)\/∃na nb out f bc,x=(eH,na,nb,out,f,bc)/\MHS a b out na nb/\j+2<=out.size))
  (λj2 x d=>SG st d/\∃na nb out f bc,x=(eH,na,nb,out,f,bc)/\MHS a b out na nb/\j+1+j2<=out.size) (Xe _) %[SG.refl _,_,_,_,_,_,rfl,m|e] ?_ ?_) ?_)
 .intro j2 x i _ l %[c,na,nb,out,f,bc,rfl,m|e];show Kc (C.of c) m ⋯ (λr o h=>%[c|.inl %[r,o,rfl|h]]) λna nb out f bc h z=>%[%[c|.inr %[_,_,_,_,_,rfl,h|⋯]],c,_,_,_,_,_,rfl,h|z]
 .intro x i %[c,na,nb,out,f,bc,rfl,m|e];show%[c|.inr %[_,_,_,_,_,ρ,m|⋯]]
 .rintro x i ⟨c,⟨r,o,rfl,n⟩|⟨na,nb,out,f,bc,rfl,m,e⟩⟩
  .show aA (p _ r _ c n)
  .show aw (ko ?_);show aw (cQ (cq (Q:=λx d=>SG st d/\((∃r o,x=(fx r,o)/\eK a b r)\/∃na nb out g f bc,x=(eH,na,nb,out,g,f,bc)/\MHS a b out na nb/\j+2<=out.size))
    (λj2 x d=>SG st d/\∃na nb out g f bc,x=(eH,na,nb,out,g,f,bc)/\MHS a b out na nb/\j+2<=out.size) (Xe _) %[c,_,_,_,_,_,_,rfl,m|e] ?_ ?_) ?_)
   .intro j2 x i _ l %[c,na,nb,out,g,f,bc,rfl,m|e];unfold hiG;rw[<-apply_ite _];show Kb (C.of c) m ⋯ (λd r o sg h=>%[SG.trans c sg|.inl %[r,o,rfl|h]]) λd na nb out g k k1 sg h z=>%[%[SG.trans c sg|.inr %[_,_,_,_,_,_,rfl,h|z]],SG.trans c sg,_,_,_,_,_,_,rfl,h|z]
   .simp_all
   .rintro x i ⟨c,⟨r,o,rfl,n⟩|⟨na,nb,out,g,f,bc,rfl,m,e⟩⟩
    .show aA (p _ r _ c n)
    .show aw (du (aA (s _ _ _ _ _ (c.set _) m e)))
def zH{Q:ZY->mu->Prop}(C:LC prog w A SI D a b st)(E:1<=a.size)(G:1<=b.size)(h:∀r c,SG st c->eK a b r->Q r c):(SC prog w A SI) (pZ a b) Q st:=by
 rw[Lp];obtain⟨f,p⟩:∃f,a.size=f+1:=%[a.size-1|⋯]
 rw[show a.size-1=f by lia];show aw (ko (aw (bq (C.DA (i:=f) ⋯).1 ?_)));let n:=(show MH a b #[] (f+1) b.size by
  unfold MH;rw[<-p,<-Zb,<-Zb,Xc,Xc];simpa using Qu).takeA (Yg f)
 rw[jL ⋯]at n
 split
 .show aA (h _ st (SG.refl _) n.done)
 rename_i s
 let s:=aZ s
 split
 .show aA (h _ st (SG.refl _) n.first)
 rename_i u
 let u:=aZ u;show aw (iD ?_);show aw (cQ (cq (Q:=λx c=>SG st c/\∃r,x.1∣r/\eK a b r)
  (λj x c=>SG st c/\∃na nb out g,x=(eH,na,nb,out,g)/\MHS a b out na nb/\j+1<=out.size) (Xe _) %[SG.refl _,_,_,_,_,rfl,%[n,⋯,⋯,⋯|⋯]|Zi _] ?_ ?_) ?_)
 .intro j x d _ H %[sg,na,nb,out,g,rfl,m|l];show Kd (C.of sg) m l (λc r o e h=>%[SG.trans sg e,r,rfl|h]) λc na nb out g e h z=>%[SG.trans sg e,_,_,_,_,rfl,h|z]
 .intro x d %[sg,na,nb,out,g,rfl,m|l];let%[v,I,J,L|M]:=m;let q:=v.length_eq;simp only[Z9,Yl,Zb,nY.size_reverse]at q
  lia
 .rintro⟨N,x2⟩ d ⟨sg,r,y,B⟩;subst y;show aA (h r d sg B)
end
def xc(i:hH):TH i=(do
 let s<-get
 let(fx (b,na,c),fx (d,nb,_)):=((ow s)[i]?,(ow s)[i+1]?)|Pq "internal:list.sort.pending"
 set (QX s (((ow s).setIfInBounds i (b,na+nb,c)).eraseIdxIfInBounds (i+1)))
 let fx k<-ig fS (<-OL (q7 s) d) (q7 s) b na 0|return fS
 let(b,na):=(b+k,na-k)
 if na==0 then return fI
 let fx nb<-ig fI (<-OL (q7 s) (b+na-1)) (q7 s) d nb (nb-1)|return fS
 if nb==0 then return fI
 let x:=(q7 s).extract b d
 let y:=(q7 s).extract d (d+nb)
 let merged<-if na<=nb then pY x y else pZ x y
 UM λs=>UH s (merged.toList.zipIdx.foldl (λa (p,j)=>a.setIfInBounds (b+j) p) (q7 s))
 return (NF (<-get)).isNone):=rfl
def xf:∀m c o (a:ZY),o+c+ ~~~m<=a.size->
 ((m.zipIdx c).foldl (λa p=>a.setIfInBounds (o+p.2) p.1) a).toList=a.toList.take (o+c) ++m++a.toList.drop (o+c+ ~~~m)
 |[],c,o,a,_=>by simp
 | x::m,c,o,a,h=>by
   rw[RT,Y8];rw[Zr]at h;rw[xf m _ o _ (by rw[PL];lia),Sy];let b:o+c< ~~~a.toList:=by rw[Zb];lia
   rw[Zr,dV.take_set,dV.drop_set];rw[show o+(c+1)=o+c+1 by lia,show o+c+1+ ~~~m=o+c+(~~~m+1) by lia];let e:(a.toList.take (o+c+1)).set (o+c) x=a.toList.take (o+c) ++[x]:=by
    rw[Ov b];rw[T4 _ _ (by rw[Yl];lia)];rw[Yl,Qi ⋯,Qw];rfl
   rw[e];simp
section
variable{prog:nz}{w:vk}{A:vj}{SI:kj->Prop}{α β:Type}
def zI{D:Nk->Prop}{i p J:hH}{b X Y L2:dV Nk}{Q:pp->mu->Prop}{st:mu}(c:Cmp prog w A SI (kindOf st) D)(e:(q7 st).toList=b++X++Y++L2)(L:X≠[])(M:Y≠[])
 (d:∀x∈(q7 st).toList,D x) (N:(ow st)[i]?∣(~~~b,~~~X,p)) (q:(ow st)[i+1]?∣(~~~b+ ~~~X,~~~Y,J)) (z:NF st=eH)
 (h:∀Z g,Z.Perm (X++Y)->(q7 g).toList=b++Z++L2->kindOf g=kindOf st->NF g=eH->ow g=((ow st).setIfInBounds i (~~~b,~~~X+ ~~~Y,p)).eraseIdxIfInBounds (i+1)->Q fI g):(SC prog w A SI) (TH i) Q st:=by
 let O:0< ~~~X:=Nc.mpr L;let lY:0< ~~~Y:=Nc.mpr M;let sz:(q7 st).size= ~~~b+ ~~~X+ ~~~Y+ ~~~L2:=by
  rw[<-Zb,e];simp only[Z9]
 let l:∀i,i<(q7 st).size->∃x,(q7 st)[i]?∣x/\D x:=λi hi=>%[(q7 st)[i],by simp|d _ ∅]
 let sub:∀(u v i:hH) (hi:i<((q7 st).extract u v).size),((q7 st).extract u v)[i]?∣((q7 st).extract u v)[i]/\D ((q7 st).extract u v)[i]:=λu v i hi=>%[Ds hi|by rw[nY.getElem_extract];show d _ ∅]
 rw[xc];show aw (iD ?_);rw[N,q];dsimp only;let%[y,T|U]:=l (~~~b+ ~~~X) ⋯;show aw (J7 (aw (bq T (aw (fP c U (λi hi=>l _ ⋯) O λk hk=>?_)))));dsimp only
 split
 .show aA (h (X++Y) _ (M3 _) (by change(q7 st).toList=_;rw[e];simp) rfl z rfl)
 rename_i C
 let C:=aZ C;let%[x,hx|dx]:=l (~~~b+k+(~~~X-k) -1) ⋯;show aw (bq hx (aw (fP c dx (λi hi=>l _ ⋯) ⋯ λk2 B=>?_)));dsimp only
 split
 .show aA (h (X++Y) _ (M3 _) (by change(q7 st).toList=_;rw[e];simp) rfl z rfl)
 rename_i E
 let E:=aZ E;let ex:((q7 st).extract (~~~b+k) (~~~b+ ~~~X)).toList=X.drop k:=by
  rw[gA,e,Ze,Ze,RV,Ow ⋯,TF,NH,R7 ⋯,Xb (by rw[Yh];lia),Zn (by rw[Yh];lia)]
 let G:((q7 st).extract (~~~b+ ~~~X) (~~~b+ ~~~X+k2)).toList=Y.take k2:=by
  rw[pc,e,Ze,RV,Ow (by rw[Z9];lia),TF,Z9,Qw,SQ,Xb ⋯]
 let sx:=vb Mz ex;let sy:=vb Mz G;rw[Zb,Yh]at sx;rw[Zb,Yl]at sy;let H:∀(r:ZY) (f:mu),SG (QX st (((ow st).setIfInBounds i (~~~b,~~~X+ ~~~Y,p)).eraseIdxIfInBounds (i+1))) f->eK ((q7 st).extract (~~~b+k) (~~~b+ ~~~X)) ((q7 st).extract (~~~b+ ~~~X) (~~~b+ ~~~X+k2)) r->
  (SC prog w A SI) (do UM (λs=>UH s (r.toList.zipIdx.foldl (λa (p,j)=>a.setIfInBounds (~~~b+k+j) p) (q7 s)));let x<-get;pure (NF x).isNone) Q f:=λr f sg o=>by
  unfold eK at o;rw[ex,G]at o;show aw (du (aw (iD (aA ?_))));let m:NF f=eH:=by rw[sg.2.2.2];show z
  change Q (NF f).isNone _;rw[m];let I: ~~~r.toList=(~~~X-k) +k2:=by
   rw[o.length_eq,Z9,Yh,Yl,Qi B]
  show h (X.take k++r.toList++Y.drop k2) _ ?_ ?_ sg.1 m sg.2.2.1
  .show(Sr _ (Om _ o)).trans ?_;rw[<-Ze,Xa,Ze,Xa]
  .change(UH f _|>q7).toList=_;let n:q7 f=q7 st:=sg.2.1;change((r.toList.zipIdx).foldl (λ(a:ZY) (p:Nk×hH)=>a.setIfInBounds (~~~b+k+p.2) p.1) (q7 f)).toList=_;rw[xf _ 0 _ _ (by rw[I,n,sz];lia),n,e,I];let t1:(b++X++Y++L2).take (~~~b+k+0)=b++X.take k:=by
    rw[Rv,Ze,Ze,dV.take_append,Zn ⋯,NH,Xb ⋯]
   let t2:(b++X++Y++L2).drop (~~~b+k+0+(~~~X-k+k2))=Y.drop k2++L2:=by
    rw[show ~~~b+k+0+(~~~X-k+k2)= ~~~(b++X)+k2 by rw[Z9];lia,Ze,RV,Ow ⋯,TF,NH,R7 ⋯]
   rw[t1,t2];simp
 split
 .show aw (zG %[c,sub _ _ _|sub _ _ _] ⋯ ⋯ H)
 .show aw (zH %[c,sub _ _ _|sub _ _ _] ⋯ ⋯ H)
end
structure CR (st0 st:mu) (lo:hH):Prop where
 kind:kindOf st=kindOf st0
 pend:ow st=ow st0
 fail:NF st=NF st0
 perm:(q7 st).Perm (q7 st0)
 same:∀i,i<lo->(q7 st)[i]? =(q7 st0)[i]?
def CR.refl(st:mu)(lo:hH):CR st st lo:=%[rfl,rfl,rfl,nY.Perm.refl _|λ_ _=>rfl]
def CR.size{a st:mu}{lo:hH}(h:CR a st lo):(q7 st).size=(q7 a).size:=h.perm.size_eq
def CR.rev{a st:mu}{lo i j:hH}(h:CR a st lo)(hi:lo<=i)(b:j<=(q7 st).size):CR a (UH st (mirror (q7 st) i j ((j-i)/2))) lo:=
 %[h.kind,h.pend,h.fail,(mirror_perm _ _ _ _).trans h.perm|λk c=>by
  rw[getElem?_mirror_all b,hX ⋯];show h.same k c]
section
variable{prog:nz}{w:vk}{A:vj}{SI:kj->Prop}{α β:Type}
def p7{i j lo:hH}{a st:mu}(c:Cmp prog w A SI (kindOf a) D)(d:∀x∈(q7 a).toList,D x)(r:CR a st lo)(hi:i<(q7 a).size)(f:j<(q7 a).size)
 (h:∀b,Q (fx b) st):(SC prog w A SI) (Wk i j) Q st:=by
 let e:=λx g=>d x ((Sz.mp r.perm).mem_iff.mp g)
 show GX (r.kind▸c) (Ds (r.size▸hi)) (Ds (r.size▸f)) (e _ ∅) (e _ ∅) h
def vD{st:mu}(h:Q () (UH st (mirror (q7 st) i j ((j-i)/2)))):(SC prog w A SI) (Qp i j) Q st:=by
 show du h
abbrev cuL(lo:hH)(x:kf (kf hH)×hH):L1 mu Sem (p0 (kf (kf hH)×hH)):=do
 match<-Wk (lo+x.2) (lo+x.2-1)with
 | some w=>if w=fI then pure (.done (eH,x.2))else pure (.yield (eH,x.2+1))
 | _=>pure (.done (fx eH,x.2))
abbrev cu3(lo nrem n:hH):L1 mu Sem (kf hH):=do
 Qp lo (lo+n)
 let x<-forIn [n:nrem] (eH,n) λ_ x=>cuL lo x
 match x.1 with
 | some r=>pure r
 | none=>pure (fx x.2)
abbrev cuM(lo:hH)(x:kf (kf hH)×hH×hH):L1 mu Sem (p0 (kf (kf hH)×hH×hH)):=do
 match<-Wk (lo+x.2.1) (lo+x.2.1-1)with
 | some w=>
   if w=fI then(if x.2.2>0 then(do
    Qp (lo+x.2.1-(x.2.2+1)) (lo+x.2.1)
    pure (.yield (eH,x.2.1+1,0)))else pure (.yield (eH,x.2.1+1,0)))
   else(do
    match<-Wk (lo+x.2.1-1) (lo+x.2.1)with
    | some w=>if w=fI then pure (.done (eH,x.2.1,x.2.2))else pure (.yield (eH,x.2.1+1,x.2.2+1))
    | _=>pure (.done (fx eH,x.2.1,x.2.2)))
 | _=>pure (.done (fx eH,x.2.1,x.2.2))
abbrev cu2(lo nrem n:hH):L1 mu Sem (kf hH):=do
 Ro "list.sort.descending-run"
 let x<-forIn [n+1:nrem] (eH,n+1,0) λ_ x=>cuM lo x
 match x.1 with
 | some r=>pure r
 | none=>
   if x.2.2>0 then(do
    Qp (lo+x.2.1-(x.2.2+1)) (lo+x.2.1)
    cu3 lo nrem x.2.1)else cu3 lo nrem x.2.1
set_option smartUnfolding false in
def Lq(lo nrem:hH):WO lo nrem=(do
 let x<-forIn [1:nrem] (eH,1) λ_ x=>cuL lo x
 match x.1 with
 | some r=>pure r
 | none=>
   if(x.2==nrem)=fI then pure (fx x.2)
   else if x.2>1 then(do
    match<-Wk lo (lo+x.2-1)with
    | some w=>if w=fI then pure (fx x.2)else(do
      Qp lo (lo+x.2)
      cu2 lo nrem x.2)
    | _=>pure eH)else cu2 lo nrem x.2):=by
 rw[countRun'_eq];rfl
variable{D:Nk->Prop}{lo nrem n j:hH}{Q:kf hH->mu->Prop}{st st2:mu}
def Ew{q:kf _}{R:p0 _->mu->Prop}(c:Cmp prog w A SI (kindOf st) D)(d:∀x∈(q7 st).toList,D x)(r:CR st st2 lo)(a:lo+nrem<=(q7 st).size)(e:j<nrem)
 (f:R (.done (eH,j)) st2) (g:R (.yield (eH,j+1)) st2):(SC prog w A SI) (cuL lo (q,j)) R st2:=
 aw (p7 c d r ⋯ ⋯ λb=>by cases b<;> show aA (by assumption))
def Ex(c:Cmp prog w A SI (kindOf st) D)(d:∀x∈(q7 st).toList,D x)(l:lo+nrem<=(q7 st).size)(h:∀n a,CR st a lo->1<=n->n<=nrem->Q (fx n) a)
 (r:CR st st2 lo) (n1:1<=n) (g:n<=nrem):(SC prog w A SI) (cu3 lo nrem n) Q st2:=by
 show aw (vD ?_);let o:=r.rev (j:=lo+n) (Zi _) (by rw[r.size];lia);show aw (cQ (cq (Q:=λx a=>CR st a lo/\∃n,x=(eH,n)/\1<=n/\n<=nrem)
  (λj x a=>CR st a lo/\x=(eH,j)) g %[o|rfl] ?_ ?_) ?_)
 .intro j x b f i %[e|rfl];show Ew c d e l i %[e,j,rfl,md n1 f|Yf i] %[e|rfl]
 .intro x b %[e|rfl];show%[e,nrem,ρ,md n1 g|Zi _]
 .intro x b %[e,m,rfl,p|m2];show aA (h m b e p m2)
def Ke{q:kf (kf hH)}{k:hH}{R:p0 (kf (kf hH)×hH×hH)->mu->Prop}(c:Cmp prog w A SI (kindOf st) D)(d:∀x∈(q7 st).toList,D x)(r:CR st st2 lo)(g:lo+nrem<=(q7 st).size)(e:k+1<=j)(h:j<nrem)
 (f:R (.done (eH,j,k)) st2) (a:∀k st2,CR st st2 lo->k<=j->R (.yield (eH,j+1,k)) st2):(SC prog w A SI) (cuM lo (q,j,k)) R st2:=by
 show aw (p7 c d r ⋯ ⋯ λb=>?_);cases b
 .show aw (p7 c d r ⋯ ⋯ λb=>?_);cases b
  .show aA (a (k+1) _ r e)
  .show aA f
 .dsimp only;rw[jg rfl]
  split
  .show aw (vD (aA (a 0 _ (r.rev ⋯ (by rw[r.size];lia)) (Xe _))))
  .show aA (a 0 _ r (Xe _))
def Ey(c:Cmp prog w A SI (kindOf st) D)(d:∀x∈(q7 st).toList,D x)(g:lo+nrem<=(q7 st).size)(h:∀n a,CR st a lo->1<=n->n<=nrem->Q (fx n) a)
 (r:CR st st2 lo) (s:n<nrem):(SC prog w A SI) (cu2 lo nrem n) Q st2:=by
 show aw (ko ?_);show aw (cQ (cq (Q:=λx a=>CR st a lo/\∃m q,x=(eH,m,q)/\q+1<=m/\m<=nrem)
  (λj x a=>CR st a lo/\∃q,x=(eH,j,q)/\q+1<=j) s %[r,0,rfl|VP _ _] ?_ ?_) ?_)
 .intro j x f u l %[e,q,rfl|b];show Ke c d e g b l %[e,j,q,rfl,b|Yf l] λk st2 r v=>%[r,k,rfl|X8 v]
 .intro x f %[e,q,rfl|b];show%[e,nrem,q,ρ,b|Zi _]
 .intro x f %[e,m,q,rfl,i|o];let p:=md (VP _ _) i;dsimp only
  split
  .show aw (vD (Ex c d g h (e.rev ⋯ (by rw[e.size];lia)) p o))
  .show Ex c d g h e p o
def xg{lo nrem:hH}{st:mu}(c:Cmp prog w A SI (kindOf st) D)(d:∀x∈(q7 st).toList,D x)(i:1<=nrem)(f:lo+nrem<=(q7 st).size)
 (h:∀n a,CR st a lo->1<=n->n<=nrem->Q (fx n) a):(SC prog w A SI) (WO lo nrem) Q st:=by
 rw[Lq];show aw (cQ (cq (Q:=λx a=>a=st/\∃n,x=(eH,n)/\1<=n/\n<=nrem)
  (λj x a=>a=st/\x=(eH,j)) i %[rfl|rfl] ?_ ?_) ?_)
 .intro j x a g l %[rfl|rfl];show Ew c d (CR.refl _ lo) f l %[rfl,j,rfl,g|Yf l] %[rfl|rfl]
 .intro x a %[rfl|rfl];show%[ρ,nrem,ρ,i|Zi _]
 .intro x e %[q,n,rfl,n1|m];subst q;dsimp only;by_cases o:n=nrem
  .rw[jg (by simp[o])];show aA (h n e (CR.refl _ _) n1 m)
  rw[hX (by simp[o])];let p:n<nrem:=by lia
  split
  .show aw (p7 c d (CR.refl _ lo) ⋯ ⋯ λb=>?_);cases b
   .show aw (vD (Ey c d f h ((CR.refl e lo).rev (Zi _) ⋯) p))
   .show aA (h n e (CR.refl _ _) n1 m)
  .show Ey c d f h (CR.refl e lo) p
end
section
variable{prog:nz}{w:vk}{A:vj}{SI:kj->Prop}{α β:Type}
def CR.move{a st:mu}{lo k l:hH}(h:CR a st lo)(b:lo+k<(q7 st).size)(c:l<=k):CR a (UH st (bubble (q7 st) (lo+k) (lo+k-(lo+l)))) lo:=
 %[h.kind,h.pend,h.fail,(bubble_perm _ _ _).trans h.perm|λi hi=>by
  rw[getElem?_bubble b _ ⋯,hX ⋯,hX ⋯];show h.same i hi]
def B9{lo n ok:hH}{e st:mu}(c:Cmp prog w A SI (kindOf e) D)(d:∀x∈(q7 e).toList,D x)(r:CR e st lo)(o:1<=ok)(u:ok<=n)(y:lo+n<=(q7 e).size)
 (h:∀a,CR e a lo->Q fI a):(SC prog w A SI) (binarySort' lo n ok) Q st:=by
 rw[binarySort'_eq,hH.max_eq_left o];show aw (cQ (cq (Q:=λx a=>x=(eH,())/\CR e a lo) (λk x a=>x=(eH,())/\CR e a lo) u %[rfl|r] ?_ λ_ _ h=>h) ?_)
 .intro k x f v z %[rfl|m];dsimp only;show aw (cQ (cq (Q:=λx a=>a=f/\∃l q,x=(eH,l,q)/\l<=q/\q<=k)
   (λj x a=>a=f/\∃l q,x=(eH,l,q)/\l<=q/\q<=k) (Xe _) %[rfl,0,k,rfl,Xe _|Zi _] ?_ λ_ _ h=>h) ?_)
  .intro j x p _ B %[rfl,l,q,rfl,i|g];dsimp only
   split
   .show aA %[rfl,l,q,rfl,i|g]
   .let o:l<=(l+q)/2:=by lia
    let s:(l+q)/2<q:=by lia
    generalize (l+q)/2=C at o s ⊢
    show aw (p7 c d m ⋯ ⋯ λb=>?_);cases b
    .show aA %[rfl,_,q,rfl,s|g]
    .show aA %[rfl,l,_,rfl,o|⋯]
  .intro x p %[rfl,l,q,rfl,i|g];dsimp only;rw[moveDown'_eq];show aw (du (aA %[rfl|m.move (by rw[m.size];lia) (md i g)]))
 .intro x f %[rfl|m];show aA (h f m)
end
abbrev eD:dV (dV Nk×hH)->hH->dV (hH×hH×hH)
 |[],_=>[]
 |(r,p)::t,o=>(o,~~~r,p)::eD t (o+ ~~~r)
abbrev bM(a:dV (dV Nk×hH)):dV Nk:=(a\1).flatten
def cS(a b:dV _):bM (a++b)=bM a++bM b:=by simp[bM]
def bp(a:dV Nk×hH)(b:dV _):bM (a::b)=a.1++bM b:=by simp[bM]
def d7:∀a b o,eD (a++b) o=eD a o++eD b (o+ ~~~(bM a))
 |[],b,o=>by simp[eD,bM]
 |(r,p)::t,b,o=>by
  rw[S7,eD,eD,d7 t b,bp,Z9,S7,Wu]
def fQ:∀a o,~~~(eD a o)= ~~~a
 |[],_=>rfl
 |(r,p)::t,o=>by rw[eD,Zr,Zr,fQ t]
structure RI (st0 st:mu) (rp:dV (dV Nk×hH)) (rest:dV Nk):Prop where
 kind:kindOf st=kindOf st0
 fail:NF st=eH
 perm:(q7 st).toList.Perm (q7 st0).toList
 arr:(q7 st).toList=bM rp++rest
 pend:(ow st).toList=eD rp 0
 runs:∀r∈rp,r.1≠[]
def RI.size{a st:mu}{b:dV _}{rest:dV Nk}(h:RI a st b rest):(q7 st).size=(q7 a).size:=by
 rw[<-Zb,<-Zb,h.perm.length_eq]
def RI.psize{a st:mu}{b:dV _}{rest:dV Nk}(h:RI a st b rest):(ow st).size= ~~~b:=by
 rw[<-Zb,h.pend,fQ]
section
variable{prog:nz}{w:vk}{A:vj}{SI:kj->Prop}{α β:Type}
def lQ{D:Nk->Prop}{f st:mu}{a b:dV _}{X Y:dV Nk}{p m i:hH}{rest:dV Nk}{Q:pp->mu->Prop}(c:Cmp prog w A SI (kindOf f) D)(d:∀x∈(q7 f).toList,D x)
 (h:RI f st (a++(X,p)::(Y,m)::b) rest) (hi:i= ~~~a) (k:∀Z g,RI f g (a++(Z,p)::b) rest-> ~~~Z= ~~~X+ ~~~Y->Q fI g):(SC prog w A SI) (TH i) Q st:=by
 subst hi;let e:=h.arr;rw[cS,bp,bp]at e;let u:(q7 st).toList=bM a++X++Y++(bM b++rest):=by rw[e];simp
 let B:=λx n=>d x (h.perm.mem_iff.mp n)
 let l:=h.pend;rw[d7,eD,eD,Sc]at l;let pl:=fQ a 0;let C:=by
  let:(ow st).toList[~~~a]?∣(~~~(bM a),~~~X,p):=by
   rw[l,Ya ⋯,pl,Qw];rfl
  simpa using this
 let E:=by
  let:(ow st).toList[~~~a+1]?∣(~~~(bM a)+ ~~~X,~~~Y,m):=by
   rw[l,Ya ⋯,pl,NH];rfl
  simpa using this
 let v:=h.runs (X,p) ∅;show zI (h.kind▸c) u v (h.runs (Y,m) ∅) B C E h.fail λZ g y z G H o=>?_
 let s: ~~~Z= ~~~X+ ~~~Y:=by rw[y.length_eq,Z9]
 show k Z g %[G.trans h.kind,H,?_,?_,?_|λr j=>?_] s
 .show PU ?_ h.perm;rw[z,u];rw[show bM a++X++Y++(bM b++rest)=bM a++(X++Y) ++(bM b++rest) by simp];show Sr _ (Om _ y)
 .rw[z,cS,bp];simp
 .rw[o,nY.toList_eraseIdxIfInBounds,Sy,l,d7,eD,Sc];rw[T4 _ _ ⋯,pl,Qw,dV.set_cons_zero];rw[dV.eraseIdx_append_of_length_le ⋯,pl,NH,dV.eraseIdx_cons_succ,dV.eraseIdx_cons_zero];rw[s,Wu]
 .rcases Xm j with j|j
  .show h.runs r (Yu _ j)
  .rcases Yw.mp j with rfl|j
   .intro q;let n:=Nc.mpr v;dsimp only at q n;rw[q,TK]at s
    lia
   .show h.runs r (by simp[j])
def CR.toRI{d b a:mu}{f:dV _}{rest:dV Nk}{lo n:hH}(h:RI d b f rest)(r:CR b a lo)(j: ~~~(bM f)=lo)(o:lo+n<=(q7 b).size):
 ∃R c,RI d a f (R++c)/\ ~~~R=n:=by
 let l:=r.size;show%[((q7 a).toList.drop lo).take n,(q7 a).toList.drop (lo+n),%[r.kind.trans h.kind,r.fail.trans h.fail,(Sz.mp r.perm).trans h.perm,?_,r.pend▸h.pend|h.runs]|?_]
 .let e:(q7 a).toList.take lo=bM f:=by
   let m:(q7 a).toList.take lo=(q7 b).toList.take lo:=by
    apply PD;intro i;rw[Q9,Q9]
    split
    .rename_i hi
     let:=r.same i hi;simpa using this
    .rfl
   rw[m,h.arr,Xb ⋯,Zn ⋯]
  rw[<-e];let g:=Xa n ((q7 a).toList.drop lo);rw[WN]at g;rw[g,(Xa lo (q7 a).toList)]
 grind
def nZ{α:Type}(f:α->α):∀l x,(l++[x]).modify l.length f=l++[f x]
 |[],x=>rfl
 | y::l,x=>by
   rw[S7,Zr,dV.modify_succ_cons,nZ f l x,S7]
def lR{α:Type}(l:dV α):l=[]\/∃a x,l=a++[x]:=by
 by_cases h:l=[]
 .show .inl h
 .show .inr %[l.dropLast,l.getLast h|(dV.dropLast_concat_getLast h).symm]
def Ca{α:Type}(l:dV α)(h:1< ~~~l):∃a x y,l=a++x::y::[]:=by
 rcases lR l with rfl|⟨a,y,rfl⟩
 .simp at h
 .rcases lR a with rfl|⟨b,x,rfl⟩
  .simp at h
  .show%[b,x,y|by simp]
def RI.pushed{a st:mu}{c:dV _}{R rest:dV Nk}{lo m:hH}(h:RI a st c (R++rest))(d: ~~~(bM c)=lo)(e: ~~~R=m)(f:1<=m):RI a (QX st ((ow st).push (lo,m,0))) (c++[(R,0)]) rest:=by
 show%[h.kind,h.fail,h.perm,?_,?_|λr b=>?_]
 .rw[h.arr,cS,bp];simp[bM]
 .rw[Rh,h.pend,d7,eD,eD,Sc,d,e]
 .rcases Xm b with b|b
  .show h.runs r b
  .rw[Xn b]
   grind
def RI.powered{a st:mu}{b:dV _}{rest:dV Nk}{X:dV Nk}{p:hH}(d:hH)(h:RI a st (b++[(X,p)]) rest):RI a (QX st ((ow st).modify ((ow st).size-1) λx=>(x.fst,x.2.fst,d))) (b++[(X,d)]) rest:=by
 show%[h.kind,h.fail,h.perm,?_,?_|λr c=>?_]
 .rw[h.arr,cS,cS,bp,bp]
 .rw[nY.toList_modify,h.psize,h.pend,d7,d7];rw[show(b++[(X,p)]).length-1= ~~~(eD b 0) by rw[fQ];simp];change dV.modify (eD b 0++[_]) _ _=_;rw[nZ];rfl
 .rcases Xm c with c|c
  .show h.runs r (Yu _ c)
  .rw[Xn c];show h.runs (X,p) ∅
abbrev srP(lo n:hH):L1 mu Sem (p0 (kf So×hH)):=do
 UM λs=>QX s ((ow s).push (lo,n,0))
 pure (.yield (eH,lo+n))
abbrev sr1(size lo n:hH):L1 mu Sem (p0 (kf So×hH)):=do
 let s<-get
 match(ow s).back? with
 | fx (a,n1,_)=>do
   let x<-forIn [0:size] (eH,()) λ_ _=>(do
    let s<-get
    match if(ow s).size>1 then(ow s)[(ow s).size-2]? else eH with
    | fx (_,_,o)=>
      if o<=power' size (2*a+n1) (2*a+n1+n1+n) size then pure (.done (eH,()))
      else(do
       let b<-TH ((ow s).size-2)
       if(!b)=fI then pure (.done (fx (),()))else pure (.yield (eH,())))
    | _=>pure (.done (eH,())))
   match x.1 with
   | some r=>pure (.done (fx r,lo))
   | none=>do
     UM λs=>QX s ((ow s).modify ((ow s).size-1) λx=>(x.1,x.2.1,power' size (2*a+n1) (2*a+n1+n1+n) size))
     srP lo n
 | _=>srP lo n
abbrev srO(size:hH)(x:kf So×hH):L1 mu Sem (p0 (kf So×hH)):=
 if x.2>=size then pure (.done (eH,x.2))
 else do
  match<-WO x.2 (size-x.2)with
  | some n=>
    if n<UN size size 0 then(do
     Ro "list.sort.binary-insertion"
     let b<-binarySort' x.2 (min (size-x.2) (UN size size 0)) n
     if(!b)=fI then pure (.done (fx (),x.2))else sr1 size x.2 (min (size-x.2) (UN size size 0)))
    else sr1 size x.2 n
  | _=>pure (.done (fx (),x.2))
abbrev srT(size:hH)(x:kf So×hH):L1 mu Sem So:=
 match x.1 with
 | some r=>pure r
 | none=>do
   let x<-forIn [0:size] (eH,()) λ_ _=>(do
    let s<-get
    if(ow s).size<=1 then pure (.done (eH,()))
    else(do
     let b<-TH (if Ws (λx=>decide (x<(ow s)[(ow s).size-2+1]?.elim 0 λx=>x.2.1)) (if(ow s).size-2>0 then kf.map (λx=>x.2.1) (ow s)[(ow s).size-2-1]? else eH)=fI then(ow s).size-2-1 else(ow s).size-2)
     if(!b)=fI then pure (.done (fx (),()))else pure (.yield (eH,()))))
   match x.1 with
   | some r=>pure r
   | none=>pure ()
set_option smartUnfolding false in
def Lr:sortRuns'=(do
 let s<-get
 let x<-forIn [0:(q7 s).size] (eH,0) λ_ x=>srO (q7 s).size x
 srT (q7 s).size x):=by
 rw[sortRuns'_eq];rfl
def Ez{D:Nk->Prop}{st m:mu}{v:dV (dV Nk×hH)}{R e:dV Nk}{lo n:hH}{T:p0 (kf So×hH)->mu->Prop}(c:Cmp prog w A SI (kindOf st) D)(d:∀x∈(q7 st).toList,D x)(o:RI st m v (R++e))(q: ~~~(bM v)=lo)(p: ~~~R=n)(J:1<=n)
 (L:∀a h,RI st h a e-> ~~~(bM a)=lo+n->T (.yield (eH,lo+n)) h):(SC prog w A SI) (sr1 (q7 st).size lo n) T m:=by
 show aw (iD ?_);rcases lR v with y|⟨N,⟨O,U⟩,y⟩
 .subst y;let B:(ow m).back? =eH:=by
   let:=o.psize;simp[nY.back?,this]
  rw[B];show aw (du (aA (L _ _ (o.pushed q p J) (by rw[cS,Z9,q,bp];simp[bM,p]))))
 .let B:(ow m).back?∣(~~~(bM N),~~~O,U):=by
   rw[<-nY.getLast?_toList,o.pend,y,d7,eD,eD,Sc];simp
  rw[B];show aw (cQ (cq (Q:=λx h=>x=(eH,())/\∃a,RI st h a (R++e)/\a≠[]/\ ~~~(bM a)=lo) (λj x h=>x=(eH,())/\∃a,RI st h a _/\a≠[]/\ ~~~(bM a)=lo) (Xe _) %[rfl,v,o,by rw[y];simp|q] ?_ ?_) ?_)
  .intro j5 x f _ _ %[rfl,l,b,i|g];show aw (iD ?_);by_cases C:(ow f).size>1
   .let%[r,%[z|E],%[Y5|q5]|rfl]:=Ca l (b.psize▸C);let s:(ow f).size-2= ~~~r:=by rw[b.psize];simp
    let G:(ow f)[(ow f).size-2]?∣(~~~(bM r),~~~z,E):=by
     let:(ow f).toList[~~~r]?∣(~~~(bM r),~~~z,E):=by
      rw[b.pend,d7,Ya (by rw[fQ];lia),fQ,Qw,Sc];rfl
     rw[s];simpa using this
    rw[jg C,G];dsimp only
    split
    .show aA %[rfl,_,b,i|g]
    .show aw (lQ c d b s λZ5 Y H I=>aA %[rfl,_,H,by simp|?_]);rw[<-g,cS,cS,bp,bp,bp];simp[bM,I]
   .rw[hX C];show aA %[rfl,_,b,i|g]
  .intro x f %[rfl,l,b,i|g];show%[ρ,l,b,i|g]
  .intro x f %[rfl,l,b,i|g];dsimp only;let%[r,%[z|E]|rfl]:=(lR l).resolve_left i;show aw (du (aw (du (aA ?_))));let u:∀M,~~~(bM (r++[(z,M)]))=lo:=λM=>by
    rw[<-g,cS,cS,bp,bp]
   show L _ _ ((b.powered _).pushed (u _) p J) (by rw[cS,Z9,u,bp];simp[bM,p])
def sc_sortMany{D:Nk->Prop}{Q:So->mu->Prop}{st:mu}(c:Cmp prog w A SI (kindOf st) D)(d:∀x∈(q7 st).toList,D x)(h2:1<=(q7 st).size)(hp:ow st= #[])(hf:NF st=eH)
 (h:∀f,(q7 f).toList.Perm (q7 st).toList->NF f=eH->Q () f):(SC prog w A SI) sortRuns' Q st:=by
 rw[Lr];show aw (iD ?_);show aw (cQ (cq (Q:=λx f=>∃e lo,x=(eH,lo)/\RI st f e [])
  (λj x f=>∃e rest lo,x=(eH,lo)/\RI st f e rest/\ ~~~(bM e)=lo/\j<=lo/\lo<=(q7 st).size) (Xe _) %[[],_,0,rfl,%[rfl,hf,M3 _,rfl,by rw[hp];rfl|λ_ h=>(nomatch h)],rfl,Zi _|Xe _] ?_ ?_) ?_)
 .intro j x u _ hj %[e,rest,lo,rfl,g,m,G|H];unfold srO;dsimp only;let s1:=g.size;by_cases B:lo>=(q7 st).size
  .rw[jg B];let I:rest=[]:=by
    let:=vb Mz g.arr;rw[Z9,Zb,s1,m]at this;show y2.mp ⋯
   subst I;show aA %[e,lo,rfl|g]
  rw[hX B];let T:∀x∈(q7 u).toList,D x:=λx hx=>d x (g.perm.mem_iff.mp hx)
  let c1:Cmp prog w A SI (kindOf u) D:=g.kind▸c;show aw (xg c1 T ⋯ ⋯ λn o U n1 n2=>?_);dsimp only;by_cases v:n<UN (q7 st).size (q7 st).size 0
  .rw[jg v];show aw (ko (aw (B9 c1 T U n1 ⋯ ⋯ λJ r3=>?_)));rw[hX ∅];let%[R,y,s|z]:=CR.toRI (n:=min ((q7 st).size-lo) (UN (q7 st).size (q7 st).size 0)) g r3 m ⋯;show Ez c d s m z ⋯ λL f r l=>%[_,_,_,rfl,r,l,⋯|⋯]
  .rw[hX v];let%[R,y,s|z]:=CR.toRI (n:=n) g U m ⋯;show Ez c d s m z ⋯ λL f r l=>%[_,_,_,rfl,r,l,⋯|⋯]
 .intro x u %[e,rest,lo,rfl,g,m,G|H];let I:rest=[]:=by
   let:=vb Mz g.arr;rw[Z9,Zb,g.size,m]at this;show y2.mp ⋯
  subst I;show%[e,lo,ρ|g]
 .intro x u %[e,lo,rfl|g];unfold srT;dsimp only;let few:∀(e:dV (dV Nk×hH)),(∀r∈e,r.1≠[])-> ~~~e<= ~~~(bM e):=by
   intro e
   induction e with
   | nil=>intro _;show Xe _
   | cons r t ih=>
     intro hr;rw[bp,Zr,Z9];let:=Nc.mpr (hr r ∅);let:=ih λq hq=>hr q (by simp[hq])
     lia
  let l1: ~~~e<=(q7 st).size:=by
   let a1:=few e g.runs;let a2:=vb Mz g.arr;rw[Zx,Zb,g.size]at a2
   lia
  show aw (cQ (cq (Q:=λx f=>x=(eH,())/\∃e,RI st f e []/\ ~~~e<=1) (λj x f=>x=(eH,())/\∃e,RI st f e []/\ ~~~e<=max 1 ((q7 st).size-j)) (Xe _) %[rfl,e,g|⋯] ?_ ?_) ?_)
  .intro j x o _ hj %[rfl,e,g|M];show aw (iD ?_);by_cases N:(ow o).size<=1
   .rw[jg N];show aA %[rfl,e,g|g.psize▸N]
   rw[hX N];let ab:1< ~~~e:=by rw[<-g.psize];lia
   generalize C:(if Ws _ _=fI then(ow o).size-2-1 else(ow o).size-2)=i
   let hi:i+1< ~~~e:=by
    let E:∀(c:Prop) [Ob c] (n:hH),2<=n->(if c then n-2-1 else n-2) +1<n:=λc _ n hn=>by lia
    rw[<-C,<-g.psize];show E _ _ ⋯
   clear C;obtain⟨a,X,p,Y,q,b,rfl,O⟩:∃a X p Y q b,e=a++(X,p)::(Y,q)::b/\i= ~~~a:=by
    show%[e.take i,e[i].1,e[i].2,e[i+1].1,e[i+1].2,e.drop (i+2),?_|by rw[Yl];lia];let t1:=(Xa i e).symm;rw[Zy ⋯,Zy ⋯]at t1;show t1
   show aw (lQ c d g O λZ J s zl=>?_);rw[hX ∅];show aA %[rfl,_,s|?_];simp only[Z9,Zr]at M hi ⊢
   lia
  .intro x o %[rfl,e,g|M];show%[ρ,e,g|⋯]
  .intro x o %[rfl,e,g|M];show aA (h o g.perm g.fail)
end
end _SB
namespace _ST
open PySem PySem.SetTable
def xh:∀k,∃q,5^(2^k)=1+2^(k+2)*(2*q+1)
 | 0=>%[0|rfl]
 | k+1=>by
   let%[q|e]:=xh k;show%[q+2^k*(2*q+1)*(2*q+1)|?_];rw[P6 2 k,hH.pow_mul,e]
   grind
abbrev step(M i:hH):hH:=(i*5+1)%M
abbrev iter(M:hH):hH->hH->hH
 | 0,i=>i
 | n+1,i=>step M (iter M n i)
abbrev geo:hH->hH
 | 0=>0
 | n+1=>geo n*5+1
def vE:∀n,4*geo n+1=5^n
 | 0=>rfl
 | n+1=>by
   let:=vE n;rw[P6,<-this,geo]
   lia
def lS(M:hH)(i:hH):∀n,iter M n i%M=(5^n*i+geo n)%M
 | 0=>by simp[iter,geo]
 | n+1=>by
   rw[iter,step,hH.mod_mod,geo,P6];rw[UP,Xr,(lS M i n),<-Xr,<-UP]
   congr 1
   grind
def p8:∀(k i e:hH),e<2^k->∃n,n<2^k/\iter (2^k) n i%2^k=e
 | 0,i,e,c=>%[0,by simp|by simp at c;subst c;simp[hH.mod_one]]
 | k+1,i,e,c=>by
   let%[n,N|w]:=p8 k i (e%2^k) (SM _ (VO k));let d:∀n,iter (2^(k+1)) n i%2^(k+1)%2^k=iter (2^k) n i%2^k:=λn=>by
    rw[Rx _ (Sq 2 (Yg k)),<-Rx _ (Sq 2 (Yg k)),lS,Rx _ (Sq 2 (Yg k)),lS]
   let%[q|b]:=xh k;let y:geo (2^k)=2^k*(2*q+1):=by
    let g:=vE (2^k);rw[b,hH.pow_add]at g;let:2^k*2^2*(2*q+1)=4*(2^k*(2*q+1)):=by
     rw[hH.mul_right_comm];lia
    lia
   let f:∀n,iter (2^(k+1)) (n+2^k) i%2^(k+1)=(iter (2^(k+1)) n i+2^k)%2^(k+1):=λn=>by
    rw[lS];let z:5^(n+2^k)*i+geo (n+2^k)=5^(2^k)*(5^n*i+geo n) +geo (2^k):=by
     let O:=vE (n+2^k);let Q:=vE n
     grind
    rw[z,b,y];let A:2^(k+1)=2*2^k:=by rw[P6];lia
    let j:2^(k+2)=2*2^(k+1):=by rw[P6];lia
    let p:=lS (2^(k+1)) i n
    generalize 5^n*i+geo n=v at p ⊢
    let B:(1+2^(k+2)*(2*q+1))*v+2^k*(2*q+1)=v+2^k+2^(k+1)*(2*((2*q+1)*v) +q):=by
     rw[hH.add_mul,hH.one_mul,j];let C:2*2^(k+1)*(2*q+1)*v=2^(k+1)*(2*((2*q+1)*v)):=by
      simp only[hH.mul_assoc,hH.mul_left_comm]
     let E:2^k*(2*q+1)=2^k+2^(k+1)*q:=by
      rw[A,Xs,hH.mul_one]
      lia
     rw[C,E,Xs]
     lia
    rw[B,hH.add_mul_mod_self_left,UP,<-p,<-UP]
   let l:=d n;rw[w]at l;let G:iter (2^(k+1)) n i%2^(k+1)<2^(k+1):=SM _ (VO _);let m:=f n;rw[UP,Qf (by lia:2^k<2^(k+1))]at m;obtain⟨a,r⟩:∃a,a=iter (2^(k+1)) n i%2^(k+1):=%[_|rfl]
   rw[<-r]at l G m;let o:a=e\/(a+2^k)%2^(k+1)=e:=by
    let s:=VQ a (2^k);let H:=VQ e (2^k);let I:a/2^k<2:=Uj ⋯;let J:e/2^k<2:=Uj ⋯;rw[l]at s
    generalize a/2^k=u at s I
    generalize e/2^k=v at H J
    let L:u=0\/u=1:=by lia
    let M:v=0\/v=1:=by lia
    rcases L with rfl|rfl<;> rcases M with rfl|rfl
    .left;lia
    .right
     rw[Qf ⋯]
     lia
    .right
     rw[show a+2^k=e+2^(k+1) by lia,hH.add_mod_right,Qf c]
    .left;lia
   rcases o with h|h
   .show%[n,⋯|by rw[<-r,h]]
   .show%[n+2^k,⋯|by rw[m,h]]
abbrev stand(t:lx)(h:nX):hH->Probe
 | 0=>t.probeStart h
 | n+1=>t.advance (stand t h n)
abbrev way(t:lx)(h:nX)(n:hH):hH:=(stand t h n).j
abbrev aT(t:lx)(h:nX):hH->hH×hH
 | 0=>(SR h%(t.mask+1),SR h)
 | r+1=>leap t.mask (aT t h r).1 (aT t h r).2
def n5(t:lx)(h:nX):∀n,(stand t h n).dummy=eH
 | 0=>rfl
 | n+1=>by
   let:=n5 t h n;change(t.advance _).dummy=eH;unfold Sn
   split
   .show this
   .show this
def GY(m i:hH):Nq m i-i<=9:=by
 unfold Nq
 split<;> lia
def Cb(t:lx)(h:nX):∀r,∃n,n<=10*r/\∀d,d<=Nq t.mask (aT t h r).1-(aT t h r).1->
 stand t h (n+d)=%[(aT t h r).1+d,Nq t.mask (aT t h r).1-(aT t h r).1-d,(aT t h r).1,(aT t h r).2|eH]:=by
 let a:∀n i b,stand t h n=%[i,Nq t.mask i-i,i,b|eH]->∀d,d<=Nq t.mask i-i->stand t h (n+d)=%[i+d,Nq t.mask i-i-d,i,b|eH]:=by
  intro n i b e d
  induction d with
  | zero=>intro _;rw[Rv,e];rfl
  | succ d c=>
    intro f;change t.advance (stand t h (n+d))=_;rw[c ⋯];unfold Sn;rw[jg ⋯]
    grind
 intro r
 induction r with
 | zero=>show%[0,Xe _|a 0 _ _ rfl]
 | succ r c=>
   let%[n,g|e]:=c;let j:=GY t.mask (aT t h r).1;show%[n+(Nq t.mask (aT t h r).1-(aT t h r).1) +1,⋯|a _ _ _ ?_];change t.advance _=_;rw[e _ (Zi _)];unfold Sn;rw[hX ⋯];rfl
def GZ(h:nX):SR h<2^64:=by
 unfold SR
 grind
def p9(t:lx)(h:nX):∀r,(aT t h r).2=SR h/32^r
 | 0=>by simp[aT]
 | r+1=>by
   change(aT t h r).2/32=_;rw[p9 t h r,T2,P6]
def EA(t:lx)(h:nX):∀r,(aT t h r).1<t.mask+1
 | 0=>SM _ (Tz _)
 | r+1=>SM _ (Tz _)
def lj(t:lx)(h:nX):∀m,(aT t h (12+m)).1=iter (t.mask+1) m (aT t h 12).1
 | 0=>rfl
 | m+1=>by
   change((aT t h (12+m)).1*5+1+(aT t h (12+m)).2/32)%(t.mask+1)=step _ _;rw[lj t h m,p9,T2,<-P6];let a:SR h/32^(12+m+1)=0:=by
    show hH.div_eq_of_lt (Zg (GZ h) (md (by decide:2^64<=32^13) (O7 (!1) ⋯)))
   rw[a,Rv];rfl
def qa(a:t.mask+1=2^k)(h:nX)(e:hH)(c:e<=t.mask):∃r,r<Rg t.mask/\(aT t h r).1=e:=by
 let%[n,d|b]:=p8 k _ e ⋯;show%[12+n,by unfold Rg;lia|?_];rw[lj,a];rw[<-a]at b;let:iter (t.mask+1) n (aT t h 12).1<t.mask+1:=by rw[<-lj];show EA t h _
 rw[Qf this]at b;show a▸b
def zJ(a:t.mask+1=2^k)(h:nX)(e:hH)(b:e<=t.mask):∃n,n+10<=10*Rg t.mask/\way t h n=e:=by
 let%[r,f|c]:=qa a h e b;let%[n,g|d]:=Cb t h r;show%[n,⋯|?_];let:=d 0 (Xe _);unfold way;rw[Rv]at this;rw[this];show c
def xi(o:t.dummies= #[]){hashAt:hH->nX}:∀(fuel n m:hH),n<=m->m<n+fuel->t.slot (way t h m)= .empty->
 ∃q,n<=q/\q<=m/\(∀j,n<=j->j<q->∃i,t.slot (way t h j)= .live i/\hashAt i≠h)/\
  ((t.slot (way t h q)= .empty/\Qz t hashAt h fuel (stand t h n)∣.empty (way t h q) eH)\/
   ∃i,t.slot (way t h q)= .live i/\hashAt i=h/\Qz t hashAt h fuel (stand t h n)∣.candidate (way t h q) i (stand t h (q+1)))
 | 0,n,m,g,r,_=>by lia
 | fuel+1,n,m,g,r,p=>by
   let d:Qz t hashAt h (fuel+1) (stand t h n)=(match t.slot (stand t h n).j with
    | .empty=>fx _
    | .dummy=>Qz t hashAt h fuel (t.advance {stand t h n with dummy:=fx _})
    | .live i=>if hashAt i==h then fx _ else Qz t hashAt h fuel _):=rfl
   let l:(stand t h n).j=way t h n:=rfl;cases c:t.slot _ with
   | empty=>
     show%[n,Zi _,g,λj a b=>by lia|.inl %[c|?_]];rw[d,l,c,n5]
   | dummy=>
     exfalso;unfold slot at c;dsimp only at c
     split at c
     .lia
     .split at c
      .rename_i q
       rw[o]at q;simp[has]at q
      .lia
   | live i=>
     by_cases f:hashAt i=h
     .show%[n,Zi _,g,λj a b=>by lia|.inr %[i,c,f|?_]];rw[d,l,c];dsimp only;rw[jg (by simp[f])];rfl
     .let s:n≠m:=λq=>by rw[q,p]at c;cases c
      let%[q,z,u,v|w]:=xi o fuel (n+1) m ⋯ ⋯ p;let y:Qz t hashAt h (fuel+1) (stand t h n)=Qz t hashAt h fuel (stand t h (n+1)):=by
       rw[d,l,c];dsimp only;rw[hX (by simp[f])];rfl
      show%[q,⋯,u,λj a b=>?_|?_]
      .by_cases e:j=n
       .show e▸%[i,c|f]
       .show v j ⋯ b
      .show y▸w
def qb(xs:nY hH)(j:hH)(d:∀a b (s:a<xs.size) (u:b<xs.size),a<b->xs[a]<xs[b]):∀(fuel lo hi:hH),hi-lo<=fuel->lo<=hi->hi<=xs.size->(∀i (h:i<xs.size),i<lo->xs[i]<j)->(∀i (h:i<xs.size),hi<=i->j<=xs[i])->
 TW xs j fuel lo hi<=xs.size/\(∀i (h:i<xs.size),i<TW xs j fuel lo hi->xs[i]<j)/\(∀i (h:i<xs.size),TW xs j fuel lo hi<=i->j<=xs[i])
 | 0,lo,hi,p,q,f,g,l=>by
   let e:lo=hi:=by lia
   subst e;show%[f,g|l]
 | fuel+1,lo,hi,p,q,f,g,l=>by
   rw[TW];by_cases c:lo<hi
   .rw[jg c];dsimp only;let n:(lo+hi)/2<xs.size:=by lia
    let r:xs.getD ((lo+hi)/2) j=xs[(lo+hi)/2]:=by simp[SA,n]
    rw[r];by_cases m:xs[(lo+hi)/2]<j
    .rw[jg m];show qb xs j d fuel _ hi ⋯ ⋯ f (λi h o=>?_) l;by_cases e:i=(lo+hi)/2
     .subst e;show m
     .show WS (d i _ h n ⋯) m
    .rw[hX m];show qb xs j d fuel lo _ ⋯ ⋯ ⋯ g (λi h o=>?_);by_cases e:i=(lo+hi)/2
     .subst e;lia
     .let:=d _ i n h ⋯
      lia
   .rw[hX c];let e:lo=hi:=by lia
    subst e;show%[f,g|l]
abbrev EB(xs:nY hH):Prop:=∀a b c (d:b<xs.size),a<b->xs[a]<xs[b]
def lq(a:EB xs)(j:hH):Oc xs j<=xs.size/\(∀i (h:i<xs.size),i<Oc xs j->xs[i]<j)/\(∀i (h:i<xs.size),Oc xs j<=i->j<=xs[i]):=
 qb xs j a xs.size 0 xs.size ⋯ (Xe _) (Zi _) (λi h q=>m4 q (X4 _)) (λi h q=>by lia)
def EC(a:EB xs)(h:xs[i]?∣j):Oc xs j=i:=by
 let%[f,c|d]:=lq a j;let%[hi|e]:=vi.mp h;rcases RO i _ with q|q|q
 .let:=c i hi q
  lia
 .show q.symm
 .let b:Oc xs j<xs.size:=by lia
  let:=d _ b (Zi _);let:=a _ i b hi q
  lia
def tR{t:lx}(a:EB t.place)(h:t.place[i]?∣j):t.slot j= .live i:=by
 unfold slot;dsimp only;rw[EC a h,h];simp
def lv{t:lx}(a:EB t.place)(b:t.dummies= #[])(j:hH):(∃i,t.place[i]?∣j/\t.slot j= .live i)\/(j∉t.place.toList/\t.slot j= .empty):=by
 by_cases h:j∈t.place.toList
 .let%[i|hi]:=Xf h;let hi:=↑hi
  show .inl %[i,hi|tR a hi]
 .show .inr %[h|?_];unfold slot;rw[hX,hX]
  .rw[b];simp[has]
  .intro q;show h (P8.mpr (ON ↑q))
def xj(h:t.mask=t'.mask)(x:nX):∀n,stand t x n=stand t' x n
 | 0=>by
   change t.probeStart x=t'.probeStart x;unfold probeStart;rw[h]
 | n+1=>by
   change t.advance _=t'.advance _;rw[xj h x n];unfold Sn;rw[h]
def tT(h:t.mask=t'.mask)(x:nX)(n:hH):way t x n=way t' x n:=by unfold way;rw[xj h]
structure WF (t:lx) (es:nY (nX×hV)):Prop where
 pow:∃k,t.mask+1=2^k
 big:7<=t.mask
 dum:t.dummies= #[]
 rise:EB t.place
 inb:∀j∈t.place.toList,j<=t.mask
 size:t.place.size=es.size
 chain:∀(i j:hH) h x,t.place[i]?∣j->es[i]?∣(h,x)->∃n,way t h n=j/\∀m,m<n->way t h m∈t.place.toList
def nodup_sub [Mw c]:∀{l m:dV c},l.Nodup->(∀x∈l,x∈m)-> ~~~l<= ~~~m
 |[],_,_,_=>Xe _
 | x::l,m,d,a=>by
   let%[f|g]:=Nw.mp d;let b:=a x Zm;let h:=nodup_sub (m:=m.erase x) g λy i=>(Ub (λe=>f (!2))).mpr (a y (Zk _ i))
   rw[dV.length_erase_of_mem b]at h;let:=OX b;rw[Zr]
   lia
def zK(W:WF t es)(R:t.place.size<=t.mask)(h:nX):∃m,m+10<=10*Rg t.mask/\way t h m∉t.place.toList/\(∀q,q<m->way t h q∈t.place.toList):=by
 let%[k|l]:=W.pow;let ex:∃e,e<=t.mask/\e∉t.place.toList:=by
  show Nn λb=>?_
  let: ~~~(o0 (t.mask+1))<= ~~~t.place.toList:=nodup_sub Rq λx o=>(λe c=>Nn λq=>b %[e,c|q]) x (by let:=vu.mp o;lia)
  rw[Yj,Zb]at this
  lia
 let%[e,c|f]:=ex;let%[n,p|hw]:=zJ l h e c;let:∀d,∀n,n<=d->n+10<=10*Rg t.mask->way t h n∉t.place.toList->∃m,m+10<=10*Rg t.mask/\way t h m∉t.place.toList/\(∀q,q<m->way t h q∈t.place.toList):=by
  intro d
  induction d with
  | zero=>
    intro n r g i;let:n=0:=by lia
    subst this;show%[0,g,i|λq j=>m4 j (X4 _)]
  | succ d s=>
    intro n r g i;by_cases a:∀q,q<n->way t h q∈t.place.toList
    .show%[n,g,i|a]
    .let%[q|j]:=Qh.mp a;let%[v|u]:=Classical.not_imp.mp j;show s q ⋯ ⋯ u
 show this n n (Zi _) p (hw▸f)
def lT(xs:nY a)(p:hH)(x:a)(b:p<=xs.size):(M6 xs p x).toList=xs.toList.take p++x::xs.toList.drop p:=by
 unfold M6;rw[Xd,Rh,Ri,Ri,N4,N4];rw[SQ,Vh,Zn (l:=xs.toList.drop p) ∅];simp
def zL(xs:nY c)(x:c)(f:p<=xs.size)(i:hH):(M6 xs p x)[i]? =if i<p then xs[i]? else if i=p then fx x else xs[i-1]? :=by
 let e:(M6 xs p x)[i]? =(M6 xs p x).toList[i]? :=by simp
 rw[e,lT xs p x f];let g: ~~~(xs.toList.take p)=p:=!2
 by_cases a:i<p
 .rw[jg a,Y9 ⋯,Q9,jg a];simp
 .rw[hX a,Ya ⋯,g];by_cases b:i=p
  .rw[jg b,b,Qw];rfl
  .rw[hX b];obtain⟨d,h⟩:∃d,i-p=d+1:=%[i-p-1|⋯]
   rw[h,dV.getElem?_cons_succ,Pl];rw[show p+d=i-1 by lia];simp
def jM(xs:nY a)(p:hH)(x:a)(b:p<=xs.size):(M6 xs p x).size=xs.size+1:=by
 rw[<-Zb,lT xs p x b,Z9,Zr,Yl,Yh,Zb]
 lia
def ED(t:lx)(h:nX):∀n,(stand t h n).j+(stand t h n).more<=t.mask
 | 0=>by
   change SR h%(t.mask+1) +(Nq t.mask _-SR h%(t.mask+1))<=t.mask;let:=SM (SR h) (show 0<t.mask+1 from Tz _);unfold Nq
   split<;> lia
 | n+1=>by
   let a:=ED t h n;change(t.advance _).j+(t.advance _).more<=t.mask;unfold Sn
   split
   .lia
   .dsimp only[leap];let:=SM ((stand t h n).i*5+1+(stand t h n).perturb/32) (show 0<t.mask+1 from Tz _);unfold Nq
    split<;> lia
def vF(t:lx)(h:nX)(n:hH):way t h n<=t.mask:=by
 let:=ED t h n;unfold way
 lia
def WF.put(W:WF t es)(Q:way t h m∉t.place.toList)(T:∀q,q<m->way t h q∈t.place.toList)(r f:pp):
 (t.put (way t h m)).2=Oc t.place (way t h m)/\(t.put (way t h m)).1.mask=t.mask/\(t.put (way t h m)).1.place.size=t.place.size+1/\(t.put (way t h m)).1.led=t.led/\(t.put (way t h m)).1.plain=t.plain/\(t.put (way t h m)).1.moves=t.moves/\
  WF {(t.put (way t h m)).1 with led:=r,plain:=f} (M6 es (t.put (way t h m)).2 (h,x)):=by
 let U:has t.dummies (way t h m)=fS:=by rw[W.dum];simp[has]
 let Y:t.put (way t h m)=({t with place:=M6 t.place (Oc t.place (way t h m)) (way t h m)},Oc t.place (way t h m)):=by
  unfold lx.put;dsimp only;rw[U];rfl
 rw[Y];let%[g,I|J]:=lq W.rise (way t h m)
 generalize hp:Oc t.place (way t h m)=p at g I J
 let w:p<=es.size:=by rw[<-W.size];show g
 let s3:∀i (hi:i<t.place.size),p<=i->way t h m<t.place[i]:=λi hi q=>by
  let:=J i hi q;rcases UU this with e|e
  .show m4 (by rw[e];simp) Q
  .show e
 let c:∀y,y∈(M6 t.place p (way t h m)).toList↔y=way t h m\/y∈t.place.toList:=λy=>by
  rw[lT _ _ _ g,Yt,Yw];let:=Xa p t.place.toList
  constructor
  .rintro(q|q|q)
   .show .inr (Yx q)
   .show .inl q
   .show .inr (Ua q)
  .rintro(q|q)
   .show .inr (.inl q)
   .rw[<-this]at q;rcases Xm q with q|q
    .show .inl q
    .show .inr (.inr q)
 show%[ρ,ρ,jM _ _ _ g,ρ,ρ,ρ,W.pow,W.big,W.dum,?_,?_,?_|?_]
 .intro a b ha A B;let l:(M6 t.place p (way t h m))[a]?∣(M6 t.place p (way t h m))[a]:=by simp
  let d:(M6 t.place p (way t h m))[b]?∣(M6 t.place p (way t h m))[b]:=by simp
  change(M6 t.place p (way t h m))[a]<(M6 t.place p (way t h m))[b];rw[zL _ _ g]at l d;let ab:b<t.place.size+1:=(jM t.place p (way t h m) g)▸A;by_cases C:a<p
  .rw[jg C]at l;let%[u|E]:=vi.mp l;rw[<-E];by_cases r:b<p
   .rw[jg r]at d;let%[f|v]:=vi.mp d;show v▸W.rise a b u f B
   .rw[hX r]at d;by_cases f:b=p
    .rw[jg f]at d;show(Za d)▸I a u C
    .rw[hX f]at d;let%[v|G]:=vi.mp d;show G▸W.rise a (b-1) u v ⋯
  .rw[hX C]at l;let r: ¬ b<p:=by lia
   let f: ¬ b=p:=by lia
   rw[hX r,hX f]at d;let%[v|G]:=vi.mp d;rw[<-G];by_cases u:a=p
   .rw[jg u]at l;show(Za l)▸s3 (b-1) v ⋯
   .rw[hX u]at l;let%[E|a4]:=vi.mp l;show a4▸W.rise (a-1) (b-1) E v ⋯
 .intro y hy;rcases(c y).mp hy with q|q
  .rw[q];show vF t h m
  .show W.inb y q
 .rw[jM _ _ _ g,jM _ _ _ w,W.size]
 .intro i j h' L hi o;let M:∀n,way {t with place:=M6 t.place p (way t h m),led:=r,plain:=f} h' n=way t h' n:=λn=>tT (t':=t) (by rfl) h' n
  let H:∃n,way t h' n=j/\∀q,q<n->way t h' q∈(M6 t.place p (way t h m)).toList:=by
   rw[zL _ _ g]at hi;rw[zL _ _ w]at o;by_cases N:i<p
   .rw[jg N]at hi o;let%[n,n1|z]:=W.chain i j h' L hi o;show%[n,n1|λq s=>(c _).mpr (.inr (z q s))]
   .rw[hX N]at hi o;by_cases O:i=p
    .rw[jg O]at hi o;cases hi;cases o;show%[m,ρ|λq s=>(c _).mpr (.inr (T q s))]
    .rw[hX O]at hi o;let%[n,n1|z]:=W.chain (i-1) j h' L hi o;show%[n,n1|λq s=>(c _).mpr (.inr (z q s))]
  let%[n,n1|z]:=H;show%[n,by rw[M];show n1|λq s=>by rw[M];show z q s]
abbrev nb(t:lx)(h:nX):hH->hH
 | 0=>0
 | r+1=>nb t h r+(Nq t.mask (aT t h r).1-(aT t h r).1) +1
def EE(t:lx)(h:nX):∀r d,d<=Nq t.mask (aT t h r).1-(aT t h r).1->
 stand t h (nb t h r+d)=%[(aT t h r).1+d,Nq t.mask (aT t h r).1-(aT t h r).1-d,(aT t h r).1,(aT t h r).2|eH]:=by
 let a:∀n i b,stand t h n=%[i,Nq t.mask i-i,i,b|eH]->∀d,d<=Nq t.mask i-i->stand t h (n+d)=%[i+d,Nq t.mask i-i-d,i,b|eH]:=by
  intro n i b e d
  induction d with
  | zero=>intro _;rw[Rv,e];rfl
  | succ d c=>
    intro f;change t.advance (stand t h (n+d))=_;rw[c ⋯];unfold Sn;rw[jg ⋯]
    grind
 intro r
 induction r with
 | zero=>show a 0 _ _ rfl
 | succ r c=>
   show a _ _ _ ?_;change t.advance _=_;rw[c _ (Zi _)];unfold Sn;rw[hX ⋯];rfl
def zM(t:lx)(h:nX)(r d:hH)(a:d<=Nq t.mask (aT t h r).1-(aT t h r).1):way t h (nb t h r+d)=(aT t h r).1+d:=by
 unfold way;rw[EE t h r d a]
abbrev gB(owner:nY (kf hH))(j:hH):pp:=(owner.getD j (fx 0)).isSome
def tU(t:lx)(h:nX)(owner:nY (kf hH)):∀(fuel r:hH),(∃a,r<=a/\a<r+fuel/\gB owner (aT t h a).1=fS)->(∀m,m<nb t h r->gB owner (way t h m)=fI)->
 ∃j n,OB t.mask owner fuel (aT t h r).1 (aT t h r).2∣j/\way t h n=j/\gB owner j=fS/\∀m,m<n->gB owner (way t h m)=fI
 | 0,r,⟨a,o,p,_⟩,_=>by lia
 | fuel+1,r,⟨a,o,p,f⟩,g=>by
   rw[OB];let s:Nq t.mask (aT t h r).1>=(aT t h r).1:=by unfold Nq;split<;> lia
   let tk:∀k,(owner.getD ((aT t h r).1+k) (fx 0)).isNone=!gB owner ((aT t h r).1+k):=λk=>by
    unfold gB;cases owner.getD ((aT t h r).1+k) (fx 0)<;> rfl
   cases i:(o0 (Nq t.mask (aT t h r).1+1-(aT t h r).1)).find? λk=>(owner.getD ((aT t h r).1+k) (fx 0)).isNone with
   | some k=>
     let%[l,as,bs,b|u]:=dV.find?_eq_some_iff_append.mp i;let c:k∈o0 (Nq t.mask (aT t h r).1+1-(aT t h r).1):=by rw[b];simp
     let c:=vu.mp c;let v:as=o0 k:=by
      let w: ~~~as=k:=by
       let:(o0 (Nq t.mask (aT t h r).1+1-(aT t h r).1))[~~~as]?∣k:=by rw[b];simp
       rw[Rs (by let:=(Xl this).1;simpa using this)]at this;show Za this
      let y:as=(o0 (Nq t.mask (aT t h r).1+1-(aT t h r).1)).take k:=by
       rw[b,<-w];simp
      rw[y,dV.take_range,Qi ⋯]
     dsimp only;show%[_,nb t h r+k,ρ,zM t h r k ⋯,?_|λm d=>?_]
     .rw[tk]at l;simpa using l
     .by_cases q:m<nb t h r
      .show g m q
      .let:=u (m-nb t h r) (v▸vu.mpr ⋯);rw[tk]at this;rw[show m=nb t h r+(m-nb t h r) by lia,zM t h r _ ⋯];simpa using this
   | none=>
     let all:∀k,k<=Nq t.mask (aT t h r).1-(aT t h r).1->gB owner ((aT t h r).1+k)=fI:=λk c=>by
      let:=(dV.find?_eq_none.mp i) k (vu.mpr ⋯);rw[tk]at this;simpa using this
     let z:r≠a:=λe=>by
      let:=all 0 (Xe _);rw[Rv,e,f]at this;cases this
     dsimp only;show tU t h owner fuel (r+1) %[a,⋯,⋯|f] λm d=>by
      by_cases q:m<nb t h r
      .show g m q
      .let d:m<nb t h r+(Nq t.mask (aT t h r).1-(aT t h r).1) +1:=d;rw[show m=nb t h r+(m-nb t h r) by lia,zM t h r _ ⋯];show all _ ⋯
structure LO (t:lx) (hs:ZL) (owner:nY _):Prop where
 size:owner.size=t.mask+1
 own:∀j q,owner[j]?∣fx q->∃h,hs[q]?∣h/\∃n,way t h n=j/\∀m,m<n->gB owner (way t h m)=fI
 all:∀q,q< ~~~hs->∃j:hH,owner[j]?∣fx q
 one:∀(j j' q:hH),owner[j]?∣fx q->owner[j']?∣fx q->j=j'
def iQ(b:j<owner.size):gB owner j=fI↔∃q,owner[j]?∣fx q:=by
 unfold gB;let e:owner.getD j (fx 0)=owner[j]:=!2
 rw[e];let a:owner[j]?∣owner[j]:=by simp
 rw[a];cases owner[j]with
 | none=>simp
 | some q=>simp
def LO.step(L:LO t f owner)(J:t.mask+1=2^k)(room: ~~~f<=t.mask)(h:nX):
 ∃j,OB t.mask owner (Rg t.mask) (SR h%(t.mask+1)) (SR h)∣j/\LO t (f++[h]) (owner.setIfInBounds j (fx f.length)):=by
 let d:∀h n,way t h n<owner.size:=λh n=>by rw[L.size];let:=vF t h n;lia
 let ex:∃e,e<=t.mask/\gB owner e=fS:=by
  show Nn λv=>?_
  let all:∀e,e<t.mask+1->gB owner e=fI:=λe c=>by
   cases q:gB owner e with
   | true=>rfl
   | false=>show m4 %[e,⋯|q] v
  letI g:hH->hH:=λe=>((owner[e]?).getD eH).getD 0
  let w:∀e,e<t.mask+1->owner[e]?∣fx (g e):=λe c=>by
   let%[q|o]:=(λe c=>(iQ (L.size▸c)).mp (all e c)) e c;change owner[e]?∣fx (((owner[e]?).getD eH).getD 0);rw[o];rfl
  let nd:((o0 (t.mask+1)).map g).Nodup:=by
   rw[X2,OV];show Xg (λ{a b} M N A q=>A ?_) (X2.mp Rq);let E:=w b (vu.mp N);rw[<-q]at E;show L.one a b _ (w a (vu.mp M)) E
  let:=nodup_sub nd λy O=>by
   let%[e,c|rfl]:=Xo O;let%[h',l|_]:=L.own e _ (w e (vu.mp c));show vu.mpr (Xl l).1
  rw[Z6,Yj,Yj]at this
  lia
 let%[e,c|B]:=ex;let%[r,hr|o]:=qa J h e c;let%[j,n,Q,G,T|U]:=tU t h owner (Rg t.mask) 0 %[r,Xe _,⋯|o▸B] (λm p=>m4 p (X4 _));show%[j,Q|?_];let Y:j<owner.size:=G▸d h n;let nj:∀q,owner[j]? ≠fx _:=λq e=>by
  let:=(iQ Y).mpr %[q|e];rw[T]at this;cases this
 let get:∀i,(owner.setIfInBounds j (fx f.length))[i]? =if j=i then fx _ else owner[i]? :=λi=>by
  rw[nY.getElem?_setIfInBounds]
  split
  .first|rfl|simp
  .rfl
 let keep:∀i,gB owner i=fI->i<owner.size->gB (owner.setIfInBounds j _) i=fI:=λi hi H=>by
  let%[q|e]:=(iQ H).mp hi;show(iQ (PL▸H)).mpr ?_;rw[get]
  split
  .show%[_|ρ]
  .show%[q|e]
 show%[by rw[PL];show L.size,λi q e=>?_,λq o=>?_|λi I q e s=>?_]
 .rw[get]at e
  split at e
  .rename_i C
   cases e;show%[h,by simp,n,by rw[G,C]|λm p=>keep _ (U m p) (d h m)]
  .let%[h',l,n',e2|e3]:=L.own i q e;show%[h',(Y9 (Xl l).1)▸l,n',e2|λm p=>keep _ (e3 m p) (d h' m)]
 .rw[Z9,Yk]at o;by_cases e:q= ~~~f
  .show%[j|by rw[get,jg rfl,e]]
  .let%[i|hi]:=L.all q ⋯;show%[i|?_];rw[get,hX]
   .show hi
   .intro C;rw[<-C]at hi;show nj q hi
 .let u:∀i,owner[i]?∣fx f.length->G2:=λi e=>by
   let%[h',l|_]:=L.own i _ e;let:=(Xl l).1
   lia
  rw[get]at e s
  split at e<;> split at s
  .lia
  .cases e;show m4 s (λz=>u I z)
  .cases s;show m4 e (λz=>u i z)
  .show L.one i I q e s
def xk(c:t.mask+1=2^k)(a:nY nX)(room:a.size<=t.mask+1):∃owner,layClean t.mask a∣owner/\LO t a.toList owner:=by
 let d:∀rest done owner,LO t done owner-> ~~~(done++rest)<=t.mask+1->
  ∃b,rest.foldl (λacc h=>do
   let(owner,k)<-acc
   let j<-OB t.mask owner (Rg t.mask) (SR h%(t.mask+1)) (SR h)
   pure (owner.setIfInBounds j (fx k),k+1)) (fx (owner,~~~done))∣(b,~~~(done++rest))/\LO t (done++rest) b:=by
  intro rest
  induction rest with
  | nil=>intro done owner L _;show%[owner,by simp|↑L]
  | cons h rest g=>
    intro done owner L i;simp only[Z9,Zr]at i;let%[j,f|l]:=L.step c ⋯ h;let%[b,e|L2]:=g _ _ l (!2);show%[b,?_|↑L2];rw[Y8];let m:(do
     let(owner,k)<-(fx (owner,~~~done))
     let j<-OB t.mask owner (Rg t.mask) (SR h%(t.mask+1)) (SR h)
     pure (owner.setIfInBounds j (fx k),k+1))∣(owner.setIfInBounds j (fx done.length),~~~(done++[h])):=by
     change(OB t.mask owner _ _ _).bind _=_;rw[f];simp
    rw[m,e];simp
 let n:LO t [] (Ve (t.mask+1) eH):=%[by simp,λj q e=>by
  rw[S0]at e
  split at e<;> simp at e,λq o=>m4 o (X4 _)|λj p q e _=>by
  rw[S0]at e
  split at e<;> simp at e]
 let%[owner,e|L]:=d a.toList [] _ n (room);show%[owner,?_|L];unfold layClean;rw[<-nY.foldl_toList];rw[show(0)= ~~~([]) from rfl,e];rfl
def xo(n:hH):∀fuel k,3<=k->n<2^(k+fuel)->(2^k<=2*n\/k=3)->∃a,3<=a/\UG n fuel (2^k)=2^a/\n<2^a/\(2^a<=2*n\/a=3)
 | 0,k,b,c,d=>%[k,b,rfl,c|d]
 | fuel+1,k,b,c,d=>by
   rw[UG];by_cases h:2^k<=n
   .rw[jg h];let e:2^k*2=2^(k+1):=by rw[P6]
    rw[e];show xo n fuel _ ⋯ ((show k+1+fuel=k+(fuel+1) by lia)▸c) (.inl ⋯)
   .rw[hX h];show%[k,b,ρ,⋯|d]
def zN(a:n<2^60):∃k,3<=k/\sizeAbove n=2^k/\n<2^k/\(2^k<=2*n\/k=3):=
 xo n 64 3 (Zi _) (Zg a (O7 (!1) ∅)) (.inr rfl)
def qc [Mw c]:∀{l m:dV c},l.Nodup->m.Nodup->(∀x,x∈l↔x∈m)->l.Perm m
 |[],m,_,_,h=>by
  cases m with
  | nil=>simp
  | cons x m=>show m4 ((h x).mpr Zm) ∅
 | x::l,m,d,b,h=>by
   let%[f|g]:=Nw.mp d;show PU (Uo x (qc g (b.erase x) λy=>?_)) (dV.perm_cons_erase ((h x).mp Zm)).symm
   constructor
   .intro a;show(Ub (λe=>f (!2))).mpr ((h y).mp (Zk _ a))
   .intro a;rcases Yw.mp ((h y).mpr (dV.mem_of_mem_erase a))with q|q
    .show m4 q (λe=>by rw[e]at a;show b.not_mem_erase a)
    .show q
def laid_ok{t:lx}(hp:t.mask+1=2^k)(C:7<=t.mask)(es:nY (nX×hV))(room:es.size<=t.mask)(finger moves:hH)(led plain:pp):
 ∃t' c,laid t.mask finger moves led plain (es\1)∣(t',c)/\t'.mask=t.mask/\t'.led=led/\t'.plain=plain/\t'.moves=moves/\WF t' (c.filterMap (es[·]?))/\(c.filterMap (es[·]?)).toList.Perm es.toList:=by
 let%[owner,e|L]:=xk hp (es\1) (by rw[Xw];lia);let E:(es\1).toList.length=es.size:=by simp
 obtain⟨live,u⟩:∃live,(o0 (t.mask+1)).filterMap (λj=>(owner.getD j eH).map (λq=>(j,q)))=live:=%[_|rfl]
 show%[%[t.mask,(live\1).toArray,#[],finger,led,moves|plain],(live\2).toArray,by unfold laid;rw[e,<-u];rfl,ρ,ρ,ρ,ρ|?_];let gd:∀j q,owner.getD j eH∣q↔owner[j]?∣fx q:=λj q=>by
  rw[nY.getD_eq_getD_getElem?];cases owner[j]? with
  | none=>simp
  | some o=>simp
 let mem:∀j q,(j,q)∈live↔owner[j]?∣fx q:=λj q=>by
  rw[<-u,MX]
  constructor
  .rintro⟨G,ab,H⟩;let%[w,r|I]:=zz.mp H;cases I;show(gd j q).mp r
  .intro ho;let:j<owner.size:=by
    let%[d|_]:=vi.mp ho;show d
   show%[j,vu.mpr (by rw[L.size]at this;show this)|?_];rw[(gd j q).mpr ho];rfl
 let g:(live\1).Pairwise (·<·):=by
  rw[<-u,OV,dV.pairwise_filterMap];show WV (λ{a b} s x hx y J=>?_) dV.pairwise_lt_range;let%[_,_|rfl]:=zz.mp hx;let%[_,_|rfl]:=zz.mp J;show s
 let v:∀j q,(j,q)∈live->q<es.size:=λj q h=>by
  let%[h',r|_]:=L.own j q ((mem j q).mp h);let:=(Xl r).1
  lia
 let A:(live\2).Nodup:=by
  rw[X2,OV];show Xg (λ{a b} M C s f=>?_) (by rw[OV]at g;show g);let d:=(mem a.1 a.2).mp M;let N:=(mem b.1 b.2).mp C;rw[<-f]at N;let:=L.one _ _ _ d N
  lia
 let B:(live\2).Perm (o0 es.size):=qc A Rq λq=>by
  constructor
  .intro f;let%[%[j|w],d|rfl]:=Xo f;show vu.mpr (v j w d)
  .intro f;let%[j|O]:=L.all q (E▸vu.mp f);show Xp %[(j,q),(mem j q).mpr O|rfl]
 let fm:∀(l:dV hH),(∀q∈l,q<es.size)->l.filterMap (es[·]?)=l.map (λq=>es.getD q (0,M0)):=by
  intro l
  induction l with
  | nil=>intro _;rfl
  | cons q l ih=>
    intro f;let d:=f q Zm;let r:es[q]?∣es.getD q (0,M0):=by simp[SA,d]
    rw[Y1,r,Yq,ih λy J=>f y (Zk _ J)]
 let Q:((live\2).toArray.filterMap (es[·]?)).toList=(live\2).map (λq=>es.getD q (0,M0)):=by
  rw[nY.toList_filterMap,Uk];show fm _ λq f=>by
   let%[%[j|w],d|rfl]:=Xo f;show v j w d
 let er:es.toList=(o0 es.size).map (λq=>es.getD q (0,M0)):=by
  apply Qk
  .simp
  .intro i d N;let d:=↑d
   simp[SA,d]
 show%[%[%[k|hp],C,ρ,?_,λj O=>?_,?_|λi j h x hi z=>?_]|?_]
 .intro a b M T s;let:=Px.mp g a b (M) (T) s;simpa using this
 .let%[%[G|q],d|rfl]:=Xo O;let:=(vi.mp ((mem G q).mp d)).1;rw[L.size]at this
  lia
 .rw[<-Zb (xs:=nY.filterMap _ _),Q];simp
 .let hi:(live\1)[i]?∣j:=↑hi
  let z:((live\2).toArray.filterMap (es[·]?)).toList[i]?∣(h,x):=↑z
  rw[Q,Ys,Zl]at z;rw[Zl]at hi;cases U:live[i]? with
  | none=>rw[U]at hi;cases hi
  | some p=>
    let%[G|q]:=p;rw[U]at hi z;cases hi;let hm:=Z8 U;let%[h',r,n,n1|n2]:=L.own _ q ((mem _ q).mp hm);let f:=v _ q hm;let eh:h'=h:=by
     let I:(es\1).toList[q]?∣(es[q]).1:=by simp[f]
     rw[I]at r;let e3:es.getD q (0,M0)=es[q]:=by simp[SA,f]
     simp only[Function.comp,kf.map_some,e3,kf.some.injEq]at z;rw[z]at r;show(Za r).symm
    subst eh;let wm:∀n,way {mask:=t.mask,place:=(live\1).toArray,dummies:= #[],finger:=finger,led:=led,moves:=moves,plain:=plain} h' n=way t h' n:=λn=>tT (t':=t) (by rfl) h' n
    show%[n,by rw[wm];show n1|λm Y=>?_];rw[wm];let%[w|H]:=(iQ (by rw[L.size];let:=vF t h' m;lia)).mp (n2 m Y);show Xp %[(way t h' m,w),(mem _ _).mpr H|rfl]
 .rw[Q,er];show B.map _
section
variable{prog:nz}{w:vk}{K:Type}[Mw K]{knd:KeyKind prog w K}{A:vj}{E:ZD}{s:kj}
abbrev EL(knd:KeyKind prog w K)(h:v0)(es:nY (nX×hV)):Prop:=∀(i:hH) e,es[i]?∣e->∃r k,e=(wy knd k,kG r)/\Mj knd h k r
def n6(g:Mj knd s.heap ks r)(h:Q fS s):↥A (Si 8 (.ref r)) Q E s:=by
 let l:=g.typeIs;let%[o,c,n,m,_,p|hi]:=g;unfold Si;show Z2 (QR l (Z2 (Z3 (Z2 (Ms m p (Z2 ?_))))));rw[<-QZ];show WB _ (λrest r s'=>r=(eH,())/\s'=s/\∃i,ItemsAre knd i rest) _ ?_ ?_ _ _ %[rfl,rfl,ks|hi]
 .intro x rest r s' %[rfl,rfl,i|d];cases d with
  | @cons k1 v f j q b=>
    let u:=knd.byValue _ _ q;let e:Si 7 x=pure fS:=by
     cases x with
     | ref a=>simp[carriedByValue]at u
     | _=>first|rfl|lia|lia
    show Z2 ?_;rw[e];show Z3 (Z3 %[rfl,rfl,f|b])
 .intro r s' %[rfl,rfl|_];show Z3 h
def zO(d:Mj knd s.heap ks r):∀(l:ZF),(∀y∈l,∃a c,y=kG a/\Mj knd s.heap c a)->∀{Q:pp->kj->Prop},Q fS s->↥A (searchCouldBeSeen (.ref r) l) Q E s:=by
 intro l g Q h;show Z2 (WB _ (λrest x s'=>x=(eH,())/\s'=s/\∀y∈rest,∃a c,y=kG a/\Mj knd s.heap c a) _ ?_ ?_ _ _ %[rfl,rfl|g])
 .intro y rest x s' %[rfl,rfl|e];let%[a,c,rfl|b]:=e y Zm;let f:=λy i=>e y (Zk _ i)
  dsimp only
  split
  .show Z3 %[rfl,rfl|f]
  .show Z2 (U6 d (Z2 (U6 b (Z2 (n6 d (Z2 (n6 b (Z3 %[rfl,rfl|f]))))))))
 .intro x s' %[rfl,rfl|_];show Z3 h
def vG(hu:A.units<O8)(ho:s.heap.get? a∣o)(hd:o.data= .set es ep t)(W:WF t es)(room:t.place.size<=t.mask)(ac:t.mask<=9000)
 (el:EL knd s.heap es) (hk:Mj knd s.heap k r)
 (h1:(∃(i:hH) (g:ij),es[i]?∣(wy knd k,kG g)/\Mj knd s.heap k g)->Q (.there eH) s)
 (h2:∀m,way t (wy knd k) m∉t.place.toList->(∀q,q<m->way t (wy knd k) q∈t.place.toList)->(∀(i:hH) g u,es[i]?∣(wy knd u,kG g)->Mj knd s.heap u g->u≠k)->Q (.free (way t (wy knd k) m) fS) s):
 ↥A (setSearch a (.ref r) (wy knd k) fI) Q E s:=by
 generalize hh:wy knd k=h at h1 h2
 let hf:t.fits es.size=fI:=by
  unfold fits fill;rw[W.dum];simp[W.size];show W.size▸room
 let%[M,m1,m2|m3]:=zK W room h;let me:t.slot (way t h M)= .empty:=by
  rcases lv W.rise W.dum (way t h M)with⟨i,e,_⟩|⟨_,e⟩
  .show m4 (P8.mpr (ON e)) m2
  .show e
 let ae:t.gaveWay=fS:=by
  let%[c|hc]:=W.pow;let hb:=W.big;let c0:c≠0:=λq=>by rw[q]at hc;lia
  let%[c'|rfl]:=hH.exists_eq_succ_of_ne_zero c0;rw[P6]at hc;unfold gaveWay;let:t.mask%2=1:=by lia
  simp[this]
 let N:∀(fuel n:hH) (st:kf Probe),st.getD (t.probeStart h)=stand t h n->n<=M->M<n+fuel->(∀j,j<n->∀(i:hH) g u,t.slot (way t h j)= .live i->es[i]?∣(wy knd u,kG g)->Mj knd s.heap u g->u≠k)->
  ↥A (N0 a (.ref r) h fI fuel st) Q E s:=by
  intro fuel
  induction fuel with
  | zero=>intro n st _ a1 a2;lia
  | succ fuel ih=>
    intro n st ag hn ax O;unfold N0;show Z2 (on ho hd hf ?_);dsimp only;rw[ae];simp only[Zz,N7];rw[ag]
    generalize ak:Uw t _ h (stand t h n)=pr
    let l:Qz t (λi=>((es[i]?)\1).getD 0) h (10*Rg t.mask) (stand t h n)=pr:=ak;let%[q,q1,q2,q3|q4]:=xi (t:=t) W.dum (hashAt:=λi=>((es[i]?)\1).getD 0) (h:=h) (10*Rg t.mask) n M hn ⋯ me;rcases q4 with⟨I,e2⟩|⟨i,I,e2,e3⟩
    .rw[e2]at l;subst l;let hq:q=M:=by
      rcases UU q2 with z|z
      .show z
      .let:=m3 q z;rcases lv W.rise W.dum (way t h q)with⟨i,_,T⟩|⟨z2,_⟩
       .rw[I]at T;cases T
       .show m4 this z2
     subst hq;dsimp only;show Z3 (h2 q m2 m3 λi g u p v B=>?_);subst B;rw[hh]at p;let hi:i<es.size:=(vi.mp p).1;let hp:t.place[i]?∣t.place[i]'(W.size▸hi):=by simp
     let%[U,c1|c2]:=W.chain i _ h _ hp p;let C:=tR W.rise hp;let al:U<q:=by
      rcases RO U q with z|z|z
      .show z
      .rw[z,]at c1;rw[<-c1,me]at C;cases C
      .show m4 (c2 q z) m2
     rw[<-c1]at C;by_cases Y:U<n
     .show O U Y i g u C (hh▸p) v rfl
     .let%[G,T|ab]:=q3 U ⋯ al;rw[C]at T;cases T;rw[p]at ab;show ab rfl
    .rw[e3]at l;subst l;obtain⟨x0,p⟩:∃e,es[i]?∣e:=by
      let an:t.place[i]?∣way t h q:=by
       rcases lv W.rise W.dum (way t h q)with⟨G,p1,H⟩|⟨_,H⟩
       .rw[I]at H;cases H;show p1
       .rw[I]at H;cases H
      let:=(vi.mp an).1;show%[es[i]'(W.size▸this)|by simp[<-W.size,this]]
     let%[g,u,rfl|v]:=el i x0 p;let a0:q<M:=UT q2 λz=>by rw[z,me]at I;cases I
     let J:↥A (do
      let f<-Oq [kG g] (eqBool (kG g) (kG r))
      let x<-setState a
      if(fI&&f)=fI then pure (Qm eH)
      else match x.2.snd.sameMemory t.moves t.mask with
       | some same=>
         match if same=fI then x.2.snd.slot (way t h q)else Slot.empty with
         | Slot.live G=>
           match x.fst[G]? with
           | fx (_,y')=>do
             let b<-isSame y' (kG g)
             let d<-pure (if b=fI then fx G else eH)
             match d with
              | none=>do
                Ro "set.search.anew"
                N0 a (kG r) h fI fuel eH
              | some G=>
                if f=fI then pure (Qm (fx G))
                else N0 a (kG r) h fI fuel (fx (stand t h (q+1)))
           | none=>do
             let d<-pure eH
             match d with
              | none=>do
                Ro "set.search.anew"
                N0 a (kG r) h fI fuel eH
              | some G=>
                if f=fI then pure (Qm (fx G))
                else N0 a (kG r) h fI fuel (fx (stand t h (q+1)))
         | x=>do
           let d<-pure eH
           match d with
            | none=>do
              Ro "set.search.anew"
              N0 a (kG r) h fI fuel eH
            | some G=>
              if f=fI then pure (Qm (fx G))
              else N0 a (kG r) h fI fuel (fx (stand t h (q+1)))
       | x=>Pq "set.changed-during-lookup:is-the-new-block-at-the-old-address") Q E s:=by
      show Z2 (ra (wpAny_eqBool_tuple hu v hk (Z2 (on ho hd hf ?_))));dsimp only;by_cases B:u=k
      .subst B;rw[Zf rfl];show Z3 (h1 %[i,g,(by rw[p]at e2;show e2)▸p|v])
      .rw[Zh B];let sm:t.sameMemory t.moves t.mask∣fI:=by unfold sameMemory;rw[jg ∅]
       rw[sm];simp only[Pk];rw[I];dsimp only;rw[p];dsimp only;let same:isSame (kG g) (kG g)=pure fI:=by
        unfold isSame;simp
       show Z2 ?_;rw[same];show Z3 ?_;simp only[Pk];show Z2 (Z3 ?_);dsimp only;show ih (q+1) _ rfl ⋯ ⋯ λj hj i2 r2 k2 s2 g2 t2=>?_
       by_cases ao:j<n
       .show O j ao i2 r2 k2 s2 g2 t2
       .by_cases ap:j=q
        .subst ap;rw[I]at s2;cases s2;rw[p]at g2;let:g=r2:=by
          let:=Za g2;injection this with _ z
          injection z
         subst this;show(v.inj t2)▸B
        .let%[i3,p1|H]:=q3 j ⋯ ⋯;rw[s2]at p1;cases p1;rw[g2]at H;intro z;rw[z]at H;show H hh
     dsimp only;rw[p];dsimp only;by_cases L:(!t.led)=fI
     .rw[jg L];show Z2 (zO hk _ (λy hy=>?_) ?_)
      .let%[e,aq|rfl]:=Xo hy;let%[i2|hi2]:=nY.getElem?_of_mem ((nY.mem_filter.mp (P8.mp aq)).1);let%[r2,k2,rfl|as]:=el i2 e hi2;show%[r2,k2,ρ|as]
      .show J
     .rw[hX L];show J
 show N 100000 0 eH rfl (Xe _) (by unfold Rg at m1;lia) (λj hj=>m4 hj (X4 _))
end
structure IN (es:nY _) (t:lx) (led:pp):Prop where
 wf:WF t es
 roomy:t.place.size*5<t.mask*3
 small:t.mask<=7\/t.mask+1<=8*es.size
 led:t.led=led
 plain:es.size≠0->t.plain=fS
def IN.fits{es:nY _}{t:lx}{led:pp}(I:IN es t led):t.fits es.size=fI:=by
 unfold N3 fill;rw[I.wf.dum];let:=I.roomy;simp[I.wf.size];rw[<-I.wf.size]
 lia
def IN.fresh(finger moves:hH)(led:pp):IN #[] (O9 finger moves led) led:=
 %[%[%[3|rfl],Zi _,rfl,λa b c=>m4 c (by simp[O9]),λj d=>by simp[O9]at d,rfl|λi j h x hi=>by simp[O9]at hi],show 0*5<7*3 from !1,.inl (Zi _),rfl|λq=>m4 rfl q]
section
variable{prog:nz}{w:vk}{K:Type}[Mw K]{knd:KeyKind prog w K}{A:vj}{E:ZD}{s:kj}
def relay_w(d:s.heap.get? a∣o)(e:o.data= .set es z t)(i:t.fits es.size=fI)(B:es.size<=n)(hw:n<=4000)
 (h:∀c t',c.toList.Perm es.toList->WF t' c->t'.led=t.led->t'.plain=t.plain->n<=t'.mask->t'.mask+1<=2*n\/t'.mask<=7->Q () (s>>>s.heap.update a (NP c t'))):
 ↥A (Vk a n) Q E s:=by
 let%[k,j,f,lt|l]:=zN (n:=n) ⋯;let C:8<=2^k:=md (by simp:8<=2^3) (O7 ∅ j);let g:2^k<=2*n\/2^k=8:=by
  rcases l with q|q
  .show .inl q
  .show .inr (by rw[q])
 let m:2^k<=8000:=by rcases g with q|q<;> lia
 letI p:lx:={t with mask:=2^k-1}
 let%[t',b,r,G,u,v,H,W|P]:=laid_ok (t:=p) (k:=k) (by change 2^k-1+1=2^k;lia) (by change 7<=2^k-1;lia) es (by change es.size<=2^k-1;lia) t.finger _ t.led t.plain;let y:t.relaid (es\1) n∣(t',b):=by
  unfold relaid;rw[f];show r
 let sz:(b.filterMap (es[·]?)).size=es.size:=by rw[<-Zb,P.length_eq,Zb]
 show Z2 (on d e i ?_);dsimp only;rw[f,hX (by rw[PySem.sizeLine_eq];lia)];rw[y];show Z2 ?_;change oT _ A (if((b.filterMap _).size != es.size)=fI then _ else pure _) _ E s;rw[hX (by simp[sz])];show Z3 (NC d e (h _ t' P W u v ⋯ (by rcases g with q|q<;> lia)) (by rw[sz,PySem.sizeLine_eq];lia))
def EF(d:s.heap.get? a∣o)(e:o.data= .set es i t)(f:t.fits es.size=fI)(j:es.size<=1000)(m:es.size≠0)(c:t.plain=fS)
 (h:∀b t',b.toList.Perm es.toList->IN b t' t.led->t'.plain=fS->Q () (s>>>s.heap.update a (NP b t'))):
 ↥A (Vk a (grown es.size)) Q E s:=by
 let g:grown es.size=es.size*4:=by unfold grown;rw[hX ⋯]
 rw[g];show relay_w d e f ⋯ ⋯ λb t' P W l p n m2=>?_
 let sz:b.size=es.size:=by rw[<-Zb,P.length_eq,Zb]
 show h b t' P %[W,by rw[W.size,sz];lia,⋯,l|λ_=>p▸c] (p▸c)
def Cc{led:pp}(M:A.units<O8)(n:s.heap.get? a∣o)(l:o.data= .set es ep t)(I:IN es t led)(hn:es.size+1<=1000)
 (el:EL knd s.heap es) (B:Mj knd s.heap k r) (hv:∀(s':kj) (N:pp->kj->Prop),Mj knd s'.heap k r->N fS s'->↥A (S6 8 (.ref r)) N E s')
 (h1:(∃(i:hH) (p:ij),es[i]?∣(wy knd k,kG p)/\Mj knd s.heap k p)->Q fS {s with toks:=s.toks+(~~~k+1)})
 (O:(∀(i:hH) (p:ij) (C:dV K),es[i]?∣(wy knd C,kG p)->Mj knd s.heap C p->C≠k)->∀f t' G h',h'.get? a=fx {o with data:= .set f G t'}->tI a s.heap h'->f.toList.Perm (es.toList++[(wy knd k,kG r)])->IN f t' led->Q fI {s with heap:=h',toks:=s.toks+(~~~k+1)}):
 ↥A (UJ a (.ref r)) Q E s:=by
 unfold UJ;show ra (Z2 (wpAny_pyHash_tuple M B ?_));unfold UI;show ra ?_;unfold setAddHashedIn;show Z2 (on (s:={s with toks:=s.toks+(~~~k+1)}) n l I.fits ?_);dsimp only;let ns:byScan (kG r) es=fS:=rfl;rw[ns];simp only[Zz,N7];let rm:=I.roomy;show Z2 (vG (s:={s with toks:=s.toks+(~~~k+1)}) M n l I.wf ⋯ (by rcases I.small with q|q<;> lia) el B (λq=>?_) λm T m2 U=>?_)
 .show Z3 (h1 q)
 .dsimp only;show Z2 (on (s:={s with toks:=s.toks+(~~~k+1)}) n l I.fits ?_);dsimp only;let u:=I.wf;let%[p1,Y,p3,p4,p5,p6|Wp]:=u.put (x:=kG r) T m2 t.led fS;let%[_,_,_,_,_,_|Wq]:=u.put (x:=kG r) T m2 (t.put (way t (wy knd k) m)).1.led (t.put (way t (wy knd k) m)).1.plain;let v:(t.put (way t (wy knd k) m)).2<=es.size:=by
   rw[p1,<-u.size];show(lq u.rise _).1
  let d:(M6 es (t.put (way t (wy knd k) m)).2 (wy knd k,kG r)).size=es.size+1:=jM _ _ _ v;let g:(M6 es (t.put (way t (wy knd k) m)).2 (wy knd k,kG r)).toList.Perm (es.toList++[(wy knd k,kG r)]):=by
   rw[lT _ _ _ v];let q:=Xa (t.put (way t (wy knd k) m)).2 es.toList;show PU dV.perm_middle ?_;rw[q];show Qu (l₁:=[_])
  generalize ab:M6 es _ _=c at Wp Wq d g
  let e:∀b:lx,WF b c->b.mask=t.mask->b.place.size=t.place.size+1->b.led=led->b.plain=fS->
   ↥A (do Vi a c b;if(!false&&b.tooFull)=fI then do Vk a (grown (es.size+1));pure fI else pure fI) Q E {s with toks:=s.toks+(~~~k+1)}:=λb y e1 e2 e3 e4=>by
   let H:=by
    let q:=Mo (NP c b) n (by rw[RC c b l];rfl);rwa[RC c b l]at q
   let b1:=tI.update s.heap a (NP c b);show Z2 (NC n l ?_ (d▸md hn (!1)));let J:b.tooFull=fI↔b.mask*3<=b.place.size*5:=by
    unfold tooFull fill;rw[y.dum];simp
   by_cases hf:b.tooFull=fI
   .rw[jg (by simp[hf])];let z:b.fits c.size=fI:=by
     unfold N3 fill;rw[y.dum];simp[y.size];show y.size▸(by rw[e1,e2];let:=u.big;lia)
    rw[<-d];show Z2 (EF H rfl z ⋯ ⋯ e4 λh L P3 I3 _=>Z3 ?_);let g2:=by
     let q:=Mo (NP h L) H (by rfl);rwa[RC h L rfl]at q
    show O U h L _ _ g2 (b1.trans (tI.update _ a _)) (P3.trans g) (by rw[e3]at I3;show I3)
   .rw[hX (by simp[hf])];show Z3 (O U c b _ _ H b1 g %[y,⋯,?_,e3|λ_=>e4]);rw[e1,d];rcases I.small with q|q
    .show .inl q
    .show .inr ⋯
  by_cases j:(t.put (way t (wy knd k) m)).1.plain=fI
  .rw[jg j];show Z2 (hv _ _ B (e _ Wp Y p3 I.led rfl))
  .rw[hX j];show e _ Wq Y p3 (p4.trans I.led) ↑j
end
end _ST
namespace _LL
open PySem PySem.Spec PyProof.Rows _ST
abbrev jc{a:Type}[Mw a](ps:dV (ij×a))(p:ij×a):dV (ij×a):=if p.2∈ps\2 then ps else ps++[p]
abbrev bI{a:Type}[Mw a](l:dV (ij×a)):dV (ij×a):=l.foldl jc []
section
variable{κ:Type}[Mw κ]
def EG{ps:dV _}{p q:ij×κ}(h:q∈jc ps p):q∈ps\/q=p:=by
 unfold jc at h
 split at h
 .show .inl h
 simp_all
def Cd{ps:dV (ij×κ)}{p:ij×κ}{k:κ}:k∈(jc ps p)\2↔k∈ps\2\/k=p.2:=by
 unfold jc;by_cases h:p.2∈ps\2
 .rw[jg h];show%[.inl|λq=>q.elim id λe=>e▸h]
 .rw[hX h,Zd,Yt];simp
def zP{ps:dV (ij×κ)}{p:ij×κ}(h:(ps\2).Nodup):((jc ps p)\2).Nodup:=by
 unfold jc
 split
 .show h
 .rename_i a
  rw[Zd];show oY h a
def AG:∀(l ps:dV (ij×κ)),(ps\2).Nodup->((l.foldl jc ps)\2).Nodup/\(∀k,k∈(l.foldl jc ps)\2↔k∈ps\2\/k∈l\2)/\(∀q∈l.foldl jc ps,q∈ps\/q∈l)
 |[],ps,h=>%[h,λk=>by simp|λq a=> .inl a]
 | p::l,ps,h=>by
   let%[b,c|d]:=AG l _ (zP h);rw[Y8];show%[b,λk=>?_|λq a=>?_]
   .rw[c,Cd,Yq,Yw]
    grind
   .rcases d q a with z|z
    .rcases EG z with z|z
     .show .inl z
     .show .inr (z▸Zm)
    .show .inr (Zk _ z)
def eW(l:dV (ij×κ)):((bI l)\2).Nodup:=(AG l [] X3).1
def jd(l:dV (ij×κ))(k:κ):k∈(bI l)\2↔k∈l\2:=by
 let:=(AG l [] X3).2.1 k;simpa [bI]using this
def bA(l:dV (ij×κ)):∀q∈bI l,q∈l:=λq a=>by
 rcases(AG l [] X3).2.2 q a with z|z
 .cases z
 .show z
def vH{l:dV (ij×κ)}{i:hH}{p:ij×κ}(h:l[i]?∣p):bI (l.take (i+1))=jc (bI (l.take i)) p:=by
 unfold bI;rw[X9,h,UW];rfl
end
section
variable{prog:nz}{w:vk}{κ:Type}[Mw κ]{knd:PySem.KeyKind prog w κ}{A:vj}{E:ZD}{s:kj}{a:ij}
abbrev vJ(w:vk)(knd:PySem.KeyKind prog w κ)(a:ij)(ps:dV (ij×dV κ))(h:v0):Prop:=
 ∃o es b t,h.get? a∣o/\o.ExactSet/\o.data= .set es b t/\IN es t (!a8 w)/\es.toList.Perm (ps.map λp=>(wy knd p.2,kG p.1))
def vJ.keep(S:vJ w knd a ps h)(k:∀o,h.get? a∣o->h'.get? a∣o):vJ w knd a ps h':=by
 let%[o,es,b,t,c|r]:=S;show%[o,es,b,t,k o c|r]
def AH(x:Mj knd h k r)(q:∀o,h.get? r∣o->h'.get? r∣o):Mj knd h' k r:=by
 let%[o,b,n,c|z]:=x;show%[o,b,n,q o c|z]
def EH(u:A.units<O8)(v:vJ w knd a ps s.heap)(tk:∀q∈ps,Mj knd s.heap q.2 q.1)(y:Mj knd s.heap p.2 p.1)(room: ~~~ps+1<=1000)
 (B:∀(s':kj) (l:pp->kj->Prop),Mj knd s'.heap p.2 p.1->l fS s'->↥A (S6 8 (.ref p.1)) l E s')
 (m:∀h' b tk,tI a s.heap h'->vJ w knd a (jc ps p) h'->s.toks<=tk->Q b {s with heap:=h',toks:=tk}):↥A (UJ a (.ref p.1)) Q E s:=by
 let%[o,es,C,t,n,f,r,I|P]:=v;let hn:=by
  let:=P.length_eq;rw[Z6,Zb]at this;show this
 let mem:∀i e,es[i]?∣e->∃q∈ps,e=(wy knd q.2,kG q.1):=λi e g=>by
  let:=P8.mpr (ON g);let%[q,c|rfl]:=Xo (P.mem_iff.mp this);show%[q,c|ρ]
 let G:EL knd s.heap es:=λi e g=>by
  let%[q,c|rfl]:=mem i e g;show%[q.1,q.2,ρ|tk q c]
 show Cc u n r I ⋯ G y B (λ⟨i,H,e,J⟩=>?_) λd h t' j h' L M N O=>?_
 .let%[q,c|T]:=mem i _ e;let U:H=q.1:=by injection T with _ z;injection z
  subst U;show m s.heap fS _ (tI.refl a s.heap) ?_ (Pz _ _);unfold jc;rw[jg (Xp %[q,c|(J.inj (tk q c)).symm])];show%[o,es,C,t,n,f,r,I|P]
 .show m h' fI _ M ?_ (Pz _ _);unfold jc;rw[hX]
  .show%[_,h,j,t',L,f,ρ,O|N.trans ?_];rw[Zd];show P.append_right _
  .intro Y;let%[q,c|e]:=Xo Y;let:=P.mem_iff.mpr (Xp %[q,c|rfl]);let%[i|hi]:=Xf this;show d i q.1 q.2 ↑hi (tk q c) e
end
section
variable{prog:nz}{w:vk}{κ:Type}[Mw κ]{knd:PySem.KeyKind prog w κ}{A:vj}{E:ZD}{s:kj}
def rS(y:A.handled=eH)(Y:A.units+16<O8)(z:s.heap.IsList l a)(hi:a.toList=ps.map λp=>kG p.1)(tk:∀p∈ps,Mj knd s.heap p.2 p.1)(U:dV (dV κ))(hU: ~~~U<=999)(g:∀p∈ps,p.2∈U)
 (C:∀p∈ps,∀(B:vj) (s':kj) (d:pp->kj->Prop) (G:ZD),Mj knd s'.heap p.2 p.1->d fS s'->↥B (S6 8 (.ref p.1)) d G s')
 (H:∀(h':v0) (tk:hH),vJ w knd ⇑s (bI ps) h'->(∀b o,s.heap.get? b∣o->h'.get? b∣o)->Q (.ref ⇑s) {s with heap:=h',toks:=tk}):
 ↥A (call (.type "set") [.ref l]) Q E s:=by
 let c:a.size= ~~~ps:=by rw[<-Zb,hi,Z6]
 show nW (T:=λi h=>vJ w knd ⇑s (bI (ps.take i)) h) y z (λh e=>%[_,#[],0,_,e,%[rfl,rfl|rfl],rfl,IN.fresh 0 0 _|M3 _]) (λi h h' S k=>S.keep k) (λi v s1 Q E e I r k=>?_) λh' t S k=>H h' t (by rwa[c,Zn (Zi _)]at S) k
 rw[<-Yc,hi,Zl]at e;let%[p,u|rfl]:=zz.mp e;let sub:∀q∈bI (ps.take i),q∈ps:=λq j=>Yx (bA _ q j)
 let f:=Z8 u;show EH (p:=p) (by simp only[vj.in1];lia) I (λq j=>AH (tk q (sub q j)) λo=>r _ o) (AH (tk p f) λo=>r _ o) ?_ (λs' d=>C p f _ s' d _) λJ b L M n N=>k J b L M (by rw[vH u];show n) N
 let q:=nodup_sub (eW (ps.take i)) (m:=U) λk O=>by
  let%[p,f|rfl]:=Xo ((jd _ k).mp O);show g p (Yx f)
 rw[Z6]at q
 lia
end
open PySem PySem.Spec PyProof.Rows
section
variable{prog:nz}{w:vk}{A:vj}{s:kj}
def rT{a:ij}{vs:ZF}{n:hH}{kd:TZ}{P:Fin->kj->Prop}{E:ZD}(q:s.heap.get? a∣NB "list" vs.toArray n)(u: ~~~vs<=100000)
 (f:∀j:v0,(∀b o,b≠a->s.heap.get? b∣o->j.get? b∣o)->2<= ~~~vs->∀Q:TZ->kj->Prop,Q kd (s>>>j)->↥A (keyKind' vs.toArray) Q E (s>>>j))
 (G:∀j:v0,(∀b o,b≠a->s.heap.get? b∣o->j.get? b∣o)->_SB.Cmp prog w A (λs'=>s'=(s>>>j)) kd λx=>x.1∈vs)
 (h:∀out:ZJ,out.toList.Perm vs->P (.done (.ret .none)) (s>>>QV s.heap a vs out)):
 ↥A (nI.«list.sort» %[[.ref a]|[]]) P E s:=by
 rw[list_sort_plain];let z:a<⇑s:=Zu q;let g: ~~~vs<=ku:=md u (!1);show Z2 (listItems_at q rfl ?_);show Z2 (Pj q rfl ?_ (g));obtain⟨y,l⟩:∃y,(s.heap.update a (MR λ_=> #[])).get? a∣(NB "list" #[] y):=%[_|get?_update_seq q (λ_=> #[])]
 show Z2 (Vl l rfl ?_);show Z2 (Re ?_ (g));show Z2 (Ue ?_);show ra ?_;let keep:∀b o,b≠a->s.heap.get? b∣o->(((s.heap.update a (MR λ_=> #[])).push (NB "tuple" vs.toArray 0)).push (NB "list" #[] 0)).get? b∣o:=λb o H e=>
  Z7 _ (Z7 _ ((J6 _ _ (zr H)).trans e))
 let d:(((s.heap.update a (MR λ_=> #[])).push (NB "tuple" vs.toArray 0)).push (NB "list" #[] 0)).get? a∣(NB "list" #[] y):=by
  rw[U0 _ _ _ (by rw[size_push',Vb];show Zs (Yn z)),U0 _ _ _ (by rw[Vb];show Zs z)];show l
 let f:=f _ keep;change ↥A _ P E {s with heap:=((s.heap.update a (MR λ_=> #[])).push (NB "tuple" vs.toArray 0)).push (NB "list" #[] 0)};dsimp only;let I:vs.toArray.size= ~~~vs:=by simp
 let r:(vs.toArray.zip vs.toArray).toList=vs.map λv=>(v,v):=by
  rw[nY.toList_zip,Uk];apply Qk
  .simp
  .intro i N m;simp
 let fin:∀c:mu,(q7 c).toList.Perm (vs.map λv=>(v,v))->P (.done (.ret .none)) (s>>>(QV s.heap a vs ((q7 c)\2))):=λc p=>h _ (by
  let:=p\2;rwa[Ys,show((λx:Nk=>x.2) ∘ λv:hV=>(v,v))=id from rfl,WU,<-nY.toList_map]at this)
 by_cases m:vs.toArray.size<2
 .rw[jg m,jg m];show Z2 (Z3 ?_);rw[L1.run_pure];show Z2 (Z3 ?_);dsimp only;show Z2 (Vl d rfl (Z2 (Pj d rfl ?_ (hsz2:=by rw[Xw];change(pairsOf vs).size<=_;rw[pairsOf_size,Mt];omega))));simp only[Wm,Zz,N7];show Z3 (fin _ (by rw[r]))
 .rw[hX m,hX m];show Z2 (f (by omega) _ ?_);show Z2 (J5 (_SB.sc_sortMany (D:=λx=>x.1∈vs) (st:=T7 kd (vs.toArray.zip vs.toArray) #[] 7 eH) (G _ keep) (λx B=>?_) ?_ rfl rfl
   (Q:=λ_ c=>(q7 c).toList.Perm (vs.map λv=>(v,v))/\NF c=eH) (λc J L=>%[?_|L]) _ rfl) ?_ λ_ _ e=>e.elim)
  .rw[r]at B;let%[v,M|rfl]:=Xo B;show M
  .rw[<-Zb,r,Z6];omega
  .rwa[r]at J
  .rintro⟨⟨⟩,c⟩ s' ⟨rfl,p,C⟩;dsimp only at p C ⊢;show Z2 (Vl d rfl (Z2 (Pj d rfl ?_ (hsz2:=?_))))
   .rw[C];simp only[Wm,Zz,N7];show Z3 (fin c p)
   .rw[Xw,<-Zb,p.length_eq,Z6];show hH.le_succ_of_le g
nonrec abbrev Kp(s a:kj):Prop:=∀b o,s.heap.get? b∣o->a.heap.get? b∣o
def tV{S:ij}{G:ZF->Prop}{O:ZF->ZJ->Prop}{Q:ZD}{E:ZD}(d:∀(i:ZD) (R:ZF->kj->Prop),(∀c us,G us->Kp s c->c.gens=s.gens->c.os=s.os->R us c)->↥A.in1 (Q0 (.ref S)) R i s)(few:∀us,G us-> ~~~us<=1000)
 (r:∀(f:kj) (u:vj) (us:ZF) (a:ij) (P:Fin->kj->Prop) (i:ZD),G us->f.heap.get? a∣NB "list" us.toArray 0->(∀b o,s.heap.get? b∣o->f.heap.get? b∣o/\b≠a)->(∀out,O us out->P (.done (.ret .none)) (f>>>QV f.heap a us out))->↥u (nI.«list.sort» %[[.ref a]|[]]) P i f)
 (v:∀(c s':kj) (l:ij) (us:ZF) (out:ZJ) (n:hH),G us->O us out->Kp s c->c.gens=s.gens->c.os=s.os->Kp c s'->s'.gens=c.gens->s'.os=c.os->⇑c<=l->s'.heap.get? l=fx {cls:= .type "list",data:= .seq out n}->Q (.ref l) s'):
 ↥A (call (.builtin "sorted") [.ref S]) Q E s:=by
 show Calls.call_function_entry kind_sorted plain_sorted entry_sorted (args_sorted1 _) ?_;unfold nI.«sorted»;show Z2 (m:=checkCount "sorted" 1 1 _) (Z3 ?_);show Z2 (d _ _ λc us g k1 y z=>?_);show Z2 (Ue ?_ (by let:=few us g;rw[Mt];lia));let j:(c.heap.push (NB "list" us.toArray 0)).get? ⇑c∣NB "list" us.toArray 0:=Zj _ rfl;show Z2 (ra (My slot_list_sort %[_,j|rfl] entry_list_sort (r (c>>>c.heap.push (NB "list" us.toArray 0)) _ us _ _ _ g j (λb o e=>%[Z7 _ (k1 b o e)|Zs (Zu (k1 b o e))]) λout q=>%[_,rfl|?_]) (args_list_sort _)));obtain⟨n,B⟩:∃n,(QV (c.heap.push (NB "list" us.toArray 0)) ⇑c us out).get? ⇑c∣NB "list" out n:=sortedHeap_at j;show Z3 %[_,rfl|v c _ ⇑c us out n g q k1 y z (λb C p=>?_) rfl rfl (Zi _) B];let h:=Zu p;change(QV _ _ _ _).get? b=_;rw[sortedHeap_old (Zs h) (by rw[Zq];show Yn h)];show Z7 _ p
def xq{G:ZF->Prop}{kd:TZ}(few:∀us,G us-> ~~~us<=1000)
 (j:∀us (c:kj) (d:vj) (l:ZD) (Q:TZ->kj->Prop),G us->2<= ~~~us->Kp s c->Q kd c->↥d (keyKind' us.toArray) Q l c)
 (n:∀us x y (c:kj) (d:vj) (Q:pp->kj->Prop),G us->x∈us->y∈us->Kp s c->(∀b,Q b c)->↥d (keyLt' kd x y) Q (λ_ _=>G2) c)
 (f:kj) (d:vj) (us:ZF) (a:ij) (P:Fin->kj->Prop) (l:ZD) (g:G us) (p:f.heap.get? a∣NB "list" us.toArray 0) (i:∀b o,s.heap.get? b∣o->f.heap.get? b∣o/\b≠a) (h:∀out:ZJ,out.toList.Perm us->P (.done (.ret .none)) (f>>>QV f.heap a us out)):↥d (nI.«list.sort» %[[.ref a]|[]]) P l f:=
 rT p (by let:=few us g;lia) (λq m r u v=>j us _ _ _ u g r (λb o e=>m b o (i b o e).2 (i b o e).1) v) (λq m x y s' z B e=>by
  subst e;show n us _ _ _ _ _ g z B (λb o e=>m b o (i b o e).2 (i b o e).1) λ_=>rfl) h
end
abbrev aS(x y:iv):pp:=decide (x.cps.toList<y.cps.toList)
def dN(x:iv):aS x x=fS:=Zh (dV.lt_irrefl _)
def Kf{x y:iv}(h:x.cps.toList=y.cps.toList):x=y:=by
 obtain⟨⟨l⟩⟩:=x
 simp_all
def d8{x y z:iv}(a:aS x y=fI)(b:aS y z=fI):aS x z=fI:=Zf (dV.lt_trans (Zo a) (Zo b))
def fT{x y:iv}(h:aS x y=fS)(a:x≠y):aS y x=fI:=by
 show Zf (Nn λb=>a (Kf (dV.le_antisymm b (RZ h))))
def tW:∀(p:iv) (l:ZB),risingS p l=fI->(p::l).Pairwise (λa b=>aS b a=fS)
 | p,[],_=>Ti _ _
 | p,x::r,h=>by
   let h:(!ltCps x.cps.toList p.cps.toList&&risingS x r)=fI:=h;rw[Zv,U1,ltCps_eq]at h;let d:=tW x r h.2;show Ux.mpr %[λy c=>?_|d];rcases Yw.mp c with rfl|c
   .show h.1
   .show Zh (T9.mpr (dV.le_trans (T9.mp (RZ h.1)) (T9.mp (RZ (dV.rel_of_pairwise_cons d c)))))
def Ce:∀(l:ZB),sortedS l=fI->l.Pairwise (λa b=>aS b a=fS)
 |[],_=>Qq
 | p::l,h=>tW p l h
section
variable{prog:nz}{w:vk}{A:vj}{s:kj}{E:ZD}
nonrec abbrev Kg(prog:nz)(w:vk)(h:v0)(zs:ZB)(r:ij):Prop:=Mj (aX prog w) h (zs.map hY) r
def nh:∀{zs:ZB} {vs:ZF},ItemsAre (aX prog w) (zs.map hY) vs->MF vs zs
 |[],_,h=>by cases h;show .nil
 | z::zs,_,h=>by
   cases h with
   | cons a d=>
     let a:kH (hY z) _=fI:=a;rcases bh a with⟨i,t,b,c⟩|⟨y,t,b,c⟩
     .cases b
     .cases b;subst c;show .cons z t (nh d)
inductive lU:ZF->ZF->Prop where
 | nl (us:ZF):lU [] us
 | nr (us:ZF):lU us []
 | st (x y:iv) (t u:Tok) {vs us:ZF}:lU vs us->lU (.str x t::vs) (.str y u::us)
 | it (x y:nX) (t u:Tok) {vs us:ZF}:lU vs us->lU (.int x t::vs) (.int y u::us)
def tX:∀{x y:ZB} {vs us:ZF},MF vs x->MF us y->lU vs us
 |[],_,_,_,.nil,_=> .nl _
 | _::_,[],_,_,_,.nil=> .nr _
 | _::_,_::_,_,_,.cons _ t h,.cons _ u k=> .st _ _ t u (tX h k)
def Lu{b fin:pp}{Q:pp->kj->Prop}(h:∀b,Q b s):∀{vs us:ZF} (i:hH),lU vs us->PySem.W.KatLex prog w A b fin Q (vs.zip us) i s:=by
 intro vs us i k
 induction k generalizing i with
 | nl=>show h fin
 | nr vs=>rw[dV.zip_nil_right];show h fin
 | st x y t u k a=>
   show kat_cons (eqBool_str (kat_go (λ_=>kat_yes (a _)) λ_=>kat_no ?_));cases b&&i==0 with
   | true=>show oneLt_str (h _)
   | false=>show kat_one _ _ (lt_str (h _))
 | it x y t u k a=>
   show kat_cons (WE (kat_go (λ_=>kat_yes (a _)) λ_=>kat_no ?_));cases b&&i==0 with
   | true=>show oneLt_int (h _)
   | false=>show kat_one _ _ (lt_int (h _))
end
def xt [Mw d][Mw i](g:d->i)(j:∀a b,g a=g b->a=b)(l:dV (ij×d)):bI (l.map λp=>(p.1,g p.2))=(bI l).map λp=>(p.1,g p.2):=by
 let m:∀(l ps:dV _),(l.map λp=>(p.1,g p.2)).foldl jc (ps.map λp=>(p.1,g p.2))=(l.foldl jc ps).map λp=>(p.1,g p.2):=by
  intro l
  induction l with
  | nil=>intro ps;rfl
  | cons p l n=>
    intro ps;rw[Yq,Y8,Y8];let e:jc (ps.map λp=>(p.1,g p.2)) (p.1,g p.2)=(jc ps p).map λp=>(p.1,g p.2):=by
     unfold jc;let f:(g p.2∈(ps.map λp=>(p.1,g p.2))\2)↔p.2∈ps\2:=by
      rw[Ys]
      constructor
      .intro h;let%[q,c|e]:=Xo h;show Xp %[q,c|j _ _ e]
      .intro h;let%[q,c|e]:=Xo h;show Xp %[q,c|by change g q.2=g p.2;rw[e]]
     by_cases h:p.2∈ps\2
     .rw[jg h,jg (f.mpr h)]
     .rw[hX h,hX (λz=>h (f.mp z)),Zd];rfl
    rw[e];show n _
 show m l []
noncomputable abbrev Lv(p:ij×ZB):ij×dV Key:=(p.1,p.2.map hY)
def vK:∀a b:ZB,a.map (hY:iv->Key)=b.map hY->a=b
 |[],[],_=>rfl
 |[],_::_,h=>by cases h
 | _::_,[],h=>by cases h
 | x::xs,y::ys,h=>by
   injection h with c d
   injection c with e
   rw[e,vK xs ys d]
section
#where
variable{S:ij}
def qd:∀{vs:ZF} {zs:ZB},MF vs zs->ItemsAre (aX prog w) (zs.map hY) vs
 | _,_,.nil=> .nil
 | _,_,.cons x t h=> .cons (eM x t) (qd h)
def G0(c:zs≠[])(b:Kg prog w s.heap zs r)(h:Q fS s):↥A (S6 8 (.ref r)) Q E s:=by
 let d:=b.typeIs;let%[o,a,n,e,_,f|hi]:=b;show Z2 (Pt d F.slot_tuple_hash.lookup (Z2 (Ms e f (Z2 ?_))));rw[<-QZ]
 match zs,a.toList,(nh hi),c with
 | z::zs,_,.cons _ t g,_=>
   show Z2 (Z2 (Z3 (Z3 (Z3 (Z3 h)))))
def EI{j m:Type}{f:j->m}{x y:dV m}(h:x.Perm y):∀ps,y=ps.map f->∃ss:dV j,ss.Perm ps/\x=ss.map f:=by
 induction h with
 | nil=>show λps e=>%[[],!2|rfl]
 | cons a _ n=>
   intro ps e;cases ps with
   | nil=>cases e
   | cons p ps=>
     rw[Yq,Np]at e;let%[ss,c|d]:=n ps e.2;show%[p::ss,c.cons p|by rw[e.1,d];rfl]
 | swap a b l=>
   intro ps e
   match ps,e with
   | p::q::ps,e=>
     rw[Yq,Yq,Np,Np]at e;show%[q::p::ps,.swap p q ps|!2]
 | trans _ _ g i=>
   intro ps e;let%[ss,c|d]:=i ps e;let%[ts,o|r]:=g ss d;show%[ts,o.trans c|r]
def xu{M:Type}{S:ij}{ps:dV (ij×M)}{G:ZF->Prop}{T:Mv}{Q:ZD}(c:∀(N:ZD) (R:ZF->kj->Prop),(∀a vs,vs.Perm (ps.map λp=>kG p.1)->(∀b o,s.heap.get? b∣o->a.heap.get? b∣o)->a.gens=s.gens->a.os=s.os->R vs a)->↥A.in1 (Q0 (.ref S)) R N s)(few: ~~~ps<=1000)
 (tk:∀p∈ps,∃o its n,s.heap.get? p.1∣o/\o.cls= .type "tuple"/\o.data= .seq its n/\G its.toList) (g1:∀i,G i->∃f r,i=f::r/\Pu f=pure (.type T)) (gT:(MG T != MG "tuple")=fI) (g2:∀i j,G i->G j->lU i j)
 (hQ:∀(a s':kj) (l:ij) (ss:dV (ij×M)) (n:hH),ss.Perm ps->(∀b o,s.heap.get? b∣o->a.heap.get? b∣o)->a.gens=s.gens->a.os=s.os->(∀b o,a.heap.get? b∣o->s'.heap.get? b∣o)->s'.gens=a.gens->s'.os=a.os->⇑a<=l->s'.heap.get? l=fx {cls:= .type "list",data:= .seq (ss.map λp=>kG p.1).toArray n}->Q (.ref l) s'):
 ↥A (call (.builtin "sorted") [.ref S]) Q E s:=by
 let U:∀us:ZF,us.Perm (ps.map λp=>kG p.1)-> ~~~us<=1000:=λus h=>by rw[h.length_eq,Z6];show few
 show tV (O:=λus out=>out.toList.Perm us) c U (xq (kd:=tuples' fI) U (λus Y A1 N Q g h2 k q=>?_) λus x y Y A1 Q g hx hy k q=>?_) λa s' l us out n g o k1 a1 a2 k2 a3 a4 hl gl=>?_
 .let tups:∀l:ZF,(∀v∈l,v∈ps.map λp=>kG p.1)->∃fs:ZF,KatTups Y.heap l fs/\ ~~~fs= ~~~l/\∀f∈fs,Pu f=pure (.type T):=by
   intro l
   induction l with
   | nil=>show λ_=>%[[],KatTups.nil,rfl|λf z=>nomatch z]
   | cons v l ih=>
     intro m;let%[fs,B,f2|C]:=ih λu d=>m u (Zk _ d)
     let%[p,H|rfl]:=Xo (m v Zm);let%[o,its,n,I,c',J|L]:=tk p H;let%[f,r,e|ft]:=g1 _ L;show%[f::fs,KatTups.cons (k _ _ I) c' J (by rw[<-Yc,e];rfl) B,vb hH.succ f2|λu d=>?_];rcases Yw.mp d with rfl|d
     .show ft
     .show C u d
  let%[fs,B,f2|C]:=tups us λv m=>g.mem_iff.mp m
  show PySem.W.kat_kind (T:= .type T) B ⋯ (λf z=>Rz.of_pure (C f z)) ∅ (gT▸q)
 .let%[p,H|rfl]:=Xo (g.mem_iff.mp hx);let%[r,hr|rfl]:=Xo (g.mem_iff.mp hy);let%[o,its,n,I,c',J|L]:=tk p H;let%[o2,its2,n2,g3,c3,d3|i3]:=tk r hr;show PySem.W.kat_lt (k _ _ I) J (k _ _ g3) d3 (Lu q 0 (g2 _ _ L i3))
 .let%[ss,h1|e]:=EI (o.trans g) ps rfl;show hQ a s' l ss n h1 k1 a1 a2 k2 a3 a4 hl (by rw[<-e];show gl)
def lz(j:∀(r:ZD) (R:ZF->kj->Prop),(∀f vs,vs.Perm (ps.map λp=>kG p.1)->(∀b o,s.heap.get? b∣o->f.heap.get? b∣o)->f.gens=s.gens->f.os=s.os->R vs f)->↥A.in1 (Q0 (.ref S)) R r s)(tk:∀p∈ps,Kg prog w s.heap p.2 p.1)(u:∀p∈ps,~~~p.2=m)(v:m≠0)(few: ~~~ps<=1000)
 (y:∀(f s':kj) (l:ij) (ss:ZG) (n:hH),ss.Perm ps->(∀b o,s.heap.get? b∣o->f.heap.get? b∣o)->f.gens=s.gens->f.os=s.os->(∀b o,f.heap.get? b∣o->s'.heap.get? b∣o)->s'.gens=f.gens->s'.os=f.os->⇑f<=l->s'.heap.get? l=fx {cls:= .type "list",data:= .seq (ss.map λp=>kG p.1).toArray n}->Q (.ref l) s'):
 ↥A (call (.builtin "sorted") [.ref S]) Q E s:=
 xu (G:=λvs=>∃zs:ZB,MF vs zs/\zs≠[]) (T:="str") j few (λp q=>by
  let%[o,its,n,g,c,d|i]:=tk p q;show%[o,its,n,g,c,d,p.2,nh i|λe=>v (by rw[<-u p q,e];rfl)]) (λ_ ⟨zs,h,n⟩=>by
  cases h with
  | nil=>show m4 rfl n
  | cons z t h=>show%[_,_,ρ|ρ]) (!1) (λ_ _ ⟨_,a,_⟩ ⟨_,b,_⟩=>tX a b) y
end
section
variable{X:Cx}{K:ZA}
abbrev qf(P:nz)(w:vk)(a:ij)(ps:ZG):HO:= .ext (vJ w (aX P w) a (ps.map Lv))
abbrev aI(H:Hp)(ps:ZG):Prop:=∀p∈ps,p.2≠[]/\H p.1&&&p.2\3
def pd(I:Qc X ff f H s)(h:aI H ps):∀p∈ps,Kg X.prog X.w s.heap p.2 p.1:=λp a=>by
 let%[_,its,b,o,c,d,n|e]:=I.hok p.1 _ (h p a).2;show%[o,its.toArray,n,c,d,e|qd (i5 b)]
def vL:∀{ps:ZG} {us:ZF},aQ (ps\0) us->us=ps.map λp=>kG p.1
 |[],_,.nil=>rfl
 | _::_,_,.cons r t=>by
   cases r;rw[vL t];rfl
def pf:∀(ps:ZG),aQ (ps\0) (ps.map λp=>kG p.1)
 |[]=> .nil
 | _::ps=> .cons rfl (pf ps)
def Cf(v:X.calm=fI)(L:X.A.units+64<O8):cO X (.type "set") (λxs H Q=>dh xs λj=>asR j λp=>∃ps,Qb X.K H p (ps\0)/\aI H ps/\(∃U:dV _,~~~U<=999/\∀q∈ps,q.2∈U)/\∀l,H l=eH->Q (.ref l) (Qa H l (qf X.prog X.w l (bI ps)))):=by
 intro ff s M H xs us Q I r h;let%[j,rfl|d]:=ck h;let%[p,rfl|e]:=aU d;let%[ps,w,m,%[U,N|f]|q]:=e;let%[u,rfl|y]:=dA r;cases y;let%[its,A,pl|O]:=I.list w;let C:=vL A;show rS (knd:=aX X.prog X.w) (I.ok.hd v) ⋯ pl.isList (ps:=ps.map Lv) (!2) (λn a=>?_) (U.map λz=>z.map hY) (!2) (λn a=>?_) (λn a B s' T Y g i=>?_) λh' E S k=>?_
 .let%[b,c|rfl]:=Xo a;show(pd I m) b c
 .let%[b,c|rfl]:=Xo a;show Xp %[b.2,f b c|rfl]
 .let%[b,c|rfl]:=Xo a;show G0 (m b c).1 g i
 .rw[(xt _ vK ps)]at S;show%[.ref ⇑s,_,I.laid (o:=qf X.prog X.w ⇑s _) k (Zi _) %[S,?_|λh1 h2 G k1=>vJ.keep G k1],ρ|q _ I.fresh];let%[o,_,_,_,J|_]:=S;show%[o|J]
def vM(y:X.calm=fI):cO X (.builtin "sorted") (λxs H Q=>dh xs λj=>asR j λa=>∃ps,H a∣qf X.prog X.w a ps/\aI H ps/\∃m,(∀p∈ps,~~~p.2=m)/\m≠0/\ ~~~ps<=1000/\∀l (ss:dV _),H l=eH->ss.Perm ps->Q (.ref l) (Qa H l (.lst (ss\0)))):=by
 intro ff s T H xs us Q I r h;let%[j,rfl|c]:=ck h;let%[a,rfl|d]:=aU c;let%[ps,z,A,m,B,C,few|q]:=d;let%[u,rfl|E]:=dA r;cases E;let%[%[o,es,U,t,G,e,L,J|P],_|_]:=(I.hok a _ z)
 let Y:es.size= ~~~ps:=by
  let:=P.length_eq
  simp_all
 let pv:(es.toList\2).Perm (ps.map λp=>kG p.1):=by
  let:=P\2;rw[Ys,Ys]at this;show this
 show lz (λE1 R M=>lO (I.ok.hd y) G e L (by change es.size<4096;lia) J.fits J.plain J.led λv vs N k1 f i _=>M v vs (N.trans pv) k1 f i) (pd I A) B C few λv s' l ss n w k1 f i k g o b O=>?_
 let I:=I.keptS k1 f i;show%[.ref l,_,I.stoodS (o:= .lst _) (I.keptS k g o) b %[?_,ss.map _,n,pf ss|O],ρ|q l ss (I.hok.fresh b) w];rw[Z6,w.length_eq,Mt]
 lia
def EJ{P:nz}(h:X.K=K)(d:X.prog=P)(hw:X.w=w)(a:X.calm=fI)(b:bB k X.A):cG X (.type "set") (λxs H Q=>dh xs λc=>asR c λp=>∃ps,Qb K H p (ps\0)/\aI H ps/\(∃U:dV ZB,~~~U<=999/\∀q∈ps,q.2∈U)/\∀l,H l=eH->Q (.ref l) (Qa H l (qf P w l (bI ps)))):=by
 subst h;subst hw;show⟨Cf a b.units⟩
def tY{P:nz}(d:X.prog=P)(hw:X.w=w)(b:X.calm=fI):cG X (.builtin "sorted") (λxs H Q=>dh xs λc=>asR c λa=>∃ps,H a∣qf P w a ps/\aI H ps/\∃m,(∀p∈ps,~~~p.2=m)/\m≠0/\ ~~~ps<=1000/\∀(l:ij) (ss:ZG),H l=eH->ss.Perm ps->Q (.ref l) (Qa H l (.lst (ss\0)))):=by
 subst hw;show⟨vM b⟩
end
abbrev Cg(K:ZA)(a b:ij):It:=⟨λi H=>∃xs ys x y,Qb K H a xs/\Qb K H b ys/\xs[i]?∣x/\ys[i]?∣y,
 λi H v H'=>∃T x y,H T=eH/\v= .ref T/\H'=Qa H T (.tup [x,y])/\(∀xs,Qb K H a xs->xs[i]?∣x)/\(∀ys,Qb K H b ys->ys[i]?∣y),
 λi H=>∃xs ys,Qb K H a xs/\Qb K H b ys/\i<= ~~~xs/\i<= ~~~ys/\(i= ~~~xs\/i= ~~~ys)⟩
def Ch{P:nz}{K:ZA}(z TI TO i1 i2 l1 l2:ij)(D:ZipApart z TI TO i1 i2 l1 l2):
 rJ P w K (.Tuple elts kt tp) (Cg K l1 l2) [z,TI,TO,i1,i2] z (ZSt z TI TO i1 i2 (λi h=>h.IsListIter i1 l1 i) (λi h=>h.IsListIter i2 l2 i)) where
 mem:=by simp
 obj:=λi h st b hb=>by
  let%[hz,hTI,%[a,c|hTO],%[o1,e1,_|d1],o2,e2,_|d2]:=st
  grind
 keep:=λi h h' st k=>by
  let%[hz,hTI,%[a,c|hTO],%[o1,e1|r1],o2,e2|r2]:=st;show%[k z ∅ _ hz,k TI ∅ _ hTI,%[a,c|k TO ∅ _ hTO],%[o1,k i1 ∅ _ e1|r1],o2,k i2 ∅ _ e2|r2]
 item:=by
  intro X hP hw hK hc i ff s σ H E I hf st hg;subst hP hw hK;let%[hz,hTI,%[a,c|hTO],h1|h2]:=st;let%[xs,ys,x,y,hq1,hq2,hx|hy]:=hg;let%[its1,rv1,pl1|hz1]:=I.list hq1;let%[its2,rv2,pl2|hz2]:=I.list hq2;let%[u1,hu1|ru1]:=rv1.get hx;let%[u2,hu2|ru2]:=rv2.get hy;show wpAny_pyNext_zip_item D hz hTI hTO h1 h2 pl1.isList pl2.isList (x:=u1) (y:=u2) ↑hu1 ↑hu2 λh' a1 a2 a3 a4 a5 a6 hk=>%[_,rfl|T6 (s:=(s>>>h')) a1 λh'' hz'' sb=>?_]
  replace sb:tI z h' h'':=sb;let kk:∀b o,b∉[z,TI,TO,i1,i2]->s.heap.get? b∣o->h''.get? b∣o:=λb o hb e=>by
   simp only[Yw,X6,MN,OW]at hb;show(sb.2 b hb.1).trans (hk b o hb.1 hb.2.2.1 hb.2.2.2.1 hb.2.2.2.2 e)
  let turn1:Qc X ff σ H (s>>>h''):=I.moved hf kk;let Hn:H ⇑s=eH:=I.fresh;let I2:Qc X ff σ (Qa H ⇑s (.tup [x,y])) (s>>>h''):=
   I.stood turn1 (Zi _) %[by change 2<=ku;decide,[u1,u2],.cons ru1 (.cons ru2 .nil),_,((sb.2 _ (Yz (Zu hz))).trans a5),rfl,_|rfl]
  show%[.ref ⇑s,_,I2,ρ,%[_,x,y,Hn,ρ,ρ,λzs hzs=>(I.list_inj hzs hq1)▸hx|λzs hzs=>(I.list_inj hzs hq2)▸hy],%[hz'',(sb.2 _ D.TIz).trans (hk _ _ D.TIz D.TITO D.TIi1 D.TIi2 hTI),%[_,_|(sb.2 _ D.TOz).trans a2],?_|?_]|λb hb=>?_]
  .let%[o,e|r]:=a3;show%[o,(sb.2 _ D.i1z).trans e|r]
  .let%[o,e|r]:=a4;show%[o,(sb.2 _ D.i2z).trans e|r]
  .let:b<⇑s:=by
    simp only[Yw,X6,MN]at hb;let%[o1,q1|_]:=h1;let%[o2,q2|_]:=h2;rcases hb with rfl|rfl|rfl|rfl|rfl
    .show Zu hz
    .show Zu hTI
    .show Zu hTO
    .show Zu q1
    .show Zu q2
   rw[av (Zs this)];show(hf b hb).1
 done:=by
  intro X hP hw hK hc i ff s σ H E I hf st hg;subst hP hw hK;let%[hz,hTI,%[a,c|hTO],h1|h2]:=st;let%[xs,ys,hq1,hq2,g1,g2|g3]:=hg;let%[its1,rv1,pl1|hz1]:=I.list hq1;let%[its2,rv2,pl2|hz2]:=I.list hq2;let n1:= ~~~rv1;let n2:= ~~~rv2;show wpAny_pyNext_zip_end (I.ok.hd hc) D hz hTI hTO h1 h2 pl1.isList pl2.isList (by
   rcases g3 with q|q
   .show .inl (by simp;lia)
   .show .inr (by simp;lia)) λh' hk=>%[rfl|?_]
  let kk:∀b o,b∉[z,TI,TO,i1,i2]->s.heap.get? b∣o->h'.get? b∣o:=λb o hb e=>by
   simp only[Yw,X6,MN,OW]at hb;show hk b o hb.1 hb.2.2.1 hb.2.2.2.1 hb.2.2.2.2 e
  show I.moved hf kk
 self:=λ_ _ _ _ _ st h=>Qv st.1 h
abbrev Ia(K:ZA)(d:TA):TI:=λe H R=>d e H λvs c=>mZ vs λf x2=>asR f λa=>asR x2 λb=>(∃xs,Qb K c a xs)/\(∃ys,Qb K c b ys)/\R (Cg K a b) c
section
variable{X:Cx}{K:ZA}{pos:Pos}
def Ib(L:X.K=K){M p:Pos}{a b:wh}{B:TA}(N:Gl X "zip")(O:X.mg "zip"=eH)(Q:aV a=fS)(r:aV b=fS)(T:QA X [a,b] B):
 QI X (.Tuple C kt M) (.Call (.Name "zip" p) [a,b] [] pos) (Ia K B):=by
 subst L
 constructor
 intro ff s U H R I h;show Call_ (iX I N O boot_zip (MC (thP (T.h pos ff s U H _ I h) λus c vs Y g r1 q1=>?_) (aD Q) (by rw[aD r];rfl)));let%[x1,x2,rfl|d]:=jE q1;let%[u,rfl|f]:=aU d;let%[v,rfl|w]:=aU f;let%[%[xs|d],%[ys|f]|q]:=w;let%[u1,u2,rfl,e1|e2]:=lK r1;cases e1;cases e2;let%[E,ab,l|ac]:=g.list d;let%[its2,ae,m|ag]:=g.list f;show call_zip_2 l.isList m.isList λh1 G y z hi1 hi2 _ hk=>Qv G ?_
 let ne:∀i j,i≠j->⇑c+i≠⇑c+j:=λi j h e=>h (Q7 e)
 let na:∀i,u≠⇑c+i:=λi=>Zs (Zg (by let%[o,A|_]:=l.isList;show Zu A) (Pz _ _))
 let nb:∀i,v≠⇑c+i:=λi=>Zs (Zg (by let%[o,A|_]:=m.isList;show Zu A) (Pz _ _))
 show%[⇑c+4,[⇑c+4,⇑c+2,⇑c+3,⇑c+0,⇑c+1],_,Cg X.K u v,Y,ρ,(g.kept hk),
  Ch _ _ _ _ _ u v %[ne 2 4 (!1),ne 3 4 (!1),ne 0 4 (!1),ne 1 4 (!1),ne 2 3 (!1),ne 2 0 (!1),ne 2 1 (!1),ne 3 0 (!1),ne 3 1 (!1),ne 0 1 (!1),na 4,na 3,na 0,na 1,nb 4,nb 3,nb 0|nb 1],
  %[G,y,%[_,_|z],hi1|hi2],λb J=>?_|q]
 let n:⇑c<=b:=by
  simp only[Yw,X6,MN]at J;rcases J with rfl|rfl|rfl|rfl|rfl<;> show Pz _ _
 show g.fpOk n (g.hok.fresh n)
end
open PySem PySem.Spec PySem.Calls PyProof.Rows PyProof.V PySem.W
abbrev Raw(h:v0)(d:ij)(es:nY SZ)(a:hH):Prop:=∃o,h.get? d∣o/\o.ExactDict/\o.data= .dict es a
section
#where
variable{d it:ij}{es:nY SZ}{ep i:hH}
def Raw.ty(h:Raw s.heap d es ep):s.TypeIs (.ref d) "dict":=%[h.choose,h.choose_spec.1|h.choose_spec.2.1.1]
def Raw.lt(r:Raw h d es ep):d<h.objs.size:=Zu r.choose_spec.1
def Raw.up(r:Raw h d es ep)(e:∀o,h.get? d∣o->h'.get? d∣o):Raw h' d es ep:=%[r.choose,e _ r.choose_spec.1|r.choose_spec.2]
def EK(lo:(d==Nl)=fS)(r:Raw s.heap d es ep)
 (h:Q (.ref ⇑s) {s with heap:=s.heap.push {cls:= .type "dict_keyiterator",data:= .fields #[.ref d,.int 0 0,.int es.size 0,.int ep 0]}}):↥A (UL (.ref d)) Q E s:=by
 let ty:=r.ty;let%[o,g,_|a]:=r;show Sd ty V5 (My V5 ty F.entry_dict_iter (Z2 (Z2 (wpAny_notOrdered_dict ty (Z3 ?_)))) (F.args_dict_iter_1 _));change oT _ _ (R9 d>>= _) _ _ s;unfold R9;rw[hX (lo▸Zt)];show Z2 (Z3 (Z2 (Se g a (Z2 (Te g a (Z2 (ME (Z3 %[_,rfl,"dict_keyiterator",_,%[_,Zj _ rfl|rfl],Nf.lookup|?_]))))))));simpa [Mu]using h
def EM(k:s.heap.IsKeyIter it d i es.size ep)(r:Raw s.heap d es ep)(hi:i<es.size)
 (h:∀h',h'.IsKeyIter it d (i+1) es.size ep->tI it s.heap h'->Q (fx es[i].key) (s>>>h')):↥A (OT (.ref it)) Q E s:=by
 let%[o,b,f|a]:=id k;let%[od,c,_|e]:=r;unfold OT;show Z2 (Nr (Nh (name:=!"__next__") k.typeIs Nf (My Nf k.typeIs SH ?_ (Sv _))));show Z2 (Z3 (Z2 (Z2 (Z2 (NS k.typeIs (Z3 (Z2 (Rf b a ?_))))))));rw[show Qn "dict_keyiterator"=fS by decide];change oT _ _ (if(kG d==M0)=fI then _ else _) _ _ s;rw[hX (by show Zt)];show Z2 (Z3 (Z2 (Se c e ?_)));rw[hX ∅];show Z2 (Z3 (Z2 (Te c e ?_)));rw[hX ∅];show Z3 ?_;simp only[N7,OH,Ds hi];show Z2 (Z2 (NS k.typeIs (Z3 (Z2 (U5 k.typeIs ?_)))));change oT _ _ (P4 (.ref it) 1 (Mu ((i:nX) +1))>>= _) _ _ s;show Z2 (PX b a ∅ ?_);let k2:(s.heap.update it (O5 (·.setIfInBounds 1 (Mu ((i:nX) +1))))).IsKeyIter it d (i+1) es.size ep:=
  %[_,Mo _ b (OP (Oh a _)),(RN ..).trans f|by rw[Oh a];simp[Mu]]
 show Z2 (ra (Z2 (U5 k2.typeIs (Z3 (Z3 %[_,rfl|Z3 (h _ k2 (tI.update ..))])))))
def G1(j:A.handled=eH)(k:s.heap.IsKeyIter it d i es.size ep)(r:Raw s.heap d es ep)(hi:es.size<=i)
 (h:∀h',ExtBut it s.heap h'->Q eH (s>>>h')):↥A (OT (.ref it)) Q E s:=by
 let%[o,c,l|e]:=id k;let%[od,f,_|g]:=r;unfold OT;show Z2 (Nr (Nh (name:=!"__next__") k.typeIs Nf (My Nf k.typeIs SH ?_ (Sv _))));show Z2 (Z3 (Z2 (Z2 ?_)));show Z2 (NS k.typeIs (Z3 (Z2 (Rf c e ?_))));rw[show Qn "dict_keyiterator"=fS by decide];change oT _ _ (if(kG d==M0)=fI then _ else _) _ _ s;rw[hX (by show Zt)];show Z2 (Z3 (Z2 (Se f g ?_)));rw[hX ∅];show Z2 (Z3 (Z2 (Te f g ?_)));rw[hX ∅];show Z3 ?_;simp only[show ¬ ((i:nX)<0)from by lia,N7,OH,Ng hi];show Z2 (Z2 (NS k.typeIs (Z3 ?_)));change oT _ _ (P4 (.ref it) 0 .none>>= _) _ _ s;show Z2 (PX c e ∅ (Z2 ?_));simp only[newExc,newTuple];show Z2 (m:=firstArgMember _ _) (S3 (a:=M0) (by first|rfl|(simp only[firstArgMember];rfl)) (ME ?_ (by size_fits)));simp only[Vm];show Z2 (wpAny_handled ?_);rw[show A.in1.handled=eH from j];show Z2 (Z3 (wpAny_throw ?_));show Z2 (NM (T:="StopIteration") (b:=fI) %[_,Zj _ rfl|rfl] TN ?_);show Z3 (h _ (((tI.update ..).extBut.push _).push _))
def AI(lo:(d==Nl)=fS):KdlSrc prog w "dict" d d es.size (λi v=>∃h:i<es.size,v=es[i].key) (λh=>Raw h d es ep) where
 type:=λ_ r=>r.ty
 there:=λ_ r=>%[r.lt|r.lt]
 keep:=λ_ _ r hk=>r.up λo e=>hk d (.inl rfl) o e
 notList:=!1
 notTuple:=!1
 hint:=λ_ _ _ _ r hq=>kdl_hint_dict r.ty hq
 iter:=λA s hh r=>%[_,λi h=>h.IsKeyIter ⇑s d i es.size ep/\Raw h d es ep,(λ_ _ hq=>EK lo r hq),{
  sub:=λb hb=>!2
  frame:=λ_ _ _ st hk=>%[st.1.at λo e=>hk _ ∅ o e|st.2.up λo e=>hk d ∅ o e]
  item:=λi s' Q E hi st hQ=>EM st.1 st.2 hi λh' k' hs'=>hQ _ h' s'.toks %[hi|rfl] %[k'|st.2.up λo e=>hs'.extBut d o (Zs r.lt) e] λb o hb e=>hs'.extBut b o (λh=>hb (by simp[h])) e
  done:=λs' Q E st hQ=>G1 hh st.1 st.2 (Zi _) λh' he'=>hQ h' s'.toks λb o hb e=>he' b o (λh=>hb (by simp[h])) e
  self:=λ_ _ _ _ st hQ=>Vf st.1 hQ},%[_,Zj _ rfl,rfl|rfl]|r.up λo e=>Z7 _ e]
def n8{P:hH->hV->Prop}{R:ZF->kj->Prop}(K:KdlSrc prog w T r d n P l)(m:A.handled=eH)(ok:l s.heap)(p:n<=ku)
 (h:∀(h':v0) (tk:hH) (acc:ZJ),(∀b o,s.heap.get? b∣o->h'.get? b∣o)->⇑s<=h'.objs.size->ItemsOf P acc n->R acc.toList {s with heap:=h',toks:=tk}):↥A (Q0 (.ref r)) R E s:=by
 let lt:=K.there _ ok;show Z2 (Tv (MT entry_proto_collect' (Z2 (ME (Z3 %[Nt Qd _|MT entry_list_iadd' ?_])))));rw[MK Qd _];let g:=kdl_extend (s:=(s>>>s.heap.push _))
  (R:=λq s'=>∃h' tk acc c,q= .ok (.ret (.ref ⇑s))/\s'={s with heap:=h',toks:=tk}/\(∀b o,s.heap.get? b∣o->h'.get? b∣o)/\h'.get? ⇑s=fx {cls:= .type _,dict:=eH,data:= .seq acc c,slots:= #[]}/\ItemsOf P acc n)
  K m (K.keep _ _ ok λb _ o e=>Z7 _ e) ⇑s (Yz lt.1) (Yz lt.2) _ 0 (Zj _ rfl)
  (λh' tk acc c j a it=>%[h',tk,acc,c,rfl,rfl,λb o e=>j b o (Zs (Zu e)) (Z7 _ e),a|it]) p
 show J5 g (λfin s' x=>?_) λe s' x=>?_
 .cases fin with
  | done f=>
    let%[h',tk,acc,c,e,rfl,j,a|it]:=x;cases e;show Z2 (Tx a (Z3 (h h' tk acc j (Yf (Zu a)) it)))
  | again c1=>
    show%[x.1|codeAny_mono x.2 λq u y=>?_];let%[h',tk,acc,c,rfl,rfl,j,a|it]:=y;show Z2 (Tx a (Z3 (h h' tk acc j (Yf (Zu a)) it)))
 simp_all
def n9{R:ZF->kj->Prop}(lo:(d==Nl)=fS)(f:A.handled=eH)(r:Raw s.heap d es ep)(g:es.size<=ku)
 (h:∀(h':v0) (tk:hH),(∀b o,s.heap.get? b∣o->h'.get? b∣o)->⇑s<=h'.objs.size->R (es.toList.map (·.key)) {s with heap:=h',toks:=tk}):↥A (Q0 (.ref d)) R E s:=by
 show n8 (AI lo) f r g λh' tk acc l c a=>?_
 let e:acc.toList=es.toList.map (·.key):=by
  apply PD;intro j;rw[Zl,Yc,Yc];by_cases m:j<es.size
  .let n:j<acc.size:=a.1▸m;let%[_|q]:=a.2 j acc[j] ∅
   simp_all
  .rw[Ng (by rw[a.1];lia),Ng ⋯];rfl
 rw[e];show h h' tk l c
end
section
variable{X:Cx}{K:ZA}
def vN(hc:X.calm=fI):cO X (.builtin "sorted") (λxs H Q=>dh xs λT=>asR T λa=>∃b,H a∣.dT b/\∃ks,b\1=ks.map (λk:ZB=>k.map hY)/\∃m,(∀k∈ks,~~~k=m)/\m≠0/\ ~~~ks<=1000/\∀(l:ij) (ss:ZG),H l=eH->aI H ss->(ss\2).Perm ks->Q (.ref l) (Qa H l (.lst (ss\0)))):=by
 intro ff s U H xs us Q I r h;let%[T,rfl|z]:=ck h;let%[a,rfl|A]:=aU z;let%[b,ha,ks,c,m,Y,m0,few|q]:=A;let%[u,rfl|ru]:=dA r;cases ru;let%[_,lo,xs,B,o,es,ep,g,ex,dt,he,_|_]:=HQ I.hok ha;let C:∀{b:dV (dV Key×V)} {xs:dV (dV Key×ij×hV)},KT H b xs->∀ks:dV ZB,b\1=ks.map (λk:ZB=>k.map hY)->∃ps:ZG,ps\2=ks/\(xs.map λx=>kG x.2.1)=(ps.map λp=>kG p.1)/\∀p∈ps,H p.1&&&p.2\3:=by
  intro b xs B
  induction B with
  | nil=>
    intro ks c;cases ks with
    | nil=>show%[[],ρ,ρ|λp d=>by cases d]
    | cons _ _=>cases c
  | @cons kv x b xs hx t ih=>
    intro ks c;cases ks with
    | nil=>cases c
    | cons k ks=>
      rw[Yq,Yq]at c;injection c with h1 h2
      let%[ps,j,E|G]:=ih ks h2;show%[(x.2.1,k)::ps,by rw[Yq,j],by rw[Yq,Yq,E]|λp d=>?_];rcases Yw.mp d with e|e
      .rw[e];let:=hx.2.1;rw[h1,Ys]at this;show this
      .show G p e
 let%[ps,j,E|G]:=C B ks c;let v:∀p∈ps,p.2∈ks:=λp d=>by rw[<-j];show Xp %[p,d|rfl]
 let ta:aI H ps:=λp d=>%[λe=>m0 (by rw[<-Y _ (v p d),e];rfl)|G p d]
 let ab: ~~~ps<=1000:=by rw[<-Z6 (f:=(·.2)),j];show few
 let L:Raw s.heap a es ep:=%[o,g,ex|dt]
 let w:es.toList.map (·.key)=ps.map λp=>kG p.1:=by
  rw[he,Ys,<-E];rfl
 let M:es.size<=ku:=by
  let: ~~~(es.toList.map (·.key))= ~~~(ps.map λp=>kG p.1):=by rw[w]
  rw[Z6,Z6,Zb]at this;rw[Mt];lia
 show lz (λE1 R hR=>n9 lo (show X.A.in1.handled=eH from I.ok.hd hc) L M λh' tk k ac=>?_) (pd I ta) (λp d=>Y _ (v p d)) m0 ⋯ λs1 s' l ss n N k1 g1 o1 k g o y gl=>?_
 .rw[w];show hR _ _ (M3 _) k rfl rfl
 .let O:Qc X ff U H s1:=I.keptS k1 g1 o1;let i:H l=eH:=O.hok.fresh y;let J:Qc X ff U H s':=O.keptS k g o;show%[.ref l,_,O.stoodS (o:= .lst (ss\0)) J y %[?_,ss.map (λp=>kG p.1),n,pf ss|gl],ρ|q l ss i (λp d=>ta p (N.mem_iff.mp d)) (by rw[<-j];show N.map _)];rw[Z6,N.length_eq,Mt]
  lia
def Ci(c:X.calm=fI):cG X (.builtin "sorted") (λxs H Q=>dh xs λd=>asR d λa=>∃b,H a∣.dT b/\∃ks,b\1=ks.map (λk:ZB=>k.map hY)/\∃m,(∀k∈ks,~~~k=m)/\m≠0/\ ~~~ks<=1000/\∀(l:ij) (ss:ZG),H l=eH->aI H ss->(ss\2).Perm ks->Q (.ref l) (Qa H l (.lst (ss\0)))):=⟨vN c⟩
def Kh:QE X (.Dict [] [] pos) ze:=⟨DC⟩
def fj(c:bB k X.A)(d:OI a (fx (.Subscript o i b)) pos.line X.env=pure fS)(e:QE X a f)(g:QE X o h)(hi:QE X i ty):QS X (.Assign [.Subscript o i b] a pos) (pH h ty f):=
 ⟨Gz (by let:=c.units;lia) g.h hi.h e.h d⟩
def ni [Mw c](a:dV (c×V))(k:c)(v:V):(dz a k v)\1=if k∈a\1 then a\1 else a\1 ++[k]:=by
 unfold dz;let e:(a.any λb=>decide (b.1=k))=fI↔k∈a\1:=by
  grind
 by_cases h:k∈a\1
 .rw[jg (e.mpr h),jg h,Ys];show Yp λb _=>?_
  change(if b.1=k then(b.1,v)else b).1=b.1
  split<;> rfl
 .rw[hX (λz=>h (e.mp z)),hX h,Zd];rfl
end
structure xv (K:ZA) (mg:ZC) (x:iv):Prop where
 at_:mg x∣.ref (aP mg x)
 cls:Cls K (aP mg x)
structure xw (K:ZA) (mg:ZC) (x m qual:iv) (st:yc) (ps:ZB):Prop where
 ex:∃f fd,Gg K (aP mg x) m f/\Fun K m qual st f fd/\d6 K fd ps []
structure EN (K:ZA) (mg:ZC) (x qual:iv) (st:yc) (ps:ZB):Prop where
 ex:∃f fd,Mk K (aP mg x) f/\Fun K "__init__" qual st f fd/\d6 K fd ps []
structure Cj (P:nz) (w:vk) (K:ZA) (mg:ZC) (base:v0) (k:hH) (x m:iv) (ps:ZB) (sp:Sp):Prop where
 ex:∃f fd,eO P w K mg base CX0 k f fd ps sp/\Gg K (aP mg x) m f/\d6 K fd ps []
structure G3 (P:nz) (w:vk) (K:ZA) (mg:ZC) (base:v0) (k:hH) (x:iv) (ps:ZB) (sp:Sp):Prop where
 ex:∃f fd,eO P w K mg base CX0 k f fd ps sp/\Mk K (aP mg x) f/\d6 K fd ps []
section
variable{P:nz}{w:vk}{K:ZA}{mg:ZC}{base:v0}{x m qual:iv}{st:yc}{N ps:ZB}{k:hH}{sp:Sp}
def xw.cal(D:xw K mg x m qual st ps)(S:ay N ps (ar st))
 (a:∀(H:Hp) (vs:dV V) (Q:VK) (E:XK),sp vs H Q E-> ~~~vs= ~~~ps/\∀(f:ij) (b:hV) (A:vj) (outer:dV Env) (s:kj),bB k (A.deeper (M5 qual (ar st) ⇑s f b))->
  ∃t,PSs (gc CX0 P w K mg base N qual (ar st) f b A outer s H E).nox (bQ st) t/\t {nx:=λ_ H'=>Q .non H',rt:=Q} (start N vs) H):Cj P w K mg base (k+1) x m ps sp:=by
 let%[f,c,d,F|e]:=D.ex;show%[f,c,F.ok S (λv H Q E h=>(a H v Q E h).1) (λb A o s H v Q E r h=>(a H v Q E h).2 f b A o s r),d|e]
def EN.cal(D:EN K mg x qual st ps)(S:ay N ps (ar st))
 (a:∀(H:Hp) (vs:dV V) (Q:VK) (E:XK),sp vs H Q E-> ~~~vs= ~~~ps/\∀(f:ij) (b:hV) (A:vj) (outer:dV Env) (s:kj),bB k (A.deeper (M5 qual (ar st) ⇑s f b))->
  ∃t,PSs (gc CX0 P w K mg base N qual (ar st) f b A outer s H E).nox (bQ st) t/\t {nx:=λ_ H'=>Q .non H',rt:=Q} (start N vs) H):G3 P w K mg base (k+1) x ps sp:=by
 let%[f,c,d,F|e]:=D.ex;show%[f,c,F.ok S (λv H Q E h=>(a H v Q E h).1) (λb A o s H v Q E r h=>(a H v Q E h).2 f b A o s r),d|e]
end
section
variable{X:Cx}{K:ZA}{j k:hH}{x m:iv}{ps:ZB}{sp:Sp}{p pos apos:Pos}{o e:wh}{es:dV wh}{to te:TE}{t:TA}
def Ki(C:Cj X.prog X.w X.K X.mg X.base j x m ps sp)(c:xv X.K X.mg x)(d:bB k X.A)(a:O6 j k=fI)
 (g:MO (.Call (.Attribute o m apos) [] [] pos) X.env=(do
  let b<-MO o X.env
  OS apos.atName
  let(f,first)<-Oq [b] (QC b m pl)
  TU pos f first (Nm pos (ri [] X.env)) (O3 pos (ND [] X.env)))) (h:QE X o to):QE X (.Call (.Attribute o m apos) [] [] pos) (Ap (aP X.mg x) m sp [] E0 to y4):=by
 let%[f,n,F,i|l]:=C.ex;show⟨Di h.h c.cls i F (d.mono (Ye a)) l .nil DD g⟩
def Lw(C:G3 X.prog X.w X.K X.mg X.base j x ps sp)(c:xv X.K X.mg x)(g:bB k X.A)(h:Gl X x)(a:O6 (j+1) k=fI)(b:(x==("__debug__"))=fS)(d:(e::es).any aV=fS)(i:QA X (e::es) t):
 QE X (.Call (.Name x p) (e::es) [] pos) (Aq (aP X.mg x) sp [] E0 t):=by
 let%[f,q,F,l|n]:=C.ex;rw[Zw,X7]at d;show⟨Gh l F (g.mono (Ye a)) h c.at_ n .nil DD i.h b (aD d.1) (eA d.2)⟩
def Kj(h:X.K=K)(a:i6 o=fS)(b:QE X o to):QE X (.Attribute o f pos) (Je K to f):=by
 subst h;show⟨Jg b.h (hZ a)⟩
def G4(h:X.K=K)(c:hJ a=fS)(d:QE X o to)(g:QE X a i):QS X (.Assign [.Attribute o f b] a pos) (Jf K to i f):=by
 subst h;show⟨Jh d.h g.h (jH c)⟩
end
structure GvT (K:ZA) (mg:ZC) (x:iv) (xs:dV V):Prop where
 ex:∃a,mg x∣.ref a/\∀H,SqT K H a xs
def EO{K:ZA}{h:v0}{o:NQ}{its:ZJ}{n:hH}(X:K.In h)(G:h.Ns vr mg)(z:RL K vr x∣fx (.ref a))
 (b:K.lookup a∣o) (c:o.cls= .type "tuple") (d:o.data= .seq its n) (e:its.size<=ku) (r:aQ xs its.toList):GvT K mg x xs:=
 %[a,On X G z|λ_=> .inr %[o,its,n,b,c,d,e|r]]
def Lx{X:Cx}{K:ZA}{x:iv}(h:X.K=K)(g:GvT K X.mg x xs)(b:Gl X x)(c:(x==("__debug__":iv))=fS):QE X (.Name x pos) (λ_ H Q=>∀a,(∀H',SqT K H' a xs)->Q (.ref a) H):=by
 let%[a,d|e]:=g.ex;show⟨λff s f H Q I q=>HR (v:= .ref a) %[.ref a,d|rfl] b c ff s f H Q I (q a e)⟩
def tryN{X:Cx}(c:∀e s,X.xe e s->G2)(d:QSs X a g):QS X (.Try a [h] [] [] pos) g:=by
 show⟨λff s i H D I q=>WG (J5 (d.h ff s i H D I q) (λf b q=>?_) λe b q=>(c e b q).elim)⟩;cases f with
 | next=>show Oo q
 | brk=>show q
 | cont=>show q
 | ret u=>show q
section
variable{X:Cx}{K:ZA}
#where
variable{S:ij}
def ii{ks:ZB}{Q:ZD}(v:∀(m:ZD) (R:ZF->kj->Prop),(∀f us c,MF us c->c.Perm ks->(∀b o,s.heap.get? b∣o->f.heap.get? b∣o)->f.gens=s.gens->f.os=s.os->R us f)->↥A.in1 (Q0 (.ref S)) R m s)(few: ~~~ks<=1000)
 (U:∀(f s':kj) (l:ij) (vs:ZF) (ss:ZB) (n:hH),MF vs ss->ss.Perm ks->(~~~ks<64->ss.Pairwise (λa b=>aS b a=fS))->(∀b o,s.heap.get? b∣o->f.heap.get? b∣o)->f.gens=s.gens->f.os=s.os->(∀b o,f.heap.get? b∣o->s'.heap.get? b∣o)->s'.gens=f.gens->s'.os=f.os->⇑f<=l->s'.heap.get? l=fx {cls:= .type "list",data:= .seq vs.toArray n}->Q (.ref l) s'):
 ↥A (call (.builtin "sorted") [.ref S]) Q E s:=by
 let J:∀us:ZF,(∃c,MF us c/\c.Perm ks)-> ~~~us<=1000:=λus ⟨_,h,p⟩=>by rw[cb h,p.length_eq];show few
 show tV (G:=λus=>∃c,MF us c/\c.Perm ks) (O:=λus out=>∃ss,MF out.toList ss/\ss.Perm ks/\(~~~ks<64->ss.Pairwise (λa b=>aS b a=fS))) (λm R k=>v m R λf us c a b=>k f us %[c,a|b]) J (λY H us a P m g L kp h=>?_) λf s' l us out n g o k1 a1 a2 k2 a3 a4 hl gl=>?_
 .let%[c,d|C]:=g;let M:∀v1 i r,us=v1::i::r->keyKind' (v1::i::r).toArray=pure oneType':=λv1 i r e=>keyKind_strs (e▸d)
  let ll: ~~~us= ~~~ks:=by rw[cb d,C.length_eq]
  by_cases z: ~~~us<64
  .show list_sort_treeK strKind_oneLt L d.keysOf M z λab hp hs=>?_
   let%[ss,B,j|I]:=sorted_out_str d hp hs;show h _ %[ss,B,j.trans C|λ_=>Ce ss I]
  .show xq (s:=s) (G:=λvs=>vs=us) (kd:=oneType') (λ_ e=>e▸J us %[_,d|C]) (λ_ s3 H m Q e j _ q=>?_) (λ_ x y s3 H Q e N T _ q=>?_) Y H us a P m rfl L kp λout p=>?_
   .rw[e]at j ⊢;obtain⟨v1,i,r,e⟩:∃v1 i r,us=v1::i::r:=by
     match us,j with
     | v1::i::r,_=>show%[v1,i,r|ρ]
    rw[e,M v1 i r e];show Z3 q
   .rw[e]at N T;let%[a,t|rfl]:=d.all _ N;let%[b,u|rfl]:=d.all _ T;rw[keyLt'_oneType];show oneLt_str (q _)
   .let%[ss,B|j]:=cH d p;show h out %[ss,B,j.trans C|λl=>m4 (ll▸l) z]
 .let%[ss,B,j|I]:=o;show U f s' l out.toList ss n B j I k1 a1 a2 k2 a3 a4 hl (by rw[nY.toArray_toList];show gl)
end
def je:∀{ks:ZB} {us:ZF},aQ (ks\3) us->MF us ks
 |[],_,.nil=> .nil
 | _::_,_,.cons r t=>by
   let%[t'|rfl]:=r;show .cons _ _ (je t)
def dO:∀{ks:ZB} {us:ZF},MF us ks->aQ (ks\3) us
 | _,_,.nil=> .nil
 | _,_,.cons _ t h=> .cons %[t|rfl] (dO h)
section
variable{X:Cx}{K:ZA}
def Ck(h:X.K=K):cG X (.builtin "sorted") (λxs H Q=>dh xs λj=>asR j λa=>∃ks,Qb K H a (ks\3)/\ ~~~ks<64/\∀l (ss:ZB),H l=eH->ss.Perm ks->ss.Pairwise (λa b=>aS b a=fS)->Q (.ref l) (Qa H l (.lst (ss\3)))):=by
 subst h;show⟨λff s L H xs us Q I r h=>?_⟩;let%[j,rfl|d]:=ck h;let%[a,rfl|e]:=aU d;let%[ks,v,few|q]:=e;let%[u,rfl|w]:=dA r;cases w;let%[its,m,%[o,n,y,z,M|f]|N]:=I.list v;let O: ~~~its= ~~~ks:=by rw[<-m.length,Z6]
 show ii (ks:=ks) (λT R A=>Wg a (.inl rfl) y z f (λh' k=>?_) (!2)) (by omega) λU s' l vs ss n B p C k1 E G k g o c J=>?_
 .show A _ _ _ (je m) (.refl _) k rfl rfl
 .let i:=I.keptS k1 E G;show%[.ref l,_,i.stoodS (o:= .lst _) (i.keptS k g o) c %[?_,vs,n,dO B|J],ρ|q l ss (i.hok.fresh c) p (C few)];rw[Z6,p.length_eq,Mt];omega
def lA{P:nz}{w:vk}:∀{es:dV SZ} {vs:dV (Key×hV)} {ks:ZB},Pairs (aX P w) es vs->vs\1=ks.map hY->MF (es.map (·.key)) ks
 | _,_,[],h,e=>by
   cases h with
   | nil=>show .nil
   | cons _ _ _=>cases e
 | _,_,k::ks,h,e=>by
   cases h with
   | nil=>cases e
   | @cons l m a b c n d=>
     rw[Yq,Yq]at e;injection e with f g
     rcases bh (c)with⟨i,t,q,_⟩|⟨x,t,q,j⟩
     .simp_all
     .rw[f]at q;cases q;rw[Yq,j];show .cons _ _ (lA d g)
def tZ(w:X.calm=fI):cG X (.builtin "sorted") (λxs H Q=>dh xs λm=>asR m λa=>∃(c:dV (Key×V)),Rd H a (.dK c)/\∃(ks:ZB),c\1=ks.map hY/\ ~~~ks<64/\∀l (ss:ZB),H l=eH->ss.Perm ks->ss.Pairwise (λa b=>aS b a=fS)->Q (.ref l) (Qa H l (.lst (ss\3)))):=by
 show⟨λff s T H xs us Q I r h=>?_⟩;let%[m,rfl|e]:=ck h;let%[a,rfl|f]:=aU e;let%[c,y,ks,i,few|q]:=f;let%[u,rfl|z]:=dA r;cases z;let%[_,lo,vs,A,o,es,U,g,ex,B,_,C|_]:=pF I.hok y;let p:=lA C (i▸A.keys.symm);let Y:=by
  let:=cb p;rw[Z6,Zb]at this;omega
 show ii (ks:=ks) (λE1 R E=>n9 lo (I.ok.hd w) %[o,g,ex|B] (by rw[Mt];omega) λh' tk k G=>E _ _ _ p (.refl _) k rfl rfl) (by omega) λs1 s' l vs ss n J v L k1 M N k g o d O=>?_
 let j:=I.keptS k1 M N;show%[.ref l,_,j.stoodS (o:= .lst _) (j.keptS k g o) d %[?_,vs,n,dO J|O],ρ|q l ss (j.hok.fresh d) v (L few)];rw[Z6,v.length_eq,Mt];omega
def qg{w:vk}(h:X.w=w)(z:X.calm=fI):cG X (.builtin "sorted") (λxs H Q=>dh xs λv=>asR v λa=>∃ks,H a∣oN w a ks/\ ~~~ks<=1000/\∀l (ss:ZB),H l=eH->ss.Perm ks->(~~~ks<64->ss.Pairwise (λa b=>aS b a=fS))->Q (.ref l) (Qa H l (.lst (ss\3)))):=by
 subst h;show⟨λff s L H xs us Q I r h=>?_⟩;let%[v,rfl|e]:=ck h;let%[a,rfl|f]:=aU e;let%[ks,A,few|q]:=f;let%[u,rfl|B]:=dA r;cases B;let%[S,_|_]:=(I.hok a _ A)
 show ii (ks:=ks) (λM R C=>wV (I.ok.hd z) S λy vs ss i d k1 j m E=>C y vs ss i d k1 j m) few λy s' l vs ss n i d G k1 j m k g o c J=>?_
 let p:=I.keptS k1 j m;show%[.ref l,_,p.stoodS (o:= .lst _) (p.keptS k g o) c %[?_,vs,n,dO i|J],ρ|q l ss (p.hok.fresh c) d G];rw[Z6,d.length_eq,Mt];omega
def Cl(h:X.K=K):cG X (.builtin "sorted") (λxs H Q=>dh xs λi=>asR i λa=>∃(ps:ZG),Qb K H a (ps\0)/\aI H ps/\∃(m:hH),(∀p∈ps,~~~p.2=m)/\m≠0/\ ~~~ps<=1000/\∀(l:ij) (ss:ZG),H l=eH->ss.Perm ps->Q (.ref l) (Qa H l (.lst (ss\0)))):=by
 subst h;show⟨λff s N H xs us Q I r h=>?_⟩;let%[i,rfl|c]:=ck h;let%[a,rfl|d]:=aU c;let%[ps,v,w,m,y,z,few|q]:=d;let%[u,rfl|A]:=dA r;cases A;let%[its,B,%[o,n,C,E,O|e]|T]:=I.list v;let:=vL B;subst this;show lz (λU R G=>Wg a (.inl rfl) C E e (λh' k=>?_) (!2)) (pd I w) y z few λY s' l ss n j k1 J L k g o b M=>?_
 .show G _ _ (M3 _) k rfl rfl
 .let f:=I.keptS k1 J L;show%[.ref l,_,f.stoodS (o:= .lst _) (f.keptS k g o) b %[?_,ss.map _,n,pf ss|M],ρ|q l ss (f.hok.fresh b) j];rw[Z6,j.length_eq,Mt];omega
def G5{k:hH}{i o:wh}{ty a:TE}{pos:Pos}(b:bB k X.A)(c:MQ .In o=fS)(hi:QE X i ty)(d:QE X o a):QT X (.Compare i [.In] [o] pos) (tB (Gx ty a)):=
 ⟨CV (Dw (by let:=b.units;omega) hi.h d.h) c⟩
end
def br{X:Cx}{K:ZA}{a b:wh}{c d:TE}{pos:Pos}(h:X.K=K)(e:oW b)(f:QE X a c)(g:QE X b d):QE X (.Subscript a b pos) (tOp (Jo K) c d):=by subst h;show⟨Do Jq f.h g.h e⟩
section
#where
end
section
end
section
#where
end
section
variable{X:Cx}{pos:Pos}
def qh(b:PR (MU X.prog X.w) X.A X.env X.xe)(d:QT X c e)(f:QSs X a g):QS X (.While c a [] pos) (C4 e g):=⟨C5 b d.h f.h⟩
def bo(a:bB k X.A)(b:Jw i)(c:QE X o d)(hi:QE X i ty):QE X (.Subscript o i pos) (Dv d ty):=⟨Gy (by let:=a.units;lia) c.h hi.h b⟩
#where
def G6{P:hH->hV->Prop}(val:hH->iv)(a:∀i v,P i v->∃t,v= .str (val i) t):CmpOf prog w A .Gt P (λi j=>decide ((val j).cps.toList<(val i).cps.toList)):=λi j b c s Q E hi d h=>by
 let%[t|rfl]:=a i b hi;let%[u|rfl]:=a j c d;show Wj (OA s _ t) (OA s _ u) PySem.F.slot_str_gt PySem.F.entry_str_gt (PySem.F.args_str_gt_2 _ _) (gives_str_gt _ _ t u) (λx=>nomatch x) h
def AJ{P:hH->hV->Prop}(val:hH->iv)(a:∀i v,P i v->∃t,v= .str (val i) t):CmpOf prog w A .Lt P (λi j=>decide ((val i).cps.toList<(val j).cps.toList)):=λi j b c s Q E hi d h=>by
 let%[t|rfl]:=a i b hi;let%[u|rfl]:=a j c d;show Wj (OA s _ t) (OA s _ u) PySem.F.slot_str_lt PySem.F.entry_str_lt (PySem.F.args_str_lt_2 _ _) (gives_str_lt _ _ t u) (λx=>nomatch x) h
def EQ{i:hH}{v:hV}(h:(#[Mf x t,Mf y u]:ZJ)[i]?∣v):∃t,v= .str (if i=0 then x else y) t:=by
 match i,h with
 | 0,h=>show%[t|by simpa using h.symm]
 | 1,h=>show%[u|by simpa using h.symm]
 | i+2,h=>simp at h
def xx(a:hH->hH->pp):PF a 1=if a 1 0=fI then 1 else 0:=by simp[PF]
def vO{x y:iv}(l:A.handled=eH)
 (h:∀h' tk,(∀c o,s.heap.get? c∣o->h'.get? c∣o)->Q (if x.cps.toList<y.cps.toList then .str y u else .str x t) {s with heap:=h',toks:=tk}):
 ↥A (call (.builtin "max") [.str x t,.str y u]) Q E s:=by
 let j:(s.heap.push {cls:= .type _,data:= .seq #[.str x t,.str y u]}).IsTuple ⇑s _:=%[_,Zj _ rfl,rfl,0|rfl]
 show call_max_two (RY j ?_);let b:(s.heap.push {cls:= .type "tuple",data:= .seq #[.str x t,.str y u]}).objs.size=⇑s+1:=Zq ..;show%[_,[_,⇑s],[_],_,_,_,_,ρ,Wo (A:=A.in1) l _ ⇑s (b▸Zs (Yo _)) _,
  %[%[_,Zj _ rfl,ρ|ρ]|j.push _],λc d=>?_,by simp,G6 _ (λ_ _=>EQ)|λv h' tk m n=>?_]
 .rw[Zq,b];rcases Yw.mp d with rfl|d
  .simp
  .rcases Yw.mp d with rfl|d
   .show Yn (Yo _)
   .cases d
 .let f:=λc o e=>by
   show n c o (λi=>?_) (Z7 _ (Z7 _ e));rcases Yw.mp i with p|i
   .let:=Zu e;rw[p,b]at this;show Xj _ (U9 this)
   .cases i
  let q:=h h' tk f;let a:(#[Mf x t,Mf y u])[PF _ 1]?∣v:=m;rw[xx]at a;by_cases g:x.cps.toList<y.cps.toList
  .rw[jg (by simp[g])]at a;rw[jg g]at q;show(show Mf y u=v by simpa using a)▸q
  .rw[hX (by simp[g])]at a;rw[hX g]at q;show(show Mf x t=v by simpa using a)▸q
def vP{x y:iv}(l:A.handled=eH)
 (h:∀h' tk,(∀c o,s.heap.get? c∣o->h'.get? c∣o)->Q (if y.cps.toList<x.cps.toList then .str y u else .str x t) {s with heap:=h',toks:=tk}):
 ↥A (call (.builtin "min") [.str x t,.str y u]) Q E s:=by
 let j:(s.heap.push {cls:= .type _,data:= .seq #[.str x t,.str y u]}).IsTuple ⇑s _:=%[_,Zj _ rfl,rfl,0|rfl]
 show call_min_two (RY j ?_);let b:(s.heap.push {cls:= .type "tuple",data:= .seq #[.str x t,.str y u]}).objs.size=⇑s+1:=Zq ..;show%[_,[_,⇑s],[_],_,_,_,_,ρ,Wo (A:=A.in1) l _ ⇑s (b▸Zs (Yo _)) _,
  %[%[_,Zj _ rfl,ρ|ρ]|j.push _],λc d=>?_,by simp,AJ _ (λ_ _=>EQ)|λv h' tk m n=>?_]
 .rw[Zq,b];rcases Yw.mp d with rfl|d
  .simp
  .rcases Yw.mp d with rfl|d
   .show Yn (Yo _)
   .cases d
 .let f:=λc o e=>by
   show n c o (λi=>?_) (Z7 _ (Z7 _ e));rcases Yw.mp i with p|i
   .let:=Zu e;rw[p,b]at this;show Xj _ (U9 this)
   .cases i
  let q:=h h' tk f;let a:(#[Mf x t,Mf y u])[PF _ 1]?∣v:=m;rw[xx]at a;by_cases g:y.cps.toList<x.cps.toList
  .rw[jg (by simp[g])]at a;rw[jg g]at q;show(show Mf y u=v by simpa using a)▸q
  .rw[hX (by simp[g])]at a;rw[hX g]at q;show(show Mf x t=v by simpa using a)▸q
def rV{l:ij}{its:ZJ}{val:hH->iv}{Q:ZD}(n:A.handled=eH)(f:s.heap.IsList l its)(g:0<its.size)(a:∀(i:hH) v,its[i]?∣v->∃t,v= .str (val i) t)
 (h:∀v h' tk,its[PF (λi j=>decide ((val i).cps.toList<(val j).cps.toList)) (its.size-1)]?∣v->(∀b o,s.heap.get? b∣o->h'.get? b∣o)->Q v {s with heap:=h',toks:=tk}):
 ↥A (call (.builtin "min") [.ref l]) Q E s:=by
 let c:l<⇑s:=by let%[_,e|_]:=f;show Zu e
 show call_min_walk (N2 f %[_,[⇑s,l],[⇑s],_,_,_,_,rfl,Ug (A:=A.in1) n _ l (Zs c) its,%[%[_,Zj _ rfl,rfl|rfl]|f.push _],λb d=>?_,g,AJ val a|λv h' tk p q=>?_])
 .rw[Zq];rcases Yw.mp d with rfl|d
  .simp
  .rcases Yw.mp d with rfl|d
   .show Yn c
   .cases d
 .show h v h' tk p λb o e=>q b o (λm=>?_) (Z7 _ e)
  rcases Yw.mp m with r|m
  .show m4 (r▸Zu e) (Xj _)
  .cases m
def qi(val:hH->iv):∀k,PF (λi j=>decide ((val i).cps.toList<(val j).cps.toList)) k<=k/\∀j,j<=k->aS (val j) (val (PF (λi j=>decide ((val i).cps.toList<(val j).cps.toList)) k))=fS
 | 0=>%[Zi _|λj b=>by rw[le_zero.mp b];show dN _]
 | k+1=>by
   let%[g|d]:=qi val k;rw[PF];by_cases c:aS (val (k+1)) (val (PF (λi j=>decide ((val i).cps.toList<(val j).cps.toList)) k))=fI
   .let a:=c;unfold aS at a;rw[jg a];show%[Zi _|λj b=>?_];by_cases e:j=k+1
    .show e▸dN _
    .cases f:aS _ _ with
     | false=>rfl
     | true=>have:=d8 f c;rw[d j ⋯]at this;cases this
   .let a:=c;unfold aS at a;rw[hX a];show%[⋯|λj b=>?_];by_cases e:j=k+1
    .lia
    .show d j ⋯
end
section
variable{X:Cx}
def Cm(g:X.calm=fI):cO X (.builtin "max") (λxs H Q=>mZ xs λf x2=>asS f λx=>asS x2 λy=>Q (.str (if aS x y=fI then y else x)) H):=by
 intro ff s i H xs us Q I r h;let%[f,x2,rfl|b]:=jE h;let%[x,rfl|c]:=fY b;let%[y,rfl|d]:=fY c;let q:=d;let%[u,j,rfl,%[t|rfl],t'|rfl]:=lK r;show vO (I.ok.hd g) λh' tk k=>%[_,H,I.kept k,?_|q]
 by_cases a:x.cps.toList<y.cps.toList
 .rw[jg a,jg (show aS x y=fI from Zf a)];show%[_|ρ]
 .rw[hX a,hX (show ¬ aS x y=fI from λe=>a (Zo e))];show%[_|ρ]
def Cn(g:X.calm=fI):cO X (.builtin "min") (λxs H Q=>mZ xs λf x2=>asS f λx=>asS x2 λy=>Q (.str (if aS y x=fI then y else x)) H):=by
 intro ff s i H xs us Q I r h;let%[f,x2,rfl|b]:=jE h;let%[x,rfl|c]:=fY b;let%[y,rfl|d]:=fY c;let q:=d;let%[u,j,rfl,%[t|rfl],t'|rfl]:=lK r;show vP (I.ok.hd g) λh' tk k=>%[_,H,I.kept k,?_|q]
 by_cases a:y.cps.toList<x.cps.toList
 .rw[jg a,jg (show aS y x=fI from Zf a)];show%[_|ρ]
 .rw[hX a,hX (show ¬ aS y x=fI from λe=>a (Zo e))];show%[_|ρ]
def Co(C:X.calm=fI):cO X (.builtin "min") (λxs H Q=>dh xs λn=>asR n λp=>∃(ss:ZB),Qb X.K H p (ss\3)/\0< ~~~ss/\∀m∈ss,(∀y∈ss,aS y m=fS)->Q (.str m) H):=by
 intro ff s T H xs us Q I r h;let%[n,rfl|f]:=ck h;let%[p,rfl|g]:=aU f;let%[ss,E,U|q]:=g;let%[u,rfl|l]:=dA r;cases l;let%[its,o,G|Y]:=I.list E;let a:= ~~~o;rw[Z6]at a;let J:its.toArray.size= ~~~ss:=by rw[Zp,a]
 let c:∀i v,its.toArray[i]?∣v->∃t,v=Mf (ss.getD i Me) t:=λi v e=>by
  let e:=↑e
  let hi:i< ~~~ss:=a▸(Xl e).1;let%[u,w|l]:=o.get (by rw[Zl,Z4 hi];rfl);rw[e]at w;let%[t|d]:=l;show%[t|by rw[Za w,d,Zc,Z4 hi];rfl]
 show rV (I.ok.hd C) G.isList ⋯ c λv h' tk z k=>?_
 let%[L|A]:=qi _ _;let%[t|d]:=c _ _ z
 generalize PF _ _=b at L A z d
 let B:b< ~~~ss:=by lia
 let M:ss.getD b Me=ss[b]:=by rw[Zc,Z4 B];rfl
 show%[.str _,H,I.kept k,%[t|d]|q _ (M▸Yd B) λy N=>?_];let%[j,O|rfl]:=Rr N;let:=A j ⋯;rwa[show ss.getD j Me=ss[j] by rw[Zc,Z4 O];rfl]at this
def Kk(a:X.calm=fI):cG X (.builtin "max") (λxs H Q=>mZ xs λb x2=>asS b λx=>asS x2 λy=>Q (.str (if aS x y=fI then y else x)) H):=⟨Cm a⟩
def ER(a:X.calm=fI):cG X (.builtin "min") (λxs H Q=>mZ xs λb x2=>asS b λx=>asS x2 λy=>Q (.str (if aS y x=fI then y else x)) H):=⟨Cn a⟩
def Kl{K:ZA}(h:X.K=K)(a:X.calm=fI):cG X (.builtin "min") (λxs H Q=>dh xs λb=>asR b λp=>∃(ss:ZB),Qb K H p (ss\3)/\0< ~~~ss/\∀m∈ss,(∀y∈ss,aS y m=fS)->Q (.str m) H):=by subst h;show⟨Co a⟩
#where
variable{R:SV->kj->Prop}{I:ij}{fp:dV ij}{wr:dV ij}{G:nY RB->nY RB->Prop}{n:hH}{P:hH->hV->Prop}{St:hH->kj->Prop}
end
def AK{b:Type}{a:dV (b×V)}{vs:dV (b×hV)}(r:KV a vs):aQ (a\2) (vs\2):=by
 induction r with
 | nil=>show .nil
 | cons h _ c=>show .cons h.2 c
section
variable{X:Cx}{K:ZA}
abbrev ES:V->dV V->Hp->VK->Prop:=λx vs H Q=>asR x λa=>∃k y,vs=[kV k,y]/\∃b,H a∣.dK b/\ ~~~b<ku/\(∀v,cf b k∣v->Q v H)/\(cf b k=eH->Q y (Qa H a (.dK (dz b k y))))
def G7:MtM X "dict.setdefault" ES:=by
 intro ff s J H x vs v us Q I p r h;let%[a,rfl,k,y,rfl,b,e,L,u|w]:=aU h;cases p;let%[M,A,rfl,B|l]:=lK r;let%[z,m,vs,c|n]:=nQ I.hok e;show Sm Vj n.typeIs PySem.F.entry_dict_setdefault (PySem.F.args_dict_setdefault_3 _ _ _) (kt_meets_setdefault _ a (pE B) m A) %[vs,n,~~~c▸z,λN hw=>?_|λO h' f C=>?_]
 .let q:=c.val k;cases d:cf b k with
  | none=>
    rw[iB.none_of (o:=Sf vs k) (d▸q)]at hw;cases hw
  | some i=>
    let%[E,g|j]:=iB.some_of (d▸q);rw[g]at hw;show(Za hw)▸%[i,H,I.tok _,j|u i d]
 .let d:cf b k=eH:=by
   cases d:cf b k with
   | none=>rfl
   | some i=>
     let%[E,g|_]:=iB.some_of (d▸c.val k)
     grind
  show%[y,_,oX I (e▸Mx) C (let⟨q,_,_,G,_⟩:=f;%[q|G]) (y9 (by let:=g9 b k y;lia) m (c.put k l) f),l|w d]
def jf:MtQ X "dict.setdefault" ES:=⟨G7⟩
abbrev lV(v a:ij):HO:= .ext λh=>h.IsValuesView v a
abbrev ET:V->dV V->Hp->VK->Prop:=λx vs H Q=>asR x λa=>vs=[]/\∃b,H a∣.dK b/\∀v,H v=eH->Q (.ref v) (Qa H v (lV v a))
def G8:MtM X "dict.values" ET:=by
 intro ff s w H x vs v us Q I i j h;let%[a,rfl,rfl,l,e|q]:=aU h;cases i;let c:=j.zero;subst c;let%[z,m,vs,n|f]:=nQ I.hok e;show Sm WI f.typeIs PySem.F.entry_dict_values (PySem.F.args_dict_values_1 _) (meets_dict_values _ a m) %[%[vs|f]|?_];let g:(s.heap.push {cls:= .type _,data:= .fields _}).IsValuesView ⇑s a:=%[_,Zj _ rfl,rfl|rfl]
 show%[.ref ⇑s,_,I.laid (o:=lV ⇑s a) (λb u e=>Z7 _ e) (Zi _) %[g,?_|λy A p k1=>?_],ρ|q _ I.fresh]
 .let%[o,d|_]:=g;show%[o|d]
 .let%[o,d|r]:=p;show%[o,k1 _ d|r]
def xy:MtQ X "dict.values" ET:=⟨G8⟩
def zQ(p:X.calm=fI):cO X (.type "list") (λxs H Q=>dh xs λn=>asR n λv=>∃(a:ij),H v∣lV v a/\∃(b:dV (Key×V)),H a∣.dK b/\∀l,H l=eH->Q (.ref l) (Qa H l (.lst (b\2)))):=by
 intro ff s T H xs us Q I r h;let%[n,rfl|g]:=ck h;let%[v,rfl|j]:=aU g;let%[a,w,b,y|q]:=j;let%[u,rfl|A]:=dA r;cases A;let%[z,U,vs,f|B]:=nQ I.hok y;let m:=(I.hok _ _ w).1;let%[o,es,C,E|G]:=B;let J:s.heap.DictAt _ a vs C:=%[o,es,E|G]
 let L:= ~~~f;show kdl_call (kdl_values) (I.ok.hd p) %[m|J] ⋯ λh' tk acc c keep M d=>?_
 let Y: ~~~acc.toList= ~~~b:=by rw[Zb,d.1,L]
 show%[.ref ⇑s,_,I.laid keep (Zi _) ?_,ρ|q _ I.fresh];let e:acc.toList=vs\2:=by
  show Qk (!2) λi N h2=>?_
  let%[k|O]:=d.2 i _ (Ds N);let%[h3|e3]:=Xl O
  simp_all
 show%[by rw[Z6];show z,acc.toList,c,e▸AK f|M]
def G9(c:X.calm=fI):cG X (.type "list") (λxs H Q=>dh xs λd=>asR d λv=>∃(a:ij),H v∣lV v a/\∃(b:dV (Key×V)),H a∣.dK b/\∀l,H l=eH->Q (.ref l) (Qa H l (.lst (b\2)))):=⟨zQ c⟩
end
def xz:∀{ss:ZB},z∈ss->∃j,ss[j]?∣z/\(∀m,m<j->∀y,ss[m]?∣y->y≠z)/\(z::ss.eraseIdx j).Perm ss
 | x::ss,h=>by
   by_cases e:x=z
   .show%[0,by simp[e],λm b=>m4 b ⋯|by simp[e]]
   .let%[j,c,d|f]:=xz ((Yw.mp h).resolve_left λq=>e q.symm);show%[j+1,c,λm b y a=>?_|?_]
    .cases m with
     | zero=>simp at a;show a▸e
     | succ m=>show d m ⋯ y (a)
    .show(Um _ _ _).trans (f.cons _)
section
variable{X:Cx}{K:ZA}
abbrev Km:V->dV V->Hp->VK->Prop:=λx vs H Q=>asR x λa=>∃k y,vs=[kV k,y]/\∃b,H a∣.dK b/\Q ((cf b k).getD y) H
def Kn:MtM X "dict.get" Km:=by
 intro ff s n H x vs v us Q I f g h;let%[a,rfl,k,y,rfl,b,e|q]:=aU h;cases f;let%[o,i,rfl,j|l]:=lK g;let%[z,m,vs,c|d]:=nQ I.hok e;show Sm XD d.typeIs PySem.F.entry_dict_get (PySem.F.args_dict_get_3 _ _ _) (meets_dict_get_default _ a (pE j) m i) %[_,d.mapOf,(cf b k).getD y,H,I.tok _,(c.val k).getD l|q]
def qj:MtQ X "dict.get" Km:=⟨Kn⟩
abbrev isZ(z:iv):hV->pp
 | .str x _=>x==z
 | _=>fS
def Cp(t:Tok)(r:aQ (ss\3) its)(h: ~~~ss= ~~~its)(l:z∈ss):∃(j:hH) (e:j<its.toArray.size),ss[j]?∣z/\(z::ss.eraseIdx j).Perm ss/\(∀y,y∈its.toArray->MeetsSeq.EqGives y (.str z t) (isZ z y))/\isZ z its.toArray[j]=fI/\∀m (a:m<its.toArray.size),m<j->isZ z its.toArray[m]=fS:=by
 let%[j,f,n|o]:=xz l;let b:∀m y,its[m]?∣y->∃x t,y=Mf x t/\ss[m]?∣x:=λm y c=>by
  let a:m< ~~~ss:=h▸(Xl c).1;let%[u,i|p]:=r.get (by rw[Zl,Z4 a];rfl);rw[c]at i;let%[t|q]:=p;show%[_,t,(Za i).trans q|Z4 a]
 let e:j< ~~~its:=h▸(Xl f).1;show%[j,e,f,o,λy c=>?_,?_|λm a g=>?_]
 .let%[m|a]:=Xf ↑c;let%[x,t',rfl|_]:=b m y a;show eqGives_str x z t' t
 .let%[x,t',ex|d]:=b j _ (Z4 e);rw[f]at d;change isZ z its[j]=fI;rw[ex,<-Za d];show SS z
 .let%[x,t',ex|d]:=b m _ (Z4 a);change isZ z its[m]=fS;rw[ex];show Mp.mpr (n m g x d)
abbrev vQ:V->dV V->Hp->VK->Prop:=λx vs H Q=>asR x λl=>∃z,vs=[.str z]/\∃ss:ZB,H l<*ss\3/\z∈ss/\∀a,(z::a).Perm ss->Q .non (Qa H l (.lst (a\3)))
def Cq:MtM X "list.remove" vQ:=by
 intro ff s A H x vs v us Q I c d h;let%[l,rfl,z,rfl,ss,a,f|q]:=aU h;cases c;let%[u,rfl|g]:=d.one;let%[t|rfl]:=g;let%[i,its,n,r,b|e]:=I.lstM a;rw[Z6]at b i;let%[j,m,_,o,p,w|y]:=Cp t r b f;show OE F.slot_list_remove %[_,e|rfl] F.entry_list_remove (F.args_list_remove_2 _ _) (MeetsSeq.list_remove l its.toArray n _ _ p j m w y (!2)) %[e,.non,_,I.lset (its':=its.eraseIdx j) a e ?_ ?_ ?_,rfl|q _ o]
 .simp
 .rw[OM,Zd,Xy,Xz,<-OM];show r.eraseIdx j
 .let:=sX ss j;rw[Z6]
  lia
def EU:MtQ X "list.remove" vQ:=⟨Cq⟩
end
def Cr:PZ (.type "list_reverseiterator") "__len__"=pure eH:=by kernel_rfl
def EV:PZ (.type "list_reverseiterator") "__length_hint__"=pure (fx (.builtin "list_reverseiterator.__length_hint__")):=by kernel_rfl
section
#where
def rW(hh:A.handled=eH)(O:s.heap.IsRevIter I l ((a.size:nX) -1))(U:s.heap.IsList l a)(ne:l≠I)(hz:a.size<=ku)
 (hQ:∀s' acc c,(∀b o,b≠I->s.heap.get? b∣o->s'.heap.get? b∣o)->s'.gens=s.gens->s'.os=s.os->s'.heap.get? ⇑s=fx {cls:= .type "list",data:= .seq acc c}->acc.toList=a.toList.reverse->Q (.ref ⇑s) s'):
 ↥A (call (.type "list") [.ref I]) Q E s:=by
 let v:I<⇑s:=let⟨_,i,_⟩:=O;Zu i;let y:l<⇑s:=let⟨_,i,_⟩:=U;Zu i
 generalize p:s.heap.push {cls:=MG "list",data:=Data.seq #[]}=G
 let gz:G.objs.size=⇑s+1:=by rw[<-p,Zq]
 let z:∀b o,s.heap.get? b∣o->G.get? b∣o:=λb o e=>by rw[<-p];show Z7 _ e
 let q:G.get? ⇑s=fx {cls:=MG "list",data:=Data.seq #[]}:=by rw[<-p];show Zj _ rfl
 show callType_codes (Q₁:=λobj g=>obj= .ref ⇑s/\g=(s>>>G)) F.called_list (F.typeCall_list_1 (kG I)) F.entry_list_init (code_list_new (kG I) %[rfl|by rw[p]]) λobj g j=>?_
 let%[rfl|rfl]:=j;show%[%[_,q|ρ],F.args_list_init_2 _ _|?_];change ↥A.in1.in1 (nI.«list.__init__» %[[.ref ⇑s,.ref I]|[]]) _ _ _;unfold nI.«list.__init__»;show Z2 ?_;show listItems_at (s:=(s>>>G)) q rfl ?_;show Z2 (Pj (s:=(s>>>G)) q rfl ?_ (Xe _));let Y:=Mo (MR λ_=> #[]) q rfl;let f:∀b o,b≠⇑s->G.get? b∣o->(G.update ⇑s (MR λ_=> #[])).get? b∣o:=λb o B e=>(J6 _ _ (zr B)).trans e
 show Z2 (N5 ?_)
 generalize G.update ⇑s (MR λ_=> #[])=h at Y f
 let C:I≠⇑s:=Zs v;let nl:l≠⇑s:=Zs y;let m:h.IsRevIter I l ((a.size:nX) -1):=O.at λo e=>f _ _ C (z _ _ e)
 let H:h.IsList l a:=let⟨o,i,r⟩:=U;%[o,f _ _ nl (z _ _ i)|r];let W:=Walks.listRev (prog:=prog) (w:=w) (A:=A.in1.in1) hh I l ne a;let n:(0<=a.size/\h.IsRevIter I l (↑(a).size-1-((0:hH):nX))/\h.IsList l a):=%[Xe _,↑m|H]
 change ↥A.in1.in1 (NJ (.ref ⇑s) (.ref I) .none) _ _ (s>>>h);unfold NJ;let u:Q2 (s>>>h) (.ref I) "list_reverseiterator":=m.typeIs;show Z2 (QR (T:="list_reverseiterator") u ?_);let n1:RH (.ref ⇑s) (.ref I)=fS:=Mp.mpr (zr C);let n2:(MG "list_reverseiterator"==MG "list")=fS:=!1
 let n3:(MG "list_reverseiterator"==MG "tuple")=fS:=!1
 simp only[n1,n2,n3,V8,Zz,N7];show Z2 (W.self 0 (s>>>h) _ _ n ?_);show Z2 (ra ?_);unfold Q8;show Z2 (Pt (T:="list_reverseiterator") u Cr ?_);change oT _ _ (specialOf (.ref I) (!"__length_hint__")>>= _) _ _ _;show Z2 (Pt u EV ?_)
 wp_delta
 show Z2 (NM (T:="list_reverseiterator") (b:=fI) u (by rw[isSubtype_type];kernel_rfl) ?_);simp only[V9,Zz,N7];rw[jg (!0)];rw[hX (!1)];show Z3 ?_;rw[hX (!0)];let J:⇑s∉[I,l]:=by
  simp only[Yw,X6,MN,OW];show%[zr C|zr nl]
 show Z3 %[Nt Vc _|Vs W.toS hz _ J _ a.size 0 _ _ _ rfl (Xe _) n Y (VS _) λs5 acc c5 L M d=>?_];show%[ρ|hQ s5 acc c5 (λb o B e=>?_) L.gens L.os M ?_]
 .let nb:b≠⇑s:=Zs (Zu e);show L.heap b o ?_ (f _ _ nb (z _ _ e));simp only[Yw,X6,MN,OW];show%[nb|B]
 .apply PD;intro k;let al: ~~~acc.toList=a.size:=Zb▸d.1;by_cases hk:k<a.size
  .let N:k<acc.size:=d.1▸hk;let:=d.2 k acc[k] ∅;rw[dV.getElem?_reverse (hk),Zb,Yc,Yc,this];simp[N]
  .rw[Xk ⋯,Xk (by simp;lia)]
end
abbrev Ko(n:hH)(a l:ij)(m:hH):HO:= .ext λh=>n<=a/\h.IsRevIter a l (m-1)
def Cs{X:Cx}:cO X (.type "reversed") (λxs H Q=>∃(l:ij) (ys:dV V),xs=[.ref l]/\Qb X.K H l ys/\∀r,H r=eH->Q (.ref r) (Qa H r (Ko X.s₀.heap.objs.size r l ys.length))):=by
 intro ff s a H xs us Q I r h;let%[l,ys,rfl,c|q]:=h;let%[u,rfl|d]:=dA r;cases d;let%[its,f,pl|j]:=I.list c;show call_reversed_list pl.isList ?_;let g:=I.hok.fresh (Zi _);let J:Qc X ff a H (s>>>(s.heap.push (revObj l (its.toArray.size-1)))):=I.keptS (λb o e=>Z7 _ e) rfl rfl;show%[.ref ⇑s,_,I.stoodS (o:=Ko X.s₀.heap.objs.size ⇑s l ys.length) J (Zi _) %[%[I.sz|?_],%[_|Zj _ rfl]|λ_ _ ⟨i,x⟩ k=>%[i|x.at λo e=>k o e]],ρ|q _ g];rw[~~~f,<-Zp];show%[_,Zj _ rfl,ρ|ρ]
def Qc.dropped{X:Cx}(I:Qc X ff j H s)(l:H a∣.ext i)(m:X.s₀.heap.objs.size<=a)(f:∀b o,b≠a->s.heap.get? b∣o->s'.heap.get? b∣o)(r:s'.gens=s.gens)(v:s'.os=s.os):Qc X ff j (drop H a) s':=by
 let ne:∀{b:ij} {o:HO},H b∣o->(∀i,o≠ .ext i)->b≠a:=λe n z=>by
  grind
 let un:Un (frs X.stack) [a] H (drop H a) s.heap s'.heap:=by
  show%[λb o e _ _ d=>f b o ↑d e,λb o e _ _ d=>%[o.slots|f b o ↑d e],λb o _ n _=>?_,λb o e d=>%[o|f b o ↑d e],λb xs e=>?_,λb o u e=>?_|λb ps e=>%[#[]|?_]]
  .unfold drop;split
   .rfl
   .show n
  .rw[bW (ne e ∅)];show e
  .rw[bW (ne e ∅)];show e
  .rw[bW (ne e ∅)];simpa using e
 let g:HOk X.prog X.w (drop H a) s'.heap:=λb o e=>by
  let nb:b≠a:=λz=>by rw[z,iO]at e;cases e
  rw[bW nb]at e;show(I.hok b o e).stay (λc u h q=>f c u ?_ q) (λc q=>?_) λc xs q=>?_
  .rcases h with rfl|h
   .show nb
   .show ne h ∅
  .rw[bW (ne q ∅)];show q
  .rw[bW (ne q ∅)];show q
 show I.call' v un g (by rw[r];show I.bare) λb w=>by
  obtain rfl:b=a:=↑w
  show%[.inr m,λz=>?_,λx c e z=>?_|λp y z=>?_]
  .let:=I.free;grind
  .let:=I.freeC x c e;grind
  .let:=(I.pin p y).2.1;rw[z,l]at this;cases this
def xA{X:Cx}(y:X.calm=fI):cO X (.type "list") (λxs H Q=>∃(r l:ij) (ys:dV V),xs=[.ref r]/\H l<*ys/\H r∣Ko X.s₀.heap.objs.size r l ys.length/\∀p,drop H r p=eH->p≠r->Q (.ref p) (Qa (drop H r) p (.lst ys.reverse))):=by
 intro ff s L H xs us Q I r h;let%[a,l,ys,rfl,g,f|q]:=h;let%[u,rfl|A]:=dA r;cases A;let%[z,its,n,B,m|e]:=I.lstM g;let%[%[v|b]|_]:=I.hok a _ f;let i:l≠a:=λz=>by rw[z,f]at g;cases g
 let sz:its.toArray.size= ~~~ys:=!2
 show rW (I.ok.hd y) (by rw[sz];show b) %[_,e,rfl,n|rfl] i (by rw[sz];show z) λs' acc c C E j G d=>?_
 let w:=I.dropped f v (λ_ _ _ e=>e) rfl rfl;let J:=I.dropped f v C E j;let lt:=let⟨_,j,_⟩:=b;Zu j;show%[.ref ⇑s,_,w.stoodS (o:= .lst ys.reverse) J (Zi _) %[?_,acc.toList,c,?_|?_],ρ|q _ (w.hok.fresh (Zi _)) (Yz lt)]
 .rw[Ul];show z
 .rw[d];show B.reverse
 .show G
abbrev xB(b:TE):TE:=λc H Q=>b c H λv a=>∃l ys,v= .ref l/\a l<*ys/\∀p,a p=eH->Q (.ref p) (Qa a p (.lst ys.reverse))
def EW{X:Cx}(h:X.calm=fI)(i:Gl X "reversed")(j:X.mg "reversed"=eH)(a:Gl X "list")(b:X.mg "list"=eH)(d:aV e=fS)(m:QE X e n):
 QE X (.Call (.Name "list" o) [.Call (.Name "reversed" s) [e] [] u] [] w) (xB n):=by
 let y:QE X (.Call (.Name _ s) [e] [] u) _:=ctE ⟨Cs⟩ i j W8 rfl rfl (by simp[d]) (paE d (⟨JY m.h⟩) am);let z:=ctE (p:=o) (pos:=w) ⟨xA h⟩ a b QD rfl rfl rfl (paE rfl y am);show⟨JZ z.h λB H Q q=>?_⟩;show%[_,q|λv C ⟨l,ys,A,c,q⟩=>%[l,ys,by rw[A],Qb.of c|λr f=>?_]];show%[r,l,ys,ρ,by rw[av (aC c f)];show c,af|λp g _=>?_];rw[Er f]at g ⊢;show q p g
section
variable{X:Cx}
abbrev Kq:R2:=λx y H Q=>asR x λa=>asR y λb=>∃xs,H a<*xs/\H b<*[]/\Q (.bl (decide (xs≠[]))) H
def Kr(B:X.A.units+64<O8):OpR X (pw .NotEq) Kq:=by
 intro ff s C H x y v u Q I l m h;let%[a,rfl|o]:=aU h;let%[b,rfl,xs,p,w|q]:=aU o;cases l;cases m;let%[z,its,n,r,g|e]:=I.lstM p;let%[E,its2,i,G,d|c]:=I.lstM w;obtain rfl:its2=[]:=y2.mp d.symm;by_cases f:xs=[]
 .subst f;obtain rfl:its=[]:=y2.mp g.symm;show UK (op:= .NotEq) %[_,e|rfl] %[_,c|rfl] PySem.F.slot_list_ne PySem.F.entry_list_ne (PySem.F.args_list_ne_2 _ _) (SeqAt.list_neAt a b #[] #[] n i eH eH #[] #[] rfl λ_=>fI) %[e,c,λj h=>m4 h (X4 j),by simp,.bl _,H,I,rfl|q] ⋯
 .let A:its.toArray.size≠0:=by
   rw[Zp,<-g];show λq=>f (y2.mp q)
  rw[Zf f]at q;show UK (op:= .NotEq) %[_,e|rfl] %[_,c|rfl] PySem.F.slot_list_ne PySem.F.entry_list_ne (PySem.F.args_list_ne_2 _ _) (SeqAt.list_ne_lengthsAt a b its.toArray #[] n i eH eH #[] #[] ↑A) %[e,c,by simp,.bl fI,H,I,rfl|q] ⋯
def t4(a:bB k X.A):OpQ X (pw .NotEq) Kq:=⟨Kr a.units⟩
#where
def gC(I:dV i->j->kj->Prop):∀(xs:dV i) (b:j) (s:kj),I xs b s->
 (∀x r b s,I (x::r) b s->↥A (f x b) (λy s'=>match y with| .done c=>Q c s'| .yield c=>I r c s') E s)->(∀b s,I [] b s->Q b s)->↥A (forIn xs b f) Q E s
 |[],b,s,h,_,a=>by
  show Z3 (a b s h)
 | x::r,b,s,h,d,a=>by
   rw[R4];show Z2 (J5 (d x r b s h) (λy s' g=>?_) λ_ _ e=>e);cases y with
   | done c=>show Z3 g
   | yield c=>show gC I r c s' g d a
def EX:∀as {Q:pp->kj->Prop},(∀b∈as,∃c,bH w b c s.heap)->Q fI s->↥A (setsQuiet as) Q E s:=by
 intro as Q h j;show Z2 (gC (λr b s'=>(∀b∈r,∃c,bH w b c s.heap)/\b=(eH,())/\s'=s) as _ s %[h,rfl|rfl] ?_ ?_)
 .intro x r b s' %[f,rfl|rfl];let%[c,o,es,B,t,ss,l,m,n,p,C,q,d,G,v,y|g]:=f x Zm;show Z2 (Oe l n v (Z2 ?_));rw[<-QZ];show gC (λr b a=>(∀e∈r,∃z u,e=(Nz w z,Mf z u))/\b=(eH,())/\a=s') es.toList _ _ %[d,rfl|rfl] ?_ ?_
  .intro e r b a %[i,rfl|rfl];let%[z,u|rfl]:=i e Zm;show Z3 %[λe h=>i e (Zk _ h),rfl|rfl]
  .intro b a %[_,rfl|rfl];show Z3 %[λe h=>f e (Zk _ h),rfl|rfl]
 .intro b s' %[_,rfl|rfl];show Z3 j
abbrev hsE(w:vk)(p:iv×Tok):nX×hV:=(Nz w p.1,.str p.1 p.2)
def bH.texts{a:ij}{h:v0}{o:NQ}{es:nY (nX×hV)}(c:MF (es.toList\2) ss)(f:ss.Perm ks)(d:∀e∈es.toList,∃z u,e=(Nz w z,Mf z u))(xs:dV (nX×hV))(b:xs.Perm es.toList):∃zs:dV (iv×Tok),xs=zs.map (hsE w)/\(zs\1).Perm ks:=by
 let all:∀l,(∀e∈l,∃z u,e=(Nz w z,Mf z u))->∃zs:dV _,l=zs.map (hsE w):=λl=>by
  induction l with
  | nil=>show λ_=>%[[]|rfl]
  | cons e l g=>
    intro h;let%[z,u|rfl]:=h e Zm;let%[zs|rfl]:=g λx b=>h x (Zk _ b)
    show%[(z,u)::zs|ρ]
 let%[zs|rfl]:=all xs λe i=>d e (b.mem_iff.mp i)
 show%[zs,ρ|?_];let%[ts,j|m]:=cH c (b.map _);let e:ts=zs\1:=by
  rw[<-j.strs,Ys,Ys];rfl
 show e▸m.trans f
def t5{f:dV ij}{c:ZI}{Q:nY (nX×hV)->kj->Prop}(T:bH w a ks s.heap)(hO:∀b∈f,∃js,bH w b js s.heap)(m:∀r,c∣r->r≠a/\bH w r [] s.heap)
 (hQ:∀(zs:dV (iv×Tok)) (d:Drawn) (h':v0),(zs\1).Perm ks->(∀b o,c≠fx b->s.heap.get? b∣o->h'.get? b∣o)->(∀r,c∣r->bH w r [] h')->Q (zs.map (hsE w)).toArray {s with heap:=h',drawn:=d}):
 ↥A (setWalkUnseen a f c) Q E s:=by
 let%[o,es,ep,t,ss,U,ac,Y,I,hp,ae,J,H,hf,L|g]:=id T;let fin:∀(xs:dV _) d h',xs.Perm es.toList->(∀b o,c≠fx b->s.heap.get? b∣o->h'.get? b∣o)->(∀r,c∣r->bH w r [] h')->Q xs.toArray {s with heap:=h',drawn:=d}:=λxs d h' hx q h2=>by
  let%[zs,rfl|hz]:=bH.texts (a:=a) (h:=h') (o:=o) I hp J xs hx;show hQ zs d h' hz q h2
 let walk:↥A (setWalk a) Q E s:=by
  show Z2 (on U Y hf ?_);change oT _ _ (if a8 w=fI then _ else _) _ _ _;by_cases M:a8 w=fI
  .rw[jg M];show Z2 (MV (Z3 ?_));let:=fin (NN (w.params.setOrder a ep) es).toList s.drawn s.heap (tL _ _) (λ_ _ _ e=>e) λr e=>(m r e).2
   show this
  .rw[hX M]
   split
   .show Z2 (vw es.size es.toList _ _ ∅ λys d p=>Z3 (fin ys d s.heap p (λ_ _ _ e=>e) λr e=>(m r e).2))
   .show Z2 ?_;change oT _ _ (if(!t.led&&decide _)=fI then Pq _ else pure ()) _ _ _;rw[g,show a8 w=fS by simpa using M];show Z3 (Z3 ?_);let:=fin es.toList s.drawn s.heap (.refl _) (λ_ _ _ e=>e) λr e=>(m r e).2
    show this
 show Z2 (on U Y hf ?_);change oT _ _ (if(a8 w||t.led&&t.plain||decide _)=fI then _ else _) _ _ _;by_cases q:(a8 w||t.led&&t.plain||decide (es.size<=1))=fI
 .rw[jg q];show walk
 .rw[hX q];show Z2 (EX _ (λb H=>?_) ?_)
  .rcases Yw.mp H with e|e
   .show e▸%[_|T]
   .show hO b e
  show Z2 (Oz ?_);cases c with
  | none=>
    let:=fin es.toList s.drawn s.heap (.refl _) (λ_ _ _ e=>e) λr e=>(m r e).2
    show Z3 this
  | some r=>
    let%[ne,o2,N,ag,n,ak,i,u,j,v,O,y,B,C,G,ab|l]:=m r rfl;dsimp only;show Z2 (on i j G ?_)
    split
    .show Z2 (NC i j ?_ (NE C));let:=fin es.toList s.drawn _ (.refl _) (λb o H e=>((tI.update s.heap r (NP N {n with led:=n.led&&t.led,plain:=n.plain&&t.plain})).2 b λz=>H (by rw[z])).trans e) λr' e=>?_
     .show Z3 this
     .cases e;show(bH.stored (t':={n with led:=n.led&&t.led,plain:=n.plain&&t.plain}) i u j v O y B C G (by rw[(L λz=>q (by rw[z];simp)),M7]) (by rw[l,g,Tc])).2
    .let:=fin es.toList s.drawn s.heap (.refl _) (λ_ _ _ e=>e) λr e=>(m r e).2
     show Z3 this
def Hg(h:kH (hY z) (Mf y u)=fI):y=z:=by
 rcases bh h with⟨i,t',a,b⟩|⟨c,t',a,b⟩
 .lia
 grind
def xC{ks:ZB}(g:s.heap.get? a∣o)(i:o.data= .set es G t)(b:∀e∈es.toList,∃z u,e=(Nz w z,Mf z u))(B:es.size<OK)(l:t.fits es.size=fI)
 (m:∀r,(r=eH->∀e∈es.toList,∀u,e.2≠ .str z u)->(∀j,r∣j->∃u,es.toList[j]?∣(Nz w z,.str z u))->Q r s):↥A (setFind a (.str z tk) (Nz w z)) Q E s:=by
 let n:ElemsOf (aX prog w) es.toList:=tK b;let c:(aX prog w).is (hY z) (.str z tk)=fI:=eM z tk;show Z2 (on g i l ?_);dsimp only;rw[byScan_of rfl B n];show Z2 (Oz (Z2 (Wy c g i l n ?_)));cases p:V4 _ es.toList with
 | some j=>
   let%[v,d|_]:=RA.mp p;dsimp only;rw[Sc];show Z3 (m _ (λh=>(nomatch h)) λH e=>?_);cases e;let%[y,u|f]:=b _ (Yd v);rw[f]at d;rw[Hg (u:=u) d]at f;show%[u|by rw[Z4 v,f]]
 | none=>
   show Z3 (m eH (λ_ e C u q=>?_) λj e=>(nomatch e));let:=SX.mp p e C;rw[q,show(aX prog w).is (hY z) (Mf z u)=fI from eM z u]at this;cases this
def EY{P D M n i b:hH}(h:P=n/\P+D<=M)(hi:i<n):min i P+(P-(i+1))=n-1/\min i P+(P-(i+1)) +(min b D+1+(D-b))<=M:=by
 let%[rfl|h]:=h;let e:=hH.sub_add_min_cancel D b;let k:i+1+(P-(i+1))=P:=hH.add_sub_of_le hi;rw[Qi (Yf hi),hH.min_comm b D]
 generalize min D b=x at e ⊢
 generalize D-b=y at e ⊢
 generalize P-(i+1)=z at k ⊢
 show%[⋯|⋯]
def Ct{t:lx}(h:t.fits n=fI)(hi:i<n):(t.drop i).fits (n-1)=fI/\(t.drop i).led=t.led/\(t.drop i).plain=t.plain:=by
 unfold N3 at h ⊢;rw[Zv,NG,Mg]at h;unfold lx.drop;let:t.place[i]?∣t.place[i]:=by simp
 rw[this];show%[?_,ρ|ρ];rw[Zv,NG,Mg];unfold QJ at h ⊢;simp only[Ou,lx.insertAt,Rn,nY.size_extract,Xi,hH.min_self,Vh];show EY h hi
def zR(h:i<es.size):(Ou es i).toList=es.toList.eraseIdx i:=by
 rw[OM,Ou,Xd,Ri,Ri,N4,N4];simp;show Zn ∅
def xD{ks:ZB}(H:bH w a ks s.heap)(l:∀h' b,tI a s.heap h'->bH w a (ks.erase z) h'->Q b (s>>>h')):↥A (setDiscardHashed a (.str z tk) (Nz w z)) Q E s:=by
 let%[o,es,ep,t,ss,g,m,h,c,I,n,d,J,p,v|f]:=id H;show Z2 (xC (ks:=ks) g h d J p λr L M=>?_);cases r with
 | none=>
   let N:z∉ks:=λq=>by
    let%[u|j]:=(eZ c).mpr (I.mem_iff.mpr q);let%[e,y|O]:=Xo j;show L rfl e y u O
   rw[dV.erase_of_not_mem N]at l;show Z3 (l s.heap fS (tI.refl a s.heap) H)
 | some i=>
   let%[u|j]:=M i rfl;let hi:i<es.size:=(Xl j).1;let B:((Nz w z,Mf z u)::(Ou es i).toList).Perm es.toList:=by
    rw[zR hi];let:=i9 (xs:=es.toList) (hi);rwa[(Xl j).2]at this
   let%[ts,C|T]:=cH c (B.map _);cases C with
   | cons _ _ C=>
   let%[U,Y|d3]:=Ct p hi;let G:(Ou es i).size=es.size-1:=by
    rw[<-Zb,<-Zb,<-B.length_eq];simp
   show Z2 (on g h p ?_);dsimp only;show Z2 (NC g h (Z2 (wpAny_point (Z3 (l _ fI (tI.update s.heap a _) (bH.stored g m h C ((dV.cons_perm_iff_perm_erase.mp (T.trans I)).2) (n.erase z) (λe y=>d e (B.mem_iff.mp (Zk _ y))) ?_ ?_ ?_ ?_).2)))) (NE ?_))
   .lia
   .show G▸U
   .show d3▸v ⋯
   .show Y▸f
   .lia
end
def AL(h:_ST.WF t es)(a:es.size<=t.mask):t.fits es.size=fI:=by
 unfold N3 QJ;rw[h.size,h.dum];simpa using a
section
#where
abbrev vR(w:vk)(a:ij)(n:hH)(h:v0):Prop:=∃o b t,h.get? a∣o/\o.ExactSet/\o.data= .set #[] b t/\t.place= #[]/\t.dummies= #[]/\t.led=(!a8 w)/\(∃k,t.mask+1=2^k)/\7<=t.mask/\n<=t.mask
def vR.fits{t:lx}(a:t.place= #[])(b:t.dummies= #[]):t.fits (#[]:nY (nX×hV)).size=fI:=by
 unfold N3 QJ;rw[a,b];simp
def Hh{n:hH}{Q:So->kj->Prop}(a:s.heap.get? r∣bV w)(f:n<=1000)(c:∀h',tI r s.heap h'->vR w r n h'->Q () (s>>>h')):↥A (setRoomFor r n) Q E s:=by
 let d:(O9 0 0 (!a8 w)).fits _=fI:=vR.fits rfl rfl;show Z2 (on a rfl d ?_);change oT _ _ (match(if(0+n)*5>=7*3 then fx ((0+n)*2)else eH)with|some x=>Vk r x|_=>pure ()) _ _ _;by_cases h:(0+n)*5>=7*3
 .rw[jg h];show _ST.relay_w a rfl d ∅ ⋯ λb t' P W l p g m2=>c _ (tI.update s.heap r _) ?_
  obtain rfl:b= #[]:=by
   let:=P.length_eq;simpa using this
  let e:=by
   let q:=Mo (NP #[] t') a (by rfl);rwa[RC #[] t' rfl]at q
  show%[_,_,t',e,%[ρ,ρ|ρ],ρ,RR W.size,W.dum,l,W.pow,W.big|⋯]
 .rw[hX h];show Z3 (c s.heap (tI.refl r s.heap) %[_,_,_,a,%[rfl,rfl|rfl],rfl,rfl,rfl,rfl,%[3|rfl],Zi 7|by change n<=7;lia])
def EZ{ks:ZB}(L:bH w a ks s.heap)(M:s.heap.get? r∣bV w)(ne:r≠a)(h1:1<= ~~~ks)(h2: ~~~ks<=1000)(N:∀h',tI r s.heap h'->bH w r ks h'->Q () (s>>>h')):↥A (setMerge r a) Q E s:=by
 let%[o,es,ep,t,ss,O,T,U,m,C,y,z,hb,G,B|d]:=id L;let hn:es.size= ~~~ks:=by
  let q:=cb m;rw[Z6,Zb,C.length_eq]at q;show q
 let pl:t.plain=fS:=B ⋯;unfold setMerge;rw[hX ↑ne];show Z2 (on O U G ?_);dsimp only;rw[hX (λh:es.isEmpty=fI=>by let:=Zo h;lia)];show Z2 (Hh M ⋯ λh' Y ⟨o2,ab,n,g,u,i,H,I,J,k2,b2,m2⟩=>Z2 (on (s:=(s>>>h')) g i (vR.fits H I) ?_));dsimp only;let j:n.fill=0:=by unfold QJ;rw[H,I];rfl
 let put:∀(b:nY (nX×hV)) (t':lx),b.toList.Perm es.toList->t'.fits b.size=fI->t'.plain=fS->t'.led=(!a8 w)->↥A (Vi r b t') Q E (s>>>h'):=λb t' P f p l=>by
  let sz:b.size=es.size:=by rw[<-Zb,P.length_eq,Zb]
  let%[ts,r1|r2]:=cH m (P\2);show NC (s:=(s>>>h')) g i (N _ (Y.trans (tI.update h' r _)) (bH.stored (w:=w) g u i r1 (r2.trans C) y (λe he=>z e (P.mem_iff.mp he)) ⋯ f p l).2) (NE ⋯)
 unfold lx.road;rw[j,hX (!1)]
 split
 .show put es _ (.refl _) G (by change(n.plain&&t.plain)=fS;rw[pl,M7]) (by change(n.led&&t.led)=_;rw[J,d,Tc])
 .let%[k|hk]:=k2;let%[t',c,e1,e2,e3,e4,e5,W|P]:=_ST.laid_ok hk b2 es ⋯ n.finger n.moves _ _;let sz:(c.filterMap (es[·]?)).size=es.size:=by rw[<-Zb,P.length_eq,Zb]
  rw[e1];show Z2 ?_;change oT _ A (if((c.filterMap _).size != es.size)=fI then _ else pure _) _ E _;rw[hX (by simp[sz])];show Z3 (put _ t' P (show t'.fits _=fI from AL W (by rw[sz,e2];lia)) (by rw[e4,pl,M7]) (by rw[e3,J,d,Tc]))
 .rename_i v
  split at v<;> cases v
end
def bH.nd(S:bH w a ks h):ks.Nodup:=by
 let%[_,_,_,_,_,_,_,_,_,_,h|_]:=S;show h
section
#where
def vS(c:bH w b f s.heap)(d:Q fI s):↥A (VF (.ref b)) Q E s:=by
 let%[o,es,g,t,ss,e,a|_]:=c;show Z2 (NM (b:=fI) %[o,e|a.1] (by kernel_rfl) (Z3 d))
def lW(d:bH w b e s.heap)(f:Q e.length s):↥A (Q4 b) Q E s:=by
 let%[o,es,u,t,ss,g,h,i,a,j,l,m,v,n,p|c]:=d;let r:=by
  let q:=cb a;rw[Z6,Zb,j.length_eq]at q;show q
 show Z2 (Oe g i n (Z3 (r▸f)))
def E7(N:bH w r ks s.heap)(O:bH w b T s.heap)(ne:r≠b)(big: ~~~T< ~~~ks)(few: ~~~ks<=900)
 (hQ:∀h' d f,(∀c o,c≠r->s.heap.get? c∣o->h'.get? c∣o)->(∀x,x∈f↔x∈ks/\x∉T)->bH w r f h'->Q () {s with heap:=h',drawn:=d}):↥A (PH nm r (.ref b)) Q E s:=by
 unfold PH;rw[hX (by simpa using ne.symm)];show Z2 (vS O ?_);rw[jg rfl];show Z2 (Z3 (Z2 (lW O (Z2 (lW N ?_)))));rw[hX ⋯];let%[o,es,ep,t,ss,ho,al,hd,an,hp,ao,ap,hb,hf,aq|ak]:=id O;let B:∀(s':kj) (Q':hH->kj->Prop),s'.heap.get? b∣o->Q' ep s'->↥A (TB b) Q' E s':=λs' Q' e q=>by
  unfold TB;show Z2 (on e hd hf (Z3 q))
 show Z2 (B s _ ho (Z2 (ra (Z2 (t5 O (λc j=>%[ks|(Xn j)▸N]) (λ_ e=>(nomatch e)) λzs d h1 pz k1 _=>Z2 ?_)))));rw[<-QZ];show gC (λxs _ s'=>∃g rest h',zs=g++rest/\xs=rest.map (hsE w)/\s'={s with heap:=h',drawn:=d}/\(∀c o,c≠r->s.heap.get? c∣o->h'.get? c∣o)/\∃f,bH w r f h'/\∀x,x∈f↔x∈ks/\x∉g\1) _ _ _
  %[[],zs,h1,rfl,rfl,rfl,λc o _ e=>k1 c o ∅ e,ks,N.keep λo e=>k1 r o ∅ e|by simp] ?_ ?_
 .intro x xs _ s' %[g,rest,h',U,ex,rfl,Y,f,S|h];cases rest with
  | nil=>cases ex
  | cons p rest=>
  rw[Yq]at ex;injection ex with ab ac
  subst ab;show Z2 (ra (xD (z:=p.1) (tk:=p.2) (s:={s with heap:=h',drawn:=d}) S λh2 bb sb S2=>Z2 ?_));unfold Ol;let C:∀c o,c≠r->s.heap.get? c∣o->h2.get? c∣o:=λc o j e=>(sb.2 c j).trans (Y c o j e)
  show Z2 (B {s with heap:=h2,drawn:=d} _ (C b o ne.symm ho) ?_);rw[hX ∅];show Z3 (Z3 %[g++[p],rest,h2,by rw[U,Ze];rfl,ac,rfl,C,_,S2|λx=>?_]);rw[S.nd.mem_erase_iff,h,Zd,Yt,Yq,Sj,Yy,OW]
  constructor
  .show λ⟨a,b,c⟩=>%[b,c|a]
  .show λ⟨b,c,a⟩=>%[a,b|c]
 .intro _ s' %[g,rest,h',U,ex,rfl,Y,f,S|h];obtain rfl:rest=[]:=by
   cases rest with
   | nil=>rfl
   | cons p rest=>cases ex
  rw[Zx]at U;let h:∀x,x∈f↔x∈ks/\x∉T:=λx=>by rw[h,<-U,pz.mem_iff]
  let ae: ~~~f≠0:=λe=>by
   let:=_ST.nodup_sub N.nd (m:=T) λx hx=>MW λq=>by
    let:=(h x).mpr %[hx|q];rw[y2.mp e]at this;cases this
   lia
  let sub:=_ST.nodup_sub S.nd λx hx=>((h x).mp hx).1
  show Z3 ?_;let%[o2,n,as,t2,ax,u,G,v,i,H,I,J,a0,L,M|y]:=id S;let hn:=by
   let q:=cb i;rw[Z6,Zb,H.length_eq]at q;show q
  show Z2 (on u v L ?_);dsimp only
  split
  .rw[show Nj n.size=n.size*4 by unfold Nj;rw[hX ⋯]];show _ST.relay_w u v L ⋯ ⋯ λag t' P W l p m1 m2=>?_
   let sz:ag.size=n.size:=by rw[<-Zb,P.length_eq,Zb]
   let%[ts,r1|r2]:=cH i (P\2);show hQ _ d f (λc o j e=>((tI.update h' r _).2 c j).trans (Y c o j e)) h (bH.stored u G v r1 (r2.trans H) I (λe he=>J e (P.mem_iff.mp he)) ⋯ (AL W ⋯) (p▸M ⋯) (l▸y)).2
  .show Z3 (hQ h' d f Y h S)
def xE(a:Q (.ref ⇑s) (s>>>s.heap.push (bV w))):↥A (newSet (.type "set")) Q E s:=by
 show Z2 (Z2 (MV (Z3 (ME a))))
def xF(d:bH w a ks s.heap)(e:Q (.type "set") s):↥A (VH a) Q E s:=by
 let%[o,es,g,t,ss,f,c|_]:=d;show Z2 (NM (b:=fI) %[o,f|c.1] (by kernel_rfl) (Z3 e))
def Hi(v:bH w a ks s.heap)(C:bH w b I s.heap)(few: ~~~ks<=900)
 (hQ:∀h' d i,(∀c o,s.heap.get? c∣o->h'.get? c∣o)->(∀x,x∈i↔x∈ks/\x∉I)->bH w ⇑s i h'->Q (.ref ⇑s) {s with heap:=h',drawn:=d}):↥A (Qs nm a (.ref b)) Q E s:=by
 let lt:∀{c:ij} {ls:ZB},bH w c ls s.heap->c≠⇑s:=λ{c ls} h=>by
  let%[o,_,_,_,_,U|_]:=h;show Zs (Zu U)
 let J:∀c o,s.heap.get? c∣o->(s.heap.push (bV w)).get? c∣o:=λc o e=>Z7 _ e
 let Y:(s.heap.push (bV w)).get? ⇑s∣bV w:=Zj _ rfl;let S1:=v.keep λo e=>J a o e
 let O1:=C.keep λo e=>J b o e
 unfold Qs;dsimp only;show Z2 (vS C ?_);rw[hX (!1)];show Z2 (Z3 ?_);rw[hX ∅,jg rfl];show Z2 (lW C (Z2 (lW v ?_)))
 generalize hG:s.heap.push (bV w)=G at J Y S1 O1
 split
 .show Z2 (Oz (Z2 ?_));unfold VG;show Z2 (xF v (Z2 (xE ?_)));rw[hG];show Z2 (Z3 (Z2 (EZ (s:=(s>>>G)) S1 Y (zr (lt v)) ⋯ ⋯ λh1 sb R1=>Z3 ?_)));let k1:∀c o,s.heap.get? c∣o->h1.get? c∣o:=λc o e=>(sb.2 c (Zs (Zu e))).trans (J c o e)
  show Z2 (Z3 (Z2 (ra (E7 (s:=(s>>>h1)) R1 (C.keep λo e=>k1 b o e) (zr (lt C)) ⋯ few λl d i k2 y M=>Z3 (hQ l d i (λc o e=>k2 c o (Zs (Zu e)) (k1 c o e)) y M)))))
 .show Z2 (xF v (Z2 (xE ?_)));rw[hG];show Z2 (Z3 ?_);let%[o,es,ep,t,ss,U,as,hd,ax,hp,a0,a1,hb,hf,a2|an]:=id S1;let L:∀(s':kj) (Q':hH->kj->Prop),s'.heap.get? a∣o->Q' ep s'->↥A (TB a) Q' E s':=λs' Q' e q=>by
   unfold TB;show Z2 (on e hd hf (Z3 q))
  show Z2 (L (s>>>G) _ U ?_);rw[jg rfl];show Z2 (ra (Z2 (t5 (s:=(s>>>G)) S1 (λc B=>?_) (λr e=>⟨by cases e;show zr (lt v),by cases e;show bH.empty Y⟩) λzs d h1 pz k1 r1=>Z2 ?_)))
  .simp only[Yw,X6,MN]at B;rcases B with rfl|rfl
   .show%[_|O1]
   .show%[_|bH.empty Y]
  rw[<-QZ];show gC (λxs _ s'=>∃f rest h',zs=f++rest/\xs=rest.map (hsE w)/\s'={s with heap:=h',drawn:=d}/\(∀c o,c≠⇑s->G.get? c∣o->h'.get? c∣o)/\∃i,bH w ⇑s i h'/\ ~~~i<= ~~~f/\∀x,x∈i↔x∈f\1/\x∉I) _ _ _
   %[[],zs,h1,rfl,rfl,rfl,(λc o B e=>k1 c o (λq=>B (Za q).symm) e),[],r1 _ rfl,Zi _|by simp] ?_ ?_
  .intro x xs _ s' %[f,rest,h',H,ex,rfl,g,i,M,ml|y];cases rest with
   | nil=>cases ex
   | cons p rest=>
   rw[Yq]at ex;injection ex with ab N
   subst ab;let zl: ~~~zs= ~~~ks:=by rw[<-pz.length_eq,Z6]
   let pl: ~~~f< ~~~ks:=by rw[<-zl,H,Z9,Zr];lia
   rw[jg rfl];let m:∀(l:v0) Qx,(∀c o,c≠⇑s->G.get? c∣o->l.get? c∣o)->Qx (.yield ⟨⟩) {s with heap:=l,drawn:=d}->↥A (Ol nm a ep>>= λ_=>pure (OO PUnit.unit)) Qx E {s with heap:=l,drawn:=d}:=λl Qx k2 q=>by
    show Z2 ?_;unfold Ol;show Z2 (L {s with heap:=l,drawn:=d} _ (k2 a o (lt v) U) ?_);rw[hX ∅];show Z3 (Z3 q)
   let mem:∀x,x∈(f++[p])\1↔x∈f\1\/x=p.1:=λx=>by rw[Zd,Yt,Yq,Sj,Yy]
   let%[o2,a3,a4,t2,a5,ac,ao,ae,n,O,ap,T,ag,ak,aq|al]:=id O1;show Z2 (ra (Z2 (xC (ks:=I) (z:=p.1) (tk:=p.2) (g b o2 (lt C) ac) ae T ag ak λq q1 q2=>Z2 (Z3 ?_))));cases q with
   | none=>
     let hz:p.1∉I:=λz=>by
      let%[u|hu]:=(eZ n).mpr (O.mem_iff.mpr z);let%[e,he|q3]:=Xo hu;show q1 rfl e he u q3
     rw[jg (by rfl)];show Z2 (lN (z:=p.1) (tk:=p.2) M (by rw[show OK=4096 from rfl];lia) λl bb sb M2=>Z3 ?_);let k2:=λc o B e=>(sb.2 c B).trans (g c o B e)
     show m l _ k2 %[f++[p],rest,l,by rw[H,Ze];rfl,N,rfl,k2,_,M2,?_|λx=>?_]
     .rw[Z9,Yk]
      split
      .lia
      .rw[Z9,Yk];lia
     .rw[mem];by_cases hx:x=p.1
      .subst hx;show%[λ_=>%[.inr rfl|hz]|λ_=>?_]
       split
       .rename_i h;show h
       .show Yv _ Zm
      .split
       .rw[y];show%[λh=>%[.inl h.1|h.2]|λh=>%[h.1.resolve_right hx|h.2]]
       .rw[Yt,Yy,y];show%[λh=>let h:=h.resolve_right hx;%[.inl h.1|h.2]|λh=> .inl %[h.1.resolve_right hx|h.2]]
   | some j=>
     let hz:p.1∈I:=by
      let%[u|hu]:=q2 j rfl;show O.mem_iff.mp ((eZ n).mp %[u|Xp %[_,Z8 hu|rfl]])
     rw[hX ∅];show Z3 (m h' _ g %[f++[p],rest,h',by rw[H,Ze];rfl,N,rfl,g,i,M,by rw[Z9];lia|λx=>?_]);rw[y,mem];show%[λh=>%[.inl h.1|h.2]|λh=>%[h.1.resolve_right λe=>h.2 (e▸hz)|h.2]]
  .intro _ s' %[f,rest,h',H,ex,rfl,g,i,M,ml|y];obtain rfl:rest=[]:=by
    cases rest with
    | nil=>rfl
    | cons p rest=>cases ex
   rw[Zx]at H;show Z3 (Z3 (hQ h' d i (λc o e=>g c o (Zs (Zu e)) (J c o e)) (λx=>by rw[y,<-H,pz.mem_iff]) M))
end
def vT:Sl Wi "set.__sub__"=fx nI.«frozenset.__sub__»:=TQ (id':="frozenset.__sub__") (by kernel_rfl) rfl (!0) (by kernel_rfl)
section
variable{X:Cx}
abbrev E8(w:vk):R2:=λx y H Q=>asR x λa=>asR y λb=>∃ks d,H a∣oN w a ks/\H b∣oN w b d/\ ~~~ks<=900/\∀l c,H l=eH->(∀x,x∈c↔x∈ks/\x∉d)->c.Nodup->Q (.ref l) (Qa H l (oN w l c))
def Hj:OpR X (MP .Sub) (E8 X.w):=by
 intro ff s A H x y v u Q I l m h;let%[a,rfl|n]:=aU h;let%[b,rfl,ks,B,p,r,few|q]:=aU n;cases l;cases m;let%[S,_|_]:=(I.hok a _ p)
 let%[O,_|_]:=(I.hok b _ r)
 let e:∀{c:ij} {i:ZB},bH X.w c i s.heap->s.TypeIs (.ref c) _:=λ{c i} h=>by
  let%[o,es,C,t,ss,f,g|_]:=h;show%[o,f|g.1]
 show wpAny_binaryOp_same (e S) (e O) F.fills_set_sub WY (My WY (e S) vT (Z2 (Z2 (Z3 (Z3 (Z2 (Z2 (vS S (vS O (Z2 (Z3 (Z2 (Hi S O few λh' d j k w M=>Z3 %[_,rfl,by simp,.ref ⇑s,_,I.stoodS (o:=oN X.w ⇑s j) (I.keptS k rfl rfl) (Zi _) %[M,?_|λ_ _ z k1=>bH.keep z k1],rfl|q _ j (I.hok.fresh (Zi _)) w M.nd])))))))))))) (F.args_set_sub_2 _ _));let%[o,_,_,_,_,f|_]:=M;show%[o|f]
def Ks(h:X.w=w):OpQ X (MP .Sub) (E8 w):=by subst h;show⟨Hj⟩
end
def lZ{X:Cx}(a:bB k X.A)(b:MQ .NotIn o=fS)(hi:QE X i ty)(c:QE X o d):QT X (.Compare i [.NotIn] [o] pos) (tB (vg ty d)):=
 ⟨CV (BQ (by let:=a.units;lia) hi.h c.h) b⟩
open PySem PySem.Spec PyProof.Rows PySem.SeqAt
section
variable{X:Cx}
variable{K:ZA}{pos:Pos}
def aa(i:hH){x:iv}(h:(X.N[i]?,X.env.scope.names.lookup x,x==("__debug__":iv),x==("__classdict__":iv))=(fx x,fx .local,fS,fS)):QE X (.Name x pos) (rH i):=by
 simp only[Nd]at h;show vn i h.1 (.inl h.2.1) h.2.2.1 h.2.2.2
def bT(i:hH){x:iv}(h:(X.N[i]?,X.env.scope.names.lookup x,x==("__debug__":iv),x==("__classdict__":iv))=(fx x,fx .cell,fS,fS)):QE X (.Name x pos) (rH i):=by
 simp only[Nd]at h;show vn i h.1 (.inr (.inl h.2.1)) h.2.2.1 h.2.2.2
def aJ{mg:ZC}{j k:hH}{x:iv}{ps:ZB}{sp:Sp}{p:Pos}{e:wh}{es:dV wh}{t:TA}(C:Cal X.prog X.w K mg X.base j x ps sp)(a:bB k X.A)(h:(X.K,X.mg,X.env.kindOf x,O6 j k,x==("__debug__":iv),(e::es).any aV)=(K,mg,fx .globalImplicit,fI,fS,fS))(b:QA X (e::es) t):QE X (.Call (.Name x p) (e::es) [] pos) (sP sp [] E0 t):=by
 simp only[Nd]at h;let%[rfl,rfl|h]:=h;show calE C a h.1 h.2.1 h.2.2.1 h.2.2.2 b
def Ic{mg:ZC}{j k:hH}{x:iv}{ps:ZB}{sp:Sp}{p:Pos}{e:wh}{es:dV wh}{t:TA}(C:G3 X.prog X.w K mg X.base j x ps sp)(c:xv K mg x)(a:bB k X.A)(h:(X.K,X.mg,X.env.kindOf x,O6 (j+1) k,x==("__debug__":iv),(e::es).any aV)=(K,mg,fx .globalImplicit,fI,fS,fS))(b:QA X (e::es) t):QE X (.Call (.Name x p) (e::es) [] pos) (Aq (aP mg x) sp [] E0 t):=by
 simp only[Nd]at h;let%[rfl,rfl|h]:=h;show Lw C c a h.1 h.2.1 h.2.2.1 h.2.2.2 b
def t7{mg:ZC}{j k:hH}{x m:iv}{ps:ZB}{sp:Sp}{a:Pos}{o:wh}{b:TE}{pl:Sem pp}(C:Cj X.prog X.w K mg X.base j x m ps sp)(c:xv K mg x)(e:bB k X.A)(h:(X.K,X.mg,O6 j k)=(K,mg,fI))
 (g:MO (.Call (.Attribute o m a) [] [] pos) X.env=(do
  let d<-MO o X.env
  OS a.atName
  let(f,first)<-Oq [d] (QC d m pl)
  TU pos f first (Nm pos (ri [] X.env)) (O3 pos (ND [] X.env)))) (i:QE X o b):QE X (.Call (.Attribute o m a) [] [] pos) (Ap (aP mg x) m sp [] E0 b y4):=by
 simp only[Nd]at h;let%[rfl,rfl|h]:=h;show Ki C c e h g i
def cbO{x:iv}{id:Mv}{r:dV V->Hp->VK->Prop}{p:Pos}{e:wh}{es:dV wh}{t:TA}(a:cG X (.builtin id) r)(b:X.mg x=eH)(c:M8 x∣.builtin id)(h:(X.env.kindOf x,x==("__name__":iv),x==("__debug__":iv),(e::es).any aV)=(fx .globalImplicit,fS,fS,fS))(d:QA X (e::es) t):QE X (.Call (.Name x p) (e::es) [] pos) (tCB r t):=by
 simp only[Nd]at h;show cbE a h.1 b c h.2.1 h.2.2.1 h.2.2.2 d
def ctO{x:iv}{T:Mv}{r:dV V->Hp->VK->Prop}{p:Pos}{e:wh}{es:dV wh}{t:TA}(a:cG X (.type T) r)(b:X.mg x=eH)(c:M8 x∣.type T)(h:(X.env.kindOf x,x==("__name__":iv),x==("__debug__":iv),(e::es).any aV)=(fx .globalImplicit,fS,fS,fS))(d:QA X (e::es) t):QE X (.Call (.Name x p) (e::es) [] pos) (tCB r t):=by
 simp only[Nd]at h;show ctE a h.1 b c h.2.1 h.2.2.1 h.2.2.2 d
def bmO{o e:wh}{es:dV wh}{d:TE}{t:TA}{name:iv}{a b:Pos}{T id:Mv}{r:V->dV V->Hp->VK->Prop}(f:Pe T)(slot:Slot T name id)(c:Pu (.builtin id)=pure (.type "method_descriptor"))(g:MtQ X id r)
 (h:(X.K,i6 o,(e::es).any aV,WT (e::es).length 30,a.endLine==b.line)=(K,fS,fS,fI,fI)) (i:QE X o d) (j:QA X (e::es) t):QE X (.Call (.Attribute o name a) (e::es) [] b) (tBM K T r d t):=by
 simp only[Nd]at h;let%[rfl|h]:=h;show bmE rfl f slot c g h.1 h.2.1 h.2.2.1 h.2.2.2 i j
def aH(i:hH){x:iv}{e:wh}{b:TE}{a:Pos}(c:X.N.Nodup)(h:(X.N[i]?,X.env.scope.names.lookup x,hJ e)=(fx x,fx .local,fS))(d:QE X e b):QS X (.Assign [.Name x a] e pos) (uU b (lJ i)):=by
 simp only[Nd]at h;show rP i c h.1 (.inl h.2.1) (.inr h.2.1) h.2.2 d
def aO(i:hH){x:iv}(a:X.N.Nodup)(h:(X.N[i]?,X.env.scope.names.lookup x)=(fx x,fx .local)):QG X (.Name x pos) (lJ i):=by
 simp only[Nd]at h;show wL i a h.1 (.inl h.2) (.inr h.2)
#where
variable{x:ij}{C:ij}{name:iv}{v:hV}{ox:NQ}
variable{o:wh}{value:wh}{nm:iv}{ta:TE}{tv:TE}{pos':Pos}
end
def vU(r:aQ xs us)(h:j<us.toArray.size):∃x,xs[j]?∣x/\aY x us.toArray[j]:=by
 let l:=h;let a:j< ~~~xs:= ~~~r▸l;let%[u,b|c]:=r.get (i:=j) (x:=xs[j]) ∅
 simp_all
section
#version
end
section
variable{X:Cx}
nonrec abbrev Ly:R2:=λx y H Q=>asR x λa=>asR y λb=>∃xs,H a<*xs/\H b<*[]/\Q (.bl (decide (xs=[]))) H
def Kt(w:X.A.units+64<O8):OpR X (pw .Eq) Ly:=by
 intro ff s z H x y v u Q I d f h;let%[a,rfl|g]:=aU h;let%[b,rfl|i]:=aU g;let%[xs,o,p|q]:=i;cases d;cases f;let%[us,d,m|_]:=I.list (Qb.of o);let%[vs,f,n|_]:=I.list (Qb.of p);obtain rfl:vs=[]:=y2.mp f.length.symm;by_cases l:xs=[]
 .subst l;obtain rfl:us=[]:=y2.mp d.length.symm;let c:=RcAt.lists (A:=X.A) (e:=λ_=>fI) m.isList n.isList rfl ⋯ λj r B=>m4 r (X4 _)
  show c _ _ _ _ %[.bl _,H,I,rfl|q]
 .rw[Zh l]at q;let c:=RcAt.lists_lengths (A:=X.A) m.isList n.isList (by
   let: ~~~us≠0:= ~~~d▸λq=>l (y2.mp q)
   simpa using this) ⋯
  show c _ _ _ _ %[.bl _,H,I,rfl|q]
def dinE(a:bB k X.A)(b:MQ .In o=fS)(hi:QE X i ty)(c:QE X o d):QE X (.Compare i [.In] [o] pos) (Gx ty d):=⟨IH (Dw (by let:=a.units;lia) hi.h c.h) b⟩
def Lz(a:bB k X.A):OpQ X (pw .Eq) Ly:=⟨Kt a.units⟩
end
def qk:∀{zs:ZB} {its:ZF},aQ (zs\3) its->ReadsAll h its (zs.map Pn) []
 |[],_,.nil=> .nil
 | z::zs,_,.cons r v=>by
   let%[t|rfl]:=r;show .cons (.str _ _) (qk v)
abbrev qo(p:ij×ZB):Mh:= .tuple (p.2.map Pn)
def qp{X:Cx}(I:Qc X ff g H s):∀{ss:ZG} {its:ZF},aI H ss->aQ (ss\0) its->∃as,ReadsAll s.heap its (ss.map qo) as
 |[],_,_,.nil=>%[_|.nil]
 | p::ss,_,t,.cons r v=>by
   cases r;let%[us,a,%[%[cls,h,data|i],b,c,n|d]|_]:=I.tuple (SqT.of (t p (Zm ..)).2);let%[bs|e]:=qp I (λq f=>t q (Zk _ f)) v;show%[_|.cons (.tuple b c d (qk a)) e]
def zS(zs:ZB):Po (zs.map Pn)=fI/\Pw (zs.map Pn)=fS/\Qe (zs.map Pn)=0:=by
 induction zs with
 | nil=>show%[ρ,ρ|ρ]
 | cons z zs a=>simp only[Yq,Po,Pw,Qe,a.1,a.2.1,a.2.2];show%[ρ,ρ|ρ]
def zT{zs:ZB}(h:∀z∈zs,~~~z<=30/\∀c∈z.cps.toList,c<16^8):OF 8 (zs.map Pn)=fI/\PN (zs.map Pn)<=31* ~~~zs:=by
 induction zs with
 | nil=>show%[ρ|Zi _]
 | cons z zs d=>
   let%[a|b]:=d λy e=>h y (Zk _ e)
   let%[l|c]:=h z (Zm ..);simp only[Yq,OF,PN,SE,a,Zr,pp.and_true];let: ~~~z=z.cps.size:=rfl;show%[NV.mpr λx f=>Zf (c x f)|⋯]
def zU{ss:dV _}(h:∀p∈ss,~~~p.2<=3/\∀z∈p.2,~~~z<=30/\∀c∈z.cps.toList,c<16^8):Po (ss.map qo)=fI/\Pw (ss.map qo)=fS/\Qe (ss.map qo)<=1/\OF 8 (ss.map qo)=fI/\PN (ss.map qo)<=94* ~~~ss:=by
 induction ss with
 | nil=>show%[ρ,ρ,Xe _,ρ|Zi _]
 | cons p ss f=>
   let%[a,b,c,d|e]:=f λy g=>h y (Zk _ g)
   let%[l|z]:=h p (Zm ..);let%[i,j|m]:=zS p.2;let%[n|o]:=zT z;simp only[Yq,qo,Po,US,Pw,U8,Qe,VN,OF,T8,PN,SE,i,j,m,n,Zr];show%[a,b,⋯,d|⋯]
section
#version
def E9{k:ZB}{x:V}{j:hH}(h:(k\3)[j]?∣x):∃z,k[j]?∣z/\x= .str z:=by
 rw[Zl]at h;let%[z,e|rfl]:=zz.mp h;show%[z,e|ρ]
def xG{k l:ZB}(h:k\3=l\3):k=l:=(dV.map_inj_right λ_ _=>V.str.inj).mp h
def Fa(I:Qc X ff σ H s){A:vj}{a b:ij}{k l:ZB}(g:H a&&&k\3)(f:H b&&&l\3)(q:A.units<O8):EqAt A s (.ref a) (.ref b) (decide (k=l)):=by
 by_cases e:a=b
 .subst e;rw[g]at f;rw[Zf (xG (HO.tup.inj (Za f)))];show EqAt.same _
 .let%[us,m,r|_]:=I.tuple (SqT.of g);let%[vs,n,v|_]:=I.tuple (SqT.of f);let d:=RcAt.tuples r v q λj o p=>by
   let%[x,ex|w]:=vU m o;let%[y,B|C]:=vU n p;let%[z,E|rfl]:=E9 ex;let%[u,G|rfl]:=E9 B;let:=Dp (A:=A.in1) (s:=s) w C rfl rfl;rw[show eqV _ _=decide (k[j]? =l[j]?) by rw[E,G];change(z==u)=_;by_cases c:z=u<;> simp[c]]at this;show this
  rw[show((o0 _).all _&&us.toArray.size==vs.toArray.size)=decide (k=l) by
   rw[Zp,Zp,<-m.length,<-n.length,Ny,Zv,NV,Nx];show%[λ⟨o,p⟩=>PD λi=>?_|λh=>by lia]
   grind]at d
  show EqAt.of_refs e d
end
section
variable{X:Cx}
nonrec abbrev AM:R2:=λx y H Q=>asR x λa=>asR y λp=>∃(k:ZB),H a&&&k\3/\∃(ws:ZG),H p∣.lst (ws\0)/\(∀t∈ws,H t.1&&&t.2\3)/\k∈ws\2/\Q (.bl fS) H
open Classical in
def Cu(i:X.A.units+64<O8):OpR X (pw .NotIn) AM:=by
 intro ff s G H x y v u Q I l m h;let%[a,rfl|c]:=aU h;let%[p,rfl|d]:=aU c;let%[k,n,ws,o,hw,w|q]:=d;cases l;cases m;let%[us,r,pl|_]:=I.list (Qb.of o);let of:∀y∈us,∃t∈ws,y= .ref t.1:=λy f=>by
  let%[j,g|rfl]:=Rr f;let%[x,ex|rr]:=vU r (g);rw[Zl]at ex;let%[t,b|rfl]:=zz.mp ex;show%[t,Z8 b|(rr)]
 show notIn_listAt (λv=>decide (∃t∈ws,v= .ref t.1/\t.2=k)) pl.isList (λy f=>?_) %[.bl fS,H,I,?_|q]
 .let%[t,b|rfl]:=of y ↑f;let:=Fa I (A:=X.A.in1) (hw t b) n ⋯;rw[show decide _=decide (t.2=k)from ?_]
  .show this
  .rw[Ny,Nx,Nx];show%[λ⟨t',z,B,C⟩=>?_|λh=>%[t,b,ρ|h]];let e:=hw t' z;rw[<-Uv B,hw t b]at e;rw[<-C,xG (HO.tup.inj (Za e))]
 .let%[t,b|e]:=Xo w;let%[j|g]:=Xf b;let%[u,i|E]:=r.get (by rw[Zl,g];rfl);cases E;rw[show us.toArray.any _=fI from ?_]
  .rfl
  .rw[dV.any_toArray,RW];show%[_,Z8 i|Zf %[t,b,ρ|e]]
def Fb(a:bB k X.A):OpQ X (pw .NotIn) AM:=⟨Cu a.units⟩
def t8:∀{a:ZL} {us:ZF},aQ (a\4) us->∃ps:dV (nX×Tok),ps\1=a/\us=ps.map λp=>RM p.1 p.2
 |[],_,.nil=>%[[],rfl|rfl]
 | n::a,_,.cons r v=>by
   let%[t|rfl]:=r;let%[ps,rfl|rfl]:=t8 v;show%[(n,t)::ps,ρ|ρ]
def Cv(w:X.calm=fI):cO X (.builtin "min") (λxs H Q=>dh xs λf=>asR f λp=>∃(a:ZL),Qb X.K H p (a\4)/\0< ~~~a/\∀m∈a,(∀y∈a,m<=y)->Q (.int m) H):=by
 intro ff s L H xs us Q I r h;let%[f,rfl|c]:=ck h;let%[p,rfl|d]:=aU c;let%[a,e,g|q]:=d;let%[u,rfl|z]:=dA r;cases z;let%[its,A,B|M]:=I.list e;let%[ps,rfl|rfl]:=t8 A;rw[Z6]at g;let%[C|l]:=argBest_lt _ (~~~ps-1);show min_intList (I.ok.hd w) ((show intItems ps.toArray=(ps.map λp=>RM p.1 p.2).toArray by simp[intItems])▸B.isList) g λv h' tk n k=>?_
 generalize PF _ _=b at C l n
 let E:∀i h,numAt ps.toArray i=ps[i].1:=λi h=>by simp[numAt,h]
 let o:b< ~~~ps:=by lia
 let G:v= .int ps[b].1 ps[b].2:=by simpa [intItems,o,eq_comm]using n
 show%[.int _,H,I.kept k,%[_|G]|q _ (Xp %[_,Yd o|ρ]) λy J=>?_];let%[p,e|rfl]:=Xo J;let%[j,N|rfl]:=Rr e;let:=l j ⋯
 simp_all
def Ku{K:ZA}(h:X.K=K)(b:X.calm=fI):cG X (.builtin "min") (λxs H Q=>dh xs λc=>asR c λp=>∃(a:ZL),Qb K H p (a\4)/\0< ~~~a/\∀m∈a,(∀y∈a,m<=y)->Q (.int m) H):=by subst h;show⟨Cv b⟩
end
noncomputable abbrev Cx.tryV(X:Cx)(pn:ZE)(E:St->XK):Cx:={X with pn:=pn,xe:=λe s'=>∃ff a H s,Qc ({X with pn:=pn}) ff a H s/\CXO X.prog X.w X.stack H s (E a) e s'}
abbrev Ie(CX:CXT)(X:Cx)(E:St->XK):Prop:=∀ff (a:St) H s e s',Qc X ff a H s->CX X.stack H s (E a) e s'->X.xe e s'
def t9{X:Cx}:Ie (CXO X.prog X.w) (X.tryV pn E) E:=by
 intro ff a H s e s' I %[b,B,cls,c,H',rfl,F|q];show%[ff,a,H,s,%[Li I.ok _ _,I.os,I.bare,I.base,I.loc,I.cell,I.free,I.freeC,I.pin,I.hok|I.len],b,B,cls,c,H',ρ,F|q]
abbrev Fc(K:ZA)(D:ij)(E:St->XK)(len i:hH)(e ts:TS):TS:=λc f H=>e c f H/\∀b cls d H',E b cls d H'->∃C,cls= .ref C/\Rk K (.ref C) (.ref D)∣fI/\
 ∀a,~~~b=len->H' a=eH->ts (c.gone i) (b.set i (fx (.ref a))) (Qa H' a (ExH a C d))
def AN{X:Cx}{D:ij}(l:X.stack=X.env::X.outer)(hf:X.env.frame∣X.env.locals)(hN:X.N.Nodup)(hi:X.N[i]?∣n)
 (hk:X.env.kindOf n∣.local) (hl:X.env.scope.names.lookup n∣.local) (hg:Gl X x) (hm:X.mg x∣.ref D) (c:Cat X.K D) (m:∀pn,PSs (X.tryV pn E) L tb) (h:∀a,PSs (X.suiteX a) (M::o) ts)
 (ac:(x==("__debug__":iv))=fS):
 PS X (.Try L [.ExceptHandler (fx (.Name x p)) (fx n) (M::o) N] [] [] pos) (Fc X.K D E X.N.length i tb ts):=by
 intro ff s σ H Dn I %[h1|h2];show WG (J5 (m _ [] s σ H Dn (I.toPn _) h1) (λf s1 q=>?_) λe s1 q=>?_)
 .let q':=SP.ofPn q;cases f with
  | next=>show Oo q'
  | brk=>show q'
  | cont=>show q'
  | ret u=>show q'
 .let%[ae,ag,H1,s2,I1,A,B,cls,dx,H',rfl,F|qE]:=q;let%[C,rfl,O|ak]:=h2 ag cls dx H' qE;show AD (.inr rfl) (l▸I.ok.frames) hf (l▸F).up λha ua T=>vz ua λhb ub U=>?_
  let%[un|al]:=F.fly ub.1 (T.trans U);let J:=(I1.call' (s':=(s1>>>hb)) F.os un al F.bare λb z=>m4 z ∅).ofPn;let%[_,_,_,oe,vs,eb,an,a0,a1|_]:=id ub;show wpAny_handleBy_cons (codeAny_handlers_test (gZ (J.toSuite A) hg hm (Ej J.kIn c.ty c.ex c.cd eb an O (codeAny_handlers_suite_as (vz ub λhc uc ao=>?_))) ac)) (by intro q;cases q);let%[ap|Y]:=F.fly uc.1 ((T.trans U).trans ao);let%[_,_,_,oc,vc,ec,aq,as,ax|_]:=id uc;let ab:=I1.ofPn;show lI (v:= .ref A) (ab.stood3 (λ_ z=>z) ((I1.call' (s':=(s1>>>hc)) F.os ap Y F.bare λb z=>m4 z ∅).ofPn) F.free F.new (ExH.ok ec aq as ax)) hN hi (.inl hl) rfl (λs4 J4=>J5 (h A ff s4 _ _ _ (J4.toSuite A) (ak A ab.len F.free)) (λf s5 q5=>?_) λ_ _ z=>z.elim) (.inr hl);let d:∀{g:St} {G:Hp} {Q:So->kj->Prop},Qc (X.suiteX A) ff g G s5->(∀s',Qc X ff _ G s'->Q () s')->
   (X⁻¹) (do bindName X.env n _;Vg X.env n N) Q X.xe s5:=λj h5=>GT (j.ofSuite I.ok) hN hi hk h5
  cases f with
  | next=>
    let%[g,G,j|w]:=q5;show d j λs' y=>%[_,_,y|w]
  | brk=>
    let%[g,G,j|w]:=q5;show d j λs' y=>%[_,_,y|w]
  | cont=>
    let%[g,G,j|w]:=q5;show d j λs' y=>%[_,_,y|w]
  | ret u=>
    let%[v,g,G,j,r|w]:=q5;show d j λs' y=>%[v,_,_,y,r|w]
def tryV{X:Cx}{D:ij}(E:St->XK)(f:X.stack=X.env::X.outer)(m:X.env.frame∣X.env.locals)(o:X.N.Nodup)(hi:X.N[i]?∣n)
 (q:X.env.kindOf n∣.local) (r:X.env.scope.names.lookup n∣.local) (s:Gl X x) (u:X.mg x∣.ref D) (c:Cat X.K D) (j:(x==("__debug__":iv))=fS) (d:∀pn,QSs (X.tryV pn E) g v) (b:∀a,QSs (X.suiteX a) (h::e) ts):
 QS X (.Try g [.ExceptHandler (fx (.Name x p)) (fx n) (h::e) l] [] [] pos) (Fc X.K D E X.N.length i v ts):=
 ⟨AN f m o hi q r s u c (λpn=>(d pn).h) (λa=>(b a).h) j⟩
abbrev Kv(sp:Sp)(E:St->XK)(t:TA):TE:=λa H Q=>t a H λvs b=>sp vs b Q (E a)
def Ig{X:Cx}(v:Ie (CXO X.prog X.w) X E)(C:zE X.prog X.w X.K X.mg X.base j x ps sp)(w:bB k X.A)(y:Gl X x)(c:O6 j k=fI)
 (d:(x==("__debug__":iv))=fS) (g:(e::es).any aV=fS) (z:QA X (e::es) t):QE X (.Call (.Name x p) (e::es) [] pos) (Kv sp E t):=by
 rw[Zw,X7]at g;let%[f,L,F,A,B|G]:=C.ex;show⟨λff s i H Q I h=>Nv (gZ I y A (TR I.ok.mod.kin B (thP (z.h pos ff s i H _ I h) λus l vs m a r q=>%[a.kIn|?_]) (aD g.1) (eA g.2)) d)⟩;let n:=r.append .nil;let o:sp (vs++[]) m Q (E i):=by rw[Zx];show q
 show N6 (codeAny_mono (F.run X.A X.stack l m _ _ _ Q _ (w.mono (Ye c)) a.env0 (G l us a.kIn (~~~n▸F.len _ _ _ _ o)) n o) λr s' b=>?_);cases r with
 | error e=>show v ff i m l e s' a b
 | ok J=>
   cases J with
   | ret u=>show a.after b
   | next=>show Mq b
   | brk=>show Mq b
   | cont=>show Mq b
abbrev qq(L:dV ij)(c:ij->NQ)(H:Hp):Hp:=λb=>if b∈L then(match H b with|fx (.dK a)=>fx (.frz (c b) (.dK a))|x=>x)else H b
def ph(h:b∈L)(e:H b∣.dK a):qq L c H b∣.frz (c b) (.dK a):=by
 unfold qq;rw[jg h,e]
def qr(h:b∉L):qq L a H b=H b:=hX h
def jh(h:∀a,H b≠fx (.dK a)):qq L d H b=H b:=by
 unfold qq;by_cases c:b∈L
 .rw[jg c];cases e:H b with
  | none=>rfl
  | some o=>cases o<;> first|rfl|show(h _ e).elim
 .rw[hX c]
section
variable{P:nz}{w:vk}{K:ZA}{mg:ZC}{base:v0}{k:hH}{f:ij}{fd:Oa}{ps:ZB}{sp:Sp}
def Hk(x:HOk P w H h):HOk P w (qq L (λb=>(h.get? b).getD default) H) h:=by
 intro b o e;let st:∀{b:ij} {o:HO},cN P w H h b o->cN P w (qq L (λb=>(h.get? b).getD default) H) h b o:=λq=>q.stay (λ_ _ _ q=>q) (λc q=>by rw[jh (λa z=>by lia)];show q) λc xs q=>by rw[jh (λa z=>by rw[q]at z;cases z)];show q
 by_cases c:b∈L
 .by_cases d:∃a,H b∣.dK a
  .let%[a|d]:=d;rw[ph c d]at e;cases e;let%[i|g]:=(x b _ d).there;show%[by rw[g];rfl|st (x b _ d)]
  .rw[jh (λa z=>d %[a|z])]at e;show st (x b o e)
 .rw[qr c]at e;show st (x b o e)
def Kw(u:Un fs [] H H' h h'):Un fs [] H (qq L d H') h h':=by
 show%[u.keep,u.slot,λb o e n c=>?_,u.there,λb xs e=>?_,λb o v e=>?_|λb q e=>?_]
 .let:=u.free b o e n c;rw[jh (λa z=>by lia)];show this
 .let:=u.tups b xs e;rw[jh (λa z=>by rw[this]at z;cases z)];show this
 .let:=u.frzs b o v e;rw[jh (λa z=>by rw[this]at z;cases z)];show this
 .let%[m|this]:=u.tbls b q e;show%[m|by rw[jh (λa z=>by rw[this]at z;cases z)];show this]
def eO.freeze(F:eO P w K mg base CX0 k f fd ps sp):eO P w K mg base CX0 k f fd ps (λvs H Q E=>sp vs H (λv b=>∃L,∀c,Q v (qq L c b)) E):=by
 show%[λvs H Q E=>F.len vs H _ E|λA outer s H args us vs Q E d g h i j=>codeAny_mono (F.run A outer s H args us vs _ E d g h i j) λr s' a=>?_];cases r with
 | error e=>show a
 | ok l=>
   cases l with
   | ret u=>
     let%[v,H',m,n,o,p,q,L|y]:=a;show%[v,_,m,n,Kw o,Hk p,q|y _]
   | next=>show a
   | brk=>show a
   | cont=>show a
end
abbrev Itk(d:ij)(o:NQ)(a:dV (Key×V)):It:=⟨λi H=>H d∣.frz o (.dK a)/\i< ~~~a,λi H x H'=>H'=H/\∃k v,a[i]?∣(k,v)/\x=kV k,λi H=>H d∣.frz o (.dK a)/\ ~~~a<=i⟩
abbrev xH(c:TE):TI:=λe H R=>c e H λv b=>∃d o a,v= .ref d/\b d∣.frz o (.dK a)/\R (Itk d o a) b
def Hl(h:kH k v=fI):aY (kV k) v:=by
 rcases bh h with⟨i,t,rfl,rfl⟩|⟨x,t,rfl,rfl⟩
 .show%[t|ρ]
 .show%[t|ρ]
def Kx{a:dV _}{vs:dV _}(r:KV a vs){i:hH}{k:Key}{v:V}(e:a[i]?∣(k,v)):∃u,vs[i]?∣(k,u)/\aY v u:=by
 induction r generalizing i with
 | nil=>cases e
 | @cons p q ps qs b t c=>
   cases i with
   | zero=>
     obtain rfl:p=(k,v):=Za e;show%[q.2,by rw[show k=q.1 from b.1];rfl|b.2]
   | succ i=>show c e
def qt(r:KV a vs): ~~~a= ~~~vs:=by
 induction r with
 | nil=>rfl
 | cons _ _ b=>simp_all
section
variable{P:nz}{w:vk}{K:ZA}{tg:wh}
def Fd{X:Cx}(I:Qc X ff n H s)(e:H d∣.frz o (.dK a))(b:o.data= .dict es h):∃vs,KV a vs/\s.heap.DictAt (aX X.prog X.w) d vs h:=by
 let%[g,p,q,vs,r,u,i,j,c,l,f|m]:=I.hok d _ e;rw[g]at c;cases c;rw[b]at f;cases f;show%[vs,r,_,es,g,l,b|m]
def Fe(d it:ij)(o:NQ)(kvs:dV _):rJ P w K tg (Itk d o kvs) [it] it (λi h=>∃es ep,o.data= .dict es ep/\h.IsKeyIter it d i kvs.length ep) where
 mem:=by simp
 obj:=λi h st b hb=>by
  let e:=↑hb
  subst e;let%[_,_,_,o,e,c|d]:=st;show%[o,e|λv z=>by rw[d]at z;cases z]
 keep:=λi h h' ⟨es,ep,ho,st⟩ k=>%[es,ep,ho|st.at λo e=>k it ∅ o e]
 item:=by
  intro X hP hw hK hc i ff s σ H E I hf st hg;subst hP hw hK;let%[es,ep,ho|st]:=st;let%[hd|hi]:=hg;let%[vs,r|da]:=Fd I hd ho;let ln:=qt r;let%[u,hu|ru]:=Kx r (Z4 hi);let%[f0,f1,f2,f3,f4|f5]:=hf it ∅;rw[ln]at st;show wpAny_pyNext_dict_item st da hu λkey h' hk st' sb=>?_
  rw[<-ln]at st';let%[o',e,c|dd]:=id st';show%[key,ρ|sJ e c dd (!1) %[_,H,(I.turned (λb o hb e=>(sb.2 b hb).trans e) f0 f1 f3 f4 f5),Hl hk,%[ρ,_,_,Z4 hi|ρ],%[es,ep,ho|st']|λb hb=>(hf b hb).1]]
 done:=by
  intro X hP hw hK hc i ff s σ H E I hf st hg;subst hP hw hK;let%[es,ep,ho|st]:=st;let%[hd|hi]:=hg;let%[vs,r|da]:=Fd I hd ho;let ln:=qt r;let%[f0,f1,f2,f3,f4|f5]:=hf it ∅;rw[ln]at st;show wpAny_pyNext_dict_end (I.ok.hd hc) st da (Xk ⋯) λh' eb=>%[rfl|I.turned (λb o hb e=>eb b o hb e) f0 f1 f3 f4 f5]
 self:=λ_ _ _ _ _ ⟨_,_,_,st⟩ h=>Vf st h
def Hm{X:Cx}(n:PE X l p):PI X tg l (xH p):=by
 intro ff s u H R I h;show thP (n ff s u H _ I h) λv c x y a z A=>?_
 let%[d,o,f,e,B|q]:=A;subst e;cases z;let%[g,N,C,vs,r,E,es,j,i,G,m|J]:=a.hok d _ B;let L:c.heap.DictAt _ d vs j:=%[E,es,i,G,m|J]
 rw[g]at i;cases i;show wpAny_pyIter_dict C L %[⇑c,[⇑c],_,_,y,rfl,a.kept λb o e=>Z7 _ e,Fe d _ o f,%[es,j,m,_,Zj _ rfl,rfl|by rw[qt r];rfl],λb M=>?_|q];let e:=↑M
 subst e;show a.fpOk (Zi _) (a.hok.fresh (Zi _))
def Fg{X:Cx}(a:QE X l b):QI X tg l (xH b):=⟨Hm a.h⟩
end
section
variable{X:Cx}
abbrev LA:V->dV V->Hp->VK->Prop:=λx vs H Q=>asR x λa=>∃b,vs=[.ref b]/\∃c more,a≠b/\H a∣.dK c/\H b∣.dK more/\ ~~~c+ ~~~more<=ku/\Q .non (Qa H a (.dK (i4 c more)))
def Ky:MtM X "dict.update" LA:=by
 intro ff s C H x vs v us Q I m n h;let%[a,rfl,b,rfl,o,more,ne,g,p,i|q]:=aU h;cases m;let%[u,rfl|r]:=n.one;cases r;let%[z,w,vs,d|j]:=nQ I.hok g;let%[E,e,y,c|f]:=nQ I.hok p;show Sm WJ j.typeIs PySem.F.entry_dict_update (PySem.F.args_dict_update_2 _ _) (meets_dict_update _ a b ne e) %[vs,y,j,f,by rw[<-qt d,<-qt c];show i|λh' l G A=>%[.non,_,oX I (g▸Mx) A (let⟨q,_,_,B,_⟩:=l;%[q|B]) (y9 (md (kK _ _) i) w (KV.merge c d) l),rfl|q]]
def xI:MtQ X "dict.update" LA:=⟨Ky⟩
end
def Cal.freeze{P:nz}{K:ZA}(C:Cal P w K mg base k x ps sp):Cal P w K mg base k x ps (λvs H Q E=>sp vs H (λv a=>∃L,∀b,Q v (qq L b a)) E):=by
 let%[f,c,F|r]:=C.ex;show%[f,c,F.freeze|r]
def Cal.imp{P:nz}{K:ZA}(C:Cal P w K mg base k x ps sp)(h:∀vs H Q E,a vs H Q E->sp vs H Q E):Cal P w K mg base k x ps a:=by
 let%[f,b,F|r]:=C.ex;show%[f,b,F.imp h|r]
section
variable{X:Cx}
variable{prog:nz}{w:vk}{A:vj}{R:SV->kj->Prop}{I S:ij}{fp wr:dV ij}{n:hH}{P:hH->hV->Prop}{St:hH->v0->Prop}{val:hH->nX}{kn:iv}{d:hV}
variable{e:wh}{v:wh}{te:TE}{tv:TE}{p:Pos}{pos:Pos}{kpos:Pos}
variable{K:ZA}
variable{s:kj}{E:ZD}
def np{xs:dV V}{us:ZF}(r:aQ xs us):∀is:dV hH,aQ (is.filterMap (xs[·]?)) (is.filterMap (us.toArray[·]?))
 |[]=> .nil
 | i::is=>by
   let h:us.toArray[i]? =us[i]? :=by simp
   rw[Y1,Y1,h];by_cases c:i< ~~~xs
   .let%[u,a|b]:=r.get (i:=i) (x:=xs[i]) ∅;rw[a,Z4 c];show .cons b (np r is)
   .rw[Xk (by omega),Xk (by let:= ~~~r;omega)];show np r is
variable{ff:ZE}{σ:_LL.St}{H:Hp}
end
section
variable{X:Cx}
abbrev evI(n:hH):dV hH:=sliceRange (NT eH eH (fx 2) n).1 (NT eH eH (fx 2) n).2.1 (NT eH eH (fx 2) n).2.2
abbrev Ho(e b:TE):TE:=λd H Q=>e d H λx f=>b d f λy c=>∃a xs,x= .ref a/\c a<*xs/\y= .int 2/\∀p:ij,c p=eH-> ~~~((evI xs.length).filterMap (xs[·]?))<= ~~~xs->Q (.ref p) (Qa c p (.lst ((evI xs.length).filterMap (xs[·]?))))
def Kz{e st:wh}{m c:TE}{pos p:Pos}(w:PE X e m)(g:PE X st c):PE X (.Subscript e (.Slice eH eH (fx st) p) pos) (Ho m c):=by
 intro ff s i H Q I h;show TY (thP (w ff s i H _ I h) λv z x A B C E=>?_);show wpAny_Slice (V0 (V0 (evalPart_some_step (thP (g ff z i A _ B E) λu f y G J L ⟨a,xs,ex,M,N,q⟩=>?_))));subst ex N;cases C;let%[j|rfl]:=(L)
 let l:Qc X ff i G {f with heap:=f.heap.push {cls:= .type "slice",data:= .fields #[.none,.none,.int 2 j]}}:=J.kept λb O q=>Z7 _ q
 let T:(f.heap.push {cls:= .type _,data:= .fields #[.none,.none,.int 2 j]}).IsSliceOf ⇑f _ _ _:=Sa ..;let%[its,r,n|U]:=l.list (Qb.of M);let d:= ~~~r;show tail_any n.isList.typeIs Sg.lookup (Uf n.isList T .none .none (.int 2 j) ∅ ?_ (!2)) (by with_unfolding_all rfl);let sz:=slicePick_size_le its.toArray eH eH (fx 2);unfold WK at sz ⊢;rw[show its.toArray.size= ~~~xs by show d.symm]at sz ⊢;let pv:=np r (evI xs.length);let o: ~~~((evI xs.length).filterMap (xs[·]?))<= ~~~xs:=by rw[pv.length];show sz
 show%[.ref _,_,l.laid (λb O q=>Z7 _ q) (Zi _) ?_,ρ|q _ (l.hok.fresh (Zi _)) o];show%[md o U,_,0,pv|Zj _ rfl]
def LB{e st:wh}{c a:TE}{pos d:Pos}(f:QE X e c)(b:QE X st a):QE X (.Subscript e (.Slice eH eH (fx st) d) pos) (Ho c a):=⟨Kz f.h b.h⟩
end
abbrev LD(d:TE):TE:=λe H Q=>d e H λv b=>∃(a:ij) (ss:ZG),v= .ref a/\b a∣.lst (ss\0)/\aI b ss/\ ~~~ss<=300/\(∀p∈ss,~~~p.2<=3/\∀z∈p.2,~~~z<=30/\∀c∈z.cps.toList,c<16^8)/\∀z:iv,~~~z<=400000->Q (.str z) b
def LF{X:Cx}{e:wh}{c:TE}{pos:Pos}(i:X.A.guards∣[])(O:X.A.units+64<O8)(j:QE X e c):QE X (.FormattedValue e 114 eH pos) (LD c):=by
 show⟨λff s l H Q I h=>?_⟩;show wpAny_FormattedValue_repr (thP (j.h ff s l H _ I h) λu m v o b r ⟨a,ss,p,w,y,T,z,q⟩=>?_);subst p;cases r;let%[us,A,pl|_]:=b.list (Qb.of w);let%[%[cls,U,data|Y],B,C,n|E]:=pl.isList;let%[as|G]:=qp b y A;let%[J,L,f3,M|f5]:=zU z;let len:=Mh.shown_le 8 (!1) (.list (ss.map qo)) (by simpa only[T8]using M);simp only[SE]at len;let f: ~~~(VM (.list (ss.map qo)))<=400000:=by lia
 let g: ~~~(VM (.list (ss.map qo)))<=ku:=md f (!1);show pyReprObj_of_reads (h₀:=m.heap) (d:= .list (ss.map qo)) (.list B C E G) (by simpa only[US]using J) (λx=>by simp only[U8,L]at x;cases x) i (by simp only[VN];lia) (λ_ _ x=>x) (λh' t tk k=>?_) g;show W3 (λt' N=>%[.str _,o,(b.kept k).tok _,%[_|rfl]|q _ f]) g
abbrev LG(K:ZA)(c:TE):TI:=λd H R=>c d H λx b=>asR x λa=>(∃xs,Qb K b a xs)/\R (Itl K a) b
def c8{X:Cx}{K:ZA}{g l:wh}{f:TE}(h:X.K=K)(i:QE X l f):QI X g l (LG K f):=by
 subst h;show⟨λff s j H R I h=>thP (i.h ff s j H _ I h) λv c x m d n r=>?_⟩;let%[a,rfl,%[xs|u]|q]:=aU r;cases n;let%[its,y,p|z]:=d.list u;show N2 p.isList ⟨⇑c,[⇑c],_,_,m,rfl,d.kept (t':=c.toks) λb o e=>Z7 _ e,sK a _,%[_,Zj _ rfl,rfl|rfl],λb w=>by
  obtain rfl:b=⇑c:=↑w
  show d.fpOk (Zi _) (d.hok.fresh (Zi _)),q⟩
def uf{X:Cx}:OpQ X (MP .Add) Gq:=⟨Du⟩
def xJ{X:Cx}{K:ZA}{e:wh}{lo hi:kf wh}{a:TE}{b c:TO}{d pos:Pos}(h:X.K=K)(f:QE X e a)(g:QO X lo b)(i:QO X hi c):QE X (.Subscript e (.Slice lo hi eH d) pos) (tSl (Js K) a b c):=by subst h;show⟨Dm Go f.h g.h i.h⟩
def Ih{X:Cx}{K:ZA}(h:X.K=K):OpQ X (pw .In) (rIn K fS):=by subst h;show⟨sW⟩
def eE{X:Cx}:OpQ X (MP .Add) DG:=⟨pC⟩
open PySem
def LH{K:ZA}{z:iv}{H:Hp}:tyV K "str" (.str z) H=Pr:=eq_true rfl
def tyL{K:ZA}{l:ij}{H:Hp}{xs:dV V}(h:Qb K H l xs):tyV K "list" (.ref l) H:= .inl %[rfl,_|h]
def tyD{K:ZA}{l:ij}{H:Hp}{a}(h:H l∣.dK a):tyV K "dict" (.ref l) H:= .inr (.inr (.inl %[rfl|.inl %[_|h]]))
abbrev gLst(K:ZA)(n:hH)(t:TGs):TG:=λv b H Q=>asR v λa=>∃xs,Qb K H a xs/\ ~~~xs=n/\t xs b H Q
def LI{X:Cx}{K:ZA}{es:dV wh}{t:TGs}{k}{pos:Pos}(f:X.K=K)(g:X.calm=fI)(c:es.any aV=fS)(h:QGs X es t):QG X (.Tuple es k pos) (gLst K es.length t):=by
 subst f;show⟨λff s i H v u Q I r hw=>?_⟩;let%[a,rfl,xs,j,l|hw]:=aU hw;cases r;let%[its,d,p|q]:=I.list j;rw[assign_Tuple];show Z2 (Ph ?_);unfold unpack;let m: ~~~(NW es X.env)=its.toArray.size:=by rw[(gh c).1,<-l];simpa using d.length
 rw[m,(gh c).2];show Z2 (ra (PySem.W.kun_itemsOf (I.ok.hd g) p.isList λh' n=>h.h ff _ i H xs _ Q (I.kept λb o e=>n b o (Zs (Zu e)) e) ↑d hw))
def Cw{X:Cx}(E:X.calm=fI):cG X (.builtin "sorted") (λxs H Q=>dh xs λB=>asR B λv=>∃(a:ij),H v∣lV v a/\∃(c:dV (Key×V)),H a∣.dK c/\∃(ks:ZB),c\2=ks\3/\ ~~~ks<64/\∀l (ss:ZB),H l=eH->ss.Perm ks->ss.Pairwise (λa b=>aS b a=fS)->Q (.ref l) (Qa H l (.lst (ss\3)))):=by
 show⟨λff s σ H xs us Q I r h=>?_⟩;let%[B,rfl|p]:=ck h;let%[v,rfl|w]:=aU p;let%[a,G,c,J,ks,f,few|q]:=w;let%[u,rfl|L]:=dA r;cases L;let%[z,hd,vs,j|M]:=nQ I.hok J;let y:=(I.hok _ _ G).1;let%[o,es,N,O|T]:=M;let U:s.heap.DictAt _ a vs N:=%[o,es,O|T]
 let vl:= ~~~j;let kl: ~~~c= ~~~ks:=by let:=vb Mz f;rwa[Z6,Z6]at this
 let Y:MF (vs\2) ks:=je (f▸AK j);show ii (ks:=ks) (λE1 R hR=>n8 kdl_values (I.ok.hd E) %[y|U] (by rw[Mt];omega) λh' tk acc k ab d=>?_) (by omega) λs1 s' l vs ss n q1 C q3 k1 g1 o1 k g o m gl=>?_
 .let e:acc.toList=vs\2:=by
   show Qk (by rw[Zb,d.1,Z6]) λi h1 h2=>?_
   let%[k|ek]:=d.2 i _ (Ds h1);let%[h3|e3]:=Xl ek
   simp_all
  rw[e];show hR _ _ _ Y (.refl _) k rfl rfl
 .let A:=I.keptS k1 g1 o1;show%[.ref l,_,A.stoodS (o:= .lst _) (A.keptS k g o) m %[?_,vs,n,dO q1|gl],ρ|q l ss (A.hok.fresh m) C (q3 few)];rw[Z6,C.length_eq,Mt];omega
def di{u:Type}{K:ZA}{l D:ij}{us:dV u}{f:u->V}{c:St}{H:Hp}{g:TG}{v:TT}{w:TE}{z:Hp->Prop}(Pv:hH->dV V->St->Hp->Prop)(A:Pv 0 [] c H)(q:∀i ys c H,Pv i ys c H->H l<*us.map f)
 (B:∀i ys c H (hi:i< ~~~us),Pv i ys c H->g (f us[i]) c H λa r=>v a r λb d=>if b=fI then w a d λy o=>CK D us.length i Pv ys a y o else CN us.length i Pv ys a d) (C:∀ys c H,Pv us.length ys c H->z H):
 ∃W:hH->hH->dV V->St->Hp->Prop,(∃m,W 0 m [] c H)/\∀i m ys h H',W i m ys h H'->((Itl K l).stop i H'/\z H')\/
  ((Itl K l).go i H'/\∀x s,(Itl K l).yld i H' x s->g x h s λa r=>v a r λb d=>if b=fI then w a d λy o=>∃zs j,o D<*zs/\ ~~~zs<ku/\j<m/\W (i+1) j (ys++[y]) a (Qa o D (.lst (zs++[y])))
    else∃j,j<m/\W (i+1) j ys a d):=
 dM (n:= ~~~us) Pv A (λi ys c H hi p=>%[_,f us[i],Qb.of (q _ _ _ _ p)|by simp[hi]]) (λys c H p=>%[_,Qb.of (q _ _ _ _ p)|by simp]) (λi ys c H hi p x s ⟨e,E⟩=>by
  subst e;let:=E _ (Qb.of (q _ _ _ _ p));rw[Zl,Z4 hi]at this;obtain rfl:f us[i]=x:=Za this;show B i ys c _ hi p) C
def bR{h:Type}{K:ZA}{a:ij}{us:dV h}{f:h->V}{b:St}{H:Hp}{g:TG}{j:TS}{D:jC}(Pv:hH->St->Hp->Prop)(o:Pv 0 b H)(q:∀i b H,Pv i b H->H a<*us.map f)
 (r:∀i u b H,us[i]?∣u->Pv i b H->g (f u) b H λc e=>j {D with nx:=Pv (i+1),ct:=Pv (i+1),bk:=D.nx} c e) (s:∀b H,Pv us.length b H->D.nx b H):
 ∃W:hH->hH->St->Hp->Prop,(∃m,W 0 m b H)/\∀i m b H,W i m b H->
  ((Itl K a).stop i H/\D.nx b H)\/((Itl K a).go i H/\∃N:St->Hp->Prop,(∀d H',N d H'->∃l,l<m/\W (i+1) l d H')/\∀x H',(Itl K a).yld i H x H'->g x b H' λc e=>j {D with nx:=N,ct:=N,bk:=D.nx} c e):=
 f9 (xs:=us.map f) Pv o (λi b H _ p=>Qb.of (q i b H p)) (λi x b H n p=>by
  rw[Zl]at n;let%[u,v|rfl]:=zz.mp n;show r i u b H v p) (by rw[Z6];show s)
section
variable{prog:nz}{w:vk}{A:vj}{R:SV->kj->Prop}{I S:ij}{fp wr:dV ij}{n:hH}{P:hH->hV->Prop}{St:hH->v0->Prop}{val:hH->nX}{kn:iv}{d:hV}
variable{X:Cx}{e v:wh}{te tv:TE}{p pos kpos:Pos}
end
abbrev LJ(a:TE):TI:=λb H R=>a b H λx c=>asS x λz=>R (Its z) c
def KA{X:Cx}{j l:wh}{g:TE}(m:QE X l g):QI X j l (LJ g):=by
 show⟨λff s n H R I h=>thP (m.h ff s n H _ I h) λv c x f d p r=>?_⟩;let%[z,rfl|q]:=fY r;let%[t|rfl]:=p;let a:∀b∈[⇑c],iY X ff f b:=λb u=>by
  obtain rfl:b=⇑c:=↑u
  show d.fpOk (Zi _) (d.hok.fresh (Zi _))
 cases i:z.cps.all _ with
 | true=>show VU i %[⇑c,[⇑c],_,_,f,rfl,d.kept λb o e=>Z7 _ e,pN _ z t,%[_,Zj _ rfl,rfl|rfl],a|q]
 | false=>show Wc i %[⇑c,[⇑c],_,_,f,rfl,d.kept λb o e=>Z7 _ e,tF _ z t,%[_,Zj _ rfl,rfl|rfl],a|q]
def AO{i j:nX}:decide (V.int i=V.int j)=decide (i=j):=by
 by_cases c:i=j
 .rw[c,Zf rfl,Zf rfl]
 .rw[Zh c,Zh λe=>c (V.int.inj e)]
def Fh{X:Cx}:OpQ X (pw .Eq) (rI0 λi j=> .bl (decide (i=j))):=⟨λff s a H x y v u Q I b c h=>by
 let%[i,rfl|d]:=dS h;let%[j,rfl|q]:=dS d;show HL ff s a H _ _ v u Q I b c %[rfl|by rw[AO];show q]⟩
def Ii{X:Cx}:OpQ X (pw .NotEq) (rI0 λi j=> .bl (!decide (i=j))):=⟨λff s a H x y v u Q I b c h=>by
 let%[i,rfl|d]:=dS h;let%[j,rfl|q]:=dS d;show HM ff s a H _ _ v u Q I b c %[rfl|by rw[AO];show q]⟩
def Ij{X:Cx}:OpQ X (pw .In) JB:=⟨sM⟩
def LK{A B:Prop}:(if fI=fI then A else B)=A:=rfl
def LL{A B:Prop}:(if fS=fI then A else B)=B:=rfl
def vV{x:V}{a:ij}{f:ij->Prop}(h:x= .ref a)(q:f a):asR x f:=by
 rw[h];show q
abbrev asY(x:V)(f:Mv->Prop):Prop:=match x with
 | .ty n=>f n
 | _=>G2
def LM{n:Mv}{f:Mv->Prop}:asY (.ty n) f=f n:=rfl
def ik{X:Cx}{K:ZA}(h:X.K=K):cG X (.builtin "isinstance") (λxs H Q=>mZ xs λx y=>asY y λn=>∃t,kC K H x t/\∃b,Pb K t (.type n)∣b/\Q (.bl b) H):=by
 show⟨λff s a H xs us Q I r c=>?_⟩;let%[x,y,rfl|d]:=jE c
 match y,d with
 | .ty n,⟨t,e,b,f,q⟩=>show(Lf h).h ff s a H _ us Q I r %[x,n,t,b,rfl,e,f|q]
def KB{X:Cx}{K:ZA}(h:X.K=K):cG X (.builtin "isinstance") (λxs H Q=>mZ xs λx y=>asY y λn=>∃t,TyX K H x t/\∃b,Pb K t (.type n)∣b/\Q (.bl b) H):=by
 show⟨λff s a H xs us Q I r c=>?_⟩;let%[x,y,rfl|d]:=jE c
 match y,d with
 | .ty n,⟨t,e,b,f,q⟩=>show(HZ h).h ff s a H _ us Q I r %[x,_,t,b,rfl,e,.inl %[n,rfl|f]|q]
def zV{X:Cx}{K:ZA}(h:X.K=K):cG X (.builtin "isinstance") (λxs H Q=>mZ xs λx y=>asR y λD=>∃t,TyX K H x t/\∃b,(Pb K t (.ref D)∣b\/∃a,H D&&&RG V.ref a/\TM K t (a.map kG)∣b)/\Q (.bl b) H):=by
 show⟨λff s c H xs us Q I r d=>?_⟩;let%[x,y,rfl|g]:=jE d
 match y,g with
 | .ref D,⟨t,i,b,j,q⟩=>show(HZ h).h ff s c H _ us Q I r %[x,_,t,b,rfl,i,j.elim (λe=> .inr (.inl %[D,rfl|e])) (λ⟨a,e,f⟩=> .inr (.inr %[D,a,rfl,e|f]))|q]
def dW{X:Cx}{a:wh}{c:TE}(d:∀b,SN a X.env b=(do let v<-b;OS a.pos;Oq [v] (UD v)))(e:QE X a c):QT X a (wD c):=by
 show⟨λff s f H Q I h=>?_⟩;show isTrue_plain (thP (e.h ff s f H _ I h) λv m x g i j l=>by
  let%[k,rfl|q]:=sI l;cases j;show MY %[g,i|q]) (d _)
def bN{A B:Prop}(h:B):asB (.bl fI) λk=>if(!k)=fI then A else B:=h
inductive E2 {α β:Type} (p:α->β->Prop):Prop|mk (a:α) (b:β):p a b->E2 p
inductive E3 {α β γ:Type} (p:α->β->γ->Prop):Prop|mk (a:α) (b:β) (c:γ):p a b c->E3 p
inductive E4 {α β γ δ:Type} (p:α->β->γ->δ->Prop):Prop|mk (a:α) (b:β) (c:γ) (d:δ):p a b c d->E4 p
inductive E5 {α β γ δ ε:Type} (p:α->β->γ->δ->ε->Prop):Prop|mk (a:α) (b:β) (c:γ) (d:δ) (e:ε):p a b c d e->E5 p
inductive E6 {α β γ δ ε ζ:Type} (p:α->β->γ->δ->ε->ζ->Prop):Prop|mk (a:α) (b:β) (c:γ) (d:δ) (e:ε) (f:ζ):p a b c d e f->E6 p
inductive A3 (a b c:Prop):Prop|mk:a->b->c->A3 a b c
inductive A4 (a b c d:Prop):Prop|mk:a->b->c->d->A4 a b c d
inductive A5 (a b c d e:Prop):Prop|mk:a->b->c->d->e->A5 a b c d e
inductive A6 (a b c d e f:Prop):Prop|mk:a->b->c->d->e->f->A6 a b c d e f
inductive A7 (a b c d e f g:Prop):Prop|mk:a->b->c->d->e->f->g->A7 a b c d e f g
inductive A8 (a b c d e f g h:Prop):Prop|mk:a->b->c->d->e->f->g->h->A8 a b c d e f g h
inductive A9 (a b c d e f g h i:Prop):Prop|mk:a->b->c->d->e->f->g->h->i->A9 a b c d e f g h i
inductive A11 (a b c d e f g h i j k:Prop):Prop|mk:a->b->c->d->e->f->g->h->i->j->k->A11 a b c d e f g h i j k
def xK{X:Cx}{mg:ZC}{x:iv}{p:Pos}(e:X.mg=mg)(b:Gl X x)(c:mg x∣.ref (aP mg x))(a:(x==("__debug__":iv))=fS):QE X (.Name x p) (tC (.ref (aP mg x))):=by
 subst e;show clsE b c a
abbrev LN(K:ZA)(D:ij)(len i:hH)(a:(St->XK)->TS)(ts:TS):TS:=λb c H=>∃E:St->XK,Fc K D E len i (a E) ts b c H
def tryE{X:Cx}{D:ij}{m:(St->XK)->TS}(f:X.stack=X.env::X.outer)(q:X.env.frame∣X.env.locals)(r:X.N.Nodup)(hi:X.N[i]?∣n)
 (u:X.env.kindOf n∣.local) (v:X.env.scope.names.lookup n∣.local) (w:Gl X x) (y:X.mg x∣.ref D) (c:Cat X.K D) (l:(x==("__debug__":iv))=fS) (d:∀E pn,QSs (X.tryV pn E) g (m E)) (b:∀a,QSs (X.suiteX a) (j::e) ts):
 QS X (.Try g [.ExceptHandler (fx (.Name x p)) (fx n) (j::e) o] [] [] pos) (LN X.K D X.N.length i m ts):=
 ⟨λff s z H A I ⟨E,h⟩=>AN f q r hi u v w y c (λpn=>(d E pn).h) (λa=>(b a).h) l ff s z H A I h⟩
def vW{st:dV yc}:QSs X st uT:=⟨BC⟩
def own{H:Hp}{a:ij}{o:HO}(_:ah H (Qa H a o)):Qa H a o a∣o:=af
section
variable{X:Cx}
variable{ff:ZE}{σ:St}{H:Hp}{s:kj}
def Qc.pinA{a:ij}{o:NQ}(I:Qc X ff σ H s)(f:iY X ff H a)(b:s.heap.get? a∣o)(c:∀v,o.data≠ .cell v):Qc X ((a,o)::ff) σ H s:=
 I.pins_of λp d=>(Yw.mp d).elim (λe=>e▸%[b,f.1,f.2.1,f.2.2.1|c]) λq=>I.pin p (Yv _ q)
def Qc.unpinA{a:ij×NQ}(I:Qc X (a::ff) σ H s):Qc X ff σ H s:=I.pins_of λp b=>I.pin p (Yv _ (Zk _ b))
def iY.more{a b:ij}{o:NQ}(f:iY X ff H a)(n:b≠a):iY X ((b,o)::ff) H a:=
 %[f.1,f.2.1,f.2.2.1,f.2.2.2.1,f.2.2.2.2.1|λp c=>(Xm c).elim (λq=>f.2.2.2.2.2 p (Yu _ q)) λq=>(Yw.mp q).elim (λe=>e▸n) λq=>f.2.2.2.2.2 p (Yv _ q)]
end
abbrev mmL:Mv->Sw->nI:=(λf (_:f "max" .Gt=nI.«max.loop»)=>f) _ rfl
abbrev mmT:Mv->nI:=(λf (_:f "max"=nI.max)=>f) _ rfl
structure MM (nm:Mv) (op:Sw) (gt:nX->nX->Prop) [∀a b,Ob (gt a b)]:Prop where
 el:Sl Wi (toString nm++toString ".loop")∣mmL nm op
 pl:plainId (toString nm++toString ".loop")=fI
 kn:builtinKind nm=eH
 pn:plainId nm=fI
 en:Sl Wi nm∣mmT nm
 ak:∀a v,argsOk nm {pos:=[a],kw:=[(!"key",v)]}
 cm:∀{prog:nz} {w:vk} {A:vj} {P:hH->hV->Prop} (val:hH->nX),(∀i v,P i v->∃t,v= .int (val i) t)->CmpOf prog w A op P λi j=>decide (gt (val i) (val j))
 tr:∀{a b c},gt a b-> ¬ gt c b->gt a c/\ ¬ gt c a
 ir:∀{a},¬ gt a a
section
variable{X:Cx}{ff:ZE}{σ:St}{H:Hp}{nm:Mv}{op:Sw}{gt:nX->nX->Prop}[dg:∀a b,Ob (gt a b)]
def Cy(M:MM nm op gt){S It l q:ij}{xs:dV V}{a:hH->nX}{R:SV->kj->Prop}(hc:X.calm=fI)(hl:Qb X.K H l xs)(N:iY X ff H S)(g:iY X ff H It)(B:S≠It)
 (turn:∀(i:hH) (x:V) (v:hV) (m:ZE) (G:kj),xs[i]?∣x->aY x v->Qc X m σ H G->oT (MU X.prog X.w) X.A.in1 (call (.ref q) [v]) (EP X m σ λy H'=>y= .int (a i)/\H'=H) (λ_ _=>G2) G)
 (hR:∀(i:hH) (x:V) (v:hV) (G:kj),xs[i]?∣x->aY x v->(∀j,j< ~~~xs-> ¬ gt (a j) (a i)/\(j<i->gt (a i) (a j)))->Qc X ff σ H G->R (.ok (.ret v)) G):
 ∀(r j i:hH) (s:kj) (x:V) (O:hV) (Q:Tok) (c:hH),~~~xs-(j+1)=r->j+1<= ~~~xs->Qc X ff σ H s->s.heap.get? S∣(NB "list" #[O,.int (a i) Q] c)->s.heap.IsListIter It l (j+1)->xs[i]?∣x->aY x O->i<=j->(∀f,f<=j-> ¬ gt (a f) (a i)/\(f<i->gt (a i) (a f)))->
  Pm (MU X.prog X.w) X.A (.builtin (toString nm++toString ".loop") %[[.ref It,.ref q,.ref S]|[]]) R s:=by
 let U:∀{s:kj} (o:NQ->NQ),Qc X ff σ H s->Qc X ff σ H (s>>>s.heap.update S o):=λo I=>
  I.turned (λb u Y e=>(J6 _ _ (zr Y)).trans e) N.1 N.2.1 N.2.2.2.1 N.2.2.2.2.1 N.2.2.2.2.2
 intro r
 induction r with
 | zero=>
   intro j i s x O Q c hr hj I hS J hx rx ae d;let hh:=I.ok.hd hc;let%[its,rv,p|hz]:=I.list hl;let an:= ~~~rv;show MT M.el ?_;rw[MK M.pl _];change oT _ X.A.in1 (Us (.ref S)>>= _) _ _ _;show Z2 (Ms hS rfl ?_);change oT _ X.A.in1 (tryCatch (OT (.ref It)) _>>= _) _ _ _;show Z2 (OQ (U2 (A:=X.A.in1) hh J p.isList (by simp;lia) λh' eb=>?_));let I1:Qc X ff σ H (s>>>h'):=I.turned (λb o Y e=>eb b o Y e) g.1 g.2.1 g.2.2.2.1 g.2.2.2.2.1 g.2.2.2.2.2;let L:=eb S _ B hS;change oT _ X.A.in1 (updateSeq S (λ_=> #[])>>= _) _ _ _;show Z2 (Td L rfl (Z2 (N5 (Z3 ?_))));show hR i x O _ hx rx (λf ab=>d f ⋯) (U _ I1)
 | succ r ih=>
   intro j i s x O Q c hr hj I hS J hx rx ae d;let hh:=I.ok.hd hc;let n:j+1< ~~~xs:=by lia
   let%[its,rv,p|hz]:=I.list hl;let%[u,hu|ru]:=rv.get (Z4 n);show MT M.el ?_;rw[MK M.pl _];change oT _ X.A.in1 (Us (.ref S)>>= _) _ _ _;show Z2 (Ms hS rfl ?_);change oT _ X.A.in1 (tryCatch (OT (.ref It)) _>>= _) _ _ _;show Z2 (OQ (QU (A:=X.A.in1) J p.isList ↑hu λh' ag sb=>?_));let I1:Qc X ff σ H (s>>>h'):=I.turned (λb o Y e=>(sb.2 b Y).trans e) g.1 g.2.1 g.2.2.2.1 g.2.2.2.2.1 g.2.2.2.2.2;let L:=(sb.2 S B).trans hS;let%[oI,eI,cI|dI]:=id ag;let Ip:=(I1.pinA g eI (λv z=>by rw[dI]at z;cases z)).pinA (N.more B.symm) L (λv z=>by cases z);change oT _ X.A.in1 (tryCatch (Oq [u] (call (.ref q) [u])) _>>= _) _ _ _;show Z2 (OQ (ra (J5 (turn (j+1) _ u _ _ (Z4 n) ru Ip) (λy s2 he=>?_) λ_ _ hF=>hF.elim)));let%[v,H',T,ak,rfl|rfl]:=he;let%[E|rfl]:=ak;let gS:=(T.pin _ (Yv _ Zm)).1;let gI:=(T.pin _ (Yv _ (Zk _ Zm))).1;let T:=T.unpinA.unpinA;let ac:s2.heap.IsListIter It l (j+1+1):=%[oI,gI,cI|dI]
   change oT _ X.A.in1 (tryCatch (Oq [u,.int (a (j+1)) E] (richCompare op (.int (a (j+1)) E) (.int (a i) Q)>>= _)) _>>= _) _ _ _;show Z2 (OQ (ra (Z2 (M.cm (prog:=X.prog) (w:=X.w) (A:=X.A.in1) (P:=λi v=>∃t,v= .int (a i) t) a (λi v h=>h) (j+1) i _ _ _ _ _ %[E|rfl] %[Q|rfl] ?_))));show Z2 (ra (MY ?_));show Z2 (N5 (Z3 ?_));by_cases C:gt (a (j+1)) (a i)
   .let G:=tI.update s2.heap S (MR λ_=> #[u,.int (a (j+1)) E]);obtain⟨c2,al⟩:∃c2,(s2.heap.update S (MR λ_=> #[u,.int (a (j+1)) E])).get? S∣(NB "list" #[u,.int (a (j+1)) E] c2):=%[_|get?_update_seq gS λ_=> #[u,.int (a (j+1)) E]]
    simp only[C,Vq,Pk];show Z2 ?_;show Td gS rfl (Z2 (N5 ?_));show Z3 %[Nt M.pl _|ih (j+1) (j+1) _ _ u E c2 ⋯ n (U _ T) al %[oI,(G.2 It B.symm).trans gI,cI|dI] (Z4 n) ru (Zi _) λf ab=>?_];by_cases e:f=j+1
    .subst e;show%[M.ir|λc=>m4 c (Xj _)]
    .let:=M.tr C (d f ⋯).1;show%[this.2|λ_=>this.1]
   .simp only[C,decide_false,Zz,N7];show Z2 (N5 ?_);show Z3 %[Nt M.pl _|ih (j+1) i _ _ O Q c ⋯ n T gS ac hx rx ⋯ λf ab=>?_];by_cases e:f=j+1
    .subst e;show%[C|λ_=>by lia]
    .show d f ⋯
def keyK(M:MM nm op gt){l q:ij}{xs:dV V}{d:hH->nX}{Q:ZD}{E:ZD}{s:kj}(hc:X.calm=fI)(C:Qb X.K H l xs)(a:0< ~~~xs)(I:Qc X ff σ H s)
 (turn:∀(i:hH) (x:V) (v:hV) (c:ZE) (g:kj),xs[i]?∣x->aY x v->Qc X c σ H g->oT (MU X.prog X.w) X.A.in1 (call (.ref q) [v]) (EP X c σ λy H'=>y= .int (d i)/\H'=H) (λ_ _=>G2) g)
 (hQ:∀(i:hH) (x:V) (v:hV) (g:kj),xs[i]?∣x->aY x v->(∀j,j< ~~~xs-> ¬ gt (d j) (d i)/\(j<i->gt (d i) (d j)))->Qc X ff σ H g->Q v g):
 (X⁻¹) (call (.builtin nm) [.ref l] [(!"key",.ref q)]) Q E s:=by
 let hh:=I.ok.hd hc;let%[its,G,p|hz]:=I.list C;let%[u,hu|J]:=G.get (Z4 a);show kmk_tree M.kn M.pn M.en (M.ak _ _) ?_;change oT _ X.A.in1 (QK nm ["key","default"] 0 %[[]|[(!"key",.ref q)]]>>= _) _ _ s;show Z2 (S3 (show QK nm ["key","default"] 0 %[[]|[(!"key",.ref q)]]=pure [fx (.ref q),eH]from rfl) ?_);show Z2 (Z3 ?_);show Z2 (N2 p.isList ?_);show Z2 (Ue ?_ (Xe _));show Z3 %[Nt M.pl _|?_];let m:=I.fpOk (H':=H) (Zi _) I.fresh;let kI:∀b u,s.heap.get? b∣u->(s.heap.push {cls:= .type "list_iterator",data:= .fields #[.ref l,.int 0 0]}).get? b∣u:=λb u e=>Z7 _ e
 let L:Qc X ff σ H {s with heap:=s.heap.push {cls:= .type "list_iterator",data:= .fields #[.ref l,.int 0 0]}}:=I.kept (t':=s.toks) kI;let n:=L.fpOk (H':=H) (Zi _) L.fresh;let hS:(s.heap.push {cls:= .type "list_iterator",data:= .fields #[.ref l,.int 0 0]}).objs.size=⇑s+1:=size_push' ..;let gI:((s.heap.push {cls:= .type "list_iterator",data:= .fields #[.ref l,.int 0 0]}).push (NB "list" #[] 0)).get? ⇑s=fx {cls:= .type "list_iterator",data:= .fields #[.ref l,.int 0 0]}:=
  Z7 _ (Zj _ rfl)
 let gS:((s.heap.push {cls:= .type "list_iterator",data:= .fields #[.ref l,.int 0 0]}).push (NB "list" #[] 0)).get? (s.heap.push {cls:= .type "list_iterator",data:= .fields #[.ref l,.int 0 0]}).objs.size∣(NB "list" #[] 0):=Zj _ rfl;let I2:Qc X ff σ H {s with heap:=(s.heap.push {cls:= .type "list_iterator",data:= .fields #[.ref l,.int 0 0]}).push (NB "list" #[] 0)}:=L.kept (t':=s.toks) λb u e=>Z7 _ e
 generalize ae:(s.heap.push {cls:= .type "list_iterator",data:= .fields #[.ref l,.int 0 0]}).objs.size=S at*
 generalize ag:⇑s=It at*
 let f:S≠It:=by lia
 let%[its,G,p|hz]:=I2.list C;let%[u,hu|J]:=G.get (Z4 a);let N:((s.heap.push {cls:= .type "list_iterator",data:= .fields #[.ref l,.int 0 0]}).push (NB "list" #[] 0)).IsListIter It l 0:=%[_,gI,rfl|rfl]
 show MT M.el ?_;rw[MK M.pl _];change oT _ X.A.in1 (Us (.ref _)>>= _) _ _ _;show Z2 (Ms gS rfl ?_);change oT _ X.A.in1 (tryCatch (OT (.ref _)) _>>= _) _ _ _;show Z2 (OQ (QU (A:=X.A.in1) N p.isList ↑hu λh' O sb=>?_));let I3:Qc X ff σ H (s>>>h'):=I2.turned (λb o T e=>(sb.2 b T).trans e) m.1 m.2.1 m.2.2.2.1 m.2.2.2.2.1 m.2.2.2.2.2;let U:=(sb.2 S f).trans gS;let%[oI,eI,cI|dI]:=id O;let Ip:=(I3.pinA m eI (λv z=>by rw[dI]at z;cases z)).pinA (n.more f.symm) U (λv z=>by cases z);change oT _ X.A.in1 (tryCatch (Oq [u] (call (.ref q) [u])) _>>= _) _ _ _;show Z2 (OQ (ra (J5 (turn 0 _ u _ _ (Z4 a) J Ip) (λy s2 he=>?_) λ_ _ hF=>hF.elim)));let%[v,H',w,Y,rfl|rfl]:=he;let%[r|rfl]:=Y;let B:=(w.pin _ (Yv _ Zm)).1;let ab:=(w.pin _ (Yv _ (Zk _ Zm))).1;let w:=w.unpinA.unpinA;let g:=tI.update s2.heap S (MR λ_=> #[u,.int (d 0) r]);obtain⟨c2,ac⟩:∃c2,(s2.heap.update S (MR λ_=> #[u,.int (d 0) r])).get? S∣(NB "list" #[u,.int (d 0) r] c2):=%[_|get?_update_seq B λ_=> #[u,.int (d 0) r]]
 change oT _ X.A.in1 (updateSeq S (λ_=> #[u,.int (d 0) r])>>= _) _ _ _;show Z2 ?_;show Td B rfl ?_;show Z3 %[Nt M.pl _|Cy M hc C n m f turn hQ _ 0 0 _ _ u r c2 rfl a (w.turned (λb o T e=>(J6 _ _ (zr T)).trans e) n.1 n.2.1 n.2.2.2.1 n.2.2.2.2.1 n.2.2.2.2.2) ac %[oI,(g.2 _ f.symm).trans ab,cI|dI] (Z4 a) J (Zi _) λj' ak=>?_];let e:j'=0:=by lia
 subst e;show%[M.ir|λh=>m4 h (Xj _)]
end
section
variable{X:Cx}{K:ZA}{mg:ZC}{e:wh}{te:TE}{p p2 pos kpos:Pos}{x:iv}{ps:ZB}{sp:Sp}{j k:hH}
def Qc.in1{ff:ZE}{a:St}{H:Hp}{s:kj}{xe:ZD}(I:Qc X ff a H s):Qc {X with A:=X.A.in1,xe:=xe} ff a H s:=
 %[%[I.ok.mod,I.ok.kind,I.ok.glob,I.ok.blt,I.ok.above,I.ok.inj,I.ok.has,I.ok.cab,I.ok.hd,I.ok.frames,I.ok.stk,I.ok.exf,I.ok.bs,I.ok.bsz,I.ok.noex,I.ok.exfs,I.ok.funs|I.ok.frf],I.os,I.bare,I.base,I.loc,I.cell,I.free,I.freeC,I.pin,I.hok|I.len]
def Qc.out1{ff:ZE}{a:St}{H:Hp}{s:kj}{xe:ZD}(ok:X.Ok)(I:Qc {X with A:=X.A.in1,xe:=xe} ff a H s):Qc X ff a H s:=
 %[ok,I.os,I.bare,I.base,I.loc,I.cell,I.free,I.freeC,I.pin,I.hok|I.len]
def Fi{f:ij}{a:Oa}{H:Hp}{y:V}{v:hV}{z:nX}{ff:ZE}{b:St}{s:kj}(F:eO X.prog X.w X.K X.mg X.base CX0 j f a ps sp)(c:d6 X.K a ps [])(d:bB (j+1) X.A)(I:Qc X ff b H s)(r:aY y v)(h:sp [y] H (λy H'=>y= .int z/\H'=H) E0):
 oT (MU X.prog X.w) X.A.in1 (call (.ref f) [v]) (EP X ff b λy H'=>y= .int z/\H'=H) (λ_ _=>G2) s:=
 J5 (y6 (X:={X with A:=X.A.in1,xe:=λ_ _=>G2}) (us:=[v]) (vs:=[y]) (dvs:=[]) F d.in1 c .nil (λ_ _ _ _ _ _ _ g=>g) I.in1 (.cons r .nil) h) (λ_ _ ⟨v,H',i,r,q⟩=>%[v,H',i.out1 I.ok,r|q]) λ_ _ h=>h
abbrev Fj(c:nX->nX->Prop)(K:ZA)(sp:Sp)(te:TE):TE:=λd H Q=>te d H λx b=>∃(l:ij) (xs:dV V) (a:hH->nX),x= .ref l/\Qb K b l xs/\0< ~~~xs/\(∀i x,xs[i]?∣x->sp [x] b (λy H'=>y= .int (a i)/\H'=b) E0)/\∀i x,xs[i]?∣x->(∀j,j< ~~~xs-> ¬ c (a j) (a i)/\(j<i->c (a i) (a j)))->Q x b
def Ik{nm:Mv}{op:Sw}{o:nX->nX->Prop}[∀a b,Ob (o a b)](M:MM nm op o){m:iv}(r:M8 m∣.builtin nm)(w:m≠"__name__")(z:(m==("__debug__":iv))=fS)(C:Cal X.prog X.w K mg X.base j x ps sp)(hr:bB k X.A)(hK:X.K=K)(A:X.mg=mg)(B:O6 (j+1) k=fI)(hc:X.calm=fI)(hm:mg m=eH)(hg:Gl X m)(E:Gl X x)(G:(x==("__debug__":iv))=fS)(hs:aV e=fS)(he:QE X e te):
 QE X (.Call (.Name m p) [e] [%[fx "key",.Name x p2|kpos]] pos) (Fj o K sp te):=by
 subst hK A;let%[f,fd,F,c,hk|J]:=C.ex;show⟨λff s σ H Q I h=>?_⟩;let d:=aD (es:=[]) (env:=X.env) hs;show Nv (iX I hg hm r ?_ w z);show callWith_kw (thP (Am he.h Dh d pos ff s σ H (λvs g=>match vs with|[x]=>∃(l:ij) (xs:dV V) (n:hH->nX),x= .ref l/\Qb X.K g l xs/\0< ~~~xs/\(∀i x,xs[i]?∣x->sp [x] g (λy H'=>y= .int (n i)/\H'=g) E0)/\∀i x,xs[i]?∣x->(∀j,j< ~~~xs-> ¬ o (n j) (n i)/\(j<i->o (n i) (n j)))->Q x g|_=>G2) I h) λus L vs g I1 r1 q1=>?_) (by rw[d];rfl) (by rw[d];rfl) rfl rfl
 match vs,q1 with
 |[x'],⟨l,xs,n,ex,hl,N,O,q⟩=>
  subst ex;let%[u,rfl|ru]:=dA r1;cases ru;let hv:PE X (.Name x p2) (tC (.ref f)):=by
   let:=(xK (X:=X) (p:=p2) rfl E (by rw[eC c,c]) G).h;rwa[eC c]at this
  show thP (Gi hv Jm pos ff L σ g (λzs T=>zs=[.ref f]/\T=g) I1 %[rfl|rfl]) λws s2 zs T I2 r2 ⟨e1,e2⟩=>?_
  subst e1 e2;let%[u2,rfl|U]:=dA r2;cases U;show keyK M hc hl N I2 (λi y v Y L hy ry I'=>Fi F J (hr.mono (Ye B)) I' ry (O i y hy)) λi y v L hy ry J I'=>%[y,T,I',ry|q i y hy J]
def LP:MM "max" .Gt λa b=>b<a:=%[PySem.F.entry_max_loop,PySem.F.plain_max_loop,PySem.F.kind_max,PySem.F.plain_max,PySem.F.entry_max,kmk_max_key,CmpOf.ints_gt,λh g=>by lia|⋯]
def LQ:MM "min" .Lt λa b=>a<b:=%[PySem.F.entry_min_loop,PySem.F.plain_min_loop,PySem.F.kind_min,PySem.F.plain_min,PySem.F.entry_min,kmk_min_key,CmpOf.ints_lt,λh g=>by lia|⋯]
def LR(C:Cal X.prog X.w K mg X.base j x ps sp)(h:bB k X.A)(i:X.K=K)(c:X.mg=mg)(d:O6 (j+1) k=fI)(l:X.calm=fI)(m:mg "max"=eH)(n:Gl X "max")(f:Gl X x)(g:(x==("__debug__":iv))=fS)(o:aV e=fS)(q:QE X e te):
 QE X (.Call (.Name "max" p) [e] [%[fx "key",.Name x p2|kpos]] pos) (Fj (λa b=>b<a) K sp te):=Ik LP boot_max (!1) (!1) C h i c d l m n f g o q
def LS(C:Cal X.prog X.w K mg X.base j x ps sp)(h:bB k X.A)(i:X.K=K)(c:X.mg=mg)(d:O6 (j+1) k=fI)(l:X.calm=fI)(m:mg "min"=eH)(n:Gl X "min")(f:Gl X x)(g:(x==("__debug__":iv))=fS)(o:aV e=fS)(q:QE X e te):
 QE X (.Call (.Name "min" p) [e] [%[fx "key",.Name x p2|kpos]] pos) (Fj (λa b=>a<b) K sp te):=Ik LQ boot_min (!1) (!1) C h i c d l m n f g o q
end
section
variable{X:Cx}
def Hq(y:X.calm=fI):cG X (.type "list") (λxs H Q=>dh xs λp=>asR p λa=>∃(d:dV (Key×V)),Rd H a (.dK d)/\∃(ks:ZB),d\1=ks.map hY/\∀l,H l=eH->Q (.ref l) (Qa H l (.lst (ks\3)))):=⟨by
 intro ff s O H xs us Q I r h;let%[p,rfl|m]:=ck h;let%[a,rfl|n]:=aU m;let%[d,A,ks,i|q]:=n;let%[u,rfl|B]:=dA r;cases B;let%[z,lo,vs,C,o,es,T,g,ex,E,_,G|_]:=pF I.hok A;let v:=lA G (i▸C.keys.symm);let J:es.size= ~~~ks:=by
  let:=cb v;rwa[Z6,Zb]at this
 let w: ~~~d= ~~~ks:=by rw[<-Z6 (f:=(·.1)),i,Z6]
 show kdl_call (AI lo) (I.ok.hd y) %[o,g,ex|E] (by rw[J,<-w];show z) λh' tk acc c keep L b=>?_
 let e:acc.toList=es.toList.map (·.key):=by
  apply PD;intro j;rw[Zl,Yc,Yc];by_cases M:j<es.size
  .let N:j<acc.size:=b.1▸M;let%[_|q]:=b.2 j acc[j] ∅
   simp_all
  .rw[Ng (by rw[b.1];lia),Ng ⋯];rfl
 show%[.ref ⇑s,_,I.laid (o:= .lst _) keep (Zi _) %[by rw[Z6,<-w];show z,acc.toList,c,e▸dO v|L],ρ|q _ I.fresh]⟩
end
end _LL
namespace _CU
open PySem _LL
inductive dj (S:iv->iv->Prop):iv->iv->Prop
 | refl (x:iv):dj S x x
 | step {x y z:iv}:dj S x y->(S y z\/S z y)->dj S x z
def dj.trans{S:iv->iv->Prop}(h:dj S x y)(g:dj S y z):dj S x z:=by
 induction g with
 | refl=>show h
 | step _ s a=>show .step a s
def dj.one{S:iv->iv->Prop}(h:S x y\/S y x):dj S x y:= .step (.refl x) h
def dj.symm{S:iv->iv->Prop}(h:dj S x y):dj S y x:=by
 induction h with
 | refl=>show .refl _
 | step _ s a=>show(dj.one s.symm).trans a
def dj.mono{S R:iv->iv->Prop}(m:∀a b,S a b->R a b)(h:dj S x y):dj R x y:=by
 induction h with
 | refl=>show .refl _
 | step _ s c=>show .step c (s.imp (m _ _) (m _ _))
def dj.within{S:iv->iv->Prop}{p:iv->Prop}(w:∀a b,S a b->p a/\p b)(h:dj S x y)(c:p x):p y:=by
 induction h with
 | refl=>show c
 | step _ s _=>
   rcases s with s|s
   .show(w _ _ s).2
   .show(w _ _ s).1
abbrev bE(S:iv->iv->Prop)(z r:iv):Prop:=dj S z r/\∀y,dj S z y->aS y r=fS
def bE.one{S:iv->iv->Prop}(h:bE S z r)(g:bE S z a):r=a:=by
 by_cases e:r=a
 .show e
 .let:=fT (g.2 _ h.1) e;rw[h.2 _ g.1]at this;cases this
structure bX (ls:ZB) (f r:iv->iv) (S:iv->iv->Prop):Prop where
 ws:∀a b,S a b->a∈ls/\b∈ls
 fin:∀z∈ls,f z∈ls
 rin:∀z∈ls,r z∈ls
 rf:∀z∈ls,r (f z)=r z
 fr:∀z∈ls,f (r z)=r z
 fix:∀z∈ls,f z=z->r z=z
 dec:∀z∈ls,f z≠z->aS (f z) z=fI
 le:∀z∈ls,aS z (r z)=fS
 cl:∀x∈ls,∀y∈ls,r x=r y↔dj S x y
def bX.rr{S:iv->iv->Prop}(F:bX a f r S)(h:z∈a):r (r z)=r z:=F.fix _ (F.rin z h) (F.fr z h)
def bX.conn{S:iv->iv->Prop}(F:bX a f r S)(h:z∈a):dj S z (r z):=(F.cl z h _ (F.rin z h)).mp (F.rr h).symm
def bX.least{S:iv->iv->Prop}(F:bX b f r S){z:iv}(h:z∈b):bE S z (r z):=by
 show%[F.conn h|λy c=>?_];let a:=c.within F.ws h;rw[(F.cl z h y a).mpr c];show F.le y a
def bX.start(a:ZB):bX a id id (λ_ _=>G2):=by
 show%[λ_ _ h=>h.elim,λz h=>h,λz h=>h,λ_ _=>rfl,λ_ _=>rfl,λ_ _ _=>rfl,λz _ h=>(h rfl).elim,λz _=>dN z|λx b y d=>%[λe=>?_|λc=>?_]]
 .rw[show x=y from e];show .refl _
 .induction c with
  | refl=>rfl
  | step _ s _=>simp_all
set_option tactic.hygienic true in
def bX.join{S:iv->iv->Prop}(F:bX j f r S){a b M m:iv}(q:a∈j)(w:b∈j)(B:M=if aS (r a) (r b)=fI then r b else r a)(C:m=if aS (r b) (r a)=fI then r b else r a):
 bX j (λx=>if x=M then m else f x) (λx=>if r x=M then m else r x) (λx y=>S x y\/(x=a/\y=b)):=by
 let g:(M=r a/\m=r b)\/(M=r b/\m=r a):=by
  rw[B,C];cases e:aS _ _ with
  | true=>
    let:aS (r b) (r a)=fS:=by
     cases i:aS _ _ with
     | false=>rfl
     | true=>have:=d8 e i;rw[dN]at this;cases this
    show this▸ .inr %[rfl|rfl]
  | false=>
    cases i:aS _ _ with
    | true=>show .inl %[rfl|rfl]
    | false=>
      let:r a=r b:=by
       by_cases h:r a=r b
       .show h
       .let:=fT e h;rw[i]at this;cases this
      show this▸ .inl %[rfl|rfl]
 let lt:m≠M->aS m M=fI:=by
  rw[B,C];cases e:aS _ _ with
  | true=>
    cases i:aS _ _ with
    | true=>intro h;show(h rfl).elim
    | false=>intro _;show e
  | false=>
    cases i:aS _ _ with
    | true=>intro _;show i
    | false=>intro h;show(h rfl).elim
 let Q:=F.rin a q;let T:=F.rin b w;let E:m∈j:=by rcases g with⟨_,h⟩|⟨_,h⟩<;> rw[h]<;> assumption
 let G:r M=M:=by rcases g with⟨h,_⟩|⟨h,_⟩<;> rw[h]<;> apply F.rr<;> assumption
 let L:r m=m:=by rcases g with⟨_,h⟩|⟨_,h⟩<;> rw[h]<;> apply F.rr<;> assumption
 let N:dj (λx y=>S x y\/(x=a/\y=b)) M m:=by
  let c1:dj (λx y=>S x y\/(x=a/\y=b)) _ _:=(((F.conn q).mono λ_ _=> .inl).symm.trans (.one (.inl (.inr %[rfl|rfl])))).trans ((F.conn w).mono λ_ _=> .inl);rcases g with⟨l,n⟩|⟨l,n⟩
  .rw[l,n];show c1
  .rw[l,n];show c1.symm
 let p:∀x∈j,dj _ x (if r x=M then m else r x):=λx A=>by
  let c:=(F.conn A).mono (R:=λx y=>S x y\/(x=a/\y=b)) λ_ _=> .inl
  by_cases e:r x=M
  .rw[jg e];rw[e]at c;show c.trans N
  .rw[hX e];show c
 let H:(if r a=M then m else r a)=(if r b=M then m else r b):=by
  rcases g with⟨l,n⟩|⟨l,n⟩
  .rw[jg l.symm];by_cases e:r b=M
   .rw[jg e]
   .rw[hX e];show n
  .rw[jg l.symm];by_cases e:r a=M
   .rw[jg e]
   .rw[hX e];show n.symm
 show%[λx y h=>?_,λz d=>?_,λz d=>?_,λz d=>?_,λz d=>?_,λz d h=>?_,λz d h=>?_,λz d=>?_|λx A y I=>%[λe=>?_|λc=>?_]]
 .rcases h with h|⟨rfl,rfl⟩
  .show F.ws x y h
  .show%[q|w]
 .split
  .show E
  .show F.fin z d
 .split
  .show E
  .show F.rin z d
 .by_cases e:z=M
  .rw[jg e,e,G,jg rfl,L]
   split<;> rfl
  .rw[hX e,F.rf z d]
 .by_cases e:r z=M
  .rw[jg e]
   split
   .rfl
   .show(by rcases g with⟨_,h⟩|⟨_,h⟩<;> rw[h]<;> apply F.fr<;> assumption)
  .rw[hX e,hX e];show F.fr z d
 .by_cases e:z=M
  .rw[jg e]at h;rw[e,G,jg rfl,<-e];show h
  .rw[hX e]at h;rw[F.fix z d h,hX e]
 .by_cases e:z=M
  .rw[jg e]at h ⊢;rw[e]at h ⊢;show lt h
  .rw[hX e]at h ⊢;show F.dec z d h
 .by_cases e:r z=M
  .rw[jg e];cases i:aS z m with
   | false=>rfl
   | true=>
     let o:=F.le z d;rw[e]at o;by_cases em:m=M
     .rw[em]at i;rw[o]at i;cases i
     .let:=d8 i (lt em);rw[o]at this;cases this
  .rw[hX e];show F.le z d
 .let c:=(p x A)
  rw[e]at c;show c.trans (p y I).symm
 .let ws:∀x y,(S x y\/(x=a/\y=b))->x∈j/\y∈j:=λx y h=>by
   rcases h with h|⟨rfl,rfl⟩
   .show F.ws x y h
   .show%[q|w]
  clear I
  induction c with
  | refl=>rfl
  | step c s O=>
    rename_i u v
    let J:=c.within ws A;rw[O];rcases s with(s|⟨rfl,rfl⟩)|(s|⟨rfl,rfl⟩)
    .rw[(F.cl u J v (F.ws u v s).2).mpr (.one (.inl s))]
    .show H
    .rw[(F.cl u J v (F.ws v u s).1).mpr (.one (.inr s))]
    .show H.symm
def bX.short{S:iv->iv->Prop}(F:bX d f r S)(b:z∈d):bX d (λx=>if x=z then f (f z)else f x) r S:=by
 let g:f z≠z->aS (f _) z=fI:=λh=>by
  let i:=F.dec z b h;by_cases e:f (f z)=f z
  .show e▸i
  .show d8 (F.dec _ (F.fin z b) e) i
 show%[F.ws,λx a=>?_,F.rin,λx a=>?_,λx a=>?_,λx a h=>?_,λx a h=>?_,F.le|F.cl]
 .split
  .show F.fin _ (F.fin z b)
  .show F.fin x a
 .by_cases e:x=z
  .rw[jg e,F.rf _ (F.fin z b),F.rf z b,e]
  .rw[hX e];show F.rf x a
 .by_cases e:r x=z
  .rw[jg e];let:=F.fr x a
   simp_all
  .rw[hX e];show F.fr x a
 .by_cases e:x=z
  .rw[jg e]at h;rw[e]at h ⊢;by_cases c:f z=z
   .show F.fix z b c
   .let:=g c;rw[h,dN]at this;cases this
  .rw[hX e]at h;show F.fix x a h
 .by_cases e:x=z
  .rw[jg e]at h ⊢;rw[e]at h ⊢;show g λc=>h ?_
   rw[c,c]
  .rw[hX e]at h ⊢;show F.dec x a h
def bX.done{S:iv->iv->Prop}(F:bX b f r S)(a:z∈b)(h:∀w∈b,aS w z=fI->f w=r w):f (f z)=r z:=by
 by_cases e:f z=z
 .rw[e,e];show(F.fix z a e).symm
 .rw[h _ (F.fin z a) (F.dec z a e),F.rf z a]
abbrev Ed(ks:dV ZB)(a b:iv):Prop:=∃z,[a,b,z]∈ks
inductive Rch (ks:dV ZB):iv->iv->Prop
 | one {a b:iv}:Ed ks a b->Rch ks a b
 | more {a b c:iv}:Rch ks a b->Ed ks b c->Rch ks a c
def Rch.trans(h:Rch ks a b)(g:Rch ks b c):Rch ks a c:=by
 induction g with
 | one e=>show .more h e
 | more _ e d=>show .more d e
def Rch.closed{R:iv->Prop}(a:∀y,Ed ks s y->R y)(h:∀x y,R x->Ed ks x y->R y)(r:Rch ks s y):R y:=by
 induction r with
 | one e=>show a _ e
 | more _ e b=>show h _ _ b e
def ug{ks:dV _}{laid:ZB}(h:∀i x,laid[i]?∣x->∀y,Ed ks x y->y∈laid.take i){i:hH}{x y:iv}(hi:laid[i]?∣x)(r:Rch ks x y):∃j,j<i/\laid[j]?∣y:=by
 let b:∀i y,y∈laid.take i->∃j,j<i/\laid[j]?∣y:=λi y d=>by
  let%[j|c]:=Xf d;let f:=(Xl c).1;rw[Yl]at f;show%[j,⋯|by rwa[Yb ⋯]at c]
 show r.closed (λy e=>b i y (h i x hi y e)) λa y ⟨j,m,c⟩ e=>?_
 let%[g,n|l]:=b j y (h j a c y e);show%[g,⋯|l]
def Hr{laid:ZB}(h:∀(i:hH) x,laid[i]?∣x->∀y,Ed ks x y->y∈laid.take i){x:iv}(a:x∈laid): ¬ Rch ks x x:=by
 intro r;let%[i|hi]:=Xf a;let:∀n i:hH,i<=n->laid[i]? ≠fx x:=λn=>by
  induction n with
  | zero=>
    intro i hi e;let%[j,b|_]:=ug h e r
    lia
  | succ n c=>
    intro i hi e;let%[j,b|d]:=ug h e r;show c j ⋯ d
 show this i i (Zi _) hi
abbrev Wal:dV ZB->iv->iv->Prop
 |[],a,b=>a=b
 | k::r,a,b=>∃c z,k=[a,c,z]/\Wal r c b
def Wal.app:∀{us vs:dV ZB} {a:iv},Wal us a b->Wal vs b c->Wal (us++vs) a c
 |[],_,_,h,g=>h▸g
 | _::_,_,_,⟨d,z,e,h⟩,g=>%[d,z,e|h.app g]
abbrev Dst(ks:dV ZB)(s:iv)(n:hH)(x:iv):Prop:=∃us:dV _,~~~us=n/\(∀k∈us,k∈ks)/\Wal us s x
def Dst.nil:Dst ks s 0 s:=%[[],rfl,λ_ h=>(nomatch h)|rfl]
def Dst.app(h:Dst ks s n x)(g:Dst ks x m y):Dst ks s (n+m) y:=by
 let%[us,f,a|b]:=h;let%[vs,i,c|d]:=g;show%[us++vs,!2,λk e=>(Xm e).elim (a k) (c k)|b.app d]
def Ed.dst(e:Ed ks s x):Dst ks s 1 x:=by
 let%[z|e]:=e;show%[[[s,x,z]],ρ,λk a=>(Xn a)▸e,x,z,ρ|ρ]
def Dst.last:∀{n:hH} {s:iv},Dst ks s (n+1) x->∃y,Dst ks s n y/\Ed ks y x
 | n,s,⟨[],a,_,_⟩=>(nomatch a)
 | 0,s,⟨[k],_,b,c,z,e,h⟩=>%[s,.nil,z|by rw[<-h,<-e];show b k Zm]
 | 0,s,⟨_::_::_,a,_,_⟩=>m4 a ∅
 | n+1,s,⟨k::r,a,b,c,z,e,h⟩=>by
   let%[y,d|f]:=Dst.last %[r,↑a,λk g=>b k (Zk _ g)|h];let:Ed ks s c:=%[z|e▸b k Zm]
   show%[y,T3 1 n▸this.dst.app d|f]
def Rch.dst(h:Rch ks a b):∃n,Dst ks a (n+1) b:=by
 induction h with
 | one e=>show%[0|e.dst]
 | more _ e c=>
   let%[n|h]:=c;show%[n+1|h.app e.dst]
def Dst.rch:∀{n:hH} {b:iv},Dst ks a (n+1) b->Rch ks a b
 | 0,b,h=>by
   let%[y,%[us,d,_|c]|e]:=h.last;rw[y2.mp d]at c;rw[c];show .one e
 | n+1,b,h=>by
   let%[y,h|e]:=h.last;show .more h.rch e
structure Lev (ks:dV ZB) (st:iv) (rs:dV (iv×ij×ZB)) (d:iv->hH) (k:hH) (F:ZB):Prop where
 nd:(rs\1).Nodup
 by_:∀r∈rs,r.2.2∈ks/\∃p z,r.2.2=[p,r.1,z]/\((p=st/\d r.1=1)\/(p≠st/\p∈rs\1/\d r.1=d p+1))
 le:∀x∈rs\1,d x<=k
 edge:∀x,x∈F↔(k=0/\x=st)\/(1<=k/\x∈rs\1/\d x=k)
 all:∀n x,1<=n->n<=k->Dst ks st n x->x∈rs\1/\d x<=n
section
variable{ks:dV ZB}{st:iv}{rs:dV (iv×ij×ZB)}{d:iv->hH}{k:hH}{F:ZB}
def Lev.nil:Lev ks st [] (λ_=>0) 0 [st]:=
 %[X3,λ_ h=>(nomatch h),λ_ h=>(nomatch h),λx=>by simp|λn x a b=>by lia]
def Lev.dst(h:Lev ks st rs d k F)(a:x∈rs\1):1<=d x/\Dst ks st (d x) x:=by
 let:∀m x,x∈rs\1->d x<=m->1<=d x/\Dst ks st (d x) x:=λm=>by
  induction m with
  | zero=>
    intro x a l;let%[r,b|rfl]:=Xo a;obtain⟨_,p,z,_,⟨_,e⟩|⟨_,_,e⟩⟩:=h.by_ r b<;> lia
  | succ m g=>
    intro x a l;let%[r,b|rfl]:=Xo a;let%[c,p,z,i|q]:=h.by_ r b;rw[i]at c;let f:Ed ks p r.1:=%[z|c]
    rcases q with⟨rfl,e⟩|⟨_,j,e⟩
    .rw[e];show%[Zi _|f.dst]
    .show e▸%[⋯|(g p j ⋯).2.app f.dst]
 show this _ x a (Zi _)
def Lev.min(h:Lev ks st rs d k F)(a:x∈rs\1)(g:Dst ks st (n+1) x):d x<=n+1:=by
 by_cases c:n+1<=k
 .show(h.all _ x ⋯ c g).2
 .let:=h.le x a
  lia
def Lev.stop(h:Lev ks st rs d k []):∀{n:hH},Dst ks st (n+1) x->x∈rs\1:=by
 let k1:=P7 λc=>(nomatch (h.edge st).mpr (.inl %[c|rfl]))
 let:∀n x,Dst ks st (n+1) x->x∈rs.map _:=λn=>by
  induction n with
  | zero=>show λx g=>(h.all 1 x (Zi _) k1 g).1
  | succ n a=>
    intro x g;let%[y,b|e]:=g.last;let q:=a y b;let l:=h.le y q;let ne:d y≠k:=λc=>(nomatch (h.edge y).mpr (.inr %[k1,q|c]))
    show(h.all _ x ⋯ ⋯ ((h.dst q).2.app e.dst)).1
 show λ{n}=>this n x
def Lev.step(h:Lev ks st rs d k F)(nd:((rs++new)\1).Nodup)(E:∀r∈new,r.2.2∈ks/\∃p z,p∈F/\r.2.2=[p,r.1,z])
 (u:∀x∈F,∀y,Ed ks x y->y∈(rs++new)\1):Lev ks st (rs++new) (λx=>if x∈new\1 then k+1 else d x) (k+1) (new\1):=by
 let l:=nd;rw[Zd,X1]at l;let f:∀{x},x∈rs\1->x∉new\1:=λ{x} a b=>l.2.2 x a x b rfl
 let mem:∀{x},x∈(rs++new)\1↔x∈rs\1\/x∈new\1:=λ{x}=>by rw[Zd,Yt]
 let v:∀x∈(rs++new)\1,(if x∈new\1 then k+1 else d x)<=k+1:=λx j=>by
  by_cases c:x∈new\1
  .rw[jg c];show Zi _
  .rw[hX c];let:=h.le x ((mem.mp j).resolve_right c);lia
 show%[nd,λr G=>?_,v,λx=>?_|λn x n1 M g=>?_]
 .rcases Xm G with q|q
  .let%[s,p,z,e|g]:=h.by_ r q;show%[s,p,z,e|?_];rw[hX (f (Xp %[r,q|rfl]))];show g.imp_right λ⟨a,b,c⟩=>%[a,mem.mpr (.inl b)|?_]
   rw[hX (f b)];show c
  .let%[s,p,z,H|e]:=E r q;let w:r.1∈new\1:=Xp %[r,q|rfl];show%[s,p,z,e|?_];rw[jg w];rcases(h.edge p).mp H with⟨rfl,rfl⟩|⟨k1,b,c⟩
   .show .inl %[rfl|rfl]
   .show .inr %[λps=>?_,mem.mpr (.inl b)|by rw[hX (f b),c]];let:Ed ks st r.1:=%[z|by rw[<-ps,<-e];show s]
    show f (h.all 1 _ (Zi _) k1 this.dst).1 w
 .show%[λj=> .inr %[⋯,mem.mpr (.inr j)|jg j]|λj=>?_];rcases j with⟨a,_⟩|⟨_,a,b⟩
  .lia
  .show(mem.mp a).resolve_left λc=>?_
   rw[hX (f c)]at b;let:=h.le x c
   lia
 .let i:∀{m},1<=m->m<=k->Dst ks st m x->x∈(rs++new).map _/\(if x∈new.map _ then k+1 else d x)<=m:=λa b g=>by
   let%[o|A]:=h.all _ x a b g;show%[mem.mpr (.inl o)|by rw[hX (f o)];show A]
  by_cases c:n<=k
  .show i n1 c g
  .obtain rfl:n=k+1:=by lia
   let fin:x∈(rs++new).map _->x∈(rs++new).map _/\(if x∈new.map _ then k+1 else d x)<=k+1:=λa=>%[a|v x a]
   let%[y,B|e]:=g.last;by_cases I:k=0
   .subst I;let%[us,J,_|C]:=B;rw[y2.mp J]at C;show fin (u y ((h.edge y).mpr (.inl %[rfl|(C).symm])) x e)
   .let%[o|A]:=h.all k y ⋯ (Zi _) B;by_cases L:d y=k
    .show fin (u y ((h.edge y).mpr (.inr %[⋯,o|L])) x e)
    .show fin (i ⋯ ⋯ ((h.dst o).2.app e.dst)).1
end
structure Sho (ks:dV _) (a b:iv) (us:dV _):Prop where
 sub:∀k∈us,k∈ks
 wal:Wal us a b
 pos:0< ~~~us
 min:∀n,Dst ks a (n+1) b-> ~~~us<=n+1
def Sho.dst(h:Sho ks a b us):∃n,~~~us=n+1/\Dst ks a (n+1) b:=
 %[~~~us-1,by let:=h.pos;lia,us,by let:=h.pos;lia,h.sub|h.wal]
def Sho.rch(h:Sho ks a b us):Rch ks a b:=by
 let%[n,_|d]:=h.dst;show d.rch
def KC{U:ZB}(h:∀x∈U,∃y∈U,Ed ks x y)(nr:∀x,¬ Rch ks x x){x:iv}(i:x∈U):G2:=by
 let:∀n,∃a p,~~~p=n/\(a::p).Nodup/\(∀y∈a::p,y∈U)/\∀y∈p,Rch ks y a:=λn=>by
  induction n with
  | zero=>show%[x,[],ρ,by simp,↑i|λ_ h=>(nomatch h)]
  | succ n j=>
    let%[a,p,l,nd,d|r]:=j;let%[b,m|e]:=h a (d a Zm);let g:∀y∈a::p,Rch ks y b:=λy f=>by
     rcases Yw.mp f with rfl|q
     .show .one e
     .show .more (r y q) e
    show%[b,a::p,!2,Nw.mpr %[λc=>nr b (g b c)|nd],λy f=>?_|g];rcases Yw.mp f with rfl|q
    .show m
    .show d y q
 let%[a,p,l,nd,d|_]:=this U.length;let:=_ST.nodup_sub nd d;rw[Zr]at this
 lia
structure Mat {α:Type} (E:α->α->Prop) (L:dV α) (m:α->α):Prop where
 nd:L.Nodup
 inj:∀x∈L,∀y∈L,m x=m y->x=y
 ed:∀x∈L,E (m x) x
structure rX {α:Type} (E:α->α->Prop) (L:dV α) (m:α->α) (S T:α->Prop):Prop where
 nb:∀a,S a->∀p,E a p->T p
 mt:∀p,T p->p∈L/\S (m p)
structure Ask {α:Type} (E:α->α->Prop) (L:dV α) (m:α->α) (A0 Q:dV α) (g:α->α):Prop where
 nd:Q.Nodup
 by_:∀i x,Q[i]?∣x->E (g x) x/\(g x∈A0\/∃y∈Q.take i,y∈L/\m y=g x)
section
variable{α:Type}[Mw α]{E:α->α->Prop}{L A0 Q:dV α}{m g:α->α}{S T S' T':α->Prop}
def rX.or(h:rX E L m S T)(k:rX E L m S' T'):rX E L m (λa=>S a\/S' a) (λp=>T p\/T' p):=
 %[λa s p e=>s.imp (λs=>h.nb a s p e) λs=>k.nb a s p e|λp t=>t.elim (λt=>%[(h.mt p t).1|.inl (h.mt p t).2]) λt=>%[(k.mt p t).1|.inr (k.mt p t).2]]
def Ask.shut(a:Ask E L m A0 Q g)(h:rX E L m S T)(d:∀x∈A0,S x):∀x∈Q,T x:=by
 let:∀(n i:hH) x,i<n->Q[i]?∣x->T x:=λn=>by
  induction n with
  | zero=>show λi x l=>m4 l (X4 _)
  | succ n f=>
    intro i x l e;let%[o|b]:=a.by_ i x e;show h.nb _ ?_ x o;rcases b with b|⟨y,p,s,b⟩
    .show d _ b
    .let%[j|c]:=Xf p;let q:=(Xl c).1;rw[Yl]at q;rw[Yb ⋯]at c;show b▸(h.mt y (f j y ⋯ c)).2
 intro x r;let%[i|hi]:=Xf r;show this _ i x (Yo _) hi
def Ask.closed(c:∀x∈Q,x∈L)(d:∀b,(b∈A0\/∃y∈Q,y∈L/\m y=b)->∀p,E b p->p∈Q):rX E L m (λb=>b∈A0\/∃y∈Q,y∈L/\m y=b) (λp=>p∈Q):=
 %[d|λp a=>%[c p a|.inr %[p,a,c p a|rfl]]]
structure vX {α:Type} (E:α->α->Prop) (L Q:dV α) (m g:α->α) (T:α->Prop) (f:α) (C:dV α) (i:hH) (p:α):Prop where
 at_:Q[i]?∣p
 own:p=f\/p∈L
 far:∀x∈C,∃j,i<j/\Q[j]?∣x
 nx:∀x∈C,∃y,y∈L/\m y=g x/\(y∈C\/y=p)
 inj:∀x∈C,∀y∈C,g x=g y->x=y
 pv:∀y,y∈C\/y=p->y=f\/(y∈L/\∃x∈C,g x=m y)
 nt:∀y,y∈C\/y=p-> ¬ T y
 hf:f∈C\/p=f
def Fk{Q:dV α}(nd:Q.Nodup){i j:hH}{x:α}(h:Q[i]?∣x)(k:Q[j]?∣x):i=j:=(dV.getElem?_inj (Xl h).1 nd).mp (h.trans k.symm)
def vX.start(h:rX E L m S T)(b:f∉L)(e:Q[i]?∣f):vX E L Q m g T f [] i f:=
 %[e,.inl rfl,λ_ h=>(nomatch h),λ_ h=>(nomatch h),λ_ h=>(nomatch h),λy a=>a.elim (λh=>(nomatch h)) .inl,λy a t=>a.elim (λh=>(nomatch h)) λe=>b (e▸(h.mt y t).1)|.inr rfl]
def vX.inj'(M:Mat E L m)(a:Ask E L m A0 Q g){f:α}{C:dV α}{i:hH}{p:α}(b:vX E L Q m g T f C i p):∀x∈C++[p],∀y∈C++[p],(∀z∈L,m z=g p->z∈Q.take i)->g x=g y->x=y:=by
 let o:∀x∈C,(∀z∈L,m z=g p->z∈Q.take i)->g x≠g p:=λx c h e=>by
  let%[y,q,r|n]:=b.nx x c;let%[j|l]:=Xf (h y q (r.trans e));let s:=(Xl l).1;rw[Yl]at s;rw[Yb ⋯]at l;rcases n with n|rfl
  .let%[k,v|u]:=b.far y n;let:=Fk a.nd l u
   lia
  .let:=Fk a.nd l b.at_
   lia
 intro x c y d h e;rcases Xm c with c|c<;> rcases Xm d with d|d
 .show b.inj x c y d e
 .rw[Xn d]at e;show(o x c h e).elim
 .rw[Xn c]at e;show(o y d h e.symm).elim
 .rw[Xn c,Xn d]
def vX.step(M:Mat E L m)(a:Ask E L m [w] Q g)(A:∀x∈L,m x≠w)(h:rX E L m S T)(b:vX E L Q m g T f C i p)(n:y∈L)(o:m y=g p):∃j,j<i/\vX E L Q m g T f (C++[p]) j y:=by
 let%[B|s]:=a.by_ i p b.at_;let v:y∈Q.take i:=by
  rcases s with s|⟨z,c,q,r⟩
  .show(A y n (o.trans (Xn s))).elim
  .rw[M.inj y n z q (o.trans r.symm)];show c
 let%[j|u]:=Xf v;let G:=(Xl u).1;rw[Yl]at G;rw[Yb ⋯]at u;let l:∀{x},x∈C++[p]↔x∈C\/x=p:=λ{x}=>by rw[Yt,Yy]
 show%[j,⋯,u,.inr n,λx d=>?_,λx d=>?_,λx d z c=>b.inj' M a x d z c λz q r=>(M.inj z q y n (r.trans o.symm))▸v,λz c=>?_,λz c t=>?_|.inl (l.mpr (b.hf.imp_right Eq.symm))]
 .rcases l.mp d with d|rfl
  .let%[k,J|H]:=b.far x d;show%[k,⋯|H]
  .show%[i,⋯|b.at_]
 .rcases l.mp d with d|rfl
  .let%[z,q,r|I]:=b.nx x d;show%[z,q,r|.inl (l.mpr I)]
  .show%[y,n,o|.inr rfl]
 .rcases c with c|rfl
  .show(b.pv z (l.mp c)).imp_right λ⟨a,x,d,e⟩=>%[a,x,l.mpr (.inl d)|e]
  .show(.inr %[n,p,l.mpr (.inr rfl)|o.symm])
 .rcases c with c|rfl
  .show b.nt z (l.mp c) t
  .show b.nt p (.inr rfl) (h.nb _ (o▸(h.mt z t).2) p B)
def vX.fin(M:Mat E L m)(a:Ask E L m [B] Q g)(h:rX E L m S T)(b:vX E L Q m g T f C i p)(J:f∉L)(N:∀y∈L,m y≠g p)(nd:v.Nodup)(G:∀x,x∈v↔x∈L\/x=f):
 Mat E v (λx=>if x∈C++[p]then g x else m x)/\rX E v (λx=>if x∈C++[p]then g x else m x) S T/\g p=B/\(∀x∈v,(if x∈C++[p]then g x else m x)=B\/∃y∈L,m y=if x∈C++[p]then g x else m x)/\∀y,y=B\/(∃x∈L,m x=y)->∃x∈v,(if x∈C++[p]then g x else m x)=y:=by
 let r:∀{x},x∈C++[p]↔x∈C\/x=p:=λ{x}=>by rw[Yt,Yy]
 let O:g p=B:=by
  obtain⟨_,e|⟨y,_,H,ym⟩⟩:=a.by_ i p b.at_
  .show Xn e
  .show(N y H ym).elim
 let U:∀x∈C++[p],∃j,Q[j]?∣x:=λx l=>by
  rcases r.mp l with l|rfl
  .let%[j,_|e]:=b.far x l;show%[j|e]
  .show%[i|b.at_]
 let o:∀x∈v,x∉C++[p]->x∈L:=λx l n=>((G x).mp l).resolve_right λe=>n (e▸r.mpr (b.hf.imp_right Eq.symm))
 let s:∀x∈C++[p],∀y∈L,y∉C++[p]->g x≠m y:=λx l y H n e=>by
  rcases r.mp l with l|rfl
  .let%[z,w,A|zc]:=b.nx x l;show n ((M.inj y H z w (e.symm.trans A.symm))▸r.mpr zc)
  .show N y H e.symm
 show%[%[nd,λx l y I e=>?_|λx l=>?_],%[h.nb|λq t=>%[(G q).mpr (.inl (h.mt q t).1)|?_]],O,λx l=>?_|λy I=>?_]
 .by_cases d:x∈C++[p]<;> by_cases u:y∈C++[p]
  .rw[jg d,jg u]at e;show b.inj' M a x d y u (λz w A=>(N z w A).elim) e
  .rw[jg d,hX u]at e;show(s x d y (o y I u) u e).elim
  .rw[hX d,jg u]at e;show(s y u x (o x l d) d e.symm).elim
  .rw[hX d,hX u]at e;show M.inj x (o x l d) y (o y I u) e
 .by_cases d:x∈C++[p]
  .rw[jg d];let%[j|e]:=U x d;show(a.by_ j x e).1
  .rw[hX d];show M.ed x (o x l d)
 .rw[hX (λc=>b.nt q (r.mp c) t)];show(h.mt q t).2
 .by_cases d:x∈C++[p]
  .rw[jg d];rcases r.mp d with d|rfl
   .let%[z,w,A|_]:=b.nx x d;show .inr %[z,w|A]
   .show .inl O
  .rw[hX d];show .inr %[x,o x l d|rfl]
 .let mem:=λx l=>(G x).mpr ((b.pv x (r.mp l)).elim .inr λh=> .inl h.1)
  rcases I with rfl|⟨x,Y,rfl⟩
  .show%[p,mem p (r.mpr (.inr rfl))|(jg (r.mpr (.inr rfl)))▸O]
  .by_cases d:x∈C++[p]
   .rcases b.pv x (r.mp d)with e|⟨_,z,hz,e⟩
    .show(J (e▸Y)).elim
    .show%[z,mem z (r.mpr (.inl hz))|(jg (r.mpr (.inl hz)))▸e]
   .show%[x,(G x).mpr (.inl Y)|by rw[hX d]]
end
abbrev Let(rows:ZB)(c:hH):Prop:=c≠46/\∃r∈rows,c∈r.cps.toList
abbrev Fo(rows:ZB)(a b:hH):Prop:=a≠46/\a≠b/\∃(i j:hH) (r c:iv),rows[i]?∣r/\rows[i+1]?∣c/\r.cps[j]?∣a/\c.cps[j]?∣b
def fU:c∈c7 rows↔Let rows c:=by
 unfold c7 Let;rw[n7,wX,RU,Mg]
 constructor
 .rintro⟨⟨l,e,b⟩,a⟩;let%[r,d|rfl]:=Xo e;show%[a,r,d|b]
 .rintro⟨a,r,d,b⟩;show%[%[_,Xp %[r,d|ρ]|b]|a]
abbrev St(a:pp)(c d:nX):Prop:=c<=d+(if a=fI then 1 else 0)/\d<=c+(if a=fI then 1 else 2)
abbrev sg(a s:nX):hH:=if a<0 then 46 else 97+((a*5+s)%26).toNat
abbrev LU(a:dV ZL)(b:nX)(k:hH):iv:=⟨(a.map λc=>sg (c.getD k 0) b).toArray⟩
abbrev drawn(a:dV ZL)(hi:hH)(b:nX):ZB:=(o0 hi).map (LU a b)
abbrev there(b:dV ZL):ZL:=((o0 8).filter λa:hH=>b.any λc=>decide ((a:nX)∈c)).map λa:hH=>a
abbrev rY(rows:ZB):Prop:=∃m:dV _,~~~m<=26/\∀a b,Fo rows a b->[sgn a,sgn b]∈m
end _CU
namespace _KK
open PySem _LL _CU
nonrec abbrev ZqS:=WW
nonrec def zqn:Lean.Name->nY ZqS->ZqS:= .node .none
nonrec def zqa:Mv->ZqS:= .atom .none
nonrec def zqi(s:Mv):ZqS:=Lean.mkIdent s.toName
nonrec def zqh:ZqS:=zqn `Lean.Parser.Term.hole #[zqa "_"]
nonrec def zqf(k:hH)(b:ZqS):ZqS:=zqn `Lean.Parser.Term.fun #[zqa "fun",zqn `Lean.Parser.Term.basicFun #[zqn `null (Ve k zqh),zqn `null #[],zqa "=>",b]]
nonrec def zqd(c:Char):ZqS:=WW.mkNumLit (toString (c.toNat-48))
nonrec def zqe(a:nY ZqS)(x:Mv):ZqS:=if x="r"then zqi "rfl"else if x="n"then a[0]! else if x="h"then a.back! else if x="_"then zqh else if x="f"then zqf 2 (zqi "rfl") else if x="g"then zqf 1 (zqi "rfl") else if ~~~x>1 then zqi x else zqn `Lean.Parser.Term.namedArgument #[zqa "(",zqi x,zqa ":=",zqi x,zqa ")"]
nonrec def zqx(r:nY ZqS):ZqS:=if r[0]!.isAtom then(if r[0]!.getAtomVal=""then zqf 3 r[1]! else r[1]!)else if r.size<2 then r[0]! else zqn `Lean.Parser.Term.app #[r[0]!,zqn `null (r.extract 1 r.size)]
nonrec def zqp(s t:Mv):hH:=(s.splitOn t).head!.length
nonrec def zqs(t:Mv)(a:nY ZqS)(l:dV Char)(k:dV (dV Mv×nY ZqS)):dV Char×dV (dV Mv×nY ZqS):=
 let f:=k.head!
 let k:=k.tail
 let x:=f.1.headD ""
 let w:=f.1.tail
 let c:=l.headD ' '
 if f.1.isEmpty then(l,(k.head!.1,k.head!.2.push (zqx f.2))::k.tail)
 else if x="#"then(l.tail,(w,f.2.push (zqd c))::k)
 else if x="L"then(l,(["*"],#[zqa ""])::(w,f.2)::k)
 else if x="*"then
  if c.isDigit then(l.tail,(["r"],#[zqi "aa",zqd c])::(w,f.2)::k)
  else if c='?'then(l.drop 2,(w,f.2.push a[l[1]!.toNat-48]!)::k)
  else
   let p:=zqp "~]`" c.toString
   let q:=if p<3 then 1 else 0
   let s:=((t.splitOn "|")[(74+84*p)*q+zqp "ABCDEFGHIJKLMNOPQRSTUVWXYZabcdefghijklmnopqrstuvwxyz!$%&'()*+,./:;<=>^_|}[0123456789" l[q]!.toString]!).splitOn " "
   (l.drop (q+1),(s.tail,#[zqi s.head!])::(w,f.2)::k)
 else(l,(w,f.2.push (zqe a x))::k)
nonrec def zqt(t:Mv)(a:nY ZqS)(l:dV Char):hH->ZqS
 |n=>(n.fold (λ_ _ s=>if ~~~s.2=1&&s.2.head!.1.isEmpty then s else zqs t a s.1 s.2) (l,[(["*"],#[zqa "1"])])).2.head!.2[1]!
nonrec def zqm(s:Lean.StrLit)(a:nY Lean.Term):Lean.MacroM Lean.Term:=
 return⟨zqt "paE r * *|am|ai * *|az|au *|aJ * h r *|aH # n r *|aM *|opE * * *|QSs.h *|aO # n r|bg * r * *|ifS * * *|aR|br K r f * *|bS K r f * *|bT # r|gsE r * *|ci *|cu PQ r r * * *|cA|bo h f * *|c8 K r *|b8|dW g *|bK r *|cn|cbO * T.a8 PySem.boot_len r *|cP K r|aO # * r|bL|wT *|aL.of *|eBl|gi *|fA *|dB|bj|iJ * r * *|gY K r r r *|eB * r r * L L L|orW * *|Z1|Z0|bmO K Op PySem.F.slot_list_append PySem.F.type_list_append * r * *|jI|fj h r * * *|kZ *|ic *|cbO * T.ac W4 r *|ik K r|h9|eR|iK|eE|kL r T.aj r *|rO|cbO * T.a7 boot_sorted r *|rN * *|kM *|ctO * T.a5 QD r *|aa # r|rP # n r * * r *|vp * *|vo *|i7|wM|xJ K r * * *|nV *|noO|i8 K r|lc|gvE T.an r r|bmO K Q5 XD type_dict_get * r * *|qj|pQ|dw T|B4 f * *|BX|pS K r r T.ae r *|tH|t4 h|cbO * T.a0 W9 r *|t7 * T.o_Ground h r r *|gvE T.ao r r|DQ|gvE T.av r r|ctO * T.a6 boot_set r *|pjE * *|dq T|uf|eJ T|jJ # n r * * r * r r * L L L|qh PQ * *|lZ h r * *|ctO * T.ah boot_int r *|Ay|bmO K Xx slot_str_join type_str_join * r * *|vt K r|G5 h r * *|G4 K r r * *|dQ T|dR T|gvE T.aA r r|fM T|cbE * r T.ac W4 r r r *|DP r T.aj r r *|jm T|zi * * r * * *|cbO * T.aa boot_all r *|DR K r r|KA *|orV * *|DX K w r r r|Fh|bmO K Op slot_list_extend type_list_extend * r * *|pR|JV *|wL # n r * *|jn T|Kj K r r *|JI *|fc T|KI K r Op PySem.F.slot_list_append PySem.F.type_list_append * r r r r * *|bmO K Q5 Vj PySem.F.type_dict_setdefault * r * *|jf|zj|fh T|Fg *|zV K r|Ep T.g_Torn_ring r *|kg T|Ij|gvE T.aq r r|Ii|HW r T.af r r *|qg w r r|bmO K Xx PySem.F.slot_str_split PySem.F.type_str_split * r * *|Az|mH T|nA T|Ib K r r T.af r r *|tY P w r r r|EJ K P w r r r r h|Ih K r|Eo *|En|bmO K Q5 WJ PySem.F.type_dict_update * r * *|xI|tZ r|gP T|ER r|iV T|JH K r Q5 WI PySem.F.type_dict_values * r r *|xy|uM T|j6 T|j4 T|Bf T|jB T|HS r|Le r r r * *|LI K r r r *|Ax K r|j7 T|L9 K r g *|iA T|j9 T|mU T|uQ T|gvE T.aB r r|gU T|j8 T|oG T|oH T|oE T|Ic * T.o_Ground h r *|xX T|LB * *|wb T|JK|wL # * r * *|gvE T.au r r|gvE T.ar r r|Fu T|qI T|lE T|gvE T.ap r r|gvE T.ay r r|gvE T.az r r|Lx K r T.t_LAYER_WORDS r r|Lx K r T.t_YEAR_WORDS r r|CG T|CF T|Fv T|gvE T.aw r r|qN T|gvE T.ax r r|xT T|CD T|Ck K r|z5 T|wc T|xW T|oS T|Cl K r|qO T|mR T|q_in K r|CB T|xZ T|CI T|JJ|cbO * T.a1 Xq r *|Kk r|oU T|G9 r|sk T|Ac T|EW r r T.a9 r T.a5 r *|yf T|FH T|lH T|Kl K r r|bmO K Op PySem.F.slot_list_remove PySem.F.type_list_remove * r * *|EU|Ks w r|wo T|JW b.ex *|JU * h r r r r *|C_Torn T|yq T|z8 T|z9 T|anyI K r *|Kh|Af T|Ci r|Cw r|CM T|Fb h|sE T|dinE h r * *|HJ T|ifE * * *|gvE T.aC r r|nK T|LR * h r r r r T.a1 r r r r *|yG T|LS * h r r r r T.a0 r r r r *|KB K r|Lz h|Ku K r r|Hq r|yK T|rE T|sF T|JH K r Op PySem.F.slot_list_clear PySem.F.type_list_clear * r r *|GP|yA T|sA T|rj T|sG T|mY T|ke T|wt T" (a.map (·.raw)) s.getString.toList 9999⟩
nonrec abbrev ZM:=dV V
nonrec abbrev ZN:=dV (ij×dV V)
local macro_rules|`(%[$s:str,$x,*|$y])=>zqm s (x.getElems.push y)|`(%[$s:str|$y])=>zqm s #[y]
local macro_rules|`(tactic|lk)=>do
 let x<-("aW CZ kY iI nN uU lJ wD tB F1 tOr II CW IM tIf tOp tUn tC IC ID tCB sP y4 Al Ji Jj yT tBM Gp tSl Dl uY GD rI rI0 rU Jx Jz rEq rNe DH DG DI Gq Ju Jn Jo Jp GL JB Aw Av zk y8 vf F8 C2 IS HU HV LG LJ Ia Ap Aq Je Jf JO pH Gx vg zd ze Dv ES ET Km vQ Kq E8 xB rIn Js ve Au C6 C7 GM LH KU KW KY KZ LM Ix Iy IA LK LL".splitOn " ").toArray.mapM λs=>`(Lean.Parser.Tactic.simpLemma|↓$(Lean.mkIdent s.toName):ident)
 let y<-("pX Gd BG Jb cond_true cond_false List.getElem?_cons_zero List.getElem?_cons_succ List.set_cons_zero List.set_cons_succ Option.some.injEq V.int.injEq V.str.injEq V.bl.injEq V.ref.injEq V.ty.injEq List.cons.injEq reduceCtorEq and_true true_and and_false false_and or_false false_or or_true true_or exists_false exists_eq_left' exists_eq_left exists_eq_right exists_eq_right' exists_and_left exists_and_right exists_eq cons_append nil_append exists_const and_assoc Int.zero_add Bool.not_true Bool.not_false Zz if_true if_false eq_self".splitOn " ").toArray.mapM λs=>`(Lean.Parser.Tactic.simpLemma|$(Lean.mkIdent s.toName):ident)
 `(tactic|simp only[$(x++y),*])
local macro_rules|`(!$n:ident)=>`(some (V.ref $n))
local macro_rules|`(-$n:ident)=>`(some (V.str $n))
local macro_rules|`(#[$n:num])=>`((show $n≤sizeLine by decide))|`(#[$x])=>`(paE rfl $x am)|`(#[$x,$y,*])=>`(paE rfl $x #[$y,*])
local macro_rules|`(tactic|walk)=>`(tactic|refine⟨rfl,rfl,rfl,?_,rfl,?_,?_⟩<;>decide +kernel)
def zq0{P:List Value->Prop}(h:P []):∀u,~~~u=0->P u:=λu e=>by rw[List.length_eq_zero_iff.mp e];show h
def zq1{n:Nat}{P:List Value->Prop}(h:∀a,∀u,~~~u=n->P (a::u)):∀u,~~~u=n+1->P u:=λu e=>by
 cases u with
 |nil=>cases e
 |cons a u=>show h a u (Nat.succ.inj e)
local macro_rules|`(tactic|room)=>`(tactic|(intro _ _ _ _ _ _;(repeat(refine zq1 λ_=>?_));exact zq0 rfl))
set_option hygiene false in
local macro_rules|`(↑$n:num)=>`(aa $n rfl)|`(↑($x,$y))=>`(show bJ _ _ _ $x $y=true from rfl)|`(↑[$x,*])=>`(show([$x,*]:ZB).Nodup from by decide)
set_option hygiene false in
local macro_rules|`($a>>$b)=>`(br (K:=K) rfl (λ_ _=>rfl) $a $b)
set_option hygiene false in
local macro_rules|`(↥$n:num)=>`(Cal P w K mg base $n)
abbrev top(i:hH):yc:=PySem.Challenge.pw_digbook_k73_why_bounds_are_so.main.body.getD i (.Pass %[0,0,0|0])
noncomputable section
nonrec abbrev iR:yc:=top 1
def bu:ay ["ground","names","layer","word","one","other"] ["ground"] (ar iR):=by walk
nonrec abbrev jv:yc:=top 2
def eS:ay ["names","one","other","first","second"] ["names","one","other"] (ar jv):=by walk
nonrec abbrev gE:yc:=top 3
def fk:ay ["names","layer"] ["names","layer"] (ar gE):=by walk
nonrec abbrev qu:yc:=top 4
def im:ay ["ground","names","groups","layer"] ["ground"] (ar qu):=by walk
nonrec abbrev l7:yc:=top 5
def rZ:ay ["ground","layer"] ["ground","layer"] (ar l7):=by walk
nonrec abbrev jw:yc:=top 6
def nq:ay ["ground"] ["ground"] (ar jw):=by walk
nonrec abbrev AQ:yc:=top 7
def xM:ay ["ground","names"] ["ground"] (ar AQ):=by walk
nonrec abbrev iS:yc:=top 20
def l8:ay ["found"] ["found"] (ar iS):=by walk
nonrec abbrev gF:yc:=top 21
def kD:ay ["found"] ["found"] (ar gF):=by walk
nonrec abbrev uh:yc:=top 22
def lB:ay ["found","side","groups","link"] ["found","side"] (ar uh):=by walk
nonrec abbrev jN:yc:=top 23
def bn:ay ["names","found","beneath","above","waits","name","ready","laid","least","link"] ["names","found"] (ar jN):=by walk
nonrec abbrev jO:yc:=top 24
def dZ:ay ["beneath","start","goal","reached","edge"] ["beneath","start","goal"] (ar jO):=by walk
nonrec abbrev oa:yc:=top 25
def fE:ay ["beneath","edge","reached","further","name","link"] ["beneath","edge","reached"] (ar oa):=by walk
nonrec abbrev xN:yc:=top 26
def uj:ay ["reached","start","goal","way"] ["reached","start","goal"] (ar xN):=by walk
nonrec abbrev kO:yc:=top 27
def dE:ay ["names","found","beneath","reach","name","link"] ["names","found"] (ar kO):=by walk
nonrec abbrev jx:yc:=top 29
def cj:ay ["names","found","beneath","shortest","name","way"] ["names","found"] (ar jx):=by walk
nonrec abbrev l9:yc:=top 30
def r9:ay ["names","found"] ["names","found"] (ar l9):=by walk
nonrec abbrev jP:yc:=top 31
def cC:ay ["ground","found","torn_by"] ["ground"] (ar jP):=by walk
nonrec abbrev AR:yc:=top 33
def xO:ay ["ground","one","other","beneath"] ["ground","one","other"] (ar AR):=by walk
nonrec abbrev jQ:yc:=top 34
def d0:ay ["ground","found"] ["ground"] (ar jQ):=by walk
nonrec abbrev uk:yc:=top 41
def zW:ay ["thing"] ["thing"] (ar uk):=by walk
nonrec abbrev uq:yc:=top 42
def jj:ay ["text","rows","number","row"] ["text"] (ar uq):=by walk
nonrec abbrev xP:yc:=top 43
def Cz:ay ["row"] ["row"] (ar xP):=by walk
nonrec abbrev jR:yc:=top 44
def oP:ay ["row","above"] ["row","above"] (ar jR):=by walk
nonrec abbrev mf:yc:=top 45
def sd:ay ["rows"] ["rows"] (ar mf):=by walk
nonrec abbrev ur:yc:=top 46
def zX:ay ["text"] ["text"] (ar ur):=by walk
nonrec abbrev qv:yc:=top 47
def e7:ay ["text","rows","pairs","above","row"] ["text"] (ar qv):=by walk
nonrec abbrev gG:yc:=top 48
def kE:ay ["above","row"] ["above","row"] (ar gG):=by walk
nonrec abbrev mj:yc:=top 57
def eX:ay ["cuts","names","number","thing"] ["cuts"] (ar mj):=by walk
nonrec abbrev jS:yc:=top 58
def oQ:ay ["thing"] ["thing"] (ar jS):=by walk
nonrec abbrev xQ:yc:=top 59
def CA:ay ["thing"] ["thing"] (ar xQ):=by walk
nonrec abbrev jy:yc:=top 60
def eT:ay ["sayings","layers","number","thing"] ["sayings","layers"] (ar jy):=by walk
nonrec abbrev og:yc:=top 61
def vY:ay ["thing","layers"] ["thing","layers"] (ar og):=by walk
nonrec abbrev jz:yc:=top 62
def nu:ay ["thing","texts"] ["thing","texts"] (ar jz):=by walk
nonrec abbrev ut:yc:=top 63
def zY:ay ["thing"] ["thing"] (ar ut):=by walk
nonrec abbrev mo:yc:=top 64
def sf:ay ["name","letter"] ["name","letter"] (ar mo):=by walk
nonrec abbrev oh:yc:=top 65
def fG:ay ["cuts","layers","name","text"] ["cuts"] (ar oh):=by walk
nonrec abbrev jT:yc:=top 66
def cD:ay ["cuts","ties","name","text","upper","lower"] ["cuts"] (ar jT):=by walk
nonrec abbrev io:yc:=top 67
def c9:ay ["sayings","ties","number","saying"] ["sayings"] (ar io):=by walk
nonrec abbrev mr:yc:=top 72
def iE:ay ["ground","word","names","sayings"] ["ground","word"] (ar mr):=by walk
nonrec abbrev eU:yc:=top 73
def mv:ay ["sinces","reach","name"] ["sinces","reach","name"] (ar eU):=by walk
nonrec abbrev oi:yc:=top 74
def vZ:ay ["bys","reach","name"] ["bys","reach","name"] (ar oi):=by walk
nonrec abbrev ip:yc:=top 75
def lC:ay ["reach","upper","lower"] ["reach","upper","lower"] (ar ip):=by walk
nonrec abbrev gH:yc:=top 76
def fo:ay ["ground","one","other","found"] ["ground","one","other"] (ar gH):=by walk
nonrec abbrev oj:yc:=top 77
def db:ay ["ground","layer","reach","name","binding","said"] ["ground","layer"] (ar oj):=by walk
nonrec abbrev jU:yc:=top 78
def bU:ay ["ground","layer","reach","name","binding","said"] ["ground","layer"] (ar jU):=by walk
nonrec abbrev uu:yc:=top 79
def zZ:ay ["said"] ["said"] (ar uu):=by walk
nonrec abbrev kP:yc:=top 81
def qw:ay ["_law_script","_law_k"] ["_law_script","_law_k"] (ar kP):=by walk
nonrec abbrev mw:yc:=top 82
def dv:ay ["_law_cell","_law_k","_law_number","_law_found","_law_j"] ["_law_cell","_law_k"] (ar mw):=by walk
nonrec abbrev mx:yc:=top 83
def cc:ay ["_law_script","_law_k","_law_base","_law_many","_law_cell","_law_mixed_one","_law_digits_here","_law_turn"] ["_law_script","_law_k","_law_base","_law_many"] (ar mx):=by walk
nonrec abbrev my:yc:=top 84
def si:ay ["_law_rank","_law_way"] ["_law_rank","_law_way"] (ar my):=by walk
nonrec abbrev ux:yc:=top 85
def cK:ay ["_law_digits_here","_law_way","_law_wide","_law_high","_law_columns","_law_j","_law_air","_law_rank","_law_column","_law_k"] ["_law_digits_here","_law_way"] (ar ux):=by walk
nonrec abbrev om:yc:=top 86
def fH:ay ["_law_name","_law_way","_law_rows","_law_ranks_here","_law_rank","_law_letter_here"] ["_law_name","_law_way","_law_rows"] (ar om):=by walk
nonrec abbrev qx:yc:=top 87
def dF:ay ["_law_script","_law_head","_law_cuts_here","_law_ranks_here","_law_k","_law_name","_law_rows"] ["_law_script"] (ar qx):=by walk
nonrec abbrev uy:yc:=top 88
def z3:ay ["_law_one","_law_other","_law_ranks_here"] ["_law_one","_law_other","_law_ranks_here"] (ar uy):=by walk
nonrec abbrev qy:yc:=top 89
def cY:ay ["_law_digits_here","_law_ranks_here","_law_torn","_law_wild","_law_names","_law_one","_law_other","_law_saying","_law_alike","_law_year"] ["_law_digits_here","_law_ranks_here","_law_torn","_law_wild"] (ar qy):=by walk
nonrec abbrev ot:yc:=top 90
def bv:ay ["_law_script","_law_ways","_law_cuts_here","_law_beds","_law_k","_law_name","_law_signs","_law_sayings","_law_digits_here","_law_year"] ["_law_script"] (ar ot):=by walk
nonrec abbrev mB:yc:=top 91
def cL:ay ["_law_script","_law_cuts_here","_law_ranks_here","_law_sayings","_law_torn","_law_wild","_law_k"] ["_law_script"] (ar mB):=by walk
nonrec abbrev jV:yc:=top 92
def cE:ay ["_law_name","_law_text","_law_rows","_law_ties_here","_law_upper","_law_lower","_law_k"] ["_law_name","_law_text"] (ar jV):=by walk
nonrec abbrev qz:yc:=top 93
def dG:ay ["_law_cuts_here","_law_sayings","_law_ties_here","_law_name","_law_text","_law_number","_law_saying"] ["_law_cuts_here","_law_sayings"] (ar qz):=by walk
nonrec abbrev ou:yc:=top 94
def bw:ay ["_law_cuts_here","_law_sayings","_law_homes_here","_law_name","_law_text","_law_sign","_law_pairs","_law_turn","_law_word","_law_one","_law_other","_law_least"] ["_law_cuts_here","_law_sayings"] (ar ou):=by walk
nonrec abbrev oy:yc:=top 95
def eF:ay ["_law_cuts_here","_law_sayings","_law_homes_here","_law_laid","_law_one","_law_other","_law_source"] ["_law_cuts_here","_law_sayings","_law_homes_here"] (ar oy):=by walk
nonrec abbrev uz:yc:=top 96
def bD:ay ["_law_laid","_law_one","_law_steps","_law_later","_law_earlier","_law_source","_law_far_here","_law_row","_law_many","_law_ahead","_law_deposit","_law_other"] ["_law_laid","_law_one"] (ar uz):=by walk
nonrec abbrev kQ:yc:=top 97
def gJ:ay ["_law_laid","_law_homes_here","_law_beneath_here","_law_deposit"] ["_law_laid","_law_homes_here"] (ar kQ):=by walk
nonrec abbrev jW:yc:=top 98
def oR:ay ["_law_beneath_here"] ["_law_beneath_here"] (ar jW):=by walk
nonrec abbrev jX:yc:=top 99
def cF:ay ["_law_found","_law_laid","_law_one","_law_other","_law_here","_law_later","_law_earlier","_law_source"] ["_law_found","_law_laid","_law_one","_law_other"] (ar jX):=by walk
nonrec abbrev kR:yc:=top 100
def jY:ay ["_law_refused_here","_law_laid","_law_beneath_here","_law_told_ring"] ["_law_refused_here","_law_laid","_law_beneath_here"] (ar kR):=by walk
nonrec abbrev oz:yc:=top 101
def dP:ay ["_law_sayings","_law_word","_law_homes_here","_law_those","_law_best","_law_number","_law_saying"] ["_law_sayings","_law_word","_law_homes_here","_law_those"] (ar oz):=by walk
nonrec abbrev oA:yc:=top 102
def v9:ay ["_law_told","_law_number","_law_laid","_law_one","_law_other","_law_many"] ["_law_told","_law_number","_law_laid","_law_one","_law_other","_law_many"] (ar oA):=by walk
nonrec abbrev iq:yc:=top 103
def cr:ay ["_law_ground_here","_law_layer","_law_sayings","_law_homes_here","_law_laid","_law_beneath_here","_law_own","_law_number","_law_told","_law_other"] ["_law_ground_here","_law_layer","_law_sayings","_law_homes_here","_law_laid","_law_beneath_here"] (ar iq):=by walk
nonrec abbrev dH:yc:=top 104
def bi:ay ["_law_ground_here","_law_layer","_law_sayings","_law_homes_here","_law_laid","_law_beneath_here","_law_own","_law_above","_law_number","_law_told","_law_other"] ["_law_ground_here","_law_layer","_law_sayings","_law_homes_here","_law_laid","_law_beneath_here"] (ar dH):=by walk
nonrec abbrev kS:yc:=top 105
def dJ:ay ["_law_ground_here","_law_layer","_law_laid","_law_beneath_here","_law_way","_law_refused_here","e"] ["_law_ground_here","_law_layer","_law_laid","_law_beneath_here"] (ar kS):=by walk
nonrec abbrev oB:yc:=top 106
def eG:ay ["_law_ground_here","_law_cuts_here","_law_sayings","_law_some","_law_homes_here","_law_laid","_law_beneath_here","_law_layer"] ["_law_ground_here","_law_cuts_here","_law_sayings","_law_some"] (ar oB):=by walk
nonrec abbrev mC:yc:=top 107
def jk:ay ["_law_script","_law_cuts_here","_law_sayings","_law_ground_here","_law_beside","_law_layers_here","_law_many","_law_few","_law_some"] ["_law_script"] (ar mC):=by walk
nonrec abbrev cJ:yc:=kh (top 56) 0
def gK:ay ["self","cuts","sayings","layers"] ["self","cuts","sayings"] (ar cJ):=by walk
nonrec abbrev sj:yc:=kh (top 56) 1
def Fp:ay ["self"] ["self"] (ar sj):=by walk
nonrec abbrev cT:yc:=kh (top 56) 2
def mD:ay ["self"] ["self"] (ar cT):=by walk
nonrec abbrev dm:yc:=kh (top 56) 3
def ny:ay ["self"] ["self"] (ar dm):=by walk
nonrec abbrev dX:yc:=kh (top 56) 4
def qA:ay ["self"] ["self"] (ar dX):=by walk
nonrec abbrev e8:yc:=kh (top 12) 0
end
def wa:ay ["self","ring"] ["self","ring"] (ar e8):=by walk
inductive qB (K:ZA)
 | mk (a:ij) (ns:ZL) (k:nX):vs=[.ref a,.int k]->Qb K H a (ns\4)->0<=k->Q (.int (ns.getD k.toNat 0)) H->qB K vs H Q E0
inductive uA
 | mk (c k:nX):vs=[.int c,.int k]->0<=k->k<=100->(∀v,Q (.int v) H)->uA vs H Q E0
inductive uB (K:ZA)
 | mk (a:ij) (ns:ZL) (k b m:nX):vs=[.ref a,.int k,.int b,.int m]->Qb K H a (ns\4)->0<=k->k<=100->2<=b->b<=1000->0<=m->m<=100->(∀l H' (xs:ZL),ah H H'->H l=eH->H' l<*xs\4-> ~~~xs=m.toNat->(∀x∈xs,0<=x/\x<b)->Q (.ref l) H')->uB K vs H Q E0
structure Txc (K:ZA) (mg:ZC):Prop where
 c_Torn:mg "Torn"=fx (.ref (aP mg "Torn"))
 c_DigError:mg "DigError"=fx (.ref (aP mg "DigError"))
 c_NoCut:mg "NoCut"=fx (.ref (aP mg "NoCut"))
 c_NoSaying:mg "NoSaying"=fx (.ref (aP mg "NoSaying"))
 c_NoGround:mg "NoGround"=fx (.ref (aP mg "NoGround"))
 c_NoLayer:mg "NoLayer"=fx (.ref (aP mg "NoLayer"))
 c_NoRow:mg "NoRow"=fx (.ref (aP mg "NoRow"))
 c_NoDeed:mg "NoDeed"=fx (.ref (aP mg "NoDeed"))
 x_Torn:El K mg "Torn" "Torn.__init__" e8 ["self","ring"]
 f_Torn_ring:JN K (aP mg "Torn") "ring"
 g_Torn_ring:GU K (aP mg "Torn") "ring"
 u_Torn_NoCut:Rk K (.ref (aP mg "Torn")) (.ref (aP mg "NoCut"))∣fS
 u_Torn:Rk K (.ref (aP mg "Torn")) (.ref (aP mg "DigError"))∣fI
 k_Torn_any0:TM K (.ref (aP mg "Torn")) (([(aP mg "NoCut"),(aP mg "NoGround"),(aP mg "NoSaying")]).map kG)∣fS
 k_Torn_any1:TM K (.ref (aP mg "Torn")) (([(aP mg "NoDeed"),(aP mg "NoRow"),(aP mg "NoLayer")]).map kG)∣fS
 k_Torn_Torn:Pb K (.ref (aP mg "Torn")) (.ref (aP mg "Torn"))∣fI
 k_Torn_ValueError:Pb K (.ref (aP mg "Torn")) (.type "ValueError")∣fI
 i_DigError:Ee K (aP mg "DigError")
 t_NoCut:Cat K (aP mg "NoCut")
 t_DigError:Cat K (aP mg "DigError")
 o_Ground:xv K mg "Ground"
 n_Ground_kept_cuts:iC K (aP mg "Ground") "kept_cuts"
 n_Ground_kept_sayings:iC K (aP mg "Ground") "kept_sayings"
 n_Ground_kept_layers:iC K (aP mg "Ground") "kept_layers"
 n_Ground_kept_ties:iC K (aP mg "Ground") "kept_ties"
 i_Ground:EN K mg "Ground" "Ground.__init__" cJ ["self","cuts","sayings"]
 m_Ground_sayings:xw K mg "Ground" "sayings" "Ground.sayings" cT ["self"]
 m_Ground_layers:xw K mg "Ground" "layers" "Ground.layers" dm ["self"]
 m_Ground_ties:xw K mg "Ground" "ties" "Ground.ties" dX ["self"]
 t_YEAR_WORDS:GvT K mg "YEAR_WORDS" [.str "since",.str "by"]
 t_LAYER_WORDS:GvT K mg "LAYER_WORDS" [.str "later",.str "same"]
structure Txt (K:ZA) (mg:ZC):Prop extends Txc K mg where
 a0:mg "min"=eH
 a1:mg "max"=eH
 a5:mg "list"=eH
 a6:mg "set"=eH
 a7:mg "sorted"=eH
 a8:mg "len"=eH
 a9:mg "reversed"=eH
 aa:mg "all"=eH
 ab:mg "str"=eH
 ac:mg "isinstance"=eH
 ae:mg "enumerate"=eH
 af:mg "zip"=eH
 ag:mg "tuple"=eH
 ah:mg "int"=eH
 ai:mg "bool"=eH
 aj:mg "range"=eH
 am:mg "ValueError"=eH
 an:Gv mg "LATER" (.int 0)
 ao:Gv mg "EARLIER" (.int 1)
 ap:Gv mg "LONGEST_NAME" (.int 8)
 aq:Gv mg "LETTERS" (.str "abcdefghijklmnopqrstuvwxyz")
 ar:Gv mg "MOST_ROWS" (.int 40)
 au:Gv mg "MOST_SIGNS" (.int 40)
 av:Gv mg "AIR" (.str ".")
 aw:Gv mg "MOST_CUTS" (.int 8)
 ax:Gv mg "MOST_SAYINGS" (.int 60)
 ay:Gv mg "FIRST_YEAR" (.int (-9999))
 az:Gv mg "LAST_YEAR" (.int 9999)
 aA:Gv mg "DEPOSIT" (.int 1)
 aB:Gv mg "NUMBER" (.int 0)
 aC:Gv mg "YEAR" (.int 2)
 aD:aK K mg "names_by_layer" iR ["ground"]
 aE:aK K mg "join_deposits" jv ["names","one","other"]
 aF:aK K mg "least_pointed_to" gE ["names","layer"]
 aG:aK K mg "deposits" qu ["ground"]
 aH:aK K mg "deposit_of" l7 ["ground","layer"]
 aI:aK K mg "deposit_names" jw ["ground"]
 aJ:aK K mg "links" AQ ["ground"]
 aL:aK K mg "links_by_later" iS ["found"]
 aM:aK K mg "links_by_earlier" gF ["found"]
 aN:aK K mg "grouped" uh ["found","side"]
 aO:aK K mg "laid_in_turn" jN ["names","found"]
 aP:aK K mg "shortest_way" jO ["beneath","start","goal"]
 aQ:aK K mg "next_edge" oa ["beneath","edge","reached"]
 aR:aK K mg "way_to" xN ["reached","start","goal"]
 aS:aK K mg "all_beneath" kO ["names","found"]
 aT:aK K mg "shortest_ring" jx ["names","found"]
 aU:aK K mg "never_laid" l9 ["names","found"]
 aV:aK K mg "untorn_links" jP ["ground"]
 aW:aK K mg "chain" AR ["ground","one","other"]
 aX:aK K mg "earlier_ones" jQ ["ground"]
 aY:aK K mg "is_name" uk ["thing"]
 aZ:aK K mg "rows_of" uq ["text"]
 b0:aK K mg "is_row" xP ["row"]
 b1:aK K mg "lies_beneath" jR ["row","above"]
 b2:aK K mg "letters_in" mf ["rows"]
 b3:aK K mg "letters" ur ["text"]
 b4:aK K mg "meetings" qv ["text"]
 b5:aK K mg "meetings_between" gG ["above","row"]
 b6:aK K mg "check_cuts" mj ["cuts"]
 b7:aK K mg "is_named_cut" jS ["thing"]
 b8:aK K mg "is_cut" xQ ["thing"]
 b9:aK K mg "check_sayings" jy ["sayings","layers"]
 ba:aK K mg "is_saying" og ["thing","layers"]
 bb:aK K mg "is_text_among" jz ["thing","texts"]
 bc:aK K mg "is_year" ut ["thing"]
 bd:aK K mg "layer_name" mo ["name","letter"]
 bf:aK K mg "layers_of" oh ["cuts"]
 bg:aK K mg "ties_of_cuts" jT ["cuts"]
 bh:aK K mg "ties_of_sayings" io ["sayings"]
 bi:aK K mg "years_said" mr ["ground","word"]
 bj:aK K mg "sinces_beneath" eU ["sinces","reach","name"]
 bm:aK K mg "bys_above" oi ["bys","reach","name"]
 bn:aK K mg "is_one_or_later" ip ["reach","upper","lower"]
 bo:aK K mg "chain_or_nothing" gH ["ground","one","other"]
 bp:aK K mg "why_least" oj ["ground","layer"]
 bq:aK K mg "why_greatest" jU ["ground","layer"]
 br:aK K mg "year_of" uu ["said"]
 bt:aK K mg "_law_cell_at" kP ["_law_script","_law_k"]
 bu:aK K mg "_law_spread" mw ["_law_cell","_law_k"]
 bv:aK K mg "_law_digits" mx ["_law_script","_law_k","_law_base","_law_many"]
 bw:aK K mg "_law_letter" my ["_law_rank","_law_way"]
 bx:aK K mg "_law_cut" ux ["_law_digits_here","_law_way"]
 bz:aK K mg "_law_ranks" om ["_law_name","_law_way","_law_rows"]
 bA:aK K mg "_law_cuts" qx ["_law_script"]
 bB:aK K mg "_law_tie" uy ["_law_one","_law_other","_law_ranks_here"]
 bC:aK K mg "_law_said" qy ["_law_digits_here","_law_ranks_here","_law_torn","_law_wild"]
 bD:aK K mg "_law_tower" ot ["_law_script"]
 bE:aK K mg "_law_ground" mB ["_law_script"]
 bF:aK K mg "_law_cut_ties" jV ["_law_name","_law_text"]
 bG:aK K mg "_law_ties" qz ["_law_cuts_here","_law_sayings"]
 bH:aK K mg "_law_homes" ou ["_law_cuts_here","_law_sayings"]
 bI:aK K mg "_law_links" oy ["_law_cuts_here","_law_sayings","_law_homes_here"]
 bJ:aK K mg "_law_far" uz ["_law_laid","_law_one"]
 bK:aK K mg "_law_beneath" kQ ["_law_laid","_law_homes_here"]
 bL:aK K mg "_law_has_ring" jW ["_law_beneath_here"]
 bM:aK K mg "_law_is_chain" jX ["_law_found","_law_laid","_law_one","_law_other"]
 bN:aK K mg "_law_is_torn" kR ["_law_refused_here","_law_laid","_law_beneath_here"]
 bO:aK K mg "_law_first" oz ["_law_sayings","_law_word","_law_homes_here","_law_those"]
 bP:aK K mg "_law_right" oA ["_law_told","_law_number","_law_laid","_law_one","_law_other","_law_many"]
 bQ:aK K mg "_law_least_right" iq ["_law_ground_here","_law_layer","_law_sayings","_law_homes_here","_law_laid","_law_beneath_here"]
 bR:aK K mg "_law_greatest_right" dH ["_law_ground_here","_law_layer","_law_sayings","_law_homes_here","_law_laid","_law_beneath_here"]
 bS:aK K mg "_law_refused" kS ["_law_ground_here","_law_layer","_law_laid","_law_beneath_here"]
 bT:aK K mg "_law_asked" oB ["_law_ground_here","_law_cuts_here","_law_sayings","_law_some"]
section
variable{P:nz}{w:vk}{K:ZA}{mg:ZC}{base:v0}
def cU{n:hH}(h:n<=5000):n<=ku:=md h (!1)
def aF{n:hH}(h:n<=5000):n<ku:=Ry h (!1)
def ah.Qa{H:Hp}{p:ij}{o:HO}(h:H p=eH):ah H (Qa H p o):=λb u e=>by rw[av (aC e h)];show e
def ah.set{H H':Hp}{p:ij}{o:HO}(a:ah H H')(h:H p=eH):ah H (_LL.Qa H' p o):=λb u e=>by rw[av (aC e h)];show a b u e
def LV{b:Type}(xs:dV b){i:nX}(d:0<=i)(e:i<(~~~xs:nX)):∃c,atI xs i∣c/\c∈xs:=by
 let%[j|rfl]:=Xh d;let a:j< ~~~xs:=by lia
 show%[xs[j],bG (by simp[a])|Yd a]
def mE(xs:ZL){i:nX}(b:0<=i)(d:i<(~~~xs:nX)):∃c,atI (xs\4) i∣V.int c/\c∈xs:=by
 let%[j|rfl]:=Xh b;let a:j< ~~~xs:=by lia
 show%[xs[j],bG (by simp[a])|Yd a]
def Il:(ja.cps.toList.length:nX)=26:=!0
def dw(T:Txt K mg):↥1 "_law_cell_at" ["_law_script","_law_k"] (qB K):=by
 .exists T.bt,qw,g,m,%[a,c,k,rfl,d,i|q];show%[_,%["JCML~L1bcA0BEHP01NEHD"|0]|?_]
  change aW _ _ _ [!a,fx (.int k)] H;lk;show%[_,.inl %[_,d|ρ]|bz (λb=>?_) λb=>?_]
  .let b:=Zo b;rw[Z6]at b;show%[_,d,.int (c.getD k.toNat 0),?_|q];let%[j|rfl]:=Xh i;let l:j< ~~~c:=by lia
   show bG (by simp[l])
  .let b: ¬ k<(~~~(c\4):nX):=↑b
   rw[Z6]at b;let e:c.getD k.toNat 0=0:=by
    rw[Zc,Xk ⋯];rfl
   rw[e]at q;show q
def wb(T:Txt K mg):↥1 "_law_spread" ["_law_cell","_law_k"] uA:=by
 .exists T.bu,dv,g,z,%[c,k,rfl,B,C|q];show%[_,%["JCG2IeIeIX0DI!D1DCG3DCT&ADBK4CG2IXIeIeIeIeI!22I!IeI!I!444D2I!D14DDEG3IeI!3DIXI|2DDEH3"|dv.nd]|?_]
  change aW _ _ _ [fx (.int c),fx (.int k),eH,eH,eH] H;show aj λG k1 _=>?_
  lk;show%[!1,.inl %[!1|!1]|k1 _ _ (aj λI k2 _=>?_)];let b:0<=c%2147483647+977*k+5/\c%2147483647+977*k+5<2^40:=by lia -verbose
  generalize c%2147483647+977*k+5=n at b
  lk;show k2 _ _ (aj λJ j _=>aB λd l=>?_);lk;show%[!1,!1|l _ _ (cR (λi a H'=>∃(n v:nX) (o:kf V),a=[fx (.int c),fx (.int k),fx (.int n),fx (.int v),o]/\H'=H/\0<=n/\n<2^40) %[_,_,_,ρ,ρ|b] ?_ ?_)]
  .intro i a H' hi %[n,v,o,rfl,rfl,p|n1];change aW _ _ _ [fx (.int c),fx (.int k),fx (.int n),fx (.int v),fx (.int (0+i))] _;rw[Ps];show aj λL r _=>?_
   lk;show%[.inl %[(by lia -verbose)|(by lia -verbose)],.inl %[(by lia -verbose)|(by lia -verbose)],.inr %[(by lia -verbose)|(by lia -verbose)],.inr %[(by lia -verbose)|(by lia -verbose)],.inl %[!1|!1],!1|r _ _ (aE λM u _=>?_)];let e:=NA (n*n+(i*i*i+7)*n+104729*k+i+1) (by decide:(2147483629:nX)≠0);let y:=Oj (n*n+(i*i*i+7)*n+104729*k+i+1) (by decide:(0:nX)<2147483629)
   generalize (n*n+((i:nX)*i*i+7)*n+104729*k+i+1)%2147483629=m at e y
   lk;show%[.inr %[!1|!1],%[!1|!1],!1|u _ _ %[m,_,_,ρ,ρ,e|(by lia -verbose)]]
  .intro a H' %[n,v,o,rfl,rfl,p|n1];show j _ _ ?_;lk;show q v
def eJ(T:Txt K mg):↥2 "_law_digits" ["_law_script","_law_k","_law_base","_law_many"] (uB K):=by
 .exists T.bv,cc,O,r,%[a,j,k,b,m,rfl,G,I,k1,b2,b1,m0,m1|q];show%[_,%["JCG4F~CA0A1BCG5F]VA4A1BCMLaIXF~CA0ADBDDEG4DNCG6SBCT&A3BK7EML<4DCZsl6AIX42BEG4I|42CZsl6AIX52BEG5I|52EH6",cc.nd|r]|?_]
  change aW _ _ _ [!a,fx (.int k),fx (.int b),fx (.int m),eH,eH,eH,eH] H;show aj λD1 k1 _=>?_
  lk;show%[a,j,k,ρ,G,I|k1 _ _ (aj λD2 k2 _=>?_)]
  generalize j.getD k.toNat 0=c
  lk;show%[_,_,ρ,I,⋯|λv=>k2 _ _ (aj λU Y _=>?_)];lk;show%[a,j,0,ρ,G,!1,!1|?_]
  suffices J:∀L:nX,U.nx [!a,fx (.int k),fx (.int b),fx (.int m),fx (.int L),fx (.int v),eH,eH] H from bz (λ_=>J 0) λ_=>J c
  intro L;show Y _ _ (aj λD4 k4 _=>?_);lk;show%[Xe _|λl u=>k4 _ _ (aj λD5 k5 _=>aB λM hK=>?_)];lk;show%[⋯,⋯|hK _ _ (cR (λi z H'=>∃(c v:nX) (o:kf V) (xs:ZL),z=[!a,fx (.int k),fx (.int b),fx (.int m),fx (.int c),fx (.int v),!l,o]/\ah H H'/\H' l<*xs\4/\ ~~~xs=i/\∀x∈xs,0<=x/\x<b) %[_,_,_,[],ρ,ah.Qa u,af,ρ|λ_ h=>nomatch h] ?_ ?_)]
  .intro i z H' hi %[c,v,o,xs,rfl,B,e,n|g];let put:∀v:nX,ah H (Qa H' l (.lst (xs\4++[.int (v%b)])))/\∃d:ZL,Qa H' l (.lst (xs\4++[.int (v%b)])) l<*d\4/\ ~~~d=i+1/\∀x∈d,0<=x/\x<b:=λv=>
    ⟨ah.set B u,xs++[v%b],by rw[af,Zd];rfl,by rw[Z9,n];rfl,λy hy=>by
     rcases Xm hy with q|q
     .show g y q
     .rw[Xn q];show%[NA _ ⋯|Oj _ ⋯]⟩
   let len: ~~~(xs\4)<ku:=by rw[Z6,n];show aF ⋯
   change kY _ _ _ _ [!a,fx (.int k),fx (.int b),fx (.int m),fx (.int c),fx (.int v),!l,fx (.int (0+i))] H';show aE λD6 N _=>?_
   lk;show bz (λ_=>?_) λ_=>?_
   .let%[C,d|p]:=put c;show%[tyL (Qb.of e),⋯,_,e,len,%[⋯|⋯]|N _ _ %[_,_,_,d,ρ,C|p]]
   .let%[C,d|p]:=put v;show%[tyL (Qb.of e),⋯,_,e,len,%[⋯|⋯]|N _ _ %[_,_,_,d,ρ,C|p]]
  .intro z H' %[c,v,o,xs,rfl,B,e,n|g];show k5 _ _ ?_;lk;show q l H' xs B u e n g
abbrev rY(rows:ZB):Prop:=∃m:dV _,~~~m<=60/\∀a b,Fo rows a b->[sgn a,sgn b]∈m
abbrev mlt(w:nX):nX:=if w%4=0 then 1 else if w%4=1 then 25 else if w%4=2 then 7 else 5
abbrev ltr(r w:nX):hH:=97+((r*mlt w+w)%26).toNat
def AS(r w:nX):gj (ltr r w)=fI:=by
 let all:∀i:Fin 26,gj (97+i.1)=fI:=!0
 show all %[((r*mlt w+w)%26).toNat|⋯]
def lD(r w:nX):ltr r w≠46:=by unfold ltr;lia
abbrev Hs(w:nX)(hi:hH)(c:dV hH):Prop:= ~~~c=hi/\∃a:hH,∀(k x:hH),c[k]?∣x->(k<a->x=46)/\(a<=k->∃r:nX,0<=r/\r<16/\x=ltr r w)
abbrev qC(a:dV (dV hH))(k:hH):iv:=⟨(a.map λc=>c.getD k 46).toArray⟩
abbrev bO(a:dV (dV hH))(hi:hH):ZB:=(o0 hi).map (qC a)
def fV{a:dV (dV hH)}{hi k:hH}{z:iv}(h:(bO a hi)[k]?∣z):k<hi/\z=qC a k:=by
 unfold bO at h;rw[Zl]at h;by_cases b:k<hi
 .rw[Rs b]at h;show%[b|(Za h).symm]
 simp_all
def mF{a:dV (dV hH)}{k j c:hH}(h:(qC a k).cps[j]?∣c):∃b,a[j]?∣b/\c=b.getD k 46:=by
 let h:(a.map λc=>c.getD k 46)[j]?∣c:=by simpa [qC]using h
 rw[Zl]at h;cases e:a[j]? with
 | none=>simp_all
 | some b=>rw[e]at h;show%[b,ρ|(Za h).symm]
def mG{a:dV hH}{hi k:hH}(b: ~~~a=hi)(c:k<hi):a[k]?∣a.getD k 46:=!2
structure iu (w:nX) (cols:dV (dV hH)) (hi:hH):Prop where
 h1:1<=hi
 h5:hi<=5
 w1:1<= ~~~cols
 w4: ~~~cols<=4
 ok:∀c∈cols,Hs w hi c
 fst:∃col,cols[0]?∣col/\∃r:nX,0<=r/\r<16/\col[hi-1]?∣ltr r w
section
variable{w:nX}{cols:dV (dV hH)}{hi:hH}
def iu.let_(d:iu w cols hi){k j c:hH}(e:k<hi)(h:(qC cols k).cps[j]?∣c):c=46\/∃r:nX,0<=r/\r<16/\c=ltr r w:=by
 let%[a,f|rfl]:=mF h;let%[g,b|i]:=d.ok a (Z8 f);let:=i k _ (mG g e);by_cases c:k<b
 .show .inl (this.1 c)
 .show .inr (this.2 ⋯)
def iu.cut(d:iu w cols hi):cX (bO cols hi):=by
 let len: ~~~(bO cols hi)=hi:=by unfold bO;rw[Z6,Yj]
 let b:∀z∈bO cols hi,∃k,k<hi/\z=qC cols k:=λz f=>by
  let%[k|e]:=Xf f;show%[k|fV e]
 let C:=d.h1;let E:=d.h5;let G:=d.w4;show%[⋯,⋯,%[~~~cols,d.w1,⋯|λz f=>?_],λz f=>?_,λi r H s u j c I v y m=>?_|?_]
 .let%[k,_|rfl]:=b z f;simp[qC]
 .let%[k,h|rfl]:=b z f;rw[NV];intro c n;let%[j|A]:=Xf n;rcases d.let_ h (j:=j) ↑A with rfl|⟨r,_,_,rfl⟩
  .decide +kernel
  .unfold okc;rw[AS,RJ]
 .let%[hi1|rfl]:=fV s;let%[hi2|rfl]:=fV u;let%[a,l|rfl]:=mF v;let%[p,g|rfl]:=mF y;rw[l]at g;cases g;let%[q,o|h]:=d.ok a (Z8 l);by_cases B:i+1<o
  .show(h i _ (mG q hi1)).1 ⋯
  .let%[r,_,_|e]:=(h _ _ (mG q hi2)).2 ⋯;show m4 (e.symm.trans m) (lD r w)
 .let%[a,l,r,_,_|e]:=d.fst;show%[qC cols (hi-1),Xp %[hi-1,by rw[vu];lia|ρ],ltr r w,Xp %[a,Z8 l|?_]|lD r w];rw[Zc,e];rfl
def iu.few(d:iu w cols hi):rY (bO cols hi):=by
 show%[(o0 4).flatMap λi=>(o0 4).map λj=>[sgn ((cols.getD j []).getD i 46),sgn ((cols.getD j []).getD (i+1) 46)],by simp[dV.length_flatMap,Pa]|?_];intro a b %[_,_,i,j,r,p,g,h,m|n];let%[hi1|rfl]:=fV g;let%[hi2|rfl]:=fV h;let%[o,e|rfl]:=mF m;let%[f,c|rfl]:=mF n;rw[e]at c;cases c;let q:=d.h5;let s:=d.w4;let:=(Xl e).1;show Mi.mpr %[i,vu.mpr ⋯|Xp %[j,vu.mpr ⋯|?_]];rw[Zc (l:=cols),e];rfl
def iu.lets(d:iu w cols hi){c:hH}(h:Let (bO cols hi) c):∃r:nX,0<=r/\r<16/\c=ltr r w:=by
 let%[a,r,f|b]:=h;let%[k|e]:=Xf f;let%[g|rfl]:=fV e;let%[j|i]:=Xf b;show(d.let_ g (j:=j) ↑i).resolve_left a
def iu.ex(d:iu w cols hi):∃r:nX,0<=r/\r<16/\Let (bO cols hi) (ltr r w):=by
 let%[r,b,c,e|ne]:=d.cut.some';let l:Let (bO cols hi) c:=%[ne,r,b|e]
 let%[a,f,g|rfl]:=d.lets l;show%[a,f,g|l]
end
inductive uC
 | mk (r w:nX):vs=[.int r,.int w]->0<=r->r<=100->0<=w->w<=110->(∀H',ah H H'->Q (.str (sgn (ltr r w))) H')->uC vs H Q E0
def Fq{i:nX}(a:0<=i)(c:i<26):atI ja.cps.toList i∣(97+i.toNat):=by
 let%[j|rfl]:=Xh a;let b:j<26:=by lia
 let all:∀j:Fin 26,ja.cps.toList[j.1]?∣(97+j.1):=!0
 show bG (all %[j|b])
def jm(T:Txt K mg):↥1 "_law_letter" ["_law_rank","_law_way"] uC:=by
 .exists T.bw,si,b,g,%[r,w,rfl,i,j,l,m|c];show%[_,%["JEH~DUIXIeI!0PSADADADADBIX1D1D"|0]|?_];change iI _ _ [fx (.int r),fx (.int w)] H;lk;show%[#[4]|λp d=>%[!1,_,Qb.of af,.int (mlt w),?_,.inr ?_,!1,#[26],_,Fq ⋯ ⋯|c _ (ah.Qa d)]]
  all_goals
   unfold mlt;rcases(show w%4=0\/w%4=1\/w%4=2\/w%4=3 by lia)with e|e|e|e<;> rw[e]<;> first|rfl|decide
inductive Fs (K:ZA)
 | mk (a:ij) (xs:ZL) (w:nX):vs=[.ref a,.int w]->Qb K H a (xs\4)-> ~~~xs=30->(∀x∈xs,0<=x/\x<6)->0<=w->w<=110->(∀l H' (cols:dV (dV hH)) (hi:hH),ah H H'->H l=eH->H' l<*(bO cols hi)\3->iu w cols hi->Q (.ref l) H')->Fs K vs H Q E0
abbrev LW(H:Hp)(cs:dV (ij×dV hH)):Prop:=∀p∈cs,H p.1∣.lst (p.2.map λx=>V.str (sgn x))
def Hs.put{w:nX}{a i:hH}{c:dV hH}(h:∀(k x:hH),c[k]?∣x->(k<a->x=46)/\(a<=k->∃r:nX,0<=r/\r<16/\x=ltr r w))(g: ~~~c=i)(j:a<=i){r:nX}(b:0<=r)(d:r<16)(k x:hH)(e:(c++[ltr r w])[k]?∣x):(k<a->x=46)/\(a<=k->∃r:nX,0<=r/\r<16/\x=ltr r w):=by
 by_cases f:k< ~~~c
 .rw[Y9 f]at e;show h k x e
 .let:k= ~~~c:=by
   let:=(Xl e).1;simp at this
   lia
  subst this;rw[Ya ⋯,Qw]at e;cases e;show%[λz=>by lia|λ_=>%[r,b,d|ρ]]
def AT:∀n:hH,(zp n [V.str (!".")]).flatten=(zp n 46).map λx=>V.str (sgn x)
 | 0=>rfl
 | n+1=>by rw[Rp,UX,AT n,Rp,Yq];rfl
def CB(T:Txt K mg):↥2 "_law_cut" ["_law_digits_here","_law_way"] (Fs K):=by
 .exists T.bx,cK,a3,hr,%[a,xs,w,rfl,hs,hx,hb,w0,w1|kk];let get:∀i:nX,0<=i->i<30->∃c,atI (xs\4) i∣V.int c/\0<=c/\c<6:=λi h0 h1=>by
   let%[c,e|hm]:=mE xs h0 (by lia -verbose);show%[c,e|hb c hm]
  let%[c0,g0,l0|u0]:=get 0 (!1) (!1);let%[c1,g1,l1|u1]:=get 1 (!1) (!1);show%[_,%["JCG2IeDIXP0DDCG3IeDIXP0DDC.4qrSBCT&A2BK5CG6IXP0IeD5Ie3~V~WAm<5DBCG7IXP0IeD5DCG8I]WSAUB6CT~gA6A3BK9CZsl8AF~hA7A1BBEG7Ie7IXP0IeIeDI!D59DEZslQ4A8BEHog?1&A3B]X0?2qr'~X~YUAog?3WQ1d0?4'P0Q1B",cK.nd,↑(["_law_k","_law_columns"],[(1,4)]),↑["_law_k","_law_columns"],↑(["_law_column","_law_k"],[(1,0)]),↑["_law_column","_law_k"]|hr]|?_]
  change aW _ _ _ [!a,fx (.int w),eH,eH,eH,eH,eH,eH,eH,eH] H;show aj λD1 k1 _=>?_
  lk;show%[_,hs,_,g0,!1|k1 _ _ (aj λD2 k2 _=>?_)];lk;show%[_,hs,_,g1,!1|k2 _ _ (aj λD3 k3 _=>?_)];obtain⟨N,ew,a4,a5⟩:∃N:hH,1+c0%4=N/\1<=N/\N<=4:=%[(1+c0%4).toNat,(by lia -verbose),(by lia -verbose)|(by lia -verbose)]
  obtain⟨hi,eh,hi1,a1⟩:∃hi:hH,1+c1%5=hi/\1<=hi/\hi<=5:=%[(1+c1%5).toNat,(by lia -verbose),(by lia -verbose)|(by lia -verbose)]
  rw[ew,eh];clear ew eh;lk;show%[Xe _|λL hL=>k3 _ _ (aj λD4 k4 _=>aB λv hK=>?_)];lk;show%[(by lia -verbose),(by lia -verbose)|hK _ _ (cR (λi g H'=>E6 λ(o5 o6 o7 o8 o9:kf V) (cs:dV (ij×dV hH))=>A7 (g=[!a,fx (.int w),fx (.int N),fx (.int hi),!L,o5,o6,o7,o8,o9]) (ah H H') (H' L∣.lst (cs\0)) (~~~cs=i) (LW H' cs) (∀p∈cs,p.1≠L/\Hs w hi p.2) (∀p:ij×dV hH,cs[0]?∣p->∃r:nX,0<=r/\r<16/\p.2[hi-1]?∣ltr r w))
   %[_,_,_,_,_,[],ρ,ah.Qa hL,af,ρ,(λ_ h=>nomatch h),(λ_ h=>nomatch h)|λ_ h=>nomatch h] ?_ ?_)]
  .intro j g H' m %[o5,o6,o7,o8,o9,cs,rfl,sm,y,ab,ac,B|ae];change aW _ _ _ [!a,fx (.int w),fx (.int N),fx (.int hi),!L,fx (.int (0+j)),o6,o7,o8,o9] H';rw[Ps];let%[c2,g2,l2|u2]:=get (2+j) (by lia -verbose) (by lia -verbose);let%[c6,g6,l6|u6]:=get (6+j) (by lia -verbose) (by lia -verbose);show aj λD5 k5 _=>?_
   lk;obtain⟨m,ej,a6,bb⟩:∃m:hH,(hi+if decide (0<(j:nX))=fI then 1 else 0:nX)=m/\(j=0->m=hi)/\hi<=m:=by
    by_cases c:0<(j:nX)
    .show%[hi+1,by rw[jg (Zf c)];rfl,λe=>by lia -verbose|(by lia -verbose)]
    .show%[hi,by rw[hX ↑c];simp,λ_=>rfl|Zi _]
   let bc:m<=hi+1:=by split at ej<;> lia -verbose
   rw[ej];clear ej;show%[_,sm.seq hs,_,g2,(by lia -verbose)|k5 _ _ (aj λD6 k6 _=>?_)];obtain⟨d,ea,al⟩:∃d:hH,c2%(m:nX)=d/\d<m:=%[(c2%(m:nX)).toNat,by let:=NA c2 (b:=m) (by lia -verbose);lia -verbose|by let:=Oj c2 (b:=m) (by lia -verbose);let:=NA c2 (b:=m) (by lia -verbose);lia -verbose]
   rw[ea];clear ea;lk;show%[_,sm.seq hs,_,g6,!1|k6 _ _ (aj λD7 k7 _=>?_)];lk;show%[#[1]|λp hp=> .inr %[_,af,(by lia -verbose),(by lia -verbose),by rw[Yk];show Yf (aF (by lia -verbose))|λC hC=>k7 _ _ (aj λD8 k8 _=>aB λv hK=>?_)]];let s1:=(ah.Qa (o:= .lst [V.str (!".")]) hp).trans (ah.Qa (o:= .lst (zp (d:nX).toNat [V.str (!".")]).flatten) hC);let fC:=(ah.Qa (o:= .lst [V.str (!".")]) hp).free hC;let ao:Qa (Qa H' p (.lst [V.str (!".")])) C (.lst (zp (d:nX).toNat [V.str (!".")]).flatten) C∣.lst ((zp d 46).map λx=>V.str (sgn x)):=by
    rw[af,OH,AT]
   generalize Qa (Qa H' p (.lst [V.str (!".")])) C _=H1 at s1 ao
   let ap:C≠L:=λe=>by rw[e,y]at fC;cases fC
   lk;show%[(by lia -verbose),(by lia -verbose),(by lia -verbose),(by lia -verbose)|hK _ _ (cR (λi g I=>E3 λ(r:nX) (o9:kf V) (c:dV hH)=>A7 (g=[!a,fx (.int w),fx (.int N),fx (.int hi),!L,fx (.int j),fx (.int d),fx (.int r),!C,o9]) (ah H' I) (I C∣.lst (c.map λx=>V.str (sgn x))) (~~~c=d+i) (0<=r) (r<=3+2*i) (∀(k x:hH),c[k]?∣x->(k<d->x=46)/\(d<=k->∃r:nX,0<=r/\r<16/\x=ltr r w)))
    %[_,_,_,ρ,s1,ao,by simp,(by lia -verbose),(by lia -verbose)|λk x e=>?_] ?_ ?_)]
   .let:=Tj (a:=46) (n:=d) (i:=k);rw[e]at this
    split at this
    .cases this;show%[λ_=>rfl|λz=>by lia -verbose]
    .cases this
   .intro i g I hi2 %[r,o9,c,rfl,u,O,cl,r0,r1|U];change aW _ _ _ [!a,fx (.int w),fx (.int N),fx (.int hi),!L,fx (.int j),fx (.int d),fx (.int r),!C,fx (.int (d+i))] I;show aj λD9 k9 _=>?_
    lk;let%[cd,gd,ld|ud]:=get (10+5*j+(d+i)) (by lia -verbose) (by lia -verbose);show%[tyL (Qb.of O),r,w,ρ,r0,(by lia -verbose),w0,w1|λH3 s3=>%[_,s3 _ _ O,by rw[Z6,cl];show aF (by lia -verbose)|k9 _ _ (aE λbe a2 _=>?_)]];let l:ah H' (Qa H3 C (.lst ((c.map λx=>V.str (sgn x)) ++[V.str (sgn (ltr r w))]))):=ah.set (u.trans s3) fC;lk;show%[.inl %[!1|!1],_,(sm.trans l).seq hs,_,gd,!1|a2 _ _ %[_,_,c++[ltr r w],ρ,l,by rw[af,Zd];rfl,by rw[Z9,cl];rfl,(by lia -verbose),(by lia -verbose)|Hs.put U cl (by lia -verbose) r0 (by lia -verbose)]]
   .intro g I %[r,o9,c,rfl,u,O,cl,r0,r1|U];show k8 _ _ (aE λD9 k9 _=>?_);lk;let bf: ~~~c=max d hi:=by lia -verbose
    show%[tyL (Qb.of (u _ _ y)),_,u _ _ y,by rw[Z6,ab];show aF (by lia -verbose)|k9 _ _ %[_,_,_,_,_,cs++[(C,c)],ρ,ah.set (sm.trans u) hL,by rw[af,Zd];rfl,by rw[Z9,ab];rfl,λq M=>?_,λq M=>?_|λq M=>?_]]
    .rcases Xm M with z|z
     .rw[av (B q z).1];show u _ _ (ac q z)
     .rw[Xn z,av ap];show O
    .rcases Xm M with z|z
     .show B q z
     .rw[Xn z];show%[ap,by change ~~~c=hi;lia -verbose,d|U]
    .by_cases j0:j=0
     .obtain rfl:cs=[]:=y2.mp (by lia -verbose);cases M;let:=U (hi-1) (c[hi-1]'(by lia -verbose)) (Z4 (by lia -verbose));let%[r,a,b|e]:=this.2 (by lia -verbose);show%[r,a,b|by rw[Z4 (by lia -verbose:hi-1< ~~~c),e]]
     .rw[Y9 (by lia -verbose)]at M;show ae q M
  .intro g H' %[o5,o6,o7,o8,o9,cs,rfl,sm,y,ab,ac,B|ae];show k4 _ _ ?_;lk;show aN λv hK=>?_
   lk;let aq: ~~~cs=N:=by lia -verbose
   show%[(by lia -verbose),(by lia -verbose)|hK _ _ λF hF=>?_];show dM (J:=Itr 0 hi) (n:=hi) (D:=F) (λq ts g I=>A4 (∃o,g=[o,!L]) (ah H' I) (I F<*ts) (ts=((o0 q).map (qC (cs\2)))\3))
    %[%[eH|rfl],ah.Qa hF,af|rfl] (λq _ _ H' M _=>M) (λ_ _ H' _=>Zi _) ?_ ?_
   .intro q ts g I M %[%[o|rfl],u,ag|ht] x H3 %[e2|e3];subst e2 e3;lk;show aN λv hK=>?_
    lk;let Y:=u _ _ y;show%[%[_|Qb.of Y]|hK _ _ λG hG=>?_];show dM (J:=Itl K L) (n:=N) (D:=G) (λr zs g H4=>A4 (∃o,g=[o,fx (.int q)]) (ah H3 H4) (H4 G<*zs) (zs=(((cs.take r).map λp=>p.2.getD q 46).map sgn)\3))
     %[%[eH|rfl],ah.Qa hG,af|rfl]
     (λr _ _ H4 as ⟨_,l,_,_⟩=>%[_,V.ref (cs[r]'(by lia -verbose)).1,Qb.of (l _ _ Y)|by simp[show r< ~~~cs by lia -verbose]]) (λ_ _ H4 ⟨_,l,_,_⟩=>%[_,Qb.of (l _ _ Y)|by simp[aq]]) ?_ ?_
    .intro r zs g H4 as %[%[o|rfl],l,ak|hz] x H5 %[e2|hx];subst e2;let an:r< ~~~cs:=by lia -verbose
     let ax:=hx _ (Qb.of (l _ _ Y));rw[Zl,Z4 an]at ax;obtain rfl:x=V.ref cs[r].1:=(Za ax).symm;let hm:=Yd an;lk;show%[_,Qb.of (l _ _ (u _ _ (ac _ hm))),V.str (sgn (cs[r].2.getD q 46)),?_|CK.mk as ak (by rw[hz,Z6,Z6,Z6,Yl];show aF (by lia -verbose)) %[%[_|ρ],ah.set l hG,af|?_]]
     .show bG ?_;rw[Zl,mG (B _ hm).2.1 (by lia -verbose)];rfl
     .rw[hz,X9,Zd,Zd,Zd,Z4 an];rfl
    intro zs g H4 %[_,l,ak|hz];rw[Zn (by lia -verbose)]at hz;lk;show%[(cs.map λp=>p.2.getD q 46).map sgn,by rw[<-hz];show Qb.of ak,?_|CK.mk M (l _ _ ag) (by rw[ht,Z6,Z6,Yj];show aF (by lia -verbose)) %[%[_|ρ],ah.set (u.trans l) hF,af|?_]]
    .rw[AB,Z6,Z6,show(!"").length=0 from rfl]
     lia -verbose
    .rw[ht,Pa,Zd,Zd,show Txt.join (!"") ((cs.map λp=>p.2.getD q 46).map sgn)=rM (!"") ((cs.map λp=>p.2.getD q 46).map sgn)from Os _ _,zx];let e:qC (cs\2) q=⟨(cs.map λp=>p.2.getD q 46).toArray⟩:=by
      unfold qC;rw[Ys];rfl
     rw[<-e];rfl
   .intro ts g I %[_,u,ag|ht];let a0:0< ~~~cs:=by lia -verbose
    show kk F I (cs\2) hi (sm.trans u) (sm.free hF) (by rw[ag,ht];rfl) %[hi1,a1,by rw[Z6];lia -verbose,by rw[Z6];lia -verbose,λc hc=>?_,cs[0].2,by rw[Zl,Z4 a0];rfl|ae _ (Z4 a0)];let%[p,hp|rfl]:=Xo hc;show(B p hp).2
inductive uD
 | mk (z:iv):vs=[.str z]-> ~~~z<=1000->(∀H',ah H H'->Q (.bl (vy z)) H')->uD vs H Q E0
inductive qD
 | mk (row above:iv):vs=[.str row,.str above]-> ~~~row<=1000-> ~~~above<=1000->(∀H',ah H H'->Q (.bl (gx row above)) H')->qD vs H Q E0
inductive kT (K:ZA)
 | mk (a:ij) (rows:ZB):vs=[.ref a]->Qb K H a (rows\3)->(rows.map (·.length)).sum<=3000->(∀r∈rows,r.cps.toList.all okc=fI)->(∀l H' (ss:ZB),ah H H'->H l=eH->H' l<*ss\3->ss.Perm (ba ((c7 rows).map sgn))->Q (.ref l) H')->kT K vs H Q E0
inductive qF
 | mk (rows:ZB):vs=[.str (rM nl rows)]->cX rows->(∀l H',ah H H'->H l=eH->H' l<*rows\3->Q (.ref l) H')->qF vs H Q E0
def kq(z:iv)(i:hH)(c:hH)(h:z.cps[i]?∣c):(z.cps.toList.take i++[c])=z.cps.toList.take (i+1):=by
 let h':z.cps.toList[i]?∣c:=↑h
 let%[a|e]:=Xl h';rw[Ov a,e]
def Ft(c d:hH):((⟨([c].toArray)⟩:iv)=⟨([d].toArray)⟩)↔c=d:=by
 constructor
 .intro h;let:(([c].toArray):nY hH)= ([d].toArray):=by injection h
  simpa using this
 .intro h;rw[h]
def qG(c:hH):((⟨([c].toArray)⟩:iv)=!".")↔c=46:=Ft c 46
def Fu(T:Txt K mg):↥1 "is_row" ["row"] uD:=by
 .exists T.b0,Cz,v,M,%[z,rfl,N|k];show%[_,%["JEH/~i~E~EDbcA0B]Y:~j~kAog?1~l0d0?2'~mma0~M:m~)0~*B",0,↑(["sign"],[])|↑["sign"]]|?_];change iI _ _ [-z] H;lk;show%[cU ⋯|bz (λl=>bz (λm=>?_) λm=>?_) λl=>?_]
  .show aN λr y=>?_
   lk;show y _ _ λD u=>?_
   show dM (J:=Its z) (n:=z.cps.size) (D:=D) (λi ys a H'=>A4 (∃o,a=[o]) (ah H H') (H' D<*ys) (ys=(z.cps.toList.take i).map (λc=>V.bl (okc c)))) %[%[eH|rfl],ah.Qa u,af|rfl]
    (λi _ _ _ hi _=>hi) (λ_ _ _ _=>Zi _) ?_ ?_
   .intro i ys a H' hi %[%[o|rfl],p,q|d] x B %[C,c,G|rfl];subst C;let g: ~~~ys=i:=by
     rw[d,Z6,Yl];let: ~~~z.cps.toList=z.cps.size:=by simp
     lia
    let I:i<1000:=by
     let: ~~~z=z.cps.size:=rfl
     lia
    let put:∀b:pp,b=okc c->CK D z.cps.size i (λi ys a H'=>A4 (∃o,a=[o]) (ah H H') (H' D<*ys) (ys=(z.cps.toList.take i).map (λc=>V.bl (okc c)))) ys [fx (.str ⟨([c].toArray)⟩)] (.bl b) B:=λb L=>
     CK.mk hi q (by rw[g];show aF ⋯) %[%[_|rfl],ah.set p u,af|by rw[L,d,<-kq z i c G,Zd];rfl]
    lk;show bz (λj=>put fI ?_) λj=>put _ ?_
    .let:=(qG c).mp (Zo j);unfold okc;rw[Zf this,Tt]
    .let j: ¬ (⟨([c].toArray)⟩:iv)=n0 ".":=λe=>j (Zf e)
     let: ¬ c=46:=λe=>j ((qG c).mpr e)
     unfold okc;rw[Zh this,Tb,vh];rfl
   .intro ys a H' %[_,p,q|d];lk;show%[z.cps.toList.map okc,?_|?_]
    .let e:z.cps.toList.take z.cps.size=z.cps.toList:=by
      apply Zn;simp
     rw[e]at d;let:(z.cps.toList.map okc).map V.bl=ys:=by rw[d,Ys];rfl
     rw[this];show Qb.of q
    .let e:vy z=(z.cps.toList.map okc).all id:=by
      unfold vy;rw[l,m,Wn]
      all_goals rfl
     rw[<-e];show k H' p
  .rw[RX]at m;let e:vy z=fS:=by unfold vy;rw[m,M7,Oy]
   rw[e]at k;show k H (ah.refl H)
  .rw[RX]at l;let e:vy z=fS:=by unfold vy;rw[l,Oy,Oy]
   rw[e]at k;show k H (ah.refl H)
abbrev oC(p:hH×hH):pp:=!decide (p.2=46)||decide (p.1=46)
def qH(x y:iv)(i c d:hH)(b:x.cps[i]?∣c)(f:y.cps[i]?∣d):((No x.cps.toList y.cps.toList).take i++[(c,d)])=(No x.cps.toList y.cps.toList).take (i+1):=by
 let h:(No x.cps.toList y.cps.toList)[i]?∣(c,d):=Py.mpr %[↑b|↑f];let%[a|e]:=Xl h;rw[Ov a,e]
def qI(T:Txt K mg):↥1 "lies_beneath" ["row","above"] qD:=by
 .exists T.b1,oP,G,hr,%[row,a,rfl,I,L|k];show%[_,%["JCML~+bcA0BbcA1BEHhNEH~j~kAog?1~,A1A0BnRd0?2Rd1?2k'~mm$1~M:ma0~MB",0,↑(["high","low"],[])|↑["high","low"]]|?_]
  change aW _ _ _ [-row,-a] H;show aj λD1 k1 M=>?_
  lk;show%[cU ⋯,cU ⋯|bz (λg=>?_) λg=>?_]
  .let g: ¬ ((~~~row:nX)= ~~~a):=↑g
   let e:gx row a=fS:=by
    unfold gx;rw[Zh ⋯,Oy]
   rw[e]at k;show M _ _ (k H (ah.refl H))
  .let g: ~~~row= ~~~a:=by
    let:(~~~row:nX)= ~~~a:=↑g
    lia
   show k1 _ _ ?_;let r:row.cps.size=a.cps.size:=g;let u: ~~~(No a.cps.toList row.cps.toList)=a.cps.size:=by rw[TJ];simp[r]
   lk;show aN λz N=>?_
   lk;show N _ _ λD B=>?_
   show dM (J:=Itz a row) (n:=a.cps.size) (D:=D) (λi ys j H'=>A4 (E2 λo q=>j=[o,q]) (ah H H') (H' D<*ys) (ys=((No a.cps.toList row.cps.toList).take i).map (λp=>V.bl (oC p)))) %[%[eH,eH|rfl],ah.Qa B,af|rfl]
    (λi _ _ _ hi _=>%[hi|⋯]) (λ_ _ _ _=>%[Zi _,⋯|.inl rfl]) ?_ ?_
   .intro i ys j H' hi %[%[o,q|rfl],v,y|l] x H2 %[c,d,TT,O,U,C,rfl|rfl];let m: ~~~ys=i:=by rw[l,Z6,Yl,u];lia
    let Y:i<1000:=by
     let: ~~~a=a.cps.size:=rfl
     lia
    let put:∀b:pp,b=oC (c,d)->CK D a.cps.size i (λi ys j H'=>A4 (E2 λo q=>j=[o,q]) (ah H H') (H' D<*ys) (ys=((No a.cps.toList row.cps.toList).take i).map (λp=>V.bl (oC p)))) ys [fx (.str ⟨([c].toArray)⟩),fx (.str ⟨([d].toArray)⟩)] (.bl b) (Qa H' TT (.tup [.str ⟨([c].toArray)⟩,.str ⟨([d].toArray)⟩])):=λb eb=>
     CK.mk hi (ah.Qa C _ _ y) (m▸aF ⋯) %[%[_,_|rfl],ah.set (v.trans (ah.Qa C)) B,af|by rw[eb,l,<-qH a row i c d O U,Zd];rfl]
    lk;show%[_,SqT.of af,ρ,_,_,ρ,_,_,ρ,ρ,ρ|?_];simp only[V.str.injEq,qG];show bz (λh=>put fI ?_) λh=>%[⟨⟩|put _ ?_]
    .unfold oC;rw[h,Tt]
    .unfold oC;rw[RX]at h;rw[h,Tb]
   .intro ys j H' %[_,v,y|l];lk;show%[(No a.cps.toList row.cps.toList).map oC,?_|?_]
    .let e:(No a.cps.toList row.cps.toList).take a.cps.size=No a.cps.toList row.cps.toList:=Zn ⋯;rw[e]at l;let:((No a.cps.toList row.cps.toList).map oC).map V.bl=ys:=by rw[l,Ys];rfl
     rw[this];show Qb.of y
    .let e:gx row a=((No a.cps.toList row.cps.toList).map oC).all id:=by
      unfold gx;rw[Zf g,Wn,V7];rfl
     show e▸k H' v
def CC(h:(rows.map (·.length)).sum<=3000):(rM (!"") rows).length<=3000:=by
 let:=SU (!"") rows;rw[show(!"").length=0 from rfl]at this
 lia
def mH(T:Txt K mg):↥1 "letters_in" ["rows"] (kT K):=by
 .exists T.b2,sd,L,hr,%[a,rows,rfl,M,g,u|k];show%[_,%["JEH(~.A~N~nAog?1~l~X~YUA0Bd0?2wL$0~M0BB",0,↑(["sign"],[])|↑["sign"]]|?_];change iI _ _ [!a] H;lk;show aN λB N=>?_
  lk;show%[rows,M,by rw[show(!"").length=0 from rfl];lia|?_];rw[show Txt.join (!"") rows=rM (!"") rows from Os _ _];let j:=CC g;let b:=km u;unfold c7 at b k
  generalize rM (!"") rows=z at j b k ⊢
  show N _ _ λD C=>?_
  show dM (J:=Its z) (n:=z.cps.size) (D:=D) (λi ys v H'=>A4 (∃o,v=[o]) (ah H H') (H' D<*ys) (ys=((z.cps.toList.take i).filter (λc=>decide (c≠46))).map (λc=>V.str (sgn c)))) %[%[eH|rfl],ah.Qa C,af|rfl]
   (λi _ _ _ hi _=>hi) (λ_ _ _ _=>Zi _) ?_ ?_
  .intro i ys v H' hi %[%[o|rfl],q,r|d] x H2 %[O,c,G|rfl];subst O;let I: ~~~ys<=i:=by
    rw[d,Z6];let:=Yi (λc=>decide (c≠46)) (z.cps.toList.take i);rw[Yl]at this
    lia
   let U:i<3000:=by
    let: ~~~z=z.cps.size:=rfl
    lia
   lk;simp only[qG];show bz (λy=>?_) λy=>?_
   .show CK.mk hi r (aF ⋯) %[%[_|rfl],ah.set q C,af|?_];rw[<-kq z i c G,Y2,Zd,d];let:decide (c≠46)=fI:=↑y
    rw[Y3,this];rfl
   .show CN.mk hi %[%[_|rfl],q,r|?_];rw[<-kq z i c G,Y2,Zd,d];let:decide (c≠46)=fS:=↑y
    rw[Y3,this];simp
  .intro ys v H' %[_,q,r|d];let e:z.cps.toList.take z.cps.size=z.cps.toList:=by
    apply Zn;simp
   rw[e]at d;lk;let Y:=Yi (λc=>decide (c≠46)) z.cps.toList;let ab: ~~~z.cps.toList= ~~~z:=by simp[UQ]
   show%[(z.cps.toList.filter (λc=>decide (c≠46))).map sgn,?_,by rw[Z6];lia|λS hS=>%[_,af,?_|λl ss m hp ac=>?_]]
   .rw[Ys];let:(z.cps.toList.filter (λc=>decide (c≠46))).map (V.str ∘ sgn)=ys:=by rw[d];rfl
    rw[this];show Qb.of r
   .let:=lh b
    lia
   .let p:ah H (Qa H' S (oN w S (ba ((z.cps.toList.filter (λc=>decide (c≠46))).map sgn)))):=q.trans (ah.Qa hS);show k l _ ss (p.trans (ah.Qa m)) (p.free m) af hp
def nA(T:Txt K mg):↥2 "rows_of" ["text"] qF:=by
 .exists T.aZ,jj,an,L,%[rows,rfl,a|k];let%[wd,w1,w2|hw]:=a.wide;let M:=a.text;let p:=a.split;show%[_,%["JCMiYxyA0A?1BE;NCG1~/~:0AUBCT~FA1BnRK2RK3kCMfpLa2]ZviYF]aA3BE;NEMf)L<2D*iYF]bA3AP1I~G2DBE;NCML~obcAF~;A1BBDE;NEH1",jj.nd,(blE (v:= .ty "str") rfl T.ab Vt rfl rfl rfl)|L]|?_]
  generalize rM nl rows=z at M p
  change aW _ _ _ [-z,eH,eH,eH] H;show aj λD1 k1 _=>?_
  lk;show%[.type "str",.str z,fI,by rfl|rL (k1 _ _ (aj λD2 k2 _=>?_))];lk;show%[!1,md (by lia: ~~~z+2<=5000) (!1)|λl hl=>k2 _ _ ?_];rw[show(!"\n")=nl from rfl,p];show aj λD3 k3 _=>aB λag hK=>?_
  lk;let N:ah H (Qa H l (.lst (rows\3))):=ah.Qa hl;show%[_,Qb.of af|hK _ _ (iM (λi I H'=>E2 λO U=>A3 (I=[-z,!l,O,U]) (ah H H') (H' l<*rows\3)) %[eH,eH,ρ,N|af] (λi I H' _ ⟨_,_,_,_,q⟩=>Qb.of q) ?_ ?_)]
  .intro i x TT I H' u %[O,U,rfl,Y|g] hT;obtain⟨r,j,rfl⟩:∃r,rows[i]?∣r/\x=V.str r:=by
    rw[Zl]at u;cases e:rows[i]? with
    | none=>rw[e]at u;cases u
    | some r=>rw[e]at u;show%[r,ρ|(Za u).symm]
   let ak:i< ~~~rows:=(Xl j).1;let al:=a.high;let y:ah H (Qa H' TT (.tup [.int i,.str r])):=Y.trans (ah.Qa hT);let n:Qa H' TT (.tup [.int i,.str r]) l<*rows\3:=ah.Qa hT _ _ g;let B:Qa H' TT (.tup [.int i,.str r]) TT&&&[.int i,.str r]:=af
   generalize Qa H' TT _=HT at y n B
   let C: ~~~r<=1000:=by
    let: ~~~r=wd:=hw r (Z8 j)
    lia
   show%[_,SqT.of B,ρ,_,_,ρ,_,_,ρ,ρ|?_];change aW _ _ _ [-z,!l,fx (.int i),-r] HT;show aj λD4 k4 _=>?_
   let go:∀o,ah HT o->D4.nx [-z,!l,fx (.int i),-r] o:=by
    intro o b;show k4 _ _ (aE λD5 k5 _=>?_);let fin:∀J,ah HT J->D5.nx [-z,!l,fx (.int i),-r] J:=λJ m=>k5 _ _ %[_,_,rfl,y.trans m|m l _ n]
    lk;show bz (λG=>?_) λ_=>fin _ b
    let G:0<(i:nX):=Zo G;obtain⟨d,rfl⟩:∃d,i=d+1:=%[i-1|⋯]
    let ab:d< ~~~rows:=by lia
    let ac:rows[d]?∣rows[d]:=by simp
    let e1:(((d+1:hH):nX) -1)=(d:nX):=by lia
    show%[_,Qb.of (b l _ n),.str rows[d],e1▸bG ∅,r,rows[d],ρ,C,?_|λJ m=>?_]
    .let:rows[d].length=wd:=hw _ (Yd ab)
     lia
    .rw[a.beneath ac j];show fin _ (b.trans m)
   lk;rw[hX ⋯];show%[r,ρ,C|λo b=>?_];rw[a.row (Z8 j)];show go o b
  .intro I H' %[O,U,rfl,Y|g];show k3 _ _ ?_;lk;show%[l,rows,ρ,Qb.of g,by let:=a.sum;lia,a.sign|λl2 o ss b ao ae G=>%[_,.inl %[_,Qb.of ae|ρ]|?_]];rw[hX]
   .show k l o (Y.trans b) hl (b l _ g)
   .intro h0;let h0:=Zo h0;rw[Z6]at h0;let:ss=[]:=y2.mp ⋯;rw[this]at G;let hm:=G.symm.eq_nil;let%[c|hc]:=SY _ a.signs_ne;let:sgn c∈ba ((c7 rows).map sgn):=a9.mpr (Xp %[c,hc|rfl]);rw[hm]at this;cases this
abbrev iw(p:hH×hH):kf ZB:=if p.1≠46/\p.1≠p.2 then fx [sgn p.1,sgn p.2]else eH
abbrev qJ(u r:iv):dV ZB:=(No u.cps.toList r.cps.toList).filterMap iw
def e9(H:Hp):aI H []:=λp a=>by cases a
def aG(h:aI H ps)(s:∀b z,H b&&&z->H' b&&&z):aI H' ps:=λp a=>%[(h p a).1|s _ _ (h p a).2]
def fW(h:aI H ps)(a:q.2≠[])(b:H q.1&&&q.2\3):aI H (ps++[q]):=λp c=>by
 rcases Xm c with z|z
 .show h p z
 .rw[Xn z];show%[a|b]
def qK(a:aI H ps)(b:aI H qs):aI H (ps++qs):=λp c=>(Xm c).elim (a p) (b p)
inductive Im
 | mk (u r:iv):vs=[.str u,.str r]-> ~~~u<=40-> ~~~r= ~~~u->(∀l H' ps,ah H H'->H l=eH->H' l∣.lst (ps\0)->aI H' ps->ps\2=qJ u r->Q (.ref l) H')->Im vs H Q E0
inductive AU
 | mk (rows:ZB):vs=[.str (rM nl rows)]->cX rows->(∀l H' (ss:ZB),ah H H'->H l=eH->H' l<*ss\3->ss.Perm (ba ((c7 rows).map sgn))->Q (.ref l) H')->AU vs H Q E0
def CD(T:Txt K mg):↥3 "letters" ["text"] AU:=by
 .exists T.b3,zX,d,b,%[rows,rfl,a|e];show%[_,%["JEHF~;AF~<A0BB",0|b],rows,ρ,a|λl q c r g=>%[l,rows,ρ,Qb.of g,by let:=a.sum;lia,a.sign|λi j ss m n o p=>e i j ss (c.trans m) (c.free n) o p]]
def lE(T:Txt K mg):↥1 "meetings_between" ["above","row"] Im:=by
 .exists T.b5,kE,ac,hr,%[u,r,rfl,hu,ae|kk];let ag: ~~~u=u.cps.size:=rfl;let ak: ~~~r=r.cps.size:=rfl;show%[_,%["JEHog?1~,A0A1BnRd0?2Rd1?2kwf)L$0~M*L$01jA0A1B",0,↑(["high","low"],[])|↑["high","low"]]|?_];change iI _ _ [-u,-r] H;lk;show aN λab hK=>?_
  lk;show hK _ _ λD N=>?_
  show dM (J:=Itz u r) (n:=u.cps.size) (D:=D) (λi ys O H'=>A5 (E2 λo1 o2=>O=[o1,o2]) (ah H H') (H' D<*ys) (~~~ys<=i) (∃ps:ZG,A3 (ys=ps\0) (aI H' ps) (ps\2=((No u.cps.toList r.cps.toList).take i).filterMap iw)))
   %[%[eH,eH|rfl],ah.Qa N,af,Zi _,[],rfl,e9 _|rfl] (λi _ _ _ hi _=>%[hi|⋯]) (λ_ _ _ _=>%[Zi _,⋯|.inl rfl]) ?_ ?_
  .intro i ys O H' hi %[%[o1,o2|rfl],U,Y,G,ps,I,l|j] x H2 %[c,d,TT,hc,hd,hT,rfl|rfl];let m:=ah.Qa (o:= .tup [.str ⟨([c].toArray)⟩,.str ⟨([d].toArray)⟩]) hT;let nx:=qH u r i c d hc hd;let a:=m _ _ Y;let B:Qa H' TT (.tup [.str ⟨([c].toArray)⟩,.str ⟨([d].toArray)⟩]) TT&&&[.str ⟨([c].toArray)⟩,.str ⟨([d].toArray)⟩]:=af;let g:aI (Qa H' TT (.tup [.str ⟨([c].toArray)⟩,.str ⟨([d].toArray)⟩])) ps:=λp C=>%[(l p C).1|m _ _ (l p C).2]
   let v:=U.trans m
   generalize Qa H' TT _=HT at m a B g v
   show%[_,SqT.of B,ρ,_,_,ρ,_,_,ρ,ρ|?_];change F1 _ _ [fx (.str ⟨([c].toArray)⟩),fx (.str ⟨([d].toArray)⟩)] HT _;lk;simp only[qG,Ft];let al:D≠TT:=λe=>by rw[e,B]at a;cases a
   show bz (λL=>bz (λM=>?_) λM=>?_) λL=>?_
   .let L:c≠46:=↑L
    let M:c≠d:=↑M
    show%[show 2<=ku from !1|λp C=>?_];let y:=ah.Qa (o:= .tup [V.str ⟨([c].toArray)⟩,V.str ⟨([d].toArray)⟩]) C;let an:p≠D:=λe=>by rw[e,a]at C;cases C
    show CK.mk hi (y _ _ a) (aF ⋯) %[%[_,_|rfl],ah.set (v.trans y) N,af,by rw[Z9,Yk];lia,ps++[(p,[sgn c,sgn d])],by rw[I,Zd];rfl,?_|?_]
    .let keep:∀b z,Qa HT p _ b&&&z->Qa _ D (.lst (ys++[V.ref p])) b&&&z:=λb z e=>by
      let:b≠D:=λe2=>by rw[e2,y _ _ a]at e;cases e
      rw[av this];show e
     show aG (fW (aG g λb z e=>y _ _ e) ∅ (by rw[af];rfl)) keep
    .rw[Zd,j,<-nx,Y0];let:iw (c,d)∣[sgn c,sgn d]:=jg %[L|M];rw[Y1,this];rfl
   .show CN.mk hi %[%[_,_|rfl],v,a,⋯,ps,I,g|?_];rw[j,<-nx,Y0];let:iw (c,d)=eH:=hX λq=>q.2 ↑M
    rw[Y1,this];simp
   .show CN.mk hi %[%[_,_|rfl],v,a,⋯,ps,I,g|?_];rw[j,<-nx,Y0];let:iw (c,d)=eH:=hX λq=>q.1 ↑L
    rw[Y1,this];simp
  .intro ys O H' %[_,U,Y,G,ps,I,l|j];rw[Zn (by rw[TJ];simp;lia)]at j;show kk D H' ps U N (by rw[Y,I]) l j
def xR{K:ZA}{xs ys:ZM}{g:TG}{o:TS}{D:jC}(Pv:hH->St->Hp->Prop)(r:Pv 0 c H)(s: ~~~ys<= ~~~xs)(u:∀i c H,i<= ~~~ys->Pv i c H->Qb K H a xs/\Qb K H b ys)
 (z:∀i x y T c H,xs[i]?∣x->ys[i]?∣y->Pv i c H->H T=eH->g (.ref T) c (Qa H T (.tup [x,y])) λd h=>o {D with nx:=Pv (i+1),ct:=Pv (i+1),bk:=D.nx} d h) (A:∀c H,Pv ys.length c H->D.nx c H):
 ∃W:hH->hH->St->Hp->Prop,(∃m,W 0 m c H)/\∀i m c H,W i m c H->
  ((Cg K a b).stop i H/\D.nx c H)\/((Cg K a b).go i H/\∃N:St->Hp->Prop,(∀f H',N f H'->∃q,q<m/\W (i+1) q f H')/\∀x H',(Cg K a b).yld i H x H'->g x c H' λd h=>o {D with nx:=N,ct:=N,bk:=D.nx} d h):=by
 show%[λi m c H=>m= ~~~ys-i/\i<= ~~~ys/\Pv i c H,%[~~~ys,by simp,Xe _|r]|?_];intro i m c H %[rfl,hi|p];let%[j|l]:=u i c H hi p;by_cases n:i< ~~~ys
 .let B:xs[i]?∣xs[i]:=by simp[show i< ~~~xs by lia]
  let C:ys[i]?∣ys[i]:=by simp
  show .inr %[%[xs,ys,_,_,j,l,B|C],Pv _,λf H' E=>%[~~~ys-(i+1),⋯,rfl,n|E]|λv H' y=>?_];let%[T,G,I,J,rfl,rfl,L|M]:=y;show z i G I T c H (L xs j) (M ys l) p J
 .let e:i= ~~~ys:=by lia
  subst e;show .inl %[%[xs,ys,j,l,⋯,Zi _|.inr rfl]|A c H p]
abbrev bY(rows:ZB)(i:hH):dV ZB:=(o0 i).flatMap λj=>qJ (rows.getD j ⟨([].toArray)⟩) (rows.getD (j+1) ⟨([].toArray)⟩)
def mI(rows:ZB)(i:hH):bY rows (i+1)=bY rows i++qJ (rows.getD i ⟨([].toArray)⟩) (rows.getD (i+1) ⟨([].toArray)⟩):=by
 unfold bY;rw[Pa,O0];simp
def z4(u r:iv): ~~~(qJ u r)<= ~~~u:=by
 show md (Of _ _) ?_;rw[TJ];let: ~~~u.cps.toList= ~~~u:=by simp[UQ]
 lia
def nB(h:k∈bY rows (~~~rows-1)):∃a b,k=[sgn a,sgn b]/\Fo rows a b:=by
 let%[j,d|g]:=Mi.mp h;let f:∀j h,rows.getD j ⟨([].toArray)⟩=rows[j]:=λj h=>by simp[h]
 let d:=vu.mp d;let%[%[a|b],i|e]:=MX.mp g;unfold iw at e
 split at e
 .rename_i h
  let%[q|c]:=Xf i;rw[Py,f j ⋯,f _ ⋯]at c;show%[a,b,(Za e).symm,h.1,h.2,j,q,rows[j],rows[j+1],Z4 _,Z4 _,by simpa using c.1|by simpa using c.2]
 .lia
def uE(m:cX rows)(h:Fo rows a b):Let rows a/\Let rows b:=by
 let%[n1,n,i,j,r,c,d,f,g|l]:=h;show%[%[n1,r,Z8 d|Z8 ↑g],λe=>n1 (m.fall i r c d f j a b g l e),c,Z8 f|Z8 ↑l]
def uF(rows:ZB)(h:rows≠[]):pD (rows\3) (fx 1) eH=(rows.drop 1)\3:=by
 unfold pD;rw[_HT.sIx_none,show(fx (1))∣((1:hH):nX)from rfl,_HT.sIx_nat,Z6,Qi (Nc.mpr h),<-Xz,<-Xy];rw[Zn (Yh▸Zi _)]
inductive AV
 | mk (rows:ZB):vs=[.str (rM nl rows)]->cX rows->rY rows->(∀l H' ss,ah H H'->H l=eH->H' l∣.lst (ss\0)->aI H' ss-> ~~~ss<=60->(∀t∈ss,∃a b,t.2=[sgn a,sgn b]/\Let rows a/\Let rows b)->(∀k,k∈ss\2↔k∈bY rows (~~~rows-1))->Q (.ref l) H')->AV vs H Q E0
def z5(T:Txt K mg):↥3 "meetings" ["text"] AV:=by
 show T.b4.cal e7 (λH vs Q E h=>?_)
 .let%[rows,rfl,c,%[mm,ml|a1]|kk]:=h;show%[ρ|λf bf A outer s hr=>?_];let%[wd,w1,w2|Y]:=c.wide;let hp:1<= ~~~rows:=c.pos;let bb:=c.high;let a2:rows≠[]:=Nc.mp hp;show%[_,%["JCG1F~<A0BCG2SBCT~=A1A=1>D^BnRK3RK4kEZ~p~q2AF]cA3A4BBEH(~>A~N~^A2BB",e7.nd|hr]|?_]
  change aW _ _ _ [fx (.str (rM nl rows)),eH,eH,eH,eH] H;show aj λD1 k1 r1=>?_
  lk;show%[rows,ρ,c|λR H1 s1 f1 hR=>k1 _ _ (aj λD2 k2 r2=>?_)];lk;show%[Xe _|λL hL=>k2 _ _ (aj λD3 k3 r3=>aB λbc hK=>?_)];let s2:=ah.Qa (o:= .lst []) hL;let C:=s2 _ _ hR;let G:Qa H1 L (.lst []) L<*[]:=af;let fL:H L=eH:=s1.free hL;let ab:=s1.trans s2
  generalize Qa H1 L _=H2 at s2 C G ab
  lk;show%[_,Qb.of C|λp hp=>?_];rw[uF rows a2];let s3:=ah.Qa (o:= .lst ((rows.drop 1)\3)) hp;let I:=s3 _ _ C;let ac:=s3 _ _ G;let J:Qa H2 p (.lst ((rows.drop 1)\3)) p<*(rows.drop 1)\3:=af;let ae:=ab.trans s3;let a3:L≠R:=λe=>by rw[e,hR]at hL;cases hL
  let a4:p≠L:=λe=>by rw[e,G]at hp;cases hp
  generalize Qa H2 p _=H3 at s3 I ac J ae
  show%[%[_|Qb.of I],%[_|Qb.of J]|hK _ _ (xR (xs:=rows\3) (ys:=(rows.drop 1)\3) (λi σ H'=>A5 (E2 λo3 o4=>σ=[fx (.str (rM nl rows)),!R,!L,o3,o4]) (ah H H') (H' R<*rows\3) (H' p<*(rows.drop 1)\3) (∃ps:ZG,A4 (H' L∣.lst (ps\0)) (aI H' ps) (ps\2=bY rows i) (~~~ps<=40*i))) %[%[eH,eH|ρ],ae,I,J,[],ac,e9 _,ρ|Xe _] (by rw[Z6,Z6,Yh];lia) (λi σ H' _ q=>%[Qb.of q.3|Qb.of q.4]) ?_ ?_)]
  .intro i x y TT σ H' hx hy %[%[o3,o4|rfl],sm,ag,ak,ps,M,g,l|al] hT;rw[Zl]at hx hy;let%[u,hu|rfl]:=zz.mp hx;let%[r,v|rfl]:=zz.mp hy;rw[Pl,T3]at v;let bl:i+1< ~~~rows:=(Xl v).1;let ul: ~~~u=wd:=Y u (Z8 hu);let rl: ~~~r=wd:=Y r (Z8 v);let j:=ah.Qa (o:= .tup [V.str u,V.str r]) hT;let an:Qa H' TT (.tup [V.str u,V.str r]) TT&&&[V.str u,V.str r]:=af;let ao:=j _ _ ag;let ap:=j _ _ ak;let n:=j _ _ M;let B:aI (Qa H' TT (.tup [V.str u,V.str r])) ps:=aG g λb z e=>j _ _ e
   let aq:=sm.trans j
   generalize Qa H' TT _=HT at j an ao ap n B aq
   show%[_,SqT.of an,ρ,_,_,ρ,_,_,ρ,ρ|?_];show aE λD4 k4 r4=>?_
   lk;show%[tyL (Qb.of n),u,r,ρ,⋯,⋯|λl4 H4 ps4 U f4 h4 as e4=>?_];let bm:l4≠L:=λe=>by rw[e,n]at f4;cases f4
   let be: ~~~ps4<=40:=by
    let: ~~~(ps4\2)= ~~~(qJ u r):=by rw[e4]
    rw[Z6]at this;let:=z4 u r
    lia
   show%[_,U _ _ n,_,h4,by rw[Z6,Z6];show cU ⋯|k4 _ _ ?_];let N:∀b z,H4 b&&&z->Qa H4 L (.lst ((ps\0) ++ps4\0)) b&&&z:=λb z e=>by
    let:b≠L:=λe2=>by rw[e2,U _ _ n]at e;cases e
    rw[av this];show e
   let a5:R≠L:=zr a3;show%[%[_,_|ρ],λb u' e=>?_,(av a5)▸U _ _ ao,(av a4)▸U _ _ ap,ps++ps4,by rw[af,Zd],aG (qK (aG B λb z e=>U _ _ e) as) N,?_|by rw[Z9];lia]
   .rw[av (aC e fL)];show U _ _ (aq _ _ e)
   .rw[Zd,l,e4,mI];let g1:rows.getD i ⟨([].toArray)⟩=u:=by rw[Zc,hu];rfl
    let g2:rows.getD (i+1) ⟨([].toArray)⟩=r:=by rw[Zc,v];rfl
    rw[g1,g2]
  .intro σ H' %[%[o3,o4|rfl],sm,ag,ak,ps,M,g,l|al];rw[Z6,Yh]at l;show k3 _ _ ?_;lk;let O:∀q∈ps,∃a b,q.2=[sgn a,sgn b]/\Fo rows a b:=λq d=>nB (l▸Xp %[q,d|rfl])
   let ax:∀q∈ps,q.2∈mm:=λq d=>by
    let%[a,b,e|h]:=O q d;rw[e];show a1 a b h
   show%[ps,Qb.of M,g,%[mm,⋯|ax]|λl5 a6=>?_];let s5:=ah.Qa (o:=qf P w l5 (bI ps)) a6;let few: ~~~(bI ps)<=60:=by
    let:=_ST.nodup_sub (eW ps) (m:=mm) λk hk=>by
     let%[q,d|rfl]:=Xo hk;show ax q (bA ps q d)
    rw[Z6]at this
    lia
   show%[bI ps,af,λq d=>%[(g q (bA ps q d)).1|s5 _ _ (g q (bA ps q d)).2],2,λq d=>?_,!1,⋯|λl6 ss a0 pm=>?_]
   .let%[a,b,e|_]:=O q (bA ps q d);rw[e];rfl
   let s6:=ah.Qa (o:= .lst (ss\0)) a0;show kk l6 _ ss ((sm.trans s5).trans s6) ((sm.trans s5).free a0) af (λq d=>?_) (pm.length_eq▸few) (λq d=>?_) λk=>?_
   .let:=g q (bA ps q (pm.mem_iff.mp d));show%[this.1|s6 _ _ (s5 _ _ this.2)]
   .let%[a,b,e|h]:=O q (bA ps q (pm.mem_iff.mp d));show%[a,b,e|uE c h]
   .rw[(pm.map _).mem_iff,jd,l]
abbrev gM(z:iv):pp:=(decide (1<=(~~~z:nX))&&decide ((~~~z:nX)<=8))&&z.cps.toList.all gj
inductive qL
 | mk (z:iv):vs=[.str z]->gM z=fI->(∀H',ah H H'->Q (.bl fI) H')->qL vs H Q E0
inductive xS (K:ZA)
 | mk (z:iv) (p:ij) (ts:ZB):vs=[.str z,.ref p]->(Qb K H p (ts\3)\/SqT K H p (ts\3))->Q (.bl (decide (z∈ts))) H->xS K vs H Q E0
inductive qM
 | mk (i:nX):vs=[.int i]-> -9999<=i->i<=9999->Q (.bl fI) H->qM vs H Q E0
abbrev mJ(c:ZB)(vs:ZM):Prop:=
 (∃w a b:iv,vs=[.str w,.str a,.str b]/\(w="later"\/w="same")/\a∈c/\b∈c/\a≠b)\/
 ∃w a y,vs=[.str w,.str a,.int y]/\(w="since"\/w="by")/\a∈c/\ -9999<=y/\y<=9999
inductive mK (K:ZA)
 | mk (t p xs ls):vs=[.ref t,.ref p]->H t&&&xs->Qb K H p (ls\3)->mJ ls xs->Q (.bl fI) H->mK K vs H Q E0
abbrev lnS(n z:iv):iv:=Me++n++n0 "."++z
inductive kU
 | mk (n z:iv):vs=[.str n,.str z]-> ~~~n<=100-> ~~~z<=100->Q (.str (lnS n z)) H->kU vs H Q E0
def AW(z:iv)(ts:ZB):inV (V.str z) (ts\3)=decide (z∈ts):=by
 unfold inV
 induction ts with
 | nil=>rfl
 | cons c r a=>
   change((c==z)||_)=_
   grind
def uG(ts:ZB):(ts\3).all kJ=fI:=by simp[kJ]
def CF(T:Txt K mg):↥1 "is_name" ["thing"] qL:=by
 .exists T.aY,zW,u,M,%[z,rfl,y|k];show%[_,%["JCMiYxyA0A?1BEHhNEH/~i~E~EDbcA0B]d:~j~kAog?2~l0d0?3'm~)0~*B",0,(blE (v:= .ty "str") rfl T.ab Vt rfl rfl rfl),↑(["sign"],[])|↑["sign"]]|?_]
  change aW _ _ _ [-z] H;let a:=y;unfold gM at a;rw[Zv,Zv]at a;let%[%[B|p]|b]:=a;let N: ~~~z<=8:=by let:=Zo p;lia
  lk;show%[.type "str",.str z,fI,by rfl|?_];lk;show%[cU ⋯|?_];rw[jg B,jg p];show aN λq C=>?_
  lk;show C _ _ λD r=>?_
  show dM (J:=Its z) (n:=z.cps.size) (D:=D) (λi ys j H'=>A4 (∃o,j=[o]) (ah H H') (H' D<*ys) (ys=(z.cps.toList.take i).map (λc=>V.bl (gj c)))) %[%[eH|rfl],ah.Qa r,af|rfl]
   (λi _ _ _ hi _=>hi) (λ_ _ _ _=>Zi _) ?_ ?_
  .intro i ys j H' hi %[%[o|rfl],l,m|d] x O %[G,c,I|rfl];subst G;lk;let g: ~~~ys=i:=by
    rw[d,Z6,Yl];let: ~~~z.cps.toList=z.cps.size:=by simp
    lia
   let L:i<1000:=by
    let: ~~~z=z.cps.size:=rfl
    lia
   show CK.mk hi m (g▸aF ⋯) %[%[_|rfl],ah.set l r,af|?_];rw[vh,d,<-kq z i c I,Zd]
   all_goals rfl
  .intro ys j H' %[_,l,m|d];show%[(z.cps.toList.map gj),?_|?_]
   .let e:z.cps.toList.take z.cps.size=z.cps.toList:=by
     apply Zn;simp
    rw[e]at d;let:(z.cps.toList.map gj).map V.bl=ys:=by rw[d,Ys];rfl
    rw[this];show Qb.of m
   .let e:(z.cps.toList.map gj).all id=fI:=by
     rw[Wn];show b
    rw[e];show k H' l
def dq(T:Txt K mg):↥1 "is_text_among" ["thing","texts"] (xS K):=by
 .exists T.bb,nu,a,c,%[z,p,ts,rfl,b|k];show%[_,%["JEH/xyA0A?1B:m~_01",0|(blE (v:= .ty "str") rfl T.ab Vt rfl rfl rfl)]|?_];change iI _ _ [fx _,fx _] H;lk;show%[.type _,.str z,fI,by rfl|?_];rw[<-AW]at k;show%[_,b,ρ,uG ts|k]
def CG(T:Txt K mg):↥1 "is_year" ["thing"] qM:=by
 .exists T.bc,zY,a,d,%[i,rfl,b,c|k];show%[_,%["JCMfpiYxyA0A?1BvYxyA0A?2BEHhNEH~i~E~E]e0]f",0,(blE (v:= .ty "int") rfl T.ah boot_int rfl rfl rfl)|(blE (v:= .ty "bool") rfl T.ai boot_bool rfl rfl rfl)]|?_]
  change aW _ _ _ [fx (.int i)] H;lk;show%[.type _,.int i,fI,by rfl,.type _,.int i,fS,by rfl|?_];rw[jg (Zf b),Zf c];show k
def jn(T:Txt K mg):↥1 "layer_name" ["name","letter"] kU:=by
 .exists T.bd,sf,d,j,%[n,z,rfl,l,m|k];show%[_,%["JEH~|~O~r0~OU~O~r1~}"|0]|?_];change iI _ _ [-n,fx _] H;lk;let e:∀a b:iv,~~~(a++b)= ~~~a+ ~~~b:=λa b=>Rn
  let g:Me.length=0:=rfl;let i:(!".").length=1:=rfl;let c:∀k,k<=1000->k<=ku:=λk o=>cU ⋯
  show%[c _ ⋯,c _ ?_,c _ ?_,c _ ⋯,c _ ?_,c _ ?_|k]<;> simp only[e,g,i]<;> lia
def xT(T:Txt K mg):↥2 "is_saying" ["thing","layers"] (mK K):=by
 .exists T.ba,vY,o,d,%[t,p,xs,g,rfl,n,i,ok|k];show%[_,%["JCMfpiYxyA0A?1BvL~+bcA0BDEHhNCMYF~PAO0DA]gBEH/F~PAO0DA1B/F~PAO0DA1B:m$O0DO0DNCMYF~PAO0DA]hBEH/F~PAO0DA1B:F]iAO0DBNEHh",0,(blE (v:= .ty "tuple") rfl T.ag TV rfl rfl rfl)|d]|?_]
  change aW _ _ _ [!t,!p] H;lk;show%[.type "tuple",.tup n,fI,by rfl|?_];let st:=SqT.of (K:=K) n;rcases ok with⟨c,a,b,rfl,hw,j,r,l⟩|⟨c,a,y,rfl,hw,j,u,z⟩
  .let m:decide (c∈([!"later",!"same"]:ZB))=fI:=by rcases hw with rfl|rfl<;> decide
   lk;show%[3,.inr %[_,st|ρ]|?_];rw[hX (!1)];show%[_,st,_,ρ|λq e=>%[c,q,[!"later",!"same"],ρ,.inr (e H)|?_]];rw[m];lk;show%[_,st,_,ρ,a,p,g,ρ,.inl i|?_];rw[Zf j];lk;show%[_,st,_,ρ,b,p,g,ρ,.inl i|?_];rw[Zf r];lk;show%[_,st,_,ρ,_,st,_,ρ,ρ|?_];rw[show(!decide (V.str a=V.str b))=fI from by simp[l]];show k
  .let m:decide (c∈([!"later",!"same"]:ZB))=fS:=by rcases hw with rfl|rfl<;> decide
   let B:decide (c∈([!"since",!"by"]:ZB))=fI:=by rcases hw with rfl|rfl<;> decide
   lk;show%[3,.inr %[_,st|ρ]|?_];rw[hX (!1)];show%[_,st,_,ρ|λq e=>%[c,q,[!"later",!"same"],ρ,.inr (e H)|?_]];rw[m];lk;show%[_,st,_,ρ|λq e=>%[c,q,[!"since",!"by"],ρ,.inr (e H)|?_]];rw[B];lk;show%[_,st,_,ρ,a,p,g,ρ,.inl i|?_];rw[Zf j];lk;show%[_,st,_,ρ,y,ρ,u,z|k]
abbrev bZ(H:Hp)(cs:ZH):Prop:=∀p∈cs,H p.1&&&[.str p.2.1,.str (rM nl p.2.2)]/\gM p.2.1=fI/\cX p.2.2
def bZ.up(h:bZ H cs)(s:ah H H'):bZ H' cs:=λp a=>%[s _ _ (h p a).1|(h p a).2]
inductive uH
 | mk (rows:ZB):vs=[.str (rM nl rows)]->cX rows->(∀H',ah H H'->Q (.bl fI) H')->uH vs H Q E0
inductive xU
 | mk (p:ij×iv×ZB):vs=[.ref p.1]->bZ H [p]->(∀H',ah H H'->Q (.bl fI) H')->xU vs H Q E0
abbrev bP(cs:ZH):ZM:=cs\0
inductive kW
 | mk (l cs):vs=[.ref l]->H l<*bP cs->bZ H cs->(cs.map λp=>p.2.1).Nodup->1<= ~~~cs-> ~~~cs<=8->(∀H',ah H H'->Q .non H')->kW vs H Q E0
abbrev cV(H:Hp)(a:ZB)(qs:ZN):Prop:=∀q∈qs,H q.1&&&q.2/\mJ a q.2
def cV.up(h:cV H b qs)(s:ah H H'):cV H' b qs:=λp a=>%[s _ _ (h p a).1|(h p a).2]
inductive iT (K:ZA)
 | mk (l r ls qs):vs=[.ref l,.ref r]->H l∣.lst (qs\0)->H r<*ls\3->cV H ls qs-> ~~~qs<=60->(∀H',ah H H'->Q .non H')->iT K vs H Q E0
def Fv(T:Txt K mg):↥3 "is_cut" ["thing"] uH:=by
 .exists T.b8,CA,b,c,%[rows,rfl,a|k];show%[_,(QSs.h (ai (tryN (λ_ _ h=>h) (au (bK rfl (aJ (nA T) c rfl #[↑0]))))
   (au (aM eBl))))|?_]
  change aW _ _ _ [fx (.str (rM nl rows))] H;lk;show%[rows,ρ,a|λl d e g i=>k d e]
def qN(T:Txt K mg):↥4 "is_named_cut" ["thing"] xU:=by
 .exists T.b7,oQ,e,c,%[p,rfl,g|k];let%[b,i|a]:=g p (Yy.mpr rfl);show%[_,%["JEH/xyA0A?1B/m~obcA0BD/F]jAO0DB:F]kAO0DB",0,(blE (v:= .ty "tuple") rfl T.ag TV rfl rfl rfl)|c]|?_];change iI _ _ [fx _] H;lk;show%[.type _,.tup b,fI,by rfl|?_];let st:=SqT.of (K:=K) b;show%[2,.inr %[_,st|ρ],_,st,_,ρ,p.2.1,ρ,i|λm d=>?_];lk;show%[_,SqT.of (d _ _ b),_,ρ,p.2.2,ρ,a|λj l=>k j (d.trans l)]
def wc(T:Txt K mg):↥5 "check_cuts" ["cuts"] kW:=by
 .exists T.b6,eX,ak,I,%[l,cs,rfl,B,J,L,h1,h8|k];let r: ~~~(bP cs)= ~~~cs:=Z6 _;show%[_,%["JCMfpiYxyA0A?1BvL~obcA0BDE;NCG1zET~FA0BnRK2RK3kCMfpLa2]lpiYF]mA3Bv~ZO3D1E;NEuh1O3D",eX.nd,(blE (v:= .ty "list") rfl T.a5 QD rfl rfl rfl)|I]|?_]
  change aW _ _ _ [!l,eH,eH,eH] H;show aj λD1 k1 _=>?_
  lk;show%[.type "list",.lst B,fI,by rfl|?_];lk;show%[~~~cs,.inl %[_,Qb.of B|r.symm]|?_];rw[hX (by simp only[Mg];lia)];show k1 _ _ (aj λD2 k2 _=>?_);lk;show λd M=>k2 _ _ (aE λD3 k3 _=>aB λag hK=>?_)
  lk;show%[_,Qb.of (ah.Qa M _ _ B)|hK _ _ (iM (λi C H'=>∃N O a,C=[!l,!d,N,O]/\ah H H'/\H' d∣.dK a/\a\1=(cs.take i).map λp=>hY p.2.1) %[eH,eH,[],ρ,ah.Qa M,af|ρ] (λi C H' _ ⟨_,_,_,_,q,_⟩=>Qb.of (q _ _ B)) ?_ ?_)]
  .intro i x TT C H' G %[N,O,a,rfl,U,u|c] hT;let hi:i< ~~~cs:=r▸(Xl G).1;obtain⟨q,Y,rfl⟩:∃q,cs[i]?∣q/\x=V.ref q.1:=by
    unfold bP at G;rw[Zl,Z4 hi]at G;show%[cs[i],Z4 hi|(Za G).symm]
   let b:ah H (Qa H' TT (.tup [.int i,.ref q.1])):=U.trans (ah.Qa hT);let y:Qa H' TT (.tup [.int i,.ref q.1]) TT&&&[.int i,.ref q.1]:=af;let n:=ah.Qa (o:= .tup [.int i,.ref q.1]) hT _ _ u
   generalize Qa H' TT _=HT at b n y
   let g:=J q (Z8 Y);show%[_,SqT.of y,ρ,_,_,ρ,_,_,ρ,ρ|?_];change aW _ _ _ [!l,!d,fx (.int i),fx (.ref q.1)] HT;show aj λD4 k4 _=>?_
   lk;rw[hX (by simp only[Mg];lia)];show%[q,ρ,λp hp=>(Xn hp)▸%[b _ _ g.1|g.2]|λH2 z=>bN ?_];let m:(hY q.2.1:Key)∉a\1:=by
    rw[c];intro hm;let%[q',ab|e]:=Xo hm;let e:q'.2.1=q.2.1:=Nu e;let%[j|hj]:=Xf ab;let ac:j<i:=by
     let:=(Xl hj).1;rw[Yl]at this
     lia
    rw[Yb ac]at hj;let n1:(cs.map λp=>p.2.1)[j]?∣q.2.1:=by rw[Zl,hj,<-e];rfl
    let:=jD L n1 (by rw[Zl,Y];rfl)
    lia
   show%[_,SqT.of (z _ _ (b _ _ g.1)),_,ρ,_,cg.k (k:=hY q.2.1) (z _ _ n)|?_];let hv:cf a (hY q.2.1:Key)=eH:=by
    cases e:cf a (hY q.2.1:Key)with
    | none=>rfl
    | some v=>show m4 (GB e) m
   rw[hv,hX ∅];show k4 _ _ (aE λD5 k5 _=>?_);lk;let ae: ~~~a=i:=by
    let:=vb Mz c;rw[Z6,Z6,Yl]at this
    lia
   show%[_,SqT.of (z _ _ (b _ _ g.1)),_,ρ,_,gX.k (k:=hY q.2.1) (z _ _ n) (ae▸aF ⋯)|k5 _ _ %[_,_,_,ρ,ah.set (b.trans z) M,af|?_]];rw[ni,hX m,c,X9,Zd,Y];rfl
  .intro C H' %[N,O,a,rfl,U,u|c];show k3 _ _ (k H' U)
def oS(T:Txt K mg):↥3 "check_sayings" ["sayings","layers"] (iT K):=by
 .exists T.b9,eT,z,B,%[l,r,u,qs,rfl,e,g,j,C|k];show%[_,%["JCMiYxyA0A?1BE;NET~FA0BnRK2RK3kEMfpLa2]nviYF]oA3A1BE;N",eT.nd,(blE (v:= .ty "list") rfl T.a5 QD rfl rfl rfl)|B]|?_]
  change aW _ _ _ [!l,!r,eH,eH] H;show aj λN k1 _=>?_
  lk;show%[.type "list",.lst e,fI,by rfl|?_];lk;show k1 _ _ (aE λO G _=>aB λy I=>?_);lk;show%[_,Qb.of e|I _ _ (iM (λi d H'=>E2 λm n=>d=[!l,!r,m,n]/\ah H H') %[eH,eH,ρ|ah.refl H] (λi d H' _ ⟨_,_,_,q⟩=>Qb.of (q _ _ e)) ?_ ?_)]
  .intro i x TT d H' o %[m,n,rfl|p] J;let hi:i< ~~~qs:=(Z6 _)▸(Xl o).1;obtain⟨q,L,rfl⟩:∃q,qs[i]?∣q/\x=V.ref q.1:=by
    rw[Zl,Z4 hi]at o;show%[qs[i],Z4 hi|(Za o).symm]
   let a:ah H (Qa H' TT (.tup [.int i,.ref q.1])):=p.trans (ah.Qa J);let b:Qa H' TT (.tup [.int i,.ref q.1]) TT&&&[.int i,.ref q.1]:=af
   generalize Qa H' TT _=HT at a b
   let c:=j q (Z8 L);show%[_,SqT.of b,ρ,_,_,ρ,_,_,ρ,ρ|?_];change kY _ _ _ _ [!l,!r,fx (.int i),fx (.ref q.1)] HT;show aE λU M _=>?_
   lk;rw[hX ⋯];show%[q.1,r,q.2,u,ρ,a _ _ c.1,Qb.of (a _ _ g),c.2|M _ _ %[_,_,ρ|a]]
  .intro d H' %[m,n,rfl|p];show G _ _ (k H' p)
abbrev lyr(p:ij×iv×ZB):ZB:=(ba ((c7 p.2.2).map sgn)).map (lnS p.2.1)
inductive mL
 | mk (l cs):vs=[.ref l]->H l<*bP cs->bZ H cs-> ~~~cs<=8-> ~~~(cs.flatMap lyr)<=63->(∀r H' (ls:ZB),ah H H'->H r=eH->H' r<*ls\3->ls.Perm (cs.flatMap lyr)->ls.Pairwise (λa b=>aS b a=fS)->Q (.ref r) H')->mL vs H Q E0
abbrev d9(c:ZB)(k:ZB):Prop:=∃a b z,k=[a,b,z]/\a∈c/\b∈c
abbrev Sml(z:iv):Prop:= ~~~z<=30/\∀c∈z.cps.toList,c<16^8
abbrev CH(a:ZB)(k:ZB):Prop:=d9 a k/\∀z∈k,Sml z
def xV(h:gM z=fI):Sml z:=by
 unfold gM at h;rw[Zv,Zv]at h;show%[⋯|λc a=>?_];let:=(tO.mp (NV.mp h.2 c a)).2
 lia
def Sml.app{a b:iv}(f:∀c∈a.cps.toList,c<16^8)(g:∀c∈b.cps.toList,c<16^8):∀c∈(a++b).cps.toList,c<16^8:=λc d=>by
 let e:(a++b).cps.toList=a.cps.toList++b.cps.toList:=Xd;rw[e]at d;show(Xm d).elim (f c) (g c)
def Ht(h:c<1000):∀x∈(sgn c).cps.toList,x<16^8:=λx a=>by
 let e:=by simpa [sgn]using a
 lia
def nC{c:hH}(h:gM n=fI)(d:c<1000):Sml (lnS n (sgn c)):=by
 let e:∀a b:iv,~~~(a++b)= ~~~a+ ~~~b:=λa b=>Rn
 let l: ~~~n<=8:=by
  unfold gM at h
  grind
 show%[?_|Sml.app (Sml.app (Sml.app (λc d=>(nomatch d)) (xV h).2) (!0)) (Ht d)];unfold lnS;rw[e,e,e,show Me.length=0 from rfl,show(!".").length=1 from rfl,show(sgn c).length=1 from rfl]
 lia
def z6(h:cX rows)(l:Let rows c):c<1000:=by
 let:=(tO.mp (km h.sign c (fU.mpr l))).2
 lia
def Hu(b:gM p.2.1=fI)(d:cX p.2.2):∀z∈lyr p,Sml z:=λz e=>by
 let%[y,f|rfl]:=Xo e;let%[c,a|rfl]:=Xo (a9.mp f);show nC b (z6 d (fU.mp a))
def KD(e:Sml a)(f:Sml b)(g:Sml c):∀z∈[a,b,c],Sml z:=λz d=>by
 simp only[Yw,X6,MN]at d;rcases d with rfl|rfl|rfl
 .show e
 .show f
 .show g
def Hv(i:hH)(h:i<=100):Sml (Me++n0 "#"++n0 (toString (i:nX))):=by
 let all:∀j:Fin 101,Sml (Me++n0 "#"++n0 (toString ((j.1)))):=by
  unfold Sml;decide +kernel
 show all %[i|⋯]
def d9.three(h:d9 c k): ~~~k=3:=by
 let%[a,b,z,rfl|_]:=h;rfl
def d9.mono(h:d9 c k)(s:∀x∈c,x∈d):d9 d k:=by
 let%[a,b,z,e,f|g]:=h;show%[a,b,z,e,s a f|s b g]
def ix(h:Let p.2.2 a):lnS p.2.1 (sgn a)∈lyr p:=
 Xp %[_,a9.mpr (Xp %[a,fU.mpr h|rfl])|rfl]
abbrev mM(n:iv)(k:ZB):ZB:=k.map (lnS n) ++[n]
abbrev we(i:hH):iv:=Me++n0 "#"++n0 (toString (i:nX))
abbrev dc(cs:ZH):dV ZB:=cs.flatMap λp=>(bY p.2.2 (~~~p.2.2-1)).map (mM p.2.1)
abbrev iF(i:hH):ZM->kf ZB
 |[.str w,.str a,.str b]=>if w=n0 "later" then fx [a,b,we i]else eH
 | _=>eH
abbrev df(qs:ZN)(n:hH):dV ZB:=(o0 n).filterMap λj=>qs[j]?.bind λq=>iF j q.2
def mO{cs:dV _}{i:hH}{q:ij×iv×ZB}(a:cs[i]?∣q):dc (cs.take (i+1))=dc (cs.take i) ++(bY q.2.2 (~~~q.2.2-1)).map (mM q.2.1):=by
 unfold dc;rw[X9,a,O0];change _++([q].flatMap _)=_;rw[Tr]
def fJ(a:qs[i]?∣q):df qs (i+1)=df qs i++(iF i q.2).toList:=by
 unfold df;rw[Pa,Y0];show vb _ ?_;rw[Y1,a];rw[RE];cases iF i q.2<;> rfl
inductive mP
 | mk (l cs):vs=[.ref l]->H l<*bP cs->bZ H cs->(∀p∈cs,rY p.2.2)-> ~~~cs<=3->(∀r H' ts,ah H H'->H r=eH->H' r∣.lst (ts\0)->aI H' ts->(∀t∈ts,CH (cs.flatMap lyr) t.2)-> ~~~ts<=180->(∀k,k∈ts\2↔k∈dc cs)->Q (.ref r) H')->mP vs H Q E0
inductive mQ
 | mk (l ls qs):vs=[.ref l]->H l∣.lst (qs\0)->cV H ls qs->(∀z∈ls,Sml z)-> ~~~qs<=63->(∀r H' ts,ah H H'->H r=eH->H' r∣.lst (ts\0)->aI H' ts->(∀t∈ts,CH ls t.2)-> ~~~ts<= ~~~qs->ts\2=df qs qs.length->Q (.ref r) H')->mQ vs H Q E0
def iU{z:iv}(h:gM z=fI): ~~~z<=8:=by
 unfold gM at h
 grind
def lF{cs:dV hH}{z:iv}(h:z∈ba (cs.map sgn)):∃c∈cs,z=sgn c:=by
 let:=a9.mp h;let%[c,a|rfl]:=Xo this;show%[c,a|ρ]
def xW(T:Txt K mg):↥4 "layers_of" ["cuts"] mL:=by
 .exists T.bf,fG,ae,hr,%[l,cs,rfl,hl,C,h8,ag|k];let g: ~~~(bP cs)= ~~~cs:=Z6 _;show%[_,%["JCG1SBCTW0nR~s2qrRK3kEZ~p~q1Aog?1WF]pA3Bd0?2'F~tAQ1A0BBEH(]qA1B",fG.nd,↑(["letter","name"],[(1,2)]),↑["letter","name"]|hr]|?_]
  change aW _ _ _ [!l,eH,eH,eH] H;show aj λD1 k1 _=>?_
  lk;show%[Xe _|λL G=>k1 _ _ (aj λD2 k2 _=>aB λm I=>?_)];lk;show%[%[_|Qb.of (ah.Qa G _ _ hl)]|I _ _ (f9 (λi b H'=>E2 λJ M=>A3 (b=[!l,!L,J,M]) (ah H H') (∃d:ZB,A3 (H' L<*d\3) (d.Perm ((cs.take i).flatMap lyr)) (~~~d<=26*i)))
   %[eH,eH,ρ,ah.Qa G,[],af,M3 _|Xe _] (λi b H' _ ⟨_,_,_,q,_⟩=>Qb.of (q _ _ hl)) ?_ ?_)]
  .intro i x b H' v %[J,M,rfl,n,d,y,p|N];let hi:i< ~~~cs:=g▸(Xl v).1;obtain⟨q,hq,rfl⟩:∃q,cs[i]?∣q/\x=V.ref q.1:=by
    unfold bP at v;rw[Zl,Z4 hi]at v;show%[cs[i],Z4 hi|(Za v).symm]
   let a:=C q (Z8 hq);show%[_,SqT.of (n _ _ a.1),ρ,_,_,ρ,_,_,ρ,ρ|aE λD3 k3 _=>?_];change nN _ _ [!l,!L,fx (.str q.2.1),fx (.str (rM nl q.2.2))] H';lk;show%[tyL (Qb.of y)|aN λm I=>?_];lk;show%[q.2.2,ρ,a.2.2|λl2 H2 ss s2 f2 h2 O=>?_];lk;show%[%[_|Qb.of h2]|I _ _ λF hF=>?_];let few: ~~~ss<=26:=O.length_eq▸lh λc hc=>km a.2.2.sign c hc
   let one:∀z∈ss,~~~z=1:=λz hz=>by
    let%[c,_|rfl]:=lF (O.mem_iff.mp hz);rfl
   show di (λj ts b H'=>A4 (∃o,b=[o,fx (.str q.2.1)]) (ah H2 H') (H' F<*ts) (ts=((ss.take j).map (lnS q.2.1))\3))
    %[%[eH|rfl],ah.Qa hF,af|rfl] (λ_ _ _ H' U=>U.2 _ _ h2) ?_ ?_
   .intro j ts b H4 Y %[%[o|rfl],B,ab|e];lk;show%[_,_,ρ,by let:=iU a.2.1;lia,by rw[one _ (Yd Y)];decide|CK.mk Y ab (by rw[e,Z6,Z6,Yl];show aF ⋯) %[%[_|ρ],ah.set B hF,af|?_]];rw[e,X9,Zd,Zd,Z4 Y];rfl
   intro ts b H3 %[_,B,ac|e];rw[Zn (Zi _)]at e;lk;show%[_,B _ _ (s2 _ _ y),_,ac,(by rw[e,Z6,Z6,Z6];show cU ⋯)|k3 _ _ %[_,_,ρ,ah.set (n.trans (s2.trans B)) G,d++ss.map (lnS q.2.1),?_,?_|?_]]
   .rw[af,e,Zd]
   .rw[X9,hq,O0];show p.append ?_;change Mc _ ([q].flatMap lyr);rw[Tr];show O.map _
   .rw[Z9,Z6]
    lia
  .intro b H' %[J,M,rfl,n,d,y,p|N];show k2 _ _ ?_;lk;rw[g,Zn (Zi _)]at p;show%[d,Qb.of y,by rw[p.length_eq];lia|λr ss u p' q'=>k r _ ss (n.trans (ah.Qa u)) (n.free u) af (p'.trans p) q']
def qO(T:Txt K mg):↥4 "ties_of_cuts" ["cuts"] mP:=by
 .exists T.bg,cD,a1,hr,%[l,cs,rfl,hl,as,ax,h8|k];let ac: ~~~(bP cs)= ~~~cs:=Z6 _;show%[_,%["JCG1SBCTW0nRK2RK3kETWF]rA3BnRK4RK5kEZsl1AjAF~tA2A4BAF~tA2A5BA2BBEH1",cD.nd|hr]|?_]
  change aW _ _ _ [!l,eH,eH,eH,eH,eH] H;show aj λD1 k1 _=>?_
  lk;show%[Xe _|λL hL=>k1 _ _ (aj λD2 k2 _=>aB λae hK=>?_)];lk;show%[%[_|Qb.of (ah.Qa hL _ _ hl)]|hK _ _ (f9 (λi y H'=>E4 λo2 o3 G I=>A3 (y=[!l,!L,o2,o3,G,I]) (ah H H') (∃ts:ZG,A5 (H' L∣.lst (ts\0)) (aI H' ts) (∀t∈ts,CH (cs.flatMap lyr) t.2) (~~~ts<=60*i) (∀k,k∈ts\2↔k∈dc (cs.take i))))
   %[eH,eH,eH,eH,ρ,ah.Qa hL,[],af,e9 _,λt ht=>(nomatch ht),Xe _|λk=>Od] (λi y H' _ ⟨_,_,_,_,_,q,_⟩=>Qb.of (q _ _ hl)) ?_ ?_)]
  .intro i x y H' J %[o2,o3,G,I,rfl,sm,ts,hm,O,U,ag|d];let hi:i< ~~~cs:=by rw[<-ac];show(Xl J).1
   obtain⟨q,hq,rfl⟩:∃q,cs[i]?∣q/\x=V.ref q.1:=by
    unfold bP at J;rw[Zl,Z4 hi]at J;show%[cs[i],Z4 hi|(Za J).symm]
   let g:=as q (Z8 hq);show%[_,SqT.of (sm _ _ g.1),ρ,_,_,ρ,_,_,ρ,ρ|?_];show aE λD3 k3 _=>?_
   change wC _ _ _ _ [!l,!L,fx (.str q.2.1),fx (.str (rM nl q.2.2)),G,I] H';show aB λae hK=>?_
   lk;let qm:=Z8 hq;show%[q.2.2,ρ,g.2.2,ax q qm|?_];intro l2 H2 ss s2 f2 h2 t2 few ak all2;let a0:=iU g.2.1;let al:l2≠L:=λe=>by rw[e,hm]at f2;cases f2
   let an: ~~~(ss\0)= ~~~ss:=Z6 _;show%[%[_|Qb.of h2]|hK _ _ (f9 (xs:=ss\0) (λj y B=>E2 λG I=>A5 (y=[!l,!L,fx (.str q.2.1),fx (.str (rM nl q.2.2)),G,I]) (ah H B) (B l2∣.lst (ss\0)) (aI B ss) (∃c:ZG,A5 (B L∣.lst (c\0)) (aI B c) (∀t∈c,CH (cs.flatMap lyr) t.2) (~~~c<=60*i+j) (c\2=ts\2 ++((ss.take j)\2).map (mM q.2.1))))
    %[_,_,ρ,sm.trans s2,h2,t2,ts,s2 _ _ hm,aG O λb z e=>s2 _ _ e,U,⋯|(Zx _).symm] (λj y B _ ⟨_,_,_,_,q,_,_⟩=>Qb.of q) ?_ ?_)]
   .intro j x y B J %[G,I,rfl,Y,ao,n,c,C,r,ab,u|m];let hj:j< ~~~ss:=an▸(Xl J).1;rw[Zl,Z4 hj]at J;obtain rfl:x=V.ref ss[j].1:=(Za J).symm;let M:=Yd hj;let%[a,b,ap,la|lb]:=ak _ M;let N:=(n _ M).2;rw[ap]at N;show%[_,SqT.of N,ρ,_,_,ρ,_,_,ρ,ρ|aE λD4 k4 _=>?_];lk;show%[tyL (Qb.of C),q.2.1,sgn a,ρ,⋯,(show 1<=100 by decide)|?_];show%[q.2.1,sgn b,ρ,⋯,(show 1<=100 by decide)|?_];show%[#[3]|λp hp=>?_];let sp:=ah.Qa (o:= .tup [V.str (lnS q.2.1 (sgn a)),V.str (lnS q.2.1 (sgn b)),V.str q.2.1]) hp;let gp:=own sp
    generalize Qa B p _=H4 at sp gp
    let aq:=sp _ _ C;let v:∀b z,H4 b&&&z->Qa H4 L (.lst (c\0 ++[V.ref p])) b&&&z:=λb z e=>by
     let:b≠L:=λe2=>by rw[e2,aq]at e;cases e
     rw[av this];show e
    show%[_,aq,by rw[Z6];show Ry (show ~~~c<=10000 by lia) (!1)|k4 _ _ %[_,_,ρ,ah.set (Y.trans sp) hL,(av al)▸sp _ _ ao,aG (aG n λb z e=>sp _ _ e) v,c++[(p,[lnS q.2.1 (sgn a),lnS q.2.1 (sgn b),q.2.1])],?_,?_,?_,?_|?_]]
    .rw[af,Zd];rfl
    .show aG (fW (aG r λb z e=>sp _ _ e) ∅ gp) v
    .intro t ht;rcases Xm ht with z|z
     .show ab t z
     .rw[Xn z];show%[%[_,_,_,ρ,Mi.mpr %[q,qm|ix la]|Mi.mpr %[q,qm|ix lb]]|KD (nC g.2.1 (z6 g.2.2 la)) (nC g.2.1 (z6 g.2.2 lb)) (xV g.2.1)]
    .rw[Z9,Yk];lia
    .rw[Zd,m,Ze,X9,Z4 hj,Zd,Zd];change _++(_++[_])=_++(_++[mM q.2.1 ss[j].2]);rw[ap];rfl
   .intro y B %[G,I,rfl,Y,ao,n,c,C,r,ab,u|m];rw[an]at u m;rw[Zn (Zi _)]at m;show k3 _ _ %[_,_,_,_,rfl,Y,c,C,r,ab,⋯|λk=>?_];rw[m,mO hq,Yt,Yt,d,Pi,Pi];show QB Od (UO λz=>TX λ_=>all2 z)
  .intro y H' %[o2,o3,G,I,rfl,sm,ts,hm,O,U,ag|d];show k2 _ _ ?_;lk;rw[ac]at ag d;rw[Zn (Zi _)]at d;show k L H' ts sm hL hm O U ⋯ d
def mR(T:Txt K mg):↥1 "ties_of_sayings" ["sayings"] mQ:=by
 .exists T.bh,c9,ak,hr,%[l,M,qs,rfl,hl,ab,n,al|k];let C: ~~~(qs\0)= ~~~qs:=Z6 _;show%[_,%["JCG1SBCT~FA0BnRK2RK3kEMLaO3DUEZsl1AjAO3DAO3DA~|~OU~O~r2~}BBNEH1"|c9.nd]|?_]
  change aW _ _ _ [!l,eH,eH,eH] H;show aj λD1 k1 _=>?_
  lk;show%[Xe _|λL N=>k1 _ _ (aj λD2 k2 _=>aB λae hK=>?_)];lk;show%[_,Qb.of (ah.Qa N _ _ hl)|hK _ _ (iM (λi O H'=>E2 λo2 o3=>A3 (O=[!l,!L,o2,o3]) (ah H H') (∃ts:ZG,A5 (H' L∣.lst (ts\0)) (aI H' ts) (∀t∈ts,CH M t.2) (~~~ts<=i) (ts\2=df qs i)))
   %[eH,eH,ρ,ah.Qa N,[],af,e9 _,λt ht=>(nomatch ht),Xe _|ρ] (λi O H' _ ⟨_,_,_,q,_⟩=>Qb.of (q _ _ hl)) ?_ ?_)]
  .intro i x TT O H' hx %[o2,o3,rfl,sm,ts,hm,r,g,u|d] hT;let hi:i< ~~~qs:=by rw[<-C];show(Xl hx).1
   obtain⟨q,U,rfl⟩:∃q,qs[i]?∣q/\x=V.ref q.1:=by
    rw[Zl,Z4 hi]at hx;show%[qs[i],Z4 hi|(Za hx).symm]
   let s0:=ah.Qa (o:= .tup [.int i,.ref q.1]) hT;let j:ah H (Qa H' TT (.tup [.int i,.ref q.1])):=sm.trans s0;let G:Qa H' TT (.tup [.int i,.ref q.1]) TT&&&[.int i,.ref q.1]:=af;let m:=s0 _ _ hm;let c:=aG r λb z e=>s0 _ _ e
   generalize Qa H' TT _=HT at j G m c
   let I:=ab q (Z8 U);show%[_,SqT.of G,ρ,_,_,ρ,_,_,ρ,ρ|?_];change kY _ _ _ _ [!l,!L,fx (.int i),fx (.ref q.1)] HT;show aE λD4 k4 _=>?_
   lk;let st:=SqT.of (K:=K) (j _ _ I.1);let ag: ~~~(n0 (toString (i:nX)))<=21:=by
    let e:=PySem.int_text_length_le10 (a:=(i:nX)) (k:=20) (!1) (by let:(i:nX).natAbs=i:=rfl;lia);rw[PySem.ofString_length];lia
   let e1:(Me++n0 "#").length=1:=!0
   let ea:∀a b:iv,~~~(a++b)= ~~~a+ ~~~b:=λa b=>Rn
   let add:∀a b:iv,a∈M->b∈M->iF i q.2∣[a,b,we i]->∀p,HT p=eH->∃x,Qa HT p (.tup [.str a,.str b,V.str (Me++n0 "#"++n0 (toString (i:nX)))]) L<*x/\ ~~~x<ku/\D4.nx [!l,!L,fx (.int i),fx (.ref q.1)] (Qa (Qa HT p (.tup [.str a,.str b,V.str (Me++n0 "#"++n0 (toString (i:nX)))])) L (.lst (x++[V.ref p]))):=by
    intro a b Y mb ac p hp;let tn:=fJ U;rw[ac,<-d]at tn;unfold we at tn
    generalize hz:Me++n0 "#"++n0 (toString (i:nX))=z at tn ⊢
    let sp:=ah.Qa (o:= .tup [V.str a,V.str b,V.str z]) hp;let gp:=own sp
    generalize Qa HT p _=H4 at sp gp
    let J:=sp _ _ m;let v:∀b z,H4 b&&&z->Qa H4 L (.lst (ts\0 ++[V.ref p])) b&&&z:=λb z e=>by
     let:b≠L:=λe2=>by rw[e2,J]at e;cases e
     rw[av this];show e
    show%[_,J,by rw[Z6];show aF ⋯|k4 _ _ %[_,_,ρ,ah.set (j.trans sp) N,ts++[(p,[a,b,z])],?_,?_,?_,?_|?_]]
    .rw[af,Zd];rfl
    .show aG (fW (aG c λb z e=>sp _ _ e) ∅ gp) v
    .intro t ht;rcases Xm ht with z|z
     .show g t z
     .rw[Xn z];show%[%[_,_,_,ρ,Y|mb]|KD (n a Y) (n b mb) (hz▸Hv i ⋯)]
    .rw[Z9,Yk];lia
    .rw[tn,Zd];rfl
   rcases I.2 with⟨wd,a,b,e,hw,Y,mb,_⟩|⟨wd,a,y,e,hw,_⟩
   .rw[e]at st;show%[_,st,_,ρ,ρ|bz (λB=>?_) λB=>?_]
    .show%[tyL (Qb.of m),_,st,_,ρ,_,st,_,ρ,cU ⋯,?_,cU (by rw[ea];lia),cU (by rw[ea];lia),#[3]|add a b Y mb (e▸jg (V.str.inj (Zo B)))];let:(i:nX).natAbs=i:=rfl
     lia
    .show k4 _ _ %[_,_,rfl,j,ts,m,c,g,⋯|?_];rw[fJ U,e,show iF i [V.str wd,V.str a,V.str b]=eH from hX λz=>B (Zf (by rw[z])),d];show(Zx _).symm
   .rw[e]at st;show%[_,st,_,ρ,ρ|?_];rw[hX (by rcases hw with rfl|rfl<;> decide)];show k4 _ _ %[_,_,rfl,j,ts,m,c,g,⋯|?_];rw[fJ U,e,d];show(Zx _).symm
  .intro O H' %[o2,o3,rfl,sm,ts,hm,r,g,u|d];show k2 _ _ ?_;lk;rw[C]at u d;show k L H' ts sm N hm r g u d
structure GrF (mg:ZC) (H:Hp) (g c2 c3 c4:ij) (qs:ZN) (ls:ZB) (ts:ZG):Prop where
 at_:∃dx c1,H g∣.ins (aP mg "Ground") dx [("kept_cuts",.ref c1),("kept_sayings",.ref c2),("kept_layers",.ref c3),("kept_ties",.ref c4)]
 a2:H c2∣.lst (qs\0)
 a3:H c3<*ls\3
 a4:H c4∣.lst (ts\0)
 sa:cV H ls qs
 tu:aI H ts
def GrF.up(h:GrF mg H g c2 c3 a qs c ts)(s:ah H H'):GrF mg H' g c2 c3 a qs c ts:=by
 let%[d,c1|f]:=h.at_;show%[%[d,c1|s _ _ f],s _ _ h.a2,s _ _ h.a3,s _ _ h.a4,h.sa.up s|aG h.tu λb z e=>s _ _ e]
inductive uI (mg:ZC)
 | mk (g c2 c3 c4 qs ls ts):vs=[.ref g]->GrF mg H g c2 c3 c4 qs ls ts->(∀l,H l=eH->Q (.ref l) (Qa H l (.lst (ls\3))))->uI mg vs H Q E0
inductive qP (mg:ZC)
 | mk (g c2 c3 c4 qs ls ts):vs=[.ref g]->GrF mg H g c2 c3 c4 qs ls ts->(∀l,H l=eH->Q (.ref l) (Qa H l (.lst (qs\0))))->qP mg vs H Q E0
inductive AX (mg:ZC)
 | mk (g c2 c3 c4 qs ls ts):vs=[.ref g]->GrF mg H g c2 c3 c4 qs ls ts->(∀l,H l=eH->Q (.ref l) (Qa H l (.lst (ts\0))))->AX mg vs H Q E0
inductive wg (mg:ZC)
 | mk (g l m dx cs qs):vs=[.ref g,.ref l,.ref m]->H g∣.ins (aP mg "Ground") dx []->H l<*bP cs->H m∣.lst (qs\0)->bZ H cs->(cs.map λp=>p.2.1).Nodup->1<= ~~~cs-> ~~~cs<=3->(∀p∈cs,rY p.2.2)-> ~~~(cs.flatMap lyr)<=63->(∀ls,ls.Perm (cs.flatMap lyr)->cV H ls qs)-> ~~~qs<=36->(∀H' ls ts c2 c3 c4,(∀b o,b≠g->H b∣o->H' b∣o)->GrF mg H' g c2 c3 c4 qs ls ts->(∀t∈ts,CH ls t.2)->(∀z∈ls,Sml z)->(∀k,k∈ts\2↔k∈dc cs\/k∈df qs qs.length)-> ~~~ts<=250->ls.Perm (cs.flatMap lyr)->ls.Pairwise (λa b=>aS b a=fS)->Q .non H')->wg mg vs H Q E0
def xX(T:Txt K mg):G3 P w K mg base 6 "Ground" ["self","cuts","sayings"] (wg mg):=by
 .exists T.i_Ground,gK,a3,hr,%[g,l,m,c,cs,qs,rfl,L,hl,hm,d,al,h1,h8,an,ao,v,a6|k];let h3:=h8;let h8: ~~~cs<=8:=by lia
  show%[_,%["JCZF]sA1BCG3F]tA1BCZF]uA2A3BC~a0+_A1BC~a0+_A2BC~a03E~a0(]vAI~QF]wA1BF]xA2BB",gK.nd|hr]|?_]
  change aW _ _ _ [!g,!l,!m,eH] H;show aj λD1 k1 _=>?_
  lk;show%[l,cs,ρ,hl,d,al,h1,⋯|λH1 s1=>k1 _ _ (aj λD2 k2 _=>?_)];lk;show%[l,cs,ρ,s1 _ _ hl,d.up s1,h8,ao|λr H2 y s2 f2 h2 M q2=>k2 _ _ (aj λD3 k3 _=>?_)];let N:=s1.trans s2;lk;show%[m,r,y,qs,ρ,N _ _ hm,h2,(v y M).up N,⋯|λH3 s3=>k3 _ _ (aj λD4 k4 _=>?_)];let j:=N.trans s3;let OC:=T.o_Ground.cls;let ac:∀z∈y,Sml z:=λz hz=>by
   let%[p,n|hz]:=Mi.mp (M.mem_iff.mp hz);show Hu (d p n).2.1 (d p n).2.2 z hz
  let gl:l≠g:=λe=>by rw[e,L]at hl;cases hl
  let gm:m≠g:=λe=>by rw[e,L]at hm;cases hm
  let gr:r≠g:=λe=>by rw[e,s1 _ _ L]at f2;cases f2
  lk;show%[_,.inl (Qb.of (j _ _ hl))|λc1 B=>%[_,_,_,ah.Qa B _ _ (j _ _ L),OC,T.n_Ground_kept_cuts,(by change 0<1000;decide)|k4 _ _ (aj λD5 k5 _=>?_)]];let ap:c1≠g:=λe=>by rw[e,j _ _ L]at B;cases B
  let aq:=ah.Qa (o:= .lst (bP cs)) B;let b4:∀b o,b≠g->H3 b∣o->Qa (Qa H3 c1 (.lst (bP cs))) g (.ins (aP mg "Ground") c (eN (!"kept_cuts") (V.ref c1) [])) b∣o:=λb o a e=>by rw[av a];show aq _ _ e
  let g4:Qa (Qa H3 c1 (.lst (bP cs))) g (.ins (aP mg "Ground") c (eN (!"kept_cuts") (V.ref c1) [])) g∣.ins (aP mg "Ground") c [("kept_cuts",V.ref c1)]:=af;let a4:Qa (Qa H3 c1 (.lst (bP cs))) g (.ins (aP mg "Ground") c (eN (!"kept_cuts") (V.ref c1) [])) c1<*bP cs:=by rw[av ap];show af
  generalize Qa (Qa H3 c1 (.lst (bP cs))) g _=H4 at b4 g4 a4
  let n4:∀b,H4 b=eH->b≠g:=λb a e=>by rw[e,g4]at a;cases a
  lk;show%[_,.inl (Qb.of (b4 _ _ gm (j _ _ hm)))|λc2 O=>%[_,_,_,ah.Qa O _ _ g4,OC,T.n_Ground_kept_sayings,(by change 1<1000;decide)|k5 _ _ (aj λD6 k6 _=>?_)]];let U:=n4 c2 O;let sc2:=ah.Qa (o:= .lst (qs\0)) O;let b5:∀b o,b≠g->H4 b∣o->Qa (Qa H4 c2 (.lst (qs\0))) g (.ins (aP mg "Ground") c (eN (!"kept_sayings") (V.ref c2) [("kept_cuts",V.ref c1)])) b∣o:=λb o a e=>(av a)▸sc2 _ _ e
  let g5:Qa (Qa H4 c2 (.lst (qs\0))) g (.ins (aP mg "Ground") c (eN (!"kept_sayings") (V.ref c2) [("kept_cuts",V.ref c1)])) g∣.ins (aP mg "Ground") c [("kept_cuts",V.ref c1),("kept_sayings",V.ref c2)]:=by rw[af];rfl
  let a5:Qa (Qa H4 c2 (.lst (qs\0))) g (.ins (aP mg "Ground") c (eN (!"kept_sayings") (V.ref c2) [("kept_cuts",V.ref c1)])) c2∣.lst (qs\0):=(av U)▸af
  generalize Qa (Qa H4 c2 (.lst (qs\0))) g _=H5 at b5 g5 a5
  lk;show%[_,_,_,g5,OC,T.n_Ground_kept_layers,(by change 2<1000;decide)|k6 _ _ (aE λD7 k7 _=>?_)];let b6:∀b o,b≠g->H5 b∣o->Qa H5 g (.ins (aP mg "Ground") c (eN (!"kept_layers") (V.ref r) [("kept_cuts",V.ref c1),("kept_sayings",V.ref c2)])) b∣o:=λb o a e=>(av a)▸e
  let g6:Qa H5 g (.ins (aP mg "Ground") c (eN (!"kept_layers") (V.ref r) [("kept_cuts",V.ref c1),("kept_sayings",V.ref c2)])) g∣.ins (aP mg "Ground") c [("kept_cuts",V.ref c1),("kept_sayings",V.ref c2),("kept_layers",V.ref r)]:=by rw[af];rfl
  generalize Qa H5 g _=H6 at b6 g6
  let ae:∀b o,b≠g->H3 b∣o->H6 b∣o:=λb o a e=>b6 b o a (b5 b o a (b4 b o a e))
  let u:∀b o,b≠g->H b∣o->H6 b∣o:=λb o a e=>ae b o a (j _ _ e)
  let ag:bZ H6 cs:=λp n=>⟨u _ _ (λe=>by let:=(d p n).1;rw[e,L]at this;cases this) (d p n).1,(d p n).2⟩
  let i:cV H6 y qs:=λq Y=>⟨u _ _ (λe=>by let:=(v y M q Y).1;rw[e,L]at this;cases this) (v y M q Y).1,(v y M q Y).2⟩
  lk;show%[l,cs,ρ,u _ _ gl hl,ag,an,h3|λt1 H7 ts s7 f7 h7 as ab bb ax=>?_];lk;show%[m,y,qs,ρ,s7 _ _ (u _ _ gm hm),i.up s7,ac,⋯|λt2 H8 us s8 f8 a0 a1 ak bc a2=>?_];lk;let J:aI H8 (ts++us):=qK (aG as λb z e=>s8 _ _ e) a1;let g8:=s8 _ _ (s7 _ _ g6);show%[_,s8 _ _ h7,_,a0,by rw[Z6,Z6,PySem.sizeLine_eq];lia|λp n=>%[ts++us,Zd▸Qb.of af,aG J λb z e=>ah.Qa n _ _ e,3,?_,!1,by rw[Z9];lia|λc4 ss C G=>%[_,_,_,ah.Qa C _ _ (ah.Qa n _ _ g8),OC,T.n_Ground_kept_ties,(by change 3<1000;decide)|k7 _ _ ?_]]]
  .intro t ht;rcases Xm ht with z|z
   .show(ab t z).1.three
   .show(ak t z).1.three
  .let b9:∀b o,b≠g->H8 b∣o->Qa (Qa (Qa H8 p (.lst (ts\0 ++us\0))) c4 (.lst (ss\0))) g (.ins (aP mg "Ground") c (eN (!"kept_ties") (V.ref c4) [("kept_cuts",V.ref c1),("kept_sayings",V.ref c2),("kept_layers",V.ref r)])) b∣o:=λb o a e=>(av a)▸((ah.Qa (o:= .lst (ts\0 ++us\0)) n).trans (ah.Qa (o:= .lst (ss\0)) C)) _ _ e
   let I:∀b o,b≠g->H6 b∣o->_:=λb o a e=>b9 b o a (s8 _ _ (s7 _ _ e))
   show k _ y ss c2 r c4 (λb o a e=>I b o a (u b o a e)) %[%[c,c1|?_],?_,?_,?_,?_|?_] (λt ht=>?_) ac (λk=>by rw[(G.map _).mem_iff,Zd,Yt,ax,a2]) (by rw[G.length_eq,Z9];lia) M q2
   .rw[af];rfl
   .show I _ _ U (b6 _ _ U a5)
   .show I _ _ gr (ae _ _ gr (s3 _ _ h2))
   .rw[av (λe=>by rw[e,ah.Qa n _ _ g8]at C;cases C)];show af
   .show λq Y=>⟨I _ _ (λe=>by let:=(i q Y).1;rw[e,g6]at this;cases this) (i q Y).1,(i q Y).2⟩
   .intro t ht;let:=J t (G.mem_iff.mp ht);show%[this.1|b9 _ _ (λe=>by let q:=this.2;rw[e,g8]at q;cases q) this.2]
   .rcases Xm (G.mem_iff.mp ht)with z|z
    .show%[(ab t z).1.mono λx=>M.mem_iff.mpr|(ab t z).2]
    .show ak t z
def fc(T:Txt K mg):Cj P w K mg base 1 "Ground" "layers" ["self"] (uI mg):=by
 .exists T.m_Ground_layers,ny,b,j,%[g,c2,c3,c,qs,d,ts,rfl,a|k];let%[m,c1|e]:=a.at_;show%[_,%["JEH+_A~u0B"|0]|?_];change iI _ _ [fx _] H;lk;show%[_,_,_,e,T.o_Ground.cls,T.n_Ground_kept_layers,_,ρ,_,.inl (Qb.of a.a3)|λl i=>k l i]
def iV(T:Txt K mg):Cj P w K mg base 1 "Ground" "sayings" ["self"] (qP mg):=by
 .exists T.m_Ground_sayings,mD,b,j,%[g,c2,c3,c,qs,d,ts,rfl,a|k];let%[m,c1|e]:=a.at_;show%[_,%["JEH+_A~u0B"|0]|?_];change iI _ _ [fx _] H;lk;show%[_,_,_,e,T.o_Ground.cls,T.n_Ground_kept_sayings,_,ρ,_,.inl (Qb.of a.a2)|λl i=>k l i]
def sk(T:Txt K mg):Cj P w K mg base 1 "Ground" "ties" ["self"] (AX mg):=by
 .exists T.m_Ground_ties,qA,b,j,%[g,c2,c3,c,qs,d,ts,rfl,a|k];let%[m,c1|e]:=a.at_;show%[_,%["JEH+_A~u0B"|0]|?_];change iI _ _ [fx _] H;lk;show%[_,_,_,e,T.o_Ground.cls,T.n_Ground_kept_ties,_,ρ,_,.inl (Qb.of a.a4)|λl i=>k l i]
def emB{p q:nX}(e:97+(p%26).toNat=97+(q%26).toNat):(p-q)%26=0:=nX.emod_eq_emod_iff_emod_sub_eq_zero.mp ((Pp (NA p (show(26:nX)≠0 by decide))).symm.trans ((vb nX.ofNat (Q7 e)).trans (Pp (NA q (show(26:nX)≠0 by decide)))))
def AY{r a w:nX}(d:0<=r)(f:r<16)(b:0<=a)(c:a<16)(e:ltr r w=ltr a w):r=a:=by
 let all:∀m∈[(1:nX),25,7,5],∀x y:Fin 16,((x.1:nX)*m-y.1*m)%26=0->x=y:=!0
 let mm:mlt w∈[(1:nX),25,7,5]:=by
  unfold mlt
  split
  .show .head _
  .split
   .show .tail _ (.head _)
   .split
    .show .tail _ (.tail _ (.head _))
    .show .tail _ (.tail _ (.tail _ (.head _)))
 let%[x|rfl]:=Xh d;let%[y|rfl]:=Xh b;let k:=emB e;rw[nX.add_sub_add_right]at k;show vb (λk:Fin 16=>(k.1:nX)) (all _ mm %[x|WX.mp f] %[y|WX.mp c] k)
def uJ(n:iv):Me++n=n:=lP (by change(([].toArray) ++n.cps).toList=_;simp)
def jo(n z:iv):n++n0 "."++z=lnS n z:=by unfold lnS;rw[uJ]
def wj{n:iv}{c a:hH}(e:lnS n (sgn c)=lnS n (sgn a)):c=a:=by
 let:=vb (λz:iv=>z.cps.toList) e;let:((Me++n++n0 ".").cps++ ([c].toArray)).toList=((Me++n++n0 ".").cps++ ([a].toArray)).toList:=this;simpa using this
abbrev z7(rows:ZB)(c:hH):pp:=rows.any λz=>decide (c∈z.cps.toList)
abbrev lG(nm:iv)(w:nX)(rows:ZB)(n:hH):dV (iv×nX):=((o0 n).filter λr:hH=>z7 rows (ltr r w)).map λr:hH=>(lnS nm (sgn (ltr r w)),(r:nX))
abbrev rkD(rs:dV (iv×nX)):dV (Key×V):=rs.map λp=>(hY p.1,V.int p.2)
def qQ(p:iv->pp):∀rows:ZB,decide ((rows.filter p)\3≠[])=rows.any p
 |[]=>rfl
 | z::r=>by
   let:=qQ p r;cases c:p z
   .rw[Y3,c,Zw,c];show this
   .rw[Y3,c,Zw,c];rfl
def AZ(nm:iv)(w:nX)(rows:ZB)(n:hH):lG nm w rows (n+1)=lG nm w rows n++if z7 rows (ltr n w)=fI then [(lnS nm (sgn (ltr n w)),(n:nX))]else []:=by
 unfold lG;rw[Pa,Y2,Zd]
 congr 1
 by_cases c:z7 rows (ltr n w)=fI
 .rw[jg c,Y3,jg c];rfl
 .rw[hX c,Y3,hX c];rfl
def wk{z:iv}:∀{rs:dV (iv×nX)},z∉rs\1->cf (rkD rs) (hY z)=eH
 |[],_=>rfl
 | p::rs,h=>by
   rw[Yq,Yw,OW]at h;rw[show rkD (p::rs)=(hY p.1,V.int p.2)::rkD rs from rfl,dC (λq=>h.1 (Nu q).symm)];show wk h.2
def KF{nm:iv}{w:nX}{rows:ZB}{n:hH}(h:n<16):lnS nm (sgn (ltr n w))∉(lG nm w rows n)\1:=λa=>by
 let%[p,b|e]:=Xo a;let%[r,c|rfl]:=Xo b;let:=vu.mp (n7.mp c).1;let:=AY ⋯ ⋯ ⋯ ⋯ (wj e)
 lia
inductive xY
 | mk (nm:iv) (w:nX) (l:ij) (rows:ZB):vs=[.str nm,.int w,.ref l]->0<=w->w<=110-> ~~~nm<=8->H l<*rows\3-> ~~~rows<=100->(∀d H',ah H H'->H d=eH->H' d∣.dK (rkD (lG nm w rows 16))->Q (.ref d) H')->xY vs H Q E0
def xZ(T:Txt K mg):↥2 "_law_ranks" ["_law_name","_law_way","_law_rows"] xY:=by
 .exists T.bz,fH,ab,J,%[nm,w,l,rows,rfl,w0,w1,nl,hl,rl|kk];show%[_,%["JCG3zCT&ADBK4C.5qrF~hA4A1BEML~Hog?1W2d0?2wL]yQ100SBEu43I%I%0UQ5NEH3",fH.nd,↑(["_law_row","_law_letter_here"],[(1,5)]),↑["_law_row","_law_letter_here"]|J]|?_]
  change aW _ _ _ [-nm,fx (.int w),!l,eH,eH,eH] H;show aj λD1 k1 _=>?_
  lk;show λd L=>k1 _ _ (aj λD2 k2 _=>aB λm M=>?_)
  lk;show%[!1,!1|M _ _ (cR (λi g H'=>E2 λN v=>A3 (g=[-nm,fx (.int w),!l,!d,N,v]) (ah H H') (H' d∣.dK (rkD (lG nm w rows i)))) %[_,_,ρ,ah.Qa L|af] ?_ ?_)]
  .intro i g y hi %[N,v,rfl,B|j];change aW _ _ _ [-nm,fx (.int w),!l,!d,fx (.int (0+i)),v] y;rw[Ps];show aj λD3 k3 _=>?_
   lk;show%[i,w,ρ,⋯,⋯,w0,w1|λH2 U=>k3 _ _ (aE λD4 Y _=>?_)];lk;show aN λm M=>?_
   lk;let n:=U _ _ (B _ _ hl);show%[%[_|Qb.of n]|M _ _ λF hF=>?_];show di (λq ts g C=>A4 (∃o,g=[o,fx (.str (sgn (ltr i w)))]) (ah H2 C) (C F<*ts) (ts=((rows.take q).filter λz=>decide (ltr i w∈z.cps.toList))\3))
    %[%[eH|rfl],ah.Qa hF,af|rfl] (λ_ _ _ H4 ⟨_,G,_,_⟩=>G _ _ n) ?_ ?_
   .intro q ts g H4 O %[%[o|rfl],I,a|r];lk;rw[show(!(KE rows[q] (sgn (ltr i w)) 0 rows[q].length 1).isEmpty)=decide (ltr i w∈rows[q].cps.toList)from vh _ _];let tk:∀b,decide (ltr i w∈rows[q].cps.toList)=b->((rows.take (q+1)).filter λz=>decide (ltr i w∈z.cps.toList))\3=ts++if b=fI then [V.str rows[q]]else []:=λb hb=>by
     rw[r,X9,Z4 O,Y2,Zd]
     congr 1
     change RG V.str (N1 _ [rows[q]])=_;rw[Y3,hb];cases b<;> rfl
    show .inl (bz (λc=>CK.mk O a (by rw[r,Z6];show aF (md (Yi _ _) (by rw[Yl];lia))) %[%[_|rfl],ah.set I hF,af|?_]) λc=>CN.mk O %[%[_|rfl],I,a|?_])
    .rw[tk _ c];rfl
    .rw[tk fS ↑c];simp
   .intro ts g C %[_,I,a|r];rw[Xc]at r;let e:decide (ts≠[])=z7 rows (ltr i w):=by
     rw[r];show qQ _ rows
    show%[Xe _|λp hp=>%[ts,ah.Qa hp _ _ a,af|?_]];rw[e,jo];let G:ah y (Qa C p (.lst [])):=(U.trans I).trans (ah.Qa hp);let u:=G _ _ j;let sH:=B.trans G;show bz (λc=>?_) λc=>?_
    .let:=AZ nm w rows i;rw[jg c]at this;show%[by rw[PySem.sizeLine_eq];change ~~~nm+1<=_;lia,by rw[PySem.sizeLine_eq,PM];change ~~~nm+1+1<=_;lia,_,gX.k (k:=hY (lnS nm (sgn (ltr i w)))) u (by unfold rkD lG;rw[Z6,Z6];show aF (md (Yi _ _) (by rw[Yj];lia)))|Y _ _ %[_,_,ρ,ah.set sH L|?_]];rw[af,ei _ (wk (KF hi)),this];unfold rkD;rw[Zd];rfl
    .show Y _ _ %[_,_,rfl,sH|?_];rw[u,AZ,hX c,Zx]
  .intro g y %[N,v,rfl,B|j];show k2 _ _ ?_;lk;show kk d y B L j
abbrev sr(c:nX):iv:=if c%3=0 then n0 "pit" else if c%3=1 then n0 "a" else n0 "zone"
abbrev nmN(c1 c2:nX)(k:hH):iv:=sr c1++sgn (97+((c2+9*k)%26).toNat)
def KG{c:nX}:gj (97+(c%26).toNat)=fI:=by
 let all:∀i:Fin 26,gj (97+i.1)=fI:=!0
 show all %[(c%26).toNat|⋯]
def Fw(c1 c2:nX)(k:hH):gM (nmN c1 c2 k)=fI:=by
 let p:∀z:iv,~~~z<=7->z.cps.toList.all gj=fI->gM (z++sgn (97+((c2+9*k)%26).toNat))=fI:=λz c a=>by
  let b: ~~~(z++sgn (97+((c2+9*k)%26).toNat))= ~~~z+1:=PM _ _;unfold gM;rw[b,show(z++sgn (97+((c2+9*k)%26).toNat)).cps.toList=z.cps.toList++[97+((c2+9*k)%26).toNat] by change(z.cps++ ([_].toArray)).toList=_;simp,dV.all_append,a];simp only[Zv,Mg];show%[%[⋯|⋯],Mx|by rw[Vx,KG];rfl]
 unfold nmN sr
 split
 .show p _ (!0) (!0)
 .split
  .show p _ (!0) (!0)
  .show p _ (!0) (!0)
def A2{c1 c2:nX}{k a:hH}(h:k<3)(h':a<3)(e:nmN c1 c2 k=nmN c1 c2 a):k=a:=by
 let e:((sr c1).cps++ ([97+((c2+9*k)%26).toNat].toArray)).toList=((sr c1).cps++ ([97+((c2+9*a)%26).toNat].toArray)).toList:=vb (λz:iv=>z.cps.toList) e;let:97+((c2+9*k)%26).toNat=97+((c2+9*a)%26).toNat:=↑e
 let all:∀x y:Fin 3,(9*(x.1:nX) -9*y.1)%26=0->x=y:=!0
 let e:=emB this;rw[nX.add_sub_add_left]at e;show vb (λk:Fin 3=>k.1) (all %[k|h] %[a|h'] e)
def qR{n a:iv}{c b:hH}(e:lnS n (sgn c)=lnS a (sgn b)):n=a:=by
 rw[<-jo,<-jo]at e;let e:(n.cps++ ([46].toArray) ++ ([c].toArray)).toList=(a.cps++ ([46].toArray) ++ ([b].toArray)).toList:=vb (λz:iv=>z.cps.toList) e;let e:n.cps.toList++[46,c]=a.cps.toList++[46,b]:=↑e
 show lP (dV.append_inj_left' e rfl)
structure x4 (cs:ZH) (rs:dV (iv×nX)):Prop where
 dr:∀p∈cs,∃w cols hi,iu w cols hi/\p.2.2=bO cols hi
 rk:∀q∈rs,q.1∈cs.flatMap lyr/\0<=q.2/\q.2<16
 nd:(rs\1).Nodup
 len: ~~~rs<=16* ~~~cs
 ne:cs≠[]->rs≠[]
def x5:∀{more rs:dV (iv×nX)},((rs++more)\1).Nodup->i4 (rkD rs) (rkD more)=rkD (rs++more)
 |[],rs,_=>by rw[Zx];rfl
 | p::more,rs,h=>by
   let e:rs++p::more=(rs++[p]) ++more:=by simp
   let a:p.1∉rs\1:=by
    rw[Zd,X1]at h;show λq=>h.2.2 _ q p.1 Zm rfl
   rw[e]at h ⊢;rw[<-x5 h];change i4 (dz (rkD rs) (hY p.1) (V.int p.2)) (rkD more)=_;rw[ei _ (wk a)];unfold rkD;rw[Zd];rfl
def Fx{p:ij×iv×ZB}{z:iv}(h:z∈lyr p):∃c,z=lnS p.2.1 (sgn c):=by
 let%[y,a|rfl]:=Xo h;let%[c,_|rfl]:=Xo (a9.mp a);show%[c|ρ]
def qS{nm:iv}{w:nX}{rows:ZB}{n:hH}{q:iv×nX}:q∈lG nm w rows n↔∃r:hH,r<n/\z7 rows (ltr r w)=fI/\q=(lnS nm (sgn (ltr r w)),(r:nX)):=by
 unfold lG;rw[Pi];simp only[n7,vu];show%[λ⟨r,⟨a,b⟩,e⟩=>%[r,a,b|e.symm]|λ⟨r,a,b,e⟩=>%[r,%[a|b]|e.symm]]
def x6{rows:ZB}{c:hH}(h:c≠46):z7 rows c=fI↔Let rows c:=by
 unfold z7 Let;rw[RW];show%[λ⟨z,a,b⟩=>%[h,z,a|Zo b]|λ⟨_,z,a,b⟩=>%[z,a|Zf b]]
def x4.snoc{cs:ZH}{rs:dV (iv×nX)}(h:x4 cs rs){a:ij}{nm:iv}{w:nX}{b:dV (dV hH)}{hi:hH}(d:iu w b hi)(fr:nm∉cs.map (·.2.1)):x4 (cs++[(a,nm,bO b hi)]) (rs++lG nm w (bO b hi) 16):=by
 show%[λp g=>?_,λq f=>?_,?_,?_|λ_=>?_]
 .rcases Xm g with g|g
  .show h.dr p g
  .rw[Xn g];show%[w,b,hi,d|ρ]
 .rw[O0,Yt];rcases Xm f with f|f
  .show%[.inl (h.rk q f).1|(h.rk q f).2]
  .let%[r,m,o|rfl]:=qS.mp f;show%[.inr (Mi.mpr %[_,dV.mem_singleton_self _|ix (p:=(a,nm,bO b hi)) ((x6 (lD _ _)).mp o)]),by change(0:nX)<=(r:nX);lia|by change(r:nX)<16;lia]
 .rw[Zd,X1];show%[h.nd,?_|λx i y j e=>?_]
  .unfold lG;rw[Ys,X2,OV];show Xg (λ{x y} i j n e=>n ?_) (X2.mp (Rq.filter _));let s:=vu.mp (n7.mp i).1;let B:=vu.mp (n7.mp j).1;let:=AY ⋯ ⋯ ⋯ ⋯ (wj e)
   lia
  .let%[p,g|rfl]:=Xo i;let%[q,f|rfl]:=Xo j;let%[c,u|v]:=Mi.mp (h.rk p g).1;let%[l|z]:=Fx v;let%[r,_,_|rfl]:=qS.mp f;show fr (Xp %[c,u|qR (z.symm.trans e)])
 .rw[Z9,Z9,Yk];let s:=h.len;let: ~~~(lG nm w (bO b hi) 16)<=16:=by
   unfold lG;rw[Z6];show md (Yi _ _) (by rw[Yj];lia)
  lia
 .let%[r,A,m|l]:=d.ex;let%[r|rfl]:=Xh A;intro e;let:(lnS nm (sgn (ltr r w)),(r:nX))∈rs++lG nm w (bO b hi) 16:=mem_append.mpr (.inr (qS.mpr %[r,⋯,(x6 (lD _ _)).mpr l|rfl]));rw[e]at this;show nomatch this
inductive Ba (K:ZA)
 | mk (a:ij) (ns:ZL):vs=[.ref a]->Qb K H a (ns\4)->(∀(t l1 l2:ij) H' (cs:ZH) (rs:dV (iv×nX)),ah H H'->H' t<*[.ref l1,.ref l2]->H l1=eH->H' l1<*bP cs->H' l2∣.dK (rkD rs)->1<= ~~~cs-> ~~~cs<=3->bZ H' cs->(cs.map (·.2.1)).Nodup->x4 cs rs->Q (.ref t) H')->Ba K vs H Q E0
def z8(T:Txt K mg):↥3 "_law_cuts" ["_law_script"] (Ba K):=by
 .exists T.bA,dF,a4,hr,%[a,ns,rfl,hs|kk];show%[_,%["JCG1F~RA0ADADADBCG2SBCG3zCT&AIeDIXP1DDBK4CG5I%PSAUAUAUBIXP1DD~DUIXIeP1DI!D4DCG6F]zAF~RA0AIeD4ADADBAP1IeD4BCZsl2AjA5A~X~YUA6BBBEZ~[~03AF]!A5AP1IeD4A6BBEHSA2A3B",dF.nd|hr]|?_]
  change aW _ _ _ [!a,eH,eH,eH,eH,eH,eH] H;show aj λD1 k1 _=>?_
  lk;show%[a,ns,1,26,6,ρ,hs,!1,!1,!1,!1,!1,!1|λhd H1 xs s1 _ J hx hb=>k1 _ _ (aj λD2 k2 _=>?_)];let get:∀i:nX,0<=i->i<6->∃c,atI (xs\4) i∣V.int c/\0<=c/\c<26:=λi h0 h1=>by
   let%[c,e|hm]:=mE xs h0 (by rw[hx];show h1);show%[c,e|hb c hm]
  let%[c0,g0,l0|u0]:=get 0 (!1) (!1);let%[c1,g1,l1|u1]:=get 1 (!1) (!1);let%[c2,g2,l2|u2]:=get 2 (!1) (!1);lk;show%[Xe _|λC hC=>k2 _ _ (aj λD3 k3 _=>?_)];let sC:=s1.trans (ah.Qa (o:= .lst []) hC);lk;show λD hD=>k3 _ _ (aj λD4 k4 _=>aB λa3 hK=>?_)
  let sD:=ah.Qa (o:= .dK []) hD;let Y:C≠D:=λe=>by rw[e,af]at hD;cases hD
  let fC:=s1.free hC;let ak:hd≠C:=λe=>by rw[e,hC]at J;cases J
  let fD:=sC.free hD;let ab:=sD _ _ (ah.Qa (o:= .lst []) hC _ _ J);lk;obtain⟨n,en,n1,n3⟩:∃n:hH,1+c0%3=n/\1<=n/\n<=3:=%[(1+c0%3).toNat,(by lia -verbose),(by lia -verbose)|(by lia -verbose)]
  show%[_,Qb.of ab,_,g0,!1|?_];rw[en];show%[(by lia -verbose),(by lia -verbose)|hK _ _ (cR (λi σ H'=>E5 λ(o4 o5 o6:kf V) (cs:ZH) (rs:dV (iv×nX))=>A8 (σ=[!a,!hd,!C,!D,o4,o5,o6]) (ah H H') (H' hd<*xs\4) (H' C<*bP cs) (H' D∣.dK (rkD rs)) (bZ H' cs) (x4 cs rs) (cs.map (·.2.1)=(o0 i).map (nmN c1 c2)))
   %[_,_,_,[],[],ρ,sC.trans sD,ab,sD _ _ af,af,(λ_ h=>nomatch h),%[(λ_ h=>nomatch h),(λ_ h=>nomatch h),X3,Xe _|λh=>(h rfl).elim]|ρ] ?_ ?_)]
  .intro i σ H' hi %[o4,o5,o6,cs,rs,rfl,sm,j,u,v,l,ok|m];change aW _ _ _ [!a,!hd,!C,!D,fx (.int (0+i)),o5,o6] H';rw[Ps];let i3:i<3:=by lia -verbose
   let%[cw,gw,lw|uw]:=get (3+i) (by lia -verbose) (by lia -verbose);show aj λD5 k5 _=>?_
   lk;show%[#[3]|λp hp=>?_];let sp:=ah.Qa (o:= .lst [V.str (!"pit"),V.str (!"a"),V.str (!"zone")]) hp;show%[_,Qb.of (sp _ _ j),_,g1,!1,_,Qb.of af,.str (sr c1),?_,_,Qb.of (sp _ _ j),_,g2,.inl %[!1|!1],!1,#[26],_,Fq (by lia -verbose) (by lia -verbose),?_|k5 _ _ (aj λD6 k6 _=>?_)]
   .unfold sr;rcases(show c1%3=0\/c1%3=1\/c1%3=2 by lia -verbose)with e|e|e<;> rw[e]<;> rfl
   .let: ~~~(sr c1)<=4:=by
     unfold sr
     split
     .decide +kernel
     .split<;> decide +kernel
    rw[PySem.sizeLine_eq];change(sr c1).length+1<=_
    lia -verbose
   let ac:gM (nmN c1 c2 i)=fI:=Fw c1 c2 i;let al:nmN c1 c2 i∉cs.map (·.2.1):=λh=>by
    rw[m]at h;let%[k,hk|e]:=Xo h;let:=vu.mp hk;let:=A2 (by lia -verbose) i3 e
    lia -verbose
   let ae:∀q:ij,∀r,(cs++[(q,nmN c1 c2 i,r)]).map (λp:ij×iv×ZB=>p.2.1)=(o0 (i+1)).map (nmN c1 c2):=λq r=>by rw[Zd,m,Pa,Zd];rfl
   let an:sr c1++(⟨([97+((c2+9*(i:nX))%26).toNat].toArray)⟩:iv)=nmN c1 c2 i:=rfl;rw[an];lk;let a5:=hp
   generalize Qa H' p _=H2 at sp
   show%[a,ns,2+i,6,30,ρ,(sm.trans sp).seq hs,(by lia -verbose),(by lia -verbose),!1,!1,!1,!1|λds H3 ys s3 _ ao hy ap=>%[_,Qb.of ((sp.trans s3) _ _ j),_,gw,ds,ys,cw,ρ,Qb.of ao,hy,ap,lw,(by lia -verbose)|λR H4 g G s4 fR hR dr=>k6 _ _ (aj λD7 k7 _=>?_)]];let s5:=sp.trans (s3.trans s4);let L:=s5 _ _ u;lk;let cl: ~~~cs=i:=by let:=vb Mz m;rwa[Z6,Z6,Yj]at this
   show%[tyL (Qb.of L),bO g G,Qb.of hR,?_,#[2]|λt ht=>?_]
   .let:=dr.cut.sum;let:=dr.cut.high;rw[show(!"\n").length=1 from rfl]
    lia -verbose
   let ej:Txt.join (!"\n") (bO g G)=rM nl (bO g G):=Os _ _;rw[ej];let st:=ah.Qa (o:= .tup [V.str (nmN c1 c2 i),V.str (rM nl (bO g G))]) ht;let gt:=own st
   generalize Qa H4 t _=H5 at st gt
   let aq:t≠C:=λe=>by rw[e,L]at ht;cases ht
   show%[_,st _ _ L,by unfold bP;rw[Z6,cl];show aF (by lia -verbose)|k7 _ _ (aE λD8 k8 _=>?_)];let M:∀b o,b≠C->H' b∣o->Qa H5 C (.lst (bP cs++[V.ref t])) b∣o:=λb o n e=>by rw[av n];show st _ _ (s5 _ _ e)
   let as:Qa H5 C (.lst (bP cs++[V.ref t])) C<*bP (cs++[(t,nmN c1 c2 i,bO g G)]):=by rw[af];unfold bP;rw[Zd];rfl
   lk;let ax:R≠C:=λe=>by rw[e,(sp.trans s3) _ _ u]at fR;cases fR
   let sC:ah H (Qa H5 C (.lst (bP cs++[V.ref t]))):=ah.set (sm.trans (s5.trans st)) fC;let B:=M _ _ (zr Y) v;let N:bZ (Qa H5 C (.lst (bP cs++[V.ref t]))) (cs++[(t,nmN c1 c2 i,bO g G)]):=λq I=>by
    rcases Xm I with z|z
    .show%[M _ _ (λe=>?_) (l q z).1|(l q z).2];let:=(l q z).1;rw[e,u]at this;cases this
    .rw[Xn z];show%[by rw[av aq];show gt,ac|dr.cut]
   let O:=ok.snoc (a:=t) dr al;let ag:=M _ _ ak j;show%[tyD B,_,Qb.of ag,_,gw,_,_,_,_,ρ,lw,(by lia -verbose),iU ac,(by rw[av ax];show st _ _ hR),?_|λd H7 s7 fd a0=>?_]
   .let:=dr.cut.high
    lia -verbose
   let a1:D≠d:=λe=>by rw[<-e,B]at fd;cases fd
   let a2:=s7 _ _ B;let U:∀b o,b≠D->Qa H5 C (.lst (bP cs++[V.ref t])) b∣o->Qa H7 D (.dK (i4 (rkD rs) (rkD (lG (nmN c1 c2 i) cw (bO g G) 16)))) b∣o:=λb o n e=>by rw[av n];show s7 _ _ e
   show%[d,ρ,_,_,a1,a2,a0,?_|k8 _ _ %[_,_,_,_,_,ρ,ah.set (sC.trans s7) fD,U _ _ (λe=>by rw[e,v]at j;cases j) ag,U _ _ Y as,by rw[af,x5 O.nd],λq I=>?_,O|ae _ _]]
   .let:=O.len;rw[Z9]at this;unfold rkD;rw[Z6,Z6];rw[Z9,Yk,cl]at this;show Yf (aF (by lia -verbose))
   .show%[U _ _ (λe=>?_) (N q I).1|(N q I).2];let:=(N q I).1;rw[e,B]at this;cases this
  .intro σ H' %[o4,o5,o6,cs,rs,rfl,sm,j,u,v,l,ok|m];show k4 _ _ ?_;lk;show%[#[2]|λp hp=>?_];let sp:=ah.Qa (o:= .lst [V.ref C,V.ref D]) hp;let cl: ~~~cs=n:=by let:=vb Mz m;rw[Z6,Z6,Yj]at this;lia -verbose
   show kk p C D _ cs rs (sm.trans sp) af fC (sp _ _ u) (sp _ _ v) (by lia -verbose) (by lia -verbose) (λq I=>%[sp _ _ (l q I).1|(l q I).2]) ?_ ok;rw[m,X2,OV];show Xg (λ{x y} hx hy ne e=>ne (A2 ?_ ?_ e)) (X2.mp Rq)
   .let:=vu.mp hx;lia -verbose
   .let:=vu.mp hy;lia -verbose
def wn{rs:dV (iv×nX)}(nd:(rs\1).Nodup){z:iv}(h:z∈rs\1):∃r,(z,r)∈rs/\cf (rkD rs) (hY z)∣V.int r:=by
 induction rs with
 | nil=>show nomatch h
 | cons p rs a=>
   rw[Yq,Nw]at nd;by_cases e:p.1=z
   .subst e;show%[p.2,Zm|eY rfl]
   .let%[r,b|c]:=a nd.2 ((Yw.mp h).resolve_left λq=>e q.symm);show%[r,Zk _ b|?_];rw[show rkD (p::rs)=(hY p.1,V.int p.2)::rkD rs from rfl,dC (λq=>e (Nu q))];show c
inductive Fy
 | mk (one other:iv) (d:ij) (rs:dV (iv×nX)):vs=[.str one,.str other,.ref d]->H d∣.dK (rkD rs)->(rs\1).Nodup->one∈rs\1->other∈rs\1->(∀(t:ij) H' (w a b:iv),ah H H'->H t=eH->H' t&&&[.str w,.str a,.str b]->(w="later"\/w="same")->((a=one/\b=other)\/(a=other/\b=one))->Q (.ref t) H')->Fy vs H Q E0
def CI(T:Txt K mg):↥1 "_law_tie" ["_law_one","_law_other","_law_ranks_here"] Fy:=by
 .exists T.bB,z3,m,g,%[one,c,d,rs,rfl,i,nd,n,o|q];let%[r,C|v1]:=wn nd n;let%[u,m2|v]:=wn nd o;let j:cg H d (.str one) (fx (.int r)):=v1▸cg.k (k:=hY one) i;let l:cg H d (.str c) (fx (.int u)):=v▸cg.k (k:=hY c) i;show%[_,%["JCML~LV20V21EHjAUA0A1BNCML<V20V21EHjAUA1A0BNEHjAUA0A1B",0|g]|?_]
  change aW _ _ _ [-one,-c,!d] H;let tup:∀(w a b:iv),(w="later"\/w="same")->((a=one/\b=c)\/(a=c/\b=one))->[V.str w,V.str a,V.str b].length<=ku/\∀(p:ij),H p=eH->Q (.ref p) (Qa H p (.tup [.str w,.str a,.str b])):=λw a b hw h=>%[#[3]|λp e=>q p _ w a b (ah.Qa e) e af hw h]
  show aj λG k1 z=>?_
  lk;show%[_,j,_,l|bz (λ_=>?_) λ_=>k1 _ _ (aj λI k2 B=>?_)]
  .let%[x|y]:=tup "later" one c (.inl rfl) (.inl %[rfl|rfl]);show%[x|λp e=>z _ _ (y p e)]
  lk;show%[_,j,_,l|bz (λ_=>?_) λ_=>k2 _ _ ?_]
  .let%[x|y]:=tup "later" c one (.inl rfl) (.inr %[rfl|rfl]);show%[x|λp e=>B _ _ (y p e)]
  lk;show tup "same" one c (.inr rfl) (.inl %[rfl|rfl])
inductive Bb (K:ZA)
 | mk (l d:ij) (xs:ZL) (rs:dV (iv×nX)) (torn wild:pp):vs=[.ref l,.ref d,.bl torn,.bl wild]->H l<*xs\4-> ~~~xs=6->(∀x∈xs,0<=x/\x<211)->H d∣.dK (rkD rs)->(rs\1).Nodup->rs≠[]-> ~~~rs<=63->(∀q∈rs,0<=q.2/\q.2<16)->(∀(t:ij) H' (xs:ZM),ah H H'->H' t&&&xs->mJ (rs\1) xs->Q (.ref t) H')->Bb K vs H Q E0
def z9(T:Txt K mg):↥2 "_law_said" ["_law_digits_here","_law_ranks_here","_law_torn","_law_wild"] (Bb K):=by
 .exists T.bC,cY,a4,hr,%[l,d,xs,rs,m,r,rfl,hl,hx,hb,hd,nd,ne,rl,rb|kk];let get:∀i:nX,0<=i->i<6->∃c,atI (xs\4) i∣V.int c/\0<=c/\c<211:=λi h0 h1=>by
   let%[c,e|hm]:=mE xs h0 ⋯;show%[c,e|hb c hm]
  let%[c0,g0,l0|u0]:=get 0 (!1) (!1);let%[c1,g1,l1|u1]:=get 1 (!1) (!1);let%[c2,g2,l2|u2]:=get 2 (!1) (!1);let%[c3,g3,l3|u3]:=get 3 (!1) (!1);let%[c4,g4,l4|u4]:=get 4 (!1) (!1);show%[_,%["JCG4(~1AQ1BC.5qrP4IXP0DbcA4BCG6P4IXP0DbcA4BCMf)L~LIXP0DDD*L$Q56CG7F]$AQ5A6AQ1BCMf)Y2*LaIXP0DDDEHjAO7DAO7DAO7DBNEH7NCMLaIXP0DDDC~S8rqg?1W4d0?2wf)LaVQ20VQ2Q1*L$0Q10EML~H8SBEHjAUAQ5AP8IXP0DbcA8BBNNCG9IeI~GDI!DVQ1Q5I|P0DDCMY3EG9I~GI]%9P0DDNCMLaIXP0DDDEHjAUAQ5APSA9A~vDB~V~WAmaIXP0DDDBBNEHjAUAQ5APSAIe9DADB~V~WAmaIXP0DDDBB",cY.nd,↑(["_law_name","_law_one","_law_ranks_here"],[(1,5),(2,1)]),↑["_law_name","_law_one","_law_ranks_here"]|hr]|?_]
  change aW _ _ _ [!l,!d,fx (.bl m),fx (.bl r),eH,eH,eH,eH,eH,eH] H;show aj λD1 k1 _=>?_
  lk;show%[_,.inl hd,rs\1,by unfold rkD;rw[Ys,Ys];rfl,by rw[Z6];lia|λL ss hL pm _=>k1 _ _ (aj λD2 k2 _=>?_)];let s1:=ah.Qa (o:= .lst (ss\3)) hL;let C:Qa H L (.lst (ss\3)) L=_:=af
  generalize Qa H L _=H1 at s1 C
  let G:=s1 _ _ hl;let ae:=s1 _ _ hd;let sl: ~~~ss= ~~~rs:=by rw[pm.length_eq,Z6]
  let a2:0< ~~~rs:=Nc.mpr ne;let U:∀{ys:ZB} (n:nX),0< ~~~ys->∃z,atI (ys\3) (n%(~~~ys:nX))∣V.str z/\z∈ys:=λ{ys} n M=>by
   let h0:=NA n (show(~~~ys:nX)≠0 by lia);let h1:=Oj n (show(0:nX)<(~~~ys:nX) by lia)
   generalize n%(~~~ys:nX)=i at h0 h1
   let%[j|rfl]:=Xh h0;let hj:j< ~~~ys:=by lia
   show%[ys[j],bG (by simp[hj])|Yd hj]
  let%[one,e1|m1]:=U (ys:=ss) c1 ⋯;let%[g,e2|m2]:=U (ys:=ss) c2 ⋯;let in1:=pm.mem_iff.mp m1;let ag:=pm.mem_iff.mp m2;let al: ~~~(ss\3)= ~~~ss:=Z6 _;lk;show%[_,Qb.of G,_,g1,~~~ss,.inl %[_,Qb.of C|al.symm],⋯,_,Qb.of C,_,e1|k2 _ _ (aj λD3 k3 _=>?_)];lk;show%[_,Qb.of G,_,g2,~~~ss,.inl %[_,Qb.of C|al.symm],⋯,_,Qb.of C,_,e2|k3 _ _ (aj λD4 k4 r4=>?_)];lk;let%[r1,ap|v1]:=wn nd in1;let a5:=rb _ ap;let dg:∀I,ah H1 I->cg I d (.str one) (fx (.int r1)):=λI s2=>v1▸cg.k (k:=hY one) (s2 _ _ ae)
  suffices rest:∀oo,D4.nx [!l,!d,fx (.bl m),fx (.bl r),!L,-one,-g,oo,eH,eH] H1 by
   show%[_,Qb.of G,_,g0,!1|bz (λ_=>bz (λab=>?_) λ_=>rest _) λ_=>rest _];let ab:one≠g:=↑ab
   show%[_,_,_,_,ρ,ae,nd,in1,ag|λt I w a b s2 ft B hw an=>?_];let J:=s2 _ _ G;let ok:∀a b,((a=one/\b=g)\/(a=g/\b=one))->mJ (rs\1) [.str w,.str a,.str b]:=λa b h=>by
    rcases h with⟨rfl,rfl⟩|⟨rfl,rfl⟩
    .show .inl %[w,_,_,rfl,hw,in1,ag|ab]
    .show .inl %[w,_,_,rfl,hw,ag,in1|zr ab]
   let aq:=ok a b an;let as:=ok b a (an.elim (λh=> .inr %[h.2|h.1]) λh=> .inl %[h.2|h.1]);let fin:D4.rt (.ref t) I:=r4 _ _ (kk t I _ (s1.trans s2) B aq);show bz (λ_=>?_) λ_=>fin
   show%[_,Qb.of J,_,g3,!1|bz (λ_=>?_) λ_=>fin];show%[_,SqT.of B,.str w,ρ,_,SqT.of B,.str b,ρ,_,SqT.of B,.str a,ρ,#[3]|λp M=>r4 _ _ (kk p _ _ (s1.trans (s2.trans (ah.Qa M))) af as)]
  intro oo;show k4 _ _ (aj λD5 k5 r5=>?_);lk
  suffices yr:∀o8 I,ah H1 I->D5.nx [!l,!d,fx (.bl m),fx (.bl r),!L,-one,-g,oo,o8,eH] I by
   show%[_,Qb.of G,_,g0,!1|bz (λ_=>?_) λ_=>yr _ _ (ah.refl H1)];show aN λa3 hK=>?_
   lk;show%[%[_|Qb.of C]|hK _ _ λF hF=>?_];show di (λq ts σ I=>A4 (∃o,σ=[o,-one,!d]) (ah H1 I) (I F<*ts) (∃ys:ZB,A3 (ts=ys\3) (~~~ys<=q) (∀y∈ys,y∈rs\1/\y≠one)))
    %[%[eH|rfl],ah.Qa hF,af,[],rfl,Xe _|λ_ h=>nomatch h] (λ_ _ _ H4 ⟨_,s4,_,_⟩=>s4 _ _ C) ?_ ?_
   .intro q ts σ H4 hq %[%[o|rfl],Y,N,ys,B,yl|O];let ao:=pm.mem_iff.mp (Yd hq);let%[rq,mq|vq]:=wn nd ao;let gq:cg H4 d (.str ss[q]) (fx (.int rq)):=vq▸cg.k (k:=hY ss[q]) (Y _ _ ae);lk;show%[_,gq,_,dg _ Y,ρ|bz (λ_=>bz (λc=>?_) λ_=>?_) λ_=>?_]
    .let c:ss[q]≠one:=↑c
     show CK.mk hq N (by rw[B,Z6];show aF ⋯) ⟨%[_|rfl],ah.set Y hF,af,ys++[ss[q]],by rw[B,Zd];rfl,by rw[Z9];show X8 yl,λy hy=>by
      rcases Xm hy with z|z
      .show O y z
      .rw[Xn z];show%[ao|c]⟩
    .show CN.mk hq %[%[_|rfl],Y,N,ys,B,⋯|O]
    .show CN.mk hq %[%[_|rfl],Y,N,ys,B,⋯|O]
   .intro ts σ H3 %[_,Y,N,ys,B,yl|O];show%[Xe _|λp M=>%[ts,ah.Qa M _ _ N,af|bz (λc=>?_) λ_=>?_]]
    .let ax:0< ~~~ys:=by
      cases ys with
      | nil=>show m4 B (Zo c)
      | cons=>show Tz _
     let%[z,ez|mz]:=U (ys:=ys) c2 ax;let sp:=ah.Qa (o:= .lst []) M;let ak:=sp _ _ N;rw[B]at ak;show%[_,Qb.of ((Y.trans sp) _ _ G),_,g2,~~~ys,.inl %[_,Qb.of ak|(Z6 _).symm],⋯,_,Qb.of ak,_,ez,#[3]|λt a0=>r5 _ _ (kk t _ _ (s1.trans ((Y.trans sp).trans (ah.Qa a0))) af (.inl %[_,_,_,ρ,.inr rfl,in1,(O z mz).1|zr (O z mz).2]))]
    .show yr _ _ (Y.trans (ah.Qa M))
  intro o8 I s2;show k5 _ _ (aj λD6 k6 _=>?_);lk;let J:=s2 _ _ G;let a1:=s1.trans s2;show%[_,dg _ s2,.inl %[!1|!1],_,Qb.of J,_,g3,%[!1|!1]|k6 _ _ (aj λD7 k7 _=>?_)];let yb: -900<=800-100*r1+c3/5/\800-100*r1+c3/5<=900:=by lia
  generalize 800-100*r1+c3/5=y at yb
  lk
  suffices fin:∀y:nX,-2000<=y->y<=2000->D7.nx [!l,!d,fx (.bl m),fx (.bl r),!L,-one,-g,oo,o8,fx (.int y)] I from
   bz (λ_=>%[_,Qb.of J,_,g4|.inl (fin _ ⋯ ⋯)]) λ_=>fin _ ⋯ ⋯
  intro y y0 y1;show k7 _ _ (aj λD8 k8 r8=>?_);let pk:∀(u v:nX) (b:pp),atI [V.int u,V.int v] (if b=fI then 1 else 0)∣V.int (if b=fI then v else u):=λu v b=>by cases b<;> rfl
  let ac:∀(w:iv) (u:nX) (p:ij) (H3:Hp),(w="since"\/w="by")-> -9999<=u->u<=9999->ah I H3->H3 p=eH->Q (.ref p) (Qa H3 p (.tup [.str w,.str one,.int u])):=λw u p H3 hw u0 u1 Y M=>kk p _ _ (a1.trans (Y.trans (ah.Qa M))) af (.inr %[w,one,u,rfl,hw,in1,u0|u1])
  lk;show%[_,Qb.of J,_,g0,!1|bz (λ_=>?_) λ_=>k8 _ _ ?_]
  .show%[#[2]|λp M=>%[_,Qb.of (ah.Qa M _ _ J),_,g4,!1,_,Qb.of af,_,pk _ _ _,#[3]|λt B=>r8 _ _ (ac _ _ t _ (.inl rfl) ?_ ?_ (ah.Qa M) B)]]<;> split<;> lia
  .lk;show%[#[2]|λp M=>%[_,Qb.of (ah.Qa M _ _ J),_,g4,!1,_,Qb.of af,_,pk _ _ _,#[3]|λt B=>ac _ _ t _ (.inr rfl) ?_ ?_ (ah.Qa M) B]]<;> split<;> lia
def pi{H:Hp}{M:ij}{xs ys:ZM}(h:H M<*xs):∀b z,H b&&&z->Qa H M (.lst ys) b&&&z:=λb z e=>by
 rw[av (λa=>by rw[a,h]at e;cases e)];show e
structure nD (H:Hp) (cs:ZH) (qs:ZN):Prop where
 c1:1<= ~~~cs
 c3: ~~~cs<=3
 ca:bZ H cs
 nd:(cs.map (·.2.1)).Nodup
 few:∀p∈cs,rY p.2.2
 ly: ~~~(cs.flatMap lyr)<=63
 sa:cV H (cs.flatMap lyr) qs
 ql: ~~~qs<=36
inductive uK (K:ZA)
 | mk (a:ij) (ns:ZL):vs=[.ref a]->Qb K H a (ns\4)-> ~~~ns<=1000->(∀(t l1 l2:ij) H' (cs:ZH) (qs:ZN),ah H H'->H' t<*[.ref l1,.ref l2]->H' l1<*bP cs->H' l2∣.lst (qs\0)->nD H' cs qs->Q (.ref t) H')->uK K vs H Q E0
abbrev bF(w:nX):ZB:=(o0 26).map λr:hH=>sgn (ltr r w)
abbrev nmT(k:hH):iv:=if k=0 then n0 "zone" else n0 "pit"
abbrev eL(W:hH->nX)(i:hH):ZB:=(o0 i).flatMap λk=>(bF (W k)).map (lnS (nmT k))
def gN(W:hH->nX)(i:hH):eL W (i+1)=eL W i++(bF (W i)).map (lnS (nmT i)):=by unfold eL;rw[Pa,O0];simp
def fX(W:hH->nX):∀i,~~~(eL W i)=26*i
 | 0=>rfl
 | i+1=>by rw[gN,Z9,fX W i,Z6];unfold bF;rw[Z6,Yj];rfl
def qT{w:nX}{i:hH}{z:iv}(h:(bF w)[i]?∣z):z=sgn (ltr i w):=by
 unfold bF at h;rw[Zl]at h;by_cases c:i<26
 .rw[Rs c]at h;show(Za h).symm
 .rw[Xk ↑c]at h;cases h
def x8(k:hH):gM (nmT k)=fI:=by unfold nmT;split<;> decide +kernel
def iW(w:nX): ~~~(bF w)=26:=by unfold bF;rw[Z6,Yj]
def nE{w:nX}{i:hH}(h:i<26):(bF w)[i]?∣sgn (ltr i w):=by unfold bF;rw[Zl,Rs h];rfl
def LX(W:hH->nX):(eL W 2)[25]?∣lnS (nmT 0) (sgn (ltr (25:hH) (W 0))):=by
 rw[gN,Y9 (by rw[fX];lia),gN,show eL W 0=[]from rfl,TF,Zl,nE ⋯];rfl
def LY(W:hH->nX):(eL W 2)[26]?∣lnS (nmT 1) (sgn (ltr (0:hH) (W 1))):=by
 rw[gN,Ya (by rw[fX];lia),fX,Zl,nE ⋯];rfl
def kr{w:nX}{z:iv}(h:z∈bF w):∃r:hH,z=sgn (ltr r w):=by
 let%[r,_|rfl]:=Xo h;show%[r|ρ]
def Aa{x j c:hH}(h:(sgn x).cps[j]?∣c):j=0/\c=x:=by
 let h:[x][j]?∣c:=by simpa [sgn]using h
 match j,h with
 | 0,h=>cases h;show%[ρ|ρ]
def KH(w:nX):cX (bF w):=by
 let len: ~~~(bF w)=26:=by unfold bF;rw[Z6,Yj]
 show%[⋯,⋯,%[1,⋯,⋯|λz a=>?_],λz a=>?_,λi r f g e j c h l d b=>?_|?_]
 .let%[r|rfl]:=kr a;rfl
 .let%[r|rfl]:=kr a;change([ltr r w]).all okc=fI;rw[Vx];unfold okc;rw[AS,RJ];rfl
 .rw[qT e]at d;show m4 ((Aa d).2.symm.trans b) (lD _ w)
 .show%[sgn (ltr (0:hH) w),Xp %[0,vu.mpr ⋯|ρ],ltr (0:hH) w,by change _∈[_];show Zm|lD _ w]
def fewT(w:nX):rY (bF w):=by
 show%[(o0 26).map λi:hH=>[sgn (ltr i w),sgn (ltr (i+1:hH) w)],by rw[Z6,Yj];lia|?_];intro a b %[_,_,i,j,r,g,c,f,d|e];let hi:=(Xl c).1;let len: ~~~(bF w)=26:=by unfold bF;rw[Z6,Yj]
 rw[qT c]at d;rw[qT f]at e;rw[(Aa d).2,(Aa e).2];show Xp %[i,vu.mpr ⋯|rfl]
def LZ{p:ij×iv×ZB}{w:nX}(e:p.2.2=bF w): ~~~(lyr p)<=26:=by
 let:=_ST.nodup_sub (dD ((c7 p.2.2).map sgn)) (m:=bF w) λy d=>by
  let%[c,f|rfl]:=Xo (a9.mp d);let%[_,r,a|b]:=fU.mp f;rw[e]at a;let%[k|rfl]:=kr a;let:c∈[ltr k w]:=b;rw[Xn this];show a
 unfold lyr;rw[Z6];show md this (by unfold bF;rw[Z6,Yj];show Zi _)
def letT{w:nX}{r:hH}(h:r<26):Let (bF w) (ltr r w):=%[lD _ _,sgn (ltr r w),Xp %[r,vu.mpr h|rfl]|by change _∈[_];show Zm]
def CJ{W:hH->nX}{n:hH}{z:iv}(h:z∈eL W n):∃k r:hH,k<n/\r<26/\z=lnS (nmT k) (sgn (ltr r (W k))):=by
 let%[k,a|b]:=Mi.mp h;let%[y,c|rfl]:=Xo b;let%[r,d|rfl]:=Xo c;show%[k,r,vu.mp a,vu.mp d|ρ]
abbrev NmD(a:ZB)(f:iv->iv):dV (Key×V):=a.map λz=>(hY z,V.str (f z))
def gO:∀{a:ZB},z∈a->cf (NmD a f) (hY z)∣.str (f z)
 |[],h=>(nomatch h)
 | x::a,h=>by
   by_cases e:x=z
   .subst e;show eY rfl
   .rw[show NmD _ f=(hY x,V.str _)::NmD a f from rfl,dC (λq=>e (Nu q))];show gO (by rcases Yw.mp h with q|q;show(e q.symm).elim;show q)
def Fz:((NmD b f).any λa=>decide (a.1=(hY z:Key)))=fI↔z∈b:=by
 rw[RW]
 constructor
 .rintro⟨a,c,d⟩;let%[x,e|rfl]:=Xo c
  simp_all
 .intro h;show%[_,Xp %[z,h|ρ]|Zf rfl]
def qU(h:z∈a):dz (NmD a f) (hY z) (.str v)=NmD a (λx=>if x=z then v else f x):=by
 unfold dz;rw[jg (Fz.mpr h)];unfold NmD;rw[Ys];show Yp λx _=>?_
 change(if(hY x)=hY z then((hY x),V.str v)else(hY x,V.str _))=(hY x,V.str (if x=z then v else f x))
 by_cases e:x=z
 .rw[jg (vb _ e),jg e]
 .rw[hX (λq=>e (Nu q)),hX e]
def FA(h:z∉a):dz (NmD a id) (hY z) (.str z)=NmD (a++[z]) id:=by
 unfold dz;rw[hX (λq=>h (Fz.mp q))];unfold NmD;rw[Zd];rfl
abbrev x9(a:ZB)(z:iv):hH:=a.countP λu=>aS u z
def qV(c:x∈b)(h:aS x y=fI):x9 b x<x9 b y:=by
 unfold x9
 induction b with
 | nil=>cases c
 | cons u l d=>
   let f:l.countP (λu=>aS u x)<=l.countP λu=>aS u y:=dV.countP_mono_left λu _ a=>d8 a h
   rw[Ql,Ql];rcases Yw.mp c with rfl|e
   .rw[hX (by rw[dN];simp),jg h]
    lia
   .let:=d e;by_cases a:aS u x=fI
    .rw[jg a,jg (d8 a h)]
     lia
    .rw[hX a]
     split<;> lia
abbrev a7(qs:ZN)(a b:iv):Prop:=∃q∈qs,q.2=[.str "same",.str a,.str b]
def kx{S R:iv->iv->Prop}(F:bX c f r S)(h:∀a b,S a b↔R a b):bX c f r R:=by
 rw[funext λa=>funext λb=>(propext (h a b)).symm];show F
inductive FB
 | mk (d z ls f r S):vs=[.ref d,.str z]->H d∣.dK (NmD ls f)->bX ls f r S->z∈ls->Q (.str (r z)) H->FB vs H Q E0
inductive Bc
 | mk (d a b ls f r S):vs=[.ref d,.str a,.str b]->H d∣.dK (NmD ls f)->bX ls f r S->a∈ls->b∈ls-> ~~~ls<=5000->(∀f' r',bX ls f' r' (λx y=>S x y\/(x=a/\y=b))->Q .non (Qa H d (.dK (NmD ls f'))))->Bc vs H Q E0
def gP(T:Txt K mg):↥1 "least_pointed_to" ["names","layer"] FB:=by
 .exists T.aF,fk,o,g,%[d,z,e,p,r,S,rfl,q,F,u|i];show%[_,%["JC~TL$V011EG1V01EH1",fk.nd|g]|aj λv k1 _=>⟨λm j H'=>∃y,j=[fx _,-y]/\H'=H/\y∈e/\r y=r z/\m=x9 e y,%[_,z,ρ,ρ,u,ρ|ρ],?_⟩]
  intro m j H' %[y,rfl,rfl,a,b|rfl];lk;let l:=by
   let:=cg.k (k:=hY y) q;rw[gO a]at this;show this
  show%[_,l,ρ|bz (λh=>?_) λh=>?_]
  .let h:=↑h
   show%[λc n=>c=[fx _,fx _]/\n=H',?_,_,l,ρ|ρ];intro c n %[rfl|rfl];show%[_,qV (F.fin y a) (F.dec y a h),p y,ρ,ρ,F.fin y a,(F.rf y a).trans b|ρ]
  .show k1 _ _ ?_;rw[<-b,F.fix y a ↑h]at i;show i
def oU(T:Txt K mg):↥2 "join_deposits" ["names","one","other"] Bc:=by
 .exists T.aE,eS,m,e,%[d,a,b,c,p,r,S,rfl,g,F,i,j,n|o];show%[_,%["JCG3F~2A0A1BCG4F~2A0A2BEu~I~3A3A4B0]&]'A3A4B",eS.nd|e]|?_]
  change aW _ _ _ [!d,-a,-b,eH,eH] H;show aj λu k1 _=>?_
  lk;show%[d,a,c,p,r,S,ρ,g,F,i|k1 _ _ (aj λv k2 _=>?_)];lk;show%[d,b,c,p,r,S,ρ,g,F,j|k2 _ _ (aE λy q _=>?_)];lk;let J:=F.join i j rfl rfl;let l:(if aS (r a) (r b)=fI then r b else r a)∈c:=by
   split
   .show F.rin b j
   .show F.rin a i
  generalize (if aS (r a) (r b)=fI then r b else r a)=M at J l
  show%[_,gX.k (k:=hY M) g (by unfold NmD;rw[Z6,PySem.sizeLine_eq];lia)|q _ _ ?_];rw[qU l];show o _ _ J
def Ab{qs:ZN}{q:ij×ZM}(c:qs[i]?∣q)(a b:iv):a7 (qs.take (i+1)) a b↔a7 (qs.take i) a b\/q.2=[.str "same",.str a,.str b]:=by
 unfold a7;rw[X9,c]
 simp_all
def jp{c:ZB}(d:c.Pairwise (λa b=>aS b a=fS)){i:hH}{z w:iv}(f:c[i]?∣z)(hw:w∈c)(h:aS w z=fI):w∈c.take i:=by
 rw[<-Xa i c]at hw;rcases Xm hw with e|e
 .show e
 .let%[hi|g]:=Xl f;let%[j,l|rfl]:=Rr e;rw[dV.getElem_drop]at h;rw[Yh]at l;by_cases m:j=0
  .subst m;rw[<-g]at h;simp only[Rv]at h;rw[dN]at h;cases h
  .let:=Px.mp d i (i+j) hi ⋯ ⋯
   grind
inductive yd (mg:ZC)
 | mk (g c2 c3 c4 qs ls ts):vs=[.ref g]->GrF mg H g c2 c3 c4 qs ls ts->ls.Nodup->ls.Pairwise (λa b=>aS b a=fS)-> ~~~ls<=5000->(∀d H' r,ah H H'->H d=eH->H' d∣.dK (NmD ls r)->(∀z∈ls,r z∈ls/\bE (a7 qs) z (r z))->Q (.ref d) H')->yd mg vs H Q E0
def nF{H:Hp}{g c2 c3 b:ij}{qs:dV _}{c:ZB}{ts:dV _}{m:iv}{R:Prop}(h:GrF mg H g c2 c3 b qs c ts)(d:m="layers"\/m="sayings"\/m="ties")(k:R):∃a fs,H g∣.ins (aP mg "Ground") a fs/\NL m fs=eH/\R:=by
 let%[a,c1|e]:=h.at_;show⟨a,_,e,by rcases d with rfl|rfl|rfl<;> rfl,k⟩
def dQ(T:Txt K mg):↥3 "names_by_layer" ["ground"] (yd mg):=by
 .exists T.aD,bu,ao,J,%[g,c2,c3,c4,qs,j,ts,rfl,hg,nd,so,an|kk];let lm: ~~~(j\3)= ~~~j:=Z6 _;let qm: ~~~(qs\0)= ~~~qs:=Z6 _;show%[_,%["JCG1zCTW~J~w0K2Eu212CTW~J~40nRK3RK4RK5kEMLa3UEZF](A1A4A5BNCTW~J~w0K2EuV1V1212EH1",bu.nd|J]|?_]
  change aW _ _ _ [!g,eH,eH,eH,eH,eH] H;show aj λD1 k1 _=>?_
  lk;intro d Y;show k1 _ _ (aj λD2 k2 _=>aB λL hK=>?_);let s1:=ah.Qa (o:= .dK []) Y;let U:Qa H d (.dK []) d∣.dK (NmD (j.take 0) id):=af
  generalize Qa H d _=H1 at s1 U
  lk;let ab:=hg.up s1;show nF ab (.inl rfl) %[g,c2,c3,c4,qs,j,ts,rfl,ab|λl1 M=>%[%[_|Qb.of af]|hK _ _ ?_]];let s2:=ah.Qa (o:= .lst (j\3)) M;let ac:=own s2;let n1:l1≠d:=λe=>by rw[e,U]at M;cases M
  let U:=s2 _ _ U
  generalize Qa H1 l1 _=H2 at s2 ac U
  show bR (λi m H'=>A4 (E4 λn p u v=>m=[!g,!d,n,p,u,v]) (ah H H') (H' l1<*j\3) (H' d∣.dK (NmD (j.take i) id)))
   %[%[_,_,_,_|rfl],s1.trans s2,ac|U] (λi m H' h=>h.3) ?_ ?_
  .intro i z m H' B %[%[n,p,u,v|rfl],l,I|c];change pH _ _ _ _ [!g,!d,-z,p,u,v] H';show aE λD3 k3 _=>?_
   lk;let zn:z∉j.take i:=λhm=>by
    let h:=nd;rw[<-Xa i j,X1]at h;show h.2.2 z hm z (Z8 (i:=0) ((Pl)▸B)) rfl
   show%[_,gX.k (k:=hY z) c (by unfold NmD;rw[Z6,Yl,PySem.sizeLine_eq];lia)|k3 _ _ %[%[_,_,_,_|ρ],ah.set l Y,(av n1).trans I|?_]];rw[af,FA zn,X9,B];rfl
  intro m H3 %[%[n,p,u,v|rfl],l,I|c];rw[Zn (Zi _)]at c;show k2 _ _ (aj λD4 k4 _=>aB λL hK=>?_);lk;let ae:=hg.up l;show nF ae (.inr (.inl rfl)) %[g,c2,c3,c4,qs,j,ts,rfl,ae|λl2 N=>%[%[_|Qb.of af]|hK _ _ ?_]];let s4:=ah.Qa (o:= .lst (qs\0)) N;let ag:=own s4;let n2:l2≠d:=λe=>by rw[e,c]at N;cases N
  let c:=s4 _ _ c;let ak:=l.trans s4
  generalize Qa H3 l2 _=H4 at s4 ag c ak
  show bR (λi m H'=>A4 (E4 λn p u v=>m=[!g,!d,n,p,u,v]) (ah H H') (H' l2∣.lst (qs\0)) (E2 λf r=>H' d∣.dK (NmD j f)/\bX j f r (a7 (qs.take i))))
   %[%[_,_,_,_|rfl],ak,ag,id,id,c|kx (bX.start j) λa b=>%[λh=>h.elim|λ⟨q,hq,_⟩=>(nomatch hq)]] (λi m H' h=>h.3) ?_ ?_
  .intro i q m H' hq %[%[n,p,u,v|rfl],l,I,f,r,c|F];let%[q1|q2]:=hg.sa q (Z8 hq);let st:=l _ _ q1;let C:=Ab hq;rcases q2 with⟨wd,a,b,e,hw,ha,hb,_⟩|⟨wd,a,y,e,hw,_⟩
   .rw[e]at st C;show%[_,SqT.of st,ρ,_,_,ρ,_,_,ρ,_,_,ρ,ρ|?_];change kY _ _ _ _ [!g,!d,n,-wd,-a,-b] H';show aE λD5 k5 _=>?_
    lk;show bz (λh=>?_) λh=>?_
    .let h:wd=n0 "same":=↑h
     show%[d,a,b,j,f,r,_,ρ,c,F,ha,hb,an|λf' r' F'=>k5 _ _ %[%[_,_,_,_|ρ],ah.set l Y,(av n2).trans I,f',r',af|kx F' λx y=>?_]];rw[C,h];show QB Od %[λ⟨e1,e2⟩=>by rw[e1,e2]|λe=>?_];simp only[Np,V.str.injEq,Vw,true_and]at e;show%[e.1.symm|e.2.symm]
    .let h:wd≠n0 "same":=↑h
     show k5 _ _ %[%[_,_,_,_|rfl],l,I,f,r,c|kx F λx y=>?_];rw[C];show%[.inl|λe=>e.resolve_right λe=>h ?_];simp only[Np,V.str.injEq]at e;show e.1
   .rw[e]at st C;show%[_,SqT.of st,ρ,_,_,ρ,_,_,ρ,_,_,ρ,ρ|?_];change kY _ _ _ _ [!g,!d,n,-wd,-a,fx (.int y)] H';show aE λD5 k5 _=>?_
    lk;rw[hX (by rcases hw with rfl|rfl<;> decide)];show k5 _ _ %[%[_,_,_,_|rfl],l,I,f,r,c|kx F λx z=>?_];rw[C];show%[.inl|λe=>e.resolve_right λe=>?_];simp at e
  intro m H5 %[%[n,p,u,v|rfl],l,I,f,r,c|F];rw[Zn (Zi _)]at F;show k4 _ _ (aj λD6 k6 _=>aB λL hK=>?_);lk;let al:=hg.up l;show nF al (.inl rfl) %[g,c2,c3,c4,qs,j,ts,rfl,al|λl3 O=>%[%[_|Qb.of af]|hK _ _ ?_]];let s6:=ah.Qa (o:= .lst (j\3)) O;let n3:l3≠d:=λe=>by rw[e,c]at O;cases O
  let c:=s6 _ _ c;show bR (λi m H'=>A4 (E4 λn p u v=>m=[!g,!d,n,p,u,v]) (ah H H') (H' l3<*j\3) (∃f,A3 (H' d∣.dK (NmD j f)) (bX j f r (a7 qs)) (∀z∈j.take i,f z=r z)))
   %[%[_,_,_,_|rfl],(l.trans s6),af,f,c,F|λz B=>(nomatch B)] (λi m H' h=>h.3) ?_ ?_
  .intro i z m H' B %[%[n,p,u,v|rfl],l,I,f,c,F|G];let zm:=Z8 B;change pH _ _ _ _ [!g,!d,-z,p,u,v] H';show aE λD7 k7 _=>?_
   lk;let get:=λy hy=>by
    let:=cg.k (k:=hY y) c;rw[gO hy]at this;show this
   show%[_,get z zm,_,get _ (F.fin z zm),_,gX.k (k:=hY z) c (by unfold NmD;rw[Z6,PySem.sizeLine_eq];lia)|k7 _ _ %[%[_,_,_,_|ρ],ah.set l Y,(av n3).trans I,_,?_,F.short zm|λy hy=>?_]]
   .rw[af,qU zm]
   .rw[X9,B]at hy;by_cases e:y=z
    .rw[jg e,e];show F.done zm λw hw h=>G w (jp so B hw h)
    .rw[hX e];rcases Xm hy with h|h
     .show G y h
     .show(e (Xn h)).elim
  intro m H7 %[%[n,p,u,v|rfl],l,I,f,c,F|G];rw[Zn (Zi _)]at G;show k6 _ _ ?_;lk;show kk d H7 r l Y ?_ λz B=>%[F.rin z B|F.least B]
  rw[c];unfold NmD;rw[Yp λz B=>by rw[G z B]]
def KI{X:Cx}{K:ZA}{T id:Mv}(h:X.K=K)(l:Pe T)(slot:Slot T name id)(g:Pu (.builtin id)=pure (.type "method_descriptor"))(m:MtQ X id r)
 (b:M9 o name X.env (MO o X.env)=MO o X.env) (a:(e::es).any aV=fS) (i:WT (e::es).length 30=fI) (c:(d.endLine==f.line)=fI) (n:QE X o p) (q:QA X (e::es) t):
 QE X (.Call (.Attribute o name d) (e::es) [] f) (tBM K T r p t):=by
 let j:=a;rw[Zw,X7]at j;show⟨DK h l slot g m.h n.h q.h b ?_ c (aD j.1) (eA j.2)⟩;rw[vm a];let:decide (~~~(e::es)+ ~~~([]:dV Ox)+(if([]:dV Ox).isEmpty then 0 else 1)<30)=fI:=Zf ((hH.blt_eq.mp i));rw[this];rfl
abbrev grp(r:iv->iv)(xs:ZB):dV (iv×ZB):=(xs.filter λz=>decide (r z=z)).map λz=>(z,xs.filter λx=>decide (r x=z))
def CL(h:∀z∈xs,r z=b z):grp r xs=grp b xs:=by
 unfold grp;rw[UY λz a=>by rw[h z a]];show Yp λz a=>?_
 rw[UY λx c=>by rw[h x c]]
def Hw(a:r z=z)(b:z∉xs)(c:∀x∈xs,r x∈xs):grp r (xs++[z])=grp r xs++[(z,[z])]:=by
 unfold grp;rw[Y2,Zd];show Vr (vb _ (Yp λw hw=>?_)) ?_
 .let:w≠z:=λe=>b (e▸(n7.mp hw).1)
  rw[Y2,Y4 (by rw[a];simpa using this.symm),Y7,Zx]
 .rw[Y6 (by rw[a];simp),Y7];change [(z,_)]=_;rw[Y2,Y6 (by rw[a];simp),Y7,O2.mpr λx d=>?_]
  .rfl
  .intro e;show b ((Zo e)▸c x d)
def Hy(a:r z≠z):grp r (xs++[z])=(grp r xs).map λp=>if p.1=r z then(p.1,p.2++[z])else p:=by
 unfold grp;rw[Y2,Y4 ↑a,Y7,Zx,Ys];show Yp λw hw=>?_
 change(w,_)=if w=r z then(w,_)else(w,_)
 rw[Y2];by_cases e:w=r z
 .rw[jg e,Y6 (by simpa using e.symm),Y7]
 .rw[hX e,Y4 (by simpa using λq=>e q.symm),Y7,Zx]
def kz:y∈(grp r xs)\1↔y∈xs/\r y=y:=by
 unfold grp
 simp_all
def nG(h:xs.Nodup):((grp r xs)\1).Nodup:=by
 unfold grp;rw[Ys,show((λx=>x.1) ∘ λz=>(z,N1 _ xs))=id from rfl,WU];show h.filter _
abbrev Bd(S:iv->iv->Prop)(a:ZB)(ds:dV ZB):Prop:=∃r:iv->iv,(∀z∈a,r z∈a/\bE S z (r z))/\ds=(grp r a)\2
def Bd.one{S:iv->iv->Prop}(h:Bd S b ds)(g:Bd S b es):ds=es:=by
 let%[r,c|rfl]:=h;let%[e,d|rfl]:=g;rw[CL λz a=>(c z a).2.one (d z a).2]
noncomputable abbrev Gs(a:Type):=dV (iv×ij×dV a)
abbrev gD{a:Type}(b:Gs a):dV (Key×V):=b.map λg=>(hY g.1,V.ref g.2.1)
def mS:∀{a:Gs b},y∉a\1->cf (gD a) (hY y)=eH
 |[],_=>rfl
 | g::a,h=>by
   rw[Yq,Yw,OW]at h;rw[show gD _=(hY g.1,V.ref _)::gD a from rfl,dC (λq=>h.1 (Nu q).symm)];show mS h.2
def fK:∀{a:Gs f},cf (gD a) (hY y)∣v->∃g∈a,g.1=y/\v= .ref g.2.1
 |[],h=>(nomatch h)
 | g::a,h=>by
   rw[show gD _=(hY g.1,V.ref _)::gD a from rfl]at h;by_cases e:g.1=y
   .rw[eY (vb hY e)]at h;show%[g,Zm,e|(Za h).symm]
   .rw[dC (λq=>e (Nu q))]at h;let%[b,c|d]:=fK h;show%[b,Zk _ c|d]
def jq:∀{a:Gs b},g∈a->cf (gD a) (hY g.1)≠eH
 | x::a,h,c=>by
   rw[show gD _=(hY x.1,V.ref _)::gD a from rfl]at c;by_cases e:x.1=g.1
   .rw[eY (vb hY e)]at c;cases c
   .rw[dC (λq=>e (Nu q))]at c;rcases Yw.mp h with q|q
    .show e (by rw[q])
    .show jq q c
abbrev pj(H:Hp)(a:ZG):Prop:=∀g∈a,H g.1<*g.2\3
def pj.up{H H':Hp}{a:dV _}(h:pj H a)(s:ah H H'):pj H' a:=λg b=>s _ _ (h g b)
structure jA {α:Type} (f:α->V) (H0 H:Hp) (d:ij) (gs:Gs α):Prop where
 at_:H d∣.dK (gD gs)
 la:∀g∈gs,H0 g.2.1=eH/\H g.2.1<*g.2.2.map f
 nd:(gs.map (·.2.1)).Nodup
def Hz{f:Type}{c:Gs f}(d:(c\1).Nodup){g h:iv×ij×dV f}(i:g∈c)(j:h∈c)(e:g.1=h.1):g=h:=by
 induction c with
 | nil=>cases i
 | cons x xs l=>
   rw[Yq,Nw]at d;rcases Yw.mp i with a|a<;> rcases Yw.mp j with b|b
   .rw[a,b]
   .show(d.1 (by rw[<-a,e];show Xp %[_,b|rfl])).elim
   .show(d.1 (by rw[<-b,<-e];show Xp %[_,a|rfl])).elim
   .show l d.2 a b
def FC{f:Type}{c:Gs f}(d:(c.map (·.2.1)).Nodup){g h:iv×ij×dV f}(i:g∈c)(j:h∈c)(e:g.2.1=h.2.1):g=h:=by
 induction c with
 | nil=>cases i
 | cons x xs l=>
   rw[Yq,Nw]at d;rcases Yw.mp i with a|a<;> rcases Yw.mp j with b|b
   .rw[a,b]
   .show(d.1 (by rw[<-a,e];show Xp %[_,b|rfl])).elim
   .show(d.1 (by rw[<-b,<-e];show Xp %[_,a|rfl])).elim
   .show l d.2 a b
abbrev nH{a:Type}(y:iv)(z:a)(b:Gs a):Gs a:=b.map λg=>if g.1=y then(g.1,g.2.1,g.2.2++[z])else g
def KJ(y:iv)(z:b)(a:Gs b):gD (nH y z a)=gD a:=by
 unfold nH gD;rw[Ys];show Yp λg _=>?_
 change(hY (if g.1=y then(g.1,g.2.1,g.2.2++[z])else g).1,V.ref (if g.1=y then(g.1,g.2.1,g.2.2++[z])else g).2.1)=_
 split<;> rfl
def KK(y:iv)(z:b)(a:Gs b):(nH y z a).map (·.2.1)=a.map (·.2.1):=by
 unfold nH;rw[Ys];show Yp λg _=>?_
 change(if g.1=y then(g.1,g.2.1,g.2.2++[z])else g).2.1=_
 split<;> rfl
def KL(y:iv)(z:b)(a:Gs b):(nH y z a).map (λg=>(g.1,g.2.2))=(a.map λg=>(g.1,g.2.2)).map λp=>if p.1=y then(p.1,p.2++[z])else p:=by
 unfold nH;rw[Ys,Ys];show Yp λg _=>?_
 change((if g.1=y then(g.1,g.2.1,g.2.2++[z])else g).1,(if g.1=y then(g.1,g.2.1,g.2.2++[z])else g).2.2)=if g.1=y then(g.1,g.2.2++[z])else(g.1,g.2.2)
 split<;> rfl
def jA.up{a:Type}{f:a->V}{b H H':Hp}{d:ij}{c:Gs a}(h:jA f b H d c)(s:ah H H'):jA f b H' d c:=%[s _ _ h.at_,λg e=>%[(h.la g e).1|s _ _ (h.la g e).2]|h.nd]
def jA.add{a:Type}{f:a->V}{l H:Hp}{d:ij}{b:Gs a}(h:jA f l H d b)(m:(b\1).Nodup){g:iv×ij×dV a}(c:g∈b)(z:a):jA f l (Qa H g.2.1 (.lst (g.2.2.map f++[f z]))) d (nH g.1 z b):=by
 show%[?_,λo j=>?_|by rw[KK];show h.nd]
 .rw[KJ,av (λe=>by let:=(h.la g c).2;rw[<-e,h.at_]at this;cases this)];show h.at_
 .let%[n,i|rfl]:=Xo j;by_cases e:n.1=g.1
  .rw[jg e];obtain rfl:=Hz m i c e;show%[(h.la _ c).1|?_];rw[af,Zd];rfl
  .rw[hX e];show%[(h.la _ i).1|?_];rw[av (λq=>e (by rw[FC h.nd i c q]))];show(h.la _ i).2
def jA.new{l:Gs n}(h:jA f m H d l)(s:ah m H)(j:H e=eH)(y:iv)(z:n)(o:y∉l\1):jA f m (Qa (Qa (Qa H e (.lst [])) d (.dK (dz (gD l) (hY y) (.ref e)))) e (.lst [f z])) d (l++[(y,e,[z])]):=by
 show%[?_,λg i=>?_|?_]
 .rw[av (λq=>by rw[<-q,h.at_]at j;cases j),af,ei _ (mS o)];unfold gD;rw[Zd];rfl
 .rcases Xm i with i|i
  .show%[(h.la g i).1|?_];let q:=(h.la g i).2;rw[av (λc=>by rw[c,j]at q;cases q),av (λc=>by rw[c,h.at_]at q;cases q),av (λc=>by rw[c,j]at q;cases q)];show q
  .rw[Xn i];show%[s.free j|af]
 .rw[Zd,X1];show%[h.nd,by simp|λa p b r c=>?_];let%[g,i|rfl]:=Xo p;let q:=(h.la g i).2
  simp_all
inductive Be (mg:ZC)
 | mk (g c2 c3 c4 qs ls ts):vs=[.ref g]->GrF mg H g c2 c3 c4 qs ls ts->ls.Nodup->ls.Pairwise (λa b=>aS b a=fS)-> ~~~ls<=5000->(∀l H' ss,ah H H'->H l=eH->H' l∣.lst (ss\0)->pj H' ss->(∀s∈ss,H s.1=eH)->Bd (a7 qs) ls (ss\2)-> ~~~ss<=5000->Q (.ref l) H')->Be mg vs H Q E0
inductive FD (mg:ZC)
 | mk (g c2 c3 c4 qs ls ts z):vs=[.ref g,.str z]->GrF mg H g c2 c3 c4 qs ls ts->ls.Nodup->ls.Pairwise (λa b=>aS b a=fS)-> ~~~ls<=5000->z∈ls->(∀H' m,ah H H'->bE (a7 qs) z m->Q (.str m) H')->FD mg vs H Q E0
def Ac(T:Txt K mg):↥4 "deposits" ["ground"] (Be mg):=by
 .exists T.aG,im,a3,I,%[g,c2,c3,c4,qs,n,ts,rfl,hg,nd,so,an|kk];let lm: ~~~(n\3)= ~~~n:=Z6 _;show%[_,%["JCG1F~bA0BCG2zCTW~J~w0K3EZ~xl~y~z2AV13ASBBA3BEH+])A~5~62B",im.nd|I]|?_]
  change aW _ _ _ [!g,eH,eH,eH] H;show aj λD1 k1 _=>?_
  lk;show%[g,c2,c3,c4,qs,n,ts,ρ,hg,nd,so,an|λd H1 r s1 fd J I=>k1 _ _ (aj λD2 k2 _=>?_)];lk;intro e fe;show k2 _ _ (aj λD3 k3 _=>aB λa2 hK=>?_);let ao:d≠e:=λc=>by rw[c,fe]at J;cases J
  let s2:=ah.Qa (o:= .dK []) fe;let ge:Qa H1 e (.dK []) e∣.dK (gD ([]:Gs iv)):=af;let J:=s2 _ _ J;let fe:=s1.free fe;let Y:=s1.trans s2
  generalize Qa H1 e _=H2 at s2 ge J Y
  lk;let ac:=hg.up Y;show nF ac (.inl rfl) %[g,c2,c3,c4,qs,n,ts,rfl,ac|λl1 ap=>%[%[_|Qb.of af]|hK _ _ ?_]];let s3:=ah.Qa (o:= .lst (n\3)) ap;let L:=own s3;let J:=s3 _ _ J;let ge:=s3 _ _ ge;let ae:=Y.trans s3
  generalize Qa H2 l1 _=H3 at s3 L J ge ae
  let r2:∀z∈n,r (r z)=r z:=λz M=>by
   let h:=(I z M)
   let h2:=(I _ h.1).2;show h2.one %[.refl _|λy c=>h.2.2 y (h.2.1.trans c)]
  let ag:∀z∈n,r z≠z->aS (r z) z=fI:=λz M h=>fT ((I z M).2.2 z (.refl _)) h.symm
  obtain⟨N,aq,as,ax,ab,s0⟩:∃N:Hp,N e=eH/\N d∣.dK (NmD n r)/\N l1<*n\3/\ah H N/\ah N H3:=by
   show%[λa=>if a=e then eH else H3 a,jg rfl,?_,?_,λa o h=>?_|λa o h=>?_]
   .show(hX (λc=>ao c)).trans J
   .show(hX (λc=>by rw[c,ge]at L;cases L)).trans L
   .show(hX (λc=>by rw[c,fe]at h;cases h)).trans (ae _ _ h)
   .let h:(if a=e then eH else H3 a)∣o:=h
    split at h
    .cases h
    .show h
  show bR (λi σ H'=>A3 (∃o3,σ=[!g,!d,!e,o3]) (ah N H') (∃B,jA V.str N H' e B/\B.map (λg=>(g.1,g.2.2))=grp r (n.take i)))
   %[%[_|rfl],s0,[],%[ge,λg hg=>(nomatch hg)|X3]|rfl] (λi σ H' h=>h.2 _ _ ax) ?_ ?_
  .intro i z σ H' M %[%[o3|rfl],O,B,b|u];let zm:=Z8 M;let i1:i< ~~~n:=(Xl M).1;change nN _ _ [!g,!d,!e,-z] H';show aE λD4 k4 _=>?_
   lk;let get:=cg.k (k:=hY z) (O _ _ as);rw[gO zm]at get;let gk:B\1=(grp r (n.take i))\1:=by rw[<-u,Ys];rfl
   let ak:(B\1).Nodup:=by rw[gk];show nG (nd.sublist (UV _ _))
   let gl: ~~~B<= ~~~n:=by
    let:=_ST.nodup_sub ak (m:=n) λy hy=>by rw[gk,kz]at hy;show Yx hy.1
    rw[Z6]at this;show this
   let zn:z∉n.take i:=λhm=>by
    let h:=nd;rw[<-Xa i n,X1]at h;show h.2.2 z hm z (Z8 (i:=0) (by rw[Pl];show M)) rfl
   let tk:n.take (i+1)=n.take i++[z]:=by rw[X9,M];rfl
   show%[tyD (b.at_),_,get,#[0]|λp U=>%[hY (r z),ρ,gD B,?_,?_,λv hv=>?_|λhv=>?_]]
   .rw[av (λc=>by rw[<-c,b.at_]at U;cases U)];show b.at_
   .unfold gD;rw[Z6];show aF ⋯
   .let%[q,C,e1|rfl]:=fK hv;let a0:q.1∈B\1:=Xp %[q,C|rfl];let al:=a0;rw[gk,kz,e1]at al;let rn:r z≠z:=λc=>zn (by show c▸al.1)
    let sp:=ah.Qa (o:= .lst []) U;let hl:=sp _ _ (b.la q C).2;let G:=(b.up sp).add ak C z;let ml: ~~~q.2.2<= ~~~n:=by
     let:(q.1,q.2.2)∈grp r (n.take i):=u▸Xp %[q,C|rfl];let%[y,hy|c]:=Xo this;show((Prod.mk.inj c).2)▸md (Yi _ _) (by rw[Yl];lia)
    show%[tyL (Qb.of hl),_,hl,by rw[Z6];show aF ⋯|k4 _ _ %[%[_|ρ],ah.set (O.trans sp) (b.la q C).1,_,G|?_]];rw[KL,u,tk,Hy rn,e1]
   .let nk:r z∉B\1:=λh=>by
     let%[q,C|c]:=Xo h;let:=jq C;rw[c,hv]at this;show this rfl
    let rz:r z=z:=MW λc=>nk (by rw[gk,kz];show%[jp so M (I z zm).1 (ag z zm c)|r2 z zm])
    let de:e≠p:=λq=>by rw[<-q,b.at_]at U;cases U
    rw[rz]at hv nk ⊢;let gp:Qa (Qa H' p (.lst [])) e (.dK (dz (gD B) (hY z) (.ref p))) p<*[]:=by rw[av de.symm,af]
    show%[tyL (Qb.of gp),[],gp,(show 0<ku by decide)|k4 _ _ %[%[_|ρ],ah.set (ah.set (O.trans (ah.Qa U)) aq) (O.free U),_,b.new O U z z nk|?_]];rw[Zd,u,tk,Hw rz zn λx hx=>?_]
    .rfl
    .let%[j|hj]:=dV.mem_iff_getElem?.mp hx;let xm:=Yx hx;by_cases c:r x=x
     .rw[c];show hx
     .let ji:j<i:=by let:=(Xl hj).1;rw[Yl]at this;lia
      rw[Yb ji]at hj;show dV.take_subset_take_left _ (Yf ji) (jp so hj (I x xm).1 (ag x xm c))
  intro σ H' %[%[o3|rfl],O,B,b|u];rw[Zn (Zi _)]at u;show k3 _ _ ?_;lk;let gk:B\1=(grp r n)\1:=by rw[<-u,Ys];rfl
  let gl: ~~~B<= ~~~n:=by
   let:=_ST.nodup_sub (l:=B\1) (gk▸nG nd) (m:=n) λy hy=>by rw[gk,kz]at hy;show hy.1
   rw[Z6]at this;show this
  show%[tyD (b.at_),%[_|b.at_]|λv fv=>%[e,af,_,ah.Qa fv _ _ b.at_|λl fl=>?_]];let sv:=ah.Qa (o:=lV v e) fv;let sl:=ah.Qa (o:= .lst ((gD B)\2)) fl;let a1:=O.trans (sv.trans sl);show kk l _ (B\2) (ab.trans a1) ((ab.trans (O.trans sv)).free fl) ?_ (λs hs=>?_) (λs hs=>?_) %[r,I|?_] (by rw[Z6];lia)
  .rw[af];unfold gD;rw[Ys,Ys];rfl
  .let%[q,C|rfl]:=Xo hs;show sl _ _ (sv _ _ (b.la q C).2)
  .let%[q,C|rfl]:=Xo hs;show ab.free (b.la q C).1
  .rw[<-u,Ys,Ys];rfl
structure b7 (S:iv->iv->Prop) (ks0 ks:dV _):Prop where
 nd:ks.Nodup
 mem:∀k,k∈ks↔∃a b z a' b',[a,b,z]∈ks0/\bE S a a'/\bE S b b'/\k=[a',b',z]
def b7.mm{S:iv->iv->Prop}{a ks b:dV ZB}(h:b7 S a ks)(g:b7 S a b)(k:ZB):k∈ks↔k∈b:=(h.mem k).trans (g.mem k).symm
def Ma{ks c:dV ZB}(e:∀k,k∈ks↔k∈c):Ed ks=Ed c:=by
 funext a b;simp only[Ed,e]
def jZ{ks c:dV ZB}(e:∀k,k∈ks↔k∈c):Dst ks=Dst c:=by
 funext a n b;simp only[Dst,e]
def mT{ks c:dV ZB}(e:∀k,k∈ks↔k∈c):Rch ks=Rch c:=by
 funext a b;let q:∀{ks},Rch ks a b↔∃n,Dst ks a (n+1) b:=%[Rch.dst|λ⟨_,h⟩=>h.rch]
 rw[propext q,propext q,jZ e]
abbrev jr(r:iv->iv):ZB->ZB
 |[a,b,z]=>[r a,r b,z]
 | k=>k
def qW{S:iv->iv->Prop}{c:dV ZB}{l:ZB}{r:iv->iv}(m:∀k∈c,d9 l k)(f:∀z∈l,bE S z (r z))(k:ZB):k∈c.map (jr r)↔∃a b z g h,[a,b,z]∈c/\bE S a g/\bE S b h/\k=[g,h,z]:=by
 rw[Pi]
 constructor
 .rintro⟨t,d,rfl⟩;let%[a,b,z,rfl,i|j]:=m t d;show%[a,b,z,r a,r b,d,f a i,f b j|ρ]
 .rintro⟨a,b,z,g,h,d,n,o,rfl⟩;let%[x,y,u,e,i|j]:=m _ d;simp only[Np,Vw]at e;let%[rfl,rfl|rfl]:=e;show%[_,d|by rw[<-(f a i).one n,<-(f b j).one o];rfl]
inductive ye (mg:ZC)
 | mk (g c2 c3 c4:ij) (qs:ZN) (ls:ZB) (ts:ZG):vs=[.ref g]->GrF mg H g c2 c3 c4 qs ls ts->ls.Nodup->ls.Pairwise (λa b=>aS b a=fS)-> ~~~ls<=5000-> ~~~ts<=250->(∀k∈ts\2,d9 ls k)->(∀l H' (ss:ZG),ah H H'->H l=eH->H' l∣.lst (ss\0)->aI H' ss->b7 (a7 qs) (ts\2) (ss\2)-> ~~~ss<=250->Q (.ref l) H')->ye mg vs H Q E0
def Bf(T:Txt K mg):↥4 "links" ["ground"] (ye mg):=by
 .exists T.aJ,xM,ao,n,%[g,c2,c3,N,qs,L,ts,rfl,hg,nd,so,O,ap,U|kk];let tm: ~~~(ts\0)= ~~~ts:=Z6 _;show%[_,%["JC.1qrF~bA0BEH(~>A~N~^Aog?1W~J]*0nRd0?2Rd1?2Rd2?2k'jAVQ30AVQ31A2BBB",xM.nd,↑(["later","earlier","source","names"],[(3,1)]),↑["later","earlier","source","names"]|n]|?_]
  change aW _ _ _ [!g,eH] H;show aj λD1 k1 _=>?_
  lk;show%[g,c2,c3,N,qs,L,ts,ρ,hg,nd,so,O|λd H1 r s1 fd hd n=>k1 _ _ ?_];lk;show aN λan hK=>?_
  lk;let u:=hg.up s1;show nF u (.inr (.inr rfl)) %[g,c2,c3,N,qs,L,ts,rfl,u|λl1 Y=>%[%[_|Qb.of af]|hK _ _ λF hF=>?_]];let v:=ah.Qa (o:= .lst (ts\0)) Y;let B:=own v
  generalize Qa H1 l1 _=H2 at v B hF
  let ab:=v _ _ hd;let ac:=(u.up v).tu;show di (λj vs σ H'=>A4 (E3 λo1 o2 o3=>σ=[o1,o2,o3,!d]) (ah H2 H') (H' F<*vs) (∃ps:ZG,A3 (vs=ps\0) (aI H' ps) (ps\2=((ts.take j)\2).map (jr r))))
   %[%[eH,eH,eH|rfl],ah.Qa hF,af,[],rfl,e9 _|rfl] (λ_ _ _ H' ae=>ae.2 _ _ B) ?_ ?_
  .intro j vs σ H4 hj %[%[o1,o2,o3|rfl],C,G,ps,M,i|c];let tj:=Yd hj;let%[a,b,z,e,ha|hb]:=U _ (Xp %[_,tj|rfl]);let st:=C _ _ (ac _ tj).2;rw[e]at st;let get:∀y∈L,cg H4 d (.str y) (fx (.str (r y))):=λy hy=>by
    let:=cg.k (k:=hY y) (C _ _ ab);rw[gO hy]at this;show this
   show%[_,SqT.of st,ρ,_,_,ρ,_,_,ρ,_,_,ρ,ρ|?_];change GD [-a,-b,-z,!d] _ _;lk;show%[_,get a ha,_,get b hb,#[3]|λp hp=>?_];let sp:=ah.Qa (o:= .tup [V.str (r a),V.str (r b),V.str z]) hp;let gp:=own sp
   generalize Qa H4 p _=H5 at sp gp ⊢
   let keep:=pi (ys:=vs++[V.ref p]) (sp _ _ G);let pl:=vb Mz c;rw[Z6,Z6,Z6,Yl]at pl;show CK.mk hj (sp _ _ G) (by rw[M,Z6];show aF ⋯) %[%[_,_,_|rfl],ah.set (C.trans sp) hF,af,ps++[(p,[r a,r b,z])],by rw[M,Zd];rfl,aG (fW (aG i λb z e=>sp _ _ e) ∅ gp) keep|?_];rw[Zd,c,X9,Z4 hj,Zd,Zd];change _++[_]=_++[jr r ts[j].2];rw[e];rfl
  intro vs σ H3 %[_,C,ag,ps,M,i|c];rw[Zn (Zi _)]at c;let pl:=vb Mz c;rw[Z6,Z6,Z6]at pl;let p3:∀q∈ps,~~~q.2=3:=λq l=>by
   let:q.2∈ps\2:=Xp %[q,l|rfl];rw[c]at this;let%[k,hk|e]:=Xo this;let%[a,b,z,rfl|_]:=U k hk;rw[<-e];rfl
  show%[ps,by rw[<-M];show Qb.of ag,i,%[ps\2,by rw[Z6];lia|λq l=>Xp %[q,l|ρ]]|λl5 ak=>?_];let s5:=ah.Qa (o:=qf P w l5 (bI ps)) ak;let few: ~~~(bI ps)<=250:=by
   let:=_ST.nodup_sub (eW ps) (m:=ps\2) λk hk=>by
    let%[q,l|rfl]:=Xo hk;show Xp %[q,bA ps q l|rfl]
   rw[Z6,Z6]at this
   lia
  show%[bI ps,af,λq l=>%[(i q (bA ps q l)).1|s5 _ _ (i q (bA ps q l)).2],3,λq l=>p3 q (bA ps q l),!1,⋯|λl6 ss I pm=>?_];let s6:=ah.Qa (o:= .lst (ss\0)) I;let J:=s1.trans (v.trans (C.trans s5));let pk:(ss\2).Perm ((bI ps)\2):=pm.map _;show kk l6 _ ss (J.trans s6) (J.free I) af (λq l=>?_) %[pk.nodup_iff.mpr (eW ps)|λk=>?_] (by rw[pm.length_eq];show few)
  .let al:=pm.mem_iff.mp l;let:=i q (bA ps q al);show%[this.1|s6 _ _ (s5 _ _ this.2)]
  .rw[pk.mem_iff,jd,c];show qW U (λz hz=>(n z hz).2) k
def FE{S:iv->iv->Prop}(d:c.Pairwise (λa b=>aS b a=fS))(i:∀z∈c,r z∈c/\bE S z (r z))(h:p∈grp r c):p.2[0]?∣p.1:=by
 unfold grp at h;let%[z,j|rfl]:=Xo h;let%[l|m]:=n7.mp j;let f:z∈c.filter (λx=>decide (r x=z)):=n7.mpr %[l|m];let d:=d.sublist (Q6 (p:=λx=>decide (r x=z)));let all:∀x∈c.filter (λx=>decide (r x=z)),aS x z=fS:=λx n=>by
  let%[o|s]:=n7.mp n;rw[<-Zo s];show(i x o).2.2 x (.refl _)
 change(c.filter λx=>decide (r x=z))[0]?∣z
 generalize c.filter (λx=>decide (r x=z))=g at all f d
 cases g with
 | nil=>cases f
 | cons y g=>
   rw[Tk];rcases Yw.mp f with e|e
   .rw[e]
   .let a:=(Ux.mp d).1 z e;by_cases q:y=z
    .rw[q]
    .let:=fT (all y Zm) q;rw[a]at this;cases this
structure Bg (S:iv->iv->Prop) (ls ns:ZB):Prop where
 nd:ns.Nodup
 mem:∀x,x∈ns↔x∈ls/\bE S x x
 so:ns.Pairwise (λa b=>aS b a=fS)
 ne:ls≠[]->ns≠[]
def KM{S:iv->iv->Prop}{a:ZB}{r:iv->iv}(c:∀z∈a,r z∈a/\bE S z (r z))(h:a≠[]):(grp r a)\1≠[]:=by
 let%[z|f]:=SY _ h;let%[e|b]:=c z f;let g:bE S (r z) (r z):=%[b.1.symm.trans b.1|λy d=>b.2 y (b.1.trans d)]
 show dV.ne_nil_of_mem (kz.mpr %[e|(c _ e).2.one g])
def KN{r:iv->iv}{xs:ZB}(h:xs.Pairwise (λa b=>aS b a=fS)):((grp r xs)\1).Pairwise (λa b=>aS b a=fS):=by
 unfold grp;rw[Ys];change PV _ (RG (λz=>z) _);rw[dV.map_id'];show h.filter _
inductive uL (mg:ZC)
 | mk (g c2 c3 c4 qs ls ts):vs=[.ref g]->GrF mg H g c2 c3 c4 qs ls ts->ls.Nodup->ls.Pairwise (λa b=>aS b a=fS)-> ~~~ls<=5000->(∀l H' ns,ah H H'->H l=eH->H' l<*ns\3->Bg (a7 qs) ls ns->Q (.ref l) H')->uL mg vs H Q E0
def fh(T:Txt K mg):↥5 "deposit_names" ["ground"] (uL mg):=by
 .exists T.aI,nq,J,a,%[g,c2,c3,v,qs,b,ts,rfl,L,nd,i,l|M];show%[_,%["JEHog?1WF]+A0Bd0?2'P0D",0,↑(["group"],[]),↑["group"]|a]|?_];change iI _ _ [!g] H;lk;show aN λy N=>?_
  lk;show%[g,c2,c3,v,qs,b,ts,ρ,L,nd,i,l|λl1 O ss B f1 C U _ ⟨r,a,G⟩ Y=>%[%[_|Qb.of C]|N _ _ λF m=>?_]];let sg: ~~~ss= ~~~(grp r b):=by
   let:=vb Mz G;rwa[Z6,Z6]at this
  show di (λj vs n H'=>A4 (∃I,n=[I]) (ah O H') (H' F<*vs) (vs=(((grp r b).take j)\1)\3))
   %[%[eH|rfl],ah.Qa m,af|rfl] (λ_ _ _ H' o=>o.2 _ _ C) ?_ ?_
  .intro j vs n H4 p %[%[I|rfl],e,q|c];let u:j< ~~~(grp r b):=by lia
   let e2:ss[j].2=(grp r b)[j].2:=by
    let:=vb (λz=>z[j]?) G;simpa [p,u]using this
   lk;show%[_,Qb.of (e _ _ (U _ (Yd p))),_,(show atI (ss[j].2\3) ((0:hH):nX)∣_ from bG (by rw[Zl,e2,(FE i a (Yd u))];rfl))|?_];show CK.mk p q (by rw[c,Z6,Z6,Yl];show aF ⋯) %[%[_|rfl],ah.set e m,af|?_];rw[c,X9,Z4 u,Zd,Zd];rfl
  intro vs n H3 %[_,e,d|c];rw[Zn ⋯]at c;rw[c]at d;show M F H3 _ (B.trans e) (B.free m) d %[nG nd,λx=>?_,KN i|KM a];rw[kz];show%[λh=>%[h.1|by let:=(a x h.1).2;rwa[h.2]at this]|λh=>%[h.1|(a x h.1).2.one h.2]]
abbrev GrB(H:Hp)(d:ij)(ss:ZG)(i:hH):Prop:=∃a,H d∣.dK a/\∀n,(∃l,cf a (hY n)∣.ref l/\H l∣.lst ((ss.filter λt=>decide (t.2[i]? =fx n))\0))\/(cf a (hY n)=eH/\∀t∈ss,t.2[i]? ≠fx n)
def GrB.up(h:GrB H d ss i)(s:ah H H'):GrB H' d ss i:=by
 let%[c,e|f]:=h;show%[c,s _ _ e|λn=>(f n).imp_left λ⟨l,a,b⟩=>%[l,a|s _ _ b]]
abbrev dY(H:Hp)(a:ZB)(ss:ZG):Prop:=∀t∈ss,H t.1&&&t.2\3/\d9 a t.2
def dY.up(h:dY H b ss)(s:ah H H'):dY H' b ss:=λt a=>%[s _ _ (h t a).1|(h t a).2]
def KO(h:d9 c k)(hi:i<2):∃n,k[i]?∣n/\n∈c:=by
 let%[a,b,z,rfl,d|e]:=h
 match i,hi with
 | 0,_=>show%[a,ρ|d]
 | 1,_=>show%[b,ρ|e]
inductive qX
 | mk (l:ij) (i:hH) (ns:ZB) (ss:dV _):vs=[.ref l,.int i]->i<2->H l∣.lst (ss\0)->dY H ns ss-> ~~~ss<=250->(∀d H',ah H H'->H d=eH->GrB H' d ss i->Q (.ref d) H')->qX vs H Q E0
inductive FF (i:hH)
 | mk (l ns ss):vs=[.ref l]->H l∣.lst (ss\0)->dY H ns ss-> ~~~ss<=250->(∀d H',ah H H'->H d=eH->GrB H' d ss i->Q (.ref d) H')->FF i vs H Q E0
def uM(T:Txt K mg):↥1 "grouped" ["found","side"] qX:=by
 .exists T.aN,lB,ae,hr,%[l,i,ns,ss,rfl,hi,O,U,ag|kk];let ak: ~~~(ss\0)= ~~~ss:=Z6 _;show%[_,%["JCG2zCTW0K3EZ~xl~y~z2AO31ASBBA3BEH2"|lB.nd]|?_]
  change aW _ _ _ [!l,fx (.int i),eH,eH] H;show aj λD1 k1 _=>?_
  lk;intro e fe;show k1 _ _ (aj λD2 k2 _=>aB λac hK=>?_);lk;let se:=ah.Qa (o:= .dK []) fe;show%[%[_|Qb.of (se _ _ O)]|hK _ _ ?_];show bR (λj σ H'=>A3 (∃o3,σ=[!l,fx (.int i),!e,o3]) (ah H H') (∃m,A4 (jA (λt:ij×ZB=>V.ref t.1) H H' e m) ((m\1).Nodup) (∀g∈m,g.2.2=(ss.take j).filter λt=>decide (t.2[i]?∣g.1)) (∀n,n∈m\1↔∃t∈ss.take j,t.2[i]?∣n)))
   %[%[_|rfl],se,[],%[af,λg u=>(nomatch u)|X3],X3,λg u=>(nomatch u)|by simp] (λj σ H' h=>h.2 _ _ O) ?_ ?_
  .intro j t σ H' C %[%[o3|rfl],G,m,d,Y,I|M];let tm:=Z8 C;let j1:j< ~~~ss:=(Xl C).1;let%[n,J|_]:=KO (U t tm).2 hi;let tk:ss.take (j+1)=ss.take j++[t]:=by rw[X9,C];rfl
   change nN _ _ [!l,fx (.int i),!e,fx (.ref t.1)] H';show aE λD4 k4 _=>?_
   lk;let gl: ~~~m<= ~~~ss:=by
    let:m\1 ⊆ ss.filterMap λt=>t.2[i]? :=λy hy=>by
     let%[t,C|e]:=(M y).mp hy;show MX.mpr %[t,Yx C|e]
    let:=_ST.nodup_sub Y λx hx=>this hx
    rw[Z6]at this;show md this (Of _ _)
   let st:=G _ _ (U t tm).1;let keys:∀(L:Gs (ij×ZB)),(∀y,y∈L\1↔y∈m\1\/y=n)->∀y,y∈L\1↔∃t∈ss.take (j+1),t.2[i]?∣y:=λL h y=>by
    rw[h,M,tk]
    constructor
    .rintro(⟨t',h1,h2⟩|rfl)
     .show%[t',Yu _ h1|h2]
     .show%[t,Yv _ Zm|J]
    .rintro⟨t',h1,h2⟩;rcases Xm h1 with q|q
     .show .inl %[t',q|h2]
     .rw[Xn q,J]at h2;show .inr (Za h2).symm
   show%[tyD (d.at_),_,SqT.of st,_,bG (show(t.2\3)[i]?∣.str n by rw[Zl,J];rfl),#[0]|λp B=>%[hY n,ρ,gD m,?_,?_,λv N=>?_|λN=>?_]]
   .rw[av (λc=>by rw[<-c,d.at_]at B;cases B)];show d.at_
   .unfold gD;rw[Z6];show aF ⋯
   .let%[q,r,e1|rfl]:=fK N;let sp:=ah.Qa (o:= .lst []) B;let O:=sp _ _ (d.la q r).2;let ml: ~~~q.2.2<= ~~~ss:=by
     rw[I q r];show md (Yi _ _) (by rw[Yl];lia)
    let ka:(nH q.1 t m)\1=m\1:=by
     unfold nH;rw[Ys];show Yp λg _=>?_
     change(if g.1=q.1 then(g.1,g.2.1,g.2.2++[t])else g).1=_
     split<;> rfl
    show%[tyL (Qb.of O),_,O,by rw[Z6];show aF ⋯|k4 _ _ %[%[_|ρ],ah.set (G.trans sp) (d.la q r).1,_,((d.up sp).add Y r t),ka▸Y,λg u=>?_|keys _ λy=>?_]]
    .unfold nH at u;let%[g0,h0|rfl]:=Xo u;rw[tk,Y2];by_cases c:g0.1=q.1
     .rw[jg c];change g0.2.2++[t]=_++N1 (λt=>decide (t.2[i]?∣g0.1)) [t];rw[I g0 h0,Y6 (by rw[J,c,e1];simp),Y7]
     .rw[hX c,I g0 h0,Y4 (by rw[J,<-e1];simpa using λz=>c z.symm),Y7,Zx]
    .rw[ka];show%[.inl|λh=>h.elim id λh=>by rw[h,<-e1];show Xp %[q,r|ρ]]
   .let nk:n∉m\1:=λh=>by
     let%[q,r|c]:=Xo h;let:=jq r;rw[c,N]at this;show this rfl
    let de:e≠p:=λq=>by rw[<-q,d.at_]at B;cases B
    let gp:Qa (Qa H' p (.lst [])) e (.dK (dz (gD m) (hY n) (.ref p))) p<*[]:=by rw[av de.symm,af]
    show%[tyL (Qb.of gp),[],gp,(show 0<ku by decide)|k4 _ _ %[%[_|ρ],ah.set (ah.set (G.trans (ah.Qa B)) fe) (G.free B),_,d.new G B n t nk,?_,λg u=>?_|keys _ λy=>?_]]
    .rw[Zd,X1];show%[Y,by simp|λa ha b hb c=>nk (by rw[<-show b=n from Xn hb,<-c];show ha)]
    .rw[tk,Y2];rcases Xm u with q|q
     .let c:g.1≠n:=λc=>nk (c▸Xp %[g,q|rfl])
      rw[I g q,Y4 (by rw[J];simpa using λz=>c z.symm),Y7,Zx]
     .rw[Xn q];change [t]=_++N1 (λt=>decide (t.2[i]?∣n)) [t];rw[Y6 (by rw[J];simp),Y7,O2.mpr λt' ab c=>nk ((M n).mpr %[t',ab|Zo c])];rfl
    .rw[Zd,Yt,Yq,Sj,Yy]
  .intro σ H' %[%[o3|rfl],G,m,d,Y,I|M];rw[Zn (Zi _)]at I M;show k2 _ _ ?_;lk;show kk e H' G fe %[_,d.at_|λn=>?_];cases N:cf (gD m) (hY n)with
   | none=>
     show .inr %[rfl|λt C c=>?_];let%[q,r|c]:=Xo ((M n).mpr %[t,C|c]);let:=jq r;rw[c,N]at this;show this rfl
   | some v=>
     let%[q,r,e1|rfl]:=fK N;show .inl %[_,rfl|?_];rw[(d.la q r).2,I q r,e1]
def dR(T:Txt K mg):↥2 "links_by_later" ["found"] (FF 0):=by
 .exists T.aL,l8,d,e,%[l,c,ss,rfl,g,a,b|i];show%[_,%["JEHF~7A0A}B",0|e],l,0,c,ss,ρ,by simp,g,a,b|i]
def lH(T:Txt K mg):↥2 "links_by_earlier" ["found"] (FF 1):=by
 .exists T.aM,kD,d,e,%[l,c,ss,rfl,g,a,b|i];show%[_,%["JEHF~7A0A~KB",0|e],l,1,c,ss,ρ,by simp,g,a,b|i]
structure ReB (ss:ZG) (rs:Gs iv):Prop where
 nd:(rs\1).Nodup
 sub:∀r∈rs,r.2∈ss/\r.2.2[1]?∣r.1
def ReB.len(h:ReB ss rs): ~~~rs<= ~~~ss:=by
 let:=_ST.nodup_sub h.nd (m:=ss.filterMap λt=>t.2[1]?) λx a=>by
  let%[r,b|rfl]:=Xo a;show MX.mpr %[r.2|h.sub r b]
 rw[Z6]at this;show md this (Of _ _)
def ReB.snoc(h:ReB ss rs)(d:(a,[p,y,z])∈ss)(e:y∉rs\1):ReB ss (rs++[(y,a,[p,y,z])]):=by
 show%[?_|λr f=>?_]
 .rw[Zd,X1];show%[h.nd,by simp|λa g b i c=>e (by rw[<-show b=y from Xn i,<-c];show g)]
 .rcases Xm f with q|q
  .show h.sub r q
  .rw[Xn q];show%[d|ρ]
abbrev ee(d:ij)(H H':Hp):Prop:=∀b o,b≠d->H b∣o->H' b∣o
def ee.trans(h:ee d H H')(g:ee d H' a):ee d H a:=λb o n e=>g b o n (h b o n e)
def ee.of(h:ah H H'):ee d H H':=λb o _ e=>h b o e
def GrB.x(h:GrB H b ss i)(s:ee d H H')(n:b≠d)(j:H d∣.dK m):GrB H' b ss i:=by
 let%[e,f|g]:=h;show%[e,s _ _ n f|λn=>(g n).imp_left λ⟨l,a,b⟩=>%[l,a|s _ _ (λc=>by lia) b]]
def dY.x(h:dY H e ss)(s:ee d H H')(f:H d∣.dK g):dY H' e ss:=λt a=>%[s _ _ (λc=>by let b:=(h t a).1;grind) (h t a).1|(h t a).2]
def GrB.get(h:GrB f b ss i)(s:ee d f H)(nb:b≠d)(q:∀xs,f d≠fx (.lst xs))(r:H p=eH)(n:iv):∃e a,Qa H p (.lst []) b∣.dK e/\(cf e (hY n)).getD (.ref p)= .ref a/\Qa H p (.lst []) a∣.lst ((ss.filter λt=>decide (t.2[i]? =fx n))\0)/\(a=p\/∃o,f a∣o):=by
 let%[e,m|u]:=h;let sp:=ah.Qa (o:= .lst []) r;rcases u n with⟨l,g,j⟩|⟨g,v⟩
 .show%[e,l,sp _ _ (s _ _ nb m),by rw[g];rfl,sp _ _ (s _ _ (λc=>q _ (c▸j)) j)|.inr %[_|j]]
 .show%[e,p,sp _ _ (s _ _ nb m),by rw[g];rfl,?_|.inl rfl];rw[O2.mpr λt y c=>v t y (Zo c)];show af
inductive Bh
 | mk (b e d:ij) (ns F:ZB) (ss:dV _) (rs:Gs iv):vs=[.ref b,.ref e,.ref d]->b≠d->GrB H b ss 0->dY H ns ss-> ~~~ss<=250->H e<*F\3->H d∣.dK (gD rs)->ReB ss rs->(∀g H' new,ee d H H'->H g=eH->H' g<*(new\1)\3->H' d∣.dK (gD (rs++new))->ReB ss (rs++new)->(∀r∈new,∃p∈F,r.2.2[0]?∣p)->(∀x∈F,∀y,Ed (ss\2) x y->y∈(rs++new)\1)->Q (.ref g) H')->Bh vs H Q E0
def yf(T:Txt K mg):↥1 "next_edge" ["beneath","edge","reached"] Bh:=by
 .exists T.aQ,fE,bb,hr,%[b,e,d,ns,F,ss,rs,rfl,ak,hb,al,bc,he,hd,a1|kk];let Fm: ~~~(F\3)= ~~~F:=Z6 _;let ed:e≠d:=λc=>by rw[c,hd]at he;cases he
  show%[_,%["JCG3SBCTW1K4ETW[~A0A4ASBBK5EM~UO5~K2Cu52O5~KEZsl3AO5~KBNEH3",fE.nd|hr]|?_]
  change aW _ _ _ [!b,!e,!d,eH,eH,eH] H;show aj λD1 k1 _=>?_
  lk;show%[#[0]|λg fg=>k1 _ _ (aj λD2 k2 _=>aB λan hK=>?_)];let gd:g≠d:=λc=>by rw[c,hd]at fg;cases fg
  let s1:=ah.Qa (o:= .lst []) fg;let gg:Qa H g (.lst []) g<*(([]:Gs iv)\1)\3:=af
  generalize Qa H g _=H1 at s1 gg
  lk;show%[%[_|Qb.of (s1 _ _ he)]|hK _ _ ?_];show bR (λi U H'=>A3 (E2 λo4 o5=>U=[!b,!e,!d,!g,o4,o5]) (ee d H H') (∃new:Gs iv,A5 (H' g<*(new\1)\3) (H' d∣.dK (gD (rs++new))) (ReB ss (rs++new)) (∀r∈new,∃p∈F,r.2.2[0]?∣p) (∀x∈F.take i,∀y,Ed (ss\2) x y->y∈(rs++new)\1)))
   %[%[_,_|rfl],ee.of s1,[],gg,by rw[Zx];show s1 _ _ hd,by rw[Zx];show a1,λr hr=>(nomatch hr)|λx hx=>(nomatch hx)] (λi U H' h=>h.2 _ _ ed he) ?_ ?_
  .intro i n U H' hn %[%[o4,o5|rfl],sm,new,hg,l,J,ae|m];let tk:F.take (i+1)=F.take i++[n]:=by rw[X9,hn];rfl
   change wC _ _ _ _ [!b,!e,!d,!g,-n,o5] H';show aE λD3 k3 _=>aB λan hK=>?_
   lk;show%[tyD (sm _ _ ak hb.choose_spec.1),#[0]|λp hp=>?_];let%[a2,a,ao,a3,L|a4]:=hb.get sm ak (λxs c=>by rw[hd]at c;cases c) hp n;let ag:a≠g:=by
    rcases a4 with rfl|⟨o,ho⟩
    .show λc=>by rw[c,hg]at hp;cases hp
    .show λc=>by rw[c,fg]at ho;cases ho
   let ad:a≠d:=λc=>by
    let:=L;rw[c,av (λc=>by rw[c,hp]at l;cases l),l]at this;cases this
   let sp:=ah.Qa (o:= .lst []) hp;let hg:=sp _ _ hg;let l:=sp _ _ l;let sm:=sm.trans (ee.of sp)
   generalize Qa H' p _=H2 at ao L sp hg l sm ⊢
   generalize ap:(ss.filter λt=>decide (t.2[0]?∣n))=ts at L
   let tm: ~~~(ts\0)= ~~~ts:=Z6 _;let a5:∀t∈ts,t∈ss/\∃y z,t.2=[n,y,z]:=λt Y=>by
    rw[<-ap]at Y;let%[h1|h2]:=n7.mp Y;let%[x,y,z,e|_]:=(al t h1).2;let h2:=Zo h2;rw[e]at h2;show%[h1,y,z|by rw[e,show x=n from Za h2]]
   show%[hY n,ρ,a2,ao|vV a3 %[%[_|Qb.of L]|hK _ _ ?_]];show bR (λj U O=>A4 (∃o5,U=[!b,!e,!d,!g,-n,o5]) (ee d H O) (O a∣.lst (ts\0)) (∃new:Gs iv,A6 (O g<*(new\1)\3) (O d∣.dK (gD (rs++new))) (ReB ss (rs++new)) (∀r∈new,∃p∈F,r.2.2[0]?∣p) (∀x∈F.take i,∀y,Ed (ss\2) x y->y∈(rs++new)\1) (∀t∈ts.take j,∀y,t.2[1]?∣y->y∈(rs++new)\1)))
    %[%[_|rfl],sm,L,new,hg,l,J,ae,m|λt Y=>(nomatch Y)] (λj U O h=>h.3) ?_ ?_
   .intro j t U O Y %[%[o5|rfl],M,N,new,ab,G,B,C,u|ac];let%[aq,y,z|et]:=a5 t (Z8 Y);let I:=(al.x M hd t aq).1;rw[et]at I;let a6:ts.take (j+1)=ts.take j++[t]:=by rw[X9,Y];rfl
    change kY _ _ _ _ [!b,!e,!d,!g,-n,fx (.ref t.1)] O;show aE λD4 k4 _=>?_
    lk;show%[_,SqT.of I,_,ρ,_,cg.k (k:=hY y) G|?_];let as:∀(nw:Gs iv),(∀x∈(rs++new)\1,x∈(rs++nw)\1)->y∈(rs++nw)\1->(∀x∈F.take i,∀y,Ed (ss\2) x y->y∈(rs++nw)\1)/\∀t∈ts.take (j+1),∀y,t.2[1]?∣y->y∈(rs++nw)\1:=λnw mono hy=>by
     show%[λx hx y h=>mono y (u x hx y h)|λt' ax y' h=>?_];rw[a6]at ax;rcases Xm ax with q|q
     .show mono y' (ac t' q y' h)
     .rw[Xn q,et]at h;rw[<-show y=y' from Za h];show hy
    cases hv:cf (gD (rs++new)) (hY y)with
    | some v=>
      rw[hX ∅];let%[q,hq,e1|_]:=fK hv;let%[n1|n2]:=as new (λ_ h=>h) (by rw[<-e1];show Xp %[q,hq|rfl]);show k4 _ _ %[%[_|rfl],M,N,new,ab,G,B,C,n1|n2]
    | none=>
      rw[jg (by rfl)];let hy:y∉(rs++new)\1:=λh=>by
       let%[q,hq|c]:=Xo h;let:=jq hq;rw[c,hv]at this;show this rfl
      let ln:=B.len;let nl: ~~~new<=250:=by rw[Z9]at ln;lia
      show%[_,SqT.of I,_,ρ,_,gX.k (k:=hY y) G (by unfold gD;rw[Z6];show aF ⋯)|?_];rw[ei _ hv];let e1:gD (rs++new) ++[(hY y,V.ref t.1)]=gD (rs++(new++[(y,t.1,[n,y,z])])):=by
       unfold gD;rw[<-Ze,Zd (l₂:=[_])];rfl
      rw[e1];let u1:∀c o,c≠d->O c∣o->Qa O d (.dK (gD (rs++(new++[(y,t.1,[n,y,z])])))) c∣o:=λc o h e=>(av h)▸e
      let a0:=u1 _ _ gd ab;let R:=B.snoc (p:=n) (y:=y) (z:=z) (a:=t.1) (et▸aq) hy;rw[Ze]at R;let%[n1|n2]:=as (new++[(y,t.1,[n,y,z])]) (λx hx=>by rw[<-Ze,Zd];show Yu _ hx) (by rw[<-Ze,Zd];show Yv _ Zm);show%[tyL (Qb.of a0),_,SqT.of (u1 _ _ (λc=>by rw[c,G]at I;cases I) I),_,ρ,_,a0,by rw[Z6,Z6];show aF ⋯|k4 _ _ %[%[_|ρ],λc o h e=>?_,(av ag).trans (u1 _ _ ad N),_,?_,(av gd.symm).trans af,R,?_,n1|n2]]
      .rw[av (aC e fg)];show u1 _ _ h (M _ _ h e)
      .rw[af,Zd,Zd];rfl
      .intro r hr;rcases Xm hr with q|q
       .show C r q
       .rw[Xn q];show%[n,Z8 hn|ρ]
   .intro U O %[%[o5|rfl],M,N,new,ab,G,B,C,u|ac];rw[Zn (Zi _)]at ac;show k3 _ _ %[%[_,_|rfl],M,new,ab,G,B,C|λx hx y ⟨z,hy⟩=>?_];rw[tk]at hx;rcases Xm hx with q|q
    .show u x q y %[z|hy]
    .rw[Xn q]at hy;let%[t,Y|et]:=Xo hy;show ac t (ap▸n7.mpr %[Y|by rw[et];simp]) y (by rw[et];rfl)
  .intro U H' %[%[o4,o5|rfl],sm,new,hg,l,J,ae|m];rw[Zn (Zi _)]at m;show k2 _ _ ?_;lk;show kk g H' new sm fg hg l J ae m
def uN{b:pp}(h: ¬ (not b)=fI):b=fI:=by
 cases b
 .show m4 rfl h
 .rfl
def j3{rs:Gs iv}{y:iv}(h:y∈rs\1):∃r∈rs,r.1=y/\cf (gD rs) (hY y)∣.ref r.2.1:=by
 cases b:cf (gD rs) _ with
 | none=>
   let%[q,a|c]:=Xo h;let:=jq a;rw[c,b]at this;show(this rfl).elim
 | some v=>
   let%[q,a,e|rfl]:=fK b;show%[q,a,e|ρ]
inductive FG
 | mk (d st goal ns F ss rs dd k):vs=[.ref d,.str st,.str goal]->H d∣.dK (gD rs)->ReB ss rs->Lev (ss\2) st rs dd k F->k<=300->dY H ns ss->goal∈rs\1->(∀l H' (ws:dV _),ah H H'->H l=eH->H' l∣.lst (ws\0)->(∀t∈ws,t∈ss)->Wal (ws\2) st goal-> ~~~ws=dd goal->Q (.ref l) H')->FG vs H Q E0
def FH(T:Txt K mg):↥1 "way_to" ["reached","start","goal"] FG:=by
 .exists T.aR,uj,ab,j,%[d,st,a,ns,F,ss,rs,i,k,rfl,hd,B,l,hk,C,n|kk];show%[_,%["JCG3SAV02BC~TL$OP3~vD}1EZsl3AV0OP3~vD}BEH],3",uj.nd|j]|?_]
  change aW _ _ _ [!d,-st,-a,eH] H;show aj λD1 k1 _=>?_
  lk;let%[r,G,e1|hv]:=j3 n;let get:=cg.k (k:=hY a) hd;rw[hv]at get;show%[_,get,#[1]|λb fw=>k1 _ _ (aj λD2 k2 _=>?_)];let s1:=ah.Qa (o:= .lst [V.ref r.2.1]) fw;let gw:Qa H b (.lst [V.ref r.2.1]) b∣.lst (([]:ZG).reverse\0 ++[V.ref r.2.1]):=af
  generalize Qa H b _=H1 at s1 gw
  show⟨λm σ H'=>σ=[!d,-st,-a,!b]/\ah H H'/\∃(us:ZG) (r:iv×ij×ZB),r∈rs/\m=i r.1/\H' b∣.lst (us.reverse\0 ++[.ref r.2.1])/\(∀t∈us,t∈ss)/\Wal (us\2) r.1 a/\ ~~~us+m=i a,%[_,rfl,s1,[],r,G,rfl,gw,λt h=>(nomatch h),e1|by rw[e1];simp],?_⟩;intro m σ H2 %[rfl,u,us,r,j,rfl,hw,v,y|hl];let%[ac,p,z,I|hp]:=l.by_ r j;let e:=(B.sub r j).1;let g:=u _ _ (C _ e).1;rw[I]at g;let gl:=l.le a n;lk;show%[_,Qb.of hw,_,wG _ _,_,SqT.of g,_,ρ,ρ|bz (λh=>?_) λh=>?_]
  .let h:p≠st:=↑h
   let%[_,J|ae]:=hp.resolve_left λc=>h c.1
   let%[r',L,M|N]:=j3 J;let get:=cg.k (k:=hY p) (u _ _ hd);rw[N]at get;show⟨λO H'=>∃U,U<i r.1/\O=[!d,-st,-a,!b]/\ah H H'/\∃(us:ZG) (r:iv×ij×ZB),r∈rs/\U=i r.1/\H' b∣_/\(∀t∈us,t∈ss)/\Wal (us\2) r.1 a/\ ~~~us+U=i a,λ_ _ h=>h,tyL (Qb.of hw),_,Qb.of hw,_,wG _ _,_,SqT.of g,_,rfl,_,get,_,hw,by rw[Z9,Z6,Ul,Yk];show aF ⋯,_,?_,rfl,ah.set u fw,r.2::us,r',L,rfl,?_,?_,?_,?_⟩
   .rw[M];lia
   .rw[af,RF,Zd];rfl
   .intro t Y;rcases Yw.mp Y with q|q
    .show q▸e
    .show v t q
   .show%[r.1,z,I.trans (by rw[M])|y]
   .rw[Zr,M];lia
  .let h:p=st:=↑h
   show k2 _ _ ?_;lk;show%[_,hw|λq fq=>kk q _ (r.2::us) (u.trans (ah.Qa fq)) (u.free fq) ?_ (λt Y=>?_) %[r.1,z,I.trans (by rw[h])|y] (by rw[Zr];lia)]
   .rw[af,dV.reverse_append,<-dV.map_reverse,dV.reverse_reverse];rfl
   .rcases Yw.mp Y with q|q
    .show q▸e
    .show v t q
inductive yg
 | mk (b st goal ns ss):vs=[.ref b,.str st,.str goal]->GrB H b ss 0->dY H ns ss-> ~~~ss<=250->(∀H',ah H H'-> ¬ Rch (ss\2) st goal->Q .non H')->(∀l H' (ws:dV _),ah H H'->H l=eH->H' l∣.lst (ws\0)->(∀t∈ws,t∈ss)->Sho (ss\2) st goal (ws\2)-> ~~~ws<=300->Q (.ref l) H')->yg vs H Q E0
abbrev L3(H:Hp)(b d:ij)(st a:iv)(ss:ZG)(m:hH)(c:_LL.St)(H':Hp):Prop:=∃e F rs f k,c=[!b,-st,-a,!d,!e]/\ah H H'/\H' e<*F\3/\H' d∣.dK (gD rs)/\ReB ss rs/\Lev (ss\2) st rs f k F/\k<= ~~~rs+1/\(F≠[]->k<= ~~~rs)/\m=2*(250-rs.length) +F.length.min 1
def j4(T:Txt K mg):↥2 "shortest_way" ["beneath","start","goal"] yg:=by
 .exists T.aP,dZ,ap,C,%[b,st,i,ns,ss,rfl,hb,G,ac,kn|ky];show%[_,%["JCG3zCG4SA1BC~Tf)L<bcA4BD*~U23EG4F].A0A4A3BCM~U23EHtNEHF]/A3A1A2B",dZ.nd|C]|?_]
  change aW _ _ _ [!b,-st,-i,eH,eH] H;show aj λD1 k1 _=>?_
  lk;intro d fd;show k1 _ _ (aj λD2 k2 _=>?_);let ae:b≠d:=λc=>by
   let%[aq,N|_]:=hb;rw[c,fd]at N;cases N
  let s1:=ah.Qa (o:= .dK []) fd;let B:Qa H d (.dK []) d∣.dK (gD ([]:Gs iv)):=af
  generalize Qa H d _=H1 at s1 B
  lk;show%[#[1]|λe fe=>k2 _ _ (aj λD3 k3 _=>?_)];let s2:=ah.Qa (o:= .lst [V.str st]) fe;let O:Qa H1 e (.lst [V.str st]) e<*[st]\3:=af;let B:=s2 _ _ B;let U:=s1.trans s2
  generalize Qa H1 e _=H2 at U O B
  show%[L3 H b d st i ss,%[_,e,[st],[],_,_,ρ,U,O,B,%[X3|λ_ h=>(nomatch h)],.nil,by simp,λ_=>Zi _|ρ]|?_];intro m σ H3 %[e,F,rs,dd,k,rfl,I,O,B,J,j,hk,ag|rfl];let fm: ~~~(F\3)= ~~~F:=Z6 _;let get:=cg.k (k:=hY i) B;let rl:=J.len;let L:i∈rs\1↔(cf (gD rs) (hY i)).isSome=fI:=by
   show%[λh=>?_|λh=>?_]
   .let%[r,_,_|e]:=j3 h;rw[e];rfl
   .let%[v|hv]:=Qj.mp h;let%[q,hq,c|_]:=fK hv;show c▸Xp %[q,hq|rfl]
  lk;let fin:(i∉rs\1->F=[])->D3.nx [!b,-st,-i,!d,!e] H3:=λh=>by
   show k3 _ _ (aj λD4 k4 r4=>?_);lk;show%[_,get|bz (λq=>?_) λq=>?_]
   .let q:i∉rs\1:=λc=>by rw[L.mp c]at q;cases q
    show r4 _ _ (kn H3 I λr=>q ?_);let%[n|hn]:=r.dst;rw[h q]at j;show j.stop hn
   .let q:i∈rs\1:=L.mpr (uN q);show k4 _ _ ?_;lk;show%[d,st,i,ns,F,ss,rs,dd,k,ρ,B,J,j,⋯,G.up I,q|λl H' ws s' fl hl Y ak wl=>ky l H' ws (I.trans s') (I.free fl) hl Y %[λk hk=>?_,ak,?_|λn hn=>?_] (by rw[wl];let:=j.le _ q;lia)]
    .let%[t,ht|rfl]:=Xo hk;show Xp %[t,Y t ht|rfl]
    .rw[Z6,wl];show(j.dst q).1
    .rw[Z6,wl];show j.min q hn
  show%[_,.inl %[_,Qb.of O|ρ]|bz (λh=>?_) λh=>fin λ_=>?_]
  .let h:0< ~~~F:=by
    rw[fm]at h;let:=Zo h
    lia
   show%[_,get|bz (λq=>⟨λal H'=>∃m',m'<2*(250-rs.length) +F.length.min 1/\L3 H b d st i ss m' al H',λ_ _ h=>h,b,e,d,ns,F,ss,rs,ρ,ae,hb.up I,G.up I,ac,O,B,J,λg H4 new sx fg hg an u ao M=>?_⟩) λq=>fin λc=>m4 (L.mpr (uN q)) c];let ln:=u.len;rw[Z9]at ln;let ab:F.length.min 1=1:=R6 h;let kF:=ag λc=>by rw[c]at h;cases h
   show%[_,?_,g,new\1,rs++new,_,_,ρ,(λc o ec=>sx c o (λz=>by rw[z,fd]at ec;cases ec) (I _ _ ec)),hg,an,u,j.step u.nd (λr C=>?_) M,?_,λnn=>?_|ρ]
   .rw[ab,Z9,Z6];cases new with
    | nil=>simp
    | cons a r=>
      rw[Zr]at ln ⊢;let:(~~~r+1).min 1<=1:=hH.min_le_right _ _
      lia
   .let%[N|h2]:=u.sub r (Yv _ C);let%[p,hp|h3]:=ao r C;let%[x,y,z,e|_]:=(G r.2 N).2;rw[e]at h2 h3;show%[Xp %[_,N|ρ],p,z,hp|by rw[e,show x=p from Za h3,show y=r.1 from Za h2]]
   .rw[Z9];lia
   .cases new with
    | nil=>show m4 rfl nn
    | cons a r=>rw[Z9,Zr];lia
  .cases F with
   | nil=>rfl
   | cons x F=>show m4 (Zf (by rw[fm,Zr];lia)) h
abbrev VD(a:ZB)(g:iv->V):dV (Key×V):=a.map λz=>(hY z,g z)
def iG:∀{a:ZB},z∈a->cf (VD a g) (hY z)∣g z
 | x::a,h=>by
   by_cases e:x=z
   .subst e;show eY rfl
   .rw[show VD _ g=(hY x,g x)::VD a g from rfl,dC (λq=>e (Nu q))];show iG ((Yw.mp h).resolve_left λq=>e q.symm)
def iy:∀{a:ZB},z∉a->cf (VD a g) (hY z)=eH
 |[],_=>rfl
 | x::a,h=>by
   rw[Yw,OW]at h;rw[show VD _ g=(hY x,g x)::VD a g from rfl,dC (λq=>h.1 (Nu q).symm)];show iy h.2
def FI(h:z∈a):dz (VD a g) (hY z) v=VD a (λx=>if x=z then v else g x):=by
 unfold dz;rw[jg (by rw[jG,iG h];rfl)];unfold VD;rw[Ys];show Yp λx _=>?_
 change(if(hY x)=hY z then((hY x),v)else(hY x,g x))=(hY x,if x=z then v else g x)
 by_cases e:x=z
 .rw[jg (vb _ e),jg e]
 .rw[hX (λq=>e (Nu q)),hX e]
abbrev cnt(ss:ZG)(L:ZB)(n:iv):hH:=ss.countP λt=>decide (t.2[0]?∣n)&&t.2[1]?.all λy=>decide (y∉L)
def HA(ss:dV _)(n:iv):cnt ss [] n= ~~~(ss.filter λt=>decide (t.2[0]?∣n)):=by
 unfold cnt;rw[<-dV.countP_eq_length_filter]
 simp_all
def FJ(h:cnt ss L m=0)(e:Ed (ss\2) m y):y∈L:=by
 let%[z|a]:=e;let%[t,b|c]:=Xo a;let:=dV.countP_eq_zero.mp h t b
 simp_all
def yh(c:m∉L):∀ss:ZG,cnt ss L n=cnt ss (L++[m]) n+(ss.filter λt=>decide (t.2[1]?∣m)).countP λt=>decide (t.2[0]?∣n)
 |[]=>rfl
 | t::ss=>by
   let d:=yh (n:=n) c ss;unfold cnt at d ⊢;rw[Ql,Ql,d];cases b:t.2[1]? with
   | none=>rw[Y4 (by rw[b];simp)];simp only[kf.all_none];lia
   | some y=>
     by_cases e:y=m
     .subst e;rw[Y6 (by rw[b];simp),Ql];by_cases a:t.2[0]?∣n
      .simp[a,c];lia
      .simp[a]
     .rw[Y4 (by rw[b];simpa using e)];by_cases a:t.2[0]?∣n
      .by_cases f:y∈L
       .simp[a,f]
       .simp[a,f,e];lia
      .simp[a]
structure L4 (ss:ZG) (ns L R:ZB):Prop where
 nd:(L++R).Nodup
 mem:∀x,x∈L++R↔x∈ns/\cnt ss L x=0
 ord:∀(i:hH) x,L[i]?∣x->∀y,Ed (ss\2) x y->y∈L.take i
abbrev L5(e:Hp)(l m b a w d ld:ij)(c:ZB)(ss:ZG)(k:hH)(f:_LL.St)(H':Hp):Prop:=∃(g h i:kf V) (L R:ZB),f=[!l,!m,!b,!a,!w,g,!d,!ld,h,i]/\ah e H'/\H' w∣.dK (VD c λn=> .int (cnt ss L n))/\H' d<*R\3/\H' ld<*L\3/\L4 ss c L R/\k= ~~~c-L.length
inductive Bi
 | mk (l m:ij) (ns:ZB) (ss:ZG):vs=[.ref l,.ref m]->H l<*ns\3->ns.Nodup-> ~~~ns<=63->H m∣.lst (ss\0)->dY H ns ss-> ~~~ss<=250->(∀r H' (L:ZB),ah H H'->H' r<*L\3->L.Nodup->(∀x∈L,x∈ns)->(∀(i:hH) x,L[i]?∣x->∀y,Ed (ss\2) x y->y∈L.take i)->(∀x∈ns,x∉L->∃y,Ed (ss\2) x y/\y∈ns/\y∉L)->H r=eH->Q (.ref r) H')->Bi vs H Q E0
def j6(T:Txt K mg):↥3 "laid_in_turn" ["names","found"] Bi:=by
 .exists T.aO,bn,cy,hr,%[l,m,d,ss,rfl,hl,nn,nl,hm,ae,bt|kk];let nm: ~~~(d\3)= ~~~d:=Z6 _;show%[_,%["JCG2F~cA1BCG3F]:A1BC.4qrzCTW0K5EubcA[~A2A5ASBBBQ45C~S6rqg?1W0d0?2wLaVQ10D0CG7SBC~TL<bcA6BDCG8~I];A6BCZ]<]=6A8BCZsl7A8BETW[~A3A8ASBBK9CuI~GVQ4O9}DQ4O9}EMLaVQ4O9}DEZsl6AO9}BNEH7",bn.nd,↑(["name","waits"],[(1,4)]),↑["name","waits"]|hr]|?_]
  change aW _ _ _ [!l,!m,eH,eH,eH,eH,eH,eH,eH,eH] H;show aj λD1 k1 _=>?_
  lk;show%[m,d,ss,ρ,hm,ae,bt|λb H1 s1 fb hb=>k1 _ _ (aj λD2 k2 _=>?_)];lk;show%[m,d,ss,ρ,s1 _ _ hm,ae.up s1,bt|λa H2 s2 fa ha=>k2 _ _ (aj λD3 k3 _=>?_)];let M:=s1.trans s2;let hb:=hb.up s2;lk;intro w fw;show k3 _ _ (aj λD4 k4 _=>aB λa0 hK=>?_);let s3:=ah.Qa (o:= .dK []) fw;let gw:Qa H2 w (.dK []) w∣.dK (VD (d.take 0) λn=> .int (cnt ss [] n)):=af
  generalize Qa H2 w _=H3 at s3 gw
  let cd:=M.trans s3;lk;show%[%[_|Qb.of (cd _ _ hl)]|hK _ _ ?_];let ce:b≠w:=λc=>by
   let%[Y,h1|_]:=hb;rw[c,fw]at h1;cases h1
  let ch:a≠w:=λc=>by
   let%[Y,h1|_]:=ha;rw[c,fw]at h1;cases h1
  let bx:∀xs,H2 w≠fx (.lst xs):=λxs c=>by rw[fw]at c;cases c
  show bR (λi J H'=>A3 (∃o5,J=[!l,!m,!b,!a,!w,o5,eH,eH,eH,eH]) (ah H2 H') (H' w∣.dK (VD (d.take i) λn=> .int (cnt ss [] n))))
   %[%[_|rfl],s3|gw] (λi J H' h=>h.2 _ _ (M _ _ hl)) ?_ ?_
  .intro i n J H' hn %[%[o5|rfl],sm|hw];let i1:i< ~~~d:=(Xl hn).1;change pH _ _ _ _ [!l,!m,!b,!a,!w,-n,eH,eH,eH,eH] H';show aE λD5 k5 _=>?_
   lk;show%[tyD (sm _ _ hb.choose_spec.1),#[0]|λp hp=>?_];let%[Y,al,cl,ag,N|b0]:=hb.get (ee.of sm) ce bx hp n;let sp:=ah.Qa (o:= .lst []) hp;show%[hY n,ρ,Y,cl,_,by rw[ag];show .inl %[_,Qb.of N|ρ],_,gX.k (k:=hY n) (sp _ _ hw) (by unfold VD;rw[Z6,Yl];show aF ⋯)|k5 _ _ %[%[_|ρ],ah.set (sm.trans sp) fw|?_]];let zn:n∉d.take i:=λhm=>by
    let h:=nn;rw[<-Xa i d,X1]at h;show h.2.2 n hm n (Z8 (i:=0) (by rw[Pl];show hn)) rfl
   rw[af,ei _ (iy zn),Z6,<-HA,X9,hn];unfold VD;rw[Zd];rfl
  .intro J H' %[%[o5|rfl],sm|hw];rw[Zn (Zi _)]at hw;show k4 _ _ (aj λD5 k5 _=>aN λa0 hK=>?_);lk;let b1:=sm _ _ (M _ _ hl);show%[%[_|Qb.of b1]|hK _ _ λC ab=>?_];show di (λj vs J H3=>A4 (∃o1,J=[o1,!w]) (ah H' H3) (H3 C<*vs) (vs=((d.take j).filter λn=>decide (cnt ss [] n=0))\3))
    %[%[eH|rfl],ah.Qa ab,af|rfl] (λ_ _ _ H3 cm=>cm.2 _ _ b1) ?_ ?_
   .intro j vs J H4 hj %[%[o1|rfl],G,b2|hv];let get:=cg.k (k:=hY d[j]) (G _ _ hw);rw[iG (Yd hj)]at get;lk;show%[_,get,ρ|bz (λh=>?_) λh=>?_]
    .let h:cnt ss [] d[j]=0:=↑h
     show CK.mk hj b2 (by rw[hv,Z6];let:=Yi (λn=>decide (cnt ss [] n=0)) (d.take j);rw[Yl]at this;show aF ⋯) %[%[_|rfl],ah.set G ab,af|?_];rw[hv,X9,Z4 hj,Y2,Zd];change _=_++(N1 _ [d[j]])\3;rw[Y6 ↑h];rfl
    .let h:cnt ss [] d[j]≠0:=↑h
     show CN.mk hj %[%[_|rfl],G,b2|?_];rw[hv,X9,Z4 hj,Y2,Zd];change _=_++(N1 _ [d[j]])\3;rw[Y4 ↑h];simp
   intro vs J H3 %[_,G,ak|hv];rw[Zn (Zi _)]at hv;rw[hv]at ak;show k5 _ _ (aj λD6 k6 _=>?_);let O:=G _ _ hw;let a2:=sm.trans G;let a3:w≠C:=λc=>by rw[<-c,hw]at ab;cases ab
   let a4:=sm.free ab;lk;show%[#[0]|λld fld=>k6 _ _ (aj λD7 k7 _=>?_)];let s4:=ah.Qa (o:= .lst []) fld;let a5:Qa H3 ld (.lst []) ld<*([]:ZB)\3:=af;let b3:w≠ld:=λc=>by rw[<-c,O]at fld;cases fld
   let a6:C≠ld:=λc=>by rw[<-c,ak]at fld;cases fld
   let bb:=s4 _ _ O;let bc:=s4 _ _ ak;let be:=a2.trans s4;let fld:=a2.free fld
   generalize Qa H3 ld _=H4 at s4 a5 bb bc be
   show%[L5 H2 l m b a w C ld d ss,%[_,o5,eH,eH,[],_,ρ,be,bb,bc,a5,%[nn.filter _,λx=>by simp|λi x e=>by simp at e]|ρ]|?_];clear be bb bc a5 ak O hw hv G a2 sm;intro k J H5 %[o5,o8,o9,L,R,rfl,sm,hw,hR,hL,u|rfl];let Rm: ~~~(R\3)= ~~~R:=Z6 _;let cI: ~~~L+ ~~~R<= ~~~d:=by
    rw[<-Z9];show _ST.nodup_sub u.nd λx hx=>((u.mem x).mp hx).1
   lk;show%[~~~R,.inl %[_,Qb.of hR|Rm.symm]|bz (λh=>?_) λh=>?_]
   .let h:0< ~~~R:=by let:=Zo h;lia
    show⟨λco H'=>∃m',m'< ~~~d-L.length/\L5 H2 l m b a w C ld d ss m' co H',λ_ _ h=>h,R,Qb.of hR,h,λx hx _=>%[tyL (Qb.of hR),R,hR,hx|λR1 pm=>?_]⟩;let u1:=ah.set (o:= .lst (R1\3)) sm a4;let bf:Qa H5 C (.lst (R1\3)) C=_:=af;let bl:Qa H5 C (.lst (R1\3)) w=_:=(av a3).trans hw;let an:Qa H5 C (.lst (R1\3)) ld=_:=(av a6.symm).trans hL
    generalize Qa H5 C _=H6 at u1 bf bl an ⊢
    show%[tyL (Qb.of an),_,an,by rw[Z6];show aF ⋯|aE λcM cp _=>aB λa0 hK=>?_];let u2:=ah.set (o:= .lst (L\3++[.str x])) u1 fld;let ao:Qa H6 ld (.lst (L\3++[.str x])) ld<*(L++[x])\3:=by rw[af,Zd];rfl
    let ap:Qa H6 ld (.lst (L\3++[.str x])) w=_:=(av b3).trans bl;let aq:Qa H6 ld (.lst (L\3++[.str x])) C=_:=(av a6).trans bf
    generalize Qa H6 ld _=H7 at u2 ao ap aq ⊢
    lk;show%[tyD (u2 _ _ ha.choose_spec.1),#[0]|λp hp=>?_];let%[Y,al,ag,cs,N|b0]:=ha.get (ee.of u2) ch bx hp x;let bm:∀{c:ij} {o:HO},H7 c∣o->H2 c=eH->al≠c:=λ{c o} h1 h2=>by
     rcases b0 with rfl|⟨o',ho⟩
     .show λz=>by rw[z,h1]at hp;cases hp
     .show λz=>by rw[z,h2]at ho;cases ho
    let ct:=bm ap fw;let cv:=bm aq a4;let all:=bm ao fld;let sp:=ah.Qa (o:= .lst []) hp;let O:=sp _ _ ap;let b4:=sp _ _ aq;let b5:=sp _ _ ao;let u3:=u2.trans sp
    generalize Qa H7 p _=H8 at ag N O b4 b5 u3 ⊢
    clear u1 u2 ap aq ao bl bf an hp sp
    generalize b6:(ss.filter λt=>decide (t.2[1]?∣x))=ts at N
    let tm: ~~~(ts\0)= ~~~ts:=Z6 _;let xL:x∉L:=λc=>(X1.mp u.nd).2.2 x c x hx rfl
    let pr:(L++[x] ++R1).Perm (L++R):=by
     rw[Ze];show pm.append_left L
    let f0:∀n,cnt ss L n=cnt ss (L++[x]) n+(ts.drop 0).countP λt=>decide (t.2[0]?∣n):=λn=>by rw[SQ,<-b6];show yh xL ss
    let cw:∀t∈ts,∃n z,t.2=[n,x,z]/\n∈d/\H t.1&&&[n,x,z]\3:=λt ht=>by
     rw[<-b6]at ht;let%[h1|h2]:=n7.mp ht;let%[h3,n,y,z,e,hn|_]:=ae t h1;let h2:=Zo h2;rw[e]at h2 h3;obtain rfl:y=x:=Za h2;show%[n,z,e,hn|h3]
    show%[hY x,ρ,Y,ag|vV cs %[%[_|Qb.of N]|hK _ _ ?_]];show bR (λj J H'=>A6 (∃o9,J=[!l,!m,!b,!a,!w,o5,!C,!ld,-x,o9]) (ah H2 H') (H' al∣.lst (ts\0)) (H' w∣.dK (VD d λn=> .int ((cnt ss (L++[x]) n+(ts.drop j).countP λt=>decide (t.2[0]? =fx n):hH):nX))) (H' ld<*(L++[x])\3) (∃Rj:ZB,A3 (H' C<*Rj\3) ((L++[x] ++Rj).Nodup) (∀y,y∈L++[x] ++Rj↔y∈d/\cnt ss (L++[x]) y+((ts.drop j).countP λt=>decide (t.2[0]?∣y))=0)))
     %[%[_|rfl],u3,N,by rw[O];show vb (λg=>fx (HO.dK (VD d g))) (funext λn=>by rw[f0 n]),b5,R1,b4,pr.nodup_iff.mpr u.nd|λy=>by rw[<-f0,pr.mem_iff];show u.mem y] (λj J H' h=>h.3) ?_ ?_
    .intro j t J H' ht %[%[o9|rfl],as,v,I,U,Rj,B,rn|rz];let jl:=(Xl ht).1;let%[n,z,et,hn|r]:=cw t (Z8 ht);let r:=as _ _ (M _ _ r);let dr:ts.drop j=t::ts.drop (j+1):=by rw[Zy jl,(Xl ht).2]
     rw[dr]at I rz;let get:=cg.k (k:=hY n) I;rw[iG hn]at get;let tw:t.1≠w:=λc=>by rw[c,I]at r;cases r
     let c0:=(X1.mp rn)
     let rl: ~~~Rj<= ~~~d:=by
      let:=_ST.nodup_sub rn λy hy=>((rz y).mp hy).1
      rw[Z9]at this
      lia
     change aW _ _ _ [!l,!m,!b,!a,!w,o5,!C,!ld,-x,fx (.ref t.1)] H';show aj λc1 cx _=>?_
     lk;let one:∀y,(t::ts.drop (j+1)).countP (λt=>decide (t.2[0]?∣y))=((ts.drop (j+1)).countP λt=>decide (t.2[0]?∣y)) +if y=n then 1 else 0:=λy=>by
      rw[Ql,et];by_cases c:y=n
      .rw[jg c,jg (by rw[c];simp)]
      .rw[hX c,hX (by simpa using λq=>c q.symm)]
     show%[_,SqT.of r,_,ρ,_,get,_,SqT.of r,_,ρ,_,gX.k (k:=hY n) I (by unfold VD;rw[Z6];show aF ⋯)|cx _ _ (aE λc2 b9 _=>?_)];rw[FI hn];let e1:(λy=>if y=n then V.int (((cnt ss (L++[x]) n+(t::ts.drop (j+1)).countP λt=>decide (t.2[0]?∣n):hH):nX) -1)else V.int ((cnt ss (L++[x]) y+(t::ts.drop (j+1)).countP λt=>decide (t.2[0]?∣y):hH):nX))=λy=>V.int ((cnt ss (L++[x]) y+(ts.drop (j+1)).countP λt=>decide (t.2[0]?∣y):hH):nX):=funext λy=>by
      rw[one,one];by_cases c:y=n
      .rw[jg c,c,jg rfl]
       congr 1
       lia
      .rw[hX c,hX c];rfl
     rw[e1];let v1:=ah.set (o:= .dK (VD d λy=>V.int ((cnt ss (L++[x]) y+(ts.drop (j+1)).countP λt=>decide (t.2[0]?∣y):hH):nX))) as fw;let ax:Qa H' w (.dK (VD d λy=>V.int ((cnt ss (L++[x]) y+(ts.drop (j+1)).countP λt=>decide (t.2[0]?∣y):hH):nX))) w=_:=af;let ac:∀c o,c≠w->H' c∣o->Qa H' w (.dK (VD d λy=>V.int ((cnt ss (L++[x]) y+(ts.drop (j+1)).countP λt=>decide (t.2[0]?∣y):hH):nX))) c∣o:=λc o h e=>by rw[av h];show e
     generalize Qa H' w _=H9 at v1 ax ac
     let r:=ac _ _ tw r;let v:=ac _ _ ct v;let U:=ac _ _ b3.symm U;let B:=ac _ _ a3.symm B;let get:=cg.k (k:=hY n) ax;rw[iG hn]at get;let ca:n∉L++[x] ++Rj:=λc=>by
      let:=((rz n).mp c).2;rw[one,jg rfl]at this
      lia
     let a1:∀y,y≠n->(y∈L++[x] ++Rj↔y∈d/\cnt ss (L++[x]) y+((ts.drop (j+1)).countP λt=>decide (t.2[0]?∣y))=0):=λy c=>by
      rw[rz y,one,hX c];rfl
     lk;show%[_,SqT.of r,_,ρ,_,get,ρ|bz (λh=>?_) λh=>?_]
     .let h:cnt ss (L++[x]) n+((ts.drop (j+1)).countP λt=>decide (t.2[0]?∣n))=0:=by
       let:=V.int.inj (Zo h)
       lia
      let tr:t.1≠C:=λc=>by rw[c,B]at r;cases r
      show%[tyL (Qb.of B),_,SqT.of r,_,ρ,_,B,by rw[Z6];show aF ⋯|b9 _ _ %[%[_|ρ],ah.set v1 a4,(av cv).trans v,(av a3).trans ax,(av a6.symm).trans U,Rj++[n],by rw[af,Zd];rfl,?_|λy=>?_]]
      .rw[<-Ze,X1];show%[rn,by simp|λa ha b hb c=>ca (by rw[<-Xn hb,<-c];show ha)]
      .rw[<-Ze,Yt,Yy];by_cases c:y=n
       .rw[c];show%[λ_=>%[hn|h]|λ_=> .inr rfl]
       .rw[<-a1 y c];show%[λq=>q.resolve_right c|.inl]
     .show b9 _ _ %[%[_|rfl],v1,v,ax,U,Rj,B,rn|λy=>?_];by_cases c:y=n
      .rw[c];show%[λq=>m4 q ca|λq=>m4 (Zf (vb (λi:hH=>V.int i) q.2)) h]
      .show a1 y c
    .intro J H' %[%[o9|rfl],as,v,I,U,Rj,B,rn|rz];rw[dV.drop_length]at I rz;show cp _ _ %[_,?_,o5,_,o9,L++[x],Rj,rfl,as,I,B,U,%[rn,rz|λi y hi y' e=>?_]|rfl]
     .rw[Z9,Yk]
      lia
     .by_cases il:i< ~~~L
      .rw[Y9 il]at hi;rw[Xb (Yf il)];show u.ord i y hi y' e
      .let ie:i= ~~~L:=by
        let:=(Xl hi).1;rw[Z9,Yk]at this
        lia
       subst ie;rw[Ya (Zi _),Qw,Tk]at hi;obtain rfl:=Za hi;rw[Xb (Zi _),Xc];show FJ ((u.mem x).mp (Yv _ hx)).2 e
   .show k7 _ _ ?_;lk;let R0:R=[]:=by
     cases R with
     | nil=>rfl
     | cons x R=>show m4 (Zf (by rw[Zr];lia)) h
    subst R0;let mem:=u.mem;let nd:=u.nd;rw[Zx]at mem nd;show kk ld H5 L (M.trans sm) hL nd (λx hx=>((mem x).mp hx).1) u.ord (λx hx nx=>?_) (M.free fld);let:cnt ss L x≠0:=λc=>nx ((mem x).mpr %[hx|c])
    let%[t,ht|q]:=dV.countP_pos_iff.mp (P7 this);let%[a,b,z,e,_|hb]:=(ae t ht).2;rw[e]at q;simp only[Zv]at q;let q1:a=x:=Za (Zo q.1);show%[b,%[z|by rw[<-q1,<-e];show Xp %[t,ht|ρ]],hb|Zo q.2]
inductive yi
 | mk (l m ns ss):vs=[.ref l,.ref m]->H l<*ns\3->ns.Nodup-> ~~~ns<=63->H m∣.lst (ss\0)->dY H ns ss-> ~~~ss<=250->(∀r H' (us:ZB),ah H H'->H' r<*us\3->(∀x∈ns,Rch (ss\2) x x->x∈us)->Q (.ref r) H')->yi vs H Q E0
structure qY (H:Hp) (ks:dV ZB) (ss:ZG) (r:ij) (ws:ZG) (x:iv):Prop where
 at_:H r∣.lst (ws\0)
 sub:∀t∈ws,t∈ss
 sho:Sho ks x x (ws\2)
 len: ~~~ws<=300
def qY.up(h:qY H ks ss r ws x)(s:ah H H'):qY H' ks ss r ws x:=%[s _ _ h.at_,h.sub,h.sho|h.len]
inductive yj
 | mk (l m ns ss):vs=[.ref l,.ref m]->H l<*ns\3->ns.Nodup-> ~~~ns<=63->H m∣.lst (ss\0)->dY H ns ss-> ~~~ss<=250->(∀H',ah H H'->(∀x,¬ Rch (ss\2) x x)->Q .non H')->(∀r H' ws x,ah H H'->H r=eH->qY H' (ss\2) ss r ws x->(∀y n,Dst (ss\2) y (n+1) y-> ~~~ws<=n+1)->Q (.ref r) H')->yj vs H Q E0
def wo(T:Txt K mg):↥4 "never_laid" ["names","found"] yi:=by
 .exists T.aU,r9,C,G,%[l,m,a,ss,rfl,n,I,nl,J,g,i|M];show%[_,%["JEH(~.AI]>~N~nA0B~N~nAF~8A0A1BBB",0|G]|?_];change iI _ _ [!l,!m] H;lk;show%[a,Qb.of n,⋯|λp N=>?_];let b:=ah.Qa (o:=oN w p (ba a)) N;let y:=own b
  generalize Qa H p _=H1 at b y ⊢
  show%[l,m,a,ss,ρ,b _ _ n,I,nl,b _ _ J,g.up b,i|λr H2 L z O U Y j _ _=>?_];let Ll:=_ST.nodup_sub U Y;show%[L,Qb.of O,⋯|λq fq=>?_];let B:=ah.Qa (o:=oN w q (ba L)) fq;let fl:=_ST.nodup_sub (dD a) λx d=>a9.mp d
  show%[_,(B _ _ (z _ _ y)),_,af,⋯|λu ms fu e mn=>%[ms,af,?_|λv us fv pu _=>?_]]
  .let:=_ST.nodup_sub mn λx d=>a9.mp ((e x).mp d).1
   lia
  .show M v _ us (b.trans (z.trans (B.trans ((ah.Qa fu).trans (ah.Qa fv))))) af λx d rx=>?_
   rw[pu.mem_iff,e];show%[a9.mpr d|λc=>Hr j (a9.mp c) rx]
def yk{d:ZB}{ss:ZG}(h:∀t∈ss,d9 d t.2){x y:iv}(r:Rch (ss\2) x y):x∈d:=by
 induction r with
 | one e=>
   let%[z|g]:=e;let%[t,i|f]:=Xo g;let%[a,b,c,e,j|_]:=h t i;rw[e]at f;show((NK f).1)▸j
 | more _ _ l=>show l
def jB(T:Txt K mg):↥5 "shortest_ring" ["names","found"] yj:=by
 .exists T.aT,cj,ag,hr,%[l,m,N,ss,rfl,hl,nn,nl,hm,c,u,kn|ky];show%[_,%["JCG2F~cA1BCG3tCTWF]^A0A1BK4CG5F~9A2A4A4BEMf)L~!5t*fpL~B3tvL~LbcA5BbcA3BEG35NEH3",cj.nd|hr]|?_]
  change aW _ _ _ [!l,!m,eH,eH,eH,eH] H;show aj λD1 k1 _=>?_
  lk;show%[m,N,ss,ρ,hm,c,u|λb H1 O fb hb=>k1 _ _ (aj λD2 k2 _=>?_)];lk;show k2 _ _ (aj λD3 k3 _=>aB λae hK=>?_);lk;show%[l,m,N,ss,ρ,O _ _ hl,nn,nl,O _ _ hm,c.up O,u|λr H2 us s2 C G=>%[%[_|Qb.of C]|hK _ _ ?_]];let g:=O.trans s2;show bR (λi U H'=>(E3 λv o4 Y=>U=[!l,!m,!b,fx v,o4,Y]/\((v= .non/\∀x∈us.take i,¬ Rch (ss\2) x x)\/∃q ws x,v= .ref q/\H q=eH/\qY H' (ss\2) ss q ws x/\∀y∈us.take i,∀n,Dst (ss\2) y (n+1) y-> ~~~ws<=n+1))/\ah H2 H')
   %[%[_,_,_,rfl|.inl %[rfl|λx hx=>(nomatch hx)]]|λ_ _ e=>e] (λi U H' h=>h.2 _ _ C) ?_ ?_
  .intro i n U H' hn %[%[v,o4,Y,rfl|I]|j];let tk:us.take (i+1)=us.take i++[n]:=by rw[X9,hn];rfl
   change aW _ _ _ [!l,!m,!b,fx v,-n,Y] H';show aj λD4 k4 _=>?_
   lk;show%[b,n,n,N,ss,ρ,hb.up (s2.trans j),c.up (g.trans j),u,λH3 z nr=>k4 _ _ (aE λD5 k5 _=>?_)|λq H3 ws z J B sub rr rl=>k4 _ _ (aE λD5 k5 _=>?_)]
   .lk;rw[hX ∅];show k5 _ _ %[%[v,_,_,rfl|I.imp (λh=>%[h.1|λx hx=>?_]) λ⟨q,ws,x,e,J,B,o⟩=>%[q,ws,x,e,J,B.up z|λy a m d=>?_]]|j.trans z]
    .rw[tk]at hx;rcases Xm hx with h'|h'
     .show h.2 x h'
     .rw[Xn h'];show nr
    .rw[tk]at a;rcases Xm a with h'|h'
     .show o y h' m d
     .rw[Xn h']at d;show(nr d.rch).elim
   .lk;rw[jg ∅];let wl:∀zs:ZG,~~~(zs\0)= ~~~zs:=λzs=>Z6 _
    let p:=λm d=>by
     let:=rr.min m d;rwa[Z6]at this
    let put:(∀y∈us.take i,∀m,Dst (ss\2) y (m+1) y-> ~~~ws<=m+1)->D5.nx [!l,!m,!b,!q,-n,!q] H3:=λo=>k5 _ _ ⟨%[_,_,_,rfl|.inr ⟨q,ws,n,rfl,(g.trans j).free J,%[B,sub,rr|rl],λy a m d=>by
     rw[tk]at a;rcases Xm a with h'|h'
     .show o y h' m d
     .rw[Xn h']at d;show p m d⟩],j.trans z⟩
    rcases I with⟨rfl,ab⟩|⟨q',L,x',rfl,ac,M,o⟩
    .rw[jg ∅];show put λy a m d=>(ab y a d.rch).elim
    .rw[hX ∅];show%[_,.inl %[_,Qb.of B|(wl ws).symm],_,.inl %[_,Qb.of (z _ _ M.at_)|(wl L).symm]|bz (λlt=>put λy a m d=>?_) λlt=>k5 _ _ %[%[_,_,_,ρ|.inr %[q',L,x',ρ,ac,M.up z|λy a m d=>?_]]|j.trans z]]
     .let:=o y a m d;let:=Zo lt
      lia
     .rw[tk]at a;rcases Xm a with h'|h'
      .show o y h' m d
      .rw[Xn h']at d;let:=p m d
       lia
  .intro U H' %[%[v,o4,Y,rfl|I]|j];rw[Zn (Zi _)]at I;show k3 _ _ ?_;lk;rcases I with⟨rfl,h⟩|⟨q,ws,x,rfl,J,B,o⟩
   .show kn H' (g.trans j) λx rx=>h x (G x (yk (λt ht=>(c t ht).2) rx) rx) rx
   .show ky q H' ws x (g.trans j) J B λy n d=>o y (G y (yk (λt ht=>(c t ht).2) d.rch) d.rch) n d
abbrev L6(ws:ZG):Prop:=∀p∈ws,~~~p.2<=3/\∀z∈p.2,Sml z
inductive wp (C:ij)
 | mk (a r:ij) (ws:ZG):vs=[.ref a,.ref r]->H r∣.lst (ws\0)->aI H ws-> ~~~ws<=300->L6 ws->H a∣ExO a C eH->(∀l d,H l=eH->H d=eH->d≠l->Q .non (Qa (Qa (Qa H l (.lst (ws\0))) a (ExO a C (fx d))) d (.xd [("ring",.ref l)])))->wp C vs H Q E0
def C_Torn(T:Txt K mg):JT P w K mg base 1 "Torn" ["self","ring"] (wp (aP mg "Torn")):=by
 show T.x_Torn.cal wa (by intro a b c d h;let%[_,_,_,rfl|_]:=h;rfl) (λf m A outer s H vs Q E n g h=>?_)
 .let%[a,r,ws,rfl,i,o,p,u,j|q]:=h;show%[_,(QSs.h (ai (bK rfl (JX (C:=aP mg "Torn") n rfl T.c_DigError T.i_DigError rfl rfl %[_|ρ] #[↑0,Eo (pjE cA (pjE (LF g.gd g.units ↑1) En))]))
   (au (Lj (C:=aP mg "Torn") T.f_Torn_ring rfl ↑0 (ctO (i8 (K:=K) rfl) T.a5 QD rfl #[↑1])))))|?_]
  change aW _ _ _ [fx _,fx _] H;lk;let y:(Me++n0 "torn by the ring ").length=17:=!0
  show%[by rw[PySem.sizeLine_eq];lia,r,ws,ρ,i,o,p,u|λz B=>%[z,ρ,by rw[strLen_append,PySem.sizeLine_eq];lia,by rw[strLen_append,PySem.sizeLine_eq];lia,by simp,%[_|j]|?_]];show%[_,.inl (Qb.of i)|λl b=>%[a,ρ,ah.Qa b _ _ j|λd c v=>?_]];let dl:d≠l:=λe=>by rw[e,af]at c;cases c
  rw[av dl]at c;show q l d b c dl
def Ae{C r:ij}{ws:dV _}{H H':Hp}{v:_LL.St}{D:jC}{t:TA}{E:XK}(j:ah H H')(G:H' r∣.lst (ws\0))(I:aI H' ws)(c: ~~~ws<=300)(J:L6 ws)(L:∀Q,Q [.ref r] H'->t v H' Q)
 (k:∀d l f,ah H f->ah H' f->H d=eH->H l=eH->d≠l->f d∣.xd [("ring",.ref l)]->f l∣.lst (ws\0)->E (.ref C) (fx d) f):
 vC C (zD C (wp C) t) (λa y=>∃d,y a∣ExO a C (fx d)/\H a=eH/\E (.ref C) (fx d) (drop y a)) D v H':=by
 show L _ %[by simp|λx p=>?_];let A:=ah.Qa (o:=ExO x C eH) p;show%[x,r,ws,ρ,A _ _ G,aG I λb z e=>A _ _ e,c,J,af|λl d c m g=>?_];let q:l≠x:=λe=>by rw[e,af]at c;cases c
 let n:d≠x:=λe=>by rw[e,af]at m;cases m
 let h:=by rw[av q]at c;show c
 let i:=by rw[av n]at m;show m
 let s:∀b,b≠x->b≠l->b≠d->drop (Qa (Qa (Qa (Qa H' x (ExO x C eH)) l (.lst (ws\0))) x (ExO x C (fx d))) d (.xd [("ring",.ref l)])) x b=H' b:=λb n1 M N=>by
  rw[bW n1,av N,av n1,av M,av n1]
 let B:ah H' (drop _ x):=λb u e=>by
  rw[s b (aC e p) (aC e h) (aC e i)];show e
 show%[ρ,x,d,ρ,?_,d,?_,j.free p|k d l _ (j.trans B) B (j.free i) (j.free h) g ?_ ?_]
 .rw[av n.symm,af]
 .rw[av n.symm,af]
 .rw[bW n,af]
 .rw[bW q,av g.symm,av q,af]
def d5{S:iv->iv->Prop}(h:bE S z m)(c:dj S z x):bE S x m:=%[c.symm.trans h.1|λy d=>h.2 y (c.trans d)]
def cZ(h:cV H c qs)(a b:iv)(s:a7 qs a b):a∈c/\b∈c:=by
 let%[q,d|e]:=s;rcases(h q d).2 with⟨f,x,y,g,_,i,j,_⟩|⟨f,x,y,g,_⟩
 .simp_all
 grind
structure iH (mg:ZC) (H:Hp) (g:ij) (qs:ZN) (ls:ZB) (ts:ZG):Prop where
 gr:∃c2 c3 c4,GrF mg H g c2 c3 c4 qs ls ts
 nd:ls.Nodup
 so:ls.Pairwise (λa b=>aS b a=fS)
 ll: ~~~ls<=63
 tl: ~~~ts<=250
 t3:∀k∈ts\2,d9 ls k
 sm:∀k∈ts\2,∀z∈k,Sml z
 lm:∀z∈ls,Sml z
def iH.up(h:iH mg H g qs a ts)(s:ah H H'):iH mg H' g qs a ts:=by
 let%[c2,c3,b|c]:=h.gr;show%[%[c2,c3,b|c.up s],h.nd,h.so,h.ll,h.tl,h.t3,h.sm|h.lm]
def iH.ends(h:iH mg H g qs f ts)(i:b7 (a7 qs) (ts\2) lk)(j:k∈lk):∃a b z,k=[a,b,z]/\(a∈f/\bE (a7 qs) a a)/\b∈f/\bE (a7 qs) b b:=by
 let%[c2,c3,r|l]:=h.gr;let%[a,b,z,m,n,o,c,d|rfl]:=(i.mem k).mp j;let%[x,y,u,e,p|q]:=h.t3 _ o;simp only[Np,Vw]at e;let%[rfl,rfl|rfl]:=e;let ws:=cZ l.sa;show%[m,n,z,ρ,%[c.1.within ws p|d5 c c.1],d.1.within ws q|d5 d d.1]
def iH.short(h:iH mg H g qs o ts)(d:b7 (a7 qs) (ts\2) lk)(f:k∈lk): ~~~k<=3/\∀z∈k,Sml z:=by
 let%[c2,c3,p|i]:=h.gr;let%[a,b,z,q,r,c,j,l|rfl]:=(d.mem k).mp f;let%[x,y,u,e,m|n]:=h.t3 _ c;simp only[Np,Vw]at e;let%[rfl,rfl|rfl]:=e;let ws:=cZ i.sa;show%[Zi _|KD (h.lm _ (j.1.within ws m)) (h.lm _ (l.1.within ws n)) (h.sm _ c z ∅)]
def iH.names(h:iH mg H g qs d ts)(f:b7 (a7 qs) (ts\2) lk)(c:Bg (a7 qs) d i):∀k∈lk,d9 i k:=λk j=>by
 let%[a,b,z,e,l|m]:=h.ends f j;show%[a,b,z,e,(c.mem a).mpr l|(c.mem b).mpr m]
def iH.ties(h:iH mg H g qs c ts)(d:b7 (a7 qs) (ts\2) lk):∀k∈lk,d9 c k:=λk f=>by
 let%[a,b,z,e,i|j]:=h.ends d f;show%[a,b,z,e,i.1|j.1]
def qZ(a:aI H ss)(h:∀k∈ss\2,d9 b k):dY H b ss:=λt q=>%[(a t q).2|h _ (Xp %[t,q|rfl])]
inductive uO (mg:ZC)
 | mk (g:ij) (qs:ZN) (ls:ZB) (ts:ZG):vs=[.ref g]->iH mg H g qs ls ts->(∀lk,b7 (a7 qs) (ts\2) lk->∀x,¬ Rch lk x x)->(∀l H' ns (ss:ZG),ah H H'->H' l∣.lst (ss\0)->dY H' ns ss-> ~~~ss<=250->b7 (a7 qs) (ts\2) (ss\2)->Q (.ref l) H')->uO mg vs H Q E0
def _root_._CU.Sho.same{ks c us:dV _}{a b:iv}(h:Sho ks a b us)(e:∀k,k∈ks↔k∈c):Sho c a b us:=%[λk d=>(e k).mp (h.sub k d),h.wal,h.pos|by rw[<-jZ e];show h.min]
structure q0 (H:Hp) (lk:dV ZB) (d l:ij) (ws:ZG) (x:iv):Prop where
 ad:H d∣.xd [("ring",.ref l)]
 al:H l∣.lst (ws\0)
 tu:aI H ws
 sho:Sho lk x x (ws\2)
 min:∀y n,Dst lk y (n+1) y-> ~~~ws<=n+1
 len: ~~~ws<=300
inductive wq (mg:ZC) (vs:ZM) (H:Hp) (Q:VK) (E:XK):Prop
 | mk (g:ij) (qs:ZN) (ls:ZB) (ts:ZG) (lk:dV ZB) (us:ZM):vs=[.ref g]->iH mg H g qs ls ts->b7 (a7 qs) (ts\2) lk->(∃x,Rch lk x x)->(∀d l H' ws x,ah H H'->H d=eH->H l=eH->d≠l->q0 H' lk d l ws x->E (.ref (aP mg "Torn")) (fx d) H')->wq mg vs H Q E
def j7(T:Txt K mg):↥6 "untorn_links" ["ground"] (uO mg):=by
 .exists T.aV,cC,z,d,%[g,qs,e,ts,rfl,a,nr|B];let%[c2,c3,j|n]:=a.gr;let M:=a.ll;show%[_,%["JCG1F]AA0BCG2F]BAF~$A0BA1BCML~!2tE;NEH1",cC.nd|d]|?_]
  change aW _ _ _ [!g,eH,eH] H;show aj λN k1 _=>?_
  lk;show%[g,c2,c3,j,qs,e,ts,ρ,n,a.nd,a.so,⋯,a.tl,a.t3|λm O ss o U p C lk q=>k1 _ _ (aj λY k2 _=>?_)];lk;show%[g,c2,c3,j,qs,e,ts,ρ,n.up o,a.nd,a.so,⋯|λl H2 u i fl G c=>?_];let v:=qZ C (a.names lk c);show%[l,m,u,ss,ρ,G,c.nd,?_,i _ _ p,v.up i,q,λH' y _=>k2 _ _ (aj λD3 I _=>?_)|λr H' ws x y _ J _=>(nr _ lk x J.sho.rch).elim]
  .let:=_ST.nodup_sub c.nd λx L=>((c.mem x).mp L).1
   lia
  .lk;show I _ _ ?_;let b:=i.trans y;show B m H' u ss (o.trans b) (b _ _ p) (v.up b) q lk
def gQ(T:Txt K mg):zE P w K mg base 7 "untorn_links" ["ground"] (wq mg):=by
 let%[_,_,b|_]:=T.x_Torn.ini;show T.aV.calX cC (λH vs Q E h=>?_)
 .let%[g,qs,y,ts,lk,us,rfl,a,z,%[x0|o]|Y]:=h;show%[ρ|λf U A outer s p=>?_];let%[c2,c3,M|N]:=a.gr;let ll:=a.ll;show%[_,%["JCG1F]AA0BCG2F]BAF~$A0BA1BCML~!2tE]_]|]}A2BNEH1",cC.nd|p]|?_]
  change aW _ _ _ [!g,eH,eH] H;show aj λD1 k1 _=>?_
  lk;show%[g,c2,c3,M,qs,y,ts,ρ,N,a.nd,a.so,⋯,a.tl,a.t3|λm H1 ss O fm hm B i sl=>k1 _ _ (aj λD2 k2 _=>?_)];let e:=i.mm z;rw[<-mT e]at o;lk;show%[g,c2,c3,M,qs,y,ts,ρ,N.up O,a.nd,a.so,⋯|λl H2 ns u fl hl v=>?_];let la:=qZ B (a.names i v);let C:=O.trans u;show%[l,m,ns,ss,ρ,hl,v.nd,?_,u _ _ hm,la.up u,sl,λH' G nr=>(nr _ o).elim|λr H' ws x G _ j mn=>k2 _ _ (aj λD3 k3 _=>?_)]
  .let:=_ST.nodup_sub v.nd λx I=>((v.mem x).mp I).1
   lia
  .lk;rw[jg ∅];let J:=C.trans G;let inl:∀t∈ws,t.2∈ss\2:=λt c=>Xp %[t,j.sub t c|rfl]
   let n:aI H' ws:=λt c=>%[(B t (j.sub t c)).1|G _ _ (u _ _ (B t (j.sub t c)).2)]
   show Ae J j.at_ n j.len (λt c=>a.short i (inl t c)) (λQ q=>?_) λd l H4 s4 s5 hd L dl I hL=>Y d l H4 ws x s4 hd L dl %[I,hL,λt c=>%[(n t c).1|s5 _ _ (n t c).2],j.sho.same e,by rw[<-jZ e];show mn|j.len]
   lk;show q
inductive yp (K:ZA)
 | mk (a:ij) (ns:ZL):vs=[.ref a]->Qb K H a (ns\4)-> ~~~ns<=1000->(∀(t l1 l2:ij) H' (cs:ZH) (qs:ZN),ah H H'->H' t<*[.ref l1,.ref l2]->H' l1<*bP cs->H' l2∣.lst (qs\0)->nD H' cs qs->Q (.ref t) H')->yp K vs H Q E0
def yq(T:Txt K mg):↥3 "_law_tower" ["_law_script"] (yp K):=by
 .exists T.bD,bv,cM,hr,%[a,ns,rfl,hs,hn|kk];show%[_,%["JC.1qrF~RA0ADADADBCG2SBCG3SBCT&ADB~s4qrC.5qrPSAUAUBQ4C~S6rqg?1&ADBd0?2'F~hA0APQ1Q2BCZsl2AjAQ5A~X~YUA6BBBEZ~p~q3Aog?3W6d0?4'I%I%Q1U0BCG7SAjAUAP3DAP3DBBCT~gADA~I]CAbcA0BADBB~s4qrCG8F~RA0AQ4ADADBCG9IeI~GDI!DIXP8DDP8DEZsl7AjAPSAUAUBIXP8DDAP3IXP8DDA9BBEHSA2A7B",bv.nd,↑(["_law_rank","_law_ways","_law_k"],[(1,1),(2,4)]),↑["_law_rank","_law_ways","_law_k"],↑(["_law_sign","_law_name"],[(1,5)]),↑["_law_sign","_law_name"]|hr]|?_]
  change aW _ _ _ [!a,eH,eH,eH,eH,eH,eH,eH,eH,eH] H;show aj λD1 k1 _=>?_
  lk;show%[a,ns,1,104,2,ρ,hs,!1,!1,!1,!1,!1,!1|λhd H1 xs s1 _ ac hx hb=>k1 _ _ (aj λD2 k2 _=>?_)];let bf: ~~~xs=2:=hx;obtain⟨W,hW,Wb⟩:∃W:hH->nX,(∀k:hH,k<2->atI (xs\4) (k:nX)∣V.int (W k))/\∀k,0<=W k/\W k<104:=by
   show%[λk=>xs.getD k 0,λk hk=>bG (by simp[bf,hk])|λk=>?_];change 0<=xs.getD k 0/\xs.getD k 0<104;rw[Zc];cases e:xs[k]? with
   | none=>show%[!1|!1]
   | some c=>show hb c (Z8 e)
  lk;show%[Xe _|λC hC=>k2 _ _ (aj λD3 k3 _=>?_)];lk;show%[Xe _|λB hB=>k3 _ _ (aj λD4 k4 _=>aB λO hK=>?_)];let sC:=ah.Qa (o:= .lst []) hC;let sB:=ah.Qa (o:= .lst []) hB;let a2:C≠B:=λe=>by rw[e,af]at hB;cases hB
  let fC:=s1.free hC;let fB:=(s1.trans sC).free hB;let a3:=sB _ _ (sC _ _ ac);let ae:=sB _ _ (af (H:=H1) (o:= .lst []));let a4:Qa (Qa H1 C (.lst [])) B (.lst []) B<*[]:=af;let s2:=(s1.trans sC).trans sB
  generalize Qa (Qa H1 C (.lst [])) B _=H2 at a3 ae a4 s2
  let a5:hd≠C:=λe=>by rw[e,hC]at ac;cases ac
  let bl:hd≠B:=λe=>by rw[<-e,av a5,ac]at hB;cases hB
  lk;show%[!1,!1|hK _ _ (cR (λi y H'=>∃(o4 o5 o6:kf V) (cs:ZH),y=[!a,!hd,!C,!B,o4,o5,o6,eH,eH,eH]/\ah H H'/\H' hd<*xs\4/\H' C<*bP cs/\H' B<*(eL W i)\3/\bZ H' cs/\cs\2=(o0 i).map λk=>(nmT k,bF (W k)))
   %[_,_,_,[],ρ,s2,a3,ae,a4,(λ_ h=>nomatch h)|ρ] ?_ ?_)]
  .intro i y H' hi %[o4,o5,o6,cs,rfl,sm,an,M,g,N|ce];change aW _ _ _ [!a,!hd,!C,!B,fx (.int (0+i)),o5,o6,eH,eH,eH] H';rw[Ps];let i2:i<2:=hi;show aj λD5 k5 _=>?_
   lk;show%[#[2]|λp hp=>%[_,Qb.of af,.str (nmT i),?_|k5 _ _ (aj λD6 k6 _=>?_)]]
   .rcases(show i=0\/i=1 by lia -verbose)with rfl|rfl<;> rfl
   let sp:=ah.Qa (o:= .lst [V.str (!"zone"),V.str (!"pit")]) hp
   generalize Qa H' p _=H3 at sp
   let bm:=sp _ _ an;lk;show aN λO hK=>?_
   lk;show%[!1,!1|hK _ _ λF hF=>?_];show dM (J:=Itr 0 26) (n:=26) (D:=F) (λq ts y H4=>A4 (∃o,y=[o,!hd,fx (.int i)]) (ah H3 H4) (H4 F<*ts) (ts=((bF (W i)).take q)\3))
    %[%[eH|rfl],ah.Qa hF,af|rfl] (λq _ _ H' d _=>d) (λ_ _ H' _=>Zi _) ?_ ?_
   .intro q ts y H4 d %[%[o|rfl],s4,ag|v] x I %[e2|e3];subst e2 e3;lk;show%[_,Qb.of (s4 _ _ bm),_,hW i i2,q,W i,ρ,(by lia -verbose),(by lia -verbose),(Wb i).1,by let:=(Wb i).2;lia -verbose|λH6 s6=>CK.mk d (s6 _ _ ag) (by rw[v,Z6,Yl];show aF (by lia -verbose)) %[%[_|ρ],ah.set (s4.trans s6) hF,af|?_]];rw[v,X9,Zd,nE d];rfl
   .intro ts y H4 %[_,s4,ag|v];rw[Zn (T1 (iW _))]at v;subst v;show k6 _ _ (aj λD7 k7 _=>?_);let U:=sp.trans s4;let ao:=U _ _ M;let bt:=U _ _ g;lk;show%[tyL (Qb.of ao),bF (W i),Qb.of ag,?_,#[2]|λt v=>?_]
    .let:=(KH (W i)).sum;let:=(KH (W i)).high;rw[show(!"\n").length=1 from rfl]
     lia -verbose
    rw[show Txt.join (!"\n") (bF (W i))=rM nl (bF (W i))from Os _ _];let st:=ah.Qa (o:= .tup [V.str (nmT i),V.str (rM nl (bF (W i)))]) v;let gt:Qa H4 t (.tup [V.str (nmT i),V.str (rM nl (bF (W i)))]) t=_:=af;let bx:t≠C:=λe=>by rw[e,ao]at v;cases v
    generalize Qa H4 t _=I at st gt
    let cl: ~~~cs=i:=by let:=vb Mz ce;rwa[Z6,Z6,Yj]at this
    let b2:=st _ _ ao;show%[_,b2,by unfold bP;rw[Z6,cl];show aF (by lia -verbose)|k7 _ _ (aE λD8 k8 _=>?_)];let fF:=(sm.trans sp).free hF;let b3:F≠C:=λe=>by rw[e,sp _ _ M]at hF;cases hF
    let c3:F≠B:=λe=>by rw[e,sp _ _ g]at hF;cases hF
    let a6:Qa I C (.lst (bP cs++[V.ref t])) C<*bP (cs++[(t,nmT i,bF (W i))]):=by rw[af];unfold bP;rw[Zd];rfl
    let keep:∀b o,b≠C->I b∣o->Qa I C (.lst (bP cs++[V.ref t])) b∣o:=λb o n e=>by rw[av n];show e
    let s6:ah H (Qa I C (.lst (bP cs++[V.ref t]))):=ah.set ((sm.trans U).trans st) fC
    generalize Qa I C _=H6 at a6 keep s6
    let b4:=keep _ _ a5 (st _ _ (U _ _ an));let Y:=keep _ _ (zr a2) (st _ _ bt);let bb:=keep _ _ b3 (st _ _ ag);let ap:bZ H6 (cs++[(t,nmT i,bF (W i))]):=λq d=>by
     rcases Xm d with z|z
     .show%[keep _ _ (λe=>?_) (st _ _ (U _ _ (N q z).1))|(N q z).2];let:=(N q z).1;rw[e,M]at this;cases this
     .rw[Xn z];show%[keep _ _ bx gt,x8 i|KH _]
    lk;show%[tyL (Qb.of Y)|aN λO hK=>?_];lk;show%[%[_|Qb.of bb]|hK _ _ λG hG=>?_];show di (λq ts y H7=>A4 (∃o,y=[o,fx (.str (nmT i))]) (ah H6 H7) (H7 G<*ts) (ts=(((bF (W i)).take q).map (lnS (nmT i)))\3))
     %[%[eH|rfl],ah.Qa hG,af|rfl] (λ_ _ _ H7 ⟨_,s7,_,_⟩=>s7 _ _ bb) ?_ ?_
    .intro q ts y H7 d %[%[o|rfl],s7,aq|v];let%[r|er]:=kr (Yd d);rw[iW]at d;lk;rw[jo];let nl:=iU (x8 i);show%[by rw[PySem.sizeLine_eq];change(nmT i).length+1<=_;lia -verbose,by rw[er,PySem.sizeLine_eq,PM];change(nmT i).length+1+1<=_;lia -verbose|CK.mk (by rwa[iW]) aq (by rw[v,Z6,Z6,Yl];show aF (by lia -verbose)) %[%[_|ρ],ah.set s7 hG,af|?_]];rw[v,X9,Zd,Zd,Z4 (by rwa[iW])];rfl
    .intro ts y H7 %[_,s7,aq|v];rw[Zn (Zi _)]at v;let as:∀{b:ij} {o:HO},b≠B->H6 b∣o->Qa H7 B (.lst ((eL W i)\3++ts)) b∣o:=λ{b o} n e=>by rw[av n];show s7 _ _ e
     show%[_,s7 _ _ Y,_,aq,?_|k8 _ _ %[_,_,_,cs++[(t,nmT i,bF (W i))],ρ,ah.set (s6.trans s7) fB,as bl b4,as a2 a6,?_,λq d=>%[as (λe=>?_) (ap q d).1|(ap q d).2]|?_]]
     .rw[v,Z6,Z6,Z6,iW,fX];show Yf (aF (by lia -verbose))
     .rw[af,v,<-Zd,gN]
     .let:=(ap q d).1;rw[e,Y]at this;cases this
     .rw[Zd,ce,Pa,Zd];rfl
  .intro y H' %[o4,o5,o6,cs,rfl,sm,an,M,g,N|ce];let g:H' B<*(eL W 2)\3:=g;let ce:cs\2=(o0 2).map λk=>(nmT k,bF (W k)):=ce
   let cl: ~~~cs=2:=by let:=vb Mz ce;rwa[Z6,Z6,Yj]at this
   let ax:∀z∈eL W 2,z∈cs.flatMap lyr:=λz hz=>by
    let%[k,r,hk,hr|rfl]:=CJ hz;let:(nmT k,bF (W k))∈cs\2:=by rw[ce];show Xp %[k,vu.mpr hk|rfl]
    let%[p,hp|e]:=Xo this;let l:=ix (p:=p) (by rw[e];show letT hr);rw[e]at l;show Mi.mpr %[p,hp|l]
   let b5:∀i:hH,i<52->∃z,atI ((eL W 2)\3) (i:nX)∣V.str z/\z∈eL W 2:=λi hi=>by
    let hl:i< ~~~(eL W 2):=by rw[fX];lia -verbose
    show%[(eL W 2)[i],bG (by simp[hl])|Yd hl]
   show k4 _ _ (aj λD9 k9 _=>?_);lk;obtain⟨z0,z1,b0,b1,ne⟩:∃z0 z1:iv,(eL W 2)[25]?∣z0/\(eL W 2)[26]?∣z1/\z0≠z1:=%[_,_,LX W,LY W|λe=>m4 (qR e) (!0)]
   show%[_,Qb.of g,.str z0,bG (j:=25) (by rw[Zl,b0];rfl),_,Qb.of g,.str z1,bG (j:=26) (by rw[Zl,b1];rfl),#[3]|λp hp=>%[#[1]|λL hL=>k9 _ _ (aj λc4 b6 _=>aB λO hK=>?_)]];let sp:=ah.Qa (o:= .tup [V.str (!"later"),V.str z0,V.str z1]) hp;let gp:Qa H' p (.tup [V.str (!"later"),V.str z0,V.str z1]) p=_:=af
   generalize Qa H' p _=H3 at sp gp hL
   let bc:=ah.Qa (o:= .lst [V.ref p]) hL _ _ gp;let sL:=sp.trans (ah.Qa (o:= .lst [V.ref p]) hL);let fL:=(sm.trans sp).free hL;let a0:Qa H3 L (.lst [V.ref p]) L=_:=af
   generalize Qa H3 L _=H2 at bc sL a0
   let b9:C≠L:=λe=>by rw[<-e,sp _ _ M]at hL;cases hL
   let ca:B≠L:=λe=>by rw[<-e,sp _ _ g]at hL;cases hL
   let ae:=sL _ _ M;let cd:=sL _ _ g;let a1:bZ H2 cs:=λq d=>%[sL _ _ (N q d).1|(N q d).2]
   let ch:=(sm.trans sL).seq hs;lk;show%[~~~ns,.inl %[_,ch|(Z6 _).symm],!1,!1,by split<;> lia -verbose,by split<;> lia -verbose|?_]
   generalize hm:((if 29<(~~~ns:nX)then 29 else(~~~ns:nX)) -5).toNat=m
   let c5:m<=24:=by split at hm<;> lia -verbose
   show hK _ _ (cR (λi y I=>E4 λ(o4 o8 o9:kf V) (qs:ZN)=>A6 (y=[!a,!hd,!C,!B,o4,o5,o6,!L,o8,o9]) (ah H I) (∀b o,b≠L->H2 b∣o->I b∣o) (I L∣.lst (qs\0)) (~~~qs=i+1) (cV I (cs.flatMap lyr) qs))
    %[_,_,_,[(p,[V.str (!"later"),V.str z0,V.str z1])],rfl,sm.trans sL,(λb o _ e=>e),a0,rfl|λq d=>?_] ?_ ?_)
   .rw[Xn d];show%[bc|.inl %[_,_,_,ρ,.inl rfl,ax _ (Z8 b0),ax _ (Z8 b1)|ne]]
   .intro i y I hi %[o4,o8,o9,qs,rfl,s5,k5,ab,ql|sa];change aW _ _ _ [!a,!hd,!C,!B,fx (.int (5+i)),o5,o6,!L,o8,o9] I;show aj λc6 cm _=>?_
    lk;show%[a,ns,5+i,211,3,ρ,s5.seq hs,(by lia -verbose),(by lia -verbose),!1,!1,!1,!1|λdl H6 ys s6 _ ak hy co=>cm _ _ (aj λda cp _=>?_)];let get:∀i:nX,0<=i->i<3->∃c,atI (ys\4) i∣V.int c/\0<=c/\c<211:=λi h0 h1=>by
     let%[c,e|hm]:=mE ys h0 (by rw[hy];show h1);show%[c,e|co c hm]
    let%[c0,g0,l0|u0]:=get 0 (!1) (!1);let%[c1,g1,l1|u1]:=get 1 (!1) (!1);let%[c2,g2,l2|u2]:=get 2 (!1) (!1);lk;show%[_,Qb.of ak,_,g1,!1,.inl %[!1|!1],_,Qb.of ak,_,g2|cp _ _ (aE λdd ct _=>?_)];let cv:=s6 _ _ ab;let Y:=s6 _ _ (k5 _ _ ca cd);obtain⟨n1,cw⟩:∃n:hH,c1%52=n:=%[(c1%52).toNat|(by lia -verbose)]
    let%[zb,gz|iz]:=b5 n1 (by lia -verbose);obtain⟨wd,cx,cy⟩:∃wd:iv,atI [V.str (!"since"),V.str (!"by")] (c0%2)∣V.str wd/\(wd="since"\/wd="by"):=by
     rcases(show c0%2=0\/c0%2=1 by lia -verbose)with e|e<;> rw[e]
     .show%[_,ρ|.inl rfl]
     .show%[_,ρ|.inr rfl]
    lk;show%[tyL (Qb.of cv),#[2]|λu hu=>?_];let su:=ah.Qa (o:= .lst [V.str (!"since"),V.str (!"by")]) hu;let gu:Qa H6 u (.lst [V.str (!"since"),V.str (!"by")]) u=_:=af
    generalize Qa H6 u _=H7 at su gu
    show%[_,Qb.of (su _ _ ak),_,g0,!1,_,Qb.of gu,_,cx,_,Qb.of (su _ _ ak),_,g1,!1,_,Qb.of (su _ _ Y),_,by rw[cw];show gz,#[3]|λt v=>?_];let st:=su.trans (ah.Qa (o:= .tup [V.str wd,V.str zb,V.int (600-10*(c1%52) +c2)]) v);let gt:Qa H7 t (.tup [V.str wd,V.str zb,V.int (600-10*(c1%52) +c2)]) t=_:=af
    generalize Qa H7 t _=H8 at st gt
    let al:=s6.trans st;let be:=al _ _ ab;let cI:t≠L:=λe=>by rw[e,be]at gt;cases gt
    show%[_,be,by rw[Z6,ql];show aF (by lia -verbose)|ct _ _ %[_,_,_,qs++[(t,[V.str wd,V.str zb,V.int (600-10*(c1%52) +c2)])],ρ,ah.set (s5.trans al) fL,λb o n e=>by rw[av n];show al _ _ (k5 b o n e),by rw[af,Zd];rfl,by rw[Z9,ql];rfl|λq d=>?_]];rcases Xm d with z|z
    .show%[?_|(sa q z).2];rw[av (λe=>by let:=(sa q z).1;rw[e,ab]at this;cases this)];show al _ _ (sa q z).1
    .rw[Xn z];show%[by rw[av cI];show gt|.inr %[_,_,_,ρ,cy,ax _ iz,(by lia -verbose)|(by lia -verbose)]]
   .intro y I %[o4,o8,o9,qs,rfl,s5,k5,ab,ql|sa];show b6 _ _ ?_;lk;show%[#[2]|λz hz=>?_];let sz:=ah.Qa (o:= .lst [V.ref C,V.ref L]) hz;let de:∀q∈cs,∃k,q.2=(nmT k,bF (W k)):=λq d=>by
     let:q.2∈cs\2:=Xp %[q,d|rfl];rw[ce]at this;let%[k,_|e]:=Xo this;show%[k|e.symm]
    show kk z C L _ cs qs (s5.trans sz) af (sz _ _ (k5 _ _ b9 ae)) (sz _ _ ab) %[(by lia -verbose),(by lia -verbose),λq d=>%[sz _ _ (k5 _ _ (λe=>?_) (a1 q d).1)|(a1 q d).2],?_,λq d=>?_,?_,λq d=>%[sz _ _ (sa q d).1|(sa q d).2]|(by lia -verbose)]
    .let:=(a1 q d).1;rw[e,a0]at this;cases this
    .rw[show cs.map (λp=>p.2.1)=(cs\2)\1 by rw[Ys];rfl,ce];change [nmT 0,nmT 1].Nodup;decide +kernel
    .let%[k|e]:=de q d;rw[show q.2.2=bF (W k) by rw[e]];show fewT _
    .match cs,cl,de with
     |[q1,q2],_,de=>
      let%[k1|e1]:=de q1 ∅;let%[k2|e2]:=de q2 ∅;let:=LZ (p:=q1) (w:=W k1) (by rw[e1]);let:=LZ (p:=q2) (w:=W k2) (by rw[e2]);rw[PB,PB,dV.flatMap_nil,Zx,Z9]
      lia -verbose
def mJ.sub{f g:ZB}{vs:ZM}(h:mJ f vs)(m:∀z∈f,z∈g):mJ g vs:=by
 rcases h with⟨w,a,b,e,hw,c,d,n⟩|⟨w,a,y,e,hw,c,d⟩
 .show .inl %[w,a,b,e,hw,m a c,m b d|n]
 .show .inr %[w,a,y,e,hw,m a c|d]
def Bj:∀{cs:ZH},(∀p∈cs,∃w a hi,iu w a hi/\p.2.2=bO a hi)-> ~~~(cs.flatMap lyr)<=16* ~~~cs
 |[],_=>Zi _
 | q::cs,h=>by
   let j:=Bj (cs:=cs) λp b=>h p (Zk _ b)
   let%[w,a,hi,d|e]:=h q Zm;let:=_ST.nodup_sub (dD ((c7 q.2.2).map sgn)) (m:=(o0 16).map λr:hH=>sgn (ltr r w)) λy f=>by
    let%[c,g|rfl]:=Xo (a9.mp f);let%[r,i,l|rfl]:=d.lets (e▸fU.mp g);show Xp %[r.toNat,vu.mpr ⋯|by rw[Pp i]]
   rw[Z6,Yj]at this;rw[PB,Z9,Zr,lyr,Z6]
   lia
def wt(T:Txt K mg):↥4 "_law_ground" ["_law_script"] (uK K):=by
 .exists T.bE,cL,aq,B,%[a,g,rfl,O,hn|kk];show%[_,%["JCMLaIXI|F~CA0ADBDDDEHF][A0BNC]DF]0A0B]ERK1RK2kCG3SBCG4maIXI|F~CA0ADBDDDCG5maIXI|F~CA0ADBDDDCT~gADA~I]CAbcA0BADBBK6EZsl3AF]1AF~RA0A6ADADBA2A4A5BBEHSA1A3B",cL.nd|B]|?_]
  change aW _ _ _ [!a,eH,eH,eH,eH,eH,eH] H;show aj λD0 k0 r0=>?_
  lk;show%[a,g,0,ρ,O,!1,%[!1|!1],!1|bz (λ_=>%[a,g,ρ,O,hn|λt l1 l2 H' cs qs G I h1 h2 ok=>r0 _ _ (kk t l1 l2 H' cs qs G I h1 h2 ok)]) λ_=>k0 _ _ (aj λD1 k1 _=>?_)];lk;show%[a,g,ρ,O|λt C D H1 cs rs s1 I _ hC hD c1 c3 ca ac ok=>%[_,Qb.of I,ρ,_,_,ρ,_,_,ρ,ρ|k1 _ _ (aj λD2 k2 _=>?_)]];lk;show%[Xe _|λL J=>k2 _ _ (aj λD3 k3 _=>?_)];let sL:=s1.trans (ah.Qa (o:= .lst []) J);let u:=sL.seq O;lk;show%[a,g,0,ρ,u,!1,%[!1|!1],!1|k3 _ _ (aj λD4 k4 _=>?_)]
  generalize decide (g.getD (Ts 0) 0/2%6=1)=j
  lk;show%[a,g,0,ρ,u,!1,%[!1|!1],!1|k4 _ _ ?_]
  generalize decide (g.getD (Ts 0) 0/12%2=1)=l
  show aj λD5 k5 _=>aB λao hK=>?_
  lk;let fL:=s1.free J;let ae:C≠L:=λe=>by rw[e,J]at hC;cases hC
  let ag:D≠L:=λe=>by rw[e,J]at hD;cases hD
  let U:=ah.Qa (o:= .lst []) J _ _ hC;let Y:=ah.Qa (o:= .lst []) J _ _ hD;let v:bZ (Qa H1 L (.lst [])) cs:=λp hp=>%[ah.Qa (o:= .lst []) J _ _ (ca p hp).1|(ca p hp).2]
  let M:Qa H1 L (.lst []) L<*[]:=af
  generalize Qa H1 L _=H2 at sL u U Y v M
  show%[~~~g,.inl %[_,u|(Z6 _).symm],!1,!1,by split<;> lia,by split<;> lia|?_]
  generalize hm:((if 41<(~~~g:nX)then 41 else(~~~g:nX)) -5).toNat=m
  let as:m<=36:=by split at hm<;> lia
  show hK _ _ (cR (λi σ H'=>E2 λ(o6:kf V) (qs:ZN)=>A6 (σ=[!a,!C,!D,!L,fx (.bl j),fx (.bl l),o6]) (ah H H') (∀b o,b≠L->H2 b∣o->H' b∣o) (H' L∣.lst (qs\0)) (~~~qs=i) (cV H' (cs.flatMap lyr) qs))
   %[_,[],rfl,sL,(λb o _ e=>e),M,rfl|λ_ h=>nomatch h] ?_ ?_)
  .intro i σ H' hi %[o6,qs,rfl,sH,G,r,ql|N];change nN _ _ [!a,!C,!D,!L,fx (.bl j),fx (.bl l),fx (.int (5+i))] H';show aE λD6 k6 _=>?_
   lk;show%[tyL (Qb.of r),a,g,5+i,211,6,ρ,sH.seq O,⋯,⋯,!1,!1,!1,!1|λdl H3 xs s3 _ ak hx hb=>%[dl,D,xs,rs,j,l,ρ,ak,hx,hb,s3 _ _ (G _ _ ag Y),ok.nd,ok.ne (λe=>by rw[e]at c1;cases c1),by let:=ok.len;lia,λq c=>(ok.rk q c).2|λt H4 zs s4 I al=>?_]];let y:=s3.trans s4;let ab:=y _ _ r;let an:t≠L:=λe=>by rw[e,ab]at I;cases I
   show%[_,ab,by rw[Z6,ql];show aF ⋯|k6 _ _ %[_,qs++[(t,zs)],ρ,ah.set (sH.trans y) fL,λb o n e=>by rw[av n];show y _ _ (G b o n e),by rw[af,Zd];rfl,by rw[Z9,ql];rfl|λq c=>?_]];rcases Xm c with z|z
   .show%[?_|(N q z).2];rw[av (λe=>by let:=(N q z).1;rw[e,r]at this;cases this)];show y _ _ (N q z).1
   .rw[Xn z];show%[by rw[av an];show I|al.sub λz hz=>?_];let%[q,c|rfl]:=Xo hz;show(ok.rk q c).1
  .intro σ H' %[o6,qs,rfl,sH,G,r,ql|N];show k5 _ _ ?_;lk;show%[#[2]|λp hp=>?_];let sp:=ah.Qa (o:= .lst [V.ref C,V.ref L]) hp;show kk p C L _ cs qs (sH.trans sp) af (sp _ _ (G _ _ ae U)) (sp _ _ r) %[c1,c3,λq c=>%[sp _ _ (G _ _ (λe=>?_) (v q c).1)|(v q c).2],ac,λq c=>?_,by let:=Bj ok.dr;lia,λq c=>%[sp _ _ (N q c).1|(N q c).2]|⋯]
   .let:=(v q c).1;rw[e,M]at this;cases this
   .let%[w,ap,hi,d|e]:=ok.dr q c;rw[e];show d.few
def rc{S:iv->iv->Prop}{P:iv->Prop}{x y:iv}(h:dj S x y)(e:P x)(d: ¬ P y):∃a b,(S a b\/S b a)/\P a/\ ¬ P b/\dj S x a:=by
 induction h with
 | refl=>show(d e).elim
 | @step y z c s f=>
   by_cases p:P y
   .show%[y,z,s,p,d|c]
   .show f p
structure Rnd (ls:ZB) (ps:dV (iv×iv)) (S:iv->iv->Prop) (f:iv->iv) (r:hH):Prop where
 con:∀z∈ls,dj S z (f z)
 dn:∀z∈ls,aS z (f z)=fS
 cnt:∀m∈ls,bE S m m->(∀z∈ls,dj S m z->f z=m)\/r<= ~~~(ps.filter λp=>decide (f p.1=m/\f p.2=m))
def Rnd.nil{a:ZB}{ps:dV (iv×iv)}{S:iv->iv->Prop}:Rnd a ps S id 0:=%[λz _=> .refl z,λz _=>dN z|λm b _=> .inr (Xe _)]
def Bk{c:Type}{p q:c->pp}:∀{l:dV c},(∀x∈l,p x=fI->q x=fI)-> ~~~(l.filter p)<= ~~~(l.filter q)
 |[],_=>Zi _
 | x::l,h=>by
   let e:=Bk (l:=l) λy d=>h y (Zk _ d)
   let f:=h x Zm;rw[Y3,Y3];cases a:p x<;> cases b:q x<;> simp_all
   lia
def Bl{d:Type}{p q:d->pp}:∀{l:dV d},(∀x∈l,p x=fI->q x=fI)->(∃x∈l,q x=fI/\p x=fS)-> ~~~(l.filter p)< ~~~(l.filter q)
 |[],_,h=>(nomatch h.choose_spec.1)
 | x::l,h,⟨y,c,e,f⟩=>by
   let sub:∀y∈l,p y=fI->q y=fI:=λy c=>h y (Zk _ c)
   let g:=h x Zm;rw[Y3,Y3];rcases Yw.mp c with rfl|c
   .let:=Bk sub;rw[e,f];simp
    lia
   .let i:=Bl sub %[y,c,e|f];cases a:p x<;> cases b:q x<;> simp_all
    lia
structure Mid (ls:ZB) (S T:iv->iv->Prop) (f g:iv->iv):Prop where
 con:∀z∈ls,dj S z (g z)
 le:∀z∈ls,aS (f z) (g z)=fS
 don:∀a b,T a b->aS (f a) (g b)=fS/\aS (f b) (g a)=fS
def eV{x y z:iv}(b:aS y x=fS)(a:aS z y=fS):aS z x=fS:=by
 cases h:aS z x
 .rfl
 .by_cases e:y=x
  .rw[e,h]at a;cases a
  .rw[d8 h (fT b e)]at a;cases a
def Mid.step{i:ZB}{S T:iv->iv->Prop}{f g:iv->iv}{a b:iv}(h:Mid i S T f g)(ws:∀x y,S x y->x∈i/\y∈i)(s:S a b)(sub:∀x y,T x y->S x y){v:iv}(l:v=if aS (g b) (g a)=fI then g b else g a):
 Mid i S (λx y=>T x y\/(x=a/\y=b)) f (λx=>if x=b then v else if x=a then v else g x):=by
 let%[m|n]:=ws _ _ s;let v1:aS (g a) v=fS:=by
  rw[l];split
  .cases q:aS (g a) (g b)
   .rfl
   .rename_i c;let:=d8 c q;rw[dN]at this;cases this
  .show dN _
 let o:aS (g b) v=fS:=by
  rw[l];split
  .show dN _
  .rename_i c;simpa using c
 let p:dj S a v:=by
  rw[l];split
  .show(dj.one (.inl s)).trans (h.con b n)
  .show h.con a m
 let d:∀x∈i,aS (g x) (if x=b then v else if x=a then v else g x)=fS:=λx _=>by
  split
  .rename_i e;rw[e];show o
  .split
   .rename_i e;rw[e];show v1
   .show dN _
 show%[λz j=>?_,λz j=>eV (d z j) (h.le z j)|λx y t=>?_]
 .split
  .rename_i e;rw[e];show(dj.one (.inr s)).trans p
  .split
   .rename_i e;rw[e];show p
   .show h.con z j
 .rcases t with t|⟨rfl,rfl⟩
  .let%[r|u]:=ws _ _ (sub _ _ t);show%[eV (d y u) (h.don x y t).1|eV (d x r) (h.don x y t).2]
  .show%[?_|?_]
   .rw[jg rfl];show eV v1 (h.le x m)
   .rw[jg (rfl:x=x),ite_self];show eV o (h.le y n)
def Rnd.step{n:ZB}{ps:dV (iv×iv)}{S:iv->iv->Prop}{f g:iv->iv}{r:hH}(h:Rnd n ps S f r)(o:∀x y,S x y↔(x,y)∈ps)(ws:∀x y,S x y->x∈n/\y∈n)(M:Mid n S S f g):Rnd n ps S g (r+1):=by
 show%[M.con,λz d=>eV (M.le z d) (h.dn z d)|λm u A=>?_];let i:∀{y},dj S m y->aS m y=fS->y=m:=λ{y} c l=>by
  by_cases q:y=m
  .show q
  .let:=fT (A.2 _ c) q;rw[l]at this;cases this
 let j:∀z∈n,f z=m->g z=m:=λz d e=>by
  let c:=h.con z d;let l:=M.le z d;rw[e]at c l;show i (c.symm.trans (M.con z d)) l
 rcases h.cnt m u A with q|q
 .show .inl λz d c=>j z d (q z d c)
 .by_cases all:∀z∈n,dj S m z->f z=m
  .show .inl λz d c=>j z d (all z d c)
  .obtain⟨z,d,c,ne⟩:∃z,z∈n/\dj S m z/\f z≠m:=by
    simp only[Qh]at all;let%[z,d,c|ne]:=all;show%[z,d,c|ne]
   let G:f m=m:=i (h.con m u) (h.dn m u);let%[a,b,s,v,B|ca]:=rc (P:=λx=>f x=m) c G ne;let H:b∈n:=s.elim (λs=>(ws _ _ s).2) λs=>(ws _ _ s).1
   let C:g b=m:=i ((ca.trans (.one s)).trans (M.con b H)) (by
    rcases s with s|s
    .let:=(M.don a b s).1;rwa[v]at this
    .let:=(M.don b a s).2;rwa[v]at this)
   let E:g a=m:=j a (s.elim (λs=>(ws _ _ s).1) λs=>(ws _ _ s).2) v;let:=Bl (p:=λp:iv×iv=>decide (f p.1=m/\f p.2=m)) (q:=λp=>decide (g p.1=m/\g p.2=m)) (l:=ps) (λp q h=>by
    let e:=Zo h;let:=ws _ _ ((o p.1 p.2).mpr q);show Zf %[j _ this.1 e.1|j _ this.2 e.2]) (by
    rcases s with s|s
    .show%[(a,b),(o a b).mp s,Zf %[E|C]|Zh λh=>B h.2]
    .show%[(b,a),(o b a).mp s,Zf %[C|E]|Zh λh=>B h.1])
   show .inr ⋯
def FK{a:ZB}{S:iv->iv->Prop}(ws:∀x y,S x y->x∈a/\y∈a):∀(n:hH) {z:iv},x9 a z<=n->z∈a->∃m,bE S z m:=λn=>by
 induction n with
 | zero=>
   intro z g b;show%[z,.refl z|λy c=>?_];cases q:aS y z
   .rfl
   .let:=qV (c.within ws b) q
    lia
 | succ n h=>
   intro z g b;by_cases all:∀y,dj S z y->aS y z=fS
   .show%[z,.refl z|all]
   .simp only[Qh]at all;let%[y,c|q]:=all;let e:=c.within ws b;let:=qV e ↑q;let%[m|f]:=h ⋯ e;show%[m,c.trans f.1|λu d=>f.2 u (c.symm.trans d)]
def Rnd.done{i:ZB}{ps:dV (iv×iv)}{S:iv->iv->Prop}{f:iv->iv}(h:Rnd i ps S f ps.length)(n:∀x y,S x y↔(x,y)∈ps)(ws:∀x y,S x y->x∈i/\y∈i){z:iv}(l:z∈i):f z∈i/\bE S z (f z):=by
 let%[m|g]:=FK ws _ (Zi _) l;let j:=g.1.within ws l;let d:bE S m m:=%[.refl m|λy c=>g.2 y (g.1.trans c)]
 let e:f z=m:=by
  rcases h.cnt m j d with q|q
  .show q z l g.1.symm
  .let all:=dV.length_filter_eq_length_iff.mp (hH.le_antisymm (Yi _ _) q);let p:f m=m:=(bE.one %[h.con m j|λy c=>eV (h.dn m j) (d.2 y c)] d)
   show Nn λne=>?_
   let%[a,b,s,r,o|_]:=rc (P:=λx=>f x=m) g.1.symm p ne;rcases s with s|s
   .show o (Zo (all _ ((n a b).mp s))).2
   .show o (Zo (all _ ((n b a).mp s))).1
 rw[e];show%[j|g]
def yv{c:hH}(h:c≠10):∀{rows:ZB},c∈(rM nl rows).cps.toList↔∃r∈rows,c∈r.cps.toList
 |[]=>by simp[rM,Me]
 |[x]=>by simp[rM]
 | x::y::r=>by
   let a:=yv h (rows:=y::r);rw[fO nl x y r,Yt,Yt,a];let:c∉nl.cps.toList:=λq=>h (by simpa using (show c∈[10]from q))
   simp[this]
def HB{z:iv}{g:TG}{h:TS}{D:jC}{a:_LL.St}{H:Hp}(Pv:hH->_LL.St->Hp->Prop)(l:Pv 0 a H)
 (n:∀i c a H,z.cps[i]?∣c->Pv i a H->g (.str (sgn c)) a H λb f=>h {D with nx:=Pv (i+1),ct:=Pv (i+1),bk:=D.nx} b f) (o:∀a H,Pv z.cps.size a H->D.nx a H):
 ∃W:hH->hH->_LL.St->Hp->Prop,(∃m,W 0 m a H)/\∀i m a H,W i m a H->
  ((Its z).stop i H/\D.nx a H)\/((Its z).go i H/\∃N:_LL.St->Hp->Prop,(∀d H',N d H'->∃j,j<m/\W (i+1) j d H')/\∀x H',(Its z).yld i H x H'->g x a H' λb f=>h {D with nx:=N,ct:=N,bk:=D.nx} b f):=by
 show%[λi m a H=>m=z.cps.size-i/\i<=z.cps.size/\Pv i a H,%[z.cps.size,by simp,Xe _|l]|?_];intro i m a H %[rfl,hi|p];by_cases e:i<z.cps.size
 .show .inr %[e,Pv _,λd H' q=>%[z.cps.size-(i+1),⋯,rfl,e|q]|λx H' y=>?_];let%[rfl,c,r|rfl]:=y;show n i c a _ r p
 .obtain rfl:i=z.cps.size:=by lia
  show .inl %[Zi _|o a H p]
def Bm{p:ij×iv×ZB}{z:iv}:z∈lyr p↔∃c,Let p.2.2 c/\z=lnS p.2.1 (sgn c):=by
 constructor
 .intro h;let%[y,b|rfl]:=Xo h;let%[c,a|rfl]:=Xo (a9.mp b);show%[c,fU.mp a|ρ]
 .rintro⟨c,a,rfl⟩;show ix a
def wu{H:Hp}:∀{cs:dV _},bZ H cs-> ~~~(cs.flatMap lyr)<=26* ~~~cs
 |[],_=>Zi _
 | q::cs,h=>by
   let b:=wu λp a=>h p (Zk _ a)
   let: ~~~(lyr q)<=26:=by
    unfold lyr;rw[Z6];show lh (km (h q Zm).2.2.sign)
   rw[PB,Z9,Zr]
   lia
abbrev sw(q:ij×ZM):pp:=decide (q.2[0]?∣.str (!"same"))
abbrev prT(q:ij×ZM):iv×iv:=match q.2 with|[_,.str a,.str b]=>(a,b)|_=>(Me,Me)
def Bn{c:ZB}{q:ij×ZM}(h:mJ c q.2)(e:sw q=fI):∃a b,q.2=[.str (!"same"),.str a,.str b]/\a∈c/\b∈c/\prT q=(a,b):=by
 let e:=Zo e;rcases h with⟨w,a,b,h,_,d,f,_⟩|⟨w,a,y,h,hw,_⟩
 .rw[h]at e;obtain rfl:w=n0 _:=V.str.inj (Za e);show%[a,b,h,d,f|by unfold prT;rw[h]]
 .rw[h]at e;let:=V.str.inj (Za e);rw[this]at hw;show m4 hw (!1)
def HC{H:Hp}{f:ZB}{qs:dV _}(h:cV H f qs)(a b:iv):a7 qs a b↔(a,b)∈(qs.filter sw).map prT:=by
 constructor
 .rintro⟨q,c,e⟩;show Xp %[q,n7.mpr %[c|by unfold sw;rw[e];show Zf rfl]|by unfold prT;rw[e]]
 .intro m;let%[q,c|e]:=Xo m;let%[d|g]:=n7.mp c;let%[x,y,i,_,_|j]:=Bn (h q d).2 g;rw[j]at e;cases e;show%[q,d|i]
inductive yw
 | mk (l m:ij) (cs:ZH) (qs:ZN):vs=[.ref l,.ref m]->H l<*bP cs->H m∣.lst (qs\0)->bZ H cs->cV H (cs.flatMap lyr) qs-> ~~~cs<=3-> ~~~qs<=60->(∀d H' ms f,ah H H'->H d=eH->H' d∣.dK (NmD ms f)->ms.Nodup->(∀z,z∈ms↔z∈cs.flatMap lyr)->(∀z∈ms,f z∈ms/\bE (a7 qs) z (f z))->Q (.ref d) H')->yw vs H Q E0
def oE(T:Txt K mg):↥1 "_law_homes" ["_law_cuts_here","_law_sayings"] yw:=by
 .exists T.bH,bw,bt,hr,%[l,m,cs,qs,rfl,hl,hm,ca,sa,c3,a5|kk];let qm: ~~~(qs\0)= ~~~qs:=Z6 _;let ap: ~~~(bP cs)= ~~~cs:=Z6 _;show%[_,%["JCG2zCTW0nRK3RK4kET]24K5EML]F5UEuI%I%3U52I%I%3U5NC~S6rqg?1W1d0?2wLaO0DU0CT&AbcA6BBK7ETW6nRK8RK9RK:kCG;~I~3AV29AV2,:BCu,;29Eu,;2,:EH2",bw.nd,↑(["_law_saying"],[]),↑["_law_saying"]|hr]|?_]
  change aW _ _ _ [!l,!m,eH,eH,eH,eH,eH,eH,eH,eH,eH,eH] H;show aj λD1 k1 _=>?_
  lk;intro d fd;show k1 _ _ (aj λD2 k2 _=>aB λN hK=>?_);let s1:=ah.Qa (o:= .dK []) fd;lk;show%[%[_|Qb.of (s1 _ _ hl)]|hK _ _ (f9 (λi B H'=>E4 λo3 o4 U n=>A5 (B=[!l,!m,!d,o3,o4,U,eH,eH,eH,eH,eH,eH]) (ah H H') (H' d∣.dK (NmD n id)) n.Nodup (∀z,z∈n↔z∈(cs.take i).flatMap lyr))
   %[_,_,_,[],ρ,s1,af,X3|λz=>Od] (λi B H' _ ⟨_,_,_,_,_,q,_,_,_⟩=>Qb.of (q _ _ hl)) ?_ ?_)]
  .intro i x B H1 hx %[o3,o4,U,n,rfl,O,hd,nd|mem];let hi:i< ~~~cs:=by rw[<-ap];show(Xl hx).1
   obtain⟨q,hq,rfl⟩:∃q,cs[i]?∣q/\x=V.ref q.1:=by
    unfold bP at hx;rw[Zl,Z4 hi]at hx;show%[cs[i],Z4 hi|(Za hx).symm]
   let aq:=Z8 hq;let%[as,a6|bb]:=ca q aq;let tk:cs.take (i+1)=cs.take i++[q]:=by rw[X9,hq];rfl
   let tx:∀c,c≠10->c≠46->(c∈(rM nl q.2.2).cps.toList↔Let q.2.2 c):=λc J L=>by
    rw[yv J];show%[λh=>%[L|h]|λh=>h.2]
   let bx:=iU a6
   generalize rM nl q.2.2=tt at tx as
   show%[_,SqT.of (O _ _ as),ρ,_,_,ρ,_,_,ρ,ρ|?_];show aE λD3 k3 _=>aB λN hK=>?_
   lk;show hK _ _ (HB (λj B H'=>E2 λU n=>A5 (B=[!l,!m,!d,fx (.str q.2.1),-tt,U,eH,eH,eH,eH,eH,eH]) (ah H H') (H' d∣.dK (NmD n id)) n.Nodup (∀z,z∈n↔z∈(cs.take i).flatMap lyr\/∃c∈tt.cps.toList.take j,c≠10/\c≠46/\z=lnS q.2.1 (sgn c)))
    %[_,n,rfl,O,hd,nd|λz=>by rw[mem];simp] ?_ ?_)
   .intro j c B H2 hc %[U,n,rfl,O,hd,nd|mem];let C:tt.cps.toList[j]?∣c:=↑hc
    let ka:tt.cps.toList.take (j+1)=tt.cps.toList.take j++[c]:=by rw[X9,C];rfl
    change kY _ _ _ _ [!l,!m,!d,fx (.str q.2.1),-tt,fx (.str (sgn c)),eH,eH,eH,eH,eH,eH] H2;show aE λD4 k4 _=>?_
    lk;let bc: ~~~n<=100:=by
     let:=_ST.nodup_sub nd (m:=cs.flatMap lyr) λz hz=>by
      rcases(mem z).mp hz with h|⟨c,hc,J,L,rfl⟩
      .let%[p,hp|e]:=Mi.mp h;show Mi.mpr %[p,Yx hp|e]
      .show Mi.mpr %[q,aq|Bm.mpr %[c,(tx c J L).mp (Yx hc)|rfl]]
     let:=wu ca
     lia
    rw[show(!!(KE (!".\n") (sgn c) 0 (!".\n").length 1).isEmpty)=!decide (c∈(!".\n").cps.toList)from vb not (vh _ _),jo];let ax:c∈(!".\n").cps.toList↔c=46\/c=10:=by
     rw[show(!".\n").cps.toList=[46,10]from rfl];simp
    let ag: ~~~q.2.1+(!".").length<=ku:=by rw[PySem.sizeLine_eq];change ~~~q.2.1+1<=_;lia
    let ak:(q.2.1++n0 ".").length+ ~~~(sgn c)<=ku:=by rw[PySem.sizeLine_eq,PM];change ~~~q.2.1+1+1<=_;lia
    show .inl (bz (λh=>?_) λh=>?_)
    .let h: ¬ (c=46\/c=10):=λe=>by rw[Zf (ax.mpr e)]at h;cases h
     let a0:∀z,(z∈(cs.take i).flatMap lyr\/∃c∈tt.cps.toList.take (j+1),c≠10/\c≠46/\z=lnS q.2.1 (sgn c))↔z∈n\/z=lnS q.2.1 (sgn c):=λz=>by
      rw[mem,ka]
      constructor
      .rintro(h|⟨c',C,J,L,e⟩)
       .show .inl (.inl h)
       .rcases Xm C with u|u
        .show .inl (.inr %[c',u,J,L|e])
        .rw[Xn u]at e;show .inr e
      .rintro((h|⟨c',C,J,L,e⟩)|e)
       .show .inl h
       .show .inr %[c',Yu _ C,J,L|e]
       .show .inr %[c,Yv _ Zm,λe=>h (.inr e),λe=>h (.inl e)|e]
     show%[ag,ak,ag,ak,_,gX.k (k:=hY (lnS q.2.1 (sgn c))) hd (by unfold NmD;rw[Z6];show aF ⋯)|?_];by_cases ac:lnS q.2.1 (sgn c)∈n
     .show k4 _ _ %[_,n,rfl,ah.set O fd,?_,nd|λz=>by rw[a0];show%[.inl|λh=>h.elim id λe=>e▸ac]];rw[af,qU ac];show vb (λf=>fx (HO.dK (NmD n f))) (funext λx=>by by_cases e:x=lnS q.2.1 (sgn c)<;> simp[e])
     .show k4 _ _ %[_,n++[lnS q.2.1 (sgn c)],rfl,ah.set O fd,by rw[af,FA ac],?_|λz=>by rw[a0,Yt,Yy]];rw[X1];show%[nd,by simp|λa ha b hb e=>ac (by rw[<-Xn hb,<-e];show ha)]
    .show k4 _ _ %[_,n,rfl,O,hd,nd|λz=>?_];let h:c=46\/c=10:=by
      rw[<-ax];simpa using h
     rw[mem,ka];show QB Od %[λ⟨c',C,r⟩=>%[c',Yu _ C|r]|λ⟨c',C,J,L,e⟩=>?_];rcases Xm C with u|u
     .show%[c',u,J,L|e]
     .rw[Xn u]at J L;show(h.elim L J).elim
   .intro B H2 %[U,n,rfl,O,hd,nd|mem];show k3 _ _ %[_,_,_,n,rfl,O,hd,nd|λz=>?_];rw[mem,tk,O0,Yt];show QB Od ?_;rw[show dV.flatMap lyr [q]=lyr q by simp,Bm];let e:tt.cps.toList.take tt.cps.size=tt.cps.toList:=Zn ∅;rw[e]
    constructor
    .rintro⟨c,hc,J,L,e⟩;show%[c,(tx c J L).mp hc|e]
    .rintro⟨c,hc,e⟩;let a1:c≠10:=by
      let%[_,r,hr|be]:=hc;show DY (NV.mp (bb.sign r hr) c be)
     show%[c,(tx c a1 hc.1).mpr hc,a1,hc.1|e]
  .intro B H1 %[o3,o4,U,n,rfl,O,hd,nd|mem];rw[ap,Xc]at mem;show k2 _ _ (aj λD3 k3 _=>?_);lk;show aN λN hK=>?_
   lk;let a2:=O _ _ hm;show%[%[_|Qb.of a2]|hK _ _ λF hF=>?_];show di (λj vs B H7=>(∃o1,B=[o1])/\ah H1 H7/\H7 F<*vs/\vs=((qs.take j).filter sw)\0)
    %[%[eH|rfl],ah.Qa hF,af|rfl] (λ_ _ _ H7 ⟨_,O,_⟩=>O _ _ a2) ?_ ?_
   .intro j vs B H8 hj %[%[o1|rfl],s7,a3|hv];let%[ht|so]:=sa _ (Yd hj);let st:=SqT.of (K:=K) (s7 _ _ (O _ _ ht));let fe:∀b:pp,sw qs[j]=b->((qs.take (j+1)).filter sw)\0=vs++if b=fI then [V.ref qs[j].1]else []:=λb hb=>by
     rw[hv,X9,Z4 hj,Y2,Zd]
     congr 1
     change RG _ (N1 sw [qs[j]])=_;rw[Y3,hb];cases b<;> rfl
    let vl: ~~~vs<ku:=by rw[hv,Z6];show aF (md (Yi _ _) (by rw[Yl];lia))
    obtain⟨w,r,ew⟩:∃w r,qs[j].2=V.str w::r:=by
     rcases so with⟨w,a,b,e,_⟩|⟨w,a,y,e,_⟩
     .show%[_,_|e]
     .show%[_,_|e]
    rw[ew]at st;let is:sw qs[j]=decide (w=!"same"):=by
     unfold sw;rw[ew];simp
    lk;show%[_,st,.str w,(show atI (V.str w::r) ((0:hH):nX)∣.str w from bG rfl),ρ|bz (λc=>CK.mk hj a3 vl %[%[_|ρ],ah.set s7 hF,af|?_]) λc=>CN.mk hj %[%[_|ρ],s7,a3|?_]]
    .rw[fe fI (by rw[is];simpa using c)];rfl
    .rw[fe fS (by rw[is];simpa using c)];simp
   intro vs B H3 %[_,s3,ae|rfl];rw[Zn (Zi _)]at ae
   generalize al:qs.filter sw=us at ae
   let pI:=HC sa;rw[al]at pI;let ul: ~~~us<=60:=by rw[<-al];show md (Yi _ _) a5
   let tu:∀q∈us,H q.1&&&q.2/\∃a b,q.2=[.str (!"same"),.str a,.str b]/\a∈n/\b∈n/\prT q=(a,b):=λq hq=>by
    rw[<-al]at hq;let%[J|L]:=n7.mp hq;let%[a,b,e,ha,hb|h]:=Bn (sa q J).2 L;show%[(sa q J).1,a,b,e,(mem a).mpr ha,(mem b).mpr hb|h]
   let ws:∀a b,a7 qs a b->a∈n/\b∈n:=λa b h=>by
    let:=cZ sa a b h;show%[(mem a).mpr this.1|(mem b).mpr this.2]
   let bc: ~~~n<=100:=by
    let:=_ST.nodup_sub nd (m:=cs.flatMap lyr) λz hz=>(mem z).mp hz
    let:=wu ca
    lia
   let um: ~~~(us\0)= ~~~us:=Z6 _;show k3 _ _ (aj λD4 k4 _=>aB λN hK=>?_);lk;let bf:=O.trans s3;show%[~~~us,.inl %[_,Qb.of ae|um.symm],⋯,⋯|hK _ _ (cR (λi B H'=>E6 λo7 o8 o9 I G f=>A5 (B=[!l,!m,!d,o3,o4,U,!F,o7,o8,o9,I,G]) (ah H H') (H' F∣.lst (us\0)) (H' d∣.dK (NmD n f)) (Rnd n (us.map prT) (a7 qs) f i))
    %[_,_,_,_,_,id,ρ,bf,ae,s3 _ _ hd|.nil] ?_ ?_)]
   .intro i B H5 hi %[o7,o8,o9,I,G,f,rfl,s5,an,ao|R];change wC _ _ _ _ [!l,!m,!d,o3,o4,U,!F,fx (.int (0+i)),o8,o9,I,G] H5;show aE λD6 k6 _=>aB λN hK=>?_
    lk;show%[%[_|Qb.of an]|hK _ _ (bR (λj B H'=>E6 λo7 o8 o9 I G g=>A5 (B=[!l,!m,!d,o3,o4,U,!F,o7,o8,o9,I,G]) (ah H H') (H' F∣.lst (us\0)) (H' d∣.dK (NmD n g)) (Mid n (a7 qs) (λa b=>(a,b)∈(us.take j).map prT) f g))
     %[_,_,_,_,_,f,ρ,s5,an,ao,R.con,λz _=>dN _|λa b h=>(nomatch h)] (λj B H' ⟨_,_,_,_,_,_,_,_,q,_,_⟩=>q) ?_ ?_)]
    .intro j q B H6 hq %[o7,o8,o9,I,G,g,rfl,s6,Y,ab|M];let a4:=Z8 hq;let%[q1,a,b,e,ha,hb|pe]:=tu q a4;let st:=SqT.of (K:=K) (s6 _ _ q1);rw[e]at st;let get:∀y∈n,cg H6 d (.str y) (fx (.str (g y))):=λy hy=>by
      let:=cg.k (k:=hY y) ab;rw[gO hy]at this;show this
     let bl:a7 qs a b:=(pI a b).mpr (Xp %[q,a4|pe]);show%[_,st,ρ,_,_,ρ,_,_,ρ,_,_,ρ,ρ|?_];change aW _ _ _ [!l,!m,!d,o3,o4,U,!F,o7,fx (.str (!"same")),-a,-b,G] H6;show aj λD7 k7 _=>?_
     lk;show%[_,get a ha,_,get b hb|k7 _ _ (aj λD8 k8 _=>?_)]
     generalize hv:(if aS (g b) (g a)=fI then g b else g a)=v
     let hn:∀g,~~~(NmD n g)<ku:=λg=>by unfold NmD;rw[Z6];show aF ⋯
     let P1:=gX.k (k:=hY a) (v:= .str v) ab (hn g);rw[qU ha]at P1;let bm:F≠d:=λc=>by rw[c,ab]at Y;cases Y
     lk;show%[_,P1|k8 _ _ (aE λD9 k9 _=>?_)];let P2:=gX.k (k:=hY b) (v:= .str v) (H:=Qa H6 d (.dK (NmD n λx=>if x=a then v else g x))) af (hn _);rw[qU hb,FW]at P2;lk;show%[_,P2|k9 _ _ %[_,_,_,_,_,_,ρ,ah.set s6 fd,(av bm).trans Y,af|?_]];let M2:=M.step ws bl (λx y h=>(pI x y).mpr ((Vz prT (Va j us)) h)) hv.symm;show%[M2.con,M2.le|λx y t=>M2.don x y ?_];let t:(x,y)∈(us.take (j+1)).map prT:=t;rw[X9,hq,Zd]at t;rcases Xm t with z|z
     .show .inl z
     .let z:(x,y)=prT q:=↑z
      rw[pe]at z;cases z;show .inr %[rfl|rfl]
    .intro B H6 %[o7,o8,o9,I,G,g,rfl,s6,Y,ab|M];rw[Zn (Zi _)]at M;show k6 _ _ %[_,_,_,_,_,g,rfl,s6,Y,ab|R.step pI ws %[M.con,M.le|λa b s=>M.don a b ((pI a b).mp s)]]
   .intro B H5 %[o7,o8,o9,I,G,f,rfl,s5,an,ao|R];show k4 _ _ ?_;lk;let R:Rnd n (us.map prT) (a7 qs) f (us.map prT).length:=by rw[Z6];simpa using R
    show kk d H5 n f s5 fd ao nd mem λz hz=>R.done pI ws hz
def L7{rows:ZB}{i n:hH}(h:i<=n){k:ZB}(a:k∈bY rows i):k∈bY rows n:=by
 unfold bY at a ⊢;let%[j,b|e]:=Mi.mp a;show Mi.mpr %[j,vu.mpr (Zg (vu.mp b) h)|e]
def HD{p:hH×hH}{k:ZB}(h:iw p∣k):[p].filterMap iw=[k]:=by rw[Y1,h];rfl
def HE{p:hH×hH}(h:iw p=eH):[p].filterMap iw=[]:=by rw[Y1,h];rfl
inductive yx
 | mk (n:iv) (rows:ZB):vs=[.str n,.str (rM nl rows)]->cX rows-> ~~~n<=8->(∀r H' (ts:ZG),ah H H'->H r=eH->H' r∣.lst (ts\0)->aI H' ts->ts\2=(bY rows (~~~rows-1)).map (mM n)-> ~~~ts<=1600->Q (.ref r) H')->yx vs H Q E0
def HF(c e:hH):inV (V.str ⟨([c].toArray)⟩) [V.str (!"."),V.str ⟨([e].toArray)⟩]=decide (c=46\/c=e):=by
 let d:((⟨([c].toArray)⟩:iv)=!".")↔c=46:=%[λh=>by let:[c]=[46]:=vb (λz:iv=>z.cps.toList) h;show(NK this).1|λh=>by rw[h];rfl]
 let f:((⟨([c].toArray)⟩:iv)=⟨([e].toArray)⟩)↔c=e:=%[λh=>by let:=vb (λz:iv=>z.cps.toList) h;simpa using this|λh=>by rw[h]]
 simp only[inV,Zw,dV.any_nil,eqV];by_cases a:c=46
 .subst a;rw[show(n0 "."==(⟨([46].toArray)⟩:iv))=fI by decide +kernel];simp
 .rw[show(n0 "."==(⟨([c].toArray)⟩:iv))=fS from Mp.mpr λh=>a (d.mp h.symm)];by_cases b:c=e
  .subst b;simp
  .rw[show((⟨([e].toArray)⟩:iv)==⟨([c].toArray)⟩)=fS from Mp.mpr λh=>b (f.mp h.symm)];simp[a,b]
def rg(T:Txt K mg):↥1 "_law_cut_ties" ["_law_name","_law_text"] yx:=by
 .exists T.bF,cE,b1,hr,%[n,rows,rfl,a,b2|kk];let%[wd,w1,w2|aq]:=a.wide;let bf:=a.text;let as:=a.split;let b3:=a.high;let bl:=a.pos
  generalize rM nl rows=z at bf as
  show%[_,%["JCG2~/~:1AUBCG3SBCT~=A2A=2>D^BnRK4RK5kET&AbcA4BBK6EML]F~D46jAUA~D56BEZsl3AjAI%I%0U~D46AI%I%0U~D56A0BBNEH3"|cE.nd]|?_]
  change aW _ _ _ [-n,-z,eH,eH,eH,eH,eH] H;show aj λD1 k1 _=>?_
  lk;show%[!1,md (by lia: ~~~z+2<=5000) (!1)|λR hR=>k1 _ _ ?_];rw[show(!"\n")=nl from rfl,as];let sR:=ah.Qa (o:= .lst (rows\3)) hR;let gR:=own sR
  generalize Qa H R _=H1 at sR gR
  show aj λD2 k2 _=>?_
  lk;show%[Xe _|λL hL=>k2 _ _ (aj λD3 k3 _=>aB λax hK=>?_)];let sL:=sR.trans (ah.Qa (o:= .lst []) hL);let gL:Qa H1 L (.lst []) L<*[]:=af;let J:=ah.Qa (o:= .lst []) hL _ _ gR;let fL:=sR.free hL
  generalize Qa H1 L _=g at sL gL J
  lk;show%[_,Qb.of J|λp hp=>?_];rw[uF rows (Nc.mp bl)];let s3:=ah.Qa (o:= .lst ((rows.drop 1)\3)) hp;let M:=s3 _ _ J;let a0:=s3 _ _ gL;let N:Qa g p (.lst ((rows.drop 1)\3)) p<*(rows.drop 1)\3:=af;let a1:=sL.trans s3;let bm:R≠L:=λe=>by rw[e,hL]at gR;cases gR
  let bt:p≠L:=λe=>by rw[e,gL]at hp;cases hp
  generalize Qa g p _=H3 at s3 M a0 N a1
  show%[%[_|Qb.of M],%[_|Qb.of N]|hK _ _ (xR (xs:=rows\3) (ys:=(rows.drop 1)\3) (λi C H'=>A5 (E3 λo4 o5 G=>C=[-n,-z,!R,!L,o4,o5,G]) (ah H H') (H' R<*rows\3) (H' p<*(rows.drop 1)\3) (∃ps:ZG,A4 (H' L∣.lst (ps\0)) (aI H' ps) (ps\2=(bY rows i).map (mM n)) (~~~ps<=40*i))) %[%[_,_,_|ρ],a1,M,N,[],a0,e9 _,ρ|Xe _] (by rw[Z6,Z6,Yh];lia) (λi C H' _ h=>%[Qb.of h.3|Qb.of h.4]) ?_ ?_)]
  .intro i x y TT C H' hx hy %[%[o4,o5,G|rfl],sm,a2,a3,ps,O,U,v|l] hT;rw[Zl]at hx hy;let%[u,hu|rfl]:=zz.mp hx;let%[r,B|rfl]:=zz.mp hy;rw[Pl,T3]at B;let b4:i+1< ~~~rows:=(Xl B).1;let ul:u.cps.size=wd:=aq u (Z8 hu);let rl:r.cps.size=wd:=aq r (Z8 B);let d:=ah.Qa (o:= .tup [V.str u,V.str r]) hT;let a4:Qa H' TT (.tup [V.str u,V.str r]) TT&&&[V.str u,V.str r]:=af;let a5:=d _ _ a2;let a6:=d _ _ a3;let bb:=d _ _ O;let I:aI (Qa H' TT (.tup [V.str u,V.str r])) ps:=aG U λb z e=>d _ _ e
   let bc:=sm.trans d
   generalize Qa H' TT _=HT at d a4 a5 a6 bb I bc
   let g1:rows.getD i ⟨([].toArray)⟩=u:=by rw[Zc,hu];rfl
   let g2:rows.getD (i+1) ⟨([].toArray)⟩=r:=by rw[Zc,B];rfl
   let bx:bY rows (i+1)=bY rows i++(No u.cps.toList r.cps.toList).filterMap iw:=by rw[mI,g1,g2];rfl
   show%[_,SqT.of a4,ρ,_,_,ρ,_,_,ρ,ρ|?_];change wC _ _ _ _ [-n,-z,!R,!L,-u,-r,G] HT;show aE λD4 k4 _=>aB λax hK=>?_
   lk;let us: ~~~u=wd:=ul;show%[by rw[us];show Yf (aF ⋯),⋯,⋯|?_];rw[us,OH];show hK _ _ (cR (λj C g=>∃G,A5 (C=[-n,-z,!R,!L,-u,-r,G]) (ah H g) (g R<*rows\3) (g p<*(rows.drop 1)\3) (∃ps:ZG,A4 (g L∣.lst (ps\0)) (aI g ps) (ps\2=(bY rows i++((No u.cps.toList r.cps.toList).take j).filterMap iw).map (mM n)) (~~~ps<=40*i+j)))
    %[_,rfl,bc,a5,a6,ps,bb,I,by rw[v];simp|l] ?_ ?_)
   .intro j C g hj %[G,rfl,Y,ab,ag,qs,ak,tq,qe|ql];change kY _ _ _ _ [-n,-z,!R,!L,-u,-r,fx (.int (0+j))] g;rw[Ps];obtain⟨c,hc⟩:∃c,u.cps[j]?∣c:=%[u.cps[j]|by simp[show j<u.cps.size by lia]]
    obtain⟨e,he⟩:∃e,r.cps[j]?∣e:=%[r.cps[j]|by simp[show j<r.cps.size by lia]]
    let nx:=qH u r j c e hc he;let ac:atI u.cps.toList (j:nX)∣c:=bG ↑hc;let ae:atI r.cps.toList (j:nX)∣e:=bG ↑he;show aE λD5 k5 _=>?_
    lk;let l1: ~~~n+(!".").length<=ku:=cU (by change ~~~n+1<=_;lia);let l2:∀c:hH,(n++n0 ".").length+ ~~~(⟨([c].toArray)⟩:iv)<=ku:=λc=>cU (by
     let e:(n++n0 ".").length= ~~~n+(!".").length:=Rn;let e1: ~~~(⟨([c].toArray)⟩:iv)=1:=rfl;let e2:(!".").length=1:=rfl
     lia)
    let lu: ~~~u<=ku:=by rw[us];show Yf (aF ⋯)
    let lr: ~~~r<=ku:=by rw[show ~~~r=wd from rl];show Yf (aF ⋯)
    show%[lu,c,ac,lr,e,ae,#[2]|λt ht=> .inr %[_,.inr (SqT.of af),ρ,ρ|?_]];let st:=ah.Qa (o:= .tup [V.str (!"."),V.str ⟨([e].toArray)⟩]) ht;let al:=aG tq λb z e=>st _ _ e
    let m:=st _ _ ak;let an:=Y.trans st;let ao:=st _ _ ab;let ap:=st _ _ ag
    generalize Qa g t _=H4 at st al m an ao ap
    let stay:iw (c,e)=eH->(bY rows i++((No u.cps.toList r.cps.toList).take (j+1)).filterMap iw).map (mM n)=qs\2:=λe=>by rw[qe,<-nx,Y0,HE e,Zx]
    rw[show inV (V.str ⟨([c].toArray)⟩) [V.str (!"."),V.str ⟨([e].toArray)⟩]=decide (c=46\/c=e)from HF c e];show bz (λh=>?_) λh=>?_
    .let h: ¬ (c=46\/c=e):=↑h
     show%[tyL (Qb.of m),l1,lu,c,ac,l2 c,l1,lr,e,ae,l2 e,#[3]|λq hq=>?_];rw[jo,jo];let sq:=ah.Qa (o:= .tup [V.str (lnS n ⟨([c].toArray)⟩),V.str (lnS n ⟨([e].toArray)⟩),V.str n]) hq;let be:=sq _ _ m;let b0:q≠L:=λe=>by rw[e,m]at hq;cases hq
     show%[_,be,by rw[Z6];show aF ⋯|k5 _ _ %[_,ρ,ah.set (an.trans sq) fL,(av bm).trans (sq _ _ ao),(av bt).trans (sq _ _ ap),qs++[(q,[lnS n ⟨([c].toArray)⟩,lnS n ⟨([e].toArray)⟩,n])],by rw[af,Zd];rfl,fW (aG (aG al λb z e=>sq _ _ e) (pi be)) ∅ ((av b0).trans af),?_|by rw[Z9];show X8 ql]];rw[<-nx,Y0,HD (jg %[λe=>h (.inl e)|λe=>h (.inr e)]),<-Ze,Zd,Zd,qe];rfl
    .show k5 _ _ %[_,rfl,an,ao,ap,qs,m,al,(stay (hX λq=>?_)).symm|⋯];rw[Zh (λe=>e.elim q.1 q.2)]at h;show h rfl
   .intro C g %[G,rfl,Y,ab,ag,qs,ak,tq,qe|ql];rw[Zn (by rw[TJ];simp;lia),<-bx]at qe;show k4 _ _ %[%[_,_,_|rfl],Y,ab,ag,qs,ak,tq,qe|⋯]
  .intro C H' %[%[o4,o5,G|rfl],sm,a2,a3,ps,O,U,v|l];rw[Z6,Yh]at v l;show k3 _ _ ?_;lk;show kk L H' ps sm fL O U v ⋯
inductive yy
 | mk (l m:ij) (cs:ZH) (qs:ZN) (ls:ZB):vs=[.ref l,.ref m]->H l<*bP cs->H m∣.lst (qs\0)->bZ H cs->cV H ls qs-> ~~~cs<=3-> ~~~qs<=40->(∀r H' (ts:ZG),ah H H'->H' r∣.lst (ts\0)->aI H' ts->ts\2=dc cs++df qs qs.length->Q (.ref r) H')->yy vs H Q E0
def Af(T:Txt K mg):↥2 "_law_ties" ["_law_cuts_here","_law_sayings"] yy:=by
 .exists T.bG,dG,as,hr,%[l,m,cs,qs,ls,rfl,hl,hm,ca,sa,c3,ax|kk];let N: ~~~(bP cs)= ~~~cs:=Z6 _;show%[_,(QSs.h (ai (aH 2 dG.nd rfl (ci am))
   (ai (cu PQ rfl rfl (c8 (K:=K) rfl ↑0) (gY (K:=K) rfl rfl rfl (gsE rfl (aO 3 dG.nd rfl) (gsE rfl (aO 4 dG.nd rfl) dB)))
   (au (aH 2 dG.nd rfl (opE uf ↑2 (aJ (rg T) hr rfl #[↑3,↑4])))))
   (ai (cu PQ rfl rfl (pS (K:=K) rfl rfl T.ae rfl #[↑1]) (gY (K:=K) rfl rfl rfl (gsE rfl (aO 5 dG.nd rfl) (gsE rfl (aO 6 dG.nd rfl) dB)))
   (au (ifS (bg cn rfl (↑6>>az) cA)
    (au (bK rfl (bmO (K:=K) Op PySem.F.slot_list_append PySem.F.type_list_append bj rfl ↑2 #[(fA #[(↑6>>az),(↑6>>az),opE eE cA (ctO ⟨uX⟩ T.ab Vt rfl #[↑5])])])))
    aR)))
   (au (aM ↑2))))))|?_]
  change aW _ _ _ [!l,!m,eH,eH,eH,eH,eH] H;show aj λD1 k1 _=>?_
  lk;show%[Xe _|λL hL=>k1 _ _ (aj λD2 k2 _=>aB λO hK=>?_)];let sL:=ah.Qa (o:= .lst []) hL;lk;show%[%[_|Qb.of (sL _ _ hl)]|hK _ _ (f9 (λi n H'=>E4 λL U Y ts=>A7 (n=[!l,!m,!L,U,Y,eH,eH]) (ah H H') (H L=eH) (H' L∣.lst (ts.map λt:ij×ZB=>V.ref t.1)) (aI H' ts) (ts\2=dc (cs.take i)) (~~~ts<=1600*i))
   %[L,_,_,[],ρ,sL,hL,af,e9 _,ρ|Xe _] (λi n H' _ ⟨_,_,_,_,_,q,_,_,_,_,_⟩=>Qb.of (q _ _ hl)) ?_ ?_)]
  .intro i x n H1 v %[L,U,Y,ts,rfl,j,fL,B,C,d|tl];let hi:i< ~~~cs:=by rw[<-N];show(Xl v).1
   obtain⟨q,hq,rfl⟩:∃q,cs[i]?∣q/\x=V.ref q.1:=by
    unfold bP at v;rw[Zl,Z4 hi]at v;show%[cs[i],Z4 hi|(Za v).symm]
   let%[al,an|ao]:=ca q (Z8 hq);show%[_,SqT.of (j _ _ al),ρ,_,_,ρ,_,_,ρ,ρ|?_];change uU _ _ _ [!l,!m,!L,fx (.str q.2.1),fx (.str (rM nl q.2.2)),eH,eH] H1;show aE λD3 k3 _=>?_
   lk;show%[_,_,ρ,ao,iU an|λr H2 us s2 fr hr tu ue ul=>%[_,s2 _ _ B,_,hr,by rw[Z6,Z6];show Yf (aF ⋯)|λp G=>k3 _ _ %[p,_,_,ts++us,ρ,(j.trans s2).trans (ah.Qa G),(j.trans s2).free G,by rw[af,Zd],aG (qK (aG C λb z e=>s2 _ _ e) tu) (λb z e=>ah.Qa G _ _ e),by rw[Zd,d,ue,mO hq]|by rw[Z9];lia]]]
  .intro n H1 %[L,U,Y,ts,rfl,j,fL,B,C,d|tl];rw[N,Xc]at d;show k2 _ _ (aj λD3 k3 _=>aB λO hK=>?_);lk;let ab: ~~~(qs\0)= ~~~qs:=Z6 _;show%[_,Qb.of (j _ _ hm)|hK _ _ (iM (λi n H'=>E2 λo5 o6=>A3 (n=[!l,!m,!L,U,Y,o5,o6]) (ah H H') (∃ts:ZG,A4 (H' L∣.lst (ts\0)) (aI H' ts) (ts\2=dc cs++df qs i) (~~~ts<=4800+i)))
    %[_,_,ρ,j,ts,B,C,by rw[d,show df qs 0=[]from rfl,Zx]|⋯] (λi n H' _ ⟨_,_,_,q,_⟩=>Qb.of (q _ _ hm)) ?_ ?_)]
   .intro i x TT n H' v %[o5,o6,rfl,j,ts,I,C,d|tl] hT;let hi:i< ~~~qs:=by rw[<-ab];show(Xl v).1
    obtain⟨q,hq,rfl⟩:∃q,qs[i]?∣q/\x=V.ref q.1:=by
     rw[Zl,Z4 hi]at v;show%[qs[i],Z4 hi|(Za v).symm]
    let s0:=ah.Qa (o:= .tup [.int i,.ref q.1]) hT;let g:ah H (Qa H' TT (.tup [.int i,.ref q.1])):=j.trans s0;let ac:Qa H' TT (.tup [.int i,.ref q.1]) TT&&&[.int i,.ref q.1]:=af;let c:=s0 _ _ I;let u:=aG C λb z e=>s0 _ _ e
    generalize Qa H' TT _=HT at g ac c u
    let ae:=sa q (Z8 hq);let st:=SqT.of (K:=K) (g _ _ ae.1);let J:=fJ hq;show%[_,SqT.of ac,ρ,_,_,ρ,_,_,ρ,ρ|?_];change kY _ _ _ _ [!l,!m,!L,U,Y,fx (.int i),fx (.ref q.1)] HT;show aE λD4 k4 _=>?_
    lk;rcases ae.2 with⟨wd,a,b,e,hw,ma,mb,_⟩|⟨wd,a,y,e,hw,_⟩
    .rw[e]at st J;show%[_,st,_,ρ,ρ|bz (λM=>?_) λM=>?_]
     .rw[show iF i [V.str wd,V.str a,V.str b]∣[a,b,we i]from jg (V.str.inj (Zo M))]at J;let aq: ~~~(n0 (toString (i:nX)))<=21:=by
       let e:=PySem.int_text_length_le10 (a:=(i:nX)) (k:=20) (!1) (by let:(i:nX).natAbs=i:=rfl;lia);rw[PySem.ofString_length];lia
      let e1:(!"#").length=1:=!0
      let ag:(i:nX).natAbs.log2<1920:=Ry (hH.log2_le_self _) (by let:(i:nX).natAbs=i:=rfl;lia);show%[tyL (Qb.of c),_,st,_,ρ,_,st,_,ρ,ag,cU ⋯,#[3]|λp G=>?_];rw[show n0 "#"++n0 (toString (i:nX))=we i from by unfold we;rw[uJ]];let sp:=ah.Qa (o:= .tup [V.str a,V.str b,V.str (we i)]) G;let ak:=sp _ _ c;let ap:p≠L:=λe=>by rw[e,c]at G;cases G
      show%[_,ak,by rw[Z6];show aF ⋯|k4 _ _ %[_,_,ρ,ah.set (g.trans sp) fL,ts++[(p,[a,b,we i])],by rw[af,Zd];rfl,fW (aG (aG u λb z e=>sp _ _ e) (pi ak)) ∅ ((av ap).trans af),?_|by rw[Z9];show X8 tl]];rw[J,Zd,d,<-Ze];rfl
     .rw[show iF i [V.str wd,V.str a,V.str b]=eH from hX λz=>M (Zf (by rw[z]))]at J;show k4 _ _ %[_,_,rfl,g,ts,c,u,?_|⋯];rw[J,d,kf.toList_none,Zx]
    .rw[e]at st J;show%[_,st,_,ρ,ρ|?_];rw[hX (by rcases hw with rfl|rfl<;> decide)];show k4 _ _ %[_,_,rfl,g,ts,c,u,?_|⋯];rw[J,d];change _=_++(_++[]);rw[Zx]
   .intro n H' %[o5,o6,rfl,j,ts,I,C,d|tl];rw[ab]at d;show k3 _ _ ?_;lk;show kk L H' ts j I C d
abbrev kA(a:dV (dV Key×V))(m:ZB->Prop):Prop:=∃ks:dV ZB,a\1=ks.map (λk=>k.map hY)/\ks.Nodup/\∀k,k∈ks↔m k
def FL{c:dV (dV Key×V)}{m j:ZB->Prop}(h:kA c m)(k:ZB)(v:V)(f:∀z,j z↔m z\/z=k):kA (dz c (k.map hY) v) j:=by
 let%[ks,g,l|i]:=h;let n:(k.map (hY:iv->Key))∈c\1↔k∈ks:=by
  rw[g,Pi]
  constructor
  .rintro⟨z,p,e⟩;rw[<-vK _ _ e];show p
  .intro d;show%[k,d|ρ]
 by_cases d:k∈ks
 .show%[ks,by rw[ni,jg (n.mpr d)];show g,l|λz=>?_];rw[i,f]
  constructor
  .show .inl
  .rintro(e|e)
   .show e
   .rw[e];show(i k).mp d
 .show%[ks++[k],by rw[ni,hX (λq=>d (n.mp q)),g,Zd];rfl,?_|λz=>?_]
  .rw[X1];show%[l,by simp|λa o b r e=>by rw[Xn r]at e;rw[e]at o;show d o]
  .rw[Yt,i,Yy,f]
def KS{a:dV (dV Key×V)}{m b:ZB->Prop}(h:kA a m)(e:∀k,m k↔b k):kA a b:=by
 let%[ks,c,d|f]:=h;show%[ks,c,d|λk=>(f k).trans (e k)]
def HG{a:dV (dV Key×V)}{m:ZB->Prop}{B:dV ZB}(h:kA a m)(s:∀k,m k->k∈B): ~~~a<= ~~~B:=by
 let%[ks,b,c|d]:=h;let:=_ST.nodup_sub c (m:=B) λk e=>s k ((d k).mp e)
 let l:=vb Mz b;rw[Z6,Z6]at l
 lia
def HH{rows:ZB}(h:rY rows)(e:cX rows):∃m:dV ZB,~~~m<=60/\∀k,k∈m↔k∈bY rows (~~~rows-1):=by
 let%[m,c|d]:=h;show%[m.filter λk=>decide (k∈bY rows (~~~rows-1)),md (Yi _ _) c|λk=>?_];rw[n7,Nx];show%[λh=>h.2|λh=>%[?_|h]];let%[a,b,rfl|mt]:=nB h;show d a b mt
def yz{H:Hp}:∀{cs:ZH},bZ H cs->(∀p∈cs,rY p.2.2)->∃ks:dV ZB,~~~ks<=60* ~~~cs/\∀k,k∈ks↔k∈dc cs
 |[],_,_=>%[[],Zi _|λk=>Od]
 | q::cs,h,f=>by
   let%[ks,d|b]:=yz (cs:=cs) (λp a=>h p (Zk _ a)) λp a=>f p (Zk _ a)
   let%[m,e|c]:=HH (f q Zm) (h q Zm).2.2;show%[m.map (mM q.2.1) ++ks,by rw[Z9,Z6,Zr];lia|λk=>?_];unfold dc at b ⊢;rw[PB,Yt,Yt,b,Pi,Pi];show QB (UO λz=>TX λ_=>c z) Od
def Bo{H:Hp}{cs:ZH}{qs:ZN}(ca:bZ H cs)(i:cV H (cs.flatMap lyr) qs){n:hH}{k:ZB}(h:k∈dc cs\/k∈df qs n):d9 (cs.flatMap lyr) k:=by
 rcases h with h|h
 .let%[p,c|h]:=Mi.mp h;let%[z,l|rfl]:=Xo h;let%[a,b,rfl|mt]:=nB l;let%[m|o]:=uE (ca p c).2.2 mt;show%[_,_,_,ρ,Mi.mpr %[p,c|ix m]|Mi.mpr %[p,c|ix o]]
 .let%[j,u|e]:=MX.mp h;cases d:qs[j]? with
  | none=>rw[d]at e;cases e
  | some q=>
    rw[d]at e;rcases(i q (Z8 d)).2 with⟨g,a,b,f,hw,r,s,_⟩|⟨g,a,y,f,hw,_⟩
    .let e:iF j q.2∣k:=e;rw[f]at e;let e:(if g=n0 "later" then fx [a,b,we j]else eH)∣k:=e
     split at e
     .cases e;show%[_,_,_,ρ,r|s]
     .cases e
    .let e:iF j q.2∣k:=e;rw[f]at e;cases e
inductive uP
 | mk (l m d:ij) (cs:ZH) (qs:ZN) (ms:ZB) (g:iv->iv) (ks0:dV ZB):vs=[.ref l,.ref m,.ref d]->H l<*bP cs->H m∣.lst (qs\0)->bZ H cs->cV H (cs.flatMap lyr) qs-> ~~~cs<=3-> ~~~qs<=40->H d∣.dK (NmD ms g)->(∀z,z∈ms↔z∈cs.flatMap lyr)->(∀z∈ms,g z∈ms/\bE (a7 qs) z (g z))-> ~~~ks0<=250->(∀k,k∈ks0↔k∈dc cs\/k∈df qs qs.length)->(∀r H' (ss:ZG),ah H H'->H r=eH->H' r∣.lst (ss\0)->aI H' ss->b7 (a7 qs) ks0 (ss\2)->(∀k∈ss\2,d9 ms k)-> ~~~ss<=250->Q (.ref r) H')->uP vs H Q E0
def yA(T:Txt K mg):↥3 "_law_links" ["_law_cuts_here","_law_sayings","_law_homes_here"] uP:=by
 .exists T.bI,eF,ax,hr,%[l,m,d,cs,qs,ms,g,c,rfl,hl,hm,ca,sa,c3,ak,hd,mem,lg,aq,N|kk];show%[_,%["JCG3]3CTWF]4A0A1BnRK4RK5RK6kEuh3jAV24AV25A6BEH(]5A3B",eF.nd|hr]|?_]
  change aW _ _ _ [!l,!m,!d,eH,eH,eH,eH] H;show aj λD1 k1 _=>?_
  lk;intro L hL;let O:=ah.Qa (o:= .dT []) hL;show k1 _ _ (aj λD2 k2 _=>aB λas hK=>?_);lk;show%[l,m,cs,qs,_,ρ,O _ _ hl,O _ _ hm,(λp hp=>%[O _ _ (ca p hp).1|(ca p hp).2]),(λq hq=>%[O _ _ (sa q hq).1|(sa q hq).2]),c3,ak|λr H1 ts s1 B tt te=>%[%[_|Qb.of B]|hK _ _ ?_]];let al:=O.trans s1;let G:=s1 _ _ (show Qa H L (.dT []) L∣.dT [] from af);let I:∀k,k∈ts\2↔k∈c:=λk=>by rw[te,Yt,N]
  let tok:∀k∈c,d9 ms k:=λk j=>by
   let%[a,b,z,e,U|Y]:=Bo ca sa ((N k).mp j);show%[a,b,z,e,(mem a).mpr U|(mem b).mpr Y]
  let an:r≠L:=λe=>by rw[e,G]at B;cases B
  let ab:∀n k,k∈((ts.take n)\2).map (jr g)->k∈c.map (jr g):=λn k j=>by
   let%[t,M|e]:=Xo j;show Xp %[t,(I t).mp ((Vz _ (Va n ts)) M)|e]
  let tm: ~~~(ts\0)= ~~~ts:=Z6 _;show bR (λi σ H'=>∃o4 o5 o6,σ=[!l,!m,!d,!L,o4,o5,o6]/\ah H H'/\(∀b o,b≠L->H1 b∣o->H' b∣o)/\∃u,H' L∣.dT u/\kA u λk=>k∈((ts.take i)\2).map (jr g))
   %[_,_,_,rfl,al,(λb o _ e=>e),[],G,[],rfl,X3|λk=>Od] (λi σ H' ⟨_,_,_,_,_,q,_⟩=>q _ _ an B) ?_ ?_
  .intro i t σ H2 M %[o4,o5,o6,rfl,s2,sx,u,J|v];let ac:=Z8 M;let%[a,b,z,et,U|Y]:=tok _ ((I t.2).mp (Xp %[t,ac|rfl]));let C:=(tt t ac).2;rw[et]at C;let st:=SqT.of (K:=K) (sx _ _ (λe=>by rw[e,G]at C;cases C) C);let ao:=s2 _ _ hd;let get:∀y∈ms,cg H2 d (.str y) (fx (.str (g y))):=λy hy=>by
    let:=cg.k (k:=hY y) ao;rw[gO hy]at this;show this
   show%[_,st,ρ,_,_,ρ,_,_,ρ,_,_,ρ,ρ|?_];change pH _ _ _ _ [!l,!m,!d,!L,-a,-b,-z] H2;show aE λD3 k3 _=>?_
   lk;show%[_,get a U,_,get b Y,#[3]|λp hp=>?_];let sp:=ah.Qa (o:= .tup [V.str (g a),V.str (g b),V.str z]) hp;let ap:=HG v (ab i);rw[Z6]at ap;show%[_,gX.t (k:=(jr g [a,b,z]).map hY) (sp _ _ J) (by rw[af];rfl) (by rw[PySem.sizeLine_eq];lia)|k3 _ _ %[_,_,_,ρ,λb o e=>by rw[av (aC e hL)];show sp _ _ (s2 _ _ e),(λb o n e=>by rw[av n];show sp _ _ (sx b o n e)),_,af|FL v _ _ λk=>?_]];rw[X9,M,Zd,Zd,Yt,<-et];show QB Od Yy
  .intro σ H2 %[o4,o5,o6,rfl,s2,sx,u,J|v];rw[Xc]at v;show k2 _ _ ?_;lk;let%[ks,q1,q2|q3]:=v;let q3:∀k,k∈ks↔k∈c.map (jr g):=λk=>by
    show(q3 k).trans ?_;dsimp only;rw[Pi,Pi];show UO λt=>TX λ_=>I t
   let lk:=qW tok (λz hz=>(lg z hz).2);let few: ~~~ks<=250:=by
    let:=_ST.nodup_sub q2 (m:=c.map (jr g)) λk j=>(q3 k).mp j
    rw[Z6]at this
    lia
   let ae:∀k∈ks,d9 ms k:=λk j=>by
    let%[t,M|rfl]:=Xo ((q3 k).mp j);let%[a,b,z,rfl,U|Y]:=tok t M;show%[_,_,_,ρ,(lg a U).1|(lg b Y).1]
   let h3:∀k∈ks,~~~k=3:=λk j=>by
    let%[a,b,z,rfl|_]:=ae k j;rfl
   show%[u,J,ks,q1,3,h3,!1,⋯|λr ss ag ta pm=>?_];let s3:=ah.Qa (o:= .lst (ss\0)) ag;show kk r _ ss (s2.trans s3) (s2.free ag) af (aG ta λb z e=>s3 _ _ e) %[pm.nodup_iff.mpr q2|λk=>by rw[pm.mem_iff,q3,lk]] (λk j=>ae k (pm.mem_iff.mp j)) (by let:=pm.length_eq;rw[Z6]at this;lia)
def HI{a:ZB}{g h:iv->V}{z:iv}(b:z∉a)(e:∀x∈a,h x=g x):dz (VD a g) (hY z) (h z)=VD (a++[z]) h:=by
 rw[ei _ (iy b)];unfold VD;rw[Zd];show vb (·++_) (Yp λx c=>by rw[e x c])
abbrev sc2(t:ij×ZB):iv:=t.2.getD 1 Me
abbrev StB(H:Hp)(d:ij)(ss:ZG):Prop:=∃a,H d∣.dK a/\∀n:iv,(∃l,cf a (hY n)∣.ref l/\H l∣.lst (((ss.filter λt=>decide (t.2[0]? =fx n)).map sc2)\3))\/(cf a (hY n)=eH/\∀t∈ss,t.2[0]? ≠fx n)
def StB.up{H H':Hp}{d:ij}{ss:dV _}(h:StB H d ss)(s:ah H H'):StB H' d ss:=by
 let%[c,e|f]:=h;show%[c,s _ _ e|λn=>(f n).imp_left λ⟨l,a,b⟩=>%[l,a|s _ _ b]]
def StB.at{H H':Hp}{e d q p:ij}{ss:dV _}(h:StB H e ss)(j:e≠d)(m:∃x,H d∣.dK x)(r:H q=eH)(f:∀b o,b≠d->b≠q->H b∣o->H' b∣o)(s:∃x,H' q<*x)(v:H' p=eH)(n:iv):
 ∃g a,Qa H' p (.lst []) e∣.dK g/\(cf g (hY n)).getD (.ref p)= .ref a/\Qa H' p (.lst []) a∣.lst (((ss.filter λt=>decide (t.2[0]? =fx n)).map sc2)\3)/\a≠q:=by
 let%[g,y|A]:=h;let sp:=ah.Qa (o:= .lst []) v;let z:=sp _ _ (f e _ j (aC y r) y);rcases A n with⟨l,u,i⟩|⟨u,B⟩
 .show⟨g,l,z,by rw[u];rfl,sp _ _ (f l _ (λc=>by let%[x|m]:=m;rw[c,m]at i;cases i) (aC i r) i),aC i r⟩
 .show%[g,p,z,by rw[u];rfl,?_|λc=>by let%[x|e]:=s;rw[<-c,v]at e;cases e];rw[O2.mpr λt C c=>B t C (Zo c)];show af
def StB.fr{H H':Hp}{e d q:ij}{ss:dV _}(h:StB H e ss)(a:e≠d)(s:∃x,H d∣.dK x)(i:H q=eH)(f:∀b o,b≠d->b≠q->H b∣o->H' b∣o):StB H' e ss:=by
 let%[g,j|p]:=h;show%[g,f e _ a (aC j i) j|λn=>(p n).imp_left λ⟨l,r,m⟩=>%[l,r|f l _ (λc=>!2) (aC m i) m]]
abbrev Fl(ks:dV ZB)(st:iv)(F R:ZB)(g:iv->nX)(a:nX):Prop:=∃rs b k,rs\1=F/\Lev ks st rs b k R/\a=((k:hH):nX)/\∀y∈F,g y=((b y:hH):nX)
def FM{ks:dV ZB}{R:ZB}:∀{A:ZB},(∀y∈A,∃p∈R,Ed ks p y)->∃new:dV (iv×ij×ZB),new\1=A/\∀r∈new,r.2.2∈ks/\∃p z,p∈R/\r.2.2=[p,r.1,z]
 |[],_=>%[[],rfl|λ_ h=>nomatch h]
 | a::A,h=>by
   let%[new,e|c]:=FM λy d=>h y (Zk _ d)
   let%[p,f,z|g]:=h a Zm;show%[(a,0,[p,a,z])::new,by rw[Yq,e]|λr b=>?_];rcases Yw.mp b with rfl|b
   .show%[g,p,z,f|ρ]
   .show c r b
def Fl.step{ks:dV _}{st:iv}{F R A:ZB}{g b:iv->nX}{a:nX}(h:Fl ks st F R g a)(nd:(F++A).Nodup)(e:∀y∈A,b y=a+1/\∃p∈R,Ed ks p y)(f:∀y∈F,b y=g y)(i:∀x∈R,∀y,Ed ks x y->y∈F++A):Fl ks st (F++A) A b (a+1):=by
 let%[rs,m,k,rfl,L,rfl|j]:=h;let%[new,rfl|l]:=FM λy d=>(e y d).2
 let L2:=L.step (by rw[Zd];show nd) l (by rw[Zd];show i);show%[rs++new,_,k+1,Zd,L2,ρ|λy d=>?_];by_cases c:y∈new\1
 .rw[jg c,(e y c).1];rfl
 .let:=(Xm d).resolve_right c;rw[hX c,f y this,j y this]
def Fl.end_{ks:dV _}{st:iv}{F:ZB}{g:iv->nX}{a:nX}(h:Fl ks st F [] g a){y:iv}(b:y∈F):∃n:hH,g y=((n+1:hH))/\Dst ks st (n+1) y/\∀m,Dst ks st (m+1) y->n<=m:=by
 let%[rs,c,k,rfl,L,rfl|e]:=h;let%[j|f]:=L.dst b;obtain⟨n,d⟩:∃n,c y=n+1:=%[c y-1|⋯]
 show%[n,by rw[e y b,d],d▸f|λm i=>?_];let:=L.min b i
 lia
abbrev Far(ks:dV ZB)(x:iv)(F:ZB)(g:iv->nX):Prop:=∀y∈F,∃n:hH,g y=((n+1:hH):nX)/\Dst ks x (n+1) y/\∀m,Dst ks x (m+1) y->n<=m
inductive FN
 | mk (l:ij) (st:iv) (ns:ZB) (ss:ZG):vs=[.ref l,.str st]->H l∣.lst (ss\0)->dY H ns ss-> ~~~ss<=250->(∀d H' (F:ZB) (g:iv->nX),ah H H'->H d=eH->H' d∣.dK (VD F λx=> .int (g x))->F.Nodup->(∀y,y∈F↔Rch (ss\2) st y)->Far (ss\2) st F g->Q (.ref d) H')->FN vs H Q E0
abbrev L8(H:Hp)(l e d:ij)(st:iv)(ss:ZG)(m:hH)(f:_LL.St)(H':Hp):Prop:=∃(r:ij) (a:nX) (h i j n b c:kf V) (R F:ZB) (g:iv->nX),f=[!l,-st,!e,h,i,j,!d,!r,fx (.int a),n,b,c]/\ah H H'/\StB H' e ss/\H' r<*R\3/\H' d∣.dK (VD F λx=> .int (g x))/\F.Nodup/\(∀y∈F,Rch (ss\2) st y)/\(∀x∈R,x=st\/x∈F)/\(∀x,(x=st\/x∈F)->x∈R\/∀y,Ed (ss\2) x y->y∈F)/\Fl (ss\2) st F R g a/\m=2*(250-F.length) +R.length.min 1
def CM(T:Txt K mg):↥1 "_law_far" ["_law_laid","_law_one"] FN:=by
 .exists T.bJ,bD,c0,hr,%[l,st,ns,ss,rfl,hl,a4,c1|kk];let c2: ~~~(ss\0)= ~~~ss:=Z6 _;show%[_,%["JCG2zCTW0nRK3RK4RK5kEZ~xl~y~z2A3ASBBA4BCG6zCG7SA1BCG8DC~TL~H7SBCG8Ie8DCG9SBCTW7K:ETW[~A2A,:ASBBK;EM~U,;6Cu86,;EZsl9A,;BNEG79EH6",bD.nd|hr]|?_]
  change aW _ _ _ [!l,-st,eH,eH,eH,eH,eH,eH,eH,eH,eH,eH] H;show aj λD1 k1 _=>?_
  lk;intro e fe;show k1 _ _ (aj λD2 k2 _=>aB λap hK=>?_);lk;let se:=ah.Qa (o:= .dK []) fe;show%[%[_|Qb.of (se _ _ hl)]|hK _ _ ?_];show bR (λj M H'=>A3 (E3 λo3 o4 o5=>M=[!l,-st,!e,o3,o4,o5,eH,eH,eH,eH,eH,eH]) (ah H H') (∃N:Gs iv,A4 (jA V.str H H' e N) ((N\1).Nodup) (∀g∈N,g.2.2=((ss.take j).filter λt=>decide (t.2[0]?∣g.1)).map sc2) (∀n,n∈N\1↔∃t∈ss.take j,t.2[0]?∣n)))
   %[%[_,_,_|rfl],se,[],%[af,λg hg=>(nomatch hg)|X3],X3,(λg hg=>nomatch hg)|by simp] (λj M H' h=>h.2 _ _ hl) ?_ ?_
  .intro j t M H' U %[%[o3,o4,o5|rfl],sm,N,C,gn,gf|gk];let tm:=Z8 U;let j1:j< ~~~ss:=(Xl U).1;let%[cm,n,y,z,et|_]:=a4 t tm;let hn:t.2[0]?∣n:=by rw[et];rfl
   let L:sc2 t=y:=by unfold sc2;rw[et];rfl
   let tk:ss.take (j+1)=ss.take j++[t]:=by rw[X9,U];rfl
   let a5:=sm _ _ cm;rw[et]at a5;show%[_,SqT.of a5,ρ,_,_,ρ,_,_,ρ,_,_,ρ,ρ|?_];change nN _ _ [!l,-st,!e,-n,-y,-z,eH,eH,eH,eH,eH,eH] H';show aE λD4 k4 _=>?_
   lk;let gl: ~~~N<= ~~~ss:=by
    let:N\1 ⊆ ss.filterMap λt=>t.2[0]? :=λy L=>by
     let%[t,U|e]:=(gk y).mp L;show MX.mpr %[t,Yx U|e]
    let:=_ST.nodup_sub gn λx O=>this O
    rw[Z6]at this;show md this (Of _ _)
   let keys:∀(aq:Gs iv),(∀y,y∈aq\1↔y∈N\1\/y=n)->∀y,y∈aq\1↔∃t∈ss.take (j+1),t.2[0]?∣y:=λaq h y=>by
    rw[h,gk,tk]
    constructor
    .rintro(⟨t',h1,h2⟩|rfl)
     .show%[t',Yu _ h1|h2]
     .show%[t,Yv _ Zm|hn]
    .rintro⟨t',h1,h2⟩;rcases Xm h1 with q|q
     .show .inl %[t',q|h2]
     .rw[Xn q,hn]at h2;show .inr (Za h2).symm
   show%[tyD (C.at_),#[0]|λp hp=>%[hY n,ρ,gD N,?_,?_,λv hv=>?_|λhv=>?_]]
   .rw[av (λc=>by rw[<-c,C.at_]at hp;cases hp)];show C.at_
   .unfold gD;rw[Z6];show aF ⋯
   .let%[q,hq,e1|rfl]:=fK hv;let sp:=ah.Qa (o:= .lst []) hp;let hl:=sp _ _ (C.la q hq).2;let G:=(C.up sp).add gn hq y;let ml: ~~~q.2.2<= ~~~ss:=by
     rw[gf q hq,Z6];show md (Yi _ _) (by rw[Yl];lia)
    let ka:(nH q.1 y N)\1=N\1:=by
     unfold nH;rw[Ys];show Yp λg _=>?_
     change(if g.1=q.1 then(g.1,g.2.1,g.2.2++[y])else g).1=_
     split<;> rfl
    show%[tyL (Qb.of hl),_,hl,by rw[Z6];show aF ⋯|k4 _ _ %[%[_,_,_|ρ],ah.set (sm.trans sp) (C.la q hq).1,_,G,by rw[ka];show gn,λg hg=>?_|keys _ λy=>?_]]
    .unfold nH at hg;let%[g0,h0|rfl]:=Xo hg;rw[tk,Y2,Zd];by_cases c:g0.1=q.1
     .rw[jg c];change g0.2.2++[y]=_++(N1 (λt=>decide (t.2[0]?∣g0.1)) [t]).map sc2;rw[gf g0 h0,Y6 (by rw[hn,c,e1];simp),Y7,Yq,Sj,L]
     .rw[hX c,gf g0 h0,Y4 (by rw[hn,<-e1];simpa using λz=>c z.symm),Y7,Sj,Zx]
    .rw[ka];show%[.inl|λh=>h.elim id λh=>by rw[h,<-e1];show Xp %[q,hq|ρ]]
   .let nk:n∉N\1:=λh=>by
     let%[q,hq|c]:=Xo h;let:=jq hq;rw[c,hv]at this;show this rfl
    let de:e≠p:=λq=>by rw[<-q,C.at_]at hp;cases hp
    let gp:Qa (Qa H' p (.lst [])) e (.dK (dz (gD N) (hY n) (.ref p))) p<*[]:=by rw[av de.symm,af]
    show%[tyL (Qb.of gp),[],gp,(show 0<ku by decide)|k4 _ _ %[%[_,_,_|ρ],ah.set (ah.set (sm.trans (ah.Qa hp)) fe) (sm.free hp),_,C.new sm hp n y nk,?_,λg hg=>?_|keys _ λy=>?_]]
    .rw[Zd,X1];show%[gn,by simp|λa ha b hb c=>nk (by rw[<-show b=n from Xn hb,<-c];show ha)]
    .rw[tk,Y2,Zd];rcases Xm hg with q|q
     .let c:g.1≠n:=λc=>nk (by rw[<-c];show Xp %[g,q|rfl])
      rw[gf g q,Y4 (by rw[hn];simpa using λz=>c z.symm),Y7,Sj,Zx]
     .rw[Xn q];change [y]=_++(N1 (λt=>decide (t.2[0]?∣n)) [t]).map sc2;rw[Y6 (by rw[hn];simp),Y7,O2.mpr λt' co c=>nk ((gk n).mpr %[t',co|Zo c]),Yq,L];rfl
    .rw[Zd,Yt,Yq,Sj,Yy]
  .intro M H' %[%[o3,o4,o5|rfl],sm,N,C,gn,gf|gk];rw[Zn (Zi _)]at gf gk;let hb:StB H' e ss:=⟨_,C.at_,λn=>by
    cases hv:cf (gD N) (hY n)with
    | none=>
      show .inr %[rfl|λt U c=>?_];let%[q,hq|c]:=Xo ((gk n).mpr %[t,U|c]);let:=jq hq;rw[c,hv]at this;show this rfl
    | some v=>
      let%[q,hq,e1|rfl]:=fK hv;show .inl %[_,rfl|?_];rw[(C.la q hq).2,gf q hq,e1]⟩
   show k2 _ _ (aj λD3 k3 _=>?_);lk;intro d fd;let s1:=ah.Qa (o:= .dK []) fd;show k3 _ _ (aj λD4 k4 _=>?_);let a6:=hb.up s1;let bb:Qa H' d (.dK []) d∣.dK (VD [] λx=> .int ((λ_=>0:iv->nX) x)):=af;let bc:=sm.trans s1;let be:=sm.free fd;let as:e≠d:=λc=>by
    let%[bf,h1|_]:=hb;rw[c,fd]at h1;cases h1
   generalize Qa H' d _=H1 at a6 bb bc
   lk;show%[#[1]|λr0 cp=>k4 _ _ (aj λD5 k5 _=>?_)];let s2:=ah.Qa (o:= .lst [V.str st]) cp;let bl:Qa H1 r0 (.lst [V.str st]) r0<*[st]\3:=af;let bm:=s2 _ _ bb;let bt:=a6.up s2;let bx:=bc.trans s2
   generalize Qa H1 r0 _=H2 at bx bl bm bt
   lk;show k5 _ _ (aj λD6 k6 _=>?_);show%[L8 H l e d st ss,%[_,r0,0,o3,o4,o5,eH,eH,eH,[st],[],_,ρ,bx,bt,bl,bm,X3,(λ_ h=>nomatch h),(λx h=>Xn h▸ .inl rfl),(λx h=> .inl (h.elim (λh=>h▸Zm) λh=>nomatch h)),%[[],_,0,ρ,.nil,ρ|λ_ h=>nomatch h]|ρ]|?_];intro m M H3 %[r,B,o3,o4,o5,o9,ae,I,R,F,g0,rfl,s3,cs,b0,b1,Fn,Fr,ct,cl,fl|rfl];lk;let few:∀{X:ZB},X.Nodup->(∀y∈X,Rch (ss\2) st y)-> ~~~X<=250:=λ{X} xn xr=>by
    let:=_ST.nodup_sub xn (m:=ss.map sc2) λy L=>by
     let:∃a,Ed (ss\2) a y:=by
      cases xr y L with
      | one e=>show%[_|e]
      | more _ e=>show%[_|e]
     let%[a,z|J]:=this;let%[t,U|et]:=Xo J;show Xp %[t,U|by unfold sc2;rw[et];rfl]
    rw[Z6]at this
    lia
   show%[Xe _|λp fp=>%[R\3,ah.Qa fp _ _ b0,af|bz (λh=>?_) λh=>?_]]
   .let R0:R≠[]:=λc=>by rw[c]at h;show m4 rfl (Zo h)
    let s4:=ah.Qa (o:= .lst []) fp;let Y:=s4 _ _ b0;let ab:=s4 _ _ b1;let ak:=cs.up s4;let ax:=s3.trans s4
    generalize Qa H3 p _=H4 at Y ab ak ax
    show⟨λcv H'=>∃m',m'<2*(250-F.length) +R.length.min 1/\L8 H l e d st ss m' cv H',λ_ _ h=>h,Xe _,λq fq=>aB λap hK=>?_⟩;let a0:d≠q:=aC ab fq;let cw:=ax.free fq;let f0:∀b o,b≠d->b≠q->H4 b∣o->Qa H4 q (.lst []) b∣o:=λb o _ n e=>by rw[av n];show e
    let b2:Qa H4 q (.lst []) q<*([]:ZB)\3:=af;let b3:Qa H4 q (.lst []) d∣.dK (VD (F++[]) λx=> .int (g0 x)):=by rw[av a0,Zx];show ab
    let b4:=ax.trans (ah.Qa (o:= .lst []) fq);let b5:r≠d:=λc=>by rw[c,ab]at Y;cases Y
    let b6:r≠q:=aC Y fq
    generalize Qa H4 q _=H5 at f0 b2 b3 b4
    lk;show%[%[_|Qb.of (f0 _ _ b5 b6 Y)]|hK _ _ ?_];let Rm: ~~~(R\3)= ~~~R:=Z6 _;show bR (λi M H'=>E4 λ(ae I:kf V) (A:ZB) (g:iv->nX)=>A9 (M=[!l,-st,!e,o3,o4,o5,!d,!r,fx (.int (B+1)),!q,ae,I]) (ah H H') (∀b o,b≠d->b≠q->H4 b∣o->H' b∣o) (H' q<*A\3) (H' d∣.dK (VD (F++A) λx=> .int (g x))) ((F++A).Nodup) (∀y∈A,Rch (ss\2) st y/\g y=B+1/\∃p∈R,Ed (ss\2) p y) (∀y∈F,g y=g0 y) (∀x∈R.take i,∀y,Ed (ss\2) x y->y∈F++A))
     %[_,_,[],g0,rfl,b4,f0,b2,b3,by rw[Zx];show Fn,(λ_ h=>nomatch h),(λ_ _=>rfl)|λ_ h=>nomatch h] (λi M H' ⟨_,_,_,_,_,_,f,_,_,_,_,_,_⟩=>f _ _ b5 b6 Y) ?_ ?_
    .intro i n M H6 hn %[ae,I,A,g,rfl,s6,f6,an,a1,An,Ar,Ao|Ad];let tk:R.take (i+1)=R.take i++[n]:=by rw[X9,hn];rfl
     let nR:n=st\/Rch (ss\2) st n:=(ct n (Z8 hn)).imp id (Fr n);change wC _ _ _ _ [!l,-st,!e,o3,o4,o5,!d,!r,fx (.int (B+1)),!q,-n,I] H6;show aE λD7 k7 _=>aB λap hK=>?_
     lk;let%[c3,b9|_]:=id ak;show%[tyD (f6 e _ as (aC b9 fq) b9),#[0]|λp2 ca=>?_];let%[bf,a,cd,cx,ac|cy]:=ak.at as %[_|ab] fq f6 %[_|an] ca n;let sp:=ah.Qa (o:= .lst []) ca;let ce:=sp _ _ an;let a2:=sp _ _ a1;let s7:=s6.trans sp;let f7:∀b o,b≠d->b≠q->H4 b∣o->Qa H6 p2 (.lst []) b∣o:=λb o n1 n2 e=>sp _ _ (f6 b o n1 n2 e)
     let cI:a≠d:=λc=>by rw[c,a2]at ac;cases ac
     generalize Qa H6 p2 _=H7 at cd ac ce a2 s7 f7
     show%[hY n,ρ,bf,cd|vV cx %[%[_|Qb.of ac]|hK _ _ ?_]];let yI:∀y,y∈(ss.filter λt=>decide (t.2[0]?∣n)).map sc2↔Ed (ss\2) n y:=λy=>by
      rw[Pi]
      constructor
      .rintro⟨t,U,rfl⟩;let%[h1|h2]:=n7.mp U;let%[_,x,y,z,et|_]:=a4 t h1;let h2:=Zo h2;rw[et]at h2;obtain rfl:x=n:=Za h2;show%[z|Xp %[t,h1|by unfold sc2;rw[et];rfl]]
      .rintro⟨z,J⟩;let%[t,U|et]:=Xo J;show%[t,n7.mpr %[U|Zf (by rw[et];rfl)]|by unfold sc2;rw[et];rfl]
     generalize (ss.filter λt=>decide (t.2[0]?∣n)).map sc2=ys at ac yI
     let ym: ~~~(ys\3)= ~~~ys:=Z6 _;show bR (λj M H'=>E3 λ(I:kf V) (A:ZB) (g:iv->nX)=>A11 (M=[!l,-st,!e,o3,o4,o5,!d,!r,fx (.int (B+1)),!q,-n,I]) (ah H H') (∀b o,b≠d->b≠q->H4 b∣o->H' b∣o) (H' a<*ys\3) (H' q<*A\3) (H' d∣.dK (VD (F++A) λx=> .int (g x))) ((F++A).Nodup) (∀y∈A,Rch (ss\2) st y/\g y=B+1/\∃p∈R,Ed (ss\2) p y) (∀y∈F,g y=g0 y) (∀x∈R.take i,∀y,Ed (ss\2) x y->y∈F++A) (∀y∈ys.take j,y∈F++A))
      %[_,A,g,rfl,s7,f7,ac,ce,a2,An,Ar,Ao,Ad|λ_ h=>nomatch h] (λj M H' ⟨_,_,_,_,_,_,h,_,_,_,_,_,_,_⟩=>h) ?_ ?_
     .intro j y M H8 L %[I,A,g,rfl,s8,f8,a3,ao,ag,An,Ar,Ao,Ad|Aj];let tj:ys.take (j+1)=ys.take j++[y]:=by rw[X9,L];rfl
      let yR:Rch (ss\2) st y:=by
       let e:=(yI y).mp (Z8 L);rcases nR with rfl|h
       .show .one e
       .show .more h e
      let al:=few An λz J=>(Xm J).elim (Fr z) λh=>(Ar z h).1
      let vl: ~~~(VD (F++A) λx=>V.int (g x))<ku:=by unfold VD;rw[Z6];show aF ⋯
      change kY _ _ _ _ [!l,-st,!e,o3,o4,o5,!d,!r,fx (.int (B+1)),!q,-n,-y] H8;show aE λD8 k8 _=>?_
      lk;show%[_,cg.k (k:=hY y) ag|bz (λc=>?_) λc=>?_]
      .let yn:y∉F++A:=λh=>by rw[iG h]at c;cases c
       let P:=gX.k (k:=hY y) (v:= .int (B+1)) ag vl;let cM:q≠d:=zr a0;let ch:=(av (o:= .dK (dz (VD (F++A) λx=>V.int (g x)) (hY y) (V.int (B+1)))) cM).trans ao;let vd:=HI (g:=λx=>V.int (g x)) (h:=λx=>V.int (if x=y then B+1 else g x)) yn λx O=>by
        change V.int (if x=y then B+1 else g x)=V.int (g x);rw[hX (λc:x=y=>yn (c▸O))]
       rw[jg rfl]at vd;show%[_,P,tyL (Qb.of ch),_,ch,by rw[Z6];rw[Z9]at al;show aF ⋯|k8 _ _ %[_,A++[y],λx=>if x=y then B+1 else g x,ρ,ah.set (ah.set s8 be) cw,(λb o n1 n2 e=>by rw[av n2,av n1];show f8 b o n1 n2 e),by rw[av cy,av cI];show a3,by rw[af,Zd];rfl,by rw[av a0,af,vd,Ze],?_,(λz J=>?_),(λz J=>?_),(λx O z e=>?_)|λz J=>?_]]
       .rw[<-Ze,X1];show%[An,by simp|λa ha b hb e=>yn (by rw[<-Xn hb,<-e];show ha)]
       .rcases Xm J with u|u
        .show%[(Ar z u).1,(hX λc:z=y=>yn (c▸Yv _ u)).trans (Ar z u).2.1|(Ar z u).2.2]
        .rw[Xn u];show%[yR,jg rfl,n,Z8 hn|(yI y).mp (Z8 L)]
       .show(hX λc:z=y=>yn (c▸Yu _ J)).trans (Ao z J)
       .rw[<-Ze];show Yu _ (Ad x O z e)
       .rw[<-Ze];rw[tj]at J;rcases Xm J with u|u
        .show Yu _ (Aj z u)
        .show Yv _ u
      .let yn:y∈F++A:=MW λh=>by rw[iy h]at c;show c rfl
       show k8 _ _ %[_,A,g,rfl,s8,f8,a3,ao,ag,An,Ar,Ao,Ad|λz J=>?_];rw[tj]at J;rcases Xm J with u|u
       .show Aj z u
       .rw[Xn u];show yn
     .intro M H8 %[I,A,g,rfl,s8,f8,a3,ao,ag,An,Ar,Ao,Ad|Aj];rw[Xc]at Aj;show k7 _ _ %[_,_,A,g,rfl,s8,f8,ao,ag,An,Ar,Ao|λx O y e=>?_];rw[tk]at O;rcases Xm O with z|z
      .show Ad x z y e
      .rw[Xn z]at e;show Aj y ((yI y).mpr e)
    .intro M H6 %[ae,I,A,g,rfl,s6,f6,an,a1,An,Ar,Ao|Ad];rw[Xc]at Ad;let al:=few An λz J=>(Xm J).elim (Fr z) λh=>(Ar z h).1
     rw[Z9]at al;let rp:R.length.min 1=1:=R6 (Nc.mpr R0);dsimp only;lk;show%[_,?_,q,B+1,o3,o4,o5,_,ae,I,A,F++A,g,ρ,s6,ak.fr as %[_|ab] fq f6,an,a1,An,(λy L=>(Xm L).elim (Fr y) λh=>(Ar y h).1),(λx O=> .inr (Yv _ O)),(λx O=>?_),fl.step An (λy L=>(Ar y L).2) Ao Ad|ρ]
     .rw[Z9,rp];cases A with
      | nil=>simp
      | cons a A=>
        rw[Zr]at al ⊢;let:(~~~A+1).min 1=1:=R6 ⋯
        lia
     .by_cases hA:x∈A
      .show .inl hA
      .show .inr λy e=>?_
       rcases cl x (O.imp id λh=>(Xm h).resolve_right hA)with h|h
       .show Ad x h y e
       .show Yu _ (h y e)
   .let R0:R=[]:=by
     let:=h;cases R with
     | nil=>rfl
     | cons a R=>show m4 (Zf ∅) h
    subst R0;let s4:=ah.Qa (o:= .lst []) fp;show k6 _ _ ?_;lk;show kk d _ F g0 (s3.trans s4) be (s4 _ _ b1) Fn (λy=>%[Fr y|λr=>?_]) λy L=>fl.end_ L
    show r.closed (R:=(·∈F)) ((cl st (.inl rfl)).resolve_left λh=>nomatch h) λx y O e=>((cl x (.inr O)).resolve_left λh=>nomatch h) y e
structure Ben (H:Hp) (ks:dV ZB) (rs:Gs iv):Prop where
 nd:(rs\1).Nodup
 at_:∀r∈rs,(∃g:iv->nX,H r.2.1∣.dK (VD r.2.2 λx=> .int (g x))/\Far ks r.1 r.2.2 g)/\r.2.2.Nodup/\∀y,y∈r.2.2↔Rch ks r.1 y
structure BeF (H:Hp) (ks:dV ZB) (d:ij) (rs:Gs iv):Prop where
 at_:∃o,H d∣.frz o (.dK (gD rs))
 nd:(rs\1).Nodup
 in_:∀r∈rs,(∃g:iv->nX,H r.2.1∣.dK (VD r.2.2 λx=> .int (g x))/\Far ks r.1 r.2.2 g)/\r.2.2.Nodup/\∀y,y∈r.2.2↔Rch ks r.1 y
def BeF.up{H H':Hp}{ks:dV ZB}{d:ij}{rs:Gs iv}(h:BeF H ks d rs)(s:ah H H'):BeF H' ks d rs:=
 %[h.at_.imp λo e=>s _ _ e,h.nd|λr a=>%[(h.in_ r a).1.imp λg ⟨e,q⟩=>%[s _ _ e|q]|(h.in_ r a).2]]
inductive Bp
 | mk (l d:ij) (ns ms:ZB) (ss:ZG) (f:iv->iv):vs=[.ref l,.ref d]->H l∣.lst (ss\0)->dY H ns ss-> ~~~ss<=250->H d∣.dK (NmD ms f)-> ~~~ms<=63->(∀b H' (rs:Gs iv),ah H H'->H b=eH->H' b∣.dK (gD rs)->Ben H' (ss\2) rs->(∀r∈rs,r.2.1≠b/\H r.2.1=eH)->(∀x,x∈rs\1↔∃z∈ms,f z=x)->Q (.ref b) H')->Bp vs H Q E0
inductive FO
 | mk (l d:ij) (ns ms:ZB) (ss:ZG) (f:iv->iv):vs=[.ref l,.ref d]->H l∣.lst (ss\0)->dY H ns ss-> ~~~ss<=250->H d∣.dK (NmD ms f)-> ~~~ms<=63->(∀b H' (rs:Gs iv),ah H H'->BeF H' (ss\2) b rs->(∀x,x∈rs\1↔∃z∈ms,f z=x)->Q (.ref b) H')->FO vs H Q E0
def rh(T:Txt K mg):↥2 "_law_beneath" ["_law_laid","_law_homes_here"] Bp:=by
 show T.bK.cal gJ (λH vs Q E h=>?_)
 .let%[l,d,ns,ms,ss,f,rfl,hl,ab,ac,hd,ak|kk]:=h;show%[ρ|λ_ an A outer s q=>?_];show%[_,%["JCG2zCTW(]6A~5~61BK3EM~U32EuF]7A0A3B23NEH2",gJ.nd|q]|?_]
  change aW _ _ _ [!l,!d,eH,eH] H;show aj λD1 k1 _=>?_
  lk;intro b fb;let s1:=ah.Qa (o:= .dK []) fb;let J:Qa H b (.dK []) b∣.dK (gD ([]:Gs iv)):=af;show k1 _ _ (aj λD2 k2 _=>aB λal hK=>?_)
  generalize Qa H b _=H1 at s1 J
  lk;let y:=s1 _ _ hd;show%[tyD y,%[_|y]|λv fv=>%[d,?_,_,ah.Qa fv _ _ y,ms.map f,by unfold NmD;rw[Ys,Ys];rfl,by rw[Z6];lia|λz zs fz pz _=>?_]]
  .show af
  let s2:=(ah.Qa (o:=lV v d) fv).trans (ah.Qa (o:= .lst (zs\3)) fz);let m:Qa (Qa H1 v (lV v d)) z (.lst (zs\3)) z<*zs\3:=af;let L:=s1.trans s2;let B:=s2 _ _ J
  generalize Qa (Qa H1 v (lV v d)) z _=H2 at s2 m L B
  let zl: ~~~zs<=100:=by rw[pz.length_eq,Z6];lia
  let ae:z≠b:=λc=>by rw[c,B]at m;cases m
  let zm: ~~~(zs\3)= ~~~zs:=Z6 _;show%[%[_|Qb.of m]|hK _ _ (bR (λi O H'=>E2 λ(o3:kf V) (rs:Gs iv)=>A8 (O=[!l,!d,!b,o3]) (ah H H') (H' z<*zs\3) (H' b∣.dK (gD rs)) (Ben H' (ss\2) rs) (∀r∈rs,r.2.1≠b/\H r.2.1=eH) (∀x,x∈rs\1↔x∈zs.take i) (~~~rs<=i))
   %[_,[],ρ,L,m,B,%[X3|λ_ h=>(nomatch h)],(λ_ h=>nomatch h),(λx=>Od)|Zi _] (λi O H' ⟨_,_,_,_,h,_,_,_,_,_⟩=>h) ?_ ?_)]
  .intro i n O H3 hn %[o3,rs,rfl,C,G,j,p,M,I|rl];let il:=(Xl hn).1;let tk:zs.take (i+1)=zs.take i++[n]:=by rw[X9,hn];rfl
   change kY _ _ _ _ [!l,!d,!b,-n] H3;show aE λD3 k3 _=>?_
   lk;show%[_,cg.k (k:=hY n) j|bz (λc=>?_) λc=>?_]
   .let U:n∉rs\1:=λh=>by
     let%[r,q|e]:=Xo h;let:=jq q;rw[e]at this;cases hv:cf (gD rs) (hY n)with
     | none=>show this hv
     | some v=>rw[hv]at c;cases c
    show%[l,n,ns,ss,ρ,C _ _ hl,ab.up C,ac|λe H4 F g Y fe he Fn Fr Ff=>?_];let ag:=Y _ _ j;let N:e≠b:=λc=>by rw[c,j]at fe;cases fe
    let nv:cf (gD rs) (hY n)=eH:=mS U;let pk:dz (gD rs) (hY n) (.ref e)=gD (rs++[(n,e,F)]):=by
     rw[ei _ nv];unfold gD;rw[Zd];rfl
    show%[_,gX.k (k:=hY n) (v:= .ref e) ag (by unfold gD;rw[Z6];show aF ⋯)|k3 _ _ %[_,rs++[(n,e,F)],ρ,ah.set (C.trans Y) fb,(av ae).trans (Y _ _ G),by rw[af,pk],%[?_|λr q=>?_],λr q=>?_,λx=>?_|by rw[Z9];show X8 rl]]
    .rw[Zd,X1];show%[p.nd,by simp|λa ha b hb e=>U (by rw[<-show b=n by simpa using hb,<-e];show ha)]
    .rcases Xm q with u|u
     .let%[%[g,e1|ef]|r2]:=p.at_ r u;show%[%[g,by rw[av (M r u).1];show Y _ _ e1|ef]|r2]
     .rw[Xn u];show%[%[g,by rw[av N];show he|Ff],Fn|Fr]
    .rcases Xm q with u|u
     .show M r u
     .rw[Xn u];show%[N|C.free fe]
    .rw[Zd,Yt,I,tk,Yt];show QB Od ∅
   .show k3 _ _ %[_,rs,rfl,C,G,j,p,M,λx=>?_|⋯];let U:n∈rs\1:=MW λh=>by rw[mS h]at c;show c rfl
    rw[I,tk,Yt];show%[.inl|λh=>h.elim id λh=>by rw[Xn h];show(I n).mp U]
  .intro O H3 %[o3,rs,rfl,C,G,j,p,M,I|rl];rw[Xc]at I;show k2 _ _ ?_;lk;show kk b H3 rs C fb j p M λx=>by rw[I,pz.mem_iff,Pi]
def sA(T:Txt K mg):↥2 "_law_beneath" ["_law_laid","_law_homes_here"] FO:=by
 show(rh T).freeze.imp λvs H Q E zqw=>?_;let%[l,d,j,m,ss,f,p,s,u,v,y,z|A]:=zqw;show %[l,d,j,m,ss,f,p,s,u,v,y,z|λb H' rs B C G a I J=>%[[b]|λL=>?_]]
 let out:∀c,c≠b->qq [b] L H' c=H' c:=λc n=>qr λh=>n (Xn h)
 show A b _ rs (λc o e=>(out c (aC e C)).trans (B _ _ e)) %[%[_|ph Zm G],a.nd|λr i=>%[(a.at_ r i).1.imp λg ⟨e,q⟩=>%[(out _ (I r i).1).trans e|q]|(a.at_ r i).2]] J
def nJ{M:ZB}{g:iv->V}{y:iv}:(cf (VD M g) (hY y)).isSome=fI↔y∈M:=by
 by_cases c:y∈M
 .rw[iG c];simp[c]
 .rw[iy c];simp[c]
def BeF.get{H:Hp}{ks:dV ZB}{d:ij}{rs:Gs iv}(h:BeF H ks d rs){x:iv}(b:x∈rs\1):∃a M,cg H d (.str x) (fx (.ref a))/\(∃g:iv->nX,H a∣.dK (VD M λx=> .int (g x))/\Far ks x M g)/\M.Nodup/\∀y,y∈M↔Rch ks x y:=by
 let%[o|c]:=h.at_;let%[r,e,rfl|f]:=j3 b;show%[r.2.1,r.2.2,.inl %[_,hY r.1,.inr %[o|c],ρ|f.symm]|h.in_ r e]
inductive yB
 | mk (b:ij) (ks:dV ZB) (rs:Gs iv):vs=[.ref b]->BeF H ks b rs-> ~~~rs<=1000->(∀H' v,ah H H'->(v=fI↔∃x∈rs\1,Rch ks x x)->Q (.bl v) H')->yB vs H Q E0
def rj(T:Txt K mg):↥1 "_law_has_ring" ["_law_beneath_here"] yB:=by
 .exists T.bL,oR,ab,j,%[b,ks,rs,rfl,I,rl|kk];let%[o|y]:=I.at_;show%[_,%["JEHm~Hog?1~%Q0d0?2w~Z0VQ100SB",0,↑(["_law_deposit","_law_beneath_here"],[(1,0)]),↑["_law_deposit","_law_beneath_here"]|j]|?_];change iI _ _ [!b] H;lk;show aN λL hK=>?_
  unfold xH;lk;show%[_,_,y|hK _ _ λF N=>?_];let gl: ~~~(gD rs)= ~~~rs:=Z6 _;show dM (J:=Itk b o (gD rs)) (n:= ~~~(gD rs)) (D:=F) (λi ts z H'=>A5 (∃O,z=[O,!b]) (ah H H') (H' F<*ts) (~~~ts<=i) (ts≠[]↔∃r∈rs.take i,Rch ks r.1 r.1))
   %[%[eH|rfl],ah.Qa N,af,Zi _|by simp] (λi _ _ H' hi ⟨_,d,_,_,_⟩=>%[d _ _ y|hi]) (λ_ _ H' ⟨_,d,_,_,_⟩=>%[d _ _ y|Zi _]) ?_ ?_
  .intro i ts z H' hi %[%[O|rfl],d,e,U|m] x H2 %[e2,k,v,Y|B];subst e2;let il:i< ~~~rs:=by lia
   obtain⟨r,l⟩:∃r,rs[i]?∣r:=%[_|Z4 il]
   let C:(gD rs)[i]?∣(hY r.1,V.ref r.2.1):=by unfold gD;rw[Zl,l];rfl
   rw[C]at Y;cases Y;obtain rfl:x=V.str r.1:=B;let%[a,M,ga,%[g,ha|_],_|hM]:=(I.up d).get (Xp %[r,Z8 l|rfl]);let tk:rs.take (i+1)=rs.take i++[r]:=by rw[X9,l];rfl
   lk;show%[_,ga,_,.inl %[_,hY r.1,.inl ha,ρ|ρ]|bz (λc=>CK.mk hi e (aF ⋯) %[%[_|ρ],ah.set d N,af,by rw[Z9];show X8 U|?_]) λc=>CN.mk hi %[%[_|ρ],d,e,⋯|?_]]
   .rw[tk];show%[λ_=>%[r,Yv _ Zm|(hM _).mp (nJ.mp c)]|λ_=>by simp]
   .rw[m,tk];show%[λ⟨q,G,h⟩=>%[q,Yu _ G|h]|λ⟨q,G,h⟩=>?_];rcases Xm G with u|u
    .show%[q,u|h]
    .rw[Xn u]at h;show(c (nJ.mpr ((hM _).mpr h))).elim
  .intro ts z H' %[_,d,e,U|m];rw[gl,Xc]at m;show%[Xe _|λp hp=>%[ts,ah.Qa hp _ _ e,af|kk _ _ (d.trans (ah.Qa hp)) ?_]];rw[Nx,m];show%[λ⟨r,j,h⟩=>%[r.1,Xp %[r,j|ρ]|h]|λ⟨x,B,h⟩=>by let%[r,j|rfl]:=Xo B;show%[r,j|h]]
inductive ro
 | mk (l m:ij) (a b:iv) (ws ss:ZG):vs=[.ref l,.ref m,.str a,.str b]->H l∣.lst (ws\0)->aI H ws->H m∣.lst (ss\0)->aI H ss->(∀t∈ws,t.2∈ss\2)->Wal (ws\2) a b-> ~~~ws<=300->(∀H',ah H H'->Q (.bl fI) H')->ro vs H Q E0
def FP{b:iv}{us:dV ZB}{i:hH}{k:ZB}{x:iv}(a:us[i]?∣k)(h:Wal (us.drop i) x b):∃y z,k=[x,y,z]/\Wal (us.drop (i+1)) y b:=by
 rw[Zy (Xl a).1]at h;let%[c,z,e|h]:=h;rw[(Xl a).2]at e;show%[c,z,e|h]
def j8(T:Txt K mg):↥1 "_law_is_chain" ["_law_found","_law_laid","_law_one","_law_other"] ro:=by
 .exists T.bM,cF,ap,U,%[l,m,a,b,ws,ss,rfl,q,hw,hm,hs,sub,Y,wl|kk];show%[_,%["JCMfpiYxyA0A?1BvL~Hog?2W0d0?3wL]80Q10SBEHhNCML~Hog?4W0d0?5wiYxyA0A?6B0SBEHhNCG42CTW0nRK5RK6RK7kCML$54EHhNEG46EHma43",cF.nd,(blE (v:= .ty "list") rfl T.a5 QD rfl rfl rfl),↑(["_law_link","_law_laid"],[(1,1)]),↑["_law_link","_law_laid"],↑(["_law_link"],[]),↑["_law_link"],(blE (v:= .ty "tuple") rfl T.ag TV rfl rfl rfl)|U]|?_]
  change aW _ _ _ [!l,!m,-a,-b,eH,eH,eH,eH] H;show aj λD1 k1 r1=>?_
  lk;show%[_,.lst q,fI,ρ|?_];show rL ?_;show aN λao hK=>?_
  lk;show%[%[_|Qb.of q]|hK _ _ λE2 ab=>?_];show di (λj vs c H'=>A4 (∃r,c=[r,!m]) (ah H H') (H' E2<*vs) (vs=[]))
   %[%[eH|rfl],ah.Qa ab,af|rfl] (λ_ _ _ H' ⟨_,d,_,_⟩=>d _ _ q) ?_ ?_
  .intro j vs c H2 u %[%[r|rfl],d,g|rfl];lk;let B:=Yd u;show%[ws[j].2,d _ _ (hw _ B).2,ss,d _ _ hm,(λt L=>d _ _ (hs t L).2),sub _ B|CN.mk u %[%[_|ρ],d,g|ρ]]
  intro vs c H1 %[_,s1,ac|rfl];show%[Xe _|λp C=>%[[],ah.Qa C _ _ ac,af|?_]];rw[hX ∅];let M:=s1.trans (ah.Qa (o:= .lst []) C)
  generalize Qa H1 p _=H2 at M
  show k1 _ _ (aj λD2 k2 r2=>?_);lk;show aN λae ag=>?_
  lk;let G:=M _ _ q;show%[%[_|Qb.of G]|ag _ _ λE3 n=>?_];show di (λj vs c H'=>A4 (∃r,c=[r]) (ah H2 H') (H' E3<*vs) (vs=[]))
   %[%[eH|rfl],ah.Qa n,af|rfl] (λ_ _ _ H' ⟨_,d,_,_⟩=>d _ _ G) ?_ ?_
  .intro j vs c H3 u %[%[r|rfl],d,g|rfl];lk;show%[_,.tup ((M.trans d) _ _ (hw _ (Yd u)).2),fI,ρ|rL (CN.mk u %[%[_|ρ],d,g|ρ])]
  intro vs c H3 %[_,s3,n|rfl];show%[Xe _|λp C=>%[[],ah.Qa C _ _ n,af|?_]];rw[hX ∅];let N:=(M.trans s3).trans (ah.Qa (o:= .lst []) C)
  generalize Qa H3 p _=H4 at N
  show k2 _ _ (aj λD3 k3 r3=>?_);lk;show k3 _ _ (aj λD4 k4 r4=>aB λak al=>?_);lk;let I:=N _ _ q;show%[%[_|Qb.of I]|al _ _ ?_];show bR (us:=ws) (f:=λt=>V.ref t.1) (λi c H'=>H'=H4/\∃(x:iv) (o5 o6 o7:kf V),c=[!l,!m,-a,-b,-x,o5,o6,o7]/\Wal ((ws.map λt:ij×ZB=>t.2).drop i) x b) %[rfl,a,_,_,_,rfl|Y] (λi c H' h=>h.1▸I) ?_ ?_
  .intro i t c H' L %[e,x,o5,o6,o7,rfl|O];subst e;let%[y,z,et|an]:=FP (k:=t.2) (by rw[Zl,L];rfl) O;let J:=N _ _ (hw t (Z8 L)).2;rw[et]at J;show%[_,SqT.of J,ρ,_,_,ρ,_,_,ρ,_,_,ρ,ρ|?_];change aW _ _ _ [!l,!m,-a,-b,-x,-x,-y,-z] H';show aj λD5 k5 r5=>?_
   lk;rw[hX ∅];show k5 _ _ ?_;lk;show an
  .intro c H' %[e,x,o5,o6,o7,rfl|O];subst e;rw[Ow (by rw[Z6];show Zi _)]at O;obtain rfl:x=b:=O;show k4 _ _ ?_;lk;rw[Zf trivial];show kk _ N
def yC{h:Type}{f:h->ZB}{nm:h->iv}:∀{xs:dV h},(xs.map nm).Nodup->(∀p∈xs,(f p).Nodup)->(∀p∈xs,∀x∈f p,∃c,x=lnS (nm p) (sgn c))->(xs.flatMap f).Nodup
 |[],_,_,_=>X3
 | p::xs,i,m,j=>by
   rw[Yq,Nw]at i;rw[PB,X1];show%[m p Zm,yC i.2 (λq g=>m q (Zk _ g)) (λq g=>j q (Zk _ g))|λa n b o e=>?_];let%[q,g|l]:=Mi.mp o;let%[c|r]:=j p Zm a n;let%[d|s]:=j q (Zk _ g) b l;show i.1 (Xp %[q,g|(qR (r.symm.trans (e.trans s))).symm])
def CO(p:ij×iv×ZB):(lyr p).Nodup:=by
 unfold lyr;rw[X2,OV];show Xg (λ{x y} b e a f=>?_) (X2.mp (dD ((c7 p.2.2).map sgn)));let%[c,_|rfl]:=lF b;let%[d,_|rfl]:=lF e;show a (by rw[wj f])
def wv{cs:ZH}(b:(cs.map λp=>p.2.1).Nodup){a:ZB}(h:a.Perm (cs.flatMap lyr)):a.Nodup:=by
 rw[h.nodup_iff];show yC (nm:=λp:ij×iv×ZB=>p.2.1) b (λp _=>CO p) λp d x c=>Fx c
structure rA (H:Hp) (cs:ZH) (qs:ZN):Prop where
 ca:bZ H cs
 nd:(cs.map λp=>p.2.1).Nodup
 p1:1<= ~~~cs
 p3: ~~~cs<=3
 few:∀p∈cs,rY p.2.2
 ly: ~~~(cs.flatMap lyr)<=63
 sa:∀ls:ZB,ls.Perm (cs.flatMap lyr)->cV H ls qs
 q20: ~~~qs<=36
def rA.up{H H':Hp}{cs:ZH}{qs:ZN}(h:rA H cs qs)(s:ah H H'):rA H' cs qs:=
 %[h.ca.up s,h.nd,h.p1,h.p3,h.few,h.ly,λa p=>(h.sa a p).up s|h.q20]
inductive rB (K:ZA)
 | mk (a:ij) (ns:ZL):vs=[.ref a]->Qb K H a (ns\4)->GA H-> ~~~ns<=63->(∀H',Q (.bl fI) H')->rB K vs H Q E0
def yD{a b:Type}(f:a->b)(xs:dV a)(is:dV hH):is.filterMap ((xs.map f)[·]?)=(is.filterMap (xs[·]?)).map f:=by
 rw[dV.map_filterMap];show vb (λg=>dV.filterMap g is) (funext λi=>Zl ..)
def FQ{a:Type}{xs:dV a}{is:dV hH}{q:a}(h:q∈is.filterMap (xs[·]?)):q∈xs:=by
 let%[i,_|e]:=MX.mp h;show Z8 e
def nD.sub{H:Hp}{cs:ZH}{qs rs:ZN}(h:nD H cs qs)(r:∀q∈rs,q∈qs)(l: ~~~rs<= ~~~qs):nD H cs rs:=%[h.c1,h.c3,h.ca,h.nd,h.few,h.ly,λq a=>h.sa q (r q a)|md l h.ql]
def nD.up{H H':Hp}{cs:ZH}{qs:ZN}(h:nD H cs qs)(s:ah H H'):nD H' cs qs:=%[h.c1,h.c3,h.ca.up s,h.nd,h.few,h.ly,h.sa.up s|h.ql]
def nD.pair{H:Hp}{cs:ZH}{qs:ZN}(h:nD H cs qs):rA H cs qs:=%[h.ca,h.nd,h.c1,h.c3,h.few,h.ly,λc p q a=>%[(h.sa q a).1|(h.sa q a).2.sub λz b=>p.mem_iff.mpr b]|h.ql]
structure rC (mg:ZC) (H:Hp) (g l1 l2:ij) (cs:ZH) (qs:ZN) (ls:ZB) (ts:ZG):Prop where
 gd:nD H cs qs
 h1:H l1<*bP cs
 h2:H l2∣.lst (qs\0)
 gr:iH mg H g qs ls ts
 pl:ls.Perm (cs.flatMap lyr)
 tm:∀k,k∈ts\2↔k∈dc cs\/k∈df qs qs.length
def rC.up{mg:ZC}{H H':Hp}{g a b:ij}{cs:ZH}{qs:ZN}{c:ZB}{ts:ZG}(h:rC mg H g a b cs qs c ts)(s:ah H H'):rC mg H' g a b cs qs c ts:=%[h.gd.up s,s _ _ h.h1,s _ _ h.h2,h.gr.up s,h.pl|h.tm]
def Bq{H:Hp}{g c a b:ij}{cs:ZH}{qs:ZN}{R:Hp->Prop}(i:H g=eH)(h:H c=eH)(m:H a<*bP cs)(n:H b∣.lst (qs\0))(p:rA H cs qs)
 (k:∀H' d ts,ah H H'->iH mg H' g qs d ts->d.Perm (cs.flatMap lyr)->(∀k,k∈ts\2↔k∈dc cs\/k∈df qs qs.length)->R H'):
 wg mg [.ref g,.ref a,.ref b] (Qa (Qa H c (.own g)) g (.ins (aP mg "Ground") c [])) (λv r=>v= .non/\R r) E0:=by
 let f:ah H (Qa (Qa H c (.own g)) g (.ins (aP mg "Ground") c [])):=λb o e=>by
  rw[av (aC e i),av (aC e h)];show e
 show%[g,a,b,c,cs,qs,ρ,af,f _ _ m,f _ _ n,p.ca.up f,p.nd,p.p1,p.p3,p.few,p.ly,λd q=>(p.sa d q).up f,p.q20|λH' d ts c2 c3 s u y tk z A B pl C=>%[ρ|k H' d ts (λb o e=>u b o (aC e i) (f _ _ e)) %[%[c2,c3,s|y],wv p.nd pl,C,by rw[pl.length_eq];show p.ly,B,λk j=>?_,λk j=>?_|z] pl A]]<;> have%[t,l|rfl]:=Xo j
 .show(tk t l).1
 .show(tk t l).2
abbrev SD(M:ZB):dV (Key×V):=VD M λ_=> .bl fI
def FR{M:ZB}{x:iv}:∃M2,dz (SD M) (hY x) (.bl fI)=SD M2/\(M.Nodup->M2.Nodup)/\∀y,y∈M2↔y∈M\/y=x:=by
 by_cases c:x∈M
 .show%[M,?_,λh=>h|λy=>%[.inl|λh=>h.elim (λh=>h) λe=>e▸c]];unfold SD;rw[FI c]
  simp_all
 .show%[M++[x],?_,λh=>X1.mpr %[h,by simp|λa d b f e=>c (by rw[<-Xn f,<-e];show d)]|λy=>by simp];unfold SD;rw[ei _ (iy c)];unfold VD;rw[Zd];rfl
def yE:∀{R M:ZB},∃M2,i4 (SD M) (SD R)=SD M2/\(M.Nodup->M2.Nodup)/\∀y,y∈M2↔y∈M\/y∈R
 |[],M=>%[M,rfl,λh=>h|λy=>by simp]
 | x::R,M=>by
   let%[M1,a,n1|b]:=FR;let%[M2,c,d|m2]:=yE (R:=R);show%[M2,?_,λh=>d (n1 h)|λy=>by rw[m2,b,Yw,or_assoc]];change i4 (dz _ (hY x) (.bl fI)) (SD R)=_;rw[a,c]
def CP{ks:dV _}{a c:iv}(r:Rch ks a c):∃y,Ed ks a y/\(y=c\/Rch ks y c):=by
 induction r with
 | one e=>show%[_,e|.inl rfl]
 | more _ e b=>
   let%[y,h|q]:=b;show%[y,h|.inr (q.elim (λq=>q▸ .one e) λq=> .more q e)]
def KP{b:ZB}{ss:ZG}(h:∀t∈ss,d9 b t.2){x y:iv}(r:Rch (ss\2) x y):y∈b:=by
 let:∃a,Ed (ss\2) a y:=by
  cases r with
  | one e=>show%[_|e]
  | more _ e=>show%[_|e]
 let%[a,z|d]:=this;let%[t,f|c]:=Xo d;let%[u,v,w,e,_|g]:=h t f;rw[e]at c;show((NK (NK c).2).1)▸g
structure Rea (H:Hp) (ks:dV ZB) (rs:Gs iv):Prop where
 nd:(rs\1).Nodup
 ad:(rs.map (·.2.1)).Nodup
 at_:∀r∈rs,H r.2.1∣.dK (SD r.2.2)/\r.2.2.Nodup/\∀y,y∈r.2.2↔Rch ks r.1 y
inductive Br
 | mk (l m:ij) (ns:ZB) (ss:ZG):vs=[.ref l,.ref m]->H l<*ns\3->ns.Nodup-> ~~~ns<=63->H m∣.lst (ss\0)->dY H ns ss-> ~~~ss<=250->(∀x,¬ Rch (ss\2) x x)->(∀d H' (rs:Gs iv),ah H H'->H d=eH->H' d∣.dK (gD rs)->Rea H' (ss\2) rs->(∀r∈rs,r.2.1≠d/\H r.2.1=eH)->(∀x,x∈rs\1↔x∈ns)->Q (.ref d) H')->Br vs H Q E0
def rD(T:Txt K mg):↥4 "all_beneath" ["names","found"] Br:=by
 .exists T.aS,dE,cm,u,%[l,m,ns,ss,rfl,hl,nn,nl,hm,N,a5,nr|kk];show%[_,%["JCG2F~cA1BCG3zCTWF~8A0A1BK4Cuz34ETW[~A2A4ASBBK5CuhV34O5~KEZ~[~0V34AV3O5~KBEH3",dE.nd|u]|?_]
  change aW _ _ _ [!l,!m,eH,eH,eH,eH] H;show aj λD1 k1 _=>?_
  lk;show%[m,ns,ss,ρ,hm,N,a5|λb H1 s1 fb hb=>k1 _ _ (aj λD2 k2 _=>?_)];lk;intro d fd;show k2 _ _ (aj λD3 k3 _=>aB λa6 hK=>?_);let s2:=ah.Qa (o:= .dK []) fd;let hd:Qa H1 d (.dK []) d∣.dK (gD ([]:Gs iv)):=af;let O:=s1.trans s2;let bb:b≠d:=λc=>by
   let%[bc,C|_]:=hb;rw[c,fd]at C;cases C
  let be:=s1.free fd;let bf:=hb.up s2
  generalize Qa H1 d _=H2 at s2 hd O bf
  lk;show%[l,m,ns,ss,ρ,O _ _ hl,nn,nl,O _ _ hm,N.up O,a5|λr H3 L s3 al Ln Ls b9 rest _=>%[%[_|Qb.of al]|hK _ _ ?_]];let co:=s2.trans s3;let bl:∀x∈ns,x∈L:=λx Y=>MW λc=>KC (ks:=ss\2) (U:=ns.filter λx=>decide (x∉L)) (λx Y=>by
   let%[C|I]:=n7.mp Y;let%[y,e,yn|yl]:=rest x C (Zo I);show%[y,n7.mpr %[yn|Zf yl]|e]) nr (n7.mpr %[Y|Zf c])
  let Lm: ~~~(L\3)= ~~~L:=Z6 _;let Ll:=_ST.nodup_sub Ln Ls;let bm:=bf.up s3;let an:=O.trans s3;show bR (λi σ H'=>A3 (E2 λo4 o5=>σ=[!l,!m,!b,!d,o4,o5]) (ee d H3 H') (∃rs:Gs iv,A4 (H' d∣.dK (gD rs)) (Rea H' (ss\2) rs) (∀r∈rs,r.2.1≠d/\H3 r.2.1=eH) (rs\1=L.take i)))
   %[%[_,_|rfl],λ_ _ _ e=>e,[],s3 _ _ hd,%[X3,X3|λ_ h=>(nomatch h)],λ_ h=>(nomatch h)|rfl] (λi σ H' h=>h.2 _ _ (λc=>by let:=s3 _ _ hd;rw[<-c,al]at this;cases this) al) ?_ ?_
  .intro i n σ H' hn %[%[o4,o5|rfl],sm,rs,ac,g,rn|rk];let tk:L.take (i+1)=L.take i++[n]:=by rw[X9,hn];rfl
   change aW _ _ _ [!l,!m,!b,!d,-n,o5] H';show aj λD4 k4 _=>?_
   lk;intro e fe;let B:e≠d:=λc=>by rw[c,ac]at fe;cases fe
   let ao:n∉rs\1:=by
    rw[rk];intro c;let%[j|hj]:=Xf c;let jl:=(Xl hj).1;rw[Yl]at jl;rw[Yb ⋯]at hj;let:=jD Ln hj hn
    lia
   let rl: ~~~rs<=63:=by
    let: ~~~(rs\1)<= ~~~L:=by rw[rk,Yl];lia
    rw[Z6]at this
    lia
   let e3:H3 e=eH:=by
    cases q:H3 e with
    | none=>rfl
    | some o=>rw[sm e o B q]at fe;cases fe
   show%[_,gX.k (k:=hY n) (ah.Qa fe _ _ ac) (by unfold gD;rw[Z6];show aF ⋯)|k4 _ _ ?_];rw[ei _ (mS ao),show gD rs++[(hY n,V.ref e)]=gD (rs++[(n,e,[])]) by unfold gD;rw[Zd];rfl];let he:Qa (Qa H' e (.dK [])) d (.dK (gD (rs++[(n,e,[])]))) e∣.dK (SD []):=by rw[av B,af];rfl
   let bt:Qa (Qa H' e (.dK [])) d (.dK (gD (rs++[(n,e,[])]))) d=_:=af;let o4:∀c o,c≠d->H' c∣o->Qa (Qa H' e (.dK [])) d (.dK (gD (rs++[(n,e,[])]))) c∣o:=λc o h q=>by rw[av h,av (aC q fe)];show q
   generalize Qa (Qa H' e (.dK [])) d _=H4 at he bt o4
   let ap:ee d H3 H4:=λc o h q=>o4 c o h (sm c o h q)
   show aE λD5 k5 _=>aB λa6 hK=>?_
   lk;show%[tyD (ap _ _ bb bm.choose_spec.1),#[0]|λp hp=>?_];let%[bc,a,bx,ca,ag|cd]:=bm.get ap bb (λxs c=>by rw[s3 _ _ hd]at c;cases c) hp n;let sp:=ah.Qa (o:= .lst []) hp;let he:=sp _ _ he;let aq:=sp _ _ bt;let as:=ap.trans (ee.of sp);let ax:∀c o,c≠d->H' c∣o->Qa H4 p (.lst []) c∣o:=λc o h q=>sp _ _ (o4 c o h q)
   let ae:a≠e:=by
    rcases cd with rfl|⟨o,ho⟩
    .show λc=>by rw[c]at hp;let:=he;rw[c,af]at this;cases this
    .show λc=>by rw[c,e3]at ho;cases ho
   generalize Qa H4 p _=H5 at bx ag he aq as ax ⊢
   generalize b0:(ss.filter λt=>decide (t.2[0]?∣n))=ts at ag
   let tm: ~~~(ts\0)= ~~~ts:=Z6 _;let ce:∀t∈ts,t∈ss/\∃y z,t.2=[n,y,z]:=λt ht=>by
    rw[<-b0]at ht;let%[C|I]:=n7.mp ht;let%[x,y,z,e|_]:=(N t C).2;let I:=Zo I;rw[e]at I;show%[C,y,z|by rw[e,show x=n from Za I]]
   show%[hY n,ρ,bc,bx|vV ca %[%[_|Qb.of ag]|hK _ _ ?_]];show bR (λj σ J=>A3 (∃o5,σ=[!l,!m,!b,!d,-n,o5]) (ee e H5 J) (∃M:ZB,A4 (J e∣.dK (SD M)) M.Nodup (∀y∈M,Rch (ss\2) n y) (∀t∈ts.take j,∀y,t.2[1]?∣y->y∈M/\∀z,Rch (ss\2) y z->z∈M)))
    %[%[_|rfl],λ_ _ _ q=>q,[],he,X3,λ_ h=>(nomatch h)|λ_ h=>(nomatch h)] (λj σ J h=>h.2 _ _ ae ag) ?_ ?_
   .intro j t σ J ht %[%[o5|rfl],v,M,hM,Mn,Mr|Md];let%[b1,y,z|et]:=ce t (Z8 ht);change aW _ _ _ [!l,!m,!b,!d,-n,fx (.ref t.1)] J;show aj λD6 k6 _=>?_
    lk;let a0:∀c o,c≠d->c≠e->H3 c∣o->J c∣o:=λc o C I q=>v c o I (as c o C q)
    let te:∀c zs,H3 c&&&zs->J c&&&zs:=λc zs q=>a0 c _ (λz=>by rw[z,s3 _ _ hd]at q;cases q) (λz=>by rw[z,e3]at q;cases q) q
    let t6:=te _ _ (an _ _ (N t b1).1);rw[et]at t6;let a1:=v d _ B.symm aq;let ak:cf (gD (rs++[(n,e,([]:ZB))])) (hY n)∣.ref e:=by
     let%[r,ch,e1|hv]:=j3 (rs:=rs++[(n,e,[])]) (y:=n) ∅;rcases Xm ch with q|q
     .show(ao (e1▸Xp %[r,q|rfl])).elim
     .rw[Xn q]at hv;show hv
    let gn:=cg.k (k:=hY n) a1;rw[ak]at gn;let ed:Ed (ss\2) n y:=%[z|et▸Xp %[t,b1|rfl]]
    let yt:=b9 i n hn y ed;rw[<-rk]at yt;let%[M1,e1,n1|m1]:=FR (M:=M) (x:=y);let a2:∀U:ZB,U.Nodup->(∀x∈U,Rch (ss\2) n x)-> ~~~U<=63:=λU C I=>md (_ST.nodup_sub C λx Y=>KP (λt ht=>(N t ht).2) (I x Y)) nl
    let Ml:=a2 M Mn Mr;show%[_,gn,_,SqT.of t6,_,ρ,_,gX.k (k:=hY y) hM (by unfold SD VD;rw[Z6];show aF ⋯)|k6 _ _ (aE λD7 k7 _=>?_)];rw[e1];let b2:∀x∈M1,Rch (ss\2) n x:=λx Y=>((m1 x).mp Y).elim (Mr x) λq=>q▸ .one ed
    let a3:Qa J e (.dK (SD M1)) e∣.dK (SD M1):=af;let u7:∀c o,c≠e->J c∣o->Qa J e (.dK (SD M1)) c∣o:=λc o h q=>(av h)▸q
    generalize Qa J e _=H7 at a3 u7
    let b3:=cg.k (k:=hY n) (u7 _ _ B.symm a1);rw[ak]at b3;let%[ry,G,ey|gy]:=j3 (rs:=rs++[(n,e,[])]) (y:=y) (Zd▸Yu _ yt);let G:ry∈rs:=by
     rcases Xm G with q|q
     .show q
     .rw[Xn q]at ey;show(nr n (.one (by rw[<-show n=y from ey]at ed;show ed))).elim
    let b4:=cg.k (k:=hY y) (u7 _ _ B.symm a1);rw[gy]at b4;let a4:ry.2.1≠e:=aC (g.at_ ry G).1 fe;let cl:=u7 _ _ a4 (v _ _ a4 (ax _ _ (rn ry G).1 (g.at_ ry G).1));lk;let%[M2,e2,n2|m2]:=yE (R:=ry.2.2) (M:=M1);let ab:=(g.at_ ry G).2;rw[ey]at ab;let cp:=a2 M1 (n1 Mn) b2;let Rl:=a2 ry.2.2 ab.1 λx Y=>(Rch.one ed).trans ((ab.2 x).mp Y)
    show%[_,b3,tyD (a3),_,SqT.of (u7 _ _ (λc=>by rw[c,hM]at t6;cases t6) t6),_,ρ,_,b4,ry.2.1,ρ,_,_,a4.symm,a3,cl,by unfold SD VD;rw[Z6,Z6,PySem.sizeLine_eq];lia|?_];rw[e2];show k7 _ _ %[%[_|rfl],λc o h q=>(av h)▸u7 c o h (v c o h q),M2,af,n2 (n1 Mn),λx Y=>?_|λt' b5 x ex=>?_]
    .rcases(m2 x).mp Y with q|q
     .show b2 x q
     .show(Rch.one ed).trans ((ab.2 x).mp q)
    .rw[X9,ht]at b5;rcases Xm b5 with q|q
     .let%[C|I]:=Md t' q x ex;show%[(m2 x).mpr (.inl ((m1 x).mpr (.inl C)))|λz hz=>(m2 z).mpr (.inl ((m1 z).mpr (.inl (I z hz))))]
     .rw[show t'=t from Xn q,et]at ex;obtain rfl:y=x:=Za ex;show%[(m2 y).mpr (.inl ((m1 y).mpr (.inr rfl)))|λz hz=>(m2 z).mpr (.inr ((ab.2 z).mpr hz))]
   .intro σ J %[%[o5|rfl],v,M,hM,Mn,Mr|Md];rw[Zn (Zi _)]at Md;let all:∀y,y∈M↔Rch (ss\2) n y:=λy=>%[Mr y|λr=>by
     let%[x,%[z|hz]|q]:=CP r;let%[t,ht|et]:=Xo hz;let h:=Md t (b0▸n7.mpr %[ht|by rw[et];simp]) x (by rw[et];rfl);show q.elim (λq=>q▸h.1) λq=>h.2 y q]
    let b6:∀r∈rs,r.2.1≠e:=λr u=>aC (g.at_ r u).1 fe
    show k5 _ _ %[%[_,_|rfl],λc o h q=>v c o (aC q e3) (as c o h q),rs++[(n,e,M)],?_,%[?_,?_|λr u=>?_],λr u=>?_|by rw[Zd,rk,tk];rfl]
    .rw[v d _ B.symm aq];unfold gD;rw[Zd,Zd];rfl
    .rw[Zd,X1];show%[g.nd,by simp|λa ha b hb c=>ao (by rw[<-show b=n from Xn hb,<-c];show ha)]
    .rw[Zd,X1];show%[g.ad,by simp|λa ha b hb c=>?_];let%[r,u|rfl]:=Xo ha;show b6 r u (c.trans (Xn hb))
    .rcases Xm u with q|q
     .show%[v _ _ (b6 r q) (ax _ _ (rn r q).1 (g.at_ r q).1)|(g.at_ r q).2]
     .rw[Xn q];show%[hM,Mn|all]
    .rcases Xm u with q|q
     .show rn r q
     .rw[Xn q];show%[B|e3]
  .intro σ H' %[%[o4,o5|rfl],sm,rs,ac,g,rn|rk];rw[Zn (Zi _)]at rk;show k3 _ _ ?_;lk;show kk d H' rs (λc o e=>sm c o (aC e be) (an _ _ e)) be ac g (λr u=>%[(rn r u).1|an.free (rn r u).2]) λx=>rk▸%[Ls x|bl x]
structure ReF (H:Hp) (ks:dV ZB) (d:ij) (rs:Gs iv):Prop where
 at_:∃o,H d∣.frz o (.dK (gD rs))
 nd:(rs\1).Nodup
 in_:∀r∈rs,(∃o,H r.2.1∣.frz o (.dK (SD r.2.2)))/\r.2.2.Nodup/\∀y,y∈r.2.2↔Rch ks r.1 y
def ReF.up{H H':Hp}{ks:dV _}{d:ij}{rs:Gs iv}(h:ReF H ks d rs)(s:ah H H'):ReF H' ks d rs:=
 %[h.at_.imp λo e=>s _ _ e,h.nd|λr a=>%[(h.in_ r a).1.imp λo e=>s _ _ e|(h.in_ r a).2]]
def ReF.same{H:Hp}{ks a:dV _}{d:ij}{rs:Gs iv}(h:ReF H ks d rs)(e:∀k,k∈ks↔k∈a):ReF H a d rs:=%[h.at_,h.nd|(mT e)▸h.in_]
inductive Bs
 | mk (l m:ij) (ns:ZB) (ss:ZG):vs=[.ref l,.ref m]->H l<*ns\3->ns.Nodup-> ~~~ns<=63->H m∣.lst (ss\0)->dY H ns ss-> ~~~ss<=250->(∀x,¬ Rch (ss\2) x x)->(∀d H' (rs:Gs iv),ah H H'->ReF H' (ss\2) d rs->(∀x,x∈rs\1↔x∈ns)->Q (.ref d) H')->Bs vs H Q E0
def sE(T:Txt K mg):↥4 "all_beneath" ["names","found"] Bs:=by
 show(rD T).freeze.imp λvs H Q E zqw=>?_;let%[l,m,f,ss,g,h,i,j,n,p,s,u|v]:=zqw;show %[l,m,f,ss,g,h,i,j,n,p,s,u|λd H' rs y C z a A B=>%[d::rs.map _|λG=>v d _ rs (λc o e=>?_) %[%[_|ph Zm z],a.nd|λr b=>%[%[_|ph (Zk _ (Xp %[r,b|ρ])) (a.at_ r b).1]|(a.at_ r b).2]] B]]
 rw[qr]
 .show y c o e
 .intro q;rcases Yw.mp q with rfl|q
  .lia
  .let%[r,b|rfl]:=Xo q;rw[(A r b).2]at e;cases e
inductive Bt (mg:ZC)
 | mk (g:ij) (qs:ZN) (ls:ZB) (ts:ZG):vs=[.ref g]->iH mg H g qs ls ts->(∀lk,b7 (a7 qs) (ts\2) lk->∀x,¬ Rch lk x x)->(∀d H' (rs:Gs iv) lk ns,ah H H'->b7 (a7 qs) (ts\2) lk->Bg (a7 qs) ls ns->ReF H' lk d rs->(∀x,x∈rs\1↔x∈ns)->Q (.ref d) H')->Bt mg vs H Q E0
def j9(T:Txt K mg):↥7 "earlier_ones" ["ground"] (Bt mg):=by
 .exists T.aX,d0,p,c,%[g,qs,e,ts,rfl,a,nr|q];let%[c2,c3,r|u]:=a.gr;let M:=a.ll;show%[_,%["JCG1F]GA0BEHF]9AF~$A0BA1B",d0.nd|c]|?_]
  change aW _ _ _ [fx _,eH] H;show aj λN k1 _=>?_
  lk;show%[g,qs,e,ts,ρ,a,nr|λl O v ss n y z B lk=>k1 _ _ ?_];lk;show%[g,c2,c3,r,qs,e,ts,ρ,u.up n,a.nd,a.so,⋯|λm U i j Y C b=>?_];let nl: ~~~i<=63:=by
   let:=_ST.nodup_sub b.nd λx G=>((b.mem x).mp G).1
   lia
  show%[m,l,i,ss,ρ,C,b.nd,nl,j _ _ y,λt o=>%[j _ _ (z t o).1|a.names lk b _ (Xp %[t,o|ρ])],B,nr _ lk|λd H' rs I J L=>q d H' rs _ i (n.trans (j.trans I)) lk b J L]
structure kX (mg:ZC) (H:Hp) (g:ij) (qs:ZN) (ls:ZB) (ts:ZG) (lk:dV ZB):Prop where
 gr:iH mg H g qs ls ts
 li:b7 (a7 qs) (ts\2) lk
 nr:∀x,¬ Rch lk x x
def kX.up{mg:ZC}{H H':Hp}{g:ij}{qs:dV _}{a:ZB}{ts:dV _}{lk:dV _}(h:kX mg H g qs a ts lk)(s:ah H H'):kX mg H' g qs a ts lk:=%[h.gr.up s,h.li|h.nr]
def kX.all{mg:ZC}{H:Hp}{g:ij}{qs:ZN}{b:ZB}{ts:ZG}{lk:dV ZB}(h:kX mg H g qs b ts lk)(a:dV ZB)(h':b7 (a7 qs) (ts\2) a):∀x,¬ Rch a x x:=by
 rw[mT (h'.mm h.li)];show h.nr
abbrev Up(lk:dV ZB)(a b:iv):Prop:=a=b\/Rch lk a b
abbrev tTru(K:ZA)(a:TE):TT:=λb H Q=>a b H λx H'=>∃k,BG K x H' k/\Q k H'
def L9{X:Cx}{K:ZA}{a:wh}{c:TE}(h:X.K=K)(d:∀b,SN a X.env b=(do let v<-b;OS a.pos;Oq [v] (UD v)))(e:QE X a c):QT X a (tTru K c):=truT h d e
noncomputable abbrev Yr:=ij×hH×iv×nX
abbrev oF(H:Hp)(ys:dV Yr):Prop:=∀t∈ys,H t.1&&&[.int t.2.1,.str t.2.2.1,.int t.2.2.2]
def oF.up{H H':Hp}{ys:dV Yr}(h:oF H ys)(s:ah H H'):oF H' ys:=λt a=>s _ _ (h t a)
def KQ{M:ZB}{y:iv}:(cf (SD M) (hY y)).isSome=fI↔y∈M:=by
 by_cases c:y∈M
 .unfold SD;rw[iG c];simp[c]
 .unfold SD;rw[iy c];simp[c]
inductive FS
 | mk (d:ij) (x y:iv) (ks:dV ZB) (rs:Gs iv):vs=[.ref d,.str x,.str y]->ReF H ks d rs->x∈rs\1->(∀b:pp,(b=fI↔Up ks x y)->Q (.bl b) H)->FS vs H Q E0
abbrev upB(ks:dV ZB)(a b:iv):pp:= @decide (Up ks a b) (Sb _)
def pq{ks:dV _}{a b:iv}:upB ks a b=fI↔Up ks a b:= @Nx _ (Sb _)
inductive ww (up:pp)
 | mk (l d:ij) (x:iv) (ks:dV ZB) (rs:Gs iv) (ys:dV Yr):vs=[.ref l,.ref d,.str x]->H l∣.lst (ys\0)->oF H ys->ReF H ks d rs->x∈rs\1->(∀t∈ys,t.2.2.1∈rs\1)-> ~~~ys<=60->(∀r H',ah H H'->H r=eH->H' r∣.lst ((ys.filter λt=>if up then upB ks t.2.2.1 x else upB ks x t.2.2.1)\0)->Q (.ref r) H')->ww up vs H Q E0
def kB{ys:dV Yr}{p:Yr->pp}{j:hH}(a:j< ~~~ys):(ys.take (j+1)).filter p=(ys.take j).filter p++if p ys[j]=fI then [ys[j]]else []:=by
 rw[X9,Z4 a,Y2];rw[show(fx _).toList=[ys[j]]from rfl,Y3,Y7]
def yF{ys:dV Yr}{p:Yr->pp}{j:hH}(h: ~~~ys<=60): ~~~(((ys.take j).filter p)\0)<=60:=by
 rw[Z6];show md (Yi _ _) (md (dV.length_take_le' ..) h)
def iA(T:Txt K mg):↥1 "is_one_or_later" ["reach","upper","lower"] FS:=by
 .exists T.bn,lC,j,e,%[d,x,y,ks,rs,rfl,g,l|i];show%[_,%["JEH~mma12:`A2V01",0|e]|?_];change iI _ _ [fx _,fx _,fx _] H;let%[r,a,m|n]:=j3 l;let%[o|p]:=g.at_;let%[%[q|b],nd|mem]:=g.in_ r a;lk;by_cases c:x=y
  .rw[jg (Zf c)];show i fI %[λ_=> .inl c|λ_=>rfl]
  .rw[hX (by simp[c])];show%[_,.inl %[_,hY x,.inr %[o|p],ρ|n.symm],_,.inl %[_,hY y,.inr %[q|b],ρ|ρ]|i _ ?_];rw[KQ,mem,m];show%[.inr|λh=>h.resolve_left c]
def yG(T:Txt K mg):↥2 "bys_above" ["bys","reach","name"] (ww fI):=by
 .exists T.bm,vZ,v,y,%[l,d,x,ks,rs,ys,rfl,o,z,B,N,C,G|I];show%[_,%["JEHog?1W0d0?2w]HF]IAQ1AO0~dAQ2B0",0,↑(["said","reach","name"],[(1,1),(2,2)]),↑["said","reach","name"]|y]|?_];change iI _ _ [!l,!d,-x] H;show aN λq J=>?_
  lk;show%[%[_|Qb.of o]|J _ _ λF i=>?_];show di (λj vs m H'=>A4 (∃r,m=[r,!d,-x]) (ah H H') (H' F<*vs) (vs=(((ys.take j).filter λt=>upB ks t.2.2.1 x)\0)))
   %[%[eH|rfl],ah.Qa i,af|rfl] (λ_ _ _ H' n=>n.2 _ _ o) ?_ ?_
  .intro j vs m H' g %[%[r|rfl],e,a|rfl];let u:=Yd g;let L:=e _ _ (z _ u);lk;show%[_,SqT.of L,_,ρ,d,_,x,ks,rs,ρ,B.up e,C _ u|λb M=>%[b,ρ|?_]];obtain rfl:b=upB ks _ x:=Ny.mpr (M.trans pq.symm);show bz (λc=>CK.mk g a (by let:=yF (p:=λt=>upB ks t.2.2.1 x) (j:=j) G;show aF ⋯) %[%[_|rfl],ah.set e i,af|?_]) λc=>CN.mk g %[%[_|rfl],e,a|?_]
   .rw[kB g,jg c,Zd];rfl
   .rw[kB g,hX c,Zx]
  .intro vs m H' %[_,e,a|rfl];rw[Zn (Zi _)]at a;show I F H' e i a
abbrev YS(qs:ZN)(b:iv)(n:hH)(d:iv)(y:nX):Prop:=∃q a,qs[n]?∣q/\q.2=[.str b,.str a,.int y]/\bE (a7 qs) a d
inductive yH (mg:ZC)
 | mk (g:ij) (wd:iv) (qs:ZN) (ls:ZB) (ts:ZG):vs=[.ref g,.str wd]->iH mg H g qs ls ts->(wd="since"\/wd="by")-> ~~~qs<=60->(∀l H' (ys:dV Yr),ah H H'->H l=eH->H' l∣.lst (ys\0)->oF H' ys->(∀n d y,(n,d,y)∈ys\2↔YS qs wd n d y)-> ~~~ys<=60->ys.Pairwise (λa b=>a.2.1<b.2.1)->Q (.ref l) H')->yH mg vs H Q E0
def mU(T:Txt K mg):↥4 "years_said" ["ground","word"] (yH mg):=by
 .exists T.bi,iE,ak,M,%[g,B,qs,ls,ts,rfl,hg,hw,ql|kk];let%[c2,c3,c4|gr]:=hg.gr;let ll:=hg.ll;show%[_,%["JC.2qrF~bA0BCG3~J~40EHog?1~FA3BnRd0?2Rd1?2kwLaO1DQ3jA0AVQ2O1DAO1DB",iE.nd,↑(["number","saying","names","word"],[(2,2),(3,1)]),↑["number","saying","names","word"]|M]|?_]
  change aW _ _ _ [!g,-B,eH,eH] H;show aj λD1 k1 _=>?_
  lk;show%[g,c2,c3,c4,qs,ls,ts,ρ,gr,hg.nd,hg.so,⋯|λd H1 r s1 fd hd M=>k1 _ _ (aj λD2 k2 _=>?_)];let C:=gr.up s1;lk;show nF C (.inr (.inl rfl)) %[g,c2,c3,c4,qs,ls,ts,rfl,C|λl1 ab=>k2 _ _ ?_];let O:=ah.Qa (o:= .lst (qs\0)) ab;let l:=own O;let sa:=(C.up O).sa;let hd:=O _ _ hd;let G:=s1.trans O
  generalize Qa H1 l1 _=H2 at O l hd G sa
  show aN λag hK=>?_
  lk;show%[_,Qb.of l|hK _ _ λF hF=>?_];show dM (J:=Ite K l1 (qs\0)) (n:= ~~~qs) (D:=F) (λj vs U H'=>A4 (E2 λo1 o2=>U=[o1,o2,!d,-B]) (ah H2 H') (H' F<*vs) (∃ys:dV Yr,A5 (vs=ys\0) (oF H' ys) (~~~ys<=j) (ys.Pairwise λa b=>a.2.1<b.2.1) (∀n d y,(n,d,y)∈ys\2↔n<j/\YS qs B n d y)))
   %[%[eH,eH|rfl],ah.Qa hF,af,[],rfl,(λ_ h=>nomatch h),Zi _,.nil|by simp] (λj ys U H' z I=>%[Qb.of (I.2 _ _ l)|by rwa[Z6]]) (λys U H' I=>%[Qb.of (I.2 _ _ l)|by rw[Z6];show Zi _]) ?_ ?_
  .intro j vs U H' z %[%[o1,o2|rfl],m,i,ys,rfl,L,yl,yo|Y] _ _ %[x,t0,hx,ac,rfl|rfl];rw[Zl,Z4 z]at hx;obtain rfl:V.ref qs[j].1=x:=Za hx;let sT:=ah.Qa (o:= .tup [.int j,.ref qs[j].1]) ac;let g0:=own sT;let i:=sT _ _ i;let L:=L.up sT;let m:=m.trans sT
   generalize Qa H' t0 _=H3 at sT g0 i L m
   let%[tu|ok]:=(sa.up m) _ (Yd z);show%[_,SqT.of g0,ρ,_,_,ρ,_,_,ρ,ρ|?_];change wD _ [fx (.int j),fx (.ref qs[j].1),!d,-B] _ _;lk;let ex:∃N v1 v2,qs[j].2=[.str N,v1,v2]/\(N=B->∃a y,v1=V.str a/\v2=V.int y/\a∈ls):=by
    rcases ok with⟨N,a,b,e,ae,_⟩|⟨N,a,y,e,_,ha,_⟩
    .show%[_,_,_,e|λc=>?_];subst c;rcases hw with rfl|rfl<;> rcases ae with h|h<;> show m4 h (!1)
    .show%[_,_,_,e|λ_=>%[a,y,ρ,ρ|ha]]
   let%[N,v1,v2,e|he]:=ex;rw[e]at tu;show%[_,SqT.of tu,_,ρ,ρ|bz (λc=>?_) λc=>?_]
   .obtain rfl:N=B:=V.str.inj (Zo c);let%[a,y,rfl,rfl|ha]:=he rfl;let get:=cg.k (k:=hY a) (m _ _ hd);rw[gO ha]at get;show%[_,SqT.of tu,_,ρ,_,get,_,SqT.of tu,_,ρ,#[3]|λp hp=>?_];let sp:=ah.Qa (o:= .tup [.int j,.str (r a),.int y]) hp;let gp:=own sp
    generalize Qa H3 p _=H4 at sp gp ⊢
    show CK.mk z (sp _ _ i) (by rw[Z6];show aF ⋯) %[%[_,_|rfl],ah.set (m.trans sp) hF,af,ys++[(p,j,r a,y)],by rw[Zd];rfl,λt ht=>?_,by rw[Z9];show X8 yl,dV.pairwise_append.mpr %[yo,Ti ..|λt ht u hu=>by rw[Xn hu];show((Y t.2.1 t.2.2.1 t.2.2.2).mp (Xp %[t,ht|rfl])).1]|λn d' y'=>?_]
    .show pi (sp _ _ i) _ _ ?_;rcases Xm ht with q|q
     .show sp _ _ (L t q)
     .rw[Xn q];show gp
    .rw[Zd,Yt,Y];change _\/(n,d',y')∈[(j,r a,y)]↔_;rw[Yy]
     constructor
     .rintro(⟨h1,v⟩|h)
      .show%[⋯|v]
      .cases h;show%[Yo _,_,a,Z4 z,e|(M a ha).2]
     .rintro⟨h1,v⟩;rcases Th.mp h1 with h|rfl
      .show .inl %[h|v]
      .let%[q,a',e1,e2|l2]:=v;rw[Z4 z]at e1;cases e1;rw[e]at e2;cases e2;rw[(M a ha).2.one l2];show .inr rfl
   .show CN.mk z %[%[_,_|rfl],m,i,ys,rfl,L,⋯,yo|λn d' y'=>?_];rw[Y]
    constructor
    .rintro⟨h1,v⟩;show%[⋯|v]
    .rintro⟨h1,v⟩;show%[?_|v];rcases Th.mp h1 with h|rfl
     .show h
     .let%[q,a',e1,e2|_]:=v;rw[Z4 z]at e1;cases e1;rw[e]at e2;cases e2;show m4 (Zf rfl) c
  .intro vs U H' %[_,m,i,ys,rfl,L,yl,yo|Y];show kk F H' ys (G.trans m) (G.free hF) i L (λn d y=>(Y n d y).trans %[λh=>h.2|λh=>⟨by let%[q,_,e|_]:=h;show(Xl e).1,h⟩]) ⋯ yo
def nK(T:Txt K mg):↥2 "sinces_beneath" ["sinces","reach","name"] (ww fS):=by
 .exists T.bj,mv,r,u,%[l,d,x,ks,rs,ys,rfl,n,v,y,z,M,B|C];show%[_,%["JEHog?1W0d0?2w]HF]IAQ1AQ2AO0~dB0",0,(show bJ (ar eU) ["sinces","reach","name"] _ ["said","reach","name"] [(1,1),(2,2)]=fI from !0),↑["said","reach","name"]|u]|?_];change iI _ _ [!l,!d,-x] H;show aN λo G=>?_
  show%[%[_|Qb.of n]|G _ _ λF i=>?_];show di (λj vs m H'=>(∃q,m=[q,fx _,fx _])/\ah H H'/\H' F<*vs/\vs=(((ys.take j).filter λt=>upB ks x t.2.2.1)\0))
   %[%[eH|rfl],ah.Qa i,af|rfl] (λ_ _ _ H' ⟨_,e,_⟩=>e _ _ n) ?_ ?_
  .intro j vs m H' g %[%[q|rfl],e,a|rfl];let I:=Yd g;let J:=e _ _ (v _ I);lk;show%[_,SqT.of J,_,ρ,d,x,_,ks,rs,ρ,y.up e,z|λb L=>%[b,ρ|?_]];obtain rfl:b=upB ks x _:=Ny.mpr (L.trans pq.symm);show bz (λc=>CK.mk g a (by let:=yF (p:=λt=>upB ks x t.2.2.1) (j:=j) B;show aF (by omega)) %[%[_|rfl],ah.set e i,af|?_]) λc=>CN.mk g %[%[_|rfl],e,a|?_]
   .rw[kB g,jg c,Zd];rfl
   .rw[kB g,hX c,Zx]
  .intro vs m H' %[_,e,a|rfl];rw[Zn (Zi _)]at a;show C F H' e i a
abbrev Few(lk:dV ZB)(a b:iv)(us:dV ZB):Prop:=(a=b/\us=[])\/Sho lk a b us
inductive yJ (mg:ZC)
 | mk (g:ij) (qs:ZN) (ls:ZB) (ts:ZG) (lk:dV ZB) (z u a b:iv):vs=[.ref g,.str z,.str u]->kX mg H g qs ls ts lk->z∈ls->u∈ls->bE (a7 qs) z a->bE (a7 qs) u b->(∀H',ah H H'-> ¬ Rch lk a b->Q .non H')->(∀l H' (ws:ZG),ah H H'->H l=eH->H' l∣.lst (ws\0)->aI H' ws->Sho lk a b (ws\2)-> ~~~ws<=300->Q (.ref l) H')->yJ mg vs H Q E0
inductive FT (mg:ZC)
 | mk (g:ij) (qs:ZN) (ls:ZB) (ts:ZG) (lk:dV ZB) (z u a b:iv):vs=[.ref g,.str z,.str u]->kX mg H g qs ls ts lk->z∈ls->u∈ls->bE (a7 qs) z a->bE (a7 qs) u b->Up lk a b->(∀l H' (ws:ZG),ah H H'->H l=eH->H' l∣.lst (ws\0)->aI H' ws->Few lk a b (ws\2)-> ~~~ws<=300->Q (.ref l) H')->FT mg vs H Q E0
def fM(T:Txt K mg):↥4 "deposit_of" ["ground","layer"] (FD mg):=by
 .exists T.aH,rZ,j,a,%[g,c2,c3,c,qs,e,ts,z,rfl,l,nd,m,b,i|n];show%[_,%["JEHVF~bA0B1",0|a]|?_];change iI _ _ [!g,-z] H;lk;show%[g,c2,c3,c,qs,e,ts,ρ,l,nd,m,b|λd o r p u q a=>?_];let:=cg.k (k:=hY z) q;rw[gO i]at this;show%[_,this|n o (r z) p (a z i).2]
def HJ(T:Txt K mg):↥7 "chain" ["ground","one","other"] (yJ mg):=by
 .exists T.aW,xO,ab,n,%[g,qs,r,ts,lk,z,u,a,b,rfl,C,hz,hu,za,ub,kn|ky];let c:=C.gr;let%[c2,c3,O|U]:=c.gr;let ll:=c.ll;show%[_,%["JCG3F~cAF]GA0BBEHF~9A3AF~eA0A1BAF~eA0A2BB",xO.nd|n]|?_]
  change aW _ _ _ [!g,-z,-u,eH] H;show aj λD1 k1 _=>?_
  lk;show%[g,qs,r,ts,ρ,c,C.all|λl H1 Y ss s1 hl la sl G=>?_];show%[l,Y,ss,ρ,hl,la,sl|λd H2 s2 fd hd=>k1 _ _ ?_];let e:=G.mm C.li;let i:=s1.trans s2;lk;show%[g,c2,c3,O,qs,r,ts,z,ρ,U.up i,c.nd,c.so,⋯,hz|λH3 a' s3 I=>?_];let J:=i.trans s3;show%[g,c2,c3,O,qs,r,ts,u,ρ,U.up J,c.nd,c.so,⋯,hu|λH4 b' s4 L=>?_];obtain rfl:=I.one za;obtain rfl:=L.one ub;let j:=s3.trans s4;let m:=i.trans j;let o:=la.up (s2.trans j);show%[d,_,_,Y,ss,ρ,hd.up j,o,sl,λM B n1=>kn M (m.trans B) (by rw[<-mT e];show n1)|λq M ws B fq hq N sh p=>ky q M ws (m.trans B) (m.free fq) hq (λt ht=>?_) (sh.same e) p];let%[h1,x,y,v,e3|_]:=o t (N t ht);show%[by rw[e3];simp|B _ _ h1]
def gU(T:Txt K mg):↥8 "chain_or_nothing" ["ground","one","other"] (FT mg):=by
 .exists T.bo,fo,i,j,%[g,qs,c,ts,lk,z,u,a,b,rfl,m,o,q,r,v,up|d];show%[_,%["JCG3F`BA0A1A2BEH`CL~B3tSB3",fo.nd|j]|?_]
  change aW _ _ _ [!g,-z,-u,eH] H;show aj λJ k1 _=>?_
  lk;show%[g,qs,c,ts,lk,z,u,a,b,ρ,m,o,q,r,v,λH' s n=>k1 _ _ ?_|λl H' ws s y B C G I=>k1 _ _ ?_]
  .lk;rw[jg ∅];show%[Xe _|λp e=>d p _ [] (s.trans (ah.Qa e)) (s.free e) af (e9 _) (.inl %[up.resolve_right n|ρ]) (Xe _)]
  .lk;rw[hX ∅];show d l H' ws s y B C (.inr G) I
def YS.in_{mg:ZC}{H:Hp}{g:ij}{qs:dV _}{c f:ZB}{ts:dV _}{i d:iv}{n:hH}{y:nX}(b:iH mg H g qs c ts)(j:Bg (a7 qs) c f)(h:YS qs i n d y):d∈f:=by
 let%[q,a,m,r|l]:=h;let%[c2,c3,s|b]:=b.gr;let o:a∈c:=by
  rcases(b.sa q (Z8 m)).2 with⟨p,x,z,e,_⟩|⟨p,x,z,e,_,u,_⟩
  .grind
  grind
 show(j.mem d).mpr %[l.1.within (cZ b.sa) o|d5 l l.1]
def wx{H:Hp}{b:ZB}{qs:dV _}{q:ij×ZM}{c a:iv}{y:nX}(d:cV H b qs)(m:q∈qs)(g:q.2=[.str c,.str a,.int y]):H q.1&&&[.str c,.str a,.int y]/\a∈b:=by
 let%[h|ok]:=d q m;rcases ok with⟨f,x,z,e,_⟩|⟨f,x,z,e,_,i,j⟩
 .grind
 grind
inductive Io
 | mk (t:ij) (a b:V) (y:nX):vs=[.ref t]->H t&&&[a,b,.int y]->Q (.int y) H->Io vs H Q E0
abbrev yrI(us:dV Yr)(i:hH):nX:=us[i]?.elim 0 (·.2.2.2)
def nM{us:dV Yr}{i:hH}{t:Yr}(h:us[i]?∣t):yrI us i=t.2.2.2:=by unfold yrI;rw[h];rfl
def Iq{us:dV Yr}{i j:hH}{t v:Yr}(o:us.Pairwise λa b=>a.2.1<b.2.1)(hi:us[i]?∣t)(d:us[j]?∣v)(l:v.2.1<t.2.1):j<i:=MW λc=>by
 let%[f|g]:=Xl hi;let%[h|m]:=Xl d;by_cases e:j=i
 .simp_all
 .let:=Px.mp o i j f h ⋯;rw[g,m]at this
  lia
abbrev Fir(qs:ZN)(a:iv)(up:iv->Prop)(lt:nX->nX->Prop)(n:hH)(d:iv)(y:nX):Prop:=YS qs a n d y/\up d/\∀m e z,YS qs a m e z->up e-> ¬ lt y z/\(m<n->lt z y)
inductive Ir (mg:ZC)
 | mk (g:ij) (qs:ZN) (ls:ZB) (ts:ZG) (lk:dV ZB) (z a:iv):vs=[.ref g,.str z]->kX mg H g qs ls ts lk-> ~~~qs<=60->z∈ls->bE (a7 qs) z a->(∀H',ah H H'->(∀n d y,YS qs "since" n d y-> ¬ Up lk a d)->Q .non H')->(∀t l H' (n:hH) d y (ws:ZG),ah H H'->H l=eH->H t=eH->H' t&&&[.int n,.ref l]->H' l∣.lst (ws\0)->aI H' ws->Few lk a d (ws\2)-> ~~~ws<=300->Fir qs "since" (λd=>Up lk a d) (λx y=>x<y) n d y->Q (.ref t) H')->Ir mg vs H Q E0
inductive Iu (mg:ZC)
 | mk (g:ij) (qs:ZN) (ls:ZB) (ts:ZG) (lk:dV ZB) (z a:iv):vs=[.ref g,.str z]->kX mg H g qs ls ts lk-> ~~~qs<=60->z∈ls->bE (a7 qs) z a->(∀H',ah H H'->(∀n d y,YS qs "by" n d y-> ¬ Up lk d a)->Q .non H')->(∀t l H' (n:hH) d y (ws:ZG),ah H H'->H l=eH->H t=eH->H' t&&&[.int n,.ref l]->H' l∣.lst (ws\0)->aI H' ws->Few lk d a (ws\2)-> ~~~ws<=300->Fir qs "by" (λd=>Up lk d a) (λx y=>y<x) n d y->Q (.ref t) H')->Iu mg vs H Q E0
def uQ(T:Txt K mg):↥1 "year_of" ["said"] Io:=by
 .exists T.br,zZ,c,e,%[t,a,b,y,rfl,d|q];show%[_,%["JEHO0`D"|0]|?_];show%[_,SqT.of d,.int y,ρ|q]
def yK(T:Txt K mg):↥9 "why_least" ["ground","layer"] (Ir mg):=by
 .exists T.bp,db,al,J,%[g,qs,L,ts,lk,z,a,rfl,U,ql,hz,G,kn|ky];let C:=U.gr;let ll:=C.ll;let%[c2,c3,c4|gr]:=C.gr;show%[_,%["JCG2F]JA0BCG3F~eA0A1BCG4F`EAF]KA0AUBA2A3BCMLabcA4BDEHtNCG5`F]L4EHjAO5]MAF]NA0A3AO5~dBB",db.nd|J]|?_]
  change aW _ _ _ [!g,-z,eH,eH,eH,eH] H;show aj λD1 k1 _=>?_
  lk;show%[g,qs,L,ts,ρ,C,U.all|λd H1 rs an ns s1 ab Y re rn=>k1 _ _ (aj λD2 k2 _=>?_)];let re:=re.same (ab.mm U.li);lk;show%[g,c2,c3,c4,qs,L,ts,z,ρ,gr.up s1,C.nd,C.so,⋯,hz|λH2 q s2 ac=>k2 _ _ (aj λD3 k3 _=>?_)];obtain rfl:=ac.one G;let M:=s1.trans s2;lk;let ax:q∈rs\1:=(rn _).mpr ((Y.mem _).mpr %[G.1.within (cZ gr.sa) hz|d5 G G.1]);show%[g,_,qs,L,ts,ρ,C.up M,.inl rfl,ql|λl1 H3 ys s3 ao ae ya ym yl yo=>?_];let ag:=M.trans s3;show%[l1,d,_,lk,rs,ys,ρ,ae,ya,re.up (s2.trans s3),ax,λt l=>(rn _).mpr (((ym _ _ _).mp (Xp %[t,l|ρ])).in_ C Y),yl|λr H4 s4 fr I=>k3 _ _ (aj λD4 k4 r4=>?_)];let B:=ag.trans s4;let N:∀u,u∈(ys.filter λt=>if fS=fI then upB lk t.2.2.1 q else upB lk q t.2.2.1)↔u∈ys/\Up lk q u.2.2.1:=λu=>by
   rw[n7];show W5 λ_=>pq
  let uo:=yo.sublist (Q6 (p:=λt=>if fS=fI then upB lk t.2.2.1 q else upB lk q t.2.2.1))
  generalize (ys.filter λt=>if fS=fI then upB lk t.2.2.1 q else upB lk q t.2.2.1)=us at I N uo
  let ua:oF H4 us:=λt l=>s4 _ _ (ya t ((N t).mp l).1)
  let ui:∀{n d y},YS qs "since" n d y->Up lk q d->∃t∈us,t.2=(n,d,y):=λh u=>by
   let%[t,l|e]:=Xo ((ym _ _ _).mpr h);show%[t,(N t).mpr %[l|by rw[e];show u]|e]
  lk;show%[_,.inl %[_,Qb.of I|ρ]|?_];rw[Z6];show bz (λc=>r4 _ _ (kn H4 B λn d' y h u=>?_)) λc=>k4 _ _ (aj λD5 k5 _=>?_)
  .let%[t,l|_]:=ui h u;let:=OX l
   lia
  lk;unfold Fj;lk;let it:∀{i:hH} {x:V},(us\0)[i]?∣x->∃t,us[i]?∣t/\x= .ref t.1:=λh=>by
   rw[Zl]at h;let%[t,e|rfl]:=zz.mp h;show%[t,e|ρ]
  show%[_,Qb.of I,by rw[Z6];show P7 λe=>c (Zf (by rw[e];rfl)),yrI us,λi x hx=>?_|λi x hx O=>k5 _ _ ?_]
  .let%[t,l|rfl]:=it hx;show%[t.1,_,_,t.2.2.2,ρ,ua t (Z8 l),by rw[nM l]|ρ]
  let%[t,l|rfl]:=it hx;let tm:=Z8 l;let ty:=(ym _ _ _).mp (Xp %[t,((N t).mp tm).1|rfl]);let tu:=((N t).mp tm).2;let%[dl|ds]:=(Y.mem t.2.2.1).mp (ty.in_ C Y);lk;show%[_,SqT.of (ua t tm),.int t.2.1,ρ,_,SqT.of (ua t tm),.str t.2.2.1,ρ,g,qs,L,ts,lk,q,t.2.2.1,q,t.2.2.1,ρ,U.up B,G.1.within (cZ gr.sa) hz,dl,d5 G G.1,ds,tu|λl' H5 ws s5 fl hl tw few wl=>%[#[2]|λp hp=>?_]];let sp:=ah.Qa (o:= .tup [.int t.2.1,.ref l']) hp;show ky p l' _ t.2.1 t.2.2.1 t.2.2.2 ws (B.trans (s5.trans sp)) (B.free fl) ((B.trans s5).free hp) af (sp _ _ hl) (aG tw λb z e=>sp _ _ e) few wl %[ty,tu|λm e y h u=>?_];let%[v,hv|ev]:=ui h u;let%[j|hj]:=Xf hv;let jl:=(Xl hj).1;let%[b1|b2]:=O j (by rw[Z6];show jl);rw[nM hj,nM l]at b1 b2;obtain rfl:v.2.2.2=y:=by rw[ev]
  obtain rfl:v.2.1=m:=by rw[ev]
  show%[b1|λlt=>b2 (Iq uo l hj lt)]
def rE(T:Txt K mg):↥9 "why_greatest" ["ground","layer"] (Iu mg):=by
 .exists T.bq,bU,al,J,%[g,qs,L,ts,lk,z,a,rfl,U,ql,hz,G,kn|ky];let C:=U.gr;let ll:=C.ll;let%[c2,c3,c4|gr]:=C.gr;show%[_,%["JCG2F]JA0BCG3F~eA0A1BCG4F`GAF]KA0AUBA2A3BCMLabcA4BDEHtNCG5`H]L4EHjAO5]MAF]NA0AO5~dA3BB",bU.nd|J]|?_]
  change aW _ _ _ [!g,-z,eH,eH,eH,eH] H;show aj λD1 k1 _=>?_
  lk;show%[g,qs,L,ts,ρ,C,U.all|λd H1 rs an ns s1 ab Y re rn=>k1 _ _ (aj λD2 k2 _=>?_)];let re:=re.same (ab.mm U.li);lk;show%[g,c2,c3,c4,qs,L,ts,z,ρ,gr.up s1,C.nd,C.so,⋯,hz|λH2 q s2 ac=>k2 _ _ (aj λD3 k3 _=>?_)];obtain rfl:=ac.one G;let M:=s1.trans s2;lk;let ax:q∈rs\1:=(rn _).mpr ((Y.mem _).mpr %[G.1.within (cZ gr.sa) hz|d5 G G.1]);show%[g,_,qs,L,ts,ρ,C.up M,.inr rfl,ql|λl1 H3 ys s3 ao ae ya ym yl yo=>?_];let ag:=M.trans s3;show%[l1,d,_,lk,rs,ys,ρ,ae,ya,re.up (s2.trans s3),ax,λt l=>(rn _).mpr (((ym _ _ _).mp (Xp %[t,l|ρ])).in_ C Y),yl|λr H4 s4 fr I=>k3 _ _ (aj λD4 k4 r4=>?_)];let B:=ag.trans s4;let N:∀u,u∈(ys.filter λt=>if fI=fI then upB lk t.2.2.1 q else upB lk q t.2.2.1)↔u∈ys/\Up lk u.2.2.1 q:=λu=>by
   rw[n7];show W5 λ_=>pq
  let uo:=yo.sublist (Q6 (p:=λt=>if fI=fI then upB lk t.2.2.1 q else upB lk q t.2.2.1))
  generalize (ys.filter λt=>if fI=fI then upB lk t.2.2.1 q else upB lk q t.2.2.1)=us at I N uo
  let ua:oF H4 us:=λt l=>s4 _ _ (ya t ((N t).mp l).1)
  let ui:∀{n d y},YS qs "by" n d y->Up lk d q->∃t∈us,t.2=(n,d,y):=λh u=>by
   let%[t,l|e]:=Xo ((ym _ _ _).mpr h);show%[t,(N t).mpr %[l|by rw[e];show u]|e]
  lk;show%[_,.inl %[_,Qb.of I|ρ]|?_];rw[Z6];show bz (λc=>r4 _ _ (kn H4 B λn d' y h u=>?_)) λc=>k4 _ _ (aj λD5 k5 _=>?_)
  .let%[t,l|_]:=ui h u;let:=OX l
   lia
  lk;unfold Fj;lk;let it:∀{i:hH} {x:V},(us\0)[i]?∣x->∃t,us[i]?∣t/\x= .ref t.1:=λh=>by
   rw[Zl]at h;let%[t,e|rfl]:=zz.mp h;show%[t,e|ρ]
  show%[_,Qb.of I,by rw[Z6];show P7 λe=>c (Zf (by rw[e];rfl)),yrI us,λi x hx=>?_|λi x hx O=>k5 _ _ ?_]
  .let%[t,l|rfl]:=it hx;show%[t.1,_,_,t.2.2.2,ρ,ua t (Z8 l),by rw[nM l]|ρ]
  let%[t,l|rfl]:=it hx;let tm:=Z8 l;let ty:=(ym _ _ _).mp (Xp %[t,((N t).mp tm).1|rfl]);let tu:=((N t).mp tm).2;let%[dl|ds]:=(Y.mem t.2.2.1).mp (ty.in_ C Y);lk;show%[_,SqT.of (ua t tm),.int t.2.1,ρ,_,SqT.of (ua t tm),.str t.2.2.1,ρ,g,qs,L,ts,lk,t.2.2.1,q,t.2.2.1,q,ρ,U.up B,dl,G.1.within (cZ gr.sa) hz,ds,d5 G G.1,tu|λl' H5 ws s5 fl hl tw few wl=>%[#[2]|λp hp=>?_]];let sp:=ah.Qa (o:= .tup [.int t.2.1,.ref l']) hp;show ky p l' _ t.2.1 t.2.2.1 t.2.2.2 ws (B.trans (s5.trans sp)) (B.free fl) ((B.trans s5).free hp) af (sp _ _ hl) (aG tw λb z e=>sp _ _ e) few wl %[ty,tu|λm e y h u=>?_];let%[v,hv|ev]:=ui h u;let%[j|hj]:=Xf hv;let jl:=(Xl hj).1;let%[b1|b2]:=O j (by rw[Z6];show jl);rw[nM hj,nM l]at b1 b2;obtain rfl:v.2.2.2=y:=by rw[ev]
  obtain rfl:v.2.1=m:=by rw[ev]
  show%[b1|λlt=>b2 (Iq uo l hj lt)]
inductive mV (mg:ZC) (vs:ZM) (H:Hp) (Q:VK) (E:XK):Prop
 | mk (g:ij) (qs:ZN) (ls:ZB) (ts:ZG) (lk:dV ZB) (z:iv):vs=[.ref g,.str z]->iH mg H g qs ls ts->b7 (a7 qs) (ts\2) lk->(∃x,Rch lk x x)->(∀d l H' ws x,ah H H'->H d=eH->H l=eH->d≠l->q0 H' lk d l ws x->E (.ref (aP mg "Torn")) (fx d) H')->mV mg vs H Q E
def cW(T:Txt K mg):zE P w K mg base 8 "earlier_ones" ["ground"] (wq mg):=by
 let gQ:=gQ (P:=P) (w:=w) (base:=base) T;show T.aX.calX d0 (λH vs Q E h=>?_)
 .let%[g,qs,a,ts,lk,us,rfl,d,e,i|j]:=h;show%[ρ|λf b A outer s c=>?_];show%[_,QSs.h (ai (aH 1 d0.nd rfl (Em (vA λ_ _ _ h=>h) gQ c rfl rfl rfl rfl #[↑0])) vW)|?_];show%[g,qs,a,ts,lk,[],ρ,d,e,i|j]
def kb(T:Txt K mg):zE P w K mg base 9 "why_least" ["ground","layer"] (mV mg):=by
 let cW:=cW (P:=P) (w:=w) (base:=base) T;show T.bp.calX db (λH vs Q E h=>?_)
 .let%[g,qs,a,ts,lk,z,rfl,d,e,i|j]:=h;show%[ρ|λf b A outer s c=>?_];show%[_,QSs.h (ai (aH 2 db.nd rfl (Em (vA λ_ _ _ h=>h) cW c rfl rfl rfl rfl #[↑0])) vW)|?_];show%[g,qs,a,ts,lk,[],ρ,d,e,i|j]
def gW(T:Txt K mg):zE P w K mg base 9 "why_greatest" ["ground","layer"] (mV mg):=by
 let cW:=cW (P:=P) (w:=w) (base:=base) T;show T.bq.calX bU (λH vs Q E h=>?_)
 .let%[g,qs,a,ts,lk,z,rfl,d,e,i|j]:=h;show%[ρ|λf b A outer s c=>?_];show%[_,QSs.h (ai (aH 2 bU.nd rfl (Em (vA λ_ _ _ h=>h) cW c rfl rfl rfl rfl #[↑0])) vW)|?_];show%[g,qs,a,ts,lk,[],ρ,d,e,i|j]
inductive uR (mg:ZC)
 | mk (a m b dx l:ij) (lk:dV ZB) (ws ss:ZG) (x:iv) (rs:Gs iv):vs=[.ref a,.ref m,.ref b]->H a∣ExH a (aP mg "Torn") (fx dx)->q0 H lk dx l ws x->H m∣.lst (ss\0)->aI H ss->(∀k,k∈lk↔k∈ss\2)->BeF H (ss\2) b rs-> ~~~rs<=1000->x∈rs\1->(∀H',ah H H'->Q (.bl fI) H')->uR mg vs H Q E0
def sF(T:Txt K mg):↥2 "_law_is_torn" ["_law_refused_here","_law_laid","_law_beneath_here"] (uR mg):=by
 .exists T.bN,jY,aq,hr,%[a,m,b,dx,l,lk,ws,ss,x,rs,rfl,hA,d,hm,hs,le,be,rl,hx|kk];let B:∀H2,ah H H2->TyX K H2 (.ref a) (.ref (aP mg "Torn")):=λH2 s2=> .ex %[_,s2 _ _ hA|.inr %[dx,_,rfl|s2 _ _ d.ad]] T.x_Torn.is
  show%[_,%["JCMfpiY~f~&A0A?1BpiY~f`IA0A?2BviYxyA~'0A?3BEHhNCMfpY~f~&A0AjA?4A?5A?6BBvY~f~&A0AjA?7A?8A?9BBEHhNCG3~'0CMfpL`J3SBviYF]OA3A1AOP3DDAOP3DDBEHhNEHmabcA3B~I`KAog?:~%Q2d0?;w~Z0VQ10VVQ100B",jY.nd,(xK (mg:=mg) rfl rfl T.c_Torn rfl),(blE (v:= .ty "ValueError") rfl T.am PyProof.Rows.Boot.«ValueError» rfl rfl rfl),(blE (v:= .ty "list") rfl T.a5 QD rfl rfl rfl),(xK (mg:=mg) rfl rfl T.c_NoCut rfl),(xK (mg:=mg) rfl rfl T.c_NoGround rfl),(xK (mg:=mg) rfl rfl T.c_NoSaying rfl),(xK (mg:=mg) rfl rfl T.c_NoDeed rfl),(xK (mg:=mg) rfl rfl T.c_NoRow rfl),(xK (mg:=mg) rfl rfl T.c_NoLayer rfl),↑(["_law_deposit","_law_beneath_here"],[(1,2)]),↑["_law_deposit","_law_beneath_here"]|hr]|?_]
  change aW _ _ _ [!a,!m,!b,eH] H;show aj λD1 k1 r1=>?_
  lk;show%[_,B _ (ah.refl _),fI,.inl T.k_Torn_Torn|rL %[_,B _ (ah.refl _),fI,T.k_Torn_ValueError|rL %[a,dx,_,.ref l,ρ,hA,d.ad,ρ,_,.lst d.al,fI,ρ|rL (k1 _ _ (aj λD2 k2 r2=>?_))]]];lk;show%[#[3]|λp hp=>?_];let sp:=ah.Qa (o:= .tup [V.ref (aP mg "NoCut"),V.ref (aP mg "NoGround"),V.ref (aP mg "NoSaying")]) hp;show%[_,B _ sp,fS,.inr %[_,af|T.k_Torn_any0]|?_]
  generalize Qa H p _=H1 at sp
  show rL %[#[3]|λp2 ak=>?_];let G:=sp.trans (ah.Qa (o:= .tup [V.ref (aP mg "NoDeed"),V.ref (aP mg "NoRow"),V.ref (aP mg "NoLayer")]) ak);show%[_,B _ G,fS,.inr %[_,af|T.k_Torn_any1]|?_]
  generalize Qa H1 p2 _=H2 at G
  show rL (k2 _ _ (aj λD3 k3 r3=>?_));lk;show%[a,dx,_,.ref l,ρ,G _ _ hA,G _ _ d.ad,ρ|k3 _ _ (aj λD4 k4 r4=>?_)];lk;show%[Xe _|λp3 al=>?_];let U:=G.trans (ah.Qa (o:= .lst []) al);show%[_,U _ _ d.al,af|?_]
  generalize Qa H2 p3 _=H3 at U
  obtain⟨C,wr,rfl⟩:∃C wr,ws=C::wr:=match ws,d.sho.pos with|C::wr,_=>%[C,wr|rfl]
  rw[hX ∅];let l3:=U _ _ d.al;let ab:=d.sho.wal;let t0:SqT K H3 C.1 (C.2\3):=SqT.of (U _ _ (d.tu C Zm).2);let e0:atI (C.2\3) 0∣.str x:=by
   let%[c,z,ew|_]:=ab;rw[show C.2=[x,c,z]from ew];rfl
  let i0:atI ((C::wr)\0) 0∣.ref C.1:=bG (j:=0) rfl;show%[_,Qb.of l3,_,i0,_,t0,_,e0,_,Qb.of l3,_,i0,_,t0,_,e0,l,m,x,x,C::wr,ss,ρ,l3,aG d.tu (λb z e=>U _ _ e),U _ _ hm,aG hs (λb z e=>U _ _ e),(λt ht=>(le _).mp (d.sho.sub _ (Xp %[t,ht|ρ]))),ab,d.len|λH4 s4=>(k4 _ _ ?_)];let s4:=U.trans s4;lk;let ac:=be.up s4;let%[o|ho]:=ac.at_;show%[_,.inl %[_,Qb.of (s4 _ _ d.al)|ρ]|aN λap hK=>?_];unfold xH;lk;show%[_,_,ho|hK _ _ λF hF=>?_];let gl: ~~~(gD rs)= ~~~rs:=Z6 _;show dM (J:=Itk b o (gD rs)) (n:= ~~~(gD rs)) (D:=F) (λi ts σ H'=>A4 (∃o1,σ=[o1,!b]) (ah H4 H') (H' F<*ts) (∃L:ZL,A4 (ts=L\4) (~~~L<=i) (∀n∈L,∃y k,n=((k+1:hH):nX)/\Dst (ss\2) y (k+1) y) (∀r∈rs.take i,Rch (ss\2) r.1 r.1->∃n∈L,∀m,Dst (ss\2) r.1 (m+1) r.1->n<=((m+1:hH):nX))))
   %[%[eH|rfl],ah.Qa hF,af,[],rfl,Zi _,(λ_ h=>nomatch h)|λ_ h=>nomatch h] (λi _ _ H' hi ⟨_,N,_,_⟩=>%[N _ _ ho|hi]) (λ_ _ H' ⟨_,N,_,_⟩=>%[N _ _ ho|Zi _]) ?_ ?_
  .intro i ts σ H' hi %[%[o1|rfl],N,O,L,rfl,nl,n1|n2] x H2 %[e2,k,v,hk|hx];subst e2;let il:i< ~~~rs:=by lia
   obtain⟨r,I⟩:∃r,rs[i]?∣r:=%[_|Z4 il]
   let an:(gD rs)[i]?∣(hY r.1,V.ref r.2.1):=by unfold gD;rw[Zl,I];rfl
   rw[an]at hk;cases hk;obtain rfl:x=V.str r.1:=hx;let%[a,M,ga,%[g,ha|ao],_|hM]:=(ac.up N).get (Xp %[r,Z8 I|rfl]);let tk:rs.take (i+1)=rs.take i++[r]:=by rw[X9,I];rfl
   let Y:=cg.k (k:=hY r.1) ha;lk;show%[_,ga,_,Y|bz (λc=>?_) λc=>CN.mk hi %[%[_|ρ],N,O,L,ρ,⋯,n1|λq hq h=>?_]]
   .let ae:=nJ.mp c;let%[n,en,d1|d2]:=ao _ ae;rw[iG ae]at Y;show%[_,ga,_,Y|CK.mk hi O (by rw[Z6];show aF ⋯) %[%[_|ρ],ah.set N hF,af,L++[g r.1],by rw[Zd];rfl,by rw[Z9];show X8 nl,λz hz=>?_|λq hq h=>?_]]
    .rcases Xm hz with u|u
     .show n1 z u
     .rw[Xn u];show%[_,n,en|d1]
    .rw[tk]at hq;rcases Xm hq with u|u
     .let%[z,hz|q2]:=n2 q u h;show%[z,Yu _ hz|q2]
     .rw[Xn u];show%[_,Yv _ Zm|λm hm=>by rw[en];let:=d2 m hm;lia]
   .rw[tk]at hq;rcases Xm hq with u|u
    .show n2 q u h
    .rw[Xn u]at h;show(c (nJ.mpr ((hM _).mpr h))).elim
  .intro ts σ H' %[_,N,O,L,rfl,nl,n1|n2];rw[gl,Xc]at n2;let%[k,ek|Y]:=d.sho.dst;rw[jZ le]at Y;let%[r,I|rfl]:=Xo hx;let%[n,hn|ag]:=n2 r I Y.rch;let nk:=ag _ Y;rw[Z6]at ek;show%[L,Qb.of O,OX hn|λq hq qm=>?_];let%[y,k2,rfl|d2]:=n1 q hq;let a1:=qm n hn;let a2:=d.min y k2 (by rw[jZ le];show d2);rw[Zf (by rw[Z6];lia)];show kk _ (s4.trans N)
def HK{e:ZB}{vs:ZM}(h:mJ e vs):∃w a v,vs=[.str w,.str a,v]/\a∈e/\(w="since"\/w="by"->∃y,v= .int y):=by
 rcases h with⟨w,a,b,rfl,hw,d,_⟩|⟨w,a,y,rfl,_,d,_⟩
 .show%[w,a,_,ρ,d|λc=>?_];rcases hw with rfl|rfl<;> rcases c with c|c<;> show m4 c (!1)
 .show%[w,a,_,ρ,d|λ_=>%[y|ρ]]
abbrev ltW(a:iv)(x y:nX):Prop:=(a="since"/\x<y)\/(a="by"/\y<x)
abbrev mW(qs:ZN)(a:iv)(up:iv->Prop)(i:hH)(v:V):Prop:=
 (v= .non/\∀m e z,m<i->YS qs a m e z-> ¬ up e)\/∃(n:hH) (d:iv) (y:nX),v= .int n/\n<i/\YS qs a n d y/\up d/\∀m e z,m<i->YS qs a m e z->up e-> ¬ ltW a y z/\(m<n->ltW a z y)
def yL{x y:nX}:ltW "since" x y↔x<y:=%[λh=>h.elim (·.2) λh=>m4 h.1 (!1)|λh=> .inl %[rfl|h]]
def yM{x y:nX}:ltW "by" x y↔y<x:=%[λh=>h.elim (λh=>m4 h.1 (!1)) (·.2)|λh=> .inr %[rfl|h]]
def Bu{qs:dV _}{c d e:iv}{n:hH}{y z:nX}(h:YS qs c n d y)(g:YS qs c n e z):e=d/\z=y:=by
 let%[q,a,j,o|l]:=h;let%[p,b,f,i|m]:=g;rw[j]at f;cases f;rw[o]at i;cases i;show%[m.one l|ρ]
def mW.skip{qs:dV _}{a:iv}{up:iv->Prop}{i:hH}{v:V}(h:mW qs a up i v)(n:∀e z,YS qs a i e z-> ¬ up e):mW qs a up (i+1) v:=by
 let st:∀{m e z},m<i+1->YS qs a m e z->up e->m<i:=λ{m e z} l y u=>UT (hH.le_of_lt_succ l) λc=>n e z (c▸y) u
 rcases h with⟨rfl,h⟩|⟨k,d,y,rfl,l,ys,u,h⟩
 .show .inl %[rfl|λm e z l y u=>h m e z (st l y u) y u]
 .show .inr %[k,d,y,rfl,Yn l,ys,u|λm e z l y u=>h m e z (st l y u) y u]
def mW.turn{qs:dV _}{a:iv}{up:iv->Prop}{i:hH}{v:V}{d:iv}{y:nX}(hw:a="since"\/a="by")(h:mW qs a up i v)(ys:YS qs a i d y)(u:up d):
 (v= .non/\mW qs a up (i+1) (.int i))\/∃(n:hH) (e:iv) (z:nX),v= .int n/\YS qs a n e z/\(ltW a z y->mW qs a up (i+1) (.int i))/\(¬ ltW a z y->mW qs a up (i+1) v):=by
 let o:∀x,¬ ltW a x x:=λx=>by rcases hw with rfl|rfl<;> simp[yL,yM]
 rcases h with⟨rfl,h⟩|⟨n,e,z,rfl,l,zs,w,h⟩
 .show .inl %[rfl|.inr %[i,d,y,rfl,Yo i,ys,u|λm e z l g w=>?_]];by_cases c:m=i
  .subst c;let%[_|rfl]:=Bu ys g;show%[o _|λc=>m4 c (Xj _)]
  .show m4 w (h m e z ⋯ g)
 .show .inr %[n,e,z,rfl,zs,λlt=> .inr %[i,d,y,rfl,Yo i,ys,u|λm b f p g j=>?_]|λnl=> .inr %[n,e,z,rfl,Yn l,zs,w|λm b f p g j=>?_]]
  .by_cases c:m=i
   .subst c;let%[_|rfl]:=Bu ys g;show%[o _|λc=>m4 c (Xj _)]
   .let:=(h m b f ⋯ g j).1;rcases hw with rfl|rfl<;> simp only[yL,yM]at* <;> show%[⋯|λ_=>by lia]
  .by_cases c:m=i
   .subst c;let%[_|rfl]:=Bu ys g;show%[nl|λc=>by lia]
   .show h m b f ⋯ g j
abbrev FU(K:ZA):Sp:=λvs H Q _=>∃(a d l:ij) (b:iv) (qs:ZN) (e c ds:ZB) (f:iv->iv),vs=[.ref a,.str b,.ref d,.ref l]/\H a∣.lst (qs\0)/\cV H e qs/\(b="since"\/b="by")/\H d∣.dK (NmD c f)/\(∀z∈e,z∈c)/\(∀z∈c,bE (a7 qs) z (f z))/\H l<*ds\3/\∀v H',ah H H'->mW qs b (·∈ds) qs.length v->Q v H'
def oG(T:Txt K mg):↥1 "_law_first" ["_law_sayings","_law_word","_law_homes_here","_law_those"] (FU K):=by
 .exists T.bO,dP,ac,hr,%[a,d,l,r,qs,ls,ms,ds,M,rfl,I,sa,hw,hd,lm,lg,hl|kk];let ga:∀{H':Hp},ah H H'->∀z∈ls,cg H' d (.str z) (fx (.str (M z))):=λ{H'} g z hz=>by
   let:=cg.k (k:=hY z) (g _ _ hd);rwa[gO (lm z hz)]at this
  let qn:∀{i:hH} {x:V},(qs\0)[i]?∣x->∃q,qs[i]?∣q/\x= .ref q.1:=λ{i x} h=>by
   rw[Zl]at h;let%[q,e|rfl]:=zz.mp h;show%[q,e|ρ]
  show%[_,%["JCG4tCT~FA0BnRK5RK6kEMf)LaO6D1*L~_V2O6D3EMfpL~B4tvf)La1U*L<O6DOP04DEG45EMf)La1U*L~LO6DOP04DEG45NNEH4",dP.nd|hr]|?_]
  change aW _ _ _ [!a,-r,!d,!l,eH,eH,eH] H;show aj λD1 k1 _=>?_
  lk;show k1 _ _ (aj λD2 k2 r2=>aB λab hK=>?_);lk;show%[_,Qb.of I|hK _ _ (iM (λi J H'=>E3 λv N O=>A3 (J=[!a,-r,!d,!l,fx v,N,O]) (ah H H') (mW qs r (·∈ds) i v))
   %[_,_,_,ρ,ah.refl _|.inl %[ρ|λ_ _ _ h=>nomatch h]] (λi J H' _ ⟨_,_,_,_,g,_⟩=>Qb.of (g _ _ I)) ?_ ?_)]
  .intro i x TT J H' hx %[v,N,O,rfl,g|B] hT;let%[q,U|rfl]:=qn hx;let b:=g.trans (ah.Qa (o:= .tup [.int i,.ref q.1]) hT);let gT:Qa H' TT (.tup [.int i,.ref q.1]) TT∣_:=af
   generalize Qa H' TT _=H1 at b gT
   show%[_,SqT.of gT,ρ,_,_,ρ,_,_,ρ,ρ|?_];change kY _ _ _ _ [!a,-r,!d,!l,fx v,fx (.int i),fx (.ref q.1)] H1;show aE λD3 j r3=>?_
   let%[m|oq]:=sa q (Z8 U);let%[w1,C,v1,Y,G|hy]:=HK oq;let m:=b _ _ m;rw[Y]at m;lk;show%[_,SqT.of m,.str w1,ρ,ρ|bz (λc1=>?_) λc1=>j _ _ %[_,_,_,ρ,b|B.skip λe z h _=>c1 ?_]]
   .obtain rfl:=V.str.inj (Zo c1);let%[y|rfl]:=hy hw;let ys:YS qs w1 i (M C) y:=%[q,C,U,Y|lg C (lm C G)]
    show%[_,SqT.of m,_,ρ,_,ga b C G,_,.inl (Qb.of (b _ _ hl)),ρ,uG ds|?_];rw[AW];show bz (λc2=>?_) λc2=>j _ _ %[_,_,_,rfl,b|B.skip λe z h u=>c2 (Zf ((Bu ys h).1▸u))]
    rcases B.turn hw ys (Zo c2)with⟨rfl,fn⟩|⟨n,e,z,rfl,⟨p,a2,ep,L,_⟩,fy,fn⟩
    .rw[jg ∅];show j _ _ %[_,_,_,rfl,b|fn]
    rw[hX ∅];let tp:=b _ _ (sa p (Z8 ep)).1;rw[L]at tp;let ap:atI (qs\0) (n:nX)∣V.ref p.1:=bG (by rw[Zl,ep];rfl);rcases hw with rfl|rfl
    .rw[jg (!1)];show%[_,SqT.of m,.int y,ρ,_,Qb.of (b _ _ I),_,ap,_,SqT.of tp,.int z,ρ|bz (λc=>?_) λc=>?_]
     .show j _ _ %[_,_,_,rfl,b|fy (yL.mpr (Zo c))]
     .rw[hX (!1)];show j _ _ %[_,_,_,rfl,b|fn λl=>c (Zf (yL.mp l))]
    .show%[_,SqT.of m,.int y,ρ,_,Qb.of (b _ _ I),_,ap,_,SqT.of tp,.int z,ρ|bz (λc=>?_) λc=>?_]
     .show j _ _ %[_,_,_,rfl,b|fy (yM.mpr (Zo c))]
     .show j _ _ %[_,_,_,rfl,b|fn λl=>c (Zf (yM.mp l))]
   .let%[q',a',e1,L|_]:=h;rw[U]at e1;cases e1;rw[Y]at L;cases L;show Zf rfl
  .intro J H' %[v,N,O,rfl,g|B];show k2 _ _ ?_;lk;show kk v H' g (by rwa[Z6]at B)
inductive yN
 | mk (t l m:ij) (n:hH) (a b:iv) (ws ss:ZG):vs=[.ref t,.int n,.ref m,.str a,.str b,.int ws.length]->H t&&&[.int n,.ref l]->H l∣.lst (ws\0)->aI H ws->H m∣.lst (ss\0)->aI H ss->(∀t∈ws,t.2∈ss\2)->Wal (ws\2) a b-> ~~~ws<=300->(∀H',(∀k o,k≠l->H k∣o->H' k∣o)->Q (.bl fI) H')->yN vs H Q E0
def oH(T:Txt K mg):↥2 "_law_right" ["_law_told","_law_number","_law_laid","_law_one","_law_other","_law_many"] yN:=by
 .exists T.bP,v9,i,j,%[t,l,m,n,a,b,ws,ss,rfl,c,e,hw,p,q,sub,g,r|u];show%[_,%["JCMfpiYxyA0A?1BpL$bcA0BDpL$O0D1vYxyAO0DA?2BEHhNCMfpiYF]OAO0DA2A3A4BvL$bcAO0DB5EHhNCZslO0DAtBEHh",0,(blE (v:= .ty "tuple") rfl T.ag TV rfl rfl rfl),(blE (v:= .ty "bool") rfl T.ai boot_bool rfl rfl rfl)|j]|?_]
  change aW _ _ _ [!t,fx (.int n),!m,-a,-b,fx (.int ws.length)] H;show aj λz k1 B=>?_
  lk;show%[_,.tup c,fI,ρ|rL %[_,.inr %[_,SqT.of c|ρ]|?_]];rw[hX ∅];show%[_,SqT.of c,.int n,ρ,ρ|?_];rw[hX ∅];show%[_,SqT.of c,.int n,ρ,_,.int _,fS,ρ|rL (k1 _ _ (aj λC k2 G=>?_))];lk;show%[_,SqT.of c,.ref l,ρ,l,m,a,b,ws,ss,ρ,e,hw,p,q,sub,g,r|λI d=>%[_,SqT.of (d _ _ c),.ref l,ρ,_,.inl %[_,Qb.of (d _ _ e)|ρ]|?_]];rw[Z6,hX ∅];show k2 _ _ (aj λJ y L=>?_);lk;show%[_,SqT.of (d _ _ c),.ref l,ρ,.inl %[ρ,_|Qb.of (d _ _ e)],_,d _ _ e,by rw[Z6];show aF ⋯|y _ _ ?_];show u _ λk o ne h=>by rw[av ne];show d _ _ h
def mW.one{qs:dV _}{a:iv}{up b:iv->Prop}{lt:nX->nX->Prop}{n:hH}{d:iv}{y:nX}{v:V}(h:mW qs a up qs.length v)(g:Fir qs a b lt n d y)(e:∀n d y,YS qs a n d y->(up d↔b d))(l:∀{x y},lt x y↔ltW a x y):v= .int n:=by
 let%[ys,u|g]:=g;let i:∀{n d y},YS qs a n d y->n< ~~~qs:=λ⟨_,_,q,_⟩=>(Xl q).1
 rcases h with⟨rfl,h⟩|⟨m,z,A,rfl,_,f,o,h⟩
 .show m4 ((e _ _ _ ys).mpr u) (h _ _ _ (i ys) ys)
 .let%[p|r]:=h _ _ _ (i ys) ys ((e _ _ _ ys).mpr u);let%[j|s]:=g _ _ _ f ((e _ _ _ f).mp o);rw[l]at j;rcases RO m n with c|c|c
  .show m4 (l.mp (s c)) p
  .rw[c]
  .show m4 (r c) j
def mW.none{qs:dV _}{c:iv}{up a:iv->Prop}{i:hH}{v:V}(h:mW qs c up i v)(g:∀n d y,YS qs c n d y-> ¬ a d)(e:∀n d y,YS qs c n d y->(up d↔a d)):v= .non:=by
 rcases h with⟨rfl,h⟩|⟨m,j,l,rfl,_,b,f,h⟩
 .rfl
 .show m4 ((e _ _ _ b).mp f) (g _ _ _ b)
def Bv{ks us:dV _}{a b:iv}{M:ZB}{g:iv->nX}(f:Few ks a b us)(nr: ¬ Rch ks a a)(h:Far ks a M g)(i:∀y,y∈M↔Rch ks a y):(cf (VD M λx=> .int (g x)) (hY b)).getD (.int 0)= .int us.length:=by
 rcases f with⟨rfl,rfl⟩|j
 .rw[iy λc=>nr ((i _).mp c)];rfl
 .let%[n,p|l]:=j.dst;let o:=(i _).mpr l.rch;let%[m,e,d|q]:=h _ o;rw[iG o,e,p];let:=q _ l;let:=j.min _ d;rw[show m=n by lia];rfl
def Bw{ks us:dV _}{a b:iv}(f:Few ks a b us):(∀k∈us,k∈ks)/\Wal us a b:=by
 rcases f with⟨rfl,rfl⟩|c
 .show%[λ_ h=>(nomatch h)|ρ]
 .show%[c.sub|c.wal]
def BeF.gets{H:Hp}{ks:dV ZB}{d:ij}{rs:Gs iv}(h:BeF H ks d rs){x:iv}(b:x∈rs\1):∃a M,(∀H',ah H H'->cg H' d (.str x) (fx (.ref a)))/\(∃g:iv->nX,H a∣.dK (VD M λx=> .int (g x))/\Far ks x M g)/\M.Nodup/\∀y,y∈M↔Rch ks x y:=by
 let%[o|c]:=h.at_;let%[r,e,rfl|f]:=j3 b;show%[r.2.1,r.2.2,λH' s=> .inl %[_,hY r.1,.inr %[o|s _ _ c],ρ|f.symm]|h.in_ r e]
def yO{ks:dV _}{a:iv}{M:ZB}(nd:M.Nodup)(b:∀y,y∈M->Rch ks a y): ~~~M<= ~~~ks:=by
 rw[<-Z6 (as:=ks) (f:=λk=>k.getD 1 "")];show _ST.nodup_sub nd λy c=>?_
 let%[n|h]:=(b y c).dst;let%[x,_,z|d]:=h.last;show Xp %[_,d|rfl]
structure mX (mg:ZC) (H:Hp) (g a d m b:ij) (qs:ZN) (ls:ZB) (ts ss:ZG) (ms:ZB) (gm:iv->iv) (rs:Gs iv):Prop where
 ak:kX mg H g qs ls ts (ss\2)
 ql: ~~~qs<=60
 ha:H a∣.lst (qs\0)
 hd:H d∣.dK (NmD ms gm)
 lm:∀z∈ls,z∈ms
 lg:∀z∈ms,bE (a7 qs) z (gm z)
 hm:H m∣.lst (ss\0)
 hs:aI H ss
 sl: ~~~ss<=250
 be:BeF H (ss\2) b rs
 rn:∀x,x∈rs\1↔∃z∈ms,gm z=x
 rl: ~~~rs<=1000
def mX.up{mg:ZC}{H H':Hp}{g a d m b:ij}{qs:dV _}{c:ZB}{ts ss:dV _}{f:ZB}{i:iv->iv}{rs:Gs iv}(h:mX mg H g a d m b qs c ts ss f i rs)(s:ah H H'):mX mg H' g a d m b qs c ts ss f i rs:=
 %[h.ak.up s,h.ql,s _ _ h.ha,s _ _ h.hd,h.lm,h.lg,s _ _ h.hm,aG h.hs λb z e=>s _ _ e,h.sl,h.be.up s,h.rn|h.rl]
def mX.nm{mg:ZC}{H:Hp}{g a d m b:ij}{qs:dV _}{c:ZB}{ts ss:dV _}{f:ZB}{e:iv->iv}{rs:Gs iv}(h:mX mg H g a d m b qs c ts ss f e rs){z:iv}(i:z∈c):cg H d (.str z) (fx (.str (e z))):=by
 let:=cg.k (k:=hY z) h.hd;rwa[gO (h.lm z i)]at this
inductive FV (mg:ZC)
 | mk (g a d m b:ij) (z:iv) (qs:ZN) (ls:ZB) (ts ss:ZG) (ms:ZB) (gm:iv->iv) (rs:Gs iv):vs=[.ref g,.str z,.ref a,.ref d,.ref m,.ref b]->mX mg H g a d m b qs ls ts ss ms gm rs->z∈ls->(∀H',ah H H'->Q (.bl fI) H')->FV mg vs H Q E0
def mY(T:Txt K mg):↥10 "_law_least_right" ["_law_ground_here","_law_layer","_law_sayings","_law_homes_here","_law_laid","_law_beneath_here"] (FV mg):=by
 .exists T.bQ,cr,ak,r,%[g,a,d,m,b,z,qs,N,ts,ss,ms,i,rs,rfl,lo,J|kk];let%[c2,c3,c4|gr]:=lo.ak.gr.gr;let own:=lo.lg z (lo.lm z J);let%[b2,M,gb,%[fr,u|O],Mn|U]:=lo.be.gets ((lo.rn (i z)).mpr %[z,lo.lm z J|rfl]);let eu:∀x,x∈i z::M↔Up (ss\2) (i z) x:=λx=>by
   rw[Yw,U];show or_congr_left eq_comm
  show%[_,%["JCG6V31CG7F]PA2AUA3AI~QSA6B+`LAV56BBCG8F`MA0A1BCML~B7tEHm~B8tNCG9V3OP27DEHF]QA8A7A4A6A9A[~AV56A9ADBB",cr.nd|r]|?_]
  change aW _ _ _ [!g,-z,!a,!d,!m,!b,eH,eH,eH,eH] H;show aj λD1 k1 _=>?_
  lk;show%[_,lo.nm J|k1 _ _ (aj λD2 k2 _=>?_)];lk;show%[#[1]|λY ab=>?_];let L:=ah.Qa (o:= .lst [V.str (i z)]) ab;let C:Qa H Y (.lst [V.str (i z)]) Y∣_:=af
  generalize Qa H Y _=H1 at L C
  show%[_,gb _ L,_,.inl (L _ _ u),M,by simp[VD]|λp2 G=>?_];let s2:=L.trans (ah.Qa (o:= .lst (M\3)) G);let ac:=ah.Qa (o:= .lst (M\3)) G;let g2:Qa H1 p2 (.lst (M\3)) p2∣_:=af;replace C:=ac _ _ C
  generalize Qa H1 p2 _=H2 at s2 C g2
  show%[_,C,_,g2,?_|λp3 ae=>?_]
  .let:=yO Mn λy h=>(U y).mp h
   let:=lo.sl;simp only[Z6,Zr,TK]at*;show Yf (aF ⋯)
  let s3:=s2.trans (ah.Qa (o:= .lst ([V.str (i z)] ++M\3)) ae);let g3:Qa H2 p3 _ p3<*(i z::M)\3:=af;let lo3:=lo.up s3;show%[a,d,p3,"since",qs,N,ms,i z::M,i,ρ,lo3.ha,(gr.up s3).sa,.inl rfl,lo3.hd,lo.lm,lo.lg,g3|λv H4 B fi=>k2 _ _ (aj λD3 k3 _=>?_)];let B:=s3.trans B;let ag:=lo.up B;lk;show%[g,qs,N,ts,_,z,i z,ρ,ag.ak,lo.ql,J,own,λH5 j no=>k3 _ _ (aj λD4 k4 r4=>?_)|λt l H5 n d' y ws j fl ft ht hl tw few wl I=>k3 _ _ (aj λD4 k4 r4=>?_)]
  .obtain rfl:=fi.none no λ_ _ _ _=>eu _
   lk;simp only[Vq,Pk];show r4 _ _ (kk _ (B.trans j))
  obtain rfl:=fi.one I (λ_ _ _ _=>eu _) yL.symm;lk;let j:=B.trans j;let p:=lo.up j;let%[%[q,x,eq,ev|xl],_|_]:=I;let%[hq|xm]:=wx (gr.up j).sa (Z8 eq) ev;let aq:atI (qs\0) (n:nX)∣V.ref q.1:=bG (by rw[Zl,eq];rfl);obtain rfl:=(lo.lg x (lo.lm x xm)).one xl;show k4 _ _ (aj λD5 k5 _=>?_);lk;show%[_,Qb.of p.ha,_,aq,_,SqT.of hq,.str x,ρ,_,p.nm xm|k5 _ _ ?_];lk;let%[f1|f2]:=Bw few;show%[_,gb _ j,.inr (.inr (.inl %[ρ|.inl %[_|j _ _ u]])),hY (i x),ρ,_,j _ _ u,t,l,m,n,i z,i x,ws,ss,?_,ht,hl,tw,p.hm,p.hs,λt ht=>f1 _ (Xp %[t,ht|ρ]),f2,wl|λH6 s6=>kk _ λk o e=>s6 k o (λc=>?_) (j _ _ e)]
  .rw[Bv few (lo.ak.nr _) O U,Z6]
  .rw[c,ah.free B fl]at e;cases e
def mX.dep{mg:ZC}{H:Hp}{g a d m b:ij}{qs:ZN}{e:ZB}{ts ss:ZG}{f:ZB}{i:iv->iv}{rs:Gs iv}(h:mX mg H g a d m b qs e ts ss f i rs){j x:iv}{n:hH}{y:nX}(ys:YS qs j n x y):x∈rs\1:=by
 let%[q,z,o,p|l]:=ys;let%[_,_,_|r]:=h.ak.gr.gr;let%[_|c]:=wx r.sa (Z8 o) p;show(h.rn x).mpr %[z,h.lm z c|(h.lg z (h.lm z c)).one l]
def ke(T:Txt K mg):↥10 "_law_greatest_right" ["_law_ground_here","_law_layer","_law_sayings","_law_homes_here","_law_laid","_law_beneath_here"] (FV mg):=by
 .exists T.bR,bi,as,C,%[g,a,d,m,b,z,qs,ls,ts,ss,ms,j,rs,rfl,lo,hz|kk];let%[c2,c3,c4|gr]:=lo.ak.gr.gr;let own:=lo.lg z (lo.lm z hz);let%[o|ho]:=lo.be.at_;show%[_,%["JC.6qrV31C~S7rqg?1~%Q5d0?2w~ZQ1VQ200CG8F]PA2AUA3AI~QSAQ6B7BCG9F`NA0A1BCML~B8tEHm~B9tNCG:V3OP28DEHF]QA9A8A4A,:AQ6A[~AVQ5,:AQ6ADBB",bi.nd,(show bJ (ar dH) ["_law_ground_here","_law_layer","_law_sayings","_law_homes_here","_law_laid","_law_beneath_here","_law_own","_law_above","_law_number","_law_told","_law_other"] _ ["_law_deposit","_law_own","_law_beneath_here"] [(1,6),(2,5)]=fI from !0),↑["_law_deposit","_law_own","_law_beneath_here"]|C]|?_]
  change aW _ _ _ [!g,-z,!a,!d,!m,!b,eH,eH,eH,eH,eH] H;show aj λD1 k1 _=>?_
  lk;show%[_,lo.nm hz|k1 _ _ (aj λD2 k2 _=>?_)];lk;show aN λap hK=>?_
  unfold xH;lk;show%[_,_,ho|hK _ _ λF hF=>?_];let gl: ~~~(gD rs)= ~~~rs:=Z6 _;show dM (J:=Itk b o (gD rs)) (n:= ~~~(gD rs)) (D:=F) (λi ts σ H'=>A3 (∃o1,σ=[o1,fx (.str (j z)),!b]) (ah H H') (A3 (H' F<*ts) (~~~ts<=i) (∃ds:ZB,ts=ds\3/\∀x,x∈ds↔x∈(rs.take i)\1/\Rch (ss\2) x (j z))))
   %[%[eH|rfl],ah.Qa hF,af,Zi _,[],rfl|λx=>by simp] (λi _ _ H' hi ⟨_,G,_⟩=>%[G _ _ ho|hi]) (λ_ _ H' ⟨_,G,_⟩=>%[G _ _ ho|Zi _]) ?_ ?_
  .intro i ts σ H' hi %[%[o1|rfl],G,O,tl,ds,rfl|U] x H2 %[e2,k,v,hk|hx];subst e2;let il:i< ~~~rs:=by lia
   obtain⟨r,I⟩:∃r,rs[i]?∣r:=%[_|Z4 il]
   let ae:(gD rs)[i]?∣(hY r.1,V.ref r.2.1):=by unfold gD;rw[Zl,I];rfl
   rw[ae]at hk;cases hk;obtain rfl:x=V.str r.1:=hx;let%[a1,M,ga,%[g1,ha|_],_|hM]:=(lo.be.up G).get (Xp %[r,Z8 I|rfl]);let tk:∀x,x∈(rs.take (i+1))\1↔x∈(rs.take i)\1\/x=r.1:=λx=>by rw[X9,I];simp
   lk;show%[_,ga,_,.inl %[_,hY (j z),.inl ha,ρ|ρ]|bz (λc=>CK.mk hi O (aF (by let:=lo.rl;lia)) %[%[_|ρ],ah.set G hF,af,by rw[Z9];show X8 tl,ds++[r.1],by rw[Zd];rfl|λx=>?_]) λc=>CN.mk hi %[%[_|ρ],G,O,⋯,ds,ρ|λx=>?_]]
   .rw[tk,Yt,U,Yy];let:=(hM _).mp (nJ.mp c);show%[λh=>h.elim (λh=>%[.inl h.1|h.2]) λh=>%[.inr h|h▸this]|λ⟨h,u⟩=>h.imp (λh=>%[h|u]) id]
   .rw[tk,U];show%[λh=>%[.inl h.1|h.2]|λ⟨h,u⟩=>%[h.elim id λe=>(c (nJ.mpr ((hM _).mpr (e▸u)))).elim|u]]
  .intro ax σ H1 %[_,s1,ag,tl,ds,rfl|U];rw[gl]at tl;rw[gl,Xc]at U;let eu:∀n x y,YS qs "by" n x y->(x∈j z::ds↔Up (ss\2) x (j z)):=λn x y ys=>by
    rw[Yw,U];show QB Od %[λh=>h.2|λh=>%[lo.dep ys|h]]
   show k2 _ _ (aj λD3 k3 _=>?_);lk;show%[#[1]|λp2 ak=>?_];let Y:=ah.Qa (o:= .lst [V.str (j z)]) ak;let s2:=s1.trans Y;let g2:Qa H1 p2 (.lst [V.str (j z)]) p2∣_:=af;let ab:=Y _ _ ag
   generalize Qa H1 p2 _=H2 at s2 g2 ab
   show%[_,g2,_,ab,?_|λp3 al=>?_]
   .let:=lo.rl;simp only[Z6,Zr,TK]at*;show Yf (aF ⋯)
   let s3:=s2.trans (ah.Qa (o:= .lst ([V.str (j z)] ++ds\3)) al);let g3:Qa H2 p3 (.lst ([V.str (j z)] ++ds\3)) p3<*(j z::ds)\3:=af;let lo3:=lo.up s3;show%[a,d,p3,"by",qs,ls,ms,j z::ds,j,ρ,lo3.ha,(gr.up s3).sa,.inr rfl,lo3.hd,lo.lm,lo.lg,g3|λv H4 N fi=>k3 _ _ (aj λD4 k4 _=>?_)];let N:=s3.trans N;let an:=lo.up N;lk;show%[g,qs,ls,ts,_,z,j z,ρ,an.ak,lo.ql,hz,own,λH5 p no=>k4 _ _ (aj λD5 k5 r5=>?_)|λt l H5 n d' y ws p fl ft ht hl tw few wl L=>k4 _ _ (aj λD5 k5 r5=>?_)]
   .obtain rfl:=fi.none no eu;lk;simp only[Vq,Pk];show r5 _ _ (kk _ (N.trans p))
   obtain rfl:=fi.one L eu yM.symm;lk;let p:=N.trans p;let B:=lo.up p;let dep:=lo.dep L.1;let%[%[q,x,eq,ev|xl],_|_]:=L;let%[hq|xm]:=wx (gr.up p).sa (Z8 eq) ev;let aq:atI (qs\0) (n:nX)∣V.ref q.1:=bG (by rw[Zl,eq];rfl);obtain rfl:=(lo.lg x (lo.lm x xm)).one xl;show k5 _ _ (aj λD6 k6 _=>?_);lk;let%[b2,M,gb,%[fr,ac|ao],_|hM]:=lo.be.gets dep;let%[f1|f2]:=Bw few;show%[_,Qb.of B.ha,_,aq,_,SqT.of hq,.str x,ρ,_,B.nm xm|k6 _ _ ?_];lk;show%[_,gb _ p,.inr (.inr (.inl %[ρ|.inl %[_|p _ _ ac]])),hY (j z),ρ,_,p _ _ ac,t,l,m,n,j x,j z,ws,ss,?_,ht,hl,tw,B.hm,B.hs,λt ht=>f1 _ (Xp %[t,ht|ρ]),f2,wl|λH6 s6=>kk _ λk o e=>s6 k o (λc=>?_) (p _ _ e)]
   .rw[Bv few (lo.ak.nr _) ao hM,Z6]
   .rw[c,ah.free N fl]at e;cases e
inductive rF (mg:ZC)
 | mk (g m b:ij) (z:iv) (qs:ZN) (ls:ZB) (ts ss:ZG) (rs:Gs iv):vs=[.ref g,.str z,.ref m,.ref b]->iH mg H g qs ls ts->b7 (a7 qs) (ts\2) (ss\2)->(∃x,Rch (ss\2) x x)->H m∣.lst (ss\0)->aI H ss->BeF H (ss\2) b rs-> ~~~rs<=1000->(∀x,Rch (ss\2) x x->x∈rs\1)->(∀H',ah H H'->Q (.bl fI) H')->rF mg vs H Q E0
def sG(T:Txt K mg):↥10 "_law_refused" ["_law_ground_here","_law_layer","_law_laid","_law_beneath_here"] (rF mg):=by
 let kb:=kb (P:=P) (w:=w) (base:=base) T;let gW:=gW (P:=P) (w:=w) (base:=base) T;show T.bS.cal dJ (λH vs Q E h=>?_)
 .let%[g,m,b,z,qs,ls,ts,ss,rs,rfl,hg,O,hx,hm,hs,be,rl,U|kk]:=h;show%[ρ|λf ac A outer s N=>?_];show%[_,%["JCTWSADADADBK4CG5tC?1CMiYF`OA5A2A3BEHhNEZ`P`Q~'5EHh",dJ.nd,(tryE (i:=6) rfl rfl dJ.nd rfl rfl rfl rfl T.c_DigError T.t_DigError rfl (λ_ _=>
    (au (ifS (bg cn rfl ↑4 az)
     (au (bK rfl (Ig t9 kb N rfl rfl rfl rfl #[↑0,↑1])))
     (au (bK rfl (Ig t9 gW N rfl rfl rfl rfl #[↑0,↑1]))))))
    (λ_=>(au (aH 5 dJ.nd rfl ↑6))))|N]|?_]
  change aW _ _ _ [!g,-z,!m,!b,eH,eH,eH] H;show aj λD1 k1 r1=>aB λab hK=>?_
  lk;show%[#[3]|λp hp=>?_];let sp:=ah.Qa (o:= .lst [V.int 0,V.int 1,V.int 0]) hp;let Y:Qa H p (.lst [V.int 0,V.int 1,V.int 0]) p=_:=af
  generalize Qa H p _=H1 at sp Y
  show%[%[_|Qb.of Y]|hK _ _ (f9 (λi J H'=>(∃o3 o4,J=[!g,-z,!m,!b,o3,o4,eH])/\ah H1 H') %[%[_,_|ρ]|ah.refl _] (λi J H' _ ⟨_,q⟩=>Qb.of (q _ _ Y)) ?_ ?_)]
  .intro i v J H' hv %[%[o3,o4|rfl]|q];obtain⟨y,rfl⟩:∃y,v= .int y:=by
    let:=Z8 hv;simp only[Yw,X6,MN]at this;rcases this with rfl|rfl|rfl<;> show%[_|ρ]
   let s1:=sp.trans q;change aW _ _ _ _ H';show aj λD2 k2 r2=>?_
   lk;show k2 _ _ (aj λD3 k3 r3=>?_);obtain⟨L,C⟩:∃L:_LL.St->XK,L=λG c d B=>G=[!g,-z,!m,!b,fx (.int y),fx .non,eH]/\c= .ref (aP mg "Torn")/\∃j l ws x,d∣j/\ah H' B/\H' j=eH/\H' l=eH/\j≠l/\q0 B (ss\2) j l ws x:=%[_|rfl]
   show%[L,?_|?_]
   .lk;let:mV mg [.ref g,.str z] H' (λx H1=>D3.nx [!g,-z,!m,!b,fx (.int y),fx .non,eH] H1) (L _):=
     %[g,qs,ls,ts,ss\2,z,rfl,hg.up s1,O,hx|λd l B ws x s' hd hl dl n=>by rw[C];show%[ρ,ρ,d,l,ws,x,ρ,s',hd,hl,dl|n]]
    split<;> show this
   .intro G c d B h;rw[C]at h;let%[rfl,rfl,j,l,ws,x,rfl,s2,ae,fl,ag|n]:=h;show%[_,ρ,T.u_Torn|λa _ ha=>?_];let hA:Qa B a (ExH a (aP mg "Torn") (fx j)) a∣_:=af;let I:=ah.Qa (o:=ExH a (aP mg "Torn") (fx j)) ha;let r:=s2.trans I
    generalize Qa B a _=H3 at hA I r
    show aE λD4 k4 r4=>?_
    lk;show k4 _ _ (k3 _ _ ?_);show aj λD5 k5 r5=>?_
    lk;let s3:=s1.trans r;let u:q0 H3 (ss\2) j l ws x:=%[I _ _ n.ad,I _ _ n.al,aG n.tu (λb z e=>I _ _ e),n.sho,n.min|n.len]
    show%[a,m,b,j,l,ss\2,ws,ss,x,rs,ρ,hA,u,s3 _ _ hm,aG hs (λb z e=>s3 _ _ e),(λk=>Od),be.up s3,rl,U x n.sho.rch|λH4 M=>(k5 _ _ (aE λD6 k6 r6=>?_))];lk;let l4:=M _ _ u.al;show%[a,j,_,.ref l,ρ,M _ _ hA,M _ _ u.ad,ρ,tyL (Qb.of l4),%[_|l4]|k6 _ _ %[%[_,_|ρ]|ah.set (q.trans (r.trans M)) (q.free fl)]]
  .intro J H' %[%[o3,o4|rfl]|q];show k1 _ _ ?_;lk;show kk _ (sp.trans q)
def rG{a:Type}(ks:dV a)(f:a->V):pD (ks.map f) eH (fx 1)=(ks.take 1).map f:=by
 unfold pD;rw[show(1:nX)=((1:hH))from rfl,_HT.sIx_nat,_HT.sIx_none,SQ,Vh]
 simp_all
structure Bx (mg:ZC) (H:Hp) (g l1 l2 lw:ij) (cs:ZH) (qs:ZN) (ls:ZB) (ts:ZG) (xs:ZB):Prop where
 ok:rC mg H g l1 l2 cs qs ls ts
 hw:H lw<*xs\3
 xl: ~~~xs<=4
 xn:xs≠[]
 xm:∀x∈xs,x∈ls
inductive yP (mg:ZC)
 | mk (g l1 l2 lw:ij) (cs:ZH) (qs:ZN) (ls:ZB) (ts:ZG) (xs:ZB):vs=[.ref g,.ref l1,.ref l2,.ref lw]->Bx mg H g l1 l2 lw cs qs ls ts xs->(∀H',ah H H'->Q (.bl fI) H')->yP mg vs H Q E0
def kg(T:Txt K mg):↥11 "_law_asked" ["_law_ground_here","_law_cuts_here","_law_sayings","_law_some"] (yP mg):=by
 show T.bT.cal eG (λH vs Q E h=>?_)
 .let%[g,l1,G,lw,cs,qs,U,ts,xs,rfl,%[%[c,h1,h2,gr,pl|tm],hw,xl,xn|xm]|kk]:=h;show%[ρ|λf a6 A outer s L=>?_];let bc:=c.ql;show%[_,%["JCG4F]RA1A2BCG5F`RA1A2A4BCG6F`SA5A4BCMYF`TA6BEHF`UA0AP3DA5A6BNCTWI~Q3=3^>DK7CMiYF`VA0A7A2A4A5A6BEHhNEMiYF`WA0A7A2A4A5A6BEHhNEHh",eG.nd|L]|?_]
  change aW _ _ _ [!g,!l1,!G,!lw,eH,eH,eH,eH] H;show aj λD7 k7 _=>?_
  lk;show%[l1,G,cs,qs,ρ,h1,h2,c.ca,c.sa,c.c3,⋯|λd H2 I Y s2 fd hd nd mem lg=>k7 _ _ (aj λD8 k8 _=>?_)];let%[kc,bf|M]:=yz c.ca c.few;let ml: ~~~I<=63:=md (_ST.nodup_sub nd λz N=>(mem z).mp N) c.ly;let ab:=c.up s2;lk;show%[l1,G,d,cs,qs,I,Y,kc++df qs qs.length,ρ,s2 _ _ h1,s2 _ _ h2,ab.ca,ab.sa,c.c3,⋯,hd,mem,lg,?_,λk=>by rw[Yt,M]|λr H3 ss s3 fr ac tu lk tk sl=>k8 _ _ (aj λD9 k9 _=>?_)]
  .let:=Of (λj=>qs[j]?.bind λq=>iF j q.2) (o0 qs.length);rw[Yj]at this;let:=c.c3;rw[Z9];unfold df
   lia
  let la:=qZ tu tk;lk;show%[r,d,I,I,ss,Y,ρ,ac,la,sl,s3 _ _ hd,ml|λbb Hx rs s4 be rk=>k9 _ _ (aj λbl as ax=>?_)];let rl: ~~~rs<=63:=by
   let:=_ST.nodup_sub be.nd (m:=I.map Y) λx hx=>Xp ((rk x).mp hx)
   rw[Z6,Z6]at this
   lia
  lk;show%[bb,_,rs,ρ,be,⋯|λH6 v s6 vI=>?_];let l:=s2.trans (s3.trans (s4.trans s6));let ends:∀x y,Ed (ss\2) x y->x∈rs\1/\y∈rs\1:=λx y ⟨z,N⟩=>by
   let%[a,b,z',a',b',hm,ha,hb|e]:=(lk.mem _).mp N;cases e;let%[u,v,w,e,hu|J]:=Bo c.ca c.sa (n:= ~~~qs) (by rw[Yt,M]at hm;show hm);cases e;let hu:=(mem a).mpr hu;let J:=(mem b).mpr J;show%[(rk _).mpr %[a,hu|(lg a hu).2.one ha]|(rk _).mpr %[b,J|(lg b J).2.one hb]]
  let ae:b7 (a7 qs) (ts\2) (ss\2):=%[lk.nd|λk=>by simp only[tm,<-M,<-Yt];show lk.mem k]
  let ag:∀x,Rch (ss\2) x x->x∈rs\1:=λx r=>by
   cases r with
   | one e=>show(ends _ _ e).2
   | more _ e=>show(ends _ _ e).2
  let ak:=gr.up l;let al:=(s4.trans s6) _ _ ac;let an:=be.up s6;let ao:aI H6 ss:=aG tu λb z e=>(s4.trans s6) _ _ e
  let O:=l _ _ hw;show bz (λJ=>?_) λJ=>as _ _ (aj λbm a0 bt=>aB λa5 hK=>?_)
  .let%[x,_|rx]:=vI.mp J;let%[x0,xr|rfl]:=dV.exists_cons_of_ne_nil xn;show%[_,Qb.of O,_,bG (j:=0) rfl,g,r,bb,x0,qs,U,ts,ss,rs,ρ,ak,ae,%[x|rx],al,ao,an,⋯,ag|λH7 s7=>ax _ _ (kk _ (l.trans s7))]
  .let nr:∀x,¬ Rch (ss\2) x x:=λx r=>J (vI.mpr %[x,ag x r|r])
   let lo:mX mg H6 g G d r bb qs U ts ss I Y rs:=%[%[ak,ae|nr],⋯,l _ _ h2,(s3.trans (s4.trans s6)) _ _ hd,λz N=>(mem z).mpr (pl.mem_iff.mp N),λz N=>(lg z N).2,al,ao,sl,an,rk|⋯]
   lk;show%[_,Qb.of O|λp hp=>?_];rw[rG];let sp:=ah.Qa (o:= .lst ((xs.take 1)\3)) hp;let gp:Qa H6 p (.lst ((xs.take 1)\3)) p∣_:=af
   generalize Qa H6 p _=H7 at sp gp
   show%[_,sp _ _ O,_,gp,?_|λp1 a1=>?_]
   .rw[Z6,Z6,Yl];show Yf (aF ⋯)
   rw[<-Zd];let B:=sp.trans (ah.Qa (o:= .lst ((xs++xs.take 1)\3)) a1);let C:Qa H7 p1 (.lst ((xs++xs.take 1)\3)) p1∣_:=af;let ym:∀y∈xs++xs.take 1,y∈U:=λy hy=>xm y ((Xm hy).elim id Yx)
   generalize xs++xs.take 1=ys at B C ym ⊢
   generalize Qa H7 p1 _=H8 at B C
   show%[%[_|Qb.of C]|hK _ _ (bR (λi σ H'=>(∃o,σ=[!g,!l1,!G,!lw,!d,!r,!bb,o])/\ah H8 H') %[%[_|ρ]|ah.refl _] (λi σ H' ⟨_,sm⟩=>sm _ _ C) ?_ ?_)]
   .intro i y σ H9 hy %[%[o|rfl]|sm];let ap:=lo.up (B.trans sm);let yl:=ym y (Z8 hy);show aj λbx a2 b0=>?_
    lk;show%[g,G,d,r,bb,y,qs,U,ts,ss,I,Y,rs,ρ,ap,yl|λb1 aq=>(a2 _ _ (aE λb2 a3 b3=>?_))];lk;show%[g,G,d,r,bb,y,qs,U,ts,ss,I,Y,rs,ρ,ap.up aq,yl|λb4 a4=>(a3 _ _ %[%[_|ρ]|sm.trans (aq.trans a4)])]
   .intro σ H9 %[%[o|rfl]|sm];show a0 _ _ ?_;lk;show kk _ (l.trans (B.trans sm))
def nD.ne{H:Hp}{cs:dV _}{qs:dV _}(h:nD H cs qs):∃z,z∈cs.flatMap lyr:=by
 let%[p|a]:=dV.exists_mem_of_length_pos h.c1;let%[r,b,c,d|n]:=(h.ca p a).2.2.some';show%[_|Mi.mpr %[p,a|ix %[n,r,b|d]]]
def uS{a:Type}(ks:dV a)(f:a->V)(k:hH):pD (ks.map f) eH (fx k)=(ks.take k).map f:=by
 unfold pD;rw[_HT.sIx_nat,_HT.sIx_none,SQ,Vh,Xy];show dV.take_eq_take_min.symm
def CQ{a:Type}{ks:dV a}(f:a->V){k:hH}(h:k<= ~~~ks):pD (ks.map f) (fx k) eH=(ks.drop k).map f:=by
 unfold pD;rw[_HT.sIx_nat,_HT.sIx_none,Z6,Qi h,Xz];show Zn (by rw[Yh,Z6];show Zi _)
def KR{f:ij}{fd:Oa}(F:Fun K "law" "law" mC f fd)(T:Txt K mg):eO P w K mg base CX0 13 f fd ["_law_script"] (rB K):=by
 show F.ok jk (by intro a b c d h;let%[_,_,rfl|_]:=h;rfl) (λb6 A outer s H vs Q E r h=>?_)
 .let%[a,L,rfl,hs,ho,hn|kk]:=h;show%[_,%["JC]DF`XA0B]ERK1RK2kCG3]S]TA+_A1BA+_A2BBCG4]S]TA+_A1BA]U2DBCG5(~1AF]RA1A2BBCG6IXF~CA0ADBbcA5BCG7I~GDI!D~V~WAm<bcA5BDBCG8=I~Q=5>6^=5^>6^>7CMfpiYF~(A3A1A2A8BviYF~(A4A1A]U2DA=8^>DBEHhNEHF~(A3A1A2A=8^>DB",jk.nd|r]|?_]
  change aW _ _ _ [!a,eH,eH,eH,eH,eH,eH,eH,eH] H;show aj λD1 k1 _=>?_
  lk;show%[a,L,ρ,hs,⋯|λt G M H1 cs qs s1 ht h1 h2 N=>%[_,Qb.of ht,ρ,_,_,ρ,_,_,ρ,ρ|k1 _ _ (aj λD2 k2 _=>?_)]];lk;show%[_,.inl (Qb.of h1)|λx1 O=>%[_,.inl (Qb.of (ah.Qa O _ _ h2))|λx2 U=>?_]];let sx:=(ah.Qa (o:= .lst (bP cs)) O).trans (ah.Qa (o:= .lst (qs\0)) U);let Y:=ah.Qa (o:= .lst (qs\0)) U _ _ (af (H:=H1) (a:=x1) (o:= .lst (bP cs)));let ab:Qa (Qa H1 x1 (.lst (bP cs))) x2 (.lst (qs\0)) x2=_:=af
  generalize Qa (Qa H1 x1 (.lst (bP cs))) x2 _=Hx at sx Y ab
  show λg dx fg ax b9=>Bq fg ax Y ab (N.up sx).pair λH2 ls ts s2 gr pl tm=>k2 _ _ (aj λD3 k3 _=>?_)
  let i:=sx.trans s2;let m:rC mg H2 g G M cs qs ls ts:=%[N.up i,i _ _ h1,i _ _ h2,gr,pl|tm]
  lk;show%[_,.inl (Qb.of m.h1)|λx3 a0=>?_];let u1:=ah.Qa (o:= .lst (bP cs)) a0;let ac:Qa H2 x3 (.lst (bP cs)) x3=_:=af
  generalize Qa H2 x3 _=ae at u1 ac
  unfold Ho;lk;show%[_,(m.up u1).h2|λb fb il=>?_];simp only[yD,Z6]at il ⊢;let q2:∀q∈(evI qs.length).filterMap (qs[·]?),q∈qs:=λq hq=>FQ hq
  generalize a1:(evI qs.length).filterMap (qs[·]?)=c at il q2 ⊢
  let u2:=ah.Qa (o:= .lst (c\0)) fb;let gb:Qa ae b (.lst (c\0)) b=_:=af
  generalize Qa ae b _=H3 at u2 gb ⊢
  let u:=u1.trans u2;let ag:=(m.up u).gd.sub q2 il;show λg2 ca a2 ak _=>Bq a2 ak (u2 _ _ ac) gb ag.pair λH4 a3 a4 u3 a5 al a6=>k3 _ _ (aj λD4 k4 _=>?_)
  let e:=m.up (u.trans u3);let bb:=ag.up u3;let cd:=N.ql;lk;show%[G,M,cs,qs,ρ,e.h1,e.h2,e.gd.ca,e.gd.sa,e.gd.c3,⋯|λd H5 ms gm s5 fd hd nd mem lg=>?_];let ml: ~~~ms<=63:=md (_ST.nodup_sub nd λz hz=>(mem z).mp hz) N.ly;let mk:(NmD ms gm)\1=ms.map hY:=by unfold NmD;rw[Ys];rfl
  show%[_,.inl hd,ms,mk,⋯|λll xs bc pe _=>k4 _ _ (aj λD5 k5 _=>?_)];let v:=s5.trans (ah.Qa (o:= .lst (xs\3)) bc);let j:Qa H5 ll (.lst (xs\3)) ll∣_:=af
  generalize Qa H5 ll _=H6 at v j
  let be:=u.trans (u3.trans v);let bf:=s1.trans (i.trans be);let ce: ~~~xs<=63:=pe.length_eq▸ml;let xm:∀x∈xs,x∈cs.flatMap lyr:=λx hx=>(mem x).mp (pe.mem_iff.mp hx)
  lk;let xp:0< ~~~xs:=by
   let%[z|hz]:=N.ne;show OX (pe.mem_iff.mpr ((mem z).mpr hz))
  show%[a,L,_,ρ,ah.seq bf hs,!1,_,.inl %[_,Qb.of j|(Z6 _).symm],⋯|k5 _ _ (aj λD6 k6 _=>?_)];lk;show%[_,.inl %[_,Qb.of j|ρ],?_|k6 _ _ (aj λD7 k7 _=>?_)]
  .split<;> show .inl (!1)
  lk;obtain⟨k,ek,hk⟩:∃k:hH,L.getD (Ts 41) 0%(~~~xs:nX)=(k:nX)/\k< ~~~xs:=
   %[_,(Pp (NA _ ⋯)).symm|by let:=Oj (L.getD (Ts 41) 0) (show(0:nX)<(~~~xs:nX) by lia);lia]
  obtain⟨l,ew,ch,cl⟩:∃l:hH,(4-2*if decide ((48:nX)<(~~~(xs\3):nX))=fI then 1 else 0:nX)=(l:nX)/\0<l/\l<=4:=by
   split
   .show%[2,ρ,!1|!1]
   .show%[4,ρ,!1|!1]
  rw[ek,ew];show%[_,Qb.of j|λp hp=>?_];rw[CQ _ (Yf hk)];let v1:=ah.Qa (o:= .lst ((xs.drop k)\3)) hp;let w1:Qa H6 p (.lst ((xs.drop k)\3)) p∣_:=af
  generalize Qa H6 p _=H7 at v1 w1
  show%[_,Qb.of (v1 _ _ j)|λp1 bl=>?_];rw[uS];let v2:=ah.Qa (o:= .lst ((xs.take k)\3)) bl;let w2:Qa H7 p1 (.lst ((xs.take k)\3)) p1∣_:=af;replace w1:=v2 _ _ w1
  generalize Qa H7 p1 _=H8 at v2 w1 w2
  show%[_,w1,_,w2,?_|λp2 bm=>?_]
  .rw[Z6,Z6,Yh,Yl];show Yf (aF ⋯)
  rw[<-Zd];let v3:=ah.Qa (o:= .lst ((xs.drop k++xs.take k)\3)) bm;let w3:Qa H8 p2 (.lst ((xs.drop k++xs.take k)\3)) p2∣_:=af
  generalize Qa H8 p2 _=H9 at v3 w3
  show%[_,Qb.of w3|λp3 bt=>k7 _ _ (aj λD8 k8 r8=>?_)];rw[uS];let I:(xs.drop k++xs.take k).take l≠[]/\ ~~~((xs.drop k++xs.take k).take l)<=4/\∀y∈(xs.drop k++xs.take k).take l,y∈cs.flatMap lyr:=by
   show%[SW ?_,?_|λy n=>xm y ?_]
   .rw[Yl,Z9,Yh]
    lia
   .rw[Yl]
    lia
   .show(Xm (Yx n)).elim Ua Yx
  let v4:=ah.Qa (o:= .lst (((xs.drop k++xs.take k).take l)\3)) bt;let w4:Qa H9 p3 (.lst (((xs.drop k++xs.take k).take l)\3)) p3∣_:=af
  generalize (xs.drop k++xs.take k).take l=ys at I v4 w4 ⊢
  generalize Qa H9 p3 _=Ha at v4 w4
  let an:=v.trans (v1.trans (v2.trans (v3.trans v4)));let ap:=e.up an;let ao:Bx mg Ha g G M p3 cs qs ls ts ys:=%[ap,w4,I.2.1,I.1|λy n=>pl.mem_iff.mpr (I.2.2 y n)]
  lk;show%[g,G,M,p3,cs,qs,ls,ts,ys,ρ,ao|λHb B=>bN ?_];unfold Ho;lk;let C:=ap.up B;let w6:=B _ _ w4;show%[_,C.h2|λb2 bx b0=>?_];simp only[yD,Z6,a1]at b0 ⊢;let v5:=ah.Qa (o:= .lst (c\0)) bx;let aq:Qa Hb b2 (.lst (c\0)) b2=_:=af
  generalize Qa Hb b2 _=Hc at v5 aq
  let b1:=an.trans (B.trans v5);show%[_,Qb.of (v5 _ _ w6)|λp5 b3=>?_];rw[rG];let v6:=ah.Qa (o:= .lst ((ys.take 1)\3)) b3;let g6:Qa Hc p5 (.lst ((ys.take 1)\3)) p5∣_:=af
  generalize Qa Hc p5 _=Hd at v6 g6
  let as:=b1.trans v6;let J: ~~~(ys.take 1)<=4/\ys.take 1≠[]/\∀y∈ys.take 1,y∈cs.flatMap lyr:=by
   show%[by rw[Yl];lia,SW ?_|λy n=>I.2.2 y (Yx n)];let:=Nc.mpr I.1;rw[Yl]
   lia
  show%[g2,G,b2,p5,cs,c,a3,a4,ys.take 1,ρ,%[%[bb.up as,(v5.trans v6) _ _ C.h1,v6 _ _ aq,a5.up as,al|a6],g6,J.1,J.2.1|λy n=>al.mem_iff.mpr (J.2.2 y n)]|λHe b4=>(k8 _ _ ?_)];lk;let v7:=v5.trans (v6.trans b4);show%[_,Qb.of (v7 _ _ w6)|λp6 b5=>?_];rw[rG];let v8:=v7.trans (ah.Qa (o:= .lst ((ys.take 1)\3)) b5);show%[g,G,M,p6,cs,qs,ls,ts,ys.take 1,ρ,%[C.up v8,af,J.1,J.2.1|λy n=>pl.mem_iff.mpr (J.2.2 y n)]|λHf i=>kk _]
end
abbrev dfm:= @JF
abbrev gvm:= @Ld
def all_mk{l:PySem.W.OpenLaw}{w:vk}{K:ZA}{h:v0}{mg:ZC}{fa aj:ij}(X:K.In h)(G:h.Ns vr mg)(hfa:mg "law"=fx (.ref fa))
 {b7 ay:ZI} {b8:ZK} {b9 az a0 a1 ak a2:hV}
 (F:Txc K mg->Txt K mg)
 (ca:RL K vr "law"=fx (fx (.ref aj))) (cb:K.lookup aj=fx %[b9,b7,.func (SO "law" "law" (dL mC) (bQ mC) (ar mC) .none az a0 a1 ay ak a2)|b8]) (cc:Rt K ak "law"=fI) (cd:OD K (.ref aj)=fI)
 {aa ac ad a3 a4 a5 a6 a7:ij}
 {ae:ij} {ce cf:ZI} {cg:ZK} {ch ci cj a8 ck:hV}
 (al:RL K vr "Torn"=fx (fx (.ref aa)))
 (a9:RL K vr "DigError"=fx (fx (.ref ac)))
 (ba:RL K vr "NoCut"=fx (fx (.ref ad)))
 (bb:RL K vr "NoSaying"=fx (fx (.ref a3)))
 (bc:RL K vr "NoGround"=fx (fx (.ref a4)))
 (bd:RL K vr "NoLayer"=fx (fx (.ref a5)))
 (be:RL K vr "NoRow"=fx (fx (.ref a6)))
 (bf:RL K vr "NoDeed"=fx (fx (.ref a7)))
 (bg:MD K (.ref aa) "__getattribute__"=fx (fx (.builtin "BaseException.__getattribute__")))
 (bh:MD K (.ref aa) "__getattr__"=fx eH)
 (bi:Rk K (.ref aa) (.type "BaseException")∣fI)
 (am:Pc K aa=fI)
 (cl:MD K (.ref aa) "__class__"=fx (fx (.builtin "object.__class__")))
 (cm:SL K (.builtin "object.__class__") "__get__"=fx (fx (.builtin "getset_descriptor.__get__")))
 (cn:takesIn K (.builtin "object.__class__")∣fI)
 (co:mroIn K aa (.type "object")∣fI)
 (e7:MD K (.ref aa) "__init__"=fx (fx (.ref ae)))
 (an:K.lookup ae=fx %[.type "function",ce,.func (SO "__init__" "Torn.__init__" (dL e8) (bQ e8) (ar e8) .none ch ci cj cf a8 ck)|cg])
 (bj:Rt K a8 "Torn.__init__"=fI)
 (bk:OD K (.ref ae)=fI)
 (bl:exK K aa ae=fI)
 (cp:OD K (.ref aa)=fI)
 (cq:MD K (.ref aa) "__setattr__"=fx (fx (.builtin "object.__setattr__")))
 (bm:vB K aa=fI)
 (bn:MD K (.ref aa) "ring"=fx eH)






 (cr:Rk K (.ref aa) (.ref ad)∣fS)
 (cs:Rk K (.ref aa) (.ref ac)∣fI)
 (ct:TM K (.ref aa) [.ref ad,.ref a4,.ref a3]∣fS)
 (cu:TM K (.ref aa) [.ref a7,.ref a6,.ref a5]∣fS)
 (cv:Pb K (.ref aa) (.ref aa)∣fI)
 (cw:Pb K (.ref aa) (.type "ValueError")∣fI)
 (cx:SL K (.ref ac) "__getattribute__"=fx (fx (.builtin "type.__getattribute__")))
 (cy:readsIn K ac (.type "type")=fI)
 (cz:findCls K (.ref ac) (.type "type") "__init__"=fx (.val (.builtin "ValueError.__init__")))
 (c0:VX K (.ref ad)∣.type "type")
 (c1:Rk K (.ref ad) (.type "BaseException")∣fI)
 (bo:(K.lookup ad).any (λo=>match o.data with| .cls _=>fI|_=>fS)=fI)
 (c2:VX K (.ref ac)∣.type "type")
 (c3:Rk K (.ref ac) (.type "BaseException")∣fI)
 (bp:(K.lookup ac).any (λo=>match o.data with| .cls _=>fI|_=>fS)=fI)
 {ab:ij}
 (bq:RL K vr "Ground"=fx (fx (.ref ab)))
 (c4:TC K ab Me=fI)
 (c5:Pc K ab=fI)
 (c6:WL K ab=fI)
 (c7:MD K (.ref ab) "__setattr__"=fx (fx (.builtin "object.__setattr__")))
 (c8:MD K (.ref ab) "kept_cuts"=fx eH)
 (c9:MD K (.ref ab) "kept_sayings"=fx eH)
 (da:MD K (.ref ab) "kept_layers"=fx eH)
 (db:MD K (.ref ab) "kept_ties"=fx eH)
 {af:ij} {dc dd:ZI} {de:ZK} {df dg dh di br dj:hV}
 (dk:MD K (.ref ab) "__init__"=fx (fx (.ref af)))
 (bs:K.lookup af=fx %[df,dc,.func (SO "__init__" "Ground.__init__" (dL cJ) (bQ cJ) (ar cJ) .none dg dh di dd br dj)|de])
 (bt:Rt K br "Ground.__init__"=fI)
 (bu:OD K (.ref af)=fI)
 (dl:XB K (.ref af)=fI)
 (dn:makesIn K ab=fI)
 (dp:OD K (.ref ab)=fI)
 {ag:ij} {dq dr:ZI} {ds:ZK} {dt du dv dw bv dx:hV}
 (dy:MD K (.ref ab) "sayings"=fx (fx (.ref ag)))
 (bw:K.lookup ag=fx %[dt,dq,.func (SO "sayings" "Ground.sayings" (dL cT) (bQ cT) (ar cT) .none du dv dw dr bv dx)|ds])
 (bx:Rt K bv "Ground.sayings"=fI)
 (ao:OD K (.ref ag)=fI)
 (dz:XB K (.ref ag)=fI)
 {ah:ij} {d0 d1:ZI} {d2:ZK} {d3 d4 d5 d6 bz d7:hV}
 (d8:MD K (.ref ab) "layers"=fx (fx (.ref ah)))
 (b0:K.lookup ah=fx %[d3,d0,.func (SO "layers" "Ground.layers" (dL dm) (bQ dm) (ar dm) .none d4 d5 d6 d1 bz d7)|d2])
 (b1:Rt K bz "Ground.layers"=fI)
 (ap:OD K (.ref ah)=fI)
 (d9:XB K (.ref ah)=fI)
 {ai:ij} {ea eb:ZI} {ec:ZK} {ed ee ef eg b2 eh:hV}
 (ei:MD K (.ref ab) "ties"=fx (fx (.ref ai)))
 (b3:K.lookup ai=fx %[ed,ea,.func (SO "ties" "Ground.ties" (dL dX) (bQ dX) (ar dX) .none ee ef eg eb b2 eh)|ec])
 (b4:Rt K b2 "Ground.ties"=fI)
 (aq:OD K (.ref ai)=fI)
 (ej:XB K (.ref ai)=fI)
 {b5:ij} {au:NQ} {av:ZJ} {ek:hH}
 (el:RL K vr "YEAR_WORDS"=fx (fx (.ref b5)))
 (em:K.lookup b5∣au)
 (en:au.cls= .type "tuple")
 (eo:au.data= .seq av ek)
 (ep:av.size<=ku)
 (eq:aQ [.str "since",.str "by"] av.toList)
 {b6:ij} {aw:NQ} {ax:ZJ} {er:hH}
 (es:RL K vr "LAYER_WORDS"=fx (fx (.ref b6)))
 (et:K.lookup b6∣aw)
 (eu:aw.cls= .type "tuple")
 (ev:aw.data= .seq ax er)
 (ew:ax.size<=ku)
 (ex:aQ [.str "later",.str "same"] ax.toList)
 :∃fd:Oa,(∀(s:kj) (v:hV),Tu s fd %[[v]|[]] [("_law_script",v)])/\∀base:v0,K.In base->base.Ns vr mg->eO l.prog w K mg base CX0 13 fa fd ["_law_script"] (rB K):=by
 let e:=hfa.symm.trans (On X G ca);cases e;let ey:=eC (On X G al);subst ey;let ez:=eC (On X G a9);subst ez;let e0:=eC (On X G ba);subst e0;let e1:=eC (On X G bb);subst e1;let e2:=eC (On X G bc);subst e2;let e3:=eC (On X G bd);subst e3;let e4:=eC (On X G be);subst e4;let e5:=eC (On X G bf);subst e5;let e6:=eC (On X G bq);subst e6;let T:Txt K mg:=F %[On X G al,
  On X G a9,
  On X G ba,
  On X G bb,
  On X G bc,
  On X G bd,
  On X G be,
  On X G bf,
  %[On X G al,%[bg,bh,bi,am,cl,cm,cn|co],ae,_,%[bl,by rw[an];rfl|cp],eP an bj bk|(eP an bj bk).binds (by room)],
  %[cq,bm,bn|am],
  %[bg,bh,bi,bn|am],
  cr,
  cs,
  ct,
  cu,
  cv,
  cw,
  %[cx,cy|cz],
  %[c0,c1|bo],
  %[c2,c3|bp],
  %[On X G bq,c4,c5,c6|c7],
  c8,
  c9,
  da,
  db,
  %[af,_,%[dn,dk,dl|dp],eP bs bt bu|(eP bs bt bu).binds (by room)],
  %[ag,_,%[dy,dz|ao],eP bw bx ao|(eP bw bx ao).binds (by room)],
  %[ah,_,%[d8,d9|ap],eP b0 b1 ap|(eP b0 b1 ap).binds (by room)],
  %[ai,_,%[ei,ej|aq],eP b3 b4 aq|(eP b3 b4 aq).binds (by room)],
  EO X G el em en eo ep eq|
  EO X G es et eu ev ew ex]
 show%[SO "law" "law" (dL mC) (bQ mC) (ar mC) .none az a0 a1 ay ak a2,λs v=> .of_eq rfl|λbase _ _=>KR (eP (st:=mC) cb cc cd) T]
def walk{l:PySem.W.OpenLaw}{q:nz}{b:ZB}{j:(iv->kf hV)->v0->Prop}{e:vk->v0->Prop}{d:DefRec}{K:Params->ZA}(m:l.most∣63)(c:d.params.defaults=[])
 (o:∀(w:vk) (h:v0),e w h->(K w.params).In h)
 (F:∀(w:vk) (mg:ZC) (g:ij) (h:v0),(K w.params).In h->h.Ns vr mg->mg d.name∣.ref g->
  ∃i:Oa,(∀(s:kj) (u:hV),Tu s i %[[u]|[]] [("_law_script",u)])/\∀base:v0,(K w.params).In base->base.Ns vr mg->eO l.prog w (K w.params) mg base CX0 13 g i ["_law_script"] (rB (K w.params))):
 PySem.W.WalkO q b j e l.row.toRowW d [] (λf vs=>PySem.call f vs):=
 _LL.walk_of (n:=63) (k:=13) (x:="_law_script") (CX:=λ_=>CX0) (sp:=λw=>rB (K w.params)) m (!1) c %[rfl,!1,!1|rfl] o F (λ_ _ a p r v y=>%[a,p,rfl,y,v,r|λ_=>rfl]) λ_ _ _ _ _ z=>z
end _KK
end
open PySem PySem.W PyProof.Rows
set_option maxRecDepth 100000 in
theorem PySem.Challenge.cw_digbook_k73_why_bounds_are_so_holds : PySem.Challenge.rw_digbook_k73_why_bounds_are_so.Holds := by
 w_on;o_law;k_head;(case hw=>w_witness2)
 k_fill
 refine _KK.walk (l:=PySem.Challenge.rw_digbook_k73_why_bounds_are_so) rfl rfl (λw h Y=>PySem.W.kIn_of Y) ?F
 case F=>
  intro w mg fa h KX G hmg;apply _KK.all_mk KX G hmg
  (case F=>
   intro C
   constructor
   exact C
   all_goals first|exact PySem.W.mg_none_of KX G (by k_is)|(refine' _KK.gvm KX G ?z ?r;(case z=>k_is);(case r=>exact⟨_,rfl⟩))|(refine' _KK.dfm KX G ?a ?l ?c ?k ?b;(case a=>k_is);(case l=>k_is);(case c=>k_is);(case k=>k_is);(case b=>intro _ _ _ _ _ _;(repeat(refine _KK.zq1 λ_=>?_));exact _KK.zq0 rfl)))
  any_goals k_is
  (case bl|bm|bo|bp=>kernel_rfl)
  any_goals first|kit_is|rfl|decide|exact .cons ⟨_,rfl⟩ (.cons ⟨_,rfl⟩ (.nil))
