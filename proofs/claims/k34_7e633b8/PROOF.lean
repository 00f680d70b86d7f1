import PyProof.Rows.All
import Wide.All
import OpenK.AllK
import Wide.FinOn
import Lean
import PyProof.EqAt
import PyProof.EqKinds
import PyProof.TupleCall
import PyProof.ExcInit
import PyProof.ExcClass2
import PyProof.InstStoreFacts
import OpenK.KOwn
import PyProof.RulesAs
import PyProof.ExcAttrAll.ValueError
import KE.KIsAll
import KE.KRevSl
import KE.KRevIter
import PyProof.Rows.SortRuns
import PySem.SetTable
import PySem.SetOps
import PyProof.TupleKey
import PyProof.SetKind
import PyProof.Rows.SetObj
import KE.KDictSum
import PyProof.WalkInts
import KE.KDictOf
import PyProof.AttrMissHeap
import PyProof.DictWalks
import KE.KDictLaws
import KE.KDictList
import PyProof.FString2
import PyProof.ReprRoads
import PyProof.ReprLen
import PyProof.Rows.CallKwBuiltin
import PySem.Challenge.RW_digbook_k34_whole_ties_grow
set_option linter.all false
set_option compiler.extract_closed false
local macro_rules|`(#check $s:str)=>do
 let(a,_)<-s.getString.toList.foldlM (init:=(#[],0,0)) λ(a,n,k) c=>do
  let n:=n*90+c.toNat-if c.toNat>92 then 37 else 35
  return if k=9 then(a.push (Lean.mkIdent ("tw"++toString n).toName),0,0)else(a,n,k+1)
 `(structure $(Lean.mkIdent `PySem.W.Fast):ident:Prop where($a*:0=0))
#check "#J+O+jjS.7**]~w==Z]c6%YCf4TX5nH|U]#$ZH#n%8@4~Kjj~-?3|Q'c>??B/ny'+K5PVLOB,QeYFsK?<5aXMVX=(h<f<x/pMHS/Ok_/tO}LTx+*np&lk'kINf4F/5C`?C+8W#Sc5iV#O.WZeNI0RQID|mv?N,m~Kf^8UC|u2vKxP>aT20f1$VRzHgtU5Y#uY?{02cwiL;,G/1AP8UGssv1_w5eZJAhj,YG'ORJmRXu|S|(d6EOYQ,ta$q5g.I3&&&RX22_OD-gR#_Hu}drZ)fXn)wnlSH{NhL'f]4r>xtx-KM;941M})'+wW8fd:&$M0PRi4q;QG?J9psI)l?jg6+1]@(7SDH'yG|$7K~)h'KJf=(%8'@L,|aT|8v{qA1PR93v&AkD)Q)Z)L;e72A@TYDxM<6M2vD92).8)-,z9%h9Ci;P-s4&5(B)ZQ/.l~D3>|/N,l%guLiQ^CaV>D]nVH'<yfRna)1Wb-Wa]CfOR;fLcSp@?~*Y-57?NpN@b3((<,}.c^{7<2lyT`S~GK{>):)'xg(|kFY,lsNBi=xCJ;Xh*~<QL-fLp-Dzr&T1+^9O#2xM>CO}}rg7voL$]7$tC_eL-Ccl8==:lp{KAVw^IXuI@I_xN;FP;wJD]7W^R]`cz=r7pF:Is|0?r#67NiKmz*V=JlD0<5w%=WKp.XFP<@X%l1|~Sil66~=aC,%ab8**YfIzSrR%<;(?|b8c28,2/n$d/GW:b;utQ]+EENhbcF1nM`X%Ow@U)Zu&k>`nRqq-2tI+L4Fs6l3#&0}z<D|~TlSG<a%_zvLn}+.m?-%Tabi:^.tuk(%r<P1B31bIm,/La939Qc|d7;iLNDog0Yk:8RxX8fNtW=xMb6rZu<Z0Ldnnd'q~'G0lL*I:8RmAX$1B+ITAR<'kDhv8q4S/n~D^,,K%;<MOFr?'V}:'j~`yz9F`<=+{7O#5J>?2ZJCk,N)aYE]ErqTZ~Jr+htXD4Y=~TA.'Z)r'|t>6u1esQ`MIi5+C$=L4o-g>)iJ|s9c|p8:cxa;5:zQO54SLua=%S&/=;|&@.sr:W4R7.V8Q&J_KK+W8t=X/uuMtaq0lQ,hjh>dZKD_GNU]Eh|tkA?])uSxw-UC)Tf:p;J#`f/d`,F?B3rA0_SJXn-*T{17n]^v'}%q1?}h]{vX>N<mv=Et?:VQ(X5Iw,lZUZ$w,S=&8m+%Bt0eyG0;:T#IAJ]#-0Yk9GiV#:B}Mo/gDim'_>OI/]M&:B}%~:-cbuk'n(jlO|K+po=zyY3nkx_i'4=aM?;UYppy&S;`Lx>|/0%J@?A#'rcmtML~w&J)cf#k;/+(w81;*/#;mWZ(BVo(8.x0)^h&HtGS*>1}%ydvH@y:jIjgU]5TKTx<S?|A56ymd}t$e;8&S{A`r30WBf-%{&iFJJI<D0y<fIFb@P%j$L8;,*>-lW#.S^GW4mOSUoVx;_CcBv8Mc:;_*FoPH1j},qQ$Yt75#pf{G$v}~}$1dG$(6Sf'F6F8-ESpR1YIk~Qf@T}V&la9B7j2h8*Av;?NWtC`zLmB5u*9ump0]p$+cYlylYmdM>MPMb=mPK*~(]d6om.iQ$4B+W|0S.H;q}t':OYr0,]Ucdr>]U6:o9V9d:im0lF|ij`xU<QPK2h9~O{/Htl6ZaSTn41F>o5V0egu$(dl]RQ`UR7Gca/cQauO/+AL(@6If3G*.h9GH~W|@mWIoci3}yJMV7@t|0RRQ0,s8-RG#c;N&1c'eu0m;H(g0jlWap$F?Gs6*7>^1K$*;z'DTqHJ_lY|c(sIE,a?nxlx*X/NdyAgS~]F0.P,9c(3@1/;`l(xK]3('$}Y,m]u;SE7M(H]+hJxCAW(l>>b:@PJl#Lmiq;4N9J$Ll-TBWDQV@|4'*,P+<oTUGHWgMK@2K,wj0+^EY}ZFDW1esE@fXptU)91)xlC+j?qZ^I=vI0/w4~uE&jq`]HeC(GHCo1PBx{CB%B#/erGAx35,qUAa^Nf*f50.NFcMU'/3b):&dDN>?SBT.td_e2?*tR$k-DO+L+{GC'$s{H0EP2kL#l->3v)Phy0qH;mPyoYMSL1?95cq/,ztI&<J'4B:uuwP@4M)EBn~+&|%U)6*I7wIl@;4jeN]U1Y-EMeCm9S#O$Pp}7x2JO)s}F2pR-qHv4fQ8>-(-%ykf3uz:|2M5.m$'A+^//k=m+brVyu1zny]&JK7+G}n]d-&,x?)OV%_u9yThDNL]G>b@EUCT^?T.>C&>BMd`070L'Y40I^RCcv:R+9AUSI?M]R+4i$7]A;t>*mP@7+jqJCL4=)l*WQV?Jsm~YKEF9DFznW*Xz1SQDG?Ta?KXLa=j2R-D#'NL4R:@hiQRQe,^opq~{9-`4wL**~|m}+Eiro(|X~WG<#)4~%'RF_*kRv%/,gpAMVjX4rN;]sFB9hjt%&Lo>'4:,SM-yxIxpj?M;>Le7vvrRaHL#Z66z%eE+07r#~o6OTPKt'*F~b=0i&,h(%Q_ui6=fc%ts35mRel~A)F^uB(%{y9+.IG^/(t#6f^jf9<c'](]aiVMi`?pL)_%l]_pZ74jWP66O2kGFW`m-W9|v5%'@nZh}ccY8CJ(ns0VB&PrMwbhV4jZ'/8-)](nko<5E/zJ.ppp"
theorem Z0{c:Sort _}{b:Prop}{a:c}:a=a∨b:=Or.inl rfl
theorem Z1{c:Sort _}{b:Prop}{a:c}:b∨a=a:=Or.inr rfl
def Z2:=@PySem.wpAny_bind
def Z3:=@PySem.wpAny_pure
def Z4:=@List.getElem?_eq_getElem
def Z6:=@List.length_map
def Z7:=@PySem.Heap.get?_push_of_some
def Z8:=@List.mem_of_getElem?
def Z9:=@List.length_append
def Za:=@Option.some.inj
def Zb:=@Array.length_toList
def Zc:=@List.getD_eq_getElem?_getD
def Zd:=@List.map_append
def Ze:=@List.append_assoc
def Zf:=@decide_eq_true
def Zg:=@Nat.lt_of_lt_of_le
def Zh:=@decide_eq_false
def Zi:=@Nat.le_refl
def Zj:=@PySem.Heap.get?_push_size
def Zk:=@List.mem_cons_of_mem
def Zl:=@List.getElem?_map
def Zm:=@List.mem_cons_self
def Zn:=@List.take_of_length_le
def Zo:=@of_decide_eq_true
def Zp:=@List.size_toArray
def Zq:=@PySem.Heap.size_push
def Zr:=@List.length_cons
def Zs:=@Array.getD_eq_getD_getElem?
def Zt:=@Nat.ne_of_lt
def Zu:=@Bool.false_ne_true
def Zv:=@PySem.Heap.lt_size
def Zw:=@Nat.add_sub_cancel_left
def Zx:=@Bool.and_eq_true
def Zy:=@List.any_cons
def Zz:=@List.append_nil
def Y0:=@List.ext_getElem
def Y1:=@Bool.false_eq_true
def Y2:=@List.filterMap_cons
def Y3:=@List.filter_append
def Y4:=@List.filter_cons_of_neg
def Y6:=@List.filter_cons_of_pos
def Y7:=@List.filter_nil
def Y8:=@List.foldl_cons
def Y9:=@List.getElem?_append_left
def Ya:=@List.getElem?_append_right
def Yb:=@List.getElem?_drop
def Yc:=@List.getElem?_take
def Yd:=@List.getElem_mem
def Ye:=@List.getElem_of_mem
def Yf:=@Nat.le_of_ble_eq_true
def Yg:=@Nat.le_of_lt
def Yh:=@Nat.le_succ
def Yi:=@Nat.le_trans
def Yj:=@List.length_drop
def Yk:=@List.length_filter_le
def Yl:=@List.length_range
def Ym:=@List.length_singleton
def Yn:=@List.length_take
def Yo:=@List.lookup_cons
def Yp:=@Nat.lt_succ_of_lt
def Yq:=@Nat.lt_succ_self
def Yr:=@List.map_congr_left
def Ys:=@List.map_cons
def Yt:=@List.map_map
def Yu:=@List.mem_append
def Yv:=@List.mem_append_left
def Yw:=@List.mem_append_right
def Yx:=@List.mem_cons
def Yy:=@List.mem_of_mem_drop
def Yz:=@List.mem_of_mem_take
def X1:=@Nat.min_eq_left
def X2:=@Nat.ne_of_gt
def X3:=@List.nodup_append
def X4:=@List.nodup_iff_pairwise_ne
def X6:=@List.nodup_nil
def X7:=@Nat.not_lt_zero
def X8:=@List.not_mem_nil
def X9:=@Bool.or_eq_false_iff
def Xa:=@List.pairwise_map
def Xb:=@List.range_succ
def Xc:=@List.take_add_one
def Xd:=@List.take_append_drop
def Xe:=@List.take_append_of_le_length
def Xf:=@Array.toList_append
def Xg:=@Nat.zero_le
def Xh:=@List.getElem?_of_mem
def Xi:=@List.Pairwise.imp_of_mem
def Xj:=@Int.eq_ofNat_of_zero_le
def Xk:=@Array.size_push
def Xl:=@Nat.lt_irrefl
def Xm:=@List.Perm.append_right
theorem Xn{b:Type _}{l:List b}{i:Nat}{a:b}(h:l[i]?=some a):∃h:i<l.length,l[i]=a:=List.getElem?_eq_some_iff.mp h
theorem Xo{b:Type _}{a:b}{s t:List b}(h:a∈s++t):a∈s∨a∈t:=List.mem_append.mp h
theorem Xp{c:Type _}{a b:c}(h:a∈[b]):a=b:=List.mem_singleton.mp h
theorem Xq{c d:Type _}{f:c->d}{l:List c}{b:d}(h:b∈l.map f):∃a,a∈l/\f a=b:=List.mem_map.mp h
theorem Xr{c d:Type _}{f:c->d}{l:List c}{b:d}(h:∃a,a∈l/\f a=b):b∈l.map f:=List.mem_map.mpr h
open Array (forIn_toList getD_eq_getD_getElem? getElem?_toList length_toList mem_toList_iff size_append size_map toList_append toList_extract toList_push)
open Bool (and_eq_true false_eq_true or_eq_false_iff or_eq_true)
open List (all_eq_true all_map any_cons any_eq_true any_map append_nil cons_append countP_cons drop_drop drop_zero ext_getElem ext_getElem? filterMap_cons filter_append filter_cons filter_cons_of_neg filter_cons_of_pos filter_nil flatMap_append foldl_cons forIn_cons getD_eq_getElem?_getD getElem?_append_left getElem?_append_right getElem?_drop getElem?_map getElem?_range getElem?_take getElem?_take_of_lt getElem_mem getElem_of_mem length_append length_cons length_drop length_eq_zero_iff length_filter_le length_map length_nil length_pos_iff length_range length_singleton length_take length_zip lookup_cons map_append map_congr_left map_cons map_id map_map map_nil map_take mem_append mem_append_left mem_append_right mem_cons mem_cons_of_mem mem_cons_self mem_filterMap mem_flatMap mem_map mem_of_mem_drop mem_of_mem_take mem_range mem_singleton nil_append nodup_append nodup_cons nodup_iff_pairwise_ne nodup_nil nodup_range not_mem_nil of_mem_zip pairwise_append pairwise_map perm_append_comm range_succ size_toArray take_add_one take_append_drop take_append_of_le_length take_of_length_le take_sublist)
open Nat (add_mod add_sub_cancel add_sub_cancel_left add_zero le_add_right le_of_ble_eq_true le_of_lt le_refl le_succ le_trans le_zero lt_of_lt_of_le lt_succ_of_lt lt_succ_self min_eq_left mod_lt ne_of_gt ne_of_lt not_lt_zero one_pos pow_succ sub_self succ_pos zero_add zero_le)
open Option (bind_some getD_none getD_some isSome_iff_exists isSome_map map_eq_some_iff map_some)
open PyProof.Rows (boot_all boot_any boot_int boot_isinstance boot_list boot_max boot_min boot_set boot_sorted boot_str boot_tuple)
open PySem.F (called_set plainAttrs_dict plainAttrs_list plainAttrs_str slot_dict_get slot_str_join type_dict_get type_str_join)
open PySem.Heap (SameBut get?_push_of_some get?_push_size get?_update_other get?_update_self lt_size)
open PySem.W (KatTups KitX Looks any_some callWith_K cellsFrom_some check_slot clsIn codeIn emptyDict findCls findIn findObj findObj_own fnOf handedIn hasDictIn hideAll hideAll_get instObj isFn keepIn kia_one kitAny kitOne kitx_dict kitx_list kitx_none lookIn looks_clsIn looks_find looks_findIn looks_hook looks_subIn makesIn mg_of mroIn nsIn of_hideAll plainGet plainGet_of plainOver readsIn set_plain specialIn subIn takerIn takesIn typeIn)
set_option maxHeartbeats 0
set_option Elab.async false
set_option compiler.extract_closed false
set_option maxRecDepth 100000
section
open PySem
local macro_rules|`(⋯)=>`(by lia)|`(∅)=>`(by simp)
local macro_rules|`(⇑$s:ident)=>`(Shared.heap $s|>.objs.size)
local macro_rules|`(~~~$x:ident)=>`(wpAny (model ($x).prog ($x).w) ($x).A)
local macro_rules|`($s:ident>>>$e)=>`({$s with heap:=$e})
local macro_rules|`(%[$x,*|$y])=>`(⟨$x,*,$y⟩)
def zqp:Nat->Lean.Syntax->Lean.Syntax
 |n+1,.node i k a=>if k==`«term%[_|_]»then .node i `Lean.Parser.Tactic.rcasesPat.tuple #[.atom i "⟨",.node i `null (a[1]!.getArgs.push (.atom i ",")|>.push a[3]!|>.map λx=>if x.isAtom then x else .node i `Lean.Parser.Tactic.rcasesPatLo #[.node i `Lean.Parser.Tactic.rcasesPatMed #[.node i `null #[zqp n x]],.node i `null #[]]),.atom i "⟩"]else .node i `Lean.Parser.Tactic.rcasesPat.ignore #[.atom i "_"]
 |_,x=>.node .none `Lean.Parser.Tactic.rcasesPat.one #[x]
local macro_rules|`(tactic|have $p:term:=$h)=>if p.raw.isOfKind `«term%[_|_]»then`(tactic|obtain $(⟨zqp 99 p⟩):rcasesPat:=$h)else Lean.Macro.throwUnsupported
local macro_rules|`(tactic|intro $p*)=>if p.any (·.raw.isOfKind `«term%[_|_]»)then do
  let q:=p.map λx=>(⟨.node .none `Lean.Parser.Tactic.rintroPat.one #[zqp 99 x]⟩:Lean.TSyntax `rintroPat)
  `(tactic|rintro $q*)else Lean.Macro.throwUnsupported
set_option hygiene false in
local macro_rules|`(↥$a:ident)=>`(wpAny (model prog w) $a)
set_option hygiene false in
local macro_rules|`(command|#where)=>`(variable{prog:Program}{w:World}{A:Around}{E:ZD}{s:Shared})
set_option hygiene false in
local macro_rules|`(command|#version)=>`(variable{X:Cx}{pins:ZE}{σ:St}{H:Hp}{s:Shared})
abbrev ZA:=PySem.W.Frag
abbrev ZB:=List PySem.Str
abbrev ZC:=PySem.Str->Option PySem.Value
abbrev ZD:=PySem.Value->PySem.Shared->Prop
abbrev ZE:=List (PySem.Addr×PySem.Obj)
abbrev ZF:=List PySem.Value
abbrev ZG:=List (PySem.Addr×List PySem.Str)
abbrev ZH:=List (PySem.Addr×PySem.Str×List PySem.Str)
abbrev ZI:=Option PySem.Addr
abbrev ZJ:=Array PySem.Value
abbrev ZK:=Array (Option PySem.Value)
abbrev ZL:=List Int
set_option genSizeOf false
set_option genInjectivity false
set_option bootstrap.genMatcherCode false
namespace L2
open PySem PySem.Spec PyProof.Rows
noncomputable abbrev Key:=Sum Int Str
noncomputable def jt:Key->Value->Bool
 | .inl k,v=>Value.isInt k v
 | .inr x,v=>Value.isStrOf x v
noncomputable def keyH(w:World):Key->Int
 | .inl k=>hashInt k
 | .inr x=>hashStr w x
theorem bi:∀{k:Key} {v:Value},jt k v=true->(∃i t,k=Sum.inl i/\v=Value.int i t)\/(∃x t,k=Sum.inr x/\v=Value.str x t)
 | .inl i,v,h=>by
   have%[t|e]:=Value.isInt_shape h;exact .inl %[i,t,rfl|e]
 | .inr x,v,h=>by
   have%[t|e]:=Value.isStrOf_shape h;exact .inr %[x,t,rfl|e]
theorem xt(i:Int)(t:Tok):jt (.inl i) (.int i t)=true:=by simp[jt,Value.isInt]
theorem df(x:Str)(t:Tok):jt (.inr x) (.str x t)=true:=by simp[jt,Value.isStrOf]
theorem DH(a b:Int):decide ((Sum.inl a:Key)=Sum.inl b)=(a==b):=by
 by_cases e:a=b
 .subst e;simp
 simp_all
theorem DI(a b:Str):decide ((Sum.inr a:Key)=Sum.inr b)=decide (a=b):=by
 simp
noncomputable def aQ(prog:Program)(w:World):PySem.KeyKind prog w Key where
 is:=jt
 hash:=keyH w
 inj:=λv a b ha hb=>by
  rcases bi ha with⟨i,t,rfl,rfl⟩|⟨x,t,rfl,rfl⟩
  .rcases bi hb with⟨j,u,rfl,e⟩|⟨y,u,rfl,e⟩
   .injection e with e1 _;rw[e1]
   .exact nomatch e
  .rcases bi hb with⟨j,u,rfl,e⟩|⟨y,u,rfl,e⟩
   .exact nomatch e
   .injection e with e1 _;rw[e1]
 byValue:=λk v h=>by
  rcases bi h with⟨i,t,rfl,rfl⟩|⟨x,t,rfl,rfl⟩<;> rfl
 pyHash:=λhv h=>by
  rcases bi hv with⟨i,t,rfl,rfl⟩|⟨x,t,rfl,rfl⟩
  .exact wpAny_pyHash_int h
  .exact wpAny_pyHash_str h
 eqBool:=λhu hv h=>by
  rcases bi hu with⟨i,t,rfl,rfl⟩|⟨x,t,rfl,rfl⟩
  .rcases bi hv with⟨j,u,rfl,rfl⟩|⟨y,u,rfl,rfl⟩
   .rw[DH]at h;exact wpAny_eqBool_int h
   .exact SeqAt.EqAt.int_str i t y u _ _ _ _ h
  .rcases bi hv with⟨j,u,rfl,rfl⟩|⟨y,u,rfl,rfl⟩
   .exact SeqAt.EqAt.str_int x t j u _ _ _ _ h
   .rw[DI]at h;exact wpAny_eqBool_str h
 «strs»:=λk x t v h=>by
  rcases bi h with⟨i,u,rfl,e⟩|⟨y,u,rfl,e⟩
  .exact nomatch e
  .injection e with e1 _
   subst e1;cases v<;> rfl
theorem sF(prog:Program)(w:World)(i:Int)(t:Tok):(aQ prog w).is (.inl i) (.int i t)=true:=xt i t
theorem sG(prog:Program)(w:World)(x:Str)(t:Tok):(aQ prog w).is (.inr x) (.str x t)=true:=df x t
set_option genInjectivity true in
inductive V where
 | non|bl (b:Bool)|int (i:Int)|str (x:Str)|byt (b:Array UInt8)|flt (b:UInt64)|ref (a:Addr)|ty (n:String)
 deriving DecidableEq
def aR:V->Value->Prop
 | .non,u=>u=Value.none
 | .bl b,u=>u=Value.bool b
 | .int i,u=>∃t,u=Value.int i t
 | .str x,u=>∃t,u=Value.str x t
 | .byt b,u=>∃t,u=Value.bytes b t
 | .flt b,u=>∃t,u=Value.float b t
 | .ref a,u=>u=Value.ref a
 | .ty n,u=>u=Value.type n
abbrev aC:List V->ZF->Prop:=Paired aR
theorem aC.length{xs:List V}{us:ZF}(r:aC xs us):xs.length=us.length:=Paired.length r
theorem aC.get:∀{xs:List V} {us:ZF} {i:Nat} {x:V},aC xs us->xs[i]? =some x->∃u,us[i]? =some u/\aR x u
 | _,_,_,_,.nil,e=>by simp at e
 | _,_,0,_,.cons r _,e=>by simp at e;subst e;exact%[_,rfl|r]
 | _,_,i+1,x,.cons _ t,e=>by
   have%[u,a|b]:=aC.get t (e);exact%[u,a|b]
theorem aC.append:∀{xs ys:List V} {us ws:ZF},aC xs us->aC ys ws->aC (xs++ys) (us++ws)
 | _,_,_,_,.nil,s=>s
 | _,_,_,_,.cons r t,s=> .cons r (aC.append t s)
theorem aC.take:∀{xs:List V} {us:ZF} n,aC xs us->aC (xs.take n) (us.take n)
 | _,_,0,_=> .nil
 | _,_,_+1,.nil=> .nil
 | _,_,n+1,.cons r t=> .cons r (aC.take n t)
theorem aC.drop:∀{xs:List V} {us:ZF} n,aC xs us->aC (xs.drop n) (us.drop n)
 | _,_,0,r=>r
 | _,_,_+1,.nil=> .nil
 | _,_,n+1,.cons _ t=>aC.drop n t
def fk:Option V->Option Value->Prop
 | some v,some u=>aR v u
 | none,none=>True
 | _,_=>False
noncomputable def KV{a:Type}:List (a×V)->List (a×Value)->Prop:=Paired λp q=>p.1=q.1/\aR p.2 q.2
noncomputable def kV:Key->V
 | .inl i=> .int i
 | .inr x=> .str x
set_option genInjectivity true in
inductive HO where
 | lst (xs:List V)
 | tup (xs:List V)
 | dK (kvs:List (Key×V))|dT (kvs:List (List Key×V))
 | set (S:Int->Bool) (n:Nat)
 | ins (C dx:Addr) (fs:List (Str×V))
 | own (x:Addr)
 | xd (fs:List (Str×V))
 | met (f x:Addr)
 | rng (lo hi:Int)
 | frz (o:Obj) (u:HO)
 | tbl (ps:ZJ)
 | ext (φ:Heap->Prop)
noncomputable abbrev Hp:=Addr->Option HO
noncomputable def upd(H:Hp)(a:Addr)(o:HO):Hp:=λb=>if b=a then some o else H b
theorem ae:upd H a o a=some o:=by unfold upd;rw[if_pos rfl]
theorem ao{H:Hp}{a b:Addr}{o:HO}(h:b≠a):upd H a o b=H b:=by unfold upd;rw[if_neg h]
theorem l7{H:Hp}(h:H a=some o)(h':H b=some u)(d:o≠u):a≠b:=by
 intro e;subst e;rw[h]at h';exact d (Za h')
theorem aw{H:Hp}{a b:Addr}{o:HO}(h:H a=some o)(h':H b=none):a≠b:=by
 lia
section
variable(P:Program)(w:World)
def ck(H:Hp)(h:Heap)(a:Addr):HO->Prop
 | .lst xs=>xs.length<=sizeLine/\∃(its:ZF) (n:Nat),aC xs its/\h.get? a=some {cls:= .type "list",data:= .seq its.toArray n}
 | .tup xs=>xs.length<=sizeLine/\∃its:ZF,aC xs its/\IsTup h a its.toArray
 | .dK b=>b.length<=sizeLine/\(a==sysModules)=false/\∃vs,KV b vs/\h.DictOf (aQ P w) a vs
 | .dT b=>b.length<=sizeLine/\(a==sysModules)=false/\∃xs:List (List Key×Addr×Value),
  Paired (λ(p:List Key×V) (q:List Key×Addr×Value)=>p.1=q.1/\H q.2.1=some (.tup (p.1.map kV))/\aR p.2 q.2.2) b xs/\
  ∃o g l,h.get? a=some o/\o.ExactDict/\o.data= .dict g l/\g.toList=xs.map (entryOfKey (tupleKind (aQ P w)))/\(xs.map (·.1)).Nodup
 | .set S n=>h.SetOf (intKind P w) a S n
 | .ins C d fs=>H d=some (.own a)/\fs.length<=1000/\d≠a/\h.get? a=some (instObj C d)/\
  ∃c,h.Ns1 d c/\(∀f,fk (fs.lookup f) (c f))/\PySem.Within c (fs.map (·.1))
 | .own _=>∃o,h.get? a=some o
 | .xd fs=>∃c,h.Ns1 a c/\∀f,fk (fs.lookup f) (c f)
 | .rng lo hi=>∃t u v,h.get? a=some {cls:= .type "range",data:= .fields #[.int lo t,.int hi u,.int 1 v]}
 | .frz o u=>h.get? a=some o/\ck H h a u
 | .tbl ps=>h.get? a=some {cls:= .none,data:= .fields ps}
 | .met f x=>h.get? a=some (PySem.W.methodObj (.ref f) (.ref x))
 | .ext e=>e h/\(∃o,h.get? a=some o)/\∀i j,e i->(∀o,i.get? a=some o->j.get? a=some o)->e j
def HOk(H:Hp)(h:Heap):Prop:=∀a o,H a=some o->ck P w H h a o
end
section
variable{P:Program}{w:World}{H H':Hp}{h h':Heap}{a:Addr}{o:HO}
theorem ck.lt(x:ck P w H h a o):a<h.objs.size:=by
 cases o with
 | lst xs=>have%[_,_,_,_|e]:=x;exact Zv e
 | tup xs=>have%[_,_,_|p]:=x;exact p.lt
 | dK b=>have%[_,_,_,_,o,_,_,e|_]:=x;exact Zv e
 | dT b=>have%[_,_,_,_,o,_,_,e|_]:=x;exact Zv e
 | set S n=>have%[o,_,_,_,e|_]:=x;exact Zv e
 | ins C c fs=>have%[_,_,_,e|_]:=x;exact Zv e
 | own y=>have%[_|e]:=x;exact Zv e
 | xd fs=>have%[_,%[_,_,_,e|_]|_]:=x;exact Zv e
 | rng lo hi=>have%[_,_,_|e]:=x;exact Zv e
 | frz d u=>have%[e|_]:=x;exact Zv e
 | tbl ps=>exact Zv (x)
 | met f y=>exact Zv (x)
 | ext g=>have%[_,%[_|e]|_]:=x;exact Zv e
theorem Paired.mapP{F G:c->d->Prop}:∀{l₁:List c} {l₂:List d},Paired F l₁ l₂->(∀a b,F a b->G a b)->Paired G l₁ l₂
 | _,_,.nil,_=> .nil
 | _,_,.cons r t,f=> .cons (f _ _ r) (Paired.mapP t f)
theorem ck.stay(x:ck P w H h a o)(k:∀b u,(b=a\/H b=some (.own a))->h.get? b=some u->h'.get? b=some u)
 (s:∀b,H b=some (.own a)->H' b=some (.own a)) (A:∀b xs,H b=some (.tup xs)->H' b=some (.tup xs)):ck P w H' h' a o:=by
 induction o with
 | lst xs=>have%[z,its,n,r|e]:=x;exact%[z,its,n,r|k _ _ (.inl rfl) e]
 | tup xs=>have%[z,its,r,g,e|c]:=x;exact%[z,its,r,g,k _ _ (.inl rfl) e|c]
 | dK l=>have%[z,y,vs,r,g,i,j,e|c]:=x;exact%[z,y,vs,r,g,i,j,k _ _ (.inl rfl) e|c]
 | dT l=>
   have%[z,y,xs,r,g,i,j,e|c]:=x;exact%[z,y,xs,Paired.mapP r λp q z=>%[z.1,A _ _ z.2.1|z.2.2],g,i,j,k _ _ (.inl rfl) e|c]
 | set S n=>have%[g,i,j,t,e|c]:=x;exact%[g,i,j,t,k _ _ (.inl rfl) e|c]
 | ins C G fs=>
   have%[d,z,ne,e,m,%[od,i,j,B|c]|r]:=x;exact%[s _ d,z,ne,k _ _ (.inl rfl) e,m,%[od,i,j,k _ _ (.inr d) B|c]|r]
 | own y=>have%[g|e]:=x;exact%[g|k _ _ (.inl rfl) e]
 | xd fs=>have%[m,%[od,i,j,e|c]|r]:=x;exact%[m,%[od,i,j,k _ _ (.inl rfl) e|c]|r]
 | rng lo hi=>have%[t,u,v|e]:=x;exact%[t,u,v|k _ _ (.inl rfl) e]
 | frz g u E=>have%[e|q]:=x;exact%[k _ _ (.inl rfl) e|E q]
 | tbl ps=>
   exact k a _ (.inl rfl) x
 | met f y=>
   exact k a _ (.inl rfl) x
 | ext I=>have%[p,%[o|e]|st]:=x;exact%[st _ _ p λo q=>k _ _ (.inl rfl) q,%[o|k _ _ (.inl rfl) e]|st]
theorem HOk.lt(x:HOk P w H h)(e:H a=some o):a<h.objs.size:=(x a o e).lt
theorem HOk.fresh(x:HOk P w H h)(e:h.objs.size<=a):H a=none:=by
 cases q:H a with
 | none=>rfl
 | some u=>exact absurd (Zg (x.lt q) e) (Xl _)
theorem HOk.kept(x:HOk P w H h)(k:∀b u,h.get? b=some u->h'.get? b=some u):HOk P w H h':=λa o e=>
 (x a o e).stay (λb u _ q=>k b u q) (λ_ q=>q) λ_ _ q=>q
theorem HOk.laid(x:HOk P w H h)(k:∀b u,h.get? b=some u->h'.get? b=some u)(g:h.objs.size<=a)(new:ck P w (upd H a o) h' a o):HOk P w (upd H a o) h':=λb u e=>by
 have d:=x.fresh g;by_cases f:b=a
 .subst f;rw[ae]at e;grind
 .rw[ao f]at e;exact(x b u e).stay (λc v _ q=>k c v q) (λc q=>(ao (aw q d))▸q) λc xs q=>(ao (aw q d))▸q
end
def Rd(H:Hp)(a:Addr)(u:HO):Prop:=H a=some u\/∃o,H a=some (.frz o u)
theorem Rd.ok{P:Program}{w:World}{H:Hp}{h:Heap}{a:Addr}{u:HO}(r:Rd H a u)(x:HOk P w H h):ck P w H h a u:=by
 rcases r with r|⟨o,r⟩
 .exact x a u r
 .have%[_|q]:=x a _ r;exact q
def Mut:Option HO->Prop
 | some (.lst _)=>True
 | some (.dK _)=>True
 | some (.dT _)=>True
 | some (.set _ _)=>True
 | some (.ins _ _ _)=>True
 | some (.ext _)=>True
 | _=>False
section
variable{P:Program}{w:World}{H:Hp}{h h':Heap}{x e:Addr}{o':HO}
theorem HOk.write(ok:HOk P w H h)(g:Mut (H x))(m:e=x\/H e=some (.own x))(k:∀b u,b≠e->h.get? b=some u->h'.get? b=some u)(i:∃u,h'.get? e=some u)
 (new:ck P w (upd H x o') h' x o'):HOk P w (upd H x o') h':=λb u q=>by
 have d:∀c y,H c=some (.own y)->c≠x:=λc y r z=>by subst z;rw[r]at g;exact g
 have f:∀c xs,H c=some (.tup xs)->c≠x:=λc xs r z=>by subst z;rw[r]at g;exact g
 by_cases j:b=x
 .subst j;rw[ae]at q;grind
 .rw[ao j]at q;by_cases a:b=e
  .have l:H b=some (.own x):=by
    rcases m with z|z
    .exact absurd (a.trans z) j
    .exact a▸z
   rw[q]at l;cases l;have%[v|n]:=i;exact%[v|a▸n]
  .refine(ok b u q).stay (λc v o r=>k c v ?_ r) (λc r=>(ao (d c b r))▸r) λc xs r=>(ao (f c xs r))▸r
   grind
end
structure Un (fs ex:List Addr) (H H':Hp) (h h':Heap):Prop where
 keep:∀b o,h.get? b=some o->H b=none->b∉fs->b∉ex->h'.get? b=some o
 slot:∀b o,h.get? b=some o->H b=none->b∈fs->b∉ex->∃sl,h'.get? b=some {o with slots:=sl}
 free:∀b o,h.get? b=some o->H b=none->b∉ex->H' b=none
 there:∀b o,h.get? b=some o->b∉ex->∃o',h'.get? b=some o'
 tups:∀b xs,H b=some (.tup xs)->H' b=some (.tup xs)
 frzs:∀b o u,H b=some (.frz o u)->H' b=some (.frz o u)
 tbls:∀b ps,H b=some (.tbl ps)->∃more,H' b=some (.tbl (ps++more))
section
variable{fs fs' ex ex':List Addr}{H H1 H2:Hp}{h h1 h2 h':Heap}{a x e:Addr}{o:HO}
theorem Un.any(u:Un fs ex H H1 h h1)(q:h.get? b=some c)(n:H b=none)(d:b∉ex):∃g,h1.get? b=some {c with slots:=g}:=by
 by_cases f:b∈fs
 .exact u.slot b c q n f d
 .exact%[c.slots|u.keep b c q n f d]
theorem Un.trans(a:Un fs ex H H1 h h1)(b:Un fs ex H1 H2 h1 h2):Un fs ex H H2 h h2 where
 keep:=λc ob q n hc hx=>b.keep c ob (a.keep c ob q n hc hx) (a.free c ob q n hx) hc hx
 slot:=λc ob q n hc hx=>by
  have%[sl|e1]:=a.slot c ob q n hc hx;have%[sl'|e2]:=b.slot c _ e1 (a.free c ob q n hx) hc hx;exact%[sl'|e2]
 free:=λc ob q n hx=>by
  have%[o'|e1]:=a.there c ob q hx;exact b.free c o' e1 (a.free c ob q n hx) hx
 there:=λc ob q hx=>by
  have%[o'|e1]:=a.there c ob q hx;exact b.there c o' e1 hx
 tups:=λc xs q=>b.tups c xs (a.tups c xs q)
 frzs:=λc ob xs q=>b.frzs c ob xs (a.frzs c ob xs q)
 tbls:=λc ps q=>by
  have%[m1|e1]:=a.tbls c ps q;have%[m2|e2]:=b.tbls c _ e1;exact%[m1++m2|by rw[e2,Array.append_assoc]]
theorem Un.kept(k:∀b u,h.get? b=some u->h'.get? b=some u):Un fs ex H H h h':=
 %[λb c q _ _ _=>k b c q,λb c q _ _ _=>%[c.slots|k b c q],λ_ _ _ n _=>n,λb c q _=>%[c|k b c q],λ_ _ q=>q,λ_ _ _ q=>q|λ_ ps q=>%[#[]|by rw[q];simp]]
theorem Un.refl:Un fs ex H H h h:=Un.kept λ_ _ q=>q
theorem Un.laid(k:∀b u,h.get? b=some u->h'.get? b=some u)(hp:h.objs.size<=a)(hn:H a=none):Un fs ex H (upd H a o) h h' where
 keep:=λb u q _ _ _=>k b u q
 slot:=λb u q _ _ _=>%[u.slots|k b u q]
 free:=λb u q n _=>(ao (Zt (Zg (Zv q) hp)))▸n
 there:=λb u q _=>%[u|k b u q]
 tups:=λb xs q=>(ao (aw q hn))▸q
 frzs:=λb u xs q=>(ao (aw q hn))▸q
 tbls:=λb ps q=>%[#[]|by rw[ao (aw q hn),q];simp]
theorem Un.write(f:Mut (H x))(l:e=x\/H e=some (.own x))(k:∀b u,b≠e->h.get? b=some u->h'.get? b=some u)(i:∃u,h'.get? e=some u):Un fs ex H (upd H x o) h h':=by
 have j:∀b,H b=none->b≠x:=λb n z=>by subst z;rw[n]at f;exact f
 have g:∀b,H b=none->b≠e:=λb n z=>by
  simp_all
 have c:∀b u,H b=some u-> ¬ Mut (some u)->b≠x:=λb u q m z=>by simp_all
 refine%[λb u q n _ _=>k b u (g b n) q,λb u q n _ _=>%[u.slots|k b u (g b n) q],λb u q n _=>(ao (j b n))▸n,λb u q _=>?_,
  λb xs q=>(ao (c b _ q λz=>z))▸q,λb u xs q=>(ao (c b _ q λz=>z))▸q|λb ps q=>%[#[]|by rw[ao (c b _ q λz=>z),q];simp]]
 by_cases d:b=e
 .simp_all
 .exact%[u|k b u d q]
end
noncomputable def trk(h:Heap)(H:Hp):List Addr:=(List.range h.objs.size).filter λa=>(H a).isSome
noncomputable def xu(h:Heap)(H:Hp):Heap:=hideAll h (trk h H)
theorem xv(h:Heap)(H:Hp):(xu h H).objs.size=h.objs.size:=PySem.W.hideAll_size _ _
theorem yZ(e:h.get? b=some o)(n:H b=none):(xu h H).get? b=some o:=
 hideAll_get _ e λa=>by
  have q:=(List.mem_filter.mp a).2;rw[n]at q;simp at q
theorem BL(e:(xu h H).get? b=some o):h.get? b=some o/\H b=none:=by
 have a:=of_hideAll _ e;refine%[a|?_];cases q:H b with
 | none=>rfl
 | some x=>
   have z:(xu h H).get? b=none:=PySem.W.hideAll_none _ (List.mem_filter.mpr %[mem_range.mpr (Zv a)|by simp[q]])
   grind
noncomputable def BM(g h:Heap)(L:Addr):ZE:=(List.range h.objs.size).filterMap λa=>if a=L\/(g.get? a).isSome=true then none else(h.get? a).map λo=>(a,o)
noncomputable def rest(g h:Heap)(L d:Addr):ZE:=(BM g h L).filter λp=>decide (p.1≠d)
structure Mod (K:ZA) (mg:ZC) (base:Heap):Prop where
 kin:K.In base
 glob:base.Ns mainGlobals mg
 blt:∃mb,base.Ns builtinsNs mb/\∀x:Str,x≠"__name__"->mb x=bootBuiltins x
 nolimit:base.NoLimit
structure Cx where
 prog:Program
 w:World
 K:ZA
 mg:Str->Option Value
 base:Heap
 A:Around
 N:ZB
 s₀:Shared
 H₀:Hp
 env:Env
 outer:List Env
 stack:List Env
 ex:List Addr
 fn:Str->Bool
 calm:Bool
 pn:ZE
 xe:Value->Shared->Prop
noncomputable def frs(l:List Env):List Addr:=l.filterMap (·.frame)
noncomputable abbrev Cx.fs(X:Cx):List Addr:=frs X.outer
def Vis(a:Scope)(x:Str):Prop:=a.names.lookup x=some .local\/a.names.lookup x=some .cell\/a.names.lookup x=some .free
def Loc(a:Scope)(x:Str):Prop:=a.names.lookup x=some .local\/a.names.lookup x=some .cell
def Look(env:Env)(h:Heap)(m:ZC)(x:Str)(u:Value):Prop:=
 (env.kindOf x=some .local/\m x=some u)\/((env.kindOf x=some .cell\/env.kindOf x=some .free)/\∃c,env.cells.lookup x=some c/\h.IsCell c (some u))
structure Cx.Ok (X:Cx):Prop where
 mod:Mod X.K X.mg X.base
 kind:X.env.scope.kind= .function
 glob:X.env.globals=mainGlobals
 blt:X.env.builtins=builtinsNs
 above:X.s₀.heap.objs.size<=X.env.locals
 inj:∀x y c,X.env.cells.lookup x=some c->X.env.cells.lookup y=some c->x=y
 has:∀x,(X.env.kindOf x=some .cell\/X.env.kindOf x=some .free)->∃c,X.env.cells.lookup x=some c
 cab:∀x c,X.fn x=true->X.env.cells.lookup x=some c->X.s₀.heap.objs.size<=c
 hd:X.calm=true->X.A.handled=none
 frames:X.A.frames=some X.stack
 stk:X.stack=X.outer\/(X.stack=X.env::X.outer/\X.env.frame=some X.env.locals)
 exf:∀b∈X.ex,b≠X.env.locals/\∀x c,X.env.cells.lookup x=some c->c≠b
 bs:∀b o,X.base.get? b=some o->X.s₀.heap.get? b=some o/\X.H₀ b=none
 bsz:X.base.objs.size<=X.s₀.heap.objs.size
 noex:∀b o,X.base.get? b=some o->b∉X.ex
 exfs:∀b∈X.ex,b∉X.fs
 funs:X.s₀.heap.FunFrames X.base X.outer
 frf:∀b∈X.fs,X.H₀ b=none
structure Inv (X:Cx) (pins:List _) (σ:List _) (H:Hp) (s:Shared):Prop where
 ok:X.Ok
 os:s.os=X.s₀.os
 bare:AllBare s.gens
 base:Un X.fs X.ex X.H₀ H X.s₀.heap s.heap
 loc:∃m,s.heap.Ns X.env.locals m/\∀(i:Nat) x v,X.N[i]? =some x->σ[i]? =some (some v)->Vis X.env.scope x->∃u,aR v u/\Look X.env s.heap m x u
 cell:∀x c,X.env.cells.lookup x=some c->∃v,s.heap.IsCell c v
 free:H X.env.locals=none
 freeC:∀x c,X.env.cells.lookup x=some c->H c=none
 pin:∀p∈X.pn++pins,s.heap.get? p.1=some p.2/\H p.1=none/\p.1≠X.env.locals/\p.1∉X.fs/\∀v,p.2.data≠ .cell v
 hok:HOk X.prog X.w H s.heap
 len:σ.length=X.N.length
section
variable{X:Cx}{pins:ZE}{σ:List (Option V)}{H H':Hp}{s:Shared}{h':Heap}
theorem Cx.Ok.nofr(ok:X.Ok)(e:X.base.get? b=some o):b∉X.fs:=λa=>by
 have:=(ok.funs.mem a).1
 grind
theorem Inv.bs(I:Inv X pins σ H s):∀b o,X.base.get? b=some o->s.heap.get? b=some o/\H b=none:=λb o e=>
 %[I.base.keep b o (I.ok.bs b o e).1 (I.ok.bs b o e).2 (I.ok.nofr e) (I.ok.noex b o e)|I.base.free b o (I.ok.bs b o e).1 (I.ok.bs b o e).2 (I.ok.noex b o e)]
theorem Inv.bk(I:Inv X pins σ H s):∀b o,X.base.get? b=some o->s.heap.get? b=some o:=λb o e=>(I.bs b o e).1
theorem Inv.mod(I:Inv X pins σ H s):Mod X.K X.mg X.base:=I.ok.mod
theorem Inv.kIn(I:Inv X pins σ H s):X.K.In s.heap:=I.ok.mod.kin.keeps I.bk
theorem Inv.lt(I:Inv X pins σ H s):X.env.locals<⇑s:=let⟨_,a,_⟩:=I.loc;a.lt
theorem Inv.sz(I:Inv X pins σ H s):X.s₀.heap.objs.size<=⇑s:=Yi I.ok.above (Yg I.lt)
theorem Inv.nofs(I:Inv X pins σ H s)(h:⇑s<=a):a∉X.fs:=λb=>by
 have%[_,o,c|_]:=I.ok.funs.mem b;exact absurd (Zg (Zv c) (Yi I.sz h)) (Xl _)
theorem Inv.cne(I:Inv X pins σ H s):∀x c,X.env.cells.lookup x=some c->c≠X.env.locals:=λx c e z=>by
 have%[v,o,d|f]:=I.cell x c e;have%[m,%[g,h,i,a,b|_]|_]:=I.loc
 grind
theorem Inv.funs(I:Inv X pins σ H s):s.heap.FunFrames X.base X.outer:=by
 have all:∀l,(∀b∈frs l,b∈X.fs)->X.s₀.heap.FunFrames X.base l->s.heap.FunFrames X.base l:=by
  intro l
  induction l with
  | nil=>intro _ _;trivial
  | cons env r g=>
    intro f h;have%[i,%[L,o,a,j,m|n]|p]:=h;have c:=f L (by unfold frs;rw[Y2,a];exact Zm);have%[q|e]:=I.base.slot L o m (I.ok.frf L c) c λz=>I.ok.exfs L z c
    exact%[i,%[L,_,a,j,e|n]|g (λb d=>f b (by unfold frs;rw[Y2,a];exact Zk _ d)) p]
 exact all X.outer (λ_ d=>d) I.ok.funs
theorem Inv.stack(I:Inv X pins σ H s):s.heap.FunFrames X.base X.stack:=by
 rcases I.ok.stk with e|⟨e,a⟩
 .exact e▸I.funs
 .rw[e];have%[m,b|_]:=I.loc;exact .cons (by rw[I.ok.kind];decide) a b (Heap.get?_none_of_le (Yi I.ok.bsz I.ok.above)) I.funs
theorem Inv.stkSub(I:Inv X pins σ H s):∀b∈frs X.stack,b∈X.env.locals::X.fs:=λb a=>by
 rcases I.ok.stk with e|⟨e,c⟩
 .rw[e]at a;exact Zk _ a
 .rw[e]at a;unfold frs at a;rw[Y2,c]at a;exact a
theorem Inv.stkFree(I:Inv X pins σ H s):∀b∈frs X.stack,H b=none:=λb a=>by
 rcases mem_cons.mp (I.stkSub b a)with e|a
 .exact e▸I.free
 .have%[_,o,c|_]:=I.ok.funs.mem a;exact I.base.free b o c (I.ok.frf b a) λz=>I.ok.exfs b z a
theorem Inv.step{d':Drawn}{ch:List Addr}(I:Inv X pins σ H s)
 (f:∀b∈ch,(b∈X.ex\/X.s₀.heap.objs.size<=b)/\b≠X.env.locals/\(∀x c,X.env.cells.lookup x=some c->c≠b)/\∀p∈X.pn++pins,p.1≠b)
 (keep:∀b o,b≠X.env.locals->b∉X.fs->b∉ch->s.heap.get? b=some o->H b=none->h'.get? b=some o)
 (slot:∀b o,b≠X.env.locals->b∈X.fs->b∉ch->s.heap.get? b=some o->H b=none->∃E,h'.get? b=some {o with slots:=E}) (free:∀b o,b∉ch->s.heap.get? b=some o->H b=none->H' b=none)
 (there:∀b o,b∉ch->s.heap.get? b=some o->∃A,h'.get? b=some A)
 (tups:∀b xs,H b=some (.tup xs)->H' b=some (.tup xs)) (frzs:∀b o u,H b=some (.frz o u)->H' b=some (.frz o u)) (tbls:∀b ps,H b=some (.tbl ps)->∃more,H' b=some (.tbl (ps++more)))
 (Q:∀m,s.heap.Ns X.env.locals m->h'.Ns X.env.locals m) (G:HOk X.prog X.w H' h') (T:AllBare g'):
 Inv X pins σ H' {s with heap:=h',gens:=g',drawn:=d',toks:=t'}:=by
 have B:∀b o,X.s₀.heap.get? b=some o->b≠X.env.locals:=λb o e=>Zt (Zg (Zv e) I.ok.above)
 have j:∀b o,X.s₀.heap.get? b=some o->b∉X.ex->b∉ch:=λb o e a w=>by
  rcases(f b w).1 with z|z
  .exact a z
  .exact absurd (Zg (Zv e) z) (Xl _)
 have g:∀x c,X.env.cells.lookup x=some c->∀v,s.heap.IsCell c v->h'.IsCell c v:=λx c e v ⟨o,y,J⟩=>by
  have h:=λz=>(f c z).2.2.1 x c e rfl
  by_cases M:c∈X.fs
  .have%[E|q]:=slot c o (I.cne x c e) M h y (I.freeC x c e);exact%[_,q|J]
  .exact%[o,keep c o (I.cne x c e) M h y (I.freeC x c e)|J]
 refine%[I.ok,I.os,T,%[λb o e n w a=>?_,λb o e n w a=>?_,λb o e n a=>?_,λb o e a=>?_,λb xs e=>tups b xs (I.base.tups b xs e),λb o xs e=>frzs b o xs (I.base.frzs b o xs e)|λb ps e=>?_],?_,λx c e=>?_,?_,λx c e=>?_,λp N=>?_,G|I.len]
 .exact keep b o (B b o e) w (j b o e a) (I.base.keep b o e n w a) (I.base.free b o e n a)
 .have%[E|t]:=I.base.slot b o e n w a;have%[L|C]:=slot b _ (B b o e) w (j b o e a) t (I.base.free b o e n a);exact%[L|C]
 .have%[A|t]:=I.base.there b o e a;exact free b A (j b o e a) t (I.base.free b o e n a)
 .have%[A|t]:=I.base.there b o e a;exact there b A (j b o e a) t
 .have%[U|t]:=I.base.tbls b ps e;have%[m2|C]:=tbls b _ t;exact%[U++m2|by rw[C,Array.append_assoc]]
 .have%[m,Y|hl]:=I.loc;refine%[m,Q m Y|λi x v t C e3=>?_];have%[u,r|l]:=hl i x v t C e3;refine%[u,r|?_];rcases l with l|⟨k,c,e,z⟩
  .exact .inl l
  .exact .inr %[k,c,e|g x c e _ z]
 .have%[v|z]:=I.cell x c e;exact%[v|g x c e v z]
 .have%[m,%[o,_,_,y|_]|_]:=I.loc;exact free _ o (λz=>(f _ z).2.1 rfl) y I.free
 .have%[v,o,y|J]:=I.cell x c e;exact free c o (λz=>(f c z).2.2.1 x c e rfl) y (I.freeC x c e)
 .have%[e,n,ne,O|d]:=I.pin p N;have h:=λz=>(f p.1 z).2.2.2 p N rfl
  exact%[keep p.1 p.2 ne O h e n,free p.1 p.2 h e n,ne,O|d]
theorem Inv.un{t':Nat}(I:Inv X pins σ H s)(u:Un X.fs [] H H' s.heap h')(c:HOk X.prog X.w H' h'):Inv X pins σ H' {s with heap:=h',toks:=t'}:=by
 have%[m,%[o,p,q,h|r]|_]:=id I.loc;have%[t|i]:=u.any h I.free ∅;exact I.step (ch:=[]) (λ_ z=>nomatch z) (λb o _ d _ e n=>u.keep b o e n d ∅) (λb o _ d _ e n=>u.slot b o e n d ∅) (λb o _ e n=>u.free b o e n ∅) (λb o _ e=>u.there b o e ∅) u.tups u.frzs u.tbls (λv j=>by
  have%[w,f,g,a|l]:=j;rw[h]at a;cases a;exact%[_,f,g,i|l]) c I.bare
theorem Inv.call{d':Drawn}{ch:List Addr}(I:Inv X pins σ H s)(u:Un (frs X.stack) ch H H' s.heap h')(g:HOk X.prog X.w H' h')(q:AllBare g')
 (d:∀b∈ch,(b∈X.ex\/X.s₀.heap.objs.size<=b)/\b≠X.env.locals/\(∀x c,X.env.cells.lookup x=some c->c≠b)/\∀p∈X.pn++pins,p.1≠b):
 Inv X pins σ H' {s with heap:=h',gens:=g',drawn:=d',toks:=t'}:=by
 have%[m,%[o,y,A,l|r]|_]:=id I.loc;have%[B|h]:=u.any l I.free λz=>(d _ z).2.1 rfl
 exact I.step d (λb o h t a e n=>u.keep b o e n (λz=>(mem_cons.mp (I.stkSub b z)).elim h t) a) (λb o _ _ a e n=>u.any e n a) (λb o a e n=>u.free b o e n a) (λb o a e=>u.there b o e a) u.tups u.frzs u.tbls (λC v=>by
  have%[E,i,j,f|w]:=v;rw[l]at f;cases f;exact%[_,i,j,h|w]) g q
theorem Inv.turned{it:Addr}(I:Inv X pins σ H s)(k:∀b o,b≠it->s.heap.get? b=some o->h'.get? b=some o)(A:H it=none)(f:it≠X.env.locals)
 (g:it∈X.ex\/X.s₀.heap.objs.size<=it) (h:∀x c,X.env.cells.lookup x=some c->c≠it) (i:∀p∈X.pn++pins,p.1≠it):Inv X pins σ H {s with heap:=h',toks:=t'}:=by
 have d:∀b u,H b=some u->b≠it:=λb u e z=>by lia
 refine I.step (ch:=[it]) (λb j=>?_) (λb o _ _ a e _=>k b o (λz=>a (by simp[z])) e) (λb o _ _ a e _=>%[o.slots|k b o (λz=>a (by simp[z])) e]) (λ_ _ _ _ n=>n)
  (λb o a e=>%[o|k b o (λz=>a (by simp[z])) e]) (λ_ _ e=>e) (λ_ _ _ e=>e) (λb ps e=>%[#[]|by rw[e];simp]) (λm l=>?_) (λb u e=>?_) I.bare
 .have e:=by simpa using j
  subst e;exact%[g,f,h|i]
 .have%[o,t,w,y|r]:=l;exact%[o,t,w,k _ o (Ne.symm f) y|r]
 .refine(I.hok b u e).stay (λc v a q=>k c v ?_ q) (λ_ q=>q) λ_ _ q=>q
  rcases a with z|z
  .exact z▸d b u e
  .exact d c _ z
theorem Inv.tok(I:Inv X pins σ H s)(t:Nat):Inv X pins σ H {s with toks:=t}:=I.un Un.refl I.hok
theorem Inv.kept(I:Inv X pins σ H s)(k:∀b u,s.heap.get? b=some u->h'.get? b=some u):Inv X pins σ H {s with heap:=h',toks:=t'}:=I.un (Un.kept k) (I.hok.kept k)
theorem Inv.laid{a:Addr}{o:HO}{t':Nat}(I:Inv X pins σ H s)(k:∀b u,s.heap.get? b=some u->h'.get? b=some u)(c:⇑s<=a)(new:ck X.prog X.w (upd H a o) h' a o):
 Inv X pins σ (upd H a o) {s with heap:=h',toks:=t'}:=I.un (Un.laid k c (I.hok.fresh c)) (I.hok.laid k c new)
theorem Inv.write(I:Inv X pins σ H s)(c:Mut (H x))(d:e=x\/H e=some (.own x))(k:∀b u,b≠e->s.heap.get? b=some u->h'.get? b=some u)(a:∃u,h'.get? e=some u)
 (new:ck X.prog X.w (upd H x o) h' x o):Inv X pins σ (upd H x o) {s with heap:=h',toks:=t'}:=I.un (Un.write c d k a) (I.hok.write c d k a new)
theorem Inv.pins_of(I:Inv X pins σ H s)(h:∀p∈a,s.heap.get? p.1=some p.2/\H p.1=none/\p.1≠X.env.locals/\p.1∉X.fs/\∀v,p.2.data≠ .cell v):Inv X a σ H s:=
 %[I.ok,I.os,I.bare,I.base,I.loc,I.cell,I.free,I.freeC,λp b=>(Xo b).elim (λz=>I.pin p (Yv _ z)) (h p),I.hok|I.len]
theorem ei{N:ZB}(c:N.Nodup){i j:Nat}{x:Str}(a:N[i]? =some x)(b:N[j]? =some x):i=j:=by
 have%[f|d]:=Xn a;have%[g|e]:=Xn b;exact(List.getElem_inj c).mp (d.trans e.symm)
theorem xw{A:Around}{E:ZD}{i:Nat}{x:Str}{v:V}{u:Value}{Q:Unit->Shared->Prop}(I:Inv X pins σ H s)(hN:X.N.Nodup)(hi:X.N[i]? =some x)(w:Loc X.env.scope x)(r:aR v u)
 (h:∀s',Inv X pins (σ.set i (some v)) H s'->(∃a,SameBut a s.heap s'.heap/\(a=X.env.locals\/X.env.cells.lookup x=some a))->Q () s') (hf:X.fn x=true\/X.env.scope.names.lookup x=some .local):wpAny M A (storeName X.env x u) Q E s:=by
 have%[m,hn|hl]:=id I.loc;have G:i<σ.length:=I.len▸(Xn hi).1;have cne:=I.cne;have g:∀{a:Addr} {h':Heap},(∃o,s.heap.get? a=some o/\H a=none)->SameBut a s.heap h'->HOk X.prog X.w H h':=λ{a h'} ha f b ob e=>by
  have%[_,_|B]:=ha;refine(I.hok b ob e).stay (λc w' t q=>(f.2 c ?_).trans q) (λ_ q=>q) λ_ _ q=>q
  rintro rfl;rcases t with rfl|t
  .rw[B]at e;cases e
  .rw[B]at t;cases t
 rcases w with J|J
 .refine wpAny_storeName_local J hn (λh' ab f=>?_) (by rw[I.ok.kind];rfl);have%[oL,_,_,ac|_]:=id hn;refine h _ %[I.ok,I.os,I.bare,%[λb o e n L w=>?_,λb o e n L w=>?_,I.base.free,λb o e w=>?_,I.base.tups,I.base.frzs|I.base.tbls],%[_,ab|λj y v' l C e3=>?_],λy c e=>?_,I.free,I.freeC,λp hp=>?_,g %[oL,ac|I.free] f|by simpa using I.len] %[_,f|.inl rfl]
  .exact(f.2 b (Zt (Zg (Zv e) I.ok.above))).trans (I.base.keep b o e n L w)
  .have%[sl|l]:=I.base.slot b o e n L w;exact%[sl|(f.2 b (Zt (Zg (Zv e) I.ok.above))).trans l]
  .have%[o'|l]:=I.base.there b o e w;exact%[o'|(f.2 b (Zt (Zg (Zv e) I.ok.above))).trans l]
  .by_cases N:j=i
   .subst N;rw[hi]at l;cases l;rw[List.getElem?_set_self G]at C;cases C;exact%[u,r|.inl %[J|by simp]]
   .rw[List.getElem?_set_ne (Ne.symm N)]at C;have%[u',r'|q]:=hl j y v' l C e3;refine%[u',r'|?_];rcases q with⟨k,e⟩|⟨k,c,e,z⟩
    .refine .inl %[k|?_];have:y≠x:=λe=>N (ei hN l (e▸hi))
     simp[this,e]
    .exact .inr %[k,c,e|z.sameBut f (cne y c e)]
  .have%[w'|z]:=I.cell y c e;exact%[w'|z.sameBut f (cne y c e)]
  .have%[e,n,ne,nf|d]:=I.pin p hp;exact%[(f.2 p.1 ne).trans e,n,ne,nf|d]
 .have O:X.fn x=true:=by
   rcases hf with z|z
   .exact z
   .rw[z]at J;cases J
  have%[c|t]:=I.ok.has x (.inl J);have%[w'|z]:=I.cell x c t;refine wpAny_storeName_cell I.ok.kind J t z (λh' T f=>?_);have%[oc,U|Y]:=id z;refine h _ %[I.ok,I.os,I.bare,%[λb o e n L w=>?_,λb o e n L w=>?_,I.base.free,λb o e w=>?_,I.base.tups,I.base.frzs|I.base.tbls],%[m,hn.sameBut f (Ne.symm (cne x c t))|λj y v' l C e3=>?_],λy c' e=>?_,I.free,I.freeC,λp hp=>?_,g %[oc,U|I.freeC x c t] f|by simpa using I.len] %[c,f|.inr t]
  .exact(f.2 b (Zt (Zg (Zv e) (I.ok.cab x c O t)))).trans (I.base.keep b o e n L w)
  .have%[sl|l]:=I.base.slot b o e n L w;exact%[sl|(f.2 b (Zt (Zg (Zv e) (I.ok.cab x c O t)))).trans l]
  .have%[o'|l]:=I.base.there b o e w;exact%[o'|(f.2 b (Zt (Zg (Zv e) (I.ok.cab x c O t)))).trans l]
  .by_cases N:j=i
   .subst N;rw[hi]at l;cases l;rw[List.getElem?_set_self G]at C;cases C;exact%[u,r|.inr %[.inl J,c,t|T]]
   .rw[List.getElem?_set_ne (Ne.symm N)]at C;have%[u',r'|q]:=hl j y v' l C e3;refine%[u',r'|?_];rcases q with q|⟨k,c',e,z'⟩
    .exact .inl q
    .refine .inr %[k,c',e|z'.sameBut f ?_];rintro rfl;exact N (ei hN l (I.ok.inj _ _ _ e t▸hi))
  .by_cases aa:c'=c
   .subst aa;exact%[_|T]
   .have%[w2|z2]:=I.cell y c' e;exact%[w2|z2.sameBut f aa]
  .have%[e,n,ne,nf|d]:=I.pin p hp;refine%[(f.2 p.1 ?_).trans e,n,ne,nf|d];intro q;rw[q,U]at e;exact d w' ((Za e)▸Y)
theorem ju(I:Inv X pins σ H s)(a:X.N.Nodup)(hi:X.N[i]? =some x)(b:Loc X.env.scope x)(r:aR v u)
 (h:∀s',Inv X pins (σ.set i (some v)) H s'->Q () s') (c:X.fn x=true\/X.env.scope.names.lookup x=some .local):wpAny M A (storeName X.env x u) Q E s:=
 xw I a hi b r (λs' d _=>h s' d) c
theorem Inv.call'(I:Inv X pins σ H s)(e:s'.os=s.os)(u:Un (frs X.stack) ch H H' s.heap s'.heap)(a:HOk X.prog X.w H' s'.heap)(f:AllBare s'.gens)
 (d:∀b∈ch,(b∈X.ex\/X.s₀.heap.objs.size<=b)/\b≠X.env.locals/\(∀x c,X.env.cells.lookup x=some c->c≠b)/\∀p∈X.pn++pins,p.1≠b):Inv X pins σ H' s':=by
 have%[h',g',d',t'|g]:=s';subst e;exact I.call u a f d
end
noncomputable abbrev XK:=Value->ZI->Hp->Prop
noncomputable abbrev St:=List (Option V)
noncomputable abbrev VK:=V->Hp->Prop
noncomputable abbrev TE:=St->Hp->VK->Prop
noncomputable abbrev TT:=St->Hp->(Bool->Hp->Prop)->Prop
noncomputable abbrev TA:=St->Hp->(List V->Hp->Prop)->Prop
structure iO where
 nx:St->Hp->Prop
 rt:VK
 bk:St->Hp->Prop:=λ_ _=>False
 ct:St->Hp->Prop:=λ_ _=>False
noncomputable abbrev TS:=iO->St->Hp->Prop
def EP(X:Cx)(pins:ZE)(b:St)(Q:VK)(u:Value)(s':Shared):Prop:=∃v a,Inv X pins b a s'/\aR v u/\Q v a
def TP(X:Cx)(pins:ZE)(c:St)(Q:Bool->Hp->Prop)(b:Bool)(s':Shared):Prop:=∃a,Inv X pins c a s'/\Q b a
def AP(X:Cx)(pins:ZE)(b:St)(Q:List V->Hp->Prop)(us:ZF)(s':Shared):Prop:=∃vs a,Inv X pins b a s'/\aC vs us/\Q vs a
def SP(X:Cx)(pins:ZE)(D:iO)(f:Flow)(s':Shared):Prop:=
 match f with
 | .next=>∃a b,Inv X pins a b s'/\D.nx a b
 | .brk=>∃a b,Inv X pins a b s'/\D.bk a b
 | .cont=>∃a b,Inv X pins a b s'/\D.ct a b
 | .ret u=>∃v a b,Inv X pins a b s'/\aR v u/\D.rt v b
def PE(X:Cx)(e:Expr)(t:TE):Prop:=
 ∀pins s (a:St) H Q,Inv X pins a H s->t a H Q->(~~~X) (eval e X.env) (EP X pins a Q) X.xe s
def PT(X:Cx)(e:Expr)(t:TT):Prop:=
 ∀pins s (a:St) H Q,Inv X pins a H s->t a H Q->(~~~X) (isTrue e X.env (eval e X.env)) (TP X pins a Q) X.xe s
def PW(X:Cx)(e:Expr)(t:TT):Prop:=
 ∀a pins s (b:St) H Q,Inv X pins b H s->t b H Q->(~~~X) (isTrue e X.env a) (TP X pins b Q) X.xe s
theorem PW.pt{X:Cx}(h:PW X e t):PT X e t:=h _
def PA(X:Cx)(b:List Expr)(t:TA):Prop:=
 ∀pos pins s (a:St) H Q,Inv X pins a H s->t a H Q->(~~~X) (spliced (backTo pos (starEach b X.env))) (AP X pins a Q) X.xe s
def PS(X:Cx)(st:Stmt)(t:TS):Prop:=
 ∀pins s (a:St) H D,Inv X pins a H s->t D a H->(~~~X) (exec st X.env) (SP X pins D) X.xe s
def PSs(X:Cx)(st:List Stmt)(t:TS):Prop:=
 ∀pins s (a:St) H D,Inv X pins a H s->t D a H->(~~~X) (execs st X.env) (SP X pins D) X.xe s
theorem thn{b:Type}{t:Sem b}{Q c:b->Shared->Prop}{M:Model}{A:Around}{E:ZD}{s:Shared}(h:wpAny M A t Q E s)(d:∀a s,Q a s->c a s):wpAny M A t c E s:=wpAny_mono h d λ_ _ x=>x
theorem thP{c d:Type}{t:Sem c}{X:Cx}{pins:ZE}{e:St}{R:d->c->Prop}{Q:d->Hp->Prop}{f:c->Shared->Prop}{M:Model}{A:Around}{E:ZD}{s:Shared}(h:wpAny M A t (λa s=>∃v b,Inv X pins e b s/\R v a/\Q v b) E s)(g:∀a s v b,Inv X pins e b s->R v a->Q v b->f a s):wpAny M A t f E s:=wpAny_mono h (λa s ⟨v,b,i,r,q⟩=>g a s v b i r q) λ_ _ x=>x
theorem thT{c:Type}{t:Sem c}{X:Cx}{pins:ZE}{d:St}{Q:c->Hp->Prop}{e:c->Shared->Prop}{M:Model}{A:Around}{E:ZD}{s:Shared}(h:wpAny M A t (λa s=>∃b,Inv X pins d b s/\Q a b) E s)(f:∀a s b,Inv X pins d b s->Q a b->e a s):wpAny M A t e E s:=wpAny_mono h (λa s ⟨b,i,q⟩=>f a s b i q) λ_ _ x=>x
section
variable{X:Cx}
def asI(x:V)(f:Int->Prop):Prop:=match x with| .int i=>f i|_=>False
def asB(x:V)(f:Bool->Prop):Prop:=match x with| .bl i=>f i|_=>False
def asR(x:V)(f:Addr->Prop):Prop:=match x with| .ref i=>f i|_=>False
theorem FU:asI (.int i) f=f i:=rfl
theorem FV:asB (.bl i) f=f i:=rfl
theorem FW:asR (.ref i) f=f i:=rfl
theorem hJ{x:V}{f:Int->Prop}(h:asI x f):∃i,x= .int i/\f i:=by
 cases x<;> first|exact⟨_,rfl,h⟩|exact h.elim
theorem l8{x:V}{f:Bool->Prop}(h:asB x f):∃i,x= .bl i/\f i:=by
 cases x<;> first|exact⟨_,rfl,h⟩|exact h.elim
theorem gP{x:V}{f:Addr->Prop}(h:asR x f):∃i,x= .ref i/\f i:=by
 cases x<;> first|exact⟨_,rfl,h⟩|exact h.elim
theorem FX:asI x f=∃i,x= .int i/\f i:=propext %[hJ|λ⟨_,e,q⟩=>by subst e;exact q]
theorem FY:asB x f=∃i,x= .bl i/\f i:=propext %[l8|λ⟨_,e,q⟩=>by subst e;exact q]
theorem FZ:asR x f=∃i,x= .ref i/\f i:=propext %[gP|λ⟨_,e,q⟩=>by subst e;exact q]
def ot:Nat->TE
 | 0,some v::_,H,Q=>Q v H
 | i+1,_::a,H,Q=>ot i a H Q
 | _,_,_,_=>False
theorem DJ:ot 0 (some v::a) H Q=Q v H:=rfl
theorem DK:ot (i+1) (o::a) H Q=ot i a H Q:=rfl
theorem y3:∀{i:Nat} {a:St},ot i a H Q->∃v,a[i]? =some (some v)/\Q v H
 | 0,some v::_,h=>%[v,rfl|h]
 | 0,none::_,h=>h.elim
 | 0,[],h=>h.elim
 | _+1,[],h=>h.elim
 | i+1,_::a,h=>y3 (i:=i) h
def tC(v:V):TE:=λ_ H Q=>Q v H
theorem y4(n:X.N[i]? =some x)(o:Vis X.env.scope x)(f:(x==("__debug__":Str))=false)(g:(x==("__classdict__":Str))=false):PE X (.Name x pos) (ot i):=by
 intro pins s p H Q I h;have%[v,e|h]:=y3 h;have%[m,q|t]:=I.loc;have%[u,r|l]:=t i x v n e o;have b:EP X pins p Q u s:=%[v,H,I,r|h]
 rcases l with⟨d,w⟩|⟨d,c,j,a⟩
 .exact wpAny_Name (wpAny_loadName_local I.ok.kind d q w b) f
 .rcases d with d|d
  .exact wpAny_Name (wpAny_loadName_cell I.ok.kind d j a b) f
  .exact wpAny_Name (wpAny_loadName_free I.ok.kind d j a b g) f
theorem DL{i j pos}:PE X (.Constant (.int i) j pos) (tC (.int i)):=λ_ _ _ H _ I h=>wpAny_Constant_int %[.int i,H,I.tok _,%[_|rfl]|h]
theorem F0{b j pos}:PE X (.Constant (.bool b) j pos) (tC (.bl b)):=λ_ _ _ H _ I h=>Constant_bool %[.bl b,H,I,rfl|h]
theorem DM{j pos}:PE X (.Constant .none j pos) (tC .non):=λ_ _ _ H _ I h=>Constant_none %[.non,H,I,rfl|h]
theorem DN{x j pos}:PE X (.Constant (.str x) j pos) (tC (.str x)):=λ_ _ _ H _ I h=>Calls.Constant_str %[.str x,H,I.tok _,%[_|rfl]|h]
def Gl(X:Cx)(x:Str):Prop:=X.env.kindOf x=some .globalImplicit
theorem eV(I:Inv X pins d H s)(a:Gl X x)(b:X.mg x=some u)(h:Q u s)
 (c:(x==("__debug__":Str))=false):(~~~X) (eval (.Name x pos) X.env) Q E s:=
 Calls.Name_function_global I.ok.kind a (Calls.loadGlobal_global (I.ok.glob▸I.mod.glob.keeps I.bk) b h) c
theorem i8(I:Inv X pins i H s)(a:Gl X x)(b:X.mg x=none)(c:bootBuiltins x=some u)(h:Q u s)
 (d:x≠"__name__":=by decide) (e:(x==("__debug__":Str))=false:=by decide):(~~~X) (eval (.Name x pos) X.env) Q E s:=by
 have%[j,f|g]:=I.mod.blt;exact Calls.Name_function_global I.ok.kind a (Calls.loadGlobal_builtin (I.ok.glob▸I.mod.glob.keeps I.bk) b (I.ok.blt▸f.keeps I.bk) ((g x d).trans c) h) e
theorem BN(a:Gl X x)(b:X.mg x=some u)(r:aR v u)(c:(x==("__debug__":Str))=false):PE X (.Name x pos) (tC v):=
 λ_ _ _ H _ I h=>eV I a b %[v,H,I,r|h] c
theorem BO(a:Gl X x)(b:X.mg x=none)(c:bootBuiltins x=some u)(r:aR v u)(d:x≠"__name__")(e:(x==("__debug__":Str))=false):PE X (.Name x pos) (tC v):=
 λ_ _ _ H _ I h=>i8 I a b c %[v,H,I,r|h] d e
variable{a b:Expr}{ta tb:TE}{pos:Pos}
def PC(X:Cx)(f:CmpOp)(a b:Expr)(t:TE):Prop:=
 ∀pins s (e:St) H Q,Inv X pins e H s->t e H Q->
  (~~~X) (eval a X.env) (λv c=>(~~~X) (eval b X.env) (λu d=>(~~~X) (compareOp f v u) (EP X pins e Q) X.xe d) X.xe c) X.xe s
theorem F1(b:Expr)(h:c≠ .In)(f:c≠ .NotIn):behindInMarks c b=false:=by
 have d:(c==CmpOp.In)=false:=by lia
 have e:(c==CmpOp.NotIn)=false:=by lia
 cases b<;> simp[behindInMarks,d,e]
def tB(t:TE):TT:=λd H Q=>t d H λx e=>asB x λc=>Q c e
theorem y6{e:CmpOp}(h:PC X e a b t)(f:behindInMarks e b=false):PT X (.Compare a [e] [b] pos) (tB t):=by
 intro pins s g H Q I hw;refine wpAny_isTrue_Compare1 (thn (h pins s g H _ I hw) λv o f=>thn f λu p i=>thn i λc r ⟨x,j,l,m,n⟩=>?_) f;have%[d,rfl|q]:=l8 n;cases m;exact wpAny_truthy_bool %[j,l|q]
theorem DO{e:Expr}(h:PE X e t)(f:∀c,isTrue e X.env c=(do let v<-c;standAt e.pos;holding [v] (truthy v))):PT X e (tB t):=by
 intro pins s g H Q I hw;refine isTrue_plain (thP (h pins s g H _ I hw) λv n x i j l m=>?_) (f _);have%[d,rfl|q]:=l8 m;cases l;exact wpAny_truthy_bool %[i,j|q]
variable{tA tB':TT}{rest:List Expr}
def BP(t u:TT):TT:=λd H Q=>t d H λc e=>if c=true then u d e Q else Q false e
def tOr(t u:TT):TT:=λd H Q=>t d H λc e=>if c=true then Q true e else u d e Q
def DP(t:TT):TT:=λd H Q=>t d H λc e=>Q (!c) e
theorem BQ(d:PT X a tA):PW X (.BoolOp .And [a] pos) tA:=by
 intro g pins s f H Q I h;refine isTrue_and (thn (d pins s f H Q I h) λc i e=>?_);cases c with
 | true=>exact isTrue_and_nil e
 | false=>exact e
theorem DQ(d:PT X a tA):PW X (.BoolOp .Or [a] pos) tA:=by
 intro g pins s f H Q I h;refine isTrue_or (thn (d pins s f H Q I h) λc i e=>?_);cases c with
 | false=>exact isTrue_or_nil e
 | true=>exact e
theorem DR(i:PT X a tA)(j:PW X (.BoolOp .And (b::rest) pos) tB'):PW X (.BoolOp .And (a::b::rest) pos) (BP tA tB'):=by
 intro l pins s d H Q I h;refine isTrue_and (thT (i pins s d H _ I h) λc m e f g=>?_);cases c with
 | true=>exact j l pins m d e Q f g
 | false=>exact%[e,f|g]
theorem F2(i:PT X a tA)(j:PW X (.BoolOp .Or (b::rest) pos) tB'):PW X (.BoolOp .Or (a::b::rest) pos) (tOr tA tB'):=by
 intro l pins s d H Q I h;refine isTrue_or (thT (i pins s d H _ I h) λc m e f g=>?_);cases c with
 | true=>exact%[e,f|g]
 | false=>exact j l pins m d e Q f g
theorem DS(c:PT X a tA):PT X (.UnaryOp .Not a pos) (DP tA):=by
 intro pins s d H Q I h;exact isTrue_not (c pins s d H _ I h)
def y8(ta tb:TE):TE:=λd H Q=>ta d H λx e=>asB x λc=>if c=true then tb d e Q else Q (.bl false) e
def DT(ta tb:TE):TE:=λd H Q=>ta d H λx e=>asB x λc=>if c=true then Q (.bl true) e else tb d e Q
theorem DU{c}(h:PE X a t):PE X (.BoolOp c [a] pos) t:=λpins s d H Q I hw=>BoolOp_one (h pins s d H Q I hw)
theorem DV(i:PE X a ta)(j:PE X (.BoolOp .And (b::rest) pos) tb):PE X (.BoolOp .And (a::b::rest) pos) (y8 ta tb):=by
 intro pins s e H Q I h;refine BoolOp_and (thP (i pins s e H _ I h) λv l x f g m d=>?_);have%[c,rfl|d]:=l8 d;cases m;refine wpAny_truthy_bool ?_;cases c with
 | true=>exact j pins l e f Q g d
 | false=>exact%[.bl false,f,g,rfl|d]
theorem F3(i:PE X a ta)(j:PE X (.BoolOp .Or (b::rest) pos) tb):PE X (.BoolOp .Or (a::b::rest) pos) (DT ta tb):=by
 intro pins s e H Q I h;refine BoolOp_or (thP (i pins s e H _ I h) λv l x f g m d=>?_);have%[c,rfl|d]:=l8 d;cases m;refine wpAny_truthy_bool ?_;cases c with
 | false=>exact j pins l e f Q g d
 | true=>exact%[.bl true,f,g,rfl|d]
end
def SqL(K:ZA)(H:Hp)(a:Addr)(xs:List V):Prop:=
 Rd H a (.lst xs)\/
  ∃o its n,K.lookup a=some o/\o.cls= .type "list"/\o.dict=none/\o.data= .seq its n/\its.size<=sizeLine/\aC xs its.toList
def SqT(K:ZA)(H:Hp)(a:Addr)(xs:List V):Prop:=
 Rd H a (.tup xs)\/
  ∃o its n,K.lookup a=some o/\o.cls= .type "tuple"/\o.data= .seq its n/\its.size<=sizeLine/\aC xs its.toList
noncomputable def absV:Value->Option V
 | .none=>some .non
 | .bool b=>some (.bl b)
 | .int i _=>some (.int i)
 | .str x _=>some (.str x)
 | .bytes b _=>some (.byt b)
 | .float b _=>some (.flt b)
 | .ref a=>some (.ref a)
 | .type n=>some (.ty n)
 | _=>none
theorem aR.abs(r:aR x u):absV u=some x:=by
 cases x with
 | non=>cases r;rfl
 | bl _=>cases r;rfl
 | int _=>have%[t|rfl]:=r;rfl
 | str _=>have%[t|rfl]:=r;rfl
 | byt _=>have%[t|rfl]:=r;rfl
 | flt _=>have%[t|rfl]:=r;rfl
 | ref _=>cases r;rfl
 | ty _=>cases r;rfl
theorem aR.inj(r:aR x u)(q:aR y u):x=y:=Za (r.abs.symm.trans q.abs)
theorem aC.inj:∀{xs ys:List V} {us:ZF},aC xs us->aC ys us->xs=ys
 | _,_,_,.nil,.nil=>rfl
 | _,_,_,.cons r t,.cons a t'=>by rw[r.inj a,aC.inj t t']
section
#version
variable{a:Addr}{xs ys:List V}
theorem SqL.of{K:ZA}(h:H a=some (.lst xs)):SqL K H a xs:= .inl (.inl h)
theorem SqT.of{K:ZA}(h:H a=some (.tup xs)):SqT K H a xs:= .inl (.inl h)
theorem Inv.list(I:Inv X pins σ H s)(h:SqL X.K H a xs):∃its:ZF,aC xs its/\PlainL s.heap a its.toArray/\xs.length<=sizeLine:=by
 rcases h with h|⟨o,its,n,b,c,d,f,g,r⟩
 .have%[z,its,n,r|e]:=h.ok I.hok;exact%[its,r,%[_,n,e,rfl,rfl|rfl]|z]
 .refine%[its.toList,r,%[o,n,I.kIn a o b,c,d|f]|?_];have e:=r.length
  simp_all
theorem Inv.tuple(I:Inv X pins σ H s)(h:SqT X.K H a xs):∃its:ZF,aC xs its/\IsTup s.heap a its.toArray/\xs.length<=sizeLine:=by
 rcases h with h|⟨o,its,n,b,c,d,f,r⟩
 .have%[z,its,r|p]:=h.ok I.hok;exact%[its,r,p|z]
 .refine%[its.toList,r,%[o,I.kIn a o b,c,n|d]|?_];have e:=r.length;simp only[Zb]at e
  lia
theorem Inv.list_inj(I:Inv X pins σ H s)(h:SqL X.K H a xs)(h':SqL X.K H a ys):xs=ys:=by
 have%[its,r,%[o,n,e,_,_|d]|_]:=I.list h;have%[its',c,%[g,i,b,_,_|d']|_]:=I.list h';rw[e]at b;cases b;rw[d]at d';injection d' with f _
 have:=congrArg Array.toList f;subst this;exact r.inj c
theorem Inv.tuple_inj(I:Inv X pins σ H s)(h:SqT X.K H a xs)(h':SqT X.K H a ys):xs=ys:=by
 have%[its,r,%[o,e,_,n|d]|_]:=I.tuple h;have%[its',c,%[g,b,_,i|d']|_]:=I.tuple h';rw[e]at b;cases b;rw[d]at d';injection d' with f _
 have:=congrArg Array.toList f;subst this;exact r.inj c
end
noncomputable abbrev Cx.wish(X:Cx)(E:ZD):Cx:={X with xe:=E}
noncomputable abbrev Cx.nox(X:Cx):Cx:=X.wish λ_ _=>False
theorem Cx.Ok.wish{X:Cx}(ok:X.Ok)(E:ZD):(X.wish E).Ok:=
 %[ok.mod,ok.kind,ok.glob,ok.blt,ok.above,ok.inj,ok.has,ok.cab,ok.hd,ok.frames,ok.stk,ok.exf,ok.bs,ok.bsz,ok.noex,ok.exfs,ok.funs|ok.frf]
theorem Cx.Ok.unwish{X:Cx}{E:ZD}(ok:(X.wish E).Ok):X.Ok:=
 %[ok.mod,ok.kind,ok.glob,ok.blt,ok.above,ok.inj,ok.has,ok.cab,ok.hd,ok.frames,ok.stk,ok.exf,ok.bs,ok.bsz,ok.noex,ok.exfs,ok.funs|ok.frf]
section
#version
variable{E:ZD}
theorem Inv.wish(I:Inv X pins σ H s)(E:ZD):Inv (X.wish E) pins σ H s:=%[I.ok.wish E,I.os,I.bare,I.base,I.loc,I.cell,I.free,I.freeC,I.pin,I.hok|I.len]
theorem Inv.unwish(I:Inv (X.wish E) pins σ H s):Inv X pins σ H s:=%[I.ok.unwish,I.os,I.bare,I.base,I.loc,I.cell,I.free,I.freeC,I.pin,I.hok|I.len]
theorem SP.unwish{D:iO}{f:Flow}{s':Shared}(h:SP (X.wish E) pins D f s'):SP X pins D f s':=by
 cases f with
 | next=>have%[a,b,I|q]:=h;exact%[a,b,I.unwish|q]
 | brk=>have%[a,b,I|q]:=h;exact%[a,b,I.unwish|q]
 | cont=>have%[a,b,I|q]:=h;exact%[a,b,I.unwish|q]
 | ret u=>have%[v,a,b,I,r|q]:=h;exact%[v,a,b,I.unwish,r|q]
theorem PSs.nox{st:List Stmt}(h:PSs X.nox st t):PSs X st t:=λpins s σ H D I hw=>
 wpAny_mono (h pins s σ H D (I.wish _) hw) (λ_ _ q=>q.unwish) λ_ _ z=>False.elim z
end
section
variable{X:Cx}{st:Stmt}{rest:List Stmt}{t u:TS}{e:Expr}{te:TE}{pos:Pos}
def za:TS:=λD a H=>D.nx a H
def bo(t u:TS):TS:=λD a H=>t {D with nx:=u D} a H
theorem BR:PSs X [] za:=λ_ _ a H _ I h=>wpAny_execs_nil %[a,H,I|h]
theorem zb(b:PS X st t)(c:PSs X rest u):PSs X (st::rest) (bo t u):=by
 intro pins s d H D I h;refine wpAny_execs_cons (thn (b pins s d H _ I h) λf g q=>?_);cases f with
 | next=>
   have%[a,i,j|q]:=q;exact c pins g a i D j q
 | ret v=>exact q
 | brk=>exact q
 | cont=>exact q
theorem BS(a:PS X st t):PSs X [st] t:=by
 intro pins s b H D I h;refine wpAny_execs_cons (thn (a pins s b H D I h) λf c q=>?_);cases f with
 | next=>exact wpAny_execs_nil q
 | ret v=>exact q
 | brk=>exact q
 | cont=>exact q
theorem Inv.quiet{pins:List _}{a:St}{H:Hp}{s:Shared}(I:Inv X pins a H s):interactive X.env=false:=by simp[interactive,I.ok.kind]
def jv(te:TE):TS:=λD a H=>te a H λ_ b=>D.nx a b
theorem BT(b:PE X e te)(c:swapsWith e none pos.line X.env=pure false):PS X (.Expr e pos) (jv te):=by
 intro pins s a H D I h;exact wpAny_Expr_any (thP (b pins s a H _ I h) λv i x d f j g=>%[a,d,f|g]) I.quiet c
def jw(te:TE):TS:=λD a H=>te a H D.rt
theorem DW(b:PE X e te):PS X (.Return (some e) pos) (jw te):=by
 intro pins s a H D I h;exact wpAny_Return_some (thP (b pins s a H _ I h) λv i x c d f g=>%[x,a,c,d,f|g])
def l9(c:TT)(t u:TS):TS:=λD a H=>c a H λb d=>if b=true then t D a d else u D a d
theorem F4{c:Expr}{a b:List Stmt}(m:PT X c n)(o:PSs X a t)(p:PSs X b u):PS X (.If c a b pos) (l9 n t u):=by
 intro pins s f H D I h;refine wpAny_If (thT (m pins s f H _ I h) λd g i j l=>?_);cases d with
 | true=>exact o pins g f i D j l
 | false=>exact p pins g f i D j l
def zc:TS:=λ_ _ _=>False
theorem zd:PS X st zc:=λ_ _ _ _ _ _ h=>h.elim
end
noncomputable abbrev TG:=V->St->Hp->(St->Hp->Prop)->Prop
noncomputable abbrev TGs:=List V->St->Hp->(St->Hp->Prop)->Prop
def PG(X:Cx)(a:Expr)(t:TG):Prop:=
 ∀pins s (c:St) H v u Q,Inv X pins c H s->aR v u->t v c H Q->
  (~~~X) (assign a X.env u) (λ_ s'=>∃b d,Inv X pins b d s'/\Q b d) X.xe s
def PGs(X:Cx)(ts:List Expr)(t:TGs):Prop:=
 ∀pins s (b:St) H vs us Q,Inv X pins b H s->aC vs us->t vs b H Q->
  (~~~X) (assignInOrder ((assignEach ts X.env).map (·.2)) us) (λ_ s'=>∃a c,Inv X pins a c s'/\Q a c) X.xe s
section
variable{X:Cx}{pos:Pos}
def iS(i:Nat):TG:=λv a H Q=>Q (a.set i (some v)) H
theorem BU(a:X.N.Nodup)(hi:X.N[i]? =some x)(b:Loc X.env.scope x)(c:X.fn x=true\/X.env.scope.names.lookup x=some .local):PG X (.Name x pos) (iS i):=by
 intro pins s e H v u Q I r h;exact wpAny_assign_Name (ju I a hi b r (λs' d=>%[_,H,d|h]) c)
def DZ:TGs:=λvs a H Q=>vs=[]/\Q a H
def ze(t:TG)(u:TGs):TGs:=λvs b H Q=>∃v r,vs=v::r/\t v b H λa c=>u r a c Q
theorem BV:PGs X [] DZ:=by
 intro pins s a H vs us Q I r h;have%[e|h]:=h;exact assignInOrder_nil %[a,H,I|h]
theorem zf{e:Expr}{u:TGs}(c:PG X e t)(d:PGs X a u)
 (f:(assignEach (e::a) X.env).map (·.2)=assign e X.env::(assignEach a X.env).map (·.2)):PGs X (e::a) (ze t u):=by
 intro pins s g H vs us Q I r h;have%[v,o,i|h]:=h;subst i;cases r with
 | cons r rr=>
   rw[f];exact assignInOrder_cons (thn (c pins s g H _ _ _ I r h) λ_ j ⟨b,l,m,n⟩=>d pins j b l _ _ Q m rr n)
def BW(K:ZA)(n:Nat)(t:TGs):TG:=λv b H Q=>asR v λa=>∃xs,SqT K H a xs/\xs.length=n/\t xs b H Q
theorem D0(g:X.calm=true)(h:PGs X c t)
 (i:(assignEach c X.env).length=n) (d:(assignEach c X.env).findIdx? (·.1)=none):PG X (.Tuple c k pos) (BW X.K n t):=by
 intro pins s j H v u Q I r hw;have%[a,l,xs,m,p|hw]:=gP hw;clear ‹BW _ _ _ _ _ _ _›;subst l;cases r;have%[its,f,q|y]:=I.tuple m;exact assign_Tuple_tuple (I.ok.hd g) q (by simp[i,<-p,f.length]) d λh' w=>h pins _ j H xs _ Q (I.kept λb o e=>w b o (Zt (Zv e)) e) (f) hw
def qw(b:TE)(g:TG):TS:=λD a H=>b a H λx c=>g x a c D.nx
theorem Ea{a e:Expr}{g:TG}(c:PE X e d)(f:PG X a g)(i:swapsWithSole [a] e pos.line X.env=pure false)(hw:swappedStores [a] e X.env=pure none)
 (j:(assignEach [a] X.env).map (·.2)=[assign a X.env]):PS X (.Assign [a] e pos) (qw d g):=by
 intro pins s b H D I h;refine wpAny_Assign_stores (thP (c pins s b H _ I h) λv l x m n o p=>?_) i hw;rw[j];exact thn (f pins l b m x v _ n o p) λ_ r q=>q
theorem zg{i:Nat}{x:Str}{e:Expr}(b:X.N.Nodup)(hi:X.N[i]? =some x)(c:Loc X.env.scope x)(d:PE X e f)(g:swapsWith e (some (.Name x a)) pos.line X.env=pure false)(j:X.fn x=true\/X.env.scope.names.lookup x=some .local):
 PS X (.Assign [.Name x a] e pos) (qw f (iS i)):=by
 intro pins s l H D I h;exact wpAny_Assign_Name (thP (d pins s l H _ I h) λv r y m n o p=>ju n b hi c o (λt q=>%[_,m,q|p]) j) g
end
section
variable{X:Cx}{pos:Pos}
def zh(c:TT)(h:TS):TS:=λD a H=>∃W:Nat->St->Hp->Prop,(∃m,W m a H)/\∀m a H,W m a H->
 c a H λb e=>if b=true then∃N:St->Hp->Prop,(∀d f,N d f->∃g,g<m/\W g d f)/\h {D with nx:=N,ct:=N,bk:=D.nx} a e else D.nx a e
theorem zi(u:PassesOwn (model X.prog X.w) X.A X.env X.xe)(C:PT X c E)(G:PSs X e J):PS X (.While c e [] pos) (zh E J):=by
 intro pins s L H D I h;have%[W,%[M|O]|g]:=h;refine wpAny_While (codeAny_whileLoop (λn s'=>∃i w,Inv X pins i w s'/\W n i w) ?_ M %[L,H,I|O]);intro n Q %[d,y,T|U];refine wpAny_passesOwn u (thT (C pins Q d y _ T (g n d y U)) λb Y z A l=>?_);cases b with
 | true=>
   have%[N,B|l]:=l;refine wpAny_passesOwn u (thn (G pins Y d z _ A l) λf s3 m=>?_);cases f with
   | next=>
     have%[a,j,o|p]:=m;have%[q,r|t]:=B a j p;exact%[q,r,a,j,o|t]
   | cont=>
     have%[a,j,o|p]:=m;have%[q,r|t]:=B a j p;exact%[q,r,a,j,o|t]
   | brk=>exact m
   | ret v=>exact m
 | false=>
   exact wpAny_execs_nil %[d,z,A|l]
end
structure It where
 go:Nat->Hp->Prop
 yld:Nat->Hp->V->Hp->Prop
 stop:Nat->Hp->Prop
def lE(X:Cx)(pins:ZE)(H:Hp)(b:Addr):Prop:=
 H b=none/\b≠X.env.locals/\b∉X.fs/\(b∈X.ex\/X.s₀.heap.objs.size<=b)/\(∀x c,X.env.cells.lookup x=some c->c≠b)/\∀p∈X.pn++pins,p.1≠b
theorem Inv.fpOk{X:Cx}(I:Inv X pins h H s)(a:⇑s<=b)(d:f b=none):lE X pins f b:=by
 refine%[d,X2 (Zg I.lt a),I.nofs a,.inr (Yi I.sz a),λx c e z=>?_|λp g z=>?_]
 .have%[v|q]:=I.cell x c e;exact absurd (Zg q.lt (z▸a)) (Xl _)
 .exact absurd (Zg (Zv (I.pin p g).1) (z▸a)) (Xl _)
structure qx (P:Program) (w:World) (K:ZA) (tg:Expr) (J:It) (fp:List Addr) (it:Addr) (tn:Nat->Heap->Prop):Prop where
 mem:it∈fp
 obj:∀i h,tn i h->∀b∈fp,∃o,h.get? b=some o/\∀v,o.data≠ .cell v
 keep:∀i h h',tn i h->(∀b∈fp,∀o,h.get? b=some o->h'.get? b=some o)->tn i h'
 item:∀(X:Cx),X.prog=P->X.w=w->X.K=K->X.calm=true->∀i (pins:ZE) s (σ:St) H (E:ZD),Inv X pins σ H s->(∀b∈fp,lE X pins H b)->tn i s.heap->J.go i H->
  wpAny (model P w) X.A (pyNext (.ref it)) (λr s1=>∃u,r=some u/\
   wpAny (model P w) X.A (letOwnedTupleGo tg (.ref it) u) (λ_ s2=>∃x H',Inv X pins σ H' s2/\aR x u/\J.yld i H x H'/\tn (i+1) s2.heap/\∀b∈fp,H' b=none) E s1) E s
 done:∀X,X.prog=P->X.w=w->X.K=K->X.calm=true->∀i pins s (σ:St) H E,Inv X pins σ H s->(∀b∈fp,lE X pins H b)->tn i s.heap->J.stop i H->
  wpAny (model P w) X.A (pyNext (.ref it)) (λr s1=>r=none/\Inv X pins σ H s1) E s
 self:∀A i s Q E,tn i s.heap->Q (.ref it) s->wpAny (model P w) A (pyIter (.ref it)) Q E s
noncomputable abbrev TI:=St->Hp->(It->Hp->Prop)->Prop
def PIE(X:Cx)(pins:ZE)(g:St)(h:Expr)(R:It->Hp->Prop)(a:Value)(d:Shared):Prop:=
 ∃it e f J c,a= .ref it/\Inv X pins g c d/\qx X.prog X.w X.K h J e it f/\f 0 d.heap/\(∀b∈e,lE X pins c b)/\R J c
def PI(X:Cx)(b b8:Expr)(c:TI):Prop:=
 ∀pins s (a:St) H R,Inv X pins a H s->c a H R->
  (~~~X) (eval b8 X.env) (λv d=>(~~~X) (pyIter v) (PIE X pins a b R) X.xe d) X.xe s
theorem sH(b:s.heap.get? it=some o)(c:o.cls= .type n)(d:o.data= .fields vs)
 (e:["enumerate","zip","dict_itemiterator","dict_reverseitemiterator","odict_iterator","itertools.zip_longest","itertools.pairwise"].contains n=false) (a:Q () s):wpAny M A (letOwnedTupleGo f (.ref it) u) Q E s:=by
 cases f<;> first
  | exact Z3 a
  |(cases u<;> first
   | exact Z3 a
   |(refine Z2 (wpAny_load b ?_)
     rw[c,d];show wpAny M A (if(["enumerate","zip","dict_itemiterator","dict_reverseitemiterator","odict_iterator","itertools.zip_longest","itertools.pairwise"].contains n&&vs[0]? ==some _)=true then _ else _) Q E s;rw[if_neg (by intro h;rw[e,Bool.false_and]at h;cases h)];exact Z3 a))
noncomputable def Itl(K:ZA)(a:Addr):It:=
 ⟨λi H=>∃xs x,SqL K H a xs/\xs[i]? =some x,λi H x b=>b=H/\∀xs,SqL K H a xs->xs[i]? =some x,λi H=>∃xs,SqL K H a xs/\xs.length<=i⟩
noncomputable def Itt(K:ZA)(a:Addr):It:=
 ⟨λi H=>∃xs x,SqT K H a xs/\xs[i]? =some x,λi H x b=>b=H/\∀xs,SqT K H a xs->xs[i]? =some x,λi H=>∃xs,SqT K H a xs/\xs.length<=i⟩
noncomputable def Itr(lo:Int)(n:Nat):It:=%[λi _=>i<n,λi H x a=>a=H/\x= .int (lo+i)|λi _=>n<=i]
theorem xx{P:Program}{K:ZA}(a it:Addr):qx P w K tg (Itl K a) [it] it (λi h=>h.IsListIter it a i) where
 mem:=by simp
 obj:=λi h st b hb=>by
  have e:=by simpa using hb
  subst e;have%[o,e,c|d]:=st;exact%[o,e|λv z=>by rw[d]at z;cases z]
 keep:=λi h h' st k=>st.at λo e=>k it ∅ o e
 item:=by
  intro X hP hw hK hc i pins s σ H E I hf st hg;subst hP hw hK;have%[xs,x,hq|hx]:=hg;have%[its,rv,p|hz]:=I.list hq;have%[u,hu|ru]:=rv.get hx;have%[f0,f1,f2,f3,f4|f5]:=hf it ∅;refine wpAny_pyNext_list_item st p.isList (by simpa using hu) λh' st' sb=>?_
  have%[o,e,c|d]:=id st';exact%[u,rfl|sH e c d (by decide) %[x,H,(I.turned (λb o hb e=>(sb.2 b hb).trans e) f0 f1 f3 f4 f5),ru,%[rfl|λys hy=>(I.list_inj hy hq)▸hx],st'|λb hb=>(hf b hb).1]]
 done:=by
  intro X hP hw hK hc i pins s σ H E I hf st hg;subst hP hw hK;have%[xs,hq|hx]:=hg;have%[its,rv,p|hz]:=I.list hq;have%[f0,f1,f2,f3,f4|f5]:=hf it ∅;have hl:=rv.length;exact wpAny_pyNext_list_end (I.ok.hd hc) st p.isList (by simp;lia) λh' eb=>%[rfl|I.turned (λb o hb e=>eb b o hb e) f0 f1 f3 f4 f5]
 self:=λ_ _ _ _ _ st h=>wpAny_pyIter_listiter st h
theorem uR{P:Program}{K:ZA}(a it:Addr):qx P w K tg (Itt K a) [it] it (λi h=>h.IsTupleIter it a i) where
 mem:=by simp
 obj:=λi h st b hb=>by
  have e:=by simpa using hb
  subst e;have%[o,e,c|d]:=st;exact%[o,e|λv z=>by rw[d]at z;cases z]
 keep:=λi h h' st k=>st.at λo e=>k it ∅ o e
 item:=by
  intro X hP hw hK hc i pins s σ H E I hf st hg;subst hP hw hK;have%[xs,x,hq|hx]:=hg;have%[its,rv,p|hz]:=I.tuple hq;have%[u,hu|ru]:=rv.get hx;have%[f0,f1,f2,f3,f4|f5]:=hf it ∅;refine wpAny_pyNext_tuple_item st (p) (by simpa using hu) λh' st' sb=>?_
  have%[o,e,c|d]:=id st';exact%[u,rfl|sH e c d (by decide) %[x,H,(I.turned (λb o hb e=>(sb.2 b hb).trans e) f0 f1 f3 f4 f5),ru,%[rfl|λys hy=>(I.tuple_inj hy hq)▸hx],st'|λb hb=>(hf b hb).1]]
 done:=by
  intro X hP hw hK hc i pins s σ H E I hf st hg;subst hP hw hK;have%[xs,hq|hx]:=hg;have%[its,rv,p|hz]:=I.tuple hq;have%[f0,f1,f2,f3,f4|f5]:=hf it ∅;have hl:=rv.length;exact wpAny_pyNext_tuple_end (I.ok.hd hc) st (p) (by simp;lia) λh' eb=>%[rfl|I.turned (λb o hb e=>eb b o hb e) f0 f1 f3 f4 f5]
 self:=λ_ _ _ _ _ st h=>wpAny_pyIter_tupleiter st h
theorem uS{P:Program}{K:ZA}(it:Addr)(lo:Int)(n:Nat):qx P w K tg (Itr lo n) [it] it (λi h=>IsRangeIter h it (lo+(i:Nat)*1) ((n:Int) -(i:Nat)) 1) where
 mem:=by simp
 obj:=λi h st b hb=>by
  simp_all
 keep:=λi h h' st k=>k it ∅ _ st
 item:=by
  intro X hP hw hK hc i pins s σ H E I hf st hg;subst hP hw hK;have%[f0,f1,f2,f3,f4|f5]:=hf it ∅;refine(Walks.range (prog:=X.prog) (w:=X.w) (I.ok.hd hc) it lo 1 n).item i s _ _ hg st λv h' tk hv st' kk=>?_
  have%[t|rfl]:=hv;refine%[_,rfl|sH st' rfl rfl (by decide) %[.int _,H,(I.turned (λb o hb e=>kk b o (by simpa using hb) e) f0 f1 f3 f4 f5),%[t|?_],%[rfl|rfl],st'|λb hb=>(hf b hb).1]];rw[Int.mul_one]
 done:=by
  intro X hP hw hK hc i pins s σ H E I hf st hg;have%[f0,f1,f2,f3,f4|f5]:=hf it ∅;exact wpAny_pyNext_range_end (I.ok.hd hc) st (by have:n<=i:=hg;lia) λh' eb=>%[rfl|I.turned (λb o hb e=>eb b o hb e) f0 f1 f3 f4 f5]
 self:=λ_ _ _ _ _ st h=>wpAny_pyIter_rangeiter st h
section
variable{X:Cx}{tg:Expr}
theorem zj{R:It->Hp->Prop}{lo hi:Int}(I:Inv X pins c H s)(d: -(2^62)<=lo)(f:lo<2^62)(g: -(2^62)<=hi)(h:hi<2^62)
 (q:R (Itr lo (hi-lo).toNat) H):(~~~X) (pyIter (.ref ⇑s)) (PIE X pins c tg R) E {s with heap:=s.heap.push {cls:= .type "range",data:= .fields #[.int lo t,.int hi u,.int 1 v]},toks:=tk}:=by
 refine wpAny_pyIter_range (IsRange.new ..) (small_one d f g h) ?_;have a:Inv X pins c H {s with heap:=s.heap.push {cls:= .type "range",data:= .fields #[.int lo t,.int hi u,.int 1 v]},toks:=tk}:=I.kept λb o e=>Z7 _ e
 refine%[(s.heap.push _).objs.size,[(s.heap.push _).objs.size],_,_,H,rfl,
  a.kept λb o e=>Z7 _ e,uS _ lo _,?_,λb i=>?_|q]
 .have j:lo+((0:Nat))*1=lo:=by simp
  have l:(((hi-lo).toNat)) -((0:Nat))=Builtin.Range.rangeSize lo hi 1:=by rw[rangeSize_one];split<;> lia
  rw[j,l];exact Zj _ rfl
 .have e:b=(s.heap.push {cls:= .type "range",data:= .fields #[.int lo t,.int hi u,.int 1 v]}).objs.size:=by simpa using i
  subst e;exact a.fpOk (Zi _) (a.hok.fresh (Zi _))
def zk(a:TA):TI:=λb H R=>a b H λvs c=>∃j:Int,vs=[.int j]/\ -(2^62)<=j/\j<2^62/\R (Itr 0 j.toNat) c
theorem xy{a:Expr}(c:Gl X "range")(d:X.mg "range"=none)(f:PA X [a] g)(i:starEach [a] X.env=[(false,eval a X.env)]):PI X tg (.Call (.Name "range" p) [a] [] pos) (zk g):=by
 intro pins s l H R I h;refine Call_ (i8 I c d boot_range (PyProof.Rows.callWith_type1 (thP (f pos pins s l H _ I h) λus u vs v m n b=>?_) i rfl));have%[j,e,b,o|q]:=b;subst e;cases n with
 | cons r rr=>
   cases rr;have%[t|rfl]:=r;exact call_range_1 (zj m ⋯ ⋯ b o (by simpa using q))
def zo(f:TI)(g:TG)(h:TS):TS:=λD a H=>f a H λJ j=>∃W:Nat->Nat->St->Hp->Prop,(∃m,W 0 m a j)/\∀i m a H,W i m a H->
 (J.stop i H/\D.nx a H)\/(J.go i H/\∃N:St->Hp->Prop,(∀b c,N b c->∃e,e<m/\W (i+1) e b c)/\∀x c,J.yld i H x c->g x a c λd l=>h {D with nx:=N,ct:=N,bk:=D.nx} d l)
noncomputable def qy(a:List Addr)(h:Heap):ZE:=a.filterMap λb=>(h.get? b).map λo=>(b,o)
theorem eA(a:b∈c)(e:h.get? b=some o):(b,o)∈qy c h:=mem_filterMap.mpr %[b,a|by rw[e];rfl]
theorem xz(a:p∈qy c h):p.1∈c/\h.get? p.1=some p.2:=by
 have%[b,d|e]:=mem_filterMap.mp a;cases q:h.get? b with
 | none=>simp_all
 | some o=>
   rw[q]at e;have f:=Za e;subst f;exact%[d|q]
theorem Inv.pinned(I:Inv X pins g H s)(h:∀b∈a,lE X pins H b)(i:∀b∈a,∃o,s.heap.get? b=some o/\∀v,o.data≠ .cell v):Inv X (pins++qy a s.heap) g H s:=
 I.pins_of λp j=>(Xo j).elim (λz=>I.pin p (Yw _ z)) λz=>by
  have%[c|e]:=xz z;have%[l,m,n|_]:=h p.1 c;have%[o,f|d]:=i p.1 c;rw[e]at f;cases f;exact%[e,l,m,n|d]
theorem Inv.unpinned(I:Inv X (pins++pl) a H s):Inv X pins a H s:=I.pins_of λp b=>I.pin p (Yw _ (Yv _ b))
theorem Eb(A:PassesOwn (model X.prog X.w) X.A X.env X.xe)(hc:X.calm=true)(hi:PI X tg b8 wi)(hg:PG X tg g)(c:PSs X B tb)
 (hs:∀x,foldedSetIterable b8 X.env x=pure x):PS X (.For tg b8 B [] pos) (zo wi g tb):=by
 intro pins s σ H D I h;refine wpAny_For (thn (hi pins s σ H _ I h) λv s1 h1=>thn h1 λab s2 h2=>?_) hs;have%[it,M,tn,J,H2,e,I2,T,Q,f2,W,%[m0|w0]|C]:=h2;subst e;have j:∀{w:Hp},(∀b∈M,w b=none)->∀b∈M,lE X pins w b:=λhn b c=>%[hn b c|(f2 b c).2]
 refine codeAny_forLoop_any (λn s'=>∃i l w,Inv X pins l w s'/\tn i s'.heap/\(∀b∈M,w b=none)/\W i n l w) ?_ m0 %[0,σ,H2,I2,Q,λb c=>(f2 b c).1|w0];intro n s3 %[i,p,O,I3,E,G|w3];rcases C i n p O w3 with⟨stop,qn⟩|⟨go,N,hN,step⟩
 .refine wpAny_passesOwn A (thn (T.done X rfl rfl rfl hc i pins s3 p O X.xe I3 (j G) E stop) λr s4 ⟨U,I4⟩=>?_);subst U;exact wpAny_execs_nil %[p,O,I4|qn]
 .refine wpAny_passesOwn A (thn (T.item X rfl rfl rfl hc i pins s3 p O X.xe I3 (j G) E go) λr s4 ⟨u,U,h4⟩=>?_);subst U;refine wpAny_passesOwn A (thn h4 λ_ s5 ⟨x,H5,I5,r5,y5,z,Y⟩=>wpAny_passesOwn A (thn (hg _ s5 p H5 x u _ (I5.pinned (j Y) (T.obj _ _ z)) r5 (step x H5 y5)) λ_ s6 ⟨aa,H6,I6,q6⟩=>wpAny_passesOwn A (thn (c _ s6 aa H6 _ I6 q6) λf s7 y=>?_)));have again:∀{a:St} {q:Hp},Inv X _ a q s7->N a q->∃m,m<n/\∃i l w,Inv X pins l w s7/\tn i s7.heap/\(∀b∈M,w b=none)/\W i m l w:=λ{a q} t L=>by
   have%[m',hm|w7]:=hN a q L;refine%[m',hm,i+1,a,q,t.unpinned,T.keep _ _ _ z λb c o e=>(t.pin _ (Yw _ (Yw _ (eA c e)))).1,λb c=>?_|w7];have%[o,e|d]:=T.obj _ _ z b c;exact(t.pin _ (Yw _ (Yw _ (eA c e)))).2.1
  cases f with
  | next=>have%[a,q,t|L]:=y;exact again t L
  | cont=>have%[a,q,t|L]:=y;exact again t L
  | brk=>have%[a,q,t|y]:=y;exact%[a,q,t.unpinned|y]
  | ret v=>have%[x7,a,q,t,r7|y]:=y;exact%[x7,a,q,t.unpinned,r7|y]
end
theorem bL{K:ZA}{g:TG}{l:TS}{D:iO}(Pv:Nat->St->Hp->Prop)(o:Pv 0 b H)(r:∀i b H,i<=xs.length->Pv i b H->SqL K H a xs)
 (s:∀i x b H,xs[i]? =some x->Pv i b H->g x b H λc h=>l {D with nx:=Pv (i+1),ct:=Pv (i+1),bk:=D.nx} c h) (t:∀b H,Pv xs.length b H->D.nx b H):
 ∃W:Nat->Nat->St->Hp->Prop,(∃m,W 0 m b H)/\∀i m b H,W i m b H->
  ((Itl K a).stop i H/\D.nx b H)\/((Itl K a).go i H/\∃N:St->Hp->Prop,(∀d f,N d f->∃n,n<m/\W (i+1) n d f)/\∀x f,(Itl K a).yld i H x f->g x b f λc h=>l {D with nx:=N,ct:=N,bk:=D.nx} c h):=by
 refine%[λi m b H=>m=xs.length-i/\i<=xs.length/\Pv i b H,%[xs.length,by simp,Xg _|o]|?_];intro i m b H %[rfl,hi|p];have q:=r i b H hi p;by_cases j:i<xs.length
 .refine .inr %[%[xs,xs[i],q|by simp],Pv _,λd f u=>%[xs.length-(i+1),⋯,rfl,j|u]|λx f y=>?_];have%[e|y]:=y;subst e;exact s i x b _ (y xs q) p
 .have e:i=xs.length:=by lia
  subst e;exact .inl %[%[xs,q|Zi _]|t b H p]
theorem cP{lo:Int}{g:TG}{j:TS}{D:iO}(Pv:Nat->St->Hp->Prop)(o:Pv 0 a H)
 (q:∀i a H,i<n->Pv i a H->g (.int (lo+i)) a H λb h=>j {D with nx:=Pv (i+1),ct:=Pv (i+1),bk:=D.nx} b h) (r:∀a H,Pv n a H->D.nx a H):
 ∃W:Nat->Nat->St->Hp->Prop,(∃m,W 0 m a H)/\∀i m a H,W i m a H->
  ((Itr lo n).stop i H/\D.nx a H)\/((Itr lo n).go i H/\∃N:St->Hp->Prop,(∀c d,N c d->∃l,l<m/\W (i+1) l c d)/\∀x d,(Itr lo n).yld i H x d->g x a d λb h=>j {D with nx:=N,ct:=N,bk:=D.nx} b h):=by
 refine%[λi m a H=>m=n-i/\i<=n/\Pv i a H,%[n,by simp,Xg _|o]|?_];intro i m a H %[rfl,hi|p];by_cases f:i<n
 .refine .inr %[f,Pv _,λc d s=>%[n-(i+1),⋯,rfl,f|s]|λx d y=>?_];have%[e|y]:=y;subst e y;exact q i a _ f p
 .have e:i=n:=by lia
  subst e;exact .inl %[Zi _|r a H p]
noncomputable abbrev R2:=V->V->Hp->VK->Prop
def OpR(X:Cx)(f:Value->Value->Sem Value)(r:R2):Prop:=
 ∀pins s (a:St) H x y v u Q,Inv X pins a H s->aR x v->aR y u->r x y H Q->
  (~~~X) (f v u) (EP X pins a Q) X.xe s
def UnR(X:Cx)(f:Value->Sem Value)(r:V->Hp->VK->Prop):Prop:=
 ∀pins s (a:St) H x v Q,Inv X pins a H s->aR x v->r x H Q->
  (~~~X) (f v) (EP X pins a Q) X.xe s
def bX(X:Cx)(f:Value)(r:List V->Hp->VK->Prop):Prop:=
 ∀pins s (a:St) H xs us Q,Inv X pins a H s->aC xs us->r xs H Q->
  (~~~X) (call f us) (EP X pins a Q) X.xe s
def TruR(X:Cx)(r:V->Hp->(Bool->Hp->Prop)->Prop):Prop:=
 ∀pins s (a:St) H x v Q,Inv X pins a H s->aR x v->r x H Q->
  (~~~X) (truthy v) (TP X pins a Q) X.xe s
def tOp(r:R2)(b c:TE):TE:=λa H Q=>b a H λx d=>c a d λy e=>r x y e Q
def tUn(r:V->Hp->VK->Prop)(a:TE):TE:=λb H Q=>a b H λx c=>r x c Q
def rI(C:Int->Int->Prop)(g:Int->Int->V):R2:=λx y H Q=>asI x λi=>asI y λj=>C i j/\Q (g i j) H
def rI0(g:Int->Int->V):R2:=λx y H Q=>asI x λi=>asI y λj=>Q (g i j) H
def rU(g:Int->V):V->Hp->VK->Prop:=λx H Q=>asI x λi=>Q (g i) H
section
variable{X:Cx}{a b c:Expr}{ta tb tc:TE}{pos:Pos}
theorem Ec(m:PE X a ta)(n:PE X b tb){pins:List _}{s:Shared}{d:St}{H:Hp}{R:V->V->Hp->Prop}(I:Inv X pins d H s)
 (h:ta d H λx l=>tb d l λy e=>R x y e) {Q:ZD} {f:Value->Value->Sem Value}
 (o:∀v u j x y e,Inv X pins d e j->aR x v->aR y u->R x y e->(~~~X) (f v u) Q X.xe j):
 (~~~X) (eval a X.env) (λv g=>(~~~X) (eval b X.env) (λu i=>(~~~X) (f v u) Q X.xe i) X.xe g) X.xe s:=by
 exact thP (m pins s d H _ I h) λv p x l q r t=>thP (n pins p d l _ q t) λu j y e w z A=>o v u j x y e w r z A
theorem F5{r:R2}(d:OpR X (binaryOp e) r)(f:PE X a ta)(g:PE X b tb):PE X (.BinOp a e b pos) (tOp r ta tb):=by
 intro pins s i H Q I h;exact wpAny_BinOp (Ec f g I h λv u j x y l m n o q=>d pins j i l x y v u Q m n o q)
theorem F6(e:UnR X (unaryOp f) r)(g:PE X a ta):PE X (.UnaryOp f a pos) (tUn r ta):=by
 intro pins s d H Q I h;exact UnaryOp_ (thP (g pins s d H _ I h) λv i x j l m n=>e pins i d j x v Q l m n)
theorem opI{f:Value->Value->Sem Value}{C:Int->Int->Prop}{g:Int->Int->Int}
 (rule:∀i j t u s Q E,C i j->Q (.int (g i j) s.toks) {s with toks:=s.toks+1}->(~~~X) (f (.int i t) (.int j u)) Q E s):
 OpR X f (rI C λi j=> .int (g i j)):=by
 intro pins s n H x y v u Q I d e h;have%[i,rfl|l]:=hJ h;have%[j,rfl,m|q]:=hJ l;have%[t|rfl]:=d;have%[t'|rfl]:=e;exact rule i j t t' s _ _ m %[.int _,H,I.tok _,%[_|rfl]|q]
theorem F7{g:Int->Int->Int}
 (rule:∀(i j:Int) (t u:Tok) (s:Shared) (Q:ZD) (E:ZD),Q (.int (g i j) s.toks) {s with toks:=s.toks+1}->(~~~X) (f (.int i t) (.int j u)) Q E s):
 OpR X f (rI0 λi j=> .int (g i j)):=by
 intro pins s m H x y v u Q I d e h;have%[i,rfl|l]:=hJ h;have%[j,rfl|q]:=hJ l;have%[t|rfl]:=d;have%[t'|rfl]:=e;exact rule i j t t' s _ _ %[.int _,H,I.tok _,%[_|rfl]|q]
theorem BX{g:Int->Int->Bool}
 (rule:∀(i j:Int) (t u:Tok) (s:Shared) (Q:ZD) (E:ZD),Q (.bool (g i j)) s->(~~~X) (f (.int i t) (.int j u)) Q E s):
 OpR X f (rI0 λi j=> .bl (g i j)):=by
 intro pins s m H x y v u Q I d e h;have%[i,rfl|l]:=hJ h;have%[j,rfl|q]:=hJ l;have%[t|rfl]:=d;have%[t'|rfl]:=e;exact rule i j t t' s _ _ %[.bl _,H,I,rfl|q]
def F8(i j:Int):Prop:=0<j/\j<1073741824
def zq(i j:Int):Prop:=(-(2^64)<i/\i<2^64)\/(-(2^64)<j/\j<2^64)
theorem zq.ok{i j:Int}(h:zq i j):IntMulOk i j:=by
 rcases h with⟨d,e⟩|⟨d,e⟩
 .exact .of_left (intBits_le_64 d e)
 .exact .of_right (intBits_le_64 d e)
theorem zt:OpR X (binaryOp .Add) (rI0 λi j=> .int (i+j)):=F7 λ_ _ _ _ _ _ _ q=>add_int q
theorem Ee:OpR X (binaryOp .Sub) (rI0 λi j=> .int (i-j)):=F7 λ_ _ _ _ _ _ _ q=>sub_int q
theorem zu:OpR X (binaryOp .Mult) (rI zq λi j=> .int (i*j)):=opI λ_ _ _ _ _ _ _ d q=>mul_int q d.ok
theorem BY:OpR X (binaryOp .FloorDiv) (rI F8 λi j=> .int (i/j)):=opI λi j _ _ _ _ _ d q=>by
 have e:(0:Int)<j:=d.1;have f:j<1073741824:=d.2;exact floordiv_int ⋯ (by rw[Int.fdiv_eq_ediv_of_nonneg i ⋯];exact q) (.inl (PyProof.noPylong_small ⋯))
theorem Ef:OpR X (binaryOp .Mod) (rI (λ_ j=>0<j) λi j=> .int (i%j)):=opI λi j _ _ _ _ _ d q=>by
 have e:(0:Int)<j:=d;exact mod_int' ⋯ (by rw[Int.fmod_eq_emod_of_nonneg i ⋯];exact q)
theorem unI{g:Int->Int}
 (rule:∀(i:Int) (t:Tok) (s:Shared) (Q:ZD) (E:ZD),Q (.int (g i) s.toks) {s with toks:=s.toks+1}->(~~~X) (f (.int i t)) Q E s):
 UnR X f (rU λi=> .int (g i)):=by
 intro pins s e H x v Q I d h;have%[i,rfl|q]:=hJ h;have%[t|rfl]:=d;exact rule i t s _ _ %[.int _,H,I.tok _,%[_|rfl]|q]
theorem Eg:UnR X (unaryOp .USub) (rU λi=> .int (-i)):=unI λ_ _ _ _ _ q=>neg_int q
end
noncomputable def Eh:V->V->Bool
 | .non,.non=>true| .non,.int _=>true| .int _,.non=>true| .non,.bl _=>true| .bl _,.non=>true| .non,.str _=>true| .str _,.non=>true
 | .int _,.int _=>true| .bl _,.bl _=>true| .str _,.str _=>true| .byt _,.byt _=>true
 | .int _,.str _=>true| .str _,.int _=>true| .bl _,.str _=>true| .str _,.bl _=>true
 | _,_=>false
theorem zqD:(Eh .non .non=true)/\(∀j,Eh .non (.int j)=true)/\(∀i,Eh (.int i) .non=true)/\(∀j,Eh .non (.bl j)=true)/\(∀i,Eh (.bl i) .non=true)/\(∀j,Eh .non (.str j)=true)/\(∀i,Eh (.str i) .non=true)/\(∀i j,Eh (.int i) (.int j)=true)/\(∀i j,Eh (.bl i) (.bl j)=true)/\(∀i j,Eh (.str i) (.str j)=true)/\(∀i j,Eh (.byt i) (.byt j)=true)/\(∀i j,Eh (.int i) (.str j)=true)/\(∀i j,Eh (.str i) (.int j)=true)/\(∀i j,Eh (.bl i) (.str j)=true)/\(∀i j,Eh (.str i) (.bl j)=true):=by and_intros<;> intros<;> rfl
def rEq:R2:=λx y H Q=>Eh x y=true/\Q (.bl (decide (x=y))) H
def rNe:R2:=λx y H Q=>Eh x y=true/\Q (.bl (!decide (x=y))) H
theorem wu:decide (V.int i=V.int j)=(i==j):=by
 rw[Bool.eq_iff_iff];simp
theorem zv:decide (V.bl i=V.bl j)=(i==j):=by
 rw[Bool.eq_iff_iff];simp
theorem wv:decide (V.str i=V.str j)=(i==j):=by
 rw[Bool.eq_iff_iff];simp
theorem ww:decide (V.byt i=V.byt j)=(i.toList==j.toList):=by
 rw[Bool.eq_iff_iff]
 simp_all
section
variable{X:Cx}{a b c:Expr}{ta tb tc:TE}{pos:Pos}
theorem aV(I:Inv X pins d H s)(q:Q (.bl k) H)(e:k=f):EP X pins d Q (.bool f) s:=by
 subst e;exact%[.bl k,H,I,rfl|q]
theorem F9:OpR X (compareOp .Eq) rEq:=by
 intro pins s g H x y v u Q I f d h;have%[e|q]:=h;cases x with
 | non=>
   cases f;cases y with
   | non=>cases d;exact PySem.EqNone.eq_none_none (aV I q ∅)
   | bl j=>cases d;exact PySem.EqNone.eq_none_bool (aV I q ∅)
   | int j=>have%[t'|rfl]:=d;exact PySem.EqNone.eq_none_int (aV I q ∅)
   | str j=>have%[t'|rfl]:=d;exact PySem.EqNone.eq_none_str (aV I q ∅)
   | _=>exact absurd (show false=true from e) Zu
 | bl i=>
   cases f;cases y with
   | non=>cases d;exact PySem.EqNone.eq_bool_none (aV I q ∅)
   | bl j=>cases d;exact eq_bool (aV I q zv)
   | str j=>have%[t'|rfl]:=d;exact PySem.EqMixed.eq_bool_str (aV I q ∅)
   | _=>exact absurd (show false=true from e) Zu
 | int i=>
   have%[t|rfl]:=f;cases y with
   | non=>cases d;exact PySem.EqNone.eq_int_none (aV I q ∅)
   | int j=>have%[t'|rfl]:=d;exact eq_int (aV I q wu)
   | str j=>have%[t'|rfl]:=d;exact PySem.EqMixed.eq_int_str (aV I q ∅)
   | _=>exact absurd (show false=true from e) Zu
 | str i=>
   have%[t|rfl]:=f;cases y with
   | non=>cases d;exact PySem.EqNone.eq_str_none (aV I q ∅)
   | bl j=>cases d;exact PySem.EqMixed.eq_str_bool (aV I q ∅)
   | int j=>have%[t'|rfl]:=d;exact PySem.EqMixed.eq_str_int (aV I q ∅)
   | str j=>have%[t'|rfl]:=d;exact eq_str (aV I q wv)
   | _=>exact absurd (show false=true from e) Zu
 | byt i=>
   have%[t|rfl]:=f;cases y with
   | byt j=>have%[t'|rfl]:=d;exact PySem.W.eq_bytes (aV I q ww)
   | _=>exact absurd (show false=true from e) Zu
 | _=>cases y<;> exact absurd (show false=true from e) Zu
theorem Ga:OpR X (compareOp .NotEq) rNe:=by
 intro pins s g H x y v u Q I f d h;have%[e|q]:=h;cases x with
 | non=>
   cases f;cases y with
   | non=>cases d;exact PySem.EqNone.ne_none_none (aV I q ∅)
   | bl j=>cases d;exact PySem.EqNone.ne_none_bool (aV I q ∅)
   | int j=>have%[t'|rfl]:=d;exact PySem.EqNone.ne_none_int (aV I q ∅)
   | str j=>have%[t'|rfl]:=d;exact PySem.EqNone.ne_none_str (aV I q ∅)
   | _=>exact absurd (show false=true from e) Zu
 | bl i=>
   cases f;cases y with
   | non=>cases d;exact PySem.EqNone.ne_bool_none (aV I q ∅)
   | bl j=>cases d;exact ne_bool (aV I q (congrArg not zv))
   | str j=>have%[t'|rfl]:=d;exact PySem.EqMixed.ne_bool_str (aV I q ∅)
   | _=>exact absurd (show false=true from e) Zu
 | int i=>
   have%[t|rfl]:=f;cases y with
   | non=>cases d;exact PySem.EqNone.ne_int_none (aV I q ∅)
   | int j=>have%[t'|rfl]:=d;exact ne_int (aV I q (congrArg not wu))
   | str j=>have%[t'|rfl]:=d;exact PySem.EqMixed.ne_int_str (aV I q ∅)
   | _=>exact absurd (show false=true from e) Zu
 | str i=>
   have%[t|rfl]:=f;cases y with
   | non=>cases d;exact PySem.EqNone.ne_str_none (aV I q ∅)
   | bl j=>cases d;exact PySem.EqMixed.ne_str_bool (aV I q ∅)
   | int j=>have%[t'|rfl]:=d;exact PySem.EqMixed.ne_str_int (aV I q ∅)
   | str j=>have%[t'|rfl]:=d;exact ne_str (aV I q (congrArg not wv))
   | _=>exact absurd (show false=true from e) Zu
 | byt i=>
   have%[t|rfl]:=f;cases y with
   | byt j=>have%[t'|rfl]:=d;exact PySem.W.ne_bytes (aV I q (congrArg not ww))
   | _=>exact absurd (show false=true from e) Zu
 | _=>cases y<;> exact absurd (show false=true from e) Zu
theorem Gb:OpR X (compareOp .Lt) (rI0 λi j=> .bl (decide (i<j))):=BX λ_ _ _ _ _ _ _ q=>lt_int q
theorem Gc:OpR X (compareOp .LtE) (rI0 λi j=> .bl (decide (i<=j))):=BX λ_ _ _ _ _ _ _ q=>le_int q
theorem Gd:OpR X (compareOp .Gt) (rI0 λi j=> .bl (decide (j<i))):=BX λ_ _ _ _ _ _ _ q=>gt_int q
theorem Ge:OpR X (compareOp .GtE) (rI0 λi j=> .bl (decide (j<=i))):=BX λ_ _ _ _ _ _ _ q=>ge_int q
theorem xA:OpR X (compareOp .In) (λx y H Q=>∃i j,x= .str i/\y= .str j/\Q (.bl (!(Builtin.Str.occurrences j i 0 j.length 1).isEmpty)) H):=by
 intro pins s f H x y v u Q I d e h;have%[i,j,rfl,rfl|q]:=h;have%[t|rfl]:=d;have%[t'|rfl]:=e;exact in_str (aV I q rfl)
theorem Ei:OpR X (compareOp .Is) (λx y H Q=>y= .non/\Q (.bl (decide (x= .non))) H):=by
 intro pins s f H x y v u Q I d e h;have%[rfl|q]:=h;cases e;refine is_none_gen (aV I q ?_);cases x<;> first
  | lia
  |(have%[t|rfl]:=d;rfl)
theorem BZ:OpR X (compareOp .IsNot) (λx y H Q=>y= .non/\Q (.bl (!decide (x= .non))) H):=by
 intro pins s f H x y v u Q I d e h;have%[rfl|q]:=h;cases e;refine isnot_none_gen (aV I q ?_);cases x<;> first
  | lia
  |(have%[t|rfl]:=d;rfl)
theorem OpR.or(h:OpR X f r)(h':OpR X f i):OpR X f (λx y H Q=>r x y H Q\/i x y H Q):=by
 intro pins s d H x y v u Q I e g q;rcases q with q|q
 .exact h pins s d H x y v u Q I e g q
 .exact h' pins s d H x y v u Q I e g q
theorem nomark(b:Expr)(h:d≠ .In)(g:d≠ .NotIn):behindInMarks d b=false:=by
 have e:(d==CmpOp.In)=false:=by lia
 have f:(d==CmpOp.NotIn)=false:=by lia
 cases b<;> simp[behindInMarks,e,f]
theorem B0{r:R2}(e:OpR X (compareOp d) r)(f:PE X a ta)(g:PE X b tb)(i:behindInMarks d b=false):PE X (.Compare a [d] [b] pos) (tOp r ta tb):=by
 intro pins s j H Q I h;exact wpAny_Compare1 (Ec f g I h λv u l x y m n o p q=>e pins l j m x y v u Q n o p q) i
def zw(t:TE):TT:=λd H Q=>t d H λx e=>asB x λk=>Q k e
theorem B1(g:OpR X (compareOp f) r)(i:PE X a ta)(j:PE X b tb)(l:behindInMarks f b=false):PT X (.Compare a [f] [b] pos) (zw (tOp r ta tb)):=by
 intro pins s d H Q I h;refine wpAny_isTrue_Compare1 (thP (i pins s d H _ I h) λv m x n o p q=>thP (j pins m d n _ o q) λu t y w A B C=>
  thP (g pins t d w x y v u _ A p B C) λc L z E G J e=>?_) l
 have%[k,rfl|e]:=l8 e;cases J;exact wpAny_truthy_bool %[E,G|e]
def uT(r f:R2)(ta tb tc:TE):TE:=λd H Q=>ta d H λx g=>tb d g λy h=>r x y h λz e=>asB z λk=>
 (if k=true then tc d e λi j=>f y i j Q else Q (.bl false) e)
theorem zx(o:OpR X (compareOp j) r)(i:OpR X (compareOp e) p)(q:PE X a ta)(t:PE X b tb)(w:PE X c tc)
 (A:lastMarks [j,e] [b,c]=false):PE X (.Compare a [j,e] [b,c] pos) (uT r p ta tb tc):=by
 intro pins s f H Q I h;refine Compare_chain (thP (q pins s f H _ I h) λv B x C E G J=>chain_link (thP (t pins B f C _ E J) λu L y M N l O=>
  thP (o pins L f M x y v u _ N G l O) λd T z m n U g=>?_)) A
 have%[k,rfl|g]:=l8 g;cases U;refine wpAny_truthy_bool ?_;cases k with
 | false=>exact ite_ff %[.bl false,m,n,rfl|g]
 | true=>exact ite_tt (chain_last (thP (w pins T f m _ n g) λY s4 z' H4 I4 r4 q4=>i pins s4 f H4 y z' u Y Q I4 l r4 q4))
def zy(K:ZA)(x:V)(H:Hp)(k:Bool):Prop:=
 match x with
 | .non=>k=false
 | .bl b=>k=b
 | .int i=>k=(i != 0)
 | .str y=>y.length<=sizeLine/\k=((y.length:Int) != 0)
 | .byt y=>y.size<=sizeLine/\k=((y.size:Int) != 0)
 | .ref p=>(∃xs,SqL K H p xs/\k=!xs.isEmpty)\/(∃xs,SqT K H p xs/\k=!xs.isEmpty)\/∃d,H p=some (.dK d)/\k=!d.isEmpty
 | _=>False
theorem uU{e:Type}{d:List (e×V)}{vs:List _}(r:KV d vs):(!vs.isEmpty)=!d.isEmpty:=by
 cases r<;> rfl
theorem md(r:aC xs its):(!its.toArray.isEmpty)=!xs.isEmpty:=by
 cases r<;> simp
theorem qz:sizeLine<2^63:=by decide
theorem Ej:TruR X (λx H Q=>∃k,zy X.K x H k/\Q k H):=by
 intro pins s w H x v Q I j h;have%[k,e|q]:=h;have z:=qz;have A:sizeLine=16777216:=sizeLine_eq;cases x with
 | non=>
   cases j;have d:k=false:=e;subst d;exact truthy_none %[H,I|q]
 | bl b=>
   cases j;have d:k=b:=e;subst d;exact wpAny_truthy_bool %[H,I|q]
 | int i=>
   have%[t|rfl]:=j;have d:k=(i != 0):=e;subst d;exact PySem.P.truthy_int %[H,I|q]
 | str y=>
   have%[t|rfl]:=j;obtain⟨o,d⟩:y.length<=sizeLine/\k=((y.length:Int) != 0):=e;subst d;exact PySem.P.truthy_str ⋯ %[H,I.tok _|q]
 | byt y=>
   have%[t|rfl]:=j;obtain⟨o,d⟩:y.size<=sizeLine/\k=((y.size:Int) != 0):=e;subst d;exact PySem.W.truthy_bytes ⋯ %[H,I.tok _|q]
 | ref p=>
   cases j;have d:(∃xs,SqL X.K H p xs/\k=!xs.isEmpty)\/(∃xs,SqT X.K H p xs/\k=!xs.isEmpty)\/∃f,H p=some (.dK f)/\k=!f.isEmpty:=e;rcases d with⟨xs,l,d⟩|⟨xs,l,d⟩|⟨f,l,d⟩
   .subst d;have%[its,r,pl|n]:=I.list l;have g:=r.length;exact wpAny_truthy_list pl.isList (by simp only[Zp];lia) %[H,I.tok _|(md r)▸q]
   .subst d;have%[its,r,pl|n]:=I.tuple l;have g:=r.length;exact truthy_tuple pl (by simp only[Zp];lia) %[H,I.tok _|(md r)▸q]
   .subst d;obtain⟨n,u,vs,r,m⟩:f.length<=sizeLine/\(p==sysModules)=false/\∃vs,KV f vs/\s.heap.DictOf (aQ X.prog X.w) p vs:=I.hok p _ l;have g:f.length=vs.length:=Paired.length r;exact wpAny_truthy_dict u m ⋯ %[H,I.tok _|(uU r)▸q]
 | _=>exact(show False from e).elim
theorem zA(g:PE X a ta)(i:∀d,isTrue a X.env d=(do let v<-d;standAt a.pos;holding [v] (truthy v))):
 PT X a (λe H Q=>ta e H λx f=>∃k,zy X.K x f k/\Q k f):=by
 intro pins s e H Q I h;exact isTrue_plain (thP (g pins s e H _ I h) λv j x l m n o=>Ej pins j e l x v Q m n o) (i _)
theorem uV:OpR X (binaryOp .Add) (λx y H Q=>∃i j,x= .str i/\y= .str j/\i.length+j.length<=sizeLine/\Q (.str (i++j)) H):=by
 intro pins s g H x y v u Q I d e h;have%[i,j,rfl,rfl,f|q]:=h;have%[t|rfl]:=d;have%[t'|rfl]:=e;exact add_str (λt' tk=>%[.str _,H,I.tok _,%[_|rfl]|q]) f
theorem cV(r:aC [x] us):∃u,us=[u]/\aR x u:=by
 cases r with
 | cons d e=>cases e;exact%[_,rfl|d]
theorem iT(r:aC [x,y] us):∃u d,us=[u,d]/\aR x u/\aR y d:=by
 cases r with
 | cons e f=>
   cases f with
   | cons g h=>cases h;exact%[_,_,rfl,e|g]
theorem xB(e:X.calm=true):bX X (.builtin "max") (λxs H Q=>∃i j,xs=[.int i,.int j]/\Q (.int (if j>i then j else i)) H):=by
 intro pins s f H xs us Q I r h;have%[i,j,rfl|q]:=h;have%[u,g,rfl,%[t|rfl],t'|rfl]:=iT r;refine max_two_ints (I.ok.hd e) λh' tk k=>%[_,H,I.kept k,?_|q]
 by_cases d:j>i
 .rw[if_pos d,if_pos d];exact%[_|rfl]
 .rw[if_neg d,if_neg d];exact%[_|rfl]
theorem xC(e:X.calm=true):bX X (.builtin "min") (λxs H Q=>∃i j,xs=[.int i,.int j]/\Q (.int (if j<i then j else i)) H):=by
 intro pins s f H xs us Q I r h;have%[i,j,rfl|q]:=h;have%[u,g,rfl,%[t|rfl],t'|rfl]:=iT r;refine min_two_ints (I.ok.hd e) λh' tk k=>%[_,H,I.kept k,?_|q]
 by_cases d:j<i
 .rw[if_pos d,if_pos d];exact%[_|rfl]
 .rw[if_neg d,if_neg d];exact%[_|rfl]
theorem xD:bX X (.type "int") (λxs H Q=>(∃i,xs=[.int i]/\Q (.int i) H)\/∃k,xs=[.bl k]/\Q (.int (if k then 1 else 0)) H):=by
 intro pins s e H xs us Q I r h;rcases h with⟨i,rfl,q⟩|⟨k,rfl,q⟩
 .have%[u,rfl,t|rfl]:=cV r;exact call_int_int %[.int i,H,I,%[_|rfl]|q]
 .have%[u,rfl|d]:=cV r;cases d;exact call_int_bool %[.int _,H,I.tok _,%[_|rfl]|q]
theorem qA:bX X (.type "str") (λxs H Q=>∃i,xs=[.int i]/\i.natAbs.log2<1920/\Q (.str (toString i)) H):=by
 intro pins s e H xs us Q I r h;have%[i,rfl,d|q]:=h;have%[u,rfl,t|rfl]:=cV r;exact PySem.P.str_of_int d %[.str _,H,I.tok _,%[_|rfl]|q]
def B2(K:ZA)(x:V)(H:Hp)(n:Nat):Prop:=
 match x with
 | .str y=>y.length<=sizeLine/\n=y.length
 | .byt y=>y.size<=sizeLine/\n=y.size
 | .ref p=>(∃xs,SqL K H p xs/\n=xs.length)\/∃xs,SqT K H p xs/\n=xs.length
 | _=>False
theorem zB:bX X (.builtin "len") (λxs H Q=>∃x n,xs=[x]/\B2 X.K x H n/\Q (.int n) H):=by
 intro pins s o H xs us Q I r h;have%[x,n,rfl,e|q]:=h;have%[u,rfl|g]:=cV r;have v:=sizeLine_eq;cases x with
 | str y=>
   have%[t|rfl]:=g;obtain⟨l,f⟩:y.length<=sizeLine/\n=y.length:=e;subst f;exact len_str ⋯ %[.int _,H,I.tok _,%[_|rfl]|q]
 | byt y=>
   have%[t|rfl]:=g;obtain⟨l,f⟩:y.size<=sizeLine/\n=y.size:=e;subst f;exact PySem.W.len_bytes ⋯ %[.int _,H,I.tok _,%[_|rfl]|q]
 | ref p=>
   cases g;have f:=e;rcases f with⟨xs,i,f⟩|⟨xs,i,f⟩
   .subst f;have%[its,j,pl|m]:=I.list i;have d:=j.length;exact Calls.call_len_list pl.isList (by simp only[Zp];lia) %[.int xs.length,H,I.tok _,%[_|by simp only[Zp];rw[d]]|q]
   .subst f;have%[its,j,pl|m]:=I.tuple i;have d:=j.length;exact len_tuple pl (by simp only[Zp];lia) %[.int xs.length,H,I.tok _,%[_|by simp only[Zp];rw[d]]|q]
 | _=>exact(e).elim
end
structure uW (h:Heap) (x dx C:Addr) (mA:ZC):Prop where
 obj:h.get? x=some (instObj C dx)
 ns:h.Ns1 dx mA
 ne:dx≠x
theorem oU{h:Heap}{c:ZC}(n:h.Ns1 d c):∃od,h.get? d=some od/\∀name,lookIn name od=some (c name):=by
 have%[o,f,p,g,i,j,_|l]:=n;refine%[o,g|λname=>?_];have e:=l name;unfold nsFind findBy at e;rw[<-Array.find?_toList]at e;unfold lookIn;rw[i];dsimp only
 split
 .rename_i y q
  rw[q]at e;exact congrArg some e
 .rename_i q
  rw[q]at e;have a:f.toList.any (·.refKey)=false:=by
   rw[List.any_eq_false];intro y m;have%[z,t|b]:=j y (mem_toList_iff.mp m);simp[DictEntry.refKey,b]
  rw[if_neg (a▸Zu)];exact congrArg some e
theorem uW.look(I:uW h x a C b):∃od,PySem.W.InstAt h x (instObj C a) C (some od)/\∀name,lookIn name od=some (b name):=
 let⟨od,c,d⟩:=oU I.ns
 %[od,%[I.obj,rfl,rfl|c]|d]
section
#where
variable{K:ZA}{x dx C f:Addr}{mA:ZC}{name:Str}{v:Value}
theorem B3(X:K.In s.heap)(I:uW s.heap x dx C mA)(c:plainGet K C name=true)(d:hasDictIn K C=true)
 (e:findIn K (.ref C) name=some none) (g:mA name=some v) (a:handedIn v=true) (h:Q v {s with toks:=s.toks+1}):
 ↥A (getAttr (.ref x) name b) Q E s:=by
 have%[od,J|i]:=I.look;exact PySem.W.get_value X J (plainGet_of c).1 (findObj_own d e rfl (by rw[i,g])) a h
theorem zC(X:K.In s.heap)(I:uW s.heap x dx C mA)(a:plainGet K C name=true)
 (b:findIn K (.ref C) name=some (some (.ref f))) (c:isFn K (.ref f)=true) (d:mA name=none) (h:Q (.ref f,[.ref x]) s):
 ↥A (getMethod (.ref x) name pl) Q E s:=by
 have%[od,J|e]:=I.look;exact PySem.W.method_fn X J (plainGet_of a).1 (plainGet_of a).2 b (beq_iff_eq.mp c) (by show(lookIn name od).map _=some false;rw[e,d];rfl) h
theorem B4(X:K.In s.heap)(I:uW s.heap x dx C mA)
 (j:findIn K (.ref C) "__setattr__"=some (some (.builtin "object.__setattr__"))) (l:plainOver K C=true) (m:takerIn K C name=some none) (n:hasDictIn K C=true)
 (hw:PySem.Within mA o) (p:o.length<=sizeLine)
 (h:∀h',uW h' x dx C (λy=>if y=name then some v else mA y)->SameBut dx s.heap h'->Q () {s with heap:=h',toks:=s.toks+2}):
 ↥A (setAttr (.ref x) name v) Q E s:=by
 have%[od,J|u]:=I.look;refine set_plain X J j (PySem.W.osa_open X J l m λb=>?_);have%[z,q|d]:=any_some n;refine Z2 (Z3 (Z2 (Z2 (wpAny_loadPart I.obj (Z2 (Looks.here (looks_clsIn X q) ?_))))));rw[d];refine Z3 (Z2 (Z3 (Z2 (wpAny_nsSet1 I.ns λh' a c=>?_))));have%[B,r,t,e,g|i]:=a.count (PySem.Within.cons name v hw);exact Z2 (wpAny_lookBehind e (g▸pastItsLine_dict (Yi i (by simp_all))) (Z3 (h _ %[(c.2 _ (Ne.symm I.ne)).trans I.obj,a|I.ne] c)))
theorem zD{R:Result->Shared->Prop}(X:K.In s.heap)(b:makesIn K C=true)
 (hi:findIn K (.ref C) "__init__"=some (some (.ref f))) (c:typeIn K (.ref f)=some (.type "function"))
 (h:codeAny (model prog w) (A.under (.builtin "type.__call__" %[.ref C::vs|a])) (.call (.ref f) %[.ref (⇑s+1)::vs|a]) (PySem.W.InitBack (⇑s+1) R)
  (s>>>(s.heap.push emptyDict).push (instObj C ⇑s))):
 codeAny (model prog w) A (.call (.ref C) %[vs|a]) R s:=by
 exact PySem.W.make_core (PySem.W.makes_of X b) (looks_findIn X hi) (λself=>PySem.W.bind_fn X self c) (.inl rfl) h
end
noncomputable def dg(f:Str)(v:V):List (Str×V)->List (Str×V)
 |[]=>[(f,v)]
 |(g,x)::r=>if g=f then(g,v)::r else(g,x)::dg f v r
theorem kR(f g:Str)(v:V):∀fs,(dg f v fs).lookup g=if g=f then some v else fs.lookup g
 |[]=>by
  show List.lookup g [(f,v)]=_;by_cases h:g=f
  .have a:=beq_iff_eq.mpr h;simp only[List.lookup,a,if_pos h]
  .have a:=beq_eq_false_iff_ne.mpr h;simp only[List.lookup,a,if_neg h]
 |(k,x)::r=>by
  rw[show dg f v _=(if k=f then(k,v)::r else(k,x)::dg f v r)from rfl];by_cases b:k=f
  .rw[if_pos b];by_cases h:g=k
   .have a:=beq_iff_eq.mpr h;simp only[List.lookup,a,if_pos (h.trans b)]
   .have a:=beq_eq_false_iff_ne.mpr h;simp only[List.lookup,a,if_neg (λe:g=f=>h (e.trans b.symm))]
  .rw[if_neg b];by_cases h:g=k
   .have a:=beq_iff_eq.mpr h;simp only[List.lookup,a,if_neg (λe=>b (h.symm.trans e))]
   .have a:=beq_eq_false_iff_ne.mpr h;simp only[List.lookup,a];exact(kR f g v r)
theorem kg(f:Str)(v:V):∀fs:List (Str×V),f∈(dg f v fs).map (·.1)/\∀g,g∈fs.map (·.1)->g∈(dg f v fs).map (·.1)
 |[]=>%[by simp[dg]|λg h=>by simp at h]
 |(k,x)::r=>by
  have%[a|b]:=kg f v r;rw[show dg f v _=(if k=f then(k,v)::r else(k,x)::dg f v r)from rfl]
  grind
theorem kS(f:Str)(v:V):∀fs,(dg f v fs).length<=fs.length+1
 |[]=>by simp[dg]
 |(k,x)::r=>by
  have a:=kS f v r;rw[show dg f v _=(if k=f then(k,v)::r else(k,x)::dg f v r)from rfl];by_cases b:k=f
  .simp_all
  simp_all
theorem fk.some_of(r:fk (some v) o):∃u,o=some u/\aR v u:=by
 cases o with
 | none=>exact(r).elim
 | some u=>exact%[u,rfl|r]
theorem fk.none_of(r:fk none o):o=none:=by
 cases o with
 | none=>rfl
 | some u=>exact(r).elim
theorem oV(r:aR v u):handedIn u=true:=by
 cases v with
 | non=>cases(r);rfl
 | bl b=>cases(r);rfl
 | int i=>have%[t|e]:=(r);cases e;rfl
 | str x=>have%[t|e]:=(r);cases e;rfl
 | byt b=>have%[t|e]:=(r);cases e;rfl
 | flt b=>have%[t|e]:=(r);cases e;rfl
 | ref a=>cases(r);rfl
 | ty n=>cases(r);rfl
section
variable{P:Program}{w:World}{H H':Hp}{h h':Heap}{a C dx:Addr}{fs fs':List (Str×V)}
theorem lQ(c:HOk P w H h)(e:H a=some (.ins C dx fs)):∃b,uW h a dx C b/\(∀f,fk (fs.lookup f) (b f))/\PySem.Within b (fs.map (·.1))/\fs.length<=1000/\H dx=some (.own a):=by
 have%[d,z,ne,g,b,n,r|q]:=(c a _ e)
 exact%[b,%[g,n|ne],r,q,z|d]
end
structure Cls (K:ZA) (C:Addr):Prop where
 pg:plainGet K C Str.empty=true
 hd:hasDictIn K C=true
 po:plainOver K C=true
 sa:findIn K (.ref C) "__setattr__"=some (some (.builtin "object.__setattr__"))
theorem Cls.get{K:ZA}{C:Addr}(c:Cls K C)(f:Str):plainGet K C f=true:=c.pg
def fz(K:ZA)(C:Addr)(f:Str):Prop:=findIn K (.ref C) f=some none
theorem fz.taker{K:ZA}{C:Addr}{f:Str}(n:fz K C f):takerIn K C f=some none:=by
 unfold takerIn;rw[n];rfl
structure B5 (K:ZA) (C:Addr) (m:Str) (f:Addr):Prop where
 at_:findIn K (.ref C) m=some (some (.ref f))
 fn:isFn K (.ref f)=true
 kp:keepIn K (.ref f)=true
section
#version
variable{a C dx:Addr}{fs:List (Str×V)}{f:Str}{v:V}{A:Around}{E:ZD}
theorem uX(I:Inv X pins σ H s)(e:H a=some (.ins C dx fs))(c:Cls X.K C)(n:fz X.K C f)(l:fs.lookup f=some v)
 (h:∀u s',Inv X pins σ H s'->aR v u->Q u s'):wpAny (model X.prog X.w) A (getAttr (.ref a) f b) Q E s:=by
 have%[i,O,r,_,_|_]:=lQ I.hok e;have%[u,g|d]:=fk.some_of (l▸r f);exact B3 I.kIn O (c.get f) c.hd n g (oV d) (h u _ (I.tok _) d)
theorem uY(I:Inv X pins σ H s)(e:H a=some (.ins C dx fs))(c:Cls X.K C)(k:B5 X.K C m g)(l:fs.lookup m=none)
 (h:Q (.ref g,[.ref a]) s):wpAny (model X.prog X.w) A (getMethod (.ref a) m pl) Q E s:=by
 have%[b,O,r,_,_|_]:=lQ I.hok e;exact zC I.kIn O (c.get m) k.at_ k.fn (fk.none_of (l▸r m)) h
theorem uZ(I:Inv X pins σ H s)(e:H a=some (.ins C dx fs))(c:Cls X.K C)(n:fz X.K C f)(G:fs.length<1000)(l:aR y u)
 (h:∀s',Inv X pins σ (upd H a (.ins C dx (dg f y fs))) s'->Q () s'):wpAny (model X.prog X.w) A (setAttr (.ref a) f u) Q E s:=by
 have%[m,O,r,i,_|j]:=lQ I.hok e;refine B4 I.kIn O c.sa c.po n.taker c.hd i (by rw[Z6,sizeLine_eq];lia) λh' d p=>h _ (I.write (e▸True.intro) (.inr j) (λb q t z=>(p.2 b t).trans z) (let⟨o,_,_,w,_⟩:=d.ns;%[o|w]) %[(ao O.ne)▸j,?_,O.ne,d.obj,_,d.ns,λg=>?_|λg B=>?_])
 .have:=kS f y fs;lia
 .rw[kR];by_cases q:g=f
  .rw[if_pos q,if_pos q];exact l
  .rw[if_neg q,if_neg q];exact r g
 .by_cases q:g=f
  .exact q▸(kg f y fs).1
  .refine(kg f y fs).2 g (i g λz=>B ?_);show(if g=f then some u else m g)=none;rw[if_neg q];exact z
theorem Inv.made(I:Inv X pins σ H s):Inv X pins σ (upd (upd H ⇑s (.own (⇑s+1))) (⇑s+1) (.ins C ⇑s []))
 (s>>>(s.heap.push emptyDict).push (instObj C ⇑s)):=by
 have c:(s.heap.push emptyDict).get? ⇑s=some emptyDict:=Zj s.heap rfl;have d:=by
  have:=Zj (s.heap.push emptyDict) (o:=instObj C ⇑s) rfl;rwa[Zq]at this
 refine(I.laid (o:= .own (⇑s+1)) (t':=s.toks) (λb u q=>Z7 _ q) (Zi _) %[_|c]).laid (λb u q=>Z7 _ q) (Nat.le_of_eq (Zq _ _)) ?_;have ne:⇑s≠⇑s+1:=Zt (Yq _);refine%[by rw[ao ne,ae],Xg _,ne,d,λ_=>none,(Heap.Ns1.of_empty %[emptyDict,#[],_,c,rfl,(λe g=>absurd g ∅)|λ_=>rfl]).at λo q=>Z7 _ q,λ_=>True.intro|λy h=>absurd rfl h]
theorem wx(c:attributeBase e f env (eval e env)=eval e env)
 (h:↥A (eval e env) (λo b=>↥A (getAttr o f true) Q E b) E s):↥A (eval (.Attribute e f pos) env) Q E s:=
 Attribute_any_ h (by rw[arm_eval_Attribute,c])
end
def Ek(K:ZA)(c:TE)(f:Str):TE:=λd H Q=>c d H λx b=>∃a C e fs v,x= .ref a/\b a=some (.ins C e fs)/\Cls K C/\fz K C f/\fs.lookup f=some v/\Q v b
def El(K:ZA)(e g:TE)(f:Str):TS:=λD b H=>g b H λy h=>e b h λx c=>∃a C d fs,x= .ref a/\c a=some (.ins C d fs)/\Cls K C/\fz K C f/\fs.length<1000/\
 D.nx b (upd c a (.ins C d (dg f y fs)))
section
variable{X:Cx}{o e value:Expr}{f:Str}{pos pos' tpos:Pos}{ta tv:TE}
theorem Em(b:PE X e ta)(d:attributeBase e f X.env (eval e X.env)=eval e X.env):PE X (.Attribute e f pos) (Ek X.K ta f):=by
 intro pins s g H Q I h;refine wx d (thP (b pins s g H _ I h) λu w x i j m ⟨a,C,y,fs,v,ex,p,c,n,l,q⟩=>?_);subst ex;obtain rfl:u=Value.ref a:=m;exact uX j p c n l λz A r t=>%[v,i,r,t|q]
theorem En(d:PE X o ta)(g:PE X value tv)(i:swapsWith value (some (.Attribute o f pos')) pos.line X.env=pure false):PS X (.Assign [.Attribute o f pos'] value pos) (El X.K ta tv f):=by
 intro pins s b H D I h;refine plainObj_wpAny_Assign_Attribute (thP (g pins s b H _ I h) λu j y m p r q=>thP (d pins j b m _ p q) λt E x G v w ⟨a,C,J,fs,ex,z,c,n,l,A⟩=>?_) i;subst ex;obtain rfl:t=Value.ref a:=w;exact uZ v z c n l r λL B=>%[b,_,B|A]
end
section
#version
variable{A:Around}{E:ZD}{Q:ZD}{c:Value}{b:Bool}
inductive i9 (K:ZA) (H:Hp):V->Value->Prop where
 | non:i9 K H .non (.type "NoneType")
 | bl (x:Bool):i9 K H (.bl x) (.type "bool")
 | int (i:Int):i9 K H (.int i) (.type "int")
 | str (x:Str):i9 K H (.str x) (.type "str")
 | flt (x:UInt64):i9 K H (.flt x) (.type "float")
 | lst {a:Addr} {xs:List V} (e:H a=some (.lst xs)):i9 K H (.ref a) (.type "list")
 | frz {a:Addr} {o:Obj} {xs:List V} (e:H a=some (.frz o (.lst xs))):i9 K H (.ref a) (.type "list")
 | tup {a:Addr} {xs:List V} (e:H a=some (.tup xs)):i9 K H (.ref a) (.type "tuple")
 | dK {a:Addr} {kvs:List _} (e:H a=some (.dK kvs)):i9 K H (.ref a) (.type "dict")
 | dT {a:Addr} {kvs:List _} (e:H a=some (.dT kvs)):i9 K H (.ref a) (.type "dict")
 | ins {a C dx:Addr} {fs:List _} (e:H a=some (.ins C dx fs)) (cl:Cls K C) (ha:findIn K (.ref C) "__class__"=some (some (.builtin "object.__class__")))
  (hn:specialIn K (.builtin "object.__class__") "__get__"=some (some (.builtin "getset_descriptor.__get__"))) (htk:takesIn K (.builtin "object.__class__")=some true)
  (hm:mroIn K C (.type "object")=some true):i9 K H (.ref a) (.ref C)
theorem xE(I:Inv X pins σ H s)(d:aR x u)(ty:i9 X.K H x t)(e:kitOne X.K t c=some b)(h:∀tk,Q (.bool b) {s with toks:=tk}):
 wpAny (model X.prog X.w) A (call (.builtin "isinstance") [u,c]) Q E s:=by
 cases ty with
 | non=>cases(d);exact kia_one kitx_none I.kIn True.intro e (λz=>nomatch z) h
 | bl y=>cases(d);exact kia_one PySem.W.kitx_bool I.kIn True.intro e (λz=>nomatch z) h
 | int i=>have%[t|q]:=(d);cases q;exact kia_one PySem.W.kitx_int I.kIn True.intro e (λz=>nomatch z) h
 | str y=>have%[t|q]:=(d);cases q;exact kia_one PySem.W.kitx_str I.kIn True.intro e (λz=>nomatch z) h
 | flt y=>have%[t|q]:=(d);cases q;exact kia_one PySem.W.kitx_float I.kIn True.intro e (λz=>nomatch z) h
 | @lst a xs f=>
   cases(d);have%[_,_,n,_|g]:=(I.hok a _ f)
   exact kia_one kitx_list I.kIn %[_,g|rfl] e (λz=>nomatch z) h
 | @frz a M xs f=>
   cases(d);have%[_,_,_,n,_|g]:=(I.hok a _ f)
   exact kia_one kitx_list I.kIn %[_,g|rfl] e (λz=>nomatch z) h
 | @tup a xs f=>
   cases(d);have%[_,_,_|p]:=(I.hok a _ f)
   have%[o,g,j|_]:=p;exact kia_one PySem.W.kitx_tuple I.kIn %[o,g|j] e (λz=>nomatch z) h
 | @dK a l f=>
   cases(show u=Value.ref a from d);have%[_,_,vs,_|p]:=(I.hok a _ f)
   have%[o,v,w,g,j|_]:=p;exact kia_one kitx_dict I.kIn %[o,g|j.1] e (λz=>nomatch z) h
 | @dT a l f=>
   cases(show u=Value.ref a from d);have%[_,_,xs,_,o,v,w,g,j|_]:=(I.hok a _ f)
   exact kia_one kitx_dict I.kIn %[o,g|j.1] e (λz=>nomatch z) h
 | @ins a C N fs f r B G m L=>
   cases(d);have%[T,O|_]:=lQ I.hok f;have%[od,J|_]:=O.look;exact kia_one (PySem.W.kitx_own (r.get _) r.hd B G m L) I.kIn J e (λz=>nomatch z) h
end
structure bB (k:Nat) (A:Around):Prop where
 hd:A.handled=none
 dp:A.depth+3*k+5<recursionLimit
 un:A.units+16*k+200<cLine
 gd:A.guards=some []
theorem bB.mono(r:bB k A)(h:j<=k):bB j A:=%[r.hd,by have:=r.dp;lia,by have:=r.un;lia|r.gd]
theorem bB.deeper(r:bB (k+1) A)(env:Env):bB k (A.deeper env):=
 %[r.hd,by have:=r.dp;show A.depth+1+3*k+5<_;lia,by have:=r.un;show A.units+3+16*k+200<_;lia|r.gd]
theorem u4{A:Around}:(A.under (.builtin "type.__call__" %[.ref C::us|a])).depth=A.depth+1:=by
 first|rfl|lia
theorem u5{A:Around}:(A.under (.builtin "type.__call__" %[.ref C::us|a])).units=A.units+1:=by
 first|rfl|lia
theorem bB.make(r:bB (k+1) A)(C:Addr)(us:ZF)(a:List (Str×Value)):bB k (A.under (.builtin "type.__call__" %[.ref C::us|a])):=
 %[r.hd,by have:=r.dp;rw[u4];lia,by have:=r.un;rw[u5];lia|r.gd]
theorem bB.depth(r:bB k A):A.depth<recursionLimit:=by have:=r.dp;lia
theorem bB.units(r:bB k A):A.units+64<cLine:=by have:=r.un;lia
def xF:TA:=λ_ H Q=>Q [] H
def zE(b:TE)(c:TA):TA:=λa H Q=>b a H λx d=>c a d λxs e=>Q (x::xs) e
section
variable{X:Cx}{e:Expr}{es:List Expr}{te:TE}{t:TA}{pos:Pos}
theorem Eo:PA X [] xF:=λ_ _ _ _ H Q I h=>Calls.spliced_nil %[[],H,I,.nil|h]
theorem B6(b:PE X e te)(c:PA X es t)(d:starEach (e::es) X.env=(false,eval e X.env)::starEach es X.env):PA X (e::es) (zE te t):=by
 intro pos pins s a H Q I h;rw[d];show wpAny _ _ (spliced ((false,eval e X.env)::backTo pos _)) _ _ s;exact Calls.spliced_cons (thP (b pins s a H _ I h) λu f x g i j l=>thP (c pos pins f a g _ i l) λus q xs m n o p=>%[x::xs,m,n,.cons j o|p])
def Ep(t:TA):TE:=λb H Q=>t b H λxs a=>xs.length<=sizeLine/\∀p,a p=none->Q (.ref p) (upd a p (.tup xs))
def Er(t:TA):TE:=λb H Q=>t b H λxs a=>xs.length<=sizeLine/\∀p,a p=none->Q (.ref p) (upd a p (.lst xs))
theorem Es{d}(h:PA X es t):PE X (.Tuple es d pos) (Ep t):=by
 intro pins s f H Q I g;refine wpAny_Tuple_spliced (thP (h pos pins s f H _ I g) λus a xs i c r ⟨z,q⟩=>%[r.length▸z|?_]);have j:=c.hok.fresh (Zi _);refine%[.ref ⇑a,upd i ⇑a _,c.laid (λb u e=>Z7 _ e) (Zi _) ?_,rfl|q _ j];exact%[z,us,r,_,Zj _ rfl,rfl,_|rfl]
theorem Et(h:PA X es t):PE X (.List es pos) (Er t):=by
 intro pins s d H Q I f;refine wpAny_List_spliced (thP (h pos pins s d H _ I f) λus a xs g c r ⟨z,q⟩=>%[r.length▸z|?_]);have i:=c.hok.fresh (Zi _);refine%[.ref ⇑a,upd g ⇑a _,c.laid (λb u e=>Z7 _ e) (Zi _) ?_,rfl|q _ i];exact%[z,us,0,r|Zj _ rfl]
end
noncomputable abbrev Sp:=List V->Hp->VK->XK->Prop
noncomputable abbrev CXT:=List Env->Hp->Shared->XK->Value->Shared->Prop
structure xG (P:Program) (w:World) (K:ZA) (mg:ZC) (base:Heap) (A:Around) (outer:List Env) (s:Shared) (H:Hp):Prop where
 frames:A.frames=some outer
 mod:Mod K mg base
 bs:∀b o,base.get? b=some o->s.heap.get? b=some o/\H b=none
 bsz:base.objs.size<=⇑s
 funs:s.heap.FunFrames base outer
 frf:∀b∈frs outer,H b=none
 hok:HOk P w H s.heap
 bare:AllBare s.gens
def CE(outer:List Env)(P:Program)(w:World)(H:Hp)(s:Shared)(Q:VK)(u:Value)(s':Shared):Prop:=
 ∃v a,s'.os=s.os/\AllBare s'.gens/\Un (frs outer) [] H a s.heap s'.heap/\HOk P w a s'.heap/\aR v u/\Q v a
def CR(CX:CXT)(outer:List Env)(P:Program)(w:World)(H:Hp)(s:Shared)(Q:VK)(E:XK)(r:Result)(s':Shared):Prop:=
 match r with
 | .ok (.ret u)=>CE outer P w H s Q u s'
 | .ok _=>False
 | .error e=>CX outer H s E e s'
structure fC (P:Program) (w:World) (K:ZA) (mg:ZC) (base:Heap) (CX:CXT) (k:Nat) (f:Addr) (fd:FuncData) (ps:ZB) (sp:Sp):Prop where
 len:∀vs H Q E,sp vs H Q E->vs.length=ps.length
 run:∀A outer s H args us vs Q E,bB k A->xG P w K mg base A outer s H->BindsTo s fd args (ps.zip us)->aC vs us->sp vs H Q E->
  codeAny (model P w) A (.call (.ref f) args) (CR CX outer P w H s Q E) s
theorem xG.make{P:Program}{K:ZA}(e:xG P w K mg base A outer s H)(C:Addr)(us:ZF)(a:List (Str×Value)):
 xG P w K mg base (A.under (.builtin "type.__call__" %[.ref C::us|a])) outer s H:=⟨by first|exact e.frames|lia,e.mod,e.bs,e.bsz,e.funs,e.frf,e.hok,e.bare⟩
section
variable{X:Cx}{pins:ZE}{σ:St}{H:Hp}{s s':Shared}
theorem Inv.env0(I:Inv X pins σ H s):xG X.prog X.w X.K X.mg X.base X.A X.stack s H:=
 %[I.ok.frames,I.ok.mod,I.bs,Yi I.ok.bsz I.sz,I.stack,I.stkFree,I.hok|I.bare]
theorem Inv.after(I:Inv X pins σ H s)(h:CE X.stack X.prog X.w H s Q u s'):EP X pins σ Q u s':=by
 have%[v,f,os,a,un,c,r|q]:=h;have%[i,g,d,t|e]:=s';obtain rfl:e=s.os:=os;exact%[v,f,I.call un c a (λb z=>absurd z ∅),r|q]
end
def oW(sp:Sp)(dvs:List V)(E:XK)(t:TA):TE:=λa H Q=>t a H λvs b=>sp (vs++dvs) b Q E
def wz(C:Addr)(m:Str)(sp:Sp)(dvs:List V)(E:XK)(d:TE)(t:TA):TE:=λb H Q=>d b H λx c=>∃a e fs,x= .ref a/\c a=some (.ins C e fs)/\fs.lookup m=none/\
 t b c λvs f=>sp (x::(vs++dvs)) f Q E
def wA(C:Addr)(sp:Sp)(dvs:List V)(E:XK)(t:TA):TE:=λc H Q=>t c H λvs b=>∀x a,b x=none->b a=none->a≠x->
 sp (.ref x::(vs++dvs)) (upd (upd b a (.own x)) x (.ins C a [])) (λv d=>v= .non/\Q (.ref x) d) E
def cW(K:ZA)(a:FuncData)(ps:ZB)(ds:ZF):Prop:=
 ∀s us,K.In s.heap->(us++ds).length=ps.length->BindsTo s a %[us|[]] (ps.zip (us++ds))
theorem cW.all{K:ZA}(h:∀us:ZF,us.length=ps.length->bindArgs b %[us|[]]=pure (ps.zip us)):cW K b ps []:=λs us _ a=>by
 rw[Zz]at a ⊢;exact .of_eq (h us a)
def f6(CX:CXT)(X:Cx)(E:XK):Prop:=∀pins (a:St) H s e s',Inv X pins a H s->CX X.stack H s E e s'->X.xe e s'
section
variable{X:Cx}{CX:CXT}{k:Nat}{f C:Addr}{fd:FuncData}{ps:ZB}{sp:Sp}{dvs:List V}{ds:ZF}{E:XK}{x m:Str}{p pos apos:Pos}{e o:Expr}{es:List Expr}{ta:TE}{t:TA}
theorem zF(F:fC X.prog X.w X.K X.mg X.base CX k f fd ps sp)(d:bB k X.A)(g:cW X.K fd ps ds)(i:aC dvs ds)(j:f6 CX X E)
 (I:Inv X pins b H s) (r:aC vs us) (h:sp (vs++dvs) H Q E):(~~~X) (call (.ref f) us) (EP X pins b Q) X.xe s:=by
 have c:=r.append i;refine wpAny_call (codeAny_mono (F.run X.A X.stack s H _ _ _ Q E d I.env0 (g s us I.kIn (c.length▸F.len _ _ _ _ h)) c h) λr s' a=>?_);cases r with
 | error e=>exact j pins b H s e s' I a
 | ok l=>
   cases l with
   | ret u=>exact I.after a
   | next=>exact False.elim a
   | brk=>exact False.elim a
   | cont=>exact False.elim a
theorem wB(F:fC X.prog X.w X.K X.mg X.base CX k f fd ps sp)(d:bB k X.A)(g:Gl X x)(i:X.mg x=some (.ref f))(j:keepIn X.K (.ref f)=true)(l:cW X.K fd ps ds)(n:aC dvs ds)(u:f6 CX X E)
 (v:PA X (e::es) t) (a:(x==("__debug__":Str))=false) (w:starEach (e::es) X.env=(false,eval e X.env)::starEach es X.env) (b:(backTo pos (starEach es X.env)).any (·.1)=false):
 PE X (.Call (.Name x p) (e::es) [] pos) (oW sp dvs E t):=by
 intro pins s y H Q I h;exact wpAny_Call_Name_kw (eV I g i (callWith_K I.ok.mod.kin j (thP (v pos pins s y H _ I h) λus z vs A c r q=>%[c.kIn|zF F d l n u c r q]) w b) a)
theorem zG(i:PE X o ta)(c:Cls X.K C)(d:B5 X.K C m f)(F:fC X.prog X.w X.K X.mg X.base CX k f fd ps sp)(j:bB k X.A)(n:cW X.K fd ps ds)(r:aC dvs ds)(v:f6 CX X E)
 (w:eval (.Call (.Attribute o m apos) [] [] pos) X.env=(do
  let g<-eval o X.env
  standAt apos.atName
  let(f,first)<-holding [g] (getMethod g m pl)
  callWith pos f first (backTo pos (starEach [] X.env)) (backToKw pos (keywordEach [] X.env)))):
 PE X (.Call (.Attribute o m apos) [] [] pos) (wz C m sp dvs E ta xF):=by
 intro pins s y H Q I h;refine PySem.W.methodCall_KW (thP (i pins s y H _ I h) λu B x G b z ⟨a,J,fs,ex,A,l,q⟩=>?_) w;subst ex;obtain rfl:u=Value.ref a:=z;exact uY b A c d l (PySem.W.callWith_K0 b.kIn d.kp (zF (us:=[.ref a]) (vs:=[.ref a]) F j n r v b (.cons rfl .nil) q))
structure Mk (K:ZA) (C f:Addr):Prop where
 makes:makesIn K C=true
 init:findIn K (.ref C) "__init__"=some (some (.ref f))
 fn:isFn K (.ref f)=true
 kp:keepIn K (.ref C)=true
theorem zH(M:Mk X.K C f)(F:fC X.prog X.w X.K X.mg X.base CX k f fd ps sp)(j:bB (k+1) X.A)(l:cW X.K fd ps ds)(n:aC dvs ds)
 (q:f6 CX X E) (I:Inv X pins d H s) (r:aC vs us)
 (h:∀x b,H x=none->H b=none->b≠x->sp (.ref x::(vs++dvs)) (upd (upd H b (.own x)) x (.ins C b [])) (λv w=>v= .non/\Q (.ref x) w) E):
 (~~~X) (call (.ref C) us) (EP X pins d Q) X.xe s:=by
 have g:=h (⇑s+1) ⇑s (I.hok.fresh (Yh _)) (I.hok.fresh (Zi _)) (Zt (Yq _));have c:=Inv.made (C:=C) I;have i:aC (V.ref (⇑s+1)::(vs++dvs)) _:= .cons rfl (r.append n);have y:=by
  have e:=i.length;rw[F.len _ _ _ _ g]at e;exact e.symm
 refine wpAny_call (zD I.kIn M.makes M.init (beq_iff_eq.mp M.fn) (codeAny_mono (F.run _ X.stack _ _ _ _ _ _ E (j.make C us [])
  (c.env0.make C us []) (l _ _ c.kIn y) i g) λr s' a=>?_))
 cases r with
 | error e=>exact q pins d _ _ e s' c a
 | ok z=>
   cases z with
   | ret u=>
     have%[v,A,B,G,J|L]:=c.after a;subst J;exact%[G,V.ref _,A,B,rfl|L]
   | next=>exact False.elim a
   | brk=>exact False.elim a
   | cont=>exact False.elim a
theorem B7(M:Mk X.K C f)(F:fC X.prog X.w X.K X.mg X.base CX k f fd ps sp)(d:bB (k+1) X.A)(g:Gl X x)(i:X.mg x=some (.ref C))(j:cW X.K fd ps ds)(l:aC dvs ds)(n:f6 CX X E)
 (u:PA X (e::es) t) (a:(x==("__debug__":Str))=false) (v:starEach (e::es) X.env=(false,eval e X.env)::starEach es X.env) (b:(backTo pos (starEach es X.env)).any (·.1)=false):
 PE X (.Call (.Name x p) (e::es) [] pos) (wA C sp dvs E t):=by
 intro pins s w H Q I h;exact wpAny_Call_Name_kw (eV I g i (callWith_K I.ok.mod.kin M.kp (thP (u pos pins s w H _ I h) λus y vs z c r q=>%[c.kIn|zH M F d j l n c r q]) v b) a)
end
section
variable{X:Cx}{CX:CXT}{k:Nat}{f C:Addr}{fd:FuncData}{ps ks:ZB}{sp:Sp}{E:XK}{x m:Str}{p pos apos kpos:Pos}{e o:Expr}{es:List Expr}{kws:List Keyword}{te ta:TE}{t tk:TA}{nm:Option Str}
variable{g:ZF->ZF->ZF}{gV:List V->List V->List V}
end
structure ax (N P:ZB) (sc:Scope):Prop where
 kind:sc.kind= .function
 co:sc.isCoroutine=false
 gen:sc.isGenerator=false
 nd:N.Nodup
 pre:N.take P.length=P
 par:∀x∈P,sc.names.lookup x=some .local\/sc.names.lookup x=some .cell
 nofree:∀y∈sc.names,y.2≠ .free
theorem oX{kindOf:Str->Option NameKind}:∀{binds:List (Str×Value)} {m:ZC},(∀v,(x,v)∉binds)->bindL kindOf binds m x=m x
 |[],_,_=>rfl
 |(n,v)::r,m,h=>by
  unfold bindL;rw[oX λw hw=>h w (Zk _ hw)]
  split
  .have:x≠n:=by rintro rfl;exact h v Zm
   simp[this]
  .rfl
theorem oY{kindOf:Str->Option NameKind}:∀{binds:List (Str×Value)} {m:ZC},(∀v,(x,v)∉binds)->bindC kindOf binds m x=m x
 |[],_,_=>rfl
 |(n,v)::r,m,h=>by
  unfold bindC;rw[oY λw hw=>h w (Zk _ hw)]
  split
  .rfl
  .have:x≠n:=by rintro rfl;exact h v Zm
   simp[this]
theorem oZ{kindOf:Str->Option NameKind}{x:Str}:∀{P:ZB} {vs:ZF} {i:Nat} {m:ZC},P.Nodup->P[i]? =some x->vs[i]? =some v->kindOf x=some .local->
 bindL kindOf (P.zip vs) m x=some v
 |[],_,_,_,_,h,_,_=>by simp at h
 | _::_,[],_,_,_,_,h,_=>by simp at h
 | p::P,w::vs,0,m,nd,a,b,c=>by
   simp at a b;subst a;subst b;show bindL kindOf ((p,w)::P.zip vs) m p=_;unfold bindL;rw[oX λv d=>(nodup_cons.mp nd).1 (of_mem_zip d).1,if_pos c];simp
 | p::P,w::vs,i+1,m,nd,a,b,c=>by
   show bindL kindOf ((p,w)::P.zip vs) m x=_;exact oZ (nodup_cons.mp nd).2 (a) (b) c
theorem pc{kindOf:Str->Option NameKind}{x:Str}:∀{P:ZB} {vs:ZF} {i:Nat} {m:ZC},P.Nodup->P[i]? =some x->vs[i]? =some v->kindOf x≠some .local->
 bindC kindOf (P.zip vs) m x=some v
 |[],_,_,_,_,h,_,_=>by simp at h
 | _::_,[],_,_,_,_,h,_=>by simp at h
 | p::P,w::vs,0,m,nd,a,b,c=>by
   simp at a b;subst a;subst b;show bindC kindOf ((p,w)::P.zip vs) m p=_;unfold bindC;rw[oY λv d=>(nodup_cons.mp nd).1 (of_mem_zip d).1,if_neg c];simp
 | p::P,w::vs,i+1,m,nd,a,b,c=>by
   show bindC kindOf ((p,w)::P.zip vs) m x=_;exact pc (nodup_cons.mp nd).2 (a) (b) c
noncomputable def start(N:ZB)(vs:List V):St:=vs.map some++List.replicate (N.length-vs.length) none
noncomputable def eB(CX:CXT)(P:Program)(w:World)(K:ZA)(mg:ZC)(base:Heap)(N:ZB)(qual:Str)(scope:Scope)(f:Addr)(cd:Value)(A:Around)(outer:List Env)(s:Shared)(H:Hp)(E:XK):Cx where
 prog:=P
 w:=w
 K:=K
 mg:=mg
 base:=base
 A:=A.deeper (envOfC qual scope ⇑s f cd)
 N:=N
 s₀:=s
 H₀:=H
 env:=envOfC qual scope ⇑s f cd
 outer:=outer
 stack:=envOfC qual scope ⇑s f cd::outer
 ex:=[]
 calm:=true
 fn:=λ_=>true
 pn:=[]
 xe:=λe s'=>wpAny (model P w) (A.deeper (envOfC qual scope ⇑s f cd)) (leaving (envOfC qual scope ⇑s f cd) e) (λ_ s''=>CX outer H s E e s'') (λe' s''=>CX outer H s E e' s'') s'
theorem sI{a:Scope}{n:Nat}{x:Str}(h:a.names.lookup x=some .cell):∃c,(cellsFrom n a.names []).lookup x=some c:=by
 exact isSome_iff_exists.mp (cellsFrom_some a.names n [] (.inl h))
theorem xH{P:Program}{K:ZA}
 (S:ax N ps a) (I:A.handled=none) (g:xG P w K mg base A outer s H) (Q:vs.length=ps.length) (r:aC vs us)
 (x:InCallC s ⇑s (bindL (envOfC d a ⇑s f B).kindOf (ps.zip us) λ_=>none) (cellsFrom (⇑s+1) a.names []) (bindC (envOfC d a ⇑s f B).kindOf (ps.zip us) λ_=>none) J):
 Inv (eB CX P w K mg base N d a f B A outer s H E) [] (start N vs) H J:=by
 have L:ps.length<=N.length:=by have:=congrArg List.length S.pre;rw[Yn]at this;lia
 have%[t,tk,rfl|C]:=x.done;have l:∀b,b∉(eB CX P w K mg base N d a f B A outer s H E).ex:=λb z=>absurd (show b∈([])from z) ∅
 refine%[%[g.mod,S.kind,rfl,rfl,Zi _,λy z c t j=>?_,λy m=>?_,λy c _ h=>?_,λ_=>I,Around.frames_deeper g.frames,.inr %[rfl|rfl],λb z=>absurd z (l b),g.bs,g.bsz,λb _ _=>l b,λb z=>absurd z (l b),g.funs|g.frf],
  rfl,g.bare,Un.kept C,%[_,x.toInCall.ns|λi y v t j T=>?_],λy c h=>%[_|x.cell y c h],g.hok.fresh (Zi _),λy c h=>?_,λp n=>absurd (show p∈([])from n) ∅,g.hok.kept C|?_]
 .exact name_of_addr x.apart (PySem.mem_of_lookup t) (PySem.mem_of_lookup j)
 .rcases m with m|m
  .exact sI m
  .exact absurd rfl (S.nofree _ (PySem.mem_of_lookup m))
 .exact Yg (x.above y c (PySem.mem_of_lookup h))
 .have hi:i<vs.length:=by
   unfold start at j;by_cases hi:i<vs.length
   .exact hi
   .rw[Ya (by simpa using hi)]at j;rw[List.getElem?_replicate]at j
    split at j<;> cases j
  have M:vs[i]? =some v:=by
   unfold start at j;rw[Y9 (by simpa using hi),Zl]at j
   simp_all
  have%[u,G|O]:=r.get M;have n:ps[i]? =some y:=by
   rw[<-S.pre,getElem?_take_of_lt ⋯];exact t
  have o:ps.Nodup:=S.pre▸S.nd.sublist (take_sublist _ _);refine%[u,O|?_];rcases S.par y (Z8 n)with k|k
  .exact .inl %[k|oZ o n G k]
  .have%[c|e]:=sI k;refine .inr %[.inl k,c,e|?_];have q:=x.cell y c e;rw[pc o n G (by show a.names.lookup y≠_;rw[k];decide)]at q;exact q
 .exact g.hok.fresh (Yg (x.above y c (PySem.mem_of_lookup h)))
 .unfold start;show _=N.length;rw[Z9,Z6,List.length_replicate]
  lia
theorem Dm{P:Program}{K:ZA}{U kV z Y d ct oc:Value}
 (lk:K.lookup f=some %[oc,od,.func (fnOf name c g i a U kV z Y an d ct)|aa]) (L:codeIn K d c=true) (S:ax N ps a)
 (len:∀vs H Q E,sp vs H Q E->vs.length=ps.length)
 (l:∀(A:Around) (outer:List Env) (s:Shared) (H:Hp) (vs:List V) (Q:VK) (E:XK),bB k (A.deeper (envOfC c a ⇑s f d))->sp vs H Q E->
  ∃t,PSs (eB CX P w K mg base N c a f d A outer s H E) i t/\t {nx:=λ_ j=>Q .non j,rt:=Q} (start N vs) H):
 fC P w K mg base CX (k+1) f (fnOf name c g i a U kV z Y an d ct) ps sp:=by
 refine%[len|λA outer s H args us vs Q E M B hb r C=>?_];have KX:=B.mod.kin.keeps λb o e=>(B.bs b o e).1
 have O:=B.mod.nolimit.keeps λb o e=>(B.bs b o e).1
 have m:∀y∈ps.zip us,a.names.lookup y.1=some _\/(a.names.lookup y.1=some _/\((cellsFrom (⇑s+1) a.names []).lookup y.1).isSome=true):=λ⟨n,v⟩ hy=>by
  rcases S.par n (of_mem_zip hy).1 with q|q
  .exact .inl q
  .exact .inr %[q|cellsFrom_some _ _ _ (.inl q)]
 refine codeAny_call_function M.depth (KX _ _ lk) rfl S.co S.gen rfl (PySem.W.codeRec_of KX L) (hb _ _ _ _ (wpAny_newFunctionEnv_cells S.kind m λenv he s1 x=>?_));subst he;refine%[O.keeps x.toInCall.keep|codeAny_func ?_];have%[t,ht|hq]:=l A outer s H vs Q E (M.deeper _) C;have I:Inv (eB CX P w K mg base N c a f d A outer s H E) [] _ H s1:=xH S M.hd B (len _ _ _ _ C) r x;refine wpAny_mono (ht [] s1 _ H _ I hq) (λfl s' p=>?_) λe s' p=>p
 have G:∀{h:St} {j:Hp} {v:V} {u:Value},Inv (eB CX P w K mg base N c a f d A outer s H E) [] h j s'->aR v u->Q v j->CE outer P w H s Q u s':=
  λ{h j v u} J T q=>%[v,j,J.os,J.bare,J.base,J.hok,T|q]
 cases fl with
 | ret u=>
   have%[v,h,j,J,T|q]:=p;exact G J T q
 | next=>
   have%[h,j,J|q]:=p;exact G (v:=V.non) J rfl q
 | brk=>
   have%[_,_,_|q]:=p
   simp_all
 | cont=>
   have%[_,_,_|q]:=p;exact False.elim q
section
variable{X:Cx}{x:Str}{p pos:Pos}{e:Expr}{es:List Expr}{t:TA}{id T:String}{r:List V->Hp->VK->Prop}
def tCB(r:List V->Hp->VK->Prop)(t:TA):TE:=λa H Q=>t a H λvs b=>r vs b Q
theorem zI(d:bX X (.builtin id) r)(f:Gl X x)(g:X.mg x=none)(i:bootBuiltins x=some (.builtin id))(j:PA X (e::es) t)(l:x≠"__name__")(a:(x==("__debug__":Str))=false)
 (m:starEach (e::es) X.env=(false,eval e X.env)::starEach es X.env) (b:(backTo pos (starEach es X.env)).any (·.1)=false):PE X (.Call (.Name x p) (e::es) [] pos) (tCB r t):=by
 intro pins s c H Q I h;exact wpAny_Call_Name_kw (i8 I f g i (PyProof.Rows.callWith_builtin1 (thP (j pos pins s c H _ I h) λus n vs o q u v=>d pins n c o vs us Q q u v) m b) l a)
theorem xI(d:bX X (.type T) r)(f:Gl X x)(g:X.mg x=none)(i:bootBuiltins x=some (.type T))(j:PA X (e::es) t)(l:x≠"__name__")(a:(x==("__debug__":Str))=false)
 (m:starEach (e::es) X.env=(false,eval e X.env)::starEach es X.env) (b:(backTo pos (starEach es X.env)).any (·.1)=false):PE X (.Call (.Name x p) (e::es) [] pos) (tCB r t):=by
 intro pins s c H Q I h;exact wpAny_Call_Name_kw (i8 I f g i (PyProof.Rows.callWith_type1 (thP (j pos pins s c H _ I h) λus n vs o q u v=>d pins n c o vs us Q q u v) m b) l a)
end
end L2
namespace HT
open PySem PyProof.Rows
section
open PySem.SeqAt
open PySem.AutoSeq1 (wpAny_loadPart')
open PySem.MeetsSeq PySem.MeetsSeq2 PySem.MeetsSeq3
end
section
#where
noncomputable def sIx(n d:Nat):Option Int->Nat
 | none=>d
 | some v=>if v<0 then(v+n).toNat else min v.toNat n
theorem sIx_none(n d:Nat):sIx n d none=d:=rfl
theorem sIx_nat(n d k:Nat):sIx n d (some k)=min k n:=by
 show(if k<0 then((k:Int) +n).toNat else min _ n)=min k n;rw[if_neg ⋯,Int.toNat_natCast]
theorem wC(v:Int)(n d:Nat):(if v<0 then max (v+n) 0 else min v n)=((sIx n d (some v))):=by
 show(if v<0 then max _ 0 else min v n)=(((if v<0 then(v+n).toNat else min v.toNat n):Nat))
 grind
theorem u8(lo hi:Option Int)(n:Nat):Builtin.Slice.sliceAdjust lo hi 1 n=(((sIx n 0 lo):Int),((sIx n n hi):Int)):=by
 refine Prod.ext ?_ ?_
 .cases lo with
  | none=>rfl
  | some v=>exact wC v n 0
 .cases hi with
  | none=>rfl
  | some v=>exact wC v n n
theorem u9(i j:Nat):Builtin.Slice.slicePlaces i j 1=j-i:=by
 unfold Builtin.Slice.slicePlaces;have a:(1:Int)>0:=by lia
 simp only[a,if_true,Int.ediv_one]
 split<;> lia
theorem mf(p:IsPart v o)(h:Q o s):↥A (Builtin.Slice.slicePartIndex v) Q E s:=by
 cases p with
 | none=>exact slicePart_none h
 | int i t=>exact slicePart_int h
theorem kh{lo hi:Option Int}{n:Nat}(c:s.heap.IsSliceOf d e f .none)(pl:IsPart e lo)(g:IsPart f hi)
 (h:Q (((sIx n 0 lo:Nat):Int),1,sIx n n hi-sIx n 0 lo) s):↥A (Builtin.Slice.sliceApplied (.ref d) (pure (n:Int))) Q E s:=by
 have%[os,a,i|b]:=id c;refine Z2 (Z2 (wpAny_field a b rfl (Z2 (wpAny_field a b rfl (Z2 (wpAny_field a b rfl (Z3 (Z2 (slicePart_none (Z2 (mf pl (Z2 (mf g (Z2 (Z3 ?_)))))))))))))));show wpAny _ _ (match Builtin.Slice.sliceAdjust lo hi 1 n with|(lo,hi)=>pure (lo,(1:Int),Builtin.Slice.slicePlaces lo hi 1)) _ _ s;rw[u8 lo hi n];show wpAny _ _ (pure _) _ _ s;rw[u9];exact Z3 h
theorem zJ(xs:ZJ)(i k:Nat):((List.range k).filterMap λ(m:Nat)=>xs[((i:Int) +m*1).toNat]?).toArray=((xs.toList.drop i).take k).toArray:=by
 have e:(λ(m:Nat)=>xs[((i:Int) +m*1).toNat]?)=λm=>xs[i+m]? :=by
  funext m;have:((i:Int) +m*1).toNat=i+m:=by lia
  rw[this]
 rw[e];have:=pick_run xs i k;rw[List.filterMap_map]at this;have a:((λx=>xs[x]?) ∘ λx=>i+x)=λm=>xs[i+m]? :=rfl
 rw[a]at this;rw[this]
theorem getItem_tuple_cut{lo hi:Option Int}(c:IsTup s.heap t a)(g:s.heap.IsSliceOf i j l .none)(pl:IsPart j lo)(m:IsPart l hi)
 (hw: ¬ (sIx a.size 0 lo=0/\sIx a.size a.size hi=a.size))
 (h:Q (.ref ⇑s) {s with heap:=s.heap.push {cls:= .type "tuple",data:= .seq ((a.toList.drop (sIx a.size 0 lo)).take (sIx a.size a.size hi-sIx a.size 0 lo)).toArray}})
 (n:a.size<=sizeLine):↥A (getItem (.ref t) (.ref i)) Q E s:=by
 have b:sizeOk (.seq ((a.toList.drop (sIx a.size 0 lo)).take (sIx a.size a.size hi-sIx a.size 0 lo)).toArray):=by
  show((a.toList.drop _).take _).toArray.size<=sizeLine;rw[Zp,Yn,Yj,Zb]
  lia
 have%[os,d,e|o]:=id g;unfold getItem
 try with_reducible refine wpAny_holding ?_
 refine Z2 (wpAny_sequenceKey c.typeIs (by decide) ?_);refine Z2 (wpAny_callSpecial?_slot c.typeIs PyProof.Rows.slot_tuple_getitem
  (wpAny_call_entry PyProof.Rows.slot_tuple_getitem c.typeIs entry_tuple_getitem ?_ (args_tuple_getitem _ _)))
 show wpAny _ _ (Builtin.Tuple.tupleItemsOf _>>= _) _ _ s;refine Z2 (tupleItemsOf_ c (Z2 (wpAny_typeOf %[os,d|e] (Z2 (kh g pl m ?_)))));have f: ¬ ((((sIx a.size 0 lo):Int)==0&&(1:Int)==1&&(sIx a.size a.size hi-sIx a.size 0 lo)==a.size)=true):=by
  lia
 show wpAny _ _ (if(((sIx a.size 0 lo):Int)==0&&(1)==1&&(sIx a.size a.size hi-sIx a.size 0 lo)==a.size)=true then _ else _) _ _ s;rw[if_neg f,zJ]
 first
  | exact Z2 (wpAny_newObj_type (Z3 ⟨_,rfl,Z3 h⟩) b)
  | lia
  | lia
  | lia
end
end HT
namespace L2
open PySem PySem.Spec PyProof.Rows
noncomputable abbrev TO:=St->Hp->(Option Int->Hp->Prop)->Prop
def PO(X:Cx)(e:Option Expr)(t:TO):Prop:=
 ∀pins s (a:St) H Q,Inv X pins a H s->t a H Q->
  (~~~X) (evalPart e X.env) (λu s'=>∃o b,Inv X pins a b s'/\IsPart u o/\Q o b) X.xe s
def qB:TO:=λ_ H Q=>Q none H
def zK(t:TE):TO:=λa H Q=>t a H λx b=>asI x λi=>Q (some i) b
section
variable{X:Cx}{e:Expr}{te:TE}{lo hi:Option Expr}{tl th:TO}{pos p2:Pos}
theorem B8:PO X none qB:=by
 intro pins s a H Q I h;exact Z3 %[none,H,I,.none|h]
theorem B9(h:PE X e te):PO X (some e) (zK te):=by
 intro pins s a H Q I hw;refine thP (h pins s a H _ I hw) λu g x b c d f=>?_
 have%[i,rfl|q]:=hJ f;have%[t|rfl]:=d;exact%[some i,b,c,.int i t|q]
def SlR(X:Cx)(r:V->Option Int->Option Int->Hp->VK->Prop):Prop:=
 ∀pins s (a:St) H x v b c lo hi d Q,Inv X pins a H s->aR x v->s.heap.IsSliceOf d b c .none->IsPart b lo->IsPart c hi->r x lo hi H Q->
  ∃T id,typeLookup (.type T) "__getitem__"=pure (some (.builtin id))/\s.TypeIs v T/\(~~~X) (getItem v (.ref d)) (EP X pins a Q) X.xe s
theorem SlR.or(h:SlR X r)(h':SlR X j):SlR X (λx lo hi H Q=>r x lo hi H Q\/j x lo hi H Q):=by
 intro pins s a H x v b c lo hi d Q I f g pl i q;rcases q with q|q
 .exact h pins s a H x v b c lo hi d Q I f g pl i q
 .exact h' pins s a H x v b c lo hi d Q I f g pl i q
def tSl(r:V->Option Int->Option Int->Hp->VK->Prop)(te:TE)(tl th:TO):TE:=λa H Q=>te a H λx b=>tl a b λl c=>th a c λu d=>r x l u d Q
theorem sJ(c:SlR X r)(d:PE X e te)(f:PO X lo tl)(g:PO X hi th):PE X (.Subscript e (.Slice lo hi none p2) pos) (tSl r te tl th):=by
 intro pins s a H Q I h;refine Subscript_ (thP (d pins s a H _ I h) λv i x j m n o=>wpAny_Slice (thP (f pins i a j _ m o) λp t l w y pl z=>thP (g pins t a w _ y z) λA B u C E G J=>Z3 ?_));have%[T,id,L,M|N]:=c pins _ a C x v p A l u ⇑B Q (E.kept λb O q=>Z7 _ q) n (Heap.IsSliceOf.new ..) pl G J;exact tail_any M L N (by with_unfolding_all rfl)
noncomputable def ou(xs:List V)(lo hi:Option Int):List V:=(xs.drop (HT.sIx xs.length 0 lo)).take (HT.sIx xs.length xs.length hi-HT.sIx xs.length 0 lo)
theorem kT(xs:List V)(lo hi:Option Int):(ou xs lo hi).length<=xs.length:=by
 unfold ou;rw[Yn,Yj]
 lia
def Eu(K:ZA):V->Option Int->Option Int->Hp->VK->Prop:=λx lo hi H Q=>∃a xs,x= .ref a/\SqT K H a xs/\
 ¬ (HT.sIx xs.length 0 lo=0/\HT.sIx xs.length xs.length hi=xs.length)/\∀p,H p=none->Q (.ref p) (upd H p (.tup (ou xs lo hi)))
theorem Ev:SlR X (Eu X.K):=by
 intro pins s m H x v n o lo hi p Q I g i pl j h;have%[a,xs,rfl,l,hw|q]:=h;cases g;have%[its,r,d|f]:=I.tuple l;have c:its.toArray.size=xs.length:=r.length.symm;refine%["tuple",_,PyProof.Rows.slot_tuple_getitem.lookup,d.typeIs|HT.getItem_tuple_cut d i pl j (c▸hw) ?_ (c▸f)];rw[c];refine%[.ref ⇑s,_,I.laid (λb t q=>Z7 _ q) (Zi _) ?_,rfl|q _ (I.hok.fresh (Zi _))];exact%[Yi (kT xs lo hi) f,_,(r.drop _).take _|IsTup.new _ _]
end
noncomputable def ixN(n:Nat)(i:Int):Option Nat:=if 0<=i then(if i<n then some i.toNat else none)else if -n<=i then some (i+n).toNat else none
noncomputable def atI{a:Type}(xs:List a)(i:Int):Option a:=(ixN xs.length i).bind λj=>xs[j]?
theorem Ca(h:ixN n i=some j):seqIndex? i n=some j/\j<n/\ -(n:Int)<=i/\i<n:=by
 unfold ixN at h;by_cases b:0<=i
 .rw[if_pos b]at h;by_cases a:i<n
  .rw[if_pos a]at h;exact%[by rw[seqIndex_of b a,(Za h)],⋯,⋯|a]
  simp_all
 .rw[if_neg b]at h;by_cases a: -n<=i
  .rw[if_pos a]at h;exact%[by rw[seqIndex_neg ⋯ a,(Za h)],⋯,a|⋯]
  .rw[if_neg a]at h;cases h
theorem qC{a:Type}{xs:List a}{i:Int}{v:a}(h:atI xs i=some v):∃j,seqIndex? i xs.length=some j/\xs[j]? =some v/\j<xs.length/\ -xs.length<=i/\i<xs.length:=by
 unfold atI at h;cases e:ixN xs.length i with
 | none=>simp_all
 | some j=>
   rw[e]at h;have%[b,c,d|f]:=Ca e;exact%[j,b,h,c,d|f]
theorem cq{a:Type}{xs:List a}{j:Nat}{v:a}(h:xs[j]? =some v):atI xs j=some v:=by
 have b:=(Xn h).1;have e:ixN xs.length j=some j:=by
  unfold ixN
  simp_all
 unfold atI;exact e▸h
theorem mj(xs:List a)(v:a):atI (xs++[v]) (-1)=some v:=by
 have b:(xs++[v]).length=xs.length+1:=by simp
 have e:ixN (xs++[v]).length (-1)=some xs.length:=by
  unfold ixN;rw[b,if_neg (by decide),if_pos ⋯]
  congr 1
  lia
 unfold atI
 simp_all
def lR(b:Expr):Prop:=∀o i,subscripted b false o i=operate [o,i] (getItem o i)
def IxR(X:Cx)(r:R2):Prop:=
 ∀b a pins s (c:St) H x y v u Q,Inv X pins c H s->aR x v->aR y u->r x y H Q->
  subscripted a false v u=operate [v,u] (getItem v u)->(~~~X) (subscriptTail b a v u) (EP X pins c Q) X.xe s
def MtR(X:Cx)(id:String)(r:V->List V->Hp->VK->Prop):Prop:=
 ∀pins s (a:St) H x xs v us Q,Inv X pins a H s->aR x v->aC xs us->r x xs H Q->
  (~~~X) (call (.builtin id) (v::us)) (EP X pins a Q) X.xe s
section
variable{X:Cx}{a b:Expr}{ta tb:TE}{pos:Pos}
theorem zL(c:IxR X r)(d:PE X a ta)(e:PE X b tb)(f:lR b):PE X (.Subscript a b pos) (tOp r ta tb):=by
 intro pins s g H Q I h;exact Subscript_ (Ec d e I h λv u i x y j l m n q=>c a b pins i g j x y v u Q l m n q (f _ _))
def Ew(K:ZA):R2:=λx y H Q=>asR x λp=>asI y λi=>∃xs,SqL K H p xs/\∃v,atI xs i=some v/\Q v H
def Ex(K:ZA):R2:=λx y H Q=>asR x λp=>asI y λi=>∃xs,SqT K H p xs/\∃v,atI xs i=some v/\Q v H
def Ey:R2:=λx y H Q=>∃z i c,x= .str z/\y= .int i/\z.length<=sizeLine/\atI z.cps.toList i=some c/\Q (.str ⟨#[c]⟩) H
theorem Cb:IxR X (Ew X.K):=by
 intro e f pins s B H x y v u Q I C E h n;have%[p,rfl|g]:=gP h;have%[i,rfl,xs,G,z,J|q]:=hJ g;cases C;have%[t|rfl]:=E;have%[its,r,pl|O]:=I.list G;have%[j,d,g,T,L|M]:=qC J;have%[w,o|l]:=r.get g;have N:=r.length;have U:=qz;have c:EP X pins B Q w s:=%[z,H,I,l|q]
 by_cases A:0<=i
 .have m:=by
   rw[seqIndex_of A M]at d;exact Za d
  exact item_listR pl.isList A ⋯ (by rw[m];simpa using o) c n
 .have m:(i+its.toArray.size).toNat=j:=by
   rw[seqIndex_neg ⋯ L]at d;rw[Zp,<-N];exact Za d
  exact subscriptTail_builtinR pl.isList.typeIs slot_list_getitem.lookup
   (wpAny_getItem_list_neg pl.isList ⋯ (by simp_all) ⋯ (by rw[m];simpa using o) %[rfl|c]) n
theorem Ez:IxR X (Ex X.K):=by
 intro c d pins s l H x y v u Q I m n h o;have%[p,rfl|e]:=gP h;have%[i,rfl,xs,A,z,B|q]:=hJ e;cases m;have%[t|rfl]:=n;have%[its,r,pl|G]:=I.tuple A;have%[j,C,e,J,L|M]:=qC B;have%[w,E|f]:=r.get e;have N:=qz;have g:EP X pins l Q w s:=%[z,H,I,f|q]
 exact subscriptTail_builtinR pl.typeIs slot_tuple_getitem.lookup
  (getItem_tuple pl ⋯ ⋯ (by rw[Zp,<-r.length];exact C) (by simpa using E) %[rfl|g]) o
theorem EA:IxR X Ey:=by
 intro d e pins s A H x y v u Q I g l h m;have%[z,i,c,rfl,rfl,B,n|q]:=h;have%[t|rfl]:=g;have%[t'|rfl]:=l;have%[j,f,o,C,p|r]:=qC n;have w:z.cps.toList.length=z.length:=by simp[Str.length]
 rw[w]at f p r;have E:=qz;exact tail_any (typeIs_str s z t) slot_str_getitem.lookup (getItem_str (by
  lia) (by rw[f];simpa using o) %[.str _,H,I.tok _,%[_|rfl]|q]) m
theorem qD(lo hi:Option Int)(n:Nat):(sliceBounds lo hi none n).1=((HT.sIx n 0 lo:Nat):Int)/\(sliceBounds lo hi none n).2.1=((HT.sIx n n hi:Nat):Int)/\(sliceBounds lo hi none n).2.2=1:=by
 refine%[?_,?_|rfl]
 .cases lo with
  | none=>simp[sliceBounds,HT.sIx]
  | some i=>
    simp only[sliceBounds,HT.sIx,getD_none,show(1:Int)>0 by decide,if_true];by_cases h:i<0
    .simp only[h,if_true]<;> lia
    .simp only[h,if_false]<;> lia
 .cases hi with
  | none=>simp[sliceBounds,HT.sIx]
  | some i=>
    simp only[sliceBounds,HT.sIx,getD_none,show(1:Int)>0 by decide,if_true];by_cases h:i<0
    .simp only[h,if_true]<;> lia
    .simp only[h,if_false]<;> lia
theorem oz(its:ZF)(lo hi:Option Int):slicePick its.toArray lo hi none=((its.drop (HT.sIx its.length 0 lo)).take (HT.sIx its.length its.length hi-HT.sIx its.length 0 lo)).toArray:=by
 have%[c,d|e]:=qD lo hi its.toArray.size;unfold slicePick;rw[c,d,e];simp only[sliceRange_one,pick_run]<;> rfl
def EB(K:ZA):V->Option Int->Option Int->Hp->VK->Prop:=λx lo hi H Q=>∃a xs,x= .ref a/\SqL K H a xs/\∀p,H p=none->Q (.ref p) (upd H p (.lst (ou xs lo hi)))
theorem Cc:SlR X (EB X.K):=by
 intro pins s l H x v m n lo hi o Q I e f pl g h;have%[a,xs,rfl,i|q]:=h;cases e;have%[its,r,d|j]:=I.list i;have c:=r.length;refine%["list",_,slot_list_getitem.lookup,d.isList.typeIs|wpAny_getItem_list_slice d.isList f pl g .none ∅ ?_ (by simp_all)];rw[oz,<-c];refine%[.ref ⇑s,_,I.laid (λb p q=>Z7 _ q) (Zi _) ?_,rfl|q _ (I.hok.fresh (Zi _))];exact%[Yi (kT xs lo hi) j,_,0,(r.drop _).take _|Zj _ rfl]
noncomputable def gQ:V->Bool
 | .non=>true
 | .bl _=>true
 | .int _=>true
 | .str _=>true
 | _=>false
noncomputable def eqV:V->V->Bool
 | .non,.non=>true
 | .bl a,.bl b=>a==b
 | .bl a,.int b=>(if a then 1 else 0)==b
 | .int a,.bl b=>a==(if b then 1 else 0)
 | .int a,.int b=>a==b
 | .str a,.str b=>a==b
 | _,_=>false
theorem zM(d:aR y u)(c:aR x v)(f:gQ y=true)(e:gQ x=true):SeqAt.EqAt A s u v (eqV y x):=by
 cases y with
 | non=>
   cases d;cases x with
   | non=>cases c;exact SeqAt.EqAt.same _
   | bl b=>cases c;exact SeqAt.EqAt.none_bool b
   | int b=>have%[t|rfl]:=c;exact SeqAt.EqAt.none_int b t
   | str b=>have%[t|rfl]:=c;exact SeqAt.EqAt.none_str b t
   | _=>exact absurd (show false=true from e) Zu
 | bl a=>
   cases d;cases x with
   | non=>cases c;exact SeqAt.EqAt.bool_none a
   | bl b=>cases c;exact SeqAt.EqAt.bool_bool a b
   | int b=>have%[t|rfl]:=c;exact SeqAt.EqAt.bool_int a b t
   | str b=>have%[t|rfl]:=c;exact SeqAt.EqAt.bool_str a b t
   | _=>exact absurd (show false=true from e) Zu
 | int a=>
   have%[t'|rfl]:=d;cases x with
   | non=>cases c;exact SeqAt.EqAt.int_none a t'
   | bl b=>cases c;exact SeqAt.EqAt.int_bool a t' b
   | int b=>have%[t|rfl]:=c;exact SeqAt.EqAt.int_int a t' b t
   | str b=>have%[t|rfl]:=c;exact SeqAt.EqAt.int_str a t' b t
   | _=>exact absurd (show false=true from e) Zu
 | str a=>
   have%[t'|rfl]:=d;cases x with
   | non=>cases c;exact SeqAt.EqAt.str_none a t'
   | bl b=>cases c;exact SeqAt.EqAt.str_bool a t' b
   | int b=>have%[t|rfl]:=c;exact SeqAt.EqAt.str_int a t' b t
   | str b=>have%[t|rfl]:=c;exact SeqAt.EqAt.str_str a t' b t
   | _=>exact absurd (show false=true from e) Zu
 | _=>exact absurd (show false=true from f) Zu
noncomputable def eqU(x:V)(u:Value):Bool:=match u with
 | .none=>eqV .non x
 | .bool b=>eqV (.bl b) x
 | .int i _=>eqV (.int i) x
 | .str z _=>eqV (.str z) x
 | _=>false
theorem zN(r:aR y u)(f:gQ y=true):eqU x u=eqV y x:=by
 cases y with
 | non=>cases r;rfl
 | bl b=>cases r;rfl
 | int i=>have%[t|rfl]:=r;rfl
 | str z=>have%[t|rfl]:=r;rfl
 | _=>exact absurd (show false=true from f) Zu
theorem jx:∀{xs:List V} {us:ZF},aC xs us->xs.all gQ=true->us.any (eqU x)=xs.any λy=>eqV y x
 | _,_,.nil,_=>rfl
 | y::xs,u::us,.cons r t,f=>by
   rw[List.all_cons,Zx]at f;rw[Zy,Zy,zN r f.1,jx t f.2]
theorem hV(d:aR x v)(e:gQ x=true):∀{xs:List V} {us:ZF},aC xs us->xs.all gQ=true->∀u∈us,SeqAt.EqAt A s u v (eqU x u)
 | _,_,.nil,_=>λu c=>by cases c
 | y::xs,u::us,.cons r t,f=>λg c=>by
   rw[List.all_cons,Zx]at f;rcases mem_cons.mp c with rfl|c
   .rw[zN r f.1];exact zM r d f.1 e
   .exact hV d e t f.2 g c
noncomputable def inV(x:V)(xs:List V):Bool:=xs.any λy=>eqV y x
def rIn(K:ZA)(c:Bool):R2:=λx y H Q=>∃p xs,y= .ref p/\(SqL K H p xs\/SqT K H p xs)/\gQ x=true/\xs.all gQ=true/\Q (.bl (if c then !inV x xs else inV x xs)) H
theorem xJ:OpR X (compareOp .In) (rIn X.K false):=by
 intro pins s i H x y v u Q I d f h;have%[p,xs,rfl,c,e,fs|q]:=h;cases f;rcases c with c|c
 .have%[its,r,pl|g]:=I.list c;refine SeqAt.in_listAt _ pl.isList (λw hw=>hV d e r fs w (by simpa using hw)) %[.bl _,H,I,rfl|?_];rw[show its.toArray.any _=its.any (eqU x) by simp,jx r fs];exact q
 .have%[its,r,pl|g]:=I.tuple c;refine SeqAt.in_tupleAt _ pl (λw hw=>hV d e r fs w (by simpa using hw)) %[.bl _,H,I,rfl|?_];rw[show its.toArray.any _=its.any (eqU x) by simp,jx r fs];exact q
theorem qG:OpR X (compareOp .NotIn) (rIn X.K true):=by
 intro pins s i H x y v u Q I d f h;have%[p,xs,rfl,c,e,fs|q]:=h;cases f;rcases c with c|c
 .have%[its,r,pl|g]:=I.list c;refine SeqAt.notIn_listAt _ pl.isList (λw hw=>hV d e r fs w (by simpa using hw)) %[.bl _,H,I,rfl|?_];rw[show its.toArray.any _=its.any (eqU x) by simp,jx r fs];exact q
 .have%[its,r,pl|g]:=I.tuple c;refine SeqAt.notIn_tupleAt _ pl (λw hw=>hV d e r fs w (by simpa using hw)) %[.bl _,H,I,rfl|?_];rw[show its.toArray.any _=its.any (eqU x) by simp,jx r fs];exact q
theorem qH:OpR X (compareOp .NotIn) (λx y H Q=>∃i j,x= .str i/\y= .str j/\Q (.bl (!(!(Builtin.Str.occurrences j i 0 j.length 1).isEmpty))) H):=by
 intro pins s e H x y v u Q I c d h;have%[i,j,rfl,rfl|q]:=h;have%[t|rfl]:=c;have%[t'|rfl]:=d;exact notIn_str %[.bl _,H,I,rfl|q]
theorem qI:bX X (.type "list") (λxs H Q=>∃p ys,xs=[.ref p]/\(SqL X.K H p ys\/SqT X.K H p ys)/\∀l,H l=none->Q (.ref l) (upd H l (.lst ys))):=by
 intro pins s z H xs us Q I r h;have%[p,ys,rfl,f|q]:=h;have%[u,rfl|A]:=cV r;cases A;have g:∀its,aC ys its->ys.length<=sizeLine->∀h' d,(∀b y,s.heap.get? b=some y->h'.get? b=some y)->
  h'.get? ⇑s=some _->EP X pins z Q _ (s>>>h'):=λits c i h' d j e=>
  %[.ref ⇑s,_,I.laid j (Zi _) (show ck X.prog X.w _ h' _ (.lst ys)from%[i,its,d,c|e]),rfl|q _ (I.hok.fresh (Zi _))]
 rcases f with f|f
 .have%[its,c,pl|i]:=I.list f;have m:=c.length;have%[o,t,v,n|w]:=pl.isList;exact call_list_seq p (.inl rfl) t v w (λh' d j e=>g its c i h' d j e) (by simp only[Zp]<;> lia)
 .have%[its,c,pl|i]:=I.tuple f;have m:=c.length;have%[o,t,v,n|w]:=pl;exact call_list_seq p (.inr rfl) t v w (λh' d j e=>g its c i h' d j e) (by simp only[Zp]<;> lia)
def tyV(K:ZA)(T:String)(x:V)(H:Hp):Prop:=match x with
 | .str _=>T="str"
 | .int _=>T="int"
 | .ref p=>(T="list"/\∃xs,SqL K H p xs)\/(T="tuple"/\∃o,K.lookup p=some o/\o.cls= .type "tuple"/\o.dict=none)\/
  (T="dict"/\((∃c,H p=some (.dK c))\/∃c,H p=some (.dT c)))\/(T="set"/\∃S n,H p=some (.set S n))
 | _=>False
theorem zO(I:Inv X pins q H s)(r:aR x v)(ty:tyV X.K T x H):
 s.TypeIs v T/\∀a,v= .ref a->∃j,s.heap.get? a=some j/\j.dict=none:=by
 cases x with
 | str z=>
   have%[t|rfl]:=r;cases(show T="str" from ty);exact%[typeIs_str s z t|λ_ e=>nomatch e]
 | int i=>
   have%[t|rfl]:=r;cases(show T="int" from ty);exact%[typeIs_int s i t|λ_ e=>nomatch e]
 | ref p=>
   cases r;rcases ty with⟨rfl,xs,l⟩|⟨rfl,o,d,m,f⟩|⟨rfl,d⟩|⟨rfl,S,n,d⟩
   .have%[its,_,pl|_]:=I.list l;refine%[pl.isList.typeIs|λa e=>?_];cases e;have%[o,n,e,c,f|_]:=pl;exact%[o,e|f]
   .refine%[%[o,I.kIn p o d|m]|λa e=>?_];cases e;exact%[o,I.kIn _ o d|f]
   .have z:∃o,s.heap.get? p=some o/\o.ExactDict:=by
     rcases d with⟨g,d⟩|⟨g,d⟩
     .have%[_,_,_,_,o,_,_,e,ex|_]:=I.hok p _ d;exact%[o,e|ex]
     .have%[_,_,_,_,o,_,_,e,ex|_]:=I.hok p _ d;exact%[o,e|ex]
    have%[o,e|ex]:=z;refine%[%[o,e|ex.1]|λa h=>?_];cases h;exact%[o,e|ex.2.1]
   .have%[o,_,_,_,e,ex|_]:=I.hok p _ d;refine%[%[o,e|ex.1]|λa h=>?_];cases h;exact%[o,e|ex.2.1]
 | _=>exact False.elim ty
def Cd(K:ZA)(T:String)(r:V->List V->Hp->VK->Prop)(d:TE):TE:=λe H Q=>d e H λx c=>tyV K T x c/\r x [] c Q
def tBM(K:ZA)(T:String)(r:V->List V->Hp->VK->Prop)(e:TE)(t:TA):TE:=λc H Q=>e c H λx d=>tyV K T x d/\t c d λxs f=>r x xs f Q
variable{o e:Expr}{es:List Expr}{to:TE}{t:TA}{name:Str}{apos cpos:Pos}{T id:String}{r:V->List V->Hp->VK->Prop}
theorem EC(l:PlainAttrs T)(slot:Slot T name id)(f:typeOf (.builtin id)=pure (.type "method_descriptor"))(m:MtR X id r)(n:PE X o to)
 (c:attributeBase o name X.env (eval o X.env)=eval o X.env) (d:(apos.endLine==cpos.line)=true):PE X (.Call (.Attribute o name apos) [] [] cpos) (Cd X.K T r to):=by
 intro pins s g H Q I h;refine wpAny_Call_method0_late c d (thP (n pins s g H _ I h) λv p x q i j ⟨ty,u⟩=>?_);have%[w|y]:=zO i j ty;exact%[T,id,l,slot,f,w,y|Calls.callWith_builtin rfl (PySem.evalArgs_none (m pins p g q x [] v [] Q i j .nil u))]
theorem Gf(p:PlainAttrs T)(slot:Slot T name id)(i:typeOf (.builtin id)=pure (.type "method_descriptor"))(q:MtR X id r)(u:PE X o to)(w:PA X (e::es) t)
 (d:attributeBase o name X.env (eval o X.env)=eval o X.env)
 (g:((backTo cpos (starEach (e::es) X.env)).all (λx=>!x.1)&&(backToKw cpos (keywordEach [] X.env)).all (λx=>x.1.isSome)
  && decide ((e::es).length+([]:List Keyword).length+(if([]:List Keyword).isEmpty then 0 else 1)<30))=true)
 (f:(apos.endLine==cpos.line)=true) (y:starEach (e::es) X.env=(false,eval e X.env)::starEach es X.env) (c:(backTo cpos (starEach es X.env)).any (·.1)=false):
 PE X (.Call (.Attribute o name apos) (e::es) [] cpos) (tBM X.K T r to t):=by
 intro pins s j H Q I h;refine wpAny_Call_method_late d g f rfl (thP (u pins s j H _ I h) λv z x A l m ⟨ty,B⟩=>?_);have%[C|E]:=zO l m ty;refine%[T,id,p,slot,i,C,E|?_];have n:=w cpos pins z j A _ l B;rw[y]at n ⊢;exact Calls.callWith_builtin (by show(false||(backTo cpos _).any _)=false;rw[c]<;> rfl) (Calls.evalArgs_plain (thn n λus G ⟨vs,J,L,M,N⟩=>q pins G j J x vs v us Q L m M N))
end
def MtM(X:Cx)(id:String)(r:V->List V->Hp->VK->Prop):Prop:=
 ∀pins s (a:St) H x xs v us Q,Inv X pins a H s->aR x v->aC xs us->r x xs H Q->
  (~~~X) (call (.builtin id) (v::us)) (EP X pins a Q) X.xe s
theorem aC.one:∀{x:V} {us:ZF},aC [x] us->∃u,us=[u]/\aR x u
 | _,_,.cons r .nil=>%[_,rfl|r]
theorem aC.zero:∀{us:ZF},aC [] us->us=[]
 | _,.nil=>rfl
theorem aC.eraseIdx:∀{xs:List V} {us:ZF} i,aC xs us->aC (xs.eraseIdx i) (us.eraseIdx i)
 | _,_,_,.nil=> .nil
 | _,_,0,.cons _ t=>t
 | _,_,i+1,.cons r t=> .cons r (aC.eraseIdx i t)
theorem aC.reverse(h:aC xs us):aC xs.reverse us.reverse:=by
 induction h with
 | nil=>exact .nil
 | cons r t a=>rw[List.reverse_cons,List.reverse_cons];exact aC.append a (.cons r .nil)
theorem aC.rep(h:aC xs us):∀k:Nat,aC (List.replicate k xs).flatten (List.replicate k us).flatten
 | 0=> .nil
 | k+1=>by
   exact aC.append h (aC.rep h k)
theorem pd:∀(l:List a) (i:Nat),(l.eraseIdx i).length<=l.length
 |[],_=>Zi _
 | _::_,0=>Yh _
 | _::r,i+1=>Nat.succ_le_succ (pd r i)
theorem pf(its:ZF):∀k acc,
 List.foldl (λa x2=>a++x2) acc.toArray (List.replicate k its.toArray)=(acc++(List.replicate k its).flatten).toArray
 | 0,acc=>by simp
 | k+1,acc=>by
   have e:acc.toArray++its.toArray=(acc++its).toArray:=by simp
   have b:(acc++its) ++(List.replicate k its).flatten=acc++(List.replicate (k+1) its).flatten:=by
    rw[List.replicate_succ,List.flatten_cons,Ze]
   rw[<-b,<-pf its k _,<-e,List.replicate_succ,Y8]
section
#version
variable{l b:Addr}{xs ys zs:List V}
theorem Inv.lset{its its':ZF}{n:Nat}{f:ZJ->ZJ}{t':Nat}(I:Inv X pins σ H s)(a:H l=some (.lst xs))
 (e:s.heap.get? l=some {cls:= .type "list",data:= .seq its.toArray n}) (c:f its.toArray=its'.toArray) (d:aC ys its') (g:ys.length<=sizeLine):
 Inv X pins σ (upd H l (.lst ys)) {s with heap:=s.heap.update l (Obj.mapSeq f),toks:=t'}:=by
 have q:=PySem.IsL.update e f;rw[c]at q;refine I.write (a▸trivial) (.inl rfl) (λj u h i=>(get?_update_other s.heap _ (Ne.symm h)).trans i) %[_|q] ?_;exact%[g,its',_,d|q]
theorem Inv.lnew(I:Inv X pins σ H s)(a:aC ys its)(c:ys.length<=sizeLine):
 Inv X pins σ (upd H ⇑s (.lst ys)) {s with heap:=s.heap.push {cls:= .type "list",data:= .seq its.toArray},toks:=t'}:=
 I.laid (λ_ _ q=>Z7 _ q) (Zi _) %[c,its,0,a|Zj _ rfl]
theorem Inv.fresh(I:Inv X pins σ H s):H ⇑s=none:=I.hok.fresh (Zi _)
theorem Inv.lstM(I:Inv X pins σ H s)(a:H l=some (.lst xs)):xs.length<=sizeLine/\∃its n,aC xs its/\xs.length=its.length/\s.heap.get? l=some {cls:= .type "list",data:= .seq its.toArray n}:=by
 have%[z,its,n,r|e]:=I.hok l _ a;exact%[z,its,n,r,r.length|e]
theorem sK{n:Nat}(h:n<=sizeLine):Builtin.List.listTooLong n=false:=by
 unfold Builtin.List.listTooLong
 simp_all
end
section
variable{X:Cx}
def qJ:V->List V->Hp->VK->Prop:=λx vs H Q=>asR x λl=>∃y,vs=[y]/\∃xs,H l=some (.lst xs)/\xs.length<sizeLine/\Q .non (upd H l (.lst (xs++[y])))
theorem ph:MtM X "list.append" qJ:=by
 intro pins s f H x vs v us Q I b c h;have%[l,rfl,y,rfl,xs,a,g|q]:=gP h;cases b;have%[u,rfl|d]:=c.one;have%[z,its,n,r,i|e]:=I.lstM a;refine call_meets F.slot_list_append %[_,e|rfl] F.entry_list_append (F.args_list_append_2 _ _) (PySem.list_append l its.toArray n u (by simp_all)) %[e,.non,_,I.lset a e ∅ (r.append (.cons d .nil)) ?_,rfl|q];rw[Z9,Ym]
 lia
def qK:V->List V->Hp->VK->Prop:=λx vs H Q=>∃l b xs zs,x= .ref l/\vs=[.ref b]/\H l=some (.lst xs)/\H b=some (.lst zs)/\xs.length+zs.length<=sizeLine/\Q .non (upd H l (.lst (xs++zs)))
theorem xK:MtM X "list.extend" qK:=by
 intro pins s w H x vs v us Q I f g h;have%[l,b,xs,zs,rfl,rfl,d,i,y|q]:=h;cases f;have%[u,rfl|j]:=g.one;cases j;have%[z,its,n,r,A|e]:=I.lstM d;have%[B,its2,m,o,p|t]:=I.lstM i;have c:its.toArray.size+its2.toArray.size<=sizeLine:=by simp_all
 have a: ¬ (!its.toArray.isEmpty&&Builtin.List.listTooLong (its.toArray.size+its2.toArray.size))=true:=by
  rw[sK c,Bool.and_false];exact Zu
 refine call_meets F.slot_list_extend %[_,e|rfl] F.entry_list_extend (F.args_list_extend_2 _ _)
  (AutoSeq1.list_extend_list_list_0 l its.toArray n b its2.toArray m a ⋯ ⋯) %[e,t,.non,_,I.lset d e ∅ (r.append o) ?_,rfl|q]
 simp_all
def ED:R2:=λx y H Q=>∃l b xs zs,x= .ref l/\y= .ref b/\H l=some (.lst xs)/\H b=some (.lst zs)/\xs.length+zs.length<=sizeLine/\∀p,H p=none->Q (.ref p) (upd H p (.lst (xs++zs)))
theorem EE:OpR X (binaryOp .Add) ED:=by
 intro pins s o H x y v u Q I a c h;have%[l,b,xs,zs,rfl,rfl,d,f,p|q]:=h;cases a;cases c;have%[z,its,n,r,t|e]:=I.lstM d;have%[w,its2,A,g,i|j]:=I.lstM f;refine PySem.P.add_list e j ?_ (by rw[Zp,Zp];lia);have m:its.toArray++its2.toArray=(its++its2).toArray:=by simp
 rw[m];exact%[.ref _,_,I.lnew (r.append g) (by rw[Z9];lia),rfl|q _ I.fresh]
def EF:R2:=λx y H Q=>∃l k xs,x= .ref l/\y= .int k/\H l=some (.lst xs)/\ -(2^63)<=k/\k<2^63/\xs.length*k.toNat<=sizeLine/\
 ∀p,H p=none->Q (.ref p) (upd H p (.lst (List.replicate k.toNat xs).flatten))
theorem Ce(xs:List a)(k:Nat):(List.replicate k xs).flatten.length=k*xs.length:=by
 simp
theorem EG:OpR X (binaryOp .Mult) EF:=by
 intro pins s E H x y v u Q I o p h;have%[l,k,xs,rfl,rfl,w,A,B,j|q]:=h;cases o;have%[t|rfl]:=p;have%[z,its,n,r,C|e]:=I.lstM w;have c:its.toArray.size*k.toNat<=sizeLine:=by rw[Zp,<-C];exact j
 have d: ¬ its.toArray.size*k.toNat>(2^63-1)/8:=by
  have:sizeLine<=(2^63-1)/8:=by decide
  lia
 have f: ¬ (!Builtin.List.listFitsIndex k)=true:=by
  rw[fitsIndex_both A B];exact Zu
 have b: ¬ Builtin.List.listTooLong (its.toArray.size*k.toNat)=true:=by
  rw[sK c];exact Zu
 have g:List.foldl (λi x2=>i++x2) #[] (List.replicate (if its.toArray.isEmpty=true then 0 else k.toNat) its.toArray)=(List.replicate k.toNat its).flatten.toArray:=by
  have G:∀m,List.foldl (λi x2=>i++x2) #[] (List.replicate m its.toArray)=(List.replicate m its).flatten.toArray:=λm=>by
   have:=pf its m []
   simp_all
  cases its with
  | nil=>simp
  | cons a J=>simp_all
 refine wpAny_binaryOp_repeat_ref (by decide) %[_,e|rfl] (λs'=>typeIs_int s' k t) noFill_list_mul F.fills_int_mul F.slot_int_rmul repeat_list F.slot_int_index.lookup
  (call_meets F.slot_int_rmul (typeIs_int s k t) F.entry_int_rmul (F.args_int_rmul_2 _ _) (int___rmul___int_list k t l its.toArray n)
   %[e,rfl,%[_,e|rfl]|call_meets F.slot_list_mul %[_,e|rfl] F.entry_list_mul (F.args_list_mul_2 _ _) (AutoListH.list___mul___list_int_3 l its.toArray n k t f d b) %[e|?_]])
 rw[g];exact%[.ref _,_,I.lnew (r.rep k.toNat) (by rw[Ce,Nat.mul_comm];exact j),rfl|q _ I.fresh]
end
section
#where
end
section
variable{X:Cx}
end
section
variable{κ:Type}[DecidableEq κ]
noncomputable def cw(a:List (κ×V))(k:κ):Option V:=(a.find? λb=>decide (b.1=k)).map (·.2)
noncomputable def dH(a:List (κ×V))(k:κ)(v:V):List (κ×V):=
 if(a.any λb=>decide (b.1=k))=true then a.map (λb=>if b.1=k then(b.1,v)else b)else a++[(k,v)]
theorem eC{p:κ×V}{r:List _}{k:κ}(e:p.1=k):cw (p::r) k=some p.2:=by simp[cw,e]
theorem cX{p:κ×V}{r:List _}{k:κ}(e: ¬ p.1=k):cw (p::r) k=cw r k:=by simp[cw,e]
theorem h9(k:κ):∀a,(a.any λb=>decide (b.1=k))=(cw a k).isSome
 |[]=>rfl
 | p::r=>by
   rw[Zy];by_cases e:p.1=k
   .simp only[eC e,Zf e,Bool.true_or,Option.isSome_some]
   .rw[cX e,Zh e,Bool.false_or];exact h9 k r
theorem ic(a:List _)(k:κ)(v:V):(dH a k v).length<=a.length+1:=by
 unfold dH
 split
 .simp
 simp_all
theorem jy{k:κ}(v:V)(h:cw a k=none):dH a k v=a++[(k,v)]:=by
 unfold dH;rw[h9,h];exact if_neg (by decide)
theorem fk.isSome_eq(r:fk o u):o.isSome=u.isSome:=by
 cases o with
 | none=>cases u with
   | none=>rfl
   | some _=>exact(r).elim
 | some _=>cases u with
   | none=>exact(r).elim
   | some _=>rfl
theorem fk.getD{o:Option V}{u:Option Value}{d:V}{d':Value}(r:fk o u)(a:aR d d'):aR (o.getD d) (u.getD d'):=by
 cases o with
 | none=>cases u with
   | none=>exact a
   | some _=>exact(r).elim
 | some _=>cases u with
   | none=>exact(r).elim
   | some _=>exact r
theorem KV.val{vs:List (κ×Value)}(r:KV a vs)(k:κ):fk (cw a k) (valueAt vs k):=by
 induction r with
 | nil=>exact True.intro
 | @cons p q ps qs h t f=>
   have%[d|g]:=h;by_cases e:p.1=k
   .have c:=d.symm.trans e;have b:valueAt (q::qs) k=some q.2:=by simp[valueAt,c]
    rw[eC e,b];exact g
   .have c: ¬ q.1=k:=λz=>e (d.trans z)
    have b:valueAt (q::qs) k=valueAt qs k:=by simp[valueAt,c]
    rw[cX e,b];exact f
theorem KV.any(r:KV a vs)(k:κ):(a.any λb=>decide (b.1=k))=vs.any λb=>decide (b.1=k):=by
 induction r with
 | nil=>rfl
 | cons h t c=>simp_all
theorem KV.repl(r:KV c vs)(k:κ)(d:aR y u):
 KV (c.map λa=>if a.1=k then(a.1,y)else a) (vs.map λa=>if a.1=k then(a.1,u)else a):=by
 induction r with
 | nil=>exact .nil
 | @cons p q ps qs h t f=>
   rw[Ys,Ys];refine .cons ?_ f;have%[b|g]:=h;by_cases e:p.1=k
   .rw[if_pos e,if_pos (b.symm.trans e)];exact%[b|d]
   .rw[if_neg e,if_neg (λz=>e (b.trans z))];exact%[b|g]
theorem KV.put(r:KV a vs)(k:κ)(b:aR y u):KV (dH a k y) (stored vs k u):=by
 unfold dH stored;rw[r.any k];by_cases e:(vs.any λc=>decide (c.1=k))=true
 .rw[if_pos e,if_pos e];exact r.repl k b
 .rw[if_neg e,if_neg e];exact Paired.snoc r %[rfl|b]
theorem KV.length{a:List (κ×V)}{vs:List _}(r:KV a vs):a.length=vs.length:=Paired.length r
end
theorem mo{P:Program}(r:aR (kV k) u):(aQ P w).is k u=true:=by
 cases k with
 | inl i=>have%[t|e]:=(r);subst e;exact sF P w i t
 | inr x=>have%[t|e]:=(r);subst e;exact sG P w x t
theorem pj{P:Program}:∀{ks:List Key} {us:ZF},aC (ks.map kV) us->ItemsAre (aQ P w) ks us
 |[],_,r=>by cases r;exact .nil
 | k::ks,_,r=>by
   cases r with
   | cons h t=>exact .cons (mo h) (pj t)
noncomputable abbrev KT(H:Hp):List (List Key×V)->List (List Key×Addr×Value)->Prop:=Paired λp q=>p.1=q.1/\H q.2.1=some (.tup (p.1.map kV))/\aR p.2 q.2.2
theorem KT.val{a:List (List Key×V)}{xs:List (List Key×Addr×Value)}(r:KT H a xs)(k:List Key):fk (cw a k) ((atKey xs k).map (·.2)):=by
 induction r with
 | nil=>exact True.intro
 | @cons p q ps qs h t f=>
   have%[d,_|g]:=h;by_cases e:p.1=k
   .have c:=d.symm.trans e;have b:atKey (q::qs) k=some q.2:=by simp[atKey,c]
    rw[eC e,b];exact g
   .have c: ¬ q.1=k:=λz=>e (d.trans z)
    have b:atKey (q::qs) k=atKey qs k:=by simp[atKey,c]
    rw[cX e,b];exact f
theorem KT.repl(r:KT H b xs)(k:List Key)(f:aR y u):
 KT H (b.map λc=>if c.1=k then(c.1,y)else c) (xs.map (putAt k u)):=by
 induction r with
 | nil=>exact .nil
 | @cons p q ps qs h t g=>
   rw[Ys,Ys];refine .cons ?_ g;have%[a,d|i]:=h;unfold putAt;by_cases e:p.1=k
   .rw[if_pos e,if_pos (a.symm.trans e)];exact%[a,d|f]
   .rw[if_neg e,if_neg (λz=>e (a.trans z))];exact%[a,d|i]
theorem KT.put(r:KT H a xs)(k:List Key)(d:H b=some (.tup (k.map kV)))(c:aR y u):
 KT H (dH a k y) (storedH xs k b u):=by
 have e:(a.any λf=>decide (f.1=k))=(atKey xs k).isSome:=by
  rw[h9,(r.val k).isSome_eq,isSome_map]
 unfold dH storedH;rw[e];by_cases q:(atKey xs k).isSome=true
 .rw[if_pos q,if_pos q];exact r.repl k c
 .rw[if_neg q,if_neg q];exact Paired.snoc r %[rfl,d|c]
theorem KT.keeps(r:KT H a xs)(c:∀b ys,H b=some (.tup ys)->d b=some (.tup ys)):KT d a xs:=
 Paired.mapP r λ_ _ z=>%[z.1,c _ _ z.2.1|z.2.2]
section
variable{P:Program}{w:World}{H:Hp}{h:Heap}{a:Addr}
theorem Do(ok:HOk P w H h)(e:Rd H a u):ck P w H h a u:=e.ok ok
theorem sL(ok:HOk P w H h)(e:Rd H a (.dK b)):b.length<=sizeLine/\(a==sysModules)=false/\∃vs,KV b vs/\h.DictOf (aQ P w) a vs:=
 Do ok e
theorem sM(ok:HOk P w H h)(e:H a=some (.dK b)):b.length<=sizeLine/\(a==sysModules)=false/\∃vs,KV b vs/\h.DictOf (aQ P w) a vs:=sL ok (.inl e)
theorem mr(ok:HOk P w H h)(e:H a=some (.tup (ks.map kV))):(tupleKind (aQ P w)).is h ks a:=by
 have%[_,its,r,o,b,c,n|d]:=(ok a _ e)
 exact%[o,its.toArray,n,b,c,d|pj r]
theorem sN(ok:HOk P w H h)(e:Rd H a (.dT b)):b.length<=sizeLine/\(a==sysModules)=false/\
 ∃xs,KT H b xs/\h.DictOfH (tupleKind (aQ P w)) a xs:=by
 have%[z,y,xs,r,o,d,f,g,i,j,n|s]:=(Do ok e)
 refine%[z,y,xs,r,o,d,f,g,i,j,n,λx c=>?_|s];have all:∀{l:List _} {m:List _},KT H l m->∀x∈m,(tupleKind (aQ P w)).is h x.1 x.2.1:=by
  intro l m q
  induction q with
  | nil=>simp
  | @cons p q ps qs v t u=>
    intro x c;rcases mem_cons.mp c with e|c
    .exact mr ok (by simp_all)
    .exact u x c
 exact all r x c
theorem Gg(ok:HOk P w H h)(e:H a=some (.dT b)):b.length<=sizeLine/\(a==sysModules)=false/\
 ∃xs,KT H b xs/\h.DictOfH (tupleKind (aQ P w)) a xs:=sN ok (.inl e)
end
def dR(H:Hp)(a:Addr)(y:V)(r:Option V):Prop:=
 (∃c k,Rd H a (.dK c)/\y=kV k/\r=cw c k)\/∃c k b,Rd H a (.dT c)/\y= .ref b/\H b=some (.tup (k.map kV))/\r=cw c k
def lG(H:Hp)(a:Addr)(y v:V)(d:Hp):Prop:=
 (∃c k,H a=some (.dK c)/\y=kV k/\c.length<sizeLine/\d=upd H a (.dK (dH c k v)))\/
 ∃c k b,H a=some (.dT c)/\y= .ref b/\H b=some (.tup (k.map kV))/\c.length<sizeLine/\d=upd H a (.dT (dH c k v))
theorem dR.k{k:Key}(e:H a=some (.dK b)):dR H a (kV k) (cw b k):= .inl %[b,k,.inl e,rfl|rfl]
theorem lG.k{k:Key}(e:H a=some (.dK b))(c:b.length<sizeLine):lG H a (kV k) v (upd H a (.dK (dH b k v))):= .inl %[b,k,e,rfl,c|rfl]
section
#version
variable{a:Addr}{y v:V}{u r:Value}{o:Option V}{A:Around}{E:ZD}
theorem Inv.big(I:Inv X pins σ H s):sysModules<⇑s:=by
 exact Nat.lt_trans (by decide) ((I.mod.glob.keeps I.bk).lt)
theorem xM(t:A.units+1<cLine)(I:Inv X pins σ H s)(g:dR H a y (some v))(q:aR y u)(h:∀f s',Inv X pins σ H s'->aR v f->Q f s'):
 wpAny (model X.prog X.w) A (getItem (.ref a) u) Q E s:=by
 rcases g with⟨i,k,e,j,l⟩|⟨i,k,b,e,j,w,l⟩
 .subst j;have%[z,B,vs,c|m]:=sL I.hok e;have%[f,hw|d]:=fk.some_of (l▸c.val k);exact wpAny_getItem_of (mo q) m.mapOf hw (h f _ (I.tok _) d)
 .subst j;cases(q);have%[z,B,xs,c|m]:=sN I.hok e;have%[f,hw|d]:=fk.some_of (l▸c.val k);have%[p,C|n]:=map_eq_some_iff.mp hw;refine wpAny_getItem_heap (tupleKind_room_in1 t) (mr I.hok w) m C ?_;rw[n];exact h f _ (I.tok _) d
theorem d_in(n:A.units+1<cLine)(I:Inv X pins σ H s)(g:dR H a y o)(m:aR y u)(h:∀s',Inv X pins σ H s'->Q (.bool o.isSome) s'):
 wpAny (model X.prog X.w) A (compareOp .In u (.ref a)) Q E s:=by
 rcases g with⟨d,k,e,f,l⟩|⟨d,k,b,e,f,p,l⟩
 .subst f;have%[z,i,vs,c|j]:=sL I.hok e;refine wpAny_in_of (mo m) i j.mapOf ?_;rw[<-(c.val k).isSome_eq,<-l];exact h _ (I.tok _)
 .subst f;cases(m);have%[z,i,xs,c|j]:=sN I.hok e;refine wpAny_in_heap (tupleKind_room_in1 n) (mr I.hok p) i j ?_;have q:=(c.val k).isSome_eq;rw[isSome_map]at q;rw[<-q,<-l];exact h _ (I.tok _)
theorem Cf(n:A.units+1<cLine)(I:Inv X pins σ H s)(g:dR H a y o)(m:aR y u)(h:∀s',Inv X pins σ H s'->Q (.bool (!o.isSome)) s'):
 wpAny (model X.prog X.w) A (compareOp .NotIn u (.ref a)) Q E s:=by
 rcases g with⟨d,k,e,f,l⟩|⟨d,k,b,e,f,p,l⟩
 .subst f;have%[z,i,vs,c|j]:=sL I.hok e;refine wpAny_notIn_of (mo m) i j.mapOf ?_;rw[<-(c.val k).isSome_eq,<-l];exact h _ (I.tok _)
 .subst f;cases(m);have%[z,i,xs,c|j]:=sN I.hok e;refine wpAny_notIn_heap (tupleKind_room_in1 n) (mr I.hok p) i j ?_;have q:=(c.val k).isSome_eq;rw[isSome_map]at q;rw[<-q,<-l];exact h _ (I.tok _)
theorem qL(I:Inv X pins σ H s)(d:Mut (H a))(e:SameBut a s.heap h')(f:∃q,h'.get? a=some q)(new:ck X.prog X.w (upd H a c) h' a c):
 Inv X pins σ (upd H a c) {s with heap:=h',toks:=t'}:=
 I.write d (.inl rfl) (λb q g z=>(e.2 b g).trans z) f new
theorem zP{P:Program}(z:b.length<=sizeLine)(d:(a==sysModules)=false)(c:KV b vs)(e:h'.DictOf (aQ P w) a vs):
 ck P w f h' a (.dK b):=%[z,d,vs,c|e]
theorem xN(M:A.units+1<cLine)(I:Inv X pins σ H s)(g:lG H a y v N)(C:aR y u)(G:aR v r)(h:∀s',Inv X pins σ N s'->Q () s'):
 wpAny (model X.prog X.w) A (setItem (.ref a) u r) Q E s:=by
 rcases g with⟨d,k,e,m,l,n⟩|⟨d,k,b,e,m,J,l,n⟩
 .subst m n;have%[z,p,vs,f|t]:=sM I.hok e;have O:vs.length<=sizeLine:=f.length▸z;have w:(dH d k v).length<=sizeLine:=by have:=ic d k v;lia
  exact wpAny_setItem_pairs (mo C) t λh' i B=>h _ (qL I (e▸True.intro) B (let⟨q,_,_,j,_⟩:=i;%[q|j]) (zP w p (f.put k G) i))
 .subst m n;cases(C);have%[z,p,xs,f|t]:=Gg I.hok e;have O:xs.length<=sizeLine:=(Paired.length f)▸z;have w:(dH d k v).length<=sizeLine:=by have:=ic d k v;lia
  refine wpAny_setItem_heap (tupleKind_room_in1 M) (mr I.hok J) t λh' i B=>h _ ?_
  have%[q,T,U,j,Y,h3,h4,_|h5]:=i;refine qL I (e▸True.intro) B %[q|j] %[w,p,_,(f.put k J G).keeps λc ys L=>?_,q,T,U,j,Y,h3,h4|h5];rw[ao (l7 L e (λz=>nomatch z))];exact L
end
section
#version
variable{a:Addr}{kvs:List (Key×V)}{k:Key}{u:Value}{A:Around}{E:ZD}
end
def EH(i:Expr):Prop:=∀a b,subscripted i false a b=operate [a,b] (getItem a b)
theorem Cg{T id:String}
 (m:typeLookup (.type T) "__getitem__"=pure (some (.builtin id))) (n:EH a)
 (h:↥A (eval c env) (λo e=>↥A (eval a env) (λi b=>b.TypeIs o T/\↥A (getItem o i) Q E b) E e) E s):
 ↥A (eval (.Subscript c a pos) env) Q E s:=by
 refine Subscript_ (wpAny_mono h (λo e g=>wpAny_mono g (λi b d=>?_) λ_ _ x=>x) λ_ _ x=>x);have%[p|d]:=d;refine Z2 (Z2 (wpAny_specialOf p m ?_));have l:↥A (subscripted a false o i) (λr f=>↥A (letTemporaryGo c o r>>= λ_=>pure r) Q E f) E b:=by
  rw[n o i];exact wpAny_operating (wpAny_mono d (λr f j=>Z2 (wpAny_letTemporaryGo (Z3 j))) λ_ _ x=>x)
 first
  | exact Z3 (Z2 l)
  | lia
  | lia
theorem sO{X:Cx}(I:Inv X pins f H s)(g:dR H a y o):s.TypeIs (.ref a) "dict":=by
 rcases g with⟨c,k,e,_,_⟩|⟨c,k,b,e,_,_,_⟩
 .have%[_,_,vs,_|d]:=sL I.hok e;exact d.typeIs
 .have%[_,_,xs,_|d]:=sN I.hok e;exact d.typeIs
def zQ(d ty:TE):TE:=λb H Q=>d b H λx e=>ty b e λy c=>∃a v,x= .ref a/\dR c a y (some v)/\Q v c
def EI(ty d:TE):TE:=λb H Q=>ty b H λy e=>d b e λx c=>∃a o,x= .ref a/\dR c a y o/\Q (.bl o.isSome) c
def qN(ty d:TE):TE:=λb H Q=>ty b H λy e=>d b e λx c=>∃a o,x= .ref a/\dR c a y o/\Q (.bl (!o.isSome)) c
def pA(d ty e:TE):TS:=λD b H=>e b H λv f=>d b f λx g=>ty b g λy h=>∃a c,x= .ref a/\lG h a y v c/\D.nx b c
section
variable{X:Cx}{o i e value:Expr}{pos pos' tpos:Pos}{td ty tv:TE}
theorem Ch(f:X.A.units+1<cLine)(j:PE X o td)(hi:PE X i ty)(l:EH i):PE X (.Subscript o i pos) (zQ td ty):=by
 intro pins s c H Q I h;refine Cg PySem.F.slot_dict_getitem.lookup l (thP (j pins s c H _ I h) λu m x n p q r=>thP (hi pins m c n _ p r) λB C y t d w ⟨a,v,ex,g,z⟩=>?_);subst ex;obtain rfl:u=Value.ref a:=q;exact%[sO d g|xM f d g w λE G A b=>%[v,t,A,b|z]]
theorem EJ(c:X.A.units+1<cLine)(hi:PE X i ty)(d:PE X o td):PC X .In i o (EI ty td):=by
 intro pins s b H Q I h;refine thP (hi pins s b H _ I h) λz f y j l m n=>thP (d pins f b j _ l n) λu A x p q r ⟨a,t,ex,g,v⟩=>?_
 subst ex;obtain rfl:u=Value.ref a:=r;exact d_in c q g m λB w=>%[.bl t.isSome,p,w,rfl|v]
theorem xO(c:X.A.units+1<cLine)(hi:PE X i ty)(d:PE X o td):PC X .NotIn i o (qN ty td):=by
 intro pins s b H Q I h;refine thP (hi pins s b H _ I h) λw f y j l m n=>thP (d pins f b j _ l n) λu z x p q r ⟨a,A,ex,g,t⟩=>?_
 subst ex;obtain rfl:u=Value.ref a:=r;exact Cf c q g m λB v=>%[.bl _,p,v,rfl|t]
theorem Ci(c:X.A.units+1<cLine)(d:PE X o td)(hi:PE X i ty)(f:PE X value tv)(j:swapsWith value (some (.Subscript o i pos')) pos.line X.env=pure false):
 PS X (.Assign [.Subscript o i pos'] value pos) (pA td ty tv):=by
 intro pins s b H D I h;refine wpAny_Assign_Subscript (thP (f pins s b H _ I h) λr l v m n p q=>thP (d pins l b m _ n q) λu t x w z A B=>thP (hi pins t b w _ z B) λM N y O C E ⟨a,G,ex,g,J⟩=>?_) j;subst ex;obtain rfl:u=Value.ref a:=A;exact xN c C g E p λQ L=>%[b,G,L|J]
end
theorem zR{P:Program}(h:Heap)(a:sysModules<h.objs.size):ck P w H (h.push {cls:= .type "dict",data:= .dict #[]}) h.objs.size (.dK []):=
 %[Xg _,beq_eq_false_iff_ne.mpr (Ne.symm (Zt a)),[],.nil|Heap.DictOf.new h]
def va:TE:=λ_ H Q=>∀p,H p=none->Q (.ref p) (upd H p (.dK []))
section
variable{X:Cx}{pos:Pos}
theorem zS:PE X (.Dict [] [] pos) va:=λpins s a H Q I h=>
 wpAny_Dict_empty %[.ref ⇑s,_,I.laid (λ_ _ q=>Z7 _ q) (Zi _) (zR s.heap I.big),rfl|h _ (I.hok.fresh (Zi _))]
end
structure M2 (X:Cx) (o:Expr) (m:Str) (apos:Pos) (e f:Expr) (cpos:Pos):Prop where
 base:attributeBase o m X.env (eval o X.env)=eval o X.env
 few:((backTo cpos (starEach [e,f] X.env)).all (λx=>!x.1)&&(backToKw cpos (keywordEach [] X.env)).all (λx=>x.1.isSome)
  && decide (([e,f]).length+([]:List Keyword).length+(if([]:List Keyword).isEmpty then 0 else 1)<30))=true
 line:(apos.endLine==cpos.line)=true
 trees:backTo cpos (starEach [e,f] X.env)=[(false,eval e X.env),(false,eval f X.env)]
section
#version
variable{a:Addr}{y d:V}{u r:Value}{o:Option V}{A:Around}{E:ZD}
end
section
variable{X:Cx}{o e f:Expr}{apos cpos:Pos}{td ty tx:TE}
end
section
#version
variable{a:Addr}{kvs:List (Key×V)}{A:Around}{E:ZD}
end
section
#version
variable{a:Addr}{y:V}{u:Value}{A:Around}{E:ZD}
end
end L2
namespace Att
open PySem PySem.W PySem.Calls PyProof.Rows
theorem lH{P:Params}:∀(c:ZL) (vs:ZF),WellAll P h vs (c.map WData.int)->IntsAre vs c:=by
 intro c
 induction c with
 | nil=>
   intro vs w;cases w;exact .nil
 | cons n c d=>
   intro vs w;cases w with
   | cons a b=>
     cases a;exact .cons _ _ (d _ b)
theorem xP{l:OpenLaw}(o:l.most=some n){P:Params}
 (b:l.row.toRowW.claim.pre args=true) (j:WellAll P h e args):
 ∃a vs c,e=[Value.ref a]/\args=[WData.list (c.map WData.int)]/\h.get? a=some {cls:= .type "list",data:= .seq vs.toArray}/\IntsAre vs c/\c.length<=n:=by
 have m:l.pre.holds [] _=true:=(pre_splitW b).2;have%[d,r,rfl,p|q]:=hasAllW_cons ((pre_splitW b).1);obtain rfl:=hasAllW_nil q;have%[xs,rfl|s]:=hasW_list p;have%[c|rfl]:=items_int s;have f:c.length<=n:=by
  unfold OpenLaw.pre at m;have i:=by
   have i:=(holds_andW m).1;rw[o]at i;exact i
  have w:=condW_of i (w_not (w_lt w_lit (w_len_list (w_arg rfl))))
  grind
 cases j with
 | cons t u=>
   cases u;cases t with
   | list v g=>exact%[_,_,c,rfl,rfl,v,lH c _ g|f]
theorem xQ(l:OpenLaw)(args:List WData):l.row.toRowW.claim.post args (.bool true) args=true:=
 postW_of
  (by first|rfl|simp|lia)
  (w_eq_bool (w_res rfl) w_lit) rfl
theorem attach_call{l:OpenLaw}{n:Nat}{q:Program}
 (H:l.most=some n) (t:d.params.defaults=[])
 (call:∀(w:World) (s₀ b:Shared) (mg u:ZC) (h:Addr) (o:Obj) (v p c:Value) (a:Addr) (vs:ZF) (s:ZL),
  Ground q e [] I w s₀ mg u b.heap->J w b.heap->
  b.heap.get? h=some o->o.data= .func (docDef d.name d.params d.body d.scope v p c)->b.heap.CodeRec p d.name->mg d.name=some (.ref h)->
  b.heap.get? a=some {cls:= .type "list",data:= .seq vs.toArray}->IntsAre vs s->s.length<=n->b.gens= #[]->
  codeAny (model l.prog w) callerA (.call (.ref h) %[[.ref a]|[]]) (λr s'=>r= .ok (.ret (.bool true))/\OldK b.heap s'.heap/\s'.os=b.os/\AllBare s'.gens) b):
 WalkO q e I J l.row.toRowW d [] (λf vs=>PySem.call f vs):=by
 intro w s₀ b mg u G Y h o v p c L kV M N y B z O args C as i E Q A T;obtain rfl:L= .none:=Dflts.none B t;obtain rfl:kV= .none:=Dflts.noKw B;have%[a,vs,s,rfl,rfl,j,g|m]:=xP H i A;refine enter_call (codeAny_mono (call w s₀ b mg u h o v p c a vs s G Y M (fd_plain N) y z j g m O) λr s' U=>?_);have%[rfl,h2,h3|h4]:=U;exact%[.inl %[.bool true,.bool true,[],rfl,λ_=>rfl,.bool true,xQ l _|λ_=>%[List.Pairwise.nil|λ_ hm=>(nomatch hm)]],h2,h3|h4]
section
#where
variable{K:Frag}
end
end Att
namespace L2
open PySem PySem.Spec PyProof.Rows
theorem pB:∀{vs:ZF} {a:ZL},IntsAre vs a->aC (a.map V.int) vs
 | _,_,.nil=> .nil
 | _,_,.cons n t h=> .cons %[t|rfl] (pB h)
def Cj(H:Hp):Prop:=∀b,H b=none\/∃o xs,H b=some (.frz o (.lst xs))
theorem law_call{P:Program}{K:ZA}{mg I:ZC}{vs:ZF}
 (U:K.In c.heap) (p:c.heap.Ns mainGlobals mg) (g:c.heap.Ns builtinsNs I) (J:∀x:Str,x≠"__name__"->I x=bootBuiltins x) (t:c.heap.NoLimit) (hg:c.gens= #[])
 (L:c.heap.get? a=some {cls:= .type "list",data:= .seq vs.toArray}) (hi:IntsAre vs M) (Y:M.length<=sizeLine) (hr:bB k callerA)
 (F:∀base:Heap,K.In base->base.Ns mainGlobals mg->fC P w K mg base CX k fa fd [x] sp) (l:∀(s:Shared) (u:Value),BindsTo s fd %[[u]|[]] [(x,u)])
 (N:∀H:Hp,Cj H->SqL K H a (M.map V.int)->sp [.ref a] H (λv _=>v= .bl true) λ_ _ _=>False)
 (O:∀H e s',CX [] H c (λ_ _ _=>False) e s'->False):
 codeAny (model P w) callerA (.call (.ref fa) %[[.ref a]|[]]) (λr s'=>r= .ok (.ret (.bool true))/\OldK c.heap s'.heap/\s'.os=c.os/\AllBare s'.gens) c:=by
 have rv:=pB hi;have j:∀H,Cj H->SqL K H a (M.map V.int)->HOk P w H c.heap->(∀b,H b≠none->b=a)->(H a≠none->K.lookup a=none)->
  codeAny (model P w) callerA (.call (.ref fa) %[[.ref a]|[]]) (λr s'=>r= .ok (.ret (.bool true))/\OldK c.heap s'.heap/\s'.os=c.os/\AllBare s'.gens) c:=by
  intro H hO hS y hA hK;have f:∀{b:Addr} {o:Obj},c.heap.get? b=some o->H b=none->(xu c.heap H).get? b=some o:=λe n=>yZ e n
  have Q:∀{b:Addr} {o:Obj} {E:Array DictEntry} {G:Nat},c.heap.get? b=some o->o.data= .dict E G->H b=none:=λ{b o E G} e d=>by
   grind
  have i:∀{b:Addr} {m:ZC},c.heap.Ns b m->(xu c.heap H).Ns b m:=λ{b m} ⟨o,E,G,e,d,r⟩=>%[o,E,G,f e (Q e d),d|r]
  have A:=λb o e=>f (U b o e) (by
   grind)
  refine codeAny_mono ((F _ A (i p)).run callerA [] c H _ _ [.ref a] _ _ hr %[rfl,%[A,i p,%[I,i g|J]|let⟨mc,h1,h2⟩:=t;%[mc,i h1|h2]],λb o e=>BL e,Nat.le_of_eq (xv _ _),trivial,λb g=>absurd (show b∈([])from g) ∅,y|.of_eq hg] (l c _) (.cons rfl .nil) (N H hO hS)) λr s' h=>?_
  cases r with
  | error e=>exact(O H e s' h).elim
  | ok fl=>
    cases fl with
    | next=>exact False.elim h
    | brk=>exact False.elim h
    | cont=>exact False.elim h
    | ret u=>
      have%[v,H',os,B,un,C,r'|q]:=h;subst q;obtain rfl:u=Value.bool true:=r';refine%[rfl,OldK.of_keep λb o e=>?_,os|B];cases q:H b with
      | none=>exact un.keep b o e q (by intro z;exact absurd (show b∈([])from z) ∅) ∅
      | some u=>
        rcases hO b with z|⟨ob,xs,z⟩
        .rw[q]at z;cases z
        .have%[e1|_]:=y b _ z;have%[e2|_]:=C b _ (un.frzs b ob _ z);rw[e]at e1;cases e1;exact e2
 cases T:K.lookup a with
 | some o=>
   have e:=U a o T;rw[L]at e;cases e;refine j _ (λ_=> .inl rfl) (.inr %[_,vs.toArray,_,T,rfl,rfl,rfl,by rw[Zp,hi.length];exact Y|rv]) (λb u z=>by simp_all) (λb z=>absurd rfl z) λz=>absurd rfl z
 | none=>
   refine j (λb=>if b=a then some (.frz {cls:= .type "list",data:= .seq vs.toArray} _)else none) (λb=>?_) (.inl (.inr %[{cls:= .type _,data:= .seq vs.toArray}|if_pos rfl])) (λb u z=>?_) (λb z=>?_) λ_=>T
   .by_cases g:b=a
    .exact .inr %[_,_|if_pos g]
    .exact .inl (if_neg g)
   .by_cases g:b=a
    .have z':=(if_pos g).symm.trans z;cases z';subst g;exact%[L,by rw[Z6];exact Y,vs,_,rv|L]
    simp_all
   .by_cases g:b=a
    .exact g
    .exact absurd (if_neg g) z
theorem walk_of{l:PySem.W.OpenLaw}{I:(Str->Option Value)->Heap->Prop}{C:World->Heap->Prop}{d:DefRec}{K:Params->ZA}{CX:World->CXT}{sp:World->Sp}{x:Str}
 (J:l.most=some n) (p:n<=sizeLine) (r:d.params.defaults=[]) (L:bB k callerA)
 (M:∀(w:World) (h:Heap),C w h->(K w.params).In h)
 (F:∀(w:World) (mg:ZC) (j:Addr) (h:Heap),(K w.params).In h->h.Ns mainGlobals mg->mg d.name=some (.ref j)->
  ∃t:FuncData,(∀(s:Shared) (u:Value),BindsTo s t %[[u]|[]] [(x,u)])/\
   ∀base:Heap,(K w.params).In base->base.Ns mainGlobals mg->fC l.prog w (K w.params) mg base (CX w) k j t [x] (sp w))
 (y:∀(w:World) (H:Hp) (a:Addr) (m:ZL),m.length<=n->Cj H->SqL (K w.params) H a (m.map V.int)->sp w [.ref a] H (λv _=>v= .bl true) λ_ _ _=>False)
 (z:∀(w:World) (H:Hp) (s:Shared) (e:Value) (s':Shared),CX w [] H s (λ_ _ _=>False) e s'->False):
 PySem.W.WalkO q A I C l.row.toRowW d [] (λf vs=>PySem.call f vs):=by
 refine Att.attach_call J r λw s₀ g mg mb j o pm cd N a vs m G Y ho hd O B i c b Q=>?_
 have E:=M w _ Y;have%[t,T|U]:=F w mg j _ E G.T.g B;exact law_call E G.T.g G.T.b G.T.builtins G.T.nolimit Q i c (Yi b p) L U T (λH hO hS=>y w H a m b hO hS) λH e s'=>z w H g e s'
noncomputable def iG(s:Stmt)(j:Nat):Stmt:=match s with
 | .ClassDef _ _ _ a _ _ _ _ _ _ _=>a.getD j (.Pass %[0,0,0|0])
 | _=> .Pass %[0,0,0|0]
noncomputable def cA(s:Stmt):Arguments:=match s with
 | .FunctionDef _ a _ _ _ _ _ _ _ _=>a
 | _=>{posonlyargs:=[],args:=[],vararg:=none,kwonlyargs:=[],kw_defaults:=[],kwarg:=none,defaults:=[]}
noncomputable def bA(s:Stmt):List Stmt:=match s with
 | .FunctionDef _ _ b _ _ _ _ _ _ _=>b
 | _=>[]
noncomputable def ak(s:Stmt):Scope:=match s with
 | .FunctionDef _ _ _ _ _ _ a _ _ _=>a
 | _=>{kind:= .function,names:=[],isGenerator:=false,isCoroutine:=false}
noncomputable abbrev CX0:CXT:=λ_ _ _ _ _ _=>False
noncomputable abbrev E0:XK:=λ_ _ _=>False
theorem zT{X:Cx}:f6 CX0 X E0:=λ_ _ _ _ _ _ _ h=>h.elim
structure Fun (K:ZA) (x qual:Str) (st:Stmt) (f:Addr) (fd:FuncData):Prop where
 ex:∃oc od kV doc pm an cdv ct osl,
  fd=fnOf x qual (cA st) (bA st) (ak st) .none kV doc pm an cdv ct/\K.lookup f=some %[oc,od,.func fd|osl]/\codeIn K cdv qual=true
 kp:keepIn K (.ref f)=true
section
variable{P:Program}{w:World}{K:ZA}{mg:ZC}{base:Heap}
theorem Fun.ok{x a:Str}{st:Stmt}{f:Addr}{g:FuncData}{N ps:ZB}{k:Nat}{sp:Sp}(F:Fun K x a st f g)(S:ax N ps (ak st))(len:∀vs H Q E,sp vs H Q E->vs.length=ps.length)
 (c:∀b (A:Around) (outer:List Env) s H (vs:List V) Q E,bB k (A.deeper (envOfC a (ak st) ⇑s f b))->sp vs H Q E->
  ∃t,PSs (eB CX0 P w K mg base N a (ak st) f b A outer s H E).nox (bA st) t/\t {nx:=λ_ i=>Q .non i,rt:=Q} (start N vs) H):fC P w K mg base CX0 (k+1) f g ps sp:=by
 have%[n,od,kV,j,o,p,b,ct,l,rfl,lk|d]:=F.ex;refine Dm lk d S len λA outer s H vs Q E m e=>?_
 have%[t,h|q]:=c b A outer s H vs Q E m e;exact%[t,h.nox|q]
theorem Fun.binds{st:Stmt}(F:Fun K x c st f g)
 (h:∀(kV a d:Value) (e:ZI) (b ct:Value) (us:ZF),us.length=ps.length->bindArgs (fnOf x c (cA st) (bA st) (ak st) .none kV a d e b ct) %[us|[]]=pure (ps.zip us)):cW K g ps []:=by
 have%[l,od,kV,a,d,e,b,ct,i,rfl,lk|j]:=F.ex;exact .all (h kV a d e b ct)
theorem dh{st:Stmt}{kV d e b ct:Value}(l:K.lookup f=some %[i,od,.func (fnOf x a (cA st) (bA st) (ak st) .none kV d e h b ct)|g])
 (c:codeIn K b a=true) (k:keepIn K (.ref f)=true):Fun K x a st f (fnOf x a (cA st) (bA st) (ak st) .none kV d e h b ct):=%[%[i,od,kV,d,e,h,b,ct,g,rfl,l|c]|k]
end
section
variable{X:Cx}
theorem pv(i:Nat)(b:X.N[i]? =some x)(c:Vis X.env.scope x)(d:(x==("__debug__":Str))=false)
 (a:(x==("__classdict__":Str))=false):PE X (.Name x pos) (ot i):=y4 b c d a
end
theorem oA{A B:Prop}(h:B):if false=true then A else B:=by
 simp_all
theorem bJ{c A B:Prop}[Decidable c](a:c->A)(b: ¬ c->B):if c then A else B:=by
 simp_all
def aj(H a:Hp):Prop:=∀b o,H b=some o->a b=some o
theorem aj.refl(H:Hp):aj H H:=λ_ _ h=>h
theorem aj.trans{H d e:Hp}(a:aj H d)(b:aj d e):aj H e:=λc o h=>b c o (a c o h)
theorem aj.free{H a:Hp}(e:aj H a){l:Addr}(h:a l=Option.none):H l=Option.none:=by
 cases q:H l with
 | none=>rfl
 | some o=>
   rw[e l o q]at h;cases h
theorem aj.seq{K:ZA}(e:aj H b)(h:SqL K H a xs):SqL K b a xs:=by
 rcases h with(h|⟨o,h⟩)|h
 .exact .inl (.inl (e _ _ h))
 .exact .inl (.inr %[o|e _ _ h])
 .exact .inr h
section
variable{X:Cx}
end
section
variable{κ:Type}[DecidableEq κ]
theorem Ck{a:List (κ×V)}(h:cw a k=some v):k∈a.map (·.1):=by
 have q:(a.any λb=>decide (b.1=k))=true:=by
  rw[h9,h]
  all_goals rfl
 simp_all
theorem lS:∀{l:List κ} {k:κ},l.Nodup-> ¬ k∈l->(l++[k]).Nodup
 |[],k,_,_=>by simp
 | a::r,k,h,b=>by
   have%[c|d]:=nodup_cons.mp h;refine nodup_cons.mpr %[λm=>?_|lS d λm=>b (mem_cons.mpr (Or.inr m))];rcases Xo m with q|q
   .exact c q
   .exact b (mem_cons.mpr (Or.inl (Xp q).symm))
end
noncomputable def mt(env:Env):List (Str×NameKind)->List (Str×Addr)->List (Str×Addr)
 |[],acc=>acc
 |(n,k)::r,acc=>mt env r (if k= .free then(n,(env.cells.lookup n).getD 0)::acc else acc)
theorem mv:∀(names:List (Str×NameKind)) (acc:List (Str×Addr)),(∀y∈names,y.2= .free->∃c,env.cells.lookup y.1=some c)->
 (forIn names acc λx r=>match x with
  |(name,kind)=>if(kind==NameKind.free)=true then do let a<-cellOf env name;pure (ForInStep.yield ((name,a)::r))else pure (ForInStep.yield r):Sem (List (Str×Addr)))=pure (mt env names acc)
 |[],acc,_=>rfl
 |(n,k)::r,acc,h=>by
  have d:=λacc=>mv r acc λy f=>h y (Zk _ f)
  rw[forIn_cons];by_cases b:k= .free
  .subst b;have%[c|e]:=h _ Zm rfl;have g:cellOf env n=pure c:=by unfold cellOf;rw[e]
   simp only[beq_self_eq_true,if_true,g,pure_bind];rw[d];show _=pure (mt env r _);rw[if_pos rfl,e]
   all_goals rfl
  .have i:(k==NameKind.free)=false:=by simpa using b
   simp only[i,Y1,if_false,pure_bind];rw[d];show _=pure (mt env r _);rw[if_neg b]
theorem Cl(h:∀y∈a.names,y.2= .free->∃c,env.cells.lookup y.1=some c):closureFor a env=pure (mt env a.names []):=by
 unfold closureFor;simp only[bind_pure];exact(mv a.names [] h)
theorem sP:∀(names:List (Str×NameKind)) (acc:List (Str×Addr)),(∀y∈names,y.2= .free->∃c,env.cells.lookup y.1=some c)->
 (∀y d,acc.lookup y=some d->env.cells.lookup y=some d)->(mt env names acc).lookup x=some c->env.cells.lookup x=some c
 |[],acc,_,a,e=>a x c e
 |(n,k)::r,acc,h,a,e=>by
  refine sP r _ (λy b=>h y (Zk _ b)) (λy d q=>?_) e;by_cases f:k= .free
  .rw[if_pos f,Yo]at q;have%[g|i]:=h _ Zm f;cases b:y==n with
   | true=>
     simp_all
   | false=>rw[b]at q;exact a y d q
  .rw[if_neg f]at q;exact a y d q
theorem my:∀(names:List (Str×NameKind)) (acc:List (Str×Addr)),(∃c,acc.lookup x=some c)->∃c,(mt env names acc).lookup x=some c
 |[],_,h=>h
 |(n,k)::r,acc,h=>by
  refine my r _ ?_;by_cases a:k= .free
  .rw[if_pos a,Yo];cases b:x==n with
   | true=>exact%[_|rfl]
   | false=>exact h
  .rw[if_neg a];exact h
theorem mz:∀(names:List (Str×NameKind)) (acc:List (Str×Addr)),(x,NameKind.free)∈names->∃c,(mt env names acc).lookup x=some c
 |[],_,h=>by simp at h
 |(n,k)::r,acc,h=>by
  rcases mem_cons.mp h with e|h
  .refine my r _ ?_
   simp_all
  .exact mz r _ h
noncomputable def bO(X:Cx)(a:Scope)(d:ZB)(b:Shared)(c:Hp)(e:List Addr):Cx:=
 {X with
  N:=d
  s₀:=b
  H₀:=c
  env:=compEnvC a (cellsFrom (⇑b+1) a.names (mt X.env a.names [])) ⇑b X.env
  outer:=X.stack
  stack:=X.stack
  ex:=e
  fn:=λx=>decide (a.names.lookup x=some .cell)
  pn:=[]
  xe:=λ_ _=>False}
structure aB (X:Cx) (scope:Scope) (N':ZB) (cap:List (Nat×Nat)):Prop where
 kind:scope.kind= .function
 cell:∀y∈scope.names,y.2= .cell->scope.names.lookup y.1=some .cell
 loc:∀y∈scope.names,y.2= .local->scope.names.lookup y.1=some .local
 free:∀y∈scope.names,y.2= .free->X.env.kindOf y.1=some .cell\/X.env.kindOf y.1=some .free
 capt:∀p∈cap,∃x,N'[p.1]? =some x/\X.N[p.2]? =some x/\scope.names.lookup x=some .free
noncomputable def pC(n:Nat)(a:List (Nat×Nat))(b:St):St:=(List.range n).map λj=>(a.lookup j).bind λi=>(b[i]?).join
theorem kU:∀{l:List _} {j i:Nat},l.lookup j=some i->(j,i)∈l
 |[],_,_,h=>by simp at h
 |(a,b)::r,j,i,h=>by
  rw[Yo]at h;cases c:j==a with
  | true=>
    simp_all
  | false=>rw[c]at h;exact Zk _ (kU h)
theorem kW{env:Env}{names:List (Str×NameKind)}{x:Str}{k:NameKind}(h:(names.map λ(n,k)=>if(k==NameKind.free&&env.scope.kind== .function&&env.kindOf n==some .cell)then(n,NameKind.cell)else(n,k)).lookup x=some k)
 (a:k= .cell\/k= .free):(x,NameKind.free)∈names\/(x,NameKind.cell)∈names:=by
 have m:=PySem.mem_of_lookup h
 grind
theorem d8:∀names n acc,cellsFrom n names acc=cellsFrom n names [] ++acc
 |[],_,_=>rfl
 |(x,k)::r,n,acc=>by
  unfold cellsFrom
  split
  .rw[d8 r _ _,d8 r _ [(x,n)],Ze];rfl
  .exact d8 r n acc
theorem ki:∀{names:List (Str×NameKind)} {n:Nat},(x,c)∈cellsFrom n names []->(x,NameKind.cell)∈names
 |[],_,h=>nomatch h
 |(y,k)::r,n,h=>by
  unfold cellsFrom at h
  split at h
  .rw[d8]at h;rcases Xo h with q|q
   .exact Zk _ (ki q)
   grind
  .exact Zk _ (ki h)
theorem kX(h:(cellsFrom n names acc).lookup x=some c):(x,c)∈cellsFrom n names []\/((cellsFrom n names []).lookup x=none/\acc.lookup x=some c):=by
 rw[d8,List.lookup_append]at h;cases e:(cellsFrom n names []).lookup x with
 | none=>rw[e]at h;exact .inr %[rfl|h]
 | some d=>
   rw[e]at h;have:=by simpa using h
   exact this▸ .inl (PySem.mem_of_lookup e)
theorem jA{env:Env}:∀{names:List (Str×NameKind)} {x:Str},names.lookup x=some .free->
 (names.map λ(n,k)=>if(k==NameKind.free&&env.scope.kind== .function&&env.kindOf n==some .cell)then(n,NameKind.cell)else(n,k)).lookup x=some .cell\/
 (names.map λ(n,k)=>if(k==NameKind.free&&env.scope.kind== .function&&env.kindOf n==some .cell)then(n,NameKind.cell)else(n,k)).lookup x=some .free
 |[],_,h=>by simp at h
 |(n,k)::r,x,h=>by
  have c:= @jA env r x;simp only[Ys];cases a:x==n with
  | true=>
    rw[Yo,a]at h;have d:=Za h;subst d;by_cases b:((NameKind.free==NameKind.free)&&env.scope.kind== .function&&env.kindOf n==some .cell)=true
    .rw[if_pos b,Yo,a];exact .inl rfl
    .rw[if_neg b,Yo,a];exact .inr rfl
  | false=>
    rw[Yo,a]at h;by_cases b:(k==NameKind.free&&env.scope.kind== .function&&env.kindOf n==some .cell)=true
    .rw[if_pos b,Yo,a];exact(c h)
    .rw[if_neg b,Yo,a];exact(c h)
section
#version
theorem Inv.kindL(I:Inv X pins σ H s)(h:X.env.kindOf x=some .cell\/X.env.kindOf x=some .free):∃c,X.env.cells.lookup x=some c:=I.ok.has x h
theorem Inv.block{a:Scope}{C:ZB}{fp:List Addr}{f:Heap}{tk:Nat}(S:aB X a C n)(I:Inv X pins σ H s)(O:∀b∈fp,lE X pins H b)(J:∀b∈fp,b<⇑s)
 (hn:f.Ns ⇑s (λ_=>none)) (A:∀b u,s.heap.get? b=some u->f.get? b=some u) (nc:CellsOk f (⇑s+1) (cellsFrom (⇑s+1) a.names [])):
 Inv (bO X a C s H fp) [] (pC C.length n σ) H {s with heap:=f,toks:=tk}:=by
 have h:∀x c,(mt X.env a.names []).lookup x=some c->X.env.cells.lookup x=some c:=λx c e=>sP a.names [] (λy hy hk=>I.kindL (S.free y hy hk)) (λ_ _ q=>by simp at q) e
 have o:∀x c,(cellsFrom (⇑s+1) a.names (mt X.env a.names [])).lookup x=some c->((x,c)∈cellsFrom (⇑s+1) a.names []/\f.IsCell c none/\⇑s+1<=c)\/(X.env.cells.lookup x=some c/\c<⇑s):=λx c e=>by
  rcases kX e with q|⟨_,q⟩
  .exact .inl %[q|nc.empty x c q]
  .have q':=h x c q;have%[v,G,L|_]:=I.cell x c q';exact .inr %[q'|Zv L]
 refine%[%[I.ok.mod,S.kind,I.ok.glob,I.ok.blt,Zi _,λx y c h1 h2=>?_,λx hx=>?_,λx c hq e=>?_,I.ok.hd,I.ok.frames,.inl rfl,λb g=>%[?_|λx c e=>?_],I.bs,
  Yi I.ok.bsz I.sz,λb u e g=>?_,λb g Q=>?_,I.stack|I.stkFree],rfl,I.bare,Un.kept A,%[_,hn|λj x v e1 e2 e3=>?_],λx c e=>?_,I.hok.fresh (Zi _),λx c e=>?_,λp hp=>?_,I.hok.kept A|?_]
 .rcases o x c h1 with⟨q1,_,q2⟩|⟨q1,q2⟩<;> rcases o y c h2 with⟨r1,_,r2⟩|⟨r1,r2⟩
  .exact name_of_addr nc.apart q1 r1
  .exact absurd r2 (Nat.not_lt_of_le (Yi (Yh _) q2))
  .exact absurd q2 (Nat.not_lt_of_le (Yi (Yh _) r2))
  .exact I.ok.inj x y c q1 r1
 .have:(x,NameKind.free)∈a.names\/(x,NameKind.cell)∈a.names:=by
   rcases hx with q|q
   .exact kW q (.inl rfl)
   .exact kW q (.inr rfl)
  refine isSome_iff_exists.mp (cellsFrom_some a.names _ _ ?_);rcases this with q|q
  .exact .inr (isSome_iff_exists.mpr (mz a.names [] q))
  .exact .inl (S.cell _ q rfl)
 .rcases kX e with q|⟨q,_⟩
  .have:=(nc.empty x c q).2;show ⇑s<=c
   lia
  .have:=cellsFrom_some a.names (⇑s+1) [] (.inl (Zo hq));rw[q]at this;cases this
 .exact Zt (J b g)
 .rcases o x c e with⟨_,_,q⟩|⟨q,_⟩
  .exact λz=>absurd (J b g) (Nat.not_lt_of_le (Yi (Yh _) (z▸q)))
  .exact(O b g).2.2.2.2.1 x c q
 .rcases(O b g).2.2.2.1 with z|z
  .exact I.ok.noex b u e z
  .exact absurd (Zg (Zv e) (Yi I.ok.bsz z)) (Xl _)
 .rcases mem_cons.mp (I.stkSub b Q)with z|z
  .exact(O b g).2.1 z
  .exact(O b g).2.2.1 z
 ·
  have hj:∃i,n.lookup j=some i/\σ[i]? =some (some v):=by
   have t:((List.range C.length).map _)[j]? =some _:=e2;rw[Zl]at t;cases hr:(List.range C.length)[j]? with
   | none=>rw[hr]at t;cases t
   | some j'=>
     rw[hr]at t;have aa:j'=j:=by
      have:=Xn hr;have%[h1|h2]:=this;simpa using h2.symm
     subst aa;have B:((n.lookup j').bind _)=some v:=Za t;cases T:n.lookup j' with
     | none=>rw[T]at B;cases B
     | some i=>
       rw[T]at B;refine%[i,rfl|?_];have U:(σ[i]?).join=some v:=B;cases Q:σ[i]? with
       | none=>rw[Q]at U;cases U
       | some w=>rw[Q]at U;have:w=some v:=U;rw[this]
  have%[i,T|hi]:=hj;have%[y,n1,n2|Y]:=S.capt _ (kU T);have ab:=Za (n1.symm.trans e1);subst ab;have M:=S.free _ (PySem.mem_of_lookup Y) rfl;have%[m,hm|hl]:=I.loc;have%[u,r|l]:=hl i y v n2 hi (by rcases M with q|q;exact .inr (.inl q);exact .inr (.inr q));refine%[u,r|.inr %[?_|?_]]
  .exact jA Y
  .rcases l with⟨k,_⟩|⟨_,c,E,hv⟩
   .rcases M with q|q
    .rw[k]at q;cases q
    .rw[k]at q;cases q
   .have%[c'|N]:=mz a.names [] (PySem.mem_of_lookup Y);have:=h y c' N;rw[E]at this;have e5:=Za this;subst e5;have%[G,L|hd]:=hv;refine%[c,?_,G,A c G L|hd];show(cellsFrom _ _ _).lookup y=some c;rw[d8,List.lookup_append];cases e6:(cellsFrom _ a.names []).lookup y with
    | none=>simpa using N
    | some d=>
      have:=S.cell _ (ki (PySem.mem_of_lookup e6)) rfl;rw[Y]at this;cases this
 .rcases o x c e with⟨_,q,_⟩|⟨q,_⟩
  .exact%[none|q]
  .have%[v,G,L|hd]:=I.cell x c q;exact%[v,G,A c G L|hd]
 .rcases o x c e with⟨_,_,q⟩|⟨q,_⟩
  .exact I.hok.fresh ⋯
  .exact I.freeC x c q
 .exact absurd (show p∈([])from hp) ∅
 .show(pC C.length n σ).length=C.length;unfold pC;rw[Z6,Yl]
end
def PTs(X:Cx)(a:List Expr)(t:TT):Prop:=
 ∀pins s (b:St) H Q,Inv X pins b H s->t b H Q->
  (~~~X) (forIn a true λc r=>if r=true then do let ok<-isTrue c X.env (eval c X.env);pure (ForInStep.yield ok)else pure (ForInStep.yield r)) (TP X pins b Q) X.xe s
def zU:TT:=λ_ H Q=>Q true H
theorem Cm{X:Cx}:PTs X [] zU:=λ_ _ _ H _ I h=>wpAny_tests_nil %[H,I|h]
theorem Cn{X:Cx}(h:PT X c t):PTs X [c] t:=λpins s a H Q I q=>wpAny_tests_one (h pins s a H Q I q)
def pD(q:TI)(n:Nat)(f:List (Nat×Nat))(g:TG)(r:TT)(s:TE):TE:=λh H Q=>q h H λJ j=>∀D,j D=none->∃W:Nat->Nat->List V->St->Hp->Prop,
 (∃m,W 0 m [] (pC n f h) (upd j D (.lst [])))/\∀i m ys c d,W i m ys c d->(J.stop i d/\Q (.ref D) d)\/
  (J.go i d/\∀x l,J.yld i d x l->g x c l λa t=>r a t λb o=>if b=true then s a o λy p=>∃zs e,p D=some (.lst zs)/\zs.length<sizeLine/\e<m/\W (i+1) e (ys++[y]) a (upd p D (.lst (zs++[y])))
   else∃e,e<m/\W (i+1) e ys a o)
theorem Co{code:Value}
 (j:∀h',h'.Ns ⇑s (λ_=>none)->(∀b u,s.heap.get? b=some u->h'.get? b=some u)->CellsOk h' (⇑s+1) (cellsFrom (⇑s+1) a.names [])->
  Q (newEnv a ⇑s d (cellsFrom (⇑s+1) a.names f) g h code (some env) c) (s>>>h')):wpAny M A (newFunctionEnv a d f [] g h code (some env) c) Q E s:=by
 refine Z2 (wpAny_alloc (Z2 (wpAny_layCells _ (λname kind i=>by lia) _ _ _ _ ?_)));have ok:=cellsFrom_ok a.names (s.heap.push {cls:= .type "dict",data:= .dict #[]}) (⇑s+1) [] %[λ_ _ l=>(nomatch l)|List.Pairwise.nil] ∅;rw[Zq]at ok;rw[Zq ..];exact Z2 (Z3 (Z3 (j _ ((Heap.Ns.new s.heap _).keeps (pushCells_keeps _ _)) (λb u e=>pushCells_keeps _ _ b u (Z7 _ e)) ok)))
theorem pE{X:Cx}{a:Scope}(S:aB X a N' a2)(hc:X.calm=true)(hi:PI X tg b8 wi)
 (hg:∀L M A,PG (bO X a N' L M A) tg g) (ht:∀L M A,PTs (bO X a N' L M A) a3 tc) (he:∀L M A,PE (bO X a N' L M A) a4 te)
 (hs:∀x,foldedSetIterable b8 X.env x=pure x) (I:Inv X pins σ H s) (h:pD wi N'.length a2 g tc te σ H Q)
 (a5:∀(D C:Addr) (O:Hp) (s6:Shared) (fl:Flow) (m:ZC),s6.heap.Ns C m->lE X pins O C->(∀h',SameBut C s6.heap h'->Inv X pins σ O (s6>>>h'))->Q (.ref D) O->compPost (model X.prog X.w) X.A X.xe use QQ (.ref D) C (.ok fl) s6):
 (~~~X) (comprehension (.ListComp a4 [%[tg,b8,a3|0]] a pos) a X.env cd (newList []) false (eval b8 X.env) use) QQ X.xe s:=by
 refine wpAny_comprehension_free (use:=use) rfl hs (Cl (λy hy hk=>I.kindL (S.free y hy hk))) S.kind S.loc (thn (hi pins s σ H _ I h) λv s1 h1=>thn h1 λcl l h2=>?_);have%[it,A,tn,J,H2,e,I2,T,a6,f2|R]:=h2;subst e;refine wpAny_newObj_type (Co λU Y N aa=>?_);dsimp only at Y N aa ⊢;have I3:Inv X pins σ (upd H2 ⇑l (.lst [])) {l with heap:=l.heap.push {cls:= .type "list",data:= .seq ([]:ZF).toArray}}:=I2.lnew (its:=[]) (t':=l.toks) .nil (Xg _);have hD:H2 ⇑l=none:=I2.fresh;have ai:∀b∈A,b<⇑l:=λb j=>by have%[o,ho|_]:=T.obj 0 _ a6 b j;exact Zv ho
 generalize as:({l with heap:=l.heap.push {cls:= .type "list",data:= .seq ([]:ZF).toArray}}:Shared)=B at I3
 have G:B.heap=l.heap.push {cls:= .type "list",data:= .seq ([]:ZF).toArray}:=by rw[<-as]
 have a7:⇑B=⇑l+1:=by rw[G,Zq]
 have f3:∀b∈A,lE X pins (upd H2 ⇑l (.lst [])) b:=λb j=>%[(ao (Zt (ai b j)))▸(f2 b j).1|(f2 b j).2]
 have%[W,%[m0|w0]|bb]:=R _ hD;have ac:∀b u,B.heap.get? b=some u->U.get? b=some u:=G▸N;have I4:Inv (bO X a N' B (upd H2 ⇑l (.lst [])) A) [] (pC N'.length a2 σ) (upd H2 ⇑l (.lst [])) {B with heap:=U,toks:=B.toks}:=I3.block S f3 (λb j=>a7▸Yp (ai b j)) (G▸Y) ac (G▸aa);have bc:tn 0 U:=T.keep _ _ _ a6 λb j o e=>ac b o (G▸Z7 _ e)
 have co:(bO X a N' B (upd H2 ⇑l (.lst [])) A).env=compEnvC a _ ⇑B X.env:=rfl;have ag:∀{H':Hp},(∀b∈A,H' b=none)->∀b∈A,lE _ [] H' b:=λhn b j=>
  %[hn b j,(I4.ok.exf b j).1,I4.ok.exfs b j,.inl j,(I4.ok.exf b j).2|λp hp=>absurd (show p∈([]:ZE)from hp) ∅]
 have al:codeAny (model X.prog X.w) X.A (.compLoop (.ListComp a4 [%[tg,b8,a3|0]] a pos) 0 (.ref it) (.ref ⇑l) (bO X a N' B (upd H2 ⇑l (.lst [])) A).env)
  (compPost (model X.prog X.w) X.A X.xe use QQ (.ref ⇑l) ⇑B) {B with heap:=U,toks:=B.toks}:=by
  refine codeAny_loop rfl (λn s'=>∃i ys bf H',Inv _ [] bf H' s'/\tn i s'.heap/\(∀b∈A,H' b=none)/\W i n ys bf H') ?_ m0 %[0,[],_,_,I4,bc,λb j=>(f3 b j).1|w0];intro n s5 %[i,ys,ah,O,I5,bl,bm|w5];show wpAny _ X.A _ _ _ s5;refine wpAny_noted ?_;rw[compTurn_list];refine Z2 (wpAny_standAt (Z2 ?_));rcases bb i n ys ah O w5 with⟨stop,q⟩|⟨go,step⟩
  .refine thn (T.done (bO X a N' B (upd H2 ⇑l (.lst [])) A) rfl rfl rfl hc i [] s5 ah O _ I5 (ag bm) bl stop) λr s6 ⟨hr,I6⟩=>?_
   subst hr;refine Z3 ?_;have%[m6,b1|_]:=I6.loc;refine a5 ⇑l ⇑B O s6 _ m6 b1 (I2.fpOk (a7▸Yh _) I6.free) (λh' sb=>?_) q;have u6:Un (frs X.stack) A (upd H2 ⇑l (.lst [])) O B.heap s6.heap:=I6.base;have a0:∀b u,B.heap.get? b=some u->b≠⇑B:=λb u e=>Zt (Zv e)
   have u7:Un (frs X.stack) A (upd H2 ⇑l (.lst [])) O B.heap h':=%[λb u e n j hx=>(sb.2 b (a0 b u e)).trans (u6.keep b u e n j hx),λb u e n j hx=>by
    have%[sl|q]:=u6.slot b u e n j hx;exact%[sl|(sb.2 b (a0 b u e)).trans q],u6.free,λb u e hx=>by
    have%[o'|q]:=u6.there b u e hx;exact%[o'|(sb.2 b (a0 b u e)).trans q],u6.tups,u6.frzs|u6.tbls]
   have b2:HOk X.prog X.w O h':=λb u e=>by
    have bt:∀c w,O c=some w->c≠⇑B:=λc w q z=>by
     have:O ⇑B=none:=I6.free;rw[z,this]at q;cases q
    refine(I6.hok b u e).stay (λc w b3 q=>(sb.2 c ?_).trans q) (λ_ q=>q) λ_ _ q=>q
    rcases b3 with z|z
    .exact z▸bt b u e
    .exact bt c _ z
   exact I2.call' (s':=(s6>>>h')) (ch:=A) (by show s6.os=l.os;rw[I6.os,<-as];rfl) ((Un.laid (λb u e=>G▸Z7 _ e) (Zi _) hD).trans u7) b2 I6.bare λb j=>%[(f2 b j).2.2.2.1,(f2 b j).2.1,(f2 b j).2.2.2.2.1|(f2 b j).2.2.2.2.2]
  .refine thn (T.item (bO X a N' B (upd H2 ⇑l (.lst [])) A) rfl rfl rfl hc i [] s5 ah O _ I5 (ag bm) bl go) λr s6 ⟨u,hr,h6⟩=>?_
   subst hr;refine Z2 (thn h6 λ_ s7 ⟨x,H7,I7,r7,y7,a1,b4⟩=>?_);have ab:∀{α:Type} {t:Sem α} {Q1:α->Shared->Prop} {E2:ZD} {s':Shared},(~~~X) t Q1 (λ_ _=>False) s'->(~~~X) t Q1 E2 s':=λh=>wpAny_mono h (λ_ _ q=>q) λ_ _ f=>f.elim
   have an:∀{E:St} {H8:Hp} {s8:Shared},Inv (bO X a N' B (upd H2 ⇑l (.lst [])) A) ([] ++qy A s7.heap) E H8 s8->
    Inv _ [] E H8 s8/\tn (i+1) s8.heap/\∀b∈A,H8 b=none:=λ{E H8 s8} I8=>by
    refine%[I8.unpinned,T.keep _ _ _ a1 λb j o e=>(I8.pin (b,o) (Yw _ (Yw _ (eA j e)))).1|λb j=>?_];have%[o,e|d]:=T.obj _ _ a1 b j;exact(I8.pin (b,o) (Yw _ (Yw _ (eA j e)))).2.1
   refine Z2 (ab (thn (hg B _ A _ s7 ah H7 x u _ (I7.pinned (ag b4) (T.obj _ _ a1)) r7 (step x H7 y7)) λ_ s8 ⟨E,H8,I8,q8⟩=>Z2 (ab (thT (ht B _ A _ s8 E H8 _ I8 q8) λb s9 H9 I9 q9=>?_))));cases b with
   | false=>
     have%[m',hm|w9]:=(q9)
     have%[J1,J2|J3]:=an I9;exact Z3 %[rfl,m',hm,i+1,ys,E,H9,J1,J2,J3|w9]
   | true=>
     have q9:=(q9:te E H9 λy O=>∃zs m',O ⇑l=some (.lst zs)/\zs.length<sizeLine/\m'<n/\W (i+1) m' (ys++[y]) E _)
     refine Z2 (Z2 (ab (thP (he B _ A _ s9 E H9 _ I9 q9) λu2 b5 y b0 b6 b7 ⟨zs,m',hz,hl,hm,b9⟩=>Z2 (ab (thP (ph _ b5 E b0 (.ref ⇑l) [y] (.ref ⇑l) [u2] (λv H'=>v= .non/\H'=upd b0 ⇑l (.lst (zs++[y]))) b6 rfl (.cons b7 .nil) %[_,rfl,_,hz,hl,rfl|rfl]) λu3 cs v3 ct ca cM ⟨c0,cb⟩=>?_)))));subst cb;have%[J1,J2|J3]:=an ca;exact Z3 (Z3 %[rfl,m',hm,i+1,ys++[y],E,_,J1,J2,J3|b9])
 subst as;exact(codeAny_compStart_list al (T.self _ 0 _ _ _ bc al))
theorem Cp{X:Cx}(S:aB X a e f)(n:X.calm=true)(hi:PI X l b8 o)
 (p:∀b c d,PG (bO X a e b c d) l g) (r:∀b c d,PTs (bO X a e b c d) i t) (u:∀b c d,PE (bO X a e b c d) j v)
 (w:∀x,foldedSetIterable b8 X.env x=pure x):
 PE X (.ListComp j [%[l,b8,i|0]] a pos) (pD o e.length f g t v):=by
 intro pins s B H Q I h;exact pE S n hi p r u w I h λD C y E G m z _ k q=>%[m,z|λh' A=>%[.ref D,y,k h' A,rfl|q]]
noncomputable def Its(z:Str):It:=⟨λi _=>i<z.cps.size,λi H x a=>a=H/\∃c,z.cps[i]? =some c/\x= .str ⟨#[c]⟩,λi _=>z.cps.size<=i⟩
theorem vb{P:Program}{K:ZA}(it:Addr)(z:Str)(t:Tok):qx P w K tg (Its z) [it] it (λi h=>h.IsStrIter it "str_ascii_iterator" z t i) where
 mem:=by simp
 obj:=λi h st b hb=>by
  have e:=by simpa using hb
  subst e;have%[o,e,c|d]:=st;exact%[o,e|λv z=>by lia]
 keep:=λi h h' st k=>by
  have%[o,e|r]:=st;exact%[o,k it ∅ o e|r]
 item:=by
  intro X hP hw hK hc i pins s σ H E I hf st hg;have hlt:i<z.cps.size:=hg;have%[f0,f1,f2,f3,f4|f5]:=hf it ∅;refine wpAny_pyNext_ascii_item st (c:=z.cps[i]) ∅ λh' st' sb=>?_
  have%[o,e,c|d]:=id st';exact%[_,rfl|sH e c d (by decide) %[.str _,H,(I.turned (λb o hb e=>(sb.2 b hb).trans e) f0 f1 f3 f4 f5),%[_|rfl],%[rfl,_,by simp|rfl],st'|λb hb=>(hf b hb).1]]
 done:=by
  intro X hP hw hK hc i pins s σ H E I hf st hg;have hle:z.cps.size<=i:=hg;have%[f0,f1,f2,f3,f4|f5]:=hf it ∅;exact wpAny_pyNext_ascii_end (I.ok.hd hc) st (by simp[hle]) λh' eb=>%[rfl|I.turned (λb o hb e=>eb b o hb e) f0 f1 f3 f4 f5]
 self:=λ_ _ _ _ _ st h=>wpAny_pyIter_striter_ascii st h
theorem xR{P:Program}{K:ZA}(it:Addr)(z:Str)(t:Tok):qx P w K tg (Its z) [it] it (λi h=>h.IsStrIter it "str_iterator" z t i) where
 mem:=by simp
 obj:=λi h st b hb=>by
  have e:=by simpa using hb
  subst e;have%[o,e,c|d]:=st;exact%[o,e|λv z=>by rw[d]at z;cases z]
 keep:=λi h h' st k=>by
  have%[o,e|r]:=st;exact%[o,k it ∅ o e|r]
 item:=by
  intro X hP hw hK hc i pins s σ H E I hf st hg;have hlt:i<z.cps.size:=hg;have%[f0,f1,f2,f3,f4|f5]:=hf it ∅;refine wpAny_pyNext_wide_item st (c:=z.cps[i]) ∅ λh' st' sb=>?_
  have%[o,e,c|d]:=id st';exact%[_,rfl|sH e c d (by decide) %[.str _,H,(I.turned (λb o hb e=>(sb.2 b hb).trans e) f0 f1 f3 f4 f5),%[_|rfl],%[rfl,_,by simp|rfl],st'|λb hb=>(hf b hb).1]]
 done:=by
  intro X hP hw hK hc i pins s σ H E I hf st hg;have hle:z.cps.size<=i:=hg;have%[f0,f1,f2,f3,f4|f5]:=hf it ∅;exact wpAny_pyNext_wide_end (I.ok.hd hc) st (by simp[hle]) λh' eb=>%[rfl|I.turned (λb o hb e=>eb b o hb e) f0 f1 f3 f4 f5]
 self:=λ_ _ _ _ _ st h=>wpAny_pyIter_striter_wide st h
def CK(D:Addr)(n i:Nat)(Pv:Nat->List V->St->Hp->Prop)(ys:List V)(b:St)(y:V)(H:Hp):Prop:=
 ∃zs a,H D=some (.lst zs)/\zs.length<sizeLine/\a<n-i/\(a=n-(i+1)/\i+1<=n/\Pv (i+1) (ys++[y]) b (upd H D (.lst (zs++[y]))))
def CN(n i:Nat)(Pv:Nat->List V->St->Hp->Prop)(ys:List V)(b:St)(H:Hp):Prop:=∃a,a<n-i/\(a=n-(i+1)/\i+1<=n/\Pv (i+1) ys b H)
theorem CK.mk{Pv:Nat->List V->St->Hp->Prop}(hi:i<n)(a:H D=some (.lst zs))(b:zs.length<sizeLine)(p:Pv (i+1) (ys++[y]) c (upd H D (.lst (zs++[y])))):CK D n i Pv ys c y H:=
 %[zs,n-(i+1),a,b,⋯,rfl,hi|p]
theorem CN.mk{Pv:Nat->List V->St->Hp->Prop}(hi:i<n)(p:Pv (i+1) ys a H):CN n i Pv ys a H:=%[n-(i+1),⋯,rfl,hi|p]
theorem bC{J:It}{g:TG}{u:TT}{v:TE}{w:Hp->Prop}(Pv:Nat->List V->St->Hp->Prop)(z:Pv 0 [] c H)(s:∀i ys c H,i<n->Pv i ys c H->J.go i H)(d:∀ys c H,Pv n ys c H->J.stop n H)
 (A:∀i ys c H,i<n->Pv i ys c H->∀x f,J.yld i H x f->g x c f λa t=>u a t λb h=>if b=true then v a h λy r=>CK D n i Pv ys a y r else CN n i Pv ys a h) (B:∀ys c H,Pv n ys c H->w H):
 ∃W:Nat->Nat->List V->St->Hp->Prop,(∃m,W 0 m [] c H)/\∀i m ys j l,W i m ys j l->(J.stop i l/\w l)\/
  (J.go i l/\∀x f,J.yld i l x f->g x j f λa t=>u a t λb h=>if b=true then v a h λy r=>∃zs o,r D=some (.lst zs)/\zs.length<sizeLine/\o<m/\W (i+1) o (ys++[y]) a (upd r D (.lst (zs++[y])))
   else∃o,o<m/\W (i+1) o ys a h):=by
 refine%[λi m ys c H=>m=n-i/\i<=n/\Pv i ys c H,%[n,by simp,Xg _|z]|?_];intro i m ys c H %[rfl,hi|p];by_cases q:i<n
 .exact .inr %[s i ys c H q p|λx f y=>A i ys c H q p x f y]
 .have e:i=n:=by lia
  subst e;exact .inl %[d ys c H p|B ys c H p]
theorem qO:∀{bs:List Bool} {us:ZF} {i:Nat} {v:Value},aC (bs.map V.bl) us->us[i]? =some v->∃b,bs[i]? =some b/\v= .bool b
 |[],_,_,_,r,e=>by cases r;simp at e
 | b::bs,_,i,v,r,e=>by
   cases r with
   | cons a c=>
     cases(a);cases i with
     | zero=>simp at e;exact%[b,rfl|e.symm]
     | succ i=>
       have%[d,f|g]:=qO c (e);exact%[d,f|g]
theorem mB(bs:List Bool):(List.range bs.length).all (λi=>bs.getD i false)=bs.all id:=by
 have e:(List.range bs.length).map (λi=>bs.getD i false)=bs:=by
  apply Y0
  .simp
  .intro i a b
   simp_all
 have:(List.range bs.length).all (λi=>bs.getD i false)=((List.range bs.length).map λi=>bs.getD i false).all id:=by rw[all_map];rfl
 rw[this,e]
theorem zV{X:Cx}(g:X.calm=true):bX X (.builtin "all") (λxs H Q=>∃(p:Addr) (bs:List Bool),xs=[.ref p]/\SqL X.K H p (bs.map V.bl)/\Q (.bl (bs.all id)) H):=by
 intro pins s z H xs us Q I r h;have%[p,bs,rfl,j|q]:=h;have%[u,rfl|l]:=cV r;cases l;have%[its,d,pl|A]:=I.list j;have m:X.A.in1.handled=none:=I.ok.hd g;have a:bs.length=its.toArray.size:=by rw[Zp,<-d.length,Z6]
 refine call_all_walk (wpAny_pyIter_list pl.isList %[⇑s,[⇑s,p],[⇑s],its.toArray.size,_,_,λi=>bs.getD i false,rfl,Walks.list m _ p (Zt (by have%[o,n|_]:=pl.isList;exact Zv n)) its.toArray,%[%[_,Zj _ rfl,rfl|rfl]|pl.isList.push _],?_|?_])
 .intro i v s' t B w c;have%[b,f|rfl]:=qO d (by simpa using w);have e:bs.getD i false=b:=by simp_all
  have c:t (bs.getD i false) s':=c;rw[e]at c;exact wpAny_truthy_bool c
 .intro h' tk y;rw[<-a,mB];refine%[.bl _,H,I.kept λb o e=>y b o ?_ (Z7 _ e),rfl|q];have:=Zv e;intro f;exact absurd (Xp f) (Zt this)
def Cq:V->Option Int->Option Int->Hp->VK->Prop:=λx lo hi H Q=>∃z,x= .str z/\z.length<=sizeLine/\Q (.str (Txt.slice z lo hi)) H
theorem zW{X:Cx}:SlR X Cq:=by
 intro pins s m H x v n o lo hi p Q I f b pl d h;have%[z,rfl,g|q]:=h;have%[t|rfl]:=f;refine%["str",_,F.slot_str_getitem.lookup,typeIs_str _ _ _|?_];have a:∀l u,(Txt.slice z l u).length<=sizeLine:=λl u=>Yi (Txt.slice_le z _ _) g
 cases pl with
 | none=>
   cases d with
   | none=>exact wpAny_getItem_str_slice (l:=none) (u:=none) (st:=none) b rfl (post_val_or_str %[a _ _|λt' k=>%[.str (Txt.slice z _ _),H,I.tok k,%[_|rfl]|q]])
   | int j c=>exact wpAny_getItem_str_slice (l:=none) (u:=some (j,c)) (st:=none) b rfl (post_val_or_str %[a _ _|λt' k=>%[.str (Txt.slice z _ _),H,I.tok k,%[_|rfl]|q]])
 | int i e=>
   cases d with
   | none=>exact wpAny_getItem_str_slice (l:=some (i,e)) (u:=none) (st:=none) b rfl (post_val_or_str %[a _ _|λt' k=>%[.str (Txt.slice z _ _),H,I.tok k,%[_|rfl]|q]])
   | int j c=>exact wpAny_getItem_str_slice (l:=some (i,e)) (u:=some (j,c)) (st:=none) b rfl (post_val_or_str %[a _ _|λt' k=>%[.str (Txt.slice z _ _),H,I.tok k,%[_|rfl]|q]])
theorem f9:∀{ss:ZB} {us:ZF},aC (ss.map V.str) us->StrsAre us ss
 |[],_,r=>by cases r;exact .nil
 | x::ss,_,r=>by
   cases r with
   | cons a b=>
     have%[t|e]:=a;subst e;exact .cons x t (f9 b)
theorem pF:∀{ss:ZB} {us:ZF},StrsAre us ss->aC (ss.map V.str) us
 | _,_,.nil=> .nil
 | _,_,.cons x t h=> .cons %[t|rfl] (pF h)
def wD(K:ZA):V->List V->Hp->VK->Prop:=λx vs H Q=>∃z l ss,x= .str z/\vs=[.ref l]/\SqL K H l (ss.map V.str)/\(ss.map (·.length)).sum+ss.length*z.length<=16777216/\Q (.str (Txt.join z ss)) H
theorem Cr{X:Cx}:MtM X "str.join" (wD X.K):=by
 intro pins s e H x vs v us Q I a b h;have%[z,l,ss,rfl,rfl,c,hw|q]:=h;have%[t|rfl]:=a;have%[u,rfl|d]:=b.one;cases d;have%[its,r,pl|f]:=I.list c;exact PyProof.Rows.join_list pl.isList (f9 r) hw λt' k=>%[.str _,H,I.tok k,%[_|rfl]|q]
theorem zX{X:Cx}:bX X (.builtin "isinstance") (λxs H Q=>∃x n t b,xs=[x,.ty n]/\i9 X.K H x t/\kitOne X.K t (.type n)=some b/\Q (.bl b) H):=by
 intro pins s d H xs us Q I r h;have%[x,n,t,b,rfl,ty,e|q]:=h;have%[u,f,rfl,c|a]:=iT r;cases(a);exact xE I c ty e λtk=>%[.bl b,H,I.tok tk,rfl|q]
theorem pG(z:Str)(c i:Nat):Builtin.Str.subAt z ⟨#[c]⟩ i=decide (z.cps[i]? =some c):=by
 unfold Builtin.Str.subAt;have b:(⟨#[c]⟩:Str).length=1:=rfl;rw[b];by_cases hi:i<z.cps.size
 .have e:z.cps.extract i (i+1)= #[z.cps[i]]:=by
   apply Array.ext
   .simp;lia
   .intro j d a;simp at a;subst a;simp
  rw[e,Array.getElem?_eq_getElem hi];by_cases f:z.cps[i]=c
  .subst f;simp
  simp_all
 .have e:z.cps.extract i (i+1)= #[]:=by
   apply Array.ext
   .simp;lia
   .intro j d a;simp at a
  rw[e,Array.getElem?_eq_none ⋯];simp
theorem zY(z:Str)(c:Nat):(!(Builtin.Str.occurrences z ⟨#[c]⟩ 0 z.length 1).isEmpty)=decide (c∈z.cps.toList):=by
 rcases StrLaws.occ_head z _ 1 (Zi _)with⟨e,d⟩|⟨i,r,e,f,_⟩
 .rw[e];refine(Zh λg=>?_).symm;have%[j,h|l]:=List.mem_iff_getElem.mp g;have a:=by simpa using h
  refine d j %[?_|?_]
  .show j+1<=z.cps.size;lia
  .rw[pG];exact Zf (by rw[Array.getElem?_eq_getElem a];simpa using l)
 .rw[e];refine(Zf ?_).symm;have b:=f.2;rw[pG]at b;have:=Array.mem_of_getElem? (Zo b);simpa using this
section
variable{X:Cx}
abbrev Dp:R2:=λx y H Q=>∃i j,x= .str i/\y= .str j/\i.length+j.length<=sizeLine/\Q (.str (i++j)) H
abbrev zZ:R2:=λx y H Q=>rI0 (λi j=> .int (i+j)) x y H Q\/(Dp x y H Q\/ED x y H Q)
theorem Cs:OpR X (binaryOp .Add) zZ:=zt.or (uV.or EE)
abbrev Aa:R2:=λx y H Q=>rI zq (λi j=> .int (i*j)) x y H Q\/EF x y H Q
theorem Ct:OpR X (binaryOp .Mult) Aa:=zu.or EG
abbrev EK:R2:=rEq
theorem EM:OpR X (compareOp .Eq) EK:=F9
abbrev EN:R2:=rNe
theorem EO:OpR X (compareOp .NotEq) EN:=Ga
abbrev Gh:R2:=λx y H Q=>∃i j,x= .str i/\y= .str j/\Q (.bl (!(Builtin.Str.occurrences j i 0 j.length 1).isEmpty)) H
abbrev Cu(K:ZA):R2:=λx y H Q=>Gh x y H Q\/rIn K false x y H Q
theorem EQ:OpR X (compareOp .In) (Cu X.K):=xA.or xJ
abbrev Cv(K:ZA):V->Option Int->Option Int->Hp->VK->Prop:=λx lo hi H Q=>EB K x lo hi H Q\/(Eu K x lo hi H Q\/Cq x lo hi H Q)
theorem ER:SlR X (Cv X.K):=Cc.or (Ev.or zW)
def Cw(K:ZA)(c:TE):TI:=λd H R=>c d H λx b=>(∃a,x= .ref a/\(∃xs,SqL K b a xs)/\R (Itl K a) b)\/(∃a,x= .ref a/\(∃xs,SqT K b a xs)/\R (Itt K a) b)\/∃z,x= .str z/\R (Its z) b
theorem ES(n:PE X l r):PI X C l (Cw X.K r):=by
 intro pins s u H R I h;refine thP (n pins s u H _ I h) λv d x g f i w=>?_
 have c:∀b∈[⇑d],lE X pins g b:=λb y=>by
  have e:b=⇑d:=by simpa using y
  subst e;exact f.fpOk (Zi _) (f.hok.fresh (Zi _))
 rcases w with⟨a,e,⟨xs,j⟩,q⟩|⟨a,e,⟨xs,j⟩,q⟩|⟨z,e,q⟩
 .subst e;cases i;have%[its,A,p|B]:=f.list j;exact wpAny_pyIter_list p.isList %[⇑d,[⇑d],_,_,g,rfl,f.kept (t':=d.toks) λb o e=>Z7 _ e,xx a _,%[_,Zj _ rfl,rfl|rfl],c|q]
 .subst e;cases i;have%[its,A,p|B]:=f.tuple j;exact wpAny_pyIter_tuple (p) %[⇑d,[⇑d],_,_,g,rfl,f.kept λb o e=>Z7 _ e,uR a _,%[_,Zj _ rfl,rfl|rfl],c|q]
 .subst e;have%[t|rfl]:=i;cases m:z.cps.all _ with
  | true=>
    exact wpAny_pyIter_ascii m %[⇑d,[⇑d],_,_,g,rfl,f.kept λb o e=>Z7 _ e,vb _ z t,%[_,Zj _ rfl,rfl|rfl],c|q]
  | false=>
    exact wpAny_pyIter_wide m %[⇑d,[⇑d],_,_,g,rfl,f.kept λb o e=>Z7 _ e,xR _ z t,%[_,Zj _ rfl,rfl|rfl],c|q]
end
noncomputable def bV(c:Scope)(N:ZB)(a:Scope)(d:ZB)(b:List (Nat×Nat)):Bool:=
 decide (a.kind= .function)&&a.names.all (λy=>(decide (y.2≠ .cell)||decide (a.names.lookup y.1=some .cell))&&(decide (y.2≠ .local)||decide (a.names.lookup y.1=some .local))&&(decide (y.2≠ .free)||decide (c.names.lookup y.1=some .cell)||decide (c.names.lookup y.1=some .free)))&&
  b.all λp=>match d[p.1]? with
   | some x=>decide (N[p.2]? =some x)&&decide (a.names.lookup x=some .free)
   | none=>false
theorem aB.of{X:Cx}(h:bV X.env.scope X.N a g c=true):aB X a g c:=by
 unfold bV at h;rw[Zx,Zx,all_eq_true,all_eq_true]at h;have%[%[i|d]|j]:=h;refine%[Zo i,λy b f=>?_,λy b f=>?_,λy b l=>?_|λp m=>?_]
 .have:=d y b;simp only[Zx,or_eq_true,decide_eq_true_eq]at this;exact this.1.1.resolve_left λq=>q f
 .have:=d y b;simp only[Zx,or_eq_true,decide_eq_true_eq]at this;exact this.1.2.resolve_left λq=>q f
 .have:=d y b;simp only[Zx,or_eq_true,decide_eq_true_eq]at this;rcases this.2 with(q|q)|q
  .exact absurd l q
  .exact .inl q
  .exact .inr q
 .have:=j p m;cases e:g[p.1]? with
  | none=>simp_all
  | some x=>
    rw[e]at this;simp only[Zx,decide_eq_true_eq]at this;exact%[x,rfl,this.1|this.2]
structure Gv (mg:ZC) (x:Str) (v:V):Prop where
 ex:∃u,mg x=some u/\aR v u
theorem Dq{X:Cx}(g:Gv X.mg x v)(a:Gl X x)(b:(x==("__debug__":Str))=false):PE X (.Name x pos) (tC v):=by
 have%[u,h|r]:=g.ex;exact BN a h r b
structure Cal (P:Program) (w:World) (K:ZA) (mg:ZC) (base:Heap) (k:Nat) (x:Str) (ps:ZB) (sp:Sp):Prop where
 ex:∃f fd,fC P w K mg base CX0 k f fd ps sp/\mg x=some (.ref f)/\keepIn K (.ref f)=true/\cW K fd ps []
structure aG (K:ZA) (mg:ZC) (x:Str) (st:Stmt) (ps:ZB):Prop where
 ex:∃f fd,Fun K x x st f fd/\mg x=some (.ref f)/\cW K fd ps []
theorem aG.cal{P:Program}{K:ZA}{st:Stmt}(D:aG K mg x st ps)(S:ax N ps (ak st))
 (a:∀(H:Hp) (vs:List V) (Q:VK) (E:XK),sp vs H Q E->vs.length=ps.length/\∀(f:Addr) (b:Value) (A:Around) (outer:List Env) (s:Shared),bB k (A.deeper (envOfC x (ak st) ⇑s f b))->
  ∃t,PSs (eB CX0 P w K mg base N x (ak st) f b A outer s H E).nox (bA st) t/\t {nx:=λ_ c=>Q .non c,rt:=Q} (start N vs) H):Cal P w K mg base (k+1) x ps sp:=by
 have%[f,d,F,e|g]:=D.ex;exact%[f,d,F.ok S (λv H Q E h=>(a H v Q E h).1) (λb A o s H v Q E r h=>(a H v Q E h).2 f b A o s r),e,F.kp|g]
theorem ET{X:Cx}(C:Cal X.prog X.w X.K X.mg X.base j x ps sp)(g:bB k X.A)(h:Gl X x)(i:f6 CX0 X E0)(l:PA X (e::a) t)(b:j<=k)
 (c:(x==("__debug__":Str))=false) (m:starEach (e::a) X.env=(false,eval e X.env)::starEach a X.env) (d:(backTo pos (starEach a X.env)).any (·.1)=false):
 PE X (.Call (.Name x p) (e::a) [] pos) (oW sp [] E0 t):=by
 have%[f,r,F,n,o|q]:=C.ex;exact wB F (g.mono b) h n o q .nil i l c m d
theorem EU{K:ZA}{h:Heap}{st:Stmt}{kV e g d ct:Value}(X:K.In h)(G:h.Ns mainGlobals mg)
 (a:nsIn K mainGlobals x=some (some (.ref f))) (l:K.lookup f=some %[m,od,.func (fnOf x x (cA st) (bA st) (ak st) .none kV e g i d ct)|j]) (c:codeIn K d x=true) (k:keepIn K (.ref f)=true)
 (b:∀(kV e g:Value) (i:ZI) (d ct:Value) (us:ZF),us.length=ps.length->bindArgs (fnOf x x (cA st) (bA st) (ak st) .none kV e g i d ct) %[us|[]]=pure (ps.zip us)):aG K mg x st ps:=
 %[f,_,dh l c k,mg_of X G a|(dh l c k).binds b]
theorem Gi{K:ZA}{h:Heap}(X:K.In h)(G:h.Ns mainGlobals mg)(a:nsIn K mainGlobals x=some (some u))(r:aR v u):Gv mg x v:=%[u,mg_of X G a|r]
theorem aA(h:∀a:It->Hp->Prop,(∀J f,(∃W:Nat->Nat->St->Hp->Prop,(∃m,W 0 m b f)/\∀i m b H,W i m b H->
 (J.stop i H/\D.nx b H)\/(J.go i H/\∃N:St->Hp->Prop,(∀c d,N c d->∃j,j<m/\W (i+1) j c d)/\∀x d,J.yld i H x d->g x b d λe l=>n {D with nx:=N,ct:=N,bk:=D.nx} e l))->a J f)->o b H a):zo o g n D b H:=h _ λ_ _ x=>x
theorem aL(h:∀c:It->Hp->Prop,(∀J j,(∀D,j D=none->∃W:Nat->Nat->List V->St->Hp->Prop,
 (∃m,W 0 m [] (pC n l o) (upd j D (.lst [])))/\∀i m ys d e,W i m ys d e->(J.stop i e/\Q (.ref D) e)\/
  (J.go i e/\∀x p,J.yld i e x p->g x d p λa s=>t a s λb q=>if b=true then u a q λy r=>∃zs f,r D=some (.lst zs)/\zs.length<sizeLine/\f<m/\W (i+1) f (ys++[y]) a (upd r D (.lst (zs++[y])))
   else∃f,f<m/\W (i+1) f ys a q))->c J j)->v o H c):pD v n l g t u o H Q:=h _ λ_ _ x=>x
section
variable{X:Cx}{K:ZA}
theorem EV(h:X.K=K):OpR X (compareOp .In) (Cu K):=by subst h;exact EQ
theorem slK(h:X.K=K):SlR X (Cv K):=by subst h;exact ER
theorem xS(h:X.K=K):bX X (.builtin "len") (λxs H Q=>∃x n,xs=[x]/\B2 K x H n/\Q (.int n) H):=by subst h;exact zB
theorem xT(h:X.K=K)(a:X.calm=true):bX X (.builtin "all") (λxs H Q=>∃(p:Addr) (bs:List Bool),xs=[.ref p]/\SqL K H p (bs.map V.bl)/\Q (.bl (bs.all id)) H):=by subst h;exact zV a
theorem xU(h:X.K=K):bX X (.builtin "isinstance") (λxs H Q=>∃x n t b,xs=[x,.ty n]/\i9 K H x t/\kitOne K t (.type n)=some b/\Q (.bl b) H):=by subst h;exact zX
theorem vd(h:X.K=K):bX X (.type "list") (λxs H Q=>∃p ys,xs=[.ref p]/\(SqL K H p ys\/SqT K H p ys)/\∀l,H l=none->Q (.ref l) (upd H l (.lst ys))):=by subst h;exact qI
theorem Ab(h:X.K=K):MtR X "str.join" (wD K):=by subst h;exact Cr
theorem xV(h:X.K=K)(d:PE X a e)(f:∀b,isTrue a X.env b=(do let v<-b;standAt a.pos;holding [v] (truthy v))):PT X a (λg H Q=>e g H λx c=>∃k,zy K x c k/\Q k c):=by subst h;exact zA d f
theorem Cy(h:X.K=K)(a:PE X l b):PI X c l (Cw K b):=by subst h;exact ES a
variable{o e:Expr}{es:List Expr}{to:TE}{t:TA}{name:Str}{apos cpos:Pos}{T id:String}{r:V->List V->Hp->VK->Prop}
theorem Cz(h:X.K=K)(d:PlainAttrs T)(slot:Slot T name id)(c:typeOf (.builtin id)=pure (.type "method_descriptor"))(f:MtR X id r)(g:PE X o to)
 (a:attributeBase o name X.env (eval o X.env)=eval o X.env) (b:(apos.endLine==cpos.line)=true):PE X (.Call (.Attribute o name apos) [] [] cpos) (Cd K T r to):=by
 subst h;exact EC d slot c f g a b
theorem Ac(h:X.K=K)(g:PlainAttrs T)(slot:Slot T name id)(f:typeOf (.builtin id)=pure (.type "method_descriptor"))(i:MtR X id r)(j:PE X o to)(l:PA X (e::es) t)
 (b:attributeBase o name X.env (eval o X.env)=eval o X.env)
 (d:((backTo cpos (starEach (e::es) X.env)).all (λx=>!x.1)&&(backToKw cpos (keywordEach [] X.env)).all (λx=>x.1.isSome)
  && decide ((e::es).length+([]:List Keyword).length+(if([]:List Keyword).isEmpty then 0 else 1)<30))=true)
 (c:(apos.endLine==cpos.line)=true) (m:starEach (e::es) X.env=(false,eval e X.env)::starEach es X.env) (a:(backTo cpos (starEach es X.env)).any (·.1)=false):
 PE X (.Call (.Attribute o name apos) (e::es) [] cpos) (tBM K T r to t):=by
 subst h;exact Gf g slot f i j l b d c m a
end
structure ve (z TI TO i1 i2:Addr):Prop where
 TIz:TI≠z
 TOz:TO≠z
 i1z:i1≠z
 i2z:i2≠z
 TITO:TI≠TO
 TIi1:TI≠i1
 TIi2:TI≠i2
 TOi1:TO≠i1
 TOi2:TO≠i2
 i12:i1≠i2
section
#where
variable{z TI TO i1 i2:Addr}{fp1 fp2:List Addr}{n1 n2 i:Nat}{P1 P2:Nat->Value->Prop}{St1 St2:Nat->Heap->Prop}
theorem Ad{Q:ZD}(D1:Draws prog w A i1 fp1 n1 P1 St1)(D2:Draws prog w A i2 fp2 n2 P2 St2)(D:ve z TI TO i1 i2)(O:∀b∈fp1,b≠z/\b≠TO/\b≠i2)(m2:∀b∈fp2,b≠z/\b≠TO/\b≠i1)
 (T:IsZip s.heap z TI TO .none) (ab:IsPair s.heap TI (.ref i1) (.ref i2)) (ac:IsPair s.heap TO a b) (h1:St1 i s.heap) (h2:St2 i s.heap) (l1:i<n1) (l2:i<n2)
 (hQ:∀x y h' tk,P1 i x->P2 i y->IsZip h' z TI TO (rawInt ⇑s)->IsPair h' TO x y->St1 (i+1) h'->St2 (i+1) h'->IsPair h' ⇑s x y->
  (∀c o,c≠z->c≠TO->c≠i1->c≠i2->s.heap.get? c=some o->h'.get? c=some o)->Q (.ref ⇑s) {s with heap:=h',toks:=tk}):
 ↥A (Builtin.«zip.__next__» %[[.ref z]|[]]) (λag s'=>∃v,ag= .done (.ret v)/\Q v s') E s:=by
 have r:∀{k h h' c},(∀b∈fp1,b≠c)->SameBut c h h'->St1 k h->St1 k h':=λhc sb st=>D1.frame _ _ _ st λb d o e=>(sb.2 b (hc b d)).trans e
 have t:∀{k h h' c},(∀b∈fp2,b≠c)->SameBut c h h'->St2 k h->St2 k h':=λhc sb st=>D2.frame _ _ _ st λb d o e=>(sb.2 b (hc b d)).trans e
 show wpAny _ _ (field (.ref z) 2>>= _) _ _ _;refine Z2 (wpAny_field T rfl (x:= .bool false) rfl ?_);show wpAny _ _ (field (.ref z) 3>>= _) _ _ _;refine Z2 (wpAny_field T rfl (x:= .ref TI) rfl (Z2 (wpAny_seqItems ab rfl ?_)));show wpAny _ _ (Builtin.SmallTypes.ownedTupleIsFree (.ref z)>>= _) _ _ _;refine Z2 ?_;unfold Builtin.SmallTypes.ownedTupleIsFree;refine Z2 (wpAny_field T rfl (x:= .none) rfl (Z3 ?_));simp only[if_true];refine Z2 (wpAny_rule (Z2 (wpAny_field T rfl (x:= .ref TO) rfl (Z2 (wpAny_setField_rec T ∅ λg1 L n=>?_)))));replace L:IsZip g1 z TI TO .ellipsis:=L;refine Z2 ?_;simp only[List.zipIdx_cons,List.zipIdx_nil,forIn_cons,List.forIn_nil];refine Z2 (Z2 (wpAny_onRaise ?_));show wpAny _ _ (Builtin.SmallTypes.nextOf (.ref i1)>>= _) _ _ _;refine Z2 (D1.item i _ _ _ l1 (r (λb d=>(O b d).1) n h1) λx g2 ah px ai f=>Z3 ?_);replace f:SameBut i1 g1 g2:=f;have H:IsPair g2 TO a b:=(f.2 _ D.TOi1).trans ((n.2 _ D.TOz).trans ac);refine Z2 (wpAny_seqItems H rfl (Z2 (wpAny_updateSeq_pair (s:={s with heap:=g2,toks:=ah}) H λg3 p g=>?_)));replace p:IsPair g3 TO x b:=p;replace g:SameBut TO g2 g3:=g;refine Z2 (wpAny_letGo (Z3 (Z2 (Z2 (wpAny_onRaise ?_)))));show wpAny _ _ (Builtin.SmallTypes.nextOf (.ref i2)>>= _) _ _ _;refine Z2 (D2.item i _ _ _ l2 (t (λb d=>(m2 b d).2.1) g (t (λb d=>(m2 b d).2.2) f (t (λb d=>(m2 b d).1) n h2))) λy g4 u py al j=>Z3 ?_);replace j:SameBut i2 g3 g4:=j;have I:IsPair g4 TO x b:=(j.2 _ D.TOi2).trans p;refine Z2 (wpAny_seqItems I rfl (Z2 (wpAny_updateSeq_pair (s:={s with heap:=g4,toks:=u}) I λq m l=>?_)));replace m:IsPair q TO x y:=m;replace l:SameBut TO g4 q:=l;refine Z2 (wpAny_letGo (Z3 (Z3 (Z2 (wpAny_seqItems m rfl (Z2 (wpAny_newTuple ?_)))))));have U:q.objs.size=⇑s:=by rw[l.1,j.1,g.1,f.1,n.1]
 have Y:IsZip q z TI TO .ellipsis:=(l.2 _ D.TOz.symm).trans ((j.2 _ D.i2z.symm).trans ((g.2 _ D.TOz.symm).trans ((f.2 _ D.i1z.symm).trans L)));have an:∀c o,c≠z->c≠TO->c≠i1->c≠i2->s.heap.get? c=some o->q.get? c=some o:=λc o M c2 c3 c4 e=>
  (l.2 c c2).trans ((j.2 c c4).trans ((g.2 c c2).trans ((f.2 c c3).trans ((n.2 c M).trans e))))
 have J:z<q.objs.size:=Zv Y;refine Z2 (Z2 (wpAny_setField_rec (s:={s with heap:=q.push {cls:= .type "tuple",data:= .seq #[x,y]},toks:=u}) (Z7 _ Y) ∅ λg7 N B=>?_));replace N:IsZip g7 z TI TO (rawInt q.objs.size):=N;replace B:SameBut z (q.push _) g7:=B;refine wpAny_setField_rec (s:={s with heap:=g7,toks:=u}) N ∅ λg8 C G=>?_
 replace C:IsZip g8 z TI TO (rawInt q.objs.size):=C;replace G:SameBut z g7 g8:=G;have up:∀c o,c≠z->q.get? c=some o->g8.get? c=some o:=λc o M e=>(G.2 c M).trans ((B.2 c M).trans (Z7 _ e))
 have aa:=(G.2 _ (X2 J)).trans ((B.2 _ (X2 J)).trans (Zj _ rfl));rw[U]at C aa;refine Z3 %[_,rfl|?_];rw[U];exact hQ x y g8 u px py C (up _ _ D.TOz m) (D1.frame _ _ _ (r (λb d=>(O b d).2.1) l (r (λb d=>(O b d).2.2) j (r (λb d=>(O b d).2.1) g ai))) λb d o e=>up b o (O b d).1 e) (D2.frame _ _ _ (t (λb d=>(m2 b d).2.1) l al) λb d o e=>up b o (m2 b d).1 e) aa λc o M c2 c3 c4 e=>up c o M (an c o M c2 c3 c4 e)
theorem Ae(J:Draws prog w A i1 fp1 n1 P1 St1)(D2:Draws prog w A i2 fp2 n2 P2 St2)(D:ve z TI TO i1 i2)(m1:∀b∈fp1,b≠z/\b≠TO/\b≠i2)(m2:∀b∈fp2,b≠z/\b≠TO/\b≠i1)
 (y:IsZip s.heap z TI TO .none) (L:IsPair s.heap TI (.ref i1) (.ref i2)) (M:IsPair s.heap TO a b) (h1:St1 i s.heap) (h2:St2 i s.heap) (l1:i<=n1) (l2:i<=n2) (aa:i=n1\/i=n2)
 (hE:∀h' e tk,(∀c o,c≠z->c≠TO->c≠i1->c≠i2->s.heap.get? c=some o->h'.get? c=some o)->(∃o,h'.get? e=some o/\o.cls= .type "StopIteration")->E (.ref e) {s with heap:=h',toks:=tk}):
 ↥A (Builtin.«zip.__next__» %[[.ref z]|[]]) Q E s:=by
 have N:∀{k h h' c},(∀b∈fp1,b≠c)->SameBut c h h'->St1 k h->St1 k h':=λO T st=>J.frame _ _ _ st λb j o e=>(T.2 b (O b j)).trans e
 have t:∀{k h h' c},(∀b∈fp2,b≠c)->SameBut c h h'->St2 k h->St2 k h':=λO T st=>D2.frame _ _ _ st λb j o e=>(T.2 b (O b j)).trans e
 show wpAny _ _ (field (.ref z) 2>>= _) _ _ _;refine Z2 (wpAny_field y rfl (x:= .bool false) rfl ?_);show wpAny _ _ (field (.ref z) 3>>= _) _ _ _;refine Z2 (wpAny_field y rfl (x:= .ref TI) rfl (Z2 (wpAny_seqItems L rfl ?_)));show wpAny _ _ (Builtin.SmallTypes.ownedTupleIsFree (.ref z)>>= _) _ _ _;refine Z2 ?_;unfold Builtin.SmallTypes.ownedTupleIsFree;refine Z2 (wpAny_field y rfl (x:= .none) rfl (Z3 ?_));simp only[if_true];refine Z2 (wpAny_rule (Z2 (wpAny_field y rfl (x:= .ref TO) rfl (Z2 (wpAny_setField_rec y ∅ λg1 n l=>?_)))));replace n:IsZip g1 z TI TO .ellipsis:=n;refine Z2 ?_;simp only[List.zipIdx_cons,List.zipIdx_nil,forIn_cons,List.forIn_nil];refine Z2 (Z2 (wpAny_onRaise ?_));show wpAny _ _ (Builtin.SmallTypes.nextOf (.ref i1)>>= _) _ _ _;have B:St1 i g1:=N (λb j=>(m1 b j).1) l h1;by_cases c1:i<n1
 .have e2:i=n2:=by lia
  refine Z2 (J.item i _ _ _ c1 B λx g2 u px ac d=>Z3 ?_);replace d:SameBut i1 g1 g2:=d;have r:IsPair g2 TO a b:=(d.2 _ D.TOi1).trans ((l.2 _ D.TOz).trans M);refine Z2 (wpAny_seqItems r rfl (Z2 (wpAny_updateSeq_pair (s:={s with heap:=g2,toks:=u}) r λg3 ab f=>?_)));replace f:SameBut TO g2 g3:=f;refine Z2 (wpAny_letGo (Z3 (Z2 (Z2 (wpAny_onRaise ?_)))));show wpAny _ _ (Builtin.SmallTypes.nextOf (.ref i2)>>= _) _ _ _;refine Z2 (D2.done _ _ _ (e2▸t (λb j=>(m2 b j).2.1) f (t (λb j=>(m2 b j).2.2) d (t (λb j=>(m2 b j).1) l h2))) λI e p U=>?_);replace p:Heap.ExtBut i2 g3 I:=p;have%[Y,g|m]:=U;have C:IsZip I z TI TO .ellipsis:=p _ _ D.i2z.symm ((f.2 _ D.TOz.symm).trans ((d.2 _ D.i1z.symm).trans n));have v:e≠z:=λx=>by subst x;rw[C]at g;cases g;simp at m
  refine wpAny_setField_rec (s:={s with heap:=I,toks:=u}) C ∅ λg5 _ q=>?_
  replace q:SameBut z I g5:=q;exact hE g5 e u (λc o G d2 d3 d4 x=>(q.2 c G).trans (p c o d4 ((f.2 c d2).trans ((d.2 c d3).trans ((l.2 c G).trans x))))) %[Y,(q.2 e v).trans g|m]
 .have e1:i=n1:=by lia
  refine Z2 (J.done _ _ _ (e1▸B) λg2 e d U=>?_);replace d:Heap.ExtBut i1 g1 g2:=d;have%[Y,g|m]:=U;have H:=d _ _ D.i1z.symm n;have v:e≠z:=λx=>by subst x;rw[H]at g;cases g;simp at m
  refine wpAny_setField_rec (s:=(s>>>g2)) H ∅ λg3 _ f=>?_
  replace f:SameBut z g2 g3:=f;exact hE g3 e s.toks (λc o G _ d3 _ x=>(f.2 c G).trans (d c o d3 ((l.2 c G).trans x))) %[Y,(f.2 e v).trans g|m]
end
noncomputable def Itz(x y:Str):It:=⟨λi _=>i<x.cps.size/\i<y.cps.size,λi H v a=>∃c d T,x.cps[i]? =some c/\y.cps[i]? =some d/\H T=none/\v= .ref T/\a=upd H T (.tup [.str ⟨#[c]⟩,.str ⟨#[d]⟩]),
 λi _=>i<=x.cps.size/\i<=y.cps.size/\(i=x.cps.size\/i=y.cps.size)⟩
def ZSt(z TI TO c d:Addr)(e f:Nat->Heap->Prop)(i:Nat)(h:Heap):Prop:=IsZip h z TI TO .none/\IsPair h TI (.ref c) (.ref d)/\(∃a b,IsPair h TO a b)/\e i h/\f i h
theorem iH(prog:Program)(w:World)(x:Str)(t:Tok)(it:Addr):∀A,A.handled=none->
 Draws prog w A it [it] x.cps.size (λi v=>∃c u,x.cps[i]? =some c/\v= .str ⟨#[c]⟩ u) (λi h=>h.IsStrIter it (strIterType x) x t i):=by
 intro A a;unfold strIterType;cases b:x.cps.all _ with
 | true=>exact Draws.strAscii a it x t
 | false=>exact Draws.strWide a it x t
theorem Af{P:Program}{K:ZA}(z TI TO i1 i2:Addr)(x y:Str)(t u:Tok)(D:ve z TI TO i1 i2):
 qx P w K (.Tuple elts kt tp) (Itz x y) [z,TI,TO,i1,i2] z (ZSt z TI TO i1 i2 (λi h=>h.IsStrIter i1 (strIterType x) x t i) (λi h=>h.IsStrIter i2 (strIterType y) y u i)) where
 mem:=by simp
 obj:=λi h st b hb=>by
  have%[hz,hTI,%[a,c|hTO],%[o1,e1,_|d1],o2,e2,_|d2]:=st
  grind
 keep:=λi h h' st k=>by
  have%[hz,hTI,%[a,c|hTO],%[o1,e1|r1],o2,e2|r2]:=st;exact%[k z ∅ _ hz,k TI ∅ _ hTI,%[a,c|k TO ∅ _ hTO],%[o1,k i1 ∅ _ e1|r1],o2,k i2 ∅ _ e2|r2]
 item:=by
  intro X hP hw hK hc i pins s σ H E I hf st hg;subst hP hw hK;have%[hz,hTI,%[a,c|hTO],h1|h2]:=st;obtain⟨g1,g2⟩:i<x.cps.size/\i<y.cps.size:=hg;have hT:s.TypeIs (.ref z) "zip":=%[_,hz|rfl]
  have hh:X.A.in1.handled=none:=I.ok.hd hc;unfold pyNext;refine Z2 (wpAny_attempt (wpAny_callSpecial?_slot (name:=Str.ofString "__next__") hT F.slot_zip_next (wpAny_call_entry F.slot_zip_next hT F.entry_zip_next
   (Ad (iH _ _ x t i1 _ hh) (iH _ _ y u i2 _ hh) D (λb hb=>(show b=i1 by simpa using hb)▸%[D.i1z,Ne.symm D.TOi1|D.i12]) (λb hb=>(show b=i2 by simpa using hb)▸%[D.i2z,Ne.symm D.TOi2|Ne.symm D.i12]) hz hTI hTO h1 h2 g1 g2 λv1 v2 h' tk p1 p2 a1 a2 a3 a4 a5 hk=>Z3 ?_) (F.args_zip_next_1 _))))
  have%[c1,u1,e1|rfl]:=p1;have%[c2,u2,e2|rfl]:=p2;refine%[_,rfl|wpAny_letOwnedTupleGo_zip (s:={s with heap:=h',toks:=tk}) a1 λh'' hz'' sb=>?_];replace sb:SameBut z h' h'':=sb;have turn1:Inv X pins σ H {s with heap:=h'',toks:=tk}:=by
   have nit:∀b v,H b=some v->b∉[z,TI,TO,i1,i2]:=λb v e hb=>by rw[(hf b hb).1]at e;cases e
   have kk:∀b o,b∉[z,TI,TO,i1,i2]->s.heap.get? b=some o->h''.get? b=some o:=λb o hb e=>by
    simp only[Yx,X8,or_false,not_or]at hb;exact(sb.2 b hb.1).trans (hk b o hb.1 hb.2.2.1 hb.2.2.2.1 hb.2.2.2.2 e)
   refine I.step (g':=s.gens) (d':=s.drawn) (ch:=[z,TI,TO,i1,i2]) (λb hb=>%[(hf b hb).2.2.2.1,(hf b hb).2.1,(hf b hb).2.2.2.2.1|(hf b hb).2.2.2.2.2]) (λb o _ _ hc e _=>kk b o hc e) (λb o _ _ hc e _=>%[o.slots|kk b o hc e]) (λ_ _ _ _ n=>n)
    (λb o hc e=>%[o|kk b o hc e]) (λ_ _ e=>e) (λ_ _ _ e=>e) (λb ps e=>%[#[]|by rw[e];simp]) (λm hm=>?_) (λb v e=>?_) I.bare
   .have%[o,es,ep,ho|r]:=hm;exact%[o,es,ep,kk _ o (λhb=>(hf _ hb).2.1 rfl) ho|r]
   .refine(I.hok b v e).stay (λc' v' hc' q=>kk c' v' ?_ q) (λ_ q=>q) λ_ _ q=>q
    rcases hc' with q'|q'
    .exact q'▸nit b v e
    .exact nit c' _ q'
  have Hn:H ⇑s=none:=I.fresh;have I2:Inv X pins σ (upd H ⇑s (.tup [.str ⟨#[c1]⟩,.str ⟨#[c2]⟩])) {s with heap:=h'',toks:=tk}:=by
   have nf:⇑s∉X.fs:=I.nofs (Zi _);refine%[turn1.ok,turn1.os,turn1.bare,?_,turn1.loc,turn1.cell,?_,?_,?_,?_|turn1.len]
   .refine%[turn1.base.keep,turn1.base.slot,λb o e n hx=>?_,turn1.base.there,λb xs e=>?_,λb o v e=>?_|λb ps e=>?_]
    .rw[ao ((λb o e=>Zt (Zg (Zv e) I.sz)) b o e)];exact turn1.base.free b o e n hx
    .rw[ao (aw (turn1.base.tups b xs e) Hn)];exact turn1.base.tups b xs e
    .rw[ao (aw (turn1.base.frzs b o v e) Hn)];exact turn1.base.frzs b o v e
    .have%[m|q]:=turn1.base.tbls b ps e;exact%[m|(ao (aw q Hn))▸q]
   .rw[ao (Zt I.lt)];exact turn1.free
   .intro x' c' e;have%[v'|q]:=I.cell x' c' e;rw[ao (Zt q.lt)];exact turn1.freeC x' c' e
   .intro p hp;have%[e,n|r]:=turn1.pin p hp;refine%[e,?_|r];rw[ao (Zt (Zv (I.pin p hp).1))];exact n
   .intro b v e;by_cases hb:b=⇑s
    .subst hb;rw[ae]at e;cases e;exact%[by show 2<=sizeLine;decide,[.str _ u1,.str _ u2],.cons %[_|rfl] (.cons %[_|rfl] .nil),_,((sb.2 _ (X2 (Zv hz))).trans a5),rfl,_|rfl]
    .rw[ao hb]at e;refine(turn1.hok b v e).stay (λ_ _ _ q=>q) (λc' q=>?_) λc' xs q=>?_
     .rw[ao (aw q Hn)];exact q
     .rw[ao (aw q Hn)];exact q
  refine%[.ref ⇑s,_,I2,rfl,%[c1,c2,_,e1,e2,Hn,rfl|rfl],%[hz'',(sb.2 _ D.TIz).trans (hk _ _ D.TIz D.TITO D.TIi1 D.TIi2 hTI),%[_,_|(sb.2 _ D.TOz).trans a2],?_|?_]|λb hb=>?_]
  .have%[o,e|r]:=a3;exact%[o,(sb.2 _ D.i1z).trans e|r]
  .have%[o,e|r]:=a4;exact%[o,(sb.2 _ D.i2z).trans e|r]
  .have:b<⇑s:=by
    simp only[Yx,X8,or_false]at hb;have%[o1,q1|_]:=h1;have%[o2,q2|_]:=h2;rcases hb with rfl|rfl|rfl|rfl|rfl
    .exact Zv hz
    .exact Zv hTI
    .exact Zv hTO
    .exact Zv q1
    .exact Zv q2
   rw[ao (Zt this)];exact(hf b hb).1
 done:=by
  intro X hP hw hK hc i pins s σ H E I hf st hg;have%[hz,hTI,%[a,c|hTO],h1|h2]:=st;obtain⟨g1,g2,g3⟩:i<=x.cps.size/\i<=y.cps.size/\(i=x.cps.size\/i=y.cps.size):=hg;have hT:s.TypeIs (.ref z) "zip":=%[_,hz|rfl]
  have hh:=I.ok.hd hc;refine Z2 (wpAny_attempt (wpAny_callSpecial?_slot hT F.slot_zip_next (wpAny_call_entry F.slot_zip_next hT F.entry_zip_next
   (Ae (iH _ _ x t i1 _ hh) (iH _ _ y u i2 _ hh) D (λb hb=>(show b=i1 by simpa using hb)▸%[D.i1z,Ne.symm D.TOi1|D.i12]) (λb hb=>(show b=i2 by simpa using hb)▸%[D.i2z,Ne.symm D.TOi2|Ne.symm D.i12]) hz hTI hTO h1 h2 g1 g2 g3 λh' e tk hk he=>?_) (F.args_zip_next_1 _))))
  have%[o,ho|hco]:=he;refine Z2 (wpAny_isInstance %[o,ho|hco] isSubtype_stop (Z3 %[rfl|?_]));have nit:∀b v,H b=some v->b∉[z,TI,TO,i1,i2]:=λb v e hb=>by rw[(hf b hb).1]at e;cases e
  have kk:∀b o,b∉[z,TI,TO,i1,i2]->s.heap.get? b=some o->h'.get? b=some o:=λb o hb e=>by
   simp only[Yx,X8,or_false,not_or]at hb;exact hk b o hb.1 hb.2.2.1 hb.2.2.2.1 hb.2.2.2.2 e
  refine I.step (λb hb=>%[(hf b hb).2.2.2.1,(hf b hb).2.1,(hf b hb).2.2.2.2.1|(hf b hb).2.2.2.2.2]) (λb o _ _ hc e _=>kk b o hc e) (λb o _ _ hc e _=>%[o.slots|kk b o hc e]) (λ_ _ _ _ n=>n)
   (λb o hc e=>%[o|kk b o hc e]) (λ_ _ e=>e) (λ_ _ _ e=>e) (λb ps e=>%[#[]|by rw[e];simp]) (λm hm=>?_) (λb v e=>?_) I.bare
  .have%[o',es,ep,ho'|r]:=hm;exact%[o',es,ep,kk _ o' (λhb=>(hf _ hb).2.1 rfl) ho'|r]
  .refine(I.hok b v e).stay (λc' v' hc' q=>kk c' v' ?_ q) (λ_ q=>q) λ_ _ q=>q
   rcases hc' with q'|q'
   .exact q'▸nit b v e
   .exact nit c' _ q'
 self:=λ_ _ _ _ _ st h=>wpAny_pyIter_zip st.1 h
noncomputable def aW:Expr->Bool
 | .Starred _ _=>true
 | _=>false
theorem az(h:aW e=false):starEach (e::a) env=(false,eval e env)::starEach a env:=by
 cases e<;> first|rfl|cases(show true=false from h)
theorem di(h:aW e=false):assignEach (e::a) env=(false,assign e env)::assignEach a env:=by
 cases e<;> first|rfl|cases(show true=false from h)
theorem cY:∀{a:List Expr},a.any aW=false->(backTo pos (starEach a env)).any (·.1)=false
 |[],_=>rfl
 | e::a,h=>by
   rw[Zy,X9]at h;rw[az h.1];have:=cY (pos:=pos) (env:=env) h.2;cases a with
   | nil=>rfl
   | cons c b=>
     simp only[backTo]at this ⊢;simpa using this
theorem qP:∀{a:List Expr},a.any aW=false->(backTo pos (starEach a env)).all (λx=>!x.1)=true
 |[],_=>rfl
 | e::a,h=>by
   rw[Zy,X9]at h;rw[az h.1];have:=qP (pos:=pos) (env:=env) h.2;cases a with
   | nil=>rfl
   | cons c b=>
     simp only[backTo]at this ⊢;simpa using this
theorem ja:∀{a:List Expr},a.any aW=false->(assignEach a env).length=a.length/\(assignEach a env).findIdx? (·.1)=none
 |[],_=>%[rfl|rfl]
 | e::a,h=>by
   rw[Zy,X9]at h;rw[di h.1];have b:=ja (env:=env) h.2;refine%[by rw[Zr,Zr,b.1]|?_];rw[List.findIdx?_cons,b.2];rfl
noncomputable def eW:Expr->Bool
 | .ListComp _ _ _ _=>true
 | .SetComp _ _ _ _=>true
 | .DictComp _ _ _ _ _=>true
 | _=>false
theorem ig(h:eW e=false):swapsWith e t l env=pure false:=by
 cases e<;> first|rfl|cases(show true=false from h)
noncomputable def vf:Expr->Bool
 | .Tuple _ _ _=>true
 | _=>false
theorem vg(h:vf e=false):swappedStores [t] e env=pure none:=by
 cases e with
 | Tuple _ _ _=>cases(show true=false from h)
 | _=>cases t<;> rfl
noncomputable def gc:Expr->Bool
 | .Call _ _ _ _=>true
 | _=>false
theorem eX(h:gc o=false):attributeBase o a env w=w:=by
 cases o<;> first|rfl|cases(show true=false from h)
noncomputable def mC:Expr->Bool
 | .Set _ _ _=>true
 | _=>false
theorem kl(h:mC e=false)(x:Value):foldedSetIterable e env x=pure x:=by
 cases e<;> first|rfl|cases(show true=false from h)
structure QE (X:Cx) (e:Expr) (t:TE):Prop where
 h:PE X e t
structure QT (X:Cx) (e:Expr) (t:TT):Prop where
 h:PT X e t
structure QW (X:Cx) (e:Expr) (t:TT):Prop where
 h:PW X e t
structure QA (X:Cx) (es:List Expr) (t:TA):Prop where
 h:PA X es t
structure QS (X:Cx) (st:Stmt) (t:TS):Prop where
 h:PS X st t
structure QSs (X:Cx) (st:List Stmt) (t:TS):Prop where
 h:PSs X st t
structure QG (X:Cx) (e:Expr) (t:TG):Prop where
 h:PG X e t
structure QGs (X:Cx) (es:List Expr) (t:TGs):Prop where
 h:PGs X es t
structure QI (X:Cx) (tg b8:Expr) (wi:TI):Prop where
 h:PI X tg b8 wi
structure QO (X:Cx) (e:Option Expr) (t:TO):Prop where
 h:PO X e t
structure QTs (X:Cx) (ifs:List Expr) (t:TT):Prop where
 h:PTs X ifs t
structure OpQ (X:Cx) (f:Value->Value->Sem Value) (r:R2):Prop where
 h:OpR X f r
structure cr (X:Cx) (f:Value) (r:List V->Hp->VK->Prop):Prop where
 h:bX X f r
structure MtQ (X:Cx) (id:String) (r:V->List V->Hp->VK->Prop):Prop where
 h:MtR X id r
section
variable{X:Cx}{K:ZA}{pos:Pos}
theorem ay{i j}:QE X (.Constant (.int i) j pos) (tC (.int i)):=⟨DL⟩
theorem eBl{b j}:QE X (.Constant (.bool b) j pos) (tC (.bl b)):=⟨F0⟩
theorem eD{j}:QE X (.Constant .none j pos) (tC .non):=⟨DM⟩
theorem eU{x j}:QE X (.Constant (.str x) j pos) (tC (.str x)):=⟨DN⟩
theorem vn(i:Nat)(b:X.N[i]? =some x)(c:Vis X.env.scope x)(d:(x==("__debug__":Str))=false)(a:(x==("__classdict__":Str))=false):QE X (.Name x pos) (ot i):=⟨y4 b c d a⟩
theorem gvE(g:Gv X.mg x v)(a:Gl X x)(b:(x==("__debug__":Str))=false):QE X (.Name x pos) (tC v):=⟨Dq g a b⟩
theorem blE(a:Gl X x)(b:X.mg x=none)(c:bootBuiltins x=some u)(r:aR v u)(f:(x==("__name__":Str))=false)(d:(x==("__debug__":Str))=false):QE X (.Name x pos) (tC v):=
 ⟨BO a b c r (λe=>by lia) d⟩
theorem aq:QA X [] xF:=⟨Eo⟩
theorem paE(a:aW e=false)(b:QE X e c)(d:QA X f t):QA X (e::f) (zE c t):=⟨B6 b.h d.h (az a)⟩
theorem calE(C:Cal X.prog X.w X.K X.mg X.base j x ps sp)(f:bB k X.A)(g:Gl X x)(a:Nat.ble j k=true)
 (b:(x==("__debug__":Str))=false) (c:(e::d).any aW=false) (h:QA X (e::d) t):
 QE X (.Call (.Name x p) (e::d) [] pos) (oW sp [] E0 t):=by
 rw[Zy,X9]at c;exact⟨ET C f g zT h.h (Yf a) b (az c.1) (cY c.2)⟩
theorem cbE{id:String}(d:cr X (.builtin id) r)(f:Gl X x)(g:X.mg x=none)(h:bootBuiltins x=some (.builtin id))(j:(x==("__name__":Str))=false)(a:(x==("__debug__":Str))=false)
 (b:(e::c).any aW=false) (i:QA X (e::c) t):QE X (.Call (.Name x p) (e::c) [] pos) (tCB r t):=by
 rw[Zy,X9]at b;exact⟨zI d.h f g h i.h (λe=>by lia) a (az b.1) (cY b.2)⟩
theorem ctE(d:cr X (.type T) r)(f:Gl X x)(g:X.mg x=none)(h:bootBuiltins x=some (.type T))(j:(x==("__name__":Str))=false)(a:(x==("__debug__":Str))=false)
 (b:(e::c).any aW=false) (i:QA X (e::c) t):QE X (.Call (.Name x p) (e::c) [] pos) (tCB r t):=by
 rw[Zy,X9]at b;exact⟨xI d.h f g h i.h (λe=>by lia) a (az b.1) (cY b.2)⟩
theorem bmE{T id:String}(h:X.K=K)(m:PlainAttrs T)(slot:Slot T name id)(i:typeOf (.builtin id)=pure (.type "method_descriptor"))(n:MtQ X id r)
 (b:gc o=false) (a:(e::g).any aW=false) (j:Nat.blt (e::g).length 30=true) (c:(d.endLine==f.line)=true) (p:QE X o q) (s:QA X (e::g) t):
 QE X (.Call (.Attribute o name d) (e::g) [] f) (tBM K T r q t):=by
 have l:=a;rw[Zy,X9]at l;refine⟨Ac h m slot i n.h p.h s.h (eX b) ?_ c (az l.1) (cY l.2)⟩;rw[qP a];have:decide ((e::g).length+([]:List Keyword).length+(if([]:List Keyword).isEmpty then 0 else 1)<30)=true:=Zf ((Nat.blt_eq.mp j));rw[this];rfl
theorem bm0E{T id:String}(h:X.K=K)(f:PlainAttrs T)(slot:Slot T name id)(e:typeOf (.builtin id)=pure (.type "method_descriptor"))(g:MtQ X id r)
 (a:gc o=false) (b:(c.endLine==d.line)=true) (i:QE X o j):QE X (.Call (.Attribute o name c) [] [] d) (Cd K T r j):=⟨Cz h f slot e g.h i.h (eX a) b⟩
theorem iU(b:Gl X "range")(c:X.mg "range"=none)(d:aW a=false)(e:QA X [a] f):QI X g (.Call (.Name "range" p) [a] [] pos) (zk f):=⟨xy b c e.h (az d)⟩
theorem cT(h:X.K=K)(a:QE X l b):QI X c l (Cw K b):=⟨Cy h a.h⟩
section
variable{a b c:Expr}{ta tb tc:TE}{op op':CmpOp}{r r':R2}
theorem vh(e:OpQ X (compareOp op) r)(d:OpQ X (compareOp op') r')(f:lastMarks [op,op'] [b,c]=false)(g:QE X a ta)(h:QE X b tb)(i:QE X c tc):QE X (.Compare a [op,op'] [b,c] pos) (uT r r' ta tb tc):=⟨zx e.h d.h g.h h.h i.h f⟩
theorem jB(d:OpQ X (compareOp op) r)(e:behindInMarks op b=false)(f:QE X a ta)(g:QE X b tb):QE X (.Compare a [op] [b] pos) (tOp r ta tb):=⟨B0 d.h f.h g.h e⟩
theorem bd(d:OpQ X (compareOp op) r)(e:behindInMarks op b=false)(f:QE X a ta)(g:QE X b tb):QT X (.Compare a [op] [b] pos) (zw (tOp r ta tb)):=⟨B1 d.h f.h g.h e⟩
theorem opE{op:Operator}(d:OpQ X (binaryOp op) r)(e:QE X a ta)(f:QE X b tb):QE X (.BinOp a op b pos) (tOp r ta tb):=⟨F5 d.h e.h f.h⟩
theorem sQ(d:QE X a ta):QE X (.UnaryOp .USub a pos) (tUn (rU λi=> .int (-i)) ta):=⟨F6 Eg d.h⟩
theorem slE{lo hi:Option Expr}(h:X.K=K)(d:QE X a ta)(e:QO X lo f)(g:QO X hi i):QE X (.Subscript a (.Slice lo hi none j) pos) (tSl (Cv K) ta f i):=⟨sJ (slK h) d.h e.h g.h⟩
theorem noO:QO X none qB:=⟨B8⟩
theorem jC(h:QE X a ta):QO X (some a) (zK ta):=⟨B9 h.h⟩
theorem oB{op}(h:QE X a ta):QE X (.BoolOp op [a] pos) ta:=⟨DU h.h⟩
theorem mD{rest:List Expr}(d:QE X a ta)(e:QE X (.BoolOp .And (b::rest) pos) tb):QE X (.BoolOp .And (a::b::rest) pos) (y8 ta tb):=⟨DV d.h e.h⟩
theorem orV{rest:List Expr}(d:QE X a ta)(e:QE X (.BoolOp .Or (b::rest) pos) tb):QE X (.BoolOp .Or (a::b::rest) pos) (DT ta tb):=⟨F3 d.h e.h⟩
theorem cZ(h:QA X d t):QE X (.List d pos) (Er t):=⟨Et h.h⟩
theorem km{d}(h:QA X e t):QE X (.Tuple e d pos) (Ep t):=⟨Es h.h⟩
theorem mE:QE X (.Dict [] [] pos) va:=⟨zS⟩
variable{tA tB':TT}{rest:List Expr}
theorem ii(d:QT X a tA):QT X (.UnaryOp .Not a pos) (DP tA):=⟨DS d.h⟩
theorem fD(d:QT X a tA):QW X (.BoolOp .And [a] pos) tA:=⟨BQ d.h⟩
theorem jD(d:QT X a tA):QW X (.BoolOp .Or [a] pos) tA:=⟨DQ d.h⟩
theorem iP(d:QT X a tA)(e:QW X (.BoolOp .And (b::rest) pos) tB'):QW X (.BoolOp .And (a::b::rest) pos) (BP tA tB'):=⟨DR d.h e.h⟩
theorem orW(d:QT X a tA)(e:QW X (.BoolOp .Or (b::rest) pos) tB'):QW X (.BoolOp .Or (a::b::rest) pos) (tOr tA tB'):=⟨F2 d.h e.h⟩
theorem wT(h:QW X a tA):QT X a tA:=⟨PW.pt h.h⟩
theorem dS(h:X.K=K)(f:∀d,isTrue a X.env d=(do let v<-d;standAt a.pos;holding [v] (truthy v)))(g:QE X a ta):QT X a (λi H Q=>ta i H λx e=>∃k,zy K x e k/\Q k e):=⟨xV h g.h f⟩
theorem ko:QTs X [] zU:=⟨Cm⟩
theorem pH(h:QT X c tA):QTs X [c] tA:=⟨Cn h.h⟩
end
theorem eE(S:aB X c e f)(l:X.calm=true)(m:mC b8=false)(hi:QI X j b8 n)
 (o:∀a b d,QG (bO X c e a b d) j g) (p:∀a b d,QTs (bO X c e a b d) h q) (r:∀a b d,QE (bO X c e a b d) i s):
 QE X (.ListComp i [%[j,b8,h|0]] c pos) (pD n e.length f g q s):=⟨Cp S l hi.h (λa b d=>(o a b d).h) (λa b d=>(p a b d).h) (λa b d=>(r a b d).h) (kl m)⟩
theorem aY:QSs X [] za:=⟨BR⟩
theorem am{st:Stmt}{rest:List Stmt}(a:QS X st t)(b:QSs X rest u):QSs X (st::rest) (bo t u):=⟨zb a.h b.h⟩
theorem au{st:Stmt}(a:QS X st t):QSs X [st] t:=⟨BS a.h⟩
theorem ifS(d:QT X c e)(f:QSs X a t)(g:QSs X b u):QS X (.If c a b pos) (l9 e t u):=⟨F4 d.h f.h g.h⟩
theorem aM(a:QE X e b):QS X (.Return (some e) pos) (jw b):=⟨DW a.h⟩
theorem gh{st:Stmt}:QS X st zc:=⟨zd⟩
theorem c6(c:PassesOwn (model X.prog X.w) X.A X.env X.xe)(d:X.calm=true)(e:mC b8=false)(hi:QI X b b8 f)(h:QG X b g)(i:QSs X a j):
 QS X (.For b b8 a [] pos) (zo f g j):=⟨Eb c d hi.h h.h i.h (kl e)⟩
theorem vk(i:Nat)(b:X.N.Nodup)(hi:X.N[i]? =some x)(c:Loc X.env.scope x)(d:X.fn x=true\/X.env.scope.names.lookup x=some .local)(f:eW e=false)(g:QE X e h):
 QS X (.Assign [.Name x a] e pos) (qw h (iS i)):=⟨zg b hi c g.h (ig f) d⟩
theorem cf(a:eW e=false)(b:QE X e c):QS X (.Expr e pos) (jv c):=⟨BT b.h (ig a)⟩
theorem CA(c:eW e=false)(hw:vf e=false)(a:aW b=false)(d:QE X e f)(h:QG X b g):QS X (.Assign [b] e pos) (qw f g):=
 ⟨Ea d.h h.h (ig c) (vg hw) (by rw[di a];rfl)⟩
theorem wE(i:Nat)(a:X.N.Nodup)(hi:X.N[i]? =some x)(b:Loc X.env.scope x)(c:X.fn x=true\/X.env.scope.names.lookup x=some .local):QG X (.Name x pos) (iS i):=⟨BU a hi b c⟩
theorem cQ:QGs X [] DZ:=⟨BV⟩
theorem gsE(a:aW e=false)(b:QG X e t)(c:QGs X d u):QGs X (e::d) (ze t u):=⟨zf b.h c.h (by rw[di a];rfl)⟩
theorem fE(c:X.K=K)(d:X.calm=true)(b:a.any aW=false)(h:QGs X a t):QG X (.Tuple a k pos) (BW K a.length t):=by
 subst c;exact⟨D0 d h.h (ja b).1 (ja b).2⟩
theorem jb:OpQ X (binaryOp .Add) zZ:=⟨Cs⟩
theorem mG:OpQ X (binaryOp .Sub) (rI0 λi j=> .int (i-j)):=⟨Ee⟩
theorem qQ:OpQ X (binaryOp .Mult) Aa:=⟨Ct⟩
theorem bH:OpQ X (binaryOp .Mod) (rI (λ_ j=>0<j) λi j=> .int (i%j)):=⟨Ef⟩
theorem cx:OpQ X (binaryOp .FloorDiv) (rI F8 λi j=> .int (i/j)):=⟨BY⟩
theorem cy:OpQ X (compareOp .Eq) EK:=⟨EM⟩
theorem eF:OpQ X (compareOp .NotEq) EN:=⟨EO⟩
theorem vm:OpQ X (compareOp .Lt) (rI0 λi j=> .bl (decide (i<j))):=⟨Gb⟩
theorem xW:OpQ X (compareOp .LtE) (rI0 λi j=> .bl (decide (i<=j))):=⟨Gc⟩
theorem xX:OpQ X (compareOp .Gt) (rI0 λi j=> .bl (decide (j<i))):=⟨Gd⟩
theorem q_ge:OpQ X (compareOp .GtE) (rI0 λi j=> .bl (decide (j<=i))):=⟨Ge⟩
theorem sR:OpQ X (compareOp .Is) (λx y H Q=>y= .non/\Q (.bl (decide (x= .non))) H):=⟨Ei⟩
theorem jc:OpQ X (compareOp .IsNot) (λx y H Q=>y= .non/\Q (.bl (!decide (x= .non))) H):=⟨BZ⟩
theorem CB(h:X.K=K):OpQ X (compareOp .In) (Cu K):=⟨EV h⟩
abbrev wF:R2:=λx y H Q=>∃i j,x= .str i/\y= .str j/\Q (.bl (!(!(Builtin.Str.occurrences j i 0 j.length 1).isEmpty))) H
abbrev wG(K:ZA):R2:=λx y H Q=>wF x y H Q\/rIn K true x y H Q
theorem qR(h:X.K=K):OpQ X (compareOp .NotIn) (wG K):=by subst h;exact⟨qH.or qG⟩
theorem cu(h:X.K=K):cr X (.builtin "len") (λxs H Q=>∃x n,xs=[x]/\B2 K x H n/\Q (.int n) H):=⟨xS h⟩
theorem wH(h:X.K=K)(a:X.calm=true):cr X (.builtin "all") (λxs H Q=>∃(p:Addr) (bs:List Bool),xs=[.ref p]/\SqL K H p (bs.map V.bl)/\Q (.bl (bs.all id)) H):=⟨xT h a⟩
theorem Dr(a:X.calm=true):cr X (.builtin "max") (λxs H Q=>∃i j,xs=[.int i,.int j]/\Q (.int (if j>i then j else i)) H):=⟨xB a⟩
theorem Gj(a:X.calm=true):cr X (.builtin "min") (λxs H Q=>∃i j,xs=[.int i,.int j]/\Q (.int (if j<i then j else i)) H):=⟨xC a⟩
theorem iV(h:X.K=K):cr X (.builtin "isinstance") (λxs H Q=>∃x n t b,xs=[x,.ty n]/\i9 K H x t/\kitOne K t (.type n)=some b/\Q (.bl b) H):=⟨xU h⟩
theorem Dt:cr X (.type "int") (λxs H Q=>(∃i,xs=[.int i]/\Q (.int i) H)\/∃k,xs=[.bl k]/\Q (.int (if k then 1 else 0)) H):=⟨xD⟩
theorem kq(h:X.K=K):cr X (.type "list") (λxs H Q=>∃p ys,xs=[.ref p]/\(SqL K H p ys\/SqT K H p ys)/\∀l,H l=none->Q (.ref l) (upd H l (.lst ys))):=⟨vd h⟩
theorem bv:MtQ X "list.append" qJ:=⟨ph⟩
theorem sS:MtQ X "list.extend" qK:=⟨xK⟩
theorem qS(h:X.K=K):MtQ X "str.join" (wD K):=⟨Ab h⟩
end
open PySem PySem.Spec PyProof.Rows PySem.SeqAt
section
#version
variable{h':Heap}{tk:Nat}{fp:List Addr}
theorem Inv.moved(I:Inv X pins σ H s)(c:∀b∈fp,lE X pins H b)(d:∀b o,b∉fp->s.heap.get? b=some o->h'.get? b=some o):Inv X pins σ H {s with heap:=h',toks:=tk}:=by
 have f:∀b v,H b=some v->b∉fp:=λb v e a=>by rw[(c b a).1]at e;cases e
 refine I.step (λb a=>%[(c b a).2.2.2.1,(c b a).2.1,(c b a).2.2.2.2.1|(c b a).2.2.2.2.2]) (λb o _ _ g e _=>d b o g e) (λb o _ _ g e _=>%[o.slots|d b o g e]) (λ_ _ _ _ n=>n)
  (λb o g e=>%[o|d b o g e]) (λ_ _ e=>e) (λ_ _ _ e=>e) (λb ps e=>%[#[]|by rw[e];simp]) (λm l=>?_) (λb v e=>?_) I.bare
 .have%[o,p,t,u|r]:=l;exact%[o,p,t,d _ o (λa=>(c _ a).2.1 rfl) u|r]
 .refine(I.hok b v e).stay (λj w h q=>d j w ?_ q) (λ_ q=>q) λ_ _ q=>q
  rcases h with i|i
  .exact i▸f b v e
  .exact f j _ i
theorem Inv.stood(I:Inv X pins σ H s)(J:Inv X pins σ H {s with heap:=h',toks:=tk})(c:⇑s<=a)(new:ck X.prog X.w (upd H a o) h' a o):Inv X pins σ (upd H a o) {s with heap:=h',toks:=tk}:=by
 have d:=I.hok.fresh c;refine%[J.ok,J.os,J.bare,?_,J.loc,J.cell,?_,?_,?_,?_|J.len]
 .refine%[J.base.keep,J.base.slot,λb o e n j=>?_,J.base.there,λb xs e=>?_,λb o v e=>?_|λb ps e=>?_]
  .rw[ao ((λb o e=>Zt (Zg (Zg (Zv e) I.sz) c)) b o e)];exact J.base.free b o e n j
  .rw[ao (aw (J.base.tups b xs e) d)];exact J.base.tups b xs e
  .rw[ao (aw (J.base.frzs b o v e) d)];exact J.base.frzs b o v e
  .have%[m|q]:=J.base.tbls b ps e;exact%[m|(ao (aw q d))▸q]
 .rw[ao (Zt (Zg I.lt c))];exact J.free
 .intro g f e;have%[l|q]:=I.cell g f e;rw[ao (Zt (Zg q.lt c))];exact J.freeC g f e
 .intro p h;have%[e,n|r]:=J.pin p h;refine%[e,?_|r];rw[ao (Zt (Zg (Zv (I.pin p h).1) c))];exact n
 .intro b v e;by_cases i:b=a
  .subst i;rw[ae]at e;cases e;exact new
  .rw[ao i]at e;refine(J.hok b v e).stay (λ_ _ _ q=>q) (λf q=>?_) λf xs q=>?_
   .rw[ao (aw q d)];exact q
   .rw[ao (aw q d)];exact q
end
def vo:V->List V->Hp->VK->Prop:=λx vs H Q=>∃z y,x= .str z/\vs=[.str y]/\1<=y.length/\z.length+2<=sizeLine/\∀l,H l=none->Q (.ref l) (upd H l (.lst ((Txt.split z y).map V.str)))
theorem pI:∀ss k,aC (ss.map V.str) (strsFrom k ss)
 |[],_=> .nil
 | _::r,k=> .cons %[_|rfl] (pI r _)
theorem Ag{X:Cx}:MtM X "str.split" vo:=by
 intro pins s m H x vs v us Q I g i h;have%[z,y,rfl,rfl,n,o|q]:=h;have%[t|rfl]:=g;have%[p,rfl|j]:=i.one;have%[u|rfl]:=j;have b:(y.length==0)=false:=by simp;lia
 have l:=split_le z y;by_cases c:(decide (z.length<y.length)||decide (Builtin.Str.strKind z<Builtin.Str.strKind y))=true
 .have e:Txt.split z y=[z]:=if_pos c;rw[e]at q;exact call_meets F.slot_str_split (typeIs_str _ _ _) F.entry_str_split (F.args_str_split_2 _ _) (meets_str_split_cannot_occur z y t u c) %[.ref _,_,I.lnew (ys:=[.str z]) (.cons %[_|rfl] .nil) (by show 1<=sizeLine;decide),rfl|q _ I.fresh]
 .have d:=Bool.eq_false_iff.mpr c;by_cases f:(Builtin.Str.occurrences z y 0 z.length (z.length+1)).isEmpty=true
  .have e:Txt.split z y=[z]:=(if_neg c).trans (if_pos f);rw[e]at q;exact call_meets F.slot_str_split (typeIs_str _ _ _) F.entry_str_split (F.args_str_split_2 _ _) (meets_str_split_not_found z y t u d b f) %[.ref _,_,I.lnew (ys:=[.str z]) (.cons %[_|rfl] .nil) (by show 1<=sizeLine;decide),rfl|q _ I.fresh]
  .have e:Txt.split z y=Builtin.Str.partsBetween z _ y.length:=(if_neg c).trans (if_neg f);have a:(Builtin.Str.partsBetween z (Builtin.Str.occurrences z y 0 z.length (z.length+1)) y.length).length<=sizeLine:=by rw[<-e];lia
   refine call_meets F.slot_str_split (typeIs_str _ _ _) F.entry_str_split (F.args_str_split_2 _ _) (meets_str_split_sep z y t u d b (Bool.eq_false_iff.mpr f) ⋯ a) ?_;rw[<-e]at a ⊢;exact%[.ref _,_,I.lnew (pI _ _) (by rw[Z6];exact a),rfl|q _ I.fresh]
theorem CC{X:Cx}:MtQ X "str.split" vo:=⟨Ag⟩
noncomputable def Ite(K:ZA)(a:Addr)(xs:List V):It:=⟨λi H=>SqL K H a xs/\i<xs.length,λi H v b=>∃x T,xs[i]? =some x/\H T=none/\v= .ref T/\b=upd H T (.tup [.int i,x]),λi H=>SqL K H a xs/\xs.length<=i⟩
def ESt(e it a:Addr)(i:Nat)(h:Heap):Prop:=(∃b,IsEnum h e it i b)/\h.IsListIter it a i
theorem xY{P:Program}{K:ZA}(e it a:Addr)(xs:List V)(hne:e≠it):qx P w K (.Tuple elts kt tp) (Ite K a xs) [e,it] e (ESt e it a) where
 mem:=by simp
 obj:=λi h st b hb=>by
  have%[%[old|he],o1,e1,_|d1]:=st;simp only[Yx,X8,or_false]at hb;rcases hb with rfl|rfl
  .exact%[_,he|λv q=>nomatch q]
  .exact%[o1,e1|λv q=>by rw[d1]at q;cases q]
 keep:=λi h h' st k=>by
  have%[%[old|he],o1,e1|r1]:=st;exact%[%[old|k e ∅ _ he],o1,k it ∅ _ e1|r1]
 item:=by
  intro X hP hw hK hc i pins s σ H E I hf st hg;subst hP hw hK;have%[%[old|he]|hit]:=st;obtain⟨hq,hi⟩:SqL X.K H a xs/\i<xs.length:=hg;have%[its,rv,p|hz]:=I.list hq;have%[u,hu|ru]:=rv.get (i:=i) (x:=xs[i]) ∅;refine wpAny_pyNext_enum_item he hit p.isList (by simpa using hu) hne λh1 he1 hit1 ht1 hz1 hk1=>%[_,rfl|wpAny_letOwnedTupleGo_enum he1 λh2 he2 sb2=>?_]
  replace sb2:SameBut e h1 h2:=sb2;have elt:=Zv he;have kk:∀b o,b∉[e,it]->s.heap.get? b=some o->h2.get? b=some o:=λb o hb q=>by
   simp only[Yx,X8,or_false,not_or]at hb;exact(sb2.2 b hb.1).trans (hk1 b o hb.1 hb.2 q)
  have J:Inv X pins σ H {s with heap:=h2,toks:=s.toks+1}:=I.moved hf kk;have I2:Inv X pins σ (upd H ⇑s (.tup [.int i,xs[i]])) _:=
   I.stood J (Zi _) %[by show 2<=sizeLine;decide,[.int i s.toks,u],.cons %[_|rfl] (.cons ru .nil),_,((sb2.2 _ (X2 elt)).trans ht1),rfl,_|rfl]
  refine%[.ref ⇑s,_,I2,rfl,%[xs[i],_,by simp,I.fresh,rfl|rfl],%[%[u|he2]|?_]|λb hb=>?_]
  .have%[o,q|r]:=hit1;exact%[o,(sb2.2 _ (Ne.symm hne)).trans q|r]
  .have:b<⇑s:=by
    simp only[Yx,X8,or_false]at hb;rcases hb with rfl|rfl
    .exact elt
    .exact(by have%[o,q|_]:=hit;exact Zv q)
   rw[ao (Zt this)];exact(hf b hb).1
 done:=by
  intro X hP hw hK hc i pins s σ H E I hf st hg;subst hP hw hK;have%[%[old|he]|hit]:=st;obtain⟨hq,hi⟩:SqL X.K H a xs/\xs.length<=i:=hg;have%[its,rv,p|hz]:=I.list hq;have hl:=rv.length;refine wpAny_pyNext_enum_end (I.ok.hd hc) he hit p.isList (by simp;lia) λh1 xb=>%[rfl|I.moved hf λb o hb q=>?_]
  simp only[Yx,X8,or_false,not_or]at hb;exact xb b o hb.2 q
 self:=λA i s Q E st h=>by
  have%[%[old|he]|hit]:=st;exact wpAny_pyIter_enum he h
def Du(K:ZA)(c:TA):TI:=λd H R=>c d H λvs b=>∃a xs,vs=[.ref a]/\SqL K b a xs/\R (Ite K a xs) b
section
variable{X:Cx}{K:ZA}{pos:Pos}
theorem sT(m:X.K=K)(n:Gl X "enumerate")(o:X.mg "enumerate"=none)(r:aW a=false)(t:QA X [a] v):
 QI X (.Tuple g J L) (.Call (.Name "enumerate" p) [a] [] pos) (Du K v):=by
 subst m
 constructor
 intro pins s w H R I h;refine Call_ (i8 I n o boot_enumerate (PyProof.Rows.callWith_type1 (thP (t.h pos pins s w H _ I h) λus d vs y c z A=>?_) (az r) rfl));have%[l,xs,e,B|q]:=A;subst e;have%[u,rfl|C]:=cV z;cases C;have%[its,M,p|N]:=c.list B;refine call_enumerate_list p.isList λO i f E G=>wpAny_pyIter_enum i %[⇑d+1,[⇑d+1,⇑d],ESt _ ⇑d l,Ite X.K l xs,y,rfl,(c.kept G),xY _ _ _ _ (Nat.succ_ne_self _),%[%[_|i]|f],λb j=>?_|q]
 simp only[Yx,X8,or_false]at j;rcases j with rfl|rfl
 .exact c.fpOk (Yh _) (c.hok.fresh (Yh _))
 .exact c.fpOk (Zi _) (c.hok.fresh (Zi _))
end
section
variable(h:Heap)(x y:Str)(t u:Tok)
noncomputable abbrev zs1:Heap:=h.push {cls:= .type (strIterType x),data:= .fields #[.str x t,.int 0 0]}
noncomputable abbrev zs2:Heap:=(zs1 h x t).push {cls:= .type (strIterType y),data:= .fields #[.str y u,.int 0 0]}
noncomputable abbrev zs3:Heap:=(zs2 h x y t u).push {cls:= .type "tuple",data:= .seq #[.ref h.objs.size,.ref (zs1 h x t).objs.size]}
noncomputable abbrev zs4:Heap:=(zs3 h x y t u).push {cls:= .type "tuple",data:= .seq #[.none,.none]}
noncomputable abbrev zs5:Heap:=(zs4 h x y t u).push {cls:= .type "zip",data:= .fields #[.none,.bool false,.bool false,.ref (zs2 h x y t u).objs.size,.ref (zs3 h x y t u).objs.size]}
end
theorem lI(x y:Str)(t u:Tok):
 Meets (Builtin.«zip.__new__» %[[.type "zip",.str x t,.str y u]|[]]) (λ_ R s=>R (.ok (.ret (.ref (zs4 s.heap x y t u).objs.size))) (s>>>zs5 s.heap x y t u)):=
 .of_wp λprog w A R s b=>by
  have%[c,g,d,tk|os]:=s;have a:=PySem.sub_zip
  wp_walk using wpAny_pyIter_strU (x:=x) (t:=t),wpAny_pyIter_strU (x:=y) (t:=u)
  exact%[_,rfl|b]
section
#where
theorem mH
 (h:∀h',IsZip h' (⇑s+4) (⇑s+2) (⇑s+3) .none->IsPair h' (⇑s+2) (.ref ⇑s) (.ref (⇑s+1))->IsPair h' (⇑s+3) .none .none->
  h'.IsStrIter ⇑s (strIterType x) x t 0->h'.IsStrIter (⇑s+1) (strIterType y) y u 0->(∀c o,s.heap.get? c=some o->h'.get? c=some o)->Q (.ref (⇑s+4)) (s>>>h')):
 ↥A (call (.type "zip") [.str x t,.str y u]) Q E s:=by
 refine callType_new F.called_zip (by decide) (F.typeCall_zip_2 _ _) (F.newCall_zip_2 _ _) (λobj=>F.args_object_init_3 obj _ _) F.entry_zip_new (lI x y t u) ?_;have n1:(zs1 s.heap x t).objs.size=⇑s+1:=Zq ..;have a:(zs2 s.heap x y t u).objs.size=⇑s+2:=by rw[Zq,n1]
 have b:(zs3 s.heap x y t u).objs.size=⇑s+3:=by rw[Zq,a]
 have e:(zs4 s.heap x y t u).objs.size=⇑s+4:=by rw[Zq,b]
 have f:∀c o,(zs4 s.heap x y t u).get? c=some o->(zs5 s.heap x y t u).get? c=some o:=λ_ _ q=>Z7 _ q
 have g:∀c o,(zs3 s.heap x y t u).get? c=some o->(zs5 s.heap x y t u).get? c=some o:=λc o q=>f c o (Z7 _ q)
 have i:∀c o,(zs2 s.heap x y t u).get? c=some o->(zs5 s.heap x y t u).get? c=some o:=λc o q=>g c o (Z7 _ q)
 have k2:∀c o,(zs1 s.heap x t).get? c=some o->(zs5 s.heap x y t u).get? c=some o:=λc o q=>i c o (Z7 _ q)
 have k1:∀c o,s.heap.get? c=some o->(zs5 s.heap x y t u).get? c=some o:=λc o q=>k2 c o (Z7 _ q)
 have d:(zs5 s.heap x y t u).get? (zs4 s.heap x y t u).objs.size=some _:=Zj _ rfl;have j:(zs5 s.heap x y t u).get? (zs3 s.heap x y t u).objs.size=some _:=f _ _ (Zj _ rfl);have l:(zs5 s.heap x y t u).get? (zs2 s.heap x y t u).objs.size=some _:=g _ _ (Zj _ rfl);have m:=i _ _ (Zj _ rfl);show _/\_;rw[a,b,e]at d;rw[n1,a]at l;rw[b]at j;rw[n1]at m;rw[e];exact%[%[_,d|rfl]|h _ d l j %[_,(k2 _ _ (Zj _ rfl)),rfl|rfl] %[_,m,rfl|rfl] k1]
end
def Dv(a:TA):TI:=λb H R=>a b H λvs c=>∃x y,vs=[.str x,.str y]/\R (Itz x y) c
section
variable{X:Cx}{K:ZA}{pos:Pos}
theorem Dw(v:Gl X "zip")(w:X.mg "zip"=none)(z:aW a=false)(f:aW b=false)(A:QA X [a,b] B):
 QI X (.Tuple n M N) (.Call (.Name "zip" p) [a,b] [] pos) (Dv B):=by
 constructor
 intro pins s C H R I h;refine Call_ (i8 I v w boot_zip (PyProof.Rows.callWith_type1 (thP (A.h pos pins s C H _ I h) λus c vs E g G J=>?_) (az z) (by rw[az f];rfl)));have%[x,y,e|q]:=J;subst e;have%[O,Q,rfl,%[t|rfl],u|rfl]:=iT G;refine mH λT o l m hi1 hi2 L=>wpAny_pyIter_zip o ?_
 have ne:∀i j,i≠j->⇑c+i≠⇑c+j:=λi j h e=>h (Nat.add_left_cancel e)
 refine%[⇑c+4,[⇑c+4,⇑c+2,⇑c+3,⇑c+0,⇑c+1],_,Itz x y,E,rfl,(g.kept L),
  Af _ _ _ _ _ x y t u %[ne 2 4 (by decide),ne 3 4 (by decide),ne 0 4 (by decide),ne 1 4 (by decide),ne 2 3 (by decide),ne 2 0 (by decide),ne 2 1 (by decide),ne 3 0 (by decide),ne 3 1 (by decide)|ne 0 1 (by decide)],
  %[o,l,%[_,_|m],hi1|hi2],λb r=>?_|q]
 have d:⇑c<=b:=by
  simp only[Yx,X8,or_false]at r;rcases r with rfl|rfl|rfl|rfl|rfl<;> exact le_add_right _ _
 exact g.fpOk d (g.hok.fresh d)
end
inductive D where
 | non|bl (b:Bool)|int (i:Int)|str (x:Str)|lst (ds:List D)|tup (ds:List D)
section
variable{K:ZA}{H H':Hp}
theorem aj.seqT(e:aj H H')(h:SqT K H a xs):SqT K H' a xs:=by
 rcases h with(h|⟨o,h⟩)|h
 .exact .inl (.inl (e _ _ h))
 .exact .inl (.inr %[o|e _ _ h])
 .exact .inr h
end
section
#version
end
theorem vp{X:Cx}(G:X.N.Nodup)(t:X.N[i]? =some x)(J:Loc X.env.scope x)(L:X.fn x=true\/X.env.scope.names.lookup x=some .local)
 (u:swapsWith (.ListComp l [%[w,b8,p|0]] a pos) (some (.Name x A)) f.line X.env=pure true) (S:aB X a r y) (M:X.calm=true) (N:∀x,foldedSetIterable b8 X.env x=pure x) (hi:PI X w b8 O)
 (Q:∀c d j,PG (bO X a r c d j) w g) (T:∀c d j,PTs (bO X a r c d j) p U) (Y:∀c d j,PE (bO X a r c d j) l te):
 PS X (.Assign [.Name x A] (.ListComp l [%[w,b8,p|0]] a pos) f) (qw (pD O r.length y g U te) (iS i)):=by
 intro pins s σ H D I h;refine Z2 (wpAny_standAt ?_);show wpAny _ _ (swapsWith (.ListComp l _ a pos) (some (.Name x A)) f.line X.env>>= _) _ _ _;rw[u];refine Z2 (Z3 (Z2 (Z2 (pE S M hi Q T Y N I h λD' C H5 s6 fl m hn j k q=>?_))));have%[o,es,ep,B,hd|hr]:=id hn;have I7:=(k s6.heap (SameBut.refl _ _)).pinned (λb n=>(Xp n)▸j) λb n=>by
  rw[Xp n];exact%[o,B|λv z=>by lia]
 refine wpAny_assign_Name (ju I7 G t J (v:= .ref D') rfl (λs8 E=>%[m,%[o,es,ep,((E.pin _ (Yw _ (Yw _ (eA (mem_singleton.mpr rfl) B)))).1),hd|hr]|λh' sb=>Z3 (Z3 %[_,H5,(E.unpinned).moved (λb n=>(Xp n)▸j) λb o' n e=>(sb.2 b (λz=>n (mem_singleton.mpr z))).trans e|q])]) L)
theorem xZ(h:(env.blockKind== .function&&env.kindOf x==some .local&&b.line==pos.line&&!(a.names.any λ(n,k)=>n==x&&(k== .local||k== .cell)))=true):
 swapsWith (.ListComp c gens a pos) (some (.Name x b)) l env=pure true:=by
 show(pure (env.blockKind== .function&&env.kindOf x==some _&&b.line==pos.line&&!(a.names.any _)))=pure true;rw[h]
theorem jE{X:Cx}(i:Nat)(q:X.N.Nodup)(f:X.N[i]? =some x)(r:Loc X.env.scope x)(s:X.fn x=true\/X.env.scope.names.lookup x=some .local)
 (h:(X.env.blockKind== .function&&X.env.kindOf x==some .local&&t.line==pos.line&&!(c.names.any λ(n,k)=>n==x&&(k== .local||k== .cell)))=true) (S:aB X c e j) (u:X.calm=true) (v:mC b8=false) (hi:QI X o b8 w)
 (y:∀a b d,QG (bO X c e a b d) o g) (z:∀a b d,QTs (bO X c e a b d) l A) (B:∀a b d,QE (bO X c e a b d) m C):
 QS X (.Assign [.Name x t] (.ListComp m [%[o,b8,l|0]] c pos) p) (qw (pD w e.length j g A C) (iS i)):=
 ⟨vp q f r s (xZ h) S u (kl v) hi.h (λa b d=>(y a b d).h) (λa b d=>(z a b d).h) (λa b d=>(B a b d).h)⟩
section
#version
end
section
variable{X:Cx}{K:ZA}
end
theorem bP:Slot "set_iterator" "__next__" "set_iterator.__next__":=
 .of (owner:="set_iterator") (n:="__next__") (by rw[typeLookup_type,builtinLookup_eq_fast];kernel_rfl) (by decide +kernel) (by decide +kernel) (by decide +kernel) (by first|exact .inl (by decide +kernel)|exact .inr ∅) (by kernel_rfl)
theorem fF:entryFor table "set_iterator.__next__"=some Builtin.«set_iterator.__next__»:=entryFor_of_tree (by kernel_rfl)
theorem gR(a:Value):argsOk "set_iterator.__next__" %[[a]|[]]:=by kernel_rfl
theorem oC:entryFor table "set.__iter__"=some Builtin.«frozenset.__iter__»:=entryFor_alias (id':="frozenset.__iter__") (by kernel_rfl) rfl (by decide +kernel) (by kernel_rfl)
theorem oE(t:SetTable)(n:Nat):(t.orStandIn n).led=t.led:=by unfold SetTable.orStandIn;split<;> rfl
theorem vq(t:SetTable)(a:Array _)(h:Int)(x:Value):(layNew t a h x).2.1.led=t.led:=by
 unfold layNew;cases t.freeSlot h with
 | none=>rfl
 | some p=>
   exact oE _ _
theorem qT(t:SetTable)(c:Array _)(n:Nat):(relayAll t c n).2.1.led=t.led:=by
 unfold relayAll;cases a:t.relaid _ n with
 | none=>rfl
 | some p=>
   have%[t'|d]:=p;simp only
   split
   .simp only[SetTable.relaid,SetTable.laid]at a;cases b:SetTable.layClean _ _ with
    | none=>rw[b]at a;cases a
    | some f=>rw[b]at a;injection a with a;injection a with e g;rw[<-e]
   .rfl
theorem mI(t:SetTable)(c:Array _)(n:Nat)(d:t.plain=false):(relayAll t c n).2.1.plain=false:=by
 unfold relayAll;cases a:t.relaid _ n with
 | none=>rfl
 | some p=>
   have%[t'|e]:=p;simp only
   split
   .simp only[SetTable.relaid,SetTable.laid]at a;cases b:SetTable.layClean _ _ with
    | none=>rw[b]at a;cases a
    | some g=>rw[b]at a;injection a with a;injection a with f h;exact f▸d
   .rfl
noncomputable def aS(w:World):Bool:=w.params.followText "set-order"
def bh(w:World)(a:Addr)(ks:ZB)(h:Heap):Prop:=
 ∃o b c t ss,h.get? a=some o/\o.ExactSet/\o.data= .set b c t/\StrsAre (b.toList.map (·.2)) ss/\ss.Perm ks/\ks.Nodup/\(∀e∈b.toList,∃z u,e=(hashStr w z,.str z u))/\b.size<scanBound/\t.fits b.size=true/\(b.size≠0->t.plain=false)/\t.led=!aS w
theorem pJ(h:∀e∈l,∃z u,e=(hashStr w z,.str z u)):ElemsOf (aQ prog w) l:=λe a=>by
 have%[z,u|rfl]:=h e a;exact%[%[Sum.inr z,df z u|rfl]|rfl]
theorem dC:∀{vs:ZF} {ss:ZB} {z:Str},StrsAre vs ss->((∃u,Value.str z u∈vs)↔z∈ss)
 | _,_,z,.nil=>by simp
 | _,_,z,.cons x t h=>by
   have b:=dC (z:=z) h
   constructor
   .rintro⟨u,a⟩;rcases mem_cons.mp a with e|e
    .injection e with c _;exact c▸Zm
    .exact Zk _ (b.mp %[u|e])
   .intro d;rcases mem_cons.mp d with e|e
    .exact e▸%[t|Zm]
    .have%[u|a]:=b.mpr e;exact%[u|Zk _ a]
theorem ik:∀{vs ws:ZF} {ss ts:ZB},StrsAre vs ss->StrsAre ws ts->StrsAre (vs++ws) (ss++ts)
 | _,_,_,_,.nil,h=>h
 | _,_,_,_,.cons x t h,h'=> .cons x t (ik h h')
theorem bw:∀{vs:ZF} {ss:ZB},StrsAre vs ss->vs.length=ss.length
 | _,_,.nil=>rfl
 | _,_,.cons x t h=>by rw[Zr,Zr,bw h]
theorem ci(h:StrsAre vs ss)(p:ws.Perm vs):∃ts,StrsAre ws ts/\ts.Perm ss:=by
 refine%[ws.map strOf,strsAre_map ws λv a=>h.all v (p.mem_iff.mp a)|?_];have:=p.map strOf;rwa[h.strs]at this
section
#where
variable{a:Addr}
theorem bh.stored{h:Heap}{o:Obj}{i b:Array (Int×Value)}{t t':SetTable}(j:h.get? a=some o)(c:o.ExactSet)(d:o.data= .set i f t)(l:StrsAre (b.toList.map (·.2)) ss)(m:ss.Perm ks)(n:ks.Nodup)
 (p:∀e∈b.toList,∃z u,e=(hashStr w z,.str z u)) (r:b.size<scanBound) (v:t'.fits b.size=true) (y:t'.plain=false) (B:t'.led=!aS w):
 (h.update a (Obj.putSet b t')).get? a=some {o with data:= .set b (f+1) t'}/\bh w a ks (h.update a (Obj.putSet b t')):=by
 have g:=by
  have q:=get?_update_self (Obj.putSet b t') j (by rw[putSet_of b t' d];rfl);rwa[putSet_of b t' d]at q
 exact%[g,_,b,f+1,t',ss,g,c,rfl,l,m,n,p,r,v,λ_=>y|B]
theorem sU{g:Bool->Sem Unit}(N:∀(b:Bool) (h:Shared) (q:Unit->Shared->Prop),q () h->↥A (g b) q E h){m:Bool}{R:Option Bool->Shared->Prop}(r:s.heap.get? a=some o)(i:o.ExactSet)(v:o.data= .set es ep t)
 (y:StrsAre (c.toList.map (·.2)) ss) (B:ss.Perm ks) (C:ks.Nodup) (G:∀e∈c.toList,∃z u,e=(hashStr w z,.str z u)) (j:c.size<scanBound) (O:d.fits c.size=true) (H:d.plain=false) (I:d.led=!aS w)
 (J:∀h',SameBut a s.heap h'->bh w a ks h'->R (some true) (s>>>h')):
 ↥A (do
  storeSet a c d
  if(!m&&d.tooFull)=true then do
   g (relayAll d c (SetTable.grown c.size)).2.2
   storeSet a (relayAll d c (SetTable.grown c.size)).1 (relayAll d c (SetTable.grown c.size)).2.1
   pure (some true)
  else pure (some true)) R E s:=by
 have%[g1|Q]:=bh.stored r i v y B C G j O H I;have M:=SameBut.update s.heap a (Obj.putSet c d);refine Z2 (wpAny_storeSet_of r v ?_ (fits_of_scanBound j))
 split
 .have p:=relayAll_perm d c (SetTable.grown c.size);have f:=relayAll_fits d c (SetTable.grown c.size);have l:=qT d c (SetTable.grown c.size);have pl:=mI d c (SetTable.grown c.size) H
  generalize relayAll d c _=L at p f l pl ⊢
  have%[n,t3|gv]:=L;have z:n.size=c.size:=by rw[<-Zb,p.length_eq,Zb]
  have%[ts,T|U]:=ci y (p.map _);exact Z2 (N _ _ _ (Z2 (wpAny_storeSet_of g1 rfl (Z3 (J _ (M.trans (SameBut.update _ a _)) (bh.stored g1 i rfl T (U.trans B) C (λe Y=>G e (p.mem_iff.mp Y)) (by rw[z];exact j) f pl (l.trans I)).2)) (fits_of_scanBound (by rw[z];exact j)))))
 .exact Z3 (J _ M Q)
theorem jF{ks:ZB}(hS:bh w a ks s.heap)(r:ks.length+1<scanBound)
 (hQ:∀h' b,SameBut a s.heap h'->bh w a (if z∈ks then ks else ks++[z]) h'->Q b (s>>>h')):↥A (setAddHashed a (.str z tk) (hashStr w z)) Q E s:=by
 have%[o,c,ep,t,ss,C,v,G,g,hp,H,h,hb,hf,ab|d]:=hS;have hn:c.size=ks.length:=by
  have q:=bw g;rw[Z6,Zb,hp.length_eq]at q;exact q
 have hE:ElemsOf (aQ prog w) c.toList:=pJ h;have I:(aQ prog w).is (Sum.inr z) (.str z tk)=true:=df z tk;unfold setAddHashed setAddHashedIn;refine wpAny_holding (Z2 (wpAny_setState_of C G hf ?_));dsimp only;rw[byScan_of (knd:=aQ prog w) rfl hb hE];simp only[↓reduceIte];unfold setAddByScan;refine Z2 (Z2 (wpAny_rule (Z2 (wpAny_setScan_of I C G hf hE ?_))));have J:(∃e∈c.toList,(aQ prog w).is (Sum.inr z) e.2=true)↔z∈ks:=by
  rw[<-hp.mem_iff,<-dC g]
  constructor
  .rintro⟨e,l,q⟩;have%[y,u|rfl]:=h e l;have q:jt (Sum.inr z) (Value.str y u)=true:=q;rcases bi q with⟨i,t',q1,m⟩|⟨y',t',q1,m⟩
   .cases m
   .cases q1;exact%[u|Xr ⟨_,l,by injection m with e1 _;rw[e1]⟩]
  .rintro⟨u,hu⟩;have%[e,l|q]:=Xq hu;exact%[e,l|q▸df z u]
 cases hr:List.findIdx? _ c.toList with
 | some j=>
   have%[hj,ac|_]:=List.findIdx?_eq_some_iff_getElem.mp hr;have hz:=J.mp %[c.toList[j],Yd hj|ac];have q:=hQ s.heap false (SameBut.refl a s.heap) ((if_pos hz)▸%[o,c,ep,t,ss,C,v,G,g,hp,H,h,hb,hf,ab|d]);exact Z3 (Z3 q)
 | none=>
   have hz:z∉ks:=λq=>by
    have%[e,l|m]:=J.mpr q;have:=List.findIdx?_eq_none_iff.mp hr e l;rw[m]at this;cases this
   rw[if_neg hz]at hQ;have M:=layNew_perm t c (hashStr w z) (.str z tk);have lf:=layNew_fits t c (hashStr w z) (.str z tk);have ll:=vq t c (hashStr w z) (.str z tk)
   generalize hL:layNew t c _ _=L at M lf ll
   have%[B,t1,ai|ah]:=L;rw[toList_push]at M;have gone:∀b f Q',Q' () f->↥A (match b with|true=>rule "set.scan.the-table-gave-way"|false=>pure ()) Q' E f:=λb f Q' q=>by
    cases b
    .exact Z3 q
    .exact wpAny_rule q
   have n:∀e∈B.toList,∃z u,e=(hashStr w z,.str z u):=λe l=>by
    rcases Xo (M.mem_iff.mp l)with q|q
    .exact h e q
    .rw[Xp q];exact%[z,tk|rfl]
   have q1:StrsAre ((c.toList++[(hashStr w z,Value.str z tk)]).map (·.2)) (ss++[z]):=by
    rw[Zd];exact ik g (.cons z tk .nil)
   have%[ts,m|q3]:=ci q1 (M.map _);have N:=q3.trans (hp.append_right _);have p:=lS H hz;have ag:B.size=c.size+1:=by rw[<-Zb,M.length_eq,Z9,Zb];rfl
   have O:B.size<scanBound:=by rw[ag,hn];exact r
   have T:∀h',SameBut a s.heap h'->bh w a _ h'->↥A _ Q E _:=λh' U Y=>Z3 (hQ h' true U Y)
   refine Z2 (gone _ _ _ ?_);cases aa:t1.plain with
   | true=>
     exact Z2 (Z3 (sU gone C v G m N p n O (SetTable.fits_plain_off lf) rfl (ll.trans d) λh' U Y=>T h' U Y))
   | false=>
     exact sU gone C v G m N p n O lf aa (ll.trans d) λh' U Y=>T h' U Y
theorem sV(d:bh w a ks s.heap)(c:ks.length+1<scanBound)
 (e:∀h' b,SameBut a s.heap h'->bh w a (if z∈ks then ks else ks++[z]) h'->Q b {s with heap:=h',toks:=s.toks+1}):↥A (setAdd a (.str z tk)) Q E s:=by
 exact wpAny_holding (Z2 (wpAny_pyHash_str (jF d c e)))
end
noncomputable def lJ(ks:ZB)(z:Str):ZB:=if z∈ks then ks else ks++[z]
noncomputable def aK(ss:ZB):ZB:=ss.foldl lJ []
theorem Ah(ks:ZB)(z:Str):(lJ ks z).length<=ks.length+1:=by
 unfold lJ;split
 .lia
 .exact Z9▸Zi _
theorem Ai:y∈lJ ks z↔y∈ks\/y=z:=by
 unfold lJ;by_cases h:z∈ks
 .rw[if_pos h]
  simp_all
 .rw[if_neg h,Yu,mem_singleton]
theorem vt(h:ks.Nodup):(lJ ks z).Nodup:=by
 unfold lJ;by_cases a:z∈ks
 .rw[if_pos a];exact h
 .rw[if_neg a];exact lS h a
theorem sW:∀{ss ks:ZB} {y:Str},y∈ss.foldl lJ ks↔y∈ks\/y∈ss
 |[],ks,y=>by simp
 | z::r,ks,y=>by
   rw[Y8,sW,Ai,Yx]
   grind
theorem mJ:∀{ss ks:ZB},ks.Nodup->(ss.foldl lJ ks).Nodup
 |[],_,h=>h
 | z::r,ks,h=>by
   rw[Y8];exact mJ (vt h)
theorem br:y∈aK ss↔y∈ss:=by unfold aK;rw[sW];simp
theorem eG(ss:ZB):(aK ss).Nodup:=mJ X6
theorem sX:∀(ss ks:ZB),(ss.foldl lJ ks).length<=ks.length+ss.length
 |[],ks=>by simp
 | z::r,ks=>by
   have a:=sX r (lJ ks z);have b:=Ah ks z;rw[Y8,Zr]
   lia
theorem bh.keep(S:bh w a ks h)(k:∀o,h.get? a=some o->h'.get? a=some o):bh w a ks h':=by
 have%[o,b,c,t,ss,d|r]:=S;exact%[o,b,c,t,ss,k o d|r]
theorem sY(val:Nat->Str)(i:Nat):aK ((List.range (i+1)).map val)=lJ (aK ((List.range i).map val)) (val i):=by
 unfold aK;rw[Xb,Zd,List.foldl_append];rfl
section
variable{prog:Program}{w:World}{A:Around}{R:Result->Shared->Prop}{I:Addr}{fp wr:List Addr}{G:Array GenState->Array GenState->Prop}{n:Nat}{P:Nat->Value->Prop}{St:Nat->Shared->Prop}
theorem oF(W:WalksS prog w A.in1 I fp wr G n P St)(S:Addr)(d:S∉fp)(val:Nat->Str)(f:∀i v,P i v->∃t,v= .str (val i) t)(c:n+1<scanBound):
 ∀(k i:Nat) (s:Shared),n-i=k->i<=n->St i s->bh w S (aK ((List.range i).map val)) s.heap->
  (∀s',Moved (S::wr) G s s'->bh w S (aK ((List.range n).map val)) s'.heap->R (.ok (.ret .none)) s')->codeAny (model prog w) A (.builtin "set.update.loop" %[[.ref S,.ref I]|[]]) R s:=by
 have out:S∉wr:=λh=>d (W.sub _ h)
 have more:∀b∈wr,b∈S::wr:=λb c=>Zk _ c
 intro k
 induction k with
 | zero=>
   intro i s y hi st l a;have e:i=n:=by lia
   subst e;refine codeAny_builtin F.entry_set_update_loop ?_;rw[Around.under_plainId F.plain_set_update_loop _];show wpAny _ A.in1 (pyNext (.ref I)>>= _) _ _ s;refine Z2 (W.done s _ _ st λg j=>?_);show wpAny _ A.in1 (ret Value.none) _ _ g;exact Z3 (a g (j.mono more) (l.keep λo e=>j.heap S o out e))
 | succ k z=>
   intro i s y hi st l a;have lt:i<n:=by lia
   refine codeAny_builtin F.entry_set_update_loop ?_;rw[Around.under_plainId F.plain_set_update_loop _];show wpAny _ A.in1 (pyNext (.ref I)>>= _) _ _ s;refine Z2 (W.item i s _ _ lt st λv g pv m j=>?_);have%[t|rfl]:=f i v pv;have room:(aK ((List.range i).map val)).length+1<scanBound:=by
    have q:=sX ((List.range i).map val) [];rw[Z6,Yl]at q;unfold aK;simp only[length_nil,zero_add]at q
    lia
   refine Z2 (wpAny_holding (sV (l.keep (h':=g.heap) λo e=>j.heap S o out e) room λE b u p=>Z3 %[plainId_quiet F.plain_set_update_loop _|z (i+1) _ ⋯ lt (W.frame _ g _ _ m (Yh _) λb c o e=>?_) (by rw[sY];exact p) λB C r=>?_]))
   .rw[u.2 b (λq:b=S=>d (q▸c))];exact e
   .refine a B (Moved.trans W.gtrans ((j.mono more).then_heap (Yh _) λb o c e=>?_) C) r;rw[u.2 b (λq:b=S=>c (q▸Zm))];exact e
end
section
#where
noncomputable abbrev aT(w:World):Obj:={cls:= .type "set",dict:=none,data:= .set #[] 0 (.fresh 0 0 (!aS w))}
theorem sZ(a:Value)(h:Q₁ (.ref ⇑s) (s>>>s.heap.push (aT w))):
 codeAny (model prog w) A (.call (.builtin "set.__new__") %[[.type "set",a]|[]]) (wants Q₁ E) s:=by
 refine codeAny_of_tree ?_;show wpAny _ A.in1 _ _ _ s;refine Z2 (wpAny_of_eq (PySem.F.newCall_set_1 a) (Z3 %[plainId_quiet PySem.F.plain_set_new _|codeAny_builtin PySem.F.entry_set_new ?_]));unfold Builtin.«set.__new__» Builtin.Frozenset.newClass;have b:=sub_set_self;have%[c,g,d,tk|os]:=s;dsimp only
 wp_walk
 refine wpAny_askSetting (Z3 ?_);dsimp only;simp only[newObj];exact Z2 (wpAny_alloc (Z3 (Z3 h)))
theorem bh.empty(e:h.get? a=some (aT w)):bh w a [] h:=
 %[_,#[],0,_,[],e,%[rfl,rfl|rfl],rfl,.nil,.nil,X6,λe b=>by simp at b,by decide,rfl,λq=>absurd rfl q|rfl]
theorem tf:∀{vs:ZF} {ss:ZB},StrsAre vs ss->∀(i:Nat) v,vs[i]? =some v->∃t,v= .str (ss.getD i (Str.ofString "")) t
 | _,_,.nil,i,v,h=>by simp at h
 | _,_,.cons x t a,0,v,h=>by simp at h;exact%[t|by rw[<-h];rfl]
 | _,_,.cons x t a,i+1,v,h=>by
   have%[u|e]:=tf a i v (h);exact%[u|by rw[e];rfl]
theorem vv(ss:ZB):(List.range ss.length).map (λi=>ss.getD i (Str.ofString ""))=ss:=by
 apply Y0
 .simp
 .intro i a b
  simp_all
theorem oG(hh:A.handled=none)(hl:s.heap.IsList l a)(hi:StrsAre a.toList ss)(hb:a.size+1<scanBound)
 (hQ:∀(h':Heap) (tk:Nat),bh w ⇑s (aK ss) h'->(∀b o,s.heap.get? b=some o->h'.get? b=some o)->Q (.ref ⇑s) {s with heap:=h',toks:=tk}):
 ↥A (call (.type "set") [.ref l]) Q E s:=by
 have%[c,tl|T]:=called_set.mro;have B:=called_set.made;have U:=called_set.sub;refine wpAny_call (codeAny_of_tree ?_);show wpAny _ _ (callAny (.type "set") _) _ _ _;refine Z3 %[Code.quiet_builtin _ (by decide +kernel)|codeAny_builtin F.entry_type_call ?_];rw[Around.under_plain (weight_type_call_type "set" [.ref l] []) rfl];have ab:=called_set.notType;have ac:=called_set.canCreate;have ag:=PySem.F.typeCall_set_1 (.ref l)
 repeat any_goals first|assumption|wp_step
 refine codeAny_mono (sZ (.ref l) (E:=E) (Q₁:=λobj g=>obj= .ref ⇑s/\g=(s>>>s.heap.push (aT w))) %[rfl|rfl]) λr g C=>?_
 cases r with
 | error e=>exact C
 | ok fl=>
   cases fl with
   | ret obj=>
     have%[rfl|rfl]:=C;have Y:(s.heap.push (aT w)).get? ⇑s=some (aT w):=Zj _ rfl;have tS:Shared.TypeIs (s>>>s.heap.push (aT w)) (.ref ⇑s) "set":=%[_,Y|rfl]
     have ah:=called_set.init.lookup;have ai:=called_set.init.bind (.ref ⇑s)
     repeat any_goals first|assumption|wp_step
     refine codeAny_mono (codeAny_call_builtin (R:=wants (λr h=>r= .none/\∃h' tk,h={s with heap:=h',toks:=tk}/\bh w ⇑s (aK ss) h'/\(∀b o,s.heap.get? b=some o->h'.get? b=some o)) E) called_set.init.plain F.entry_set_init (check_set_init_1 tS ?_)) λn h d=>?_
     .have%[ol,gl,cl,nl|dl]:=hl;have%[aa,j,G|f]:=ol;simp only at cl dl;subst cl;subst dl;have H:(s.heap.push (aT w)).get? l=some {cls:= .type "list",dict:=j,data:= .seq a nl,slots:=f}:=Z7 _ gl;have al:=PySem.F.sub_list_set;have an:=PySem.F.sub_list_frozenset;have as:(Value.type "list"==Value.type "dict")=false:=by decide
      have p:(s.heap.push (aT w)).IsList l a:=%[_,H,rfl,nl|rfl]
      unfold Builtin.«set.__init__»;unfold noKeywords;unfold Builtin.Frozenset.updateFrom
      generalize I:pyIter=PI
      wp_walk
      subst I;refine wpAny_pyIter_list p (Z2 (wpAny_runValue ?_));have q:l<⇑s:=Zv gl;have h3:A.in1.in1.in1.handled=none:=by simp[hh]
      have J:(s.heap.push (aT w)).objs.size=⇑s+1:=Zq ..;have L:l≠(s.heap.push (aT w)).objs.size:=by rw[J];exact Zt (Yp q)
      have M:⇑s∉[(s.heap.push (aT w)).objs.size,l]:=by
       rw[J];simp only[Yx,X8,or_false,not_or];exact%[Zt (Yq _)|X2 q]
      have t:a.size=ss.length:=by rw[<-Zb];exact bw hi
      refine oF ((Walks.list h3 _ l L a).toS) ⇑s M (λi=>ss.getD i (Str.ofString "")) (λi v hv=>tf hi i v (by rw[getElem?_toList];exact hv)) hb (a.size-0) 0 _ ⋯ (Xg _)
       %[%[_,Zj _ rfl,rfl|rfl]|p.push _] (bh.empty (Z7 _ Y)) ?_
      intro s3 y z;rw[t,vv]at z;have%[h',g',d',N|O]:=s3;have eg:g'=s.gens:=y.gens;have ed:d'=s.drawn:=y.drawn;have eo:O=s.os:=y.os;subst eg;subst ed;subst eo;refine Z3 ?_;show wpAny _ _ (ret Value.none) _ _ _;refine Z3 %[rfl,h',N,rfl,z|λb o e=>?_];have u:=Zv e;refine y.heap b o ?_ (Z7 _ (Z7 _ e));simp only[Yx,X8,or_false,not_or,J];exact%[Zt u|Zt (Yp u)]
     .cases n with
      | error e=>exact d
      | ok m=>
        cases m with
        | ret r=>
          have%[rfl,h',tk,rfl,z|k3]:=d
          repeat any_goals first|assumption|wp_step
          exact hQ _ _ z k3
        | _=>exact d.elim
   | _=>exact C.elim
end
section
variable{X:Cx}{K:ZA}
noncomputable def jd(w:World)(a:Addr)(ks:ZB):HO:= .ext (bh w a ks)
theorem Aj(b:X.calm=true):bX X (.type "set") (λxs H Q=>∃p ss,xs=[.ref p]/\SqL X.K H p (ss.map V.str)/\ss.length<=4000/\∀l,H l=none->Q (.ref l) (upd H l (jd X.w l (aK ss)))):=by
 intro pins s j H xs us Q I r h;have%[p,ss,rfl,c,m|q]:=h;have%[u,rfl|d]:=cV r;cases d;have%[its,e,pl|n]:=I.list c;have a:=f9 e;have f:its.toArray.size=ss.length:=bw a;refine oG (I.ok.hd b) pl.isList (a) (by rw[f];show ss.length+1<4096;lia) λh' tk S k=>%[.ref ⇑s,_,I.laid (o:=jd X.w ⇑s _) k (Zi _) %[S,?_|λt v g k1=>g.keep k1],rfl|q _ I.fresh]
 have%[o,_,_,_,_,i|_]:=S;exact%[o|i]
theorem Ak(h:X.K=K)(hw:X.w=w)(a:X.calm=true):cr X (.type "set") (λxs H Q=>∃p ss,xs=[.ref p]/\SqL K H p (ss.map V.str)/\ss.length<=4000/\∀l,H l=none->Q (.ref l) (upd H l (jd w l (aK ss)))):=by subst h;subst hw;exact⟨Aj a⟩
end
theorem gi:∀{xs:List a} {i:Nat} (h:i<xs.length),(xs[i]::xs.eraseIdx i).Perm xs
 | x::r,0,_=>by simp
 | x::r,i+1,h=>by
   exact(List.Perm.swap _ _ _).trans (.cons _ (gi (by simpa using h)))
section
#where
theorem x4(a:n≠0)(h:∀i d,i<n->Q i {s with drawn:=d}):↥A (choose b n) Q E s:=by
 intro c p _;exact%[a|h _ _ (mod_lt _ (Nat.pos_of_ne_zero a))]
theorem qU:∀(n:Nat) (xs:List b) (s:Shared) (Q:List b->Shared->Prop),xs.length<=n->(∀ys d,ys.Perm xs->Q ys {s with drawn:=d})->↥A (drawOrder n xs) Q E s
 | 0,xs,s,Q,a,h=>by
   have e:=length_eq_zero_iff.mp (le_zero.mp a);subst e;exact Z3 (h [] s.drawn .nil)
 | n+1,[],s,Q,a,h=>Z3 (h [] s.drawn .nil)
 | n+1,x::r,s,Q,a,h=>by
   unfold drawOrder;refine Z2 (x4 ∅ λi d hi=>?_);rw[(Z4 hi)];exact Z2 (qU n _ _ _ (by rw[List.length_eraseIdx];simp only[hi];simp_all) λys c p=>Z3 (h _ c ((List.Perm.cons _ p).trans (gi hi))))
end
theorem wI(next:Nat->Nat):∀(fuel k:Nat) (left:List a) (out:Array a),left.length<=fuel->(pickOrder.go next fuel k left out).toList.Perm (out.toList++left)
 | 0,k,left,out,h=>by
   have e:=length_eq_zero_iff.mp (le_zero.mp h);subst e;rw[Zz];exact .refl _
 | fuel+1,k,[],out,h=>by
   unfold pickOrder.go;simp
 | fuel+1,k,x::r,out,h=>by
   unfold pickOrder.go;have hi:next k%(x::r).length<(x::r).length:=mod_lt _ ∅;rw[Z4 hi];refine(wI next fuel _ _ _ (by rw[List.length_eraseIdx];simp_all)).trans ?_;rw[toList_push,Ze];exact(List.Perm.refl _).append (gi hi)
theorem pK(next:Nat->Nat)(xs:Array a):(pickOrder next xs).toList.Perm xs.toList:=by
 have:=wI next xs.size 0 xs.toList #[] ∅;simpa [pickOrder]using this
theorem pL(p j:Nat):SetTable.below #[p] j=if p<j then 1 else 0:=by
 unfold SetTable.below;simp only[Zp,Zr];unfold SetTable.below.go;simp
 split<;>(rfl)
theorem vw(j:Nat):SetTable.below #[] j=0:=rfl
theorem pM{a:Type}{xs:Array a}(h:xs.size=1):∃p,xs= #[p]:=by
 obtain⟨l⟩:=xs
 match l,h with
 |[p],_=>exact%[p|rfl]
def SIt(w:World)(I S T:Addr)(o:Obj)(b:Array (Int×Value))(c:Nat)(t:SetTable)(a:ZF)(i:Nat)(h:Heap):Prop:=
 h.get? S=some o/\∃first,h.get? I=some {cls:= .type "set_iterator",dict:=none,data:= .fields #[first,rawInt i,.ref S,rawInt b.size,rawInt c],slots:= #[]}/\
  ((aS w=true/\first=rawInt 0/\a=(pickOrder (w.params.setOrder S c) b).toList.map (·.2))\/
   (aS w=false/\first= .ref T/\T≠I/\∃ps:List Nat,h.get? T=some {cls:= .type "tuple",data:= .seq (ps.map λ(i:Nat)=>rawInt i).toArray}/\ps.length=a.length/\∀(j p:Nat),ps[j]? =some p->∃e,b[p]? =some e/\a[j]? =some e.2)\/
   (aS w=false/\b.size<=1/\a=b.toList.map (·.2)/\(i=0->first=rawInt 0)/\(i=1->∃p:Nat,t.place[0]? =some p/\first=rawInt (p+1))))
theorem SIt.is{w:World}{I S T:Addr}{o:Obj}{b:Array _}{c:Nat}{t:SetTable}{a:ZF}{i:Nat}{s:Shared}(h:SIt w I S T o b c t a i s.heap):s.TypeIs (.ref I) "set_iterator":=by
 have%[_,f,d|_]:=h;exact%[_,d|rfl]
section
#where
variable{I S T:Addr}{o:Obj}{es:Array (Int×Value)}{ep:Nat}{t:SetTable}{ord:ZF}
theorem vx{i:Nat}{v:Value}{Q:Option Value->Shared->Prop}(y:o.data= .set es ep t)(h:t.fits es.size=true)(z:t.led=!aS w)(j:S≠I)(st:SIt w I S T o es ep t ord i s.heap)(f:ord[i]? =some v)(hn:ord.length=es.size)
 (U:∀h',SIt w I S T o es ep t ord (i+1) h'->SameBut I s.heap h'->Q (some v) (s>>>h')):↥A (pyNext (.ref I)) Q E s:=by
 have hT:=st.is;have%[g,first,N|m]:=st;unfold pyNext;refine Z2 (wpAny_attempt (wpAny_callSpecial?_slot (name:=Str.ofString "__next__") hT bP (wpAny_call_entry bP hT fF ?_ (gR _))));unfold Builtin.«set_iterator.__next__»;refine Z2 (m:=slotArgs _ _ _) (Z3 ?_);refine Z2 (wpAny_fieldsOf N rfl ?_);show wpAny _ _ (setEntries S>>= _) _ _ _;refine Z2 (wpAny_setEntries_of g y h ?_);rw[if_neg ∅];rcases m with⟨c,rfl,B⟩|⟨c,rfl,C,ps,G,Y,H⟩|⟨c,h1,B,f0,f1⟩
 .show wpAny _ _ (setNext S 0 i ep>>= _) _ _ _;refine Z2 ?_;unfold setNext;refine Z2 (wpAny_setState_of g y h ?_);refine Z2 (Z2 (wpAny_askSetting (Z3 ?_)));show wpAny _ _ (if aS w=true then _ else _) _ _ _;rw[if_pos c];dsimp only;rw[if_neg (show ¬ ((ep != ep)=true) by simp)];refine Z2 ?_;unfold setWalk;refine Z2 (wpAny_setState_of g y h ?_);refine Z2 (Z2 (wpAny_askSetting (Z3 ?_)));show wpAny _ _ (if aS w=true then _ else _) _ _ _;rw[if_pos c];refine Z2 (wpAny_askSetting (Z3 (Z3 ?_)));have d:(pickOrder (w.params.setOrder S ep) es)[i]?.map (·.2)=some v:=by
   rw[B]at f;simpa using f
  cases u:(pickOrder (w.params.setOrder S ep) es)[i]? with
  | none=>rw[u]at d;cases d
  | some e=>
    rw[u]at d;have J:e.2=v:=by simpa using d
    show wpAny _ _ (match((pickOrder (w.params.setOrder S ep) es)[i]?).map λe=>(e.2,0)with|some (x,next)=>_|none=>_) _ _ _;rw[u];refine Z2 (wpAny_setField_rec N ∅ λg1 b a=>?_);refine Z2 (wpAny_setField_rec (s:=(s>>>g1)) b ∅ λg2 l n=>?_);rw[J];have L:SameBut I s.heap g2:=a.trans n;refine Z3 %[v,rfl|Z3 (U g2 %[(L.2 S j).trans g,_,l|.inl %[c,rfl|B]] L)]
 .refine Z2 (wpAny_seqItems G rfl ?_);have hi:i<ord.length:=(Xn f).1;have aa:i<ps.length:=by lia
  have%[e,O|ab]:=H i ps[i] ∅;have J:e.2=v:=by rw[ab]at f;exact Za f
  have M:(ps.map λ(i:Nat)=>rawInt i).toArray[(i:Int).toNat]? =some (rawInt ps[i]):=by simp[aa]
  dsimp only;rw[M];show wpAny _ _ (setNextDrawn S ps[i] ep>>= _) _ _ _;refine Z2 ?_;unfold setNextDrawn;refine Z2 (wpAny_setState_of g y h ?_);dsimp only;rw[if_neg (show ¬ ((ep != ep)=true) by simp),O];refine Z3 ?_;refine Z2 (wpAny_setField_rec N ∅ λg1 b a=>?_);rw[J];exact Z3 %[v,rfl|Z3 (U g1 %[(a.2 S j).trans g,_,b|.inr (.inl %[c,rfl,C,ps,(a.2 T C).trans G,Y|H])] a)]
 .have hi:i<ord.length:=(Xn f).1;have i0:i=0:=by lia
  subst i0;have f0:=f0 rfl;subst f0;have e1:es.size=1:=by lia
  have pz:t.place.size=1:=by
   simp only[SetTable.fits,Zx,beq_iff_eq,decide_eq_true_eq]at h;rw[h.1,e1]
  have%[p|u]:=pM pz;obtain⟨e,O⟩:∃e,es[0]? =some e:=%[es[0]|by simp]
  have J:e.2=v:=by
   rw[B]at f;have:(es[0]?).map (·.2)=some v:=by simpa using f
   rw[O]at this;simpa using this
  show wpAny _ _ (setNext S 0 0 ep>>= _) _ _ _;refine Z2 ?_;unfold setNext;refine Z2 (wpAny_setState_of g y h ?_);show wpAny _ _ (if aS w=true then _ else _) _ _ _;rw[if_neg (by rw[c];decide)];dsimp only
  split
  .rename_i r
   change (!t.plain&&decide (es.size>1))=true at r;rw[e1]at r;simp at r
  .refine Z2 (m:=(if(!t.led&&!es.isEmpty)=true then unsupported "set:maker-not-led" else pure ())) ?_;rw[z,c];refine Z3 ?_;rw[u,pL];simp only[X7,↓reduceIte,O];refine Z3 ?_;show wpAny _ _ (setField (.ref I) 0 (rawInt ((p+1:Nat):Int))>>= _) _ _ _;refine Z2 (wpAny_setField_rec N ∅ λg1 b a=>Z2 (wpAny_setField_rec (s:=(s>>>g1)) b ∅ λg2 l n=>?_));rw[J];have L:SameBut I s.heap g2:=a.trans n;exact Z3 %[v,rfl|Z3 (U g2 %[(L.2 S j).trans g,_,l|.inr (.inr %[c,⋯,B,λq=>by lia|λ_=>%[p,by rw[u];rfl|rfl]])] L)]
theorem tq{c:Type}{Q:c->Shared->Prop}(d:A.handled=none)(f:∀h' e,(∀b o,s.heap.get? b=some o->h'.get? b=some o)->(∃o,h'.get? e=some o/\o.cls= .type "StopIteration")->E (.ref e) (s>>>h')):
 ↥A (newExc (.type "StopIteration") []>>= λe=>(raiseNew e)) Q E s:=by
 refine Z2 ?_;refine Z2 (wpAny_newObj_type ?_ (by size_fits));refine Z2 (wpAny_of_eq (a:=Value.none) (by first|rfl|lia) (wpAny_newObj_type (wpAny_raiseNew_none d (f _ _ (λb o e=>Z7 _ (Z7 _ e)) %[_,Zj _ rfl|rfl])) (by size_fits)))
theorem x5{i:Nat}{Q:Option Value->Shared->Prop}(hh:A.handled=none)(y:o.data= .set es ep t)(j:t.fits es.size=true)(n:t.led=!aS w)(st:SIt w I S T o es ep t ord i s.heap)(hi:i=ord.length)(hn:ord.length=es.size)
 (hQ:∀h',(∀b o,b≠I->s.heap.get? b=some o->h'.get? b=some o)->Q none (s>>>h')):↥A (pyNext (.ref I)) Q E s:=by
 have Y:=st.is;have%[z,first,B|m]:=st;have H:A.in1.handled=none:=hh;have c:∀(g:Heap) (Q':Fin->Shared->Prop),SameBut I s.heap g->↥A.in1 (newExc (.type "StopIteration") []>>= λe=>(raiseNew e:Sem Fin)) Q' (λe s'=>↥A (do
  if(<-isInstance e (.type "StopIteration"))then pure none else throw e) Q E s') (s>>>g):=λg Q' sb=>by
  refine tq H λh' e k ⟨oe,he,hc⟩=>?_
  refine Z2 (wpAny_isInstance (T:="StopIteration") (b:=true) %[oe,he|hc] isSubtype_stop (Z3 (hQ h' λb o r q=>k b o ((sb.2 b r).trans q))))
 unfold pyNext;refine Z2 (wpAny_attempt (wpAny_callSpecial?_slot (name:=Str.ofString "__next__") Y bP (wpAny_call_entry bP Y fF ?_ (gR _))));unfold Builtin.«set_iterator.__next__»;refine Z2 (m:=slotArgs _ _ _) (Z3 ?_);refine Z2 (wpAny_fieldsOf B rfl ?_);show wpAny _ _ (setEntries S>>= _) _ _ _;refine Z2 (wpAny_setEntries_of z y j ?_);rw[if_neg ∅];rcases m with⟨l,rfl,eo⟩|⟨l,rfl,aa,ps,J,ab,ac⟩|⟨l,h1,eo,L,M⟩
 .show wpAny _ _ (setNext S 0 i ep>>= _) _ _ _;refine Z2 ?_;unfold setNext;refine Z2 (wpAny_setState_of z y j ?_);refine Z2 (Z2 (wpAny_askSetting (Z3 ?_)));show wpAny _ _ (if aS w=true then _ else _) _ _ _;rw[if_pos l];dsimp only;rw[if_neg (show ¬ ((ep != ep)=true) by simp)];refine Z2 ?_;unfold setWalk;refine Z2 (wpAny_setState_of z y j (Z2 (Z2 (wpAny_askSetting (Z3 ?_)))));show wpAny _ _ (if aS w=true then _ else _) _ _ _;rw[if_pos l];refine Z2 (wpAny_askSetting (Z3 (Z3 ?_)));have C:(pickOrder (w.params.setOrder S ep) es)[i]? =none:=by
   rw[Array.getElem?_eq_none_iff,hi,eo,Z6,Zb];exact Zi _
  show wpAny _ _ (match((pickOrder (w.params.setOrder S ep) es)[i]?).map λe=>(e.2,0)with|some (x,next)=>_|none=>_) _ _ _;rw[C];show wpAny _ _ (setField (.ref I) 2 .none>>= _) _ _ _;exact Z2 (wpAny_setField_rec B ∅ λg1 _ d=>c g1 _ d)
 .show wpAny _ _ (seqItems? (.ref T)>>= _) _ _ _;refine Z2 (wpAny_seqItems J rfl ?_);have u:(ps.map λ(i:Nat)=>rawInt i).toArray[(i:Int).toNat]? =none:=by simp;lia
  dsimp only;rw[u];exact Z2 (wpAny_setField_rec B ∅ λg1 N d=>Z2 (wpAny_setField_rec N ∅ λg2 _ O=>c g2 _ (d.trans O)))
 .have done:∀slot:Nat,first=rawInt slot->SetTable.below t.place slot=es.size->↥A.in1 (setNext S slot i ep) (λa s'=>a=none/\s'=s) (λ_ _=>False) s:=by
   intro slot _ r;unfold setNext;refine Z2 (wpAny_setState_of z y j ?_);show wpAny _ _ (if aS w=true then _ else _) _ _ _;rw[if_neg (by rw[l];decide)];dsimp only
   split
   .rename_i h
    change (!t.plain&&decide (es.size>1))=true at h;have:decide (es.size>1)=false:=Zh ⋯;rw[this,Bool.and_false]at h;cases h
   .refine Z2 (m:=(if(!t.led&&!es.isEmpty)=true then unsupported "set:maker-not-led" else pure ())) ?_;rw[n,l];refine Z3 ?_;rw[r,show es[es.size]? =none by simp];exact Z3 %[rfl|rfl]
  have go:∀slot:Nat,first=rawInt slot->SetTable.below t.place slot=es.size->↥A.in1 (setNext S slot i ep>>= λa=>match a with
   | some (x,next)=>(do
     setField (.ref I) 0 (rawInt ↑next)
     setField (.ref I) 1 (rawInt (↑i+1))
     ret x)
   | none=>(do
     setField (.ref I) 2 .none
     let e<-newExc (.type "StopIteration") []
     raiseNew e)) (λc s'=>∃v,c=Fin.done (Flow.ret v)/\↥A (pure (some v)) Q E s') (λe s'=>↥A (do
   if(<-isInstance e (.type "StopIteration"))then pure none else throw e) Q E s') s:=by
   intro slot e r;refine Z2 (wpAny_mono (done slot e r) (λa s' ⟨G,e2⟩=>?_) λ_ _ f=>f.elim);subst G;subst e2;exact Z2 (wpAny_setField_rec B ∅ λg1 _ d=>c g1 _ d)
  have pz:=by
   simp only[SetTable.fits,Zx,beq_iff_eq,decide_eq_true_eq]at j;exact j.1
  by_cases e0:es.size=0
  .have i0:i=0:=by lia
   subst i0;have L:=L rfl;subst L;refine go 0 rfl ?_;have:t.place= #[]:=Array.eq_empty_of_size_eq_zero ⋯;rw[this,vw,e0]
  .have G:es.size=1:=by lia
   have i1:i=1:=by lia
   subst i1;have%[p,C|M]:=M rfl;subst M;refine go (p+1) rfl ?_;have%[p'|U]:=pM (by rw[pz,G]:t.place.size=1);rw[U]at C ⊢;have:p'=p:=by simpa using C
   subst this;rw[pL,if_pos (Yq _),G]
end
theorem gT:Slot "set_iterator" "__iter__" "set_iterator.__iter__":=
 .of (owner:="set_iterator") (n:="__iter__") (by rw[typeLookup_type,builtinLookup_eq_fast];kernel_rfl) (by decide +kernel) (by decide +kernel) (by decide +kernel) (by first|exact .inl (by decide +kernel)|exact .inr ∅) (by kernel_rfl)
theorem kr:entryFor table "set_iterator.__iter__"=some Builtin.«dict_keyiterator.__iter__»:=entryFor_alias (id':="dict_keyiterator.__iter__") (by kernel_rfl) rfl (by decide +kernel) (by kernel_rfl)
theorem lK(a:Value):argsOk "set_iterator.__iter__" %[[a]|[]]:=by kernel_rfl
theorem qV:typeLookup (.type "set") "__len__"=pure (some (.builtin "set.__len__")):=by kernel_rfl
section
#where
variable{I S T:Addr}{o:Obj}{es:Array (Int×Value)}{ep:Nat}{t:SetTable}{ord:ZF}
theorem x6(hh:A.handled=none)(hd:o.data= .set es ep t)(hf:t.fits es.size=true)(hled:t.led=!aS w)(hSI:S≠I)(hn:ord.length=es.size):
 Walks prog w A I [I,S,T] [I] ord.length (λi v=>ord[i]? =some v) (λi h=>SIt w I S T o es ep t ord i h) where
 sub:=by simp
 frame:=λi h h' st k=>by
  have%[hS,first,hI|m]:=st;refine⟨k S ∅ _ hS,first,k I ∅ _ hI,?_⟩;rcases m with m|⟨bt,e,hTI,ps,hTt,r⟩|m
  .exact .inl m
  .exact .inr (.inl %[bt,e,hTI,ps,k T ∅ _ hTt|r])
  .exact .inr (.inr m)
 item:=λi s Q E hi st hQ=>vx (v:=ord[i]) hd hf hled hSI st ∅ hn λh' st' sb=>hQ _ h' s.toks ∅ st' λb o' hb e=>(sb.2 b (λq=>hb (by simp[q]))).trans e
 done:=λs Q E st hQ=>x5 hh hd hf hled st rfl hn λh' k=>hQ h' s.toks λb o' hb e=>k b o' (λq=>hb (by simp[q])) e
 self:=λi s Q E st hQ=>by
  have hT:=st.is;exact wpAny_pyIter_slot hT gT (wpAny_call_entry gT hT kr (Z3 %[_,rfl,"set_iterator",_,hT,bP.lookup|hQ]) (lK _))
theorem x8(g:s.heap.get? S=some o)(B:o.ExactSet)(C:o.data= .set es ep t)(hb:es.size<scanBound)(G:t.fits es.size=true)(H:es.size≠0->t.plain=false)(O:t.led=!aS w)
 (hQ:∀(I T:Addr) (ord:ZF) (h':Heap) d,(∀b o,s.heap.get? b=some o->h'.get? b=some o)->⇑s<=I->S≠I->(T=S\/⇑s<=T)->T<h'.objs.size->I<h'.objs.size->ord.length=es.size->
  SIt w I S T o es ep t ord 0 h'->ord.Perm (es.toList.map (·.2))->Q (.ref I) {s with heap:=h',drawn:=d}):↥A (pyIter (.ref S)) Q E s:=by
 have U:s.TypeIs (.ref S) "set":=%[o,g|B.1]
 have n:S<⇑s:=Zv g;refine wpAny_pyIter_slot U F.slot_set_iter (wpAny_call_entry F.slot_set_iter U oC ?_ (F.args_set_iter_1 _));unfold Builtin.«frozenset.__iter__»;refine Z2 (m:=Builtin.Frozenset.slot0 _ _) (Z2 (m:=slotArgs _ _ _) (Z3 (Z3 ?_)));refine Z2 (m:=Builtin.Frozenset.sizeOf S) (Z2 (wpAny_setEntries_of g C G (Z3 ?_)));refine Z2 (m:=setDrawn S) ?_;unfold setDrawn;refine Z2 (wpAny_setState_of g C G (Z2 (Z2 (wpAny_askSetting (Z3 (Z3 ?_))))));have a:∀(first:Value) (c:Shared) (T:Addr) (ord:ZF),c.heap.get? S=some o->(∃d f,c={s with heap:=f,drawn:=d})->(∀b o,s.heap.get? b=some o->c.heap.get? b=some o)->T<⇑c->⇑s<=⇑c->(T=S\/⇑s<=T)->ord.Perm (es.toList.map (·.2))->
  ((aS w=true/\first=rawInt 0/\ord=(pickOrder (w.params.setOrder S ep) es).toList.map (·.2))\/(aS w=false/\first= .ref T/\∃ps:List Nat,c.heap.get? T=some {cls:= .type "tuple",data:= .seq (ps.map λ(i:Nat)=>rawInt i).toArray}/\ps.length=ord.length/\∀(j p:Nat),ps[j]? =some p->∃e,es[p]? =some e/\ord[j]? =some e.2)\/(aS w=false/\es.size<=1/\ord=es.toList.map (·.2)/\first=rawInt 0))->ord.length=es.size->
  ↥A.in1 (do ret (<-newFields "set_iterator" [first,rawInt 0,.ref S,rawInt es.size,rawInt (<-setEpoch S)])) (λa s'=>∃v,a=Fin.done (Flow.ret v)/\∃Y r,s'.TypeIs v Y/\typeLookup (.type Y) "__next__"=pure (some r)/\Q v s') (λe s'=>E e s') c:=by
  intro first c T ord f %[d,g1|e1] k1 tl sl J y m hn
  subst e1;refine Z2 (wpAny_setEpoch_of f C G (Z2 (wpAny_newObj_type ?_)));have gI:(g1.push {cls:= .type "set_iterator",data:= .fields #[first,rawInt 0,.ref S,rawInt es.size,rawInt ep]}).get? g1.objs.size=some _:=Zj _ rfl;refine Z3 %[_,rfl,"set_iterator",_,%[_,gI|rfl],bP.lookup|hQ g1.objs.size T ord _ d (λb o' e=>Z7 _ (k1 b o' e)) sl (Zt (Zv f)) J (by rw[Zq];exact Yp tl) (by rw[Zq];exact Yq _) hn ?_ y];refine⟨Z7 _ f,first,gI,?_⟩;rcases m with m|⟨h,e,ps,L,r⟩|⟨h,M,eo,e⟩
  .exact .inl m
  .exact .inr (.inl %[h,e,Zt tl,ps,Z7 _ L|r])
  .exact .inr (.inr %[h,M,eo,λ_=>e|λq=>absurd q ∅])
 have lst:(es.toList.map (·.2)).length=es.size:=by rw[Z6,Zb]
 by_cases h:aS w=true
 .show wpAny _ _ (if(!aS w&&_)=true then _ else _) _ _ _;rw[h,Bool.not_true,Bool.false_and,if_neg ∅];refine Z2 (Z3 ?_);have u:=(pK (w.params.setOrder S ep) es).map (·.2);exact a (rawInt 0) s S _ g %[s.drawn,s.heap|rfl] (λ_ _ e=>e) n (Zi _) (.inl rfl) u (.inl %[h,rfl|rfl]) (by rw[u.length_eq,lst])
 .have z:aS w=false:=by simpa using h
  show wpAny _ _ (if(!aS w&&(!t.plain&&decide (es.size>1)))=true then _ else _) _ _ _;by_cases f:es.size>1
  .rw[z,H ⋯,Zf f];refine Z2 (qU es.size _ _ _ ∅ λps d l=>Z2 (wpAny_newTuple ?_ (by rw[Z6,l.length_eq,Yl];exact fits_of_scanBound hb)));have lt:∀p∈ps,p<es.size:=λp q=>mem_range.mp (l.mem_iff.mp q)
   have er:(List.range es.size).map (λp=>((es[p]?).map (·.2)).getD .none)=es.toList.map (·.2):=by
    apply Y0
    .simp
    .intro i y q2;simp at y;simp[y]
   have u:(ps.map (λp=>((es[p]?).map (·.2)).getD .none)).Perm (es.toList.map (·.2)):=er▸l.map _;refine a _ _ ⇑s _ (Z7 _ g) %[d,_|rfl] (λb o' e=>Z7 _ e) (by rw[Zq];exact Yq _) (by rw[Zq];exact Yh _) (.inr (Zi _)) u
    (.inr (.inl %[z,rfl,ps,Zj _ rfl,by rw[Z6]|λj p q=>?_])) (by rw[u.length_eq,lst])
   have N:=lt p (Z8 q);exact%[es[p],by simp|by simp[q,N]]
  .rw[z,Zh f];simp only[Bool.and_false,Y1];exact a (rawInt 0) s S _ g %[s.drawn,s.heap|rfl] (λ_ _ e=>e) n (Zi _) (.inl rfl) (List.Perm.refl _) (.inr (.inr %[z,⋯,rfl|rfl])) lst
theorem jG(hh:A.handled=none)(u:s.heap.get? S=some r)(a:r.ExactSet)(v:r.data= .set g as t0)(y:g.size<scanBound)(z:t0.fits g.size=true)(B:g.size≠0->t0.plain=false)(c:t0.led=!aS w)
 (hQ:∀s' vs,vs.Perm (g.toList.map (·.2))->(∀b o,s.heap.get? b=some o->s'.heap.get? b=some o)->s'.gens=s.gens->s'.os=s.os->⇑s<=⇑s'->Q vs s'):↥A (collect (.ref S)) Q E s:=by
 unfold collect;refine Z2 (wpAny_runValue (codeAny_builtin F.entry_proto_collect ?_));rw[Around.under_plainId F.plain_proto_collect _];show wpAny _ A.in1 (newList []>>= λl=>again (.builtin "list.__iadd__" %[[l,.ref S]|[]])) _ _ s;refine Z2 (wpAny_newObj_type (Z3 %[plainId_quiet F.plain_list_iadd _|codeAny_builtin F.entry_list_iadd ?_]));rw[Around.under_plainId F.plain_list_iadd _];have i:S<⇑s:=Zv u;show wpAny _ A.in1 (Builtin.List.listExtendWith (.ref ⇑s) (.ref S) (.ref ⇑s)) _ _ _;unfold Builtin.List.listExtendWith
 generalize O:s.heap.push {cls:= .type "list",data:= .seq ([]:ZF).toArray}=G
 have gS:G.get? S=some r:=by rw[<-O];exact Z7 _ u
 have gz:G.objs.size=⇑s+1:=by rw[<-O,Zq]
 have gL:G.get? ⇑s=some {cls:= .type "list",data:= .seq ([]:ZF).toArray}:=O▸Zj _ rfl;have tS:Shared.TypeIs (s>>>G) (.ref S) "set":=%[r,gS|a.1]
 refine Z2 (wpAny_typeOf (T:="set") tS ?_);have n1:Builtin.List.listSameRef (.ref ⇑s) (.ref S)=false:=by
  show(⇑s==S)=false;exact beq_eq_false_iff_ne.mpr (X2 i)
 have n2:(Value.type "set"==Value.type "list")=false:=by decide
 have n3:(Value.type "set"==Value.type "tuple")=false:=by decide
 simp only[n1,n2,n3,Bool.or_false,Y1,if_false];refine Z2 (x8 (s:=(s>>>G)) gS a v y z B c λI T ord h d k1 U aa ab a0 a1 hn st q1=>?_);replace k1:∀b o,G.get? b=some o->h.get? b=some o:=k1;replace U:G.objs.size<=I:=U;have ac:h.get? S=some r:=k1 _ _ gS;refine Z2 (wpAny_holding ?_);unfold Builtin.List.listLengthHint;have m:Shared.TypeIs {s with heap:=h,drawn:=d} (.ref S) "set":=%[r,ac|a.1]
 refine Z2 (wpAny_specialOf (T:="set") m qV ?_)
 wp_delta
 refine Z2 (wpAny_isInstance (T:="set") (b:=true) m (by rw[isSubtype_type];kernel_rfl) ?_);show wpAny _ A.in1 (typeOf (.ref S)>>= _) _ _ _;refine Z2 (wpAny_typeOf (T:="set") m (Z3 ?_));rw[if_pos (by decide)];refine Z2 (wpAny_rule ?_);have C:h.get? ⇑s=some {cls:= .type "list",data:= .seq ([]:ZF).toArray}:=k1 _ _ gL;refine Z2 ?_;unfold Builtin.List.listTouch;refine Z2 (listUpdate_at (s:={s with heap:=h,drawn:=d}) C rfl ?_ (Xg _) (by show 1<=sizeLine+1;lia));have H:=get?_update_self (Obj.mapSeq (·.push Value.none)) C rfl;refine listUpdate_at (xs:= #[Value.none]) (n:=1) (s:={s with heap:=h.update ⇑s (Obj.mapSeq _),drawn:=d}) H rfl ?_ (by decide) (by show 0<=sizeLine+1;lia);have ag:=get?_update_self (Obj.mapSeq (·.pop)) H rfl;have J:∀b o,b≠⇑s->h.get? b=some o->((h.update ⇑s (Obj.mapSeq (·.push Value.none))).update ⇑s (Obj.mapSeq (·.pop))).get? b=some o:=λb o Y e=>(get?_update_other _ _ (Ne.symm Y)).trans ((get?_update_other _ _ (Ne.symm Y)).trans e)
 have ah:=Zt (Zg (by rw[gz];exact Yq _) U);have neT:⇑s≠T:=by
  rcases ab with e|e
  .exact e▸X2 i
  .exact Zt (Zg (gz▸Yq _) e)
 have L:⇑s∉[I,S,T]:=by
  simp only[Yx,X8,or_false,not_or];exact%[ah,X2 i|neT]
 have ai:ord.length<=sizeLine:=hn▸fits_of_scanBound y;have W:=x6 (prog:=prog) (A:=A.in1) (T:=T) (hh) v z c aa hn;have al:=W.frame 0 h _ st λb Y M e=>J b M (λq=>L (q▸Y)) e
 refine Z3 %[plainId_quiet F.plain_extend_loop _|codeAny_extend_loopS W.toS ai _ L _ ord.length 0 _ _ _ rfl (Xg _) al ag (ItemsOf.nil _) λs5 acc c5 m5 N f=>?_];refine Z2 (wpAny_load N (Z3 ?_));have ea:acc.toList=ord:=by
  apply ext_getElem?;intro j;by_cases hj:j<ord.length
  .have an:j<acc.size:=f.1▸hj;have:=f.2 j acc[j] ∅;rw[this];simp[an]
  .have l1:acc.toList.length=ord.length:=f.1;rw[List.getElem?_eq_none ⋯,List.getElem?_eq_none (l:=ord) ⋯]
 rw[ea];refine hQ s5 ord q1 (λb M e=>?_) m5.gens m5.os (Yg (Zv N));have p:=Zv e;refine m5.heap b M ?_ (J b M (Zt p) (k1 b M (O▸Z7 _ e)));simp only[Yx,X8,or_false,not_or];exact%[Zt p|Zt (Zg p (Yi (gz▸Yh _) U))]
theorem kY(f:A.handled=none)(h:bh w S ks s.heap)
 (i:∀s' vs ss,StrsAre vs ss->ss.Perm ks->(∀b o,s.heap.get? b=some o->s'.heap.get? b=some o)->s'.gens=s.gens->s'.os=s.os->⇑s<=⇑s'->Q vs s'):↥A (collect (.ref S)) Q E s:=by
 have%[o,es,ep,t,ss,j,c,l,d,m,n,p,q,r,e|a]:=h;refine jG f j c l q r e a λs' vs pv k g os sz=>?_
 have%[ts,u|v]:=ci d pv;exact i s' vs ts u (v.trans m) k g os sz
end
section
variable{X:Cx}{pins:ZE}{σ:St}{H:Hp}{s s':Shared}
theorem Inv.keptS(I:Inv X pins σ H s)(k:∀b o,s.heap.get? b=some o->s'.heap.get? b=some o)(c:s'.gens=s.gens)(a:s'.os=s.os):Inv X pins σ H s':=by
 have%[h',g',d',t'|d]:=s';replace a:d=s.os:=a;subst c;subst a;refine I.step (ch:=[]) (λb f=>absurd f ∅) (λb o _ _ _ e _=>k b o e) (λb o _ _ _ e _=>%[o.slots|k b o e]) (λ_ _ _ _ n=>n) (λb o _ e=>%[o|k b o e]) (λ_ _ e=>e) (λ_ _ _ e=>e) (λb ps e=>%[#[]|by rw[e];simp]) (λm g=>?_) (λb v e=>?_) I.bare
 .have%[o,h,i,a|r]:=g;exact%[o,h,i,k _ o a|r]
 .exact(I.hok b v e).stay (λj l _ q=>k j l q) (λ_ q=>q) λ_ _ q=>q
theorem Inv.stoodS(I:Inv X pins σ H s)(J:Inv X pins σ H s')(c:⇑s<=a)(new:ck X.prog X.w (upd H a o) s'.heap a o):Inv X pins σ (upd H a o) s':=by
 have d:=I.hok.fresh c;refine%[J.ok,J.os,J.bare,?_,J.loc,J.cell,?_,?_,?_,?_|J.len]
 .refine%[J.base.keep,J.base.slot,λb o e n j=>?_,J.base.there,λb xs e=>?_,λb o v e=>?_|λb ps e=>?_]
  .rw[ao ((λb o e=>Zt (Zg (Zg (Zv e) I.sz) c)) b o e)];exact J.base.free b o e n j
  .rw[ao (aw (J.base.tups b xs e) d)];exact J.base.tups b xs e
  .rw[ao (aw (J.base.frzs b o v e) d)];exact J.base.frzs b o v e
  .have%[m|q]:=J.base.tbls b ps e;exact%[m|(ao (aw q d))▸q]
 .rw[ao (Zt (Zg I.lt c))];exact J.free
 .intro g f e;have%[l|q]:=I.cell g f e;rw[ao (Zt (Zg q.lt c))];exact J.freeC g f e
 .intro p h;have%[e,n|r]:=J.pin p h;refine%[e,?_|r];rw[ao (Zt (Zg (Zv (I.pin p h).1) c))];exact n
 .intro b v e;by_cases i:b=a
  .subst i;rw[ae]at e;cases e;exact new
  .rw[ao i]at e;refine(J.hok b v e).stay (λ_ _ _ q=>q) (λf q=>?_) λf xs q=>?_
   .rw[ao (aw q d)];exact q
   .rw[ao (aw q d)];exact q
end
section
#where
variable{S:Addr}
theorem vy(t:A.handled=none)(u:bh w S ks s.heap)(g:ks.length<64)
 (v:∀(s':Shared) (l:Addr) (vs:ZF) (ss:ZB) (n:Nat),StrsAre vs ss->ss.Perm ks->sortedS ss=true->(∀b o,s.heap.get? b=some o->s'.heap.get? b=some o)->s'.gens=s.gens->s'.os=s.os->⇑s<=l->s'.heap.get? l=some {cls:= .type "list",data:= .seq vs.toArray n}->Q (.ref l) s'):
 ↥A (call (.builtin "sorted") [.ref S]) Q E s:=by
 refine Calls.call_function_entry kind_sorted plain_sorted entry_sorted (args_sorted1 _) ?_;unfold Builtin.«sorted»;refine Z2 (m:=checkCount "sorted" 1 1 _) (Z3 ?_);refine Z2 (kY (show A.in1.handled=none from t) u λc vs ss f j k1 g1 y h=>?_);have z:vs.length<64:=by rw[bw f,j.length_eq];exact g
 refine Z2 (wpAny_newList ?_ (by rw[sizeLine_eq];lia));have i:(c.heap.push (seqObj "list" vs.toArray 0)).get? ⇑c=some (seqObj "list" vs.toArray 0):=Zj _ rfl;refine Z2 (wpAny_holding (wpAny_call_entry slot_list_sort %[_,i|rfl] entry_list_sort (list_sort_treeK (s:=(c>>>c.heap.push (seqObj "list" vs.toArray 0))) strKind_oneLt i f.keysOf (λp q rest e=>keyKind_strs (by rw[<-e];exact f)) z λa B C=>%[_,rfl|?_]) (args_list_sort _)));have%[ts,G,H|I]:=sorted_out_str f B C;obtain⟨n,J⟩:∃n,(sortedHeap (c.heap.push (seqObj "list" vs.toArray 0)) ⇑c vs ((arrOf a).map (·.2))).get? ⇑c=some (seqObj "list" ((arrOf a).map (·.2)) n):=sortedHeap_at i;refine Z3 %[_,rfl|v _ ⇑c ((arrOf a).map (·.2)).toList ts n G (H.trans j) I (λb L e=>?_) g1 y h ?_]
 rotate_left
 .show _=some (seqObj "list" ((arrOf a).map (·.2)).toList.toArray n);rw[Array.toArray_toList];exact J
 have r:=k1 b L e;have d:=Zv r;show(sortedHeap _ _ _ _).get? b=_;rw[sortedHeap_old (Zt d) (by rw[Zq];exact Yp d)];exact Z7 _ r
end
section
variable{X:Cx}{K:ZA}
theorem qW(d:X.calm=true):bX X (.builtin "sorted") (λxs H Q=>∃a ks,xs=[.ref a]/\H a=some (jd X.w a ks)/\ks.length<64/\∀l ss,H l=none->ss.Perm ks->sortedS ss=true->Q (.ref l) (upd H l (.lst (ss.map V.str)))):=by
 intro pins s t H xs us Q I r h;have%[a,ks,rfl,e,f|q]:=h;have%[u,rfl|i]:=cV r;cases i;have%[S,_|_]:=(I.hok a _ e)
 refine vy (I.ok.hd d) S f λs' l vs ss n j c m k g o b p=>%[.ref l,_,I.stoodS (o:= .lst _) (I.keptS k g o) b %[?_,vs,n,pF j|p],rfl|q l ss (I.hok.fresh b) c m]
 rw[Z6,c.length_eq,sizeLine_eq]
 lia
theorem x9(h:X.w=w)(b:X.calm=true):cr X (.builtin "sorted") (λxs H Q=>∃a ks,xs=[.ref a]/\H a=some (jd w a ks)/\ks.length<64/\∀l ss,H l=none->ss.Perm ks->sortedS ss=true->Q (.ref l) (upd H l (.lst (ss.map V.str)))):=by subst h;exact⟨qW b⟩
end
theorem ap{D:iO}(h:∀c:iO,(∀a b,u D a b->c.nx a b)->(∀v b,D.rt v b->c.rt v b)->t c d H):bo t u D d H:=h _ (λ_ _ x=>x) λ_ _ x=>x
theorem aF{t:TS}{D:iO}(h:∀c:iO,(∀a b,D.nx a b->c.nx a b)->(∀v b,D.rt v b->c.rt v b)->t c d H):t D d H:=h _ (λ_ _ x=>x) λ_ _ x=>x
theorem im{K:ZA}{xs:List V}{g:TG}{j:TS}{D:iO}(Pv:Nat->St->Hp->Prop)(n:Pv 0 b H)(o:∀i b H,i<=xs.length->Pv i b H->SqL K H a xs)
 (r:∀i x T b H,xs[i]? =some x->Pv i b H->H T=none->g (.ref T) b (upd H T (.tup [.int i,x])) λc h=>j {D with nx:=Pv (i+1),ct:=Pv (i+1),bk:=D.nx} c h) (s:∀b H,Pv xs.length b H->D.nx b H):
 ∃W:Nat->Nat->St->Hp->Prop,(∃m,W 0 m b H)/\∀i m b H,W i m b H->
  ((Ite K a xs).stop i H/\D.nx b H)\/((Ite K a xs).go i H/\∃N:St->Hp->Prop,(∀d f,N d f->∃l,l<m/\W (i+1) l d f)/\∀x f,(Ite K a xs).yld i H x f->g x b f λc h=>j {D with nx:=N,ct:=N,bk:=D.nx} c h):=by
 refine%[λi m b H=>m=xs.length-i/\i<=xs.length/\Pv i b H,%[xs.length,by simp,Xg _|n]|?_];intro i m b H %[rfl,hi|p];have q:=o i b H hi p;by_cases lt:i<xs.length
 .refine .inr %[%[q|lt],Pv _,λd f t=>%[xs.length-(i+1),⋯,rfl,lt|t]|λv f y=>?_];have%[x,T,e,u,rfl|rfl]:=y;exact r i x T b _ e p u
 .have e:i=xs.length:=by lia
  subst e;exact .inl %[%[q|Zi _]|s b H p]
section
variable{X:Cx}{K:ZA}{pos:Pos}{a b:Expr}{ta tb:TE}
theorem bW:OpQ X (binaryOp .Add) (rI0 λi j=> .int (i+j)):=⟨zt⟩
theorem dI:OpQ X (binaryOp .Mult) (rI zq λi j=> .int (i*j)):=⟨zu⟩
theorem cB(h:X.K=K)(c:lR b)(d:QE X a ta)(e:QE X b tb):QE X (.Subscript a b pos) (tOp (Ew K) ta tb):=by subst h;exact⟨zL Cb d.h e.h c⟩
theorem Gk(c:lR b)(d:QE X a ta)(e:QE X b tb):QE X (.Subscript a b pos) (tOp Ey ta tb):=⟨zL EA d.h e.h c⟩
end
end L2
namespace Cut
open PySem L2 PyProof.Rows
noncomputable def gj:Str:="abcdefghijklmnopqrstuvwxyz"
noncomputable def gU(c:Nat):Bool:=decide (c∈gj.cps.toList)
noncomputable def okc(c:Nat):Bool:=decide (c=46)||gU c
noncomputable def nl:Str:="\n"
theorem Gm:nl=⟨#[10]⟩:=rfl
theorem kx:gU c=true↔97<=c/\c<=122:=by
 have e:gj.cps.toList=(List.range 26).map (·+97):=by decide +kernel
 unfold gU;rw[decide_eq_true_iff,e,mem_map]
 constructor
 .rintro⟨i,h,rfl⟩;have:=mem_range.mp h
  lia
 .rintro⟨a,b⟩;exact%[c-97,mem_range.mpr ⋯|⋯]
theorem EW(h:okc c=true):c≠10:=by
 intro e;subst e
 revert h
 decide +kernel
structure cg (rows:ZB):Prop where
 pos:1<=rows.length
 high:rows.length<=40
 wide:∃wd,1<=wd/\wd<=40/\∀r∈rows,r.cps.size=wd
 sign:∀r∈rows,r.cps.toList.all okc=true
 fall:∀i r r',rows[i]? =some r->rows[i+1]? =some r'->∀(j c c':Nat),r.cps[j]? =some c->r'.cps[j]? =some c'->c'=46->c=46
 some':∃r∈rows,∃c∈r.cps.toList,c≠46
theorem eY{x y:Str}(h:x.cps.toList=y.cps.toList):x=y:=by
 obtain⟨⟨l⟩⟩:=x
 simp_all
theorem fG(sep x y:Str)(r:ZB):(Str.join sep (x::y::r)).cps.toList=x.cps.toList++sep.cps.toList++(Str.join sep (y::r)).cps.toList:=by
 show((x.cps++sep.cps) ++(Str.join sep _).cps).toList=_;rw[Xf,Xf]
theorem Al [DecidableEq f]:∀{a b x y:List f},c∉a->c∉b->a++c::x=b++c::y->a=b/\x=y
 |[],[],_,_,_,_,h=>%[rfl|(List.cons.inj h).2]
 |[],b::bs,_,_,_,d,h=>absurd (((List.cons.inj h).1)▸Zm) d
 | a::g,[],_,_,e,_,h=>absurd (((List.cons.inj h).1)▸Zm) e
 | a::g,b::bs,x,y,e,d,h=>by
   have%[i|j]:=List.cons.inj h;have%[l|m]:=Al (λq=>e (Zk _ q)) (λq=>d (Zk _ q)) j;exact%[by rw[i,l]|m]
theorem tt{c:Nat}:∀{ps qs:ZB},ps≠[]->qs≠[]->(∀p∈ps,c∉p.cps.toList)->(∀q∈qs,c∉q.cps.toList)->(Str.join ⟨#[c]⟩ ps).cps.toList=(Str.join ⟨#[c]⟩ qs).cps.toList->ps=qs
 |[],_,h,_,_,_,_=>absurd rfl h
 | _,[],_,h,_,_,_=>absurd rfl h
 |[p],[q],_,_,_,_,e=>by rw[eY (show p.cps.toList=q.cps.toList from e)]
 |[p],q::f::qs,_,_,a,_,e=>by
  rw[fG]at e;refine absurd ?_ (a p Zm);rw[show p.cps.toList=(Str.join _ [p]).cps.toList from rfl,e];simp
 | p::g::ps,[q],_,_,_,b,e=>by
   rw[fG]at e;refine absurd ?_ (b q Zm);rw[show q.cps.toList=(Str.join _ [q]).cps.toList from rfl,<-e];simp
 | p::g::ps,q::f::qs,_,_,a,b,e=>by
   rw[fG,fG,Ze,Ze]at e;have%[i|j]:=Al (a p Zm) (b q Zm) e;rw[eY i,tt ∅ ∅ (λx d=>a x (Zk _ d)) (λx d=>b x (Zk _ d)) j]
theorem vz(a:rows≠[])(h:∀r∈rows,10∉r.cps.toList):Txt.split (Str.join nl rows) nl=rows:=by
 have e:=StrLaws.join_split (Str.join nl rows) nl;rw[Gm]at e ⊢;refine tt ?_ a (StrLaws.split_free _ 10) h (by rw[e]);intro q;have:=split_pos (Str.join ⟨#[10]⟩ rows) ⟨#[10]⟩
 simp_all
theorem cg.nonl(h:cg rows):∀r∈rows,10∉r.cps.toList:=λr a b=>by
 have:=all_eq_true.mp (h.sign r a) 10 b;exact EW this rfl
theorem cg.split(h:cg rows):Txt.split (Str.join nl rows) nl=rows:=
 vz (λe=>by have:=h.pos;simp_all) h.nonl
theorem qX:∀{xs:List b},(∀x∈xs,f x<=B)->(xs.map f).sum<=xs.length*B
 |[],_=>by simp
 | x::r,h=>by
   have c:=qX λy a=>h y (Zk _ a)
   have d:=h x Zm;rw[Ys,List.sum_cons,Zr,Nat.succ_mul]
   lia
theorem cg.sum(h:cg rows):(rows.map (·.length)).sum<=1600:=by
 have%[wd,_,c|a]:=h.wide;have:=qX (f:=λr:Str=>r.length) λr b=>by have:=a r b;show r.cps.size<=40;lia
 have:=h.high
 grind
theorem cg.text(h:cg rows):(Str.join nl rows).length<=2000:=by
 have a:=StrLaws.join_length_le nl rows;have b:=h.sum;have c:=h.high;have d:nl.length=1:=rfl
 lia
noncomputable def sgn(c:Nat):Str:=⟨#[c]⟩
theorem mK{a:List Nat}(h:∀c∈a,gU c=true):(aK (a.map sgn)).length<=26:=by
 have b:∀x∈aK _,x∈gj.cps.toList.map sgn:=λx d=>by
  have%[c,f|e]:=Xq (br.mp d);exact Xr %[c,Zo (h c f)|e]
 have:=List.Nodup.length_le_of_subset (eG _) b;rw[Z6]at this;have e:gj.cps.toList.length=26:=by decide +kernel
 lia
noncomputable def cJ(rows:ZB):List Nat:=(Str.join (Str.ofString "") rows).cps.toList.filter (λc=>decide (c≠46))
theorem tz:∀(rows:ZB),(Str.join (Str.ofString "") rows).cps.toList=(rows.map (·.cps.toList)).flatten
 |[]=>rfl
 |[x]=>by simp[Str.join]
 | x::y::r=>by
   have e:(Str.ofString "").cps.toList=[]:=rfl;rw[fG,tz _,e,Zz];simp
theorem kz(h:∀r∈rows,r.cps.toList.all okc=true):∀c∈cJ rows,gU c=true:=λc a=>by
 unfold cJ at a;rw[List.mem_filter,tz]at a;have%[b|d]:=a;have%[l,e|f]:=List.mem_flatten.mp b;have%[r,g|rfl]:=Xq e;have:=all_eq_true.mp (h r g) c f;unfold okc at this;rw[or_eq_true]at this;rcases this with q|q
 .exact absurd (Zo q) (Zo d)
 .exact q
theorem cg.signs_ne(h:cg rows):cJ rows≠[]:=by
 have%[r,b,c,d|a]:=h.some';have:c∈cJ rows:=by
  unfold cJ;rw[List.mem_filter,tz];exact%[List.mem_flatten.mpr %[_,Xr %[r,b|rfl]|d]|Zf a]
 grind
noncomputable def qY(z:Str):Bool:=(decide (1<=(z.length:Int))&&decide ((z.length:Int)<=40))&&z.cps.toList.all okc
noncomputable def eI(row a:Str):Bool:=decide (row.length=a.length)&&(List.zip a.cps.toList row.cps.toList).all λp=>!decide (p.2=46)||decide (p.1=46)
theorem cg.row(h:cg rows)(a:r∈rows):qY r=true:=by
 have%[wd,c,d|b]:=h.wide;have e:r.length=wd:=b r a;unfold qY;rw[h.sign r a,e,Zf ⋯,Zf ⋯];rfl
theorem cg.beneath(h:cg rows)(c:rows[i]? =some r)(d:rows[i+1]? =some a):eI a r=true:=by
 have%[wd,m,n|e]:=h.wide;have f:r.length=wd:=e r (Z8 c);have g:a.length=wd:=e a (Z8 d);unfold eI;rw[Zf (g.trans f.symm),Bool.true_and,all_eq_true];intro p l;have%[j|b]:=Xh l;rw[List.getElem?_zip_eq_some]at b;have:=h.fall i r a c d j p.1 p.2 (by simpa using b.1) (by simpa using b.2)
 grind
theorem mL(a:List Nat):(Str.join (Str.ofString "") (a.map sgn))=⟨a.toArray⟩:=by
 refine eY ?_;rw[tz,Yt];show((a.map (λc=>[c])).flatten)=a
 induction a with
 | nil=>rfl
 | cons c r b=>simp_all
theorem qZ:∀a:List Nat,((a.map sgn).map (λx=>x.length)).sum=a.length
 |[]=>rfl
 | c::r=>by
   rw[Ys,Ys,List.sum_cons,qZ r,Zr];show 1+r.length=r.length+1
   lia
end Cut
namespace Cut
open PySem L2
end Cut
namespace L2
open PySem PySem.Spec PyProof.Rows
def Up(B:Heap)(l:List Env)(e:Addr)(cls:Value)(b:ZI)(d:Option Value)(h:Heap):Prop:=
 B.StaysIn h/\B.get? e=none/\h.FunFrames B l/\∃a vs,h.get? e=some a/\a.cls=cls/\a.dict=b/\a.data= .fields vs/\1<vs.size/\
  match d with
  | none=>vs[1]? =some .none
  | some f=>∃T c ts,vs[1]? =some (.ref T)/\B.get? T=none/\T≠e/\h.get? T=some c/\c.data= .fields ts/\ts[3]? =some f
theorem pN(o:Obj)(f:ZJ->ZJ):(o.mapFields f).dict=o.dict:=by
 have%[c,d,a|b]:=o;cases a<;> rfl
section
variable{M:Model}{A:Around}{E:ZD}{s:Shared}{B:Heap}{env:Env}{outer:List Env}{L e:Addr}{cls:Value}{dct:ZI}{Q:Unit->Shared->Prop}
theorem tD(w:A.frames=some (env::outer))(Y:env.frame=some L)(st:B.StaysIn s.heap)(y:B.get? e=none)(p:s.heap.FunFrames B (env::outer))
 (he:s.heap.get? e=some t) (J:t.data= .fields vs) (d:1<vs.size)
 (k:∀h',Up B (env::outer) e t.cls t.dict (some (rawInt L)) h'->s.heap.UpToSlots h'->Q () (s>>>h')):
 wpAny M A (do let a<-frameOf env;let pl<-entryPlaceOf L i;let b<-EntryCells.newEntry N a .none (rawInt L) .none pl;setField (.ref e) 1 b) Q E s:=by
 have C:e∉(env::outer).filterMap _:=λG=>by
  have%[_,o,ho|aa]:=p.mem G
  simp_all
 refine Z2 (wpAny_frameOf_fun w p Y λc u=>Z2 (wpAny_entryPlaceOf λpl H=>Z2 (wpAny_newObj_type ?_ (H.sizeOk5 _ _ _ _ _))))
 generalize j:({cls:= .type _,dict:=none,data:= .fields _}:Obj)=h
 have O:=(u.2.1 e C).trans he;have T:(c.push h).get? e=some t:=Z7 _ O;refine wpAny_setField T J d ?_;have ne:=Zt (Zv O);have l:=Obj.data_mapFields J (·.setIfInBounds 1 (Value.ref c.objs.size));have f:∀b o,b≠e->c.get? b=some o->((c.push h).update e (Obj.mapFields (·.setIfInBounds 1 (Value.ref c.objs.size)))).get? b=some o:=λb o n q=>by
  rw[get?_update_other _ _ (Ne.symm n)];exact Z7 _ q
 have m:B.StaysIn c:=λb o q=>(u.2.1 b λG=>by rw[(p.mem G).1]at q;cases q).trans (st b o q)
 have nb:∀b o,s.heap.get? b=some o->(∀ws,o.data≠ .fields ws)->b≠e:=λb o q v z=>by
  simp_all
 have t3:((c.push h).update e (Obj.mapFields (·.setIfInBounds 1 (Value.ref c.objs.size)))).get? c.objs.size=some h:=by
  rw[get?_update_other _ _ ne];exact Zj c (by subst j;rfl)
 have g:∃ts,h.data= .fields ts/\ts[3]? =some (rawInt L):=by
  subst j;exact%[_,rfl|by simp]
 have%[ts,g|I]:=g;refine k _ %[λb o q=>f b o (λz=>by lia) (m b o q),y,p.of_keeps λb o q v=>?_,_,_,(get?_update_self _ T (Obj.isFreed_of_fields l)),Obj.cls_mapFields _ _,pN _ _,l,by simpa using d,c.objs.size,h,ts,?_,m.fresh,Ne.symm ne,t3,g|I] λb o q v=>?_
 .have%[U|r]:=u.2.2 b o q;exact%[_,f b _ (nb b o q v) r|rfl]
 .simp[d]
 .have%[U|r]:=u.2.2 b o q;exact%[U|f b _ (nb b o q v) r]
theorem wJ(st:B.StaysIn s.heap)(r:B.get? e=none)(w:s.heap.FunFrames B l)
 (y:s.heap.get? e=some c) (C:c.data= .fields vs) (t:1<vs.size) (G:vs[1]? =some (.ref T)) (u:B.get? T=none) (d:T≠e) (v:s.heap.get? T=some H) (h:H.data= .fields ts) (I:ts[3]? =some f)
 (k:∀h',Up B l e c.cls c.dict (some g) h'->h'.get? e=some c->s.heap.UpToSlots h'->Q () (s>>>h')):wpAny M A (setField (.ref T) 3 g) Q E s:=by
 have i:=(Array.getElem?_eq_some_iff.mp I).1;refine wpAny_setField v h i ?_;have a:∀b,b≠T->(s.heap.update T (Obj.mapFields (·.setIfInBounds 3 g))).get? b=s.heap.get? b:=λb n=>get?_update_other _ _ (Ne.symm n)
 have nb:∀b o,s.heap.get? b=some o->(∀ws,o.data≠ .fields ws)->b≠T:=λb o q p z=>by
  simp_all
 have j:=Obj.data_mapFields h (·.setIfInBounds 3 g);have m:=(a e (Ne.symm d)).trans y;refine k _ %[λb o q=>(a b λz=>by lia).trans (st b o q),r,w.of_keeps λb o q p=>%[o,(a b (nb b o q p)).trans q|rfl],c,vs,m,rfl,rfl,C,t,T,_,_,G,u,d,
  get?_update_self _ v (Obj.isFreed_of_fields j),j|by simp[i]] m λb o q p=>%[o.slots|(a b (nb b o q p)).trans q]
theorem wK(i:t=none\/t=some .none)(b:A.frames=some (env::outer))(j:env.frame=some L)(u:Up B (env::outer) e cls dct t s.heap)
 (k:∀h',Up B (env::outer) e cls dct (some (rawInt L)) h'->s.heap.UpToSlots h'->Q () (s>>>h')):wpAny M A (noteFrame (.ref e) env) Q E s:=by
 have%[st,c,v,J,vs,h,rfl,rfl,d,a|r]:=u;unfold noteFrame;simp only[j];rcases i with rfl|rfl
 .exact Z2 (wpAny_field h d r (tD b j st c v h d a k))
 .have%[T,N,ts,w,l,m,y,f|z]:=r;refine Z2 (wpAny_field h d w (Z2 (wpAny_field y f z (Z2 (wJ st c v h d a w l m y f z λh' C n G=>?_)))));have%[o,g,p|_]:=C;exact tD b j o g p n d a λH I q=>k H I (G.trans q)
theorem q0(u:Up B l e cls dct (some f) s.heap)(k:∀h',Up B l e cls dct (some .none) h'->s.heap.UpToSlots h'->Q () (s>>>h')):
 wpAny M A (setFlight (.ref e) none) Q E s:=by
 have%[st,a,m,r,vs,h,rfl,rfl,i,b,T,t,ts,j,c,d,n,g|o]:=u;exact Z2 (wpAny_field h i j (wJ st a m h i b j c d n g o λh' p _ q=>k h' p q))
theorem tE(a:g=none\/g=some .none)(b:A.frames=some (env::outer))(h:env.frame=some L)(u:Up B (env::outer) e cls dct g s.heap)
 (k:∀h',Up B outer e cls dct (some .none) h'->s.heap.UpToSlots h'->Q () (s>>>h')):wpAny M A (leaving env (.ref e)) Q E s:=by
 refine Z2 (wK a b h u λn i c=>q0 i λj l d=>?_);have%[st,f,%[_,_|m]|r]:=l;exact k j %[st,f,m|r] (c.trans d)
end
section
variable{P:Program}{w:World}{H:Hp}{h:Heap}{a:Addr}{o:HO}
theorem ck.there(x:ck P w H h a o):∃b,h.get? a=some b:=by
 cases o with
 | lst xs=>have%[_,_,_,_|e]:=x;exact%[_|e]
 | tup xs=>have%[_,_,_,b,e|_]:=x;exact%[_|e]
 | dK c=>have%[_,_,_,_,o,_,_,e|_]:=x;exact%[_|e]
 | dT c=>have%[_,_,_,_,o,_,_,e|_]:=x;exact%[_|e]
 | set S n=>have%[o,_,_,_,e|_]:=x;exact%[_|e]
 | ins C d fs=>have%[_,_,_,e|_]:=x;exact%[_|e]
 | own y=>have%[_|e]:=x;exact%[_|e]
 | xd fs=>have%[_,%[_,_,_,e|_]|_]:=x;exact%[_|e]
 | rng lo hi=>have%[_,_,_|e]:=x;exact%[_|e]
 | frz b u=>have%[e|_]:=x;exact%[_|e]
 | tbl ps=>exact%[_|(x)]
 | met f y=>exact%[_|(x)]
 | ext g=>have%[_,%[_|e]|_]:=x;exact%[_|e]
end
structure Fl (P:Program) (w:World) (l:List Env) (H:Hp) (s:Shared) (ea:Addr) (B:Heap) (cls:Value) (dx:ZI) (fl:Option Value) (H':Hp) (s':Shared):Prop where
 os:s'.os=s.os
 bare:AllBare s'.gens
 un:Un (frs l) [] H H' s.heap s'.heap
 hok:HOk P w H' s'.heap
 up:Up B l ea cls dx fl s'.heap
 free:H' ea=none
 new:s.heap.get? ea=none
 inB:∀b ob,s'.heap.get? b=some ob->((∃o,s.heap.get? b=some o)\/∃o,H' b=some o)->b∉frs l->B.get? b=some ob
 frf:∀b∈frs l,H' b=none
noncomputable def CXO(P:Program)(w:World):CXT:=λl H s E e s'=>∃a B cls b c,e= .ref a/\Fl P w l H s a B cls b (some .none) c s'/\E cls b c
section
variable{P:Program}{w:World}{l:List Env}{H H':Hp}{s s':Shared}{ea:Addr}{B h':Heap}{cls:Value}{dx:ZI}{fl fl':Option Value}
theorem Fl.fly(F:Fl P w l H s ea B cls dx fl H' s')(st:B.StaysIn h')(y:s'.heap.UpToSlots h'):Un (frs l) [] H H' s.heap h'/\HOk P w H' h':=by
 have p:∀b g,s'.heap.get? b=some g->b∈frs l->∃r,h'.get? b=some _:=λb g q a=>by
  have%[_,d,t|z]:=F.up.2.2.1.mem a;rw[q]at t;cases t;exact y b g q z
 refine%[%[λb o q n a f=>?_,λb o q n a f=>?_,F.un.free,λb o q f=>?_,F.un.tups,F.un.frzs|F.un.tbls]|λb o q=>?_]
 .exact st b o (F.inB b o (F.un.keep b o q n a f) (.inl %[o|q]) a)
 .have%[r|e]:=F.un.slot b o q n a f;have%[h|i]:=p b _ e a;exact%[h|i]
 .have%[d|e]:=F.un.there b o q f;by_cases a:b∈frs l
  .have%[r|i]:=p b d e a;exact%[_|i]
  .exact%[d|st b d (F.inB b d e (.inl %[o|q]) a)]
 .refine(F.hok b o q).stay (λc u j e=>?_) (λ_ e=>e) λ_ _ e=>e
  have A:∃v,H' c=some v:=by
   rcases j with rfl|j
   .exact%[_|q]
   .exact%[_|j]
  have%[v|m]:=A;exact st c u (F.inB c u e (.inr %[v|m]) λa=>by rw[F.frf c a]at m;cases m)
end
section
variable{P:Program}{w:World}{K:ZA}{mg:ZC}{base:Heap}{N:ZB}{qual:Str}{scope:Scope}{f:Addr}{cd:Value}{A:Around}{outer:List Env}{s₀:Shared}{H₀:Hp}{E:XK}
theorem Am(i:t=none\/t=some .none)
 (I:Inv (eB (CXO P w) P w K mg base N qual scope f cd A outer s₀ H₀ E) pins G H s) (F:Fl P w (envOfC qual scope ⇑s₀ f cd::outer) H s d B cls v t g s') (q:E cls v g):
 (eB (CXO P w) P w K mg base N qual scope f cd A outer s₀ H₀ E).xe (.ref d) s':=by
 refine tE i I.ok.frames rfl F.up λh' u L=>?_
 have%[un|j]:=F.fly u.1 L;have J:Inv _ pins G g (s'>>>h'):=I.call' F.os un j F.bare λb z=>absurd z ∅
 refine%[d,B,cls,v,g,rfl,%[J.os,J.bare,J.base,J.hok,u,F.free,?_,λb ob e h M=>?_|λb h=>F.frf b (mem_filterMap.mpr ?_)]|q]
 .cases z:s₀.heap.get? d with
  | none=>rfl
  | some o=>
    have%[o'|e]:=I.base.there d o z (by simp[eB]);rw[F.new]at e;cases e
 .have O:b∉frs (envOfC qual scope ⇑s₀ f cd::outer):=λQ=>by
   rcases mem_cons.mp (Q)with z|z
   .rcases h with⟨o,c⟩|⟨o,c⟩
    .exact absurd (Zv c) (z▸Xl _)
    .have:=J.free;rw[show(eB _ P w K mg base N qual scope f cd A outer s₀ H₀ E).env.locals=b from z.symm,c]at this;cases this
   .exact M z
  have l:∃a,s'.heap.get? b=some a/\((∃o,s.heap.get? b=some o)\/∃o,g b=some o):=by
   rcases h with⟨o,c⟩|⟨o,c⟩
   .have%[y|C]:=I.base.there b o c (by simp[eB]);have%[n|p]:=F.un.there b y C ∅;exact%[n,p|.inl %[y|C]]
   .have%[n|p]:=(F.hok b o c).there;exact%[n,p|.inr %[o|c]]
  have%[a,T|r]:=l;have U:=F.inB b a T r O;have:=u.1 b a U
  grind
 .have%[Y,m|q]:=mem_filterMap.mp h;exact%[Y,mem_cons.mpr (.inr m)|q]
theorem CD(a:∀c d H,b c d H->E c d H):f6 (CXO P w) (eB (CXO P w) P w K mg base N qual scope f cd A outer s₀ H₀ E) b:=by
 intro pins g H s e s' I %[h,B,cls,i,j,rfl,F|q];exact Am (.inr rfl) I F (a _ _ _ q)
end
noncomputable abbrev EX(vs:ZF):Obj:={cls:= .type "tuple",data:= .seq vs.toArray}
noncomputable abbrev Gn(C t:Addr):Obj:={cls:= .ref C,data:= .fields #[.ref t,.none,.none,.none,.bool false,.none]}
noncomputable abbrev vA(h:Heap)(C:Addr)(vs:ZF):Heap:=(h.push (EX vs)).push (Gn C h.objs.size)
theorem tF(h:Heap)(C:Addr)(vs:ZF):(vA h C vs).get? (h.objs.size+1)=some (Gn C h.objs.size):=by
 heap_get
theorem fH(b:Addr)(o:Obj)(e:h.get? b=some o):(vA h C vs).get? b=some o:=
 Z7 _ (Z7 _ e)
section
variable{prog:Program}{w:World}{A:Around}{E:ZD}{h:Heap}{g:Array GenState}{d:Drawn}{t:Nat}{os:OsState}
variable{nm q:Str}{C N:Addr}{bs bm bmB:ZF}{hdct:Bool}{sn:ZB}{sub:ZF}{ab:Bool}{col:Option Bool}{dd:ZI}{k0 k1 k2 k3 k5:Option Value}{B newId initId:String}
theorem ya(F:ExcBaseFacts B newId initId bmB)(T:OwnTail h bmB bm){rest:ZF}
 (b:h.get? C=some (excClassObj nm q C N bs bm hdct sn sub ab col dd k0 k1 k2 k3 k5 newId)) (m:h.Ns N i) (hi:i "__init__"=some (.ref j)) (c:h.get? j=some n) (e:n.cls= .type "function") (a:rest.length<=sizeLine)
 (o:↥A (call (.ref j) (.ref (h.objs.size+1)::rest)) (λr s'=>r= .none/\Q (.done (.ret (.ref (h.objs.size+1)))) s') E %[vA h C rest,g,d,t|os]):
 ↥A (Builtin.«type.__call__» %[.ref C::rest|[]]) Q E %[h,g,d,t|os]:=by
 repeat (first|with_reducible refine wpAny_loadPart_at b ?_|with_reducible refine wpAny_madeBy_exc b ?_|wp_step)
 refine codeAny_call_builtin_code (Code.quiet_builtin _ F.quiet) (wpAny_check_new_subT F T b ?_);refine codeAny_exc_new_subT F T b ?_ a;have l:=fH (C:=C) (vs:=rest) _ _ b;have p:=fH (C:=C) (vs:=rest) _ _ c;have n1:(vA h C rest).Ns N i:=m.keeps fH;have s:=tF h C rest;have f:(Value.ref C::bm).contains (.ref C)=true:=by simp
 unfold isInstance
 repeat (first|with_reducible refine wpAny_loadPart_at s ?_|(with_reducible refine wpAny_isSubtype_exc l ?_;rw[f])|wp_step)
 show wpAny _ _ (typeLookup (.ref C) _) _ _ _;refine wpAny_typeLookup_tail l n1 (T.keeps (h':=vA h C rest) fH) F.mroIs F.init.lookup ?_;rw[hi];refine wpAny_holding (Z2 ?_);unfold bindSpecial;refine Z2 (wpAny_typeOf (T:="function") %[_,p|e] ?_);rw[if_pos (by decide)];refine Z3 (Z2 (wpAny_mono o (λr s' u=>?_) λ_ _ x=>x));have%[rfl|v]:=u
 wp_walk
 exact v
theorem yb(F:ExcBaseFacts B newId initId bmB)(T:OwnTail h bmB bm){rest:ZF}
 (b:h.get? C=some (excClassObj nm q C N bs bm hdct sn sub ab col dd k0 k1 k2 k3 k5 newId)) (i:h.Ns N j) (hi:j "__init__"=some (.ref f)) (c:h.get? f=some l) (e:l.cls= .type "function") (a:rest.length<=sizeLine)
 (m:wpAny (model prog w) (A.under (.builtin "type.__call__" %[.ref C::rest|[]])) (call (.ref f) (.ref (h.objs.size+1)::rest)) (λr s'=>r= .none/\Q (.ref (h.objs.size+1)) s') E %[vA h C rest,g,d,t|os]):
 ↥A (call (.ref C) rest) Q E %[h,g,d,t|os]:=by
 have n:=tc_lookup;have o:=tc_bind (.ref C);have p:(%[h,g,d,t|os]:Shared).TypeIs (.ref C) "type":=%[_,b|rfl]
 refine wpAny_call (codeAny_of_tree ?_);show wpAny _ _ (callAny (.ref C) _) _ _ _
 repeat (any_goals (first|assumption|with_reducible refine wpAny_loadPart_at b ?_|wp_step))
 refine%[rfl|?_];exact codeAny_call_builtin_at (Code.quiet_builtin _ (by decide +kernel)) entry_typeCall (wpAny_check_type_call_sub b (ya F T b i hi c e a m))
end
noncomputable abbrev veB:ZF:=[.type "ValueError",.type "Exception",.type "BaseException",.type "object"]
noncomputable def bp:ZF->Bool
 | .ref c::r=>bp r
 | l=>l==veB
theorem iW(self:Value):∀{l:ZF},bp l=true->refuseLoop self "__setattr__" l=pure ()
 | .ref c::r,e=>by rw[refuseLoop_ref];exact iW self e
 | .type n::r,e=>by
   have a:(Value.type n::r)=veB:=by simpa [bp]using e
   exact a▸PySem.F.store_ValueError.passes self
 |[],e=>by simp[bp]at e
 | .none::r,e=>by simp[bp]at e
 | .bool _::r,e=>by simp[bp]at e
 | .int _ _::r,e=>by simp[bp]at e
 | .str _ _::r,e=>by simp[bp]at e
 | .builtin _::r,e=>by simp[bp]at e
 | .float _ _::r,e=>by simp[bp]at e
 | .bytes _ _::r,e=>by simp[bp]at e
 | .ellipsis::r,e=>by simp[bp]at e
 | .notImplemented::r,e=>by simp[bp]at e
theorem mO(n:String)(a:veB.contains (.type n)=true):∀{l:ZF},bp l=true->l.contains (.type n)=true
 | .ref c::r,e=>by rw[List.contains_cons,mO n a (l:=r) e,Bool.or_true]
 | .type m::r,e=>by
   have b:(Value.type m::r)=veB:=by simpa [bp]using e
   exact b▸a
 |[],e=>by simp[bp]at e
 | .none::r,e=>by simp[bp]at e
 | .bool _::r,e=>by simp[bp]at e
 | .int _ _::r,e=>by simp[bp]at e
 | .str _ _::r,e=>by simp[bp]at e
 | .builtin _::r,e=>by simp[bp]at e
 | .float _ _::r,e=>by simp[bp]at e
 | .bytes _ _::r,e=>by simp[bp]at e
 | .ellipsis::r,e=>by simp[bp]at e
 | .notImplemented::r,e=>by simp[bp]at e
noncomputable def rc(K:ZA)(C:Addr):Bool:=(clsIn K C).any λa=>bp a.mro
section
#where
variable{K:ZA}{x C:Addr}{name:Str}{v:Value}{ox:Obj}{od:Option Obj}
theorem EY{R:Result->Shared->Prop}(X:K.In s.heap)(I:PySem.W.InstAt s.heap x ox C od)(j:rc K C=true)(l:findIn K (.ref C) name=some none)
 (h:↥A.in1 (Builtin.ObjectAttr.storeInOwnDict (.ref x) (.ref C) (.str name tk) name v false)
  (λc s'=>match c with| .done f=>R (.ok f) s'| .again g=>g.quiet=true/\codeAny (model prog w) A g R s') (λe s'=>R (.error e) s') s):
 codeAny (model prog w) A (.call (.builtin "object.__setattr__") %[[.ref x,.str name tk,v]|[]]) R s:=by
 have a:=PySem.F.store_object;have%[d,i|b]:=any_some j;have ne:d.mro.isEmpty=false:=by cases q:d.mro with|nil=>rw[q]at b;simp[bp]at b|cons _ _=>rfl
 refine codeAny_call_builtin a.slot.plain a.entry (@check_slot _ _ _ s _ _ _ _ _ [] _ a.kind a.split (I.type.andThen (PySem.W.looks_mroIn X (by unfold mroIn;rw[i,bind_some,if_neg (by rw[ne];decide),(mO _ (by decide) b)]))) (a.args _ _ v) ?_);have m:Looks (model prog w) s.heap (mroOf (.ref C)) d.mro:=(looks_clsIn X i).andThen .now;rw[PySem.W.osa_eq,refuse_eq];refine Z2 (Z2 (I.type.here (Z2 (m.here ?_))));rw[iW _ b];exact Z3 (Z2 (I.type.here (Z2 ((looks_findIn X l).here (Z2 (Z3 h))))))
theorem CF(X:K.In s.heap)(g:s.heap.get? x=some ox)(i:ox.cls= .ref C)(j:ox.data= .fields vs)(l:ox.dict=none)
 (u:findIn K (.ref C) "__setattr__"=some (some (.builtin "object.__setattr__"))) (z:rc K C=true) (B:findIn K (.ref C) name=some none) (G:hasDictIn K C=true)
 (h:∀h',h'.get? x=some {ox with dict:=some ⇑s}->h'.Ns1 ⇑s (λy=>if y=name then some v else none)->(∀b o,b≠x->s.heap.get? b=some o->h'.get? b=some o)->Q () {s with heap:=h',toks:=s.toks+2}):
 ↥A (setAttr (.ref x) name v) Q E s:=by
 have%[Y,H,I|L]:=ox;subst i j l;have J:PySem.W.InstAt s.heap x _ C none:=%[g,rfl,rfl|trivial]
 refine set_plain X J u (EY X J z B ?_);have%[cd,M|m]:=any_some G;refine Z2 (Z3 (Z2 (Z2 (wpAny_loadPart g (Z2 (Looks.here (looks_clsIn X M) ?_))))));rw[m];have a:(s.heap.push {cls:= .type "dict",data:= .dict #[]}).get? x=some _:=Z7 _ g;have c:=Zt (Zv g);refine Z2 (wpAny_alloc' (Z2 (wpAny_update' a (Z3 ?_))));have n:((s.heap.push {cls:= .type "dict",data:= .dict #[]}).update x λo=>{o with dict:=some ⇑s}).get? ⇑s=some _:=
  (get?_update_other _ _ c).trans (Heap.get?_push_at rfl rfl)
 have p:((s.heap.push _).update x _).Ns ⇑s _:=
  %[_,#[],_,n,rfl,λe N=>absurd N ∅|λ_=>rfl]
 refine Z2 (Z3 (Z2 (wpAny_nsSet1 (Heap.Ns1.of_empty p) λh' d f=>?_)));have%[oD,O,T,q,r|t]:=d.count (PySem.Within.cons name v PySem.Within.nil);refine Z2 (wpAny_lookBehind q (r▸pastItsLine_dict (Yi t ∅)) (Z3 (h h' ?_ d λb o U e=>?_)))
 .exact(f.2 x c).trans (get?_update_self _ a rfl)
 .exact(f.2 b (Zt (Zv e))).trans ((get?_update_other _ _ (Ne.symm U)).trans (Z7 _ e))
end
noncomputable def ExO(a C:Addr)(d:ZI):HO:= .ext λh=>∃o vs,h.get? a=some o/\o.cls= .ref C/\o.dict=d/\o.data= .fields vs/\1<vs.size/\vs[1]? =some .none
theorem ExO.ok{P:Program}(e:h.get? a=some o)(c:o.cls= .ref C)(f:o.dict=d)(g:o.data= .fields vs)(i:1<vs.size)(b:vs[1]? =some .none):
 ck P w H h a (ExO a C d):=
 %[%[o,vs,e,c,f,g,i|b],%[o|e]|λb j ⟨o,vs,e,r⟩ k=>%[o,vs,k o e|r]]
theorem An(h:H a=some o):upd H a o=H:=by
 funext b;unfold upd;simp_all
noncomputable def exK(K:ZA)(C f:Addr):Bool:=match K.lookup C with
 | some ⟨.type "type",_,.cls a,b⟩=>(match a.mro,b.toList with
   | .ref c::d,[_,_,_,_,some (.builtin n),_]=>c==C&&n=="ValueError.__new__"&&!a.hasDel&&PySem.W.tailIn K veB d&&PySem.W.nsOkIn K a.ns&&nsIn K a.ns "__init__"==some (some (.ref f))
   | _,_=>false)
 | _=>false
theorem vB{K:ZA}{h:Heap}{mg:ZC}(X:K.In h)(G:h.Ns N mg)(e:nsIn K N n=some (some v)):mg n=some v:=by
 have%[o,j,l,a,b,_|f]:=G;unfold nsIn at e
 split at e
 .rename_i c d g m p q
  have:=X _ _ q;rw[a]at this;cases this;cases b
  split at e
  .rename_i r i
   cases e;rw[<-f];unfold nsFind findBy;rw[<-Array.find?_toList,i];rfl
  simp_all
 .cases e
theorem vC{K:ZA}(X:K.In h)(q:exK K C f=true):∃o p N bs g b r sub s c t i k1 k2 j l u,
 h.get? C=some (excClassObj o p C N bs g b r sub s c t i k1 k2 j l "ValueError.__new__")/\h.Ns N u/\u "__init__"=some (.ref f)/\OwnTail h veB g:=by
 unfold exK at q
 split at q
 .rename_i t w y z
  split at q
  .rename_i I g i k1 k2 j n l v A
   simp only[Zx,beq_iff_eq,Bool.not_eq_true']at q;have%[%[%[%[%[rfl|rfl]|a]|B]|d]|e]:=q;have%[o,bs,E,J,p,L,r,sub,s,c|H]:=w;dsimp only at v a d e;subst v a;have m:y= #[i,k1,k2,j,some (.builtin "ValueError.__new__"),l]:=by
    rw[<-A]
   subst m;have G:=PySem.Heap.Ns.of_isNs (PySem.W.isNs_of_in X d);exact%[_,_,_,_,_,_,_,_,_,_,_,_,_,_,_,_,_,X _ _ z,G,vB X G e|PySem.W.tail_of_in X B]
  .lia
 .lia
section
variable{X:Cx}{C f:Addr}
theorem vD(y:exK X.K C f=true):bX X (.builtin "ValueError.__init__") (λxs H Q=>∃a d ys,xs=V.ref a::ys/\ys.length<=9/\H a=some (ExO a C d)/\Q .non H):=by
 intro pins s A H xs us Q I r h;have%[a,d,ys,rfl,Y,g|q]:=h;cases r with
 | cons B E=>
   rename_i u ws
   obtain rfl:u=Value.ref a:=B;have%[%[o,vs,e,t,G,i,L|M]|_]:=I.hok a _ g;have%[nm,qn,N,bs,bm,v,sn,sub,ab,O,dd,k0,k1,k2,k3,k5,mN,U,hN,hi|T]:=vC I.kIn y;have F:=PySem.F.excBase_ValueError;have j:ws.length<=sizeLine:=by rw[<-E.length,sizeLine_eq];lia
   refine wpAny_call (codeAny_call_builtin F.init.plain F.initEntry (wpAny_check_init_subT F T U e t ?_));have l:∃m,vs[0]? =some m:=%[vs[0]'⋯|Array.getElem?_eq_getElem ⋯]
   have%[m|l]:=l;have p:(s.heap.push (EX ws)).get? a=some o:=Z7 _ e;have c:=Obj.data_mapFields i (·.setIfInBounds 0 (Value.ref ⇑s));have w:=get?_update_self (Obj.mapFields (·.setIfInBounds 0 (Value.ref ⇑s))) p (Obj.isFreed_of_fields c);have J:Inv X pins A H (s>>>((s.heap.push (EX ws)).update a (Obj.mapFields (·.setIfInBounds 0 (Value.ref ⇑s))))):=by
    have:=I.write (x:=a) (e:=a) (o:=ExO a C d) (t':=s.toks) (g▸True.intro) (.inl rfl)
     (λb u n z=>by rw[get?_update_other _ _ (Ne.symm n)];exact Z7 _ z) %[_|w]
     (ExO.ok w ((Obj.cls_mapFields _ _).trans t) ((pN _ _).trans G) c (by simpa using L) (by rw[Array.getElem?_setIfInBounds_ne ∅];exact M))
    rw[An g]at this;exact this
   refine Z2 (wpAny_newTuple (Z2 (Z2 (wpAny_field p i l (Z2 (wpAny_setField p i ⋯ ?_))))) j);cases m with
   | ref b=>exact wpAny_letGo (Z3 %[.non,H,J,rfl|q])
   | _=>exact Z3 (Z3 %[.non,H,J,rfl|q])
end
section
variable{X:Cx}{pins:ZE}{σ:St}{H:Hp}{s s':Shared}
theorem Inv.stood2(I:Inv X pins σ l s)(J:Inv X pins σ H s')(c:H a=none)(d:⇑s<=a)(new:ck X.prog X.w (upd H a o) s'.heap a o):Inv X pins σ (upd H a o) s':=by
 refine%[J.ok,J.os,J.bare,?_,J.loc,J.cell,?_,?_,?_,?_|J.len]
 .refine%[J.base.keep,J.base.slot,λb o e n j=>?_,J.base.there,λb xs e=>?_,λb o v e=>?_|λb ps e=>?_]
  .rw[ao ((λb o e=>Zt (Zg (Zg (Zv e) I.sz) d)) b o e)];exact J.base.free b o e n j
  .rw[ao (aw (J.base.tups b xs e) c)];exact J.base.tups b xs e
  .rw[ao (aw (J.base.frzs b o v e) c)];exact J.base.frzs b o v e
  .have%[m|q]:=J.base.tbls b ps e;exact%[m|(ao (aw q c))▸q]
 .rw[ao (Zt (Zg I.lt d))];exact J.free
 .intro g f e;have%[t|q]:=I.cell g f e;rw[ao (Zt (Zg q.lt d))];exact J.freeC g f e
 .intro p h;have%[e,n|r]:=J.pin p h;refine%[e,?_|r];rw[ao (Zt (Zg (Zv (I.pin p h).1) d))];exact n
 .intro b v e;by_cases i:b=a
  .subst i;rw[ae]at e;cases e;exact new
  .rw[ao i]at e;refine(J.hok b v e).stay (λ_ _ _ q=>q) (λf q=>?_) λf xs q=>?_
   .rw[ao (aw q c)];exact q
   .rw[ao (aw q c)];exact q
end
structure Ao (K:ZA) (D:Addr):Prop where
 ga:specialIn K (.ref D) "__getattribute__"=some (some (.builtin "type.__getattribute__"))
 rd:readsIn K D (.type "type")=true
 at_:findCls K (.ref D) (.type "type") "__init__"=some (.val (.builtin "ValueError.__init__"))
structure EZ (K:ZA) (C:Addr) (f:Str):Prop where
 sa:findIn K (.ref C) "__setattr__"=some (some (.builtin "object.__setattr__"))
 ov:rc K C=true
 no:findIn K (.ref C) f=some none
 hd:hasDictIn K C=true
section
variable{X:Cx}{C D f:Addr}{x nm:Str}{p pos pos' apos:Pos}{e o value:Expr}{es:List Expr}{t:TA}{ta tv:TE}{r:List V->Hp->VK->Prop}
theorem Ap(g:Gl X x)(i:X.mg x=some (.ref D))(B:Ao X.K D)(j:bX X (.builtin "ValueError.__init__") r)(l:PA X (e::es) t)(a:(x==("__debug__":Str))=false)
 (m:starEach (e::es) X.env=(false,eval e X.env)::starEach es X.env) (b:(backTo pos (starEach es X.env)).any (·.1)=false)
 (n:eval (.Call (.Attribute (.Name x p) "__init__" apos) (e::es) [] pos) X.env=(do
  let c<-eval (.Name x p) X.env
  standAt apos.atName
  let(f,first)<-holding [c] (getMethod c "__init__" pl)
  callWith pos f first (backTo pos (starEach (e::es) X.env)) (backToKw pos (keywordEach [] X.env)))):
 PE X (.Call (.Attribute (.Name x p) "__init__" apos) (e::es) [] pos) (tCB r t):=by
 intro pins s d H Q I h;exact PySem.W.methodCall_KW (eV I g i (PySem.W.method_cls I.kIn B.ga (PySem.W.cls_value I.kIn B.rd B.at_ (by decide) (PyProof.Rows.callWith_builtin1 (thP (l pos pins _ d H _ (I.tok _) h) λus q vs u v w y=>j pins q d u vs us Q v w y) m b))) a) n
def Dx(K:ZA)(C:Addr)(ta tv:TE)(f:Str):TS:=λD b H=>tv b H λy g=>ta b g λx c=>∃a,x= .ref a/\c a=some (ExO a C none)/\
 ∀d,c d=none->d≠a->D.nx b (upd (upd c a (ExO a C (some d))) d (.xd [(f,y)]))
theorem CG(c:EZ X.K C nm)(E:PE X o ta)(G:PE X value tv)(J:swapsWith value (some (.Attribute o nm pos')) pos.line X.env=pure false):PS X (.Assign [.Attribute o nm pos'] value pos) (Dx X.K C ta tv nm):=by
 intro pins s j H D I h;refine plainObj_wpAny_Assign_Attribute (thP (G pins s j H _ I h) λu L y M N O q=>thP (E pins L j M _ N q) λQ l x H2 d T ⟨a,ex,m,U⟩=>?_) J;subst ex;obtain rfl:Q=Value.ref a:=T;have%[%[ob,vs,e,v,Y,w,hz|h1]|_]:=d.hok a _ m;have i:=X2 (Zv e);have A:=d.hok.fresh (Zi _);refine CF d.kIn e v w Y c.sa c.ov c.no c.hd λh' B n' k=>%[j,_,?_|U ⇑l A i]
 refine Inv.stood2 d (d.write (t':=l.toks+2) (m▸True.intro) (.inl rfl) (λb u n z=>k b u n z) %[_|B] (ExO.ok B v rfl w hz h1)) ((ao i)▸A) (Zi _) %[_,n'|λg=>?_];by_cases z:g=nm
 .rw[if_pos z,z];simp only[List.lookup,beq_self_eq_true];exact O
 .rw[if_neg z];have z':(g==nm)=false:=by simpa using z
  simp only[List.lookup,z'];exact True.intro
end
def E3(b:TE):TE:=λc H Q=>b c H λv a=>(∃i:Int,v= .int i/\i.natAbs<2^64/\Q (.str (toString i)) a)\/∃y:Str,v= .str y/\y.length<=sizeLine/\Q (.str y) a
def mP:List TE->Str->TE
 |[],out=>λa H Q=>out.length<=sizeLine/\Q (.str out) H
 | t::ts,out=>λa H Q=>t a H λv b=>∃y:Str,v= .str y/\(out++y).length<=sizeLine/\mP ts (out++y) a b Q
inductive PJ (X:Cx):List Expr->List TE->Prop
 | nil:PJ X [] []
 | cons {e:Expr} {es:List Expr} {t:TE} {ts:List TE}:PE X e t->PJ X es ts->PJ X (e::es) (t::ts)
section
variable{X:Cx}{e v1 v2:Expr}{rest:List Expr}{te t1 t2:TE}{ts:List TE}{pos:Pos}
theorem E4(c:PE X e te):PE X (.FormattedValue e (-1) none pos) (E3 te):=by
 intro pins s d H Q I h;refine FormattedValue_plain (thP (c pins s d H _ I h) λu j v a b r q=>?_);rcases q with⟨i,rfl,hi,q⟩|⟨y,rfl,f,q⟩
 .have%[t|rfl]:=(show∃t,u=Value.int i t from r)
  have g:i.natAbs.log2<1920:=by
   by_cases z:i.natAbs=0
   .rw[z];decide
   .exact(Nat.log2_lt z).mpr (Zg hi (Nat.pow_le_pow_right (by decide) ∅))
  exact formatField_int_small g %[V.str (toString i),a,b.tok _,%[_|rfl]|q]
 .have%[t|rfl]:=(r)
  exact formatField_str (λt' tk=>%[.str y,a,b.tok _,%[_|rfl]|q]) f
theorem Aq(h:PJ X c ts):∀(out:Str) (pins:ZE) (s:Shared) (a:St) (H:Hp) (Q:VK),Inv X pins a H s->mP ts out a H Q->
 (~~~X) (joinParts out (evalEach c X.env)) (EP X pins a Q) X.xe s:=by
 induction h with
 | nil=>exact λout pins s a H Q I ⟨b,q⟩=>joinParts_nil %[.str out,H,I.tok _,%[_|rfl]|q] b
 | cons d _ f=>
   intro out pins s a H Q I q;refine joinParts_cons (thP (d pins s a H _ I q) λu g v i j r ⟨y,l,b,m⟩=>?_);subst l;have%[t|rfl]:=(r)
   exact%[b|f _ pins g a i Q j m]
theorem CH(h:PJ X (v1::v2::rest) ts):PE X (.JoinedStr (v1::v2::rest) pos) (mP ts Str.empty):=λpins s a H Q I q=>
 JoinedStr_many (Aq h _ pins s a H Q I q)
end
def vE(C:Addr)(sp:Sp)(t:TA):TE:=λb H Q=>t b H λvs a=>vs.length<=9/\∀x,a x=none->sp (.ref x::vs) (upd a x (ExO x C none)) (λv c=>v= .non/\Q (.ref x) c) E0
structure MkX (K:ZA) (C f:Addr):Prop where
 ex:exK K C f=true
 fn:(K.lookup f).map (·.cls)=some (.type "function")
 kp:keepIn K (.ref C)=true
section
variable{X:Cx}{k:Nat}{f C:Addr}{fd:FuncData}{ps:ZB}{sp:Sp}{x:Str}{p pos cpos:Pos}{e:Expr}{es:List Expr}{te:TE}{t:TA}
theorem yc(M:MkX X.K C f)(F:fC X.prog X.w X.K X.mg X.base CX0 k f fd ps sp)(w:bB (k+1) X.A)(y:cW X.K fd ps [])
 (I:Inv X pins j H s) (r:aC vs us) (hv:vs.length<=9)
 (h:∀x,H x=none->sp (.ref x::vs) (upd H x (ExO x C none)) (λv z=>v= .non/\Q (.ref x) z) E0):
 (~~~X) (call (.ref C) us) (EP X pins j Q) X.xe s:=by
 have%[i,g,d,tk|os]:=s;have%[nm,qn,N,bs,bm,n,sn,sub,ab,A,dd,k0,k1,k2,k3,k5,mN,B,E,hi|T]:=vC I.kIn M.ex;have%[oI,G|l]:=map_eq_some_iff.mp M.fn;refine yb PySem.F.excBase_ValueError T B E hi (I.kIn _ _ G) l (by rw[<-r.length,sizeLine_eq];lia) ?_;have J:Inv X pins j H %[vA i C us,g,d,tk|os]:=I.keptS fH rfl rfl;have m:Inv X pins j (upd H _ (ExO _ C none)) _:=
  I.stoodS J (Yh _) (ExO.ok (tF i C us) rfl rfl rfl ∅ rfl)
 have o:=h _ (I.hok.fresh (Yh _));have q:aC (V.ref (i.objs.size+1)::vs) _:= .cons rfl r;have b:(Value.ref (i.objs.size+1)::us++[]).length=ps.length:=by
  rw[Zz,<-q.length];exact F.len _ _ _ _ o
 have c:=y _ _ m.kIn b;rw[Zz]at c;refine wpAny_call (codeAny_mono (F.run _ X.stack _ _ _ _ _ _ E0 (w.make C us []) (m.env0.make C us []) c q o) λr s' a=>?_);cases r with
 | error e=>exact False.elim a
 | ok L=>
   cases L with
   | ret u=>
     have%[v,O,U,Y,ev|q3]:=m.after a;subst ev;exact%[Y,V.ref _,O,U,rfl|q3]
   | next=>exact False.elim a
   | brk=>exact False.elim a
   | cont=>exact False.elim a
theorem Ar(M:MkX X.K C f)(F:fC X.prog X.w X.K X.mg X.base CX0 k f fd ps sp)(d:bB (k+1) X.A)(g:Gl X x)(i:X.mg x=some (.ref C))(j:cW X.K fd ps [])
 (l:PA X (e::es) t) (a:(x==("__debug__":Str))=false) (m:starEach (e::es) X.env=(false,eval e X.env)::starEach es X.env) (b:(backTo pos (starEach es X.env)).any (·.1)=false):
 PE X (.Call (.Name x p) (e::es) [] pos) (vE C sp t):=by
 intro pins s n H Q I h;exact wpAny_Call_Name_kw (eV I g i (callWith_K I.ok.mod.kin M.kp (thP (l pos pins s n H _ I h) λus u vs v c r ⟨o,q⟩=>%[c.kIn|yc M F d j c r o q]) m b) a)
def rh(C:Addr)(te:TE)(W:Addr->Hp->Prop):TS:=λ_ c H=>te c H λv b=>∃a d,v= .ref a/\b a=some (ExO a C (some d))/\W a b
theorem As{W:Addr->Hp->Prop}(A:exK X.K C f=true)(B:X.calm=true)(E:PE X e te)
 (G:∀(pins:ZE) (i:St) (H:Hp) (s:Shared) (a d:Addr),Inv X pins i H s->H a=some (ExO a C (some d))->W a H->X.xe (.ref a) s):PS X (.Raise (some e) none pos) (rh C te W):=by
 intro pins s i H D I h;show wpAny _ X.A (do standAt pos;raiseStmt X.env (some (do let v<-eval e X.env;standAt pos;pure v)) none) _ _ s;refine Z2 (wpAny_standAt ?_);unfold raiseStmt;refine Z2 (Z2 (thP (E pins s i H _ I h) λu m v J j r ⟨a,d,L,n,q⟩=>Z2 (wpAny_standAt (Z3 ?_))));subst L;obtain rfl:u=Value.ref a:=r;have%[%[M,vs,O,c,o,w,hz|Q]|_]:=j.hok a _ n;have%[nm,qn,N,bs,U,y,sn,sub,ab,Y,dd,k0,k1,k2,k3,k5,mN,z,hN,hi|T]:=vC j.kIn A;have l:(Value.ref C::U).contains (.type "BaseException")=true:=by rw[List.contains_cons,T.hasType (b:=true) (by decide),Bool.or_true]
 have hE:=G pins i J m a d j n q;have%[hp,g,dr,tk|os]:=m;have%[oc,od,aa|ac]:=M;dsimp only at c o w;subst c o w;have hh:X.A.handled=none:=j.ok.hd B
 repeat (first|with_reducible refine wpAny_loadPart_at O ?_|with_reducible refine wpAny_loadPart_at z ?_|(with_reducible refine wpAny_isSubtype_exc z ?_;rw[l])|wp_step)
 rw[Q];refine Z3 ?_;rw[if_neg (by decide)];exact Z3 (wpAny_raiseNew_none hh hE)
end
noncomputable def drop(H:Hp)(a:Addr):Hp:=λb=>if b=a then none else H b
theorem fJ:drop H a a=none:=by unfold drop;rw[if_pos rfl]
theorem bD(h:b≠a):drop H a b=H b:=by unfold drop;rw[if_neg h]
theorem yd{P:Program}{K:ZA}
 (hk:exK K C f=true) (he:PE (eB (CXO P w) P w K mg base N h g p r A outer s₀ H₀ E) e te):
 PS (eB (CXO P w) P w K mg base N h g p r A outer s₀ H₀ E) (.Raise (some e) none pos) (rh C te λa H=>∃d,H a=some (ExO a C (some d))/\H₀ a=none/\E (.ref C) (some d) (drop H a)):=by
 refine As hk rfl he λpins σ H s a ag I _ ⟨d,G,hn,q⟩=>?_
 have%[%[oe,vs,ea,U,hd,hf,hz|h1]|_]:=I.hok a _ G;have ST:=I.stack;have Y:=I.stkFree;have L0:⇑s₀<=(envOfC h g ⇑s₀ p r).locals:=Zi _;show wpAny (model P w) (A.deeper (envOfC h g ⇑s₀ p r)) (leaving (envOfC h g ⇑s₀ p r) (.ref a)) _ _ s;have aa:a∉frs (envOfC h g ⇑s₀ p r::outer):=λz=>by
  have:=Y a z;rw[G]at this;cases this
 refine tE (.inl rfl) I.ok.frames rfl %[λb o z=>of_hideAll _ z,PySem.W.hideAll_none _ (mem_cons.mpr (.inl rfl)),PySem.W.funFrames_hide ST λen ab b i=>mem_cons.mpr (.inr (mem_filterMap.mpr %[en,ab|i])),oe,vs,ea,U,hd,hf,hz|h1] λh' u sm=>?_
 have B:∀b o,s.heap.get? b=some o->b≠a->b∉frs (envOfC h g ⇑s₀ p r::outer)->h'.get? b=some o/\(hideAll s.heap (a::frs (envOfC h g ⇑s₀ p r::outer))).get? b=some o:=λb o z n1 n2=>by
  have hB:=hideAll_get (a::frs (envOfC h g ⇑s₀ p r::outer)) z λm=>(mem_cons.mp m).elim n1 n2
  exact%[u.1 b o hB|hB]
 have Q:∀b o,s.heap.get? b=some o->b∈frs (envOfC h g ⇑s₀ p r::outer)->∃sl,h'.get? b=some {o with slots:=sl}:=λb o z i=>by
  have%[_,o',z'|L]:=ST.mem i;rw[z]at z';cases z';exact sm b o z L
 have nL:∀b o,s₀.heap.get? b=some o->b∉frs outer->b∉frs (envOfC h g ⇑s₀ p r::outer):=λb o z n m=>by
  rcases mem_cons.mp (show b∈⇑s₀::frs outer from m)with y|y
  .exact absurd (Zv z) (y▸Xl _)
  .exact n y
 have sub:∀b,b∈frs outer->b∈frs (envOfC h g ⇑s₀ p r::outer):=λb i=>mem_cons.mpr (.inr i)
 have j:∀b,b∉(eB (CXO P w) P w K mg base N h g p r A outer s₀ H₀ E).ex:=λb z=>absurd (show b∈([]:List Addr)from z) ∅
 have new:s₀.heap.get? a=none:=by
  cases z:s₀.heap.get? a with
  | none=>rfl
  | some o=>
    have:=I.base.free a o z hn (j a);rw[G]at this;cases this
 have trk:∀b o,H b=some o->b∉frs (envOfC h g ⇑s₀ p r::outer):=λb o z m=>by
  rw[Y b m]at z;cases z
 refine%[a,_,.ref C,some d,drop H a,rfl,%[I.os,I.bare,%[λb o z n i hx=>?_,λb o z n i hx=>?_,λb o z n hx=>?_,λb o z hx=>?_,λb xs z=>?_,λb o v z=>?_|λb ps z=>?_],λb o z=>?_,u,fJ,new,λb ob z i L=>?_|λb i=>?_]|q]
 .have l:=I.base.keep b o z n i (j b);refine(B b o l (λy=>?_) (nL b o z i)).1;subst y;rw[new]at z;cases z
 .have%[sl|l]:=I.base.slot b o z n i (j b);have%[ac|O]:=Q b _ l (sub b i);exact%[ac|O]
 .by_cases y:b=a
  .exact y▸fJ
  .rw[bD y];exact I.base.free b o z n (j b)
 .have%[M|l]:=I.base.there b o z (j b);by_cases i:b∈frs (envOfC h g ⇑s₀ p r::outer)
  .have%[sl|O]:=Q b M l i;exact%[_|O]
  .refine%[M|(B b M l (λy=>?_) i).1];subst y;rw[new]at z;cases z
 .have l:=I.base.tups b xs z;rw[bD (l7 l G (by simp[ExO]))];exact l
 .have l:=I.base.frzs b o v z;rw[bD (l7 l G (by simp[ExO]))];exact l
 .have%[m|l]:=I.base.tbls b ps z;refine%[m|?_];rw[bD (l7 l G (by simp[ExO]))];exact l
 .have y:b≠a:=λy=>by rw[y,fJ]at z;cases z
  rw[bD y]at z;refine(I.hok b o z).stay (λc u' T J=>?_) (λc J=>?_) λc xs J=>?_
  .rcases T with rfl|T
   .exact(B c u' J y (trk c o z)).1
   .exact(B c u' J (l7 T G (by simp[ExO])) (trk c _ T)).1
  .rw[bD (l7 J G (by simp[ExO]))];exact J
  .rw[bD (l7 J G (by simp[ExO]))];exact J
 .have y:b≠a:=λy=>by
   rcases i with⟨o,t⟩|⟨o,t⟩
   .rw[y,new]at t;cases t
   .rw[y,fJ]at t;cases t
  have nf:b∉frs (envOfC h g ⇑s₀ p r::outer):=by
   rcases i with⟨o,t⟩|⟨o,t⟩
   .exact nL b o t L
   .rw[bD y]at t;exact trk b o t
  have ex:∃M,s.heap.get? b=some M:=by
   rcases i with⟨o,t⟩|⟨o,t⟩
   .exact I.base.there b o t (j b)
   .rw[bD y]at t;exact(I.hok b o t).there
  have%[M|l]:=ex;have%[O|e3]:=B b M l y nf;rw[show h'.get? b=some ob from z]at O;cases O;exact e3
 .have y:b≠a:=λy=>aa (y▸sub b i)
  rw[bD y];exact Y b (sub b i)
noncomputable def ExH(a C:Addr)(d:ZI):HO:= .ext λh=>∃o vs,h.get? a=some o/\o.cls= .ref C/\o.dict=d/\o.data= .fields vs
theorem ExH.ok{P:Program}(e:h.get? a=some o)(b:o.cls= .ref C)(c:o.dict=d)(f:o.data= .fields vs):
 ck P w H h a (ExH a C d):=
 %[%[o,vs,e,b,c|f],%[o|e]|λg i ⟨o,vs,e,r⟩ k=>%[o,vs,k o e|r]]
section
variable{X:Cx}{pins:ZE}{σ:St}{H:Hp}{s s':Shared}
theorem CI(I:Inv X pins σ H s)(J:X.N.Nodup)(hi:X.N[i]? =some n)(L:X.env.kindOf n=some .local)
 (h:∀s',Inv X pins (σ.set i none) H s'->Q () s'):wpAny M A (do bindName X.env n .none;unbindBehindTheSuite X.env n pos) Q E s:=by
 have%[m,N|O]:=id I.loc;have w:i<σ.length:=I.len▸(Xn hi).1;refine wpAny_nameGoes_keeps L N (by rw[I.ok.kind];rfl) λh' v t a=>h _ ?_
 have f:∀b o,X.s₀.heap.get? b=some o->b≠X.env.locals:=λb o e=>Zt (Zg (Zv e) I.ok.above)
 refine%[I.ok,I.os,I.bare,%[λb o e n u l=>?_,λb o e n u l=>?_,I.base.free,λb o e l=>?_,I.base.tups,I.base.frzs|I.base.tbls],%[_,t|λj y T g B U=>?_],λy c e=>?_,I.free,I.freeC,λp Y=>?_,λb ob e=>?_|by simpa using I.len]
 .exact(a.2 b (f b o e)).trans (I.base.keep b o e n u l)
 .have%[sl|g]:=I.base.slot b o e n u l;exact%[sl|(a.2 b (f b o e)).trans g]
 .have%[o'|g]:=I.base.there b o e l;exact%[o'|(a.2 b (f b o e)).trans g]
 .have C:j≠i:=λz=>by
   simp_all
  rw[List.getElem?_set_ne (Ne.symm C)]at B;have%[u',r'|q]:=O j y T g B U;refine%[u',r'|?_];rcases q with⟨k,e⟩|⟨k,c,e,z⟩
  .refine .inl %[k|?_];have:y≠n:=λe=>C (ei J g (e▸hi))
   simp[this,e]
  .exact .inr %[k,c,e|z.sameBut a (I.cne y c e)]
 .have%[G|z]:=I.cell y c e;exact%[G|z.sameBut a (I.cne y c e)]
 .have%[e,n,ne,nf|d]:=I.pin p Y;exact%[(a.2 p.1 ne).trans e,n,ne,nf|d]
 .refine(I.hok b ob e).stay (λc G r q=>(a.2 c ?_).trans q) (λ_ q=>q) λ_ _ q=>q
  rintro rfl;rcases r with rfl|r
  .rw[I.free]at e;cases e
  .rw[I.free]at r;cases r
theorem Inv.stood3(I:Inv X c w A s)(g:∀p∈pins,p∈c)(J:Inv X pins σ H s')(d:H a=none)(B:s.heap.get? a=none)(new:ck X.prog X.w (upd H a o) s'.heap a o):Inv X pins σ (upd H a o) s':=by
 have ne:∀{b:Addr} {o:Obj},s.heap.get? b=some o->b≠a:=λe z=>by lia
 refine%[J.ok,J.os,J.bare,?_,J.loc,J.cell,?_,?_,?_,?_|J.len]
 .refine%[J.base.keep,J.base.slot,λb o e n j=>?_,J.base.there,λb xs e=>?_,λb o v e=>?_|λb ps e=>?_]
  .have%[C|y]:=I.base.there b o e j;rw[ao (ne y)];exact J.base.free b o e n j
  .rw[ao (aw (J.base.tups b xs e) d)];exact J.base.tups b xs e
  .rw[ao (aw (J.base.frzs b o v e) d)];exact J.base.frzs b o v e
  .have%[m|q]:=J.base.tbls b ps e;exact%[m|(ao (aw q d))▸q]
 .have%[m,%[E,_,_,h|_]|_]:=I.loc;rw[ao (ne h)];exact J.free
 .intro l f e;have%[G,L,i|_]:=I.cell l f e;rw[ao (ne i)];exact J.freeC l f e
 .intro p t;have%[e,n|r]:=J.pin p t;refine%[e,?_|r];have:=(I.pin p ((Xo t).elim (λz=>Yv _ z) λz=>Yw _ (g p z))).1;rw[ao (ne this)];exact n
 .intro b v e;by_cases u:b=a
  .subst u;rw[ae]at e;cases e;exact new
  .rw[ao u]at e;refine(J.hok b v e).stay (λ_ _ _ q=>q) (λf q=>?_) λf xs q=>?_
   .rw[ao (aw q d)];exact q
   .rw[ao (aw q d)];exact q
end
section
variable{M:Model}{A:Around}{E:ZD}{s:Shared}{K:ZA}{D C e:Addr}{oe:Obj}{b:Bool}{Q:Bool->Shared->Prop}
theorem At(X:K.In s.heap)(i:typeIn K (.ref D)=some (.type "type"))(j:subIn K (.ref D) (.type "BaseException")=some true)(d:(K.lookup D).any (λo=>match o.data with| .cls _=>true|_=>false)=true)
 (l:s.heap.get? e=some oe) (m:oe.cls= .ref C) (n:subIn K (.ref C) (.ref D)=some b) (f:Q b s):wpAny M A (excMatches (.ref e) (.ref D)) Q E s:=by
 have%[g,p|c]:=any_some d;refine Z2 (Z2 ((PySem.W.looks_typeIn X i).here ?_));rw[tc_notTuple];refine Z3 (Z2 (Z3 ?_));have a:∃h,g.data= .cls h:=by
  revert c
  cases g.data<;> intro c<;> first|exact⟨_,rfl⟩|cases c
 have%[h|a]:=a;have LT:Looks M s.heap (typeOf (.ref e)) _:=λq t u s' k r=>by
  exact Z2 (wpAny_loadPart (k _ _ l) (Z3 (m▸r)))
 refine Z2 (Z2 (Z2 (Z2 (Z2 (wpAny_loadPart (X _ _ p) (Z3 ?_))))));rw[a,if_pos rfl];refine(looks_subIn X j).here (Z3 (Z3 (Z2 (LT.here (Z2 (Z2 (Z2 ((looks_subIn X n).here ?_))))))));cases b with
 | true=>
   exact Z3 (Z3 (Z3 f))
 | false=>
   exact Z3 (Z3 (Z3 f))
end
noncomputable abbrev Cx.suiteX(X:Cx)(a:Addr):Cx:={X with A:=X.A.mark (some (.ref a)),calm:=false,xe:=λ_ _=>False}
section
variable{X:Cx}{pins pins' pn:ZE}{σ:St}{H:Hp}{s:Shared}{E:ZD}
theorem Go(ok:X.Ok)(pn:List _)(E:ZD):({X with pn:=pn,xe:=E}).Ok:=
 %[ok.mod,ok.kind,ok.glob,ok.blt,ok.above,ok.inj,ok.has,ok.cab,ok.hd,ok.frames,ok.stk,ok.exf,ok.bs,ok.bsz,ok.noex,ok.exfs,ok.funs|ok.frf]
theorem unPn(ok:({X with pn:=pn,xe:=E}).Ok):X.Ok:=
 %[ok.mod,ok.kind,ok.glob,ok.blt,ok.above,ok.inj,ok.has,ok.cab,ok.hd,ok.frames,ok.stk,ok.exf,ok.bs,ok.bsz,ok.noex,ok.exfs,ok.funs|ok.frf]
theorem Inv.toPn(I:Inv X pins σ H s)(E:ZD):Inv ({X with pn:=X.pn++pins,xe:=E}) [] σ H s:=
 %[Go I.ok _ E,I.os,I.bare,I.base,I.loc,I.cell,I.free,I.freeC,λp a=>I.pin p (by simpa using a),I.hok|I.len]
theorem Inv.ofPn(I:Inv ({X with pn:=X.pn++pins,xe:=E}) pins' σ H s):Inv X pins σ H s:=
 %[unPn I.ok,I.os,I.bare,I.base,I.loc,I.cell,I.free,I.freeC,λp a=>I.pin p (Yv _ a),I.hok|I.len]
theorem Inv.toSuite(I:Inv X pins σ H s)(a:Addr):Inv (X.suiteX a) pins σ H s:=
 %[%[I.ok.mod,I.ok.kind,I.ok.glob,I.ok.blt,I.ok.above,I.ok.inj,I.ok.has,I.ok.cab,(λz=>Bool.noConfusion z),I.ok.frames,I.ok.stk,I.ok.exf,I.ok.bs,I.ok.bsz,I.ok.noex,I.ok.exfs,I.ok.funs|I.ok.frf],I.os,I.bare,I.base,I.loc,I.cell,I.free,I.freeC,I.pin,I.hok|I.len]
theorem Inv.ofSuite(I:Inv (X.suiteX a) pins σ H s)(ok:X.Ok):Inv X pins σ H s:=%[ok,I.os,I.bare,I.base,I.loc,I.cell,I.free,I.freeC,I.pin,I.hok|I.len]
theorem SP.ofPn{D:iO}(h:SP ({X with pn:=X.pn++pins,xe:=E}:Cx) [] D f s):SP X pins D f s:=by
 cases f with
 | next=>have%[a,b,I|q]:=h;exact%[a,b,I.ofPn|q]
 | brk=>have%[a,b,I|q]:=h;exact%[a,b,I.ofPn|q]
 | cont=>have%[a,b,I|q]:=h;exact%[a,b,I.ofPn|q]
 | ret u=>have%[v,a,b,I,r|q]:=h;exact%[v,a,b,I.ofPn,r|q]
end
noncomputable def iO.gone(D:iO)(i:Nat):iO:={nx:=λa H=>D.nx (a.set i none) H,rt:=D.rt,bk:=λa H=>D.bk (a.set i none) H,ct:=λa H=>D.ct (a.set i none) H}
structure Cat (K:ZA) (D:Addr):Prop where
 ty:typeIn K (.ref D)=some (.type "type")
 ex:subIn K (.ref D) (.type "BaseException")=some true
 cd:(K.lookup D).any (λo=>match o.data with| .cls _=>true|_=>false)=true
structure CJ (K:ZA) (C:Addr) (f:Str):Prop where
 ga:findIn K (.ref C) "__getattribute__"=some (some (.builtin "BaseException.__getattribute__"))
 hk:findIn K (.ref C) "__getattr__"=some none
 sub:subIn K (.ref C) (.type "BaseException")=some true
 no:findIn K (.ref C) f=some none
 hd:hasDictIn K C=true
section
#where
variable{K:ZA}{x C:Addr}{name:Str}{v:Value}{ox:Obj}{od:Option Obj}
theorem E5(X:K.In s.heap)(I:PySem.W.InstAt s.heap x ox C od)(c:CJ K C name)(d:findObj K C od name=some (.value v))(f:handedIn v=true)
 (h:Q v {s with toks:=s.toks+1}):↥A (getAttr (.ref x) name a) Q E s:=by
 have b:Looks (model prog w) s.heap (typeOf (.ref x)) (.ref C):=I.type;have sub:Looks (model prog w) s.heap (isInstance (.ref x) (.type "BaseException")) true:=b.andThen (looks_subIn X c.sub);have g:=looks_find (M:=model prog w) X I d;have S:=PySem.F.excAttr_ValueError.ga;refine Z2 (wpAny_mkText (wpAny_holding (Z2 (b _ _ _ _ (λ_ _ e=>e) (Z2 (looks_findIn X c.ga _ _ _ _ (λ_ _ e=>e) ?_))))));dsimp only;rw[show(onTheHeap (Value.ref C)&&Value.builtin "BaseException.__getattribute__"==Value.builtin "object.__getattribute__")=false from by rw[show(Value.builtin "BaseException.__getattribute__"==Value.builtin "object.__getattribute__")=false from by decide +kernel,Bool.and_false],if_neg (by decide)];refine Z2 (looks_hook X (mc:= .ref C) (r:=none) (c.hk) _ _ _ _ (λ_ _ e=>e) (Z2 (wpAny_attempt (wpAny_holding ?_))));unfold callGetattribute;rw[show(a&&onTheHeap (Value.builtin _))=false from Bool.and_false _,if_neg (by decide)];unfold boundAndCalled;rw[S.bind];refine wpAny_call ?_;refine codeAny_call_builtin S.plain PySem.F.entry_bexc_ga ?_;refine @check_slot _ _ _ _ _ _ "__getattribute__" _ _ [] _ (by decide +kernel) (by decide +kernel) sub (PySem.F.args_bexc_ga _ _) ?_;refine Z2 (Z3 (Z2 (Z3 (Z2 (Looks.here b (Z2 (Looks.here g (Z3 ?_))))))));show wpAny _ _ (handedOut v) _ _ _;rw[PySem.W.handedOut_of f];exact Z3 h
end
def Au(C:Addr)(c:TE)(f:Str):TE:=λe H Q=>c e H λx b=>∃a d fs v,x= .ref a/\b a=some (ExH a C (some d))/\b d=some (.xd fs)/\fs.lookup f=some v/\Q v b
theorem CL{X:Cx}(c:CJ X.K C f)(n:PE X e p)(t:attributeBase e f X.env (eval e X.env)=eval e X.env):PE X (.Attribute e f pos) (Au C p f):=by
 intro pins s w H Q I h;refine wx t (thP (n pins s w H _ I h) λu T x y b z ⟨a,d,fs,v,ex,A,B,l,q⟩=>?_);subst ex;obtain rfl:u=Value.ref a:=z;have%[%[o,vs,E,g,i|j]|_]:=b.hok a _ A;have%[U,n1|r]:=b.hok d _ B;have%[Y,G|m]:=fk.some_of (l▸r f);have%[od,J|L]:=oU n1;have%[oc,M,N|O]:=o;dsimp only at g i j;subst g i j;exact E5 b.kIn %[E,rfl,rfl|J] c (findObj_own c.hd c.no rfl (by rw[L,G])) (oV m) %[v,y,b.tok _,m|q]
structure XIs (K:ZA) (C:Addr):Prop where
 ga:findIn K (.ref C) "__getattribute__"=some (some (.builtin "BaseException.__getattribute__"))
 hk:findIn K (.ref C) "__getattr__"=some none
 sub:subIn K (.ref C) (.type "BaseException")=some true
 hd:hasDictIn K C=true
 cl:findIn K (.ref C) "__class__"=some (some (.builtin "object.__class__"))
 gt:specialIn K (.builtin "object.__class__") "__get__"=some (some (.builtin "getset_descriptor.__get__"))
 tk:takesIn K (.builtin "object.__class__")=some true
 ob:mroIn K C (.type "object")=some true
section
#where
variable{K:ZA}{x C:Addr}{ox:Obj}{od:Option Obj}
theorem E6(X:K.In s.heap)(I:PySem.W.InstAt s.heap x ox C od)(c:XIs K C)(h:Q (some (.ref C)) {s with toks:=s.toks+1}):↥A (getAttr? (.ref x) "__class__") Q E s:=by
 have a:Looks (model prog w) s.heap (typeOf (.ref x)) (.ref C):=I.type;have sub:Looks (model prog w) s.heap (isInstance (.ref x) (.type "BaseException")) true:=a.andThen (looks_subIn X c.sub);have b:findObj K C od "__class__"=some (.bind (.builtin "getset_descriptor.__get__") (.builtin "object.__class__")):=by
  have%[g,d|_]:=any_some c.hd;unfold findObj;rw[d,bind_some,c.cl,bind_some];dsimp only;rw[c.gt,bind_some];dsimp only;rw[c.tk,bind_some]
 have f:=looks_find (M:=model prog w) X I b;have S:=PySem.F.excAttr_ValueError.ga;unfold getAttr? getAttrBy? getAttrBy;refine Z2 (wpAny_mkText (Z2 (wpAny_attempt (wpAny_holding (Z2 (a _ _ _ _ (λ_ _ e=>e) (Z2 (looks_findIn X c.ga _ _ _ _ (λ_ _ e=>e) ?_))))))));dsimp only;rw[show(onTheHeap (Value.ref C)&&Value.builtin "BaseException.__getattribute__"==Value.builtin "object.__getattribute__")=false from by rw[show(Value.builtin "BaseException.__getattribute__"==Value.builtin "object.__getattribute__")=false from by decide +kernel,Bool.and_false],if_neg (by decide)];refine Z2 (looks_hook X (mc:= .ref C) (r:=none) (c.hk) _ _ _ _ (λ_ _ e=>e) (Z2 (wpAny_attempt (wpAny_holding ?_))));unfold callGetattribute;rw[show(false&&onTheHeap (Value.builtin "BaseException.__getattribute__"))=false from rfl,if_neg (by decide)];unfold boundAndCalled;rw[S.bind];refine Z2 (Z3 ?_);show wpAny _ _ (call (.builtin "BaseException.__getattribute__") _) _ _ _;refine wpAny_call ?_;refine codeAny_call_builtin S.plain PySem.F.entry_bexc_ga ?_;refine @check_slot (model prog w) _ _ {s with toks:=s.toks+1} _ "BaseException" "__getattribute__" (.ref x) [.str "__class__" s.toks] [] _ (by decide +kernel) (by decide +kernel) sub (PySem.F.args_bexc_ga (.ref x) (.str "__class__" s.toks)) ?_;exact Z2 (Z3 (Z2 (Z3 (Z2 (Looks.here a (Z2 (Looks.here f (Z2 (wpAny_holding (wpAny_call (PySem.W.class_get (ox:=ox) (od:=od) X I c.ob (Z3 (Z3 (Z3 h))))))))))))))
theorem CM(c:XIs K C):KitX K (.ref x) (.ref C) (λh=>∃ox od,PySem.W.InstAt h x ox C od) where
 ty:=λ_ _ _ ⟨_,_,I⟩=>I.type
 it:=λ_ _ X _=>by
  have%[cdD,hcD|_]:=any_some c.hd;unfold clsIn at hcD
  split at hcD
  .rename_i c' d' cd' sl' ho
   intro A' Q' E' s' k q;exact Z2 (wpAny_loadPart (k _ _ (X _ _ ho)) (Z3 q))
  .cases hcD
 ne:=λh tp dd its n sl X htp=>by
  have%[cdD,hcD|_]:=any_some c.hd;refine Bool.eq_false_iff.mpr λq=>?_
  have e:=Value.ref.inj (beq_iff_eq.mp q);subst e;unfold clsIn at hcD
  split at hcD
  .rename_i c' d' cd' sl' ho
   have z:=(X _ _ ho).symm.trans htp;cases z
  .cases hcD
 ca:=λX ⟨_,_,I⟩ k=>E6 X I c k
end
def Held(H:Hp)(a C:Addr):Prop:=∃d,H a=some (ExH a C d)/\(d=none\/∃b fs,d=some b/\H b=some (.xd fs))
inductive TyX (K:ZA) (H:Hp):V->Value->Prop where
 | non:TyX K H .non (.type "NoneType")
 | ex {a C:Addr} (h:Held H a C) (c:XIs K C):TyX K H (.ref a) (.ref C)
section
#version
theorem TyX.kit(ty:TyX X.K H x t)(I:Inv X pins σ H s)(r:aR x u):∃f:Heap->Prop,KitX X.K u t f/\f s.heap/\u≠ .builtin "__main__.__loader__#opaque":=by
 cases ty with
 | non=>
   cases(r);exact%[_,kitx_none,True.intro|λz=>nomatch z]
 | @ex a C h c=>
   cases(r);have%[d,j|l]:=h;have%[%[o,vs,e,g,b|i]|_]:=I.hok a _ j;have%[y,m,n|p]:=o;dsimp only at g b i;subst g b i;refine%[_,CM c,?_|λz=>nomatch z];rcases l with rfl|⟨q,fs,rfl,v⟩
   .exact%[_,none,e,rfl,rfl|trivial]
   .have%[od|w]:=(I.hok q _ v).there;exact%[_,some od,e,rfl,rfl|w]
end
theorem pO:∀{a:List Addr} {us:ZF},aC (a.map V.ref) us->us=a.map Value.ref
 |[],_,.nil=>rfl
 | _::_,_,.cons r t=>by
   cases r;rw[pO t];rfl
theorem Av{X:Cx}:bX X (.builtin "isinstance") (λxs H Q=>∃x y t b,xs=[x,y]/\TyX X.K H x t/\
 ((∃n,y= .ty n/\kitOne X.K t (.type n)=some b)\/(∃D,y= .ref D/\kitOne X.K t (.ref D)=some b)\/∃c d,y= .ref c/\H c=some (.tup (List.map V.ref d))/\kitAny X.K t (d.map Value.ref)=some b)/\Q (.bl b) H):=by
 intro pins s B H xs us Q I r h;have%[x,y,t,b,rfl,ty,f|q]:=h;have%[u,C,rfl,g|a]:=iT r;have%[E,Z,p|nb]:=ty.kit I g;rcases f with⟨n,rfl,e⟩|⟨D,rfl,e⟩|⟨c,d,rfl,i,e⟩
 .cases(a);exact kia_one Z I.kIn p e nb λtk=>%[.bl b,H,I.tok tk,rfl|q]
 .cases(a);exact kia_one Z I.kIn p e nb λtk=>%[.bl b,H,I.tok tk,rfl|q]
 .cases(a);have%[_,its,j,o,l,m,n|v]:=I.hok c _ i;have:=pO j;subst this;have%[G,w,z|A]:=o;subst m v;exact PySem.W.kia_tup Z I.kIn p l e nb λtk=>%[.bl b,H,I.tok tk,rfl|q]
theorem E7{X:Cx}{D:Addr}(b:Gl X x)(c:X.mg x=some (.ref D))(a:(x==("__debug__":Str))=false):PE X (.Name x p) (λd H Q=>Q (.ref D) H):=λpins s d H Q I h=>
 eV I b c %[.ref D,H,I,rfl|h] a
theorem Fun.okX{P:Program}{K:ZA}{st:Stmt}(F:Fun K x b st f g)(S:ax N ps (ak st))(len:∀vs H Q E,sp vs H Q E->vs.length=ps.length)
 (c:∀(a:Value) (A:Around) (outer:List Env) (s:Shared) (H:Hp) (vs:List V) (Q:VK) (E:XK),bB k (A.deeper (envOfC b (ak st) ⇑s f a))->sp vs H Q E->
  ∃t,PSs (eB (CXO P w) P w K mg base N b (ak st) f a A outer s H E) (bA st) t/\t {nx:=λ_ h=>Q .non h,rt:=Q} (start N vs) H):fC P w K mg base (CXO P w) (k+1) f g ps sp:=by
 have%[m,od,kV,i,n,o,a,ct,j,rfl,lk|d]:=F.ex;exact Dm lk d S len λA outer s H vs Q E l e=>c a A outer s H vs Q E l e
noncomputable def aD(mg:ZC)(x:Str):Addr:=match mg x with
 | some (.ref C)=>C
 | _=>0
theorem dU(h:mg x=some (.ref C)):aD mg x=C:=by unfold aD;rw[h]
structure Aw (K:ZA) (mg:ZC) (x qual:Str) (st:Stmt) (ps:ZB):Prop where
 at_:mg x=some (.ref (aD mg x))
 is:XIs K (aD mg x)
 ini:∃f fd,MkX K (aD mg x) f/\Fun K "__init__" qual st f fd/\cW K fd ps []
structure Ax (P:Program) (w:World) (K:ZA) (mg:ZC) (base:Heap) (k:Nat) (x:Str) (ps:ZB) (sp:Sp):Prop where
 ex:∃f fd,fC P w K mg base (CXO P w) k f fd ps sp/\mg x=some (.ref f)/\keepIn K (.ref f)=true/\cW K fd ps []
structure E8 (P:Program) (w:World) (K:ZA) (mg:ZC) (base:Heap) (k:Nat) (x:Str) (ps:ZB) (sp:Sp):Prop where
 ex:∃f fd,fC P w K mg base CX0 k f fd ps sp/\MkX K (aD mg x) f/\mg x=some (.ref (aD mg x))/\cW K fd ps []
section
variable{P:Program}{w:World}{K:ZA}{mg:ZC}{base:Heap}{x qual:Str}{st:Stmt}{N ps:ZB}{k:Nat}{sp:Sp}
theorem aG.calX(D:aG K mg x st ps)(S:ax N ps (ak st))
 (a:∀(H:Hp) (vs:List V) (Q:VK) (E:XK),sp vs H Q E->vs.length=ps.length/\∀(f:Addr) (b:Value) (A:Around) (outer:List Env) (s:Shared),bB k (A.deeper (envOfC x (ak st) ⇑s f b))->
  ∃t,PSs (eB (CXO P w) P w K mg base N x (ak st) f b A outer s H E) (bA st) t/\t {nx:=λ_ c=>Q .non c,rt:=Q} (start N vs) H):Ax P w K mg base (k+1) x ps sp:=by
 have%[f,d,F,e|g]:=D.ex;exact%[f,d,F.okX S (λv H Q E h=>(a H v Q E h).1) (λb A o s H v Q E r h=>(a H v Q E h).2 f b A o s r),e,F.kp|g]
theorem Aw.cal(D:Aw K mg x qual st ps)(S:ax N ps (ak st))(len:∀vs H Q E,sp vs H Q E->vs.length=ps.length)
 (b:∀(f:Addr) (a:Value) (A:Around) (outer:List Env) (s:Shared) (H:Hp) (vs:List V) (Q:VK) (E:XK),exK K (aD mg x) f=true->bB k (A.deeper (envOfC qual (ak st) ⇑s f a))->sp vs H Q E->
  ∃t,PSs (eB CX0 P w K mg base N qual (ak st) f a A outer s H E).nox (bA st) t/\t {nx:=λ_ c=>Q .non c,rt:=Q} (start N vs) H):E8 P w K mg base (k+1) x ps sp:=by
 have%[f,d,M,F|e]:=D.ini;exact%[f,d,F.ok S len λa A outer s H vs Q E=>b f a A outer s H vs Q E M.ex,M,D.at_|e]
end
section
variable{X:Cx}{K:ZA}{pos:Pos}
theorem Gp(g:f6 (CXO X.prog X.w) X E)(C:Ax X.prog X.w X.K X.mg X.base j x ps sp)(h:bB k X.A)(i:Gl X x)(a:Nat.ble j k=true)
 (b:(x==("__debug__":Str))=false) (c:(e::d).any aW=false) (l:QA X (e::d) t):QE X (.Call (.Name x p) (e::d) [] pos) (oW sp [] E t):=by
 rw[Zy,X9]at c;have%[f,q,F,m,n|o]:=C.ex;exact⟨wB F (h.mono (Yf a)) i m n o .nil g l.h b (az c.1) (cY c.2)⟩
theorem E9(C:E8 X.prog X.w X.K X.mg X.base j x ps sp)(g:bB k X.A)(h:Gl X x)(a:Nat.ble (j+1) k=true)
 (b:(x==("__debug__":Str))=false) (c:(e::d).any aW=false) (i:QA X (e::d) t):QE X (.Call (.Name x p) (e::d) [] pos) (vE (aD X.mg x) sp t):=by
 rw[Zy,X9]at c;have%[f,n,F,M,l|m]:=C.ex;exact⟨Ar M F (g.mono (Yf a)) h l m i.h b (az c.1) (cY c.2)⟩
theorem clsE(b:Gl X x)(c:X.mg x=some (.ref (aD X.mg x)))(a:(x==("__debug__":Str))=false):QE X (.Name x p) (tC (.ref (aD X.mg x))):=⟨E7 b c a⟩
theorem Fa(a:QE X e b):QE X (.FormattedValue e (-1) none pos) (E3 b):=⟨E4 a.h⟩
theorem Ay:PJ X [] []:= .nil
theorem pjE(a:QE X e t)(h:PJ X b ts):PJ X (e::b) (t::ts):= .cons a.h h
theorem Az{rest:List Expr}(h:PJ X (v1::a::rest) ts):QE X (.JoinedStr (v1::a::rest) pos) (mP ts Str.empty):=⟨CH h⟩
theorem Gq(c:CJ X.K C f)(a:gc e=false)(b:QE X e d):QE X (.Attribute e f pos) (Au C d f):=⟨CL c b.h (eX a)⟩
theorem Gr(c:EZ X.K C f)(b:eW e=false)(d:QE X o g)(h:QE X e i):QS X (.Assign [.Attribute o f a] e pos) (Dx X.K C g i f):=⟨CG c d.h h.h (ig b)⟩
theorem AA(h:X.K=K):cr X (.builtin "isinstance") (λxs H Q=>∃x y t b,xs=[x,y]/\TyX K H x t/\
 ((∃n,y= .ty n/\kitOne K t (.type n)=some b)\/(∃D,y= .ref D/\kitOne K t (.ref D)=some b)\/∃a c,y= .ref a/\H a=some (.tup (List.map V.ref c))/\kitAny K t (c.map Value.ref)=some b)/\Q (.bl b) H):=by
 subst h;exact⟨Av⟩
end
theorem Fb{P:Program}{K:ZA}
 (g:exK K C f=true) (h:QE (eB (CXO P w) P w K mg base N c b i j A outer s₀ H₀ E) e l):
 QS (eB (CXO P w) P w K mg base N c b i j A outer s₀ H₀ E) (.Raise (some e) none pos) (rh C l λa H=>∃d,H a=some (ExO a C (some d))/\H₀ a=none/\E (.ref C) (some d) (drop H a)):=⟨yd g h.h⟩
theorem Fc{X:Cx}{C D f:Addr}(l:exK X.K C f=true)(m:Gl X x)(n:X.mg x=some (.ref D))(B:Ao X.K D)(g:(x==("__debug__":Str))=false)(h:(e::c).any aW=false)
 (i:∃pl:Sem Bool,eval (.Call (.Attribute (.Name x p) "__init__" b) (e::c) [] pos) X.env=(do
  let j<-eval (.Name x p) X.env
  standAt b.atName
  let(f,first)<-holding [j] (getMethod j "__init__" pl)
  callWith pos f first (backTo pos (starEach (e::c) X.env)) (backToKw pos (keywordEach [] X.env)))) (o:QA X (e::c) t):
 QE X (.Call (.Attribute (.Name x p) "__init__" b) (e::c) [] pos) (tCB (λxs H Q=>∃a d ys,xs=V.ref a::ys/\ys.length<=9/\H a=some (ExO a C d)/\Q .non H) t):=by
 rw[Zy,X9]at h;have%[pl|i]:=i;exact⟨Ap m n B (vD l) o.h g (az h.1) (cY h.2) i⟩
section
#where
end
section
#where
end
section
#where
end
section
#where
end
def clo(c:TE):TE:=λd H Q=>∃a:VK,c d H a/\∀v b,a v b->Q v b
theorem Fd{X:Cx}(h:PE X e b):PE X e (clo b):=λpins s c H Q I ⟨d,q,k⟩=>
 thP (h pins s c H d I q) λ_ _ v a f r z=>%[v,a,f,r|k v a z]
theorem Fe{X:Cx}(h:PE X e t)(k:∀a H Q,t' a H Q->t a H Q):PE X e t':=λpins s a H Q I q=>h pins s a H Q I (k a H Q q)
theorem AB(h:H r=none):drop (upd H r o) r=H:=by
 funext b;unfold drop upd
 simp_all
section
variable{X:Cx}{K:ZA}{pos:Pos}
end
end L2
namespace SBig
open PySem PyProof.Rows
section
variable(prog:Program)(w:World)(A:Around)(SI:Shared->Prop)
def SC{a:Type}(m:StateT SortSt Sem a)(Q:a->SortSt->Prop)(st:SortSt):Prop:=
 ∀s,SI s->↥A (m.run st) (λr s'=>SI s'/\Q r.1 r.2) (λ_ _=>False) s
def Cmp(a:SortKind)(D:Keyed->Prop)(N:Keyed->Nat):Prop:=
 ∀x y s,D x->D y->SI s->↥A (keyLt' a x.1 y.1) (λb s'=>b=decide (N x<N y)/\SI s') (λ_ _=>False) s
end
section
variable{prog:Program}{w:World}{A:Around}{SI:Shared->Prop}{α β:Type}
theorem av{st:SortSt}(h:Q a st):(SC prog w A SI) (pure a) Q st:=λs b=>by
 exact Z3 %[b|h]
theorem ar{st:SortSt}(h:(SC prog w A SI) m (λa b=>(SC prog w A SI) (f a) Q b) st):(SC prog w A SI) (m>>= f) Q st:=λs c=>by
 exact Z2 (wpAny_mono (h s c) (λr s' h'=>h'.2 s' h'.1) λ_ _ e=>e)
theorem bN{st:SortSt}(h:(SC prog w A SI) m Q st)(c:∀a b,Q a b->d a b):(SC prog w A SI) m d st:=λs f=>
 wpAny_mono (h s f) (λr s' h'=>%[h'.1|c _ _ h'.2]) λ_ _ e=>e
theorem fA{st:SortSt}(h:Q st st):(SC prog w A SI) get Q st:=λs a=>by
 exact Z3 %[a|h]
theorem cp{st:SortSt}(h:Q ⟨⟩ (f st)):(SC prog w A SI) (modify f) Q st:=λs a=>by
 exact Z3 %[a|h]
theorem Ff{st:SortSt}(h:Q ⟨⟩ x):(SC prog w A SI) (set x) Q st:=λs a=>by
 exact Z3 %[a|h]
theorem wL{st:SortSt}(h:∀s,SI s->↥A m (λa s'=>SI s'/\Q a st) (λ_ _=>False) s):(SC prog w A SI) (liftM m:StateT SortSt Sem α) Q st:=λs b=>by
 exact Z2 (wpAny_mono (h s b) (λa s' h'=>Z3 h') λ_ _ e=>e)
theorem iI{st:SortSt}(h:Q () st):(SC prog w A SI) (liftM (rule t):StateT SortSt Sem Unit) Q st:=wL λs a=>wpAny_rule %[a|h]
theorem bx{st:SortSt}(I:Nat->β->SortSt->Prop)(j:a<=b)(p:I a c st)
 (l:∀i x st,a<=i->i<b->I i x st->(SC prog w A SI) (f i x) (λr g=>match r with| .done y=>Q y g| .yield y=>I (i+1) y g) st) (m:∀x st,I b x st->Q x st):(SC prog w A SI) (forIn [a:b] c f) Q st:=by
 have q:∀d i x st,i+d=b->a<=i->I i x st->(SC prog w A SI) (forIn (List.range' i d 1) x f) Q st:=by
  intro d
  induction d with
  | zero=>
    intro i x st e _ h;subst e;exact av (m x st h)
  | succ d n=>
    intro i x st e o h;rw[List.range'_succ,forIn_cons];refine ar (bN (l i x st o ⋯ h) λr g h'=>?_);cases r with
    | done y=>exact av h'
    | yield y=>exact n _ y g ⋯ ⋯ h'
 simp_all
theorem be{st:SortSt}(a:xs[i]? =some x)(h:Q x st):(SC prog w A SI) (elem' xs i) Q st:=by
 rw[elem'_eq,a];exact av h
theorem tG{st:SortSt}(c:Cmp prog w A SI (kindOf st) D N)(d:D x)(f:D y)(h:Q (some (decide (N x<N y))) st):(SC prog w A SI) (lt' x y) Q st:=by
 refine ar (fA (ar (wL (λs g=>wpAny_attempt (wpAny_mono (c x y s d f g) (λb s' ⟨i,a⟩=>?_) λ_ _ e=>e.elim)))));subst i;exact%[a|av h]
theorem CO{st:SortSt}(c:Cmp prog w A SI (kindOf st) D N)(hi:(arrOf st)[i]? =some x)(a:(arrOf st)[j]? =some y)(b:D x)(d:D y)
 (h:Q (some (decide (N x<N y))) st):(SC prog w A SI) (ltAt' i j) Q st:=by
 exact ar (fA (ar (be hi (ar (be a (tG c b d h))))))
end
noncomputable def eZ:Bool->Keyed->Array Keyed->Nat->Nat->Nat->StateT SortSt Sem (Option Nat):=sortPriv% PySem.Builtin.gallop
end SBig
namespace SBig
open PySem PyProof.Rows
section
variable{prog:Program}{w:World}{A:Around}{SI:Shared->Prop}{α β:Type}
noncomputable def bY(N:Keyed->Nat)(left:Bool)(a x:Keyed):Bool:=if left then decide (N x<N a)else !decide (N a<N x)
theorem ye{D:Keyed->Prop}{N:Keyed->Nat}{left:Bool}{a x:Keyed}{b:Array Keyed}{i:Nat}{Q:Option Bool->SortSt->Prop}{st:SortSt}(c:Cmp prog w A SI (kindOf st) D N)(d:D a)(f:b[i]? =some x)(e:D x)
 (h:Q (some (bY N left a x)) st):(SC prog w A SI) (do let x<-elem' b i;if left=true then lt' x a else do let y<-lt' a x;pure (y.map (!·))) Q st:=by
 refine ar (be f ?_);cases left with
 | true=>
   exact tG c e d h
 | false=>
   exact ar (tG c d e (av h))
noncomputable def ga0(left:Bool)(a:Keyed)(b:Array Keyed)(base i:Nat):StateT SortSt Sem (Option Bool):=do
 let x<-elem' b (base+i)
 if left=true then lt' x a else do
  let y<-lt' a x
  pure (y.map (!·))
noncomputable def gaM(f:Nat->StateT SortSt Sem (Option Bool))(x:Option (Option Nat)×Nat×Nat):StateT SortSt Sem (ForInStep (Option (Option Nat)×Nat×Nat)):=
 if x.2.1>=x.2.2 then pure (.done (none,x.2.1,x.2.2))else do
  match<-f (x.2.1+(x.2.2-x.2.1)/2)with
  | some w=>if w=true then pure (.yield (none,x.2.1+(x.2.2-x.2.1)/2+1,x.2.2))else pure (.yield (none,x.2.1,x.2.1+(x.2.2-x.2.1)/2))
  | _=>pure (.done (some none,x.2.1,x.2.2))
noncomputable def ga3(f:Nat->StateT SortSt Sem (Option Bool))(n lo hi:Nat):StateT SortSt Sem (Option Nat):=do
 let x<-forIn [0:n] (none,lo,hi) λ_ x=>gaM f x
 match x.1 with
 | some r=>pure r
 | none=>pure (some x.2.2)
noncomputable def ga1(f:Nat->StateT SortSt Sem (Option Bool))(n a:Nat)(x:Option (Option Nat)×Nat×Nat):StateT SortSt Sem (ForInStep (Option (Option Nat)×Nat×Nat)):=
 if x.2.2>=n-a then pure (.done (none,x.2.1,x.2.2))else do
  match<-f (a+x.2.2)with
  | some w=>if(!w)=true then pure (.done (none,x.2.1,x.2.2))else pure (.yield (none,x.2.2,2*x.2.2+1))
  | _=>pure (.done (some none,x.2.1,x.2.2))
noncomputable def ga2(f:Nat->StateT SortSt Sem (Option Bool))(a:Nat)(x:Option (Option Nat)×Nat×Nat):StateT SortSt Sem (ForInStep (Option (Option Nat)×Nat×Nat)):=
 if x.2.2>=a+1 then pure (.done (none,x.2.1,x.2.2))else do
  match<-f (a-x.2.2)with
  | some w=>if w=true then pure (.done (none,x.2.1,x.2.2))else pure (.yield (none,x.2.2,2*x.2.2+1))
  | _=>pure (.done (some none,x.2.1,x.2.2))
set_option smartUnfolding false in
theorem Gu(left:Bool)(b:Keyed)(c:Array Keyed)(base n a:Nat):eZ left b c base n a=(do
 match<-ga0 left b c base a with
 | some w=>
   if w=true then(do
    let x<-forIn [0:n] (none,0,1) λ_ x=>ga1 (ga0 left b c base) n a x
    match x.1 with
    | some r=>pure r
    | none=>ga3 (ga0 left b c base) n (a+x.2.1+1) (a+min x.2.2 (n-a)))
   else(do
    let x<-forIn [0:n] (none,0,1) λ_ x=>ga2 (ga0 left b c base) a x
    match x.1 with
    | some r=>pure r
    | none=>ga3 (ga0 left b c base) n (a+1-min x.2.2 (a+1)) (a-x.2.1))
 | _=>pure none):=rfl
theorem AC{f:Nat->StateT SortSt Sem (Option Bool)}{n lo hi:Nat}{Q:Option Nat->SortSt->Prop}{a:SortSt}{P:Nat->Bool}(ask:∀(i:Nat) (R:Option Bool->SortSt->Prop),i<n->R (some (P i)) a->(SC prog w A SI) (f i) R a)(c:∀i j,i<=j->j<n->P j=true->P i=true)
 (s:lo<=hi) (t:hi<=n) (u:∀i,i<lo->P i=true) (v:∀i,hi<=i->i<n->P i=false)
 (h:∀k,k<=n->(∀i,i<k->P i=true)->(∀i,k<=i->i<n->P i=false)->Q (some k) a):(SC prog w A SI) (ga3 f n lo hi) Q a:=by
 refine ar (bN (bx (Q:=λx b=>b=a/\∃k,x=(none,k,k)/\k<=n/\(∀i,i<k->P i=true)/\(∀i,k<=i->i<n->P i=false))
  (λj x b=>b=a/\∃l k,x=(none,l,k)/\l<=k/\k-l<=n-j/\k<=n/\(∀i,i<l->P i=true)/\(∀i,k<=i->i<n->P i=false)) (Xg _) %[rfl,_,_,rfl,s,⋯,t,u|v] ?_ ?_) ?_)
 .intro j x b _ B %[rfl,l,k,rfl,p,y,d,e|g];unfold gaM;dsimp only;by_cases m:l>=k
  .rw[if_pos m];obtain rfl:l=k:=by lia
   exact av %[rfl,l,rfl,d,e|g]
  .rw[if_neg m];have o:l+(k-l)/2<k:=by lia
   refine ar (ask _ _ ⋯ ?_);dsimp only;cases q:P _ with
   | true=>
     exact av %[rfl,_,_,rfl,o,⋯,d,λi hi=>c i _ ⋯ ⋯ q|g]
   | false=>
     refine av %[rfl,_,_,rfl,⋯,⋯,⋯,e|λi hi r=>?_];cases z:P i with
     | false=>rfl
     | true=>rw[c _ i hi r z]at q;cases q
 .intro x b %[rfl,l,k,rfl,p,y,d,e|g];obtain rfl:l=k:=by lia
  exact%[rfl,l,rfl,d,e|g]
 .intro x b %[rfl,k,rfl,d,e|g];exact av (h k d e g)
theorem d9{D:Keyed->Prop}{N:Keyed->Nat}{left:Bool}{r:Keyed}{s:Array Keyed}{base n a:Nat}{Q:Option Nat->SortSt->Prop}{st:SortSt}(c:Cmp prog w A SI (kindOf st) D N)(E:D r)
 (G:∀i,i<n->∃x,s[base+i]? =some x/\D x) (P:Nat->Bool) (H:∀i x,i<n->s[base+i]? =some x->P i=bY N left r x) (b:∀i j,i<=j->j<n->P j=true->P i=true) (z:a<n)
 (h:∀k,k<=n->(∀i,i<k->P i=true)->(∀i,k<=i->i<n->P i=false)->Q (some k) st):(SC prog w A SI) (eZ left r s base n a) Q st:=by
 have ask:∀(i:Nat) (R:Option Bool->SortSt->Prop),i<n->R (some (P i)) st->(SC prog w A SI) (ga0 left r s base i) R st:=λi R hi I=>by
  have%[x,B|J]:=G i hi;exact ye c E B J ((H i x hi B)▸I)
 rw[Gu];refine ar (ask a _ z ?_);dsimp only;cases C:P a with
 | true=>
   rw[if_pos rfl];refine ar (bN (bx (Q:=λx e=>e=st/\∃l o,x=(none,l,o)/\l<o/\a+l<n/\P (a+l)=true/\(n-a<=o\/(a+o<n/\P (a+o)=false)))
    (λj x e=>e=st/\∃l o,x=(none,l,o)/\l<o/\a+l<n/\P (a+l)=true/\j<o) (Xg _) %[rfl,0,1,rfl,one_pos,z,C|one_pos] ?_ ?_) ?_)
   .intro j x e _ L %[rfl,l,o,rfl,f,d,m|t];unfold ga1;dsimp only;by_cases g:o>=n-a
    .rw[if_pos g];exact av %[rfl,l,o,rfl,f,d,m|.inl g]
    .rw[if_neg g];have p:a+o<n:=by lia
     refine ar (ask _ _ p ?_);dsimp only;cases q:P (a+o)with
     | true=>
       rw[if_neg ∅];exact av %[rfl,o,_,rfl,⋯,p,q|⋯]
     | false=>
       rw[if_pos ∅];exact av %[rfl,l,o,rfl,f,d,m|.inr %[p|q]]
   .intro x e %[rfl,l,o,rfl,f,d,m|t];exact%[rfl,l,o,rfl,f,d,m|.inl ⋯]
   .intro x v %[rfl,l,o,rfl,f,d,m|p];refine AC ask b ⋯ ⋯ (λi hi=>b i _ ⋯ d m) (λi hi u=>?_) h;rcases p with p|⟨p,q⟩
    .lia
    .cases y:P i with
     | false=>rfl
     | true=>rw[b _ i ⋯ u y]at q;cases q
 | false=>
   rw[if_neg ∅];refine ar (bN (bx (Q:=λx e=>e=st/\∃l o,x=(none,l,o)/\l<o/\l<=a/\P (a-l)=false/\(a+1<=o\/(o<=a/\P (a-o)=true)))
    (λj x e=>e=st/\∃l o,x=(none,l,o)/\l<o/\l<=a/\P (a-l)=false/\j<o) (Xg _) %[rfl,0,1,rfl,one_pos,Xg _,C|one_pos] ?_ ?_) ?_)
   .intro j x e _ L %[rfl,l,o,rfl,f,d,m|t];unfold ga2;dsimp only;by_cases g:o>=a+1
    .rw[if_pos g];exact av %[rfl,l,o,rfl,f,d,m|.inl g]
    .rw[if_neg g];have p:o<=a:=by lia
     refine ar (ask _ _ ⋯ ?_);dsimp only;cases q:P (a-o)with
     | false=>
       rw[if_neg ∅];exact av %[rfl,o,_,rfl,⋯,p,q|⋯]
     | true=>
       rw[if_pos rfl];exact av %[rfl,l,o,rfl,f,d,m|.inr %[p|q]]
   .intro x e %[rfl,l,o,rfl,f,d,m|t];exact%[rfl,l,o,rfl,f,d,m|.inl ⋯]
   .intro x v %[rfl,l,o,rfl,f,d,m|p];refine AC ask b ⋯ ⋯ (λi hi=>?_) (λi hi u=>?_) h
    .rcases p with p|⟨p,q⟩
     .lia
     .exact b i _ ⋯ ⋯ q
    .cases y:P i with
     | false=>rfl
     | true=>rw[b _ i ⋯ u y]at m;cases m
end
end SBig
namespace SBig
open PySem PyProof.Rows
noncomputable def mQ:Array Keyed->Array Keyed->StateT SortSt Sem (Array Keyed):=sortPriv% PySem.Builtin.mergeLo
noncomputable def mR:Array Keyed->Array Keyed->StateT SortSt Sem (Array Keyed):=sortPriv% PySem.Builtin.mergeHi
noncomputable def cG:Nat->StateT SortSt Sem Unit:=sortPriv% PySem.Builtin.setMinGallop
theorem fK(g:Nat):cG g=modify (λs=>SortSt.mk' (kindOf s) (arrOf s) (pendingOf s) g (failedOf s)):=rfl
def Srt(N:Keyed->Nat)(l:List Keyed):Prop:=l.Pairwise λx y=>N x<=N y
theorem Srt.drop{N:Keyed->Nat}{l:List Keyed}(h:Srt N l)(k:Nat):Srt N (l.drop k):=List.Pairwise.sublist (List.drop_sublist _ _) h
theorem Srt.le{N:Keyed->Nat}{l:List Keyed}(h:Srt N l){i j:Nat}{x y:Keyed}(a:i<=j)(b:l[i]? =some x)(c:l[j]? =some y):N x<=N y:=by
 rcases Nat.eq_or_lt_of_le a with e|e
 .simp_all
 .have%[d|g]:=Xn b;have%[f|m]:=Xn c;have:=List.pairwise_iff_getElem.mp h i j d f e
  simp_all
theorem bT{l:List Keyed}{k:Nat}{y:Keyed}(h:y∈l.drop k):∃j,k<=j/\j<l.length/\l[j]? =some y:=by
 have%[i|hi]:=Xh h;rw[Yb]at hi;exact%[k+i,⋯,(Xn hi).1|hi]
theorem kZ{l:List Keyed}{i k:Nat}{x:Keyed}(h:x∈(l.drop i).take k):∃j,j<k/\l[i+j]? =some x:=by
 have%[j|a]:=Xh h;rw[Yc]at a
 split at a
 .rw[Yb]at a;exact%[j,by assumption|a]
 .lia
theorem Srt.drop_le{N:Keyed->Nat}{l:List Keyed}(h:Srt N l){i:Nat}{x y:Keyed}(a:l[i]? =some x)(b:y∈l.drop i):N x<=N y:=by
 have%[j,c,_|e]:=bT b;exact h.le c a e
structure MI (N:Keyed->Nat) (A B out:List Keyed) (ia ib:Nat):Prop where
 perm:(out++A.drop ia++B.drop ib).Perm (A++B)
 srt:Srt N out
 ca:∀x∈out,∀y∈A.drop ia,N x<=N y
 cb:∀x∈out,∀y∈B.drop ib,N x<=N y
theorem MI.zero(N:Keyed->Nat)(A B:List Keyed):MI N A B [] 0 0:=%[by simp,List.Pairwise.nil,λ_ h=>(nomatch h)|λ_ h=>(nomatch h)]
theorem MI.takeA{N:Keyed->Nat}{A B out:List Keyed}{b d:Nat}(h:MI N A B out b d)(g:Srt N A)(k:Nat)(f:∀x∈(A.drop b).take k,∀y∈B.drop d,N x<=N y):MI N A B (out++(A.drop b).take k) (b+k) d:=by
 have e:A.drop b=(A.drop b).take k++A.drop (b+k):=drop_drop▸(Xd k _).symm;have%[i,_|j]:=pairwise_append.mp (e▸g.drop b);refine%[?_,pairwise_append.mpr %[h.srt,i|λx a y c=>h.ca x a y (Yz c)],λx a y c=>?_|λx a y c=>?_]
 .have p:=h.perm;rw[e]at p;rwa[<-Ze]at p
 .rcases Xo a with a|a
  .exact h.ca x a y (e▸Yw _ c)
  .exact j x a y c
 .rcases Xo a with a|a
  .exact h.cb x a y c
  .exact f x a y c
theorem MI.takeB{N:Keyed->Nat}{A B out:List Keyed}{d b:Nat}(h:MI N A B out d b)(g:Srt N B)(k:Nat)(f:∀x∈(B.drop b).take k,∀y∈A.drop d,N x<=N y):MI N A B (out++(B.drop b).take k) d (b+k):=by
 have e:B.drop b=(B.drop b).take k++B.drop (b+k):=drop_drop▸(Xd k _).symm;have%[i,_|j]:=pairwise_append.mp (e▸g.drop b);refine%[?_,pairwise_append.mpr %[h.srt,i|λx a y c=>h.cb x a y (Yz c)],λx a y c=>?_|λx a y c=>?_]
 .have p:=h.perm;rw[e]at p;refine List.Perm.trans ?_ p;rw[Ze,Ze,Ze];refine List.Perm.append_left _ ?_;rw[<-Ze,<-Ze];exact Xm _ perm_append_comm
 .rcases Xo a with a|a
  .exact h.ca x a y c
  .exact f x a y c
 .rcases Xo a with a|a
  .exact h.cb x a y (e▸Yw _ c)
  .exact j x a y c
def cH(N:Keyed->Nat)(A B r:List Keyed):Prop:=Srt N r/\r.Perm (A++B)
theorem MI.done{N:Keyed->Nat}{A B out:List Keyed}{a b:Nat}(h:MI N A B out a b)(e:Srt N A)(f:Srt N B)(g:∀x∈A.drop a,∀y∈B.drop b,N x<=N y):cH N A B (out++A.drop a++B.drop b):=
 %[pairwise_append.mpr %[pairwise_append.mpr %[h.srt,e.drop a|h.ca],f.drop b|λx c y d=>(Xo c).elim (λq=>h.cb x q y d) λq=>g x q y d]|h.perm]
theorem MI.last{N:Keyed->Nat}{A B out:List Keyed}{a b:Nat}(h:MI N A B out a b)(e:Srt N A)(f:Srt N B)(g:∀y∈B.drop b,∀x∈A.drop a,N y<=N x):cH N A B (out++B.drop b++A.drop a):=by
 refine%[pairwise_append.mpr %[pairwise_append.mpr %[h.srt,f.drop b|h.cb],e.drop a|λx c y d=>(Xo c).elim (λq=>h.ca x q y d) λq=>g x q y d]|List.Perm.trans ?_ h.perm];rw[Ze,Ze];exact List.Perm.append_left _ perm_append_comm
theorem jH{l:List Keyed}{i:Nat}{x:Keyed}(h:l[i]? =some x):(l.drop i).take 1=[x]:=by
 have%[a|e]:=Xn h;rw[List.drop_eq_getElem_cons a,e];rfl
theorem MI.oneA{N:Keyed->Nat}{A B out:List Keyed}{a b:Nat}{x:Keyed}(h:MI N A B out a b)(e:Srt N A)(d:A[a]? =some x)(c:∀y∈B.drop b,N x<=N y):MI N A B (out++[x]) (a+1) b:=by
 have:=h.takeA e 1 (by rw[jH d];intro z f;rw[Xp f];exact c);rwa[jH d]at this
theorem MI.oneB{N:Keyed->Nat}{A B out:List Keyed}{a b:Nat}{x:Keyed}(h:MI N A B out a b)(e:Srt N B)(d:B[b]? =some x)(c:∀y∈A.drop a,N x<=N y):MI N A B (out++[x]) a (b+1):=by
 have:=h.takeB e 1 (by rw[jH d];intro z f;rw[Xp f];exact c);rwa[jH d]at this
theorem mS(a:Array Keyed)(i j:Nat):(a.extract i j).toList=(a.toList.drop i).take (j-i):=by
 simp
theorem lT(a:Array Keyed)(i:Nat):(a.extract i a.size).toList=a.toList.drop i:=by
 rw[mS,Zn]
 simp_all
def SG(st a:SortSt):Prop:=kindOf a=kindOf st/\arrOf a=arrOf st/\pendingOf a=pendingOf st/\failedOf a=failedOf st
theorem SG.refl(st:SortSt):SG st st:=%[rfl,rfl,rfl|rfl]
theorem SG.set{st a:SortSt}(h:SG st a)(g:Nat):SG st (SortSt.mk' (kindOf a) (arrOf a) (pendingOf a) g (failedOf a)):=h
end SBig
namespace SBig
open PySem PyProof.Rows
section
variable{prog:Program}{w:World}{A:Around}{SI:Shared->Prop}{α β:Type}
theorem aZ{a:Array Keyed}{i:Nat}(h:i<a.size):a[i]? =some a[i]/\a.toList[i]? =some a[i]:=%[by simp|by simp]
theorem rj(a:Array Keyed)(i k:Nat):(a.extract i (i+k)).toList=(a.toList.drop i).take k:=by
 simp
theorem pP{N:Keyed->Nat}{a:Array Keyed}{b:Nat}{c d:Keyed}(g:Srt N a.toList){i j:Nat}(m:i<=j)(f:b+j<a.size)(h:bY N false c (a.getD (b+j) d)=true):bY N false c (a.getD (b+i) d)=true:=by
 have e:∀i hi,a.getD (b+i) d=a[b+i]:=λi hi=>by simp[hi]
 rw[e j f]at h;rw[e i ⋯];have l:=g.le (i:=b+i) ⋯ (aZ ⋯).2 (aZ f).2;unfold bY at h ⊢
 grind
theorem pQ{N:Keyed->Nat}{a:Array Keyed}{b:Nat}{c d:Keyed}(g:Srt N a.toList){i j:Nat}(m:i<=j)(f:b+j<a.size)(h:bY N true c (a.getD (b+j) d)=true):bY N true c (a.getD (b+i) d)=true:=by
 have e:∀i hi,a.getD (b+i) d=a[b+i]:=λi hi=>by simp[hi]
 rw[e j f]at h;rw[e i ⋯];have l:=g.le (i:=b+i) ⋯ (aZ ⋯).2 (aZ f).2;unfold bY at h ⊢
 grind
theorem Gw{N:Keyed->Nat}{a:Array Keyed}{c n k:Nat}{b d:Keyed}(f:∀i,i<k->bY N false b (a.getD (c+i) d)=true)(g:∀i,k<=i->i<n->bY N false b (a.getD (c+i) d)=false):
 (∀i x,i<k->a[c+i]? =some x->N x<=N b)/\∀i x,k<=i->i<n->a[c+i]? =some x->N b<N x:=by
 refine%[λi x hi e=>?_|λi x hi h e=>?_]
 .have:=f i hi;rw[Zs,e]at this;unfold bY at this;simpa using this
 .have:=g i hi h;rw[Zs,e]at this;unfold bY at this;simpa using this
theorem Gx{N:Keyed->Nat}{a:Array Keyed}{c n k:Nat}{b d:Keyed}(f:∀i,i<k->bY N true b (a.getD (c+i) d)=true)(g:∀i,k<=i->i<n->bY N true b (a.getD (c+i) d)=false):
 (∀i x,i<k->a[c+i]? =some x->N x<N b)/\∀i x,k<=i->i<n->a[c+i]? =some x->N b<=N x:=by
 refine%[λi x hi e=>?_|λi x hi h e=>?_]
 .have:=f i hi;rw[Zs,e]at this;unfold bY at this;simpa using this
 .have:=g i hi h;rw[Zs,e]at this;unfold bY at this;simpa using this
structure ML (N:Keyed->Nat) (a b out:Array Keyed) (ia ib:Nat):Prop where
 mi:MI N a.toList b.toList out.toList ia ib
 na:ia+1<a.size
 nb:ib<b.size
noncomputable def lo3(a b out:Array Keyed)(c d g k k1:Nat):StateT SortSt Sem (ForInStep (Option (Array Keyed)×Array Keyed×Nat×Nat×Nat×Nat×Nat)):=elem' a c>>= λe=>if(c+1+1==a.size)=true then pure (.done (some (out.push e++b.extract d b.size++a.extract (c+1) a.size),out.push e,c+1,d,g,k,k1))else if(decide (k<7)&&decide (k1<7))=true then pure (.done (none,out.push e,c+1,d,g,k,k1))else pure (.yield (none,out.push e,c+1,d,g,k,k1))
noncomputable def lo2(a b out:Array Keyed)(d c g k f:Nat):StateT SortSt Sem (ForInStep (Option (Array Keyed)×Array Keyed×Nat×Nat×Nat×Nat×Nat)):=elem' b c>>= λe=>if(c+1==b.size)=true then pure (.done (some (out.push e++a.extract d a.size++b.extract (c+1) b.size),out.push e,d,c+1,g,k,f))else elem' a d>>= λh=>eZ true h b (c+1) (b.size-(c+1)) 0>>= fun|some k1=>if k1>0 then if(c+1+k1==b.size)=true then pure (.done (some (out.push e++b.extract (c+1) (c+1+k1) ++a.extract d a.size++b.extract (c+1+k1) b.size),out.push e++b.extract (c+1) (c+1+k1),d,c+1+k1,g,k,k1))else lo3 a b (out.push e++b.extract (c+1) (c+1+k1)) d (c+1+k1) g k k1 else lo3 a b (out.push e) d (c+1) g k k1|_=>pure (.done (some (out.push e++a.extract d a.size++b.extract (c+1) b.size),out.push e,d,c+1,g,k,f))
noncomputable def lo1(a b out:Array Keyed)(c d h f g:Nat):StateT SortSt Sem (ForInStep (Option (Array Keyed)×Array Keyed×Nat×Nat×Nat×Nat×Nat)):=cG g>>= λ_=>elem' b d>>= λe=>eZ false e a c (a.size-c) 0>>= fun|some k=>if k>0 then if(c+k+1==a.size)=true then pure (.done (some (out++a.extract c (c+k) ++b.extract d b.size++a.extract (c+k) a.size),out++a.extract c (c+k),c+k,d,g,k,f))else if(c+k==a.size)=true then pure (.done (some (out++a.extract c (c+k) ++a.extract (c+k) a.size++b.extract d b.size),out++a.extract c (c+k),c+k,d,g,k,f))else lo2 a b (out++a.extract c (c+k)) (c+k) d g k f else lo2 a b out c d g k f|_=>pure (.done (some (out++a.extract c a.size++b.extract d b.size),out,c,d,g,h,f))
noncomputable def loI(a b out:Array Keyed)(c d g f h:Nat):StateT SortSt Sem (ForInStep (Option (Array Keyed)×Array Keyed×Nat×Nat×Nat×Nat)):=elem' b d>>= λi=>elem' a c>>= λj=>lt' i j>>= fun|some w=>if w=true then(elem' b d>>= λe=>if(d+1==b.size)=true then pure (.done (some (out.push e++a.extract c a.size++b.extract (d+1) b.size),out.push e,c,d+1,0,h+1))else if h+1>=g then pure (.done (none,out.push e,c,d+1,0,h+1))else pure (.yield (none,out.push e,c,d+1,0,h+1)))else(elem' a c>>= λe=>if(c+1+1==a.size)=true then pure (.done (some (out.push e++b.extract d b.size++a.extract (c+1) a.size),out.push e,c+1,d,f+1,0))else if f+1>=g then pure (.done (none,out.push e,c+1,d,f+1,0))else pure (.yield (none,out.push e,c+1,d,f+1,0)))|_=>pure (.done (some (out++a.extract c a.size++b.extract d b.size),out,c,d,f,h))
noncomputable def loG(a b:Array Keyed):Option (Array Keyed)×Array Keyed×Nat×Nat×Nat×Nat×Nat->StateT SortSt Sem (ForInStep (Option (Array Keyed)×Array Keyed×Nat×Nat×Nat×Nat×Nat)):=λx=>
 if x.2.2.2.2.1>1 then lo1 a b x.2.1 x.2.2.1 x.2.2.2.1 x.2.2.2.2.2.1 x.2.2.2.2.2.2 (x.2.2.2.2.1-1)else lo1 a b x.2.1 x.2.2.1 x.2.2.2.1 x.2.2.2.2.2.1 x.2.2.2.2.2.2 x.2.2.2.2.1
noncomputable def loE(x:Option (Array Keyed)×Array Keyed×Nat×Nat×Nat×Nat×Nat):StateT SortSt Sem (ForInStep (Option (Array Keyed)×Array Keyed×Nat×Nat×Nat)):=
 match x.1 with
 | some r=>pure (.done (some r,x.2.1,x.2.2.1,x.2.2.2.1,x.2.2.2.2.1))
 | none=>do
   cG (x.2.2.2.2.1+1)
   pure (.yield (none,x.2.1,x.2.2.1,x.2.2.2.1,x.2.2.2.2.1+1))
noncomputable def loF(a b:Array Keyed)(g:Nat)(x:Option (Array Keyed)×Array Keyed×Nat×Nat×Nat×Nat):StateT SortSt Sem (ForInStep (Option (Array Keyed)×Array Keyed×Nat×Nat×Nat)):=
 match x.1 with
 | some r=>pure (.done (some r,x.2.1,x.2.2.1,x.2.2.2.1,g))
 | none=>do
   rule "list.sort.gallop"
   let x<-forIn [0:a.size+b.size] (none,x.2.1,x.2.2.1,x.2.2.2.1,g+1,x.2.2.2.2.1,x.2.2.2.2.2) λ_ x=>loG a b x
   loE x
noncomputable def loO(a b:Array Keyed):Option (Array Keyed)×Array Keyed×Nat×Nat×Nat->StateT SortSt Sem (ForInStep (Option (Array Keyed)×Array Keyed×Nat×Nat×Nat)):=λx=>do
 let y<-forIn [0:a.size+b.size] (none,x.2.1,x.2.2.1,x.2.2.2.1,0,0) λ_ y=>loI a b y.2.1 y.2.2.1 y.2.2.2.1 x.2.2.2.2 y.2.2.2.2.1 y.2.2.2.2.2
 loF a b x.2.2.2.2 y
noncomputable def loR(x:Option (Array Keyed)×Array Keyed×Nat×Nat×Nat):StateT SortSt Sem (Array Keyed):=
 match x.1 with
 | some r=>pure r
 | none=>unsupported "internal:list.sort.merge-bound"
set_option smartUnfolding false in
theorem Gy(a b:Array Keyed):mQ a b=(do
 rule "list.sort.merge-lo"
 let e<-elem' b 0
 if(1==b.size)=true then pure (#[e] ++a.extract 0 a.size++b.extract 1 b.size)
 else if(0+1==a.size)=true then pure (#[e] ++b.extract 1 b.size++a.extract 0 a.size)
 else do
  let s<-get
  let x<-forIn [0:a.size+b.size] (none,#[e],0,1,gallopOf s) λ_ x=>loO a b x
  loR x):=by
 rfl
theorem SG.trans{s t u:SortSt}(h:SG s t)(k:SG t u):SG s u:=%[k.1.trans h.1,k.2.1.trans h.2.1,k.2.2.1.trans h.2.2.1|k.2.2.2.trans h.2.2.2]
structure LC (prog:Program) (w:World) (A:Around) (SI:Shared->Prop) (D:Keyed->Prop) (N:Keyed->Nat) (a b:Array Keyed) (st:SortSt):Prop where
 c:Cmp prog w A SI (kindOf st) D N
 hA:Srt N a.toList
 hB:Srt N b.toList
 DA:∀{i:Nat} (hi:i<a.size),D a[i]
 DB:∀{i:Nat} (hi:i<b.size),D b[i]
 fd:∀(out:Array Keyed) (ia ib:Nat),MI N a.toList b.toList out.toList ia ib->(a.size<=ia\/b.size<=ib)->cH N a.toList b.toList (out++a.extract ia a.size++b.extract ib b.size).toList
 fl:∀(out:Array Keyed) (ia ib:Nat),MI N a.toList b.toList out.toList ia ib->ia+1=a.size->cH N a.toList b.toList (out++b.extract ib b.size++a.extract ia a.size).toList
theorem LC.of{D:Keyed->Prop}{N:Keyed->Nat}{a b:Array Keyed}{s t:SortSt}(C:LC prog w A SI D N a b s)(h:SG s t):LC prog w A SI D N a b t:={C with c:=h.1▸C.c}
variable{D:Keyed->Prop}{N:Keyed->Nat}{a b out:Array Keyed}{ia ib g k bc z:Nat}{st:SortSt}
theorem AD{k1:Nat}{R:ForInStep _->SortSt->Prop}(C:LC prog w A SI D N a b st)(m:MI N a.toList b.toList out.toList ia ib)(na:ia+1<a.size)(nb:ib<b.size)(c:∀y∈b.toList.drop ib,N (a[ia]'⋯)<=N y)(p:z<=out.size+1)
 (j:∀r o,cH N a.toList b.toList r.toList->R (.done (some r,o)) st) (l:∀out ia ib g k k1,ML N a b out ia ib->z<=out.size->R (.done (none,out,ia,ib,g,k,k1)) st/\R (.yield (none,out,ia,ib,g,k,k1)) st):(SC prog w A SI) (lo3 a b out ia ib g k k1) R st:=by
 have%[n|d]:=aZ (a:=a) (i:=ia) ⋯;refine ar (be n ?_);have e:=MI.oneA m C.hA d c;rw[<-toList_push]at e;by_cases f:ia+1+1=a.size
 .rw[if_pos (by simp[f])];exact av (j _ _ (C.fl _ _ _ e f))
 rw[if_neg (by simp[f])];have h:=l _ _ _ g k k1 (ML.mk e ⋯ nb) (by simp_all)
 split
 .exact av h.1
 .exact av h.2
theorem AE{R:ForInStep (Option (Array Keyed)×Array Keyed×Nat×Nat×Nat×Nat×Nat)->SortSt->Prop}(C:LC prog w A SI D N a b st)(m:MI N a.toList b.toList out.toList ia ib)(na:ia+1<a.size)(nb:ib<b.size)(h:∀y∈a.toList.drop ia,N b[ib]<=N y)(T:z<=out.size+2)
 (d:∀r o,cH N a.toList b.toList r.toList->R (.done (some r,o)) st) (u:∀out ia ib g k k1,ML N a b out ia ib->z<=out.size->R (.done (none,out,ia,ib,g,k,k1)) st/\R (.yield (none,out,ia,ib,g,k,k1)) st):(SC prog w A SI) (lo2 a b out ia ib g k bc) R st:=by
 have%[H|l]:=aZ (a:=b) (i:=ib) nb;have%[I|n]:=aZ (a:=a) (i:=ia) ⋯;unfold lo2;refine ar (be H ?_);have f:=MI.oneB m C.hB l h;rw[<-toList_push]at f;by_cases v:ib+1=b.size
 .rw[if_pos (by simp[v])];exact av (d _ _ (C.fd _ _ _ f (.inr ⋯)))
 rw[if_neg (by simp[v])];refine ar (be I ?_);refine ar (d9 C.c (C.DA ⋯) (λi hi=>%[b[ib+1+i]'⋯,(aZ ⋯).1|C.DB ⋯]) (λi=>bY N true (a[ia]'⋯) (b.getD (ib+1+i) b[ib]))
  (λi x hi p=>by rw[Zs,p];rfl) (λi U q hi J=>pQ C.hB q ⋯ J) ⋯ λk2 L M O=>?_)
 dsimp only;have B:=Gx M O;have c:∀y∈b.toList.drop (ib+1+k2),N (a[ia]'⋯)<=N y:=λy s=>by
  have%[j,Y,Q|e]:=bT s;rw[Zb]at Q;exact B.2 (j-(ib+1)) y ⋯ ⋯ (by rw[show ib+1+(j-(ib+1))=j by lia];simpa using e)
 have t:=f.takeB C.hB k2 (λx p y s=>by
  have%[i,hi|e]:=kZ p;exact Yi (Yg (B.1 i x hi (by simpa using e))) (C.hA.drop_le n s))
 by_cases E:k2>0
 .rw[if_pos E];rw[<-rj,<-Xf]at t;by_cases G:ib+1+k2=b.size
  .rw[if_pos (by simp[G])];exact av (d _ _ (C.fd _ _ _ t (.inr ⋯)))
  rw[if_neg (by simp[G])];exact AD C t na ⋯ c (by simp;lia) d u
 .rw[if_neg E];obtain rfl:k2=0:=by lia
  exact AD C f na ⋯ c (by rw[Xk];lia) d u
theorem Fg{G:Nat}{R:ForInStep (Option (Array Keyed)×Array Keyed×Nat×Nat×Nat×Nat×Nat)->SortSt->Prop}(C:LC prog w A SI D N a b st)(m:ML N a b out ia ib)(H:z<=out.size+2)
 (l:∀c r o,SG st c->cH N a.toList b.toList r.toList->R (.done (some r,o)) c) (v:∀c out ia ib g k k1,SG st c->ML N a b out ia ib->z<=out.size->R (.done (none,out,ia,ib,g,k,k1)) c/\R (.yield (none,out,ia,ib,g,k,k1)) c):(SC prog w A SI) (lo1 a b out ia ib G bc g) R st:=by
 have d:=m.nb;have n:=m.na;have%[I|p]:=aZ (a:=b) (i:=ib) d;unfold lo1;rw[fK];refine ar (cp ?_);have sg:=(SG.refl st).set g;refine ar (be I ?_);refine ar (d9 (C.of sg).c (C.DB d) (λi hi=>%[a[ia+i]'⋯,(aZ ⋯).1|C.DA ⋯]) (λi=>bY N false b[ib] (a.getD (ia+i) b[ib]))
  (λi x hi q=>by rw[Zs,q];rfl) (λi Q s hi J=>pP C.hA s ⋯ J) ⋯ λk T L M=>?_)
 dsimp only;have B:=Gw L M;have mk:=m.mi.takeA C.hA k (λx q y t=>by
  have%[i,hi|e]:=kZ q;exact Yi (B.1 i x hi (by simpa using e)) (C.hB.drop_le p t))
 have f:∀y∈a.toList.drop (ia+k),N b[ib]<=N y:=λy t=>by
  have%[j,U,O|e]:=bT t;rw[Zb]at O;exact Yg (B.2 (j-ia) y ⋯ ⋯ (by rw[show ia+(j-ia)=j by lia];simpa using e))
 by_cases h:k>0
 .rw[if_pos h];rw[<-rj,<-Xf]at mk;by_cases u:ia+k+1=a.size
  .rw[if_pos (by simp[u])];exact av (l _ _ _ sg (C.fl _ _ _ mk u))
  rw[if_neg (by simp[u])];by_cases E:ia+k=a.size
  .rw[if_pos (by simp[E])];exact av (l _ _ _ sg (C.fd _ _ _ mk (.inl ⋯)))
  rw[if_neg (by simp[E])];exact AE (C.of sg) mk ⋯ d f (by simp;lia) (λr o=>l _ r o sg) λout ia ib g k k1=>v _ out ia ib g k k1 sg
 .rw[if_neg h];obtain rfl:k=0:=by lia
  exact AE (C.of sg) m.mi n d f H (λr o=>l _ r o sg) λout ia ib g k k1=>v _ out ia ib g k k1 sg
theorem Fh{e:Nat}{R:ForInStep (Option (Array Keyed)×Array Keyed×Nat×Nat×Nat×Nat)->SortSt->Prop}(C:LC prog w A SI D N a b st)(m:ML N a b out ia ib)(p:z<=out.size+1)
 (s:∀r o,cH N a.toList b.toList r.toList->R (.done (some r,o)) st) (t:∀out ia ib e bc,ML N a b out ia ib->z<=out.size->R (.done (none,out,ia,ib,e,bc)) st/\R (.yield (none,out,ia,ib,e,bc)) st):(SC prog w A SI) (loI a b out ia ib g e bc) R st:=by
 have l:=m.na;have d:=m.nb;have f:ia<a.size:=by lia
 have%[u|i]:=aZ f;have%[v|j]:=aZ d;refine ar (be v (ar (be u (ar (tG C.c (C.DB d) (C.DA f) ?_)))));dsimp only;by_cases c:N b[ib]<N a[ia]
 .rw[Zf c,if_pos rfl];refine ar (be v ?_);have m2:=m.mi.oneB C.hB j λy n=>Yi (Yg c) (C.hA.drop_le i n)
  rw[<-toList_push]at m2;by_cases q:ib+1=b.size
  .rw[if_pos (by simp[q])];exact av (s _ _ (C.fd _ _ _ m2 (.inr ⋯)))
  rw[if_neg (by simp[q])];have h:=t _ _ _ 0 (bc+1) %[m2,l|⋯] (by rw[Xk];exact p)
  split
  .exact av h.1
  .exact av h.2
 .rw[Zh c,if_neg ∅];refine ar (be u ?_);have m2:=m.mi.oneA C.hA i λy n=>Yi (Nat.le_of_not_lt c) (C.hB.drop_le j n)
  rw[<-toList_push]at m2;by_cases q:ia+1+1=a.size
  .rw[if_pos (by simp[q])];exact av (s _ _ (C.fl _ _ _ m2 q))
  rw[if_neg (by simp[q])];have h:=t _ _ _ (e+1) 0 %[m2,⋯|d] (by rw[Xk];exact p)
  split
  .exact av h.1
  .exact av h.2
theorem Fi{j:Nat}{q:Option (Array Keyed)}{R:ForInStep (Option (Array Keyed)×Array Keyed×Nat×Nat×Nat)->SortSt->Prop}(C:LC prog w A SI D N a b st)(m:ML N a b out ia ib)(e:j+1<=out.size)
 (p:∀d r o,SG st d->cH N a.toList b.toList r.toList->R (.done (some r,o)) d) (s:∀d out ia ib g,SG st d->ML N a b out ia ib->j+2<=out.size->R (.yield (none,out,ia,ib,g)) d):(SC prog w A SI) (loO a b (q,out,ia,ib,g)) R st:=by
 have t:=m.na;refine ar (bN (bx (Q:=λx d=>SG st d/\((∃r o,x=(some r,o)/\cH N a.toList b.toList r.toList)\/∃out ia ib f bc,x=(none,out,ia,ib,f,bc)/\ML N a b out ia ib/\j+2<=out.size))
  (λj2 x d=>SG st d/\∃out ia ib f bc,x=(none,out,ia,ib,f,bc)/\ML N a b out ia ib/\j+1+j2<=out.size) (Xg _) %[SG.refl _,_,_,_,_,_,rfl,m|e] ?_ ?_) ?_)
 .intro j2 x i _ l %[c,out,ia,ib,f,bc,rfl,m|e];exact Fh (C.of c) m ⋯ (λr o h=>%[c|.inl %[r,o,rfl|h]]) λout ia ib f bc h z=>%[%[c|.inr %[_,_,_,_,_,rfl,h|⋯]],c,_,_,_,_,_,rfl,h|z]
 .intro x i %[c,out,ia,ib,f,bc,rfl,m|e];exact%[c|.inr %[_,_,_,_,_,rfl,m|⋯]]
 .rintro x i ⟨c,⟨r,o,rfl,n⟩|⟨out,ia,ib,f,bc,rfl,m,e⟩⟩
  .exact av (p _ r _ c n)
  .refine ar (iI ?_);refine ar (bN (bx (Q:=λx d=>SG st d/\((∃r o,x=(some r,o)/\cH N a.toList b.toList r.toList)\/∃out ia ib g f bc,x=(none,out,ia,ib,g,f,bc)/\ML N a b out ia ib/\j+2<=out.size))
    (λj2 x d=>SG st d/\∃out ia ib g f bc,x=(none,out,ia,ib,g,f,bc)/\ML N a b out ia ib/\j+2<=out.size) (Xg _) %[c,_,_,_,_,_,_,rfl,m|e] ?_ ?_) ?_)
   .intro j2 x i _ l %[c,out,ia,ib,g,f,bc,rfl,m|e];unfold loG;rw[<-apply_ite _];exact Fg (C.of c) m ⋯ (λd r o sg h=>%[SG.trans c sg|.inl %[r,o,rfl|h]]) λd out ia ib g k k1 sg h z=>%[%[SG.trans c sg|.inr %[_,_,_,_,_,_,rfl,h|z]],SG.trans c sg,_,_,_,_,_,_,rfl,h|z]
   .simp_all
   .rintro x i ⟨c,⟨r,o,rfl,n⟩|⟨out,ia,ib,g,f,bc,rfl,m,e⟩⟩
    .exact av (p _ r _ c n)
    .exact ar (cp (av (s _ _ _ _ _ (c.set _) m e)))
theorem vF{D:Keyed->Prop}{N:Keyed->Nat}{a b:Array Keyed}{Q:Array Keyed->SortSt->Prop}{st:SortSt}(c:Cmp prog w A SI (kindOf st) D N)(t:Srt N a.toList)(u:Srt N b.toList)(I:∀x∈a.toList,D x)(J:∀x∈b.toList,D x)
 (ha:1<=a.size) (hb:1<=b.size) (L:∀x y,b.toList[0]? =some x->a.toList[0]? =some y->N x<=N y) (M:∀y∈b.toList,∀x∈a.toList.drop (a.size-1),N y<=N x)
 (h:∀r d,SG st d->cH N a.toList b.toList r.toList->Q r d):(SC prog w A SI) (mQ a b) Q st:=by
 have O:∀{i:Nat} (hi:i<a.size),D a[i]:=λhi=>I _ ∅
 have T:∀{i:Nat} (hi:i<b.size),D b[i]:=λhi=>J _ ∅
 have G:∀(out:Array Keyed) (ia ib:Nat),MI N a.toList b.toList out.toList ia ib->(a.size<=ia\/b.size<=ib)->cH N a.toList b.toList (out++a.extract ia a.size++b.extract ib b.size).toList:=λout ia ib m q=>by
  rw[Xf,Xf,lT,lT];refine m.done t u λx v y l=>?_
  rcases q with q|q
  .have%[j,U,B|_]:=bT v;rw[Zb]at B
   lia
  .have%[j,U,B|_]:=bT l;rw[Zb]at B
   lia
 have H:∀(out:Array Keyed) (ia ib:Nat),MI N a.toList b.toList out.toList ia ib->ia+1=a.size->cH N a.toList b.toList (out++b.extract ib b.size++a.extract ia a.size).toList:=λout ia ib m q=>by
  rw[Xf,Xf,lT,lT];exact m.last t u λy l x v=>M y (Yy l) x ((show a.size-1=ia by lia)▸v)
 rw[Gy];refine ar (iI ?_);have%[Y|n]:=aZ (a:=b) (i:=0) ⋯;refine ar (be Y ?_);have C:MI N a.toList b.toList #[b[0]].toList 0 1:=(MI.zero N a.toList b.toList).oneB u n λy l=>by
  have%[ea|p]:=aZ (a:=a) (i:=0) ⋯;exact Yi (L _ _ n p) (t.drop_le p l)
 by_cases q1:1=b.size
 .rw[if_pos (by simp[<-q1])];exact av (h _ st (SG.refl _) (G _ _ _ C (.inr ⋯)))
 rw[if_neg (by simp;lia)];by_cases E:0+1=a.size
 .rw[if_pos (by simp[<-E])];exact av (h _ st (SG.refl _) (H _ _ _ C E))
 rw[if_neg (by simp at E ⊢;lia)];refine ar (fA ?_);refine ar (bN (bx (Q:=λx d=>SG st d/\∃r,x.1=some r/\cH N a.toList b.toList r.toList)
  (λj x d=>SG st d/\∃out ia ib g,x=(none,out,ia,ib,g)/\ML N a b out ia ib/\j+1<=out.size) (Xg _) %[SG.refl _,_,_,_,_,rfl,%[C,⋯|⋯]|Zi _] ?_ ?_) ?_)
 .intro j x e _ hj %[sg,out,ia,ib,g,rfl,m|s];exact Fi (LC.of %[c,t,u,O,T,G|H] sg) m s (λd r o f h=>%[SG.trans sg f,r,rfl|h]) λd out ia ib g f h z=>%[SG.trans sg f,_,_,_,_,rfl,h|z]
 .intro x e %[sg,out,ia,ib,g,rfl,m|s];have:=m.na;have:=m.nb;have q:=m.mi.perm.length_eq;simp only[Z9,Zb]at q
  lia
 .intro x e %[sg,r,hr|gd];have%[x1|x2]:=x;subst hr;exact av (h r e sg gd)
end
end SBig
namespace SBig
open PySem PyProof.Rows
theorem Srt.take{N:Keyed->Nat}{l:List Keyed}(h:Srt N l)(k:Nat):Srt N (l.take k):=List.Pairwise.sublist (take_sublist _ _) h
theorem bz{l:List Keyed}{k:Nat}{x:Keyed}(h:x∈l.take k):∃j,j<k/\j<l.length/\l[j]? =some x:=by
 have%[j|a]:=Xh h;rw[Yc]at a
 split at a
 .exact%[j,by assumption,(Xn a).1|a]
 .lia
theorem wM{l:List Keyed}{i k:Nat}{x:Keyed}(h:x∈(l.take k).drop i):∃j,i<=j/\j<k/\j<l.length/\l[j]? =some x:=by
 have%[j,a,b|e]:=bT h;rw[Yc]at e
 split at e
 .exact%[j,a,by assumption,(Xn e).1|e]
 .lia
structure MH (N:Keyed->Nat) (A B O:List Keyed) (na nb:Nat):Prop where
 perm:(A.take na++B.take nb++O).Perm (A++B)
 srt:Srt N O
 ca:∀x∈A.take na,∀y∈O,N x<=N y
 cb:∀x∈B.take nb,∀y∈O,N x<=N y
theorem MH.zero(N:Keyed->Nat)(A B:List Keyed):MH N A B [] A.length B.length:=%[by simp,List.Pairwise.nil,λ_ _ _ h=>(nomatch h)|λ_ _ _ h=>(nomatch h)]
theorem MH.takeA{N:Keyed->Nat}{A B O:List Keyed}{na nb:Nat}(h:MH N A B O na nb)(d:Srt N A)(k:Nat)(f:k<=na)(c:∀y∈(A.take na).drop k,∀x∈B.take nb,N x<=N y):MH N A B ((A.take na).drop k++O) k nb:=by
 have e:=by
  have:=(Xd k (A.take na)).symm;rw[List.take_take,X1 f]at this;exact this
 have%[_,g|i]:=pairwise_append.mp (e▸d.take na);refine%[?_,pairwise_append.mpr %[g,h.srt|λx b y a=>h.ca x (Yy b) y a],λx b y a=>?_|λx b y a=>?_]
 .refine List.Perm.trans ?_ h.perm;rw[<-Ze];refine Xm _ ?_;rw (occs:= .pos [2]) [e];rw[Ze,Ze];exact List.Perm.append_left _ perm_append_comm
 .rcases Xo a with a|a
  .exact i x b y a
  .exact h.ca x (e▸Yv _ b) y a
 .rcases Xo a with a|a
  .exact c y a x b
  .exact h.cb x b y a
theorem MH.takeB{N:Keyed->Nat}{A B O:List Keyed}{na nb:Nat}(h:MH N A B O na nb)(d:Srt N B)(k:Nat)(f:k<=nb)(c:∀y∈(B.take nb).drop k,∀x∈A.take na,N x<=N y):MH N A B ((B.take nb).drop k++O) na k:=by
 have e:=by
  have:=(Xd k (B.take nb)).symm;rw[List.take_take,X1 f]at this;exact this
 have%[_,g|i]:=pairwise_append.mp (e▸d.take nb);refine%[?_,pairwise_append.mpr %[g,h.srt|λx b y a=>h.cb x (Yy b) y a],λx b y a=>?_|λx b y a=>?_]
 .refine List.Perm.trans ?_ h.perm;rw[<-Ze];refine Xm _ ?_;rw (occs:= .pos [2]) [e];rw[Ze]
 .rcases Xo a with a|a
  .exact c y a x b
  .exact h.ca x b y a
 .rcases Xo a with a|a
  .exact i x b y a
  .exact h.cb x (e▸Yv _ b) y a
theorem jI{l:List Keyed}{k:Nat}{x:Keyed}(h:l[k]? =some x):(l.take (k+1)).drop k=[x]:=by
 have%[a|e]:=Xn h;rw[List.take_succ_eq_append_getElem a,e,List.drop_append_of_le_length (by rw[Yn];lia),List.drop_of_length_le (by rw[Yn];lia)];rfl
theorem MH.oneA{N:Keyed->Nat}{A B O:List Keyed}{na nb:Nat}{x:Keyed}(h:MH N A B O (na+1) nb)(c:Srt N A)(b:A[na]? =some x)(a:∀y∈B.take nb,N y<=N x):MH N A B (x::O) na nb:=by
 have:=h.takeA c na (by omega) (by rw[jI b];intro z d;rw[Xp d];exact a);rwa[jI b]at this
theorem MH.oneB{N:Keyed->Nat}{A B O:List Keyed}{na nb:Nat}{x:Keyed}(h:MH N A B O na (nb+1))(c:Srt N B)(b:B[nb]? =some x)(a:∀y∈A.take na,N y<=N x):MH N A B (x::O) na nb:=by
 have:=h.takeB c nb (by omega) (by rw[jI b];intro z d;rw[Xp d];exact a);rwa[jI b]at this
theorem MH.done{N:Keyed->Nat}{A B O:List Keyed}{na nb:Nat}(h:MH N A B O na nb)(c:Srt N A)(d:Srt N B)(e:∀x∈A.take na,∀y∈B.take nb,N x<=N y):cH N A B (A.take na++B.take nb++O):=
 %[pairwise_append.mpr %[pairwise_append.mpr %[c.take na,d.take nb|e],h.srt|λx a y b=>(Xo a).elim (λq=>h.ca x q y b) λq=>h.cb x q y b]|h.perm]
theorem MH.first{N:Keyed->Nat}{A B O:List Keyed}{na nb:Nat}(h:MH N A B O na nb)(c:Srt N A)(d:Srt N B)(e:∀y∈B.take nb,∀x∈A.take na,N y<=N x):cH N A B (B.take nb++A.take na++O):=
 %[pairwise_append.mpr %[pairwise_append.mpr %[d.take nb,c.take na|e],h.srt|λx a y b=>(Xo a).elim (λq=>h.cb x q y b) λq=>h.ca x q y b]|List.Perm.trans (Xm _ perm_append_comm) h.perm]
theorem CP(a:Array Keyed)(k:Nat):(a.extract 0 k).toList=a.toList.take k:=by simp
theorem wN(a:Array Keyed)(i k:Nat):(a.extract i k).toList=(a.toList.take k).drop i:=by
 rw[mS,List.drop_take]
theorem Srt.take_le{N:Keyed->Nat}{l:List Keyed}(h:Srt N l){i:Nat}{x y:Keyed}(a:l[i]? =some x)(b:y∈l.take (i+1)):N y<=N x:=by
 have%[j,c,_|e]:=bz b;exact h.le (by omega) e a
theorem jJ(out:Array Keyed)(x:Keyed):(out.push x).reverse.toList=x::out.reverse.toList:=by simp
theorem wO(out p:Array Keyed):(out++p.reverse).reverse.toList=p.toList++out.reverse.toList:=by simp
section
variable{prog:Program}{w:World}{A:Around}{SI:Shared->Prop}{α β:Type}
structure MHS (N:Keyed->Nat) (a b out:Array Keyed) (na nb:Nat):Prop where
 mh:MH N a.toList b.toList out.reverse.toList na nb
 pa:1<=na
 pb:2<=nb
 ma:na<=a.size
 mb:nb<=b.size
noncomputable def hi3(a b:Array Keyed)(na nb:Nat)(out:Array Keyed)(g k k1:Nat):StateT SortSt Sem (ForInStep (Option (Array Keyed)×Nat×Nat×Array Keyed×Nat×Nat×Nat)):=elem' a (na-1)>>= λe=>if(na-1==0)=true then pure (.done (some (a.extract 0 (na-1) ++b.extract 0 nb++(out.push e).reverse),na-1,nb,out.push e,g,k,k1))else if(decide (k<7)&&decide (k1<7))=true then pure (.done (none,na-1,nb,out.push e,g,k,k1))else pure (.yield (none,na-1,nb,out.push e,g,k,k1))
noncomputable def hi2(a b:Array Keyed)(na nb:Nat)(out:Array Keyed)(g k c:Nat):StateT SortSt Sem (ForInStep (Option (Array Keyed)×Nat×Nat×Array Keyed×Nat×Nat×Nat)):=elem' b (nb-1)>>= λe=>if(nb-1==1)=true then pure (.done (some (b.extract 0 (nb-1) ++a.extract 0 na++(out.push e).reverse),na,nb-1,out.push e,g,k,c))else elem' a (na-1)>>= λd=>eZ true d b 0 (nb-1) (nb-1-1)>>= fun|some k1=>if nb-1-k1>0 then if(k1==1)=true then pure (.done (some (b.extract 0 k1++a.extract 0 na++(out.push e++(b.extract k1 (nb-1)).reverse).reverse),na,k1,out.push e++(b.extract k1 (nb-1)).reverse,g,k,nb-1-k1))else if(k1==0)=true then pure (.done (some (a.extract 0 na++b.extract 0 k1++(out.push e++(b.extract k1 (nb-1)).reverse).reverse),na,k1,out.push e++(b.extract k1 (nb-1)).reverse,g,k,nb-1-k1))else hi3 a b na k1 (out.push e++(b.extract k1 (nb-1)).reverse) g k (nb-1-k1)else hi3 a b na (nb-1) (out.push e) g k (nb-1-k1)|_=>pure (.done (some (a.extract 0 na++b.extract 0 (nb-1) ++(out.push e).reverse),na,nb-1,out.push e,g,k,c))
noncomputable def hi1(a b:Array Keyed)(na nb:Nat)(out:Array Keyed)(d c g:Nat):StateT SortSt Sem (ForInStep (Option (Array Keyed)×Nat×Nat×Array Keyed×Nat×Nat×Nat)):=cG g>>= λ_=>elem' b (nb-1)>>= λe=>eZ false e a 0 na (na-1)>>= fun|some k=>if na-k>0 then if(k==0)=true then pure (.done (some (a.extract 0 k++b.extract 0 nb++(out++(a.extract k na).reverse).reverse),k,nb,out++(a.extract k na).reverse,g,na-k,c))else hi2 a b k nb (out++(a.extract k na).reverse) g (na-k) c else hi2 a b na nb out g (na-k) c|_=>pure (.done (some (a.extract 0 na++b.extract 0 nb++out.reverse),na,nb,out,g,d,c))
noncomputable def hiI(a b:Array Keyed)(na nb:Nat)(out:Array Keyed)(g c d:Nat):StateT SortSt Sem (ForInStep (Option (Array Keyed)×Nat×Nat×Array Keyed×Nat×Nat)):=elem' b (nb-1)>>= λf=>elem' a (na-1)>>= λh=>lt' f h>>= fun|some w=>if w=true then(elem' a (na-1)>>= λe=>if(na-1==0)=true then pure (.done (some (a.extract 0 (na-1) ++b.extract 0 nb++(out.push e).reverse),na-1,nb,out.push e,c+1,0))else if c+1>=g then pure (.done (none,na-1,nb,out.push e,c+1,0))else pure (.yield (none,na-1,nb,out.push e,c+1,0)))else(elem' b (nb-1)>>= λe=>if(nb-1==1)=true then pure (.done (some (b.extract 0 (nb-1) ++a.extract 0 na++(out.push e).reverse),na,nb-1,out.push e,0,d+1))else if d+1>=g then pure (.done (none,na,nb-1,out.push e,0,d+1))else pure (.yield (none,na,nb-1,out.push e,0,d+1)))|_=>pure (.done (some (a.extract 0 na++b.extract 0 nb++out.reverse),na,nb,out,c,d))
noncomputable def hiG(a b:Array Keyed)(x:Option (Array Keyed)×Nat×Nat×Array Keyed×Nat×Nat×Nat):StateT SortSt Sem (ForInStep (Option (Array Keyed)×Nat×Nat×Array Keyed×Nat×Nat×Nat)):=
 if x.2.2.2.2.1>1 then hi1 a b x.2.1 x.2.2.1 x.2.2.2.1 x.2.2.2.2.2.1 x.2.2.2.2.2.2 (x.2.2.2.2.1-1)else hi1 a b x.2.1 x.2.2.1 x.2.2.2.1 x.2.2.2.2.2.1 x.2.2.2.2.2.2 x.2.2.2.2.1
noncomputable def hiE(x:Option (Array Keyed)×Nat×Nat×Array Keyed×Nat×Nat×Nat):StateT SortSt Sem (ForInStep (Option (Array Keyed)×Nat×Nat×Array Keyed×Nat)):=
 match x.1 with
 | some r=>pure (.done (some r,x.2.1,x.2.2.1,x.2.2.2.1,x.2.2.2.2.1))
 | none=>do
   cG (x.2.2.2.2.1+1)
   pure (.yield (none,x.2.1,x.2.2.1,x.2.2.2.1,x.2.2.2.2.1+1))
noncomputable def hiF(a b:Array Keyed)(g:Nat)(x:Option (Array Keyed)×Nat×Nat×Array Keyed×Nat×Nat):StateT SortSt Sem (ForInStep (Option (Array Keyed)×Nat×Nat×Array Keyed×Nat)):=
 match x.1 with
 | some r=>pure (.done (some r,x.2.1,x.2.2.1,x.2.2.2.1,g))
 | none=>do
   rule "list.sort.gallop"
   let x<-forIn [0:a.size+b.size] (none,x.2.1,x.2.2.1,x.2.2.2.1,g+1,x.2.2.2.2.1,x.2.2.2.2.2) λ_ x=>hiG a b x
   hiE x
noncomputable def hiO(a b:Array Keyed)(x:Option (Array Keyed)×Nat×Nat×Array Keyed×Nat):StateT SortSt Sem (ForInStep (Option (Array Keyed)×Nat×Nat×Array Keyed×Nat)):=do
 let y<-forIn [0:a.size+b.size] (none,x.2.1,x.2.2.1,x.2.2.2.1,0,0) λ_ y=>hiI a b y.2.1 y.2.2.1 y.2.2.2.1 x.2.2.2.2 y.2.2.2.2.1 y.2.2.2.2.2
 hiF a b x.2.2.2.2 y
noncomputable def hiR(x:Option (Array Keyed)×Nat×Nat×Array Keyed×Nat):StateT SortSt Sem (Array Keyed):=
 match x.1 with
 | some r=>pure r
 | none=>unsupported "internal:list.sort.merge-bound"
set_option smartUnfolding false in
theorem Gz(a b:Array Keyed):mR a b=(do
 rule "list.sort.merge-hi"
 let e<-elem' a (a.size-1)
 if(a.size-1==0)=true then pure (a.extract 0 (a.size-1) ++b.extract 0 b.size++ #[e].reverse)
 else if(b.size==1)=true then pure (b.extract 0 b.size++a.extract 0 (a.size-1) ++ #[e].reverse)
 else do
  let s<-get
  let x<-forIn [0:a.size+b.size] (none,a.size-1,b.size,#[e],gallopOf s) λ_ x=>hiO a b x
  hiR x):=by
 rfl
structure HC (prog:Program) (w:World) (A:Around) (SI:Shared->Prop) (D:Keyed->Prop) (N:Keyed->Nat) (a b:Array Keyed) (st:SortSt):Prop where
 c:Cmp prog w A SI (kindOf st) D N
 hA:Srt N a.toList
 hB:Srt N b.toList
 DA:∀{i:Nat} (hi:i<a.size),D a[i]
 DB:∀{i:Nat} (hi:i<b.size),D b[i]
 fd:∀(out:Array Keyed) (na nb:Nat),MH N a.toList b.toList out.reverse.toList na nb->(na=0\/nb=0)->cH N a.toList b.toList (a.extract 0 na++b.extract 0 nb++out.reverse).toList
 ff:∀(out:Array Keyed) (na nb:Nat),MH N a.toList b.toList out.reverse.toList na nb->nb=1->cH N a.toList b.toList (b.extract 0 nb++a.extract 0 na++out.reverse).toList
theorem HC.of{D:Keyed->Prop}{N:Keyed->Nat}{a b:Array Keyed}{s t:SortSt}(C:HC prog w A SI D N a b s)(h:SG s t):HC prog w A SI D N a b t:={C with c:=h.1▸C.c}
variable{D:Keyed->Prop}{N:Keyed->Nat}{a b out:Array Keyed}{na nb g k bc z:Nat}{st:SortSt}
theorem AF{k1:Nat}{R:ForInStep _->SortSt->Prop}(C:HC prog w A SI D N a b st)(m:MH N a.toList b.toList out.reverse.toList (na+1) nb)(t:na+1<=a.size)(j:2<=nb)(l:nb<=b.size)(c:∀y∈b.toList.take nb,N y<=N (a[na]'⋯))(n:z<=out.size+1)
 (p:∀r o,cH N a.toList b.toList r.toList->R (.done (some r,o)) st) (q:∀na nb out g k k1,MHS N a b out na nb->z<=out.size->R (.done (none,na,nb,out,g,k,k1)) st/\R (.yield (none,na,nb,out,g,k,k1)) st):(SC prog w A SI) (hi3 a b (na+1) nb out g k k1) R st:=by
 have%[s|d]:=aZ (a:=a) (i:=na) ⋯;refine ar (be s ?_);have e:=MH.oneA m C.hA d c;rw[<-jJ]at e;by_cases f:na=0
 .rw[if_pos (by simp[f])];exact av (p _ _ (C.fd _ _ _ e (.inl f)))
 rw[if_neg (by simp[f])];have h:=q _ _ _ g k k1 (MHS.mk e ⋯ j ⋯ l) (by rw[Xk];exact n)
 split
 .exact av h.1
 .exact av h.2
theorem AG{R:ForInStep (Option (Array Keyed)×Nat×Nat×Array Keyed×Nat×Nat×Nat)->SortSt->Prop}(C:HC prog w A SI D N a b st)(m:MH N a.toList b.toList out.reverse.toList (na+1) (nb+1))(H:na+1<=a.size)(pb:1<=nb)(mb:nb+1<=b.size)(l:∀y∈a.toList.take (na+1),N y<=N b[nb])(hz:z<=out.size+2)
 (d:∀r o,cH N a.toList b.toList r.toList->R (.done (some r,o)) st) (I:∀na nb out g k k1,MHS N a b out na nb->z<=out.size->R (.done (none,na,nb,out,g,k,k1)) st/\R (.yield (none,na,nb,out,g,k,k1)) st):(SC prog w A SI) (hi2 a b (na+1) (nb+1) out g k bc) R st:=by
 have%[O|n]:=aZ (a:=b) (i:=nb) ⋯;have%[Q|p]:=aZ (a:=a) (i:=na) ⋯;unfold hi2;rw[add_sub_cancel,add_sub_cancel];refine ar (be O ?_);have f:=MH.oneB m C.hB n l;rw[<-jJ]at f;by_cases q:nb=1
 .rw[if_pos (by simp[q])];exact av (d _ _ (C.ff _ _ _ f q))
 rw[if_neg (by simp[q])];refine ar (be Q ?_);refine ar (d9 C.c (C.DA ⋯) (λi hi=>%[b[0+i]'⋯,(aZ ⋯).1|C.DB ⋯]) (λi=>bY N true (a[na]'⋯) (b.getD (0+i) b[nb]))
  (λi x hi s=>by rw[Zs,s];rfl) (λi i' t hi T=>pQ C.hB t ⋯ T) ⋯ λk2 u U Y=>?_)
 dsimp only;have J:=Gx U Y;have c:∀y∈b.toList.take k2,N y<=N (a[na]'⋯):=λy v=>by
  have%[j,B,L|e]:=bz v;exact Yg (J.1 j y B (by simpa using e))
 have h:=f.takeB C.hB k2 u (λy v x s=>by
  have%[i,B,L,h3|e]:=wM v;exact Yi (C.hA.take_le p s) (J.2 i y B L (by simpa using e)))
 by_cases M:nb-k2>0
 .rw[if_pos M];rw[<-wN,<-wO]at h;by_cases E:k2=1
  .rw[if_pos (by simp[E])];exact av (d _ _ (C.ff _ _ _ h E))
  rw[if_neg (by simp[E])];by_cases G:k2=0
  .rw[if_pos (by simp[G])];exact av (d _ _ (C.fd _ _ _ h (.inr G)))
  rw[if_neg (by simp[G])];exact AF C h H ⋯ ⋯ c (by simp;lia) d I
 .rw[if_neg M];obtain rfl:k2=nb:=by lia
  exact AF C f H ⋯ ⋯ c (by rw[Xk];lia) d I
theorem Fj{I:Nat}{R:ForInStep (Option (Array Keyed)×Nat×Nat×Array Keyed×Nat×Nat×Nat)->SortSt->Prop}(C:HC prog w A SI D N a b st)(m:MHS N a b out na nb)(J:z<=out.size+2)
 (h:∀c r o,SG st c->cH N a.toList b.toList r.toList->R (.done (some r,o)) c) (B:∀c na nb out g k k1,SG st c->MHS N a b out na nb->z<=out.size->R (.done (none,na,nb,out,g,k,k1)) c/\R (.yield (none,na,nb,out,g,k,k1)) c):(SC prog w A SI) (hi1 a b na nb out I bc g) R st:=by
 have%[E,Y,pb,L|G]:=m;obtain⟨nb,rfl⟩:∃n,nb=n+1:=%[nb-1|⋯]
 have%[M|l]:=aZ (a:=b) (i:=nb) ⋯;unfold hi1;rw[add_sub_cancel,fK];refine ar (cp ?_);have sg:=(SG.refl st).set g;refine ar (be M ?_);refine ar (d9 (C.of sg).c (C.DB ⋯) (λi hi=>%[a[0+i]'⋯,(aZ ⋯).1|C.DA ⋯]) (λi=>bY N false b[nb] (a.getD (0+i) b[nb]))
  (λi x hi p=>by rw[Zs,p];rfl) (λi i' q hi O=>pP C.hA q ⋯ O) ⋯ λk Q T U=>?_)
 dsimp only;have s:=Gw T U;simp only[zero_add]at s;have mk:=E.takeA C.hA k Q (λy t x p=>by
  have%[i,u,H,h3|e]:=wM t;exact Yi (C.hB.take_le l p) (Yg (s.2 i y u H (by simpa using e))))
 have d:∀y∈a.toList.take k,N y<=N b[nb]:=λy t=>by
  have%[j,u,H|e]:=bz t;exact s.1 j y u (by simpa using e)
 by_cases f:na-k>0
 .rw[if_pos f];rw[<-wN,<-wO]at mk;by_cases v:k=0
  .rw[if_pos (by simp[v])];exact av (h _ _ _ sg (C.fd _ _ _ mk (.inl v)))
  rw[if_neg (by simp[v])];obtain⟨k,rfl⟩:∃n,k=n+1:=%[k-1|⋯]
  exact AG (C.of sg) mk ⋯ ⋯ G d (by simp;lia) (λr o=>h _ r o sg) λna nb out g k k1=>B _ na nb out g k k1 sg
 .rw[if_neg f];obtain rfl:k=na:=by lia
  obtain⟨k,rfl⟩:∃n,k=n+1:=%[k-1|⋯]
  exact AG (C.of sg) E L ⋯ G d J (λr o=>h _ r o sg) λna nb out g k k1=>B _ na nb out g k k1 sg
theorem Fk{d:Nat}{R:ForInStep (Option (Array Keyed)×Nat×Nat×Array Keyed×Nat×Nat)->SortSt->Prop}(C:HC prog w A SI D N a b st)(m:MHS N a b out na nb)(l:z<=out.size+1)
 (p:∀r o,cH N a.toList b.toList r.toList->R (.done (some r,o)) st) (s:∀na nb out d bc,MHS N a b out na nb->z<=out.size->R (.done (none,na,nb,out,d,bc)) st/\R (.yield (none,na,nb,out,d,bc)) st):(SC prog w A SI) (hiI a b na nb out g d bc) R st:=by
 have%[t,B,E,G|H]:=m;obtain⟨na,rfl⟩:∃n,na=n+1:=%[na-1|⋯]
 obtain⟨nb,rfl⟩:∃n,nb=n+1:=%[nb-1|⋯]
 have%[u|e]:=aZ (a:=a) (i:=na) ⋯;have%[v|f]:=aZ (a:=b) (i:=nb) ⋯;unfold hiI;rw[add_sub_cancel,add_sub_cancel];refine ar (be v (ar (be u (ar (tG C.c (C.DB ⋯) (C.DA ⋯) ?_)))));dsimp only;by_cases c:N b[nb]<N a[na]
 .rw[Zf c,if_pos rfl];refine ar (be u ?_);have m2:=t.oneA C.hA e λy j=>Yi (C.hB.take_le f j) (Yg c)
  rw[<-jJ]at m2;by_cases q:na=0
  .rw[if_pos (by simp[q])];exact av (p _ _ (C.fd _ _ _ m2 (.inl q)))
  rw[if_neg (by simp[q])];have h:=s _ _ _ (d+1) 0 %[m2,⋯,E,⋯|H] (by rw[Xk];exact l)
  split
  .exact av h.1
  .exact av h.2
 .rw[Zh c,if_neg ∅];refine ar (be v ?_);have m2:=t.oneB C.hB f λy j=>Yi (C.hA.take_le e j) (Nat.le_of_not_lt c)
  rw[<-jJ]at m2;by_cases q:nb=1
  .rw[if_pos (by simp[q])];exact av (p _ _ (C.ff _ _ _ m2 q))
  rw[if_neg (by simp[q])];have h:=s _ _ _ 0 (bc+1) %[m2,B,⋯,G|⋯] (by rw[Xk];exact l)
  split
  .exact av h.1
  .exact av h.2
theorem Fn{j:Nat}{q:Option (Array Keyed)}{R:ForInStep (Option (Array Keyed)×Nat×Nat×Array Keyed×Nat)->SortSt->Prop}(C:HC prog w A SI D N a b st)(m:MHS N a b out na nb)(e:j+1<=out.size)
 (p:∀d r o,SG st d->cH N a.toList b.toList r.toList->R (.done (some r,o)) d) (s:∀d na nb out g,SG st d->MHS N a b out na nb->j+2<=out.size->R (.yield (none,na,nb,out,g)) d):(SC prog w A SI) (hiO a b (q,na,nb,out,g)) R st:=by
 have t:=m.pa;have u:=m.ma;refine ar (bN (bx (Q:=λx d=>SG st d/\((∃r o,x=(some r,o)/\cH N a.toList b.toList r.toList)\/∃na nb out f bc,x=(none,na,nb,out,f,bc)/\MHS N a b out na nb/\j+2<=out.size))
  (λj2 x d=>SG st d/\∃na nb out f bc,x=(none,na,nb,out,f,bc)/\MHS N a b out na nb/\j+1+j2<=out.size) (Xg _) %[SG.refl _,_,_,_,_,_,rfl,m|e] ?_ ?_) ?_)
 .intro j2 x i _ l %[c,na,nb,out,f,bc,rfl,m|e];exact Fk (C.of c) m ⋯ (λr o h=>%[c|.inl %[r,o,rfl|h]]) λna nb out f bc h z=>%[%[c|.inr %[_,_,_,_,_,rfl,h|⋯]],c,_,_,_,_,_,rfl,h|z]
 .intro x i %[c,na,nb,out,f,bc,rfl,m|e];exact%[c|.inr %[_,_,_,_,_,rfl,m|⋯]]
 .rintro x i ⟨c,⟨r,o,rfl,n⟩|⟨na,nb,out,f,bc,rfl,m,e⟩⟩
  .exact av (p _ r _ c n)
  .refine ar (iI ?_);refine ar (bN (bx (Q:=λx d=>SG st d/\((∃r o,x=(some r,o)/\cH N a.toList b.toList r.toList)\/∃na nb out g f bc,x=(none,na,nb,out,g,f,bc)/\MHS N a b out na nb/\j+2<=out.size))
    (λj2 x d=>SG st d/\∃na nb out g f bc,x=(none,na,nb,out,g,f,bc)/\MHS N a b out na nb/\j+2<=out.size) (Xg _) %[c,_,_,_,_,_,_,rfl,m|e] ?_ ?_) ?_)
   .intro j2 x i _ l %[c,na,nb,out,g,f,bc,rfl,m|e];unfold hiG;rw[<-apply_ite _];exact Fj (C.of c) m ⋯ (λd r o sg h=>%[SG.trans c sg|.inl %[r,o,rfl|h]]) λd na nb out g k k1 sg h z=>%[%[SG.trans c sg|.inr %[_,_,_,_,_,_,rfl,h|z]],SG.trans c sg,_,_,_,_,_,_,rfl,h|z]
   .simp_all
   .rintro x i ⟨c,⟨r,o,rfl,n⟩|⟨na,nb,out,g,f,bc,rfl,m,e⟩⟩
    .exact av (p _ r _ c n)
    .exact ar (cp (av (s _ _ _ _ _ (c.set _) m e)))
theorem vG{D:Keyed->Prop}{N:Keyed->Nat}{a b:Array Keyed}{Q:Array Keyed->SortSt->Prop}{st:SortSt}(c:Cmp prog w A SI (kindOf st) D N)(s:Srt N a.toList)(v:Srt N b.toList)(T:∀x∈a.toList,D x)(U:∀x∈b.toList,D x)
 (ha:1<=a.size) (hb:1<=b.size) (Y:∀x y,b.toList[0]? =some x->a.toList[0]? =some y->N x<=N y) (hl:∀y∈b.toList,∀x∈a.toList.drop (a.size-1),N y<=N x)
 (h:∀r d,SG st d->cH N a.toList b.toList r.toList->Q r d):(SC prog w A SI) (mR a b) Q st:=by
 have DA:∀{i:Nat} (hi:i<a.size),D a[i]:=λhi=>T _ ∅
 have DB:∀{i:Nat} (hi:i<b.size),D b[i]:=λhi=>U _ ∅
 have I:∀(out:Array Keyed) (na nb:Nat),MH N a.toList b.toList out.reverse.toList na nb->(na=0\/nb=0)->cH N a.toList b.toList (a.extract 0 na++b.extract 0 nb++out.reverse).toList:=λout na nb m q=>by
  rw[Xf,Xf,CP,CP];refine m.done s v λx B y t=>?_
  rcases q with q|q
  .have%[j,J|_]:=bz B
   lia
  .have%[j,J|_]:=bz t
   lia
 have L:∀(out:Array Keyed) (na nb:Nat),MH N a.toList b.toList out.reverse.toList na nb->nb=1->cH N a.toList b.toList (b.extract 0 nb++a.extract 0 na++out.reverse).toList:=λout na nb m q=>by
  rw[Xf,Xf,CP,CP];refine m.first s v λy t x B=>?_
  have%[j,J,h2|e]:=bz t;have%[i,_,h4|e']:=bz B;have j0:j=0:=by lia
  subst j0;have%[M|f]:=aZ (a:=a) (i:=0) ⋯;exact Yi (Y _ _ e f) (s.le (Xg _) f e')
 rw[Gz];refine ar (iI ?_);obtain⟨l,C⟩:∃l,a.size=l+1:=%[a.size-1|⋯]
 have%[M|f]:=aZ (a:=a) (i:=l) ⋯;rw[show a.size-1=l by lia];refine ar (be M ?_);have E:MH N a.toList b.toList #[a[l]].reverse.toList l b.size:=by
  have z:=MH.zero N a.toList b.toList;rw[Zb,Zb,C]at z;exact z.oneA s f λy t=>hl y (Yz t) _ (by
   rw[show a.size-1=l by lia];exact Z8 (i:=0) (by rw[Yb];exact f))
 by_cases G:l=0
 .rw[if_pos (by simp[G])];exact av (h _ st (SG.refl _) (I _ _ _ E (.inl G)))
 rw[if_neg (by simp[G])];by_cases H:b.size=1
 .rw[if_pos (by simp[H])];exact av (h _ st (SG.refl _) (L _ _ _ E H))
 rw[if_neg (by simp[H])];refine ar (fA ?_);refine ar (bN (bx (Q:=λx d=>SG st d/\∃r,x.1=some r/\cH N a.toList b.toList r.toList)
  (λj x d=>SG st d/\∃na nb out g,x=(none,na,nb,out,g)/\MHS N a b out na nb/\j+1<=out.size) (Xg _) %[SG.refl _,_,_,_,_,rfl,%[E,⋯,⋯,⋯|⋯]|Zi _] ?_ ?_) ?_)
 .intro j x n _ hj %[sg,na,nb,out,g,rfl,m|u];exact Fn (HC.of %[c,s,v,DA,DB,I|L] sg) m u (λd r o p h=>%[SG.trans sg p,r,rfl|h]) λd na nb out g p h z=>%[SG.trans sg p,_,_,_,_,rfl,h|z]
 .intro x n %[sg,na,nb,out,g,rfl,m|u];have:=m.pa;have:=m.pb;have:=m.ma;have:=m.mb;have q:=m.mh.perm.length_eq;simp only[Z9,Yn,Zb,Array.size_reverse]at q
  lia
 .intro x n %[sg,r,O|gd];have%[x1|x2]:=x;dsimp only at O;subst O;exact av (h r n sg gd)
end
end SBig
namespace SBig
open PySem PyProof.Rows
theorem tH(i:Nat):mergeAt' i=(do
 let s<-get
 let(some (b,na,c),some (d,nb,_)):=((pendingOf s)[i]?,(pendingOf s)[i+1]?)|unsupported "internal:list.sort.pending"
 set (setPending s (((pendingOf s).setIfInBounds i (b,na+nb,c)).eraseIdxIfInBounds (i+1)))
 let some k<-eZ false (<-elem' (arrOf s) d) (arrOf s) b na 0|return false
 let(b,na):=(b+k,na-k)
 if na==0 then return true
 let some nb<-eZ true (<-elem' (arrOf s) (b+na-1)) (arrOf s) d nb (nb-1)|return false
 if nb==0 then return true
 let x:=(arrOf s).extract b d
 let y:=(arrOf s).extract d (d+nb)
 let merged<-if na<=nb then mQ x y else mR x y
 modify λs=>setArr s (merged.toList.zipIdx.foldl (λa (p,j)=>a.setIfInBounds (b+j) p) (arrOf s))
 return (failedOf (<-get)).isNone):=rfl
theorem tJ:∀m c o (a:Array Keyed),o+c+m.length<=a.size->
 ((m.zipIdx c).foldl (λa p=>a.setIfInBounds (o+p.2) p.1) a).toList=a.toList.take (o+c) ++m++a.toList.drop (o+c+m.length)
 |[],c,o,a,_=>by simp
 | x::m,c,o,a,h=>by
   rw[List.zipIdx_cons,Y8];rw[Zr]at h;rw[tJ m _ o _ (by rw[Array.size_setIfInBounds];lia),Array.toList_setIfInBounds];have b:o+c<a.toList.length:=by rw[Zb];lia
   rw[Zr,List.take_set,List.drop_set];rw[show o+(c+1)=o+c+1 by lia,show o+c+1+m.length=o+c+(m.length+1) by lia];have e:(a.toList.take (o+c+1)).set (o+c) x=a.toList.take (o+c) ++[x]:=by
    rw[List.take_succ_eq_append_getElem b];rw[List.set_append_right _ _ (by rw[Yn];lia)];rw[Yn,X1 ⋯,sub_self];rfl
   rw[e];simp
section
variable{prog:Program}{w:World}{A:Around}{SI:Shared->Prop}{α β:Type}
theorem vH{D:Keyed->Prop}{N:Keyed->Nat}{i p p2:Nat}{b X Y L2:List Keyed}{Q:Bool->SortSt->Prop}{st:SortSt}(c:Cmp prog w A SI (kindOf st) D N)(e:(arrOf st).toList=b++X++Y++L2)(M:Srt N X)(O:Srt N Y)(nX:X≠[])(nY:Y≠[])
 (dX:∀x∈X,D x) (dY:∀x∈Y,D x) (hp:(pendingOf st)[i]? =some (b.length,X.length,p)) (ai:(pendingOf st)[i+1]? =some (b.length+X.length,Y.length,p2)) (hf:failedOf st=none)
 (h:∀Z t,Srt N Z->Z.Perm (X++Y)->(arrOf t).toList=b++Z++L2->kindOf t=kindOf st->failedOf t=none->pendingOf t=((pendingOf st).setIfInBounds i (b.length,X.length+Y.length,p)).eraseIdxIfInBounds (i+1)->Q true t):(SC prog w A SI) (mergeAt' i) Q st:=by
 have lX:0<X.length:=length_pos_iff.mpr nX;have lY:0<Y.length:=length_pos_iff.mpr nY;have sz:(arrOf st).size=b.length+X.length+Y.length+L2.length:=by
  rw[<-Zb,e];simp only[Z9]
 have E:∀(j:Nat) (d:j<X.length),(arrOf st)[b.length+j]? =some X[j]:=λj d=>by
  have:(arrOf st).toList[b.length+j]? =some X[j]:=by
   rw[e,Ze,Ze,Ya ⋯,Zw,Y9 d];simp[d]
  simpa using this
 have G:∀(j:Nat) (d:j<Y.length),(arrOf st)[b.length+X.length+j]? =some Y[j]:=λj d=>by
  have:(arrOf st).toList[b.length+X.length+j]? =some Y[j]:=by
   rw[e,Ze,Ya (by rw[Z9];lia),Z9,Zw,Y9 d];simp[d]
  simpa using this
 have DX:∀(j:Nat) (d:j<X.length),D X[j]:=λj d=>dX _ (Yd d)
 have DY:∀(j:Nat) (d:j<Y.length),D Y[j]:=λj d=>dY _ (Yd d)
 have u:∀(i j:Nat) (hi:i<=j) (d:j<X.length),N (X[i]'⋯)<=N X[j]:=λi j hi d=>M.le hi ∅ ∅
 have z:∀(i j:Nat) (hi:i<=j) (d:j<Y.length),N (Y[i]'⋯)<=N Y[j]:=λi j hi d=>O.le hi ∅ ∅
 rw[tH];refine ar (fA ?_);rw[hp,ai];dsimp only;refine ar (Ff ?_);have eb:=G 0 lY;rw[add_zero]at eb;refine ar (be eb ?_);refine ar (d9 c (DY 0 lY) (λi hi=>%[_,E i hi|DX i hi]) (λi=>bY N false Y[0] (X.getD i Y[0])) (λi x hi f=>by
  rw[E i hi]at f;cases f;rw[Zc,Z4 hi];rfl) (λi j H d I=>?_) lX λk hk p1 p2=>?_)
 .rw[Zc,Z4 d]at I;rw[Zc,Z4 ⋯];have:=u i j H d;unfold bY at I ⊢;simp only[Y1,if_false,Bool.not_eq_true',decide_eq_false_iff_not,getD_some]at I ⊢
  lia
 have g1:∀(j:Nat) (d:j<X.length),j<k->N X[j]<=N Y[0]:=λj d m=>by
  have:=p1 j m;rw[Zc,Z4 d]at this;unfold bY at this;simpa using this
 have g2:∀(j:Nat) (d:j<X.length),k<=j->N Y[0]<N X[j]:=λj d m=>by
  have:=p2 j m d;rw[Zc,Z4 d]at this;unfold bY at this;simpa using this
 dsimp only;by_cases q1:X.length-k=0
 .rw[if_pos (by simp[q1])];refine av (h (X++Y) _ (pairwise_append.mpr %[M,O|λx f y n=>?_]) (List.Perm.refl _) (by show(arrOf st).toList=_;rw[e];simp) rfl hf rfl);have%[j,d|rfl]:=Ye f;have%[o,l|rfl]:=Ye n;exact Yi (g1 j d ⋯) (z 0 o (Xg _) l)
 rw[if_neg (by simpa using q1)];have el:=E (X.length-1) ⋯;rw[show b.length+k+(X.length-k) -1=b.length+(X.length-1) by lia];refine ar (be el ?_);refine ar (d9 c (DX _ ⋯) (λi hi=>%[_,G i hi|DY i hi]) (λi=>bY N true (X[X.length-1]'⋯) (Y.getD i Y[0])) (λi x hi f=>by
  rw[G i hi]at f;cases f;rw[Zc,Z4 hi];rfl) (λi j H d I=>?_) ⋯ λk2 T p3 p4=>?_)
 .rw[Zc,Z4 d]at I;rw[Zc,Z4 ⋯];have:=z i j H d;unfold bY at I ⊢;simp only[if_true,decide_eq_true_eq,getD_some]at I ⊢
  lia
 have g3:∀(j:Nat) (d:j<Y.length),j<k2->N Y[j]<N (X[X.length-1]'⋯):=λj d m=>by
  have:=p3 j m;rw[Zc,Z4 d]at this;unfold bY at this;simpa using this
 have g4:∀(j:Nat) (d:j<Y.length),k2<=j->N (X[X.length-1]'⋯)<=N Y[j]:=λj d m=>by
  have:=p4 j m d;rw[Zc,Z4 d]at this;unfold bY at this;simpa using this
 dsimp only;by_cases q2:k2=0
 .rw[if_pos (by simp[q2])];refine av (h (X++Y) _ (pairwise_append.mpr %[M,O|λx f y n=>?_]) (List.Perm.refl _) (by show(arrOf st).toList=_;rw[e];simp) rfl hf rfl);have%[j,d|rfl]:=Ye f;have%[o,l|rfl]:=Ye n;exact Yi (u j (X.length-1) ⋯ ⋯) (g4 o l ⋯)
 rw[if_neg (by simpa using q2)];have ex:((arrOf st).extract (b.length+k) (b.length+X.length)).toList=X.drop k:=by
  rw[mS,e,Ze,Ze,List.drop_append,List.drop_of_length_le ⋯,nil_append,Zw,List.drop_append_of_le_length ⋯,Xe (by rw[Yj];lia),Zn (by rw[Yj];lia)]
 have L:((arrOf st).extract (b.length+X.length) (b.length+X.length+k2)).toList=Y.take k2:=by
  rw[rj,e,Ze,List.drop_append,List.drop_of_length_le (by rw[Z9];lia),nil_append,Z9,sub_self,drop_zero,Xe ⋯]
 have sx:((arrOf st).extract (b.length+k) (b.length+X.length)).size=X.length-k:=by rw[<-Zb,ex,Yj]
 have sy:((arrOf st).extract (b.length+X.length) (b.length+X.length+k2)).size=k2:=by rw[<-Zb,L,Yn,X1 T]
 have al:∀(r:Array Keyed) (g:SortSt),SG (setPending st (((pendingOf st).setIfInBounds i (b.length,X.length+Y.length,p)).eraseIdxIfInBounds (i+1))) g->cH N (X.drop k) (Y.take k2) r.toList->
  (SC prog w A SI) (do modify (λs=>setArr s (r.toList.zipIdx.foldl (λa (p,j)=>a.setIfInBounds (b.length+k+j) p) (arrOf s)));let x<-get;pure (failedOf x).isNone) Q g:=λr g sg J=>by
  refine ar (cp (ar (fA (av ?_))));have U:failedOf g=none:=by rw[sg.2.2.2];exact hf
  show Q (failedOf g).isNone _;rw[U];have lr:r.toList.length=(X.length-k) +k2:=by
   rw[J.2.length_eq,Z9,Yj,Yn,X1 T]
  refine h (X.take k++r.toList++Y.drop k2) _ ?_ ?_ ?_ sg.1 U sg.2.2.1
  .have mem:∀y∈r.toList,(∃(j:Nat) (d:j<X.length),k<=j/\y=X[j])\/∃(j:Nat) (d:j<Y.length),j<k2/\y=Y[j]:=λy n=>by
    rcases Xo (J.2.mem_iff.mp n)with q|q
    .have%[j,v,h2|e]:=bT q;have%[d|e]:=Xn e;exact .inl %[j,d,v|e.symm]
    .have%[j,v,h2|e]:=bz q;have%[d|e]:=Xn e;exact .inr %[j,d,v|e.symm]
   refine pairwise_append.mpr %[pairwise_append.mpr %[M.take k,J.1|λx f y n=>?_],O.drop k2|λx f y n=>?_]
   .have%[j,v,h2|e]:=bz f;have%[d|rfl]:=Xn e;rcases mem y n with⟨o,l,h3,rfl⟩|⟨o,l,h3,rfl⟩
    .exact u j o ⋯ l
    .exact Yi (g1 j d v) (z 0 o (Xg _) l)
   .have%[j,v,h2|e]:=bT n;have%[d|rfl]:=Xn e;rcases Xo f with f|f
    .have%[o,h3,h4|e']:=bz f;have%[l|rfl]:=Xn e';exact Yi (u o (X.length-1) ⋯ ⋯) (g4 j d v)
    .rcases mem x f with⟨o,l,h3,rfl⟩|⟨o,l,h3,rfl⟩
     .exact Yi (u o (X.length-1) ⋯ ⋯) (g4 j d v)
     .exact z o j ⋯ d
  .have p1:(X.take k++r.toList++Y.drop k2).Perm (X.take k++(X.drop k++Y.take k2) ++Y.drop k2):=Xm _ (List.Perm.append_left _ J.2);refine p1.trans ?_;rw[<-Ze,Xd,Ze,Xd]
  .show(setArr g _|>arrOf).toList=_;have aa:arrOf g=arrOf st:=sg.2.1;show((r.toList.zipIdx).foldl (λ(a:Array Keyed) (p:Keyed×Nat)=>a.setIfInBounds (b.length+k+p.2) p.1) (arrOf g)).toList=_;rw[tJ _ 0 _ _ (by rw[lr,aa,sz];lia),aa,e,lr];have t1:(b++X++Y++L2).take (b.length+k+0)=b++X.take k:=by
    rw[add_zero,Ze,Ze,List.take_append,Zn ⋯,Zw,Xe ⋯]
   have t2:(b++X++Y++L2).drop (b.length+k+0+(X.length-k+k2))=Y.drop k2++L2:=by
    rw[show b.length+k+0+(X.length-k+k2)=(b++X).length+k2 by rw[Z9];lia,Ze,List.drop_append,List.drop_of_length_le ⋯,nil_append,Zw,List.drop_append_of_le_length ⋯]
   rw[t1,t2];simp
 have B:∀x y,((arrOf st).extract (b.length+X.length) (b.length+X.length+k2)).toList[0]? =some x->((arrOf st).extract (b.length+k) (b.length+X.length)).toList[0]? =some y->N x<=N y:=λx y f n=>by
  rw[L,Yc,if_pos ⋯,Z4 lY]at f;rw[ex,Yb,Z4 (by omega)]at n;cases f;cases n;exact Yg (g2 _ ⋯ ⋯)
 have C:∀y∈((arrOf st).extract (b.length+X.length) (b.length+X.length+k2)).toList,∀x∈((arrOf st).extract (b.length+k) (b.length+X.length)).toList.drop (((arrOf st).extract (b.length+k) (b.length+X.length)).size-1),N y<=N x:=λy n x f=>by
  rw[L]at n;rw[sx,ex,drop_drop]at f;have%[j,v,h2|e1]:=bz n;have%[d|rfl]:=Xn e1;have%[o,h3,h4|e2]:=bT f;have%[l|rfl]:=Xn e2;have:o=X.length-1:=by lia
  subst this;exact Yg (g3 j d v)
 have ab:Srt N ((arrOf st).extract (b.length+k) (b.length+X.length)).toList:=by exact ex▸M.drop k
 have ac:Srt N ((arrOf st).extract (b.length+X.length) (b.length+X.length+k2)).toList:=L▸O.take k2;have ag:∀x∈((arrOf st).extract (b.length+k) (b.length+X.length)).toList,D x:=λx f=>dX x (by rw[ex]at f;exact Yy f)
 have ah:∀x∈((arrOf st).extract (b.length+X.length) (b.length+X.length+k2)).toList,D x:=λx f=>dY x (by rw[L]at f;exact Yz f)
 have gg:∀(r:Array Keyed) (g:SortSt),SG (setPending st (((pendingOf st).setIfInBounds i (b.length,X.length+Y.length,p)).eraseIdxIfInBounds (i+1))) g->cH N ((arrOf st).extract (b.length+k) (b.length+X.length)).toList ((arrOf st).extract (b.length+X.length) (b.length+X.length+k2)).toList r.toList->
  (SC prog w A SI) (do modify (λs=>setArr s (r.toList.zipIdx.foldl (λa (p,j)=>a.setIfInBounds (b.length+k+j) p) (arrOf s)));let x<-get;pure (failedOf x).isNone) Q g:=λr g sg J=>al r g sg (by rw[ex,L]at J;exact J)
 by_cases q3:X.length-k<=k2
 .rw[if_pos q3];exact ar (vF c ab ac ag ah (by rw[sx];lia) (by rw[sy];lia) B C gg)
 .rw[if_neg q3];exact ar (vG c ab ac ag ah (by rw[sx];lia) (by rw[sy];lia) B C gg)
end
end SBig
namespace SBig
open PySem PyProof.Rows
noncomputable def ky(N:Keyed->Nat)(a:Array Keyed)(i:Nat):Nat:=N (a.getD i (Value.none,Value.none))
theorem AH(h:a[i]? =some x):ky N a i=N x:=by
 unfold ky
 simp_all
theorem tK(h:a[i]? =b[j]?):ky N a i=ky N b j:=by
 unfold ky
 simp_all
structure CR (st0 st:SortSt) (lo:Nat):Prop where
 kind:kindOf st=kindOf st0
 pend:pendingOf st=pendingOf st0
 fail:failedOf st=failedOf st0
 perm:(arrOf st).Perm (arrOf st0)
 same:∀i,i<lo->(arrOf st)[i]? =(arrOf st0)[i]?
theorem CR.refl(st:SortSt)(lo:Nat):CR st st lo:=%[rfl,rfl,rfl,Array.Perm.refl _|λ_ _=>rfl]
theorem CR.size{a st:SortSt}{lo:Nat}(h:CR a st lo):(arrOf st).size=(arrOf a).size:=h.perm.size_eq
theorem CR.rev{a st:SortSt}{lo i j:Nat}(h:CR a st lo)(hi:lo<=i)(b:j<=(arrOf st).size):CR a (setArr st (mirror (arrOf st) i j ((j-i)/2))) lo:=
 %[h.kind,h.pend,h.fail,(mirror_perm _ _ _ _).trans h.perm|λk c=>by
  rw[getElem?_mirror_all b,if_neg ⋯];exact h.same k c]
theorem vI(b:j<=a.size)(k:Nat):ky N (mirror a i j ((j-i)/2)) k=if i<=k/\k<j then ky N a (i+j-1-k)else ky N a k:=by
 split
 .rename_i h
  exact tK (by rw[getElem?_mirror_all b,if_pos h])
 .rename_i h
  exact tK (by rw[getElem?_mirror_all b,if_neg h])
def Up(N:Keyed->Nat)(a:Array Keyed)(lo n:Nat):Prop:=∀i j,i<=j->j<n->ky N a (lo+i)<=ky N a (lo+j)
def Dn(N:Keyed->Nat)(a:Array Keyed)(lo n:Nat):Prop:=∀i j,i<=j->j<n->ky N a (lo+j)<=ky N a (lo+i)
theorem Up.one(N:Keyed->Nat)(a:Array Keyed)(lo:Nat):Up N a lo 1:=λi j b c=>by
 simp_all
theorem Up.step{lo n:Nat}(h:Up N a lo n)(d:1<=n)(f: ¬ ky N a (lo+n)<ky N a (lo+n-1)):Up N a lo (n+1):=λi j b g=>by
 by_cases e:j=n
 .subst e;by_cases c:i=j
  .exact c▸Zi _
  .have:=h i (j-1) ⋯ ⋯;rw[show lo+(j-1)=lo+j-1 by lia]at this
   lia
 .exact h i j b ⋯
theorem Dn.step{lo n:Nat}(h:Dn N a lo n)(d:1<=n)(f:ky N a (lo+n)<=ky N a (lo+n-1)):Dn N a lo (n+1):=λi j b g=>by
 by_cases e:j=n
 .subst e;by_cases c:i=j
  .exact c▸Zi _
  .have:=h i (j-1) ⋯ ⋯;rw[show lo+(j-1)=lo+j-1 by lia]at this
   lia
 .exact h i j b ⋯
theorem Dn.rev{lo n:Nat}(h:Dn N a lo n)(b:lo+n<=a.size):Up N (mirror a lo (lo+n) ((lo+n-lo)/2)) lo n:=λi j c d=>by
 rw[vI b,vI b,if_pos ⋯,if_pos ⋯];have:=h (n-1-j) (n-1-i) ⋯ ⋯
 grind
theorem Dn.same{lo n i j:Nat}(h:Dn N a lo n)(d:j<=a.size)(g:∀k b,i<=k->k<j->i<=b->b<j->ky N a k=ky N a b):Dn N (mirror a i j ((j-i)/2)) lo n:=by
 have e:∀k,ky N (mirror a i j _) k=ky N a k:=λk=>by
  rw[vI d]
  grind
 intro p q c f;rw[e,e];exact h p q c f
section
variable{prog:Program}{w:World}{A:Around}{SI:Shared->Prop}{α β:Type}
theorem mT{i j lo:Nat}{a st:SortSt}(c:Cmp prog w A SI (kindOf a) D N)(d:∀x∈(arrOf a).toList,D x)(r:CR a st lo)(hi:i<(arrOf a).size)(m:j<(arrOf a).size)
 (h:Q (some (decide (ky N (arrOf st) i<ky N (arrOf st) j))) st):(SC prog w A SI) (ltAt' i j) Q st:=by
 have f:=λx n=>d x ((Array.perm_iff_toList_perm.mp r.perm).mem_iff.mp n)
 have b:=r.size▸hi;have e:=r.size▸m;have%[g|o]:=aZ b;have%[l|p]:=aZ e;refine CO (r.kind▸c) g l (f _ ∅) (f _ ∅) ?_;rw[AH g,AH l]at h;exact h
theorem ro{st:SortSt}(h:Q () (setArr st (mirror (arrOf st) i j ((j-i)/2)))):(SC prog w A SI) (reverseSlice' i j) Q st:=by
 exact cp h
noncomputable def cuL(lo:Nat)(x:Option (Option Nat)×Nat):StateT SortSt Sem (ForInStep (Option (Option Nat)×Nat)):=do
 match<-ltAt' (lo+x.2) (lo+x.2-1)with
 | some w=>if w=true then pure (.done (none,x.2))else pure (.yield (none,x.2+1))
 | _=>pure (.done (some none,x.2))
noncomputable def cu3(lo nrem n:Nat):StateT SortSt Sem (Option Nat):=do
 reverseSlice' lo (lo+n)
 let x<-forIn [n:nrem] (none,n) λ_ x=>cuL lo x
 match x.1 with
 | some r=>pure r
 | none=>pure (some x.2)
noncomputable def cuM(lo:Nat)(x:Option (Option Nat)×Nat×Nat):StateT SortSt Sem (ForInStep (Option (Option Nat)×Nat×Nat)):=do
 match<-ltAt' (lo+x.2.1) (lo+x.2.1-1)with
 | some w=>
   if w=true then(if x.2.2>0 then(do
    reverseSlice' (lo+x.2.1-(x.2.2+1)) (lo+x.2.1)
    pure (.yield (none,x.2.1+1,0)))else pure (.yield (none,x.2.1+1,0)))
   else(do
    match<-ltAt' (lo+x.2.1-1) (lo+x.2.1)with
    | some w=>if w=true then pure (.done (none,x.2.1,x.2.2))else pure (.yield (none,x.2.1+1,x.2.2+1))
    | _=>pure (.done (some none,x.2.1,x.2.2)))
 | _=>pure (.done (some none,x.2.1,x.2.2))
noncomputable def cu2(lo nrem n:Nat):StateT SortSt Sem (Option Nat):=do
 rule "list.sort.descending-run"
 let x<-forIn [n+1:nrem] (none,n+1,0) λ_ x=>cuM lo x
 match x.1 with
 | some r=>pure r
 | none=>
   if x.2.2>0 then(do
    reverseSlice' (lo+x.2.1-(x.2.2+1)) (lo+x.2.1)
    cu3 lo nrem x.2.1)else cu3 lo nrem x.2.1
set_option smartUnfolding false in
theorem GA(lo nrem:Nat):countRun' lo nrem=(do
 let x<-forIn [1:nrem] (none,1) λ_ x=>cuL lo x
 match x.1 with
 | some r=>pure r
 | none=>
   if(x.2==nrem)=true then pure (some x.2)
   else if x.2>1 then(do
    match<-ltAt' lo (lo+x.2-1)with
    | some w=>if w=true then pure (some x.2)else(do
      reverseSlice' lo (lo+x.2)
      cu2 lo nrem x.2)
    | _=>pure none)else cu2 lo nrem x.2):=by
 rw[countRun'_eq];rfl
variable{D:Keyed->Prop}{N:Keyed->Nat}{lo nrem n j:Nat}{Q:Option Nat->SortSt->Prop}{st st2:SortSt}
theorem AI{q:Option _}{R:ForInStep _->SortSt->Prop}(c:Cmp prog w A SI (kindOf st) D N)(d:∀x∈(arrOf st).toList,D x)(r:CR st st2 lo)(e:lo+nrem<=(arrOf st).size)(f:1<=j)(g:j<nrem)
 (a:ky N (arrOf st2) (lo+j)<ky N (arrOf st2) (lo+j-1)->R (.done (none,j)) st2) (b: ¬ ky N (arrOf st2) (lo+j)<ky N (arrOf st2) (lo+j-1)->R (.yield (none,j+1)) st2):(SC prog w A SI) (cuL lo (q,j)) R st2:=by
 refine ar (mT c d r ⋯ ⋯ ?_);dsimp only;by_cases q:ky N (arrOf st2) (lo+j)<ky N (arrOf st2) (lo+j-1)
 .rw[Zf q,if_pos rfl];exact av (a q)
 .rw[Zh q,if_neg ∅];exact av (b q)
theorem AJ(c:Cmp prog w A SI (kindOf st) D N)(d:∀x∈(arrOf st).toList,D x)(s:lo+nrem<=(arrOf st).size)(h:∀n a,CR st a lo->1<=n->n<=nrem->Up N (arrOf a) lo n->Q (some n) a)
 (r:CR st st2 lo) (n1:1<=n) (o:n<=nrem) (t:Dn N (arrOf st2) lo n):(SC prog w A SI) (cu3 lo nrem n) Q st2:=by
 refine ar (ro ?_);have u:=r.rev (j:=lo+n) (Zi _) (by rw[r.size];lia);have g:=t.rev (by rw[r.size];lia);refine ar (bN (bx (Q:=λx a=>CR st a lo/\∃n,x=(none,n)/\1<=n/\n<=nrem/\Up N (arrOf a) lo n)
  (λj x a=>CR st a lo/\x=(none,j)/\Up N (arrOf a) lo j) o %[u,rfl|g] ?_ ?_) ?_)
 .intro j x e i p %[f,rfl|b];have l:=Yi n1 i;exact AI c d f s l p (λ_=>%[f,j,rfl,l,Yg p|b]) λq=>%[f,rfl|b.step l q]
 .intro x e %[f,rfl|b];exact%[f,nrem,rfl,Yi n1 o,Zi _|b]
 .intro x e %[f,m,rfl,v,m2|b];exact av (h m e f v m2 b)
theorem Fo{q:Option (Option Nat)}{k:Nat}{R:ForInStep (Option (Option Nat)×Nat×Nat)->SortSt->Prop}(c:Cmp prog w A SI (kindOf st) D N)(d:∀x∈(arrOf st).toList,D x)(r:CR st st2 lo)(z:lo+nrem<=(arrOf st).size)(u:k+1<=j)(B:j<nrem)
 (o:Dn N (arrOf st2) lo j) (p:∀i a,lo+j-(k+1)<=i->i<lo+j->lo+j-(k+1)<=a->a<lo+j->ky N (arrOf st2) i=ky N (arrOf st2) a)
 (v:R (.done (none,j,k)) st2) (g:∀k st2,CR st st2 lo->k<=j->Dn N (arrOf st2) lo (j+1)->(∀i a,lo+(j+1) -(k+1)<=i->i<lo+(j+1)->lo+(j+1) -(k+1)<=a->a<lo+(j+1)->ky N (arrOf st2) i=ky N (arrOf st2) a)->R (.yield (none,j+1,k)) st2):(SC prog w A SI) (cuM lo (q,j,k)) R st2:=by
 have one:∀st,∀i a,lo+(j+1) -(0+1)<=i->i<lo+(j+1)->lo+(j+1) -(0+1)<=a->a<lo+(j+1)->ky N (arrOf st) i=ky N (arrOf st) a:=λst i a h l y s=>by rw[show i=a by lia]
 refine ar (mT c d r ⋯ ⋯ ?_);dsimp only;by_cases m:ky N (arrOf st2) (lo+j)<ky N (arrOf st2) (lo+j-1)
 .rw[Zf m,if_pos rfl];have b:=o.step ⋯ (Yg m);by_cases f:k>0
  .rw[if_pos f];exact ar (ro (av (g 0 _ (r.rev ⋯ (by rw[r.size];lia)) (Xg _) (b.same (by rw[r.size];lia) p) (one _))))
  .rw[if_neg f];exact av (g 0 _ r (Xg _) b (one _))
 .rw[Zh m,if_neg ∅];refine ar (mT c d r ⋯ ⋯ ?_);dsimp only;by_cases t:ky N (arrOf st2) (lo+j-1)<ky N (arrOf st2) (lo+j)
  .rw[Zf t,if_pos rfl];exact av v
  .rw[Zh t,if_neg ∅];have all:∀i,lo+j-(k+1)<=i->i<lo+(j+1)->ky N (arrOf st2) i=ky N (arrOf st2) (lo+j-1):=λi h l=>by
    by_cases e:i=lo+j
    .lia
    .exact p _ _ h ⋯ ⋯ ⋯
   exact av (g (k+1) _ r u (o.step ⋯ ⋯) λi a h l y s=>(all i ⋯ l).trans (all a ⋯ s).symm)
theorem AK(c:Cmp prog w A SI (kindOf st) D N)(d:∀x∈(arrOf st).toList,D x)(p:lo+nrem<=(arrOf st).size)(h:∀n a,CR st a lo->1<=n->n<=nrem->Up N (arrOf a) lo n->Q (some n) a)
 (r:CR st st2 lo) (z:n<nrem) (s:Dn N (arrOf st2) lo (n+1)):(SC prog w A SI) (cu2 lo nrem n) Q st2:=by
 refine ar (iI ?_);refine ar (bN (bx (Q:=λx a=>CR st a lo/\∃m q,x=(none,m,q)/\q+1<=m/\m<=nrem/\Dn N (arrOf a) lo m/\(∀k f,lo+m-(q+1)<=k->k<lo+m->lo+m-(q+1)<=f->f<lo+m->ky N (arrOf a) k=ky N (arrOf a) f))
  (λj x a=>CR st a lo/\∃q,x=(none,j,q)/\q+1<=j/\Dn N (arrOf a) lo j/\(∀k f,lo+j-(q+1)<=k->k<lo+j->lo+j-(q+1)<=f->f<lo+j->ky N (arrOf a) k=ky N (arrOf a) f)) z %[r,0,rfl,Nat.le_add_left _ _,s|λk f G H I J=>by rw[show k=f by lia]] ?_ ?_) ?_)
 .intro j x l B u %[g,q,rfl,i,b|e];exact Fo c d g p i u b e %[g,j,q,rfl,i,Yg u,b|e] λk st2 r C s E=>%[r,k,rfl,Nat.succ_le_succ C,s|E]
 .intro x l %[g,q,rfl,i,b|e];exact%[g,nrem,q,rfl,i,Zi _,b|e]
 .intro x l %[g,m,q,rfl,t,v,b|e];have y:=Yi (Nat.le_add_left _ _) t;dsimp only;by_cases o:q>0
  .rw[if_pos o];exact ar (ro (AJ c d p h (g.rev ⋯ (by rw[g.size];lia)) y v (b.same (by rw[g.size];lia) e)))
  .rw[if_neg o];exact AJ c d p h g y v b
theorem tL{lo nrem:Nat}{st:SortSt}(c:Cmp prog w A SI (kindOf st) D N)(d:∀x∈(arrOf st).toList,D x)(r:1<=nrem)(g:lo+nrem<=(arrOf st).size)
 (h:∀n a,CR st a lo->1<=n->n<=nrem->Up N (arrOf a) lo n->Q (some n) a):(SC prog w A SI) (countRun' lo nrem) Q st:=by
 rw[GA];refine ar (bN (bx (Q:=λx a=>a=st/\∃n,x=(none,n)/\1<=n/\n<=nrem/\Up N (arrOf st) lo n/\(n=nrem\/ky N (arrOf st) (lo+n)<ky N (arrOf st) (lo+n-1)))
  (λj x a=>a=st/\x=(none,j)/\Up N (arrOf st) lo j) r %[rfl,rfl|Up.one _ _ _] ?_ ?_) ?_)
 .intro j x a e f %[rfl,rfl|up];exact AI c d (CR.refl _ lo) g e f (λq=>%[rfl,j,rfl,e,Yg f,up|.inr q]) λq=>%[rfl,rfl|up.step e q]
 .intro x a %[rfl,rfl|up];exact%[rfl,nrem,rfl,r,Zi _,up|.inl rfl]
 .intro x b %[E,n,rfl,n1,s,up|G];subst E;dsimp only;by_cases l:n=nrem
  .rw[if_pos (by simp[l])];exact av (h n b (CR.refl _ _) n1 s up)
  rw[if_neg (by simp[l])];have t:n<nrem:=by lia
  by_cases u:n>1
  .rw[if_pos u];refine ar (mT c d (CR.refl _ lo) ⋯ ⋯ ?_);dsimp only;by_cases v:ky N (arrOf b) lo<ky N (arrOf b) (lo+n-1)
   .rw[Zf v,if_pos rfl];exact av (h n b (CR.refl _ _) n1 s up)
   .rw[Zh v,if_neg ∅];have all:∀i,i<n->ky N (arrOf b) (lo+i)=ky N (arrOf b) lo:=λi hi=>by
     have y:=up 0 i (Xg _) hi;have z:=up i (n-1) ⋯ ⋯;rw[show lo+(n-1)=lo+n-1 by lia]at z;rw[add_zero]at y
     lia
    have m:Dn N (arrOf b) lo n:=λi j o f=>by rw[all i ⋯,all j f];exact Zi _
    exact ar (ro (AK c d g h ((CR.refl b lo).rev (Zi _) ⋯) t ((m.step n1 ⋯).same ⋯ (λk p y z H I=>by
     have B:=all (k-lo) ⋯;have C:=all (p-lo) ⋯;rw[show lo+(k-lo)=k by lia]at B;rw[show lo+(p-lo)=p by lia]at C;rw[B,C]))))
  .rw[if_neg u];refine AK c d g h (CR.refl b lo) t (Dn.step (λi j o f=>?_) n1 (Yg (G.resolve_left l)));rw[show i=j by lia];exact Zi _
end
end SBig
namespace SBig
open PySem PyProof.Rows
section
variable{prog:Program}{w:World}{A:Around}{SI:Shared->Prop}{α β:Type}
theorem CR.move{a st:SortSt}{lo k l:Nat}(h:CR a st lo)(b:lo+k<(arrOf st).size)(c:l<=k):CR a (setArr st (bubble (arrOf st) (lo+k) (lo+k-(lo+l)))) lo:=
 %[h.kind,h.pend,h.fail,(bubble_perm _ _ _).trans h.perm|λi hi=>by
  rw[getElem?_bubble b _ ⋯,if_neg ⋯,if_neg ⋯];exact h.same i hi]
theorem wP(f:b<a.size)(g:d<=b)(k:Nat):ky N (bubble a b d) k=if k=b-d then ky N a b else if b-d<k/\k<=b then ky N a (k-1)else ky N a k:=by
 by_cases c:k=b-d
 .rw[if_pos c];exact tK (by rw[getElem?_bubble f d g,if_pos c])
 .rw[if_neg c];by_cases e:b-d<k/\k<=b
  .rw[if_pos e];exact tK (by rw[getElem?_bubble f d g,if_neg c,if_pos e])
  .rw[if_neg e];exact tK (by rw[getElem?_bubble f d g,if_neg c,if_neg e])
theorem yf{lo n ok:Nat}{f st:SortSt}(c:Cmp prog w A SI (kindOf f) D N)(d:∀x∈(arrOf f).toList,D x)(r:CR f st lo)(M:1<=ok)(O:ok<=n)(hs:lo+n<=(arrOf f).size)(up:Up N (arrOf st) lo ok)
 (h:∀a,CR f a lo->Up N (arrOf a) lo n->Q true a):(SC prog w A SI) (binarySort' lo n ok) Q st:=by
 rw[binarySort'_eq];rw[show max ok 1=ok by lia];refine ar (bN (bx (Q:=λx a=>x=(none,())/\CR f a lo/\Up N (arrOf a) lo n) (λk x a=>x=(none,())/\CR f a lo/\Up N (arrOf a) lo k) O %[rfl,r|up] ?_ ?_) ?_)
 .intro k x b T hk %[rfl,m|up1];dsimp only;have pv:∀i,i<k->lo+i<(arrOf f).size:=λi hi=>by lia
  refine ar (bN (bx (Q:=λx a=>a=b/\∃l,x.1=none/\x.2.1=l/\l<=k/\(∀i,i<l->ky N (arrOf b) (lo+i)<=ky N (arrOf b) (lo+k))/\(∀i,l<=i->i<k->ky N (arrOf b) (lo+k)<ky N (arrOf b) (lo+i)))
   (λj x a=>a=b/\∃l q,x=(none,l,q)/\l<=q/\q<=k/\q-l<=k-j/\(∀i,i<l->ky N (arrOf b) (lo+i)<=ky N (arrOf b) (lo+k))/\(∀i,q<=i->i<k->ky N (arrOf b) (lo+k)<ky N (arrOf b) (lo+i))) (Xg _)
   %[rfl,0,k,rfl,⋯,⋯,⋯,λi hi=>absurd hi (X7 _)|λi M h2=>by lia] ?_ ?_) ?_)
  .intro j x g _ U %[rfl,l,q,rfl,B,o,Y,s|t];dsimp only;by_cases u:l>=q
   .rw[if_pos u];have e:l=q:=by lia
    subst e;exact av %[rfl,l,rfl,rfl,o,s|t]
   .rw[if_neg u];refine ar (mT c d m ⋯ ⋯ ?_);dsimp only;by_cases p:ky N (arrOf g) (lo+k)<ky N (arrOf g) (lo+(l+q)/2)
    .rw[Zf p,if_pos rfl];exact av %[rfl,l,_,rfl,⋯,⋯,⋯,s|λi v z=>Zg p (up1 _ _ v z)]
    .rw[Zh p,if_neg ∅];exact av %[rfl,_,q,rfl,⋯,⋯,⋯,λi v=>Yi (up1 i ((l+q)/2) ⋯ ⋯) ⋯|t]
  .intro x g %[rfl,l,q,rfl,B,o,Y,s|t];have e:l=q:=by lia
   subst e;exact%[rfl,l,rfl,rfl,o,s|t]
  .rintro⟨x1,x2,x3⟩ g ⟨e2,l,G,H,C,s,t⟩;subst e2;dsimp only at G H;subst G H;dsimp only;rw[moveDown'_eq];refine ar (cp (av %[rfl,m.move (by rw[m.size];lia) C|?_]));have y:lo+k<(arrOf g).size:=by rw[m.size];lia
   intro i j E U;rw[wP y ⋯,wP y ⋯];have ed:lo+k-(lo+k-(lo+x2))=lo+x2:=by lia
   rw[ed];by_cases v:lo+i=lo+x2
   .rw[if_pos v];by_cases z:lo+j=lo+x2
    .rw[if_pos z];exact Zi _
    .rw[if_neg z,if_pos ⋯];have:=t (j-1) ⋯ ⋯;rw[show lo+(j-1)=lo+j-1 by lia]at this
     lia
   .rw[if_neg v];by_cases I:lo+x2<lo+i/\lo+i<=lo+k
    .rw[if_pos I,if_neg ⋯,if_pos ⋯];have:=up1 (i-1) (j-1) ⋯ ⋯;rw[show lo+(j-1)=lo+j-1 by lia,show lo+(i-1)=lo+i-1 by lia]at this;exact this
    .rw[if_neg I];by_cases J:lo+j=lo+x2
     .rw[if_pos J];exact s i ⋯
     .rw[if_neg J];by_cases L:lo+x2<lo+j/\lo+j<=lo+k
      .rw[if_pos L];have:=up1 i (j-1) ⋯ ⋯;rw[show lo+(j-1)=lo+j-1 by lia]at this;exact this
      .rw[if_neg L];exact up1 i j E ⋯
 .intro x b %[rfl,m|up1];exact%[rfl,m|up1]
 .intro x b %[rfl,m|up1];exact av (h b m up1)
end
end SBig
namespace SBig
open PySem PyProof.Rows
section
variable{prog:Program}{w:World}{A:Around}{SI:Shared->Prop}
end
end SBig
namespace SBig
open PySem PyProof.Rows
noncomputable def c8:List (List Keyed×Nat)->Nat->List (Nat×Nat×Nat)
 |[],_=>[]
 |(r,p)::t,o=>(o,r.length,p)::c8 t (o+r.length)
noncomputable def bq(a:List (List Keyed×Nat)):List Keyed:=(a.map (·.1)).flatten
theorem bZ(a b:List _):bq (a++b)=bq a++bq b:=by simp[bq]
theorem aX(a:List Keyed×Nat)(b:List _):bq (a::b)=a.1++bq b:=by simp[bq]
theorem cR:∀a b o,c8 (a++b) o=c8 a o++c8 b (o+(bq a).length)
 |[],b,o=>by simp[c8,bq]
 |(r,p)::t,b,o=>by
  rw[cons_append,c8,c8,cR t b,aX,Z9,cons_append,Nat.add_assoc]
theorem ee:∀a o,(c8 a o).length=a.length
 |[],_=>rfl
 |(r,p)::t,o=>by rw[c8,Zr,Zr,ee t]
structure RI (N:Keyed->Nat) (st0 st:SortSt) (rp:List (List Keyed×Nat)) (rest:List Keyed):Prop where
 kind:kindOf st=kindOf st0
 fail:failedOf st=none
 perm:(arrOf st).toList.Perm (arrOf st0).toList
 arr:(arrOf st).toList=bq rp++rest
 pend:(pendingOf st).toList=c8 rp 0
 runs:∀r∈rp,r.1≠[]/\Srt N r.1
theorem RI.size{N:Keyed->Nat}{a st:SortSt}{b:List _}{rest:List Keyed}(h:RI N a st b rest):(arrOf st).size=(arrOf a).size:=by
 rw[<-Zb,<-Zb,h.perm.length_eq]
theorem RI.psize{N:Keyed->Nat}{a st:SortSt}{b:List _}{rest:List Keyed}(h:RI N a st b rest):(pendingOf st).size=b.length:=by
 rw[<-Zb,h.pend,ee]
section
variable{prog:Program}{w:World}{A:Around}{SI:Shared->Prop}{α β:Type}
theorem jK{D:Keyed->Prop}{N:Keyed->Nat}{f st:SortSt}{a b:List _}{X Y:List Keyed}{p o i:Nat}{rest:List Keyed}{Q:Bool->SortSt->Prop}(c:Cmp prog w A SI (kindOf f) D N)(d:∀x∈(arrOf f).toList,D x)
 (h:RI N f st (a++(X,p)::(Y,o)::b) rest) (hi:i=a.length) (k:∀Z g,RI N f g (a++(Z,p)::b) rest->Z.length=X.length+Y.length->Q true g):(SC prog w A SI) (mergeAt' i) Q st:=by
 subst hi;have e:=h.arr;rw[bZ,aX,aX]at e;have m:(arrOf st).toList=bq a++X++Y++(bq b++rest):=by rw[e];simp
 have v:=λx j=>d x (h.perm.mem_iff.mp j)
 have n:=h.pend;rw[cR,c8,c8,zero_add]at n;have pl:=ee a 0;have C:=by
  have:(pendingOf st).toList[a.length]? =some ((bq a).length,X.length,p):=by
   rw[n,Ya ⋯,pl,sub_self];rfl
  simpa using this
 have E:=by
  have:(pendingOf st).toList[a.length+1]? =some ((bq a).length+X.length,Y.length,o):=by
   rw[n,Ya ⋯,pl,Zw];rfl
  simpa using this
 have s:=h.runs (X,p) ∅;have y:=h.runs (Y,o) ∅;refine vH (h.kind▸c) m s.2 y.2 s.1 y.1 (λx j=>v x (by rw[m];simp[j])) (λx j=>v x (by rw[m];simp[j])) C E h.fail λZ g G z B H I t=>?_
 have u:Z.length=X.length+Y.length:=by rw[z.length_eq,Z9]
 refine k Z g %[H.trans h.kind,I,?_,?_,?_|λr l=>?_] u
 .refine List.Perm.trans ?_ h.perm;rw[B,m];rw[show bq a++X++Y++(bq b++rest)=bq a++(X++Y) ++(bq b++rest) by simp];exact Xm _ (List.Perm.append_left _ z)
 .rw[B,bZ,aX];simp
 .rw[t,Array.toList_eraseIdxIfInBounds,Array.toList_setIfInBounds,n,cR,c8,zero_add];rw[List.set_append_right _ _ ⋯,pl,sub_self,List.set_cons_zero];rw[List.eraseIdx_append_of_length_le ⋯,pl,Zw,List.eraseIdx_cons_succ,List.eraseIdx_cons_zero];rw[u,Nat.add_assoc]
 .rcases Xo l with l|l
  .exact h.runs r (Yv _ l)
  .rcases mem_cons.mp l with rfl|l
   .refine%[λq=>?_|G];have j:=length_pos_iff.mpr s.1;dsimp only at q j;rw[q,length_nil]at u
    lia
   .exact h.runs r (by simp[l])
theorem yg{N:Keyed->Nat}{a:Array Keyed}{lo n:Nat}(h:Up N a lo n)(f:lo+n<=a.size):Srt N ((a.toList.drop lo).take n):=by
 refine List.pairwise_iff_getElem.mpr λi j hi c d=>?_
 have b:j<n:=by grind
 have g:∀i hi,i<n->N ((a.toList.drop lo).take n)[i]=ky N a (lo+i):=λi hi e=>by
  refine(AH ?_).symm
  simp_all
 rw[g i hi ⋯,g j c b];exact h i j ⋯ b
theorem CR.toRI{N:Keyed->Nat}{d b a:SortSt}{f:List _}{rest:List Keyed}{lo n:Nat}(h:RI N d b f rest)(r:CR b a lo)(j:(bq f).length=lo)(up:Up N (arrOf a) lo n)(o:lo+n<=(arrOf b).size):
 ∃R c,RI N d a f (R++c)/\R.length=n/\Srt N R:=by
 have l:=r.size;refine%[((arrOf a).toList.drop lo).take n,(arrOf a).toList.drop (lo+n),%[r.kind.trans h.kind,r.fail.trans h.fail,(Array.perm_iff_toList_perm.mp r.perm).trans h.perm,?_,r.pend▸h.pend|h.runs],?_|yg up ⋯]
 .have e:(arrOf a).toList.take lo=bq f:=by
   have m:(arrOf a).toList.take lo=(arrOf b).toList.take lo:=by
    apply ext_getElem?;intro i;rw[Yc,Yc]
    split
    .rename_i hi
     have:=r.same i hi;simpa using this
    .rfl
   rw[m,h.arr,Xe ⋯,Zn ⋯]
  rw[<-e];have g:=Xd n ((arrOf a).toList.drop lo);rw[drop_drop]at g;rw[g,(Xd lo (arrOf a).toList)]
 grind
theorem lc{α:Type}(f:α->α):∀l x,(l++[x]).modify l.length f=l++[f x]
 |[],x=>rfl
 | y::l,x=>by
   rw[cons_append,Zr,List.modify_succ_cons,lc f l x,cons_append]
theorem jL{α:Type}(l:List α):l=[]\/∃a x,l=a++[x]:=by
 by_cases h:l=[]
 .exact .inl h
 .exact .inr %[l.dropLast,l.getLast h|(List.dropLast_concat_getLast h).symm]
theorem yh{α:Type}(l:List α)(h:1<l.length):∃a x y,l=a++x::y::[]:=by
 rcases jL l with rfl|⟨a,y,rfl⟩
 .simp at h
 .rcases jL a with rfl|⟨b,x,rfl⟩
  .simp at h
  .exact%[b,x,y|by simp]
theorem RI.pushed{N:Keyed->Nat}{a st:SortSt}{c:List _}{R rest:List Keyed}{lo m:Nat}(h:RI N a st c (R++rest))(d:(bq c).length=lo)(e:R.length=m)(f:1<=m)(g:Srt N R):RI N a (setPending st ((pendingOf st).push (lo,m,0))) (c++[(R,0)]) rest:=by
 refine%[h.kind,h.fail,h.perm,?_,?_|λr b=>?_]
 .rw[h.arr,bZ,aX];simp[bq]
 .rw[toList_push,h.pend,cR,c8,c8,zero_add,d,e]
 .rcases Xo b with b|b
  .exact h.runs r b
  .rw[Xp b]
   grind
theorem RI.powered{N:Keyed->Nat}{a st:SortSt}{b:List _}{rest:List Keyed}{X:List Keyed}{p:Nat}(d:Nat)(h:RI N a st (b++[(X,p)]) rest):RI N a (setPending st ((pendingOf st).modify ((pendingOf st).size-1) λx=>(x.fst,x.2.fst,d))) (b++[(X,d)]) rest:=by
 refine%[h.kind,h.fail,h.perm,?_,?_|λr c=>?_]
 .rw[h.arr,bZ,bZ,aX,aX]
 .rw[Array.toList_modify,h.psize,h.pend,cR,cR];rw[show(b++[(X,p)]).length-1=(c8 b 0).length by rw[ee];simp];show List.modify (c8 b 0++[_]) _ _=_;rw[lc];rfl
 .rcases Xo c with c|c
  .exact h.runs r (Yv _ c)
  .rw[Xp c];exact h.runs (X,p) ∅
noncomputable def srP(lo n:Nat):StateT SortSt Sem (ForInStep (Option Unit×Nat)):=do
 modify λs=>setPending s ((pendingOf s).push (lo,n,0))
 pure (.yield (none,lo+n))
noncomputable def sr1(size lo n:Nat):StateT SortSt Sem (ForInStep (Option Unit×Nat)):=do
 let s<-get
 match(pendingOf s).back? with
 | some (a,n1,_)=>do
   let x<-forIn [0:size] (none,()) λ_ _=>(do
    let s<-get
    match if(pendingOf s).size>1 then(pendingOf s)[(pendingOf s).size-2]? else none with
    | some (_,_,o)=>
      if o<=power' size (2*a+n1) (2*a+n1+n1+n) size then pure (.done (none,()))
      else(do
       let b<-mergeAt' ((pendingOf s).size-2)
       if(!b)=true then pure (.done (some (),()))else pure (.yield (none,())))
    | _=>pure (.done (none,())))
   match x.1 with
   | some r=>pure (.done (some r,lo))
   | none=>do
     modify λs=>setPending s ((pendingOf s).modify ((pendingOf s).size-1) λx=>(x.1,x.2.1,power' size (2*a+n1) (2*a+n1+n1+n) size))
     srP lo n
 | _=>srP lo n
noncomputable def srO(size:Nat)(x:Option Unit×Nat):StateT SortSt Sem (ForInStep (Option Unit×Nat)):=
 if x.2>=size then pure (.done (none,x.2))
 else do
  match<-countRun' x.2 (size-x.2)with
  | some n=>
    if n<minRun' size size 0 then(do
     rule "list.sort.binary-insertion"
     let b<-binarySort' x.2 (min (size-x.2) (minRun' size size 0)) n
     if(!b)=true then pure (.done (some (),x.2))else sr1 size x.2 (min (size-x.2) (minRun' size size 0)))
    else sr1 size x.2 n
  | _=>pure (.done (some (),x.2))
noncomputable def srT(size:Nat)(x:Option Unit×Nat):StateT SortSt Sem Unit:=
 match x.1 with
 | some r=>pure r
 | none=>do
   let x<-forIn [0:size] (none,()) λ_ _=>(do
    let s<-get
    if(pendingOf s).size<=1 then pure (.done (none,()))
    else(do
     let b<-mergeAt' (if Option.any (λx=>decide (x<(pendingOf s)[(pendingOf s).size-2+1]?.elim 0 λx=>x.2.1)) (if(pendingOf s).size-2>0 then Option.map (λx=>x.2.1) (pendingOf s)[(pendingOf s).size-2-1]? else none)=true then(pendingOf s).size-2-1 else(pendingOf s).size-2)
     if(!b)=true then pure (.done (some (),()))else pure (.yield (none,()))))
   match x.1 with
   | some r=>pure r
   | none=>pure ()
set_option smartUnfolding false in
theorem GB:sortRuns'=(do
 let s<-get
 let x<-forIn [0:(arrOf s).size] (none,0) λ_ x=>srO (arrOf s).size x
 srT (arrOf s).size x):=by
 rw[sortRuns'_eq];rfl
theorem AL{D:Keyed->Prop}{N:Keyed->Nat}{st m:SortSt}{v:List (List Keyed×Nat)}{R e:List Keyed}{lo n:Nat}{T:ForInStep (Option Unit×Nat)->SortSt->Prop}(c:Cmp prog w A SI (kindOf st) D N)(d:∀x∈(arrOf st).toList,D x)(o:RI N st m v (R++e))(q:(bq v).length=lo)(p:R.length=n)(s:Srt N R)(J:1<=n)
 (L:∀a h,RI N st h a e->(bq a).length=lo+n->T (.yield (none,lo+n)) h):(SC prog w A SI) (sr1 (arrOf st).size lo n) T m:=by
 refine ar (fA ?_);rcases jL v with y|⟨O,⟨U,Y⟩,y⟩
 .subst y;have B:(pendingOf m).back? =none:=by
   have:=o.psize;simp[Array.back?,this]
  rw[B];exact ar (cp (av (L _ _ (o.pushed q p J s) (by rw[bZ,Z9,q,aX];simp[bq,p]))))
 .have B:(pendingOf m).back? =some ((bq O).length,U.length,Y):=by
   rw[<-Array.getLast?_toList,o.pend,y,cR,c8,c8,zero_add];simp
  rw[B];refine ar (bN (bx (Q:=λx h=>x=(none,())/\∃a,RI N st h a (R++e)/\a≠[]/\(bq a).length=lo) (λj x h=>x=(none,())/\∃a,RI N st h a _/\a≠[]/\(bq a).length=lo) (Xg _) %[rfl,v,o,by rw[y];simp|q] ?_ ?_) ?_)
  .intro j5 x f _ _ %[rfl,l,b,i|g];refine ar (fA ?_);by_cases C:(pendingOf f).size>1
   .have%[r,%[z|E],%[Y5|q5]|rfl]:=yh l (b.psize▸C);have t:(pendingOf f).size-2=r.length:=by rw[b.psize];simp
    have G:(pendingOf f)[(pendingOf f).size-2]? =some ((bq r).length,z.length,E):=by
     have:(pendingOf f).toList[r.length]? =some ((bq r).length,z.length,E):=by
      rw[b.pend,cR,Ya (by rw[ee];lia),ee,sub_self,zero_add];rfl
     rw[t];simpa using this
    rw[if_pos C,G];dsimp only
    split
    .exact av %[rfl,_,b,i|g]
    .refine ar (jK c d b t λZ5 aa H I=>av %[rfl,_,H,by simp|?_]);rw[<-g,bZ,bZ,aX,aX,aX];simp[bq,I]
   .rw[if_neg C];exact av %[rfl,_,b,i|g]
  .intro x f %[rfl,l,b,i|g];exact%[rfl,l,b,i|g]
  .intro x f %[rfl,l,b,i|g];dsimp only;have%[r,%[z|E]|rfl]:=(jL l).resolve_left i;refine ar (cp (ar (cp (av ?_))));have u:∀M,(bq (r++[(z,M)])).length=lo:=λM=>by
    rw[<-g,bZ,bZ,aX,aX]
   exact L _ _ ((b.powered _).pushed (u _) p J s) (by rw[bZ,Z9,u,aX];simp[bq,p])
theorem sc_sortRuns{D:Keyed->Prop}{N:Keyed->Nat}{Q:Unit->SortSt->Prop}{st:SortSt}(c:Cmp prog w A SI (kindOf st) D N)(d:∀x∈(arrOf st).toList,D x)(h2:1<=(arrOf st).size)(hp:pendingOf st= #[])(hf:failedOf st=none)
 (h:∀f,(arrOf f).toList.Perm (arrOf st).toList->Srt N (arrOf f).toList->failedOf f=none->Q () f):(SC prog w A SI) sortRuns' Q st:=by
 rw[GB];refine ar (fA ?_);refine ar (bN (bx (Q:=λx f=>∃e lo,x=(none,lo)/\RI N st f e [])
  (λj x f=>∃e rest lo,x=(none,lo)/\RI N st f e rest/\(bq e).length=lo/\j<=lo/\lo<=(arrOf st).size) (Xg _) %[[],_,0,rfl,%[rfl,hf,List.Perm.refl _,rfl,by rw[hp];rfl|λ_ h=>(nomatch h)],rfl,Zi _|Xg _] ?_ ?_) ?_)
 .intro j x u _ hj %[e,rest,lo,rfl,g,m,L|M];unfold srO;dsimp only;have s1:=g.size;by_cases C:lo>=(arrOf st).size
  .rw[if_pos C];have O:rest=[]:=by
    have:=congrArg List.length g.arr;rw[Z9,Zb,s1,m]at this;exact length_eq_zero_iff.mp ⋯
   subst O;exact av %[e,lo,rfl|g]
  rw[if_neg C];have d1:∀x∈(arrOf u).toList,D x:=λx hx=>d x (g.perm.mem_iff.mp hx)
  have c1:Cmp prog w A SI (kindOf u) D N:=g.kind▸c;refine ar (tL c1 d1 ⋯ ⋯ λn o r2 n1 n2 E=>?_);dsimp only;by_cases v:n<minRun' (arrOf st).size (arrOf st).size 0
  .rw[if_pos v];refine ar (iI (ar (yf c1 d1 r2 n1 ⋯ ⋯ E λT r3 U=>?_)));rw[if_neg ∅];have%[R,y,s,z|B]:=CR.toRI g r3 m U ⋯;exact AL c d s m z B ⋯ λaa f r l=>%[_,_,_,rfl,r,l,⋯|⋯]
  .rw[if_neg v];have%[R,y,s,z|B]:=CR.toRI g r2 m E ⋯;exact AL c d s m z B ⋯ λaa f r l=>%[_,_,_,rfl,r,l,⋯|⋯]
 .intro x u %[e,rest,lo,rfl,g,m,L|M];have O:rest=[]:=by
   have:=congrArg List.length g.arr;rw[Z9,Zb,g.size,m]at this;exact length_eq_zero_iff.mp ⋯
  subst O;exact%[e,lo,rfl|g]
 .intro x u %[e,lo,rfl|g];unfold srT;dsimp only;have ab:∀(e:List (List Keyed×Nat)),(∀r∈e,r.1≠[]/\Srt N r.1)->e.length<=(bq e).length:=by
   intro e
   induction e with
   | nil=>intro _;exact Xg _
   | cons r t ih=>
     intro I;rw[aX,Zr,Z9];have:=length_pos_iff.mpr (I r ∅).1;have:=ih λq hq=>I q (by simp[hq])
     lia
  have l1:e.length<=(arrOf st).size:=by
   have a1:=ab e g.runs;have a2:=congrArg List.length g.arr;rw[Zz,Zb,g.size]at a2
   lia
  refine ar (bN (bx (Q:=λx f=>x=(none,())/\∃e,RI N st f e []/\e.length<=1) (λj x f=>x=(none,())/\∃e,RI N st f e []/\e.length<=max 1 ((arrOf st).size-j)) (Xg _) %[rfl,e,g|⋯] ?_ ?_) ?_)
  .intro j x o _ hj %[rfl,e,g|J];refine ar (fA ?_);by_cases hz:(pendingOf o).size<=1
   .rw[if_pos hz];exact av %[rfl,e,g|g.psize▸hz]
   rw[if_neg hz];have ag:1<e.length:=by rw[<-g.psize];lia
   generalize G:(if Option.any _ _=true then(pendingOf o).size-2-1 else(pendingOf o).size-2)=i
   have hi:i+1<e.length:=by
    have H:∀(c:Prop) [Decidable c] (n:Nat),2<=n->(if c then n-2-1 else n-2) +1<n:=λc _ n hn=>by lia
    rw[<-G,<-g.psize];exact H _ _ ⋯
   clear G;obtain⟨a,X,p,Y,q,b,rfl,ac⟩:∃a X p Y q b,e=a++(X,p)::(Y,q)::b/\i=a.length:=by
    refine%[e.take i,e[i].1,e[i].2,e[i+1].1,e[i+1].2,e.drop (i+2),?_|by rw[Yn];lia];have t1:=(Xd i e).symm;rw[List.drop_eq_getElem_cons ⋯,List.drop_eq_getElem_cons ⋯]at t1;exact t1
   refine ar (jK c d g ac λZ T s zl=>?_);rw[if_neg ∅];refine av %[rfl,_,s|?_];simp only[Z9,Zr]at J hi ⊢
   lia
  .intro x o %[rfl,e,g|J];exact%[rfl,e,g|⋯]
  .intro x o %[rfl,e,g|J];refine av (h o g.perm ?_ g.fail);rw[g.arr,Zz]
   match e,J,g.runs with
   |[],_,_=>exact List.Pairwise.nil
   |[r],_,I=>
    rw[aX];simp only[bq,map_nil,List.flatten_nil,Zz];exact(I r ∅).2
end
end SBig
namespace STab
open PySem PySem.SetTable
theorem tM:∀k,∃q,5^(2^k)=1+2^(k+2)*(2*q+1)
 | 0=>%[0|rfl]
 | k+1=>by
   have%[q|e]:=tM k;refine%[q+2^k*(2*q+1)*(2*q+1)|?_];rw[pow_succ 2 k,Nat.pow_mul,e]
   grind
noncomputable def step(M i:Nat):Nat:=(i*5+1)%M
noncomputable def b8(M:Nat):Nat->Nat->Nat
 | 0,i=>i
 | n+1,i=>step M (b8 M n i)
noncomputable def geo:Nat->Nat
 | 0=>0
 | n+1=>geo n*5+1
theorem rq:∀n,4*geo n+1=5^n
 | 0=>rfl
 | n+1=>by
   have:=rq n;rw[pow_succ,<-this,geo]
   lia
theorem jM(M:Nat)(i:Nat):∀n,b8 M n i%M=(5^n*i+geo n)%M
 | 0=>by simp[b8,geo]
 | n+1=>by
   rw[b8,step,Nat.mod_mod,geo,pow_succ];rw[add_mod,Nat.mul_mod,(jM M i n),<-Nat.mul_mod,<-add_mod]
   congr 1
   grind
theorem mU:∀(k i e:Nat),e<2^k->∃n,n<2^k/\b8 (2^k) n i%2^k=e
 | 0,i,e,c=>%[0,by simp|by simp at c;subst c;simp[Nat.mod_one]]
 | k+1,i,e,c=>by
   have%[n,M|t]:=mU k i (e%2^k) (mod_lt _ (Nat.two_pow_pos k));have d:∀n,b8 (2^(k+1)) n i%2^(k+1)%2^k=b8 (2^k) n i%2^k:=λn=>by
    rw[Nat.mod_mod_of_dvd _ (Nat.pow_dvd_pow 2 (Yh k)),<-Nat.mod_mod_of_dvd _ (Nat.pow_dvd_pow 2 (Yh k)),jM,Nat.mod_mod_of_dvd _ (Nat.pow_dvd_pow 2 (Yh k)),jM]
   have%[q|b]:=tM k;have w:geo (2^k)=2^k*(2*q+1):=by
    have g:=rq (2^k);rw[b,Nat.pow_add]at g;have:2^k*2^2*(2*q+1)=4*(2^k*(2*q+1)):=by
     rw[Nat.mul_right_comm];lia
    lia
   have f:∀n,b8 (2^(k+1)) (n+2^k) i%2^(k+1)=(b8 (2^(k+1)) n i+2^k)%2^(k+1):=λn=>by
    rw[jM];have y:5^(n+2^k)*i+geo (n+2^k)=5^(2^k)*(5^n*i+geo n) +geo (2^k):=by
     have g1:=rq (n+2^k);have g2:=rq n
     grind
    rw[y,b,w];have z:2^(k+1)=2*2^k:=by rw[pow_succ];lia
    have j:2^(k+2)=2*2^(k+1):=by rw[pow_succ];lia
    have p:=jM (2^(k+1)) i n
    generalize 5^n*i+geo n=v at p ⊢
    have A:(1+2^(k+2)*(2*q+1))*v+2^k*(2*q+1)=v+2^k+2^(k+1)*(2*((2*q+1)*v) +q):=by
     rw[Nat.add_mul,Nat.one_mul,j];have B:2*2^(k+1)*(2*q+1)*v=2^(k+1)*(2*((2*q+1)*v)):=by
      simp only[Nat.mul_assoc,Nat.mul_left_comm]
     have C:2^k*(2*q+1)=2^k+2^(k+1)*q:=by
      rw[z,Nat.mul_add,Nat.mul_one]
      lia
     rw[B,C,Nat.mul_add]
     lia
    rw[A,Nat.add_mul_mod_self_left,add_mod,<-p,<-add_mod]
   have l:=d n;rw[t]at l;have E:b8 (2^(k+1)) n i%2^(k+1)<2^(k+1):=mod_lt _ (Nat.two_pow_pos _);have m:=f n;rw[add_mod,Nat.mod_eq_of_lt (by lia:2^k<2^(k+1))]at m;obtain⟨a,r⟩:∃a,a=b8 (2^(k+1)) n i%2^(k+1):=%[_|rfl]
   rw[<-r]at l E m;have o:a=e\/(a+2^k)%2^(k+1)=e:=by
    have s:=Nat.div_add_mod a (2^k);have G:=Nat.div_add_mod e (2^k);have H:a/2^k<2:=Nat.div_lt_of_lt_mul ⋯;have I:e/2^k<2:=Nat.div_lt_of_lt_mul ⋯;rw[l]at s
    generalize a/2^k=u at s H
    generalize e/2^k=v at G I
    have J:u=0\/u=1:=by lia
    have L:v=0\/v=1:=by lia
    rcases J with rfl|rfl<;> rcases L with rfl|rfl
    .left;lia
    .right
     rw[Nat.mod_eq_of_lt ⋯]
     lia
    .right
     rw[show a+2^k=e+2^(k+1) by lia,Nat.add_mod_right,Nat.mod_eq_of_lt c]
    .left;lia
   rcases o with h|h
   .exact%[n,⋯|by rw[<-r,h]]
   .exact%[n+2^k,⋯|by rw[m,h]]
end STab
namespace STab
open PySem PySem.SetTable
noncomputable def stand(t:SetTable)(h:Int):Nat->Probe
 | 0=>t.probeStart h
 | n+1=>t.advance (stand t h n)
noncomputable def way(t:SetTable)(h:Int)(n:Nat):Nat:=(stand t h n).j
noncomputable def aH(t:SetTable)(h:Int):Nat->Nat×Nat
 | 0=>(bits h%(t.mask+1),bits h)
 | r+1=>leap t.mask (aH t h r).1 (aH t h r).2
theorem lg(t:SetTable)(h:Int):∀n,(stand t h n).dummy=none
 | 0=>rfl
 | n+1=>by
   have:=lg t h n;show(t.advance _).dummy=none;unfold advance
   split
   .exact this
   .exact this
theorem CQ(m i:Nat):runEnd m i-i<=9:=by
 unfold runEnd
 split<;> lia
theorem yi(t:SetTable)(h:Int):∀r,∃n,n<=10*r/\∀d,d<=runEnd t.mask (aH t h r).1-(aH t h r).1->
 stand t h (n+d)=%[(aH t h r).1+d,runEnd t.mask (aH t h r).1-(aH t h r).1-d,(aH t h r).1,(aH t h r).2|none]:=by
 have a:∀n i b,stand t h n=%[i,runEnd t.mask i-i,i,b|none]->∀d,d<=runEnd t.mask i-i->stand t h (n+d)=%[i+d,runEnd t.mask i-i-d,i,b|none]:=by
  intro n i b e d
  induction d with
  | zero=>intro _;rw[add_zero,e];rfl
  | succ d c=>
    intro f;show t.advance (stand t h (n+d))=_;rw[c ⋯];unfold advance;rw[if_pos ⋯]
    grind
 intro r
 induction r with
 | zero=>exact%[0,Xg _|a 0 _ _ rfl]
 | succ r c=>
   have%[n,g|e]:=c;have j:=CQ t.mask (aH t h r).1;refine%[n+(runEnd t.mask (aH t h r).1-(aH t h r).1) +1,⋯|a _ _ _ ?_];show t.advance _=_;rw[e _ (Zi _)];unfold advance;rw[if_neg ⋯];rfl
theorem CS(h:Int):bits h<2^64:=by
 unfold bits
 grind
theorem mV(t:SetTable)(h:Int):∀r,(aH t h r).2=bits h/32^r
 | 0=>by simp[aH]
 | r+1=>by
   show(aH t h r).2/32=_;rw[mV t h r,Nat.div_div_eq_div_mul,pow_succ]
theorem AM(t:SetTable)(h:Int):∀r,(aH t h r).1<t.mask+1
 | 0=>mod_lt _ (succ_pos _)
 | r+1=>mod_lt _ (succ_pos _)
theorem je(t:SetTable)(h:Int):∀m,(aH t h (12+m)).1=b8 (t.mask+1) m (aH t h 12).1
 | 0=>rfl
 | m+1=>by
   show((aH t h (12+m)).1*5+1+(aH t h (12+m)).2/32)%(t.mask+1)=step _ _;rw[je t h m,mV,Nat.div_div_eq_div_mul,<-pow_succ];have a:bits h/32^(12+m+1)=0:=by
    exact Nat.div_eq_of_lt (Zg (CS h) (Yi (by decide:2^64<=32^13) (Nat.pow_le_pow_right (by decide) ⋯)))
   rw[a,add_zero];rfl
theorem mW(a:t.mask+1=2^k)(h:Int)(e:Nat)(c:e<=t.mask):∃r,r<turns t.mask/\(aH t h r).1=e:=by
 have%[n,d|b]:=mU k _ e ⋯;refine%[12+n,by unfold turns;lia|?_];rw[je,a];rw[<-a]at b;have:b8 (t.mask+1) n (aH t h 12).1<t.mask+1:=by rw[<-je];exact AM t h _
 rw[Nat.mod_eq_of_lt this]at b;exact a▸b
theorem vJ(a:t.mask+1=2^k)(h:Int)(e:Nat)(b:e<=t.mask):∃n,n+10<=10*turns t.mask/\way t h n=e:=by
 have%[r,f|c]:=mW a h e b;have%[n,g|d]:=yi t h r;refine%[n,⋯|?_];have:=d 0 (Xg _);unfold way;rw[add_zero]at this;rw[this];exact c
theorem tN(o:t.dummies= #[]){hashAt:Nat->Int}:∀(fuel n m:Nat),n<=m->m<n+fuel->t.slot (way t h m)= .empty->
 ∃q,n<=q/\q<=m/\(∀j,n<=j->j<q->∃i,t.slot (way t h j)= .live i/\hashAt i≠h)/\
  ((t.slot (way t h q)= .empty/\probe.go t hashAt h fuel (stand t h n)=some (.empty (way t h q) none))\/
   ∃i,t.slot (way t h q)= .live i/\hashAt i=h/\probe.go t hashAt h fuel (stand t h n)=some (.candidate (way t h q) i (stand t h (q+1))))
 | 0,n,m,g,r,_=>by lia
 | fuel+1,n,m,g,r,p=>by
   have d:probe.go t hashAt h (fuel+1) (stand t h n)=(match t.slot (stand t h n).j with
    | .empty=>some _
    | .dummy=>probe.go t hashAt h fuel (t.advance {stand t h n with dummy:=some _})
    | .live i=>if hashAt i==h then some _ else probe.go t hashAt h fuel _):=rfl
   have l:(stand t h n).j=way t h n:=rfl;cases c:t.slot _ with
   | empty=>
     refine%[n,Zi _,g,λj a b=>by lia|.inl %[c|?_]];rw[d,l,c,lg]
   | dummy=>
     exfalso;unfold slot at c;dsimp only at c
     split at c
     .lia
     .split at c
      .rename_i q
       rw[o]at q;simp[has]at q
      .lia
   | live i=>
     by_cases f:hashAt i=h
     .refine%[n,Zi _,g,λj a b=>by lia|.inr %[i,c,f|?_]];rw[d,l,c];dsimp only;rw[if_pos (by simp[f])];rfl
     .have s:n≠m:=λq=>by rw[q,p]at c;cases c
      have%[q,z,u,v|w]:=tN o fuel (n+1) m ⋯ ⋯ p;have y:probe.go t hashAt h (fuel+1) (stand t h n)=probe.go t hashAt h fuel (stand t h (n+1)):=by
       rw[d,l,c];dsimp only;rw[if_neg (by simp[f])];rfl
      refine%[q,⋯,u,λj a b=>?_|?_]
      .by_cases e:j=n
       .exact e▸%[i,c|f]
       .exact v j ⋯ b
      .exact y▸w
end STab
namespace STab
open PySem PySem.SetTable
theorem mX(xs:Array Nat)(j:Nat)(d:∀a b (s:a<xs.size) (t:b<xs.size),a<b->xs[a]<xs[b]):∀(fuel lo hi:Nat),hi-lo<=fuel->lo<=hi->hi<=xs.size->(∀i (h:i<xs.size),i<lo->xs[i]<j)->(∀i (h:i<xs.size),hi<=i->j<=xs[i])->
 below.go xs j fuel lo hi<=xs.size/\(∀i (h:i<xs.size),i<below.go xs j fuel lo hi->xs[i]<j)/\(∀i (h:i<xs.size),below.go xs j fuel lo hi<=i->j<=xs[i])
 | 0,lo,hi,p,q,f,g,l=>by
   have e:lo=hi:=by lia
   subst e;exact%[f,g|l]
 | fuel+1,lo,hi,p,q,f,g,l=>by
   rw[below.go];by_cases c:lo<hi
   .rw[if_pos c];dsimp only;have n:(lo+hi)/2<xs.size:=by lia
    have r:xs.getD ((lo+hi)/2) j=xs[(lo+hi)/2]:=by simp[Array.getD,n]
    rw[r];by_cases m:xs[(lo+hi)/2]<j
    .rw[if_pos m];refine mX xs j d fuel _ hi ⋯ ⋯ f (λi h o=>?_) l;by_cases e:i=(lo+hi)/2
     .subst e;exact m
     .exact Nat.lt_trans (d i _ h n ⋯) m
    .rw[if_neg m];refine mX xs j d fuel lo _ ⋯ ⋯ ⋯ g (λi h o=>?_);by_cases e:i=(lo+hi)/2
     .subst e;lia
     .have:=d _ i n h ⋯
      lia
   .rw[if_neg c];have e:lo=hi:=by lia
    subst e;exact%[f,g|l]
def AN(xs:Array Nat):Prop:=∀a b c (d:b<xs.size),a<b->xs[a]<xs[b]
theorem jf(a:AN xs)(j:Nat):below xs j<=xs.size/\(∀i (h:i<xs.size),i<below xs j->xs[i]<j)/\(∀i (h:i<xs.size),below xs j<=i->j<=xs[i]):=
 mX xs j a xs.size 0 xs.size ⋯ (Xg _) (Zi _) (λi h q=>absurd q (X7 _)) (λi h q=>by lia)
theorem AO(a:AN xs)(h:xs[i]? =some j):below xs j=i:=by
 have%[f,c|d]:=jf a j;have%[hi|e]:=Array.getElem?_eq_some_iff.mp h;rcases Nat.lt_trichotomy i _ with q|q|q
 .have:=c i hi q
  lia
 .exact q.symm
 .have b:below xs j<xs.size:=by lia
  have:=d _ b (Zi _);have:=a _ i b hi q
  lia
theorem pR{t:SetTable}(a:AN t.place)(h:t.place[i]? =some j):t.slot j= .live i:=by
 unfold slot;dsimp only;rw[AO a h,h];simp
theorem jh{t:SetTable}(a:AN t.place)(b:t.dummies= #[])(j:Nat):(∃i,t.place[i]? =some j/\t.slot j= .live i)\/(j∉t.place.toList/\t.slot j= .empty):=by
 by_cases h:j∈t.place.toList
 .have%[i|hi]:=Xh h;have hi:=by simpa using hi
  exact .inl %[i,hi|pR a hi]
 .refine .inr %[h|?_];unfold slot;rw[if_neg,if_neg]
  .rw[b];simp[has]
  .intro q;exact h (mem_toList_iff.mpr (Array.mem_of_getElem? (by simpa using q)))
theorem tO(h:t.mask=t'.mask)(x:Int):∀n,stand t x n=stand t' x n
 | 0=>by
   show t.probeStart x=t'.probeStart x;unfold probeStart;rw[h]
 | n+1=>by
   show t.advance _=t'.advance _;rw[tO h x n];unfold advance;rw[h]
theorem pS(h:t.mask=t'.mask)(x:Int)(n:Nat):way t x n=way t' x n:=by unfold way;rw[tO h]
structure WF (t:SetTable) (es:Array (Int×Value)):Prop where
 pow:∃k,t.mask+1=2^k
 big:7<=t.mask
 dum:t.dummies= #[]
 rise:AN t.place
 inb:∀j∈t.place.toList,j<=t.mask
 size:t.place.size=es.size
 chain:∀(i j:Nat) h x,t.place[i]? =some j->es[i]? =some (h,x)->∃n,way t h n=j/\∀m,m<n->way t h m∈t.place.toList
theorem nodup_sub [DecidableEq c]:∀{l m:List c},l.Nodup->(∀x∈l,x∈m)->l.length<=m.length
 |[],_,_,_=>Xg _
 | x::l,m,d,a=>by
   have%[f|g]:=nodup_cons.mp d;have b:=a x Zm;have h:=nodup_sub (m:=m.erase x) g λy i=>(List.mem_erase_of_ne (λe=>f (by simp_all))).mpr (a y (Zk _ i))
   rw[List.length_erase_of_mem b]at h;have:=List.length_pos_of_mem b;rw[Zr]
   lia
theorem vK(W:WF t v)(R:t.place.size<=t.mask)(h:Int):∃m,m+10<=10*turns t.mask/\way t h m∉t.place.toList/\(∀q,q<m->way t h q∈t.place.toList):=by
 have%[k|l]:=W.pow;have ex:∃e,e<=t.mask/\e∉t.place.toList:=by
  refine Classical.byContradiction λb=>?_
  have:(List.range (t.mask+1)).length<=t.place.toList.length:=nodup_sub nodup_range λx o=>(λe c=>Classical.byContradiction λq=>b %[e,c|q]) x (by have:=mem_range.mp o;lia)
  rw[Yl,Zb]at this
  lia
 have%[e,c|f]:=ex;have%[n,p|hw]:=vJ l h e c;have:∀d,∀n,n<=d->n+10<=10*turns t.mask->way t h n∉t.place.toList->∃m,m+10<=10*turns t.mask/\way t h m∉t.place.toList/\(∀q,q<m->way t h q∈t.place.toList):=by
  intro d
  induction d with
  | zero=>
    intro n r g i;have:n=0:=by lia
    subst this;exact%[0,g,i|λq j=>absurd j (X7 _)]
  | succ d s=>
    intro n r g i;by_cases a:∀q,q<n->way t h q∈t.place.toList
    .exact%[n,g,i|a]
    .have%[q|j]:=Classical.not_forall.mp a;have%[w|u]:=Classical.not_imp.mp j;exact s q ⋯ ⋯ u
 exact this n n (Zi _) p (hw▸f)
end STab
namespace STab
open PySem PySem.SetTable
theorem jN(xs:Array a)(p:Nat)(x:a)(b:p<=xs.size):(insertAt xs p x).toList=xs.toList.take p++x::xs.toList.drop p:=by
 unfold insertAt;rw[Xf,toList_push,toList_extract,toList_extract,List.extract_eq_take_drop,List.extract_eq_take_drop];rw[drop_zero,Nat.sub_zero,Zn (l:=xs.toList.drop p) ∅];simp
theorem vL(xs:Array c)(x:c)(f:p<=xs.size)(i:Nat):(insertAt xs p x)[i]? =if i<p then xs[i]? else if i=p then some x else xs[i-1]? :=by
 have e:(insertAt xs p x)[i]? =(insertAt xs p x).toList[i]? :=by simp
 rw[e,jN xs p x f];have g:(xs.toList.take p).length=p:=by simp_all
 by_cases a:i<p
 .rw[if_pos a,Y9 ⋯,Yc,if_pos a];simp
 .rw[if_neg a,Ya ⋯,g];by_cases b:i=p
  .rw[if_pos b,b,sub_self];rfl
  .rw[if_neg b];obtain⟨d,h⟩:∃d,i-p=d+1:=%[i-p-1|⋯]
   rw[h,List.getElem?_cons_succ,Yb];rw[show p+d=i-1 by lia];simp
theorem io(xs:Array a)(p:Nat)(x:a)(b:p<=xs.size):(insertAt xs p x).size=xs.size+1:=by
 rw[<-Zb,jN xs p x b,Z9,Zr,Yn,Yj,Zb]
 lia
theorem AQ(t:SetTable)(h:Int):∀n,(stand t h n).j+(stand t h n).more<=t.mask
 | 0=>by
   show bits h%(t.mask+1) +(runEnd t.mask _-bits h%(t.mask+1))<=t.mask;have:=mod_lt (bits h) (show 0<t.mask+1 from succ_pos _);unfold runEnd
   split<;> lia
 | n+1=>by
   have a:=AQ t h n;show(t.advance _).j+(t.advance _).more<=t.mask;unfold advance
   split
   .lia
   .dsimp only[leap];have:=mod_lt ((stand t h n).i*5+1+(stand t h n).perturb/32) (show 0<t.mask+1 from succ_pos _);unfold runEnd
    split<;> lia
theorem rA(t:SetTable)(h:Int)(n:Nat):way t h n<=t.mask:=by
 have:=AQ t h n;unfold way
 lia
theorem WF.put(W:WF t I)(T:way t h m∉t.place.toList)(U:∀q,q<m->way t h q∈t.place.toList)(r f:Bool):
 (t.put (way t h m)).2=below t.place (way t h m)/\(t.put (way t h m)).1.mask=t.mask/\(t.put (way t h m)).1.place.size=t.place.size+1/\(t.put (way t h m)).1.led=t.led/\(t.put (way t h m)).1.plain=t.plain/\(t.put (way t h m)).1.moves=t.moves/\
  WF {(t.put (way t h m)).1 with led:=r,plain:=f} (insertAt I (t.put (way t h m)).2 (h,x)):=by
 have Y:has t.dummies (way t h m)=false:=by rw[W.dum];simp[has]
 have ep:t.put (way t h m)=({t with place:=insertAt t.place (below t.place (way t h m)) (way t h m)},below t.place (way t h m)):=by
  unfold SetTable.put;dsimp only;rw[Y];rfl
 rw[ep];have%[g,J|L]:=jf W.rise (way t h m)
 generalize hp:below t.place (way t h m)=p at g J L
 have w:p<=I.size:=by rw[<-W.size];exact g
 have s3:∀i (hi:i<t.place.size),p<=i->way t h m<t.place[i]:=λi hi q=>by
  have:=L i hi q;rcases Nat.eq_or_lt_of_le this with e|e
  .exact absurd (by rw[e];simp) T
  .exact e
 have c:∀y,y∈(insertAt t.place p (way t h m)).toList↔y=way t h m\/y∈t.place.toList:=λy=>by
  rw[jN _ _ _ g,Yu,Yx];have:=Xd p t.place.toList
  constructor
  .rintro(q|q|q)
   .exact .inr (Yz q)
   .exact .inl q
   .exact .inr (Yy q)
  .rintro(q|q)
   .exact .inr (.inl q)
   .rw[<-this]at q;rcases Xo q with q|q
    .exact .inl q
    .exact .inr (.inr q)
 refine%[rfl,rfl,io _ _ _ g,rfl,rfl,rfl,W.pow,W.big,W.dum,?_,?_,?_|?_]
 .intro a b ha A B;have l:(insertAt t.place p (way t h m))[a]? =some (insertAt t.place p (way t h m))[a]:=by simp
  have d:(insertAt t.place p (way t h m))[b]? =some (insertAt t.place p (way t h m))[b]:=by simp
  show(insertAt t.place p (way t h m))[a]<(insertAt t.place p (way t h m))[b];rw[vL _ _ g]at l d;have aa:b<t.place.size+1:=(io t.place p (way t h m) g)▸A;by_cases C:a<p
  .rw[if_pos C]at l;have%[u|E]:=Array.getElem?_eq_some_iff.mp l;rw[<-E];by_cases r:b<p
   .rw[if_pos r]at d;have%[f|v]:=Array.getElem?_eq_some_iff.mp d;exact v▸W.rise a b u f B
   .rw[if_neg r]at d;by_cases f:b=p
    .rw[if_pos f]at d;exact(Za d)▸J a u C
    .rw[if_neg f]at d;have%[v|G]:=Array.getElem?_eq_some_iff.mp d;exact G▸W.rise a (b-1) u v ⋯
  .rw[if_neg C]at l;have r: ¬ b<p:=by lia
   have f: ¬ b=p:=by lia
   rw[if_neg r,if_neg f]at d;have%[v|G]:=Array.getElem?_eq_some_iff.mp d;rw[<-G];by_cases u:a=p
   .rw[if_pos u]at l;exact(Za l)▸s3 (b-1) v ⋯
   .rw[if_neg u]at l;have%[E|a4]:=Array.getElem?_eq_some_iff.mp l;exact a4▸W.rise (a-1) (b-1) E v ⋯
 .intro y hy;rcases(c y).mp hy with q|q
  .rw[q];exact rA t h m
  .exact W.inb y q
 .rw[io _ _ _ g,io _ _ _ w,W.size]
 .intro i j h' M hi o;have N:∀n,way {t with place:=insertAt t.place p (way t h m),led:=r,plain:=f} h' n=way t h' n:=λn=>pS (t':=t) (by rfl) h' n
  have H:∃n,way t h' n=j/\∀q,q<n->way t h' q∈(insertAt t.place p (way t h m)).toList:=by
   rw[vL _ _ g]at hi;rw[vL _ _ w]at o;by_cases O:i<p
   .rw[if_pos O]at hi o;have%[n,n1|z]:=W.chain i j h' M hi o;exact%[n,n1|λq s=>(c _).mpr (.inr (z q s))]
   .rw[if_neg O]at hi o;by_cases Q:i=p
    .rw[if_pos Q]at hi o;cases hi;cases o;exact%[m,rfl|λq s=>(c _).mpr (.inr (U q s))]
    .rw[if_neg Q]at hi o;have%[n,n1|z]:=W.chain (i-1) j h' M hi o;exact%[n,n1|λq s=>(c _).mpr (.inr (z q s))]
  have%[n,n1|z]:=H;exact%[n,by rw[N];exact n1|λq s=>by rw[N];exact z q s]
end STab
namespace STab
open PySem PySem.SetTable
noncomputable def nb(t:SetTable)(h:Int):Nat->Nat
 | 0=>0
 | r+1=>nb t h r+(runEnd t.mask (aH t h r).1-(aH t h r).1) +1
theorem AR(t:SetTable)(h:Int):∀r d,d<=runEnd t.mask (aH t h r).1-(aH t h r).1->
 stand t h (nb t h r+d)=%[(aH t h r).1+d,runEnd t.mask (aH t h r).1-(aH t h r).1-d,(aH t h r).1,(aH t h r).2|none]:=by
 have a:∀n i b,stand t h n=%[i,runEnd t.mask i-i,i,b|none]->∀d,d<=runEnd t.mask i-i->stand t h (n+d)=%[i+d,runEnd t.mask i-i-d,i,b|none]:=by
  intro n i b e d
  induction d with
  | zero=>intro _;rw[add_zero,e];rfl
  | succ d c=>
    intro f;show t.advance (stand t h (n+d))=_;rw[c ⋯];unfold advance;rw[if_pos ⋯]
    grind
 intro r
 induction r with
 | zero=>exact a 0 _ _ rfl
 | succ r c=>
   refine a _ _ _ ?_;show t.advance _=_;rw[c _ (Zi _)];unfold advance;rw[if_neg ⋯];rfl
theorem vM(t:SetTable)(h:Int)(r d:Nat)(a:d<=runEnd t.mask (aH t h r).1-(aH t h r).1):way t h (nb t h r+d)=(aH t h r).1+d:=by
 unfold way;rw[AR t h r d a]
noncomputable def eJ(owner:Array (Option Nat))(j:Nat):Bool:=(owner.getD j (some 0)).isSome
theorem pT(t:SetTable)(h:Int)(owner:Array (Option Nat)):∀(fuel r:Nat),(∃a,r<=a/\a<r+fuel/\eJ owner (aH t h a).1=false)->(∀m,m<nb t h r->eJ owner (way t h m)=true)->
 ∃j n,layClean.free t.mask owner fuel (aH t h r).1 (aH t h r).2=some j/\way t h n=j/\eJ owner j=false/\∀m,m<n->eJ owner (way t h m)=true
 | 0,r,⟨a,p,s,_⟩,_=>by lia
 | fuel+1,r,⟨a,p,s,g⟩,i=>by
   rw[layClean.free];have u:runEnd t.mask (aH t h r).1>=(aH t h r).1:=by unfold runEnd;split<;> lia
   have tk:∀k,(owner.getD ((aH t h r).1+k) (some 0)).isNone=!eJ owner ((aH t h r).1+k):=λk=>by
    unfold eJ;cases owner.getD ((aH t h r).1+k) (some 0)<;> rfl
   cases l:(List.range (runEnd t.mask (aH t h r).1+1-(aH t h r).1)).find? λk=>(owner.getD ((aH t h r).1+k) (some 0)).isNone with
   | some k=>
     have%[o,b,bs,c|v]:=List.find?_eq_some_iff_append.mp l;have d:k∈List.range (runEnd t.mask (aH t h r).1+1-(aH t h r).1):=by rw[c];simp
     have d:=mem_range.mp d;have w:b=List.range k:=by
      have y:b.length=k:=by
       have:(List.range (runEnd t.mask (aH t h r).1+1-(aH t h r).1))[b.length]? =some k:=by rw[c];simp
       rw[getElem?_range (by have:=(Xn this).1;simpa using this)]at this;exact Za this
      have z:b=(List.range (runEnd t.mask (aH t h r).1+1-(aH t h r).1)).take k:=by
       rw[c,<-y];simp
      rw[z,List.take_range,X1 ⋯]
     dsimp only;refine%[_,nb t h r+k,rfl,vM t h r k ⋯,?_|λm f=>?_]
     .rw[tk]at o;simpa using o
     .by_cases q:m<nb t h r
      .exact i m q
      .have:=v (m-nb t h r) (w▸mem_range.mpr ⋯);rw[tk]at this;rw[show m=nb t h r+(m-nb t h r) by lia,vM t h r _ ⋯];simpa using this
   | none=>
     have all:∀k,k<=runEnd t.mask (aH t h r).1-(aH t h r).1->eJ owner ((aH t h r).1+k)=true:=λk d=>by
      have:=(List.find?_eq_none.mp l) k (mem_range.mpr ⋯);rw[tk]at this;simpa using this
     have A:r≠a:=λe=>by
      have:=all 0 (Xg _);rw[add_zero,e,g]at this;cases this
     dsimp only;exact pT t h owner fuel (r+1) %[a,⋯,⋯|g] λm f=>by
      by_cases q:m<nb t h r
      .exact i m q
      .have f:m<nb t h r+(runEnd t.mask (aH t h r).1-(aH t h r).1) +1:=f;rw[show m=nb t h r+(m-nb t h r) by lia,vM t h r _ ⋯];exact all _ ⋯
structure LO (t:SetTable) (hs:ZL) (owner:Array _):Prop where
 size:owner.size=t.mask+1
 own:∀j q,owner[j]? =some (some q)->∃h,hs[q]? =some h/\∃n,way t h n=j/\∀m,m<n->eJ owner (way t h m)=true
 all:∀q,q<hs.length->∃j:Nat,owner[j]? =some (some q)
 one:∀(j j' q:Nat),owner[j]? =some (some q)->owner[j']? =some (some q)->j=j'
theorem fM(b:j<owner.size):eJ owner j=true↔∃q,owner[j]? =some (some q):=by
 unfold eJ;have e:owner.getD j (some 0)=owner[j]:=by simp_all
 rw[e];have a:owner[j]? =some owner[j]:=by simp
 rw[a];cases owner[j]with
 | none=>simp
 | some q=>simp
theorem LO.step(L:LO t f owner)(J:t.mask+1=2^k)(room:f.length<=t.mask)(h:Int):
 ∃j,layClean.free t.mask owner (turns t.mask) (bits h%(t.mask+1)) (bits h)=some j/\LO t (f++[h]) (owner.setIfInBounds j (some f.length)):=by
 have d:∀h n,way t h n<owner.size:=λh n=>by rw[L.size];have:=rA t h n;lia
 have ex:∃e,e<=t.mask/\eJ owner e=false:=by
  refine Classical.byContradiction λv=>?_
  have all:∀e,e<t.mask+1->eJ owner e=true:=λe c=>by
   cases q:eJ owner e with
   | true=>rfl
   | false=>exact absurd %[e,⋯|q] v
  let g:Nat->Nat:=λe=>((owner[e]?).getD none).getD 0
  have w:∀e,e<t.mask+1->owner[e]? =some (some (g e)):=λe c=>by
   have%[q|o]:=(λe c=>(fM (L.size▸c)).mp (all e c)) e c;show owner[e]? =some (some (((owner[e]?).getD none).getD 0));rw[o];rfl
  have nd:((List.range (t.mask+1)).map g).Nodup:=by
   rw[X4,Xa];refine Xi (λ{a b} M N A q=>A ?_) (nodup_iff_pairwise_ne.mp nodup_range);have E:=w b (mem_range.mp N);rw[<-q]at E;exact L.one a b _ (w a (mem_range.mp M)) E
  have:=nodup_sub nd λy O=>by
   have%[e,c|rfl]:=Xq O;have%[h',l|_]:=L.own e _ (w e (mem_range.mp c));exact mem_range.mpr (Xn l).1
  rw[Z6,Yl,Yl]at this
  lia
 have%[e,c|B]:=ex;have%[r,hr|o]:=mW J h e c;have%[j,n,Q,G,T|U]:=pT t h owner (turns t.mask) 0 %[r,Xg _,⋯|o▸B] (λm p=>absurd p (X7 _));refine%[j,Q|?_];have Y:j<owner.size:=G▸d h n;have nj:∀q,owner[j]? ≠some _:=λq e=>by
  have:=(fM Y).mpr %[q|e];rw[T]at this;cases this
 have get:∀i,(owner.setIfInBounds j (some f.length))[i]? =if j=i then some _ else owner[i]? :=λi=>by
  rw[Array.getElem?_setIfInBounds]
  split
  .first|rfl|simp
  .rfl
 have keep:∀i,eJ owner i=true->i<owner.size->eJ (owner.setIfInBounds j _) i=true:=λi hi H=>by
  have%[q|e]:=(fM H).mp hi;refine(fM (Array.size_setIfInBounds▸H)).mpr ?_;rw[get]
  split
  .exact%[_|rfl]
  .exact%[q|e]
 refine%[by rw[Array.size_setIfInBounds];exact L.size,λi q e=>?_,λq o=>?_|λi I q e s=>?_]
 .rw[get]at e
  split at e
  .rename_i C
   cases e;refine%[h,by simp,n,by rw[G,C]|λm p=>keep _ (U m p) (d h m)]
  .have%[h',l,n',e2|e3]:=L.own i q e;exact%[h',(Y9 (Xn l).1)▸l,n',e2|λm p=>keep _ (e3 m p) (d h' m)]
 .rw[Z9,Ym]at o;by_cases e:q=f.length
  .exact%[j|by rw[get,if_pos rfl,e]]
  .have%[i|hi]:=L.all q ⋯;refine%[i|?_];rw[get,if_neg]
   .exact hi
   .intro C;rw[<-C]at hi;exact nj q hi
 .have u:∀i,owner[i]? =some (some f.length)->False:=λi e=>by
   have%[h',l|_]:=L.own i _ e;have:=(Xn l).1
   lia
  rw[get]at e s
  split at e<;> split at s
  .lia
  .cases e;exact absurd s (λz=>u I z)
  .cases s;exact absurd e (λz=>u i z)
  .exact L.one i I q e s
theorem tP(c:t.mask+1=2^k)(a:Array Int)(room:a.size<=t.mask+1):∃owner,layClean t.mask a=some owner/\LO t a.toList owner:=by
 have d:∀rest done owner,LO t done owner->(done++rest).length<=t.mask+1->
  ∃b,rest.foldl (λacc h=>do
   let(owner,k)<-acc
   let j<-layClean.free t.mask owner (turns t.mask) (bits h%(t.mask+1)) (bits h)
   pure (owner.setIfInBounds j (some k),k+1)) (some (owner,done.length))=some (b,(done++rest).length)/\LO t (done++rest) b:=by
  intro rest
  induction rest with
  | nil=>intro done owner L _;exact%[owner,by simp|by simpa using L]
  | cons h rest g=>
    intro done owner L i;simp only[Z9,Zr]at i;have%[j,f|l]:=L.step c ⋯ h;have%[b,e|L2]:=g _ _ l (by simp_all);refine%[b,?_|by simpa using L2];rw[Y8];have m:(do
     let(owner,k)<-(some (owner,done.length))
     let j<-layClean.free t.mask owner (turns t.mask) (bits h%(t.mask+1)) (bits h)
     pure (owner.setIfInBounds j (some k),k+1))=some (owner.setIfInBounds j (some done.length),(done++[h]).length):=by
     show(layClean.free t.mask owner _ _ _).bind _=_;rw[f];simp
    rw[m,e];simp
 have n:LO t [] (Array.replicate (t.mask+1) none):=%[by simp,λj q e=>by
  rw[Array.getElem?_replicate]at e
  split at e<;> simp at e,λq o=>absurd o (X7 _)|λj p q e _=>by
  rw[Array.getElem?_replicate]at e
  split at e<;> simp at e]
 have%[owner,e|L]:=d a.toList [] _ n (room);refine%[owner,?_|L];unfold layClean;rw[<-Array.foldl_toList];rw[show(0)=([]).length from rfl,e];rfl
end STab
namespace STab
open PySem PySem.SetTable
theorem tQ(n:Nat):∀fuel k,3<=k->n<2^(k+fuel)->(2^k<=2*n\/k=3)->∃a,3<=a/\sizeAbove.go n fuel (2^k)=2^a/\n<2^a/\(2^a<=2*n\/a=3)
 | 0,k,b,c,d=>%[k,b,rfl,c|d]
 | fuel+1,k,b,c,d=>by
   rw[sizeAbove.go];by_cases h:2^k<=n
   .rw[if_pos h];have e:2^k*2=2^(k+1):=by rw[pow_succ]
    rw[e];exact tQ n fuel _ ⋯ ((show k+1+fuel=k+(fuel+1) by lia)▸c) (.inl ⋯)
   .rw[if_neg h];exact%[k,b,rfl,⋯|d]
theorem vN(a:n<2^60):∃k,3<=k/\sizeAbove n=2^k/\n<2^k/\(2^k<=2*n\/k=3):=
 tQ n 64 3 (Zi _) (Zg a (Nat.pow_le_pow_right (by decide) ∅)) (.inr rfl)
theorem mY [DecidableEq c]:∀{l m:List c},l.Nodup->m.Nodup->(∀x,x∈l↔x∈m)->l.Perm m
 |[],m,_,_,h=>by
  cases m with
  | nil=>simp
  | cons x m=>exact absurd ((h x).mpr Zm) ∅
 | x::l,m,d,b,h=>by
   have%[f|g]:=nodup_cons.mp d;refine List.Perm.trans (List.Perm.cons x (mY g (b.erase x) λy=>?_)) (List.perm_cons_erase ((h x).mp Zm)).symm
   constructor
   .intro a;exact(List.mem_erase_of_ne (λe=>f (by simp_all))).mpr ((h y).mp (Zk _ a))
   .intro a;rcases mem_cons.mp ((h y).mpr (List.mem_of_mem_erase a))with q|q
    .exact absurd q (λe=>by rw[e]at a;exact b.not_mem_erase a)
    .exact q
theorem laid_ok{t:SetTable}(hp:t.mask+1=2^k)(E:7<=t.mask)(c:Array (Int×Value))(room:c.size<=t.mask)(finger moves:Nat)(led plain:Bool):
 ∃t' d,laid t.mask finger moves led plain (c.map (·.1))=some (t',d)/\t'.mask=t.mask/\t'.led=led/\t'.plain=plain/\t'.moves=moves/\WF t' (d.filterMap (c[·]?))/\(d.filterMap (c[·]?)).toList.Perm c.toList:=by
 have%[owner,e|L]:=tP hp (c.map (·.1)) (by rw[size_map];lia);have G:(c.map (·.1)).toList.length=c.size:=by simp
 obtain⟨live,v⟩:∃live,(List.range (t.mask+1)).filterMap (λj=>(owner.getD j none).map (λq=>(j,q)))=live:=%[_|rfl]
 refine%[%[t.mask,(live.map (·.1)).toArray,#[],finger,led,moves|plain],(live.map (·.2)).toArray,by unfold laid;rw[e,<-v];rfl,rfl,rfl,rfl,rfl|?_];have gd:∀j q,owner.getD j none=some q↔owner[j]? =some (some q):=λj q=>by
  rw[Zs];cases owner[j]? with
  | none=>simp
  | some o=>simp
 have mem:∀j q,(j,q)∈live↔owner[j]? =some (some q):=λj q=>by
  rw[<-v,mem_filterMap]
  constructor
  .rintro⟨H,ab,I⟩;have%[z,s|J]:=map_eq_some_iff.mp I;cases J;exact(gd j q).mp s
  .intro ho;have:j<owner.size:=by
    have%[f|_]:=Array.getElem?_eq_some_iff.mp ho;exact f
   refine%[j,mem_range.mpr (by rw[L.size]at this;exact this)|?_];rw[(gd j q).mpr ho];rfl
 have r:(live.map (·.1)).Pairwise (·<·):=by
  rw[<-v,Xa,List.pairwise_filterMap];refine List.Pairwise.imp (λ{a b} u x hx y M=>?_) List.pairwise_lt_range;have%[_,_|rfl]:=map_eq_some_iff.mp hx;have%[_,_|rfl]:=map_eq_some_iff.mp M;exact u
 have w:∀j q,(j,q)∈live->q<c.size:=λj q h=>by
  have%[h',s|_]:=L.own j q ((mem j q).mp h);have:=(Xn s).1
  lia
 have B:(live.map (·.2)).Nodup:=by
  rw[X4,Xa];refine Xi (λ{a b} N E u g=>?_) (by rw[Xa]at r;exact r);have f:=(mem a.1 a.2).mp N;have O:=(mem b.1 b.2).mp E;rw[<-g]at O;have:=L.one _ _ _ f O
  lia
 have C:(live.map (·.2)).Perm (List.range c.size):=mY B nodup_range λq=>by
  constructor
  .intro g;have%[%[j|z],f|rfl]:=Xq g;exact mem_range.mpr (w j z f)
  .intro g;have%[j|Q]:=L.all q (G▸mem_range.mp g);exact Xr %[(j,q),(mem j q).mpr Q|rfl]
 have fm:∀(l:List Nat),(∀q∈l,q<c.size)->l.filterMap (c[·]?)=l.map (λq=>c.getD q (0,Value.none)):=by
  intro l
  induction l with
  | nil=>intro _;rfl
  | cons q l ih=>
    intro g;have f:=g q Zm;have s:c[q]? =some (c.getD q (0,Value.none)):=by simp[Array.getD,f]
    rw[Y2,s,Ys,ih λy M=>g y (Zk _ M)]
 have T:((live.map (·.2)).toArray.filterMap (c[·]?)).toList=(live.map (·.2)).map (λq=>c.getD q (0,Value.none)):=by
  rw[Array.toList_filterMap,List.toList_toArray];exact fm _ λq g=>by
   have%[%[j|z],f|rfl]:=Xq g;exact w j z f
 have er:c.toList=(List.range c.size).map (λq=>c.getD q (0,Value.none)):=by
  apply Y0
  .simp
  .intro i f O;have f:=by simpa using f
   simp[Array.getD,f]
 refine%[%[%[k|hp],E,rfl,?_,λj Q=>?_,?_|λi j h x hi A=>?_]|?_]
 .intro a b N U u;have:=List.pairwise_iff_getElem.mp r a b (N) (U) u;simpa using this
 .have%[%[H|q],f|rfl]:=Xq Q;have:=(Array.getElem?_eq_some_iff.mp ((mem H q).mp f)).1;rw[L.size]at this
  lia
 .rw[<-Zb (xs:=Array.filterMap _ _),T];simp
 .have hi:(live.map (·.1))[i]? =some j:=by simpa using hi
  have A:((live.map (·.2)).toArray.filterMap (c[·]?)).toList[i]? =some (h,x):=by simpa using A
  rw[T,Yt,Zl]at A;rw[Zl]at hi;cases Y:live[i]? with
  | none=>rw[Y]at hi;cases hi
  | some p=>
    have%[H|q]:=p;rw[Y]at hi A;cases hi;have hm:=Z8 Y;have%[h',s,n,n1|n2]:=L.own _ q ((mem _ q).mp hm);have g:=w _ q hm;have eh:h'=h:=by
     have J:(c.map (·.1)).toList[q]? =some (c[q]).1:=by simp[g]
     rw[J]at s;have e3:c.getD q (0,Value.none)=c[q]:=by simp[Array.getD,g]
     simp only[Function.comp,map_some,e3,Option.some.injEq]at A;rw[A]at s;exact(Za s).symm
    subst eh;have wm:∀n,way {mask:=t.mask,place:=(live.map (·.1)).toArray,dummies:= #[],finger:=finger,led:=led,moves:=moves,plain:=plain} h' n=way t h' n:=λn=>pS (t':=t) (by rfl) h' n
    refine%[n,by rw[wm];exact n1|λm aa=>?_];rw[wm];have%[z|I]:=(fM (by rw[L.size];have:=rA t h' m;lia)).mp (n2 m aa);exact Xr %[(way t h' m,z),(mem _ _).mpr I|rfl]
 .rw[T,er];exact C.map _
end STab
namespace STab
open PySem PySem.SetTable
section
variable{prog:Program}{w:World}{K:Type}[DecidableEq K]{knd:KeyKind prog w K}{A:Around}{E:ZD}{s:Shared}
def EL(knd:KeyKind prog w K)(h:Heap)(a:Array (Int×Value)):Prop:=∀(i:Nat) e,a[i]? =some e->∃r k,e=(tupleKeyHash knd k,Value.ref r)/\IsTupleKey knd h k r
theorem lh(g:IsTupleKey knd s.heap ks r)(h:Q false s):↥A (ofAClassStatement 8 (.ref r)) Q E s:=by
 have l:=g.typeIs;have%[o,c,n,m,_,p|hi]:=g;unfold ofAClassStatement;refine Z2 (wpAny_typeOf l (Z2 (Z3 (Z2 (wpAny_seqItems m p (Z2 ?_))))));rw[<-forIn_toList];refine wpAny_forIn_list _ (λrest r s'=>r=(none,())/\s'=s/\∃i,ItemsAre knd i rest) _ ?_ ?_ _ _ %[rfl,rfl,ks|hi]
 .intro x rest r s' %[rfl,rfl,i|d];cases d with
  | @cons k1 u f j q b=>
    have t:=knd.byValue _ _ q;have e:ofAClassStatement 7 x=pure false:=by
     cases x with
     | ref a=>simp[carriedByValue]at t
     | _=>first|rfl|lia|lia
    refine Z2 ?_;rw[e];exact Z3 (Z3 %[rfl,rfl,f|b])
 .intro r s' %[rfl,rfl|_];exact Z3 h
theorem vO(d:IsTupleKey knd s.heap ks r):∀(l:ZF),(∀y∈l,∃a c,y=Value.ref a/\IsTupleKey knd s.heap c a)->∀{Q:Bool->Shared->Prop},Q false s->↥A (searchCouldBeSeen (.ref r) l) Q E s:=by
 intro l g Q h;refine Z2 (wpAny_forIn_list _ (λrest x s'=>x=(none,())/\s'=s/\∀y∈rest,∃a c,y=Value.ref a/\IsTupleKey knd s.heap c a) _ ?_ ?_ _ _ %[rfl,rfl|g])
 .intro y rest x s' %[rfl,rfl|e];have%[a,c,rfl|b]:=e y Zm;have f:=λy i=>e y (Zk _ i)
  dsimp only
  split
  .exact Z3 %[rfl,rfl|f]
  .exact Z2 (wpAny_eqIsQuiet_tuple d (Z2 (wpAny_eqIsQuiet_tuple b (Z2 (lh d (Z2 (lh b (Z3 %[rfl,rfl|f]))))))))
 .intro x s' %[rfl,rfl|_];exact Z3 h
theorem rB(hu:A.units<cLine)(ho:s.heap.get? a=some o)(hd:o.data= .set u ep t)(W:WF t u)(room:t.place.size<=t.mask)(ac:t.mask<=9000)
 (el:EL knd s.heap u) (hk:IsTupleKey knd s.heap k r)
 (h1:(∃(i:Nat) (g:Addr),u[i]? =some (tupleKeyHash knd k,Value.ref g)/\IsTupleKey knd s.heap k g)->Q (.there none) s)
 (h2:∀m,way t (tupleKeyHash knd k) m∉t.place.toList->(∀q,q<m->way t (tupleKeyHash knd k) q∈t.place.toList)->(∀(i:Nat) g v,u[i]? =some (tupleKeyHash knd v,Value.ref g)->IsTupleKey knd s.heap v g->v≠k)->Q (.free (way t (tupleKeyHash knd k) m) false) s):
 ↥A (setSearch a (.ref r) (tupleKeyHash knd k) true) Q E s:=by
 generalize hh:tupleKeyHash knd k=h at h1 h2
 have hf:t.fits u.size=true:=by
  unfold fits fill;rw[W.dum];simp[W.size];exact W.size▸room
 have%[N,m1,m2|m3]:=vK W room h;have me:t.slot (way t h N)= .empty:=by
  rcases jh W.rise W.dum (way t h N)with⟨i,e,_⟩|⟨_,e⟩
  .exact absurd (mem_toList_iff.mpr (Array.mem_of_getElem? e)) m2
  .exact e
 have ag:t.gaveWay=false:=by
  have%[c|hc]:=W.pow;have hb:=W.big;have c0:c≠0:=λq=>by rw[q]at hc;lia
  have%[c'|rfl]:=Nat.exists_eq_succ_of_ne_zero c0;rw[pow_succ]at hc;unfold gaveWay;have:t.mask%2=1:=by lia
  simp[this]
 have O:∀(fuel n:Nat) (st:Option Probe),st.getD (t.probeStart h)=stand t h n->n<=N->N<n+fuel->(∀j,j<n->∀(i:Nat) g v,t.slot (way t h j)= .live i->u[i]? =some (tupleKeyHash knd v,Value.ref g)->IsTupleKey knd s.heap v g->v≠k)->
  ↥A (setSearchFrom a (.ref r) h true fuel st) Q E s:=by
  intro fuel
  induction fuel with
  | zero=>intro n st _ a1 a2;lia
  | succ fuel ih=>
    intro n st ah hn a5 T;unfold setSearchFrom;refine Z2 (wpAny_setState_of ho hd hf ?_);dsimp only;rw[ag];simp only[Y1,if_false];rw[ah]
    generalize ai:SetTable.probe t _ h (stand t h n)=pr
    have l:SetTable.probe.go t (λi=>((u[i]?).map (·.1)).getD 0) h (10*turns t.mask) (stand t h n)=pr:=ai;have%[q,q1,q2,q3|q4]:=tN (t:=t) W.dum (hashAt:=λi=>((u[i]?).map (·.1)).getD 0) (h:=h) (10*turns t.mask) n N hn ⋯ me;rcases q4 with⟨J,e2⟩|⟨i,J,e2,e3⟩
    .rw[e2]at l;subst l;have hq:q=N:=by
      rcases Nat.eq_or_lt_of_le q2 with z|z
      .exact z
      .have:=m3 q z;rcases jh W.rise W.dum (way t h q)with⟨i,_,U⟩|⟨z2,_⟩
       .rw[J]at U;cases U
       .exact absurd this z2
     subst hq;dsimp only;refine Z3 (h2 q m2 m3 λi g v p B C=>?_);subst C;rw[hh]at p;have hi:i<u.size:=(Array.getElem?_eq_some_iff.mp p).1;have hp:t.place[i]? =some (t.place[i]'(W.size▸hi)):=by simp
     have%[Y,c1|c2]:=W.chain i _ h _ hp p;have G:=pR W.rise hp;have al:Y<q:=by
      rcases Nat.lt_trichotomy Y q with z|z|z
      .exact z
      .rw[z,]at c1;rw[<-c1,me]at G;cases G
      .exact absurd (c2 q z) m2
     rw[<-c1]at G;by_cases aa:Y<n
     .exact T Y aa i g v G (hh▸p) B rfl
     .have%[H,U|ab]:=q3 Y ⋯ al;rw[G]at U;cases U;rw[p]at ab;exact ab rfl
    .rw[e3]at l;subst l;obtain⟨x0,p⟩:∃e,u[i]? =some e:=by
      have an:t.place[i]? =some (way t h q):=by
       rcases jh W.rise W.dum (way t h q)with⟨H,p1,I⟩|⟨_,I⟩
       .rw[J]at I;cases I;exact p1
       .rw[J]at I;cases I
      have:=(Array.getElem?_eq_some_iff.mp an).1;exact%[u[i]'(W.size▸this)|by simp[<-W.size,this]]
     have%[g,v,rfl|B]:=el i x0 p;have a6:q<N:=Nat.lt_of_le_of_ne q2 λz=>by rw[z,me]at J;cases J
     have L:↥A (do
      let f<-holding [Value.ref g] (eqBool (Value.ref g) (Value.ref r))
      let x<-setState a
      if(true&&f)=true then pure (SetFound.there none)
      else match x.2.snd.sameMemory t.moves t.mask with
       | some same=>
         match if same=true then x.2.snd.slot (way t h q)else Slot.empty with
         | Slot.live H=>
           match x.fst[H]? with
           | some (_,y')=>do
             let b<-isSame y' (Value.ref g)
             let d<-pure (if b=true then some H else none)
             match d with
              | none=>do
                rule "set.search.anew"
                setSearchFrom a (Value.ref r) h true fuel none
              | some H=>
                if f=true then pure (SetFound.there (some H))
                else setSearchFrom a (Value.ref r) h true fuel (some (stand t h (q+1)))
           | none=>do
             let d<-pure none
             match d with
              | none=>do
                rule "set.search.anew"
                setSearchFrom a (Value.ref r) h true fuel none
              | some H=>
                if f=true then pure (SetFound.there (some H))
                else setSearchFrom a (Value.ref r) h true fuel (some (stand t h (q+1)))
         | x=>do
           let d<-pure none
           match d with
            | none=>do
              rule "set.search.anew"
              setSearchFrom a (Value.ref r) h true fuel none
            | some H=>
              if f=true then pure (SetFound.there (some H))
              else setSearchFrom a (Value.ref r) h true fuel (some (stand t h (q+1)))
       | x=>unsupported "set.changed-during-lookup:is-the-new-block-at-the-old-address") Q E s:=by
      refine Z2 (wpAny_holding (wpAny_eqBool_tuple hu B hk (Z2 (wpAny_setState_of ho hd hf ?_))));dsimp only;by_cases C:v=k
      .subst C;rw[Zf rfl];exact Z3 (h1 %[i,g,(by rw[p]at e2;exact e2)▸p|B])
      .rw[Zh C];have sm:t.sameMemory t.moves t.mask=some true:=by unfold sameMemory;rw[if_pos ∅]
       rw[sm];simp only[if_true];rw[J];dsimp only;rw[p];dsimp only;have same:isSame (Value.ref g) (Value.ref g)=pure true:=by
        unfold isSame;simp
       refine Z2 ?_;rw[same];refine Z3 ?_;simp only[if_true];refine Z2 (Z3 ?_);dsimp only;refine ih (q+1) _ rfl ⋯ ⋯ λj hj i2 r2 k2 s2 g2 t2=>?_
       by_cases as:j<n
       .exact T j as i2 r2 k2 s2 g2 t2
       .by_cases a0:j=q
        .subst a0;rw[J]at s2;cases s2;rw[p]at g2;have:g=r2:=by
          have:=Za g2;injection this with _ z
          injection z
         subst this;exact(B.inj t2)▸C
        .have%[i3,p1|I]:=q3 j ⋯ ⋯;rw[s2]at p1;cases p1;rw[g2]at I;intro z;rw[z]at I;exact I hh
     dsimp only;rw[p];dsimp only;by_cases M:(!t.led)=true
     .rw[if_pos M];refine Z2 (vO hk _ (λy hy=>?_) ?_)
      .have%[e,a3|rfl]:=Xq hy;have%[i2|hi2]:=Array.getElem?_of_mem ((Array.mem_filter.mp (mem_toList_iff.mp a3)).1);have%[r2,k2,rfl|a4]:=el i2 e hi2;exact%[r2,k2,rfl|a4]
      .exact L
     .rw[if_neg M];exact L
 exact O 100000 0 none rfl (Xg _) (by unfold turns at m1;lia) (λj hj=>absurd hj (X7 _))
end
end STab
namespace STab
open PySem PySem.SetTable
structure IN (es:Array _) (t:SetTable) (led:Bool):Prop where
 wf:WF t es
 roomy:t.place.size*5<t.mask*3
 small:t.mask<=7\/t.mask+1<=8*es.size
 led:t.led=led
 plain:es.size≠0->t.plain=false
theorem IN.fits{a:Array _}{t:SetTable}{led:Bool}(I:IN a t led):t.fits a.size=true:=by
 unfold SetTable.fits fill;rw[I.wf.dum];have:=I.roomy;simp[I.wf.size];rw[<-I.wf.size]
 lia
theorem IN.fresh(finger moves:Nat)(led:Bool):IN #[] (SetTable.fresh finger moves led) led:=
 %[%[%[3|rfl],Zi _,rfl,λa b c=>absurd c (by simp[SetTable.fresh]),λj d=>by simp[SetTable.fresh]at d,rfl|λi j h x hi=>by simp[SetTable.fresh]at hi],show 0*5<7*3 from by decide,.inl (Zi _),rfl|λq=>absurd rfl q]
section
variable{prog:Program}{w:World}{K:Type}[DecidableEq K]{knd:KeyKind prog w K}{A:Around}{E:ZD}{s:Shared}
theorem relay_w(e:s.heap.get? a=some o)(f:o.data= .set c z t)(j:t.fits c.size=true)(B:c.size<=n)(hw:n<=4000)
 (h:∀d t',d.toList.Perm c.toList->WF t' d->t'.led=t.led->t'.plain=t.plain->n<=t'.mask->t'.mask+1<=2*n\/t'.mask<=7->Q () (s>>>s.heap.update a (Obj.putSet d t'))):
 ↥A (setRelay a n) Q E s:=by
 have%[k,l,g,lt|le]:=vN (n:=n) ⋯;have C:8<=2^k:=Yi (by simp:8<=2^3) (Nat.pow_le_pow_right ∅ l);have i:2^k<=2*n\/2^k=8:=by
  rcases le with q|q
  .exact .inl q
  .exact .inr (by rw[q])
 have m:2^k<=8000:=by rcases i with q|q<;> lia
 let p:SetTable:={t with mask:=2^k-1}
 have%[t',b,r,G,u,v,H,W|P]:=laid_ok (t:=p) (k:=k) (by show 2^k-1+1=2^k;lia) (by show 7<=2^k-1;lia) c (by show c.size<=2^k-1;lia) t.finger _ t.led t.plain;have y:t.relaid (c.map (·.1)) n=some (t',b):=by
  unfold relaid;rw[g];exact r
 have sz:(b.filterMap (c[·]?)).size=c.size:=by rw[<-Zb,P.length_eq,Zb]
 refine Z2 (wpAny_setState_of e f j ?_);dsimp only;rw[g,if_neg (by rw[PySem.sizeLine_eq];lia)];rw[y];refine Z2 ?_;show wpAny _ A (if((b.filterMap _).size != c.size)=true then _ else pure _) _ E s;rw[if_neg (by simp[sz])];exact Z3 (wpAny_storeSet_of e f (h _ t' P W u v ⋯ (by rcases i with q|q<;> lia)) (by rw[sz,PySem.sizeLine_eq];lia))
theorem AS(e:s.heap.get? a=some o)(f:o.data= .set c j t)(g:t.fits c.size=true)(m:c.size<=1000)(n:c.size≠0)(d:t.plain=false)
 (h:∀b t',b.toList.Perm c.toList->IN b t' t.led->t'.plain=false->Q () (s>>>s.heap.update a (Obj.putSet b t'))):
 ↥A (setRelay a (grown c.size)) Q E s:=by
 have i:grown c.size=c.size*4:=by unfold grown;rw[if_neg ⋯]
 rw[i];refine relay_w e f g ⋯ ⋯ λb t' P W l p q m2=>?_
 have sz:b.size=c.size:=by rw[<-Zb,P.length_eq,Zb]
 exact h b t' P %[W,by rw[W.size,sz];lia,⋯,l|λ_=>p▸d] (p▸d)
theorem yj{led:Bool}(M:A.units<cLine)(p:s.heap.get? a=some o)(n:o.data= .set d ep t)(I:IN d t led)(hn:d.size+1<=1000)
 (el:EL knd s.heap d) (C:IsTupleKey knd s.heap k r) (hv:∀(s':Shared) (N:Bool->Shared->Prop),IsTupleKey knd s'.heap k r->N false s'->↥A (hashByValue 8 (.ref r)) N E s')
 (h1:(∃(i:Nat) (u:Addr),d[i]? =some (tupleKeyHash knd k,Value.ref u)/\IsTupleKey knd s.heap k u)->Q false {s with toks:=s.toks+(k.length+1)})
 (O:(∀(i:Nat) (u:Addr) (G:List K),d[i]? =some (tupleKeyHash knd G,Value.ref u)->IsTupleKey knd s.heap G u->G≠k)->∀g t' H h',h'.get? a=some {o with data:= .set g H t'}->SameBut a s.heap h'->g.toList.Perm (d.toList++[(tupleKeyHash knd k,Value.ref r)])->IN g t' led->Q true {s with heap:=h',toks:=s.toks+(k.length+1)}):
 ↥A (setAdd a (.ref r)) Q E s:=by
 unfold setAdd;refine wpAny_holding (Z2 (wpAny_pyHash_tuple M C ?_));unfold setAddHashed;refine wpAny_holding ?_;unfold setAddHashedIn;refine Z2 (wpAny_setState_of (s:={s with toks:=s.toks+(k.length+1)}) p n I.fits ?_);dsimp only;have ns:byScan (Value.ref r) d=false:=by unfold byScan;simp[Value.scannable]
 rw[ns];simp only[Y1,if_false];have rm:=I.roomy;refine Z2 (rB (s:={s with toks:=s.toks+(k.length+1)}) M p n I.wf ⋯ (by rcases I.small with q|q<;> lia) el C (λq=>?_) λm T m2 U=>?_)
 .exact Z3 (h1 q)
 .dsimp only;refine Z2 (wpAny_setState_of (s:={s with toks:=s.toks+(k.length+1)}) p n I.fits ?_);dsimp only;have v:=I.wf;have%[p1,Y,p3,p4,p5,p6|Wp]:=v.put (x:=Value.ref r) T m2 t.led false;have%[_,_,_,_,_,_|Wq]:=v.put (x:=Value.ref r) T m2 (t.put (way t (tupleKeyHash knd k) m)).1.led (t.put (way t (tupleKeyHash knd k) m)).1.plain;have y:(t.put (way t (tupleKeyHash knd k) m)).2<=d.size:=by
   rw[p1,<-v.size];exact(jf v.rise _).1
  have e:(insertAt d (t.put (way t (tupleKeyHash knd k) m)).2 (tupleKeyHash knd k,Value.ref r)).size=d.size+1:=io _ _ _ y;have h:(insertAt d (t.put (way t (tupleKeyHash knd k) m)).2 (tupleKeyHash knd k,Value.ref r)).toList.Perm (d.toList++[(tupleKeyHash knd k,Value.ref r)]):=by
   rw[jN _ _ _ y];have q:=Xd (t.put (way t (tupleKeyHash knd k) m)).2 d.toList;refine List.Perm.trans List.perm_middle ?_;rw[q];exact perm_append_comm (l₁:=[_])
  generalize aa:insertAt d _ _=c at Wp Wq e h
  have f:∀b:SetTable,WF b c->b.mask=t.mask->b.place.size=t.place.size+1->b.led=led->b.plain=false->
   ↥A (do storeSet a c b;if(!false&&b.tooFull)=true then do setRelay a (grown (d.size+1));pure true else pure true) Q E {s with toks:=s.toks+(k.length+1)}:=λb z e1 e2 e3 e4=>by
   have g1:=by
    have q:=get?_update_self (Obj.putSet c b) p (by rw[putSet_of c b n];rfl);rwa[putSet_of c b n]at q
   have b1:=SameBut.update s.heap a (Obj.putSet c b);refine Z2 (wpAny_storeSet_of p n ?_ (e▸Yi hn (by decide)));have J:b.tooFull=true↔b.mask*3<=b.place.size*5:=by
    unfold tooFull fill;rw[z.dum];simp
   by_cases hf:b.tooFull=true
   .rw[if_pos (by simp[hf])];have B:b.fits c.size=true:=by
     unfold SetTable.fits fill;rw[z.dum];simp[z.size];exact z.size▸(by rw[e1,e2];have:=v.big;lia)
    rw[<-e];refine Z2 (AS g1 rfl B ⋯ ⋯ e4 λj L P3 I3 _=>Z3 ?_);have g2:=by
     have q:=get?_update_self (Obj.putSet j L) g1 (by rfl);rwa[putSet_of j L rfl]at q
    exact O U j L _ _ g2 (b1.trans (SameBut.update _ a _)) (P3.trans h) (by rw[e3]at I3;exact I3)
   .rw[if_neg (by simp[hf])];refine Z3 (O U c b _ _ g1 b1 h %[z,⋯,?_,e3|λ_=>e4]);rw[e1,e];rcases I.small with q|q
    .exact .inl q
    .exact .inr ⋯
  by_cases l:(t.put (way t (tupleKeyHash knd k) m)).1.plain=true
  .rw[if_pos l];exact Z2 (hv _ _ C (f _ Wp Y p3 I.led rfl))
  .rw[if_neg l];exact f _ Wq Y p3 (p4.trans I.led) (by simpa using l)
end
end STab
namespace L2
open PySem PySem.Spec PyProof.Rows STab
noncomputable def gu{a:Type}[DecidableEq a](ps:List (Addr×a))(p:Addr×a):List (Addr×a):=if p.2∈ps.map (·.2)then ps else ps++[p]
noncomputable def ba{a:Type}[DecidableEq a](l:List (Addr×a)):List (Addr×a):=l.foldl gu []
section
variable{κ:Type}[DecidableEq κ]
theorem AT{ps:List _}{p q:Addr×κ}(h:q∈gu ps p):q∈ps\/q=p:=by
 unfold gu at h
 split at h
 .exact .inl h
 simp_all
theorem yk{ps:List (Addr×κ)}{p:Addr×κ}{k:κ}:k∈(gu ps p).map (·.2)↔k∈ps.map (·.2)\/k=p.2:=by
 unfold gu;by_cases h:p.2∈ps.map (·.2)
 .rw[if_pos h];exact%[.inl|λq=>q.elim id λe=>e▸h]
 .rw[if_neg h,Zd,Yu];simp
theorem vP{ps:List (Addr×κ)}{p:Addr×κ}(h:(ps.map (·.2)).Nodup):((gu ps p).map (·.2)).Nodup:=by
 unfold gu
 split
 .exact h
 .rename_i a
  rw[Zd];exact lS h a
theorem wQ:∀(l ps:List (Addr×κ)),(ps.map (·.2)).Nodup->((l.foldl gu ps).map (·.2)).Nodup/\(∀k,k∈(l.foldl gu ps).map (·.2)↔k∈ps.map (·.2)\/k∈l.map (·.2))/\(∀q∈l.foldl gu ps,q∈ps\/q∈l)
 |[],ps,h=>%[h,λk=>by simp|λq a=> .inl a]
 | p::l,ps,h=>by
   have%[b,c|d]:=wQ l _ (vP h);rw[Y8];refine%[b,λk=>?_|λq a=>?_]
   .rw[c,yk,Ys,Yx]
    grind
   .rcases d q a with z|z
    .rcases AT z with z|z
     .exact .inl z
     .exact .inr (z▸Zm)
    .exact .inr (Zk _ z)
theorem dw(l:List (Addr×κ)):((ba l).map (·.2)).Nodup:=(wQ l [] X6).1
theorem gA(l:List (Addr×κ))(k:κ):k∈(ba l).map (·.2)↔k∈l.map (·.2):=by
 have:=(wQ l [] X6).2.1 k;simpa [ba]using this
theorem bj(l:List (Addr×κ)):∀q∈ba l,q∈l:=λq a=>by
 rcases(wQ l [] X6).2.2 q a with z|z
 .cases z
 .exact z
theorem rC(val:Nat->Addr×κ)(i:Nat):ba ((List.range (i+1)).map val)=gu (ba ((List.range i).map val)) (val i):=by
 unfold ba;rw[Xb,Zd,List.foldl_append];rfl
end
section
variable{prog:Program}{w:World}{κ:Type}[DecidableEq κ]{knd:PySem.KeyKind prog w κ}{A:Around}{E:ZD}{s:Shared}{a:Addr}
def mZ(w:World)(knd:PySem.KeyKind prog w κ)(a:Addr)(ps:List (Addr×List κ))(h:Heap):Prop:=
 ∃o b c t,h.get? a=some o/\o.ExactSet/\o.data= .set b c t/\IN b t (!aS w)/\b.toList.Perm (ps.map λp=>(tupleKeyHash knd p.2,Value.ref p.1))
theorem mZ.keep(S:mZ w knd a ps h)(k:∀o,h.get? a=some o->h'.get? a=some o):mZ w knd a ps h':=by
 have%[o,b,c,t,d|r]:=S;exact%[o,b,c,t,k o d|r]
theorem lU(x:IsTupleKey knd h k r)(q:∀o,h.get? r=some o->h'.get? r=some o):IsTupleKey knd h' k r:=by
 have%[o,b,n,c|z]:=x;exact%[o,b,n,q o c|z]
theorem AU(v:A.units<cLine)(y:mZ w knd a ps s.heap)(tk:∀q∈ps,IsTupleKey knd s.heap q.2 q.1)(B:IsTupleKey knd s.heap p.2 p.1)(room:ps.length+1<=1000)
 (C:∀(s':Shared) (m:Bool->Shared->Prop),IsTupleKey knd s'.heap p.2 p.1->m false s'->↥A (hashByValue 8 (.ref p.1)) m E s')
 (n:∀h' b tk,SameBut a s.heap h'->mZ w knd a (gu ps p) h'->s.toks<=tk->Q b {s with heap:=h',toks:=tk}):↥A (setAdd a (.ref p.1)) Q E s:=by
 have%[o,g,G,t,r,f,u,I|P]:=y;have hn:=by
  have:=P.length_eq;rw[Z6,Zb]at this;exact this
 have mem:∀i e,g[i]? =some e->∃q∈ps,e=(tupleKeyHash knd q.2,Value.ref q.1):=λi e h=>by
  have:=mem_toList_iff.mpr (Array.mem_of_getElem? h);have%[q,c|rfl]:=Xq (P.mem_iff.mp this);exact%[q,c|rfl]
 have H:EL knd s.heap g:=λi e h=>by
  have%[q,c|rfl]:=mem i e h;exact%[q.1,q.2,rfl|tk q c]
 refine yj v r u I ⋯ H B C (λ⟨i,J,e,L⟩=>?_) λd j t' l h' g' M N O=>?_
 .have%[q,c|T]:=mem i _ e;have U:J=q.1:=by injection T with _ z;injection z
  subst U;refine n s.heap false _ (SameBut.refl a s.heap) ?_ (le_add_right _ _);unfold gu;rw[if_pos (Xr %[q,c|(L.inj (tk q c)).symm])];exact%[o,g,G,t,r,f,u,I|P]
 .refine n h' true _ M ?_ (le_add_right _ _);unfold gu;rw[if_neg]
  .refine%[_,j,l,t',g',f,rfl,O|N.trans ?_];rw[Zd];exact P.append_right _
  .intro Y;have%[q,c|e]:=Xq Y;have:=P.mem_iff.mpr (Xr %[q,c|rfl]);have%[i|hi]:=Xh this;exact d i q.1 q.2 (by simpa using hi) (tk q c) e
end
section
variable{prog:Program}{w:World}{κ:Type}[DecidableEq κ]{knd:PySem.KeyKind prog w κ}{A:Around}{R:Result->Shared->Prop}{I:Addr}{fp wr:List Addr}{G:Array GenState->Array GenState->Prop}{n:Nat}{P:Nat->Value->Prop}{St:Nat->Shared->Prop}
theorem oH(W:WalksS prog w A.in1 I fp wr G n P St)(S:Addr)(r:S∉fp)(O:A.in1.units<cLine)(val:Nat->Addr×List κ)(t:∀i v,i<n->P i v->v= .ref (val i).1)(U:List (List κ))(hU:U.length<=999)(B:∀i,i<n->(val i).2∈U)(c:∀i,i<n->(val i).1≠S/\(val i).1∉wr)
 (Q:∀i,i<n->∀(s':Shared) (z:Bool->Shared->Prop) (T:ZD),IsTupleKey knd s'.heap (val i).2 (val i).1->z false s'->↥A.in1 (hashByValue 8 (.ref (val i).1)) z T s'):
 ∀(k i:Nat) (s:Shared),n-i=k->i<=n->St i s->mZ w knd S (ba ((List.range i).map val)) s.heap->(∀j,j<n->IsTupleKey knd s.heap (val j).2 (val j).1)->
  (∀s',Moved (S::wr) G s s'->mZ w knd S (ba ((List.range n).map val)) s'.heap->R (.ok (.ret .none)) s')->codeAny (model prog w) A (.builtin "set.update.loop" %[[.ref S,.ref I]|[]]) R s:=by
 have out:S∉wr:=λh=>r (W.sub _ h)
 have more:∀b∈wr,b∈S::wr:=λb u=>Zk _ u
 intro k
 induction k with
 | zero=>
   intro i s C hi st E tk d;have e:i=n:=by lia
   subst e;refine codeAny_builtin F.entry_set_update_loop ?_;rw[Around.under_plainId F.plain_set_update_loop _];show wpAny _ A.in1 (pyNext (.ref I)>>= _) _ _ s;refine Z2 (W.done s _ _ st λf l=>?_);show wpAny _ A.in1 (ret Value.none) _ _ f;exact Z3 (d f (l.mono more) (E.keep λo e=>l.heap S o out e))
 | succ k Y=>
   intro i s C hi st E tk d;have lt:i<n:=by lia
   refine codeAny_builtin F.entry_set_update_loop ?_;rw[Around.under_plainId F.plain_set_update_loop _];show wpAny _ A.in1 (pyNext (.ref I)>>= _) _ _ s;refine Z2 (W.item i s _ _ lt st λv f pv H l=>?_);obtain rfl:=t i v lt pv;have g:∀j,j<n->IsTupleKey knd f.heap (val j).2 (val j).1:=λj a=>lU (tk j a) λo e=>l.heap _ o (c j a).2 e
   have J:∀q∈ba ((List.range i).map val),IsTupleKey knd f.heap q.2 q.1:=λq hq=>by
    have%[j,a|rfl]:=Xq (bj _ q hq);exact g j (by have:=mem_range.mp a;lia)
   have room:(ba ((List.range i).map val)).length+1<=1000:=by
    have q:=nodup_sub (dw ((List.range i).map val)) (m:=U) λk C=>by
     have%[p,hp|rfl]:=Xq ((gA _ k).mp C);have%[j,a|rfl]:=Xq hp;exact B j (by have:=mem_range.mp a;lia)
    rw[Z6]at q
    lia
   refine Z2 (wpAny_holding (AU (p:=val i) O (E.keep (h':=f.heap) λo e=>l.heap S o out e) J (g i lt) room (λs' z=>Q i lt s' z _) λh2 b aa L M y=>Z3 %[plainId_quiet F.plain_set_update_loop _|Y (i+1) _ ⋯ lt (W.frame _ f _ _ H y λb u o e=>?_) (by rw[rC];exact M) (λj a=>lU (g j a) λo e=>(L.2 _ (c j a).1)▸e) λs3 m3 N=>?_]))
   .rw[L.2 b (λq:b=S=>r (q▸u))];exact e
   .refine d s3 (Moved.trans W.gtrans ((l.mono more).then_heap y λb o u e=>?_) m3) N;rw[L.2 b (λq:b=S=>u (q▸Zm))];exact e
end
section
variable{prog:Program}{w:World}{κ:Type}[DecidableEq κ]{knd:PySem.KeyKind prog w κ}{A:Around}{E:ZD}{s:Shared}
theorem oJ(hh:A.handled=none)(hu:A.units+16<cLine)(hl:s.heap.IsList l a)(hi:a.toList=ps.map λp=>Value.ref p.1)(tk:∀p∈ps,IsTupleKey knd s.heap p.2 p.1)(U:List (List κ))(hU:U.length<=999)(aa:∀p∈ps,p.2∈U)
 (hv:∀p∈ps,∀(B:Around) (s':Shared) (O:Bool->Shared->Prop) (E':ZD),IsTupleKey knd s'.heap p.2 p.1->O false s'->↥B (hashByValue 8 (.ref p.1)) O E' s')
 (hQ:∀(h':Heap) (tk:Nat),mZ w knd ⇑s (ba ps) h'->(∀b o,s.heap.get? b=some o->h'.get? b=some o)->Q (.ref ⇑s) {s with heap:=h',toks:=tk}):
 ↥A (call (.type "set") [.ref l]) Q E s:=by
 have%[c,tl|a2]:=called_set.mro;have ab:=called_set.made;have a3:=called_set.sub;refine wpAny_call (codeAny_of_tree ?_);show wpAny _ _ (callAny (.type "set") _) _ _ _;refine Z3 %[Code.quiet_builtin _ (by decide +kernel)|codeAny_builtin F.entry_type_call ?_];rw[Around.under_plain (weight_type_call_type "set" [.ref l] []) rfl];have a5:=called_set.notType;have a6:=called_set.canCreate;have a7:=PySem.F.typeCall_set_1 (.ref l)
 repeat any_goals first|assumption|wp_step
 refine codeAny_mono (sZ (.ref l) (E:=E) (Q₁:=λobj q=>obj= .ref ⇑s/\q=(s>>>s.heap.push (aT w))) %[rfl|rfl]) λr q C=>?_
 cases r with
 | error e=>exact C
 | ok fl=>
   cases fl with
   | ret obj=>
     have%[rfl|rfl]:=C;have gS:(s.heap.push (aT w)).get? ⇑s=some (aT w):=Zj _ rfl;have tS:Shared.TypeIs (s>>>s.heap.push (aT w)) (.ref ⇑s) "set":=%[_,gS|rfl]
     have bb:=called_set.init.lookup;have bc:=called_set.init.bind (.ref ⇑s)
     repeat any_goals first|assumption|wp_step
     refine codeAny_mono (codeAny_call_builtin (R:=wants (λr t=>r= .none/\∃h' tk,t={s with heap:=h',toks:=tk}/\mZ w knd ⇑s (ba ps) h'/\(∀b o,s.heap.get? b=some o->h'.get? b=some o)) E) called_set.init.plain F.entry_set_init (check_set_init_1 tS ?_)) λG t f=>?_
     .have%[ol,gl,cl,nl|dl]:=hl;have%[a4,y,ac|m]:=ol;simp only at cl dl;subst cl;subst dl;have ag:(s.heap.push (aT w)).get? l=some {cls:= .type "list",dict:=y,data:= .seq a nl,slots:=m}:=Z7 _ gl;have bf:=PySem.F.sub_list_set;have bl:=PySem.F.sub_list_frozenset;have bm:(Value.type "list"==Value.type "dict")=false:=by decide
      have H:(s.heap.push (aT w)).IsList l a:=%[_,ag,rfl,nl|rfl]
      unfold Builtin.«set.__init__»;unfold noKeywords;unfold Builtin.Frozenset.updateFrom
      generalize ah:pyIter=PI
      wp_walk
      subst ah;refine wpAny_pyIter_list H (Z2 (wpAny_runValue ?_));have I:l<⇑s:=Zv gl;have h3:A.in1.in1.in1.handled=none:=by simp[hh]
      have T:(s.heap.push (aT w)).objs.size=⇑s+1:=Zq ..;have ai:l≠(s.heap.push (aT w)).objs.size:=by rw[T];exact Zt (Yp I)
      have al:⇑s∉[(s.heap.push (aT w)).objs.size,l]:=by
       rw[T];simp only[Yx,X8,or_false,not_or];exact%[Zt (Yq _)|X2 I]
      have J:a.size=ps.length:=by rw[<-Zb,hi,Z6]
      have an:A.in1.in1.in1.units<cLine:=by simp only[Around.in1];lia
      have g:∀i,i<a.size->∃p∈ps,ps[i]? =some p/\ps.getD i (0,[])=p:=λi h=>by
       have h':i<ps.length:=by lia
       exact%[ps[i],Yd h',by simp[h']|by simp[Zc,h']]
      refine oH (knd:=knd) ((Walks.list h3 _ l ai a).toS) ⇑s al an (λi=>ps.getD i (0,[])) (λi v d as=>?_) U hU (λi d=>?_) (λi d=>?_) (λi d=>?_) (a.size-0) 0 _ ⋯ (Xg _)
       %[%[_,Zj _ rfl,rfl|rfl]|H.push _] %[_,#[],0,_,Z7 _ gS,%[rfl,rfl|rfl],rfl,IN.fresh 0 0 _|List.Perm.refl _] (λj d=>?_) ?_
      .have%[p,u,L|n]:=g i d;have:a.toList[i]? =some v:=by rw[getElem?_toList];exact as
       rw[hi,Zl,L]at this;show v= .ref (ps.getD i (0,[])).1;rw[n];exact(Za this).symm
      .have%[p,u,L|n]:=g i d;show(ps.getD i (0,[])).2∈U;rw[n];exact aa p u
      .have%[p,u,L|n]:=g i d;have%[po,_,_,pg|_]:=tk p u;have M:=Zv pg;show(ps.getD i (0,[])).1≠_/\(ps.getD i (0,[])).1∉_;rw[n];refine%[Zt M|?_];simp only[Yx,X8,or_false,T];exact Zt (Yp M)
      .have%[p,u,L|n]:=g i d;intro s' O E';show IsTupleKey knd s'.heap (ps.getD i (0,[])).2 (ps.getD i (0,[])).1->_->wpAny _ _ (hashByValue 8 (.ref (ps.getD i (0,[])).1)) _ _ _;rw[n];exact hv p u _ s' O E'
      .have%[p,u,L|n]:=g j d;show IsTupleKey knd _ (ps.getD j (0,[])).2 (ps.getD j (0,[])).1;rw[n];exact lU (tk p u) λo e=>Z7 _ (Z7 _ e)
      intro s3 Y S3;have C:(List.range a.size).map (λi=>ps.getD i (0,[]))=ps:=by
       rw[J];apply Y0
       .simp
       .intro i h1 h2;simp[Zc,h2]
      rw[C]at S3;have%[h',g',d',a0|a1]:=s3;have eg:g'=s.gens:=Y.gens;have ed:d'=s.drawn:=Y.drawn;have eo:a1=s.os:=Y.os;subst eg;subst ed;subst eo;refine Z3 ?_;show wpAny _ _ (ret Value.none) _ _ _;refine Z3 %[rfl,h',a0,rfl,S3|λb o e=>?_];have N:=Zv e;refine Y.heap b o ?_ (Z7 _ (Z7 _ e));simp only[Yx,X8,or_false,not_or,T];exact%[Zt N|Zt (Yp N)]
     .cases G with
      | error e=>exact f
      | ok z=>
        cases z with
        | ret r=>
          have%[rfl,h',tk,rfl,S3|k3]:=f
          repeat any_goals first|assumption|wp_step
          exact hQ _ _ S3 k3
        | _=>exact f.elim
   | _=>exact C.elim
end
open PySem PySem.Spec PyProof.Rows
section
variable{prog:Program}{w:World}{A:Around}{s:Shared}
theorem iX{a:Addr}{vs:ZF}{n:Nat}{kd:SortKind}{Nv:Value->Nat}{P:Fin->Shared->Prop}{E:ZD}(B:s.heap.get? a=some (seqObj "list" vs.toArray n))(G:vs.length<=100000)
 (f:∀j:Heap,(∀b o,b≠a->s.heap.get? b=some o->j.get? b=some o)->2<=vs.length->∀Q:SortKind->Shared->Prop,Q kd (s>>>j)->↥A (keyKind' vs.toArray) Q E (s>>>j))
 (N:∀j:Heap,(∀b o,b≠a->s.heap.get? b=some o->j.get? b=some o)->SBig.Cmp prog w A (λs'=>s'=(s>>>j)) kd (λx=>x.1∈vs) (λx=>Nv x.1))
 (h:∀out:ZF,out.Perm vs->out.Pairwise (λx y=>Nv x<=Nv y)->P (.done (.ret .none)) (s>>>sortedHeap s.heap a vs out.toArray)):
 ↥A (Builtin.«list.sort» %[[.ref a]|[]]) P E s:=by
 rw[list_sort_plain];have J:a<⇑s:=Zv B;have g:vs.length<=sizeLine:=Yi G (by decide);refine Z2 (listItems_at B rfl ?_);refine Z2 (listUpdate_at B rfl ?_ (g));obtain⟨H,t⟩:∃H,(s.heap.update a (Obj.mapSeq λ_=> #[])).get? a=some (seqObj "list" #[] H):=%[_|get?_update_seq B (λ_=> #[])]
 refine Z2 (seqEpoch_at t rfl ?_);refine Z2 (wpAny_newTuple ?_ (g));refine Z2 (wpAny_newList ?_);refine wpAny_holding ?_;have keep:∀b o,b≠a->s.heap.get? b=some o->(((s.heap.update a (Obj.mapSeq λ_=> #[])).push (seqObj "tuple" vs.toArray 0)).push (seqObj "list" #[] 0)).get? b=some o:=λb o O e=>
  Z7 _ (Z7 _ ((get?_update_other _ _ (Ne.symm O)).trans e))
 have d:(((s.heap.update a (Obj.mapSeq λ_=> #[])).push (seqObj "tuple" vs.toArray 0)).push (seqObj "list" #[] 0)).get? a=some (seqObj "list" #[] H):=by
  rw[Heap.get?_push_ne _ _ _ (by rw[size_push',Heap.size_update];exact Zt (Yp J)),Heap.get?_push_ne _ _ _ (by rw[Heap.size_update];exact Zt J)];exact t
 have f:=f _ keep;show ↥A _ P E {s with heap:=((s.heap.update a (Obj.mapSeq λ_=> #[])).push (seqObj "tuple" vs.toArray 0)).push (seqObj "list" #[] 0)};dsimp only;have I:vs.toArray.size=vs.length:=by simp
 have u:(vs.toArray.zip vs.toArray).toList=vs.map λv=>(v,v):=by
  rw[Array.toList_zip,List.toList_toArray];apply Y0
  .simp
  .intro i h1 l;simp
 have z:∀c:SortSt,(arrOf c).toList.Perm (vs.map λv=>(v,v))->SBig.Srt (λx=>Nv x.1) (arrOf c).toList->P (.done (.ret .none)) (s>>>(sortedHeap s.heap a vs ((arrOf c).map (·.2)))):=by
  intro c m C;have L:∀x∈(arrOf c).toList,x.1=x.2:=λx p=>by
   have%[v,_|rfl]:=Xq (m.mem_iff.mp p);rfl
  have e:(arrOf c).map (·.2)=((arrOf c).toList.map (·.2)).toArray:=by
   apply Array.ext';simp
  rw[e];refine h _ ?_ ?_
  .have:=m.map (·.2);rwa[Yt,show((λx:Keyed=>x.2) ∘ λv:Value=>(v,v))=id from rfl,map_id]at this
  .rw[Xa];exact Xi (λ{x y} p T q=>by rw[<-L x p,<-L y T];exact q) C
 by_cases l:vs.toArray.size<2
 .rw[if_pos l,if_pos l];refine Z2 (Z3 ?_);rw[StateT.run_pure];refine Z2 (Z3 ?_);dsimp only;refine Z2 (seqEpoch_at d rfl (Z2 (listUpdate_at d rfl ?_ (hsz2:=by rw[size_map];show(pairsOf vs).size<=_;rw[pairsOf_size,sizeLine_eq];omega))));simp only[bne_self_eq_false,Y1,if_false];refine Z3 (z _ (by rw[u]) ?_);rw[u]
  match vs,I,l with
  |[],_,_=>exact List.Pairwise.nil
  |[v],_,_=>exact List.pairwise_singleton _ _
  | v1::v2::r,h3,U=>simp at U;omega
 .rw[if_neg l,if_neg l];refine Z2 (f (by omega) _ ?_);refine Z2 (wpAny_mono (SBig.sc_sortRuns (D:=λx=>x.1∈vs) (st:=SortSt.mk' kd (vs.toArray.zip vs.toArray) #[] 7 none) (N _ keep) (λx p=>?_) ?_ rfl rfl
   (Q:=λ_ c=>(arrOf c).toList.Perm (vs.map λv=>(v,v))/\failedOf c=none/\SBig.Srt (λx=>Nv x.1) (arrOf c).toList) (λc Y a2 a3=>%[?_,a3|a2]) _ rfl) ?_ λ_ _ e=>e.elim)
  .rw[u]at p;have%[v,hv|rfl]:=Xq p;exact hv
  .rw[<-Zb,u,Z6];omega
  .rwa[u]at Y
  .rintro⟨⟨⟩,c⟩ s' ⟨rfl,m,M,C⟩;dsimp only at m M C ⊢;refine Z2 (seqEpoch_at d rfl (Z2 (listUpdate_at d rfl ?_ (hsz2:=?_))))
   .rw[M];simp only[bne_self_eq_false,Y1,if_false];exact Z3 (z c m C)
   .rw[size_map,<-Zb,m.length_eq,Z6];exact Nat.le_succ_of_le g
end
noncomputable def a8(x y:Str):Bool:=decide (x.cps.toList<y.cps.toList)
noncomputable def db:ZB->ZB->Bool
 |[],[]=>false
 |[],_::_=>true
 | _::_,[]=>false
 | x::xs,y::ys=>if x=y then db xs ys else a8 x y
theorem e7(x:Str):a8 x x=false:=Zh (List.lt_irrefl _)
theorem Fp{x y:Str}(h:x.cps.toList=y.cps.toList):x=y:=by
 obtain⟨⟨l⟩⟩:=x
 simp_all
theorem fN{x y z:Str}(a:a8 x y=true)(b:a8 y z=true):a8 x z=true:=Zf (List.lt_trans (Zo a) (Zo b))
theorem dj{x y:Str}(h:a8 x y=false)(a:x≠y):a8 y x=true:=by
 exact Zf (Classical.byContradiction λb=>a (Fp (List.le_antisymm b (of_decide_eq_false h))))
theorem wR:∀x,db x x=false
 |[]=>rfl
 | x::xs=>by rw[db,if_pos rfl];exact wR xs
theorem iJ:∀{x y z:ZB},db x y=true->db y z=true->db x z=true
 |[],[],z,b,a=>by cases b
 |[],y::ys,[],b,a=>by cases a
 |[],y::ys,z::zs,b,a=>rfl
 | x::xs,[],z,b,a=>by cases b
 | x::xs,y::ys,[],b,a=>by cases a
 | x::xs,y::ys,z::zs,b,a=>by
   rw[db]at b a ⊢;by_cases d:x=y
   .rw[if_pos d]at b;subst d;by_cases c:x=z
    .rw[if_pos c]at a ⊢;exact iJ b a
    .rw[if_neg c]at a ⊢;exact a
   .rw[if_neg d]at b;by_cases c:y=z
    .rw[if_pos c]at a;subst c;rw[if_neg d];exact b
    .rw[if_neg c]at a;have f:=fN b a;rw[if_neg (λe=>by rw[e,e7]at f;cases f)];exact f
theorem kA:∀{x y:ZB},db x y=false->x≠y->db y x=true
 |[],[],a,c=>absurd rfl c
 |[],y::ys,a,c=>by cases a
 | x::xs,[],a,c=>rfl
 | x::xs,y::ys,a,c=>by
   rw[db]at a ⊢;by_cases b:x=y
   .rw[if_pos b]at a;rw[if_pos b.symm];exact kA a λe=>c (by rw[b,e])
   .rw[if_neg b]at a;rw[if_neg (Ne.symm b)];exact dj a b
noncomputable def fO(ks:List ZB)(k:ZB):Nat:=ks.countP λu=>db u k
theorem jO{ks:List ZB}{x y:ZB}(b:x∈ks):db x y=decide (fO ks x<fO ks y):=by
 have up:∀(l:List ZB) p q,(∀u∈l,p u=true->q u=true)->l.countP p<=l.countP q:=λl p q h=>List.countP_mono_left h
 cases h:db x y with
 | true=>
   symm
   refine Zf ?_;have c:∀l:List _,x∈l->l.countP (λu=>db u x)<l.countP (λu=>db u y):=by
    intro l
    induction l with
    | nil=>simp
    | cons u l d=>
      intro b;rw[countP_cons,countP_cons];have le:=up l (λu=>db u x) _ λu _ a=>iJ a h
      rcases mem_cons.mp b with e|e
      .subst e;rw[if_neg (by rw[wR];simp),if_pos h];omega
      .have:=d e;by_cases a:db u x=true
       .rw[if_pos a,if_pos (iJ a h)];omega
       .rw[if_neg a]
        split<;> omega
   exact c ks b
 | false=>
   symm
   refine Zh (Nat.not_lt.mpr (up ks _ _ λu _ a=>?_));by_cases e:x=y
   .exact e▸a
   .exact iJ a (kA h e)
section
variable{prog:Program}{w:World}{A:Around}{s:Shared}{E:ZD}
abbrev yl(prog:Program)(w:World)(h:Heap)(zs:ZB)(r:Addr):Prop:=IsTupleKey (aQ prog w) h (zs.map Sum.inr) r
theorem fP:∀{zs:ZB} {vs:ZF},ItemsAre (aQ prog w) (zs.map Sum.inr) vs->StrsAre vs zs
 |[],_,h=>by cases h;exact .nil
 | z::zs,_,h=>by
   cases h with
   | cons a d=>
     have a:jt (Sum.inr z) _=true:=a;rcases bi a with⟨i,t,b,c⟩|⟨y,t,b,c⟩
     .cases b
     .cases b;subst c;exact .cons z t (fP d)
theorem Dy{b a:Bool}{Q:Bool->Shared->Prop}:∀(x y:ZB) (vs us:ZF) (i:Nat),StrsAre vs x->StrsAre us y->(x.length=y.length)->a=false->Q (db x y) s->PySem.W.KatLex prog w A b a Q (vs.zip us) i s
 |[],[],_,_,i,.nil,.nil,_,c,h=>c▸h
 | x::xs,y::ys,_,_,i,.cons _ t d,.cons _ u f,g,c,h=>by
   rw[List.zip_cons_cons];refine PySem.W.kat_cons (eqBool_str ?_);rw[db]at h;by_cases e:x=y
   .subst e;rw[if_pos rfl]at h;rw[beq_self_eq_true];exact PySem.W.kat_yes (Dy xs ys _ _ _ d f (by simpa using g) c h)
   .rw[if_neg e]at h;rw[beq_eq_false_iff_ne.mpr e];refine PySem.W.kat_no ?_;cases j:(b&&i==0)with
    | true=>exact oneLt_str h
    | false=>exact PySem.W.kat_one _ _ (lt_str h)
theorem CT{x y:ZB}{r q:Addr}{Q:Bool->Shared->Prop}{b:Bool}(d:yl prog w s.heap x r)(e:yl prog w s.heap y q)(f:x.length=y.length)(h:Q (db x y) s):↥A (keyLt' (tuples' b) (.ref r) (.ref q)) Q E s:=by
 have%[ox,xs,nx,g,_,i|j]:=d;have%[o,ys,p,l,_,m|n]:=e;have a:=fP j;have c:=fP n;refine PySem.W.kat_lt g i l m (Dy x y _ _ 0 a c f ?_ h);have t:=bw a;have u:=bw c
 grind
end
theorem tR [DecidableEq d][DecidableEq i](g:d->i)(j:∀a b,g a=g b->a=b)(l:List (Addr×d)):ba (l.map λp=>(p.1,g p.2))=(ba l).map λp=>(p.1,g p.2):=by
 have m:∀(l ps:List _),(l.map λp=>(p.1,g p.2)).foldl gu (ps.map λp=>(p.1,g p.2))=(l.foldl gu ps).map λp=>(p.1,g p.2):=by
  intro l
  induction l with
  | nil=>intro ps;rfl
  | cons p l n=>
    intro ps;rw[Ys,Y8,Y8];have e:gu (ps.map λp=>(p.1,g p.2)) (p.1,g p.2)=(gu ps p).map λp=>(p.1,g p.2):=by
     unfold gu;have f:(g p.2∈(ps.map λp=>(p.1,g p.2)).map (·.2))↔p.2∈ps.map (·.2):=by
      rw[Yt]
      constructor
      .intro h;have%[q,c|e]:=Xq h;exact Xr %[q,c|j _ _ e]
      .intro h;have%[q,c|e]:=Xq h;exact Xr %[q,c|by show g q.2=g p.2;rw[e]]
     by_cases h:p.2∈ps.map (·.2)
     .rw[if_pos h,if_pos (f.mpr h)]
     .rw[if_neg h,if_neg (λz=>h (f.mp z)),Zd];rfl
    rw[e];exact n _
 exact m l []
noncomputable abbrev GC(p:Addr×ZB):Addr×List Key:=(p.1,p.2.map Sum.inr)
theorem rD:∀a b:ZB,a.map (Sum.inr:Str->Key)=b.map Sum.inr->a=b
 |[],[],_=>rfl
 |[],_::_,h=>by cases h
 | _::_,[],h=>by cases h
 | x::xs,y::ys,h=>by
   injection h with c d
   injection c with e
   rw[e,rD xs ys d]
section
#where
variable{S:Addr}
theorem m7:∀{vs:ZF} {zs:ZB},StrsAre vs zs->ItemsAre (aQ prog w) (zs.map Sum.inr) vs
 | _,_,.nil=> .nil
 | _,_,.cons x t h=> .cons (df x t) (m7 h)
theorem CU(c:zs≠[])(b:yl prog w s.heap zs r)(h:Q false s):↥A (hashByValue 8 (.ref r)) Q E s:=by
 have d:=b.typeIs;have%[o,a,n,e,_,f|hi]:=b;refine Z2 (wpAny_specialOf d F.slot_tuple_hash.lookup (Z2 (wpAny_seqItems e f (Z2 ?_))));rw[<-forIn_toList]
 match zs,a.toList,(fP hi),c with
 | z::zs,_,.cons _ t g,_=>
   exact Z2 (Z2 (Z3 (Z3 (Z3 (Z3 h)))))
noncomputable def kOf(ps:ZG):Value->ZB
 | .ref r=>((ps.find? λp=>p.1==r).map (·.2)).getD []
 | _=>[]
noncomputable def aOf:Value->Addr
 | .ref r=>r
 | _=>0
theorem m8(J:∀(E1:ZD) (R:ZF->Shared->Prop),(∀c vs,vs.Perm (ps.map λp=>Value.ref p.1)->(∀b o,s.heap.get? b=some o->c.heap.get? b=some o)->c.gens=s.gens->c.os=s.os->R vs c)->↥A.in1 (collect (.ref S)) R E1 s)(tk:∀p∈ps,yl prog w s.heap p.2 p.1)(U:∀p∈ps,p.2.length=m)(m0:m≠0)(ai:ps.length<=1000)
 (hQ:∀(c s':Shared) (l:Addr) (ss:ZG) (n:Nat),ss.Perm ps->ss.Pairwise (λa b=>db b.2 a.2=false)->(∀b o,s.heap.get? b=some o->c.heap.get? b=some o)->c.gens=s.gens->c.os=s.os->(∀b o,c.heap.get? b=some o->s'.heap.get? b=some o)->s'.gens=c.gens->s'.os=c.os->⇑c<=l->s'.heap.get? l=some {cls:= .type "list",data:= .seq (ss.map λp=>Value.ref p.1).toArray n}->Q (.ref l) s'):
 ↥A (call (.builtin "sorted") [.ref S]) Q E s:=by
 have j:∀p∈ps,kOf ps (.ref p.1)=p.2:=λp d=>by
  show((ps.find? λq=>q.1==p.1).map (·.2)).getD []=p.2;cases r:ps.find? λq=>q.1==p.1 with
  | none=>
    have:=List.find?_eq_none.mp r p d;simp at this
  | some q=>
    have B:=List.mem_of_find?_eq_some r;have e:q.1=p.1:=by have:=List.find?_some r;simpa using this
    show q.2=p.2;have t1:=tk q B;rw[e]at t1;exact rD _ _ (t1.inj (tk p d))
 refine Calls.call_function_entry kind_sorted plain_sorted entry_sorted (args_sorted1 _) ?_;unfold Builtin.«sorted»;refine Z2 (m:=checkCount "sorted" 1 1 _) (Z3 ?_);refine Z2 (J _ _ λc vs Y k1 g1 o1=>?_);have hl:vs.length=ps.length:=by rw[Y.length_eq,Z6]
 have mem:∀v∈vs,∃p∈ps,v=Value.ref p.1:=λv C=>by
  have%[p,d|rfl]:=Xq (Y.mem_iff.mp C);exact%[p,d|rfl]
 refine Z2 (wpAny_newList ?_ (by rw[sizeLine_eq];lia));have gL:(c.heap.push (seqObj "list" vs.toArray 0)).get? ⇑c=some (seqObj "list" vs.toArray 0):=Zj _ rfl;have G:∀p∈ps,∀i:Heap,(∀b o,b≠⇑c->(c.heap.push (seqObj "list" vs.toArray 0)).get? b=some o->i.get? b=some o)->yl prog w i p.2 p.1:=λp d i I=>by
  refine lU (tk p d) λo e=>?_
  have L:=k1 _ _ e;exact I _ _ (Zt (Zv L)) (Z7 _ L)
 refine Z2 (wpAny_holding (wpAny_call_entry slot_list_sort %[_,gL|rfl] entry_list_sort (iX (s:=(c>>>c.heap.push (seqObj "list" vs.toArray 0))) (kd:=tuples' true) (Nv:=λv=>fO (ps.map (·.2)) (kOf ps v)) gL ⋯ (λi I al Q6 aa=>?_) (λi I=>?_) λout p1 p2=>%[_,rfl|?_]) (args_list_sort _)))
 .have tups:∀l:ZF,(∀v∈l,∃p∈ps,v=Value.ref p.1)->∃fs:ZF,KatTups i l fs/\fs.length=l.length/\∀f∈fs,∃z t,f=Value.str z t:=by
   intro l
   induction l with
   | nil=>intro _;exact%[[],KatTups.nil,rfl|λf r=>by cases r]
   | cons v l ih=>
     intro C;have%[fs,f1,f2|f3]:=ih λu hu=>C u (Zk _ hu)
     have%[p,d|rfl]:=C v Zm;have%[o',g,n',g',c',d'|i']:=G p d i I;have h:=fP i';have ab:p.2≠[]:=λe=>by have:=U p d;rw[e]at this;exact m0 this.symm
     obtain⟨z,zs,ez⟩:∃z zs,p.2=z::zs:=by
      cases ac:p.2 with
      | nil=>exact absurd ac ab
      | cons z zs=>exact%[z,zs|rfl]
     rw[ez]at h;obtain⟨t',vr,ev⟩:∃t' vr,g.toList=Value.str z t'::vr:=by
      cases M:g.toList with
      | nil=>rw[M]at h;cases h
      | cons a b=>
        rw[M]at h;cases h with
        | cons _ t' _=>exact%[t',b|rfl]
     have e0:g[0]? =some (Value.str z t'):=by
      have:g.toList[0]? =some (Value.str z t'):=by rw[ev];rfl
      simpa using this
     exact⟨Value.str z t'::fs,KatTups.cons g' c' d' e0 f1,by simp[f2],λf r=>by
      rcases mem_cons.mp r with e|e
      .exact%[z,t'|e]
      .exact f3 f e⟩
  have%[fs,f1,f2|f3]:=tups vs mem;refine PySem.W.kat_kind (T:= .type "str") f1 ⋯ (λf r=>?_) (by decide) aa;have%[z,t'|rfl]:=f3 f r;exact Looks.of_pure rfl
 .intro x y s' hx hy h;subst h;have%[p,d|ag]:=mem _ hx;have%[q,B|ah]:=mem _ hy;have%[x1|x2]:=x;have%[y1|y2]:=y;obtain rfl:x1=Value.ref p.1:=ag;obtain rfl:y1=Value.ref q.1:=ah;show ↥A.in1.in1 (keyLt' (tuples' true) (Value.ref p.1) (Value.ref q.1)) (λb s'=>b=decide (fO (ps.map (·.2)) (kOf ps (Value.ref p.1))<fO (ps.map (·.2)) (kOf ps (Value.ref q.1)))/\s'=(c>>>i)) (λ_ _=>False) (c>>>i);rw[j p d,j q B];refine CT (s:=(c>>>i)) (G p d i I) (G q B i I) (by rw[U p d,U q B]) %[?_|rfl];exact jO (Xr %[p,d|rfl])
 .have O:out.Perm (ps.map λp=>Value.ref p.1):=p1.trans Y;have oe:out=(out.map λv=>(aOf v,kOf ps v)).map λp=>Value.ref p.1:=by
   rw[Yt];refine(map_id out).symm.trans (Yr λv C=>?_);have%[p,d|rfl]:=Xq (O.mem_iff.mp C);rfl
  obtain⟨n,gl⟩:∃n,(sortedHeap (c.heap.push (seqObj "list" vs.toArray 0)) ⇑c vs out.toArray).get? ⇑c=some (seqObj "list" out.toArray n):=sortedHeap_at gL;refine Z3 %[_,rfl|hQ c _ ⇑c (out.map λv=>(aOf v,kOf ps v)) n ?_ ?_ k1 g1 o1 (λb o' L=>?_) rfl rfl (Zi _) ?_]
  .have:=O.map λv=>(aOf v,kOf ps v)
   rw[Yt]at this;refine this.trans ?_;have:(ps.map ((λv=>(aOf v,kOf ps v)) ∘ λp=>Value.ref p.1))=ps:=by
    refine(Yr λp d=>?_).trans (map_id ps);show(p.1,kOf ps (.ref p.1))=p;rw[j p d]
   rw[this]
  .rw[Xa];refine Xi (λ{u v} hu C H=>?_) p2;have%[p,d|rfl]:=Xq (O.mem_iff.mp hu);have%[q,B|rfl]:=Xq (O.mem_iff.mp C);show db (kOf ps (.ref q.1)) (kOf ps (.ref p.1))=false;have H:fO (ps.map (·.2)) (kOf ps (.ref p.1))<=fO (ps.map (·.2)) (kOf ps (.ref q.1)):=H;rw[j p d,j q B]at H ⊢;rw[jO (ks:=ps.map (·.2)) (Xr %[q,B|rfl])];exact Zh ⋯
  .have N:=Zv L;show(sortedHeap _ _ _ _).get? b=_;rw[sortedHeap_old (Zt N) (by rw[Zq];exact Yp N)];exact Z7 _ L
  .have e3:(seqObj "list" out.toArray n)=({cls:= .type "list",data:= .seq ((out.map λv=>(aOf v,kOf ps v)).map λp=>Value.ref p.1).toArray n}:Obj):=by
    rw[(congrArg List.toArray oe.symm)]
   exact gl.trans (congrArg some e3)
end
section
variable{X:Cx}{K:ZA}
noncomputable def m9(P:Program)(w:World)(a:Addr)(ps:ZG):HO:= .ext (mZ w (aQ P w) a (ps.map GC))
def aE(H:Hp)(ps:ZG):Prop:=∀p∈ps,p.2≠[]/\H p.1=some (.tup (p.2.map V.str))
theorem rE(I:Inv X pins f H s)(h:aE H ps):∀p∈ps,yl X.prog X.w s.heap p.2 p.1:=λp a=>by
 have%[_,its,b,o,c,d,n|e]:=I.hok p.1 _ (h p a).2;exact%[o,its.toArray,n,c,d,e|m7 (f9 b)]
theorem rF:∀{ps:ZG} {us:ZF},aC (ps.map λp=>V.ref p.1) us->us=ps.map λp=>Value.ref p.1
 |[],_,.nil=>rfl
 | _::_,_,.cons r t=>by
   cases r;rw[rF t];rfl
theorem rG:∀(ps:ZG),aC (ps.map λp=>V.ref p.1) (ps.map λp=>Value.ref p.1)
 |[]=> .nil
 | _::ps=> .cons rfl (rG ps)
theorem ym(j:X.calm=true)(C:X.A.units+64<cLine):bX X (.type "set") (λxs H Q=>∃p ps,xs=[.ref p]/\SqL X.K H p (ps.map λq=>V.ref q.1)/\aE H ps/\(∃U:List _,U.length<=999/\∀q∈ps,q.2∈U)/\∀l,H l=none->Q (.ref l) (upd H l (m9 X.prog X.w l (ba ps)))):=by
 intro pins s E H xs us Q I r h;have%[p,ps,rfl,m,g,%[U,G|d]|q]:=h;have%[u,rfl|n]:=cV r;cases n;have%[its,t,pl|J]:=I.list m;have v:=rF t;refine oJ (knd:=aQ X.prog X.w) (I.ok.hd j) ⋯ pl.isList (ps:=ps.map GC) (by simp_all) (λi a=>?_) (U.map λz=>z.map Sum.inr) (by simp_all) (λi a=>?_) (λi a B s' L M e f=>?_) λh' w S k=>?_
 .have%[b,c|rfl]:=Xq a;exact(rE I g) b c
 .have%[b,c|rfl]:=Xq a;exact Xr %[b.2,d b c|rfl]
 .have%[b,c|rfl]:=Xq a;exact CU (g b c).1 e f
 .rw[(tR _ rD ps)]at S;refine%[.ref ⇑s,_,I.laid (o:=m9 X.prog X.w ⇑s _) k (Zi _) %[S,?_|λN O y k1=>mZ.keep y k1],rfl|q _ I.fresh];have%[o,_,_,_,A|_]:=S;exact%[o|A]
theorem rH(w:X.calm=true):bX X (.builtin "sorted") (λxs H Q=>∃a ps m,xs=[.ref a]/\H a=some (m9 X.prog X.w a ps)/\aE H ps/\(∀p∈ps,p.2.length=m)/\m≠0/\ps.length<=1000/\
 ∀l (ss:List _),H l=none->ss.Perm ps->ss.Pairwise (λa b=>db b.2 a.2=false)->Q (.ref l) (upd H l (.lst (ss.map λp=>V.ref p.1)))):=by
 intro pins s T H xs us Q I r h;have%[a,ps,m,rfl,y,z,A,B,d|q]:=h;have%[u,rfl|C]:=cV r;cases C;have%[%[o,e,U,t,E,f,G,J|P],_|_]:=(I.hok a _ y)
 have Y:e.size=ps.length:=by
  have:=P.length_eq
  simp_all
 have pv:(e.toList.map (·.2)).Perm (ps.map λp=>Value.ref p.1):=by
  have:=P.map (·.2);rw[Yt,Yt]at this;exact this
 refine m8 (λE1 R L=>jG (I.ok.hd w) E f G (by show e.size<4096;lia) J.fits J.plain J.led λj vs M k1 g1 i _=>L j vs (M.trans pv) k1 g1 i) (rE I z) A B d λj s' l ss n v N k1 g1 i k g o c O=>?_
 have I:=I.keptS k1 g1 i;refine%[.ref l,_,I.stoodS (o:= .lst _) (I.keptS k g o) c %[?_,ss.map _,n,rG ss|O],rfl|q l ss (I.hok.fresh c) v N];rw[Z6,v.length_eq,sizeLine_eq]
 lia
theorem AV{P:Program}(h:X.K=K)(c:X.prog=P)(hw:X.w=w)(a:X.calm=true)(b:bB k X.A):cr X (.type "set") (λxs H Q=>∃p ps,xs=[.ref p]/\SqL K H p (ps.map λq=>V.ref q.1)/\aE H ps/\(∃U:List ZB,U.length<=999/\∀q∈ps,q.2∈U)/\∀l,H l=none->Q (.ref l) (upd H l (m9 P w l (ba ps)))):=by
 subst h;subst hw;exact⟨ym a b.units⟩
theorem pU{P:Program}(d:X.prog=P)(hw:X.w=w)(c:X.calm=true):cr X (.builtin "sorted") (λxs H Q=>∃a ps m,xs=[.ref a]/\H a=some (m9 P w a ps)/\aE H ps/\(∀p∈ps,p.2.length=m)/\m≠0/\ps.length<=1000/\
 ∀(l:Addr) (ss:ZG),H l=none->ss.Perm ps->ss.Pairwise (λa b=>db b.2 a.2=false)->Q (.ref l) (upd H l (.lst (ss.map λp=>V.ref p.1)))):=by
 subst hw;exact⟨rH c⟩
end
noncomputable def yn(K:ZA)(a b:Addr):It:=⟨λi H=>∃xs ys x y,SqL K H a xs/\SqL K H b ys/\xs[i]? =some x/\ys[i]? =some y,
 λi H v c=>∃T x y,H T=none/\v= .ref T/\c=upd H T (.tup [x,y])/\(∀xs,SqL K H a xs->xs[i]? =some x)/\(∀ys,SqL K H b ys->ys[i]? =some y),
 λi H=>∃xs ys,SqL K H a xs/\SqL K H b ys/\i<=xs.length/\i<=ys.length/\(i=xs.length\/i=ys.length)⟩
theorem yo{P:Program}{K:ZA}(z TI TO i1 i2 l1 l2:Addr)(D:ZipApart z TI TO i1 i2 l1 l2):
 qx P w K (.Tuple elts kt tp) (yn K l1 l2) [z,TI,TO,i1,i2] z (ZSt z TI TO i1 i2 (λi h=>h.IsListIter i1 l1 i) (λi h=>h.IsListIter i2 l2 i)) where
 mem:=by simp
 obj:=λi h st b hb=>by
  have%[hz,hTI,%[a,c|hTO],%[o1,e1,_|d1],o2,e2,_|d2]:=st
  grind
 keep:=λi h h' st k=>by
  have%[hz,hTI,%[a,c|hTO],%[o1,e1|r1],o2,e2|r2]:=st;exact%[k z ∅ _ hz,k TI ∅ _ hTI,%[a,c|k TO ∅ _ hTO],%[o1,k i1 ∅ _ e1|r1],o2,k i2 ∅ _ e2|r2]
 item:=by
  intro X hP hw hK hc i pins s σ H E I hf st hg;subst hP hw hK;have%[hz,hTI,%[a,c|hTO],h1|h2]:=st;have%[xs,ys,x,y,hq1,hq2,hx|hy]:=hg;have%[its1,rv1,pl1|hz1]:=I.list hq1;have%[its2,rv2,pl2|hz2]:=I.list hq2;have%[u1,hu1|ru1]:=rv1.get hx;have%[u2,hu2|ru2]:=rv2.get hy;refine wpAny_pyNext_zip_item D hz hTI hTO h1 h2 pl1.isList pl2.isList (x:=u1) (y:=u2) (by simpa using hu1) (by simpa using hu2) λh' a1 a2 a3 a4 a5 a6 hk=>%[_,rfl|wpAny_letOwnedTupleGo_zip (s:=(s>>>h')) a1 λh'' hz'' sb=>?_]
  replace sb:SameBut z h' h'':=sb;have turn1:Inv X pins σ H (s>>>h''):=by
   have nit:∀b v,H b=some v->b∉[z,TI,TO,i1,i2]:=λb v e hb=>by rw[(hf b hb).1]at e;cases e
   have kk:∀b o,b∉[z,TI,TO,i1,i2]->s.heap.get? b=some o->h''.get? b=some o:=λb o hb e=>by
    simp only[Yx,X8,or_false,not_or]at hb;exact(sb.2 b hb.1).trans (hk b o hb.1 hb.2.2.1 hb.2.2.2.1 hb.2.2.2.2 e)
   refine I.step (g':=s.gens) (d':=s.drawn) (ch:=[z,TI,TO,i1,i2]) (λb hb=>%[(hf b hb).2.2.2.1,(hf b hb).2.1,(hf b hb).2.2.2.2.1|(hf b hb).2.2.2.2.2]) (λb o _ _ hc e _=>kk b o hc e) (λb o _ _ hc e _=>%[o.slots|kk b o hc e]) (λ_ _ _ _ n=>n)
    (λb o hc e=>%[o|kk b o hc e]) (λ_ _ e=>e) (λ_ _ _ e=>e) (λb ps e=>%[#[]|by rw[e];simp]) (λm hm=>?_) (λb v e=>?_) I.bare
   .have%[o,es,ep,ho|r]:=hm;exact%[o,es,ep,kk _ o (λhb=>(hf _ hb).2.1 rfl) ho|r]
   .refine(I.hok b v e).stay (λc' v' hc' q=>kk c' v' ?_ q) (λ_ q=>q) λ_ _ q=>q
    rcases hc' with q'|q'
    .exact q'▸nit b v e
    .exact nit c' _ q'
  have Hn:H ⇑s=none:=I.fresh;have I2:Inv X pins σ (upd H ⇑s (.tup [x,y])) (s>>>h''):=by
   have nf:⇑s∉X.fs:=I.nofs (Zi _);refine%[turn1.ok,turn1.os,turn1.bare,?_,turn1.loc,turn1.cell,?_,?_,?_,?_|turn1.len]
   .refine%[turn1.base.keep,turn1.base.slot,λb o e n hx=>?_,turn1.base.there,λb xs e=>?_,λb o v e=>?_|λb ps e=>?_]
    .rw[ao ((λb o e=>Zt (Zg (Zv e) I.sz)) b o e)];exact turn1.base.free b o e n hx
    .rw[ao (aw (turn1.base.tups b xs e) Hn)];exact turn1.base.tups b xs e
    .rw[ao (aw (turn1.base.frzs b o v e) Hn)];exact turn1.base.frzs b o v e
    .have%[m|q]:=turn1.base.tbls b ps e;exact%[m|(ao (aw q Hn))▸q]
   .rw[ao (Zt I.lt)];exact turn1.free
   .intro x' c' e;have%[v'|q]:=I.cell x' c' e;rw[ao (Zt q.lt)];exact turn1.freeC x' c' e
   .intro p hp;have%[e,n|r]:=turn1.pin p hp;refine%[e,?_|r];rw[ao (Zt (Zv (I.pin p hp).1))];exact n
   .intro b v e;by_cases hb:b=⇑s
    .subst hb;rw[ae]at e;cases e;exact%[by show 2<=sizeLine;decide,[u1,u2],.cons ru1 (.cons ru2 .nil),_,((sb.2 _ (X2 (Zv hz))).trans a5),rfl,_|rfl]
    .rw[ao hb]at e;refine(turn1.hok b v e).stay (λ_ _ _ q=>q) (λc' q=>?_) λc' xs q=>?_
     .rw[ao (aw q Hn)];exact q
     .rw[ao (aw q Hn)];exact q
  refine%[.ref ⇑s,_,I2,rfl,%[_,x,y,Hn,rfl,rfl,λzs hzs=>(I.list_inj hzs hq1)▸hx|λzs hzs=>(I.list_inj hzs hq2)▸hy],%[hz'',(sb.2 _ D.TIz).trans (hk _ _ D.TIz D.TITO D.TIi1 D.TIi2 hTI),%[_,_|(sb.2 _ D.TOz).trans a2],?_|?_]|λb hb=>?_]
  .have%[o,e|r]:=a3;exact%[o,(sb.2 _ D.i1z).trans e|r]
  .have%[o,e|r]:=a4;exact%[o,(sb.2 _ D.i2z).trans e|r]
  .have:b<⇑s:=by
    simp only[Yx,X8,or_false]at hb;have%[o1,q1|_]:=h1;have%[o2,q2|_]:=h2;rcases hb with rfl|rfl|rfl|rfl|rfl
    .exact Zv hz
    .exact Zv hTI
    .exact Zv hTO
    .exact Zv q1
    .exact Zv q2
   rw[ao (Zt this)];exact(hf b hb).1
 done:=by
  intro X hP hw hK hc i pins s σ H E I hf st hg;subst hP hw hK;have%[hz,hTI,%[a,c|hTO],h1|h2]:=st;have%[xs,ys,hq1,hq2,g1,g2|g3]:=hg;have%[its1,rv1,pl1|hz1]:=I.list hq1;have%[its2,rv2,pl2|hz2]:=I.list hq2;have n1:=rv1.length;have n2:=rv2.length;refine wpAny_pyNext_zip_end (I.ok.hd hc) D hz hTI hTO h1 h2 pl1.isList pl2.isList (by
   rcases g3 with q|q
   .exact .inl (by simp;lia)
   .exact .inr (by simp;lia)) λh' hk=>%[rfl|?_]
  have nit:∀b v,H b=some v->b∉[z,TI,TO,i1,i2]:=λb v e hb=>by rw[(hf b hb).1]at e;cases e
  have kk:∀b o,b∉[z,TI,TO,i1,i2]->s.heap.get? b=some o->h'.get? b=some o:=λb o hb e=>by
   simp only[Yx,X8,or_false,not_or]at hb;exact hk b o hb.1 hb.2.2.1 hb.2.2.2.1 hb.2.2.2.2 e
  refine I.step (λb hb=>%[(hf b hb).2.2.2.1,(hf b hb).2.1,(hf b hb).2.2.2.2.1|(hf b hb).2.2.2.2.2]) (λb o _ _ hc e _=>kk b o hc e) (λb o _ _ hc e _=>%[o.slots|kk b o hc e]) (λ_ _ _ _ n=>n)
   (λb o hc e=>%[o|kk b o hc e]) (λ_ _ e=>e) (λ_ _ _ e=>e) (λb ps e=>%[#[]|by rw[e];simp]) (λm hm=>?_) (λb v e=>?_) I.bare
  .have%[o',es,ep,ho'|r]:=hm;exact%[o',es,ep,kk _ o' (λhb=>(hf _ hb).2.1 rfl) ho'|r]
  .refine(I.hok b v e).stay (λc' v' hc' q=>kk c' v' ?_ q) (λ_ q=>q) λ_ _ q=>q
   rcases hc' with q'|q'
   .exact q'▸nit b v e
   .exact nit c' _ q'
 self:=λ_ _ _ _ _ st h=>wpAny_pyIter_zip st.1 h
def Dz(K:ZA)(d:TA):TI:=λe H R=>d e H λvs c=>∃a b,vs=[.ref a,.ref b]/\(∃xs,SqL K c a xs)/\(∃ys,SqL K c b ys)/\R (yn K a b) c
section
variable{X:Cx}{K:ZA}{pos:Pos}
theorem GD(G:X.K=K){J p:Pos}{a b:Expr}{z:TA}(L:Gl X "zip")(M:X.mg "zip"=none)(N:aW a=false)(m:aW b=false)(O:QA X [a,b] z):
 QI X (.Tuple A kt J) (.Call (.Name "zip" p) [a,b] [] pos) (Dz K z):=by
 subst G
 constructor
 intro pins s Q H R I h;refine Call_ (i8 I L M boot_zip (PyProof.Rows.callWith_type1 (thP (O.h pos pins s Q H _ I h) λus c vs T d U Y=>?_) (az N) (by rw[az m];rfl)));have%[n,r,e,%[xs|t],%[ys|u]|q]:=Y;subst e;have%[u1,u2,rfl,e1|e2]:=iT U;cases e1;cases e2;have%[B,aa,f|ab]:=d.list t;have%[its2,ac,g|ag]:=d.list u;refine call_zip_2 f.isList g.isList λh1 C v w hi1 hi2 _ hk=>wpAny_pyIter_zip C ?_
 have ne:∀i j,i≠j->⇑c+i≠⇑c+j:=λi j h e=>h (Nat.add_left_cancel e)
 have na:∀i,n≠⇑c+i:=λi=>Zt (Zg (by have%[o,y|_]:=f.isList;exact Zv y) (le_add_right _ _))
 have nb:∀i,r≠⇑c+i:=λi=>Zt (Zg (by have%[o,y|_]:=g.isList;exact Zv y) (le_add_right _ _))
 refine%[⇑c+4,[⇑c+4,⇑c+2,⇑c+3,⇑c+0,⇑c+1],_,yn X.K n r,T,rfl,(d.kept hk),
  yo _ _ _ _ _ n r %[ne 2 4 (by decide),ne 3 4 (by decide),ne 0 4 (by decide),ne 1 4 (by decide),ne 2 3 (by decide),ne 2 0 (by decide),ne 2 1 (by decide),ne 3 0 (by decide),ne 3 1 (by decide),ne 0 1 (by decide),na 4,na 3,na 0,na 1,nb 4,nb 3,nb 0|nb 1],
  %[C,v,%[_,_|w],hi1|hi2],λb E=>?_|q]
 have l:⇑c<=b:=by
  simp only[Yx,X8,or_false]at E;rcases E with rfl|rfl|rfl|rfl|rfl<;> exact le_add_right _ _
 exact d.fpOk l (d.hok.fresh l)
end
open PySem PySem.Spec PySem.Calls PyProof.Rows PyProof.V PySem.W
section
#where
variable{d it:Addr}{es:Array DictEntry}{ep i:Nat}
end
section
#where
variable{S:Addr}
end
section
variable{X:Cx}{K:ZA}
end
section
variable{X:Cx}
theorem li(c:bB k X.A)(d:swapsWith a (some (.Subscript o i b)) pos.line X.env=pure false)(e:QE X a f)(g:QE X o h)(hi:QE X i ty):QS X (.Assign [.Subscript o i b] a pos) (pA h ty f):=
 ⟨Ci (by have:=c.units;lia) g.h hi.h e.h d⟩
theorem yp [DecidableEq c](a:List (c×V))(k:c)(v:V):(dH a k v).map (·.1)=if k∈a.map (·.1)then a.map (·.1)else a.map (·.1) ++[k]:=by
 unfold dH;have e:(a.any λb=>decide (b.1=k))=true↔k∈a.map (·.1):=by
  grind
 by_cases h:k∈a.map (·.1)
 .rw[if_pos (e.mpr h),if_pos h,Yt];refine Yr λb _=>?_
  show(if b.1=k then(b.1,v)else b).1=b.1
  split<;> rfl
 .rw[if_neg (λz=>h (e.mp z)),if_neg h,Zd];rfl
end
structure tT (K:ZA) (mg:ZC) (x:Str):Prop where
 at_:mg x=some (.ref (aD mg x))
 cls:Cls K (aD mg x)
structure tU (K:ZA) (mg:ZC) (x m qual:Str) (st:Stmt) (ps:ZB):Prop where
 ex:∃f fd,B5 K (aD mg x) m f/\Fun K m qual st f fd/\cW K fd ps []
structure AW (K:ZA) (mg:ZC) (x qual:Str) (st:Stmt) (ps:ZB):Prop where
 ex:∃f fd,Mk K (aD mg x) f/\Fun K "__init__" qual st f fd/\cW K fd ps []
structure yq (P:Program) (w:World) (K:ZA) (mg:ZC) (base:Heap) (k:Nat) (x m:Str) (ps:ZB) (sp:Sp):Prop where
 ex:∃f fd,fC P w K mg base CX0 k f fd ps sp/\B5 K (aD mg x) m f/\cW K fd ps []
structure CV (P:Program) (w:World) (K:ZA) (mg:ZC) (base:Heap) (k:Nat) (x:Str) (ps:ZB) (sp:Sp):Prop where
 ex:∃f fd,fC P w K mg base CX0 k f fd ps sp/\Mk K (aD mg x) f/\cW K fd ps []
section
variable{P:Program}{w:World}{K:ZA}{mg:ZC}{base:Heap}{x m qual:Str}{st:Stmt}{N ps:ZB}{k:Nat}{sp:Sp}
theorem tU.cal(D:tU K mg x m qual st ps)(S:ax N ps (ak st))
 (a:∀(H:Hp) (vs:List V) (Q:VK) (E:XK),sp vs H Q E->vs.length=ps.length/\∀(f:Addr) (b:Value) (A:Around) (outer:List Env) (s:Shared),bB k (A.deeper (envOfC qual (ak st) ⇑s f b))->
  ∃t,PSs (eB CX0 P w K mg base N qual (ak st) f b A outer s H E).nox (bA st) t/\t {nx:=λ_ c=>Q .non c,rt:=Q} (start N vs) H):yq P w K mg base (k+1) x m ps sp:=by
 have%[f,d,e,F|g]:=D.ex;exact%[f,d,F.ok S (λv H Q E h=>(a H v Q E h).1) (λb A o s H v Q E r h=>(a H v Q E h).2 f b A o s r),e|g]
theorem AW.cal(D:AW K mg x qual st ps)(S:ax N ps (ak st))
 (a:∀(H:Hp) (vs:List V) (Q:VK) (E:XK),sp vs H Q E->vs.length=ps.length/\∀(f:Addr) (b:Value) (A:Around) (outer:List Env) (s:Shared),bB k (A.deeper (envOfC qual (ak st) ⇑s f b))->
  ∃t,PSs (eB CX0 P w K mg base N qual (ak st) f b A outer s H E).nox (bA st) t/\t {nx:=λ_ c=>Q .non c,rt:=Q} (start N vs) H):CV P w K mg base (k+1) x ps sp:=by
 have%[f,d,e,F|g]:=D.ex;exact%[f,d,F.ok S (λv H Q E h=>(a H v Q E h).1) (λb A o s H v Q E r h=>(a H v Q E h).2 f b A o s r),e|g]
end
section
variable{X:Cx}{K:ZA}{j k:Nat}{x m:Str}{ps:ZB}{sp:Sp}{p pos apos:Pos}{o e:Expr}{es:List Expr}{to te:TE}{t:TA}
theorem Fq(C:yq X.prog X.w X.K X.mg X.base j x m ps sp)(c:tT X.K X.mg x)(d:bB k X.A)(a:Nat.ble j k=true)
 (g:eval (.Call (.Attribute o m apos) [] [] pos) X.env=(do
  let b<-eval o X.env
  standAt apos.atName
  let(f,first)<-holding [b] (getMethod b m pl)
  callWith pos f first (backTo pos (starEach [] X.env)) (backToKw pos (keywordEach [] X.env)))) (h:QE X o to):QE X (.Call (.Attribute o m apos) [] [] pos) (wz (aD X.mg x) m sp [] E0 to xF):=by
 have%[f,n,F,i|l]:=C.ex;exact⟨zG h.h c.cls i F (d.mono (Yf a)) l .nil zT g⟩
theorem GE(C:CV X.prog X.w X.K X.mg X.base j x ps sp)(c:tT X.K X.mg x)(g:bB k X.A)(h:Gl X x)(a:Nat.ble (j+1) k=true)(b:(x==("__debug__"))=false)(d:(e::es).any aW=false)(i:QA X (e::es) t):
 QE X (.Call (.Name x p) (e::es) [] pos) (wA (aD X.mg x) sp [] E0 t):=by
 have%[f,q,F,l|n]:=C.ex;rw[Zy,X9]at d;exact⟨B7 l F (g.mono (Yf a)) h c.at_ n .nil zT i.h b (az d.1) (cY d.2)⟩
theorem Fr(h:X.K=K)(a:gc o=false)(b:QE X o to):QE X (.Attribute o f pos) (Ek K to f):=by
 subst h;exact⟨Em b.h (eX a)⟩
theorem CW(h:X.K=K)(c:eW a=false)(d:QE X o to)(g:QE X a i):QS X (.Assign [.Attribute o f b] a pos) (El K to i f):=by
 subst h;exact⟨En d.h g.h (ig c)⟩
end
structure GvT (K:ZA) (mg:ZC) (x:Str) (xs:List V):Prop where
 ex:∃a,mg x=some (.ref a)/\∀H,SqT K H a xs
theorem AX{K:ZA}{h:Heap}{o:Obj}{its:ZJ}{n:Nat}(X:K.In h)(G:h.Ns mainGlobals mg)(z:nsIn K mainGlobals x=some (some (.ref a)))
 (b:K.lookup a=some o) (c:o.cls= .type "tuple") (d:o.data= .seq its n) (e:its.size<=sizeLine) (r:aC xs its.toList):GvT K mg x xs:=
 %[a,mg_of X G z|λ_=> .inr %[o,its,n,b,c,d,e|r]]
theorem GF{X:Cx}{K:ZA}{x:Str}(h:X.K=K)(g:GvT K X.mg x xs)(b:Gl X x)(c:(x==("__debug__":Str))=false):QE X (.Name x pos) (λ_ H Q=>∀a,(∀d,SqT K d a xs)->Q (.ref a) H):=by
 have%[a,e|f]:=g.ex;refine⟨λpins s i H Q I q=>Dq (v:= .ref a) %[.ref a,e|rfl] b c pins s i H Q I (q a f)⟩
theorem tryN{X:Cx}(c:∀e s,X.xe e s->False)(d:QSs X a g):QS X (.Try a [h] [] [] pos) g:=by
 refine⟨λpins s i H D I q=>wpAny_Try_except (wpAny_mono (d.h pins s i H D I q) (λf b q=>?_) λe b q=>(c e b q).elim)⟩;cases f with
 | next=>exact wpAny_execs_nil q
 | brk=>exact q
 | cont=>exact q
 | ret u=>exact q
section
variable{X:Cx}{K:ZA}
end
theorem ng(x y:Str):db [x] [y]=a8 x y:=by
 show(if x=y then false else a8 x y)=a8 x y
 split
 .rename_i e;rw[e,e7]
 .rfl
section
#where
variable{S:Addr}
theorem lj{ks:ZB}{Q:ZD}(h:∀(T:ZD) (R:ZF->Shared->Prop),(∀c us f,StrsAre us f->f.Perm ks->(∀b o,s.heap.get? b=some o->c.heap.get? b=some o)->c.gens=s.gens->c.os=s.os->R us c)->↥A.in1 (collect (.ref S)) R T s)(i:ks.length<=1000)
 (U:∀(c s':Shared) (l:Addr) (vs:ZF) (ss:ZB) (n:Nat),StrsAre vs ss->ss.Perm ks->ss.Pairwise (λa b=>a8 b a=false)->(∀b o,s.heap.get? b=some o->c.heap.get? b=some o)->c.gens=s.gens->c.os=s.os->(∀b o,c.heap.get? b=some o->s'.heap.get? b=some o)->s'.gens=c.gens->s'.os=c.os->⇑c<=l->s'.heap.get? l=some {cls:= .type "list",data:= .seq vs.toArray n}->Q (.ref l) s'):
 ↥A (call (.builtin "sorted") [.ref S]) Q E s:=by
 refine Calls.call_function_entry kind_sorted plain_sorted entry_sorted (args_sorted1 _) ?_;unfold Builtin.«sorted»;refine Z2 (m:=checkCount "sorted" 1 1 _) (Z3 ?_);refine Z2 (h _ _ λc us f d q k1 g1 Y=>?_);have i:us.length<=1000:=by rw[bw d,q.length_eq];exact i
 refine Z2 (wpAny_newList ?_ (by rw[sizeLine_eq];omega));have G:(c.heap.push (seqObj "list" us.toArray 0)).get? ⇑c=some (seqObj "list" us.toArray 0):=Zj _ rfl;have e:∀v∈us,∃x t,v=Value.str x t/\[x]∈ks.map λz=>[z]:=λv g=>by
  have%[x,t|rfl]:=d.all v g;refine%[x,t,rfl|Xr %[x,q.mem_iff.mp ?_|rfl]];rw[<-d.strs];exact Xr %[_,g|rfl]
 refine Z2 (wpAny_holding (wpAny_call_entry slot_list_sort %[_,G|rfl] entry_list_sort (iX (s:=(c>>>c.heap.push (seqObj "list" us.toArray 0))) (kd:=oneType') (Nv:=λv=>fO (ks.map λz=>[z]) [strOf v]) G (by omega) (λH k6 I Q6 J=>?_) (λH k6=>?_) λout B p2=>%[_,rfl|?_]) (args_list_sort _)))
 .obtain⟨v1,C,r,rfl⟩:∃v1 C r,us=v1::C::r:=by
   match us,I with
   | v1::C::r,_=>exact%[v1,C,r|rfl]
  rw[keyKind_strs d];exact Z3 J
 .intro x y s' hx hy L;subst L;have%[x1|x2]:=x;have%[y1|y2]:=y;have%[a,t,rfl|M]:=e _ hx;have%[b,u,rfl|N]:=e _ hy;show ↥A.in1.in1 (keyLt' oneType' (.str a t) (.str b u)) (λr s'=>r=decide (fO (ks.map λz=>[z]) [a]<fO (ks.map λz=>[z]) [b])/\s'=(c>>>H)) (λ_ _=>False) (c>>>H);rw[keyLt'_oneType];refine oneLt_str %[?_|rfl];rw[<-jO M,ng];rfl
 .obtain⟨n,gl⟩:∃n,(sortedHeap (c.heap.push (seqObj "list" us.toArray 0)) ⇑c us out.toArray).get? ⇑c=some (seqObj "list" out.toArray n):=sortedHeap_at G;refine Z3 %[_,rfl|U c _ ⇑c out (out.map strOf) n (strsAre_map out (λv g=>d.all v (B.mem_iff.mp g))) ?_ ?_ k1 g1 Y (λb o' O=>?_) rfl rfl (Zi _) gl]
  .rw[<-d.strs]at q;exact(B.map _).trans q
  .rw[Xa];refine Xi (λ{u v} hu g j=>?_) p2;have%[a,t,rfl|M]:=e _ (B.mem_iff.mp hu);have%[b,t',rfl|N]:=e _ (B.mem_iff.mp g);show a8 b a=false;rw[<-ng,jO N];have j:fO (ks.map λz=>[z]) [a]<=fO (ks.map λz=>[z]) [b]:=j;exact Zh (by omega)
  .have p:=Zv O;show(sortedHeap _ _ _ _).get? b=_;rw[sortedHeap_old (Zt p) (by rw[Zq];exact Yp p)];exact Z7 _ O
end
theorem jP:∀{ks:ZB} {us:ZF},aC (ks.map V.str) us->StrsAre us ks
 |[],_,.nil=> .nil
 | _::_,_,.cons r t=>by
   have%[t'|rfl]:=r;exact .cons _ _ (jP t)
theorem gB:∀{ks:ZB} {us:ZF},StrsAre us ks->aC (ks.map V.str) us
 | _,_,.nil=> .nil
 | _,_,.cons _ t h=> .cons %[t|rfl] (gB h)
section
variable{X:Cx}{K:ZA}
theorem pV(h:X.K=K):cr X (.builtin "sorted") (λxs H Q=>∃a ks,xs=[.ref a]/\SqL K H a (ks.map V.str)/\ks.length<=1000/\∀l (ss:ZB),H l=none->ss.Perm ks->ss.Pairwise (λa b=>a8 b a=false)->Q (.ref l) (upd H l (.lst (ss.map V.str)))):=by
 subst h;refine⟨λpins s C H xs us Q I r h=>?_⟩;have%[a,ks,rfl,j,m|q]:=h;have%[u,rfl|p]:=cV r;cases p;have%[its,f,%[o,n,t,v,E|d]|G]:=I.list j;have J:its.length=ks.length:=by rw[<-f.length,Z6]
 refine lj (λL R w=>wpAny_collect_seq a (.inl rfl) t v d (λh' k=>?_) (by simp_all)) (by omega) λM s' l vs ss n y i z k1 g1 A k g o c B=>?_
 .exact w _ _ _ (jP f) (.refl _) k rfl rfl
 .have e:=I.keptS k1 g1 A;refine%[.ref l,_,e.stoodS (o:= .lst _) (e.keptS k g o) c %[?_,vs,n,gB y|B],rfl|q l ss (e.hok.fresh c) i z];rw[Z6,i.length_eq,sizeLine_eq];omega
theorem vQ{w:World}(h:X.w=w)(p:X.calm=true):cr X (.builtin "sorted") (λxs H Q=>∃a ks,xs=[.ref a]/\H a=some (jd w a ks)/\ks.length<=1000/\∀l (ss:ZB),H l=none->ss.Perm ks->ss.Pairwise (λa b=>a8 b a=false)->Q (.ref l) (upd H l (.lst (ss.map V.str)))):=by
 subst h;refine⟨λpins s C H xs us Q I r h=>?_⟩;have%[a,ks,rfl,t,e|q]:=h;have%[u,rfl|v]:=cV r;cases v;have%[S,_|_]:=(I.hok a _ t)
 refine lj (λE R y=>kY (I.ok.hd p) S λm vs ss f d k1 g1 i z=>y m vs ss f d k1 g1 i) e λm s' l vs ss n f d A k1 g1 i k g o c B=>?_
 have j:=I.keptS k1 g1 i;refine%[.ref l,_,j.stoodS (o:= .lst _) (j.keptS k g o) c %[?_,vs,n,gB f|B],rfl|q l ss (j.hok.fresh c) d A];rw[Z6,d.length_eq,sizeLine_eq];omega
theorem yt(h:X.K=K):cr X (.builtin "sorted") (λxs H Q=>∃(a:Addr) (ps:ZG) (m:Nat),xs=[.ref a]/\SqL K H a (ps.map λp=>V.ref p.1)/\aE H ps/\(∀p∈ps,p.2.length=m)/\m≠0/\ps.length<=1000/\
 ∀(l:Addr) (ss:ZG),H l=none->ss.Perm ps->ss.Pairwise (λa b=>db b.2 a.2=false)->Q (.ref l) (upd H l (.lst (ss.map λp=>V.ref p.1)))):=by
 subst h;refine⟨λpins s L H xs us Q I r h=>?_⟩;have%[a,ps,m,rfl,j,t,v,w,d|q]:=h;have%[u,rfl|y]:=cV r;cases y;have%[its,z,%[o,n,A,B,M|e]|N]:=I.list j;have:=rF z;subst this;refine m8 (λO R C=>wpAny_collect_seq a (.inl rfl) A B e (λh' k=>?_) (by simp_all)) (rE I t) v w d λT s' l ss n i E k1 g1 G k g o c J=>?_
 .exact C _ _ (List.Perm.refl _) k rfl rfl
 .have f:=I.keptS k1 g1 G;refine%[.ref l,_,f.stoodS (o:= .lst _) (f.keptS k g o) c %[?_,ss.map _,n,rG ss|J],rfl|q l ss (f.hok.fresh c) i E];rw[Z6,i.length_eq,sizeLine_eq];omega
theorem dinT{k:Nat}{i o:Expr}{ty a:TE}{pos:Pos}(b:bB k X.A)(c:behindInMarks .In o=false)(hi:QE X i ty)(d:QE X o a):QT X (.Compare i [.In] [o] pos) (tB (EI ty a)):=
 ⟨y6 (EJ (by have:=b.units;omega) hi.h d.h) c⟩
end
theorem cU{X:Cx}{K:ZA}{a b:Expr}{c d:TE}{pos:Pos}(h:X.K=K)(e:lR b)(f:QE X a c)(g:QE X b d):QE X (.Subscript a b pos) (tOp (Ex K) c d):=by subst h;exact⟨zL Ez f.h g.h e⟩
theorem vR(h:(env.blockKind== .function&&env.kindOf x==some .local&&b.line==pos.line&&!(a.names.any λ(n,k)=>n==x&&(k== .local||k== .cell)))=false):
 swapsWith (.ListComp c gens a pos) (some (.Name x b)) l env=pure false:=by
 show(pure (env.blockKind== .function&&env.kindOf x==some _&&b.line==pos.line&&!(a.names.any _)))=pure false;rw[h]
theorem AY{X:Cx}(i:Nat)(e:X.N.Nodup)(hi:X.N[i]? =some x)(f:Loc X.env.scope x)(g:X.fn x=true\/X.env.scope.names.lookup x=some .local)
 (b:(X.env.blockKind== .function&&X.env.kindOf x==some .local&&h.line==pos.line&&!(a.names.any λ(n,k)=>n==x&&(k== .local||k== .cell)))=false) (j:QE X (.ListComp c gens a pos) l):
 QS X (.Assign [.Name x h] (.ListComp c gens a pos) d) (qw l (iS i)):=⟨zg e hi f j.h (vR b) g⟩
section
#where
end
section
variable(h:Heap)(l1 l2:Addr)
end
section
#where
end
section
variable{X:Cx}{K:ZA}{pos:Pos}
end
section
variable{X:Cx}{pos:Pos}
theorem rJ(b:PassesOwn (model X.prog X.w) X.A X.env X.xe)(d:QT X c e)(f:QSs X a g):QS X (.While c a [] pos) (zh e g):=⟨zi b d.h f.h⟩
theorem e8(a:bB k X.A)(b:EH i)(c:QE X o d)(hi:QE X i ty):QE X (.Subscript o i pos) (zQ d ty):=⟨Ch (by have:=a.units;lia) c.h hi.h b⟩
end
section
#where
theorem CY{P:Nat->Value->Prop}(val:Nat->Str)(a:∀i v,P i v->∃t,v= .str (val i) t):CmpOf prog w A .Gt P (λi j=>decide ((val j).cps.toList<(val i).cps.toList)):=λi j b c s Q E hi d h=>by
 have%[t|rfl]:=a i b hi;have%[u|rfl]:=a j c d;exact richCompare_gives (typeIs_str s _ t) (typeIs_str s _ u) PySem.F.slot_str_gt PySem.F.entry_str_gt (PySem.F.args_str_gt_2 _ _) (gives_str_gt _ _ t u) (λx=>nomatch x) h
theorem wS{P:Nat->Value->Prop}(val:Nat->Str)(a:∀i v,P i v->∃t,v= .str (val i) t):CmpOf prog w A .Lt P (λi j=>decide ((val i).cps.toList<(val j).cps.toList)):=λi j b c s Q E hi d h=>by
 have%[t|rfl]:=a i b hi;have%[u|rfl]:=a j c d;exact richCompare_gives (typeIs_str s _ t) (typeIs_str s _ u) PySem.F.slot_str_lt PySem.F.entry_str_lt (PySem.F.args_str_lt_2 _ _) (gives_str_lt _ _ t u) (λx=>nomatch x) h
theorem AZ{i:Nat}{v:Value}(h:(#[Value.str x t,Value.str y u]:ZJ)[i]? =some v):∃t,v= .str (if i=0 then x else y) t:=by
 match i,h with
 | 0,h=>exact%[t|by simpa using h.symm]
 | 1,h=>exact%[u|by simpa using h.symm]
 | i+2,h=>simp at h
theorem tV(a:Nat->Nat->Bool):argBest a 1=if a 1 0=true then 1 else 0:=by simp[argBest]
theorem rK{x y:Str}(l:A.handled=none)
 (h:∀h' tk,(∀c o,s.heap.get? c=some o->h'.get? c=some o)->Q (if x.cps.toList<y.cps.toList then .str y u else .str x t) {s with heap:=h',toks:=tk}):
 ↥A (call (.builtin "max") [.str x t,.str y u]) Q E s:=by
 have j:(s.heap.push {cls:= .type _,data:= .seq #[.str x t,.str y u]}).IsTuple ⇑s _:=%[_,Zj _ rfl,rfl,0|rfl]
 refine call_max_two (wpAny_pyIter_tuple j ?_);have b:(s.heap.push {cls:= .type "tuple",data:= .seq #[.str x t,.str y u]}).objs.size=⇑s+1:=Zq ..;refine%[_,[_,⇑s],[_],_,_,_,_,rfl,Walks.tuple (A:=A.in1) l _ ⇑s (b▸Zt (Yq _)) _,
  %[%[_,Zj _ rfl,rfl|rfl]|j.push _],λc d=>?_,by simp,CY _ (λ_ _=>AZ)|λv h' tk m n=>?_]
 .rw[Zq,b];rcases mem_cons.mp d with rfl|d
  .simp
  .rcases mem_cons.mp d with rfl|d
   .exact Yp (Yq _)
   .cases d
 .have f:=λc o e=>by
   refine n c o (λi=>?_) (Z7 _ (Z7 _ e));rcases mem_cons.mp i with p|i
   .have:=Zv e;rw[p,b]at this;exact Xl _ (Nat.lt_of_succ_lt this)
   .cases i
  have q:=h h' tk f;have a:(#[Value.str x t,Value.str y u])[argBest _ 1]? =some v:=m;rw[tV]at a;by_cases g:x.cps.toList<y.cps.toList
  .rw[if_pos (by simp[g])]at a;rw[if_pos g]at q;exact(show Value.str y u=v by simpa using a)▸q
  .rw[if_neg (by simp[g])]at a;rw[if_neg g]at q;exact(show Value.str x t=v by simpa using a)▸q
theorem rL{x y:Str}(l:A.handled=none)
 (h:∀h' tk,(∀c o,s.heap.get? c=some o->h'.get? c=some o)->Q (if y.cps.toList<x.cps.toList then .str y u else .str x t) {s with heap:=h',toks:=tk}):
 ↥A (call (.builtin "min") [.str x t,.str y u]) Q E s:=by
 have j:(s.heap.push {cls:= .type _,data:= .seq #[.str x t,.str y u]}).IsTuple ⇑s _:=%[_,Zj _ rfl,rfl,0|rfl]
 refine call_min_two (wpAny_pyIter_tuple j ?_);have b:(s.heap.push {cls:= .type "tuple",data:= .seq #[.str x t,.str y u]}).objs.size=⇑s+1:=Zq ..;refine%[_,[_,⇑s],[_],_,_,_,_,rfl,Walks.tuple (A:=A.in1) l _ ⇑s (b▸Zt (Yq _)) _,
  %[%[_,Zj _ rfl,rfl|rfl]|j.push _],λc d=>?_,by simp,wS _ (λ_ _=>AZ)|λv h' tk m n=>?_]
 .rw[Zq,b];rcases mem_cons.mp d with rfl|d
  .simp
  .rcases mem_cons.mp d with rfl|d
   .exact Yp (Yq _)
   .cases d
 .have f:=λc o e=>by
   refine n c o (λi=>?_) (Z7 _ (Z7 _ e));rcases mem_cons.mp i with p|i
   .have:=Zv e;rw[p,b]at this;exact Xl _ (Nat.lt_of_succ_lt this)
   .cases i
  have q:=h h' tk f;have a:(#[Value.str x t,Value.str y u])[argBest _ 1]? =some v:=m;rw[tV]at a;by_cases g:y.cps.toList<x.cps.toList
  .rw[if_pos (by simp[g])]at a;rw[if_pos g]at q;exact(show Value.str y u=v by simpa using a)▸q
  .rw[if_neg (by simp[g])]at a;rw[if_neg g]at q;exact(show Value.str x t=v by simpa using a)▸q
theorem oK{l:Addr}{its:ZJ}{val:Nat->Str}{Q:ZD}(n:A.handled=none)(f:s.heap.IsList l its)(g:0<its.size)(a:∀(i:Nat) v,its[i]? =some v->∃t,v= .str (val i) t)
 (h:∀v h' tk,its[argBest (λi j=>decide ((val i).cps.toList<(val j).cps.toList)) (its.size-1)]? =some v->(∀b o,s.heap.get? b=some o->h'.get? b=some o)->Q v {s with heap:=h',toks:=tk}):
 ↥A (call (.builtin "min") [.ref l]) Q E s:=by
 have c:l<⇑s:=by have%[_,e|_]:=f;exact Zv e
 refine call_min_walk (wpAny_pyIter_list f %[_,[⇑s,l],[⇑s],_,_,_,_,rfl,Walks.list (A:=A.in1) n _ l (Zt c) its,%[%[_,Zj _ rfl,rfl|rfl]|f.push _],λb d=>?_,g,wS val a|λv h' tk p q=>?_])
 .rw[Zq];rcases mem_cons.mp d with rfl|d
  .simp
  .rcases mem_cons.mp d with rfl|d
   .exact Yp c
   .cases d
 .refine h v h' tk p λb o e=>q b o (λm=>?_) (Z7 _ e)
  rcases mem_cons.mp m with r|m
  .exact absurd (r▸Zv e) (Xl _)
  .cases m
theorem nh(val:Nat->Str):∀k,argBest (λi j=>decide ((val i).cps.toList<(val j).cps.toList)) k<=k/\∀j,j<=k->a8 (val j) (val (argBest (λi j=>decide ((val i).cps.toList<(val j).cps.toList)) k))=false
 | 0=>%[Zi _|λj b=>by rw[le_zero.mp b];exact e7 _]
 | k+1=>by
   have%[g|d]:=nh val k;rw[argBest];by_cases c:a8 (val (k+1)) (val (argBest (λi j=>decide ((val i).cps.toList<(val j).cps.toList)) k))=true
   .have a:=c;unfold a8 at a;rw[if_pos a];refine%[Zi _|λj b=>?_];by_cases e:j=k+1
    .exact e▸e7 _
    .cases f:a8 _ _ with
     | false=>rfl
     | true=>have:=fN f c;rw[d j ⋯]at this;cases this
   .have a:=c;unfold a8 at a;rw[if_neg a];refine%[⋯|λj b=>?_];by_cases e:j=k+1
    .lia
    .exact d j ⋯
end
section
variable{X:Cx}
theorem yv(b:X.calm=true):bX X (.builtin "max") (λxs H Q=>∃x y,xs=[.str x,.str y]/\Q (.str (if a8 x y=true then y else x)) H):=by
 intro pins s c H xs us Q I r h;have%[x,y,rfl|q]:=h;have%[u,d,rfl,%[t|rfl],t'|rfl]:=iT r;refine rK (I.ok.hd b) λh' tk k=>%[_,H,I.kept k,?_|q]
 by_cases a:x.cps.toList<y.cps.toList
 .rw[if_pos a,if_pos (show a8 x y=true from Zf a)];exact%[_|rfl]
 .rw[if_neg a,if_neg (show ¬ a8 x y=true from λe=>a (Zo e))];exact%[_|rfl]
theorem yw(b:X.calm=true):bX X (.builtin "min") (λxs H Q=>∃x y,xs=[.str x,.str y]/\Q (.str (if a8 y x=true then y else x)) H):=by
 intro pins s c H xs us Q I r h;have%[x,y,rfl|q]:=h;have%[u,d,rfl,%[t|rfl],t'|rfl]:=iT r;refine rL (I.ok.hd b) λh' tk k=>%[_,H,I.kept k,?_|q]
 by_cases a:y.cps.toList<x.cps.toList
 .rw[if_pos a,if_pos (show a8 y x=true from Zf a)];exact%[_|rfl]
 .rw[if_neg a,if_neg (show ¬ a8 y x=true from λe=>a (Zo e))];exact%[_|rfl]
theorem yx(z:X.calm=true):bX X (.builtin "min") (λxs H Q=>∃(p:Addr) (ss:ZB),xs=[.ref p]/\SqL X.K H p (ss.map V.str)/\0<ss.length/\∀m∈ss,(∀y∈ss,a8 y m=false)->Q (.str m) H):=by
 intro pins s M H xs us Q I r h;have%[p,ss,rfl,A,N|q]:=h;have%[u,rfl|f]:=cV r;cases f;have%[its,g,B|O]:=I.list A;have a:=g.length;rw[Z6]at a;have C:its.toArray.size=ss.length:=by rw[Zp,a]
 have c:∀i v,its.toArray[i]? =some v->∃t,v=Value.str (ss.getD i Str.empty) t:=λi v e=>by
  have e:=by simpa using e
  have hi:i<ss.length:=a▸(Xn e).1;have%[u,l|f]:=g.get (by rw[Zl,Z4 hi];rfl);rw[e]at l;have%[t|d]:=f;exact%[t|by rw[Za l,d,Zc,Z4 hi];rfl]
 refine oK (I.ok.hd z) B.isList ⋯ c λv h' tk n k=>?_
 have%[E|o]:=nh _ _;have%[t|d]:=c _ _ n
 generalize argBest _ _=b at E o n d
 have w:b<ss.length:=by lia
 have G:ss.getD b Str.empty=ss[b]:=by rw[Zc,Z4 w];rfl
 refine%[.str _,H,I.kept k,%[t|d]|q _ (G▸Yd w) λy J=>?_];have%[j,L|rfl]:=Ye J;have:=o j ⋯;rwa[show ss.getD j Str.empty=ss[j] by rw[Zc,Z4 L];rfl]at this
theorem Fs(a:X.calm=true):cr X (.builtin "max") (λxs H Q=>∃x y,xs=[.str x,.str y]/\Q (.str (if a8 x y=true then y else x)) H):=⟨yv a⟩
theorem Ft(a:X.calm=true):cr X (.builtin "min") (λxs H Q=>∃x y,xs=[.str x,.str y]/\Q (.str (if a8 y x=true then y else x)) H):=⟨yw a⟩
theorem Fu{K:ZA}(h:X.K=K)(a:X.calm=true):cr X (.builtin "min") (λxs H Q=>∃(p:Addr) (ss:ZB),xs=[.ref p]/\SqL K H p (ss.map V.str)/\0<ss.length/\∀m∈ss,(∀y∈ss,a8 y m=false)->Q (.str m) H):=by subst h;exact⟨yx a⟩
end
section
#where
end
section
variable{prog:Program}{w:World}{A:Around}{R:Result->Shared->Prop}{I:Addr}{fp wr:List Addr}{G:Array GenState->Array GenState->Prop}{n:Nat}{P:Nat->Value->Prop}{St:Nat->Shared->Prop}
end
section
#where
end
section
variable{X:Cx}{K:ZA}
end
theorem CZ{b:Type}{a:List (b×V)}{vs:List (b×Value)}(r:KV a vs):aC (a.map (·.2)) (vs.map (·.2)):=by
 induction r with
 | nil=>exact .nil
 | cons h _ c=>exact .cons h.2 c
section
variable{X:Cx}{K:ZA}
def A0:V->List V->Hp->VK->Prop:=λx vs H Q=>asR x λa=>∃k y,vs=[kV k,y]/\∃b,H a=some (.dK b)/\b.length<sizeLine/\(∀v,cw b k=some v->Q v H)/\(cw b k=none->Q y (upd H a (.dK (dH b k y))))
theorem C0:MtM X "dict.setdefault" A0:=by
 intro pins s G H x vs v us Q I p r h;have%[a,rfl,k,y,rfl,b,e,J,t|u]:=gP h;cases p;have%[L,w,rfl,A|l]:=iT r;have%[z,m,vs,c|n]:=sM I.hok e;refine call_meetsIn PySem.F.slot_dict_setdefault n.typeIs PySem.F.entry_dict_setdefault (PySem.F.args_dict_setdefault_3 _ _ _) (kt_meets_setdefault _ a (mo A) m w) %[vs,n,c.length▸z,λM hw=>?_|λN h' f B=>?_]
 .have q:=c.val k;cases d:cw b k with
  | none=>
    rw[fk.none_of (o:=valueAt vs k) (d▸q)]at hw;cases hw
  | some i=>
    have%[C,g|j]:=fk.some_of (d▸q);rw[g]at hw;exact(Za hw)▸%[i,H,I.tok _,j|t i d]
 .have d:cw b k=none:=by
   cases d:cw b k with
   | none=>rfl
   | some i=>
     have%[C,g|_]:=fk.some_of (d▸c.val k)
     grind
  exact%[y,_,qL I (e▸True.intro) B (let⟨q,_,_,E,_⟩:=f;%[q|E]) (zP (by have:=ic b k y;lia) m (c.put k l) f),l|u d]
theorem jQ:MtQ X "dict.setdefault" A0:=⟨C0⟩
noncomputable def tW(v a:Addr):HO:= .ext λh=>h.IsValuesView v a
def A1:V->List V->Hp->VK->Prop:=λx vs H Q=>asR x λa=>vs=[]/\∃b,H a=some (.dK b)/\∀v,H v=none->Q (.ref v) (upd H v (tW v a))
theorem C1:MtM X "dict.values" A1:=by
 intro pins s t H x vs v us Q I i j h;have%[a,rfl,rfl,l,e|q]:=gP h;cases i;have c:=j.zero;subst c;have%[z,m,vs,n|f]:=sM I.hok e;refine call_meetsIn PySem.F.slot_dict_values f.typeIs PySem.F.entry_dict_values (PySem.F.args_dict_values_1 _) (meets_dict_values _ a m) %[%[vs|f]|?_];have g:(s.heap.push {cls:= .type _,data:= .fields _}).IsValuesView ⇑s a:=%[_,Zj _ rfl,rfl|rfl]
 refine%[.ref ⇑s,_,I.laid (o:=tW ⇑s a) (λb u e=>Z7 _ e) (Zi _) %[g,?_|λw y p k1=>?_],rfl|q _ I.fresh]
 .have%[o,d|_]:=g;exact%[o|d]
 .have%[o,d|r]:=p;exact%[o,k1 _ d|r]
theorem A2:MtQ X "dict.values" A1:=⟨C1⟩
theorem vS(j:X.calm=true):bX X (.type "list") (λxs H Q=>∃(v a:Addr) (b:List (Key×V)),xs=[.ref v]/\H v=some (tW v a)/\H a=some (.dK b)/\∀l,H l=none->Q (.ref l) (upd H l (.lst (b.map (·.2))))):=by
 intro pins s M H xs us Q I r h;have%[v,a,b,rfl,m,n|q]:=h;have%[u,rfl|p]:=cV r;cases p;have%[z,N,vs,f|t]:=sM I.hok n;have g:=(I.hok _ _ m).1;have%[o,w,y,A|B]:=t;have C:s.heap.DictAt _ a vs y:=%[o,w,A|B]
 have E:=f.length;refine PySem.W.kdl_call (PySem.W.kdl_values) (I.ok.hd j) %[g|C] ⋯ λh' tk acc c keep G d=>?_
 have O:acc.toList.length=b.length:=by rw[Zb,d.1,E]
 refine%[.ref ⇑s,_,I.laid keep (Zi _) ?_,rfl|q _ I.fresh];have e:acc.toList=vs.map (·.2):=by
  refine Y0 (by simp_all) λi J T=>?_
  have%[k|L]:=d.2 i _ (Array.getElem?_eq_getElem J);have%[U|Y]:=Xn L
  simp_all
 exact%[by rw[Z6];exact z,acc.toList,c,e▸CZ f|G]
theorem C2(c:X.calm=true):cr X (.type "list") (λxs H Q=>∃(v a:Addr) (b:List (Key×V)),xs=[.ref v]/\H v=some (tW v a)/\H a=some (.dK b)/\∀l,H l=none->Q (.ref l) (upd H l (.lst (b.map (·.2))))):=⟨vS c⟩
end
theorem tX:∀{ss:ZB},z∈ss->∃j,ss[j]? =some z/\(∀m,m<j->∀y,ss[m]? =some y->y≠z)/\(z::ss.eraseIdx j).Perm ss
 | x::ss,h=>by
   by_cases e:x=z
   .exact%[0,by simp[e],λm b=>absurd b ⋯|by simp[e]]
   .have%[j,c,d|f]:=tX ((mem_cons.mp h).resolve_left λq=>e q.symm);refine%[j+1,c,λm b y a=>?_|?_]
    .cases m with
     | zero=>simp at a;exact a▸e
     | succ m=>exact d m ⋯ y (a)
    .exact(List.Perm.swap _ _ _).trans (f.cons _)
section
variable{X:Cx}{K:ZA}
def Fv:V->List V->Hp->VK->Prop:=λx vs H Q=>asR x λa=>∃k y,vs=[kV k,y]/\∃b,H a=some (.dK b)/\Q ((cw b k).getD y) H
theorem Fw:MtM X "dict.get" Fv:=by
 intro pins s n H x vs v us Q I f g h;have%[a,rfl,k,y,rfl,b,e|q]:=gP h;cases f;have%[o,i,rfl,j|l]:=iT g;have%[z,m,vs,c|d]:=sM I.hok e;exact call_meetsIn slot_dict_get d.typeIs PySem.F.entry_dict_get (PySem.F.args_dict_get_3 _ _ _) (meets_dict_get_default _ a (mo j) m i) %[_,d.mapOf,(cw b k).getD y,H,I.tok _,(c.val k).getD l|q]
theorem A3:MtQ X "dict.get" Fv:=⟨Fw⟩
noncomputable def isZ(z:Str):Value->Bool
 | .str x _=>x==z
 | _=>false
theorem pW(t:Tok)(r:aC (ss.map V.str) its)(h:ss.length=its.length)(l:z∈ss):∃(j:Nat) (e:j<its.toArray.size),ss[j]? =some z/\(z::ss.eraseIdx j).Perm ss/\(∀y,y∈its.toArray->MeetsSeq.EqGives y (.str z t) (isZ z y))/\isZ z its.toArray[j]=true/\∀m (a:m<its.toArray.size),m<j->isZ z its.toArray[m]=false:=by
 have%[j,f,n|o]:=tX l;have b:∀m y,its[m]? =some y->∃x t,y=Value.str x t/\ss[m]? =some x:=λm y c=>by
  have a:m<ss.length:=h▸(Xn c).1;have%[u,i|p]:=r.get (by rw[Zl,Z4 a];rfl);rw[c]at i;have%[t|q]:=p;exact%[_,t,(Za i).trans q|Z4 a]
 have e:j<its.length:=h▸(Xn f).1;refine%[j,e,f,o,λy c=>?_,?_|λm a g=>?_]
 .have%[m|a]:=Xh (by simpa using c);have%[x,t',rfl|_]:=b m y a;exact eqGives_str x z t' t
 .have%[x,t',ex|d]:=b j _ (Z4 e);rw[f]at d;show isZ z its[j]=true;rw[ex,<-Za d];exact beq_self_eq_true z
 .have%[x,t',ex|d]:=b m _ (Z4 a);show isZ z its[m]=false;rw[ex];exact beq_eq_false_iff_ne.mpr (n m g x d)
def rN:V->List V->Hp->VK->Prop:=λx vs H Q=>asR x λl=>∃z,vs=[.str z]/\∃ss:ZB,H l=some (.lst (ss.map V.str))/\z∈ss/\∀a,(z::a).Perm ss->Q .non (upd H l (.lst (a.map V.str)))
theorem yy:MtM X "list.remove" rN:=by
 intro pins s A H x vs v us Q I c d h;have%[l,rfl,z,rfl,ss,a,f|q]:=gP h;cases c;have%[u,rfl|g]:=d.one;have%[t|rfl]:=g;have%[i,its,n,r,b|e]:=I.lstM a;rw[Z6]at b i;have%[j,m,_,o,p,w|y]:=pW t r b f;refine call_meets F.slot_list_remove %[_,e|rfl] F.entry_list_remove (F.args_list_remove_2 _ _) (MeetsSeq.list_remove l its.toArray n _ _ p j m w y (by simp_all)) %[e,.non,_,I.lset (its':=its.eraseIdx j) a e ?_ ?_ ?_,rfl|q _ o]
 .simp
 .rw[List.eraseIdx_eq_take_drop_succ,Zd,map_take,List.map_drop,<-List.eraseIdx_eq_take_drop_succ];exact r.eraseIdx j
 .have:=pd ss j;rw[Z6]
  lia
def vT:V->List V->Hp->VK->Prop:=λx vs H Q=>asR x λl=>∃z,vs=[.str z]/\∃ss:ZB,H l=some (.lst (ss.map V.str))/\z∈ss/\∀j:Nat,ss[j]? =some z->Q (.int j) H
theorem A4:MtM X "list.index" vT:=by
 intro pins s B H x vs v us Q I d f h;have%[l,rfl,z,rfl,ss,g,i|q]:=gP h;cases d;have%[u,rfl|m]:=f.one;have%[t|rfl]:=m;have%[b,its,n,r,a|e]:=I.lstM g;rw[Z6]at a b;have%[j,c,o,_,p,w|y]:=pW t r a i;have A:=c;rw[Zp,<-a]at A;rw[sizeLine_eq]at b;exact call_meets F.slot_list_index %[_,e|rfl] F.entry_list_index (F.args_list_index_2 _ _) (MeetsSeq.list_index l its.toArray n (.str z t) (isZ z) p j c ⋯ w y) %[e,.int j,H,I.tok _,%[_|rfl]|q j o]
theorem wU:MtQ X "list.index" vT:=⟨A4⟩
theorem A5:MtQ X "list.remove" rN:=⟨yy⟩
end
theorem yz:typeLookup (.type "list_reverseiterator") "__len__"=pure none:=by kernel_rfl
theorem A6:typeLookup (.type "list_reverseiterator") "__length_hint__"=pure (some (.builtin "list_reverseiterator.__length_hint__")):=by kernel_rfl
section
#where
theorem oM(hh:A.handled=none)(N:s.heap.IsRevIter I l ((a.size:Int) -1))(O:s.heap.IsList l a)(ne:l≠I)(hz:a.size<=sizeLine)
 (hQ:∀s' acc c,(∀b o,b≠I->s.heap.get? b=some o->s'.heap.get? b=some o)->s'.gens=s.gens->s'.os=s.os->s'.heap.get? ⇑s=some {cls:= .type "list",data:= .seq acc c}->acc.toList=a.toList.reverse->Q (.ref ⇑s) s'):
 ↥A (call (.type "list") [.ref I]) Q E s:=by
 have u:I<⇑s:=let⟨_,i,_⟩:=N;Zv i;have v:l<⇑s:=let⟨_,i,_⟩:=O;Zv i
 generalize p:s.heap.push {cls:=Value.type "list",data:=Data.seq #[]}=G
 have gz:G.objs.size=⇑s+1:=by rw[<-p,Zq]
 have y:∀b o,s.heap.get? b=some o->G.get? b=some o:=λb o e=>by rw[<-p];exact Z7 _ e
 have q:G.get? ⇑s=some {cls:=Value.type "list",data:=Data.seq #[]}:=by rw[<-p];exact Zj _ rfl
 refine callType_codes (Q₁:=λobj g=>obj= .ref ⇑s/\g=(s>>>G)) F.called_list (F.typeCall_list_1 (Value.ref I)) F.entry_list_init (code_list_new (Value.ref I) %[rfl|by rw[p]]) λobj g j=>?_
 have%[rfl|rfl]:=j;refine%[%[_,q|rfl],F.args_list_init_2 _ _|?_];show ↥A.in1.in1 (Builtin.«list.__init__» %[[.ref ⇑s,.ref I]|[]]) _ _ _;unfold Builtin.«list.__init__»;refine Z2 ?_;refine listItems_at (s:=(s>>>G)) q rfl ?_;refine Z2 (listUpdate_at (s:=(s>>>G)) q rfl ?_ (Xg _));have U:=get?_update_self (Obj.mapSeq λ_=> #[]) q rfl;have f:∀b o,b≠⇑s->G.get? b=some o->(G.update ⇑s (Obj.mapSeq λ_=> #[])).get? b=some o:=λb o z e=>(get?_update_other _ _ (Ne.symm z)).trans e
 refine Z2 (wpAny_letGo ?_)
 generalize G.update ⇑s (Obj.mapSeq λ_=> #[])=h at U f
 have B:I≠⇑s:=Zt u;have nl:l≠⇑s:=Zt v;have m:h.IsRevIter I l ((a.size:Int) -1):=N.at λo e=>f _ _ B (y _ _ e)
 have C:h.IsList l a:=let⟨o,i,r⟩:=O;%[o,f _ _ nl (y _ _ i)|r];have W:=Walks.listRev (prog:=prog) (w:=w) (A:=A.in1.in1) hh I l ne a;have n:(0<=a.size/\h.IsRevIter I l (↑a.size-1-((0:Nat):Int))/\h.IsList l a):=%[Xg _,by simpa using m|C]
 show ↥A.in1.in1 (Builtin.List.listExtendWith (.ref ⇑s) (.ref I) .none) _ _ (s>>>h);unfold Builtin.List.listExtendWith;have t:Shared.TypeIs (s>>>h) (.ref I) "list_reverseiterator":=m.typeIs;refine Z2 (wpAny_typeOf (T:="list_reverseiterator") t ?_);have n1:Builtin.List.listSameRef (.ref ⇑s) (.ref I)=false:=beq_eq_false_iff_ne.mpr (Ne.symm B);have n2:(Value.type "list_reverseiterator"==Value.type "list")=false:=by decide
 have n3:(Value.type "list_reverseiterator"==Value.type "tuple")=false:=by decide
 simp only[n1,n2,n3,Bool.or_false,Y1,if_false];refine Z2 (W.self 0 (s>>>h) _ _ n ?_);refine Z2 (wpAny_holding ?_);unfold Builtin.List.listLengthHint;refine Z2 (wpAny_specialOf (T:="list_reverseiterator") t yz ?_);show wpAny _ _ (specialOf (.ref I) (Str.ofString "__length_hint__")>>= _) _ _ _;refine Z2 (wpAny_specialOf t A6 ?_)
 wp_delta
 refine Z2 (wpAny_isInstance (T:="list_reverseiterator") (b:=true) t (by rw[isSubtype_type];kernel_rfl) ?_);simp only[Bool.not_true,Y1,if_false];rw[if_pos (by decide +kernel)];rw[if_neg (by decide)];refine Z3 ?_;rw[if_neg (by decide +kernel)];have H:⇑s∉[I,l]:=by
  simp only[Yx,X8,or_false,not_or];exact%[Ne.symm B|Ne.symm nl]
 refine Z3 %[plainId_quiet F.plain_extend_loop _|codeAny_extend_loopS W.toS hz _ H _ a.size 0 _ _ _ rfl (Xg _) n U (ItemsOf.nil _) λs5 acc c5 J L d=>?_];refine%[rfl|hQ s5 acc c5 (λb o z e=>?_) J.gens J.os L ?_]
 .have nb:b≠⇑s:=Zt (Zv e);refine J.heap b o ?_ (f _ _ nb (y _ _ e));simp only[Yx,X8,or_false,not_or];exact%[nb|z]
 .apply ext_getElem?;intro k;have al:acc.toList.length=a.size:=Zb▸d.1;by_cases Y:k<a.size
  .have M:k<acc.size:=d.1▸Y;have:=d.2 k acc[k] ∅;rw[List.getElem?_reverse (Y),Zb,getElem?_toList,getElem?_toList,this];simp[M]
  .rw[List.getElem?_eq_none ⋯,List.getElem?_eq_none (by simp;lia)]
end
noncomputable def Fx(n:Nat)(a l:Addr)(m:Nat):HO:= .ext λh=>n<=a/\h.IsRevIter a l (m-1)
theorem yA{X:Cx}:bX X (.type "reversed") (λxs H Q=>∃(l:Addr) (ys:List V),xs=[.ref l]/\SqL X.K H l ys/\∀r,H r=none->Q (.ref r) (upd H r (Fx X.s₀.heap.objs.size r l ys.length))):=by
 intro pins s a H xs us Q I r h;have%[l,ys,rfl,c|q]:=h;have%[u,rfl|d]:=cV r;cases d;have%[its,f,pl|j]:=I.list c;refine call_reversed_list pl.isList ?_;have g:=I.hok.fresh (Zi _);have J:Inv X pins a H (s>>>(s.heap.push (revObj l (its.toArray.size-1)))):=I.keptS (λb o e=>Z7 _ e) rfl rfl;refine%[.ref ⇑s,_,I.stoodS (o:=Fx X.s₀.heap.objs.size ⇑s l ys.length) J (Zi _) %[%[I.sz|?_],%[_|Zj _ rfl]|λ_ _ ⟨i,x⟩ k=>%[i|x.at λo e=>k o e]],rfl|q _ g];rw[f.length,<-Zp];exact%[_,Zj _ rfl,rfl|rfl]
theorem Inv.dropped{X:Cx}(I:Inv X pins j H s)(l:H a=some (.ext i))(m:X.s₀.heap.objs.size<=a)(f:∀b o,b≠a->s.heap.get? b=some o->s'.heap.get? b=some o)(r:s'.gens=s.gens)(t:s'.os=s.os):Inv X pins j (drop H a) s':=by
 have ne:∀{b:Addr} {o:HO},H b=some o->(∀i,o≠ .ext i)->b≠a:=λe n z=>by
  grind
 have un:Un (frs X.stack) [a] H (drop H a) s.heap s'.heap:=by
  refine%[λb o e _ _ d=>f b o (by simpa using d) e,λb o e _ _ d=>%[o.slots|f b o (by simpa using d) e],λb o _ n _=>?_,λb o e d=>%[o|f b o (by simpa using d) e],λb xs e=>?_,λb o u e=>?_|λb ps e=>%[#[]|?_]]
  .unfold drop;split
   .rfl
   .exact n
  .rw[bD (ne e ∅)];exact e
  .rw[bD (ne e ∅)];exact e
  .rw[bD (ne e ∅)];simpa using e
 have g:HOk X.prog X.w (drop H a) s'.heap:=λb o e=>by
  have nb:b≠a:=λz=>by rw[z,fJ]at e;cases e
  rw[bD nb]at e;refine(I.hok b o e).stay (λc u h q=>f c u ?_ q) (λc q=>?_) λc xs q=>?_
  .rcases h with rfl|h
   .exact nb
   .exact ne h ∅
  .rw[bD (ne q ∅)];exact q
  .rw[bD (ne q ∅)];exact q
 exact I.call' t un g (by rw[r];exact I.bare) λb v=>by
  obtain rfl:b=a:=by simpa using v
  refine%[.inr m,λz=>?_,λx c e z=>?_|λp w z=>?_]
  .have:=I.free;grind
  .have:=I.freeC x c e;grind
  .have:=(I.pin p w).2.1;rw[z,l]at this;cases this
theorem tY{X:Cx}(w:X.calm=true):bX X (.type "list") (λxs H Q=>∃(r l:Addr) (ys:List V),xs=[.ref r]/\H l=some (.lst ys)/\H r=some (Fx X.s₀.heap.objs.size r l ys.length)/\∀p,drop H r p=none->p≠r->Q (.ref p) (upd (drop H r) p (.lst ys.reverse))):=by
 intro pins s J H xs us Q I r h;have%[a,l,ys,rfl,g,f|q]:=h;have%[u,rfl|y]:=cV r;cases y;have%[z,its,n,A,m|e]:=I.lstM g;have%[%[t|b]|_]:=I.hok a _ f;have i:l≠a:=λz=>by rw[z,f]at g;cases g
 have sz:its.toArray.size=ys.length:=by simp_all
 refine oM (I.ok.hd w) (by rw[sz];exact b) %[_,e,rfl,n|rfl] i (by rw[sz];exact z) λs' acc c B C j E d=>?_
 have v:=I.dropped f t (λ_ _ _ e=>e) rfl rfl;have G:=I.dropped f t B C j;have lt:=let⟨_,j,_⟩:=b;Zv j;refine%[.ref ⇑s,_,v.stoodS (o:= .lst ys.reverse) G (Zi _) %[?_,acc.toList,c,?_|?_],rfl|q _ (v.hok.fresh (Zi _)) (X2 lt)]
 .rw[List.length_reverse];exact z
 .rw[d];exact A.reverse
 .exact E
def tZ(b:TE):TE:=λc H Q=>b c H λv a=>∃l ys,v= .ref l/\a l=some (.lst ys)/\∀p,a p=none->Q (.ref p) (upd a p (.lst ys.reverse))
theorem A7{X:Cx}(h:X.calm=true)(i:Gl X "reversed")(j:X.mg "reversed"=none)(a:Gl X "list")(b:X.mg "list"=none)(d:aW e=false)(m:QE X e n):
 QE X (.Call (.Name "list" o) [.Call (.Name "reversed" s) [e] [] t] [] u) (tZ n):=by
 have w:QE X (.Call (.Name _ s) [e] [] t) _:=ctE ⟨yA⟩ i j PyProof.Rows.boot_reversed rfl rfl (by simp[d]) (paE d (⟨Fd m.h⟩) aq);have y:=ctE (p:=o) (pos:=u) ⟨tY h⟩ a b boot_list rfl rfl rfl (paE rfl w aq);refine⟨Fe y.h λA H Q q=>?_⟩;refine%[_,q|λv B ⟨l,ys,z,c,q⟩=>%[l,ys,by rw[z],SqL.of c|λr f=>?_]];refine%[r,l,ys,rfl,by rw[ao (aw c f)];exact c,ae|λp g _=>?_];rw[AB f]at g ⊢;exact q p g
section
variable{X:Cx}
end
section
#where
theorem eK(I:List i->j->Shared->Prop):∀(xs:List i) (b:j) (s:Shared),I xs b s->
 (∀x r b s,I (x::r) b s->↥A (f x b) (λy s'=>match y with| .done c=>Q c s'| .yield c=>I r c s') E s)->(∀b s,I [] b s->Q b s)->↥A (forIn xs b f) Q E s
 |[],b,s,h,_,a=>by
  exact Z3 (a b s h)
 | x::r,b,s,h,d,a=>by
   rw[forIn_cons];refine Z2 (wpAny_mono (d x r b s h) (λy s' g=>?_) λ_ _ e=>e);cases y with
   | done c=>exact Z3 g
   | yield c=>exact eK I r c s' g d a
theorem A8:∀c {Q:Bool->Shared->Prop},(∀b∈c,∃d,bh w b d s.heap)->Q true s->↥A (setsQuiet c) Q E s:=by
 intro c Q h l;refine Z2 (eK (λr b s'=>(∀b∈r,∃d,bh w b d s.heap)/\b=(none,())/\s'=s) c _ s %[h,rfl|rfl] ?_ ?_)
 .intro x r b s' %[g,rfl|rfl];have%[d,o,m,G,t,ss,n,p,q,v,H,y,f,I,B,C|i]:=g x Zm;refine Z2 (wpAny_setEntries_of n q B (Z2 ?_));rw[<-forIn_toList];refine eK (λr b a=>(∀e∈r,∃z u,e=(hashStr w z,Value.str z u))/\b=(none,())/\a=s') m.toList _ _ %[f,rfl|rfl] ?_ ?_
  .intro e r b a %[j,rfl|rfl];have%[z,u|rfl]:=j e Zm;exact Z3 %[λe h=>j e (Zk _ h),rfl|rfl]
  .intro b a %[_,rfl|rfl];exact Z3 %[λe h=>g e (Zk _ h),rfl|rfl]
 .intro b s' %[_,rfl|rfl];exact Z3 l
noncomputable def hsE(w:World)(p:Str×Tok):Int×Value:=(hashStr w p.1,.str p.1 p.2)
theorem bh.texts{a:Addr}{h:Heap}{o:Obj}{c:Array (Int×Value)}(d:StrsAre (c.toList.map (·.2)) ss)(g:ss.Perm ks)(f:∀e∈c.toList,∃z u,e=(hashStr w z,Value.str z u))(xs:List (Int×Value))(b:xs.Perm c.toList):∃zs:List (Str×Tok),xs=zs.map (hsE w)/\(zs.map (·.1)).Perm ks:=by
 have all:∀l,(∀e∈l,∃z u,e=(hashStr w z,Value.str z u))->∃zs:List _,l=zs.map (hsE w):=λl=>by
  induction l with
  | nil=>exact λ_=>%[[]|rfl]
  | cons e l i=>
    intro h;have%[z,u|rfl]:=h e Zm;have%[zs|rfl]:=i λx b=>h x (Zk _ b)
    exact%[(z,u)::zs|rfl]
 have%[zs|rfl]:=all xs λe j=>f e (b.mem_iff.mp j)
 refine%[zs,rfl|?_];have%[ts,m|n]:=ci d (b.map _);have e:ts=zs.map (·.1):=by
  rw[<-m.strs,Yt,Yt];rfl
 exact e▸n.trans g
theorem pX{f:List Addr}{c:ZI}{Q:Array (Int×Value)->Shared->Prop}(Y:bh w a ks s.heap)(hO:∀b∈f,∃js,bh w b js s.heap)(q:∀r,c=some r->r≠a/\bh w r [] s.heap)
 (hQ:∀(zs:List (Str×Tok)) (d:Drawn) (h':Heap),(zs.map (·.1)).Perm ks->(∀b o,c≠some b->s.heap.get? b=some o->h'.get? b=some o)->(∀r,c=some r->bh w r [] h')->Q (zs.map (hsE w)).toArray {s with heap:=h',drawn:=d}):
 ↥A (setWalkUnseen a f c) Q E s:=by
 have%[o,i,ep,t,ss,ho,ab,hd,L,hp,ac,M,J,hf,N|j]:=id Y;have g:∀(xs:List _) d h',xs.Perm i.toList->(∀b o,c≠some b->s.heap.get? b=some o->h'.get? b=some o)->(∀r,c=some r->bh w r [] h')->Q xs.toArray {s with heap:=h',drawn:=d}:=λxs d h' hx v h2=>by
  have%[zs,rfl|hz]:=bh.texts (a:=a) (h:=h') (o:=o) L hp M xs hx;exact hQ zs d h' hz v h2
 have walk:↥A (setWalk a) Q E s:=by
  refine Z2 (wpAny_setState_of ho hd hf ?_);show wpAny _ _ (if aS w=true then _ else _) _ _ _;by_cases O:aS w=true
  .rw[if_pos O];refine Z2 (wpAny_askSetting (Z3 ?_));have:=g (pickOrder (w.params.setOrder a ep) i).toList s.drawn s.heap (pK _ _) (λ_ _ _ e=>e) λr e=>(q r e).2
   exact this
  .rw[if_neg O]
   split
   .exact Z2 (qU i.size i.toList _ _ ∅ λys d p=>Z3 (g ys d s.heap p (λ_ _ _ e=>e) λr e=>(q r e).2))
   .refine Z2 ?_;show wpAny _ _ (if(!t.led&&decide _)=true then unsupported _ else pure ()) _ _ _;rw[j,show aS w=false by simpa using O];refine Z3 (Z3 ?_);have:=g i.toList s.drawn s.heap (.refl _) (λ_ _ _ e=>e) λr e=>(q r e).2
    exact this
 refine Z2 (wpAny_setState_of ho hd hf ?_);show wpAny _ _ (if(aS w||t.led&&t.plain||decide _)=true then _ else _) _ _ _;by_cases v:(aS w||t.led&&t.plain||decide (i.size<=1))=true
 .rw[if_pos v];exact walk
 .rw[if_neg v];refine Z2 (A8 _ (λb J=>?_) ?_)
  .rcases mem_cons.mp J with e|e
   .exact e▸%[_|Y]
   .exact hO b e
  refine Z2 (wpAny_rule ?_);cases c with
  | none=>
    have:=g i.toList s.drawn s.heap (.refl _) (λ_ _ _ e=>e) λr e=>(q r e).2
    exact Z3 this
  | some r=>
    have%[ne,o2,T,ag,u,ah,l,y,m,B,U,C,G,H,I,aa|n]:=q r rfl;dsimp only;refine Z2 (wpAny_setState_of l m I ?_)
    split
    .refine Z2 (wpAny_storeSet_of l m ?_ (fits_of_scanBound H));have:=g i.toList s.drawn _ (.refl _) (λb o J e=>((SameBut.update s.heap r (Obj.putSet T {u with led:=u.led&&t.led,plain:=u.plain&&t.plain})).2 b λz=>J (by rw[z])).trans e) λr' e=>?_
     .exact Z3 this
     .cases e;exact(bh.stored (t':={u with led:=u.led&&t.led,plain:=u.plain&&t.plain}) l y m B U C G H I (by rw[(N λz=>v (by rw[z];simp)),Bool.and_false]) (by rw[n,j,Bool.and_self])).2
    .have:=g i.toList s.drawn s.heap (.refl _) (λ_ _ _ e=>e) λr e=>(q r e).2
     exact Z3 this
end
section
#where
theorem C3(h:jt (Sum.inr z) (Value.str y u)=true):y=z:=by
 rcases bi h with⟨i,t',a,b⟩|⟨c,t',a,b⟩
 .lia
 grind
theorem t4{ks:ZB}(i:s.heap.get? a=some o)(l:o.data= .set b H t)(c:∀e∈b.toList,∃z u,e=(hashStr w z,Value.str z u))(C:b.size<scanBound)(m:t.fits b.size=true)
 (n:∀r,(r=none->∀e∈b.toList,∀u,e.2≠ .str z u)->(∀j,r=some j->∃u,b.toList[j]? =some (hashStr w z,.str z u))->Q r s):↥A (setFind a (.str z tk) (hashStr w z)) Q E s:=by
 have p:ElemsOf (aQ prog w) b.toList:=pJ c;have d:(aQ prog w).is (Sum.inr z) (.str z tk)=true:=df z tk;refine Z2 (wpAny_setState_of i l m ?_);dsimp only;rw[byScan_of rfl C p];refine Z2 (wpAny_rule (Z2 (wpAny_setScan_of d i l m p ?_)));cases v:List.findIdx? _ b.toList with
 | some j=>
   have%[B,f|_]:=List.findIdx?_eq_some_iff_getElem.mp v;dsimp only;rw[zero_add];refine Z3 (n _ (λh=>(nomatch h)) λI e=>?_);cases e;have%[y,u|g]:=c _ (Yd B);rw[g]at f;rw[C3 (u:=u) f]at g;exact%[u|by rw[Z4 B,g]]
 | none=>
   refine Z3 (n none (λ_ e G u q=>?_) λj e=>(nomatch e));have:=List.findIdx?_eq_none_iff.mp v e G;rw[q,show(aQ prog w).is (Sum.inr z) (Value.str z u)=true from df z u]at this;cases this
theorem yB{t:SetTable}(h:t.fits n=true)(hi:i<n):(t.drop i).fits (n-1)=true/\(t.drop i).led=t.led/\(t.drop i).plain=t.plain:=by
 unfold SetTable.fits at h ⊢;rw[Zx,beq_iff_eq,decide_eq_true_eq]at h;unfold SetTable.drop;have:t.place[i]? =some t.place[i]:=by simp
 rw[this];refine%[?_,rfl|rfl];rw[Zx,beq_iff_eq,decide_eq_true_eq];unfold SetTable.fill at h ⊢;simp only[SetTable.eraseAt,SetTable.insertAt,size_append,Array.size_extract,Xk]
 lia
theorem vU(h:i<a.size):(SetTable.eraseAt a i).toList=a.toList.eraseIdx i:=by
 rw[List.eraseIdx_eq_take_drop_succ,SetTable.eraseAt,Xf,toList_extract,toList_extract,List.extract_eq_take_drop,List.extract_eq_take_drop];simp;exact Zn ∅
theorem t5{ks:ZB}(I:bh w a ks s.heap)(m:∀h' b,SameBut a s.heap h'->bh w a (ks.erase z) h'->Q b (s>>>h')):↥A (setDiscardHashed a (.str z tk) (hashStr w z)) Q E s:=by
 have%[o,c,ep,t,ss,h,n,j,d,J,p,f,L,v,y|g]:=id I;refine Z2 (t4 (ks:=ks) h j f L v λr M N=>?_);cases r with
 | none=>
   have O:z∉ks:=λq=>by
    have%[u|l]:=(dC d).mpr (J.mem_iff.mpr q);have%[e,B|T]:=Xq l;exact M rfl e B u T
   rw[List.erase_of_not_mem O]at m;exact Z3 (m s.heap false (SameBut.refl a s.heap) I)
 | some i=>
   have%[u|l]:=N i rfl;have hi:i<c.size:=(Xn l).1;have C:((hashStr w z,Value.str z u)::(SetTable.eraseAt c i).toList).Perm c.toList:=by
    rw[vU hi];have:=gi (xs:=c.toList) (hi);rwa[(Xn l).2]at this
   have%[ts,G|U]:=ci d (C.map _);cases G with
   | cons _ _ G=>
   have%[Y,d2|d3]:=yB v hi;have H:(SetTable.eraseAt c i).size=c.size-1:=by
    rw[<-Zb,<-Zb,<-C.length_eq];simp
   refine Z2 (wpAny_setState_of h j v ?_);dsimp only;refine Z2 (wpAny_storeSet_of h j (Z2 (wpAny_point (Z3 (m _ true (SameBut.update s.heap a _) (bh.stored h n j G ((List.cons_perm_iff_perm_erase.mp (U.trans J)).2) (p.erase z) (λe B=>f e (C.mem_iff.mp (Zk _ B))) ?_ ?_ ?_ ?_).2)))) (fits_of_scanBound ?_))
   .lia
   .exact H▸Y
   .exact d3▸y ⋯
   .exact d2▸g
   .lia
end
theorem wV(h:STab.WF t a)(b:a.size<=t.mask):t.fits a.size=true:=by
 unfold SetTable.fits SetTable.fill;rw[h.size,h.dum];simpa using b
section
#where
def rO(w:World)(a:Addr)(n:Nat)(h:Heap):Prop:=∃o b t,h.get? a=some o/\o.ExactSet/\o.data= .set #[] b t/\t.place= #[]/\t.dummies= #[]/\t.led=(!aS w)/\(∃k,t.mask+1=2^k)/\7<=t.mask/\n<=t.mask
theorem rO.fits{t:SetTable}(a:t.place= #[])(b:t.dummies= #[]):t.fits (#[]:Array (Int×Value)).size=true:=by
 unfold SetTable.fits SetTable.fill;rw[a,b];simp
theorem C4{n:Nat}{Q:Unit->Shared->Prop}(a:s.heap.get? r=some (aT w))(f:n<=1000)(c:∀h',SameBut r s.heap h'->rO w r n h'->Q () (s>>>h')):↥A (setRoomFor r n) Q E s:=by
 have d:(SetTable.fresh 0 0 (!aS w)).fits _=true:=rO.fits rfl rfl;refine Z2 (wpAny_setState_of a rfl d ?_);show wpAny _ _ (match(if(0+n)*5>=7*3 then some ((0+n)*2)else none)with|some x=>setRelay r x|_=>pure ()) _ _ _;by_cases h:(0+n)*5>=7*3
 .rw[if_pos h];refine STab.relay_w a rfl d ∅ ⋯ λb t' P W l p g m2=>c _ (SameBut.update s.heap r _) ?_
  obtain rfl:b= #[]:=by
   have:=P.length_eq;simpa using this
  have e:=by
   have q:=get?_update_self (Obj.putSet #[] t') a (by rfl);rwa[putSet_of #[] t' rfl]at q
  exact%[_,_,t',e,%[rfl,rfl|rfl],rfl,Array.eq_empty_of_size_eq_zero W.size,W.dum,l,W.pow,W.big|⋯]
 .rw[if_neg h];exact Z3 (c s.heap (SameBut.refl r s.heap) %[_,_,_,a,%[rfl,rfl|rfl],rfl,rfl,rfl,rfl,%[3|rfl],Zi 7|by show n<=7;lia])
theorem A9{ks:ZB}(M:bh w a ks s.heap)(N:s.heap.get? r=some (aT w))(ne:r≠a)(h1:1<=ks.length)(h2:ks.length<=1000)(O:∀h',SameBut r s.heap h'->bh w r ks h'->Q () (s>>>h')):↥A (setMerge r a) Q E s:=by
 have%[o,d,ep,t,ss,T,U,Y,n,G,z,B,hb,H,C|g]:=id M;have hn:d.size=ks.length:=by
  have q:=bw n;rw[Z6,Zb,G.length_eq]at q;exact q
 have pl:t.plain=false:=C ⋯;unfold setMerge;rw[if_neg (by simpa using ne)];refine Z2 (wpAny_setState_of T Y H ?_);dsimp only;rw[if_neg (λh:d.isEmpty=true=>by have:=Zo h;lia)];refine Z2 (C4 N ⋯ λh' sb ⟨o2,aa,u,i,v,j,I,J,L,k2,b2,m2⟩=>Z2 (wpAny_setState_of (s:=(s>>>h')) i j (rO.fits I J) ?_));dsimp only;have m:u.fill=0:=by unfold SetTable.fill;rw[I,J];rfl
 have put:∀(b:Array (Int×Value)) (t':SetTable),b.toList.Perm d.toList->t'.fits b.size=true->t'.plain=false->t'.led=(!aS w)->↥A (storeSet r b t') Q E (s>>>h'):=λb t' P f p l=>by
  have sz:b.size=d.size:=by rw[<-Zb,P.length_eq,Zb]
  have%[ts,r1|r2]:=ci n (P.map (·.2));exact wpAny_storeSet_of (s:=(s>>>h')) i j (O _ (sb.trans (SameBut.update h' r _)) (bh.stored (w:=w) i v j r1 (r2.trans G) z (λe he=>B e (P.mem_iff.mp he)) ⋯ f p l).2) (fits_of_scanBound ⋯)
 unfold SetTable.road;rw[m,if_neg (by decide)]
 split
 .exact put d _ (.refl _) H (by show(u.plain&&t.plain)=false;rw[pl,Bool.and_false]) (by show(u.led&&t.led)=_;rw[L,g,Bool.and_self])
 .have%[k|hk]:=k2;have%[t',c,e1,e2,e3,e4,e5,W|P]:=STab.laid_ok hk b2 d ⋯ u.finger u.moves _ _;have sz:(c.filterMap (d[·]?)).size=d.size:=by rw[<-Zb,P.length_eq,Zb]
  rw[e1];refine Z2 ?_;show wpAny _ A (if((c.filterMap _).size != d.size)=true then _ else pure _) _ E _;rw[if_neg (by simp[sz])];exact Z3 (put _ t' P (show t'.fits _=true from wV W (by rw[sz,e2];lia)) (by rw[e4,pl,Bool.and_false]) (by rw[e3,L,g,Bool.and_self]))
 .rename_i y
  split at y<;> cases y
end
theorem bh.nd(S:bh w a ks h):ks.Nodup:=by
 have%[_,_,_,_,_,_,_,_,_,_,h|_]:=S;exact h
section
#where
theorem rP(c:bh w b f s.heap)(d:Q true s):↥A (Builtin.Frozenset.isAnySet (.ref b)) Q E s:=by
 have%[o,g,h,t,ss,e,a|_]:=c;exact Z2 (wpAny_isInstance (b:=true) %[o,e|a.1] (by kernel_rfl) (Z3 d))
theorem jR(d:bh w b e s.heap)(f:Q e.length s):↥A (Builtin.Frozenset.sizeOf b) Q E s:=by
 have%[o,u,v,t,ss,g,h,i,a,j,l,m,y,n,p|c]:=d;have r:=by
  have q:=bw a;rw[Z6,Zb,j.length_eq]at q;exact q
 exact Z2 (wpAny_setEntries_of g i n (Z3 (r▸f)))
theorem Ba(N:bh w r ks s.heap)(O:bh w b T s.heap)(ne:r≠b)(big:T.length<ks.length)(ai:ks.length<=900)
 (hQ:∀h' d f,(∀c o,c≠r->s.heap.get? c=some o->h'.get? c=some o)->(∀x,x∈f↔x∈ks/\x∉T)->bh w r f h'->Q () {s with heap:=h',drawn:=d}):↥A (Builtin.Frozenset.differenceUpdate nm r (.ref b)) Q E s:=by
 unfold Builtin.Frozenset.differenceUpdate;rw[if_neg (by simpa using ne.symm)];refine Z2 (rP O ?_);rw[if_pos rfl];refine Z2 (Z3 (Z2 (jR O (Z2 (jR N ?_)))));rw[if_neg ⋯];have%[o,es,ep,t,ss,ho,al,hd,an,hp,as,a0,hb,hf,a1|ah]:=id O;have B:∀(s':Shared) (Q':Nat->Shared->Prop),s'.heap.get? b=some o->Q' ep s'->↥A (setEpoch b) Q' E s':=λs' Q' e q=>by
  unfold setEpoch;exact Z2 (wpAny_setState_of e hd hf (Z3 q))
 refine Z2 (B s _ ho (Z2 (wpAny_holding (Z2 (pX O (λc j=>%[ks|(Xp j)▸N]) (λ_ e=>(nomatch e)) λzs d h1 pz k1 _=>Z2 ?_)))));rw[<-forIn_toList];refine eK (λxs _ s'=>∃g rest h',zs=g++rest/\xs=rest.map (hsE w)/\s'={s with heap:=h',drawn:=d}/\(∀c o,c≠r->s.heap.get? c=some o->h'.get? c=some o)/\∃f,bh w r f h'/\∀x,x∈f↔x∈ks/\x∉g.map (·.1)) _ _ _
  %[[],zs,h1,rfl,rfl,rfl,λc o _ e=>k1 c o ∅ e,ks,N.keep λo e=>k1 r o ∅ e|by simp] ?_ ?_
 .intro x xs _ s' %[g,rest,h',U,ex,rfl,Y,f,S|h];cases rest with
  | nil=>cases ex
  | cons p rest=>
  rw[Ys]at ex;injection ex with aa ab
  subst aa;refine Z2 (wpAny_holding (t5 (z:=p.1) (tk:=p.2) (s:={s with heap:=h',drawn:=d}) S λh2 bb sb S2=>Z2 ?_));unfold Builtin.Frozenset.unchanged;have C:∀c o,c≠r->s.heap.get? c=some o->h2.get? c=some o:=λc o j e=>(sb.2 c j).trans (Y c o j e)
  refine Z2 (B {s with heap:=h2,drawn:=d} _ (C b o ne.symm ho) ?_);rw[if_neg ∅];refine Z3 (Z3 %[g++[p],rest,h2,by rw[U,Ze];rfl,ab,rfl,C,_,S2|λx=>?_]);rw[S.nd.mem_erase_iff,h,Zd,Yu,Ys,map_nil,mem_singleton,not_or]
  constructor
  .exact λ⟨a,b,c⟩=>%[b,c|a]
  .exact λ⟨b,c,a⟩=>%[a,b|c]
 .intro _ s' %[g,rest,h',U,ex,rfl,Y,f,S|h];obtain rfl:rest=[]:=by
   cases rest with
   | nil=>rfl
   | cons p rest=>cases ex
  rw[Zz]at U;have h:∀x,x∈f↔x∈ks/\x∉T:=λx=>by rw[h,<-U,pz.mem_iff]
  have ac:f.length≠0:=λe=>by
   have:=STab.nodup_sub N.nd (m:=T) λx hx=>Decidable.byContradiction λq=>by
    have:=(h x).mpr %[hx|q];rw[length_eq_zero_iff.mp e]at this;cases this
   lia
  have sub:=STab.nodup_sub S.nd λx hx=>((h x).mp hx).1
  refine Z3 ?_;have%[o2,n,a2,t2,a3,u,G,v,i,H,I,J,a4,L,M|y]:=id S;have hn:=by
   have q:=bw i;rw[Z6,Zb,H.length_eq]at q;exact q
  refine Z2 (wpAny_setState_of u v L ?_);dsimp only
  split
  .rw[show SetTable.grown n.size=n.size*4 by unfold SetTable.grown;rw[if_neg ⋯]];refine STab.relay_w u v L ⋯ ⋯ λag t' P W l p m1 m2=>?_
   have sz:ag.size=n.size:=by rw[<-Zb,P.length_eq,Zb]
   have%[ts,r1|r2]:=ci i (P.map (·.2));exact hQ _ d f (λc o j e=>((SameBut.update h' r _).2 c j).trans (Y c o j e)) h (bh.stored u G v r1 (r2.trans H) I (λe he=>J e (P.mem_iff.mp he)) ⋯ (wV W ⋯) (p▸M ⋯) (l▸y)).2
  .exact Z3 (hQ h' d f Y h S)
end
section
#where
theorem t6(a:Q (.ref ⇑s) (s>>>s.heap.push (aT w))):↥A (newSet (.type "set")) Q E s:=by
 exact Z2 (Z2 (wpAny_askSetting (Z3 (wpAny_newObj_type a))))
theorem t7(d:bh w a ks s.heap)(e:Q (.type "set") s):↥A (Builtin.Frozenset.baseOf a) Q E s:=by
 have%[o,g,h,t,ss,f,c|_]:=d;exact Z2 (wpAny_isInstance (b:=true) %[o,f|c.1] (by kernel_rfl) (Z3 e))
theorem C5(v:bh w a ks s.heap)(C:bh w b I s.heap)(aa:ks.length<=900)
 (hQ:∀h' d i,(∀c o,s.heap.get? c=some o->h'.get? c=some o)->(∀x,x∈i↔x∈ks/\x∉I)->bh w ⇑s i h'->Q (.ref ⇑s) {s with heap:=h',drawn:=d}):↥A (Builtin.Frozenset.difference nm a (.ref b)) Q E s:=by
 have lt:∀{c:Addr} {ls:ZB},bh w c ls s.heap->c≠⇑s:=λ{c ls} h=>by
  have%[o,_,_,_,_,U|_]:=h;exact Zt (Zv U)
 have J:∀c o,s.heap.get? c=some o->(s.heap.push (aT w)).get? c=some o:=λc o e=>Z7 _ e
 have Y:(s.heap.push (aT w)).get? ⇑s=some (aT w):=Zj _ rfl;have S1:=v.keep λo e=>J a o e
 have O1:=C.keep λo e=>J b o e
 unfold Builtin.Frozenset.difference;dsimp only;refine Z2 (rP C ?_);rw[if_neg (by decide)];refine Z2 (Z3 ?_);rw[if_neg ∅,if_pos rfl];refine Z2 (jR C (Z2 (jR v ?_)))
 generalize hG:s.heap.push (aT w)=G at J Y S1 O1
 split
 .refine Z2 (wpAny_rule (Z2 ?_));unfold Builtin.Frozenset.copyOf;refine Z2 (t7 v (Z2 (t6 ?_)));rw[hG];refine Z2 (Z3 (Z2 (A9 (s:=(s>>>G)) S1 Y (Ne.symm (lt v)) ⋯ ⋯ λh1 sb R1=>Z3 ?_)));have k1:∀c o,s.heap.get? c=some o->h1.get? c=some o:=λc o e=>(sb.2 c (Zt (Zv e))).trans (J c o e)
  exact Z2 (Z3 (Z2 (wpAny_holding (Ba (s:=(s>>>h1)) R1 (C.keep λo e=>k1 b o e) (Ne.symm (lt C)) ⋯ aa λl d i k2 y M=>Z3 (hQ l d i (λc o e=>k2 c o (Zt (Zv e)) (k1 c o e)) y M)))))
 .refine Z2 (t7 v (Z2 (t6 ?_)));rw[hG];refine Z2 (Z3 ?_);have%[o,es,ep,t,ss,U,a2,hd,a3,hp,a4,a5,hb,hf,a6|an]:=id S1;have L:∀(s':Shared) (Q':Nat->Shared->Prop),s'.heap.get? a=some o->Q' ep s'->↥A (setEpoch a) Q' E s':=λs' Q' e q=>by
   unfold setEpoch;exact Z2 (wpAny_setState_of e hd hf (Z3 q))
  refine Z2 (L (s>>>G) _ U ?_);rw[if_pos rfl];refine Z2 (wpAny_holding (Z2 (pX (s:=(s>>>G)) S1 (λc B=>?_) (λr e=>⟨by cases e;exact Ne.symm (lt v),by cases e;exact bh.empty Y⟩) λzs d h1 pz k1 r1=>Z2 ?_)))
  .simp only[Yx,X8,or_false]at B;rcases B with rfl|rfl
   .exact%[_|O1]
   .exact%[_|bh.empty Y]
  rw[<-forIn_toList];refine eK (λxs _ s'=>∃f rest h',zs=f++rest/\xs=rest.map (hsE w)/\s'={s with heap:=h',drawn:=d}/\(∀c o,c≠⇑s->G.get? c=some o->h'.get? c=some o)/\∃i,bh w ⇑s i h'/\i.length<=f.length/\∀x,x∈i↔x∈f.map (·.1)/\x∉I) _ _ _
   %[[],zs,h1,rfl,rfl,rfl,(λc o B e=>k1 c o (λq=>B (Za q).symm) e),[],r1 _ rfl,Zi _|by simp] ?_ ?_
  .intro x xs _ s' %[f,rest,h',H,ex,rfl,g,i,M,ml|y];cases rest with
   | nil=>cases ex
   | cons p rest=>
   rw[Ys]at ex;injection ex with ab N
   subst ab;have zl:zs.length=ks.length:=by rw[<-pz.length_eq,Z6]
   have pl:f.length<ks.length:=by rw[<-zl,H,Z9,Zr];lia
   rw[if_pos rfl];have m:∀(l:Heap) Qx,(∀c o,c≠⇑s->G.get? c=some o->l.get? c=some o)->Qx (.yield ⟨⟩) {s with heap:=l,drawn:=d}->↥A (Builtin.Frozenset.unchanged nm a ep>>= λ_=>pure (ForInStep.yield PUnit.unit)) Qx E {s with heap:=l,drawn:=d}:=λl Qx k2 q=>by
    refine Z2 ?_;unfold Builtin.Frozenset.unchanged;refine Z2 (L {s with heap:=l,drawn:=d} _ (k2 a o (lt v) U) ?_);rw[if_neg ∅];exact Z3 (Z3 q)
   have mem:∀x,x∈(f++[p]).map (·.1)↔x∈f.map (·.1)\/x=p.1:=λx=>by rw[Zd,Yu,Ys,map_nil,mem_singleton]
   have%[o2,a7,bc,t2,bf,ac,as,ag,n,O,a0,T,ah,ai,a1|al]:=id O1;refine Z2 (wpAny_holding (Z2 (t4 (ks:=I) (z:=p.1) (tk:=p.2) (g b o2 (lt C) ac) ag T ah ai λq q1 q2=>Z2 (Z3 ?_))));cases q with
   | none=>
     have hz:p.1∉I:=λz=>by
      have%[u|hu]:=(dC n).mpr (O.mem_iff.mpr z);have%[e,he|q3]:=Xq hu;exact q1 rfl e he u q3
     rw[if_pos (by rfl)];refine Z2 (jF (z:=p.1) (tk:=p.2) M (by rw[show scanBound=4096 from rfl];lia) λl bb sb M2=>Z3 ?_);have k2:=λc o B e=>(sb.2 c B).trans (g c o B e)
     refine m l _ k2 %[f++[p],rest,l,by rw[H,Ze];rfl,N,rfl,k2,_,M2,?_|λx=>?_]
     .rw[Z9,Ym]
      split
      .lia
      .rw[Z9,Ym];lia
     .rw[mem];by_cases hx:x=p.1
      .subst hx;refine%[λ_=>%[.inr rfl|hz]|λ_=>?_]
       split
       .rename_i h;exact h
       .exact Yw _ Zm
      .split
       .rw[y];exact%[λh=>%[.inl h.1|h.2]|λh=>%[h.1.resolve_right hx|h.2]]
       .rw[Yu,mem_singleton,y];exact%[λh=>let h:=h.resolve_right hx;%[.inl h.1|h.2]|λh=> .inl %[h.1.resolve_right hx|h.2]]
   | some j=>
     have hz:p.1∈I:=by
      have%[u|hu]:=q2 j rfl;exact O.mem_iff.mp ((dC n).mp %[u|Xr %[_,Z8 hu|rfl]])
     rw[if_neg ∅];refine Z3 (m h' _ g %[f++[p],rest,h',by rw[H,Ze];rfl,N,rfl,g,i,M,by rw[Z9];lia|λx=>?_]);rw[y,mem];refine%[λh=>%[.inl h.1|h.2]|λh=>%[h.1.resolve_right λe=>h.2 (e▸hz)|h.2]]
  .intro _ s' %[f,rest,h',H,ex,rfl,g,i,M,ml|y];obtain rfl:rest=[]:=by
    cases rest with
    | nil=>rfl
    | cons p rest=>cases ex
   rw[Zz]at H;exact Z3 (Z3 (hQ h' d i (λc o e=>g c o (Zt (Zv e)) (J c o e)) (λx=>by rw[y,<-H,pz.mem_iff]) M))
end
theorem rQ:entryFor table "set.__sub__"=some Builtin.«frozenset.__sub__»:=entryFor_alias (id':="frozenset.__sub__") (by kernel_rfl) rfl (by decide +kernel) (by kernel_rfl)
section
variable{X:Cx}
def Bb(w:World):R2:=λx y H Q=>asR x λa=>asR y λb=>∃ks d,H a=some (jd w a ks)/\H b=some (jd w b d)/\ks.length<=900/\∀l c,H l=none->(∀x,x∈c↔x∈ks/\x∉d)->c.Nodup->Q (.ref l) (upd H l (jd w l c))
theorem C6:OpR X (binaryOp .Sub) (Bb X.w):=by
 intro pins s B H x y v u Q I m n h;have%[a,rfl|p]:=gP h;have%[b,rfl,ks,C,r,w,e|q]:=gP p;cases m;cases n;have%[S,_|_]:=(I.hok a _ r)
 have%[O,_|_]:=(I.hok b _ w)
 have f:∀{c:Addr} {j:ZB},bh X.w c j s.heap->s.TypeIs (.ref c) _:=λ{c j} h=>by
  have%[o,E,G,t,ss,g,i|_]:=h;exact%[o,g|i.1]
 refine wpAny_binaryOp_same (f S) (f O) F.fills_set_sub F.slot_set_sub (wpAny_call_entry F.slot_set_sub (f S) rQ (Z2 (Z2 (Z3 (Z3 (Z2 (Z2 (rP S (rP O (Z2 (Z3 (Z2 (C5 S O e λh' d l k z M=>Z3 %[_,rfl,by simp,.ref ⇑s,_,I.stoodS (o:=jd X.w ⇑s l) (I.keptS k rfl rfl) (Zi _) %[M,?_|λ_ _ A k1=>bh.keep A k1],rfl|q _ l (I.hok.fresh (Zi _)) z M.nd])))))))))))) (F.args_set_sub_2 _ _));have%[o,_,_,_,_,g|_]:=M;exact%[o|g]
theorem Fy(h:X.w=w):OpQ X (binaryOp .Sub) (Bb w):=by subst h;exact⟨C6⟩
end
theorem rR{X:Cx}(a:bB k X.A)(b:behindInMarks .NotIn o=false)(hi:QE X i ty)(c:QE X o d):QT X (.Compare i [.NotIn] [o] pos) (tB (qN ty d)):=
 ⟨y6 (xO (by have:=a.units;lia) hi.h c.h) b⟩
open PySem PySem.Spec PyProof.Rows PySem.SeqAt
section
variable{X:Cx}
end
section
variable{X:Cx}{K:ZA}{pos:Pos}
theorem af(i:Nat){x:Str}(h:(X.N[i]?,X.env.scope.names.lookup x,x==("__debug__":Str),x==("__classdict__":Str))=(some x,some .local,false,false)):QE X (.Name x pos) (ot i):=by
 simp only[Prod.mk.injEq]at h;exact vn i h.1 (.inl h.2.1) h.2.2.1 h.2.2.2
theorem cC(i:Nat){x:Str}(h:(X.N[i]?,X.env.scope.names.lookup x,x==("__debug__":Str),x==("__classdict__":Str))=(some x,some .cell,false,false)):QE X (.Name x pos) (ot i):=by
 simp only[Prod.mk.injEq]at h;exact vn i h.1 (.inr (.inl h.2.1)) h.2.2.1 h.2.2.2
theorem aI{mg:ZC}{j k:Nat}{x:Str}{ps:ZB}{sp:Sp}{p:Pos}{e:Expr}{a:List Expr}{t:TA}(C:Cal X.prog X.w K mg X.base j x ps sp)(b:bB k X.A)(h:(X.K,X.mg,X.env.kindOf x,Nat.ble j k,x==("__debug__":Str),(e::a).any aW)=(K,mg,some .globalImplicit,true,false,false))(c:QA X (e::a) t):QE X (.Call (.Name x p) (e::a) [] pos) (oW sp [] E0 t):=by
 simp only[Prod.mk.injEq]at h;have%[rfl,rfl|h]:=h;exact calE C b h.1 h.2.1 h.2.2.1 h.2.2.2 c
theorem GG{mg:ZC}{j k:Nat}{x:Str}{ps:ZB}{sp:Sp}{p:Pos}{e:Expr}{a:List Expr}{t:TA}(C:CV X.prog X.w K mg X.base j x ps sp)(c:tT K mg x)(b:bB k X.A)(h:(X.K,X.mg,X.env.kindOf x,Nat.ble (j+1) k,x==("__debug__":Str),(e::a).any aW)=(K,mg,some .globalImplicit,true,false,false))(d:QA X (e::a) t):QE X (.Call (.Name x p) (e::a) [] pos) (wA (aD mg x) sp [] E0 t):=by
 simp only[Prod.mk.injEq]at h;have%[rfl,rfl|h]:=h;exact GE C c b h.1 h.2.1 h.2.2.1 h.2.2.2 d
theorem t8{mg:ZC}{j k:Nat}{x m:Str}{ps:ZB}{sp:Sp}{a:Pos}{o:Expr}{b:TE}{pl:Sem Bool}(C:yq X.prog X.w K mg X.base j x m ps sp)(c:tT K mg x)(e:bB k X.A)(h:(X.K,X.mg,Nat.ble j k)=(K,mg,true))
 (g:eval (.Call (.Attribute o m a) [] [] pos) X.env=(do
  let d<-eval o X.env
  standAt a.atName
  let(f,first)<-holding [d] (getMethod d m pl)
  callWith pos f first (backTo pos (starEach [] X.env)) (backToKw pos (keywordEach [] X.env)))) (i:QE X o b):QE X (.Call (.Attribute o m a) [] [] pos) (wz (aD mg x) m sp [] E0 b xF):=by
 simp only[Prod.mk.injEq]at h;have%[rfl,rfl|h]:=h;exact Fq C c e h g i
theorem cbO{x:Str}{id:String}{r:List V->Hp->VK->Prop}{p:Pos}{e:Expr}{a:List Expr}{t:TA}(b:cr X (.builtin id) r)(c:X.mg x=none)(d:bootBuiltins x=some (.builtin id))(h:(X.env.kindOf x,x==("__name__":Str),x==("__debug__":Str),(e::a).any aW)=(some .globalImplicit,false,false,false))(f:QA X (e::a) t):QE X (.Call (.Name x p) (e::a) [] pos) (tCB r t):=by
 simp only[Prod.mk.injEq]at h;exact cbE b h.1 c d h.2.1 h.2.2.1 h.2.2.2 f
theorem ctO{x:Str}{T:String}{r:List V->Hp->VK->Prop}{p:Pos}{e:Expr}{a:List Expr}{t:TA}(b:cr X (.type T) r)(c:X.mg x=none)(d:bootBuiltins x=some (.type T))(h:(X.env.kindOf x,x==("__name__":Str),x==("__debug__":Str),(e::a).any aW)=(some .globalImplicit,false,false,false))(f:QA X (e::a) t):QE X (.Call (.Name x p) (e::a) [] pos) (tCB r t):=by
 simp only[Prod.mk.injEq]at h;exact ctE b h.1 c d h.2.1 h.2.2.1 h.2.2.2 f
theorem bmO{o e:Expr}{c:List Expr}{f:TE}{t:TA}{name:Str}{a b:Pos}{T id:String}{r:V->List V->Hp->VK->Prop}(g:PlainAttrs T)(slot:Slot T name id)(d:typeOf (.builtin id)=pure (.type "method_descriptor"))(i:MtQ X id r)
 (h:(X.K,gc o,(e::c).any aW,Nat.blt (e::c).length 30,a.endLine==b.line)=(K,false,false,true,true)) (j:QE X o f) (l:QA X (e::c) t):QE X (.Call (.Attribute o name a) (e::c) [] b) (tBM K T r f t):=by
 simp only[Prod.mk.injEq]at h;have%[rfl|h]:=h;exact bmE rfl g slot d i h.1 h.2.1 h.2.2.1 h.2.2.2 j l
theorem aO(i:Nat){x:Str}{e:Expr}{b:TE}{a:Pos}(c:X.N.Nodup)(h:(X.N[i]?,X.env.scope.names.lookup x,eW e)=(some x,some .local,false))(d:QE X e b):QS X (.Assign [.Name x a] e pos) (qw b (iS i)):=by
 simp only[Prod.mk.injEq]at h;exact vk i c h.1 (.inl h.2.1) (.inr h.2.1) h.2.2 d
theorem aP(i:Nat){x:Str}(a:X.N.Nodup)(h:(X.N[i]?,X.env.scope.names.lookup x)=(some x,some .local)):QG X (.Name x pos) (iS i):=by
 simp only[Prod.mk.injEq]at h;exact wE i a h.1 (.inl h.2) (.inr h.2)
end
section
#where
variable{K:ZA}{x C:Addr}{name:Str}{v:Value}{ox:Obj}
end
section
variable{X:Cx}{o value:Expr}{nm:Str}{ta tv:TE}{C:Addr}{pos pos':Pos}
end
section
variable{P:Program}{w:World}{K:ZA}{mg:ZC}{base:Heap}{x qual:Str}{st:Stmt}{N ps:ZB}{k:Nat}{sp:Sp}
end
noncomputable def ni:V->Bool
 | .byt _=>false
 | .flt _=>false
 | _=>true
theorem gC(r:aC xs us)(h:j<us.toArray.size):∃x,xs[j]? =some x/\aR x us.toArray[j]:=by
 have l:=h;have a:j<xs.length:=r.length▸l;have%[u,b|c]:=r.get (i:=j) (x:=xs[j]) ∅
 simp_all
theorem pY{A:Around}{s:Shared}{x:V}{u v:Value}(e:ni x=true)(a:aR x u)(c:aR x v):EqAt A s u v true:=by
 cases x with
 | int i=>
   have%[t|rfl]:=a;have%[d|rfl]:=c;have:=EqAt.int_int (A:=A) (s:=s) i t i d;rwa[beq_self_eq_true]at this
 | str z=>
   have%[t|rfl]:=a;have%[d|rfl]:=c;have:=EqAt.str_str (A:=A) (s:=s) z t z d;rwa[beq_self_eq_true]at this
 | byt b=>cases e
 | flt b=>cases e
 | _=>cases a;cases c;exact EqAt.same _
def wW(H:Hp)(x y:V):Prop:=(x=y/\ni x=true)\/∃a b xs,x= .ref a/\y= .ref b/\H a=some (.lst xs)/\H b=some (.lst xs)/\xs.all ni=true
theorem Bc{xs:List V}(h:xs.all ni=true){j:Nat}{x:V}(e:xs[j]? =some x):ni x=true:=all_eq_true.mp h x (Z8 e)
section
#version
theorem vV(I:Inv X pins σ H s){A:Around}(h:wW H x y)(n:A.units<cLine)(f:aR x u)(g:aR y v):EqAt A s u v true:=by
 rcases h with⟨rfl,d⟩|⟨a,b,xs,rfl,rfl,o,p,d⟩
 .exact pY d f g
 .cases f;cases g;by_cases e:a=b
  .subst e;exact EqAt.same _
  .have%[us,i,q|_]:=I.list (SqL.of o);have%[vs,l,r|_]:=I.list (SqL.of p);have c:=RcAt.lists (A:=A) (s:=s) (e:=λ_=>true) q.isList r.isList (by rw[Zp,Zp,<-i.length,<-l.length]) n λj t w=>by
    have%[x,ex|z]:=gC i t;have%[y,m|B]:=gC l w;rw[ex]at m;cases m;exact pY (Bc d ex) z B
   rw[show(List.range us.toArray.size).all (λ_=>true)=true by simp]at c;exact EqAt.of_refs e c
end
section
variable{X:Cx}
abbrev GH:R2:=λx y H Q=>∃a b xs,x= .ref a/\y= .ref b/\H a=some (.lst xs)/\H b=some (.lst [])/\Q (.bl (decide (xs=[]))) H
theorem Fz(p:X.A.units+64<cLine):OpR X (compareOp .Eq) GH:=by
 intro pins s r H x y v u Q I d f h;have%[a,b,xs,rfl,rfl,m,n|q]:=h;cases d;cases f;have%[us,d,i|_]:=I.list (SqL.of m);have%[vs,f,l|_]:=I.list (SqL.of n);obtain rfl:vs=[]:=length_eq_zero_iff.mp f.length.symm;by_cases g:xs=[]
 .subst g;obtain rfl:us=[]:=length_eq_zero_iff.mp d.length.symm;have c:=RcAt.lists (A:=X.A) (e:=λ_=>true) i.isList l.isList rfl ⋯ λj o t=>absurd o (X7 _)
  exact c _ _ _ _ %[.bl _,H,I,rfl|q]
 .rw[Zh g]at q;have c:=RcAt.lists_lengths (A:=X.A) i.isList l.isList (by
   have:us.length≠0:=d.length▸λq=>g (length_eq_zero_iff.mp q)
   simpa using this) ⋯
  exact c _ _ _ _ %[.bl _,H,I,rfl|q]
theorem GI(a:bB k X.A):OpQ X (compareOp .Eq) GH:=⟨Fz a.units⟩
end
theorem np:∀{zs:ZB} {its:ZF},aC (zs.map V.str) its->ReadsAll h its (zs.map PyData.str) []
 |[],_,.nil=> .nil
 | z::zs,_,.cons r v=>by
   have%[t|rfl]:=r;exact .cons (.str _ _) (np v)
noncomputable def nq(p:Addr×ZB):PyData:= .tuple (p.2.map PyData.str)
theorem nt{X:Cx}(I:Inv X pins h H s):∀{ss:ZG} {its:ZF},aE H ss->aC (ss.map λp=>V.ref p.1) its->∃a,ReadsAll s.heap its (ss.map nq) a
 |[],_,_,.nil=>%[_|.nil]
 | p::ss,_,t,.cons r v=>by
   cases r;have%[us,b,%[%[cls,i,data|j],c,d,n|e]|_]:=I.tuple (SqT.of (t p (Zm ..)).2);have%[bs|f]:=nt I (λq g=>t q (Zk _ g)) v;exact%[_|.cons (.tuple c d e (np b)) f]
theorem vW(zs:ZB):PyData.showableAll (zs.map PyData.str)=true/\PyData.hasDictAll (zs.map PyData.str)=false/\PyData.depthAll (zs.map PyData.str)=0:=by
 induction zs with
 | nil=>exact%[rfl,rfl|rfl]
 | cons z zs a=>simp only[Ys,PyData.showableAll,PyData.hasDictAll,PyData.depthAll,a.1,a.2.1,a.2.2];exact%[rfl,rfl|rfl]
theorem vX{zs:ZB}(h:∀z∈zs,z.length<=30/\∀c∈z.cps.toList,c<16^8):PyData.leavesShortAll 8 (zs.map PyData.str)=true/\PyData.weightAll (zs.map PyData.str)<=31*zs.length:=by
 induction zs with
 | nil=>exact%[rfl|Zi _]
 | cons z zs d=>
   have%[a|b]:=d λy e=>h y (Zk _ e)
   have%[l|c]:=h z (Zm ..);simp only[Ys,PyData.leavesShortAll,PyData.weightAll,PyData.weight,a,Zr,Bool.and_true];have:z.length=z.cps.size:=rfl;exact%[all_eq_true.mpr λx f=>Zf (c x f)|⋯]
theorem vY{ss:List _}(h:∀p∈ss,p.2.length<=3/\∀z∈p.2,z.length<=30/\∀c∈z.cps.toList,c<16^8):PyData.showableAll (ss.map nq)=true/\PyData.hasDictAll (ss.map nq)=false/\PyData.depthAll (ss.map nq)<=1/\PyData.leavesShortAll 8 (ss.map nq)=true/\PyData.weightAll (ss.map nq)<=94*ss.length:=by
 induction ss with
 | nil=>exact%[rfl,rfl,Xg _,rfl|Zi _]
 | cons p ss f=>
   have%[a,b,c,d|e]:=f λy g=>h y (Zk _ g)
   have%[l|z]:=h p (Zm ..);have%[i,j|m]:=vW p.2;have%[g1|g2]:=vX z;simp only[Ys,nq,PyData.showableAll,PyData.showable,PyData.hasDictAll,PyData.hasDict,PyData.depthAll,PyData.depth,PyData.leavesShortAll,PyData.leavesShort,PyData.weightAll,PyData.weight,i,j,m,g1,Zr];exact%[a,b,⋯,d|⋯]
section
#version
theorem Bd{k:ZB}{x:V}{j:Nat}(h:(k.map V.str)[j]? =some x):∃z,k[j]? =some z/\x= .str z:=by
 rw[Zl]at h;have%[z,e|rfl]:=map_eq_some_iff.mp h;exact%[z,e|rfl]
theorem t9{k l:ZB}(h:k.map V.str=l.map V.str):k=l:=(List.map_inj_right λ_ _=>V.str.inj).mp h
theorem Be(I:Inv X pins σ H s){A:Around}{a b:Addr}{k l:ZB}(g:H a=some (.tup (k.map V.str)))(f:H b=some (.tup (l.map V.str)))(q:A.units<cLine):EqAt A s (.ref a) (.ref b) (decide (k=l)):=by
 by_cases e:a=b
 .subst e;rw[g]at f;rw[Zf (t9 (HO.tup.inj (Za f)))];exact EqAt.same _
 .have%[us,m,r|_]:=I.tuple (SqT.of g);have%[vs,n,t|_]:=I.tuple (SqT.of f);have d:=RcAt.tuples r t q λj o p=>by
   have%[x,ex|v]:=gC m o;have%[y,w|B]:=gC n p;have%[z,C|rfl]:=Bd ex;have%[u,E|rfl]:=Bd w;have:=zM (A:=A.in1) (s:=s) v B rfl rfl;rw[show eqV _ _=decide (k[j]? =l[j]?) by rw[C,E];by_cases c:z=u<;> simp[eqV,c]]at this;exact this
  rw[show((List.range _).all _&&us.toArray.size==vs.toArray.size)=decide (k=l) by
   rw[Zp,Zp,<-m.length,<-n.length,Bool.eq_iff_iff,Zx,all_eq_true,decide_eq_true_iff];refine%[λ⟨o,p⟩=>ext_getElem? λi=>?_|λh=>by lia]
   grind]at d
  exact EqAt.of_refs e d
end
section
variable{X:Cx}
abbrev wX:R2:=λx y H Q=>∃(a p:Addr) (k:ZB) (ws:ZG),x= .ref a/\y= .ref p/\H a=some (.tup (k.map V.str))/\H p=some (.lst (ws.map λt=>V.ref t.1))/\(∀t∈ws,H t.1=some (.tup (t.2.map V.str)))/\k∈ws.map (·.2)/\Q (.bl false) H
open Classical in
theorem yC(f:X.A.units+64<cLine):OpR X (compareOp .NotIn) wX:=by
 intro pins s C H x y v u Q I g i h;have%[a,p,k,ws,rfl,rfl,l,m,hw,n|q]:=h;cases g;cases i;have%[us,r,pl|_]:=I.list (SqL.of m);have of:∀y∈us,∃t∈ws,y= .ref t.1:=λy c=>by
  have%[j,d|rfl]:=Ye c;have%[x,ex|rr]:=gC r (d);rw[Zl]at ex;have%[t,b|rfl]:=map_eq_some_iff.mp ex;exact%[t,Z8 b|(rr)]
 refine notIn_listAt (λv=>decide (∃t∈ws,v= .ref t.1/\t.2=k)) pl.isList (λy c=>?_) %[.bl false,H,I,?_|q]
 .have%[t,b|rfl]:=of y (by simpa using c);have:=Be I (A:=X.A.in1) (hw t b) l ⋯;rw[show decide _=decide (t.2=k)from ?_]
  .exact this
  .rw[Bool.eq_iff_iff,decide_eq_true_iff,decide_eq_true_iff];refine%[λ⟨t',o,w,z⟩=>?_|λh=>%[t,b,rfl|h]];have e:=hw t' o;rw[<-Value.ref.inj w,hw t b]at e;rw[<-z,t9 (HO.tup.inj (Za e))]
 .have%[t,b|e]:=Xq n;have%[j|d]:=Xh b;have%[u,f|B]:=r.get (by rw[Zl,d];rfl);cases B;rw[show us.toArray.any _=true from ?_]
  .rfl
  .rw[List.any_toArray,any_eq_true];exact%[_,Z8 f|Zf %[t,b,rfl|e]]
theorem Bf(a:bB k X.A):OpQ X (compareOp .NotIn) wX:=⟨yC a.units⟩
end
noncomputable abbrev Cx.tryV(X:Cx)(pn:ZE)(E:St->XK):Cx:={X with pn:=pn,xe:=λe s'=>∃pins a H s,Inv ({X with pn:=pn}) pins a H s/\CXO X.prog X.w X.stack H s (E a) e s'}
def DC(CX:CXT)(X:Cx)(E:St->XK):Prop:=∀pins (a:St) H s e s',Inv X pins a H s->CX X.stack H s (E a) e s'->X.xe e s'
theorem yD{X:Cx}:DC (CXO X.prog X.w) (X.tryV pn E) E:=by
 intro pins a H s e s' I %[b,B,cls,c,d,rfl,F|q];exact%[pins,a,H,s,%[Go I.ok _ _,I.os,I.bare,I.base,I.loc,I.cell,I.free,I.freeC,I.pin,I.hok|I.len],b,B,cls,c,d,rfl,F|q]
def DD(K:ZA)(D:Addr)(E:St->XK)(len i:Nat)(e ts:TS):TS:=λDn f H=>e Dn f H/\∀b cls d c,E b cls d c->∃C,cls= .ref C/\subIn K (.ref C) (.ref D)=some true/\
 ∀a,b.length=len->c a=none->ts (Dn.gone i) (b.set i (some (.ref a))) (upd c a (ExH a C d))
theorem C7{X:Cx}{D:Addr}(l:X.stack=X.env::X.outer)(hf:X.env.frame=some X.env.locals)(hN:X.N.Nodup)(hi:X.N[i]? =some n)
 (hk:X.env.kindOf n=some .local) (hl:X.env.scope.names.lookup n=some .local) (hg:Gl X x) (hm:X.mg x=some (.ref D)) (c:Cat X.K D) (m:∀pn,PSs (X.tryV pn E) G tb) (h:∀a,PSs (X.suiteX a) (L::o) ts)
 (aa:(x==("__debug__":Str))=false):
 PS X (.Try G [.ExceptHandler (some (.Name x p)) (some n) (L::o) M] [] [] pos) (DD X.K D E X.N.length i tb ts):=by
 intro pins s σ H Dn I %[h1|h2];refine wpAny_Try_except (wpAny_mono (m _ [] s σ H Dn (I.toPn _) h1) (λf s1 q=>?_) λe s1 q=>?_)
 .have q':=SP.ofPn q;cases f with
  | next=>exact wpAny_execs_nil q'
  | brk=>exact q'
  | cont=>exact q'
  | ret u=>exact q'
 .have%[ab,ac,H1,s2,I1,y,B,cls,dx,H',rfl,F|qE]:=q;have%[C,rfl,N|ag]:=h2 ac cls dx H' qE;refine wK (.inr rfl) (l▸I.ok.frames) hf (l▸F).up λha ua O=>q0 ua λhb ub T=>?_
  have%[un|ah]:=F.fly ub.1 (O.trans T);have J:=(I1.call' (s':=(s1>>>hb)) F.os un ah F.bare λb z=>absurd z ∅).ofPn;have%[_,_,_,oe,vs,eb,ai,a2,a3|_]:=id ub;refine wpAny_handleBy_cons (codeAny_handlers_test (eV (J.toSuite y) hg hm (At J.kIn c.ty c.ex c.cd eb ai N (codeAny_handlers_suite_as (q0 ub λhc uc al=>?_))) aa)) (by intro q;cases q);have%[an|U]:=F.fly uc.1 ((O.trans T).trans al);have%[_,_,_,oc,vc,ec,as,a0,a1|_]:=id uc;have Y:=I1.ofPn;refine ju (v:= .ref y) (Y.stood3 (λ_ z=>z) ((I1.call' (s':=(s1>>>hc)) F.os an U F.bare λb z=>absurd z ∅).ofPn) F.free F.new (ExH.ok ec as a0 a1)) hN hi (.inl hl) rfl (λs4 J4=>wpAny_mono (h y pins s4 _ _ _ (J4.toSuite y) (ag y Y.len F.free)) (λf s5 q5=>?_) λ_ _ z=>z.elim) (.inr hl);have d:∀{g:St} {A:Hp} {Q:Unit->Shared->Prop},Inv (X.suiteX y) pins g A s5->(∀s',Inv X pins _ A s'->Q () s')->
   (~~~X) (do bindName X.env n _;unbindBehindTheSuite X.env n M) Q X.xe s5:=λj h5=>CI (j.ofSuite I.ok) hN hi hk h5
  cases f with
  | next=>
    have%[g,A,j|t]:=q5;exact d j λs' w=>%[_,_,w|t]
  | brk=>
    have%[g,A,j|t]:=q5;exact d j λs' w=>%[_,_,w|t]
  | cont=>
    have%[g,A,j|t]:=q5;exact d j λs' w=>%[_,_,w|t]
  | ret u=>
    have%[v,g,A,j,r|t]:=q5;exact d j λs' w=>%[v,_,_,w,r|t]
theorem tryV{X:Cx}{D:Addr}(E:St->XK)(f:X.stack=X.env::X.outer)(m:X.env.frame=some X.env.locals)(o:X.N.Nodup)(hi:X.N[i]? =some n)
 (q:X.env.kindOf n=some .local) (r:X.env.scope.names.lookup n=some .local) (s:Gl X x) (t:X.mg x=some (.ref D)) (c:Cat X.K D) (j:(x==("__debug__":Str))=false) (d:∀pn,QSs (X.tryV pn E) g u) (b:∀a,QSs (X.suiteX a) (h::e) ts):
 QS X (.Try g [.ExceptHandler (some (.Name x p)) (some n) (h::e) l] [] [] pos) (DD X.K D E X.N.length i u ts):=
 ⟨C7 f m o hi q r s t c (λpn=>(d pn).h) (λa=>(b a).h) j⟩
def Bg(sp:Sp)(E:St->XK)(t:TA):TE:=λa H Q=>t a H λvs b=>sp vs b Q (E a)
theorem GJ{X:Cx}(w:DC (CXO X.prog X.w) X E)(C:Ax X.prog X.w X.K X.mg X.base j x ps sp)(y:bB k X.A)(z:Gl X x)(c:Nat.ble j k=true)
 (d:(x==("__debug__":Str))=false) (g:(e::n).any aW=false) (A:QA X (e::n) t):QE X (.Call (.Name x p) (e::n) [] pos) (Bg sp E t):=by
 rw[Zy,X9]at g;have%[f,M,F,B,G|J]:=C.ex;refine⟨λpins s i H Q I h=>wpAny_Call_Name_kw (eV I z B (callWith_K I.ok.mod.kin G (thP (A.h pos pins s i H _ I h) λus l vs m a r q=>%[a.kIn|?_]) (az g.1) (cY g.2)) d)⟩;have o:=r.append .nil;have v:sp (vs++[]) m Q (E i):=by rw[Zz];exact q
 refine wpAny_call (codeAny_mono (F.run X.A X.stack l m _ _ _ Q _ (y.mono (Yf c)) a.env0 (J l us a.kIn (o.length▸F.len _ _ _ _ v)) o v) λr s' b=>?_);cases r with
 | error e=>exact w pins i m l e s' a b
 | ok L=>
   cases L with
   | ret u=>exact a.after b
   | next=>exact False.elim b
   | brk=>exact False.elim b
   | cont=>exact False.elim b
section
variable{P:Program}{w:World}{K:ZA}{mg:ZC}{base:Heap}{k:Nat}{f:Addr}{fd:FuncData}{ps:ZB}{sp:Sp}
end
section
variable{P:Program}{w:World}{K:ZA}{tg:Expr}
end
section
variable{P:Program}{w:World}{K:ZA}{elts:List Expr}{kt:Nat}{tp:Pos}
end
section
variable{X:Cx}
end
section
variable{X:Cx}
end
section
variable{prog:Program}{w:World}{A:Around}{R:Result->Shared->Prop}{I S:Addr}{fp wr:List Addr}{n:Nat}{P:Nat->Value->Prop}{St:Nat->Heap->Prop}{val:Nat->Int}{kn:Str}{d:Value}
end
section
variable{X:Cx}{e v:Expr}{te tv:TE}{p pos kpos:Pos}
end
section
variable{X:Cx}{K:ZA}{e v:Expr}{te tv:TE}{p pos kpos:Pos}
end
section
variable{prog:Program}{w:World}{A:Around}{s:Shared}{E:ZD}
end
section
variable{X:Cx}{K:ZA}
end
section
variable{X:Cx}
abbrev GK:R2:=λx y H Q=>∃a b xs ys,x= .ref a/\y= .ref b/\H a=some (.lst xs)/\H b=some (.lst ys)/\xs.length=ys.length/\(∀(j:Nat) (x y:V),xs[j]? =some x->ys[j]? =some y->wW H x y)/\Q (.bl false) H
theorem FA(z:X.A.units+64<cLine):OpR X (compareOp .NotEq) GK:=by
 intro pins s B H x y v u Q I d e h;have%[a,b,xs,ys,rfl,rfl,f,g,i,l|q]:=h;cases d;cases e;have%[us,d,m|_]:=I.list (SqL.of f);have%[vs,e,n|_]:=I.list (SqL.of g);have c:=RcNeAt.lists (A:=X.A) m.isList n.isList (by rw[Zp,Zp,<-d.length,<-e.length,i]) (by omega) λj o p=>by
  have%[x,ex|r]:=gC d o;have%[y,t|w]:=gC e p;exact vV I (l j x y ex t) ⋯ r w
 rw[show(List.range us.toArray.size).all _=true by simp]at c;exact c _ _ _ _ %[.bl _,H,I,rfl|q]
theorem GL{k:Nat}(a:bB k X.A):OpQ X (compareOp .NotEq) GK:=⟨FA a.units⟩
end
theorem GM{X:Cx}{K:ZA}(h:X.K=K)(g:X.calm=true):cr X (.builtin "any") (λxs H Q=>∃(p:Addr) (bs:List Bool),xs=[.ref p]/\SqL K H p (bs.map V.bl)/\Q (.bl (bs.any id)) H):=by
 subst h;refine⟨λ{pins s B H xs us Q} I r h=>?_⟩;have%[p,bs,rfl,j|q]:=h;have%[u,rfl|l]:=cV r;cases l;have%[its,f,pl|C]:=I.list j;have m:p<⇑s:=by have%[o,n|_]:=pl.isList;exact Zv n
 have a:bs.length=its.toArray.size:=by rw[Zp,<-f.length,Z6]
 refine call_any_walk (wpAny_pyIter_list pl.isList ?_);refine%[⇑s,[⇑s,p],[⇑s],its.toArray.size,_,_,λi=>bs.getD i false,rfl,Walks.list (A:=X.A.in1) (I.ok.hd g) _ p (Zt m) its.toArray,%[%[_,Zj _ rfl,rfl|rfl]|pl.isList.push _],?_|?_]
 .intro i v s' t E w c;have%[b,d|rfl]:=qO (i:=i) f (by simpa using w);have c:t (bs.getD i false) s':=c;rw[Zc,d]at c;exact wpAny_truthy_bool c
 .intro h' tk y;rw[<-a,show(List.range bs.length).any (λi=>bs.getD i false)=bs.any id by
   have e:(List.range bs.length).map (λi=>bs.getD i false)=bs:=Y0 ∅ λi G z=>by simp[Zc,z]
   rw[show(List.range bs.length).any (λi=>bs.getD i false)=((List.range bs.length).map λi=>bs.getD i false).any id by rw[any_map];rfl,e]]
  exact%[.bl (bs.any id),H,I.kept (t':=tk) λb o e=>y b o (λd=>absurd (Xp d) (Zt (Zv e))) (Z7 _ e),rfl|q]
theorem GN{X:Cx}{K:ZA}{a:Expr}{b:TE}{pos e:Pos}{lo hi:Option Expr}{c d:TO}(_:X.K=K)(f:QE X a b)(g:QO X lo c)(h:QO X hi d):QE X (.Subscript a (.Slice lo hi none e) pos) (tSl Cq b c d):=⟨sJ zW f.h g.h h.h⟩
theorem valT{X:Cx}{a:Expr}{c:TE}(d:∀b,isTrue a X.env b=(do let v<-b;standAt a.pos;holding [v] (truthy v)))(e:QE X a c):QT X a (tB c):=⟨DO e.h d⟩
section
variable{prog:Program}{w:World}{A:Around}{R:Result->Shared->Prop}{I:Addr}{fp wr:List Addr}{G:Array GenState->Array GenState->Prop}{n:Nat}{P:Nat->Value->Prop}{St:Nat->Shared->Prop}
end
section
#where
end
section
variable{X:Cx}{K:ZA}
end
section
variable{X:Cx}
end
def GO(d:TE):TE:=λe H Q=>d e H λv b=>∃(a:Addr) (ss:ZG),v= .ref a/\b a=some (.lst (ss.map λp=>V.ref p.1))/\aE b ss/\ss.length<=200/\(∀p∈ss,p.2.length<=3/\∀z∈p.2,z.length<=30/\∀c∈z.cps.toList,c<16^8)/\∀z:Str,z.length<=200000->Q (.str z) b
theorem GP{X:Cx}{e:Expr}{c:TE}{pos:Pos}(i:X.A.guards=some [])(O:X.A.units+64<cLine)(j:QE X e c):QE X (.FormattedValue e 114 none pos) (GO c):=by
 refine⟨λpins s l H Q I h=>?_⟩;refine wpAny_FormattedValue_repr (thn (j.h pins s l H _ I h) λu m ⟨v,o,b,r,a,ss,p,w,y,T,z,q⟩=>?_);subst p;cases r;have%[us,A,pl|_]:=b.list (SqL.of w);have%[%[cls,U,data|Y],B,C,n|E]:=pl.isList;have%[as|G]:=nt b y A;have%[J,L,f3,M|f5]:=vY z;have len:=PyData.shown_le 8 (by decide) (.list (ss.map nq)) (by simpa only[PyData.leavesShort]using M);simp only[PyData.weight]at len;have f:(PyData.shown (.list (ss.map nq))).length<=200000:=by omega
 have g:(PyData.shown (.list (ss.map nq))).length<=sizeLine:=Yi f (by decide);refine pyReprObj_of_reads (h₀:=m.heap) (d:= .list (ss.map nq)) (.list B C E G) (by simpa only[PyData.showable]using J) (λx=>by simp only[PyData.hasDict,L]at x;cases x) i (by simp only[PyData.depth];omega) (λ_ _ x=>x) (λh' t tk k=>?_) g;exact formatField_str (λt' N=>%[.str _,o,(b.kept k).tok _,%[_|rfl]|q _ f]) g
end L2
namespace Cut
open PySem L2
inductive dD (S:Str->Str->Prop):Str->Str->Prop
 | refl (x:Str):dD S x x
 | step {x y z:Str}:dD S x y->(S y z\/S z y)->dD S x z
theorem dD.trans{S:Str->Str->Prop}(h:dD S x y)(g:dD S y z):dD S x z:=by
 induction g with
 | refl=>exact h
 | step _ s a=>exact .step a s
theorem dD.one{S:Str->Str->Prop}(h:S x y\/S y x):dD S x y:= .step (.refl x) h
theorem dD.symm{S:Str->Str->Prop}(h:dD S x y):dD S y x:=by
 induction h with
 | refl=>exact .refl _
 | step _ s a=>exact(dD.one s.symm).trans a
theorem dD.mono{S R:Str->Str->Prop}(m:∀a b,S a b->R a b)(h:dD S x y):dD R x y:=by
 induction h with
 | refl=>exact .refl _
 | step _ s c=>exact .step c (s.imp (m _ _) (m _ _))
theorem dD.within{S:Str->Str->Prop}{p:Str->Prop}(w:∀a b,S a b->p a/\p b)(h:dD S x y)(c:p x):p y:=by
 induction h with
 | refl=>exact c
 | step _ s _=>
   rcases s with s|s
   .exact(w _ _ s).2
   .exact(w _ _ s).1
def cE(S:Str->Str->Prop)(z r:Str):Prop:=dD S z r/\∀y,dD S z y->a8 y r=false
theorem cE.one{S:Str->Str->Prop}(h:cE S z r)(g:cE S z a):r=a:=by
 by_cases e:r=a
 .exact e
 .have:=dj (g.2 _ h.1) e;rw[h.2 _ g.1]at this;cases this
structure bE (ls:ZB) (f r:Str->Str) (S:Str->Str->Prop):Prop where
 ws:∀a b,S a b->a∈ls/\b∈ls
 fin:∀z∈ls,f z∈ls
 rin:∀z∈ls,r z∈ls
 rf:∀z∈ls,r (f z)=r z
 fr:∀z∈ls,f (r z)=r z
 fix:∀z∈ls,f z=z->r z=z
 dec:∀z∈ls,f z≠z->a8 (f z) z=true
 le:∀z∈ls,a8 z (r z)=false
 cl:∀x∈ls,∀y∈ls,r x=r y↔dD S x y
theorem bE.rr{S:Str->Str->Prop}(F:bE a f r S)(h:z∈a):r (r z)=r z:=F.fix _ (F.rin z h) (F.fr z h)
theorem bE.conn{S:Str->Str->Prop}(F:bE a f r S)(h:z∈a):dD S z (r z):=(F.cl z h _ (F.rin z h)).mp (F.rr h).symm
theorem bE.least{S:Str->Str->Prop}(F:bE b f r S){z:Str}(h:z∈b):cE S z (r z):=by
 refine%[F.conn h|λy c=>?_];have a:=c.within F.ws h;rw[(F.cl z h y a).mpr c];exact F.le y a
theorem bE.start(a:ZB):bE a id id (λ_ _=>False):=by
 refine%[λ_ _ h=>h.elim,λz h=>h,λz h=>h,λ_ _=>rfl,λ_ _=>rfl,λ_ _ _=>rfl,λz _ h=>(h rfl).elim,λz _=>e7 z|λx b y d=>%[λe=>?_|λc=>?_]]
 .rw[show x=y from e];exact .refl _
 .induction c with
  | refl=>rfl
  | step _ s _=>simp_all
theorem bE.join{S:Str->Str->Prop}(F:bE j f r S){a b M m:Str}(q:a∈j)(t:b∈j)(A:M=if a8 (r a) (r b)=true then r b else r a)(B:m=if a8 (r b) (r a)=true then r b else r a):
 bE j (λx=>if x=M then m else f x) (λx=>if r x=M then m else r x) (λx y=>S x y\/(x=a/\y=b)):=by
 have g:(M=r a/\m=r b)\/(M=r b/\m=r a):=by
  rw[A,B];cases e:a8 _ _ with
  | true=>
    have:a8 (r b) (r a)=false:=by
     cases i:a8 _ _ with
     | false=>rfl
     | true=>have:=fN e i;rw[e7]at this;cases this
    exact this▸ .inr %[rfl|rfl]
  | false=>
    cases i:a8 _ _ with
    | true=>exact .inl %[rfl|rfl]
    | false=>
      have:r a=r b:=by
       by_cases h:r a=r b
       .exact h
       .have:=dj e h;rw[i]at this;cases this
      exact this▸ .inl %[rfl|rfl]
 have lt:m≠M->a8 m M=true:=by
  rw[A,B];cases e:a8 _ _ with
  | true=>
    cases i:a8 _ _ with
    | true=>intro h;exact(h rfl).elim
    | false=>intro _;exact e
  | false=>
    cases i:a8 _ _ with
    | true=>intro _;exact i
    | false=>intro h;exact(h rfl).elim
 have Q:=F.rin a q;have T:=F.rin b t;have C:m∈j:=by rcases g with⟨_,h⟩|⟨_,h⟩<;> rw[h]<;> assumption
 have E:r M=M:=by rcases g with⟨h,_⟩|⟨h,_⟩<;> rw[h]<;> apply F.rr<;> assumption
 have L:r m=m:=by rcases g with⟨_,h⟩|⟨_,h⟩<;> rw[h]<;> apply F.rr<;> assumption
 have N:dD (λx y=>S x y\/(x=a/\y=b)) M m:=by
  have G:dD (λx y=>S x y\/(x=a/\y=b)) _ _:=(((F.conn q).mono λ_ _=> .inl).symm.trans (.one (.inl (.inr %[rfl|rfl])))).trans ((F.conn t).mono λ_ _=> .inl);rcases g with⟨l,n⟩|⟨l,n⟩
  .rw[l,n];exact G
  .rw[l,n];exact G.symm
 have p:∀x∈j,dD _ x (if r x=M then m else r x):=λx w=>by
  have c:=(F.conn w).mono (R:=λx y=>S x y\/(x=a/\y=b)) λ_ _=> .inl
  by_cases e:r x=M
  .rw[if_pos e];rw[e]at c;exact c.trans N
  .rw[if_neg e];exact c
 have H:(if r a=M then m else r a)=(if r b=M then m else r b):=by
  rcases g with⟨l,n⟩|⟨l,n⟩
  .rw[if_pos l.symm];by_cases e:r b=M
   .rw[if_pos e]
   .rw[if_neg e];exact n
  .rw[if_pos l.symm];by_cases e:r a=M
   .rw[if_pos e]
   .rw[if_neg e];exact n.symm
 refine%[λx y h=>?_,λz d=>?_,λz d=>?_,λz d=>?_,λz d=>?_,λz d h=>?_,λz d h=>?_,λz d=>?_|λx w y I=>%[λe=>?_|λc=>?_]]
 .rcases h with h|⟨rfl,rfl⟩
  .exact F.ws x y h
  .exact%[q|t]
 .split
  .exact C
  .exact F.fin z d
 .split
  .exact C
  .exact F.rin z d
 .by_cases e:z=M
  .rw[if_pos e,e,E,if_pos rfl,L]
   split<;> rfl
  .rw[if_neg e,F.rf z d]
 .by_cases e:r z=M
  .rw[if_pos e]
   split
   .rfl
   .exact(by rcases g with⟨_,h⟩|⟨_,h⟩<;> rw[h]<;> apply F.fr<;> assumption)
  .rw[if_neg e,if_neg e];exact F.fr z d
 .by_cases e:z=M
  .rw[if_pos e]at h;rw[e,E,if_pos rfl,<-e];exact h
  .rw[if_neg e]at h;rw[F.fix z d h,if_neg e]
 .by_cases e:z=M
  .rw[if_pos e]at h ⊢;rw[e]at h ⊢;exact lt h
  .rw[if_neg e]at h ⊢;exact F.dec z d h
 .by_cases e:r z=M
  .rw[if_pos e];cases i:a8 z m with
   | false=>rfl
   | true=>
     have o:=F.le z d;rw[e]at o;by_cases em:m=M
     .rw[em]at i;rw[o]at i;cases i
     .have:=fN i (lt em);rw[o]at this;cases this
  .rw[if_neg e];exact F.le z d
 .have c:=(p x w)
  rw[e]at c;exact c.trans (p y I).symm
 .have ws:∀x y,(S x y\/(x=a/\y=b))->x∈j/\y∈j:=λx y h=>by
   rcases h with h|⟨rfl,rfl⟩
   .exact F.ws x y h
   .exact%[q|t]
  clear I
  induction c with
  | refl=>rfl
  | step c s O=>
    rename_i u v
    have J:=c.within ws w;rw[O];rcases s with(s|⟨rfl,rfl⟩)|(s|⟨rfl,rfl⟩)
    .rw[(F.cl u J v (F.ws u v s).2).mpr (.one (.inl s))]
    .exact H
    .rw[(F.cl u J v (F.ws v u s).1).mpr (.one (.inr s))]
    .exact H.symm
theorem bE.short{S:Str->Str->Prop}(F:bE d f r S)(b:z∈d):bE d (λx=>if x=z then f (f z)else f x) r S:=by
 have g:f z≠z->a8 (f _) z=true:=λh=>by
  have i:=F.dec z b h;by_cases e:f (f z)=f z
  .exact e▸i
  .exact fN (F.dec _ (F.fin z b) e) i
 refine%[F.ws,λx a=>?_,F.rin,λx a=>?_,λx a=>?_,λx a h=>?_,λx a h=>?_,F.le|F.cl]
 .split
  .exact F.fin _ (F.fin z b)
  .exact F.fin x a
 .by_cases e:x=z
  .rw[if_pos e,F.rf _ (F.fin z b),F.rf z b,e]
  .rw[if_neg e];exact F.rf x a
 .by_cases e:r x=z
  .rw[if_pos e];have:=F.fr x a
   simp_all
  .rw[if_neg e];exact F.fr x a
 .by_cases e:x=z
  .rw[if_pos e]at h;rw[e]at h ⊢;by_cases c:f z=z
   .exact F.fix z b c
   .have:=g c;rw[h,e7]at this;cases this
  .rw[if_neg e]at h;exact F.fix x a h
 .by_cases e:x=z
  .rw[if_pos e]at h ⊢;rw[e]at h ⊢;refine g λc=>h ?_
   rw[c,c]
  .rw[if_neg e]at h ⊢;exact F.dec x a h
theorem bE.done{S:Str->Str->Prop}(F:bE b f r S)(a:z∈b)(h:∀w∈b,a8 w z=true->f w=r w):f (f z)=r z:=by
 by_cases e:f z=z
 .rw[e,e];exact(F.fix z a e).symm
 .rw[h _ (F.fin z a) (F.dec z a e),F.rf z a]
end Cut
namespace Cut
open PySem L2
def Ed(ks:List ZB)(a b:Str):Prop:=∃z,[a,b,z]∈ks
inductive Rch (ks:List ZB):Str->Str->Prop
 | one {a b:Str}:Ed ks a b->Rch ks a b
 | more {a b c:Str}:Rch ks a b->Ed ks b c->Rch ks a c
theorem Rch.closed{R:Str->Prop}(a:∀y,Ed ks s y->R y)(h:∀x y,R x->Ed ks x y->R y)(r:Rch ks s y):R y:=by
 induction r with
 | one e=>exact a _ e
 | more _ e b=>exact h _ _ b e
theorem pZ{ks:List _}{laid:ZB}(h:∀i x,laid[i]? =some x->∀y,Ed ks x y->y∈laid.take i){i:Nat}{x y:Str}(hi:laid[i]? =some x)(r:Rch ks x y):∃j,j<i/\laid[j]? =some y:=by
 have b:∀i y,y∈laid.take i->∃j,j<i/\laid[j]? =some y:=λi y d=>by
  have%[j|c]:=Xh d;have f:=(Xn c).1;rw[Yn]at f;exact%[j,⋯|by rwa[getElem?_take_of_lt ⋯]at c]
 refine r.closed (λy e=>b i y (h i x hi y e)) λa y ⟨j,m,c⟩ e=>?_
 have%[g,n|l]:=b j y (h j a c y e);exact%[g,⋯|l]
theorem C8{laid:ZB}(h:∀(i:Nat) x,laid[i]? =some x->∀y,Ed ks x y->y∈laid.take i){x:Str}(a:x∈laid): ¬ Rch ks x x:=by
 intro r;have%[i|hi]:=Xh a;have:∀n i:Nat,i<=n->laid[i]? ≠some x:=λn=>by
  induction n with
  | zero=>
    intro i hi e;have%[j,b|_]:=pZ h e r
    lia
  | succ n c=>
    intro i hi e;have%[j,b|d]:=pZ h e r;exact c j ⋯ d
 exact this i i (Zi _) hi
noncomputable def Wal:List ZB->Str->Str->Prop
 |[],a,b=>a=b
 | k::r,a,b=>∃c z,k=[a,c,z]/\Wal r c b
theorem Wal.app:∀{us vs:List ZB} {a:Str},Wal us a b->Wal vs b c->Wal (us++vs) a c
 |[],_,_,h,g=>h▸g
 | _::_,_,_,⟨d,z,e,h⟩,g=>%[d,z,e|h.app g]
def Dst(ks:List ZB)(s:Str)(n:Nat)(x:Str):Prop:=∃us:List _,us.length=n/\(∀k∈us,k∈ks)/\Wal us s x
theorem Dst.nil:Dst ks s 0 s:=%[[],rfl,λ_ h=>(nomatch h)|rfl]
theorem Dst.app(h:Dst ks s n x)(g:Dst ks x m y):Dst ks s (n+m) y:=by
 have%[us,d,a|b]:=h;have%[vs,g1,g2|g3]:=g;exact%[us++vs,by simp_all,λk c=>(Xo c).elim (a k) (g2 k)|b.app g3]
theorem Ed.dst(e:Ed ks s x):Dst ks s 1 x:=by
 have%[z|e]:=e;exact%[[[s,x,z]],rfl,λk a=>(Xp a)▸e,x,z,rfl|rfl]
theorem Dst.last:∀{n:Nat} {s:Str},Dst ks s (n+1) x->∃y,Dst ks s n y/\Ed ks y x
 | n,s,⟨[],a,_,_⟩=>(nomatch a)
 | 0,s,⟨[k],_,b,c,z,e,h⟩=>%[s,.nil,z|by rw[<-h,<-e];exact b k Zm]
 | 0,s,⟨_::_::_,a,_,_⟩=>absurd a ∅
 | n+1,s,⟨k::r,a,b,c,z,e,h⟩=>by
   have%[y,d|f]:=Dst.last %[r,by simpa using a,λk g=>b k (Zk _ g)|h];have:Ed ks s c:=%[z|e▸b k Zm]
   exact%[y,Nat.add_comm 1 n▸this.dst.app d|f]
theorem Rch.dst(h:Rch ks a b):∃n,Dst ks a (n+1) b:=by
 induction h with
 | one e=>exact%[0|e.dst]
 | more _ e c=>
   have%[n|h]:=c;exact%[n+1|h.app e.dst]
theorem Dst.rch:∀{n:Nat} {b:Str},Dst ks a (n+1) b->Rch ks a b
 | 0,b,h=>by
   have%[y,%[us,d,_|c]|e]:=h.last;rw[length_eq_zero_iff.mp d]at c;rw[c];exact .one e
 | n+1,b,h=>by
   have%[y,h|e]:=h.last;exact .more h.rch e
structure Lev (ks:List ZB) (st:Str) (rs:List (Str×Addr×ZB)) (d:Str->Nat) (k:Nat) (F:ZB):Prop where
 nd:(rs.map (·.1)).Nodup
 by_:∀r∈rs,r.2.2∈ks/\∃p z,r.2.2=[p,r.1,z]/\((p=st/\d r.1=1)\/(p≠st/\p∈rs.map (·.1)/\d r.1=d p+1))
 le:∀x∈rs.map (·.1),d x<=k
 edge:∀x,x∈F↔(k=0/\x=st)\/(1<=k/\x∈rs.map (·.1)/\d x=k)
 all:∀n x,1<=n->n<=k->Dst ks st n x->x∈rs.map (·.1)/\d x<=n
section
variable{ks:List ZB}{st:Str}{rs:List (Str×Addr×ZB)}{d:Str->Nat}{k:Nat}{F:ZB}
theorem Lev.nil:Lev ks st [] (λ_=>0) 0 [st]:=
 %[X6,λ_ h=>(nomatch h),λ_ h=>(nomatch h),λx=>by simp|λn x a b=>by lia]
theorem Lev.dst(h:Lev ks st rs d k F)(a:x∈rs.map (·.1)):1<=d x/\Dst ks st (d x) x:=by
 have:∀m x,x∈rs.map (·.1)->d x<=m->1<=d x/\Dst ks st (d x) x:=λm=>by
  induction m with
  | zero=>
    intro x a l;have%[r,b|rfl]:=Xq a;obtain⟨_,p,z,_,⟨_,e⟩|⟨_,_,e⟩⟩:=h.by_ r b<;> lia
  | succ m g=>
    intro x a l;have%[r,b|rfl]:=Xq a;have%[c,p,z,i|q]:=h.by_ r b;rw[i]at c;have f:Ed ks p r.1:=%[z|c]
    rcases q with⟨rfl,e⟩|⟨_,j,e⟩
    .rw[e];exact%[Zi _|f.dst]
    .exact e▸%[⋯|(g p j ⋯).2.app f.dst]
 exact this _ x a (Zi _)
theorem Lev.min(h:Lev ks st rs d k F)(a:x∈rs.map (·.1))(g:Dst ks st (n+1) x):d x<=n+1:=by
 by_cases c:n+1<=k
 .exact(h.all _ x ⋯ c g).2
 .have:=h.le x a
  lia
theorem Lev.stop(h:Lev ks st rs d k []):∀{n:Nat},Dst ks st (n+1) x->x∈rs.map (·.1):=by
 have k1:=Nat.pos_of_ne_zero λc=>(nomatch (h.edge st).mpr (.inl %[c|rfl]))
 have:∀n x,Dst ks st (n+1) x->x∈rs.map _:=λn=>by
  induction n with
  | zero=>exact λx g=>(h.all 1 x (Zi _) k1 g).1
  | succ n a=>
    intro x g;have%[y,b|e]:=g.last;have q:=a y b;have l:=h.le y q;have ne:d y≠k:=λc=>(nomatch (h.edge y).mpr (.inr %[k1,q|c]))
    exact(h.all _ x ⋯ ⋯ ((h.dst q).2.app e.dst)).1
 exact λ{n}=>this n x
theorem Lev.step(h:Lev ks st rs d k F)(nd:((rs++new).map (·.1)).Nodup)(C:∀r∈new,r.2.2∈ks/\∃p z,p∈F/\r.2.2=[p,r.1,z])
 (u:∀x∈F,∀y,Ed ks x y->y∈(rs++new).map (·.1)):Lev ks st (rs++new) (λx=>if x∈new.map (·.1)then k+1 else d x) (k+1) (new.map (·.1)):=by
 have o:=nd;rw[Zd,X3]at o;have f:∀{x},x∈rs.map (·.1)->x∉new.map (·.1):=λ{x} a b=>o.2.2 x a x b rfl
 have mem:∀{x},x∈(rs++new).map (·.1)↔x∈rs.map (·.1)\/x∈new.map (·.1):=λ{x}=>by rw[Zd,Yu]
 have le:∀x∈(rs++new).map (·.1),(if x∈new.map (·.1)then k+1 else d x)<=k+1:=λx l=>by
  by_cases c:x∈new.map (·.1)
  .rw[if_pos c];exact Zi _
  .rw[if_neg c];have:=h.le x ((mem.mp l).resolve_right c);lia
 refine%[nd,λr E=>?_,le,λx=>?_|λn x n1 L g=>?_]
 .rcases Xo E with q|q
  .have%[t,p,z,e|g]:=h.by_ r q;refine%[t,p,z,e|?_];rw[if_neg (f (Xr %[r,q|rfl]))];refine g.imp_right λ⟨a,b,c⟩=>%[a,mem.mpr (.inl b)|?_]
   rw[if_neg (f b)];exact c
  .have%[t,p,z,G|e]:=C r q;have v:r.1∈new.map (·.1):=Xr %[r,q|rfl];refine%[t,p,z,e|?_];rw[if_pos v];rcases(h.edge p).mp G with⟨rfl,rfl⟩|⟨k1,b,c⟩
   .exact .inl %[rfl|rfl]
   .refine .inr %[λps=>?_,mem.mpr (.inl b)|by rw[if_neg (f b),c]];have:Ed ks st r.1:=%[z|by rw[<-ps,<-e];exact t]
    exact f (h.all 1 _ (Zi _) k1 this.dst).1 v
 .refine%[λl=> .inr %[⋯,mem.mpr (.inr l)|if_pos l]|λl=>?_];rcases l with⟨a,_⟩|⟨_,a,b⟩
  .lia
  .refine(mem.mp a).resolve_left λc=>?_
   rw[if_neg (f c)]at b;have:=h.le x c
   lia
 .have i:∀{m},1<=m->m<=k->Dst ks st m x->x∈(rs++new).map _/\(if x∈new.map _ then k+1 else d x)<=m:=λa b g=>by
   have%[s|w]:=h.all _ x a b g;exact%[mem.mpr (.inl s)|by rw[if_neg (f s)];exact w]
  by_cases c:n<=k
  .exact i n1 c g
  .obtain rfl:n=k+1:=by lia
   have j:x∈(rs++new).map _->x∈(rs++new).map _/\(if x∈new.map _ then k+1 else d x)<=k+1:=λa=>%[a|le x a]
   have%[y,A|e]:=g.last;by_cases H:k=0
   .subst H;have%[us,I,_|B]:=A;rw[length_eq_zero_iff.mp I]at B;exact j (u y ((h.edge y).mpr (.inl %[rfl|(B).symm])) x e)
   .have%[s|w]:=h.all k y ⋯ (Zi _) A;by_cases J:d y=k
    .exact j (u y ((h.edge y).mpr (.inr %[⋯,s|J])) x e)
    .exact j (i ⋯ ⋯ ((h.dst s).2.app e.dst)).1
end
structure Sho (ks:List _) (a b:Str) (us:List _):Prop where
 sub:∀k∈us,k∈ks
 wal:Wal us a b
 pos:0<us.length
 min:∀n,Dst ks a (n+1) b->us.length<=n+1
theorem Sho.dst(h:Sho ks a b us):∃n,us.length=n+1/\Dst ks a (n+1) b:=
 %[us.length-1,by have:=h.pos;lia,us,by have:=h.pos;lia,h.sub|h.wal]
theorem Sho.rch(h:Sho ks a b us):Rch ks a b:=by
 have%[n,_|d]:=h.dst;exact d.rch
theorem FB{U:ZB}(h:∀x∈U,∃y∈U,Ed ks x y)(i:∀x,¬ Rch ks x x){x:Str}(j:x∈U):False:=by
 have:∀n,∃a p,p.length=n/\(a::p).Nodup/\(∀y∈a::p,y∈U)/\∀y∈p,Rch ks y a:=λn=>by
  induction n with
  | zero=>exact%[x,[],rfl,by simp,by simpa using j|λ_ h=>(nomatch h)]
  | succ n m=>
    have%[a,p,l,nd,d|r]:=m;have%[b,o|e]:=h a (d a Zm);have g:∀y∈a::p,Rch ks y b:=λy f=>by
     rcases mem_cons.mp f with rfl|q
     .exact .one e
     .exact .more (r y q) e
    refine%[b,a::p,by simp_all,nodup_cons.mpr %[λc=>i b (g b c)|nd],λy f=>?_|g];rcases mem_cons.mp f with rfl|q
    .exact o
    .exact d y q
 have%[a,p,l,nd,d|_]:=this U.length;have:=STab.nodup_sub nd d;rw[Zr]at this
 lia
end Cut
namespace Cut
open PySem L2
theorem jj(lt:q->q->Bool)(c:∀x y,lt x y=false->x≠y->lt y x=true):∀{l m:List q},l.Pairwise (λa b=>lt b a=false)->m.Pairwise (λa b=>lt b a=false)->l.Nodup->m.Nodup->(∀x,x∈l↔x∈m)->l=m
 |[],[],_,_,_,_,_=>rfl
 |[],y::m,_,_,_,_,h=>absurd ((h y).mpr Zm) ∅
 | x::l,[],_,_,_,_,h=>absurd ((h x).mp Zm) ∅
 | x::l,y::m,s,t,nl,u,h=>by
   have%[f|g]:=List.pairwise_cons.mp s;have%[i|j]:=List.pairwise_cons.mp t;have%[v|n]:=nodup_cons.mp nl;have%[w|o]:=nodup_cons.mp u;have e:=Classical.byContradiction λd=>by
    have A:=(mem_cons.mp ((h x).mp Zm)).resolve_left d;have r:=f y ((mem_cons.mp ((h y).mpr Zm)).resolve_left (Ne.symm d));rw[c x y (i x A) d]at r;cases r
   subst e;rw[jj lt c g j n o λz=>?_]
   constructor
   .intro p;rcases mem_cons.mp ((h z).mp (Zk _ p))with e|e
    .simp_all
    .exact e
   .intro p;rcases mem_cons.mp ((h z).mpr (Zk _ p))with e|e
    .simp_all
    .exact e
def Let(rows:ZB)(c:Nat):Prop:=c≠46/\∃r∈rows,c∈r.cps.toList
def yE(rows:ZB)(a b:Nat):Prop:=a≠46/\a≠b/\∃(i j:Nat) (r c:Str),rows[i]? =some r/\rows[i+1]? =some c/\r.cps[j]? =some a/\c.cps[j]? =some b
theorem fQ:c∈cJ rows↔Let rows c:=by
 unfold cJ Let;rw[List.mem_filter,tz,List.mem_flatten,decide_eq_true_eq]
 constructor
 .rintro⟨⟨l,e,b⟩,a⟩;have%[r,d|rfl]:=Xq e;exact%[a,r,d|b]
 .rintro⟨a,r,d,b⟩;exact%[%[_,Xr %[r,d|rfl]|b]|a]
def wW(rows d:ZB):Prop:=(∀c,Let rows c↔Let d c)/\∀a b,yE rows a b↔yE d a b
end Cut
namespace Cut
open PySem L2
def St(wd:Bool)(c d:Int):Prop:=c<=d+(if wd=true then 1 else 0)/\d<=c+(if wd=true then 1 else 2)
def jS(wd:Bool)(b:ZL):Prop:=∃a:Nat,a<b.length/\(∀k c,b[k]? =some c->(k<a->c= -1)/\(a<=k->0<=c/\c<=7))/\∀k c d,b[k]? =some c->b[k+1]? =some d->a<=k->St wd c d
noncomputable def sg(a s:Int):Nat:=if a<0 then 46 else 97+((a*5+s)%26).toNat
theorem FC(h:0<=a):gU (sg a s)=true:=by
 unfold sg;rw[if_neg ⋯,kx]
 lia
theorem FD(h:a<0):sg a s=46:=if_pos h
theorem Bh(h:0<=a):sg a s≠46:=by
 unfold sg;rw[if_neg ⋯]
 lia
theorem FE(e:0<=a)(c:a<=7)(f:0<=b)(d:b<=7)(h:sg a s=sg b s):a=b:=by
 unfold sg at h;rw[if_neg ⋯,if_neg ⋯]at h;omega
noncomputable def ip(a:List ZL)(b:Int)(k:Nat):Str:=⟨(a.map λc=>sg (c.getD k 0) b).toArray⟩
noncomputable def drawn(a:List ZL)(hi:Nat)(b:Int):ZB:=(List.range hi).map (ip a b)
theorem fR(h:(drawn a hi c)[k]? =some z):k<hi/\z=ip a c k:=by
 unfold drawn at h;rw[Zl]at h;by_cases b:k<hi
 .rw[getElem?_range b]at h;exact%[b|(Za h).symm]
 simp_all
theorem kB{a:List ZL}{k j c:Nat}(h:(ip a d k).cps[j]? =some c):∃b,a[j]? =some b/\c=sg (b.getD k 0) d:=by
 have h:(a.map λc=>sg (c.getD k 0) d)[j]? =some c:=by simpa [ip]using h
 rw[Zl]at h;cases e:a[j]? with
 | none=>simp_all
 | some b=>rw[e]at h;exact%[b,rfl|(Za h).symm]
theorem c9{a:ZL}(b:a.length=hi)(c:k<hi):a[k]? =some (a.getD k 0):=by
 simp_all
theorem ud{a:List ZL}{d:Int}{wd:Bool}(H:1<=hi)(I:hi<=40)(v:1<=a.length)(w:a.length<=40)(t:∀c∈a,c.length=hi/\jS wd c):cg (drawn a hi d):=by
 have len:(drawn a hi d).length=hi:=by unfold drawn;rw[Z6,Yl]
 have f:∀z∈drawn a hi d,∃k,k<hi/\z=ip a d k:=λz g=>by
  have%[k|e]:=Xh g;exact%[k|fR e]
 refine%[⋯,⋯,%[a.length,v,w|λz g=>?_],λz g=>?_,λi r J y A j c L g1 g2 p=>?_|?_]
 .have%[k,_|rfl]:=f z g;simp[ip]
 .have%[k,h|rfl]:=f z g;rw[all_eq_true];intro c q;have%[j|B]:=Xh q;have%[b,s|rfl]:=kB (j:=j) (by simpa using B);by_cases C:b.getD k 0<0
  .rw[FD C];decide +kernel
  .unfold okc;rw[FC ⋯,Bool.or_true]
 .have%[hi1|rfl]:=fR y;have%[hi2|rfl]:=fR A;have%[b,s|rfl]:=kB g1;have%[u,l|rfl]:=kB g2;rw[s]at l;cases l;have%[o,m,E,h|_]:=t b (Z8 s);by_cases G:i+1<m
  .rw[(h i _ (c9 o hi1)).1 ⋯];rfl
  .exact absurd p (Bh ((h _ _ (c9 o hi2)).2 ⋯).1)
 .have n:0<a.length:=by lia
  have%[o,m,E,h|_]:=(t _ (Yd n))
  exact%[ip a d _,Xr %[hi-1,by rw[mem_range];lia|rfl],sg (a[0].getD (hi-1) 0) d,Xr %[a[0],Yd n|rfl]|Bh ((h _ _ (c9 o ⋯)).2 ⋯).1]
theorem ue{i:Int}{wd:Bool}(s:∀c∈d,c.length=hi/\jS wd c){c:Nat}:Let (drawn d hi i) c↔∃a:Int,0<=a/\a<=7/\(∃b∈d,a∈b)/\c=sg a i:=by
 constructor
 .rintro⟨l,r,t,m⟩;have%[k|e]:=Xh t;have%[h|rfl]:=fR e;have%[j|u]:=Xh m;have%[b,v|rfl]:=kB (by simpa using u);have f:=Z8 v;have%[n,o,A,w|_]:=s b f;have g:=c9 n h;have q:=w k _ g;have:o<=k:=by
   refine Nat.le_of_not_lt λz=>l ?_
   rw[q.1 z];rfl
  exact%[_,(q.2 this).1,(q.2 this).2,%[b,f|Z8 g]|rfl]
 .rintro⟨a,y,B,⟨b,f,p⟩,rfl⟩;have%[n|_]:=s b f;have%[k|h]:=Xh p;refine%[Bh y,ip d i k,Xr %[k,by rw[mem_range];exact(n▸(Xn h).1)|rfl]|Xr %[b,f|?_]];rw[Zc,h];rfl
noncomputable def there(b:List ZL):ZL:=((List.range 8).filter λa:Nat=>b.any λc=>decide ((a:Int)∈c)).map λa:Nat=>a
theorem ef:a∈there c↔0<=a/\a<=7/\∃b∈c,a∈b:=by
 unfold there;rw[mem_map]
 constructor
 .rintro⟨n,f,rfl⟩;rw[List.mem_filter,mem_range,any_eq_true]at f;have%[g,b,d|e]:=f;exact%[⋯,⋯,b,d|Zo e]
 .rintro⟨h,i,b,d,e⟩;refine%[a.toNat,?_|⋯];rw[List.mem_filter,mem_range,any_eq_true];refine%[⋯,b,d|Zf ?_];rw[show a.toNat=a by lia];exact e
theorem uf(a:List _):(there a).Nodup:=by
 unfold there;rw[X4,Xa];refine(List.Pairwise.filter _ (nodup_iff_pairwise_ne.mp nodup_range)).imp λh e=>h ⋯
theorem Bi{a:List ZL}{hi:Nat}(i:1<=hi)(j:1<=a.length)(d:∀c∈a,c.length=hi/\jS wd c):there a≠[]:=by
 have b:0<a.length:=by lia
 have%[e,f,l,h|_]:=d _ (Yd b);have g:=c9 e (show hi-1<hi by lia);have q:=(h _ _ g).2 ⋯;exact List.ne_nil_of_mem (ef.mpr %[q.1,q.2,_,Yd b|Z8 g])
theorem kC(a:List _):(there a).length<=8:=by
 unfold there;rw[Z6];exact Yi (Yk _ _) (Zi _)
noncomputable def dc(n:Str)(c:Nat):Str:=⟨(n.cps.toList++[46,c]).toArray⟩
theorem kD(h:dc n c=dc m d):n=m/\c=d:=by
 have e:=by
  have:=congrArg (λz=>z.cps.toList) h;simpa [dc]using this
 have q:=List.append_inj' e rfl;refine%[eY q.1|?_];have:=q.2;simpa using this
def yF(rows:ZB):Prop:=∃m:List _,m.length<=26/\∀a b,yE rows a b->[sgn a,sgn b]∈m
noncomputable def vZ(wd:Bool):List (Int×Int):=((List.range 7).map λi:Nat=>((i:Int),(i:Int) +1)) ++if wd=true then(List.range 7).map λi:Nat=>((i:Int) +1,(i:Int))else(List.range 6).map λi:Nat=>(i,i+2)
theorem yG(h:St wd c d)(c0:0<=c)(a:c<=7)(b:0<=d)(f:d<=7)(ne:c≠d):(c,d)∈vZ wd:=by
 unfold St at h;unfold vZ;rw[Yu];by_cases e:d=c+1
 .exact .inl (Xr %[c.toNat,mem_range.mpr ⋯|by rw[show c.toNat=c by lia,e]])
 .refine .inr ?_;cases wd
  .exact Xr %[c.toNat,mem_range.mpr ⋯|by rw[show c.toNat=c by lia,show d=c+2 by lia]]
  .exact Xr %[d.toNat,mem_range.mpr ⋯|by grind]
theorem Bj{hi:Nat}{h:Int}{wd:Bool}(u:∀c∈d,c.length=hi/\jS wd c):yF (drawn d hi h):=by
 refine%[(vZ wd).map λp=>[sgn (sg p.1 h),sgn (sg p.2 h)],?_|?_]
 .rw[Z6];cases wd<;> decide
 .intro a b %[n1,v,i,j,r,C,w,y,g1|g2];have%[hi1|rfl]:=fR w;have%[hi2|rfl]:=fR y;have%[l,n|rfl]:=kB g1;have%[o,f|rfl]:=kB g2;rw[n]at f;cases f;have%[g,A,E,m|B]:=u l (Z8 n);have q:=Nat.le_of_not_lt λz=>n1 (by rw[(m i _ (c9 g hi1)).1 z];rfl)
  have s:=(m i _ (c9 g hi1)).2 q;have t:=(m _ _ (c9 g hi2)).2 ⋯;exact Xr %[(_,_),yG (B i _ _ (c9 g hi1) (c9 g hi2) q) s.1 s.2 t.1 t.2 (λe=>v (by rw[e]))|rfl]
end Cut
namespace K34
open PySem L2 Cut
abbrev ZqS:=Lean.Syntax
def zqn:Lean.Name->Array ZqS->ZqS:= .node .none
def zqa:String->ZqS:= .atom .none
def zqi(s:String):ZqS:=Lean.mkIdent s.toName
def zqh:ZqS:=zqn `Lean.Parser.Term.hole #[zqa "_"]
def zqf(k:Nat)(b:ZqS):ZqS:=zqn `Lean.Parser.Term.fun #[zqa "fun",zqn `Lean.Parser.Term.basicFun #[zqn `null (Array.replicate k zqh),zqn `null #[],zqa "=>",b]]
def zqd(c:Char):ZqS:=Lean.Syntax.mkNumLit (toString (c.toNat-48))
def zqe(a:Array ZqS)(x:String):ZqS:=if x="r"then zqi "rfl"else if x="n"then a[0]! else if x="h"then a.back! else if x="_"then zqh else if x="f"then zqf 2 (zqi "rfl") else if x="g"then zqf 1 (zqi "rfl") else if x.length>1 then zqi x else zqn `Lean.Parser.Term.namedArgument #[zqa "(",zqi x,zqa ":=",zqi x,zqa ")"]
def zqx(r:Array ZqS):ZqS:=if r[0]!.isAtom then(if r[0]!.getAtomVal=""then zqf 3 r[1]! else r[1]!)else if r.size<2 then r[0]! else zqn `Lean.Parser.Term.app #[r[0]!,zqn `null (r.extract 1 r.size)]
def zqp(s t:String):Nat:=(s.splitOn t).head!.length
def zqs(t:String)(a:Array ZqS)(l:List Char)(k:List (List String×Array ZqS)):List Char×List (List String×Array ZqS):=
 let f:=k.head!
 let k:=k.tail
 let x:=f.1.headD ""
 let w:=f.1.tail
 let c:=l.headD ' '
 if f.1.isEmpty then(l,(k.head!.1,k.head!.2.push (zqx f.2))::k.tail)
 else if x="#"then(l.tail,(w,f.2.push (zqd c))::k)
 else if x="L"then(l,(["*"],#[zqa ""])::(w,f.2)::k)
 else if x="*"then
  if c.isDigit then(l.tail,(["r"],#[zqi "af",zqd c])::(w,f.2)::k)
  else if c='?'then(l.drop 2,(w,f.2.push a[l[1]!.toNat-48]!)::k)
  else
   let p:=zqp "~]`" c.toString
   let q:=if p<3 then 1 else 0
   let s:=((t.splitOn "|")[(74+84*p)*q+zqp "ABCDEFGHIJKLMNOPQRSTUVWXYZabcdefghijklmnopqrstuvwxyz!$%&'()*+,./:;<=>^_|}[0123456789" l[q]!.toString]!).splitOn " "
   (l.drop (q+1),(s.tail,#[zqi s.head!])::(w,f.2)::k)
 else(l,(w,f.2.push (zqe a x))::k)
def zqt(t:String)(a:Array ZqS)(l:List Char):Nat->ZqS
 |n=>(n.fold (λ_ _ s=>if s.2.length=1&&s.2.head!.1.isEmpty then s else zqs t a s.1 s.2) (l,[(["*"],#[zqa "1"])])).2.head!.2[1]!
def zqm(s:Lean.StrLit)(a:Array Lean.Term):Lean.MacroM Lean.Term:=
 return⟨zqt "paE r * *|aq|ay|am * *|au *|opE * * *|aI * h r *|aM *|aO # n r *|QSs.h *|bd * r * *|aP # n r|gsE r * *|ifS * * *|aY|cB K r f * *|cC # r|bH|c6 PassesOwn.never r r * * *|cT K r *|cU K r f * *|cZ *|aP # * r|cy|cf r *|bW|wT *|eU|fE K r r r *|cQ|cbO * T.a8 PySem.boot_len r *|cu K r|aB.of *|cx|bv|dS K r g *|bmO K plainAttrs_list PySem.F.slot_list_append PySem.F.type_list_append * r * *|eBl|Z1|Z0|eE * r r * L L L|jB * r * *|eF|e8 h f * *|orW * *|dI|ko|km *|iP * *|mD * *|ii *|jD *|eD|iU r T.aj r *|oB *|fD *|jC *|cbO * T.ac boot_isinstance r *|iV K r|gh|sQ *|li h r * * *|vm|cbO * T.a7 boot_sorted r *|mE|gvE T.an r r|mG|jb|vk # n r * * r *|pH *|xW|ctO * T.a5 boot_list r *|xX|slE K r * * *|gvE T.av r r|ctO * T.a6 boot_set r *|sT K r r T.ae r *|noO|pjE * *|cn T|kq K r|af # r|t8 * T.o_Ground h r r *|bS T|qQ|bmO K plainAttrs_str slot_str_join type_str_join * r * *|qS K r|jE # n r * * r * r r * L L L|CB K r|cbO * T.aa boot_all r *|wH K r r|CW K r r * *|CA r r r * *|rJ PassesOwn.never * *|gvE T.ao r r|fB T|cbO * T.a1 boot_max r *|cbO * T.a0 boot_min r *|vh * * r * * *|Ak K w r r r|Fa *|gJ T|Fr K r r *|dL T|bmO K plainAttrs_dict slot_dict_get type_dict_get * r * *|A3|rR h r * *|jc|sR|lZ T|dM T|Dr r|Gk f * *|ctO * T.ah boot_int r *|Dt|wE # n r * *|nG T|orV * *|gvE T.aq r r|Dw r T.af r r *|j6 T|kK T|bmO K plainAttrs_list PySem.F.slot_list_extend PySem.F.type_list_extend * r * *|sS|pU P w r r r|AV K P w r r r r h|Az *|Ay|GN K r * * *|pV K r|eQ T|fX T|GR K r plainAttrs_list PySem.F.slot_list_append PySem.F.type_list_append * r r r r * *|bmO K plainAttrs_dict PySem.F.slot_dict_setdefault PySem.F.type_dict_setdefault * r * *|jQ|qp T|fY T|eR T|iF T|qR K r|bmO K plainAttrs_list PySem.F.slot_list_index PySem.F.type_list_index * r * *|wU|oq T|uq T|Gj r|AY # n r * * r *|rX T|wE # * r * *|valT g *|cbO * T.ak boot_any r *|GM K r r|gvE T.au r r|x9 w r r|bmO K plainAttrs_str PySem.F.slot_str_split PySem.F.type_str_split * r * *|CC|gvE T.ar r r|Bq T|nM T|GD K r r T.af r r *|jo T|gvE T.ap r r|gvE T.ay r r|gvE T.az r r|GF K r T.t_LAYER_WORDS r r|GF K r T.t_YEAR_WORDS r r|yS T|yR T|Bv T|gvE T.aw r r|nR T|dinT h r * *|gvE T.ax r r|ux T|yN T|v8 T|sd T|uB T|lO T|yt K r|nT T|kc T|uy T|yL T|sj T|Ft r|Fs r|kN T|lP T|C2 r|bm0E K r plainAttrs_dict PySem.F.slot_dict_values PySem.F.type_dict_values * r r *|A2|oR T|wc T|A7 r r T.a9 r T.a5 r *|uD T|BH T|jq T|Fu K r r|bmO K plainAttrs_list PySem.F.slot_list_remove PySem.F.type_list_remove * r * *|A5|vQ w r r|Fy w r|sr T|n8 T|Fb b.ex *|E9 * h r r r r *|C_Torn T|GL h|GI h|Bf h|q_ge|sk T|yJ T" (a.map (·.raw)) s.getString.toList 9999⟩
abbrev ZM:=List V
abbrev ZN:=List (Addr×List V)
local macro_rules|`(%[$s:str,$x,*|$y])=>zqm s (x.getElems.push y)|`(%[$s:str|$y])=>zqm s #[y]
local macro_rules|`(tactic|lk)=>do
 let x<-("bo za l9 jw jv qw iS zw tB BP tOr DP y8 DT tOp tUn tC DJ DK tCB oW xF zE Ep Er uT tBM Cd tSl zK qB zU rI rI0 rU EK EN rEq rNe zZ Dp Aa ED EF Ew Ex Ey Cu Gh wG wF vo qK BW ze DZ Du Dv Dz wz wA Ek El E3 pA EI qN va zQ A0 A1 Fv rN vT Bb tZ rIn Cv EB Eu Cq qJ wD zk Cw FU FV FW".splitOn " ").toArray.mapM λs=>`(Lean.Parser.Tactic.simpLemma|↓$(Lean.mkIdent s.toName):ident)
 let y<-("mP B2 zy zqD tyV FX FY FZ List.getElem?_cons_zero List.getElem?_cons_succ List.set_cons_zero List.set_cons_succ Option.some.injEq V.int.injEq V.str.injEq V.bl.injEq V.ref.injEq V.ty.injEq List.cons.injEq reduceCtorEq and_true true_and and_false false_and or_false false_or or_true true_or exists_false exists_eq_left' exists_eq_left exists_eq_right exists_eq_right' exists_and_left exists_and_right exists_eq cons_append nil_append Zz exists_const and_assoc Int.zero_add Bool.not_true Bool.not_false Y1 if_true if_false eq_self".splitOn " ").toArray.mapM λs=>`(Lean.Parser.Tactic.simpLemma|$(Lean.mkIdent s.toName):ident)
 `(tactic|simp only[$(x++y),*])
local macro_rules|`(!$n:ident)=>`(some (V.ref $n))
local macro_rules|`(-$n:ident)=>`(some (V.str $n))
local macro_rules|`(#[$n:num])=>`((show $n≤sizeLine by decide))|`(#[$x])=>`(paE rfl $x aq)|`(#[$x,$y,*])=>`(paE rfl $x #[$y,*])
local macro_rules|`(tactic|walk)=>`(tactic|refine⟨rfl,rfl,rfl,?_,rfl,?_,?_⟩<;>decide +kernel)
theorem zq0{P:List Value->Prop}(h:P []):∀u,u.length=0->P u:=λu e=>by rw[List.length_eq_zero_iff.mp e];exact h
theorem zq1{n:Nat}{P:List Value->Prop}(h:∀a,∀u,u.length=n->P (a::u)):∀u,u.length=n+1->P u:=λu e=>by
 cases u with
 |nil=>cases e
 |cons a u=>exact h a u (Nat.succ.inj e)
local macro_rules|`(tactic|room)=>`(tactic|(intro _ _ _ _ _ _;(repeat(refine zq1 λ_=>?_));exact zq0 rfl))
set_option hygiene false in
local macro_rules|`(tactic|fin2)=>`(tactic|(intro a b c d h;first|(cases h;subst_vars;rfl)|repeat(first|(have%[rfl|_]:=h;rfl)|have%[_|h]:=h)))
set_option hygiene false in
local macro_rules|`(~~~$a)=>`(dS (K:=K) rfl (λ_=>rfl) $a)
set_option hygiene false in
local macro_rules|`(↑$n:num)=>`(af $n rfl)
set_option hygiene false in
local macro_rules|`($a>>$b)=>`(cU (K:=K) rfl (λ_ _=>rfl) $a $b)
set_option hygiene false in
local macro_rules|`(↥$n:num)=>`(Cal P w K mg base $n)
noncomputable def top(i:Nat):Stmt:=PySem.Challenge.pw_digbook_k34_whole_ties_grow.main.body.getD i (.Pass %[0,0,0|0])
noncomputable section
abbrev fS:Stmt:=top 1
theorem bg:ax ["ground","names","layer","word","one","other"] ["ground"] (ak fS):=by walk
abbrev gW:Stmt:=top 2
theorem dm:ax ["names","one","other","first","second"] ["names","one","other"] (ak gW):=by walk
abbrev eL:Stmt:=top 3
theorem dN:ax ["names","layer"] ["names","layer"] (ak eL):=by walk
abbrev nu:Stmt:=top 4
theorem e9:ax ["ground","names","groups","layer"] ["ground"] (ak nu):=by walk
abbrev dJ:Stmt:=top 5
theorem kE:ax ["ground"] ["ground"] (ak dJ):=by walk
abbrev rS:Stmt:=top 6
theorem ug:ax ["ground","names"] ["ground"] (ak rS):=by walk
abbrev fT:Stmt:=top 19
theorem jT:ax ["found"] ["found"] (ak fT):=by walk
abbrev eM:Stmt:=top 20
theorem iQ:ax ["found"] ["found"] (ak eM):=by walk
abbrev p7:Stmt:=top 21
theorem jk:ax ["found","side","groups","link"] ["found","side"] (ak p7):=by walk
abbrev eN:Stmt:=top 22
theorem a9:ax ["names","found","beneath","above","waits","name","ready","laid","least","link"] ["names","found"] (ak eN):=by walk
abbrev iq:Stmt:=top 23
theorem cK:ax ["beneath","start","goal","reached","edge"] ["beneath","start","goal"] (ak iq):=by walk
abbrev lu:Stmt:=top 24
theorem dW:ax ["beneath","edge","reached","further","name","link"] ["beneath","edge","reached"] (ak lu):=by walk
abbrev uh:Stmt:=top 25
theorem p8:ax ["reached","start","goal","way"] ["reached","start","goal"] (ak uh):=by walk
abbrev Bk:Stmt:=top 27
theorem C9:ax ["ground"] ["ground"] (ak Bk):=by walk
abbrev gX:Stmt:=top 28
theorem bK:ax ["names","found","beneath","shortest","name","way"] ["names","found"] (ak gX):=by walk
abbrev jU:Stmt:=top 29
theorem oN:ax ["names","found"] ["names","found"] (ak jU):=by walk
abbrev ir:Stmt:=top 30
theorem bQ:ax ["ground","found","torn_by"] ["ground"] (ak ir):=by walk
abbrev kH:Stmt:=top 37
theorem v4:ax ["thing"] ["thing"] (ak kH):=by walk
abbrev p9:Stmt:=top 38
theorem gE:ax ["text","rows","number","row"] ["text"] (ak p9):=by walk
abbrev nv:Stmt:=top 39
theorem yH:ax ["row"] ["row"] (ak nv):=by walk
abbrev eO:Stmt:=top 40
theorem lL:ax ["row","above"] ["row","above"] (ak eO):=by walk
abbrev gF:Stmt:=top 41
theorem oO:ax ["rows"] ["rows"] (ak gF):=by walk
abbrev qb:Stmt:=top 42
theorem v5:ax ["text"] ["text"] (ak qb):=by walk
abbrev nA:Stmt:=top 43
theorem dE:ax ["text","rows","pairs","above","row"] ["text"] (ak nA):=by walk
abbrev cL:Stmt:=top 44
theorem iR:ax ["above","row"] ["above","row"] (ak cL):=by walk
abbrev jV:Stmt:=top 53
theorem dz:ax ["cuts","names","number","thing"] ["cuts"] (ak jV):=by walk
abbrev iu:Stmt:=top 54
theorem lN:ax ["thing"] ["thing"] (ak iu):=by walk
abbrev uk:Stmt:=top 55
theorem yI:ax ["thing"] ["thing"] (ak uk):=by walk
abbrev gY:Stmt:=top 56
theorem dq:ax ["sayings","layers","number","thing"] ["sayings","layers"] (ak gY):=by walk
abbrev lv:Stmt:=top 57
theorem rT:ax ["thing","layers"] ["thing","layers"] (ak lv):=by walk
abbrev gZ:Stmt:=top 58
theorem kI:ax ["thing","texts"] ["thing","texts"] (ak gZ):=by walk
abbrev qc:Stmt:=top 59
theorem v6:ax ["thing"] ["thing"] (ak qc):=by walk
abbrev jW:Stmt:=top 60
theorem oP:ax ["name","letter"] ["name","letter"] (ak jW):=by walk
abbrev iw:Stmt:=top 61
theorem dZ:ax ["cuts","layers","name","text"] ["cuts"] (ak iw):=by walk
abbrev iz:Stmt:=top 62
theorem bR:ax ["cuts","ties","name","text","upper","lower"] ["cuts"] (ak iz):=by walk
abbrev fc:Stmt:=top 63
theorem cj:ax ["sayings","ties","number","saying"] ["sayings"] (ak fc):=by walk
abbrev wY:Stmt:=top 65
theorem jX:ax ["ground","found"] ["ground"] (ak wY):=by walk
abbrev jm:Stmt:=top 66
theorem dF:ax ["ground","some","found","places","place","name"] ["ground","some"] (ak jm):=by walk
abbrev iY:Stmt:=top 68
theorem nB:ax ["_law_script","_law_k"] ["_law_script","_law_k"] (ak iY):=by walk
abbrev lw:Stmt:=top 69
theorem gG:ax ["_law_cell","_law_k","_law_one","_law_two"] ["_law_cell","_law_k"] (ak lw):=by walk
abbrev qd:Stmt:=top 70
theorem du:ax ["_law_script","_law_many","_law_found","_law_number","_law_k"] ["_law_script","_law_many"] (ak qd):=by walk
abbrev lz:Stmt:=top 71
theorem bF:ax ["_law_number","_law_size","_law_at","_law_names_here","_law_k","_law_signs","_law_j","_law_place"] ["_law_number"] (ak lz):=by walk
abbrev jY:Stmt:=top 72
theorem bI:ax ["_law_number","_law_high","_law_wild","_law_air","_law_at","_law_signs","_law_k"] ["_law_number","_law_high","_law_wild"] (ak jY):=by walk
abbrev nC:Stmt:=top 73
theorem um:ax ["_law_at","_law_shift"] ["_law_at","_law_shift"] (ak nC):=by walk
abbrev fU:Stmt:=top 74
theorem cN:ax ["_law_row_here","_law_shift","_law_wild","_law_wide","_law_high","_law_columns","_law_rows","_law_k","_law_there"] ["_law_row_here","_law_shift","_law_wild"] (ak fU):=by walk
abbrev jZ:Stmt:=top 75
theorem bu:ax ["_law_one","_law_two","_law_layers","_law_torn_here","_law_layer","_law_at","_law_other","_law_there","_law_odd","_law_kind","_law_year"] ["_law_one","_law_two","_law_layers","_law_torn_here"] (ak jZ):=by walk
abbrev d5:Stmt:=top 76
theorem aN:ax ["_law_row_here","_law_names_here","_law_torn_here","_law_cuts","_law_layers","_law_k","_law_shift","_law_wild","_law_text","_law_there","_law_at","_law_many","_law_sayings"] ["_law_row_here"] (ak d5):=by walk
abbrev nD:Stmt:=top 77
theorem fh:ax ["_law_ground_here","_law_ring_told","e"] ["_law_ground_here"] (ak nD):=by walk
abbrev j3:Stmt:=top 78
theorem iZ:ax ["_law_found","_law_some","_law_k"] ["_law_found","_law_some"] (ak j3):=by walk
abbrev lA:Stmt:=top 79
theorem d6:ax ["_law_found","_law_some","_law_later","_law_earlier","_law_source"] ["_law_found","_law_some"] (ak lA):=by walk
abbrev jn:Stmt:=top 80
theorem cz:ax ["_law_cuts","_law_sayings","_law_ahead","_law_fewest","_law_ground_here","_law_found","_law_some","_law_told","_law_newest"] ["_law_cuts","_law_sayings","_law_ahead","_law_fewest"] (ak jn):=by walk
abbrev iA:Stmt:=top 81
theorem gH:ax ["_law_script","_law_cuts","_law_sayings","_law_layers","_law_first","_law_more","_law_state","_law_k"] ["_law_script"] (ak iA):=by walk
abbrev bU:Stmt:=iG (top 52) 0
theorem eP:ax ["self","cuts","sayings","layers"] ["self","cuts","sayings"] (ak bU):=by walk
abbrev oQ:Stmt:=iG (top 52) 1
theorem Bl:ax ["self"] ["self"] (ak oQ):=by walk
abbrev cc:Stmt:=iG (top 52) 2
theorem j4:ax ["self"] ["self"] (ak cc):=by walk
abbrev cm:Stmt:=iG (top 52) 3
theorem kJ:ax ["self"] ["self"] (ak cm):=by walk
abbrev cI:Stmt:=iG (top 52) 4
theorem nE:ax ["self"] ["self"] (ak cI):=by walk
abbrev dG:Stmt:=iG (top 11) 0
end
theorem rV:ax ["self","ring"] ["self","ring"] (ak dG):=by walk
inductive nF (K:ZA) (vs:ZM) (H:Hp) (Q:VK) (E0:XK):Prop
 | mk (a:Addr) (ns:ZL) (k:Int) (z0:vs=[.ref a,.int k]) (z1:SqL K H a (ns.map V.int)) (z2:0<=k) (z3:Q (.int (ns.getD k.toNat 0)) H):nF K vs H Q E0
inductive Bm (K:ZA) (vs:ZM) (H:Hp) (Q:VK) (E0:XK):Prop
 | mk (a:Addr) (ns:ZL) (m:Int) (z0:vs=[.ref a,.int m]) (z1:SqL K H a (ns.map V.int)) (z2:ns.length<=1000) (z3:0<=m) (z4:m<=100) (z5:∀l H' (xs:ZL),aj H H'->H l=none->H' l=some (.lst (xs.map V.int))->xs.length=m.toNat->(∀x∈xs,0<=x/\x<9973)->Q (.ref l) H'):Bm K vs H Q E0
inductive qe (vs:ZM) (H:Hp) (Q:VK) (E0:XK):Prop
 | mk (n hi:Int) (wild:Bool) (z0:vs=[.int n,.int hi,.bl wild]) (z1:0<=n) (z2:1<=hi) (z3:hi<=7) (z4:∀l H' (cs:ZL),aj H H'->H l=none->H' l=some (.lst (cs.map V.int))->cs.length=hi.toNat->jS wild cs->Q (.ref l) H'):qe vs H Q E0
inductive wZ (vs:ZM) (H:Hp) (Q:VK) (E0:XK):Prop
 | mk (a s:Int) (z0:vs=[.int a,.int s]) (z1:0<=s) (z2:Q (.str (sgn (sg a s))) H):wZ vs H Q E0
def rW(H:Hp)(a:List (Addr×ZL)):Prop:=∀p∈a,H p.1=some (.lst (p.2.map V.int))
theorem rW.up{H a:Hp}{b:List _}(h:rW H b)(s:aj H a):rW a b:=λp c=>s _ _ (h p c)
inductive Bn (K:ZA) (vs:ZM) (H:Hp) (Q:VK) (E0:XK):Prop
 | mk (a:Addr) (xs:ZL) (sh:Int) (wd:Bool) (z0:vs=[.ref a,.int sh,.bl wd]) (z1:SqL K H a (xs.map V.int)) (z2:(∀H',aj H H'->SqL K H' a (xs.map V.int))) (z3:xs.length=6) (z4:(∀x∈xs,0<=x/\x<9973)) (z5:0<=sh) (z6:∀(T th:Addr) H' (cols:List ZL) (hi:Nat),aj H H'->H T=none->H th=none->T≠th->H' T=some (.tup [.str (Str.join nl (drawn cols hi sh)),.ref th])->H' th=some (.lst ((there cols).map V.int))->1<=hi->hi<=7->1<=cols.length->cols.length<=5->(∀c∈cols,c.length=hi/\jS wd c)->Q (.ref T) H'):Bn K vs H Q E0
inductive uo (vs:ZM) (H:Hp) (Q:VK) (E0:XK):Prop
 | mk (c k:Int) (z0:vs=[.int c,.int k]) (z1:0<=k) (z2:k<=100) (z3:∀v,0<=v->v<2147483563->Q (.int v) H):uo vs H Q E0
structure Txc (K:ZA) (mg:ZC):Prop where
 c_Torn:mg "Torn"=some (.ref (aD mg "Torn"))
 c_DigError:mg "DigError"=some (.ref (aD mg "DigError"))
 c_NoCut:mg "NoCut"=some (.ref (aD mg "NoCut"))
 c_NoLayer:mg "NoLayer"=some (.ref (aD mg "NoLayer"))
 c_NoRow:mg "NoRow"=some (.ref (aD mg "NoRow"))
 c_NoDeed:mg "NoDeed"=some (.ref (aD mg "NoDeed"))
 c_NoSaying:mg "NoSaying"=some (.ref (aD mg "NoSaying"))
 c_NoGround:mg "NoGround"=some (.ref (aD mg "NoGround"))
 x_Torn:Aw K mg "Torn" "Torn.__init__" dG ["self","ring"]
 f_Torn_ring:EZ K (aD mg "Torn") "ring"
 g_Torn_ring:CJ K (aD mg "Torn") "ring"
 u_Torn_NoCut:subIn K (.ref (aD mg "Torn")) (.ref (aD mg "NoCut"))=some false
 u_Torn:subIn K (.ref (aD mg "Torn")) (.ref (aD mg "DigError"))=some true
 k_Torn_Torn:kitOne K (.ref (aD mg "Torn")) (.ref (aD mg "Torn"))=some true
 k_Torn_ValueError:kitOne K (.ref (aD mg "Torn")) (.type "ValueError")=some true
 k_Torn_any2:kitAny K (.ref (aD mg "Torn")) (([(aD mg "NoCut"),(aD mg "NoGround"),(aD mg "NoSaying"),(aD mg "NoDeed"),(aD mg "NoRow"),(aD mg "NoLayer")]).map Value.ref)=some false
 i_DigError:Ao K (aD mg "DigError")
 t_NoCut:Cat K (aD mg "NoCut")
 t_DigError:Cat K (aD mg "DigError")
 o_Ground:tT K mg "Ground"
 n_Ground_kept_cuts:fz K (aD mg "Ground") "kept_cuts"
 n_Ground_kept_sayings:fz K (aD mg "Ground") "kept_sayings"
 n_Ground_kept_layers:fz K (aD mg "Ground") "kept_layers"
 n_Ground_kept_ties:fz K (aD mg "Ground") "kept_ties"
 i_Ground:AW K mg "Ground" "Ground.__init__" bU ["self","cuts","sayings"]
 m_Ground_sayings:tU K mg "Ground" "sayings" "Ground.sayings" cc ["self"]
 m_Ground_layers:tU K mg "Ground" "layers" "Ground.layers" cm ["self"]
 m_Ground_ties:tU K mg "Ground" "ties" "Ground.ties" cI ["self"]
 t_YEAR_WORDS:GvT K mg "YEAR_WORDS" [.str "since",.str "by"]
 t_LAYER_WORDS:GvT K mg "LAYER_WORDS" [.str "later",.str "same"]
structure Txt (K:ZA) (mg:ZC):Prop extends Txc K mg where
 a0:mg "min"=none
 a1:mg "max"=none
 a5:mg "list"=none
 a6:mg "set"=none
 a7:mg "sorted"=none
 a8:mg "len"=none
 a9:mg "reversed"=none
 aa:mg "all"=none
 ab:mg "str"=none
 ac:mg "isinstance"=none
 ae:mg "enumerate"=none
 af:mg "zip"=none
 ag:mg "tuple"=none
 ah:mg "int"=none
 ai:mg "bool"=none
 aj:mg "range"=none
 ak:mg "any"=none
 am:mg "ValueError"=none
 an:Gv mg "LATER" (.int 0)
 ao:Gv mg "EARLIER" (.int 1)
 ap:Gv mg "LONGEST_NAME" (.int 8)
 aq:Gv mg "LETTERS" (.str "abcdefghijklmnopqrstuvwxyz")
 ar:Gv mg "MOST_ROWS" (.int 40)
 au:Gv mg "MOST_SIGNS" (.int 40)
 av:Gv mg "AIR" (.str ".")
 aw:Gv mg "MOST_CUTS" (.int 8)
 ax:Gv mg "MOST_SAYINGS" (.int 60)
 ay:Gv mg "FIRST_YEAR" (.int (-9999))
 az:Gv mg "LAST_YEAR" (.int 9999)
 aA:aG K mg "names_by_layer" fS ["ground"]
 aB:aG K mg "join_deposits" gW ["names","one","other"]
 aC:aG K mg "least_pointed_to" eL ["names","layer"]
 aD:aG K mg "deposits" nu ["ground"]
 aE:aG K mg "deposit_names" dJ ["ground"]
 aF:aG K mg "links" rS ["ground"]
 aH:aG K mg "links_by_later" fT ["found"]
 aI:aG K mg "links_by_earlier" eM ["found"]
 aJ:aG K mg "grouped" p7 ["found","side"]
 aK:aG K mg "laid_in_turn" eN ["names","found"]
 aL:aG K mg "shortest_way" iq ["beneath","start","goal"]
 aM:aG K mg "next_edge" lu ["beneath","edge","reached"]
 aN:aG K mg "way_to" uh ["reached","start","goal"]
 aO:aG K mg "ring" Bk ["ground"]
 aP:aG K mg "shortest_ring" gX ["names","found"]
 aQ:aG K mg "never_laid" jU ["names","found"]
 aR:aG K mg "untorn_links" ir ["ground"]
 aS:aG K mg "is_name" kH ["thing"]
 aT:aG K mg "rows_of" p9 ["text"]
 aU:aG K mg "is_row" nv ["row"]
 aV:aG K mg "lies_beneath" eO ["row","above"]
 aW:aG K mg "letters_in" gF ["rows"]
 aX:aG K mg "letters" qb ["text"]
 aY:aG K mg "meetings" nA ["text"]
 aZ:aG K mg "meetings_between" cL ["above","row"]
 b0:aG K mg "check_cuts" jV ["cuts"]
 b1:aG K mg "is_named_cut" iu ["thing"]
 b2:aG K mg "is_cut" uk ["thing"]
 b3:aG K mg "check_sayings" gY ["sayings","layers"]
 b4:aG K mg "is_saying" lv ["thing","layers"]
 b5:aG K mg "is_text_among" gZ ["thing","texts"]
 b6:aG K mg "is_year" qc ["thing"]
 b7:aG K mg "layer_name" jW ["name","letter"]
 b8:aG K mg "layers_of" iw ["cuts"]
 b9:aG K mg "ties_of_cuts" iz ["cuts"]
 ba:aG K mg "ties_of_sayings" fc ["sayings"]
 bb:aG K mg "order" wY ["ground"]
 bc:aG K mg "is_order" jm ["ground","some"]
 bd:aG K mg "_law_cell_at" iY ["_law_script","_law_k"]
 be:aG K mg "_law_mixed" lw ["_law_cell","_law_k"]
 bf:aG K mg "_law_row" qd ["_law_script","_law_many"]
 bg:aG K mg "_law_names" lz ["_law_number"]
 bh:aG K mg "_law_column" jY ["_law_number","_law_high","_law_wild"]
 bi:aG K mg "_law_sign" nC ["_law_at","_law_shift"]
 bj:aG K mg "_law_cut" fU ["_law_row_here","_law_shift","_law_wild"]
 bm:aG K mg "_law_saying" jZ ["_law_one","_law_two","_law_layers","_law_torn_here"]
 bn:aG K mg "_law_ground" d5 ["_law_row_here"]
 bo:aG K mg "_law_torn" nD ["_law_ground_here"]
 bp:aG K mg "_law_closes" j3 ["_law_found","_law_some"]
 bq:aG K mg "_law_keeps" lA ["_law_found","_law_some"]
 br:aG K mg "_law_step" jn ["_law_cuts","_law_sayings","_law_ahead","_law_fewest"]
section
variable{P:Program}{w:World}{K:ZA}{mg:ZC}{base:Heap}
theorem bM{n:Nat}(h:n<=5000):n<=sizeLine:=Yi h (by decide)
theorem aJ{n:Nat}(h:n<=5000):n<sizeLine:=Nat.lt_of_le_of_lt h (by decide)
theorem aj.upd{H:Hp}{p:Addr}{o:HO}(h:H p=none):aj H (upd H p o):=λb u e=>by rw[ao (aw e h)];exact e
theorem aj.set{H a:Hp}{p:Addr}{o:HO}(c:aj H a)(h:H p=none):aj H (L2.upd a p o):=λb u e=>by rw[ao (aw e h)];exact c b u e
theorem GQ{b:Type}(xs:List b){i:Int}(d:0<=i)(e:i<xs.length):∃c,atI xs i=some c/\c∈xs:=by
 have%[j|rfl]:=Xj d;have a:j<xs.length:=by lia
 exact%[xs[j],cq (by simp[a])|Yd a]
theorem iB(xs:ZL){i:Int}(b:0<=i)(d:i<xs.length):∃c,atI (xs.map V.int) i=some (V.int c)/\c∈xs:=by
 have%[j|rfl]:=Xj b;have a:j<xs.length:=by lia
 exact%[xs[j],cq (by simp[a])|Yd a]
theorem DE:(gj.cps.toList.length:Int)=26:=by decide +kernel
theorem fB(T:Txt K mg):↥1 "_law_cell_at" ["_law_script","_law_k"] (nF K):=by
 refine T.bd.cal nB (λH vs Q E h=>?_)
 .have%[a,b,k,rfl,c,g|q]:=h;refine%[rfl|λf e A outer s l=>?_];refine%[_,%["JDNK.1efA0BEHP01OEHC"|0]|?_]
  show bo _ _ _ [some _,some _] H;lk;refine%[_,.inl %[_,c|rfl]|bJ (λd=>?_) λd=>?_]
  .rw[Z6]at d;refine%[_,c,.int _,?_|q];have%[j|rfl]:=Xj g;have i:j<b.length:=by lia
   exact cq (by simp[i])
  simp_all
theorem uq(T:Txt K mg):↥1 "_law_mixed" ["_law_cell","_law_k"] uo:=by
 refine T.be.cal gG (λH vs Q E h=>?_)
 .have%[c,k,rfl,l,m|q]:=h;refine%[rfl|λf a A outer s j=>?_];refine%[_,%["JDI2FRFtFZFZFR0CFtC1CCCDI3FRFZF~K22FtFtC11CEHFRF~K33C"|gG.nd]|?_]
  show bo _ _ _ [some (.int c),some (.int k),none,none] H;refine ap λn k1 _=>?_
  lk;refine%[by decide,.inl %[by decide|by decide],.inr %[by decide|by decide],by decide|k1 _ _ (ap λo k2 _=>?_)];have b:=Int.emod_nonneg ((c%1000003+7919*k+1)*48271) (by decide:(2147483629:Int)≠0);have d:=Int.emod_lt_of_pos ((c%1000003+7919*k+1)*48271) (by decide:(0:Int)<2147483629)
  generalize (c%1000003+7919*k+1)*48271%2147483629=one at b d
  lk;refine%[.inl %[⋯|⋯],.inl %[by decide|by decide],.inr %[⋯|⋯],by decide|k2 _ _ ?_];have e:=Int.emod_nonneg (one*one+104729*k*k) (by decide:(2147483587:Int)≠0);have g:=Int.emod_lt_of_pos (one*one+104729*k*k) (by decide:(0:Int)<2147483587)
  generalize (one*one+104729*k*k)%2147483587=i at e g
  lk;exact%[.inl %[⋯|⋯],by decide|q _ ⋯ ⋯]
theorem yJ(T:Txt K mg):↥2 "_law_row" ["_law_script","_law_many"] (Bm K):=by
 refine T.bf.cal du (λH vs Q E h=>?_)
 .have%[a,j,m,rfl,hs,hn,h0,h1|q]:=h;refine%[rfl|λf aa A outer s r=>?_];refine%[_,%["JDI2VBDI3CDS$A1BL4DNKXFR4CCEI3G~VA0AFZCFh4CBOENawKXFRG~VA0ACBCC&K}3CDYki2AFR3CBEI3Fh3CEYki2AFRG~^AG~VA0AFZCFR4~W~lACAF<efA0BCBBA4BCBEH2",du.nd|r]|?_]
  show bo _ _ _ [!a,some (.int m),none,none,none] H;refine ap λD1 k1 _=>?_
  lk;refine%[Xg _|λl z=>k1 _ _ (ap λD2 k2 _=>?_)];have B:aj H (upd H l (.lst [])):=aj.upd z;lk;refine k2 _ _ (ap λD3 k3 _=>aA λN hK=>?_);lk;refine%[⋯,⋯|hK _ _ (cP (λi C e=>∃(n:Int) (o:Option V) (xs:ZL),C=[!a,some (.int m),!l,some (.int n),o]/\aj H e/\e l=some (.lst (xs.map V.int))/\xs.length=i/\∀x∈xs,0<=x/\x<9973)
   %[_,none,[],rfl,B,ae,rfl|λ_ h=>nomatch h] ?_ ?_)]
  .intro i C e hi %[n,o,xs,rfl,t,c,u|d];have ab:i<100:=by lia
   have g:=t.seq hs;show bo _ _ _ [!a,some (.int m),!l,some (.int n),some (.int (0+i))] e;rw[Int.zero_add];refine ap λD4 k4 _=>?_
   have p:∀G:Int,D4.nx [!a,some (.int m),!l,some (.int G),some (.int i)] e:=λG=>k4 _ _ (aF λD5 O _=>by
    have put:∀v:Int,0<=v->v<9973->aj H (upd e l (.lst (xs.map V.int++[.int v])))/\∃b:ZL,upd e l (.lst (xs.map V.int++[.int v])) l=some (.lst (b.map V.int))/\b.length=i+1/\∀x∈b,0<=x/\x<9973:=λv U v1=>
     ⟨aj.set t z,xs++[v],by rw[ae,Zd];rfl,by rw[Z9,u];rfl,λy hy=>by
      rcases Xo hy with q|q
      .exact d y q
      .rw[Xp q];exact%[U|v1]⟩
    have len:(xs.map V.int).length<sizeLine:=by rw[Z6,u];exact aJ ⋯
    have Y:∀x:Nat,(0:Int)<(if(x:Int) -1>1 then(x:Int) -1 else 1):=λx=>by split<;> lia
    lk;refine%[a,j,0,rfl,g,by decide,_,rfl,by decide|bJ (λ_=>bJ (λ_=>?g1) λ_=>?g2) λ_=>?g3]
    case g1=>
     have%[I,b,J,L|M]:=put (G%9973) ⋯ ⋯;exact%[.inl %[_|SqL.of c],by decide,_,c,len,%[by decide|by decide]|O _ _ %[_,_,b,rfl,I,J,L|M]]
    all_goals
     refine%[.inl %[_|SqL.of c],_,.inl %[_,g|rfl],Y _,a,j,_,rfl,g,?_|?_]
     .have:=Int.emod_nonneg (i:Int) (Int.ne_of_gt (Y (j.map V.int).length))
      lia
     refine%[_,_,rfl,⋯,⋯|λv U v1=>%[_,rfl,by decide,_,c,len|O _ _ ?_]];have%[I,b,J,L|M]:=put (v%9973) ⋯ ⋯;exact%[_,_,b,rfl,I,J,L|M])
   lk;exact%[by decide|bJ (λ_=>%[%[by decide|by decide],a,j,_,rfl,g,⋯|p _]) λ_=>p n]
  .intro C e %[n,o,xs,rfl,t,c,u|d];refine k3 _ _ ?_;lk;exact q l e xs t z c u d
theorem Bo(a:0<=i)(c:i<26):atI gj.cps.toList i=some (97+i.toNat):=by
 have%[j|rfl]:=Xj a;have b:j<26:=by omega
 have all:∀j:Fin 26,gj.cps.toList[j.1]? =some (97+j.1):=by decide +kernel
 exact cq (all %[j|b])
theorem nG(T:Txt K mg):↥1 "_law_sign" ["_law_at","_law_shift"] wZ:=by
 refine T.bi.cal um (λH vs Q E h=>?_)
 .have%[a,g,rfl,i|c]:=h;refine%[rfl|λf d A outer s e=>?_];refine%[_,%["JDNK.0CEHbOEH~mbFRF=F~K0C1C"|0]|?_]
  show bo _ _ _ [some (.int a),some _] H;lk;unfold sg at c;refine bJ (λb=>?_) λb=>?_
  .have b:=Zo b;rw[if_pos b]at c;exact c
  .have b: ¬ a<0:=by simpa using b
   rw[if_neg b]at c;refine%[.inr %[by simp|by simp],by decide,(by decide),_,Bo (by omega) (by omega)|c]
theorem rX(T:Txt K mg):↥1 "_law_column" ["_law_number","_law_high","_law_wild"] qe:=by
 refine T.bh.cal bI (λH vs Q E h=>?_)
 .have%[n,hi,wd,rfl,n0,h1,h6|kk]:=h;refine%[rfl|λf ah A outer s hr=>?_];refine%[_,%["JDI3FR0CDI4FRFh0CCDI0Fh0CDI5VBDS$A1BL6ENawK.63&K.6F<1CEYki5A+CBDYki5A4BDI4~W~lACA~X~_ACAF=4PVACACAPVACA+CB~n~oA2BBFR0CBBEI0Fh0CEH5"|bI.nd]|?_]
  show bo _ _ _ [some (.int n),some (.int hi),some (.bl wd),none,none,none,none] H;refine ap λD1 k1 _=>?_
  lk;refine%[by decide|k1 _ _ (ap λD2 k2 _=>?_)];lk;refine%[%[by decide|by decide],by decide|k2 _ _ (ap λD3 k3 _=>?_)];lk;refine%[%[by decide|by decide]|k3 _ _ (ap λD4 k4 _=>?_)];lk;refine%[Xg _|λL O=>k4 _ _ (ap λD5 k5 r5=>aA λag hK=>?_)];lk;have I:∃a:Nat,(a:Int)=(if n%3<hi-1 then n%3 else hi-1):=by
   split
   .exact%[(n%3).toNat|by omega]
   .exact%[(hi-1).toNat|by omega]
  have%[a|ea]:=I;refine%[by omega,by omega|hK _ _ (cP (λi σ y=>∃(m b:Int) (o:Option V) (g:ZL),σ=[some (.int m),some (.int hi),some (.bl wd),some (.int (n%3)),some (.int b),!L,o]/\0<=b/\b<=7/\aj H y/\y L=some (.lst (g.map V.int))/\g.length=i/\
   (∀(k:Nat) (c:Int),g[k]? =some c->(k<a->c= -1)/\(a<=k->0<=c/\c<=7))/\∀(k:Nat) (c d:Int),g[k]? =some c->(g++[b])[k+1]? =some d->a<=k->St wd c d)
   %[_,_,none,[],rfl,by omega,by omega,aj.upd O,ae,rfl,(λk c e=>by simp at e)|λk c d e=>by simp at e] ?_ ?_)]
  .intro i σ y ai %[m,b,o,g,rfl,a0,a7,U,l,B,r|C];show l9 _ _ _ _ [some (.int m),some (.int hi),some (.bl wd),some (.int (n%3)),some (.int b),!L,some (.int (0+i))] y;rw[Int.zero_add];have len:(g.map V.int).length<sizeLine:=by rw[Z6,B];exact aJ (by omega)
   have put:∀v:Int,(i<a->v= -1)->(a<=i->0<=v/\v<=7)->∀(k:Nat) (c:Int),(g++[v])[k]? =some c->(k<a->c= -1)/\(a<=k->0<=c/\c<=7):=λv v1 v2 k c e=>by
    by_cases Y:k<g.length
    .rw[Y9 Y]at e;exact r k c e
    .have ek:k=i:=by
      have:=(Xn e).1;rw[Z9]at this;simp only[Zr,length_nil]at this;omega
     subst ek;rw[Ya (by omega),B,sub_self]at e;cases e;exact%[v1|v2]
   refine aF λD6 k6 _=>?_
   lk;have J:∀v u:Int,(a<=i->v=b/\St wd v u)->∀(k:Nat) (c d:Int),(g++[v])[k]? =some c->(g++[v] ++[u])[k+1]? =some d->a<=k->St wd c d:=λv u q k c d G t Y=>by
    have al:k+1<=g.length+1:=by
     have:=(Xn t).1;simp only[Z9,Zr,length_nil]at this;omega
    by_cases h:k+1<g.length+1
    .rw[Y9 (by omega)]at G;rw[Y9 (by simpa using h)]at t;by_cases h':a<=i
     .rw[(q h').1]at t;exact C k c d G t Y
     .omega
    .have ek:k=i:=by omega
     subst ek;rw[Ya (by omega),B,sub_self]at G;rw[Ya (by simp;omega)]at t;simp[B]at G t;rw[<-G,<-t];exact(q Y).2
   have aa:∀_v:Int,¬ i<a->∀(m2 j:Int) (HH:Hp),0<=j->j<=7->St wd b j->aj (upd y L (.lst (g.map V.int++[.int b]))) HH->D6.nx [some (.int m2),some (.int hi),some (.bl wd),some (.int (n%3)),some (.int j),!L,some (.int i)] HH:=λv hv m2 j HH b0 b7 st sh=>
    k6 _ _ %[m2,j,_,g++[b],rfl,b0,b7,(aj.set U O).trans sh,by rw[sh L _ ae,Zd];rfl,by rw[Z9,B];rfl,put b (λz=>absurd z hv) λ_=>%[a0|a7]|J b j λ_=>%[rfl|st]]
   refine bJ (λhA=>bJ (λhB=>?g1) λhB=>?g2) λhA=>?g3
   case g1=>
    simp only[decide_eq_true_eq]at hA hB;have M:i<a:=by split at ea<;> omega
    exact%[.inl %[_|SqL.of l],_,l,len|k6 _ _ %[m,b,_,g++[-1],rfl,a0,a7,aj.set U O,by rw[ae,Zd];rfl,by rw[Z9,B];rfl,put (-1) (λ_=>rfl) λz=>absurd M (by omega)|J (-1) b λz=>absurd M (by omega)]]
   all_goals
    have ab: ¬ i<a:=by
     simp only[decide_eq_true_eq]at*
     split at ea<;> omega
    refine%[.inl %[_|SqL.of l],_,l,len,#[2]|λp hp=>%[_,SqL.of ae,.int (if wd=true then -1 else 2),by cases wd<;> rfl,#[3]|λp1 ac=>%[by decide,_,SqL.of ae|?_]]];have%[c,hc|N]:=iB [0,1,if wd=true then -1 else 2] (i:=m%3) (by omega) (by show m%3<3;omega);refine%[_,hc,c,rfl,%[by decide|by decide]|aa 0 ab _ _ _ ?_ ?_ ?_ ((aj.upd hp).trans (aj.upd ac))]
    rotate_left 2
    .unfold Cut.St;simp only[Yx,X8,or_false]at N;cases wd<;> rcases N with rfl|rfl|rfl<;> simp<;>(split<;>(try split)<;> omega)
    all_goals(split<;>(simp)<;> omega)
  .intro σ y %[m,b,o,g,rfl,a0,a7,U,l,B,r|C];refine k5 _ _ ?_;lk;exact kk L y g U O l (by omega) %[a,by omega,r|λk c d G t=>C k c d G ((Y9 (Xn t).1)▸t)]
theorem ur(xs:ZL){lo hi:Int}(a:0<=lo)(b:lo<=hi)(c:hi<=xs.length):ou (xs.map V.int) (some lo) (some hi)=((xs.drop lo.toNat).take (hi.toNat-lo.toNat)).map V.int:=by
 unfold ou;have d:HT.sIx xs.length 0 (some lo)=lo.toNat:=by
  show(if lo<0 then _ else min lo.toNat xs.length)=_
  grind
 have e:HT.sIx xs.length xs.length (some hi)=hi.toNat:=by
  show(if hi<0 then _ else min hi.toNat xs.length)=_;rw[if_neg ⋯]
  lia
 simp_all
theorem Da(a:Int)(b:ZL):inV (V.int a) (b.map V.int)=decide (a∈b):=by
 unfold inV
 induction b with
 | nil=>rfl
 | cons c r d=>
   show((c==a)||_)=_
   grind
theorem yK(a:ZL):(a.map V.int).all gQ=true:=by simp[gQ]
theorem yL(T:Txt K mg):↥2 "_law_cut" ["_law_row_here","_law_shift","_law_wild"] (Bn K):=by
 refine T.bj.cal cN (λH vs Q E h=>?_)
 .have%[a,xs,u,d,rfl,hs,keep,b5,hb,s0|kk]:=h;refine%[rfl|λf co A outer s hr=>?_];have get:∀i:Int,0<=i->i<6->∃c,atI (xs.map V.int) i=some (V.int c)/\0<=c/\c<9973:=λi h0 h1=>by
   have%[c,e|hm]:=iB xs h0 ⋯;exact%[c,e|hb c hm]
  have%[c0,g0,l0|u0]:=get 0 (by decide) (by decide);refine%[_,%["JDI3FZCFRP0CCD>4mnFZCFRFhP0CCCD~|5mnog?1T[0'C'FZC3W0?2uG~}A0AQ1AQ2BDI6VBDS$AQ4B~p7mnEYki6A~L~MbAog?3TQ5W0?4uG~qAP0Q2AQ1BBBD~N8nmg?5$ACB~[0?6mn^~0~1~2Aog?7TQ1W0?8up~OQ10BQ0EHvA~L~MbA6BA8B",cN.nd,(show bV (ak fU) ["_law_row_here","_law_shift","_law_wild","_law_wide","_law_high","_law_columns","_law_rows","_law_k","_law_there"] _ ["_law_number","_law_high","_law_wild"] [(1,4),(2,2)]=true from by decide +kernel),(show(["_law_number","_law_high","_law_wild"]:ZB).Nodup from by decide +kernel),(show bV (ak fU) ["_law_row_here","_law_shift","_law_wild","_law_wide","_law_high","_law_columns","_law_rows","_law_k","_law_there"] _ ["_law_column_here","_law_shift","_law_k"] [(1,1),(2,7)]=true from by decide +kernel),(show(["_law_column_here","_law_shift","_law_k"]:ZB).Nodup from by decide +kernel),(show bV (ak fU) ["_law_row_here","_law_shift","_law_wild","_law_wide","_law_high","_law_columns","_law_rows","_law_k","_law_there"] _ ["_law_at","_law_columns"] [(1,5)]=true from by decide +kernel),(show(["_law_at","_law_columns"]:ZB).Nodup from by decide +kernel),(show bV _ ["_law_at","_law_columns"] _ ["_law_column_here","_law_at"] [(1,0)]=true from rfl),(show(["_law_column_here","_law_at"]:ZB).Nodup from by decide +kernel)|hr]|?_]
  show bo _ _ _ [!a,some (.int u),some (.bl d),none,none,none,none,none,none] H;refine ap λD1 k1 _=>?_
  lk;refine%[_,hs,_,g0,c0,rfl,by decide|k1 _ _ (ap λD2 k2 _=>?_)];lk;refine%[_,hs,_,g0,c0,rfl,%[by decide|by decide],by decide|k2 _ _ (ap λD4 k4 _=>?_)];have w1:1<=1+c0%5:=by lia
  have w5:1+c0%5<=5:=by lia
  have i1:1<=1+c0/5%7:=by lia
  have i6:1+c0/5%7<=7:=by lia
  generalize ct:1+c0%5=wd at w1 w5
  generalize 1+c0/5%7=hi at i1 i6
  refine aL λC U=>?_
  lk;refine .inl %[_,hs|λp Y=> .inl %[%[_|SqL.of ae]|U _ _ λD hD=>?_]];rw[ur xs (by decide) ⋯ ⋯]at hD ⊢;have a1:((xs.drop (Int.toNat 1)).take ((1+wd).toNat-Int.toNat 1)).length=wd.toNat:=by
   rw[Yn,Yj,b5];rw[show(1+wd).toNat=wd.toNat+1 by lia];exact X1 ⋯
  have a2:∀x∈(xs.drop (Int.toNat 1)).take ((1+wd).toNat-Int.toNat 1),0<=x/\x<9973:=λx hx=>hb x (Yy (Yz hx))
  generalize (xs.drop (Int.toNat 1)).take ((1+wd).toNat-Int.toNat 1)=ys at a1 a2 hD ⊢
  have a3:aj H (upd H p (.lst (ys.map V.int))):=aj.upd Y;have aa:upd H p (.lst (ys.map V.int)) p=some (.lst (ys.map V.int)):=ae
  generalize upd H p (.lst (ys.map V.int))=b6 at a3 aa hD ⊢
  refine bC (J:=Itl K p) (n:=wd.toNat) (D:=D) (λi zs m j=>(∃o,m=[o,some (.int hi),some (.bl d)])/\aj b6 j/\j D=some (.lst zs)/\∃b:List (Addr×ZL),zs=b.map (λq=>V.ref q.1)/\b.length=i/\rW j b/\∀q∈b,q.1≠D/\q.2.length=hi.toNat/\jS d q.2)
   %[%[none|rfl],aj.upd hD,ae,[],rfl,rfl,λq y=>(nomatch y)|λq y=>(nomatch y)]
   (λi _ _ j a4 g=>%[_,V.int (ys[i]'⋯),SqL.of (g.2.1 _ _ aa)|by simp[show i<ys.length by lia]]) (λ_ _ j g=>%[_,SqL.of (g.2.1 _ _ aa)|by simp[a1]]) ?_ ?_
  .intro i zs m j a4 %[%[o|rfl],L,a5,b,rfl,I,ab|M] x H2 %[e2|hx];subst e2;have a6:i<ys.length:=by lia
   have v:=hx _ (SqL.of (L _ _ aa));rw[Zl,Z4 a6]at v;obtain rfl:x=V.int ys[i]:=(Za v).symm;lk;refine%[_,_,_,rfl,(a2 _ (Yd a6)).1,i1,i6|λl H3 b7 al a7 bb bc b9=>?_];have bf:l≠D:=λe=>by rw[e,a5]at a7;cases a7
   refine CK.mk a4 (al _ _ a5) (by rw[Z6,I];exact aJ ⋯) %[%[_|rfl],aj.set (L.trans al) hD,ae,b++[(l,b7)],by rw[Zd];rfl,by rw[Z9,I];rfl,λq y=>?_|λq y=>?_]
   .rcases Xo y with z|z
    .rw[ao (M q z).1];exact al _ _ (ab q z)
    .rw[Xp z,ao bf];exact bb
   .rcases Xo y with z|z
    .exact M q z
    .rw[Xp z];exact%[bf,bc|b9]
  intro zs m H4 %[_,ca,bl,b,rfl,I,ab|M];have an:aj H H4:=a3.trans ca;refine k4 _ _ (ap λD5 k5 _=>?_);lk;refine%[Xg _|λR hR=>k5 _ _ (ap λD6 k6 _=>aA λC U=>?_)];lk;have cl:(b.map (·.2)).length=wd.toNat:=by rw[Z6];exact I
  refine%[⋯,⋯|U _ _ (cP (λi m j=>∃o7,m=[!a,some (.int u),some (.bl d),some (.int wd),some (.int hi),!D,!R,o7,none]/\aj H4 j/\j R=some (.lst (((List.range i).map (ip (b.map (·.2)) u)).map V.str)))
   %[_,rfl,aj.upd hR|ae] ?_ ?_)]
  .intro i m H5 cM %[o7,rfl,t|ac];show jv _ _ [!a,some (.int u),some (.bl d),some (.int wd),some (.int hi),!D,!R,some (.int (0+i)),none] H5;rw[Int.zero_add];refine aF λD8 k8 _=>?_
   lk;refine%[.inl %[_|SqL.of ac]|aL λC U=>?_];lk;have ag:=t _ _ bl;refine .inl %[%[_|SqL.of ag]|U _ _ λF hF=>?_];refine bC (J:=Itl K D) (n:=wd.toNat) (D:=F) (λq ts m j=>(∃o,m=[o,some (.int u),some (.int i)])/\aj H5 j/\j F=some (.lst ts)/\ts=(((b.take q).map (λp=>sg (p.2.getD i 0) u)).map sgn).map V.str)
    %[%[none|rfl],aj.upd hF,ae|rfl]
    (λq _ _ j y g=>%[_,V.ref (b[q]'⋯).1,SqL.of (g.2.1 _ _ ag)|by simp[show q<b.length by lia]]) (λ_ _ j g=>%[_,SqL.of (g.2.1 _ _ ag)|by simp[I]]) ?_ ?_
   .intro q ts m j y %[%[o|rfl],L,as|N] x H2 %[e2|hx];subst e2;have B:q<b.length:=by lia
    have v:=hx _ (SqL.of (L _ _ ag));rw[Zl,Z4 B]at v;obtain rfl:x=V.ref b[q].1:=(Za v).symm;have hm:=Yd B;lk;refine%[_,SqL.of (L _ _ (t _ _ (ab _ hm))),V.int (b[q].2.getD i 0),?_|?_]
    .refine cq ?_;rw[Zl,c9 (M _ hm).2.1 ⋯];rfl
    refine%[_,_,rfl,s0|?_];refine CK.mk y as (by rw[N,Z6,Z6,Z6,Yn];exact aJ ⋯) %[%[_|rfl],aj.set L hF,ae|?_];rw[N,Xc,Zd,Zd,Zd,Z4 B];rfl
   intro ts m H7 %[_,bm,cb|N];rw[Zn ⋯]at N;lk;refine%[(b.map λp=>sg (p.2.getD i 0) u).map sgn,by rw[<-N];exact SqL.of cb,?_,_,bm _ _ ac,by rw[Z6,Z6,Yl];exact aJ ⋯|k8 _ _ %[_,rfl,aj.set (t.trans bm) hR|?_]]
   .rw[qZ,Z6,Z6,show(Str.ofString "").length=0 from rfl]
    lia
   .rw[ae,Xb,Zd,Zd,show Txt.join (Str.ofString "") ((b.map λp=>sg (p.2.getD i 0) u).map sgn)=Str.join (Str.ofString "") ((b.map λp=>sg (p.2.getD i 0) u).map sgn)from StrLaws.glued_eq_join _ _,mL];have e:ip (b.map (·.2)) u i=⟨(b.map λp=>sg (p.2.getD i 0) u).toArray⟩:=by
     unfold ip;rw[Yt];rfl
    rw[<-e];rfl
  .intro m H5 %[o7,rfl,t|ac];refine k6 _ _ (ap λD7 k7 _=>aL λC U=>?_);lk;refine%[by decide,by decide|U _ _ λF hF=>?_];refine bC (J:=Itr 0 8) (n:=8) (D:=F) (λq ts m j=>(∃o,m=[o,!D])/\aj H5 j/\j F=some (.lst ts)/\ts=(((List.range q).filter λa:Nat=>(b.map (·.2)).any λc=>decide ((a:Int)∈c)).map λa:Nat=>(a:Int)).map V.int)
    %[%[none|rfl],aj.upd hF,ae|rfl] (λq _ _ j y _=>y) (λ_ _ j _=>Zi _) ?_ ?_
   .intro q ts m j y %[%[o|rfl],L,as|N] x H2 %[e2|e3];subst e2 e3;lk;refine aL λC U=>?_
    lk;have ah:=L _ _ (t _ _ bl);refine .inl %[%[_|SqL.of ah]|U _ _ λG hG=>?_];refine bC (J:=Itl K D) (n:=wd.toNat) (D:=G) (λr zs m H3=>(∃o,m=[o,some (.int q)])/\aj H2 H3/\H3 G=some (.lst zs)/\zs=(b.take r).map (λp=>V.bl (decide ((q:Int)∈p.2))))
     %[%[none|rfl],aj.upd hG,ae|rfl]
     (λr _ _ H3 bt g=>%[_,V.ref (b[r]'⋯).1,SqL.of (g.2.1 _ _ ah)|by simp[show r<b.length by lia]]) (λ_ _ H3 g=>%[_,SqL.of (g.2.1 _ _ ah)|by simp[I]]) ?_ ?_
    .intro r zs m H3 bt %[%[o|rfl],s3,cd|hz] x c1 %[e2|hx];subst e2;have B:r<b.length:=by lia
     have v:=hx _ (SqL.of (s3 _ _ ah));rw[Zl,Z4 B]at v;obtain rfl:x=V.ref b[r].1:=(Za v).symm;have hm:=Yd B;lk;refine%[_,.inl (SqL.of (s3 _ _ (L _ _ (t _ _ (ab _ hm))))),rfl,yK _|?_];rw[Da];refine CK.mk bt cd (by rw[hz,Z6,Yn];exact aJ ⋯) %[%[_|rfl],aj.set s3 hG,ae|?_];rw[hz,Xc,Zd,Z4 B];rfl
    intro zs m H3 %[_,s3,ch|hz];rw[Zn ⋯]at hz;have b0:=s3 _ _ as;lk;refine%[b.map λp=>decide ((q:Int)∈p.2),by rw[Yt];exact SqL.of (by rw[ch,hz];rfl)|?_];rw[show((b.map λp=>decide ((q:Int)∈p.2)).any id)=(b.map (·.2)).any λc=>decide ((q:Int)∈c) by rw[any_map,any_map];rfl];have b1:ts.length<sizeLine:=by
     rw[N,Z6,Z6];have:=Yk (λa:Nat=>(b.map (·.2)).any λc=>decide ((a:Int)∈c)) (List.range q);rw[Yl]at this;exact aJ ⋯
    refine bJ (λhb=>?_) λhb=>?_
    .refine CK.mk y b0 b1 %[%[_|rfl],aj.set (L.trans s3) hF,ae|?_];rw[N,Xb,Y3,Zd,Zd];rw[show List.filter (λa:Nat=>(b.map (·.2)).any λc=>decide ((a:Int)∈c)) [q]=[q]from by rw[filter_cons,if_pos hb];rfl];rfl
    .refine CN.mk y %[%[_|rfl],L.trans s3,b0|?_];rw[N,Xb,Y3,Zd,Zd];rw[show List.filter (λa:Nat=>(b.map (·.2)).any λc=>decide ((a:Int)∈c)) [q]=[]from by rw[filter_cons,if_neg hb];rfl];simp
   intro ts m H6 %[_,a0,b2|N];refine k7 _ _ ?_;lk;have O:∀c∈b.map (·.2),c.length=hi.toNat/\jS d c:=λc hc=>by
    have%[p,Y|rfl]:=Xq hc;exact(M p Y).2
   have ai:cg (drawn (b.map (·.2)) hi.toNat u):=ud ⋯ ⋯ ⋯ ⋯ O;have b3:H5 R=some (.lst ((drawn (b.map (·.2)) hi.toNat u).map V.str)):=ac;refine%[drawn (b.map (·.2)) hi.toNat u,SqL.of (a0 _ _ b3),?_,#[2]|λp Y=>?_]
   .have:=ai.sum;have:=ai.high;rw[show(Str.ofString "\n").length=1 from rfl]
    lia
   .have b4:aj H (upd H6 p (.tup [V.str (Txt.join (Str.ofString "\n") (drawn (b.map (·.2)) hi.toNat u)),V.ref F])):=(an.trans (t.trans a0)).trans (aj.upd Y);refine kk p F _ (b.map (·.2)) hi.toNat b4 ((an.trans (t.trans a0)).free Y) ((an.trans t).free hF) (λe=>by rw[e,b2]at Y;cases Y) ?_ ?_ ⋯ ⋯ ⋯ ⋯ O
    .rw[ae,show Txt.join (Str.ofString "\n") (drawn (b.map (·.2)) hi.toNat u)=Str.join (Str.ofString "\n") (drawn (b.map (·.2)) hi.toNat u)from StrLaws.glued_eq_join _ _];rfl
    .rw[aj.upd Y F _ b2,N];rfl
inductive qf (vs:ZM) (H:Hp) (Q:VK) (E0:XK):Prop
 | mk (z:Str) (z0:vs=[.str z]) (z1:z.length<=1000) (z2:∀H',aj H H'->Q (.bl (qY z)) H'):qf vs H Q E0
inductive nH (vs:ZM) (H:Hp) (Q:VK) (E0:XK):Prop
 | mk (row above:Str) (z0:vs=[.str row,.str above]) (z1:row.length<=1000) (z2:above.length<=1000) (z3:∀H',aj H H'->Q (.bl (eI row above)) H'):nH vs H Q E0
inductive i4 (K:ZA) (vs:ZM) (H:Hp) (Q:VK) (E0:XK):Prop
 | mk (a) (rows) (z0:vs=[.ref a]) (z1:SqL K H a (rows.map V.str)) (z2:(rows.map (·.length)).sum<=3000) (z3:(∀r∈rows,r.cps.toList.all okc=true)) (z4:∀l H' ss,aj H H'->H l=none->H' l=some (.lst (ss.map V.str))->ss.Perm (aK ((cJ rows).map sgn))->PyProof.Rows.sortedS ss=true->Q (.ref l) H'):i4 K vs H Q E0
inductive nJ (vs:ZM) (H:Hp) (Q:VK) (E0:XK):Prop
 | mk (rows:ZB) (z0:vs=[.str (Str.join nl rows)]) (z1:cg rows) (z2:∀l H',aj H H'->H l=none->H' l=some (.lst (rows.map V.str))->Q (.ref l) H'):nJ vs H Q E0
theorem iK(z:Str)(i:Nat)(c:Nat)(h:z.cps[i]? =some c):(z.cps.toList.take i++[c])=z.cps.toList.take (i+1):=by
 have h':z.cps.toList[i]? =some c:=by simpa using h
 have%[a|e]:=Xn h';rw[List.take_succ_eq_append_getElem a,e]
theorem Bp(c d:Nat):((⟨([c].toArray)⟩:Str)=⟨([d].toArray)⟩)↔c=d:=by
 simp
theorem nK(c:Nat):((⟨([c].toArray)⟩)=Str.ofString ".")↔c=46:=Bp c 46
theorem Bq(T:Txt K mg):↥1 "is_row" ["row"] qf:=by
 refine T.aU.cal yH (λH vs Q E h=>?_)
 .have%[z,rfl,N|k]:=h;refine%[rfl|λf v A outer s M=>?_];refine%[_,%["JEHx~Y__CefA0B~3%~P~QAog?1T0W0?2u~rpX0~A%p~O0~sB",0,(show bV (ak nv) ["row"] _ ["sign"] []=true from by decide +kernel)|(show(["sign"]:ZB).Nodup from by simp)]|?_];show jw _ _ [-z] H;lk;refine%[bM ⋯|bJ (λl=>bJ (λm=>?_) λm=>?_) λl=>?_]
  .refine aL λt y=>?_
   lk;refine y _ _ λD u=>?_
   refine bC (J:=Its z) (n:=z.cps.size) (D:=D) (λi ys d a=>(∃o,d=[o])/\aj H a/\a D=some (.lst ys)/\ys=(z.cps.toList.take i).map (λc=>V.bl (okc c))) %[%[none|rfl],aj.upd u,ae|rfl]
    (λi _ _ _ hi _=>hi) (λ_ _ _ _=>Zi _) ?_ ?_
   .intro i ys d a hi %[%[o|rfl],p,q|g] x B %[C,c,G|rfl];subst C;have j:ys.length=i:=by
     rw[g,Z6,Yn];have:z.cps.toList.length=z.cps.size:=by simp
     lia
    have I:i<1000:=by
     have:z.length=z.cps.size:=rfl
     lia
    have put:∀b:Bool,b=okc c->CK D z.cps.size i (λi ys d a=>(∃o,d=[o])/\aj H a/\a D=some (.lst ys)/\ys=(z.cps.toList.take i).map (λc=>V.bl (okc c))) ys [some (.str ⟨([c].toArray)⟩)] (.bl b) B:=λb L=>
     CK.mk hi q (j▸aJ ⋯) %[%[_|rfl],aj.set p u,ae|by rw[L,g,<-iK z i c G,Zd];rfl]
    lk;refine bJ (λr=>put true ?_) λr=>put _ ?_
    .have:=(nK c).mp (Zo r);unfold okc;rw[Zf this,Bool.true_or]
    .have: ¬ c=46:=λe=>(λe=>r (Zf e)) ((nK c).mpr e)
     unfold okc;rw[Zh this,Bool.false_or,zY];rfl
   .intro ys d a %[_,p,q|g];lk;refine%[z.cps.toList.map okc,?_|?_]
    .have e:z.cps.toList.take z.cps.size=z.cps.toList:=by
      apply Zn;simp
     rw[e]at g;have:(z.cps.toList.map okc).map V.bl=ys:=by rw[g,Yt];rfl
     rw[this];exact SqL.of q
    .have e:qY z=(z.cps.toList.map okc).all id:=by
      unfold qY;rw[l,m,all_map]
      all_goals rfl
     exact e▸k a p
  .rw[Bool.not_eq_true]at m;have e:qY z=false:=by unfold qY;rw[m,Bool.and_false,Bool.false_and]
   rw[e]at k;exact k H (aj.refl H)
  .rw[Bool.not_eq_true]at l;have e:qY z=false:=by unfold qY;rw[l,Bool.false_and,Bool.false_and]
   rw[e]at k;exact k H (aj.refl H)
noncomputable def lB(p:Nat×Nat):Bool:=!decide (p.2=46)||decide (p.1=46)
theorem ut(x y:Str)(i c d:Nat)(b:x.cps[i]? =some c)(f:y.cps[i]? =some d):((List.zip x.cps.toList y.cps.toList).take i++[(c,d)])=(List.zip x.cps.toList y.cps.toList).take (i+1):=by
 have h:(List.zip x.cps.toList y.cps.toList)[i]? =some (c,d):=List.getElem?_zip_eq_some.mpr %[by simpa using b|by simpa using f];have%[a|e]:=Xn h;rw[List.take_succ_eq_append_getElem a,e]
theorem nM(T:Txt K mg):↥1 "lies_beneath" ["row","above"] nH:=by
 refine T.aV.cal lL (λH vs Q E h=>?_)
 .have%[row,a,rfl,I,L|k]:=h;refine%[rfl|λf G A outer s hr=>?_];refine%[_,%["JDNKqefA0BefA1BEHlOEH~P~QAog?1~tA1A0BcMW0?2MW1?2du~rpq1~A%pX0~AB",0,(show bV (ak eO) ["row","above"] _ ["high","low"] []=true from by decide +kernel)|(show(["high","low"]:ZB).Nodup from by decide +kernel)]|?_]
  show bo _ _ _ [-row,-a] H;refine ap λD1 k1 M=>?_
  lk;refine%[bM ⋯,bM ⋯|bJ (λj=>?_) λj=>?_]
  .have j: ¬ ((row.length:Int)=a.length):=by simpa using j
   have e:eI row a=false:=by
    unfold eI;rw[Zh ⋯,Bool.false_and]
   rw[e]at k;exact M _ _ (k H (aj.refl H))
  .have j:row.length=a.length:=by
    have:(row.length:Int)=a.length:=by simpa using j
    lia
   refine k1 _ _ ?_;have t:row.cps.size=a.cps.size:=j;have u:(List.zip a.cps.toList row.cps.toList).length=a.cps.size:=by rw[length_zip];simp[t]
   lk;refine aL λz N=>?_
   lk;refine N _ _ λD B=>?_
   refine bC (J:=Itz a row) (n:=a.cps.size) (D:=D) (λi ys l g=>(∃q r,l=[q,r])/\aj H g/\g D=some (.lst ys)/\ys=((List.zip a.cps.toList row.cps.toList).take i).map (λp=>V.bl (lB p))) %[%[none,none|rfl],aj.upd B,ae|rfl]
    (λi _ _ _ hi _=>%[hi|⋯]) (λ_ _ _ _=>%[Zi _,⋯|.inl rfl]) ?_ ?_
   .intro i ys l g hi %[%[q,r|rfl],v,y|m] x H2 %[c,d,TT,O,U,C,rfl|rfl];have o:ys.length=i:=by rw[m,Z6,Yn,u];lia
    have Y:i<1000:=by
     have:a.length=a.cps.size:=rfl
     lia
    have put:∀b:Bool,b=lB (c,d)->CK D a.cps.size i (λi ys l g=>(∃q r,l=[q,r])/\aj H g/\g D=some (.lst ys)/\ys=((List.zip a.cps.toList row.cps.toList).take i).map (λp=>V.bl (lB p))) ys [some (.str ⟨([c].toArray)⟩),some (.str ⟨([d].toArray)⟩)] (.bl b) (upd g TT (.tup [.str ⟨([c].toArray)⟩,.str ⟨([d].toArray)⟩])):=λb eb=>
     CK.mk hi (aj.upd C _ _ y) (o▸aJ ⋯) %[%[_,_|rfl],aj.set (v.trans (aj.upd C)) B,ae|by rw[eb,m,<-ut a row i c d O U,Zd];rfl]
    lk;refine%[_,SqT.of ae,rfl,_,_,rfl,_,_,rfl,rfl,rfl|?_];simp only[V.str.injEq,nK];refine bJ (λh=>put true ?_) λh=>%[rfl|put _ ?_]
    .unfold lB;rw[h,Bool.true_or]
    .unfold lB;rw[Bool.not_eq_true]at h;rw[h,Bool.false_or]
   .intro ys l g %[_,v,y|m];lk;refine%[(List.zip a.cps.toList row.cps.toList).map lB,?_|?_]
    .have e:(List.zip a.cps.toList row.cps.toList).take a.cps.size=List.zip a.cps.toList row.cps.toList:=Zn ⋯;rw[e]at m;have:((List.zip a.cps.toList row.cps.toList).map lB).map V.bl=ys:=by rw[m,Yt];rfl
     rw[this];exact SqL.of y
    .have e:eI row a=((List.zip a.cps.toList row.cps.toList).map lB).all id:=by
      unfold eI;rw[Zf j,all_map,Bool.true_and];rfl
     exact e▸k g v
theorem yM(h:(rows.map (·.length)).sum<=3000):(Str.join (Str.ofString "") rows).length<=3000:=by
 have:=StrLaws.join_length_le (Str.ofString "") rows;rw[show(Str.ofString "").length=0 from rfl]at this
 lia
theorem j6(T:Txt K mg):↥1 "letters_in" ["rows"] (i4 K):=by
 refine T.aW.cal oO (λH vs Q E h=>?_)
 .have%[a,rows,rfl,N,g,u|k]:=h;refine%[rfl|λf M A outer s hr=>?_];refine%[_,%["JEH/~4A~B~ZAog?1T~L~MbA0BW0?2^Kq0~A0BB",0,(show bV (ak gF) ["rows"] _ ["sign"] []=true from by decide +kernel)|(show(["sign"]:ZB).Nodup from by simp)]|?_];show jw _ _ [!a] H;lk;refine aL λC O=>?_
  lk;refine%[rows,N,by rw[show(Str.ofString "").length=0 from rfl];lia|?_];rw[show Txt.join (Str.ofString "") rows=Str.join (Str.ofString "") rows from StrLaws.glued_eq_join _ _];have j:=yM g;have b:=kz u;unfold cJ at b k
  generalize Str.join (Str.ofString "") rows=z at j b k ⊢
  refine O _ _ λD G=>?_
  refine bC (J:=Its z) (n:=z.cps.size) (D:=D) (λi ys v m=>(∃o,v=[o])/\aj H m/\m D=some (.lst ys)/\ys=((z.cps.toList.take i).filter (λc=>decide (c≠46))).map (λc=>V.str (sgn c))) %[%[none|rfl],aj.upd G,ae|rfl]
   (λi _ _ _ hi _=>hi) (λ_ _ _ _=>Zi _) ?_ ?_
  .intro i ys v m hi %[%[o|rfl],r,t|d] x H2 %[U,c,I|rfl];subst U;have L:ys.length<=i:=by
    rw[d,Z6];have:=Yk (λc=>decide (c≠46)) (z.cps.toList.take i);rw[Yn]at this
    lia
   have Y:i<3000:=by
    have:z.length=z.cps.size:=rfl
    lia
   lk;simp only[nK];refine bJ (λy=>?_) λy=>?_
   .refine CK.mk hi t (aJ ⋯) %[%[_|rfl],aj.set r G,ae|?_];rw[<-iK z i c I,Y3,Zd,d];have:decide (c≠46)=true:=by simpa using y
    rw[filter_cons,this];rfl
   .refine CN.mk hi %[%[_|rfl],r,t|?_];rw[<-iK z i c I,Y3,Zd,d];have:decide (c≠46)=false:=by simpa using y
    rw[filter_cons,this];simp
  .intro ys v m %[_,r,t|d];have e:z.cps.toList.take z.cps.size=z.cps.toList:=by
    apply Zn;simp
   rw[e]at d;lk;have aa:=Yk (λc=>decide (c≠46)) z.cps.toList;have ab:z.cps.toList.length=z.length:=by simp[Str.length]
   refine%[(z.cps.toList.filter (λc=>decide (c≠46))).map sgn,?_,by rw[Z6];lia|λS hS=>%[_,ae,?_|λl ss p hp B=>?_]]
   .rw[Yt];have:(z.cps.toList.filter (λc=>decide (c≠46))).map (V.str ∘ sgn)=ys:=by rw[d];rfl
    rw[this];exact SqL.of t
   .have:=mK b
    lia
   .have q:aj H (upd m S (jd w S (aK ((z.cps.toList.filter (λc=>decide (c≠46))).map sgn)))):=r.trans (aj.upd hS);exact k l _ ss (q.trans (aj.upd p)) (q.free p) ae hp B
theorem kK(T:Txt K mg):↥2 "rows_of" ["text"] nJ:=by
 refine T.aT.cal gE (λH vs Q E h=>?_)
 .have%[rows,rfl,a|k]:=h;refine%[rfl|λf al A outer s M=>?_];have%[wd,w1,w2|hw]:=a.wide;have N:=a.text;have t:=a.split;refine%[_,%["JDNyj()A0A?1BE*ODI1~5~60AbBDS~CA1BcML2ML3dDNasKX2~7zyjG~8A3BE*OENawK}2C&yjG~9A3AP1F<2CBE*ODNKXefAG~uA1BBCE*OEH1",gE.nd,(blE (v:= .ty "str") rfl T.ab boot_str rfl rfl rfl)|M]|?_]
  generalize Str.join nl rows=z at N t
  show bo _ _ _ [-z,none,none,none] H;refine ap λD1 k1 _=>?_
  lk;refine%[.type "str",.str z,true,by rfl|oA (k1 _ _ (ap λD2 k2 _=>?_))];lk;refine%[by decide,Yi (by lia:z.length+2<=5000) (by decide)|λl hl=>k2 _ _ ?_];rw[show(Str.ofString "\n")=nl from rfl,t];refine ap λD3 k3 _=>aA λag hK=>?_
  lk;have O:aj H (upd H l (.lst (rows.map V.str))):=aj.upd hl;refine%[_,SqL.of ae|hK _ _ (im (λi J g=>∃U Y,J=[-z,!l,U,Y]/\aj H g/\g l=some (.lst (rows.map V.str))) %[none,none,rfl,O|ae] (λi J g _ ⟨_,_,_,_,q⟩=>SqL.of q) ?_ ?_)]
  .intro i x TT J g u %[U,Y,rfl,sm|j] hT;obtain⟨r,m,rfl⟩:∃r,rows[i]? =some r/\x=V.str r:=by
    rw[Zl]at u;cases e:rows[i]? with
    | none=>rw[e]at u;cases u
    | some r=>rw[e]at u;exact%[r,rfl|(Za u).symm]
   have ah:i<rows.length:=(Xn m).1;have ai:=a.high;have y:aj H (upd g TT (.tup [.int i,.str r])):=sm.trans (aj.upd hT);have o:upd g TT (.tup [.int i,.str r]) l=some (.lst (rows.map V.str)):=aj.upd hT _ _ j;have B:upd g TT (.tup [.int i,.str r]) TT=some (.tup [.int i,.str r]):=ae
   generalize upd g TT (.tup [.int i,.str r])=HT at y o B
   have C:r.length<=1000:=by
    have:r.length=wd:=hw r (Z8 m)
    lia
   refine%[_,SqT.of B,rfl,_,_,rfl,_,_,rfl,rfl|?_];show bo _ _ _ [-z,!l,some (.int i),-r] HT;refine ap λD4 k4 _=>?_
   have go:∀p,aj HT p->D4.nx [-z,!l,some (.int i),-r] p:=by
    intro p b;refine k4 _ _ (aF λD5 k5 _=>?_);have G:∀L,aj HT L->D5.nx [-z,!l,some (.int i),-r] L:=λL n=>k5 _ _ %[_,_,rfl,y.trans n|n l _ o]
    lk;refine bJ (λI=>?_) λ_=>G _ b
    have I:0<(i:Int):=Zo I;obtain⟨d,rfl⟩:∃d,i=d+1:=%[i-1|⋯]
    have aa:d<rows.length:=by lia
    have ab:rows[d]? =some rows[d]:=by simp
    have e1:(((d+1:Nat):Int) -1)=(d:Int):=by lia
    refine%[_,SqL.of (b l _ o),.str rows[d],e1▸cq ∅,r,rows[d],rfl,C,?_|λL n=>%[_,rfl|?_]]
    .have:rows[d].length=wd:=hw _ (Yd aa)
     lia
    .rw[a.beneath ab m];exact oA (G _ (b.trans n))
   lk;rw[if_neg ⋯];refine%[r,rfl,C|λp b=>%[_,rfl|?_]];rw[a.row (Z8 m)];exact oA (go p b)
  .intro J g %[U,Y,rfl,sm|j];refine k3 _ _ ?_;lk;refine%[l,rows,rfl,SqL.of j,by have:=a.sum;lia,a.sign|λl2 p ss b an ac I as=>%[_,.inl %[_,SqL.of ac|rfl]|?_]];rw[if_neg]
   .exact k l p (sm.trans b) hl (b l _ j)
   .intro h0;have h0:=Zo h0;rw[Z6]at h0;have:ss=[]:=length_eq_zero_iff.mp ⋯;rw[this]at I;have hm:=I.symm.eq_nil;have%[c|hc]:=List.exists_mem_of_ne_nil _ a.signs_ne;have:sgn c∈aK ((cJ rows).map sgn):=br.mpr (Xr %[c,hc|rfl]);rw[hm]at this;cases this
noncomputable def qg(p:Nat×Nat):Option ZB:=if p.1≠46/\p.1≠p.2 then some [sgn p.1,sgn p.2]else none
noncomputable def nN(u r:Str):List ZB:=(List.zip u.cps.toList r.cps.toList).filterMap qg
theorem iC(H:Hp):aE H []:=λp a=>by cases a
theorem aU(h:aE H ps)(s:∀b z,H b=some (.tup z)->c b=some (.tup z)):aE c ps:=λp a=>%[(h p a).1|s _ _ (h p a).2]
theorem iL(h:aE H ps)(a:q.2≠[])(b:H q.1=some (.tup (q.2.map V.str))):aE H (ps++[q]):=λp c=>by
 rcases Xo c with z|z
 .exact h p z
 .rw[Xp z];exact%[a|b]
theorem uu(a:aE H ps)(b:aE H qs):aE H (ps++qs):=λp c=>(Xo c).elim (a p) (b p)
inductive DF (vs:ZM) (H:Hp) (Q:VK) (E0:XK):Prop
 | mk (u r:Str) (z0:vs=[.str u,.str r]) (z1:u.length<=40) (z2:r.length=u.length) (z3:∀l H' ps,aj H H'->H l=none->H' l=some (.lst (ps.map λp=>V.ref p.1))->aE H' ps->ps.map (·.2)=nN u r->Q (.ref l) H'):DF vs H Q E0
inductive w4 (vs:ZM) (H:Hp) (Q:VK) (E0:XK):Prop
 | mk (rows:ZB) (z0:vs=[.str (Str.join nl rows)]) (z1:cg rows) (z2:∀l H' ss,aj H H'->H l=none->H' l=some (.lst (ss.map V.str))->ss.Perm (aK ((cJ rows).map sgn))->PyProof.Rows.sortedS ss=true->Q (.ref l) H'):w4 vs H Q E0
theorem yN(T:Txt K mg):↥3 "letters" ["text"] w4:=by
 refine T.aX.cal v5 (λH vs Q E h=>?_)
 .have%[rows,rfl,a|e]:=h;refine%[rfl|λf d A outer s b=>?_];refine%[_,%["JEHG~uAG~vA0BB",0|b],rows,rfl,a|λl r c t g=>%[l,rows,rfl,SqL.of g,by have:=a.sum;lia,a.sign|λi j ss m n o p q=>e i j ss (c.trans m) (c.free n) o p q]]
theorem jo(T:Txt K mg):↥1 "meetings_between" ["above","row"] DF:=by
 refine T.aZ.cal iR (λH vs Q E h=>?_)
 .have%[u,r,rfl,hu,ac|kk]:=h;refine%[rfl|λf ab A outer s hr=>?_];have ag:u.length=u.cps.size:=rfl;have ah:r.length=r.cps.size:=rfl;refine%[_,%["JEHog?1~tA0A1BcMW0?2MW1?2d^awKq0~A&Kq01vA0A1B",0,(show bV (ak cL) ["above","row"] _ ["high","low"] []=true from by decide +kernel)|(show(["high","low"]:ZB).Nodup from by decide +kernel)]|?_];show jw _ _ [-u,-r] H;lk;refine aL λaa hK=>?_
  lk;refine hK _ _ λD N=>?_
  refine bC (J:=Itz u r) (n:=u.cps.size) (D:=D) (λi ys O l=>(∃o1 o2,O=[o1,o2])/\aj H l/\l D=some (.lst ys)/\ys.length<=i/\∃ps:ZG,ys=ps.map (λp=>V.ref p.1)/\aE l ps/\ps.map (·.2)=((List.zip u.cps.toList r.cps.toList).take i).filterMap qg)
   %[%[none,none|rfl],aj.upd N,ae,Zi _,[],rfl,iC _|rfl] (λi _ _ _ hi _=>%[hi|⋯]) (λ_ _ _ _=>%[Zi _,⋯|.inl rfl]) ?_ ?_
  .intro i ys O l hi %[%[o1,o2|rfl],U,Y,G,ps,I,m|j] x H2 %[c,d,TT,hc,hd,hT,rfl|rfl];have t:=aj.upd (o:= .tup [.str ⟨([c].toArray)⟩,.str ⟨([d].toArray)⟩]) hT;have nx:=ut u r i c d hc hd;have a:=t _ _ Y;have B:upd l TT (.tup [.str ⟨([c].toArray)⟩,.str ⟨([d].toArray)⟩]) TT=some (.tup [.str ⟨([c].toArray)⟩,.str ⟨([d].toArray)⟩]):=ae;have g:aE (upd l TT (.tup [.str ⟨([c].toArray)⟩,.str ⟨([d].toArray)⟩])) ps:=λp C=>%[(m p C).1|t _ _ (m p C).2]
   have v:=U.trans t
   generalize upd l TT (.tup [.str ⟨([c].toArray)⟩,.str ⟨([d].toArray)⟩])=HT at t a B g v
   refine%[_,SqT.of B,rfl,_,_,rfl,_,_,rfl,rfl|?_];show BP _ _ [some (.str ⟨([c].toArray)⟩),some (.str ⟨([d].toArray)⟩)] HT _;lk;simp only[nK,Bp];have ai:D≠TT:=λe=>by rw[e,B]at a;cases a
   refine bJ (λL=>bJ (λM=>?_) λM=>?_) λL=>?_
   .have L:c≠46:=by simpa using L
    have M:c≠d:=by simpa using M
    refine%[show 2<=sizeLine from by decide|λp C=>?_];have y:=aj.upd (o:= .tup [V.str ⟨([c].toArray)⟩,V.str ⟨([d].toArray)⟩]) C;have al:p≠D:=λe=>by rw[e,a]at C;cases C
    refine CK.mk hi (y _ _ a) (aJ ⋯) %[%[_,_|rfl],aj.set (v.trans y) N,ae,by rw[Z9,Ym];lia,ps++[(p,[sgn c,sgn d])],by rw[I,Zd];rfl,?_|?_]
    .have keep:∀b z,upd HT p _ b=some (.tup z)->upd _ D (.lst (ys++[V.ref p])) b=some (.tup z):=λb z e=>by
      have:b≠D:=λe2=>by rw[e2,y _ _ a]at e;cases e
      rw[ao this];exact e
     exact aU (iL (aU g λb z e=>y _ _ e) ∅ (by rw[ae];rfl)) keep
    .rw[Zd,j,<-nx,List.filterMap_append];have:qg (c,d)=some [sgn c,sgn d]:=if_pos %[L|M];rw[Y2,this];rfl
   .refine CN.mk hi %[%[_,_|rfl],v,a,⋯,ps,I,g|?_];rw[j,<-nx,List.filterMap_append];have:qg (c,d)=none:=if_neg λq=>q.2 (by simpa using M)
    rw[Y2,this];simp
   .refine CN.mk hi %[%[_,_|rfl],v,a,⋯,ps,I,g|?_];rw[j,<-nx,List.filterMap_append];have:qg (c,d)=none:=if_neg λq=>q.1 (by simpa using L)
    rw[Y2,this];simp
  .intro ys O l %[_,U,Y,G,ps,I,m|j];rw[Zn (by rw[length_zip];simp;lia)]at j;exact kk D l ps U N (by rw[Y,I]) m j
theorem Br{K:ZA}{xs ys:ZM}{g:TG}{q:TS}{D:iO}(Pv:Nat->St->Hp->Prop)(s:Pv 0 c H)(t:ys.length<=xs.length)(u:∀i c H,i<=ys.length->Pv i c H->SqL K H a xs/\SqL K H b ys)
 (z:∀i x y T c H,xs[i]? =some x->ys[i]? =some y->Pv i c H->H T=none->g (.ref T) c (upd H T (.tup [x,y])) λd j=>q {D with nx:=Pv (i+1),ct:=Pv (i+1),bk:=D.nx} d j) (A:∀c H,Pv ys.length c H->D.nx c H):
 ∃W:Nat->Nat->St->Hp->Prop,(∃m,W 0 m c H)/\∀i m c H,W i m c H->
  ((yn K a b).stop i H/\D.nx c H)\/((yn K a b).go i H/\∃N:St->Hp->Prop,(∀f h,N f h->∃r,r<m/\W (i+1) r f h)/\∀x h,(yn K a b).yld i H x h->g x c h λd j=>q {D with nx:=N,ct:=N,bk:=D.nx} d j):=by
 refine%[λi m c H=>m=ys.length-i/\i<=ys.length/\Pv i c H,%[ys.length,by simp,Xg _|s]|?_];intro i m c H %[rfl,hi|p];have%[l|n]:=u i c H hi p;by_cases o:i<ys.length
 .have B:xs[i]? =some xs[i]:=by simp[show i<xs.length by lia]
  have C:ys[i]? =some ys[i]:=by simp
  refine .inr %[%[xs,ys,_,_,l,n,B|C],Pv _,λf h E=>%[ys.length-(i+1),⋯,rfl,o|E]|λv h y=>?_];have%[T,G,I,J,rfl,rfl,L|M]:=y;exact z i G I T c H (L xs l) (M ys n) p J
 .have e:i=ys.length:=by lia
  subst e;exact .inl %[%[xs,ys,l,n,⋯,Zi _|.inr rfl]|A c H p]
noncomputable def fi(rows:ZB)(i:Nat):List ZB:=(List.range i).flatMap λj=>nN (rows.getD j ⟨([].toArray)⟩) (rows.getD (j+1) ⟨([].toArray)⟩)
theorem rY(rows:ZB)(i:Nat):fi rows (i+1)=fi rows i++nN (rows.getD i ⟨([].toArray)⟩) (rows.getD (i+1) ⟨([].toArray)⟩):=by
 unfold fi;rw[Xb,flatMap_append];simp
theorem v7(u r:Str):(nN u r).length<=u.length:=by
 refine Yi (List.length_filterMap_le _ _) ?_;rw[length_zip];have:u.cps.toList.length=u.length:=by simp[Str.length]
 lia
theorem yO(h:k∈fi rows (rows.length-1)):∃a b,k=[sgn a,sgn b]/\yE rows a b:=by
 have%[j,d|g]:=mem_flatMap.mp h;have f:∀j h,rows.getD j ⟨([].toArray)⟩=rows[j]:=λj h=>by simp[h]
 have d:=mem_range.mp d;have%[%[a|b],i|e]:=mem_filterMap.mp g;unfold qg at e
 split at e
 .rename_i h
  have%[q|c]:=Xh i;rw[List.getElem?_zip_eq_some,f j ⋯,f _ ⋯]at c;exact%[a,b,(Za e).symm,h.1,h.2,j,q,rows[j],rows[j+1],Z4 _,Z4 _,by simpa using c.1|by simpa using c.2]
 .lia
theorem yP(g:cg rows)(h:yE rows a b):Let rows a/\Let rows b:=by
 have%[n1,l,i,j,r,c,d,f,g1|g2]:=h;refine%[%[n1,r,Z8 d|Z8 (by simpa using g1)],λe=>n1 (g.fall i r c d f j a b g1 g2 e),c,Z8 f|Z8 (by simpa using g2)]
theorem yQ(rows:ZB)(h:rows≠[]):ou (rows.map V.str) (some 1) none=(rows.drop 1).map V.str:=by
 unfold ou;rw[HT.sIx_none,show(some (1))=some ((1:Nat):Int)from rfl,HT.sIx_nat,Z6,X1 (length_pos_iff.mpr h),<-List.map_drop,<-map_take];rw[Zn (Yj▸Zi _)]
inductive w6 (vs:ZM) (H:Hp) (Q:VK) (E0:XK):Prop
 | mk (rows:ZB) (z0:vs=[.str (Str.join nl rows)]) (z1:cg rows) (z2:yF rows) (z3:∀l H' ss,aj H H'->H l=none->H' l=some (.lst (ss.map λp=>V.ref p.1))->aE H' ss->ss.length<=26->(∀t∈ss,∃a b,t.2=[sgn a,sgn b]/\Let rows a/\Let rows b)->(∀k,k∈ss.map (·.2)↔k∈fi rows (rows.length-1))->Q (.ref l) H'):w6 vs H Q E0
theorem v8(T:Txt K mg):↥3 "meetings" ["text"] w6:=by
 refine T.aY.cal dE (λH vs Q E h=>?_)
 .have%[rows,rfl,c,%[mm,ml|a4]|kk]:=h;refine%[rfl|λf b0 A outer s hr=>?_];have%[wd,w1,w2|Y]:=c.wide;have hp:1<=rows.length:=c.pos;have bl:=c.high;have a5:rows≠[]:=length_pos_iff.mp hp;refine%[_,%["JDI1G~vA0BDI2VBDS]AA1A[1'C~DBcML3ML4dEY~w~x2AG]BA3A4BBEH/~yA~B~zA2BB",dE.nd|hr]|?_]
  show bo _ _ _ [some (.str (Str.join nl rows)),none,none,none,none] H;refine ap λD1 k1 r1=>?_
  lk;refine%[rows,rfl,c|λR H1 s1 f1 hR=>k1 _ _ (ap λD2 k2 r2=>?_)];lk;refine%[Xg _|λL hL=>k2 _ _ (ap λD3 k3 r3=>aA λbm hK=>?_)];have s2:=aj.upd (o:= .lst []) hL;have C:=s2 _ _ hR;have G:upd H1 L (.lst []) L=some (.lst []):=ae;have fL:H L=none:=s1.free hL;have aa:=s1.trans s2
  generalize upd H1 L (.lst [])=H2 at s2 C G aa
  lk;refine .inl %[_,SqL.of C|λp hp=>?_];rw[yQ rows a5];have s3:=aj.upd (o:= .lst ((rows.drop 1).map V.str)) hp;have I:=s3 _ _ C;have ab:=s3 _ _ G;have J:upd H2 p (.lst ((rows.drop 1).map V.str)) p=some (.lst ((rows.drop 1).map V.str)):=ae;have ac:=aa.trans s3;have a6:L≠R:=λe=>by rw[e,hR]at hL;cases hL
  have a7:p≠L:=λe=>by rw[e,G]at hp;cases hp
  generalize upd H2 p (.lst ((rows.drop 1).map V.str))=H3 at s3 I ab J ac
  refine%[%[_|SqL.of I],%[_|SqL.of J]|hK _ _ (Br (xs:=rows.map V.str) (ys:=(rows.drop 1).map V.str) (λi σ l=>(∃o3 o4,σ=[some (.str (Str.join nl rows)),!R,!L,o3,o4])/\aj H l/\l R=some (.lst (rows.map V.str))/\l p=some (.lst ((rows.drop 1).map V.str))/\
   ∃ps:ZG,l L=some (.lst (ps.map λq=>V.ref q.1))/\aE l ps/\ps.map (·.2)=fi rows i/\ps.length<=40*i) %[%[none,none|rfl],ac,I,J,[],ab,iC _,rfl|Xg _] (by rw[Z6,Z6,Yj];lia) (λi σ l _ q=>%[SqL.of q.2.2.1|SqL.of q.2.2.2.1]) ?_ ?_)]
  .intro i x y TT σ l hx hy %[%[o3,o4|rfl],sm,ag,ah,ps,M,g,n|ai] hT;rw[Zl]at hx hy;have%[u,hu|rfl]:=map_eq_some_iff.mp hx;have%[r,v|rfl]:=map_eq_some_iff.mp hy;rw[Yb,Nat.add_comm]at v;have b1:i+1<rows.length:=(Xn v).1;have ul:u.length=wd:=Y u (Z8 hu);have rl:r.length=wd:=Y r (Z8 v);have j:=aj.upd (o:= .tup [V.str u,V.str r]) hT;have al:upd l TT (.tup [V.str u,V.str r]) TT=some (.tup [V.str u,V.str r]):=ae;have an:=j _ _ ag;have as:=j _ _ ah;have t:=j _ _ M;have B:aE (upd l TT (.tup [V.str u,V.str r])) ps:=aU g λb z e=>j _ _ e
   have a0:=sm.trans j
   generalize upd l TT (.tup [V.str u,V.str r])=HT at j al an as t B a0
   refine%[_,SqT.of al,rfl,_,_,rfl,_,_,rfl,rfl|?_];refine aF λD4 k4 r4=>?_
   lk;refine%[.inl %[_|SqL.of t],u,r,rfl,⋯,⋯|λl4 H4 ps4 U f4 h4 a1 e4=>?_];have b2:l4≠L:=λe=>by rw[e,t]at f4;cases f4
   have bt:ps4.length<=40:=by
    have:(ps4.map (·.2)).length=(nN u r).length:=by rw[e4]
    rw[Z6]at this;have:=v7 u r
    lia
   refine%[_,rfl,_,U _ _ t,_,h4,by rw[Z6,Z6];exact bM ⋯|k4 _ _ ?_];have N:∀b z,H4 b=some (.tup z)->upd H4 L (.lst ((ps.map λq=>V.ref q.1) ++ps4.map λq=>V.ref q.1)) b=some (.tup z):=λb z e=>by
    have:b≠L:=λe2=>by rw[e2,U _ _ t]at e;cases e
    rw[ao this];exact e
   have bb:R≠L:=Ne.symm a6;refine%[%[_,_|rfl],λb u' e=>?_,(ao bb)▸U _ _ an,(ao a7)▸U _ _ as,ps++ps4,by rw[ae,Zd],aU (uu (aU B λb z e=>U _ _ e) a1) N,?_|by rw[Z9];lia]
   .rw[ao (aw e fL)];exact U _ _ (a0 _ _ e)
   .rw[Zd,n,e4,rY];have g1:rows.getD i ⟨([].toArray)⟩=u:=by rw[Zc,hu];rfl
    have g2:rows.getD (i+1) ⟨([].toArray)⟩=r:=by rw[Zc,v];rfl
    rw[g1,g2]
  .intro σ l %[%[o3,o4|rfl],sm,ag,ah,ps,M,g,n|ai];rw[Z6,Yj]at n;refine k3 _ _ ?_;lk;have O:∀q∈ps,∃a b,q.2=[sgn a,sgn b]/\yE rows a b:=λq d=>yO (n▸Xr %[q,d|rfl])
   have a2:∀q∈ps,q.2∈mm:=λq d=>by
    have%[a,b,e|h]:=O q d;rw[e];exact a4 a b h
   refine%[ps,SqL.of M,g,%[mm,⋯|a2]|λl5 bc=>?_];have s5:=aj.upd (o:=m9 P w l5 (ba ps)) bc;have bf:(ba ps).length<=26:=by
    have:=STab.nodup_sub (dw ps) (m:=mm) λk hk=>by
     have%[q,d|rfl]:=Xq hk;exact a2 q (bj ps q d)
    rw[Z6]at this
    lia
   refine%[ba ps,ae,λq d=>%[(g q (bj ps q d)).1|s5 _ _ (g q (bj ps q d)).2],2,λq d=>?_,by decide,⋯|λl6 ss a3 pm so=>?_]
   .have%[a,b,e|_]:=O q (bj ps q d);rw[e];rfl
   have s6:=aj.upd (o:= .lst (ss.map λq=>V.ref q.1)) a3;refine kk l6 _ ss ((sm.trans s5).trans s6) ((sm.trans s5).free a3) ae (λq d=>?_) (pm.length_eq▸bf) (λq d=>?_) λk=>?_
   .have:=g q (bj ps q (pm.mem_iff.mp d));exact%[this.1|s6 _ _ (s5 _ _ this.2)]
   .have%[a,b,e|h]:=O q (bj ps q (pm.mem_iff.mp d));exact%[a,b,e|yP c h]
   .rw[(pm.map _).mem_iff,gA,n]
noncomputable def dO(z:Str):Bool:=(decide (1<=(z.length:Int))&&decide ((z.length:Int)<=8))&&z.cps.toList.all gU
inductive nO (vs:ZM) (H:Hp) (Q:VK) (E0:XK):Prop
 | mk (z:Str) (z0:vs=[.str z]) (z1:dO z=true) (z2:∀H',aj H H'->Q (.bl true) H'):nO vs H Q E0
inductive uw (K:ZA) (vs:ZM) (H:Hp) (Q:VK) (E0:XK):Prop
 | mk (z:Str) (p:Addr) (ts:ZB) (z0:vs=[.str z,.ref p]) (z1:(SqL K H p (ts.map V.str)\/SqT K H p (ts.map V.str))) (z2:Q (.bl (decide (z∈ts))) H):uw K vs H Q E0
inductive nP (vs:ZM) (H:Hp) (Q:VK) (E0:XK):Prop
 | mk (i:Int) (z0:vs=[.int i]) (z1: -9999<=i) (z2:i<=9999) (z3:Q (.bl true) H):nP vs H Q E0
def nQ(c:ZB)(vs:ZM):Prop:=
 (∃w a b:Str,vs=[.str w,.str a,.str b]/\(w="later"\/w="same")/\a∈c/\b∈c/\a≠b)\/
 ∃w a y,vs=[.str w,.str a,.int y]/\(w="since"\/w="by")/\a∈c/\ -9999<=y/\y<=9999
inductive j7 (K:ZA) (vs:ZM) (H:Hp) (Q:VK) (E0:XK):Prop
 | mk (t) (p) (xs) (ls) (z0:vs=[.ref t,.ref p]) (z1:H t=some (.tup xs)) (z2:SqL K H p (ls.map V.str)) (z3:nQ ls xs) (z4:Q (.bl true) H):j7 K vs H Q E0
noncomputable def lnS(n z:Str):Str:=Str.empty++n++Str.ofString "."++z
inductive i5 (vs:ZM) (H:Hp) (Q:VK) (E0:XK):Prop
 | mk (n z:Str) (z0:vs=[.str n,.str z]) (z1:n.length<=100) (z2:z.length<=100) (z3:Q (.str (lnS n z)) H):i5 vs H Q E0
theorem rZ(z:Str)(ts:ZB):inV (V.str z) (ts.map V.str)=decide (z∈ts):=by
 unfold inV
 induction ts with
 | nil=>rfl
 | cons c r a=>
   show((c==z)||_)=_
   grind
theorem kL(ts:ZB):(ts.map V.str).all gQ=true:=by simp[gQ]
theorem yR(T:Txt K mg):↥1 "is_name" ["thing"] nO:=by
 refine T.aS.cal v4 (λH vs Q E h=>?_)
 .have%[z,rfl,y|k]:=h;refine%[rfl|λf u A outer s M=>?_];refine%[_,%["JDNyj()A0A?1BEHlOEHx~Y__CefA0B]C%~P~QAog?2T0W0?3up~O0~sB",0,(blE (v:= .ty "str") rfl T.ab boot_str rfl rfl rfl),(show bV (ak kH) ["thing"] _ ["sign"] []=true from by decide +kernel)|(show(["sign"]:ZB).Nodup from by decide +kernel)]|?_]
  show bo _ _ _ [-z] H;have a:=y;unfold dO at a;rw[Zx,Zx]at a;have%[%[B|q]|b]:=a;have N:z.length<=8:=by have:=Zo q;lia
  lk;refine%[.type "str",.str z,true,by rfl|?_];lk;refine%[bM ⋯|?_];rw[if_pos B,if_pos q];refine aL λr C=>?_
  lk;refine C _ _ λD t=>?_
  refine bC (J:=Its z) (n:=z.cps.size) (D:=D) (λi ys l d=>(∃o,l=[o])/\aj H d/\d D=some (.lst ys)/\ys=(z.cps.toList.take i).map (λc=>V.bl (gU c))) %[%[none|rfl],aj.upd t,ae|rfl]
   (λi _ _ _ hi _=>hi) (λ_ _ _ _=>Zi _) ?_ ?_
  .intro i ys l d hi %[%[o|rfl],m,p|g] x O %[G,c,I|rfl];subst G;lk;have j:ys.length=i:=by
    rw[g,Z6,Yn];have:z.cps.toList.length=z.cps.size:=by simp
    lia
   have L:i<1000:=by
    have:z.length=z.cps.size:=rfl
    lia
   refine CK.mk hi p (j▸aJ ⋯) %[%[_|rfl],aj.set m t,ae|?_];rw[zY,g,<-iK z i c I,Zd]
   all_goals rfl
  .intro ys l d %[_,m,p|g];refine%[D,rfl,(z.cps.toList.map gU),?_|?_]
   .have e:z.cps.toList.take z.cps.size=z.cps.toList:=by
     apply Zn;simp
    rw[e]at g;have:(z.cps.toList.map gU).map V.bl=ys:=by rw[g,Yt];rfl
    rw[this];exact SqL.of p
   .have e:(z.cps.toList.map gU).all id=true:=by
     rw[all_map];exact b
    rw[e];exact k d m
theorem cn(T:Txt K mg):↥1 "is_text_among" ["thing","texts"] (uw K):=by
 refine T.b5.cal kI (λH vs Q E h=>?_)
 .have%[z,p,ts,rfl,b|k]:=h;refine%[rfl|λf a A outer s c=>?_];refine%[_,%["JEHx()A0A?1B%p~O01",0|(blE (v:= .ty "str") rfl T.ab boot_str rfl rfl rfl)]|?_];show jw _ _ [some _,some _] H;lk;refine%[.type _,.str z,true,by rfl|?_];rw[<-rZ]at k;exact%[_,b,rfl,kL ts|k]
theorem yS(T:Txt K mg):↥1 "is_year" ["thing"] nP:=by
 refine T.b6.cal v6 (λH vs Q E h=>?_)
 .have%[i,rfl,b,c|k]:=h;refine%[rfl|λf a A outer s d=>?_];refine%[_,%["JDNasyj()A0A?1Bzj()A0A?2BEHlOEH~Y__]D0]E",0,(blE (v:= .ty "int") rfl T.ah boot_int rfl rfl rfl)|(blE (v:= .ty "bool") rfl T.ai PyProof.Rows.boot_bool rfl rfl rfl)]|?_]
  show bo _ _ _ [some (.int i)] H;lk;refine%[.type _,.int i,true,by rfl,.type _,.int i,false,by rfl|?_];rw[if_pos (Zf b),Zf c];exact k
theorem gJ(T:Txt K mg):↥1 "layer_name" ["name","letter"] i5:=by
 refine T.b7.cal oP (λH vs Q E h=>?_)
 .have%[n,z,rfl,j,l|k]:=h;refine%[rfl|λf c A outer s i=>?_];refine%[_,%["JEH~!~E~a0~Eb~E~a1~$"|0]|?_];show jw _ _ [-n,some _] H;lk;have e:∀a b:Str,(a++b).length=a.length+b.length:=λa b=>size_append
  have d:Str.empty.length=0:=rfl;have g:(Str.ofString ".").length=1:=rfl;have le:∀k,k<=1000->k<=sizeLine:=λk m=>bM ⋯
  refine%[le _ ⋯,le _ ?_,le _ ?_,le _ ⋯,le _ ?_,le _ ?_|k]<;> simp only[e,d,g]<;> lia
theorem ux(T:Txt K mg):↥2 "is_saying" ["thing","layers"] (j7 K):=by
 refine T.b4.cal rT (λH vs Q E h=>?_)
 .have%[t,p,xs,e,rfl,m,g,ok|k]:=h;refine%[rfl|λf n A outer s c=>?_];refine%[_,%["JDNasyj()A0A?1BzKqefA0BCEHlODNjG~FAU0CA]FBEHxG~FAU0CA1BxG~FAU0CA1B%pqU0CU0CODNjG~FAU0CA]GBEHxG~FAU0CA1B%G]HAU0CBOEHl",0,(blE (v:= .ty "tuple") rfl T.ag boot_tuple rfl rfl rfl)|c]|?_]
  show bo _ _ _ [!t,!p] H;lk;refine%[.type "tuple",.tup m,true,by rfl|?_];have st:=SqT.of (K:=K) m;rcases ok with⟨wd,a,b,rfl,hw,i,o,j⟩|⟨wd,a,y,rfl,hw,i,r,u⟩
  .have l:decide (wd∈([Str.ofString "later",Str.ofString "same"]:ZB))=true:=by rcases hw with rfl|rfl<;> decide
   lk;refine%[3,.inr %[_,st|rfl]|?_];rw[if_neg (by decide)];refine%[_,st,_,rfl|λq d=>%[wd,q,[Str.ofString "later",Str.ofString "same"],rfl,.inr (d H),_,rfl|?_]];rw[l];lk;refine%[_,st,_,rfl,a,p,e,rfl,.inl g,_,rfl|?_];rw[Zf i];lk;refine%[_,st,_,rfl,b,p,e,rfl,.inl g,_,rfl|?_];rw[Zf o];lk;refine%[_,st,_,rfl,_,st,_,rfl,rfl|?_];rw[show(!decide (V.str a=V.str b))=true from by simp[j]];exact k
  .have l:decide (wd∈([Str.ofString "later",Str.ofString "same"]:ZB))=false:=by rcases hw with rfl|rfl<;> decide
   have z:decide (wd∈([Str.ofString "since",Str.ofString "by"]:ZB))=true:=by rcases hw with rfl|rfl<;> decide
   lk;refine%[3,.inr %[_,st|rfl]|?_];rw[if_neg (by decide)];refine%[_,st,_,rfl|λq d=>%[wd,q,[Str.ofString "later",Str.ofString "same"],rfl,.inr (d H),_,rfl|?_]];rw[l];lk;refine%[_,st,_,rfl|λq d=>%[wd,q,[Str.ofString "since",Str.ofString "by"],rfl,.inr (d H),_,rfl|?_]];rw[z];lk;refine%[_,st,_,rfl,a,p,e,rfl,.inl g,_,rfl|?_];rw[Zf i];lk;exact%[_,st,_,rfl,y,rfl,r,u|k]
noncomputable def nmC(b a k j:Nat):Nat:=97+(b+5*j*j+k*(if j=a then 1 else 0))%26
noncomputable def nmS(b a k s:Nat):Str:=⟨((List.range s).map (nmC b a k)).toArray⟩
theorem r0(b a k s:Nat):(nmS b a k s).length=s:=by
 show((List.range s).map _).toArray.size=s;simp
theorem Bs{b a k s:Nat}(e:1<=s)(f:s<=8):dO (nmS b a k s)=true:=by
 have all:∀i:Fin 26,gU (97+i.1)=true:=by decide +kernel
 unfold dO;rw[r0];simp only[Zx,decide_eq_true_eq,all_eq_true];refine%[%[⋯|⋯]|λc d=>?_];have%[j,_|rfl]:=Xq (d);exact all %[_|mod_lt _ (by decide)]
theorem FF{b a k c s s':Nat}(h:a<s)(h':a<s')(f:k<4)(d:c<4)(e:nmS b a k s=nmS b a c s'):k=c:=by
 have e:(List.range s).map _=(List.range s').map _:=congrArg (λz=>z.cps.toList) e;have e:=congrArg (·[a]?) e;simp only[Zl,getElem?_range h,getElem?_range h',map_some,Option.some.injEq,nmC,if_true]at e
 generalize b+5*a*a=m at e
 lia
theorem w8(b a k s:Nat)(h:a<s):Txt.slice (nmS b a k s) none (some (a+1))=nmS b a k (a+1):=by
 rw[beq_iff_eq.mp (PyProof.Rows.slice_closes_toL ⋯ (by rw[r0];lia))];refine eY ?_;show((((List.range s).map _).drop 0).take _)=(List.range _).map _;rw[drop_zero,<-map_take,List.take_range,show min _ s=a+1 by lia]
def Nm4(a:ZB):Prop:=a.length=4/\a.Nodup/\∀z∈a,dO z=true
theorem Bt{b a:Nat}{s:Nat->Nat}(h:∀k<4,a<s k/\s k<=8):Nm4 ((List.range 4).map λk=>nmS b a k (s k)):=by
 refine%[by simp,?_|λz f=>?_]
 .rw[X4,Xa];refine Xi (λ{x y} c d e g=>e ?_) (nodup_iff_pairwise_ne.mp (nodup_range));rw[mem_range]at c d;exact FF (h x c).1 (h y d).1 c d g
 .have%[k,i|rfl]:=Xq f;have:=h k (mem_range.mp i);exact Bs ⋯ this.2
inductive Bu (vs:ZM) (H:Hp) (Q:VK) (E0:XK):Prop
 | mk (n:Int) (z0:vs=[.int n]) (z1:0<=n) (z2:n<9973) (z3:∀l H' (ms:ZB),aj H H'->H l=none->H' l=some (.lst (ms.map V.str))->Nm4 ms->Q (.ref l) H'):Bu vs H Q E0
theorem uy(T:Txt K mg):↥1 "_law_names" ["_law_number"] Bu:=by
 refine T.bg.cal bF (λH vs Q E h=>?_)
 .have%[n,rfl,n0,n1|N]:=h;refine%[rfl|λf aa A outer s hr=>?_];have%[n|rfl]:=Xj n0;refine%[_,%["JDI1FZCFR0CDI2FRFh0C1DI3VBDS$ACBL4DI5VBDS$A1BL6DI7FZFZFh0CFtFtC66F~K4~n~oApX62BEYki5A~mbFR7CBEYki3A~L~MbA5BBDNKXFRFh0CCCEI3VAP3CA~%P3C~D'FZ2CAP3CA~%P3C~D'FZ2CBOEH3"|bF.nd]|?_]
  show bo _ _ _ [some (.int n),none,none,none,none,none,none,none] H;refine ap λD1 k1 _=>?_
  lk;refine%[by decide|k1 _ _ (ap λD2 k2 _=>?_)];obtain⟨sz,es,s1,s8⟩:∃sz:Nat,1+(n:Int)%8=sz/\1<=sz/\sz<=8:=%[1+n%8,⋯,⋯|⋯]
  rw[es];lk;refine%[%[by decide|by decide],⋯|k2 _ _ (ap λD3 k3 _=>?_)];obtain⟨a,ea,B⟩:∃a:Nat,(n:Int)/8%sz=a/\a<sz:=%[n/8%sz,by simp|mod_lt _ ⋯]
  rw[ea];lk;refine%[Xg _|λL C=>k3 _ _ (ap λD4 k4 _=>aA λq G=>?_)];lk;refine%[by decide,by decide|G _ _ (cP (λi o r=>∃I u m d,o=[some (.int n),some (.int sz),some (.int a),!L,I,u,m,d]/\aj H r/\r L=some (.lst (((List.range i).map λk=>nmS (n/64) a k sz).map V.str)))
   %[_,_,_,_,rfl,aj.upd C|ae] ?_ ?_)]
  .intro i o v hi %[I,u,m,d,rfl,c|b];show bo _ _ _ [some (.int n),some (.int sz),some (.int a),!L,some (.int (0+i)),u,m,d] v;rw[Int.zero_add];refine ap λD5 y _=>?_
   lk;refine%[Xg _|λM O=>y _ _ (ap λD6 k6 _=>aA λq G=>?_)];lk;refine%[⋯,⋯|G _ _ (cP (λj o r=>∃m d,o=[some (.int n),some (.int sz),some (.int a),!L,some (.int i),!M,m,d]/\aj v r/\r M=some (.lst (((List.range j).map λj=>sgn (nmC (n/64) a i j)).map V.str)))
    %[_,_,rfl,aj.upd O|ae] ?_ ?_)]
   .intro j o U hj %[m,d,rfl,g|l];show bo _ _ _ [some (.int n),some (.int sz),some (.int a),!L,some (.int i),!M,some (.int (0+j)),d] U;rw[Int.zero_add];refine ap λD7 J _=>?_
    lk;refine%[%[by decide|by decide],.inl %[by decide|by decide],.inr %[⋯|⋯],.inr %[by split<;> decide|by split<;> decide]|J _ _ (aF λD8 k8 _=>?_)];have e:(n:Int)/64+5*j*j+i*(if decide ((j:Int)=a)=true then 1 else 0)=((n/64+5*j*j+i*(if j=a then 1 else 0):Nat):Int):=by
     by_cases h:j=a
     .simp[h]
     .simp[h,show ¬ (j:Int)=a by lia]
    rw[e]
    generalize z:n/64+5*j*j+i*(if j=a then 1 else 0)=p
    lk;refine%[.inl %[_|SqL.of l],by decide,#[26],_,Bo ⋯ ⋯,_,l,by rw[Z6,Z6,Yl];exact aJ ⋯|k8 _ _ %[_,_,rfl,aj.set g O|?_]];rw[ae,Xb,Zd,Zd];have:97+((p:Int)%26).toNat=nmC (n/64) a i j:=by
     unfold nmC;rw[z]
     lia
    rw[this];rfl
   .intro o U %[m,d,rfl,g|l];refine k6 _ _ (aF λD7 J _=>?_);lk;have t:=g _ _ b;have e:(List.range (Int.toNat sz)).map (λj=>sgn (nmC (n/64) a i j))=((List.range sz).map (nmC (n/64) a i)).map sgn:=by rw[Yt];rfl
    refine%[.inl %[_|SqL.of t],((List.range sz).map (nmC (n/64) a i)).map sgn,SqL.of (by rw[<-e];simpa using l),?_,_,t,by rw[Z6,Z6,Yl];exact aJ ⋯|J _ _ %[_,_,_,_,rfl,aj.set (c.trans g) C|?_]]
    .rw[qZ,Z6,Z6,Yl,show(Str.ofString "").length=0 from rfl]
     lia
    .rw[ae,Xb,Zd,Zd,show Txt.join (Str.ofString "") (((List.range sz).map (nmC (n/64) a i)).map sgn)=Str.join (Str.ofString "") (((List.range sz).map (nmC (n/64) a i)).map sgn)from StrLaws.glued_eq_join _ _,mL];rfl
  .intro o v %[I,u,m,d,rfl,c|b];refine k4 _ _ (ap λD5 y _=>?_);lk;have Y:∀k,(nmS (n/64) a k sz).length<=sizeLine:=λk=>by rw[r0];exact bM ⋯
   refine%[%[by decide|by decide],by decide|bJ (λ_=>?_) λ_=>?_]
   .refine%[_,SqL.of b,_,rfl,_,SqL.of b,_,rfl,_,rfl,Y 1,_,SqL.of b,_,rfl,_,SqL.of b,_,rfl,_,rfl,Y 3,#[4]|λp z=>y _ _ ?_];rw[w8 _ _ _ _ B,w8 _ _ _ _ B];lk;exact N p _ ((List.range 4).map λk=>nmS (n/64) a k (if k%2=1 then a+1 else sz)) (c.trans (aj.upd z)) (c.free z) ae (Bt (s:=λk=>if k%2=1 then a+1 else sz) λk hk=>by split<;> exact%[⋯|⋯])
   .refine y _ _ ?_;lk;exact N L v ((List.range 4).map λk=>nmS (n/64) a k sz) c C b (Bt (s:=λ_=>sz) λk hk=>%[B|s8])
def ce(H:Hp)(a:ZH):Prop:=∀p∈a,H p.1=some (.tup [.str p.2.1,.str (Str.join nl p.2.2)])/\dO p.2.1=true/\cg p.2.2
theorem ce.up(h:ce H b)(s:aj H c):ce c b:=λp a=>%[s _ _ (h p a).1|(h p a).2]
inductive qh (vs:ZM) (H:Hp) (Q:VK) (E0:XK):Prop
 | mk (rows:ZB) (z0:vs=[.str (Str.join nl rows)]) (z1:cg rows) (z2:∀H',aj H H'->Q (.bl true) H'):qh vs H Q E0
inductive uz (vs:ZM) (H:Hp) (Q:VK) (E0:XK):Prop
 | mk (p:Addr×Str×ZB) (z0:vs=[.ref p.1]) (z1:ce H [p]) (z2:∀H',aj H H'->Q (.bl true) H'):uz vs H Q E0
noncomputable def cF(a:ZH):ZM:=a.map λp=>V.ref p.1
inductive i7 (vs:ZM) (H:Hp) (Q:VK) (E0:XK):Prop
 | mk (l) (cs) (z0:vs=[.ref l]) (z1:H l=some (.lst (cF cs))) (z2:ce H cs) (z3:(cs.map λp=>p.2.1).Nodup) (z4:1<=cs.length) (z5:cs.length<=8) (z6:∀H',aj H H'->Q .non H'):i7 vs H Q E0
def cO(H:Hp)(a:ZB)(qs:ZN):Prop:=∀q∈qs,H q.1=some (.tup q.2)/\nQ a q.2
theorem cO.up(h:cO H b qs)(s:aj H c):cO c b qs:=λp a=>%[s _ _ (h p a).1|(h p a).2]
inductive fV (K:ZA) (vs:ZM) (H:Hp) (Q:VK) (E0:XK):Prop
 | mk (l) (r) (ls) (qs) (z0:vs=[.ref l,.ref r]) (z1:H l=some (.lst (qs.map λq=>V.ref q.1))) (z2:H r=some (.lst (ls.map V.str))) (z3:cO H ls qs) (z4:qs.length<=60) (z5:∀H',aj H H'->Q .non H'):fV K vs H Q E0
theorem Bv(T:Txt K mg):↥3 "is_cut" ["thing"] qh:=by
 refine T.b2.cal yI (λH vs Q E h=>?_)
 .have%[rows,rfl,a|k]:=h;refine%[rfl|λf b A outer s c=>?_];refine%[_,(QSs.h (am (tryN (λ_ _ h=>h) (au (cf rfl (aI (kK T) c rfl #[↑0]))))
   (au (aM eBl))))|?_]
  show bo _ _ _ [some (.str (Str.join nl rows))] H;lk;exact%[rows,rfl,a|λl d e g i=>k d e]
theorem nR(T:Txt K mg):↥4 "is_named_cut" ["thing"] uz:=by
 refine T.b1.cal lN (λH vs Q E h=>?_)
 .have%[p,rfl,g|k]:=h;refine%[rfl|λf e A outer s c=>?_];have%[b,i|a]:=g p (mem_singleton.mpr rfl);refine%[_,%["JEHx()A0A?1BxpXefA0BCxG]IAU0CB%G]JAU0CB",0,(blE (v:= .ty "tuple") rfl T.ag boot_tuple rfl rfl rfl)|c]|?_];show jw _ _ [some _] H;lk;refine%[.type _,.tup b,true,by rfl|?_];have st:=SqT.of (K:=K) b;refine%[2,.inr %[_,st|rfl],_,st,_,rfl,p.2.1,rfl,i|λm d=>?_];lk;exact%[_,SqT.of (d _ _ b),_,rfl,p.2.2,rfl,a|λj l=>k j (d.trans l)]
theorem sd(T:Txt K mg):↥5 "check_cuts" ["cuts"] i7:=by
 refine T.b0.cal dz (λH vs Q E h=>?_)
 .have%[l,c,rfl,C,L,M,h1,h8|k]:=h;refine%[rfl|λf ah A outer s J=>?_];have u:(cF c).length=c.length:=Z6 _;refine%[_,%["JDNasyj()A0A?1BzKXefA0BCE*ODI1:ES~CA0BcML2ML3dDNasKX2]KsyjG]LA3Bz]MU3C1E*OE,l1U3C",dz.nd,(blE (v:= .ty "list") rfl T.a5 boot_list rfl rfl rfl)|J]|?_]
  show bo _ _ _ [!l,none,none,none] H;refine ap λD1 k1 _=>?_
  lk;refine%[.type "list",.lst C,true,by rfl|?_];lk;refine%[c.length,.inl %[_,SqL.of C|u.symm]|?_];rw[if_neg (by simp only[decide_eq_true_eq];lia)];refine k1 _ _ (ap λD2 k2 _=>?_);lk;refine λd N=>k2 _ _ (aF λD3 k3 _=>aA λag hK=>?_)
  lk;refine%[_,SqL.of (aj.upd N _ _ C)|hK _ _ (im (λi G g=>∃O U a,G=[!l,!d,O,U]/\aj H g/\g d=some (.dK a)/\a.map (·.1)=(c.take i).map λp=>Sum.inr p.2.1) %[none,none,[],rfl,aj.upd N,ae|rfl] (λi G g _ ⟨_,_,_,_,q,_⟩=>SqL.of (q _ _ C)) ?_ ?_)]
  .intro i x TT G g I %[O,U,a,rfl,Y,y|m] hT;have hi:i<c.length:=u▸(Xn I).1;obtain⟨q,hq,rfl⟩:∃q,c[i]? =some q/\x=V.ref q.1:=by
    unfold cF at I;rw[Zl,Z4 hi]at I;exact%[c[i],Z4 hi|(Za I).symm]
   have b:aj H (upd g TT (.tup [.int i,.ref q.1])):=Y.trans (aj.upd hT);have z:upd g TT (.tup [.int i,.ref q.1]) TT=some (.tup [.int i,.ref q.1]):=ae;have t:=aj.upd (o:= .tup [.int i,.ref q.1]) hT _ _ y
   generalize upd g TT (.tup [.int i,.ref q.1])=HT at b t z
   have n:=L q (Z8 hq);refine%[_,SqT.of z,rfl,_,_,rfl,_,_,rfl,rfl|?_];show bo _ _ _ [!l,!d,some (.int i),some (.ref q.1)] HT;refine ap λD4 k4 _=>?_
   lk;rw[if_neg (by simp only[decide_eq_true_eq];lia)];refine%[q,rfl,λp hp=>(Xp hp)▸%[b _ _ n.1|n.2]|λH2 B=>%[true,rfl|?_]];rw[if_neg ∅];have r:(Sum.inr q.2.1:Key)∉a.map (·.1):=by
    rw[m];intro hm;have%[q',aa|e]:=Xq hm;have e:q'.2.1=q.2.1:=Sum.inr.inj e;have%[j|hj]:=Xh aa;have ab:j<i:=by
     have:=(Xn hj).1;rw[Yn]at this
     lia
    rw[getElem?_take_of_lt ab]at hj;have n1:(c.map λp=>p.2.1)[j]? =some q.2.1:=by rw[Zl,hj,<-e];rfl
    have:=ei M n1 (by rw[Zl,hq];rfl)
    lia
   refine%[_,SqT.of (B _ _ (b _ _ n.1)),_,rfl,_,dR.k (k:=Sum.inr q.2.1) (B _ _ t)|?_];have hv:cw a (Sum.inr q.2.1:Key)=none:=by
    cases e:cw a (Sum.inr q.2.1:Key)with
    | none=>rfl
    | some v=>exact absurd (Ck e) r
   rw[hv,if_neg ∅];refine k4 _ _ (aF λD5 k5 _=>?_);lk;have ac:a.length=i:=by
    have:=congrArg List.length m;rw[Z6,Z6,Yn]at this
    lia
   refine%[_,SqT.of (B _ _ (b _ _ n.1)),_,rfl,_,lG.k (k:=Sum.inr q.2.1) (B _ _ t) (ac▸aJ ⋯)|k5 _ _ %[_,_,_,rfl,aj.set (b.trans B) N,ae|?_]];rw[yp,if_neg r,m,Xc,Zd,hq];rfl
  .intro G g %[O,U,a,rfl,Y,y|m];exact k3 _ _ (k g Y)
theorem lO(T:Txt K mg):↥3 "check_sayings" ["sayings","layers"] (fV K):=by
 refine T.b3.cal dq (λH vs Q E h=>?_)
 .have%[l,r,u,qs,rfl,g,j,m,C|k]:=h;refine%[rfl|λf z A outer s B=>?_];refine%[_,%["JDNyj()A0A?1BE*OES~CA0BcML2ML3dENasKX2]NzyjG]OA3A1BE*O",dq.nd,(blE (v:= .ty "list") rfl T.a5 boot_list rfl rfl rfl)|B]|?_]
  show bo _ _ _ [!l,!r,none,none] H;refine ap λN k1 _=>?_
  lk;refine%[.type "list",.lst g,true,by rfl|?_];lk;refine k1 _ _ (aF λO G _=>aA λy I=>?_);lk;refine%[_,SqL.of g|I _ _ (im (λi e b=>∃n o,e=[!l,!r,n,o]/\aj H b) %[none,none,rfl|aj.refl H] (λi e b _ ⟨_,_,_,q⟩=>SqL.of (q _ _ g)) ?_ ?_)]
  .intro i x TT e b p %[n,o,rfl|t] J;have hi:i<qs.length:=(Z6 _)▸(Xn p).1;obtain⟨q,L,rfl⟩:∃q,qs[i]? =some q/\x=V.ref q.1:=by
    rw[Zl,Z4 hi]at p;exact%[qs[i],Z4 hi|(Za p).symm]
   have a:aj H (upd b TT (.tup [.int i,.ref q.1])):=t.trans (aj.upd J);have c:upd b TT (.tup [.int i,.ref q.1]) TT=some (.tup [.int i,.ref q.1]):=ae
   generalize upd b TT (.tup [.int i,.ref q.1])=HT at a c
   have d:=m q (Z8 L);refine%[_,SqT.of c,rfl,_,_,rfl,_,_,rfl,rfl|?_];show l9 _ _ _ _ [!l,!r,some (.int i),some (.ref q.1)] HT;refine aF λU M _=>?_
   lk;rw[if_neg ⋯];refine%[q.1,r,q.2,u,rfl,a _ _ d.1,SqL.of (a _ _ j),d.2,true,rfl|?_];rw[if_neg ∅];exact M _ _ %[_,_,rfl|a]
  .intro e b %[n,o,rfl|t];exact G _ _ (k b t)
noncomputable def lyr(p:Addr×Str×ZB):ZB:=(aK ((cJ p.2.2).map sgn)).map (lnS p.2.1)
inductive j8 (vs:ZM) (H:Hp) (Q:VK) (E0:XK):Prop
 | mk (l) (cs) (z0:vs=[.ref l]) (z1:H l=some (.lst (cF cs))) (z2:ce H cs) (z3:cs.length<=4) (z4:(cs.flatMap lyr).length<=80) (z5:∀r H' (ls:ZB),aj H H'->H r=none->H' r=some (.lst (ls.map V.str))->ls.Perm (cs.flatMap lyr)->ls.Pairwise (λa b=>a8 b a=false)->Q (.ref r) H'):j8 vs H Q E0
def dP(c:ZB)(k:ZB):Prop:=∃a b z,k=[a,b,z]/\a∈c/\b∈c
def Sml(z:Str):Prop:=z.length<=30/\∀c∈z.cps.toList,c<16^8
def yT(a:ZB)(k:ZB):Prop:=dP a k/\∀z∈k,Sml z
theorem uA(h:dO z=true):Sml z:=by
 unfold dO at h;rw[Zx,Zx]at h;refine%[⋯|λc a=>?_];have:=(kx.mp (all_eq_true.mp h.2 c a)).2
 lia
theorem Sml.app{a b:Str}(f:∀c∈a.cps.toList,c<16^8)(g:∀c∈b.cps.toList,c<16^8):∀c∈(a++b).cps.toList,c<16^8:=λc d=>by
 have e:(a++b).cps.toList=a.cps.toList++b.cps.toList:=Xf;rw[e]at d;exact(Xo d).elim (f c) (g c)
theorem Db(h:c<1000):∀x∈(sgn c).cps.toList,x<16^8:=λx a=>by
 have e:=by simpa [sgn]using a
 lia
theorem kM{c:Nat}(h:dO n=true)(d:c<1000):Sml (lnS n (sgn c)):=by
 have e:∀a b:Str,(a++b).length=a.length+b.length:=λa b=>size_append
 have l:n.length<=8:=by
  unfold dO at h
  grind
 refine%[?_|Sml.app (Sml.app (Sml.app (λc d=>(nomatch d)) (uA h).2) (by decide +kernel)) (Db d)];unfold lnS;rw[e,e,e,show Str.empty.length=0 from rfl,show(Str.ofString ".").length=1 from rfl,show(sgn c).length=1 from rfl]
 lia
theorem v9(h:cg rows)(l:Let rows c):c<1000:=by
 have:=(kx.mp (kz h.sign c (fQ.mpr l))).2
 lia
theorem Dc(b:dO p.2.1=true)(d:cg p.2.2):∀z∈lyr p,Sml z:=λz e=>by
 have%[y,f|rfl]:=Xq e;have%[c,a|rfl]:=Xq (br.mp f);exact kM b (v9 d (fQ.mp a))
theorem FG(e:Sml a)(f:Sml b)(g:Sml c):∀z∈[a,b,c],Sml z:=λz d=>by
 simp only[Yx,X8,or_false]at d;rcases d with rfl|rfl|rfl
 .exact e
 .exact f
 .exact g
theorem Dd(i:Nat)(h:i<=100):Sml (Str.empty++Str.ofString "#"++Str.ofString (toString (i:Int))):=by
 have all:∀j:Fin 101,Sml (Str.empty++Str.ofString "#"++Str.ofString (toString ((j.1)))):=by
  unfold Sml;decide +kernel
 exact all %[i|⋯]
theorem dP.three(h:dP c k):k.length=3:=by
 have%[a,b,z,rfl|_]:=h;rfl
theorem dP.mono(h:dP c k)(s:∀x∈c,x∈d):dP d k:=by
 have%[a,b,z,e,f|g]:=h;exact%[a,b,z,e,s a f|s b g]
theorem xa(h:Let p.2.2 a):lnS p.2.1 (sgn a)∈lyr p:=
 Xr %[_,br.mpr (Xr %[a,fQ.mpr h|rfl])|rfl]
noncomputable def xc(n:Str)(k:ZB):ZB:=k.map (lnS n) ++[n]
noncomputable def wa(i:Nat):Str:=Str.empty++Str.ofString "#"++Str.ofString (toString (i:Int))
noncomputable def fj(a:ZH):List ZB:=a.flatMap λp=>(fi p.2.2 (p.2.2.length-1)).map (xc p.2.1)
noncomputable def jp(i:Nat):ZM->Option ZB
 |[.str w,.str a,.str b]=>if w=Str.ofString "later" then some [a,b,wa i]else none
 | _=>none
noncomputable def cv(qs:ZN)(n:Nat):List ZB:=(List.range n).filterMap λj=>qs[j]?.bind λq=>jp j q.2
theorem sf{a:List _}{i:Nat}{q:Addr×Str×ZB}(b:a[i]? =some q):fj (a.take (i+1))=fj (a.take i) ++(fi q.2.2 (q.2.2.length-1)).map (xc q.2.1):=by
 unfold fj;rw[Xc,b,flatMap_append];show _++([q].flatMap _)=_;rw[List.flatMap_singleton]
theorem cD(a:qs[i]? =some q):cv qs (i+1)=cv qs i++(jp i q.2).toList:=by
 unfold cv;rw[Xb,List.filterMap_append];refine congrArg _ ?_;rw[Y2,a];rw[bind_some];cases jp i q.2<;> rfl
inductive j9 (vs:ZM) (H:Hp) (Q:VK) (E0:XK):Prop
 | mk (l) (cs) (z0:vs=[.ref l]) (z1:H l=some (.lst (cF cs))) (z2:ce H cs) (z3:(∀p∈cs,yF p.2.2)) (z4:cs.length<=4) (z5:∀r H' ts,aj H H'->H r=none->H' r=some (.lst (ts.map λt=>V.ref t.1))->aE H' ts->(∀t∈ts,yT (cs.flatMap lyr) t.2)->ts.length<=104->(∀k,k∈ts.map (·.2)↔k∈fj cs)->Q (.ref r) H'):j9 vs H Q E0
inductive kb (vs:ZM) (H:Hp) (Q:VK) (E0:XK):Prop
 | mk (l) (ls) (qs) (z0:vs=[.ref l]) (z1:H l=some (.lst (qs.map λq=>V.ref q.1))) (z2:cO H ls qs) (z3:(∀z∈ls,Sml z)) (z4:qs.length<=80) (z5:∀r H' ts,aj H H'->H r=none->H' r=some (.lst (ts.map λt=>V.ref t.1))->aE H' ts->(∀t∈ts,yT ls t.2)->ts.length<=qs.length->ts.map (·.2)=cv qs qs.length->Q (.ref r) H'):kb vs H Q E0
theorem nS{z:Str}(h:dO z=true):z.length<=8:=by
 unfold dO at h;rw[Zx,Zx]at h;have:=Zo h.1.2
 lia
theorem gK{a:List Nat}{z:Str}(h:z∈aK (a.map sgn)):∃c∈a,z=sgn c:=by
 have:=br.mp h;have%[c,b|rfl]:=Xq this;exact%[c,b|rfl]
theorem uB(T:Txt K mg):↥4 "layers_of" ["cuts"] j8:=by
 refine T.b8.cal dZ (λH vs Q E h=>?_)
 .have%[l,e,rfl,hl,U,h8,ah|k]:=h;refine%[rfl|λf ag A outer s hr=>?_];have u:(cF e).length=e.length:=Z6 _;refine%[_,%["JDI1VBDST0cM~p2mnML3dEY~w~x1Aog?1TG]PA3BW0?2uG~bAQ1A0BBEH/~&A1B",dZ.nd,(show bV (ak iw) ["cuts","layers","name","text"] _ ["letter","name"] [(1,2)]=true from by decide +kernel),(show(["letter","name"]:ZB).Nodup from by decide +kernel)|hr]|?_]
  show bo _ _ _ [!l,none,none,none] H;refine ap λD1 k1 _=>?_
  lk;refine%[Xg _|λL Y=>k1 _ _ (ap λD2 k2 _=>aA λv hK=>?_)];lk;refine .inl %[%[_|SqL.of (aj.upd Y _ _ hl)]|hK _ _ (bL (λi d a=>∃o2 o3,d=[!l,!L,o2,o3]/\aj H a/\∃g:ZB,a L=some (.lst (g.map V.str))/\g.Perm ((e.take i).flatMap lyr)/\g.length<=26*i)
   %[none,none,rfl,aj.upd Y,[],ae,List.Perm.refl _|Xg _] (λi d a _ ⟨_,_,_,q,_⟩=>SqL.of (q _ _ hl)) ?_ ?_)]
  .intro i x d a p %[o2,o3,rfl,y,g,N,B|aa];have hi:i<e.length:=u▸(Xn p).1;obtain⟨q,hq,rfl⟩:∃q,e[i]? =some q/\x=V.ref q.1:=by
    unfold cF at p;rw[Zl,Z4 hi]at p;exact%[e[i],Z4 hi|(Za p).symm]
   have b:=U q (Z8 hq);refine%[_,SqT.of (y _ _ b.1),rfl,_,_,rfl,_,_,rfl,rfl|aF λD3 k3 _=>?_];show jv _ _ [!l,!L,some (.str q.2.1),some (.str (Str.join nl q.2.2))] a;lk;refine%[.inl %[_|SqL.of N]|aL λv hK=>?_];lk;refine%[q.2.2,rfl,b.2.2|λl2 H2 ss s2 f2 O p2 q2=>?_];lk;refine .inl %[%[_|SqL.of O]|hK _ _ λF hF=>?_];have ai:ss.length<=26:=p2.length_eq▸mK λc hc=>kz b.2.2.sign c hc
   have one:∀z∈ss,z.length=1:=λz hz=>by
    have%[c,_|rfl]:=gK (p2.mem_iff.mp hz);rfl
   refine bC (J:=Itl K l2) (n:=ss.length) (D:=F) (λj ts d a=>(∃o,d=[o,some (.str q.2.1)])/\aj H2 a/\a F=some (.lst ts)/\ts=((ss.take j).map (lnS q.2.1)).map V.str)
    %[%[none|rfl],aj.upd hF,ae|rfl]
    (λj _ _ a C m=>%[_,V.str ss[j],SqL.of (m.2.1 _ _ O)|by simp]) (λ_ _ a m=>%[_,SqL.of (m.2.1 _ _ O)|by simp]) ?_ ?_
   .intro j ts d H3 C %[%[o|rfl],G,ab|t] x H4 %[e2|p];subst e2;have I:=p _ (SqL.of (G _ _ O));rw[Zl,Z4 C]at I;obtain rfl:x=V.str ss[j]:=(Za I).symm;lk;refine%[_,_,rfl,by have:=nS b.2.1;lia,by rw[one _ (Yd C)];decide|CK.mk C ab (by rw[t,Z6,Z6,Yn];exact aJ ⋯) %[%[_|rfl],aj.set G hF,ae|?_]];rw[t,Xc,Zd,Zd,Z4 C];rfl
   intro ts d H3 %[_,G,ac|t];rw[Zn (Zi _)]at t;lk;refine%[_,G _ _ (s2 _ _ N),_,ac,(by rw[t,Z6,Z6,Z6];exact bM ⋯)|k3 _ _ %[_,_,rfl,aj.set (y.trans (s2.trans G)) Y,g++ss.map (lnS q.2.1),?_,?_|?_]]
   .rw[ae,t,Zd]
   .rw[Xc,hq,flatMap_append];refine B.append ?_;show List.Perm _ ([q].flatMap lyr);rw[List.flatMap_singleton];exact p2.map _
   .rw[Z9,Z6]
    lia
  .intro d a %[o2,o3,rfl,y,g,N,B|aa];refine k2 _ _ ?_;lk;rw[u,Zn (Zi _)]at B;exact%[g,SqL.of N,by rw[B.length_eq];lia|λr ss M p' q'=>k r _ ss (y.trans (aj.upd M)) (y.free M) ae (p'.trans B) q']
theorem nT(T:Txt K mg):↥4 "ties_of_cuts" ["cuts"] j9:=by
 refine T.b9.cal bR (λH vs Q E h=>?_)
 .have%[l,B,rfl,hl,a3,a4,h8|k]:=h;refine%[rfl|λf a6 A outer s hr=>?_];have ag:(cF B).length=B.length:=Z6 _;refine%[_,%["JDI1VBDST0cML2ML3dESTG]QA3BcML4ML5dEYki1AvAG~bA2A4BAG~bA2A5BA2BBEH1",bR.nd|hr]|?_]
  show bo _ _ _ [!l,none,none,none,none,none] H;refine ap λD1 k1 _=>?_
  lk;refine%[Xg _|λL hL=>k1 _ _ (ap λD2 k2 _=>aA λah hK=>?_)];lk;refine .inl %[%[_|SqL.of (aj.upd hL _ _ hl)]|hK _ _ (bL (λi C I=>∃o2 o3 J M,C=[!l,!L,o2,o3,J,M]/\aj H I/\∃ts:ZG,I L=some (.lst (ts.map λt=>V.ref t.1))/\aE I ts/\(∀t∈ts,yT (B.flatMap lyr) t.2)/\ts.length<=26*i/\∀k,k∈ts.map (·.2)↔k∈fj (B.take i))
   %[none,none,none,none,rfl,aj.upd hL,[],ae,iC _,λt ht=>(nomatch ht),Xg _|λk=>Iff.rfl] (λi C I _ ⟨_,_,_,_,_,q,_⟩=>SqL.of (q _ _ hl)) ?_ ?_)]
  .intro i x C I N %[o2,o3,J,M,rfl,sm,ts,hm,Y,aa,ai|d];have hi:i<B.length:=by rw[<-ag];exact(Xn N).1
   obtain⟨q,hq,rfl⟩:∃q,B[i]? =some q/\x=V.ref q.1:=by
    unfold cF at N;rw[Zl,Z4 hi]at N;exact%[B[i],Z4 hi|(Za N).symm]
   have g:=a3 q (Z8 hq);refine%[_,SqT.of (sm _ _ g.1),rfl,_,_,rfl,_,_,rfl,rfl|?_];refine aF λD3 k3 _=>?_
   show zo _ _ _ _ [!l,!L,some (.str q.2.1),some (.str (Str.join nl q.2.2)),J,M] I;refine aA λah hK=>?_
   lk;have qm:=Z8 hq;refine%[q.2.2,rfl,g.2.2,a4 q qm|?_];intro l2 H2 ss s2 f2 h2 t2 a7 al all2;have a5:=nS g.2.1;have an:l2≠L:=λe=>by rw[e,hm]at f2;cases f2
   have as:(ss.map λp=>V.ref p.1).length=ss.length:=Z6 _;refine .inl %[l2,rfl,%[_|SqL.of h2]|hK _ _ (bL (xs:=ss.map λp=>V.ref p.1) (λj C n=>∃J M,C=[!l,!L,some (.str q.2.1),some (.str (Str.join nl q.2.2)),J,M]/\aj H n/\n l2=some (.lst (ss.map λp=>V.ref p.1))/\aE n ss/\∃c:ZG,n L=some (.lst (c.map λt=>V.ref t.1))/\aE n c/\(∀t∈c,yT (B.flatMap lyr) t.2)/\c.length<=26*i+j/\c.map (·.2)=ts.map (·.2) ++((ss.take j).map (·.2)).map (xc q.2.1))
    %[_,_,rfl,sm.trans s2,h2,t2,ts,s2 _ _ hm,aU Y λb z e=>s2 _ _ e,aa,⋯|(Zz _).symm] (λj C n _ ⟨_,_,_,_,q,_⟩=>SqL.of q) ?_ ?_)]
   .intro j x C n N %[J,M,rfl,ab,a0,r,c,G,u,ac,v|m];have hj:j<ss.length:=as▸(Xn N).1;rw[Zl,Z4 hj]at N;obtain rfl:x=V.ref ss[j].1:=(Za N).symm;have O:=Yd hj;have%[a,b,a1,la|lb]:=al _ O;have U:=(r _ O).2;rw[a1]at U;refine%[_,SqT.of U,rfl,_,_,rfl,_,_,rfl,rfl|aF λD4 k4 _=>?_];show jv _ _ [!l,!L,some (.str q.2.1),some (.str (Str.join nl q.2.2)),some (.str (sgn a)),some (.str (sgn b))] n;lk;refine%[.inl %[_|SqL.of G],q.2.1,sgn a,rfl,⋯,(show 1<=100 by decide)|?_];refine%[q.2.1,sgn b,rfl,⋯,(show 1<=100 by decide)|?_];refine%[#[3]|λp hp=>?_];have sp:=aj.upd (o:= .tup [V.str (lnS q.2.1 (sgn a)),V.str (lnS q.2.1 (sgn b)),V.str q.2.1]) hp;have gp:upd n p (.tup [V.str (lnS q.2.1 (sgn a)),V.str (lnS q.2.1 (sgn b)),V.str q.2.1]) p=_:=ae
    generalize upd n p _=H4 at sp gp
    have a2:=sp _ _ G;have y:∀b z,H4 b=some (.tup z)->upd H4 L (.lst (c.map (λt=>V.ref t.1) ++[V.ref p])) b=some (.tup z):=λb z e=>by
     have:b≠L:=λe2=>by rw[e2,a2]at e;cases e
     rw[ao this];exact e
    refine%[_,a2,by rw[Z6];exact Nat.lt_of_le_of_lt (show c.length<=10000 by lia) (by decide)|k4 _ _ %[_,_,rfl,aj.set (ab.trans sp) hL,(ao an)▸sp _ _ a0,aU (aU r λb z e=>sp _ _ e) y,c++[(p,[lnS q.2.1 (sgn a),lnS q.2.1 (sgn b),q.2.1])],?_,?_,?_,?_|?_]]
    .rw[ae,Zd];rfl
    .exact aU (iL (aU u λb z e=>sp _ _ e) ∅ gp) y
    .intro t ht;rcases Xo ht with z|z
     .exact ac t z
     .rw[Xp z];exact%[%[_,_,_,rfl,mem_flatMap.mpr %[q,qm|xa la]|mem_flatMap.mpr %[q,qm|xa lb]]|FG (kM g.2.1 (v9 g.2.2 la)) (kM g.2.1 (v9 g.2.2 lb)) (uA g.2.1)]
    .rw[Z9,Ym];lia
    .rw[Zd,m,Ze,Xc,Z4 hj,Zd,Zd];show _++(_++[_])=_++(_++[xc q.2.1 ss[j].2]);rw[a1];rfl
   .intro C n %[J,M,rfl,ab,a0,r,c,G,u,ac,v|m];rw[as]at v m;rw[Zn (Zi _)]at m;refine k3 _ _ %[_,_,_,_,rfl,ab,c,G,u,ac,⋯|λk=>?_];rw[m,sf hq,Yu,Yu,d,mem_map,mem_map];exact or_congr Iff.rfl (exists_congr λz=>and_congr_left λ_=>all2 z)
  .intro C I %[o2,o3,J,M,rfl,sm,ts,hm,Y,aa,ai|d];refine k2 _ _ ?_;lk;rw[ag]at ai d;rw[Zn (Zi _)]at d;exact k L I ts sm hL hm Y aa ⋯ d
theorem kc(T:Txt K mg):↥1 "ties_of_sayings" ["sayings"] kb:=by
 refine T.ba.cal cj (λH vs Q E h=>?_)
 .have%[l,N,qs,rfl,hl,aa,r,ai|k]:=h;refine%[rfl|λf ah A outer s hr=>?_];have G:(qs.map λq=>V.ref q.1).length=qs.length:=Z6 _;refine%[_,%["JDI1VBDS~CA0BcML2ML3dENKXU3CbEYki1AvAU3CAU3CA~!~Eb~E~a2~$BBOEH1"|cj.nd]|?_]
  show bo _ _ _ [!l,none,none,none] H;refine ap λD1 k1 _=>?_
  lk;refine%[Xg _|λL O=>k1 _ _ (ap λD2 k2 _=>aA λac hK=>?_)];lk;refine%[_,SqL.of (aj.upd O _ _ hl)|hK _ _ (im (λi U n=>∃o2 o3,U=[!l,!L,o2,o3]/\aj H n/\∃ts:ZG,n L=some (.lst (ts.map λt=>V.ref t.1))/\aE n ts/\(∀t∈ts,yT N t.2)/\ts.length<=i/\ts.map (·.2)=cv qs i)
   %[none,none,rfl,aj.upd O,[],ae,iC _,λt ht=>(nomatch ht),Xg _|rfl] (λi U n _ ⟨_,_,_,q,_⟩=>SqL.of (q _ _ hl)) ?_ ?_)]
  .intro i x TT U n hx %[o2,o3,rfl,sm,ts,hm,u,g,v|d] hT;have hi:i<qs.length:=by rw[<-G];exact(Xn hx).1
   obtain⟨q,Y,rfl⟩:∃q,qs[i]? =some q/\x=V.ref q.1:=by
    rw[Zl,Z4 hi]at hx;exact%[qs[i],Z4 hi|(Za hx).symm]
   have s0:=aj.upd (o:= .tup [.int i,.ref q.1]) hT;have j:aj H (upd n TT (.tup [.int i,.ref q.1])):=sm.trans s0;have I:upd n TT (.tup [.int i,.ref q.1]) TT=some (.tup [.int i,.ref q.1]):=ae;have m:=s0 _ _ hm;have c:=aU u λb z e=>s0 _ _ e
   generalize upd n TT (.tup [.int i,.ref q.1])=HT at j I m c
   have J:=aa q (Z8 Y);refine%[_,SqT.of I,rfl,_,_,rfl,_,_,rfl,rfl|?_];show l9 _ _ _ _ [!l,!L,some (.int i),some (.ref q.1)] HT;refine aF λD4 k4 _=>?_
   lk;have st:=SqT.of (K:=K) (j _ _ J.1);have ag:(Str.ofString (toString (i:Int))).length<=21:=by
    have e:=PySem.int_text_length_le10 (a:=(i:Int)) (k:=20) (by decide) (by have:(i:Int).natAbs=i:=rfl;lia);rw[PySem.ofString_length];lia
   have e1:(Str.empty++Str.ofString "#").length=1:=by decide +kernel
   have ea:∀a b:Str,(a++b).length=a.length+b.length:=λa b=>size_append
   have add:∀a b:Str,a∈N->b∈N->jp i q.2=some [a,b,wa i]->∀p,HT p=none->∃x,upd HT p (.tup [.str a,.str b,V.str (Str.empty++Str.ofString "#"++Str.ofString (toString (i:Int)))]) L=some (.lst x)/\x.length<sizeLine/\D4.nx [!l,!L,some (.int i),some (.ref q.1)] (upd (upd HT p (.tup [.str a,.str b,V.str (Str.empty++Str.ofString "#"++Str.ofString (toString (i:Int)))])) L (.lst (x++[V.ref p]))):=by
    intro a b ma mb ab p hp;have tn:=cD Y;rw[ab,<-d]at tn;unfold wa at tn
    generalize hz:Str.empty++Str.ofString "#"++Str.ofString (toString (i:Int))=z at tn ⊢
    have sp:=aj.upd (o:= .tup [V.str a,V.str b,V.str z]) hp;have gp:upd HT p (.tup [V.str a,V.str b,V.str z]) p=_:=ae
    generalize upd HT p (.tup [V.str a,V.str b,V.str z])=H4 at sp gp
    have M:=sp _ _ m;have B:∀b z,H4 b=some (.tup z)->upd H4 L (.lst (ts.map (λt=>V.ref t.1) ++[V.ref p])) b=some (.tup z):=λb z e=>by
     have:b≠L:=λe2=>by rw[e2,M]at e;cases e
     rw[ao this];exact e
    refine%[_,M,by rw[Z6];exact aJ ⋯|k4 _ _ %[_,_,rfl,aj.set (j.trans sp) O,ts++[(p,[a,b,z])],?_,?_,?_,?_|?_]]
    .rw[ae,Zd];rfl
    .exact aU (iL (aU c λb z e=>sp _ _ e) ∅ gp) B
    .intro t ht;rcases Xo ht with z|z
     .exact g t z
     .rw[Xp z];exact%[%[_,_,_,rfl,ma|mb]|FG (r a ma) (r b mb) (hz▸Dd i ⋯)]
    .rw[Z9,Ym];lia
    .rw[tn,Zd];rfl
   rcases J.2 with⟨wd,a,b,e,hw,ma,mb,_⟩|⟨wd,a,y,e,hw,_⟩
   .rw[e]at st;refine%[_,st,_,rfl,rfl|bJ (λC=>?_) λC=>?_]
    .refine%[.inl %[_|SqL.of m],_,st,_,rfl,_,st,_,rfl,bM ⋯,?_,bM (by rw[ea];lia),bM (by rw[ea];lia),#[3]|add a b ma mb (e▸if_pos (V.str.inj (Zo C)))];have:(i:Int).natAbs=i:=rfl
     lia
    .refine k4 _ _ %[_,_,rfl,j,ts,m,c,g,⋯|?_];rw[cD Y,e,show jp i [V.str wd,V.str a,V.str b]=none from if_neg λz=>C (Zf (by rw[z])),d];exact(Zz _).symm
   .rw[e]at st;refine%[_,st,_,rfl,rfl|?_];rw[if_neg (by rcases hw with rfl|rfl<;> decide)];refine k4 _ _ %[_,_,rfl,j,ts,m,c,g,⋯|?_];rw[cD Y,e,d];exact(Zz _).symm
  .intro U n %[o2,o3,rfl,sm,ts,hm,u,g,v|d];refine k2 _ _ ?_;lk;rw[G]at v d;exact k L n ts sm O hm u g v d
structure GrF (mg:ZC) (H:Hp) (g c2 c3 c4:Addr) (qs:ZN) (ls:ZB) (ts:ZG):Prop where
 at_:∃dx c1,H g=some (.ins (aD mg "Ground") dx [("kept_cuts",.ref c1),("kept_sayings",.ref c2),("kept_layers",.ref c3),("kept_ties",.ref c4)])
 a2:H c2=some (.lst (qs.map λq=>V.ref q.1))
 a3:H c3=some (.lst (ls.map V.str))
 a4:H c4=some (.lst (ts.map λt=>V.ref t.1))
 sa:cO H ls qs
 tu:aE H ts
theorem GrF.up(h:GrF mg H g a c d qs f ts)(s:aj H i):GrF mg i g a c d qs f ts:=by
 have%[j,l|m]:=h.at_;exact%[%[j,l|s _ _ m],s _ _ h.a2,s _ _ h.a3,s _ _ h.a4,h.sa.up s|aU h.tu λb z e=>s _ _ e]
inductive qj (mg:ZC) (vs:ZM) (H:Hp) (Q:VK) (E0:XK):Prop
 | mk (g) (c2) (c3) (c4) (qs) (ls) (ts) (z0:vs=[.ref g]) (z1:GrF mg H g c2 c3 c4 qs ls ts) (z2:∀l,H l=none->Q (.ref l) (upd H l (.lst (ls.map V.str)))):qj mg vs H Q E0
inductive nU (mg:ZC) (vs:ZM) (H:Hp) (Q:VK) (E0:XK):Prop
 | mk (g) (c2) (c3) (c4) (qs) (ls) (ts) (z0:vs=[.ref g]) (z1:GrF mg H g c2 c3 c4 qs ls ts) (z2:∀l,H l=none->Q (.ref l) (upd H l (.lst (qs.map λq=>V.ref q.1)))):nU mg vs H Q E0
inductive xf (mg:ZC) (vs:ZM) (H:Hp) (Q:VK) (E0:XK):Prop
 | mk (g) (c2) (c3) (c4) (qs) (ls) (ts) (z0:vs=[.ref g]) (z1:GrF mg H g c2 c3 c4 qs ls ts) (z2:∀l,H l=none->Q (.ref l) (upd H l (.lst (ts.map λt=>V.ref t.1)))):xf mg vs H Q E0
inductive si (mg:ZC) (vs:ZM) (H:Hp) (Q:VK) (E0:XK):Prop
 | mk (g) (l) (m) (dx) (cs) (qs) (z0:vs=[.ref g,.ref l,.ref m]) (z1:H g=some (.ins (aD mg "Ground") dx [])) (z2:H l=some (.lst (cF cs))) (z3:H m=some (.lst (qs.map λq=>V.ref q.1))) (z4:ce H cs) (z5:(cs.map λp=>p.2.1).Nodup) (z6:1<=cs.length) (z7:cs.length<=4) (z8:(∀p∈cs,yF p.2.2)) (z9:(cs.flatMap lyr).length<=80) (z10:(∀ls,ls.Perm (cs.flatMap lyr)->cO H ls qs)) (z11:qs.length<=30) (z12:∀H' ls ts c2 c3 c4,(∀b o,b≠g->H b=some o->H' b=some o)->GrF mg H' g c2 c3 c4 qs ls ts->(∀t∈ts,yT ls t.2)->(∀z∈ls,Sml z)->(∀k,k∈ts.map (·.2)↔k∈fj cs\/k∈cv qs qs.length)->ts.length<=150->ls.Perm (cs.flatMap lyr)->ls.Pairwise (λa b=>a8 b a=false)->Q .non H'):si mg vs H Q E0
theorem Bw(T:Txt K mg):CV P w K mg base 6 "Ground" ["self","cuts","sayings"] (si mg):=by
 refine T.i_Ground.cal eP (λH vs Q E h=>?_)
 .have%[g,l,m,d,u,qs,rfl,O,hl,hm,j,an,h1,h8,as,a0,C,bm|k]:=h;refine%[rfl|λf bl A outer s hr=>?_];refine%[_,%["JDYG]RA1BDI3G]SA1BDYG]TA2A3BD~R0|~GA1BD~R0|~GA2BD~R03E~R0/]UAF=G]VA1BG]WA2BB",eP.nd|hr]|?_]
  show bo _ _ _ [!g,!l,!m,none] H;refine ap λD1 k1 _=>?_
  lk;refine%[l,u,rfl,hl,j,an,h1,⋯|λH1 s1=>k1 _ _ (ap λD2 k2 _=>?_)];lk;refine%[l,u,rfl,s1 _ _ hl,j.up s1,h8,a0|λr H2 G s2 f2 h2 U q2=>k2 _ _ (ap λD3 k3 _=>?_)];have Y:=s1.trans s2;lk;refine%[m,r,G,qs,rfl,Y _ _ hm,h2,(C G U).up Y,⋯|λH3 s3=>k3 _ _ (ap λD4 k4 _=>?_)];have v:=Y.trans s3;have OC:=T.o_Ground.cls;have ag:∀z∈G,Sml z:=λz hz=>by
   have%[p,y|hz]:=mem_flatMap.mp (U.mem_iff.mp hz);exact Dc (j p y).2.1 (j p y).2.2 z hz
  have gl:l≠g:=λe=>by rw[e,O]at hl;cases hl
  have gm:m≠g:=λe=>by rw[e,O]at hm;cases hm
  have gr:r≠g:=λe=>by rw[e,s1 _ _ O]at f2;cases f2
  lk;refine%[_,.inl (SqL.of (v _ _ hl))|λa I=>%[_,_,_,aj.upd I _ _ (v _ _ O),OC,T.n_Ground_kept_cuts,(by show 0<1000;decide)|k4 _ _ (ap λD5 k5 _=>?_)]];have a1:a≠g:=λe=>by rw[e,v _ _ O]at I;cases I
  have a2:=aj.upd (o:= .lst (cF u)) I;have b4:∀b o,b≠g->H3 b=some o->upd (upd H3 a (.lst (cF u))) g (.ins (aD mg "Ground") d (dg (Str.ofString "kept_cuts") (V.ref a) [])) b=some o:=λb o c e=>by rw[ao c];exact a2 _ _ e
  have g4:upd (upd H3 a (.lst (cF u))) g (.ins (aD mg "Ground") d (dg (Str.ofString "kept_cuts") (V.ref a) [])) g=some (.ins (aD mg "Ground") d [("kept_cuts",V.ref a)]):=ae;have a4:upd (upd H3 a (.lst (cF u))) g (.ins (aD mg "Ground") d (dg (Str.ofString "kept_cuts") (V.ref a) [])) a=some (.lst (cF u)):=by rw[ao a1];exact ae
  generalize upd (upd H3 a (.lst (cF u))) g (.ins (aD mg "Ground") d (dg (Str.ofString "kept_cuts") (V.ref a) []))=H4 at b4 g4 a4
  have n4:∀b,H4 b=none->b≠g:=λb c e=>by rw[e,g4]at c;cases c
  lk;refine%[_,.inl (SqL.of (b4 _ _ gm (v _ _ hm)))|λi aa=>%[_,_,_,aj.upd aa _ _ g4,OC,T.n_Ground_kept_sayings,(by show 1<1000;decide)|k5 _ _ (ap λD6 k6 _=>?_)]];have ab:=n4 i aa;have a3:=aj.upd (o:= .lst (qs.map λq=>V.ref q.1)) aa;have b5:∀b o,b≠g->H4 b=some o->upd (upd H4 i (.lst (qs.map λq=>V.ref q.1))) g (.ins (aD mg "Ground") d (dg (Str.ofString "kept_sayings") (V.ref i) [("kept_cuts",V.ref a)])) b=some o:=λb o c e=>(ao c)▸a3 _ _ e
  have g5:upd (upd H4 i (.lst (qs.map λq=>V.ref q.1))) g (.ins (aD mg "Ground") d (dg (Str.ofString "kept_sayings") (V.ref i) [("kept_cuts",V.ref a)])) g=some (.ins (aD mg "Ground") d [("kept_cuts",V.ref a),("kept_sayings",V.ref i)]):=by rw[ae];rfl
  have a5:upd (upd H4 i (.lst (qs.map λq=>V.ref q.1))) g (.ins (aD mg "Ground") d (dg (Str.ofString "kept_sayings") (V.ref i) [("kept_cuts",V.ref a)])) i=some (.lst (qs.map λq=>V.ref q.1)):=(ao ab)▸ae
  generalize upd (upd H4 i (.lst (qs.map λq=>V.ref q.1))) g (.ins (aD mg "Ground") d (dg (Str.ofString "kept_sayings") (V.ref i) [("kept_cuts",V.ref a)]))=H5 at b5 g5 a5
  lk;refine%[_,_,_,g5,OC,T.n_Ground_kept_layers,(by show 2<1000;decide)|k6 _ _ (aF λD7 k7 _=>?_)];have b6:∀b o,b≠g->H5 b=some o->upd H5 g (.ins (aD mg "Ground") d (dg (Str.ofString "kept_layers") (V.ref r) [("kept_cuts",V.ref a),("kept_sayings",V.ref i)])) b=some o:=λb o c e=>(ao c)▸e
  have g6:upd H5 g (.ins (aD mg "Ground") d (dg (Str.ofString "kept_layers") (V.ref r) [("kept_cuts",V.ref a),("kept_sayings",V.ref i)])) g=some (.ins (aD mg "Ground") d [("kept_cuts",V.ref a),("kept_sayings",V.ref i),("kept_layers",V.ref r)]):=by rw[ae];rfl
  generalize upd H5 g (.ins (aD mg "Ground") d (dg (Str.ofString "kept_layers") (V.ref r) [("kept_cuts",V.ref a),("kept_sayings",V.ref i)]))=H6 at b6 g6
  have ah:∀b o,b≠g->H3 b=some o->H6 b=some o:=λb o c e=>b6 b o c (b5 b o c (b4 b o c e))
  have B:∀b o,b≠g->H b=some o->H6 b=some o:=λb o c e=>ah b o c (v _ _ e)
  have ai:ce H6 u:=λp y=>⟨B _ _ (λe=>by have:=(j p y).1;rw[e,O]at this;cases this) (j p y).1,(j p y).2⟩
  have n:cO H6 G qs:=λq hq=>⟨B _ _ (λe=>by have:=(C G U q hq).1;rw[e,O]at this;cases this) (C G U q hq).1,(C G U q hq).2⟩
  lk;refine%[l,u,rfl,B _ _ gl hl,ai,as,h8|λt1 H7 ts s7 f7 h7 a6 ac bt a7=>?_];lk;refine%[m,G,qs,rfl,s7 _ _ (B _ _ gm hm),n.up s7,ag,⋯|λt2 H8 us s8 f8 bb bc al b0 bf=>?_];lk;have N:aE H8 (ts++us):=uu (aU a6 λb z e=>s8 _ _ e) bc;have g8:=s8 _ _ (s7 _ _ g6);refine%[_,s8 _ _ h7,_,bb,by rw[Z6,Z6,PySem.sizeLine_eq];lia|λp y=>%[ts++us,Zd▸SqL.of ae,aU N λb z e=>aj.upd y _ _ e,3,?_,by decide,by rw[Z9];lia|λc4 ss J L b1=>%[_,_,_,aj.upd J _ _ (aj.upd y _ _ g8),OC,T.n_Ground_kept_ties,(by show 3<1000;decide)|k7 _ _ ?_]]]
  .intro t ht;rcases Xo ht with z|z
   .exact(ac t z).1.three
   .exact(al t z).1.three
  .have b9:∀b o,b≠g->H8 b=some o->upd (upd (upd H8 p (.lst (ts.map (λp=>V.ref p.1) ++us.map λp=>V.ref p.1))) c4 (.lst (ss.map λp=>V.ref p.1))) g (.ins (aD mg "Ground") d (dg (Str.ofString "kept_ties") (V.ref c4) [("kept_cuts",V.ref a),("kept_sayings",V.ref i),("kept_layers",V.ref r)])) b=some o:=λb o c e=>(ao c)▸((aj.upd (o:= .lst (ts.map (λp=>V.ref p.1) ++us.map λp=>V.ref p.1)) y).trans (aj.upd (o:= .lst (ss.map λp=>V.ref p.1)) J)) _ _ e
   have M:∀b o,b≠g->H6 b=some o->_:=λb o c e=>b9 b o c (s8 _ _ (s7 _ _ e))
   refine k _ G ss i r c4 (λb o c e=>M b o c (B b o c e)) %[%[d,a|?_],?_,?_,?_,?_|?_] (λt ht=>?_) ag (λk=>by rw[(L.map _).mem_iff,Zd,Yu,a7,bf]) (by rw[L.length_eq,Z9];lia) U q2
   .rw[ae];rfl
   .exact M _ _ ab (b6 _ _ ab a5)
   .exact M _ _ gr (ah _ _ gr (s3 _ _ h2))
   .rw[ao (λe=>by rw[e,aj.upd y _ _ g8]at J;cases J)];exact ae
   .exact λq hq=>⟨M _ _ (λe=>by have:=(n q hq).1;rw[e,g6]at this;cases this) (n q hq).1,(n q hq).2⟩
   .intro t ht;have:=N t (L.mem_iff.mp ht);exact%[this.1|b9 _ _ (λe=>by have q:=this.2;rw[e,g8]at q;cases q) this.2]
   .rcases Xo (L.mem_iff.mp ht)with z|z
    .exact%[(ac t z).1.mono λx=>U.mem_iff.mpr|(ac t z).2]
    .exact al t z
theorem dL(T:Txt K mg):yq P w K mg base 1 "Ground" "layers" ["self"] (qj mg):=by
 refine T.m_Ground_layers.cal kJ (λH vs Q E h=>?_)
 .have%[g,c,d,e,qs,i,ts,rfl,a|k]:=h;refine%[rfl|λf b A outer s n=>?_];have%[o,p|j]:=a.at_;refine%[_,%["JEH|~GA~c0B"|0]|?_];show jw _ _ [some _] H;lk;exact%[_,_,_,j,T.o_Ground.cls,T.n_Ground_kept_layers,_,rfl,_,rfl,_,.inl (SqL.of a.a3)|λl m=>k l m]
theorem kN(T:Txt K mg):yq P w K mg base 1 "Ground" "sayings" ["self"] (nU mg):=by
 refine T.m_Ground_sayings.cal j4 (λH vs Q E h=>?_)
 .have%[g,c,d,e,qs,i,ts,rfl,a|k]:=h;refine%[rfl|λf b A outer s n=>?_];have%[o,p|j]:=a.at_;refine%[_,%["JEH|~GA~c0B"|0]|?_];show jw _ _ [some _] H;lk;exact%[_,_,_,j,T.o_Ground.cls,T.n_Ground_kept_sayings,_,rfl,_,rfl,_,.inl (SqL.of a.a2)|λl m=>k l m]
theorem oR(T:Txt K mg):yq P w K mg base 1 "Ground" "ties" ["self"] (xf mg):=by
 refine T.m_Ground_ties.cal nE (λH vs Q E h=>?_)
 .have%[g,c,d,e,qs,i,ts,rfl,a|k]:=h;refine%[rfl|λf b A outer s n=>?_];have%[o,p|j]:=a.at_;refine%[_,%["JEH|~GA~c0B"|0]|?_];show jw _ _ [some _] H;lk;exact%[_,_,_,j,T.o_Ground.cls,T.n_Ground_kept_ties,_,rfl,_,rfl,_,.inl (SqL.of a.a4)|λl m=>k l m]
def dv(H:Hp)(ys:List (Addr×Str×Int)):Prop:=∀p∈ys,H p.1=some (.tup [.str p.2.1,.int p.2.2])/\0<=p.2.2/\p.2.2<=7
theorem dv.up(h:dv H ys)(s:aj H b):dv b ys:=λp a=>%[s _ _ (h p a).1|(h p a).2]
inductive qk (vs:ZM) (H:Hp) (Q:VK) (E0:XK):Prop
 | mk (one two:Int) (l:Addr) (torn:Bool) (ys:List (Addr×Str×Int)) (z0:vs=[.int one,.int two,.ref l,.bl torn]) (z1:H l=some (.lst (ys.map λp=>V.ref p.1))) (z2:dv H ys) (z3:1<=ys.length) (z4:ys.length<=100) (z5:0<=one) (z6:0<=two) (z7:∀(t:Addr) H' (xs:ZM),aj H H'->H t=none->H' t=some (.tup xs)->nQ (ys.map λp=>p.2.1) xs->Q (.ref t) H'):qk vs H Q E0
theorem sj(T:Txt K mg):↥1 "_law_saying" ["_law_one","_law_two","_law_layers","_law_torn_here"] qk:=by
 refine T.bm.cal bu (λH vs Q E h=>?_)
 .have%[one,d,l,g,ys,rfl,hl,U,y1,ac,o0,t0|k]:=h;refine%[rfl|λf ag A outer s hr=>?_];have get:∀n:Int,0<=n->∃q,atI (ys.map λp=>V.ref p.1) (n%(ys.length:Int))=some (V.ref q.1)/\q∈ys:=λn hn=>by
   have h0:=Int.emod_nonneg n (show(ys.length:Int)≠0 by lia);have h1:=Int.emod_lt_of_pos n (show(0:Int)<(ys.length:Int) by lia)
   generalize n%(ys.length:Int)=i at h0 h1
   have%[j|rfl]:=Xj h0;have hj:j<ys.length:=by lia
   exact%[ys[j],cq (by simp[hj])|Yd hj]
  have%[p,gp|mp]:=get one o0;have%[q,gq|mq]:=get d t0;have Y:(ys.map λp=>V.ref p.1).length=ys.length:=Z6 _;have G:(0:Int)<(ys.length:Int):=by lia
  have pa:=U p mp;have qa:=U q mq;refine%[_,%["JD~SP2FR0efA2BcML4ML5dD~SP2FR1efA2BcML6ML7dDI8x3%pXFRFh1CCCDI9FRFh0CCDNawK.9CwKq46&asKq57zj8DNawK}57&yj8EHvAbA6A4BOEHvAbA4A6BODNawKX9CwKq46&asKX57zj8EHvAbA4A6BODI:FZF<CFtC5PVACA+CA+CACACA+CACACBFR1CDNKXFRFh1CCCEI:PVA+CACBFRFh1CCOEHvAPVAbAbBFR0CA4A~H:B"|bu.nd]|?_]
  show bo _ _ _ [some (.int one),some (.int d),!l,some (.bl g),none,none,none,none,none,none,none] H;refine ap λD1 k1 _=>?_
  lk;refine%[ys.length,.inl %[_,SqL.of hl|Y.symm],G,_,SqL.of hl,_,gp,_,rfl,_,SqT.of pa.1,rfl,_,_,rfl,_,_,rfl,rfl|k1 _ _ (ap λD2 k2 _=>?_)];lk;refine%[ys.length,.inl %[_,SqL.of hl|Y.symm],G,_,SqL.of hl,_,gq,_,rfl,_,SqT.of qa.1,rfl,_,_,rfl,_,_,rfl,rfl|k2 _ _ (ap λD3 k3 _=>?_)];have I:∀v:Bool,D3.nx [some (.int one),some (.int d),!l,some (.bl g),some (.str p.2.1),some (.int p.2.2),some (.str q.2.1),some (.int q.2.2),some (.bl v),none,none] H:=by
   intro v;refine k3 _ _ (ap λD4 k4 _=>?_);lk;refine%[%[by decide|by decide],by decide|k4 _ _ (ap λD5 k5 r5=>?_)];have b1:0<=one/64%8:=by lia
   have b2:one/64%8<8:=by lia
   generalize one/64%8=kind at b1 b2
   have%[ah,pn|pi]:=p;have%[ai,u|qi]:=q;dsimp only at pa qa gp gq;have mem:∀{r:Addr×Str×Int},r∈ys->r.2.1∈ys.map λp=>p.2.1:=λ{r} hr=>Xr %[r,hr|rfl]
   have J:∀(z:Hp) (a b:Str),aj H z->a∈(ys.map λp=>p.2.1)->b∈(ys.map λp=>p.2.1)->a≠b->∀w:Str,w="later"\/w="same"->∀t,z t=none->Q (.ref t) (upd z t (.tup [.str w,.str a,.str b])):=λz a b sh ha hb aa w hw t y=>
    k t _ _ (sh.trans (aj.upd y)) (sh.free y) ae (.inl %[w,a,b,rfl,hw,ha,hb|aa])
   have m1:pn∈ys.map λp=>p.2.1:=mem mp
   have m2:u∈ys.map λp=>p.2.1:=mem mq
   have B:3<=sizeLine:=by decide
   have rest:D5.nx [some (.int one),some (.int d),!l,some (.bl g),-pn,some (.int pi),-u,some (.int qi),some (.bl v),some (.int kind),none] H:=by
    refine k5 _ _ (ap λD6 k6 r6=>?_);have M:∀z,aj H z->D6.nx [some (.int one),some (.int d),!l,some (.bl g),-pn,some (.int pi),-u,some (.int qi),some (.bl v),some (.int kind),none] z:=by
     intro z sh;refine k6 _ _ (ap λD7 k7 _=>?_);lk;refine%[.inl %[by decide|by decide],#[8]|λp hp=>%[by decide,_,SqL.of ae|?_]];have%[c,hc|N]:=iB [0,-20,-60,10,60,-200,110,0] (i:=d%8) ⋯ (by show d%8<8;lia);have O: -200<=c/\c<=110:=by
      simp only[Yx,X8,or_false]at N
      lia
     refine%[_,hc,c,rfl|k7 _ _ (ap λD8 k8 _=>?_)];have s7:=sh.trans (aj.upd (o:= .lst [V.int 0,V.int (-20),V.int (-60),V.int 10,V.int 60,V.int (-200),V.int 110,V.int 0]) hp)
     generalize L2.upd z p _=H7 at s7
     have done:∀(yr:Int) H8,aj H H8-> -9999<=yr->yr<=9999->D8.nx [some (.int one),some (.int d),!l,some (.bl g),-pn,some (.int pi),-u,some (.int qi),some (.bl v),some (.int kind),some (.int yr)] H8:=by
      intro yr H8 s8 y0 y9;refine k8 _ _ ?_;lk;obtain⟨wd,ab,hw⟩:∃wd:Str,atI [V.str (Str.ofString "since"),V.str (Str.ofString "by")] (one%2)=some (V.str wd)/\(wd="since"\/wd="by"):=by
       rcases(show one%2=0\/one%2=1 by lia)with e|e<;> rw[e]
       .exact%[_,rfl|.inl rfl]
       .exact%[_,rfl|.inr rfl]
      refine%[#[2]|λp1 C=>%[by decide,_,SqL.of ae,_,ab,B|λt y=>?_]];exact k t _ _ (s8.trans ((aj.upd C).trans (aj.upd y))) (s8.free ((aj.upd C).free y)) ae (.inr %[wd,pn,_,rfl,hw,m1,y0|y9])
     lk;refine%[%[by decide|by decide],by decide|bJ (λ_=>%[#[2]|λp1 C=>%[%[by decide|by decide],by decide,_,SqL.of ae|?_]]) λ_=>done _ _ s7 ⋯ ⋯];have%[c,hc|N]:=iB [-9999,9999] (i:=d/240%2) ⋯ (by show d/240%2<2;lia);have O: -9999<=c/\c<=9999:=by
      simp only[Yx,X8,or_false]at N
      lia
     exact%[_,hc|done _ _ (s7.trans (aj.upd C)) O.1 O.2]
    lk;have sp:=aj.refl H;have R:=M H sp;refine bJ (λ_=>bJ (λm=>?_) λ_=>R) λ_=>R
    have m:pn≠u:=by simpa using m
    have L:3<=sizeLine/\∀p,H p=none->D6.rt (.ref p) (upd H p (.tup [V.str (Str.ofString "same"),V.str pn,V.str u])):=%[B|λt y=>r6 _ _ (J H pn u sp m1 m2 m _ (.inr rfl) t y)]
    exact bJ (λ_=>L) λ_=>bJ (λ_=>L) λ_=>R
   lk;refine bJ (λ_=>bJ (λm=>?_) λ_=>rest) λ_=>rest
   have m:pn≠u:=by simpa using m
   have L1:3<=sizeLine/\∀p,H p=none->D5.rt (.ref p) (upd H p (.tup [V.str (Str.ofString "later"),V.str u,V.str pn])):=%[B|λt y=>r5 _ _ (J H u pn (aj.refl H) m2 m1 (Ne.symm m) _ (.inl rfl) t y)]
   have L2:3<=sizeLine/\∀p,H p=none->D5.rt (.ref p) (upd H p (.tup [V.str (Str.ofString "later"),V.str pn,V.str u])):=%[B|λt y=>r5 _ _ (J H pn u (aj.refl H) m1 m2 m _ (.inl rfl) t y)]
   exact bJ (λ_=>bJ (λ_=>bJ (λ_=>L1) λ_=>L2) λ_=>L2) λ_=>bJ (λ_=>bJ (λ_=>bJ (λ_=>L1) λ_=>L2) λ_=>L2) λ_=>rest
  lk;exact bJ (λ_=>%[%[by decide|by decide],by decide|I _]) λ_=>I _
structure Drn where
 name:Str
 cols:List ZL
 hi:Nat
 sh:Int
 wd:Bool
noncomputable def Drn.rows(d:Drn):ZB:=drawn d.cols d.hi d.sh
def lC(d:Drn):Prop:=dO d.name=true/\1<=d.hi/\d.hi<=7/\1<=d.cols.length/\d.cols.length<=5/\∀c∈d.cols,c.length=d.hi/\jS d.wd c
theorem lC.cut(h:lC d):cg d.rows:=ud h.2.1 (by have:=h.2.2.1;lia) h.2.2.2.1 (by have:=h.2.2.2.2.1;lia) h.2.2.2.2.2
noncomputable def fW(d:Drn):List (Str×Int):=(there d.cols).map λa=>(dc d.name (sg a d.sh),a)
noncomputable def dcs(ds:List (Addr×Drn)):ZH:=ds.map λp=>(p.1,p.2.name,p.2.rows)
inductive ql (K:ZA) (vs:ZM) (H:Hp) (Q:VK) (E0:XK):Prop
 | mk (a:Addr) (xs:ZL) (z0:vs=[.ref a]) (z1:SqL K H a (xs.map V.int)) (z2:(∀H',aj H H'->SqL K H' a (xs.map V.int))) (z3:xs.length=86) (z4:(∀x∈xs,0<=x/\x<9973)) (z5:∀(t l1 l2 l3:Addr) H' (ds:List (Addr×Drn)) (qs:ZN),aj H H'->H t=none->H l1=none->H l2=none->H l3=none->l1≠l2->l1≠l3->l2≠l3->H' t=some (.tup [.ref l1,.ref l2,.ref l3])->H' l1=some (.lst (cF (dcs ds)))->H' l2=some (.lst (qs.map λq=>V.ref q.1))->H' l3=some (.lst ((ds.flatMap λp=>(fW p.2).map (·.1)).map V.str))->1<=ds.length->ds.length<=4->(∀p∈ds,lC p.2)->(ds.map λp=>p.2.name).Nodup->ce H' (dcs ds)->cO H' (ds.flatMap λp=>(fW p.2).map (·.1)) qs->qs.length<=30->1<=(ds.flatMap λp=>(fW p.2).map (·.1)).length/\(ds.flatMap λp=>(fW p.2).map (·.1)).length<=32->Q (.ref t) H'):ql K vs H Q E0
theorem lV(h:H M=some (.lst xs)):∀b z,H b=some (.tup z)->upd H M (.lst ys) b=some (.tup z):=λb z e=>by
 rw[ao (λa=>by grind)];exact e
theorem dv.keep(h:dv H ys)(t:∀b z,H b=some (.tup z)->c b=some (.tup z)):dv c ys:=λp a=>%[t _ _ (h p a).1|(h p a).2]
theorem ce.keep(h:ce H c)(t:∀b z,H b=some (.tup z)->d b=some (.tup z)):ce d c:=λp a=>%[t _ _ (h p a).1|(h p a).2]
theorem cO.keep(h:cO H c qs)(t:∀b z,H b=some (.tup z)->d b=some (.tup z)):cO d c qs:=λp a=>%[t _ _ (h p a).1|(h p a).2]
theorem ce.snoc(h:ce H a)(b:H q.1=some (.tup [.str q.2.1,.str (Str.join nl q.2.2)])/\dO q.2.1=true/\cg q.2.2):ce H (a++[q]):=λp c=>by
 rcases Xo c with z|z
 .exact h p z
 .rw[Xp z];exact b
theorem dv.snoc(h:dv H ys)(a:H q.1=some (.tup [.str q.2.1,.int q.2.2])/\0<=q.2.2/\q.2.2<=7):dv H (ys++[q]):=λp b=>by
 rcases Xo b with z|z
 .exact h p z
 .rw[Xp z];exact a
theorem yU(n:Str)(c:Nat):n++Str.ofString "."++sgn c=dc n c:=by
 refine eY ?_;show(n.cps++ ([46].toArray) ++ ([c].toArray)).toList=(n.cps.toList++[46,c]).toArray.toList;simp
theorem sk(T:Txt K mg):↥3 "_law_ground" ["_law_row_here"] (ql K):=by
 refine T.bn.cal aN (λH vs Q E h=>?_)
 .have%[a,xs,rfl,hs,keep,cl,hb|kk]:=h;refine%[rfl|λf ex A outer s hr=>?_];have get:∀i:Int,0<=i->i<86->∃c,atI (xs.map V.int) i=some (V.int c)/\0<=c/\c<9973:=λi h0 h1=>by
   have%[c,e|hm]:=iB xs h0 ⋯;exact%[c,e|hb c hm]
  have%[c0,g0,l0|u0]:=get 0 (by decide) (by decide);refine%[_,%["JDI1G]XAPQ0CBD>2mnpXFRPQ0CCCDI3VBD>4mnVBDS$AFZCFRFhPQ0CCCBL5DI6FZFRFhPQ0CCCFtC5DI7xQ2%pX5FRFhPQ0CCCD~SG]YA[Q0'FZCFtC5'FZCFtC5A6A7BcML8ML9dDYki3AvAP15A8BBEST9L:EYkiQ4AvAF=F=P15bG~qA~H:A6BA~H:BBDI;FRFhPQ0CCCD~N<nmg?1$A~H;BW0?2uG]ZAPQ3FZCFtC0APQ3FZCFtC0AQ1AQ2BEHvA3A~H<Aog?3TQ4cMW0?4MW1?4du0B",aN.nd,(show bV (ak d5) ["_law_row_here","_law_names_here","_law_torn_here","_law_cuts","_law_layers","_law_k","_law_shift","_law_wild","_law_text","_law_there","_law_at","_law_many","_law_sayings"] _ ["_law_k","_law_layers","_law_torn_here","_law_row_here"] [(1,4),(2,2),(3,0)]=true from by decide +kernel),(show(["_law_k","_law_layers","_law_torn_here","_law_row_here"]:ZB).Nodup from by decide +kernel),(show bV (ak d5) ["_law_row_here","_law_names_here","_law_torn_here","_law_cuts","_law_layers","_law_k","_law_shift","_law_wild","_law_text","_law_there","_law_at","_law_many","_law_sayings"] _ ["_law_layer","_law_at"] []=true from by decide +kernel),(show(["_law_layer","_law_at"]:ZB).Nodup from by decide +kernel)|hr]|?_]
  have%[c1,g1,l1|u1]:=get 1 (by decide) (by decide);show bo _ _ _ [!a,none,none,none,none,none,none,none,none,none,none,none,none] H;refine ap λD1 k1 _=>?_
  lk;refine%[_,hs,_,g1,_,rfl,l1,u1|λLN Hn ms sn fn b1 an=>k1 _ _ (ap λD2 k2 _=>?_)];have keep:∀g,aj Hn g->SqL K g a (xs.map V.int):=λg sm=>keep _ (sn.trans sm)
  lk;refine%[_,keep _ (aj.refl Hn),_,g0,c0,rfl,by decide|k2 _ _ (ap λey dB _=>?_)]
  generalize decide (c0%3=1)=u
  lk;refine%[Xg _|λv as=>dB _ _ (ap λev co _=>?_)];have s1:=aj.upd (o:= .lst []) as;lk;refine%[Xg _|λL3 a4=>co _ _ (ap λD3 k3 _=>aA λa0 hK=>?_)];have s2:=s1.trans (aj.upd (o:= .lst []) a4);have ez:LN≠v:=λe=>by rw[<-e,b1]at as;cases as
  have b2:v≠L3:=λe=>by rw[<-e,ae]at a4;cases a4
  lk;refine%[_,keep _ s2,_,g0,c0,rfl,%[by decide|by decide],by decide|?_];refine%[⋯,⋯|hK _ _ (cP (λi M g=>∃o3 o4 o5 o6 o7 o8,M=[!a,!LN,some (.bl u),!v,!L3,o3,o4,o5,o6,o7,o8,none,none]/\aj Hn g/\∃(ds:List (Addr×Drn)) (ys:List (Addr×Str×Int)),ds.length=i/\g v=some (.lst (cF (dcs ds)))/\g L3=some (.lst (ys.map λp=>V.ref p.1))/\dv g ys/\(ys.map (·.2))=(ds.flatMap λp=>fW p.2)/\
   ce g (dcs ds)/\(∀p∈ds,lC p.2)/\ds.map (λp=>p.2.name)=ms.take i)
   %[_,_,_,_,_,_,rfl,s2,[],[],rfl,by rw[ao b2];exact ae,ae,λp hp=>(nomatch hp),rfl,λp hp=>(nomatch hp),λp hp=>(nomatch hp)|rfl] ?_ ?_)]
  .intro i M H3 hi %[o3,o4,o5,o6,o7,o8,rfl,s3,ds,ys,b3,C,G,a5,Y,b4,a6|b5];have hi3:i<4:=by lia
   show bo _ _ _ [!a,!LN,some (.bl u),!v,!L3,some (.int (0+i)),o4,o5,o6,o7,o8,none,none] H3;rw[Int.zero_add];refine ap λD4 k4 _=>?_
   have cs:i<ms.length:=by rw[an.1];exact hi3
   obtain⟨y,ct,b6⟩:∃y,ms[i]? =some y/\dO y=true:=%[_,Z4 cs|an.2.2 _ (Yd cs)]
   have bf:atI (ms.map V.str) (i:Int)=some (V.str y):=cq (by rw[Zl,ct];rfl);lk;refine%[_,keep _ s3,_,g0,c0,rfl,%[by decide|by decide],by decide,.inl %[by decide|by decide]|k4 _ _ (ap λD5 k5 _=>?_)];have b7:0<=c0/12%26+3*(i:Int):=by lia
   generalize c0/12%26+3*(i:Int)=r at b7
   have O:=s3;have a1:∀m:Bool,D5.nx [!a,!LN,some (.bl u),!v,!L3,some (.int i),some (.int r),some (.bl m),o6,o7,o8,none,none] H3:=by
    intro m;refine k5 _ _ (ap λD6 k6 _=>?_);lk;refine%[.inl %[by decide|by decide],.inl %[by decide|by decide]|.inl %[_,keep _ O|λp2 cM=>?_]];rw[ur xs ⋯ ⋯ ⋯];have c2:((xs.drop (2+6*(i:Int)).toNat).take ((8+6*(i:Int)).toNat-(2+6*(i:Int)).toNat)).length=6:=by
     rw[Yn,Yj,cl];exact(by decide:∀i:Nat,i<4->min ((8+6*(i:Int)).toNat-(2+6*(i:Int)).toNat) (86-(2+6*(i:Int)).toNat)=6) i ⋯
    have c3:∀x∈(xs.drop (2+6*(i:Int)).toNat).take ((8+6*(i:Int)).toNat-(2+6*(i:Int)).toNat),0<=x/\x<9973:=λx hx=>hb x (Yy (Yz hx))
    generalize (xs.drop (2+6*(i:Int)).toNat).take ((8+6*(i:Int)).toNat-(2+6*(i:Int)).toNat)=ws at c2 c3
    refine%[p2,ws,r,m,rfl,SqL.of ae,λg sm=>SqL.of (sm _ _ ae),c2,c3,b7|λT5 th H5 d l U f5 dK n5 dT dV dX dY d0 d1 b9=>%[T5,rfl,_,SqT.of dT,rfl,_,_,rfl,_,_,rfl,rfl|k6 _ _ (ap λD7 k7 _=>?_)]];have a7:aj H3 H5:=(aj.upd cM).trans U;have bl:lC %[y,d,l,r|m]:=%[b6,dX,dY,d0,d1|b9]
    have ab:H3 th=none:=(aj.upd cM).free dK;have d2:th≠v:=λe=>by rw[e,C]at ab;cases ab
    have th3:th≠L3:=λe=>by rw[e,G]at ab;cases ab
    lk;refine%[.inl %[_|SqL.of (a7 _ _ C)],_,SqL.of (a7 _ _ (s3 _ _ b1)),_,bf,#[2]|λL d3=>?_];have s6:=aj.upd (o:= .tup [V.str y,V.str (nl.join (drawn d l r))]) d3;have g6:upd H5 L (.tup [V.str y,V.str (nl.join (drawn d l r))]) L=_:=ae;have al:=s6 _ _ (a7 _ _ C)
    generalize upd H5 L (.tup [V.str y,V.str (nl.join (drawn d l r))])=H6 at s6 g6 al
    have bb:=a7.trans s6;refine%[_,al,by rw[show(cF (dcs ds)).length=ds.length by unfold cF dcs;rw[Z6,Z6],b3];exact aJ ⋯|k7 _ _ (aF λD8 k8 _=>aA λa0 hK=>?_)];have tk:=lV (ys:=cF (dcs ds) ++[V.ref L]) al;have c4:aj Hn (upd H6 v (.lst (cF (dcs ds) ++[V.ref L]))):=aj.set (s3.trans bb) as;have c5:upd H6 v (.lst (cF (dcs ds) ++[V.ref L])) v=some (.lst (cF (dcs (ds++[(L,%[y,d,l,r|m])])))):=by
     rw[ae];unfold cF dcs;rw[Zd,Zd];rfl
    have c7:upd H6 v (.lst (cF (dcs ds) ++[V.ref L])) L3=some (.lst (ys.map λp=>V.ref p.1)):=by rw[ao (Ne.symm b2)];exact bb _ _ G
    have ca:upd H6 v (.lst (cF (dcs ds) ++[V.ref L])) th=some (.lst ((there d).map V.int)):=by rw[ao d2];exact s6 _ _ dV
    have da:ce (upd H6 v (.lst (cF (dcs ds) ++[V.ref L]))) (dcs (ds++[(L,%[y,d,l,r|m])])):=by
     rw[show dcs (ds++[(L,%[y,d,l,r|m])])=dcs ds++[(L,y,drawn d l r)] by unfold dcs;rw[Zd];rfl];exact((b4.up bb).snoc %[g6,b6|bl.cut]).keep tk
    have dd:dv (upd H6 v (.lst (cF (dcs ds) ++[V.ref L]))) ys:=(a5.up bb).keep tk
    generalize upd H6 v (.lst (cF (dcs ds) ++[V.ref L]))=H7 at c4 c5 c7 ca da dd
    have ac:ys.length<=8*i:=by
     have e:=congrArg List.length Y;rw[Z6,List.length_flatMap]at e;have:=qX (f:=λp:Addr×Drn=>(fW p.2).length) (B:=8) (xs:=ds) λp _=>by
      unfold fW;rw[Z6];exact kC _
     lia
    lk;refine .inl %[%[_|SqL.of ca]|hK _ _ (bL (xs:=(there d).map V.int) (λj M g=>∃o8,M=[!a,!LN,some (.bl u),!v,!L3,some (.int i),some (.int r),some (.bl m),some (.str (nl.join (drawn d l r))),!th,o8,none,none]/\aj Hn g/\g v=some (.lst (cF (dcs (ds++[(L,%[y,d,l,r|m])]))))/\g th=some (.lst ((there d).map V.int))/\ce g (dcs (ds++[(L,%[y,d,l,r|m])]))/\
     ∃zs:List (Addr×Str×Int),g L3=some (.lst ((ys++zs).map λp=>V.ref p.1))/\dv g (ys++zs)/\zs.map (·.2)=((there d).take j).map λa=>(dc y (sg a r),a))
     %[_,rfl,c4,c5,ca,da,[],by rw[Zz];exact c7,by rw[Zz];exact dd|rfl] (λj M g _ ⟨_,_,_,_,q,_⟩=>SqL.of q) ?_ ?_)]
    .intro j x M H8 hx %[o8,rfl,s8,a2,bm,cb,zs,ag,cd|a3];have hj:j<(there d).length:=by have:=(Xn hx).1;rwa[Z6]at this
     rw[Zl,Z4 hj]at hx;obtain rfl:x=V.int (there d)[j]:=(Za hx).symm;have de:=ef.mp (Yd hj);show jv _ _ [!a,!LN,some (.bl u),!v,!L3,some (.int i),some (.int r),some (.bl m),some (.str (nl.join (drawn d l r))),!th,some (.int (there d)[j]),none,none] H8;refine aF λD9 k9 _=>?_
     lk;have ew:=nS b6;have ea:∀a b:Str,(a++b).length=a.length+b.length:=λa b=>size_append
     have e1:(Str.ofString ".").length=1:=rfl;have zl:zs.length<=j:=by
      have:=congrArg List.length a3;rw[Z6,Z6,Yn]at this
      lia
     have tl:=kC d;refine%[.inl %[_|SqL.of ag],_,SqL.of (s8 _ _ b1),_,bf,_,rfl,bM ⋯,_,_,rfl,b7,_,rfl,bM (by rw[ea,show(sgn (sg (there d)[j] r)).length=1 from rfl];lia),#[2]|λp hp=>?_];rw[yU];have s9:=aj.upd (o:= .tup [V.str (dc y (sg (there d)[j] r)),V.int (there d)[j]]) hp;have g9:upd H8 p (.tup [V.str (dc y (sg (there d)[j] r)),V.int (there d)[j]]) p=_:=ae
     generalize upd H8 p (.tup [V.str (dc y (sg (there d)[j] r)),V.int (there d)[j]])=H9 at s9 g9
     have dk:=s9 _ _ ag;have dn:=lV (ys:=(ys++zs).map (λp=>V.ref p.1) ++[V.ref p]) dk;refine%[_,dk,by rw[Z6,Z9];exact aJ ⋯|k9 _ _ %[_,rfl,aj.set (s8.trans s9) (s1.free a4),by rw[ao b2];exact s9 _ _ a2,by rw[ao th3];exact s9 _ _ bm,(cb.up s9).keep dn,zs++[(p,dc y (sg (there d)[j] r),(there d)[j])],?_,?_|?_]]
     .rw[ae,<-Ze,Zd (l₂:=[(p,dc y (sg (there d)[j] r),(there d)[j])])];rfl
     .rw[<-Ze];exact((cd.up s9).snoc %[g9,de.1|de.2.1]).keep dn
     .rw[Zd,a3,Xc,Z4 hj,Zd];rfl
    .intro M H8 %[o8,rfl,s8,a2,bm,cb,zs,ag,cd|a3];rw[Z6,Zn (Zi _)]at a3;refine k8 _ _ %[_,_,_,_,_,_,rfl,s8,ds++[(L,%[y,d,l,r|m])],ys++zs,by rw[Z9,b3];rfl,a2,ag,cd,?_,cb,λp hp=>?_|?_]
     .rw[Zd,Y,a3,flatMap_append]
      congr 1
      rw[List.flatMap_singleton];rfl
     .rcases Xo hp with z|z
      .exact a6 p z
      .rw[Xp z];exact bl
     .rw[Zd,b5,Xc,ct];rfl
   lk;exact bJ (λ_=>%[_,keep _ O,_,g0,c0,rfl,%[by decide|by decide],by decide|a1 _]) λ_=>a1 _
  .intro M H3 %[o3,o4,o5,o6,o7,o8,rfl,s3,ds,ys,b3,C,G,a5,Y,b4,a6|b5];refine k3 _ _ (ap λD4 k4 _=>?_);lk;refine%[_,keep _ s3,_,g0,c0,rfl,%[by decide|by decide],by decide|k4 _ _ (ap λD5 k5 _=>?_)];have m0:0<=c0/12%31:=by lia
   have d4:c0/12%31<=30:=by lia
   generalize c0/12%31=bt at m0 d4
   have d7:1<=ds.length:=by lia
   have eb:ds.length<=4:=by lia
   have ac:ys.length<=32/\1<=ys.length:=by
    have e:=congrArg List.length Y;rw[Z6,List.length_flatMap]at e;have:=qX (f:=λp:Addr×Drn=>(fW p.2).length) (B:=8) (xs:=ds) λp _=>by
     unfold fW;rw[Z6];exact kC _
    refine%[⋯|Nat.pos_of_ne_zero λz=>?_];have ec:ys=[]:=length_eq_zero_iff.mp z;rw[ec]at Y;have dp:0<ds.length:=by lia
    have hq:=a6 ds[0] (Yd dp);have ed:=Bi hq.2.1 hq.2.2.2.1 hq.2.2.2.2.2;have%[a'|eg]:=List.exists_mem_of_ne_nil _ ed;have:(dc ds[0].2.name (sg a' ds[0].2.sh),a')∈ds.flatMap λp=>fW p.2:=mem_flatMap.mpr %[ds[0],Yd dp|Xr %[a',eg|rfl]]
    rw[<-Y]at this;cases this
   have I:(ys.map λp=>p.2.1)=ds.flatMap λp=>(fW p.2).map (·.1):=by
    have e:=congrArg (List.map (·.1)) Y;rw[Yt,List.map_flatMap]at e;exact e
   refine aL λa0 hK=>?_
   lk;refine%[⋯,⋯|hK _ _ λL2 aa=>?_];have eh:L2≠v:=λe=>by rw[e,C]at aa;cases aa
   have eH:L2≠L3:=λe=>by rw[e,G]at aa;cases aa
   have ej:=aj.upd (o:= .lst []) aa;refine bC (J:=Itr 0 bt.toNat) (n:=bt.toNat) (D:=L2) (λi zs M g=>(∃o,M=[o,!L3,some (.bl u),!a])/\aj H3 g/\g L2=some (.lst zs)/\∃qs:ZN,zs=(qs.map λq=>V.ref q.1)/\qs.length=i/\cO g (ys.map λp=>p.2.1) qs)
    %[%[none|rfl],ej,ae,[],rfl,rfl|λq hq=>(nomatch hq)] (λi _ _ g hi _=>hi) (λ_ _ g _=>Zi _) ?_ ?_
   .intro i zs M H4 ek %[%[o|rfl],O,ah,qs,rfl,dr|bc] x e0 %[e2|e3];subst e2 e3;have%[x1,el,en|e4]:=get (26+2*(i:Int)) ⋯ ⋯;have%[x2,eo,ep|e5]:=get (27+2*(i:Int)) ⋯ ⋯;lk;refine%[.inl %[by decide|by decide],_,keep _ (s3.trans O),_,el,.inl %[by decide|by decide],_,keep _ (s3.trans O),_,eo|?_];refine%[x1,x2,L3,u,ys,rfl,O _ _ G,a5.up O,ac.2,⋯,en,ep|λt H5 eq U f5 h5 er=>?_];have al:=U _ _ ah;have dt:=lV (ys:=qs.map (λq=>V.ref q.1) ++[V.ref t]) al;refine CK.mk ek al (by rw[Z6];exact aJ ⋯) %[%[_|rfl],aj.set (O.trans U) aa,ae,qs++[(t,eq)],by rw[Zd];rfl,by rw[Z9,dr];rfl|λq hq=>?_];rcases Xo hq with z|z
    .exact(((bc.up U).keep dt) q z)
    .rw[Xp z];exact%[dt _ _ h5|er]
   .intro zs M H4 %[_,O,ah,qs,rfl,dr|bc];refine k5 _ _ ?_;lk;refine aL λa0 hK=>?_
    lk;have ai:=O _ _ G;refine .inl %[%[_|SqL.of ai]|hK _ _ λN hN=>?_];refine bC (J:=Itl K L3) (n:=ys.length) (D:=N) (λj ts M g=>(∃o1 o2,M=[o1,o2])/\aj H4 g/\g N=some (.lst ts)/\ts=((ys.take j).map λp=>p.2.1).map V.str)
     %[%[none,none|rfl],aj.upd hN,ae|rfl]
     (λj _ _ g hj ch=>%[_,V.ref ys[j].1,SqL.of (ch.2.1 _ _ ai)|by simp[hj]]) (λ_ _ g ch=>%[_,SqL.of (ch.2.1 _ _ ai)|by simp]) ?_ ?_
    .intro j ts M H5 hj %[%[o1,o2|rfl],U,es|ht] x H6 %[e2|hx];subst e2;have dx:=hx _ (SqL.of (U _ _ ai));rw[Zl,Z4 hj]at dx;obtain rfl:x=V.ref ys[j].1:=(Za dx).symm;have et:=(a5 ys[j] (Yd hj)).1;refine%[_,SqT.of (U _ _ (O _ _ et)),rfl,_,_,rfl,_,_,rfl,rfl|?_];show zU [some (.str ys[j].2.1),some (.int ys[j].2.2)] _ _;lk;refine CK.mk hj es (by rw[ht,Z6,Z6,Yn];exact aJ ⋯) %[%[_,_|rfl],aj.set U hN,ae|?_];rw[ht,Xc,Zd,Zd,Z4 hj];rfl
    intro ts M H5 %[_,U,eu|ht];rw[Zn (Zi _),I]at ht;refine%[#[3]|λt dy=>?_];have st:=aj.upd (o:= .tup [V.ref v,V.ref L2,V.ref N]) dy;have dA:=s3.trans (O.trans (U.trans st));rw[I]at bc;have b0:=O _ _ C;refine kk t v L2 N _ ds qs (sn.trans dA) (sn.free ((s3.trans (O.trans U)).free dy)) (sn.free as) (sn.free (s3.free aa)) (sn.free ((s3.trans O).free hN)) (Ne.symm eh) (λe=>by rw[<-e,b0]at hN;cases hN) (λe=>by rw[<-e,ah]at hN;cases hN) ae (st _ _ (U _ _ b0)) (st _ _ (U _ _ ah)) (by rw[st _ _ eu,ht]) d7 eb a6 ?_ (b4.up (O.trans (U.trans st))) (bc.up (U.trans st)) ⋯ (by rw[<-I,Z6];exact%[ac.2|ac.1]);rw[b5];exact an.2.1.sublist (take_sublist _ _)
noncomputable def NmD(a:ZB)(f:Str->Str):List (Key×V):=a.map λz=>(Sum.inr z,V.str (f z))
theorem nV:∀{a:ZB},z∈a->cw (NmD a f) (Sum.inr z)=some (.str (f z))
 |[],h=>(nomatch h)
 | x::a,h=>by
   by_cases e:x=z
   .subst e;exact eC rfl
   .rw[show NmD _ f=(Sum.inr x,V.str _)::NmD a f from rfl,cX (λq=>e (Sum.inr.inj q))];exact nV (by rcases mem_cons.mp h with q|q;exact(e q.symm).elim;exact q)
theorem Bx:((NmD b f).any λa=>decide (a.1=(Sum.inr z:Key)))=true↔z∈b:=by
 rw[any_eq_true]
 constructor
 .rintro⟨a,c,d⟩;have%[x,e|rfl]:=Xq c
  simp_all
 .intro h;exact%[_,Xr %[z,h|rfl]|Zf rfl]
theorem By(h:z∈a):dH (NmD a f) (Sum.inr z) (.str v)=NmD a (λx=>if x=z then v else f x):=by
 unfold dH;rw[if_pos (Bx.mpr h)];unfold NmD;rw[Yt];refine Yr λx _=>?_
 show(if(Sum.inr x)=Sum.inr z then((Sum.inr x),V.str v)else(Sum.inr x,V.str _))=(Sum.inr x,V.str (if x=z then v else f x))
 by_cases e:x=z
 .rw[if_pos (congrArg _ e),if_pos e]
 .rw[if_neg (λq=>e (Sum.inr.inj q)),if_neg e]
theorem FH(h:z∉a):dH (NmD a id) (Sum.inr z) (.str z)=NmD (a++[z]) id:=by
 unfold dH;rw[if_neg (λq=>h (Bx.mp q))];unfold NmD;rw[Zd];rfl
noncomputable def Bz(a:ZB)(z:Str):Nat:=fO (a.map λu=>[u]) [z]
theorem BA(b:x∈a)(h:a8 x y=true):Bz a x<Bz a y:=by
 have:=jO (ks:=a.map λu=>[u]) (y:=[y]) (Xr %[x,b|rfl]);rw[ng,h]at this;exact Zo this.symm
def bn(qs:ZN)(a b:Str):Prop:=∃q∈qs,q.2=[.str "same",.str a,.str b]
theorem iM{S R:Str->Str->Prop}(F:bE c f r S)(h:∀a b,S a b↔R a b):bE c f r R:=by
 rw[funext λa=>funext λb=>(propext (h a b)).symm];exact F
inductive BB (vs:ZM) (H:Hp) (Q:VK) (E0:XK):Prop
 | mk (d) (z) (ls) (f) (r) (S) (z0:vs=[.ref d,.str z]) (z1:H d=some (.dK (NmD ls f))) (z2:bE ls f r S) (z3:z∈ls) (z4:Q (.str (r z)) H):BB vs H Q E0
inductive xg (vs:ZM) (H:Hp) (Q:VK) (E0:XK):Prop
 | mk (d) (a) (b) (ls) (f) (r) (S) (z0:vs=[.ref d,.str a,.str b]) (z1:H d=some (.dK (NmD ls f))) (z2:bE ls f r S) (z3:a∈ls) (z4:b∈ls) (z5:ls.length<=5000) (z6:∀f' r',bE ls f' r' (λx y=>S x y\/(x=a/\y=b))->Q .non (upd H d (.dK (NmD ls f')))):xg vs H Q E0
theorem eQ(T:Txt K mg):↥1 "least_pointed_to" ["names","layer"] BB:=by
 refine T.aC.cal dN (λH vs Q E h=>?_)
 .have%[d,z,e,p,r,S,rfl,q,F,t|j]:=h;refine%[rfl|λf o A outer s i=>?_];refine%[_,%["JD~TKqr011EI1r01EH1",dN.nd|i]|ap λu k1 _=>⟨λm l g=>∃y,l=[some _,-y]/\g=H/\y∈e/\r y=r z/\m=Bz e y,%[_,z,rfl,rfl,t,rfl|rfl],?_⟩]
  intro m l g %[y,rfl,rfl,a,b|rfl];lk;have g1:=by
   have:=dR.k (k:=Sum.inr y) q;rw[nV a]at this;exact this
  refine%[_,g1,rfl|bJ (λh=>?_) λh=>?_]
  .have h:=by simpa using h
   refine%[λc n=>c=[some _,some _]/\n=g,?_,_,g1,rfl|rfl];intro c n %[rfl|rfl];exact%[_,BA (F.fin y a) (F.dec y a h),p y,rfl,rfl,F.fin y a,(F.rf y a).trans b|rfl]
  .refine k1 _ _ ?_;rw[<-b,F.fix y a (by simpa using h)]at j;exact j
theorem lP(T:Txt K mg):↥2 "join_deposits" ["names","one","other"] xg:=by
 refine T.aB.cal dm (λH vs Q E h=>?_)
 .have%[d,a,b,c,p,r,S,rfl,g,F,i,j,n|o]:=h;refine%[rfl|λf m A outer s e=>?_];refine%[_,%["JDI3G~'A0A1BDI4G~'A0A2BE,~X]aA3A4B0~W]bA3A4B",dm.nd|e]|?_]
  show bo _ _ _ [!d,-a,-b,none,none] H;refine ap λt k1 _=>?_
  lk;refine%[d,a,c,p,r,S,rfl,g,F,i|k1 _ _ (ap λu k2 _=>?_)];lk;refine%[d,b,c,p,r,S,rfl,g,F,j|k2 _ _ (aF λv q _=>?_)];lk;have J:=F.join i j rfl rfl;have l:(if a8 (r a) (r b)=true then r b else r a)∈c:=by
   split
   .exact F.rin b j
   .exact F.rin a i
  generalize (if a8 (r a) (r b)=true then r b else r a)=M at J l
  refine%[_,lG.k (k:=Sum.inr M) g (by unfold NmD;rw[Z6,PySem.sizeLine_eq];lia)|q _ _ ?_];rw[By l];exact o _ _ J
theorem wb{qs:ZN}{q:Addr×ZM}(c:qs[i]? =some q)(a b:Str):bn (qs.take (i+1)) a b↔bn (qs.take i) a b\/q.2=[.str "same",.str a,.str b]:=by
 unfold bn;rw[Xc,c]
 simp_all
theorem gM{c:ZB}(d:c.Pairwise (λa b=>a8 b a=false)){i:Nat}{z w:Str}(f:c[i]? =some z)(hw:w∈c)(h:a8 w z=true):w∈c.take i:=by
 rw[<-Xd i c]at hw;rcases Xo hw with e|e
 .exact e
 .have%[hi|g]:=Xn f;have%[j,l|rfl]:=Ye e;rw[List.getElem_drop]at h;rw[Yj]at l;by_cases m:j=0
  .subst m;rw[<-g]at h;simp only[add_zero]at h;rw[e7]at h;cases h
  .have:=List.pairwise_iff_getElem.mp d i (i+j) hi ⋯ ⋯
   grind
inductive uC (mg:ZC) (vs:ZM) (H:Hp) (Q:VK) (E0:XK):Prop
 | mk (g) (c2) (c3) (c4) (qs) (ls) (ts) (z0:vs=[.ref g]) (z1:GrF mg H g c2 c3 c4 qs ls ts) (z2:ls.Nodup) (z3:ls.Pairwise (λa b=>a8 b a=false)) (z4:ls.length<=5000) (z5:∀d H' r,aj H H'->H d=none->H' d=some (.dK (NmD ls r))->(∀z∈ls,r z∈ls/\cE (bn qs) z (r z))->Q (.ref d) H'):uC mg vs H Q E0
theorem nW{H:Hp}{g b c d:Addr}{qs:List _}{e:ZB}{ts:List _}{m:Str}{R:Prop}(h:GrF mg H g b c d qs e ts)(f:m="layers"\/m="sayings"\/m="ties")(k:R):∃a fs,H g=some (.ins (aD mg "Ground") a fs)/\List.lookup m fs=none/\R:=by
 have%[a,j|i]:=h.at_;exact⟨a,_,i,by rcases f with rfl|rfl|rfl<;> rfl,k⟩
theorem fX(T:Txt K mg):↥3 "names_by_layer" ["ground"] (uC mg):=by
 refine T.aA.cal bg (λH vs Q E h=>?_)
 .have%[g,c2,c3,c4,qs,j,ts,rfl,hg,nd,so,al|kk]:=h;refine%[rfl|λf an A outer s J=>?_];have lm:(j.map V.str).length=j.length:=Z6 _;have qm:(qs.map λq=>V.ref q.1).length=qs.length:=Z6 _;refine%[_,%["JDI1:DST~I~d0L2E,212DST~I]c0cML3ML4ML5dENKX3bEYG]dA1A4A5BODST~I~d0L2E,r1r1212EH1",bg.nd|J]|?_]
  show bo _ _ _ [!g,none,none,none,none,none] H;refine ap λD1 k1 _=>?_
  lk;intro d hd;refine k1 _ _ (ap λD2 k2 _=>aA λL hK=>?_);have s1:=aj.upd (o:= .dK []) hd;have Y:upd H d (.dK []) d=some (.dK (NmD (j.take 0) id)):=ae
  generalize upd H d (.dK [])=H1 at s1 Y
  lk;have aa:=hg.up s1;refine nW aa (.inl rfl) %[g,c2,c3,c4,qs,j,ts,rfl,aa|λl1 N=> .inl %[l1,rfl,%[_|SqL.of ae]|hK _ _ ?_]];have s2:=aj.upd (o:= .lst (j.map V.str)) N;have ab:upd H1 l1 (.lst (j.map V.str)) l1=_:=ae;have n1:l1≠d:=λe=>by rw[e,Y]at N;cases N
  have Y:=s2 _ _ Y
  generalize upd H1 l1 (.lst (j.map V.str))=H2 at s2 ab Y
  refine bL (xs:=j.map V.str) (λi n l=>(∃p t u v,n=[!g,!d,p,t,u,v])/\aj H l/\l l1=some (.lst (j.map V.str))/\l d=some (.dK (NmD (j.take i) id)))
   %[%[_,_,_,_|rfl],s1.trans s2,ab|Y] (λi n l _ h=>SqL.of h.2.2.1) ?_ ?_
  .intro i x n l M %[%[p,t,u,v|rfl],m,I|c];rw[Zl]at M;have%[z,B|rfl]:=map_eq_some_iff.mp M;show pA _ _ _ _ [!g,!d,-z,t,u,v] l;refine aF λD3 k3 _=>?_
   lk;have zn:z∉j.take i:=λhm=>by
    have h:=nd;rw[<-Xd i j,X3]at h;exact h.2.2 z hm z (Z8 (i:=0) ((Yb)▸B)) rfl
   refine%[_,lG.k (k:=Sum.inr z) c (by unfold NmD;rw[Z6,Yn,PySem.sizeLine_eq];lia)|k3 _ _ %[%[_,_,_,_|rfl],aj.set m hd,(ao n1).trans I|?_]];rw[ae,FH zn,Xc,B];rfl
  intro n H3 %[%[p,t,u,v|rfl],m,I|c];rw[lm,Zn (Zi _)]at c;refine k2 _ _ (ap λD4 k4 _=>aA λL hK=>?_);lk;have ac:=hg.up m;refine nW ac (.inr (.inl rfl)) %[g,c2,c3,c4,qs,j,ts,rfl,ac|λl2 O=> .inl %[l2,rfl,%[_|SqL.of ae]|hK _ _ ?_]];have s4:=aj.upd (o:= .lst (qs.map λq=>V.ref q.1)) O;have ag:upd H3 l2 (.lst (qs.map λq=>V.ref q.1)) l2=_:=ae;have n2:l2≠d:=λe=>by rw[e,c]at O;cases O
  have c:=s4 _ _ c;have ah:=m.trans s4
  generalize upd H3 l2 (.lst (qs.map λq=>V.ref q.1))=H4 at s4 ag c ah
  refine bL (xs:=qs.map λq=>V.ref q.1) (λi n l=>(∃p t u v,n=[!g,!d,p,t,u,v])/\aj H l/\l l2=some (.lst (qs.map λq=>V.ref q.1))/\∃f r,l d=some (.dK (NmD j f))/\bE j f r (bn (qs.take i)))
   %[%[_,_,_,_|rfl],ah,ag,id,id,c|iM (bE.start j) λa b=>%[λh=>h.elim|λ⟨q,hq,_⟩=>(nomatch hq)]] (λi n l _ h=>SqL.of h.2.2.1) ?_ ?_
  .intro i x n l M %[%[p,t,u,v|rfl],m,I,f,r,c|F];rw[Zl]at M;have%[q,hq|rfl]:=map_eq_some_iff.mp M;have%[q1|q2]:=hg.sa q (Z8 hq);have st:=m _ _ q1;have C:=wb hq;rcases q2 with⟨wd,a,b,e,hw,ha,hb,_⟩|⟨wd,a,y,e,hw,_⟩
   .rw[e]at st C;refine%[_,SqT.of st,rfl,_,_,rfl,_,_,rfl,_,_,rfl,rfl|?_];show l9 _ _ _ _ [!g,!d,p,-wd,-a,-b] l;refine aF λD5 k5 _=>?_
    lk;refine bJ (λh=>?_) λh=>?_
    .have h:wd=Str.ofString "same":=by simpa using h
     refine%[d,a,b,j,f,r,_,rfl,c,F,ha,hb,al|λf' r' F'=>k5 _ _ %[%[_,_,_,_|rfl],aj.set m hd,(ao n2).trans I,f',r',ae|iM F' λx y=>?_]];rw[C,h];refine or_congr Iff.rfl %[λ⟨e1,e2⟩=>by rw[e1,e2]|λe=>?_];simp only[List.cons.injEq,V.str.injEq,and_true,true_and]at e;exact%[e.1.symm|e.2.symm]
    .have h:wd≠Str.ofString "same":=by simpa using h
     refine k5 _ _ %[%[_,_,_,_|rfl],m,I,f,r,c|iM F λx y=>?_];rw[C];refine%[.inl|λe=>e.resolve_right λe=>h ?_];simp only[List.cons.injEq,V.str.injEq]at e;exact e.1
   .rw[e]at st C;refine%[_,SqT.of st,rfl,_,_,rfl,_,_,rfl,_,_,rfl,rfl|?_];show l9 _ _ _ _ [!g,!d,p,-wd,-a,some (.int y)] l;refine aF λD5 k5 _=>?_
    lk;rw[if_neg (by rcases hw with rfl|rfl<;> decide)];refine k5 _ _ %[%[_,_,_,_|rfl],m,I,f,r,c|iM F λx z=>?_];rw[C];refine%[.inl|λe=>e.resolve_right λe=>?_];simp at e
  intro n H5 %[%[p,t,u,v|rfl],m,I,f,r,c|F];rw[qm,Zn (Zi _)]at F;refine k4 _ _ (ap λD6 k6 _=>aA λL hK=>?_);lk;have ai:=hg.up m;refine nW ai (.inl rfl) %[g,c2,c3,c4,qs,j,ts,rfl,ai|λl3 U=> .inl %[l3,rfl,%[_|SqL.of ae]|hK _ _ ?_]];have s6:=aj.upd (o:= .lst (j.map V.str)) U;have n3:l3≠d:=λe=>by rw[e,c]at U;cases U
  have c:=s6 _ _ c;refine bL (xs:=j.map V.str) (λi n l=>(∃p t u v,n=[!g,!d,p,t,u,v])/\aj H l/\l l3=some (.lst (j.map V.str))/\∃f,l d=some (.dK (NmD j f))/\bE j f r (bn qs)/\∀z∈j.take i,f z=r z)
   %[%[_,_,_,_|rfl],(m.trans s6),ae,f,c,F|λz B=>(nomatch B)] (λi n l _ h=>SqL.of h.2.2.1) ?_ ?_
  .intro i x n l M %[%[p,t,u,v|rfl],m,I,f,c,F|G];rw[Zl]at M;have%[z,B|rfl]:=map_eq_some_iff.mp M;have zm:=Z8 B;show pA _ _ _ _ [!g,!d,-z,t,u,v] l;refine aF λD7 k7 _=>?_
   lk;have get:=λy hy=>by
    have:=dR.k (k:=Sum.inr y) c;rw[nV hy]at this;exact this
   refine%[_,get z zm,_,get _ (F.fin z zm),_,lG.k (k:=Sum.inr z) c (by unfold NmD;rw[Z6,PySem.sizeLine_eq];lia)|k7 _ _ %[%[_,_,_,_|rfl],aj.set m hd,(ao n3).trans I,_,?_,F.short zm|λy hy=>?_]]
   .rw[ae,By zm]
   .rw[Xc,B]at hy;by_cases e:y=z
    .rw[if_pos e,e];exact F.done zm λw hw h=>G w (gM so B hw h)
    .rw[if_neg e];rcases Xo hy with h|h
     .exact G y h
     .exact(e (Xp h)).elim
  intro n H7 %[%[p,t,u,v|rfl],m,I,f,c,F|G];rw[lm,Zn (Zi _)]at G;refine k6 _ _ ?_;lk;refine kk d H7 r m hd ?_ λz B=>%[F.rin z B|F.least B]
  rw[c];unfold NmD;rw[Yr λz B=>by rw[G z B]]
theorem GR{X:Cx}{K:ZA}{T id:String}(h:X.K=K)(m:PlainAttrs T)(slot:Slot T name id)(i:typeOf (.builtin id)=pure (.type "method_descriptor"))(n:MtQ X id r)
 (b:attributeBase o name X.env (eval o X.env)=eval o X.env) (a:(e::g).any aW=false) (j:Nat.blt (e::g).length 30=true) (c:(d.endLine==f.line)=true) (p:QE X o q) (s:QA X (e::g) t):
 QE X (.Call (.Attribute o name d) (e::g) [] f) (tBM K T r q t):=by
 have l:=a;rw[Zy,X9]at l;refine⟨Ac h m slot i n.h p.h s.h b ?_ c (az l.1) (cY l.2)⟩;rw[qP a];have:decide ((e::g).length+([]:List Keyword).length+(if([]:List Keyword).isEmpty then 0 else 1)<30)=true:=Zf ((Nat.blt_eq.mp j));rw[this];rfl
noncomputable def grp(r:Str->Str)(xs:ZB):List (Str×ZB):=(xs.filter λz=>decide (r z=z)).map λz=>(z,xs.filter λx=>decide (r x=z))
theorem yV(h:∀z∈xs,r z=b z):grp r xs=grp b xs:=by
 unfold grp;rw[List.filter_congr λz a=>by rw[h z a]];refine Yr λz a=>?_
 rw[List.filter_congr λx c=>by rw[h x c]]
theorem De(a:r z=z)(b:z∉xs)(c:∀x∈xs,r x∈xs):grp r (xs++[z])=grp r xs++[(z,[z])]:=by
 unfold grp;rw[Y3,Zd];refine congr (congrArg _ (Yr λw hw=>?_)) ?_
 .have:w≠z:=λe=>b (e▸(List.mem_filter.mp hw).1)
  rw[Y3,Y4 (by rw[a];simpa using this.symm),Y7,Zz]
 .rw[Y6 (by rw[a];simp),Y7];show [(z,_)]=_;rw[Y3,Y6 (by rw[a];simp),Y7,List.filter_eq_nil_iff.mpr λx d=>?_]
  .rfl
  .intro e;exact b ((Zo e)▸c x d)
theorem Df(a:r z≠z):grp r (xs++[z])=(grp r xs).map λp=>if p.1=r z then(p.1,p.2++[z])else p:=by
 unfold grp;rw[Y3,Y4 (by simpa using a),Y7,Zz,Yt];refine Yr λw hw=>?_
 show(w,_)=if w=r z then(w,_)else(w,_)
 rw[Y3];by_cases e:w=r z
 .rw[if_pos e,Y6 (by simpa using e.symm),Y7]
 .rw[if_neg e,Y4 (by simpa using λq=>e q.symm),Y7,Zz]
theorem iN:y∈(grp r xs).map (·.1)↔y∈xs/\r y=y:=by
 unfold grp
 simp_all
theorem kO(h:xs.Nodup):((grp r xs).map (·.1)).Nodup:=by
 unfold grp;rw[Yt,show((λx=>x.1) ∘ λz=>(z,List.filter _ xs))=id from rfl,map_id];exact h.filter _
def xh(S:Str->Str->Prop)(a:ZB)(ds:List ZB):Prop:=∃r:Str->Str,(∀z∈a,r z∈a/\cE S z (r z))/\ds=(grp r a).map (·.2)
theorem xh.one{S:Str->Str->Prop}(h:xh S b ds)(g:xh S b c):ds=c:=by
 have%[r,d|rfl]:=h;have%[e,g1|rfl]:=g;rw[yV λz a=>(d z a).2.one (g1 z a).2]
noncomputable abbrev Gs(a:Type):=List (Str×Addr×List a)
noncomputable def gD{a:Type}(b:Gs a):List (Key×V):=b.map λg=>(Sum.inr g.1,V.ref g.2.1)
theorem xi:∀{a:Gs b},y∉a.map (·.1)->cw (gD a) (Sum.inr y)=none
 |[],_=>rfl
 | g::a,h=>by
   rw[Ys,Yx,not_or]at h;rw[show gD _=(Sum.inr g.1,V.ref _)::gD a from rfl,cX (λq=>h.1 (Sum.inr.inj q).symm)];exact xi h.2
theorem gN:∀{a:Gs d},cw (gD a) (Sum.inr y)=some v->∃g∈a,g.1=y/\v= .ref g.2.1
 |[],h=>(nomatch h)
 | g::a,h=>by
   rw[show gD _=(Sum.inr g.1,V.ref _)::gD a from rfl]at h;by_cases e:g.1=y
   .rw[eC (congrArg Sum.inr e)]at h;exact%[g,Zm,e|(Za h).symm]
   .rw[cX (λq=>e (Sum.inr.inj q))]at h;have%[g',b|c]:=gN h;exact%[g',Zk _ b|c]
theorem kP:∀{a:Gs b},g∈a->cw (gD a) (Sum.inr g.1)≠none
 | x::a,h,c=>by
   rw[show gD _=(Sum.inr x.1,V.ref _)::gD a from rfl]at c;by_cases e:x.1=g.1
   .rw[eC (congrArg Sum.inr e)]at c;cases c
   .rw[cX (λq=>e (Sum.inr.inj q))]at c;rcases mem_cons.mp h with q|q
    .exact e (by rw[q])
    .exact kP q c
def lW(H:Hp)(a:ZG):Prop:=∀g∈a,H g.1=some (.lst (g.2.map V.str))
theorem lW.up{H a:Hp}{b:List _}(h:lW H b)(s:aj H a):lW a b:=λg c=>s _ _ (h g c)
structure iD {α:Type} (f:α->V) (H0 H:Hp) (d:Addr) (gs:Gs α):Prop where
 at_:H d=some (.dK (gD gs))
 la:∀g∈gs,H0 g.2.1=none/\H g.2.1=some (.lst (g.2.2.map f))
 nd:(gs.map (·.2.1)).Nodup
theorem Dg{f:Type}{c:Gs f}(d:(c.map (·.1)).Nodup){g h:Str×Addr×List f}(i:g∈c)(j:h∈c)(e:g.1=h.1):g=h:=by
 induction c with
 | nil=>cases i
 | cons x xs l=>
   rw[Ys,nodup_cons]at d;rcases mem_cons.mp i with a|a<;> rcases mem_cons.mp j with b|b
   .rw[a,b]
   .exact(d.1 (by rw[<-a,e];exact Xr %[_,b|rfl])).elim
   .exact(d.1 (by rw[<-b,<-e];exact Xr %[_,a|rfl])).elim
   .exact l d.2 a b
theorem BC{f:Type}{c:Gs f}(d:(c.map (·.2.1)).Nodup){g h:Str×Addr×List f}(i:g∈c)(j:h∈c)(e:g.2.1=h.2.1):g=h:=by
 induction c with
 | nil=>cases i
 | cons x xs l=>
   rw[Ys,nodup_cons]at d;rcases mem_cons.mp i with a|a<;> rcases mem_cons.mp j with b|b
   .rw[a,b]
   .exact(d.1 (by rw[<-a,e];exact Xr %[_,b|rfl])).elim
   .exact(d.1 (by rw[<-b,<-e];exact Xr %[_,a|rfl])).elim
   .exact l d.2 a b
noncomputable def oS{a:Type}(y:Str)(z:a)(b:Gs a):Gs a:=b.map λg=>if g.1=y then(g.1,g.2.1,g.2.2++[z])else g
theorem FI(y:Str)(z:b)(a:Gs b):gD (oS y z a)=gD a:=by
 unfold oS gD;rw[Yt];refine Yr λg _=>?_
 show(Sum.inr (if g.1=y then(g.1,g.2.1,g.2.2++[z])else g).1,V.ref (if g.1=y then(g.1,g.2.1,g.2.2++[z])else g).2.1)=_
 split<;> rfl
theorem FJ(y:Str)(z:b)(a:Gs b):(oS y z a).map (·.2.1)=a.map (·.2.1):=by
 unfold oS;rw[Yt];refine Yr λg _=>?_
 show(if g.1=y then(g.1,g.2.1,g.2.2++[z])else g).2.1=_
 split<;> rfl
theorem FK(y:Str)(z:b)(a:Gs b):(oS y z a).map (λg=>(g.1,g.2.2))=(a.map λg=>(g.1,g.2.2)).map λp=>if p.1=y then(p.1,p.2++[z])else p:=by
 unfold oS;rw[Yt,Yt];refine Yr λg _=>?_
 show((if g.1=y then(g.1,g.2.1,g.2.2++[z])else g).1,(if g.1=y then(g.1,g.2.1,g.2.2++[z])else g).2.2)=if g.1=y then(g.1,g.2.2++[z])else(g.1,g.2.2)
 split<;> rfl
theorem iD.up{a:Type}{f:a->V}{b H c:Hp}{d:Addr}{e:Gs a}(h:iD f b H d e)(s:aj H c):iD f b c d e:=%[s _ _ h.at_,λg i=>%[(h.la g i).1|s _ _ (h.la g i).2]|h.nd]
theorem iD.add{a:Type}{f:a->V}{l H:Hp}{d:Addr}{b:Gs a}(h:iD f l H d b)(m:(b.map (·.1)).Nodup){g:Str×Addr×List a}(c:g∈b)(z:a):iD f l (upd H g.2.1 (.lst (g.2.2.map f++[f z]))) d (oS g.1 z b):=by
 refine%[?_,λg' j=>?_|by rw[FJ];exact h.nd]
 .rw[FI,ao (λe=>by have:=(h.la g c).2;rw[<-e,h.at_]at this;cases this)];exact h.at_
 .have%[n,i|rfl]:=Xq j;by_cases e:n.1=g.1
  .rw[if_pos e];obtain rfl:=Dg m i c e;refine%[(h.la _ c).1|?_];rw[ae,Zd];rfl
  .rw[if_neg e];refine%[(h.la _ i).1|?_];rw[ao (λq=>e (by rw[BC h.nd i c q]))];exact(h.la _ i).2
theorem iD.new{l:Gs n}(h:iD f m H d l)(s:aj m H)(j:H e=none)(y:Str)(z:n)(o:y∉l.map (·.1)):iD f m (upd (upd (upd H e (.lst [])) d (.dK (dH (gD l) (Sum.inr y) (.ref e)))) e (.lst [f z])) d (l++[(y,e,[z])]):=by
 refine%[?_,λg i=>?_|?_]
 .rw[ao (λq=>by rw[<-q,h.at_]at j;cases j),ae,jy _ (xi o)];unfold gD;rw[Zd];rfl
 .rcases Xo i with i|i
  .refine%[(h.la g i).1|?_];have q:=(h.la g i).2;rw[ao (λc=>by rw[c,j]at q;cases q),ao (λc=>by rw[c,h.at_]at q;cases q),ao (λc=>by rw[c,j]at q;cases q)];exact q
  .rw[Xp i];exact%[s.free j|ae]
 .rw[Zd,X3];refine%[h.nd,by simp|λa p b r c=>?_];have%[g,i|rfl]:=Xq p;have q:=(h.la g i).2
  simp_all
inductive xj (mg:ZC) (vs:ZM) (H:Hp) (Q:VK) (E0:XK):Prop
 | mk (g) (c2) (c3) (c4) (qs) (ls) (ts) (z0:vs=[.ref g]) (z1:GrF mg H g c2 c3 c4 qs ls ts) (z2:ls.Nodup) (z3:ls.Pairwise (λa b=>a8 b a=false)) (z4:ls.length<=5000) (z5:∀l H' ss,aj H H'->H l=none->H' l=some (.lst (ss.map λt=>V.ref t.1))->lW H' ss->(∀s∈ss,H s.1=none)->xh (bn qs) ls (ss.map (·.2))->ss.length<=5000->Q (.ref l) H'):xj mg vs H Q E0
inductive FL (mg:ZC) (vs:ZM) (H:Hp) (Q:VK) (E0:XK):Prop
 | mk (g) (c2) (c3) (c4) (qs) (ls) (ts) (z) (z0:vs=[.ref g,.str z]) (z1:GrF mg H g c2 c3 c4 qs ls ts) (z2:ls.Nodup) (z3:ls.Pairwise (λa b=>a8 b a=false)) (z4:ls.length<=5000) (z5:z∈ls) (z6:∀H' m,aj H H'->cE (bn qs) z m->Q (.str m) H'):FL mg vs H Q E0
theorem wc(T:Txt K mg):↥4 "deposits" ["ground"] (xj mg):=by
 refine T.aD.cal e9 (λH vs Q E h=>?_)
 .have%[g,c2,c3,c4,qs,n,ts,rfl,hg,nd,so,ai|kk]:=h;refine%[rfl|λf a5 A outer s C=>?_];have lm:(n.map V.str).length=n.length:=Z6 _;refine%[_,%["JDI1G~(A0BDI2:DST~I~d0L3EY~)i~*~+2Ar13AVBBA3BEH|]eA]f]g2B",e9.nd|C]|?_]
  show bo _ _ _ [!g,none,none,none] H;refine ap λD1 k1 _=>?_
  lk;refine%[g,c2,c3,c4,qs,n,ts,rfl,hg,nd,so,ai|λd H1 r s1 fd I C=>k1 _ _ (ap λD2 k2 _=>?_)];lk;intro e fe;refine k2 _ _ (ap λD3 k3 _=>aA λa4 hK=>?_);have al:d≠e:=λc=>by rw[c,fe]at I;cases I
  have s2:=aj.upd (o:= .dK []) fe;have ge:upd H1 e (.dK []) e=some (.dK (gD ([]:Gs Str))):=ae;have I:=s2 _ _ I;have fe:=s1.free fe;have U:=s1.trans s2
  generalize upd H1 e (.dK [])=H2 at s2 ge I U
  lk;have aa:=hg.up U;refine nW aa (.inl rfl) %[g,c2,c3,c4,qs,n,ts,rfl,aa|λl1 an=> .inl %[l1,rfl,%[_|SqL.of ae]|hK _ _ ?_]];have s3:=aj.upd (o:= .lst (n.map V.str)) an;have J:upd H2 l1 (.lst (n.map V.str)) l1=_:=ae;have I:=s3 _ _ I;have ge:=s3 _ _ ge;have ab:=U.trans s3
  generalize upd H2 l1 (.lst (n.map V.str))=H3 at s3 J I ge ab
  have r2:∀z∈n,r (r z)=r z:=λz L=>by
   have h:=(C z L)
   have h2:=(C _ h.1).2;exact h2.one %[.refl _|λy c=>h.2.2 y (h.2.1.trans c)]
  have ac:∀z∈n,r z≠z->a8 (r z) z=true:=λz L h=>dj ((C z L).2.2 z (.refl _)) h.symm
  obtain⟨M,as,a0,a1,Y,s0⟩:∃M:Hp,M e=none/\M d=some (.dK (NmD n r))/\M l1=some (.lst (n.map V.str))/\aj H M/\aj M H3:=by
   refine%[λa=>if a=e then none else H3 a,if_pos rfl,?_,?_,λa o h=>?_|λa o h=>?_]
   .exact(if_neg (λc=>al c)).trans I
   .exact(if_neg (λc=>by rw[c,ge]at J;cases J)).trans J
   .exact(if_neg (λc=>by rw[c,fe]at h;cases h)).trans (ab _ _ h)
   .have h:(if a=e then none else H3 a)=some o:=h
    split at h
    .cases h
    .exact h
  refine bL (xs:=n.map V.str) (λi σ H'=>(∃o3,σ=[!g,!d,!e,o3])/\aj M H'/\∃u,iD V.str M H' e u/\u.map (λg=>(g.1,g.2.2))=grp r (n.take i))
   %[%[_|rfl],s0,[],%[ge,λg hg=>(nomatch hg)|X6]|rfl] (λi σ H' _ h=>SqL.of (h.2.1 _ _ a1)) ?_ ?_
  .intro i x σ H' hx %[%[o3|rfl],N,u,b|t];rw[Zl]at hx;have%[z,L|rfl]:=map_eq_some_iff.mp hx;have zm:=Z8 L;have i1:i<n.length:=(Xn L).1;show jv _ _ [!g,!d,!e,-z] H';refine aF λD4 k4 _=>?_
   lk;have get:=dR.k (k:=Sum.inr z) (N _ _ a0);rw[nV zm]at get;have gk:u.map (·.1)=(grp r (n.take i)).map (·.1):=by rw[<-t,Yt];rfl
   have ag:(u.map (·.1)).Nodup:=by rw[gk];exact kO (nd.sublist (take_sublist _ _))
   have gl:u.length<=n.length:=by
    have:=STab.nodup_sub ag (m:=n) λy hy=>by rw[gk,iN]at hy;exact Yz hy.1
    rw[Z6]at this;exact this
   have zn:z∉n.take i:=λhm=>by
    have h:=nd;rw[<-Xd i n,X3]at h;exact h.2.2 z hm z (Z8 (i:=0) (by rw[Yb];exact L)) rfl
   have tk:n.take (i+1)=n.take i++[z]:=by rw[Xc,L];rfl
   refine%[.inr (.inr (.inl (.inl %[_|b.at_]))),_,get,#[0]|λp O=>%[Sum.inr (r z),rfl,gD u,?_,?_,λv hv=>?_|λhv=>?_]]
   .rw[ao (λc=>by rw[<-c,b.at_]at O;cases O)];exact b.at_
   .unfold gD;rw[Z6];exact aJ ⋯
   .have%[q,B,e1|rfl]:=gN hv;have a2:q.1∈u.map (·.1):=Xr %[q,B|rfl];have ah:=a2;rw[gk,iN,e1]at ah;have rn:r z≠z:=λc=>zn (by exact c▸ah.1)
    have sp:=aj.upd (o:= .lst []) O;have hl:=sp _ _ (b.la q B).2;have G:=(b.up sp).add ag B z;have ml:q.2.2.length<=n.length:=by
     have:(q.1,q.2.2)∈grp r (n.take i):=t▸Xr %[q,B|rfl];have%[y,hy|c]:=Xq this;exact((Prod.mk.inj c).2)▸Yi (Yk _ _) (by rw[Yn];lia)
    refine%[.inl %[_|SqL.of hl],_,rfl,_,hl,by rw[Z6];exact aJ ⋯|k4 _ _ %[%[_|rfl],aj.set (N.trans sp) (b.la q B).1,_,G|?_]];rw[FK,t,tk,Df rn,e1]
   .have nk:r z∉u.map (·.1):=λh=>by
     have%[q,B|c]:=Xq h;have:=kP B;rw[c,hv]at this;exact this rfl
    have rz:r z=z:=Decidable.byContradiction λc=>nk (by rw[gk,iN];exact%[gM so L (C z zm).1 (ac z zm c)|r2 z zm])
    have de:e≠p:=λq=>by rw[<-q,b.at_]at O;cases O
    rw[rz]at hv nk ⊢;have gp:upd (upd H' p (.lst [])) e (.dK (dH (gD u) (Sum.inr z) (.ref p))) p=some (.lst []):=by rw[ao de.symm,ae]
    refine%[.inl %[_|SqL.of gp],[],gp,(show 0<sizeLine by decide)|k4 _ _ %[%[_|rfl],aj.set (aj.set (N.trans (aj.upd O)) as) (N.free O),_,b.new N O z z nk|?_]];rw[Zd,t,tk,De rz zn λx hx=>?_]
    .rfl
    .have%[j|hj]:=List.mem_iff_getElem?.mp hx;have xm:=Yz hx;by_cases c:r x=x
     .rw[c];exact hx
     .have ji:j<i:=by have:=(Xn hj).1;rw[Yn]at this;lia
      rw[getElem?_take_of_lt ji]at hj;exact List.take_subset_take_left _ (Yg ji) (gM so hj (C x xm).1 (ac x xm c))
  intro σ H' %[%[o3|rfl],N,u,b|t];rw[lm,Zn (Zi _)]at t;refine k3 _ _ ?_;lk;have gk:u.map (·.1)=(grp r n).map (·.1):=by rw[<-t,Yt];rfl
  have gl:u.length<=n.length:=by
   have:=STab.nodup_sub (l:=u.map (·.1)) (gk▸kO nd) (m:=n) λy hy=>by rw[gk,iN]at hy;exact hy.1
   rw[Z6]at this;exact this
  refine%[.inr (.inr (.inl (.inl %[_|b.at_]))),%[_|b.at_]|λv fv=>%[e,ae,_,aj.upd fv _ _ b.at_|λl fl=>?_]];have sv:=aj.upd (o:=tW v e) fv;have sl:=aj.upd (o:= .lst ((gD u).map (·.2))) fl;have a3:=N.trans (sv.trans sl);refine kk l _ (u.map (·.2)) (Y.trans a3) ((Y.trans (N.trans sv)).free fl) ?_ (λs hs=>?_) (λs hs=>?_) %[r,C|?_] (by rw[Z6];lia)
  .rw[ae];unfold gD;rw[Yt,Yt];rfl
  .have%[q,B|rfl]:=Xq hs;exact sl _ _ (sv _ _ (b.la q B).2)
  .have%[q,B|rfl]:=Xq hs;exact Y.free (b.la q B).1
  .rw[<-t,Yt,Yt];rfl
structure bG (S:Str->Str->Prop) (ks0 ks:List _):Prop where
 nd:ks.Nodup
 so:ks.Pairwise (λa b=>db b a=false)
 mem:∀k,k∈ks↔∃a b z a' b',[a,b,z]∈ks0/\cE S a a'/\cE S b b'/\k=[a',b',z]
theorem bG.one{S:Str->Str->Prop}(h:bG S c ks)(g:bG S c d):ks=d:=
 jj db (λ_ _ a b=>kA a b) h.so g.so h.nd g.nd λx=>(h.mem x).trans (g.mem x).symm
noncomputable def we(r:Str->Str):ZB->ZB
 |[a,b,z]=>[r a,r b,z]
 | k=>k
theorem wg{S:Str->Str->Prop}{c:List _}{l:ZB}{r:Str->Str}(m:∀k∈c,dP l k)(f:∀z∈l,cE S z (r z))(k:ZB):k∈c.map (we r)↔∃a b z g h,[a,b,z]∈c/\cE S a g/\cE S b h/\k=[g,h,z]:=by
 rw[mem_map]
 constructor
 .rintro⟨t,d,rfl⟩;have%[a,b,z,rfl,i|j]:=m t d;exact%[a,b,z,r a,r b,d,f a i,f b j|rfl]
 .rintro⟨a,b,z,g,h,d,n,o,rfl⟩;have%[x,y,u,e,i|j]:=m _ d;simp only[List.cons.injEq,and_true]at e;have%[rfl,rfl|rfl]:=e;exact%[_,d|by rw[<-(f a i).one n,<-(f b j).one o];rfl]
inductive nZ (mg:ZC) (vs:ZM) (H:Hp) (Q:VK) (E0:XK):Prop
 | mk (g) (c2) (c3) (c4) (qs) (ls) (ts) (z0:vs=[.ref g]) (z1:GrF mg H g c2 c3 c4 qs ls ts) (z2:ls.Nodup) (z3:ls.Pairwise (λa b=>a8 b a=false)) (z4:ls.length<=5000) (z5:ts.length<=150) (z6:(∀k∈ts.map (·.2),dP ls k)) (z7:∀l H' ss,aj H H'->H l=none->H' l=some (.lst (ss.map λt=>V.ref t.1))->aE H' ss->bG (bn qs) (ts.map (·.2)) (ss.map (·.2))->ss.length<=150->Q (.ref l) H'):nZ mg vs H Q E0
theorem lZ(T:Txt K mg):↥4 "links" ["ground"] (nZ mg):=by
 refine T.aF.cal ug (λH vs Q E h=>?_)
 .have%[g,c2,c3,c4,qs,ls,ts,rfl,hg,nd,so,aa,a1,h3|kk]:=h;refine%[rfl|λf a0 A outer s v=>?_];refine%[_,%["JD>1mnG~(A0BEH/~yA~B~zAog?1T~I]h0cMW0?2MW1?2MW2?2duvArQ30ArQ31A2BBB",ug.nd,(show bV (ak rS) ["ground","names"] _ ["later","earlier","source","names"] [(3,1)]=true from by decide +kernel),(show(["later","earlier","source","names"]:ZB).Nodup from by decide +kernel)|v]|?_]
  show bo _ _ _ [!g,none] H;refine ap λD1 k1 _=>?_
  lk;refine%[g,c2,c3,c4,qs,ls,ts,rfl,hg,nd,so,aa|λd H1 r s1 fd hd v=>k1 _ _ ?_];lk;refine aL λas hK=>?_
  lk;have B:=hg.up s1;refine nW B (.inr (.inr rfl)) %[g,c2,c3,c4,qs,ls,ts,rfl,B|λL ab=> .inl %[L,rfl,%[_|SqL.of ae]|hK _ _ λF hF=>?_]];have s2:=aj.upd (o:= .lst (ts.map λt=>V.ref t.1)) ab;have u:upd H1 L (.lst (ts.map λt=>V.ref t.1)) L=_:=ae
  generalize upd H1 L (.lst (ts.map λt=>V.ref t.1))=H2 at s2 u hF
  have ac:=s2 _ _ hd;have ag:=(B.up s2).tu;refine bC (J:=Itl K L) (n:=ts.length) (D:=F) (λj vs σ M=>(∃o1 o2 o3,σ=[o1,o2,o3,!d])/\aj H2 M/\M F=some (.lst vs)/\∃ps:ZG,vs=ps.map (λp=>V.ref p.1)/\aE M ps/\ps.map (·.2)=((ts.take j).map (·.2)).map (we r))
   %[%[none,none,none|rfl],aj.upd hF,ae,[],rfl,iC _|rfl] (λj _ _ M G C=>%[_,V.ref ts[j].1,SqL.of (C.2.1 _ _ u)|by simp[G]]) (λ_ _ M C=>%[_,SqL.of (C.2.1 _ _ u)|by simp]) ?_ ?_
  .intro j vs σ H3 G %[%[o1,o2,o3|rfl],I,N,ps,hv,i|c] x H4 %[e2|hx];subst e2;have O:=hx _ (SqL.of (I _ _ u));rw[Zl,Z4 G]at O;obtain rfl:x=V.ref ts[j].1:=(Za O).symm;have tj:=Yd G;have%[a,b,z,e,ha|hb]:=h3 _ (Xr %[_,tj|rfl]);have st:=I _ _ (ag _ tj).2;rw[e]at st;have get:∀y∈ls,dR H4 d (.str y) (some (.str (r y))):=λy hy=>by
    have:=dR.k (k:=Sum.inr y) (I _ _ ac);rw[nV hy]at this;exact this
   refine%[_,SqT.of st,rfl,_,_,rfl,_,_,rfl,_,_,rfl,rfl|?_];show zU [-a,-b,-z,!d] _ _;lk;refine%[_,get a ha,_,get b hb,#[3]|λp hp=>?_];have sp:=aj.upd (o:= .tup [V.str (r a),V.str (r b),V.str z]) hp;have gp:upd H4 p (.tup [V.str (r a),V.str (r b),V.str z]) p=_:=ae;have pl:=congrArg List.length c;rw[Z6,Z6,Z6,Yn]at pl;refine CK.mk G (sp _ _ N) (by rw[hv,Z6];exact aJ ⋯) %[%[_,_,_|rfl],aj.set (I.trans sp) hF,ae,ps++[(p,[r a,r b,z])],by rw[hv,Zd];rfl,aU (iL (aU i λb z e=>sp _ _ e) ∅ gp) (lV (ys:=vs++[V.ref p]) (sp _ _ N))|?_];rw[Zd,c,Xc,Z4 G,Zd,Zd];show _++[_]=_++[we r ts[j].2];rw[e];rfl
  intro vs σ H3 %[_,I,ah,ps,hv,i|c];rw[Zn (Zi _)]at c;have pl:=congrArg List.length c;rw[Z6,Z6,Z6]at pl;have p3:∀q∈ps,q.2.length=3:=λq l=>by
   have:q.2∈ps.map (·.2):=Xr %[q,l|rfl];rw[c]at this;have%[k,hk|e]:=Xq this;have%[a,b,z,rfl|_]:=h3 k hk;rw[<-e];rfl
  refine%[F,rfl,ps,hv▸SqL.of ah,i,%[ps.map (·.2),by rw[Z6];lia|λq l=>Xr %[q,l|rfl]]|λl5 ai=>?_];have s5:=aj.upd (o:=m9 P w l5 (ba ps)) ai;have al:(ba ps).length<=150:=by
   have:=STab.nodup_sub (dw ps) (m:=ps.map (·.2)) λk hk=>by
    have%[q,l|rfl]:=Xq hk;exact Xr %[q,bj ps q l|rfl]
   rw[Z6,Z6]at this
   lia
  refine%[ba ps,ae,λq l=>%[(i q (bj ps q l)).1|s5 _ _ (i q (bj ps q l)).2],3,λq l=>p3 q (bj ps q l),by decide,⋯|λl6 ss U pm an=>?_];have s6:=aj.upd (o:= .lst (ss.map λq=>V.ref q.1)) U;have Y:=s1.trans (s2.trans (I.trans s5));have pk:(ss.map (·.2)).Perm ((ba ps).map (·.2)):=pm.map _;refine kk l6 _ ss (Y.trans s6) (Y.free U) ae (λq l=>?_) %[pk.nodup_iff.mpr (dw ps),by rw[Xa];exact an|λk=>?_] (pm.length_eq▸al)
  .have:=i q (bj ps q (pm.mem_iff.mp l));exact%[this.1|s6 _ _ (s5 _ _ this.2)]
  .rw[pk.mem_iff,gA,c];exact wg h3 (λz hz=>(v z hz).2) k
theorem BD{S:Str->Str->Prop}(d:c.Pairwise (λa b=>a8 b a=false))(h:∀z∈c,r z∈c/\cE S z (r z))(i:p∈grp r c):p.2[0]? =some p.1:=by
 have%[z,j|rfl]:=Xq i;have%[l|m]:=List.mem_filter.mp j;have f:z∈c.filter (λx=>decide (r x=z)):=List.mem_filter.mpr %[l|m];have d:=d.sublist (List.filter_sublist (p:=λx=>decide (r x=z)));have all:∀x∈c.filter (λx=>decide (r x=z)),a8 x z=false:=λx n=>by
  have%[o|s]:=List.mem_filter.mp n;exact(Zo s)▸(h x o).2.2 x (.refl _)
 show(c.filter _)[0]? =some z
 generalize c.filter _=g at all f d
 cases g with
 | nil=>cases f
 | cons y g=>
   rw[List.getElem?_cons_zero];rcases mem_cons.mp f with e|e
   .rw[e]
   .have a:=(List.pairwise_cons.mp d).1 z e;by_cases q:y=z
    .rw[q]
    .have:=dj (all y Zm) q
     grind
structure BE (S:Str->Str->Prop) (ls ns:ZB):Prop where
 nd:ns.Nodup
 mem:∀x,x∈ns↔x∈ls/\cE S x x
 so:ns.Pairwise (λa b=>a8 b a=false)
 ne:ls≠[]->ns≠[]
theorem FM{S:Str->Str->Prop}{a:ZB}{r:Str->Str}(c:∀z∈a,r z∈a/\cE S z (r z))(h:a≠[]):(grp r a).map (·.1)≠[]:=by
 have%[z|f]:=List.exists_mem_of_ne_nil _ h;have%[e|b]:=c z f;have g:cE S (r z) (r z):=%[b.1.symm.trans b.1|λy d=>b.2 y (b.1.trans d)]
 exact List.ne_nil_of_mem (iN.mpr %[e|(c _ e).2.one g])
theorem FN{r:Str->Str}{xs:ZB}(h:xs.Pairwise (λa b=>a8 b a=false)):((grp r xs).map (·.1)).Pairwise (λa b=>a8 b a=false):=by
 unfold grp;rw[Yt];show List.Pairwise _ (List.map (λz=>z) _);rw[List.map_id'];exact h.filter _
inductive qo (mg:ZC) (vs:ZM) (H:Hp) (Q:VK) (E0:XK):Prop
 | mk (g) (c2) (c3) (c4) (qs) (ls) (ts) (z0:vs=[.ref g]) (z1:GrF mg H g c2 c3 c4 qs ls ts) (z2:ls.Nodup) (z3:ls.Pairwise (λa b=>a8 b a=false)) (z4:ls.length<=5000) (z5:∀l H' ns,aj H H'->H l=none->H' l=some (.lst (ns.map V.str))->BE (bn qs) ls ns->Q (.ref l) H'):qo mg vs H Q E0
theorem bS(T:Txt K mg):↥5 "deposit_names" ["ground"] (qo mg):=by
 refine T.aE.cal kE (λH vs Q E h=>?_)
 .have%[g,G,I,L,qs,c,ts,rfl,hg,nd,q,t|kk]:=h;refine%[rfl|λf aa A outer s b=>?_];refine%[_,%["JEHog?1TG]iA0BW0?2uP0C",0,(show bV (ak dJ) ["ground"] _ ["group"] []=true from by decide +kernel),(show(["group"]:ZB).Nodup from by simp)|b]|?_];show jw _ _ [!g] H;lk;refine aL λM hK=>?_
  lk;refine%[g,G,I,L,qs,c,ts,rfl,hg,nd,q,t|λN H1 ss O f1 o la _ ⟨r,b,U⟩ ab=> .inl %[N,rfl,%[_|SqL.of o]|hK _ _ λF u=>?_]];have sg:ss.length=(grp r c).length:=by
   have:=congrArg List.length U;rwa[Z6,Z6]at this
  refine bC (J:=Itl K N) (n:=ss.length) (D:=F) (λj vs v p=>(∃Y,v=[Y])/\aj H1 p/\p F=some (.lst vs)/\vs=(((grp r c).take j).map (·.1)).map V.str)
   %[%[none|rfl],aj.upd u,ae|rfl] (λj _ _ p d a=>%[_,V.ref ss[j].1,SqL.of (a.2.1 _ _ o)|by simp[d]]) (λ_ _ p a=>%[_,SqL.of (a.2.1 _ _ o)|by simp]) ?_ ?_
  .intro j vs v H3 d %[%[Y|rfl],e,y|i] x H4 %[B|hx];subst B;have l:=hx _ (SqL.of (e _ _ o));rw[Zl,Z4 d]at l;obtain rfl:x=V.ref ss[j].1:=(Za l).symm;have C:j<(grp r c).length:=by lia
   have B:ss[j].2=(grp r c)[j].2:=by
    have:=congrArg (λz=>z[j]?) U;simpa [d,C]using this
   lk;refine%[_,SqL.of (e _ _ (la _ (Yd d))),_,(show atI (ss[j].2.map V.str) ((0:Nat):Int)=some _ from cq (by rw[Zl,B,(BD q b (Yd C))];rfl))|?_];refine CK.mk d y (by rw[i,Z6,Z6,Yn];exact aJ ⋯) %[%[_|rfl],aj.set e u,ae|?_];rw[i,Xc,Z4 C,Zd,Zd];rfl
  intro vs v H3 %[_,e,m|i];rw[Zn ⋯]at i;rw[i]at m;refine kk F H3 _ (O.trans e) (O.free u) m %[kO nd,λx=>?_,FN q|FM b];rw[iN];refine%[λh=>%[h.1|by have:=(b x h.1).2;rwa[h.2]at this]|λh=>%[h.1|(b x h.1).2.one h.2]]
def GrB(H:Hp)(d:Addr)(ss:ZG)(i:Nat):Prop:=∃a,H d=some (.dK a)/\∀n,(∃l,cw a (Sum.inr n)=some (.ref l)/\H l=some (.lst ((ss.filter λt=>decide (t.2[i]? =some n)).map λt=>V.ref t.1)))\/(cw a (Sum.inr n)=none/\∀t∈ss,t.2[i]? ≠some n)
theorem GrB.up(h:GrB H d ss i)(s:aj H e):GrB e d ss i:=by
 have%[c,f|g]:=h;exact%[c,s _ _ f|λn=>(g n).imp_left λ⟨l,a,b⟩=>%[l,a|s _ _ b]]
def cS(H:Hp)(a:ZB)(ss:ZG):Prop:=∀t∈ss,H t.1=some (.tup (t.2.map V.str))/\dP a t.2
theorem cS.up(h:cS H b ss)(s:aj H c):cS c b ss:=λt a=>%[s _ _ (h t a).1|(h t a).2]
theorem FO(h:dP c k)(hi:i<2):∃n,k[i]? =some n/\n∈c:=by
 have%[a,b,z,rfl,d|e]:=h
 match i,hi with
 | 0,_=>exact%[a,rfl|d]
 | 1,_=>exact%[b,rfl|e]
inductive n6 (vs:ZM) (H:Hp) (Q:VK) (E0:XK):Prop
 | mk (l:Addr) (i:Nat) (ns:ZB) (ss:List _) (z0:vs=[.ref l,.int i]) (z1:i<2) (z2:H l=some (.lst (ss.map λt=>V.ref t.1))) (z3:cS H ns ss) (z4:ss.length<=150) (z5:∀d H',aj H H'->H d=none->GrB H' d ss i->Q (.ref d) H'):n6 vs H Q E0
inductive BF (i:Nat) (vs:ZM) (H:Hp) (Q:VK) (E0:XK):Prop
 | mk (l) (ns) (ss) (z0:vs=[.ref l]) (z1:H l=some (.lst (ss.map λt=>V.ref t.1))) (z2:cS H ns ss) (z3:ss.length<=150) (z4:∀d H',aj H H'->H d=none->GrB H' d ss i->Q (.ref d) H'):BF i vs H Q E0
theorem qp(T:Txt K mg):↥1 "grouped" ["found","side"] n6:=by
 refine T.aJ.cal jk (λH vs Q E h=>?_)
 .have%[l,i,ns,ss,rfl,hi,Y,aa,ai|kk]:=h;refine%[rfl|λf ah A outer s hr=>?_];have ab:(ss.map λt=>V.ref t.1).length=ss.length:=Z6 _;refine%[_,%["JDI2:DST0L3EY~)i~*~+2AU31AVBBA3BEH2"|jk.nd]|?_]
  show bo _ _ _ [!l,some (.int i),none,none] H;refine ap λD1 k1 _=>?_
  lk;intro e fe;refine k1 _ _ (ap λD2 k2 _=>aA λag hK=>?_);lk;have se:=aj.upd (o:= .dK []) fe;refine .inl %[%[_|SqL.of (se _ _ Y)]|hK _ _ ?_];refine bL (xs:=ss.map λt=>V.ref t.1) (λj σ u=>(∃o3,σ=[!l,some (.int i),!e,o3])/\aj H u/\∃m,iD (λt:Addr×ZB=>V.ref t.1) H u e m/\(m.map (·.1)).Nodup/\(∀g∈m,g.2.2=(ss.take j).filter λt=>decide (t.2[i]? =some g.1))/\∀n,n∈m.map (·.1)↔∃t∈ss.take j,t.2[i]? =some n)
   %[%[_|rfl],se,[],%[ae,λg B=>(nomatch B)|X6],X6,λg B=>(nomatch B)|by simp] (λj σ u _ h=>SqL.of (h.2.1 _ _ Y)) ?_ ?_
  .intro j x σ u hx %[%[o3|rfl],I,m,d,gn,J|O];rw[Zl]at hx;have%[t,L|rfl]:=map_eq_some_iff.mp hx;have tm:=Z8 L;have j1:j<ss.length:=(Xn L).1;have%[n,M|_]:=FO (aa t tm).2 hi;have tk:ss.take (j+1)=ss.take j++[t]:=by rw[Xc,L];rfl
   show jv _ _ [!l,some (.int i),!e,some (.ref t.1)] u;refine aF λD4 k4 _=>?_
   lk;have gl:m.length<=ss.length:=by
    have:m.map (·.1) ⊆ ss.filterMap λt=>t.2[i]? :=λy hy=>by
     have%[t,L|e]:=(O y).mp hy;exact mem_filterMap.mpr %[t,Yz L|e]
    have:=STab.nodup_sub gn λx hx=>this hx
    rw[Z6]at this;exact Yi this (List.length_filterMap_le _ _)
   have st:=I _ _ (aa t tm).1;have C:∀(N:Gs (Addr×ZB)),(∀y,y∈N.map (·.1)↔y∈m.map (·.1)\/y=n)->∀y,y∈N.map (·.1)↔∃t∈ss.take (j+1),t.2[i]? =some y:=λN h y=>by
    rw[h,O,tk]
    constructor
    .rintro(⟨t',h1,h2⟩|rfl)
     .exact%[t',Yv _ h1|h2]
     .exact%[t,Yw _ Zm|M]
    .rintro⟨t',h1,h2⟩;rcases Xo h1 with q|q
     .exact .inl %[t',q|h2]
     .rw[Xp q,M]at h2;exact .inr (Za h2).symm
   refine%[.inr (.inr (.inl (.inl %[_|d.at_]))),_,SqT.of st,_,cq (show(t.2.map V.str)[i]? =some (.str n) by rw[Zl,M];rfl),#[0]|λp G=>%[Sum.inr n,rfl,gD m,?_,?_,λv U=>?_|λU=>?_]]
   .rw[ao (λc=>by rw[<-c,d.at_]at G;cases G)];exact d.at_
   .unfold gD;rw[Z6];exact aJ ⋯
   .have%[q,r,e1|rfl]:=gN U;have sp:=aj.upd (o:= .lst []) G;have Y:=sp _ _ (d.la q r).2;have ml:q.2.2.length<=ss.length:=by
     rw[J q r];exact Yi (Yk _ _) (by rw[Yn];lia)
    have ka:(oS q.1 t m).map (·.1)=m.map (·.1):=by
     unfold oS;rw[Yt];refine Yr λg _=>?_
     show(if g.1=q.1 then(g.1,g.2.1,g.2.2++[t])else g).1=_
     split<;> rfl
    refine%[.inl %[_|SqL.of Y],_,rfl,_,Y,by rw[Z6];exact aJ ⋯|k4 _ _ %[%[_|rfl],aj.set (I.trans sp) (d.la q r).1,_,((d.up sp).add gn r t),ka▸gn,λg B=>?_|C _ λy=>?_]]
    .unfold oS at B;have%[g0,h0|rfl]:=Xq B;rw[tk,Y3];by_cases c:g0.1=q.1
     .rw[if_pos c];show g0.2.2++[t]=_++List.filter (λt=>decide (t.2[i]? =some g0.1)) [t];rw[J g0 h0,Y6 (by rw[M,c,e1];simp),Y7]
     .rw[if_neg c,J g0 h0,Y4 (by rw[M,<-e1];simpa using λz=>c z.symm),Y7,Zz]
    .rw[ka];exact%[.inl|λh=>h.elim id λh=>by rw[h,<-e1];exact Xr %[q,r|rfl]]
   .have nk:n∉m.map (·.1):=λh=>by
     have%[q,r|c]:=Xq h;have:=kP r;rw[c,U]at this;exact this rfl
    have de:e≠p:=λq=>by rw[<-q,d.at_]at G;cases G
    have gp:upd (upd u p (.lst [])) e (.dK (dH (gD m) (Sum.inr n) (.ref p))) p=some (.lst []):=by rw[ao de.symm,ae]
    refine%[.inl %[_|SqL.of gp],[],gp,(show 0<sizeLine by decide)|k4 _ _ %[%[_|rfl],aj.set (aj.set (I.trans (aj.upd G)) fe) (I.free G),_,d.new I G n t nk,?_,λg B=>?_|C _ λy=>?_]]
    .rw[Zd,X3];exact%[gn,by simp|λa ha b hb c=>nk (by rw[<-show b=n from Xp hb,<-c];exact ha)]
    .rw[tk,Y3];rcases Xo B with q|q
     .have c:g.1≠n:=λc=>nk (c▸Xr %[g,q|rfl])
      rw[J g q,Y4 (by rw[M];simpa using λz=>c z.symm),Y7,Zz]
     .rw[Xp q];show [t]=_++List.filter (λt=>decide (t.2[i]? =some n)) [t];rw[Y6 (by rw[M];simp),Y7,List.filter_eq_nil_iff.mpr λt' ac c=>nk ((O n).mpr %[t',ac|Zo c])];rfl
    .rw[Zd,Yu,Ys,map_nil,mem_singleton]
  .intro σ u %[%[o3|rfl],I,m,d,gn,J|O];rw[ab,Zn (Zi _)]at J O;refine k2 _ _ ?_;lk;refine kk e u I fe %[_,d.at_|λn=>?_];cases U:cw (gD m) (Sum.inr n)with
   | none=>
     refine .inr %[rfl|λt L c=>?_];have%[q,r|c]:=Xq ((O n).mpr %[t,L|c]);have:=kP r;rw[c,U]at this;exact this rfl
   | some v=>
     have%[q,r,e1|rfl]:=gN U;refine .inl %[_,rfl|?_];rw[(d.la q r).2,J q r,e1]
theorem fY(T:Txt K mg):↥2 "links_by_later" ["found"] (BF 0):=by
 refine T.aH.cal jT (λH vs Q E h=>?_)
 .have%[l,c,ss,rfl,g,a,b|i]:=h;refine%[rfl|λf d A outer s e=>?_];exact%[_,%["JEHG~,A0A;B",0|e],l,0,c,ss,rfl,by simp,g,a,b|i]
theorem jq(T:Txt K mg):↥2 "links_by_earlier" ["found"] (BF 1):=by
 refine T.aI.cal iQ (λH vs Q E h=>?_)
 .have%[l,c,ss,rfl,g,a,b|i]:=h;refine%[rfl|λf d A outer s e=>?_];exact%[_,%["JEHG~,A0A~UB",0|e],l,1,c,ss,rfl,by simp,g,a,b|i]
structure ReB (ss:ZG) (rs:Gs Str):Prop where
 nd:(rs.map (·.1)).Nodup
 sub:∀r∈rs,r.2∈ss/\r.2.2[1]? =some r.1
theorem ReB.len(h:ReB ss a):a.length<=ss.length:=by
 have:=STab.nodup_sub h.nd (m:=ss.filterMap λt=>t.2[1]?) λx b=>by
  have%[r,c|rfl]:=Xq b;exact mem_filterMap.mpr %[r.2|h.sub r c]
 rw[Z6]at this;exact Yi this (List.length_filterMap_le _ _)
theorem ReB.snoc(h:ReB ss d)(e:(a,[p,y,z])∈ss)(f:y∉d.map (·.1)):ReB ss (d++[(y,a,[p,y,z])]):=by
 refine%[?_|λr g=>?_]
 .rw[Zd,X3];exact%[h.nd,by simp|λa i b j c=>f (by rw[<-show b=y from Xp j,<-c];exact i)]
 .rcases Xo g with q|q
  .exact h.sub r q
  .rw[Xp q];exact%[e|rfl]
def dQ(d:Addr)(H a:Hp):Prop:=∀b o,b≠d->H b=some o->a b=some o
theorem dQ.trans(h:dQ d H c)(g:dQ d c a):dQ d H a:=λb o n e=>g b o n (h b o n e)
theorem dQ.of(h:aj H a):dQ d H a:=λb o _ e=>h b o e
theorem GrB.x(h:GrB H b ss i)(s:dQ d H f)(n:b≠d)(m:H d=some (.dK o)):GrB f b ss i:=by
 have%[e,g|j]:=h;exact%[e,s _ _ n g|λn=>(j n).imp_left λ⟨l,a,b⟩=>%[l,a|s _ _ (λc=>by lia) b]]
theorem cS.x(h:cS H e ss)(s:dQ d H f)(g:H d=some (.dK i)):cS f e ss:=λt a=>%[s _ _ (λc=>by have b:=(h t a).1;grind) (h t a).1|(h t a).2]
theorem GrB.get(h:GrB f b ss i)(s:dQ d f H)(nb:b≠d)(q:∀xs,f d≠some (.lst xs))(r:H p=none)(n:Str):∃e a,upd H p (.lst []) b=some (.dK e)/\(cw e (Sum.inr n)).getD (.ref p)= .ref a/\upd H p (.lst []) a=some (.lst ((ss.filter λt=>decide (t.2[i]? =some n)).map λt=>V.ref t.1))/\(a=p\/∃o,f a=some o):=by
 have%[e,m|u]:=h;have sp:=aj.upd (o:= .lst []) r;rcases u n with⟨l,g,j⟩|⟨g,v⟩
 .exact%[e,l,sp _ _ (s _ _ nb m),by rw[g];rfl,sp _ _ (s _ _ (λc=>q _ (c▸j)) j)|.inr %[_|j]]
 .refine%[e,p,sp _ _ (s _ _ nb m),by rw[g];rfl,?_|.inl rfl];rw[List.filter_eq_nil_iff.mpr λt y c=>v t y (Zo c)];exact ae
inductive xk (vs:ZM) (H:Hp) (Q:VK) (E0:XK):Prop
 | mk (b e d:Addr) (ns F:ZB) (ss:List _) (rs:Gs Str) (z0:vs=[.ref b,.ref e,.ref d]) (z1:b≠d) (z2:GrB H b ss 0) (z3:cS H ns ss) (z4:ss.length<=150) (z5:H e=some (.lst (F.map V.str))) (z6:H d=some (.dK (gD rs))) (z7:ReB ss rs) (z8:∀g H' new,dQ d H H'->H g=none->H' g=some (.lst ((new.map (·.1)).map V.str))->H' d=some (.dK (gD (rs++new)))->ReB ss (rs++new)->(∀r∈new,∃p∈F,r.2.2[0]? =some p)->(∀x∈F,∀y,Ed (ss.map (·.2)) x y->y∈(rs++new).map (·.1))->Q (.ref g) H'):xk vs H Q E0
theorem uD(T:Txt K mg):↥1 "next_edge" ["beneath","edge","reached"] xk:=by
 refine T.aM.cal dW (λH vs Q E h=>?_)
 .have%[b,e,d,ns,F,ss,B,rfl,ah,hb,ai,bl,he,hd,a4|kk]:=h;refine%[rfl|λf bf A outer s hr=>?_];have Fm:(F.map V.str).length=F.length:=Z6 _;have ed:e≠d:=λc=>by rw[c,hd]at he;cases he
  refine%[_,%["JDI3VBDST1L4EST~e~f0A4AVBBL5EN~gU5~U2D,52U5~UEYki3AU5~UBOEH3",dW.nd|hr]|?_]
  show bo _ _ _ [!b,!e,!d,none,none,none] H;refine ap λD1 k1 _=>?_
  lk;refine%[#[0]|λg fg=>k1 _ _ (ap λD2 k2 _=>aA λal hK=>?_)];have gd:g≠d:=λc=>by rw[c,hd]at fg;cases fg
  have s1:=aj.upd (o:= .lst []) fg;have gg:upd H g (.lst []) g=some (.lst ((([]:Gs Str).map (·.1)).map V.str)):=ae
  generalize upd H g (.lst [])=H1 at s1 gg
  lk;refine .inl %[%[_|SqL.of (s1 _ _ he)]|hK _ _ ?_];refine bL (xs:=F.map V.str) (λi σ H'=>(∃o4 o5,σ=[!b,!e,!d,!g,o4,o5])/\dQ d H H'/\∃new:Gs Str,H' g=some (.lst ((new.map (·.1)).map V.str))/\H' d=some (.dK (gD (B++new)))/\ReB ss (B++new)/\(∀r∈new,∃p∈F,r.2.2[0]? =some p)/\∀x∈F.take i,∀y,Ed (ss.map (·.2)) x y->y∈(B++new).map (·.1))
   %[%[_,_|rfl],dQ.of s1,[],gg,by rw[Zz];exact s1 _ _ hd,by rw[Zz];exact a4,λr hr=>(nomatch hr)|λx G=>(nomatch G)] (λi σ H' _ h=>SqL.of (h.2.1 _ _ ed he)) ?_ ?_
  .intro i x σ H' G %[%[o4,o5|rfl],sm,new,hg,l,M,ac|m];rw[Zl]at G;have%[n,hn|rfl]:=map_eq_some_iff.mp G;have tk:F.take (i+1)=F.take i++[n]:=by rw[Xc,hn];rfl
   show zo _ _ _ _ [!b,!e,!d,!g,-n,o5] H';refine aF λD3 k3 _=>aA λal hK=>?_
   lk;refine%[.inr (.inr (.inl (.inl %[_|sm _ _ ah hb.choose_spec.1]))),#[0]|λp hp=>?_];have%[a5,a,an,a6,N|a7]:=hb.get sm ah (λxs c=>by rw[hd]at c;cases c) hp n;have ag:a≠g:=by
    rcases a7 with rfl|⟨o,ho⟩
    .exact λc=>by rw[c,hg]at hp;cases hp
    .exact λc=>by rw[c,fg]at ho;cases ho
   have ad:a≠d:=λc=>by
    have:=N;rw[c,ao (λc=>by rw[c,hp]at l;cases l),l]at this;cases this
   have sp:=aj.upd (o:= .lst []) hp;have hg:=sp _ _ hg;have l:=sp _ _ l;have sm:=sm.trans (dQ.of sp)
   generalize upd H' p (.lst [])=H2 at an N sp hg l sm ⊢
   generalize as:(ss.filter λt=>decide (t.2[0]? =some n))=ts at N
   have tm:(ts.map λt=>V.ref t.1).length=ts.length:=Z6 _;have bb:∀t∈ts,t∈ss/\∃y z,t.2=[n,y,z]:=λt ht=>by
    rw[<-as]at ht;have%[h1|h2]:=List.mem_filter.mp ht;have%[x,y,z,e|_]:=(ai t h1).2;have h2:=Zo h2;rw[e]at h2;exact%[h1,y,z|by rw[e,show x=n from Za h2]]
   refine%[Sum.inr n,rfl,a5,an|.inl %[a,a6,%[_|SqL.of N]|hK _ _ ?_]];refine bL (xs:=ts.map λt=>V.ref t.1) (λj σ Y=>(∃o5,σ=[!b,!e,!d,!g,-n,o5])/\dQ d H Y/\Y a=some (.lst (ts.map λt=>V.ref t.1))/\∃new:Gs Str,Y g=some (.lst ((new.map (·.1)).map V.str))/\Y d=some (.dK (gD (B++new)))/\ReB ss (B++new)/\(∀r∈new,∃p∈F,r.2.2[0]? =some p)/\(∀x∈F.take i,∀y,Ed (ss.map (·.2)) x y->y∈(B++new).map (·.1))/\∀t∈ts.take j,∀y,t.2[1]? =some y->y∈(B++new).map (·.1))
    %[%[_|rfl],sm,N,new,hg,l,M,ac,m|λt ht=>(nomatch ht)] (λj σ Y _ h=>SqL.of h.2.2.1) ?_ ?_
   .intro j x σ Y G %[%[o5|rfl],O,U,new,aa,J,C,I,u|ab];rw[Zl]at G;have%[t,ht|rfl]:=map_eq_some_iff.mp G;have%[a0,y,z|et]:=bb t (Z8 ht);have L:=(ai.x O hd t a0).1;rw[et]at L;have bc:ts.take (j+1)=ts.take j++[t]:=by rw[Xc,ht];rfl
    show l9 _ _ _ _ [!b,!e,!d,!g,-n,some (.ref t.1)] Y;refine aF λD4 k4 _=>?_
    lk;refine%[_,SqT.of L,_,rfl,_,dR.k (k:=Sum.inr y) J|?_];have a1:∀(nw:Gs Str),(∀x∈(B++new).map (·.1),x∈(B++nw).map (·.1))->y∈(B++nw).map (·.1)->(∀x∈F.take i,∀y,Ed (ss.map (·.2)) x y->y∈(B++nw).map (·.1))/\∀t∈ts.take (j+1),∀y,t.2[1]? =some y->y∈(B++nw).map (·.1):=λnw mono hy=>by
     refine%[λx G y h=>mono y (u x G y h)|λt' a2 y' h=>?_];rw[bc]at a2;rcases Xo a2 with q|q
     .exact mono y' (ab t' q y' h)
     .rw[Xp q,et]at h;rw[<-show y=y' from Za h];exact hy
    cases hv:cw (gD (B++new)) (Sum.inr y)with
    | some v=>
      rw[if_neg ∅];have%[q,hq,e1|_]:=gN hv;have%[n1|n2]:=a1 new (λ_ h=>h) (by rw[<-e1];exact Xr %[q,hq|rfl]);exact k4 _ _ %[%[_|rfl],O,U,new,aa,J,C,I,n1|n2]
    | none=>
      rw[if_pos (by rfl)];have hy:y∉(B++new).map (·.1):=λh=>by
       have%[q,hq|c]:=Xq h;have:=kP hq;rw[c,hv]at this;exact this rfl
      have ln:=C.len;have nl:new.length<=150:=by rw[Z9]at ln;lia
      refine%[_,SqT.of L,_,rfl,_,lG.k (k:=Sum.inr y) J (by unfold gD;rw[Z6];exact aJ ⋯)|?_];rw[jy _ hv];have e1:gD (B++new) ++[(Sum.inr y,V.ref t.1)]=gD (B++(new++[(y,t.1,[n,y,z])])):=by
       unfold gD;rw[<-Ze,Zd (l₂:=[_])];rfl
      rw[e1];have u1:∀c o,c≠d->Y c=some o->upd Y d (.dK (gD (B++(new++[(y,t.1,[n,y,z])])))) c=some o:=λc o h e=>(ao h)▸e
      have a3:=u1 _ _ gd aa;have R:=C.snoc (p:=n) (y:=y) (z:=z) (a:=t.1) (et▸a0) hy;rw[Ze]at R;have%[n1|n2]:=a1 (new++[(y,t.1,[n,y,z])]) (λx G=>by rw[<-Ze,Zd];exact Yv _ G) (by rw[<-Ze,Zd];exact Yw _ Zm);refine%[.inl %[_|SqL.of a3],_,SqT.of (u1 _ _ (λc=>by rw[c,J]at L;cases L) L),_,rfl,_,a3,by rw[Z6,Z6];exact aJ ⋯|k4 _ _ %[%[_|rfl],λc o h e=>?_,(ao ag).trans (u1 _ _ ad U),_,?_,(ao gd.symm).trans ae,R,?_,n1|n2]]
      .rw[ao (aw e fg)];exact u1 _ _ h (O _ _ h e)
      .rw[ae,Zd,Zd];rfl
      .intro r hr;rcases Xo hr with q|q
       .exact I r q
       .rw[Xp q];exact%[n,Z8 hn|rfl]
   .intro σ Y %[%[o5|rfl],O,U,new,aa,J,C,I,u|ab];rw[tm,Zn (Zi _)]at ab;refine k3 _ _ %[%[_,_|rfl],O,new,aa,J,C,I|λx G y ⟨z,hy⟩=>?_];rw[tk]at G;rcases Xo G with q|q
    .exact u x q y %[z|hy]
    .rw[Xp q]at hy;have%[t,ht|et]:=Xq hy;exact ab t (as▸List.mem_filter.mpr %[ht|by rw[et];simp]) y (by rw[et];rfl)
  .intro σ H' %[%[o4,o5|rfl],sm,new,hg,l,M,ac|m];rw[Fm,Zn (Zi _)]at m;refine k2 _ _ ?_;lk;exact kk g H' new sm fg hg l M ac m
theorem qq{b:Bool}(h: ¬ (not b)=true):b=true:=by
 cases b
 .exact absurd rfl h
 .rfl
theorem wj{a:Gs Str}{y:Str}(h:y∈a.map (·.1)):∃r∈a,r.1=y/\cw (gD a) (Sum.inr y)=some (.ref r.2.1):=by
 cases d:cw (gD a) _ with
 | none=>
   have%[q,b|c]:=Xq h;have:=kP b;rw[c,d]at this;exact(this rfl).elim
 | some v=>
   have%[q,b,e|rfl]:=gN d;exact%[q,b,e|rfl]
inductive BG (vs:ZM) (H:Hp) (Q:VK) (E0:XK):Prop
 | mk (d) (st) (goal) (ns) (F) (ss) (rs) (dd) (k) (z0:vs=[.ref d,.str st,.str goal]) (z1:H d=some (.dK (gD rs))) (z2:ReB ss rs) (z3:Lev (ss.map (·.2)) st rs dd k F) (z4:k<=200) (z5:cS H ns ss) (z6:goal∈rs.map (·.1)) (z7:∀l H' (ws:List _),aj H H'->H l=none->H' l=some (.lst (ws.map λt=>V.ref t.1))->(∀t∈ws,t∈ss)->Wal (ws.map (·.2)) st goal->ws.length=dd goal->Q (.ref l) H'):BG vs H Q E0
theorem BH(T:Txt K mg):↥1 "way_to" ["reached","start","goal"] BG:=by
 refine T.aN.cal p8 (λH vs Q E h=>?_)
 .have%[d,st,a,ns,F,ss,C,i,k,rfl,hd,G,l,hk,I,n|kk]:=h;refine%[rfl|λf aa A outer s j=>?_];refine%[_,%["JDI3VAr02BD~TKqUP3+C;1EYki3Ar0UP3+C;BEH]j3",p8.nd|j]|?_]
  show bo _ _ _ [!d,-st,-a,none] H;refine ap λD1 k1 _=>?_
  lk;have%[r,J,e1|hv]:=wj n;have get:=dR.k (k:=Sum.inr a) hd;rw[hv]at get;refine%[_,get,#[1]|λb fw=>k1 _ _ (ap λD2 k2 _=>?_)];have s1:=aj.upd (o:= .lst [V.ref r.2.1]) fw;have gw:upd H b (.lst [V.ref r.2.1]) b=some (.lst (([]:ZG).reverse.map (λt=>V.ref t.1) ++[V.ref r.2.1])):=ae
  generalize upd H b (.lst [V.ref r.2.1])=H1 at s1 gw
  refine⟨λm σ u=>σ=[!d,-st,-a,!b]/\aj H u/\∃(us:ZG) (r:Str×Addr×ZB),r∈C/\m=i r.1/\u b=some (.lst (us.reverse.map (λt=>V.ref t.1) ++[.ref r.2.1]))/\(∀t∈us,t∈ss)/\Wal (us.map (·.2)) r.1 a/\us.length+m=i a,%[_,rfl,s1,[],r,J,rfl,gw,λt h=>(nomatch h),e1|by rw[e1];simp],?_⟩;intro m σ H2 %[rfl,v,us,r,j,rfl,hw,y,B|hl];have%[ab,p,z,L|hp]:=l.by_ r j;have e:=(G.sub r j).1;have g:=v _ _ (I _ e).1;rw[L]at g;have gl:=l.le a n;lk;refine%[_,SqL.of hw,_,mj _ _,_,rfl,_,SqT.of g,_,rfl,rfl|bJ (λh=>?_) λh=>?_]
  .have h:p≠st:=by simpa using h
   have%[_,M|ac]:=hp.resolve_left λc=>h c.1
   have%[r',N,O|U]:=wj M;have get:=dR.k (k:=Sum.inr p) (v _ _ hd);rw[U]at get;refine⟨λY u=>∃m',m'<i r.1/\Y=[!d,-st,-a,!b]/\aj H u/\∃(us:ZG) (r:Str×Addr×ZB),r∈C/\m'=i r.1/\u b=some _/\(∀t∈us,t∈ss)/\Wal (us.map (·.2)) r.1 a/\us.length+m'=i a,λ_ _ h=>h,.inl %[_|SqL.of hw],_,SqL.of hw,_,mj _ _,_,rfl,_,SqT.of g,_,rfl,_,get,_,hw,by rw[Z9,Z6,List.length_reverse,Ym];exact aJ ⋯,_,?_,rfl,aj.set v fw,r.2::us,r',N,rfl,?_,?_,?_,?_⟩
   .rw[O];lia
   .rw[ae,List.reverse_cons,Zd];rfl
   .intro t ht;rcases mem_cons.mp ht with q|q
    .exact q▸e
    .exact y t q
   .exact%[r.1,z,L.trans (by rw[O])|B]
   .rw[Zr,O];lia
  .have h:p=st:=by simpa using h
   refine k2 _ _ ?_;lk;refine%[_,hw|λq fq=>kk q _ (r.2::us) (v.trans (aj.upd fq)) (v.free fq) ?_ (λt ht=>?_) %[r.1,z,L.trans (by rw[h])|B] (by rw[Zr];lia)]
   .rw[ae,List.reverse_append,<-List.map_reverse,List.reverse_reverse];rfl
   .rcases mem_cons.mp ht with q|q
    .exact q▸e
    .exact y t q
inductive uE (vs:ZM) (H:Hp) (Q:VK) (E0:XK):Prop
 | mk (b) (st) (goal) (ns) (ss) (z0:vs=[.ref b,.str st,.str goal]) (z1:GrB H b ss 0) (z2:cS H ns ss) (z3:ss.length<=150) (z4:(∀H',aj H H'-> ¬ Rch (ss.map (·.2)) st goal->Q .non H')) (z5:∀l H' (ws:List _),aj H H'->H l=none->H' l=some (.lst (ws.map λt=>V.ref t.1))->(∀t∈ws,t∈ss)->Sho (ss.map (·.2)) st goal (ws.map (·.2))->ws.length<=200->Q (.ref l) H'):uE vs H Q E0
def GS(H:Hp)(b d:Addr)(st c:Str)(ss:ZG)(m:Nat)(g:L2.St)(f:Hp):Prop:=∃e F a h k,g=[!b,-st,-c,!d,!e]/\aj H f/\f e=some (.lst (F.map V.str))/\f d=some (.dK (gD a))/\ReB ss a/\Lev (ss.map (·.2)) st a h k F/\k<=a.length+1/\(F≠[]->k<=a.length)/\m=2*(150-a.length) +F.length.min 1
theorem n8(T:Txt K mg):↥2 "shortest_way" ["beneath","start","goal"] uE:=by
 refine T.aL.cal cK (λH vs Q E h=>?_)
 .have%[b,st,i,ns,ss,rfl,hb,I,ag,kn|ky]:=h;refine%[rfl|λf a1 A outer s G=>?_];refine%[_,%["JDI3:DI4VA1BD~TawK}efA4BC&~g23EI4G]kA0A4A3BDN~g23EH!OEHG]lA3A1A2B",cK.nd|G]|?_]
  show bo _ _ _ [!b,-st,-i,none,none] H;refine ap λD1 k1 _=>?_
  lk;intro d fd;refine k1 _ _ (ap λD2 k2 _=>?_);have ah:b≠d:=λc=>by
   have%[a2,O|_]:=hb;rw[c,fd]at O;cases O
  have s1:=aj.upd (o:= .dK []) fd;have B:upd H d (.dK []) d=some (.dK (gD ([]:Gs Str))):=ae
  generalize upd H d (.dK [])=H1 at s1 B
  lk;refine%[#[1]|λe fe=>k2 _ _ (ap λD3 k3 _=>?_)];have s2:=aj.upd (o:= .lst [V.str st]) fe;have U:upd H1 e (.lst [V.str st]) e=some (.lst ([st].map V.str)):=ae;have B:=s2 _ _ B;have Y:=s1.trans s2
  generalize upd H1 e (.lst [V.str st])=H2 at Y U B
  refine%[GS H b d st i ss,%[_,e,[st],[],_,_,rfl,Y,U,B,%[X6|λ_ h=>(nomatch h)],.nil,by simp,λ_=>Zi _|rfl]|?_];intro m σ H3 %[e,F,C,dd,k,rfl,J,U,B,L,j,hk,ai|rfl];have fm:(F.map V.str).length=F.length:=Z6 _;have get:=dR.k (k:=Sum.inr i) B;have rl:=L.len;have M:i∈C.map (·.1)↔(cw (gD C) (Sum.inr i)).isSome=true:=by
   refine%[λh=>?_|λh=>?_]
   .have%[r,_,_|e]:=wj h;rw[e];rfl
   .have%[v|hv]:=isSome_iff_exists.mp h;have%[q,hq,c|_]:=gN hv;exact c▸Xr %[q,hq|rfl]
  lk;have aa:(i∉C.map (·.1)->F=[])->D3.nx [!b,-st,-i,!d,!e] H3:=λh=>by
   refine k3 _ _ (ap λD4 k4 r4=>?_);lk;refine%[_,get|bJ (λq=>?_) λq=>?_]
   .have q:i∉C.map (·.1):=λc=>by rw[M.mp c]at q;cases q
    refine r4 _ _ (kn H3 J λr=>q ?_);have%[n|hn]:=r.dst;rw[h q]at j;exact j.stop hn
   .have q:i∈C.map (·.1):=M.mpr (qq q);refine k4 _ _ ?_;lk;refine%[d,st,i,ns,F,ss,C,dd,k,rfl,B,L,j,⋯,I.up J,q|λl H' ws s' fl hl ab al wl=>ky l H' ws (J.trans s') (J.free fl) hl ab %[λk hk=>?_,al,?_|λn hn=>?_] (by rw[wl];have:=j.le _ q;lia)]
    .have%[t,ht|rfl]:=Xq hk;exact Xr %[t,ab t ht|rfl]
    .rw[Z6,wl];exact(j.dst q).1
    .rw[Z6,wl];exact j.min q hn
  refine%[_,.inl %[_,SqL.of U|rfl]|bJ (λh=>?_) λh=>aa λ_=>?_]
  .have h:0<F.length:=by
    rw[fm]at h;have:=Zo h
    lia
   refine%[_,get|bJ (λq=>⟨λan H'=>∃m',m'<2*(150-C.length) +F.length.min 1/\GS H b d st i ss m' an H',λ_ _ h=>h,b,e,d,ns,F,ss,C,rfl,ah,hb.up J,I.up J,ag,U,B,L,λg H4 new sx fg hg as u a0 N=>?_⟩) λq=>aa λc=>absurd (M.mpr (qq q)) c];have ln:=u.len;rw[Z9]at ln;have ac:F.length.min 1=1:=Nat.min_eq_right h;have kF:=ai λc=>by rw[c]at h;cases h
   refine%[_,?_,g,new.map (·.1),C++new,_,_,rfl,(λc o ec=>sx c o (λz=>by rw[z,fd]at ec;cases ec) (J _ _ ec)),hg,as,u,j.step u.nd (λr G=>?_) N,?_,λnn=>?_|rfl]
   .rw[ac,Z9,Z6];cases new with
    | nil=>simp
    | cons a r=>
      rw[Zr]at ln ⊢;have:(r.length+1).min 1<=1:=Nat.min_le_right _ _
      lia
   .have%[O|h2]:=u.sub r (Yw _ G);have%[p,hp|h3]:=a0 r G;have%[x,y,z,e|_]:=(I r.2 O).2;rw[e]at h2 h3;exact%[Xr %[_,O|rfl],p,z,hp|by rw[e,show x=p from Za h3,show y=r.1 from Za h2]]
   .rw[Z9];lia
   .cases new with
    | nil=>exact absurd rfl nn
    | cons a r=>rw[Z9,Zr];lia
  .cases F with
   | nil=>rfl
   | cons x F=>exact absurd (Zf (by rw[fm,Zr];lia)) h
noncomputable def VD(a:ZB)(g:Str->V):List (Key×V):=a.map λz=>(Sum.inr z,g z)
theorem kQ:∀{a:ZB},z∈a->cw (VD a g) (Sum.inr z)=some (g z)
 | x::a,h=>by
   by_cases e:x=z
   .subst e;exact eC rfl
   .rw[show VD _ g=(Sum.inr x,g x)::VD a g from rfl,cX (λq=>e (Sum.inr.inj q))];exact kQ ((mem_cons.mp h).resolve_left λq=>e q.symm)
theorem sq:∀{a:ZB},z∉a->cw (VD a g) (Sum.inr z)=none
 |[],_=>rfl
 | x::a,h=>by
   rw[Yx,not_or]at h;rw[show VD _ g=(Sum.inr x,g x)::VD a g from rfl,cX (λq=>h.1 (Sum.inr.inj q).symm)];exact sq h.2
theorem FP(h:z∈a):dH (VD a g) (Sum.inr z) v=VD a (λx=>if x=z then v else g x):=by
 unfold dH;rw[if_pos (by rw[h9,kQ h];rfl)];unfold VD;rw[Yt];refine Yr λx _=>?_
 show(if(Sum.inr x)=Sum.inr z then((Sum.inr x),v)else(Sum.inr x,g x))=(Sum.inr x,if x=z then v else g x)
 by_cases e:x=z
 .rw[if_pos (congrArg _ e),if_pos e]
 .rw[if_neg (λq=>e (Sum.inr.inj q)),if_neg e]
noncomputable def cnt(ss:ZG)(L:ZB)(n:Str):Nat:=ss.countP λt=>decide (t.2[0]? =some n)&&t.2[1]?.all λy=>decide (y∉L)
theorem Dh(ss:List _)(n:Str):cnt ss [] n=(ss.filter λt=>decide (t.2[0]? =some n)).length:=by
 unfold cnt;rw[<-List.countP_eq_length_filter]
 simp_all
theorem BI(h:cnt ss L m=0)(e:Ed (ss.map (·.2)) m y):y∈L:=by
 have%[z|a]:=e;have%[t,b|c]:=Xq a;have:=List.countP_eq_zero.mp h t b
 simp_all
theorem uF(b:m∉L):∀ss:ZG,cnt ss L n=cnt ss (L++[m]) n+(ss.filter λt=>decide (t.2[1]? =some m)).countP λt=>decide (t.2[0]? =some n)
 |[]=>rfl
 | t::ss=>by
   have c:=uF (n:=n) b ss;unfold cnt at c ⊢;rw[countP_cons,countP_cons,c];cases d:t.2[1]? with
   | none=>rw[Y4 ⋯];simp only[Option.all_none];lia
   | some y=>
     by_cases e:y=m
     .subst e;rw[Y6 (by rw[d];simp),countP_cons];by_cases a:t.2[0]? =some n
      .simp[a,b];lia
      .simp[a]
     .rw[Y4 (by rw[d];simpa using e)];by_cases a:t.2[0]? =some n
      .by_cases f:y∈L
       .simp[f]
       .simp[a,f,e];lia
      .simp[a]
def wk(ks:List ZB)(a L:ZB):Prop:=∀(i:Nat) x,L[i]? =some x->∀y∈a,y∉L.take i->(∀z,Ed ks y z->z∈L.take i)->a8 y x=false
theorem FQ{H:Hp}{f L:ZB}{ss:ZG}(c:cS H f ss){y:Str}(h:∀z,Ed (ss.map (·.2)) y z->z∈L):cnt ss L y=0:=by
 refine List.countP_eq_zero.mpr λt d q=>?_
 have%[_,a,b,z,e|_]:=c t d;rw[e]at q;simp only[Zx]at q;have g:a=y:=Za (Zo q.1);exact Zo q.2 (h b %[z|by rw[<-g,<-e];exact Xr %[t,d|rfl]])
structure GT (ss:ZG) (ns L R:ZB):Prop where
 nd:(L++R).Nodup
 mem:∀x,x∈L++R↔x∈ns/\cnt ss L x=0
 ord:∀i x,L[i]? =some x->∀y,Ed (ss.map (·.2)) x y->y∈L.take i
 lst:wk (ss.map (·.2)) ns L
def GU(f:Hp)(l m b a w e ld:Addr)(d:ZB)(ss:ZG)(k:Nat)(g:L2.St)(c:Hp):Prop:=∃h i j L R,g=[!l,!m,!b,!a,!w,h,!e,!ld,i,j]/\aj f c/\c w=some (.dK (VD d λn=> .int (cnt ss L n)))/\c e=some (.lst (R.map V.str))/\c ld=some (.lst (L.map V.str))/\GT ss d L R/\k=d.length-L.length
inductive xn (vs:ZM) (H:Hp) (Q:VK) (E0:XK):Prop
 | mk (l) (m) (ns) (ss) (z0:vs=[.ref l,.ref m]) (z1:H l=some (.lst (ns.map V.str))) (z2:ns.Nodup) (z3:ns.length<=80) (z4:H m=some (.lst (ss.map λt=>V.ref t.1))) (z5:cS H ns ss) (z6:ss.length<=150) (z7:∀r H' (L:ZB),aj H H'->H' r=some (.lst (L.map V.str))->L.Nodup->(∀x∈L,x∈ns)->(∀i x,L[i]? =some x->∀y,Ed (ss.map (·.2)) x y->y∈L.take i)->(∀x∈ns,x∉L->∃y,Ed (ss.map (·.2)) x y/\y∈ns/\y∉L)->wk (ss.map (·.2)) ns L->H r=none->Q (.ref r) H'):xn vs H Q E0
theorem eR(T:Txt K mg):↥3 "laid_in_turn" ["names","found"] xn:=by
 refine T.aK.cal a9 (λH vs Q E h=>?_)
 .have%[l,m,d,ss,rfl,hl,nn,nl,hm,ag,b9|kk]:=h;refine%[rfl|λf ds A outer s hr=>?_];have nm:(d.map V.str).length=d.length:=Z6 _;refine%[_,%["JDI2G~.A1BDI3G]mA1BD>4mn:DST0L5E,efA~e~f2A5AVBBBQ45D~N6nmg?1T0W0?2^KXrQ10C0DI7VBD~TK}efA6BCDI8~X]nA6BDY]o]p6A8BDYki7A8BEST~e~f3A8AVBBL9D,F<rQ4U9;CQ4U9;ENKXrQ4U9;CEYki6AU9;BOEH7",a9.nd,(show bV (ak eN) ["names","found","beneath","above","waits","name","ready","laid","least","link"] _ ["name","waits"] [(1,4)]=true from by decide +kernel),(show(["name","waits"]:ZB).Nodup from by decide +kernel)|hr]|?_]
  show bo _ _ _ [!l,!m,none,none,none,none,none,none,none,none] H;refine ap λD1 k1 _=>?_
  lk;refine%[m,d,ss,rfl,hm,ag,b9|λb H1 s1 fb hb=>k1 _ _ (ap λD2 k2 _=>?_)];lk;refine%[m,d,ss,rfl,s1 _ _ hm,ag.up s1,b9|λa H2 s2 fa ha=>k2 _ _ (ap λD3 k3 _=>?_)];have Y:=s1.trans s2;have hb:=hb.up s2;lk;intro w fw;refine k3 _ _ (ap λD4 k4 _=>aA λbb hK=>?_);have s3:=aj.upd (o:= .dK []) fw;have gw:upd H2 w (.dK []) w=some (.dK (VD (d.take 0) λn=> .int (cnt ss [] n))):=ae
  generalize upd H2 w (.dK [])=H3 at s3 gw
  have c1:=Y.trans s3;lk;refine .inl %[%[_|SqL.of (c1 _ _ hl)]|hK _ _ ?_];have c2:b≠w:=λc=>by
   have%[ah,h1|_]:=hb;rw[c,fw]at h1;cases h1
  have c3:a≠w:=λc=>by
   have%[ah,h1|_]:=ha;rw[c,fw]at h1;cases h1
  have ca:∀xs,H2 w≠some (.lst xs):=λxs c=>by rw[fw]at c;cases c
  refine bL (xs:=d.map V.str) (λi O B=>(∃o5,O=[!l,!m,!b,!a,!w,o5,none,none,none,none])/\aj H2 B/\B w=some (.dK (VD (d.take i) λn=> .int (cnt ss [] n))))
   %[%[_|rfl],s3|gw] (λi O B _ h=>SqL.of (h.2.1 _ _ (Y _ _ hl))) ?_ ?_
  .intro i x O B U %[%[o5|rfl],sm|hw];rw[Zl]at U;have%[n,hn|rfl]:=map_eq_some_iff.mp U;have i1:i<d.length:=(Xn hn).1;show pA _ _ _ _ [!l,!m,!b,!a,!w,-n,none,none,none,none] B;refine aF λD5 k5 _=>?_
   lk;refine%[.inr (.inr (.inl (.inl %[_|sm _ _ hb.choose_spec.1]))),#[0]|λp hp=>?_];have%[ah,al,c4,as,aa|cb]:=hb.get (dQ.of sm) c2 ca hp n;have sp:=aj.upd (o:= .lst []) hp;refine%[Sum.inr n,rfl,ah,c4,_,by rw[as];exact .inl %[_,SqL.of aa|rfl],_,lG.k (k:=Sum.inr n) (sp _ _ hw) (by unfold VD;rw[Z6,Yn];exact aJ ⋯)|k5 _ _ %[%[_|rfl],aj.set (sm.trans sp) fw|?_]];have zn:n∉d.take i:=λhm=>by
    have h:=nn;rw[<-Xd i d,X3]at h;exact h.2.2 n hm n (Z8 (i:=0) (by rw[Yb];exact hn)) rfl
   rw[ae,jy _ (sq zn),Z6,<-Dh,Xc,hn];unfold VD;rw[Zd];rfl
  .intro O B %[%[o5|rfl],sm|hw];rw[nm,Zn (Zi _)]at hw;refine k4 _ _ (ap λD5 k5 _=>aL λbb hK=>?_);lk;have a0:=sm _ _ (Y _ _ hl);refine .inl %[%[_|SqL.of a0]|hK _ _ λM ai=>?_];refine bC (J:=Itl K l) (n:=d.length) (D:=M) (λj vs O H3=>(∃o1,O=[o1,!w])/\aj B H3/\H3 M=some (.lst vs)/\vs=((d.take j).filter λn=>decide (cnt ss [] n=0)).map V.str)
    %[%[none|rfl],aj.upd ai,ae|rfl] (λj _ _ H3 hj bf=>%[_,V.str d[j],SqL.of (bf.2.1 _ _ a0)|by simp[hj]]) (λ_ _ H3 bf=>%[_,SqL.of (bf.2.1 _ _ a0)|by simp]) ?_ ?_
   .intro j vs O H3 hj %[%[o1|rfl],C,cd|hv] x H4 %[e2|U];subst e2;have ch:=U _ (SqL.of (C _ _ a0));rw[Zl,Z4 hj]at ch;obtain rfl:x=V.str d[j]:=(Za ch).symm;have get:=dR.k (k:=Sum.inr d[j]) (C _ _ hw);rw[kQ (Yd hj)]at get;lk;refine%[_,get,rfl|bJ (λh=>?_) λh=>?_]
    .have h:cnt ss [] d[j]=0:=by simpa using h
     refine CK.mk hj cd (by rw[hv,Z6];have:=Yk (λn=>decide (cnt ss [] n=0)) (d.take j);rw[Yn]at this;exact aJ ⋯) %[%[_|rfl],aj.set C ai,ae|?_];rw[hv,Xc,Z4 hj,Y3,Zd];show _=_++(List.filter _ [d[j]]).map V.str;rw[Y6 (by simpa using h)];rfl
    .have h:cnt ss [] d[j]≠0:=by simpa using h
     refine CN.mk hj %[%[_|rfl],C,cd|?_];rw[hv,Xc,Z4 hj,Y3,Zd];show _=_++(List.filter _ [d[j]]).map V.str;rw[Y4 (by simpa using h)];simp
   intro vs O H3 %[_,C,a1|hv];rw[Zn (Zi _)]at hv;rw[hv]at a1;refine k5 _ _ (ap λD6 k6 _=>?_);have ab:=C _ _ hw;have bl:=sm.trans C;have bm:w≠M:=λc=>by rw[<-c,hw]at ai;cases ai
   have bt:=sm.free ai;lk;refine%[#[0]|λld fld=>k6 _ _ (ap λD7 k7 _=>?_)];have s4:=aj.upd (o:= .lst []) fld;have b0:upd H3 ld (.lst []) ld=some (.lst (([]:ZB).map V.str)):=ae;have cl:w≠ld:=λc=>by rw[<-c,ab]at fld;cases fld
   have b1:M≠ld:=λc=>by rw[<-c,a1]at fld;cases fld
   have b2:=s4 _ _ ab;have b3:=s4 _ _ a1;have b4:=bl.trans s4;have fld:=bl.free fld
   generalize upd H3 ld (.lst [])=H4 at s4 b0 b2 b3 b4
   refine%[GU H2 l m b a w M ld d ss,%[_,o5,none,none,[],_,rfl,b4,b2,b3,b0,%[nn.filter _,λx=>by simp,λi x e=>by simp at e|λi x e=>by simp at e]|rfl]|?_];clear b4 b2 b3 b0 a1 ab hw hv C bl sm;intro k O H5 %[o5,o8,o9,L,R,rfl,sm,hw,hR,hL,r|rfl];have Rm:(R.map V.str).length=R.length:=Z6 _;have dt:L.length+R.length<=d.length:=by
    rw[<-Z9];exact STab.nodup_sub r.nd λx U=>((r.mem x).mp U).1
   lk;refine%[R.length,.inl %[_,SqL.of hR|Rm.symm]|bJ (λh=>?_) λh=>?_]
   .have h:0<R.length:=by have:=Zo h;lia
    refine⟨λc5 B=>∃m',m'<d.length-L.length/\GU H2 l m b a w M ld d ss m' c5 B,λ_ _ h=>h,R,SqL.of hR,h,λx U c7=>%[.inl %[_|SqL.of hR],R,hR,U|λR1 pm=>?_]⟩;have u1:=aj.set (o:= .lst (R1.map V.str)) sm bt;have b5:upd H5 M (.lst (R1.map V.str)) M=_:=ae;have b6:upd H5 M (.lst (R1.map V.str)) w=_:=(ao bm).trans hw;have a2:upd H5 M (.lst (R1.map V.str)) ld=_:=(ao b1.symm).trans hL
    generalize upd H5 M (.lst (R1.map V.str))=H6 at u1 b5 b6 a2 ⊢
    refine%[.inl %[_|SqL.of a2],_,a2,by rw[Z6];exact aJ ⋯|aF λdx da _=>aA λbb hK=>?_];have u2:=aj.set (o:= .lst (L.map V.str++[.str x])) u1 fld;have a3:upd H6 ld (.lst (L.map V.str++[.str x])) ld=some (.lst ((L++[x]).map V.str)):=by rw[ae,Zd];rfl
    have a4:upd H6 ld (.lst (L.map V.str++[.str x])) w=_:=(ao cl).trans b6;have a5:upd H6 ld (.lst (L.map V.str++[.str x])) M=_:=(ao b1).trans b5
    generalize upd H6 ld (.lst (L.map V.str++[.str x]))=H7 at u2 a3 a4 a5 ⊢
    lk;refine%[.inr (.inr (.inl (.inl %[_|u2 _ _ ha.choose_spec.1]))),#[0]|λp hp=>?_];have%[ah,al,as,dd,aa|cb]:=ha.get (dQ.of u2) c3 ca hp x;have b7:∀{c:Addr} {o:HO},H7 c=some o->H2 c=none->al≠c:=λ{c o} h1 h2=>by
     rcases cb with rfl|⟨o',ho⟩
     .exact λz=>by rw[z,h1]at hp;cases hp
     .exact λz=>by rw[z,h2]at ho;cases ho
    have de:=b7 a4 fw;have dk:=b7 a5 bt;have all:=b7 a3 fld;have sp:=aj.upd (o:= .lst []) hp;have ab:=sp _ _ a4;have co:=sp _ _ a5;have cs:=sp _ _ a3;have u3:=u2.trans sp
    generalize upd H7 p (.lst [])=H8 at as aa ab co cs u3 ⊢
    clear u1 u2 a4 a5 a3 b6 b5 a2 hp sp
    generalize ct:(ss.filter λt=>decide (t.2[1]? =some x))=ts at aa
    have tm:(ts.map λt=>V.ref t.1).length=ts.length:=Z6 _;have xL:x∉L:=λc=>(nodup_append.mp r.nd).2.2 x c x U rfl
    have pr:(L++[x] ++R1).Perm (L++R):=by
     rw[Ze];exact pm.append_left L
    have f0:∀n,cnt ss L n=cnt ss (L++[x]) n+(ts.drop 0).countP λt=>decide (t.2[0]? =some n):=λn=>by rw[drop_zero,<-ct];exact uF xL ss
    have dn:∀t∈ts,∃n z,t.2=[n,x,z]/\n∈d/\H t.1=some (.tup ([n,x,z].map V.str)):=λt ht=>by
     rw[<-ct]at ht;have%[h1|h2]:=List.mem_filter.mp ht;have%[h3,n,y,z,e,hn|_]:=ag t h1;have h2:=Zo h2;rw[e]at h2 h3;obtain rfl:y=x:=Za h2;exact%[n,z,e,hn|h3]
    refine%[Sum.inr x,rfl,ah,as|.inl %[al,dd,%[_|SqL.of aa]|hK _ _ ?_]];refine bL (xs:=ts.map λt=>V.ref t.1) (λj O B=>(∃o9,O=[!l,!m,!b,!a,!w,o5,!M,!ld,-x,o9])/\aj H2 B/\B al=some (.lst (ts.map λt=>V.ref t.1))/\B w=some (.dK (VD d λn=> .int ((cnt ss (L++[x]) n+(ts.drop j).countP λt=>decide (t.2[0]? =some n):Nat):Int)))/\B ld=some (.lst ((L++[x]).map V.str))/\∃Rj:ZB,B M=some (.lst (Rj.map V.str))/\(L++[x] ++Rj).Nodup/\∀y,y∈L++[x] ++Rj↔y∈d/\cnt ss (L++[x]) y+((ts.drop j).countP λt=>decide (t.2[0]? =some y))=0)
     %[%[_|rfl],u3,aa,by rw[ab];exact congrArg (λg=>some (HO.dK (VD d g))) (funext λn=>by rw[f0 n]),cs,R1,co,pr.nodup_iff.mpr r.nd|λy=>by rw[<-f0,pr.mem_iff];exact r.mem y] (λj O B _ h=>SqL.of h.2.2.1) ?_ ?_
    .intro j v O B hv %[%[o9|rfl],a6,G,N,ac,Rj,I,rn|rz];rw[Zl]at hv;have%[t,ht|rfl]:=map_eq_some_iff.mp hv;have jl:=(Xn ht).1;have%[n,z,et,hn|u]:=dn t (Z8 ht);have u:=a6 _ _ (Y _ _ u);have dr:ts.drop j=t::ts.drop (j+1):=by rw[List.drop_eq_getElem_cons jl,(Xn ht).2]
     rw[dr]at N rz;have get:=dR.k (k:=Sum.inr n) N;rw[kQ hn]at get;have dy:=(nodup_append.mp rn)
     have rl:Rj.length<=d.length:=by
      have:=STab.nodup_sub rn λy hy=>((rz y).mp hy).1
      rw[Z9]at this
      lia
     show bo _ _ _ [!l,!m,!b,!a,!w,o5,!M,!ld,-x,some (.ref t.1)] B;refine ap λdA dp _=>?_
     lk;have one:∀y,(t::ts.drop (j+1)).countP (λt=>decide (t.2[0]? =some y))=((ts.drop (j+1)).countP λt=>decide (t.2[0]? =some y)) +if y=n then 1 else 0:=λy=>by
      rw[countP_cons,et];by_cases c:y=n
      .rw[if_pos c,if_pos (by rw[c];simp)]
      .rw[if_neg c,if_neg (by simpa using λq=>c q.symm)]
     refine%[_,SqT.of u,_,rfl,_,get,_,rfl,_,SqT.of u,_,rfl,_,lG.k (k:=Sum.inr n) N (by unfold VD;rw[Z6];exact aJ ⋯)|dp _ _ (aF λdB cM _=>?_)];rw[FP hn];have e1:(λy=>if y=n then V.int (((cnt ss (L++[x]) n+(t::ts.drop (j+1)).countP λt=>decide (t.2[0]? =some n):Nat):Int) -1)else V.int ((cnt ss (L++[x]) y+(t::ts.drop (j+1)).countP λt=>decide (t.2[0]? =some y):Nat):Int))=λy=>V.int ((cnt ss (L++[x]) y+(ts.drop (j+1)).countP λt=>decide (t.2[0]? =some y):Nat):Int):=funext λy=>by
      rw[one,one];by_cases c:y=n
      .rw[if_pos c,c,if_pos rfl]
       congr 1
       lia
      .rw[if_neg c,if_neg c];rfl
     rw[e1];have v1:=aj.set (o:= .dK (VD d λy=>V.int ((cnt ss (L++[x]) y+(ts.drop (j+1)).countP λt=>decide (t.2[0]? =some y):Nat):Int))) a6 fw;have a7:upd B w (.dK (VD d λy=>V.int ((cnt ss (L++[x]) y+(ts.drop (j+1)).countP λt=>decide (t.2[0]? =some y):Nat):Int))) w=_:=ae;have an:∀c o,c≠w->B c=some o->upd B w (.dK (VD d λy=>V.int ((cnt ss (L++[x]) y+(ts.drop (j+1)).countP λt=>decide (t.2[0]? =some y):Nat):Int))) c=some o:=λc o h e=>(ao h)▸e
     generalize upd B w (.dK (VD d λy=>V.int ((cnt ss (L++[x]) y+(ts.drop (j+1)).countP λt=>decide (t.2[0]? =some y):Nat):Int)))=H9 at v1 a7 an
     have u:=an _ _ (λc=>by rw[c,N]at u;cases u) u;have G:=an _ _ de G;have ac:=an _ _ cl.symm ac;have I:=an _ _ bm.symm I;have get:=dR.k (k:=Sum.inr n) a7;rw[kQ hn]at get;have c0:n∉L++[x] ++Rj:=λc=>by
      have:=((rz n).mp c).2;rw[one,if_pos rfl]at this
      lia
     have bc:∀y,y≠n->(y∈L++[x] ++Rj↔y∈d/\cnt ss (L++[x]) y+((ts.drop (j+1)).countP λt=>decide (t.2[0]? =some y))=0):=λy c=>by
      rw[rz y,one,if_neg c];rfl
     lk;refine%[_,SqT.of u,_,rfl,_,get,rfl|bJ (λh=>?_) λh=>?_]
     .have h:cnt ss (L++[x]) n+((ts.drop (j+1)).countP λt=>decide (t.2[0]? =some n))=0:=by
       have:=V.int.inj (Zo h)
       lia
      have tr:t.1≠M:=λc=>by rw[c,I]at u;cases u
      refine%[.inl %[_|SqL.of I],_,SqT.of u,_,rfl,_,I,by rw[Z6];exact aJ ⋯|cM _ _ %[%[_|rfl],aj.set v1 bt,(ao dk).trans G,(ao bm).trans a7,(ao b1.symm).trans ac,Rj++[n],by rw[ae,Zd];rfl,?_|λy=>?_]]
      .rw[<-Ze,X3];exact%[rn,by simp|λa ha b hb c=>c0 (by rw[<-Xp hb,<-c];exact ha)]
      .rw[<-Ze,Yu,mem_singleton];by_cases c:y=n
       .rw[c];exact%[λ_=>%[hn|h]|λ_=> .inr rfl]
       .rw[<-bc y c];exact%[λq=>q.resolve_right c|.inl]
     .refine cM _ _ %[%[_|rfl],v1,G,a7,ac,Rj,I,rn|λy=>?_];by_cases c:y=n
      .rw[c];exact%[λq=>absurd q c0|λq=>absurd (Zf (congrArg (λi:Nat=>V.int i) q.2)) h]
      .exact bc y c
    .intro O B %[%[o9|rfl],a6,G,N,ac,Rj,I,rn|rz];rw[tm,List.drop_length]at N rz;refine da _ _ %[_,?_,o5,_,o9,L++[x],Rj,rfl,a6,N,I,ac,%[rn,rz,λi y hi y' e=>?_|λi y hi z hz nz e=>?_]|rfl]
     .rw[Z9,Ym]
      lia
     .by_cases il:i<L.length
      .rw[Y9 il]at hi;rw[Xe (Yg il)];exact r.ord i y hi y' e
      .have ie:i=L.length:=by
        have:=(Xn hi).1;rw[Z9,Ym]at this
        lia
       subst ie;rw[Ya (Zi _),sub_self,List.getElem?_cons_zero]at hi;obtain rfl:=Za hi;rw[Xe (Zi _),List.take_length];exact BI ((r.mem x).mp (Yw _ U)).2 e
     .by_cases il:i<L.length
      .rw[Y9 il]at hi;rw[Xe (Yg il)]at nz e;exact r.lst i y hi z hz nz e
      .have ie:i=L.length:=by
        have:=(Xn hi).1;rw[Z9,Ym]at this
        lia
       subst ie;rw[Ya (Zi _),sub_self,List.getElem?_cons_zero]at hi;obtain rfl:=Za hi;rw[Xe (Zi _),List.take_length]at nz e;exact c7 z ((Xo ((r.mem z).mpr %[hz|FQ ag e])).resolve_left nz)
   .refine k7 _ _ ?_;lk;have R0:R=[]:=by
     cases R with
     | nil=>rfl
     | cons x R=>exact absurd (Zf (by rw[Zr];lia)) h
    subst R0;have mem:=r.mem;have nd:=r.nd;rw[Zz]at mem nd;refine kk ld H5 L (Y.trans sm) hL nd (λx U=>((mem x).mp U).1) r.ord (λx U nx=>?_) r.lst (Y.free fld);have:cnt ss L x≠0:=λc=>nx ((mem x).mpr %[U|c])
    have%[t,ht|q]:=List.countP_pos_iff.mp (Nat.pos_of_ne_zero this);have%[a,b,z,e,_|hb]:=(ag t ht).2;rw[e]at q;simp only[Zx]at q;exact%[b,%[z|by rw[<-(Za (Zo q.1)),<-e];exact Xr %[t,ht|rfl]],hb|Zo q.2]
inductive uG (vs:ZM) (H:Hp) (Q:VK) (E0:XK):Prop
 | mk (l) (m) (ns) (ss) (z0:vs=[.ref l,.ref m]) (z1:H l=some (.lst (ns.map V.str))) (z2:ns.Nodup) (z3:ns.length<=80) (z4:H m=some (.lst (ss.map λt=>V.ref t.1))) (z5:cS H ns ss) (z6:ss.length<=150) (z7:∀r H' (us:ZB),aj H H'->H' r=some (.lst (us.map V.str))->(∀x∈ns,Rch (ss.map (·.2)) x x->x∈us)->Q (.ref r) H'):uG vs H Q E0
structure n9 (H:Hp) (ks:List ZB) (ss:ZG) (r:Addr) (ws:ZG) (x:Str):Prop where
 at_:H r=some (.lst (ws.map λt=>V.ref t.1))
 sub:∀t∈ws,t∈ss
 sho:Sho ks x x (ws.map (·.2))
 len:ws.length<=200
theorem n9.up(h:n9 H ks ss r ws x)(s:aj H a):n9 a ks ss r ws x:=%[s _ _ h.at_,h.sub,h.sho|h.len]
inductive uH (vs:ZM) (H:Hp) (Q:VK) (E0:XK):Prop
 | mk (l) (m) (ns) (ss) (z0:vs=[.ref l,.ref m]) (z1:H l=some (.lst (ns.map V.str))) (z2:ns.Nodup) (z3:ns.length<=80) (z4:H m=some (.lst (ss.map λt=>V.ref t.1))) (z5:cS H ns ss) (z6:ss.length<=150) (z7:(∀H',aj H H'->(∀x,¬ Rch (ss.map (·.2)) x x)->Q .non H')) (z8:∀r H' ws x,aj H H'->H r=none->n9 H' (ss.map (·.2)) ss r ws x->(∀y n,Dst (ss.map (·.2)) y (n+1) y->ws.length<=n+1)->Q (.ref r) H'):uH vs H Q E0
theorem sr(T:Txt K mg):↥4 "never_laid" ["names","found"] uG:=by
 refine T.aQ.cal oN (λH vs Q E h=>?_)
 .have%[l,m,a,ss,rfl,n,G,nl,I,g,i|J]:=h;refine%[rfl|λf B A outer s C=>?_];refine%[_,%["JEH/]qAF]r~B~ZA0B~B~ZAG~/A0A1BBB",0|C]|?_];show jw _ _ [!l,!m] H;lk;refine%[a,SqL.of n,⋯|λp M=>?_];have b:=aj.upd (o:=jd w p (aK a)) M;have t:upd H p (jd w p (aK a)) p=_:=ae
  generalize upd H p (jd w p (aK a))=H1 at b t ⊢
  refine%[l,m,a,ss,rfl,b _ _ n,G,nl,b _ _ I,g.up b,i|λr H2 L y N O U j _ _ _=>?_];have Ll:=STab.nodup_sub O U;refine%[r,rfl,L,SqL.of N,⋯|λq Y=>?_];have z:=aj.upd (o:=jd w q (aK L)) Y;have fl:=STab.nodup_sub (eG a) λx d=>br.mp d
  refine%[_,(z _ _ (y _ _ t)),_,ae,⋯|λu ms fu e mn=>%[ms,ae,?_|λv us fv pu _=>?_]]
  .have:=STab.nodup_sub mn λx d=>br.mp ((e x).mp d).1
   lia
  .refine J v _ us (b.trans (y.trans (z.trans ((aj.upd fu).trans (aj.upd fv))))) ae λx d rx=>?_
   rw[pu.mem_iff,e];exact%[br.mpr d|λc=>C8 j (br.mp c) rx]
theorem uI{d:ZB}{ss:ZG}(h:∀t∈ss,dP d t.2){x y:Str}(r:Rch (ss.map (·.2)) x y):x∈d:=by
 induction r with
 | one e=>
   have%[z|g]:=e;have%[t,i|f]:=Xq g;have%[a,b,c,e,j|_]:=h t i;rw[e]at f;exact((List.cons.inj f).1)▸j
 | more _ _ l=>exact l
theorem dM(T:Txt K mg):↥5 "shortest_ring" ["names","found"] uH:=by
 refine T.aP.cal bK (λH vs Q E h=>?_)
 .have%[l,m,U,ss,rfl,hl,nn,nl,hm,c,z,kn|ky]:=h;refine%[rfl|λf ag A outer s hr=>?_];refine%[_,%["JDI2G~.A1BDI3!DSTG]sA0A1BL4DI5G]tA2A4A4BENawK~h5!&asK~i3!zK.efA5BefA3BEI35OEH3",bK.nd|hr]|?_]
  show bo _ _ _ [!l,!m,none,none,none,none] H;refine ap λD1 k1 _=>?_
  lk;refine%[m,U,ss,rfl,hm,c,z|λb H1 Y fb hb=>k1 _ _ (ap λD2 k2 _=>?_)];lk;refine k2 _ _ (ap λD3 k3 _=>aA λac hK=>?_);lk;refine%[l,m,U,ss,rfl,Y _ _ hl,nn,nl,Y _ _ hm,c.up Y,z|λr H2 us s2 I J=> .inl %[r,rfl,%[_|SqL.of I]|hK _ _ ?_]];have g:=Y.trans s2;refine bL (xs:=us.map V.str) (λi σ o=>(∃v o4 o5,σ=[!l,!m,!b,some v,o4,o5]/\((v= .non/\∀x∈us.take i,¬ Rch (ss.map (·.2)) x x)\/∃q ws x,v= .ref q/\H q=none/\n9 o (ss.map (·.2)) ss q ws x/\∀y∈us.take i,∀n,Dst (ss.map (·.2)) y (n+1) y->ws.length<=n+1))/\aj H2 o)
   %[%[_,_,_,rfl|.inl %[rfl|λx B=>(nomatch B)]]|λ_ _ e=>e] (λi σ o _ h=>SqL.of (h.2 _ _ I)) ?_ ?_
  .intro i x σ o B %[%[v,o4,o5,rfl|L]|j];rw[Zl]at B;have%[n,hn|rfl]:=map_eq_some_iff.mp B;have tk:us.take (i+1)=us.take i++[n]:=by rw[Xc,hn];rfl
   show bo _ _ _ [!l,!m,!b,some v,-n,o5] o;refine ap λD4 k4 _=>?_
   lk;refine%[b,n,n,U,ss,rfl,hb.up (s2.trans j),c.up (g.trans j),z,λH3 C nr=>k4 _ _ (aF λD5 k5 _=>?_)|λq H3 ws C M G sub rr rl=>k4 _ _ (aF λD5 k5 _=>?_)]
   .lk;rw[if_neg ∅];refine k5 _ _ %[%[v,_,_,rfl|L.imp (λh=>%[h.1|λx B=>?_]) λ⟨q,ws,x,e,M,G,p⟩=>%[q,ws,x,e,M,G.up C|λy a m d=>?_]]|j.trans C]
    .rw[tk]at B;rcases Xo B with h'|h'
     .exact h.2 x h'
     .rw[Xp h'];exact nr
    .rw[tk]at a;rcases Xo a with h'|h'
     .exact p y h' m d
     .rw[Xp h']at d;exact(nr d.rch).elim
   .lk;rw[if_pos ∅];have wl:∀zs:ZG,(zs.map λt=>V.ref t.1).length=zs.length:=λzs=>Z6 _
    have u:=λm d=>by
     have:=rr.min m d;rwa[Z6]at this
    have put:(∀y∈us.take i,∀m,Dst (ss.map (·.2)) y (m+1) y->ws.length<=m+1)->D5.nx [!l,!m,!b,!q,-n,!q] H3:=λp=>k5 _ _ ⟨%[_,_,_,rfl|.inr ⟨q,ws,n,rfl,(g.trans j).free M,%[G,sub,rr|rl],λy a m d=>by
     rw[tk]at a;rcases Xo a with h'|h'
     .exact p y h' m d
     .rw[Xp h']at d;exact u m d⟩],j.trans C⟩
    rcases L with⟨rfl,aa⟩|⟨q',N,x',rfl,ab,O,p⟩
    .rw[if_pos ∅];exact put λy a m d=>(aa y a d.rch).elim
    .rw[if_neg ∅];refine%[_,.inl %[_,SqL.of G|(wl ws).symm],_,.inl %[_,SqL.of (C _ _ O.at_)|(wl N).symm]|bJ (λlt=>put λy a m d=>?_) λlt=>k5 _ _ %[%[_,_,_,rfl|.inr %[q',N,x',rfl,ab,O.up C|λy a m d=>?_]]|j.trans C]]
     .have:=p y a m d;have:=Zo lt
      lia
     .rw[tk]at a;rcases Xo a with h'|h'
      .exact p y h' m d
      .rw[Xp h']at d;have:=u m d
       lia
  .intro σ o %[%[v,o4,o5,rfl|L]|j];rw[(Z6 _),Zn (Zi _)]at L;refine k3 _ _ ?_;lk;rcases L with⟨rfl,h⟩|⟨q,ws,x,rfl,M,G,p⟩
   .exact kn o (g.trans j) λx rx=>h x (J x (uI (λt ht=>(c t ht).2) rx) rx) rx
   .exact ky q o ws x (g.trans j) M G λy n d=>p y (J y (uI (λt ht=>(c t ht).2) d.rch) d.rch) n d
def GV(ws:ZG):Prop:=∀p∈ws,p.2.length<=3/\∀z∈p.2,Sml z
inductive sw (C:Addr) (vs:ZM) (H:Hp) (Q:VK) (E0:XK):Prop
 | mk (a r:Addr) (ws:ZG) (z0:vs=[.ref a,.ref r]) (z1:H r=some (.lst (ws.map λt=>V.ref t.1))) (z2:aE H ws) (z3:ws.length<=200) (z4:GV ws) (z5:H a=some (ExO a C none)) (z6:∀l d,H l=none->H d=none->d≠l->Q .non (upd (upd (upd H l (.lst (ws.map λt=>V.ref t.1))) a (ExO a C (some d))) d (.xd [("ring",.ref l)]))):sw C vs H Q E0
theorem C_Torn(T:Txt K mg):E8 P w K mg base 1 "Torn" ["self","ring"] (sw (aD mg "Torn")):=by
 refine T.x_Torn.cal rV (by intro a b c d h;have%[_,_,_,rfl|_]:=h;rfl) (λf m A outer s H vs Q E n g h=>?_)
 .have%[a,r,ws,rfl,i,o,p,t,j|q]:=h;refine%[_,(QSs.h (am (cf rfl (Fc (C:=aD mg "Torn") n rfl T.c_DigError T.i_DigError rfl rfl %[_|rfl] #[↑0,Az (pjE eU (pjE (GP g.gd g.units ↑1) Ay))]))
   (au (Gr (C:=aD mg "Torn") T.f_Torn_ring rfl ↑0 (ctO (kq (K:=K) rfl) T.a5 boot_list rfl #[↑1])))))|?_]
  show bo _ _ _ [!a,!r] H;lk;have v:(Str.empty++Str.ofString "torn by the ring ").length=17:=by decide +kernel
  refine%[by rw[PySem.sizeLine_eq];lia,r,ws,rfl,i,o,p,t|λz y=>%[z,rfl,by rw[strLen_append,PySem.sizeLine_eq];lia,by rw[strLen_append,PySem.sizeLine_eq];lia,by simp,%[_|j]|?_]];refine%[r,rfl,_,.inl (SqL.of i)|λl b=>%[a,rfl,aj.upd b _ _ j|λd c u=>?_]];have dl:d≠l:=λe=>by rw[e,ae]at c;cases c
  rw[ao dl]at c;exact q l d b c dl
theorem wn{C r:Addr}{ws:ZG}{H c:Hp}{y:L2.St}{D:iO}{t:TA}{E:XK}(m:aj H c)(I:c r=some (.lst (ws.map λt=>V.ref t.1)))(J:aE c ws)(f:ws.length<=200)(L:GV ws)(M:∀Q:ZM->Hp->Prop,Q [.ref r] c->t y c Q)
 (k:∀d l g,aj H g->aj c g->H d=none->H l=none->d≠l->g d=some (.xd [("ring",.ref l)])->g l=some (.lst (ws.map λt=>V.ref t.1))->E (.ref C) (some d) g):
 rh C (vE C (sw C) t) (λa A=>∃d,A a=some (ExO a C (some d))/\H a=none/\E (.ref C) (some d) (drop A a)) D y c:=by
 refine M _ %[by simp|λx q=>?_];have B:=aj.upd (o:=ExO x C none) q;refine%[x,r,ws,rfl,B _ _ I,aU J λb z e=>B _ _ e,f,L,ae|λl d f n h=>?_];have s:l≠x:=λe=>by rw[e,ae]at f;cases f
 have p:d≠x:=λe=>by rw[e,ae]at n;cases n
 have i:c l=none:=by rw[ao s]at f;exact f
 have j:c d=none:=by rw[ao p]at n;exact n
 have v:∀b,b≠x->b≠l->b≠d->drop (upd (upd (upd (upd c x (ExO x C none)) l (.lst (ws.map λt=>V.ref t.1))) x (ExO x C (some d))) d (.xd [("ring",.ref l)])) x b=c b:=λb n1 N O=>by
  rw[bD n1,ao O,ao n1,ao N,ao n1]
 have G:aj c (drop (upd (upd (upd (upd c x (ExO x C none)) l (.lst (ws.map λt=>V.ref t.1))) x (ExO x C (some d))) d (.xd [("ring",.ref l)])) x):=λb u e=>by
  rw[v b (aw e q) (aw e i) (aw e j)];exact e
 refine%[rfl,x,d,rfl,?_,d,?_,m.free q|k d l _ (m.trans G) G (m.free j) (m.free i) h ?_ ?_]
 .rw[ao p.symm,ae]
 .rw[ao p.symm,ae]
 .rw[bD p,ae]
 .rw[bD s,ao h.symm,ao s,ae]
theorem oa{S:Str->Str->Prop}(h:cE S z m)(c:dD S z x):cE S x m:=%[c.symm.trans h.1|λy d=>h.2 y (c.trans d)]
theorem lD(h:cO H c qs)(a b:Str)(s:bn qs a b):a∈c/\b∈c:=by
 have%[q,d|e]:=s;rcases(h q d).2 with⟨wd,x,y,f,_,g,i,_⟩|⟨wd,x,y,f,_⟩
 .simp_all
 grind
structure fZ (mg:ZC) (H:Hp) (g:Addr) (qs:ZN) (ls:ZB) (ts:ZG):Prop where
 gr:∃c2 c3 c4,GrF mg H g c2 c3 c4 qs ls ts
 nd:ls.Nodup
 so:ls.Pairwise (λa b=>a8 b a=false)
 ll:ls.length<=80
 tl:ts.length<=150
 t3:∀k∈ts.map (·.2),dP ls k
 sm:∀k∈ts.map (·.2),∀z∈k,Sml z
 lm:∀z∈ls,Sml z
theorem fZ.up(h:fZ mg H g qs a ts)(s:aj H b):fZ mg b g qs a ts:=by
 have%[c,d,e|f]:=h.gr;exact%[%[c,d,e|f.up s],h.nd,h.so,h.ll,h.tl,h.t3,h.sm|h.lm]
theorem fZ.ends(h:fZ mg H g qs f ts)(i:bG (bn qs) (ts.map (·.2)) lk)(j:k∈lk):∃a b z,k=[a,b,z]/\(a∈f/\cE (bn qs) a a)/\b∈f/\cE (bn qs) b b:=by
 have%[r,s,t|l]:=h.gr;have%[a,b,z,m,n,o,c,d|rfl]:=(i.mem k).mp j;have%[x,y,u,e,p|q]:=h.t3 _ o;simp only[List.cons.injEq,and_true]at e;have%[rfl,rfl|rfl]:=e;have ws:=lD l.sa;exact%[m,n,z,rfl,%[c.1.within ws p|oa c c.1],d.1.within ws q|oa d d.1]
theorem fZ.short(h:fZ mg H g qs o ts)(d:bG (bn qs) (ts.map (·.2)) lk)(f:k∈lk):k.length<=3/\∀z∈k,Sml z:=by
 have%[p,q,r|i]:=h.gr;have%[a,b,z,s,t,c,j,l|rfl]:=(d.mem k).mp f;have%[x,y,u,e,m|n]:=h.t3 _ c;simp only[List.cons.injEq,and_true]at e;have%[rfl,rfl|rfl]:=e;have ws:=lD i.sa;exact%[Zi _|FG (h.lm _ (j.1.within ws m)) (h.lm _ (l.1.within ws n)) (h.sm _ c z ∅)]
theorem fZ.names(h:fZ mg H g qs d ts)(f:bG (bn qs) (ts.map (·.2)) lk)(c:BE (bn qs) d i):∀k∈lk,dP i k:=λk j=>by
 have%[a,b,z,e,l|m]:=h.ends f j;exact%[a,b,z,e,(c.mem a).mpr l|(c.mem b).mpr m]
theorem fZ.ties(h:fZ mg H g qs c ts)(d:bG (bn qs) (ts.map (·.2)) lk):∀k∈lk,dP c k:=λk f=>by
 have%[a,b,z,e,i|j]:=h.ends d f;exact%[a,b,z,e,i.1|j.1]
theorem iE(a:aE H ss)(h:∀k∈ss.map (·.2),dP b k):cS H b ss:=λt q=>%[(a t q).2|h _ (Xr %[t,q|rfl])]
inductive qr (mg:ZC) (vs:ZM) (H:Hp) (Q:VK) (E0:XK):Prop
 | mk (g:Addr) (qs:ZN) (ls:ZB) (ts:ZG) (z0:vs=[.ref g]) (z1:fZ mg H g qs ls ts) (z2:(∀lk,bG (bn qs) (ts.map (·.2)) lk->∀x,¬ Rch lk x x)) (z3:∀l H' ns (ss:ZG),aj H H'->H' l=some (.lst (ss.map λt=>V.ref t.1))->cS H' ns ss->ss.length<=150->bG (bn qs) (ts.map (·.2)) (ss.map (·.2))->Q (.ref l) H'):qr mg vs H Q E0
structure BJ (H:Hp) (lk:List ZB) (d l:Addr) (ws:ZG) (x:Str):Prop where
 ad:H d=some (.xd [("ring",.ref l)])
 al:H l=some (.lst (ws.map λt=>V.ref t.1))
 tu:aE H ws
 sho:Sho lk x x (ws.map (·.2))
 min:∀y n,Dst lk y (n+1) y->ws.length<=n+1
 len:ws.length<=200
inductive sA (mg:ZC) (vs:ZM) (H:Hp) (Q:VK) (E:XK):Prop
 | mk (g:Addr) (qs:ZN) (ls:ZB) (ts:ZG) (lk:List ZB) (us:ZM) (z0:vs=[.ref g]) (z1:fZ mg H g qs ls ts) (z2:bG (bn qs) (ts.map (·.2)) lk) (z3:(∃x,Rch lk x x)) (z4:∀d l H' ws x,aj H H'->H d=none->H l=none->d≠l->BJ H' lk d l ws x->E (.ref (aD mg "Torn")) (some d) H'):sA mg vs H Q E
theorem iF(T:Txt K mg):↥6 "untorn_links" ["ground"] (qr mg):=by
 refine T.aR.cal bQ (λH vs Q E h=>?_)
 .have%[g,qs,e,ts,rfl,a,G|I]:=h;refine%[rfl|λf C A outer s d=>?_];have%[j,n,o|p]:=a.gr;have U:=a.ll;refine%[_,%["JDI1G~jA0BDI2G~kAG~JA0BA1BDNK~h2!E*OEH1",bQ.nd|d]|?_]
  show bo _ _ _ [!g,none,none] H;refine ap λY k1 _=>?_
  refine%[g,j,n,o,qs,e,ts,rfl,p,a.nd,a.so,⋯,a.tl,a.t3|λm H1 ss q fm t J lk u=>k1 _ _ (ap λD2 k2 _=>?_)];refine%[g,j,n,o,qs,e,ts,rfl,p.up q,a.nd,a.so,⋯|λl H2 v i fl L c=>?_];have y:=iE J (a.names lk c);refine%[l,m,v,ss,rfl,L,c.nd,?_,i _ _ t,y.up i,u,λz B _=>k2 _ _ (ap λD3 M _=>?_)|λr z ws x B _ N _=>(G _ lk x N.sho.rch).elim]
  .have:=STab.nodup_sub c.nd λx O=>((c.mem x).mp O).1
   lia
  .lk;refine M _ _ ?_;have b:=i.trans B;exact I m z v ss (q.trans b) (b _ _ t) (y.up b) u lk
theorem eS(T:Txt K mg):Ax P w K mg base 7 "untorn_links" ["ground"] (sA mg):=by
 have%[_,_,b|_]:=T.x_Torn.ini;refine T.aR.calX bQ (λH vs Q E h=>?_)
 .have%[g,qs,v,ts,lk,us,rfl,a,y,%[x0|z]|kk]:=h;refine%[rfl|λf aa A outer s o=>?_];have%[M,N,O|U]:=a.gr;have ll:=a.ll;refine%[_,%["JDI1G~jA0BDI2G~kAG~JA0BA1BDNK~h2!E]u]v]wA2BOEH1",bQ.nd|o]|?_]
  show bo _ _ _ [!g,none,none] H;refine ap λD1 k1 _=>?_
  lk;refine%[g,M,N,O,qs,v,ts,rfl,U,a.nd,a.so,⋯,a.tl,a.t3|λm H1 ss Y fm hm B i sl=>k1 _ _ (ap λD2 k2 _=>?_)];have e:=y.one i;subst e;lk;refine%[g,M,N,O,qs,v,ts,rfl,U.up Y,a.nd,a.so,⋯|λl H2 ns p fl hl u=>?_];have la:=iE B (a.names i u);have C:=Y.trans p;refine%[l,m,ns,ss,rfl,hl,u.nd,?_,p _ _ hm,la.up p,sl,λH' G nr=>(nr _ z).elim|λr H' ws x G _ j mn=>k2 _ _ (ap λD3 k3 _=>?_)]
  .have:=STab.nodup_sub u.nd λx I=>((u.mem x).mp I).1
   lia
  .lk;rw[if_pos ∅];have J:=C.trans G;have inl:∀t∈ws,t.2∈ss.map (·.2):=λt c=>Xr %[t,j.sub t c|rfl]
   have n:aE H' ws:=λt c=>%[(B t (j.sub t c)).1|G _ _ (p _ _ (B t (j.sub t c)).2)]
   refine wn J j.at_ n j.len (λt c=>a.short i (inl t c)) (λQ q=>?_) λd l H4 s4 s5 hd L dl I hL=>kk d l H4 ws x s4 hd L dl %[I,hL,λt c=>%[(n t c).1|s5 _ _ (n t c).2],j.sho,mn|j.len]
   lk;exact q
inductive xo (mg:ZC) (vs:ZM) (H:Hp) (Q:VK) (E0:XK):Prop
 | mk (g:Addr) (qs:ZN) (ls:ZB) (ts:ZG) (z0:vs=[.ref g]) (z1:fZ mg H g qs ls ts) (z2:∀H' lk,aj H H'->bG (bn qs) (ts.map (·.2)) lk->((∀x,¬ Rch lk x x)->Q .non H')/\∀r ws x,H r=none->H' r=some (.lst (ws.map λt=>V.ref t.1))->aE H' ws->Sho lk x x (ws.map (·.2))->ws.length<=200->(∀y n,Dst lk y (n+1) y->ws.length<=n+1)->Q (.ref r) H'):xo mg vs H Q E0
theorem FR(T:Txt K mg):↥6 "ring" ["ground"] (xo mg):=by
 refine T.aO.cal C9 (λH vs Q E h=>?_)
 .have%[g,qs,j,ts,rfl,a|p]:=h;refine%[rfl|λf G A outer s i=>?_];have%[q,u,v|y]:=a.gr;have ll:=a.ll;refine%[_,%["JEHG~kAG~JA0BAG~jA0BB",0|i]|?_];refine%[g,q,u,v,qs,j,ts,rfl,y,a.nd,a.so,⋯|λl H1 I z fl J d=>?_];refine%[g,q,u,v,qs,j,ts,rfl,y.up z,a.nd,a.so,⋯,a.tl,a.t3|λm H2 ss B fm L n lk M=>?_];have b:=z.trans B;refine%[l,m,I,ss,rfl,B _ _ J,d.nd,?_,L,iE n (a.names lk d),M,λo e N=>(p o _ (b.trans e) lk).1 N|λr o ws x e O c U=>(p o _ (b.trans e) lk).2 r ws x (b.free O) c.at_ (λt C=>%[(n t (c.sub t C)).1|e _ _ (n t (c.sub t C)).2]) c.sho c.len U];have:=STab.nodup_sub d.nd λx Y=>((d.mem x).mp Y).1
  lia
structure uJ (ks:List ZB) (ns L:ZB):Prop where
 nd:L.Nodup
 mem:∀x,x∈L↔x∈ns
 ord:∀(i:Nat) x,L[i]? =some x->∀y,Ed ks x y->y∈L.take i
 lst:wk ks ns L
theorem uJ.one{ks:List _}{m n L M:ZB}(h:uJ ks m L)(g:uJ ks n M)(e:∀x,x∈m↔x∈n):L=M:=by
 have len:=Nat.le_antisymm (STab.nodup_sub h.nd λx d=>(g.mem x).mpr ((e x).mp ((h.mem x).mp d))) (STab.nodup_sub g.nd λx d=>(h.mem x).mpr ((e x).mpr ((g.mem x).mp d)));have fresh:∀{L:ZB},L.Nodup->∀{i:Nat} {x:Str},L[i]? =some x->x∉L.take i:=λ{L} nd {i x} d c=>by
  rw[<-Xd i L,X3]at nd;exact nd.2.2 x c x (Z8 (i:=0) (by rw[Yb];exact d)) rfl
 have step:∀i,i<=L.length->L.take i=M.take i:=λi=>by
  induction i with
  | zero=>exact λ_=>rfl
  | succ i f=>
    intro hi;have f:=f ⋯;obtain⟨x,d⟩:∃x,L[i]? =some x:=%[_|Z4 ⋯]
    obtain⟨y,j⟩:∃y,M[i]? =some y:=%[_|Z4 ⋯]
    have q:x=y:=by
     by_cases c:x=y
     .exact c
     .have a:=g.lst i y j x ((e x).mp ((h.mem x).mp (Z8 d))) (f▸fresh h.nd d) λz l=>f▸h.ord i x d z l
      have b:=h.lst i x d y ((e y).mpr ((g.mem y).mp (Z8 j))) (f▸fresh g.nd j) λz l=>f▸g.ord i y j z l
      have:=dj a c
      grind
    rw[Xc,Xc,f,d,j,q]
 have:=step L.length (Zi _)
 grind
inductive uK (mg:ZC) (vs:ZM) (H:Hp) (Q:VK) (E0:XK):Prop
 | mk (g:Addr) (qs:ZN) (ls:ZB) (ts:ZG) (lk:List ZB) (z0:vs=[.ref g]) (z1:fZ mg H g qs ls ts) (z2:bG (bn qs) (ts.map (·.2)) lk) (z3:(∀x,¬ Rch lk x x)) (z4:∀r H' ns L,aj H H'->H r=none->H' r=some (.lst (L.map V.str))->BE (bn qs) ls ns->uJ lk ns L->Q (.ref r) H'):uK mg vs H Q E0
theorem Di(T:Txt K mg):↥7 "order" ["ground"] (uK mg):=by
 refine T.bb.cal jX (λH vs Q E h=>?_)
 .have%[g,qs,q,ts,lk,rfl,i,j,C|M]:=h;refine%[rfl|λf J A outer s p=>?_];have%[N,O,Y|gr]:=i.gr;have ll:=i.ll;refine%[_,%["JDI1G~:A0BEHG~/AG~JA0BA1B",jX.nd|p]|?_]
  show bo _ _ _ [some _,none] H;refine ap λD1 k1 _=>?_
  lk;refine%[g,qs,q,ts,rfl,i,λaa h'=>by rw[h'.one j];exact C|λl H1 ns ss G hl la sl m=>k1 _ _ ?_];obtain rfl:=j.one m;lk;refine%[g,N,O,Y,qs,q,ts,rfl,gr.up G,i.nd,i.so,⋯|λn H2 u v fn hn d=>?_];have ml:=STab.nodup_sub d.nd λx z=>((d.mem x).mp z).1
  have o:=G.trans v;refine%[n,l,u,ss,rfl,hn,d.nd,⋯,v _ _ hl,λt I=>%[v _ _ (la t I).1|i.names m d _ (Xr %[t,I|rfl])],sl|λr H3 L s3 hL Ln Ls B all lo fr=>?_];refine M r H3 u L (o.trans s3) (o.free fr) hL d %[Ln,λx=>%[Ls x|λz=>Decidable.byContradiction λc=>?_],B|lo];refine FB (U:=u.filter λy=>decide (y∉L)) (λy hy=>?_) C (List.mem_filter.mpr %[z|Zf c]);have%[a|b]:=List.mem_filter.mp hy;have%[y',e,m1|m2]:=all y a (Zo b);exact%[y',List.mem_filter.mpr %[m1|Zf m2]|e]
theorem sB(T:Txt K mg):Ax P w K mg base 8 "order" ["ground"] (sA mg):=by
 have eS:=eS (P:=P) (w:=w) (base:=base) T;refine T.bb.calX jX (λH vs Q E h=>?_)
 .have%[g,qs,b,ts,lk,us,rfl,d,e,i|j]:=h;refine%[rfl|λf c A outer s a=>?_];refine%[_,(QSs.h (am (aO 1 jX.nd rfl (Gp (CD λ_ _ _ h=>h) eS a rfl rfl rfl rfl #[↑0]))
   (au (aM (aI (eR T) a rfl #[aI (bS T) a rfl #[↑0],↑1])))))|?_]
  exact%[g,qs,b,ts,lk,us,rfl,d,e,i|j]
noncomputable def plc(L:ZB)(x:Str):Nat:=L.findIdx λy=>decide (y=x)
theorem BK{L:ZB}(nd:L.Nodup){i:Nat}{x:Str}(h:L[i]? =some x):plc L x=i:=by
 have lt:plc L x<L.length:=List.findIdx_lt_length_of_exists %[x,Z8 h|Zf rfl];have e:L[plc L x]=x:=Zo (List.findIdx_getElem (w:=lt));exact ei nd (by rw[Z4 lt,e]) h
inductive uL (mg:ZC) (vs:ZM) (H:Hp) (Q:VK) (E0:XK):Prop
 | mk (g a:Addr) (qs:ZN) (ls:ZB) (ts:ZG) (lk:List ZB) (L:ZB) (z0:vs=[.ref g,.ref a]) (z1:fZ mg H g qs ls ts) (z2:bG (bn qs) (ts.map (·.2)) lk) (z3:(∀x,¬ Rch lk x x)) (z4:H a=some (.lst (L.map V.str))) (z5:L.Nodup) (z6:(∀x,x∈L↔x∈ls/\cE (bn qs) x x)) (z7:(∀x y,Ed lk x y->∃(i j:Nat),L[i]? =some y/\L[j]? =some x/\i<j)) (z8:∀H',aj H H'->Q (.bl true) H'):uL mg vs H Q E0
theorem og(T:Txt K mg):↥7 "is_order" ["ground","some"] (uL mg):=by
 refine T.bc.cal dF (λH vs Q E h=>?_)
 .have%[g,a,qs,ls,ts,lk,L,rfl,hg,ac,nr,ha,nd,mem,a2|kk]:=h;refine%[rfl|λf b0 A outer s hr=>?_];have%[c2,c3,c4|gr]:=hg.gr;have ll:=hg.ll;have Ll:L.length<=80:=Yi (STab.nodup_sub nd λx hx=>((mem x).mp hx).1) ll;refine%[_,%["JDI2G~:A0BDNK]x/~&A1BG~JA0BEHlOD>3mn:DS~CA1BcML4ML5dE,4Q35EH~P~QAog?1T2cMW0?2MW1?2MW2?2dup.rQ31rQ30B",dF.nd,(show bV (ak jm) ["ground","some","found","places","place","name"] _ ["later","earlier","source","places"] [(3,3)]=true from by decide +kernel),(show(["later","earlier","source","places"]:ZB).Nodup from by decide +kernel)|hr]|?_]
  show bo _ _ _ [!g,!a,none,none,none,none] H;refine ap λD1 k1 _=>?_
  lk;refine%[g,qs,ls,ts,rfl,hg,λb1 h'=>by rw[h'.one ac];exact nr|λl H1 ns ss s1 hl la sl a3=>k1 _ _ (ap λD2 k2 _=>?_)];obtain rfl:=ac.one a3;lk;refine%[L,SqL.of (s1 _ _ ha),⋯|λm M fm pm so=>?_];have s2:=s1.trans (aj.upd (o:= .lst (M.map V.str)) fm);have hm:upd H1 m (.lst (M.map V.str)) m=_:=ae;have ag:=aj.upd (o:= .lst (M.map V.str)) fm _ _ hl;have ah:=la.up (aj.upd (o:= .lst (M.map V.str)) fm)
  generalize upd H1 m (.lst (M.map V.str))=I at s2 hm ag ah
  refine%[g,c2,c3,c4,qs,ls,ts,rfl,gr.up s2,hg.nd,hg.so,⋯|λn H3 ms s3 fn hn N=>?_];obtain rfl:M=ms:=jj a8 (λ_ _ a b=>dj a b) so N.so (pm.nodup_iff.mpr nd) N.nd λx=>by rw[pm.mem_iff,mem,N.mem]
  have al:∀{r:Hp} (j:Nat) (x y:V),(M.map V.str)[j]? =some x->(M.map V.str)[j]? =some y->wW r x y:=λ{r} j x y ex ey=> .inl %[Za (ex.symm.trans ey)|by
   rw[Zl]at ex;have%[t,_|rfl]:=map_eq_some_iff.mp ex;rfl]
  refine%[m,n,_,_,rfl,rfl,s3 _ _ hm,hn,rfl,al,false,rfl|oA (k2 _ _ (ap λD3 k3 _=>?_))];have s4:=s2.trans s3;have a4:=s3 _ _ ag;have a5:=ah.up s3;lk;intro d fd;refine k3 _ _ (ap λD4 k4 _=>aA λbt hK=>?_);have s5:=s4.trans (aj.upd (o:= .dK []) fd);have hd:upd H3 d (.dK []) d=some (.dK (VD (L.take 0) λn=> .int (plc L n))):=ae;have ai:=aj.upd (o:= .dK []) fd _ _ a4;have an:=a5.up (aj.upd (o:= .dK []) fd);have a6:=s4.free fd
  generalize upd H3 d (.dK [])=H5 at s5 hd ai an
  lk;have Lm:(L.map V.str).length=L.length:=Z6 _;have a7:=s5 _ _ ha;refine%[_,SqL.of a7|hK _ _ (im (λi G r=>(∃o4 o5,G=[!g,!a,!l,!d,o4,o5])/\aj H r/\r l=some (.lst (ss.map λt=>V.ref t.1))/\cS r ns ss/\r d=some (.dK (VD (L.take i) λn=> .int (plc L n))))
   %[%[none,none|rfl],s5,ai,an|hd] (λi G r _ h=>SqL.of (h.2.1 _ _ ha)) ?_ ?_)]
  .intro i x TT G r hx %[%[o4,o5|rfl],sm,u,O|B] hT;rw[Zl]at hx;have%[z,hz|rfl]:=map_eq_some_iff.mp hx;have i1:i<L.length:=(Xn hz).1;have s0:=aj.upd (o:= .tup [.int i,.str z]) hT;have as:upd r TT (.tup [.int i,.str z]) TT=_:=ae;have U:=s0 _ _ u;have C:=O.up s0;have Y:=s0 _ _ B;have a0:=sm.trans s0
   generalize upd r TT (.tup [.int i,.str z])=H6 at s0 as U C Y a0
   lk;have ne:∀{b:Addr} {o:HO},H6 b=some o->o≠ .dK (VD (L.take i) λn=> .int (plc L n))->b≠d:=λe n c=>n (by rw[c,Y]at e;exact(Za e).symm)
   refine%[_,SqT.of as,rfl,_,_,rfl,_,_,rfl,rfl,_,lG.k (k:=Sum.inr z) Y (by unfold VD;rw[Z6,Yn];exact aJ ⋯),%[_|rfl],aj.set a0 a6,(ao (ne U ∅)).trans U,λt ht=>%[(ao (ne (C t ht).1 ∅)).trans (C t ht).1|(C t ht).2]|?_];have zn:z∉L.take i:=λhm=>by
    have h:=nd;rw[<-Xd i L,X3]at h;exact h.2.2 z hm z (Z8 (i:=0) (by rw[Yb];exact hz)) rfl
   rw[ae,jy _ (sq zn),Xc,hz];unfold VD;rw[Zd];show some (HO.dK (_++[(Sum.inr z,V.int i)]))=some (HO.dK (_++[(Sum.inr z,V.int (plc L z))]));rw[BK nd hz]
  .intro G r %[%[o4,o5|rfl],sm,u,O|B];rw[Lm,Zn (Zi _)]at B;refine k4 _ _ ?_;lk;refine aL λbc bf=>?_
   lk;refine .inl %[%[_|SqL.of u]|bf _ _ λF hF=>?_];refine bC (J:=Itl K l) (n:=ss.length) (D:=F) (λj vs G I=>(∃o1 o2 o3,G=[o1,o2,o3,!d])/\aj r I/\I F=some (.lst vs)/\vs=(List.replicate j true).map V.bl)
    %[%[none,none,none|rfl],aj.upd hF,ae|rfl] (λj _ _ I hj ab=>%[_,V.ref ss[j].1,SqL.of (ab.2.1 _ _ u)|by simp[hj]]) (λ_ _ I ab=>%[_,SqL.of (ab.2.1 _ _ u)|by simp]) ?_ ?_
   .intro j vs G I hj %[%[o1,o2,o3|rfl],v,bl|hv] x H4 %[e2|hx];subst e2;have a1:=hx _ (SqL.of (v _ _ u));rw[Zl,Z4 hj]at a1;obtain rfl:x=V.ref ss[j].1:=(Za a1).symm;have%[q1,aa,bb,zz,e|_]:=O ss[j] (Yd hj);have st:=SqT.of (K:=K) (v _ _ q1);have%[p,q,hp,hq|pq]:=a2 aa bb %[zz|by rw[<-e];exact Xr %[_,Yd hj|rfl]];rw[e]at st;have get:∀{y:Str} {i:Nat},L[i]? =some y->dR H4 d (.str y) (some (.int i)):=λ{y i} hy=>by
     have:=dR.k (k:=Sum.inr y) (v _ _ B);rw[kQ (Z8 hy),BK nd hy]at this;exact this
    lk;refine%[_,st,rfl,_,_,rfl,_,_,rfl,_,_,rfl,rfl,_,get hp,_,get hq,_,rfl,_,rfl|CK.mk hj bl (by rw[hv,Z6,List.length_replicate];exact aJ ⋯) %[%[_,_,_|rfl],aj.set v hF,ae|?_]];rw[hv,List.replicate_succ',Zd,Zf (show(p:Int)<q by lia)];rfl
   intro vs G I %[_,v,bm|hv];refine%[F,rfl,List.replicate ss.length true,by rw[<-hv];exact SqL.of bm|?_];rw[show(List.replicate ss.length true).all id=true by simp];exact kk _ (sm.trans v)
theorem ke(n:Str)(c:Nat):lnS n (sgn c)=dc n c:=by
 refine eY ?_;show(([].toArray) ++n.cps++ ([46].toArray) ++ ([c].toArray)).toList=(n.cps.toList++[46,c]).toArray.toList;simp
theorem sC:x∈lyr p↔∃c,Let p.2.2 c/\x=dc p.2.1 c:=by
 unfold lyr;rw[mem_map]
 constructor
 .rintro⟨z,b,rfl⟩;have%[c,a|rfl]:=gK b;exact%[c,fQ.mp a|ke _ _]
 .rintro⟨c,a,rfl⟩;exact%[sgn c,br.mpr (Xr %[c,fQ.mpr a|rfl])|ke _ _]
theorem oh(h:lC d):x∈(fW d).map (·.1)↔∃c,Let d.rows c/\x=dc d.name c:=by
 unfold fW Drn.rows;rw[Yt,mem_map]
 constructor
 .rintro⟨a,i,rfl⟩;have%[e,f|g]:=ef.mp i;exact%[sg a d.sh,(ue h.2.2.2.2.2).mpr %[a,e,f,g|rfl]|rfl]
 .rintro⟨c,g,rfl⟩;have%[a,e,f,b|rfl]:=(ue h.2.2.2.2.2).mp g;exact%[a,ef.mpr %[e,f|b]|rfl]
theorem oi:∀{xs:List t},(xs.map m).Nodup->(∀p∈xs,(f p).Nodup)->(∀p∈xs,∀x∈f p,∃c,x=dc (m p) c)->(xs.flatMap f).Nodup
 |[],_,_,_=>X6
 | p::xs,h,l,i=>by
   rw[Ys,nodup_cons]at h;rw[List.flatMap_cons,X3];refine%[l p Zm,oi h.2 (λq g=>l q (Zk _ g)) (λq g=>i q (Zk _ g))|λa n b o e=>?_];have%[q,g|j]:=mem_flatMap.mp o;have%[c|r]:=i p Zm a n;have%[d|s]:=i q (Zk _ g) b j;have:=(kD (r.symm.trans (e.trans s))).1;exact h.1 (Xr %[q,g|this.symm])
theorem yW(p:Addr×Str×ZB):(lyr p).Nodup:=by
 unfold lyr;rw[X4,Xa];refine Xi (λ{x y} e f a b=>?_) (nodup_iff_pairwise_ne.mp (eG _));have%[c,_|rfl]:=gK e;have%[d,_|rfl]:=gK f;rw[ke,ke]at b;exact a (by rw[(kD b).2])
theorem wo(d:Drn):((fW d).map (·.1)).Nodup:=by
 unfold fW;rw[Yt,X4,Xa];refine Xi (λ{x y} b c a e=>?_) (nodup_iff_pairwise_ne.mp (uf d.cols));have%[f,g|_]:=ef.mp b;have%[h,i|_]:=ef.mp c;exact a (FE f g h i (kD e).2)
theorem nQ.mono(h:nQ g xs)(s:∀x∈g,x∈i):nQ i xs:=by
 rcases h with⟨w,a,b,e,c,d,f,j⟩|⟨w,a,y,e,c,d,f⟩
 .exact .inl %[w,a,b,e,c,s _ d,s _ f|j]
 .exact .inr %[w,a,y,e,c,s _ d|f]
theorem wp{d:List _}{e:ZB}(h:e.Perm (d.flatMap lyr)){x:Str}:x∈e↔∃p∈d,∃c,Let p.2.2 c/\x=dc p.2.1 c:=by
 rw[h.mem_iff,mem_flatMap]
 constructor
 .rintro⟨p,a,b⟩;exact%[p,a|sC.mp b]
 .rintro⟨p,a,b⟩;exact%[p,a|sC.mpr b]
theorem qt(h:∀p∈ds,lC p.2):x∈(ds.flatMap λp=>(fW p.2).map (·.1))↔∃p∈dcs ds,∃c,Let p.2.2 c/\x=dc p.2.1 c:=by
 rw[mem_flatMap]
 constructor
 .rintro⟨p,a,b⟩;exact%[_,Xr %[p,a|rfl]|(oh (h p a)).mp b]
 .rintro⟨q,d,b⟩;have%[p,a|rfl]:=Xq d;exact%[p,a|(oh (h p a)).mpr b]
theorem uM{ds:List (Addr×Drn)}(h:∀p∈ds,lC p.2)(a:(ds.map λp=>p.2.name).Nodup):(ds.flatMap λp=>(fW p.2).map (·.1)).Nodup:=
 oi a (λp _=>wo p.2) λp b x d=>by
  have%[c,_|e]:=(oh (h p b)).mp d;exact%[c|e]
theorem kf{a:List _}(d:(a.map λp=>p.2.1).Nodup){b:ZB}(h:b.Perm (a.flatMap lyr)):b.Nodup:=by
 rw[h.nodup_iff];exact oi d (λp _=>yW p) λp g x f=>by
  have%[c,_|e]:=sC.mp f;exact%[c|e]
structure gO (H:Hp) (cs:List _) (qs:List _):Prop where
 ca:ce H cs
 nd:(cs.map λp=>p.2.1).Nodup
 p1:1<=cs.length
 p3:cs.length<=4
 few:∀p∈cs,yF p.2.2
 ly:(cs.flatMap lyr).length<=80
 sa:∀ls,ls.Perm (cs.flatMap lyr)->cO H ls qs
 q20:qs.length<=30
theorem gO.up(h:gO H a qs)(s:aj H b):gO b a qs:=
 %[h.ca.up s,h.nd,h.p1,h.p3,h.few,h.ly,λc p=>(h.sa c p).up s|h.q20]
inductive oj (K:ZA) (vs:ZM) (H:Hp) (Q:VK) (E0:XK):Prop
 | mk (a:Addr) (ns:ZL) (z0:vs=[.ref a]) (z1:SqL K H a (ns.map V.int)) (z2:Cj H) (z3:ns.length<=63) (z4:∀H',Q (.bl true) H'):oj K vs H Q E0
theorem Dj{R:Hp->Prop}(l:H g=none)(j:H d=none)(r:H a=some (.lst (cF i)))(s:H b=some (.lst (qs.map λq=>V.ref q.1)))(p:gO H i qs)
 (k:∀f c ts,aj H f->fZ mg f g qs c ts->c.Perm (i.flatMap lyr)->(∀k,k∈ts.map (·.2)↔k∈fj i\/k∈cv qs qs.length)->R f):
 si mg [.ref g,.ref a,.ref b] (upd (upd H d (.own g)) g (.ins (aD mg "Ground") d [])) (λv u=>v= .non/\R u) E0:=by
 have h:aj H (upd (upd H d (.own g)) g (.ins (aD mg "Ground") d [])):=λb o e=>by
  rw[ao (aw e l),ao (aw e j)];exact e
 refine%[g,a,b,d,i,qs,rfl,ae,h _ _ r,h _ _ s,p.ca.up h,p.nd,p.p1,p.p3,p.few,p.ly,λc q=>(p.sa c q).up h,p.q20|λf c ts y z A B C tk E G I pl J=>%[rfl|k f c ts (λb o e=>B b o (aw e l) (h _ _ e)) %[%[y,z,A|C],kf p.nd pl,J,pl.length_eq▸p.ly,I,λk m=>?_,λk m=>?_|E] pl G]]<;> have%[t,n|rfl]:=Xq m
 .exact(tk t n).1
 .exact(tk t n).2
theorem wq{X:Cx}{mg:ZC}{x:Str}{p:Pos}(e:X.mg=mg)(b:Gl X x)(c:mg x=some (.ref (aD mg x)))(a:(x==("__debug__":Str))=false):QE X (.Name x p) (tC (.ref (aD mg x))):=by
 subst e;exact clsE b c a
inductive uN (mg:ZC) (vs:ZM) (H:Hp) (Q:VK) (E0:XK):Prop
 | mk (g:Addr) (qs:ZN) (ls:ZB) (ts:ZG) (lk:List ZB) (z0:vs=[.ref g]) (z1:fZ mg H g qs ls ts) (z2:bG (bn qs) (ts.map (·.2)) lk) (z3:(∃x,Rch lk x x)) (z4:∀l H' ws x,aj H H'->H l=none->H' l=some (.lst (ws.map λt=>V.ref t.1))->aE H' ws->Sho lk x x (ws.map (·.2))->ws.length<=200->(∀y n,Dst lk y (n+1) y->ws.length<=n+1)->Q (.ref l) H'):uN mg vs H Q E0
theorem wt(T:Txt K mg):↥9 "_law_torn" ["_law_ground_here"] (uN mg):=by
 have sB:=sB (P:=P) (w:=w) (base:=base) T;refine T.bo.cal fh (λH vs Q E h=>?_)
 .have%[g,qs,B,ts,lk,rfl,M,u,N|O]:=h;refine%[rfl|λf J A outer s L=>?_]
  let U:L2.St->XK:=λn c d m=>n=[!g,some .non,none]/\c= .ref (aD mg "Torn")/\∃b l ws x,d=some b/\aj H m/\H b=none/\H l=none/\b≠l/\BJ m lk b l ws x
  refine%[_,%["JDI1!D?1EH1",fh.nd|(tryV (i:=2) U rfl rfl fh.nd rfl rfl rfl rfl T.c_DigError T.t_DigError rfl (λ_=>
   (au (cf rfl (GJ yD sB L rfl rfl rfl rfl #[↑0]))))
   (λ_=>(au (ifS (wT (iP (~~~(cbE (AA (K:=K) rfl) rfl T.ac boot_isinstance rfl rfl rfl #[↑2,(wq (mg:=mg) rfl rfl T.c_Torn rfl)])) (fD (~~~(cbE (AA (K:=K) rfl) rfl T.ac boot_isinstance rfl rfl rfl #[↑2,(blE (v:= .ty "ValueError") rfl T.am PyProof.Rows.Boot.«ValueError» rfl rfl rfl)])))))
    (au (ifS (ii (~~~(cbE (AA (K:=K) rfl) rfl T.ac boot_isinstance rfl rfl rfl #[↑2,(km #[(wq (mg:=mg) rfl rfl T.c_NoCut rfl),(wq (mg:=mg) rfl rfl T.c_NoGround rfl),(wq (mg:=mg) rfl rfl T.c_NoSaying rfl),(wq (mg:=mg) rfl rfl T.c_NoDeed rfl),(wq (mg:=mg) rfl rfl T.c_NoRow rfl),(wq (mg:=mg) rfl rfl T.c_NoLayer rfl)])])))
     (au (aO 1 fh.nd rfl (Gq T.g_Torn_ring rfl ↑2)))
     aY))
    aY))))]|?_]
  show bo _ _ _ [!g,none,none] H;refine ap λD1 k1 r1=>?_
  lk;refine k1 _ _ (ap λD2 k2 r2=>?_);refine%[?_|?_]
  .lk;unfold Bg;lk;exact%[g,qs,B,ts,lk,[],rfl,M,u,N|λd l m ws x s' Y hl dl j=>%[rfl,rfl,d,l,ws,x,rfl,s',Y,hl,dl|j]]
  .intro n c d m %[rfl,rfl,b,l,ws,x,rfl,sm,aa,fl,ab|j];refine%[_,rfl,T.u_Torn|λa _ ha=>?_];have y:upd m a (ExH a (aD mg "Torn") (some b)) a=some (ExH a (aD mg "Torn") (some b)):=ae;have q:=aj.upd (o:=ExH a (aD mg "Torn") (some b)) ha;have r:=sm.trans q;show l9 _ _ _ _ [!g,some .non,!a] _
   generalize upd m a (ExH a (aD mg "Torn") (some b))=H1 at y q r
   have C:=q _ _ j.ad;have hL:=q _ _ j.al;have e:∀z,aj H1 z->TyX K z (.ref a) (.ref (aD mg "Torn")):=λz G=> .ex %[_,G _ _ y|.inr %[b,_,rfl|G _ _ C]] T.x_Torn.is
   refine aF λD3 k3 r3=>?_
   lk;refine%[_,e _ (aj.refl _),true,.inl T.k_Torn_Torn|?_];rw[if_pos rfl];refine%[_,e _ (aj.refl _),true,T.k_Torn_ValueError|?_];rw[if_pos rfl];refine%[#[6]|λp hp=>?_];have sp:=aj.upd (o:= .tup [V.ref (aD mg "NoCut"),V.ref (aD mg "NoGround"),V.ref (aD mg "NoSaying"),V.ref (aD mg "NoDeed"),V.ref (aD mg "NoRow"),V.ref (aD mg "NoLayer")]) hp;refine%[_,e _ sp,false,.inr %[_,ae|T.k_Torn_any2]|?_];rw[if_pos (show(not false)=true from rfl)];simp only[Au];lk;refine%[b,sp _ _ y,_,sp _ _ C,.ref l,by rfl|?_];refine k3 _ _ (k2 [!g,!l,none] _ ?_);lk;exact O l _ ws x (r.trans sp) fl (sp _ _ hL) (λt I=>%[(j.tu t I).1|sp _ _ (q _ _ (j.tu t I).2)]) j.sho j.len j.min
theorem sD{b:Str}:∀{us:List ZB} {a:Str},Wal us a b->∀i,i<us.length->∃p q z,us[i]? =some [p,q,z]/\(i=0->p=a)/\(∀k,us[i+1]? =some k->k[0]? =some q)/\(i+1=us.length->q=b)
 |[],_,_,_,h=>absurd h (X7 _)
 | k::r,a,⟨c,z,e,w⟩,0,_=>by
   refine%[a,c,z,by rw[e];rfl,λ_=>rfl,λd h'=>?_|λh'=>?_]
   .match r,w,h' with
    | k2::n,⟨o,s,f,_⟩,h'=>
      rw[<-Za (show some k2=some d from h'),f];rfl
   .match r,w,h' with
    |[],w,_=>exact w
    | _::_,_,h'=>exact absurd h' ∅
 | k::r,a,⟨c,z,e,w⟩,i+1,h=>by
   have%[p,q,g,j,_,l|m]:=sD w i (by simpa using h);exact%[p,q,g,j,λh=>absurd h ⋯,l|λh=>m (by simpa using h)]
theorem yX{ws:ZG}{x:Str}(w:Wal (ws.map (·.2)) x x){k:Nat}(g:k<ws.length):∃t∈ws,∃p q z b d,ws[k].2=[p,q,z]/\t.2=[b,p,d]/\atI (ws.map λt=>V.ref t.1) ((k:Int) -1)=some (.ref t.1):=by
 have u:(ws.map (·.2)).length=ws.length:=Z6 _;have a:∀(i:Nat) (h:i<ws.length) l,(ws.map (·.2))[i]? =some l->ws[i].2=l:=λi h l e=>by
  rw[Zl,Z4 h]at e;exact Za e
 have%[p,q,z,j,n,_|_]:=sD w k ⋯;have m:=a k g _ j;cases k with
 | zero=>
   have%[b,o,d,g1,_,_|r]:=sD w (ws.length-1) ⋯;have f:=a (ws.length-1) ⋯ _ g1;rw[r ⋯,<-n rfl]at f;refine%[_,Yd (show ws.length-1<ws.length by lia),p,q,z,b,d,m,f|?_];obtain⟨ys,y,rfl⟩:∃ys y,ws=ys++[y]:=%[ws.dropLast,ws.getLast (by intro c;rw[c]at g;exact absurd g (X7 _))|(List.dropLast_concat_getLast _).symm]
   rw[Zd,show((0:Nat):Int) -1= -1 from rfl,List.map_singleton,mj];simp
 | succ k=>
   have%[b,o,d,g1,_,g3|_]:=sD w k ⋯;have f:=a k ⋯ _ g1;have s:=g3 _ j;rw[<-Za s]at f;refine%[_,Yd (show k<ws.length by lia),p,q,z,b,d,m,f|?_];rw[show((k+1:Nat):Int) -1=(k:Nat) by lia];exact cq (by rw[Zl,Z4 (show k<ws.length by lia)];rfl)
inductive qu (vs:ZM) (H:Hp) (Q:VK) (E0:XK):Prop
 | mk (l m:Addr) (ns:ZB) (ws ss:ZG) (x:Str) (z0:vs=[.ref l,.ref m]) (z1:H l=some (.lst (ws.map λt=>V.ref t.1))) (z2:aE H ws) (z3:ws.length<=200) (z4:H m=some (.lst (ss.map λt=>V.ref t.1))) (z5:cS H ns ss) (z6:ws≠[]) (z7:Sho (ss.map (·.2)) x x (ws.map (·.2))) (z8:∀H',aj H H'->Q (.bl true) H'):qu vs H Q E0
inductive uO (vs:ZM) (H:Hp) (Q:VK) (E0:XK):Prop
 | mk (l m:Addr) (ns L:ZB) (ss:ZG) (z0:vs=[.ref l,.ref m]) (z1:H l=some (.lst (L.map V.str))) (z2:L.Nodup) (z3:H m=some (.lst (ss.map λt=>V.ref t.1))) (z4:cS H ns ss) (z5:(∀x y,Ed (ss.map (·.2)) x y->∃(i j:Nat),L[i]? =some y/\L[j]? =some x/\i<j)) (z6:Q (.bl true) H):uO vs H Q E0
theorem sE(T:Txt K mg):↥1 "_law_closes" ["_law_found","_law_some"] qu:=by
 refine T.bp.cal iZ (λH vs Q E h=>?_)
 .have%[l,m,U,ws,ss,x,rfl,b,c,I,n,a,Y,e|kk]:=h;refine%[rfl|λf O A outer s G=>?_];have wl:(ws.map λt=>V.ref t.1).length=ws.length:=Z6 _;refine%[_,%["JDNK]y0VBEHlODS$AefA0BBL2ENasK]zP021zKqUP02CUP0F<2CCEHlOEHl",iZ.nd|G]|?_]
  show bo _ _ _ [!l,!m,none] H;refine ap λD1 k1 _=>?_
  lk;refine%[#[0]|λp J=>%[_,_,_,rfl,rfl,aj.upd J _ _ b,ae,_,rfl|?_]];rw[if_neg (by simpa using Y)];have d:=aj.upd (o:= .lst []) J;have b:=d _ _ b;have n:=d _ _ n;have a:=a.up d;have c:aE (upd H p (.lst [])) ws:=λt r=>%[(c t r).1|d _ _ (c t r).2]
  generalize upd H p (.lst [])=H1 at d b n a c
  refine k1 _ _ (ap λD2 k2 _=>aA λL hK=>?_);lk;refine%[ws.length,.inl %[_,SqL.of b|wl.symm],⋯,⋯|hK _ _ ?_];refine cP (λi v u=>(∃y,v=[!l,!m,y])/\u=H1) %[%[_|rfl]|rfl] ?_ ?_
  .intro i v u hi %[%[y|rfl]|rfl];show l9 _ _ _ _ [!l,!m,some (.int (0+i))] u;rw[Int.zero_add];refine aF λD3 k3 _=>?_
   lk;have%[t',B,p,q,z,p',z',e1,e2|ea]:=yX e.wal hi;have g:=Yd hi;have M:atI (ws.map λt=>V.ref t.1) (i:Int)=some (.ref ws[i].1):=cq (by rw[Zl,Z4 hi];rfl);have C:=(c _ g).2;have N:=(c _ B).2;have j:=e.sub _ (Xr %[_,g|rfl]);rw[e1]at C j;rw[e2]at N;refine%[_,SqL.of b,_,M,_,_,_,ss,rfl,rfl,C,n,λt r=>(a t r).1,j,_,rfl|oA %[_,SqL.of b,_,M,_,rfl,_,SqT.of C,_,rfl,_,SqL.of b,_,ea,_,rfl,_,SqT.of N,_,rfl|?_]];exact%[rfl|by rw[if_neg ∅];exact k3 _ _ %[%[_|rfl]|rfl]]
  .intro v u %[%[y|rfl]|rfl];refine k2 _ _ ?_;lk;exact kk _ d
theorem uP(T:Txt K mg):↥1 "_law_keeps" ["_law_found","_law_some"] uO:=by
 refine T.bq.cal d6 (λH vs Q E h=>?_)
 .have%[l,m,Y,L,ss,rfl,a,nd,B,d,g|kk]:=h;refine%[rfl|λf U A outer s hr=>?_];refine%[_,%["JDST1cML2ML3ML4dENasK~;20sK~;30zK]!~<~=0A3B~<~=0A2BEHlOEHl"|d6.nd]|?_]
  show bo _ _ _ [!l,!m,none,none,none] H;refine ap λD1 k1 _=>aA λC hK=>?_
  lk;refine .inl %[%[_|SqL.of B]|hK _ _ (bL (xs:=ss.map λt=>V.ref t.1) (λi b c=>(∃n o r,b=[!l,!m,n,o,r])/\c=H) %[%[_,_,_|rfl]|rfl] (λi b c _ h=>by rw[h.2];exact SqL.of B) ?_ ?_)]
  .intro i x b c G %[%[n,o,r|rfl]|rfl];rw[Zl]at G;have%[t,ht|rfl]:=map_eq_some_iff.mp G;have I:=Z8 ht;have%[J,M,N,zz,e|_]:=d t I;have%[p,q,u,v|pq]:=g M N %[zz|by rw[<-e];exact Xr %[_,I|rfl]];rw[e]at J;lk;have fs:=kL L;have O:∀{y:Str} {i:Nat},L[i]? =some y-> ¬ (!inV (V.str y) (L.map V.str))=true:=λhy=>by
    rw[rZ,Zf (Z8 hy)];exact Zu
   refine%[_,SqT.of J,rfl,_,_,rfl,_,_,rfl,_,_,rfl,rfl,_,.inl (SqL.of a),rfl,fs|?_];rw[if_neg (O v)];refine%[_,.inl (SqL.of a),rfl,fs|?_];rw[if_neg (O u)];refine%[.inl %[_|SqL.of a],N,rfl,L,a,Z8 u|λj hj=>%[.inl %[_|SqL.of a],M,rfl,L,a,Z8 v|λj' z=>?_]];have e1:=ei nd hj u;have e2:=ei nd z v;rw[if_neg (by simp only[decide_eq_true_eq];lia)];exact%[_|rfl]
  .intro b c %[%[n,o,r|rfl]|rfl];refine k1 _ _ ?_;lk;exact kk
theorem Dst.mono{ks c:List ZB}(h:∀k∈ks,k∈c){a b:Str}{n:Nat}(d:Dst ks a n b):Dst c a n b:=by
 have%[us,l,i|w]:=d;exact%[us,l,λk q=>h k (i k q)|w]
theorem Rch.mono{ks c:List ZB}(h:∀k∈ks,k∈c){a b:Str}(r:Rch ks a b):Rch c a b:=by
 have%[n|d]:=r.dst;exact(Dst.mono h d).rch
def jr(q:Addr×ZM):Prop:=∃a b:Str,q.2=[.str "later",.str a,.str b]
theorem qv{qs:ZN}{q:Addr×ZM}(h:jr q):bn (qs++[q])=bn qs:=by
 funext a b;refine propext %[λ⟨p,c,e⟩=>?_|λ⟨p,c,e⟩=>%[p,Yv _ c|e]];rcases Xo c with c|c
 .exact%[p,c|e]
 .have%[x,y|d]:=h;rw[Xp c,d]at e;simp only[List.cons.injEq,V.str.injEq]at e;exact absurd e.1 (by decide +kernel)
theorem om{qs:ZN}{q:Addr×ZM}(h:jr q){k:ZB}:k∈cv (qs++[q]) (qs++[q]).length↔k∈cv qs qs.length\/∃a b,k=[a,b,wa qs.length]/\q.2=[.str "later",.str a,.str b]:=by
 have d:cv (qs++[q]) qs.length=cv qs qs.length:=by
  have:∀n,n<=qs.length->cv (qs++[q]) n=cv qs n:=λn=>by
   induction n with
   | zero=>exact λ_=>rfl
   | succ n f=>
     intro g;have e:=Z4 (show n<qs.length by lia);rw[cD e,cD (by rw[Y9 ⋯];exact e),f ⋯]
  exact this _ (Zi _)
 rw[Z9,show [q].length=1 from rfl,cD (q:=q) ∅,d,Yu];have%[a,b|e]:=h;rw[e,show jp qs.length [V.str "later",V.str a,V.str b]=some [a,b,wa qs.length]from by
  unfold jp;exact if_pos rfl]
 refine or_congr Iff.rfl %[λz=>%[a,b,?_|rfl]|λ⟨x,y,z,c⟩=>?_]
 .simpa using z
 .simp only[List.cons.injEq,V.str.injEq,and_true,true_and]at c;rw[z,c.1,c.2];simp
structure uQ (mg:ZC) (H:Hp) (cs:ZH) (g:Addr) (qs:ZN) (v:V):Prop where
 ex:∃ls ts lk,fZ mg H g qs ls ts/\ls.Perm (cs.flatMap lyr)/\(∀k,k∈ts.map (·.2)↔k∈fj cs\/k∈cv qs qs.length)/\bG (bn qs) (ts.map (·.2)) lk/\((v= .non/\∀x,¬ Rch lk x x)\/∃(n:Nat) (y:Str),v= .int n/\1<=n/\Dst lk y n y/\∀x m,Dst lk x (m+1) x->n<=m+1)
theorem uQ.up{mg:ZC}{H a:Hp}{b:ZH}{g:Addr}{qs:ZN}{v:V}(h:uQ mg H b g qs v)(s:aj H a):uQ mg a b g qs v:=by
 have%[c,ts,lk,d|r]:=h.ex;exact⟨%[c,ts,lk,d.up s|r]⟩
theorem oo{S:Str->Str->Prop}{c d ks e:List ZB}(h:bG S c ks)(g:bG S d e)(sub:∀k∈c,k∈d):∀k∈ks,k∈e:=λk f=>by
 have%[a,b,z,i,j,m|r]:=(h.mem k).mp f;exact(g.mem k).mpr %[a,b,z,i,j,sub _ m|r]
theorem FS{lk:List ZB}{a L:ZB}(ok:uJ lk a L)(g:∀k∈lk,dP a k):∀x y,Ed lk x y->∃(i j:Nat),L[i]? =some y/\L[j]? =some x/\i<j:=λx y e=>by
 have%[z|b]:=e;have%[_,_,_,c,d|_]:=g _ b;simp only[List.cons.injEq,and_true]at c;rw[<-c.1]at d;have%[j|f]:=Xh ((ok.mem x).mpr d);have%[i|hi]:=Xh (ok.ord j x f y %[z|b]);have h:=(Xn hi).1;rw[Yn]at h;exact%[i,j,by rw[<-hi,getElem?_take_of_lt ⋯],f|⋯]
theorem Dk{i:Int}(h:i.natAbs<=100):i.natAbs.log2<1920:=Nat.lt_of_le_of_lt (Nat.log2_le_self _) ⋯
theorem Dl{i:Int}(h:i.natAbs<=100):(Str.ofString "#").length+(Str.ofString (toString i)).length<=sizeLine:=by
 have e:=PySem.int_text_length_le10 (a:=i) (k:=20) (by decide) ⋯;have b:(Str.ofString "#").length=1:=by decide +kernel
 have l:(Str.ofString (toString i)).length<=21:=by rw[PySem.ofString_length];lia
 exact bM ⋯
theorem yY(n:Str):Str.empty++n=n:=eY (by show(([].toArray) ++n.cps).toList=_;simp)
noncomputable def th3(k:ZB):Str:=k.getD 2 Str.empty
inductive xp (mg:ZC) (vs:ZM) (H:Hp) (Q:VK) (E0:XK):Prop
 | mk (a b:Addr) (ah fw:V) (cs:ZH) (qs:ZN) (z0:vs=[.ref a,.ref b,ah,fw]) (z1:H a=some (.lst (cF cs))) (z2:H b=some (.lst (qs.map λq=>V.ref q.1))) (z3:gO H cs qs) (z4:((ah= .non/\fw= .non)\/∃g0 qs0 q,ah= .ref g0/\uQ mg H cs g0 qs0 fw/\qs=qs0++[q]/\jr q)) (z5:∀r H' g v,aj H H'->H' r=some (.lst [.ref g,v])->uQ mg H' cs g qs v->Q (.ref r) H'):xp mg vs H Q E0
theorem oq(T:Txt K mg):↥11 "_law_step" ["_law_cuts","_law_sayings","_law_ahead","_law_fewest"] (xp mg):=by
 refine T.br.cal cz (λH vs Q E h=>?_)
 .have%[a,b,ah,fw,cs,qs,rfl,ha,hb,pk,st|kk]:=h;refine%[rfl|λf ct A outer s hr=>?_];refine%[_,(QSs.h (am (aO 4 cz.nd rfl (GG (Bw T) T.o_Ground hr rfl #[↑0,↑1]))
   (am (aO 5 cz.nd rfl (aI (FR T) hr rfl #[↑4]))
   (am (aO 6 cz.nd rfl (aI (lZ T) hr rfl #[↑4]))
   (am (ifS (bd sR rfl ↑5 eD)
   (am (aO 7 cz.nd rfl (aI (Di T) hr rfl #[↑4]))
    (am (ifS (wT (orW (bd jc rfl ↑3 eD) (orW (ii (~~~(aI (uP T) hr rfl #[↑7,↑6]))) (jD (ii (~~~(aI (og T) hr rfl #[↑4,↑7])))))))
    (au (aM eD))
    aY)
    (am (ifS (wT (iP (bd jc rfl ↑2 eD) (fD (ii (~~~(aI (og T) hr rfl #[↑2,↑7]))))))
    (au (aM eD))
    aY)
    (au (aM (cZ #[↑4,eD]))))))
   aY)
   (am (ifS (wT (orW (ii (~~~(aI (sE T) hr rfl #[↑5,↑6]))) (jD (wT (iP (bd jc rfl ↑3 eD) (fD (bd xX rfl (cbO (cu (K:=K) rfl) T.a8 PySem.boot_len rfl #[↑5]) ↑3)))))))
   (au (aM eD))
   aY)
   (am (aO 8 cz.nd rfl (opE jb eU (ctO ⟨qA⟩ T.ab boot_str rfl #[(opE mG (cbO (cu (K:=K) rfl) T.a8 PySem.boot_len rfl #[↑1]) ay)])))
   (am (ifS (wT (iP (bd sR rfl ↑3 eD) (iP (bd jc rfl ↑2 eD) (fD (bd (qR (K:=K) rfl) rfl ↑8 (eE (aB.of (show bV (ak jn) ["_law_cuts","_law_sayings","_law_ahead","_law_fewest","_law_ground_here","_law_found","_law_some","_law_told","_law_newest"] _ ["_law_link"] []=true from by decide +kernel)) rfl rfl (cT (K:=K) rfl ↑5) (λ_ _ _=>(aP 0 (show(["_law_link"]:ZB).Nodup from by decide +kernel) rfl)) (λ_ _ _=>ko) (λ_ _ _=>(↑0>>ay))))))))
   (au (aM eD))
   aY)
   (am (aO 7 cz.nd rfl (aI (wt T) hr rfl #[↑4]))
   (am (ifS (wT (orW (ii (~~~(cbO (iV (K:=K) rfl) T.ac boot_isinstance rfl #[↑7,(blE (v:= .ty "list") rfl T.a5 boot_list rfl rfl rfl)]))) (jD (bd eF rfl (cbO (cu (K:=K) rfl) T.a8 PySem.boot_len rfl #[↑7]) (cbO (cu (K:=K) rfl) T.a8 PySem.boot_len rfl #[↑5])))))
   (au (aM eD))
   aY)
   (au (aM (cZ #[↑4,(cbO (cu (K:=K) rfl) T.a8 PySem.boot_len rfl #[↑5])])))))))))))))|?_]
  show bo _ _ _ [!a,!b,some ah,some fw,none,none,none,none,none] H;refine ap λD1 k1 _=>?_
  lk;refine λg dx fg b1 cM=>Dj fg b1 ha hb pk λH1 ls ts s1 gr pl tm=>k1 _ _ (ap λD2 k2 _=>?_)
  lk;refine%[g,qs,ls,ts,rfl,gr|λH2 lk s2 G=>?_];have b2:=gr.up s2;have as:=s1.trans s2;have c0:=as _ _ hb;have%[c2,c3,c4|gg]:=b2.gr;have ll:=gr.ll;have a6:∀{R:V->Hp->Prop} {Hx:Hp},aj H2 Hx->(∀m H3 (ss:ZG),aj Hx H3->H3 m=some (.lst (ss.map λt=>V.ref t.1))->aE H3 ss->lk=ss.map (·.2)->ss.length<=150->R (.ref m) H3)->nZ mg [.ref g] Hx R E0:=λ{R Hx} sx go=>
   %[g,c2,c3,c4,qs,ls,ts,rfl,gg.up sx,gr.nd,gr.so,⋯,gr.tl,gr.t3|λm H3 ss s3 _ hm tu b3 sl=>go m H3 ss s3 hm tu (G.one b3) sl]
  refine%[λnr=>k2 _ _ (ap λD3 k3 _=>?_)|λr ws x fr b4 tw M a7 mw=>k2 _ _ (ap λD3 k3 _=>?_)]
  .lk;refine a6 (aj.refl _) λm H3 ss s3 hm tu a0 sl=>k3 _ _ (ap λD4 k4 r4=>?_)
   subst a0;lk;rw[if_pos ∅];have ai:=s2.trans s3;have up:∀{g0:Addr} {u:ZN} {v:V} {q:Addr×ZM},uQ mg H cs g0 u v->qs=u++[q]->jr q->∃N O B,fZ mg H g0 u N O/\N.Perm (cs.flatMap lyr)/\bG (bn u) (O.map (·.2)) B/\bn qs=bn u/\(∀k∈B,k∈ss.map (·.2))/\v= .non:=λ{g0 u v q} I U lq=>by
    have%[N,O,B,al,an,ab,C|rg]:=I.ex;have es:bn qs=bn u:=by rw[U,qv lq]
    have sub:∀k∈B,k∈ss.map (·.2):=oo C (es▸G) λk hk=>(tm k).mpr (((ab k).mp hk).imp_right λh=>by rw[U];exact(om lq).mpr (.inl h))
    refine%[N,O,B,al,an,C,es,sub|?_];rcases rg with⟨e,_⟩|⟨n,y,e,n1,d,_⟩
    .exact e
    .obtain⟨n,rfl⟩:∃i,n=i+1:=%[n-1|⋯]
     exact(nr y (Rch.mono sub d.rch)).elim
   have b5:fw= .non:=by
    rcases st with⟨_,e⟩|⟨g0,u,q,_,I,U,lq⟩
    .exact e
    .exact(up I U lq).choose_spec.choose_spec.choose_spec.2.2.2.2.2
   refine%[g,qs,ls,ts,_,rfl,gr.up ai,G,nr|λo H4 ns L s4 fo ho hn ok=>?_];rw[if_neg (by simp[b5])];have ti:=gr.names G hn;have a1:=FS ok ti;have mem:∀x,x∈L↔x∈ls/\cE (bn qs) x x:=λx=>(ok.mem x).trans (hn.mem x)
   have la:=(iE tu ti).up s4;refine%[o,m,ns,L,ss,rfl,ho,ok.nd,s4 _ _ hm,la,a1,true,rfl|oA ?_];have ac:=gr.up (ai.trans s4);have ag:=as.trans (s3.trans s4);refine%[g,o,qs,ls,ts,_,L,rfl,ac,G,nr,ho,ok.nd,mem,a1|λH5 Y=>%[true,rfl|oA ?_]];have bb:∀H6,aj H5 H6->[V.ref g,V.non].length<=sizeLine/\∀p,H6 p=none->D4.rt (.ref p) (upd H6 p (.lst [.ref g,.non])):=λH6 s6=>%[#[2]|λp hp=>r4 _ _ (kk p _ g .non ((ag.trans (Y.trans s6)).trans (aj.upd hp)) ae ⟨%[ls,ts,_,ac.up ((Y.trans s6).trans (aj.upd hp)),pl,tm,G|.inl %[rfl|nr]]⟩)]
   rcases st with⟨rfl,_⟩|⟨g0,u,q,rfl,I,U,lq⟩
   .rw[if_neg ∅];exact bb H5 (aj.refl _)
   .rw[if_pos ∅];have%[N,O,B,al,an,C,es,sub|_]:=up I U lq;refine%[g0,o,u,N,O,B,L,rfl,al.up (ag.trans Y),C,λx c=>nr x (Rch.mono sub c),Y _ _ ho,ok.nd,λx=>?_,λx y e=>a1 x y (e.imp λ_=>sub _)|λH6 s6=>%[true,rfl|oA (bb H6 s6)]];rw[mem,es,pl.mem_iff,an.mem_iff]
  .lk;refine a6 (aj.refl _) λm H3 ss s3 hm tu a0 sl=>k3 _ _ (ap λD4 k4 r4=>?_)
   subst a0;lk;rw[if_neg ∅];refine k4 _ _ (ap λD5 k5 r5=>?_);lk;have w0:ws≠[]:=λc=>by
    have%[n,e|_]:=M.dst;rw[c]at e;cases e
   have ai:=s2.trans s3;have ti:=gr.ties G;have la:=iE tu ti;have bc:=s3 _ _ b4;have bf:aE H3 ws:=λt ht=>%[(tw t ht).1|s3 _ _ (tw t ht).2]
   have wl:(ws.map λt=>V.ref t.1).length=ws.length:=Z6 _;refine%[r,m,ls,ws,ss,x,rfl,bc,bf,a7,hm,la,w0,M|λH4 s4=>%[true,rfl|oA ?_]];have ag:=as.trans (s3.trans s4);have aa:=s4 _ _ bc;have ac:=gr.up (ai.trans s4);have b6:=ag _ _ hb;have b7:aE H4 ws:=λt ht=>%[(tw t ht).1|s4 _ _ (bf t ht).2]
   have up:∀{g0:Addr} {u:ZN} {v:V} {q:Addr×ZM},uQ mg H cs g0 u v->qs=u++[q]->jr q->∃B,(∀k∈B,k∈ss.map (·.2))/\(∀k∈ss.map (·.2),k∈B\/k[2]? =some (wa u.length))/\((v= .non/\∀x,¬ Rch B x x)\/∃n:Nat,v= .int n/\ws.length<=n):=λ{g0 u v q} I U lq=>by
    have%[N,O,B,al,an,ab,C|rg]:=I.ex;have es:bn qs=bn u:=by rw[U,qv lq]
    have sub:∀k∈B,k∈ss.map (·.2):=oo C (es▸G) λk hk=>(tm k).mpr (((ab k).mp hk).imp_right λh=>by rw[U];exact(om lq).mpr (.inl h))
    refine%[B,sub,λk hk=>?_|?_]
    .have%[a,b,z,a',b',hm,a2,lb|e]:=(G.mem k).mp hk;rw[es]at a2 lb;rcases(tm _).mp hm with h|h
     .exact .inl ((C.mem k).mpr %[a,b,z,a',b',(ab _).mpr (.inl h),a2,lb|e])
     .rw[U]at h;rcases(om lq).mp h with h|⟨x,y,e',_⟩
      .exact .inl ((C.mem k).mpr %[a,b,z,a',b',(ab _).mpr (.inr h),a2,lb|e])
      .simp only[List.cons.injEq,and_true]at e';exact .inr (by rw[e,e'.2.2];rfl)
    .rcases rg with h|⟨n,y,e,n1,d,_⟩
     .exact .inl h
     .obtain⟨n,rfl⟩:∃i,n=i+1:=%[n-1|⋯]
      exact .inr %[n+1,e|mw y n (Dst.mono sub d)]
   have a3:D5.nx [!a,!b,some ah,some fw,!g,!r,!m,none,none] H4:=by
    refine k5 _ _ (ap λD6 k6 r6=>?_);lk;have c5:=pk.q20;refine%[qs.length,.inl %[_,SqL.of b6|(Z6 _).symm],Dk ⋯,Dl ⋯|k6 _ _ (ap λD7 k7 r7=>?_)];lk
    generalize hz:Str.ofString "#"++Str.ofString (toString ((qs.length:Int) -1))=nw
    have a4:∀H5,aj H4 H5->D7.nx [!a,!b,some ah,some fw,!g,!r,!m,none,-nw] H5:=λH5 Y=>by
     refine k7 _ _ (ap λD8 k8 r8=>?_);lk;refine%[g,qs,ls,ts,_,rfl,ac.up Y,G,%[x|M.rch]|λl H6 us y s6 _ hl c7 bl cl mu=>k8 _ _ (ap λD9 k9 r9=>?_)];have el:us.length=ws.length:=by
      have%[n,e|d]:=M.dst;have%[n',e'|d']:=bl.dst;rw[Z6]at e e';have:=mu x n d;have:=mw y n' d'
      lia
     have ul:(us.map λt=>V.ref t.1).length=us.length:=Z6 _;have bm:=s6 _ _ (Y _ _ aa);have b9:=ac.up (Y.trans s6);have ca:=ag.trans (Y.trans s6);lk;refine%[.type "list",.lst hl,true,by rfl|oA %[us.length,.inl %[_,SqL.of hl|ul.symm],ws.length,.inl %[_,SqL.of bm|wl.symm]|?_]];rw[if_neg (by simp[el])];refine k9 _ _ ?_;lk;refine%[ws.length,.inl %[_,SqL.of bm|wl.symm],#[2]|λp hp=>kk p _ g (.int ws.length) (ca.trans (aj.upd hp)) ae ⟨%[ls,ts,_,b9.up (aj.upd hp),pl,tm,G|.inr %[ws.length,x,rfl,length_pos_iff.mpr w0,%[ws.map (·.2),Z6 _,M.sub|M.wal]|mw]]⟩]
    refine bJ (λc1=>bJ (λc2=>?_) λ_=>a4 H4 (aj.refl _)) λ_=>a4 H4 (aj.refl _)
    refine aL λco hK=>?_
    lk;refine .inl %[%[_|SqL.of aa]|hK _ _ λF hF=>?_];have bt:∀t∈ws,∃p q z,t.2=[p,q,z]:=λt ht=>by
     have%[p,q,z,e|_]:=ti _ (M.sub _ (Xr %[t,ht|rfl]));exact%[p,q,z|e]
    refine bC (J:=Itl K r) (n:=ws.length) (D:=F) (λj vs σ H'=>(∃o1,σ=[o1])/\aj H4 H'/\H' F=some (.lst vs)/\vs=((ws.take j).map λt=>th3 t.2).map V.str)
     %[%[none|rfl],aj.upd hF,ae|rfl] (λj _ _ H' hj a5=>%[_,V.ref ws[j].1,SqL.of (a5.2.1 _ _ aa)|by simp[hj]]) (λ_ _ H' a5=>%[_,SqL.of (a5.2.1 _ _ aa)|by simp]) ?_ ?_
    .intro j vs σ H5 hj %[%[o1|rfl],Y,cb|hv] x H6 %[e2|hx];subst e2;have b0:=hx _ (SqL.of (Y _ _ aa));rw[Zl,Z4 hj]at b0;obtain rfl:x=V.ref ws[j].1:=(Za b0).symm;have%[p,q,z|e]:=bt ws[j] (Yd hj);lk;refine%[_,SqT.of (Y _ _ (b7 _ (Yd hj)).2),V.str (th3 ws[j].2),by rw[e];rfl|CK.mk hj cb (by rw[hv,Z6,Z6,Yn];exact aJ ⋯) %[%[_|rfl],aj.set Y hF,ae|?_]];rw[hv,Xc,Z4 hj,Zd,Zd];rfl
    intro vs σ H5 %[_,Y,cd|hv];rw[Zn (Zi _)]at hv;subst hv;refine .inr %[F,rfl,_,.inl (SqL.of cd),rfl,kL _|?_];rw[rZ,if_neg]
    .exact a4 H5 Y
    have c1:fw= .non:=Zo c1;rcases st with⟨e,_⟩|⟨g0,u,q,_,I,U,lq⟩
    .rw[e]at c2;exact absurd c2 ∅
    obtain⟨B,sub,ch,⟨_,no⟩|⟨n,e,_⟩⟩:=up I U lq
    .rw[Zf]
     .exact Zu
     refine Classical.byContradiction λc=>?_
     have%[n,e,us,l,i|w]:=M.dst;refine no x (Dst.rch (n:=n) %[ws.map (·.2),e,λk hk=>(ch k (M.sub k hk)).resolve_right λh=>c ?_|M.wal]);have%[t,ht|rfl]:=Xq hk;have%[p,q',z|e']:=bt t ht;rw[e']at h;refine Xr %[t,ht|?_];rw[e',show th3 [p,q',z]=z from rfl,Za h,<-hz,U,Z9];unfold wa;rw[yY,show((u.length+[q].length:Nat):Int) -1=u.length by simp]
    .rw[e]at c1;cases c1
   rcases st with⟨rfl,rfl⟩|⟨g0,u,q,rfl,I,U,lq⟩
   .rw[if_neg ∅];exact a3
   .obtain⟨B,_,_,⟨rfl,_⟩|⟨n,rfl,hn⟩⟩:=up I U lq
    .rw[if_neg ∅];exact a3
    .rw[if_pos ∅];refine%[ws.length,.inl %[_,SqL.of aa|wl.symm],n,rfl|?_];rw[if_neg (by simp only[decide_eq_true_eq];lia)];exact a3
theorem gO.sub{H:Hp}{b:ZH}{qs a:ZN}(h:gO H b qs)(s:∀q∈a,q∈qs)(l:a.length<=30):gO H b a:=%[h.ca,h.nd,h.p1,h.p3,h.few,h.ly,λc p q d=>h.sa c p q (s q d)|l]
theorem DG(xs:ZM)(n:Nat):ou xs none (some (n:Int))=xs.take n:=by
 unfold ou;rw[HT.sIx_nat,show HT.sIx xs.length 0 none=0 from rfl,drop_zero,Nat.sub_zero];exact(List.take_eq_take_min ..).symm
theorem xq{a:Type}(f:a->Bool):∀xs:List a,(xs.filter λx=>!f x).length+(xs.filter f).length=xs.length
 |[]=>rfl
 | x::xs=>by
   have:=xq f xs;cases h:f x<;> simp[h]<;> lia
noncomputable def eT(q:Addr×ZM):Bool:=decide (q.2[0]? =some (V.str "later"))
theorem GW{d:ZB}{q:Addr×ZM}(h:nQ d q.2)(e:eT q=true):jr q:=by
 have e:=Zo e;rcases h with⟨w,a,b,c,_⟩|⟨w,a,y,c,hw,_⟩<;> rw[c]at e
 .exact%[a,b|by rw[c,V.str.inj (Za e)]]
 .have:=V.str.inj (Za e);rw[this]at hw;exact absurd hw (by decide +kernel)
theorem FT{f:Addr}{fd:FuncData}(F:Fun K "law" "law" iA f fd)(T:Txt K mg):fC P w K mg base CX0 12 f fd ["_law_script"] (oj K):=by
 refine F.ok gH (by intro a b c d h;have%[_,_,rfl|_]:=h;rfl) (λbt A outer s H vs Q E hr h=>?_)
 .have%[a,ns,rfl,hs,ho,hn|kk]:=h;refine%[_,%["JD~SG]$AG]%A0ACBBcML1ML2ML3dD~N4nmg?1T2W0?2^KqU0Cb0DI5[og?1T2W0?2^KXU0Cb0~D'CDI6G~>A1A4A!A!BDNK~i6!EHlODS$AefA5BBL7DI6G~>A1AF=4[5~D'FZ7CAP6CAP6CBENK~i6!EHlOEHl",gH.nd,(show bV (ak iA) ["_law_script","_law_cuts","_law_sayings","_law_layers","_law_first","_law_more","_law_state","_law_k"] _ ["_law_saying_here"] []=true from by decide +kernel),(show(["_law_saying_here"]:ZB).Nodup from by decide +kernel)|hr]|?_]
  show bo _ _ _ [!a,none,none,none,none,none,none,none] H;refine ap λD1 k1 _=>?_
  lk;refine%[a,ns,86,rfl,hs,⋯,by decide,by decide|λl0 H0 xs s0 f0 h0 U hb=>?_];refine%[l0,xs,rfl,SqL.of h0,λm sm=>SqL.of (sm _ _ h0),U,hb|λt l1 l2 l3 H1 ds qs s1 ft f1 f2 f3 b0 b1 b2 ht h1 h2 h3 d1 d3 C ab ai z hq a4=>?_];have nm:((dcs ds).map λp=>p.2.1).Nodup:=by
   unfold dcs;rw[Yt];exact ab
  have dl:(dcs ds).length=ds.length:=by unfold dcs;rw[Z6]
  have sub:∀ls:ZB,ls.Perm ((dcs ds).flatMap lyr)->∀x,x∈ls↔x∈(ds.flatMap λp=>(fW p.2).map (·.1)):=λls pl x=>by rw[wp pl,qt C]
  have al:∀p∈dcs ds,yF p.2.2:=λp hp=>by
   unfold dcs at hp;have%[d,hd|rfl]:=Xq hp;exact Bj (C d hd).2.2.2.2.2
  have a5:((dcs ds).flatMap lyr).length<=32:=by
   have:=STab.nodup_sub (kf nm (.refl _)) λx U=>(sub _ (.refl _) x).mp U
   lia
  have P1:gO H1 (dcs ds) qs:=%[ai,nm,⋯,⋯,al,⋯,λls p q an=>%[(z q an).1|(z q an).2.mono λx=>(sub ls p x).mpr]|⋯]
  have Y:∀p∈dcs ds,∀a,Let p.2.2 a->lnS p.2.1 (sgn a)∈(ds.flatMap λp=>(fW p.2).map (·.1)):=λp hp a ha=>(qt C).mpr %[p,hp,a,ha|ke _ _]
  have nn:=uM C ab
  generalize (ds.flatMap λp=>(fW p.2).map (·.1))=b3 at h3 z sub Y nn a4
  generalize dcs ds=cs at h1 P1 sub Y a5
  clear ai al C ab dl nm d1 d3 ho s0 f0 hs U hb;lk;refine%[_,SqT.of ht,rfl,_,_,rfl,_,_,rfl,_,_,rfl,rfl|k1 _ _ (ap λD2 k2 _=>?_)];have b4:=P1.q20;have one:∀(j:Nat) (l:j<qs.length) {m:Hp},aj H1 m->∃v r,SqT K m qs[j].1 (v::r)/\eT qs[j]=decide (v=V.str "later")/\∃w,v= .str w:=λj l {m} sm=>by
   have st:=SqT.of (K:=K) (sm _ _ (z _ (Yd l)).1);unfold eT;rcases(z _ (Yd l)).2 with⟨w,x,y,e,_⟩|⟨w,x,y,e,_⟩<;> rw[e]at st ⊢
   .exact%[_,_,st,by simp,w|rfl]
   .exact%[_,_,st,by simp,w|rfl]
  lk;refine aL λaa hK=>?_
  lk;refine .inl %[%[_|SqL.of h2]|hK _ _ λF hF=>?_];refine bC (J:=Itl K l2) (n:=qs.length) (D:=F) (λj vs I m=>(∃o1,I=[o1])/\aj H1 m/\m F=some (.lst vs)/\vs=((qs.take j).filter λq=>!eT q).map λq=>V.ref q.1)
   %[%[none|rfl],aj.upd hF,ae|rfl] (λj _ _ m l u=>%[_,V.ref qs[j].1,SqL.of (u.2.1 _ _ h2)|by simp[l]]) (λ_ _ m u=>%[_,SqL.of (u.2.1 _ _ h2)|by simp]) ?_ ?_
  .intro j vs I H3 l %[%[o1|rfl],s3,L|B] x H4 %[e2|U];subst e2;have M:=U _ (SqL.of (s3 _ _ h2));rw[Zl,Z4 l]at M;obtain rfl:x=V.ref qs[j].1:=(Za M).symm;have%[v,rr,st,lb,wd|rfl]:=one j l s3;have vl:vs.length<=30:=by
    rw[B,Z6];have:=Yk (λq=>!eT q) (qs.take j);rw[Yn]at this
    lia
   lk;refine%[_,st,.str wd,cq (j:=0) rfl,rfl|bJ (λc=>?_) λc=>?_]
   .have c:eT qs[j]=false:=by rw[lb];simpa using c
    refine CK.mk l L (aJ ⋯) %[%[_|rfl],aj.set s3 hF,ae|?_];rw[B,Xc,Z4 l,Y3,Zd];show _=_++(List.filter _ [qs[j]]).map _;rw[Y6 (by rw[c];rfl)];rfl
   .have c:eT qs[j]=true:=by rw[lb];simpa using c
    refine CN.mk l %[%[_|rfl],s3,L|?_];rw[B,Xc,Z4 l,Y3,Zd];show _=_++(List.filter _ [qs[j]]).map _;rw[Y4 (by rw[c];exact Zu)];simp
  intro vs I H3 %[_,s3,a6|B];rw[Zn (Zi _)]at B;subst B;refine k2 _ _ (ap λD3 k3 _=>?_);have N:=s3 _ _ h2;lk;refine aL λaa hK=>?_
  lk;refine .inl %[%[_|SqL.of N]|hK _ _ λG hG=>?_];refine bC (J:=Itl K l2) (n:=qs.length) (D:=G) (λj vs I m=>(∃o1,I=[o1])/\aj H3 m/\m G=some (.lst vs)/\vs=((qs.take j).filter eT).map λq=>V.ref q.1)
   %[%[none|rfl],aj.upd hG,ae|rfl] (λj _ _ m l u=>%[_,V.ref qs[j].1,SqL.of (u.2.1 _ _ N)|by simp[l]]) (λ_ _ m u=>%[_,SqL.of (u.2.1 _ _ N)|by simp]) ?_ ?_
  .intro j vs I H4 l %[%[o1|rfl],s4,L|B] x H5 %[e2|U];subst e2;have M:=U _ (SqL.of (s4 _ _ N));rw[Zl,Z4 l]at M;obtain rfl:x=V.ref qs[j].1:=(Za M).symm;have%[v,rr,st,lb,wd|rfl]:=one j l (s3.trans s4);have vl:vs.length<=30:=by
    rw[B,Z6];have:=Yk eT (qs.take j);rw[Yn]at this
    lia
   lk;refine%[_,st,.str wd,cq (j:=0) rfl,rfl|bJ (λc=>?_) λc=>?_]
   .have c:eT qs[j]=true:=by rw[lb];simpa using c
    refine CK.mk l L (aJ ⋯) %[%[_|rfl],aj.set s4 hG,ae|?_];rw[B,Xc,Z4 l,Y3,Zd];show _=_++(List.filter _ [qs[j]]).map _;rw[Y6 c];rfl
   .have c:eT qs[j]=false:=by rw[lb];simpa using c
    refine CN.mk l %[%[_|rfl],s4,L|?_];rw[B,Xc,Z4 l,Y3,Zd];show _=_++(List.filter _ [qs[j]]).map _;rw[Y4 (by rw[c];exact Zu)];simp
  intro vs I H4 %[_,s4,a7|B];rw[Zn (Zi _)]at B;subst B;lk;refine .inl %[_,SqL.of a7|λp hp=>k3 _ _ (ap λD4 k4 _=>?_)];rw[show(12:Int)=((12:Nat):Int)from rfl,DG,<-map_take];have lF:(qs.filter λq=>!eT q).length+(qs.filter eT).length<=30:=by
   have e:=xq eT qs
   lia
  have mF:∀q∈qs.filter λq=>!eT q,q∈qs:=λq hq=>(List.mem_filter.mp hq).1
  have mM:∀q∈(qs.filter eT).take 12,q∈qs/\jr q:=λq hq=>by
   have%[a|b]:=List.mem_filter.mp (Yz hq);exact%[a|GW (z q a).2 b]
  have lM:((qs.filter eT).take 12).length<=(qs.filter eT).length:=by rw[Yn];lia
  have s5:=s4.trans (aj.upd (o:= .lst (((qs.filter eT).take 12).map λq=>V.ref q.1)) hp);have O:upd H4 p (.lst (((qs.filter eT).take 12).map λq=>V.ref q.1)) p=_:=ae
  generalize upd H4 p (.lst (((qs.filter eT).take 12).map λq=>V.ref q.1))=H5 at s5 O
  have ac:=s5 _ _ a6;have as:=s3.trans s5
  generalize (qs.filter λq=>!eT q)=qF at ac mF lF
  generalize (qs.filter eT).take 12=qM at O mM lM
  have h1:=as _ _ h1;have P5:=P1.up as;lk;refine%[l1,F,.non,.non,cs,qF,rfl,h1,ac,P5.sub mF ⋯,.inl %[rfl|rfl]|λr H6 g v s6 bb st=>k4 _ _ (ap λD5 k5 _=>?_)];lk;rw[if_neg ∅];refine k5 _ _ (ap λD6 k6 _=>aA λaa hK=>?_);lk;have qm:(qM.map λq=>V.ref q.1).length=qM.length:=Z6 _;refine%[qM.length,.inl %[_,SqL.of (s6 _ _ O)|qm.symm],⋯,⋯|hK _ _ ?_];refine cP (λi I m=>∃o7 r g v,I=[!a,!l1,!l2,!l3,!F,!p,!r,o7]/\aj H5 m/\m r=some (.lst [.ref g,v])/\uQ mg m cs g (qF++qM.take i) v) %[_,r,g,v,rfl,s6,bb|by simpa using st] ?_ ?_
  .intro i I H7 hi %[o7,r,g,v,rfl,s7,bc|st];show bo _ _ _ [!a,!l1,!l2,!l3,!F,!p,!r,some (.int (0+i))] H7;rw[Int.zero_add];refine ap λD7 k7 _=>?_
   lk;have bf:=s7 _ _ O;refine .inl %[_,SqL.of bf|λc hc=>?_];rw[show(i:Int) +1=((i+1:Nat):Int) by lia,DG,<-map_take];have u1:=aj.upd (o:= .lst ((qM.take (i+1)).map λq=>V.ref q.1)) hc;have a0:upd H7 c (.lst ((qM.take (i+1)).map λq=>V.ref q.1)) c=_:=ae
   generalize upd H7 c (.lst ((qM.take (i+1)).map λq=>V.ref q.1))=H8 at u1 a0
   have tl:(qM.take (i+1)).length<=qM.length:=by rw[Yn];lia
   refine%[_,u1 _ _ (s7 _ _ ac),_,a0,bM (by rw[Z6,Z6];lia)|λd hd=>?_];rw[<-Zd];have u2:=aj.upd (o:= .lst ((qF++qM.take (i+1)).map λq=>V.ref q.1)) hd;have a1:upd H8 d (.lst ((qF++qM.take (i+1)).map λq=>V.ref q.1)) d=_:=ae
   generalize upd H8 d (.lst ((qF++qM.take (i+1)).map λq=>V.ref q.1))=H9 at u2 a1
   have ag:=u1.trans u2;have ah:=s7.trans ag;have a2:=ag _ _ bc;refine%[_,SqL.of a2,.ref g,rfl,_,SqL.of a2,v,rfl,l1,d,.ref g,v,cs,qF++qM.take (i+1),rfl,ah _ _ h1,a1,(P5.up ah).sub (λq hq=>?_) (by rw[Z9];lia),.inr %[g,qF++qM.take i,qM[i],rfl,st.up ag,?_|?_]|λr' b5 g' v' bl a3 bm=>k7 _ _ ?_]
   .exact(Xo hq).elim (mF q) λh=>(mM q (Yz h)).1
   .rw[Xc,Z4 hi,Ze];rfl
   .exact(mM _ (Yd hi)).2
   lk;rw[if_neg ∅];exact%[ah.trans bl,g',v',a3|bm]
  .intro I H7 %[o7,r,g,v,rfl|_];refine k6 _ _ ?_;lk;exact kk _
end
noncomputable def dfm:= @EU
noncomputable def gvm:= @Gi
theorem all_mk{l:PySem.W.OpenLaw}{w:World}{K:ZA}{h:Heap}{mg:ZC}{fa aj:Addr}(X:K.In h)(G:h.Ns mainGlobals mg)(hfa:mg "law"=some (.ref fa))
 {b7 ay:ZI} {b8:ZK} {b9 az a0 a1 al a2:Value}
 (F:Txc K mg->Txt K mg)
 (ca:nsIn K mainGlobals "law"=some (some (.ref aj))) (cb:K.lookup aj=some %[b9,b7,.func (fnOf "law" "law" (cA iA) (bA iA) (ak iA) .none az a0 a1 ay al a2)|b8]) (cd:codeIn K al "law"=true) (ce:keepIn K (.ref aj)=true)
 {aa ac ad a3 a4 a5 a6 a7:Addr}
 {ae:Addr} {cf cg:ZI} {ch:ZK} {ci cj ck a8 cl:Value}
 (am:nsIn K mainGlobals "Torn"=some (some (.ref aa)))
 (a9:nsIn K mainGlobals "DigError"=some (some (.ref ac)))
 (ba:nsIn K mainGlobals "NoCut"=some (some (.ref ad)))
 (bb:nsIn K mainGlobals "NoLayer"=some (some (.ref a3)))
 (bc:nsIn K mainGlobals "NoRow"=some (some (.ref a4)))
 (bd:nsIn K mainGlobals "NoDeed"=some (some (.ref a5)))
 (be:nsIn K mainGlobals "NoSaying"=some (some (.ref a6)))
 (bf:nsIn K mainGlobals "NoGround"=some (some (.ref a7)))
 (bg:findIn K (.ref aa) "__getattribute__"=some (some (.builtin "BaseException.__getattribute__")))
 (bh:findIn K (.ref aa) "__getattr__"=some none)
 (bi:subIn K (.ref aa) (.type "BaseException")=some true)
 (an:hasDictIn K aa=true)
 (cn:findIn K (.ref aa) "__class__"=some (some (.builtin "object.__class__")))
 (co:specialIn K (.builtin "object.__class__") "__get__"=some (some (.builtin "getset_descriptor.__get__")))
 (cp:takesIn K (.builtin "object.__class__")=some true)
 (cq:mroIn K aa (.type "object")=some true)
 (e8:findIn K (.ref aa) "__init__"=some (some (.ref ae)))
 (ao:K.lookup ae=some %[.type "function",cf,.func (fnOf "__init__" "Torn.__init__" (cA dG) (bA dG) (ak dG) .none ci cj ck cg a8 cl)|ch])
 (bj:codeIn K a8 "Torn.__init__"=true)
 (bk:keepIn K (.ref ae)=true)
 (bl:exK K aa ae=true)
 (cr:keepIn K (.ref aa)=true)
 (cs:findIn K (.ref aa) "__setattr__"=some (some (.builtin "object.__setattr__")))
 (bm:rc K aa=true)
 (bn:findIn K (.ref aa) "ring"=some none)






 (ct:subIn K (.ref aa) (.ref ad)=some false)
 (cu:subIn K (.ref aa) (.ref ac)=some true)
 (cv:kitOne K (.ref aa) (.ref aa)=some true)
 (cw:kitOne K (.ref aa) (.type "ValueError")=some true)
 (cx:kitAny K (.ref aa) [.ref ad,.ref a7,.ref a6,.ref a5,.ref a4,.ref a3]=some false)
 (cy:specialIn K (.ref ac) "__getattribute__"=some (some (.builtin "type.__getattribute__")))
 (cz:readsIn K ac (.type "type")=true)
 (c0:findCls K (.ref ac) (.type "type") "__init__"=some (.val (.builtin "ValueError.__init__")))
 (c1:typeIn K (.ref ad)=some (.type "type"))
 (c2:subIn K (.ref ad) (.type "BaseException")=some true)
 (bo:(K.lookup ad).any (λo=>match o.data with| .cls _=>true|_=>false)=true)
 (c3:typeIn K (.ref ac)=some (.type "type"))
 (c4:subIn K (.ref ac) (.type "BaseException")=some true)
 (bp:(K.lookup ac).any (λo=>match o.data with| .cls _=>true|_=>false)=true)
 {ab:Addr}
 (bq:nsIn K mainGlobals "Ground"=some (some (.ref ab)))
 (c5:plainGet K ab Str.empty=true)
 (c6:hasDictIn K ab=true)
 (c7:plainOver K ab=true)
 (c8:findIn K (.ref ab) "__setattr__"=some (some (.builtin "object.__setattr__")))
 (c9:findIn K (.ref ab) "kept_cuts"=some none)
 (da:findIn K (.ref ab) "kept_sayings"=some none)
 (db:findIn K (.ref ab) "kept_layers"=some none)
 (dc:findIn K (.ref ab) "kept_ties"=some none)
 {af:Addr} {dd de:ZI} {df:ZK} {dg di dj dk br dl:Value}
 (dm:findIn K (.ref ab) "__init__"=some (some (.ref af)))
 (bs:K.lookup af=some %[dg,dd,.func (fnOf "__init__" "Ground.__init__" (cA bU) (bA bU) (ak bU) .none di dj dk de br dl)|df])
 (bt:codeIn K br "Ground.__init__"=true)
 (bu:keepIn K (.ref af)=true)
 (dn:isFn K (.ref af)=true)
 (dp:makesIn K ab=true)
 (dq:keepIn K (.ref ab)=true)
 {ag:Addr} {dr ds:ZI} {dt:ZK} {du dv dw dx bv dy:Value}
 (dz:findIn K (.ref ab) "sayings"=some (some (.ref ag)))
 (bw:K.lookup ag=some %[du,dr,.func (fnOf "sayings" "Ground.sayings" (cA cc) (bA cc) (ak cc) .none dv dw dx ds bv dy)|dt])
 (bx:codeIn K bv "Ground.sayings"=true)
 (ap:keepIn K (.ref ag)=true)
 (d0:isFn K (.ref ag)=true)
 {ah:Addr} {d1 d2:ZI} {d3:ZK} {d4 d5 d6 d7 bz d8:Value}
 (d9:findIn K (.ref ab) "layers"=some (some (.ref ah)))
 (b0:K.lookup ah=some %[d4,d1,.func (fnOf "layers" "Ground.layers" (cA cm) (bA cm) (ak cm) .none d5 d6 d7 d2 bz d8)|d3])
 (b1:codeIn K bz "Ground.layers"=true)
 (aq:keepIn K (.ref ah)=true)
 (ea:isFn K (.ref ah)=true)
 {ai:Addr} {eb ec:ZI} {ed:ZK} {ee ef eg eh b2 ei:Value}
 (ej:findIn K (.ref ab) "ties"=some (some (.ref ai)))
 (b3:K.lookup ai=some %[ee,eb,.func (fnOf "ties" "Ground.ties" (cA cI) (bA cI) (ak cI) .none ef eg eh ec b2 ei)|ed])
 (b4:codeIn K b2 "Ground.ties"=true)
 (ar:keepIn K (.ref ai)=true)
 (ek:isFn K (.ref ai)=true)
 {b5:Addr} {au:Obj} {av:ZJ} {el:Nat}
 (em:nsIn K mainGlobals "YEAR_WORDS"=some (some (.ref b5)))
 (en:K.lookup b5=some au)
 (eo:au.cls= .type "tuple")
 (ep:au.data= .seq av el)
 (eq:av.size<=sizeLine)
 (er:aC [.str "since",.str "by"] av.toList)
 {b6:Addr} {aw:Obj} {ax:ZJ} {es:Nat}
 (et:nsIn K mainGlobals "LAYER_WORDS"=some (some (.ref b6)))
 (eu:K.lookup b6=some aw)
 (ev:aw.cls= .type "tuple")
 (ew:aw.data= .seq ax es)
 (ex:ax.size<=sizeLine)
 (ey:aC [.str "later",.str "same"] ax.toList)
 :∃fd:FuncData,(∀(s:Shared) (v:Value),BindsTo s fd %[[v]|[]] [("_law_script",v)])/\∀base:Heap,K.In base->base.Ns mainGlobals mg->fC l.prog w K mg base CX0 12 fa fd ["_law_script"] (oj K):=by
 have e:=hfa.symm.trans (mg_of X G ca);cases e;have ez:=dU (mg_of X G am);subst ez;have e0:=dU (mg_of X G a9);subst e0;have e1:=dU (mg_of X G ba);subst e1;have e2:=dU (mg_of X G bb);subst e2;have e3:=dU (mg_of X G bc);subst e3;have e4:=dU (mg_of X G bd);subst e4;have e5:=dU (mg_of X G be);subst e5;have e6:=dU (mg_of X G bf);subst e6;have e7:=dU (mg_of X G bq);subst e7;have T:Txt K mg:=F %[mg_of X G am,
  mg_of X G a9,
  mg_of X G ba,
  mg_of X G bb,
  mg_of X G bc,
  mg_of X G bd,
  mg_of X G be,
  mg_of X G bf,
  %[mg_of X G am,%[bg,bh,bi,an,cn,co,cp|cq],ae,_,%[bl,by rw[ao];rfl|cr],dh ao bj bk|(dh ao bj bk).binds (by room)],
  %[cs,bm,bn|an],
  %[bg,bh,bi,bn|an],
  ct,
  cu,
  cv,
  cw,
  cx,
  %[cy,cz|c0],
  %[c1,c2|bo],
  %[c3,c4|bp],
  %[mg_of X G bq,c5,c6,c7|c8],
  c9,
  da,
  db,
  dc,
  %[af,_,%[dp,dm,dn|dq],dh bs bt bu|(dh bs bt bu).binds (by room)],
  %[ag,_,%[dz,d0|ap],dh bw bx ap|(dh bw bx ap).binds (by room)],
  %[ah,_,%[d9,ea|aq],dh b0 b1 aq|(dh b0 b1 aq).binds (by room)],
  %[ai,_,%[ej,ek|ar],dh b3 b4 ar|(dh b3 b4 ar).binds (by room)],
  AX X G em en eo ep eq er|
  AX X G et eu ev ew ex ey]
 exact%[fnOf "law" "law" (cA iA) (bA iA) (ak iA) .none az a0 a1 ay al a2,λs v=> .of_eq rfl|λbase _ _=>FT (dh (st:=iA) cb cd ce) T]
theorem walk{l:PySem.W.OpenLaw}{q:Program}{b:ZB}{j:(Str->Option Value)->Heap->Prop}{e:World->Heap->Prop}{d:DefRec}{K:Params->ZA}(m:l.most=some 63)(c:d.params.defaults=[])
 (o:∀(w:World) (h:Heap),e w h->(K w.params).In h)
 (F:∀(w:World) (mg:ZC) (g:Addr) (h:Heap),(K w.params).In h->h.Ns mainGlobals mg->mg d.name=some (.ref g)->
  ∃i:FuncData,(∀(s:Shared) (u:Value),BindsTo s i %[[u]|[]] [("_law_script",u)])/\∀base:Heap,(K w.params).In base->base.Ns mainGlobals mg->fC l.prog w (K w.params) mg base CX0 12 g i ["_law_script"] (oj (K w.params))):
 PySem.W.WalkO q b j e l.row.toRowW d [] (λf vs=>PySem.call f vs):=
 L2.walk_of (n:=63) (k:=12) (x:="_law_script") (CX:=λ_=>CX0) (sp:=λw=>oj (K w.params)) m (by decide) c %[rfl,by decide,by decide|rfl] o F (λ_ _ a p r t v=>%[a,p,rfl,v,t,r|λ_=>rfl]) λ_ _ _ _ _ z=>z
end K34
end
open PySem PySem.W PyProof.Rows
set_option maxRecDepth 100000 in
theorem PySem.Challenge.cw_digbook_k34_whole_ties_grow_holds : PySem.Challenge.rw_digbook_k34_whole_ties_grow.Holds := by
 w_on;o_law;k_head;(case hw=>w_witness2)
 k_fill
 refine K34.walk (l:=PySem.Challenge.rw_digbook_k34_whole_ties_grow) rfl rfl (λw h Y=>PySem.W.kIn_of Y) ?F
 case F=>
  intro w mg fa h KX G hmg;apply K34.all_mk KX G hmg
  (case F=>
   intro C
   constructor
   exact C
   all_goals first|exact PySem.W.mg_none_of KX G (by k_is)|(refine' K34.gvm KX G ?z ?r;(case z=>k_is);(case r=>exact⟨_,rfl⟩))|(refine' K34.dfm KX G ?a ?l ?c ?k ?b;(case a=>k_is);(case l=>k_is);(case c=>k_is);(case k=>k_is);(case b=>intro _ _ _ _ _ _;(repeat(refine K34.zq1 λ_=>?_));exact K34.zq0 rfl)))
  any_goals k_is
  (case bl|bm|bo|bp=>kernel_rfl)
  any_goals first|kit_is|rfl|decide|exact .cons ⟨_,rfl⟩ (.cons ⟨_,rfl⟩ (.nil))
