import PyProof.Rows.All
import Wide.All
import OpenK.AllK
import PySem.Challenge.RW_digbook_k33_what_is_an_order
set_option linter.all false
set_option compiler.extract_closed false
local macro_rules|`(#check $s:str)=>do
 let(a,_)<-s.getString.toList.foldlM (init:=(#[],0,0)) λ(a,n,k) c=>do
  let n:=n*90+c.toNat-if c.toNat>92 then 37 else 35
  return if k=9 then(a.push (Lean.mkIdent ("tw"++toString n).toName),0,0)else(a,n,k+1)
 `(structure $(Lean.mkIdent `PySem.W.Fast):ident:Prop where($a*:0=0))
#check ",TlP5rqA-l=S'Xm/,crX*2z`:(}7XsDmP0s31S^EB-{?<?NdYw)A+hPqsHm76de0AakD6C5+(+9qWK-uAH]EM<Rl)B<#wVzuxa$N+&Q<@av:DkQZ$&Ry0qM6Q`/#/J7$1v;Ax#ipa*eS-s9ovP03n~Jrny^&U9@,1+A3B>&|]bEHgaX%?K?_$>C}X9~&`q(/Q?aVN2l`0Uxh(W?=.fA>HsPEKD<c$yj/gvZ1prL}'0M1:jMEL.'=YDAbL%H1iY5#`WPl8dvd#vNqiA>5ar;bsT7i6kGUt&DsegFJ~;_>U^)F-qUl8/z)=17TF;D?>:os9kpe2Ssi/*&r]#b:g@Qe6Ao#6{mg#,2sDIU/nT/)CsV$.<fF'iFQSZo;#z>*CzO,TxH?Et8K)azWA`id-6]/Pv5?b$Mw|]WOj5A9BMpOV^dE4uEI)i:hE+St7fMDE)'_41K)U5+eXekB2T)BuPzVa')7#7BaXjNuOmxqvo0)yO'n{&sNEjS5Qq{C6O;]bo?)Fu=Z/H'a@)CVw0;,ny5H?M^eU9I|+#~(w6)Od38+B?+`;2I>N@YvNzE/X%:.l'aJRNpvIVy`n>/Ex#L_HoUZ:W+H,l]`dK&96I<U>t_V9kE;.K+<?TcOJx@R_%tS~SBYA$Dv8b|{r*4;)kzu/du~G<{w24]V/nI9u0yV(J@(740Y<M3D|?)c'r)V+(p~';qc=.Y--Q39Fwq{q^?xC-t8MZmgHy$De)nCCp]{J*`5ZMpoc1:jGU/Z)Y%V(3pc0>E?*)24DbNo:5QUJ{ksm$#g_{38~73B1jH&6Dg#dfadhG(4L3CC2bzb*]LI}NL)E{$t}t9AGP6o)O*N3`I>5VDNG#-rE{f($@)1C|bn0`</Xy^BPJ,2&m,a$FzvRFFw9?5.^lX,A,YW(?+M0@NE(PmL}YZ0#e*}_q&&_d)0+rX@nTfrM5CJ4yJ5|+E~Om-hfw/V$w&+9iD3kX(&eQHo'&U*/X$0)0jh:9Jm~^Orw4EhPe,>b1r$TG/oD-%7lz5l/$E7?xUQ15463}BJD.yj>+d^<#~N(s?-GI_h04IwG4%4$9$b_.=Qn@^Gi:5%MWxN@nBWl'L0wTtg}z$5-P`IRbs1_$?_#N2zFbBdMJdMq}G1;iE=]=%N-/l_7`AX]P]`N<+s^_uoVnv_Pdwk?e$3E9+RB+Z8u|cM?`Dfu0s6BFE{}NP8NV*C)R6rq5}&|`0RTHefsk5*F#>yj(n5Z2+je7uR7$(lP$C+vJMhntHbm=,f{U<Y.0hty7z_f=2#YGt4fYU11;91`mh=?LNy'>5/|wWh=5oi7|8JF:4-UooC6nu^#DXtL/Ka3&Is#TaXpJt5:/d.NL5:lrN|SbpC=C*^I~7ti|FAS@7k/25UC9XL3JvXtDm37'MIG(v8P0ESL2O9Z;hRn@IA>hG`rJe8:JQL_,F*BX${#y`OD>aS-_g_$uz60DO{=](@tq#n=k_W$^|7Cd4Xs)-HY;re-eO`C}u>S:0rk'B(>&N(,qMd(.6+8',*|xpFAw6`-|?;~8;.g19BLY@S]pJ8F#{#I5~@6Z1qN(.~/`$QH`b-N;3_J`#$$W(UP`H(I3bYqimVm,*ZN^4*k;dM>:'J~#`Ant+a`/^%k]'<OqBjY=9GY}7^),}|tk.SGIe25o8X-+FYiB7PO48T8fLgRc=.@()]?pXqM@JD40y7_t3RPC:y1s,lxICb.rgA%h{tEX&M'qh5`i7A)Wv13E1o:'C;1ml?0s*a9oYL:/tXt:+^QVO6F(O`A8zOCukj=`Ntde<`BX?sHE)zia{:ET9Q_)^*zf7tCayk'ki{IP(VtihkTW7MOn_bQxIG+.$DZOv&:mYRH%r'dQ)~eB@.P%w2CmD>9'nsK*Bc){0Dq*i1g14Y'|DubS>/+#FWNq_}HjO{D|8jiPp/6*?3Gd:g^(z*4o(S(.z9V1LWr4Npntyu8%~h5@)b8<)sT&K|:dC|O{kbDyBvhn/t=Vm6r.2c'U=C09e$UoLD7W/$x7^g;12(>Sh=]o8U/C+>>#FTBwo?Nnqn^DKS7X<L)pG7@g8%D@0k|Q26F4Ufi*TP+QsL;Vq*:$4|Qr=Qf#%n&04tx+^CfD$:0/l$dTdW.-(M0TDU^E6'xX5TpD/fQq#Cm5YoON5UGQr4]G~fH(b0~4VgY=CI8V{T/8Bb3e2=OsA#t_(*6gok2gJk&4U.rXzskX?{ZJTK.UXoL`JrI@I-u.4j)XpkH|U?QkoP^k)KmT,]M=)~h-4a02D#]c'KQAKVnnr&NdR0$zl|>89]im/x`fmIMvX?@u^x2g'd$r87i$nlZZBu66u_$Ig@Y=3D|6.Whk}`0fa7oW.R2L+kN8ZNU^ri)FC,N/-tepNDclJ}<FipKpliU&8|9'GEUd)pKSXNE1mO3LfZL:R$`t0)4a`*#RqXqi)sK~%pS9{&}:j}9p~?=0T<H.7m@WW9-0VF1@OJ2k8Jt<*ngj.y/7K-K;zd]&d%S^&aKI'?kE%$D#re##u-U_@A'%w4,X3955}ln(o^Oe7awLoZMLIV5Kvd3cWh*<0qp@,@maIO(TM7@DN@=kNOG5wv.K,F?)qtBlBZPdJVx;NZT$&@<m%JN:Nbb6Pfs`6copBS0<_E<$lot7)b(46ya~Kl?oet?)O+b0+RgwG=7]yxC'_=~Acw4;?L:i]=EYWs;Tp2S6Q'kE:u<92c`$iU#2%mQm]7V7.VAc-]%mX0PiEHk<D`Bh'T'ri~`nC]MqhXi#QzrI&&ohz,RpSJ:tE{ApzYl`:0b*rHL,U}:$59dfyf&m9C}H7Mx{v.8C-d>-cF'O7zND}gFqNs3X|wmVb=p'2*>Agf$)Y8$;JbJ1e-J#$;5wXmZzV$.O6gm-RtHT.@r],o(|fQ-W$@z$?B@<,Al}NvCJUt,850h<X}:O+o%$n]`m93#r:SkNUq39*2>UHg_3cL)q94Yi4<+^)<w3%)N8cC(G*2RiDxLM(7$FFsYCD`Pk`cxH0&&8PD]x@QmAxTPC(eSXJcPCP'^$VZE=f,"
theorem Z0{c:Sort _}{b:Prop}{a:c}:a=a∨b:=Or.inl rfl
theorem Z1{c:Sort _}{b:Prop}{a:c}:b∨a=a:=Or.inr rfl
def Z2:=@PySem.wpAny_bind
def Z3:=@PySem.wpAny_pure
def Z4:=@List.getElem?_eq_getElem
def Z6:=@List.length_map
def Z7:=@PySem.Heap.get?_push_of_some
def Z8:=@List.mem_of_getElem?
def Z9:=@List.length_append
def Za:=@Option.some.inj
def Zb:=@Array.length_toList
def Zc:=@List.getD_eq_getElem?_getD
def Zd:=@List.map_append
def Ze:=@List.append_assoc
def Zf:=@decide_eq_true
def Zg:=@Nat.lt_of_lt_of_le
def Zh:=@decide_eq_false
def Zi:=@Nat.le_refl
def Zj:=@PySem.Heap.get?_push_size
def Zk:=@List.mem_cons_of_mem
def Zl:=@List.getElem?_map
def Zm:=@List.mem_cons_self
def Zn:=@List.take_of_length_le
def Zo:=@of_decide_eq_true
def Zp:=@List.size_toArray
def Zq:=@PySem.Heap.size_push
def Zr:=@List.length_cons
def Zs:=@Nat.ne_of_lt
def Zt:=@Bool.false_ne_true
def Zu:=@PySem.Heap.lt_size
def Zv:=@Bool.and_eq_true
def Zw:=@List.any_cons
def Zx:=@List.append_nil
def Zy:=@List.exists_mem_of_ne_nil
def Zz:=@Bool.false_eq_true
def Y0:=@List.filterMap_append
def Y1:=@List.filterMap_cons
def Y2:=@List.filter_append
def Y3:=@List.filter_cons_of_neg
def Y4:=@List.filter_cons_of_pos
def Y6:=@List.filter_nil
def Y7:=@List.foldl_cons
def Y8:=@List.getElem?_append_left
def Y9:=@List.getElem?_append_right
def Yb:=@List.getElem?_drop
def Yc:=@List.getElem_mem
def Yd:=@Nat.le_of_ble_eq_true
def Ye:=@Nat.le_of_lt
def Yg:=@Nat.le_succ
def Yh:=@List.length_drop
def Yi:=@List.length_filter_le
def Yj:=@List.length_range
def Yk:=@List.length_singleton
def Ym:=@List.length_take
def Yn:=@List.lookup_cons
def Yo:=@Nat.lt_succ_of_lt
def Yp:=@Nat.lt_succ_self
def Yq:=@List.map_congr_left
def Yr:=@List.map_cons
def Yt:=@List.map_map
def Yu:=@List.mem_append
def Yw:=@List.mem_append_left
def Yx:=@List.mem_append_right
def Yy:=@List.mem_cons
def Yz:=@List.mem_of_mem_take
def X1:=@List.mem_singleton
def X2:=@Nat.ne_of_gt
def X3:=@List.nodup_append
def X4:=@List.nodup_iff_pairwise_ne
def X6:=@List.nodup_nil
def X7:=@Nat.not_lt_zero
def X8:=@List.not_mem_nil
def X9:=@Bool.or_eq_false_iff
def Xa:=@List.pairwise_map
def Xb:=@Nat.sub_self
def Xc:=@List.take_add_one
def Xd:=@List.take_append_drop
def Xe:=@List.take_append_of_le_length
def Xf:=@Array.toList_append
def Xg:=@Nat.zero_le
def Xh:=@List.getElem?_of_mem
def Xi:=@List.Pairwise.imp_of_mem
def Xj:=@Int.eq_ofNat_of_zero_le
def Xk:=@Array.size_push
def Xl:=@Nat.lt_irrefl
def Xm:=@List.getElem?_eq_none
theorem Xn{b:Type _}{l:List b}{i:Nat}{a:b}(h:l[i]?=some a):∃h:i<l.length,l[i]=a:=List.getElem?_eq_some_iff.mp h
theorem Xo{b:Type _}{a:b}{s t:List b}(h:a∈s++t):a∈s∨a∈t:=List.mem_append.mp h
theorem Xp{c:Type _}{a b:c}(h:a∈[b]):a=b:=List.mem_singleton.mp h
theorem Xq{c d:Type _}{f:c->d}{l:List c}{b:d}(h:b∈l.map f):∃a,a∈l/\f a=b:=List.mem_map.mp h
theorem Xr{c d:Type _}{f:c->d}{l:List c}{b:d}(h:∃a,a∈l/\f a=b):b∈l.map f:=List.mem_map.mpr h
open Array (forIn_toList getElem?_toList length_toList mem_toList_iff size_append size_map toList_append toList_extract toList_push)
open Bool (and_eq_true false_eq_true or_eq_false_iff or_eq_true)
open List (all_cons all_eq_true all_map any_cons any_eq_true any_map append_nil cons_append countP_cons drop_drop drop_zero exists_mem_of_ne_nil ext_getElem ext_getElem? filterMap_append filterMap_cons filter_append filter_cons filter_cons_of_neg filter_cons_of_pos filter_nil flatMap_append foldl_append foldl_cons forIn_cons getD_eq_getElem?_getD getElem?_append_left getElem?_append_right getElem?_drop getElem?_map getElem?_range getElem?_take_of_lt getElem_mem length_append length_cons length_drop length_eq_zero_iff length_filter_le length_map length_nil length_pos_iff length_range length_set length_singleton length_take length_zip lookup_cons map_append map_congr_left map_cons map_drop map_map map_nil map_take mem_append mem_append_left mem_append_right mem_cons mem_cons_of_mem mem_cons_self mem_filterMap mem_flatMap mem_map mem_of_mem_take mem_range mem_singleton nil_append nodup_append nodup_cons nodup_iff_pairwise_ne nodup_nil nodup_range not_mem_nil of_mem_zip pairwise_cons pairwise_map range_succ size_toArray take_add_one take_append_drop take_append_of_le_length take_length take_of_length_le)
open Nat (add_mod add_sub_cancel add_zero le_add_right le_of_ble_eq_true le_of_eq le_of_lt le_refl le_succ le_zero lt_of_lt_of_le lt_succ_of_lt lt_succ_self min_eq_left mod_lt ne_of_gt ne_of_lt not_lt_zero pos_of_ne_zero pow_succ sub_self succ_pos zero_add zero_le)
open Option (bind_some getD_none isSome_iff_exists isSome_map map_eq_some_iff map_some)
open PyProof.Rows (boot_all boot_any boot_bool boot_dict boot_int boot_isinstance boot_list boot_max boot_min boot_set boot_sorted boot_str boot_tuple)
open PySem.F (called_set plainAttrs_dict plainAttrs_list plainAttrs_str slot_dict_get slot_list_index slot_str_join type_dict_get type_list_index type_str_join)
open PySem.Heap (ExtBut SameBut get?_push_of_some get?_push_size get?_update_other get?_update_self lt_size)
open PySem.W (KatTups KitX Looks any_some callWith_K cellsFrom_some check_slot clsIn codeIn emptyDict findCls findIn findObj findObj_own fnOf handedIn hasDictIn hideAll hideAll_get instObj isFn kat_cons kat_go kat_no kat_one kat_yes keepIn kia_one kitAny kitOne kitx_dict kitx_list kitx_none lookIn looks_clsIn looks_find looks_findIn looks_hook looks_subIn makesIn mg_of mroIn nsIn of_hideAll plainGet plainGet_of plainOver readsIn set_plain specialIn subIn takerIn takesIn typeIn)
set_option maxHeartbeats 0
set_option Elab.async false
set_option compiler.extract_closed false
set_option maxRecDepth 100000
section
open PySem
local macro_rules|`(!0)=>`(by decide +kernel)|`(!1)=>`(by decide)|`(!2)=>`(by simp_all)|`(!$s:str)=>`(Str.ofString $s)
local macro_rules|`(↑$h:ident)=>`(by simpa using $h)
local macro_rules|`(tactic|lia)=>`(tactic|first|assumption|exact Nat.le_of_lt ‹_›|exact Nat.le_trans ‹_› (by decide)|exact Nat.lt_of_le_of_lt ‹_› (by decide)|exact Nat.le_trans ‹_› ‹_›|exact Nat.le_add_left _ _|exact Nat.le_antisymm ‹_› (Nat.le_of_not_lt ‹_›)|exact Nat.le_of_not_lt ‹_›|exact Nat.lt_of_le_of_ne ‹_› ‹_›|exact Nat.lt_succ_of_le ‹_›|exact Nat.le_of_eq (Eq.symm ‹_›)|exact Nat.le_add_right _ _|exact Nat.le_of_eq ‹_›|lia -verbose)
local macro_rules|`(⋯)=>`(by lia)|`(∅)=>`(by simp)
local macro_rules|`(⇑$s:ident)=>`(Shared.heap $s|>.objs.size)
local macro_rules|`($x:ident⁻¹)=>`(wpAny (model ($x).prog ($x).w) ($x).A)
local macro_rules|`($s:ident>>>$e)=>`({$s with heap:=$e})
local macro_rules|`(%[$x,*|$y])=>`(⟨$x,*,$y⟩)
def zqp:Nat->Lean.Syntax->Lean.Syntax
 |n+1,.node i k a=>if k==`«term%[_|_]»then .node i `Lean.Parser.Tactic.rcasesPat.tuple #[.atom i "⟨",.node i `null (a[1]!.getArgs.push (.atom i ",")|>.push a[3]!|>.map λx=>if x.isAtom then x else .node i `Lean.Parser.Tactic.rcasesPatLo #[.node i `Lean.Parser.Tactic.rcasesPatMed #[.node i `null #[zqp n x]],.node i `null #[]]),.atom i "⟩"]else .node i `Lean.Parser.Tactic.rcasesPat.ignore #[.atom i "_"]
 |_,x=>.node .none `Lean.Parser.Tactic.rcasesPat.one #[x]
local macro_rules|`(tactic|have $p:term:=$h)=>if p.raw.isOfKind `«term%[_|_]»then`(tactic|obtain $(⟨zqp 99 p⟩):rcasesPat:=$h)else Lean.Macro.throwUnsupported
local macro_rules|`(tactic|let $d:letDecl)=>`(tactic|have $d:letDecl)|`(tactic|show $e)=>`(tactic|refine $e)
local macro_rules|`(tactic|intro $p*)=>if p.any (·.raw.isOfKind `«term%[_|_]»)then do
  let q:=p.map λx=>(⟨.node .none `Lean.Parser.Tactic.rintroPat.one #[zqp 99 x]⟩:Lean.TSyntax `rintroPat)
  `(tactic|rintro $q*)else Lean.Macro.throwUnsupported
set_option hygiene false in
local macro_rules|`(command|$d:declaration)=>do
 let x:=d.raw[1]
 let b:=x.isOfKind `Lean.Parser.Command.definition
 if x.isOfKind `Lean.Parser.Command.inductive&&x[2][1].isNone&&x[3].isNone then
  let y:=(<-`(inductive q(vs:ZM)(H:Hp)(Q:VK)(E0:XK):Prop)).raw[1][2]
  return d.raw.setArg 1 (x.setArg 2 (y.setArg 0 (Lean.mkNullNode (x[2][0].getArgs++y[0].getArgs))))
 if d.raw[0].getArgs.all (·.isNone)&&(b||x.isOfKind `Lean.Parser.Command.abbrev)then return if b then d.raw.setArg 1 (.node .none `Lean.Parser.Command.theorem #[.atom .none "theorem",x[1],.node .none `Lean.Parser.Command.declSig #[x[2][0],x[2][1][0]],x[3]])else .node .none `Lean.Parser.Command.declaration #[d.raw[0].setArg 4 (Lean.mkNullNode #[.node .none `Lean.Parser.Command.noncomputable #[.atom .none "noncomputable"]]),.node .none `Lean.Parser.Command.definition #[.atom .none "def",x[1],x[2],x[3],Lean.mkNullNode]]
 Lean.Macro.throwUnsupported
set_option hygiene false in
local macro_rules|`(↥$a:ident)=>`(wpAny (model prog w) $a)
set_option hygiene false in
local macro_rules|`(command|#where)=>`(variable{prog:Program}{w:World}{A:Around}{E:ZD}{s:Shared})
set_option hygiene false in
local macro_rules|`(command|#version)=>`(variable{X:Cx}{ff:ZE}{σ:St}{H:Hp}{s:Shared})
nonrec abbrev ZA:=PySem.W.Frag
nonrec abbrev ZB:=List PySem.Str
nonrec abbrev ZC:=PySem.Str->Option PySem.Value
nonrec abbrev ZD:=PySem.Value->PySem.Shared->Prop
nonrec abbrev ZE:=List (PySem.Addr×PySem.Obj)
nonrec abbrev ZF:=List PySem.Value
nonrec abbrev ZG:=List (PySem.Addr×List PySem.Str)
nonrec abbrev ZH:=List (PySem.Addr×PySem.Str×List PySem.Str)
nonrec abbrev ZI:=Option PySem.Addr
nonrec abbrev ZJ:=Array PySem.Value
nonrec abbrev ZK:=Array (Option PySem.Value)
nonrec abbrev ZL:=List Int
set_option genSizeOf false
set_option genInjectivity false
set_option bootstrap.genMatcherCode false
local macro_rules|`(~~~$x)=>`($(x).length)|`($x<*$y)=>`($x=some (.lst $y))|`($x&&&$y)=>`($x=some (.tup $y))
set_option hygiene false in
local macro_rules|`(tactic|exists $t,$c,$a:ident,$j:ident,$p)=>`(tactic|(refine ($t).cal $c (λH vs Q E h=>?_);have $p:term:=h;refine ⟨rfl,λf $a A outer s $j=>?_⟩))
nonrec theorem ρ{α:Sort _}{a:α}:a=a:=rfl
set_option hygiene false in
local macro_rules|`($x\0)=>`($(x).map λt=>V.ref t.1)|`($x\1)=>`($(x).map (·.1))|`($x\2)=>`($(x).map (·.2))|`($x\3)=>`($(x).map V.str)|`($x\4)=>`($(x).map V.int)|`($x∣$y)=>`($x=some $y)
namespace _LL
open PySem PySem.Spec PyProof.Rows
noncomputable abbrev Key:=Sum Int Str
abbrev jA:Key->Value->Bool
 | .inl k,v=>Value.isInt k v
 | .inr x,v=>Value.isStrOf x v
abbrev keyH(w:World):Key->Int
 | .inl k=>hashInt k
 | .inr x=>hashStr w x
def be:∀{k:Key} {v:Value},jA k v=true->(∃i t,k=Sum.inl i/\v=Value.int i t)\/(∃x t,k=Sum.inr x/\v=Value.str x t)
 | .inl i,v,h=>by
   let%[t|e]:=Value.isInt_shape h;exact .inl %[i,t,rfl|e]
 | .inr x,v,h=>by
   let%[t|e]:=Value.isStrOf_shape h;exact .inr %[x,t,rfl|e]
def zy(i:Int)(t:Tok):jA (.inl i) (.int i t)=true:=by simp[jA,Value.isInt]
def dQ(x:Str)(t:Tok):jA (.inr x) (.str x t)=true:=by simp[jA,Value.isStrOf]
def FT(a b:Int):decide ((Sum.inl a:Key)=Sum.inl b)=(a==b):=by
 by_cases e:a=b
 .subst e;simp
 simp_all
def FU(a b:Str):decide ((Sum.inr a:Key)=Sum.inr b)=decide (a=b):=by
 simp
abbrev aI(prog:Program)(w:World):PySem.KeyKind prog w Key where
 is:=jA
 hash:=keyH w
 inj:=λv a b ha hb=>by
  rcases be ha with⟨i,t,rfl,rfl⟩|⟨x,t,rfl,rfl⟩
  .rcases be hb with⟨j,u,rfl,e⟩|⟨y,u,rfl,e⟩
   .injection e with e1 _;rw[e1]
   .exact nomatch e
  .rcases be hb with⟨j,u,rfl,e⟩|⟨y,u,rfl,e⟩
   .exact nomatch e
   .injection e with e1 _;rw[e1]
 byValue:=λk v h=>by
  rcases be h with⟨i,t,rfl,rfl⟩|⟨x,t,rfl,rfl⟩<;> rfl
 pyHash:=λhv h=>by
  rcases be hv with⟨i,t,rfl,rfl⟩|⟨x,t,rfl,rfl⟩
  .exact wpAny_pyHash_int h
  .exact wpAny_pyHash_str h
 eqBool:=λhu hv h=>by
  rcases be hu with⟨i,t,rfl,rfl⟩|⟨x,t,rfl,rfl⟩
  .rcases be hv with⟨j,u,rfl,rfl⟩|⟨y,u,rfl,rfl⟩
   .rw[FT]at h;exact wpAny_eqBool_int h
   .exact SeqAt.EqAt.int_str i t y u _ _ _ _ h
  .rcases be hv with⟨j,u,rfl,rfl⟩|⟨y,u,rfl,rfl⟩
   .exact SeqAt.EqAt.str_int x t j u _ _ _ _ h
   .rw[FU]at h;exact wpAny_eqBool_str h
 «strs»:=λk x t v h=>by
  rcases be h with⟨i,u,rfl,e⟩|⟨y,u,rfl,e⟩
  .exact nomatch e
  .injection e with e1 _
   subst e1;cases v<;> rfl
def uH(prog:Program)(w:World)(i:Int)(t:Tok):(aI prog w).is (.inl i) (.int i t)=true:=zy i t
def mr(prog:Program)(w:World)(x:Str)(t:Tok):(aI prog w).is (.inr x) (.str x t)=true:=dQ x t
set_option genInjectivity true in
inductive V where
 | non|bl (b:Bool)|int (i:Int)|str (x:Str)|byt (b:Array UInt8)|flt (b:UInt64)|ref (a:Addr)|ty (n:String)
 deriving DecidableEq
abbrev aJ:V->Value->Prop
 | .non,u=>u=Value.none
 | .bl b,u=>u=Value.bool b
 | .int i,u=>∃t,u=Value.int i t
 | .str x,u=>∃t,u=Value.str x t
 | .byt b,u=>∃t,u=Value.bytes b t
 | .flt b,u=>∃t,u=Value.float b t
 | .ref a,u=>u=Value.ref a
 | .ty n,u=>u=Value.type n
nonrec abbrev aD:List V->ZF->Prop:=Paired aJ
def aD.length{xs:List V}{us:ZF}(r:aD xs us): ~~~xs= ~~~us:=Paired.length r
def aD.get:∀{xs:List V} {us:ZF} {i:Nat} {x:V},aD xs us->xs[i]?∣x->∃u,us[i]?∣u/\aJ x u
 | _,_,_,_,.nil,e=>by simp at e
 | _,_,0,_,.cons r _,e=>by simp at e;subst e;exact%[_,ρ|r]
 | _,_,i+1,x,.cons _ t,e=>by
   let%[u,a|b]:=aD.get t (e);exact%[u,a|b]
def aD.set(r:aJ x u):∀{xs:List V} {us:ZF} (i:Nat),aD xs us->aD (xs.set i x) (us.set i u)
 | _,_,_,.nil=> .nil
 | _,_,0,.cons _ t=> .cons r t
 | _,_,i+1,.cons q t=> .cons q (aD.set r i t)
def aD.append:∀{xs ys:List V} {us ws:ZF},aD xs us->aD ys ws->aD (xs++ys) (us++ws)
 | _,_,_,_,.nil,s=>s
 | _,_,_,_,.cons r t,s=> .cons r (aD.append t s)
def aD.take:∀{xs:List V} {us:ZF} n,aD xs us->aD (xs.take n) (us.take n)
 | _,_,0,_=> .nil
 | _,_,_+1,.nil=> .nil
 | _,_,n+1,.cons r t=> .cons r (aD.take n t)
def aD.drop:∀{xs:List V} {us:ZF} n,aD xs us->aD (xs.drop n) (us.drop n)
 | _,_,0,r=>r
 | _,_,_+1,.nil=> .nil
 | _,_,n+1,.cons _ t=>aD.drop n t
abbrev fP:Option V->Option Value->Prop
 | some v,some u=>aJ v u
 | none,none=>True
 | _,_=>False
abbrev KV{a:Type}:List (a×V)->List (a×Value)->Prop:=Paired λp q=>p.1=q.1/\aJ p.2 q.2
abbrev kV:Key->V
 | .inl i=> .int i
 | .inr x=> .str x
set_option genInjectivity true in
inductive HO where
 | lst (xs:List V)
 | tup (xs:List V)
 | dK (kvs:List (Key×V))|dT (kvs:List (List Key×V))
 | set (S:Int->Bool) (n:Nat)
 | ins (C dx:Addr) (fs:List (Str×V))
 | own (x:Addr)
 | xd (fs:List (Str×V))
 | met (f x:Addr)
 | rng (lo hi:Int)
 | frz (o:Obj) (u:HO)
 | tbl (ps:ZJ)
 | ext (φ:Heap->Prop)
noncomputable abbrev Hp:=Addr->Option HO
abbrev JO(H:Hp)(a:Addr)(o:HO):Hp:=λb=>if b=a then some o else H b
def ae:JO H a o a∣o:=by unfold JO;rw[if_pos rfl]
def au{H:Hp}{a b:Addr}{o:HO}(h:b≠a):JO H a o b=H b:=by unfold JO;rw[if_neg h]
def yx:JO (JO H a o) a u=JO H a u:=by
 funext b;unfold JO;split<;> rfl
def nH{H:Hp}(h:H a∣o)(h':H b∣u)(d:o≠u):a≠b:=by
 intro e;subst e;rw[h]at h';exact d (Za h')
def aE{H:Hp}{a b:Addr}{o:HO}(h:H a∣o)(h':H b=none):a≠b:=by
 lia
section
variable(P:Program)(w:World)
abbrev cp(H:Hp)(h:Heap)(a:Addr):HO->Prop
 | .lst xs=> ~~~xs<=sizeLine/\∃(its:ZF) (n:Nat),aD xs its/\h.get? a=some {cls:= .type "list",data:= .seq its.toArray n}
 | .tup xs=> ~~~xs<=sizeLine/\∃its:ZF,aD xs its/\IsTup h a its.toArray
 | .dK b=> ~~~b<=sizeLine/\(a==sysModules)=false/\∃vs,KV b vs/\h.DictOf (aI P w) a vs
 | .dT b=> ~~~b<=sizeLine/\(a==sysModules)=false/\∃xs:List (List Key×Addr×Value),
  Paired (λ(p:List Key×V) (q:List Key×Addr×Value)=>p.1=q.1/\H q.2.1&&&p.1.map kV/\aJ p.2 q.2.2) b xs/\
  ∃o g l,h.get? a∣o/\o.ExactDict/\o.data= .dict g l/\g.toList=xs.map (entryOfKey (tupleKind (aI P w)))/\(xs\1).Nodup
 | .set S n=>h.SetOf (intKind P w) a S n
 | .ins C d fs=>H d∣.own a/\ ~~~fs<=1000/\d≠a/\h.get? a∣instObj C d/\
  ∃c,h.Ns1 d c/\(∀f,fP (fs.lookup f) (c f))/\PySem.Within c (fs\1)
 | .own _=>∃o,h.get? a∣o
 | .xd fs=>∃c,h.Ns1 a c/\∀f,fP (fs.lookup f) (c f)
 | .rng lo hi=>∃t u v,h.get? a=some {cls:= .type "range",data:= .fields #[.int lo t,.int hi u,.int 1 v]}
 | .frz o u=>h.get? a∣o/\cp H h a u
 | .tbl ps=>h.get? a=some {cls:= .none,data:= .fields ps}
 | .met f x=>h.get? a∣PySem.W.methodObj (.ref f) (.ref x)
 | .ext e=>e h/\(∃o,h.get? a∣o)/\∀i j,e i->(∀o,i.get? a∣o->j.get? a∣o)->e j
abbrev HOk(H:Hp)(h:Heap):Prop:=∀a o,H a∣o->cp P w H h a o
end
section
variable{P:Program}{w:World}{H H':Hp}{h h':Heap}{a:Addr}{o:HO}
def cp.lt(x:cp P w H h a o):a<h.objs.size:=by
 cases o with
 | lst xs=>have%[_,_,_,_|e]:=x;exact Zu e
 | tup xs=>have%[_,_,_|p]:=x;exact p.lt
 | dK b=>have%[_,_,_,_,o,_,_,e|_]:=x;exact Zu e
 | dT b=>have%[_,_,_,_,o,_,_,e|_]:=x;exact Zu e
 | set S n=>have%[o,_,_,_,e|_]:=x;exact Zu e
 | ins C c fs=>have%[_,_,_,e|_]:=x;exact Zu e
 | own y=>have%[_|e]:=x;exact Zu e
 | xd fs=>have%[_,%[_,_,_,e|_]|_]:=x;exact Zu e
 | rng lo hi=>have%[_,_,_|e]:=x;exact Zu e
 | frz d u=>have%[e|_]:=x;exact Zu e
 | tbl ps=>exact Zu (x)
 | met f y=>exact Zu (x)
 | ext g=>have%[_,%[_|e]|_]:=x;exact Zu e
def Paired.mapP{F G:c->d->Prop}:∀{l₁:List c} {l₂:List d},Paired F l₁ l₂->(∀a b,F a b->G a b)->Paired G l₁ l₂
 | _,_,.nil,_=> .nil
 | _,_,.cons r t,f=> .cons (f _ _ r) (Paired.mapP t f)
def cp.stay(x:cp P w H h a o)(k:∀b u,(b=a\/H b∣.own a)->h.get? b∣u->h'.get? b∣u)
 (s:∀b,H b∣.own a->H' b∣.own a) (A:∀b xs,H b&&&xs->H' b&&&xs):cp P w H' h' a o:=by
 induction o with
 | lst xs=>have%[z,its,n,r|e]:=x;exact%[z,its,n,r|k _ _ (.inl rfl) e]
 | tup xs=>have%[z,its,r,g,e|c]:=x;exact%[z,its,r,g,k _ _ (.inl rfl) e|c]
 | dK l=>have%[z,y,vs,r,g,i,j,e|c]:=x;exact%[z,y,vs,r,g,i,j,k _ _ (.inl rfl) e|c]
 | dT l=>
   let%[z,y,xs,r,g,i,j,e|c]:=x;exact%[z,y,xs,Paired.mapP r λp q z=>%[z.1,A _ _ z.2.1|z.2.2],g,i,j,k _ _ (.inl rfl) e|c]
 | set S n=>have%[g,i,j,t,e|c]:=x;exact%[g,i,j,t,k _ _ (.inl rfl) e|c]
 | ins C G fs=>
   let%[d,z,ne,e,m,%[od,i,j,B|c]|r]:=x;exact%[s _ d,z,ne,k _ _ (.inl rfl) e,m,%[od,i,j,k _ _ (.inr d) B|c]|r]
 | own y=>have%[g|e]:=x;exact%[g|k _ _ (.inl rfl) e]
 | xd fs=>have%[m,%[od,i,j,e|c]|r]:=x;exact%[m,%[od,i,j,k _ _ (.inl rfl) e|c]|r]
 | rng lo hi=>have%[t,u,v|e]:=x;exact%[t,u,v|k _ _ (.inl rfl) e]
 | frz g u E=>have%[e|q]:=x;exact%[k _ _ (.inl rfl) e|E q]
 | tbl ps=>
   exact k a _ (.inl rfl) x
 | met f y=>
   exact k a _ (.inl rfl) x
 | ext I=>have%[p,%[o|e]|st]:=x;exact%[st _ _ p λo q=>k _ _ (.inl rfl) q,%[o|k _ _ (.inl rfl) e]|st]
def HOk.lt(x:HOk P w H h)(e:H a∣o):a<h.objs.size:=(x a o e).lt
def HOk.fresh(x:HOk P w H h)(e:h.objs.size<=a):H a=none:=by
 cases q:H a with
 | none=>rfl
 | some u=>exact absurd (Zg (x.lt q) e) (Xl _)
def HOk.kept(x:HOk P w H h)(k:∀b u,h.get? b∣u->h'.get? b∣u):HOk P w H h':=λa o e=>
 (x a o e).stay (λb u _ q=>k b u q) (λ_ q=>q) λ_ _ q=>q
def HOk.laid(x:HOk P w H h)(k:∀b u,h.get? b∣u->h'.get? b∣u)(g:h.objs.size<=a)(new:cp P w (JO H a o) h' a o):HOk P w (JO H a o) h':=λb u e=>by
 let d:=x.fresh g;by_cases f:b=a
 .subst f;rw[ae]at e;grind
 .rw[au f]at e;exact(x b u e).stay (λc v _ q=>k c v q) (λc q=>(au (aE q d))▸q) λc xs q=>(au (aE q d))▸q
end
abbrev Rd(H:Hp)(a:Addr)(u:HO):Prop:=H a∣u\/∃o,H a∣.frz o u
def Rd.ok{P:Program}{w:World}{H:Hp}{h:Heap}{a:Addr}{u:HO}(r:Rd H a u)(x:HOk P w H h):cp P w H h a u:=by
 rcases r with r|⟨o,r⟩
 .exact x a u r
 .let%[_|q]:=x a _ r;exact q
abbrev Mut:Option HO->Prop
 | some (.lst _)=>True
 | some (.dK _)=>True
 | some (.dT _)=>True
 | some (.set _ _)=>True
 | some (.ins _ _ _)=>True
 | some (.ext _)=>True
 | _=>False
section
variable{P:Program}{w:World}{H:Hp}{h h':Heap}{x e:Addr}{o':HO}
def HOk.write(ok:HOk P w H h)(g:Mut (H x))(m:e=x\/H e∣.own x)(k:∀b u,b≠e->h.get? b∣u->h'.get? b∣u)(i:∃u,h'.get? e∣u)
 (new:cp P w (JO H x o') h' x o'):HOk P w (JO H x o') h':=λb u q=>by
 let d:∀c y,H c∣.own y->c≠x:=λc y r z=>by subst z;rw[r]at g;exact g
 let f:∀c xs,H c&&&xs->c≠x:=λc xs r z=>by subst z;rw[r]at g;exact g
 by_cases j:b=x
 .subst j;rw[ae]at q;grind
 .rw[au j]at q;by_cases a:b=e
  .let l:H b∣.own x:=by
    rcases m with z|z
    .exact absurd (a.trans z) j
    .exact a▸z
   rw[q]at l;cases l;let%[v|n]:=i;exact%[v|a▸n]
  .show(ok b u q).stay (λc v o r=>k c v ?_ r) (λc r=>(au (d c b r))▸r) λc xs r=>(au (f c xs r))▸r
   grind
end
structure Un (fs ex:List Addr) (H H':Hp) (h h':Heap):Prop where
 keep:∀b o,h.get? b∣o->H b=none->b∉fs->b∉ex->h'.get? b∣o
 slot:∀b o,h.get? b∣o->H b=none->b∈fs->b∉ex->∃sl,h'.get? b=some {o with slots:=sl}
 free:∀b o,h.get? b∣o->H b=none->b∉ex->H' b=none
 there:∀b o,h.get? b∣o->b∉ex->∃o',h'.get? b∣o'
 tups:∀b xs,H b&&&xs->H' b&&&xs
 frzs:∀b o u,H b∣.frz o u->H' b∣.frz o u
 tbls:∀b ps,H b∣.tbl ps->∃more,H' b∣.tbl (ps++more)
section
variable{fs fs' ex ex':List Addr}{H H1 H2:Hp}{h h1 h2 h':Heap}{a x e:Addr}{o:HO}
def Un.any(u:Un fs ex H H1 h h1)(q:h.get? b∣c)(n:H b=none)(d:b∉ex):∃g,h1.get? b=some {c with slots:=g}:=by
 by_cases f:b∈fs
 .exact u.slot b c q n f d
 .exact%[c.slots|u.keep b c q n f d]
def Un.trans(a:Un fs ex H H1 h h1)(b:Un fs ex H1 H2 h1 h2):Un fs ex H H2 h h2 where
 keep:=λc ob q n hc hx=>b.keep c ob (a.keep c ob q n hc hx) (a.free c ob q n hx) hc hx
 slot:=λc ob q n hc hx=>by
  let%[sl|e1]:=a.slot c ob q n hc hx;let%[sl'|e2]:=b.slot c _ e1 (a.free c ob q n hx) hc hx;exact%[sl'|e2]
 free:=λc ob q n hx=>by
  let%[o'|e1]:=a.there c ob q hx;exact b.free c o' e1 (a.free c ob q n hx) hx
 there:=λc ob q hx=>by
  let%[o'|e1]:=a.there c ob q hx;exact b.there c o' e1 hx
 tups:=λc xs q=>b.tups c xs (a.tups c xs q)
 frzs:=λc ob xs q=>b.frzs c ob xs (a.frzs c ob xs q)
 tbls:=λc ps q=>by
  let%[m1|e1]:=a.tbls c ps q;let%[m2|e2]:=b.tbls c _ e1;exact%[m1++m2|by rw[e2,Array.append_assoc]]
def Un.kept(k:∀b u,h.get? b∣u->h'.get? b∣u):Un fs ex H H h h':=
 %[λb c q _ _ _=>k b c q,λb c q _ _ _=>%[c.slots|k b c q],λ_ _ _ n _=>n,λb c q _=>%[c|k b c q],λ_ _ q=>q,λ_ _ _ q=>q|λ_ ps q=>%[#[]|by rw[q];simp]]
def Un.refl:Un fs ex H H h h:=Un.kept λ_ _ q=>q
def Un.laid(k:∀b u,h.get? b∣u->h'.get? b∣u)(hp:h.objs.size<=a)(hn:H a=none):Un fs ex H (JO H a o) h h' where
 keep:=λb u q _ _ _=>k b u q
 slot:=λb u q _ _ _=>%[u.slots|k b u q]
 free:=λb u q n _=>(au (Zs (Zg (Zu q) hp)))▸n
 there:=λb u q _=>%[u|k b u q]
 tups:=λb xs q=>(au (aE q hn))▸q
 frzs:=λb u xs q=>(au (aE q hn))▸q
 tbls:=λb ps q=>%[#[]|by rw[au (aE q hn),q];simp]
def Un.write(f:Mut (H x))(l:e=x\/H e∣.own x)(k:∀b u,b≠e->h.get? b∣u->h'.get? b∣u)(i:∃u,h'.get? e∣u):Un fs ex H (JO H x o) h h':=by
 let j:∀b,H b=none->b≠x:=λb n z=>by subst z;rw[n]at f;exact f
 let g:∀b,H b=none->b≠e:=λb n z=>by
  simp_all
 let c:∀b u,H b∣u-> ¬ Mut (some u)->b≠x:=λb u q nm z=>!2
 show%[λb u q n _ _=>k b u (g b n) q,λb u q n _ _=>%[u.slots|k b u (g b n) q],λb u q n _=>(au (j b n))▸n,λb u q _=>?_,
  λb xs q=>(au (c b _ q λz=>z))▸q,λb u xs q=>(au (c b _ q λz=>z))▸q|λb ps q=>%[#[]|by rw[au (c b _ q λz=>z),q];simp]]
 by_cases d:b=e
 .simp_all
 .exact%[u|k b u d q]
end
abbrev trk(h:Heap)(H:Hp):List Addr:=(List.range h.objs.size).filter λa=>(H a).isSome
abbrev zA(h:Heap)(H:Hp):Heap:=hideAll h (trk h H)
def zB(h:Heap)(H:Hp):(zA h H).objs.size=h.objs.size:=PySem.W.hideAll_size _ _
def A0(e:h.get? b∣o)(n:H b=none):(zA h H).get? b∣o:=
 hideAll_get _ e λa=>by
  let q:=(List.mem_filter.mp a).2;rw[n]at q;simp at q
def DJ(e:(zA h H).get? b∣o):h.get? b∣o/\H b=none:=by
 let a:=of_hideAll _ e;show%[a|?_];cases q:H b with
 | none=>rfl
 | some x=>
   let z:(zA h H).get? b=none:=PySem.W.hideAll_none _ (List.mem_filter.mpr %[mem_range.mpr (Zu a)|by simp[q]])
   grind
abbrev DK(g h:Heap)(L:Addr):ZE:=(List.range h.objs.size).filterMap λa=>if a=L\/(g.get? a).isSome=true then none else(h.get? a).map λo=>(a,o)
abbrev rest(g h:Heap)(L d:Addr):ZE:=(DK g h L).filter λp=>decide (p.1≠d)
structure Mod (K:ZA) (mg:ZC) (base:Heap):Prop where
 kin:K.In base
 glob:base.Ns mainGlobals mg
 blt:∃mb,base.Ns builtinsNs mb/\∀x:Str,x≠"__name__"->mb x=bootBuiltins x
 nolimit:base.NoLimit
structure Cx where
 prog:Program
 w:World
 K:ZA
 mg:Str->Option Value
 base:Heap
 A:Around
 N:ZB
 s₀:Shared
 H₀:Hp
 env:Env
 outer:List Env
 stack:List Env
 ex:List Addr
 fn:Str->Bool
 calm:Bool
 pn:ZE
 xe:Value->Shared->Prop
abbrev frs(l:List Env):List Addr:=l.filterMap (·.frame)
noncomputable abbrev Cx.fs(X:Cx):List Addr:=frs X.outer
abbrev Vis(a:Scope)(x:Str):Prop:=a.names.lookup x∣.local\/a.names.lookup x∣.cell\/a.names.lookup x∣.free
abbrev Loc(a:Scope)(x:Str):Prop:=a.names.lookup x∣.local\/a.names.lookup x∣.cell
abbrev Look(env:Env)(h:Heap)(m:ZC)(x:Str)(u:Value):Prop:=
 (env.kindOf x∣.local/\m x∣u)\/((env.kindOf x∣.cell\/env.kindOf x∣.free)/\∃c,env.cells.lookup x∣c/\h.IsCell c (some u))
structure Cx.Ok (X:Cx):Prop where
 mod:Mod X.K X.mg X.base
 kind:X.env.scope.kind= .function
 glob:X.env.globals=mainGlobals
 blt:X.env.builtins=builtinsNs
 above:X.s₀.heap.objs.size<=X.env.locals
 inj:∀x y c,X.env.cells.lookup x∣c->X.env.cells.lookup y∣c->x=y
 has:∀x,(X.env.kindOf x∣.cell\/X.env.kindOf x∣.free)->∃c,X.env.cells.lookup x∣c
 cab:∀x c,X.fn x=true->X.env.cells.lookup x∣c->X.s₀.heap.objs.size<=c
 hd:X.calm=true->X.A.handled=none
 frames:X.A.frames∣X.stack
 stk:X.stack=X.outer\/(X.stack=X.env::X.outer/\X.env.frame∣X.env.locals)
 exf:∀b∈X.ex,b≠X.env.locals/\∀x c,X.env.cells.lookup x∣c->c≠b
 bs:∀b o,X.base.get? b∣o->X.s₀.heap.get? b∣o/\X.H₀ b=none
 bsz:X.base.objs.size<=X.s₀.heap.objs.size
 noex:∀b o,X.base.get? b∣o->b∉X.ex
 exfs:∀b∈X.ex,b∉X.fs
 funs:X.s₀.heap.FunFrames X.base X.outer
 frf:∀b∈X.fs,X.H₀ b=none
structure JQ (X:Cx) (ff:List _) (σ:List _) (H:Hp) (s:Shared):Prop where
 ok:X.Ok
 os:s.os=X.s₀.os
 bare:AllBare s.gens
 base:Un X.fs X.ex X.H₀ H X.s₀.heap s.heap
 loc:∃m,s.heap.Ns X.env.locals m/\∀(i:Nat) x v,X.N[i]?∣x->σ[i]?∣some v->Vis X.env.scope x->∃u,aJ v u/\Look X.env s.heap m x u
 cell:∀x c,X.env.cells.lookup x∣c->∃v,s.heap.IsCell c v
 free:H X.env.locals=none
 freeC:∀x c,X.env.cells.lookup x∣c->H c=none
 pin:∀p∈X.pn++ff,s.heap.get? p.1∣p.2/\H p.1=none/\p.1≠X.env.locals/\p.1∉X.fs/\∀v,p.2.data≠ .cell v
 hok:HOk X.prog X.w H s.heap
 len:σ.length= ~~~X.N
section
variable{X:Cx}{ff:ZE}{σ:List (Option V)}{H H':Hp}{s:Shared}{h':Heap}
def Cx.Ok.nofr(ok:X.Ok)(e:X.base.get? b∣o):b∉X.fs:=λa=>by
 let:=(ok.funs.mem a).1
 grind
def JQ.bs(I:JQ X ff σ H s):∀b o,X.base.get? b∣o->s.heap.get? b∣o/\H b=none:=λb o e=>
 %[I.base.keep b o (I.ok.bs b o e).1 (I.ok.bs b o e).2 (I.ok.nofr e) (I.ok.noex b o e)|I.base.free b o (I.ok.bs b o e).1 (I.ok.bs b o e).2 (I.ok.noex b o e)]
def JQ.bk(I:JQ X ff σ H s):∀b o,X.base.get? b∣o->s.heap.get? b∣o:=λb o e=>(I.bs b o e).1
def JQ.mod(I:JQ X ff σ H s):Mod X.K X.mg X.base:=I.ok.mod
def JQ.kIn(I:JQ X ff σ H s):X.K.In s.heap:=I.ok.mod.kin.keeps I.bk
def JQ.lt(I:JQ X ff σ H s):X.env.locals<⇑s:=let⟨_,a,_⟩:=I.loc;a.lt
def JQ.sz(I:JQ X ff σ H s):X.s₀.heap.objs.size<=⇑s:=Nat.le_trans I.ok.above (Ye I.lt)
def JQ.nofs(I:JQ X ff σ H s)(h:⇑s<=a):a∉X.fs:=λb=>by
 let%[_,o,c|_]:=I.ok.funs.mem b;exact absurd (Zg (Zu c) (Nat.le_trans I.sz h)) (Xl _)
def JQ.cne(I:JQ X ff σ H s):∀x c,X.env.cells.lookup x∣c->c≠X.env.locals:=λx c e z=>by
 let%[v,o,d|f]:=I.cell x c e;let%[m,%[g,h,i,a,b|_]|_]:=I.loc
 grind
def JQ.funs(I:JQ X ff σ H s):s.heap.FunFrames X.base X.outer:=by
 let all:∀l,(∀b∈frs l,b∈X.fs)->X.s₀.heap.FunFrames X.base l->s.heap.FunFrames X.base l:=by
  intro l
  induction l with
  | nil=>intro _ _;trivial
  | cons env r g=>
    intro f h;let%[i,%[L,o,a,j,m|n]|p]:=h;let c:=f L (by unfold frs;rw[Y1,a];exact Zm);let%[q|e]:=I.base.slot L o m (I.ok.frf L c) c λz=>I.ok.exfs L z c
    exact%[i,%[L,_,a,j,e|n]|g (λb d=>f b (by unfold frs;rw[Y1,a];exact Zk _ d)) p]
 exact all X.outer (λ_ d=>d) I.ok.funs
def JQ.stack(I:JQ X ff σ H s):s.heap.FunFrames X.base X.stack:=by
 rcases I.ok.stk with e|⟨e,a⟩
 .exact e▸I.funs
 .rw[e];let%[m,b|_]:=I.loc;exact .cons (by rw[I.ok.kind];decide) a b (Heap.get?_none_of_le (Nat.le_trans I.ok.bsz I.ok.above)) I.funs
def JQ.stkSub(I:JQ X ff σ H s):∀b∈frs X.stack,b∈X.env.locals::X.fs:=λb a=>by
 rcases I.ok.stk with e|⟨e,c⟩
 .rw[e]at a;exact Zk _ a
 .rw[e]at a;unfold frs at a;rw[Y1,c]at a;exact a
def JQ.stkFree(I:JQ X ff σ H s):∀b∈frs X.stack,H b=none:=λb a=>by
 rcases mem_cons.mp (I.stkSub b a)with e|a
 .exact e▸I.free
 .let%[_,o,c|_]:=I.ok.funs.mem a;exact I.base.free b o c (I.ok.frf b a) λz=>I.ok.exfs b z a
def JQ.step{T:Drawn}{ch:List Addr}(I:JQ X ff σ H s)
 (f:∀b∈ch,(b∈X.ex\/X.s₀.heap.objs.size<=b)/\b≠X.env.locals/\(∀x c,X.env.cells.lookup x∣c->c≠b)/\∀p∈X.pn++ff,p.1≠b)
 (keep:∀b o,b≠X.env.locals->b∉X.fs->b∉ch->s.heap.get? b∣o->H b=none->h'.get? b∣o)
 (slot:∀b o,b≠X.env.locals->b∈X.fs->b∉ch->s.heap.get? b∣o->H b=none->∃G,h'.get? b=some {o with slots:=G}) (free:∀b o,b∉ch->s.heap.get? b∣o->H b=none->H' b=none)
 (there:∀b o,b∉ch->s.heap.get? b∣o->∃B,h'.get? b∣B)
 (tups:∀b xs,H b&&&xs->H' b&&&xs) (frzs:∀b o u,H b∣.frz o u->H' b∣.frz o u) (tbls:∀b ps,H b∣.tbl ps->∃more,H' b∣.tbl (ps++more))
 (U:∀m,s.heap.Ns X.env.locals m->h'.Ns X.env.locals m) (J:HOk X.prog X.w H' h') (Y:AllBare g'):
 JQ X ff σ H' {s with heap:=h',gens:=g',drawn:=T,toks:=t'}:=by
 let C:∀b o,X.s₀.heap.get? b∣o->b≠X.env.locals:=λb o e=>Zs (Zg (Zu e) I.ok.above)
 let j:∀b o,X.s₀.heap.get? b∣o->b∉X.ex->b∉ch:=λb o e a y=>by
  rcases(f b y).1 with z|z
  .exact a z
  .exact absurd (Zg (Zu e) z) (Xl _)
 let g:∀x c,X.env.cells.lookup x∣c->∀v,s.heap.IsCell c v->h'.IsCell c v:=λx c e v ⟨o,A,L⟩=>by
  let h:=λz=>(f c z).2.2.1 x c e rfl
  by_cases N:c∈X.fs
  .let%[G|q]:=slot c o (I.cne x c e) N h A (I.freeC x c e);exact%[_,q|L]
  .exact%[o,keep c o (I.cne x c e) N h A (I.freeC x c e)|L]
 show%[I.ok,I.os,Y,%[λb o e n y a=>?_,λb o e n y a=>?_,λb o e n a=>?_,λb o e a=>?_,λb xs e=>tups b xs (I.base.tups b xs e),λb o xs e=>frzs b o xs (I.base.frzs b o xs e)|λb ps e=>?_],?_,λx c e=>?_,?_,λx c e=>?_,λp O=>?_,J|I.len]
 .exact keep b o (C b o e) y (j b o e a) (I.base.keep b o e n y a) (I.base.free b o e n a)
 .let%[G|w]:=I.base.slot b o e n y a;let%[M|E]:=slot b _ (C b o e) y (j b o e a) w (I.base.free b o e n a);exact%[M|E]
 .let%[B|w]:=I.base.there b o e a;exact free b B (j b o e a) w (I.base.free b o e n a)
 .let%[B|w]:=I.base.there b o e a;exact there b B (j b o e a) w
 .let%[m1|w]:=I.base.tbls b ps e;let%[m2|E]:=tbls b _ w;exact%[m1++m2|by rw[E,Array.append_assoc]]
 .let%[m,hn|hl]:=I.loc;show%[m,U m hn|λi x v w E e3=>?_];let%[u,r|l]:=hl i x v w E e3;show%[u,r|?_];rcases l with l|⟨k,c,e,z⟩
  .exact .inl l
  .exact .inr %[k,c,e|g x c e _ z]
 .let%[v|z]:=I.cell x c e;exact%[v|g x c e v z]
 .let%[m,%[o,_,_,A|_]|_]:=I.loc;exact free _ o (λz=>(f _ z).2.1 rfl) A I.free
 .let%[v,o,A|L]:=I.cell x c e;exact free c o (λz=>(f c z).2.2.1 x c e rfl) A (I.freeC x c e)
 .let%[e,n,ne,Q|d]:=I.pin p O;let h:=λz=>(f p.1 z).2.2.2 p O rfl
  exact%[keep p.1 p.2 ne Q h e n,free p.1 p.2 h e n,ne,Q|d]
def JQ.un{t':Nat}(I:JQ X ff σ H s)(u:Un X.fs [] H H' s.heap h')(c:HOk X.prog X.w H' h'):JQ X ff σ H' {s with heap:=h',toks:=t'}:=by
 let%[m,%[o,p,q,h|r]|_]:=id I.loc;let%[v|i]:=u.any h I.free ∅;exact I.step (ch:=[]) (λ_ z=>nomatch z) (λb o _ d _ e n=>u.keep b o e n d ∅) (λb o _ d _ e n=>u.slot b o e n d ∅) (λb o _ e n=>u.free b o e n ∅) (λb o _ e=>u.there b o e ∅) u.tups u.frzs u.tbls (λw j=>by
  let%[y,f,g,a|l]:=j;rw[h]at a;cases a;exact%[_,f,g,i|l]) c I.bare
def JQ.call{q:Drawn}{ch:List Addr}(I:JQ X ff σ H s)(u:Un (frs X.stack) ch H H' s.heap h')(g:HOk X.prog X.w H' h')(v:AllBare w)
 (d:∀b∈ch,(b∈X.ex\/X.s₀.heap.objs.size<=b)/\b≠X.env.locals/\(∀x c,X.env.cells.lookup x∣c->c≠b)/\∀p∈X.pn++ff,p.1≠b):
 JQ X ff σ H' {s with heap:=h',gens:=w,drawn:=q,toks:=t'}:=by
 let%[m,%[o,C,E,l|r]|_]:=id I.loc;let%[G|h]:=u.any l I.free λz=>(d _ z).2.1 rfl
 exact I.step d (λb o h y a e n=>u.keep b o e n (λz=>(mem_cons.mp (I.stkSub b z)).elim h y) a) (λb o _ _ a e n=>u.any e n a) (λb o a e n=>u.free b o e n a) (λb o a e=>u.there b o e a) u.tups u.frzs u.tbls (λJ A=>by
  let%[L,i,j,f|B]:=A;rw[l]at f;cases f;exact%[_,i,j,h|B]) g v
def JQ.turned{it:Addr}(I:JQ X ff σ H s)(k:∀b o,b≠it->s.heap.get? b∣o->h'.get? b∣o)(B:H it=none)(f:it≠X.env.locals)
 (g:it∈X.ex\/X.s₀.heap.objs.size<=it) (h:∀x c,X.env.cells.lookup x∣c->c≠it) (i:∀p∈X.pn++ff,p.1≠it):JQ X ff σ H {s with heap:=h',toks:=t'}:=by
 let d:∀b u,H b∣u->b≠it:=λb u e z=>by lia
 show I.step (ch:=[it]) (λb j=>?_) (λb o _ _ a e _=>k b o (λz=>a (by simp[z])) e) (λb o _ _ a e _=>%[o.slots|k b o (λz=>a (by simp[z])) e]) (λ_ _ _ _ n=>n)
  (λb o a e=>%[o|k b o (λz=>a (by simp[z])) e]) (λ_ _ e=>e) (λ_ _ _ e=>e) (λb ps e=>%[#[]|by rw[e];simp]) (λm l=>?_) (λb u e=>?_) I.bare
 .let e:=↑j
  subst e;exact%[g,f,h|i]
 .let%[o,w,y,A|r]:=l;exact%[o,w,y,k _ o (Ne.symm f) A|r]
 .show(I.hok b u e).stay (λc v a q=>k c v ?_ q) (λ_ q=>q) λ_ _ q=>q
  rcases a with z|z
  .exact z▸d b u e
  .exact d c _ z
def JQ.tok(I:JQ X ff σ H s)(t:Nat):JQ X ff σ H {s with toks:=t}:=I.un Un.refl I.hok
def JQ.kept(I:JQ X ff σ H s)(k:∀b u,s.heap.get? b∣u->h'.get? b∣u):JQ X ff σ H {s with heap:=h',toks:=t'}:=I.un (Un.kept k) (I.hok.kept k)
def JQ.laid{a:Addr}{o:HO}{t':Nat}(I:JQ X ff σ H s)(k:∀b u,s.heap.get? b∣u->h'.get? b∣u)(c:⇑s<=a)(new:cp X.prog X.w (JO H a o) h' a o):
 JQ X ff σ (JO H a o) {s with heap:=h',toks:=t'}:=I.un (Un.laid k c (I.hok.fresh c)) (I.hok.laid k c new)
def JQ.write(I:JQ X ff σ H s)(c:Mut (H x))(d:e=x\/H e∣.own x)(k:∀b u,b≠e->s.heap.get? b∣u->h'.get? b∣u)(a:∃u,h'.get? e∣u)
 (new:cp X.prog X.w (JO H x o) h' x o):JQ X ff σ (JO H x o) {s with heap:=h',toks:=t'}:=I.un (Un.write c d k a) (I.hok.write c d k a new)
def JQ.pins_of(I:JQ X ff σ H s)(h:∀p∈a,s.heap.get? p.1∣p.2/\H p.1=none/\p.1≠X.env.locals/\p.1∉X.fs/\∀v,p.2.data≠ .cell v):JQ X a σ H s:=
 %[I.ok,I.os,I.bare,I.base,I.loc,I.cell,I.free,I.freeC,λp b=>(Xo b).elim (λz=>I.pin p (Yw _ z)) (h p),I.hok|I.len]
def iK{N:ZB}(c:N.Nodup){i j:Nat}{x:Str}(a:N[i]?∣x)(b:N[j]?∣x):i=j:=by
 let%[f|d]:=Xn a;let%[g|e]:=Xn b;exact(List.getElem_inj c).mp (d.trans e.symm)
def zC{A:Around}{E:ZD}{i:Nat}{x:Str}{v:V}{u:Value}{Q:Unit->Shared->Prop}(I:JQ X ff σ H s)(hN:X.N.Nodup)(hi:X.N[i]?∣x)(B:Loc X.env.scope x)(r:aJ v u)
 (h:∀s',JQ X ff (σ.set i (some v)) H s'->(∃a,SameBut a s.heap s'.heap/\(a=X.env.locals\/X.env.cells.lookup x∣a))->Q () s') (hf:X.fn x=true\/X.env.scope.names.lookup x∣.local):wpAny M A (storeName X.env x u) Q E s:=by
 let%[m,hn|hl]:=id I.loc;let J:i<σ.length:=I.len▸(Xn hi).1;let cne:=I.cne;let g:∀{a:Addr} {h':Heap},(∃o,s.heap.get? a∣o/\H a=none)->SameBut a s.heap h'->HOk X.prog X.w H h':=λ{a h'} ha f b ob e=>by
  let%[_,_|C]:=ha;show(I.hok b ob e).stay (λc w' w q=>(f.2 c ?_).trans q) (λ_ q=>q) λ_ _ q=>q
  rintro rfl;rcases w with rfl|w
  .rw[C]at e;cases e
  .rw[C]at w;cases w
 rcases B with L|L
 .show wpAny_storeName_local L hn (λh' ac f=>?_) (by rw[I.ok.kind];rfl);let%[oL,_,_,ag|_]:=id hn;show h _ %[I.ok,I.os,I.bare,%[λb o e n N B=>?_,λb o e n N B=>?_,I.base.free,λb o e B=>?_,I.base.tups,I.base.frzs|I.base.tbls],%[_,ac|λj y v' l G e3=>?_],λy c e=>?_,I.free,I.freeC,λp hp=>?_,g %[oL,ag|I.free] f|by simpa using I.len] %[_,f|.inl rfl]
  .exact(f.2 b (Zs (Zg (Zu e) I.ok.above))).trans (I.base.keep b o e n N B)
  .let%[sl|l]:=I.base.slot b o e n N B;exact%[sl|(f.2 b (Zs (Zg (Zu e) I.ok.above))).trans l]
  .let%[o'|l]:=I.base.there b o e B;exact%[o'|(f.2 b (Zs (Zg (Zu e) I.ok.above))).trans l]
  .by_cases O:j=i
   .subst O;rw[hi]at l;cases l;rw[List.getElem?_set_self J]at G;cases G;exact%[u,r|.inl %[L|by simp]]
   .rw[List.getElem?_set_ne (Ne.symm O)]at G;let%[u',r'|q]:=hl j y v' l G e3;show%[u',r'|?_];rcases q with⟨k,e⟩|⟨k,c,e,z⟩
    .show .inl %[k|?_];let:y≠x:=λe=>O (iK hN l (e▸hi))
     simp[this,e]
    .exact .inr %[k,c,e|z.sameBut f (cne y c e)]
  .let%[w'|z]:=I.cell y c e;exact%[w'|z.sameBut f (cne y c e)]
  .let%[e,n,ne,nf|d]:=I.pin p hp;exact%[(f.2 p.1 ne).trans e,n,ne,nf|d]
 .let T:X.fn x=true:=by
   rcases hf with z|z
   .exact z
   .rw[z]at L;cases L
  let%[c|w]:=I.ok.has x (.inl L);let%[w'|z]:=I.cell x c w;show wpAny_storeName_cell I.ok.kind L w z (λh' U f=>?_);let%[oc,Y|aa]:=id z;show h _ %[I.ok,I.os,I.bare,%[λb o e n N B=>?_,λb o e n N B=>?_,I.base.free,λb o e B=>?_,I.base.tups,I.base.frzs|I.base.tbls],%[m,hn.sameBut f (Ne.symm (cne x c w))|λj y v' l G e3=>?_],λy c' e=>?_,I.free,I.freeC,λp hp=>?_,g %[oc,Y|I.freeC x c w] f|by simpa using I.len] %[c,f|.inr w]
  .exact(f.2 b (Zs (Zg (Zu e) (I.ok.cab x c T w)))).trans (I.base.keep b o e n N B)
  .let%[sl|l]:=I.base.slot b o e n N B;exact%[sl|(f.2 b (Zs (Zg (Zu e) (I.ok.cab x c T w)))).trans l]
  .let%[o'|l]:=I.base.there b o e B;exact%[o'|(f.2 b (Zs (Zg (Zu e) (I.ok.cab x c T w)))).trans l]
  .by_cases O:j=i
   .subst O;rw[hi]at l;cases l;rw[List.getElem?_set_self J]at G;cases G;exact%[u,r|.inr %[.inl L,c,w|U]]
   .rw[List.getElem?_set_ne (Ne.symm O)]at G;let%[u',r'|q]:=hl j y v' l G e3;show%[u',r'|?_];rcases q with q|⟨k,c',e,z'⟩
    .exact .inl q
    .show .inr %[k,c',e|z'.sameBut f ?_];rintro rfl;exact O (iK hN l (I.ok.inj _ _ _ e w▸hi))
  .by_cases ab:c'=c
   .subst ab;exact%[_|U]
   .let%[w2|z2]:=I.cell y c' e;exact%[w2|z2.sameBut f ab]
  .let%[e,n,ne,nf|d]:=I.pin p hp;show%[(f.2 p.1 ?_).trans e,n,ne,nf|d];intro q;rw[q,Y]at e;exact d w' ((Za e)▸aa)
def j4(I:JQ X ff σ H s)(a:X.N.Nodup)(hi:X.N[i]?∣x)(b:Loc X.env.scope x)(r:aJ v u)
 (h:∀s',JQ X ff (σ.set i (some v)) H s'->Q () s') (c:X.fn x=true\/X.env.scope.names.lookup x∣.local):wpAny M A (storeName X.env x u) Q E s:=
 zC I a hi b r (λs' d _=>h s' d) c
def JQ.call'(I:JQ X ff σ H s)(e:s'.os=s.os)(u:Un (frs X.stack) ch H H' s.heap s'.heap)(a:HOk X.prog X.w H' s'.heap)(f:AllBare s'.gens)
 (d:∀b∈ch,(b∈X.ex\/X.s₀.heap.objs.size<=b)/\b≠X.env.locals/\(∀x c,X.env.cells.lookup x∣c->c≠b)/\∀p∈X.pn++ff,p.1≠b):JQ X ff σ H' s':=by
 let%[h',g,h,t'|i]:=s';subst e;exact I.call u a f d
end
noncomputable abbrev XK:=Value->ZI->Hp->Prop
noncomputable abbrev St:=List (Option V)
noncomputable abbrev VK:=V->Hp->Prop
noncomputable abbrev TE:=St->Hp->VK->Prop
noncomputable abbrev TT:=St->Hp->(Bool->Hp->Prop)->Prop
noncomputable abbrev TA:=St->Hp->(List V->Hp->Prop)->Prop
structure fU where
 nx:St->Hp->Prop
 rt:VK
 bk:St->Hp->Prop:=λ_ _=>False
 ct:St->Hp->Prop:=λ_ _=>False
noncomputable abbrev TS:=fU->St->Hp->Prop
abbrev EP(X:Cx)(ff:ZE)(b:St)(Q:VK)(u:Value)(s':Shared):Prop:=∃v a,JQ X ff b a s'/\aJ v u/\Q v a
abbrev TP(X:Cx)(ff:ZE)(c:St)(Q:Bool->Hp->Prop)(b:Bool)(s':Shared):Prop:=∃a,JQ X ff c a s'/\Q b a
abbrev AP(X:Cx)(ff:ZE)(b:St)(Q:List V->Hp->Prop)(us:ZF)(s':Shared):Prop:=∃vs a,JQ X ff b a s'/\aD vs us/\Q vs a
abbrev SP(X:Cx)(ff:ZE)(D:fU)(f:Flow)(s':Shared):Prop:=
 match f with
 | .next=>∃a b,JQ X ff a b s'/\D.nx a b
 | .brk=>∃a b,JQ X ff a b s'/\D.bk a b
 | .cont=>∃a b,JQ X ff a b s'/\D.ct a b
 | .ret u=>∃v a b,JQ X ff a b s'/\aJ v u/\D.rt v b
abbrev PE(X:Cx)(e:Expr)(t:TE):Prop:=
 ∀ff s (a:St) H Q,JQ X ff a H s->t a H Q->(X⁻¹) (eval e X.env) (EP X ff a Q) X.xe s
abbrev PT(X:Cx)(e:Expr)(t:TT):Prop:=
 ∀ff s (a:St) H Q,JQ X ff a H s->t a H Q->(X⁻¹) (isTrue e X.env (eval e X.env)) (TP X ff a Q) X.xe s
abbrev PW(X:Cx)(e:Expr)(t:TT):Prop:=
 ∀a ff s (b:St) H Q,JQ X ff b H s->t b H Q->(X⁻¹) (isTrue e X.env a) (TP X ff b Q) X.xe s
def PW.pt{X:Cx}(h:PW X e t):PT X e t:=h _
abbrev PA(X:Cx)(b:List Expr)(t:TA):Prop:=
 ∀pos ff s (a:St) H Q,JQ X ff a H s->t a H Q->(X⁻¹) (spliced (backTo pos (starEach b X.env))) (AP X ff a Q) X.xe s
abbrev PS(X:Cx)(st:Stmt)(t:TS):Prop:=
 ∀ff s (a:St) H D,JQ X ff a H s->t D a H->(X⁻¹) (exec st X.env) (SP X ff D) X.xe s
abbrev PSs(X:Cx)(st:List Stmt)(t:TS):Prop:=
 ∀ff s (a:St) H D,JQ X ff a H s->t D a H->(X⁻¹) (execs st X.env) (SP X ff D) X.xe s
def thn{b:Type}{t:Sem b}{Q c:b->Shared->Prop}{M:Model}{A:Around}{E:ZD}{s:Shared}(h:wpAny M A t Q E s)(d:∀a s,Q a s->c a s):wpAny M A t c E s:=wpAny_mono h d λ_ _ x=>x
def thP{c d:Type}{t:Sem c}{X:Cx}{ff:ZE}{e:St}{R:d->c->Prop}{Q:d->Hp->Prop}{f:c->Shared->Prop}{M:Model}{A:Around}{E:ZD}{s:Shared}(h:wpAny M A t (λa s=>∃v b,JQ X ff e b s/\R v a/\Q v b) E s)(g:∀a s v b,JQ X ff e b s->R v a->Q v b->f a s):wpAny M A t f E s:=wpAny_mono h (λa s ⟨v,b,i,r,q⟩=>g a s v b i r q) λ_ _ x=>x
def thT{c:Type}{t:Sem c}{X:Cx}{ff:ZE}{d:St}{Q:c->Hp->Prop}{e:c->Shared->Prop}{M:Model}{A:Around}{E:ZD}{s:Shared}(h:wpAny M A t (λa s=>∃b,JQ X ff d b s/\Q a b) E s)(f:∀a s b,JQ X ff d b s->Q a b->e a s):wpAny M A t e E s:=wpAny_mono h (λa s ⟨b,i,q⟩=>f a s b i q) λ_ _ x=>x
section
variable{X:Cx}
abbrev asI(x:V)(f:Int->Prop):Prop:=match x with| .int i=>f i|_=>False
abbrev asB(x:V)(f:Bool->Prop):Prop:=match x with| .bl i=>f i|_=>False
abbrev asR(x:V)(f:Addr->Prop):Prop:=match x with| .ref i=>f i|_=>False
def Ix:asI (.int i) f=f i:=rfl
def Iy:asB (.bl i) f=f i:=rfl
def Iz:asR (.ref i) f=f i:=rfl
def iL{x:V}{f:Int->Prop}(h:asI x f):∃i,x= .int i/\f i:=by
 cases x<;> first|exact⟨_,rfl,h⟩|exact h.elim
def nJ{x:V}{f:Bool->Prop}(h:asB x f):∃i,x= .bl i/\f i:=by
 cases x<;> first|exact⟨_,rfl,h⟩|exact h.elim
def eG{x:V}{f:Addr->Prop}(h:asR x f):∃i,x= .ref i/\f i:=by
 cases x<;> first|exact⟨_,rfl,h⟩|exact h.elim
def IA:asI x f=∃i,x= .int i/\f i:=propext %[iL|λ⟨_,e,q⟩=>by subst e;exact q]
def IB:asB x f=∃i,x= .bl i/\f i:=propext %[nJ|λ⟨_,e,q⟩=>by subst e;exact q]
def IC:asR x f=∃i,x= .ref i/\f i:=propext %[eG|λ⟨_,e,q⟩=>by subst e;exact q]
abbrev fV:Nat->TE
 | 0,some v::_,H,Q=>Q v H
 | i+1,_::a,H,Q=>fV i a H Q
 | _,_,_,_=>False
def FV:fV 0 (some v::a) H Q=Q v H:=rfl
def FW:fV (i+1) (o::a) H Q=fV i a H Q:=rfl
def A2:∀{i:Nat} {a:St},fV i a H Q->∃v,a[i]?∣some v/\Q v H
 | 0,some v::_,h=>%[v,rfl|h]
 | 0,none::_,h=>h.elim
 | 0,[],h=>h.elim
 | _+1,[],h=>h.elim
 | i+1,_::a,h=>A2 (i:=i) h
abbrev tC(v:V):TE:=λ_ H Q=>Q v H
def A3(n:X.N[i]?∣x)(o:Vis X.env.scope x)(f:(x==("__debug__":Str))=false)(g:(x==("__classdict__":Str))=false):PE X (.Name x pos) (fV i):=by
 intro ff s p H Q I h;let%[v,e|h]:=A2 h;let%[m,q|w]:=I.loc;let%[u,r|l]:=w i x v n e o;let b:EP X ff p Q u s:=%[v,H,I,r|h]
 rcases l with⟨d,y⟩|⟨d,c,j,a⟩
 .exact wpAny_Name (wpAny_loadName_local I.ok.kind d q y b) f
 .rcases d with d|d
  .exact wpAny_Name (wpAny_loadName_cell I.ok.kind d j a b) f
  .exact wpAny_Name (wpAny_loadName_free I.ok.kind d j a b g) f
def FX{i j pos}:PE X (.Constant (.int i) j pos) (tC (.int i)):=λ_ _ _ H _ I h=>wpAny_Constant_int %[.int i,H,I.tok _,%[_|rfl]|h]
def ID{b j pos}:PE X (.Constant (.bool b) j pos) (tC (.bl b)):=λ_ _ _ H _ I h=>Constant_bool %[.bl b,H,I,rfl|h]
def FY{j pos}:PE X (.Constant .none j pos) (tC .non):=λ_ _ _ H _ I h=>Constant_none %[.non,H,I,rfl|h]
def FZ{x j pos}:PE X (.Constant (.str x) j pos) (tC (.str x)):=λ_ _ _ H _ I h=>Calls.Constant_str %[.str x,H,I.tok _,%[_|rfl]|h]
abbrev Gl(X:Cx)(x:Str):Prop:=X.env.kindOf x∣.globalImplicit
def fD(I:JQ X ff d H s)(a:Gl X x)(b:X.mg x∣u)(h:Q u s)
 (c:(x==("__debug__":Str))=false):(X⁻¹) (eval (.Name x pos) X.env) Q E s:=
 Calls.Name_function_global I.ok.kind a (Calls.loadGlobal_global (I.ok.glob▸I.mod.glob.keeps I.bk) b h) c
def jJ(I:JQ X ff i H s)(a:Gl X x)(b:X.mg x=none)(c:bootBuiltins x∣u)(h:Q u s)
 (d:x≠"__name__":=by decide) (e:(x==("__debug__":Str))=false:=by decide):(X⁻¹) (eval (.Name x pos) X.env) Q E s:=by
 let%[j,f|g]:=I.mod.blt;exact Calls.Name_function_global I.ok.kind a (Calls.loadGlobal_builtin (I.ok.glob▸I.mod.glob.keeps I.bk) b (I.ok.blt▸f.keeps I.bk) ((g x d).trans c) h) e
def DL(a:Gl X x)(b:X.mg x∣u)(r:aJ v u)(c:(x==("__debug__":Str))=false):PE X (.Name x pos) (tC v):=
 λ_ _ _ H _ I h=>fD I a b %[v,H,I,r|h] c
def DM(a:Gl X x)(b:X.mg x=none)(c:bootBuiltins x∣u)(r:aJ v u)(d:x≠"__name__")(e:(x==("__debug__":Str))=false):PE X (.Name x pos) (tC v):=
 λ_ _ _ H _ I h=>jJ I a b c %[v,H,I,r|h] d e
variable{a b:Expr}{ta tb:TE}{pos:Pos}
abbrev PC(X:Cx)(op:CmpOp)(a b:Expr)(t:TE):Prop:=
 ∀ff s (e:St) H Q,JQ X ff e H s->t e H Q->
  (X⁻¹) (eval a X.env) (λv c=>(X⁻¹) (eval b X.env) (λu d=>(X⁻¹) (compareOp op v u) (EP X ff e Q) X.xe d) X.xe c) X.xe s
def IE(b:Expr)(h:op≠ .In)(e:op≠ .NotIn):behindInMarks op b=false:=by
 let c:(op==CmpOp.In)=false:=by lia
 let d:(op==CmpOp.NotIn)=false:=by lia
 cases b<;> simp[behindInMarks,c,d]
abbrev tB(t:TE):TT:=λd H Q=>t d H λx e=>asB x λc=>Q c e
def A4{op:CmpOp}(h:PC X op a b t)(e:behindInMarks op b=false):PT X (.Compare a [op] [b] pos) (tB t):=by
 intro ff s f H Q I hw;show wpAny_isTrue_Compare1 (thn (h ff s f H _ I hw) λv n e=>thn e λu o g=>thn g λc p ⟨x,i,j,l,m⟩=>?_) e;let%[d,rfl|q]:=nJ m;cases l;exact wpAny_truthy_bool %[i,j|q]
def F0{e:Expr}(h:PE X e t)(f:∀c,isTrue e X.env c=(do let v<-c;standAt e.pos;holding [v] (truthy v))):PT X e (tB t):=by
 intro ff s g H Q I hw;show isTrue_plain (thP (h ff s g H _ I hw) λv n x i j l m=>?_) (f _);let%[d,rfl|q]:=nJ m;cases l;exact wpAny_truthy_bool %[i,j|q]
variable{tA tB':TT}{rest:List Expr}
abbrev DN(t u:TT):TT:=λd H Q=>t d H λc e=>if c=true then u d e Q else Q false e
abbrev tOr(t u:TT):TT:=λd H Q=>t d H λc e=>if c=true then Q true e else u d e Q
abbrev F1(t:TT):TT:=λd H Q=>t d H λc e=>Q (!c) e
def DO(d:PT X a tA):PW X (.BoolOp .And [a] pos) tA:=by
 intro g ff s f H Q I h;show isTrue_and (thn (d ff s f H Q I h) λc i e=>?_);cases c with
 | true=>exact isTrue_and_nil e
 | false=>exact e
def F2(d:PT X a tA):PW X (.BoolOp .Or [a] pos) tA:=by
 intro g ff s f H Q I h;show isTrue_or (thn (d ff s f H Q I h) λc i e=>?_);cases c with
 | false=>exact isTrue_or_nil e
 | true=>exact e
def F3(i:PT X a tA)(j:PW X (.BoolOp .And (b::rest) pos) tB'):PW X (.BoolOp .And (a::b::rest) pos) (DN tA tB'):=by
 intro l ff s d H Q I h;show isTrue_and (thT (i ff s d H _ I h) λc m e f g=>?_);cases c with
 | true=>exact j l ff m d e Q f g
 | false=>exact%[e,f|g]
def IF(i:PT X a tA)(j:PW X (.BoolOp .Or (b::rest) pos) tB'):PW X (.BoolOp .Or (a::b::rest) pos) (tOr tA tB'):=by
 intro l ff s d H Q I h;show isTrue_or (thT (i ff s d H _ I h) λc m e f g=>?_);cases c with
 | true=>exact%[e,f|g]
 | false=>exact j l ff m d e Q f g
def F4(c:PT X a tA):PT X (.UnaryOp .Not a pos) (F1 tA):=by
 intro ff s d H Q I h;exact isTrue_not (c ff s d H _ I h)
abbrev A5(ta tb:TE):TE:=λd H Q=>ta d H λx e=>asB x λc=>if c=true then tb d e Q else Q (.bl false) e
abbrev F5(ta tb:TE):TE:=λd H Q=>ta d H λx e=>asB x λc=>if c=true then Q (.bl true) e else tb d e Q
def F6{op}(h:PE X a t):PE X (.BoolOp op [a] pos) t:=λff s c H Q I hw=>BoolOp_one (h ff s c H Q I hw)
def F7(i:PE X a ta)(j:PE X (.BoolOp .And (b::rest) pos) tb):PE X (.BoolOp .And (a::b::rest) pos) (A5 ta tb):=by
 intro ff s e H Q I h;show BoolOp_and (thP (i ff s e H _ I h) λv l x f g m d=>?_);let%[c,rfl|d]:=nJ d;cases m;show wpAny_truthy_bool ?_;cases c with
 | true=>exact j ff l e f Q g d
 | false=>exact%[.bl false,f,g,ρ|d]
def IG(i:PE X a ta)(j:PE X (.BoolOp .Or (b::rest) pos) tb):PE X (.BoolOp .Or (a::b::rest) pos) (F5 ta tb):=by
 intro ff s e H Q I h;show BoolOp_or (thP (i ff s e H _ I h) λv l x f g m d=>?_);let%[c,rfl|d]:=nJ d;cases m;show wpAny_truthy_bool ?_;cases c with
 | false=>exact j ff l e f Q g d
 | true=>exact%[.bl true,f,g,ρ|d]
end
abbrev JP(K:ZA)(H:Hp)(a:Addr)(xs:List V):Prop:=
 Rd H a (.lst xs)\/
  ∃o its n,K.lookup a∣o/\o.cls= .type "list"/\o.dict=none/\o.data= .seq its n/\its.size<=sizeLine/\aD xs its.toList
abbrev SqT(K:ZA)(H:Hp)(a:Addr)(xs:List V):Prop:=
 Rd H a (.tup xs)\/
  ∃o its n,K.lookup a∣o/\o.cls= .type "tuple"/\o.data= .seq its n/\its.size<=sizeLine/\aD xs its.toList
abbrev absV:Value->Option V
 | .none=>some .non
 | .bool b=>some (.bl b)
 | .int i _=>some (.int i)
 | .str x _=>some (.str x)
 | .bytes b _=>some (.byt b)
 | .float b _=>some (.flt b)
 | .ref a=>some (.ref a)
 | .type n=>some (.ty n)
 | _=>none
def aJ.abs(r:aJ x u):absV u∣x:=by
 cases x with
 | non=>cases r;rfl
 | bl _=>cases r;rfl
 | int _=>have%[t|rfl]:=r;rfl
 | str _=>have%[t|rfl]:=r;rfl
 | byt _=>have%[t|rfl]:=r;rfl
 | flt _=>have%[t|rfl]:=r;rfl
 | ref _=>cases r;rfl
 | ty _=>cases r;rfl
def aJ.inj(r:aJ x u)(q:aJ y u):x=y:=Za (r.abs.symm.trans q.abs)
def aD.inj:∀{xs ys:List V} {us:ZF},aD xs us->aD ys us->xs=ys
 | _,_,_,.nil,.nil=>rfl
 | _,_,_,.cons r t,.cons a t'=>by rw[r.inj a,aD.inj t t']
section
#version
variable{a:Addr}{xs ys:List V}
def JP.of{K:ZA}(h:H a<*xs):JP K H a xs:= .inl (.inl h)
def SqT.of{K:ZA}(h:H a&&&xs):SqT K H a xs:= .inl (.inl h)
def JQ.list(I:JQ X ff σ H s)(h:JP X.K H a xs):∃its:ZF,aD xs its/\PlainL s.heap a its.toArray/\ ~~~xs<=sizeLine:=by
 rcases h with h|⟨o,its,n,b,c,d,f,g,r⟩
 .let%[z,its,n,r|e]:=h.ok I.hok;exact%[its,r,%[_,n,e,ρ,ρ|ρ]|z]
 .show%[its.toList,r,%[o,n,I.kIn a o b,c,d|f]|?_];let e:= ~~~r
  simp_all
def JQ.tuple(I:JQ X ff σ H s)(h:SqT X.K H a xs):∃its:ZF,aD xs its/\IsTup s.heap a its.toArray/\ ~~~xs<=sizeLine:=by
 rcases h with h|⟨o,its,n,b,c,d,f,r⟩
 .let%[z,its,r|p]:=h.ok I.hok;exact%[its,r,p|z]
 .show%[its.toList,r,%[o,I.kIn a o b,c,n|d]|?_];let e:= ~~~r;simp only[Zb]at e
  lia
def JQ.list_inj(I:JQ X ff σ H s)(h:JP X.K H a xs)(h':JP X.K H a ys):xs=ys:=by
 let%[its,r,%[o,n,e,_,_|d]|_]:=I.list h;let%[its',f,%[i,j,b,_,_|c]|_]:=I.list h';rw[e]at b;cases b;rw[d]at c;injection c with g _
 let:=congrArg Array.toList g;subst this;exact r.inj f
def JQ.tuple_inj(I:JQ X ff σ H s)(h:SqT X.K H a xs)(h':SqT X.K H a ys):xs=ys:=by
 let%[its,r,%[o,e,_,n|d]|_]:=I.tuple h;let%[its',f,%[i,b,_,j|c]|_]:=I.tuple h';rw[e]at b;cases b;rw[d]at c;injection c with g _
 let:=congrArg Array.toList g;subst this;exact r.inj f
end
noncomputable abbrev Cx.wish(X:Cx)(E:ZD):Cx:={X with xe:=E}
noncomputable abbrev Cx.nox(X:Cx):Cx:=X.wish λ_ _=>False
def Cx.Ok.wish{X:Cx}(ok:X.Ok)(E:ZD):(X.wish E).Ok:=
 %[ok.mod,ok.kind,ok.glob,ok.blt,ok.above,ok.inj,ok.has,ok.cab,ok.hd,ok.frames,ok.stk,ok.exf,ok.bs,ok.bsz,ok.noex,ok.exfs,ok.funs|ok.frf]
def Cx.Ok.unwish{X:Cx}{E:ZD}(ok:(X.wish E).Ok):X.Ok:=
 %[ok.mod,ok.kind,ok.glob,ok.blt,ok.above,ok.inj,ok.has,ok.cab,ok.hd,ok.frames,ok.stk,ok.exf,ok.bs,ok.bsz,ok.noex,ok.exfs,ok.funs|ok.frf]
section
#version
variable{E:ZD}
def JQ.wish(I:JQ X ff σ H s)(E:ZD):JQ (X.wish E) ff σ H s:=%[I.ok.wish E,I.os,I.bare,I.base,I.loc,I.cell,I.free,I.freeC,I.pin,I.hok|I.len]
def JQ.unwish(I:JQ (X.wish E) ff σ H s):JQ X ff σ H s:=%[I.ok.unwish,I.os,I.bare,I.base,I.loc,I.cell,I.free,I.freeC,I.pin,I.hok|I.len]
def SP.unwish{D:fU}{f:Flow}{s':Shared}(h:SP (X.wish E) ff D f s'):SP X ff D f s':=by
 cases f with
 | next=>have%[a,b,I|q]:=h;exact%[a,b,I.unwish|q]
 | brk=>have%[a,b,I|q]:=h;exact%[a,b,I.unwish|q]
 | cont=>have%[a,b,I|q]:=h;exact%[a,b,I.unwish|q]
 | ret u=>have%[v,a,b,I,r|q]:=h;exact%[v,a,b,I.unwish,r|q]
def PSs.nox{st:List Stmt}(h:PSs X.nox st t):PSs X st t:=λff s σ H D I hw=>
 wpAny_mono (h ff s σ H D (I.wish _) hw) (λ_ _ q=>q.unwish) λ_ _ z=>False.elim z
end
section
variable{X:Cx}{st:Stmt}{rest:List Stmt}{t u:TS}{e:Expr}{te:TE}{pos:Pos}
abbrev yy:TS:=λD a H=>D.nx a H
abbrev bn(t u:TS):TS:=λD a H=>t {D with nx:=u D} a H
def DP:PSs X [] yy:=λ_ _ a H _ I h=>wpAny_execs_nil %[a,H,I|h]
def A6(b:PS X st t)(c:PSs X rest u):PSs X (st::rest) (bn t u):=by
 intro ff s d H D I h;show wpAny_execs_cons (thn (b ff s d H _ I h) λf g q=>?_);cases f with
 | next=>
   let%[a,i,j|q]:=q;exact c ff g a i D j q
 | ret v=>exact q
 | brk=>exact q
 | cont=>exact q
def DQ(a:PS X st t):PSs X [st] t:=by
 intro ff s b H D I h;show wpAny_execs_cons (thn (a ff s b H D I h) λf c q=>?_);cases f with
 | next=>exact wpAny_execs_nil q
 | ret v=>exact q
 | brk=>exact q
 | cont=>exact q
def JQ.quiet{ff:List _}{a:St}{H:Hp}{s:Shared}(I:JQ X ff a H s):interactive X.env=false:=by simp[interactive,I.ok.kind]
abbrev jB(te:TE):TS:=λD a H=>te a H λ_ b=>D.nx a b
def DR(b:PE X e te)(c:swapsWith e none pos.line X.env=pure false):PS X (.Expr e pos) (jB te):=by
 intro ff s a H D I h;exact wpAny_Expr_any (thP (b ff s a H _ I h) λv i x d f j g=>%[a,d,f|g]) I.quiet c
abbrev jK(te:TE):TS:=λD a H=>te a H D.rt
def F8(b:PE X e te):PS X (.Return (some e) pos) (jK te):=by
 intro ff s a H D I h;exact wpAny_Return_some (thP (b ff s a H _ I h) λv i x c d f g=>%[x,a,c,d,f|g])
abbrev iM(c:TT)(t u:TS):TS:=λD a H=>c a H λb d=>if b=true then t D a d else u D a d
def IH{c:Expr}{a b:List Stmt}(m:PT X c n)(o:PSs X a t)(p:PSs X b u):PS X (.If c a b pos) (iM n t u):=by
 intro ff s f H D I h;show wpAny_If (thT (m ff s f H _ I h) λd g i j l=>?_);cases d with
 | true=>exact o ff g f i D j l
 | false=>exact p ff g f i D j l
abbrev A7:TS:=λ_ _ _=>False
def A8:PS X st A7:=λ_ _ _ _ _ _ h=>h.elim
end
noncomputable abbrev TG:=V->St->Hp->(St->Hp->Prop)->Prop
noncomputable abbrev TGs:=List V->St->Hp->(St->Hp->Prop)->Prop
abbrev PG(X:Cx)(a:Expr)(t:TG):Prop:=
 ∀ff s (c:St) H v u Q,JQ X ff c H s->aJ v u->t v c H Q->
  (X⁻¹) (assign a X.env u) (λ_ s'=>∃b d,JQ X ff b d s'/\Q b d) X.xe s
abbrev PGs(X:Cx)(ts:List Expr)(t:TGs):Prop:=
 ∀ff s (b:St) H vs us Q,JQ X ff b H s->aD vs us->t vs b H Q->
  (X⁻¹) (assignInOrder ((assignEach ts X.env)\2) us) (λ_ s'=>∃a c,JQ X ff a c s'/\Q a c) X.xe s
noncomputable abbrev F9:=V->V->V->Hp->(Hp->Prop)->Prop
abbrev Ga(X:Cx)(t:F9):Prop:=
 ∀ff s (a:St) H o i v b c u Q,JQ X ff a H s->aJ o b->aJ i c->aJ v u->t o i v H Q->
  (X⁻¹) (setItem b c u) (λ_ s'=>∃d,JQ X ff a d s'/\Q d) X.xe s
section
variable{X:Cx}{pos:Pos}
abbrev jC(i:Nat):TG:=λv a H Q=>Q (a.set i (some v)) H
def DS(a:X.N.Nodup)(hi:X.N[i]?∣x)(b:Loc X.env.scope x)(c:X.fn x=true\/X.env.scope.names.lookup x∣.local):PG X (.Name x pos) (jC i):=by
 intro ff s e H v u Q I r h;exact wpAny_assign_Name (j4 I a hi b r (λs' d=>%[_,H,d|h]) c)
abbrev Gb:TGs:=λvs a H Q=>vs=[]/\Q a H
abbrev A9(t:TG)(u:TGs):TGs:=λvs b H Q=>∃v r,vs=v::r/\t v b H λa c=>u r a c Q
def DT:PGs X [] Gb:=by
 intro ff s a H vs us Q I r h;let%[e|h]:=h;exact assignInOrder_nil %[a,H,I|h]
def Ba{e:Expr}{u:TGs}(c:PG X e t)(d:PGs X a u)
 (f:(assignEach (e::a) X.env)\2=assign e X.env::(assignEach a X.env)\2):PGs X (e::a) (A9 t u):=by
 intro ff s g H vs us Q I r h;let%[v,o,i|h]:=h;subst i;cases r with
 | cons r rr=>
   rw[f];exact assignInOrder_cons (thn (c ff s g H _ _ _ I r h) λ_ j ⟨b,l,m,n⟩=>d ff j b l _ _ Q m rr n)
abbrev DU(K:ZA)(n:Nat)(t:TGs):TG:=λv b H Q=>asR v λa=>∃xs,SqT K H a xs/\ ~~~xs=n/\t xs b H Q
def Gc(g:X.calm=true)(h:PGs X c t)
 (i: ~~~(assignEach c X.env)=n) (d:(assignEach c X.env).findIdx? (·.1)=none):PG X (.Tuple c k pos) (DU X.K n t):=by
 intro ff s j H v u Q I r hw;let%[a,l,xs,m,p|hw]:=eG hw;clear ‹DU _ _ _ _ _ _ _›;subst l;cases r;let%[its,f,q|y]:=I.tuple m;exact assign_Tuple_tuple (I.ok.hd g) q (by simp[i,<-p,~~~f]) d λh' w=>h ff _ j H xs _ Q (I.kept λb o e=>w b o (Zs (Zu e)) e) (f) hw
abbrev Gd(b c:TE)(t:F9):TG:=λv a H Q=>b a H λo d=>c a d λi e=>t o i v e λf=>Q a f
def Ge{o i:Expr}{d e:TE}{t:F9}(f:PE X o d)(hi:PE X i e)(g:Ga X t)
 (j:∀v,assign (.Subscript o i pos) X.env v=(do
  let a<-holding [v] (eval o X.env)
  let b<-holding [v,a] (eval i X.env)
  standAt pos
  holding [v,a,b] (setItem a b v)
  release [v,a,b] [])):PG X (.Subscript o i pos) (Gd d e t):=by
 intro ff s c H v u Q I r h;rw[j];show Z2 (wpAny_holding (thP (f ff s c H _ I h) λa l x m n p q=>?_));show Z2 (wpAny_holding (thP (hi ff l c m _ n q) λb w y z A B C=>?_));show Z2 (wpAny_standAt (Z2 (wpAny_holding (thT (g ff w c z x y v a b u _ A p B r C) λ_ L E G J=>?_))));exact wpAny_release %[c,E,G|J]
abbrev pY(te:TE)(g:TG):TS:=λD a H=>te a H λx b=>g x a b D.nx
def Gf{a e:Expr}{g:TG}(c:PE X e te)(d:PG X a g)(f:swapsWithSole [a] e pos.line X.env=pure false)(hw:swappedStores [a] e X.env=pure none)
 (i:(assignEach [a] X.env)\2=[assign a X.env]):PS X (.Assign [a] e pos) (pY te g):=by
 intro ff s b H D I h;show wpAny_Assign_stores (thP (c ff s b H _ I h) λv j x l m n o=>?_) f hw;rw[i];exact thn (d ff j b l x v _ m n o) λ_ p q=>q
def Bb{i:Nat}{x:Str}{e:Expr}(b:X.N.Nodup)(hi:X.N[i]?∣x)(c:Loc X.env.scope x)(d:PE X e te)(f:swapsWith e (some (.Name x a)) pos.line X.env=pure false)(g:X.fn x=true\/X.env.scope.names.lookup x∣.local):
 PS X (.Assign [.Name x a] e pos) (pY te (jC i)):=by
 intro ff s j H D I h;exact wpAny_Assign_Name (thP (d ff s j H _ I h) λv q y l m n o=>j4 m b hi c n (λr p=>%[_,l,p|o]) g) f
abbrev Bc(c:TT)(h:TS):TS:=λD a H=>∃W:Nat->St->Hp->Prop,(∃m,W m a H)/\∀m a H,W m a H->
 c a H λb e=>if b=true then∃N:St->Hp->Prop,(∀d f,N d f->∃g,g<m/\W g d f)/\h {D with nx:=N,ct:=N,bk:=D.nx} a e else D.nx a e
def Bd(w:PassesOwn (model X.prog X.w) X.A X.env X.xe)(E:PT X c G)(J:PSs X e L):PS X (.While c e [] pos) (Bc G L):=by
 intro ff s M H D I h;let%[W,%[O|Q]|g]:=h;show wpAny_While (codeAny_whileLoop (λn s'=>∃i y,JQ X ff i y s'/\W n i y) ?_ O %[M,H,I|Q]);intro n T %[d,z,U|Y];show wpAny_passesOwn w (thT (E ff T d z _ U (g n d z Y)) λb s2 A B l=>?_);cases b with
 | true=>
   let%[N,C|l]:=l;show wpAny_passesOwn w (thn (J ff s2 d A _ B l) λf s3 m=>?_);cases f with
   | next=>
     let%[a,j,o|p]:=m;let%[q,r|u]:=C a j p;exact%[q,r,a,j,o|u]
   | cont=>
     let%[a,j,o|p]:=m;let%[q,r|u]:=C a j p;exact%[q,r,a,j,o|u]
   | brk=>exact m
   | ret v=>exact m
 | false=>
   exact wpAny_execs_nil %[d,A,B|l]
end
structure It where
 go:Nat->Hp->Prop
 yld:Nat->Hp->V->Hp->Prop
 stop:Nat->Hp->Prop
abbrev mY(X:Cx)(ff:ZE)(H:Hp)(b:Addr):Prop:=
 H b=none/\b≠X.env.locals/\b∉X.fs/\(b∈X.ex\/X.s₀.heap.objs.size<=b)/\(∀x c,X.env.cells.lookup x∣c->c≠b)/\∀p∈X.pn++ff,p.1≠b
def JQ.fpOk{X:Cx}(I:JQ X ff h H s)(a:⇑s<=b)(d:f b=none):mY X ff f b:=by
 show%[d,X2 (Zg I.lt a),I.nofs a,.inr (Nat.le_trans I.sz a),λx c e z=>?_|λp g z=>?_]
 .let%[v|q]:=I.cell x c e;exact absurd (Zg q.lt (z▸a)) (Xl _)
 .exact absurd (Zg (Zu (I.pin p g).1) (z▸a)) (Xl _)
structure pZ (P:Program) (w:World) (K:ZA) (tg:Expr) (J:It) (fp:List Addr) (it:Addr) (tn:Nat->Heap->Prop):Prop where
 mem:it∈fp
 obj:∀i h,tn i h->∀b∈fp,∃o,h.get? b∣o/\∀v,o.data≠ .cell v
 keep:∀i h h',tn i h->(∀b∈fp,∀o,h.get? b∣o->h'.get? b∣o)->tn i h'
 item:∀(X:Cx),X.prog=P->X.w=w->X.K=K->X.calm=true->∀i (ff:ZE) s (σ:St) H (E:ZD),JQ X ff σ H s->(∀b∈fp,mY X ff H b)->tn i s.heap->J.go i H->
  wpAny (model P w) X.A (pyNext (.ref it)) (λr s1=>∃u,r∣u/\
   wpAny (model P w) X.A (letOwnedTupleGo tg (.ref it) u) (λ_ s2=>∃x H',JQ X ff σ H' s2/\aJ x u/\J.yld i H x H'/\tn (i+1) s2.heap/\∀b∈fp,H' b=none) E s1) E s
 done:∀X,X.prog=P->X.w=w->X.K=K->X.calm=true->∀i ff s (σ:St) H E,JQ X ff σ H s->(∀b∈fp,mY X ff H b)->tn i s.heap->J.stop i H->
  wpAny (model P w) X.A (pyNext (.ref it)) (λr s1=>r=none/\JQ X ff σ H s1) E s
 self:∀A i s Q E,tn i s.heap->Q (.ref it) s->wpAny (model P w) A (pyIter (.ref it)) Q E s
noncomputable abbrev TI:=St->Hp->(It->Hp->Prop)->Prop
abbrev PIE(X:Cx)(ff:ZE)(g:St)(h:Expr)(R:It->Hp->Prop)(a:Value)(d:Shared):Prop:=
 ∃it e f J c,a= .ref it/\JQ X ff g c d/\pZ X.prog X.w X.K h J e it f/\f 0 d.heap/\(∀b∈e,mY X ff c b)/\R J c
abbrev PI(X:Cx)(b iter:Expr)(c:TI):Prop:=
 ∀ff s (a:St) H R,JQ X ff a H s->c a H R->
  (X⁻¹) (eval iter X.env) (λv d=>(X⁻¹) (pyIter v) (PIE X ff a b R) X.xe d) X.xe s
def qB(b:s.heap.get? it∣o)(c:o.cls= .type n)(d:o.data= .fields vs)
 (e:["enumerate","zip","dict_itemiterator","dict_reverseitemiterator","odict_iterator","itertools.zip_longest","itertools.pairwise"].contains n=false) (a:Q () s):wpAny M A (letOwnedTupleGo f (.ref it) u) Q E s:=by
 cases f<;> first
  | exact Z3 a
  |(cases u<;> first
   | exact Z3 a
   |(show Z2 (wpAny_load b ?_)
     rw[c,d];change wpAny M A (if(["enumerate","zip","dict_itemiterator","dict_reverseitemiterator","odict_iterator","itertools.zip_longest","itertools.pairwise"].contains n&&vs[0]? ==some _)=true then _ else _) Q E s;rw[if_neg (by intro h;rw[e,Bool.false_and]at h;cases h)];exact Z3 a))
abbrev Itl(K:ZA)(a:Addr):It:=
 ⟨λi H=>∃xs x,JP K H a xs/\xs[i]?∣x,λi H x b=>b=H/\∀xs,JP K H a xs->xs[i]?∣x,λi H=>∃xs,JP K H a xs/\ ~~~xs<=i⟩
abbrev Itt(K:ZA)(a:Addr):It:=
 ⟨λi H=>∃xs x,SqT K H a xs/\xs[i]?∣x,λi H x b=>b=H/\∀xs,SqT K H a xs->xs[i]?∣x,λi H=>∃xs,SqT K H a xs/\ ~~~xs<=i⟩
abbrev Itr(lo:Int)(n:Nat):It:=%[λi _=>i<n,λi H x a=>a=H/\x= .int (lo+i)|λi _=>n<=i]
def qC{P:Program}{K:ZA}(a it:Addr):pZ P w K tg (Itl K a) [it] it (λi h=>h.IsListIter it a i) where
 mem:=by simp
 obj:=λi h st b hb=>by
  let e:=↑hb
  subst e;let%[o,e,c|d]:=st;exact%[o,e|λv z=>by rw[d]at z;cases z]
 keep:=λi h h' st k=>st.at λo e=>k it ∅ o e
 item:=by
  intro X hP hw hK hc i ff s σ H E I hf st hg;subst hP hw hK;let%[xs,x,hq|hx]:=hg;let%[its,rv,p|hz]:=I.list hq;let%[u,hu|ru]:=rv.get hx;let%[f0,f1,f2,f3,f4|f5]:=hf it ∅;show wpAny_pyNext_list_item st p.isList ↑hu λh' st' sb=>?_
  let%[o,e,c|d]:=id st';exact%[u,ρ|qB e c d (!1) %[x,H,(I.turned (λb o hb e=>(sb.2 b hb).trans e) f0 f1 f3 f4 f5),ru,%[ρ|λys hy=>(I.list_inj hy hq)▸hx],st'|λb hb=>(hf b hb).1]]
 done:=by
  intro X hP hw hK hc i ff s σ H E I hf st hg;subst hP hw hK;let%[xs,hq|hx]:=hg;let%[its,rv,p|hz]:=I.list hq;let%[f0,f1,f2,f3,f4|f5]:=hf it ∅;let hl:= ~~~rv;exact wpAny_pyNext_list_end (I.ok.hd hc) st p.isList (by simp;lia) λh' eb=>%[rfl|I.turned (λb o hb e=>eb b o hb e) f0 f1 f3 f4 f5]
 self:=λ_ _ _ _ _ st h=>wpAny_pyIter_listiter st h
def wP{P:Program}{K:ZA}(a it:Addr):pZ P w K tg (Itt K a) [it] it (λi h=>h.IsTupleIter it a i) where
 mem:=by simp
 obj:=λi h st b hb=>by
  let e:=↑hb
  subst e;let%[o,e,c|d]:=st;exact%[o,e|λv z=>by rw[d]at z;cases z]
 keep:=λi h h' st k=>st.at λo e=>k it ∅ o e
 item:=by
  intro X hP hw hK hc i ff s σ H E I hf st hg;subst hP hw hK;let%[xs,x,hq|hx]:=hg;let%[its,rv,p|hz]:=I.tuple hq;let%[u,hu|ru]:=rv.get hx;let%[f0,f1,f2,f3,f4|f5]:=hf it ∅;show wpAny_pyNext_tuple_item st (p) ↑hu λh' st' sb=>?_
  let%[o,e,c|d]:=id st';exact%[u,ρ|qB e c d (!1) %[x,H,(I.turned (λb o hb e=>(sb.2 b hb).trans e) f0 f1 f3 f4 f5),ru,%[ρ|λys hy=>(I.tuple_inj hy hq)▸hx],st'|λb hb=>(hf b hb).1]]
 done:=by
  intro X hP hw hK hc i ff s σ H E I hf st hg;subst hP hw hK;let%[xs,hq|hx]:=hg;let%[its,rv,p|hz]:=I.tuple hq;let%[f0,f1,f2,f3,f4|f5]:=hf it ∅;let hl:= ~~~rv;exact wpAny_pyNext_tuple_end (I.ok.hd hc) st (p) (by simp;lia) λh' eb=>%[rfl|I.turned (λb o hb e=>eb b o hb e) f0 f1 f3 f4 f5]
 self:=λ_ _ _ _ _ st h=>wpAny_pyIter_tupleiter st h
def wQ{P:Program}{K:ZA}(it:Addr)(lo:Int)(n:Nat):pZ P w K tg (Itr lo n) [it] it (λi h=>IsRangeIter h it (lo+(i:Nat)*1) ((n:Int) -(i:Nat)) 1) where
 mem:=by simp
 obj:=λi h st b hb=>by
  simp_all
 keep:=λi h h' st k=>k it ∅ _ st
 item:=by
  intro X hP hw hK hc i ff s σ H E I hf st hg;subst hP hw hK;let%[f0,f1,f2,f3,f4|f5]:=hf it ∅;show(Walks.range (prog:=X.prog) (w:=X.w) (I.ok.hd hc) it lo 1 n).item i s _ _ hg st λv h' tk hv st' kk=>?_
  let%[t|rfl]:=hv;show%[_,ρ|qB st' rfl rfl (!1) %[.int _,H,(I.turned (λb o hb e=>kk b o ↑hb e) f0 f1 f3 f4 f5),%[t|?_],%[ρ|ρ],st'|λb hb=>(hf b hb).1]];rw[Int.mul_one]
 done:=by
  intro X hP hw hK hc i ff s σ H E I hf st hg;let%[f0,f1,f2,f3,f4|f5]:=hf it ∅;exact wpAny_pyNext_range_end (I.ok.hd hc) st (by let:n<=i:=hg;lia) λh' eb=>%[rfl|I.turned (λb o hb e=>eb b o hb e) f0 f1 f3 f4 f5]
 self:=λ_ _ _ _ _ st h=>wpAny_pyIter_rangeiter st h
section
variable{X:Cx}{tg:Expr}
def Be{R:It->Hp->Prop}{lo hi:Int}(I:JQ X ff c H s)(d: -(2^62)<=lo)(f:lo<2^62)(g: -(2^62)<=hi)(h:hi<2^62)
 (q:R (Itr lo (hi-lo).toNat) H):(X⁻¹) (pyIter (.ref ⇑s)) (PIE X ff c tg R) E {s with heap:=s.heap.push {cls:= .type "range",data:= .fields #[.int lo t,.int hi u,.int 1 v]},toks:=tk}:=by
 show wpAny_pyIter_range (IsRange.new ..) (small_one d f g h) ?_;let a:JQ X ff c H {s with heap:=s.heap.push {cls:= .type "range",data:= .fields #[.int lo t,.int hi u,.int 1 v]},toks:=tk}:=I.kept λb o e=>Z7 _ e
 show%[(s.heap.push _).objs.size,[(s.heap.push _).objs.size],_,_,H,ρ,
  a.kept λb o e=>Z7 _ e,wQ _ lo _,?_,λb i=>?_|q]
 .let j:lo+((0:Nat))*1=lo:=by simp
  let l:(((hi-lo).toNat)) -((0:Nat))=Builtin.Range.rangeSize lo hi 1:=by rw[rangeSize_one];split<;> lia
  rw[j,l];exact Zj _ rfl
 .let e:b=(s.heap.push {cls:= .type "range",data:= .fields #[.int lo t,.int hi u,.int 1 v]}).objs.size:=↑i
  subst e;exact a.fpOk (Zi _) (a.hok.fresh (Zi _))
abbrev Bf(a:TA):TI:=λb H R=>a b H λvs c=>∃j:Int,vs=[.int j]/\ -(2^62)<=j/\j<2^62/\R (Itr 0 j.toNat) c
def zD{a:Expr}(c:Gl X "range")(d:X.mg "range"=none)(f:PA X [a] g)(i:starEach [a] X.env=[(false,eval a X.env)]):PI X tg (.Call (.Name "range" p) [a] [] pos) (Bf g):=by
 intro ff s l H R I h;show Call_ (jJ I c d boot_range (PyProof.Rows.callWith_type1 (thP (f pos ff s l H _ I h) λus u vs v m n b=>?_) i rfl));let%[j,e,b,o|q]:=b;subst e;cases n with
 | cons r rr=>
   cases rr;let%[t|rfl]:=r;exact call_range_1 (Be m ⋯ ⋯ b o ↑q)
abbrev wR(f:TI)(g:TG)(h:TS):TS:=λD a H=>f a H λJ j=>∃W:Nat->Nat->St->Hp->Prop,(∃m,W 0 m a j)/\∀i m a H,W i m a H->
 (J.stop i H/\D.nx a H)\/(J.go i H/\∃N:St->Hp->Prop,(∀b c,N b c->∃e,e<m/\W (i+1) e b c)/\∀x c,J.yld i H x c->g x a c λd l=>h {D with nx:=N,ct:=N,bk:=D.nx} d l)
abbrev sK(a:List Addr)(h:Heap):ZE:=a.filterMap λb=>(h.get? b).map λo=>(b,o)
def eX(a:b∈c)(e:h.get? b∣o):(b,o)∈sK c h:=mem_filterMap.mpr %[b,a|by rw[e];rfl]
def zE(a:p∈sK c h):p.1∈c/\h.get? p.1∣p.2:=by
 let%[b,d|e]:=mem_filterMap.mp a;cases q:h.get? b with
 | none=>simp_all
 | some o=>
   rw[q]at e;let f:=Za e;subst f;exact%[d|q]
def JQ.pinned(I:JQ X ff g H s)(h:∀b∈a,mY X ff H b)(i:∀b∈a,∃o,s.heap.get? b∣o/\∀v,o.data≠ .cell v):JQ X (ff++sK a s.heap) g H s:=
 I.pins_of λp j=>(Xo j).elim (λz=>I.pin p (Yx _ z)) λz=>by
  let%[c|e]:=zE z;let%[l,m,n|_]:=h p.1 c;let%[o,f|d]:=i p.1 c;rw[e]at f;cases f;exact%[e,l,m,n|d]
def JQ.unpinned(I:JQ X (ff++pl) a H s):JQ X ff a H s:=I.pins_of λp b=>I.pin p (Yx _ (Yw _ b))
def Gg(B:PassesOwn (model X.prog X.w) X.A X.env X.xe)(hc:X.calm=true)(hi:PI X tg iter wi)(hg:PG X tg g)(c:PSs X C tb)
 (hs:∀x,foldedSetIterable iter X.env x=pure x):PS X (.For tg iter C [] pos) (wR wi g tb):=by
 intro ff s σ H D I h;show wpAny_For (thn (hi ff s σ H _ I h) λv s1 h1=>thn h1 λac s2 h2=>?_) hs;let%[it,O,tn,J,H2,e,I2,T,U,f2,W,%[m0|w0]|E]:=h2;subst e;let j:∀{y:Hp},(∀b∈O,y b=none)->∀b∈O,mY X ff y b:=λhn b c=>%[hn b c|(f2 b c).2]
 show codeAny_forLoop_any (λn s'=>∃i l y,JQ X ff l y s'/\tn i s'.heap/\(∀b∈O,y b=none)/\W i n l y) ?_ m0 %[0,σ,H2,I2,U,λb c=>(f2 b c).1|w0];intro n s3 %[i,p,Q,I3,G,L|w3];rcases E i n p Q w3 with⟨stop,qn⟩|⟨go,N,hN,step⟩
 .show wpAny_passesOwn B (thn (T.done X rfl rfl rfl hc i ff s3 p Q X.xe I3 (j L) G stop) λr s4 ⟨Y,I4⟩=>?_);subst Y;exact wpAny_execs_nil %[p,Q,I4|qn]
 .show wpAny_passesOwn B (thn (T.item X rfl rfl rfl hc i ff s3 p Q X.xe I3 (j L) G go) λr s4 ⟨u,Y,h4⟩=>?_);subst Y;show wpAny_passesOwn B (thn h4 λ_ s5 ⟨x,H5,I5,r5,y5,A,aa⟩=>wpAny_passesOwn B (thn (hg _ s5 p H5 x u _ (I5.pinned (j aa) (T.obj _ _ A)) r5 (step x H5 y5)) λ_ s6 ⟨ab,H6,I6,q6⟩=>wpAny_passesOwn B (thn (c _ s6 ab H6 _ I6 q6) λf s7 z=>?_)));let again:∀{a:St} {q:Hp},JQ X _ a q s7->N a q->∃m,m<n/\∃i l y,JQ X ff l y s7/\tn i s7.heap/\(∀b∈O,y b=none)/\W i m l y:=λ{a q} w M=>by
   let%[m',hm|w7]:=hN a q M;show%[m',hm,i+1,a,q,w.unpinned,T.keep _ _ _ A λb c o e=>(w.pin _ (Yx _ (Yx _ (eX c e)))).1,λb c=>?_|w7];let%[o,e|d]:=T.obj _ _ A b c;exact(w.pin _ (Yx _ (Yx _ (eX c e)))).2.1
  cases f with
  | next=>have%[a,q,w|M]:=z;exact again w M
  | cont=>have%[a,q,w|M]:=z;exact again w M
  | brk=>have%[a,q,w|z]:=z;exact%[a,q,w.unpinned|z]
  | ret v=>have%[x7,a,q,w,r7|z]:=z;exact%[x7,a,q,w.unpinned,r7|z]
end
def fW{K:ZA}{g:TG}{l:TS}{D:fU}(Pv:Nat->St->Hp->Prop)(o:Pv 0 b H)(r:∀i b H,i<= ~~~xs->Pv i b H->JP K H a xs)
 (s:∀i x b H,xs[i]?∣x->Pv i b H->g x b H λc h=>l {D with nx:=Pv (i+1),ct:=Pv (i+1),bk:=D.nx} c h) (u:∀b H,Pv xs.length b H->D.nx b H):
 ∃W:Nat->Nat->St->Hp->Prop,(∃m,W 0 m b H)/\∀i m b H,W i m b H->
  ((Itl K a).stop i H/\D.nx b H)\/((Itl K a).go i H/\∃N:St->Hp->Prop,(∀d f,N d f->∃n,n<m/\W (i+1) n d f)/\∀x f,(Itl K a).yld i H x f->g x b f λc h=>l {D with nx:=N,ct:=N,bk:=D.nx} c h):=by
 show%[λi m b H=>m= ~~~xs-i/\i<= ~~~xs/\Pv i b H,%[~~~xs,by simp,Xg _|o]|?_];intro i m b H %[rfl,hi|p];let q:=r i b H hi p;by_cases j:i< ~~~xs
 .show .inr %[%[xs,xs[i],q|by simp],Pv _,λd f v=>%[~~~xs-(i+1),⋯,rfl,j|v]|λx f y=>?_];let%[e|y]:=y;subst e;exact s i x b _ (y xs q) p
 .let e:i= ~~~xs:=by lia
  subst e;exact .inl %[%[xs,q|Zi _]|u b H p]
def cP{lo:Int}{g:TG}{j:TS}{D:fU}(Pv:Nat->St->Hp->Prop)(o:Pv 0 a H)
 (q:∀i a H,i<n->Pv i a H->g (.int (lo+i)) a H λb h=>j {D with nx:=Pv (i+1),ct:=Pv (i+1),bk:=D.nx} b h) (r:∀a H,Pv n a H->D.nx a H):
 ∃W:Nat->Nat->St->Hp->Prop,(∃m,W 0 m a H)/\∀i m a H,W i m a H->
  ((Itr lo n).stop i H/\D.nx a H)\/((Itr lo n).go i H/\∃N:St->Hp->Prop,(∀c d,N c d->∃l,l<m/\W (i+1) l c d)/\∀x d,(Itr lo n).yld i H x d->g x a d λb h=>j {D with nx:=N,ct:=N,bk:=D.nx} b h):=by
 show%[λi m a H=>m=n-i/\i<=n/\Pv i a H,%[n,by simp,Xg _|o]|?_];intro i m a H %[rfl,hi|p];by_cases f:i<n
 .show .inr %[f,Pv _,λc d s=>%[n-(i+1),⋯,rfl,f|s]|λx d y=>?_];let%[e|y]:=y;subst e y;exact q i a _ f p
 .let e:i=n:=by lia
  subst e;exact .inl %[Zi _|r a H p]
noncomputable abbrev R2:=V->V->Hp->VK->Prop
abbrev OpR(X:Cx)(f:Value->Value->Sem Value)(r:R2):Prop:=
 ∀ff s (a:St) H x y v u Q,JQ X ff a H s->aJ x v->aJ y u->r x y H Q->
  (X⁻¹) (f v u) (EP X ff a Q) X.xe s
abbrev UnR(X:Cx)(f:Value->Sem Value)(r:V->Hp->VK->Prop):Prop:=
 ∀ff s (a:St) H x v Q,JQ X ff a H s->aJ x v->r x H Q->
  (X⁻¹) (f v) (EP X ff a Q) X.xe s
abbrev bZ(X:Cx)(f:Value)(r:List V->Hp->VK->Prop):Prop:=
 ∀ff s (a:St) H xs us Q,JQ X ff a H s->aD xs us->r xs H Q->
  (X⁻¹) (call f us) (EP X ff a Q) X.xe s
abbrev TruR(X:Cx)(r:V->Hp->(Bool->Hp->Prop)->Prop):Prop:=
 ∀ff s (a:St) H x v Q,JQ X ff a H s->aJ x v->r x H Q->
  (X⁻¹) (truthy v) (TP X ff a Q) X.xe s
abbrev tOp(r:R2)(b c:TE):TE:=λa H Q=>b a H λx d=>c a d λy e=>r x y e Q
abbrev tUn(r:V->Hp->VK->Prop)(a:TE):TE:=λb H Q=>a b H λx c=>r x c Q
abbrev rI(C:Int->Int->Prop)(g:Int->Int->V):R2:=λx y H Q=>asI x λi=>asI y λj=>C i j/\Q (g i j) H
abbrev rI0(g:Int->Int->V):R2:=λx y H Q=>asI x λi=>asI y λj=>Q (g i j) H
abbrev rU(g:Int->V):V->Hp->VK->Prop:=λx H Q=>asI x λi=>Q (g i) H
section
variable{X:Cx}{a b c:Expr}{ta tb tc:TE}{pos:Pos}
def Gh(m:PE X a ta)(n:PE X b tb){ff:List _}{s:Shared}{d:St}{H:Hp}{R:V->V->Hp->Prop}(I:JQ X ff d H s)
 (h:ta d H λx l=>tb d l λy e=>R x y e) {Q:ZD} {f:Value->Value->Sem Value}
 (o:∀v u j x y e,JQ X ff d e j->aJ x v->aJ y u->R x y e->(X⁻¹) (f v u) Q X.xe j):
 (X⁻¹) (eval a X.env) (λv g=>(X⁻¹) (eval b X.env) (λu i=>(X⁻¹) (f v u) Q X.xe i) X.xe g) X.xe s:=by
 exact thP (m ff s d H _ I h) λv p x l q r w=>thP (n ff p d l _ q w) λu j y e z A B=>o v u j x y e z r A B
def II{r:R2}(d:OpR X (binaryOp op) r)(e:PE X a ta)(f:PE X b tb):PE X (.BinOp a op b pos) (tOp r ta tb):=by
 intro ff s g H Q I h;exact wpAny_BinOp (Gh e f I h λv u i x y j l m n q=>d ff i g j x y v u Q l m n q)
def IJ(e:UnR X (unaryOp op) r)(f:PE X a ta):PE X (.UnaryOp op a pos) (tUn r ta):=by
 intro ff s d H Q I h;exact UnaryOp_ (thP (f ff s d H _ I h) λv g x i j l m=>e ff g d i x v Q j l m)
def opI{f:Value->Value->Sem Value}{C:Int->Int->Prop}{g:Int->Int->Int}
 (rule:∀i j t u s Q E,C i j->Q (.int (g i j) s.toks) {s with toks:=s.toks+1}->(X⁻¹) (f (.int i t) (.int j u)) Q E s):
 OpR X f (rI C λi j=> .int (g i j)):=by
 intro ff s n H x y v u Q I d e h;let%[i,rfl|l]:=iL h;let%[j,rfl,m|q]:=iL l;let%[t|rfl]:=d;let%[t'|rfl]:=e;exact rule i j t t' s _ _ m %[.int _,H,I.tok _,%[_|rfl]|q]
def IK{g:Int->Int->Int}
 (rule:∀(i j:Int) (t u:Tok) (s:Shared) (Q:ZD) (E:ZD),Q (.int (g i j) s.toks) {s with toks:=s.toks+1}->(X⁻¹) (f (.int i t) (.int j u)) Q E s):
 OpR X f (rI0 λi j=> .int (g i j)):=by
 intro ff s m H x y v u Q I d e h;let%[i,rfl|l]:=iL h;let%[j,rfl|q]:=iL l;let%[t|rfl]:=d;let%[t'|rfl]:=e;exact rule i j t t' s _ _ %[.int _,H,I.tok _,%[_|rfl]|q]
def Gi{g:Int->Int->Bool}
 (rule:∀(i j:Int) (t u:Tok) (s:Shared) (Q:ZD) (E:ZD),Q (.bool (g i j)) s->(X⁻¹) (f (.int i t) (.int j u)) Q E s):
 OpR X f (rI0 λi j=> .bl (g i j)):=by
 intro ff s m H x y v u Q I d e h;let%[i,rfl|l]:=iL h;let%[j,rfl|q]:=iL l;let%[t|rfl]:=d;let%[t'|rfl]:=e;exact rule i j t t' s _ _ %[.bl _,H,I,rfl|q]
abbrev IL(i j:Int):Prop:=0<j/\j<1073741824
abbrev Bg(i j:Int):Prop:=(-(2^64)<i/\i<2^64)\/(-(2^64)<j/\j<2^64)
def Bg.ok{i j:Int}(h:Bg i j):IntMulOk i j:=by
 rcases h with⟨d,e⟩|⟨d,e⟩
 .exact .of_left (intBits_le_64 d e)
 .exact .of_right (intBits_le_64 d e)
def Gj:OpR X (binaryOp .Add) (rI0 λi j=> .int (i+j)):=IK λ_ _ _ _ _ _ _ q=>add_int q
def Gk:OpR X (binaryOp .Sub) (rI0 λi j=> .int (i-j)):=IK λ_ _ _ _ _ _ _ q=>sub_int q
def Bh:OpR X (binaryOp .Mult) (rI Bg λi j=> .int (i*j)):=opI λ_ _ _ _ _ _ _ d q=>mul_int q d.ok
def DV:OpR X (binaryOp .FloorDiv) (rI IL λi j=> .int (i/j)):=opI λi j _ _ _ _ _ d q=>by
 let e:(0:Int)<j:=d.1;let f:j<1073741824:=d.2;exact floordiv_int ⋯ (by rw[Int.fdiv_eq_ediv_of_nonneg i ⋯];exact q) (.inl (PyProof.noPylong_small ⋯))
def Gm:OpR X (binaryOp .Mod) (rI (λ_ j=>0<j) λi j=> .int (i%j)):=opI λi j _ _ _ _ _ d q=>by
 let e:(0:Int)<j:=d;exact mod_int' ⋯ (by rw[Int.fmod_eq_emod_of_nonneg i ⋯];exact q)
def unI{g:Int->Int}
 (rule:∀(i:Int) (t:Tok) (s:Shared) (Q:ZD) (E:ZD),Q (.int (g i) s.toks) {s with toks:=s.toks+1}->(X⁻¹) (f (.int i t)) Q E s):
 UnR X f (rU λi=> .int (g i)):=by
 intro ff s e H x v Q I d h;let%[i,rfl|q]:=iL h;let%[t|rfl]:=d;exact rule i t s _ _ %[.int _,H,I.tok _,%[_|rfl]|q]
def Gn:UnR X (unaryOp .USub) (rU λi=> .int (-i)):=unI λ_ _ _ _ _ q=>neg_int q
end
abbrev Go(x y:V):Bool:=match x with
 | .non=>(match y with| .non=>true| .int _=>true| .bl _=>true| .str _=>true|_=>false)
 | .int _=>(match y with| .non=>true| .int _=>true| .str _=>true|_=>false)
 | .bl _=>(match y with| .non=>true| .bl _=>true| .str _=>true|_=>false)
 | .str _=>(match y with| .non=>true| .int _=>true| .bl _=>true| .str _=>true|_=>false)
 | .byt _=>(match y with| .byt _=>true|_=>false)
 | _=>false
abbrev rEq:R2:=λx y H Q=>Go x y=true/\Q (.bl (decide (x=y))) H
abbrev rNe:R2:=λx y H Q=>Go x y=true/\Q (.bl (!decide (x=y))) H
def yz:decide (V.int i=V.int j)=(i==j):=by
 rw[Bool.eq_iff_iff];simp
def Bi:decide (V.bl i=V.bl j)=(i==j):=by
 rw[Bool.eq_iff_iff];simp
def yA:decide (V.str i=V.str j)=(i==j):=by
 rw[Bool.eq_iff_iff];simp
def yB:decide (V.byt i=V.byt j)=(i.toList==j.toList):=by
 rw[Bool.eq_iff_iff]
 simp_all
section
variable{X:Cx}{a b c:Expr}{ta tb tc:TE}{pos:Pos}
def a8(I:JQ X ff d H s)(q:Q (.bl k) H)(e:k=f):EP X ff d Q (.bool f) s:=by
 subst e;exact%[.bl k,H,I,ρ|q]
def IM:OpR X (compareOp .Eq) rEq:=by
 intro ff s g H x y v u Q I f d h;let%[e|q]:=h;cases x with
 | non=>
   cases f;cases y with
   | non=>cases d;exact PySem.EqNone.eq_none_none (a8 I q ∅)
   | bl j=>cases d;exact PySem.EqNone.eq_none_bool (a8 I q ∅)
   | int j=>have%[t'|rfl]:=d;exact PySem.EqNone.eq_none_int (a8 I q ∅)
   | str j=>have%[t'|rfl]:=d;exact PySem.EqNone.eq_none_str (a8 I q ∅)
   | _=>exact absurd (show false=true from e) Zt
 | bl i=>
   cases f;cases y with
   | non=>cases d;exact PySem.EqNone.eq_bool_none (a8 I q ∅)
   | bl j=>cases d;exact eq_bool (a8 I q Bi)
   | str j=>have%[t'|rfl]:=d;exact PySem.EqMixed.eq_bool_str (a8 I q ∅)
   | _=>exact absurd (show false=true from e) Zt
 | int i=>
   let%[t|rfl]:=f;cases y with
   | non=>cases d;exact PySem.EqNone.eq_int_none (a8 I q ∅)
   | int j=>have%[t'|rfl]:=d;exact eq_int (a8 I q yz)
   | str j=>have%[t'|rfl]:=d;exact PySem.EqMixed.eq_int_str (a8 I q ∅)
   | _=>exact absurd (show false=true from e) Zt
 | str i=>
   let%[t|rfl]:=f;cases y with
   | non=>cases d;exact PySem.EqNone.eq_str_none (a8 I q ∅)
   | bl j=>cases d;exact PySem.EqMixed.eq_str_bool (a8 I q ∅)
   | int j=>have%[t'|rfl]:=d;exact PySem.EqMixed.eq_str_int (a8 I q ∅)
   | str j=>have%[t'|rfl]:=d;exact eq_str (a8 I q yA)
   | _=>exact absurd (show false=true from e) Zt
 | byt i=>
   let%[t|rfl]:=f;cases y with
   | byt j=>have%[t'|rfl]:=d;exact PySem.W.eq_bytes (a8 I q yB)
   | _=>exact absurd (show false=true from e) Zt
 | _=>cases y<;> exact absurd (show false=true from e) Zt
def FB:OpR X (compareOp .NotEq) rNe:=by
 intro ff s g H x y v u Q I f d h;let%[e|q]:=h;cases x with
 | non=>
   cases f;cases y with
   | non=>cases d;exact PySem.EqNone.ne_none_none (a8 I q ∅)
   | bl j=>cases d;exact PySem.EqNone.ne_none_bool (a8 I q ∅)
   | int j=>have%[t'|rfl]:=d;exact PySem.EqNone.ne_none_int (a8 I q ∅)
   | str j=>have%[t'|rfl]:=d;exact PySem.EqNone.ne_none_str (a8 I q ∅)
   | _=>exact absurd (show false=true from e) Zt
 | bl i=>
   cases f;cases y with
   | non=>cases d;exact PySem.EqNone.ne_bool_none (a8 I q ∅)
   | bl j=>cases d;exact ne_bool (a8 I q (congrArg not Bi))
   | str j=>have%[t'|rfl]:=d;exact PySem.EqMixed.ne_bool_str (a8 I q ∅)
   | _=>exact absurd (show false=true from e) Zt
 | int i=>
   let%[t|rfl]:=f;cases y with
   | non=>cases d;exact PySem.EqNone.ne_int_none (a8 I q ∅)
   | int j=>have%[t'|rfl]:=d;exact ne_int (a8 I q (congrArg not yz))
   | str j=>have%[t'|rfl]:=d;exact PySem.EqMixed.ne_int_str (a8 I q ∅)
   | _=>exact absurd (show false=true from e) Zt
 | str i=>
   let%[t|rfl]:=f;cases y with
   | non=>cases d;exact PySem.EqNone.ne_str_none (a8 I q ∅)
   | bl j=>cases d;exact PySem.EqMixed.ne_str_bool (a8 I q ∅)
   | int j=>have%[t'|rfl]:=d;exact PySem.EqMixed.ne_str_int (a8 I q ∅)
   | str j=>have%[t'|rfl]:=d;exact ne_str (a8 I q (congrArg not yA))
   | _=>exact absurd (show false=true from e) Zt
 | byt i=>
   let%[t|rfl]:=f;cases y with
   | byt j=>have%[t'|rfl]:=d;exact PySem.W.ne_bytes (a8 I q (congrArg not yB))
   | _=>exact absurd (show false=true from e) Zt
 | _=>cases y<;> exact absurd (show false=true from e) Zt
def IP:OpR X (compareOp .Lt) (rI0 λi j=> .bl (decide (i<j))):=Gi λ_ _ _ _ _ _ _ q=>lt_int q
def IQ:OpR X (compareOp .LtE) (rI0 λi j=> .bl (decide (i<=j))):=Gi λ_ _ _ _ _ _ _ q=>le_int q
def IR:OpR X (compareOp .Gt) (rI0 λi j=> .bl (decide (j<i))):=Gi λ_ _ _ _ _ _ _ q=>gt_int q
def zF:OpR X (compareOp .In) (λx y H Q=>∃i j,x= .str i/\y= .str j/\Q (.bl (!(Builtin.Str.occurrences j i 0 j.length 1).isEmpty)) H):=by
 intro ff s f H x y v u Q I d e h;let%[i,j,rfl,rfl|q]:=h;let%[t|rfl]:=d;let%[t'|rfl]:=e;exact in_str (a8 I q rfl)
def Gp:OpR X (compareOp .Is) (λx y H Q=>y= .non/\Q (.bl (decide (x= .non))) H):=by
 intro ff s f H x y v u Q I d e h;let%[rfl|q]:=h;cases e;show is_none_gen (a8 I q ?_);cases x<;> first
  | lia
  |(have%[t|rfl]:=d;rfl)
def DW:OpR X (compareOp .IsNot) (λx y H Q=>y= .non/\Q (.bl (!decide (x= .non))) H):=by
 intro ff s f H x y v u Q I d e h;let%[rfl|q]:=h;cases e;show isnot_none_gen (a8 I q ?_);cases x<;> first
  | lia
  |(have%[t|rfl]:=d;rfl)
def OpR.or(h:OpR X f r)(h':OpR X f i):OpR X f (λx y H Q=>r x y H Q\/i x y H Q):=by
 intro ff s d H x y v u Q I e g q;rcases q with q|q
 .exact h ff s d H x y v u Q I e g q
 .exact h' ff s d H x y v u Q I e g q
def nomark(b:Expr)(h:op≠ .In)(f:op≠ .NotIn):behindInMarks op b=false:=by
 let d:(op==CmpOp.In)=false:=by lia
 let e:(op==CmpOp.NotIn)=false:=by lia
 cases b<;> simp[behindInMarks,d,e]
def DX{r:R2}(d:OpR X (compareOp op) r)(e:PE X a ta)(f:PE X b tb)(g:behindInMarks op b=false):PE X (.Compare a [op] [b] pos) (tOp r ta tb):=by
 intro ff s i H Q I h;exact wpAny_Compare1 (Gh e f I h λv u j x y l m n o q=>d ff j i l x y v u Q m n o q) g
abbrev yC(t:TE):TT:=λd H Q=>t d H λx e=>asB x λk=>Q k e
def DY(f:OpR X (compareOp op) r)(g:PE X a ta)(i:PE X b tb)(j:behindInMarks op b=false):PT X (.Compare a [op] [b] pos) (yC (tOp r ta tb)):=by
 intro ff s d H Q I h;show wpAny_isTrue_Compare1 (thP (g ff s d H _ I h) λv l x m n o p=>thP (i ff l d m _ n p) λu q y w A B C=>
  thP (f ff q d w x y v u _ A o B C) λc L z E G J e=>?_) j
 let%[k,rfl|e]:=nJ e;cases J;exact wpAny_truthy_bool %[E,G|e]
abbrev wS(r f:R2)(ta tb tc:TE):TE:=λd H Q=>ta d H λx g=>tb d g λy h=>r x y h λz e=>asB z λk=>
 (if k=true then tc d e λi j=>f y i j Q else Q (.bl false) e)
def Bj(n:OpR X (compareOp op) r)(i:OpR X (compareOp e) o)(p:PE X a ta)(q:PE X b tb)(w:PE X c tc)
 (A:lastMarks [op,e] [b,c]=false):PE X (.Compare a [op,e] [b,c] pos) (wS r o ta tb tc):=by
 intro ff s f H Q I h;show Compare_chain (thP (p ff s f H _ I h) λv B x C E G J=>chain_link (thP (q ff B f C _ E J) λu L y M N j O=>
  thP (n ff L f M x y v u _ N G j O) λd T z l m U g=>?_)) A
 let%[k,rfl|g]:=nJ g;cases U;show wpAny_truthy_bool ?_;cases k with
 | false=>exact ite_ff %[.bl false,l,m,rfl|g]
 | true=>exact ite_tt (chain_last (thP (w ff T f l _ m g) λY s4 z' H4 I4 r4 q4=>i ff s4 f H4 y z' u Y Q I4 j r4 q4))
abbrev Bk(K:ZA)(x:V)(H:Hp)(k:Bool):Prop:=
 match x with
 | .non=>k=false
 | .bl b=>k=b
 | .int i=>k=(i != 0)
 | .str y=> ~~~y<=sizeLine/\k=((~~~y:Int) != 0)
 | .byt y=>y.size<=sizeLine/\k=((y.size:Int) != 0)
 | .ref p=>(∃xs,JP K H p xs/\k=!xs.isEmpty)\/(∃xs,SqT K H p xs/\k=!xs.isEmpty)\/∃d,H p∣.dK d/\k=!d.isEmpty
 | _=>False
def wU{e:Type}{d:List (e×V)}{vs:List _}(r:KV d vs):(!vs.isEmpty)=!d.isEmpty:=by
 cases r<;> rfl
def nK(r:aD xs its):(!its.toArray.isEmpty)=!xs.isEmpty:=by
 cases r<;> simp
def nM:sizeLine<2^63:=!1
def Gq:TruR X (λx H Q=>∃k,Bk X.K x H k/\Q k H):=by
 intro ff s w H x v Q I j h;let%[k,e|q]:=h;let z:=nM;let A:sizeLine=16777216:=sizeLine_eq;cases x with
 | non=>
   cases j;let d:k=false:=e;subst d;exact truthy_none %[H,I|q]
 | bl b=>
   cases j;let d:k=b:=e;subst d;exact wpAny_truthy_bool %[H,I|q]
 | int i=>
   let%[t|rfl]:=j;let d:k=(i != 0):=e;subst d;exact PySem.P.truthy_int %[H,I|q]
 | str y=>
   let%[t|rfl]:=j;obtain⟨o,d⟩: ~~~y<=sizeLine/\k=((~~~y:Int) != 0):=e;subst d;exact PySem.P.truthy_str ⋯ %[H,I.tok _|q]
 | byt y=>
   let%[t|rfl]:=j;obtain⟨o,d⟩:y.size<=sizeLine/\k=((y.size:Int) != 0):=e;subst d;exact PySem.W.truthy_bytes ⋯ %[H,I.tok _|q]
 | ref p=>
   cases j;let d:(∃xs,JP X.K H p xs/\k=!xs.isEmpty)\/(∃xs,SqT X.K H p xs/\k=!xs.isEmpty)\/∃f,H p∣.dK f/\k=!f.isEmpty:=e;rcases d with⟨xs,l,d⟩|⟨xs,l,d⟩|⟨f,l,d⟩
   .subst d;let%[its,r,pl|n]:=I.list l;let g:= ~~~r;exact wpAny_truthy_list pl.isList (by simp only[Zp];lia) %[H,I.tok _|(nK r)▸q]
   .subst d;let%[its,r,pl|n]:=I.tuple l;let g:= ~~~r;exact truthy_tuple pl (by simp only[Zp];lia) %[H,I.tok _|(nK r)▸q]
   .subst d;obtain⟨n,u,vs,r,m⟩: ~~~f<=sizeLine/\(p==sysModules)=false/\∃vs,KV f vs/\s.heap.DictOf (aI X.prog X.w) p vs:=I.hok p _ l;let g: ~~~f= ~~~vs:=Paired.length r;exact wpAny_truthy_dict u m ⋯ %[H,I.tok _|(wU r)▸q]
 | _=>exact(show False from e).elim
def Bl(g:PE X a ta)(i:∀d,isTrue a X.env d=(do let v<-d;standAt a.pos;holding [v] (truthy v))):
 PT X a (λe H Q=>ta e H λx f=>∃k,Bk X.K x f k/\Q k f):=by
 intro ff s e H Q I h;exact isTrue_plain (thP (g ff s e H _ I h) λv j x l m n o=>Gq ff j e l x v Q m n o) (i _)
def wV:OpR X (binaryOp .Add) (λx y H Q=>∃i j,x= .str i/\y= .str j/\ ~~~i+ ~~~j<=sizeLine/\Q (.str (i++j)) H):=by
 intro ff s g H x y v u Q I d e h;let%[i,j,rfl,rfl,f|q]:=h;let%[t|rfl]:=d;let%[t'|rfl]:=e;exact add_str (λt' tk=>%[.str _,H,I.tok _,%[_|rfl]|q]) f
def cU(r:aD [x] us):∃u,us=[u]/\aJ x u:=by
 cases r with
 | cons d e=>cases e;exact%[_,ρ|d]
def iu(r:aD [x,y] us):∃u d,us=[u,d]/\aJ x u/\aJ y d:=by
 cases r with
 | cons e f=>
   cases f with
   | cons g h=>cases h;exact%[_,_,ρ,e|g]
def zG(e:X.calm=true):bZ X (.builtin "max") (λxs H Q=>∃i j,xs=[.int i,.int j]/\Q (.int (if j>i then j else i)) H):=by
 intro ff s f H xs us Q I r h;let%[i,j,rfl|q]:=h;let%[u,g,rfl,%[t|rfl],t'|rfl]:=iu r;show max_two_ints (I.ok.hd e) λh' tk k=>%[_,H,I.kept k,?_|q]
 by_cases d:j>i
 .rw[if_pos d,if_pos d];exact%[_|ρ]
 .rw[if_neg d,if_neg d];exact%[_|ρ]
def zH(e:X.calm=true):bZ X (.builtin "min") (λxs H Q=>∃i j,xs=[.int i,.int j]/\Q (.int (if j<i then j else i)) H):=by
 intro ff s f H xs us Q I r h;let%[i,j,rfl|q]:=h;let%[u,g,rfl,%[t|rfl],t'|rfl]:=iu r;show min_two_ints (I.ok.hd e) λh' tk k=>%[_,H,I.kept k,?_|q]
 by_cases d:j<i
 .rw[if_pos d,if_pos d];exact%[_|ρ]
 .rw[if_neg d,if_neg d];exact%[_|ρ]
def zI:bZ X (.type "int") (λxs H Q=>(∃i,xs=[.int i]/\Q (.int i) H)\/∃k,xs=[.bl k]/\Q (.int (if k then 1 else 0)) H):=by
 intro ff s e H xs us Q I r h;rcases h with⟨i,rfl,q⟩|⟨k,rfl,q⟩
 .let%[u,rfl,t|rfl]:=cU r;exact call_int_int %[.int i,H,I,%[_|rfl]|q]
 .let%[u,rfl|d]:=cU r;cases d;exact call_int_bool %[.int _,H,I.tok _,%[_|rfl]|q]
def sL:bZ X (.type "str") (λxs H Q=>∃i,xs=[.int i]/\i.natAbs.log2<1920/\Q (.str (toString i)) H):=by
 intro ff s e H xs us Q I r h;let%[i,rfl,d|q]:=h;let%[u,rfl,t|rfl]:=cU r;exact PySem.P.str_of_int d %[.str _,H,I.tok _,%[_|rfl]|q]
abbrev DZ(K:ZA)(x:V)(H:Hp)(n:Nat):Prop:=
 match x with
 | .str y=> ~~~y<=sizeLine/\n= ~~~y
 | .byt y=>y.size<=sizeLine/\n=y.size
 | .ref p=>(∃xs,JP K H p xs/\n= ~~~xs)\/∃xs,SqT K H p xs/\n= ~~~xs
 | _=>False
def Bm:bZ X (.builtin "len") (λxs H Q=>∃x n,xs=[x]/\DZ X.K x H n/\Q (.int n) H):=by
 intro ff s o H xs us Q I r h;let%[x,n,rfl,e|q]:=h;let%[u,rfl|g]:=cU r;let v:=sizeLine_eq;cases x with
 | str y=>
   let%[t|rfl]:=g;obtain⟨l,f⟩: ~~~y<=sizeLine/\n= ~~~y:=e;subst f;exact len_str ⋯ %[.int _,H,I.tok _,%[_|rfl]|q]
 | byt y=>
   let%[t|rfl]:=g;obtain⟨l,f⟩:y.size<=sizeLine/\n=y.size:=e;subst f;exact PySem.W.len_bytes ⋯ %[.int _,H,I.tok _,%[_|rfl]|q]
 | ref p=>
   cases g;let f:=e;rcases f with⟨xs,i,f⟩|⟨xs,i,f⟩
   .subst f;let%[its,j,pl|m]:=I.list i;let d:= ~~~j;exact Calls.call_len_list pl.isList (by simp only[Zp];lia) %[.int xs.length,H,I.tok _,%[_|by simp only[Zp];rw[d]]|q]
   .subst f;let%[its,j,pl|m]:=I.tuple i;let d:= ~~~j;exact len_tuple pl (by simp only[Zp];lia) %[.int xs.length,H,I.tok _,%[_|by simp only[Zp];rw[d]]|q]
 | _=>exact(e).elim
end
structure wW (h:Heap) (x dx C:Addr) (mA:ZC):Prop where
 obj:h.get? x∣instObj C dx
 ns:h.Ns1 dx mA
 ne:dx≠x
def qD{h:Heap}{c:ZC}(n:h.Ns1 d c):∃od,h.get? d∣od/\∀name,lookIn name od∣c name:=by
 let%[o,f,p,g,i,j,_|l]:=n;show%[o,g|λname=>?_];let e:=l name;unfold nsFind findBy at e;rw[<-Array.find?_toList]at e;unfold lookIn;rw[i];dsimp only
 split
 .rename_i y q
  rw[q]at e;exact congrArg some e
 .rename_i q
  rw[q]at e;let a:f.toList.any (·.refKey)=false:=by
   rw[List.any_eq_false];intro y m;let%[z,t|b]:=j y (mem_toList_iff.mp m);simp[DictEntry.refKey,b]
  rw[if_neg (a▸Zt)];exact congrArg some e
def wW.look(I:wW h x a C b):∃od,PySem.W.InstAt h x (instObj C a) C (some od)/\∀name,lookIn name od∣b name:=
 let⟨od,c,d⟩:=qD I.ns
 %[od,%[I.obj,rfl,rfl|c]|d]
section
#where
variable{K:ZA}{x dx C f:Addr}{mA:ZC}{name:Str}{v:Value}
def Ea(X:K.In s.heap)(I:wW s.heap x dx C mA)(c:plainGet K C name=true)(d:hasDictIn K C=true)
 (e:findIn K (.ref C) name∣none) (g:mA name∣v) (a:handedIn v=true) (h:Q v {s with toks:=s.toks+1}):
 ↥A (getAttr (.ref x) name b) Q E s:=by
 let%[od,J|i]:=I.look;exact PySem.W.get_value X J (plainGet_of c).1 (findObj_own d e rfl (by rw[i,g])) a h
def Bn(X:K.In s.heap)(I:wW s.heap x dx C mA)(a:plainGet K C name=true)
 (b:findIn K (.ref C) name∣some (.ref f)) (c:isFn K (.ref f)=true) (d:mA name=none) (h:Q (.ref f,[.ref x]) s):
 ↥A (getMethod (.ref x) name pl) Q E s:=by
 let%[od,J|e]:=I.look;exact PySem.W.method_fn X J (plainGet_of a).1 (plainGet_of a).2 b (beq_iff_eq.mp c) (by change(lookIn name od).map _∣false;rw[e,d];rfl) h
def Eb(X:K.In s.heap)(I:wW s.heap x dx C mA)
 (j:findIn K (.ref C) "__setattr__"=some (some (.builtin "object.__setattr__"))) (l:plainOver K C=true) (m:takerIn K C name∣none) (n:hasDictIn K C=true)
 (hw:PySem.Within mA o) (p: ~~~o<=sizeLine)
 (h:∀h',wW h' x dx C (λy=>if y=name then some v else mA y)->SameBut dx s.heap h'->Q () {s with heap:=h',toks:=s.toks+2}):
 ↥A (setAttr (.ref x) name v) Q E s:=by
 let%[od,J|z]:=I.look;show set_plain X J j (PySem.W.osa_open X J l m λb=>?_);let%[B,q|d]:=any_some n;show Z2 (Z3 (Z2 (Z2 (wpAny_loadPart I.obj (Z2 (Looks.here (looks_clsIn X q) ?_))))));rw[d];show Z3 (Z2 (Z3 (Z2 (wpAny_nsSet1 I.ns λh' a c=>?_))));let%[G,r,u,e,g|i]:=a.count (PySem.Within.cons name v hw);exact Z2 (wpAny_lookBehind e (g▸pastItsLine_dict (Nat.le_trans i (!2))) (Z3 (h _ %[(c.2 _ (Ne.symm I.ne)).trans I.obj,a|I.ne] c)))
def Bo{R:Result->Shared->Prop}(X:K.In s.heap)(b:makesIn K C=true)
 (hi:findIn K (.ref C) "__init__"=some (some (.ref f))) (c:typeIn K (.ref f)∣.type "function")
 (h:codeAny (model prog w) (A.under (.builtin "type.__call__" %[.ref C::vs|a])) (.call (.ref f) %[.ref (⇑s+1)::vs|a]) (PySem.W.InitBack (⇑s+1) R)
  (s>>>(s.heap.push emptyDict).push (instObj C ⇑s))):
 codeAny (model prog w) A (.call (.ref C) %[vs|a]) R s:=by
 exact PySem.W.make_core (PySem.W.makes_of X b) (looks_findIn X hi) (λself=>PySem.W.bind_fn X self c) (.inl rfl) h
end
abbrev dR(f:Str)(v:V):List (Str×V)->List (Str×V)
 |[]=>[(f,v)]
 |(g,x)::r=>if g=f then(g,v)::r else(g,x)::dR f v r
def mv(f g:Str)(v:V):∀fs,(dR f v fs).lookup g=if g=f then some v else fs.lookup g
 |[]=>by
  change List.lookup g [(f,v)]=_;by_cases h:g=f
  .let a:=beq_iff_eq.mpr h;simp only[List.lookup,a,if_pos h]
  .let a:=beq_eq_false_iff_ne.mpr h;simp only[List.lookup,a,if_neg h]
 |(k,x)::r=>by
  rw[show dR f v _=(if k=f then(k,v)::r else(k,x)::dR f v r)from rfl];by_cases b:k=f
  .rw[if_pos b];by_cases h:g=k
   .let a:=beq_iff_eq.mpr h;simp only[List.lookup,a,if_pos (h.trans b)]
   .let a:=beq_eq_false_iff_ne.mpr h;simp only[List.lookup,a,if_neg (λe:g=f=>h (e.trans b.symm))]
  .rw[if_neg b];by_cases h:g=k
   .let a:=beq_iff_eq.mpr h;simp only[List.lookup,a,if_neg (λe=>b (h.symm.trans e))]
   .let a:=beq_eq_false_iff_ne.mpr h;simp only[List.lookup,a];exact(mv f g v r)
def lw(f:Str)(v:V):∀fs:List (Str×V),f∈(dR f v fs)\1/\∀g,g∈fs\1->g∈(dR f v fs)\1
 |[]=>%[by simp[dR]|λg h=>by simp at h]
 |(k,x)::r=>by
  let%[a|b]:=lw f v r;rw[show dR f v _=(if k=f then(k,v)::r else(k,x)::dR f v r)from rfl]
  grind
def my(f:Str)(v:V):∀fs,~~~(dR f v fs)<= ~~~fs+1
 |[]=>by simp[dR]
 |(k,x)::r=>by
  let a:=my f v r;rw[show dR f v _=(if k=f then(k,v)::r else(k,x)::dR f v r)from rfl];by_cases b:k=f
  .simp_all
  simp_all
def fP.some_of(r:fP (some v) o):∃u,o∣u/\aJ v u:=by
 cases o with
 | none=>exact(r).elim
 | some u=>exact%[u,ρ|r]
def fP.none_of(r:fP none o):o=none:=by
 cases o with
 | none=>rfl
 | some u=>exact(r).elim
def qF(r:aJ v u):handedIn u=true:=by
 cases v with
 | non=>cases(r);rfl
 | bl b=>cases(r);rfl
 | int i=>have%[t|e]:=(r);cases e;rfl
 | str x=>have%[t|e]:=(r);cases e;rfl
 | byt b=>have%[t|e]:=(r);cases e;rfl
 | flt b=>have%[t|e]:=(r);cases e;rfl
 | ref a=>cases(r);rfl
 | ty n=>cases(r);rfl
section
variable{P:Program}{w:World}{H H':Hp}{h h':Heap}{a C dx:Addr}{fs fs':List (Str×V)}
def nt(c:HOk P w H h)(e:H a∣.ins C dx fs):∃b,wW h a dx C b/\(∀f,fP (fs.lookup f) (b f))/\PySem.Within b (fs\1)/\ ~~~fs<=1000/\H dx∣.own a:=by
 let%[d,z,ne,g,b,n,r|q]:=(c a _ e)
 exact%[b,%[g,n|ne],r,q,z|d]
end
structure Cls (K:ZA) (C:Addr):Prop where
 pg:plainGet K C Str.empty=true
 hd:hasDictIn K C=true
 po:plainOver K C=true
 sa:findIn K (.ref C) "__setattr__"=some (some (.builtin "object.__setattr__"))
def Cls.get{K:ZA}{C:Addr}(c:Cls K C)(f:Str):plainGet K C f=true:=c.pg
abbrev fQ(K:ZA)(C:Addr)(f:Str):Prop:=findIn K (.ref C) f∣none
def fQ.taker{K:ZA}{C:Addr}{f:Str}(n:fQ K C f):takerIn K C f∣none:=by
 unfold takerIn;rw[n];rfl
structure Ec (K:ZA) (C:Addr) (m:Str) (f:Addr):Prop where
 at_:findIn K (.ref C) m∣some (.ref f)
 fn:isFn K (.ref f)=true
 kp:keepIn K (.ref f)=true
section
#version
variable{a C dx:Addr}{fs:List (Str×V)}{f:Str}{v:V}{A:Around}{E:ZD}
def wX(I:JQ X ff σ H s)(e:H a∣.ins C dx fs)(c:Cls X.K C)(n:fQ X.K C f)(l:fs.lookup f∣v)
 (h:∀u s',JQ X ff σ H s'->aJ v u->Q u s'):wpAny (model X.prog X.w) A (getAttr (.ref a) f b) Q E s:=by
 let%[i,O,r,_,_|_]:=nt I.hok e;let%[u,g|d]:=fP.some_of (l▸r f);exact Ea I.kIn O (c.get f) c.hd n g (qF d) (h u _ (I.tok _) d)
def wY(I:JQ X ff σ H s)(e:H a∣.ins C dx fs)(c:Cls X.K C)(k:Ec X.K C m g)(l:fs.lookup m=none)
 (h:Q (.ref g,[.ref a]) s):wpAny (model X.prog X.w) A (getMethod (.ref a) m pl) Q E s:=by
 let%[b,O,r,_,_|_]:=nt I.hok e;exact Bn I.kIn O (c.get m) k.at_ k.fn (fP.none_of (l▸r m)) h
def wZ(I:JQ X ff σ H s)(e:H a∣.ins C dx fs)(c:Cls X.K C)(n:fQ X.K C f)(J: ~~~fs<1000)(l:aJ y u)
 (h:∀s',JQ X ff σ (JO H a (.ins C dx (dR f y fs))) s'->Q () s'):wpAny (model X.prog X.w) A (setAttr (.ref a) f u) Q E s:=by
 let%[m,O,r,i,_|j]:=nt I.hok e;show Eb I.kIn O c.sa c.po n.taker c.hd i (by rw[Z6,sizeLine_eq];lia) λh' d p=>h _ (I.write (e▸True.intro) (.inr j) (λb q w z=>(p.2 b w).trans z) (let⟨o,_,_,B,_⟩:=d.ns;%[o|B]) %[(au O.ne)▸j,?_,O.ne,d.obj,_,d.ns,λg=>?_|λg G=>?_])
 .let:=my f y fs;lia
 .rw[mv];by_cases q:g=f
  .rw[if_pos q,if_pos q];exact l
  .rw[if_neg q,if_neg q];exact r g
 .by_cases q:g=f
  .exact q▸(lw f y fs).1
  .show(lw f y fs).2 g (i g λz=>G ?_);change(if g=f then some u else m g)=none;rw[if_neg q];exact z
def JQ.made(I:JQ X ff σ H s):JQ X ff σ (JO (JO H ⇑s (.own (⇑s+1))) (⇑s+1) (.ins C ⇑s []))
 (s>>>(s.heap.push emptyDict).push (instObj C ⇑s)):=by
 let c:(s.heap.push emptyDict).get? ⇑s∣emptyDict:=Zj s.heap rfl;let d:=by
  let:=Zj (s.heap.push emptyDict) (o:=instObj C ⇑s) rfl;rwa[Zq]at this
 show(I.laid (o:= .own (⇑s+1)) (t':=s.toks) (λb u q=>Z7 _ q) (Zi _) %[_|c]).laid (λb u q=>Z7 _ q) (le_of_eq (Zq _ _)) ?_;let ne:⇑s≠⇑s+1:=Zs (Yp _);show%[by rw[au ne,ae],Xg _,ne,d,λ_=>none,(Heap.Ns1.of_empty %[emptyDict,#[],_,c,ρ,(λe g=>absurd g ∅)|λ_=>rfl]).at λo q=>Z7 _ q,λ_=>True.intro|λy h=>absurd rfl h]
def yD(c:attributeBase e f env (eval e env)=eval e env)
 (h:↥A (eval e env) (λo b=>↥A (getAttr o f true) Q E b) E s):↥A (eval (.Attribute e f pos) env) Q E s:=
 Attribute_any_ h (by rw[arm_eval_Attribute,c])
end
abbrev Gr(K:ZA)(c:TE)(f:Str):TE:=λd H Q=>c d H λx b=>∃a C e fs v,x= .ref a/\b a∣.ins C e fs/\Cls K C/\fQ K C f/\fs.lookup f∣v/\Q v b
abbrev Gu(K:ZA)(e g:TE)(f:Str):TS:=λD b H=>g b H λy h=>e b h λx c=>∃a C d fs,x= .ref a/\c a∣.ins C d fs/\Cls K C/\fQ K C f/\ ~~~fs<1000/\
 D.nx b (JO c a (.ins C d (dR f y fs)))
section
variable{X:Cx}{o e value:Expr}{f:Str}{pos pos' tpos:Pos}{ta tv:TE}
def Gw(b:PE X e ta)(d:attributeBase e f X.env (eval e X.env)=eval e X.env):PE X (.Attribute e f pos) (Gr X.K ta f):=by
 intro ff s g H Q I h;show yD d (thP (b ff s g H _ I h) λu y x i j m ⟨a,C,z,fs,v,ex,p,c,n,l,q⟩=>?_);subst ex;obtain rfl:u=Value.ref a:=m;exact wX j p c n l λA B r w=>%[v,i,r,w|q]
def Gx(d:PE X o ta)(g:PE X value tv)(i:swapsWith value (some (.Attribute o f pos')) pos.line X.env=pure false):PS X (.Assign [.Attribute o f pos'] value pos) (Gu X.K ta tv f):=by
 intro ff s b H D I h;show plainObj_wpAny_Assign_Attribute (thP (g ff s b H _ I h) λu j y m p r q=>thP (d ff j b m _ p q) λv G x J w z ⟨a,C,L,fs,ex,A,c,n,l,B⟩=>?_) i;subst ex;obtain rfl:v=Value.ref a:=z;exact wZ w A c n l r λM E=>%[b,_,E|B]
end
section
#version
variable{A:Around}{E:ZD}{Q:ZD}{c:Value}{b:Bool}
inductive jL (K:ZA) (H:Hp):V->Value->Prop where
 | non:jL K H .non (.type "NoneType")
 | bl (x:Bool):jL K H (.bl x) (.type "bool")
 | int (i:Int):jL K H (.int i) (.type "int")
 | str (x:Str):jL K H (.str x) (.type "str")
 | flt (x:UInt64):jL K H (.flt x) (.type "float")
 | lst {a:Addr} {xs:List V} (e:H a<*xs):jL K H (.ref a) (.type "list")
 | frz {a:Addr} {o:Obj} {xs:List V} (e:H a∣.frz o (.lst xs)):jL K H (.ref a) (.type "list")
 | tup {a:Addr} {xs:List V} (e:H a&&&xs):jL K H (.ref a) (.type "tuple")
 | dK {a:Addr} {kvs:List _} (e:H a∣.dK kvs):jL K H (.ref a) (.type "dict")
 | dT {a:Addr} {kvs:List _} (e:H a∣.dT kvs):jL K H (.ref a) (.type "dict")
 | ins {a C dx:Addr} {fs:List _} (e:H a∣.ins C dx fs) (cl:Cls K C) (ha:findIn K (.ref C) "__class__"=some (some (.builtin "object.__class__")))
  (hn:specialIn K (.builtin "object.__class__") "__get__"=some (some (.builtin "getset_descriptor.__get__"))) (htk:takesIn K (.builtin "object.__class__")∣true)
  (hm:mroIn K C (.type "object")∣true):jL K H (.ref a) (.ref C)
def zJ(I:JQ X ff σ H s)(d:aJ x u)(ty:jL X.K H x t)(e:kitOne X.K t c∣b)(h:∀tk,Q (.bool b) {s with toks:=tk}):
 wpAny (model X.prog X.w) A (call (.builtin "isinstance") [u,c]) Q E s:=by
 cases ty with
 | non=>cases(d);exact kia_one kitx_none I.kIn True.intro e (λz=>nomatch z) h
 | bl y=>cases(d);exact kia_one PySem.W.kitx_bool I.kIn True.intro e (λz=>nomatch z) h
 | int i=>have%[t|q]:=(d);cases q;exact kia_one PySem.W.kitx_int I.kIn True.intro e (λz=>nomatch z) h
 | str y=>have%[t|q]:=(d);cases q;exact kia_one PySem.W.kitx_str I.kIn True.intro e (λz=>nomatch z) h
 | flt y=>have%[t|q]:=(d);cases q;exact kia_one PySem.W.kitx_float I.kIn True.intro e (λz=>nomatch z) h
 | @lst a xs f=>
   cases(d);let%[_,_,n,_|g]:=(I.hok a _ f)
   exact kia_one kitx_list I.kIn %[_,g|rfl] e (λz=>nomatch z) h
 | @frz a M xs f=>
   cases(d);let%[_,_,_,n,_|g]:=(I.hok a _ f)
   exact kia_one kitx_list I.kIn %[_,g|rfl] e (λz=>nomatch z) h
 | @tup a xs f=>
   cases(d);let%[_,_,_|p]:=(I.hok a _ f)
   let%[o,g,j|_]:=p;exact kia_one PySem.W.kitx_tuple I.kIn %[o,g|j] e (λz=>nomatch z) h
 | @dK a l f=>
   cases(show u=Value.ref a from d);let%[_,_,vs,_|p]:=(I.hok a _ f)
   let%[o,v,w,g,j|_]:=p;exact kia_one kitx_dict I.kIn %[o,g|j.1] e (λz=>nomatch z) h
 | @dT a l f=>
   cases(show u=Value.ref a from d);let%[_,_,xs,_,o,v,w,g,j|_]:=(I.hok a _ f)
   exact kia_one kitx_dict I.kIn %[o,g|j.1] e (λz=>nomatch z) h
 | @ins a C N fs f r B G m L=>
   cases(d);let%[T,O|_]:=nt I.hok f;let%[od,J|_]:=O.look;exact kia_one (PySem.W.kitx_own (r.get _) r.hd B G m L) I.kIn J e (λz=>nomatch z) h
end
structure bM (k:Nat) (A:Around):Prop where
 hd:A.handled=none
 dp:A.depth+3*k+5<recursionLimit
 un:A.units+16*k+200<cLine
 gd:A.guards∣[]
def bM.mono(r:bM k A)(h:j<=k):bM j A:=%[r.hd,by let:=r.dp;lia,by let:=r.un;lia|r.gd]
def bM.deeper(r:bM (k+1) A)(env:Env):bM k (A.deeper env):=
 %[r.hd,by let:=r.dp;change A.depth+1+3*k+5<_;lia,by let:=r.un;change A.units+3+16*k+200<_;lia|r.gd]
def w4{A:Around}:(A.under (.builtin "type.__call__" %[.ref C::us|a])).depth=A.depth+1:=by
 first|rfl|lia
def w6{A:Around}:(A.under (.builtin "type.__call__" %[.ref C::us|a])).units=A.units+1:=by
 first|rfl|lia
def bM.make(r:bM (k+1) A)(C:Addr)(us:ZF)(a:List (Str×Value)):bM k (A.under (.builtin "type.__call__" %[.ref C::us|a])):=
 %[r.hd,by let:=r.dp;rw[w4];lia,by let:=r.un;rw[w6];lia|r.gd]
def bM.depth(r:bM k A):A.depth<recursionLimit:=by let:=r.dp;lia
def bM.units(r:bM k A):A.units+64<cLine:=by let:=r.un;lia
abbrev mZ:TA:=λ_ H Q=>Q [] H
abbrev j6(b:TE)(c:TA):TA:=λa H Q=>b a H λx d=>c a d λxs e=>Q (x::xs) e
section
variable{X:Cx}{e:Expr}{es:List Expr}{te:TE}{t:TA}{pos:Pos}
def Gy:PA X [] mZ:=λ_ _ _ _ H Q I h=>Calls.spliced_nil %[[],H,I,.nil|h]
def Ee(b:PE X e te)(c:PA X es t)(d:starEach (e::es) X.env=(false,eval e X.env)::starEach es X.env):PA X (e::es) (j6 te t):=by
 intro pos ff s a H Q I h;rw[d];change wpAny _ _ (spliced ((false,eval e X.env)::backTo pos _)) _ _ s;exact Calls.spliced_cons (thP (b ff s a H _ I h) λu f x g i j l=>thP (c pos ff f a g _ i l) λus q xs m n o p=>%[x::xs,m,n,.cons j o|p])
abbrev Gz(t:TA):TE:=λb H Q=>t b H λxs a=> ~~~xs<=sizeLine/\∀p,a p=none->Q (.ref p) (JO a p (.tup xs))
abbrev uI(t:TA):TE:=λb H Q=>t b H λxs a=> ~~~xs<=sizeLine/\∀p,a p=none->Q (.ref p) (JO a p (.lst xs))
def GA{d}(h:PA X es t):PE X (.Tuple es d pos) (Gz t):=by
 intro ff s f H Q I g;show wpAny_Tuple_spliced (thP (h pos ff s f H _ I g) λus a xs i c r ⟨z,q⟩=>%[~~~r▸z|?_]);let j:=c.hok.fresh (Zi _);show%[.ref ⇑a,JO i ⇑a _,c.laid (λb u e=>Z7 _ e) (Zi _) ?_,ρ|q _ j];exact%[z,us,r,_,Zj _ rfl,ρ,_|ρ]
def GB(h:PA X es t):PE X (.List es pos) (uI t):=by
 intro ff s d H Q I f;show wpAny_List_spliced (thP (h pos ff s d H _ I f) λus a xs g c r ⟨z,q⟩=>%[~~~r▸z|?_]);let i:=c.hok.fresh (Zi _);show%[.ref ⇑a,JO g ⇑a _,c.laid (λb u e=>Z7 _ e) (Zi _) ?_,ρ|q _ i];exact%[z,us,0,r|Zj _ rfl]
end
noncomputable abbrev Sp:=List V->Hp->VK->XK->Prop
noncomputable abbrev CXT:=List Env->Hp->Shared->XK->Value->Shared->Prop
structure zK (P:Program) (w:World) (K:ZA) (mg:ZC) (base:Heap) (A:Around) (outer:List Env) (s:Shared) (H:Hp):Prop where
 frames:A.frames∣outer
 mod:Mod K mg base
 bs:∀b o,base.get? b∣o->s.heap.get? b∣o/\H b=none
 bsz:base.objs.size<=⇑s
 funs:s.heap.FunFrames base outer
 frf:∀b∈frs outer,H b=none
 hok:HOk P w H s.heap
 bare:AllBare s.gens
abbrev CE(outer:List Env)(P:Program)(w:World)(H:Hp)(s:Shared)(Q:VK)(u:Value)(s':Shared):Prop:=
 ∃v a,s'.os=s.os/\AllBare s'.gens/\Un (frs outer) [] H a s.heap s'.heap/\HOk P w a s'.heap/\aJ v u/\Q v a
abbrev CR(CX:CXT)(outer:List Env)(P:Program)(w:World)(H:Hp)(s:Shared)(Q:VK)(E:XK)(r:Result)(s':Shared):Prop:=
 match r with
 | .ok (.ret u)=>CE outer P w H s Q u s'
 | .ok _=>False
 | .error e=>CX outer H s E e s'
structure d9 (P:Program) (w:World) (K:ZA) (mg:ZC) (base:Heap) (CX:CXT) (k:Nat) (f:Addr) (fd:FuncData) (ps:ZB) (sp:Sp):Prop where
 len:∀vs H Q E,sp vs H Q E-> ~~~vs= ~~~ps
 run:∀A outer s H args us vs Q E,bM k A->zK P w K mg base A outer s H->BindsTo s fd args (ps.zip us)->aD vs us->sp vs H Q E->
  codeAny (model P w) A (.call (.ref f) args) (CR CX outer P w H s Q E) s
def d9.imp{P:Program}{K:ZA}(F:d9 P w K mg base CX k f b ps sp)
 (h:∀vs H Q E,a vs H Q E->sp vs H Q E):d9 P w K mg base CX k f b ps a:=
 %[λvs H Q E q=>F.len vs H Q E (h _ _ _ _ q)|λA outer s H args us vs Q E c d e g i=>F.run A outer s H args us vs Q E c d e g (h _ _ _ _ i)]
def zK.make{P:Program}{K:ZA}(e:zK P w K mg base A outer s H)(C:Addr)(us:ZF)(a:List (Str×Value)):
 zK P w K mg base (A.under (.builtin "type.__call__" %[.ref C::us|a])) outer s H:=⟨by first|exact e.frames|lia,e.mod,e.bs,e.bsz,e.funs,e.frf,e.hok,e.bare⟩
section
variable{X:Cx}{ff:ZE}{σ:St}{H:Hp}{s s':Shared}
def JQ.env0(I:JQ X ff σ H s):zK X.prog X.w X.K X.mg X.base X.A X.stack s H:=
 %[I.ok.frames,I.ok.mod,I.bs,Nat.le_trans I.ok.bsz I.sz,I.stack,I.stkFree,I.hok|I.bare]
def JQ.after(I:JQ X ff σ H s)(h:CE X.stack X.prog X.w H s Q u s'):EP X ff σ Q u s':=by
 let%[v,f,os,a,un,c,r|q]:=h;let%[i,g,d,t|e]:=s';obtain rfl:e=s.os:=os;exact%[v,f,I.call un c a (λb z=>absurd z ∅),r|q]
end
abbrev qG(sp:Sp)(dvs:List V)(E:XK)(t:TA):TE:=λa H Q=>t a H λvs b=>sp (vs++dvs) b Q E
abbrev yE(C:Addr)(m:Str)(sp:Sp)(dvs:List V)(E:XK)(d:TE)(t:TA):TE:=λb H Q=>d b H λx c=>∃a e fs,x= .ref a/\c a∣.ins C e fs/\fs.lookup m=none/\
 t b c λvs f=>sp (x::(vs++dvs)) f Q E
abbrev yF(C:Addr)(sp:Sp)(dvs:List V)(E:XK)(t:TA):TE:=λc H Q=>t c H λvs b=>∀x a,b x=none->b a=none->a≠x->
 sp (.ref x::(vs++dvs)) (JO (JO b a (.own x)) x (.ins C a [])) (λv d=>v= .non/\Q (.ref x) d) E
abbrev dH(K:ZA)(a:FuncData)(ps:ZB)(ds:ZF):Prop:=
 ∀s us,K.In s.heap-> ~~~(us++ds)= ~~~ps->BindsTo s a %[us|[]] (ps.zip (us++ds))
def dH.all{K:ZA}(h:∀us:ZF,~~~us= ~~~ps->bindArgs b %[us|[]]=pure (ps.zip us)):dH K b ps []:=λs us _ a=>by
 rw[Zx]at a ⊢;exact .of_eq (h us a)
abbrev gK(CX:CXT)(X:Cx)(E:XK):Prop:=∀ff (a:St) H s e s',JQ X ff a H s->CX X.stack H s E e s'->X.xe e s'
section
variable{X:Cx}{CX:CXT}{k:Nat}{f C:Addr}{fd:FuncData}{ps:ZB}{sp:Sp}{dvs:List V}{ds:ZF}{E:XK}{x m:Str}{p pos apos:Pos}{e o:Expr}{es:List Expr}{ta:TE}{t:TA}
def Bp(F:d9 X.prog X.w X.K X.mg X.base CX k f fd ps sp)(d:bM k X.A)(g:dH X.K fd ps ds)(i:aD dvs ds)(j:gK CX X E)
 (I:JQ X ff b H s) (r:aD vs us) (h:sp (vs++dvs) H Q E):(X⁻¹) (call (.ref f) us) (EP X ff b Q) X.xe s:=by
 let c:=r.append i;show wpAny_call (codeAny_mono (F.run X.A X.stack s H _ _ _ Q E d I.env0 (g s us I.kIn (~~~c▸F.len _ _ _ _ h)) c h) λr s' a=>?_);cases r with
 | error e=>exact j ff b H s e s' I a
 | ok l=>
   cases l with
   | ret u=>exact I.after a
   | next=>exact False.elim a
   | brk=>exact False.elim a
   | cont=>exact False.elim a
def yG(F:d9 X.prog X.w X.K X.mg X.base CX k f fd ps sp)(d:bM k X.A)(g:Gl X x)(i:X.mg x∣.ref f)(j:keepIn X.K (.ref f)=true)(l:dH X.K fd ps ds)(n:aD dvs ds)(u:gK CX X E)
 (v:PA X (e::es) t) (a:(x==("__debug__":Str))=false) (w:starEach (e::es) X.env=(false,eval e X.env)::starEach es X.env) (b:(backTo pos (starEach es X.env)).any (·.1)=false):
 PE X (.Call (.Name x p) (e::es) [] pos) (qG sp dvs E t):=by
 intro ff s y H Q I h;exact wpAny_Call_Name_kw (fD I g i (callWith_K I.ok.mod.kin j (thP (v pos ff s y H _ I h) λus z vs A c r q=>%[c.kIn|Bp F d l n u c r q]) w b) a)
def Bq(i:PE X o ta)(c:Cls X.K C)(d:Ec X.K C m f)(F:d9 X.prog X.w X.K X.mg X.base CX k f fd ps sp)(j:bM k X.A)(n:dH X.K fd ps ds)(r:aD dvs ds)(v:gK CX X E)
 (w:eval (.Call (.Attribute o m apos) [] [] pos) X.env=(do
  let g<-eval o X.env
  standAt apos.atName
  let(f,first)<-holding [g] (getMethod g m pl)
  callWith pos f first (backTo pos (starEach [] X.env)) (backToKw pos (keywordEach [] X.env)))):
 PE X (.Call (.Attribute o m apos) [] [] pos) (yE C m sp dvs E ta mZ):=by
 intro ff s y H Q I h;show PySem.W.methodCall_KW (thP (i ff s y H _ I h) λu B x G b z ⟨a,J,fs,ex,A,l,q⟩=>?_) w;subst ex;obtain rfl:u=Value.ref a:=z;exact wY b A c d l (PySem.W.callWith_K0 b.kIn d.kp (Bp (us:=[.ref a]) (vs:=[.ref a]) F j n r v b (.cons rfl .nil) q))
structure Mk (K:ZA) (C f:Addr):Prop where
 makes:makesIn K C=true
 init:findIn K (.ref C) "__init__"=some (some (.ref f))
 fn:isFn K (.ref f)=true
 kp:keepIn K (.ref C)=true
def Br(M:Mk X.K C f)(F:d9 X.prog X.w X.K X.mg X.base CX k f fd ps sp)(j:bM (k+1) X.A)(l:dH X.K fd ps ds)(n:aD dvs ds)
 (q:gK CX X E) (I:JQ X ff d H s) (r:aD vs us)
 (h:∀x b,H x=none->H b=none->b≠x->sp (.ref x::(vs++dvs)) (JO (JO H b (.own x)) x (.ins C b [])) (λv w=>v= .non/\Q (.ref x) w) E):
 (X⁻¹) (call (.ref C) us) (EP X ff d Q) X.xe s:=by
 let g:=h (⇑s+1) ⇑s (I.hok.fresh (Yg _)) (I.hok.fresh (Zi _)) (Zs (Yp _));let c:=JQ.made (C:=C) I;let i:aD (V.ref (⇑s+1)::(vs++dvs)) _:= .cons rfl (r.append n);let y:=by
  let e:= ~~~i;rw[F.len _ _ _ _ g]at e;exact e.symm
 show wpAny_call (Bo I.kIn M.makes M.init (beq_iff_eq.mp M.fn) (codeAny_mono (F.run _ X.stack _ _ _ _ _ _ E (j.make C us [])
  (c.env0.make C us []) (l _ _ c.kIn y) i g) λr s' a=>?_))
 cases r with
 | error e=>exact q ff d _ _ e s' c a
 | ok z=>
   cases z with
   | ret u=>
     let%[v,A,B,G,J|L]:=c.after a;subst J;exact%[G,V.ref _,A,B,ρ|L]
   | next=>exact False.elim a
   | brk=>exact False.elim a
   | cont=>exact False.elim a
def Ef(M:Mk X.K C f)(F:d9 X.prog X.w X.K X.mg X.base CX k f fd ps sp)(d:bM (k+1) X.A)(g:Gl X x)(i:X.mg x∣.ref C)(j:dH X.K fd ps ds)(l:aD dvs ds)(n:gK CX X E)
 (u:PA X (e::es) t) (a:(x==("__debug__":Str))=false) (v:starEach (e::es) X.env=(false,eval e X.env)::starEach es X.env) (b:(backTo pos (starEach es X.env)).any (·.1)=false):
 PE X (.Call (.Name x p) (e::es) [] pos) (yF C sp dvs E t):=by
 intro ff s w H Q I h;exact wpAny_Call_Name_kw (fD I g i (callWith_K I.ok.mod.kin M.kp (thP (u pos ff s w H _ I h) λus y vs z c r q=>%[c.kIn|Br M F d j l n c r q]) v b) a)
variable{ks:ZB}{kpos:Pos}{kws:List Keyword}{te:TE}{tk:TA}{nm:Option Str}
variable{g:ZF->ZF->ZF}{gV:List V->List V->List V}
end
structure ax (N P:ZB) (sc:Scope):Prop where
 kind:sc.kind= .function
 co:sc.isCoroutine=false
 gen:sc.isGenerator=false
 nd:N.Nodup
 pre:N.take P.length=P
 par:∀x∈P,sc.names.lookup x∣.local\/sc.names.lookup x∣.cell
 nofree:∀y∈sc.names,y.2≠ .free
def qH{kindOf:Str->Option NameKind}:∀{binds:List (Str×Value)} {m:ZC},(∀v,(x,v)∉binds)->bindL kindOf binds m x=m x
 |[],_,_=>rfl
 |(n,v)::r,m,h=>by
  unfold bindL;rw[qH λw hw=>h w (Zk _ hw)]
  split
  .let:x≠n:=by rintro rfl;exact h v Zm
   simp[this]
  .rfl
def qI{kindOf:Str->Option NameKind}:∀{binds:List (Str×Value)} {m:ZC},(∀v,(x,v)∉binds)->bindC kindOf binds m x=m x
 |[],_,_=>rfl
 |(n,v)::r,m,h=>by
  unfold bindC;rw[qI λw hw=>h w (Zk _ hw)]
  split
  .rfl
  .let:x≠n:=by rintro rfl;exact h v Zm
   simp[this]
def qJ{kindOf:Str->Option NameKind}{x:Str}:∀{P:ZB} {vs:ZF} {i:Nat} {m:ZC},P.Nodup->P[i]?∣x->vs[i]?∣v->kindOf x∣.local->
 bindL kindOf (P.zip vs) m x∣v
 |[],_,_,_,_,h,_,_=>by simp at h
 | _::_,[],_,_,_,_,h,_=>by simp at h
 | p::P,w::vs,0,m,nd,a,b,c=>by
   simp at a b;subst a;subst b;change bindL kindOf ((p,w)::P.zip vs) m p=_;unfold bindL;rw[qH λv d=>(nodup_cons.mp nd).1 (of_mem_zip d).1,if_pos c];simp
 | p::P,w::vs,i+1,m,nd,a,b,c=>by
   change bindL kindOf ((p,w)::P.zip vs) m x=_;exact qJ (nodup_cons.mp nd).2 (a) (b) c
def qK{kindOf:Str->Option NameKind}{x:Str}:∀{P:ZB} {vs:ZF} {i:Nat} {m:ZC},P.Nodup->P[i]?∣x->vs[i]?∣v->kindOf x≠some .local->
 bindC kindOf (P.zip vs) m x∣v
 |[],_,_,_,_,h,_,_=>by simp at h
 | _::_,[],_,_,_,_,h,_=>by simp at h
 | p::P,w::vs,0,m,nd,a,b,c=>by
   simp at a b;subst a;subst b;change bindC kindOf ((p,w)::P.zip vs) m p=_;unfold bindC;rw[qI λv d=>(nodup_cons.mp nd).1 (of_mem_zip d).1,if_neg c];simp
 | p::P,w::vs,i+1,m,nd,a,b,c=>by
   change bindC kindOf ((p,w)::P.zip vs) m x=_;exact qK (nodup_cons.mp nd).2 (a) (b) c
abbrev start(N:ZB)(vs:List V):St:=vs.map some++List.replicate (~~~N-vs.length) none
abbrev eY(CX:CXT)(P:Program)(w:World)(K:ZA)(mg:ZC)(base:Heap)(N:ZB)(qual:Str)(scope:Scope)(f:Addr)(cd:Value)(A:Around)(outer:List Env)(s:Shared)(H:Hp)(E:XK):Cx where
 prog:=P
 w:=w
 K:=K
 mg:=mg
 base:=base
 A:=A.deeper (envOfC qual scope ⇑s f cd)
 N:=N
 s₀:=s
 H₀:=H
 env:=envOfC qual scope ⇑s f cd
 outer:=outer
 stack:=envOfC qual scope ⇑s f cd::outer
 ex:=[]
 calm:=true
 fn:=λ_=>true
 pn:=[]
 xe:=λe s'=>wpAny (model P w) (A.deeper (envOfC qual scope ⇑s f cd)) (leaving (envOfC qual scope ⇑s f cd) e) (λ_ s''=>CX outer H s E e s'') (λe' s''=>CX outer H s E e' s'') s'
def uJ{a:Scope}{n:Nat}{x:Str}(h:a.names.lookup x∣.cell):∃c,(cellsFrom n a.names []).lookup x∣c:=by
 exact isSome_iff_exists.mp (cellsFrom_some a.names n [] (.inl h))
def zL{P:Program}{K:ZA}
 (S:ax N ps a) (J:A.handled=none) (g:zK P w K mg base A outer s H) (T: ~~~vs= ~~~ps) (r:aD vs us)
 (x:InCallC s ⇑s (bindL (envOfC d a ⇑s f C).kindOf (ps.zip us) λ_=>none) (cellsFrom (⇑s+1) a.names []) (bindC (envOfC d a ⇑s f C).kindOf (ps.zip us) λ_=>none) L):
 JQ (eY CX P w K mg base N d a f C A outer s H E) [] (start N vs) H L:=by
 let M: ~~~ps<= ~~~N:=by let:=congrArg List.length S.pre;rw[Ym]at this;lia
 let%[B,tk,rfl|G]:=x.done;let l:∀b,b∉(eY CX P w K mg base N d a f C A outer s H E).ex:=λb z=>absurd (show b∈([])from z) ∅
 show%[%[g.mod,S.kind,ρ,ρ,Zi _,λy z c B j=>?_,λy m=>?_,λy c _ h=>?_,λ_=>J,Around.frames_deeper g.frames,.inr %[ρ|ρ],λb z=>absurd z (l b),g.bs,g.bsz,λb _ _=>l b,λb z=>absurd z (l b),g.funs|g.frf],
  rfl,g.bare,Un.kept G,%[_,x.toInCall.ns|λi y v B j U=>?_],λy c h=>%[_|x.cell y c h],g.hok.fresh (Zi _),λy c h=>?_,λp n=>absurd (show p∈([])from n) ∅,g.hok.kept G|?_]
 .exact name_of_addr x.apart (PySem.mem_of_lookup B) (PySem.mem_of_lookup j)
 .rcases m with m|m
  .exact uJ m
  .exact absurd rfl (S.nofree _ (PySem.mem_of_lookup m))
 .exact Ye (x.above y c (PySem.mem_of_lookup h))
 .let hi:i< ~~~vs:=by
   unfold start at j;by_cases hi:i< ~~~vs
   .exact hi
   .rw[Y9 ↑hi]at j;rw[List.getElem?_replicate]at j
    split at j<;> cases j
  let O:vs[i]?∣v:=by
   unfold start at j;rw[Y8 ↑hi,Zl]at j
   simp_all
  let%[u,I|Q]:=r.get O;let n:ps[i]?∣y:=by
   rw[<-S.pre,getElem?_take_of_lt ⋯];exact B
  let o:ps.Nodup:=S.pre▸S.nd.sublist (List.take_sublist _ _);show%[u,Q|?_];rcases S.par y (Z8 n)with k|k
  .exact .inl %[k|qJ o n I k]
  .let%[c|e]:=uJ k;show .inr %[.inl k,c,e|?_];let q:=x.cell y c e;rw[qK o n I (by change a.names.lookup y≠_;rw[k];decide)]at q;exact q
 .exact g.hok.fresh (Ye (x.above y c (PySem.mem_of_lookup h)))
 .unfold start;change _= ~~~N;rw[Z9,Z6,List.length_replicate]
  lia
def FC{P:Program}{K:ZA}{U kV z Y d ct oc:Value}
 (lk:K.lookup f=some %[oc,od,.func (fnOf name c g i a U kV z Y an d ct)|aa]) (L:codeIn K d c=true) (S:ax N ps a)
 (len:∀vs H Q E,sp vs H Q E-> ~~~vs= ~~~ps)
 (l:∀(A:Around) (outer:List Env) (s:Shared) (H:Hp) (vs:List V) (Q:VK) (E:XK),bM k (A.deeper (envOfC c a ⇑s f d))->sp vs H Q E->
  ∃t,PSs (eY CX P w K mg base N c a f d A outer s H E) i t/\t {nx:=λ_ j=>Q .non j,rt:=Q} (start N vs) H):
 d9 P w K mg base CX (k+1) f (fnOf name c g i a U kV z Y an d ct) ps sp:=by
 show%[len|λA outer s H args us vs Q E M B hb r C=>?_];let KX:=B.mod.kin.keeps λb o e=>(B.bs b o e).1
 let O:=B.mod.nolimit.keeps λb o e=>(B.bs b o e).1
 let m:∀y∈ps.zip us,a.names.lookup y.1∣_\/(a.names.lookup y.1∣_/\((cellsFrom (⇑s+1) a.names []).lookup y.1).isSome=true):=λ⟨n,v⟩ hy=>by
  rcases S.par n (of_mem_zip hy).1 with q|q
  .exact .inl q
  .exact .inr %[q|cellsFrom_some _ _ _ (.inl q)]
 show codeAny_call_function M.depth (KX _ _ lk) rfl S.co S.gen rfl (PySem.W.codeRec_of KX L) (hb _ _ _ _ (wpAny_newFunctionEnv_cells S.kind m λenv he s1 x=>?_));subst he;show%[O.keeps x.toInCall.keep|codeAny_func ?_];let%[t,ht|hq]:=l A outer s H vs Q E (M.deeper _) C;let I:JQ (eY CX P w K mg base N c a f d A outer s H E) [] _ H s1:=zL S M.hd B (len _ _ _ _ C) r x;show wpAny_mono (ht [] s1 _ H _ I hq) (λfl s' p=>?_) λe s' p=>p
 let G:∀{h:St} {j:Hp} {v:V} {u:Value},JQ (eY CX P w K mg base N c a f d A outer s H E) [] h j s'->aJ v u->Q v j->CE outer P w H s Q u s':=
  λ{h j v u} J T q=>%[v,j,J.os,J.bare,J.base,J.hok,T|q]
 cases fl with
 | ret u=>
   let%[v,h,j,J,T|q]:=p;exact G J T q
 | next=>
   let%[h,j,J|q]:=p;exact G (v:=V.non) J rfl q
 | brk=>
   let%[_,_,_|q]:=p
   simp_all
 | cont=>
   let%[_,_,_|q]:=p;exact False.elim q
section
variable{X:Cx}{x:Str}{p pos:Pos}{e:Expr}{es:List Expr}{t:TA}{id T:String}{r:List V->Hp->VK->Prop}
abbrev tCB(r:List V->Hp->VK->Prop)(t:TA):TE:=λa H Q=>t a H λvs b=>r vs b Q
def Bs(d:bZ X (.builtin id) r)(f:Gl X x)(g:X.mg x=none)(i:bootBuiltins x∣.builtin id)(j:PA X (e::es) t)(l:x≠"__name__")(a:(x==("__debug__":Str))=false)
 (m:starEach (e::es) X.env=(false,eval e X.env)::starEach es X.env) (b:(backTo pos (starEach es X.env)).any (·.1)=false):PE X (.Call (.Name x p) (e::es) [] pos) (tCB r t):=by
 intro ff s c H Q I h;exact wpAny_Call_Name_kw (jJ I f g i (PyProof.Rows.callWith_builtin1 (thP (j pos ff s c H _ I h) λus n vs o q u v=>d ff n c o vs us Q q u v) m b) l a)
def zM(d:bZ X (.type T) r)(f:Gl X x)(g:X.mg x=none)(i:bootBuiltins x∣.type T)(j:PA X (e::es) t)(l:x≠"__name__")(a:(x==("__debug__":Str))=false)
 (m:starEach (e::es) X.env=(false,eval e X.env)::starEach es X.env) (b:(backTo pos (starEach es X.env)).any (·.1)=false):PE X (.Call (.Name x p) (e::es) [] pos) (tCB r t):=by
 intro ff s c H Q I h;exact wpAny_Call_Name_kw (jJ I f g i (PyProof.Rows.callWith_type1 (thP (j pos ff s c H _ I h) λus n vs o q u v=>d ff n c o vs us Q q u v) m b) l a)
end
end _LL
namespace _HT
open PySem PyProof.Rows
section
open PySem.SeqAt
open PySem.AutoSeq1 (wpAny_loadPart')
open PySem.MeetsSeq PySem.MeetsSeq2 PySem.MeetsSeq3
#where
abbrev sIx(n d:Nat):Option Int->Nat
 | none=>d
 | some v=>if v<0 then(v+n).toNat else min v.toNat n
def sIx_none(n d:Nat):sIx n d none=d:=rfl
def sIx_nat(n d k:Nat):sIx n d (some k)=min k n:=by
 change(if k<0 then((k:Int) +n).toNat else min _ n)=min k n;rw[if_neg ⋯,Int.toNat_natCast]
end
end _HT
namespace _LL
open PySem PySem.Spec PyProof.Rows
noncomputable abbrev TO:=St->Hp->(Option Int->Hp->Prop)->Prop
abbrev PO(X:Cx)(e:Option Expr)(t:TO):Prop:=
 ∀ff s (a:St) H Q,JQ X ff a H s->t a H Q->
  (X⁻¹) (evalPart e X.env) (λu s'=>∃o b,JQ X ff a b s'/\IsPart u o/\Q o b) X.xe s
abbrev j7:TO:=λ_ H Q=>Q none H
abbrev yH(t:TE):TO:=λa H Q=>t a H λx b=>asI x λi=>Q (some i) b
section
variable{X:Cx}{e:Expr}{te:TE}{lo hi:Option Expr}{tl th:TO}{pos p2:Pos}
def Eg:PO X none j7:=by
 intro ff s a H Q I h;exact Z3 %[none,H,I,.none|h]
def Eh(h:PE X e te):PO X (some e) (yH te):=by
 intro ff s a H Q I hw;show thP (h ff s a H _ I hw) λu g x b c d f=>?_
 let%[i,rfl|q]:=iL f;let%[t|rfl]:=d;exact%[some i,b,c,.int i t|q]
abbrev SlR(X:Cx)(r:V->Option Int->Option Int->Hp->VK->Prop):Prop:=
 ∀ff s (a:St) H x v b c lo hi d Q,JQ X ff a H s->aJ x v->s.heap.IsSliceOf d b c .none->IsPart b lo->IsPart c hi->r x lo hi H Q->
  ∃T id,typeLookup (.type T) "__getitem__"=pure (some (.builtin id))/\s.TypeIs v T/\(X⁻¹) (getItem v (.ref d)) (EP X ff a Q) X.xe s
abbrev tSl(r:V->Option Int->Option Int->Hp->VK->Prop)(te:TE)(tl th:TO):TE:=λa H Q=>te a H λx b=>tl a b λl c=>th a c λu d=>r x l u d Q
def uK(c:SlR X r)(d:PE X e te)(f:PO X lo tl)(g:PO X hi th):PE X (.Subscript e (.Slice lo hi none p2) pos) (tSl r te tl th):=by
 intro ff s a H Q I h;show Subscript_ (thP (d ff s a H _ I h) λv i x j m n o=>wpAny_Slice (thP (f ff i a j _ m o) λp w l y z pl A=>thP (g ff w a y _ z A) λB C u E G J L=>Z3 ?_));let%[T,id,M,N|O]:=c ff _ a E x v p B l u ⇑C Q (G.kept λb U q=>Z7 _ q) n (Heap.IsSliceOf.new ..) pl J L;exact tail_any N M O (by with_unfolding_all rfl)
abbrev sM(xs:List V)(lo hi:Option Int):List V:=(xs.drop (_HT.sIx xs.length 0 lo)).take (_HT.sIx xs.length xs.length hi-_HT.sIx xs.length 0 lo)
def uL(xs:List V)(lo hi:Option Int): ~~~(sM xs lo hi)<= ~~~xs:=by
 unfold sM;rw[Ym,Yh]
 lia
end
abbrev ixN(n:Nat)(i:Int):Option Nat:=if 0<=i then(if i<n then some i.toNat else none)else if -n<=i then some (i+n).toNat else none
abbrev atI{a:Type}(xs:List a)(i:Int):Option a:=(ixN xs.length i).bind λj=>xs[j]?
def yI(h:ixN n i∣j):seqIndex? i n∣j/\j<n/\ -(n:Int)<=i/\i<n:=by
 unfold ixN at h;by_cases b:0<=i
 .rw[if_pos b]at h;by_cases a:i<n
  .rw[if_pos a]at h;exact%[by rw[seqIndex_of b a,(Za h)],⋯,⋯|a]
  simp_all
 .rw[if_neg b]at h;by_cases a: -n<=i
  .rw[if_pos a]at h;exact%[by rw[seqIndex_neg ⋯ a,(Za h)],⋯,a|⋯]
  .rw[if_neg a]at h;cases h
def sO{a:Type}{xs:List a}{i:Int}{v:a}(h:atI xs i∣v):∃j,seqIndex? i xs.length∣j/\xs[j]?∣v/\j< ~~~xs/\ -xs.length<=i/\i< ~~~xs:=by
 unfold atI at h;cases e:ixN xs.length i with
 | none=>simp_all
 | some j=>
   rw[e]at h;let%[b,c,d|f]:=yI e;exact%[j,b,h,c,d|f]
def bK{a:Type}{xs:List a}{j:Nat}{v:a}(h:xs[j]?∣v):atI xs j∣v:=by
 let b:=(Xn h).1;let e:ixN xs.length j∣j:=by
  unfold ixN
  simp_all
 unfold atI;exact e▸h
def nN(xs:List a)(v:a):atI (xs++[v]) (-1)∣v:=by
 let b: ~~~(xs++[v])= ~~~xs+1:=by simp
 let e:ixN (xs++[v]).length (-1)∣xs.length:=by
  unfold ixN;rw[b,if_neg (!1),if_pos ⋯]
  congr 1
  lia
 unfold atI
 simp_all
abbrev nu(b:Expr):Prop:=∀o i,subscripted b false o i=operate [o,i] (getItem o i)
abbrev IxR(X:Cx)(r:R2):Prop:=
 ∀b a ff s (c:St) H x y v u Q,JQ X ff c H s->aJ x v->aJ y u->r x y H Q->
  subscripted a false v u=operate [v,u] (getItem v u)->(X⁻¹) (subscriptTail b a v u) (EP X ff c Q) X.xe s
abbrev MtR(X:Cx)(id:String)(r:V->List V->Hp->VK->Prop):Prop:=
 ∀ff s (a:St) H x xs v us Q,JQ X ff a H s->aJ x v->aD xs us->r x xs H Q->
  (X⁻¹) (call (.builtin id) (v::us)) (EP X ff a Q) X.xe s
section
variable{X:Cx}{a b:Expr}{ta tb:TE}{pos:Pos}
def Bt(c:IxR X r)(d:PE X a ta)(e:PE X b tb)(f:nu b):PE X (.Subscript a b pos) (tOp r ta tb):=by
 intro ff s g H Q I h;exact Subscript_ (Gh d e I h λv u i x y j l m n q=>c a b ff i g j x y v u Q l m n q (f _ _))
abbrev Ei(K:ZA):R2:=λx y H Q=>asR x λp=>asI y λi=>∃xs,JP K H p xs/\∃v,atI xs i∣v/\Q v H
abbrev GC(K:ZA):R2:=λx y H Q=>asR x λp=>asI y λi=>∃xs,SqT K H p xs/\∃v,atI xs i∣v/\Q v H
abbrev GD:R2:=λx y H Q=>∃z i c,x= .str z/\y= .int i/\ ~~~z<=sizeLine/\atI z.cps.toList i∣c/\Q (.str ⟨#[c]⟩) H
def Ej:IxR X (Ei X.K):=by
 intro e f ff s B H x y v u Q I C E h n;let%[p,rfl|g]:=eG h;let%[i,rfl,xs,G,z,J|q]:=iL g;cases C;let%[t|rfl]:=E;let%[its,r,pl|O]:=I.list G;let%[j,d,g,T,L|M]:=sO J;let%[w,o|l]:=r.get g;let N:= ~~~r;let U:=nM;let c:EP X ff B Q w s:=%[z,H,I,l|q]
 by_cases A:0<=i
 .let m:=by
   rw[seqIndex_of A M]at d;exact Za d
  exact item_listR pl.isList A ⋯ (by rw[m];simpa using o) c n
 .let m:(i+its.toArray.size).toNat=j:=by
   rw[seqIndex_neg ⋯ L]at d;rw[Zp,<-N];exact Za d
  exact subscriptTail_builtinR pl.isList.typeIs slot_list_getitem.lookup
   (wpAny_getItem_list_neg pl.isList ⋯ (!2) ⋯ (by rw[m];simpa using o) %[rfl|c]) n
def GE:IxR X (GC X.K):=by
 intro c d ff s l H x y v u Q I m n h o;let%[p,rfl|e]:=eG h;let%[i,rfl,xs,A,z,B|q]:=iL e;cases m;let%[t|rfl]:=n;let%[its,r,pl|G]:=I.tuple A;let%[j,C,e,J,L|M]:=sO B;let%[w,E|f]:=r.get e;let N:=nM;let g:EP X ff l Q w s:=%[z,H,I,f|q]
 exact subscriptTail_builtinR pl.typeIs slot_tuple_getitem.lookup
  (getItem_tuple pl ⋯ ⋯ (by rw[Zp,<-r.length];exact C) ↑E %[rfl|g]) o
def GF:IxR X GD:=by
 intro d e ff s A H x y v u Q I g l h m;let%[z,i,c,rfl,rfl,B,n|q]:=h;let%[t|rfl]:=g;let%[t'|rfl]:=l;let%[j,f,o,C,p|r]:=sO n;let w: ~~~z.cps.toList= ~~~z:=by simp[Str.length]
 rw[w]at f p r;let E:=nM;exact tail_any (typeIs_str s z t) slot_str_getitem.lookup (getItem_str (by
  lia) (by rw[f];simpa using o) %[.str _,H,I.tok _,%[_|rfl]|q]) m
def w8(its:ZF)(n j:Nat)(u:Value):Obj.mapSeq (·.setIfInBounds j u) {cls:= .type "list",data:= .seq its.toArray n}={cls:= .type "list",data:= .seq (its.set j u).toArray n}:=by
 simp[Obj.mapSeq]
def JQ.lst{ff:List _}{c:St}{H:Hp}{s:Shared}{p:Addr}{xs:List V}(I:JQ X ff c H s)(h:H p<*xs):
 ∃its n,aD xs its/\s.heap.get? p=some {cls:= .type "list",data:= .seq its.toArray n}/\ ~~~xs<=sizeLine:=by
 let%[z,its,n,r|e]:=I.hok p _ h;exact%[its,n,r,e|z]
def JQ.lstUpd{its its':ZF}(I:JQ X ff g H s)(h:H p<*xs)
 (i:s.heap.get? p=some {cls:= .type "list",data:= .seq its.toArray n}) (c:f {cls:= .type "list",data:= .seq its.toArray n}={cls:= .type "list",data:= .seq its'.toArray d}) (r:aD ys its') (j: ~~~ys<=sizeLine) (t:Nat):
 JQ X ff g (JO H p (.lst ys)) {s with heap:=s.heap.update p f,toks:=t}:=by
 let e:(s.heap.update p f).get? p=some {cls:= .type "list",data:= .seq its'.toArray d}:=by
  rw[get?_update_self f i (by rw[c]<;> rfl),c]
 show I.write (x:=p) (e:=p) (by rw[h];trivial) (.inl rfl) (λb u l q=>(get?_update_other _ _ (Ne.symm l)).trans q) %[_|e] ?_;exact%[j,its',d,r|e]
abbrev yJ:V->V->V->Hp->(Hp->Prop)->Prop:=λo i v H Q=>∃p xs k j,o= .ref p/\i= .int k/\H p<*xs/\ixN xs.length k∣j/\Q (JO H p (.lst (xs.set j v)))
def Bu:Ga X yJ:=by
 intro ff s z H o i v J L u Q I A B C h;let%[p,xs,k,j,rfl,rfl,g,E|q]:=h;cases A;let%[t|rfl]:=B;let%[its,n,r,d|G]:=I.lst g;let%[c,M,l|m]:=yI E;let e:= ~~~r;let N:=nM;let w:JQ X ff z (JO H p (.lst (xs.set j v))) (s>>>(s.heap.update p (Obj.mapSeq (·.setIfInBounds j u)))):=
  I.lstUpd g d (w8 its n j u) (r.set C j) (by rw[length_set];exact G) s.toks
 by_cases y:0<=k
 .let f:k.toNat=j:=by
   rw[seqIndex_of y m]at c;exact Za c
  exact PySem.W.ki_setAt d y ⋯ (by rw[Zp,<-e];exact m) (by rw[f];exact%[_,w|q])
 .let f:(k+(its.toArray.size:Int)).toNat=j:=by
   rw[seqIndex_neg ⋯ l]at c;rw[Zp,<-e];exact Za c
  exact PySem.W.ki_setBack d ⋯ (by rw[Zp,<-e];exact l) ⋯ (by rw[f];exact%[_,w|q])
def sPa(i:Int)(n:Nat):max 0 (min (if i<0 then i+n else i) (n:Int))=((if i<0 then(i+n).toNat else min i.toNat n:Nat):Int):=by
 by_cases h:i<0
 .rw[if_pos h,if_pos h];lia
 .rw[if_neg h,if_neg h];lia
def sP(lo hi:Option Int)(n:Nat):(sliceBounds lo hi none n).1=((_HT.sIx n 0 lo:Nat):Int)/\(sliceBounds lo hi none n).2.1=((_HT.sIx n n hi:Nat):Int)/\(sliceBounds lo hi none n).2.2=1:=by
 show%[?_,?_|ρ]
 .cases lo
  .rfl
  .exact sPa _ n
 .cases hi
  .rfl
  .exact sPa _ n
def p7(its:ZF)(lo hi:Option Int):slicePick its.toArray lo hi none=((its.drop (_HT.sIx its.length 0 lo)).take (_HT.sIx its.length its.length hi-_HT.sIx its.length 0 lo)).toArray:=by
 let%[c,d|e]:=sP lo hi its.toArray.size;unfold slicePick;rw[c,d,e];simp only[sliceRange_one,pick_run]<;> rfl
abbrev xa(K:ZA):V->Option Int->Option Int->Hp->VK->Prop:=λx lo hi H Q=>∃a xs,x= .ref a/\JP K H a xs/\∀p,H p=none->Q (.ref p) (JO H p (.lst (sM xs lo hi)))
def Ek:SlR X (xa X.K):=by
 intro ff s l H x v m n lo hi o Q I e f pl g h;let%[a,xs,rfl,i|q]:=h;cases e;let%[its,r,d|j]:=I.list i;let c:= ~~~r;show%["list",_,slot_list_getitem.lookup,d.isList.typeIs|wpAny_getItem_list_slice d.isList f pl g .none ∅ ?_ (!2)];rw[p7,<-c];show%[.ref ⇑s,_,I.laid (λb p q=>Z7 _ q) (Zi _) ?_,ρ|q _ (I.hok.fresh (Zi _))];exact%[Nat.le_trans (uL xs lo hi) j,_,0,(r.drop _).take _|Zj _ rfl]
abbrev fE:V->Bool
 | .non=>true
 | .bl _=>true
 | .int _=>true
 | .str _=>true
 | _=>false
abbrev eqV:V->V->Bool
 | .non,.non=>true
 | .bl a,.bl b=>a==b
 | .bl a,.int b=>(if a then 1 else 0)==b
 | .int a,.bl b=>a==(if b then 1 else 0)
 | .int a,.int b=>a==b
 | .str a,.str b=>a==b
 | _,_=>false
def Bv(d:aJ y u)(c:aJ x v)(f:fE y=true)(e:fE x=true):SeqAt.EqAt A s u v (eqV y x):=by
 cases y with
 | non=>
   cases d;cases x with
   | non=>cases c;exact SeqAt.EqAt.same _
   | bl b=>cases c;exact SeqAt.EqAt.none_bool b
   | int b=>have%[t|rfl]:=c;exact SeqAt.EqAt.none_int b t
   | str b=>have%[t|rfl]:=c;exact SeqAt.EqAt.none_str b t
   | _=>exact absurd (show false=true from e) Zt
 | bl a=>
   cases d;cases x with
   | non=>cases c;exact SeqAt.EqAt.bool_none a
   | bl b=>cases c;exact SeqAt.EqAt.bool_bool a b
   | int b=>have%[t|rfl]:=c;exact SeqAt.EqAt.bool_int a b t
   | str b=>have%[t|rfl]:=c;exact SeqAt.EqAt.bool_str a b t
   | _=>exact absurd (show false=true from e) Zt
 | int a=>
   let%[t'|rfl]:=d;cases x with
   | non=>cases c;exact SeqAt.EqAt.int_none a t'
   | bl b=>cases c;exact SeqAt.EqAt.int_bool a t' b
   | int b=>have%[t|rfl]:=c;exact SeqAt.EqAt.int_int a t' b t
   | str b=>have%[t|rfl]:=c;exact SeqAt.EqAt.int_str a t' b t
   | _=>exact absurd (show false=true from e) Zt
 | str a=>
   let%[t'|rfl]:=d;cases x with
   | non=>cases c;exact SeqAt.EqAt.str_none a t'
   | bl b=>cases c;exact SeqAt.EqAt.str_bool a t' b
   | int b=>have%[t|rfl]:=c;exact SeqAt.EqAt.str_int a t' b t
   | str b=>have%[t|rfl]:=c;exact SeqAt.EqAt.str_str a t' b t
   | _=>exact absurd (show false=true from e) Zt
 | _=>exact absurd (show false=true from f) Zt
abbrev eqU(x:V)(u:Value):Bool:=match u with
 | .none=>eqV .non x
 | .bool b=>eqV (.bl b) x
 | .int i _=>eqV (.int i) x
 | .str z _=>eqV (.str z) x
 | _=>false
def Bw(r:aJ y u)(f:fE y=true):eqU x u=eqV y x:=by
 cases y with
 | non=>cases r;rfl
 | bl b=>cases r;rfl
 | int i=>have%[t|rfl]:=r;rfl
 | str z=>have%[t|rfl]:=r;rfl
 | _=>exact absurd (show false=true from f) Zt
def sQ:∀{xs:List V} {us:ZF},aD xs us->xs.all fE=true->us.any (eqU x)=xs.any λy=>eqV y x
 | _,_,.nil,_=>rfl
 | y::xs,u::us,.cons r t,f=>by
   rw[all_cons,Zv]at f;rw[Zw,Zw,Bw r f.1,sQ t f.2]
def nO(d:aJ x v)(e:fE x=true):∀{xs:List V} {us:ZF},aD xs us->xs.all fE=true->∀u∈us,SeqAt.EqAt A s u v (eqU x u)
 | _,_,.nil,_=>λu c=>by cases c
 | y::xs,u::us,.cons r t,f=>λg c=>by
   rw[all_cons,Zv]at f;rcases mem_cons.mp c with rfl|c
   .rw[Bw r f.1];exact Bv r d f.1 e
   .exact nO d e t f.2 g c
abbrev inV(x:V)(xs:List V):Bool:=xs.any λy=>eqV y x
abbrev rIn(K:ZA)(c:Bool):R2:=λx y H Q=>∃p xs,y= .ref p/\(JP K H p xs\/SqT K H p xs)/\fE x=true/\xs.all fE=true/\Q (.bl (if c then !inV x xs else inV x xs)) H
def zN:OpR X (compareOp .In) (rIn X.K false):=by
 intro ff s i H x y v u Q I d f h;let%[p,xs,rfl,c,e,fs|q]:=h;cases f;rcases c with c|c
 .let%[its,r,pl|g]:=I.list c;show SeqAt.in_listAt _ pl.isList (λw hw=>nO d e r fs w ↑hw) %[.bl _,H,I,rfl|?_];rw[show its.toArray.any _=its.any (eqU x) by simp,sQ r fs];exact q
 .let%[its,r,pl|g]:=I.tuple c;show SeqAt.in_tupleAt _ pl (λw hw=>nO d e r fs w ↑hw) %[.bl _,H,I,rfl|?_];rw[show its.toArray.any _=its.any (eqU x) by simp,sQ r fs];exact q
def sS:bZ X (.type "list") (λxs H Q=>∃p ys,xs=[.ref p]/\(JP X.K H p ys\/SqT X.K H p ys)/\∀l,H l=none->Q (.ref l) (JO H l (.lst ys))):=by
 intro ff s A H xs us Q I r h;let%[p,ys,rfl,f|q]:=h;let%[u,rfl|B]:=cU r;cases B;let g:∀its,aD ys its-> ~~~ys<=sizeLine->∀h' d,(∀b z,s.heap.get? b∣z->h'.get? b∣z)->
  h'.get? ⇑s∣_->EP X ff A Q _ (s>>>h'):=λits c i h' d j e=>
  %[.ref ⇑s,_,I.laid j (Zi _) (show cp X.prog X.w _ h' _ (.lst ys)from%[i,its,d,c|e]),rfl|q _ (I.hok.fresh (Zi _))]
 rcases f with f|f
 .let%[its,c,pl|i]:=I.list f;let m:= ~~~c;let%[o,v,w,n|y]:=pl.isList;exact call_list_seq p (.inl rfl) v w y (λh' d j e=>g its c i h' d j e) (by simp only[Zp]<;> lia)
 .let%[its,c,pl|i]:=I.tuple f;let m:= ~~~c;let%[o,v,w,n|y]:=pl;exact call_list_seq p (.inr rfl) v w y (λh' d j e=>g its c i h' d j e) (by simp only[Zp]<;> lia)
abbrev tyV(K:ZA)(T:String)(x:V)(H:Hp):Prop:=match x with
 | .str _=>T="str"
 | .int _=>T="int"
 | .ref p=>(T="list"/\∃xs,JP K H p xs)\/(T="tuple"/\∃o,K.lookup p∣o/\o.cls= .type "tuple"/\o.dict=none)\/
  (T="dict"/\((∃c,H p∣.dK c)\/∃c,H p∣.dT c))\/(T="set"/\∃S n,H p∣.set S n)
 | _=>False
def Bx(I:JQ X ff q H s)(r:aJ x v)(ty:tyV X.K T x H):
 s.TypeIs v T/\∀a,v= .ref a->∃j,s.heap.get? a∣j/\j.dict=none:=by
 cases x with
 | str z=>
   let%[t|rfl]:=r;cases(show T="str" from ty);exact%[typeIs_str s z t|λ_ e=>nomatch e]
 | int i=>
   let%[t|rfl]:=r;cases(show T="int" from ty);exact%[typeIs_int s i t|λ_ e=>nomatch e]
 | ref p=>
   cases r;rcases ty with⟨rfl,xs,l⟩|⟨rfl,o,d,m,f⟩|⟨rfl,d⟩|⟨rfl,S,n,d⟩
   .let%[its,_,pl|_]:=I.list l;show%[pl.isList.typeIs|λa e=>?_];cases e;let%[o,n,e,c,f|_]:=pl;exact%[o,e|f]
   .show%[%[o,I.kIn p o d|m]|λa e=>?_];cases e;exact%[o,I.kIn _ o d|f]
   .let z:∃o,s.heap.get? p∣o/\o.ExactDict:=by
     rcases d with⟨g,d⟩|⟨g,d⟩
     .let%[_,_,_,_,o,_,_,e,ex|_]:=I.hok p _ d;exact%[o,e|ex]
     .let%[_,_,_,_,o,_,_,e,ex|_]:=I.hok p _ d;exact%[o,e|ex]
    let%[o,e|ex]:=z;show%[%[o,e|ex.1]|λa h=>?_];cases h;exact%[o,e|ex.2.1]
   .let%[o,_,_,_,e,ex|_]:=I.hok p _ d;show%[%[o,e|ex.1]|λa h=>?_];cases h;exact%[o,e|ex.2.1]
 | _=>exact False.elim ty
abbrev El(K:ZA)(T:String)(r:V->List V->Hp->VK->Prop)(d:TE):TE:=λe H Q=>d e H λx c=>tyV K T x c/\r x [] c Q
abbrev tBM(K:ZA)(T:String)(r:V->List V->Hp->VK->Prop)(e:TE)(t:TA):TE:=λc H Q=>e c H λx d=>tyV K T x d/\t c d λxs f=>r x xs f Q
variable{o e:Expr}{es:List Expr}{to:TE}{t:TA}{name:Str}{apos cpos:Pos}{T id:String}{r:V->List V->Hp->VK->Prop}
def GG(l:PlainAttrs T)(slot:Slot T name id)(f:typeOf (.builtin id)=pure (.type "method_descriptor"))(m:MtR X id r)(n:PE X o to)
 (c:attributeBase o name X.env (eval o X.env)=eval o X.env) (d:(apos.endLine==cpos.line)=true):PE X (.Call (.Attribute o name apos) [] [] cpos) (El X.K T r to):=by
 intro ff s g H Q I h;show wpAny_Call_method0_late c d (thP (n ff s g H _ I h) λv p x q i j ⟨ty,u⟩=>?_);let%[w|y]:=Bx i j ty;exact%[T,id,l,slot,f,w,y|Calls.callWith_builtin rfl (PySem.evalArgs_none (m ff p g q x [] v [] Q i j .nil u))]
def IS(p:PlainAttrs T)(slot:Slot T name id)(i:typeOf (.builtin id)=pure (.type "method_descriptor"))(q:MtR X id r)(u:PE X o to)(w:PA X (e::es) t)
 (d:attributeBase o name X.env (eval o X.env)=eval o X.env)
 (g:((backTo cpos (starEach (e::es) X.env)).all (λx=>!x.1)&&(backToKw cpos (keywordEach [] X.env)).all (λx=>x.1.isSome)
  && decide (~~~(e::es)+ ~~~([]:List Keyword)+(if([]:List Keyword).isEmpty then 0 else 1)<30))=true)
 (f:(apos.endLine==cpos.line)=true) (y:starEach (e::es) X.env=(false,eval e X.env)::starEach es X.env) (c:(backTo cpos (starEach es X.env)).any (·.1)=false):
 PE X (.Call (.Attribute o name apos) (e::es) [] cpos) (tBM X.K T r to t):=by
 intro ff s j H Q I h;show wpAny_Call_method_late d g f rfl (thP (u ff s j H _ I h) λv z x A l m ⟨ty,B⟩=>?_);let%[C|E]:=Bx l m ty;show%[T,id,p,slot,i,C,E|?_];let n:=w cpos ff z j A _ l B;rw[y]at n ⊢;exact Calls.callWith_builtin (by change(false||(backTo cpos _).any _)=false;rw[c]<;> rfl) (Calls.evalArgs_plain (thn n λus G ⟨vs,J,L,M,N⟩=>q ff G j J x vs v us Q L m M N))
end
abbrev MtM(X:Cx)(id:String)(r:V->List V->Hp->VK->Prop):Prop:=
 ∀ff s (a:St) H x xs v us Q,JQ X ff a H s->aJ x v->aD xs us->r x xs H Q->
  (X⁻¹) (call (.builtin id) (v::us)) (EP X ff a Q) X.xe s
def aD.one:∀{x:V} {us:ZF},aD [x] us->∃u,us=[u]/\aJ x u
 | _,_,.cons r .nil=>%[_,rfl|r]
def aD.zero:∀{us:ZF},aD [] us->us=[]
 | _,.nil=>rfl
def aD.eraseIdx:∀{xs:List V} {us:ZF} i,aD xs us->aD (xs.eraseIdx i) (us.eraseIdx i)
 | _,_,_,.nil=> .nil
 | _,_,0,.cons _ t=>t
 | _,_,i+1,.cons r t=> .cons r (aD.eraseIdx i t)
def aD.reverse(h:aD xs us):aD xs.reverse us.reverse:=by
 induction h with
 | nil=>exact .nil
 | cons r t a=>rw[List.reverse_cons,List.reverse_cons];exact aD.append a (.cons r .nil)
def aD.rep(h:aD xs us):∀k:Nat,aD (List.replicate k xs).flatten (List.replicate k us).flatten
 | 0=> .nil
 | k+1=>by
   exact aD.append h (aD.rep h k)
def qL:∀(l:List a) (i:Nat),~~~(l.eraseIdx i)<= ~~~l
 |[],_=>Zi _
 | _::_,0=>Yg _
 | _::r,i+1=>Nat.succ_le_succ (qL r i)
def qM(its:ZF):∀k acc,
 List.foldl (λa x2=>a++x2) acc.toArray (List.replicate k its.toArray)=(acc++(List.replicate k its).flatten).toArray
 | 0,acc=>by simp
 | k+1,acc=>by
   let e:acc.toArray++its.toArray=(acc++its).toArray:=by simp
   let b:(acc++its) ++(List.replicate k its).flatten=acc++(List.replicate (k+1) its).flatten:=by
    rw[List.replicate_succ,List.flatten_cons,Ze]
   rw[<-b,<-qM its k _,<-e,List.replicate_succ,Y7]
section
#version
variable{l b:Addr}{xs ys zs:List V}
def JQ.lset{its its':ZF}{n:Nat}{f:ZJ->ZJ}{t':Nat}(I:JQ X ff σ H s)(a:H l<*xs)
 (e:s.heap.get? l=some {cls:= .type "list",data:= .seq its.toArray n}) (c:f its.toArray=its'.toArray) (d:aD ys its') (g: ~~~ys<=sizeLine):
 JQ X ff σ (JO H l (.lst ys)) {s with heap:=s.heap.update l (Obj.mapSeq f),toks:=t'}:=by
 let q:=PySem.IsL.update e f;rw[c]at q;show I.write (a▸trivial) (.inl rfl) (λj u h i=>(get?_update_other s.heap _ (Ne.symm h)).trans i) %[_|q] ?_;exact%[g,its',_,d|q]
def JQ.lnew(I:JQ X ff σ H s)(a:aD ys its)(c: ~~~ys<=sizeLine):
 JQ X ff σ (JO H ⇑s (.lst ys)) {s with heap:=s.heap.push {cls:= .type "list",data:= .seq its.toArray},toks:=t'}:=
 I.laid (λ_ _ q=>Z7 _ q) (Zi _) %[c,its,0,a|Zj _ rfl]
def JQ.fresh(I:JQ X ff σ H s):H ⇑s=none:=I.hok.fresh (Zi _)
def JQ.lstM(I:JQ X ff σ H s)(a:H l<*xs): ~~~xs<=sizeLine/\∃its n,aD xs its/\ ~~~xs= ~~~its/\s.heap.get? l=some {cls:= .type "list",data:= .seq its.toArray n}:=by
 let%[z,its,n,r|e]:=I.hok l _ a;exact%[z,its,n,r,~~~r|e]
def uM{n:Nat}(h:n<=sizeLine):Builtin.List.listTooLong n=false:=by
 unfold Builtin.List.listTooLong
 simp_all
end
section
variable{X:Cx}
abbrev nv:V->List V->Hp->VK->Prop:=λx vs H Q=>asR x λl=>∃y,vs=[y]/\∃xs,H l<*xs/\ ~~~xs<sizeLine/\Q .non (JO H l (.lst (xs++[y])))
def qN:MtM X "list.append" nv:=by
 intro ff s f H x vs v us Q I b c h;let%[l,rfl,y,rfl,xs,a,g|q]:=eG h;cases b;let%[u,rfl|d]:=c.one;let%[z,its,n,r,i|e]:=I.lstM a;show call_meets F.slot_list_append %[_,e|rfl] F.entry_list_append (F.args_list_append_2 _ _) (PySem.list_append l its.toArray n u (!2)) %[e,.non,_,I.lset a e ∅ (r.append (.cons d .nil)) ?_,rfl|q];rw[Z9,Yk]
 lia
abbrev sU:V->List V->Hp->VK->Prop:=λx vs H Q=>∃l b xs zs,x= .ref l/\vs=[.ref b]/\H l<*xs/\H b<*zs/\ ~~~xs+ ~~~zs<=sizeLine/\Q .non (JO H l (.lst (xs++zs)))
def zO:MtM X "list.extend" sU:=by
 intro ff s y H x vs v us Q I f g h;let%[l,b,xs,zs,rfl,rfl,d,i,A|q]:=h;cases f;let%[u,rfl|j]:=g.one;cases j;let%[z,its,n,r,B|e]:=I.lstM d;let%[C,its2,m,o,p|w]:=I.lstM i;let c:its.toArray.size+its2.toArray.size<=sizeLine:=!2
 let a: ¬ (!its.toArray.isEmpty&&Builtin.List.listTooLong (its.toArray.size+its2.toArray.size))=true:=by
  rw[uM c,Bool.and_false];exact Zt
 show call_meets F.slot_list_extend %[_,e|rfl] F.entry_list_extend (F.args_list_extend_2 _ _)
  (AutoSeq1.list_extend_list_list_0 l its.toArray n b its2.toArray m a ⋯ ⋯) %[e,w,.non,_,I.lset d e ∅ (r.append o) ?_,rfl|q]
 simp_all
abbrev xc:V->List V->Hp->VK->Prop:=λx vs H Q=>∃l xs,x= .ref l/\vs=[]/\H l<*xs/\Q .non (JO H l (.lst []))
def By:MtM X "list.clear" xc:=by
 intro ff s f H x vs v us Q I c d h;let%[l,xs,rfl,rfl,b|q]:=h;cases c;let a:=d.zero;subst a;let%[z,its,n,r,g|e]:=I.lstM b;exact call_meets F.slot_list_clear %[_,e|rfl] F.entry_list_clear (F.args_list_clear_1 _) (AutoSeq1.list_clear_list_0 l its.toArray n (by rw[Zp];lia)) %[e,.non,_,I.lset b e rfl .nil (Xg _),rfl|q]
abbrev xf:R2:=λx y H Q=>∃l b xs zs,x= .ref l/\y= .ref b/\H l<*xs/\H b<*zs/\ ~~~xs+ ~~~zs<=sizeLine/\∀p,H p=none->Q (.ref p) (JO H p (.lst (xs++zs)))
def GH:OpR X (binaryOp .Add) xf:=by
 intro ff s o H x y v u Q I a c h;let%[l,b,xs,zs,rfl,rfl,d,f,p|q]:=h;cases a;cases c;let%[z,its,n,r,w|e]:=I.lstM d;let%[A,its2,B,g,i|j]:=I.lstM f;show PySem.P.add_list e j ?_ (by rw[Zp,Zp];lia);let m:its.toArray++its2.toArray=(its++its2).toArray:=by simp
 rw[m];exact%[.ref _,_,I.lnew (r.append g) (by rw[Z9];lia),ρ|q _ I.fresh]
abbrev GI:R2:=λx y H Q=>∃l k xs,x= .ref l/\y= .int k/\H l<*xs/\ -(2^63)<=k/\k<2^63/\ ~~~xs*k.toNat<=sizeLine/\
 ∀p,H p=none->Q (.ref p) (JO H p (.lst (List.replicate k.toNat xs).flatten))
def Em(xs:List a)(k:Nat):(List.replicate k xs).flatten.length=k* ~~~xs:=by
 simp
def GJ:OpR X (binaryOp .Mult) GI:=by
 intro ff s E H x y v u Q I o p h;let%[l,k,xs,rfl,rfl,w,A,B,j|q]:=h;cases o;let%[t|rfl]:=p;let%[z,its,n,r,C|e]:=I.lstM w;let c:its.toArray.size*k.toNat<=sizeLine:=by rw[Zp,<-C];exact j
 let d: ¬ its.toArray.size*k.toNat>(2^63-1)/8:=by
  let:sizeLine<=(2^63-1)/8:=!1
  lia
 let f: ¬ (!Builtin.List.listFitsIndex k)=true:=by
  rw[fitsIndex_both A B];exact Zt
 let b: ¬ Builtin.List.listTooLong (its.toArray.size*k.toNat)=true:=by
  rw[uM c];exact Zt
 let g:List.foldl (λi x2=>i++x2) #[] (List.replicate (if its.toArray.isEmpty=true then 0 else k.toNat) its.toArray)=(List.replicate k.toNat its).flatten.toArray:=by
  let G:∀m,List.foldl (λi x2=>i++x2) #[] (List.replicate m its.toArray)=(List.replicate m its).flatten.toArray:=λm=>by
   let:=qM its m []
   simp_all
  cases its with
  | nil=>simp
  | cons a J=>simp_all
 show wpAny_binaryOp_repeat_ref (!1) %[_,e|rfl] (λs'=>typeIs_int s' k t) noFill_list_mul F.fills_int_mul F.slot_int_rmul repeat_list F.slot_int_index.lookup
  (call_meets F.slot_int_rmul (typeIs_int s k t) F.entry_int_rmul (F.args_int_rmul_2 _ _) (int___rmul___int_list k t l its.toArray n)
   %[e,rfl,%[_,e|rfl]|call_meets F.slot_list_mul %[_,e|rfl] F.entry_list_mul (F.args_list_mul_2 _ _) (AutoListH.list___mul___list_int_3 l its.toArray n k t f d b) %[e|?_]])
 rw[g];exact%[.ref _,_,I.lnew (r.rep k.toNat) (by rw[Em,Nat.mul_comm];exact j),ρ|q _ I.fresh]
#where
end
section
variable{κ:Type}[DecidableEq κ]
abbrev cF(a:List (κ×V))(k:κ):Option V:=(a.find? λb=>decide (b.1=k))\2
abbrev cR(a:List (κ×V))(k:κ)(v:V):List (κ×V):=
 if(a.any λb=>decide (b.1=k))=true then a.map (λb=>if b.1=k then(b.1,v)else b)else a++[(k,v)]
def ee{p:κ×V}{r:List _}{k:κ}(e:p.1=k):cF (p::r) k∣p.2:=by simp[cF,e]
def dc{p:κ×V}{r:List _}{k:κ}(e: ¬ p.1=k):cF (p::r) k=cF r k:=by simp[cF,e]
def iN(k:κ):∀a,(a.any λb=>decide (b.1=k))=(cF a k).isSome
 |[]=>rfl
 | p::r=>by
   rw[Zw];by_cases e:p.1=k
   .simp only[ee e,Zf e,Bool.true_or,Option.isSome_some]
   .rw[dc e,Zh e,Bool.false_or];exact iN k r
def ef(a:List _)(k:κ)(v:V): ~~~(cR a k v)<= ~~~a+1:=by
 unfold cR
 split
 .simp
 simp_all
def j8{k:κ}(v:V)(h:cF a k=none):cR a k v=a++[(k,v)]:=by
 unfold cR;rw[iN,h];exact if_neg (!1)
def fP.isSome_eq(r:fP o u):o.isSome=u.isSome:=by
 cases o with
 | none=>cases u with
   | none=>rfl
   | some _=>exact(r).elim
 | some _=>cases u with
   | none=>exact(r).elim
   | some _=>rfl
def fP.getD{o:Option V}{u:Option Value}{d:V}{a:Value}(r:fP o u)(b:aJ d a):aJ (o.getD d) (u.getD a):=by
 cases o with
 | none=>cases u with
   | none=>exact b
   | some _=>exact(r).elim
 | some _=>cases u with
   | none=>exact(r).elim
   | some _=>exact r
def KV.val{vs:List (κ×Value)}(r:KV a vs)(k:κ):fP (cF a k) (valueAt vs k):=by
 induction r with
 | nil=>exact True.intro
 | @cons p q ps qs h t f=>
   let%[d|g]:=h;by_cases e:p.1=k
   .let c:=d.symm.trans e;let b:valueAt (q::qs) k∣q.2:=by simp[valueAt,c]
    rw[ee e,b];exact g
   .let c: ¬ q.1=k:=λz=>e (d.trans z)
    let b:valueAt (q::qs) k=valueAt qs k:=by simp[valueAt,c]
    rw[dc e,b];exact f
def KV.any(r:KV a vs)(k:κ):(a.any λb=>decide (b.1=k))=vs.any λb=>decide (b.1=k):=by
 induction r with
 | nil=>rfl
 | cons h t c=>simp_all
def KV.repl(r:KV c vs)(k:κ)(d:aJ y u):
 KV (c.map λa=>if a.1=k then(a.1,y)else a) (vs.map λa=>if a.1=k then(a.1,u)else a):=by
 induction r with
 | nil=>exact .nil
 | @cons p q ps qs h t f=>
   rw[Yr,Yr];show .cons ?_ f;let%[b|g]:=h;by_cases e:p.1=k
   .rw[if_pos e,if_pos (b.symm.trans e)];exact%[b|d]
   .rw[if_neg e,if_neg (λz=>e (b.trans z))];exact%[b|g]
def KV.put(r:KV a vs)(k:κ)(b:aJ y u):KV (cR a k y) (stored vs k u):=by
 unfold cR stored;rw[r.any k];by_cases e:(vs.any λc=>decide (c.1=k))=true
 .rw[if_pos e,if_pos e];exact r.repl k b
 .rw[if_neg e,if_neg e];exact Paired.snoc r %[rfl|b]
def KV.keys{a:List (κ×V)}{vs:List (κ×Value)}(r:KV a vs):a\1=vs\1:=by
 induction r with
 | nil=>rfl
 | cons h t b=>simp_all
def KV.length{a:List (κ×V)}{vs:List _}(r:KV a vs): ~~~a= ~~~vs:=Paired.length r
end
def mz{P:Program}(r:aJ (kV k) u):(aI P w).is k u=true:=by
 cases k with
 | inl i=>have%[t|e]:=(r);subst e;exact uH P w i t
 | inr x=>have%[t|e]:=(r);subst e;exact mr P w x t
def qO{P:Program}:∀{ks:List Key} {us:ZF},aD (ks.map kV) us->ItemsAre (aI P w) ks us
 |[],_,r=>by cases r;exact .nil
 | k::ks,_,r=>by
   cases r with
   | cons h t=>exact .cons (mz h) (qO t)
noncomputable abbrev KT(H:Hp):List (List Key×V)->List (List Key×Addr×Value)->Prop:=Paired λp q=>p.1=q.1/\H q.2.1&&&p.1.map kV/\aJ p.2 q.2.2
def KT.val{a:List (List Key×V)}{xs:List (List Key×Addr×Value)}(r:KT H a xs)(k:List Key):fP (cF a k) ((atKey xs k)\2):=by
 induction r with
 | nil=>exact True.intro
 | @cons p q ps qs h t f=>
   let%[d,_|g]:=h;by_cases e:p.1=k
   .let c:=d.symm.trans e;let b:atKey (q::qs) k∣q.2:=by simp[atKey,c]
    rw[ee e,b];exact g
   .let c: ¬ q.1=k:=λz=>e (d.trans z)
    let b:atKey (q::qs) k=atKey qs k:=by simp[atKey,c]
    rw[dc e,b];exact f
def KT.repl(r:KT H b xs)(k:List Key)(f:aJ y u):
 KT H (b.map λc=>if c.1=k then(c.1,y)else c) (xs.map (putAt k u)):=by
 induction r with
 | nil=>exact .nil
 | @cons p q ps qs h t g=>
   rw[Yr,Yr];show .cons ?_ g;let%[a,d|i]:=h;unfold putAt;by_cases e:p.1=k
   .rw[if_pos e,if_pos (a.symm.trans e)];exact%[a,d|f]
   .rw[if_neg e,if_neg (λz=>e (a.trans z))];exact%[a,d|i]
def KT.put(r:KT H a xs)(k:List Key)(d:H b&&&k.map kV)(c:aJ y u):
 KT H (cR a k y) (storedH xs k b u):=by
 let e:(a.any λf=>decide (f.1=k))=(atKey xs k).isSome:=by
  rw[iN,(r.val k).isSome_eq,isSome_map]
 unfold cR storedH;rw[e];by_cases q:(atKey xs k).isSome=true
 .rw[if_pos q,if_pos q];exact r.repl k c
 .rw[if_neg q,if_neg q];exact Paired.snoc r %[rfl,d|c]
def KT.keeps(r:KT H a xs)(c:∀b ys,H b&&&ys->d b&&&ys):KT d a xs:=
 Paired.mapP r λ_ _ z=>%[z.1,c _ _ z.2.1|z.2.2]
section
variable{P:Program}{w:World}{H:Hp}{h:Heap}{a:Addr}
def FD(ok:HOk P w H h)(e:Rd H a u):cp P w H h a u:=e.ok ok
def qP(ok:HOk P w H h)(e:Rd H a (.dK b)): ~~~b<=sizeLine/\(a==sysModules)=false/\∃vs,KV b vs/\h.DictOf (aI P w) a vs:=
 FD ok e
def mB(ok:HOk P w H h)(e:H a∣.dK b): ~~~b<=sizeLine/\(a==sysModules)=false/\∃vs,KV b vs/\h.DictOf (aI P w) a vs:=qP ok (.inl e)
def nP(ok:HOk P w H h)(e:H a&&&ks.map kV):(tupleKind (aI P w)).is h ks a:=by
 let%[_,its,r,o,b,c,n|d]:=(ok a _ e)
 exact%[o,its.toArray,n,b,c,d|qO r]
def uN(ok:HOk P w H h)(e:Rd H a (.dT b)): ~~~b<=sizeLine/\(a==sysModules)=false/\
 ∃xs,KT H b xs/\h.DictOfH (tupleKind (aI P w)) a xs:=by
 let%[z,y,xs,r,o,d,f,g,i,j,n|s]:=(FD ok e)
 show%[z,y,xs,r,o,d,f,g,i,j,n,λx c=>?_|s];let all:∀{l:List _} {m:List _},KT H l m->∀x∈m,(tupleKind (aI P w)).is h x.1 x.2.1:=by
  intro l m q
  induction q with
  | nil=>simp
  | @cons p q ps qs v t u=>
    intro x c;rcases mem_cons.mp c with e|c
    .exact nP ok (!2)
    .exact u x c
 exact all r x c
def FE(ok:HOk P w H h)(e:H a∣.dT b): ~~~b<=sizeLine/\(a==sysModules)=false/\
 ∃xs,KT H b xs/\h.DictOfH (tupleKind (aI P w)) a xs:=uN ok (.inl e)
end
abbrev dM(H:Hp)(a:Addr)(y:V)(r:Option V):Prop:=
 (∃c k,Rd H a (.dK c)/\y=kV k/\r=cF c k)\/∃c k b,Rd H a (.dT c)/\y= .ref b/\H b&&&k.map kV/\r=cF c k
abbrev iH(H:Hp)(a:Addr)(y v:V)(d:Hp):Prop:=
 (∃c k,H a∣.dK c/\y=kV k/\ ~~~c<sizeLine/\d=JO H a (.dK (cR c k v)))\/
 ∃c k b,H a∣.dT c/\y= .ref b/\H b&&&k.map kV/\ ~~~c<sizeLine/\d=JO H a (.dT (cR c k v))
def dM.k{k:Key}(e:H a∣.dK b):dM H a (kV k) (cF b k):= .inl %[b,k,.inl e,rfl|rfl]
def iH.k{k:Key}(e:H a∣.dK b)(c: ~~~b<sizeLine):iH H a (kV k) v (JO H a (.dK (cR b k v))):= .inl %[b,k,e,rfl,c|rfl]
def iH.t{c:List (List Key×V)}{k:List Key}(e:H a∣.dT c)(d:H b&&&k.map kV)(f: ~~~c<sizeLine):
 iH H a (.ref b) v (JO H a (.dT (cR c k v))):= .inr %[c,k,b,e,rfl,d,f|rfl]
section
#version
variable{a:Addr}{y v:V}{u r:Value}{o:Option V}{A:Around}{E:ZD}
def JQ.big(I:JQ X ff σ H s):sysModules<⇑s:=by
 exact Nat.lt_trans (!1) ((I.mod.glob.keeps I.bk).lt)
def zP(w:A.units+1<cLine)(I:JQ X ff σ H s)(g:dM H a y (some v))(q:aJ y u)(h:∀f s',JQ X ff σ H s'->aJ v f->Q f s'):
 wpAny (model X.prog X.w) A (getItem (.ref a) u) Q E s:=by
 rcases g with⟨i,k,e,j,l⟩|⟨i,k,b,e,j,B,l⟩
 .subst j;let%[z,C,vs,c|m]:=qP I.hok e;let%[f,hw|d]:=fP.some_of (l▸c.val k);exact wpAny_getItem_of (mz q) m.mapOf hw (h f _ (I.tok _) d)
 .subst j;cases(q);let%[z,C,xs,c|m]:=uN I.hok e;let%[f,hw|d]:=fP.some_of (l▸c.val k);let%[p,G|n]:=map_eq_some_iff.mp hw;show wpAny_getItem_heap (tupleKind_room_in1 w) (nP I.hok B) m G ?_;rw[n];exact h f _ (I.tok _) d
def d_in(n:A.units+1<cLine)(I:JQ X ff σ H s)(g:dM H a y o)(m:aJ y u)(h:∀s',JQ X ff σ H s'->Q (.bool o.isSome) s'):
 wpAny (model X.prog X.w) A (compareOp .In u (.ref a)) Q E s:=by
 rcases g with⟨d,k,e,f,l⟩|⟨d,k,b,e,f,p,l⟩
 .subst f;let%[z,i,vs,c|j]:=qP I.hok e;show wpAny_in_of (mz m) i j.mapOf ?_;rw[<-(c.val k).isSome_eq,<-l];exact h _ (I.tok _)
 .subst f;cases(m);let%[z,i,xs,c|j]:=uN I.hok e;show wpAny_in_heap (tupleKind_room_in1 n) (nP I.hok p) i j ?_;let q:=(c.val k).isSome_eq;rw[isSome_map]at q;rw[<-q,<-l];exact h _ (I.tok _)
def En(n:A.units+1<cLine)(I:JQ X ff σ H s)(g:dM H a y o)(m:aJ y u)(h:∀s',JQ X ff σ H s'->Q (.bool (!o.isSome)) s'):
 wpAny (model X.prog X.w) A (compareOp .NotIn u (.ref a)) Q E s:=by
 rcases g with⟨d,k,e,f,l⟩|⟨d,k,b,e,f,p,l⟩
 .subst f;let%[z,i,vs,c|j]:=qP I.hok e;show wpAny_notIn_of (mz m) i j.mapOf ?_;rw[<-(c.val k).isSome_eq,<-l];exact h _ (I.tok _)
 .subst f;cases(m);let%[z,i,xs,c|j]:=uN I.hok e;show wpAny_notIn_heap (tupleKind_room_in1 n) (nP I.hok p) i j ?_;let q:=(c.val k).isSome_eq;rw[isSome_map]at q;rw[<-q,<-l];exact h _ (I.tok _)
def j9(I:JQ X ff σ H s)(d:Mut (H a))(e:SameBut a s.heap h')(f:∃q,h'.get? a∣q)(new:cp X.prog X.w (JO H a c) h' a c):
 JQ X ff σ (JO H a c) {s with heap:=h',toks:=t'}:=
 I.write d (.inl rfl) (λb q g z=>(e.2 b g).trans z) f new
def nQ{P:Program}(z: ~~~b<=sizeLine)(d:(a==sysModules)=false)(c:KV b vs)(e:h'.DictOf (aI P w) a vs):
 cp P w f h' a (.dK b):=%[z,d,vs,c|e]
def zQ(N:A.units+1<cLine)(I:JQ X ff σ H s)(g:iH H a y v O)(G:aJ y u)(J:aJ v r)(h:∀s',JQ X ff σ O s'->Q () s'):
 wpAny (model X.prog X.w) A (setItem (.ref a) u r) Q E s:=by
 rcases g with⟨d,k,e,m,l,n⟩|⟨d,k,b,e,m,L,l,n⟩
 .subst m n;let%[z,p,vs,f|w]:=mB I.hok e;let T: ~~~vs<=sizeLine:= ~~~f▸z;let B: ~~~(cR d k v)<=sizeLine:=by let:=ef d k v;lia
  exact wpAny_setItem_pairs (mz G) w λh' i C=>h _ (j9 I (e▸True.intro) C (let⟨q,_,_,j,_⟩:=i;%[q|j]) (nQ B p (f.put k J) i))
 .subst m n;cases(G);let%[z,p,xs,f|w]:=FE I.hok e;let T: ~~~xs<=sizeLine:=(Paired.length f)▸z;let B: ~~~(cR d k v)<=sizeLine:=by let:=ef d k v;lia
  show wpAny_setItem_heap (tupleKind_room_in1 N) (nP I.hok L) w λh' i C=>h _ ?_
  let%[q,U,Y,j,h2,h3,h4,_|h5]:=i;show j9 I (e▸True.intro) C %[q|j] %[B,p,_,(f.put k L J).keeps λc ys M=>?_,q,U,Y,j,h2,h3,h4|h5];rw[au (nH M e (λz=>nomatch z))];exact M
variable{kvs:List (Key×V)}{k:Key}
end
abbrev GK(i:Expr):Prop:=∀a b,subscripted i false a b=operate [a,b] (getItem a b)
def Eo{T id:String}
 (m:typeLookup (.type T) "__getitem__"=pure (some (.builtin id))) (n:GK a)
 (h:↥A (eval c env) (λo e=>↥A (eval a env) (λi b=>b.TypeIs o T/\↥A (getItem o i) Q E b) E e) E s):
 ↥A (eval (.Subscript c a pos) env) Q E s:=by
 show Subscript_ (wpAny_mono h (λo e g=>wpAny_mono g (λi b d=>?_) λ_ _ x=>x) λ_ _ x=>x);let%[p|d]:=d;show Z2 (Z2 (wpAny_specialOf p m ?_));let l:↥A (subscripted a false o i) (λr f=>↥A (letTemporaryGo c o r>>= λ_=>pure r) Q E f) E b:=by
  rw[n o i];exact wpAny_operating (wpAny_mono d (λr f j=>Z2 (wpAny_letTemporaryGo (Z3 j))) λ_ _ x=>x)
 first
  | exact Z3 (Z2 l)
  | lia
  | lia
def uO{X:Cx}(I:JQ X ff f H s)(g:dM H a y o):s.TypeIs (.ref a) "dict":=by
 rcases g with⟨c,k,e,_,_⟩|⟨c,k,b,e,_,_,_⟩
 .let%[_,_,vs,_|d]:=qP I.hok e;exact d.typeIs
 .let%[_,_,xs,_|d]:=uN I.hok e;exact d.typeIs
abbrev Bz(d ty:TE):TE:=λb H Q=>d b H λx e=>ty b e λy c=>∃a v,x= .ref a/\dM c a y (some v)/\Q v c
abbrev GL(ty d:TE):TE:=λb H Q=>ty b H λy e=>d b e λx c=>∃a o,x= .ref a/\dM c a y o/\Q (.bl o.isSome) c
abbrev sV(ty d:TE):TE:=λb H Q=>ty b H λy e=>d b e λx c=>∃a o,x= .ref a/\dM c a y o/\Q (.bl (!o.isSome)) c
abbrev qQ(d ty e:TE):TS:=λD b H=>e b H λv f=>d b f λx g=>ty b g λy h=>∃a c,x= .ref a/\iH h a y v c/\D.nx b c
section
variable{X:Cx}{o i e value:Expr}{pos pos' tpos:Pos}{td ty tv:TE}
def Ep(f:X.A.units+1<cLine)(j:PE X o td)(hi:PE X i ty)(l:GK i):PE X (.Subscript o i pos) (Bz td ty):=by
 intro ff s c H Q I h;show Eo PySem.F.slot_dict_getitem.lookup l (thP (j ff s c H _ I h) λu m x n p q r=>thP (hi ff m c n _ p r) λC E y w d z ⟨a,v,ex,g,A⟩=>?_);subst ex;obtain rfl:u=Value.ref a:=q;exact%[uO d g|zP f d g z λG J B b=>%[v,w,B,b|A]]
def GM(c:X.A.units+1<cLine)(hi:PE X i ty)(d:PE X o td):PC X .In i o (GL ty td):=by
 intro ff s b H Q I h;show thP (hi ff s b H _ I h) λA f y j l m n=>thP (d ff f b j _ l n) λu B x p q r ⟨a,v,ex,g,w⟩=>?_
 subst ex;obtain rfl:u=Value.ref a:=r;exact d_in c q g m λC z=>%[.bl v.isSome,p,z,rfl|w]
def zR(c:X.A.units+1<cLine)(hi:PE X i ty)(d:PE X o td):PC X .NotIn i o (sV ty td):=by
 intro ff s b H Q I h;show thP (hi ff s b H _ I h) λz f y j l m n=>thP (d ff f b j _ l n) λu A x p q r ⟨a,B,ex,g,v⟩=>?_
 subst ex;obtain rfl:u=Value.ref a:=r;exact En c q g m λC w=>%[.bl _,p,w,rfl|v]
def Er(c:X.A.units+1<cLine)(d:PE X o td)(hi:PE X i ty)(f:PE X value tv)(j:swapsWith value (some (.Subscript o i pos')) pos.line X.env=pure false):
 PS X (.Assign [.Subscript o i pos'] value pos) (qQ td ty tv):=by
 intro ff s b H D I h;show wpAny_Assign_Subscript (thP (f ff s b H _ I h) λr l v m n p q=>thP (d ff l b m _ n q) λu w x z A B C=>thP (hi ff w b z _ A C) λN O y Q E G ⟨a,J,ex,g,L⟩=>?_) j;subst ex;obtain rfl:u=Value.ref a:=B;exact zQ c E g G p λT M=>%[b,J,M|L]
end
def uP{P:Program}(h:Heap)(a:sysModules<h.objs.size):cp P w H (h.push {cls:= .type "dict",data:= .dict #[]}) h.objs.size (.dK []):=
 %[Xg _,beq_eq_false_iff_ne.mpr (Ne.symm (Zs a)),[],.nil|Heap.DictOf.new h]
def BA{P:Program}(h:Heap)(a:sysModules<h.objs.size):cp P w H (h.push {cls:= .type "dict",data:= .dict #[]}) h.objs.size (.dT []):=
 %[Xg _,beq_eq_false_iff_ne.mpr (Ne.symm (Zs a)),[],.nil,_,#[],0,Zj _ rfl,%[rfl,rfl|rfl],rfl,rfl|X6]
abbrev xg:TE:=λ_ H Q=>∀p,H p=none->Q (.ref p) (JO H p (.dK []))
abbrev xh:TE:=λ_ H Q=>∀p,H p=none->Q (.ref p) (JO H p (.dT []))
section
variable{X:Cx}{pos:Pos}
def BB:PE X (.Dict [] [] pos) xg:=λff s a H Q I h=>
 wpAny_Dict_empty %[.ref ⇑s,_,I.laid (λ_ _ q=>Z7 _ q) (Zi _) (uP s.heap I.big),rfl|h _ (I.hok.fresh (Zi _))]
def BC:PE X (.Dict [] [] pos) xh:=λff s b H Q I h=>
 wpAny_Dict_empty %[.ref ⇑s,_,I.laid (a:=⇑s) (o:= .dT []) (t':=s.toks) (λ_ _ q=>Z7 _ q) (Zi _) (BA s.heap I.big),rfl|h _ (I.hok.fresh (Zi _))]
end
abbrev xi:List (TE×TE)->St->Hp->(List (V×V)->Hp->Prop)->Prop
 |[],_,H,Q=>Q [] H
 |(tk,b)::r,a,H,Q=>tk a H λx c=>b a c λy d=>xi r a d λps e=>Q ((x,y)::ps) e
noncomputable abbrev VV:List (V×V)->List (Value×Value)->Prop:=Paired λp q=>aJ p.1 q.1/\aJ p.2 q.2
abbrev PPs(X:Cx)(pos:Pos)(keys:List (Option Expr))(a:List Expr)(b:List (TE×TE)):Prop:=
 ∀ff s (c:St) H Q,JQ X ff c H s->xi b c H Q->
  (X⁻¹) (evalPairs (pairTrees keys a X.env pos)) (λvs s'=>∃ps d,JQ X ff c d s'/\VV ps vs/\Q ps d) X.xe s
def Es{X:Cx}:PPs X pos [] [] []:=λff s a H Q I h=>pairTrees_nil_walk %[[],H,I,.nil|h]
def BD{X:Cx}(d:PE X k tk)(e:PE X v f)(g:PPs X pos ks vs a):
 PPs X pos (some k::ks) (v::vs) ((tk,f)::a):=λff s b H Q I h=>
 pairTrees_cons_walk (thP (d ff s b H _ I h) λu i x j l m n=>thP (e ff i b j _ l n) λC o y p q r w=>
  thP (g ff o b p _ q w) λws E ps z A c B=>%[(x,y)::ps,z,A,.cons %[m|r] c|B])
abbrev iO(a more:List (Key×V)):List (Key×V):=more.foldl (λacc b=>cR acc b.1 b.2) a
def KV.merge:∀{more:List _} {b:List _} {a:List _} {vs:List _},KV more b->KV a vs->KV (iO a more) (merged vs b):=by
 intro more b a vs r
 induction r generalizing a vs with
 | nil=>intro q;exact q
 | @cons p q ps qs h t c=>
   intro d;let e:KV (cR a p.1 p.2) (stored vs q.1 q.2):=by
    let:=d.put p.1 h.2;exact h.1▸this
   exact c e
def fR:∀more a,~~~(iO a more)<= ~~~a+ ~~~more
 |[],a=>by change ~~~a<= ~~~a+0;lia
 | p::r,a=>by
   let b:=fR r (cR a p.1 p.2);let c:=ef a p.1 p.2;change(iO _ r).length<=_
   grind
def nR{P:Program}:∀{d:List (Key×V)} {ws:List (Value×Value)},VV (d.map λf=>(kV f.1,f.2)) ws->∃e,Carries (aI P w) ws e/\KV d e
 |[],_,r=>by rw[map_nil]at r;cases r;exact%[[],True.intro|.nil]
 | p::d,_,r=>by
   rw[Yr]at r;cases r with
   | @cons a b as bs h t=>
     let%[e,c|q]:=nR (P:=P) (w:=w) t;let%[i|g]:=b;exact%[(p.1,g)::e,%[mz h.1,ρ|c]|.cons %[ρ|h.2] q]
abbrev FF(b:List (TE×TE)):TE:=λe H Q=>∀p,H p=none->xi b e (JO H p (.dK [])) λps c=>c p∣.dK []/\∃a:List _,ps=a.map (λd=>(kV d.1,d.2))/\ ~~~a<=15/\Q (.ref p) (JO c p (.dK (iO [] a)))
def Et{X:Cx}(h:PPs X pos keys b i)(d:keys.all (·.isSome)=true)(n: ~~~keys= ~~~b)(p:keys≠[])
 (j: ~~~keys<=15):PE X (.Dict keys b pos) (FF i):=by
 intro ff s r H Q I q;let u:=I.hok.fresh (Zi ⇑s);let v:=I.laid (a:=⇑s) (o:= .dK []) (h':=s.heap.push {cls:= .type "dict",data:= .dict #[]}) (t':=s.toks) (λ_ _ q=>Z7 _ q) (Zi _) (uP s.heap I.big);show wpAny_Dict_walk (knd:=aI X.prog X.w) d n p j (thP (h ff _ r _ _ v (q _ u)) λws Y ps H2 m l ⟨e,f,y,lk,A⟩=>?_);subst y;let%[B,c|C]:=nR (P:=X.prog) (w:=X.w) l;let%[z,E,G,J|L]:=mB m.hok e;cases J;show%[B,c,L|λh' g M=>%[.ref ⇑s,_,?_,ρ|A]];let N: ~~~(iO [] f)<=sizeLine:=by
  let O:=fR f [];rw[length_nil]at O;rw[sizeLine_eq];lia
 let T:∃q,h'.get? ⇑s∣q:=let⟨q,_,_,U,_⟩:=g;%[q|U];exact j9 m (by rw[e];exact True.intro) M T (nQ N E (C.merge .nil) g)
structure M2 (X:Cx) (o:Expr) (m:Str) (apos:Pos) (e f:Expr) (cpos:Pos):Prop where
 base:attributeBase o m X.env (eval o X.env)=eval o X.env
 few:((backTo cpos (starEach [e,f] X.env)).all (λx=>!x.1)&&(backToKw cpos (keywordEach [] X.env)).all (λx=>x.1.isSome)
  && decide (~~~([e,f])+ ~~~([]:List Keyword)+(if([]:List Keyword).isEmpty then 0 else 1)<30))=true
 line:(apos.endLine==cpos.line)=true
 trees:backTo cpos (starEach [e,f] X.env)=[(false,eval e X.env),(false,eval f X.env)]
section
#version
variable{a:Addr}{y d:V}{u r:Value}{o:Option V}{A:Around}{E:ZD}
variable{o:Expr}{e:Expr}{f:Expr}{apos:Pos}{cpos:Pos}{td:TE}{ty:TE}{tx:TE}
variable{kvs:List (Key×V)}
end
end _LL
namespace _AT
open PySem PySem.W PySem.Calls PyProof.Rows
def m7{P:Params}:∀(c:ZL) (vs:ZF),WellAll P h vs (c.map WData.int)->IntsAre vs c:=by
 intro c
 induction c with
 | nil=>
   intro vs w;cases w;exact .nil
 | cons n c d=>
   intro vs w;cases w with
   | cons a b=>
     cases a;exact .cons _ _ (d _ b)
def zS{l:OpenLaw}(o:l.most∣n){P:Params}
 (b:l.row.toRowW.claim.pre args=true) (j:WellAll P h e args):
 ∃a vs c,e=[Value.ref a]/\args=[WData.list (c.map WData.int)]/\h.get? a=some {cls:= .type "list",data:= .seq vs.toArray}/\IntsAre vs c/\ ~~~c<=n:=by
 let m:l.pre.holds [] _=true:=(pre_splitW b).2;let%[d,r,rfl,p|q]:=hasAllW_cons ((pre_splitW b).1);obtain rfl:=hasAllW_nil q;let%[xs,rfl|s]:=hasW_list p;let%[c|rfl]:=items_int s;let f: ~~~c<=n:=by
  unfold OpenLaw.pre at m;let i:=by
   let i:=(holds_andW m).1;rw[o]at i;exact i
  let y:=condW_of i (w_not (w_lt w_lit (w_len_list (w_arg rfl))))
  grind
 cases j with
 | cons u v=>
   cases v;cases u with
   | list w g=>exact%[_,_,c,ρ,ρ,w,m7 c _ g|f]
def zT(l:OpenLaw)(args:List WData):l.row.toRowW.claim.post args (.bool true) args=true:=
 postW_of
  (by first|rfl|simp|lia)
  (w_eq_bool (w_res rfl) w_lit) rfl
def attach_call{l:OpenLaw}{n:Nat}{q:Program}
 (I:l.most∣n) (u:d.params.defaults=[])
 (call:∀(w:World) (s₀ b:Shared) (mg v:ZC) (h:Addr) (o:Obj) (y p c:Value) (a:Addr) (vs:ZF) (s:ZL),
  Ground q e [] J w s₀ mg v b.heap->L w b.heap->
  b.heap.get? h∣o->o.data= .func (docDef d.name d.params d.body d.scope y p c)->b.heap.CodeRec p d.name->mg d.name∣.ref h->
  b.heap.get? a=some {cls:= .type "list",data:= .seq vs.toArray}->IntsAre vs s-> ~~~s<=n->b.gens= #[]->
  codeAny (model l.prog w) callerA (.call (.ref h) %[[.ref a]|[]]) (λr s'=>r= .ok (.ret (.bool true))/\OldK b.heap s'.heap/\s'.os=b.os/\AllBare s'.gens) b):
 WalkO q e J L l.row.toRowW d [] (λf vs=>PySem.call f vs):=by
 intro w s₀ b mg v G Y h o y p c M kV N O z C A Q args E as i H T B U;obtain rfl:M= .none:=Dflts.none C u;obtain rfl:kV= .none:=Dflts.noKw C;let%[a,vs,s,rfl,rfl,j,g|m]:=zS I i B;show enter_call (codeAny_mono (call w s₀ b mg v h o y p c a vs s G Y N (fd_plain O) z A j g m Q) λr s' hq=>?_);let%[rfl,h2,h3|h4]:=hq;exact%[.inl %[.bool true,.bool true,[],ρ,λ_=>rfl,.bool true,zT l _|λ_=>%[List.Pairwise.nil|λ_ hm=>(nomatch hm)]],h2,h3|h4]
section
#where
variable{K:Frag}
end
end _AT
namespace _LL
open PySem PySem.Spec PyProof.Rows
def qR:∀{vs:ZF} {a:ZL},IntsAre vs a->aD (a\4) vs
 | _,_,.nil=> .nil
 | _,_,.cons n t h=> .cons %[t|rfl] (qR h)
abbrev Eu(H:Hp):Prop:=∀b,H b=none\/∃o xs,H b∣.frz o (.lst xs)
def law_call{P:Program}{K:ZA}{mg J:ZC}{vs:ZF}
 (Y:K.In c.heap) (p:c.heap.Ns mainGlobals mg) (g:c.heap.Ns builtinsNs J) (L:∀x:Str,x≠"__name__"->J x=bootBuiltins x) (y:c.heap.NoLimit) (hg:c.gens= #[])
 (M:c.heap.get? a=some {cls:= .type "list",data:= .seq vs.toArray}) (hi:IntsAre vs N) (hl: ~~~N<=sizeLine) (hr:bM k callerA)
 (F:∀base:Heap,K.In base->base.Ns mainGlobals mg->d9 P w K mg base CX k fa fd [x] sp) (l:∀(s:Shared) (u:Value),BindsTo s fd %[[u]|[]] [(x,u)])
 (O:∀H:Hp,Eu H->JP K H a (N\4)->sp [.ref a] H (λv _=>v= .bl true) λ_ _ _=>False)
 (Q:∀H e s',CX [] H c (λ_ _ _=>False) e s'->False):
 codeAny (model P w) callerA (.call (.ref fa) %[[.ref a]|[]]) (λr s'=>r= .ok (.ret (.bool true))/\OldK c.heap s'.heap/\s'.os=c.os/\AllBare s'.gens) c:=by
 let rv:=qR hi;let j:∀H,Eu H->JP K H a (N\4)->HOk P w H c.heap->(∀b,H b≠none->b=a)->(H a≠none->K.lookup a=none)->
  codeAny (model P w) callerA (.call (.ref fa) %[[.ref a]|[]]) (λr s'=>r= .ok (.ret (.bool true))/\OldK c.heap s'.heap/\s'.os=c.os/\AllBare s'.gens) c:=by
  intro H hO hS A hA hK;let f:∀{b:Addr} {o:Obj},c.heap.get? b∣o->H b=none->(zA c.heap H).get? b∣o:=λe n=>A0 e n
  let T:∀{b:Addr} {o:Obj} {G:Array DictEntry} {I:Nat},c.heap.get? b∣o->o.data= .dict G I->H b=none:=λ{b o G I} e d=>by
   grind
  let i:∀{b:Addr} {m:ZC},c.heap.Ns b m->(zA c.heap H).Ns b m:=λ{b m} ⟨o,G,I,e,d,r⟩=>%[o,G,I,f e (T e d),d|r]
  let B:=λb o e=>f (Y b o e) (by
   grind)
  show codeAny_mono ((F _ B (i p)).run callerA [] c H _ _ [.ref a] _ _ hr %[rfl,%[B,i p,%[J,i g|L]|let⟨mc,h1,h2⟩:=y;%[mc,i h1|h2]],λb o e=>DJ e,le_of_eq (zB _ _),trivial,λb g=>absurd (show b∈([])from g) ∅,A|.of_eq hg] (l c _) (.cons rfl .nil) (O H hO hS)) λr s' h=>?_
  cases r with
  | error e=>exact(Q H e s' h).elim
  | ok fl=>
    cases fl with
    | next=>exact False.elim h
    | brk=>exact False.elim h
    | cont=>exact False.elim h
    | ret u=>
      let%[v,H',os,C,un,E,r'|q]:=h;subst q;obtain rfl:u=Value.bool true:=r';show%[ρ,OldK.of_keep λb o e=>?_,os|C];cases q:H b with
      | none=>exact un.keep b o e q (by intro z;exact absurd (show b∈([])from z) ∅) ∅
      | some u=>
        rcases hO b with z|⟨ob,xs,z⟩
        .rw[q]at z;cases z
        .let%[e1|_]:=A b _ z;let%[e2|_]:=E b _ (un.frzs b ob _ z);rw[e]at e1;cases e1;exact e2
 cases U:K.lookup a with
 | some o=>
   let e:=Y a o U;rw[M]at e;cases e;show j _ (λ_=> .inl rfl) (.inr %[_,vs.toArray,_,U,rfl,rfl,rfl,by rw[Zp,~~~hi];exact hl|rv]) (λb u z=>!2) (λb z=>absurd rfl z) λz=>absurd rfl z
 | none=>
   show j (λb=>if b=a then some (.frz {cls:= .type "list",data:= .seq vs.toArray} _)else none) (λb=>?_) (.inl (.inr %[{cls:= .type _,data:= .seq vs.toArray}|if_pos rfl])) (λb u z=>?_) (λb z=>?_) λ_=>U
   .by_cases g:b=a
    .exact .inr %[_,_|if_pos g]
    .exact .inl (if_neg g)
   .by_cases g:b=a
    .let z':=(if_pos g).symm.trans z;cases z';subst g;exact%[M,by rw[Z6];exact hl,vs,_,rv|M]
    simp_all
   .by_cases g:b=a
    .exact g
    .exact absurd (if_neg g) z
def walk_of{l:PySem.W.OpenLaw}{J:(Str->Option Value)->Heap->Prop}{E:World->Heap->Prop}{d:DefRec}{K:Params->ZA}{CX:World->CXT}{sp:World->Sp}{x:Str}
 (L:l.most∣n) (p:n<=sizeLine) (r:d.params.defaults=[]) (M:bM k callerA)
 (N:∀(w:World) (h:Heap),E w h->(K w.params).In h)
 (F:∀(w:World) (mg:ZC) (j:Addr) (h:Heap),(K w.params).In h->h.Ns mainGlobals mg->mg d.name∣.ref j->
  ∃y:FuncData,(∀(s:Shared) (u:Value),BindsTo s y %[[u]|[]] [(x,u)])/\
   ∀base:Heap,(K w.params).In base->base.Ns mainGlobals mg->d9 l.prog w (K w.params) mg base (CX w) k j y [x] (sp w))
 (z:∀(w:World) (H:Hp) (a:Addr) (m:ZL),~~~m<=n->Eu H->JP (K w.params) H a (m\4)->sp w [.ref a] H (λv _=>v= .bl true) λ_ _ _=>False)
 (A:∀(w:World) (H:Hp) (s:Shared) (e:Value) (s':Shared),CX w [] H s (λ_ _ _=>False) e s'->False):
 PySem.W.WalkO q B J E l.row.toRowW d [] (λf vs=>PySem.call f vs):=by
 show _AT.attach_call L r λw s₀ g mg mb j o pm cd O a vs m G Y ho hd Q C i c b T=>?_
 let I:=N w _ Y;let%[y,U|hF]:=F w mg j _ I G.T.g C;exact law_call I G.T.g G.T.b G.T.builtins G.T.nolimit T i c (Nat.le_trans b p) M hF U (λH hO hS=>z w H a m b hO hS) λH e s'=>A w H g e s'
abbrev jj(s:Stmt)(j:Nat):Stmt:=match s with
 | .ClassDef _ _ _ a _ _ _ _ _ _ _=>a.getD j (.Pass %[0,0,0|0])
 | _=> .Pass %[0,0,0|0]
abbrev cY(s:Stmt):Arguments:=match s with
 | .FunctionDef _ a _ _ _ _ _ _ _ _=>a
 | _=>{posonlyargs:=[],args:=[],vararg:=none,kwonlyargs:=[],kw_defaults:=[],kwarg:=none,defaults:=[]}
abbrev bL(s:Stmt):List Stmt:=match s with
 | .FunctionDef _ _ b _ _ _ _ _ _ _=>b
 | _=>[]
abbrev ao(s:Stmt):Scope:=match s with
 | .FunctionDef _ _ _ _ _ _ a _ _ _=>a
 | _=>{kind:= .function,names:=[],isGenerator:=false,isCoroutine:=false}
noncomputable abbrev CX0:CXT:=λ_ _ _ _ _ _=>False
noncomputable abbrev E0:XK:=λ_ _ _=>False
def BE{X:Cx}:gK CX0 X E0:=λ_ _ _ _ _ _ _ h=>h.elim
structure Fun (K:ZA) (x qual:Str) (st:Stmt) (f:Addr) (fd:FuncData):Prop where
 ex:∃oc od kV doc pm an cdv ct osl,
  fd=fnOf x qual (cY st) (bL st) (ao st) .none kV doc pm an cdv ct/\K.lookup f=some %[oc,od,.func fd|osl]/\codeIn K cdv qual=true
 kp:keepIn K (.ref f)=true
section
variable{P:Program}{w:World}{K:ZA}{mg:ZC}{base:Heap}
def Fun.ok{x a:Str}{st:Stmt}{f:Addr}{g:FuncData}{N ps:ZB}{k:Nat}{sp:Sp}(F:Fun K x a st f g)(S:ax N ps (ao st))(len:∀vs H Q E,sp vs H Q E-> ~~~vs= ~~~ps)
 (c:∀b (A:Around) (outer:List Env) s H (vs:List V) Q E,bM k (A.deeper (envOfC a (ao st) ⇑s f b))->sp vs H Q E->
  ∃t,PSs (eY CX0 P w K mg base N a (ao st) f b A outer s H E).nox (bL st) t/\t {nx:=λ_ i=>Q .non i,rt:=Q} (start N vs) H):d9 P w K mg base CX0 (k+1) f g ps sp:=by
 let%[n,od,kV,j,o,p,b,ct,l,rfl,lk|d]:=F.ex;show FC lk d S len λA outer s H vs Q E m e=>?_
 let%[t,h|q]:=c b A outer s H vs Q E m e;exact%[t,h.nox|q]
def Fun.binds{st:Stmt}(F:Fun K x c st f g)
 (h:∀(kV a d:Value) (e:ZI) (b ct:Value) (us:ZF),~~~us= ~~~ps->bindArgs (fnOf x c (cY st) (bL st) (ao st) .none kV a d e b ct) %[us|[]]=pure (ps.zip us)):dH K g ps []:=by
 let%[l,od,kV,a,d,e,b,ct,i,rfl,lk|j]:=F.ex;exact .all (h kV a d e b ct)
def dS{st:Stmt}{kV d e b ct:Value}(l:K.lookup f=some %[i,od,.func (fnOf x a (cY st) (bL st) (ao st) .none kV d e h b ct)|g])
 (c:codeIn K b a=true) (k:keepIn K (.ref f)=true):Fun K x a st f (fnOf x a (cY st) (bL st) (ao st) .none kV d e h b ct):=%[%[i,od,kV,d,e,h,b,ct,g,rfl,l|c]|k]
variable{X:Cx}
def pv(i:Nat)(b:X.N[i]?∣x)(c:Vis X.env.scope x)(d:(x==("__debug__":Str))=false)
 (a:(x==("__classdict__":Str))=false):PE X (.Name x pos) (fV i):=A3 b c d a
end
def p8{A B:Prop}(h:B):if false=true then A else B:=by
 simp_all
def bv{c A B:Prop}[Decidable c](a:c->A)(b: ¬ c->B):if c then A else B:=by
 simp_all
abbrev ah(H a:Hp):Prop:=∀b o,H b∣o->a b∣o
def ah.refl(H:Hp):ah H H:=λ_ _ h=>h
def ah.trans{H d e:Hp}(a:ah H d)(b:ah d e):ah H e:=λc o h=>b c o (a c o h)
def ah.free{H a:Hp}(e:ah H a){l:Addr}(h:a l=Option.none):H l=Option.none:=by
 cases q:H l with
 | none=>rfl
 | some o=>
   rw[e l o q]at h;cases h
def ah.seq{K:ZA}(e:ah H b)(h:JP K H a xs):JP K b a xs:=by
 rcases h with(h|⟨o,h⟩)|h
 .exact .inl (.inl (e _ _ h))
 .exact .inl (.inr %[o|e _ _ h])
 .exact .inr h
section
variable{X:Cx}
end
section
variable{κ:Type}[DecidableEq κ]
def Ev{a:List (κ×V)}(h:cF a k∣v):k∈a\1:=by
 let q:(a.any λb=>decide (b.1=k))=true:=by
  rw[iN,h]
  all_goals rfl
 simp_all
def ny:∀{l:List κ} {k:κ},l.Nodup-> ¬ k∈l->(l++[k]).Nodup
 |[],k,_,_=>by simp
 | a::r,k,h,b=>by
   let%[c|d]:=nodup_cons.mp h;show nodup_cons.mpr %[λm=>?_|ny d λm=>b (mem_cons.mpr (Or.inr m))];rcases Xo m with q|q
   .exact c q
   .exact b (mem_cons.mpr (Or.inl (Xp q).symm))
end
abbrev nS(env:Env):List (Str×NameKind)->List (Str×Addr)->List (Str×Addr)
 |[],acc=>acc
 |(n,k)::r,acc=>nS env r (if k= .free then(n,(env.cells.lookup n).getD 0)::acc else acc)
def nT:∀(names:List (Str×NameKind)) (acc:List (Str×Addr)),(∀y∈names,y.2= .free->∃c,env.cells.lookup y.1∣c)->
 (forIn names acc λx r=>match x with
  |(name,kind)=>if(kind==NameKind.free)=true then do let a<-cellOf env name;pure (ForInStep.yield ((name,a)::r))else pure (ForInStep.yield r):Sem (List (Str×Addr)))=pure (nS env names acc)
 |[],acc,_=>rfl
 |(n,k)::r,acc,h=>by
  let d:=λacc=>nT r acc λy f=>h y (Zk _ f)
  rw[forIn_cons];by_cases b:k= .free
  .subst b;let%[c|e]:=h _ Zm rfl;let g:cellOf env n=pure c:=by unfold cellOf;rw[e]
   simp only[beq_self_eq_true,if_true,g,pure_bind];rw[d];change _=pure (nS env r _);rw[if_pos rfl,e]
   all_goals rfl
  .let i:(k==NameKind.free)=false:=↑b
   simp only[i,Zz,if_false,pure_bind];rw[d];change _=pure (nS env r _);rw[if_neg b]
def Ew(h:∀y∈a.names,y.2= .free->∃c,env.cells.lookup y.1∣c):closureFor a env=pure (nS env a.names []):=by
 unfold closureFor;simp only[bind_pure];exact(nT a.names [] h)
def uQ:∀(names:List (Str×NameKind)) (acc:List (Str×Addr)),(∀y∈names,y.2= .free->∃c,env.cells.lookup y.1∣c)->
 (∀y d,acc.lookup y∣d->env.cells.lookup y∣d)->(nS env names acc).lookup x∣c->env.cells.lookup x∣c
 |[],acc,_,a,e=>a x c e
 |(n,k)::r,acc,h,a,e=>by
  show uQ r _ (λy b=>h y (Zk _ b)) (λy d q=>?_) e;by_cases f:k= .free
  .rw[if_pos f,Yn]at q;let%[g|i]:=h _ Zm f;cases b:y==n with
   | true=>
     simp_all
   | false=>rw[b]at q;exact a y d q
  .rw[if_neg f]at q;exact a y d q
def nU:∀(names:List (Str×NameKind)) (acc:List (Str×Addr)),(∃c,acc.lookup x∣c)->∃c,(nS env names acc).lookup x∣c
 |[],_,h=>h
 |(n,k)::r,acc,h=>by
  show nU r _ ?_;by_cases a:k= .free
  .rw[if_pos a,Yn];cases b:x==n with
   | true=>exact%[_|ρ]
   | false=>exact h
  .rw[if_neg a];exact h
def nV:∀(names:List (Str×NameKind)) (acc:List (Str×Addr)),(x,NameKind.free)∈names->∃c,(nS env names acc).lookup x∣c
 |[],_,h=>by simp at h
 |(n,k)::r,acc,h=>by
  rcases mem_cons.mp h with e|h
  .show nU r _ ?_
   simp_all
  .exact nV r _ h
abbrev b8(X:Cx)(a:Scope)(d:ZB)(b:Shared)(c:Hp)(e:List Addr):Cx:=
 {X with
  N:=d
  s₀:=b
  H₀:=c
  env:=compEnvC a (cellsFrom (⇑b+1) a.names (nS X.env a.names [])) ⇑b X.env
  outer:=X.stack
  stack:=X.stack
  ex:=e
  fn:=λx=>decide (a.names.lookup x∣.cell)
  pn:=[]
  xe:=λ_ _=>False}
structure aA (X:Cx) (scope:Scope) (N':ZB) (cap:List (Nat×Nat)):Prop where
 kind:scope.kind= .function
 cell:∀y∈scope.names,y.2= .cell->scope.names.lookup y.1∣.cell
 loc:∀y∈scope.names,y.2= .local->scope.names.lookup y.1∣.local
 free:∀y∈scope.names,y.2= .free->X.env.kindOf y.1∣.cell\/X.env.kindOf y.1∣.free
 capt:∀p∈cap,∃x,N'[p.1]?∣x/\X.N[p.2]?∣x/\scope.names.lookup x∣.free
abbrev qS(n:Nat)(a:List (Nat×Nat))(b:St):St:=(List.range n).map λj=>(a.lookup j).bind λi=>(b[i]?).join
def mC:∀{l:List _} {j i:Nat},l.lookup j∣i->(j,i)∈l
 |[],_,_,h=>by simp at h
 |(a,b)::r,j,i,h=>by
  rw[Yn]at h;cases c:j==a with
  | true=>
    simp_all
  | false=>rw[c]at h;exact Zk _ (mC h)
def mD{env:Env}{names:List (Str×NameKind)}{x:Str}{k:NameKind}(h:(names.map λ(n,k)=>if(k==NameKind.free&&env.scope.kind== .function&&env.kindOf n==some .cell)then(n,NameKind.cell)else(n,k)).lookup x∣k)
 (a:k= .cell\/k= .free):(x,NameKind.free)∈names\/(x,NameKind.cell)∈names:=by
 let m:=PySem.mem_of_lookup h
 grind
def eR:∀names n acc,cellsFrom n names acc=cellsFrom n names [] ++acc
 |[],_,_=>rfl
 |(x,k)::r,n,acc=>by
  unfold cellsFrom
  split
  .rw[eR r _ _,eR r _ [(x,n)],Ze];rfl
  .exact eR r n acc
def lz:∀{names:List (Str×NameKind)} {n:Nat},(x,c)∈cellsFrom n names []->(x,NameKind.cell)∈names
 |[],_,h=>nomatch h
 |(y,k)::r,n,h=>by
  unfold cellsFrom at h
  split at h
  .rw[eR]at h;rcases Xo h with q|q
   .exact Zk _ (lz q)
   grind
  .exact Zk _ (lz h)
def mE(h:(cellsFrom n names acc).lookup x∣c):(x,c)∈cellsFrom n names []\/((cellsFrom n names []).lookup x=none/\acc.lookup x∣c):=by
 rw[eR,List.lookup_append]at h;cases e:(cellsFrom n names []).lookup x with
 | none=>rw[e]at h;exact .inr %[rfl|h]
 | some d=>
   rw[e]at h;let:=↑h
   exact this▸ .inl (PySem.mem_of_lookup e)
def kb{env:Env}:∀{names:List (Str×NameKind)} {x:Str},names.lookup x∣.free->
 (names.map λ(n,k)=>if(k==NameKind.free&&env.scope.kind== .function&&env.kindOf n==some .cell)then(n,NameKind.cell)else(n,k)).lookup x∣.cell\/
 (names.map λ(n,k)=>if(k==NameKind.free&&env.scope.kind== .function&&env.kindOf n==some .cell)then(n,NameKind.cell)else(n,k)).lookup x∣.free
 |[],_,h=>by simp at h
 |(n,k)::r,x,h=>by
  let c:= @kb env r x;simp only[Yr];cases a:x==n with
  | true=>
    rw[Yn,a]at h;let d:=Za h;subst d;by_cases b:((NameKind.free==NameKind.free)&&env.scope.kind== .function&&env.kindOf n==some .cell)=true
    .rw[if_pos b,Yn,a];exact .inl rfl
    .rw[if_neg b,Yn,a];exact .inr rfl
  | false=>
    rw[Yn,a]at h;by_cases b:(k==NameKind.free&&env.scope.kind== .function&&env.kindOf n==some .cell)=true
    .rw[if_pos b,Yn,a];exact(c h)
    .rw[if_neg b,Yn,a];exact(c h)
section
#version
def JQ.kindL(I:JQ X ff σ H s)(h:X.env.kindOf x∣.cell\/X.env.kindOf x∣.free):∃c,X.env.cells.lookup x∣c:=I.ok.has x h
def JQ.block{a:Scope}{E:ZB}{fp:List Addr}{f:Heap}{tk:Nat}(S:aA X a E n)(I:JQ X ff σ H s)(Q:∀b∈fp,mY X ff H b)(L:∀b∈fp,b<⇑s)
 (hn:f.Ns ⇑s (λ_=>none)) (B:∀b u,s.heap.get? b∣u->f.get? b∣u) (nc:CellsOk f (⇑s+1) (cellsFrom (⇑s+1) a.names [])):
 JQ (b8 X a E s H fp) [] (qS E.length n σ) H {s with heap:=f,toks:=tk}:=by
 let h:∀x c,(nS X.env a.names []).lookup x∣c->X.env.cells.lookup x∣c:=λx c e=>uQ a.names [] (λy hy hk=>I.kindL (S.free y hy hk)) (λ_ _ q=>by simp at q) e
 let o:∀x c,(cellsFrom (⇑s+1) a.names (nS X.env a.names [])).lookup x∣c->((x,c)∈cellsFrom (⇑s+1) a.names []/\f.IsCell c none/\⇑s+1<=c)\/(X.env.cells.lookup x∣c/\c<⇑s):=λx c e=>by
  rcases mE e with q|⟨_,q⟩
  .exact .inl %[q|nc.empty x c q]
  .let q':=h x c q;let%[v,J,M|_]:=I.cell x c q';exact .inr %[q'|Zu M]
 show%[%[I.ok.mod,S.kind,I.ok.glob,I.ok.blt,Zi _,λx y c h1 h2=>?_,λx hx=>?_,λx c hq e=>?_,I.ok.hd,I.ok.frames,.inl rfl,λb g=>%[?_|λx c e=>?_],I.bs,
  Nat.le_trans I.ok.bsz I.sz,λb u e g=>?_,λb g T=>?_,I.stack|I.stkFree],ρ,I.bare,Un.kept B,%[_,hn|λj x v e1 e2 e3=>?_],λx c e=>?_,I.hok.fresh (Zi _),λx c e=>?_,λp hp=>?_,I.hok.kept B|?_]
 .rcases o x c h1 with⟨q1,_,q2⟩|⟨q1,q2⟩<;> rcases o y c h2 with⟨r1,_,r2⟩|⟨r1,r2⟩
  .exact name_of_addr nc.apart q1 r1
  .exact absurd r2 (Nat.not_lt_of_le (Nat.le_trans (Yg _) q2))
  .exact absurd q2 (Nat.not_lt_of_le (Nat.le_trans (Yg _) r2))
  .exact I.ok.inj x y c q1 r1
 .let:(x,NameKind.free)∈a.names\/(x,NameKind.cell)∈a.names:=by
   rcases hx with q|q
   .exact mD q (.inl rfl)
   .exact mD q (.inr rfl)
  show isSome_iff_exists.mp (cellsFrom_some a.names _ _ ?_);rcases this with q|q
  .exact .inr (isSome_iff_exists.mpr (nV a.names [] q))
  .exact .inl (S.cell _ q rfl)
 .rcases mE e with q|⟨q,_⟩
  .let:=(nc.empty x c q).2;change ⇑s<=c
   lia
  .let:=cellsFrom_some a.names (⇑s+1) [] (.inl (Zo hq));rw[q]at this;cases this
 .exact Zs (L b g)
 .rcases o x c e with⟨_,_,q⟩|⟨q,_⟩
  .exact λz=>absurd (L b g) (Nat.not_lt_of_le (Nat.le_trans (Yg _) (z▸q)))
  .exact(Q b g).2.2.2.2.1 x c q
 .rcases(Q b g).2.2.2.1 with z|z
  .exact I.ok.noex b u e z
  .exact absurd (Zg (Zu e) (Nat.le_trans I.ok.bsz z)) (Xl _)
 .rcases mem_cons.mp (I.stkSub b T)with z|z
  .exact(Q b g).2.1 z
  .exact(Q b g).2.2.1 z
 ·
  let hj:∃i,n.lookup j∣i/\σ[i]?∣some v:=by
   let A:((List.range E.length).map _)[j]?∣_:=e2;rw[Zl]at A;cases hr:(List.range E.length)[j]? with
   | none=>rw[hr]at A;cases A
   | some j'=>
     rw[hr]at A;let aa:j'=j:=by
      let:=Xn hr;let%[h1|h2]:=this;simpa using h2.symm
     subst aa;let C:((n.lookup j').bind _)∣v:=Za A;cases U:n.lookup j' with
     | none=>rw[U]at C;cases C
     | some i=>
       rw[U]at C;show%[i,ρ|?_];let Y:(σ[i]?).join∣v:=C;cases T:σ[i]? with
       | none=>rw[T]at Y;cases Y
       | some w=>rw[T]at Y;let:w∣v:=Y;rw[this]
  let%[i,U|hi]:=hj;let%[y,n1,n2|n3]:=S.capt _ (mC U);let ab:=Za (n1.symm.trans e1);subst ab;let N:=S.free _ (PySem.mem_of_lookup n3) rfl;let%[m,hm|hl]:=I.loc;let%[u,r|l]:=hl i y v n2 hi (by rcases N with q|q;exact .inr (.inl q);exact .inr (.inr q));show%[u,r|.inr %[?_|?_]]
  .exact kb n3
  .rcases l with⟨k,_⟩|⟨_,c,G,hv⟩
   .rcases N with q|q
    .rw[k]at q;cases q
    .rw[k]at q;cases q
   .let%[c'|O]:=nV a.names [] (PySem.mem_of_lookup n3);let:=h y c' O;rw[G]at this;let e5:=Za this;subst e5;let%[J,M|hd]:=hv;show%[c,?_,J,B c J M|hd];change(cellsFrom _ _ _).lookup y∣c;rw[eR,List.lookup_append];cases e6:(cellsFrom _ a.names []).lookup y with
    | none=>simpa using O
    | some d=>
      let:=S.cell _ (lz (PySem.mem_of_lookup e6)) rfl;rw[n3]at this;cases this
 .rcases o x c e with⟨_,q,_⟩|⟨q,_⟩
  .exact%[none|q]
  .let%[v,J,M|hd]:=I.cell x c q;exact%[v,J,B c J M|hd]
 .rcases o x c e with⟨_,_,q⟩|⟨q,_⟩
  .exact I.hok.fresh ⋯
  .exact I.freeC x c q
 .exact absurd (show p∈([])from hp) ∅
 .change(qS E.length n σ).length= ~~~E;unfold qS;rw[Z6,Yj]
end
abbrev PTs(X:Cx)(a:List Expr)(t:TT):Prop:=
 ∀ff s (b:St) H Q,JQ X ff b H s->t b H Q->
  (X⁻¹) (forIn a true λc r=>if r=true then do let ok<-isTrue c X.env (eval c X.env);pure (ForInStep.yield ok)else pure (ForInStep.yield r)) (TP X ff b Q) X.xe s
abbrev BG:TT:=λ_ H Q=>Q true H
def Ex{X:Cx}:PTs X [] BG:=λ_ _ _ H _ I h=>wpAny_tests_nil %[H,I|h]
def Ey{X:Cx}(h:PT X c t):PTs X [c] t:=λff s a H Q I q=>wpAny_tests_one (h ff s a H Q I q)
abbrev qT(q:TI)(n:Nat)(f:List (Nat×Nat))(g:TG)(r:TT)(te:TE):TE:=λh H Q=>q h H λJ j=>∀D,j D=none->∃W:Nat->Nat->List V->St->Hp->Prop,
 (∃m,W 0 m [] (qS n f h) (JO j D (.lst [])))/\∀i m ys c d,W i m ys c d->(J.stop i d/\Q (.ref D) d)\/
  (J.go i d/\∀x l,J.yld i d x l->g x c l λa s=>r a s λb o=>if b=true then te a o λy p=>∃zs e,p D<*zs/\ ~~~zs<sizeLine/\e<m/\W (i+1) e (ys++[y]) a (JO p D (.lst (zs++[y])))
   else∃e,e<m/\W (i+1) e ys a o)
def Ez{code:Value}
 (j:∀h',h'.Ns ⇑s (λ_=>none)->(∀b u,s.heap.get? b∣u->h'.get? b∣u)->CellsOk h' (⇑s+1) (cellsFrom (⇑s+1) a.names [])->
  Q (newEnv a ⇑s d (cellsFrom (⇑s+1) a.names f) g h code (some env) c) (s>>>h')):wpAny M A (newFunctionEnv a d f [] g h code (some env) c) Q E s:=by
 show Z2 (wpAny_alloc (Z2 (wpAny_layCells _ (λname kind i=>by lia) _ _ _ _ ?_)));let ok:=cellsFrom_ok a.names (s.heap.push {cls:= .type "dict",data:= .dict #[]}) (⇑s+1) [] %[λ_ _ l=>(nomatch l)|List.Pairwise.nil] ∅;rw[Zq]at ok;rw[Zq ..];exact Z2 (Z3 (Z3 (j _ ((Heap.Ns.new s.heap _).keeps (pushCells_keeps _ _)) (λb u e=>pushCells_keeps _ _ b u (Z7 _ e)) ok)))
def qU{X:Cx}{a:Scope}(S:aA X a N' a0)(hc:X.calm=true)(hi:PI X tg iter wi)
 (hg:∀L M A,PG (b8 X a N' L M A) tg g) (ht:∀L M A,PTs (b8 X a N' L M A) a1 tc) (he:∀L M A,PE (b8 X a N' L M A) a2 te)
 (hs:∀x,foldedSetIterable iter X.env x=pure x) (I:JQ X ff σ H s) (h:qT wi N'.length a0 g tc te σ H Q)
 (a3:∀(D C:Addr) (O:Hp) (s6:Shared) (fl:Flow) (m:ZC),s6.heap.Ns C m->mY X ff O C->(∀h',SameBut C s6.heap h'->JQ X ff σ O (s6>>>h'))->Q (.ref D) O->compPost (model X.prog X.w) X.A X.xe use QQ (.ref D) C (.ok fl) s6):
 (X⁻¹) (comprehension (.ListComp a2 [%[tg,iter,a1|0]] a pos) a X.env b9 (newList []) false (eval iter X.env) use) QQ X.xe s:=by
 show wpAny_comprehension_free (use:=use) rfl hs (Ew (λy hy hk=>I.kindL (S.free y hy hk))) S.kind S.loc (thn (hi ff s σ H _ I h) λv s1 h1=>thn h1 λca l h2=>?_);let%[it,A,tn,J,H2,e,I2,T,a4,f2|R]:=h2;subst e;show wpAny_newObj_type (Ez λU Y N aa=>?_);dsimp only at Y N aa ⊢;let I3:JQ X ff σ (JO H2 ⇑l (.lst [])) {l with heap:=l.heap.push {cls:= .type "list",data:= .seq ([]:ZF).toArray}}:=I2.lnew (its:=[]) (t':=l.toks) .nil (Xg _);let hD:H2 ⇑l=none:=I2.fresh;let al:∀b∈A,b<⇑l:=λb j=>by let%[o,ho|_]:=T.obj 0 _ a4 b j;exact Zu ho
 generalize as:({l with heap:=l.heap.push {cls:= .type "list",data:= .seq ([]:ZF).toArray}}:Shared)=B at I3
 let G:B.heap=l.heap.push {cls:= .type "list",data:= .seq ([]:ZF).toArray}:=by rw[<-as]
 let a5:⇑B=⇑l+1:=by rw[G,Zq]
 let f3:∀b∈A,mY X ff (JO H2 ⇑l (.lst [])) b:=λb j=>%[(au (Zs (al b j)))▸(f2 b j).1|(f2 b j).2]
 let%[W,%[m0|w0]|a6]:=R _ hD;let ac:∀b u,B.heap.get? b∣u->U.get? b∣u:=G▸N;let I4:JQ (b8 X a N' B (JO H2 ⇑l (.lst [])) A) [] (qS N'.length a0 σ) (JO H2 ⇑l (.lst [])) {B with heap:=U,toks:=B.toks}:=I3.block S f3 (λb j=>a5▸Yo (al b j)) (G▸Y) ac (G▸aa);let a7:tn 0 U:=T.keep _ _ _ a4 λb j o e=>ac b o (G▸Z7 _ e)
 let cd:(b8 X a N' B (JO H2 ⇑l (.lst [])) A).env=compEnvC a _ ⇑B X.env:=rfl;let ag:∀{H':Hp},(∀b∈A,H' b=none)->∀b∈A,mY _ [] H' b:=λhn b j=>
  %[hn b j,(I4.ok.exf b j).1,I4.ok.exfs b j,.inl j,(I4.ok.exf b j).2|λp hp=>absurd (show p∈([]:ZE)from hp) ∅]
 let an:codeAny (model X.prog X.w) X.A (.compLoop (.ListComp a2 [%[tg,iter,a1|0]] a pos) 0 (.ref it) (.ref ⇑l) (b8 X a N' B (JO H2 ⇑l (.lst [])) A).env)
  (compPost (model X.prog X.w) X.A X.xe use QQ (.ref ⇑l) ⇑B) {B with heap:=U,toks:=B.toks}:=by
  show codeAny_loop rfl (λn s'=>∃i ys bb H',JQ _ [] bb H' s'/\tn i s'.heap/\(∀b∈A,H' b=none)/\W i n ys bb H') ?_ m0 %[0,[],_,_,I4,a7,λb j=>(f3 b j).1|w0];intro n s5 %[i,ys,ai,O,I5,bc,bf|w5];change wpAny _ X.A _ _ _ s5;show wpAny_noted ?_;rw[compTurn_list];show Z2 (wpAny_standAt (Z2 ?_));rcases a6 i n ys ai O w5 with⟨stop,q⟩|⟨go,step⟩
  .show thn (T.done (b8 X a N' B (JO H2 ⇑l (.lst [])) A) rfl rfl rfl hc i [] s5 ai O _ I5 (ag bf) bc stop) λr s6 ⟨hr,I6⟩=>?_
   subst hr;show Z3 ?_;let%[m6,bt|_]:=I6.loc;show a3 ⇑l ⇑B O s6 _ m6 bt (I2.fpOk (a5▸Yg _) I6.free) (λh' sb=>?_) q;let u6:Un (frs X.stack) A (JO H2 ⇑l (.lst [])) O B.heap s6.heap:=I6.base;let aR:∀b u,B.heap.get? b∣u->b≠⇑B:=λb u e=>Zs (Zu e)
   let u7:Un (frs X.stack) A (JO H2 ⇑l (.lst [])) O B.heap h':=%[λb u e n j hx=>(sb.2 b (aR b u e)).trans (u6.keep b u e n j hx),λb u e n j hx=>by
    let%[sl|q]:=u6.slot b u e n j hx;exact%[sl|(sb.2 b (aR b u e)).trans q],u6.free,λb u e hx=>by
    let%[o'|q]:=u6.there b u e hx;exact%[o'|(sb.2 b (aR b u e)).trans q],u6.tups,u6.frzs|u6.tbls]
   let bI:HOk X.prog X.w O h':=λb u e=>by
    let bl:∀c w,O c∣w->c≠⇑B:=λc w q z=>by
     let:O ⇑B=none:=I6.free;rw[z,this]at q;cases q
    show(I6.hok b u e).stay (λc w b0 q=>(sb.2 c ?_).trans q) (λ_ q=>q) λ_ _ q=>q
    rcases b0 with z|z
    .exact z▸bl b u e
    .exact bl c _ z
   exact I2.call' (s':=(s6>>>h')) (ch:=A) (by change s6.os=l.os;rw[I6.os,<-as];rfl) ((Un.laid (λb u e=>G▸Z7 _ e) (Zi _) hD).trans u7) bI I6.bare λb j=>%[(f2 b j).2.2.2.1,(f2 b j).2.1,(f2 b j).2.2.2.2.1|(f2 b j).2.2.2.2.2]
  .show thn (T.item (b8 X a N' B (JO H2 ⇑l (.lst [])) A) rfl rfl rfl hc i [] s5 ai O _ I5 (ag bf) bc go) λr s6 ⟨u,hr,h6⟩=>?_
   subst hr;show Z2 (thn h6 λ_ s7 ⟨x,H7,I7,r7,y7,aU,b1⟩=>?_);let ab:∀{α:Type} {t:Sem α} {Q1:α->Shared->Prop} {E2:ZD} {s':Shared},(X⁻¹) t Q1 (λ_ _=>False) s'->(X⁻¹) t Q1 E2 s':=λh=>wpAny_mono h (λ_ _ q=>q) λ_ _ f=>f.elim
   let aq:∀{E:St} {H8:Hp} {s8:Shared},JQ (b8 X a N' B (JO H2 ⇑l (.lst [])) A) ([] ++sK A s7.heap) E H8 s8->
    JQ _ [] E H8 s8/\tn (i+1) s8.heap/\∀b∈A,H8 b=none:=λ{E H8 s8} I8=>by
    show%[I8.unpinned,T.keep _ _ _ aU λb j o e=>(I8.pin (b,o) (Yx _ (Yx _ (eX j e)))).1|λb j=>?_];let%[o,e|d]:=T.obj _ _ aU b j;exact(I8.pin (b,o) (Yx _ (Yx _ (eX j e)))).2.1
   show Z2 (ab (thn (hg B _ A _ s7 ai H7 x u _ (I7.pinned (ag b1) (T.obj _ _ aU)) r7 (step x H7 y7)) λ_ s8 ⟨E,H8,I8,q8⟩=>Z2 (ab (thT (ht B _ A _ s8 E H8 _ I8 q8) λb s9 H9 I9 q9=>?_))));cases b with
   | false=>
     let%[m',hm|w9]:=(q9)
     let%[J1,J2|J3]:=aq I9;exact Z3 %[rfl,m',hm,i+1,ys,E,H9,J1,J2,J3|w9]
   | true=>
     let q9:=(q9:te E H9 λy O=>∃zs m',O ⇑l<*zs/\ ~~~zs<sizeLine/\m'<n/\W (i+1) m' (ys++[y]) E _)
     show Z2 (Z2 (ab (thP (he B _ A _ s9 E H9 _ I9 q9) λu2 b2 y bm b3 b4 ⟨zs,m',hz,hl,hm,b5⟩=>Z2 (ab (thP (qN _ b2 E bm (.ref ⇑l) [y] (.ref ⇑l) [u2] (λv H'=>v= .non/\H'=JO bm ⇑l (.lst (zs++[y]))) b3 rfl (.cons b4 .nil) %[_,rfl,_,hz,hl,rfl|rfl]) λu3 cl v3 co b6 cs ⟨ct,b7⟩=>?_)))));subst b7;let%[J1,J2|J3]:=aq b6;exact Z3 (Z3 %[rfl,m',hm,i+1,ys++[y],E,_,J1,J2,J3|b5])
 subst as;exact(codeAny_compStart_list an (T.self _ 0 _ _ _ a7 an))
def EA{X:Cx}(S:aA X a e f)(n:X.calm=true)(hi:PI X l iter o)
 (p:∀b c d,PG (b8 X a e b c d) l g) (r:∀b c d,PTs (b8 X a e b c d) i u) (v:∀b c d,PE (b8 X a e b c d) j te)
 (w:∀x,foldedSetIterable iter X.env x=pure x):
 PE X (.ListComp j [%[l,iter,i|0]] a pos) (qT o e.length f g u te):=by
 intro ff s B H Q I h;exact qU S n hi p r v w I h λD C y E G m z _ k q=>%[m,z|λh' A=>%[.ref D,y,k h' A,rfl|q]]
abbrev Its(z:Str):It:=⟨λi _=>i<z.cps.size,λi H x a=>a=H/\∃c,z.cps[i]?∣c/\x= .str ⟨#[c]⟩,λi _=>z.cps.size<=i⟩
def xj{P:Program}{K:ZA}(it:Addr)(z:Str)(t:Tok):pZ P w K tg (Its z) [it] it (λi h=>h.IsStrIter it "str_ascii_iterator" z t i) where
 mem:=by simp
 obj:=λi h st b hb=>by
  let e:=↑hb
  subst e;let%[o,e,c|d]:=st;exact%[o,e|λv z=>by lia]
 keep:=λi h h' st k=>by
  let%[o,e|r]:=st;exact%[o,k it ∅ o e|r]
 item:=by
  intro X hP hw hK hc i ff s σ H E I hf st hg;let hlt:i<z.cps.size:=hg;let%[f0,f1,f2,f3,f4|f5]:=hf it ∅;show wpAny_pyNext_ascii_item st (c:=z.cps[i]) ∅ λh' st' sb=>?_
  let%[o,e,c|d]:=id st';exact%[_,ρ|qB e c d (!1) %[.str _,H,(I.turned (λb o hb e=>(sb.2 b hb).trans e) f0 f1 f3 f4 f5),%[_|ρ],%[ρ,_,by simp|ρ],st'|λb hb=>(hf b hb).1]]
 done:=by
  intro X hP hw hK hc i ff s σ H E I hf st hg;let hle:z.cps.size<=i:=hg;let%[f0,f1,f2,f3,f4|f5]:=hf it ∅;exact wpAny_pyNext_ascii_end (I.ok.hd hc) st (by simp[hle]) λh' eb=>%[rfl|I.turned (λb o hb e=>eb b o hb e) f0 f1 f3 f4 f5]
 self:=λ_ _ _ _ _ st h=>wpAny_pyIter_striter_ascii st h
def zU{P:Program}{K:ZA}(it:Addr)(z:Str)(t:Tok):pZ P w K tg (Its z) [it] it (λi h=>h.IsStrIter it "str_iterator" z t i) where
 mem:=by simp
 obj:=λi h st b hb=>by
  let e:=↑hb
  subst e;let%[o,e,c|d]:=st;exact%[o,e|λv z=>by rw[d]at z;cases z]
 keep:=λi h h' st k=>by
  let%[o,e|r]:=st;exact%[o,k it ∅ o e|r]
 item:=by
  intro X hP hw hK hc i ff s σ H E I hf st hg;let hlt:i<z.cps.size:=hg;let%[f0,f1,f2,f3,f4|f5]:=hf it ∅;show wpAny_pyNext_wide_item st (c:=z.cps[i]) ∅ λh' st' sb=>?_
  let%[o,e,c|d]:=id st';exact%[_,ρ|qB e c d (!1) %[.str _,H,(I.turned (λb o hb e=>(sb.2 b hb).trans e) f0 f1 f3 f4 f5),%[_|ρ],%[ρ,_,by simp|ρ],st'|λb hb=>(hf b hb).1]]
 done:=by
  intro X hP hw hK hc i ff s σ H E I hf st hg;let hle:z.cps.size<=i:=hg;let%[f0,f1,f2,f3,f4|f5]:=hf it ∅;exact wpAny_pyNext_wide_end (I.ok.hd hc) st (by simp[hle]) λh' eb=>%[rfl|I.turned (λb o hb e=>eb b o hb e) f0 f1 f3 f4 f5]
 self:=λ_ _ _ _ _ st h=>wpAny_pyIter_striter_wide st h
abbrev CK(D:Addr)(n i:Nat)(Pv:Nat->List V->St->Hp->Prop)(ys:List V)(b:St)(y:V)(H:Hp):Prop:=
 ∃zs a,H D<*zs/\ ~~~zs<sizeLine/\a<n-i/\(a=n-(i+1)/\i+1<=n/\Pv (i+1) (ys++[y]) b (JO H D (.lst (zs++[y]))))
abbrev CN(n i:Nat)(Pv:Nat->List V->St->Hp->Prop)(ys:List V)(b:St)(H:Hp):Prop:=∃a,a<n-i/\(a=n-(i+1)/\i+1<=n/\Pv (i+1) ys b H)
def CK.mk{Pv:Nat->List V->St->Hp->Prop}(hi:i<n)(a:H D<*zs)(b: ~~~zs<sizeLine)(p:Pv (i+1) (ys++[y]) c (JO H D (.lst (zs++[y])))):CK D n i Pv ys c y H:=
 %[zs,n-(i+1),a,b,⋯,rfl,hi|p]
def CN.mk{Pv:Nat->List V->St->Hp->Prop}(hi:i<n)(p:Pv (i+1) ys a H):CN n i Pv ys a H:=%[n-(i+1),⋯,rfl,hi|p]
def cZ{J:It}{g:TG}{v:TT}{te:TE}{w:Hp->Prop}(Pv:Nat->List V->St->Hp->Prop)(z:Pv 0 [] c H)(s:∀i ys c H,i<n->Pv i ys c H->J.go i H)(d:∀ys c H,Pv n ys c H->J.stop n H)
 (A:∀i ys c H,i<n->Pv i ys c H->∀x f,J.yld i H x f->g x c f λa u=>v a u λb h=>if b=true then te a h λy r=>CK D n i Pv ys a y r else CN n i Pv ys a h) (B:∀ys c H,Pv n ys c H->w H):
 ∃W:Nat->Nat->List V->St->Hp->Prop,(∃m,W 0 m [] c H)/\∀i m ys j l,W i m ys j l->(J.stop i l/\w l)\/
  (J.go i l/\∀x f,J.yld i l x f->g x j f λa u=>v a u λb h=>if b=true then te a h λy r=>∃zs o,r D<*zs/\ ~~~zs<sizeLine/\o<m/\W (i+1) o (ys++[y]) a (JO r D (.lst (zs++[y])))
   else∃o,o<m/\W (i+1) o ys a h):=by
 show%[λi m ys c H=>m=n-i/\i<=n/\Pv i ys c H,%[n,by simp,Xg _|z]|?_];intro i m ys c H %[rfl,hi|p];by_cases q:i<n
 .exact .inr %[s i ys c H q p|λx f y=>A i ys c H q p x f y]
 .let e:i=n:=by lia
  subst e;exact .inl %[d ys c H p|B ys c H p]
def sW:∀{bs:List Bool} {us:ZF} {i:Nat} {v:Value},aD (bs.map V.bl) us->us[i]?∣v->∃b,bs[i]?∣b/\v= .bool b
 |[],_,_,_,r,e=>by cases r;simp at e
 | b::bs,_,i,v,r,e=>by
   cases r with
   | cons a c=>
     cases(a);cases i with
     | zero=>simp at e;exact%[b,ρ|e.symm]
     | succ i=>
       let%[d,f|g]:=sW c (e);exact%[d,f|g]
def nW(bs:List Bool):(List.range bs.length).all (λi=>bs.getD i false)=bs.all id:=by
 let e:(List.range bs.length).map (λi=>bs.getD i false)=bs:=by
  apply ext_getElem
  .simp
  .intro i a b
   simp_all
 let:(List.range bs.length).all (λi=>bs.getD i false)=((List.range bs.length).map λi=>bs.getD i false).all id:=by rw[all_map];rfl
 rw[this,e]
def BH{X:Cx}(g:X.calm=true):bZ X (.builtin "all") (λxs H Q=>∃(p:Addr) (bs:List Bool),xs=[.ref p]/\JP X.K H p (bs.map V.bl)/\Q (.bl (bs.all id)) H):=by
 intro ff s A H xs us Q I r h;let%[p,bs,rfl,j|q]:=h;let%[u,rfl|l]:=cU r;cases l;let%[its,d,pl|B]:=I.list j;let m:X.A.in1.handled=none:=I.ok.hd g;let a: ~~~bs=its.toArray.size:=by rw[Zp,<-d.length,Z6]
 show call_all_walk (wpAny_pyIter_list pl.isList %[⇑s,[⇑s,p],[⇑s],its.toArray.size,_,_,λi=>bs.getD i false,rfl,Walks.list m _ p (Zs (by let%[o,n|_]:=pl.isList;exact Zu n)) its.toArray,%[%[_,Zj _ rfl,rfl|rfl]|pl.isList.push _],?_|?_])
 .intro i v s' w C y c;let%[b,f|rfl]:=sW d ↑y;let e:bs.getD i false=b:=!2
  let c:w (bs.getD i false) s':=c;rw[e]at c;exact wpAny_truthy_bool c
 .intro h' tk z;rw[<-a,nW];show%[.bl _,H,I.kept λb o e=>z b o ?_ (Z7 _ e),ρ|q];let:=Zu e;intro f;exact absurd (Xp f) (Zs this)
abbrev GN:V->Option Int->Option Int->Hp->VK->Prop:=λx lo hi H Q=>∃z,x= .str z/\ ~~~z<=sizeLine/\Q (.str (Txt.slice z lo hi)) H
def GO{X:Cx}:SlR X GN:=by
 intro ff s m H x v n o lo hi p Q I f b pl d h;let%[z,rfl,g|q]:=h;let%[t|rfl]:=f;show%["str",_,F.slot_str_getitem.lookup,typeIs_str _ _ _|?_];let a:∀l u,~~~(Txt.slice z l u)<=sizeLine:=λl u=>Nat.le_trans (Txt.slice_le z _ _) g
 cases pl with
 | none=>
   cases d with
   | none=>exact wpAny_getItem_str_slice (l:=none) (u:=none) (st:=none) b rfl (post_val_or_str %[a _ _|λt' k=>%[.str (Txt.slice z _ _),H,I.tok k,%[_|rfl]|q]])
   | int j c=>exact wpAny_getItem_str_slice (l:=none) (u:=some (j,c)) (st:=none) b rfl (post_val_or_str %[a _ _|λt' k=>%[.str (Txt.slice z _ _),H,I.tok k,%[_|rfl]|q]])
 | int i e=>
   cases d with
   | none=>exact wpAny_getItem_str_slice (l:=some (i,e)) (u:=none) (st:=none) b rfl (post_val_or_str %[a _ _|λt' k=>%[.str (Txt.slice z _ _),H,I.tok k,%[_|rfl]|q]])
   | int j c=>exact wpAny_getItem_str_slice (l:=some (i,e)) (u:=some (j,c)) (st:=none) b rfl (post_val_or_str %[a _ _|λt' k=>%[.str (Txt.slice z _ _),H,I.tok k,%[_|rfl]|q]])
def gM:∀{ss:ZB} {us:ZF},aD (ss\3) us->StrsAre us ss
 |[],_,r=>by cases r;exact .nil
 | x::ss,_,r=>by
   cases r with
   | cons a b=>
     let%[t|e]:=a;subst e;exact .cons x t (gM b)
def qV:∀{ss:ZB} {us:ZF},StrsAre us ss->aD (ss\3) us
 | _,_,.nil=> .nil
 | _,_,.cons x t h=> .cons %[t|rfl] (qV h)
abbrev yK(K:ZA):V->List V->Hp->VK->Prop:=λx vs H Q=>∃z l ss,x= .str z/\vs=[.ref l]/\JP K H l (ss\3)/\(ss.map (·.length)).sum+ ~~~ss* ~~~z<=16777216/\Q (.str (Txt.join z ss)) H
def EB{X:Cx}:MtM X "str.join" (yK X.K):=by
 intro ff s e H x vs v us Q I a b h;let%[z,l,ss,rfl,rfl,c,hw|q]:=h;let%[t|rfl]:=a;let%[u,rfl|d]:=b.one;cases d;let%[its,r,pl|f]:=I.list c;exact PyProof.Rows.join_list pl.isList (gM r) hw λt' k=>%[.str _,H,I.tok k,%[_|rfl]|q]
def BI{X:Cx}:bZ X (.builtin "isinstance") (λxs H Q=>∃x n t b,xs=[x,.ty n]/\jL X.K H x t/\kitOne X.K t (.type n)∣b/\Q (.bl b) H):=by
 intro ff s d H xs us Q I r h;let%[x,n,t,b,rfl,ty,e|q]:=h;let%[u,f,rfl,c|a]:=iu r;cases(a);exact zJ I c ty e λtk=>%[.bl b,H,I.tok tk,rfl|q]
def qW(z:Str)(c i:Nat):Builtin.Str.subAt z ⟨#[c]⟩ i=decide (z.cps[i]?∣c):=by
 unfold Builtin.Str.subAt;let b: ~~~(⟨#[c]⟩:Str)=1:=rfl;rw[b];by_cases hi:i<z.cps.size
 .let e:z.cps.extract i (i+1)= #[z.cps[i]]:=by
   apply Array.ext
   .simp;lia
   .intro j d a;simp at a;subst a;simp
  rw[e,Array.getElem?_eq_getElem hi];by_cases f:z.cps[i]=c
  .subst f;simp
  simp_all
 .let e:z.cps.extract i (i+1)= #[]:=by
   apply Array.ext
   .simp;lia
   .intro j d a;simp at a
  rw[e,Array.getElem?_eq_none ⋯];simp
def BJ(z:Str)(c:Nat):(!(Builtin.Str.occurrences z ⟨#[c]⟩ 0 z.length 1).isEmpty)=decide (c∈z.cps.toList):=by
 rcases StrLaws.occ_head z _ 1 (Zi _)with⟨e,d⟩|⟨i,r,e,f,_⟩
 .rw[e];show(Zh λg=>?_).symm;let%[j,h|l]:=List.mem_iff_getElem.mp g;let a:=↑h
  show d j %[?_|?_]
  .change j+1<=z.cps.size;lia
  .rw[qW];exact Zf (by rw[Array.getElem?_eq_getElem a];simpa using l)
 .rw[e];show(Zf ?_).symm;let b:=f.2;rw[qW]at b;let:=Array.mem_of_getElem? (Zo b);simpa using this
section
variable{X:Cx}
nonrec abbrev FG:R2:=λx y H Q=>∃i j,x= .str i/\y= .str j/\ ~~~i+ ~~~j<=sizeLine/\Q (.str (i++j)) H
nonrec abbrev BK:R2:=λx y H Q=>rI Bg (λi j=> .int (i*j)) x y H Q\/GI x y H Q
def EC:OpR X (binaryOp .Mult) BK:=Bh.or GJ
nonrec abbrev GP:R2:=rEq
def GQ:OpR X (compareOp .Eq) GP:=IM
nonrec abbrev GR:R2:=rNe
def GS:OpR X (compareOp .NotEq) GR:=FB
nonrec abbrev IT:R2:=λx y H Q=>∃i j,x= .str i/\y= .str j/\Q (.bl (!(Builtin.Str.occurrences j i 0 j.length 1).isEmpty)) H
nonrec abbrev BL(K:ZA):R2:=λx y H Q=>IT x y H Q\/rIn K false x y H Q
def GT:OpR X (compareOp .In) (BL X.K):=zF.or zN
def ED:Ga X yJ:=Bu
abbrev EE(K:ZA)(c:TE):TI:=λd H R=>c d H λx b=>(∃a,x= .ref a/\(∃xs,JP K b a xs)/\R (Itl K a) b)\/(∃a,x= .ref a/\(∃xs,SqT K b a xs)/\R (Itt K a) b)\/∃z,x= .str z/\R (Its z) b
def GU(n:PE X l r):PI X C l (EE X.K r):=by
 intro ff s u H R I h;show thP (n ff s u H _ I h) λv d x g f i w=>?_
 let c:∀b∈[⇑d],mY X ff g b:=λb y=>by
  let e:b=⇑d:=↑y
  subst e;exact f.fpOk (Zi _) (f.hok.fresh (Zi _))
 rcases w with⟨a,e,⟨xs,j⟩,q⟩|⟨a,e,⟨xs,j⟩,q⟩|⟨z,e,q⟩
 .subst e;cases i;let%[its,A,p|B]:=f.list j;exact wpAny_pyIter_list p.isList %[⇑d,[⇑d],_,_,g,rfl,f.kept (t':=d.toks) λb o e=>Z7 _ e,qC a _,%[_,Zj _ rfl,rfl|rfl],c|q]
 .subst e;cases i;let%[its,A,p|B]:=f.tuple j;exact wpAny_pyIter_tuple (p) %[⇑d,[⇑d],_,_,g,rfl,f.kept λb o e=>Z7 _ e,wP a _,%[_,Zj _ rfl,rfl|rfl],c|q]
 .subst e;let%[t|rfl]:=i;cases m:z.cps.all _ with
  | true=>
    exact wpAny_pyIter_ascii m %[⇑d,[⇑d],_,_,g,rfl,f.kept λb o e=>Z7 _ e,xj _ z t,%[_,Zj _ rfl,rfl|rfl],c|q]
  | false=>
    exact wpAny_pyIter_wide m %[⇑d,[⇑d],_,_,g,rfl,f.kept λb o e=>Z7 _ e,zU _ z t,%[_,Zj _ rfl,rfl|rfl],c|q]
end
abbrev bx(c:Scope)(N:ZB)(a:Scope)(d:ZB)(b:List (Nat×Nat)):Bool:=
 decide (a.kind= .function)&&a.names.all (λy=>(decide (y.2≠ .cell)||decide (a.names.lookup y.1∣.cell))&&(decide (y.2≠ .local)||decide (a.names.lookup y.1∣.local))&&(decide (y.2≠ .free)||decide (c.names.lookup y.1∣.cell)||decide (c.names.lookup y.1∣.free)))&&
  b.all λp=>match d[p.1]? with
   | some x=>decide (N[p.2]?∣x)&&decide (a.names.lookup x∣.free)
   | none=>false
def aA.of{X:Cx}(h:bx X.env.scope X.N a g c=true):aA X a g c:=by
 unfold bx at h;rw[Zv,Zv,all_eq_true,all_eq_true]at h;let%[%[i|d]|j]:=h;show%[Zo i,λy b f=>?_,λy b f=>?_,λy b l=>?_|λp m=>?_]
 .let:=d y b;simp only[Zv,or_eq_true,decide_eq_true_eq]at this;exact this.1.1.resolve_left λq=>q f
 .let:=d y b;simp only[Zv,or_eq_true,decide_eq_true_eq]at this;exact this.1.2.resolve_left λq=>q f
 .let:=d y b;simp only[Zv,or_eq_true,decide_eq_true_eq]at this;rcases this.2 with(q|q)|q
  .exact absurd l q
  .exact .inl q
  .exact .inr q
 .let:=j p m;cases e:g[p.1]? with
  | none=>simp_all
  | some x=>
    rw[e]at this;simp only[Zv,decide_eq_true_eq]at this;exact%[x,ρ,this.1|this.2]
structure Gv (mg:ZC) (x:Str) (v:V):Prop where
 ex:∃u,mg x∣u/\aJ v u
def FH{X:Cx}(g:Gv X.mg x v)(a:Gl X x)(b:(x==("__debug__":Str))=false):PE X (.Name x pos) (tC v):=by
 let%[u,h|r]:=g.ex;exact DL a h r b
structure Cal (P:Program) (w:World) (K:ZA) (mg:ZC) (base:Heap) (k:Nat) (x:Str) (ps:ZB) (sp:Sp):Prop where
 ex:∃f fd,d9 P w K mg base CX0 k f fd ps sp/\mg x∣.ref f/\keepIn K (.ref f)=true/\dH K fd ps []
structure aN (K:ZA) (mg:ZC) (x:Str) (st:Stmt) (ps:ZB):Prop where
 ex:∃f fd,Fun K x x st f fd/\mg x∣.ref f/\dH K fd ps []
def aN.cal{P:Program}{K:ZA}{st:Stmt}(D:aN K mg x st ps)(S:ax N ps (ao st))
 (a:∀(H:Hp) (vs:List V) (Q:VK) (E:XK),sp vs H Q E-> ~~~vs= ~~~ps/\∀(f:Addr) (b:Value) (A:Around) (outer:List Env) (s:Shared),bM k (A.deeper (envOfC x (ao st) ⇑s f b))->
  ∃t,PSs (eY CX0 P w K mg base N x (ao st) f b A outer s H E).nox (bL st) t/\t {nx:=λ_ c=>Q .non c,rt:=Q} (start N vs) H):Cal P w K mg base (k+1) x ps sp:=by
 let%[f,d,F,e|g]:=D.ex;exact%[f,d,F.ok S (λv H Q E h=>(a H v Q E h).1) (λb A o s H v Q E r h=>(a H v Q E h).2 f b A o s r),e,F.kp|g]
def GV{X:Cx}(C:Cal X.prog X.w X.K X.mg X.base j x ps sp)(g:bM k X.A)(h:Gl X x)(i:gK CX0 X E0)(l:PA X (e::a) t)(b:j<=k)
 (c:(x==("__debug__":Str))=false) (m:starEach (e::a) X.env=(false,eval e X.env)::starEach a X.env) (d:(backTo pos (starEach a X.env)).any (·.1)=false):
 PE X (.Call (.Name x p) (e::a) [] pos) (qG sp [] E0 t):=by
 let%[f,r,F,n,o|q]:=C.ex;exact yG F (g.mono b) h n o q .nil i l c m d
def GW{K:ZA}{h:Heap}{st:Stmt}{kV e g d ct:Value}(X:K.In h)(G:h.Ns mainGlobals mg)
 (a:nsIn K mainGlobals x∣some (.ref f)) (l:K.lookup f=some %[m,od,.func (fnOf x x (cY st) (bL st) (ao st) .none kV e g i d ct)|j]) (c:codeIn K d x=true) (k:keepIn K (.ref f)=true)
 (b:∀(kV e g:Value) (i:ZI) (d ct:Value) (us:ZF),~~~us= ~~~ps->bindArgs (fnOf x x (cY st) (bL st) (ao st) .none kV e g i d ct) %[us|[]]=pure (ps.zip us)):aN K mg x st ps:=
 %[f,_,dS l c k,mg_of X G a|(dS l c k).binds b]
def IU{K:ZA}{h:Heap}(X:K.In h)(G:h.Ns mainGlobals mg)(a:nsIn K mainGlobals x∣some u)(r:aJ v u):Gv mg x v:=%[u,mg_of X G a|r]
def ay(h:∀a:It->Hp->Prop,(∀J f,(∃W:Nat->Nat->St->Hp->Prop,(∃m,W 0 m b f)/\∀i m b H,W i m b H->
 (J.stop i H/\D.nx b H)\/(J.go i H/\∃N:St->Hp->Prop,(∀c d,N c d->∃j,j<m/\W (i+1) j c d)/\∀x d,J.yld i H x d->g x b d λe l=>n {D with nx:=N,ct:=N,bk:=D.nx} e l))->a J f)->o b H a):wR o g n D b H:=h _ λ_ _ x=>x
def aF(h:∀c:It->Hp->Prop,(∀J j,(∀D,j D=none->∃W:Nat->Nat->List V->St->Hp->Prop,
 (∃m,W 0 m [] (qS n l o) (JO j D (.lst [])))/\∀i m ys d e,W i m ys d e->(J.stop i e/\Q (.ref D) e)\/
  (J.go i e/\∀x p,J.yld i e x p->g x d p λa s=>u a s λb q=>if b=true then te a q λy r=>∃zs f,r D<*zs/\ ~~~zs<sizeLine/\f<m/\W (i+1) f (ys++[y]) a (JO r D (.lst (zs++[y])))
   else∃f,f<m/\W (i+1) f ys a q))->c J j)->v o H c):qT v n l g u te o H Q:=h _ λ_ _ x=>x
section
variable{X:Cx}{K:ZA}
def GX(h:X.K=K):OpR X (compareOp .In) (BL K):=by subst h;exact GT
def zV(h:X.K=K):bZ X (.builtin "len") (λxs H Q=>∃x n,xs=[x]/\DZ K x H n/\Q (.int n) H):=by subst h;exact Bm
def zW(h:X.K=K)(a:X.calm=true):bZ X (.builtin "all") (λxs H Q=>∃(p:Addr) (bs:List Bool),xs=[.ref p]/\JP K H p (bs.map V.bl)/\Q (.bl (bs.all id)) H):=by subst h;exact BH a
def zX(h:X.K=K):bZ X (.builtin "isinstance") (λxs H Q=>∃x n t b,xs=[x,.ty n]/\jL K H x t/\kitOne K t (.type n)∣b/\Q (.bl b) H):=by subst h;exact BI
def xk(h:X.K=K):bZ X (.type "list") (λxs H Q=>∃p ys,xs=[.ref p]/\(JP K H p ys\/SqT K H p ys)/\∀l,H l=none->Q (.ref l) (JO H l (.lst ys))):=by subst h;exact sS
def BM(h:X.K=K):MtR X "str.join" (yK K):=by subst h;exact EB
def zY(h:X.K=K)(d:PE X a e)(f:∀b,isTrue a X.env b=(do let v<-b;standAt a.pos;holding [v] (truthy v))):PT X a (λg H Q=>e g H λx c=>∃k,Bk K x c k/\Q k c):=by subst h;exact Bl d f
def EF(h:X.K=K)(a:PE X l b):PI X c l (EE K b):=by subst h;exact GU a
variable{o e:Expr}{es:List Expr}{to:TE}{t:TA}{name:Str}{apos cpos:Pos}{T id:String}{r:V->List V->Hp->VK->Prop}
def EG(h:X.K=K)(d:PlainAttrs T)(slot:Slot T name id)(c:typeOf (.builtin id)=pure (.type "method_descriptor"))(f:MtR X id r)(g:PE X o to)
 (a:attributeBase o name X.env (eval o X.env)=eval o X.env) (b:(apos.endLine==cpos.line)=true):PE X (.Call (.Attribute o name apos) [] [] cpos) (El K T r to):=by
 subst h;exact GG d slot c f g a b
def BN(h:X.K=K)(g:PlainAttrs T)(slot:Slot T name id)(f:typeOf (.builtin id)=pure (.type "method_descriptor"))(i:MtR X id r)(j:PE X o to)(l:PA X (e::es) t)
 (b:attributeBase o name X.env (eval o X.env)=eval o X.env)
 (d:((backTo cpos (starEach (e::es) X.env)).all (λx=>!x.1)&&(backToKw cpos (keywordEach [] X.env)).all (λx=>x.1.isSome)
  && decide (~~~(e::es)+ ~~~([]:List Keyword)+(if([]:List Keyword).isEmpty then 0 else 1)<30))=true)
 (c:(apos.endLine==cpos.line)=true) (m:starEach (e::es) X.env=(false,eval e X.env)::starEach es X.env) (a:(backTo cpos (starEach es X.env)).any (·.1)=false):
 PE X (.Call (.Attribute o name apos) (e::es) [] cpos) (tBM K T r to t):=by
 subst h;exact IS g slot f i j l b d c m a
end
section
variable{X:Cx}{ff:ZE}{σ:St}{H:Hp}{s s':Shared}{h':Heap}{tk:Nat}{fp:List Addr}
def JQ.moved(I:JQ X ff σ H s)(c:∀b∈fp,mY X ff H b)(d:∀b o,b∉fp->s.heap.get? b∣o->h'.get? b∣o):JQ X ff σ H {s with heap:=h',toks:=tk}:=by
 let f:∀b v,H b∣v->b∉fp:=λb v e a=>by rw[(c b a).1]at e;cases e
 show I.step (λb a=>%[(c b a).2.2.2.1,(c b a).2.1,(c b a).2.2.2.2.1|(c b a).2.2.2.2.2]) (λb o _ _ g e _=>d b o g e) (λb o _ _ g e _=>%[o.slots|d b o g e]) (λ_ _ _ _ n=>n)
  (λb o g e=>%[o|d b o g e]) (λ_ _ e=>e) (λ_ _ _ e=>e) (λb ps e=>%[#[]|by rw[e];simp]) (λm l=>?_) (λb v e=>?_) I.bare
 .let%[o,p,u,w|r]:=l;exact%[o,p,u,d _ o (λa=>(c _ a).2.1 rfl) w|r]
 .show(I.hok b v e).stay (λj y h q=>d j y ?_ q) (λ_ q=>q) λ_ _ q=>q
  rcases h with i|i
  .exact i▸f b v e
  .exact f j _ i
def JQ.stood3(I:JQ X c y B s)(g:∀p∈ff,p∈c)(J:JQ X ff σ H s')(d:H a=none)(C:s.heap.get? a=none)(new:cp X.prog X.w (JO H a o) s'.heap a o):JQ X ff σ (JO H a o) s':=by
 let ne:∀{b:Addr} {o:Obj},s.heap.get? b∣o->b≠a:=λe z=>by lia
 show%[J.ok,J.os,J.bare,?_,J.loc,J.cell,?_,?_,?_,?_|J.len]
 .show%[J.base.keep,J.base.slot,λb o e n j=>?_,J.base.there,λb xs e=>?_,λb o v e=>?_|λb ps e=>?_]
  .let%[E|A]:=I.base.there b o e j;rw[au (ne A)];exact J.base.free b o e n j
  .rw[au (aE (J.base.tups b xs e) d)];exact J.base.tups b xs e
  .rw[au (aE (J.base.frzs b o v e) d)];exact J.base.frzs b o v e
  .let%[m|q]:=J.base.tbls b ps e;exact%[m|(au (aE q d))▸q]
 .let%[m,%[G,_,_,h|_]|_]:=I.loc;rw[au (ne h)];exact J.free
 .intro l f e;let%[L,M,i|_]:=I.cell l f e;rw[au (ne i)];exact J.freeC l f e
 .intro p u;let%[e,n|r]:=J.pin p u;show%[e,?_|r];let:=(I.pin p ((Xo u).elim (λz=>Yw _ z) λz=>Yx _ (g p z))).1;rw[au (ne this)];exact n
 .intro b v e;by_cases w:b=a
  .subst w;rw[ae]at e;cases e;exact new
  .rw[au w]at e;show(J.hok b v e).stay (λ_ _ _ q=>q) (λf q=>?_) λf xs q=>?_
   .rw[au (aE q d)];exact q
   .rw[au (aE q d)];exact q
def JQ.stood2(I:JQ X ff σ d s)(J:JQ X ff σ H s')(b:H a=none)(c:⇑s<=a)(new:cp X.prog X.w (JO H a o) s'.heap a o):JQ X ff σ (JO H a o) s':=
 I.stood3 (λ_ h=>h) J b (by
  cases e:s.heap.get? a with
  | none=>rfl
  | some o=>exact absurd (Zu e) (Nat.not_lt.mpr c)) new
def JQ.stoodS(I:JQ X ff σ H s)(J:JQ X ff σ H s')(b:⇑s<=a)(new:cp X.prog X.w (JO H a o) s'.heap a o):JQ X ff σ (JO H a o) s':=I.stood2 J (I.hok.fresh b) b new
def JQ.stood(I:JQ X ff σ H s)(J:JQ X ff σ H {s with heap:=h',toks:=tk})(b:⇑s<=a)(new:cp X.prog X.w (JO H a o) h' a o):JQ X ff σ (JO H a o) {s with heap:=h',toks:=tk}:=I.stoodS J b new
end
structure xn (z TI TO i1 i2:Addr):Prop where
 TIz:TI≠z
 TOz:TO≠z
 i1z:i1≠z
 i2z:i2≠z
 TITO:TI≠TO
 TIi1:TI≠i1
 TIi2:TI≠i2
 TOi1:TO≠i1
 TOi2:TO≠i2
 i12:i1≠i2
section
#where
variable{z TI TO i1 i2:Addr}{fp1 fp2:List Addr}{n1 n2 i:Nat}{P1 P2:Nat->Value->Prop}{St1 St2:Nat->Heap->Prop}
def BO{Q:ZD}(D1:Draws prog w A i1 fp1 n1 P1 St1)(D2:Draws prog w A i2 fp2 n2 P2 St2)(D:xn z TI TO i1 i2)(T:∀b∈fp1,b≠z/\b≠TO/\b≠i2)(m2:∀b∈fp2,b≠z/\b≠TO/\b≠i1)
 (U:IsZip s.heap z TI TO .none) (ac:IsPair s.heap TI (.ref i1) (.ref i2)) (ag:IsPair s.heap TO a b) (h1:St1 i s.heap) (h2:St2 i s.heap) (l1:i<n1) (l2:i<n2)
 (hQ:∀x y h' tk,P1 i x->P2 i y->IsZip h' z TI TO (rawInt ⇑s)->IsPair h' TO x y->St1 (i+1) h'->St2 (i+1) h'->IsPair h' ⇑s x y->
  (∀c o,c≠z->c≠TO->c≠i1->c≠i2->s.heap.get? c∣o->h'.get? c∣o)->Q (.ref ⇑s) {s with heap:=h',toks:=tk}):
 ↥A (Builtin.«zip.__next__» %[[.ref z]|[]]) (λai s'=>∃v,ai= .done (.ret v)/\Q v s') E s:=by
 let r:∀{k h h' c},(∀b∈fp1,b≠c)->SameBut c h h'->St1 k h->St1 k h':=λhc sb st=>D1.frame _ _ _ st λb d o e=>(sb.2 b (hc b d)).trans e
 let u:∀{k h h' c},(∀b∈fp2,b≠c)->SameBut c h h'->St2 k h->St2 k h':=λhc sb st=>D2.frame _ _ _ st λb d o e=>(sb.2 b (hc b d)).trans e
 change wpAny _ _ (field (.ref z) 2>>= _) _ _ _;show Z2 (wpAny_field U rfl (x:= .bool false) rfl ?_);change wpAny _ _ (field (.ref z) 3>>= _) _ _ _;show Z2 (wpAny_field U rfl (x:= .ref TI) rfl (Z2 (wpAny_seqItems ac rfl ?_)));change wpAny _ _ (Builtin.SmallTypes.ownedTupleIsFree (.ref z)>>= _) _ _ _;show Z2 ?_;unfold Builtin.SmallTypes.ownedTupleIsFree;show Z2 (wpAny_field U rfl (x:= .none) rfl (Z3 ?_));simp only[if_true];show Z2 (wpAny_rule (Z2 (wpAny_field U rfl (x:= .ref TO) rfl (Z2 (wpAny_setField_rec U ∅ λg1 M n=>?_)))));replace M:IsZip g1 z TI TO .ellipsis:=M;show Z2 ?_;simp only[List.zipIdx_cons,List.zipIdx_nil,forIn_cons,List.forIn_nil];show Z2 (Z2 (wpAny_onRaise ?_));change wpAny _ _ (Builtin.SmallTypes.nextOf (.ref i1)>>= _) _ _ _;show Z2 (D1.item i _ _ _ l1 (r (λb d=>(T b d).1) n h1) λx g2 al px an f=>Z3 ?_);replace f:SameBut i1 g1 g2:=f;let I:IsPair g2 TO a b:=(f.2 _ D.TOi1).trans ((n.2 _ D.TOz).trans ag);show Z2 (wpAny_seqItems I rfl (Z2 (wpAny_updateSeq_pair (s:={s with heap:=g2,toks:=al}) I λg3 p g=>?_)));replace p:IsPair g3 TO x b:=p;replace g:SameBut TO g2 g3:=g;show Z2 (wpAny_letGo (Z3 (Z2 (Z2 (wpAny_onRaise ?_)))));change wpAny _ _ (Builtin.SmallTypes.nextOf (.ref i2)>>= _) _ _ _;show Z2 (D2.item i _ _ _ l2 (u (λb d=>(m2 b d).2.1) g (u (λb d=>(m2 b d).2.2) f (u (λb d=>(m2 b d).1) n h2))) λy g4 B py aq j=>Z3 ?_);replace j:SameBut i2 g3 g4:=j;let J:IsPair g4 TO x b:=(j.2 _ D.TOi2).trans p;show Z2 (wpAny_seqItems J rfl (Z2 (wpAny_updateSeq_pair (s:={s with heap:=g4,toks:=B}) J λq m l=>?_)));replace m:IsPair q TO x y:=m;replace l:SameBut TO g4 q:=l;show Z2 (wpAny_letGo (Z3 (Z3 (Z2 (wpAny_seqItems m rfl (Z2 (wpAny_newTuple ?_)))))));let Y:q.objs.size=⇑s:=by rw[l.1,j.1,g.1,f.1,n.1]
 let aa:IsZip q z TI TO .ellipsis:=(l.2 _ D.TOz.symm).trans ((j.2 _ D.i2z.symm).trans ((g.2 _ D.TOz.symm).trans ((f.2 _ D.i1z.symm).trans M)));let as:∀c o,c≠z->c≠TO->c≠i1->c≠i2->s.heap.get? c∣o->q.get? c∣o:=λc o N c2 c3 c4 e=>
  (l.2 c c2).trans ((j.2 c c4).trans ((g.2 c c2).trans ((f.2 c c3).trans ((n.2 c N).trans e))))
 let L:z<q.objs.size:=Zu aa;show Z2 (Z2 (wpAny_setField_rec (s:={s with heap:=q.push {cls:= .type "tuple",data:= .seq #[x,y]},toks:=B}) (Z7 _ aa) ∅ λg7 O C=>?_));replace O:IsZip g7 z TI TO (rawInt q.objs.size):=O;replace C:SameBut z (q.push _) g7:=C;show wpAny_setField_rec (s:={s with heap:=g7,toks:=B}) O ∅ λg8 G H=>?_
 replace G:IsZip g8 z TI TO (rawInt q.objs.size):=G;replace H:SameBut z g7 g8:=H;let up:∀c o,c≠z->q.get? c∣o->g8.get? c∣o:=λc o N e=>(H.2 c N).trans ((C.2 c N).trans (Z7 _ e))
 let ab:=(H.2 _ (X2 L)).trans ((C.2 _ (X2 L)).trans (Zj _ rfl));rw[Y]at G ab;show Z3 %[_,rfl|?_];rw[Y];exact hQ x y g8 B px py G (up _ _ D.TOz m) (D1.frame _ _ _ (r (λb d=>(T b d).2.1) l (r (λb d=>(T b d).2.2) j (r (λb d=>(T b d).2.1) g an))) λb d o e=>up b o (T b d).1 e) (D2.frame _ _ _ (u (λb d=>(m2 b d).2.1) l aq) λb d o e=>up b o (m2 b d).1 e) ab λc o N c2 c3 c4 e=>up c o N (as c o N c2 c3 c4 e)
def BP(L:Draws prog w A i1 fp1 n1 P1 St1)(D2:Draws prog w A i2 fp2 n2 P2 St2)(D:xn z TI TO i1 i2)(m1:∀b∈fp1,b≠z/\b≠TO/\b≠i2)(m2:∀b∈fp2,b≠z/\b≠TO/\b≠i1)
 (B:IsZip s.heap z TI TO .none) (M:IsPair s.heap TI (.ref i1) (.ref i2)) (N:IsPair s.heap TO a b) (h1:St1 i s.heap) (h2:St2 i s.heap) (l1:i<=n1) (l2:i<=n2) (aa:i=n1\/i=n2)
 (hE:∀h' e tk,(∀c o,c≠z->c≠TO->c≠i1->c≠i2->s.heap.get? c∣o->h'.get? c∣o)->(∃o,h'.get? e∣o/\o.cls= .type "StopIteration")->E (.ref e) {s with heap:=h',toks:=tk}):
 ↥A (Builtin.«zip.__next__» %[[.ref z]|[]]) Q E s:=by
 let O:∀{k h h' c},(∀b∈fp1,b≠c)->SameBut c h h'->St1 k h->St1 k h':=λT U st=>L.frame _ _ _ st λb j o e=>(U.2 b (T b j)).trans e
 let u:∀{k h h' c},(∀b∈fp2,b≠c)->SameBut c h h'->St2 k h->St2 k h':=λT U st=>D2.frame _ _ _ st λb j o e=>(U.2 b (T b j)).trans e
 change wpAny _ _ (field (.ref z) 2>>= _) _ _ _;show Z2 (wpAny_field B rfl (x:= .bool false) rfl ?_);change wpAny _ _ (field (.ref z) 3>>= _) _ _ _;show Z2 (wpAny_field B rfl (x:= .ref TI) rfl (Z2 (wpAny_seqItems M rfl ?_)));change wpAny _ _ (Builtin.SmallTypes.ownedTupleIsFree (.ref z)>>= _) _ _ _;show Z2 ?_;unfold Builtin.SmallTypes.ownedTupleIsFree;show Z2 (wpAny_field B rfl (x:= .none) rfl (Z3 ?_));simp only[if_true];show Z2 (wpAny_rule (Z2 (wpAny_field B rfl (x:= .ref TO) rfl (Z2 (wpAny_setField_rec B ∅ λg1 n l=>?_)))));replace n:IsZip g1 z TI TO .ellipsis:=n;show Z2 ?_;simp only[List.zipIdx_cons,List.zipIdx_nil,forIn_cons,List.forIn_nil];show Z2 (Z2 (wpAny_onRaise ?_));change wpAny _ _ (Builtin.SmallTypes.nextOf (.ref i1)>>= _) _ _ _;let C:St1 i g1:=O (λb j=>(m1 b j).1) l h1;by_cases c1:i<n1
 .let e2:i=n2:=by lia
  show Z2 (L.item i _ _ _ c1 C λx g2 v px ac d=>Z3 ?_);replace d:SameBut i1 g1 g2:=d;let r:IsPair g2 TO a b:=(d.2 _ D.TOi1).trans ((l.2 _ D.TOz).trans N);show Z2 (wpAny_seqItems r rfl (Z2 (wpAny_updateSeq_pair (s:={s with heap:=g2,toks:=v}) r λg3 ab f=>?_)));replace f:SameBut TO g2 g3:=f;show Z2 (wpAny_letGo (Z3 (Z2 (Z2 (wpAny_onRaise ?_)))));change wpAny _ _ (Builtin.SmallTypes.nextOf (.ref i2)>>= _) _ _ _;show Z2 (D2.done _ _ _ (e2▸u (λb j=>(m2 b j).2.1) f (u (λb j=>(m2 b j).2.2) d (u (λb j=>(m2 b j).1) l h2))) λJ e p Y=>?_);replace p:ExtBut i2 g3 J:=p;let%[oe,g|m]:=Y;let G:IsZip J z TI TO .ellipsis:=p _ _ D.i2z.symm ((f.2 _ D.TOz.symm).trans ((d.2 _ D.i1z.symm).trans n));let y:e≠z:=λx=>by subst x;rw[G]at g;cases g;simp at m
  show wpAny_setField_rec (s:={s with heap:=J,toks:=v}) G ∅ λg5 _ q=>?_
  replace q:SameBut z J g5:=q;exact hE g5 e v (λc o H d2 d3 d4 x=>(q.2 c H).trans (p c o d4 ((f.2 c d2).trans ((d.2 c d3).trans ((l.2 c H).trans x))))) %[oe,(q.2 e y).trans g|m]
 .let e1:i=n1:=by lia
  show Z2 (L.done _ _ _ (e1▸C) λg2 e d Y=>?_);replace d:ExtBut i1 g1 g2:=d;let%[oe,g|m]:=Y;let I:=d _ _ D.i1z.symm n;let y:e≠z:=λx=>by subst x;rw[I]at g;cases g;simp at m
  show wpAny_setField_rec (s:=(s>>>g2)) I ∅ λg3 _ f=>?_
  replace f:SameBut z g2 g3:=f;exact hE g3 e s.toks (λc o H _ d3 _ x=>(f.2 c H).trans (d c o d3 ((l.2 c H).trans x))) %[oe,(f.2 e y).trans g|m]
end
abbrev Itz(x y:Str):It:=⟨λi _=>i<x.cps.size/\i<y.cps.size,λi H v a=>∃c d T,x.cps[i]?∣c/\y.cps[i]?∣d/\H T=none/\v= .ref T/\a=JO H T (.tup [.str ⟨#[c]⟩,.str ⟨#[d]⟩]),
 λi _=>i<=x.cps.size/\i<=y.cps.size/\(i=x.cps.size\/i=y.cps.size)⟩
abbrev ZSt(z TI TO c d:Addr)(e f:Nat->Heap->Prop)(i:Nat)(h:Heap):Prop:=IsZip h z TI TO .none/\IsPair h TI (.ref c) (.ref d)/\(∃a b,IsPair h TO a b)/\e i h/\f i h
def jk(prog:Program)(w:World)(x:Str)(t:Tok)(it:Addr):∀A,A.handled=none->
 Draws prog w A it [it] x.cps.size (λi v=>∃c u,x.cps[i]?∣c/\v= .str ⟨#[c]⟩ u) (λi h=>h.IsStrIter it (strIterType x) x t i):=by
 intro A a;unfold strIterType;cases b:x.cps.all _ with
 | true=>exact Draws.strAscii a it x t
 | false=>exact Draws.strWide a it x t
def BQ{P:Program}{K:ZA}(z TI TO i1 i2:Addr)(x y:Str)(t u:Tok)(D:xn z TI TO i1 i2):
 pZ P w K (.Tuple elts kt tp) (Itz x y) [z,TI,TO,i1,i2] z (ZSt z TI TO i1 i2 (λi h=>h.IsStrIter i1 (strIterType x) x t i) (λi h=>h.IsStrIter i2 (strIterType y) y u i)) where
 mem:=by simp
 obj:=λi h st b hb=>by
  let%[hz,hTI,%[a,c|hTO],%[o1,e1,_|d1],o2,e2,_|d2]:=st
  grind
 keep:=λi h h' st k=>by
  let%[hz,hTI,%[a,c|hTO],%[o1,e1|r1],o2,e2|r2]:=st;exact%[k z ∅ _ hz,k TI ∅ _ hTI,%[a,c|k TO ∅ _ hTO],%[o1,k i1 ∅ _ e1|r1],o2,k i2 ∅ _ e2|r2]
 item:=by
  intro X hP hw hK hc i ff s σ H E I hf st hg;subst hP hw hK;let%[hz,hTI,%[a,c|hTO],h1|h2]:=st;obtain⟨g1,g2⟩:i<x.cps.size/\i<y.cps.size:=hg;let hT:s.TypeIs (.ref z) "zip":=%[_,hz|rfl]
  let hh:X.A.in1.handled=none:=I.ok.hd hc;unfold pyNext;show Z2 (wpAny_attempt (wpAny_callSpecial?_slot (name:=!"__next__") hT F.slot_zip_next (wpAny_call_entry F.slot_zip_next hT F.entry_zip_next
   (BO (jk _ _ x t i1 _ hh) (jk _ _ y u i2 _ hh) D (λb hb=>(show b=i1 by simpa using hb)▸%[D.i1z,Ne.symm D.TOi1|D.i12]) (λb hb=>(show b=i2 by simpa using hb)▸%[D.i2z,Ne.symm D.TOi2|Ne.symm D.i12]) hz hTI hTO h1 h2 g1 g2 λv1 v2 h' tk p1 p2 a1 a2 a3 a4 a5 hk=>Z3 ?_) (F.args_zip_next_1 _))))
  let%[c1,u1,e1|rfl]:=p1;let%[c2,u2,e2|rfl]:=p2;show%[_,ρ|wpAny_letOwnedTupleGo_zip (s:={s with heap:=h',toks:=tk}) a1 λh'' hz'' sb=>?_];replace sb:SameBut z h' h'':=sb;let kk:∀b o,b∉[z,TI,TO,i1,i2]->s.heap.get? b∣o->h''.get? b∣o:=λb o hb e=>by
   simp only[Yy,X8,or_false,not_or]at hb;exact(sb.2 b hb.1).trans (hk b o hb.1 hb.2.2.1 hb.2.2.2.1 hb.2.2.2.2 e)
  let turn1:JQ X ff σ H {s with heap:=h'',toks:=tk}:=I.moved hf kk;let Hn:H ⇑s=none:=I.fresh;let I2:JQ X ff σ (JO H ⇑s (.tup [.str ⟨#[c1]⟩,.str ⟨#[c2]⟩])) {s with heap:=h'',toks:=tk}:=
   I.stood turn1 (Zi _) %[by change 2<=sizeLine;decide,[.str _ u1,.str _ u2],.cons %[_|rfl] (.cons %[_|rfl] .nil),_,((sb.2 _ (X2 (Zu hz))).trans a5),rfl,_|rfl]
  show%[.ref ⇑s,_,I2,ρ,%[c1,c2,_,e1,e2,Hn,ρ|ρ],%[hz'',(sb.2 _ D.TIz).trans (hk _ _ D.TIz D.TITO D.TIi1 D.TIi2 hTI),%[_,_|(sb.2 _ D.TOz).trans a2],?_|?_]|λb hb=>?_]
  .let%[o,e|r]:=a3;exact%[o,(sb.2 _ D.i1z).trans e|r]
  .let%[o,e|r]:=a4;exact%[o,(sb.2 _ D.i2z).trans e|r]
  .let:b<⇑s:=by
    simp only[Yy,X8,or_false]at hb;let%[o1,q1|_]:=h1;let%[o2,q2|_]:=h2;rcases hb with rfl|rfl|rfl|rfl|rfl
    .exact Zu hz
    .exact Zu hTI
    .exact Zu hTO
    .exact Zu q1
    .exact Zu q2
   rw[au (Zs this)];exact(hf b hb).1
 done:=by
  intro X hP hw hK hc i ff s σ H E I hf st hg;let%[hz,hTI,%[a,c|hTO],h1|h2]:=st;obtain⟨g1,g2,g3⟩:i<=x.cps.size/\i<=y.cps.size/\(i=x.cps.size\/i=y.cps.size):=hg;let hT:s.TypeIs (.ref z) "zip":=%[_,hz|rfl]
  let hh:=I.ok.hd hc;show Z2 (wpAny_attempt (wpAny_callSpecial?_slot hT F.slot_zip_next (wpAny_call_entry F.slot_zip_next hT F.entry_zip_next
   (BP (jk _ _ x t i1 _ hh) (jk _ _ y u i2 _ hh) D (λb hb=>(show b=i1 by simpa using hb)▸%[D.i1z,Ne.symm D.TOi1|D.i12]) (λb hb=>(show b=i2 by simpa using hb)▸%[D.i2z,Ne.symm D.TOi2|Ne.symm D.i12]) hz hTI hTO h1 h2 g1 g2 g3 λh' e tk hk he=>?_) (F.args_zip_next_1 _))))
  let%[o,ho|hco]:=he;show Z2 (wpAny_isInstance %[o,ho|hco] isSubtype_stop (Z3 %[rfl|?_]));let kk:∀b o,b∉[z,TI,TO,i1,i2]->s.heap.get? b∣o->h'.get? b∣o:=λb o hb e=>by
   simp only[Yy,X8,or_false,not_or]at hb;exact hk b o hb.1 hb.2.2.1 hb.2.2.2.1 hb.2.2.2.2 e
  exact I.moved hf kk
 self:=λ_ _ _ _ _ st h=>wpAny_pyIter_zip st.1 h
abbrev ba:Expr->Bool
 | .Starred _ _=>true
 | _=>false
def az(h:ba e=false):starEach (e::a) env=(false,eval e env)::starEach a env:=by
 cases e<;> first|rfl|cases(show true=false from h)
def dU(h:ba e=false):assignEach (e::a) env=(false,assign e env)::assignEach a env:=by
 cases e<;> first|rfl|cases(show true=false from h)
def dI:∀{a:List Expr},a.any ba=false->(backTo pos (starEach a env)).any (·.1)=false
 |[],_=>rfl
 | e::a,h=>by
   rw[Zw,X9]at h;rw[az h.1];let:=dI (pos:=pos) (env:=env) h.2;cases a with
   | nil=>rfl
   | cons c b=>
     simp only[backTo]at this ⊢;simpa using this
def sX:∀{a:List Expr},a.any ba=false->(backTo pos (starEach a env)).all (λx=>!x.1)=true
 |[],_=>rfl
 | e::a,h=>by
   rw[Zw,X9]at h;rw[az h.1];let:=sX (pos:=pos) (env:=env) h.2;cases a with
   | nil=>rfl
   | cons c b=>
     simp only[backTo]at this ⊢;simpa using this
def jM:∀{a:List Expr},a.any ba=false-> ~~~(assignEach a env)= ~~~a/\(assignEach a env).findIdx? (·.1)=none
 |[],_=>%[rfl|rfl]
 | e::a,h=>by
   rw[Zw,X9]at h;rw[dU h.1];let b:=jM (env:=env) h.2;show%[by rw[Zr,Zr,b.1]|?_];rw[List.findIdx?_cons,b.2];rfl
abbrev fF:Expr->Bool
 | .ListComp _ _ _ _=>true
 | .SetComp _ _ _ _=>true
 | .DictComp _ _ _ _ _=>true
 | _=>false
def iP(h:fF e=false):swapsWith e t l env=pure false:=by
 cases e<;> first|rfl|cases(show true=false from h)
abbrev BR:Expr->Bool
 | .Tuple _ _ _=>true
 | _=>false
def xo(h:BR e=false):swappedStores [t] e env=pure none:=by
 cases t with
 | Tuple _ _ _=>cases e<;> first|rfl|cases(show true=false from h)
 | List _ _=>cases e<;> first|rfl|cases(show true=false from h)
 | _=>rfl
abbrev gN:Expr->Bool
 | .Call _ _ _ _=>true
 | _=>false
def fG(h:gN o=false):attributeBase o a env w=w:=by
 cases o<;> first|rfl|cases(show true=false from h)
abbrev nZ:Expr->Bool
 | .Set _ _ _=>true
 | _=>false
def lA(h:nZ e=false)(x:Value):foldedSetIterable e env x=pure x:=by
 cases e<;> first|rfl|cases(show true=false from h)
abbrev n6:Expr->Bool
 | .Slice _ _ _ _=>true
 | _=>false
def xp(h:n6 i=false)(v:Value):assign (.Subscript o i pos) env v=(do
 let a<-holding [v] (eval o env)
 let b<-holding [v,a] (eval i env)
 standAt pos
 holding [v,a,b] (setItem a b v)
 release [v,a,b] []):=by
 cases i<;> first|rfl|cases(show true=false from h)
structure QE (X:Cx) (e:Expr) (t:TE):Prop where
 h:PE X e t
structure QT (X:Cx) (e:Expr) (t:TT):Prop where
 h:PT X e t
structure QW (X:Cx) (e:Expr) (t:TT):Prop where
 h:PW X e t
structure QA (X:Cx) (es:List Expr) (t:TA):Prop where
 h:PA X es t
structure QS (X:Cx) (st:Stmt) (t:TS):Prop where
 h:PS X st t
structure QSs (X:Cx) (st:List Stmt) (t:TS):Prop where
 h:PSs X st t
structure QG (X:Cx) (e:Expr) (t:TG):Prop where
 h:PG X e t
structure QGs (X:Cx) (es:List Expr) (t:TGs):Prop where
 h:PGs X es t
structure QI (X:Cx) (tg iter:Expr) (wi:TI):Prop where
 h:PI X tg iter wi
structure QO (X:Cx) (e:Option Expr) (t:TO):Prop where
 h:PO X e t
structure QTs (X:Cx) (ifs:List Expr) (t:TT):Prop where
 h:PTs X ifs t
structure QPs (X:Cx) (pos:Pos) (keys:List _) (values:List Expr) (trs:List _):Prop where
 h:PPs X pos keys values trs
structure OpQ (X:Cx) (f:Value->Value->Sem Value) (r:R2):Prop where
 h:OpR X f r
structure cq (X:Cx) (f:Value) (r:List V->Hp->VK->Prop):Prop where
 h:bZ X f r
structure MtQ (X:Cx) (id:String) (r:V->List V->Hp->VK->Prop):Prop where
 h:MtR X id r
section
variable{X:Cx}{K:ZA}{pos:Pos}
def aw{i j}:QE X (.Constant (.int i) j pos) (tC (.int i)):=⟨FX⟩
def eBl{b j}:QE X (.Constant (.bool b) j pos) (tC (.bl b)):=⟨ID⟩
def p9{j}:QE X (.Constant .none j pos) (tC .non):=⟨FY⟩
def df{x j}:QE X (.Constant (.str x) j pos) (tC (.str x)):=⟨FZ⟩
def vn(i:Nat)(b:X.N[i]?∣x)(c:Vis X.env.scope x)(d:(x==("__debug__":Str))=false)(a:(x==("__classdict__":Str))=false):QE X (.Name x pos) (fV i):=⟨A3 b c d a⟩
def gvE(g:Gv X.mg x v)(a:Gl X x)(b:(x==("__debug__":Str))=false):QE X (.Name x pos) (tC v):=⟨FH g a b⟩
def blE(a:Gl X x)(b:X.mg x=none)(c:bootBuiltins x∣u)(r:aJ v u)(f:(x==("__name__":Str))=false)(d:(x==("__debug__":Str))=false):QE X (.Name x pos) (tC v):=
 ⟨DM a b c r (λe=>by lia) d⟩
def am:QA X [] mZ:=⟨Gy⟩
def paE(a:ba e=false)(b:QE X e te)(c:QA X d t):QA X (e::d) (j6 te t):=⟨Ee b.h c.h (az a)⟩
def calE(C:Cal X.prog X.w X.K X.mg X.base j x ps sp)(f:bM k X.A)(g:Gl X x)(a:Nat.ble j k=true)
 (b:(x==("__debug__":Str))=false) (c:(e::d).any ba=false) (h:QA X (e::d) t):
 QE X (.Call (.Name x p) (e::d) [] pos) (qG sp [] E0 t):=by
 rw[Zw,X9]at c;exact⟨GV C f g BE h.h (Yd a) b (az c.1) (dI c.2)⟩
def cbE{id:String}(d:cq X (.builtin id) r)(f:Gl X x)(g:X.mg x=none)(h:bootBuiltins x∣.builtin id)(j:(x==("__name__":Str))=false)(a:(x==("__debug__":Str))=false)
 (b:(e::c).any ba=false) (i:QA X (e::c) t):QE X (.Call (.Name x p) (e::c) [] pos) (tCB r t):=by
 rw[Zw,X9]at b;exact⟨Bs d.h f g h i.h (λe=>by lia) a (az b.1) (dI b.2)⟩
def ctE(d:cq X (.type T) r)(f:Gl X x)(g:X.mg x=none)(h:bootBuiltins x∣.type T)(j:(x==("__name__":Str))=false)(a:(x==("__debug__":Str))=false)
 (b:(e::c).any ba=false) (i:QA X (e::c) t):QE X (.Call (.Name x p) (e::c) [] pos) (tCB r t):=by
 rw[Zw,X9]at b;exact⟨zM d.h f g h i.h (λe=>by lia) a (az b.1) (dI b.2)⟩
def bmE{T id:String}(h:X.K=K)(m:PlainAttrs T)(slot:Slot T name id)(i:typeOf (.builtin id)=pure (.type "method_descriptor"))(n:MtQ X id r)
 (b:gN o=false) (a:(e::g).any ba=false) (j:Nat.blt (e::g).length 30=true) (c:(d.endLine==f.line)=true) (p:QE X o q) (s:QA X (e::g) t):
 QE X (.Call (.Attribute o name d) (e::g) [] f) (tBM K T r q t):=by
 let l:=a;rw[Zw,X9]at l;show⟨BN h m slot i n.h p.h s.h (fG b) ?_ c (az l.1) (dI l.2)⟩;rw[sX a];let:decide (~~~(e::g)+ ~~~([]:List Keyword)+(if([]:List Keyword).isEmpty then 0 else 1)<30)=true:=Zf ((Nat.blt_eq.mp j));rw[this];rfl
def IV{T id:String}(h:X.K=K)(f:PlainAttrs T)(slot:Slot T name id)(e:typeOf (.builtin id)=pure (.type "method_descriptor"))(g:MtQ X id r)
 (a:gN o=false) (b:(c.endLine==d.line)=true) (i:QE X o j):QE X (.Call (.Attribute o name c) [] [] d) (El K T r j):=⟨EG h f slot e g.h i.h (fG a) b⟩
def fX(b:Gl X "range")(c:X.mg "range"=none)(d:ba a=false)(e:QA X [a] f):QI X g (.Call (.Name "range" p) [a] [] pos) (Bf f):=⟨zD b c e.h (az d)⟩
def GY(h:X.K=K)(a:QE X l b):QI X c l (EE K b):=⟨EF h a.h⟩
section
variable{a b c:Expr}{ta tb tc:TE}{op op':CmpOp}{r r':R2}
def xq(e:OpQ X (compareOp op) r)(d:OpQ X (compareOp op') r')(f:lastMarks [op,op'] [b,c]=false)(g:QE X a ta)(h:QE X b tb)(i:QE X c tc):QE X (.Compare a [op,op'] [b,c] pos) (wS r r' ta tb tc):=⟨Bj e.h d.h g.h h.h i.h f⟩
def jv(d:OpQ X (compareOp op) r)(e:behindInMarks op b=false)(f:QE X a ta)(g:QE X b tb):QE X (.Compare a [op] [b] pos) (tOp r ta tb):=⟨DX d.h f.h g.h e⟩
def bj(d:OpQ X (compareOp op) r)(e:behindInMarks op b=false)(f:QE X a ta)(g:QE X b tb):QT X (.Compare a [op] [b] pos) (yC (tOp r ta tb)):=⟨DY d.h f.h g.h e⟩
def opE{op:Operator}(d:OpQ X (binaryOp op) r)(e:QE X a ta)(f:QE X b tb):QE X (.BinOp a op b pos) (tOp r ta tb):=⟨II d.h e.h f.h⟩
def qb(d:QE X a ta):QE X (.UnaryOp .USub a pos) (tUn (rU λi=> .int (-i)) ta):=⟨IJ Gn d.h⟩
def noO:QO X none j7:=⟨Eg⟩
def cV(h:QE X a ta):QO X (some a) (yH ta):=⟨Eh h.h⟩
def qc{op}(h:QE X a ta):QE X (.BoolOp op [a] pos) ta:=⟨F6 h.h⟩
def n8{rest:List Expr}(d:QE X a ta)(e:QE X (.BoolOp .And (b::rest) pos) tb):QE X (.BoolOp .And (a::b::rest) pos) (A5 ta tb):=⟨F7 d.h e.h⟩
def orV{rest:List Expr}(d:QE X a ta)(e:QE X (.BoolOp .Or (b::rest) pos) tb):QE X (.BoolOp .Or (a::b::rest) pos) (F5 ta tb):=⟨IG d.h e.h⟩
def bX(h:QA X d t):QE X (.List d pos) (uI t):=⟨GB h.h⟩
def iI{d}(h:QA X e t):QE X (.Tuple e d pos) (Gz t):=⟨GA h.h⟩
def mF:QE X (.Dict [] [] pos) xg:=⟨BB⟩
variable{tA tB':TT}{rest:List Expr}
def jw(d:QT X a tA):QT X (.UnaryOp .Not a pos) (F1 tA):=⟨F4 d.h⟩
def fY(d:QT X a tA):QW X (.BoolOp .And [a] pos) tA:=⟨DO d.h⟩
def lB(d:QT X a tA):QW X (.BoolOp .Or [a] pos) tA:=⟨F2 d.h⟩
def jN(d:QT X a tA)(e:QW X (.BoolOp .And (b::rest) pos) tB'):QW X (.BoolOp .And (a::b::rest) pos) (DN tA tB'):=⟨F3 d.h e.h⟩
def orW(d:QT X a tA)(e:QW X (.BoolOp .Or (b::rest) pos) tB'):QW X (.BoolOp .Or (a::b::rest) pos) (tOr tA tB'):=⟨IF d.h e.h⟩
def wT(h:QW X a tA):QT X a tA:=⟨PW.pt h.h⟩
def eZ(h:X.K=K)(f:∀d,isTrue a X.env d=(do let v<-d;standAt a.pos;holding [v] (truthy v)))(g:QE X a ta):QT X a (λi H Q=>ta i H λx e=>∃k,Bk K x e k/\Q k e):=⟨zY h g.h f⟩
def gO:QTs X [] BG:=⟨Ex⟩
def qX(h:QT X c tA):QTs X [c] tA:=⟨Ey h.h⟩
end
def dC(S:aA X c e f)(l:X.calm=true)(m:nZ iter=false)(hi:QI X j iter n)
 (o:∀a b d,QG (b8 X c e a b d) j g) (p:∀a b d,QTs (b8 X c e a b d) h q) (r:∀a b d,QE (b8 X c e a b d) i te):
 QE X (.ListComp i [%[j,iter,h|0]] c pos) (qT n e.length f g q te):=⟨EA S l hi.h (λa b d=>(o a b d).h) (λa b d=>(p a b d).h) (λa b d=>(r a b d).h) (lA m)⟩
def aZ:QSs X [] yy:=⟨DP⟩
def aj{st:Stmt}{rest:List Stmt}(a:QS X st t)(b:QSs X rest u):QSs X (st::rest) (bn t u):=⟨A6 a.h b.h⟩
def ap{st:Stmt}(a:QS X st t):QSs X [st] t:=⟨DQ a.h⟩
def ifS(d:QT X c e)(f:QSs X a t)(g:QSs X b u):QS X (.If c a b pos) (iM e t u):=⟨IH d.h f.h g.h⟩
def aW(a:QE X e te):QS X (.Return (some e) pos) (jK te):=⟨F8 a.h⟩
def gP{st:Stmt}:QS X st A7:=⟨A8⟩
def cB(c:PassesOwn (model X.prog X.w) X.A X.env X.xe)(d:X.calm=true)(e:nZ iter=false)(hi:QI X b iter f)(h:QG X b g)(i:QSs X a j):
 QS X (.For b iter a [] pos) (wR f g j):=⟨Gg c d hi.h h.h i.h (lA e)⟩
def lC(i:Nat)(b:X.N.Nodup)(hi:X.N[i]?∣x)(c:Loc X.env.scope x)(d:X.fn x=true\/X.env.scope.names.lookup x∣.local)(f:fF e=false)(g:QE X e te):
 QS X (.Assign [.Name x a] e pos) (pY te (jC i)):=⟨Bb b hi c g.h (iP f) d⟩
def cf(a:fF e=false)(b:QE X e te):QS X (.Expr e pos) (jB te):=⟨DR b.h (iP a)⟩
def zZ(c:fF e=false)(hw:BR e=false)(a:ba b=false)(d:QE X e te)(f:QG X b g):QS X (.Assign [b] e pos) (pY te g):=
 ⟨Gf d.h f.h (iP c) (xo hw) (by rw[dU a];rfl)⟩
def yL(i:Nat)(a:X.N.Nodup)(hi:X.N[i]?∣x)(b:Loc X.env.scope x)(c:X.fn x=true\/X.env.scope.names.lookup x∣.local):QG X (.Name x pos) (jC i):=⟨DS a hi b c⟩
def cG:QGs X [] Gb:=⟨DT⟩
def gsE(a:ba e=false)(b:QG X e t)(c:QGs X d u):QGs X (e::d) (A9 t u):=⟨Ba b.h c.h (by rw[dU a];rfl)⟩
def eE(c:X.K=K)(d:X.calm=true)(b:a.any ba=false)(h:QGs X a t):QG X (.Tuple a k pos) (DU K a.length t):=by
 subst c;exact⟨Gc d h.h (jM b).1 (jM b).2⟩
def IW(a:n6 i=false)(b:QE X o c)(hi:QE X i d):QG X (.Subscript o i pos) (Gd c d yJ):=⟨Ge b.h hi.h ED (xp a)⟩
def IX:QPs X pos [] [] []:=⟨Es⟩
def GZ(b:QE X k tk)(c:QE X v d)(e:QPs X pos ks vs a):QPs X pos (some k::ks) (v::vs) ((tk,d)::a):=⟨BD b.h c.h e.h⟩
def IY(b:keys.all (·.isSome)=true)(f: ~~~keys= ~~~a)(g:keys.isEmpty=false)(c:Nat.ble keys.length 15=true)(h:QPs X pos keys a d):QE X (.Dict keys a pos) (FF d):=
 ⟨Et h.h b f (λe=>by subst e;cases g) (Yd c)⟩
def n9:OpQ X (binaryOp .Sub) (rI0 λi j=> .int (i-j)):=⟨Gk⟩
def G0:OpQ X (binaryOp .Mult) BK:=⟨EC⟩
def bE:OpQ X (binaryOp .Mod) (rI (λ_ j=>0<j) λi j=> .int (i%j)):=⟨Gm⟩
def cW:OpQ X (binaryOp .FloorDiv) (rI IL λi j=> .int (i/j)):=⟨DV⟩
def cT:OpQ X (compareOp .Eq) GP:=⟨GQ⟩
def dO:OpQ X (compareOp .NotEq) GR:=⟨GS⟩
def oa:OpQ X (compareOp .Lt) (rI0 λi j=> .bl (decide (i<j))):=⟨IP⟩
def z3:OpQ X (compareOp .LtE) (rI0 λi j=> .bl (decide (i<=j))):=⟨IQ⟩
def z5:OpQ X (compareOp .Gt) (rI0 λi j=> .bl (decide (j<i))):=⟨IR⟩
def FI:OpQ X (compareOp .Is) (λx y H Q=>y= .non/\Q (.bl (decide (x= .non))) H):=⟨Gp⟩
def sY:OpQ X (compareOp .IsNot) (λx y H Q=>y= .non/\Q (.bl (!decide (x= .non))) H):=⟨DW⟩
def z6(h:X.K=K):OpQ X (compareOp .In) (BL K):=⟨GX h⟩
def cx(h:X.K=K):cq X (.builtin "len") (λxs H Q=>∃x n,xs=[x]/\DZ K x H n/\Q (.int n) H):=⟨zV h⟩
def uR(h:X.K=K)(a:X.calm=true):cq X (.builtin "all") (λxs H Q=>∃(p:Addr) (bs:List Bool),xs=[.ref p]/\JP K H p (bs.map V.bl)/\Q (.bl (bs.all id)) H):=⟨zW h a⟩
def FJ(a:X.calm=true):cq X (.builtin "max") (λxs H Q=>∃i j,xs=[.int i,.int j]/\Q (.int (if j>i then j else i)) H):=⟨zG a⟩
def IZ(a:X.calm=true):cq X (.builtin "min") (λxs H Q=>∃i j,xs=[.int i,.int j]/\Q (.int (if j<i then j else i)) H):=⟨zH a⟩
def iw(h:X.K=K):cq X (.builtin "isinstance") (λxs H Q=>∃x n t b,xs=[x,.ty n]/\jL K H x t/\kitOne K t (.type n)∣b/\Q (.bl b) H):=⟨zX h⟩
def FK:cq X (.type "int") (λxs H Q=>(∃i,xs=[.int i]/\Q (.int i) H)\/∃k,xs=[.bl k]/\Q (.int (if k then 1 else 0)) H):=⟨zI⟩
def gQ(h:X.K=K):cq X (.type "list") (λxs H Q=>∃p ys,xs=[.ref p]/\(JP K H p ys\/SqT K H p ys)/\∀l,H l=none->Q (.ref l) (JO H l (.lst ys))):=⟨xk h⟩
def bw:MtQ X "list.append" nv:=⟨qN⟩
def uS:MtQ X "list.extend" sU:=⟨zO⟩
def EH:MtQ X "list.clear" xc:=⟨By⟩
def sZ(h:X.K=K):MtQ X "str.join" (yK K):=⟨BM h⟩
end
open PySem PySem.Spec PyProof.Rows PySem.SeqAt
abbrev xt:V->List V->Hp->VK->Prop:=λx vs H Q=>∃z y,x= .str z/\vs=[.str y]/\1<= ~~~y/\ ~~~z+2<=sizeLine/\∀l,H l=none->Q (.ref l) (JO H l (.lst ((Txt.split z y)\3)))
def qY:∀ss k,aD (ss\3) (strsFrom k ss)
 |[],_=> .nil
 | _::r,k=> .cons %[_|rfl] (qY r _)
def BS{X:Cx}:MtM X "str.split" xt:=by
 intro ff s m H x vs v us Q I g i h;let%[z,y,rfl,rfl,n,o|q]:=h;let%[t|rfl]:=g;let%[p,rfl|j]:=i.one;let%[u|rfl]:=j;let b:(~~~y==0)=false:=by simp;lia
 let l:=split_le z y;by_cases c:(decide (~~~z< ~~~y)||decide (Builtin.Str.strKind z<Builtin.Str.strKind y))=true
 .let e:Txt.split z y=[z]:=if_pos c;rw[e]at q;exact call_meets F.slot_str_split (typeIs_str _ _ _) F.entry_str_split (F.args_str_split_2 _ _) (meets_str_split_cannot_occur z y t u c) %[.ref _,_,I.lnew (ys:=[.str z]) (.cons %[_|rfl] .nil) (by change 1<=sizeLine;decide),rfl|q _ I.fresh]
 .let d:=Bool.eq_false_iff.mpr c;by_cases f:(Builtin.Str.occurrences z y 0 z.length (~~~z+1)).isEmpty=true
  .let e:Txt.split z y=[z]:=(if_neg c).trans (if_pos f);rw[e]at q;exact call_meets F.slot_str_split (typeIs_str _ _ _) F.entry_str_split (F.args_str_split_2 _ _) (meets_str_split_not_found z y t u d b f) %[.ref _,_,I.lnew (ys:=[.str z]) (.cons %[_|rfl] .nil) (by change 1<=sizeLine;decide),rfl|q _ I.fresh]
  .let e:Txt.split z y=Builtin.Str.partsBetween z _ y.length:=(if_neg c).trans (if_neg f);let a: ~~~(Builtin.Str.partsBetween z (Builtin.Str.occurrences z y 0 z.length (z.length+1)) y.length)<=sizeLine:=by rw[<-e];lia
   show call_meets F.slot_str_split (typeIs_str _ _ _) F.entry_str_split (F.args_str_split_2 _ _) (meets_str_split_sep z y t u d b (Bool.eq_false_iff.mpr f) ⋯ a) ?_;rw[<-e]at a ⊢;exact%[.ref _,_,I.lnew (qY _ _) (by rw[Z6];exact a),ρ|q _ I.fresh]
def yM{X:Cx}:MtQ X "str.split" xt:=⟨BS⟩
abbrev Ite(K:ZA)(a:Addr)(xs:List V):It:=⟨λi H=>JP K H a xs/\i< ~~~xs,λi H v b=>∃x T,xs[i]?∣x/\H T=none/\v= .ref T/\b=JO H T (.tup [.int i,x]),λi H=>JP K H a xs/\ ~~~xs<=i⟩
abbrev ESt(e it a:Addr)(i:Nat)(h:Heap):Prop:=(∃b,IsEnum h e it i b)/\h.IsListIter it a i
def z7{P:Program}{K:ZA}(e it a:Addr)(xs:List V)(hne:e≠it):pZ P w K (.Tuple elts kt tp) (Ite K a xs) [e,it] e (ESt e it a) where
 mem:=by simp
 obj:=λi h st b hb=>by
  let%[%[old|he],o1,e1,_|d1]:=st;simp only[Yy,X8,or_false]at hb;rcases hb with rfl|rfl
  .exact%[_,he|λv q=>nomatch q]
  .exact%[o1,e1|λv q=>by rw[d1]at q;cases q]
 keep:=λi h h' st k=>by
  let%[%[old|he],o1,e1|r1]:=st;exact%[%[old|k e ∅ _ he],o1,k it ∅ _ e1|r1]
 item:=by
  intro X hP hw hK hc i ff s σ H E I hf st hg;subst hP hw hK;let%[%[old|he]|hit]:=st;obtain⟨hq,hi⟩:JP X.K H a xs/\i< ~~~xs:=hg;let%[its,rv,p|hz]:=I.list hq;let%[u,hu|ru]:=rv.get (i:=i) (x:=xs[i]) ∅;show wpAny_pyNext_enum_item he hit p.isList ↑hu hne λh1 he1 hit1 ht1 hz1 hk1=>%[_,rfl|wpAny_letOwnedTupleGo_enum he1 λh2 he2 sb2=>?_]
  replace sb2:SameBut e h1 h2:=sb2;let elt:=Zu he;let kk:∀b o,b∉[e,it]->s.heap.get? b∣o->h2.get? b∣o:=λb o hb q=>by
   simp only[Yy,X8,or_false,not_or]at hb;exact(sb2.2 b hb.1).trans (hk1 b o hb.1 hb.2 q)
  let J:JQ X ff σ H {s with heap:=h2,toks:=s.toks+1}:=I.moved hf kk;let I2:JQ X ff σ (JO H ⇑s (.tup [.int i,xs[i]])) _:=
   I.stood J (Zi _) %[by change 2<=sizeLine;decide,[.int i s.toks,u],.cons %[_|rfl] (.cons ru .nil),_,((sb2.2 _ (X2 elt)).trans ht1),rfl,_|rfl]
  show%[.ref ⇑s,_,I2,ρ,%[xs[i],_,by simp,I.fresh,ρ|ρ],%[%[u|he2]|?_]|λb hb=>?_]
  .let%[o,q|r]:=hit1;exact%[o,(sb2.2 _ (Ne.symm hne)).trans q|r]
  .let:b<⇑s:=by
    simp only[Yy,X8,or_false]at hb;rcases hb with rfl|rfl
    .exact elt
    .exact(by let%[o,q|_]:=hit;exact Zu q)
   rw[au (Zs this)];exact(hf b hb).1
 done:=by
  intro X hP hw hK hc i ff s σ H E I hf st hg;subst hP hw hK;let%[%[old|he]|hit]:=st;obtain⟨hq,hi⟩:JP X.K H a xs/\ ~~~xs<=i:=hg;let%[its,rv,p|hz]:=I.list hq;let hl:= ~~~rv;show wpAny_pyNext_enum_end (I.ok.hd hc) he hit p.isList (by simp;lia) λh1 xb=>%[rfl|I.moved hf λb o hb q=>?_]
  simp only[Yy,X8,or_false,not_or]at hb;exact xb b o hb.2 q
 self:=λA i s Q E st h=>by
  let%[%[old|he]|hit]:=st;exact wpAny_pyIter_enum he h
abbrev FL(K:ZA)(c:TA):TI:=λd H R=>c d H λvs b=>∃a xs,vs=[.ref a]/\JP K b a xs/\R (Ite K a xs) b
section
variable{X:Cx}{K:ZA}{pos:Pos}
def qZ(m:X.K=K)(n:Gl X "enumerate")(o:X.mg "enumerate"=none)(r:ba a=false)(v:QA X [a] w):
 QI X (.Tuple g L M) (.Call (.Name "enumerate" p) [a] [] pos) (FL K w):=by
 subst m
 constructor
 intro ff s y H R I h;show Call_ (jJ I n o boot_enumerate (PyProof.Rows.callWith_type1 (thP (v.h pos ff s y H _ I h) λus d vs z c A B=>?_) (az r) rfl));let%[l,xs,e,C|q]:=B;subst e;let%[u,rfl|E]:=cU A;cases E;let%[its,N,p|O]:=c.list C;show call_enumerate_list p.isList λQ i f G J=>wpAny_pyIter_enum i %[⇑d+1,[⇑d+1,⇑d],ESt _ ⇑d l,Ite X.K l xs,z,rfl,(c.kept J),z7 _ _ _ _ (Nat.succ_ne_self _),%[%[_|i]|f],λb j=>?_|q]
 simp only[Yy,X8,or_false]at j;rcases j with rfl|rfl
 .exact c.fpOk (Yg _) (c.hok.fresh (Yg _))
 .exact c.fpOk (Zi _) (c.hok.fresh (Zi _))
end
section
variable(h:Heap)(x y:Str)(t u:Tok)
noncomputable abbrev zs1:Heap:=h.push {cls:= .type (strIterType x),data:= .fields #[.str x t,.int 0 0]}
noncomputable abbrev zs2:Heap:=(zs1 h x t).push {cls:= .type (strIterType y),data:= .fields #[.str y u,.int 0 0]}
noncomputable abbrev zs3:Heap:=(zs2 h x y t u).push {cls:= .type "tuple",data:= .seq #[.ref h.objs.size,.ref (zs1 h x t).objs.size]}
noncomputable abbrev zs4:Heap:=(zs3 h x y t u).push {cls:= .type "tuple",data:= .seq #[.none,.none]}
noncomputable abbrev zs5:Heap:=(zs4 h x y t u).push {cls:= .type "zip",data:= .fields #[.none,.bool false,.bool false,.ref (zs2 h x y t u).objs.size,.ref (zs3 h x y t u).objs.size]}
end
def m8(x y:Str)(t u:Tok):
 Meets (Builtin.«zip.__new__» %[[.type "zip",.str x t,.str y u]|[]]) (λ_ R s=>R (.ok (.ret (.ref (zs4 s.heap x y t u).objs.size))) (s>>>zs5 s.heap x y t u)):=
 .of_wp λprog w A R s b=>by
  let%[c,g,d,tk|os]:=s;let a:=PySem.sub_zip
  wp_walk using wpAny_pyIter_strU (x:=x) (t:=t),wpAny_pyIter_strU (x:=y) (t:=u)
  exact%[_,ρ|b]
section
#where
def og
 (h:∀h',IsZip h' (⇑s+4) (⇑s+2) (⇑s+3) .none->IsPair h' (⇑s+2) (.ref ⇑s) (.ref (⇑s+1))->IsPair h' (⇑s+3) .none .none->
  h'.IsStrIter ⇑s (strIterType x) x t 0->h'.IsStrIter (⇑s+1) (strIterType y) y u 0->(∀c o,s.heap.get? c∣o->h'.get? c∣o)->Q (.ref (⇑s+4)) (s>>>h')):
 ↥A (call (.type "zip") [.str x t,.str y u]) Q E s:=by
 show callType_new F.called_zip (!1) (F.typeCall_zip_2 _ _) (F.newCall_zip_2 _ _) (λobj=>F.args_object_init_3 obj _ _) F.entry_zip_new (m8 x y t u) ?_;let n1:(zs1 s.heap x t).objs.size=⇑s+1:=Zq ..;let a:(zs2 s.heap x y t u).objs.size=⇑s+2:=by rw[Zq,n1]
 let b:(zs3 s.heap x y t u).objs.size=⇑s+3:=by rw[Zq,a]
 let e:(zs4 s.heap x y t u).objs.size=⇑s+4:=by rw[Zq,b]
 let f:∀c o,(zs4 s.heap x y t u).get? c∣o->(zs5 s.heap x y t u).get? c∣o:=λ_ _ q=>Z7 _ q
 let g:∀c o,(zs3 s.heap x y t u).get? c∣o->(zs5 s.heap x y t u).get? c∣o:=λc o q=>f c o (Z7 _ q)
 let i:∀c o,(zs2 s.heap x y t u).get? c∣o->(zs5 s.heap x y t u).get? c∣o:=λc o q=>g c o (Z7 _ q)
 let k2:∀c o,(zs1 s.heap x t).get? c∣o->(zs5 s.heap x y t u).get? c∣o:=λc o q=>i c o (Z7 _ q)
 let k1:∀c o,s.heap.get? c∣o->(zs5 s.heap x y t u).get? c∣o:=λc o q=>k2 c o (Z7 _ q)
 let d:(zs5 s.heap x y t u).get? (zs4 s.heap x y t u).objs.size∣_:=Zj _ rfl;let j:(zs5 s.heap x y t u).get? (zs3 s.heap x y t u).objs.size∣_:=f _ _ (Zj _ rfl);let l:(zs5 s.heap x y t u).get? (zs2 s.heap x y t u).objs.size∣_:=g _ _ (Zj _ rfl);let m:=i _ _ (Zj _ rfl);change _/\_;rw[a,b,e]at d;rw[n1,a]at l;rw[b]at j;rw[n1]at m;rw[e];exact%[%[_,d|ρ]|h _ d l j %[_,(k2 _ _ (Zj _ rfl)),ρ|ρ] %[_,m,ρ|ρ] k1]
end
abbrev FM(a:TA):TI:=λb H R=>a b H λvs c=>∃x y,vs=[.str x,.str y]/\R (Itz x y) c
section
variable{X:Cx}{K:ZA}{pos:Pos}
def BT(v:Gl X "zip")(w:X.mg "zip"=none)(z:ba a=false)(f:ba b=false)(A:QA X [a,b] B):
 QI X (.Tuple n M N) (.Call (.Name "zip" p) [a,b] [] pos) (FM B):=by
 constructor
 intro ff s C H R I h;show Call_ (jJ I v w boot_zip (PyProof.Rows.callWith_type1 (thP (A.h pos ff s C H _ I h) λus c vs E g G J=>?_) (az z) (by rw[az f];rfl)));let%[x,y,e|q]:=J;subst e;let%[O,Q,rfl,%[t|rfl],u|rfl]:=iu G;show og λT o l m hi1 hi2 L=>wpAny_pyIter_zip o ?_
 let ne:∀i j,i≠j->⇑c+i≠⇑c+j:=λi j h e=>h (Nat.add_left_cancel e)
 show%[⇑c+4,[⇑c+4,⇑c+2,⇑c+3,⇑c+0,⇑c+1],_,Itz x y,E,ρ,(g.kept L),
  BQ _ _ _ _ _ x y t u %[ne 2 4 (!1),ne 3 4 (!1),ne 0 4 (!1),ne 1 4 (!1),ne 2 3 (!1),ne 2 0 (!1),ne 2 1 (!1),ne 3 0 (!1),ne 3 1 (!1)|ne 0 1 (!1)],
  %[o,l,%[_,_|m],hi1|hi2],λb r=>?_|q]
 let d:⇑c<=b:=by
  simp only[Yy,X8,or_false]at r;rcases r with rfl|rfl|rfl|rfl|rfl<;> exact le_add_right _ _
 exact g.fpOk d (g.hok.fresh d)
end
inductive D where
 | non|bl (b:Bool)|int (i:Int)|str (x:Str)|lst (ds:List D)|tup (ds:List D)
mutual
abbrev D.beq:D->D->Bool
 | .non,.non=>true
 | .bl a,.bl b=>a==b
 | .bl a,.int b=>(if a then 1 else 0)==b
 | .int a,.bl b=>a==(if b then 1 else 0)
 | .int a,.int b=>a==b
 | .str a,.str b=>a==b
 | .lst as,.lst bs=>D.beqs as bs
 | .tup as,.tup bs=>D.beqs as bs
 | _,_=>false
abbrev D.beqs:List D->List D->Bool
 |[],[]=>true
 | a::as,b::bs=>D.beq a b&&D.beqs as bs
 | _,_=>false
end
mutual
abbrev D.dep:D->Nat
 | .lst as=>D.deps as+1
 | .tup as=>D.deps as+1
 | _=>0
abbrev D.deps:List D->Nat
 |[]=>0
 | a::as=>max (D.dep a) (D.deps as)
end
mutual
abbrev Has(K:ZA)(H:Hp):D->V->Prop
 | .non,x=>x= .non
 | .bl b,x=>x= .bl b
 | .int i,x=>x= .int i
 | .str z,x=>x= .str z
 | .lst ds,x=>∃a xs,x= .ref a/\JP K H a xs/\cC K H ds xs
 | .tup ds,x=>∃a xs,x= .ref a/\SqT K H a xs/\cC K H ds xs
abbrev cC(K:ZA)(H:Hp):List D->List V->Prop
 |[],xs=>xs=[]
 | d::ds,xs=>∃y ys,xs=y::ys/\Has K H d y/\cC K H ds ys
end
section
variable{K:ZA}{H H':Hp}
def cC.len:∀{ds:List D} {xs:List V},cC K H ds xs-> ~~~ds= ~~~xs
 |[],_,h=>by simp only[cC]at h;subst h;rfl
 | d::ds,_,h=>by
   let%[y,ys,rfl,_|a]:=h;rw[Zr,Zr,cC.len a]
def cC.get:∀{ds:List D} {xs:List V} {i:Nat} {x:V},cC K H ds xs->xs[i]?∣x->∃d,ds[i]?∣d/\Has K H d x
 |[],_,i,x,h,e=>by simp only[cC]at h;simp_all
 | d::ds,_,i,x,h,e=>by
   let%[y,ys,rfl,a|b]:=h;cases i with
   | zero=>simp at e;subst e;exact%[d,by simp|a]
   | succ i=>
     let%[c,f|g]:=cC.get b (e);exact%[c,f|g]
def ah.seqT(e:ah H H')(h:SqT K H a xs):SqT K H' a xs:=by
 rcases h with(h|⟨o,h⟩)|h
 .exact .inl (.inl (e _ _ h))
 .exact .inl (.inr %[o|e _ _ h])
 .exact .inr h
def D.beqs_all:∀(as bs:List D),~~~as= ~~~bs->(List.range as.length).all (λj=>D.beq (as.getD j .non) (bs.getD j .non))=D.beqs as bs
 |[],[],_=>by simp[D.beqs]
 | a::as,b::bs,h=>by
   let c:=D.beqs_all as bs ↑h;rw[Zr,List.range_succ_eq_map,all_cons,all_map];simp only[D.beqs];rw[<-c];rfl
def D.beqs_len:∀{as bs:List D},~~~as≠ ~~~bs->D.beqs as bs=false
 |[],[],h=>absurd rfl h
 |[],_::_,_=>by simp[D.beqs]
 | _::_,[],_=>by simp[D.beqs]
 | a::as,b::bs,h=>by
   simp only[D.beqs];rw[D.beqs_len (as:=as) (bs:=bs) ↑h,Bool.and_false]
end
section
#version
def JQ.seq_apart(I:JQ X ff σ H s)(h:JP X.K H a xs)(h':SqT X.K H b ys):a≠b:=by
 let%[its,r,p|_]:=I.list h;let%[its',d,c|_]:=I.tuple h';exact ne_of_list_tuple p.isList c
mutual
def Has.inj(I:JQ X ff σ H s):∀{d e:D} {x:V},Has X.K H d x->Has X.K H e x->D.beq d e=true
 | .non,e,x,h,h'=>by
   simp only[Has]at h;subst h;cases e<;> simp only[Has]at h'<;> first|rfl|(have%[_,_,q|_]:=h';cases q)|cases h'
   all_goals simp[D.beq]
 | .bl b,e,x,h,h'=>by
   simp only[Has]at h;subst h;cases e<;> simp only[Has]at h'<;> first|(have%[_,_,q|_]:=h';cases q)|cases h'
   all_goals simp[D.beq]
 | .int i,e,x,h,h'=>by
   simp only[Has]at h;subst h;cases e<;> simp only[Has]at h'<;> first|(have%[_,_,q|_]:=h';cases q)|cases h'
   all_goals simp[D.beq]
 | .str z,e,x,h,h'=>by
   simp only[Has]at h;subst h;cases e<;> simp only[Has]at h'<;> first|(have%[_,_,q|_]:=h';cases q)|cases h'
   all_goals simp[D.beq]
 | .lst ds,e,x,h,h'=>by
   simp only[Has]at h;let%[a,xs,rfl,q|r]:=h;cases e with
   | lst g=>
     simp only[Has]at h';let%[b,ys,e,c|f]:=h';cases e;let e:=I.list_inj q c;subst e;simp only[D.beq];exact cC.inj I r f
   | tup g=>
     simp only[Has]at h';let%[b,ys,e,c|f]:=h';cases e;exact absurd rfl (I.seq_apart q c)
   | _=>simp only[Has]at h';cases h'
 | .tup ds,e,x,h,h'=>by
   simp only[Has]at h;let%[a,xs,rfl,q|r]:=h;cases e with
   | tup g=>
     simp only[Has]at h';let%[b,ys,e,c|f]:=h';cases e;let e:=I.tuple_inj q c;subst e;simp only[D.beq];exact cC.inj I r f
   | lst g=>
     simp only[Has]at h';let%[b,ys,e,c|f]:=h';cases e;exact absurd rfl (I.seq_apart c q)
   | _=>simp only[Has]at h';cases h'
def cC.inj(I:JQ X ff σ H s):∀{ds a:List D} {xs:List V},cC X.K H ds xs->cC X.K H a xs->D.beqs ds a=true
 |[],a,xs,h,h'=>by
  simp only[cC]at h;subst h;cases a with
  | nil=>simp[D.beqs]
  | cons e a=>simp only[cC]at h';let%[_,_,q|_]:=h';cases q
 | d::ds,a,xs,h,h'=>by
   simp only[cC]at h;let%[y,ys,rfl,f|g]:=h;cases a with
   | nil=>simp only[cC]at h';cases h'
   | cons e a=>
     simp only[cC]at h';let%[j,i,q,b|c]:=h';cases q;simp only[D.beqs];rw[Has.inj I f b,cC.inj I g c];rfl
end
def kc(w:cC X.K H ds xs)(z:cC X.K H c ys)(f:aD xs us)(g:aD ys vs)
 (B:∀(j:Nat) d e x y u v,ds[j]?∣d->c[j]?∣e->Has X.K H d x->Has X.K H e y->aJ x u->aJ y v->EqAt A s u v (D.beq d e)) (j:Nat) (C:j<us.toArray.size) (E:j<vs.toArray.size):
 EqAt A s us.toArray[j] vs.toArray[j] (D.beq (ds.getD j .non) (c.getD j .non)):=by
 let h:j< ~~~us:=↑C
 let l:j< ~~~vs:=↑E
 let m:j< ~~~xs:=by rw[~~~f];exact h
 let n:j< ~~~ys:=by rw[~~~g];exact l
 let%[d,o|a]:=w.get (i:=j) (x:=xs[j]) (by simp[m]);let%[e,p|b]:=z.get (i:=j) (x:=ys[j]) (by simp[n]);let%[u,q|G]:=f.get (i:=j) (x:=xs[j]) (by simp[m]);let%[v,r|I]:=g.get (i:=j) (x:=ys[j]) (by simp[n]);let J:us.toArray[j]=u:=by
  let:us[j]?∣us[j]:=by simp[h]
  rw[this]at q;simpa using Za q
 let L:vs.toArray[j]=v:=by
  let:vs[j]?∣vs[j]:=by simp[l]
  rw[this]at r;simpa using Za r
 rw[J,L,Zc,Zc,o,p];exact B j d e _ _ u v o p a b G I
def BU(I:JQ X ff σ H s)(q:JP X.K H a xs)(g:cC X.K H ds xs)(r:JP X.K H b ys)(h:cC X.K H c ys)(i:A.units<cLine)
 (w:∀(j:Nat) d e x y u v,ds[j]?∣d->c[j]?∣e->Has X.K H d x->Has X.K H e y->aJ x u->aJ y v->EqAt A.in1 s u v (D.beq d e)):RcAt A s (.ref a) (.ref b) (D.beqs ds c):=by
 let%[us,l,m|_]:=I.list q;let%[vs,n,o|_]:=I.list r;let n1:us.toArray.size= ~~~ds:=by rw[Zp,<-l.length,g.len]
 let p:vs.toArray.size= ~~~c:=by rw[Zp,<-n.length,h.len]
 by_cases f: ~~~ds= ~~~c
 .rw[<-D.beqs_all ds c f,<-n1];exact RcAt.lists m.isList o.isList (by rw[n1,p,f]) i (kc g h l n w)
 .rw[D.beqs_len f];exact RcAt.lists_lengths m.isList o.isList (by rw[n1,p];simpa using f) i
def EI(I:JQ X ff σ H s)(o:SqT X.K H a xs)(h:cC X.K H ds xs)(p:SqT X.K H b ys)(i:cC X.K H f ys)(q:A.units<cLine)
 (r:∀(j:Nat) d e x y u v,ds[j]?∣d->f[j]?∣e->Has X.K H d x->Has X.K H e y->aJ x u->aJ y v->EqAt A.in1 s u v (D.beq d e)):RcAt A s (.ref a) (.ref b) (D.beqs ds f):=by
 let%[us,m,w|_]:=I.tuple o;let%[vs,n,z|_]:=I.tuple p;let n1:us.toArray.size= ~~~ds:=by rw[Zp,<-m.length,h.len]
 let B:vs.toArray.size= ~~~f:=by rw[Zp,<-n.length,i.len]
 let c:=RcAt.tuples (A:=A) (s:=s) (l:=a) (b:=b) (items:=us.toArray) (items2:=vs.toArray) w z q (kc h i m n r);rw[n1,B]at c;by_cases g: ~~~ds= ~~~f
 .rw[<-g,Nat.min_self,D.beqs_all ds f g]at c;simpa using c
 .rw[D.beqs_len g];let e:(~~~ds== ~~~f)=false:=↑g
  rw[e,Bool.and_false]at c;exact c
def dh:∀{ds:List D} {j:Nat} {d:D},ds[j]?∣d->D.dep d<=D.deps ds
 |[],_,_,h=>by simp at h
 | a::as,0,d,h=>by
   simp at h;subst h;simp only[D.deps];exact Nat.le_max_left _ _
 | a::as,j+1,d,h=>by
   let:=dh (ds:=as) (j:=j) (d:=d) ↑h;simp only[D.deps];exact Nat.le_trans this (Nat.le_max_right _ _)
def uT(I:JQ X ff σ H s):∀(n:Nat) {d e:D} {x y:V} {u v:Value} {A:Around},D.dep d<=n->A.units+n<cLine->Has X.K H d x->Has X.K H e y->aJ x u->aJ y v->EqAt A s u v (D.beq d e):=by
 intro n
 induction n with
 | zero=>
   intro d e x y u v A C U h c o g;let f:A.units<cLine:=by lia
   cases d with
   | lst ds=>exact absurd C (by simp[D.dep])
   | tup ds=>exact absurd C (by simp[D.dep])
   | non=>
     simp only[Has]at h;subst h;cases o;cases e with
     | non=>simp only[Has]at c;subst c;cases g;simp only[D.beq];exact EqAt.same _
     | bl j=>simp only[Has]at c;subst c;cases g;simp only[D.beq];exact EqAt.none_bool _
     | int j=>simp only[Has]at c;subst c;let%[_|rfl]:=g;simp only[D.beq];exact EqAt.none_int _ _
     | str j=>simp only[Has]at c;subst c;let%[_|rfl]:=g;simp only[D.beq];exact EqAt.none_str _ _
     | lst j=>simp only[Has]at c;let%[b,ys,rfl,q|_]:=c;cases g;let%[vs,_,p|_]:=I.list q;simp only[D.beq];exact EqAt.none_list p.isList f
     | tup j=>simp only[Has]at c;let%[b,ys,rfl,q|_]:=c;cases g;let%[vs,_,p|_]:=I.tuple q;simp only[D.beq];exact EqAt.none_tuple p f
   | bl i=>
     simp only[Has]at h;subst h;cases o;cases e with
     | non=>simp only[Has]at c;subst c;cases g;simp only[D.beq];exact EqAt.bool_none _
     | bl j=>simp only[Has]at c;subst c;cases g;simp only[D.beq];exact EqAt.bool_bool _ _
     | int j=>simp only[Has]at c;subst c;let%[_|rfl]:=g;simp only[D.beq];exact EqAt.bool_int _ _ _
     | str j=>simp only[Has]at c;subst c;let%[_|rfl]:=g;simp only[D.beq];exact EqAt.bool_str _ _ _
     | lst j=>simp only[Has]at c;let%[b,ys,rfl,q|_]:=c;cases g;let%[vs,_,p|_]:=I.list q;simp only[D.beq];exact EqAt.bool_list _ p.isList f
     | tup j=>simp only[Has]at c;let%[b,ys,rfl,q|_]:=c;cases g;let%[vs,_,p|_]:=I.tuple q;simp only[D.beq];exact EqAt.bool_tuple _ p f
   | int i=>
     simp only[Has]at h;subst h;let%[_|rfl]:=o;cases e with
     | non=>simp only[Has]at c;subst c;cases g;simp only[D.beq];exact EqAt.int_none _ _
     | bl j=>simp only[Has]at c;subst c;cases g;simp only[D.beq];exact EqAt.int_bool _ _ _
     | int j=>simp only[Has]at c;subst c;let%[_|rfl]:=g;simp only[D.beq];exact EqAt.int_int _ _ _ _
     | str j=>simp only[Has]at c;subst c;let%[_|rfl]:=g;simp only[D.beq];exact EqAt.int_str _ _ _ _
     | lst j=>simp only[Has]at c;let%[b,ys,rfl,q|_]:=c;cases g;let%[vs,_,p|_]:=I.list q;simp only[D.beq];exact EqAt.int_list _ _ p.isList f
     | tup j=>simp only[Has]at c;let%[b,ys,rfl,q|_]:=c;cases g;let%[vs,_,p|_]:=I.tuple q;simp only[D.beq];exact EqAt.int_tuple _ _ p f
   | str i=>
     simp only[Has]at h;subst h;let%[_|rfl]:=o;cases e with
     | non=>simp only[Has]at c;subst c;cases g;simp only[D.beq];exact EqAt.str_none _ _
     | bl j=>simp only[Has]at c;subst c;cases g;simp only[D.beq];exact EqAt.str_bool _ _ _
     | int j=>simp only[Has]at c;subst c;let%[_|rfl]:=g;simp only[D.beq];exact EqAt.str_int _ _ _ _
     | str j=>simp only[Has]at c;subst c;let%[_|rfl]:=g;simp only[D.beq];exact EqAt.str_str _ _ _ _
     | lst j=>simp only[Has]at c;let%[b,ys,rfl,q|_]:=c;cases g;let%[vs,_,p|_]:=I.list q;simp only[D.beq];exact EqAt.str_list _ _ p.isList f
     | tup j=>simp only[Has]at c;let%[b,ys,rfl,q|_]:=c;cases g;let%[vs,_,p|_]:=I.tuple q;simp only[D.beq];exact EqAt.str_tuple _ _ p f
 | succ n G=>
   intro d e x y u v A C U h c o g;by_cases T:D.dep d<=n
   .exact G T ⋯ h c o g
   let f:A.units<cLine:=by lia
   cases d with
   | lst ds=>
     simp only[Has]at h;let%[a,xs,rfl,q|r]:=h;cases o;let J:D.deps ds<=n:=by simp only[D.dep]at C;lia
     cases e with
     | lst L=>
       simp only[Has]at c;let%[b,ys,rfl,m|E]:=c;cases g;simp only[D.beq];by_cases l:a=b
       .subst l;let e:=I.list_inj q m;subst e;rw[cC.inj I r E];exact EqAt.same _
       .exact EqAt.of_refs l (BU I q r m E f λj d e x y u v w M z B N O=>G (Nat.le_trans (dh w) J) (by change A.units+1+n<cLine;lia) z B N O)
     | tup L=>
       simp only[Has]at c;let%[b,ys,rfl,m|_]:=c;cases g;let%[us,_,p|_]:=I.list q;let%[vs,_,Q|_]:=I.tuple m;simp only[D.beq];exact EqAt.list_tuple p.isList Q f
     | non=>simp only[Has]at c;subst c;cases g;let%[us,_,p|_]:=I.list q;simp only[D.beq];exact EqAt.list_none p.isList f
     | bl k=>simp only[Has]at c;subst c;cases g;let%[us,_,p|_]:=I.list q;simp only[D.beq];exact EqAt.list_bool _ p.isList f
     | int k=>simp only[Has]at c;subst c;let%[t'|rfl]:=g;let%[us,_,p|_]:=I.list q;simp only[D.beq];exact EqAt.list_int _ _ p.isList f
     | str k=>simp only[Has]at c;subst c;let%[t'|rfl]:=g;let%[us,_,p|_]:=I.list q;simp only[D.beq];exact EqAt.list_str _ _ p.isList f
   | tup ds=>
     simp only[Has]at h;let%[a,xs,rfl,q|r]:=h;cases o;let J:D.deps ds<=n:=by simp only[D.dep]at C;lia
     cases e with
     | tup L=>
       simp only[Has]at c;let%[b,ys,rfl,m|E]:=c;cases g;simp only[D.beq];by_cases l:a=b
       .subst l;let e:=I.tuple_inj q m;subst e;rw[cC.inj I r E];exact EqAt.same _
       .exact EqAt.of_refs l (EI I q r m E f λj d e x y u v w M z B N O=>G (Nat.le_trans (dh w) J) (by change A.units+1+n<cLine;lia) z B N O)
     | lst L=>
       simp only[Has]at c;let%[b,ys,rfl,m|_]:=c;cases g;let%[us,_,p|_]:=I.tuple q;let%[vs,_,Q|_]:=I.list m;simp only[D.beq];exact EqAt.tuple_list p Q.isList f
     | non=>simp only[Has]at c;subst c;cases g;let%[us,_,p|_]:=I.tuple q;simp only[D.beq];exact EqAt.tuple_none p f
     | bl k=>simp only[Has]at c;subst c;cases g;let%[us,_,p|_]:=I.tuple q;simp only[D.beq];exact EqAt.tuple_bool _ p f
     | int k=>simp only[Has]at c;subst c;let%[t'|rfl]:=g;let%[us,_,p|_]:=I.tuple q;simp only[D.beq];exact EqAt.tuple_int _ _ p f
     | str k=>simp only[Has]at c;subst c;let%[t'|rfl]:=g;let%[us,_,p|_]:=I.tuple q;simp only[D.beq];exact EqAt.tuple_str _ _ p f
   | _=>exact absurd (Xg n) T
end
open PySem PySem.Spec PyProof.Rows PySem.SeqAt
def xu{X:Cx}(J:X.N.Nodup)(u:X.N[i]?∣x)(L:Loc X.env.scope x)(M:X.fn x=true\/X.env.scope.names.lookup x∣.local)
 (w:swapsWith (.ListComp l [%[y,iter,p|0]] a pos) (some (.Name x B)) f.line X.env=pure true) (S:aA X a r A) (N:X.calm=true) (O:∀x,foldedSetIterable iter X.env x=pure x) (hi:PI X y iter Q)
 (T:∀c d j,PG (b8 X a r c d j) y g) (U:∀c d j,PTs (b8 X a r c d j) p Y) (he:∀c d j,PE (b8 X a r c d j) l te):
 PS X (.Assign [.Name x B] (.ListComp l [%[y,iter,p|0]] a pos) f) (pY (qT Q r.length A g Y te) (jC i)):=by
 intro ff s σ H D I h;show Z2 (wpAny_standAt ?_);change wpAny _ _ (swapsWith (.ListComp l _ a pos) (some (.Name x B)) f.line X.env>>= _) _ _ _;rw[w];show Z2 (Z3 (Z2 (Z2 (qU S N hi T U he O I h λD' C H5 s6 fl m hn j k q=>?_))));let%[o,es,ep,E,hd|hr]:=id hn;let I7:=(k s6.heap (SameBut.refl _ _)).pinned (λb n=>(Xp n)▸j) λb n=>by
  rw[Xp n];exact%[o,E|λv z=>by lia]
 show wpAny_assign_Name (j4 I7 J u L (v:= .ref D') rfl (λs8 G=>%[m,%[o,es,ep,((G.pin _ (Yx _ (Yx _ (eX (mem_singleton.mpr rfl) E)))).1),hd|hr]|λh' sb=>Z3 (Z3 %[_,H5,(G.unpinned).moved (λb n=>(Xp n)▸j) λb o' n e=>(sb.2 b (λz=>n (mem_singleton.mpr z))).trans e|q])]) M)
def z8(h:(env.blockKind== .function&&env.kindOf x==some .local&&b.line==pos.line&&!(a.names.any λ(n,k)=>n==x&&(k== .local||k== .cell)))=true):
 swapsWith (.ListComp c gens a pos) (some (.Name x b)) l env=pure true:=by
 change(pure (env.blockKind== .function&&env.kindOf x==some _&&b.line==pos.line&&!(a.names.any _)))=pure true;rw[h]
def iQ{X:Cx}(i:Nat)(q:X.N.Nodup)(f:X.N[i]?∣x)(r:Loc X.env.scope x)(s:X.fn x=true\/X.env.scope.names.lookup x∣.local)
 (h:(X.env.blockKind== .function&&X.env.kindOf x==some .local&&u.line==pos.line&&!(c.names.any λ(n,k)=>n==x&&(k== .local||k== .cell)))=true) (S:aA X c e j) (v:X.calm=true) (w:nZ iter=false) (hi:QI X o iter y)
 (z:∀a b d,QG (b8 X c e a b d) o g) (A:∀a b d,QTs (b8 X c e a b d) l B) (C:∀a b d,QE (b8 X c e a b d) m te):
 QS X (.Assign [.Name x u] (.ListComp m [%[o,iter,l|0]] c pos) p) (pY (qT y e.length j g B te) (jC i)):=
 ⟨xu q f r s (z8 h) S v (lA w) hi.h (λa b d=>(z a b d).h) (λa b d=>(A a b d).h) (λa b d=>(C a b d).h)⟩
section
#version
def BV(I:JQ X ff σ H s)(q:JP X.K H a xs)(g:cC X.K H ds xs)(r:JP X.K H b ys)(h:cC X.K H c ys)(i:A.units<cLine)
 (w:∀(j:Nat) d e x y u v,ds[j]?∣d->c[j]?∣e->Has X.K H d x->Has X.K H e y->aJ x u->aJ y v->EqAt A.in1 s u v (D.beq d e)):RcNeAt A s (.ref a) (.ref b) (!D.beqs ds c):=by
 let%[us,l,m|_]:=I.list q;let%[vs,n,o|_]:=I.list r;let n1:us.toArray.size= ~~~ds:=by rw[Zp,<-l.length,g.len]
 let p:vs.toArray.size= ~~~c:=by rw[Zp,<-n.length,h.len]
 by_cases f: ~~~ds= ~~~c
 .rw[<-D.beqs_all ds c f,<-n1];exact RcNeAt.lists m.isList o.isList (by rw[n1,p,f]) i (kc g h l n w)
 .rw[D.beqs_len f];exact RcNeAt.lists_lengths m.isList o.isList (by rw[n1,p];simpa using f) i
def EJ(I:JQ X ff σ H s)(o:SqT X.K H a xs)(h:cC X.K H ds xs)(p:SqT X.K H b ys)(i:cC X.K H f ys)(q:A.units<cLine)
 (r:∀(j:Nat) d e x y u v,ds[j]?∣d->f[j]?∣e->Has X.K H d x->Has X.K H e y->aJ x u->aJ y v->EqAt A.in1 s u v (D.beq d e)):RcNeAt A s (.ref a) (.ref b) (!D.beqs ds f):=by
 let%[us,m,w|_]:=I.tuple o;let%[vs,n,z|_]:=I.tuple p;let n1:us.toArray.size= ~~~ds:=by rw[Zp,<-m.length,h.len]
 let B:vs.toArray.size= ~~~f:=by rw[Zp,<-n.length,i.len]
 let c:=RcNeAt.tuples (A:=A) (s:=s) (l:=a) (b:=b) (items:=us.toArray) (items2:=vs.toArray) w z q (kc h i m n r);rw[n1,B]at c;by_cases g: ~~~ds= ~~~f
 .rw[<-g,Nat.min_self,D.beqs_all ds f g]at c;simpa using c
 .rw[D.beqs_len g];let e:(~~~ds== ~~~f)=false:=↑g
  rw[e,Bool.and_false]at c;exact c
end
section
variable{X:Cx}{K:ZA}
nonrec abbrev G1(K:ZA):R2:=λx y H Q=>∃ds a,Has K H (.lst ds) x/\Has K H (.lst a) y/\D.deps ds<=40/\Q (.bl (!D.beqs ds a)) H
nonrec abbrev G3(K:ZA):R2:=λx y H Q=>∃ds a,Has K H (.tup ds) x/\Has K H (.tup a) y/\D.deps ds<=40/\Q (.bl (!D.beqs ds a)) H
def G4(B:X.A.units+64<cLine):OpR X (compareOp .NotEq) (G1 X.K):=by
 intro ff s C H x y v u Q I m n h;let%[ds,E,c,f,o|q]:=h;simp only[Has]at c f;let%[a,xs,rfl,p|c]:=c;let%[b,ys,rfl,r|f]:=f;cases m;cases n;exact BV I p c r f ⋯ (λj d e x y u v g w i l z A=>uT I 40 (Nat.le_trans (dh g) o) (by change X.A.units+1+40<cLine;lia) i l z A) _ _ _ _ %[.bl _,H,I,rfl|q]
def G5(B:X.A.units+64<cLine):OpR X (compareOp .NotEq) (G3 X.K):=by
 intro ff s C H x y v u Q I m n h;let%[ds,E,c,f,o|q]:=h;simp only[Has]at c f;let%[a,xs,rfl,p|c]:=c;let%[b,ys,rfl,r|f]:=f;cases m;cases n;exact EJ I p c r f ⋯ (λj d e x y u v g w i l z A=>uT I 40 (Nat.le_trans (dh g) o) (by change X.A.units+1+40<cLine;lia) i l z A) _ _ _ _ %[.bl _,H,I,rfl|q]
nonrec abbrev I0(K:ZA):R2:=λx y H Q=>rNe x y H Q\/(G1 K x y H Q\/G3 K x y H Q)
def BW(h:X.K=K)(a:bM k X.A):OpQ X (compareOp .NotEq) (I0 K):=by subst h;exact⟨FB.or ((G4 a.units).or (G5 a.units))⟩
def cC.strs:∀(ss:ZB),cC K H (ss.map D.str) (ss\3)
 |[]=>by simp only[map_nil,cC]
 | z::r=>by
   exact%[_,_,ρ,by simp only[Has]|cC.strs r]
def Has.strs{ss:ZB}(h:JP K H a (ss\3)):Has K H (.lst (ss.map D.str)) (.ref a):=by
 exact%[a,_,ρ,h|cC.strs ss]
def lD:∀(ss:ZB),D.deps (ss.map D.str)=0
 |[]=>rfl
 | z::r=>by simp only[Yr,D.deps,D.dep,lD r];rfl
def lE:∀(xs ys:ZB),D.beqs (xs.map D.str) (ys.map D.str)=decide (xs=ys)
 |[],[]=>by simp[D.beqs]
 |[],y::ys=>by simp[D.beqs]
 | x::xs,[]=>by simp[D.beqs]
 | x::xs,y::ys=>by
   simp only[Yr,D.beqs,D.beq,lE xs ys];by_cases a:x=y
   .subst a;by_cases b:xs=ys
    .subst b;simp
    .simp[b]
   .let:(x==y)=false:=↑a
    simp[this,a]
end
open PySem PySem.Spec PyProof.Rows
def cb:Slot "set_iterator" "__next__" "set_iterator.__next__":=
 .of (owner:="set_iterator") (n:="__next__") (by rw[typeLookup_type,builtinLookup_eq_fast];kernel_rfl) (!0) (!0) (!0) (by first|exact .inl (!0)|exact .inr ∅) (by kernel_rfl)
def fZ:entryFor table "set_iterator.__next__"=some Builtin.«set_iterator.__next__»:=entryFor_of_tree (by kernel_rfl)
def iy(a:Value):argsOk "set_iterator.__next__" %[[a]|[]]:=by kernel_rfl
def qd:entryFor table "set.__iter__"=some Builtin.«frozenset.__iter__»:=entryFor_alias (id':="frozenset.__iter__") (by kernel_rfl) rfl (!0) (by kernel_rfl)
def qe(t:SetTable)(n:Nat):(t.orStandIn n).led=t.led:=by unfold SetTable.orStandIn;split<;> rfl
def xv(t:SetTable)(a:Array _)(h:Int)(x:Value):(layNew t a h x).2.1.led=t.led:=by
 unfold layNew;cases t.freeSlot h with
 | none=>rfl
 | some p=>
   exact qe _ _
def tf(t:SetTable)(c:Array _)(n:Nat):(relayAll t c n).2.1.led=t.led:=by
 unfold relayAll;cases a:t.relaid _ n with
 | none=>rfl
 | some p=>
   let%[t'|d]:=p;simp only
   split
   .simp only[SetTable.relaid,SetTable.laid]at a;cases b:SetTable.layClean _ _ with
    | none=>rw[b]at a;cases a
    | some f=>rw[b]at a;injection a with a;injection a with e g;rw[<-e]
   .rfl
def oh(t:SetTable)(c:Array _)(n:Nat)(d:t.plain=false):(relayAll t c n).2.1.plain=false:=by
 unfold relayAll;cases a:t.relaid _ n with
 | none=>rfl
 | some p=>
   let%[t'|e]:=p;simp only
   split
   .simp only[SetTable.relaid,SetTable.laid]at a;cases b:SetTable.layClean _ _ with
    | none=>rw[b]at a;cases a
    | some g=>rw[b]at a;injection a with a;injection a with f h;exact f▸d
   .rfl
abbrev a9(w:World):Bool:=w.params.followText "set-order"
abbrev bz(w:World)(a:Addr)(ks:ZB)(h:Heap):Prop:=
 ∃o b c t ss,h.get? a∣o/\o.ExactSet/\o.data= .set b c t/\StrsAre (b.toList\2) ss/\ss.Perm ks/\ks.Nodup/\(∀e∈b.toList,∃z u,e=(hashStr w z,.str z u))/\b.size<scanBound/\t.fits b.size=true/\(b.size≠0->t.plain=false)/\t.led=!a9 w
def q0(h:∀e∈l,∃z u,e=(hashStr w z,.str z u)):ElemsOf (aI prog w) l:=λe a=>by
 let%[z,u|rfl]:=h e a;exact%[%[Sum.inr z,dQ z u|ρ]|ρ]
def eA:∀{vs:ZF} {ss:ZB} {z:Str},StrsAre vs ss->((∃u,Value.str z u∈vs)↔z∈ss)
 | _,_,z,.nil=>by simp
 | _,_,z,.cons x t h=>by
   let b:=eA (z:=z) h
   constructor
   .rintro⟨u,a⟩;rcases mem_cons.mp a with e|e
    .injection e with c _;exact c▸Zm
    .exact Zk _ (b.mp %[u|e])
   .intro d;rcases mem_cons.mp d with e|e
    .exact e▸%[t|Zm]
    .let%[u|a]:=b.mpr e;exact%[u|Zk _ a]
def iR:∀{vs ws:ZF} {ss ts:ZB},StrsAre vs ss->StrsAre ws ts->StrsAre (vs++ws) (ss++ts)
 | _,_,_,_,.nil,h=>h
 | _,_,_,_,.cons x t h,h'=> .cons x t (iR h h')
def bT:∀{vs:ZF} {ss:ZB},StrsAre vs ss-> ~~~vs= ~~~ss
 | _,_,.nil=>rfl
 | _,_,.cons x t h=>by rw[Zr,Zr,bT h]
def cg(h:StrsAre vs ss)(p:ws.Perm vs):∃ts,StrsAre ws ts/\ts.Perm ss:=by
 show%[ws.map strOf,strsAre_map ws λv a=>h.all v (p.mem_iff.mp a)|?_];let:=p.map strOf;rwa[h.strs]at this
section
#where
variable{a:Addr}
def bz.stored{h:Heap}{o:Obj}{i b:Array (Int×Value)}{t t':SetTable}(j:h.get? a∣o)(c:o.ExactSet)(d:o.data= .set i f t)(l:StrsAre (b.toList\2) ss)(m:ss.Perm ks)(n:ks.Nodup)
 (p:∀e∈b.toList,∃z u,e=(hashStr w z,.str z u)) (r:b.size<scanBound) (v:t'.fits b.size=true) (y:t'.plain=false) (B:t'.led=!a9 w):
 (h.update a (Obj.putSet b t')).get? a=some {o with data:= .set b (f+1) t'}/\bz w a ks (h.update a (Obj.putSet b t')):=by
 let g:=by
  let q:=get?_update_self (Obj.putSet b t') j (by rw[putSet_of b t' d];rfl);rwa[putSet_of b t' d]at q
 exact%[g,_,b,f+1,t',ss,g,c,ρ,l,m,n,p,r,v,λ_=>y|B]
def uU{g:Bool->Sem Unit}(N:∀(b:Bool) (h:Shared) (q:Unit->Shared->Prop),q () h->↥A (g b) q E h){m:Bool}{R:Option Bool->Shared->Prop}(r:s.heap.get? a∣o)(i:o.ExactSet)(v:o.data= .set es ep t)
 (y:StrsAre (c.toList\2) ss) (B:ss.Perm ks) (C:ks.Nodup) (G:∀e∈c.toList,∃z u,e=(hashStr w z,.str z u)) (j:c.size<scanBound) (O:d.fits c.size=true) (H:d.plain=false) (I:d.led=!a9 w)
 (J:∀h',SameBut a s.heap h'->bz w a ks h'->R (some true) (s>>>h')):
 ↥A (do
  storeSet a c d
  if(!m&&d.tooFull)=true then do
   g (relayAll d c (SetTable.grown c.size)).2.2
   storeSet a (relayAll d c (SetTable.grown c.size)).1 (relayAll d c (SetTable.grown c.size)).2.1
   pure (some true)
  else pure (some true)) R E s:=by
 let%[g1|Q]:=bz.stored r i v y B C G j O H I;let M:=SameBut.update s.heap a (Obj.putSet c d);show Z2 (wpAny_storeSet_of r v ?_ (fits_of_scanBound j))
 split
 .let p:=relayAll_perm d c (SetTable.grown c.size);let f:=relayAll_fits d c (SetTable.grown c.size);let l:=tf d c (SetTable.grown c.size);let pl:=oh d c (SetTable.grown c.size) H
  generalize relayAll d c _=L at p f l pl ⊢
  let%[n,t3|gv]:=L;let z:n.size=c.size:=by rw[<-Zb,p.length_eq,Zb]
  let%[ts,T|U]:=cg y (p.map _);exact Z2 (N _ _ _ (Z2 (wpAny_storeSet_of g1 rfl (Z3 (J _ (M.trans (SameBut.update _ a _)) (bz.stored g1 i rfl T (U.trans B) C (λe Y=>G e (p.mem_iff.mp Y)) (by rw[z];exact j) f pl (l.trans I)).2)) (fits_of_scanBound (by rw[z];exact j)))))
 .exact Z3 (J _ M Q)
def ke{ks:ZB}(hS:bz w a ks s.heap)(r: ~~~ks+1<scanBound)
 (hQ:∀h' b,SameBut a s.heap h'->bz w a (if z∈ks then ks else ks++[z]) h'->Q b (s>>>h')):↥A (setAddHashed a (.str z tk) (hashStr w z)) Q E s:=by
 let%[o,c,ep,t,ss,C,v,G,g,hp,H,h,hb,hf,ab|d]:=hS;let hn:c.size= ~~~ks:=by
  let q:=bT g;rw[Z6,Zb,hp.length_eq]at q;exact q
 let hE:ElemsOf (aI prog w) c.toList:=q0 h;let I:(aI prog w).is (Sum.inr z) (.str z tk)=true:=dQ z tk;unfold setAddHashed setAddHashedIn;show wpAny_holding (Z2 (wpAny_setState_of C G hf ?_));dsimp only;rw[byScan_of (knd:=aI prog w) rfl hb hE];simp only[↓reduceIte];unfold setAddByScan;show Z2 (Z2 (wpAny_rule (Z2 (wpAny_setScan_of I C G hf hE ?_))));let J:(∃e∈c.toList,(aI prog w).is (Sum.inr z) e.2=true)↔z∈ks:=by
  rw[<-hp.mem_iff,<-eA g]
  constructor
  .rintro⟨e,l,q⟩;let%[y,u|rfl]:=h e l;let q:jA (Sum.inr z) (Value.str y u)=true:=q;rcases be q with⟨i,t',q1,m⟩|⟨y',t',q1,m⟩
   .cases m
   .cases q1;exact%[u|Xr ⟨_,l,by injection m with e1 _;rw[e1]⟩]
  .rintro⟨u,hu⟩;let%[e,l|q]:=Xq hu;exact%[e,l|q▸dQ z u]
 cases hr:List.findIdx? _ c.toList with
 | some j=>
   let%[hj,ac|_]:=List.findIdx?_eq_some_iff_getElem.mp hr;let hz:=J.mp %[c.toList[j],Yc hj|ac];let q:=hQ s.heap false (SameBut.refl a s.heap) ((if_pos hz)▸%[o,c,ep,t,ss,C,v,G,g,hp,H,h,hb,hf,ab|d]);exact Z3 (Z3 q)
 | none=>
   let hz:z∉ks:=λq=>by
    let%[e,l|m]:=J.mpr q;let:=List.findIdx?_eq_none_iff.mp hr e l;rw[m]at this;cases this
   rw[if_neg hz]at hQ;let M:=layNew_perm t c (hashStr w z) (.str z tk);let lf:=layNew_fits t c (hashStr w z) (.str z tk);let ll:=xv t c (hashStr w z) (.str z tk)
   generalize hL:layNew t c _ _=L at M lf ll
   let%[B,t1,al|ai]:=L;rw[toList_push]at M;let gone:∀b f Q',Q' () f->↥A (match b with|true=>rule "set.scan.the-table-gave-way"|false=>pure ()) Q' E f:=λb f Q' q=>by
    cases b
    .exact Z3 q
    .exact wpAny_rule q
   let n:∀e∈B.toList,∃z u,e=(hashStr w z,.str z u):=λe l=>by
    rcases Xo (M.mem_iff.mp l)with q|q
    .exact h e q
    .rw[Xp q];exact%[z,tk|ρ]
   let q1:StrsAre ((c.toList++[(hashStr w z,Value.str z tk)])\2) (ss++[z]):=by
    rw[Zd];exact iR g (.cons z tk .nil)
   let%[ts,m|q3]:=cg q1 (M.map _);let N:=q3.trans (hp.append_right _);let p:=ny H hz;let ag:B.size=c.size+1:=by rw[<-Zb,M.length_eq,Z9,Zb];rfl
   let O:B.size<scanBound:=by rw[ag,hn];exact r
   let T:∀h',SameBut a s.heap h'->bz w a _ h'->↥A _ Q E _:=λh' U Y=>Z3 (hQ h' true U Y)
   show Z2 (gone _ _ _ ?_);cases aa:t1.plain with
   | true=>
     exact Z2 (Z3 (uU gone C v G m N p n O (SetTable.fits_plain_off lf) rfl (ll.trans d) λh' U Y=>T h' U Y))
   | false=>
     exact uU gone C v G m N p n O lf aa (ll.trans d) λh' U Y=>T h' U Y
def uV(d:bz w a ks s.heap)(c: ~~~ks+1<scanBound)
 (e:∀h' b,SameBut a s.heap h'->bz w a (if z∈ks then ks else ks++[z]) h'->Q b {s with heap:=h',toks:=s.toks+1}):↥A (setAdd a (.str z tk)) Q E s:=by
 exact wpAny_holding (Z2 (wpAny_pyHash_str (ke d c e)))
end
open PySem PySem.Spec PyProof.Rows
abbrev m9(ks:ZB)(z:Str):ZB:=if z∈ks then ks else ks++[z]
abbrev aC(ss:ZB):ZB:=ss.foldl m9 []
def BX(ks:ZB)(z:Str): ~~~(m9 ks z)<= ~~~ks+1:=by
 unfold m9;split
 .lia
 .exact Z9▸Zi _
def BY:y∈m9 ks z↔y∈ks\/y=z:=by
 unfold m9;by_cases h:z∈ks
 .rw[if_pos h]
  simp_all
 .rw[if_neg h,Yu,X1]
def xw(h:ks.Nodup):(m9 ks z).Nodup:=by
 unfold m9;by_cases a:z∈ks
 .rw[if_pos a];exact h
 .rw[if_neg a];exact ny h a
def uW:∀{ss ks:ZB} {y:Str},y∈ss.foldl m9 ks↔y∈ks\/y∈ss
 |[],ks,y=>by simp
 | z::r,ks,y=>by
   rw[Y7,uW,BY,Yy]
   grind
def oi:∀{ss ks:ZB},ks.Nodup->(ss.foldl m9 ks).Nodup
 |[],_,h=>h
 | z::r,ks,h=>by
   rw[Y7];exact oi (xw h)
def aV:y∈aC ss↔y∈ss:=by unfold aC;rw[uW];simp
def bF(ss:ZB):(aC ss).Nodup:=oi X6
def uX:∀(ss ks:ZB),~~~(ss.foldl m9 ks)<= ~~~ks+ ~~~ss
 |[],ks=>by simp
 | z::r,ks=>by
   let a:=uX r (m9 ks z);let b:=BX ks z;rw[Y7,Zr]
   lia
def uY{ss:ZB}{i:Nat}{z:Str}(h:ss[i]?∣z):aC (ss.take (i+1))=m9 (aC (ss.take i)) z:=by
 unfold aC;rw[Xc,h,foldl_append];rfl
def bz.keep(S:bz w a ks h)(k:∀o,h.get? a∣o->h'.get? a∣o):bz w a ks h':=by
 let%[o,b,c,t,ss,d|r]:=S;exact%[o,b,c,t,ss,k o d|r]
section
variable{prog:Program}{w:World}{A:Around}{R:Result->Shared->Prop}{I:Addr}{fp wr:List Addr}{G:Array GenState->Array GenState->Prop}{n:Nat}{P:Nat->Value->Prop}{St:Nat->Shared->Prop}
def uZ(W:WalksS prog w A.in1 I fp wr G n P St)(S:Addr)(g:S∉fp){T:Nat->Heap->Prop}{V:Heap->Prop}(tk:∀i h h',T i h->(∀o,h.get? S∣o->h'.get? S∣o)->T i h')(y:∀h h',V h->(∀b o,b≠S->b∉wr->h.get? b∣o->h'.get? b∣o)->V h')
 (add:∀i v (a:Shared) (Q:Bool->Shared->Prop) (E:ZD),P i v->T i a.heap->V a.heap->(∀h' b t,SameBut S a.heap h'->T (i+1) h'->a.toks<=t->Q b {a with heap:=h',toks:=t})->↥A.in1 (setAdd S v) Q E a):
 ∀(k i:Nat) (s:Shared),n-i=k->i<=n->St i s->T i s.heap->V s.heap->
  (∀s',Moved (S::wr) G s s'->T n s'.heap->R (.ok (.ret .none)) s')->codeAny (model prog w) A (.builtin "set.update.loop" %[[.ref S,.ref I]|[]]) R s:=by
 let out:S∉wr:=λh=>g (W.sub _ h)
 let more:∀b∈wr,b∈S::wr:=λb c=>Zk _ c
 intro k
 induction k with
 | zero=>
   intro i s C hi st l z d;let e:i=n:=by lia
   subst e;show codeAny_builtin F.entry_set_update_loop ?_;rw[Around.under_plainId F.plain_set_update_loop _];change wpAny _ A.in1 (pyNext (.ref I)>>= _) _ _ s;show Z2 (W.done s _ _ st λa f=>?_);change wpAny _ A.in1 (ret Value.none) _ _ a;exact Z3 (d a (f.mono more) (tk _ _ _ l λo e=>f.heap S o out e))
 | succ k H=>
   intro i s C hi st l z d;let lt:i<n:=by lia
   show codeAny_builtin F.entry_set_update_loop ?_;rw[Around.under_plainId F.plain_set_update_loop _];change wpAny _ A.in1 (pyNext (.ref I)>>= _) _ _ s;show Z2 (W.item i s _ _ lt st λv a pv m f=>?_);let j:=y _ a.heap z λb o _ c e=>f.heap b o c e
   show Z2 (wpAny_holding (add i v a _ _ pv (tk _ _ _ l λo e=>f.heap S o out e) j λM b N p r B=>Z3 %[plainId_quiet F.plain_set_update_loop _|H (i+1) _ ⋯ lt (W.frame _ a _ _ m B λb c o e=>?_) r (y _ _ j λb o n _ e=>(p.2 b n).trans e) λJ L u=>?_]))
   .exact(p.2 b (λq:b=S=>g (q▸c))).trans e
   .exact d J (Moved.trans W.gtrans ((f.mono more).then_heap B λb o c e=>(p.2 b (λq:b=S=>c (q▸Zm))).trans e) L) u
end
section
#where
noncomputable abbrev bP(w:World):Obj:={cls:= .type "set",dict:=none,data:= .set #[] 0 (.fresh 0 0 (!a9 w))}
def BZ(a:Value)(h:Q₁ (.ref ⇑s) (s>>>s.heap.push (bP w))):
 codeAny (model prog w) A (.call (.builtin "set.__new__") %[[.type "set",a]|[]]) (wants Q₁ E) s:=by
 show codeAny_of_tree ?_;change wpAny _ A.in1 _ _ _ s;show Z2 (wpAny_of_eq (PySem.F.newCall_set_1 a) (Z3 %[plainId_quiet PySem.F.plain_set_new _|codeAny_builtin PySem.F.entry_set_new ?_]));unfold Builtin.«set.__new__» Builtin.Frozenset.newClass;let b:=sub_set_self;let%[c,g,d,tk|os]:=s;dsimp only
 wp_walk
 show wpAny_askSetting (Z3 ?_);dsimp only;simp only[newObj];exact Z2 (wpAny_alloc (Z3 (Z3 h)))
def bz.empty(e:h.get? a∣bP w):bz w a [] h:=
 %[_,#[],0,_,[],e,%[rfl,rfl|rfl],rfl,.nil,.nil,X6,λe b=>by simp at b,!1,rfl,λq=>absurd rfl q|rfl]
def mG{T:Nat->Heap->Prop}(hh:A.handled=none)(hl:s.heap.IsList l items)(t0:∀h,h.get? ⇑s∣bP w->T 0 h)(tk:∀i h h',T i h->(∀o,h.get? ⇑s∣o->h'.get? ⇑s∣o)->T i h')
 (add:∀i v (g:Shared) (Q:Bool->Shared->Prop) (E:ZD),items[i]?∣v->T i g.heap->(∀b o,s.heap.get? b∣o->g.heap.get? b∣o)->(∀h' b t,SameBut ⇑s g.heap h'->T (i+1) h'->g.toks<=t->Q b {g with heap:=h',toks:=t})->↥A.in1.in1.in1 (setAdd ⇑s v) Q E g)
 (hQ:∀(h':Heap) (tk:Nat),T items.size h'->(∀b o,s.heap.get? b∣o->h'.get? b∣o)->Q (.ref ⇑s) {s with heap:=h',toks:=tk}):
 ↥A (call (.type "set") [.ref l]) Q E s:=by
 let%[c,tl|aa]:=called_set.mro;let G:=called_set.made;let ab:=called_set.sub;show wpAny_call (codeAny_of_tree ?_);change wpAny _ _ (callAny (.type "set") _) _ _ _;show Z3 %[Code.quiet_builtin _ (!0)|codeAny_builtin F.entry_type_call ?_];rw[Around.under_plain (weight_type_call_type "set" [.ref l] []) rfl];let ag:=called_set.notType;let ai:=called_set.canCreate;let al:=PySem.F.typeCall_set_1 (.ref l)
 repeat any_goals first|assumption|wp_step
 show codeAny_mono (BZ (.ref l) (E:=E) (Q₁:=λobj j=>obj= .ref ⇑s/\j=(s>>>s.heap.push (bP w))) %[rfl|rfl]) λr j H=>?_
 cases r with
 | error e=>exact H
 | ok fl=>
   cases fl with
   | ret obj=>
     let%[rfl|rfl]:=H;let gS:(s.heap.push (bP w)).get? ⇑s∣bP w:=Zj _ rfl;let tS:Shared.TypeIs (s>>>s.heap.push (bP w)) (.ref ⇑s) "set":=%[_,gS|rfl]
     let an:=called_set.init.lookup;let aq:=called_set.init.bind (.ref ⇑s)
     repeat any_goals first|assumption|wp_step
     show codeAny_mono (codeAny_call_builtin (R:=wants (λr m=>r= .none/\∃h' tk,m={s with heap:=h',toks:=tk}/\T items.size h'/\(∀b o,s.heap.get? b∣o->h'.get? b∣o)) E) called_set.init.plain F.entry_set_init (check_set_init_1 tS ?_)) λu m a=>?_
     .let%[ol,gl,cl,nl|dl]:=hl;let%[ac,n,I|f]:=ol;simp only at cl dl;subst cl;subst dl;let J:(s.heap.push (bP w)).get? l=some {cls:= .type "list",dict:=n,data:= .seq items nl,slots:=f}:=Z7 _ gl;let as:=PySem.F.sub_list_set;let aR:=PySem.F.sub_list_frozenset;let aU:(Value.type "list"==Value.type "dict")=false:=!1
      let y:(s.heap.push (bP w)).IsList l items:=%[_,J,rfl,nl|rfl]
      unfold Builtin.«set.__init__»;unfold noKeywords;unfold Builtin.Frozenset.updateFrom
      generalize L:pyIter=PI
      wp_walk
      subst L;show wpAny_pyIter_list y (Z2 (wpAny_runValue ?_));let z:l<⇑s:=Zu gl;let h3:A.in1.in1.in1.handled=none:=by simp[hh]
      let B:(s.heap.push (bP w)).objs.size=⇑s+1:=Zq ..;let M:l≠(s.heap.push (bP w)).objs.size:=by rw[B];exact Zs (Yo z)
      let N:⇑s∉[(s.heap.push (bP w)).objs.size,l]:=by
       rw[B];simp only[Yy,X8,or_false,not_or];exact%[Zs (Yp _)|X2 z]
      show uZ ((Walks.list h3 _ l M items).toS) ⇑s N (V:=λh=>∀b o,s.heap.get? b∣o->h.get? b∣o) tk (λh h' v k b o e=>?_) (λi v g Q E pv t v' q=>add i v g Q E pv t v' q) (items.size-0) 0 _ ⋯ (Xg _)
       %[%[_,Zj _ rfl,rfl|rfl]|y.push _] (t0 _ (Z7 _ gS)) (λb o e=>Z7 _ (Z7 _ e)) ?_
      .let d:=Zu e;show k b o (Zs d) ?_ (v b o e);simp only[Yy,X8,or_false,B];exact Zs (Yo d)
      intro s3 C O;let%[h',g',d',U|Y]:=s3;let eg:g'=s.gens:=C.gens;let ed:d'=s.drawn:=C.drawn;let eo:Y=s.os:=C.os;subst eg;subst ed;subst eo;show Z3 ?_;change wpAny _ _ (ret Value.none) _ _ _;show Z3 %[rfl,h',U,rfl,O|λb o e=>?_];let d:=Zu e;show C.heap b o ?_ (Z7 _ (Z7 _ e));simp only[Yy,X8,or_false,not_or,B];exact%[Zs d|Zs (Yo d)]
     .cases u with
      | error e=>exact a
      | ok p=>
        cases p with
        | ret r=>
          let%[rfl,h',tk,rfl,O|k3]:=a
          repeat any_goals first|assumption|wp_step
          exact hQ _ _ O k3
        | _=>exact a.elim
   | _=>exact H.elim
end
section
variable{X:Cx}{K:ZA}
abbrev eL(w:World)(a:Addr)(ks:ZB):HO:= .ext (bz w a ks)
def B0(m:X.calm=true):bZ X (.type "set") (λxs H Q=>∃p ss,xs=[.ref p]/\JP X.K H p (ss\3)/\ ~~~ss<=4000/\∀l,H l=none->Q (.ref l) (JO H l (eL X.w l (aC ss)))):=by
 intro ff s G H xs us Q I r h;let%[p,ss,rfl,n,J|q]:=h;let%[u,rfl|w]:=cU r;cases w;let%[its,d,pl|L]:=I.list n;let a:=gM d;let f:its.toArray.size= ~~~ss:=bT a;show mG (T:=λi h=>bz X.w ⇑s (aC (ss.take i)) h) (I.ok.hd m) pl.isList (λh e=>bz.empty e) (λi h h' S k=>S.keep k) (λi v M Q E g y _ k=>?_) λh' tk S k=>?_
 .let lt:i< ~~~ss:=f▸(Array.getElem?_eq_some_iff.mp g).1;let%[u,z,t|rfl]:=d.get (i:=i) (x:= .str ss[i]) (by simp[lt]);obtain rfl:v=_:=Za (g.symm.trans ↑z);let q:=uX (ss.take i) [];rw[Ym]at q;show uV y (by change(aC (ss.take i)).length+1<4096;unfold aC;simp only[length_nil]at q;lia) λj b A c=>k j b _ A ?_ (Yg _)
  rw[uY (Z4 lt)];exact c
 .rw[f,Zn (Zi _)]at S;show%[.ref ⇑s,_,I.laid (o:=eL X.w ⇑s _) k (Zi _) %[S,?_|λN j B k1=>B.keep k1],ρ|q _ I.fresh];let%[o,_,_,_,_,C|_]:=S;exact%[o|C]
def rc(h:X.K=K)(hw:X.w=w)(a:X.calm=true):cq X (.type "set") (λxs H Q=>∃p ss,xs=[.ref p]/\JP K H p (ss\3)/\ ~~~ss<=4000/\∀l,H l=none->Q (.ref l) (JO H l (eL w l (aC ss)))):=by subst h;subst hw;exact⟨B0 a⟩
end
open PySem PySem.Spec PyProof.Rows
def gU:∀{xs:List a} {i:Nat} (h:i< ~~~xs),(xs[i]::xs.eraseIdx i).Perm xs
 | x::r,0,_=>by simp
 | x::r,i+1,h=>by
   exact(List.Perm.swap _ _ _).trans (.cons _ (gU ↑h))
section
#where
def z9(a:n≠0)(h:∀i d,i<n->Q i {s with drawn:=d}):↥A (choose b n) Q E s:=by
 intro c p _;exact%[a|h _ _ (mod_lt _ (pos_of_ne_zero a))]
def tq:∀(n:Nat) (xs:List b) (s:Shared) (Q:List b->Shared->Prop),~~~xs<=n->(∀ys d,ys.Perm xs->Q ys {s with drawn:=d})->↥A (drawOrder n xs) Q E s
 | 0,xs,s,Q,a,h=>by
   let e:=length_eq_zero_iff.mp (le_zero.mp a);subst e;exact Z3 (h [] s.drawn .nil)
 | n+1,[],s,Q,a,h=>Z3 (h [] s.drawn .nil)
 | n+1,x::r,s,Q,a,h=>by
   unfold drawOrder;show Z2 (z9 ∅ λi d hi=>?_);rw[(Z4 hi)];exact Z2 (tq n _ _ _ (by rw[List.length_eraseIdx];simp only[hi];simp_all) λys c p=>Z3 (h _ c ((List.Perm.cons _ p).trans (gU hi))))
end
def yO(next:Nat->Nat):∀(fuel k:Nat) (left:List a) (out:Array a),~~~left<=fuel->(pickOrder.go next fuel k left out).toList.Perm (out.toList++left)
 | 0,k,left,out,h=>by
   let e:=length_eq_zero_iff.mp (le_zero.mp h);subst e;rw[Zx];exact .refl _
 | fuel+1,k,[],out,h=>by
   unfold pickOrder.go;simp
 | fuel+1,k,x::r,out,h=>by
   unfold pickOrder.go;let hi:next k% ~~~(x::r)< ~~~(x::r):=mod_lt _ ∅;rw[Z4 hi];show(yO next fuel _ _ _ (by rw[List.length_eraseIdx];simp_all)).trans ?_;rw[toList_push,Ze];exact(List.Perm.refl _).append (gU hi)
def rg(next:Nat->Nat)(xs:Array a):(pickOrder next xs).toList.Perm xs.toList:=by
 let:=yO next xs.size 0 xs.toList #[] ∅;simpa [pickOrder]using this
def rh(p j:Nat):SetTable.below #[p] j=if p<j then 1 else 0:=by
 unfold SetTable.below;simp only[Zp,Zr];unfold SetTable.below.go;simp
 split<;>(rfl)
def xx(j:Nat):SetTable.below #[] j=0:=rfl
def rj{a:Type}{xs:Array a}(h:xs.size=1):∃p,xs= #[p]:=by
 obtain⟨l⟩:=xs
 match l,h with
 |[p],_=>exact%[p|ρ]
abbrev SIt(w:World)(I S T:Addr)(o:Obj)(b:Array (Int×Value))(c:Nat)(t:SetTable)(a:ZF)(i:Nat)(h:Heap):Prop:=
 h.get? S∣o/\∃first,h.get? I=some {cls:= .type "set_iterator",dict:=none,data:= .fields #[first,rawInt i,.ref S,rawInt b.size,rawInt c],slots:= #[]}/\
  ((a9 w=true/\first=rawInt 0/\a=(pickOrder (w.params.setOrder S c) b).toList\2)\/
   (a9 w=false/\first= .ref T/\T≠I/\∃ps:List Nat,h.get? T=some {cls:= .type "tuple",data:= .seq (ps.map λ(i:Nat)=>rawInt i).toArray}/\ ~~~ps= ~~~a/\∀(j p:Nat),ps[j]?∣p->∃e,b[p]?∣e/\a[j]?∣e.2)\/
   (a9 w=false/\b.size<=1/\a=b.toList\2/\(i=0->first=rawInt 0)/\(i=1->∃p:Nat,t.place[0]?∣p/\first=rawInt (p+1))))
def SIt.is{w:World}{I S T:Addr}{o:Obj}{b:Array _}{c:Nat}{t:SetTable}{a:ZF}{i:Nat}{s:Shared}(h:SIt w I S T o b c t a i s.heap):s.TypeIs (.ref I) "set_iterator":=by
 let%[_,f,d|_]:=h;exact%[_,d|ρ]
section
#where
variable{I S T:Addr}{o:Obj}{es:Array (Int×Value)}{ep:Nat}{t:SetTable}{ord:ZF}
def xy{i:Nat}{v:Value}{Q:Option Value->Shared->Prop}(y:o.data= .set es ep t)(h:t.fits es.size=true)(z:t.led=!a9 w)(j:S≠I)(st:SIt w I S T o es ep t ord i s.heap)(f:ord[i]?∣v)(hn: ~~~ord=es.size)
 (U:∀h',SIt w I S T o es ep t ord (i+1) h'->SameBut I s.heap h'->Q (some v) (s>>>h')):↥A (pyNext (.ref I)) Q E s:=by
 let hT:=st.is;let%[g,first,N|m]:=st;unfold pyNext;show Z2 (wpAny_attempt (wpAny_callSpecial?_slot (name:=!"__next__") hT cb (wpAny_call_entry cb hT fZ ?_ (iy _))));unfold Builtin.«set_iterator.__next__»;show Z2 (m:=slotArgs _ _ _) (Z3 ?_);show Z2 (wpAny_fieldsOf N rfl ?_);change wpAny _ _ (setEntries S>>= _) _ _ _;show Z2 (wpAny_setEntries_of g y h ?_);rw[if_neg ∅];rcases m with⟨c,rfl,B⟩|⟨c,rfl,C,ps,G,Y,H⟩|⟨c,h1,B,f0,f1⟩
 .change wpAny _ _ (setNext S 0 i ep>>= _) _ _ _;show Z2 ?_;unfold setNext;show Z2 (wpAny_setState_of g y h ?_);show Z2 (Z2 (wpAny_askSetting (Z3 ?_)));change wpAny _ _ (if a9 w=true then _ else _) _ _ _;rw[if_pos c];dsimp only;rw[if_neg (show ¬ ((ep != ep)=true) by simp)];show Z2 ?_;unfold setWalk;show Z2 (wpAny_setState_of g y h ?_);show Z2 (Z2 (wpAny_askSetting (Z3 ?_)));change wpAny _ _ (if a9 w=true then _ else _) _ _ _;rw[if_pos c];show Z2 (wpAny_askSetting (Z3 (Z3 ?_)));let d:(pickOrder (w.params.setOrder S ep) es)[i]?.map (·.2)∣v:=by
   rw[B]at f;simpa using f
  cases u:(pickOrder (w.params.setOrder S ep) es)[i]? with
  | none=>rw[u]at d;cases d
  | some e=>
    rw[u]at d;let J:e.2=v:=↑d
    change wpAny _ _ (match((pickOrder (w.params.setOrder S ep) es)[i]?).map λe=>(e.2,0)with|some (x,next)=>_|none=>_) _ _ _;rw[u];show Z2 (wpAny_setField_rec N ∅ λg1 b a=>?_);show Z2 (wpAny_setField_rec (s:=(s>>>g1)) b ∅ λg2 l n=>?_);rw[J];let L:SameBut I s.heap g2:=a.trans n;show Z3 %[v,rfl|Z3 (U g2 %[(L.2 S j).trans g,_,l|.inl %[c,rfl|B]] L)]
 .show Z2 (wpAny_seqItems G rfl ?_);let hi:i< ~~~ord:=(Xn f).1;let aa:i< ~~~ps:=by lia
  let%[e,O|ab]:=H i ps[i] ∅;let J:e.2=v:=by rw[ab]at f;exact Za f
  let M:(ps.map λ(i:Nat)=>rawInt i).toArray[(i:Int).toNat]?∣rawInt ps[i]:=by simp[aa]
  dsimp only;rw[M];change wpAny _ _ (setNextDrawn S ps[i] ep>>= _) _ _ _;show Z2 ?_;unfold setNextDrawn;show Z2 (wpAny_setState_of g y h ?_);dsimp only;rw[if_neg (show ¬ ((ep != ep)=true) by simp),O];show Z3 ?_;show Z2 (wpAny_setField_rec N ∅ λg1 b a=>?_);rw[J];exact Z3 %[v,rfl|Z3 (U g1 %[(a.2 S j).trans g,_,b|.inr (.inl %[c,rfl,C,ps,(a.2 T C).trans G,Y|H])] a)]
 .let hi:i< ~~~ord:=(Xn f).1;let i0:i=0:=by lia
  subst i0;let f0:=f0 rfl;subst f0;let e1:es.size=1:=by lia
  let pz:t.place.size=1:=by
   simp only[SetTable.fits,Zv,beq_iff_eq,decide_eq_true_eq]at h;rw[h.1,e1]
  let%[p|u]:=rj pz;obtain⟨e,O⟩:∃e,es[0]?∣e:=%[es[0]|by simp]
  let J:e.2=v:=by
   rw[B]at f;let:(es[0]?)\2∣v:=↑f
   rw[O]at this;simpa using this
  change wpAny _ _ (setNext S 0 0 ep>>= _) _ _ _;show Z2 ?_;unfold setNext;show Z2 (wpAny_setState_of g y h ?_);change wpAny _ _ (if a9 w=true then _ else _) _ _ _;rw[if_neg (by rw[c];decide)];dsimp only
  split
  .rename_i r
   change (!t.plain&&decide (es.size>1))=true at r;rw[e1]at r;simp at r
  .show Z2 (m:=(if(!t.led&&!es.isEmpty)=true then unsupported "set:maker-not-led" else pure ())) ?_;rw[z,c];show Z3 ?_;rw[u,rh];simp only[X7,↓reduceIte,O];show Z3 ?_;change wpAny _ _ (setField (.ref I) 0 (rawInt ((p+1:Nat):Int))>>= _) _ _ _;show Z2 (wpAny_setField_rec N ∅ λg1 b a=>Z2 (wpAny_setField_rec (s:=(s>>>g1)) b ∅ λg2 l n=>?_));rw[J];let L:SameBut I s.heap g2:=a.trans n;exact Z3 %[v,rfl|Z3 (U g2 %[(L.2 S j).trans g,_,l|.inr (.inr %[c,⋯,B,λq=>by lia|λ_=>%[p,by rw[u];rfl|rfl]])] L)]
def u4{c:Type}{Q:c->Shared->Prop}(d:A.handled=none)(f:∀h' e,(∀b o,s.heap.get? b∣o->h'.get? b∣o)->(∃o,h'.get? e∣o/\o.cls= .type "StopIteration")->E (.ref e) (s>>>h')):
 ↥A (newExc (.type "StopIteration") []>>= λe=>(raiseNew e)) Q E s:=by
 show Z2 ?_;show Z2 (wpAny_newObj_type ?_ (by size_fits));show Z2 (wpAny_of_eq (a:=Value.none) (by first|rfl|lia) (wpAny_newObj_type (wpAny_raiseNew_none d (f _ _ (λb o e=>Z7 _ (Z7 _ e)) %[_,Zj _ rfl|rfl])) (by size_fits)))
def Aa{i:Nat}{Q:Option Value->Shared->Prop}(hh:A.handled=none)(y:o.data= .set es ep t)(j:t.fits es.size=true)(n:t.led=!a9 w)(st:SIt w I S T o es ep t ord i s.heap)(hi:i= ~~~ord)(hn: ~~~ord=es.size)
 (hQ:∀h',(∀b o,b≠I->s.heap.get? b∣o->h'.get? b∣o)->Q none (s>>>h')):↥A (pyNext (.ref I)) Q E s:=by
 let Y:=st.is;let%[z,first,B|m]:=st;let H:A.in1.handled=none:=hh;let c:∀(g:Heap) (Q':Fin->Shared->Prop),SameBut I s.heap g->↥A.in1 (newExc (.type "StopIteration") []>>= λe=>(raiseNew e:Sem Fin)) Q' (λe s'=>↥A (do
  if(<-isInstance e (.type "StopIteration"))then pure none else throw e) Q E s') (s>>>g):=λg Q' sb=>by
  show u4 H λh' e k ⟨oe,he,hc⟩=>?_
  show Z2 (wpAny_isInstance (T:="StopIteration") (b:=true) %[oe,he|hc] isSubtype_stop (Z3 (hQ h' λb o r q=>k b o ((sb.2 b r).trans q))))
 unfold pyNext;show Z2 (wpAny_attempt (wpAny_callSpecial?_slot (name:=!"__next__") Y cb (wpAny_call_entry cb Y fZ ?_ (iy _))));unfold Builtin.«set_iterator.__next__»;show Z2 (m:=slotArgs _ _ _) (Z3 ?_);show Z2 (wpAny_fieldsOf B rfl ?_);change wpAny _ _ (setEntries S>>= _) _ _ _;show Z2 (wpAny_setEntries_of z y j ?_);rw[if_neg ∅];rcases m with⟨l,rfl,eo⟩|⟨l,rfl,aa,ps,J,ab,ac⟩|⟨l,h1,eo,L,M⟩
 .change wpAny _ _ (setNext S 0 i ep>>= _) _ _ _;show Z2 ?_;unfold setNext;show Z2 (wpAny_setState_of z y j ?_);show Z2 (Z2 (wpAny_askSetting (Z3 ?_)));change wpAny _ _ (if a9 w=true then _ else _) _ _ _;rw[if_pos l];dsimp only;rw[if_neg (show ¬ ((ep != ep)=true) by simp)];show Z2 ?_;unfold setWalk;show Z2 (wpAny_setState_of z y j (Z2 (Z2 (wpAny_askSetting (Z3 ?_)))));change wpAny _ _ (if a9 w=true then _ else _) _ _ _;rw[if_pos l];show Z2 (wpAny_askSetting (Z3 (Z3 ?_)));let C:(pickOrder (w.params.setOrder S ep) es)[i]? =none:=by
   rw[Array.getElem?_eq_none_iff,hi,eo,Z6,Zb];exact Zi _
  change wpAny _ _ (match((pickOrder (w.params.setOrder S ep) es)[i]?).map λe=>(e.2,0)with|some (x,next)=>_|none=>_) _ _ _;rw[C];change wpAny _ _ (setField (.ref I) 2 .none>>= _) _ _ _;exact Z2 (wpAny_setField_rec B ∅ λg1 _ d=>c g1 _ d)
 .change wpAny _ _ (seqItems? (.ref T)>>= _) _ _ _;show Z2 (wpAny_seqItems J rfl ?_);let u:(ps.map λ(i:Nat)=>rawInt i).toArray[(i:Int).toNat]? =none:=by simp;lia
  dsimp only;rw[u];exact Z2 (wpAny_setField_rec B ∅ λg1 N d=>Z2 (wpAny_setField_rec N ∅ λg2 _ O=>c g2 _ (d.trans O)))
 .let done:∀slot:Nat,first=rawInt slot->SetTable.below t.place slot=es.size->↥A.in1 (setNext S slot i ep) (λa s'=>a=none/\s'=s) (λ_ _=>False) s:=by
   intro slot _ r;unfold setNext;show Z2 (wpAny_setState_of z y j ?_);change wpAny _ _ (if a9 w=true then _ else _) _ _ _;rw[if_neg (by rw[l];decide)];dsimp only
   split
   .rename_i h
    change (!t.plain&&decide (es.size>1))=true at h;let:decide (es.size>1)=false:=Zh ⋯;rw[this,Bool.and_false]at h;cases h
   .show Z2 (m:=(if(!t.led&&!es.isEmpty)=true then unsupported "set:maker-not-led" else pure ())) ?_;rw[n,l];show Z3 ?_;rw[r,show es[es.size]? =none by simp];exact Z3 %[rfl|rfl]
  let go:∀slot:Nat,first=rawInt slot->SetTable.below t.place slot=es.size->↥A.in1 (setNext S slot i ep>>= λa=>match a with
   | some (x,next)=>(do
     setField (.ref I) 0 (rawInt ↑(next))
     setField (.ref I) 1 (rawInt (↑(i)+1))
     ret x)
   | none=>(do
     setField (.ref I) 2 .none
     let e<-newExc (.type "StopIteration") []
     raiseNew e)) (λc s'=>∃v,c=Fin.done (Flow.ret v)/\↥A (pure (some v)) Q E s') (λe s'=>↥A (do
   if(<-isInstance e (.type "StopIteration"))then pure none else throw e) Q E s') s:=by
   intro slot e r;show Z2 (wpAny_mono (done slot e r) (λa s' ⟨G,e2⟩=>?_) λ_ _ f=>f.elim);subst G;subst e2;exact Z2 (wpAny_setField_rec B ∅ λg1 _ d=>c g1 _ d)
  let pz:=by
   simp only[SetTable.fits,Zv,beq_iff_eq,decide_eq_true_eq]at j;exact j.1
  by_cases e0:es.size=0
  .let i0:i=0:=by lia
   subst i0;let L:=L rfl;subst L;show go 0 rfl ?_;let:t.place= #[]:=Array.eq_empty_of_size_eq_zero ⋯;rw[this,xx,e0]
  .let G:es.size=1:=by lia
   let i1:i=1:=by lia
   subst i1;let%[p,C|M]:=M rfl;subst M;show go (p+1) rfl ?_;let%[p'|U]:=rj (by rw[pz,G]:t.place.size=1);rw[U]at C ⊢;let:p'=p:=↑C
   subst this;rw[rh,if_pos (Yp _),G]
end
open PySem PySem.Spec PyProof.Rows
def iz:Slot "set_iterator" "__iter__" "set_iterator.__iter__":=
 .of (owner:="set_iterator") (n:="__iter__") (by rw[typeLookup_type,builtinLookup_eq_fast];kernel_rfl) (!0) (!0) (!0) (by first|exact .inl (!0)|exact .inr ∅) (by kernel_rfl)
def lF:entryFor table "set_iterator.__iter__"=some Builtin.«dict_keyiterator.__iter__»:=entryFor_alias (id':="dict_keyiterator.__iter__") (by kernel_rfl) rfl (!0) (by kernel_rfl)
def ng(a:Value):argsOk "set_iterator.__iter__" %[[a]|[]]:=by kernel_rfl
def tz:typeLookup (.type "set") "__len__"=pure (some (.builtin "set.__len__")):=by kernel_rfl
section
#where
variable{I S T:Addr}{o:Obj}{es:Array (Int×Value)}{ep:Nat}{t:SetTable}{ord:ZF}
def Ab(hh:A.handled=none)(hd:o.data= .set es ep t)(hf:t.fits es.size=true)(hled:t.led=!a9 w)(hSI:S≠I)(hn: ~~~ord=es.size):
 Walks prog w A I [I,S,T] [I] ord.length (λi v=>ord[i]?∣v) (λi h=>SIt w I S T o es ep t ord i h) where
 sub:=by simp
 frame:=λi h h' st k=>by
  let%[hS,first,hI|m]:=st;show⟨k S ∅ _ hS,first,k I ∅ _ hI,?_⟩;rcases m with m|⟨bt,e,hTI,ps,hTt,r⟩|m
  .exact .inl m
  .exact .inr (.inl %[bt,e,hTI,ps,k T ∅ _ hTt|r])
  .exact .inr (.inr m)
 item:=λi s Q E hi st hQ=>xy (v:=ord[i]) hd hf hled hSI st ∅ hn λh' st' sb=>hQ _ h' s.toks ∅ st' λb o' hb e=>(sb.2 b (λq=>hb (by simp[q]))).trans e
 done:=λs Q E st hQ=>Aa hh hd hf hled st rfl hn λh' k=>hQ h' s.toks λb o' hb e=>k b o' (λq=>hb (by simp[q])) e
 self:=λi s Q E st hQ=>by
  let hT:=st.is;exact wpAny_pyIter_slot hT iz (wpAny_call_entry iz hT lF (Z3 %[_,rfl,"set_iterator",_,hT,cb.lookup|hQ]) (ng _))
def Ac(g:s.heap.get? S∣o)(B:o.ExactSet)(C:o.data= .set es ep t)(hb:es.size<scanBound)(G:t.fits es.size=true)(H:es.size≠0->t.plain=false)(O:t.led=!a9 w)
 (hQ:∀(I T:Addr) (ord:ZF) (h':Heap) d,(∀b o,s.heap.get? b∣o->h'.get? b∣o)->⇑s<=I->S≠I->(T=S\/⇑s<=T)->T<h'.objs.size->I<h'.objs.size-> ~~~ord=es.size->
  SIt w I S T o es ep t ord 0 h'->ord.Perm (es.toList\2)->Q (.ref I) {s with heap:=h',drawn:=d}):↥A (pyIter (.ref S)) Q E s:=by
 let U:s.TypeIs (.ref S) "set":=%[o,g|B.1]
 let n:S<⇑s:=Zu g;show wpAny_pyIter_slot U F.slot_set_iter (wpAny_call_entry F.slot_set_iter U qd ?_ (F.args_set_iter_1 _));unfold Builtin.«frozenset.__iter__»;show Z2 (m:=Builtin.Frozenset.slot0 _ _) (Z2 (m:=slotArgs _ _ _) (Z3 (Z3 ?_)));show Z2 (m:=Builtin.Frozenset.sizeOf S) (Z2 (wpAny_setEntries_of g C G (Z3 ?_)));show Z2 (m:=setDrawn S) ?_;unfold setDrawn;show Z2 (wpAny_setState_of g C G (Z2 (Z2 (wpAny_askSetting (Z3 (Z3 ?_))))));let a:∀(first:Value) (c:Shared) (T:Addr) (ord:ZF),c.heap.get? S∣o->(∃d f,c={s with heap:=f,drawn:=d})->(∀b o,s.heap.get? b∣o->c.heap.get? b∣o)->T<⇑c->⇑s<=⇑c->(T=S\/⇑s<=T)->ord.Perm (es.toList\2)->
  ((a9 w=true/\first=rawInt 0/\ord=(pickOrder (w.params.setOrder S ep) es).toList\2)\/(a9 w=false/\first= .ref T/\∃ps:List Nat,c.heap.get? T=some {cls:= .type "tuple",data:= .seq (ps.map λ(i:Nat)=>rawInt i).toArray}/\ ~~~ps= ~~~ord/\∀(j p:Nat),ps[j]?∣p->∃e,es[p]?∣e/\ord[j]?∣e.2)\/(a9 w=false/\es.size<=1/\ord=es.toList\2/\first=rawInt 0))-> ~~~ord=es.size->
  ↥A.in1 (do ret (<-newFields "set_iterator" [first,rawInt 0,.ref S,rawInt es.size,rawInt (<-setEpoch S)])) (λa s'=>∃v,a=Fin.done (Flow.ret v)/\∃Y r,s'.TypeIs v Y/\typeLookup (.type Y) "__next__"=pure (some r)/\Q v s') (λe s'=>E e s') c:=by
  intro first c T ord f %[d,g1|e1] k1 tl sl J y m hn
  subst e1;show Z2 (wpAny_setEpoch_of f C G (Z2 (wpAny_newObj_type ?_)));let gI:(g1.push {cls:= .type "set_iterator",data:= .fields #[first,rawInt 0,.ref S,rawInt es.size,rawInt ep]}).get? g1.objs.size∣_:=Zj _ rfl;show Z3 %[_,rfl,"set_iterator",_,%[_,gI|rfl],cb.lookup|hQ g1.objs.size T ord _ d (λb o' e=>Z7 _ (k1 b o' e)) sl (Zs (Zu f)) J (by rw[Zq];exact Yo tl) (by rw[Zq];exact Yp _) hn ?_ y];show⟨Z7 _ f,first,gI,?_⟩;rcases m with m|⟨h,e,ps,L,r⟩|⟨h,M,eo,e⟩
  .exact .inl m
  .exact .inr (.inl %[h,e,Zs tl,ps,Z7 _ L|r])
  .exact .inr (.inr %[h,M,eo,λ_=>e|λq=>absurd q ∅])
 let lst: ~~~(es.toList\2)=es.size:=by rw[Z6,Zb]
 by_cases h:a9 w=true
 .change wpAny _ _ (if(!a9 w&&_)=true then _ else _) _ _ _;rw[h,Bool.not_true,Bool.false_and,if_neg ∅];show Z2 (Z3 ?_);let u:=(rg (w.params.setOrder S ep) es)\2;exact a (rawInt 0) s S _ g %[s.drawn,s.heap|rfl] (λ_ _ e=>e) n (Zi _) (.inl rfl) u (.inl %[h,rfl|rfl]) (by rw[u.length_eq,lst])
 .let z:a9 w=false:=↑h
  change wpAny _ _ (if(!a9 w&&(!t.plain&&decide (es.size>1)))=true then _ else _) _ _ _;by_cases f:es.size>1
  .rw[z,H ⋯,Zf f];show Z2 (tq es.size _ _ _ ∅ λps d l=>Z2 (wpAny_newTuple ?_ (by rw[Z6,l.length_eq,Yj];exact fits_of_scanBound hb)));let lt:∀p∈ps,p<es.size:=λp q=>mem_range.mp (l.mem_iff.mp q)
   let er:(List.range es.size).map (λp=>((es[p]?)\2).getD .none)=es.toList\2:=by
    apply ext_getElem
    .simp
    .intro i y q2;simp at y;simp[y]
   let u:(ps.map (λp=>((es[p]?)\2).getD .none)).Perm (es.toList\2):=er▸l.map _;show a _ _ ⇑s _ (Z7 _ g) %[d,_|rfl] (λb o' e=>Z7 _ e) (by rw[Zq];exact Yp _) (by rw[Zq];exact Yg _) (.inr (Zi _)) u
    (.inr (.inl %[z,rfl,ps,Zj _ rfl,by rw[Z6]|λj p q=>?_])) (by rw[u.length_eq,lst])
   let N:=lt p (Z8 q);exact%[es[p],by simp|by simp[q,N]]
  .rw[z,Zh f];simp only[Bool.and_false,Zz];exact a (rawInt 0) s S _ g %[s.drawn,s.heap|rfl] (λ_ _ e=>e) n (Zi _) (.inl rfl) (List.Perm.refl _) (.inr (.inr %[z,⋯,rfl|rfl])) lst
def kf(hh:A.handled=none)(u:s.heap.get? S∣r)(a:r.ExactSet)(v:r.data= .set g as t0)(y:g.size<scanBound)(z:t0.fits g.size=true)(B:g.size≠0->t0.plain=false)(c:t0.led=!a9 w)
 (hQ:∀s' vs,vs.Perm (g.toList\2)->(∀b o,s.heap.get? b∣o->s'.heap.get? b∣o)->s'.gens=s.gens->s'.os=s.os->⇑s<=⇑s'->Q vs s'):↥A (collect (.ref S)) Q E s:=by
 unfold collect;show Z2 (wpAny_runValue (codeAny_builtin F.entry_proto_collect ?_));rw[Around.under_plainId F.plain_proto_collect _];change wpAny _ A.in1 (newList []>>= λl=>again (.builtin "list.__iadd__" %[[l,.ref S]|[]])) _ _ s;show Z2 (wpAny_newObj_type (Z3 %[plainId_quiet F.plain_list_iadd _|codeAny_builtin F.entry_list_iadd ?_]));rw[Around.under_plainId F.plain_list_iadd _];let i:S<⇑s:=Zu u;change wpAny _ A.in1 (Builtin.List.listExtendWith (.ref ⇑s) (.ref S) (.ref ⇑s)) _ _ _;unfold Builtin.List.listExtendWith
 generalize O:s.heap.push {cls:= .type "list",data:= .seq ([]:ZF).toArray}=G
 let gS:G.get? S∣r:=by rw[<-O];exact Z7 _ u
 let gz:G.objs.size=⇑s+1:=by rw[<-O,Zq]
 let gL:G.get? ⇑s=some {cls:= .type "list",data:= .seq ([]:ZF).toArray}:=O▸Zj _ rfl;let tS:Shared.TypeIs (s>>>G) (.ref S) "set":=%[r,gS|a.1]
 show Z2 (wpAny_typeOf (T:="set") tS ?_);let n1:Builtin.List.listSameRef (.ref ⇑s) (.ref S)=false:=by
  change(⇑s==S)=false;exact beq_eq_false_iff_ne.mpr (X2 i)
 let n2:(Value.type "set"==Value.type "list")=false:=!1
 let n3:(Value.type "set"==Value.type "tuple")=false:=!1
 simp only[n1,n2,n3,Bool.or_false,Zz,if_false];show Z2 (Ac (s:=(s>>>G)) gS a v y z B c λI T ord h d k1 U aa ab aR aU hn st q1=>?_);replace k1:∀b o,G.get? b∣o->h.get? b∣o:=k1;replace U:G.objs.size<=I:=U;let ac:h.get? S∣r:=k1 _ _ gS;show Z2 (wpAny_holding ?_);unfold Builtin.List.listLengthHint;let m:Shared.TypeIs {s with heap:=h,drawn:=d} (.ref S) "set":=%[r,ac|a.1]
 show Z2 (wpAny_specialOf (T:="set") m tz ?_)
 wp_delta
 show Z2 (wpAny_isInstance (T:="set") (b:=true) m (by rw[isSubtype_type];kernel_rfl) ?_);change wpAny _ A.in1 (typeOf (.ref S)>>= _) _ _ _;show Z2 (wpAny_typeOf (T:="set") m (Z3 ?_));rw[if_pos (!1)];show Z2 (wpAny_rule ?_);let C:h.get? ⇑s=some {cls:= .type "list",data:= .seq ([]:ZF).toArray}:=k1 _ _ gL;show Z2 ?_;unfold Builtin.List.listTouch;show Z2 (listUpdate_at (s:={s with heap:=h,drawn:=d}) C rfl ?_ (Xg _) (by change 1<=sizeLine+1;lia));let H:=get?_update_self (Obj.mapSeq (·.push Value.none)) C rfl;show listUpdate_at (xs:= #[Value.none]) (n:=1) (s:={s with heap:=h.update ⇑s (Obj.mapSeq _),drawn:=d}) H rfl ?_ (!1) (by change 0<=sizeLine+1;lia);let ag:=get?_update_self (Obj.mapSeq (·.pop)) H rfl;let J:∀b o,b≠⇑s->h.get? b∣o->((h.update ⇑s (Obj.mapSeq (·.push Value.none))).update ⇑s (Obj.mapSeq (·.pop))).get? b∣o:=λb o Y e=>(get?_update_other _ _ (Ne.symm Y)).trans ((get?_update_other _ _ (Ne.symm Y)).trans e)
 let ai:=Zs (Zg (by rw[gz];exact Yp _) U);let neT:⇑s≠T:=by
  rcases ab with e|e
  .exact e▸X2 i
  .exact Zs (Zg (gz▸Yp _) e)
 let L:⇑s∉[I,S,T]:=by
  simp only[Yy,X8,or_false,not_or];exact%[ai,X2 i|neT]
 let al: ~~~ord<=sizeLine:=hn▸fits_of_scanBound y;let W:=Ab (prog:=prog) (A:=A.in1) (T:=T) (hh) v z c aa hn;let an:=W.frame 0 h _ st λb Y M e=>J b M (λq=>L (q▸Y)) e
 show Z3 %[plainId_quiet F.plain_extend_loop _|codeAny_extend_loopS W.toS al _ L _ ord.length 0 _ _ _ rfl (Xg _) an ag (ItemsOf.nil _) λs5 acc c5 m5 N f=>?_];show Z2 (wpAny_load N (Z3 ?_));let ea:acc.toList=ord:=by
  apply ext_getElem?;intro j;by_cases hj:j< ~~~ord
  .let aq:j<acc.size:=f.1▸hj;let:=f.2 j acc[j] ∅;rw[this];simp[aq]
  .let l1: ~~~acc.toList= ~~~ord:=f.1;rw[Xm ⋯,Xm (l:=ord) ⋯]
 rw[ea];show hQ s5 ord q1 (λb M e=>?_) m5.gens m5.os (Ye (Zu N));let p:=Zu e;show m5.heap b M ?_ (J b M (Zs p) (k1 b M (O▸Z7 _ e)));simp only[Yy,X8,or_false,not_or];exact%[Zs p|Zs (Zg p (Nat.le_trans (gz▸Yg _) U))]
def mH(f:A.handled=none)(h:bz w S ks s.heap)
 (i:∀s' vs ss,StrsAre vs ss->ss.Perm ks->(∀b o,s.heap.get? b∣o->s'.heap.get? b∣o)->s'.gens=s.gens->s'.os=s.os->⇑s<=⇑s'->Q vs s'):↥A (collect (.ref S)) Q E s:=by
 let%[o,es,ep,t,ss,j,c,l,d,m,n,p,q,r,e|a]:=h;show kf f j c l q r e a λs' vs pv k g os sz=>?_
 let%[ts,u|v]:=cg d pv;exact i s' vs ts u (v.trans m) k g os sz
end
open PySem PySem.Spec PyProof.Rows
section
variable{X:Cx}{ff:ZE}{σ:St}{H:Hp}{s s':Shared}
def JQ.keptS(I:JQ X ff σ H s)(k:∀b o,s.heap.get? b∣o->s'.heap.get? b∣o)(c:s'.gens=s.gens)(a:s'.os=s.os):JQ X ff σ H s':=by
 let%[h',p,u,t'|d]:=s';replace a:d=s.os:=a;subst c;subst a;show I.step (ch:=[]) (λb f=>absurd f ∅) (λb o _ _ _ e _=>k b o e) (λb o _ _ _ e _=>%[o.slots|k b o e]) (λ_ _ _ _ n=>n) (λb o _ e=>%[o|k b o e]) (λ_ _ e=>e) (λ_ _ _ e=>e) (λb ps e=>%[#[]|by rw[e];simp]) (λm g=>?_) (λb v e=>?_) I.bare
 .let%[o,h,i,a|r]:=g;exact%[o,h,i,k _ o a|r]
 .exact(I.hok b v e).stay (λj l _ q=>k j l q) (λ_ q=>q) λ_ _ q=>q
end
section
#where
variable{S:Addr}
def xz(u:A.handled=none)(v:bz w S ks s.heap)(g: ~~~ks<64)
 (y:∀(s':Shared) (l:Addr) (vs:ZF) (ss:ZB) (n:Nat),StrsAre vs ss->ss.Perm ks->sortedS ss=true->(∀b o,s.heap.get? b∣o->s'.heap.get? b∣o)->s'.gens=s.gens->s'.os=s.os->⇑s<=l->s'.heap.get? l=some {cls:= .type "list",data:= .seq vs.toArray n}->Q (.ref l) s'):
 ↥A (call (.builtin "sorted") [.ref S]) Q E s:=by
 show Calls.call_function_entry kind_sorted plain_sorted entry_sorted (args_sorted1 _) ?_;unfold Builtin.«sorted»;show Z2 (m:=checkCount "sorted" 1 1 _) (Z3 ?_);show Z2 (mH (show A.in1.handled=none from u) v λc vs ss f j k1 g1 z h=>?_);let B: ~~~vs<64:=by rw[bT f,j.length_eq];exact g
 show Z2 (wpAny_newList ?_ (by rw[sizeLine_eq];lia));let i:(c.heap.push (seqObj "list" vs.toArray 0)).get? ⇑c∣seqObj "list" vs.toArray 0:=Zj _ rfl;show Z2 (wpAny_holding (wpAny_call_entry slot_list_sort %[_,i|rfl] entry_list_sort (list_sort_treeK (s:=(c>>>c.heap.push (seqObj "list" vs.toArray 0))) strKind_oneLt i f.keysOf (λp q rest e=>keyKind_strs (by rw[<-e];exact f)) B λa C G=>%[_,rfl|?_]) (args_list_sort _)));let%[ts,H,I|J]:=sorted_out_str f C G;obtain⟨n,L⟩:∃n,(sortedHeap (c.heap.push (seqObj "list" vs.toArray 0)) ⇑c vs ((arrOf a)\2)).get? ⇑c∣seqObj "list" ((arrOf a)\2) n:=sortedHeap_at i;show Z3 %[_,rfl|y _ ⇑c ((arrOf a)\2).toList ts n H (I.trans j) J (λb M e=>?_) g1 z h ?_]
 rotate_left
 .change _∣seqObj "list" ((arrOf a)\2).toList.toArray n;rw[Array.toArray_toList];exact L
 let r:=k1 b M e;let d:=Zu r;change(sortedHeap _ _ _ _).get? b=_;rw[sortedHeap_old (Zs d) (by rw[Zq];exact Yo d)];exact Z7 _ r
end
section
variable{X:Cx}{K:ZA}
def tD(d:X.calm=true):bZ X (.builtin "sorted") (λxs H Q=>∃a ks,xs=[.ref a]/\H a∣eL X.w a ks/\ ~~~ks<64/\∀l ss,H l=none->ss.Perm ks->sortedS ss=true->Q (.ref l) (JO H l (.lst (ss\3)))):=by
 intro ff s v H xs us Q I r h;let%[a,ks,rfl,e,f|q]:=h;let%[u,rfl|i]:=cU r;cases i;let%[S,_|_]:=(I.hok a _ e)
 show xz (I.ok.hd d) S f λs' l vs ss n j c m k g o b p=>%[.ref l,_,I.stoodS (o:= .lst _) (I.keptS k g o) b %[?_,vs,n,qV j|p],rfl|q l ss (I.hok.fresh b) c m]
 rw[Z6,c.length_eq,sizeLine_eq]
 lia
def rq(h:X.w=w)(b:X.calm=true):cq X (.builtin "sorted") (λxs H Q=>∃a ks,xs=[.ref a]/\H a∣eL w a ks/\ ~~~ks<64/\∀l ss,H l=none->ss.Perm ks->sortedS ss=true->Q (.ref l) (JO H l (.lst (ss\3)))):=by subst h;exact⟨tD b⟩
end
def ak{D:fU}(h:∀c:fU,(∀a b,u D a b->c.nx a b)->(∀v b,D.rt v b->c.rt v b)->t c d H):bn t u D d H:=h _ (λ_ _ x=>x) λ_ _ x=>x
def aB{t:TS}{D:fU}(h:∀c:fU,(∀a b,D.nx a b->c.nx a b)->(∀v b,D.rt v b->c.rt v b)->t c d H):t D d H:=h _ (λ_ _ x=>x) λ_ _ x=>x
def iS{K:ZA}{xs:List V}{g:TG}{j:TS}{D:fU}(Pv:Nat->St->Hp->Prop)(n:Pv 0 b H)(o:∀i b H,i<= ~~~xs->Pv i b H->JP K H a xs)
 (r:∀i x T b H,xs[i]?∣x->Pv i b H->H T=none->g (.ref T) b (JO H T (.tup [.int i,x])) λc h=>j {D with nx:=Pv (i+1),ct:=Pv (i+1),bk:=D.nx} c h) (s:∀b H,Pv xs.length b H->D.nx b H):
 ∃W:Nat->Nat->St->Hp->Prop,(∃m,W 0 m b H)/\∀i m b H,W i m b H->
  ((Ite K a xs).stop i H/\D.nx b H)\/((Ite K a xs).go i H/\∃N:St->Hp->Prop,(∀d f,N d f->∃l,l<m/\W (i+1) l d f)/\∀x f,(Ite K a xs).yld i H x f->g x b f λc h=>j {D with nx:=N,ct:=N,bk:=D.nx} c h):=by
 show%[λi m b H=>m= ~~~xs-i/\i<= ~~~xs/\Pv i b H,%[~~~xs,by simp,Xg _|n]|?_];intro i m b H %[rfl,hi|p];let q:=o i b H hi p;by_cases lt:i< ~~~xs
 .show .inr %[%[q|lt],Pv _,λd f u=>%[~~~xs-(i+1),⋯,rfl,lt|u]|λv f y=>?_];let%[x,T,e,w,rfl|rfl]:=y;exact r i x T b _ e p w
 .let e:i= ~~~xs:=by lia
  subst e;exact .inl %[%[q|Zi _]|s b H p]
section
open PySem PySem.Spec PyProof.Rows
variable{X:Cx}{K:ZA}{pos:Pos}{a b:Expr}{ta tb:TE}
def bd:OpQ X (binaryOp .Add) (rI0 λi j=> .int (i+j)):=⟨Gj⟩
def dw:OpQ X (binaryOp .Mult) (rI Bg λi j=> .int (i*j)):=⟨Bh⟩
def bJ(h:X.K=K)(c:nu b)(d:QE X a ta)(e:QE X b tb):QE X (.Subscript a b pos) (tOp (Ei K) ta tb):=by subst h;exact⟨Bt Ej d.h e.h c⟩
def Ja(c:nu b)(d:QE X a ta)(e:QE X b tb):QE X (.Subscript a b pos) (tOp GD ta tb):=⟨Bt GF d.h e.h c⟩
end
end _LL
namespace _CU
open PySem _LL PyProof.Rows
abbrev gW:Str:="abcdefghijklmnopqrstuvwxyz"
abbrev iA(c:Nat):Bool:=decide (c∈gW.cps.toList)
abbrev okc(c:Nat):Bool:=decide (c=46)||iA c
abbrev nl:Str:="\n"
def Jb:nl=⟨#[10]⟩:=rfl
def lG:iA c=true↔97<=c/\c<=122:=by
 let e:gW.cps.toList=(List.range 26).map (·+97):=!0
 unfold iA;rw[decide_eq_true_iff,e,mem_map]
 constructor
 .rintro⟨i,h,rfl⟩;let:=mem_range.mp h
  lia
 .rintro⟨a,b⟩;exact%[c-97,mem_range.mpr ⋯|⋯]
def G6(h:okc c=true):c≠10:=by
 intro e;subst e
 revert h
 decide +kernel
structure cy (rows:ZB):Prop where
 pos:1<= ~~~rows
 high: ~~~rows<=40
 wide:∃wd,1<=wd/\wd<=40/\∀r∈rows,r.cps.size=wd
 sign:∀r∈rows,r.cps.toList.all okc=true
 fall:∀i r r',rows[i]?∣r->rows[i+1]?∣r'->∀(j c c':Nat),r.cps[j]?∣c->r'.cps[j]?∣c'->c'=46->c=46
 some':∃r∈rows,∃c∈r.cps.toList,c≠46
def fH{x y:Str}(h:x.cps.toList=y.cps.toList):x=y:=by
 obtain⟨⟨l⟩⟩:=x
 simp_all
def f6(sep x y:Str)(r:ZB):(Str.join sep (x::y::r)).cps.toList=x.cps.toList++sep.cps.toList++(Str.join sep (y::r)).cps.toList:=by
 change((x.cps++sep.cps) ++(Str.join sep _).cps).toList=_;rw[Xf,Xf]
def B1 [DecidableEq f]:∀{a b x y:List f},c∉a->c∉b->a++c::x=b++c::y->a=b/\x=y
 |[],[],_,_,_,_,h=>%[rfl|(List.cons.inj h).2]
 |[],b::bs,_,_,_,d,h=>absurd (((List.cons.inj h).1)▸Zm) d
 | a::as,[],_,_,e,_,h=>absurd (((List.cons.inj h).1)▸Zm) e
 | a::as,b::bs,x,y,e,d,h=>by
   let%[g|i]:=List.cons.inj h;let%[j|l]:=B1 (λq=>e (Zk _ q)) (λq=>d (Zk _ q)) i;exact%[by rw[g,j]|l]
def u5{c:Nat}:∀{ps qs:ZB},ps≠[]->qs≠[]->(∀p∈ps,c∉p.cps.toList)->(∀q∈qs,c∉q.cps.toList)->(Str.join ⟨#[c]⟩ ps).cps.toList=(Str.join ⟨#[c]⟩ qs).cps.toList->ps=qs
 |[],_,h,_,_,_,_=>absurd rfl h
 | _,[],_,h,_,_,_=>absurd rfl h
 |[p],[q],_,_,_,_,e=>by rw[fH (show p.cps.toList=q.cps.toList from e)]
 |[p],q::f::qs,_,_,a,_,e=>by
  rw[f6]at e;show absurd ?_ (a p Zm);rw[show p.cps.toList=(Str.join _ [p]).cps.toList from rfl,e];simp
 | p::g::ps,[q],_,_,_,b,e=>by
   rw[f6]at e;show absurd ?_ (b q Zm);rw[show q.cps.toList=(Str.join _ [q]).cps.toList from rfl,<-e];simp
 | p::g::ps,q::f::qs,_,_,a,b,e=>by
   rw[f6,f6,Ze,Ze]at e;let%[i|j]:=B1 (a p Zm) (b q Zm) e;rw[fH i,u5 ∅ ∅ (λx d=>a x (Zk _ d)) (λx d=>b x (Zk _ d)) j]
def xA(a:rows≠[])(h:∀r∈rows,10∉r.cps.toList):Txt.split (Str.join nl rows) nl=rows:=by
 let e:=StrLaws.join_split (Str.join nl rows) nl;rw[Jb]at e ⊢;show u5 ?_ a (StrLaws.split_free _ 10) h (by rw[e]);intro q;let:=split_pos (Str.join ⟨#[10]⟩ rows) ⟨#[10]⟩
 simp_all
def cy.nonl(h:cy rows):∀r∈rows,10∉r.cps.toList:=λr a b=>by
 let:=all_eq_true.mp (h.sign r a) 10 b;exact G6 this rfl
def cy.split(h:cy rows):Txt.split (Str.join nl rows) nl=rows:=
 xA (λe=>by let:=h.pos;simp_all) h.nonl
def tE:∀{xs:List b},(∀x∈xs,f x<=B)->(xs.map f).sum<= ~~~xs*B
 |[],_=>by simp
 | x::r,h=>by
   let c:=tE λy a=>h y (Zk _ a)
   let d:=h x Zm;rw[Yr,List.sum_cons,Zr,Nat.succ_mul]
   lia
def cy.sum(h:cy rows):(rows.map (·.length)).sum<=1600:=by
 let%[wd,_,c|a]:=h.wide;let:=tE (f:=λr:Str=> ~~~r) λr b=>by let:=a r b;change r.cps.size<=40;lia
 let:=h.high
 grind
def cy.text(h:cy rows): ~~~(Str.join nl rows)<=2000:=by
 let a:=StrLaws.join_length_le nl rows;let b:=h.sum;let c:=h.high;let d:nl.length=1:=rfl
 lia
abbrev sgn(c:Nat):Str:=⟨#[c]⟩
def oj{a:List Nat}(h:∀c∈a,iA c=true): ~~~(aC (a.map sgn))<=26:=by
 let b:∀x∈aC _,x∈gW.cps.toList.map sgn:=λx d=>by
  let%[c,f|e]:=Xq (aV.mp d);exact Xr %[c,Zo (h c f)|e]
 let:=List.Nodup.length_le_of_subset (bF _) b;rw[Z6]at this;let e:gW.cps.toList.length=26:=!0
 lia
abbrev c6(rows:ZB):List Nat:=(Str.join (!"") rows).cps.toList.filter (λc=>decide (c≠46))
def u8:∀(rows:ZB),(Str.join (!"") rows).cps.toList=(rows.map (·.cps.toList)).flatten
 |[]=>rfl
 |[x]=>by simp[Str.join]
 | x::y::r=>by
   let e:(!"").cps.toList=[]:=rfl;rw[f6,u8 _,e,Zx];simp
def lH(h:∀r∈rows,r.cps.toList.all okc=true):∀c∈c6 rows,iA c=true:=λc a=>by
 unfold c6 at a;rw[List.mem_filter,u8]at a;let%[b|d]:=a;let%[l,e|f]:=List.mem_flatten.mp b;let%[r,g|rfl]:=Xq e;let:=all_eq_true.mp (h r g) c f;unfold okc at this;rw[or_eq_true]at this;rcases this with q|q
 .exact absurd (Zo q) (Zo d)
 .exact q
def cy.signs_ne(h:cy rows):c6 rows≠[]:=by
 let%[r,b,c,d|a]:=h.some';let:c∈c6 rows:=by
  unfold c6;rw[List.mem_filter,u8];exact%[List.mem_flatten.mpr %[_,Xr %[r,b|ρ]|d]|Zf a]
 grind
abbrev tF(z:Str):Bool:=(decide (1<=(~~~z:Int))&&decide ((~~~z:Int)<=40))&&z.cps.toList.all okc
abbrev e7(row a:Str):Bool:=decide (~~~row= ~~~a)&&(List.zip a.cps.toList row.cps.toList).all λp=>!decide (p.2=46)||decide (p.1=46)
def cy.row(h:cy rows)(a:r∈rows):tF r=true:=by
 let%[wd,c,d|b]:=h.wide;let e: ~~~r=wd:=b r a;unfold tF;rw[h.sign r a,e,Zf ⋯,Zf ⋯];rfl
def cy.beneath(h:cy rows)(c:rows[i]?∣r)(d:rows[i+1]?∣a):e7 a r=true:=by
 let%[wd,m,n|e]:=h.wide;let f: ~~~r=wd:=e r (Z8 c);let g: ~~~a=wd:=e a (Z8 d);unfold e7;rw[Zf (g.trans f.symm),Bool.true_and,all_eq_true];intro p l;let%[j|b]:=Xh l;rw[List.getElem?_zip_eq_some]at b;let:=h.fall i r a c d j p.1 p.2 (by simpa using b.1) (by simpa using b.2)
 grind
def om(a:List Nat):(Str.join (!"") (a.map sgn))=⟨a.toArray⟩:=by
 show fH ?_;rw[u8,Yt];change((a.map (λc=>[c])).flatten)=a
 induction a with
 | nil=>rfl
 | cons c r b=>simp_all
def tG:∀a:List Nat,((a.map sgn).map (λx=> ~~~x)).sum= ~~~a
 |[]=>rfl
 | c::r=>by
   rw[Yr,Yr,List.sum_cons,tG r,Zr];change 1+ ~~~r= ~~~r+1
   lia
end _CU
namespace _CU
open PySem _LL
end _CU
namespace _LL
open PySem PySem.Spec PyProof.Rows
abbrev Up(B:Heap)(l:List Env)(e:Addr)(cls:Value)(b:ZI)(d:Option Value)(h:Heap):Prop:=
 B.StaysIn h/\B.get? e=none/\h.FunFrames B l/\∃a vs,h.get? e∣a/\a.cls=cls/\a.dict=b/\a.data= .fields vs/\1<vs.size/\
  match d with
  | none=>vs[1]?∣.none
  | some f=>∃T c ts,vs[1]?∣.ref T/\B.get? T=none/\T≠e/\h.get? T∣c/\c.data= .fields ts/\ts[3]?∣f
def rA(o:Obj)(f:ZJ->ZJ):(o.mapFields f).dict=o.dict:=by
 let%[c,d,a|b]:=o;cases a<;> rfl
section
variable{M:Model}{A:Around}{E:ZD}{s:Shared}{B:Heap}{env:Env}{outer:List Env}{L e:Addr}{cls:Value}{dct:ZI}{Q:Unit->Shared->Prop}
def u9(y:A.frames∣(env::outer))(hf:env.frame∣L)(st:B.StaysIn s.heap)(C:B.get? e=none)(p:s.heap.FunFrames B (env::outer))
 (he:s.heap.get? e∣u) (N:u.data= .fields vs) (d:1<vs.size)
 (k:∀h',Up B (env::outer) e u.cls u.dict (some (rawInt L)) h'->s.heap.UpToSlots h'->Q () (s>>>h')):
 wpAny M A (do let a<-frameOf env;let pl<-entryPlaceOf L i;let b<-EntryCells.newEntry O a .none (rawInt L) .none pl;setField (.ref e) 1 b) Q E s:=by
 let G:e∉(env::outer).filterMap _:=λH=>by
  let%[_,o,ho|aa]:=p.mem H
  simp_all
 show Z2 (wpAny_frameOf_fun y p hf λc v=>Z2 (wpAny_entryPlaceOf λpl I=>Z2 (wpAny_newObj_type ?_ (I.sizeOk5 _ _ _ _ _))))
 generalize j:({cls:= .type _,dict:=none,data:= .fields _}:Obj)=h
 let T:=(v.2.1 e G).trans he;let U:(c.push h).get? e∣u:=Z7 _ T;show wpAny_setField U N d ?_;let ne:=Zs (Zu T);let l:=Obj.data_mapFields N (·.setIfInBounds 1 (Value.ref c.objs.size));let f:∀b o,b≠e->c.get? b∣o->((c.push h).update e (Obj.mapFields (·.setIfInBounds 1 (Value.ref c.objs.size)))).get? b∣o:=λb o n q=>by
  rw[get?_update_other _ _ (Ne.symm n)];exact Z7 _ q
 let m:B.StaysIn c:=λb o q=>(v.2.1 b λH=>by rw[(p.mem H).1]at q;cases q).trans (st b o q)
 let nb:∀b o,s.heap.get? b∣o->(∀ws,o.data≠ .fields ws)->b≠e:=λb o q w z=>by
  simp_all
 let t3:((c.push h).update e (Obj.mapFields (·.setIfInBounds 1 (Value.ref c.objs.size)))).get? c.objs.size∣h:=by
  rw[get?_update_other _ _ ne];exact Zj c (by subst j;rfl)
 let g:∃ts,h.data= .fields ts/\ts[3]?∣rawInt L:=by
  subst j;exact%[_,ρ|by simp]
 let%[ts,g|J]:=g;show k _ %[λb o q=>f b o (λz=>by lia) (m b o q),C,p.of_keeps λb o q w=>?_,_,_,(get?_update_self _ U (Obj.isFreed_of_fields l)),Obj.cls_mapFields _ _,rA _ _,l,↑d,c.objs.size,h,ts,?_,m.fresh,Ne.symm ne,t3,g|J] λb o q w=>?_
 .let%[Y|r]:=v.2.2 b o q;exact%[_,f b _ (nb b o q w) r|ρ]
 .simp[d]
 .let%[Y|r]:=v.2.2 b o q;exact%[Y|f b _ (nb b o q w) r]
def yP(st:B.StaysIn s.heap)(r:B.get? e=none)(y:s.heap.FunFrames B l)
 (C:s.heap.get? e∣c) (G:c.data= .fields vs) (u:1<vs.size) (H:vs[1]?∣.ref T) (v:B.get? T=none) (d:T≠e) (w:s.heap.get? T∣I) (h:I.data= .fields ts) (J:ts[3]?∣f)
 (k:∀h',Up B l e c.cls c.dict (some g) h'->h'.get? e∣c->s.heap.UpToSlots h'->Q () (s>>>h')):wpAny M A (setField (.ref T) 3 g) Q E s:=by
 let i:=(Array.getElem?_eq_some_iff.mp J).1;show wpAny_setField w h i ?_;let a:∀b,b≠T->(s.heap.update T (Obj.mapFields (·.setIfInBounds 3 g))).get? b=s.heap.get? b:=λb n=>get?_update_other _ _ (Ne.symm n)
 let nb:∀b o,s.heap.get? b∣o->(∀ws,o.data≠ .fields ws)->b≠T:=λb o q p z=>by
  simp_all
 let j:=Obj.data_mapFields h (·.setIfInBounds 3 g);let m:=(a e (Ne.symm d)).trans C;show k _ %[λb o q=>(a b λz=>by lia).trans (st b o q),r,y.of_keeps λb o q p=>%[o,(a b (nb b o q p)).trans q|rfl],c,vs,m,rfl,rfl,G,u,T,_,_,H,v,d,
  get?_update_self _ w (Obj.isFreed_of_fields j),j|by simp[i]] m λb o q p=>%[o.slots|(a b (nb b o q p)).trans q]
def yQ(i:v=none\/v∣.none)(b:A.frames∣(env::outer))(j:env.frame∣L)(u:Up B (env::outer) e cls dct v s.heap)
 (k:∀h',Up B (env::outer) e cls dct (some (rawInt L)) h'->s.heap.UpToSlots h'->Q () (s>>>h')):wpAny M A (noteFrame (.ref e) env) Q E s:=by
 let%[st,c,w,N,vs,h,rfl,rfl,d,a|r]:=u;unfold noteFrame;simp only[j];rcases i with rfl|rfl
 .exact Z2 (wpAny_field h d r (u9 b j st c w h d a k))
 .let%[T,O,ts,y,l,m,z,f|C]:=r;show Z2 (wpAny_field h d y (Z2 (wpAny_field z f C (Z2 (yP st c w h d a y l m z f C λh' G n H=>?_)))));let%[o,g,p|_]:=G;exact u9 b j o g p n d a λI J q=>k I J (H.trans q)
def tH(u:Up B l e cls dct (some f) s.heap)(k:∀h',Up B l e cls dct (some .none) h'->s.heap.UpToSlots h'->Q () (s>>>h')):
 wpAny M A (setFlight (.ref e) none) Q E s:=by
 let%[st,a,m,r,vs,h,rfl,rfl,i,b,T,v,ts,j,c,d,n,g|o]:=u;exact Z2 (wpAny_field h i j (yP st a m h i b j c d n g o λh' p _ q=>k h' p q))
def vb(a:g=none\/g∣.none)(b:A.frames∣(env::outer))(h:env.frame∣L)(u:Up B (env::outer) e cls dct g s.heap)
 (k:∀h',Up B outer e cls dct (some .none) h'->s.heap.UpToSlots h'->Q () (s>>>h')):wpAny M A (leaving env (.ref e)) Q E s:=by
 show Z2 (yQ a b h u λn i c=>tH i λj l d=>?_);let%[st,f,%[_,_|m]|r]:=l;exact k j %[st,f,m|r] (c.trans d)
end
section
variable{P:Program}{w:World}{H:Hp}{h:Heap}{a:Addr}{o:HO}
def cp.there(x:cp P w H h a o):∃b,h.get? a∣b:=by
 cases o with
 | lst xs=>have%[_,_,_,_|e]:=x;exact%[_|e]
 | tup xs=>have%[_,_,_,b,e|_]:=x;exact%[_|e]
 | dK c=>have%[_,_,_,_,o,_,_,e|_]:=x;exact%[_|e]
 | dT c=>have%[_,_,_,_,o,_,_,e|_]:=x;exact%[_|e]
 | set S n=>have%[o,_,_,_,e|_]:=x;exact%[_|e]
 | ins C d fs=>have%[_,_,_,e|_]:=x;exact%[_|e]
 | own y=>have%[_|e]:=x;exact%[_|e]
 | xd fs=>have%[_,%[_,_,_,e|_]|_]:=x;exact%[_|e]
 | rng lo hi=>have%[_,_,_|e]:=x;exact%[_|e]
 | frz b u=>have%[e|_]:=x;exact%[_|e]
 | tbl ps=>exact%[_|(x)]
 | met f y=>exact%[_|(x)]
 | ext g=>have%[_,%[_|e]|_]:=x;exact%[_|e]
end
structure Fl (P:Program) (w:World) (l:List Env) (H:Hp) (s:Shared) (ea:Addr) (B:Heap) (cls:Value) (dx:ZI) (fl:Option Value) (H':Hp) (s':Shared):Prop where
 os:s'.os=s.os
 bare:AllBare s'.gens
 un:Un (frs l) [] H H' s.heap s'.heap
 hok:HOk P w H' s'.heap
 up:Up B l ea cls dx fl s'.heap
 free:H' ea=none
 new:s.heap.get? ea=none
 inB:∀b ob,s'.heap.get? b∣ob->((∃o,s.heap.get? b∣o)\/∃o,H' b∣o)->b∉frs l->B.get? b∣ob
 frf:∀b∈frs l,H' b=none
abbrev CXO(P:Program)(w:World):CXT:=λl H s E e s'=>∃a B cls b c,e= .ref a/\Fl P w l H s a B cls b (some .none) c s'/\E cls b c
section
variable{P:Program}{w:World}{l:List Env}{H H':Hp}{s s':Shared}{ea:Addr}{B h':Heap}{cls:Value}{dx:ZI}{fl fl':Option Value}
def Fl.fly(F:Fl P w l H s ea B cls dx fl H' s')(st:B.StaysIn h')(z:s'.heap.UpToSlots h'):Un (frs l) [] H H' s.heap h'/\HOk P w H' h':=by
 let p:∀b g,s'.heap.get? b∣g->b∈frs l->∃r,h'.get? b∣_:=λb g q a=>by
  let%[_,d,y|A]:=F.up.2.2.1.mem a;rw[q]at y;cases y;exact z b g q A
 show%[%[λb o q n a f=>?_,λb o q n a f=>?_,F.un.free,λb o q f=>?_,F.un.tups,F.un.frzs|F.un.tbls]|λb o q=>?_]
 .exact st b o (F.inB b o (F.un.keep b o q n a f) (.inl %[o|q]) a)
 .let%[r|e]:=F.un.slot b o q n a f;let%[h|i]:=p b _ e a;exact%[h|i]
 .let%[d|e]:=F.un.there b o q f;by_cases a:b∈frs l
  .let%[r|i]:=p b d e a;exact%[_|i]
  .exact%[d|st b d (F.inB b d e (.inl %[o|q]) a)]
 .show(F.hok b o q).stay (λc u j e=>?_) (λ_ e=>e) λ_ _ e=>e
  let C:∃v,H' c∣v:=by
   rcases j with rfl|j
   .exact%[_|q]
   .exact%[_|j]
  let%[v|m]:=C;exact st c u (F.inB c u e (.inr %[v|m]) λa=>by rw[F.frf c a]at m;cases m)
end
section
variable{P:Program}{w:World}{K:ZA}{mg:ZC}{base:Heap}{N:ZB}{qual:Str}{scope:Scope}{f:Addr}{cd:Value}{A:Around}{outer:List Env}{s₀:Shared}{H₀:Hp}{E:XK}
def B2(i:v=none\/v∣.none)
 (I:JQ (eY (CXO P w) P w K mg base N qual scope f cd A outer s₀ H₀ E) ff L H s) (F:Fl P w (envOfC qual scope ⇑s₀ f cd::outer) H s d B cls y v g s') (q:E cls y g):
 (eY (CXO P w) P w K mg base N qual scope f cd A outer s₀ H₀ E).xe (.ref d) s':=by
 show vb i I.ok.frames rfl F.up λh' u M=>?_
 let%[un|j]:=F.fly u.1 M;let J:JQ _ ff L g (s'>>>h'):=I.call' F.os un j F.bare λb z=>absurd z ∅
 show%[d,B,cls,y,g,ρ,%[J.os,J.bare,J.base,J.hok,u,F.free,?_,λb ob e h O=>?_|λb h=>F.frf b (mem_filterMap.mpr ?_)]|q]
 .cases z:s₀.heap.get? d with
  | none=>rfl
  | some o=>
    let%[o'|e]:=I.base.there d o z (by simp[eY]);rw[F.new]at e;cases e
 .let Q:b∉frs (envOfC qual scope ⇑s₀ f cd::outer):=λT=>by
   rcases mem_cons.mp (T)with z|z
   .rcases h with⟨o,c⟩|⟨o,c⟩
    .exact absurd (Zu c) (z▸Xl _)
    .let:=J.free;rw[show(eY _ P w K mg base N qual scope f cd A outer s₀ H₀ E).env.locals=b from z.symm,c]at this;cases this
   .exact O z
  let l:∃a,s'.heap.get? b∣a/\((∃o,s.heap.get? b∣o)\/∃o,g b∣o):=by
   rcases h with⟨o,c⟩|⟨o,c⟩
   .let%[C|G]:=I.base.there b o c (by simp[eY]);let%[n|p]:=F.un.there b C G ∅;exact%[n,p|.inl %[C|G]]
   .let%[n|p]:=(F.hok b o c).there;exact%[n,p|.inr %[o|c]]
  let%[a,U|r]:=l;let Y:=F.inB b a U r Q;let:=u.1 b a Y
  grind
 .let%[en,m|q]:=mem_filterMap.mp h;exact%[en,mem_cons.mpr (.inr m)|q]
def EK(a:∀c d H,b c d H->E c d H):gK (CXO P w) (eY (CXO P w) P w K mg base N qual scope f cd A outer s₀ H₀ E) b:=by
 intro ff g H s e s' I %[h,B,cls,i,j,rfl,F|q];exact B2 (.inr rfl) I F (a _ _ _ q)
end
noncomputable abbrev G7(vs:ZF):Obj:={cls:= .type "tuple",data:= .seq vs.toArray}
noncomputable abbrev Jc(C t:Addr):Obj:={cls:= .ref C,data:= .fields #[.ref t,.none,.none,.none,.bool false,.none]}
noncomputable abbrev xB(h:Heap)(C:Addr)(vs:ZF):Heap:=(h.push (G7 vs)).push (Jc C h.objs.size)
def vd(h:Heap)(C:Addr)(vs:ZF):(xB h C vs).get? (h.objs.size+1)∣Jc C h.objs.size:=by
 heap_get
def gc(b:Addr)(o:Obj)(e:h.get? b∣o):(xB h C vs).get? b∣o:=
 Z7 _ (Z7 _ e)
section
variable{prog:Program}{w:World}{A:Around}{E:ZD}{h:Heap}{g:Array GenState}{d:Drawn}{t:Nat}{os:OsState}
variable{nm q:Str}{C N:Addr}{bs bm bmB:ZF}{hdct:Bool}{sn:ZB}{sub:ZF}{ab:Bool}{col:Option Bool}{dd:ZI}{k0 k1 k2 k3 k5:Option Value}{B newId initId:String}
def Ad(F:ExcBaseFacts B newId initId bmB)(T:OwnTail h bmB bm){rest:ZF}
 (b:h.get? C∣excClassObj nm q C N bs bm hdct sn sub ab col dd k0 k1 k2 k3 k5 newId) (m:h.Ns N i) (hi:i "__init__"=some (.ref j)) (c:h.get? j∣n) (e:n.cls= .type "function") (a:rest.length<=sizeLine)
 (o:↥A (call (.ref j) (.ref (h.objs.size+1)::rest)) (λr s'=>r= .none/\Q (.done (.ret (.ref (h.objs.size+1)))) s') E %[xB h C rest,g,d,t|os]):
 ↥A (Builtin.«type.__call__» %[.ref C::rest|[]]) Q E %[h,g,d,t|os]:=by
 repeat (first|with_reducible show wpAny_loadPart_at b ?_|with_reducible show wpAny_madeBy_exc b ?_|wp_step)
 show codeAny_call_builtin_code (Code.quiet_builtin _ F.quiet) (wpAny_check_new_subT F T b ?_);show codeAny_exc_new_subT F T b ?_ a;let l:=gc (C:=C) (vs:=rest) _ _ b;let p:=gc (C:=C) (vs:=rest) _ _ c;let n1:(xB h C rest).Ns N i:=m.keeps gc;let s:=vd h C rest;let f:(Value.ref C::bm).contains (.ref C)=true:=by simp
 unfold isInstance
 repeat (first|with_reducible show wpAny_loadPart_at s ?_|(with_reducible show wpAny_isSubtype_exc l ?_;rw[f])|wp_step)
 change wpAny _ _ (typeLookup (.ref C) _) _ _ _;show wpAny_typeLookup_tail l n1 (T.keeps (h':=xB h C rest) gc) F.mroIs F.init.lookup ?_;rw[hi];show wpAny_holding (Z2 ?_);unfold bindSpecial;show Z2 (wpAny_typeOf (T:="function") %[_,p|e] ?_);rw[if_pos (!1)];show Z3 (Z2 (wpAny_mono o (λr s' u=>?_) λ_ _ x=>x));let%[rfl|v]:=u
 wp_walk
 exact v
def Ae(F:ExcBaseFacts B newId initId bmB)(T:OwnTail h bmB bm){rest:ZF}
 (b:h.get? C∣excClassObj nm q C N bs bm hdct sn sub ab col dd k0 k1 k2 k3 k5 newId) (i:h.Ns N j) (hi:j "__init__"=some (.ref f)) (c:h.get? f∣l) (e:l.cls= .type "function") (a:rest.length<=sizeLine)
 (m:wpAny (model prog w) (A.under (.builtin "type.__call__" %[.ref C::rest|[]])) (call (.ref f) (.ref (h.objs.size+1)::rest)) (λr s'=>r= .none/\Q (.ref (h.objs.size+1)) s') E %[xB h C rest,g,d,t|os]):
 ↥A (call (.ref C) rest) Q E %[h,g,d,t|os]:=by
 let n:=tc_lookup;let o:=tc_bind (.ref C);let p:(%[h,g,d,t|os]:Shared).TypeIs (.ref C) "type":=%[_,b|rfl]
 show wpAny_call (codeAny_of_tree ?_);change wpAny _ _ (callAny (.ref C) _) _ _ _
 repeat (any_goals (first|assumption|with_reducible show wpAny_loadPart_at b ?_|wp_step))
 show%[ρ|?_];exact codeAny_call_builtin_at (Code.quiet_builtin _ (!0)) entry_typeCall (wpAny_check_type_call_sub b (Ad F T b i hi c e a m))
end
noncomputable abbrev veB:ZF:=[.type "ValueError",.type "Exception",.type "BaseException",.type "object"]
abbrev bA:ZF->Bool
 | .ref c::r=>bA r
 | l=>l==veB
def jD(self:Value):∀{l:ZF},bA l=true->refuseLoop self "__setattr__" l=pure ()
 | .ref c::r,e=>by rw[refuseLoop_ref];exact jD self e
 | .type n::r,e=>by
   let a:(Value.type n::r)=veB:=by simpa [bA]using e
   exact a▸PySem.F.store_ValueError.passes self
 |[],e=>by simp[bA]at e
 | .none::r,e=>by simp[bA]at e
 | .bool _::r,e=>by simp[bA]at e
 | .int _ _::r,e=>by simp[bA]at e
 | .str _ _::r,e=>by simp[bA]at e
 | .builtin _::r,e=>by simp[bA]at e
 | .float _ _::r,e=>by simp[bA]at e
 | .bytes _ _::r,e=>by simp[bA]at e
 | .ellipsis::r,e=>by simp[bA]at e
 | .notImplemented::r,e=>by simp[bA]at e
def oq(n:String)(a:veB.contains (.type n)=true):∀{l:ZF},bA l=true->l.contains (.type n)=true
 | .ref c::r,e=>by rw[List.contains_cons,oq n a (l:=r) e,Bool.or_true]
 | .type m::r,e=>by
   let b:(Value.type m::r)=veB:=by simpa [bA]using e
   exact b▸a
 |[],e=>by simp[bA]at e
 | .none::r,e=>by simp[bA]at e
 | .bool _::r,e=>by simp[bA]at e
 | .int _ _::r,e=>by simp[bA]at e
 | .str _ _::r,e=>by simp[bA]at e
 | .builtin _::r,e=>by simp[bA]at e
 | .float _ _::r,e=>by simp[bA]at e
 | .bytes _ _::r,e=>by simp[bA]at e
 | .ellipsis::r,e=>by simp[bA]at e
 | .notImplemented::r,e=>by simp[bA]at e
abbrev tJ(K:ZA)(C:Addr):Bool:=(clsIn K C).any λa=>bA a.mro
section
#where
variable{K:ZA}{x C:Addr}{name:Str}{v:Value}{ox:Obj}{od:Option Obj}
def G8{R:Result->Shared->Prop}(X:K.In s.heap)(I:PySem.W.InstAt s.heap x ox C od)(j:tJ K C=true)(l:findIn K (.ref C) name∣none)
 (h:↥A.in1 (Builtin.ObjectAttr.storeInOwnDict (.ref x) (.ref C) (.str name tk) name v false)
  (λc s'=>match c with| .done f=>R (.ok f) s'| .again g=>g.quiet=true/\codeAny (model prog w) A g R s') (λe s'=>R (.error e) s') s):
 codeAny (model prog w) A (.call (.builtin "object.__setattr__") %[[.ref x,.str name tk,v]|[]]) R s:=by
 let a:=PySem.F.store_object;let%[d,i|b]:=any_some j;let ne:d.mro.isEmpty=false:=by cases q:d.mro with|nil=>rw[q]at b;simp[bA]at b|cons _ _=>rfl
 show codeAny_call_builtin a.slot.plain a.entry (@check_slot _ _ _ s _ _ _ _ _ [] _ a.kind a.split (I.type.andThen (PySem.W.looks_mroIn X (by unfold mroIn;rw[i,bind_some,if_neg (by rw[ne];decide),(oq _ (!1) b)]))) (a.args _ _ v) ?_);let m:Looks (model prog w) s.heap (mroOf (.ref C)) d.mro:=(looks_clsIn X i).andThen .now;rw[PySem.W.osa_eq,refuse_eq];show Z2 (Z2 (I.type.here (Z2 (m.here ?_))));rw[jD _ b];exact Z3 (Z2 (I.type.here (Z2 ((looks_findIn X l).here (Z2 (Z3 h))))))
def EM(X:K.In s.heap)(g:s.heap.get? x∣ox)(i:ox.cls= .ref C)(j:ox.data= .fields vs)(l:ox.dict=none)
 (z:findIn K (.ref C) "__setattr__"=some (some (.builtin "object.__setattr__"))) (B:tJ K C=true) (G:findIn K (.ref C) name∣none) (H:hasDictIn K C=true)
 (h:∀h',h'.get? x=some {ox with dict:=some ⇑s}->h'.Ns1 ⇑s (λy=>if y=name then some v else none)->(∀b o,b≠x->s.heap.get? b∣o->h'.get? b∣o)->Q () {s with heap:=h',toks:=s.toks+2}):
 ↥A (setAttr (.ref x) name v) Q E s:=by
 let%[oc,I,L|M]:=ox;subst i j l;let J:PySem.W.InstAt s.heap x _ C none:=%[g,rfl,rfl|trivial]
 show set_plain X J z (G8 X J B G ?_);let%[cd,N|m]:=any_some H;show Z2 (Z3 (Z2 (Z2 (wpAny_loadPart g (Z2 (Looks.here (looks_clsIn X N) ?_))))));rw[m];let a:(s.heap.push {cls:= .type "dict",data:= .dict #[]}).get? x∣_:=Z7 _ g;let c:=Zs (Zu g);show Z2 (wpAny_alloc' (Z2 (wpAny_update' a (Z3 ?_))));let n:((s.heap.push {cls:= .type "dict",data:= .dict #[]}).update x λo=>{o with dict:=some ⇑s}).get? ⇑s∣_:=
  (get?_update_other _ _ c).trans (Heap.get?_push_at rfl rfl)
 let p:((s.heap.push _).update x _).Ns ⇑s _:=
  %[_,#[],_,n,rfl,λe O=>absurd O ∅|λ_=>rfl]
 show Z2 (Z3 (Z2 (wpAny_nsSet1 (Heap.Ns1.of_empty p) λh' d f=>?_)));let%[oD,T,U,q,r|u]:=d.count (PySem.Within.cons name v PySem.Within.nil);show Z2 (wpAny_lookBehind q (r▸pastItsLine_dict (Nat.le_trans u ∅)) (Z3 (h h' ?_ d λb o Y e=>?_)))
 .exact(f.2 x c).trans (get?_update_self _ a rfl)
 .exact(f.2 b (Zs (Zu e))).trans ((get?_update_other _ _ (Ne.symm Y)).trans (Z7 _ e))
end
abbrev ExO(a C:Addr)(d:ZI):HO:= .ext λh=>∃o vs,h.get? a∣o/\o.cls= .ref C/\o.dict=d/\o.data= .fields vs/\1<vs.size/\vs[1]?∣.none
def ExO.ok{P:Program}(e:h.get? a∣o)(c:o.cls= .ref C)(f:o.dict=d)(g:o.data= .fields vs)(i:1<vs.size)(b:vs[1]?∣.none):
 cp P w H h a (ExO a C d):=
 %[%[o,vs,e,c,f,g,i|b],%[o|e]|λb j ⟨o,vs,e,r⟩ k=>%[o,vs,k o e|r]]
def B3(h:H a∣o):JO H a o=H:=by
 funext b;unfold JO;simp_all
abbrev exK(K:ZA)(C f:Addr):Bool:=(K.lookup C).any λo=>o.cls== .type "type"&&(match o.data with
 | .cls a=>a.mro.head? ==some (.ref C)&&o.slots.size==6&&o.slots[4]? ==some (some (.builtin "ValueError.__new__"))&&!a.hasDel&&PySem.W.tailIn K veB a.mro.tail&&PySem.W.nsOkIn K a.ns&&nsIn K a.ns "__init__"==some (some (.ref f))
 | _=>false)
def xC{K:ZA}{h:Heap}{mg:ZC}(X:K.In h)(G:h.Ns N mg)(e:nsIn K N n∣some v):mg n∣v:=by
 let%[o,j,l,a,b,_|f]:=G;unfold nsIn at e
 split at e
 .rename_i c d g m p q
  let:=X _ _ q;rw[a]at this;cases this;cases b
  split at e
  .rename_i r i
   cases e;rw[<-f];unfold nsFind findBy;rw[<-Array.find?_toList,i];rfl
  simp_all
 .cases e
def xD{K:ZA}(X:K.In h)(q:exK K C f=true):∃nm i N bs c a j sub l b m n k1 k2 o p r,
 h.get? C∣excClassObj nm i C N bs c a j sub l b m n k1 k2 o p "ValueError.__new__"/\h.Ns N r/\r "__init__"=some (.ref f)/\OwnTail h veB c:=by
 let%[%[E,m,data|s],v|q]:=any_some q;dsimp only at q;rw[Zv,beq_iff_eq]at q;let%[rfl|q]:=q;cases data with
 | cls w=>
   let%[nm,bs,d,H,i,I,j,sub,l,b|y]:=w;simp only[Zv,beq_iff_eq,Bool.not_eq_true']at q;let%[%[%[%[%[%[u|z]|A]|rfl]|B]|e]|g]:=q;cases d with
   | nil=>cases u
   | cons x c=>
     cases u;rcases s with _|⟨n,_|⟨k1,_|⟨k2,_|⟨o,_|⟨J,_|⟨p,_|⟨L,s⟩⟩⟩⟩⟩⟩⟩<;> first|cases z|skip
     cases A;let G:=PySem.Heap.Ns.of_isNs (PySem.W.isNs_of_in X e);exact%[_,_,_,_,_,_,_,_,_,_,_,_,_,_,_,_,_,X _ _ v,G,xC X G g|PySem.W.tail_of_in X B]
 | _=>cases q
section
variable{X:Cx}{C f:Addr}
def xE(A:exK X.K C f=true):bZ X (.builtin "ValueError.__init__") (λxs H Q=>∃a d ys,xs=V.ref a::ys/\ ~~~ys<=9/\H a∣ExO a C d/\Q .non H):=by
 intro ff s B H xs us Q I r h;let%[a,d,ys,rfl,hy,g|q]:=h;cases r with
 | cons E G=>
   rename_i u ws
   obtain rfl:u=Value.ref a:=E;let%[%[o,vs,e,v,L,i,M|O]|_]:=I.hok a _ g;let%[nm,qn,N,bs,bm,w,sn,sub,ab,U,dd,k0,k1,k2,k3,k5,mN,Y,hN,hi|T]:=xD I.kIn A;let F:=PySem.F.excBase_ValueError;let j: ~~~ws<=sizeLine:=by rw[<-G.length,sizeLine_eq];lia
   show wpAny_call (codeAny_call_builtin F.init.plain F.initEntry (wpAny_check_init_subT F T Y e v ?_));let l:∃m,vs[0]?∣m:=%[vs[0]'⋯|Array.getElem?_eq_getElem ⋯]
   let%[m|l]:=l;let p:(s.heap.push (G7 ws)).get? a∣o:=Z7 _ e;let c:=Obj.data_mapFields i (·.setIfInBounds 0 (Value.ref ⇑s));let y:=get?_update_self (Obj.mapFields (·.setIfInBounds 0 (Value.ref ⇑s))) p (Obj.isFreed_of_fields c);let J:JQ X ff B H (s>>>((s.heap.push (G7 ws)).update a (Obj.mapFields (·.setIfInBounds 0 (Value.ref ⇑s))))):=by
    let:=I.write (x:=a) (e:=a) (o:=ExO a C d) (t':=s.toks) (g▸True.intro) (.inl rfl)
     (λb u n z=>by rw[get?_update_other _ _ (Ne.symm n)];exact Z7 _ z) %[_|y]
     (ExO.ok y ((Obj.cls_mapFields _ _).trans v) ((rA _ _).trans L) c ↑M (by rw[Array.getElem?_setIfInBounds_ne ∅];exact O))
    rw[B3 g]at this;exact this
   show Z2 (wpAny_newTuple (Z2 (Z2 (wpAny_field p i l (Z2 (wpAny_setField p i ⋯ ?_))))) j);cases m with
   | ref b=>exact wpAny_letGo (Z3 %[.non,H,J,rfl|q])
   | _=>exact Z3 (Z3 %[.non,H,J,rfl|q])
end
structure B4 (K:ZA) (D:Addr):Prop where
 ga:specialIn K (.ref D) "__getattribute__"=some (some (.builtin "type.__getattribute__"))
 rd:readsIn K D (.type "type")=true
 at_:findCls K (.ref D) (.type "type") "__init__"=some (.val (.builtin "ValueError.__init__"))
structure G9 (K:ZA) (C:Addr) (f:Str):Prop where
 sa:findIn K (.ref C) "__setattr__"=some (some (.builtin "object.__setattr__"))
 ov:tJ K C=true
 no:findIn K (.ref C) f∣none
 hd:hasDictIn K C=true
section
variable{X:Cx}{C D f:Addr}{x nm:Str}{p pos pos' apos:Pos}{e o value:Expr}{es:List Expr}{t:TA}{ta tv:TE}{r:List V->Hp->VK->Prop}
def B5(g:Gl X x)(i:X.mg x∣.ref D)(B:B4 X.K D)(j:bZ X (.builtin "ValueError.__init__") r)(l:PA X (e::es) t)(a:(x==("__debug__":Str))=false)
 (m:starEach (e::es) X.env=(false,eval e X.env)::starEach es X.env) (b:(backTo pos (starEach es X.env)).any (·.1)=false)
 (n:eval (.Call (.Attribute (.Name x p) "__init__" apos) (e::es) [] pos) X.env=(do
  let c<-eval (.Name x p) X.env
  standAt apos.atName
  let(f,first)<-holding [c] (getMethod c "__init__" pl)
  callWith pos f first (backTo pos (starEach (e::es) X.env)) (backToKw pos (keywordEach [] X.env)))):
 PE X (.Call (.Attribute (.Name x p) "__init__" apos) (e::es) [] pos) (tCB r t):=by
 intro ff s d H Q I h;exact PySem.W.methodCall_KW (fD I g i (PySem.W.method_cls I.kIn B.ga (PySem.W.cls_value I.kIn B.rd B.at_ (!1) (PyProof.Rows.callWith_builtin1 (thP (l pos ff _ d H _ (I.tok _) h) λus q vs u v w y=>j ff q d u vs us Q v w y) m b))) a) n
abbrev FN(K:ZA)(C:Addr)(ta tv:TE)(f:Str):TS:=λD b H=>tv b H λy g=>ta b g λx c=>∃a,x= .ref a/\c a∣ExO a C none/\
 ∀d,c d=none->d≠a->D.nx b (JO (JO c a (ExO a C (some d))) d (.xd [(f,y)]))
def EN(c:G9 X.K C nm)(E:PE X o ta)(G:PE X value tv)(J:swapsWith value (some (.Attribute o nm pos')) pos.line X.env=pure false):PS X (.Assign [.Attribute o nm pos'] value pos) (FN X.K C ta tv nm):=by
 intro ff s j H D I h;show plainObj_wpAny_Assign_Attribute (thP (G ff s j H _ I h) λu L y M N O q=>thP (E ff L j M _ N q) λQ l x H2 d T ⟨a,ex,m,U⟩=>?_) J;subst ex;obtain rfl:Q=Value.ref a:=T;let%[%[ob,vs,e,v,Y,w,hz|h1]|_]:=d.hok a _ m;let i:=X2 (Zu e);let A:=d.hok.fresh (Zi _);show EM d.kIn e v w Y c.sa c.ov c.no c.hd λh' B n' k=>%[j,_,?_|U ⇑l A i]
 show JQ.stood2 d (d.write (t':=l.toks+2) (m▸True.intro) (.inl rfl) (λb u n z=>k b u n z) %[_|B] (ExO.ok B v rfl w hz h1)) ((au i)▸A) (Zi _) %[_,n'|λg=>?_];by_cases z:g=nm
 .rw[if_pos z,z];simp only[List.lookup,beq_self_eq_true];exact O
 .rw[if_neg z];let z':(g==nm)=false:=↑z
  simp only[List.lookup,z'];exact True.intro
end
abbrev Ha(te:TE):TE:=λb H Q=>te b H λv a=>(∃i:Int,v= .int i/\i.natAbs<2^64/\Q (.str (toString i)) a)\/∃y:Str,v= .str y/\ ~~~y<=sizeLine/\Q (.str y) a
abbrev ot:List TE->Str->TE
 |[],out=>λa H Q=> ~~~out<=sizeLine/\Q (.str out) H
 | t::ts,out=>λa H Q=>t a H λv b=>∃y:Str,v= .str y/\ ~~~(out++y)<=sizeLine/\ot ts (out++y) a b Q
inductive PJ (X:Cx):List Expr->List TE->Prop
 | nil:PJ X [] []
 | cons {e:Expr} {es:List Expr} {t:TE} {ts:List TE}:PE X e t->PJ X es ts->PJ X (e::es) (t::ts)
section
variable{X:Cx}{e v1 v2:Expr}{rest:List Expr}{te t1 t2:TE}{ts:List TE}{pos:Pos}
def Hb(c:PE X e te):PE X (.FormattedValue e (-1) none pos) (Ha te):=by
 intro ff s d H Q I h;show FormattedValue_plain (thP (c ff s d H _ I h) λu j v a b r q=>?_);rcases q with⟨i,rfl,hi,q⟩|⟨y,rfl,f,q⟩
 .let%[t|rfl]:=(show∃t,u=Value.int i t from r)
  let g:i.natAbs.log2<1920:=by
   by_cases z:i.natAbs=0
   .rw[z];decide
   .exact(Nat.log2_lt z).mpr (Zg hi (Nat.pow_le_pow_right (!1) ∅))
  exact formatField_int_small g %[V.str (toString i),a,b.tok _,%[_|rfl]|q]
 .let%[t|rfl]:=(r)
  exact formatField_str (λt' tk=>%[.str y,a,b.tok _,%[_|rfl]|q]) f
def B6(h:PJ X c ts):∀(out:Str) (ff:ZE) (s:Shared) (a:St) (H:Hp) (Q:VK),JQ X ff a H s->ot ts out a H Q->
 (X⁻¹) (joinParts out (evalEach c X.env)) (EP X ff a Q) X.xe s:=by
 induction h with
 | nil=>exact λout ff s a H Q I ⟨b,q⟩=>joinParts_nil %[.str out,H,I.tok _,%[_|rfl]|q] b
 | cons d _ f=>
   intro out ff s a H Q I q;show joinParts_cons (thP (d ff s a H _ I q) λu g v i j r ⟨y,l,b,m⟩=>?_);subst l;let%[t|rfl]:=(r)
   exact%[b|f _ ff g a i Q j m]
def EO(h:PJ X (v1::v2::rest) ts):PE X (.JoinedStr (v1::v2::rest) pos) (ot ts Str.empty):=λff s a H Q I q=>
 JoinedStr_many (B6 h _ ff s a H Q I q)
end
abbrev xF(C:Addr)(sp:Sp)(t:TA):TE:=λb H Q=>t b H λvs a=> ~~~vs<=9/\∀x,a x=none->sp (.ref x::vs) (JO a x (ExO x C none)) (λv c=>v= .non/\Q (.ref x) c) E0
structure MkX (K:ZA) (C f:Addr):Prop where
 ex:exK K C f=true
 fn:(K.lookup f).map (·.cls)∣.type "function"
 kp:keepIn K (.ref C)=true
section
variable{X:Cx}{k:Nat}{f C:Addr}{fd:FuncData}{ps:ZB}{sp:Sp}{x:Str}{p pos cpos:Pos}{e:Expr}{es:List Expr}{te:TE}{t:TA}
def Af(M:MkX X.K C f)(F:d9 X.prog X.w X.K X.mg X.base CX0 k f fd ps sp)(w:bM (k+1) X.A)(y:dH X.K fd ps [])
 (I:JQ X ff j H s) (r:aD vs us) (hv: ~~~vs<=9)
 (h:∀x,H x=none->sp (.ref x::vs) (JO H x (ExO x C none)) (λv z=>v= .non/\Q (.ref x) z) E0):
 (X⁻¹) (call (.ref C) us) (EP X ff j Q) X.xe s:=by
 let%[i,g,d,tk|os]:=s;let%[nm,qn,N,bs,bm,n,sn,sub,ab,A,dd,k0,k1,k2,k3,k5,mN,B,E,hi|T]:=xD I.kIn M.ex;let%[oI,G|l]:=map_eq_some_iff.mp M.fn;show Ae PySem.F.excBase_ValueError T B E hi (I.kIn _ _ G) l (by rw[<-r.length,sizeLine_eq];lia) ?_;let J:JQ X ff j H %[xB i C us,g,d,tk|os]:=I.keptS gc rfl rfl;let m:JQ X ff j (JO H _ (ExO _ C none)) _:=
  I.stoodS J (Yg _) (ExO.ok (vd i C us) rfl rfl rfl ∅ rfl)
 let o:=h _ (I.hok.fresh (Yg _));let q:aD (V.ref (i.objs.size+1)::vs) _:= .cons rfl r;let b: ~~~(Value.ref (i.objs.size+1)::us++[])= ~~~ps:=by
  rw[Zx,<-q.length];exact F.len _ _ _ _ o
 let c:=y _ _ m.kIn b;rw[Zx]at c;show wpAny_call (codeAny_mono (F.run _ X.stack _ _ _ _ _ _ E0 (w.make C us []) (m.env0.make C us []) c q o) λr s' a=>?_);cases r with
 | error e=>exact False.elim a
 | ok L=>
   cases L with
   | ret u=>
     let%[v,O,U,Y,ev|q3]:=m.after a;subst ev;exact%[Y,V.ref _,O,U,ρ|q3]
   | next=>exact False.elim a
   | brk=>exact False.elim a
   | cont=>exact False.elim a
def B7(M:MkX X.K C f)(F:d9 X.prog X.w X.K X.mg X.base CX0 k f fd ps sp)(d:bM (k+1) X.A)(g:Gl X x)(i:X.mg x∣.ref C)(j:dH X.K fd ps [])
 (l:PA X (e::es) t) (a:(x==("__debug__":Str))=false) (m:starEach (e::es) X.env=(false,eval e X.env)::starEach es X.env) (b:(backTo pos (starEach es X.env)).any (·.1)=false):
 PE X (.Call (.Name x p) (e::es) [] pos) (xF C sp t):=by
 intro ff s n H Q I h;exact wpAny_Call_Name_kw (fD I g i (callWith_K I.ok.mod.kin M.kp (thP (l pos ff s n H _ I h) λus u vs v c r ⟨o,q⟩=>%[c.kIn|Af M F d j c r o q]) m b) a)
abbrev tK(C:Addr)(te:TE)(W:Addr->Hp->Prop):TS:=λ_ c H=>te c H λv b=>∃a d,v= .ref a/\b a∣ExO a C (some d)/\W a b
def B8{W:Addr->Hp->Prop}(A:exK X.K C f=true)(B:X.calm=true)(E:PE X e te)
 (G:∀(ff:ZE) (i:St) (H:Hp) (s:Shared) (a d:Addr),JQ X ff i H s->H a∣ExO a C (some d)->W a H->X.xe (.ref a) s):PS X (.Raise (some e) none pos) (tK C te W):=by
 intro ff s i H D I h;change wpAny _ X.A (do standAt pos;raiseStmt X.env (some (do let v<-eval e X.env;standAt pos;pure v)) none) _ _ s;show Z2 (wpAny_standAt ?_);unfold raiseStmt;show Z2 (Z2 (thP (E ff s i H _ I h) λu m v J j r ⟨a,d,L,n,q⟩=>Z2 (wpAny_standAt (Z3 ?_))));subst L;obtain rfl:u=Value.ref a:=r;let%[%[M,vs,O,c,o,w,hz|Q]|_]:=j.hok a _ n;let%[nm,qn,N,bs,U,y,sn,sub,ab,Y,dd,k0,k1,k2,k3,k5,mN,z,hN,hi|T]:=xD j.kIn A;let l:(Value.ref C::U).contains (.type "BaseException")=true:=by rw[List.contains_cons,T.hasType (b:=true) (!1),Bool.or_true]
 let hE:=G ff i J m a d j n q;let%[hp,g,dr,tk|os]:=m;let%[oc,od,aa|ac]:=M;dsimp only at c o w;subst c o w;let hh:X.A.handled=none:=j.ok.hd B
 repeat (first|with_reducible show wpAny_loadPart_at O ?_|with_reducible show wpAny_loadPart_at z ?_|(with_reducible show wpAny_isSubtype_exc z ?_;rw[l])|wp_step)
 rw[Q];show Z3 ?_;rw[if_neg (!1)];exact Z3 (wpAny_raiseNew_none hh hE)
end
abbrev drop(H:Hp)(a:Addr):Hp:=λb=>if b=a then none else H b
def gh:drop H a a=none:=by unfold drop;rw[if_pos rfl]
def bQ(h:b≠a):drop H a b=H b:=by unfold drop;rw[if_neg h]
def Ag{P:Program}{K:ZA}
 (hk:exK K C f=true) (he:PE (eY (CXO P w) P w K mg base N h g p r A outer s₀ H₀ E) e te):
 PS (eY (CXO P w) P w K mg base N h g p r A outer s₀ H₀ E) (.Raise (some e) none pos) (tK C te λa H=>∃d,H a∣ExO a C (some d)/\H₀ a=none/\E (.ref C) (some d) (drop H a)):=by
 show B8 hk rfl he λff σ H s a ag I _ ⟨d,J,hn,q⟩=>?_
 let%[%[oe,vs,ea,Y,hd,hf,hz|h1]|_]:=I.hok a _ J;let ST:=I.stack;let SF:=I.stkFree;let L0:⇑s₀<=(envOfC h g ⇑s₀ p r).locals:=Zi _;change wpAny (model P w) (A.deeper (envOfC h g ⇑s₀ p r)) (leaving (envOfC h g ⇑s₀ p r) (.ref a)) _ _ s;let aa:a∉frs (envOfC h g ⇑s₀ p r::outer):=λz=>by
  let:=SF a z;rw[J]at this;cases this
 show vb (.inl rfl) I.ok.frames rfl %[λb o z=>of_hideAll _ z,PySem.W.hideAll_none _ (mem_cons.mpr (.inl rfl)),PySem.W.funFrames_hide ST λen ab b i=>mem_cons.mpr (.inr (mem_filterMap.mpr %[en,ab|i])),oe,vs,ea,Y,hd,hf,hz|h1] λh' u sm=>?_
 let G:∀b o,s.heap.get? b∣o->b≠a->b∉frs (envOfC h g ⇑s₀ p r::outer)->h'.get? b∣o/\(hideAll s.heap (a::frs (envOfC h g ⇑s₀ p r::outer))).get? b∣o:=λb o z n1 n2=>by
  let hB:=hideAll_get (a::frs (envOfC h g ⇑s₀ p r::outer)) z λm=>(mem_cons.mp m).elim n1 n2
  exact%[u.1 b o hB|hB]
 let T:∀b o,s.heap.get? b∣o->b∈frs (envOfC h g ⇑s₀ p r::outer)->∃sl,h'.get? b=some {o with slots:=sl}:=λb o z i=>by
  let%[_,o',z'|M]:=ST.mem i;rw[z]at z';cases z';exact sm b o z M
 let nL:∀b o,s₀.heap.get? b∣o->b∉frs outer->b∉frs (envOfC h g ⇑s₀ p r::outer):=λb o z n m=>by
  rcases mem_cons.mp (show b∈⇑s₀::frs outer from m)with y|y
  .exact absurd (Zu z) (y▸Xl _)
  .exact n y
 let sub:∀b,b∈frs outer->b∈frs (envOfC h g ⇑s₀ p r::outer):=λb i=>mem_cons.mpr (.inr i)
 let j:∀b,b∉(eY (CXO P w) P w K mg base N h g p r A outer s₀ H₀ E).ex:=λb z=>absurd (show b∈([]:List Addr)from z) ∅
 let new:s₀.heap.get? a=none:=by
  cases z:s₀.heap.get? a with
  | none=>rfl
  | some o=>
    let:=I.base.free a o z hn (j a);rw[J]at this;cases this
 let trk:∀b o,H b∣o->b∉frs (envOfC h g ⇑s₀ p r::outer):=λb o z m=>by
  rw[SF b m]at z;cases z
 show%[a,_,.ref C,some d,drop H a,ρ,%[I.os,I.bare,%[λb o z n i hx=>?_,λb o z n i hx=>?_,λb o z n hx=>?_,λb o z hx=>?_,λb xs z=>?_,λb o v z=>?_|λb ps z=>?_],λb o z=>?_,u,gh,new,λb ob z i M=>?_|λb i=>?_]|q]
 .let l:=I.base.keep b o z n i (j b);show(G b o l (λy=>?_) (nL b o z i)).1;subst y;rw[new]at z;cases z
 .let%[sl|l]:=I.base.slot b o z n i (j b);let%[ac|Q]:=T b _ l (sub b i);exact%[ac|Q]
 .by_cases y:b=a
  .exact y▸gh
  .rw[bQ y];exact I.base.free b o z n (j b)
 .let%[O|l]:=I.base.there b o z (j b);by_cases i:b∈frs (envOfC h g ⇑s₀ p r::outer)
  .let%[sl|Q]:=T b O l i;exact%[_|Q]
  .show%[O|(G b O l (λy=>?_) i).1];subst y;rw[new]at z;cases z
 .let l:=I.base.tups b xs z;rw[bQ (nH l J (by simp[ExO]))];exact l
 .let l:=I.base.frzs b o v z;rw[bQ (nH l J (by simp[ExO]))];exact l
 .let%[m|l]:=I.base.tbls b ps z;show%[m|?_];rw[bQ (nH l J (by simp[ExO]))];exact l
 .let y:b≠a:=λy=>by rw[y,gh]at z;cases z
  rw[bQ y]at z;show(I.hok b o z).stay (λc u' U L=>?_) (λc L=>?_) λc xs L=>?_
  .rcases U with rfl|U
   .exact(G c u' L y (trk c o z)).1
   .exact(G c u' L (nH U J (by simp[ExO])) (trk c _ U)).1
  .rw[bQ (nH L J (by simp[ExO]))];exact L
  .rw[bQ (nH L J (by simp[ExO]))];exact L
 .let y:b≠a:=λy=>by
   rcases i with⟨o,B⟩|⟨o,B⟩
   .rw[y,new]at B;cases B
   .rw[y,gh]at B;cases B
  let nf:b∉frs (envOfC h g ⇑s₀ p r::outer):=by
   rcases i with⟨o,B⟩|⟨o,B⟩
   .exact nL b o B M
   .rw[bQ y]at B;exact trk b o B
  let ex:∃O,s.heap.get? b∣O:=by
   rcases i with⟨o,B⟩|⟨o,B⟩
   .exact I.base.there b o B (j b)
   .rw[bQ y]at B;exact(I.hok b o B).there
  let%[O|l]:=ex;let%[Q|e3]:=G b O l y nf;rw[show h'.get? b∣ob from z]at Q;cases Q;exact e3
 .let y:b≠a:=λy=>aa (y▸sub b i)
  rw[bQ y];exact SF b (sub b i)
abbrev ExH(a C:Addr)(d:ZI):HO:= .ext λh=>∃o vs,h.get? a∣o/\o.cls= .ref C/\o.dict=d/\o.data= .fields vs
def ExH.ok{P:Program}(e:h.get? a∣o)(b:o.cls= .ref C)(c:o.dict=d)(f:o.data= .fields vs):
 cp P w H h a (ExH a C d):=
 %[%[o,vs,e,b,c|f],%[o|e]|λg i ⟨o,vs,e,r⟩ k=>%[o,vs,k o e|r]]
section
variable{X:Cx}{ff:ZE}{σ:St}{H:Hp}{s s':Shared}
def EQ(I:JQ X ff σ H s)(L:X.N.Nodup)(hi:X.N[i]?∣n)(N:X.env.kindOf n∣.local)
 (h:∀s',JQ X ff (σ.set i none) H s'->Q () s'):wpAny M A (do bindName X.env n .none;unbindBehindTheSuite X.env n pos) Q E s:=by
 let%[m,O|T]:=id I.loc;let B:i<σ.length:=I.len▸(Xn hi).1;show wpAny_nameGoes_keeps N O (by rw[I.ok.kind];rfl) λh' v u a=>h _ ?_
 let f:∀b o,X.s₀.heap.get? b∣o->b≠X.env.locals:=λb o e=>Zs (Zg (Zu e) I.ok.above)
 show%[I.ok,I.os,I.bare,%[λb o e n w l=>?_,λb o e n w l=>?_,I.base.free,λb o e l=>?_,I.base.tups,I.base.frzs|I.base.tbls],%[_,u|λj y U g C Y=>?_],λy c e=>?_,I.free,I.freeC,λp hp=>?_,λb ob e=>?_|by simpa using I.len]
 .exact(a.2 b (f b o e)).trans (I.base.keep b o e n w l)
 .let%[sl|g]:=I.base.slot b o e n w l;exact%[sl|(a.2 b (f b o e)).trans g]
 .let%[o'|g]:=I.base.there b o e l;exact%[o'|(a.2 b (f b o e)).trans g]
 .let G:j≠i:=λz=>by
   simp_all
  rw[List.getElem?_set_ne (Ne.symm G)]at C;let%[u',r'|q]:=T j y U g C Y;show%[u',r'|?_];rcases q with⟨k,e⟩|⟨k,c,e,z⟩
  .show .inl %[k|?_];let:y≠n:=λe=>G (iK L g (e▸hi))
   simp[this,e]
  .exact .inr %[k,c,e|z.sameBut a (I.cne y c e)]
 .let%[J|z]:=I.cell y c e;exact%[J|z.sameBut a (I.cne y c e)]
 .let%[e,n,ne,nf|d]:=I.pin p hp;exact%[(a.2 p.1 ne).trans e,n,ne,nf|d]
 .show(I.hok b ob e).stay (λc J r q=>(a.2 c ?_).trans q) (λ_ q=>q) λ_ _ q=>q
  rintro rfl;rcases r with rfl|r
  .rw[I.free]at e;cases e
  .rw[I.free]at r;cases r
end
section
variable{M:Model}{A:Around}{E:ZD}{s:Shared}{K:ZA}{D C e:Addr}{oe:Obj}{b:Bool}{Q:Bool->Shared->Prop}
def B9(X:K.In s.heap)(i:typeIn K (.ref D)∣.type "type")(j:subIn K (.ref D) (.type "BaseException")∣true)(d:(K.lookup D).any (λo=>match o.data with| .cls _=>true|_=>false)=true)
 (l:s.heap.get? e∣oe) (m:oe.cls= .ref C) (n:subIn K (.ref C) (.ref D)∣b) (f:Q b s):wpAny M A (excMatches (.ref e) (.ref D)) Q E s:=by
 let%[g,p|c]:=any_some d;show Z2 (Z2 ((PySem.W.looks_typeIn X i).here ?_));rw[tc_notTuple];show Z3 (Z2 (Z3 ?_));let a:∃h,g.data= .cls h:=by
  revert c
  cases g.data<;> intro c<;> first|exact⟨_,rfl⟩|cases c
 let%[h|a]:=a;let LT:Looks M s.heap (typeOf (.ref e)) _:=λq u v s' k r=>by
  exact Z2 (wpAny_loadPart (k _ _ l) (Z3 (m▸r)))
 show Z2 (Z2 (Z2 (Z2 (Z2 (wpAny_loadPart (X _ _ p) (Z3 ?_))))));rw[a,if_pos rfl];show(looks_subIn X j).here (Z3 (Z3 (Z2 (LT.here (Z2 (Z2 (Z2 ((looks_subIn X n).here ?_))))))));cases b with
 | true=>
   exact Z3 (Z3 (Z3 f))
 | false=>
   exact Z3 (Z3 (Z3 f))
end
noncomputable abbrev Cx.suiteX(X:Cx)(a:Addr):Cx:={X with A:=X.A.mark (some (.ref a)),calm:=false,xe:=λ_ _=>False}
section
variable{X:Cx}{ff pins' pn:ZE}{σ:St}{H:Hp}{s:Shared}{E:ZD}
def Jd(ok:X.Ok)(pn:List _)(E:ZD):({X with pn:=pn,xe:=E}).Ok:=
 %[ok.mod,ok.kind,ok.glob,ok.blt,ok.above,ok.inj,ok.has,ok.cab,ok.hd,ok.frames,ok.stk,ok.exf,ok.bs,ok.bsz,ok.noex,ok.exfs,ok.funs|ok.frf]
def unPn(ok:({X with pn:=pn,xe:=E}).Ok):X.Ok:=
 %[ok.mod,ok.kind,ok.glob,ok.blt,ok.above,ok.inj,ok.has,ok.cab,ok.hd,ok.frames,ok.stk,ok.exf,ok.bs,ok.bsz,ok.noex,ok.exfs,ok.funs|ok.frf]
def JQ.toPn(I:JQ X ff σ H s)(E:ZD):JQ ({X with pn:=X.pn++ff,xe:=E}) [] σ H s:=
 %[Jd I.ok _ E,I.os,I.bare,I.base,I.loc,I.cell,I.free,I.freeC,λp a=>I.pin p ↑a,I.hok|I.len]
def JQ.ofPn(I:JQ ({X with pn:=X.pn++ff,xe:=E}) pins' σ H s):JQ X ff σ H s:=
 %[unPn I.ok,I.os,I.bare,I.base,I.loc,I.cell,I.free,I.freeC,λp a=>I.pin p (Yw _ a),I.hok|I.len]
def JQ.toSuite(I:JQ X ff σ H s)(a:Addr):JQ (X.suiteX a) ff σ H s:=
 %[%[I.ok.mod,I.ok.kind,I.ok.glob,I.ok.blt,I.ok.above,I.ok.inj,I.ok.has,I.ok.cab,(λz=>Bool.noConfusion z),I.ok.frames,I.ok.stk,I.ok.exf,I.ok.bs,I.ok.bsz,I.ok.noex,I.ok.exfs,I.ok.funs|I.ok.frf],I.os,I.bare,I.base,I.loc,I.cell,I.free,I.freeC,I.pin,I.hok|I.len]
def JQ.ofSuite(I:JQ (X.suiteX a) ff σ H s)(ok:X.Ok):JQ X ff σ H s:=%[ok,I.os,I.bare,I.base,I.loc,I.cell,I.free,I.freeC,I.pin,I.hok|I.len]
def SP.ofPn{D:fU}(h:SP ({X with pn:=X.pn++ff,xe:=E}:Cx) [] D f s):SP X ff D f s:=by
 cases f with
 | next=>have%[a,b,I|q]:=h;exact%[a,b,I.ofPn|q]
 | brk=>have%[a,b,I|q]:=h;exact%[a,b,I.ofPn|q]
 | cont=>have%[a,b,I|q]:=h;exact%[a,b,I.ofPn|q]
 | ret u=>have%[v,a,b,I,r|q]:=h;exact%[v,a,b,I.ofPn,r|q]
end
abbrev fU.gone(D:fU)(i:Nat):fU:={nx:=λa H=>D.nx (a.set i none) H,rt:=D.rt,bk:=λa H=>D.bk (a.set i none) H,ct:=λa H=>D.ct (a.set i none) H}
structure Cat (K:ZA) (D:Addr):Prop where
 ty:typeIn K (.ref D)∣.type "type"
 ex:subIn K (.ref D) (.type "BaseException")∣true
 cd:(K.lookup D).any (λo=>match o.data with| .cls _=>true|_=>false)=true
structure ER (K:ZA) (C:Addr) (f:Str):Prop where
 ga:findIn K (.ref C) "__getattribute__"=some (some (.builtin "BaseException.__getattribute__"))
 hk:findIn K (.ref C) "__getattr__"=some none
 sub:subIn K (.ref C) (.type "BaseException")∣true
 no:findIn K (.ref C) f∣none
 hd:hasDictIn K C=true
section
#where
variable{K:ZA}{x C:Addr}{name:Str}{v:Value}{ox:Obj}{od:Option Obj}
def Hc(X:K.In s.heap)(I:PySem.W.InstAt s.heap x ox C od)(c:ER K C name)(d:findObj K C od name∣.value v)(f:handedIn v=true)
 (h:Q v {s with toks:=s.toks+1}):↥A (getAttr (.ref x) name a) Q E s:=by
 let b:Looks (model prog w) s.heap (typeOf (.ref x)) (.ref C):=I.type;let sub:Looks (model prog w) s.heap (isInstance (.ref x) (.type "BaseException")) true:=b.andThen (looks_subIn X c.sub);let g:=looks_find (M:=model prog w) X I d;let S:=PySem.F.excAttr_ValueError.ga;show Z2 (wpAny_mkText (wpAny_holding (Z2 (b _ _ _ _ (λ_ _ e=>e) (Z2 (looks_findIn X c.ga _ _ _ _ (λ_ _ e=>e) ?_))))));dsimp only;rw[show(onTheHeap (Value.ref C)&&Value.builtin "BaseException.__getattribute__"==Value.builtin "object.__getattribute__")=false from by rw[show(Value.builtin "BaseException.__getattribute__"==Value.builtin "object.__getattribute__")=false from !0,Bool.and_false],if_neg (!1)];show Z2 (looks_hook X (mc:= .ref C) (r:=none) (c.hk) _ _ _ _ (λ_ _ e=>e) (Z2 (wpAny_attempt (wpAny_holding ?_))));unfold callGetattribute;rw[show(a&&onTheHeap (Value.builtin _))=false from Bool.and_false _,if_neg (!1)];unfold boundAndCalled;rw[S.bind];show wpAny_call ?_;show codeAny_call_builtin S.plain PySem.F.entry_bexc_ga ?_;show @check_slot _ _ _ _ _ _ "__getattribute__" _ _ [] _ (!0) (!0) sub (PySem.F.args_bexc_ga _ _) ?_;show Z2 (Z3 (Z2 (Z3 (Z2 (Looks.here b (Z2 (Looks.here g (Z3 ?_))))))));change wpAny _ _ (handedOut v) _ _ _;rw[PySem.W.handedOut_of f];exact Z3 h
end
abbrev Ca(C:Addr)(c:TE)(f:Str):TE:=λe H Q=>c e H λx b=>∃a d fs v,x= .ref a/\b a∣ExH a C (some d)/\b d∣.xd fs/\fs.lookup f∣v/\Q v b
def ES{X:Cx}(c:ER X.K C f)(n:PE X e p)(w:attributeBase e f X.env (eval e X.env)=eval e X.env):PE X (.Attribute e f pos) (Ca C p f):=by
 intro ff s y H Q I h;show yD w (thP (n ff s y H _ I h) λu U x z b A ⟨a,d,fs,v,ex,B,E,l,q⟩=>?_);subst ex;obtain rfl:u=Value.ref a:=A;let%[%[o,vs,G,g,i|j]|_]:=b.hok a _ B;let%[Y,n1|r]:=b.hok d _ E;let%[uv,J|m]:=fP.some_of (l▸r f);let%[od,L|M]:=qD n1;let%[oc,N,O|T]:=o;dsimp only at g i j;subst g i j;exact Hc b.kIn %[G,rfl,rfl|L] c (findObj_own c.hd c.no rfl (by rw[M,J])) (qF m) %[v,z,b.tok _,m|q]
structure XIs (K:ZA) (C:Addr):Prop where
 ga:findIn K (.ref C) "__getattribute__"=some (some (.builtin "BaseException.__getattribute__"))
 hk:findIn K (.ref C) "__getattr__"=some none
 sub:subIn K (.ref C) (.type "BaseException")∣true
 hd:hasDictIn K C=true
 cl:findIn K (.ref C) "__class__"=some (some (.builtin "object.__class__"))
 gt:specialIn K (.builtin "object.__class__") "__get__"=some (some (.builtin "getset_descriptor.__get__"))
 tk:takesIn K (.builtin "object.__class__")∣true
 ob:mroIn K C (.type "object")∣true
section
#where
variable{K:ZA}{x C:Addr}{ox:Obj}{od:Option Obj}
def Hd(X:K.In s.heap)(I:PySem.W.InstAt s.heap x ox C od)(c:XIs K C)(h:Q (some (.ref C)) {s with toks:=s.toks+1}):↥A (getAttr? (.ref x) "__class__") Q E s:=by
 let a:Looks (model prog w) s.heap (typeOf (.ref x)) (.ref C):=I.type;let sub:Looks (model prog w) s.heap (isInstance (.ref x) (.type "BaseException")) true:=a.andThen (looks_subIn X c.sub);let b:findObj K C od "__class__"=some (.bind (.builtin "getset_descriptor.__get__") (.builtin "object.__class__")):=by
  let%[g,d|_]:=any_some c.hd;unfold findObj;rw[d,bind_some,c.cl,bind_some];dsimp only;rw[c.gt,bind_some];dsimp only;rw[c.tk,bind_some]
 let f:=looks_find (M:=model prog w) X I b;let S:=PySem.F.excAttr_ValueError.ga;unfold getAttr? getAttrBy? getAttrBy;show Z2 (wpAny_mkText (Z2 (wpAny_attempt (wpAny_holding (Z2 (a _ _ _ _ (λ_ _ e=>e) (Z2 (looks_findIn X c.ga _ _ _ _ (λ_ _ e=>e) ?_))))))));dsimp only;rw[show(onTheHeap (Value.ref C)&&Value.builtin "BaseException.__getattribute__"==Value.builtin "object.__getattribute__")=false from by rw[show(Value.builtin "BaseException.__getattribute__"==Value.builtin "object.__getattribute__")=false from !0,Bool.and_false],if_neg (!1)];show Z2 (looks_hook X (mc:= .ref C) (r:=none) (c.hk) _ _ _ _ (λ_ _ e=>e) (Z2 (wpAny_attempt (wpAny_holding ?_))));unfold callGetattribute;rw[show(false&&onTheHeap (Value.builtin "BaseException.__getattribute__"))=false from rfl,if_neg (!1)];unfold boundAndCalled;rw[S.bind];show Z2 (Z3 ?_);change wpAny _ _ (call (.builtin "BaseException.__getattribute__") _) _ _ _;show wpAny_call ?_;show codeAny_call_builtin S.plain PySem.F.entry_bexc_ga ?_;show @check_slot (model prog w) _ _ {s with toks:=s.toks+1} _ "BaseException" "__getattribute__" (.ref x) [.str "__class__" s.toks] [] _ (!0) (!0) sub (PySem.F.args_bexc_ga (.ref x) (.str "__class__" s.toks)) ?_;exact Z2 (Z3 (Z2 (Z3 (Z2 (Looks.here a (Z2 (Looks.here f (Z2 (wpAny_holding (wpAny_call (PySem.W.class_get (ox:=ox) (od:=od) X I c.ob (Z3 (Z3 (Z3 h))))))))))))))
def ET(c:XIs K C):KitX K (.ref x) (.ref C) (λh=>∃ox od,PySem.W.InstAt h x ox C od) where
 ty:=λ_ _ _ ⟨_,_,I⟩=>I.type
 it:=λ_ _ X _=>by
  let%[cdD,hcD|_]:=any_some c.hd;unfold clsIn at hcD
  split at hcD
  .rename_i c' d' cd' sl' ho
   intro A' Q' E' s' k q;exact Z2 (wpAny_loadPart (k _ _ (X _ _ ho)) (Z3 q))
  .cases hcD
 ne:=λh tp dd its n sl X htp=>by
  let%[cdD,hcD|_]:=any_some c.hd;show Bool.eq_false_iff.mpr λq=>?_
  let e:=Value.ref.inj (beq_iff_eq.mp q);subst e;unfold clsIn at hcD
  split at hcD
  .rename_i c' d' cd' sl' ho
   let z:=(X _ _ ho).symm.trans htp;cases z
  .cases hcD
 ca:=λX ⟨_,_,I⟩ k=>Hd X I c k
end
abbrev Held(H:Hp)(a C:Addr):Prop:=∃d,H a∣ExH a C d/\(d=none\/∃b fs,d∣b/\H b∣.xd fs)
inductive TyX (K:ZA) (H:Hp):V->Value->Prop where
 | non:TyX K H .non (.type "NoneType")
 | ex {a C:Addr} (h:Held H a C) (c:XIs K C):TyX K H (.ref a) (.ref C)
section
#version
def TyX.kit(ty:TyX X.K H x t)(I:JQ X ff σ H s)(r:aJ x u):∃f:Heap->Prop,KitX X.K u t f/\f s.heap/\u≠ .builtin "__main__.__loader__#opaque":=by
 cases ty with
 | non=>
   cases(r);exact%[_,kitx_none,True.intro|λz=>nomatch z]
 | @ex a C h c=>
   cases(r);let%[d,j|l]:=h;let%[%[o,vs,e,g,b|i]|_]:=I.hok a _ j;let%[y,m,n|p]:=o;dsimp only at g b i;subst g b i;show%[_,ET c,?_|λz=>nomatch z];rcases l with rfl|⟨q,fs,rfl,v⟩
   .exact%[_,none,e,ρ,ρ|trivial]
   .let%[od|w]:=(I.hok q _ v).there;exact%[_,some od,e,ρ,ρ|w]
end
def rB:∀{a:List Addr} {us:ZF},aD (a.map V.ref) us->us=a.map Value.ref
 |[],_,.nil=>rfl
 | _::_,_,.cons r t=>by
   cases r;rw[rB t];rfl
def Cb{X:Cx}:bZ X (.builtin "isinstance") (λxs H Q=>∃x y t b,xs=[x,y]/\TyX X.K H x t/\
 ((∃n,y= .ty n/\kitOne X.K t (.type n)∣b)\/(∃D,y= .ref D/\kitOne X.K t (.ref D)∣b)\/∃c d,y= .ref c/\H c&&&List.map V.ref d/\kitAny X.K t (d.map Value.ref)∣b)/\Q (.bl b) H):=by
 intro ff s B H xs us Q I r h;let%[x,y,t,b,rfl,ty,f|q]:=h;let%[u,C,rfl,g|a]:=iu r;let%[E,Z,p|nb]:=ty.kit I g;rcases f with⟨n,rfl,e⟩|⟨D,rfl,e⟩|⟨c,d,rfl,i,e⟩
 .cases(a);exact kia_one Z I.kIn p e nb λtk=>%[.bl b,H,I.tok tk,rfl|q]
 .cases(a);exact kia_one Z I.kIn p e nb λtk=>%[.bl b,H,I.tok tk,rfl|q]
 .cases(a);let%[_,its,j,o,l,m,n|v]:=I.hok c _ i;let:=rB j;subst this;let%[G,w,z|A]:=o;subst m v;exact PySem.W.kia_tup Z I.kIn p l e nb λtk=>%[.bl b,H,I.tok tk,rfl|q]
def He{X:Cx}{D:Addr}(b:Gl X x)(c:X.mg x∣.ref D)(a:(x==("__debug__":Str))=false):PE X (.Name x p) (λd H Q=>Q (.ref D) H):=λff s d H Q I h=>
 fD I b c %[.ref D,H,I,rfl|h] a
def Fun.okX{P:Program}{K:ZA}{st:Stmt}(F:Fun K x b st f g)(S:ax N ps (ao st))(len:∀vs H Q E,sp vs H Q E-> ~~~vs= ~~~ps)
 (c:∀(a:Value) (A:Around) (outer:List Env) (s:Shared) (H:Hp) (vs:List V) (Q:VK) (E:XK),bM k (A.deeper (envOfC b (ao st) ⇑s f a))->sp vs H Q E->
  ∃t,PSs (eY (CXO P w) P w K mg base N b (ao st) f a A outer s H E) (bL st) t/\t {nx:=λ_ h=>Q .non h,rt:=Q} (start N vs) H):d9 P w K mg base (CXO P w) (k+1) f g ps sp:=by
 let%[m,od,kV,i,n,o,a,ct,j,rfl,lk|d]:=F.ex;exact FC lk d S len λA outer s H vs Q E l e=>c a A outer s H vs Q E l e
abbrev aL(mg:ZC)(x:Str):Addr:=match mg x with
 | some (.ref C)=>C
 | _=>0
def eM(h:mg x∣.ref C):aL mg x=C:=by unfold aL;rw[h]
structure Cc (K:ZA) (mg:ZC) (x qual:Str) (st:Stmt) (ps:ZB):Prop where
 at_:mg x∣.ref (aL mg x)
 is:XIs K (aL mg x)
 ini:∃f fd,MkX K (aL mg x) f/\Fun K "__init__" qual st f fd/\dH K fd ps []
structure Cd (P:Program) (w:World) (K:ZA) (mg:ZC) (base:Heap) (k:Nat) (x:Str) (ps:ZB) (sp:Sp):Prop where
 ex:∃f fd,d9 P w K mg base (CXO P w) k f fd ps sp/\mg x∣.ref f/\keepIn K (.ref f)=true/\dH K fd ps []
structure Hf (P:Program) (w:World) (K:ZA) (mg:ZC) (base:Heap) (k:Nat) (x:Str) (ps:ZB) (sp:Sp):Prop where
 ex:∃f fd,d9 P w K mg base CX0 k f fd ps sp/\MkX K (aL mg x) f/\mg x∣.ref (aL mg x)/\dH K fd ps []
section
variable{P:Program}{w:World}{K:ZA}{mg:ZC}{base:Heap}{x qual:Str}{st:Stmt}{N ps:ZB}{k:Nat}{sp:Sp}
def aN.calX(D:aN K mg x st ps)(S:ax N ps (ao st))
 (a:∀(H:Hp) (vs:List V) (Q:VK) (E:XK),sp vs H Q E-> ~~~vs= ~~~ps/\∀(f:Addr) (b:Value) (A:Around) (outer:List Env) (s:Shared),bM k (A.deeper (envOfC x (ao st) ⇑s f b))->
  ∃t,PSs (eY (CXO P w) P w K mg base N x (ao st) f b A outer s H E) (bL st) t/\t {nx:=λ_ c=>Q .non c,rt:=Q} (start N vs) H):Cd P w K mg base (k+1) x ps sp:=by
 let%[f,d,F,e|g]:=D.ex;exact%[f,d,F.okX S (λv H Q E h=>(a H v Q E h).1) (λb A o s H v Q E r h=>(a H v Q E h).2 f b A o s r),e,F.kp|g]
def Cc.cal(D:Cc K mg x qual st ps)(S:ax N ps (ao st))(len:∀vs H Q E,sp vs H Q E-> ~~~vs= ~~~ps)
 (b:∀(f:Addr) (a:Value) (A:Around) (outer:List Env) (s:Shared) (H:Hp) (vs:List V) (Q:VK) (E:XK),exK K (aL mg x) f=true->bM k (A.deeper (envOfC qual (ao st) ⇑s f a))->sp vs H Q E->
  ∃t,PSs (eY CX0 P w K mg base N qual (ao st) f a A outer s H E).nox (bL st) t/\t {nx:=λ_ c=>Q .non c,rt:=Q} (start N vs) H):Hf P w K mg base (k+1) x ps sp:=by
 let%[f,d,M,F|e]:=D.ini;exact%[f,d,F.ok S len λa A outer s H vs Q E=>b f a A outer s H vs Q E M.ex,M,D.at_|e]
end
section
variable{X:Cx}{K:ZA}{pos:Pos}
def Je(g:gK (CXO X.prog X.w) X E)(C:Cd X.prog X.w X.K X.mg X.base j x ps sp)(h:bM k X.A)(i:Gl X x)(a:Nat.ble j k=true)
 (b:(x==("__debug__":Str))=false) (c:(e::d).any ba=false) (l:QA X (e::d) t):QE X (.Call (.Name x p) (e::d) [] pos) (qG sp [] E t):=by
 rw[Zw,X9]at c;let%[f,q,F,m,n|o]:=C.ex;exact⟨yG F (h.mono (Yd a)) i m n o .nil g l.h b (az c.1) (dI c.2)⟩
def Hg(C:Hf X.prog X.w X.K X.mg X.base j x ps sp)(g:bM k X.A)(h:Gl X x)(a:Nat.ble (j+1) k=true)
 (b:(x==("__debug__":Str))=false) (c:(e::d).any ba=false) (i:QA X (e::d) t):QE X (.Call (.Name x p) (e::d) [] pos) (xF (aL X.mg x) sp t):=by
 rw[Zw,X9]at c;let%[f,n,F,M,l|m]:=C.ex;exact⟨B7 M F (g.mono (Yd a)) h l m i.h b (az c.1) (dI c.2)⟩
def clsE(b:Gl X x)(c:X.mg x∣.ref (aL X.mg x))(a:(x==("__debug__":Str))=false):QE X (.Name x p) (tC (.ref (aL X.mg x))):=⟨He b c a⟩
def Hh(a:QE X e te):QE X (.FormattedValue e (-1) none pos) (Ha te):=⟨Hb a.h⟩
def Ce:PJ X [] []:= .nil
def pjE(a:QE X e t)(h:PJ X b ts):PJ X (e::b) (t::ts):= .cons a.h h
def Cf{rest:List Expr}(h:PJ X (v1::a::rest) ts):QE X (.JoinedStr (v1::a::rest) pos) (ot ts Str.empty):=⟨EO h⟩
def Jf(c:ER X.K C f)(a:gN e=false)(b:QE X e d):QE X (.Attribute e f pos) (Ca C d f):=⟨ES c b.h (fG a)⟩
def Jg(c:G9 X.K C f)(b:fF e=false)(d:QE X o g)(h:QE X e i):QS X (.Assign [.Attribute o f a] e pos) (FN X.K C g i f):=⟨EN c d.h h.h (iP b)⟩
def Cg(h:X.K=K):cq X (.builtin "isinstance") (λxs H Q=>∃x y t b,xs=[x,y]/\TyX K H x t/\
 ((∃n,y= .ty n/\kitOne K t (.type n)∣b)\/(∃D,y= .ref D/\kitOne K t (.ref D)∣b)\/∃a c,y= .ref a/\H a&&&List.map V.ref c/\kitAny K t (c.map Value.ref)∣b)/\Q (.bl b) H):=by
 subst h;exact⟨Cb⟩
end
def Hi{P:Program}{K:ZA}
 (g:exK K C f=true) (h:QE (eY (CXO P w) P w K mg base N c b i j A outer s₀ H₀ E) e te):
 QS (eY (CXO P w) P w K mg base N c b i j A outer s₀ H₀ E) (.Raise (some e) none pos) (tK C te λa H=>∃d,H a∣ExO a C (some d)/\H₀ a=none/\E (.ref C) (some d) (drop H a)):=⟨Ag g h.h⟩
def Hj{X:Cx}{C D f:Addr}(l:exK X.K C f=true)(m:Gl X x)(n:X.mg x∣.ref D)(B:B4 X.K D)(g:(x==("__debug__":Str))=false)(h:(e::c).any ba=false)
 (i:∃pl:Sem Bool,eval (.Call (.Attribute (.Name x p) "__init__" b) (e::c) [] pos) X.env=(do
  let j<-eval (.Name x p) X.env
  standAt b.atName
  let(f,first)<-holding [j] (getMethod j "__init__" pl)
  callWith pos f first (backTo pos (starEach (e::c) X.env)) (backToKw pos (keywordEach [] X.env)))) (o:QA X (e::c) t):
 QE X (.Call (.Attribute (.Name x p) "__init__" b) (e::c) [] pos) (tCB (λxs H Q=>∃a d ys,xs=V.ref a::ys/\ ~~~ys<=9/\H a∣ExO a C d/\Q .non H) t):=by
 rw[Zw,X9]at h;let%[pl|i]:=i;exact⟨B5 m n B (xE l) o.h g (az h.1) (dI h.2) i⟩
section
#where
end
abbrev clo(te:TE):TE:=λc H Q=>∃a:VK,te c H a/\∀v b,a v b->Q v b
def Hk{X:Cx}(h:PE X e te):PE X e (clo te):=λff s b H Q I ⟨c,q,k⟩=>
 thP (h ff s b H c I q) λ_ _ v a d r z=>%[v,a,d,r|k v a z]
def Hl{X:Cx}(h:PE X e t)(k:∀a H Q,t' a H Q->t a H Q):PE X e t':=λff s a H Q I q=>h ff s a H Q I (k a H Q q)
def Ch(h:H r=none):drop (JO H r o) r=H:=by
 funext b;unfold drop JO
 simp_all
section
variable{X:Cx}{K:ZA}{pos:Pos}
end
end _LL
namespace _SB
open PySem PyProof.Rows
section
variable(prog:Program)(w:World)(A:Around)(SI:Shared->Prop)
abbrev SC{a:Type}(m:StateT SortSt Sem a)(Q:a->SortSt->Prop)(st:SortSt):Prop:=
 ∀s,SI s->↥A (m.run st) (λr s'=>SI s'/\Q r.1 r.2) (λ_ _=>False) s
nonrec abbrev ZY:=Array Keyed
abbrev Cmp(a:SortKind)(D:Keyed->Prop):Prop:=
 ∀x y s,D x->D y->SI s->↥A (keyLt' a x.1 y.1) (λ_ s'=>SI s') (λ_ _=>False) s
end
section
variable{prog:Program}{w:World}{A:Around}{SI:Shared->Prop}{α β:Type}
def av{st:SortSt}(h:Q a st):(SC prog w A SI) (pure a) Q st:=λs b=>by
 exact Z3 %[b|h]
def ar{st:SortSt}(h:(SC prog w A SI) m (λa b=>(SC prog w A SI) (f a) Q b) st):(SC prog w A SI) (m>>= f) Q st:=λs c=>by
 exact Z2 (wpAny_mono (h s c) (λr s' h'=>h'.2 s' h'.1) λ_ _ e=>e)
def cr{st:SortSt}(h:(SC prog w A SI) m Q st)(c:∀a b,Q a b->d a b):(SC prog w A SI) m d st:=λs f=>
 wpAny_mono (h s f) (λr s' h'=>%[h'.1|c _ _ h'.2]) λ_ _ e=>e
def fS{st:SortSt}(h:Q st st):(SC prog w A SI) get Q st:=λs a=>by
 exact Z3 %[a|h]
def cQ{st:SortSt}(h:Q ⟨⟩ (f st)):(SC prog w A SI) (modify f) Q st:=λs a=>by
 exact Z3 %[a|h]
def Hm{st:SortSt}(h:Q ⟨⟩ x):(SC prog w A SI) (set x) Q st:=λs a=>by
 exact Z3 %[a|h]
def yR{st:SortSt}(h:∀s,SI s->↥A m (λa s'=>SI s'/\Q a st) (λ_ _=>False) s):(SC prog w A SI) (liftM m:StateT SortSt Sem α) Q st:=λs b=>by
 exact Z2 (wpAny_mono (h s b) (λa s' h'=>Z3 h') λ_ _ e=>e)
def jm{st:SortSt}(h:Q () st):(SC prog w A SI) (liftM (rule t):StateT SortSt Sem Unit) Q st:=yR λs a=>wpAny_rule %[a|h]
def bY{st:SortSt}(I:Nat->β->SortSt->Prop)(j:a<=b)(p:I a c st)
 (l:∀i x st,a<=i->i<b->I i x st->(SC prog w A SI) (f i x) (λr g=>match r with| .done y=>Q y g| .yield y=>I (i+1) y g) st) (m:∀x st,I b x st->Q x st):(SC prog w A SI) (forIn [a:b] c f) Q st:=by
 let q:∀d i x st,i+d=b->a<=i->I i x st->(SC prog w A SI) (forIn (List.range' i d 1) x f) Q st:=by
  intro d
  induction d with
  | zero=>
    intro i x st e _ h;subst e;exact av (m x st h)
  | succ d n=>
    intro i x st e o h;rw[List.range'_succ,forIn_cons];show ar (cr (l i x st o ⋯ h) λr g h'=>?_);cases r with
    | done y=>exact av h'
    | yield y=>exact n _ y g ⋯ ⋯ h'
 simp_all
def bo{st:SortSt}(a:xs[i]?∣x)(h:Q x st):(SC prog w A SI) (elem' xs i) Q st:=by
 rw[elem'_eq,a];exact av h
def ve{st:SortSt}(c:Cmp prog w A SI (kindOf st) D)(d:D x)(f:D y)(h:∀b,Q (some b) st):(SC prog w A SI) (lt' x y) Q st:=
 ar (fS (ar (yR (λs g=>wpAny_attempt (wpAny_mono (c x y s d f g) (λb s' a=>%[a|av (h b)]) λ_ _ e=>e.elim)))))
def EU{st:SortSt}(c:Cmp prog w A SI (kindOf st) D)(hi:(arrOf st)[i]?∣x)(a:(arrOf st)[j]?∣y)(d:D x)(e:D y)
 (h:∀b,Q (some b) st):(SC prog w A SI) (ltAt' i j) Q st:=
 ar (fS (ar (bo hi (ar (bo a (ve c d e h))))))
end
abbrev fJ:Bool->Keyed->ZY->Nat->Nat->Nat->StateT SortSt Sem (Option Nat):=sortPriv% PySem.Builtin.gallop
section
variable{prog:Program}{w:World}{A:Around}{SI:Shared->Prop}{α β:Type}
abbrev ga0(left:Bool)(key:Keyed)(a:ZY)(base i:Nat):StateT SortSt Sem (Option Bool):=do
 let x<-elem' a (base+i)
 if left=true then lt' x key else do
  let y<-lt' key x
  pure (y.map (!·))
abbrev gaM(f:Nat->StateT SortSt Sem (Option Bool))(x:Option (Option Nat)×Nat×Nat):StateT SortSt Sem (ForInStep (Option (Option Nat)×Nat×Nat)):=
 if x.2.1>=x.2.2 then pure (.done (none,x.2.1,x.2.2))else do
  match<-f (x.2.1+(x.2.2-x.2.1)/2)with
  | some w=>if w=true then pure (.yield (none,x.2.1+(x.2.2-x.2.1)/2+1,x.2.2))else pure (.yield (none,x.2.1,x.2.1+(x.2.2-x.2.1)/2))
  | _=>pure (.done (some none,x.2.1,x.2.2))
abbrev ga3(f:Nat->StateT SortSt Sem (Option Bool))(n lo hi:Nat):StateT SortSt Sem (Option Nat):=do
 let x<-forIn [0:n] (none,lo,hi) λ_ x=>gaM f x
 match x.1 with
 | some r=>pure r
 | none=>pure (some x.2.2)
abbrev ga1(f:Nat->StateT SortSt Sem (Option Bool))(n hint:Nat)(x:Option (Option Nat)×Nat×Nat):StateT SortSt Sem (ForInStep (Option (Option Nat)×Nat×Nat)):=
 if x.2.2>=n-hint then pure (.done (none,x.2.1,x.2.2))else do
  match<-f (hint+x.2.2)with
  | some w=>if(!w)=true then pure (.done (none,x.2.1,x.2.2))else pure (.yield (none,x.2.2,2*x.2.2+1))
  | _=>pure (.done (some none,x.2.1,x.2.2))
abbrev ga2(f:Nat->StateT SortSt Sem (Option Bool))(hint:Nat)(x:Option (Option Nat)×Nat×Nat):StateT SortSt Sem (ForInStep (Option (Option Nat)×Nat×Nat)):=
 if x.2.2>=hint+1 then pure (.done (none,x.2.1,x.2.2))else do
  match<-f (hint-x.2.2)with
  | some w=>if w=true then pure (.done (none,x.2.1,x.2.2))else pure (.yield (none,x.2.2,2*x.2.2+1))
  | _=>pure (.done (some none,x.2.1,x.2.2))
set_option smartUnfolding false in
def Jh(left:Bool)(key:Keyed)(a:ZY)(base n hint:Nat):fJ left key a base n hint=(do
 match<-ga0 left key a base hint with
 | some w=>
   if w=true then(do
    let x<-forIn [0:n] (none,0,1) λ_ x=>ga1 (ga0 left key a base) n hint x
    match x.1 with
    | some r=>pure r
    | none=>ga3 (ga0 left key a base) n (hint+x.2.1+1) (hint+min x.2.2 (n-hint)))
   else(do
    let x<-forIn [0:n] (none,0,1) λ_ x=>ga2 (ga0 left key a base) hint x
    match x.1 with
    | some r=>pure r
    | none=>ga3 (ga0 left key a base) n (hint+1-min x.2.2 (hint+1)) (hint-x.2.1))
 | _=>pure none):=rfl
def xG{f:Option (Option Nat)×Nat×Nat->StateT SortSt Sem (ForInStep (Option (Option Nat)×Nat×Nat))}{g:Option (Option Nat)×Nat×Nat->StateT SortSt Sem (Option Nat)}{n l h:Nat}{Q:Option Nat->SortSt->Prop}{st:SortSt}(P:Nat->Prop)(b:P h)
 (c:∀l h (R:ForInStep _->SortSt->Prop),P h->(∀l h,P h->R (.done (none,l,h)) st/\R (.yield (none,l,h)) st)->(SC prog w A SI) (f (none,l,h)) R st) (d:∀l h,P h->(SC prog w A SI) (g (none,l,h)) Q st):
 (SC prog w A SI) (do let x<-forIn [0:n] (none,l,h) λ_ x=>f x;g x) Q st:=by
 show ar (cr (bY (Q:=λx a=>a=st/\∃l h,x=(none,l,h)/\P h) (λ_ x a=>a=st/\∃l h,x=(none,l,h)/\P h) (Xg _) %[rfl,_,_,rfl|b] ?_ λ_ _ h=>h) ?_)
 .intro _ _ _ _ _ %[rfl,l,h,rfl|p];exact c l h _ p λl h p=>%[%[rfl,_,_,rfl|p],rfl,_,_,rfl|p]
 .intro _ _ %[rfl,l,h,rfl|p];exact d l h p
def eS{D:Keyed->Prop}{left:Bool}{key:Keyed}{a:ZY}{base n hint:Nat}{Q:Option Nat->SortSt->Prop}{st:SortSt}(c:Cmp prog w A SI (kindOf st) D)(e:D key)
 (j:∀i,i<n->∃x,a[base+i]?∣x/\D x) (m:hint<n) (h:∀k,k<=n->Q (some k) st):(SC prog w A SI) (fJ left key a base n hint) Q st:=by
 let ask:∀(i:Nat) (R:Option Bool->SortSt->Prop),i<n->(∀b,R (some b) st)->(SC prog w A SI) (ga0 left key a base i) R st:=λi R hi f=>by
  let%[x,p|g]:=j i hi;show ar (bo p ?_);cases left
  .exact ar (ve c e g λ_=>av (f _))
  .exact ve c g e f
 let g3:∀l o,o<=n->(SC prog w A SI) (ga3 (ga0 left key a base) n l o) Q st:=λl o d=>by
  show xG (·<=n) d (λl o R d k=>?_) λl o d=>av (h o d)
  unfold gaM;dsimp only
  split
  .exact av (k _ _ d).1
  .show ar (ask _ _ ⋯ λb=>?_);cases b
   .exact av (k _ _ ⋯).2
   .exact av (k _ _ d).2
 rw[Jh];show ar (ask hint _ m λb=>?_);cases b
 .show xG (λ_=>True) ⟨⟩ (λl o R _ k=>?_) λl o _=>g3 _ _ ⋯
  unfold ga2;dsimp only
  split
  .exact av (k _ _ ⟨⟩).1
  .show ar (ask _ _ ⋯ λb=>?_);cases b
   .exact av (k _ _ ⟨⟩).2
   .exact av (k _ _ ⟨⟩).1
 .show xG (λ_=>True) ⟨⟩ (λl o R _ k=>?_) λl o _=>g3 _ _ ⋯
  unfold ga1;dsimp only
  split
  .exact av (k _ _ ⟨⟩).1
  .show ar (ask _ _ ⋯ λb=>?_);cases b
   .exact av (k _ _ ⟨⟩).1
   .exact av (k _ _ ⟨⟩).2
end
abbrev ou:ZY->ZY->StateT SortSt Sem ZY:=sortPriv% PySem.Builtin.mergeLo
abbrev oy:ZY->ZY->StateT SortSt Sem ZY:=sortPriv% PySem.Builtin.mergeHi
abbrev di:Nat->StateT SortSt Sem Unit:=sortPriv% PySem.Builtin.setMinGallop
def gi(g:Nat):di g=modify (λs=>SortSt.mk' (kindOf s) (arrOf s) (pendingOf s) g (failedOf s)):=rfl
abbrev dN(a b r:ZY):Prop:=r.toList.Perm (a.toList++b.toList)
abbrev MI(a b out:ZY)(c d:Nat):Prop:=(out.toList++(a.toList.drop c++b.toList.drop d)).Perm (a.toList++b.toList)
def e8(a:ZY)(i j:Nat):(a.extract i j).toList=(a.toList.drop i).take (j-i):=by
 simp
def nA(a:ZY)(i:Nat):(a.extract i a.size).toList=a.toList.drop i:=by
 rw[e8,Zn]
 simp_all
def nB(a:ZY)(i k:Nat):(a.extract i (i+k)).toList=(a.toList.drop i).take k:=by
 simp
def MI.takeA{a b out:ZY}{c d:Nat}(h:MI a b out c d)(k:Nat):MI a b (out++a.extract c (c+k)) (c+k) d:=by
 unfold MI at h ⊢;rw[Xf,nB,Ze,<-Ze _ (a.toList.drop _),<-drop_drop,Xd];exact h
def MI.takeB{a b out:ZY}{d c:Nat}(h:MI a b out d c)(k:Nat):MI a b (out++b.extract c (c+k)) d (c+k):=by
 unfold MI at h ⊢;show List.Perm.trans ?_ h;rw[Xf,nB,Ze];show List.Perm.append_left _ ?_;show(List.perm_append_comm_assoc _ _ _).trans ?_;rw[<-drop_drop,Xd]
def gX{a:ZY}{i:Nat}(h:i<a.size)(out:ZY):out++a.extract i (i+1)=out.push a[i]:=by
 apply Array.ext';rw[Xf,nB,toList_push,List.drop_eq_getElem_cons ↑h];rfl
def MI.done{a b out:ZY}{c d:Nat}(h:MI a b out c d):dN a b (out++a.extract c a.size++b.extract d b.size):=by
 unfold dN;rw[Xf,Xf,nA,nA,Ze];exact h
def MI.last{a b out:ZY}{c d:Nat}(h:MI a b out c d):dN a b (out++b.extract d b.size++a.extract c a.size):=by
 unfold dN;rw[Xf,Xf,nA,nA,Ze];exact(List.Perm.append_left _ List.perm_append_comm).trans h
abbrev SG(st a:SortSt):Prop:=kindOf a=kindOf st/\arrOf a=arrOf st/\pendingOf a=pendingOf st/\failedOf a=failedOf st
def SG.refl(st:SortSt):SG st st:=%[rfl,rfl,rfl|rfl]
def SG.set{st a:SortSt}(h:SG st a)(g:Nat):SG st (SortSt.mk' (kindOf a) (arrOf a) (pendingOf a) g (failedOf a)):=h
def SG.trans{s t u:SortSt}(h:SG s t)(k:SG t u):SG s u:=%[k.1.trans h.1,k.2.1.trans h.2.1,k.2.2.1.trans h.2.2.1|k.2.2.2.trans h.2.2.2]
structure LC (prog:Program) (w:World) (A:Around) (SI:Shared->Prop) (D:Keyed->Prop) (a b:ZY) (st:SortSt):Prop where
 c:Cmp prog w A SI (kindOf st) D
 DA:∀{i:Nat} (hi:i<a.size),a[i]?∣a[i]/\D a[i]
 DB:∀{i:Nat} (hi:i<b.size),b[i]?∣b[i]/\D b[i]
def LC.of{prog:Program}{w:World}{A:Around}{d:Shared->Prop}{D:Keyed->Prop}{a b:ZY}{s t:SortSt}(C:LC prog w A d D a b s)(h:SG s t):LC prog w A d D a b t:={C with c:=h.1▸C.c}
section
variable{prog:Program}{w:World}{A:Around}{SI:Shared->Prop}{α β:Type}
structure ML (a b out:ZY) (ia ib:Nat):Prop where
 mi:MI a b out ia ib
 na:ia+1<a.size
 nb:ib<b.size
abbrev lo3(a b out:ZY)(c d g k k1:Nat):StateT SortSt Sem (ForInStep (Option ZY×ZY×Nat×Nat×Nat×Nat×Nat)):=elem' a c>>= λe=>if(c+1+1==a.size)=true then pure (.done (some (out.push e++b.extract d b.size++a.extract (c+1) a.size),out.push e,c+1,d,g,k,k1))else if(decide (k<7)&&decide (k1<7))=true then pure (.done (none,out.push e,c+1,d,g,k,k1))else pure (.yield (none,out.push e,c+1,d,g,k,k1))
abbrev lo2(a b out:ZY)(d c g k f:Nat):StateT SortSt Sem (ForInStep (Option ZY×ZY×Nat×Nat×Nat×Nat×Nat)):=elem' b c>>= λe=>if(c+1==b.size)=true then pure (.done (some (out.push e++a.extract d a.size++b.extract (c+1) b.size),out.push e,d,c+1,g,k,f))else elem' a d>>= λh=>fJ true h b (c+1) (b.size-(c+1)) 0>>= fun|some k1=>if k1>0 then if(c+1+k1==b.size)=true then pure (.done (some (out.push e++b.extract (c+1) (c+1+k1) ++a.extract d a.size++b.extract (c+1+k1) b.size),out.push e++b.extract (c+1) (c+1+k1),d,c+1+k1,g,k,k1))else lo3 a b (out.push e++b.extract (c+1) (c+1+k1)) d (c+1+k1) g k k1 else lo3 a b (out.push e) d (c+1) g k k1|_=>pure (.done (some (out.push e++a.extract d a.size++b.extract (c+1) b.size),out.push e,d,c+1,g,k,f))
abbrev lo1(a b out:ZY)(c d h f g:Nat):StateT SortSt Sem (ForInStep (Option ZY×ZY×Nat×Nat×Nat×Nat×Nat)):=di g>>= λ_=>elem' b d>>= λe=>fJ false e a c (a.size-c) 0>>= fun|some k=>if k>0 then if(c+k+1==a.size)=true then pure (.done (some (out++a.extract c (c+k) ++b.extract d b.size++a.extract (c+k) a.size),out++a.extract c (c+k),c+k,d,g,k,f))else if(c+k==a.size)=true then pure (.done (some (out++a.extract c (c+k) ++a.extract (c+k) a.size++b.extract d b.size),out++a.extract c (c+k),c+k,d,g,k,f))else lo2 a b (out++a.extract c (c+k)) (c+k) d g k f else lo2 a b out c d g k f|_=>pure (.done (some (out++a.extract c a.size++b.extract d b.size),out,c,d,g,h,f))
abbrev loI(a b out:ZY)(c d g f h:Nat):StateT SortSt Sem (ForInStep (Option ZY×ZY×Nat×Nat×Nat×Nat)):=elem' b d>>= λi=>elem' a c>>= λj=>lt' i j>>= fun|some w=>if w=true then(elem' b d>>= λe=>if(d+1==b.size)=true then pure (.done (some (out.push e++a.extract c a.size++b.extract (d+1) b.size),out.push e,c,d+1,0,h+1))else if h+1>=g then pure (.done (none,out.push e,c,d+1,0,h+1))else pure (.yield (none,out.push e,c,d+1,0,h+1)))else(elem' a c>>= λe=>if(c+1+1==a.size)=true then pure (.done (some (out.push e++b.extract d b.size++a.extract (c+1) a.size),out.push e,c+1,d,f+1,0))else if f+1>=g then pure (.done (none,out.push e,c+1,d,f+1,0))else pure (.yield (none,out.push e,c+1,d,f+1,0)))|_=>pure (.done (some (out++a.extract c a.size++b.extract d b.size),out,c,d,f,h))
abbrev loG(a b:ZY):Option ZY×ZY×Nat×Nat×Nat×Nat×Nat->StateT SortSt Sem (ForInStep (Option ZY×ZY×Nat×Nat×Nat×Nat×Nat)):=λx=>
 if x.2.2.2.2.1>1 then lo1 a b x.2.1 x.2.2.1 x.2.2.2.1 x.2.2.2.2.2.1 x.2.2.2.2.2.2 (x.2.2.2.2.1-1)else lo1 a b x.2.1 x.2.2.1 x.2.2.2.1 x.2.2.2.2.2.1 x.2.2.2.2.2.2 x.2.2.2.2.1
abbrev loE(x:Option ZY×ZY×Nat×Nat×Nat×Nat×Nat):StateT SortSt Sem (ForInStep (Option ZY×ZY×Nat×Nat×Nat)):=
 match x.1 with
 | some r=>pure (.done (some r,x.2.1,x.2.2.1,x.2.2.2.1,x.2.2.2.2.1))
 | none=>do
   di (x.2.2.2.2.1+1)
   pure (.yield (none,x.2.1,x.2.2.1,x.2.2.2.1,x.2.2.2.2.1+1))
abbrev loF(a b:ZY)(g:Nat)(x:Option ZY×ZY×Nat×Nat×Nat×Nat):StateT SortSt Sem (ForInStep (Option ZY×ZY×Nat×Nat×Nat)):=
 match x.1 with
 | some r=>pure (.done (some r,x.2.1,x.2.2.1,x.2.2.2.1,g))
 | none=>do
   rule "list.sort.gallop"
   let x<-forIn [0:a.size+b.size] (none,x.2.1,x.2.2.1,x.2.2.2.1,g+1,x.2.2.2.2.1,x.2.2.2.2.2) λ_ x=>loG a b x
   loE x
abbrev loO(a b:ZY):Option ZY×ZY×Nat×Nat×Nat->StateT SortSt Sem (ForInStep (Option ZY×ZY×Nat×Nat×Nat)):=λx=>do
 let y<-forIn [0:a.size+b.size] (none,x.2.1,x.2.2.1,x.2.2.2.1,0,0) λ_ y=>loI a b y.2.1 y.2.2.1 y.2.2.2.1 x.2.2.2.2 y.2.2.2.2.1 y.2.2.2.2.2
 loF a b x.2.2.2.2 y
abbrev loR(x:Option ZY×ZY×Nat×Nat×Nat):StateT SortSt Sem ZY:=
 match x.1 with
 | some r=>pure r
 | none=>unsupported "internal:list.sort.merge-bound"
set_option smartUnfolding false in
def Ji(a b:ZY):ou a b=(do
 rule "list.sort.merge-lo"
 let e<-elem' b 0
 if(1==b.size)=true then pure (#[e] ++a.extract 0 a.size++b.extract 1 b.size)
 else if(0+1==a.size)=true then pure (#[e] ++b.extract 1 b.size++a.extract 0 a.size)
 else do
  let s<-get
  let x<-forIn [0:a.size+b.size] (none,#[e],0,1,gallopOf s) λ_ x=>loO a b x
  loR x):=by
 rfl
variable{D:Keyed->Prop}{a b out:ZY}{ia ib g k bc z:Nat}{st:SortSt}
def aY{m n:Nat}(h: ¬(m==n)=true):m≠n:=λe=>h (by simp[e])
def Ci{k1:Nat}{R:ForInStep _->SortSt->Prop}(C:LC prog w A SI D a b st)(m:ML a b out ia ib)(d:z<=out.size+1)
 (e:∀r o,dN a b r->R (.done (some r,o)) st) (f:∀out ia ib g k k1,ML a b out ia ib->z<=out.size->R (.done (none,out,ia,ib,g,k,k1)) st/\R (.yield (none,out,ia,ib,g,k,k1)) st):(SC prog w A SI) (lo3 a b out ia ib g k k1) R st:=by
 let na:=m.na;show ar (bo (C.DA ⋯).1 ?_);let c:=m.mi.takeA 1;rw[gX ⋯]at c
 split
 .exact av (e _ _ c.last)
 .rename_i q
  let q:=aY q;let h:=f _ _ _ g k k1 %[c,⋯|m.nb] (by rw[Xk];exact d)
  split
  .exact av h.1
  .exact av h.2
def Cj{R:ForInStep (Option ZY×ZY×Nat×Nat×Nat×Nat×Nat)->SortSt->Prop}(C:LC prog w A SI D a b st)(m:ML a b out ia ib)(p:z<=out.size+2)
 (c:∀r o,dN a b r->R (.done (some r,o)) st) (e:∀out ia ib g k k1,ML a b out ia ib->z<=out.size->R (.done (none,out,ia,ib,g,k,k1)) st/\R (.yield (none,out,ia,ib,g,k,k1)) st):(SC prog w A SI) (lo2 a b out ia ib g k bc) R st:=by
 let%[l,na|nb]:=m;show ar (bo (C.DB nb).1 ?_);let d:=l.takeB 1;rw[gX nb]at d
 split
 .exact av (c _ _ d.done)
 .rename_i q
  let q:=aY q;let f:=C.DA (show ia<_ by lia);show ar (bo f.1 (ar (eS C.c f.2 (λi hi=>%[_|C.DB ⋯]) ⋯ λk2 n=>?_)));dsimp only
  split
  .let h:=d.takeB k2
   split
   .exact av (c _ _ h.done)
   .rename_i j
    let j:=aY j;exact Ci C %[h,na|⋯] (by simp;lia) c e
  .exact Ci C %[d,na|⋯] (by rw[Xk];lia) c e
def Ho{l:Nat}{R:ForInStep (Option ZY×ZY×Nat×Nat×Nat×Nat×Nat)->SortSt->Prop}(C:LC prog w A SI D a b st)(m:ML a b out ia ib)(n:z<=out.size+2)
 (d:∀c r o,SG st c->dN a b r->R (.done (some r,o)) c) (e:∀c out ia ib g k k1,SG st c->ML a b out ia ib->z<=out.size->R (.done (none,out,ia,ib,g,k,k1)) c/\R (.yield (none,out,ia,ib,g,k,k1)) c):(SC prog w A SI) (lo1 a b out ia ib l bc g) R st:=by
 let na:=m.na;let f:=C.DB m.nb;unfold lo1;rw[gi];show ar (cQ ?_);let sg:=(SG.refl st).set g;let d:=λr o=>d _ r o sg
 let e:=λout ia ib g k k1=>e _ out ia ib g k k1 sg
 let C:=C.of sg;show ar (bo f.1 (ar (eS C.c f.2 (λi hi=>%[_|C.DA ⋯]) ⋯ λk p=>?_)));dsimp only
 split
 .let mk:=m.mi.takeA k
  split
  .exact av (d _ _ mk.last)
  .rename_i h
   let h:=aY h
   split
   .exact av (d _ _ mk.done)
   .rename_i j
    let j:=aY j;exact Cj C %[mk,⋯|m.nb] (by simp;lia) d e
 .exact Cj C m n d e
def Hq{c:Nat}{R:ForInStep (Option ZY×ZY×Nat×Nat×Nat×Nat)->SortSt->Prop}(C:LC prog w A SI D a b st)(m:ML a b out ia ib)(f:z<=out.size+1)
 (i:∀r o,dN a b r->R (.done (some r,o)) st) (j:∀out ia ib c bc,ML a b out ia ib->z<=out.size->R (.done (none,out,ia,ib,c,bc)) st/\R (.yield (none,out,ia,ib,c,bc)) st):(SC prog w A SI) (loI a b out ia ib g c bc) R st:=by
 let%[l,na|nb]:=m;let d:=C.DA (show ia<_ by lia);let e:=C.DB nb;show ar (bo e.1 (ar (bo d.1 (ar (ve C.c e.2 d.2 λ_=>?_)))));dsimp only
 split
 .show ar (bo e.1 ?_);let m2:=l.takeB 1;rw[gX nb]at m2
  split
  .exact av (i _ _ m2.done)
  .rename_i q
   let q:=aY q;let h:=j _ _ _ 0 (bc+1) %[m2,na|⋯] (by rw[Xk];exact f)
   split
   .exact av h.1
   .exact av h.2
 .show ar (bo d.1 ?_);let m2:=l.takeA 1;rw[gX ⋯]at m2
  split
  .exact av (i _ _ m2.last)
  .rename_i q
   let q:=aY q;let h:=j _ _ _ (c+1) 0 %[m2,⋯|nb] (by rw[Xk];exact f)
   split
   .exact av h.1
   .exact av h.2
def Hr{j:Nat}{q:Option ZY}{R:ForInStep (Option ZY×ZY×Nat×Nat×Nat)->SortSt->Prop}(C:LC prog w A SI D a b st)(m:ML a b out ia ib)(e:j+1<=out.size)
 (p:∀d r o,SG st d->dN a b r->R (.done (some r,o)) d) (s:∀d out ia ib g,SG st d->ML a b out ia ib->j+2<=out.size->R (.yield (none,out,ia,ib,g)) d):(SC prog w A SI) (loO a b (q,out,ia,ib,g)) R st:=by
 let u:=m.na;show ar (cr (bY (Q:=λx d=>SG st d/\((∃r o,x=(some r,o)/\dN a b r)\/∃out ia ib f bc,x=(none,out,ia,ib,f,bc)/\ML a b out ia ib/\j+2<=out.size))
  (λj2 x d=>SG st d/\∃out ia ib f bc,x=(none,out,ia,ib,f,bc)/\ML a b out ia ib/\j+1+j2<=out.size) (Xg _) %[SG.refl _,_,_,_,_,_,rfl,m|e] ?_ ?_) ?_)
 .intro j2 x i _ l %[c,out,ia,ib,f,bc,rfl,m|e];exact Hq (C.of c) m ⋯ (λr o h=>%[c|.inl %[r,o,rfl|h]]) λout ia ib f bc h z=>%[%[c|.inr %[_,_,_,_,_,rfl,h|⋯]],c,_,_,_,_,_,rfl,h|z]
 .intro x i %[c,out,ia,ib,f,bc,rfl,m|e];exact%[c|.inr %[_,_,_,_,_,ρ,m|⋯]]
 .rintro x i ⟨c,⟨r,o,rfl,n⟩|⟨out,ia,ib,f,bc,rfl,m,e⟩⟩
  .exact av (p _ r _ c n)
  .show ar (jm ?_);show ar (cr (bY (Q:=λx d=>SG st d/\((∃r o,x=(some r,o)/\dN a b r)\/∃out ia ib g f bc,x=(none,out,ia,ib,g,f,bc)/\ML a b out ia ib/\j+2<=out.size))
    (λj2 x d=>SG st d/\∃out ia ib g f bc,x=(none,out,ia,ib,g,f,bc)/\ML a b out ia ib/\j+2<=out.size) (Xg _) %[c,_,_,_,_,_,_,rfl,m|e] ?_ ?_) ?_)
   .intro j2 x i _ l %[c,out,ia,ib,g,f,bc,rfl,m|e];unfold loG;rw[<-apply_ite _];exact Ho (C.of c) m ⋯ (λd r o sg h=>%[SG.trans c sg|.inl %[r,o,rfl|h]]) λd out ia ib g k k1 sg h z=>%[%[SG.trans c sg|.inr %[_,_,_,_,_,_,rfl,h|z]],SG.trans c sg,_,_,_,_,_,_,rfl,h|z]
   .simp_all
   .rintro x i ⟨c,⟨r,o,rfl,n⟩|⟨out,ia,ib,g,f,bc,rfl,m,e⟩⟩
    .exact av (p _ r _ c n)
    .exact ar (cQ (av (s _ _ _ _ _ (c.set _) m e)))
def xH{Q:ZY->SortSt->Prop}(C:LC prog w A SI D a b st)(v:1<=a.size)(l:1<=b.size)(h:∀r c,SG st c->dN a b r->Q r c):(SC prog w A SI) (ou a b) Q st:=by
 rw[Ji];show ar (jm (ar (bo (C.DB l).1 ?_)));let i:=(show MI a b #[] 0 0 from List.Perm.refl _).takeB 1;rw[gX l]at i
 split
 .exact av (h _ st (SG.refl _) i.done)
 rename_i n
 let n:=aY n
 split
 .exact av (h _ st (SG.refl _) i.last)
 rename_i p
 let p:=aY p;show ar (fS ?_);show ar (cr (bY (Q:=λx c=>SG st c/\∃r,x.1∣r/\dN a b r)
  (λj x c=>SG st c/\∃out ia ib g,x=(none,out,ia,ib,g)/\ML a b out ia ib/\j+1<=out.size) (Xg _) %[SG.refl _,_,_,_,_,rfl,%[i,⋯|⋯]|Zi _] ?_ ?_) ?_)
 .intro j x d _ y %[sg,out,ia,ib,g,rfl,m|f];exact Hr (C.of sg) m f (λc r o e h=>%[SG.trans sg e,r,rfl|h]) λc out ia ib g e h z=>%[SG.trans sg e,_,_,_,_,rfl,h|z]
 .intro x d %[sg,out,ia,ib,g,rfl,m|f];let:=m.na;let q:=m.mi.length_eq;simp only[Z9,Zb,Yh]at q
  lia
 .rintro⟨B,x2⟩ d ⟨sg,r,s,u⟩;subst s;exact av (h r d sg u)
end
abbrev MH(a b out:ZY)(na nb:Nat):Prop:=(b.toList.take nb++(a.toList.take na++out.reverse.toList)).Perm (a.toList++b.toList)
def yS(a out:ZY){k n:Nat}(h:k<=n):a.toList.take k++(out++(a.extract k n).reverse).reverse.toList=a.toList.take n++out.reverse.toList:=by
 rw[Array.reverse_append,Array.reverse_reverse,Xf,e8,<-Ze,<-List.take_add,Nat.add_sub_cancel' h]
def MH.takeA{a b out:ZY}{na nb k:Nat}(h:MH a b out na nb)(c:k<=na):MH a b (out++(a.extract k na).reverse) k nb:=by
 unfold MH;rw[yS _ _ c];exact h
def MH.takeB{a b out:ZY}{na nb k:Nat}(h:MH a b out na nb)(c:k<=nb):MH a b (out++(b.extract k nb).reverse) na k:=by
 show(List.perm_append_comm_assoc _ _ _).trans ?_;rw[yS _ _ c];exact(List.perm_append_comm_assoc _ _ _).trans h
def iT{a:ZY}{i:Nat}(h:i<a.size)(out:ZY):out++(a.extract i (i+1)).reverse=out.push a[i]:=by
 rw[<-gX h,<-Array.empty_append (xs:=a.extract i (i+1)),gX h];rfl
def MH.first{a b out:ZY}{na nb:Nat}(h:MH a b out na nb):dN a b (b.extract 0 nb++a.extract 0 na++out.reverse):=by
 unfold dN;rw[Xf,Xf,e8,e8,Ze];exact h
def MH.done{a b out:ZY}{na nb:Nat}(h:MH a b out na nb):dN a b (a.extract 0 na++b.extract 0 nb++out.reverse):=by
 unfold dN;rw[Xf,Xf,e8,e8,Ze];exact(List.perm_append_comm_assoc _ _ _).trans h
section
variable{prog:Program}{w:World}{A:Around}{SI:Shared->Prop}{α β:Type}
structure MHS (a b out:ZY) (na nb:Nat):Prop where
 mh:MH a b out na nb
 pa:1<=na
 pb:2<=nb
 ma:na<=a.size
 mb:nb<=b.size
abbrev hi3(a b:ZY)(na nb:Nat)(out:ZY)(g k k1:Nat):StateT SortSt Sem (ForInStep (Option ZY×Nat×Nat×ZY×Nat×Nat×Nat)):=elem' a (na-1)>>= λe=>if(na-1==0)=true then pure (.done (some (a.extract 0 (na-1) ++b.extract 0 nb++(out.push e).reverse),na-1,nb,out.push e,g,k,k1))else if(decide (k<7)&&decide (k1<7))=true then pure (.done (none,na-1,nb,out.push e,g,k,k1))else pure (.yield (none,na-1,nb,out.push e,g,k,k1))
abbrev hi2(a b:ZY)(na nb:Nat)(out:ZY)(g k c:Nat):StateT SortSt Sem (ForInStep (Option ZY×Nat×Nat×ZY×Nat×Nat×Nat)):=elem' b (nb-1)>>= λe=>if(nb-1==1)=true then pure (.done (some (b.extract 0 (nb-1) ++a.extract 0 na++(out.push e).reverse),na,nb-1,out.push e,g,k,c))else elem' a (na-1)>>= λd=>fJ true d b 0 (nb-1) (nb-1-1)>>= fun|some k1=>if nb-1-k1>0 then if(k1==1)=true then pure (.done (some (b.extract 0 k1++a.extract 0 na++(out.push e++(b.extract k1 (nb-1)).reverse).reverse),na,k1,out.push e++(b.extract k1 (nb-1)).reverse,g,k,nb-1-k1))else if(k1==0)=true then pure (.done (some (a.extract 0 na++b.extract 0 k1++(out.push e++(b.extract k1 (nb-1)).reverse).reverse),na,k1,out.push e++(b.extract k1 (nb-1)).reverse,g,k,nb-1-k1))else hi3 a b na k1 (out.push e++(b.extract k1 (nb-1)).reverse) g k (nb-1-k1)else hi3 a b na (nb-1) (out.push e) g k (nb-1-k1)|_=>pure (.done (some (a.extract 0 na++b.extract 0 (nb-1) ++(out.push e).reverse),na,nb-1,out.push e,g,k,c))
abbrev hi1(a b:ZY)(na nb:Nat)(out:ZY)(d c g:Nat):StateT SortSt Sem (ForInStep (Option ZY×Nat×Nat×ZY×Nat×Nat×Nat)):=di g>>= λ_=>elem' b (nb-1)>>= λe=>fJ false e a 0 na (na-1)>>= fun|some k=>if na-k>0 then if(k==0)=true then pure (.done (some (a.extract 0 k++b.extract 0 nb++(out++(a.extract k na).reverse).reverse),k,nb,out++(a.extract k na).reverse,g,na-k,c))else hi2 a b k nb (out++(a.extract k na).reverse) g (na-k) c else hi2 a b na nb out g (na-k) c|_=>pure (.done (some (a.extract 0 na++b.extract 0 nb++out.reverse),na,nb,out,g,d,c))
abbrev hiI(a b:ZY)(na nb:Nat)(out:ZY)(g c d:Nat):StateT SortSt Sem (ForInStep (Option ZY×Nat×Nat×ZY×Nat×Nat)):=elem' b (nb-1)>>= λf=>elem' a (na-1)>>= λh=>lt' f h>>= fun|some w=>if w=true then(elem' a (na-1)>>= λe=>if(na-1==0)=true then pure (.done (some (a.extract 0 (na-1) ++b.extract 0 nb++(out.push e).reverse),na-1,nb,out.push e,c+1,0))else if c+1>=g then pure (.done (none,na-1,nb,out.push e,c+1,0))else pure (.yield (none,na-1,nb,out.push e,c+1,0)))else(elem' b (nb-1)>>= λe=>if(nb-1==1)=true then pure (.done (some (b.extract 0 (nb-1) ++a.extract 0 na++(out.push e).reverse),na,nb-1,out.push e,0,d+1))else if d+1>=g then pure (.done (none,na,nb-1,out.push e,0,d+1))else pure (.yield (none,na,nb-1,out.push e,0,d+1)))|_=>pure (.done (some (a.extract 0 na++b.extract 0 nb++out.reverse),na,nb,out,c,d))
abbrev hiG(a b:ZY)(x:Option ZY×Nat×Nat×ZY×Nat×Nat×Nat):StateT SortSt Sem (ForInStep (Option ZY×Nat×Nat×ZY×Nat×Nat×Nat)):=
 if x.2.2.2.2.1>1 then hi1 a b x.2.1 x.2.2.1 x.2.2.2.1 x.2.2.2.2.2.1 x.2.2.2.2.2.2 (x.2.2.2.2.1-1)else hi1 a b x.2.1 x.2.2.1 x.2.2.2.1 x.2.2.2.2.2.1 x.2.2.2.2.2.2 x.2.2.2.2.1
abbrev hiE(x:Option ZY×Nat×Nat×ZY×Nat×Nat×Nat):StateT SortSt Sem (ForInStep (Option ZY×Nat×Nat×ZY×Nat)):=
 match x.1 with
 | some r=>pure (.done (some r,x.2.1,x.2.2.1,x.2.2.2.1,x.2.2.2.2.1))
 | none=>do
   di (x.2.2.2.2.1+1)
   pure (.yield (none,x.2.1,x.2.2.1,x.2.2.2.1,x.2.2.2.2.1+1))
abbrev hiF(a b:ZY)(g:Nat)(x:Option ZY×Nat×Nat×ZY×Nat×Nat):StateT SortSt Sem (ForInStep (Option ZY×Nat×Nat×ZY×Nat)):=
 match x.1 with
 | some r=>pure (.done (some r,x.2.1,x.2.2.1,x.2.2.2.1,g))
 | none=>do
   rule "list.sort.gallop"
   let x<-forIn [0:a.size+b.size] (none,x.2.1,x.2.2.1,x.2.2.2.1,g+1,x.2.2.2.2.1,x.2.2.2.2.2) λ_ x=>hiG a b x
   hiE x
abbrev hiO(a b:ZY)(x:Option ZY×Nat×Nat×ZY×Nat):StateT SortSt Sem (ForInStep (Option ZY×Nat×Nat×ZY×Nat)):=do
 let y<-forIn [0:a.size+b.size] (none,x.2.1,x.2.2.1,x.2.2.2.1,0,0) λ_ y=>hiI a b y.2.1 y.2.2.1 y.2.2.2.1 x.2.2.2.2 y.2.2.2.2.1 y.2.2.2.2.2
 hiF a b x.2.2.2.2 y
abbrev hiR(x:Option ZY×Nat×Nat×ZY×Nat):StateT SortSt Sem ZY:=
 match x.1 with
 | some r=>pure r
 | none=>unsupported "internal:list.sort.merge-bound"
set_option smartUnfolding false in
def Jj(a b:ZY):oy a b=(do
 rule "list.sort.merge-hi"
 let e<-elem' a (a.size-1)
 if(a.size-1==0)=true then pure (a.extract 0 (a.size-1) ++b.extract 0 b.size++ #[e].reverse)
 else if(b.size==1)=true then pure (b.extract 0 b.size++a.extract 0 (a.size-1) ++ #[e].reverse)
 else do
  let s<-get
  let x<-forIn [0:a.size+b.size] (none,a.size-1,b.size,#[e],gallopOf s) λ_ x=>hiO a b x
  hiR x):=by
 rfl
variable{D:Keyed->Prop}{a b out:ZY}{na nb g k bc z:Nat}{st:SortSt}
def Ck{k1:Nat}{R:ForInStep _->SortSt->Prop}(C:LC prog w A SI D a b st)(m:MHS a b out (na+1) nb)(d:z<=out.size+1)
 (e:∀r o,dN a b r->R (.done (some r,o)) st) (f:∀na nb out g k k1,MHS a b out na nb->z<=out.size->R (.done (none,na,nb,out,g,k,k1)) st/\R (.yield (none,na,nb,out,g,k,k1)) st):(SC prog w A SI) (hi3 a b (na+1) nb out g k k1) R st:=by
 let%[j,p,l,s|n]:=m;show ar (bo (C.DA (i:=na) ⋯).1 ?_);let c:=j.takeA (Yg na);rw[iT ⋯]at c
 split
 .exact av (e _ _ c.done)
 rename_i q
 let q:=aY q;let h:=f _ _ _ g k k1 %[c,⋯,l,⋯|n] (by rw[Xk];exact d)
 split
 .exact av h.1
 .exact av h.2
def Cl{R:ForInStep (Option ZY×Nat×Nat×ZY×Nat×Nat×Nat)->SortSt->Prop}(C:LC prog w A SI D a b st)(m:MHS a b out (na+1) (nb+1))(v:z<=out.size+2)
 (c:∀r o,dN a b r->R (.done (some r,o)) st) (h:∀na nb out g k k1,MHS a b out na nb->z<=out.size->R (.done (none,na,nb,out,g,k,k1)) st/\R (.yield (none,na,nb,out,g,k,k1)) st):(SC prog w A SI) (hi2 a b (na+1) (nb+1) out g k bc) R st:=by
 let%[u,j,y,l|B]:=m;let n:=C.DA (i:=na) ⋯;unfold hi2;rw[add_sub_cancel,add_sub_cancel];show ar (bo (C.DB (i:=nb) ⋯).1 ?_);let d:=u.takeB (Yg nb);rw[iT ⋯]at d
 split
 .exact av (c _ _ d.first)
 rename_i q
 let q:=aY q;show ar (bo n.1 (ar (eS C.c n.2 (λi hi=>%[_|C.DB ⋯]) ⋯ λk2 e=>?_)));dsimp only;let f:=d.takeB e
 split
 .split
  .exact av (c _ _ f.first)
  rename_i p
  let p:=aY p
  split
  .exact av (c _ _ f.done)
  rename_i s
  let s:=aY s;exact Ck C %[f,j,⋯,l|⋯] (by simp;lia) c h
 .exact Ck C %[d,j,⋯,l|⋯] (by rw[Xk];lia) c h
def Hs{p:Nat}{R:ForInStep (Option ZY×Nat×Nat×ZY×Nat×Nat×Nat)->SortSt->Prop}(C:LC prog w A SI D a b st)(m:MHS a b out na nb)(s:z<=out.size+2)
 (d:∀c r o,SG st c->dN a b r->R (.done (some r,o)) c) (e:∀c na nb out g k k1,SG st c->MHS a b out na nb->z<=out.size->R (.done (none,na,nb,out,g,k,k1)) c/\R (.yield (none,na,nb,out,g,k,k1)) c):(SC prog w A SI) (hi1 a b na nb out p bc g) R st:=by
 let%[f,u,h,v|j]:=m;obtain⟨nb,rfl⟩:∃n,nb=n+1:=%[nb-1|⋯]
 let l:=C.DB (i:=nb) ⋯;unfold hi1;rw[add_sub_cancel,gi];show ar (cQ ?_);let sg:=(SG.refl st).set g;let d:=λr o=>d _ r o sg
 let e:=λna nb out g k k1=>e _ na nb out g k k1 sg
 let C:=C.of sg;show ar (bo l.1 (ar (eS C.c l.2 (λi hi=>%[_|C.DA ⋯]) ⋯ λk y=>?_)));dsimp only
 split
 .let mk:=f.takeA y
  split
  .exact av (d _ _ mk.done)
  rename_i q
  let q:=aY q;obtain⟨k,rfl⟩:∃n,k=n+1:=%[k-1|⋯]
  exact Cl C %[mk,⋯,h,⋯|j] (by simp;lia) d e
 .obtain⟨na,rfl⟩:∃n,na=n+1:=%[na-1|⋯]
  exact Cl C %[f,u,h,v|j] s d e
def Ht{c:Nat}{R:ForInStep (Option ZY×Nat×Nat×ZY×Nat×Nat)->SortSt->Prop}(C:LC prog w A SI D a b st)(m:MHS a b out na nb)(f:z<=out.size+1)
 (j:∀r o,dN a b r->R (.done (some r,o)) st) (l:∀na nb out c bc,MHS a b out na nb->z<=out.size->R (.done (none,na,nb,out,c,bc)) st/\R (.yield (none,na,nb,out,c,bc)) st):(SC prog w A SI) (hiI a b na nb out g c bc) R st:=by
 let%[p,s,u,v|y]:=m;obtain⟨na,rfl⟩:∃n,na=n+1:=%[na-1|⋯]
 obtain⟨nb,rfl⟩:∃n,nb=n+1:=%[nb-1|⋯]
 let d:=C.DA (i:=na) ⋯;let e:=C.DB (i:=nb) ⋯;unfold hiI;rw[add_sub_cancel,add_sub_cancel];show ar (bo e.1 (ar (bo d.1 (ar (ve C.c e.2 d.2 λ_=>?_)))));dsimp only
 split
 .show ar (bo d.1 ?_);let m2:=p.takeA (Yg na);rw[iT ⋯]at m2
  split
  .exact av (j _ _ m2.done)
  rename_i q
  let q:=aY q;let h:=l _ _ _ (c+1) 0 %[m2,⋯,u,⋯|y] (by rw[Xk];exact f)
  split
  .exact av h.1
  .exact av h.2
 .show ar (bo e.1 ?_);let m2:=p.takeB (Yg nb);rw[iT ⋯]at m2
  split
  .exact av (j _ _ m2.first)
  rename_i q
  let q:=aY q;let h:=l _ _ _ 0 (bc+1) %[m2,s,⋯,v|⋯] (by rw[Xk];exact f)
  split
  .exact av h.1
  .exact av h.2
def Hu{j:Nat}{q:Option ZY}{R:ForInStep (Option ZY×Nat×Nat×ZY×Nat)->SortSt->Prop}(C:LC prog w A SI D a b st)(m:MHS a b out na nb)(e:j+1<=out.size)
 (p:∀d r o,SG st d->dN a b r->R (.done (some r,o)) d) (s:∀d na nb out g,SG st d->MHS a b out na nb->j+2<=out.size->R (.yield (none,na,nb,out,g)) d):(SC prog w A SI) (hiO a b (q,na,nb,out,g)) R st:=by
 let u:=m.pa;let v:=m.ma;show ar (cr (bY (Q:=λx d=>SG st d/\((∃r o,x=(some r,o)/\dN a b r)\/∃na nb out f bc,x=(none,na,nb,out,f,bc)/\MHS a b out na nb/\j+2<=out.size))
  (λj2 x d=>SG st d/\∃na nb out f bc,x=(none,na,nb,out,f,bc)/\MHS a b out na nb/\j+1+j2<=out.size) (Xg _) %[SG.refl _,_,_,_,_,_,rfl,m|e] ?_ ?_) ?_)
 .intro j2 x i _ l %[c,na,nb,out,f,bc,rfl,m|e];exact Ht (C.of c) m ⋯ (λr o h=>%[c|.inl %[r,o,rfl|h]]) λna nb out f bc h z=>%[%[c|.inr %[_,_,_,_,_,rfl,h|⋯]],c,_,_,_,_,_,rfl,h|z]
 .intro x i %[c,na,nb,out,f,bc,rfl,m|e];exact%[c|.inr %[_,_,_,_,_,ρ,m|⋯]]
 .rintro x i ⟨c,⟨r,o,rfl,n⟩|⟨na,nb,out,f,bc,rfl,m,e⟩⟩
  .exact av (p _ r _ c n)
  .show ar (jm ?_);show ar (cr (bY (Q:=λx d=>SG st d/\((∃r o,x=(some r,o)/\dN a b r)\/∃na nb out g f bc,x=(none,na,nb,out,g,f,bc)/\MHS a b out na nb/\j+2<=out.size))
    (λj2 x d=>SG st d/\∃na nb out g f bc,x=(none,na,nb,out,g,f,bc)/\MHS a b out na nb/\j+2<=out.size) (Xg _) %[c,_,_,_,_,_,_,rfl,m|e] ?_ ?_) ?_)
   .intro j2 x i _ l %[c,na,nb,out,g,f,bc,rfl,m|e];unfold hiG;rw[<-apply_ite _];exact Hs (C.of c) m ⋯ (λd r o sg h=>%[SG.trans c sg|.inl %[r,o,rfl|h]]) λd na nb out g k k1 sg h z=>%[%[SG.trans c sg|.inr %[_,_,_,_,_,_,rfl,h|z]],SG.trans c sg,_,_,_,_,_,_,rfl,h|z]
   .simp_all
   .rintro x i ⟨c,⟨r,o,rfl,n⟩|⟨na,nb,out,g,f,bc,rfl,m,e⟩⟩
    .exact av (p _ r _ c n)
    .exact ar (cQ (av (s _ _ _ _ _ (c.set _) m e)))
def xI{Q:ZY->SortSt->Prop}(C:LC prog w A SI D a b st)(E:1<=a.size)(G:1<=b.size)(h:∀r c,SG st c->dN a b r->Q r c):(SC prog w A SI) (oy a b) Q st:=by
 rw[Jj];obtain⟨f,p⟩:∃f,a.size=f+1:=%[a.size-1|⋯]
 rw[show a.size-1=f by lia];show ar (jm (ar (bo (C.DA (i:=f) ⋯).1 ?_)));let n:=(show MH a b #[] (f+1) b.size by
  unfold MH;rw[<-p,<-Zb,<-Zb,take_length,take_length];simpa using List.perm_append_comm).takeA (Yg f)
 rw[iT ⋯]at n
 split
 .exact av (h _ st (SG.refl _) n.done)
 rename_i s
 let s:=aY s
 split
 .exact av (h _ st (SG.refl _) n.first)
 rename_i u
 let u:=aY u;show ar (fS ?_);show ar (cr (bY (Q:=λx c=>SG st c/\∃r,x.1∣r/\dN a b r)
  (λj x c=>SG st c/\∃na nb out g,x=(none,na,nb,out,g)/\MHS a b out na nb/\j+1<=out.size) (Xg _) %[SG.refl _,_,_,_,_,rfl,%[n,⋯,⋯,⋯|⋯]|Zi _] ?_ ?_) ?_)
 .intro j x d _ H %[sg,na,nb,out,g,rfl,m|l];exact Hu (C.of sg) m l (λc r o e h=>%[SG.trans sg e,r,rfl|h]) λc na nb out g e h z=>%[SG.trans sg e,_,_,_,_,rfl,h|z]
 .intro x d %[sg,na,nb,out,g,rfl,m|l];let%[v,I,J,L|M]:=m;let q:=v.length_eq;simp only[Z9,Ym,Zb,Array.size_reverse]at q
  lia
 .rintro⟨N,x2⟩ d ⟨sg,r,y,B⟩;subst y;exact av (h r d sg B)
end
def vf(i:Nat):mergeAt' i=(do
 let s<-get
 let(some (b,na,c),some (d,nb,_)):=((pendingOf s)[i]?,(pendingOf s)[i+1]?)|unsupported "internal:list.sort.pending"
 set (setPending s (((pendingOf s).setIfInBounds i (b,na+nb,c)).eraseIdxIfInBounds (i+1)))
 let some k<-fJ false (<-elem' (arrOf s) d) (arrOf s) b na 0|return false
 let(b,na):=(b+k,na-k)
 if na==0 then return true
 let some nb<-fJ true (<-elem' (arrOf s) (b+na-1)) (arrOf s) d nb (nb-1)|return false
 if nb==0 then return true
 let x:=(arrOf s).extract b d
 let y:=(arrOf s).extract d (d+nb)
 let merged<-if na<=nb then ou x y else oy x y
 modify λs=>setArr s (merged.toList.zipIdx.foldl (λa (p,j)=>a.setIfInBounds (b+j) p) (arrOf s))
 return (failedOf (<-get)).isNone):=rfl
def vg:∀m c o (a:ZY),o+c+ ~~~m<=a.size->
 ((m.zipIdx c).foldl (λa p=>a.setIfInBounds (o+p.2) p.1) a).toList=a.toList.take (o+c) ++m++a.toList.drop (o+c+ ~~~m)
 |[],c,o,a,_=>by simp
 | x::m,c,o,a,h=>by
   rw[List.zipIdx_cons,Y7];rw[Zr]at h;rw[vg m _ o _ (by rw[Array.size_setIfInBounds];lia),Array.toList_setIfInBounds];let b:o+c< ~~~a.toList:=by rw[Zb];lia
   rw[Zr,List.take_set,List.drop_set];rw[show o+(c+1)=o+c+1 by lia,show o+c+1+ ~~~m=o+c+(~~~m+1) by lia];let e:(a.toList.take (o+c+1)).set (o+c) x=a.toList.take (o+c) ++[x]:=by
    rw[List.take_succ_eq_append_getElem b];rw[List.set_append_right _ _ (by rw[Ym];lia)];rw[Ym,min_eq_left ⋯,Xb];rfl
   rw[e];simp
section
variable{prog:Program}{w:World}{A:Around}{SI:Shared->Prop}{α β:Type}
def xJ{D:Keyed->Prop}{i p J:Nat}{b X Y L2:List Keyed}{Q:Bool->SortSt->Prop}{st:SortSt}(c:Cmp prog w A SI (kindOf st) D)(e:(arrOf st).toList=b++X++Y++L2)(L:X≠[])(M:Y≠[])
 (d:∀x∈(arrOf st).toList,D x) (N:(pendingOf st)[i]?∣(~~~b,~~~X,p)) (q:(pendingOf st)[i+1]?∣(~~~b+ ~~~X,~~~Y,J)) (z:failedOf st=none)
 (h:∀Z g,Z.Perm (X++Y)->(arrOf g).toList=b++Z++L2->kindOf g=kindOf st->failedOf g=none->pendingOf g=((pendingOf st).setIfInBounds i (~~~b,~~~X+ ~~~Y,p)).eraseIdxIfInBounds (i+1)->Q true g):(SC prog w A SI) (mergeAt' i) Q st:=by
 let O:0< ~~~X:=length_pos_iff.mpr L;let lY:0< ~~~Y:=length_pos_iff.mpr M;let sz:(arrOf st).size= ~~~b+ ~~~X+ ~~~Y+ ~~~L2:=by
  rw[<-Zb,e];simp only[Z9]
 let l:∀i,i<(arrOf st).size->∃x,(arrOf st)[i]?∣x/\D x:=λi hi=>%[(arrOf st)[i],by simp|d _ ∅]
 let sub:∀(u v i:Nat) (hi:i<((arrOf st).extract u v).size),((arrOf st).extract u v)[i]?∣((arrOf st).extract u v)[i]/\D ((arrOf st).extract u v)[i]:=λu v i hi=>%[Array.getElem?_eq_getElem hi|by rw[Array.getElem_extract];exact d _ ∅]
 rw[vf];show ar (fS ?_);rw[N,q];dsimp only;let%[y,T|U]:=l (~~~b+ ~~~X) ⋯;show ar (Hm (ar (bo T (ar (eS c U (λi hi=>l _ ⋯) O λk hk=>?_)))));dsimp only
 split
 .exact av (h (X++Y) _ (List.Perm.refl _) (by change(arrOf st).toList=_;rw[e];simp) rfl z rfl)
 rename_i C
 let C:=aY C;let%[x,hx|dx]:=l (~~~b+k+(~~~X-k) -1) ⋯;show ar (bo hx (ar (eS c dx (λi hi=>l _ ⋯) ⋯ λk2 B=>?_)));dsimp only
 split
 .exact av (h (X++Y) _ (List.Perm.refl _) (by change(arrOf st).toList=_;rw[e];simp) rfl z rfl)
 rename_i E
 let E:=aY E;let ex:((arrOf st).extract (~~~b+k) (~~~b+ ~~~X)).toList=X.drop k:=by
  rw[e8,e,Ze,Ze,List.drop_append,List.drop_of_length_le ⋯,nil_append,Nat.add_sub_cancel_left,List.drop_append_of_le_length ⋯,Xe (by rw[Yh];lia),Zn (by rw[Yh];lia)]
 let G:((arrOf st).extract (~~~b+ ~~~X) (~~~b+ ~~~X+k2)).toList=Y.take k2:=by
  rw[nB,e,Ze,List.drop_append,List.drop_of_length_le (by rw[Z9];lia),nil_append,Z9,Xb,drop_zero,Xe ⋯]
 let sx:=congrArg List.length ex;let sy:=congrArg List.length G;rw[Zb,Yh]at sx;rw[Zb,Ym]at sy;let H:∀(r:ZY) (f:SortSt),SG (setPending st (((pendingOf st).setIfInBounds i (~~~b,~~~X+ ~~~Y,p)).eraseIdxIfInBounds (i+1))) f->dN ((arrOf st).extract (~~~b+k) (~~~b+ ~~~X)) ((arrOf st).extract (~~~b+ ~~~X) (~~~b+ ~~~X+k2)) r->
  (SC prog w A SI) (do modify (λs=>setArr s (r.toList.zipIdx.foldl (λa (p,j)=>a.setIfInBounds (~~~b+k+j) p) (arrOf s)));let x<-get;pure (failedOf x).isNone) Q f:=λr f sg o=>by
  unfold dN at o;rw[ex,G]at o;show ar (cQ (ar (fS (av ?_))));let m:failedOf f=none:=by rw[sg.2.2.2];exact z
  change Q (failedOf f).isNone _;rw[m];let I: ~~~r.toList=(~~~X-k) +k2:=by
   rw[o.length_eq,Z9,Yh,Ym,min_eq_left B]
  show h (X.take k++r.toList++Y.drop k2) _ ?_ ?_ sg.1 m sg.2.2.1
  .show(List.Perm.append_right _ (List.Perm.append_left _ o)).trans ?_;rw[<-Ze,Xd,Ze,Xd]
  .change(setArr f _|>arrOf).toList=_;let n:arrOf f=arrOf st:=sg.2.1;change((r.toList.zipIdx).foldl (λ(a:ZY) (p:Keyed×Nat)=>a.setIfInBounds (~~~b+k+p.2) p.1) (arrOf f)).toList=_;rw[vg _ 0 _ _ (by rw[I,n,sz];lia),n,e,I];let t1:(b++X++Y++L2).take (~~~b+k+0)=b++X.take k:=by
    rw[add_zero,Ze,Ze,List.take_append,Zn ⋯,Nat.add_sub_cancel_left,Xe ⋯]
   let t2:(b++X++Y++L2).drop (~~~b+k+0+(~~~X-k+k2))=Y.drop k2++L2:=by
    rw[show ~~~b+k+0+(~~~X-k+k2)= ~~~(b++X)+k2 by rw[Z9];lia,Ze,List.drop_append,List.drop_of_length_le ⋯,nil_append,Nat.add_sub_cancel_left,List.drop_append_of_le_length ⋯]
   rw[t1,t2];simp
 split
 .exact ar (xH %[c,sub _ _ _|sub _ _ _] ⋯ ⋯ H)
 .exact ar (xI %[c,sub _ _ _|sub _ _ _] ⋯ ⋯ H)
end
structure CR (st0 st:SortSt) (lo:Nat):Prop where
 kind:kindOf st=kindOf st0
 pend:pendingOf st=pendingOf st0
 fail:failedOf st=failedOf st0
 perm:(arrOf st).Perm (arrOf st0)
 same:∀i,i<lo->(arrOf st)[i]? =(arrOf st0)[i]?
def CR.refl(st:SortSt)(lo:Nat):CR st st lo:=%[rfl,rfl,rfl,Array.Perm.refl _|λ_ _=>rfl]
def CR.size{a st:SortSt}{lo:Nat}(h:CR a st lo):(arrOf st).size=(arrOf a).size:=h.perm.size_eq
def CR.rev{a st:SortSt}{lo i j:Nat}(h:CR a st lo)(hi:lo<=i)(b:j<=(arrOf st).size):CR a (setArr st (mirror (arrOf st) i j ((j-i)/2))) lo:=
 %[h.kind,h.pend,h.fail,(mirror_perm _ _ _ _).trans h.perm|λk c=>by
  rw[getElem?_mirror_all b,if_neg ⋯];exact h.same k c]
section
variable{prog:Program}{w:World}{A:Around}{SI:Shared->Prop}{α β:Type}
def oz{i j lo:Nat}{a st:SortSt}(c:Cmp prog w A SI (kindOf a) D)(d:∀x∈(arrOf a).toList,D x)(r:CR a st lo)(hi:i<(arrOf a).size)(f:j<(arrOf a).size)
 (h:∀b,Q (some b) st):(SC prog w A SI) (ltAt' i j) Q st:=by
 let e:=λx g=>d x ((Array.perm_iff_toList_perm.mp r.perm).mem_iff.mp g)
 exact EU (r.kind▸c) (Array.getElem?_eq_getElem (r.size▸hi)) (Array.getElem?_eq_getElem (r.size▸f)) (e _ ∅) (e _ ∅) h
def tL{st:SortSt}(h:Q () (setArr st (mirror (arrOf st) i j ((j-i)/2)))):(SC prog w A SI) (reverseSlice' i j) Q st:=by
 exact cQ h
abbrev cuL(lo:Nat)(x:Option (Option Nat)×Nat):StateT SortSt Sem (ForInStep (Option (Option Nat)×Nat)):=do
 match<-ltAt' (lo+x.2) (lo+x.2-1)with
 | some w=>if w=true then pure (.done (none,x.2))else pure (.yield (none,x.2+1))
 | _=>pure (.done (some none,x.2))
abbrev cu3(lo nrem n:Nat):StateT SortSt Sem (Option Nat):=do
 reverseSlice' lo (lo+n)
 let x<-forIn [n:nrem] (none,n) λ_ x=>cuL lo x
 match x.1 with
 | some r=>pure r
 | none=>pure (some x.2)
abbrev cuM(lo:Nat)(x:Option (Option Nat)×Nat×Nat):StateT SortSt Sem (ForInStep (Option (Option Nat)×Nat×Nat)):=do
 match<-ltAt' (lo+x.2.1) (lo+x.2.1-1)with
 | some w=>
   if w=true then(if x.2.2>0 then(do
    reverseSlice' (lo+x.2.1-(x.2.2+1)) (lo+x.2.1)
    pure (.yield (none,x.2.1+1,0)))else pure (.yield (none,x.2.1+1,0)))
   else(do
    match<-ltAt' (lo+x.2.1-1) (lo+x.2.1)with
    | some w=>if w=true then pure (.done (none,x.2.1,x.2.2))else pure (.yield (none,x.2.1+1,x.2.2+1))
    | _=>pure (.done (some none,x.2.1,x.2.2)))
 | _=>pure (.done (some none,x.2.1,x.2.2))
abbrev cu2(lo nrem n:Nat):StateT SortSt Sem (Option Nat):=do
 rule "list.sort.descending-run"
 let x<-forIn [n+1:nrem] (none,n+1,0) λ_ x=>cuM lo x
 match x.1 with
 | some r=>pure r
 | none=>
   if x.2.2>0 then(do
    reverseSlice' (lo+x.2.1-(x.2.2+1)) (lo+x.2.1)
    cu3 lo nrem x.2.1)else cu3 lo nrem x.2.1
set_option smartUnfolding false in
def Jk(lo nrem:Nat):countRun' lo nrem=(do
 let x<-forIn [1:nrem] (none,1) λ_ x=>cuL lo x
 match x.1 with
 | some r=>pure r
 | none=>
   if(x.2==nrem)=true then pure (some x.2)
   else if x.2>1 then(do
    match<-ltAt' lo (lo+x.2-1)with
    | some w=>if w=true then pure (some x.2)else(do
      reverseSlice' lo (lo+x.2)
      cu2 lo nrem x.2)
    | _=>pure none)else cu2 lo nrem x.2):=by
 rw[countRun'_eq];rfl
variable{D:Keyed->Prop}{lo nrem n j:Nat}{Q:Option Nat->SortSt->Prop}{st st2:SortSt}
def Cm{q:Option _}{R:ForInStep _->SortSt->Prop}(c:Cmp prog w A SI (kindOf st) D)(d:∀x∈(arrOf st).toList,D x)(r:CR st st2 lo)(a:lo+nrem<=(arrOf st).size)(e:j<nrem)
 (f:R (.done (none,j)) st2) (g:R (.yield (none,j+1)) st2):(SC prog w A SI) (cuL lo (q,j)) R st2:=
 ar (oz c d r ⋯ ⋯ λb=>by cases b<;> exact av (by assumption))
def Cn(c:Cmp prog w A SI (kindOf st) D)(d:∀x∈(arrOf st).toList,D x)(l:lo+nrem<=(arrOf st).size)(h:∀n a,CR st a lo->1<=n->n<=nrem->Q (some n) a)
 (r:CR st st2 lo) (n1:1<=n) (g:n<=nrem):(SC prog w A SI) (cu3 lo nrem n) Q st2:=by
 show ar (tL ?_);let o:=r.rev (j:=lo+n) (Zi _) (by rw[r.size];lia);show ar (cr (bY (Q:=λx a=>CR st a lo/\∃n,x=(none,n)/\1<=n/\n<=nrem)
  (λj x a=>CR st a lo/\x=(none,j)) g %[o|rfl] ?_ ?_) ?_)
 .intro j x b f i %[e|rfl];exact Cm c d e l i %[e,j,rfl,Nat.le_trans n1 f|Ye i] %[e|rfl]
 .intro x b %[e|rfl];exact%[e,nrem,ρ,Nat.le_trans n1 g|Zi _]
 .intro x b %[e,m,rfl,p|m2];exact av (h m b e p m2)
def Hv{q:Option (Option Nat)}{k:Nat}{R:ForInStep (Option (Option Nat)×Nat×Nat)->SortSt->Prop}(c:Cmp prog w A SI (kindOf st) D)(d:∀x∈(arrOf st).toList,D x)(r:CR st st2 lo)(g:lo+nrem<=(arrOf st).size)(e:k+1<=j)(h:j<nrem)
 (f:R (.done (none,j,k)) st2) (a:∀k st2,CR st st2 lo->k<=j->R (.yield (none,j+1,k)) st2):(SC prog w A SI) (cuM lo (q,j,k)) R st2:=by
 show ar (oz c d r ⋯ ⋯ λb=>?_);cases b
 .show ar (oz c d r ⋯ ⋯ λb=>?_);cases b
  .exact av (a (k+1) _ r e)
  .exact av f
 .dsimp only;rw[if_pos rfl]
  split
  .exact ar (tL (av (a 0 _ (r.rev ⋯ (by rw[r.size];lia)) (Xg _))))
  .exact av (a 0 _ r (Xg _))
def Co(c:Cmp prog w A SI (kindOf st) D)(d:∀x∈(arrOf st).toList,D x)(g:lo+nrem<=(arrOf st).size)(h:∀n a,CR st a lo->1<=n->n<=nrem->Q (some n) a)
 (r:CR st st2 lo) (s:n<nrem):(SC prog w A SI) (cu2 lo nrem n) Q st2:=by
 show ar (jm ?_);show ar (cr (bY (Q:=λx a=>CR st a lo/\∃m q,x=(none,m,q)/\q+1<=m/\m<=nrem)
  (λj x a=>CR st a lo/\∃q,x=(none,j,q)/\q+1<=j) s %[r,0,rfl|Nat.le_add_left _ _] ?_ ?_) ?_)
 .intro j x f u l %[e,q,rfl|b];exact Hv c d e g b l %[e,j,q,rfl,b|Ye l] λk st2 r v=>%[r,k,rfl|Nat.succ_le_succ v]
 .intro x f %[e,q,rfl|b];exact%[e,nrem,q,ρ,b|Zi _]
 .intro x f %[e,m,q,rfl,i|o];let p:=Nat.le_trans (Nat.le_add_left _ _) i;dsimp only
  split
  .exact ar (tL (Cn c d g h (e.rev ⋯ (by rw[e.size];lia)) p o))
  .exact Cn c d g h e p o
def vh{lo nrem:Nat}{st:SortSt}(c:Cmp prog w A SI (kindOf st) D)(d:∀x∈(arrOf st).toList,D x)(i:1<=nrem)(f:lo+nrem<=(arrOf st).size)
 (h:∀n a,CR st a lo->1<=n->n<=nrem->Q (some n) a):(SC prog w A SI) (countRun' lo nrem) Q st:=by
 rw[Jk];show ar (cr (bY (Q:=λx a=>a=st/\∃n,x=(none,n)/\1<=n/\n<=nrem)
  (λj x a=>a=st/\x=(none,j)) i %[rfl|rfl] ?_ ?_) ?_)
 .intro j x a g l %[rfl|rfl];exact Cm c d (CR.refl _ lo) f l %[rfl,j,rfl,g|Ye l] %[rfl|rfl]
 .intro x a %[rfl|rfl];exact%[ρ,nrem,ρ,i|Zi _]
 .intro x e %[q,n,rfl,n1|m];subst q;dsimp only;by_cases o:n=nrem
  .rw[if_pos (by simp[o])];exact av (h n e (CR.refl _ _) n1 m)
  rw[if_neg (by simp[o])];let p:n<nrem:=by lia
  split
  .show ar (oz c d (CR.refl _ lo) ⋯ ⋯ λb=>?_);cases b
   .exact ar (tL (Co c d f h ((CR.refl e lo).rev (Zi _) ⋯) p))
   .exact av (h n e (CR.refl _ _) n1 m)
  .exact Co c d f h (CR.refl e lo) p
end
section
variable{prog:Program}{w:World}{A:Around}{SI:Shared->Prop}{α β:Type}
def CR.move{a st:SortSt}{lo k l:Nat}(h:CR a st lo)(b:lo+k<(arrOf st).size)(c:l<=k):CR a (setArr st (bubble (arrOf st) (lo+k) (lo+k-(lo+l)))) lo:=
 %[h.kind,h.pend,h.fail,(bubble_perm _ _ _).trans h.perm|λi hi=>by
  rw[getElem?_bubble b _ ⋯,if_neg ⋯,if_neg ⋯];exact h.same i hi]
def Ah{lo n ok:Nat}{e st:SortSt}(c:Cmp prog w A SI (kindOf e) D)(d:∀x∈(arrOf e).toList,D x)(r:CR e st lo)(o:1<=ok)(u:ok<=n)(y:lo+n<=(arrOf e).size)
 (h:∀a,CR e a lo->Q true a):(SC prog w A SI) (binarySort' lo n ok) Q st:=by
 rw[binarySort'_eq,Nat.max_eq_left o];show ar (cr (bY (Q:=λx a=>x=(none,())/\CR e a lo) (λk x a=>x=(none,())/\CR e a lo) u %[rfl|r] ?_ λ_ _ h=>h) ?_)
 .intro k x f v z %[rfl|m];dsimp only;show ar (cr (bY (Q:=λx a=>a=f/\∃l q,x=(none,l,q)/\l<=q/\q<=k)
   (λj x a=>a=f/\∃l q,x=(none,l,q)/\l<=q/\q<=k) (Xg _) %[rfl,0,k,rfl,Xg _|Zi _] ?_ λ_ _ h=>h) ?_)
  .intro j x p _ B %[rfl,l,q,rfl,i|g];dsimp only
   split
   .exact av %[rfl,l,q,rfl,i|g]
   .let o:l<=(l+q)/2:=by lia
    let s:(l+q)/2<q:=by lia
    generalize (l+q)/2=C at o s ⊢
    show ar (oz c d m ⋯ ⋯ λb=>?_);cases b
    .exact av %[rfl,_,q,rfl,s|g]
    .exact av %[rfl,l,_,rfl,o|⋯]
  .intro x p %[rfl,l,q,rfl,i|g];dsimp only;rw[moveDown'_eq];exact ar (cQ (av %[rfl|m.move (by rw[m.size];lia) (Nat.le_trans i g)]))
 .intro x f %[rfl|m];exact av (h f m)
end
abbrev dJ:List (List Keyed×Nat)->Nat->List (Nat×Nat×Nat)
 |[],_=>[]
 |(r,p)::t,o=>(o,~~~r,p)::dJ t (o+ ~~~r)
abbrev bG(a:List (List Keyed×Nat)):List Keyed:=(a\1).flatten
def cz(a b:List _):bG (a++b)=bG a++bG b:=by simp[bG]
def bi(a:List Keyed×Nat)(b:List _):bG (a::b)=a.1++bG b:=by simp[bG]
def dD:∀a b o,dJ (a++b) o=dJ a o++dJ b (o+ ~~~(bG a))
 |[],b,o=>by simp[dJ,bG]
 |(r,p)::t,b,o=>by
  rw[cons_append,dJ,dJ,dD t b,bi,Z9,cons_append,Nat.add_assoc]
def eT:∀a o,~~~(dJ a o)= ~~~a
 |[],_=>rfl
 |(r,p)::t,o=>by rw[dJ,Zr,Zr,eT t]
structure RI (st0 st:SortSt) (rp:List (List Keyed×Nat)) (rest:List Keyed):Prop where
 kind:kindOf st=kindOf st0
 fail:failedOf st=none
 perm:(arrOf st).toList.Perm (arrOf st0).toList
 arr:(arrOf st).toList=bG rp++rest
 pend:(pendingOf st).toList=dJ rp 0
 runs:∀r∈rp,r.1≠[]
def RI.size{a st:SortSt}{b:List _}{rest:List Keyed}(h:RI a st b rest):(arrOf st).size=(arrOf a).size:=by
 rw[<-Zb,<-Zb,h.perm.length_eq]
def RI.psize{a st:SortSt}{b:List _}{rest:List Keyed}(h:RI a st b rest):(pendingOf st).size= ~~~b:=by
 rw[<-Zb,h.pend,eT]
section
variable{prog:Program}{w:World}{A:Around}{SI:Shared->Prop}{α β:Type}
def kg{D:Keyed->Prop}{f st:SortSt}{a b:List _}{X Y:List Keyed}{p m i:Nat}{rest:List Keyed}{Q:Bool->SortSt->Prop}(c:Cmp prog w A SI (kindOf f) D)(d:∀x∈(arrOf f).toList,D x)
 (h:RI f st (a++(X,p)::(Y,m)::b) rest) (hi:i= ~~~a) (k:∀Z g,RI f g (a++(Z,p)::b) rest-> ~~~Z= ~~~X+ ~~~Y->Q true g):(SC prog w A SI) (mergeAt' i) Q st:=by
 subst hi;let e:=h.arr;rw[cz,bi,bi]at e;let u:(arrOf st).toList=bG a++X++Y++(bG b++rest):=by rw[e];simp
 let B:=λx n=>d x (h.perm.mem_iff.mp n)
 let l:=h.pend;rw[dD,dJ,dJ,zero_add]at l;let pl:=eT a 0;let C:=by
  let:(pendingOf st).toList[~~~a]?∣(~~~(bG a),~~~X,p):=by
   rw[l,Y9 ⋯,pl,Xb];rfl
  simpa using this
 let E:=by
  let:(pendingOf st).toList[~~~a+1]?∣(~~~(bG a)+ ~~~X,~~~Y,m):=by
   rw[l,Y9 ⋯,pl,Nat.add_sub_cancel_left];rfl
  simpa using this
 let v:=h.runs (X,p) ∅;show xJ (h.kind▸c) u v (h.runs (Y,m) ∅) B C E h.fail λZ g y z G H o=>?_
 let s: ~~~Z= ~~~X+ ~~~Y:=by rw[y.length_eq,Z9]
 show k Z g %[G.trans h.kind,H,?_,?_,?_|λr j=>?_] s
 .show List.Perm.trans ?_ h.perm;rw[z,u];rw[show bG a++X++Y++(bG b++rest)=bG a++(X++Y) ++(bG b++rest) by simp];exact List.Perm.append_right _ (List.Perm.append_left _ y)
 .rw[z,cz,bi];simp
 .rw[o,Array.toList_eraseIdxIfInBounds,Array.toList_setIfInBounds,l,dD,dJ,zero_add];rw[List.set_append_right _ _ ⋯,pl,Xb,List.set_cons_zero];rw[List.eraseIdx_append_of_length_le ⋯,pl,Nat.add_sub_cancel_left,List.eraseIdx_cons_succ,List.eraseIdx_cons_zero];rw[s,Nat.add_assoc]
 .rcases Xo j with j|j
  .exact h.runs r (Yw _ j)
  .rcases mem_cons.mp j with rfl|j
   .intro q;let n:=length_pos_iff.mpr v;dsimp only at q n;rw[q,length_nil]at s
    lia
   .exact h.runs r (by simp[j])
def CR.toRI{d b a:SortSt}{f:List _}{rest:List Keyed}{lo n:Nat}(h:RI d b f rest)(r:CR b a lo)(j: ~~~(bG f)=lo)(o:lo+n<=(arrOf b).size):
 ∃R c,RI d a f (R++c)/\ ~~~R=n:=by
 let l:=r.size;show%[((arrOf a).toList.drop lo).take n,(arrOf a).toList.drop (lo+n),%[r.kind.trans h.kind,r.fail.trans h.fail,(Array.perm_iff_toList_perm.mp r.perm).trans h.perm,?_,r.pend▸h.pend|h.runs]|?_]
 .let e:(arrOf a).toList.take lo=bG f:=by
   let m:(arrOf a).toList.take lo=(arrOf b).toList.take lo:=by
    apply ext_getElem?;intro i;rw[List.getElem?_take,List.getElem?_take]
    split
    .rename_i hi
     let:=r.same i hi;simpa using this
    .rfl
   rw[m,h.arr,Xe ⋯,Zn ⋯]
  rw[<-e];let g:=Xd n ((arrOf a).toList.drop lo);rw[drop_drop]at g;rw[g,(Xd lo (arrOf a).toList)]
 grind
def mI{α:Type}(f:α->α):∀l x,(l++[x]).modify l.length f=l++[f x]
 |[],x=>rfl
 | y::l,x=>by
   rw[cons_append,Zr,List.modify_succ_cons,mI f l x,cons_append]
def kh{α:Type}(l:List α):l=[]\/∃a x,l=a++[x]:=by
 by_cases h:l=[]
 .exact .inl h
 .exact .inr %[l.dropLast,l.getLast h|(List.dropLast_concat_getLast h).symm]
def Ai{α:Type}(l:List α)(h:1< ~~~l):∃a x y,l=a++x::y::[]:=by
 rcases kh l with rfl|⟨a,y,rfl⟩
 .simp at h
 .rcases kh a with rfl|⟨b,x,rfl⟩
  .simp at h
  .exact%[b,x,y|by simp]
def RI.pushed{a st:SortSt}{c:List _}{R rest:List Keyed}{lo m:Nat}(h:RI a st c (R++rest))(d: ~~~(bG c)=lo)(e: ~~~R=m)(f:1<=m):RI a (setPending st ((pendingOf st).push (lo,m,0))) (c++[(R,0)]) rest:=by
 show%[h.kind,h.fail,h.perm,?_,?_|λr b=>?_]
 .rw[h.arr,cz,bi];simp[bG]
 .rw[toList_push,h.pend,dD,dJ,dJ,zero_add,d,e]
 .rcases Xo b with b|b
  .exact h.runs r b
  .rw[Xp b]
   grind
def RI.powered{a st:SortSt}{b:List _}{rest:List Keyed}{X:List Keyed}{p:Nat}(d:Nat)(h:RI a st (b++[(X,p)]) rest):RI a (setPending st ((pendingOf st).modify ((pendingOf st).size-1) λx=>(x.fst,x.2.fst,d))) (b++[(X,d)]) rest:=by
 show%[h.kind,h.fail,h.perm,?_,?_|λr c=>?_]
 .rw[h.arr,cz,cz,bi,bi]
 .rw[Array.toList_modify,h.psize,h.pend,dD,dD];rw[show(b++[(X,p)]).length-1= ~~~(dJ b 0) by rw[eT];simp];change List.modify (dJ b 0++[_]) _ _=_;rw[mI];rfl
 .rcases Xo c with c|c
  .exact h.runs r (Yw _ c)
  .rw[Xp c];exact h.runs (X,p) ∅
abbrev srP(lo n:Nat):StateT SortSt Sem (ForInStep (Option Unit×Nat)):=do
 modify λs=>setPending s ((pendingOf s).push (lo,n,0))
 pure (.yield (none,lo+n))
abbrev sr1(size lo n:Nat):StateT SortSt Sem (ForInStep (Option Unit×Nat)):=do
 let s<-get
 match(pendingOf s).back? with
 | some (a,n1,_)=>do
   let x<-forIn [0:size] (none,()) λ_ _=>(do
    let s<-get
    match if(pendingOf s).size>1 then(pendingOf s)[(pendingOf s).size-2]? else none with
    | some (_,_,o)=>
      if o<=power' size (2*a+n1) (2*a+n1+n1+n) size then pure (.done (none,()))
      else(do
       let b<-mergeAt' ((pendingOf s).size-2)
       if(!b)=true then pure (.done (some (),()))else pure (.yield (none,())))
    | _=>pure (.done (none,())))
   match x.1 with
   | some r=>pure (.done (some r,lo))
   | none=>do
     modify λs=>setPending s ((pendingOf s).modify ((pendingOf s).size-1) λx=>(x.1,x.2.1,power' size (2*a+n1) (2*a+n1+n1+n) size))
     srP lo n
 | _=>srP lo n
abbrev srO(size:Nat)(x:Option Unit×Nat):StateT SortSt Sem (ForInStep (Option Unit×Nat)):=
 if x.2>=size then pure (.done (none,x.2))
 else do
  match<-countRun' x.2 (size-x.2)with
  | some n=>
    if n<minRun' size size 0 then(do
     rule "list.sort.binary-insertion"
     let b<-binarySort' x.2 (min (size-x.2) (minRun' size size 0)) n
     if(!b)=true then pure (.done (some (),x.2))else sr1 size x.2 (min (size-x.2) (minRun' size size 0)))
    else sr1 size x.2 n
  | _=>pure (.done (some (),x.2))
abbrev srT(size:Nat)(x:Option Unit×Nat):StateT SortSt Sem Unit:=
 match x.1 with
 | some r=>pure r
 | none=>do
   let x<-forIn [0:size] (none,()) λ_ _=>(do
    let s<-get
    if(pendingOf s).size<=1 then pure (.done (none,()))
    else(do
     let b<-mergeAt' (if Option.any (λx=>decide (x<(pendingOf s)[(pendingOf s).size-2+1]?.elim 0 λx=>x.2.1)) (if(pendingOf s).size-2>0 then Option.map (λx=>x.2.1) (pendingOf s)[(pendingOf s).size-2-1]? else none)=true then(pendingOf s).size-2-1 else(pendingOf s).size-2)
     if(!b)=true then pure (.done (some (),()))else pure (.yield (none,()))))
   match x.1 with
   | some r=>pure r
   | none=>pure ()
set_option smartUnfolding false in
def Jl:sortRuns'=(do
 let s<-get
 let x<-forIn [0:(arrOf s).size] (none,0) λ_ x=>srO (arrOf s).size x
 srT (arrOf s).size x):=by
 rw[sortRuns'_eq];rfl
def Cp{D:Keyed->Prop}{st m:SortSt}{v:List (List Keyed×Nat)}{R e:List Keyed}{lo n:Nat}{T:ForInStep (Option Unit×Nat)->SortSt->Prop}(c:Cmp prog w A SI (kindOf st) D)(d:∀x∈(arrOf st).toList,D x)(o:RI st m v (R++e))(q: ~~~(bG v)=lo)(p: ~~~R=n)(J:1<=n)
 (L:∀a h,RI st h a e-> ~~~(bG a)=lo+n->T (.yield (none,lo+n)) h):(SC prog w A SI) (sr1 (arrOf st).size lo n) T m:=by
 show ar (fS ?_);rcases kh v with y|⟨N,⟨O,U⟩,y⟩
 .subst y;let B:(pendingOf m).back? =none:=by
   let:=o.psize;simp[Array.back?,this]
  rw[B];exact ar (cQ (av (L _ _ (o.pushed q p J) (by rw[cz,Z9,q,bi];simp[bG,p]))))
 .let B:(pendingOf m).back?∣(~~~(bG N),~~~O,U):=by
   rw[<-Array.getLast?_toList,o.pend,y,dD,dJ,dJ,zero_add];simp
  rw[B];show ar (cr (bY (Q:=λx h=>x=(none,())/\∃a,RI st h a (R++e)/\a≠[]/\ ~~~(bG a)=lo) (λj x h=>x=(none,())/\∃a,RI st h a _/\a≠[]/\ ~~~(bG a)=lo) (Xg _) %[rfl,v,o,by rw[y];simp|q] ?_ ?_) ?_)
  .intro j5 x f _ _ %[rfl,l,b,i|g];show ar (fS ?_);by_cases C:(pendingOf f).size>1
   .let%[r,%[z|E],%[Y5|q5]|rfl]:=Ai l (b.psize▸C);let s:(pendingOf f).size-2= ~~~r:=by rw[b.psize];simp
    let G:(pendingOf f)[(pendingOf f).size-2]?∣(~~~(bG r),~~~z,E):=by
     let:(pendingOf f).toList[~~~r]?∣(~~~(bG r),~~~z,E):=by
      rw[b.pend,dD,Y9 (by rw[eT];lia),eT,Xb,zero_add];rfl
     rw[s];simpa using this
    rw[if_pos C,G];dsimp only
    split
    .exact av %[rfl,_,b,i|g]
    .show ar (kg c d b s λZ5 Y H I=>av %[rfl,_,H,by simp|?_]);rw[<-g,cz,cz,bi,bi,bi];simp[bG,I]
   .rw[if_neg C];exact av %[rfl,_,b,i|g]
  .intro x f %[rfl,l,b,i|g];exact%[ρ,l,b,i|g]
  .intro x f %[rfl,l,b,i|g];dsimp only;let%[r,%[z|E]|rfl]:=(kh l).resolve_left i;show ar (cQ (ar (cQ (av ?_))));let u:∀M,~~~(bG (r++[(z,M)]))=lo:=λM=>by
    rw[<-g,cz,cz,bi,bi]
   exact L _ _ ((b.powered _).pushed (u _) p J) (by rw[cz,Z9,u,bi];simp[bG,p])
def sc_sortMany{D:Keyed->Prop}{Q:Unit->SortSt->Prop}{st:SortSt}(c:Cmp prog w A SI (kindOf st) D)(d:∀x∈(arrOf st).toList,D x)(h2:1<=(arrOf st).size)(hp:pendingOf st= #[])(hf:failedOf st=none)
 (h:∀f,(arrOf f).toList.Perm (arrOf st).toList->failedOf f=none->Q () f):(SC prog w A SI) sortRuns' Q st:=by
 rw[Jl];show ar (fS ?_);show ar (cr (bY (Q:=λx f=>∃e lo,x=(none,lo)/\RI st f e [])
  (λj x f=>∃e rest lo,x=(none,lo)/\RI st f e rest/\ ~~~(bG e)=lo/\j<=lo/\lo<=(arrOf st).size) (Xg _) %[[],_,0,rfl,%[rfl,hf,List.Perm.refl _,rfl,by rw[hp];rfl|λ_ h=>(nomatch h)],rfl,Zi _|Xg _] ?_ ?_) ?_)
 .intro j x u _ hj %[e,rest,lo,rfl,g,m,G|H];unfold srO;dsimp only;let s1:=g.size;by_cases B:lo>=(arrOf st).size
  .rw[if_pos B];let I:rest=[]:=by
    let:=congrArg List.length g.arr;rw[Z9,Zb,s1,m]at this;exact length_eq_zero_iff.mp ⋯
   subst I;exact av %[e,lo,rfl|g]
  rw[if_neg B];let U:∀x∈(arrOf u).toList,D x:=λx hx=>d x (g.perm.mem_iff.mp hx)
  let c1:Cmp prog w A SI (kindOf u) D:=g.kind▸c;show ar (vh c1 U ⋯ ⋯ λn o r2 n1 n2=>?_);dsimp only;by_cases v:n<minRun' (arrOf st).size (arrOf st).size 0
  .rw[if_pos v];show ar (jm (ar (Ah c1 U r2 n1 ⋯ ⋯ λJ r3=>?_)));rw[if_neg ∅];let%[R,y,s|z]:=CR.toRI (n:=min ((arrOf st).size-lo) (minRun' (arrOf st).size (arrOf st).size 0)) g r3 m ⋯;exact Cp c d s m z ⋯ λL f r l=>%[_,_,_,rfl,r,l,⋯|⋯]
  .rw[if_neg v];let%[R,y,s|z]:=CR.toRI (n:=n) g r2 m ⋯;exact Cp c d s m z ⋯ λL f r l=>%[_,_,_,rfl,r,l,⋯|⋯]
 .intro x u %[e,rest,lo,rfl,g,m,G|H];let I:rest=[]:=by
   let:=congrArg List.length g.arr;rw[Z9,Zb,g.size,m]at this;exact length_eq_zero_iff.mp ⋯
  subst I;exact%[e,lo,ρ|g]
 .intro x u %[e,lo,rfl|g];unfold srT;dsimp only;let M:∀(e:List (List Keyed×Nat)),(∀r∈e,r.1≠[])-> ~~~e<= ~~~(bG e):=by
   intro e
   induction e with
   | nil=>intro _;exact Xg _
   | cons r t ih=>
     intro hr;rw[bi,Zr,Z9];let:=length_pos_iff.mpr (hr r ∅);let:=ih λq hq=>hr q (by simp[hq])
     lia
  let l1: ~~~e<=(arrOf st).size:=by
   let a1:=M e g.runs;let a2:=congrArg List.length g.arr;rw[Zx,Zb,g.size]at a2
   lia
  show ar (cr (bY (Q:=λx f=>x=(none,())/\∃e,RI st f e []/\ ~~~e<=1) (λj x f=>x=(none,())/\∃e,RI st f e []/\ ~~~e<=max 1 ((arrOf st).size-j)) (Xg _) %[rfl,e,g|⋯] ?_ ?_) ?_)
  .intro j x o _ hj %[rfl,e,g|N];show ar (fS ?_);by_cases O:(pendingOf o).size<=1
   .rw[if_pos O];exact av %[rfl,e,g|g.psize▸O]
   rw[if_neg O];let aa:1< ~~~e:=by rw[<-g.psize];lia
   generalize C:(if Option.any _ _=true then(pendingOf o).size-2-1 else(pendingOf o).size-2)=i
   let hi:i+1< ~~~e:=by
    let E:∀(c:Prop) [Decidable c] (n:Nat),2<=n->(if c then n-2-1 else n-2) +1<n:=λc _ n hn=>by lia
    rw[<-C,<-g.psize];exact E _ _ ⋯
   clear C;obtain⟨a,X,p,Y,q,b,rfl,T⟩:∃a X p Y q b,e=a++(X,p)::(Y,q)::b/\i= ~~~a:=by
    show%[e.take i,e[i].1,e[i].2,e[i+1].1,e[i+1].2,e.drop (i+2),?_|by rw[Ym];lia];let t1:=(Xd i e).symm;rw[List.drop_eq_getElem_cons ⋯,List.drop_eq_getElem_cons ⋯]at t1;exact t1
   show ar (kg c d g T λZ J s zl=>?_);rw[if_neg ∅];show av %[rfl,_,s|?_];simp only[Z9,Zr]at N hi ⊢
   lia
  .intro x o %[rfl,e,g|N];exact%[ρ,e,g|⋯]
  .intro x o %[rfl,e,g|N];exact av (h o g.perm g.fail)
end
end _SB
namespace _ST
open PySem PySem.SetTable
def vm:∀k,∃q,5^(2^k)=1+2^(k+2)*(2*q+1)
 | 0=>%[0|rfl]
 | k+1=>by
   let%[q|e]:=vm k;show%[q+2^k*(2*q+1)*(2*q+1)|?_];rw[pow_succ 2 k,Nat.pow_mul,e]
   grind
abbrev step(M i:Nat):Nat:=(i*5+1)%M
abbrev iter(M:Nat):Nat->Nat->Nat
 | 0,i=>i
 | n+1,i=>step M (iter M n i)
abbrev geo:Nat->Nat
 | 0=>0
 | n+1=>geo n*5+1
def tM:∀n,4*geo n+1=5^n
 | 0=>rfl
 | n+1=>by
   let:=tM n;rw[pow_succ,<-this,geo]
   lia
def ki(M:Nat)(i:Nat):∀n,iter M n i%M=(5^n*i+geo n)%M
 | 0=>by simp[iter,geo]
 | n+1=>by
   rw[iter,step,Nat.mod_mod,geo,pow_succ];rw[add_mod,Nat.mul_mod,(ki M i n),<-Nat.mul_mod,<-add_mod]
   congr 1
   grind
def oA:∀(k i e:Nat),e<2^k->∃n,n<2^k/\iter (2^k) n i%2^k=e
 | 0,i,e,c=>%[0,by simp|by simp at c;subst c;simp[Nat.mod_one]]
 | k+1,i,e,c=>by
   let%[n,M|s]:=oA k i (e%2^k) (mod_lt _ (Nat.two_pow_pos k));let d:∀n,iter (2^(k+1)) n i%2^(k+1)%2^k=iter (2^k) n i%2^k:=λn=>by
    rw[Nat.mod_mod_of_dvd _ (Nat.pow_dvd_pow 2 (Yg k)),<-Nat.mod_mod_of_dvd _ (Nat.pow_dvd_pow 2 (Yg k)),ki,Nat.mod_mod_of_dvd _ (Nat.pow_dvd_pow 2 (Yg k)),ki]
   let%[q|b]:=vm k;let w:geo (2^k)=2^k*(2*q+1):=by
    let g:=tM (2^k);rw[b,Nat.pow_add]at g;let:2^k*2^2*(2*q+1)=4*(2^k*(2*q+1)):=by
     rw[Nat.mul_right_comm];lia
    lia
   let f:∀n,iter (2^(k+1)) (n+2^k) i%2^(k+1)=(iter (2^(k+1)) n i+2^k)%2^(k+1):=λn=>by
    rw[ki];let y:5^(n+2^k)*i+geo (n+2^k)=5^(2^k)*(5^n*i+geo n) +geo (2^k):=by
     let g1:=tM (n+2^k);let g2:=tM n
     grind
    rw[y,b,w];let z:2^(k+1)=2*2^k:=by rw[pow_succ];lia
    let j:2^(k+2)=2*2^(k+1):=by rw[pow_succ];lia
    let o:=ki (2^(k+1)) i n
    generalize 5^n*i+geo n=v at o ⊢
    let A:(1+2^(k+2)*(2*q+1))*v+2^k*(2*q+1)=v+2^k+2^(k+1)*(2*((2*q+1)*v) +q):=by
     rw[Nat.add_mul,Nat.one_mul,j];let B:2*2^(k+1)*(2*q+1)*v=2^(k+1)*(2*((2*q+1)*v)):=by
      simp only[Nat.mul_assoc,Nat.mul_left_comm]
     let C:2^k*(2*q+1)=2^k+2^(k+1)*q:=by
      rw[z,Nat.mul_add,Nat.mul_one]
      lia
     rw[B,C,Nat.mul_add]
     lia
    rw[A,Nat.add_mul_mod_self_left,add_mod,<-o,<-add_mod]
   let l:=d n;rw[s]at l;let E:iter (2^(k+1)) n i%2^(k+1)<2^(k+1):=mod_lt _ (Nat.two_pow_pos _);let m:=f n;rw[add_mod,Nat.mod_eq_of_lt (by lia:2^k<2^(k+1))]at m;obtain⟨a,p⟩:∃a,a=iter (2^(k+1)) n i%2^(k+1):=%[_|rfl]
   rw[<-p]at l E m;let key:a=e\/(a+2^k)%2^(k+1)=e:=by
    let r:=Nat.div_add_mod a (2^k);let G:=Nat.div_add_mod e (2^k);let H:a/2^k<2:=Nat.div_lt_of_lt_mul ⋯;let I:e/2^k<2:=Nat.div_lt_of_lt_mul ⋯;rw[l]at r
    generalize a/2^k=u at r H
    generalize e/2^k=v at G I
    let J:u=0\/u=1:=by lia
    let L:v=0\/v=1:=by lia
    rcases J with rfl|rfl<;> rcases L with rfl|rfl
    .left;lia
    .right
     rw[Nat.mod_eq_of_lt ⋯]
     lia
    .right
     rw[show a+2^k=e+2^(k+1) by lia,Nat.add_mod_right,Nat.mod_eq_of_lt c]
    .left;lia
   rcases key with h|h
   .exact%[n,⋯|by rw[<-p,h]]
   .exact%[n+2^k,⋯|by rw[m,h]]
abbrev stand(t:SetTable)(h:Int):Nat->Probe
 | 0=>t.probeStart h
 | n+1=>t.advance (stand t h n)
abbrev way(t:SetTable)(h:Int)(n:Nat):Nat:=(stand t h n).j
abbrev aQ(t:SetTable)(h:Int):Nat->Nat×Nat
 | 0=>(bits h%(t.mask+1),bits h)
 | r+1=>leap t.mask (aQ t h r).1 (aQ t h r).2
def mJ(t:SetTable)(h:Int):∀n,(stand t h n).dummy=none
 | 0=>rfl
 | n+1=>by
   let:=mJ t h n;change(t.advance _).dummy=none;unfold advance
   split
   .exact this
   .exact this
def EV(m i:Nat):runEnd m i-i<=9:=by
 unfold runEnd
 split<;> lia
def Aj(t:SetTable)(h:Int):∀r,∃n,n<=10*r/\∀d,d<=runEnd t.mask (aQ t h r).1-(aQ t h r).1->
 stand t h (n+d)=%[(aQ t h r).1+d,runEnd t.mask (aQ t h r).1-(aQ t h r).1-d,(aQ t h r).1,(aQ t h r).2|none]:=by
 let a:∀n i b,stand t h n=%[i,runEnd t.mask i-i,i,b|none]->∀d,d<=runEnd t.mask i-i->stand t h (n+d)=%[i+d,runEnd t.mask i-i-d,i,b|none]:=by
  intro n i b e d
  induction d with
  | zero=>intro _;rw[add_zero,e];rfl
  | succ d c=>
    intro f;change t.advance (stand t h (n+d))=_;rw[c ⋯];unfold advance;rw[if_pos ⋯]
    grind
 intro r
 induction r with
 | zero=>exact%[0,Xg _|a 0 _ _ rfl]
 | succ r c=>
   let%[n,g|e]:=c;let j:=EV t.mask (aQ t h r).1;show%[n+(runEnd t.mask (aQ t h r).1-(aQ t h r).1) +1,⋯|a _ _ _ ?_];change t.advance _=_;rw[e _ (Zi _)];unfold advance;rw[if_neg ⋯];rfl
def EW(h:Int):bits h<2^64:=by
 unfold bits
 grind
def oB(t:SetTable)(h:Int):∀r,(aQ t h r).2=bits h/32^r
 | 0=>by simp[aQ]
 | r+1=>by
   change(aQ t h r).2/32=_;rw[oB t h r,Nat.div_div_eq_div_mul,pow_succ]
def Cq(t:SetTable)(h:Int):∀r,(aQ t h r).1<t.mask+1
 | 0=>mod_lt _ (succ_pos _)
 | r+1=>mod_lt _ (succ_pos _)
def jO(t:SetTable)(h:Int):∀m,(aQ t h (12+m)).1=iter (t.mask+1) m (aQ t h 12).1
 | 0=>rfl
 | m+1=>by
   change((aQ t h (12+m)).1*5+1+(aQ t h (12+m)).2/32)%(t.mask+1)=step _ _;rw[jO t h m,oB,Nat.div_div_eq_div_mul,<-pow_succ];let a:bits h/32^(12+m+1)=0:=by
    exact Nat.div_eq_of_lt (Zg (EW h) (Nat.le_trans (by decide:2^64<=32^13) (Nat.pow_le_pow_right (!1) ⋯)))
   rw[a,add_zero];rfl
def oC(a:t.mask+1=2^k)(h:Int)(e:Nat)(c:e<=t.mask):∃r,r<turns t.mask/\(aQ t h r).1=e:=by
 let%[n,d|b]:=oA k _ e ⋯;show%[12+n,by unfold turns;lia|?_];rw[jO,a];rw[<-a]at b;let:iter (t.mask+1) n (aQ t h 12).1<t.mask+1:=by rw[<-jO];exact Cq t h _
 rw[Nat.mod_eq_of_lt this]at b;exact a▸b
def xK(a:t.mask+1=2^k)(h:Int)(e:Nat)(b:e<=t.mask):∃n,n+10<=10*turns t.mask/\way t h n=e:=by
 let%[r,f|c]:=oC a h e b;let%[n,g|d]:=Aj t h r;show%[n,⋯|?_];let:=d 0 (Xg _);unfold way;rw[add_zero]at this;rw[this];exact c
def vo(o:t.dummies= #[]){hashAt:Nat->Int}:∀(fuel n m:Nat),n<=m->m<n+fuel->t.slot (way t h m)= .empty->
 ∃q,n<=q/\q<=m/\(∀j,n<=j->j<q->∃i,t.slot (way t h j)= .live i/\hashAt i≠h)/\
  ((t.slot (way t h q)= .empty/\probe.go t hashAt h fuel (stand t h n)∣.empty (way t h q) none)\/
   ∃i,t.slot (way t h q)= .live i/\hashAt i=h/\probe.go t hashAt h fuel (stand t h n)∣.candidate (way t h q) i (stand t h (q+1)))
 | 0,n,m,g,r,_=>by lia
 | fuel+1,n,m,g,r,p=>by
   let d:probe.go t hashAt h (fuel+1) (stand t h n)=(match t.slot (stand t h n).j with
    | .empty=>some _
    | .dummy=>probe.go t hashAt h fuel (t.advance {stand t h n with dummy:=some _})
    | .live i=>if hashAt i==h then some _ else probe.go t hashAt h fuel _):=rfl
   let l:(stand t h n).j=way t h n:=rfl;cases c:t.slot _ with
   | empty=>
     show%[n,Zi _,g,λj a b=>by lia|.inl %[c|?_]];rw[d,l,c,mJ]
   | dummy=>
     exfalso;unfold slot at c;dsimp only at c
     split at c
     .lia
     .split at c
      .rename_i q
       rw[o]at q;simp[has]at q
      .lia
   | live i=>
     by_cases f:hashAt i=h
     .show%[n,Zi _,g,λj a b=>by lia|.inr %[i,c,f|?_]];rw[d,l,c];dsimp only;rw[if_pos (by simp[f])];rfl
     .let s:n≠m:=λq=>by rw[q,p]at c;cases c
      let%[q,z,u,v|w]:=vo o fuel (n+1) m ⋯ ⋯ p;let y:probe.go t hashAt h (fuel+1) (stand t h n)=probe.go t hashAt h fuel (stand t h (n+1)):=by
       rw[d,l,c];dsimp only;rw[if_neg (by simp[f])];rfl
      show%[q,⋯,u,λj a b=>?_|?_]
      .by_cases e:j=n
       .exact e▸%[i,c|f]
       .exact v j ⋯ b
      .exact y▸w
def oE(xs:Array Nat)(j:Nat)(d:∀a b (s:a<xs.size) (u:b<xs.size),a<b->xs[a]<xs[b]):∀(fuel lo hi:Nat),hi-lo<=fuel->lo<=hi->hi<=xs.size->(∀i (h:i<xs.size),i<lo->xs[i]<j)->(∀i (h:i<xs.size),hi<=i->j<=xs[i])->
 below.go xs j fuel lo hi<=xs.size/\(∀i (h:i<xs.size),i<below.go xs j fuel lo hi->xs[i]<j)/\(∀i (h:i<xs.size),below.go xs j fuel lo hi<=i->j<=xs[i])
 | 0,lo,hi,p,q,f,g,l=>by
   let e:lo=hi:=by lia
   subst e;exact%[f,g|l]
 | fuel+1,lo,hi,p,q,f,g,l=>by
   rw[below.go];by_cases c:lo<hi
   .rw[if_pos c];dsimp only;let n:(lo+hi)/2<xs.size:=by lia
    let r:xs.getD ((lo+hi)/2) j=xs[(lo+hi)/2]:=by simp[Array.getD,n]
    rw[r];by_cases m:xs[(lo+hi)/2]<j
    .rw[if_pos m];show oE xs j d fuel _ hi ⋯ ⋯ f (λi h o=>?_) l;by_cases e:i=(lo+hi)/2
     .subst e;exact m
     .exact Nat.lt_trans (d i _ h n ⋯) m
    .rw[if_neg m];show oE xs j d fuel lo _ ⋯ ⋯ ⋯ g (λi h o=>?_);by_cases e:i=(lo+hi)/2
     .subst e;lia
     .let:=d _ i n h ⋯
      lia
   .rw[if_neg c];let e:lo=hi:=by lia
    subst e;exact%[f,g|l]
abbrev Cr(xs:Array Nat):Prop:=∀a b c (d:b<xs.size),a<b->xs[a]<xs[b]
def jP(a:Cr xs)(j:Nat):below xs j<=xs.size/\(∀i (h:i<xs.size),i<below xs j->xs[i]<j)/\(∀i (h:i<xs.size),below xs j<=i->j<=xs[i]):=
 oE xs j a xs.size 0 xs.size ⋯ (Xg _) (Zi _) (λi h q=>absurd q (X7 _)) (λi h q=>by lia)
def Cs(a:Cr xs)(h:xs[i]?∣j):below xs j=i:=by
 let%[f,c|d]:=jP a j;let%[hi|e]:=Array.getElem?_eq_some_iff.mp h;rcases Nat.lt_trichotomy i _ with q|q|q
 .let:=c i hi q
  lia
 .exact q.symm
 .let b:below xs j<xs.size:=by lia
  let:=d _ b (Zi _);let:=a _ i b hi q
  lia
def rC{t:SetTable}(a:Cr t.place)(h:t.place[i]?∣j):t.slot j= .live i:=by
 unfold slot;dsimp only;rw[Cs a h,h];simp
def jQ{t:SetTable}(a:Cr t.place)(b:t.dummies= #[])(j:Nat):(∃i,t.place[i]?∣j/\t.slot j= .live i)\/(j∉t.place.toList/\t.slot j= .empty):=by
 by_cases h:j∈t.place.toList
 .let%[i|hi]:=Xh h;let hi:=↑hi
  exact .inl %[i,hi|rC a hi]
 .show .inr %[h|?_];unfold slot;rw[if_neg,if_neg]
  .rw[b];simp[has]
  .intro q;exact h (mem_toList_iff.mpr (Array.mem_of_getElem? ↑q))
def vp(h:t.mask=t'.mask)(x:Int):∀n,stand t x n=stand t' x n
 | 0=>by
   change t.probeStart x=t'.probeStart x;unfold probeStart;rw[h]
 | n+1=>by
   change t.advance _=t'.advance _;rw[vp h x n];unfold advance;rw[h]
def rD(h:t.mask=t'.mask)(x:Int)(n:Nat):way t x n=way t' x n:=by unfold way;rw[vp h]
structure WF (t:SetTable) (es:Array (Int×Value)):Prop where
 pow:∃k,t.mask+1=2^k
 big:7<=t.mask
 dum:t.dummies= #[]
 rise:Cr t.place
 inb:∀j∈t.place.toList,j<=t.mask
 size:t.place.size=es.size
 chain:∀(i j:Nat) h x,t.place[i]?∣j->es[i]?∣(h,x)->∃n,way t h n=j/\∀m,m<n->way t h m∈t.place.toList
def nodup_sub [DecidableEq c]:∀{l m:List c},l.Nodup->(∀x∈l,x∈m)-> ~~~l<= ~~~m
 |[],_,_,_=>Xg _
 | x::l,m,d,a=>by
   let%[f|g]:=nodup_cons.mp d;let b:=a x Zm;let h:=nodup_sub (m:=m.erase x) g λy i=>(List.mem_erase_of_ne (λe=>f (!2))).mpr (a y (Zk _ i))
   rw[List.length_erase_of_mem b]at h;let:=List.length_pos_of_mem b;rw[Zr]
   lia
def xM(W:WF t v)(R:t.place.size<=t.mask)(h:Int):∃m,m+10<=10*turns t.mask/\way t h m∉t.place.toList/\(∀q,q<m->way t h q∈t.place.toList):=by
 let%[k|l]:=W.pow;let ex:∃e,e<=t.mask/\e∉t.place.toList:=by
  show Classical.byContradiction λb=>?_
  let: ~~~(List.range (t.mask+1))<= ~~~t.place.toList:=nodup_sub nodup_range λx o=>(λe c=>Classical.byContradiction λq=>b %[e,c|q]) x (by let:=mem_range.mp o;lia)
  rw[Yj,Zb]at this
  lia
 let%[e,c|f]:=ex;let%[n,p|hw]:=xK l h e c;let:∀d,∀n,n<=d->n+10<=10*turns t.mask->way t h n∉t.place.toList->∃m,m+10<=10*turns t.mask/\way t h m∉t.place.toList/\(∀q,q<m->way t h q∈t.place.toList):=by
  intro d
  induction d with
  | zero=>
    intro n r g i;let:n=0:=by lia
    subst this;exact%[0,g,i|λq j=>absurd j (X7 _)]
  | succ d s=>
    intro n r g i;by_cases a:∀q,q<n->way t h q∈t.place.toList
    .exact%[n,g,i|a]
    .let%[q|j]:=Classical.not_forall.mp a;let%[w|u]:=Classical.not_imp.mp j;exact s q ⋯ ⋯ u
 exact this n n (Zi _) p (hw▸f)
def km(xs:Array a)(p:Nat)(x:a)(b:p<=xs.size):(insertAt xs p x).toList=xs.toList.take p++x::xs.toList.drop p:=by
 unfold insertAt;rw[Xf,toList_push,toList_extract,toList_extract,List.extract_eq_take_drop,List.extract_eq_take_drop];rw[drop_zero,Nat.sub_zero,Zn (l:=xs.toList.drop p) ∅];simp
def xO(xs:Array c)(x:c)(f:p<=xs.size)(i:Nat):(insertAt xs p x)[i]? =if i<p then xs[i]? else if i=p then some x else xs[i-1]? :=by
 let e:(insertAt xs p x)[i]? =(insertAt xs p x).toList[i]? :=by simp
 rw[e,km xs p x f];let g: ~~~(xs.toList.take p)=p:=!2
 by_cases a:i<p
 .rw[if_pos a,Y8 ⋯,List.getElem?_take,if_pos a];simp
 .rw[if_neg a,Y9 ⋯,g];by_cases b:i=p
  .rw[if_pos b,b,Xb];rfl
  .rw[if_neg b];obtain⟨d,h⟩:∃d,i-p=d+1:=%[i-p-1|⋯]
   rw[h,List.getElem?_cons_succ,Yb];rw[show p+d=i-1 by lia];simp
def iU(xs:Array a)(p:Nat)(x:a)(b:p<=xs.size):(insertAt xs p x).size=xs.size+1:=by
 rw[<-Zb,km xs p x b,Z9,Zr,Ym,Yh,Zb]
 lia
def Ct(t:SetTable)(h:Int):∀n,(stand t h n).j+(stand t h n).more<=t.mask
 | 0=>by
   change bits h%(t.mask+1) +(runEnd t.mask _-bits h%(t.mask+1))<=t.mask;let:=mod_lt (bits h) (show 0<t.mask+1 from succ_pos _);unfold runEnd
   split<;> lia
 | n+1=>by
   let a:=Ct t h n;change(t.advance _).j+(t.advance _).more<=t.mask;unfold advance
   split
   .lia
   .dsimp only[leap];let:=mod_lt ((stand t h n).i*5+1+(stand t h n).perturb/32) (show 0<t.mask+1 from succ_pos _);unfold runEnd
    split<;> lia
def tN(t:SetTable)(h:Int)(n:Nat):way t h n<=t.mask:=by
 let:=Ct t h n;unfold way
 lia
def WF.put(W:WF t H)(Q:way t h m∉t.place.toList)(T:∀q,q<m->way t h q∈t.place.toList)(r f:Bool):
 (t.put (way t h m)).2=below t.place (way t h m)/\(t.put (way t h m)).1.mask=t.mask/\(t.put (way t h m)).1.place.size=t.place.size+1/\(t.put (way t h m)).1.led=t.led/\(t.put (way t h m)).1.plain=t.plain/\(t.put (way t h m)).1.moves=t.moves/\
  WF {(t.put (way t h m)).1 with led:=r,plain:=f} (insertAt H (t.put (way t h m)).2 (h,x)):=by
 let U:has t.dummies (way t h m)=false:=by rw[W.dum];simp[has]
 let Y:t.put (way t h m)=({t with place:=insertAt t.place (below t.place (way t h m)) (way t h m)},below t.place (way t h m)):=by
  unfold SetTable.put;dsimp only;rw[U];rfl
 rw[Y];let%[g,I|J]:=jP W.rise (way t h m)
 generalize hp:below t.place (way t h m)=p at g I J
 let w:p<=H.size:=by rw[<-W.size];exact g
 let s3:∀i (hi:i<t.place.size),p<=i->way t h m<t.place[i]:=λi hi q=>by
  let:=J i hi q;rcases Nat.eq_or_lt_of_le this with e|e
  .exact absurd (by rw[e];simp) Q
  .exact e
 let c:∀y,y∈(insertAt t.place p (way t h m)).toList↔y=way t h m\/y∈t.place.toList:=λy=>by
  rw[km _ _ _ g,Yu,Yy];let:=Xd p t.place.toList
  constructor
  .rintro(q|q|q)
   .exact .inr (Yz q)
   .exact .inl q
   .exact .inr (List.mem_of_mem_drop q)
  .rintro(q|q)
   .exact .inr (.inl q)
   .rw[<-this]at q;rcases Xo q with q|q
    .exact .inl q
    .exact .inr (.inr q)
 show%[ρ,ρ,iU _ _ _ g,ρ,ρ,ρ,W.pow,W.big,W.dum,?_,?_,?_|?_]
 .intro a b ha A B;let l:(insertAt t.place p (way t h m))[a]?∣(insertAt t.place p (way t h m))[a]:=by simp
  let d:(insertAt t.place p (way t h m))[b]?∣(insertAt t.place p (way t h m))[b]:=by simp
  change(insertAt t.place p (way t h m))[a]<(insertAt t.place p (way t h m))[b];rw[xO _ _ g]at l d;let aa:b<t.place.size+1:=(iU t.place p (way t h m) g)▸A;by_cases C:a<p
  .rw[if_pos C]at l;let%[u|E]:=Array.getElem?_eq_some_iff.mp l;rw[<-E];by_cases r:b<p
   .rw[if_pos r]at d;let%[f|v]:=Array.getElem?_eq_some_iff.mp d;exact v▸W.rise a b u f B
   .rw[if_neg r]at d;by_cases f:b=p
    .rw[if_pos f]at d;exact(Za d)▸I a u C
    .rw[if_neg f]at d;let%[v|G]:=Array.getElem?_eq_some_iff.mp d;exact G▸W.rise a (b-1) u v ⋯
  .rw[if_neg C]at l;let r: ¬ b<p:=by lia
   let f: ¬ b=p:=by lia
   rw[if_neg r,if_neg f]at d;let%[v|G]:=Array.getElem?_eq_some_iff.mp d;rw[<-G];by_cases u:a=p
   .rw[if_pos u]at l;exact(Za l)▸s3 (b-1) v ⋯
   .rw[if_neg u]at l;let%[E|a4]:=Array.getElem?_eq_some_iff.mp l;exact a4▸W.rise (a-1) (b-1) E v ⋯
 .intro y hy;rcases(c y).mp hy with q|q
  .rw[q];exact tN t h m
  .exact W.inb y q
 .rw[iU _ _ _ g,iU _ _ _ w,W.size]
 .intro i j h' L hi o;let M:∀n,way {t with place:=insertAt t.place p (way t h m),led:=r,plain:=f} h' n=way t h' n:=λn=>rD (t':=t) (by rfl) h' n
  let key:∃n,way t h' n=j/\∀q,q<n->way t h' q∈(insertAt t.place p (way t h m)).toList:=by
   rw[xO _ _ g]at hi;rw[xO _ _ w]at o;by_cases N:i<p
   .rw[if_pos N]at hi o;let%[n,n1|z]:=W.chain i j h' L hi o;exact%[n,n1|λq s=>(c _).mpr (.inr (z q s))]
   .rw[if_neg N]at hi o;by_cases O:i=p
    .rw[if_pos O]at hi o;cases hi;cases o;exact%[m,ρ|λq s=>(c _).mpr (.inr (T q s))]
    .rw[if_neg O]at hi o;let%[n,n1|z]:=W.chain (i-1) j h' L hi o;exact%[n,n1|λq s=>(c _).mpr (.inr (z q s))]
  let%[n,n1|z]:=key;exact%[n,by rw[M];exact n1|λq s=>by rw[M];exact z q s]
abbrev nb(t:SetTable)(h:Int):Nat->Nat
 | 0=>0
 | r+1=>nb t h r+(runEnd t.mask (aQ t h r).1-(aQ t h r).1) +1
def Cu(t:SetTable)(h:Int):∀r d,d<=runEnd t.mask (aQ t h r).1-(aQ t h r).1->
 stand t h (nb t h r+d)=%[(aQ t h r).1+d,runEnd t.mask (aQ t h r).1-(aQ t h r).1-d,(aQ t h r).1,(aQ t h r).2|none]:=by
 let a:∀n i b,stand t h n=%[i,runEnd t.mask i-i,i,b|none]->∀d,d<=runEnd t.mask i-i->stand t h (n+d)=%[i+d,runEnd t.mask i-i-d,i,b|none]:=by
  intro n i b e d
  induction d with
  | zero=>intro _;rw[add_zero,e];rfl
  | succ d c=>
    intro f;change t.advance (stand t h (n+d))=_;rw[c ⋯];unfold advance;rw[if_pos ⋯]
    grind
 intro r
 induction r with
 | zero=>exact a 0 _ _ rfl
 | succ r c=>
   show a _ _ _ ?_;change t.advance _=_;rw[c _ (Zi _)];unfold advance;rw[if_neg ⋯];rfl
def xP(t:SetTable)(h:Int)(r d:Nat)(a:d<=runEnd t.mask (aQ t h r).1-(aQ t h r).1):way t h (nb t h r+d)=(aQ t h r).1+d:=by
 unfold way;rw[Cu t h r d a]
abbrev e9(owner:Array (Option Nat))(j:Nat):Bool:=(owner.getD j (some 0)).isSome
def rE(t:SetTable)(h:Int)(owner:Array (Option Nat)):∀(fuel r:Nat),(∃a,r<=a/\a<r+fuel/\e9 owner (aQ t h a).1=false)->(∀m,m<nb t h r->e9 owner (way t h m)=true)->
 ∃j n,layClean.free t.mask owner fuel (aQ t h r).1 (aQ t h r).2∣j/\way t h n=j/\e9 owner j=false/\∀m,m<n->e9 owner (way t h m)=true
 | 0,r,⟨a,o,p,_⟩,_=>by lia
 | fuel+1,r,⟨a,o,p,f⟩,g=>by
   rw[layClean.free];let s:runEnd t.mask (aQ t h r).1>=(aQ t h r).1:=by unfold runEnd;split<;> lia
   let tk:∀k,(owner.getD ((aQ t h r).1+k) (some 0)).isNone=!e9 owner ((aQ t h r).1+k):=λk=>by
    unfold e9;cases owner.getD ((aQ t h r).1+k) (some 0)<;> rfl
   cases i:(List.range (runEnd t.mask (aQ t h r).1+1-(aQ t h r).1)).find? λk=>(owner.getD ((aQ t h r).1+k) (some 0)).isNone with
   | some k=>
     let%[l,as,bs,b|u]:=List.find?_eq_some_iff_append.mp i;let c:k∈List.range (runEnd t.mask (aQ t h r).1+1-(aQ t h r).1):=by rw[b];simp
     let c:=mem_range.mp c;let v:as=List.range k:=by
      let w: ~~~as=k:=by
       let:(List.range (runEnd t.mask (aQ t h r).1+1-(aQ t h r).1))[~~~as]?∣k:=by rw[b];simp
       rw[getElem?_range (by let:=(Xn this).1;simpa using this)]at this;exact Za this
      let y:as=(List.range (runEnd t.mask (aQ t h r).1+1-(aQ t h r).1)).take k:=by
       rw[b,<-w];simp
      rw[y,List.take_range,min_eq_left ⋯]
     dsimp only;show%[_,nb t h r+k,ρ,xP t h r k ⋯,?_|λm d=>?_]
     .rw[tk]at l;simpa using l
     .by_cases q:m<nb t h r
      .exact g m q
      .let:=u (m-nb t h r) (v▸mem_range.mpr ⋯);rw[tk]at this;rw[show m=nb t h r+(m-nb t h r) by lia,xP t h r _ ⋯];simpa using this
   | none=>
     let all:∀k,k<=runEnd t.mask (aQ t h r).1-(aQ t h r).1->e9 owner ((aQ t h r).1+k)=true:=λk c=>by
      let:=(List.find?_eq_none.mp i) k (mem_range.mpr ⋯);rw[tk]at this;simpa using this
     let z:r≠a:=λe=>by
      let:=all 0 (Xg _);rw[add_zero,e,f]at this;cases this
     dsimp only;exact rE t h owner fuel (r+1) %[a,⋯,⋯|f] λm d=>by
      by_cases q:m<nb t h r
      .exact g m q
      .let d:m<nb t h r+(runEnd t.mask (aQ t h r).1-(aQ t h r).1) +1:=d;rw[show m=nb t h r+(m-nb t h r) by lia,xP t h r _ ⋯];exact all _ ⋯
structure LO (t:SetTable) (hs:ZL) (owner:Array _):Prop where
 size:owner.size=t.mask+1
 own:∀j q,owner[j]?∣some q->∃h,hs[q]?∣h/\∃n,way t h n=j/\∀m,m<n->e9 owner (way t h m)=true
 all:∀q,q< ~~~hs->∃j:Nat,owner[j]?∣some q
 one:∀(j j' q:Nat),owner[j]?∣some q->owner[j']?∣some q->j=j'
def gj(b:j<owner.size):e9 owner j=true↔∃q,owner[j]?∣some q:=by
 unfold e9;let e:owner.getD j (some 0)=owner[j]:=!2
 rw[e];let a:owner[j]?∣owner[j]:=by simp
 rw[a];cases owner[j]with
 | none=>simp
 | some q=>simp
def LO.step(L:LO t f owner)(I:t.mask+1=2^k)(room: ~~~f<=t.mask)(h:Int):
 ∃j,layClean.free t.mask owner (turns t.mask) (bits h%(t.mask+1)) (bits h)∣j/\LO t (f++[h]) (owner.setIfInBounds j (some f.length)):=by
 let d:∀h n,way t h n<owner.size:=λh n=>by rw[L.size];let:=tN t h n;lia
 let ex:∃e,e<=t.mask/\e9 owner e=false:=by
  show Classical.byContradiction λv=>?_
  let all:∀e,e<t.mask+1->e9 owner e=true:=λe c=>by
   cases q:e9 owner e with
   | true=>rfl
   | false=>exact absurd %[e,⋯|q] v
  letI g:Nat->Nat:=λe=>((owner[e]?).getD none).getD 0
  let w:∀e,e<t.mask+1->owner[e]?∣some (g e):=λe c=>by
   let%[q|o]:=(λe c=>(gj (L.size▸c)).mp (all e c)) e c;change owner[e]?∣some (((owner[e]?).getD none).getD 0);rw[o];rfl
  let nd:((List.range (t.mask+1)).map g).Nodup:=by
   rw[X4,Xa];show Xi (λ{a b} J M A q=>A ?_) (nodup_iff_pairwise_ne.mp nodup_range);let E:=w b (mem_range.mp M);rw[<-q]at E;exact L.one a b _ (w a (mem_range.mp J)) E
  let:=nodup_sub nd λy N=>by
   let%[e,c|rfl]:=Xq N;let%[h',l|_]:=L.own e _ (w e (mem_range.mp c));exact mem_range.mpr (Xn l).1
  rw[Z6,Yj,Yj]at this
  lia
 let%[e,c|B]:=ex;let%[r,hr|o]:=oC I h e c;let%[j,n,O,G,Q|T]:=rE t h owner (turns t.mask) 0 %[r,Xg _,⋯|o▸B] (λm p=>absurd p (X7 _));show%[j,O|?_];let U:j<owner.size:=G▸d h n;let Y:∀q,owner[j]? ≠some _:=λq e=>by
  let:=(gj U).mpr %[q|e];rw[Q]at this;cases this
 let get:∀i,(owner.setIfInBounds j (some f.length))[i]? =if j=i then some _ else owner[i]? :=λi=>by
  rw[Array.getElem?_setIfInBounds]
  split
  .first|rfl|simp
  .rfl
 let keep:∀i,e9 owner i=true->i<owner.size->e9 (owner.setIfInBounds j _) i=true:=λi hi H=>by
  let%[q|e]:=(gj H).mp hi;show(gj (Array.size_setIfInBounds▸H)).mpr ?_;rw[get]
  split
  .exact%[_|ρ]
  .exact%[q|e]
 show%[by rw[Array.size_setIfInBounds];exact L.size,λi q e=>?_,λq o=>?_|λi i' q e s=>?_]
 .rw[get]at e
  split at e
  .rename_i C
   cases e;show%[h,by simp,n,by rw[G,C]|λm p=>keep _ (T m p) (d h m)]
  .let%[h',l,n',e2|e3]:=L.own i q e;exact%[h',(Y8 (Xn l).1)▸l,n',e2|λm p=>keep _ (e3 m p) (d h' m)]
 .rw[Z9,Yk]at o;by_cases e:q= ~~~f
  .exact%[j|by rw[get,if_pos rfl,e]]
  .let%[i|hi]:=L.all q ⋯;show%[i|?_];rw[get,if_neg]
   .exact hi
   .intro C;rw[<-C]at hi;exact Y q hi
 .let u:∀i,owner[i]?∣some f.length->False:=λi e=>by
   let%[h',l|_]:=L.own i _ e;let:=(Xn l).1
   lia
  rw[get]at e s
  split at e<;> split at s
  .lia
  .cases e;exact absurd s (λz=>u i' z)
  .cases s;exact absurd e (λz=>u i z)
  .exact L.one i i' q e s
def vq(c:t.mask+1=2^k)(a:Array Int)(room:a.size<=t.mask+1):∃owner,layClean t.mask a∣owner/\LO t a.toList owner:=by
 let d:∀rest done owner,LO t done owner-> ~~~(done++rest)<=t.mask+1->
  ∃b,rest.foldl (λacc h=>do
   let(owner,k)<-acc
   let j<-layClean.free t.mask owner (turns t.mask) (bits h%(t.mask+1)) (bits h)
   pure (owner.setIfInBounds j (some k),k+1)) (some (owner,~~~done))∣(b,~~~(done++rest))/\LO t (done++rest) b:=by
  intro rest
  induction rest with
  | nil=>intro done owner L _;exact%[owner,by simp|↑L]
  | cons h rest g=>
    intro done owner L i;simp only[Z9,Zr]at i;let%[j,f|l]:=L.step c ⋯ h;let%[b,e|L2]:=g _ _ l (!2);show%[b,?_|↑L2];rw[Y7];let m:(do
     let(owner,k)<-(some (owner,~~~done))
     let j<-layClean.free t.mask owner (turns t.mask) (bits h%(t.mask+1)) (bits h)
     pure (owner.setIfInBounds j (some k),k+1))∣(owner.setIfInBounds j (some done.length),~~~(done++[h])):=by
     change(layClean.free t.mask owner _ _ _).bind _=_;rw[f];simp
    rw[m,e];simp
 let n:LO t [] (Array.replicate (t.mask+1) none):=%[by simp,λj q e=>by
  rw[Array.getElem?_replicate]at e
  split at e<;> simp at e,λq o=>absurd o (X7 _)|λj p q e _=>by
  rw[Array.getElem?_replicate]at e
  split at e<;> simp at e]
 let%[owner,e|L]:=d a.toList [] _ n (room);show%[owner,?_|L];unfold layClean;rw[<-Array.foldl_toList];rw[show(0)= ~~~([]) from rfl,e];rfl
def vt(n:Nat):∀fuel k,3<=k->n<2^(k+fuel)->(2^k<=2*n\/k=3)->∃a,3<=a/\sizeAbove.go n fuel (2^k)=2^a/\n<2^a/\(2^a<=2*n\/a=3)
 | 0,k,b,c,d=>%[k,b,rfl,c|d]
 | fuel+1,k,b,c,d=>by
   rw[sizeAbove.go];by_cases h:2^k<=n
   .rw[if_pos h];let e:2^k*2=2^(k+1):=by rw[pow_succ]
    rw[e];exact vt n fuel _ ⋯ ((show k+1+fuel=k+(fuel+1) by lia)▸c) (.inl ⋯)
   .rw[if_neg h];exact%[k,b,ρ,⋯|d]
def xQ(a:n<2^60):∃k,3<=k/\sizeAbove n=2^k/\n<2^k/\(2^k<=2*n\/k=3):=
 vt n 64 3 (Zi _) (Zg a (Nat.pow_le_pow_right (!1) ∅)) (.inr rfl)
def oF [DecidableEq c]:∀{l m:List c},l.Nodup->m.Nodup->(∀x,x∈l↔x∈m)->l.Perm m
 |[],m,_,_,h=>by
  cases m with
  | nil=>simp
  | cons x m=>exact absurd ((h x).mpr Zm) ∅
 | x::l,m,d,b,h=>by
   let%[f|g]:=nodup_cons.mp d;show List.Perm.trans (List.Perm.cons x (oF g (b.erase x) λy=>?_)) (List.perm_cons_erase ((h x).mp Zm)).symm
   constructor
   .intro a;exact(List.mem_erase_of_ne (λe=>f (!2))).mpr ((h y).mp (Zk _ a))
   .intro a;rcases mem_cons.mp ((h y).mpr (List.mem_of_mem_erase a))with q|q
    .exact absurd q (λe=>by rw[e]at a;exact b.not_mem_erase a)
    .exact q
def laid_ok{t:SetTable}(hp:t.mask+1=2^k)(E:7<=t.mask)(c:Array (Int×Value))(room:c.size<=t.mask)(finger moves:Nat)(led plain:Bool):
 ∃t' d,laid t.mask finger moves led plain (c\1)∣(t',d)/\t'.mask=t.mask/\t'.led=led/\t'.plain=plain/\t'.moves=moves/\WF t' (d.filterMap (c[·]?))/\(d.filterMap (c[·]?)).toList.Perm c.toList:=by
 let%[owner,e|L]:=vq hp (c\1) (by rw[size_map];lia);let G:(c\1).toList.length=c.size:=by simp
 obtain⟨live,v⟩:∃live,(List.range (t.mask+1)).filterMap (λj=>(owner.getD j none).map (λq=>(j,q)))=live:=%[_|rfl]
 show%[%[t.mask,(live\1).toArray,#[],finger,led,moves|plain],(live\2).toArray,by unfold laid;rw[e,<-v];rfl,ρ,ρ,ρ,ρ|?_];let gd:∀j q,owner.getD j none∣q↔owner[j]?∣some q:=λj q=>by
  rw[Array.getD_eq_getD_getElem?];cases owner[j]? with
  | none=>simp
  | some o=>simp
 let mem:∀j q,(j,q)∈live↔owner[j]?∣some q:=λj q=>by
  rw[<-v,mem_filterMap]
  constructor
  .rintro⟨H,ab,I⟩;let%[z,s|J]:=map_eq_some_iff.mp I;cases J;exact(gd j q).mp s
  .intro ho;let:j<owner.size:=by
    let%[f|_]:=Array.getElem?_eq_some_iff.mp ho;exact f
   show%[j,mem_range.mpr (by rw[L.size]at this;exact this)|?_];rw[(gd j q).mpr ho];rfl
 let r:(live\1).Pairwise (·<·):=by
  rw[<-v,Xa,List.pairwise_filterMap];show List.Pairwise.imp (λ{a b} u x hx y M=>?_) List.pairwise_lt_range;let%[_,_|rfl]:=map_eq_some_iff.mp hx;let%[_,_|rfl]:=map_eq_some_iff.mp M;exact u
 let w:∀j q,(j,q)∈live->q<c.size:=λj q h=>by
  let%[h',s|_]:=L.own j q ((mem j q).mp h);let:=(Xn s).1
  lia
 let B:(live\2).Nodup:=by
  rw[X4,Xa];show Xi (λ{a b} N E u g=>?_) (by rw[Xa]at r;exact r);let f:=(mem a.1 a.2).mp N;let O:=(mem b.1 b.2).mp E;rw[<-g]at O;let:=L.one _ _ _ f O
  lia
 let C:(live\2).Perm (List.range c.size):=oF B nodup_range λq=>by
  constructor
  .intro g;let%[%[j|z],f|rfl]:=Xq g;exact mem_range.mpr (w j z f)
  .intro g;let%[j|Q]:=L.all q (G▸mem_range.mp g);exact Xr %[(j,q),(mem j q).mpr Q|rfl]
 let fm:∀(l:List Nat),(∀q∈l,q<c.size)->l.filterMap (c[·]?)=l.map (λq=>c.getD q (0,Value.none)):=by
  intro l
  induction l with
  | nil=>intro _;rfl
  | cons q l ih=>
    intro g;let f:=g q Zm;let s:c[q]?∣c.getD q (0,Value.none):=by simp[Array.getD,f]
    rw[Y1,s,Yr,ih λy M=>g y (Zk _ M)]
 let T:((live\2).toArray.filterMap (c[·]?)).toList=(live\2).map (λq=>c.getD q (0,Value.none)):=by
  rw[Array.toList_filterMap,List.toList_toArray];exact fm _ λq g=>by
   let%[%[j|z],f|rfl]:=Xq g;exact w j z f
 let er:c.toList=(List.range c.size).map (λq=>c.getD q (0,Value.none)):=by
  apply ext_getElem
  .simp
  .intro i f O;let f:=↑f
   simp[Array.getD,f]
 show%[%[%[k|hp],E,ρ,?_,λj Q=>?_,?_|λi j h x hi A=>?_]|?_]
 .intro a b N U u;let:=List.pairwise_iff_getElem.mp r a b (N) (U) u;simpa using this
 .let%[%[H|q],f|rfl]:=Xq Q;let:=(Array.getElem?_eq_some_iff.mp ((mem H q).mp f)).1;rw[L.size]at this
  lia
 .rw[<-Zb (xs:=Array.filterMap _ _),T];simp
 .let hi:(live\1)[i]?∣j:=↑hi
  let A:((live\2).toArray.filterMap (c[·]?)).toList[i]?∣(h,x):=↑A
  rw[T,Yt,Zl]at A;rw[Zl]at hi;cases Y:live[i]? with
  | none=>rw[Y]at hi;cases hi
  | some p=>
    let%[H|q]:=p;rw[Y]at hi A;cases hi;let hm:=Z8 Y;let%[h',s,n,n1|n2]:=L.own _ q ((mem _ q).mp hm);let g:=w _ q hm;let eh:h'=h:=by
     let J:(c\1).toList[q]?∣(c[q]).1:=by simp[g]
     rw[J]at s;let e3:c.getD q (0,Value.none)=c[q]:=by simp[Array.getD,g]
     simp only[Function.comp,map_some,e3,Option.some.injEq]at A;rw[A]at s;exact(Za s).symm
    subst eh;let wm:∀n,way {mask:=t.mask,place:=(live\1).toArray,dummies:= #[],finger:=finger,led:=led,moves:=moves,plain:=plain} h' n=way t h' n:=λn=>rD (t':=t) (by rfl) h' n
    show%[n,by rw[wm];exact n1|λm aa=>?_];rw[wm];let%[z|I]:=(gj (by rw[L.size];let:=tN t h' m;lia)).mp (n2 m aa);exact Xr %[(way t h' m,z),(mem _ _).mpr I|rfl]
 .rw[T,er];exact C.map _
section
variable{prog:Program}{w:World}{K:Type}[DecidableEq K]{knd:KeyKind prog w K}{A:Around}{E:ZD}{s:Shared}
abbrev EL(knd:KeyKind prog w K)(h:Heap)(a:Array (Int×Value)):Prop:=∀(i:Nat) e,a[i]?∣e->∃r k,e=(tupleKeyHash knd k,Value.ref r)/\IsTupleKey knd h k r
def mK(f:IsTupleKey knd s.heap ks r)(h:Q false s):↥A (ofAClassStatement 8 (.ref r)) Q E s:=by
 let j:=f.typeIs;let%[o,items,n,l,_,m|hi]:=f;unfold ofAClassStatement;show Z2 (wpAny_typeOf j (Z2 (Z3 (Z2 (wpAny_seqItems l m (Z2 ?_))))));rw[<-forIn_toList];show wpAny_forIn_list _ (λrest r s'=>r=(none,())/\s'=s/\∃g,ItemsAre knd g rest) _ ?_ ?_ _ _ %[rfl,rfl,ks|hi]
 .intro x rest r s' %[rfl,rfl,g|c];cases c with
  | @cons k1 u d i p b=>
    let q:=knd.byValue _ _ p;let e:ofAClassStatement 7 x=pure false:=by
     cases x with
     | ref a=>simp[carriedByValue]at q
     | _=>first|rfl|lia|lia
    show Z2 ?_;rw[e];exact Z3 (Z3 %[rfl,rfl,d|b])
 .intro r s' %[rfl,rfl|_];exact Z3 h
def xR(d:IsTupleKey knd s.heap ks r):∀(l:ZF),(∀y∈l,∃a c,y=Value.ref a/\IsTupleKey knd s.heap c a)->∀{Q:Bool->Shared->Prop},Q false s->↥A (searchCouldBeSeen (.ref r) l) Q E s:=by
 intro l g Q h;show Z2 (wpAny_forIn_list _ (λrest x s'=>x=(none,())/\s'=s/\∀y∈rest,∃a c,y=Value.ref a/\IsTupleKey knd s.heap c a) _ ?_ ?_ _ _ %[rfl,rfl|g])
 .intro y rest x s' %[rfl,rfl|e];let%[a,c,rfl|b]:=e y Zm;let f:=λy i=>e y (Zk _ i)
  dsimp only
  split
  .exact Z3 %[rfl,rfl|f]
  .exact Z2 (wpAny_eqIsQuiet_tuple d (Z2 (wpAny_eqIsQuiet_tuple b (Z2 (mK d (Z2 (mK b (Z3 %[rfl,rfl|f]))))))))
 .intro x s' %[rfl,rfl|_];exact Z3 h
def tO(hu:A.units<cLine)(ho:s.heap.get? a∣o)(hd:o.data= .set u ep t)(W:WF t u)(room:t.place.size<=t.mask)(ab:t.mask<=9000)
 (el:EL knd s.heap u) (hk:IsTupleKey knd s.heap k r)
 (h1:(∃(i:Nat) (g:Addr),u[i]?∣(tupleKeyHash knd k,Value.ref g)/\IsTupleKey knd s.heap k g)->Q (.there none) s)
 (h2:∀m,way t (tupleKeyHash knd k) m∉t.place.toList->(∀q,q<m->way t (tupleKeyHash knd k) q∈t.place.toList)->(∀(i:Nat) g v,u[i]?∣(tupleKeyHash knd v,Value.ref g)->IsTupleKey knd s.heap v g->v≠k)->Q (.free (way t (tupleKeyHash knd k) m) false) s):
 ↥A (setSearch a (.ref r) (tupleKeyHash knd k) true) Q E s:=by
 generalize hh:tupleKeyHash knd k=h at h1 h2
 let hf:t.fits u.size=true:=by
  unfold fits fill;rw[W.dum];simp[W.size];exact W.size▸room
 let%[M,m1,m2|m3]:=xM W room h;let me:t.slot (way t h M)= .empty:=by
  rcases jQ W.rise W.dum (way t h M)with⟨i,e,_⟩|⟨_,e⟩
  .exact absurd (mem_toList_iff.mpr (Array.mem_of_getElem? e)) m2
  .exact e
 let ac:t.gaveWay=false:=by
  let%[c|hc]:=W.pow;let hb:=W.big;let c0:c≠0:=λq=>by rw[q]at hc;lia
  let%[c'|rfl]:=Nat.exists_eq_succ_of_ne_zero c0;rw[pow_succ]at hc;unfold gaveWay;let:t.mask%2=1:=by lia
  simp[this]
 let N:∀(fuel n:Nat) (st:Option Probe),st.getD (t.probeStart h)=stand t h n->n<=M->M<n+fuel->(∀j,j<n->∀(i:Nat) g v,t.slot (way t h j)= .live i->u[i]?∣(tupleKeyHash knd v,Value.ref g)->IsTupleKey knd s.heap v g->v≠k)->
  ↥A (setSearchFrom a (.ref r) h true fuel st) Q E s:=by
  intro fuel
  induction fuel with
  | zero=>intro n st _ a1 a2;lia
  | succ fuel ih=>
    intro n st ag hn a0 O;unfold setSearchFrom;show Z2 (wpAny_setState_of ho hd hf ?_);dsimp only;rw[ac];simp only[Zz,if_false];rw[ag]
    generalize ai:SetTable.probe t _ h (stand t h n)=pr
    let l:SetTable.probe.go t (λi=>((u[i]?)\1).getD 0) h (10*turns t.mask) (stand t h n)=pr:=ai;let%[q,q1,q2,q3|q4]:=vo (t:=t) W.dum (hashAt:=λi=>((u[i]?)\1).getD 0) (h:=h) (10*turns t.mask) n M hn ⋯ me;rcases q4 with⟨I,e2⟩|⟨i,I,e2,e3⟩
    .rw[e2]at l;subst l;let hq:q=M:=by
      rcases Nat.eq_or_lt_of_le q2 with z|z
      .exact z
      .let:=m3 q z;rcases jQ W.rise W.dum (way t h q)with⟨i,_,T⟩|⟨z2,_⟩
       .rw[I]at T;cases T
       .exact absurd this z2
     subst hq;dsimp only;show Z3 (h2 q m2 m3 λi g v p B C=>?_);subst C;rw[hh]at p;let hi:i<u.size:=(Array.getElem?_eq_some_iff.mp p).1;let hp:t.place[i]?∣t.place[i]'(W.size▸hi):=by simp
     let%[U,c1|c2]:=W.chain i _ h _ hp p;let G:=rC W.rise hp;let al:U<q:=by
      rcases Nat.lt_trichotomy U q with z|z|z
      .exact z
      .rw[z,]at c1;rw[<-c1,me]at G;cases G
      .exact absurd (c2 q z) m2
     rw[<-c1]at G;by_cases Y:U<n
     .exact O U Y i g v G (hh▸p) B rfl
     .let%[i',T|aa]:=q3 U ⋯ al;rw[G]at T;cases T;rw[p]at aa;exact aa rfl
    .rw[e3]at l;subst l;obtain⟨x0,p⟩:∃e,u[i]?∣e:=by
      let an:t.place[i]?∣way t h q:=by
       rcases jQ W.rise W.dum (way t h q)with⟨i',p1,H⟩|⟨_,H⟩
       .rw[I]at H;cases H;exact p1
       .rw[I]at H;cases H
      let:=(Array.getElem?_eq_some_iff.mp an).1;exact%[u[i]'(W.size▸this)|by simp[<-W.size,this]]
     let%[g,v,rfl|B]:=el i x0 p;let a3:q<M:=Nat.lt_of_le_of_ne q2 λz=>by rw[z,me]at I;cases I
     let J:↥A (do
      let f<-holding [Value.ref g] (eqBool (Value.ref g) (Value.ref r))
      let x<-setState a
      if(true&&f)=true then pure (SetFound.there none)
      else match x.2.snd.sameMemory t.moves t.mask with
       | some same=>
         match if same=true then x.2.snd.slot (way t h q)else Slot.empty with
         | Slot.live i'=>
           match x.fst[i']? with
           | some (_,y')=>do
             let b<-isSame y' (Value.ref g)
             let d<-pure (if b=true then some i' else none)
             match d with
              | none=>do
                rule "set.search.anew"
                setSearchFrom a (Value.ref r) h true fuel none
              | some i'=>
                if f=true then pure (SetFound.there (some i'))
                else setSearchFrom a (Value.ref r) h true fuel (some (stand t h (q+1)))
           | none=>do
             let d<-pure none
             match d with
              | none=>do
                rule "set.search.anew"
                setSearchFrom a (Value.ref r) h true fuel none
              | some i'=>
                if f=true then pure (SetFound.there (some i'))
                else setSearchFrom a (Value.ref r) h true fuel (some (stand t h (q+1)))
         | x=>do
           let d<-pure none
           match d with
            | none=>do
              rule "set.search.anew"
              setSearchFrom a (Value.ref r) h true fuel none
            | some i'=>
              if f=true then pure (SetFound.there (some i'))
              else setSearchFrom a (Value.ref r) h true fuel (some (stand t h (q+1)))
       | x=>unsupported "set.changed-during-lookup:is-the-new-block-at-the-old-address") Q E s:=by
      show Z2 (wpAny_holding (wpAny_eqBool_tuple hu B hk (Z2 (wpAny_setState_of ho hd hf ?_))));dsimp only;by_cases C:v=k
      .subst C;rw[Zf rfl];exact Z3 (h1 %[i,g,(by rw[p]at e2;exact e2)▸p|B])
      .rw[Zh C];let sm:t.sameMemory t.moves t.mask∣true:=by unfold sameMemory;rw[if_pos ∅]
       rw[sm];simp only[if_true];rw[I];dsimp only;rw[p];dsimp only;let same:isSame (Value.ref g) (Value.ref g)=pure true:=by
        unfold isSame;simp
       show Z2 ?_;rw[same];show Z3 ?_;simp only[if_true];show Z2 (Z3 ?_);dsimp only;show ih (q+1) _ rfl ⋯ ⋯ λj hj i2 r2 k2 s2 g2 t2=>?_
       by_cases aq:j<n
       .exact O j aq i2 r2 k2 s2 g2 t2
       .by_cases as:j=q
        .subst as;rw[I]at s2;cases s2;rw[p]at g2;let:g=r2:=by
          let:=Za g2;injection this with _ z
          injection z
         subst this;exact(B.inj t2)▸C
        .let%[i3,p1|H]:=q3 j ⋯ ⋯;rw[s2]at p1;cases p1;rw[g2]at H;intro z;rw[z]at H;exact H hh
     dsimp only;rw[p];dsimp only;by_cases L:(!t.led)=true
     .rw[if_pos L];show Z2 (xR hk _ (λy hy=>?_) ?_)
      .let%[e,aR|rfl]:=Xq hy;let%[i2|hi2]:=Array.getElem?_of_mem ((Array.mem_filter.mp (mem_toList_iff.mp aR)).1);let%[r2,k2,rfl|aU]:=el i2 e hi2;exact%[r2,k2,ρ|aU]
      .exact J
     .rw[if_neg L];exact J
 exact N 100000 0 none rfl (Xg _) (by unfold turns at m1;lia) (λj hj=>absurd hj (X7 _))
end
structure IN (es:Array _) (t:SetTable) (led:Bool):Prop where
 wf:WF t es
 roomy:t.place.size*5<t.mask*3
 small:t.mask<=7\/t.mask+1<=8*es.size
 led:t.led=led
 plain:es.size≠0->t.plain=false
def IN.fits{a:Array _}{t:SetTable}{led:Bool}(I:IN a t led):t.fits a.size=true:=by
 unfold SetTable.fits fill;rw[I.wf.dum];let:=I.roomy;simp[I.wf.size];rw[<-I.wf.size]
 lia
def IN.fresh(finger moves:Nat)(led:Bool):IN #[] (SetTable.fresh finger moves led) led:=
 %[%[%[3|rfl],Zi _,rfl,λa b c=>absurd c (by simp[SetTable.fresh]),λj d=>by simp[SetTable.fresh]at d,rfl|λi j h x hi=>by simp[SetTable.fresh]at hi],show 0*5<7*3 from !1,.inl (Zi _),rfl|λq=>absurd rfl q]
section
variable{prog:Program}{w:World}{K:Type}[DecidableEq K]{knd:KeyKind prog w K}{A:Around}{E:ZD}{s:Shared}
def relay_w(e:s.heap.get? a∣o)(f:o.data= .set c B t)(j:t.fits c.size=true)(C:c.size<=n)(hw:n<=4000)
 (h:∀d t',d.toList.Perm c.toList->WF t' d->t'.led=t.led->t'.plain=t.plain->n<=t'.mask->t'.mask+1<=2*n\/t'.mask<=7->Q () (s>>>s.heap.update a (Obj.putSet d t'))):
 ↥A (setRelay a n) Q E s:=by
 let%[k,l,g,lt|m]:=xQ (n:=n) ⋯;let G:8<=2^k:=Nat.le_trans (by simp:8<=2^3) (Nat.pow_le_pow_right ∅ l);let i:2^k<=2*n\/2^k=8:=by
  rcases m with q|q
  .exact .inl q
  .exact .inr (by rw[q])
 let p:2^k<=8000:=by rcases i with q|q<;> lia
 letI r:SetTable:={t with mask:=2^k-1}
 let%[t',b,u,H,v,y,I,W|P]:=laid_ok (t:=r) (k:=k) (by change 2^k-1+1=2^k;lia) (by change 7<=2^k-1;lia) c (by change c.size<=2^k-1;lia) t.finger _ t.led t.plain;let z:t.relaid (c\1) n∣(t',b):=by
  unfold relaid;rw[g];exact u
 let sz:(b.filterMap (c[·]?)).size=c.size:=by rw[<-Zb,P.length_eq,Zb]
 show Z2 (wpAny_setState_of e f j ?_);dsimp only;rw[g,if_neg (by rw[PySem.sizeLine_eq];lia)];rw[z];show Z2 ?_;change wpAny _ A (if((b.filterMap _).size != c.size)=true then _ else pure _) _ E s;rw[if_neg (by simp[sz])];exact Z3 (wpAny_storeSet_of e f (h _ t' P W v y ⋯ (by rcases i with q|q<;> lia)) (by rw[sz,PySem.sizeLine_eq];lia))
def Cv(e:s.heap.get? a∣o)(f:o.data= .set c j t)(g:t.fits c.size=true)(m:c.size<=1000)(n:c.size≠0)(d:t.plain=false)
 (h:∀b t',b.toList.Perm c.toList->IN b t' t.led->t'.plain=false->Q () (s>>>s.heap.update a (Obj.putSet b t'))):
 ↥A (setRelay a (grown c.size)) Q E s:=by
 let i:grown c.size=c.size*4:=by unfold grown;rw[if_neg ⋯]
 rw[i];show relay_w e f g ⋯ ⋯ λb t' P W l p q m2=>?_
 let sz:b.size=c.size:=by rw[<-Zb,P.length_eq,Zb]
 exact h b t' P %[W,by rw[W.size,sz];lia,⋯,l|λ_=>p▸d] (p▸d)
def Ak{led:Bool}(M:A.units<cLine)(p:s.heap.get? a∣o)(n:o.data= .set d ep t)(I:IN d t led)(hn:d.size+1<=1000)
 (el:EL knd s.heap d) (C:IsTupleKey knd s.heap k r) (hv:∀(s':Shared) (N:Bool->Shared->Prop),IsTupleKey knd s'.heap k r->N false s'->↥A (hashByValue 8 (.ref r)) N E s')
 (h1:(∃(i:Nat) (u:Addr),d[i]?∣(tupleKeyHash knd k,Value.ref u)/\IsTupleKey knd s.heap k u)->Q false {s with toks:=s.toks+(~~~k+1)})
 (O:(∀(i:Nat) (u:Addr) (G:List K),d[i]?∣(tupleKeyHash knd G,Value.ref u)->IsTupleKey knd s.heap G u->G≠k)->∀g t' H h',h'.get? a=some {o with data:= .set g H t'}->SameBut a s.heap h'->g.toList.Perm (d.toList++[(tupleKeyHash knd k,Value.ref r)])->IN g t' led->Q true {s with heap:=h',toks:=s.toks+(~~~k+1)}):
 ↥A (setAdd a (.ref r)) Q E s:=by
 unfold setAdd;show wpAny_holding (Z2 (wpAny_pyHash_tuple M C ?_));unfold setAddHashed;show wpAny_holding ?_;unfold setAddHashedIn;show Z2 (wpAny_setState_of (s:={s with toks:=s.toks+(~~~k+1)}) p n I.fits ?_);dsimp only;let ns:byScan (Value.ref r) d=false:=rfl;rw[ns];simp only[Zz,if_false];let rm:=I.roomy;show Z2 (tO (s:={s with toks:=s.toks+(~~~k+1)}) M p n I.wf ⋯ (by rcases I.small with q|q<;> lia) el C (λq=>?_) λm T m2 U=>?_)
 .exact Z3 (h1 q)
 .dsimp only;show Z2 (wpAny_setState_of (s:={s with toks:=s.toks+(~~~k+1)}) p n I.fits ?_);dsimp only;let v:=I.wf;let%[p1,Y,p3,p4,p5,p6|Wp]:=v.put (x:=Value.ref r) T m2 t.led false;let%[_,_,_,_,_,_|Wq]:=v.put (x:=Value.ref r) T m2 (t.put (way t (tupleKeyHash knd k) m)).1.led (t.put (way t (tupleKeyHash knd k) m)).1.plain;let y:(t.put (way t (tupleKeyHash knd k) m)).2<=d.size:=by
   rw[p1,<-v.size];exact(jP v.rise _).1
  let e:(insertAt d (t.put (way t (tupleKeyHash knd k) m)).2 (tupleKeyHash knd k,Value.ref r)).size=d.size+1:=iU _ _ _ y;let h:(insertAt d (t.put (way t (tupleKeyHash knd k) m)).2 (tupleKeyHash knd k,Value.ref r)).toList.Perm (d.toList++[(tupleKeyHash knd k,Value.ref r)]):=by
   rw[km _ _ _ y];let q:=Xd (t.put (way t (tupleKeyHash knd k) m)).2 d.toList;show List.Perm.trans List.perm_middle ?_;rw[q];exact List.perm_append_comm (l₁:=[_])
  generalize aa:insertAt d _ _=c at Wp Wq e h
  let f:∀b:SetTable,WF b c->b.mask=t.mask->b.place.size=t.place.size+1->b.led=led->b.plain=false->
   ↥A (do storeSet a c b;if(!false&&b.tooFull)=true then do setRelay a (grown (d.size+1));pure true else pure true) Q E {s with toks:=s.toks+(~~~k+1)}:=λb z e1 e2 e3 e4=>by
   let g1:=by
    let q:=get?_update_self (Obj.putSet c b) p (by rw[putSet_of c b n];rfl);rwa[putSet_of c b n]at q
   let b1:=SameBut.update s.heap a (Obj.putSet c b);show Z2 (wpAny_storeSet_of p n ?_ (e▸Nat.le_trans hn (!1)));let J:b.tooFull=true↔b.mask*3<=b.place.size*5:=by
    unfold tooFull fill;rw[z.dum];simp
   by_cases hf:b.tooFull=true
   .rw[if_pos (by simp[hf])];let B:b.fits c.size=true:=by
     unfold SetTable.fits fill;rw[z.dum];simp[z.size];exact z.size▸(by rw[e1,e2];let:=v.big;lia)
    rw[<-e];show Z2 (Cv g1 rfl B ⋯ ⋯ e4 λj L P3 I3 _=>Z3 ?_);let g2:=by
     let q:=get?_update_self (Obj.putSet j L) g1 (by rfl);rwa[putSet_of j L rfl]at q
    exact O U j L _ _ g2 (b1.trans (SameBut.update _ a _)) (P3.trans h) (by rw[e3]at I3;exact I3)
   .rw[if_neg (by simp[hf])];show Z3 (O U c b _ _ g1 b1 h %[z,⋯,?_,e3|λ_=>e4]);rw[e1,e];rcases I.small with q|q
    .exact .inl q
    .exact .inr ⋯
  by_cases l:(t.put (way t (tupleKeyHash knd k) m)).1.plain=true
  .rw[if_pos l];exact Z2 (hv _ _ C (f _ Wp Y p3 I.led rfl))
  .rw[if_neg l];exact f _ Wq Y p3 (p4.trans I.led) ↑l
end
end _ST
namespace _LL
open PySem PySem.Spec PyProof.Rows _ST
abbrev gY{a:Type}[DecidableEq a](ps:List (Addr×a))(p:Addr×a):List (Addr×a):=if p.2∈ps\2 then ps else ps++[p]
abbrev bB{a:Type}[DecidableEq a](l:List (Addr×a)):List (Addr×a):=l.foldl gY []
section
variable{κ:Type}[DecidableEq κ]
def Cw{ps:List _}{p q:Addr×κ}(h:q∈gY ps p):q∈ps\/q=p:=by
 unfold gY at h
 split at h
 .exact .inl h
 simp_all
def Al{ps:List (Addr×κ)}{p:Addr×κ}{k:κ}:k∈(gY ps p)\2↔k∈ps\2\/k=p.2:=by
 unfold gY;by_cases h:p.2∈ps\2
 .rw[if_pos h];exact%[.inl|λq=>q.elim id λe=>e▸h]
 .rw[if_neg h,Zd,Yu];simp
def xS{ps:List (Addr×κ)}{p:Addr×κ}(h:(ps\2).Nodup):((gY ps p)\2).Nodup:=by
 unfold gY
 split
 .exact h
 .rename_i a
  rw[Zd];exact ny h a
def yT:∀(l ps:List (Addr×κ)),(ps\2).Nodup->((l.foldl gY ps)\2).Nodup/\(∀k,k∈(l.foldl gY ps)\2↔k∈ps\2\/k∈l\2)/\(∀q∈l.foldl gY ps,q∈ps\/q∈l)
 |[],ps,h=>%[h,λk=>by simp|λq a=> .inl a]
 | p::l,ps,h=>by
   let%[b,c|d]:=yT l _ (xS h);rw[Y7];show%[b,λk=>?_|λq a=>?_]
   .rw[c,Al,Yr,Yy]
    grind
   .rcases d q a with z|z
    .rcases Cw z with z|z
     .exact .inl z
     .exact .inr (z▸Zm)
    .exact .inr (Zk _ z)
def d5(l:List (Addr×κ)):((bB l)\2).Nodup:=(yT l [] X6).1
def gZ(l:List (Addr×κ))(k:κ):k∈(bB l)\2↔k∈l\2:=by
 let:=(yT l [] X6).2.1 k;simpa [bB]using this
def br(l:List (Addr×κ)):∀q∈bB l,q∈l:=λq a=>by
 rcases(yT l [] X6).2.2 q a with z|z
 .cases z
 .exact z
def tP{l:List (Addr×κ)}{i:Nat}{p:Addr×κ}(h:l[i]?∣p):bB (l.take (i+1))=gY (bB (l.take i)) p:=by
 unfold bB;rw[Xc,h,foldl_append];rfl
end
section
variable{prog:Program}{w:World}{κ:Type}[DecidableEq κ]{knd:PySem.KeyKind prog w κ}{A:Around}{E:ZD}{s:Shared}{a:Addr}
abbrev tQ(w:World)(knd:PySem.KeyKind prog w κ)(a:Addr)(ps:List (Addr×List κ))(h:Heap):Prop:=
 ∃o b c t,h.get? a∣o/\o.ExactSet/\o.data= .set b c t/\IN b t (!a9 w)/\b.toList.Perm (ps.map λp=>(tupleKeyHash knd p.2,Value.ref p.1))
def tQ.keep(S:tQ w knd a ps h)(k:∀o,h.get? a∣o->h'.get? a∣o):tQ w knd a ps h':=by
 let%[o,b,c,t,d|r]:=S;exact%[o,b,c,t,k o d|r]
def yU(x:IsTupleKey knd h k r)(q:∀o,h.get? r∣o->h'.get? r∣o):IsTupleKey knd h' k r:=by
 let%[o,items,n,b|z]:=x;exact%[o,items,n,q o b|z]
def Cy(v:A.units<cLine)(y:tQ w knd a ps s.heap)(tk:∀q∈ps,IsTupleKey knd s.heap q.2 q.1)(B:IsTupleKey knd s.heap p.2 p.1)(room: ~~~ps+1<=1000)
 (C:∀(s':Shared) (m:Bool->Shared->Prop),IsTupleKey knd s'.heap p.2 p.1->m false s'->↥A (hashByValue 8 (.ref p.1)) m E s')
 (n:∀h' b tk,SameBut a s.heap h'->tQ w knd a (gY ps p) h'->s.toks<=tk->Q b {s with heap:=h',toks:=tk}):↥A (setAdd a (.ref p.1)) Q E s:=by
 let%[o,g,G,t,r,f,u,I|P]:=y;let hn:=by
  let:=P.length_eq;rw[Z6,Zb]at this;exact this
 let mem:∀i e,g[i]?∣e->∃q∈ps,e=(tupleKeyHash knd q.2,Value.ref q.1):=λi e h=>by
  let:=mem_toList_iff.mpr (Array.mem_of_getElem? h);let%[q,c|rfl]:=Xq (P.mem_iff.mp this);exact%[q,c|ρ]
 let H:EL knd s.heap g:=λi e h=>by
  let%[q,c|rfl]:=mem i e h;exact%[q.1,q.2,ρ|tk q c]
 show Ak v r u I ⋯ H B C (λ⟨i,J,e,L⟩=>?_) λd j t' l h' M N O T=>?_
 .let%[q,c|U]:=mem i _ e;let Y:J=q.1:=by injection U with _ z;injection z
  subst Y;show n s.heap false _ (SameBut.refl a s.heap) ?_ (le_add_right _ _);unfold gY;rw[if_pos (Xr %[q,c|(L.inj (tk q c)).symm])];exact%[o,g,G,t,r,f,u,I|P]
 .show n h' true _ N ?_ (le_add_right _ _);unfold gY;rw[if_neg]
  .show%[_,j,l,t',M,f,ρ,T|O.trans ?_];rw[Zd];exact P.append_right _
  .intro hm;let%[q,c|e]:=Xq hm;let:=P.mem_iff.mpr (Xr %[q,c|rfl]);let%[i|hi]:=Xh this;exact d i q.1 q.2 ↑hi (tk q c) e
end
section
variable{prog:Program}{w:World}{κ:Type}[DecidableEq κ]{knd:PySem.KeyKind prog w κ}{A:Around}{E:ZD}{s:Shared}
def qf(u:A.handled=none)(O:A.units+16<cLine)(y:s.heap.IsList l items)(hi:items.toList=ps.map λp=>Value.ref p.1)(tk:∀p∈ps,IsTupleKey knd s.heap p.2 p.1)(U:List (List κ))(Y: ~~~U<=999)(f:∀p∈ps,p.2∈U)
 (z:∀p∈ps,∀(B:Around) (s':Shared) (c:Bool->Shared->Prop) (C:ZD),IsTupleKey knd s'.heap p.2 p.1->c false s'->↥B (hashByValue 8 (.ref p.1)) c C s')
 (G:∀(h':Heap) (tk:Nat),tQ w knd ⇑s (bB ps) h'->(∀b o,s.heap.get? b∣o->h'.get? b∣o)->Q (.ref ⇑s) {s with heap:=h',toks:=tk}):
 ↥A (call (.type "set") [.ref l]) Q E s:=by
 let a:items.size= ~~~ps:=by rw[<-Zb,hi,Z6]
 show mG (T:=λi h=>tQ w knd ⇑s (bB (ps.take i)) h) u y (λh e=>%[_,#[],0,_,e,%[rfl,rfl|rfl],rfl,IN.fresh 0 0 _|List.Perm.refl _]) (λi h h' S k=>S.keep k) (λi v s1 Q E e H n k=>?_) λh' t S k=>G h' t (by rwa[a,Zn (Zi _)]at S) k
 rw[<-getElem?_toList,hi,Zl]at e;let%[p,r|rfl]:=map_eq_some_iff.mp e;let sub:∀q∈bB (ps.take i),q∈ps:=λq g=>Yz (br _ q g)
 let d:=Z8 r;show Cy (p:=p) (by simp only[Around.in1];lia) H (λq g=>yU (tk q (sub q g)) λo=>n _ o) (yU (tk p d) λo=>n _ o) ?_ (λs' c=>z p d _ s' c _) λI b J L j M=>k I b J L (by rw[tP r];exact j) M
 let q:=nodup_sub (d5 (ps.take i)) (m:=U) λk N=>by
  let%[p,d|rfl]:=Xq ((gZ _ k).mp N);exact f p (Yz d)
 rw[Z6]at q
 lia
end
open PySem PySem.Spec PyProof.Rows
section
variable{prog:Program}{w:World}{A:Around}{s:Shared}
def qg{a:Addr}{vs:ZF}{n:Nat}{kd:SortKind}{P:Fin->Shared->Prop}{E:ZD}(r:s.heap.get? a∣seqObj "list" vs.toArray n)(y: ~~~vs<=100000)
 (f:∀j:Heap,(∀b o,b≠a->s.heap.get? b∣o->j.get? b∣o)->2<= ~~~vs->∀Q:SortKind->Shared->Prop,Q kd (s>>>j)->↥A (keyKind' vs.toArray) Q E (s>>>j))
 (H:∀j:Heap,(∀b o,b≠a->s.heap.get? b∣o->j.get? b∣o)->_SB.Cmp prog w A (λs'=>s'=(s>>>j)) kd λx=>x.1∈vs)
 (h:∀out:ZJ,out.toList.Perm vs->P (.done (.ret .none)) (s>>>sortedHeap s.heap a vs out)):
 ↥A (Builtin.«list.sort» %[[.ref a]|[]]) P E s:=by
 rw[list_sort_plain];let B:a<⇑s:=Zu r;let g: ~~~vs<=sizeLine:=Nat.le_trans y (!1);show Z2 (listItems_at r rfl ?_);show Z2 (listUpdate_at r rfl ?_ (g));obtain⟨z,l⟩:∃z,(s.heap.update a (Obj.mapSeq λ_=> #[])).get? a∣(seqObj "list" #[] z):=%[_|get?_update_seq r (λ_=> #[])]
 show Z2 (seqEpoch_at l rfl ?_);show Z2 (wpAny_newTuple ?_ (g));show Z2 (wpAny_newList ?_);show wpAny_holding ?_;let keep:∀b o,b≠a->s.heap.get? b∣o->(((s.heap.update a (Obj.mapSeq λ_=> #[])).push (seqObj "tuple" vs.toArray 0)).push (seqObj "list" #[] 0)).get? b∣o:=λb o I e=>
  Z7 _ (Z7 _ ((get?_update_other _ _ (Ne.symm I)).trans e))
 let d:(((s.heap.update a (Obj.mapSeq λ_=> #[])).push (seqObj "tuple" vs.toArray 0)).push (seqObj "list" #[] 0)).get? a∣(seqObj "list" #[] z):=by
  rw[Heap.get?_push_ne _ _ _ (by rw[size_push',Heap.size_update];exact Zs (Yo B)),Heap.get?_push_ne _ _ _ (by rw[Heap.size_update];exact Zs B)];exact l
 let f:=f _ keep;change ↥A _ P E {s with heap:=((s.heap.update a (Obj.mapSeq λ_=> #[])).push (seqObj "tuple" vs.toArray 0)).push (seqObj "list" #[] 0)};dsimp only;let J:vs.toArray.size= ~~~vs:=by simp
 let u:(vs.toArray.zip vs.toArray).toList=vs.map λv=>(v,v):=by
  rw[Array.toList_zip,List.toList_toArray];apply ext_getElem
  .simp
  .intro i O m;simp
 let p:∀c:SortSt,(arrOf c).toList.Perm (vs.map λv=>(v,v))->P (.done (.ret .none)) (s>>>(sortedHeap s.heap a vs ((arrOf c)\2))):=λc q=>h _ (by
  let:=q\2;rwa[Yt,show((λx:Keyed=>x.2) ∘ λv:Value=>(v,v))=id from rfl,List.map_id,<-Array.toList_map]at this)
 by_cases m:vs.toArray.size<2
 .rw[if_pos m,if_pos m];show Z2 (Z3 ?_);rw[StateT.run_pure];show Z2 (Z3 ?_);dsimp only;show Z2 (seqEpoch_at d rfl (Z2 (listUpdate_at d rfl ?_ (hsz2:=by rw[size_map];change(pairsOf vs).size<=_;rw[pairsOf_size,sizeLine_eq];omega))));simp only[bne_self_eq_false,Zz,if_false];exact Z3 (p _ (by rw[u]))
 .rw[if_neg m,if_neg m];show Z2 (f (by omega) _ ?_);show Z2 (wpAny_mono (_SB.sc_sortMany (D:=λx=>x.1∈vs) (st:=SortSt.mk' kd (vs.toArray.zip vs.toArray) #[] 7 none) (H _ keep) (λx C=>?_) ?_ rfl rfl
   (Q:=λ_ c=>(arrOf c).toList.Perm (vs.map λv=>(v,v))/\failedOf c=none) (λc L M=>%[?_|M]) _ rfl) ?_ λ_ _ e=>e.elim)
  .rw[u]at C;let%[v,N|rfl]:=Xq C;exact N
  .rw[<-Zb,u,Z6];omega
  .rwa[u]at L
  .rintro⟨⟨⟩,c⟩ s' ⟨rfl,q,G⟩;dsimp only at q G ⊢;show Z2 (seqEpoch_at d rfl (Z2 (listUpdate_at d rfl ?_ (hsz2:=?_))))
   .rw[G];simp only[bne_self_eq_false,Zz,if_false];exact Z3 (p c q)
   .rw[size_map,<-Zb,q.length_eq,Z6];exact Nat.le_succ_of_le g
nonrec abbrev Kp(s a:Shared):Prop:=∀b o,s.heap.get? b∣o->a.heap.get? b∣o
def rF{S:Addr}{G:ZF->Prop}{O:ZF->ZJ->Prop}{Q:ZD}{E:ZD}(d:∀(i:ZD) (R:ZF->Shared->Prop),(∀c us,G us->Kp s c->c.gens=s.gens->c.os=s.os->R us c)->↥A.in1 (collect (.ref S)) R i s)(j:∀us,G us-> ~~~us<=1000)
 (u:∀(f:Shared) (v:Around) (us:ZF) (a:Addr) (P:Fin->Shared->Prop) (i:ZD),G us->f.heap.get? a∣seqObj "list" us.toArray 0->(∀b o,s.heap.get? b∣o->f.heap.get? b∣o/\b≠a)->(∀out,O us out->P (.done (.ret .none)) (f>>>sortedHeap f.heap a us out))->↥v (Builtin.«list.sort» %[[.ref a]|[]]) P i f)
 (y:∀(c s':Shared) (l:Addr) (us:ZF) (out:ZJ) (n:Nat),G us->O us out->Kp s c->c.gens=s.gens->c.os=s.os->Kp c s'->s'.gens=c.gens->s'.os=c.os->⇑c<=l->s'.heap.get? l=some {cls:= .type "list",data:= .seq out n}->Q (.ref l) s'):
 ↥A (call (.builtin "sorted") [.ref S]) Q E s:=by
 show Calls.call_function_entry kind_sorted plain_sorted entry_sorted (args_sorted1 _) ?_;unfold Builtin.«sorted»;show Z2 (m:=checkCount "sorted" 1 1 _) (Z3 ?_);show Z2 (d _ _ λc us g k1 g1 z=>?_);show Z2 (wpAny_newList ?_ (by let:=j us g;rw[sizeLine_eq];lia));let p:(c.heap.push (seqObj "list" us.toArray 0)).get? ⇑c∣seqObj "list" us.toArray 0:=Zj _ rfl;show Z2 (wpAny_holding (wpAny_call_entry slot_list_sort %[_,p|rfl] entry_list_sort (u (c>>>c.heap.push (seqObj "list" us.toArray 0)) _ us _ _ _ g p (λb o e=>%[Z7 _ (k1 b o e)|Zs (Zu (k1 b o e))]) λout q=>%[_,rfl|?_]) (args_list_sort _)));obtain⟨n,B⟩:∃n,(sortedHeap (c.heap.push (seqObj "list" us.toArray 0)) ⇑c us out).get? ⇑c∣seqObj "list" out n:=sortedHeap_at p;show Z3 %[_,rfl|y c _ ⇑c us out n g q k1 g1 z (λb C r=>?_) rfl rfl (Zi _) B];let h:=Zu r;change(sortedHeap _ _ _ _).get? b=_;rw[sortedHeap_old (Zs h) (by rw[Zq];exact Yo h)];exact Z7 _ r
def vv{G:ZF->Prop}{kd:SortKind}(j:∀us,G us-> ~~~us<=1000)
 (l:∀us (c:Shared) (d:Around) (m:ZD) (Q:SortKind->Shared->Prop),G us->2<= ~~~us->Kp s c->Q kd c->↥d (keyKind' us.toArray) Q m c)
 (p:∀us x y (c:Shared) (d:Around) (Q:Bool->Shared->Prop),G us->x∈us->y∈us->Kp s c->(∀b,Q b c)->↥d (keyLt' kd x y) Q (λ_ _=>False) c)
 (f:Shared) (d:Around) (us:ZF) (a:Addr) (P:Fin->Shared->Prop) (m:ZD) (g:G us) (q:f.heap.get? a∣seqObj "list" us.toArray 0) (i:∀b o,s.heap.get? b∣o->f.heap.get? b∣o/\b≠a) (h:∀out:ZJ,out.toList.Perm us->P (.done (.ret .none)) (f>>>sortedHeap f.heap a us out)):↥d (Builtin.«list.sort» %[[.ref a]|[]]) P m f:=
 qg q (by let:=j us g;lia) (λr n u v z=>l us _ _ _ v g u (λb o e=>n b o (i b o e).2 (i b o e).1) z) (λr n x y s' B C e=>by
  subst e;exact p us _ _ _ _ _ g B C (λb o e=>n b o (i b o e).2 (i b o e).1) λ_=>rfl) h
end
abbrev aP(x y:Str):Bool:=decide (x.cps.toList<y.cps.toList)
def c8(x:Str):aP x x=false:=Zh (List.lt_irrefl _)
def Hw{x y:Str}(h:x.cps.toList=y.cps.toList):x=y:=by
 obtain⟨⟨l⟩⟩:=x
 simp_all
def dE{x y z:Str}(a:aP x y=true)(b:aP y z=true):aP x z=true:=Zf (List.lt_trans (Zo a) (Zo b))
def c9{x y:Str}(h:aP x y=false)(a:x≠y):aP y x=true:=by
 exact Zf (Classical.byContradiction λb=>a (Hw (List.le_antisymm b (of_decide_eq_false h))))
def rG:∀(p:Str) (l:ZB),risingS p l=true->(p::l).Pairwise (λa b=>aP b a=false)
 | p,[],_=>List.pairwise_singleton _ _
 | p,x::r,h=>by
   let h:(!ltCps x.cps.toList p.cps.toList&&risingS x r)=true:=h;rw[Zv,Bool.not_eq_true',ltCps_eq]at h;let d:=rG x r h.2;show pairwise_cons.mpr %[λy c=>?_|d];rcases mem_cons.mp c with rfl|c
   .exact h.1
   .exact Zh (List.not_lt.mpr (List.le_trans (List.not_lt.mp (of_decide_eq_false h.1)) (List.not_lt.mp (of_decide_eq_false (List.rel_of_pairwise_cons d c)))))
def Am:∀(l:ZB),sortedS l=true->l.Pairwise (λa b=>aP b a=false)
 |[],_=>List.Pairwise.nil
 | p::l,h=>rG p l h
section
variable{prog:Program}{w:World}{A:Around}{s:Shared}{E:ZD}
nonrec abbrev Hx(prog:Program)(w:World)(h:Heap)(zs:ZB)(r:Addr):Prop:=IsTupleKey (aI prog w) h (zs.map Sum.inr) r
def lI:∀{zs:ZB} {vs:ZF},ItemsAre (aI prog w) (zs.map Sum.inr) vs->StrsAre vs zs
 |[],_,h=>by cases h;exact .nil
 | z::zs,_,h=>by
   cases h with
   | cons a d=>
     let a:jA (Sum.inr z) _=true:=a;rcases be a with⟨i,t,b,c⟩|⟨y,t,b,c⟩
     .cases b
     .cases b;subst c;exact .cons z t (lI d)
inductive ko:ZF->ZF->Prop where
 | nl (us:ZF):ko [] us
 | nr (us:ZF):ko us []
 | st (x y:Str) (t u:Tok) {vs us:ZF}:ko vs us->ko (.str x t::vs) (.str y u::us)
 | it (x y:Int) (t u:Tok) {vs us:ZF}:ko vs us->ko (.int x t::vs) (.int y u::us)
def rH:∀{x y:ZB} {vs us:ZF},StrsAre vs x->StrsAre us y->ko vs us
 |[],_,_,_,.nil,_=> .nl _
 | _::_,[],_,_,_,.nil=> .nr _
 | _::_,_::_,_,_,.cons _ t h,.cons _ u k=> .st _ _ t u (rH h k)
def Jm{b a:Bool}{Q:Bool->Shared->Prop}(h:∀b,Q b s):∀{vs us:ZF} (i:Nat),ko vs us->PySem.W.KatLex prog w A b a Q (vs.zip us) i s:=by
 intro vs us i k
 induction k generalizing i with
 | nl=>exact h a
 | nr vs=>rw[List.zip_nil_right];exact h a
 | st x y t u k c=>
   show kat_cons (eqBool_str (kat_go (λ_=>kat_yes (c _)) λ_=>kat_no ?_));cases b&&i==0 with
   | true=>exact oneLt_str (h _)
   | false=>exact kat_one _ _ (lt_str (h _))
 | it x y t u k c=>
   show kat_cons (wpAny_eqBool_int (kat_go (λ_=>kat_yes (c _)) λ_=>kat_no ?_));cases b&&i==0 with
   | true=>exact oneLt_int (h _)
   | false=>exact kat_one _ _ (lt_int (h _))
end
def vw [DecidableEq d][DecidableEq i](g:d->i)(j:∀a b,g a=g b->a=b)(l:List (Addr×d)):bB (l.map λp=>(p.1,g p.2))=(bB l).map λp=>(p.1,g p.2):=by
 let m:∀(l ps:List _),(l.map λp=>(p.1,g p.2)).foldl gY (ps.map λp=>(p.1,g p.2))=(l.foldl gY ps).map λp=>(p.1,g p.2):=by
  intro l
  induction l with
  | nil=>intro ps;rfl
  | cons p l n=>
    intro ps;rw[Yr,Y7,Y7];let e:gY (ps.map λp=>(p.1,g p.2)) (p.1,g p.2)=(gY ps p).map λp=>(p.1,g p.2):=by
     unfold gY;let f:(g p.2∈(ps.map λp=>(p.1,g p.2))\2)↔p.2∈ps\2:=by
      rw[Yt]
      constructor
      .intro h;let%[q,c|e]:=Xq h;exact Xr %[q,c|j _ _ e]
      .intro h;let%[q,c|e]:=Xq h;exact Xr %[q,c|by change g q.2=g p.2;rw[e]]
     by_cases h:p.2∈ps\2
     .rw[if_pos h,if_pos (f.mpr h)]
     .rw[if_neg h,if_neg (λz=>h (f.mp z)),Zd];rfl
    rw[e];exact n _
 exact m l []
noncomputable abbrev Jn(p:Addr×ZB):Addr×List Key:=(p.1,p.2.map Sum.inr)
def tR:∀a b:ZB,a.map (Sum.inr:Str->Key)=b.map Sum.inr->a=b
 |[],[],_=>rfl
 |[],_::_,h=>by cases h
 | _::_,[],h=>by cases h
 | x::xs,y::ys,h=>by
   injection h with c d
   injection c with e
   rw[e,tR xs ys d]
section
#where
variable{S:Addr}
def oG:∀{vs:ZF} {zs:ZB},StrsAre vs zs->ItemsAre (aI prog w) (zs.map Sum.inr) vs
 | _,_,.nil=> .nil
 | _,_,.cons x t h=> .cons (dQ x t) (oG h)
def EX(b:zs≠[])(a:Hx prog w s.heap zs r)(h:Q false s):↥A (hashByValue 8 (.ref r)) Q E s:=by
 let c:=a.typeIs;let%[o,items,n,d,_,e|hi]:=a;show Z2 (wpAny_specialOf c F.slot_tuple_hash.lookup (Z2 (wpAny_seqItems d e (Z2 ?_))));rw[<-forIn_toList]
 match zs,items.toList,(lI hi),b with
 | z::zs,_,.cons _ t f,_=>
   exact Z2 (Z2 (Z3 (Z3 (Z3 (Z3 h)))))
def Cz{j m:Type}{f:j->m}{x y:List m}(h:x.Perm y):∀ps,y=ps.map f->∃ss:List j,ss.Perm ps/\x=ss.map f:=by
 induction h with
 | nil=>exact λps e=>%[[],!2|rfl]
 | cons a _ n=>
   intro ps e;cases ps with
   | nil=>cases e
   | cons p ps=>
     rw[Yr,List.cons.injEq]at e;let%[ss,c|d]:=n ps e.2;exact%[p::ss,c.cons p|by rw[e.1,d];rfl]
 | swap a b l=>
   intro ps e
   match ps,e with
   | p::q::ps,e=>
     rw[Yr,Yr,List.cons.injEq,List.cons.injEq]at e;exact%[q::p::ps,.swap p q ps|!2]
 | trans _ _ g i=>
   intro ps e;let%[ss,c|d]:=i ps e;let%[ts,o|r]:=g ss d;exact%[ts,o.trans c|r]
def mL{M:Type}{S:Addr}{ps:List (Addr×M)}{G:ZF->Prop}{T:String}{Q:ZD}(c:∀(N:ZD) (R:ZF->Shared->Prop),(∀a vs,vs.Perm (ps.map λp=>Value.ref p.1)->(∀b o,s.heap.get? b∣o->a.heap.get? b∣o)->a.gens=s.gens->a.os=s.os->R vs a)->↥A.in1 (collect (.ref S)) R N s)(z: ~~~ps<=1000)
 (tk:∀p∈ps,∃o its n,s.heap.get? p.1∣o/\o.cls= .type "tuple"/\o.data= .seq its n/\G its.toList) (g1:∀i,G i->∃f r,i=f::r/\typeOf f=pure (.type T)) (gT:(Value.type T != Value.type "tuple")=true) (g2:∀i j,G i->G j->ko i j)
 (hQ:∀(a s':Shared) (l:Addr) (ss:List (Addr×M)) (n:Nat),ss.Perm ps->(∀b o,s.heap.get? b∣o->a.heap.get? b∣o)->a.gens=s.gens->a.os=s.os->(∀b o,a.heap.get? b∣o->s'.heap.get? b∣o)->s'.gens=a.gens->s'.os=a.os->⇑a<=l->s'.heap.get? l=some {cls:= .type "list",data:= .seq (ss.map λp=>Value.ref p.1).toArray n}->Q (.ref l) s'):
 ↥A (call (.builtin "sorted") [.ref S]) Q E s:=by
 let U:∀us:ZF,us.Perm (ps.map λp=>Value.ref p.1)-> ~~~us<=1000:=λus h=>by rw[h.length_eq,Z6];exact z
 show rF (O:=λus out=>out.toList.Perm us) c U (vv (kd:=tuples' true) U (λus Y A1 N Q g h2 k q=>?_) λus x y Y A1 Q g hx hy k q=>?_) λa s' l us out n g o k1 a1 a2 k2 a3 a4 hl gl=>?_
 .let tups:∀l:ZF,(∀v∈l,v∈ps.map λp=>Value.ref p.1)->∃fs:ZF,KatTups Y.heap l fs/\ ~~~fs= ~~~l/\∀f∈fs,typeOf f=pure (.type T):=by
   intro l
   induction l with
   | nil=>exact λ_=>%[[],KatTups.nil,rfl|λf B=>nomatch B]
   | cons v l ih=>
     intro m;let%[fs,C,f2|H]:=ih λu d=>m u (Zk _ d)
     let%[p,I|rfl]:=Xq (m v Zm);let%[o,its,n,J,c',L|i']:=tk p I;let%[f,r,e|ft]:=g1 _ i';show%[f::fs,KatTups.cons (k _ _ J) c' L (by rw[<-getElem?_toList,e];rfl) C,congrArg Nat.succ f2|λu d=>?_];rcases mem_cons.mp d with rfl|d
     .exact ft
     .exact H u d
  let%[fs,C,f2|H]:=tups us λv m=>g.mem_iff.mp m
  exact PySem.W.kat_kind (T:= .type T) C ⋯ (λf B=>Looks.of_pure (H f B)) ∅ (gT▸q)
 .let%[p,I|rfl]:=Xq (g.mem_iff.mp hx);let%[r,hr|rfl]:=Xq (g.mem_iff.mp hy);let%[o,its,n,J,c',L|i']:=tk p I;let%[o2,its2,n2,g3,c3,d3|i3]:=tk r hr;exact PySem.W.kat_lt (k _ _ J) L (k _ _ g3) d3 (Jm q 0 (g2 _ _ i' i3))
 .let%[ss,h1|e]:=Cz (o.trans g) ps rfl;exact hQ a s' l ss n h1 k1 a1 a2 k2 a3 a4 hl (by rw[<-e];exact gl)
def jR(j:∀(u:ZD) (R:ZF->Shared->Prop),(∀f vs,vs.Perm (ps.map λp=>Value.ref p.1)->(∀b o,s.heap.get? b∣o->f.heap.get? b∣o)->f.gens=s.gens->f.os=s.os->R vs f)->↥A.in1 (collect (.ref S)) R u s)(tk:∀p∈ps,Hx prog w s.heap p.2 p.1)(v:∀p∈ps,~~~p.2=m)(y:m≠0)(q: ~~~ps<=1000)
 (B:∀(f s':Shared) (l:Addr) (ss:ZG) (n:Nat),ss.Perm ps->(∀b o,s.heap.get? b∣o->f.heap.get? b∣o)->f.gens=s.gens->f.os=s.os->(∀b o,f.heap.get? b∣o->s'.heap.get? b∣o)->s'.gens=f.gens->s'.os=f.os->⇑f<=l->s'.heap.get? l=some {cls:= .type "list",data:= .seq (ss.map λp=>Value.ref p.1).toArray n}->Q (.ref l) s'):
 ↥A (call (.builtin "sorted") [.ref S]) Q E s:=
 mL (G:=λvs=>∃zs:ZB,StrsAre vs zs/\zs≠[]) (T:="str") j q (λp r=>by
  let%[o,its,n,g,c,d|i]:=tk p r;exact%[o,its,n,g,c,d,p.2,lI i|λe=>y (by rw[<-v p r,e];rfl)]) (λ_ ⟨zs,h,n⟩=>by
  cases h with
  | nil=>exact absurd rfl n
  | cons z t h=>exact%[_,_,ρ|ρ]) (!1) (λ_ _ ⟨_,a,_⟩ ⟨_,b,_⟩=>rH a b) B
end
section
variable{X:Cx}{K:ZA}
abbrev oH(P:Program)(w:World)(a:Addr)(ps:ZG):HO:= .ext (tQ w (aI P w) a (ps.map Jn))
abbrev aM(H:Hp)(ps:ZG):Prop:=∀p∈ps,p.2≠[]/\H p.1&&&p.2\3
def nC(I:JQ X ff f H s)(h:aM H ps):∀p∈ps,Hx X.prog X.w s.heap p.2 p.1:=λp a=>by
 let%[_,its,b,o,c,d,n|e]:=I.hok p.1 _ (h p a).2;exact%[o,its.toArray,n,c,d,e|oG (gM b)]
def tT:∀{ps:ZG} {us:ZF},aD (ps\0) us->us=ps.map λp=>Value.ref p.1
 |[],_,.nil=>rfl
 | _::_,_,.cons r t=>by
   cases r;rw[tT t];rfl
def nD:∀(ps:ZG),aD (ps\0) (ps.map λp=>Value.ref p.1)
 |[]=> .nil
 | _::ps=> .cons rfl (nD ps)
def An(j:X.calm=true)(E:X.A.units+64<cLine):bZ X (.type "set") (λxs H Q=>∃p ps,xs=[.ref p]/\JP X.K H p (ps\0)/\aM H ps/\(∃U:List _,~~~U<=999/\∀q∈ps,q.2∈U)/\∀l,H l=none->Q (.ref l) (JO H l (oH X.prog X.w l (bB ps)))):=by
 intro ff s G H xs us Q I r h;let%[p,ps,rfl,m,g,%[U,J|d]|q]:=h;let%[u,rfl|n]:=cU r;cases n;let%[its,v,pl|L]:=I.list m;let w:=tT v;show qf (knd:=aI X.prog X.w) (I.ok.hd j) ⋯ pl.isList (ps:=ps.map Jn) (!2) (λi a=>?_) (U.map λz=>z.map Sum.inr) (!2) (λi a=>?_) (λi a B s' M N e f=>?_) λh' y S k=>?_
 .let%[b,c|rfl]:=Xq a;exact(nC I g) b c
 .let%[b,c|rfl]:=Xq a;exact Xr %[b.2,d b c|rfl]
 .let%[b,c|rfl]:=Xq a;exact EX (g b c).1 e f
 .rw[(vw _ tR ps)]at S;show%[.ref ⇑s,_,I.laid (o:=oH X.prog X.w ⇑s _) k (Zi _) %[S,?_|λO T A k1=>tQ.keep A k1],ρ|q _ I.fresh];let%[o,_,_,_,C|_]:=S;exact%[o|C]
def tU(v:X.calm=true):bZ X (.builtin "sorted") (λxs H Q=>∃a ps m,xs=[.ref a]/\H a∣oH X.prog X.w a ps/\aM H ps/\(∀p∈ps,~~~p.2=m)/\m≠0/\ ~~~ps<=1000/\
 ∀l (ss:List _),H l=none->ss.Perm ps->Q (.ref l) (JO H l (.lst (ss\0)))):=by
 intro ff s N H xs us Q I r h;let%[a,ps,m,rfl,w,y,z,A,c|q]:=h;let%[u,rfl|B]:=cU r;cases B;let%[%[o,d,O,t,C,e,E,J|P],_|_]:=(I.hok a _ w)
 let T:d.size= ~~~ps:=by
  let:=P.length_eq
  simp_all
 let pv:(d.toList\2).Perm (ps.map λp=>Value.ref p.1):=by
  let:=P\2;rw[Yt,Yt]at this;exact this
 show jR (λU R G=>kf (I.ok.hd v) C e E (by change d.size<4096;lia) J.fits J.plain J.led λi vs L k1 g1 f _=>G i vs (L.trans pv) k1 g1 f) (nC I y) z A c λi s' l ss n j k1 g1 f k g o b M=>?_
 let I:=I.keptS k1 g1 f;show%[.ref l,_,I.stoodS (o:= .lst _) (I.keptS k g o) b %[?_,ss.map _,n,nD ss|M],ρ|q l ss (I.hok.fresh b) j];rw[Z6,j.length_eq,sizeLine_eq]
 lia
def CA{P:Program}(h:X.K=K)(c:X.prog=P)(hw:X.w=w)(a:X.calm=true)(b:bM k X.A):cq X (.type "set") (λxs H Q=>∃p ps,xs=[.ref p]/\JP K H p (ps\0)/\aM H ps/\(∃U:List ZB,~~~U<=999/\∀q∈ps,q.2∈U)/\∀l,H l=none->Q (.ref l) (JO H l (oH P w l (bB ps)))):=by
 subst h;subst hw;exact⟨An a b.units⟩
def rJ{P:Program}(c:X.prog=P)(hw:X.w=w)(b:X.calm=true):cq X (.builtin "sorted") (λxs H Q=>∃a ps m,xs=[.ref a]/\H a∣oH P w a ps/\aM H ps/\(∀p∈ps,~~~p.2=m)/\m≠0/\ ~~~ps<=1000/\
 ∀(l:Addr) (ss:ZG),H l=none->ss.Perm ps->Q (.ref l) (JO H l (.lst (ss\0)))):=by
 subst hw;exact⟨tU b⟩
end
abbrev Ao(K:ZA)(a b:Addr):It:=⟨λi H=>∃xs ys x y,JP K H a xs/\JP K H b ys/\xs[i]?∣x/\ys[i]?∣y,
 λi H v c=>∃T x y,H T=none/\v= .ref T/\c=JO H T (.tup [x,y])/\(∀xs,JP K H a xs->xs[i]?∣x)/\(∀ys,JP K H b ys->ys[i]?∣y),
 λi H=>∃xs ys,JP K H a xs/\JP K H b ys/\i<= ~~~xs/\i<= ~~~ys/\(i= ~~~xs\/i= ~~~ys)⟩
def Ap{P:Program}{K:ZA}(z TI TO i1 i2 l1 l2:Addr)(D:ZipApart z TI TO i1 i2 l1 l2):
 pZ P w K (.Tuple elts kt tp) (Ao K l1 l2) [z,TI,TO,i1,i2] z (ZSt z TI TO i1 i2 (λi h=>h.IsListIter i1 l1 i) (λi h=>h.IsListIter i2 l2 i)) where
 mem:=by simp
 obj:=λi h st b hb=>by
  let%[hz,hTI,%[a,c|hTO],%[o1,e1,_|d1],o2,e2,_|d2]:=st
  grind
 keep:=λi h h' st k=>by
  let%[hz,hTI,%[a,c|hTO],%[o1,e1|r1],o2,e2|r2]:=st;exact%[k z ∅ _ hz,k TI ∅ _ hTI,%[a,c|k TO ∅ _ hTO],%[o1,k i1 ∅ _ e1|r1],o2,k i2 ∅ _ e2|r2]
 item:=by
  intro X hP hw hK hc i ff s σ H E I hf st hg;subst hP hw hK;let%[hz,hTI,%[a,c|hTO],h1|h2]:=st;let%[xs,ys,x,y,hq1,hq2,hx|hy]:=hg;let%[its1,rv1,pl1|hz1]:=I.list hq1;let%[its2,rv2,pl2|hz2]:=I.list hq2;let%[u1,hu1|ru1]:=rv1.get hx;let%[u2,hu2|ru2]:=rv2.get hy;show wpAny_pyNext_zip_item D hz hTI hTO h1 h2 pl1.isList pl2.isList (x:=u1) (y:=u2) ↑hu1 ↑hu2 λh' a1 a2 a3 a4 a5 a6 hk=>%[_,rfl|wpAny_letOwnedTupleGo_zip (s:=(s>>>h')) a1 λh'' hz'' sb=>?_]
  replace sb:SameBut z h' h'':=sb;let kk:∀b o,b∉[z,TI,TO,i1,i2]->s.heap.get? b∣o->h''.get? b∣o:=λb o hb e=>by
   simp only[Yy,X8,or_false,not_or]at hb;exact(sb.2 b hb.1).trans (hk b o hb.1 hb.2.2.1 hb.2.2.2.1 hb.2.2.2.2 e)
  let turn1:JQ X ff σ H (s>>>h''):=I.moved hf kk;let Hn:H ⇑s=none:=I.fresh;let I2:JQ X ff σ (JO H ⇑s (.tup [x,y])) (s>>>h''):=
   I.stood turn1 (Zi _) %[by change 2<=sizeLine;decide,[u1,u2],.cons ru1 (.cons ru2 .nil),_,((sb.2 _ (X2 (Zu hz))).trans a5),rfl,_|rfl]
  show%[.ref ⇑s,_,I2,ρ,%[_,x,y,Hn,ρ,ρ,λzs hzs=>(I.list_inj hzs hq1)▸hx|λzs hzs=>(I.list_inj hzs hq2)▸hy],%[hz'',(sb.2 _ D.TIz).trans (hk _ _ D.TIz D.TITO D.TIi1 D.TIi2 hTI),%[_,_|(sb.2 _ D.TOz).trans a2],?_|?_]|λb hb=>?_]
  .let%[o,e|r]:=a3;exact%[o,(sb.2 _ D.i1z).trans e|r]
  .let%[o,e|r]:=a4;exact%[o,(sb.2 _ D.i2z).trans e|r]
  .let:b<⇑s:=by
    simp only[Yy,X8,or_false]at hb;let%[o1,q1|_]:=h1;let%[o2,q2|_]:=h2;rcases hb with rfl|rfl|rfl|rfl|rfl
    .exact Zu hz
    .exact Zu hTI
    .exact Zu hTO
    .exact Zu q1
    .exact Zu q2
   rw[au (Zs this)];exact(hf b hb).1
 done:=by
  intro X hP hw hK hc i ff s σ H E I hf st hg;subst hP hw hK;let%[hz,hTI,%[a,c|hTO],h1|h2]:=st;let%[xs,ys,hq1,hq2,g1,g2|g3]:=hg;let%[its1,rv1,pl1|hz1]:=I.list hq1;let%[its2,rv2,pl2|hz2]:=I.list hq2;let n1:= ~~~rv1;let n2:= ~~~rv2;show wpAny_pyNext_zip_end (I.ok.hd hc) D hz hTI hTO h1 h2 pl1.isList pl2.isList (by
   rcases g3 with q|q
   .exact .inl (by simp;lia)
   .exact .inr (by simp;lia)) λh' hk=>%[rfl|?_]
  let kk:∀b o,b∉[z,TI,TO,i1,i2]->s.heap.get? b∣o->h'.get? b∣o:=λb o hb e=>by
   simp only[Yy,X8,or_false,not_or]at hb;exact hk b o hb.1 hb.2.2.1 hb.2.2.2.1 hb.2.2.2.2 e
  exact I.moved hf kk
 self:=λ_ _ _ _ _ st h=>wpAny_pyIter_zip st.1 h
abbrev FO(K:ZA)(d:TA):TI:=λe H R=>d e H λvs c=>∃a b,vs=[.ref a,.ref b]/\(∃xs,JP K c a xs)/\(∃ys,JP K c b ys)/\R (Ao K a b) c
section
variable{X:Cx}{K:ZA}{pos:Pos}
def Jo(J:X.K=K){L p:Pos}{a b:Expr}{A:TA}(M:Gl X "zip")(N:X.mg "zip"=none)(O:ba a=false)(m:ba b=false)(Q:QA X [a,b] A):
 QI X (.Tuple B kt L) (.Call (.Name "zip" p) [a,b] [] pos) (FO K A):=by
 subst J
 constructor
 intro ff s T H R I h;show Call_ (jJ I M N boot_zip (PyProof.Rows.callWith_type1 (thP (Q.h pos ff s T H _ I h) λus c vs U d Y q1=>?_) (az O) (by rw[az m];rfl)));let%[n,r,e,%[xs|u],%[ys|v]|q]:=q1;subst e;let%[u1,u2,rfl,e1|e2]:=iu Y;cases e1;cases e2;let%[C,aa,f|ab]:=d.list u;let%[its2,ac,g|ag]:=d.list v;show call_zip_2 f.isList g.isList λh1 E w y hi1 hi2 _ hk=>wpAny_pyIter_zip E ?_
 let ne:∀i j,i≠j->⇑c+i≠⇑c+j:=λi j h e=>h (Nat.add_left_cancel e)
 let na:∀i,n≠⇑c+i:=λi=>Zs (Zg (by let%[o,z|_]:=f.isList;exact Zu z) (le_add_right _ _))
 let nb:∀i,r≠⇑c+i:=λi=>Zs (Zg (by let%[o,z|_]:=g.isList;exact Zu z) (le_add_right _ _))
 show%[⇑c+4,[⇑c+4,⇑c+2,⇑c+3,⇑c+0,⇑c+1],_,Ao X.K n r,U,ρ,(d.kept hk),
  Ap _ _ _ _ _ n r %[ne 2 4 (!1),ne 3 4 (!1),ne 0 4 (!1),ne 1 4 (!1),ne 2 3 (!1),ne 2 0 (!1),ne 2 1 (!1),ne 3 0 (!1),ne 3 1 (!1),ne 0 1 (!1),na 4,na 3,na 0,na 1,nb 4,nb 3,nb 0|nb 1],
  %[E,w,%[_,_|y],hi1|hi2],λb G=>?_|q]
 let l:⇑c<=b:=by
  simp only[Yy,X8,or_false]at G;rcases G with rfl|rfl|rfl|rfl|rfl<;> exact le_add_right _ _
 exact d.fpOk l (d.hok.fresh l)
end
open PySem PySem.Spec PySem.Calls PyProof.Rows PyProof.V PySem.W
abbrev Raw(h:Heap)(d:Addr)(a:Array DictEntry)(b:Nat):Prop:=∃o,h.get? d∣o/\o.ExactDict/\o.data= .dict a b
section
#where
variable{d it:Addr}{es:Array DictEntry}{ep i:Nat}
def Raw.ty(h:Raw s.heap d es ep):s.TypeIs (.ref d) "dict":=%[h.choose,h.choose_spec.1|h.choose_spec.2.1.1]
def Raw.lt(r:Raw h d es ep):d<h.objs.size:=Zu r.choose_spec.1
def Raw.up(r:Raw h d es ep)(e:∀o,h.get? d∣o->h'.get? d∣o):Raw h' d es ep:=%[r.choose,e _ r.choose_spec.1|r.choose_spec.2]
def CB(lo:(d==sysModules)=false)(r:Raw s.heap d es ep)
 (h:Q (.ref ⇑s) {s with heap:=s.heap.push {cls:= .type "dict_keyiterator",data:= .fields #[.ref d,.int 0 0,.int es.size 0,.int ep 0]}}):↥A (pyIter (.ref d)) Q E s:=by
 let ty:=r.ty;let%[o,g,_|a]:=r;show wpAny_pyIter_slot ty F.slot_dict_iter (wpAny_call_entry F.slot_dict_iter ty F.entry_dict_iter (Z2 (Z2 (wpAny_notOrdered_dict ty (Z3 ?_)))) (F.args_dict_iter_1 _));change wpAny _ _ (Builtin.Dict.showsAll d>>= _) _ _ s;unfold Builtin.Dict.showsAll;rw[if_neg (lo▸Zt)];show Z2 (Z3 (Z2 (wpAny_dictEntries g a (Z2 (wpAny_dictEpoch g a (Z2 (wpAny_newObj_type (Z3 %[_,rfl,"dict_keyiterator",_,%[_,Zj _ rfl|rfl],F.slot_dict_keyiterator_next.lookup|?_]))))))));simpa [rawInt]using h
def CC(k:s.heap.IsKeyIter it d i es.size ep)(r:Raw s.heap d es ep)(hi:i<es.size)
 (h:∀h',h'.IsKeyIter it d (i+1) es.size ep->SameBut it s.heap h'->Q (some es[i].key) (s>>>h')):↥A (pyNext (.ref it)) Q E s:=by
 let%[o,b,f|a]:=id k;let%[od,c,_|e]:=r;unfold pyNext;show Z2 (wpAny_attempt (wpAny_callSpecial?_slot (name:=!"__next__") k.typeIs F.slot_dict_keyiterator_next (wpAny_call_entry F.slot_dict_keyiterator_next k.typeIs F.entry_dict_keyiterator_next ?_ (F.args_dict_keyiterator_next_1 _))));show Z2 (Z3 (Z2 (Z2 (Z2 (wpAny_typeNameOfWhole_keyiter k.typeIs (Z3 (Z2 (wpAny_fieldsOf b a ?_))))))));rw[show Builtin.Dict_items.ownsTuple "dict_keyiterator"=false by decide];change wpAny _ _ (if(Value.ref d==Value.none)=true then _ else _) _ _ s;rw[if_neg (by exact Zt)];show Z2 (Z3 (Z2 (wpAny_dictEntries c e ?_)));rw[if_neg ∅];show Z2 (Z3 (Z2 (wpAny_dictEpoch c e ?_)));rw[if_neg ∅];show Z3 ?_;simp only[if_false,Int.toNat_natCast,Array.getElem?_eq_getElem hi];show Z2 (Z2 (wpAny_typeNameOfWhole_keyiter k.typeIs (Z3 (Z2 (wpAny_isOneOf_keyiter k.typeIs ?_)))));change wpAny _ _ (setField (.ref it) 1 (rawInt ((i:Int) +1))>>= _) _ _ s;show Z2 (wpAny_setField b a ∅ ?_);let k2:(s.heap.update it (Obj.mapFields (·.setIfInBounds 1 (rawInt ((i:Int) +1))))).IsKeyIter it d (i+1) es.size ep:=
  %[_,get?_update_self _ b (Obj.isFreed_of_fields (Obj.data_mapFields a _)),(Obj.cls_mapFields ..).trans f|by rw[Obj.data_mapFields a];simp[rawInt]]
 exact Z2 (wpAny_holding (Z2 (wpAny_isOneOf_keyiter k2.typeIs (Z3 (Z3 %[_,rfl|Z3 (h _ k2 (SameBut.update ..))])))))
def EY(j:A.handled=none)(k:s.heap.IsKeyIter it d i es.size ep)(r:Raw s.heap d es ep)(hi:es.size<=i)
 (h:∀h',ExtBut it s.heap h'->Q none (s>>>h')):↥A (pyNext (.ref it)) Q E s:=by
 let%[o,c,l|e]:=id k;let%[od,f,_|g]:=r;unfold pyNext;show Z2 (wpAny_attempt (wpAny_callSpecial?_slot (name:=!"__next__") k.typeIs F.slot_dict_keyiterator_next (wpAny_call_entry F.slot_dict_keyiterator_next k.typeIs F.entry_dict_keyiterator_next ?_ (F.args_dict_keyiterator_next_1 _))));show Z2 (Z3 (Z2 (Z2 ?_)));show Z2 (wpAny_typeNameOfWhole_keyiter k.typeIs (Z3 (Z2 (wpAny_fieldsOf c e ?_))));rw[show Builtin.Dict_items.ownsTuple "dict_keyiterator"=false by decide];change wpAny _ _ (if(Value.ref d==Value.none)=true then _ else _) _ _ s;rw[if_neg (by exact Zt)];show Z2 (Z3 (Z2 (wpAny_dictEntries f g ?_)));rw[if_neg ∅];show Z2 (Z3 (Z2 (wpAny_dictEpoch f g ?_)));rw[if_neg ∅];show Z3 ?_;simp only[show ¬ ((i:Int)<0)from by lia,if_false,Int.toNat_natCast,Array.getElem?_eq_none hi];show Z2 (Z2 (wpAny_typeNameOfWhole_keyiter k.typeIs (Z3 ?_)));change wpAny _ _ (setField (.ref it) 0 .none>>= _) _ _ s;show Z2 (wpAny_setField c e ∅ (Z2 ?_));simp only[newExc,newTuple];show Z2 (m:=firstArgMember _ _) (wpAny_of_eq (a:=Value.none) (by first|rfl|(simp only[firstArgMember];rfl)) (wpAny_newObj_type ?_ (by size_fits)));simp only[raiseNew];show Z2 (wpAny_handled ?_);rw[show A.in1.handled=none from j];show Z2 (Z3 (wpAny_throw ?_));show Z2 (wpAny_isInstance (T:="StopIteration") (b:=true) %[_,Zj _ rfl|rfl] isSubtype_stop ?_);exact Z3 (h _ (((SameBut.update ..).extBut.push _).push _))
def EZ(lo:(d==sysModules)=false):KdlSrc prog w "dict" d d es.size (λi v=>∃h:i<es.size,v=es[i].key) (λh=>Raw h d es ep) where
 type:=λ_ r=>r.ty
 there:=λ_ r=>%[r.lt|r.lt]
 keep:=λ_ _ r hk=>r.up λo e=>hk d (.inl rfl) o e
 notList:=!1
 notTuple:=!1
 hint:=λ_ _ _ _ r hq=>kdl_hint_dict r.ty hq
 iter:=λA s hh r=>%[_,λi h=>h.IsKeyIter ⇑s d i es.size ep/\Raw h d es ep,(λ_ _ hq=>CB lo r hq),{
  sub:=λb hb=>!2
  frame:=λ_ _ _ st hk=>%[st.1.at λo e=>hk _ ∅ o e|st.2.up λo e=>hk d ∅ o e]
  item:=λi s' Q E hi st hQ=>CC st.1 st.2 hi λh' k' hs'=>hQ _ h' s'.toks %[hi|rfl] %[k'|st.2.up λo e=>hs'.extBut d o (Zs r.lt) e] λb o hb e=>hs'.extBut b o (λh=>hb (by simp[h])) e
  done:=λs' Q E st hQ=>EY hh st.1 st.2 (Zi _) λh' he'=>hQ h' s'.toks λb o hb e=>he' b o (λh=>hb (by simp[h])) e
  self:=λ_ _ _ _ st hQ=>wpAny_pyIter_keyiter st.1 hQ},%[_,Zj _ rfl,rfl|rfl]|r.up λo e=>Z7 _ e]
def vy{P:Nat->Value->Prop}{R:ZF->Shared->Prop}(K:KdlSrc prog w T r d n P m)(p:A.handled=none)(ok:m s.heap)(u:n<=sizeLine)
 (h:∀(h':Heap) (tk:Nat) (acc:ZJ),(∀b o,s.heap.get? b∣o->h'.get? b∣o)->⇑s<=h'.objs.size->ItemsOf P acc n->R acc.toList {s with heap:=h',toks:=tk}):↥A (collect (.ref r)) R E s:=by
 let lt:=K.there _ ok;show Z2 (wpAny_runValue (codeAny_builtin entry_proto_collect' (Z2 (wpAny_newObj_type (Z3 %[plainId_quiet F.plain_list_iadd _|codeAny_builtin entry_list_iadd' ?_])))));rw[Around.under_plainId F.plain_list_iadd _];let g:=kdl_extend (s:=(s>>>s.heap.push _))
  (R:=λq s'=>∃h' tk acc c,q= .ok (.ret (.ref ⇑s))/\s'={s with heap:=h',toks:=tk}/\(∀b o,s.heap.get? b∣o->h'.get? b∣o)/\h'.get? ⇑s=some {cls:= .type _,dict:=none,data:= .seq acc c,slots:= #[]}/\ItemsOf P acc n)
  K p (K.keep _ _ ok λb _ o e=>Z7 _ e) ⇑s (X2 lt.1) (X2 lt.2) _ 0 (Zj _ rfl)
  (λh' tk acc c j a it=>%[h',tk,acc,c,rfl,rfl,λb o e=>j b o (Zs (Zu e)) (Z7 _ e),a|it]) u
 show wpAny_mono g (λl s' x=>?_) λe s' x=>?_
 .cases l with
  | done f=>
    let%[h',tk,acc,c,e,rfl,j,a|it]:=x;cases e;exact Z2 (wpAny_load a (Z3 (h h' tk acc j (Ye (Zu a)) it)))
  | again v=>
    show%[x.1|codeAny_mono x.2 λq z y=>?_];let%[h',tk,acc,c,rfl,rfl,j,a|it]:=y;exact Z2 (wpAny_load a (Z3 (h h' tk acc j (Ye (Zu a)) it)))
 simp_all
def mM{R:ZF->Shared->Prop}(lo:(d==sysModules)=false)(f:A.handled=none)(r:Raw s.heap d es ep)(g:es.size<=sizeLine)
 (h:∀(h':Heap) (tk:Nat),(∀b o,s.heap.get? b∣o->h'.get? b∣o)->⇑s<=h'.objs.size->R (es.toList.map (·.key)) {s with heap:=h',toks:=tk}):↥A (collect (.ref d)) R E s:=by
 show vy (EZ lo) f r g λh' tk acc l c a=>?_
 let e:acc.toList=es.toList.map (·.key):=by
  apply ext_getElem?;intro j;rw[Zl,getElem?_toList,getElem?_toList];by_cases m:j<es.size
  .let n:j<acc.size:=a.1▸m;let%[_|q]:=a.2 j acc[j] ∅
   simp_all
  .rw[Array.getElem?_eq_none (by rw[a.1];lia),Array.getElem?_eq_none ⋯];rfl
 rw[e];exact h h' tk l c
variable{S:Addr}
end
section
variable{X:Cx}{K:ZA}
def tV(hc:X.calm=true):bZ X (.builtin "sorted") (λxs H Q=>∃a b ks m,xs=[.ref a]/\H a∣.dT b/\b\1=ks.map (λk:ZB=>k.map Sum.inr)/\(∀k∈ks,~~~k=m)/\m≠0/\ ~~~ks<=1000/\
 ∀(l:Addr) (ss:ZG),H l=none->aM H ss->(ss\2).Perm ks->Q (.ref l) (JO H l (.lst (ss\0)))):=by
 intro ff s T H xs us Q I r h;let%[a,b,ks,m,rfl,ha,c,U,Y,A|q]:=h;let%[u,rfl|ru]:=cU r;cases ru;let%[_,lo,xs,B,o,z,ep,g,ex,dt,he,_|_]:=FE I.hok ha;let C:∀{b:List (List Key×V)} {xs:List (List Key×Addr×Value)},KT H b xs->∀ks:List ZB,b\1=ks.map (λk:ZB=>k.map Sum.inr)->∃ps:ZG,ps\2=ks/\(xs.map λx=>Value.ref x.2.1)=(ps.map λp=>Value.ref p.1)/\∀p∈ps,H p.1&&&p.2\3:=by
  intro b xs B
  induction B with
  | nil=>
    intro ks c;cases ks with
    | nil=>exact%[[],ρ,ρ|λp d=>by cases d]
    | cons _ _=>cases c
  | @cons kv x b xs hx t ih=>
    intro ks c;cases ks with
    | nil=>cases c
    | cons k ks=>
      rw[Yr,Yr]at c;injection c with h1 h2
      let%[ps,j,E|G]:=ih ks h2;show%[(x.2.1,k)::ps,by rw[Yr,j],by rw[Yr,Yr,E]|λp d=>?_];rcases mem_cons.mp d with e|e
      .rw[e];let:=hx.2.1;rw[h1,Yt]at this;exact this
      .exact G p e
 let%[ps,j,E|G]:=C B ks c;let v:∀p∈ps,p.2∈ks:=λp d=>by rw[<-j];exact Xr %[p,d|rfl]
 let ta:aM H ps:=λp d=>%[λe=>Y (by rw[<-U _ (v p d),e];rfl)|G p d]
 let aa: ~~~ps<=1000:=by rw[<-Z6 (f:=(·.2)),j];exact A
 let L:Raw s.heap a z ep:=%[o,g,ex|dt]
 let w:z.toList.map (·.key)=ps.map λp=>Value.ref p.1:=by
  rw[he,Yt,<-E];rfl
 let M:z.size<=sizeLine:=by
  let: ~~~(z.toList.map (·.key))= ~~~(ps.map λp=>Value.ref p.1):=by rw[w]
  rw[Z6,Z6,Zb]at this;rw[sizeLine_eq];lia
 show jR (λE1 R hR=>mM lo (show X.A.in1.handled=none from I.ok.hd hc) L M λh' tk k ab=>?_) (nC I ta) (λp d=>U _ (v p d)) Y ⋯ λs1 s' l ss n N k1 g1 o1 k g o y gl=>?_
 .rw[w];exact hR _ _ (List.Perm.refl _) k rfl rfl
 .let O:JQ X ff T H s1:=I.keptS k1 g1 o1;let i:H l=none:=O.hok.fresh y;let J:JQ X ff T H s':=O.keptS k g o;show%[.ref l,_,O.stoodS (o:= .lst (ss\0)) J y %[?_,ss.map (λp=>Value.ref p.1),n,nD ss|gl],ρ|q l ss i (λp d=>ta p (N.mem_iff.mp d)) (by rw[<-j];exact N.map _)];rw[Z6,N.length_eq,sizeLine_eq]
  lia
def Aq(c:X.calm=true):cq X (.builtin "sorted") (λxs H Q=>∃a b ks m,xs=[.ref a]/\H a∣.dT b/\b\1=ks.map (λk:ZB=>k.map Sum.inr)/\(∀k∈ks,~~~k=m)/\m≠0/\ ~~~ks<=1000/\
 ∀(l:Addr) (ss:ZG),H l=none->aM H ss->(ss\2).Perm ks->Q (.ref l) (JO H l (.lst (ss\0)))):=⟨tV c⟩
def Hy:QE X (.Dict [] [] pos) xh:=⟨BC⟩
def gu(c:bM k X.A)(d:swapsWith a (some (.Subscript o i b)) pos.line X.env=pure false)(e:QE X a f)(g:QE X o h)(hi:QE X i ty):QS X (.Assign [.Subscript o i b] a pos) (qQ h ty f):=
 ⟨Er (by let:=c.units;lia) g.h hi.h e.h d⟩
def lJ [DecidableEq c](a:List (c×V))(k:c)(v:V):(cR a k v)\1=if k∈a\1 then a\1 else a\1 ++[k]:=by
 unfold cR;let e:(a.any λb=>decide (b.1=k))=true↔k∈a\1:=by
  grind
 by_cases h:k∈a\1
 .rw[if_pos (e.mpr h),if_pos h,Yt];show Yq λb _=>?_
  change(if b.1=k then(b.1,v)else b).1=b.1
  split<;> rfl
 .rw[if_neg (λz=>h (e.mp z)),if_neg h,Zd];rfl
end
structure vz (K:ZA) (mg:ZC) (x:Str):Prop where
 at_:mg x∣.ref (aL mg x)
 cls:Cls K (aL mg x)
structure vA (K:ZA) (mg:ZC) (x m qual:Str) (st:Stmt) (ps:ZB):Prop where
 ex:∃f fd,Ec K (aL mg x) m f/\Fun K m qual st f fd/\dH K fd ps []
structure CD (K:ZA) (mg:ZC) (x qual:Str) (st:Stmt) (ps:ZB):Prop where
 ex:∃f fd,Mk K (aL mg x) f/\Fun K "__init__" qual st f fd/\dH K fd ps []
structure Ar (P:Program) (w:World) (K:ZA) (mg:ZC) (base:Heap) (k:Nat) (x m:Str) (ps:ZB) (sp:Sp):Prop where
 ex:∃f fd,d9 P w K mg base CX0 k f fd ps sp/\Ec K (aL mg x) m f/\dH K fd ps []
structure E3 (P:Program) (w:World) (K:ZA) (mg:ZC) (base:Heap) (k:Nat) (x:Str) (ps:ZB) (sp:Sp):Prop where
 ex:∃f fd,d9 P w K mg base CX0 k f fd ps sp/\Mk K (aL mg x) f/\dH K fd ps []
section
variable{P:Program}{w:World}{K:ZA}{mg:ZC}{base:Heap}{x m qual:Str}{st:Stmt}{N ps:ZB}{k:Nat}{sp:Sp}
def vA.cal(D:vA K mg x m qual st ps)(S:ax N ps (ao st))
 (a:∀(H:Hp) (vs:List V) (Q:VK) (E:XK),sp vs H Q E-> ~~~vs= ~~~ps/\∀(f:Addr) (b:Value) (A:Around) (outer:List Env) (s:Shared),bM k (A.deeper (envOfC qual (ao st) ⇑s f b))->
  ∃t,PSs (eY CX0 P w K mg base N qual (ao st) f b A outer s H E).nox (bL st) t/\t {nx:=λ_ c=>Q .non c,rt:=Q} (start N vs) H):Ar P w K mg base (k+1) x m ps sp:=by
 let%[f,d,e,F|g]:=D.ex;exact%[f,d,F.ok S (λv H Q E h=>(a H v Q E h).1) (λb A o s H v Q E r h=>(a H v Q E h).2 f b A o s r),e|g]
def CD.cal(D:CD K mg x qual st ps)(S:ax N ps (ao st))
 (a:∀(H:Hp) (vs:List V) (Q:VK) (E:XK),sp vs H Q E-> ~~~vs= ~~~ps/\∀(f:Addr) (b:Value) (A:Around) (outer:List Env) (s:Shared),bM k (A.deeper (envOfC qual (ao st) ⇑s f b))->
  ∃t,PSs (eY CX0 P w K mg base N qual (ao st) f b A outer s H E).nox (bL st) t/\t {nx:=λ_ c=>Q .non c,rt:=Q} (start N vs) H):E3 P w K mg base (k+1) x ps sp:=by
 let%[f,d,e,F|g]:=D.ex;exact%[f,d,F.ok S (λv H Q E h=>(a H v Q E h).1) (λb A o s H v Q E r h=>(a H v Q E h).2 f b A o s r),e|g]
end
section
variable{X:Cx}{K:ZA}{j k:Nat}{x m:Str}{ps:ZB}{sp:Sp}{p pos apos:Pos}{o e:Expr}{es:List Expr}{to te:TE}{t:TA}
def Hz(C:Ar X.prog X.w X.K X.mg X.base j x m ps sp)(c:vz X.K X.mg x)(d:bM k X.A)(a:Nat.ble j k=true)
 (g:eval (.Call (.Attribute o m apos) [] [] pos) X.env=(do
  let b<-eval o X.env
  standAt apos.atName
  let(f,first)<-holding [b] (getMethod b m pl)
  callWith pos f first (backTo pos (starEach [] X.env)) (backToKw pos (keywordEach [] X.env)))) (h:QE X o to):QE X (.Call (.Attribute o m apos) [] [] pos) (yE (aL X.mg x) m sp [] E0 to mZ):=by
 let%[f,n,F,i|l]:=C.ex;exact⟨Bq h.h c.cls i F (d.mono (Yd a)) l .nil BE g⟩
def Jp(C:E3 X.prog X.w X.K X.mg X.base j x ps sp)(c:vz X.K X.mg x)(g:bM k X.A)(h:Gl X x)(a:Nat.ble (j+1) k=true)(b:(x==("__debug__"))=false)(d:(e::es).any ba=false)(i:QA X (e::es) t):
 QE X (.Call (.Name x p) (e::es) [] pos) (yF (aL X.mg x) sp [] E0 t):=by
 let%[f,q,F,l|n]:=C.ex;rw[Zw,X9]at d;exact⟨Ef l F (g.mono (Yd a)) h c.at_ n .nil BE i.h b (az d.1) (dI d.2)⟩
def HA(h:X.K=K)(a:gN o=false)(b:QE X o to):QE X (.Attribute o f pos) (Gr K to f):=by
 subst h;exact⟨Gw b.h (fG a)⟩
def E4(h:X.K=K)(c:fF a=false)(d:QE X o to)(g:QE X a i):QS X (.Assign [.Attribute o f b] a pos) (Gu K to i f):=by
 subst h;exact⟨Gx d.h g.h (iP c)⟩
end
structure GvT (K:ZA) (mg:ZC) (x:Str) (xs:List V):Prop where
 ex:∃a,mg x∣.ref a/\∀H,SqT K H a xs
def CF{K:ZA}{h:Heap}{o:Obj}{its:ZJ}{n:Nat}(X:K.In h)(G:h.Ns mainGlobals mg)(z:nsIn K mainGlobals x∣some (.ref a))
 (b:K.lookup a∣o) (c:o.cls= .type "tuple") (d:o.data= .seq its n) (e:its.size<=sizeLine) (r:aD xs its.toList):GvT K mg x xs:=
 %[a,mg_of X G z|λ_=> .inr %[o,its,n,b,c,d,e|r]]
def Jq{X:Cx}{K:ZA}{x:Str}(h:X.K=K)(g:GvT K X.mg x xs)(b:Gl X x)(c:(x==("__debug__":Str))=false):QE X (.Name x pos) (λ_ H Q=>∀a,(∀d,SqT K d a xs)->Q (.ref a) H):=by
 let%[a,e|f]:=g.ex;show⟨λff s i H Q I q=>FH (v:= .ref a) %[.ref a,e|rfl] b c ff s i H Q I (q a f)⟩
def tryN{X:Cx}(c:∀e s,X.xe e s->False)(d:QSs X a g):QS X (.Try a [h] [] [] pos) g:=by
 show⟨λff s i H D I q=>wpAny_Try_except (wpAny_mono (d.h ff s i H D I q) (λf b q=>?_) λe b q=>(c e b q).elim)⟩;cases f with
 | next=>exact wpAny_execs_nil q
 | brk=>exact q
 | cont=>exact q
 | ret u=>exact q
section
variable{X:Cx}{K:ZA}
#where
variable{S:Addr}
def iV{ks:ZB}{Q:ZD}(v:∀(m:ZD) (R:ZF->Shared->Prop),(∀f us c,StrsAre us c->c.Perm ks->(∀b o,s.heap.get? b∣o->f.heap.get? b∣o)->f.gens=s.gens->f.os=s.os->R us f)->↥A.in1 (collect (.ref S)) R m s)(H: ~~~ks<=1000)
 (Y:∀(f s':Shared) (l:Addr) (vs:ZF) (ss:ZB) (n:Nat),StrsAre vs ss->ss.Perm ks->(~~~ks<64->ss.Pairwise (λa b=>aP b a=false))->(∀b o,s.heap.get? b∣o->f.heap.get? b∣o)->f.gens=s.gens->f.os=s.os->(∀b o,f.heap.get? b∣o->s'.heap.get? b∣o)->s'.gens=f.gens->s'.os=f.os->⇑f<=l->s'.heap.get? l=some {cls:= .type "list",data:= .seq vs.toArray n}->Q (.ref l) s'):
 ↥A (call (.builtin "sorted") [.ref S]) Q E s:=by
 let L:∀us:ZF,(∃c,StrsAre us c/\c.Perm ks)-> ~~~us<=1000:=λus ⟨_,h,p⟩=>by rw[bT h,p.length_eq];exact H
 show rF (G:=λus=>∃c,StrsAre us c/\c.Perm ks) (O:=λus out=>∃ss,StrsAre out.toList ss/\ss.Perm ks/\(~~~ks<64->ss.Pairwise (λa b=>aP b a=false))) (λm R k=>v m R λf us c a b=>k f us %[c,a|b]) L (λs2 I us a P m g M kp h=>?_) λf s' l us out n g o k1 a1 a2 k2 a3 a4 hl gl=>?_
 .let%[c,d|C]:=g;let N:∀v1 i r,us=v1::i::r->keyKind' (v1::i::r).toArray=pure oneType':=λv1 i r e=>keyKind_strs (e▸d)
  let ll: ~~~us= ~~~ks:=by rw[bT d,C.length_eq]
  by_cases z: ~~~us<64
  .show list_sort_treeK strKind_oneLt M d.keysOf N z λaa hp hs=>?_
   let%[ss,B,j|J]:=sorted_out_str d hp hs;exact h _ %[ss,B,j.trans C|λ_=>Am ss J]
  .show vv (s:=s) (G:=λvs=>vs=us) (kd:=oneType') (λ_ e=>e▸L us %[_,d|C]) (λ_ s3 I m Q e j _ q=>?_) (λ_ x y s3 I Q e T U _ q=>?_) s2 I us a P m rfl M kp λout p=>?_
   .rw[e]at j ⊢;obtain⟨v1,i,r,e⟩:∃v1 i r,us=v1::i::r:=by
     match us,j with
     | v1::i::r,_=>exact%[v1,i,r|ρ]
    rw[e,N v1 i r e];exact Z3 q
   .rw[e]at T U;let%[a,t|rfl]:=d.all _ T;let%[b,u|rfl]:=d.all _ U;rw[keyLt'_oneType];exact oneLt_str (q _)
   .let%[ss,B|j]:=cg d p;exact h out %[ss,B,j.trans C|λl=>absurd (ll▸l) z]
 .let%[ss,B,j|J]:=o;exact Y f s' l out.toList ss n B j J k1 a1 a2 k2 a3 a4 hl (by rw[Array.toArray_toList];exact gl)
end
def kr:∀{ks:ZB} {us:ZF},aD (ks\3) us->StrsAre us ks
 |[],_,.nil=> .nil
 | _::_,_,.cons r t=>by
   let%[t'|rfl]:=r;exact .cons _ _ (kr t)
def eN:∀{ks:ZB} {us:ZF},StrsAre us ks->aD (ks\3) us
 | _,_,.nil=> .nil
 | _,_,.cons _ t h=> .cons %[t|rfl] (eN h)
section
variable{X:Cx}{K:ZA}
def jn(h:X.K=K):cq X (.builtin "sorted") (λxs H Q=>∃a ks,xs=[.ref a]/\JP K H a (ks\3)/\ ~~~ks<64/\∀l (ss:ZB),H l=none->ss.Perm ks->ss.Pairwise (λa b=>aP b a=false)->Q (.ref l) (JO H l (.lst (ss\3)))):=by
 subst h;show⟨λff s E H xs us Q I r h=>?_⟩;let%[a,ks,rfl,m,d|q]:=h;let%[u,rfl|p]:=cU r;cases p;let%[its,i,%[o,n,v,w,G|e]|J]:=I.list m;let L: ~~~its= ~~~ks:=by rw[<-i.length,Z6]
 show iV (ks:=ks) (λM R y=>wpAny_collect_seq a (.inl rfl) v w e (λh' k=>?_) (!2)) (by omega) λN s' l vs ss n z j A k1 g1 B k g o c C=>?_
 .exact y _ _ _ (kr i) (.refl _) k rfl rfl
 .let f:=I.keptS k1 g1 B;show%[.ref l,_,f.stoodS (o:= .lst _) (f.keptS k g o) c %[?_,vs,n,eN z|C],ρ|q l ss (f.hok.fresh c) j (A d)];rw[Z6,j.length_eq,sizeLine_eq];omega
def oJ{P:Program}{w:World}:∀{a:List DictEntry} {vs:List (Key×Value)} {ks:ZB},Pairs (aI P w) a vs->vs\1=ks.map Sum.inr->StrsAre (a.map (·.key)) ks
 | _,_,[],h,e=>by
   cases h with
   | nil=>exact .nil
   | cons _ _ _=>cases e
 | _,_,k::ks,h,e=>by
   cases h with
   | nil=>cases e
   | @cons m n b c d o f=>
     rw[Yr,Yr]at e;injection e with g j
     rcases be (d)with⟨i,t,q,_⟩|⟨x,t,q,l⟩
     .simp_all
     .rw[g]at q;cases q;rw[Yr,l];exact .cons _ _ (oJ f j)
def As(p:X.calm=true):cq X (.builtin "sorted") (λxs H Q=>∃(a:Addr) (c:List (Key×V)) (ks:ZB),xs=[.ref a]/\Rd H a (.dK c)/\c\1=ks.map Sum.inr/\ ~~~ks<64/\
 ∀l (ss:ZB),H l=none->ss.Perm ks->ss.Pairwise (λa b=>aP b a=false)->Q (.ref l) (JO H l (.lst (ss\3)))):=by
 show⟨λff s M H xs us Q I r h=>?_⟩;let%[a,c,ks,rfl,v,e,f|q]:=h;let%[u,rfl|w]:=cU r;cases w;let%[_,lo,vs,y,o,N,O,g,ex,z,_,A|_]:=qP I.hok v;let j:=oJ A (e▸y.keys.symm);let T:=by
  let:=bT j;rw[Z6,Zb]at this;omega
 show iV (ks:=ks) (λU R B=>mM lo (I.ok.hd p) %[o,g,ex|z] (by rw[sizeLine_eq];omega) λh' tk k C=>B _ _ _ j (.refl _) k rfl rfl) (by omega) λY s' l vs ss n E m G k1 g1 J k g o d L=>?_
 let i:=I.keptS k1 g1 J;show%[.ref l,_,i.stoodS (o:= .lst _) (i.keptS k g o) d %[?_,vs,n,eN E|L],ρ|q l ss (i.hok.fresh d) m (G f)];rw[Z6,m.length_eq,sizeLine_eq];omega
def jS{w:World}(h:X.w=w)(p:X.calm=true):cq X (.builtin "sorted") (λxs H Q=>∃a ks,xs=[.ref a]/\H a∣eL w a ks/\ ~~~ks<=1000/\∀l (ss:ZB),H l=none->ss.Perm ks->(~~~ks<64->ss.Pairwise (λa b=>aP b a=false))->Q (.ref l) (JO H l (.lst (ss\3)))):=by
 subst h;show⟨λff s E H xs us Q I r h=>?_⟩;let%[a,ks,rfl,v,e|q]:=h;let%[u,rfl|y]:=cU r;cases y;let%[S,_|_]:=(I.hok a _ v)
 show iV (ks:=ks) (λG R z=>mH (I.ok.hd p) S λm vs ss f d k1 g1 i A=>z m vs ss f d k1 g1 i) e λm s' l vs ss n f d B k1 g1 i k g o c C=>?_
 let j:=I.keptS k1 g1 i;show%[.ref l,_,j.stoodS (o:= .lst _) (j.keptS k g o) c %[?_,vs,n,eN f|C],ρ|q l ss (j.hok.fresh c) d B];rw[Z6,d.length_eq,sizeLine_eq];omega
def At(h:X.K=K):cq X (.builtin "sorted") (λxs H Q=>∃(a:Addr) (ps:ZG) (m:Nat),xs=[.ref a]/\JP K H a (ps\0)/\aM H ps/\(∀p∈ps,~~~p.2=m)/\m≠0/\ ~~~ps<=1000/\
 ∀(l:Addr) (ss:ZG),H l=none->ss.Perm ps->Q (.ref l) (JO H l (.lst (ss\0)))):=by
 subst h;show⟨λff s J H xs us Q I r h=>?_⟩;let%[a,ps,m,rfl,i,j,v,w,c|q]:=h;let%[u,rfl|y]:=cU r;cases y;let%[its,z,%[o,n,A,B,L|d]|M]:=I.list i;let:=tT z;subst this;show jR (λN R C=>wpAny_collect_seq a (.inl rfl) A B d (λh' k=>?_) (!2)) (nC I j) v w c λO s' l ss n f k1 g1 E k g o b G=>?_
 .exact C _ _ (List.Perm.refl _) k rfl rfl
 .let e:=I.keptS k1 g1 E;show%[.ref l,_,e.stoodS (o:= .lst _) (e.keptS k g o) b %[?_,ss.map _,n,nD ss|G],ρ|q l ss (e.hok.fresh b) f];rw[Z6,f.length_eq,sizeLine_eq];omega
def dinT{k:Nat}{i o:Expr}{ty a:TE}{pos:Pos}(b:bM k X.A)(c:behindInMarks .In o=false)(hi:QE X i ty)(d:QE X o a):QT X (.Compare i [.In] [o] pos) (tB (GL ty a)):=
 ⟨A4 (GM (by let:=b.units;omega) hi.h d.h) c⟩
end
def cH{X:Cx}{K:ZA}{a b:Expr}{c d:TE}{pos:Pos}(h:X.K=K)(e:nu b)(f:QE X a c)(g:QE X b d):QE X (.Subscript a b pos) (tOp (GC K) c d):=by subst h;exact⟨Bt GE f.h g.h e⟩
def xT(h:(env.blockKind== .function&&env.kindOf x==some .local&&b.line==pos.line&&!(a.names.any λ(n,k)=>n==x&&(k== .local||k== .cell)))=false):
 swapsWith (.ListComp c gens a pos) (some (.Name x b)) l env=pure false:=by
 change(pure (env.blockKind== .function&&env.kindOf x==some _&&b.line==pos.line&&!(a.names.any _)))=pure false;rw[h]
def CG{X:Cx}(i:Nat)(e:X.N.Nodup)(hi:X.N[i]?∣x)(f:Loc X.env.scope x)(g:X.fn x=true\/X.env.scope.names.lookup x∣.local)
 (b:(X.env.blockKind== .function&&X.env.kindOf x==some .local&&h.line==pos.line&&!(a.names.any λ(n,k)=>n==x&&(k== .local||k== .cell)))=false) (j:QE X (.ListComp c gens a pos) te):
 QS X (.Assign [.Name x h] (.ListComp c gens a pos) d) (pY te (jC i)):=⟨Bb e hi f j.h (xT b) g⟩
section
#where
end
section
variable(h:Heap)(l1 l2:Addr)
end
section
#where
variable{X:Cx}{K:ZA}{pos:Pos}
end
section
variable{X:Cx}{pos:Pos}
def oK(b:PassesOwn (model X.prog X.w) X.A X.env X.xe)(d:QT X c e)(f:QSs X a g):QS X (.While c a [] pos) (Bc e g):=⟨Bd b d.h f.h⟩
def cI(a:bM k X.A)(b:GK i)(c:QE X o d)(hi:QE X i ty):QE X (.Subscript o i pos) (Bz d ty):=⟨Ep (by let:=a.units;lia) c.h hi.h b⟩
#where
def E5{P:Nat->Value->Prop}(val:Nat->Str)(a:∀i v,P i v->∃t,v= .str (val i) t):CmpOf prog w A .Gt P (λi j=>decide ((val j).cps.toList<(val i).cps.toList)):=λi j b c s Q E hi d h=>by
 let%[t|rfl]:=a i b hi;let%[u|rfl]:=a j c d;exact richCompare_gives (typeIs_str s _ t) (typeIs_str s _ u) PySem.F.slot_str_gt PySem.F.entry_str_gt (PySem.F.args_str_gt_2 _ _) (gives_str_gt _ _ t u) (λx=>nomatch x) h
def yV{P:Nat->Value->Prop}(val:Nat->Str)(a:∀i v,P i v->∃t,v= .str (val i) t):CmpOf prog w A .Lt P (λi j=>decide ((val i).cps.toList<(val j).cps.toList)):=λi j b c s Q E hi d h=>by
 let%[t|rfl]:=a i b hi;let%[u|rfl]:=a j c d;exact richCompare_gives (typeIs_str s _ t) (typeIs_str s _ u) PySem.F.slot_str_lt PySem.F.entry_str_lt (PySem.F.args_str_lt_2 _ _) (gives_str_lt _ _ t u) (λx=>nomatch x) h
def CH{i:Nat}{v:Value}(h:(#[Value.str x t,Value.str y u]:ZJ)[i]?∣v):∃t,v= .str (if i=0 then x else y) t:=by
 match i,h with
 | 0,h=>exact%[t|by simpa using h.symm]
 | 1,h=>exact%[u|by simpa using h.symm]
 | i+2,h=>simp at h
def vB(a:Nat->Nat->Bool):argBest a 1=if a 1 0=true then 1 else 0:=by simp[argBest]
def tW{x y:Str}(l:A.handled=none)
 (h:∀h' tk,(∀c o,s.heap.get? c∣o->h'.get? c∣o)->Q (if x.cps.toList<y.cps.toList then .str y u else .str x t) {s with heap:=h',toks:=tk}):
 ↥A (call (.builtin "max") [.str x t,.str y u]) Q E s:=by
 let j:(s.heap.push {cls:= .type _,data:= .seq #[.str x t,.str y u]}).IsTuple ⇑s _:=%[_,Zj _ rfl,rfl,0|rfl]
 show call_max_two (wpAny_pyIter_tuple j ?_);let b:(s.heap.push {cls:= .type "tuple",data:= .seq #[.str x t,.str y u]}).objs.size=⇑s+1:=Zq ..;show%[_,[_,⇑s],[_],_,_,_,_,ρ,Walks.tuple (A:=A.in1) l _ ⇑s (b▸Zs (Yp _)) _,
  %[%[_,Zj _ rfl,ρ|ρ]|j.push _],λc d=>?_,by simp,E5 _ (λ_ _=>CH)|λv h' tk m n=>?_]
 .rw[Zq,b];rcases mem_cons.mp d with rfl|d
  .simp
  .rcases mem_cons.mp d with rfl|d
   .exact Yo (Yp _)
   .cases d
 .let f:=λc o e=>by
   show n c o (λi=>?_) (Z7 _ (Z7 _ e));rcases mem_cons.mp i with p|i
   .let:=Zu e;rw[p,b]at this;exact Xl _ (Nat.lt_of_succ_lt this)
   .cases i
  let q:=h h' tk f;let a:(#[Value.str x t,Value.str y u])[argBest _ 1]?∣v:=m;rw[vB]at a;by_cases g:x.cps.toList<y.cps.toList
  .rw[if_pos (by simp[g])]at a;rw[if_pos g]at q;exact(show Value.str y u=v by simpa using a)▸q
  .rw[if_neg (by simp[g])]at a;rw[if_neg g]at q;exact(show Value.str x t=v by simpa using a)▸q
def tX{x y:Str}(l:A.handled=none)
 (h:∀h' tk,(∀c o,s.heap.get? c∣o->h'.get? c∣o)->Q (if y.cps.toList<x.cps.toList then .str y u else .str x t) {s with heap:=h',toks:=tk}):
 ↥A (call (.builtin "min") [.str x t,.str y u]) Q E s:=by
 let j:(s.heap.push {cls:= .type _,data:= .seq #[.str x t,.str y u]}).IsTuple ⇑s _:=%[_,Zj _ rfl,rfl,0|rfl]
 show call_min_two (wpAny_pyIter_tuple j ?_);let b:(s.heap.push {cls:= .type "tuple",data:= .seq #[.str x t,.str y u]}).objs.size=⇑s+1:=Zq ..;show%[_,[_,⇑s],[_],_,_,_,_,ρ,Walks.tuple (A:=A.in1) l _ ⇑s (b▸Zs (Yp _)) _,
  %[%[_,Zj _ rfl,ρ|ρ]|j.push _],λc d=>?_,by simp,yV _ (λ_ _=>CH)|λv h' tk m n=>?_]
 .rw[Zq,b];rcases mem_cons.mp d with rfl|d
  .simp
  .rcases mem_cons.mp d with rfl|d
   .exact Yo (Yp _)
   .cases d
 .let f:=λc o e=>by
   show n c o (λi=>?_) (Z7 _ (Z7 _ e));rcases mem_cons.mp i with p|i
   .let:=Zu e;rw[p,b]at this;exact Xl _ (Nat.lt_of_succ_lt this)
   .cases i
  let q:=h h' tk f;let a:(#[Value.str x t,Value.str y u])[argBest _ 1]?∣v:=m;rw[vB]at a;by_cases g:y.cps.toList<x.cps.toList
  .rw[if_pos (by simp[g])]at a;rw[if_pos g]at q;exact(show Value.str y u=v by simpa using a)▸q
  .rw[if_neg (by simp[g])]at a;rw[if_neg g]at q;exact(show Value.str x t=v by simpa using a)▸q
def qh{l:Addr}{its:ZJ}{val:Nat->Str}{Q:ZD}(n:A.handled=none)(f:s.heap.IsList l its)(g:0<its.size)(a:∀(i:Nat) v,its[i]?∣v->∃t,v= .str (val i) t)
 (h:∀v h' tk,its[argBest (λi j=>decide ((val i).cps.toList<(val j).cps.toList)) (its.size-1)]?∣v->(∀b o,s.heap.get? b∣o->h'.get? b∣o)->Q v {s with heap:=h',toks:=tk}):
 ↥A (call (.builtin "min") [.ref l]) Q E s:=by
 let c:l<⇑s:=by let%[_,e|_]:=f;exact Zu e
 show call_min_walk (wpAny_pyIter_list f %[_,[⇑s,l],[⇑s],_,_,_,_,rfl,Walks.list (A:=A.in1) n _ l (Zs c) its,%[%[_,Zj _ rfl,rfl|rfl]|f.push _],λb d=>?_,g,yV val a|λv h' tk p q=>?_])
 .rw[Zq];rcases mem_cons.mp d with rfl|d
  .simp
  .rcases mem_cons.mp d with rfl|d
   .exact Yo c
   .cases d
 .show h v h' tk p λb o e=>q b o (λm=>?_) (Z7 _ e)
  rcases mem_cons.mp m with r|m
  .exact absurd (r▸Zu e) (Xl _)
  .cases m
def oM(val:Nat->Str):∀k,argBest (λi j=>decide ((val i).cps.toList<(val j).cps.toList)) k<=k/\∀j,j<=k->aP (val j) (val (argBest (λi j=>decide ((val i).cps.toList<(val j).cps.toList)) k))=false
 | 0=>%[Zi _|λj b=>by rw[le_zero.mp b];exact c8 _]
 | k+1=>by
   let%[g|d]:=oM val k;rw[argBest];by_cases c:aP (val (k+1)) (val (argBest (λi j=>decide ((val i).cps.toList<(val j).cps.toList)) k))=true
   .let a:=c;unfold aP at a;rw[if_pos a];show%[Zi _|λj b=>?_];by_cases e:j=k+1
    .exact e▸c8 _
    .cases f:aP _ _ with
     | false=>rfl
     | true=>have:=dE f c;rw[d j ⋯]at this;cases this
   .let a:=c;unfold aP at a;rw[if_neg a];show%[⋯|λj b=>?_];by_cases e:j=k+1
    .lia
    .exact d j ⋯
end
section
variable{X:Cx}
def Au(b:X.calm=true):bZ X (.builtin "max") (λxs H Q=>∃x y,xs=[.str x,.str y]/\Q (.str (if aP x y=true then y else x)) H):=by
 intro ff s c H xs us Q I r h;let%[x,y,rfl|q]:=h;let%[u,d,rfl,%[t|rfl],t'|rfl]:=iu r;show tW (I.ok.hd b) λh' tk k=>%[_,H,I.kept k,?_|q]
 by_cases a:x.cps.toList<y.cps.toList
 .rw[if_pos a,if_pos (show aP x y=true from Zf a)];exact%[_|ρ]
 .rw[if_neg a,if_neg (show ¬ aP x y=true from λe=>a (Zo e))];exact%[_|ρ]
def Av(b:X.calm=true):bZ X (.builtin "min") (λxs H Q=>∃x y,xs=[.str x,.str y]/\Q (.str (if aP y x=true then y else x)) H):=by
 intro ff s c H xs us Q I r h;let%[x,y,rfl|q]:=h;let%[u,d,rfl,%[t|rfl],t'|rfl]:=iu r;show tX (I.ok.hd b) λh' tk k=>%[_,H,I.kept k,?_|q]
 by_cases a:y.cps.toList<x.cps.toList
 .rw[if_pos a,if_pos (show aP y x=true from Zf a)];exact%[_|ρ]
 .rw[if_neg a,if_neg (show ¬ aP y x=true from λe=>a (Zo e))];exact%[_|ρ]
def Aw(z:X.calm=true):bZ X (.builtin "min") (λxs H Q=>∃(p:Addr) (ss:ZB),xs=[.ref p]/\JP X.K H p (ss\3)/\0< ~~~ss/\∀m∈ss,(∀y∈ss,aP y m=false)->Q (.str m) H):=by
 intro ff s M H xs us Q I r h;let%[p,ss,rfl,A,N|q]:=h;let%[u,rfl|f]:=cU r;cases f;let%[its,g,B|O]:=I.list A;let a:= ~~~g;rw[Z6]at a;let C:its.toArray.size= ~~~ss:=by rw[Zp,a]
 let c:∀i v,its.toArray[i]?∣v->∃t,v=Value.str (ss.getD i Str.empty) t:=λi v e=>by
  let e:=↑e
  let hi:i< ~~~ss:=a▸(Xn e).1;let%[u,l|f]:=g.get (by rw[Zl,Z4 hi];rfl);rw[e]at l;let%[t|d]:=f;exact%[t|by rw[Za l,d,Zc,Z4 hi];rfl]
 show qh (I.ok.hd z) B.isList ⋯ c λv h' tk n k=>?_
 let%[E|o]:=oM _ _;let%[t|d]:=c _ _ n
 generalize argBest _ _=b at E o n d
 let w:b< ~~~ss:=by lia
 let G:ss.getD b Str.empty=ss[b]:=by rw[Zc,Z4 w];rfl
 show%[.str _,H,I.kept k,%[t|d]|q _ (G▸Yc w) λy J=>?_];let%[j,L|rfl]:=List.getElem_of_mem J;let:=o j ⋯;rwa[show ss.getD j Str.empty=ss[j] by rw[Zc,Z4 L];rfl]at this
def HB(a:X.calm=true):cq X (.builtin "max") (λxs H Q=>∃x y,xs=[.str x,.str y]/\Q (.str (if aP x y=true then y else x)) H):=⟨Au a⟩
def CI(a:X.calm=true):cq X (.builtin "min") (λxs H Q=>∃x y,xs=[.str x,.str y]/\Q (.str (if aP y x=true then y else x)) H):=⟨Av a⟩
def HC{K:ZA}(h:X.K=K)(a:X.calm=true):cq X (.builtin "min") (λxs H Q=>∃(p:Addr) (ss:ZB),xs=[.ref p]/\JP K H p (ss\3)/\0< ~~~ss/\∀m∈ss,(∀y∈ss,aP y m=false)->Q (.str m) H):=by subst h;exact⟨Aw a⟩
#where
def Ax:typeLookup (.type "list") "keys"=pure none:=by rw[typeLookup_type,builtinLookup_eq_fast];kernel_rfl
def Ay(l:s.heap.get? a∣o)(m:o.cls= .type "list")(f:o.data= .seq xs k)(n:o.dict=none)(r:A.handled=none)
 (h:∀h' tk,(∀b p,s.heap.get? b∣p->h'.get? b∣p)->Q none {s with heap:=h',toks:=tk}):↥A (getAttr? (.ref a) "keys") Q E s:=by
 let%[c,u,v|y]:=o;simp only at m f n;subst m f n;let%[z,g,d,tk|os]:=s;let q:∀i,(%[z,g,d,i|os]:Shared).TypeIs (.ref a) "list":=λ_=>%[_,l|rfl]
 let C:=sub_AttributeError;let G:=PySem.F.slot_list_getattribute.lookup;let H:=PySem.F.slot_list_getattribute.bind (.ref a);let I:=am_list_getattr_none;unfold getAttr? getAttrBy? getAttrBy
 repeat (any_goals (first|assumption|exact q _|((with_reducible show wpAny _ _ (call (Value.builtin "list.__getattribute__") _ _) _ _ _);show call_meets PySem.F.slot_list_getattribute (q _) am_entry_list_getattribute (PySem.F.args_list_getattribute_2 _ _) (meets_getattribute_miss_list a xs k y "keys" _ Ax (!1) (!1)) ⟨l,r,λh' i e j=>?_⟩)|wp_step))
 let%[t',J|L]:=j.there;let B:=j.keeps;change wpAny _ _ (getattributeRaised _ _ _ _ _ _ _) _ _ _;unfold getattributeRaised
 repeat (any_goals (first|assumption|wp_step))
 exact h _ _ B
def rK:entryFor table "dict.update.loop"=some Builtin.«dict.update.loop»:=entryFor_of_tree (by kernel_rfl)
def jo:plainId "dict.update.loop"=true:=!0
variable{R:Result->Shared->Prop}{I:Addr}{fp:List Addr}{wr:List Addr}{G:Array GenState->Array GenState->Prop}{n:Nat}{P:Nat->Value->Prop}{St:Nat->Shared->Prop}
variable{K:ZA}
end
def E6{b:Type}{a:List (b×V)}{vs:List (b×Value)}(r:KV a vs):aD (a\2) (vs\2):=by
 induction r with
 | nil=>exact .nil
 | cons h _ c=>exact .cons h.2 c
section
variable{X:Cx}{K:ZA}
abbrev CJ:V->List V->Hp->VK->Prop:=λx vs H Q=>asR x λa=>∃k y,vs=[kV k,y]/\∃b,H a∣.dK b/\ ~~~b<sizeLine/\(∀v,cF b k∣v->Q v H)/\(cF b k=none->Q y (JO H a (.dK (cR b k y))))
def E7:MtM X "dict.setdefault" CJ:=by
 intro ff s J H x vs v us Q I p r h;let%[a,rfl,k,y,rfl,b,e,L,u|w]:=eG h;cases p;let%[M,A,rfl,B|l]:=iu r;let%[z,m,vs,c|n]:=mB I.hok e;show call_meetsIn PySem.F.slot_dict_setdefault n.typeIs PySem.F.entry_dict_setdefault (PySem.F.args_dict_setdefault_3 _ _ _) (kt_meets_setdefault _ a (mz B) m A) %[vs,n,~~~c▸z,λN hw=>?_|λO h' f C=>?_]
 .let q:=c.val k;cases d:cF b k with
  | none=>
    rw[fP.none_of (o:=valueAt vs k) (d▸q)]at hw;cases hw
  | some i=>
    let%[E,g|j]:=fP.some_of (d▸q);rw[g]at hw;exact(Za hw)▸%[i,H,I.tok _,j|u i d]
 .let d:cF b k=none:=by
   cases d:cF b k with
   | none=>rfl
   | some i=>
     let%[E,g|_]:=fP.some_of (d▸c.val k)
     grind
  exact%[y,_,j9 I (e▸True.intro) C (let⟨q,_,_,G,_⟩:=f;%[q|G]) (nQ (by let:=ef b k y;lia) m (c.put k l) f),l|w d]
def kz:MtQ X "dict.setdefault" CJ:=⟨E7⟩
abbrev vC(v a:Addr):HO:= .ext λh=>h.IsValuesView v a
abbrev CL:V->List V->Hp->VK->Prop:=λx vs H Q=>asR x λa=>vs=[]/\∃b,H a∣.dK b/\∀v,H v=none->Q (.ref v) (JO H v (vC v a))
def E8:MtM X "dict.values" CL:=by
 intro ff s w H x vs v us Q I i j h;let%[a,rfl,rfl,l,e|q]:=eG h;cases i;let c:=j.zero;subst c;let%[z,m,vs,n|f]:=mB I.hok e;show call_meetsIn PySem.F.slot_dict_values f.typeIs PySem.F.entry_dict_values (PySem.F.args_dict_values_1 _) (meets_dict_values _ a m) %[%[vs|f]|?_];let g:(s.heap.push {cls:= .type _,data:= .fields _}).IsValuesView ⇑s a:=%[_,Zj _ rfl,rfl|rfl]
 show%[.ref ⇑s,_,I.laid (o:=vC ⇑s a) (λb u e=>Z7 _ e) (Zi _) %[g,?_|λy A p k1=>?_],ρ|q _ I.fresh]
 .let%[o,d|_]:=g;exact%[o|d]
 .let%[o,d|r]:=p;exact%[o,k1 _ d|r]
def CM:MtQ X "dict.values" CL:=⟨E8⟩
def xU(j:X.calm=true):bZ X (.type "list") (λxs H Q=>∃(v a:Addr) (b:List (Key×V)),xs=[.ref v]/\H v∣vC v a/\H a∣.dK b/\∀l,H l=none->Q (.ref l) (JO H l (.lst (b\2)))):=by
 intro ff s N H xs us Q I r h;let%[v,a,b,rfl,m,n|q]:=h;let%[u,rfl|p]:=cU r;cases p;let%[z,O,vs,f|w]:=mB I.hok n;let g:=(I.hok _ _ m).1;let%[o,y,A,B|C]:=w;let E:s.heap.DictAt _ a vs A:=%[o,y,B|C]
 let G:= ~~~f;show PySem.W.kdl_call (PySem.W.kdl_values) (I.ok.hd j) %[g|E] ⋯ λh' tk acc c keep J d=>?_
 let T: ~~~acc.toList= ~~~b:=by rw[Zb,d.1,G]
 show%[.ref ⇑s,_,I.laid keep (Zi _) ?_,ρ|q _ I.fresh];let e:acc.toList=vs\2:=by
  show ext_getElem (!2) λi L U=>?_
  let%[k|M]:=d.2 i _ (Array.getElem?_eq_getElem L);let%[Y|e3]:=Xn M
  simp_all
 exact%[by rw[Z6];exact z,acc.toList,c,e▸E6 f|J]
def E9(c:X.calm=true):cq X (.type "list") (λxs H Q=>∃(v a:Addr) (b:List (Key×V)),xs=[.ref v]/\H v∣vC v a/\H a∣.dK b/\∀l,H l=none->Q (.ref l) (JO H l (.lst (b\2)))):=⟨xU c⟩
end
def vD:∀{ss:ZB},z∈ss->∃j,ss[j]?∣z/\(∀m,m<j->∀y,ss[m]?∣y->y≠z)/\(z::ss.eraseIdx j).Perm ss
 | x::ss,h=>by
   by_cases e:x=z
   .exact%[0,by simp[e],λm b=>absurd b ⋯|by simp[e]]
   .let%[j,c,d|f]:=vD ((mem_cons.mp h).resolve_left λq=>e q.symm);show%[j+1,c,λm b y a=>?_|?_]
    .cases m with
     | zero=>simp at a;exact a▸e
     | succ m=>exact d m ⋯ y (a)
    .exact(List.Perm.swap _ _ _).trans (f.cons _)
section
variable{X:Cx}{K:ZA}
abbrev HD:V->List V->Hp->VK->Prop:=λx vs H Q=>asR x λa=>∃k y,vs=[kV k,y]/\∃b,H a∣.dK b/\Q ((cF b k).getD y) H
def HE:MtM X "dict.get" HD:=by
 intro ff s n H x vs v us Q I f g h;let%[a,rfl,k,y,rfl,b,e|q]:=eG h;cases f;let%[o,i,rfl,j|l]:=iu g;let%[z,m,vs,c|d]:=mB I.hok e;exact call_meetsIn slot_dict_get d.typeIs PySem.F.entry_dict_get (PySem.F.args_dict_get_3 _ _ _) (meets_dict_get_default _ a (mz j) m i) %[_,d.mapOf,(cF b k).getD y,H,I.tok _,(c.val k).getD l|q]
def CO:MtQ X "dict.get" HD:=⟨HE⟩
abbrev isZ(z:Str):Value->Bool
 | .str x _=>x==z
 | _=>false
def rL(t:Tok)(r:aD (ss\3) its)(h: ~~~ss= ~~~its)(l:z∈ss):∃(j:Nat) (e:j<its.toArray.size),ss[j]?∣z/\(z::ss.eraseIdx j).Perm ss/\(∀y,y∈its.toArray->MeetsSeq.EqGives y (.str z t) (isZ z y))/\isZ z its.toArray[j]=true/\∀m (a:m<its.toArray.size),m<j->isZ z its.toArray[m]=false:=by
 let%[j,f,n|o]:=vD l;let b:∀m y,its[m]?∣y->∃x t,y=Value.str x t/\ss[m]?∣x:=λm y c=>by
  let a:m< ~~~ss:=h▸(Xn c).1;let%[u,i|p]:=r.get (by rw[Zl,Z4 a];rfl);rw[c]at i;let%[t|q]:=p;exact%[_,t,(Za i).trans q|Z4 a]
 let e:j< ~~~its:=h▸(Xn f).1;show%[j,e,f,o,λy c=>?_,?_|λm a g=>?_]
 .let%[m|a]:=Xh ↑c;let%[x,t',rfl|_]:=b m y a;exact eqGives_str x z t' t
 .let%[x,t',ex|d]:=b j _ (Z4 e);rw[f]at d;change isZ z its[j]=true;rw[ex,<-Za d];exact beq_self_eq_true z
 .let%[x,t',ex|d]:=b m _ (Z4 a);change isZ z its[m]=false;rw[ex];exact beq_eq_false_iff_ne.mpr (n m g x d)
abbrev tY:V->List V->Hp->VK->Prop:=λx vs H Q=>asR x λl=>∃z,vs=[.str z]/\∃ss:ZB,H l<*ss\3/\z∈ss/\∀a,(z::a).Perm ss->Q .non (JO H l (.lst (a\3)))
def Az:MtM X "list.remove" tY:=by
 intro ff s A H x vs v us Q I c d h;let%[l,rfl,z,rfl,ss,a,f|q]:=eG h;cases c;let%[u,rfl|g]:=d.one;let%[t|rfl]:=g;let%[i,its,n,r,b|e]:=I.lstM a;rw[Z6]at b i;let%[j,m,_,o,p,w|y]:=rL t r b f;show call_meets F.slot_list_remove %[_,e|rfl] F.entry_list_remove (F.args_list_remove_2 _ _) (MeetsSeq.list_remove l its.toArray n _ _ p j m w y (!2)) %[e,.non,_,I.lset (its':=its.eraseIdx j) a e ?_ ?_ ?_,rfl|q _ o]
 .simp
 .rw[List.eraseIdx_eq_take_drop_succ,Zd,map_take,map_drop,<-List.eraseIdx_eq_take_drop_succ];exact r.eraseIdx j
 .let:=qL ss j;rw[Z6]
  lia
abbrev xV:V->List V->Hp->VK->Prop:=λx vs H Q=>asR x λl=>∃z,vs=[.str z]/\∃ss:ZB,H l<*ss\3/\z∈ss/\∀j:Nat,ss[j]?∣z->Q (.int j) H
def CP:MtM X "list.index" xV:=by
 intro ff s B H x vs v us Q I d f h;let%[l,rfl,z,rfl,ss,g,i|q]:=eG h;cases d;let%[u,rfl|m]:=f.one;let%[t|rfl]:=m;let%[b,its,n,r,a|e]:=I.lstM g;rw[Z6]at a b;let%[j,c,o,_,p,w|y]:=rL t r a i;let A:=c;rw[Zp,<-a]at A;rw[sizeLine_eq]at b;exact call_meets F.slot_list_index %[_,e|rfl] F.entry_list_index (F.args_list_index_2 _ _) (MeetsSeq.list_index l its.toArray n (.str z t) (isZ z) p j c ⋯ w y) %[e,.int j,H,I.tok _,%[_|rfl]|q j o]
def tZ:MtQ X "list.index" xV:=⟨CP⟩
def CQ:MtQ X "list.remove" tY:=⟨Az⟩
end
def AA:typeLookup (.type "list_reverseiterator") "__len__"=pure none:=by kernel_rfl
def CS:typeLookup (.type "list_reverseiterator") "__length_hint__"=pure (some (.builtin "list_reverseiterator.__length_hint__")):=by kernel_rfl
section
#where
def qj(hh:A.handled=none)(N:s.heap.IsRevIter I l ((items.size:Int) -1))(O:s.heap.IsList l items)(ne:l≠I)(hz:items.size<=sizeLine)
 (hQ:∀s' acc c,(∀b o,b≠I->s.heap.get? b∣o->s'.heap.get? b∣o)->s'.gens=s.gens->s'.os=s.os->s'.heap.get? ⇑s=some {cls:= .type "list",data:= .seq acc c}->acc.toList=items.toList.reverse->Q (.ref ⇑s) s'):
 ↥A (call (.type "list") [.ref I]) Q E s:=by
 let u:I<⇑s:=let⟨_,h,_⟩:=N;Zu h;let v:l<⇑s:=let⟨_,h,_⟩:=O;Zu h
 generalize n:s.heap.push {cls:=Value.type "list",data:=Data.seq #[]}=G
 let gz:G.objs.size=⇑s+1:=by rw[<-n,Zq]
 let y:∀b o,s.heap.get? b∣o->G.get? b∣o:=λb o e=>by rw[<-n];exact Z7 _ e
 let p:G.get? ⇑s=some {cls:=Value.type "list",data:=Data.seq #[]}:=by rw[<-n];exact Zj _ rfl
 show callType_codes (Q₁:=λobj f=>obj= .ref ⇑s/\f=(s>>>G)) F.called_list (F.typeCall_list_1 (Value.ref I)) F.entry_list_init (code_list_new (Value.ref I) %[rfl|by rw[n]]) λobj f i=>?_
 let%[rfl|rfl]:=i;show%[%[_,p|ρ],F.args_list_init_2 _ _|?_];change ↥A.in1.in1 (Builtin.«list.__init__» %[[.ref ⇑s,.ref I]|[]]) _ _ _;unfold Builtin.«list.__init__»;show Z2 ?_;show listItems_at (s:=(s>>>G)) p rfl ?_;show Z2 (listUpdate_at (s:=(s>>>G)) p rfl ?_ (Xg _));let U:=get?_update_self (Obj.mapSeq λ_=> #[]) p rfl;let d:∀b o,b≠⇑s->G.get? b∣o->(G.update ⇑s (Obj.mapSeq λ_=> #[])).get? b∣o:=λb o z e=>(get?_update_other _ _ (Ne.symm z)).trans e
 show Z2 (wpAny_letGo ?_)
 generalize G.update ⇑s (Obj.mapSeq λ_=> #[])=g at U d
 let B:I≠⇑s:=Zs u;let nl:l≠⇑s:=Zs v;let j:g.IsRevIter I l ((items.size:Int) -1):=N.at λo e=>d _ _ B (y _ _ e)
 let C:g.IsList l items:=let⟨o,h,r⟩:=O;%[o,d _ _ nl (y _ _ h)|r];let W:=Walks.listRev (prog:=prog) (w:=w) (A:=A.in1.in1) hh I l ne items;let m:(0<=items.size/\g.IsRevIter I l (↑(items).size-1-((0:Nat):Int))/\g.IsList l items):=%[Xg _,↑j|C]
 change ↥A.in1.in1 (Builtin.List.listExtendWith (.ref ⇑s) (.ref I) .none) _ _ (s>>>g);unfold Builtin.List.listExtendWith;let q:Shared.TypeIs (s>>>g) (.ref I) "list_reverseiterator":=j.typeIs;show Z2 (wpAny_typeOf (T:="list_reverseiterator") q ?_);let n1:Builtin.List.listSameRef (.ref ⇑s) (.ref I)=false:=beq_eq_false_iff_ne.mpr (Ne.symm B);let n2:(Value.type "list_reverseiterator"==Value.type "list")=false:=!1
 let n3:(Value.type "list_reverseiterator"==Value.type "tuple")=false:=!1
 simp only[n1,n2,n3,Bool.or_false,Zz,if_false];show Z2 (W.self 0 (s>>>g) _ _ m ?_);show Z2 (wpAny_holding ?_);unfold Builtin.List.listLengthHint;show Z2 (wpAny_specialOf (T:="list_reverseiterator") q AA ?_);change wpAny _ _ (specialOf (.ref I) (!"__length_hint__")>>= _) _ _ _;show Z2 (wpAny_specialOf q CS ?_)
 wp_delta
 show Z2 (wpAny_isInstance (T:="list_reverseiterator") (b:=true) q (by rw[isSubtype_type];kernel_rfl) ?_);simp only[Bool.not_true,Zz,if_false];rw[if_pos (!0)];rw[if_neg (!1)];show Z3 ?_;rw[if_neg (!0)];let H:⇑s∉[I,l]:=by
  simp only[Yy,X8,or_false,not_or];exact%[Ne.symm B|Ne.symm nl]
 show Z3 %[plainId_quiet F.plain_extend_loop _|codeAny_extend_loopS W.toS hz _ H _ items.size 0 _ _ _ rfl (Xg _) m U (ItemsOf.nil _) λs5 acc c5 J L a=>?_];show%[ρ|hQ s5 acc c5 (λb o z e=>?_) J.gens J.os L ?_]
 .let nb:b≠⇑s:=Zs (Zu e);show J.heap b o ?_ (d _ _ nb (y _ _ e));simp only[Yy,X8,or_false,not_or];exact%[nb|z]
 .apply ext_getElem?;intro k;let al: ~~~acc.toList=items.size:=Zb▸a.1;by_cases Y:k<items.size
  .let M:k<acc.size:=a.1▸Y;let:=a.2 k acc[k] ∅;rw[List.getElem?_reverse (Y),Zb,getElem?_toList,getElem?_toList,this];simp[M]
  .rw[Xm ⋯,Xm (by simp;lia)]
end
abbrev HF(n:Nat)(a l:Addr)(m:Nat):HO:= .ext λh=>n<=a/\h.IsRevIter a l (m-1)
def AB{X:Cx}:bZ X (.type "reversed") (λxs H Q=>∃(l:Addr) (ys:List V),xs=[.ref l]/\JP X.K H l ys/\∀r,H r=none->Q (.ref r) (JO H r (HF X.s₀.heap.objs.size r l ys.length))):=by
 intro ff s a H xs us Q I r h;let%[l,ys,rfl,c|q]:=h;let%[u,rfl|d]:=cU r;cases d;let%[its,f,pl|j]:=I.list c;show call_reversed_list pl.isList ?_;let g:=I.hok.fresh (Zi _);let J:JQ X ff a H (s>>>(s.heap.push (revObj l (its.toArray.size-1)))):=I.keptS (λb o e=>Z7 _ e) rfl rfl;show%[.ref ⇑s,_,I.stoodS (o:=HF X.s₀.heap.objs.size ⇑s l ys.length) J (Zi _) %[%[I.sz|?_],%[_|Zj _ rfl]|λ_ _ ⟨i,x⟩ k=>%[i|x.at λo e=>k o e]],ρ|q _ g];rw[~~~f,<-Zp];exact%[_,Zj _ rfl,ρ|ρ]
def JQ.dropped{X:Cx}(I:JQ X ff j H s)(l:H a∣.ext i)(m:X.s₀.heap.objs.size<=a)(f:∀b o,b≠a->s.heap.get? b∣o->s'.heap.get? b∣o)(r:s'.gens=s.gens)(v:s'.os=s.os):JQ X ff j (drop H a) s':=by
 let ne:∀{b:Addr} {o:HO},H b∣o->(∀i,o≠ .ext i)->b≠a:=λe n z=>by
  grind
 let un:Un (frs X.stack) [a] H (drop H a) s.heap s'.heap:=by
  show%[λb o e _ _ d=>f b o ↑d e,λb o e _ _ d=>%[o.slots|f b o ↑d e],λb o _ n _=>?_,λb o e d=>%[o|f b o ↑d e],λb xs e=>?_,λb o u e=>?_|λb ps e=>%[#[]|?_]]
  .unfold drop;split
   .rfl
   .exact n
  .rw[bQ (ne e ∅)];exact e
  .rw[bQ (ne e ∅)];exact e
  .rw[bQ (ne e ∅)];simpa using e
 let g:HOk X.prog X.w (drop H a) s'.heap:=λb o e=>by
  let nb:b≠a:=λz=>by rw[z,gh]at e;cases e
  rw[bQ nb]at e;show(I.hok b o e).stay (λc u h q=>f c u ?_ q) (λc q=>?_) λc xs q=>?_
  .rcases h with rfl|h
   .exact nb
   .exact ne h ∅
  .rw[bQ (ne q ∅)];exact q
  .rw[bQ (ne q ∅)];exact q
 exact I.call' v un g (by rw[r];exact I.bare) λb w=>by
  obtain rfl:b=a:=↑w
  show%[.inr m,λz=>?_,λx c e z=>?_|λp y z=>?_]
  .let:=I.free;grind
  .let:=I.freeC x c e;grind
  .let:=(I.pin p y).2.1;rw[z,l]at this;cases this
def vE{X:Cx}(y:X.calm=true):bZ X (.type "list") (λxs H Q=>∃(r l:Addr) (ys:List V),xs=[.ref r]/\H l<*ys/\H r∣HF X.s₀.heap.objs.size r l ys.length/\∀p,drop H r p=none->p≠r->Q (.ref p) (JO (drop H r) p (.lst ys.reverse))):=by
 intro ff s L H xs us Q I r h;let%[a,l,ys,rfl,g,f|q]:=h;let%[u,rfl|A]:=cU r;cases A;let%[z,its,n,B,m|e]:=I.lstM g;let%[%[v|b]|_]:=I.hok a _ f;let i:l≠a:=λz=>by rw[z,f]at g;cases g
 let sz:its.toArray.size= ~~~ys:=!2
 show qj (I.ok.hd y) (by rw[sz];exact b) %[_,e,rfl,n|rfl] i (by rw[sz];exact z) λs' acc c C E j G d=>?_
 let w:=I.dropped f v (λ_ _ _ e=>e) rfl rfl;let J:=I.dropped f v C E j;let lt:=let⟨_,j,_⟩:=b;Zu j;show%[.ref ⇑s,_,w.stoodS (o:= .lst ys.reverse) J (Zi _) %[?_,acc.toList,c,?_|?_],ρ|q _ (w.hok.fresh (Zi _)) (X2 lt)]
 .rw[List.length_reverse];exact z
 .rw[d];exact B.reverse
 .exact G
abbrev vF(te:TE):TE:=λb H Q=>te b H λv a=>∃l ys,v= .ref l/\a l<*ys/\∀p,a p=none->Q (.ref p) (JO a p (.lst ys.reverse))
def CT{X:Cx}(h:X.calm=true)(i:Gl X "reversed")(j:X.mg "reversed"=none)(a:Gl X "list")(b:X.mg "list"=none)(d:ba e=false)(m:QE X e te):
 QE X (.Call (.Name "list" n) [.Call (.Name "reversed" o) [e] [] s] [] u) (vF te):=by
 let w:QE X (.Call (.Name _ o) [e] [] s) _:=ctE ⟨AB⟩ i j PyProof.Rows.boot_reversed rfl rfl (by simp[d]) (paE d (⟨Hk m.h⟩) am);let y:=ctE (p:=n) (pos:=u) ⟨vE h⟩ a b boot_list rfl rfl rfl (paE rfl w am);show⟨Hl y.h λA H Q q=>?_⟩;show%[_,q|λv B ⟨l,ys,z,c,q⟩=>%[l,ys,by rw[z],JP.of c|λr f=>?_]];show%[r,l,ys,ρ,by rw[au (aE c f)];exact c,ae|λp g _=>?_];rw[Ch f]at g ⊢;exact q p g
section
variable{X:Cx}
abbrev HG:R2:=λx y H Q=>asR x λa=>asR y λb=>∃xs,H a<*xs/\H b<*[]/\Q (.bl (decide (xs≠[]))) H
def HI(B:X.A.units+64<cLine):OpR X (compareOp .NotEq) HG:=by
 intro ff s C H x y v u Q I l m h;let%[a,rfl|o]:=eG h;let%[b,rfl,xs,p,w|q]:=eG o;cases l;cases m;let%[z,its,n,r,g|e]:=I.lstM p;let%[E,its2,i,G,d|c]:=I.lstM w;obtain rfl:its2=[]:=length_eq_zero_iff.mp d.symm;by_cases f:xs=[]
 .subst f;obtain rfl:its=[]:=length_eq_zero_iff.mp g.symm;exact richCompare_meets_room (op:= .NotEq) %[_,e|rfl] %[_,c|rfl] PySem.F.slot_list_ne PySem.F.entry_list_ne (PySem.F.args_list_ne_2 _ _) (SeqAt.list_neAt a b #[] #[] n i none none #[] #[] rfl λ_=>true) %[e,c,λj h=>absurd h (X7 j),by simp,.bl _,H,I,rfl|q] ⋯
 .let A:its.toArray.size≠0:=by
   rw[Zp,<-g];exact λq=>f (length_eq_zero_iff.mp q)
  rw[Zf f]at q;exact richCompare_meets_room (op:= .NotEq) %[_,e|rfl] %[_,c|rfl] PySem.F.slot_list_ne PySem.F.entry_list_ne (PySem.F.args_list_ne_2 _ _) (SeqAt.list_ne_lengthsAt a b its.toArray #[] n i none none #[] #[] ↑A) %[e,c,by simp,.bl true,H,I,rfl|q] ⋯
def Jr(a:bM k X.A):OpQ X (compareOp .NotEq) HG:=⟨HI a.units⟩
#where
def fc(I:List i->j->Shared->Prop):∀(xs:List i) (b:j) (s:Shared),I xs b s->
 (∀x r b s,I (x::r) b s->↥A (f x b) (λy s'=>match y with| .done c=>Q c s'| .yield c=>I r c s') E s)->(∀b s,I [] b s->Q b s)->↥A (forIn xs b f) Q E s
 |[],b,s,h,_,a=>by
  exact Z3 (a b s h)
 | x::r,b,s,h,d,a=>by
   rw[forIn_cons];show Z2 (wpAny_mono (d x r b s h) (λy s' g=>?_) λ_ _ e=>e);cases y with
   | done c=>exact Z3 g
   | yield c=>exact fc I r c s' g d a
def CU:∀as {Q:Bool->Shared->Prop},(∀b∈as,∃c,bz w b c s.heap)->Q true s->↥A (setsQuiet as) Q E s:=by
 intro as Q h j;show Z2 (fc (λr b s'=>(∀b∈r,∃c,bz w b c s.heap)/\b=(none,())/\s'=s) as _ s %[h,rfl|rfl] ?_ ?_)
 .intro x r b s' %[f,rfl|rfl];let%[c,o,l,C,t,ss,m,n,p,q,G,v,d,H,y,B|g]:=f x Zm;show Z2 (wpAny_setEntries_of m p y (Z2 ?_));rw[<-forIn_toList];show fc (λr b a=>(∀e∈r,∃z u,e=(hashStr w z,Value.str z u))/\b=(none,())/\a=s') l.toList _ _ %[d,rfl|rfl] ?_ ?_
  .intro e r b a %[i,rfl|rfl];let%[z,u|rfl]:=i e Zm;exact Z3 %[λe h=>i e (Zk _ h),rfl|rfl]
  .intro b a %[_,rfl|rfl];exact Z3 %[λe h=>f e (Zk _ h),rfl|rfl]
 .intro b s' %[_,rfl|rfl];exact Z3 j
abbrev hsE(w:World)(p:Str×Tok):Int×Value:=(hashStr w p.1,.str p.1 p.2)
def bz.texts{a:Addr}{h:Heap}{o:Obj}{c:Array (Int×Value)}(d:StrsAre (c.toList\2) ss)(g:ss.Perm ks)(f:∀e∈c.toList,∃z u,e=(hashStr w z,Value.str z u))(xs:List (Int×Value))(b:xs.Perm c.toList):∃zs:List (Str×Tok),xs=zs.map (hsE w)/\(zs\1).Perm ks:=by
 let all:∀l,(∀e∈l,∃z u,e=(hashStr w z,Value.str z u))->∃zs:List _,l=zs.map (hsE w):=λl=>by
  induction l with
  | nil=>exact λ_=>%[[]|rfl]
  | cons e l i=>
    intro h;let%[z,u|rfl]:=h e Zm;let%[zs|rfl]:=i λx b=>h x (Zk _ b)
    exact%[(z,u)::zs|ρ]
 let%[zs|rfl]:=all xs λe j=>f e (b.mem_iff.mp j)
 show%[zs,ρ|?_];let%[ts,m|n]:=cg d (b.map _);let e:ts=zs\1:=by
  rw[<-m.strs,Yt,Yt];rfl
 exact e▸n.trans g
def rN{f:List Addr}{c:ZI}{Q:Array (Int×Value)->Shared->Prop}(Y:bz w a ks s.heap)(hO:∀b∈f,∃js,bz w b js s.heap)(q:∀r,c∣r->r≠a/\bz w r [] s.heap)
 (hQ:∀(zs:List (Str×Tok)) (d:Drawn) (h':Heap),(zs\1).Perm ks->(∀b o,c≠some b->s.heap.get? b∣o->h'.get? b∣o)->(∀r,c∣r->bz w r [] h')->Q (zs.map (hsE w)).toArray {s with heap:=h',drawn:=d}):
 ↥A (setWalkUnseen a f c) Q E s:=by
 let%[o,i,ep,t,ss,ho,ab,hd,L,hp,ac,M,J,hf,N|j]:=id Y;let g:∀(xs:List _) d h',xs.Perm i.toList->(∀b o,c≠some b->s.heap.get? b∣o->h'.get? b∣o)->(∀r,c∣r->bz w r [] h')->Q xs.toArray {s with heap:=h',drawn:=d}:=λxs d h' hx v h2=>by
  let%[zs,rfl|hz]:=bz.texts (a:=a) (h:=h') (o:=o) L hp M xs hx;exact hQ zs d h' hz v h2
 let walk:↥A (setWalk a) Q E s:=by
  show Z2 (wpAny_setState_of ho hd hf ?_);change wpAny _ _ (if a9 w=true then _ else _) _ _ _;by_cases O:a9 w=true
  .rw[if_pos O];show Z2 (wpAny_askSetting (Z3 ?_));let:=g (pickOrder (w.params.setOrder a ep) i).toList s.drawn s.heap (rg _ _) (λ_ _ _ e=>e) λr e=>(q r e).2
   exact this
  .rw[if_neg O]
   split
   .exact Z2 (tq i.size i.toList _ _ ∅ λys d p=>Z3 (g ys d s.heap p (λ_ _ _ e=>e) λr e=>(q r e).2))
   .show Z2 ?_;change wpAny _ _ (if(!t.led&&decide _)=true then unsupported _ else pure ()) _ _ _;rw[j,show a9 w=false by simpa using O];show Z3 (Z3 ?_);let:=g i.toList s.drawn s.heap (.refl _) (λ_ _ _ e=>e) λr e=>(q r e).2
    exact this
 show Z2 (wpAny_setState_of ho hd hf ?_);change wpAny _ _ (if(a9 w||t.led&&t.plain||decide _)=true then _ else _) _ _ _;by_cases v:(a9 w||t.led&&t.plain||decide (i.size<=1))=true
 .rw[if_pos v];exact walk
 .rw[if_neg v];show Z2 (CU _ (λb J=>?_) ?_)
  .rcases mem_cons.mp J with e|e
   .exact e▸%[_|Y]
   .exact hO b e
  show Z2 (wpAny_rule ?_);cases c with
  | none=>
    let:=g i.toList s.drawn s.heap (.refl _) (λ_ _ _ e=>e) λr e=>(q r e).2
    exact Z3 this
  | some r=>
    let%[ne,o2,T,ag,u,ai,l,y,m,B,U,C,G,H,I,aa|n]:=q r rfl;dsimp only;show Z2 (wpAny_setState_of l m I ?_)
    split
    .show Z2 (wpAny_storeSet_of l m ?_ (fits_of_scanBound H));let:=g i.toList s.drawn _ (.refl _) (λb o J e=>((SameBut.update s.heap r (Obj.putSet T {u with led:=u.led&&t.led,plain:=u.plain&&t.plain})).2 b λz=>J (by rw[z])).trans e) λr' e=>?_
     .exact Z3 this
     .cases e;exact(bz.stored (t':={u with led:=u.led&&t.led,plain:=u.plain&&t.plain}) l y m B U C G H I (by rw[(N λz=>v (by rw[z];simp)),Bool.and_false]) (by rw[n,j,Bool.and_self])).2
    .let:=g i.toList s.drawn s.heap (.refl _) (λ_ _ _ e=>e) λr e=>(q r e).2
     exact Z3 this
def Fa(h:jA (Sum.inr z) (Value.str y u)=true):y=z:=by
 rcases be h with⟨i,t',a,b⟩|⟨c,t',a,b⟩
 .lia
 grind
def vG{ks:ZB}(i:s.heap.get? a∣o)(l:o.data= .set b H t)(c:∀e∈b.toList,∃z u,e=(hashStr w z,Value.str z u))(C:b.size<scanBound)(m:t.fits b.size=true)
 (n:∀r,(r=none->∀e∈b.toList,∀u,e.2≠ .str z u)->(∀j,r∣j->∃u,b.toList[j]?∣(hashStr w z,.str z u))->Q r s):↥A (setFind a (.str z tk) (hashStr w z)) Q E s:=by
 let p:ElemsOf (aI prog w) b.toList:=q0 c;let d:(aI prog w).is (Sum.inr z) (.str z tk)=true:=dQ z tk;show Z2 (wpAny_setState_of i l m ?_);dsimp only;rw[byScan_of rfl C p];show Z2 (wpAny_rule (Z2 (wpAny_setScan_of d i l m p ?_)));cases v:List.findIdx? _ b.toList with
 | some j=>
   let%[B,f|_]:=List.findIdx?_eq_some_iff_getElem.mp v;dsimp only;rw[zero_add];show Z3 (n _ (λh=>(nomatch h)) λI e=>?_);cases e;let%[y,u|g]:=c _ (Yc B);rw[g]at f;rw[Fa (u:=u) f]at g;exact%[u|by rw[Z4 B,g]]
 | none=>
   show Z3 (n none (λ_ e G u q=>?_) λj e=>(nomatch e));let:=List.findIdx?_eq_none_iff.mp v e G;rw[q,show(aI prog w).is (Sum.inr z) (Value.str z u)=true from dQ z u]at this;cases this
def CV{P D M n i b:Nat}(h:P=n/\P+D<=M)(hi:i<n):min i P+(P-(i+1))=n-1/\min i P+(P-(i+1)) +(min b D+1+(D-b))<=M:=by
 let%[rfl|h]:=h;let e:=Nat.sub_add_min_cancel D b;let k:i+1+(P-(i+1))=P:=Nat.add_sub_of_le hi;rw[min_eq_left (Ye hi),Nat.min_comm b D]
 generalize min D b=x at e ⊢
 generalize D-b=y at e ⊢
 generalize P-(i+1)=z at k ⊢
 exact%[⋯|⋯]
def AC{t:SetTable}(h:t.fits n=true)(hi:i<n):(t.drop i).fits (n-1)=true/\(t.drop i).led=t.led/\(t.drop i).plain=t.plain:=by
 unfold SetTable.fits at h ⊢;rw[Zv,beq_iff_eq,decide_eq_true_eq]at h;unfold SetTable.drop;let:t.place[i]?∣t.place[i]:=by simp
 rw[this];show%[?_,ρ|ρ];rw[Zv,beq_iff_eq,decide_eq_true_eq];unfold SetTable.fill at h ⊢;simp only[SetTable.eraseAt,SetTable.insertAt,size_append,Array.size_extract,Xk,Nat.min_self,Nat.sub_zero];exact CV h hi
def xW(h:i<a.size):(SetTable.eraseAt a i).toList=a.toList.eraseIdx i:=by
 rw[List.eraseIdx_eq_take_drop_succ,SetTable.eraseAt,Xf,toList_extract,toList_extract,List.extract_eq_take_drop,List.extract_eq_take_drop];simp;exact Zn ∅
def vH{ks:ZB}(I:bz w a ks s.heap)(m:∀h' b,SameBut a s.heap h'->bz w a (ks.erase z) h'->Q b (s>>>h')):↥A (setDiscardHashed a (.str z tk) (hashStr w z)) Q E s:=by
 let%[o,c,ep,t,ss,h,n,j,d,J,p,f,L,v,y|g]:=id I;show Z2 (vG (ks:=ks) h j f L v λr M N=>?_);cases r with
 | none=>
   let O:z∉ks:=λq=>by
    let%[u|l]:=(eA d).mpr (J.mem_iff.mpr q);let%[e,B|T]:=Xq l;exact M rfl e B u T
   rw[List.erase_of_not_mem O]at m;exact Z3 (m s.heap false (SameBut.refl a s.heap) I)
 | some i=>
   let%[u|l]:=N i rfl;let hi:i<c.size:=(Xn l).1;let C:((hashStr w z,Value.str z u)::(SetTable.eraseAt c i).toList).Perm c.toList:=by
    rw[xW hi];let:=gU (xs:=c.toList) (hi);rwa[(Xn l).2]at this
   let%[ts,G|U]:=cg d (C.map _);cases G with
   | cons _ _ G=>
   let%[Y,d2|d3]:=AC v hi;let H:(SetTable.eraseAt c i).size=c.size-1:=by
    rw[<-Zb,<-Zb,<-C.length_eq];simp
   show Z2 (wpAny_setState_of h j v ?_);dsimp only;show Z2 (wpAny_storeSet_of h j (Z2 (wpAny_point (Z3 (m _ true (SameBut.update s.heap a _) (bz.stored h n j G ((List.cons_perm_iff_perm_erase.mp (U.trans J)).2) (p.erase z) (λe B=>f e (C.mem_iff.mp (Zk _ B))) ?_ ?_ ?_ ?_).2)))) (fits_of_scanBound ?_))
   .lia
   .exact H▸Y
   .exact d3▸y ⋯
   .exact d2▸g
   .lia
end
def yW(h:_ST.WF t a)(b:a.size<=t.mask):t.fits a.size=true:=by
 unfold SetTable.fits SetTable.fill;rw[h.size,h.dum];simpa using b
section
#where
abbrev t4(w:World)(a:Addr)(n:Nat)(h:Heap):Prop:=∃o b t,h.get? a∣o/\o.ExactSet/\o.data= .set #[] b t/\t.place= #[]/\t.dummies= #[]/\t.led=(!a9 w)/\(∃k,t.mask+1=2^k)/\7<=t.mask/\n<=t.mask
def t4.fits{t:SetTable}(a:t.place= #[])(b:t.dummies= #[]):t.fits (#[]:Array (Int×Value)).size=true:=by
 unfold SetTable.fits SetTable.fill;rw[a,b];simp
def Fb{n:Nat}{Q:Unit->Shared->Prop}(a:s.heap.get? r∣bP w)(f:n<=1000)(c:∀h',SameBut r s.heap h'->t4 w r n h'->Q () (s>>>h')):↥A (setRoomFor r n) Q E s:=by
 let d:(SetTable.fresh 0 0 (!a9 w)).fits _=true:=t4.fits rfl rfl;show Z2 (wpAny_setState_of a rfl d ?_);change wpAny _ _ (match(if(0+n)*5>=7*3 then some ((0+n)*2)else none)with|some x=>setRelay r x|_=>pure ()) _ _ _;by_cases h:(0+n)*5>=7*3
 .rw[if_pos h];show _ST.relay_w a rfl d ∅ ⋯ λb t' P W l p g m2=>c _ (SameBut.update s.heap r _) ?_
  obtain rfl:b= #[]:=by
   let:=P.length_eq;simpa using this
  let e:=by
   let q:=get?_update_self (Obj.putSet #[] t') a (by rfl);rwa[putSet_of #[] t' rfl]at q
  exact%[_,_,t',e,%[ρ,ρ|ρ],ρ,Array.eq_empty_of_size_eq_zero W.size,W.dum,l,W.pow,W.big|⋯]
 .rw[if_neg h];exact Z3 (c s.heap (SameBut.refl r s.heap) %[_,_,_,a,%[rfl,rfl|rfl],rfl,rfl,rfl,rfl,%[3|rfl],Zi 7|by change n<=7;lia])
def CW{ks:ZB}(M:bz w a ks s.heap)(N:s.heap.get? r∣bP w)(ne:r≠a)(h1:1<= ~~~ks)(h2: ~~~ks<=1000)(O:∀h',SameBut r s.heap h'->bz w r ks h'->Q () (s>>>h')):↥A (setMerge r a) Q E s:=by
 let%[o,d,ep,t,ss,T,U,Y,n,G,z,B,hb,H,C|g]:=id M;let hn:d.size= ~~~ks:=by
  let q:=bT n;rw[Z6,Zb,G.length_eq]at q;exact q
 let pl:t.plain=false:=C ⋯;unfold setMerge;rw[if_neg ↑ne];show Z2 (wpAny_setState_of T Y H ?_);dsimp only;rw[if_neg (λh:d.isEmpty=true=>by let:=Zo h;lia)];show Z2 (Fb N ⋯ λh' sb ⟨o2,aa,u,i,v,j,I,J,L,k2,b2,m2⟩=>Z2 (wpAny_setState_of (s:=(s>>>h')) i j (t4.fits I J) ?_));dsimp only;let m:u.fill=0:=by unfold SetTable.fill;rw[I,J];rfl
 let put:∀(b:Array (Int×Value)) (t':SetTable),b.toList.Perm d.toList->t'.fits b.size=true->t'.plain=false->t'.led=(!a9 w)->↥A (storeSet r b t') Q E (s>>>h'):=λb t' P f p l=>by
  let sz:b.size=d.size:=by rw[<-Zb,P.length_eq,Zb]
  let%[ts,r1|r2]:=cg n (P\2);exact wpAny_storeSet_of (s:=(s>>>h')) i j (O _ (sb.trans (SameBut.update h' r _)) (bz.stored (w:=w) i v j r1 (r2.trans G) z (λe he=>B e (P.mem_iff.mp he)) ⋯ f p l).2) (fits_of_scanBound ⋯)
 unfold SetTable.road;rw[m,if_neg (!1)]
 split
 .exact put d _ (.refl _) H (by change(u.plain&&t.plain)=false;rw[pl,Bool.and_false]) (by change(u.led&&t.led)=_;rw[L,g,Bool.and_self])
 .let%[k|hk]:=k2;let%[t',c,e1,e2,e3,e4,e5,W|P]:=_ST.laid_ok hk b2 d ⋯ u.finger u.moves _ _;let sz:(c.filterMap (d[·]?)).size=d.size:=by rw[<-Zb,P.length_eq,Zb]
  rw[e1];show Z2 ?_;change wpAny _ A (if((c.filterMap _).size != d.size)=true then _ else pure _) _ E _;rw[if_neg (by simp[sz])];exact Z3 (put _ t' P (show t'.fits _=true from yW W (by rw[sz,e2];lia)) (by rw[e4,pl,Bool.and_false]) (by rw[e3,L,g,Bool.and_self]))
 .rename_i y
  split at y<;> cases y
end
def bz.nd(S:bz w a ks h):ks.Nodup:=by
 let%[_,_,_,_,_,_,_,_,_,_,h|_]:=S;exact h
section
#where
def t5(c:bz w b f s.heap)(d:Q true s):↥A (Builtin.Frozenset.isAnySet (.ref b)) Q E s:=by
 let%[o,g,h,t,ss,e,a|_]:=c;exact Z2 (wpAny_isInstance (b:=true) %[o,e|a.1] (by kernel_rfl) (Z3 d))
def kA(d:bz w b e s.heap)(f:Q e.length s):↥A (Builtin.Frozenset.sizeOf b) Q E s:=by
 let%[o,u,v,t,ss,g,h,i,a,j,l,m,y,n,p|c]:=d;let r:=by
  let q:=bT a;rw[Z6,Zb,j.length_eq]at q;exact q
 exact Z2 (wpAny_setEntries_of g i n (Z3 (r▸f)))
def CY(M:bz w r ks s.heap)(N:bz w b O s.heap)(ne:r≠b)(big: ~~~O< ~~~ks)(al: ~~~ks<=900)
 (hQ:∀h' d ms,(∀c o,c≠r->s.heap.get? c∣o->h'.get? c∣o)->(∀x,x∈ms↔x∈ks/\x∉O)->bz w r ms h'->Q () {s with heap:=h',drawn:=d}):↥A (Builtin.Frozenset.differenceUpdate nm r (.ref b)) Q E s:=by
 unfold Builtin.Frozenset.differenceUpdate;rw[if_neg (by simpa using ne.symm)];show Z2 (t5 N ?_);rw[if_pos rfl];show Z2 (Z3 (Z2 (kA N (Z2 (kA M ?_)))));rw[if_neg ⋯];let%[o,es,ep,t,ss,ho,an,hd,aq,hp,as,aR,hb,hf,aU|ai]:=id N;let y:∀(s':Shared) (Y:Nat->Shared->Prop),s'.heap.get? b∣o->Y ep s'->↥A (setEpoch b) Y E s':=λs' Y e q=>by
  unfold setEpoch;exact Z2 (wpAny_setState_of e hd hf (Z3 q))
 show Z2 (y s _ ho (Z2 (wpAny_holding (Z2 (rN N (λc i=>%[ks|(Xp i)▸M]) (λ_ e=>(nomatch e)) λzs d h1 pz k1 _=>Z2 ?_)))));rw[<-forIn_toList];show fc (λxs _ s'=>∃f rest h',zs=f++rest/\xs=rest.map (hsE w)/\s'={s with heap:=h',drawn:=d}/\(∀c o,c≠r->s.heap.get? c∣o->h'.get? c∣o)/\∃ms,bz w r ms h'/\∀x,x∈ms↔x∈ks/\x∉f\1) _ _ _
  %[[],zs,h1,rfl,rfl,rfl,λc o _ e=>k1 c o ∅ e,ks,M.keep λo e=>k1 r o ∅ e|by simp] ?_ ?_
 .intro x xs _ s' %[f,rest,h',T,ex,rfl,U,ms,S|g];cases rest with
  | nil=>cases ex
  | cons p rest=>
  rw[Yr]at ex;injection ex with aa ab
  subst aa;show Z2 (wpAny_holding (vH (z:=p.1) (tk:=p.2) (s:={s with heap:=h',drawn:=d}) S λh2 bb sb S2=>Z2 ?_));unfold Builtin.Frozenset.unchanged;let B:∀c o,c≠r->s.heap.get? c∣o->h2.get? c∣o:=λc o i e=>(sb.2 c i).trans (U c o i e)
  show Z2 (y {s with heap:=h2,drawn:=d} _ (B b o ne.symm ho) ?_);rw[if_neg ∅];show Z3 (Z3 %[f++[p],rest,h2,by rw[T,Ze];rfl,ab,rfl,B,_,S2|λx=>?_]);rw[S.nd.mem_erase_iff,g,Zd,Yu,Yr,map_nil,X1,not_or]
  constructor
  .exact λ⟨a,b,c⟩=>%[b,c|a]
  .exact λ⟨b,c,a⟩=>%[a,b|c]
 .intro _ s' %[f,rest,h',T,ex,rfl,U,ms,S|g];obtain rfl:rest=[]:=by
   cases rest with
   | nil=>rfl
   | cons p rest=>cases ex
  rw[Zx]at T;let g:∀x,x∈ms↔x∈ks/\x∉O:=λx=>by rw[g,<-T,pz.mem_iff]
  let ac: ~~~ms≠0:=λe=>by
   let:=_ST.nodup_sub M.nd (m:=O) λx hx=>Decidable.byContradiction λq=>by
    let:=(g x).mpr %[hx|q];rw[length_eq_zero_iff.mp e]at this;cases this
   lia
  let sub:=_ST.nodup_sub S.nd λx hx=>((g x).mp hx).1
  show Z3 ?_;let%[o2,j,a0,t2,a1,n,C,u,h,G,H,I,a2,J,L|v]:=id S;let hn:=by
   let q:=bT h;rw[Z6,Zb,G.length_eq]at q;exact q
  show Z2 (wpAny_setState_of n u J ?_);dsimp only
  split
  .rw[show SetTable.grown j.size=j.size*4 by unfold SetTable.grown;rw[if_neg ⋯]];show _ST.relay_w n u J ⋯ ⋯ λag t' P W l p m1 m2=>?_
   let sz:ag.size=j.size:=by rw[<-Zb,P.length_eq,Zb]
   let%[ts,r1|r2]:=cg h (P\2);exact hQ _ d ms (λc o i e=>((SameBut.update h' r _).2 c i).trans (U c o i e)) g (bz.stored n C u r1 (r2.trans G) H (λe he=>I e (P.mem_iff.mp he)) ⋯ (yW W ⋯) (p▸L ⋯) (l▸v)).2
  .exact Z3 (hQ h' d ms U g S)
def vI(a:Q (.ref ⇑s) (s>>>s.heap.push (bP w))):↥A (newSet (.type "set")) Q E s:=by
 exact Z2 (Z2 (wpAny_askSetting (Z3 (wpAny_newObj_type a))))
def vJ(d:bz w a ks s.heap)(e:Q (.type "set") s):↥A (Builtin.Frozenset.baseOf a) Q E s:=by
 let%[o,g,h,t,ss,f,c|_]:=d;exact Z2 (wpAny_isInstance (b:=true) %[o,f|c.1] (by kernel_rfl) (Z3 e))
def Fc(n:bz w a ks s.heap)(B:bz w b H s.heap)(aa: ~~~ks<=900)
 (hQ:∀h' d ms,(∀c o,s.heap.get? c∣o->h'.get? c∣o)->(∀x,x∈ms↔x∈ks/\x∉H)->bz w ⇑s ms h'->Q (.ref ⇑s) {s with heap:=h',drawn:=d}):↥A (Builtin.Frozenset.difference nm a (.ref b)) Q E s:=by
 let lt:∀{c:Addr} {ls:ZB},bz w c ls s.heap->c≠⇑s:=λ{c ls} h=>by
  let%[o,_,_,_,_,T|_]:=h;exact Zs (Zu T)
 let I:∀c o,s.heap.get? c∣o->(s.heap.push (bP w)).get? c∣o:=λc o e=>Z7 _ e
 let U:(s.heap.push (bP w)).get? ⇑s∣bP w:=Zj _ rfl;let Y:=n.keep λo e=>I a o e
 let O1:=B.keep λo e=>I b o e
 unfold Builtin.Frozenset.difference;dsimp only;show Z2 (t5 B ?_);rw[if_neg (!1)];show Z2 (Z3 ?_);rw[if_neg ∅,if_pos rfl];show Z2 (kA B (Z2 (kA n ?_)))
 generalize hG:s.heap.push (bP w)=G at I U Y O1
 split
 .show Z2 (wpAny_rule (Z2 ?_));unfold Builtin.Frozenset.copyOf;show Z2 (vJ n (Z2 (vI ?_)));rw[hG];show Z2 (Z3 (Z2 (CW (s:=(s>>>G)) Y U (Ne.symm (lt n)) ⋯ ⋯ λh1 sb R1=>Z3 ?_)));let k1:∀c o,s.heap.get? c∣o->h1.get? c∣o:=λc o e=>(sb.2 c (Zs (Zu e))).trans (I c o e)
  exact Z2 (Z3 (Z2 (wpAny_holding (CY (s:=(s>>>h1)) R1 (B.keep λo e=>k1 b o e) (Ne.symm (lt B)) ⋯ aa λi d ms k2 v M=>Z3 (hQ i d ms (λc o e=>k2 c o (Zs (Zu e)) (k1 c o e)) v M)))))
 .show Z2 (vJ n (Z2 (vI ?_)));rw[hG];show Z2 (Z3 ?_);let%[o,es,ep,t,ss,T,a0,hd,a1,hp,a2,a3,hb,hf,a4|aq]:=id Y;let J:∀(s':Shared) (Q':Nat->Shared->Prop),s'.heap.get? a∣o->Q' ep s'->↥A (setEpoch a) Q' E s':=λs' Q' e q=>by
   unfold setEpoch;exact Z2 (wpAny_setState_of e hd hf (Z3 q))
  show Z2 (J (s>>>G) _ T ?_);rw[if_pos rfl];show Z2 (wpAny_holding (Z2 (rN (s:=(s>>>G)) Y (λc y=>?_) (λr e=>⟨by cases e;exact Ne.symm (lt n),by cases e;exact bz.empty U⟩) λzs d h1 pz k1 r1=>Z2 ?_)))
  .simp only[Yy,X8,or_false]at y;rcases y with rfl|rfl
   .exact%[_|O1]
   .exact%[_|bz.empty U]
  rw[<-forIn_toList];show fc (λxs _ s'=>∃f rest h',zs=f++rest/\xs=rest.map (hsE w)/\s'={s with heap:=h',drawn:=d}/\(∀c o,c≠⇑s->G.get? c∣o->h'.get? c∣o)/\∃ms,bz w ⇑s ms h'/\ ~~~ms<= ~~~f/\∀x,x∈ms↔x∈f\1/\x∉H) _ _ _
   %[[],zs,h1,rfl,rfl,rfl,(λc o y e=>k1 c o (λq=>y (Za q).symm) e),[],r1 _ rfl,Zi _|by simp] ?_ ?_
  .intro x xs _ s' %[f,rest,h',C,ex,rfl,g,ms,M,ml|v];cases rest with
   | nil=>cases ex
   | cons p rest=>
   rw[Yr]at ex;injection ex with ab L
   subst ab;let zl: ~~~zs= ~~~ks:=by rw[<-pz.length_eq,Z6]
   let pl: ~~~f< ~~~ks:=by rw[<-zl,C,Z9,Zr];lia
   rw[if_pos rfl];let l:∀(i:Heap) Qx,(∀c o,c≠⇑s->G.get? c∣o->i.get? c∣o)->Qx (.yield ⟨⟩) {s with heap:=i,drawn:=d}->↥A (Builtin.Frozenset.unchanged nm a ep>>= λ_=>pure (ForInStep.yield PUnit.unit)) Qx E {s with heap:=i,drawn:=d}:=λi Qx k2 q=>by
    show Z2 ?_;unfold Builtin.Frozenset.unchanged;show Z2 (J {s with heap:=i,drawn:=d} _ (k2 a o (lt n) T) ?_);rw[if_neg ∅];exact Z3 (Z3 q)
   let mem:∀x,x∈(f++[p])\1↔x∈f\1\/x=p.1:=λx=>by rw[Zd,Yu,Yr,map_nil,X1]
   let%[o2,a5,a6,t2,a7,ac,as,ag,m,N,aR,O,ai,al,aU|an]:=id O1;show Z2 (wpAny_holding (Z2 (vG (ks:=H) (z:=p.1) (tk:=p.2) (g b o2 (lt B) ac) ag O ai al λq q1 q2=>Z2 (Z3 ?_))));cases q with
   | none=>
     let hz:p.1∉H:=λz=>by
      let%[u|hu]:=(eA m).mpr (N.mem_iff.mpr z);let%[e,he|q3]:=Xq hu;exact q1 rfl e he u q3
     rw[if_pos (by rfl)];show Z2 (ke (z:=p.1) (tk:=p.2) M (by rw[show scanBound=4096 from rfl];lia) λi bb sb M2=>Z3 ?_);let k2:=λc o y e=>(sb.2 c y).trans (g c o y e)
     show l i _ k2 %[f++[p],rest,i,by rw[C,Ze];rfl,L,rfl,k2,_,M2,?_|λx=>?_]
     .rw[Z9,Yk]
      split
      .lia
      .rw[Z9,Yk];lia
     .rw[mem];by_cases hx:x=p.1
      .subst hx;show%[λ_=>%[.inr rfl|hz]|λ_=>?_]
       split
       .rename_i h;exact h
       .exact Yx _ Zm
      .split
       .rw[v];exact%[λh=>%[.inl h.1|h.2]|λh=>%[h.1.resolve_right hx|h.2]]
       .rw[Yu,X1,v];exact%[λh=>let h:=h.resolve_right hx;%[.inl h.1|h.2]|λh=> .inl %[h.1.resolve_right hx|h.2]]
   | some j=>
     let hz:p.1∈H:=by
      let%[u|hu]:=q2 j rfl;exact N.mem_iff.mp ((eA m).mp %[u|Xr %[_,Z8 hu|rfl]])
     rw[if_neg ∅];show Z3 (l h' _ g %[f++[p],rest,h',by rw[C,Ze];rfl,L,rfl,g,ms,M,by rw[Z9];lia|λx=>?_]);rw[v,mem];show%[λh=>%[.inl h.1|h.2]|λh=>%[h.1.resolve_right λe=>h.2 (e▸hz)|h.2]]
  .intro _ s' %[f,rest,h',C,ex,rfl,g,ms,M,ml|v];obtain rfl:rest=[]:=by
    cases rest with
    | nil=>rfl
    | cons p rest=>cases ex
   rw[Zx]at C;exact Z3 (Z3 (hQ h' d ms (λc o e=>g c o (Zs (Zu e)) (I c o e)) (λx=>by rw[v,<-C,pz.mem_iff]) M))
end
def t6:entryFor table "set.__sub__"=some Builtin.«frozenset.__sub__»:=entryFor_alias (id':="frozenset.__sub__") (by kernel_rfl) rfl (!0) (by kernel_rfl)
section
variable{X:Cx}
abbrev CZ(w:World):R2:=λx y H Q=>asR x λa=>asR y λb=>∃ks c,H a∣eL w a ks/\H b∣eL w b c/\ ~~~ks<=900/\∀l ms,H l=none->(∀x,x∈ms↔x∈ks/\x∉c)->ms.Nodup->Q (.ref l) (JO H l (eL w l ms))
def Fe:OpR X (binaryOp .Sub) (CZ X.w):=by
 intro ff s z H x y v u Q I j l h;let%[a,rfl|m]:=eG h;let%[b,rfl,ks,A,n,p,e|q]:=eG m;cases j;cases l;let%[S,_|_]:=(I.hok a _ n)
 let%[O,_|_]:=(I.hok b _ p)
 let f:∀{c:Addr} {ls:ZB},bz X.w c ls s.heap->s.TypeIs (.ref c) _:=λ{c ls} h=>by
  let%[o,B,C,t,ss,g,i|_]:=h;exact%[o,g|i.1]
 show wpAny_binaryOp_same (f S) (f O) F.fills_set_sub F.slot_set_sub (wpAny_call_entry F.slot_set_sub (f S) t6 (Z2 (Z2 (Z3 (Z3 (Z2 (Z2 (t5 S (t5 O (Z2 (Z3 (Z2 (Fc S O e λh' d ms k r M=>Z3 %[_,rfl,by simp,.ref ⇑s,_,I.stoodS (o:=eL X.w ⇑s ms) (I.keptS k rfl rfl) (Zi _) %[M,?_|λ_ _ w k1=>bz.keep w k1],rfl|q _ ms (I.hok.fresh (Zi _)) r M.nd])))))))))))) (F.args_set_sub_2 _ _));let%[o,_,_,_,_,g|_]:=M;exact%[o|g]
def HJ(h:X.w=w):OpQ X (binaryOp .Sub) (CZ w):=by subst h;exact⟨Fe⟩
end
def nE{X:Cx}(a:bM k X.A)(b:behindInMarks .NotIn o=false)(hi:QE X i ty)(c:QE X o d):QT X (.Compare i [.NotIn] [o] pos) (tB (sV ty d)):=
 ⟨A4 (zR (by let:=a.units;lia) hi.h c.h) b⟩
open PySem PySem.Spec PyProof.Rows PySem.SeqAt
section
variable{X:Cx}
variable{K:ZA}{pos:Pos}
def af(i:Nat){x:Str}(h:(X.N[i]?,X.env.scope.names.lookup x,x==("__debug__":Str),x==("__classdict__":Str))=(some x,some .local,false,false)):QE X (.Name x pos) (fV i):=by
 simp only[Prod.mk.injEq]at h;exact vn i h.1 (.inl h.2.1) h.2.2.1 h.2.2.2
def bN(i:Nat){x:Str}(h:(X.N[i]?,X.env.scope.names.lookup x,x==("__debug__":Str),x==("__classdict__":Str))=(some x,some .cell,false,false)):QE X (.Name x pos) (fV i):=by
 simp only[Prod.mk.injEq]at h;exact vn i h.1 (.inr (.inl h.2.1)) h.2.2.1 h.2.2.2
def aS{mg:ZC}{j k:Nat}{x:Str}{ps:ZB}{sp:Sp}{p:Pos}{e:Expr}{a:List Expr}{t:TA}(C:Cal X.prog X.w K mg X.base j x ps sp)(b:bM k X.A)(h:(X.K,X.mg,X.env.kindOf x,Nat.ble j k,x==("__debug__":Str),(e::a).any ba)=(K,mg,some .globalImplicit,true,false,false))(c:QA X (e::a) t):QE X (.Call (.Name x p) (e::a) [] pos) (qG sp [] E0 t):=by
 simp only[Prod.mk.injEq]at h;let%[rfl,rfl|h]:=h;exact calE C b h.1 h.2.1 h.2.2.1 h.2.2.2 c
def Js{mg:ZC}{j k:Nat}{x:Str}{ps:ZB}{sp:Sp}{p:Pos}{e:Expr}{a:List Expr}{t:TA}(C:E3 X.prog X.w K mg X.base j x ps sp)(c:vz K mg x)(b:bM k X.A)(h:(X.K,X.mg,X.env.kindOf x,Nat.ble (j+1) k,x==("__debug__":Str),(e::a).any ba)=(K,mg,some .globalImplicit,true,false,false))(d:QA X (e::a) t):QE X (.Call (.Name x p) (e::a) [] pos) (yF (aL mg x) sp [] E0 t):=by
 simp only[Prod.mk.injEq]at h;let%[rfl,rfl|h]:=h;exact Jp C c b h.1 h.2.1 h.2.2.1 h.2.2.2 d
def vK{mg:ZC}{j k:Nat}{x m:Str}{ps:ZB}{sp:Sp}{a:Pos}{o:Expr}{b:TE}{pl:Sem Bool}(C:Ar X.prog X.w K mg X.base j x m ps sp)(c:vz K mg x)(e:bM k X.A)(h:(X.K,X.mg,Nat.ble j k)=(K,mg,true))
 (g:eval (.Call (.Attribute o m a) [] [] pos) X.env=(do
  let d<-eval o X.env
  standAt a.atName
  let(f,first)<-holding [d] (getMethod d m pl)
  callWith pos f first (backTo pos (starEach [] X.env)) (backToKw pos (keywordEach [] X.env)))) (i:QE X o b):QE X (.Call (.Attribute o m a) [] [] pos) (yE (aL mg x) m sp [] E0 b mZ):=by
 simp only[Prod.mk.injEq]at h;let%[rfl,rfl|h]:=h;exact Hz C c e h g i
def cbO{x:Str}{id:String}{r:List V->Hp->VK->Prop}{p:Pos}{e:Expr}{a:List Expr}{t:TA}(b:cq X (.builtin id) r)(c:X.mg x=none)(d:bootBuiltins x∣.builtin id)(h:(X.env.kindOf x,x==("__name__":Str),x==("__debug__":Str),(e::a).any ba)=(some .globalImplicit,false,false,false))(f:QA X (e::a) t):QE X (.Call (.Name x p) (e::a) [] pos) (tCB r t):=by
 simp only[Prod.mk.injEq]at h;exact cbE b h.1 c d h.2.1 h.2.2.1 h.2.2.2 f
def ctO{x:Str}{T:String}{r:List V->Hp->VK->Prop}{p:Pos}{e:Expr}{a:List Expr}{t:TA}(b:cq X (.type T) r)(c:X.mg x=none)(d:bootBuiltins x∣.type T)(h:(X.env.kindOf x,x==("__name__":Str),x==("__debug__":Str),(e::a).any ba)=(some .globalImplicit,false,false,false))(f:QA X (e::a) t):QE X (.Call (.Name x p) (e::a) [] pos) (tCB r t):=by
 simp only[Prod.mk.injEq]at h;exact ctE b h.1 c d h.2.1 h.2.2.1 h.2.2.2 f
def bmO{o e:Expr}{c:List Expr}{f:TE}{t:TA}{name:Str}{a b:Pos}{T id:String}{r:V->List V->Hp->VK->Prop}(g:PlainAttrs T)(slot:Slot T name id)(d:typeOf (.builtin id)=pure (.type "method_descriptor"))(i:MtQ X id r)
 (h:(X.K,gN o,(e::c).any ba,Nat.blt (e::c).length 30,a.endLine==b.line)=(K,false,false,true,true)) (j:QE X o f) (l:QA X (e::c) t):QE X (.Call (.Attribute o name a) (e::c) [] b) (tBM K T r f t):=by
 simp only[Prod.mk.injEq]at h;let%[rfl|h]:=h;exact bmE rfl g slot d i h.1 h.2.1 h.2.2.1 h.2.2.2 j l
def aK(i:Nat){x:Str}{e:Expr}{te:TE}{a:Pos}(b:X.N.Nodup)(h:(X.N[i]?,X.env.scope.names.lookup x,fF e)=(some x,some .local,false))(c:QE X e te):QS X (.Assign [.Name x a] e pos) (pY te (jC i)):=by
 simp only[Prod.mk.injEq]at h;exact lC i b h.1 (.inl h.2.1) (.inr h.2.1) h.2.2 c
def aG(i:Nat){x:Str}(a:X.N.Nodup)(h:(X.N[i]?,X.env.scope.names.lookup x)=(some x,some .local)):QG X (.Name x pos) (jC i):=by
 simp only[Prod.mk.injEq]at h;exact yL i a h.1 (.inl h.2) (.inr h.2)
#where
variable{x:Addr}{C:Addr}{name:Str}{v:Value}{ox:Obj}
variable{o:Expr}{value:Expr}{nm:Str}{ta:TE}{tv:TE}{pos':Pos}
variable{P:Program}{mg:ZC}{base:Heap}{x:Str}{qual:Str}{st:Stmt}{N:ZB}{ps:ZB}{k:Nat}{sp:Sp}
end
abbrev oN:V->Bool
 | .byt _=>false
 | .flt _=>false
 | _=>true
def hJ(r:aD xs us)(h:j<us.toArray.size):∃x,xs[j]?∣x/\aJ x us.toArray[j]:=by
 let l:=h;let a:j< ~~~xs:= ~~~r▸l;let%[u,b|c]:=r.get (i:=j) (x:=xs[j]) ∅
 simp_all
def rO{A:Around}{s:Shared}{x:V}{u v:Value}(e:oN x=true)(a:aJ x u)(c:aJ x v):EqAt A s u v true:=by
 cases x with
 | int i=>
   let%[t|rfl]:=a;let%[d|rfl]:=c;let:=EqAt.int_int (A:=A) (s:=s) i t i d;rwa[beq_self_eq_true]at this
 | str z=>
   let%[t|rfl]:=a;let%[d|rfl]:=c;let:=EqAt.str_str (A:=A) (s:=s) z t z d;rwa[beq_self_eq_true]at this
 | byt b=>cases e
 | flt b=>cases e
 | _=>cases a;cases c;exact EqAt.same _
abbrev C0(H:Hp)(x y:V):Prop:=(x=y/\oN x=true)\/∃a b xs,x= .ref a/\y= .ref b/\H a<*xs/\H b<*xs/\xs.all oN=true
def C1{xs:List V}(h:xs.all oN=true){j:Nat}{x:V}(e:xs[j]?∣x):oN x=true:=all_eq_true.mp h x (Z8 e)
section
#version
def xX(I:JQ X ff σ H s){A:Around}(h:C0 H x y)(n:A.units<cLine)(f:aJ x u)(g:aJ y v):EqAt A s u v true:=by
 rcases h with⟨rfl,d⟩|⟨a,b,xs,rfl,rfl,o,p,d⟩
 .exact rO d f g
 .cases f;cases g;by_cases e:a=b
  .subst e;exact EqAt.same _
  .let%[us,i,q|_]:=I.list (JP.of o);let%[vs,l,r|_]:=I.list (JP.of p);let c:=RcAt.lists (A:=A) (s:=s) (e:=λ_=>true) q.isList r.isList (by rw[Zp,Zp,<-i.length,<-l.length]) n λj w z=>by
    let%[x,ex|B]:=hJ i w;let%[y,m|C]:=hJ l z;rw[ex]at m;cases m;exact rO (C1 d ex) B C
   rw[show(List.range us.toArray.size).all (λ_=>true)=true by simp]at c;exact EqAt.of_refs e c
end
def oO:∀{zs:ZB} {its:ZF},aD (zs\3) its->ReadsAll h its (zs.map PyData.str) []
 |[],_,.nil=> .nil
 | z::zs,_,.cons r v=>by
   let%[t|rfl]:=r;exact .cons (.str _ _) (oO v)
abbrev oP(p:Addr×ZB):PyData:= .tuple (p.2.map PyData.str)
def oQ{X:Cx}(I:JQ X ff g H s):∀{ss:ZG} {its:ZF},aM H ss->aD (ss\0) its->∃as,ReadsAll s.heap its (ss.map oP) as
 |[],_,_,.nil=>%[_|.nil]
 | p::ss,_,t,.cons r v=>by
   cases r;let%[us,a,%[%[cls,h,data|i],b,c,n|d]|_]:=I.tuple (SqT.of (t p (Zm ..)).2);let%[bs|e]:=oQ I (λq f=>t q (Zk _ f)) v;exact%[_|.cons (.tuple b c d (oO a)) e]
def xY(zs:ZB):PyData.showableAll (zs.map PyData.str)=true/\PyData.hasDictAll (zs.map PyData.str)=false/\PyData.depthAll (zs.map PyData.str)=0:=by
 induction zs with
 | nil=>exact%[ρ,ρ|ρ]
 | cons z zs a=>simp only[Yr,PyData.showableAll,PyData.hasDictAll,PyData.depthAll,a.1,a.2.1,a.2.2];exact%[ρ,ρ|ρ]
def xZ{zs:ZB}(h:∀z∈zs,~~~z<=30/\∀c∈z.cps.toList,c<16^8):PyData.leavesShortAll 8 (zs.map PyData.str)=true/\PyData.weightAll (zs.map PyData.str)<=31* ~~~zs:=by
 induction zs with
 | nil=>exact%[ρ|Zi _]
 | cons z zs d=>
   let%[a|b]:=d λy e=>h y (Zk _ e)
   let%[l|c]:=h z (Zm ..);simp only[Yr,PyData.leavesShortAll,PyData.weightAll,PyData.weight,a,Zr,Bool.and_true];let: ~~~z=z.cps.size:=rfl;exact%[all_eq_true.mpr λx f=>Zf (c x f)|⋯]
def x5{ss:List _}(h:∀p∈ss,~~~p.2<=3/\∀z∈p.2,~~~z<=30/\∀c∈z.cps.toList,c<16^8):PyData.showableAll (ss.map oP)=true/\PyData.hasDictAll (ss.map oP)=false/\PyData.depthAll (ss.map oP)<=1/\PyData.leavesShortAll 8 (ss.map oP)=true/\PyData.weightAll (ss.map oP)<=94* ~~~ss:=by
 induction ss with
 | nil=>exact%[ρ,ρ,Xg _,ρ|Zi _]
 | cons p ss f=>
   let%[a,b,c,d|e]:=f λy g=>h y (Zk _ g)
   let%[l|z]:=h p (Zm ..);let%[i,j|m]:=xY p.2;let%[g1|g2]:=xZ z;simp only[Yr,oP,PyData.showableAll,PyData.showable,PyData.hasDictAll,PyData.hasDict,PyData.depthAll,PyData.depth,PyData.leavesShortAll,PyData.leavesShort,PyData.weightAll,PyData.weight,i,j,m,g1,Zr];exact%[a,b,⋯,d|⋯]
section
#version
def C2{k:ZB}{x:V}{j:Nat}(h:(k\3)[j]?∣x):∃z,k[j]?∣z/\x= .str z:=by
 rw[Zl]at h;let%[z,e|rfl]:=map_eq_some_iff.mp h;exact%[z,e|ρ]
def vL{k l:ZB}(h:k\3=l\3):k=l:=(List.map_inj_right λ_ _=>V.str.inj).mp h
def C3(I:JQ X ff σ H s){A:Around}{a b:Addr}{k l:ZB}(g:H a&&&k\3)(f:H b&&&l\3)(q:A.units<cLine):EqAt A s (.ref a) (.ref b) (decide (k=l)):=by
 by_cases e:a=b
 .subst e;rw[g]at f;rw[Zf (vL (HO.tup.inj (Za f)))];exact EqAt.same _
 .let%[us,m,r|_]:=I.tuple (SqT.of g);let%[vs,n,v|_]:=I.tuple (SqT.of f);let d:=RcAt.tuples r v q λj o p=>by
   let%[x,ex|w]:=hJ m o;let%[y,B|C]:=hJ n p;let%[z,E|rfl]:=C2 ex;let%[u,G|rfl]:=C2 B;let:=Bv (A:=A.in1) (s:=s) w C rfl rfl;rw[show eqV _ _=decide (k[j]? =l[j]?) by rw[E,G];change(z==u)=_;by_cases c:z=u<;> simp[c]]at this;exact this
  rw[show((List.range _).all _&&us.toArray.size==vs.toArray.size)=decide (k=l) by
   rw[Zp,Zp,<-m.length,<-n.length,Bool.eq_iff_iff,Zv,all_eq_true,decide_eq_true_iff];show%[λ⟨o,p⟩=>ext_getElem? λi=>?_|λh=>by lia]
   grind]at d
  exact EqAt.of_refs e d
end
section
variable{X:Cx}
nonrec abbrev yX:R2:=λx y H Q=>∃(a p:Addr) (k:ZB) (ws:ZG),x= .ref a/\y= .ref p/\H a&&&k\3/\H p∣.lst (ws\0)/\(∀t∈ws,H t.1&&&t.2\3)/\k∈ws\2/\Q (.bl false) H
open Classical in
def AD(f:X.A.units+64<cLine):OpR X (compareOp .NotIn) yX:=by
 intro ff s C H x y v u Q I g i h;let%[a,p,k,ws,rfl,rfl,l,m,hw,n|q]:=h;cases g;cases i;let%[us,r,pl|_]:=I.list (JP.of m);let of:∀y∈us,∃t∈ws,y= .ref t.1:=λy c=>by
  let%[j,d|rfl]:=List.getElem_of_mem c;let%[x,ex|rr]:=hJ r (d);rw[Zl]at ex;let%[t,b|rfl]:=map_eq_some_iff.mp ex;exact%[t,Z8 b|(rr)]
 show notIn_listAt (λv=>decide (∃t∈ws,v= .ref t.1/\t.2=k)) pl.isList (λy c=>?_) %[.bl false,H,I,?_|q]
 .let%[t,b|rfl]:=of y ↑c;let:=C3 I (A:=X.A.in1) (hw t b) l ⋯;rw[show decide _=decide (t.2=k)from ?_]
  .exact this
  .rw[Bool.eq_iff_iff,decide_eq_true_iff,decide_eq_true_iff];show%[λ⟨t',o,w,z⟩=>?_|λh=>%[t,b,ρ|h]];let e:=hw t' o;rw[<-Value.ref.inj w,hw t b]at e;rw[<-z,vL (HO.tup.inj (Za e))]
 .let%[t,b|e]:=Xq n;let%[j|d]:=Xh b;let%[u,f|B]:=r.get (by rw[Zl,d];rfl);cases B;rw[show us.toArray.any _=true from ?_]
  .rfl
  .rw[List.any_toArray,any_eq_true];exact%[_,Z8 f|Zf %[t,b,ρ|e]]
def C4(a:bM k X.A):OpQ X (compareOp .NotIn) yX:=⟨AD a.units⟩
end
noncomputable abbrev Cx.tryV(X:Cx)(pn:ZE)(E:St->XK):Cx:={X with pn:=pn,xe:=λe s'=>∃ff a H s,JQ ({X with pn:=pn}) ff a H s/\CXO X.prog X.w X.stack H s (E a) e s'}
abbrev FP(CX:CXT)(X:Cx)(E:St->XK):Prop:=∀ff (a:St) H s e s',JQ X ff a H s->CX X.stack H s (E a) e s'->X.xe e s'
def AE{X:Cx}:FP (CXO X.prog X.w) (X.tryV pn E) E:=by
 intro ff a H s e s' I %[b,B,cls,c,d,rfl,F|q];exact%[ff,a,H,s,%[Jd I.ok _ _,I.os,I.bare,I.base,I.loc,I.cell,I.free,I.freeC,I.pin,I.hok|I.len],b,B,cls,c,d,ρ,F|q]
abbrev FQ(K:ZA)(D:Addr)(E:St->XK)(len i:Nat)(f ts:TS):TS:=λe g H=>f e g H/\∀b cls d c,E b cls d c->∃C,cls= .ref C/\subIn K (.ref C) (.ref D)∣true/\
 ∀a,~~~b=len->c a=none->ts (e.gone i) (b.set i (some (.ref a))) (JO c a (ExH a C d))
def Ff{X:Cx}{D:Addr}(l:X.stack=X.env::X.outer)(hf:X.env.frame∣X.env.locals)(hN:X.N.Nodup)(hi:X.N[i]?∣n)
 (hk:X.env.kindOf n∣.local) (hl:X.env.scope.names.lookup n∣.local) (hg:Gl X x) (hm:X.mg x∣.ref D) (c:Cat X.K D) (m:∀pn,PSs (X.tryV pn E) L tb) (h:∀a,PSs (X.suiteX a) (M::o) ts)
 (ab:(x==("__debug__":Str))=false):
 PS X (.Try L [.ExceptHandler (some (.Name x p)) (some n) (M::o) N] [] [] pos) (FQ X.K D E X.N.length i tb ts):=by
 intro ff s σ H Dn I %[h1|h2];show wpAny_Try_except (wpAny_mono (m _ [] s σ H Dn (I.toPn _) h1) (λf s1 q=>?_) λe s1 q=>?_)
 .let q':=SP.ofPn q;cases f with
  | next=>exact wpAny_execs_nil q'
  | brk=>exact q'
  | cont=>exact q'
  | ret u=>exact q'
 .let%[ac,ag,H1,s2,I1,A,B,cls,dx,H',rfl,F|qE]:=q;let%[C,rfl,O|ai]:=h2 ag cls dx H' qE;show yQ (.inr rfl) (l▸I.ok.frames) hf (l▸F).up λha ua T=>tH ua λhb ub U=>?_
  let%[un|al]:=F.fly ub.1 (T.trans U);let J:=(I1.call' (s':=(s1>>>hb)) F.os un al F.bare λb z=>absurd z ∅).ofPn;let%[_,_,_,oe,vs,eb,an,a1,a2|_]:=id ub;show wpAny_handleBy_cons (codeAny_handlers_test (fD (J.toSuite A) hg hm (B9 J.kIn c.ty c.ex c.cd eb an O (codeAny_handlers_suite_as (tH ub λhc uc aq=>?_))) ab)) (by intro q;cases q);let%[as|Y]:=F.fly uc.1 ((T.trans U).trans aq);let%[_,_,_,oc,vc,ec,aR,aU,a0|_]:=id uc;let aa:=I1.ofPn;show j4 (v:= .ref A) (aa.stood3 (λ_ z=>z) ((I1.call' (s':=(s1>>>hc)) F.os as Y F.bare λb z=>absurd z ∅).ofPn) F.free F.new (ExH.ok ec aR aU a0)) hN hi (.inl hl) rfl (λs4 J4=>wpAny_mono (h A ff s4 _ _ _ (J4.toSuite A) (ai A aa.len F.free)) (λf s5 q5=>?_) λ_ _ z=>z.elim) (.inr hl);let d:∀{g:St} {G:Hp} {Q:Unit->Shared->Prop},JQ (X.suiteX A) ff g G s5->(∀s',JQ X ff _ G s'->Q () s')->
   (X⁻¹) (do bindName X.env n _;unbindBehindTheSuite X.env n N) Q X.xe s5:=λj h5=>EQ (j.ofSuite I.ok) hN hi hk h5
  cases f with
  | next=>
    let%[g,G,j|w]:=q5;exact d j λs' y=>%[_,_,y|w]
  | brk=>
    let%[g,G,j|w]:=q5;exact d j λs' y=>%[_,_,y|w]
  | cont=>
    let%[g,G,j|w]:=q5;exact d j λs' y=>%[_,_,y|w]
  | ret u=>
    let%[v,g,G,j,r|w]:=q5;exact d j λs' y=>%[v,_,_,y,r|w]
def tryV{X:Cx}{D:Addr}(E:St->XK)(f:X.stack=X.env::X.outer)(m:X.env.frame∣X.env.locals)(o:X.N.Nodup)(hi:X.N[i]?∣n)
 (q:X.env.kindOf n∣.local) (r:X.env.scope.names.lookup n∣.local) (s:Gl X x) (u:X.mg x∣.ref D) (c:Cat X.K D) (j:(x==("__debug__":Str))=false) (d:∀pn,QSs (X.tryV pn E) g v) (b:∀a,QSs (X.suiteX a) (h::e) ts):
 QS X (.Try g [.ExceptHandler (some (.Name x p)) (some n) (h::e) l] [] [] pos) (FQ X.K D E X.N.length i v ts):=
 ⟨Ff f m o hi q r s u c (λpn=>(d pn).h) (λa=>(b a).h) j⟩
abbrev C5(sp:Sp)(E:St->XK)(t:TA):TE:=λa H Q=>t a H λvs b=>sp vs b Q (E a)
def Jt{X:Cx}(w:FP (CXO X.prog X.w) X E)(C:Cd X.prog X.w X.K X.mg X.base j x ps sp)(y:bM k X.A)(z:Gl X x)(c:Nat.ble j k=true)
 (d:(x==("__debug__":Str))=false) (g:(e::n).any ba=false) (A:QA X (e::n) t):QE X (.Call (.Name x p) (e::n) [] pos) (C5 sp E t):=by
 rw[Zw,X9]at g;let%[f,M,F,B,G|J]:=C.ex;show⟨λff s i H Q I h=>wpAny_Call_Name_kw (fD I z B (callWith_K I.ok.mod.kin G (thP (A.h pos ff s i H _ I h) λus l vs m a r q=>%[a.kIn|?_]) (az g.1) (dI g.2)) d)⟩;let o:=r.append .nil;let v:sp (vs++[]) m Q (E i):=by rw[Zx];exact q
 show wpAny_call (codeAny_mono (F.run X.A X.stack l m _ _ _ Q _ (y.mono (Yd c)) a.env0 (J l us a.kIn (~~~o▸F.len _ _ _ _ v)) o v) λr s' b=>?_);cases r with
 | error e=>exact w ff i m l e s' a b
 | ok L=>
   cases L with
   | ret u=>exact a.after b
   | next=>exact False.elim b
   | brk=>exact False.elim b
   | cont=>exact False.elim b
abbrev qk(L:List Addr)(c:Addr->Obj)(H:Hp):Hp:=λb=>if b∈L then(match H b with|some (.dK a)=>some (.frz (c b) (.dK a))|x=>x)else H b
def yY(h:b∈L)(e:H b∣.dK a):qk L c H b∣.frz (c b) (.dK a):=by
 unfold qk;rw[if_pos h,e]
def vM(h:b∉L):qk L a H b=H b:=if_neg h
def hZ(h:∀a,H b≠some (.dK a)):qk L d H b=H b:=by
 unfold qk;by_cases c:b∈L
 .rw[if_pos c];cases e:H b with
  | none=>rfl
  | some o=>cases o<;> first|rfl|exact(h _ e).elim
 .rw[if_neg c]
section
variable{P:Program}{w:World}{K:ZA}{mg:ZC}{base:Heap}{k:Nat}{f:Addr}{fd:FuncData}{ps:ZB}{sp:Sp}
def Fg(x:HOk P w H h):HOk P w (qk L (λb=>(h.get? b).getD default) H) h:=by
 intro b o e;let st:∀{b:Addr} {o:HO},cp P w H h b o->cp P w (qk L (λb=>(h.get? b).getD default) H) h b o:=λq=>q.stay (λ_ _ _ q=>q) (λc q=>by rw[hZ (λa z=>by lia)];exact q) λc xs q=>by rw[hZ (λa z=>by rw[q]at z;cases z)];exact q
 by_cases c:b∈L
 .by_cases d:∃a,H b∣.dK a
  .let%[a|d]:=d;rw[yY c d]at e;cases e;let%[i|g]:=(x b _ d).there;exact%[by rw[g];rfl|st (x b _ d)]
  .rw[hZ (λa z=>d %[a|z])]at e;exact st (x b o e)
 .rw[vM c]at e;exact st (x b o e)
def HK(u:Un fs [] H c h h'):Un fs [] H (qk L g c) h h':=by
 show%[u.keep,u.slot,λb o e n d=>?_,u.there,λb xs e=>?_,λb o v e=>?_|λb q e=>?_]
 .let:=u.free b o e n d;rw[hZ (λa z=>by lia)];exact this
 .let:=u.tups b xs e;rw[hZ (λa z=>by rw[this]at z;cases z)];exact this
 .let:=u.frzs b o v e;rw[hZ (λa z=>by rw[this]at z;cases z)];exact this
 .let%[m|this]:=u.tbls b q e;exact%[m|by rw[hZ (λa z=>by rw[this]at z;cases z)];exact this]
def d9.freeze(F:d9 P w K mg base CX0 k f fd ps sp):d9 P w K mg base CX0 k f fd ps (λvs H Q E=>sp vs H (λv b=>∃L,∀c,Q v (qk L c b)) E):=by
 show%[λvs H Q E=>F.len vs H _ E|λA outer s H args us vs Q E d g h i j=>codeAny_mono (F.run A outer s H args us vs _ E d g h i j) λr s' a=>?_];cases r with
 | error e=>exact a
 | ok l=>
   cases l with
   | ret u=>
     let%[v,z,m,n,o,p,q,L|y]:=a;exact%[v,_,m,n,HK o,Fg p,q|y _]
   | next=>exact a
   | brk=>exact a
   | cont=>exact a
end
abbrev Itk(d:Addr)(o:Obj)(a:List (Key×V)):It:=⟨λi H=>H d∣.frz o (.dK a)/\i< ~~~a,λi H x b=>b=H/\∃k v,a[i]?∣(k,v)/\x=kV k,λi H=>H d∣.frz o (.dK a)/\ ~~~a<=i⟩
abbrev C6(te:TE):TI:=λc H R=>te c H λv b=>∃d o a,v= .ref d/\b d∣.frz o (.dK a)/\R (Itk d o a) b
def Fh(h:jA k v=true):aJ (kV k) v:=by
 rcases be h with⟨i,t,rfl,rfl⟩|⟨x,t,rfl,rfl⟩
 .exact%[t|ρ]
 .exact%[t|ρ]
def HL{a:List _}{vs:List _}(r:KV a vs){i:Nat}{k:Key}{v:V}(e:a[i]?∣(k,v)):∃u,vs[i]?∣(k,u)/\aJ v u:=by
 induction r generalizing i with
 | nil=>cases e
 | @cons p q ps qs b t c=>
   cases i with
   | zero=>
     obtain rfl:p=(k,v):=Za e;exact%[q.2,by rw[show k=q.1 from b.1];rfl|b.2]
   | succ i=>exact c e
def oR(r:KV a vs): ~~~a= ~~~vs:=by
 induction r with
 | nil=>rfl
 | cons _ _ b=>simp_all
section
variable{P:Program}{w:World}{K:ZA}{tg:Expr}
def C7{X:Cx}(I:JQ X ff p H s)(e:H d∣.frz o (.dK a))(b:o.data= .dict h i):∃vs,KV a vs/\s.heap.DictAt (aI X.prog X.w) d vs i:=by
 let%[g,q,u,vs,r,v,j,l,c,m,f|n]:=I.hok d _ e;rw[g]at c;cases c;rw[b]at f;cases f;exact%[vs,r,_,h,g,m,b|n]
def C8(d it:Addr)(o:Obj)(kvs:List _):pZ P w K tg (Itk d o kvs) [it] it (λi h=>∃es ep,o.data= .dict es ep/\h.IsKeyIter it d i kvs.length ep) where
 mem:=by simp
 obj:=λi h st b hb=>by
  let e:=↑hb
  subst e;let%[_,_,_,o,e,c|d]:=st;exact%[o,e|λv z=>by rw[d]at z;cases z]
 keep:=λi h h' ⟨es,ep,ho,st⟩ k=>%[es,ep,ho|st.at λo e=>k it ∅ o e]
 item:=by
  intro X hP hw hK hc i ff s σ H E I hf st hg;subst hP hw hK;let%[es,ep,ho|st]:=st;let%[hd|hi]:=hg;let%[vs,r|da]:=C7 I hd ho;let ln:=oR r;let%[u,hu|ru]:=HL r (Z4 hi);let%[f0,f1,f2,f3,f4|f5]:=hf it ∅;rw[ln]at st;show wpAny_pyNext_dict_item st da hu λkey h' hk st' sb=>?_
  rw[<-ln]at st';let%[o',e,c|dd]:=id st';exact%[key,ρ|qB e c dd (!1) %[_,H,(I.turned (λb o hb e=>(sb.2 b hb).trans e) f0 f1 f3 f4 f5),Fh hk,%[ρ,_,_,Z4 hi|ρ],%[es,ep,ho|st']|λb hb=>(hf b hb).1]]
 done:=by
  intro X hP hw hK hc i ff s σ H E I hf st hg;subst hP hw hK;let%[es,ep,ho|st]:=st;let%[hd|hi]:=hg;let%[vs,r|da]:=C7 I hd ho;let ln:=oR r;let%[f0,f1,f2,f3,f4|f5]:=hf it ∅;rw[ln]at st;exact wpAny_pyNext_dict_end (I.ok.hd hc) st da (Xm ⋯) λh' eb=>%[rfl|I.turned (λb o hb e=>eb b o hb e) f0 f1 f3 f4 f5]
 self:=λ_ _ _ _ _ ⟨_,_,_,st⟩ h=>wpAny_pyIter_keyiter st h
def Fi{X:Cx}(p:PE X l u):PI X tg l (C6 u):=by
 intro ff s y H R I h;show thP (p ff s y H _ I h) λv c x z a A B=>?_
 let%[d,o,f,e,C|q]:=B;subst e;cases A;let%[g,O,E,vs,r,G,j,m,i,J,n|L]:=a.hok d _ C;let M:c.heap.DictAt _ d vs m:=%[G,j,i,J,n|L]
 rw[g]at i;cases i;show wpAny_pyIter_dict E M %[⇑c,[⇑c],_,_,z,rfl,a.kept λb o e=>Z7 _ e,C8 d _ o f,%[j,m,n,_,Zj _ rfl,rfl|by rw[oR r];rfl],λb N=>?_|q];let e:=↑N
 subst e;exact a.fpOk (Zi _) (a.hok.fresh (Zi _))
def Ju{X:Cx}(a:QE X l b):QI X tg l (C6 b):=⟨Fi a.h⟩
variable{elts:List Expr}{kt:Nat}{tp:Pos}
end
section
variable{X:Cx}
abbrev Jv:V->List V->Hp->VK->Prop:=λx vs H Q=>asR x λa=>∃b,vs=[.ref b]/\∃c more,a≠b/\H a∣.dK c/\H b∣.dK more/\ ~~~c+ ~~~more<=sizeLine/\Q .non (JO H a (.dK (iO c more)))
def HM:MtM X "dict.update" Jv:=by
 intro ff s B H x vs v us Q I m n h;let%[a,rfl,b,rfl,o,more,ne,g,p,i|q]:=eG h;cases m;let%[u,rfl|r]:=n.one;cases r;let%[z,w,vs,d|j]:=mB I.hok g;let%[C,e,ms,c|f]:=mB I.hok p;exact call_meetsIn PySem.F.slot_dict_update j.typeIs PySem.F.entry_dict_update (PySem.F.args_dict_update_2 _ _) (meets_dict_update _ a b ne e) %[vs,ms,j,f,by rw[<-oR d,<-oR c];exact i|λh' l E y=>%[.non,_,j9 I (g▸True.intro) y (let⟨q,_,_,A,_⟩:=l;%[q|A]) (nQ (Nat.le_trans (fR _ _) i) w (KV.merge c d) l),rfl|q]]
def C9:MtQ X "dict.update" Jv:=⟨HM⟩
end
def Cal.freeze{P:Program}{K:ZA}(C:Cal P w K mg base k x ps sp):Cal P w K mg base k x ps (λvs H Q E=>sp vs H (λv a=>∃L,∀b,Q v (qk L b a)) E):=by
 let%[f,c,F|r]:=C.ex;exact%[f,c,F.freeze|r]
def Cal.imp{P:Program}{K:ZA}(C:Cal P w K mg base k x ps sp)(h:∀vs H Q E,a vs H Q E->sp vs H Q E):Cal P w K mg base k x ps a:=by
 let%[f,b,F|r]:=C.ex;exact%[f,b,F.imp h|r]
section
variable{X:Cx}
variable{prog:Program}{w:World}{A:Around}{R:Result->Shared->Prop}{I S:Addr}{fp wr:List Addr}{n:Nat}{P:Nat->Value->Prop}{St:Nat->Heap->Prop}{val:Nat->Int}{kn:Str}{d:Value}
variable{e:Expr}{v:Expr}{te:TE}{tv:TE}{p:Pos}{pos:Pos}{kpos:Pos}
variable{K:ZA}
end
section
variable{prog:Program}{w:World}{A:Around}{s:Shared}{E:ZD}
abbrev Jw(h:Heap)(k:Int×Str)(a:Addr):Prop:=∃(o:Obj) (n:Nat) (t t':Tok),h.get? a∣o/\o.cls= .type "tuple"/\o.data= .seq #[.int k.1 t,.str k.2 t'] n
def vN{S:Addr}{ps:List (Addr×Int×Str)}{Q:ZD}(h:∀(m:ZD) (R:ZF->Shared->Prop),(∀f vs,vs.Perm (ps.map λp=>Value.ref p.1)->(∀b o,s.heap.get? b∣o->f.heap.get? b∣o)->f.gens=s.gens->f.os=s.os->R vs f)->↥A.in1 (collect (.ref S)) R m s)(tk:∀p∈ps,Jw s.heap p.2 p.1)(j: ~~~ps<=1000)
 (q:∀(f s':Shared) (l:Addr) (ss:List (Addr×Int×Str)) (n:Nat),ss.Perm ps->(∀b o,s.heap.get? b∣o->f.heap.get? b∣o)->f.gens=s.gens->f.os=s.os->(∀b o,f.heap.get? b∣o->s'.heap.get? b∣o)->s'.gens=f.gens->s'.os=f.os->⇑f<=l->s'.heap.get? l=some {cls:= .type "list",data:= .seq (ss.map λp=>Value.ref p.1).toArray n}->Q (.ref l) s'):
 ↥A (call (.builtin "sorted") [.ref S]) Q E s:=
 mL (G:=λvs=>∃i t z t',vs=[Value.int i t,Value.str z t']) (T:="int") h j (λp r=>by
  let%[o,n,t,t',g,c|d]:=tk p r;exact%[o,_,n,g,c,d,_,_,_,_|ρ]) (λ_ ⟨_,_,_,_,e⟩=>%[_,_,e|rfl]) (!1) (λ_ _ ⟨_,_,_,_,a⟩ ⟨_,_,_,_,b⟩=>by
  subst a b;exact .it _ _ _ _ (.st _ _ _ _ (.nl _))) q
end
section
variable{X:Cx}{K:ZA}
abbrev t7(H:Hp)(ps:List (Addr×Int×Str)):Prop:=∀p∈ps,-1000<=p.2.1/\H p.1&&&[.int p.2.1,.str p.2.2]
def vO:∀{ps:List (Addr×Int×Str)} {us:ZF},aD (ps\0) us->us=ps.map λp=>Value.ref p.1
 |[],_,.nil=>rfl
 | _::_,_,.cons r t=>by
   cases r;rw[vO t];rfl
def vP:∀(ps:List (Addr×Int×Str)),aD (ps\0) (ps.map λp=>Value.ref p.1)
 |[]=> .nil
 | _::ps=> .cons rfl (vP ps)
def AF(h:X.K=K):cq X (.builtin "sorted") (λxs H Q=>∃a ps,xs=[.ref a]/\JP K H a (ps\0)/\t7 H ps/\ ~~~ps<=1000/\
 ∀l (ss:List _),H l=none->ss.Perm ps->Q (.ref l) (JO H l (.lst (ss\0)))):=by
 subst h;show⟨λff s M H xs us Q I r h=>?_⟩;let%[a,ps,rfl,w,y,d|q]:=h;let%[u,rfl|z]:=cU r;cases z;let%[its,e,%[o,n,A,f,m|i]|N]:=I.list w;let:=vO e;subst this;show vN (λO R B=>wpAny_collect_seq a (.inl rfl) A f i (λh' k=>?_) (!2)) (λp C=>?_) d λT s' l ss n v k1 g1 E k g o c G=>?_
 .exact B _ _ (List.Perm.refl _) k rfl rfl
 .let%[_,its,e,o,L,f,n|m]:=I.hok p.1 _ (y p C).2;let%[_,_,rfl,%[t|rfl],t'|rfl]:=iu e;exact%[o,n,t,t',L,f|m]
 .let j:=I.keptS k1 g1 E;let b:=j.hok.fresh c;let J:=j.keptS k g o;show%[.ref l,_,j.stoodS (o:= .lst _) J c %[?_,ss.map _,n,vP ss|G],ρ|q l ss b v];rw[Z6,v.length_eq,sizeLine_eq]
  lia
nonrec abbrev Jx:R2:=λx y H Q=>∃a b xs ys,x= .ref a/\y= .ref b/\H a<*xs/\H b<*ys/\ ~~~xs= ~~~ys/\(∀(j:Nat) (x y:V),xs[j]?∣x->ys[j]?∣y->C0 H x y)/\Q (.bl false) H
def HN(B:X.A.units+64<cLine):OpR X (compareOp .NotEq) Jx:=by
 intro ff s C H x y v u Q I d e h;let%[a,b,xs,ys,rfl,rfl,f,g,i,l|q]:=h;cases d;cases e;let%[us,d,m|_]:=I.list (JP.of f);let%[vs,e,n|_]:=I.list (JP.of g);let c:=RcNeAt.lists (A:=X.A) m.isList n.isList (by rw[Zp,Zp,<-d.length,<-e.length,i]) (by omega) λj o p=>by
  let%[x,ex|r]:=hJ d o;let%[y,w|z]:=hJ e p;exact xX I (l j x y ex w) ⋯ r z
 rw[show(List.range us.toArray.size).all _=true by simp]at c;exact c _ _ _ _ %[.bl _,H,I,rfl|q]
def Jy{k:Nat}(a:bM k X.A):OpQ X (compareOp .NotEq) Jx:=⟨HN a.units⟩
def lK{xs:List V}{us:ZF}(r:aD xs us):∀is:List Nat,aD (is.filterMap (xs[·]?)) (is.filterMap (us.toArray[·]?))
 |[]=> .nil
 | i::is=>by
   let h:us.toArray[i]? =us[i]? :=by simp
   rw[Y1,Y1,h];by_cases c:i< ~~~xs
   .let%[u,a|b]:=r.get (i:=i) (x:=xs[i]) ∅;rw[a,Z4 c];exact .cons b (lK r is)
   .rw[Xm (by omega),Xm (by let:= ~~~r;omega)];exact lK r is
variable{ff:ZE}{σ:St}{H:Hp}{s:Shared}
end
def Jz{X:Cx}{K:ZA}(h:X.K=K)(g:X.calm=true):cq X (.builtin "any") (λxs H Q=>∃(p:Addr) (bs:List Bool),xs=[.ref p]/\JP K H p (bs.map V.bl)/\Q (.bl (bs.any id)) H):=by
 subst h;show⟨λ{ff s C H xs us Q} I r h=>?_⟩;let%[p,bs,rfl,j|q]:=h;let%[u,rfl|l]:=cU r;cases l;let%[its,f,pl|E]:=I.list j;let m:p<⇑s:=by let%[o,n|_]:=pl.isList;exact Zu n
 let a: ~~~bs=its.toArray.size:=by rw[Zp,<-f.length,Z6]
 show call_any_walk (wpAny_pyIter_list pl.isList ?_);show%[⇑s,[⇑s,p],[⇑s],its.toArray.size,_,_,λi=>bs.getD i false,ρ,Walks.list (A:=X.A.in1) (I.ok.hd g) _ p (Zs m) its.toArray,%[%[_,Zj _ rfl,ρ|ρ]|pl.isList.push _],?_|?_]
 .intro i v s' w G y c;let%[b,d|rfl]:=sW f ↑y;let c:w (bs.getD i false) s':=c;rw[Zc,d]at c;exact wpAny_truthy_bool c
 .intro h' tk z;rw[<-a,show(List.range bs.length).any _=bs.any id by
   let e:(List.range bs.length).map (λi=>bs.getD i false)=bs:=ext_getElem ∅ λi J B=>by simp[B]
   rw[show(List.range bs.length).any _=((List.range bs.length).map λi=>bs.getD i false).any id by rw[any_map];rfl,e]]
  exact%[.bl _,H,I.kept λb o e=>z b o (λd=>absurd (Xp d) (Zs (Zu e))) (Z7 _ e),ρ|q]
def JA{X:Cx}{K:ZA}{a:Expr}{b:TE}{pos e:Pos}{lo hi:Option Expr}{c d:TO}(_:X.K=K)(f:QE X a b)(g:QO X lo c)(h:QO X hi d):QE X (.Subscript a (.Slice lo hi none e) pos) (tSl GN b c d):=⟨uK GO f.h g.h h.h⟩
def valT{X:Cx}{a:Expr}{c:TE}(d:∀b,isTrue a X.env b=(do let v<-b;standAt a.pos;holding [v] (truthy v)))(e:QE X a c):QT X a (tB c):=⟨F0 e.h d⟩
abbrev qo(key:Nat->Str)(val:Nat->V)(n:Nat):List (Key×V):=(List.range n).foldl (λa j=>cR a (Sum.inr (key j)) (val j)) []
def lL(key:Nat->Str)(val:Nat->V)(n:Nat):qo key val (n+1)=cR (qo key val n) (Sum.inr (key n)) (val n):=by
 unfold qo;rw[range_succ,foldl_append];rfl
def oS(key:Nat->Str)(val:Nat->V):∀n,~~~(qo key val n)<=n
 | 0=>Zi _
 | n+1=>by
   rw[lL];let:=ef (qo key val n) (Sum.inr (key n)) (val n);let:=oS key val n
   lia
section
variable{prog:Program}{w:World}{A:Around}{R:Result->Shared->Prop}{I:Addr}{fp wr:List Addr}{G:Array GenState->Array GenState->Prop}{n:Nat}{P:Nat->Value->Prop}{St:Nat->Shared->Prop}
def x6(W:WalksS prog w A.in1 I fp wr G n P St)(d:Addr)(z:d∉fp)(B:Nat->Addr)(key:Nat->Str)(val:Nat->V)(O:∀i v,P i v->v= .ref (B i))(L:∀i,i<n->B i∉d::wr)(p:n<=sizeLine):
 ∀(k i:Nat) (j:Int) (s:Shared),n-i=k->i<=n->St i s->(∃vs,KV (qo key val i) vs/\s.heap.DictOf (aI prog w) d vs)->
  (∀i,i<n->∃a t u m,s.heap.get? (B i)∣a/\a.cls= .type "tuple"/\a.data= .seq #[.str (key i) t,u] m/\aJ (val i) u)->
  (∀s',Moved (d::wr) G s s'->(∃vs,KV (qo key val n) vs/\s'.heap.DictOf (aI prog w) d vs)->R (.ok (.ret .none)) s')->codeAny (model prog w) A (.builtin "dict.update.loop" %[[.ref d,.ref I,.int j 0,.none]|[]]) R s:=by
 let out:d∉wr:=λh=>z (W.sub _ h)
 let more:∀b∈wr,b∈d::wr:=λb p=>Zk _ p
 let c:∀{h h':Heap} {vs:List (Key×Value)},(∀o,h.get? d∣o->h'.get? d∣o)->h.DictOf (aI prog w) d vs->h'.DictOf (aI prog w) d vs:=λk D=>by
  let%[o,Q,T,U|r]:=D;exact%[o,Q,T,k o U|r]
 intro k
 induction k with
 | zero=>
   intro i j s Y hi st C M f;let e:i=n:=by lia
   subst e;show codeAny_builtin rK ?_;rw[Around.under_plainId jo _];change wpAny _ A.in1 (pyNext (.ref I)>>= _) _ _ s;show Z2 (W.done s _ _ st λl y=>?_);change wpAny _ A.in1 (Builtin.Dict.addKeywords d []>>= _) _ _ l;show Z2 (Z3 ?_);change wpAny _ A.in1 (ret Value.none) _ _ l;let%[vs,r|D]:=C;exact Z3 (f l (y.mono more) %[vs,r|c (λo e=>y.heap d o out e) D])
 | succ k ih=>
   intro i j s Y hi st C M f;let lt:i<n:=by lia
   show codeAny_builtin rK ?_;rw[Around.under_plainId jo _];change wpAny _ A.in1 (pyNext (.ref I)>>= _) _ _ s;show Z2 (W.item i s _ _ lt st λv l pv E y=>?_);obtain rfl:=O i v pv;let%[vs,r|D]:=C;let D1:=c (h':=l.heap) (λo e=>y.heap d o out e) D;let N:∀i,i<n->∃a t u m,l.heap.get? (B i)∣a/\a.cls= .type "tuple"/\a.data= .seq #[.str (key i) t,u] m/\aJ (val i) u:=λi hi=>by
    let%[a,t,u,m,g|q]:=M i hi;exact%[a,t,u,m,y.heap _ _ (λh=>L i hi (more _ h)) g|q]
   let%[a,t,u,m,g,hc,hd|ru]:=N i lt;show Z2 (wpAny_holding (Z2 (wpAny_tryCatch ?_)));show Z2 (wpAny_typeOf %[_,g|hc] ?_);show Z2 (wpAny_seqItems g hd (Z3 ?_));let vl: ~~~vs<=sizeLine:=by
    rw[<-r.length];exact Nat.le_trans (oS key val i) ⋯
   show wpAny_holding (wpAny_dictSet_pairs (mr prog w (key i) t) D1 λh2 D2 H=>?_);show Z3 %[plainId_quiet jo _|ih (i+1) _ _ ⋯ lt (W.frame _ l _ _ E (Yg _) λb p o e=>?_) %[_,by rw[lL];exact r.put _ ru|D2] (λi hi=>?_) λs3 m3 J=>?_]
   .rw[H.2 b (λq:b=d=>z (q▸p))];exact e
   .let%[a,t,u,m,g|q]:=N i hi;exact%[a,t,u,m,(H.2 _ (λq=>L i hi (by rw[q];exact Zm))).trans g|q]
   .show f s3 (Moved.trans W.gtrans ((y.mono more).then_heap (Yg _) λb o p e=>?_) m3) J;rw[H.2 b (λq:b=d=>p (by rw[q];exact Zm))];exact e
end
section
#where
def lM{l:Addr}{o:Obj}{items:ZJ}{c:Nat}{L:Nat->Addr}{key:Nat->Str}{val:Nat->V}{Q:ZD}(hh:A.handled=none)(Y:s.heap.get? l∣o)(M:o.cls= .type "list")(h:o.data= .seq items c)(hd:o.dict=none)(hb:items.size<=sizeLine)
 (hv:∀(i:Nat) v,items[i]?∣v->v= .ref (L i)) (hT:∀i,i<items.size->∃a t u m,s.heap.get? (L i)∣a/\a.cls= .type "tuple"/\a.data= .seq #[.str (key i) t,u] m/\aJ (val i) u)
 (hQ:∀(h':Heap) (tk:Nat) vs,KV (qo key val items.size) vs->h'.DictOf (aI prog w) ⇑s vs->(∀b o,s.heap.get? b∣o->h'.get? b∣o)->Q (.ref ⇑s) {s with heap:=h',toks:=tk}):
 ↥A (call (.type "dict") [.ref l]) Q E s:=by
 show callType_codes (Q₁:=λobj j=>obj= .ref ⇑s/\j={s with heap:=s.heap.push {cls:= .type "dict",data:= .dict #[]}}) PySem.F.kt_called_dict (PySem.F.kt_typeCall_dict_1 _) PySem.F.entry_dict_init (kt_code_dict_new _ %[rfl|rfl]) ?_;intro obj j %[rfl|rfl];let d:(s.heap.push {cls:= .type "dict",data:= .dict #[]}).DictOf (aI prog w) ⇑s []:=Heap.DictOf.new s.heap;let n:(s.heap.push {cls:= .type "dict",data:= .dict #[]}).get? l∣o:=Z7 _ Y;show%[d.typeIs,PySem.F.args_dict_init_2 _ _|?_];unfold Builtin.«dict.__init__»;show Z2 ?_;unfold Builtin.Dict.selfAndRest;show Z2 (wpAny_notOrdered_dict d.typeIs ?_);change wpAny _ _ (pure (⇑s,[Value.ref l])) _ _ _;show Z3 ?_;change wpAny _ _ (Builtin.Dict.updateFrom "dict.__init__" ⇑s (.ref l) [] .none) _ _ _;unfold Builtin.Dict.updateFrom;show Z2 (wpAny_typeOf (T:="list") %[_,n|M] ?_);let h2:A.in1.in1.handled=none:=by simp[hh]
 show Z2 (Ay n M h hd h2 λG aa N=>?_);show Z2 (wpAny_rule ?_);let p:G.IsList l items:=%[o,N _ _ n,M,c|h]
 show Z2 (wpAny_pyIter_list p ?_);show Z3 %[plainId_quiet jo _|?_];let y:∀b a,s.heap.get? b∣a->G.get? b∣a:=λb a e=>N _ _ (Z7 _ e)
 let z:=Zu Y;let d1:∃od H I,G.get? ⇑s∣od/\_:=let⟨od,H,I,g,r⟩:=d;%[od,H,I,N _ _ g|r];let f:⇑s<G.objs.size:=by let%[_,_,_,g|_]:=d1;exact Zu g
 show x6 ((Walks.list h2 _ l (Zs (Nat.lt_trans z f)) items).toS) ⇑s ?_ L key val hv (λi hi=>?_) hb items.size 0 0 _ ⋯ (Xg _) %[%[_,Zj _ rfl,rfl|rfl]|p.push _] %[[],.nil|?_] (λi hi=>?_) ?_
 .simp only[Yy,X8,or_false,not_or];exact%[Zs f|X2 z]
 .let%[a,t,u,m,g|_]:=hT i hi;let B:=Zu g;simp only[Yy,X8,or_false,not_or];exact%[Zs B|Zs (Nat.lt_trans B f)]
 .let%[od,H,I,g|r]:=d1;exact%[od,H,I,Z7 _ g|r]
 .let%[a,t,u,m,g|q]:=hT i hi;exact%[a,t,u,m,Z7 _ (y _ _ g)|q]
 .intro s3 J %[vs,r|dd];let%[h',g',d',O|U]:=s3;let eg:g'=s.gens:=J.gens;let ed:d'=s.drawn:=J.drawn;let eo:U=s.os:=J.os;subst eg;subst ed;subst eo;show%[ρ|hQ h' O vs r dd λb a e=>?_];let C:=Zu e;show J.heap b a ?_ (Z7 _ (y _ _ e));simp only[Yy,X8,or_false,not_or];exact%[Zs C|Zs (Nat.lt_trans C f)]
end
abbrev kB(ps:List (Addr×Str×V)):List (Key×V):=ps.foldl (λa q=>cR a (Sum.inr q.2.1) q.2.2) []
def rP(ps:List _)(key:Nat->Str)(val:Nat->V)(b:∀i q,ps[i]?∣q->key i=q.2.1/\val i=q.2.2):qo key val ps.length=kB ps:=by
 let:∀n,n<= ~~~ps->qo key val n=kB (ps.take n):=λn=>by
  induction n with
  | zero=>intro _;rfl
  | succ n c=>
    intro h;let a:=Z4 (show n< ~~~ps by lia);let%[d|e]:=b n _ a;rw[lL,c ⋯,Xc,a,d,e];unfold kB;rw[foldl_append];rfl
 simp_all
section
variable{X:Cx}{K:ZA}
def x8(E:X.calm=true):bZ X (.type "dict") (λxs H Q=>∃p ps,xs=[.ref p]/\JP X.K H p (ps\0)/\(∀q∈ps,H q.1&&&[.str q.2.1,q.2.2])/\∀l,H l=none->Q (.ref l) (JO H l (.dK (kB ps)))):=by
 intro ff s σ H xs us Q I r h;let%[p,ps,rfl,G,J|q]:=h;let%[u,rfl|f]:=cU r;cases f;let%[its,y,%[o,n,L,j,M|d]|z]:=I.list G;let c:= ~~~y;rw[Z6]at c z;let w:its.toArray.size= ~~~ps:=!2
 let N:∀(i:Nat) v,its.toArray[i]?∣v->v= .ref ((ps[i]?.map _).getD 0):=λi v e=>by
  let e:=↑e
  let hi:i< ~~~ps:=by rw[c];exact(Xn e).1
  let%[u,A|f]:=y.get (by rw[Zl,Z4 hi];rfl);rw[e]at A;rw[Za A,Z4 hi];exact f
 show lM (key:=λi=>(ps[i]?.map (·.2.1)).getD Str.empty) (val:=λi=>(ps[i]?.map (·.2.2)).getD .non) (I.ok.hd E) L j d M ⋯ N (λi hi=>?_) λh' tk vs B O k=>?_
 .let hi:i< ~~~ps:=by lia
  rw[Z4 hi];let%[_,ts,rt,T,g,U,m|C]:=(I.hok _ _ (J _ (Yc hi)))
  let%[a,b,e,%[t|Y]|eb]:=iu rt;rw[e,Y]at C;exact%[T,t,b,m,g,U,C|eb]
 .rw[w,rP ps _ _ (λi q e=>by rw[e];exact%[ρ|ρ])]at B;let hl: ~~~(kB ps)<=sizeLine:=by
   rw[<-rP ps (λi=>(ps[i]?.map _).getD Str.empty) (λi=>(ps[i]?.map _).getD .non) (λi q e=>by rw[e];exact%[ρ|ρ])];exact Nat.le_trans (oS _ _ _) z
  show%[.ref ⇑s,_,I.laid k (Zi _) (nQ hl ?_ B O),ρ|q _ I.fresh];exact beq_eq_false_iff_ne.mpr (Ne.symm (Zs I.big))
def yZ(h:X.K=K)(a:X.calm=true)(_:bM k X.A):cq X (.type "dict") (λxs H Q=>∃p ps,xs=[.ref p]/\JP K H p (ps\0)/\(∀q∈ps,H q.1&&&[.str q.2.1,q.2.2])/\∀l,H l=none->Q (.ref l) (JO H l (.dK (kB ps)))):=by subst h;exact⟨x8 a⟩
end
abbrev JB(te:TE):TE:=λd H Q=>te d H λv b=>∃(a:Addr) (ss:ZG),v= .ref a/\b a∣.lst (ss\0)/\aM b ss/\ ~~~ss<=200/\(∀p∈ss,~~~p.2<=3/\∀z∈p.2,~~~z<=30/\∀c∈z.cps.toList,c<16^8)/\∀z:Str,~~~z<=200000->Q (.str z) b
def JC{X:Cx}{e:Expr}{te:TE}{pos:Pos}(g:X.A.guards∣[])(N:X.A.units+64<cLine)(i:QE X e te):QE X (.FormattedValue e 114 none pos) (JB te):=by
 show⟨λff s j H Q I h=>?_⟩;show wpAny_FormattedValue_repr (thP (i.h ff s j H _ I h) λu l v m b r ⟨a,ss,o,p,w,O,y,q⟩=>?_);subst o;cases r;let%[us,z,pl|_]:=b.list (JP.of p);let%[%[cls,T,data|U],A,B,n|C]:=pl.isList;let%[as|E]:=oQ b w z;let%[G,J,Y,L|f5]:=x5 y;let len:=PyData.shown_le 8 (!1) (.list (ss.map oP)) (by simpa only[PyData.leavesShort]using L);simp only[PyData.weight]at len;let c: ~~~(PyData.shown (.list (ss.map oP)))<=200000:=by lia
 let f: ~~~(PyData.shown (.list (ss.map oP)))<=sizeLine:=Nat.le_trans c (!1);show pyReprObj_of_reads (h₀:=l.heap) (d:= .list (ss.map oP)) (.list A B C E) (by simpa only[PyData.showable]using G) (λx=>by simp only[PyData.hasDict,J]at x;cases x) g (by simp only[PyData.depth];lia) (λ_ _ x=>x) (λh' t tk k=>?_) f;exact formatField_str (λt' M=>%[.str _,m,(b.kept k).tok _,%[_|rfl]|q _ c]) f
abbrev HP(K:ZA)(c:TE):TI:=λd H R=>c d H λx b=>asR x λa=>(∃xs,JP K b a xs)/\R (Itl K a) b
def cS{X:Cx}{K:ZA}{g l:Expr}{f:TE}(h:X.K=K)(i:QE X l f):QI X g l (HP K f):=by
 subst h;show⟨λff s j H R I h=>thP (i.h ff s j H _ I h) λv c x m d n r=>?_⟩;let%[a,rfl,%[xs|u]|q]:=eG r;cases n;let%[its,y,p|z]:=d.list u;exact wpAny_pyIter_list p.isList ⟨⇑c,[⇑c],_,_,m,rfl,d.kept (t':=c.toks) λb o e=>Z7 _ e,qC a _,%[_,Zj _ rfl,rfl|rfl],λb w=>by
  obtain rfl:b=⇑c:=↑w
  exact d.fpOk (Zi _) (d.hok.fresh (Zi _)),q⟩
def dj{X:Cx}:OpQ X (binaryOp .Add) xf:=⟨GH⟩
def h9{X:Cx}{K:ZA}{e:Expr}{lo hi:Option Expr}{te:TE}{a b:TO}{c pos:Pos}(h:X.K=K)(d:QE X e te)(f:QO X lo a)(g:QO X hi b):QE X (.Subscript e (.Slice lo hi none c) pos) (tSl (xa K) te a b):=by subst h;exact⟨uK Ek d.h f.h g.h⟩
def ic{X:Cx}:OpQ X (binaryOp .Add) FG:=⟨wV⟩
open PySem
def JD{K:ZA}{z:Str}{H:Hp}:tyV K "str" (.str z) H=True:=eq_true rfl
def tyL{K:ZA}{l:Addr}{H:Hp}{xs:List V}(h:JP K H l xs):tyV K "list" (.ref l) H:= .inl %[rfl,_|h]
def tyD{K:ZA}{l:Addr}{H:Hp}{a}(h:H l∣.dK a):tyV K "dict" (.ref l) H:= .inr (.inr (.inl %[rfl|.inl %[_|h]]))
def cJ{v:Type}{K:ZA}{l D:Addr}{us:List v}{f:v->V}{c:St}{H:Hp}{g:TG}{w:TT}{te:TE}{z:Hp->Prop}(Pv:Nat->List V->St->Hp->Prop)(A:Pv 0 [] c H)(r:∀i ys c H,Pv i ys c H->H l<*us.map f)
 (B:∀i ys c H (hi:i< ~~~us),Pv i ys c H->g (f us[i]) c H λa s=>w a s λb d=>if b=true then te a d λy q=>CK D us.length i Pv ys a y q else CN us.length i Pv ys a d) (C:∀ys c H,Pv us.length ys c H->z H):
 ∃W:Nat->Nat->List V->St->Hp->Prop,(∃m,W 0 m [] c H)/\∀i m ys h j,W i m ys h j->((Itl K l).stop i j/\z j)\/
  ((Itl K l).go i j/\∀x u,(Itl K l).yld i j x u->g x h u λa s=>w a s λb d=>if b=true then te a d λy q=>∃zs o,q D<*zs/\ ~~~zs<sizeLine/\o<m/\W (i+1) o (ys++[y]) a (JO q D (.lst (zs++[y])))
    else∃o,o<m/\W (i+1) o ys a d):=
 cZ (n:= ~~~us) Pv A (λi ys c H hi p=>%[_,f us[i],JP.of (r _ _ _ _ p)|by simp[hi]]) (λys c H p=>%[_,JP.of (r _ _ _ _ p)|by simp]) (λi ys c H hi p x u ⟨e,E⟩=>by
  subst e;let:=E _ (JP.of (r _ _ _ _ p));rw[Zl,Z4 hi]at this;obtain rfl:f us[i]=x:=Za this;exact B i ys c _ hi p) C
def cu{j:Type}{K:ZA}{a:Addr}{us:List j}{f:j->V}{b:St}{H:Hp}{g:TG}{l:TS}{D:fU}(Pv:Nat->St->Hp->Prop)(q:Pv 0 b H)(r:∀i b H,Pv i b H->H a<*us.map f)
 (s:∀i u b H,us[i]?∣u->Pv i b H->g (f u) b H λc h=>l {D with nx:=Pv (i+1),ct:=Pv (i+1),bk:=D.nx} c h) (v:∀b H,Pv us.length b H->D.nx b H):
 ∃W:Nat->Nat->St->Hp->Prop,(∃m,W 0 m b H)/\∀i m b H,W i m b H->
  ((Itl K a).stop i H/\D.nx b H)\/((Itl K a).go i H/\∃N:St->Hp->Prop,(∀d e,N d e->∃n,n<m/\W (i+1) n d e)/\∀x e,(Itl K a).yld i H x e->g x b e λc h=>l {D with nx:=N,ct:=N,bk:=D.nx} c h):=
 fW (xs:=us.map f) Pv q (λi b H _ p=>JP.of (r i b H p)) (λi x b H o p=>by
  rw[Zl]at o;let%[u,w|rfl]:=map_eq_some_iff.mp o;exact s i u b H w p) (by rw[Z6];exact v)
section
variable{X:Cx}
abbrev rvI(n:Nat):List Nat:=sliceRange (sliceBounds none none (some (-1)) n).1 (sliceBounds none none (some (-1)) n).2.1 (sliceBounds none none (some (-1)) n).2.2
abbrev HQ(te b:TE):TE:=λd H Q=>te d H λx e=>b d e λy c=>∃a xs,x= .ref a/\c a<*xs/\y= .int (-1)/\∀p:Addr,c p=none-> ~~~((rvI xs.length).filterMap (xs[·]?))<= ~~~xs->Q (.ref p) (JO c p (.lst ((rvI xs.length).filterMap (xs[·]?))))
def HR{e st:Expr}{te c:TE}{pos o:Pos}(p:PE X e te)(g:PE X st c):PE X (.Subscript e (.Slice none none (some st) o) pos) (HQ te c):=by
 intro ff s i H Q I h;show Subscript_ (thP (p ff s i H _ I h) λv w x z A B C=>?_);show wpAny_Slice (evalPart_none_step (evalPart_none_step (evalPart_some_step (thP (g ff w i z _ A C) λu f y E G J ⟨a,xs,ex,L,M,q⟩=>?_))));subst ex M;cases B;let%[j|rfl]:=(J)
 let l:JQ X ff i E {f with heap:=f.heap.push {cls:= .type "slice",data:= .fields #[.none,.none,.int (-1) j]}}:=G.kept λb N q=>Z7 _ q
 let O:(f.heap.push {cls:= .type _,data:= .fields #[.none,.none,.int (-1) j]}).IsSliceOf ⇑f _ _ _:=Heap.IsSliceOf.new ..;let%[its,r,m|T]:=l.list (JP.of L);let d:= ~~~r;show tail_any m.isList.typeIs slot_list_getitem.lookup (wpAny_getItem_list_slice m.isList O .none .none (.int (-1) j) ∅ ?_ (!2)) (by with_unfolding_all rfl);let sz:=slicePick_size_le its.toArray none none (some (-1));unfold slicePick at sz ⊢;rw[show its.toArray.size= ~~~xs by exact d.symm]at sz ⊢;let pv:=lK r (rvI xs.length);let n: ~~~((rvI xs.length).filterMap (xs[·]?))<= ~~~xs:=by rw[pv.length];exact sz
 show%[.ref _,_,l.laid (λb N q=>Z7 _ q) (Zi _) ?_,ρ|q _ (l.hok.fresh (Zi _)) n];exact%[Nat.le_trans n T,_,0,pv|Zj _ rfl]
def JE{e st:Expr}{te a:TE}{pos c:Pos}(d:QE X e te)(b:QE X st a):QE X (.Subscript e (.Slice none none (some st) c) pos) (HQ te a):=⟨HR d.h b.h⟩
nonrec abbrev JF:R2:=λx y H Q=>∃i j,x= .bl i/\y= .bl j/\Q (.bl (decide (i=j))) H
def HS:OpR X (compareOp .Is) JF:=by
 intro ff s c H x y v u Q I a b h;let%[i,j,rfl,rfl|q]:=h;cases a;cases b;exact Z3 (a8 I q (by cases i<;> cases j<;> rfl))
def JG:OpQ X (compareOp .Is) JF:=⟨HS⟩
end
end _LL
namespace _CU
open PySem _LL
inductive cK (S:Str->Str->Prop):Str->Str->Prop
 | refl (x:Str):cK S x x
 | step {x y z:Str}:cK S x y->(S y z\/S z y)->cK S x z
def cK.trans{S:Str->Str->Prop}(h:cK S x y)(g:cK S y z):cK S x z:=by
 induction g with
 | refl=>exact h
 | step _ s a=>exact .step a s
def cK.one{S:Str->Str->Prop}(h:S x y\/S y x):cK S x y:= .step (.refl x) h
def cK.symm{S:Str->Str->Prop}(h:cK S x y):cK S y x:=by
 induction h with
 | refl=>exact .refl _
 | step _ s a=>exact(cK.one s.symm).trans a
def cK.mono{S R:Str->Str->Prop}(m:∀a b,S a b->R a b)(h:cK S x y):cK R x y:=by
 induction h with
 | refl=>exact .refl _
 | step _ s c=>exact .step c (s.imp (m _ _) (m _ _))
def cK.within{S:Str->Str->Prop}{p:Str->Prop}(w:∀a b,S a b->p a/\p b)(h:cK S x y)(c:p x):p y:=by
 induction h with
 | refl=>exact c
 | step _ s _=>
   rcases s with s|s
   .exact(w _ _ s).2
   .exact(w _ _ s).1
abbrev ci(S:Str->Str->Prop)(z r:Str):Prop:=cK S z r/\∀y,cK S z y->aP y r=false
def ci.one{S:Str->Str->Prop}(h:ci S z r)(g:ci S z a):r=a:=by
 by_cases e:r=a
 .exact e
 .let:=c9 (g.2 _ h.1) e;rw[h.2 _ g.1]at this;cases this
structure bR (ls:ZB) (f r:Str->Str) (S:Str->Str->Prop):Prop where
 ws:∀a b,S a b->a∈ls/\b∈ls
 fin:∀z∈ls,f z∈ls
 rin:∀z∈ls,r z∈ls
 rf:∀z∈ls,r (f z)=r z
 fr:∀z∈ls,f (r z)=r z
 fix:∀z∈ls,f z=z->r z=z
 dec:∀z∈ls,f z≠z->aP (f z) z=true
 le:∀z∈ls,aP z (r z)=false
 cl:∀x∈ls,∀y∈ls,r x=r y↔cK S x y
def bR.rr{S:Str->Str->Prop}(F:bR ls f r S)(h:z∈ls):r (r z)=r z:=F.fix _ (F.rin z h) (F.fr z h)
def bR.conn{S:Str->Str->Prop}(F:bR ls f r S)(h:z∈ls):cK S z (r z):=(F.cl z h _ (F.rin z h)).mp (F.rr h).symm
def bR.least{S:Str->Str->Prop}(F:bR ls f r S){z:Str}(h:z∈ls):ci S z (r z):=by
 show%[F.conn h|λy c=>?_];let a:=c.within F.ws h;rw[(F.cl z h y a).mpr c];exact F.le y a
def bR.start(ls:ZB):bR ls id id (λ_ _=>False):=by
 show%[λ_ _ h=>h.elim,λz h=>h,λz h=>h,λ_ _=>rfl,λ_ _=>rfl,λ_ _ _=>rfl,λz _ h=>(h rfl).elim,λz _=>c8 z|λx a y b=>%[λe=>?_|λc=>?_]]
 .rw[show x=y from e];exact .refl _
 .induction c with
  | refl=>rfl
  | step _ s _=>simp_all
def bR.join{S:Str->Str->Prop}(F:bR ls f r S){a b M m:Str}(p:a∈ls)(q:b∈ls)(A:M=if aP (r a) (r b)=true then r b else r a)(B:m=if aP (r b) (r a)=true then r b else r a):
 bR ls (λx=>if x=M then m else f x) (λx=>if r x=M then m else r x) (λx y=>S x y\/(x=a/\y=b)):=by
 let g:(M=r a/\m=r b)\/(M=r b/\m=r a):=by
  rw[A,B];cases e:aP _ _ with
  | true=>
    let:aP (r b) (r a)=false:=by
     cases i:aP _ _ with
     | false=>rfl
     | true=>have:=dE e i;rw[c8]at this;cases this
    exact this▸ .inr %[rfl|rfl]
  | false=>
    cases i:aP _ _ with
    | true=>exact .inl %[rfl|rfl]
    | false=>
      let:r a=r b:=by
       by_cases h:r a=r b
       .exact h
       .let:=c9 e h;rw[i]at this;cases this
      exact this▸ .inl %[rfl|rfl]
 let lt:m≠M->aP m M=true:=by
  rw[A,B];cases e:aP _ _ with
  | true=>
    cases i:aP _ _ with
    | true=>intro h;exact(h rfl).elim
    | false=>intro _;exact e
  | false=>
    cases i:aP _ _ with
    | true=>intro _;exact i
    | false=>intro h;exact(h rfl).elim
 let Q:=F.rin a p;let T:=F.rin b q;let C:m∈ls:=by rcases g with⟨_,h⟩|⟨_,h⟩<;> rw[h]<;> assumption
 let E:r M=M:=by rcases g with⟨h,_⟩|⟨h,_⟩<;> rw[h]<;> apply F.rr<;> assumption
 let L:r m=m:=by rcases g with⟨_,h⟩|⟨_,h⟩<;> rw[h]<;> apply F.rr<;> assumption
 let N:cK (λx y=>S x y\/(x=a/\y=b)) M m:=by
  let G:cK (λx y=>S x y\/(x=a/\y=b)) _ _:=(((F.conn p).mono λ_ _=> .inl).symm.trans (.one (.inl (.inr %[rfl|rfl])))).trans ((F.conn q).mono λ_ _=> .inl);rcases g with⟨j,l⟩|⟨j,l⟩
  .rw[j,l];exact G
  .rw[j,l];exact G.symm
 let o:∀x∈ls,cK _ x (if r x=M then m else r x):=λx w=>by
  let c:=(F.conn w).mono (R:=λx y=>S x y\/(x=a/\y=b)) λ_ _=> .inl
  by_cases e:r x=M
  .rw[if_pos e];rw[e]at c;exact c.trans N
  .rw[if_neg e];exact c
 let H:(if r a=M then m else r a)=(if r b=M then m else r b):=by
  rcases g with⟨j,l⟩|⟨j,l⟩
  .rw[if_pos j.symm];by_cases e:r b=M
   .rw[if_pos e]
   .rw[if_neg e];exact l
  .rw[if_pos j.symm];by_cases e:r a=M
   .rw[if_pos e]
   .rw[if_neg e];exact l.symm
 show%[λx y h=>?_,λz d=>?_,λz d=>?_,λz d=>?_,λz d=>?_,λz d h=>?_,λz d h=>?_,λz d=>?_|λx w y I=>%[λe=>?_|λc=>?_]]
 .rcases h with h|⟨rfl,rfl⟩
  .exact F.ws x y h
  .exact%[p|q]
 .split
  .exact C
  .exact F.fin z d
 .split
  .exact C
  .exact F.rin z d
 .by_cases e:z=M
  .rw[if_pos e,e,E,if_pos rfl,L]
   split<;> rfl
  .rw[if_neg e,F.rf z d]
 .by_cases e:r z=M
  .rw[if_pos e]
   split
   .rfl
   .exact(by rcases g with⟨_,h⟩|⟨_,h⟩<;> rw[h]<;> apply F.fr<;> assumption)
  .rw[if_neg e,if_neg e];exact F.fr z d
 .by_cases e:z=M
  .rw[if_pos e]at h;rw[e,E,if_pos rfl,<-e];exact h
  .rw[if_neg e]at h;rw[F.fix z d h,if_neg e]
 .by_cases e:z=M
  .rw[if_pos e]at h ⊢;rw[e]at h ⊢;exact lt h
  .rw[if_neg e]at h ⊢;exact F.dec z d h
 .by_cases e:r z=M
  .rw[if_pos e];cases i:aP z m with
   | false=>rfl
   | true=>
     let n:=F.le z d;rw[e]at n;by_cases em:m=M
     .rw[em]at i;rw[n]at i;cases i
     .let:=dE i (lt em);rw[n]at this;cases this
  .rw[if_neg e];exact F.le z d
 .let c:=(o x w)
  rw[e]at c;exact c.trans (o y I).symm
 .let ws:∀x y,(S x y\/(x=a/\y=b))->x∈ls/\y∈ls:=λx y h=>by
   rcases h with h|⟨rfl,rfl⟩
   .exact F.ws x y h
   .exact%[p|q]
  clear I
  induction c with
  | refl=>rfl
  | step c s O=>
    rename_i u v
    let J:=c.within ws w;rw[O];rcases s with(s|⟨rfl,rfl⟩)|(s|⟨rfl,rfl⟩)
    .rw[(F.cl u J v (F.ws u v s).2).mpr (.one (.inl s))]
    .exact H
    .rw[(F.cl u J v (F.ws v u s).1).mpr (.one (.inr s))]
    .exact H.symm
def bR.short{S:Str->Str->Prop}(F:bR ls f r S)(b:z∈ls):bR ls (λx=>if x=z then f (f z)else f x) r S:=by
 let d:f z≠z->aP (f _) z=true:=λh=>by
  let g:=F.dec z b h;by_cases e:f (f z)=f z
  .exact e▸g
  .exact dE (F.dec _ (F.fin z b) e) g
 show%[F.ws,λx a=>?_,F.rin,λx a=>?_,λx a=>?_,λx a h=>?_,λx a h=>?_,F.le|F.cl]
 .split
  .exact F.fin _ (F.fin z b)
  .exact F.fin x a
 .by_cases e:x=z
  .rw[if_pos e,F.rf _ (F.fin z b),F.rf z b,e]
  .rw[if_neg e];exact F.rf x a
 .by_cases e:r x=z
  .rw[if_pos e];let:=F.fr x a
   simp_all
  .rw[if_neg e];exact F.fr x a
 .by_cases e:x=z
  .rw[if_pos e]at h;rw[e]at h ⊢;by_cases c:f z=z
   .exact F.fix z b c
   .let:=d c;rw[h,c8]at this;cases this
  .rw[if_neg e]at h;exact F.fix x a h
 .by_cases e:x=z
  .rw[if_pos e]at h ⊢;rw[e]at h ⊢;show d λc=>h ?_
   rw[c,c]
  .rw[if_neg e]at h ⊢;exact F.dec x a h
def bR.done{S:Str->Str->Prop}(F:bR ls f r S)(a:z∈ls)(h:∀w∈ls,aP w z=true->f w=r w):f (f z)=r z:=by
 by_cases e:f z=z
 .rw[e,e];exact(F.fix z a e).symm
 .rw[h _ (F.fin z a) (F.dec z a e),F.rf z a]
abbrev Ed(ks:List ZB)(a b:Str):Prop:=∃z,[a,b,z]∈ks
inductive Rch (ks:List ZB):Str->Str->Prop
 | one {a b:Str}:Ed ks a b->Rch ks a b
 | more {a b c:Str}:Rch ks a b->Ed ks b c->Rch ks a c
def Rch.closed{R:Str->Prop}(a:∀y,Ed ks s y->R y)(h:∀x y,R x->Ed ks x y->R y)(r:Rch ks s y):R y:=by
 induction r with
 | one e=>exact a _ e
 | more _ e b=>exact h _ _ b e
def rQ{ks:List _}{laid:ZB}(h:∀i x,laid[i]?∣x->∀y,Ed ks x y->y∈laid.take i){i:Nat}{x y:Str}(hi:laid[i]?∣x)(r:Rch ks x y):∃j,j<i/\laid[j]?∣y:=by
 let b:∀i y,y∈laid.take i->∃j,j<i/\laid[j]?∣y:=λi y d=>by
  let%[j|c]:=Xh d;let f:=(Xn c).1;rw[Ym]at f;exact%[j,⋯|by rwa[getElem?_take_of_lt ⋯]at c]
 show r.closed (λy e=>b i y (h i x hi y e)) λa y ⟨j,m,c⟩ e=>?_
 let%[g,n|l]:=b j y (h j a c y e);exact%[g,⋯|l]
def Fj{laid:ZB}(h:∀(i:Nat) x,laid[i]?∣x->∀y,Ed ks x y->y∈laid.take i){x:Str}(a:x∈laid): ¬ Rch ks x x:=by
 intro r;let%[i|hi]:=Xh a;let:∀n i:Nat,i<=n->laid[i]? ≠some x:=λn=>by
  induction n with
  | zero=>
    intro i hi e;let%[j,b|_]:=rQ h e r
    lia
  | succ n c=>
    intro i hi e;let%[j,b|d]:=rQ h e r;exact c j ⋯ d
 exact this i i (Zi _) hi
abbrev Wal:List ZB->Str->Str->Prop
 |[],a,b=>a=b
 | k::r,a,b=>∃c z,k=[a,c,z]/\Wal r c b
def Wal.app:∀{us vs:List ZB} {a:Str},Wal us a b->Wal vs b c->Wal (us++vs) a c
 |[],_,_,h,g=>h▸g
 | _::_,_,_,⟨d,z,e,h⟩,g=>%[d,z,e|h.app g]
abbrev Dst(ks:List ZB)(s:Str)(n:Nat)(x:Str):Prop:=∃us:List _,~~~us=n/\(∀k∈us,k∈ks)/\Wal us s x
def Dst.nil:Dst ks s 0 s:=%[[],rfl,λ_ h=>(nomatch h)|rfl]
def Dst.app(h:Dst ks s n x)(g:Dst ks x m y):Dst ks s (n+m) y:=by
 let%[us,d,a|b]:=h;let%[vs,g1,g2|g3]:=g;exact%[us++vs,!2,λk c=>(Xo c).elim (a k) (g2 k)|b.app g3]
def Ed.dst(e:Ed ks s x):Dst ks s 1 x:=by
 let%[z|e]:=e;exact%[[[s,x,z]],ρ,λk a=>(Xp a)▸e,x,z,ρ|ρ]
def Dst.last:∀{n:Nat} {s:Str},Dst ks s (n+1) x->∃y,Dst ks s n y/\Ed ks y x
 | n,s,⟨[],a,_,_⟩=>(nomatch a)
 | 0,s,⟨[k],_,b,c,z,e,h⟩=>%[s,.nil,z|by rw[<-h,<-e];exact b k Zm]
 | 0,s,⟨_::_::_,a,_,_⟩=>absurd a ∅
 | n+1,s,⟨k::r,a,b,c,z,e,h⟩=>by
   let%[y,d|f]:=Dst.last %[r,↑a,λk g=>b k (Zk _ g)|h];let:Ed ks s c:=%[z|e▸b k Zm]
   exact%[y,Nat.add_comm 1 n▸this.dst.app d|f]
def Rch.dst(h:Rch ks a b):∃n,Dst ks a (n+1) b:=by
 induction h with
 | one e=>exact%[0|e.dst]
 | more _ e c=>
   let%[n|h]:=c;exact%[n+1|h.app e.dst]
def Dst.rch:∀{n:Nat} {b:Str},Dst ks a (n+1) b->Rch ks a b
 | 0,b,h=>by
   let%[y,%[us,d,_|c]|e]:=h.last;rw[length_eq_zero_iff.mp d]at c;rw[c];exact .one e
 | n+1,b,h=>by
   let%[y,h|e]:=h.last;exact .more h.rch e
structure Lev (ks:List ZB) (st:Str) (rs:List (Str×Addr×ZB)) (d:Str->Nat) (k:Nat) (F:ZB):Prop where
 nd:(rs\1).Nodup
 by_:∀r∈rs,r.2.2∈ks/\∃p z,r.2.2=[p,r.1,z]/\((p=st/\d r.1=1)\/(p≠st/\p∈rs\1/\d r.1=d p+1))
 le:∀x∈rs\1,d x<=k
 edge:∀x,x∈F↔(k=0/\x=st)\/(1<=k/\x∈rs\1/\d x=k)
 all:∀n x,1<=n->n<=k->Dst ks st n x->x∈rs\1/\d x<=n
section
variable{ks:List ZB}{st:Str}{rs:List (Str×Addr×ZB)}{d:Str->Nat}{k:Nat}{F:ZB}
def Lev.nil:Lev ks st [] (λ_=>0) 0 [st]:=
 %[X6,λ_ h=>(nomatch h),λ_ h=>(nomatch h),λx=>by simp|λn x a b=>by lia]
def Lev.dst(h:Lev ks st rs d k F)(a:x∈rs\1):1<=d x/\Dst ks st (d x) x:=by
 let:∀m x,x∈rs\1->d x<=m->1<=d x/\Dst ks st (d x) x:=λm=>by
  induction m with
  | zero=>
    intro x a l;let%[r,b|rfl]:=Xq a;obtain⟨_,p,z,_,⟨_,e⟩|⟨_,_,e⟩⟩:=h.by_ r b<;> lia
  | succ m g=>
    intro x a l;let%[r,b|rfl]:=Xq a;let%[c,p,z,i|q]:=h.by_ r b;rw[i]at c;let f:Ed ks p r.1:=%[z|c]
    rcases q with⟨rfl,e⟩|⟨_,j,e⟩
    .rw[e];exact%[Zi _|f.dst]
    .exact e▸%[⋯|(g p j ⋯).2.app f.dst]
 exact this _ x a (Zi _)
def Lev.min(h:Lev ks st rs d k F)(a:x∈rs\1)(g:Dst ks st (n+1) x):d x<=n+1:=by
 by_cases c:n+1<=k
 .exact(h.all _ x ⋯ c g).2
 .let:=h.le x a
  lia
def Lev.stop(h:Lev ks st rs d k []):∀{n:Nat},Dst ks st (n+1) x->x∈rs\1:=by
 let k1:=pos_of_ne_zero λc=>(nomatch (h.edge st).mpr (.inl %[c|rfl]))
 let:∀n x,Dst ks st (n+1) x->x∈rs.map _:=λn=>by
  induction n with
  | zero=>exact λx g=>(h.all 1 x (Zi _) k1 g).1
  | succ n a=>
    intro x g;let%[y,b|e]:=g.last;let q:=a y b;let l:=h.le y q;let ne:d y≠k:=λc=>(nomatch (h.edge y).mpr (.inr %[k1,q|c]))
    exact(h.all _ x ⋯ ⋯ ((h.dst q).2.app e.dst)).1
 exact λ{n}=>this n x
def Lev.step(h:Lev ks st rs d k F)(nd:((rs++new)\1).Nodup)(G:∀r∈new,r.2.2∈ks/\∃p z,p∈F/\r.2.2=[p,r.1,z])
 (v:∀x∈F,∀y,Ed ks x y->y∈(rs++new)\1):Lev ks st (rs++new) (λx=>if x∈new\1 then k+1 else d x) (k+1) (new\1):=by
 let o:=nd;rw[Zd,X3]at o;let f:∀{x},x∈rs\1->x∉new\1:=λ{x} a b=>o.2.2 x a x b rfl
 let mem:∀{x},x∈(rs++new)\1↔x∈rs\1\/x∈new\1:=λ{x}=>by rw[Zd,Yu]
 let w:∀x∈(rs++new)\1,(if x∈new\1 then k+1 else d x)<=k+1:=λx l=>by
  by_cases c:x∈new\1
  .rw[if_pos c];exact Zi _
  .rw[if_neg c];let:=h.le x ((mem.mp l).resolve_right c);lia
 show%[nd,λr H=>?_,w,λx=>?_|λn x n1 N g=>?_]
 .rcases Xo H with q|q
  .let%[u,p,z,e|g]:=h.by_ r q;show%[u,p,z,e|?_];rw[if_neg (f (Xr %[r,q|rfl]))];show g.imp_right λ⟨a,b,c⟩=>%[a,mem.mpr (.inl b)|?_]
   rw[if_neg (f b)];exact c
  .let%[u,p,z,I|e]:=G r q;let A:r.1∈new\1:=Xr %[r,q|rfl];show%[u,p,z,e|?_];rw[if_pos A];rcases(h.edge p).mp I with⟨rfl,rfl⟩|⟨k1,b,c⟩
   .exact .inl %[rfl|rfl]
   .show .inr %[λps=>?_,mem.mpr (.inl b)|by rw[if_neg (f b),c]];let:Ed ks st r.1:=%[z|by rw[<-ps,<-e];exact u]
    exact f (h.all 1 _ (Zi _) k1 this.dst).1 A
 .show%[λl=> .inr %[⋯,mem.mpr (.inr l)|if_pos l]|λl=>?_];rcases l with⟨a,_⟩|⟨_,a,b⟩
  .lia
  .show(mem.mp a).resolve_left λc=>?_
   rw[if_neg (f c)]at b;let:=h.le x c
   lia
 .let i:∀{m},1<=m->m<=k->Dst ks st m x->x∈(rs++new).map _/\(if x∈new.map _ then k+1 else d x)<=m:=λa b g=>by
   let%[s|B]:=h.all _ x a b g;exact%[mem.mpr (.inl s)|by rw[if_neg (f s)];exact B]
  by_cases c:n<=k
  .exact i n1 c g
  .obtain rfl:n=k+1:=by lia
   let j:x∈(rs++new).map _->x∈(rs++new).map _/\(if x∈new.map _ then k+1 else d x)<=k+1:=λa=>%[a|w x a]
   let%[y,C|e]:=g.last;by_cases J:k=0
   .subst J;let%[us,L,_|E]:=C;rw[length_eq_zero_iff.mp L]at E;exact j (v y ((h.edge y).mpr (.inl %[rfl|(E).symm])) x e)
   .let%[s|B]:=h.all k y ⋯ (Zi _) C;by_cases M:d y=k
    .exact j (v y ((h.edge y).mpr (.inr %[⋯,s|M])) x e)
    .exact j (i ⋯ ⋯ ((h.dst s).2.app e.dst)).1
end
structure Sho (ks:List _) (a b:Str) (us:List _):Prop where
 sub:∀k∈us,k∈ks
 wal:Wal us a b
 pos:0< ~~~us
 min:∀n,Dst ks a (n+1) b-> ~~~us<=n+1
def Sho.dst(h:Sho ks a b us):∃n,~~~us=n+1/\Dst ks a (n+1) b:=
 %[~~~us-1,by let:=h.pos;lia,us,by let:=h.pos;lia,h.sub|h.wal]
def Sho.rch(h:Sho ks a b us):Rch ks a b:=by
 let%[n,_|d]:=h.dst;exact d.rch
def HU{U:ZB}(h:∀x∈U,∃y∈U,Ed ks x y)(nr:∀x,¬ Rch ks x x){x:Str}(i:x∈U):False:=by
 let:∀n,∃a p,~~~p=n/\(a::p).Nodup/\(∀y∈a::p,y∈U)/\∀y∈p,Rch ks y a:=λn=>by
  induction n with
  | zero=>exact%[x,[],ρ,by simp,↑i|λ_ h=>(nomatch h)]
  | succ n j=>
    let%[a,p,l,nd,d|r]:=j;let%[b,m|e]:=h a (d a Zm);let g:∀y∈a::p,Rch ks y b:=λy f=>by
     rcases mem_cons.mp f with rfl|q
     .exact .one e
     .exact .more (r y q) e
    show%[b,a::p,!2,nodup_cons.mpr %[λc=>nr b (g b c)|nd],λy f=>?_|g];rcases mem_cons.mp f with rfl|q
    .exact m
    .exact d y q
 let%[a,p,l,nd,d|_]:=this U.length;let:=_ST.nodup_sub nd d;rw[Zr]at this
 lia
def jT(lt:q->q->Bool)(c:∀x y,lt x y=false->x≠y->lt y x=true):∀{l m:List q},l.Pairwise (λa b=>lt b a=false)->m.Pairwise (λa b=>lt b a=false)->l.Nodup->m.Nodup->(∀x,x∈l↔x∈m)->l=m
 |[],[],_,_,_,_,_=>rfl
 |[],y::m,_,_,_,_,h=>absurd ((h y).mpr Zm) ∅
 | x::l,[],_,_,_,_,h=>absurd ((h x).mp Zm) ∅
 | x::l,y::m,s,u,nl,nm,h=>by
   let%[f|g]:=pairwise_cons.mp s;let%[i|j]:=pairwise_cons.mp u;let%[v|n]:=nodup_cons.mp nl;let%[w|o]:=nodup_cons.mp nm;let e:=Classical.byContradiction λd=>by
    let A:=(mem_cons.mp ((h x).mp Zm)).resolve_left d;let r:=f y ((mem_cons.mp ((h y).mpr Zm)).resolve_left (Ne.symm d));rw[c x y (i x A) d]at r;cases r
   subst e;rw[jT lt c g j n o λz=>?_]
   constructor
   .intro p;rcases mem_cons.mp ((h z).mp (Zk _ p))with e|e
    .simp_all
    .exact e
   .intro p;rcases mem_cons.mp ((h z).mpr (Zk _ p))with e|e
    .simp_all
    .exact e
abbrev Let(rows:ZB)(c:Nat):Prop:=c≠46/\∃r∈rows,c∈r.cps.toList
abbrev AG(rows:ZB)(a b:Nat):Prop:=a≠46/\a≠b/\∃(i j:Nat) (r c:Str),rows[i]?∣r/\rows[i+1]?∣c/\r.cps[j]?∣a/\c.cps[j]?∣b
def gx:c∈c6 rows↔Let rows c:=by
 unfold c6 Let;rw[List.mem_filter,u8,List.mem_flatten,decide_eq_true_eq]
 constructor
 .rintro⟨⟨l,e,b⟩,a⟩;let%[r,d|rfl]:=Xq e;exact%[a,r,d|b]
 .rintro⟨a,r,d,b⟩;exact%[%[_,Xr %[r,d|ρ]|b]|a]
abbrev C0(rows d:ZB):Prop:=(∀c,Let rows c↔Let d c)/\∀a b,AG rows a b↔AG d a b
abbrev St(wd:Bool)(c d:Int):Prop:=c<=d+(if wd=true then 1 else 0)/\d<=c+(if wd=true then 1 else 2)
abbrev kC(wd:Bool)(b:ZL):Prop:=∃a:Nat,a< ~~~b/\(∀k c,b[k]?∣c->(k<a->c= -1)/\(a<=k->0<=c/\c<=7))/\∀k c d,b[k]?∣c->b[k+1]?∣d->a<=k->St wd c d
abbrev sg(a s:Int):Nat:=if a<0 then 46 else 97+((a*5+s)%26).toNat
def HV(h:0<=a):iA (sg a s)=true:=by
 unfold sg;rw[if_neg ⋯,lG]
 lia
def HW(h:a<0):sg a s=46:=if_pos h
def Da(h:0<=a):sg a s≠46:=by
 unfold sg;rw[if_neg ⋯]
 lia
def HX(e:0<=a)(c:a<=7)(f:0<=b)(d:b<=7)(h:sg a s=sg b s):a=b:=by
 unfold sg at h;rw[if_neg (Int.not_lt.mpr e),if_neg (Int.not_lt.mpr f)]at h;let h:=congrArg (λn:Nat=>(n:Int)) (Nat.add_left_cancel h);let m:∀x:Int,((x%26).toNat:Int)=x%26:=λx=>Int.toNat_of_nonneg (Int.emod_nonneg _ (!1))
 replace h:(a*5+s)%26=(b*5+s)%26:=(m _).symm.trans (h.trans (m _));let h:=Int.emod_eq_emod_iff_emod_sub_eq_zero.mp h;let%[x|rfl]:=Xj e;let%[y|rfl]:=Xj f;rw[show(x:Int)*5+s-((y:Int)*5+s)=(x:Int)*5-(y:Int)*5 from Int.add_sub_add_right _ _ _]at h;exact congrArg _ ((by decide:∀x:Fin 8,∀y:Fin 8,((x.val:Int)*5-(y.val:Int)*5)%26=0->x.val=y.val) %[x|Nat.lt_succ_of_le (Int.ofNat_le.mp c)] %[y|Nat.lt_succ_of_le (Int.ofNat_le.mp d)] h)
abbrev iW(a:List ZL)(b:Int)(k:Nat):Str:=⟨(a.map λc=>sg (c.getD k 0) b).toArray⟩
abbrev drawn(a:List ZL)(hi:Nat)(b:Int):ZB:=(List.range hi).map (iW a b)
def gy(h:(drawn a hi c)[k]?∣z):k<hi/\z=iW a c k:=by
 unfold drawn at h;rw[Zl]at h;by_cases b:k<hi
 .rw[getElem?_range b]at h;exact%[b|(Za h).symm]
 simp_all
def lN{a:List ZL}{k j c:Nat}(h:(iW a d k).cps[j]?∣c):∃b,a[j]?∣b/\c=sg (b.getD k 0) d:=by
 let h:(a.map λc=>sg (c.getD k 0) d)[j]?∣c:=by simpa [iW]using h
 rw[Zl]at h;cases e:a[j]? with
 | none=>simp_all
 | some b=>rw[e]at h;exact%[b,ρ|(Za h).symm]
def dL{a:ZL}(b: ~~~a=hi)(c:k<hi):a[k]?∣a.getD k 0:=by
 simp_all
def vQ{a:List ZL}{d:Int}{wd:Bool}(I:1<=hi)(J:hi<=40)(w:1<= ~~~a)(y: ~~~a<=40)(u:∀c∈a,~~~c=hi/\kC wd c):cy (drawn a hi d):=by
 let len: ~~~(drawn a hi d)=hi:=by unfold drawn;rw[Z6,Yj]
 let f:∀z∈drawn a hi d,∃k,k<hi/\z=iW a d k:=λz g=>by
  let%[k|e]:=Xh g;exact%[k|gy e]
 show%[⋯,⋯,%[~~~a,w,y|λz g=>?_],λz g=>?_,λi r L A B j c M g1 g2 p=>?_|?_]
 .let%[k,_|rfl]:=f z g;simp[iW]
 .let%[k,h|rfl]:=f z g;rw[all_eq_true];intro c q;let%[j|C]:=Xh q;let%[b,s|rfl]:=lN (j:=j) ↑C;by_cases E:b.getD k 0<0
  .rw[HW E];decide +kernel
  .unfold okc;rw[HV ⋯,Bool.or_true]
 .let%[hi1|rfl]:=gy A;let%[hi2|rfl]:=gy B;let%[b,s|rfl]:=lN g1;let%[v,l|rfl]:=lN g2;rw[s]at l;cases l;let%[o,m,G,h|_]:=u b (Z8 s);by_cases H:i+1<m
  .rw[(h i _ (dL o hi1)).1 ⋯];rfl
  .exact absurd p (Da ((h _ _ (dL o hi2)).2 ⋯).1)
 .let n:0< ~~~a:=by lia
  let%[o,m,G,h|_]:=(u _ (Yc n))
  exact%[iW a d _,Xr %[hi-1,by rw[mem_range];lia|ρ],sg (a[0].getD (hi-1) 0) d,Xr %[a[0],Yc n|ρ]|Da ((h _ _ (dL o ⋯)).2 ⋯).1]
def vR{i:Int}{wd:Bool}(s:∀c∈d,~~~c=hi/\kC wd c){c:Nat}:Let (drawn d hi i) c↔∃a:Int,0<=a/\a<=7/\(∃b∈d,a∈b)/\c=sg a i:=by
 constructor
 .rintro⟨l,r,u,m⟩;let%[k|e]:=Xh u;let%[h|rfl]:=gy e;let%[j|v]:=Xh m;let%[b,w|rfl]:=lN ↑v;let f:=Z8 w;let%[n,o,B,y|_]:=s b f;let g:=dL n h;let q:=y k _ g;let:o<=k:=by
   show Nat.le_of_not_lt λz=>l ?_
   rw[q.1 z];rfl
  exact%[_,(q.2 this).1,(q.2 this).2,%[b,f|Z8 g]|ρ]
 .rintro⟨a,A,C,⟨b,f,p⟩,rfl⟩;let%[n|_]:=s b f;let%[k|h]:=Xh p;show%[Da A,iW d i k,Xr %[k,by rw[mem_range];exact(n▸(Xn h).1)|ρ]|Xr %[b,f|?_]];rw[Zc,h];rfl
abbrev there(b:List ZL):ZL:=((List.range 8).filter λa:Nat=>b.any λc=>decide ((a:Int)∈c)).map λa:Nat=>a
def eU:a∈there c↔0<=a/\a<=7/\∃b∈c,a∈b:=by
 unfold there;rw[mem_map]
 constructor
 .rintro⟨n,f,rfl⟩;rw[List.mem_filter,mem_range,any_eq_true]at f;let%[g,b,d|e]:=f;exact%[⋯,⋯,b,d|Zo e]
 .rintro⟨h,i,b,d,e⟩;show%[a.toNat,?_|⋯];rw[List.mem_filter,mem_range,any_eq_true];show%[⋯,b,d|Zf ?_];rw[show a.toNat=a by lia];exact e
def vS(a:List _):(there a).Nodup:=by
 unfold there;rw[X4,Xa];show(List.Pairwise.filter _ (nodup_iff_pairwise_ne.mp nodup_range)).imp λh e=>h ⋯
def Db{a:List ZL}{hi:Nat}(i:1<=hi)(j:1<= ~~~a)(d:∀c∈a,~~~c=hi/\kC wd c):there a≠[]:=by
 let b:0< ~~~a:=by lia
 let%[e,f,l,h|_]:=d _ (Yc b);let g:=dL e (show hi-1<hi by lia);let q:=(h _ _ g).2 ⋯;exact List.ne_nil_of_mem (eU.mpr %[q.1,q.2,_,Yc b|Z8 g])
def lO(a:List _): ~~~(there a)<=8:=by
 unfold there;rw[Z6];exact Nat.le_trans (Yi _ _) (Zi _)
abbrev dP(n:Str)(c:Nat):Str:=⟨(n.cps.toList++[46,c]).toArray⟩
def lP(h:dP n c=dP m d):n=m/\c=d:=by
 let e:=by
  let:=congrArg (λz=>z.cps.toList) h;simpa [dP]using this
 let q:=List.append_inj' e rfl;show%[fH q.1|?_];let:=q.2;simpa using this
abbrev x9(rows:ZB):Prop:=∃m:List _,~~~m<=26/\∀a b,AG rows a b->[sgn a,sgn b]∈m
abbrev ya(wd:Bool):List (Int×Int):=((List.range 7).map λi:Nat=>((i:Int),(i:Int) +1)) ++if wd=true then(List.range 7).map λi:Nat=>((i:Int) +1,(i:Int))else(List.range 6).map λi:Nat=>(i,i+2)
def AH(h:St wd c d)(c0:0<=c)(a:c<=7)(b:0<=d)(f:d<=7)(ne:c≠d):(c,d)∈ya wd:=by
 unfold St at h;unfold ya;rw[Yu];by_cases e:d=c+1
 .exact .inl (Xr %[c.toNat,mem_range.mpr ⋯|by rw[show c.toNat=c by lia,e]])
 .show .inr ?_;cases wd
  .exact Xr %[c.toNat,mem_range.mpr ⋯|by rw[show c.toNat=c by lia,show d=c+2 by lia]]
  .exact Xr %[d.toNat,mem_range.mpr ⋯|by grind]
def Dc{hi:Nat}{h:Int}{wd:Bool}(v:∀c∈d,~~~c=hi/\kC wd c):x9 (drawn d hi h):=by
 show%[(ya wd).map λp=>[sgn (sg p.1 h),sgn (sg p.2 h)],?_|?_]
 .rw[Z6];cases wd<;> decide
 .intro a b %[n1,w,i,j,r,E,y,A,g1|g2];let%[hi1|rfl]:=gy y;let%[hi2|rfl]:=gy A;let%[l,n|rfl]:=lN g1;let%[o,f|rfl]:=lN g2;rw[n]at f;cases f;let%[g,B,G,m|C]:=v l (Z8 n);let q:=Nat.le_of_not_lt λz=>n1 (by rw[(m i _ (dL g hi1)).1 z];rfl)
  let s:=(m i _ (dL g hi1)).2 q;let u:=(m _ _ (dL g hi2)).2 ⋯;exact Xr %[(_,_),AH (C i _ _ (dL g hi1) (dL g hi2) q) s.1 s.2 u.1 u.2 (λe=>w (by rw[e]))|rfl]
end _CU
namespace _KK
open PySem _LL _CU
nonrec abbrev ZqS:=Lean.Syntax
nonrec def zqn:Lean.Name->Array ZqS->ZqS:= .node .none
nonrec def zqa:String->ZqS:= .atom .none
nonrec def zqi(s:String):ZqS:=Lean.mkIdent s.toName
nonrec def zqh:ZqS:=zqn `Lean.Parser.Term.hole #[zqa "_"]
nonrec def zqf(k:Nat)(b:ZqS):ZqS:=zqn `Lean.Parser.Term.fun #[zqa "fun",zqn `Lean.Parser.Term.basicFun #[zqn `null (Array.replicate k zqh),zqn `null #[],zqa "=>",b]]
nonrec def zqd(c:Char):ZqS:=Lean.Syntax.mkNumLit (toString (c.toNat-48))
nonrec def zqe(a:Array ZqS)(x:String):ZqS:=if x="r"then zqi "rfl"else if x="n"then a[0]! else if x="h"then a.back! else if x="_"then zqh else if x="f"then zqf 2 (zqi "rfl") else if x="g"then zqf 1 (zqi "rfl") else if ~~~x>1 then zqi x else zqn `Lean.Parser.Term.namedArgument #[zqa "(",zqi x,zqa ":=",zqi x,zqa ")"]
nonrec def zqx(r:Array ZqS):ZqS:=if r[0]!.isAtom then(if r[0]!.getAtomVal=""then zqf 3 r[1]! else r[1]!)else if r.size<2 then r[0]! else zqn `Lean.Parser.Term.app #[r[0]!,zqn `null (r.extract 1 r.size)]
nonrec def zqp(s t:String):Nat:=(s.splitOn t).head!.length
nonrec def zqs(t:String)(a:Array ZqS)(l:List Char)(k:List (List String×Array ZqS)):List Char×List (List String×Array ZqS):=
 let f:=k.head!
 let k:=k.tail
 let x:=f.1.headD ""
 let w:=f.1.tail
 let c:=l.headD ' '
 if f.1.isEmpty then(l,(k.head!.1,k.head!.2.push (zqx f.2))::k.tail)
 else if x="#"then(l.tail,(w,f.2.push (zqd c))::k)
 else if x="L"then(l,(["*"],#[zqa ""])::(w,f.2)::k)
 else if x="*"then
  if c.isDigit then(l.tail,(["r"],#[zqi "af",zqd c])::(w,f.2)::k)
  else if c='?'then(l.drop 2,(w,f.2.push a[l[1]!.toNat-48]!)::k)
  else
   let p:=zqp "~]`" c.toString
   let q:=if p<3 then 1 else 0
   let s:=((t.splitOn "|")[(74+84*p)*q+zqp "ABCDEFGHIJKLMNOPQRSTUVWXYZabcdefghijklmnopqrstuvwxyz!$%&'()*+,./:;<=>^_|}[0123456789" l[q]!.toString]!).splitOn " "
   (l.drop (q+1),(s.tail,#[zqi s.head!])::(w,f.2)::k)
 else(l,(w,f.2.push (zqe a x))::k)
nonrec def zqt(t:String)(a:Array ZqS)(l:List Char):Nat->ZqS
 |n=>(n.fold (λ_ _ s=>if ~~~s.2=1&&s.2.head!.1.isEmpty then s else zqs t a s.1 s.2) (l,[(["*"],#[zqa "1"])])).2.head!.2[1]!
nonrec def zqm(s:Lean.StrLit)(a:Array Lean.Term):Lean.MacroM Lean.Term:=
 return⟨zqt "paE r * *|am|aw|aj * *|ap *|opE * * *|aK # n r *|aS * h r *|aW *|QSs.h *|bj * r * *|aG # n r|bJ K r f * *|bX *|bN # r|gsE r * *|ifS * * *|aZ|bE|cS K r *|cH K r f * *|cB PassesOwn.never r r * * *|bd|aG # * r|cf r *|cbO * T.a8 PySem.boot_len r *|cx K r|df|wT *|aA.of *|cT|cV *|eE K r r r *|cG|dj|Z1|Z0|eZ K r g *|dC * r r * L L L|h9 K r * * *|eBl|noO|cI h f * *|bw|gO|cW|bmO K plainAttrs_list PySem.F.slot_list_append PySem.F.type_list_append * r * *|dO|orW * *|dw|jv * r * *|iI *|jw *|af # r|jN * *|cbO * T.a7 boot_sorted r *|lB *|cbO * T.ae boot_isinstance r *|iw K r|fX r T.aj r *|fY *|lC # n r * * r *|n8 * *|oa|qb *|qc *|gu h r * * *|p9|gP|ctO * T.a5 boot_list r *|ctO * T.a6 boot_set r *|gQ K r|mF|gvE T.ao r r|z5|n9|qX *|z6 K r|z3|rc K w r r r|zZ r r r * *|iQ # n r * * r * r r * L L L|gvE T.aw r r|qZ K r r T.ab r *|pjE * *|cN T|oK PassesOwn.never * *|vK * T.o_Ground h r r *|cbO * T.a0 boot_min r *|bmO K plainAttrs_str slot_str_join type_str_join * r * *|sZ K r|cbO * T.aa boot_all r *|uR K r r|E4 K r r * *|ic|gvE T.ap r r|nE h r * *|sY|cO T|fT T|cbO * T.a1 boot_max r *|xq * * r * * *|GY K r *|jS w r r|Hh *|im T|jn K r|HA K r r *|eF T|bmO K plainAttrs_dict slot_dict_get type_dict_get * r * *|CO|bmO K plainAttrs_list slot_list_index type_list_index * r * *|tZ|uA T|mV T|FJ r|Ja f * *|ctO * T.ah boot_int r *|FK|yL # n r * *|pf T|orV * *|gvE T.ar r r|BT r T.af r r *|kQ T|lU T|bmO K plainAttrs_list PySem.F.slot_list_extend PySem.F.type_list_extend * r * *|uS|rJ P w r r r|CA K P w r r r r h|Cf *|Ce|JA K r * * *|fz T|CI r|gH T|JI K r plainAttrs_list PySem.F.slot_list_append PySem.F.type_list_append * r r r r * *|bmO K plainAttrs_dict PySem.F.slot_dict_setdefault PySem.F.type_dict_setdefault * r * *|kz|sA T|gJ T|je T|FI|zo T|iG T|jh T|ctO * T.am boot_dict r *|yZ K r r h|rq w r r|BW K r h|IW r * *|JE * *|pW T|IZ r|CG # n r * * r *|ue T|yL # * r * *|valT g *|cbO * T.ak boot_any r *|Jz K r r|gvE T.av r r|bmO K plainAttrs_str PySem.F.slot_str_split PySem.F.type_str_split * r * *|yM|gvE T.au r r|Dh T|pA T|Jo K r r T.af r r *|jV T|gvE T.aq r r|gvE T.az r r|gvE T.aA r r|Jq K r T.t_LAYER_WORDS r r|Jq K r T.t_YEAR_WORDS r r|AT T|G0|AS T|Dm T|gvE T.ax r r|pE T|dinT h r * *|gvE T.ay r r|v7 T|AO T|yg T|uh T|we T|np T|At K r|pF T|kZ T|v8 T|AM T|uo T|HB r|l7 T|nq T|E9 r|IV K r plainAttrs_dict PySem.F.slot_dict_values PySem.F.type_dict_values * r r *|CM|qv T|yi T|CT r r T.a9 r T.a5 r *|wp T|Dw T|jW T|HC K r r|bmO K plainAttrs_list PySem.F.slot_list_remove PySem.F.type_list_remove * r * *|CQ|HJ w r|uy T|pO T|Hi b.ex *|Hg * h r r r r *|C_Torn T|IY r r r r *|GZ * * *|IX|Jr h|bmO K plainAttrs_dict PySem.F.slot_dict_update PySem.F.type_dict_update * r * *|C9|C4 h|AF K r|As r|AK T|uq T|wC T|li T|Ju *|Js * T.o_Ground h r *|Do T|mf T|yt T|qA T|IV K r plainAttrs_list PySem.F.slot_list_clear PySem.F.type_list_clear * r r *|EH|wN T|j3 T|AZ T|Jy h|JG" (a.map (·.raw)) s.getString.toList 9999⟩
nonrec abbrev ZM:=List V
nonrec abbrev ZN:=List (Addr×List V)
local macro_rules|`(%[$s:str,$x,*|$y])=>zqm s (x.getElems.push y)|`(%[$s:str|$y])=>zqm s #[y]
local macro_rules|`(tactic|lk)=>do
 let x<-("bn yy iM jK jB pY jC yC tB DN tOr F1 A5 F5 tOp tUn tC FV FW tCB qG mZ j6 Gz uI wS tBM El tSl yH j7 BG rI rI0 rU GP GR rEq rNe FG BK xf GI Ei GC GD BL IT I0 G1 G3 xt xc sU yJ Gd DU A9 Gb FL FM HP FO yE yF Gr Gu Ha qQ GL sV xg xh Bz CJ CL HD tY xV HG CZ vF rIn xa GN nv yK Bf EE JD Ix Iy Iz".splitOn " ").toArray.mapM λs=>`(Lean.Parser.Tactic.simpLemma|↓$(Lean.mkIdent s.toName):ident)
 let y<-("ot DZ Bk Go IA IB IC List.getElem?_cons_zero List.getElem?_cons_succ List.set_cons_zero List.set_cons_succ Option.some.injEq V.int.injEq V.str.injEq V.bl.injEq V.ref.injEq V.ty.injEq List.cons.injEq reduceCtorEq and_true true_and and_false false_and or_false false_or or_true true_or exists_false exists_eq_left' exists_eq_left exists_eq_right exists_eq_right' exists_and_left exists_and_right exists_eq cons_append nil_append exists_const and_assoc Int.zero_add Bool.not_true Bool.not_false Zz if_true if_false eq_self".splitOn " ").toArray.mapM λs=>`(Lean.Parser.Tactic.simpLemma|$(Lean.mkIdent s.toName):ident)
 `(tactic|simp only[$(x++y),*])
local macro_rules|`(!$n:ident)=>`(some (V.ref $n))
local macro_rules|`(-$n:ident)=>`(some (V.str $n))
local macro_rules|`(#[$n:num])=>`((show $n≤sizeLine by decide))|`(#[$x])=>`(paE rfl $x am)|`(#[$x,$y,*])=>`(paE rfl $x #[$y,*])
local macro_rules|`(tactic|walk)=>`(tactic|refine⟨rfl,rfl,rfl,?_,rfl,?_,?_⟩<;>decide +kernel)
def zq0{P:List Value->Prop}(h:P []):∀u,~~~u=0->P u:=λu e=>by rw[List.length_eq_zero_iff.mp e];exact h
def zq1{n:Nat}{P:List Value->Prop}(h:∀a,∀u,~~~u=n->P (a::u)):∀u,~~~u=n+1->P u:=λu e=>by
 cases u with
 |nil=>cases e
 |cons a u=>exact h a u (Nat.succ.inj e)
local macro_rules|`(tactic|room)=>`(tactic|(intro _ _ _ _ _ _;(repeat(refine zq1 λ_=>?_));exact zq0 rfl))
set_option hygiene false in
local macro_rules|`($a⁻¹)=>`(eZ (K:=K) rfl (λ_=>rfl) $a)
set_option hygiene false in
local macro_rules|`(↑$n:num)=>`(af $n rfl)|`(↑($x,$y))=>`(show bx _ _ _ $x $y=true from rfl)|`(↑[$x,*])=>`(show([$x,*]:ZB).Nodup from by decide)
set_option hygiene false in
local macro_rules|`($a*>$b)=>`(cH (K:=K) rfl (λ_ _=>rfl) $a $b)
set_option hygiene false in
local macro_rules|`($a>>$b)=>`(bJ (K:=K) rfl (λ_ _=>rfl) $a $b)
set_option hygiene false in
local macro_rules|`(↥$n:num)=>`(Cal P w K mg base $n)
abbrev top(i:Nat):Stmt:=PySem.Challenge.pw_digbook_k33_what_is_an_order.main.body.getD i (.Pass %[0,0,0|0])
noncomputable section
nonrec abbrev gA:Stmt:=top 1
def bp:ax ["ground","names","layer","word","one","other"] ["ground"] (ao gA):=by walk
nonrec abbrev iB:Stmt:=top 2
def dW:ax ["names","one","other","first","second"] ["names","one","other"] (ao iB):=by walk
nonrec abbrev fh:Stmt:=top 3
def eI:ax ["names","layer"] ["names","layer"] (ao fh):=by walk
nonrec abbrev oU:Stmt:=top 4
def fK:ax ["ground","names","groups","layer"] ["ground"] (ao oU):=by walk
nonrec abbrev iC:Stmt:=top 5
def lQ:ax ["ground"] ["ground"] (ao iC):=by walk
nonrec abbrev y4:Stmt:=top 6
def vT:ax ["ground","names"] ["ground"] (ao y4):=by walk
nonrec abbrev gB:Stmt:=top 19
def kD:ax ["found"] ["found"] (ao gB):=by walk
nonrec abbrev fi:Stmt:=top 20
def jx:ax ["found"] ["found"] (ao fi):=by walk
nonrec abbrev rR:Stmt:=top 21
def jU:ax ["found","side","groups","link"] ["found","side"] (ao rR):=by walk
nonrec abbrev iX:Stmt:=top 22
def bg:ax ["names","found","beneath","above","waits","name","ready","laid","least","link"] ["names","found"] (ao iX):=by walk
nonrec abbrev iY:Stmt:=top 23
def dv:ax ["beneath","start","goal","reached","edge"] ["beneath","start","goal"] (ao iY):=by walk
nonrec abbrev mO:Stmt:=top 24
def eO:ax ["beneath","edge","reached","further","name","link"] ["beneath","edge","reached"] (ao mO):=by walk
nonrec abbrev vU:Stmt:=top 25
def rS:ax ["reached","start","goal","way"] ["reached","start","goal"] (ao vU):=by walk
nonrec abbrev iD:Stmt:=top 27
def bW:ax ["names","found","beneath","shortest","name","way"] ["names","found"] (ao iD):=by walk
nonrec abbrev kE:Stmt:=top 28
def qq:ax ["names","found"] ["names","found"] (ao kE):=by walk
nonrec abbrev iZ:Stmt:=top 29
def cc:ax ["ground","found","torn_by"] ["ground"] (ao iZ):=by walk
nonrec abbrev y6:Stmt:=top 31
def vV:ax ["ground","found"] ["ground"] (ao y6):=by walk
nonrec abbrev oV:Stmt:=top 32
def bU:ax ["ground","some","found","places","place","name"] ["ground","some"] (ao oV):=by walk
nonrec abbrev rT:Stmt:=top 39
def yb:ax ["thing"] ["thing"] (ao rT):=by walk
nonrec abbrev rV:Stmt:=top 40
def ig:ax ["text","rows","number","row"] ["text"] (ao rV):=by walk
nonrec abbrev vW:Stmt:=top 41
def AI:ax ["row"] ["row"] (ao vW):=by walk
nonrec abbrev i4:Stmt:=top 42
def nh:ax ["row","above"] ["row","above"] (ao i4):=by walk
nonrec abbrev kH:Stmt:=top 43
def qr:ax ["rows"] ["rows"] (ao kH):=by walk
nonrec abbrev rW:Stmt:=top 44
def yc:ax ["text"] ["text"] (ao rW):=by walk
nonrec abbrev oW:Stmt:=top 45
def eB:ax ["text","rows","pairs","above","row"] ["text"] (ao oW):=by walk
nonrec abbrev fj:Stmt:=top 46
def jy:ax ["above","row"] ["above","row"] (ao fj):=by walk
nonrec abbrev kI:Stmt:=top 55
def d6:ax ["cuts","names","number","thing"] ["cuts"] (ao kI):=by walk
nonrec abbrev i5:Stmt:=top 56
def ni:ax ["thing"] ["thing"] (ao i5):=by walk
nonrec abbrev vX:Stmt:=top 57
def AJ:ax ["thing"] ["thing"] (ao vX):=by walk
nonrec abbrev iE:Stmt:=top 58
def dX:ax ["sayings","layers","number","thing"] ["sayings","layers"] (ao iE):=by walk
nonrec abbrev mP:Stmt:=top 59
def t8:ax ["thing","layers"] ["thing","layers"] (ao mP):=by walk
nonrec abbrev iF:Stmt:=top 60
def lR:ax ["thing","texts"] ["thing","texts"] (ao iF):=by walk
nonrec abbrev rX:Stmt:=top 61
def yd:ax ["thing"] ["thing"] (ao rX):=by walk
nonrec abbrev kJ:Stmt:=top 62
def qt:ax ["name","letter"] ["name","letter"] (ao kJ):=by walk
nonrec abbrev mQ:Stmt:=top 63
def eP:ax ["cuts","layers","name","text"] ["cuts"] (ao mQ):=by walk
nonrec abbrev i7:Stmt:=top 64
def ce:ax ["cuts","ties","name","text","upper","lower"] ["cuts"] (ao i7):=by walk
nonrec abbrev fM:Stmt:=top 65
def cD:ax ["sayings","ties","number","saying"] ["sayings"] (ao fM):=by walk
nonrec abbrev jE:Stmt:=top 67
def oX:ax ["_law_script","_law_k"] ["_law_script","_law_k"] (ao jE):=by walk
nonrec abbrev mR:Stmt:=top 68
def ii:ax ["_law_cell","_law_k","_law_one","_law_two"] ["_law_cell","_law_k"] (ao mR):=by walk
nonrec abbrev rY:Stmt:=top 69
def dY:ax ["_law_script","_law_many","_law_found","_law_number","_law_k"] ["_law_script","_law_many"] (ao rY):=by walk
nonrec abbrev mS:Stmt:=top 70
def bS:ax ["_law_number","_law_size","_law_at","_law_names_here","_law_k","_law_signs","_law_j","_law_place"] ["_law_number"] (ao mS):=by walk
nonrec abbrev kK:Stmt:=top 71
def bV:ax ["_law_number","_law_high","_law_wild","_law_air","_law_at","_law_signs","_law_k"] ["_law_number","_law_high","_law_wild"] (ao kK):=by walk
nonrec abbrev oY:Stmt:=top 72
def vY:ax ["_law_at","_law_shift"] ["_law_at","_law_shift"] (ao oY):=by walk
nonrec abbrev rZ:Stmt:=top 73
def dz:ax ["_law_row_here","_law_shift","_law_wild","_law_wide","_law_high","_law_columns","_law_rows","_law_k","_law_there"] ["_law_row_here","_law_shift","_law_wild"] (ao rZ):=by walk
nonrec abbrev kL:Stmt:=top 74
def bC:ax ["_law_one","_law_two","_law_layers","_law_torn_here","_law_layer","_law_at","_law_other","_law_there","_law_odd","_law_kind","_law_year"] ["_law_one","_law_two","_law_layers","_law_torn_here"] (ao kL):=by walk
nonrec abbrev kM:Stmt:=top 75
def aX:ax ["_law_row_here","_law_names_here","_law_torn_here","_law_cuts","_law_layers","_law_k","_law_shift","_law_wild","_law_text","_law_there","_law_at","_law_many","_law_sayings"] ["_law_row_here"] (ao kM):=by walk
nonrec abbrev kN:Stmt:=top 76
def dq:ax ["_law_sayings","_law_layers","_law_called_here","_law_turn","_law_saying_here","_law_least"] ["_law_sayings","_law_layers"] (ao kN):=by walk
nonrec abbrev mT:Stmt:=top 77
def bD:ax ["_law_cuts","_law_sayings","_law_layers","_law_called_here","_law_found","_law_name","_law_text","_law_rows","_law_k","_law_upper","_law_lower","_law_number"] ["_law_cuts","_law_sayings","_law_layers"] (ao mT):=by walk
nonrec abbrev gC:Stmt:=top 78
def aO:ax ["_law_tied","_law_least","_law_start","_law_there","_law_edge","_law_far","_law_ends"] ["_law_tied"] (ao gC):=by walk
nonrec abbrev jF:Stmt:=top 79
def i8:ax ["_law_found","_law_tied","_law_least","_law_k"] ["_law_found","_law_tied","_law_least"] (ao jF):=by walk
nonrec abbrev oZ:Stmt:=top 80
def fN:ax ["_law_ground_here","_law_some","_law_ring_told","e"] ["_law_ground_here","_law_some"] (ao oZ):=by walk
nonrec abbrev mU:Stmt:=top 81
def cj:ax ["_law_told","_law_names_here","_law_row_here","_law_one","_law_other","_law_turned_two","_law_shuffled","_law_some"] ["_law_told","_law_names_here","_law_row_here"] (ao mU):=by walk
nonrec abbrev fk:Stmt:=top 82
def bO:ax ["_law_told","_law_called_here","_law_some","_law_layer","_law_at"] ["_law_told","_law_called_here"] (ao fk):=by walk
nonrec abbrev r9:Stmt:=top 83
def ik:ax ["_law_some","_law_names_here","_law_tied","_law_later","_law_earlier","_law_source"] ["_law_some","_law_names_here","_law_tied"] (ao r9):=by walk
nonrec abbrev kO:Stmt:=top 84
def dA:ax ["_law_script","_law_row_here","_law_cuts","_law_sayings","_law_layers","_law_tied","_law_called_here","_law_names_here","_law_ground_here","_law_least","_law_some","_law_told","_law_handed","_law_found"] ["_law_script"] (ao kO):=by walk
nonrec abbrev ck:Stmt:=jj (top 54) 0
def fo:ax ["self","cuts","sayings","layers"] ["self","cuts","sayings"] (ao ck):=by walk
nonrec abbrev qu:Stmt:=jj (top 54) 1
def Dd:ax ["self"] ["self"] (ao qu):=by walk
nonrec abbrev cA:Stmt:=jj (top 54) 2
def kP:ax ["self"] ["self"] (ao cA):=by walk
nonrec abbrev cL:Stmt:=jj (top 54) 3
def lS:ax ["self"] ["self"] (ao cL):=by walk
nonrec abbrev du:Stmt:=jj (top 54) 4
def pc:ax ["self"] ["self"] (ao du):=by walk
nonrec abbrev eC:Stmt:=jj (top 11) 0
end
def t9:ax ["self","ring"] ["self","ring"] (ao eC):=by walk
inductive pd (K:ZA)
 | mk (a:Addr) (ns:ZL) (k:Int):vs=[.ref a,.int k]->JP K H a (ns\4)->0<=k->Q (.int (ns.getD k.toNat 0)) H->pd K vs H Q E0
inductive De (K:ZA)
 | mk (a:Addr) (ns:ZL) (m:Int):vs=[.ref a,.int m]->JP K H a (ns\4)-> ~~~ns<=1000->0<=m->m<=100->(∀l H' (xs:ZL),ah H H'->H l=none->H' l<*xs\4-> ~~~xs=m.toNat->(∀x∈xs,0<=x/\x<9973)->Q (.ref l) H')->De K vs H Q E0
inductive sd
 | mk (n hi:Int) (wild:Bool):vs=[.int n,.int hi,.bl wild]->0<=n->1<=hi->hi<=7->(∀l H' (cs:ZL),ah H H'->H l=none->H' l<*cs\4-> ~~~cs=hi.toNat->kC wild cs->Q (.ref l) H')->sd vs H Q E0
inductive y8
 | mk (a s:Int):vs=[.int a,.int s]->0<=s->Q (.str (sgn (sg a s))) H->y8 vs H Q E0
abbrev ud(H:Hp)(a:List (Addr×ZL)):Prop:=∀p∈a,H p.1<*p.2\4
def ud.up{H a:Hp}{b:List (Addr×ZL)}(h:ud H b)(s:ah H a):ud a b:=λp c=>s _ _ (h p c)
inductive Df (K:ZA)
 | mk (a:Addr) (xs:ZL) (sh:Int) (wd:Bool):vs=[.ref a,.int sh,.bl wd]->JP K H a (xs\4)->(∀H',ah H H'->JP K H' a (xs\4))-> ~~~xs=6->(∀x∈xs,0<=x/\x<9973)->0<=sh->(∀(T th:Addr) H' (cols:List ZL) (hi:Nat),ah H H'->H T=none->H th=none->T≠th->H' T&&&[.str (Str.join nl (drawn cols hi sh)),.ref th]->H' th<*(there cols)\4->1<=hi->hi<=7->1<= ~~~cols-> ~~~cols<=5->(∀c∈cols,~~~c=hi/\kC wd c)->Q (.ref T) H')->Df K vs H Q E0
inductive vZ
 | mk (c k:Int):vs=[.int c,.int k]->0<=k->k<=100->(∀v,0<=v->v<2147483563->Q (.int v) H)->vZ vs H Q E0
structure Txc (K:ZA) (mg:ZC):Prop where
 c_Torn:mg "Torn"=some (.ref (aL mg "Torn"))
 c_DigError:mg "DigError"=some (.ref (aL mg "DigError"))
 c_NoCut:mg "NoCut"=some (.ref (aL mg "NoCut"))
 c_NoLayer:mg "NoLayer"=some (.ref (aL mg "NoLayer"))
 c_NoRow:mg "NoRow"=some (.ref (aL mg "NoRow"))
 c_NoDeed:mg "NoDeed"=some (.ref (aL mg "NoDeed"))
 c_NoSaying:mg "NoSaying"=some (.ref (aL mg "NoSaying"))
 c_NoGround:mg "NoGround"=some (.ref (aL mg "NoGround"))
 x_Torn:Cc K mg "Torn" "Torn.__init__" eC ["self","ring"]
 f_Torn_ring:G9 K (aL mg "Torn") "ring"
 g_Torn_ring:ER K (aL mg "Torn") "ring"
 u_Torn_NoCut:subIn K (.ref (aL mg "Torn")) (.ref (aL mg "NoCut"))∣false
 u_Torn:subIn K (.ref (aL mg "Torn")) (.ref (aL mg "DigError"))∣true
 k_Torn_Torn:kitOne K (.ref (aL mg "Torn")) (.ref (aL mg "Torn"))∣true
 k_Torn_ValueError:kitOne K (.ref (aL mg "Torn")) (.type "ValueError")∣true
 k_Torn_any2:kitAny K (.ref (aL mg "Torn")) (([(aL mg "NoCut"),(aL mg "NoGround"),(aL mg "NoSaying"),(aL mg "NoDeed"),(aL mg "NoRow"),(aL mg "NoLayer")]).map Value.ref)∣false
 i_DigError:B4 K (aL mg "DigError")
 t_NoCut:Cat K (aL mg "NoCut")
 t_DigError:Cat K (aL mg "DigError")
 o_Ground:vz K mg "Ground"
 n_Ground_kept_cuts:fQ K (aL mg "Ground") "kept_cuts"
 n_Ground_kept_sayings:fQ K (aL mg "Ground") "kept_sayings"
 n_Ground_kept_layers:fQ K (aL mg "Ground") "kept_layers"
 n_Ground_kept_ties:fQ K (aL mg "Ground") "kept_ties"
 i_Ground:CD K mg "Ground" "Ground.__init__" ck ["self","cuts","sayings"]
 m_Ground_sayings:vA K mg "Ground" "sayings" "Ground.sayings" cA ["self"]
 m_Ground_layers:vA K mg "Ground" "layers" "Ground.layers" cL ["self"]
 m_Ground_ties:vA K mg "Ground" "ties" "Ground.ties" du ["self"]
 t_YEAR_WORDS:GvT K mg "YEAR_WORDS" [.str "since",.str "by"]
 t_LAYER_WORDS:GvT K mg "LAYER_WORDS" [.str "later",.str "same"]
structure Txt (K:ZA) (mg:ZC):Prop extends Txc K mg where
 a0:mg "min"=none
 a1:mg "max"=none
 a5:mg "list"=none
 a6:mg "set"=none
 a7:mg "sorted"=none
 a8:mg "len"=none
 a9:mg "reversed"=none
 aa:mg "all"=none
 ab:mg "enumerate"=none
 ac:mg "str"=none
 ae:mg "isinstance"=none
 af:mg "zip"=none
 ag:mg "tuple"=none
 ah:mg "int"=none
 ai:mg "bool"=none
 aj:mg "range"=none
 ak:mg "any"=none
 am:mg "dict"=none
 an:mg "ValueError"=none
 ao:Gv mg "LATER" (.int 0)
 ap:Gv mg "EARLIER" (.int 1)
 aq:Gv mg "LONGEST_NAME" (.int 8)
 ar:Gv mg "LETTERS" (.str "abcdefghijklmnopqrstuvwxyz")
 au:Gv mg "MOST_ROWS" (.int 40)
 av:Gv mg "MOST_SIGNS" (.int 40)
 aw:Gv mg "AIR" (.str ".")
 ax:Gv mg "MOST_CUTS" (.int 8)
 ay:Gv mg "MOST_SAYINGS" (.int 60)
 az:Gv mg "FIRST_YEAR" (.int (-9999))
 aA:Gv mg "LAST_YEAR" (.int 9999)
 aB:aN K mg "names_by_layer" gA ["ground"]
 aC:aN K mg "join_deposits" iB ["names","one","other"]
 aD:aN K mg "least_pointed_to" fh ["names","layer"]
 aE:aN K mg "deposits" oU ["ground"]
 aF:aN K mg "deposit_names" iC ["ground"]
 aG:aN K mg "links" y4 ["ground"]
 aH:aN K mg "links_by_later" gB ["found"]
 aI:aN K mg "links_by_earlier" fi ["found"]
 aJ:aN K mg "grouped" rR ["found","side"]
 aK:aN K mg "laid_in_turn" iX ["names","found"]
 aL:aN K mg "shortest_way" iY ["beneath","start","goal"]
 aM:aN K mg "next_edge" mO ["beneath","edge","reached"]
 aO:aN K mg "way_to" vU ["reached","start","goal"]
 aP:aN K mg "shortest_ring" iD ["names","found"]
 aQ:aN K mg "never_laid" kE ["names","found"]
 aR:aN K mg "untorn_links" iZ ["ground"]
 aS:aN K mg "order" y6 ["ground"]
 aT:aN K mg "is_order" oV ["ground","some"]
 aU:aN K mg "is_name" rT ["thing"]
 aV:aN K mg "rows_of" rV ["text"]
 aW:aN K mg "is_row" vW ["row"]
 aX:aN K mg "lies_beneath" i4 ["row","above"]
 aY:aN K mg "letters_in" kH ["rows"]
 aZ:aN K mg "letters" rW ["text"]
 b0:aN K mg "meetings" oW ["text"]
 b1:aN K mg "meetings_between" fj ["above","row"]
 b2:aN K mg "check_cuts" kI ["cuts"]
 b3:aN K mg "is_named_cut" i5 ["thing"]
 b4:aN K mg "is_cut" vX ["thing"]
 b5:aN K mg "check_sayings" iE ["sayings","layers"]
 b6:aN K mg "is_saying" mP ["thing","layers"]
 b7:aN K mg "is_text_among" iF ["thing","texts"]
 b8:aN K mg "is_year" rX ["thing"]
 b9:aN K mg "layer_name" kJ ["name","letter"]
 ba:aN K mg "layers_of" mQ ["cuts"]
 bb:aN K mg "ties_of_cuts" i7 ["cuts"]
 bc:aN K mg "ties_of_sayings" fM ["sayings"]
 bd:aN K mg "_law_cell_at" jE ["_law_script","_law_k"]
 be:aN K mg "_law_mixed" mR ["_law_cell","_law_k"]
 bf:aN K mg "_law_row" rY ["_law_script","_law_many"]
 bg:aN K mg "_law_names" mS ["_law_number"]
 bh:aN K mg "_law_column" kK ["_law_number","_law_high","_law_wild"]
 bi:aN K mg "_law_sign" oY ["_law_at","_law_shift"]
 bj:aN K mg "_law_cut" rZ ["_law_row_here","_law_shift","_law_wild"]
 bm:aN K mg "_law_saying" kL ["_law_one","_law_two","_law_layers","_law_torn_here"]
 bn:aN K mg "_law_ground" kM ["_law_row_here"]
 bo:aN K mg "_law_called" kN ["_law_sayings","_law_layers"]
 bp:aN K mg "_law_links" mT ["_law_cuts","_law_sayings","_law_layers"]
 bq:aN K mg "_law_least_ring" gC ["_law_tied"]
 br:aN K mg "_law_is_ring" jF ["_law_found","_law_tied","_law_least"]
 bt:aN K mg "_law_torn" oZ ["_law_ground_here","_law_some"]
 bu:aN K mg "_law_lists" mU ["_law_told","_law_names_here","_law_row_here"]
 bv:aN K mg "_law_other_layers" fk ["_law_told","_law_called_here"]
 bw:aN K mg "_law_due" r9 ["_law_some","_law_names_here","_law_tied"]
section
variable{P:Program}{w:World}{K:ZA}{mg:ZC}{base:Heap}
def bH{n:Nat}(h:n<=5000):n<=sizeLine:=Nat.le_trans h (!1)
def aH{n:Nat}(h:n<=5000):n<sizeLine:=Nat.lt_of_le_of_lt h (!1)
def ah.JO{H:Hp}{p:Addr}{o:HO}(h:H p=none):ah H (JO H p o):=λb u e=>by rw[au (aE e h)];exact e
def ah.set{H a:Hp}{p:Addr}{o:HO}(c:ah H a)(h:H p=none):ah H (_LL.JO a p o):=λb u e=>by rw[au (aE e h)];exact c b u e
def JH{b:Type}(xs:List b){i:Int}(d:0<=i)(e:i<(~~~xs:Int)):∃c,atI xs i∣c/\c∈xs:=by
 let%[j|rfl]:=Xj d;let a:j< ~~~xs:=by lia
 exact%[xs[j],bK (by simp[a])|Yc a]
def i9(xs:ZL){i:Int}(b:0<=i)(d:i<(~~~xs:Int)):∃c,atI (xs\4) i∣V.int c/\c∈xs:=by
 let%[j|rfl]:=Xj b;let a:j< ~~~xs:=by lia
 exact%[xs[j],bK (by simp[a])|Yc a]
def FR:(gW.cps.toList.length:Int)=26:=!0
def fT(T:Txt K mg):↥1 "_law_cell_at" ["_law_script","_law_k"] (pd K):=by
 .exists T.bd,oX,g,m,%[a,c,k,rfl,d,i|q];show%[_,%["JDQK/1ZaA0BEIM01REIC"|0]|?_]
  change bn _ _ _ [!a,some (.int k)] H;lk;show%[_,.inl %[_,d|ρ]|bv (λb=>?_) λb=>?_]
  .let b:=Zo b;rw[Z6]at b;show%[_,d,.int (c.getD k.toNat 0),?_|q];let%[j|rfl]:=Xj i;let l:j< ~~~c:=by lia
   exact bK (by simp[l])
  .let b: ¬ k<(~~~(c\4):Int):=↑b
   rw[Z6]at b;let e:c.getD k.toNat 0=0:=by
    rw[Zc,Xm ⋯];rfl
   rw[e]at q;exact q
def mV(T:Txt K mg):↥1 "_law_mixed" ["_law_cell","_law_k"] vZ:=by
 .exists T.be,ii,a,j,%[c,k,rfl,l,m|q];show%[_,%["JDG2FSFxFWFWFS0CFxC1CCCDG3FSFWFx22FxFxC11CEIFSFx33C"|ii.nd]|?_]
  change bn _ _ _ [some (.int c),some (.int k),none,none] H;show ak λn k1 _=>?_
  lk;show%[!1,.inl %[!1|!1],.inr %[!1|!1],!1|k1 _ _ (ak λo k2 _=>?_)];let b:=Int.emod_nonneg ((c%1000003+7919*k+1)*48271) (by decide:(2147483629:Int)≠0);let d:=Int.emod_lt_of_pos ((c%1000003+7919*k+1)*48271) (by decide:(0:Int)<2147483629)
  generalize (c%1000003+7919*k+1)*48271%2147483629=one at b d
  lk;show%[.inl %[⋯|⋯],.inl %[!1|!1],.inr %[⋯|⋯],!1|k2 _ _ ?_];let e:=Int.emod_nonneg (one*one+104729*k*k) (by decide:(2147483587:Int)≠0);let g:=Int.emod_lt_of_pos (one*one+104729*k*k) (by decide:(0:Int)<2147483587)
  generalize (one*one+104729*k*k)%2147483587=i at e g
  lk;exact%[.inl %[⋯|⋯],!1|q _ ⋯ ⋯]
def AK(T:Txt K mg):↥2 "_law_row" ["_law_script","_law_many"] (De K):=by
 .exists T.bf,dY,aa,r,%[a,j,m,rfl,hs,hn,h0,h1|q];show%[_,%["JDG2NBDG3CDV*A1BL4DQKeFS4CCEG3H~ZA0AFWCFt4CBREQc%KeFSH~ZA0ACBCC+K~A3CDYur2AFS3CBEG3Ft3CEYur2AFSH~oAH~ZA0AFWCFS4~a~pACAF~BZaA0BCBBA4BCBEI2",dY.nd|r]|?_]
  change bn _ _ _ [!a,some (.int m),none,none,none] H;show ak λD1 k1 _=>?_
  lk;show%[Xg _|λl B=>k1 _ _ (ak λD2 k2 _=>?_)];let C:ah H (JO H l (.lst [])):=ah.JO B;lk;show k2 _ _ (ak λD3 k3 _=>ay λO hK=>?_);lk;show%[⋯,⋯|hK _ _ (cP (λi G e=>∃(n:Int) (o:Option V) (xs:ZL),G=[!a,some (.int m),!l,some (.int n),o]/\ah H e/\e l<*xs\4/\ ~~~xs=i/\∀x∈xs,0<=x/\x<9973)
   %[_,none,[],ρ,C,ae,ρ|λ_ h=>nomatch h] ?_ ?_)]
  .intro i G e hi %[n,o,xs,rfl,u,c,z|d];let ab:i<100:=by lia
   let g:=u.seq hs;change bn _ _ _ [!a,some (.int m),!l,some (.int n),some (.int (0+i))] e;rw[Int.zero_add];show ak λD4 k4 _=>?_
   let p:∀I:Int,D4.nx [!a,some (.int m),!l,some (.int I),some (.int i)] e:=λI=>k4 _ _ (aB λD5 U _=>by
    let put:∀v:Int,0<=v->v<9973->ah H (JO e l (.lst (xs\4++[.int v])))/\∃b:ZL,JO e l (.lst (xs\4++[.int v])) l<*b\4/\ ~~~b=i+1/\∀x∈b,0<=x/\x<9973:=λv Y v1=>
     ⟨ah.set u B,xs++[v],by rw[ae,Zd];rfl,by rw[Z9,z];rfl,λy hy=>by
      rcases Xo hy with q|q
      .exact d y q
      .rw[Xp q];exact%[Y|v1]⟩
    let len: ~~~(xs\4)<sizeLine:=by rw[Z6,z];exact aH ⋯
    let mx:∀x:Nat,(0:Int)<(if(x:Int) -1>1 then(x:Int) -1 else 1):=λx=>by split<;> lia
    lk;show%[a,j,0,ρ,g,!1,_,ρ,!1|bv (λ_=>bv (λ_=>?g1) λ_=>?g2) λ_=>?g3]
    case g1=>
     let%[J,b,L,M|N]:=put (I%9973) ⋯ ⋯;exact%[tyL (JP.of c),!1,_,c,len,%[!1|!1]|U _ _ %[_,_,b,ρ,J,L,M|N]]
    all_goals
     show%[tyL (JP.of c),_,.inl %[_,g|ρ],mx _,a,j,_,ρ,g,?_|?_]
     .let:=Int.emod_nonneg (i:Int) (Int.ne_of_gt (mx (j\4).length))
      lia
     show%[_,_,ρ,⋯,⋯|λv Y v1=>%[_,ρ,!1,_,c,len|U _ _ ?_]];let%[J,b,L,M|N]:=put (v%9973) ⋯ ⋯;exact%[_,_,b,ρ,J,L,M|N])
   lk;exact%[!1|bv (λ_=>%[%[!1|!1],a,j,_,ρ,g,⋯|p _]) λ_=>p n]
  .intro G e %[n,o,xs,rfl,u,c,z|d];show k3 _ _ ?_;lk;exact q l e xs u B c z d
def Dg(a:0<=i)(c:i<26):atI gW.cps.toList i∣(97+i.toNat):=by
 let%[j|rfl]:=Xj a;let b:j<26:=by omega
 let all:∀j:Fin 26,gW.cps.toList[j.1]?∣(97+j.1):=!0
 exact bK (all %[j|b])
def pf(T:Txt K mg):↥1 "_law_sign" ["_law_at","_law_shift"] y8:=by
 .exists T.bi,vY,d,e,%[a,g,rfl,i|c];show%[_,%["JDQK/0CEIbREI~qbFSFWFx0C1C"|0]|?_]
  change bn _ _ _ [some (.int a),some _] H;lk;unfold sg at c;show bv (λb=>?_) λb=>?_
  .let b:=Zo b;rw[if_pos b]at c;exact c
  .let b: ¬ a<0:=↑b
   rw[if_neg b]at c;show%[.inr %[by simp|by simp],!1,(!1),_,Dg (by omega) (by omega)|c]
def ue(T:Txt K mg):↥1 "_law_column" ["_law_number","_law_high","_law_wild"] sd:=by
 .exists T.bh,bV,ai,hr,%[n,hi,wd,rfl,n0,h1,h6|kk];show%[_,%["JDG3FS0CDG4FSFt0CCDG0Ft0CDG5NBDV*A1BL6EQc%K/63+K/6F~B1CEYur5A:CBDYur5A4BDG4~a~pACA~O~5ACAFW4MNACACAMNACA:CB~r~sA2BBFS0CBBEG0Ft0CEI5"|bV.nd]|?_]
  change bn _ _ _ [some (.int n),some (.int hi),some (.bl wd),none,none,none,none] H;show ak λD1 k1 _=>?_
  lk;show%[!1|k1 _ _ (ak λD2 k2 _=>?_)];lk;show%[%[!1|!1],!1|k2 _ _ (ak λD3 k3 _=>?_)];lk;show%[%[!1|!1]|k3 _ _ (ak λD4 k4 _=>?_)];lk;show%[Xg _|λL U=>k4 _ _ (ak λD5 k5 r5=>ay λag hK=>?_)];lk;let J:∃a:Nat,(a:Int)=(if n%3<hi-1 then n%3 else hi-1):=by
   split
   .exact%[(n%3).toNat|by omega]
   .exact%[(hi-1).toNat|by omega]
  let%[a|ea]:=J;show%[by omega,by omega|hK _ _ (cP (λi σ B=>∃(m b:Int) (o:Option V) (g:ZL),σ=[some (.int m),some (.int hi),some (.bl wd),some (.int (n%3)),some (.int b),!L,o]/\0<=b/\b<=7/\ah H B/\B L<*g\4/\ ~~~g=i/\
   (∀(k:Nat) (c:Int),g[k]?∣c->(k<a->c= -1)/\(a<=k->0<=c/\c<=7))/\∀(k:Nat) (c d:Int),g[k]?∣c->(g++[b])[k+1]?∣d->a<=k->St wd c d)
   %[_,_,none,[],ρ,by omega,by omega,ah.JO U,ae,ρ,(λk c e=>by simp at e)|λk c d e=>by simp at e] ?_ ?_)]
  .intro i σ B al %[m,b,o,g,rfl,a0,a7,Y,l,C,r|G];change iM _ _ _ _ [some (.int m),some (.int hi),some (.bl wd),some (.int (n%3)),some (.int b),!L,some (.int (0+i))] B;rw[Int.zero_add];let len: ~~~(g\4)<sizeLine:=by rw[Z6,C];exact aH (by omega)
   let put:∀v:Int,(i<a->v= -1)->(a<=i->0<=v/\v<=7)->∀(k:Nat) (c:Int),(g++[v])[k]?∣c->(k<a->c= -1)/\(a<=k->0<=c/\c<=7):=λv v1 v2 k c e=>by
    by_cases hk:k< ~~~g
    .rw[Y8 hk]at e;exact r k c e
    .let ek:k=i:=by
      let:=(Xn e).1;rw[Z9]at this;simp only[Zr,length_nil]at this;omega
     subst ek;rw[Y9 (by omega),C,Xb]at e;cases e;exact%[v1|v2]
   show aB λD6 k6 _=>?_
   lk;let M:∀v u:Int,(a<=i->v=b/\St wd v u)->∀(k:Nat) (c d:Int),(g++[v])[k]?∣c->(g++[v] ++[u])[k+1]?∣d->a<=k->St wd c d:=λv u q k c d I y hk=>by
    let an:k+1<= ~~~g+1:=by
     let:=(Xn y).1;simp only[Z9,Zr,length_nil]at this;omega
    by_cases h:k+1< ~~~g+1
    .rw[Y8 (by omega)]at I;rw[Y8 ↑h]at y;by_cases h':a<=i
     .rw[(q h').1]at y;exact G k c d I y hk
     .omega
    .let ek:k=i:=by omega
     subst ek;rw[Y9 (by omega),C,Xb]at I;rw[Y9 (by simp;omega)]at y;simp[C]at I y;rw[<-I,<-y];exact(q hk).2
   let aa:∀_v:Int,¬ i<a->∀(m2 j:Int) (HH:Hp),0<=j->j<=7->St wd b j->ah (JO B L (.lst (g\4++[.int b]))) HH->D6.nx [some (.int m2),some (.int hi),some (.bl wd),some (.int (n%3)),some (.int j),!L,some (.int i)] HH:=λv hv m2 j HH b0 b7 st sh=>
    k6 _ _ %[m2,j,_,g++[b],rfl,b0,b7,(ah.set Y U).trans sh,by rw[sh L _ ae,Zd];rfl,by rw[Z9,C];rfl,put b (λz=>absurd z hv) λ_=>%[a0|a7]|M b j λ_=>%[rfl|st]]
   show bv (λhA=>bv (λhB=>?g1) λhB=>?g2) λhA=>?g3
   case g1=>
    simp only[decide_eq_true_eq]at hA hB;let N:i<a:=by split at ea<;> omega
    exact%[tyL (JP.of l),_,l,len|k6 _ _ %[m,b,_,g++[-1],ρ,a0,a7,ah.set Y U,by rw[ae,Zd];rfl,by rw[Z9,C];rfl,put (-1) (λ_=>rfl) λz=>absurd N (by omega)|M (-1) b λz=>absurd N (by omega)]]
   all_goals
    let ab: ¬ i<a:=by
     simp only[decide_eq_true_eq]at*
     split at ea<;> omega
    show%[tyL (JP.of l),_,l,len,#[2]|λp hp=>%[_,JP.of ae,.int (if wd=true then -1 else 2),by cases wd<;> rfl,#[3]|λp1 ac=>%[!1,_,JP.of ae|?_]]];let%[c,hc|O]:=i9 [0,1,if wd=true then -1 else 2] (i:=m%3) (by omega) (by change m%3<3;omega);show%[_,hc,c,ρ,%[!1|!1]|aa 0 ab _ _ _ ?_ ?_ ?_ ((ah.JO hp).trans (ah.JO ac))]
    rotate_left 2
    .unfold _CU.St;simp only[Yy,X8,or_false]at O;cases wd<;> rcases O with rfl|rfl|rfl<;> simp<;>(split<;>(try split)<;> omega)
    all_goals(split<;>(simp)<;> omega)
  .intro σ B %[m,b,o,g,rfl,a0,a7,Y,l,C,r|G];show k5 _ _ ?_;lk;exact kk L B g Y U l (by omega) %[a,by omega,r|λk c d I y=>G k c d I ((Y8 (Xn y).1)▸y)]
def v4(xs:ZL){lo hi:Int}(c:0<=lo)(d:lo<=hi)(e:hi<= ~~~xs):sM (xs\4) (some lo) (some hi)=((xs.drop lo.toNat).take (hi.toNat-lo.toNat))\4:=by
 unfold sM;rw[Z6];let a:_HT.sIx xs.length 0 (some lo)=lo.toNat:=by
  change(if lo<0 then _ else min lo.toNat xs.length)=_;rw[if_neg ⋯]
  lia
 let b:_HT.sIx xs.length xs.length (some hi)=hi.toNat:=by
  change(if hi<0 then _ else min hi.toNat xs.length)=_;rw[if_neg ⋯]
  lia
 rw[a,b,map_take,map_drop]
def Fk(a:Int)(b:ZL):inV (V.int a) (b\4)=decide (a∈b):=by
 unfold inV;rw[any_map]
 induction b with
 | nil=>rfl
 | cons c r d=>
   rw[Zw,d];change((c==a)||_)=_;by_cases h:c=a
   .subst h;simp
   .let:a≠c:=λe=>h e.symm
    simp[h,this]
def AL(a:ZL):(a\4).all fE=true:=by simp[fE]
def AM(T:Txt K mg):↥2 "_law_cut" ["_law_row_here","_law_shift","_law_wild"] (Df K):=by
 .exists T.bj,dz,ch,hr,%[a,xs,v,d,rfl,hs,keep,b2,hb,s0|kk];let get:∀i:Int,0<=i->i<6->∃c,atI (xs\4) i∣V.int c/\0<=c/\c<9973:=λi h0 h1=>by
   let%[c,e|hm]:=i9 xs h0 ⋯;exact%[c,e|hb c hm]
  let%[c0,g0,l0|u0]:=get 0 (!1) (!1);show%[_,%["JDG3FWCFSM0CCD,4jkFWCFSFtM0CCCD~65jkmd?1Tn0fCfFWC3X0?2sH~7A0AO1AO2BDG6NBDV*AO4B~t7jkEYur6A~P~QbAmd?3TO5X0?4sH~uAM0O2AO1BBBD~H8kjd?5*ACB~80?6jk~C~9]A]BAmd?7TO1X0?8sy~DO10BO0EIzA~P~QbA6BA8B",dz.nd,↑(["_law_number","_law_high","_law_wild"],[(1,4),(2,2)]),↑["_law_number","_law_high","_law_wild"],↑(["_law_column_here","_law_shift","_law_k"],[(1,1),(2,7)]),↑["_law_column_here","_law_shift","_law_k"],↑(["_law_at","_law_columns"],[(1,5)]),↑["_law_at","_law_columns"],↑(["_law_column_here","_law_at"],[(1,0)]),↑["_law_column_here","_law_at"]|hr]|?_]
  change bn _ _ _ [!a,some (.int v),some (.bl d),none,none,none,none,none,none] H;show ak λD1 k1 _=>?_
  lk;show%[_,hs,_,g0,c0,ρ,!1|k1 _ _ (ak λD2 k2 _=>?_)];lk;show%[_,hs,_,g0,c0,ρ,%[!1|!1],!1|k2 _ _ (ak λD4 k4 _=>?_)];let w1:1<=1+c0%5:=by lia
  let w5:1+c0%5<=5:=by lia
  let i1:1<=1+c0/5%7:=by lia
  let i6:1+c0/5%7<=7:=by lia
  generalize cl:1+c0%5=wd at w1 w5
  generalize 1+c0/5%7=hi at i1 i6
  show aF λI Y=>?_
  lk;show%[_,hs|λp hp=>%[%[_|JP.of ae]|Y _ _ λD hD=>?_]];rw[v4 xs (!1) ⋯ ⋯]at hD ⊢;let aU: ~~~((xs.drop (Int.toNat 1)).take ((1+wd).toNat-Int.toNat 1))=wd.toNat:=by
   rw[Ym,Yh,b2];rw[show(1+wd).toNat=wd.toNat+1 by lia];exact min_eq_left ⋯
  let a0:∀x∈(xs.drop (Int.toNat 1)).take ((1+wd).toNat-Int.toNat 1),0<=x/\x<9973:=λx hx=>hb x (List.mem_of_mem_drop (Yz hx))
  generalize (xs.drop (Int.toNat 1)).take ((1+wd).toNat-Int.toNat 1)=ys at aU a0 hD ⊢
  let a1:ah H (JO H p (.lst (ys\4))):=ah.JO hp;let aa:JO H p (.lst (ys\4)) p<*ys\4:=ae
  generalize JO H p (.lst (ys\4))=b3 at a1 aa hD ⊢
  show cZ (J:=Itl K p) (n:=wd.toNat) (D:=D) (λi zs m j=>(∃o,m=[o,some (.int hi),some (.bl d)])/\ah b3 j/\j D<*zs/\∃b:List (Addr×ZL),zs=b\0/\ ~~~b=i/\ud j b/\∀q∈b,q.1≠D/\ ~~~q.2=hi.toNat/\kC d q.2)
   %[%[none|rfl],ah.JO hD,ae,[],rfl,rfl,λq B=>(nomatch B)|λq B=>(nomatch B)]
   (λi _ _ j a2 g=>%[_,V.int (ys[i]'⋯),JP.of (g.2.1 _ _ aa)|by simp[show i< ~~~ys by lia]]) (λ_ _ j g=>%[_,JP.of (g.2.1 _ _ aa)|by simp[aU]]) ?_ ?_
  .intro i zs m j a2 %[%[o|rfl],M,a3,b,rfl,L,ab|N] x H2 %[e2|hx];subst e2;let a4:i< ~~~ys:=by lia
   let y:=hx _ (JP.of (M _ _ aa));rw[Zl,Z4 a4]at y;obtain rfl:x=V.int ys[i]:=(Za y).symm;lk;show%[_,_,_,ρ,(a0 _ (Yc a4)).1,i1,i6|λl H3 b4 an a5 a6 a7 b5=>?_];let bb:l≠D:=λe=>by rw[e,a3]at a5;cases a5
   show CK.mk a2 (an _ _ a3) (by rw[Z6,L];exact aH ⋯) %[%[_|rfl],ah.set (M.trans an) hD,ae,b++[(l,b4)],by rw[Zd];rfl,by rw[Z9,L];rfl,λq B=>?_|λq B=>?_]
   .rcases Xo B with z|z
    .rw[au (N q z).1];exact an _ _ (ab q z)
    .rw[Xp z,au bb];exact a6
   .rcases Xo B with z|z
    .exact N q z
    .rw[Xp z];exact%[bb,a7|b5]
  intro zs m H4 %[_,b6,bc,b,rfl,L,ab|N];let aq:ah H H4:=a1.trans b6;show k4 _ _ (ak λD5 k5 _=>?_);lk;show%[Xg _|λR hR=>k5 _ _ (ak λD6 k6 _=>ay λI Y=>?_)];lk;let cd: ~~~(b\2)=wd.toNat:=by rw[Z6];exact L
  show%[⋯,⋯|Y _ _ (cP (λi m j=>∃o7,m=[!a,some (.int v),some (.bl d),some (.int wd),some (.int hi),!D,!R,o7,none]/\ah H4 j/\j R<*((List.range i).map (iW (b\2) v))\3)
   %[_,ρ,ah.JO hR|ae] ?_ ?_)]
  .intro i m H5 co %[o7,rfl,u|ac];change jB _ _ [!a,some (.int v),some (.bl d),some (.int wd),some (.int hi),!D,!R,some (.int (0+i)),none] H5;rw[Int.zero_add];show aB λD8 k8 _=>?_
   lk;show%[tyL (JP.of ac)|aF λI Y=>?_];lk;let ag:=u _ _ bc;show%[%[_|JP.of ag]|Y _ _ λF hF=>?_];show cZ (J:=Itl K D) (n:=wd.toNat) (D:=F) (λq ts m j=>(∃o,m=[o,some (.int v),some (.int i)])/\ah H5 j/\j F<*ts/\ts=(((b.take q).map (λp=>sg (p.2.getD i 0) v)).map sgn)\3)
    %[%[none|rfl],ah.JO hF,ae|rfl]
    (λq _ _ j B g=>%[_,V.ref (b[q]'⋯).1,JP.of (g.2.1 _ _ ag)|by simp[show q< ~~~b by lia]]) (λ_ _ j g=>%[_,JP.of (g.2.1 _ _ ag)|by simp[L]]) ?_ ?_
   .intro q ts m j B %[%[o|rfl],M,as|O] x H2 %[e2|hx];subst e2;let C:q< ~~~b:=by lia
    let y:=hx _ (JP.of (M _ _ ag));rw[Zl,Z4 C]at y;obtain rfl:x=V.ref b[q].1:=(Za y).symm;let hm:=Yc C;lk;show%[_,JP.of (M _ _ (u _ _ (ab _ hm))),V.int (b[q].2.getD i 0),?_|?_]
    .show bK ?_;rw[Zl,dL (N _ hm).2.1 ⋯];rfl
    show%[_,_,ρ,s0|?_];show CK.mk B as (by rw[O,Z6,Z6,Z6,Ym];exact aH ⋯) %[%[_|rfl],ah.set M hF,ae|?_];rw[O,Xc,Zd,Zd,Zd,Z4 C];rfl
   intro ts m H7 %[_,bf,b7|O];rw[Zn ⋯]at O;lk;show%[(b.map λp=>sg (p.2.getD i 0) v).map sgn,by rw[<-O];exact JP.of b7,?_,_,bf _ _ ac,by rw[Z6,Z6,Yj];exact aH ⋯|k8 _ _ %[_,ρ,ah.set (u.trans bf) hR|?_]]
   .rw[tG,Z6,Z6,show(!"").length=0 from rfl]
    lia
   .rw[ae,range_succ,Zd,Zd,show Txt.join (!"") ((b.map λp=>sg (p.2.getD i 0) v).map sgn)=Str.join (!"") ((b.map λp=>sg (p.2.getD i 0) v).map sgn)from StrLaws.glued_eq_join _ _,om];let e:iW (b\2) v i=⟨(b.map λp=>sg (p.2.getD i 0) v).toArray⟩:=by
     unfold iW;rw[Yt];rfl
    rw[<-e];rfl
  .intro m H5 %[o7,rfl,u|ac];show k6 _ _ (ak λD7 k7 _=>aF λI Y=>?_);lk;show%[!1,!1|Y _ _ λF hF=>?_];show cZ (J:=Itr 0 8) (n:=8) (D:=F) (λq ts m j=>(∃o,m=[o,!D])/\ah H5 j/\j F<*ts/\ts=(((List.range q).filter λa:Nat=>(b\2).any λc=>decide ((a:Int)∈c)).map λa:Nat=>(a:Int))\4)
    %[%[none|rfl],ah.JO hF,ae|rfl] (λq _ _ j B _=>B) (λ_ _ j _=>Zi _) ?_ ?_
   .intro q ts m j B %[%[o|rfl],M,as|O] x H2 %[e2|e3];subst e2 e3;lk;show aF λI Y=>?_
    lk;let ai:=M _ _ (u _ _ bc);show%[%[_|JP.of ai]|Y _ _ λG hG=>?_];show cZ (J:=Itl K D) (n:=wd.toNat) (D:=G) (λr zs m H3=>(∃o,m=[o,some (.int q)])/\ah H2 H3/\H3 G<*zs/\zs=(b.take r).map (λp=>V.bl (decide ((q:Int)∈p.2))))
     %[%[none|rfl],ah.JO hG,ae|rfl]
     (λr _ _ H3 bl g=>%[_,V.ref (b[r]'⋯).1,JP.of (g.2.1 _ _ ai)|by simp[show r< ~~~b by lia]]) (λ_ _ H3 g=>%[_,JP.of (g.2.1 _ _ ai)|by simp[L]]) ?_ ?_
    .intro r zs m H3 bl %[%[o|rfl],s3,b9|hz] x ct %[e2|hx];subst e2;let C:r< ~~~b:=by lia
     let y:=hx _ (JP.of (s3 _ _ ai));rw[Zl,Z4 C]at y;obtain rfl:x=V.ref b[r].1:=(Za y).symm;let hm:=Yc C;lk;show%[_,.inl (JP.of (s3 _ _ (M _ _ (u _ _ (ab _ hm))))),ρ,AL _|?_];rw[Fk];show CK.mk bl b9 (by rw[hz,Z6,Ym];exact aH ⋯) %[%[_|rfl],ah.set s3 hG,ae|?_];rw[hz,Xc,Zd,Z4 C];rfl
    intro zs m H3 %[_,s3,ca|hz];rw[Zn ⋯]at hz;let bm:=s3 _ _ as;lk;show%[b.map λp=>decide ((q:Int)∈p.2),by rw[Yt];exact JP.of (by rw[ca,hz];rfl)|?_];rw[show((b.map λp=>decide ((q:Int)∈p.2)).any id)=(b\2).any λc=>decide ((q:Int)∈c) by rw[any_map,any_map];rfl];let bt: ~~~ts<sizeLine:=by
     rw[O,Z6,Z6];let:=Yi (λa:Nat=>(b\2).any λc=>decide ((a:Int)∈c)) (List.range q);rw[Yj]at this;exact aH ⋯
    show bv (λhb=>?_) λhb=>?_
    .show CK.mk B bm bt %[%[_|rfl],ah.set (M.trans s3) hF,ae|?_];rw[O,range_succ,Y2,Zd,Zd];rw[show List.filter (λa:Nat=>(b\2).any λc=>decide ((a:Int)∈c)) [q]=[q]from by rw[filter_cons,if_pos hb];rfl];rfl
    .show CN.mk B %[%[_|rfl],M.trans s3,bm|?_];rw[O,range_succ,Y2,Zd,Zd];rw[show List.filter (λa:Nat=>(b\2).any λc=>decide ((a:Int)∈c)) [q]=[]from by rw[filter_cons,if_neg hb];rfl];simp
   intro ts m H6 %[_,aR,bI|O];show k7 _ _ ?_;lk;let U:∀c∈b\2,~~~c=hi.toNat/\kC d c:=λc hc=>by
    let%[p,hp|rfl]:=Xq hc;exact(N p hp).2
   let al:cy (drawn (b\2) hi.toNat v):=vQ ⋯ ⋯ ⋯ ⋯ U;let b0:H5 R<*(drawn (b\2) hi.toNat v)\3:=ac;show%[drawn (b\2) hi.toNat v,JP.of (aR _ _ b0),?_,#[2]|λp hp=>?_]
   .let:=al.sum;let:=al.high;rw[show(!"\n").length=1 from rfl]
    lia
   .let b1:ah H (JO H6 p (.tup [V.str (Txt.join (!"\n") (drawn (b\2) hi.toNat v)),V.ref F])):=(aq.trans (u.trans aR)).trans (ah.JO hp);show kk p F _ (b\2) hi.toNat b1 ((aq.trans (u.trans aR)).free hp) ((aq.trans u).free hF) (λe=>by rw[e,bI]at hp;cases hp) ?_ ?_ ⋯ ⋯ ⋯ ⋯ U
    .rw[ae,show Txt.join (!"\n") (drawn (b\2) hi.toNat v)=Str.join (!"\n") (drawn (b\2) hi.toNat v)from StrLaws.glued_eq_join _ _];rfl
    .rw[ah.JO hp F _ bI,O];rfl
inductive sf
 | mk (z:Str):vs=[.str z]-> ~~~z<=1000->(∀H',ah H H'->Q (.bl (tF z)) H')->sf vs H Q E0
inductive ph
 | mk (row above:Str):vs=[.str row,.str above]-> ~~~row<=1000-> ~~~above<=1000->(∀H',ah H H'->Q (.bl (e7 row above)) H')->ph vs H Q E0
inductive jG (K:ZA)
 | mk (a:Addr) (rows:ZB):vs=[.ref a]->JP K H a (rows\3)->(rows.map (·.length)).sum<=3000->(∀r∈rows,r.cps.toList.all okc=true)->(∀l H' (ss:ZB),ah H H'->H l=none->H' l<*ss\3->ss.Perm (aC ((c6 rows).map sgn))->Q (.ref l) H')->jG K vs H Q E0
inductive pj
 | mk (rows:ZB):vs=[.str (Str.join nl rows)]->cy rows->(∀l H',ah H H'->H l=none->H' l<*rows\3->Q (.ref l) H')->pj vs H Q E0
def jp(z:Str)(i:Nat)(c:Nat)(h:z.cps[i]?∣c):(z.cps.toList.take i++[c])=z.cps.toList.take (i+1):=by
 let h':z.cps.toList[i]?∣c:=↑h
 let%[a|e]:=Xn h';rw[List.take_succ_eq_append_getElem a,e]
def ye(c d:Nat):((⟨([c].toArray)⟩:Str)=⟨([d].toArray)⟩)↔c=d:=by
 constructor
 .intro h;let:(([c].toArray):Array Nat)= ([d].toArray):=by injection h
  simpa using this
 .intro h;rw[h]
def lT(c:Nat):((⟨([c].toArray)⟩:Str)=!".")↔c=46:=ye c 46
def Dh(T:Txt K mg):↥1 "is_row" ["row"] sf:=by
 .exists T.aW,AI,y,N,%[z,rfl,O|k];show%[_,%["JEI.~b~E~ECZaA0B]C;~R~SAmd?1~c0X0?2s~vye0~I;y~D0~wB",0,↑(["sign"],[])|↑["sign"]]|?_];change jK _ _ [-z] H;lk;show%[bH ⋯|bv (λm=>bv (λp=>?_) λp=>?_) λm=>?_]
  .show aF λu B=>?_
   lk;show B _ _ λD v=>?_
   show cZ (J:=Its z) (n:=z.cps.size) (D:=D) (λi ys d a=>(∃o,d=[o])/\ah H a/\a D<*ys/\ys=(z.cps.toList.take i).map (λc=>V.bl (okc c))) %[%[none|rfl],ah.JO v,ae|rfl]
    (λi _ _ _ hi _=>hi) (λ_ _ _ _=>Zi _) ?_ ?_
   .intro i ys d a hi %[%[o|rfl],q,r|g] x C %[G,c,I|rfl];subst G;let j: ~~~ys=i:=by
     rw[g,Z6,Ym];let: ~~~z.cps.toList=z.cps.size:=by simp
     lia
    let L:i<1000:=by
     let: ~~~z=z.cps.size:=rfl
     lia
    let put:∀b:Bool,b=okc c->CK D z.cps.size i (λi ys d a=>(∃o,d=[o])/\ah H a/\a D<*ys/\ys=(z.cps.toList.take i).map (λc=>V.bl (okc c))) ys [some (.str ⟨([c].toArray)⟩)] (.bl b) C:=λb M=>
     CK.mk hi r (by rw[j];exact aH ⋯) %[%[_|rfl],ah.set q v,ae|by rw[M,g,<-jp z i c I,Zd];rfl]
    lk;show bv (λl=>put true ?_) λl=>put _ ?_
    .let:=(lT c).mp (Zo l);unfold okc;rw[Zf this,Bool.true_or]
    .let l: ¬ (⟨([c].toArray)⟩:Str)=Str.ofString ".":=λe=>l (Zf e)
     let: ¬ c=46:=λe=>l ((lT c).mpr e)
     unfold okc;rw[Zh this,Bool.false_or,BJ];rfl
   .intro ys d a %[_,q,r|g];lk;show%[z.cps.toList.map okc,?_|?_]
    .let e:z.cps.toList.take z.cps.size=z.cps.toList:=by
      apply Zn;simp
     rw[e]at g;let:(z.cps.toList.map okc).map V.bl=ys:=by rw[g,Yt];rfl
     rw[this];exact JP.of r
    .let e:tF z=(z.cps.toList.map okc).all id:=by
      unfold tF;rw[m,p,all_map]
      all_goals rfl
     rw[<-e];exact k a q
  .rw[Bool.not_eq_true]at p;let e:tF z=false:=by unfold tF;rw[p,Bool.and_false,Bool.false_and]
   rw[e]at k;exact k H (ah.refl H)
  .rw[Bool.not_eq_true]at m;let e:tF z=false:=by unfold tF;rw[m,Bool.false_and,Bool.false_and]
   rw[e]at k;exact k H (ah.refl H)
abbrev mW(p:Nat×Nat):Bool:=!decide (p.2=46)||decide (p.1=46)
def pq(x y:Str)(i c d:Nat)(b:x.cps[i]?∣c)(f:y.cps[i]?∣d):((List.zip x.cps.toList y.cps.toList).take i++[(c,d)])=(List.zip x.cps.toList y.cps.toList).take (i+1):=by
 let h:(List.zip x.cps.toList y.cps.toList)[i]?∣(c,d):=List.getElem?_zip_eq_some.mpr %[↑b|↑f];let%[a|e]:=Xn h;rw[List.take_succ_eq_append_getElem a,e]
def pA(T:Txt K mg):↥1 "lies_beneath" ["row","above"] ph:=by
 .exists T.aX,nh,I,hr,%[row,a,rfl,L,M|k];show%[_,%["JDQKvZaA0BZaA1BEIoREI~R~SAmd?1~xA1A0BgPX0?2PX1?2hs~vyv1~I;ye0~IB",0,↑(["high","low"],[])|↑["high","low"]]|?_]
  change bn _ _ _ [-row,-a] H;show ak λD1 k1 N=>?_
  lk;show%[bH ⋯,bH ⋯|bv (λj=>?_) λj=>?_]
  .let j: ¬ ((~~~row:Int)= ~~~a):=↑j
   let e:e7 row a=false:=by
    unfold e7;rw[Zh ⋯,Bool.false_and]
   rw[e]at k;exact N _ _ (k H (ah.refl H))
  .let j: ~~~row= ~~~a:=by
    let:(~~~row:Int)= ~~~a:=↑j
    lia
   show k1 _ _ ?_;let u:row.cps.size=a.cps.size:=j;let v: ~~~(List.zip a.cps.toList row.cps.toList)=a.cps.size:=by rw[length_zip];simp[u]
   lk;show aF λB O=>?_
   lk;show O _ _ λD C=>?_
   show cZ (J:=Itz a row) (n:=a.cps.size) (D:=D) (λi ys l g=>(∃q r,l=[q,r])/\ah H g/\g D<*ys/\ys=((List.zip a.cps.toList row.cps.toList).take i).map (λp=>V.bl (mW p))) %[%[none,none|rfl],ah.JO C,ae|rfl]
    (λi _ _ _ hi _=>%[hi|⋯]) (λ_ _ _ _=>%[Zi _,⋯|.inl rfl]) ?_ ?_
   .intro i ys l g hi %[%[q,r|rfl],y,z|m] x H2 %[c,d,TT,U,Y,G,rfl|rfl];let o: ~~~ys=i:=by rw[m,Z6,Ym,v];lia
    let aa:i<1000:=by
     let: ~~~a=a.cps.size:=rfl
     lia
    let put:∀b:Bool,b=mW (c,d)->CK D a.cps.size i (λi ys l g=>(∃q r,l=[q,r])/\ah H g/\g D<*ys/\ys=((List.zip a.cps.toList row.cps.toList).take i).map (λp=>V.bl (mW p))) ys [some (.str ⟨([c].toArray)⟩),some (.str ⟨([d].toArray)⟩)] (.bl b) (JO g TT (.tup [.str ⟨([c].toArray)⟩,.str ⟨([d].toArray)⟩])):=λb eb=>
     CK.mk hi (ah.JO G _ _ z) (o▸aH ⋯) %[%[_,_|rfl],ah.set (y.trans (ah.JO G)) C,ae|by rw[eb,m,<-pq a row i c d U Y,Zd];rfl]
    lk;show%[_,SqT.of ae,ρ,_,_,ρ,_,_,ρ,ρ,ρ|?_];simp only[V.str.injEq,lT];show bv (λh=>put true ?_) λh=>%[⟨⟩|put _ ?_]
    .unfold mW;rw[h,Bool.true_or]
    .unfold mW;rw[Bool.not_eq_true]at h;rw[h,Bool.false_or]
   .intro ys l g %[_,y,z|m];lk;show%[(List.zip a.cps.toList row.cps.toList).map mW,?_|?_]
    .let e:(List.zip a.cps.toList row.cps.toList).take a.cps.size=List.zip a.cps.toList row.cps.toList:=Zn ⋯;rw[e]at m;let:((List.zip a.cps.toList row.cps.toList).map mW).map V.bl=ys:=by rw[m,Yt];rfl
     rw[this];exact JP.of z
    .let e:e7 row a=((List.zip a.cps.toList row.cps.toList).map mW).all id:=by
      unfold e7;rw[Zf j,all_map,Bool.true_and];rfl
     exact e▸k g y
def AN(h:(rows.map (·.length)).sum<=3000):(Str.join (!"") rows).length<=3000:=by
 let:=StrLaws.join_length_le (!"") rows;rw[show(!"").length=0 from rfl]at this
 lia
def kQ(T:Txt K mg):↥1 "letters_in" ["rows"] (jG K):=by
 .exists T.aY,qr,M,hr,%[a,rows,rfl,N,g,v|k];show%[_,%["JEI&~dA_~FAmd?1~c~P~QbA0BX0?2~CKv0~I0BB",0,↑(["sign"],[])|↑["sign"]]|?_];change jK _ _ [!a] H;lk;show aF λC O=>?_
  lk;show%[rows,N,by rw[show(!"").length=0 from rfl];lia|?_];rw[show Txt.join (!"") rows=Str.join (!"") rows from StrLaws.glued_eq_join _ _];let j:=AN g;let b:=lH v;unfold c6 at b k
  generalize Str.join (!"") rows=z at j b k ⊢
  show O _ _ λD G=>?_
  show cZ (J:=Its z) (n:=z.cps.size) (D:=D) (λi ys y m=>(∃o,y=[o])/\ah H m/\m D<*ys/\ys=((z.cps.toList.take i).filter (λc=>decide (c≠46))).map (λc=>V.str (sgn c))) %[%[none|rfl],ah.JO G,ae|rfl]
   (λi _ _ _ hi _=>hi) (λ_ _ _ _=>Zi _) ?_ ?_
  .intro i ys y m hi %[%[o|rfl],r,u|d] x H2 %[U,c,I|rfl];subst U;let L: ~~~ys<=i:=by
    rw[d,Z6];let:=Yi (λc=>decide (c≠46)) (z.cps.toList.take i);rw[Ym]at this
    lia
   let Y:i<3000:=by
    let: ~~~z=z.cps.size:=rfl
    lia
   lk;simp only[lT];show bv (λB=>?_) λB=>?_
   .show CK.mk hi u (aH ⋯) %[%[_|rfl],ah.set r G,ae|?_];rw[<-jp z i c I,Y2,Zd,d];let:decide (c≠46)=true:=↑B
    rw[filter_cons,this];rfl
   .show CN.mk hi %[%[_|rfl],r,u|?_];rw[<-jp z i c I,Y2,Zd,d];let:decide (c≠46)=false:=↑B
    rw[filter_cons,this];simp
  .intro ys y m %[_,r,u|d];let e:z.cps.toList.take z.cps.size=z.cps.toList:=by
    apply Zn;simp
   rw[e]at d;lk;let aa:=Yi (λc=>decide (c≠46)) z.cps.toList;let ab: ~~~z.cps.toList= ~~~z:=by simp[Str.length]
   show%[(z.cps.toList.filter (λc=>decide (c≠46))).map sgn,?_,by rw[Z6];lia|λS hS=>%[_,ae,?_|λl ss p hp ac=>?_]]
   .rw[Yt];let:(z.cps.toList.filter (λc=>decide (c≠46))).map (V.str ∘ sgn)=ys:=by rw[d];rfl
    rw[this];exact JP.of u
   .let:=oj b
    lia
   .let q:ah H (JO m S (eL w S (aC ((z.cps.toList.filter (λc=>decide (c≠46))).map sgn)))):=r.trans (ah.JO hS);exact k l _ ss (q.trans (ah.JO p)) (q.free p) ae hp
def lU(T:Txt K mg):↥2 "rows_of" ["text"] pj:=by
 .exists T.aV,ig,an,M,%[rows,rfl,a|k];let%[wd,w1,w2|hw]:=a.wide;let N:=a.text;let p:=a.split;show%[_,%["JDQ!l()A0A?1BE>RDG1]D]E0AbBDV~JA1BgPL2PL3hDQcwKe2]F'!lH]GA3BE>REQc%K~A2C+!lH]HA3AM1F~B2CBE>RDQKeZaAH~yA1BBCE>REI1",ig.nd,(blE (v:= .ty "str") rfl T.ac boot_str rfl rfl rfl)|M]|?_]
  generalize Str.join nl rows=z at N p
  change bn _ _ _ [-z,none,none,none] H;show ak λD1 k1 _=>?_
  lk;show%[.type "str",.str z,true,by rfl|p8 (k1 _ _ (ak λD2 k2 _=>?_))];lk;show%[!1,Nat.le_trans (by lia: ~~~z+2<=5000) (!1)|λl hl=>k2 _ _ ?_];rw[show(!"\n")=nl from rfl,p];show ak λD3 k3 _=>ay λag hK=>?_
  lk;let O:ah H (JO H l (.lst (rows\3))):=ah.JO hl;show%[_,JP.of ae|hK _ _ (iS (λi J d=>∃U Y,J=[-z,!l,U,Y]/\ah H d/\d l<*rows\3) %[none,none,ρ,O|ae] (λi J d _ ⟨_,_,_,_,q⟩=>JP.of q) ?_ ?_)]
  .intro i x TT J d u %[U,Y,rfl,sm|g] hT;obtain⟨r,j,rfl⟩:∃r,rows[i]?∣r/\x=V.str r:=by
    rw[Zl]at u;cases e:rows[i]? with
    | none=>rw[e]at u;cases u
    | some r=>rw[e]at u;exact%[r,ρ|(Za u).symm]
   let ai:i< ~~~rows:=(Xn j).1;let al:=a.high;let y:ah H (JO d TT (.tup [.int i,.str r])):=sm.trans (ah.JO hT);let n:JO d TT (.tup [.int i,.str r]) l<*rows\3:=ah.JO hT _ _ g;let B:JO d TT (.tup [.int i,.str r]) TT&&&[.int i,.str r]:=ae
   generalize JO d TT (.tup [.int i,.str r])=HT at y n B
   let C: ~~~r<=1000:=by
    let: ~~~r=wd:=hw r (Z8 j)
    lia
   show%[_,SqT.of B,ρ,_,_,ρ,_,_,ρ,ρ|?_];change bn _ _ _ [-z,!l,some (.int i),-r] HT;show ak λD4 k4 _=>?_
   let go:∀o,ah HT o->D4.nx [-z,!l,some (.int i),-r] o:=by
    intro o b;show k4 _ _ (aB λD5 k5 _=>?_);let G:∀L,ah HT L->D5.nx [-z,!l,some (.int i),-r] L:=λL m=>k5 _ _ %[_,_,rfl,y.trans m|m l _ n]
    lk;show bv (λI=>?_) λ_=>G _ b
    let I:0<(i:Int):=Zo I;obtain⟨i',rfl⟩:∃i',i=i'+1:=%[i-1|⋯]
    let aa:i'< ~~~rows:=by lia
    let ab:rows[i']?∣rows[i']:=by simp
    let e1:(((i'+1:Nat):Int) -1)=(i':Int):=by lia
    show%[_,JP.of (b l _ n),.str rows[i'],e1▸bK ∅,r,rows[i'],ρ,C,?_|λL m=>%[_,ρ|?_]]
    .let:rows[i'].length=wd:=hw _ (Yc aa)
     lia
    .rw[a.beneath ab j];exact p8 (G _ (b.trans m))
   lk;rw[if_neg ⋯];show%[r,ρ,C|λo b=>%[_,ρ|?_]];rw[a.row (Z8 j)];exact p8 (go o b)
  .intro J d %[U,Y,rfl,sm|g];show k3 _ _ ?_;lk;show%[l,rows,ρ,JP.of g,by let:=a.sum;lia,a.sign|λl2 o ss b aq ac I=>%[_,.inl %[_,JP.of ac|ρ]|?_]];rw[if_neg]
   .exact k l o (sm.trans b) hl (b l _ g)
   .intro h0;let h0:=Zo h0;rw[Z6]at h0;let:ss=[]:=length_eq_zero_iff.mp ⋯;rw[this]at I;let hm:=I.symm.eq_nil;let%[c|hc]:=Zy _ a.signs_ne;let:sgn c∈aC ((c6 rows).map sgn):=aV.mpr (Xr %[c,hc|rfl]);rw[hm]at this;cases this
abbrev eD(p:Nat×Nat):Option ZB:=if p.1≠46/\p.1≠p.2 then some [sgn p.1,sgn p.2]else none
abbrev pB(u r:Str):List ZB:=(List.zip u.cps.toList r.cps.toList).filterMap eD
def ja(H:Hp):aM H []:=λp a=>by cases a
def aT(h:aM H ps)(s:∀b z,H b&&&z->c b&&&z):aM c ps:=λp a=>%[(h p a).1|s _ _ (h p a).2]
def jq(h:aM H ps)(a:q.2≠[])(b:H q.1&&&q.2\3):aM H (ps++[q]):=λp c=>by
 rcases Xo c with z|z
 .exact h p z
 .rw[Xp z];exact%[a|b]
def v5(a:aM H ps)(b:aM H qs):aM H (ps++qs):=λp c=>(Xo c).elim (a p) (b p)
inductive FS
 | mk (u r:Str):vs=[.str u,.str r]-> ~~~u<=40-> ~~~r= ~~~u->(∀l H' ps,ah H H'->H l=none->H' l∣.lst (ps\0)->aM H' ps->ps\2=pB u r->Q (.ref l) H')->FS vs H Q E0
inductive za
 | mk (rows:ZB):vs=[.str (Str.join nl rows)]->cy rows->(∀l H' (ss:ZB),ah H H'->H l=none->H' l<*ss\3->ss.Perm (aC ((c6 rows).map sgn))->Q (.ref l) H')->za vs H Q E0
def AO(T:Txt K mg):↥3 "letters" ["text"] za:=by
 .exists T.aZ,yc,d,b,%[rows,rfl,a|e];show%[_,%["JEIH~yAH~zA0BB",0|b],rows,ρ,a|λl q c r g=>%[l,rows,ρ,JP.of g,by let:=a.sum;lia,a.sign|λi j ss m n o p=>e i j ss (c.trans m) (c.free n) o p]]
def jV(T:Txt K mg):↥1 "meetings_between" ["above","row"] FS:=by
 .exists T.b1,jy,ab,hr,%[u,r,rfl,hu,ac|kk];let ag: ~~~u=u.cps.size:=rfl;let ai: ~~~r=r.cps.size:=rfl;show%[_,%["JEImd?1~xA0A1BgPX0?2PX1?2h~Cc%Kv0~I+Kv01zA0A1B",0,↑(["high","low"],[])|↑["high","low"]]|?_];change jK _ _ [-u,-r] H;lk;show aF λaa hK=>?_
  lk;show hK _ _ λD O=>?_
  show cZ (J:=Itz u r) (n:=u.cps.size) (D:=D) (λi ys U l=>(∃o1 o2,U=[o1,o2])/\ah H l/\l D<*ys/\ ~~~ys<=i/\∃ps:ZG,ys=ps\0/\aM l ps/\ps\2=((List.zip u.cps.toList r.cps.toList).take i).filterMap eD)
   %[%[none,none|rfl],ah.JO O,ae,Zi _,[],rfl,ja _|rfl] (λi _ _ _ hi _=>%[hi|⋯]) (λ_ _ _ _=>%[Zi _,⋯|.inl rfl]) ?_ ?_
  .intro i ys U l hi %[%[o1,o2|rfl],Y,hl,I,ps,L,m|j] x H2 %[c,d,TT,hc,hd,hT,rfl|rfl];let v:=ah.JO (o:= .tup [.str ⟨([c].toArray)⟩,.str ⟨([d].toArray)⟩]) hT;let nx:=pq u r i c d hc hd;let a:=v _ _ hl;let C:JO l TT (.tup [.str ⟨([c].toArray)⟩,.str ⟨([d].toArray)⟩]) TT&&&[.str ⟨([c].toArray)⟩,.str ⟨([d].toArray)⟩]:=ae;let g:aM (JO l TT (.tup [.str ⟨([c].toArray)⟩,.str ⟨([d].toArray)⟩])) ps:=λp G=>%[(m p G).1|v _ _ (m p G).2]
   let y:=Y.trans v
   generalize JO l TT (.tup [.str ⟨([c].toArray)⟩,.str ⟨([d].toArray)⟩])=HT at v a C g y
   show%[_,SqT.of C,ρ,_,_,ρ,_,_,ρ,ρ|?_];change DN _ _ [some (.str ⟨([c].toArray)⟩),some (.str ⟨([d].toArray)⟩)] HT _;lk;simp only[lT,ye];let al:D≠TT:=λe=>by rw[e,C]at a;cases a
   show bv (λM=>bv (λN=>?_) λN=>?_) λM=>?_
   .let M:c≠46:=↑M
    let N:c≠d:=↑N
    show%[show 2<=sizeLine from !1|λp G=>?_];let B:=ah.JO (o:= .tup [V.str ⟨([c].toArray)⟩,V.str ⟨([d].toArray)⟩]) G;let an:p≠D:=λe=>by rw[e,a]at G;cases G
    show CK.mk hi (B _ _ a) (aH ⋯) %[%[_,_|rfl],ah.set (y.trans B) O,ae,by rw[Z9,Yk];lia,ps++[(p,[sgn c,sgn d])],by rw[L,Zd];rfl,?_|?_]
    .let keep:∀b z,JO HT p _ b&&&z->JO _ D (.lst (ys++[V.ref p])) b&&&z:=λb z e=>by
      let:b≠D:=λe2=>by rw[e2,B _ _ a]at e;cases e
      rw[au this];exact e
     exact aT (jq (aT g λb z e=>B _ _ e) ∅ (by rw[ae];rfl)) keep
    .rw[Zd,j,<-nx,Y0];let:eD (c,d)∣[sgn c,sgn d]:=if_pos %[M|N];rw[Y1,this];rfl
   .show CN.mk hi %[%[_,_|rfl],y,a,⋯,ps,L,g|?_];rw[j,<-nx,Y0];let:eD (c,d)=none:=if_neg λq=>q.2 ↑N
    rw[Y1,this];simp
   .show CN.mk hi %[%[_,_|rfl],y,a,⋯,ps,L,g|?_];rw[j,<-nx,Y0];let:eD (c,d)=none:=if_neg λq=>q.1 ↑M
    rw[Y1,this];simp
  .intro ys U l %[_,Y,hl,I,ps,L,m|j];rw[Zn (by rw[length_zip];simp;lia)]at j;exact kk D l ps Y O (by rw[hl,L]) m j
def Di{K:ZA}{xs ys:ZM}{g:TG}{q:TS}{D:fU}(Pv:Nat->St->Hp->Prop)(s:Pv 0 c H)(u: ~~~ys<= ~~~xs)(z:∀i c H,i<= ~~~ys->Pv i c H->JP K H a xs/\JP K H b ys)
 (A:∀i x y T c H,xs[i]?∣x->ys[i]?∣y->Pv i c H->H T=none->g (.ref T) c (JO H T (.tup [x,y])) λd j=>q {D with nx:=Pv (i+1),ct:=Pv (i+1),bk:=D.nx} d j) (B:∀c H,Pv ys.length c H->D.nx c H):
 ∃W:Nat->Nat->St->Hp->Prop,(∃m,W 0 m c H)/\∀i m c H,W i m c H->
  ((Ao K a b).stop i H/\D.nx c H)\/((Ao K a b).go i H/\∃N:St->Hp->Prop,(∀f h,N f h->∃r,r<m/\W (i+1) r f h)/\∀x h,(Ao K a b).yld i H x h->g x c h λd j=>q {D with nx:=N,ct:=N,bk:=D.nx} d j):=by
 show%[λi m c H=>m= ~~~ys-i/\i<= ~~~ys/\Pv i c H,%[~~~ys,by simp,Xg _|s]|?_];intro i m c H %[rfl,hi|p];let%[l|n]:=z i c H hi p;by_cases o:i< ~~~ys
 .let C:xs[i]?∣xs[i]:=by simp[show i< ~~~xs by lia]
  let E:ys[i]?∣ys[i]:=by simp
  show .inr %[%[xs,ys,_,_,l,n,C|E],Pv _,λf h G=>%[~~~ys-(i+1),⋯,rfl,o|G]|λv h y=>?_];let%[T,I,J,L,rfl,rfl,M|O]:=y;exact A i I J T c H (M xs l) (O ys n) p L
 .let e:i= ~~~ys:=by lia
  subst e;exact .inl %[%[xs,ys,l,n,⋯,Zi _|.inr rfl]|B c H p]
abbrev bh(rows:ZB)(i:Nat):List ZB:=(List.range i).flatMap λj=>pB (rows.getD j ⟨([].toArray)⟩) (rows.getD (j+1) ⟨([].toArray)⟩)
def kR(rows:ZB)(i:Nat):bh rows (i+1)=bh rows i++pB (rows.getD i ⟨([].toArray)⟩) (rows.getD (i+1) ⟨([].toArray)⟩):=by
 unfold bh;rw[range_succ,flatMap_append];simp
def yf(u r:Str): ~~~(pB u r)<= ~~~u:=by
 show Nat.le_trans (List.length_filterMap_le _ _) ?_;rw[length_zip];let: ~~~u.cps.toList= ~~~u:=by simp[Str.length]
 lia
def lV(h:k∈bh rows (~~~rows-1)):∃a b,k=[sgn a,sgn b]/\AG rows a b:=by
 let%[j,d|g]:=mem_flatMap.mp h;let f:∀j h,rows.getD j ⟨([].toArray)⟩=rows[j]:=λj h=>by simp[h]
 let d:=mem_range.mp d;let%[%[a|b],i|e]:=mem_filterMap.mp g;unfold eD at e
 split at e
 .rename_i h
  let%[q|c]:=Xh i;rw[List.getElem?_zip_eq_some,f j ⋯,f _ ⋯]at c;exact%[a,b,(Za e).symm,h.1,h.2,j,q,rows[j],rows[j+1],Z4 _,Z4 _,by simpa using c.1|by simpa using c.2]
 .lia
def lW(g:cy rows)(h:AG rows a b):Let rows a/\Let rows b:=by
 let%[n1,l,i,j,r,c,d,f,g1|g2]:=h;show%[%[n1,r,Z8 d|Z8 ↑g1],λe=>n1 (g.fall i r c d f j a b g1 g2 e),c,Z8 f|Z8 ↑g2]
def AQ(rows:ZB)(h:rows≠[]):sM (rows\3) (some 1) none=(rows.drop 1)\3:=by
 unfold sM;rw[_HT.sIx_none,show(some (1))∣((1:Nat):Int)from rfl,_HT.sIx_nat,Z6,min_eq_left (length_pos_iff.mpr h),<-map_drop,<-map_take];rw[Zn (Yh▸Zi _)]
inductive zb
 | mk (rows:ZB):vs=[.str (Str.join nl rows)]->cy rows->x9 rows->(∀l H' ss,ah H H'->H l=none->H' l∣.lst (ss\0)->aM H' ss-> ~~~ss<=26->(∀t∈ss,∃a b,t.2=[sgn a,sgn b]/\Let rows a/\Let rows b)->(∀k,k∈ss\2↔k∈bh rows (~~~rows-1))->Q (.ref l) H')->zb vs H Q E0
def yg(T:Txt K mg):↥3 "meetings" ["text"] zb:=by
 show T.b0.cal eB (λH vs Q E h=>?_)
 .let%[rows,rfl,c,%[mm,ml|a3]|kk]:=h;show%[ρ|λf bt A outer s hr=>?_];let%[wd,w1,w2|aa]:=c.wide;let hp:1<= ~~~rows:=c.pos;let bf:=c.high;let a4:rows≠[]:=length_pos_iff.mp hp;show%[_,%["JDG1H~zA0BDG2NBDV]IA1An1fCpBgPL3PL4hEY~!~$2AH]JA3A4BBEI&~%A_~&A2BB",eB.nd|hr]|?_]
  change bn _ _ _ [some (.str (Str.join nl rows)),none,none,none,none] H;show ak λD1 k1 r1=>?_
  lk;show%[rows,ρ,c|λR H1 s1 f1 hR=>k1 _ _ (ak λD2 k2 r2=>?_)];lk;show%[Xg _|λL hL=>k2 _ _ (ak λD3 k3 r3=>ay λbl hK=>?_)];let s2:=ah.JO (o:= .lst []) hL;let G:=s2 _ _ hR;let I:JO H1 L (.lst []) L<*[]:=ae;let fL:H L=none:=s1.free hL;let ab:=s1.trans s2
  generalize JO H1 L (.lst [])=H2 at s2 G I ab
  lk;show%[_,JP.of G|λp hp=>?_];rw[AQ rows a4];let s3:=ah.JO (o:= .lst ((rows.drop 1)\3)) hp;let J:=s3 _ _ G;let ac:=s3 _ _ I;let M:JO H2 p (.lst ((rows.drop 1)\3)) p<*(rows.drop 1)\3:=ae;let ag:=ab.trans s3;let a5:L≠R:=λe=>by rw[e,hR]at hL;cases hL
  let a6:p≠L:=λe=>by rw[e,I]at hp;cases hp
  generalize JO H2 p (.lst ((rows.drop 1)\3))=H3 at s3 J ac M ag
  show%[%[_|JP.of J],%[_|JP.of M]|hK _ _ (Di (xs:=rows\3) (ys:=(rows.drop 1)\3) (λi σ l=>(∃o3 o4,σ=[some (.str (Str.join nl rows)),!R,!L,o3,o4])/\ah H l/\l R<*rows\3/\l p<*(rows.drop 1)\3/\
   ∃ps:ZG,l L∣.lst (ps\0)/\aM l ps/\ps\2=bh rows i/\ ~~~ps<=40*i) %[%[none,none|ρ],ag,J,M,[],ac,ja _,ρ|Xg _] (by rw[Z6,Z6,Yh];lia) (λi σ l _ q=>%[JP.of q.2.2.1|JP.of q.2.2.2.1]) ?_ ?_)]
  .intro i x y TT σ l hx hy %[%[o3,o4|rfl],sm,ai,al,ps,N,g,n|an] hT;rw[Zl]at hx hy;let%[u,hu|rfl]:=map_eq_some_iff.mp hx;let%[r,B|rfl]:=map_eq_some_iff.mp hy;rw[Yb,Nat.add_comm]at B;let bI:i+1< ~~~rows:=(Xn B).1;let ul: ~~~u=wd:=aa u (Z8 hu);let rl: ~~~r=wd:=aa r (Z8 B);let j:=ah.JO (o:= .tup [V.str u,V.str r]) hT;let aq:JO l TT (.tup [V.str u,V.str r]) TT&&&[V.str u,V.str r]:=ae;let as:=j _ _ ai;let aR:=j _ _ al;let v:=j _ _ N;let C:aM (JO l TT (.tup [V.str u,V.str r])) ps:=aT g λb z e=>j _ _ e
   let aU:=sm.trans j
   generalize JO l TT (.tup [V.str u,V.str r])=HT at j aq as aR v C aU
   show%[_,SqT.of aq,ρ,_,_,ρ,_,_,ρ,ρ|?_];show aB λD4 k4 r4=>?_
   lk;show%[tyL (JP.of v),u,r,ρ,⋯,⋯|λl4 H4 ps4 Y f4 h4 a0 e4=>?_];let b0:l4≠L:=λe=>by rw[e,v]at f4;cases f4
   let bm: ~~~ps4<=40:=by
    let: ~~~(ps4\2)= ~~~(pB u r):=by rw[e4]
    rw[Z6]at this;let:=yf u r
    lia
   show%[_,ρ,_,Y _ _ v,_,h4,by rw[Z6,Z6];exact bH ⋯|k4 _ _ ?_];let O:∀b z,H4 b&&&z->JO H4 L (.lst ((ps\0) ++ps4\0)) b&&&z:=λb z e=>by
    let:b≠L:=λe2=>by rw[e2,Y _ _ v]at e;cases e
    rw[au this];exact e
   let a7:R≠L:=Ne.symm a5;show%[%[_,_|ρ],λb u' e=>?_,(au a7)▸Y _ _ as,(au a6)▸Y _ _ aR,ps++ps4,by rw[ae,Zd],aT (v5 (aT C λb z e=>Y _ _ e) a0) O,?_|by rw[Z9];lia]
   .rw[au (aE e fL)];exact Y _ _ (aU _ _ e)
   .rw[Zd,n,e4,kR];let g1:rows.getD i ⟨([].toArray)⟩=u:=by rw[Zc,hu];rfl
    let g2:rows.getD (i+1) ⟨([].toArray)⟩=r:=by rw[Zc,B];rfl
    rw[g1,g2]
  .intro σ l %[%[o3,o4|rfl],sm,ai,al,ps,N,g,n|an];rw[Z6,Yh]at n;show k3 _ _ ?_;lk;let U:∀q∈ps,∃a b,q.2=[sgn a,sgn b]/\AG rows a b:=λq d=>lV (n▸Xr %[q,d|rfl])
   let a1:∀q∈ps,q.2∈mm:=λq d=>by
    let%[a,b,e|h]:=U q d;rw[e];exact a3 a b h
   show%[ps,JP.of N,g,%[mm,⋯|a1]|λl5 bb=>?_];let s5:=ah.JO (o:=oH P w l5 (bB ps)) bb;let bc: ~~~(bB ps)<=26:=by
    let:=_ST.nodup_sub (d5 ps) (m:=mm) λk hk=>by
     let%[q,d|rfl]:=Xq hk;exact a1 q (br ps q d)
    rw[Z6]at this
    lia
   show%[bB ps,ae,λq d=>%[(g q (br ps q d)).1|s5 _ _ (g q (br ps q d)).2],2,λq d=>?_,!1,⋯|λl6 ss a2 pm=>?_]
   .let%[a,b,e|_]:=U q (br ps q d);rw[e];rfl
   let s6:=ah.JO (o:= .lst (ss\0)) a2;show kk l6 _ ss ((sm.trans s5).trans s6) ((sm.trans s5).free a2) ae (λq d=>?_) (pm.length_eq▸bc) (λq d=>?_) λk=>?_
   .let:=g q (br ps q (pm.mem_iff.mp d));exact%[this.1|s6 _ _ (s5 _ _ this.2)]
   .let%[a,b,e|h]:=U q (br ps q (pm.mem_iff.mp d));exact%[a,b,e|lW c h]
   .rw[(pm.map _).mem_iff,gZ,n]
abbrev eJ(z:Str):Bool:=(decide (1<=(~~~z:Int))&&decide ((~~~z:Int)<=8))&&z.cps.toList.all iA
inductive pC
 | mk (z:Str):vs=[.str z]->eJ z=true->(∀H',ah H H'->Q (.bl true) H')->pC vs H Q E0
inductive v6 (K:ZA)
 | mk (z:Str) (p:Addr) (ts:ZB):vs=[.str z,.ref p]->(JP K H p (ts\3)\/SqT K H p (ts\3))->Q (.bl (decide (z∈ts))) H->v6 K vs H Q E0
inductive pD
 | mk (i:Int):vs=[.int i]-> -9999<=i->i<=9999->Q (.bl true) H->pD vs H Q E0
abbrev si(ls:ZB)(vs:ZM):Prop:=
 (∃w a b:Str,vs=[.str w,.str a,.str b]/\(w="later"\/w="same")/\a∈ls/\b∈ls/\a≠b)\/
 ∃w a y,vs=[.str w,.str a,.int y]/\(w="since"\/w="by")/\a∈ls/\ -9999<=y/\y<=9999
inductive kS (K:ZA)
 | mk (t p xs ls):vs=[.ref t,.ref p]->H t&&&xs->JP K H p (ls\3)->si ls xs->Q (.bl true) H->kS K vs H Q E0
abbrev lnS(n z:Str):Str:=Str.empty++n++Str.ofString "."++z
inductive jH
 | mk (n z:Str):vs=[.str n,.str z]-> ~~~n<=100-> ~~~z<=100->Q (.str (lnS n z)) H->jH vs H Q E0
def uf(z:Str)(ts:ZB):inV (V.str z) (ts\3)=decide (z∈ts):=by
 unfold inV
 induction ts with
 | nil=>rfl
 | cons c r a=>
   change((c==z)||_)=_
   grind
def AR(ts:ZB):(ts\3).all fE=true:=by simp[fE]
def AS(T:Txt K mg):↥1 "is_name" ["thing"] pC:=by
 .exists T.aU,yb,y,N,%[z,rfl,B|k];show%[_,%["JDQ!l()A0A?1BEIoREI.~b~E~ECZaA0B]K;~R~SAmd?2~c0X0?3sy~D0~wB",0,(blE (v:= .ty "str") rfl T.ac boot_str rfl rfl rfl),↑(["sign"],[])|↑["sign"]]|?_]
  change bn _ _ _ [-z] H;let a:=B;unfold eJ at a;rw[Zv,Zv]at a;let%[%[C|q]|b]:=a;let O: ~~~z<=8:=by let:=Zo q;lia
  lk;show%[.type "str",.str z,true,by rfl|?_];lk;show%[bH ⋯|?_];rw[if_pos C,if_pos q];show aF λr G=>?_
  lk;show G _ _ λD u=>?_
  show cZ (J:=Its z) (n:=z.cps.size) (D:=D) (λi ys l d=>(∃o,l=[o])/\ah H d/\d D<*ys/\ys=(z.cps.toList.take i).map (λc=>V.bl (iA c))) %[%[none|rfl],ah.JO u,ae|rfl]
   (λi _ _ _ hi _=>hi) (λ_ _ _ _=>Zi _) ?_ ?_
  .intro i ys l d hi %[%[o|rfl],m,p|g] x U %[I,c,L|rfl];subst I;lk;let j: ~~~ys=i:=by
    rw[g,Z6,Ym];let: ~~~z.cps.toList=z.cps.size:=by simp
    lia
   let M:i<1000:=by
    let: ~~~z=z.cps.size:=rfl
    lia
   show CK.mk hi p (j▸aH ⋯) %[%[_|rfl],ah.set m u,ae|?_];rw[BJ,g,<-jp z i c L,Zd]
   all_goals rfl
  .intro ys l d %[_,m,p|g];show%[D,ρ,(z.cps.toList.map iA),?_|?_]
   .let e:z.cps.toList.take z.cps.size=z.cps.toList:=by
     apply Zn;simp
    rw[e]at g;let:(z.cps.toList.map iA).map V.bl=ys:=by rw[g,Yt];rfl
    rw[this];exact JP.of p
   .let e:(z.cps.toList.map iA).all id=true:=by
     rw[all_map];exact b
    rw[e];exact k d m
def cN(T:Txt K mg):↥1 "is_text_among" ["thing","texts"] (v6 K):=by
 .exists T.b7,lR,a,c,%[z,p,ts,rfl,b|k];show%[_,%["JEI.()A0A?1B;y~D01",0|(blE (v:= .ty "str") rfl T.ac boot_str rfl rfl rfl)]|?_];change jK _ _ [some _,some _] H;lk;show%[.type _,.str z,true,by rfl|?_];rw[<-uf]at k;exact%[_,b,ρ,AR ts|k]
def AT(T:Txt K mg):↥1 "is_year" ["thing"] pD:=by
 .exists T.b8,yd,a,d,%[i,rfl,b,c|k];show%[_,%["JDQcw!l()A0A?1B'l()A0A?2BEIoREI~b~E~E]L0]M",0,(blE (v:= .ty "int") rfl T.ah boot_int rfl rfl rfl)|(blE (v:= .ty "bool") rfl T.ai boot_bool rfl rfl rfl)]|?_]
  change bn _ _ _ [some (.int i)] H;lk;show%[.type _,.int i,true,by rfl,.type _,.int i,false,by rfl|?_];rw[if_pos (Zf b),Zf c];exact k
def im(T:Txt K mg):↥1 "layer_name" ["name","letter"] jH:=by
 .exists T.b9,qt,d,j,%[n,z,rfl,l,m|k];show%[_,%["JEI~'~K~e0~Kb~K~e1~("|0]|?_];change jK _ _ [-n,some _] H;lk;let e:∀a b:Str,~~~(a++b)= ~~~a+ ~~~b:=λa b=>size_append
  let g:Str.empty.length=0:=rfl;let i:(!".").length=1:=rfl;let c:∀k,k<=1000->k<=sizeLine:=λk o=>bH ⋯
  show%[c _ ⋯,c _ ?_,c _ ?_,c _ ⋯,c _ ?_,c _ ?_|k]<;> simp only[e,g,i]<;> lia
def v7(T:Txt K mg):↥2 "is_saying" ["thing","layers"] (kS K):=by
 .exists T.b6,t8,m,c,%[t,p,xs,ls,rfl,l,e,ok|k];show%[_,%["JDQcw!l()A0A?1B'KvZaA0BCEIoRDQlH~LAU0CA]NBEI.H~LAU0CA1B.H~LAU0CA1B;yvU0CU0CRDQlH~LAU0CA]OBEI.H~LAU0CA1B;H]PAU0CBREIo",0,(blE (v:= .ty "tuple") rfl T.ag boot_tuple rfl rfl rfl)|c]|?_]
  change bn _ _ _ [!t,!p] H;lk;show%[.type "tuple",.tup l,true,by rfl|?_];let st:=SqT.of (K:=K) l;rcases ok with⟨wd,a,b,rfl,hw,g,n,i⟩|⟨wd,a,y,rfl,hw,g,o,r⟩
  .let j:decide (wd∈([!"later",!"same"]:ZB))=true:=by rcases hw with rfl|rfl<;> decide
   lk;show%[3,.inr %[_,st|ρ]|?_];rw[if_neg (!1)];show%[_,st,_,ρ|λq d=>%[wd,q,[!"later",!"same"],ρ,.inr (d H),_,ρ|?_]];rw[j];lk;show%[_,st,_,ρ,a,p,ls,ρ,.inl e,_,ρ|?_];rw[Zf g];lk;show%[_,st,_,ρ,b,p,ls,ρ,.inl e,_,ρ|?_];rw[Zf n];lk;show%[_,st,_,ρ,_,st,_,ρ,ρ|?_];rw[show(!decide (V.str a=V.str b))=true from by simp[i]];exact k
  .let j:decide (wd∈([!"later",!"same"]:ZB))=false:=by rcases hw with rfl|rfl<;> decide
   let u:decide (wd∈([!"since",!"by"]:ZB))=true:=by rcases hw with rfl|rfl<;> decide
   lk;show%[3,.inr %[_,st|ρ]|?_];rw[if_neg (!1)];show%[_,st,_,ρ|λq d=>%[wd,q,[!"later",!"same"],ρ,.inr (d H),_,ρ|?_]];rw[j];lk;show%[_,st,_,ρ|λq d=>%[wd,q,[!"since",!"by"],ρ,.inr (d H),_,ρ|?_]];rw[u];lk;show%[_,st,_,ρ,a,p,ls,ρ,.inl e,_,ρ|?_];rw[Zf g];lk;exact%[_,st,_,ρ,y,ρ,o,r|k]
abbrev nmC(b a k j:Nat):Nat:=97+(b+5*j*j+k*(if j=a then 1 else 0))%26
abbrev nmS(b a k s:Nat):Str:=⟨((List.range s).map (nmC b a k)).toArray⟩
def ug(b a k s:Nat): ~~~(nmS b a k s)=s:=by
 change((List.range s).map _).toArray.size=s;simp
def Dj{b a k s:Nat}(e:1<=s)(f:s<=8):eJ (nmS b a k s)=true:=by
 let all:∀i:Fin 26,iA (97+i.1)=true:=!0
 unfold eJ;rw[ug];simp only[Zv,decide_eq_true_eq,all_eq_true];show%[%[⋯|⋯]|λc d=>?_];let%[j,_|rfl]:=Xq (show c∈(List.range s).map (nmC b a k)from d);exact all %[_|mod_lt _ (!1)]
def HY{b a k c s s':Nat}(h:a<s)(h':a<s')(f:k<4)(d:c<4)(e:nmS b a k s=nmS b a c s'):k=c:=by
 let e:(List.range s).map (nmC b a k)=(List.range s').map (nmC b a c):=congrArg (λz:Str=>z.cps.toList) e;let e:=congrArg (·[a]?) e;simp only[Zl,getElem?_range h,getElem?_range h',map_some,Option.some.injEq,nmC,if_true]at e
 generalize b+5*a*a=m at e
 lia
def zc(b a k s:Nat)(h:a<s):Txt.slice (nmS b a k s) none (some ((a:Int) +1))=nmS b a k (a+1):=by
 rw[beq_iff_eq.mp (PyProof.Rows.slice_closes_toL (x:=nmS b a k s) (j:=(a:Int) +1) ⋯ (by rw[ug];lia))];show fH ?_;change((((List.range s).map (nmC b a k)).drop 0).take ((a:Int) +1-0).toNat)=(List.range (a+1)).map (nmC b a k);rw[drop_zero,<-map_take,List.take_range,show min ((a:Int) +1-0).toNat s=a+1 by lia]
abbrev Nm4(ms:ZB):Prop:= ~~~ms=4/\ms.Nodup/\∀z∈ms,eJ z=true
def Dk{b a:Nat}{s:Nat->Nat}(h:∀k<4,a<s k/\s k<=8):Nm4 ((List.range 4).map λk=>nmS b a k (s k)):=by
 show%[by simp,?_|λz f=>?_]
 .rw[X4,Xa];show Xi (λ{x y} c d e g=>e ?_) (nodup_iff_pairwise_ne.mp (nodup_range (n:=4)));rw[mem_range]at c d;exact HY (h x c).1 (h y d).1 c d g
 .let%[k,i|rfl]:=Xq f;let:=h k (mem_range.mp i);exact Dj ⋯ this.2
inductive Dl
 | mk (n:Int):vs=[.int n]->0<=n->n<9973->(∀l H' (ms:ZB),ah H H'->H l=none->H' l<*ms\3->Nm4 ms->Q (.ref l) H')->Dl vs H Q E0
def v8(T:Txt K mg):↥1 "_law_names" ["_law_number"] Dl:=by
 .exists T.bg,bS,aa,hr,%[n,rfl,n0,n1|O];let%[n|rfl]:=Xj n0;show%[_,%["JDG1FWCFS0CDG2FSFt0C1DG3NBDV*ACBL4DG5NBDV*A1BL6DG7FWFWFt0CFxFxC66F]Q4~r~sAye62BEYur5A~qbFS7CBEYur3A~P~QbA5BBDQKeFSFt0CCCEG3NAM3CA~)M3CpfFW2CAM3CA~)M3CpfFW2CBREI3"|bS.nd]|?_]
  change bn _ _ _ [some (.int n),none,none,none,none,none,none,none] H;show ak λD1 k1 _=>?_
  lk;show%[!1|k1 _ _ (ak λD2 k2 _=>?_)];obtain⟨sz,es,s1,s8⟩:∃sz:Nat,1+(n:Int)%8=sz/\1<=sz/\sz<=8:=%[1+n%8,(by lia -verbose),(by lia -verbose)|(by lia -verbose)]
  rw[es];lk;show%[%[!1|!1],(by lia -verbose)|k2 _ _ (ak λD3 k3 _=>?_)];obtain⟨a,ea,C⟩:∃a:Nat,(n:Int)/8%sz=a/\a<sz:=%[n/8%sz,by simp|mod_lt _ (by lia -verbose)]
  rw[ea];lk;show%[Xg _|λL G=>k3 _ _ (ak λD4 k4 _=>ay λq I=>?_)];lk;show%[!1,!1|I _ _ (cP (λi o r=>∃J y m d,o=[some (.int n),some (.int sz),some (.int a),!L,J,y,m,d]/\ah H r/\r L∣.lst (((List.range i).map λk=>nmS (n/64) a k sz)\3))
   %[_,_,_,_,ρ,ah.JO G|ae] ?_ ?_)]
  .intro i o u hi %[J,y,m,d,rfl,c|b];change bn _ _ _ [some (.int n),some (.int sz),some (.int a),!L,some (.int (0+i)),y,m,d] u;rw[Int.zero_add];show ak λD5 z _=>?_
   lk;show%[Xg _|λM U=>z _ _ (ak λD6 k6 _=>ay λq I=>?_)];lk;show%[(by lia -verbose),(by lia -verbose)|I _ _ (cP (λj o r=>∃m d,o=[some (.int n),some (.int sz),some (.int a),!L,some (.int i),!M,m,d]/\ah u r/\r M∣.lst (((List.range j).map λj=>sgn (nmC (n/64) a i j))\3))
    %[_,_,ρ,ah.JO U|ae] ?_ ?_)]
   .intro j o Y hj %[m,d,rfl,g|l];change bn _ _ _ [some (.int n),some (.int sz),some (.int a),!L,some (.int i),!M,some (.int (0+j)),d] Y;rw[Int.zero_add];show ak λD7 N _=>?_
    lk;show%[%[!1|!1],.inl %[!1|!1],.inr %[(by lia -verbose)|(by lia -verbose)],.inr %[by split<;> decide|by split<;> decide]|N _ _ (aB λD8 k8 _=>?_)];let e:(n:Int)/64+5*j*j+i*(if decide ((j:Int)=a)=true then 1 else 0)=((n/64+5*j*j+i*(if j=a then 1 else 0):Nat):Int):=by
     by_cases h:j=a
     .simp[h]
     .simp[h,show ¬ (j:Int)=a by lia -verbose]
    rw[e]
    generalize B:n/64+5*j*j+i*(if j=a then 1 else 0)=p
    lk;show%[tyL (JP.of l),!1,#[26],_,Dg (by lia -verbose) (by lia -verbose),_,l,by rw[Z6,Z6,Yj];exact aH (by lia -verbose)|k8 _ _ %[_,_,ρ,ah.set g U|?_]];rw[ae,range_succ,Zd,Zd];let:97+((p:Int)%26).toNat=nmC (n/64) a i j:=by
     unfold nmC;rw[B]
     lia -verbose
    rw[this];rfl
   .intro o Y %[m,d,rfl,g|l];show k6 _ _ (aB λD7 N _=>?_);lk;let v:=g _ _ b;let e:(List.range (Int.toNat sz)).map (λj=>sgn (nmC (n/64) a i j))=((List.range sz).map (nmC (n/64) a i)).map sgn:=by rw[Yt];rfl
    show%[tyL (JP.of v),((List.range sz).map (nmC (n/64) a i)).map sgn,JP.of (by rw[<-e];simpa using l),?_,_,v,by rw[Z6,Z6,Yj];exact aH (by lia -verbose)|N _ _ %[_,_,_,_,ρ,ah.set (c.trans g) G|?_]]
    .rw[tG,Z6,Z6,Yj,show(!"").length=0 from rfl]
     lia -verbose
    .rw[ae,range_succ,Zd,Zd,show Txt.join (!"") (((List.range sz).map (nmC (n/64) a i)).map sgn)=Str.join (!"") (((List.range sz).map (nmC (n/64) a i)).map sgn)from StrLaws.glued_eq_join _ _,om];rfl
  .intro o u %[J,y,m,d,rfl,c|b];show k4 _ _ (ak λD5 z _=>?_);let b:u L<*[.str (nmS (n/64) a 0 sz),.str (nmS (n/64) a 1 sz),.str (nmS (n/64) a 2 sz),.str (nmS (n/64) a 3 sz)]:=b;lk;let ll:∀k,~~~(nmS (n/64) a k sz)<=sizeLine:=λk=>by rw[ug];exact bH (by lia -verbose)
   show%[%[!1|!1],!1|bv (λ_=>?_) λ_=>?_]
   .show%[_,JP.of b,_,ρ,_,JP.of b,_,ρ,_,ρ,ll 1,_,JP.of b,_,ρ,_,JP.of b,_,ρ,_,ρ,ll 3,#[4]|λp B=>z _ _ ?_];rw[zc _ _ _ _ C,zc _ _ _ _ C];lk;exact O p _ ((List.range 4).map λk=>nmS (n/64) a k (if k%2=1 then a+1 else sz)) (c.trans (ah.JO B)) (c.free B) ae (Dk (s:=λk=>if k%2=1 then a+1 else sz) λk hk=>by split<;> exact%[(by lia -verbose)|(by lia -verbose)])
   .show z _ _ ?_;lk;exact O L u ((List.range 4).map λk=>nmS (n/64) a k sz) c G b (Dk (s:=λ_=>sz) λk hk=>%[C|s8])
abbrev cn(H:Hp)(a:ZH):Prop:=∀p∈a,H p.1&&&[.str p.2.1,.str (Str.join nl p.2.2)]/\eJ p.2.1=true/\cy p.2.2
def cn.up(h:cn H b)(s:ah H c):cn c b:=λp a=>%[s _ _ (h p a).1|(h p a).2]
inductive sj
 | mk (rows:ZB):vs=[.str (Str.join nl rows)]->cy rows->(∀H',ah H H'->Q (.bl true) H')->sj vs H Q E0
inductive v9
 | mk (p:Addr×Str×ZB):vs=[.ref p.1]->cn H [p]->(∀H',ah H H'->Q (.bl true) H')->v9 vs H Q E0
abbrev cX(a:ZH):ZM:=a\0
inductive jI
 | mk (l cs):vs=[.ref l]->H l<*cX cs->cn H cs->(cs.map λp=>p.2.1).Nodup->1<= ~~~cs-> ~~~cs<=8->(∀H',ah H H'->Q .non H')->jI vs H Q E0
abbrev cE(H:Hp)(ls:ZB)(qs:ZN):Prop:=∀q∈qs,H q.1&&&q.2/\si ls q.2
def cE.up(h:cE H ls qs)(s:ah H b):cE b ls qs:=λp a=>%[s _ _ (h p a).1|(h p a).2]
inductive gE (K:ZA)
 | mk (l r ls qs):vs=[.ref l,.ref r]->H l∣.lst (qs\0)->H r<*ls\3->cE H ls qs-> ~~~qs<=60->(∀H',ah H H'->Q .non H')->gE K vs H Q E0
def Dm(T:Txt K mg):↥3 "is_cut" ["thing"] sj:=by
 .exists T.b4,AJ,b,c,%[rows,rfl,a|k];show%[_,(QSs.h (aj (tryN (λ_ _ h=>h) (ap (cf rfl (aS (lU T) c rfl #[↑0]))))
   (ap (aW eBl))))|?_]
  change bn _ _ _ [some (.str (Str.join nl rows))] H;lk;exact%[rows,ρ,a|λl d e g i=>k d e]
def pE(T:Txt K mg):↥4 "is_named_cut" ["thing"] v9:=by
 .exists T.b3,ni,e,c,%[p,rfl,g|k];let%[b,i|a]:=g p (mem_singleton.mpr rfl);show%[_,%["JEI.()A0A?1B.yeZaA0BC.H]RAU0CB;H]SAU0CB",0,(blE (v:= .ty "tuple") rfl T.ag boot_tuple rfl rfl rfl)|c]|?_];change jK _ _ [some _] H;lk;show%[.type _,.tup b,true,by rfl|?_];let st:=SqT.of (K:=K) b;show%[2,.inr %[_,st|ρ],_,st,_,ρ,p.2.1,ρ,i|λm d=>?_];lk;exact%[_,SqT.of (d _ _ b),_,ρ,p.2.2,ρ,a|λj l=>k j (d.trans l)]
def uh(T:Txt K mg):↥5 "check_cuts" ["cuts"] jI:=by
 .exists T.b2,d6,ai,L,%[l,c,rfl,G,M,N,h1,h8|k];let y: ~~~(cX c)= ~~~c:=Z6 _;show%[_,%["JDQcw!l()A0A?1B'KeZaA0BCE>RDG1}EV~JA0BgPL2PL3hDQcwKe2]Tw!lH]UA3B']VU3C1E>RE<o1U3C",d6.nd,(blE (v:= .ty "list") rfl T.a5 boot_list rfl rfl rfl)|L]|?_]
  change bn _ _ _ [!l,none,none,none] H;show ak λD1 k1 _=>?_
  lk;show%[.type "list",.lst G,true,by rfl|?_];lk;show%[~~~c,.inl %[_,JP.of G|y.symm]|?_];rw[if_neg (by simp only[decide_eq_true_eq];lia)];show k1 _ _ (ak λD2 k2 _=>?_);lk;show λd O=>k2 _ _ (aB λD3 k3 _=>ay λag hK=>?_)
  lk;show%[_,JP.of (ah.JO O _ _ G)|hK _ _ (iS (λi I g=>∃U Y a,I=[!l,!d,U,Y]/\ah H g/\g d∣.dK a/\a\1=(c.take i).map λp=>Sum.inr p.2.1) %[none,none,[],ρ,ah.JO O,ae|ρ] (λi I g _ ⟨_,_,_,_,q,_⟩=>JP.of (q _ _ G)) ?_ ?_)]
  .intro i x TT I g J %[U,Y,a,rfl,sm,z|m] hT;let hi:i< ~~~c:=y▸(Xn J).1;obtain⟨q,hq,rfl⟩:∃q,c[i]?∣q/\x=V.ref q.1:=by
    unfold cX at J;rw[Zl,Z4 hi]at J;exact%[c[i],Z4 hi|(Za J).symm]
   let b:ah H (JO g TT (.tup [.int i,.ref q.1])):=sm.trans (ah.JO hT);let B:JO g TT (.tup [.int i,.ref q.1]) TT&&&[.int i,.ref q.1]:=ae;let u:=ah.JO (o:= .tup [.int i,.ref q.1]) hT _ _ z
   generalize JO g TT (.tup [.int i,.ref q.1])=HT at b u B
   let n:=M q (Z8 hq);show%[_,SqT.of B,ρ,_,_,ρ,_,_,ρ,ρ|?_];change bn _ _ _ [!l,!d,some (.int i),some (.ref q.1)] HT;show ak λD4 k4 _=>?_
   lk;rw[if_neg (by simp only[decide_eq_true_eq];lia)];show%[q,ρ,λp hp=>(Xp hp)▸%[b _ _ n.1|n.2]|λH2 C=>%[true,ρ|?_]];rw[if_neg ∅];let r:(Sum.inr q.2.1:Key)∉a\1:=by
    rw[m];intro hm;let%[q',aa|e]:=Xq hm;let e:q'.2.1=q.2.1:=Sum.inr.inj e;let%[j|hj]:=Xh aa;let ab:j<i:=by
     let:=(Xn hj).1;rw[Ym]at this
     lia
    rw[getElem?_take_of_lt ab]at hj;let n1:(c.map λp=>p.2.1)[j]?∣q.2.1:=by rw[Zl,hj,<-e];rfl
    let:=iK N n1 (by rw[Zl,hq];rfl)
    lia
   show%[_,SqT.of (C _ _ (b _ _ n.1)),_,ρ,_,dM.k (k:=Sum.inr q.2.1) (C _ _ u)|?_];let hv:cF a (Sum.inr q.2.1:Key)=none:=by
    cases e:cF a (Sum.inr q.2.1:Key)with
    | none=>rfl
    | some v=>exact absurd (Ev e) r
   rw[hv,if_neg ∅];show k4 _ _ (aB λD5 k5 _=>?_);lk;let ac: ~~~a=i:=by
    let:=congrArg List.length m;rw[Z6,Z6,Ym]at this
    lia
   show%[_,SqT.of (C _ _ (b _ _ n.1)),_,ρ,_,iH.k (k:=Sum.inr q.2.1) (C _ _ u) (ac▸aH ⋯)|k5 _ _ %[_,_,_,ρ,ah.set (b.trans C) O,ae|?_]];rw[lJ,if_neg r,m,Xc,Zd,hq];rfl
  .intro I g %[U,Y,a,rfl,sm,z|m];exact k3 _ _ (k g sm)
def np(T:Txt K mg):↥3 "check_sayings" ["sayings","layers"] (gE K):=by
 .exists T.b5,dX,z,B,%[l,r,ls,qs,rfl,g,j,m,C|k];show%[_,%["JDQ!l()A0A?1BE>REV~JA0BgPL2PL3hEQcwKe2]W'!lH]XA3A1BE>R",dX.nd,(blE (v:= .ty "list") rfl T.a5 boot_list rfl rfl rfl)|B]|?_]
  change bn _ _ _ [!l,!r,none,none] H;show ak λN k1 _=>?_
  lk;show%[.type "list",.lst g,true,by rfl|?_];lk;show k1 _ _ (aB λO G _=>ay λy I=>?_);lk;show%[_,JP.of g|I _ _ (iS (λi e b=>∃n o,e=[!l,!r,n,o]/\ah H b) %[none,none,ρ|ah.refl H] (λi e b _ ⟨_,_,_,q⟩=>JP.of (q _ _ g)) ?_ ?_)]
  .intro i x TT e b p %[n,o,rfl|u] J;let hi:i< ~~~qs:=(Z6 _)▸(Xn p).1;obtain⟨q,L,rfl⟩:∃q,qs[i]?∣q/\x=V.ref q.1:=by
    rw[Zl,Z4 hi]at p;exact%[qs[i],Z4 hi|(Za p).symm]
   let a:ah H (JO b TT (.tup [.int i,.ref q.1])):=u.trans (ah.JO J);let c:JO b TT (.tup [.int i,.ref q.1]) TT&&&[.int i,.ref q.1]:=ae
   generalize JO b TT (.tup [.int i,.ref q.1])=HT at a c
   let d:=m q (Z8 L);show%[_,SqT.of c,ρ,_,_,ρ,_,_,ρ,ρ|?_];change iM _ _ _ _ [!l,!r,some (.int i),some (.ref q.1)] HT;show aB λU M _=>?_
   lk;rw[if_neg ⋯];show%[q.1,r,q.2,ls,ρ,a _ _ d.1,JP.of (a _ _ j),d.2,true,ρ|?_];rw[if_neg ∅];exact M _ _ %[_,_,rfl|a]
  .intro e b %[n,o,rfl|u];exact G _ _ (k b u)
abbrev lyr(p:Addr×Str×ZB):ZB:=(aC ((c6 p.2.2).map sgn)).map (lnS p.2.1)
inductive kT
 | mk (l cs):vs=[.ref l]->H l<*cX cs->cn H cs-> ~~~cs<=4-> ~~~(cs.flatMap lyr)<=63->(∀r H' (ls:ZB),ah H H'->H r=none->H' r<*ls\3->ls.Perm (cs.flatMap lyr)->ls.Pairwise (λa b=>aP b a=false)->Q (.ref r) H')->kT vs H Q E0
abbrev dF(ls:ZB)(k:ZB):Prop:=∃a b z,k=[a,b,z]/\a∈ls/\b∈ls
abbrev Sml(z:Str):Prop:= ~~~z<=30/\∀c∈z.cps.toList,c<16^8
abbrev AU(ls:ZB)(k:ZB):Prop:=dF ls k/\∀z∈k,Sml z
def wa(h:eJ z=true):Sml z:=by
 unfold eJ at h;rw[Zv,Zv]at h;show%[⋯|λc a=>?_];let:=(lG.mp (all_eq_true.mp h.2 c a)).2
 lia
def Sml.app{a b:Str}(f:∀c∈a.cps.toList,c<16^8)(g:∀c∈b.cps.toList,c<16^8):∀c∈(a++b).cps.toList,c<16^8:=λc d=>by
 let e:(a++b).cps.toList=a.cps.toList++b.cps.toList:=Xf;rw[e]at d;exact(Xo d).elim (f c) (g c)
def Fo(h:c<1000):∀x∈(sgn c).cps.toList,x<16^8:=λx a=>by
 let e:=by simpa [sgn]using a
 lia
def lZ{c:Nat}(h:eJ n=true)(d:c<1000):Sml (lnS n (sgn c)):=by
 let e:∀a b:Str,~~~(a++b)= ~~~a+ ~~~b:=λa b=>size_append
 let l: ~~~n<=8:=by
  unfold eJ at h
  grind
 show%[?_|Sml.app (Sml.app (Sml.app (λc d=>(nomatch d)) (wa h).2) (!0)) (Fo d)];unfold lnS;rw[e,e,e,show Str.empty.length=0 from rfl,show(!".").length=1 from rfl,show(sgn c).length=1 from rfl]
 lia
def yh(h:cy rows)(l:Let rows c):c<1000:=by
 let:=(lG.mp (lH h.sign c (gx.mpr l))).2
 lia
def Fp(b:eJ p.2.1=true)(d:cy p.2.2):∀z∈lyr p,Sml z:=λz e=>by
 let%[y,f|rfl]:=Xq e;let%[c,a|rfl]:=Xq (aV.mp f);exact lZ b (yh d (gx.mp a))
def HZ(e:Sml a)(f:Sml b)(g:Sml c):∀z∈[a,b,c],Sml z:=λz d=>by
 simp only[Yy,X8,or_false]at d;rcases d with rfl|rfl|rfl
 .exact e
 .exact f
 .exact g
def Fq(i:Nat)(h:i<=100):Sml (Str.empty++Str.ofString "#"++Str.ofString (toString (i:Int))):=by
 let all:∀j:Fin 101,Sml (Str.empty++Str.ofString "#"++Str.ofString (toString ((j.1)))):=by
  unfold Sml;decide +kernel
 exact all %[i|⋯]
def dF.three(h:dF ls k): ~~~k=3:=by
 let%[a,b,z,rfl|_]:=h;rfl
def dF.mono(h:dF ls k)(s:∀x∈ls,x∈ms):dF ms k:=by
 let%[a,b,z,e,c|d]:=h;exact%[a,b,z,e,s a c|s b d]
def zd(h:Let p.2.2 a):lnS p.2.1 (sgn a)∈lyr p:=
 Xr %[_,aV.mpr (Xr %[a,gx.mpr h|rfl])|rfl]
abbrev gF(n:Str)(k:ZB):ZB:=k.map (lnS n) ++[n]
abbrev wc(i:Nat):Str:=Str.empty++Str.ofString "#"++Str.ofString (toString (i:Int))
abbrev bq(a:ZH):List ZB:=a.flatMap λp=>(bh p.2.2 (~~~p.2.2-1)).map (gF p.2.1)
abbrev jb(i:Nat):ZM->Option ZB
 |[.str w,.str a,.str b]=>if w=Str.ofString "later" then some [a,b,wc i]else none
 | _=>none
abbrev db(qs:ZN)(n:Nat):List ZB:=(List.range n).filterMap λj=>qs[j]?.bind λq=>jb j q.2
def kU{a:List _}{i:Nat}{q:Addr×Str×ZB}(b:a[i]?∣q):bq (a.take (i+1))=bq (a.take i) ++(bh q.2.2 (~~~q.2.2-1)).map (gF q.2.1):=by
 unfold bq;rw[Xc,b,flatMap_append];change _++([q].flatMap _)=_;rw[List.flatMap_singleton]
def eQ(a:qs[i]?∣q):db qs (i+1)=db qs i++(jb i q.2).toList:=by
 unfold db;rw[range_succ,Y0];show congrArg _ ?_;rw[Y1,a];rw[bind_some];cases jb i q.2<;> rfl
inductive kW
 | mk (l cs):vs=[.ref l]->H l<*cX cs->cn H cs->(∀p∈cs,x9 p.2.2)-> ~~~cs<=4->(∀r H' ts,ah H H'->H r=none->H' r∣.lst (ts\0)->aM H' ts->(∀t∈ts,AU (cs.flatMap lyr) t.2)-> ~~~ts<=104->(∀k,k∈ts\2↔k∈bq cs)->Q (.ref r) H')->kW vs H Q E0
inductive kX
 | mk (l ls qs):vs=[.ref l]->H l∣.lst (qs\0)->cE H ls qs->(∀z∈ls,Sml z)-> ~~~qs<=63->(∀r H' ts,ah H H'->H r=none->H' r∣.lst (ts\0)->aM H' ts->(∀t∈ts,AU ls t.2)-> ~~~ts<= ~~~qs->ts\2=db qs qs.length->Q (.ref r) H')->kX vs H Q E0
def kY{z:Str}(h:eJ z=true): ~~~z<=8:=by
 unfold eJ at h;rw[Zv,Zv]at h;let:=Zo h.1.2
 lia
def io{a:List Nat}{z:Str}(h:z∈aC (a.map sgn)):∃c∈a,z=sgn c:=by
 let:=aV.mp h;let%[c,b|rfl]:=Xq this;exact%[c,b|ρ]
def we(T:Txt K mg):↥4 "layers_of" ["cuts"] kT:=by
 .exists T.ba,eP,ac,hr,%[l,e,rfl,hl,G,h8,ag|k];let m: ~~~(cX e)= ~~~e:=Z6 _;show%[_,%["JDG1NBDVT0gP~t2jkPL3hEY~!~$1Amd?1TH]YA3BX0?2sH~fAO1A0BBEI&~gA1B",eP.nd,↑(["letter","name"],[(1,2)]),↑["letter","name"]|hr]|?_]
  change bn _ _ _ [!l,none,none,none] H;show ak λD1 k1 _=>?_
  lk;show%[Xg _|λL I=>k1 _ _ (ak λD2 k2 _=>ay λn J=>?_)];lk;show%[%[_|JP.of (ah.JO I _ _ hl)]|J _ _ (fW (λi d a=>∃M N,d=[!l,!L,M,N]/\ah H a/\∃ms:ZB,a L<*ms\3/\ms.Perm ((e.take i).flatMap lyr)/\ ~~~ms<=26*i)
   %[none,none,ρ,ah.JO I,[],ae,List.Perm.refl _|Xg _] (λi d a _ ⟨_,_,_,q,_⟩=>JP.of (q _ _ hl)) ?_ ?_)]
  .intro i x d a y %[M,N,rfl,p,ms,B,u|O];let hi:i< ~~~e:=m▸(Xn y).1;obtain⟨q,hq,rfl⟩:∃q,e[i]?∣q/\x=V.ref q.1:=by
    unfold cX at y;rw[Zl,Z4 hi]at y;exact%[e[i],Z4 hi|(Za y).symm]
   let b:=G q (Z8 hq);show%[_,SqT.of (p _ _ b.1),ρ,_,_,ρ,_,_,ρ,ρ|aB λD3 k3 _=>?_];change jB _ _ [!l,!L,some (.str q.2.1),some (.str (Str.join nl q.2.2))] a;lk;show%[tyL (JP.of B)|aF λn J=>?_];lk;show%[q.2.2,ρ,b.2.2|λl2 H2 ss s2 f2 h2 U=>?_];lk;show%[%[_|JP.of h2]|J _ _ λF hF=>?_];let ai: ~~~ss<=26:=U.length_eq▸oj λc hc=>lH b.2.2.sign c hc
   let one:∀z∈ss,~~~z=1:=λz hz=>by
    let%[c,_|rfl]:=io (U.mem_iff.mp hz);rfl
   show cJ (λj ts d a=>(∃o,d=[o,some (.str q.2.1)])/\ah H2 a/\a F<*ts/\ts=((ss.take j).map (lnS q.2.1))\3)
    %[%[none|rfl],ah.JO hF,ae|rfl] (λ_ _ _ a Y=>Y.2.1 _ _ h2) ?_ ?_
   .intro j ts d H4 hj %[%[o|rfl],C,aa|g];lk;show%[_,_,ρ,by let:=kY b.2.1;lia,by rw[one _ (Yc hj)];decide|CK.mk hj aa (by rw[g,Z6,Z6,Ym];exact aH ⋯) %[%[_|ρ],ah.set C hF,ae|?_]];rw[g,Xc,Zd,Zd,Z4 hj];rfl
   intro ts d H3 %[_,C,ab|g];rw[Zn (Zi _)]at g;lk;show%[_,C _ _ (s2 _ _ B),_,ab,(by rw[g,Z6,Z6,Z6];exact bH ⋯)|k3 _ _ %[_,_,ρ,ah.set (p.trans (s2.trans C)) I,ms++ss.map (lnS q.2.1),?_,?_|?_]]
   .rw[ae,g,Zd]
   .rw[Xc,hq,flatMap_append];show u.append ?_;change List.Perm _ ([q].flatMap lyr);rw[List.flatMap_singleton];exact U.map _
   .rw[Z9,Z6]
    lia
  .intro d a %[M,N,rfl,p,ms,B,u|O];show k2 _ _ ?_;lk;rw[m,Zn (Zi _)]at u;exact%[ms,JP.of B,by rw[u.length_eq];lia|λr ss v p' q'=>k r _ ss (p.trans (ah.JO v)) (p.free v) ae (p'.trans u) q']
def pF(T:Txt K mg):↥4 "ties_of_cuts" ["cuts"] kW:=by
 .exists T.bb,ce,a4,hr,%[l,B,rfl,hl,a1,a2,h8|k];let ag: ~~~(cX B)= ~~~B:=Z6 _;show%[_,%["JDG1NBDVT0gPL2PL3hEVTH]ZA3BgPL4PL5hEYur1AzAH~fA2A4BAH~fA2A5BA2BBEI1",ce.nd|hr]|?_]
  change bn _ _ _ [!l,none,none,none,none,none] H;show ak λD1 k1 _=>?_
  lk;show%[Xg _|λL hL=>k1 _ _ (ak λD2 k2 _=>ay λai hK=>?_)];lk;show%[%[_|JP.of (ah.JO hL _ _ hl)]|hK _ _ (fW (λi C I=>∃o2 o3 J M,C=[!l,!L,o2,o3,J,M]/\ah H I/\∃ts:ZG,I L∣.lst (ts\0)/\aM I ts/\(∀t∈ts,AU (B.flatMap lyr) t.2)/\ ~~~ts<=26*i/\∀k,k∈ts\2↔k∈bq (B.take i))
   %[none,none,none,none,ρ,ah.JO hL,[],ae,ja _,λt ht=>(nomatch ht),Xg _|λk=>Iff.rfl] (λi C I _ ⟨_,_,_,_,_,q,_⟩=>JP.of (q _ _ hl)) ?_ ?_)]
  .intro i x C I N %[o2,o3,J,M,rfl,sm,ts,hm,Y,aa,al|d];let hi:i< ~~~B:=by rw[<-ag];exact(Xn N).1
   obtain⟨q,hq,rfl⟩:∃q,B[i]?∣q/\x=V.ref q.1:=by
    unfold cX at N;rw[Zl,Z4 hi]at N;exact%[B[i],Z4 hi|(Za N).symm]
   let g:=a1 q (Z8 hq);show%[_,SqT.of (sm _ _ g.1),ρ,_,_,ρ,_,_,ρ,ρ|?_];show aB λD3 k3 _=>?_
   change wR _ _ _ _ [!l,!L,some (.str q.2.1),some (.str (Str.join nl q.2.2)),J,M] I;show ay λai hK=>?_
   lk;let qm:=Z8 hq;show%[q.2.2,ρ,g.2.2,a2 q qm|?_];intro l2 H2 ss s2 f2 h2 t2 a5 an all2;let a3:=kY g.2.1;let aq:l2≠L:=λe=>by rw[e,hm]at f2;cases f2
   let as: ~~~(ss\0)= ~~~ss:=Z6 _;show%[l2,ρ,%[_|JP.of h2]|hK _ _ (fW (xs:=ss\0) (λj C n=>∃J M,C=[!l,!L,some (.str q.2.1),some (.str (Str.join nl q.2.2)),J,M]/\ah H n/\n l2∣.lst (ss\0)/\aM n ss/\∃c:ZG,n L∣.lst (c\0)/\aM n c/\(∀t∈c,AU (B.flatMap lyr) t.2)/\ ~~~c<=26*i+j/\c\2=ts\2 ++((ss.take j)\2).map (gF q.2.1))
    %[_,_,ρ,sm.trans s2,h2,t2,ts,s2 _ _ hm,aT Y λb z e=>s2 _ _ e,aa,⋯|(Zx _).symm] (λj C n _ ⟨_,_,_,_,q,_⟩=>JP.of q) ?_ ?_)]
   .intro j x C n N %[J,M,rfl,ab,aR,r,c,G,u,ac,v|m];let hj:j< ~~~ss:=as▸(Xn N).1;rw[Zl,Z4 hj]at N;obtain rfl:x=V.ref ss[j].1:=(Za N).symm;let O:=Yc hj;let%[a,b,aU,la|lb]:=an _ O;let U:=(r _ O).2;rw[aU]at U;show%[_,SqT.of U,ρ,_,_,ρ,_,_,ρ,ρ|aB λD4 k4 _=>?_];change jB _ _ [!l,!L,some (.str q.2.1),some (.str (Str.join nl q.2.2)),some (.str (sgn a)),some (.str (sgn b))] n;lk;show%[tyL (JP.of G),q.2.1,sgn a,ρ,⋯,(show 1<=100 by decide)|?_];show%[q.2.1,sgn b,ρ,⋯,(show 1<=100 by decide)|?_];show%[#[3]|λp hp=>?_];let sp:=ah.JO (o:= .tup [V.str (lnS q.2.1 (sgn a)),V.str (lnS q.2.1 (sgn b)),V.str q.2.1]) hp;let gp:JO n p (.tup [V.str (lnS q.2.1 (sgn a)),V.str (lnS q.2.1 (sgn b)),V.str q.2.1]) p=_:=ae
    generalize JO n p _=H4 at sp gp
    let a0:=sp _ _ G;let y:∀b z,H4 b&&&z->JO H4 L (.lst (c\0 ++[V.ref p])) b&&&z:=λb z e=>by
     let:b≠L:=λe2=>by rw[e2,a0]at e;cases e
     rw[au this];exact e
    show%[_,a0,by rw[Z6];exact Nat.lt_of_le_of_lt (show ~~~c<=10000 by lia) (!1)|k4 _ _ %[_,_,ρ,ah.set (ab.trans sp) hL,(au aq)▸sp _ _ aR,aT (aT r λb z e=>sp _ _ e) y,c++[(p,[lnS q.2.1 (sgn a),lnS q.2.1 (sgn b),q.2.1])],?_,?_,?_,?_|?_]]
    .rw[ae,Zd];rfl
    .exact aT (jq (aT u λb z e=>sp _ _ e) ∅ gp) y
    .intro t ht;rcases Xo ht with z|z
     .exact ac t z
     .rw[Xp z];exact%[%[_,_,_,ρ,mem_flatMap.mpr %[q,qm|zd la]|mem_flatMap.mpr %[q,qm|zd lb]]|HZ (lZ g.2.1 (yh g.2.2 la)) (lZ g.2.1 (yh g.2.2 lb)) (wa g.2.1)]
    .rw[Z9,Yk];lia
    .rw[Zd,m,Ze,Xc,Z4 hj,Zd,Zd];change _++(_++[_])=_++(_++[gF q.2.1 ss[j].2]);rw[aU];rfl
   .intro C n %[J,M,rfl,ab,aR,r,c,G,u,ac,v|m];rw[as]at v m;rw[Zn (Zi _)]at m;show k3 _ _ %[_,_,_,_,rfl,ab,c,G,u,ac,⋯|λk=>?_];rw[m,kU hq,Yu,Yu,d,mem_map,mem_map];exact or_congr Iff.rfl (exists_congr λz=>and_congr_left λ_=>all2 z)
  .intro C I %[o2,o3,J,M,rfl,sm,ts,hm,Y,aa,al|d];show k2 _ _ ?_;lk;rw[ag]at al d;rw[Zn (Zi _)]at d;exact k L I ts sm hL hm Y aa ⋯ d
def kZ(T:Txt K mg):↥1 "ties_of_sayings" ["sayings"] kX:=by
 .exists T.bc,cD,ai,hr,%[l,ls,qs,rfl,hl,aa,r,al|k];let G: ~~~(qs\0)= ~~~qs:=Z6 _;show%[_,%["JDG1NBDV~JA0BgPL2PL3hEQKeU3CbEYur1AzAU3CAU3CA~'~Kb~K~e2~(BBREI1"|cD.nd]|?_]
  change bn _ _ _ [!l,none,none,none] H;show ak λD1 k1 _=>?_
  lk;show%[Xg _|λL N=>k1 _ _ (ak λD2 k2 _=>ay λac hK=>?_)];lk;show%[_,JP.of (ah.JO N _ _ hl)|hK _ _ (iS (λi O n=>∃o2 o3,O=[!l,!L,o2,o3]/\ah H n/\∃ts:ZG,n L∣.lst (ts\0)/\aM n ts/\(∀t∈ts,AU ls t.2)/\ ~~~ts<=i/\ts\2=db qs i)
   %[none,none,ρ,ah.JO N,[],ae,ja _,λt ht=>(nomatch ht),Xg _|ρ] (λi O n _ ⟨_,_,_,q,_⟩=>JP.of (q _ _ hl)) ?_ ?_)]
  .intro i x TT O n hx %[o2,o3,rfl,sm,ts,hm,u,g,v|d] hT;let hi:i< ~~~qs:=by rw[<-G];exact(Xn hx).1
   obtain⟨q,U,rfl⟩:∃q,qs[i]?∣q/\x=V.ref q.1:=by
    rw[Zl,Z4 hi]at hx;exact%[qs[i],Z4 hi|(Za hx).symm]
   let s0:=ah.JO (o:= .tup [.int i,.ref q.1]) hT;let j:ah H (JO n TT (.tup [.int i,.ref q.1])):=sm.trans s0;let I:JO n TT (.tup [.int i,.ref q.1]) TT&&&[.int i,.ref q.1]:=ae;let m:=s0 _ _ hm;let c:=aT u λb z e=>s0 _ _ e
   generalize JO n TT (.tup [.int i,.ref q.1])=HT at j I m c
   let J:=aa q (Z8 U);show%[_,SqT.of I,ρ,_,_,ρ,_,_,ρ,ρ|?_];change iM _ _ _ _ [!l,!L,some (.int i),some (.ref q.1)] HT;show aB λD4 k4 _=>?_
   lk;let st:=SqT.of (K:=K) (j _ _ J.1);let ag: ~~~(Str.ofString (toString (i:Int)))<=21:=by
    let e:=PySem.int_text_length_le10 (a:=(i:Int)) (k:=20) (!1) (by let:(i:Int).natAbs=i:=rfl;lia);rw[PySem.ofString_length];lia
   let e1:(Str.empty++Str.ofString "#").length=1:=!0
   let ea:∀a b:Str,~~~(a++b)= ~~~a+ ~~~b:=λa b=>size_append
   let add:∀a b:Str,a∈ls->b∈ls->jb i q.2∣[a,b,wc i]->∀p,HT p=none->∃x,JO HT p (.tup [.str a,.str b,V.str (Str.empty++Str.ofString "#"++Str.ofString (toString (i:Int)))]) L<*x/\ ~~~x<sizeLine/\D4.nx [!l,!L,some (.int i),some (.ref q.1)] (JO (JO HT p (.tup [.str a,.str b,V.str (Str.empty++Str.ofString "#"++Str.ofString (toString (i:Int)))])) L (.lst (x++[V.ref p]))):=by
    intro a b Y mb ab p hp;let tn:=eQ U;rw[ab,<-d]at tn;unfold wc at tn
    generalize hz:Str.empty++Str.ofString "#"++Str.ofString (toString (i:Int))=z at tn ⊢
    let sp:=ah.JO (o:= .tup [V.str a,V.str b,V.str z]) hp;let gp:JO HT p (.tup [V.str a,V.str b,V.str z]) p=_:=ae
    generalize JO HT p (.tup [V.str a,V.str b,V.str z])=H4 at sp gp
    let M:=sp _ _ m;let B:∀b z,H4 b&&&z->JO H4 L (.lst (ts\0 ++[V.ref p])) b&&&z:=λb z e=>by
     let:b≠L:=λe2=>by rw[e2,M]at e;cases e
     rw[au this];exact e
    show%[_,M,by rw[Z6];exact aH ⋯|k4 _ _ %[_,_,ρ,ah.set (j.trans sp) N,ts++[(p,[a,b,z])],?_,?_,?_,?_|?_]]
    .rw[ae,Zd];rfl
    .exact aT (jq (aT c λb z e=>sp _ _ e) ∅ gp) B
    .intro t ht;rcases Xo ht with z|z
     .exact g t z
     .rw[Xp z];exact%[%[_,_,_,ρ,Y|mb]|HZ (r a Y) (r b mb) (hz▸Fq i ⋯)]
    .rw[Z9,Yk];lia
    .rw[tn,Zd];rfl
   rcases J.2 with⟨wd,a,b,e,hw,Y,mb,_⟩|⟨wd,a,y,e,hw,_⟩
   .rw[e]at st;show%[_,st,_,ρ,ρ|bv (λC=>?_) λC=>?_]
    .show%[tyL (JP.of m),_,st,_,ρ,_,st,_,ρ,bH ⋯,?_,bH (by rw[ea];lia),bH (by rw[ea];lia),#[3]|add a b Y mb (e▸if_pos (V.str.inj (Zo C)))];let:(i:Int).natAbs=i:=rfl
     lia
    .show k4 _ _ %[_,_,rfl,j,ts,m,c,g,⋯|?_];rw[eQ U,e,show jb i [V.str wd,V.str a,V.str b]=none from if_neg λz=>C (Zf (by rw[z])),d];exact(Zx _).symm
   .rw[e]at st;show%[_,st,_,ρ,ρ|?_];rw[if_neg (by rcases hw with rfl|rfl<;> decide)];show k4 _ _ %[_,_,rfl,j,ts,m,c,g,⋯|?_];rw[eQ U,e,d];exact(Zx _).symm
  .intro O n %[o2,o3,rfl,sm,ts,hm,u,g,v|d];show k2 _ _ ?_;lk;rw[G]at v d;exact k L n ts sm N hm u g v d
structure GrF (mg:ZC) (H:Hp) (g c2 c3 c4:Addr) (qs:ZN) (ls:ZB) (ts:ZG):Prop where
 at_:∃dx c1,H g∣.ins (aL mg "Ground") dx [("kept_cuts",.ref c1),("kept_sayings",.ref c2),("kept_layers",.ref c3),("kept_ties",.ref c4)]
 a2:H c2∣.lst (qs\0)
 a3:H c3<*ls\3
 a4:H c4∣.lst (ts\0)
 sa:cE H ls qs
 tu:aM H ts
def GrF.up(h:GrF mg H g a c d qs ls ts)(s:ah H f):GrF mg f g a c d qs ls ts:=by
 let%[i,j|l]:=h.at_;exact%[%[i,j|s _ _ l],s _ _ h.a2,s _ _ h.a3,s _ _ h.a4,h.sa.up s|aT h.tu λb z e=>s _ _ e]
inductive sk (mg:ZC)
 | mk (g c2 c3 c4 qs ls ts):vs=[.ref g]->GrF mg H g c2 c3 c4 qs ls ts->(∀l,H l=none->Q (.ref l) (JO H l (.lst (ls\3))))->sk mg vs H Q E0
inductive pG (mg:ZC)
 | mk (g c2 c3 c4 qs ls ts):vs=[.ref g]->GrF mg H g c2 c3 c4 qs ls ts->(∀l,H l=none->Q (.ref l) (JO H l (.lst (qs\0))))->pG mg vs H Q E0
inductive ze (mg:ZC)
 | mk (g c2 c3 c4 qs ls ts):vs=[.ref g]->GrF mg H g c2 c3 c4 qs ls ts->(∀l,H l=none->Q (.ref l) (JO H l (.lst (ts\0))))->ze mg vs H Q E0
inductive uk (mg:ZC)
 | mk (g l m dx cs qs):vs=[.ref g,.ref l,.ref m]->H g∣.ins (aL mg "Ground") dx []->H l<*cX cs->H m∣.lst (qs\0)->cn H cs->(cs.map λp=>p.2.1).Nodup->1<= ~~~cs-> ~~~cs<=4->(∀p∈cs,x9 p.2.2)-> ~~~(cs.flatMap lyr)<=63->(∀ls,ls.Perm (cs.flatMap lyr)->cE H ls qs)-> ~~~qs<=30->(∀H' ls ts c2 c3 c4,(∀b o,b≠g->H b∣o->H' b∣o)->GrF mg H' g c2 c3 c4 qs ls ts->(∀t∈ts,AU ls t.2)->(∀z∈ls,Sml z)->(∀k,k∈ts\2↔k∈bq cs\/k∈db qs qs.length)-> ~~~ts<=150->ls.Perm (cs.flatMap lyr)->ls.Pairwise (λa b=>aP b a=false)->Q .non H')->uk mg vs H Q E0
def Do(T:Txt K mg):E3 P w K mg base 6 "Ground" ["self","cuts","sayings"] (uk mg):=by
 .exists T.i_Ground,fo,bb,hr,%[g,l,m,d,u,qs,rfl,N,hl,hm,j,an,h1,h8,aq,as,C,bc|k];show%[_,%["JDYH]aA1BDG3H]bA1BDYH]cA2A3BD~T0^|A1BD~T0^|A2BD~T03E~T0&]dAFiH]eA1BH]fA2BB",fo.nd|hr]|?_]
  change bn _ _ _ [!g,!l,!m,none] H;show ak λD1 k1 _=>?_
  lk;show%[l,u,ρ,hl,j,an,h1,⋯|λH1 s1=>k1 _ _ (ak λD2 k2 _=>?_)];lk;show%[l,u,ρ,s1 _ _ hl,j.up s1,h8,as|λr H2 ls s2 f2 h2 O q2=>k2 _ _ (ak λD3 k3 _=>?_)];let U:=s1.trans s2;lk;show%[m,r,ls,qs,ρ,U _ _ hm,h2,(C ls O).up U,⋯|λH3 s3=>k3 _ _ (ak λD4 k4 _=>?_)];let v:=U.trans s3;let OC:=T.o_Ground.cls;let ac:∀z∈ls,Sml z:=λz hz=>by
   let%[p,y|hz]:=mem_flatMap.mp (O.mem_iff.mp hz);exact Fp (j p y).2.1 (j p y).2.2 z hz
  let gl:l≠g:=λe=>by rw[e,N]at hl;cases hl
  let gm:m≠g:=λe=>by rw[e,N]at hm;cases hm
  let gr:r≠g:=λe=>by rw[e,s1 _ _ N]at f2;cases f2
  lk;show%[_,.inl (JP.of (v _ _ hl))|λa G=>%[_,_,_,ah.JO G _ _ (v _ _ N),OC,T.n_Ground_kept_cuts,(by change 0<1000;decide)|k4 _ _ (ak λD5 k5 _=>?_)]];let aR:a≠g:=λe=>by rw[e,v _ _ N]at G;cases G
  let aU:=ah.JO (o:= .lst (cX u)) G;let b4:∀b o,b≠g->H3 b∣o->JO (JO H3 a (.lst (cX u))) g (.ins (aL mg "Ground") d (dR (!"kept_cuts") (V.ref a) [])) b∣o:=λb o c e=>by rw[au c];exact aU _ _ e
  let g4:JO (JO H3 a (.lst (cX u))) g (.ins (aL mg "Ground") d (dR (!"kept_cuts") (V.ref a) [])) g∣.ins (aL mg "Ground") d [("kept_cuts",V.ref a)]:=ae;let a4:JO (JO H3 a (.lst (cX u))) g (.ins (aL mg "Ground") d (dR (!"kept_cuts") (V.ref a) [])) a<*cX u:=by rw[au aR];exact ae
  generalize JO (JO H3 a (.lst (cX u))) g (.ins (aL mg "Ground") d (dR (!"kept_cuts") (V.ref a) []))=H4 at b4 g4 a4
  let n4:∀b,H4 b=none->b≠g:=λb c e=>by rw[e,g4]at c;cases c
  lk;show%[_,.inl (JP.of (b4 _ _ gm (v _ _ hm)))|λi Y=>%[_,_,_,ah.JO Y _ _ g4,OC,T.n_Ground_kept_sayings,(by change 1<1000;decide)|k5 _ _ (ak λD6 k6 _=>?_)]];let aa:=n4 i Y;let a0:=ah.JO (o:= .lst (qs\0)) Y;let b5:∀b o,b≠g->H4 b∣o->JO (JO H4 i (.lst (qs\0))) g (.ins (aL mg "Ground") d (dR (!"kept_sayings") (V.ref i) [("kept_cuts",V.ref a)])) b∣o:=λb o c e=>(au c)▸a0 _ _ e
  let g5:JO (JO H4 i (.lst (qs\0))) g (.ins (aL mg "Ground") d (dR (!"kept_sayings") (V.ref i) [("kept_cuts",V.ref a)])) g∣.ins (aL mg "Ground") d [("kept_cuts",V.ref a),("kept_sayings",V.ref i)]:=by rw[ae];rfl
  let a5:JO (JO H4 i (.lst (qs\0))) g (.ins (aL mg "Ground") d (dR (!"kept_sayings") (V.ref i) [("kept_cuts",V.ref a)])) i∣.lst (qs\0):=(au aa)▸ae
  generalize JO (JO H4 i (.lst (qs\0))) g (.ins (aL mg "Ground") d (dR (!"kept_sayings") (V.ref i) [("kept_cuts",V.ref a)]))=H5 at b5 g5 a5
  lk;show%[_,_,_,g5,OC,T.n_Ground_kept_layers,(by change 2<1000;decide)|k6 _ _ (aB λD7 k7 _=>?_)];let b6:∀b o,b≠g->H5 b∣o->JO H5 g (.ins (aL mg "Ground") d (dR (!"kept_layers") (V.ref r) [("kept_cuts",V.ref a),("kept_sayings",V.ref i)])) b∣o:=λb o c e=>(au c)▸e
  let g6:JO H5 g (.ins (aL mg "Ground") d (dR (!"kept_layers") (V.ref r) [("kept_cuts",V.ref a),("kept_sayings",V.ref i)])) g∣.ins (aL mg "Ground") d [("kept_cuts",V.ref a),("kept_sayings",V.ref i),("kept_layers",V.ref r)]:=by rw[ae];rfl
  generalize JO H5 g (.ins (aL mg "Ground") d (dR (!"kept_layers") (V.ref r) [("kept_cuts",V.ref a),("kept_sayings",V.ref i)]))=H6 at b6 g6
  let ag:∀b o,b≠g->H3 b∣o->H6 b∣o:=λb o c e=>b6 b o c (b5 b o c (b4 b o c e))
  let B:∀b o,b≠g->H b∣o->H6 b∣o:=λb o c e=>ag b o c (v _ _ e)
  let ai:cn H6 u:=λp y=>⟨B _ _ (λe=>by let:=(j p y).1;rw[e,N]at this;cases this) (j p y).1,(j p y).2⟩
  let n:cE H6 ls qs:=λq hq=>⟨B _ _ (λe=>by let:=(C ls O q hq).1;rw[e,N]at this;cases this) (C ls O q hq).1,(C ls O q hq).2⟩
  lk;show%[l,u,ρ,B _ _ gl hl,ai,aq,h8|λt1 H7 ts s7 f7 h7 a1 ab bf a2=>?_];lk;show%[m,ls,qs,ρ,s7 _ _ (B _ _ gm hm),n.up s7,ac,⋯|λt2 H8 us s8 f8 a3 a6 al bl a7=>?_];lk;let M:aM H8 (ts++us):=v5 (aT a1 λb z e=>s8 _ _ e) a6;let g8:=s8 _ _ (s7 _ _ g6);show%[_,s8 _ _ h7,_,a3,by rw[Z6,Z6,PySem.sizeLine_eq];lia|λp y=>%[ts++us,Zd▸JP.of ae,aT M λb z e=>ah.JO y _ _ e,3,?_,!1,by rw[Z9];lia|λc4 ss I J=>%[_,_,_,ah.JO I _ _ (ah.JO y _ _ g8),OC,T.n_Ground_kept_ties,(by change 3<1000;decide)|k7 _ _ ?_]]]
  .intro t ht;rcases Xo ht with z|z
   .exact(ab t z).1.three
   .exact(al t z).1.three
  .let b9:∀b o,b≠g->H8 b∣o->JO (JO (JO H8 p (.lst (ts\0 ++us\0))) c4 (.lst (ss\0))) g (.ins (aL mg "Ground") d (dR (!"kept_ties") (V.ref c4) [("kept_cuts",V.ref a),("kept_sayings",V.ref i),("kept_layers",V.ref r)])) b∣o:=λb o c e=>(au c)▸((ah.JO (o:= .lst (ts\0 ++us\0)) y).trans (ah.JO (o:= .lst (ss\0)) I)) _ _ e
   let L:∀b o,b≠g->H6 b∣o->_:=λb o c e=>b9 b o c (s8 _ _ (s7 _ _ e))
   show k _ ls ss i r c4 (λb o c e=>L b o c (B b o c e)) %[%[d,a|?_],?_,?_,?_,?_|?_] (λt ht=>?_) ac (λk=>by rw[(J.map _).mem_iff,Zd,Yu,a2,a7]) (by rw[J.length_eq,Z9];lia) O q2
   .rw[ae];rfl
   .exact L _ _ aa (b6 _ _ aa a5)
   .exact L _ _ gr (ag _ _ gr (s3 _ _ h2))
   .rw[au (λe=>by rw[e,ah.JO y _ _ g8]at I;cases I)];exact ae
   .exact λq hq=>⟨L _ _ (λe=>by let:=(n q hq).1;rw[e,g6]at this;cases this) (n q hq).1,(n q hq).2⟩
   .intro t ht;let:=M t (J.mem_iff.mp ht);exact%[this.1|b9 _ _ (λe=>by let q:=this.2;rw[e,g8]at q;cases q) this.2]
   .rcases Xo (J.mem_iff.mp ht)with z|z
    .exact%[(ab t z).1.mono λx=>O.mem_iff.mpr|(ab t z).2]
    .exact al t z
def eF(T:Txt K mg):Ar P w K mg base 1 "Ground" "layers" ["self"] (sk mg):=by
 .exists T.m_Ground_layers,lS,b,m,%[g,c,d,e,qs,ls,ts,rfl,a|k];let%[n,o|i]:=a.at_;show%[_,%["JEI^|A~h0B"|0]|?_];change jK _ _ [some _] H;lk;exact%[_,_,_,i,T.o_Ground.cls,T.n_Ground_kept_layers,_,ρ,_,ρ,_,.inl (JP.of a.a3)|λl j=>k l j]
def l7(T:Txt K mg):Ar P w K mg base 1 "Ground" "sayings" ["self"] (pG mg):=by
 .exists T.m_Ground_sayings,kP,b,m,%[g,c,d,e,qs,ls,ts,rfl,a|k];let%[n,o|i]:=a.at_;show%[_,%["JEI^|A~h0B"|0]|?_];change jK _ _ [some _] H;lk;exact%[_,_,_,i,T.o_Ground.cls,T.n_Ground_kept_sayings,_,ρ,_,ρ,_,.inl (JP.of a.a2)|λl j=>k l j]
def qv(T:Txt K mg):Ar P w K mg base 1 "Ground" "ties" ["self"] (ze mg):=by
 .exists T.m_Ground_ties,pc,b,m,%[g,c,d,e,qs,ls,ts,rfl,a|k];let%[n,o|i]:=a.at_;show%[_,%["JEI^|A~h0B"|0]|?_];change jK _ _ [some _] H;lk;exact%[_,_,_,i,T.o_Ground.cls,T.n_Ground_kept_ties,_,ρ,_,ρ,_,.inl (JP.of a.a4)|λl j=>k l j]
abbrev dZ(H:Hp)(ys:List (Addr×Str×Int)):Prop:=∀p∈ys,H p.1&&&[.str p.2.1,.int p.2.2]/\0<=p.2.2/\p.2.2<=7
def dZ.up(h:dZ H ys)(s:ah H b):dZ b ys:=λp a=>%[s _ _ (h p a).1|(h p a).2]
inductive sq
 | mk (one two:Int) (l:Addr) (torn:Bool) (ys:List (Addr×Str×Int)):vs=[.int one,.int two,.ref l,.bl torn]->H l∣.lst (ys\0)->dZ H ys->1<= ~~~ys-> ~~~ys<=100->0<=one->0<=two->(∀(t:Addr) H' (xs:ZM),ah H H'->H t=none->H' t&&&xs->si (ys.map λp=>p.2.1) xs->Q (.ref t) H')->sq vs H Q E0
def uo(T:Txt K mg):↥1 "_law_saying" ["_law_one","_law_two","_law_layers","_law_torn_here"] sq:=by
 .exists T.bm,bC,ag,hr,%[one,d,l,g,ys,rfl,hl,U,y1,ac,o0,t0|k];let get:∀n:Int,0<=n->∃q,atI (ys\0) (n%(~~~ys:Int))∣V.ref q.1/\q∈ys:=λn hn=>by
   let h0:=Int.emod_nonneg n (show(~~~ys:Int)≠0 by lia);let h1:=Int.emod_lt_of_pos n (show(0:Int)<(~~~ys:Int) by lia)
   generalize n%(~~~ys:Int)=i at h0 h1
   let%[j|rfl]:=Xj h0;let hj:j< ~~~ys:=by lia
   exact%[ys[j],bK (by simp[hj])|Yc hj]
  let%[p,gp|mp]:=get one o0;let%[q,gq|mq]:=get d t0;let Y: ~~~(ys\0)= ~~~ys:=Z6 _;let G:(0:Int)<(~~~ys:Int):=by lia
  let pa:=U p mp;let qa:=U q mq;show%[_,%["JD~GM2FS0ZaA2BgPL4PL5hD~GM2FS1ZaA2BgPL6PL7hDG8.3;yeFSFt1CCCDG9FSFt0CCDQc%K/9C%Kv46+cwKv57'l8DQc%K~A57+!l8EIzAbA6A4BREIzAbA4A6BRDQc%Ke9C%Kv46+cwKe57'l8EIzAbA4A6BRDG:FWF~BCFxC5MNACA:CA:CACACA:CACACBFS1CDQKeFSFt1CCCEG:MNA:CACBFSFt1CCREIzAMNAbAbBFS0CA4A$:B"|bC.nd]|?_]
  change bn _ _ _ [some (.int one),some (.int d),!l,some (.bl g),none,none,none,none,none,none,none] H;show ak λD1 k1 _=>?_
  lk;show%[~~~ys,.inl %[_,JP.of hl|Y.symm],G,_,JP.of hl,_,gp,_,ρ,_,SqT.of pa.1,ρ,_,_,ρ,_,_,ρ,ρ|k1 _ _ (ak λD2 k2 _=>?_)];lk;show%[~~~ys,.inl %[_,JP.of hl|Y.symm],G,_,JP.of hl,_,gq,_,ρ,_,SqT.of qa.1,ρ,_,_,ρ,_,_,ρ,ρ|k2 _ _ (ak λD3 k3 _=>?_)];let I:∀v:Bool,D3.nx [some (.int one),some (.int d),!l,some (.bl g),some (.str p.2.1),some (.int p.2.2),some (.str q.2.1),some (.int q.2.2),some (.bl v),none,none] H:=by
   intro v;show k3 _ _ (ak λD4 k4 _=>?_);lk;show%[%[!1|!1],!1|k4 _ _ (ak λD5 k5 r5=>?_)];let b1:0<=one/64%8:=by lia
   let b2:one/64%8<8:=by lia
   generalize one/64%8=kind at b1 b2
   let%[ai,pn|pi]:=p;let%[al,u|qi]:=q;dsimp only at pa qa gp gq;let mem:∀{r:Addr×Str×Int},r∈ys->r.2.1∈ys.map λp=>p.2.1:=λ{r} hr=>Xr %[r,hr|rfl]
   let J:∀(z:Hp) (a b:Str),ah H z->a∈(ys.map λp=>p.2.1)->b∈(ys.map λp=>p.2.1)->a≠b->∀w:Str,w="later"\/w="same"->∀t,z t=none->Q (.ref t) (JO z t (.tup [.str w,.str a,.str b])):=λz a b sh ha hb aa w hw t y=>
    k t _ _ (sh.trans (ah.JO y)) (sh.free y) ae (.inl %[w,a,b,rfl,hw,ha,hb|aa])
   let m1:pn∈ys.map λp=>p.2.1:=mem mp
   let m2:u∈ys.map λp=>p.2.1:=mem mq
   let B:3<=sizeLine:=!1
   let rest:D5.nx [some (.int one),some (.int d),!l,some (.bl g),-pn,some (.int pi),-u,some (.int qi),some (.bl v),some (.int kind),none] H:=by
    show k5 _ _ (ak λD6 k6 r6=>?_);let M:∀z,ah H z->D6.nx [some (.int one),some (.int d),!l,some (.bl g),-pn,some (.int pi),-u,some (.int qi),some (.bl v),some (.int kind),none] z:=by
     intro z sh;show k6 _ _ (ak λD7 k7 _=>?_);lk;show%[.inl %[!1|!1],#[8]|λp hp=>%[!1,_,JP.of ae|?_]];let%[c,hc|N]:=i9 [0,-20,-60,10,60,-200,110,0] (i:=d%8) ⋯ (by change d%8<8;lia);let O: -200<=c/\c<=110:=by
      simp only[Yy,X8,or_false]at N
      lia
     show%[_,hc,c,ρ|k7 _ _ (ak λD8 k8 _=>?_)];let s7:=sh.trans (ah.JO (o:= .lst [V.int 0,V.int (-20),V.int (-60),V.int 10,V.int 60,V.int (-200),V.int 110,V.int 0]) hp)
     generalize _LL.JO z p _=H7 at s7
     let done:∀(yr:Int) H8,ah H H8-> -9999<=yr->yr<=9999->D8.nx [some (.int one),some (.int d),!l,some (.bl g),-pn,some (.int pi),-u,some (.int qi),some (.bl v),some (.int kind),some (.int yr)] H8:=by
      intro yr H8 s8 y0 y9;show k8 _ _ ?_;lk;obtain⟨wd,ab,hw⟩:∃wd:Str,atI [V.str (!"since"),V.str (!"by")] (one%2)∣V.str wd/\(wd="since"\/wd="by"):=by
       rcases(show one%2=0\/one%2=1 by lia)with e|e<;> rw[e]
       .exact%[_,ρ|.inl rfl]
       .exact%[_,ρ|.inr rfl]
      show%[#[2]|λp1 C=>%[!1,_,JP.of ae,_,ab,B|λt y=>?_]];exact k t _ _ (s8.trans ((ah.JO C).trans (ah.JO y))) (s8.free ((ah.JO C).free y)) ae (.inr %[wd,pn,_,rfl,hw,m1,y0|y9])
     lk;show%[%[!1|!1],!1|bv (λ_=>%[#[2]|λp1 C=>%[%[!1|!1],!1,_,JP.of ae|?_]]) λ_=>done _ _ s7 ⋯ ⋯];let%[c,hc|N]:=i9 [-9999,9999] (i:=d/240%2) ⋯ (by change d/240%2<2;lia);let O: -9999<=c/\c<=9999:=by
      simp only[Yy,X8,or_false]at N
      lia
     exact%[_,hc|done _ _ (s7.trans (ah.JO C)) O.1 O.2]
    lk;let sp:=ah.refl H;let R:=M H sp;show bv (λ_=>bv (λm=>?_) λ_=>R) λ_=>R
    let m:pn≠u:=↑m
    let L:3<=sizeLine/\∀p,H p=none->D6.rt (.ref p) (JO H p (.tup [V.str (!"same"),V.str pn,V.str u])):=%[B|λt y=>r6 _ _ (J H pn u sp m1 m2 m _ (.inr rfl) t y)]
    exact bv (λ_=>L) λ_=>bv (λ_=>L) λ_=>R
   lk;show bv (λ_=>bv (λm=>?_) λ_=>rest) λ_=>rest
   let m:pn≠u:=↑m
   let L1:3<=sizeLine/\∀p,H p=none->D5.rt (.ref p) (JO H p (.tup [V.str (!"later"),V.str u,V.str pn])):=%[B|λt y=>r5 _ _ (J H u pn (ah.refl H) m2 m1 (Ne.symm m) _ (.inl rfl) t y)]
   let L2:3<=sizeLine/\∀p,H p=none->D5.rt (.ref p) (JO H p (.tup [V.str (!"later"),V.str pn,V.str u])):=%[B|λt y=>r5 _ _ (J H pn u (ah.refl H) m1 m2 m _ (.inl rfl) t y)]
   exact bv (λ_=>bv (λ_=>bv (λ_=>L1) λ_=>L2) λ_=>L2) λ_=>bv (λ_=>bv (λ_=>bv (λ_=>L1) λ_=>L2) λ_=>L2) λ_=>rest
  lk;exact bv (λ_=>%[%[!1|!1],!1|I _]) λ_=>I _
structure Drn where
 name:Str
 cols:List ZL
 hi:Nat
 sh:Int
 wd:Bool
abbrev Drn.rows(d:Drn):ZB:=drawn d.cols d.hi d.sh
abbrev mX(d:Drn):Prop:=eJ d.name=true/\1<=d.hi/\d.hi<=7/\1<= ~~~d.cols/\ ~~~d.cols<=5/\∀c∈d.cols,~~~c=d.hi/\kC d.wd c
def mX.cut(h:mX d):cy d.rows:=vQ h.2.1 (by let:=h.2.2.1;lia) h.2.2.2.1 (by let:=h.2.2.2.2.1;lia) h.2.2.2.2.2
abbrev gG(d:Drn):List (Str×Int):=(there d.cols).map λa=>(dP d.name (sg a d.sh),a)
abbrev dcs(ds:List (Addr×Drn)):ZH:=ds.map λp=>(p.1,p.2.name,p.2.rows)
inductive sr (K:ZA)
 | mk (a:Addr) (xs:ZL):vs=[.ref a]->JP K H a (xs\4)->(∀H',ah H H'->JP K H' a (xs\4))-> ~~~xs=86->(∀x∈xs,0<=x/\x<9973)->(∀(t l1 l2 l3:Addr) H' (ds:List (Addr×Drn)) (qs:ZN),ah H H'->H t=none->H l1=none->H l2=none->H l3=none->l1≠l2->l1≠l3->l2≠l3->H' t&&&[.ref l1,.ref l2,.ref l3]->H' l1<*cX (dcs ds)->H' l2∣.lst (qs\0)->H' l3∣.lst ((ds.flatMap λp=>(gG p.2)\1)\3)->1<= ~~~ds-> ~~~ds<=4->(∀p∈ds,mX p.2)->(ds.map λp=>p.2.name).Nodup->cn H' (dcs ds)->cE H' (ds.flatMap λp=>(gG p.2)\1) qs-> ~~~qs<=30->1<= ~~~(ds.flatMap λp=>(gG p.2)\1)/\ ~~~(ds.flatMap λp=>(gG p.2)\1)<=32->Q (.ref t) H')->sr K vs H Q E0
def fO(h:H M<*xs):∀b z,H b&&&z->JO H M (.lst ys) b&&&z:=λb z e=>by
 rw[au (λa=>by rw[a,h]at e;cases e)];exact e
def dZ.keep(h:dZ H ys)(t:∀b z,H b&&&z->c b&&&z):dZ c ys:=λp a=>%[t _ _ (h p a).1|(h p a).2]
def cn.keep(h:cn H c)(t:∀b z,H b&&&z->d b&&&z):cn d c:=λp a=>%[t _ _ (h p a).1|(h p a).2]
def cE.keep(h:cE H ls qs)(t:∀b z,H b&&&z->c b&&&z):cE c ls qs:=λp a=>%[t _ _ (h p a).1|(h p a).2]
def cn.snoc(h:cn H a)(b:H q.1&&&[.str q.2.1,.str (Str.join nl q.2.2)]/\eJ q.2.1=true/\cy q.2.2):cn H (a++[q]):=λp c=>by
 rcases Xo c with z|z
 .exact h p z
 .rw[Xp z];exact b
def dZ.snoc(h:dZ H ys)(a:H q.1&&&[.str q.2.1,.int q.2.2]/\0<=q.2.2/\q.2.2<=7):dZ H (ys++[q]):=λp b=>by
 rcases Xo b with z|z
 .exact h p z
 .rw[Xp z];exact a
def AV(n:Str)(c:Nat):n++Str.ofString "."++sgn c=dP n c:=by
 show fH ?_;change(n.cps++ ([46].toArray) ++ ([c].toArray)).toList=(n.cps.toList++[46,c]).toArray.toList;simp
def uq(T:Txt K mg):↥3 "_law_ground" ["_law_row_here"] (sr K):=by
 .exists T.bn,aX,eu,hr,%[a,xs,rfl,hs,keep,b9,hb|kk];let get:∀i:Int,0<=i->i<86->∃c,atI (xs\4) i∣V.int c/\0<=c/\c<9973:=λi h0 h1=>by
   let%[c,e|hm]:=i9 xs h0 ⋯;exact%[c,e|hb c hm]
  let%[c0,g0,l0|u0]:=get 0 (!1) (!1);show%[_,%["JDG1H]gAMO0CBD,2jkyeFSMO0CCCDG3NBD,4jkNBDV*AFWCFSFtMO0CCCBL5DG6FWFSFtMO0CCCFxC5DG7.O2;ye5FSFtMO0CCCD~GH]hAnO0fFWCFxC5fFWCFxC5A6A7BgPL8PL9hDYur3AzAM15A8BBEVT9L:EYurO4AzAF~UF~UM15bH~uA$:A6BA$:BBDG;FSFtMO0CCCD~H<kjd?1*A$;BX0?2sH]iAMO3FWCFxC0AMO3FWCFxC0AO1AO2BEIzA3A$<Amd?3TO4gPX0?4PX1?4hs0B",aX.nd,↑(["_law_k","_law_layers","_law_torn_here","_law_row_here"],[(1,4),(2,2),(3,0)]),↑["_law_k","_law_layers","_law_torn_here","_law_row_here"],↑(["_law_layer","_law_at"],[]),↑["_law_layer","_law_at"]|hr]|?_]
  let%[c1,g1,l1|u1]:=get 1 (!1) (!1);change bn _ _ _ [!a,none,none,none,none,none,none,none,none,none,none,none,none] H;show ak λD1 k1 _=>?_
  lk;show%[_,hs,_,g1,_,ρ,l1,u1|λLN Hn ms sn fn bm al=>k1 _ _ (ak λD2 k2 _=>?_)];let keep:∀g,ah Hn g->JP K g a (xs\4):=λg sm=>keep _ (sn.trans sm)
  lk;show%[_,keep _ (ah.refl Hn),_,g0,c0,ρ,!1|k2 _ _ (ak λev dm _=>?_)]
  generalize decide (c0%3=1)=u
  lk;show%[Xg _|λv an=>dm _ _ (ak λes ca _=>?_)];let s1:=ah.JO (o:= .lst []) an;lk;show%[Xg _|λL3 a0=>ca _ _ (ak λD3 k3 _=>ay λaq hK=>?_)];let s2:=s1.trans (ah.JO (o:= .lst []) a0);let ew:LN≠v:=λe=>by rw[<-e,bm]at an;cases an
  let bt:v≠L3:=λe=>by rw[<-e,ae]at a0;cases a0
  lk;show%[_,keep _ s2,_,g0,c0,ρ,%[!1|!1],!1|?_];show%[⋯,⋯|hK _ _ (cP (λi L g=>∃o3 o4 o5 o6 o7 o8,L=[!a,!LN,some (.bl u),!v,!L3,o3,o4,o5,o6,o7,o8,none,none]/\ah Hn g/\∃(ds:List (Addr×Drn)) (ys:List (Addr×Str×Int)),~~~ds=i/\g v<*cX (dcs ds)/\g L3∣.lst (ys\0)/\dZ g ys/\(ys\2)=(ds.flatMap λp=>gG p.2)/\
   cn g (dcs ds)/\(∀p∈ds,mX p.2)/\ds.map (λp=>p.2.name)=ms.take i)
   %[_,_,_,_,_,_,ρ,s2,[],[],ρ,by rw[au bt];exact ae,ae,λp hp=>(nomatch hp),ρ,λp hp=>(nomatch hp),λp hp=>(nomatch hp)|ρ] ?_ ?_)]
  .intro i L H3 hi %[o3,o4,o5,o6,o7,o8,rfl,s3,ds,ys,bI,y,C,a1,O,b0,a2|b1];let hi3:i<4:=by lia
   change bn _ _ _ [!a,!LN,some (.bl u),!v,!L3,some (.int (0+i)),o4,o5,o6,o7,o8,none,none] H3;rw[Int.zero_add];show ak λD4 k4 _=>?_
   let cd:i< ~~~ms:=by rw[al.1];exact hi3
   obtain⟨nm,ch,b2⟩:∃nm,ms[i]?∣nm/\eJ nm=true:=%[_,Z4 cd|al.2.2 _ (Yc cd)]
   let a6:atI (ms\3) (i:Int)∣V.str nm:=bK (by rw[Zl,ch];rfl);lk;show%[_,keep _ s3,_,g0,c0,ρ,%[!1|!1],!1,.inl %[!1|!1]|k4 _ _ (ak λD5 k5 _=>?_)];let b3:0<=c0/12%26+3*(i:Int):=by lia
   generalize c0/12%26+3*(i:Int)=r at b3
   let M:=s3;let as:∀m:Bool,D5.nx [!a,!LN,some (.bl u),!v,!L3,some (.int i),some (.int r),some (.bl m),o6,o7,o8,none,none] H3:=by
    intro m;show k5 _ _ (ak λD6 k6 _=>?_);lk;show%[.inl %[!1|!1],.inl %[!1|!1],_,keep _ M|λp2 cl=>?_];rw[v4 xs ⋯ ⋯ ⋯];let co: ~~~((xs.drop (2+6*(i:Int)).toNat).take ((8+6*(i:Int)).toNat-(2+6*(i:Int)).toNat))=6:=by
     rw[Ym,Yh,b9];exact(by decide:∀i:Nat,i<4->min ((8+6*(i:Int)).toNat-(2+6*(i:Int)).toNat) (86-(2+6*(i:Int)).toNat)=6) i ⋯
    let cs:∀x∈(xs.drop (2+6*(i:Int)).toNat).take ((8+6*(i:Int)).toNat-(2+6*(i:Int)).toNat),0<=x/\x<9973:=λx hx=>hb x (List.mem_of_mem_drop (Yz hx))
    generalize (xs.drop (2+6*(i:Int)).toNat).take ((8+6*(i:Int)).toNat-(2+6*(i:Int)).toNat)=ws at co cs
    show%[p2,ws,r,m,ρ,JP.of ae,λg sm=>JP.of (sm _ _ ae),co,cs,b3|λT5 th H5 d l U f5 dn n5 dp dr dt dx dy dK b4=>%[T5,ρ,_,SqT.of dp,ρ,_,_,ρ,_,_,ρ,ρ|k6 _ _ (ak λD7 k7 _=>?_)]];let a3:ah H3 H5:=(ah.JO cl).trans U;let a7:mX %[nm,d,l,r|m]:=%[b2,dt,dx,dy,dK|b4]
    let aa:H3 th=none:=(ah.JO cl).free dn;let dT:th≠v:=λe=>by rw[e,y]at aa;cases aa
    let dV:th≠L3:=λe=>by rw[e,C]at aa;cases aa
    lk;show%[tyL (JP.of (a3 _ _ y)),_,JP.of (a3 _ _ (s3 _ _ bm)),_,a6,#[2]|λI d0=>?_];let s6:=ah.JO (o:= .tup [V.str nm,V.str (nl.join (drawn d l r))]) d0;let g6:JO H5 I (.tup [V.str nm,V.str (nl.join (drawn d l r))]) I=_:=ae;let ai:=s6 _ _ (a3 _ _ y)
    generalize JO H5 I (.tup [V.str nm,V.str (nl.join (drawn d l r))])=H6 at s6 g6 ai
    let a4:=a3.trans s6;show%[_,ai,by rw[show(cX (dcs ds)).length= ~~~ds by unfold cX dcs;rw[Z6,Z6],bI];exact aH ⋯|k7 _ _ (aB λD8 k8 _=>ay λaq hK=>?_)];let tk:=fO (ys:=cX (dcs ds) ++[V.ref I]) ai;let ct:ah Hn (JO H6 v (.lst (cX (dcs ds) ++[V.ref I]))):=ah.set (s3.trans a4) an;let cv:JO H6 v (.lst (cX (dcs ds) ++[V.ref I])) v<*cX (dcs (ds++[(I,%[nm,d,l,r|m])])):=by
     rw[ae];unfold cX dcs;rw[Zd,Zd];rfl
    let cM:JO H6 v (.lst (cX (dcs ds) ++[V.ref I])) L3∣.lst (ys\0):=by rw[au (Ne.symm bt)];exact a4 _ _ C
    let b5:JO H6 v (.lst (cX (dcs ds) ++[V.ref I])) th<*(there d)\4:=by rw[au dT];exact s6 _ _ dr
    let c2:cn (JO H6 v (.lst (cX (dcs ds) ++[V.ref I]))) (dcs (ds++[(I,%[nm,d,l,r|m])])):=by
     rw[show dcs (ds++[(I,%[nm,d,l,r|m])])=dcs ds++[(I,nm,drawn d l r)] by unfold dcs;rw[Zd];rfl];exact((b0.up a4).snoc %[g6,b2|a7.cut]).keep tk
    let c3:dZ (JO H6 v (.lst (cX (dcs ds) ++[V.ref I]))) ys:=(a1.up a4).keep tk
    generalize JO H6 v (.lst (cX (dcs ds) ++[V.ref I]))=H7 at ct cv cM b5 c2 c3
    let ab: ~~~ys<=8*i:=by
     let e:=congrArg List.length O;rw[Z6,List.length_flatMap]at e;let:=tE (f:=λp:Addr×Drn=> ~~~(gG p.2)) (B:=8) (xs:=ds) λp _=>by
      unfold gG;rw[Z6];exact lO _
     lia
    lk;show%[%[_|JP.of b5]|hK _ _ (fW (xs:=(there d)\4) (λj L g=>∃o8,L=[!a,!LN,some (.bl u),!v,!L3,some (.int i),some (.int r),some (.bl m),some (.str (nl.join (drawn d l r))),!th,o8,none,none]/\ah Hn g/\g v<*cX (dcs (ds++[(I,%[nm,d,l,r|m])]))/\g th<*(there d)\4/\cn g (dcs (ds++[(I,%[nm,d,l,r|m])]))/\
     ∃zs:List (Addr×Str×Int),g L3∣.lst ((ys++zs)\0)/\dZ g (ys++zs)/\zs\2=((there d).take j).map λa=>(dP nm (sg a r),a))
     %[_,ρ,ct,cv,b5,c2,[],by rw[Zx];exact cM,by rw[Zx];exact c3|ρ] (λj L g _ ⟨_,_,_,_,q,_⟩=>JP.of q) ?_ ?_)]
    .intro j x L H8 hx %[o8,rfl,s8,aR,bb,b6,zs,ac,b7|aU];let hj:j< ~~~(there d):=by let:=(Xn hx).1;rwa[Z6]at this
     rw[Zl,Z4 hj]at hx;obtain rfl:x=V.int (there d)[j]:=(Za hx).symm;let c4:=eU.mp (Yc hj);change jB _ _ [!a,!LN,some (.bl u),!v,!L3,some (.int i),some (.int r),some (.bl m),some (.str (nl.join (drawn d l r))),!th,some (.int (there d)[j]),none,none] H8;show aB λD9 k9 _=>?_
     lk;let et:=kY b2;let ea:∀a b:Str,~~~(a++b)= ~~~a+ ~~~b:=λa b=>size_append
     let e1:(!".").length=1:=rfl;let zl: ~~~zs<=j:=by
      let:=congrArg List.length aU;rw[Z6,Z6,Ym]at this
      lia
     let tl:=lO d;show%[tyL (JP.of ac),_,JP.of (s8 _ _ bm),_,a6,_,ρ,bH ⋯,_,_,ρ,b3,_,ρ,bH (by rw[ea,show(sgn (sg (there d)[j] r)).length=1 from rfl];lia),#[2]|λp hp=>?_];rw[AV];let s9:=ah.JO (o:= .tup [V.str (dP nm (sg (there d)[j] r)),V.int (there d)[j]]) hp;let g9:JO H8 p (.tup [V.str (dP nm (sg (there d)[j] r)),V.int (there d)[j]]) p=_:=ae
     generalize JO H8 p (.tup [V.str (dP nm (sg (there d)[j] r)),V.int (there d)[j]])=H9 at s9 g9
     let c5:=s9 _ _ ac;let c7:=fO (ys:=(ys++zs)\0 ++[V.ref p]) c5;show%[_,c5,by rw[Z6,Z9];exact aH ⋯|k9 _ _ %[_,ρ,ah.set (s8.trans s9) (s1.free a0),by rw[au bt];exact s9 _ _ aR,by rw[au dV];exact s9 _ _ bb,(b6.up s9).keep c7,zs++[(p,dP nm (sg (there d)[j] r),(there d)[j])],?_,?_|?_]]
     .rw[ae,<-Ze,Zd (l₂:=[(p,dP nm (sg (there d)[j] r),(there d)[j])])];rfl
     .rw[<-Ze];exact((b7.up s9).snoc %[g9,c4.1|c4.2.1]).keep c7
     .rw[Zd,aU,Xc,Z4 hj,Zd];rfl
    .intro L H8 %[o8,rfl,s8,aR,bb,b6,zs,ac,b7|aU];rw[Z6,Zn (Zi _)]at aU;show k8 _ _ %[_,_,_,_,_,_,rfl,s8,ds++[(I,%[nm,d,l,r|m])],ys++zs,by rw[Z9,bI];rfl,aR,ac,b7,?_,b6,λp hp=>?_|?_]
     .rw[Zd,O,aU,flatMap_append]
      congr 1
      rw[List.flatMap_singleton];rfl
     .rcases Xo hp with z|z
      .exact a2 p z
      .rw[Xp z];exact a7
     .rw[Zd,b1,Xc,ch];rfl
   lk;exact bv (λ_=>%[_,keep _ M,_,g0,c0,rfl,%[!1|!1],!1|as _]) λ_=>as _
  .intro L H3 %[o3,o4,o5,o6,o7,o8,rfl,s3,ds,ys,bI,y,C,a1,O,b0,a2|b1];show k3 _ _ (ak λD4 k4 _=>?_);lk;show%[_,keep _ s3,_,g0,c0,ρ,%[!1|!1],!1|k4 _ _ (ak λD5 k5 _=>?_)];let m0:0<=c0/12%31:=by lia
   let d1:c0/12%31<=30:=by lia
   generalize c0/12%31=bc at m0 d1
   let d2:1<= ~~~ds:=by lia
   let d3: ~~~ds<=4:=by lia
   let ab: ~~~ys<=32/\1<= ~~~ys:=by
    let e:=congrArg List.length O;rw[Z6,List.length_flatMap]at e;let:=tE (f:=λp:Addr×Drn=> ~~~(gG p.2)) (B:=8) (xs:=ds) λp _=>by
     unfold gG;rw[Z6];exact lO _
    show%[⋯|pos_of_ne_zero λz=>?_];let d4:ys=[]:=length_eq_zero_iff.mp z;rw[d4]at O;let da:0< ~~~ds:=by lia
    let hq:=a2 ds[0] (Yc da);let d7:=Db hq.2.1 hq.2.2.2.1 hq.2.2.2.2.2;let%[a'|eb]:=Zy _ d7;let:(dP ds[0].2.name (sg a' ds[0].2.sh),a')∈ds.flatMap λp=>gG p.2:=mem_flatMap.mpr %[ds[0],Yc da|Xr %[a',eb|rfl]]
    rw[<-O]at this;cases this
   let G:(ys.map λp=>p.2.1)=ds.flatMap λp=>(gG p.2)\1:=by
    let e:=congrArg (List.map (·.1)) O;rw[Yt,List.map_flatMap]at e;exact e
   show aF λaq hK=>?_
   lk;show%[⋯,⋯|hK _ _ λL2 Y=>?_];let ec:L2≠v:=λe=>by rw[e,y]at Y;cases Y
   let ex:L2≠L3:=λe=>by rw[e,C]at Y;cases Y
   let ed:=ah.JO (o:= .lst []) Y;show cZ (J:=Itr 0 bc.toNat) (n:=bc.toNat) (D:=L2) (λi zs L g=>(∃o,L=[o,!L3,some (.bl u),!a])/\ah H3 g/\g L2<*zs/\∃qs:ZN,zs=(qs\0)/\ ~~~qs=i/\cE g (ys.map λp=>p.2.1) qs)
    %[%[none|rfl],ed,ae,[],rfl,rfl|λq hq=>(nomatch hq)] (λi _ _ g hi _=>hi) (λ_ _ g _=>Zi _) ?_ ?_
   .intro i zs L H4 eg %[%[o|rfl],M,ag,qs,rfl,dd|a5] x ey %[e2|e3];subst e2 e3;let%[x1,eh,ei|ez]:=get (26+2*(i:Int)) ⋯ ⋯;let%[x2,ej,ek|eH]:=get (27+2*(i:Int)) ⋯ ⋯;lk;show%[.inl %[!1|!1],_,keep _ (s3.trans M),_,eh,.inl %[!1|!1],_,keep _ (s3.trans M),_,ej|?_];show%[x1,x2,L3,u,ys,ρ,M _ _ C,a1.up M,ab.2,⋯,ei,ek|λt H5 el U f5 h5 en=>?_];let ai:=U _ _ ag;let de:=fO (ys:=qs\0 ++[V.ref t]) ai;show CK.mk eg ai (by rw[Z6];exact aH ⋯) %[%[_|rfl],ah.set (M.trans U) Y,ae,qs++[(t,el)],by rw[Zd];rfl,by rw[Z9,dd];rfl|λq hq=>?_];rcases Xo hq with z|z
    .exact(((a5.up U).keep de) q z)
    .rw[Xp z];exact%[de _ _ h5|en]
   .intro zs L H4 %[_,M,ag,qs,rfl,dd|a5];show k5 _ _ ?_;lk;show aF λaq hK=>?_
    lk;let bf:=M _ _ C;show%[%[_|JP.of bf]|hK _ _ λN hN=>?_];show cJ (λj ts L g=>(∃o1 o2,L=[o1,o2])/\ah H4 g/\g N<*ts/\ts=((ys.take j).map λp=>p.2.1)\3)
     %[%[none,none|rfl],ah.JO hN,ae|rfl] (λ_ _ _ g eo=>eo.2.1 _ _ bf) ?_ ?_
    .intro j ts L H6 hj %[%[o1,o2|rfl],U,ep|ht];let eq:=(a1 ys[j] (Yc hj)).1;show%[_,SqT.of (U _ _ (M _ _ eq)),ρ,_,_,ρ,_,_,ρ,ρ|?_];change BG [some (.str ys[j].2.1),some (.int ys[j].2.2)] _ _;lk;show CK.mk hj ep (by rw[ht,Z6,Z6,Ym];exact aH ⋯) %[%[_,_|rfl],ah.set U hN,ae|?_];rw[ht,Xc,Zd,Zd,Z4 hj];rfl
    intro ts L H5 %[_,U,er|ht];rw[Zn (Zi _),G]at ht;show%[#[3]|λt dg=>?_];let st:=ah.JO (o:= .tup [V.ref v,V.ref L2,V.ref N]) dg;let dk:=s3.trans (M.trans (U.trans st));rw[G]at a5;let bl:=M _ _ y;show kk t v L2 N _ ds qs (sn.trans dk) (sn.free ((s3.trans (M.trans U)).free dg)) (sn.free an) (sn.free (s3.free Y)) (sn.free ((s3.trans M).free hN)) (Ne.symm ec) (λe=>by rw[<-e,bl]at hN;cases hN) (λe=>by rw[<-e,ag]at hN;cases hN) ae (st _ _ (U _ _ bl)) (st _ _ (U _ _ ag)) (by rw[st _ _ er,ht]) d2 d3 a2 ?_ (b0.up (M.trans (U.trans st))) (a5.up (U.trans st)) ⋯ (by rw[<-G,Z6];exact%[ab.2|ab.1]);rw[b1];exact al.2.1.sublist (List.take_sublist _ _)
abbrev NmD(ls:ZB)(f:Str->Str):List (Key×V):=ls.map λz=>(Sum.inr z,V.str (f z))
def jc:∀{ls:ZB},z∈ls->cF (NmD ls f) (Sum.inr z)∣.str (f z)
 |[],h=>(nomatch h)
 | x::ls,h=>by
   by_cases e:x=z
   .subst e;exact ee rfl
   .rw[show NmD _ f=(Sum.inr x,V.str _)::NmD ls f from rfl,dc (λq=>e (Sum.inr.inj q))];exact jc (by rcases mem_cons.mp h with q|q;exact(e q.symm).elim;exact q)
def Dp:((NmD ls f).any λa=>decide (a.1=(Sum.inr z:Key)))=true↔z∈ls:=by
 rw[any_eq_true]
 constructor
 .rintro⟨a,b,c⟩;let%[x,d|rfl]:=Xq b
  simp_all
 .intro h;exact%[_,Xr %[z,h|ρ]|Zf rfl]
def ur(h:z∈ls):cR (NmD ls f) (Sum.inr z) (.str v)=NmD ls (λx=>if x=z then v else f x):=by
 unfold cR;rw[if_pos (Dp.mpr h)];unfold NmD;rw[Yt];show Yq λx _=>?_
 change(if(Sum.inr x)=Sum.inr z then((Sum.inr x),V.str v)else(Sum.inr x,V.str _))=(Sum.inr x,V.str (if x=z then v else f x))
 by_cases e:x=z
 .rw[if_pos (congrArg _ e),if_pos e]
 .rw[if_neg (λq=>e (Sum.inr.inj q)),if_neg e]
def Ia(h:z∉ls):cR (NmD ls id) (Sum.inr z) (.str z)=NmD (ls++[z]) id:=by
 unfold cR;rw[if_neg (λq=>h (Dp.mp q))];unfold NmD;rw[Zd];rfl
abbrev wg(ls:ZB)(z:Str):Nat:=ls.countP λu=>aP u z
def pH(b:x∈ls)(h:aP x y=true):wg ls x<wg ls y:=by
 unfold wg
 induction ls with
 | nil=>cases b
 | cons u l c=>
   let d:l.countP (λu=>aP u x)<=l.countP λu=>aP u y:=List.countP_mono_left λu _ a=>dE a h
   rw[countP_cons,countP_cons];rcases mem_cons.mp b with rfl|e
   .rw[if_neg (by rw[c8];simp),if_pos h]
    lia
   .let:=c e;by_cases a:aP u x=true
    .rw[if_pos a,if_pos (dE a h)]
     lia
    .rw[if_neg a]
     split<;> lia
abbrev bu(qs:ZN)(a b:Str):Prop:=∃q∈qs,q.2=[.str "same",.str a,.str b]
def jr{S R:Str->Str->Prop}(F:bR ls f r S)(h:∀a b,S a b↔R a b):bR ls f r R:=by
 rw[funext λa=>funext λb=>(propext (h a b)).symm];exact F
inductive Dq
 | mk (d z ls f r S):vs=[.ref d,.str z]->H d∣.dK (NmD ls f)->bR ls f r S->z∈ls->Q (.str (r z)) H->Dq vs H Q E0
inductive zf
 | mk (d a b ls f r S):vs=[.ref d,.str a,.str b]->H d∣.dK (NmD ls f)->bR ls f r S->a∈ls->b∈ls-> ~~~ls<=5000->(∀f' r',bR ls f' r' (λx y=>S x y\/(x=a/\y=b))->Q .non (JO H d (.dK (NmD ls f'))))->zf vs H Q E0
def fz(T:Txt K mg):↥1 "least_pointed_to" ["names","layer"] Dq:=by
 .exists T.aD,eI,n,g,%[d,z,ls,p,r,S,rfl,o,F,q|i];show%[_,%["JD~MKvq011EG1q01EI1",eI.nd|g]|ak λu k1 _=>⟨λm j e=>∃y,j=[some _,-y]/\e=H/\y∈ls/\r y=r z/\m=wg ls y,%[_,z,ρ,ρ,q,ρ|ρ],?_⟩]
  intro m j e %[y,rfl,rfl,a,b|rfl];lk;let g1:=by
   let:=dM.k (k:=Sum.inr y) o;rw[jc a]at this;exact this
  show%[_,g1,ρ|bv (λh=>?_) λh=>?_]
  .let h:=↑h
   show%[λc l=>c=[some _,some _]/\l=e,?_,_,g1,ρ|ρ];intro c l %[rfl|rfl];exact%[_,pH (F.fin y a) (F.dec y a h),p y,ρ,ρ,F.fin y a,(F.rf y a).trans b|ρ]
  .show k1 _ _ ?_;rw[<-b,F.fix y a ↑h]at i;exact i
def nq(T:Txt K mg):↥2 "join_deposits" ["names","one","other"] zf:=by
 .exists T.aC,dW,l,c,%[d,a,b,ls,p,r,S,rfl,e,F,g,i,m|n];show%[_,%["JDG3H~*A0A1BDG4H~*A0A2BE<~O~+A3A4B0~a]jA3A4B",dW.nd|c]|?_]
  change bn _ _ _ [!d,-a,-b,none,none] H;show ak λq k1 _=>?_
  lk;show%[d,a,ls,p,r,S,ρ,e,F,g|k1 _ _ (ak λu k2 _=>?_)];lk;show%[d,b,ls,p,r,S,ρ,e,F,i|k2 _ _ (aB λv o _=>?_)];lk;let J:=F.join g i rfl rfl;let j:(if aP (r a) (r b)=true then r b else r a)∈ls:=by
   split
   .exact F.rin b i
   .exact F.rin a g
  generalize (if aP (r a) (r b)=true then r b else r a)=M at J j
  show%[_,iH.k (k:=Sum.inr M) e (by unfold NmD;rw[Z6,PySem.sizeLine_eq];lia)|o _ _ ?_];rw[ur j];exact n _ _ J
def pI{qs:ZN}{q:Addr×ZM}(c:qs[i]?∣q)(a b:Str):bu (qs.take (i+1)) a b↔bu (qs.take i) a b\/q.2=[.str "same",.str a,.str b]:=by
 unfold bu;rw[Xc,c]
 simp_all
def ip{ls:ZB}(c:ls.Pairwise (λa b=>aP b a=false)){i:Nat}{z w:Str}(d:ls[i]?∣z)(hw:w∈ls)(h:aP w z=true):w∈ls.take i:=by
 rw[<-Xd i ls]at hw;rcases Xo hw with e|e
 .exact e
 .let%[hi|f]:=Xn d;let%[j,g|rfl]:=List.getElem_of_mem e;rw[List.getElem_drop]at h;rw[Yh]at g;by_cases l:j=0
  .subst l;rw[<-f]at h;simp only[add_zero]at h;rw[c8]at h;cases h
  .let:=List.pairwise_iff_getElem.mp c i (i+j) hi ⋯ ⋯
   grind
inductive wj (mg:ZC)
 | mk (g c2 c3 c4 qs ls ts):vs=[.ref g]->GrF mg H g c2 c3 c4 qs ls ts->ls.Nodup->ls.Pairwise (λa b=>aP b a=false)-> ~~~ls<=5000->(∀d H' r,ah H H'->H d=none->H' d∣.dK (NmD ls r)->(∀z∈ls,r z∈ls/\ci (bu qs) z (r z))->Q (.ref d) H')->wj mg vs H Q E0
def pJ{H:Hp}{g b c d:Addr}{qs:List _}{ls:ZB}{ts:List _}{m:Str}{R:Prop}(h:GrF mg H g b c d qs ls ts)(e:m="layers"\/m="sayings"\/m="ties")(k:R):∃a fs,H g∣.ins (aL mg "Ground") a fs/\List.lookup m fs=none/\R:=by
 let%[a,i|f]:=h.at_;exact⟨a,_,f,by rcases e with rfl|rfl|rfl<;> rfl,k⟩
def gH(T:Txt K mg):↥3 "names_by_layer" ["ground"] (wj mg):=by
 .exists T.aB,bp,aq,J,%[g,c2,c3,c4,qs,ls,ts,rfl,hg,nd,so,an|kk];let lm: ~~~(ls\3)= ~~~ls:=Z6 _;let qm: ~~~(qs\0)= ~~~qs:=Z6 _;show%[_,%["JDG1}DVT~N~i0L2E<212DVT~N]k0gPL3PL4PL5hEQKe3bEYH]lA1A4A5BRDVT~N~i0L2E<q1q1212EI1",bp.nd|J]|?_]
  change bn _ _ _ [!g,none,none,none,none,none] H;show ak λD1 k1 _=>?_
  lk;intro d hd;show k1 _ _ (ak λD2 k2 _=>ay λL hK=>?_);let s1:=ah.JO (o:= .dK []) hd;let U:JO H d (.dK []) d∣.dK (NmD (ls.take 0) id):=ae
  generalize JO H d (.dK [])=H1 at s1 U
  lk;let aa:=hg.up s1;show pJ aa (.inl rfl) %[g,c2,c3,c4,qs,ls,ts,rfl,aa|λY M=>%[Y,rfl,%[_|JP.of ae]|hK _ _ ?_]];let s2:=ah.JO (o:= .lst (ls\3)) M;let ab:JO H1 Y (.lst (ls\3)) Y=_:=ae;let n1:Y≠d:=λe=>by rw[e,U]at M;cases M
  let U:=s2 _ _ U
  generalize JO H1 Y (.lst (ls\3))=H2 at s2 ab U
  show cu (λi m j=>(∃n p u v,m=[!g,!d,n,p,u,v])/\ah H j/\j Y<*ls\3/\j d∣.dK (NmD (ls.take i) id))
   %[%[_,_,_,_|rfl],s1.trans s2,ab|U] (λi m j h=>h.2.2.1) ?_ ?_
  .intro i z m j B %[%[n,p,u,v|rfl],l,I|c];change qQ _ _ _ _ [!g,!d,-z,p,u,v] j;show aB λD3 k3 _=>?_
   lk;let zn:z∉ls.take i:=λhm=>by
    let h:=nd;rw[<-Xd i ls,X3]at h;exact h.2.2 z hm z (Z8 (i:=0) ((Yb)▸B)) rfl
   show%[_,iH.k (k:=Sum.inr z) c (by unfold NmD;rw[Z6,Ym,PySem.sizeLine_eq];lia)|k3 _ _ %[%[_,_,_,_|ρ],ah.set l hd,(au n1).trans I|?_]];rw[ae,Ia zn,Xc,B];rfl
  intro m H3 %[%[n,p,u,v|rfl],l,I|c];rw[Zn (Zi _)]at c;show k2 _ _ (ak λD4 k4 _=>ay λL hK=>?_);lk;let ac:=hg.up l;show pJ ac (.inr (.inl rfl)) %[g,c2,c3,c4,qs,ls,ts,rfl,ac|λl2 N=>%[l2,rfl,%[_|JP.of ae]|hK _ _ ?_]];let s4:=ah.JO (o:= .lst (qs\0)) N;let ag:JO H3 l2 (.lst (qs\0)) l2=_:=ae;let n2:l2≠d:=λe=>by rw[e,c]at N;cases N
  let c:=s4 _ _ c;let ai:=l.trans s4
  generalize JO H3 l2 (.lst (qs\0))=H4 at s4 ag c ai
  show cu (λi m j=>(∃n p u v,m=[!g,!d,n,p,u,v])/\ah H j/\j l2∣.lst (qs\0)/\∃f r,j d∣.dK (NmD ls f)/\bR ls f r (bu (qs.take i)))
   %[%[_,_,_,_|rfl],ai,ag,id,id,c|jr (bR.start ls) λa b=>%[λh=>h.elim|λ⟨q,hq,_⟩=>(nomatch hq)]] (λi m j h=>h.2.2.1) ?_ ?_
  .intro i q m j hq %[%[n,p,u,v|rfl],l,I,f,r,c|F];let%[q1|q2]:=hg.sa q (Z8 hq);let st:=l _ _ q1;let C:=pI hq;rcases q2 with⟨wd,a,b,e,hw,ha,hb,_⟩|⟨wd,a,y,e,hw,_⟩
   .rw[e]at st C;show%[_,SqT.of st,ρ,_,_,ρ,_,_,ρ,_,_,ρ,ρ|?_];change iM _ _ _ _ [!g,!d,n,-wd,-a,-b] j;show aB λD5 k5 _=>?_
    lk;show bv (λh=>?_) λh=>?_
    .let h:wd=Str.ofString "same":=↑h
     show%[d,a,b,ls,f,r,_,ρ,c,F,ha,hb,an|λf' r' F'=>k5 _ _ %[%[_,_,_,_|ρ],ah.set l hd,(au n2).trans I,f',r',ae|jr F' λx y=>?_]];rw[C,h];show or_congr Iff.rfl %[λ⟨e1,e2⟩=>by rw[e1,e2]|λe=>?_];simp only[List.cons.injEq,V.str.injEq,and_true,true_and]at e;exact%[e.1.symm|e.2.symm]
    .let h:wd≠Str.ofString "same":=↑h
     show k5 _ _ %[%[_,_,_,_|rfl],l,I,f,r,c|jr F λx y=>?_];rw[C];show%[.inl|λe=>e.resolve_right λe=>h ?_];simp only[List.cons.injEq,V.str.injEq]at e;exact e.1
   .rw[e]at st C;show%[_,SqT.of st,ρ,_,_,ρ,_,_,ρ,_,_,ρ,ρ|?_];change iM _ _ _ _ [!g,!d,n,-wd,-a,some (.int y)] j;show aB λD5 k5 _=>?_
    lk;rw[if_neg (by rcases hw with rfl|rfl<;> decide)];show k5 _ _ %[%[_,_,_,_|rfl],l,I,f,r,c|jr F λx z=>?_];rw[C];show%[.inl|λe=>e.resolve_right λe=>?_];simp at e
  intro m H5 %[%[n,p,u,v|rfl],l,I,f,r,c|F];rw[Zn (Zi _)]at F;show k4 _ _ (ak λD6 k6 _=>ay λL hK=>?_);lk;let al:=hg.up l;show pJ al (.inl rfl) %[g,c2,c3,c4,qs,ls,ts,rfl,al|λl3 O=>%[l3,rfl,%[_|JP.of ae]|hK _ _ ?_]];let s6:=ah.JO (o:= .lst (ls\3)) O;let n3:l3≠d:=λe=>by rw[e,c]at O;cases O
  let c:=s6 _ _ c;show cu (λi m j=>(∃n p u v,m=[!g,!d,n,p,u,v])/\ah H j/\j l3<*ls\3/\∃f,j d∣.dK (NmD ls f)/\bR ls f r (bu qs)/\∀z∈ls.take i,f z=r z)
   %[%[_,_,_,_|rfl],(l.trans s6),ae,f,c,F|λz B=>(nomatch B)] (λi m j h=>h.2.2.1) ?_ ?_
  .intro i z m j B %[%[n,p,u,v|rfl],l,I,f,c,F|G];let zm:=Z8 B;change qQ _ _ _ _ [!g,!d,-z,p,u,v] j;show aB λD7 k7 _=>?_
   lk;let get:=λy hy=>by
    let:=dM.k (k:=Sum.inr y) c;rw[jc hy]at this;exact this
   show%[_,get z zm,_,get _ (F.fin z zm),_,iH.k (k:=Sum.inr z) c (by unfold NmD;rw[Z6,PySem.sizeLine_eq];lia)|k7 _ _ %[%[_,_,_,_|ρ],ah.set l hd,(au n3).trans I,_,?_,F.short zm|λy hy=>?_]]
   .rw[ae,ur zm]
   .rw[Xc,B]at hy;by_cases e:y=z
    .rw[if_pos e,e];exact F.done zm λw hw h=>G w (ip so B hw h)
    .rw[if_neg e];rcases Xo hy with h|h
     .exact G y h
     .exact(e (Xp h)).elim
  intro m H7 %[%[n,p,u,v|rfl],l,I,f,c,F|G];rw[Zn (Zi _)]at G;show k6 _ _ ?_;lk;show kk d H7 r l hd ?_ λz B=>%[F.rin z B|F.least B]
  rw[c];unfold NmD;rw[Yq λz B=>by rw[G z B]]
def JI{X:Cx}{K:ZA}{T id:String}(h:X.K=K)(m:PlainAttrs T)(slot:Slot T name id)(i:typeOf (.builtin id)=pure (.type "method_descriptor"))(n:MtQ X id r)
 (b:attributeBase o name X.env (eval o X.env)=eval o X.env) (a:(e::g).any ba=false) (j:Nat.blt (e::g).length 30=true) (c:(d.endLine==f.line)=true) (p:QE X o q) (s:QA X (e::g) t):
 QE X (.Call (.Attribute o name d) (e::g) [] f) (tBM K T r q t):=by
 let l:=a;rw[Zw,X9]at l;show⟨BN h m slot i n.h p.h s.h b ?_ c (az l.1) (dI l.2)⟩;rw[sX a];let:decide (~~~(e::g)+ ~~~([]:List Keyword)+(if([]:List Keyword).isEmpty then 0 else 1)<30)=true:=Zf ((Nat.blt_eq.mp j));rw[this];rfl
abbrev grp(r:Str->Str)(xs:ZB):List (Str×ZB):=(xs.filter λz=>decide (r z=z)).map λz=>(z,xs.filter λx=>decide (r x=z))
def AW(h:∀z∈xs,r z=b z):grp r xs=grp b xs:=by
 unfold grp;rw[List.filter_congr λz a=>by rw[h z a]];show Yq λz a=>?_
 rw[List.filter_congr λx c=>by rw[h x c]]
def Fr(a:r z=z)(b:z∉xs)(c:∀x∈xs,r x∈xs):grp r (xs++[z])=grp r xs++[(z,[z])]:=by
 unfold grp;rw[Y2,Zd];show congr (congrArg _ (Yq λw hw=>?_)) ?_
 .let:w≠z:=λe=>b (e▸(List.mem_filter.mp hw).1)
  rw[Y2,Y3 (by rw[a];simpa using this.symm),Y6,Zx]
 .rw[Y4 (by rw[a];simp),Y6];change [(z,_)]=_;rw[Y2,Y4 (by rw[a];simp),Y6,List.filter_eq_nil_iff.mpr λx d=>?_]
  .rfl
  .intro e;exact b ((Zo e)▸c x d)
def Fs(a:r z≠z):grp r (xs++[z])=(grp r xs).map λp=>if p.1=r z then(p.1,p.2++[z])else p:=by
 unfold grp;rw[Y2,Y3 ↑a,Y6,Zx,Yt];show Yq λw hw=>?_
 change(w,_)=if w=r z then(w,_)else(w,_)
 rw[Y2];by_cases e:w=r z
 .rw[if_pos e,Y4 (by simpa using e.symm),Y6]
 .rw[if_neg e,Y3 (by simpa using λq=>e q.symm),Y6,Zx]
def jt:y∈(grp r xs)\1↔y∈xs/\r y=y:=by
 unfold grp
 simp_all
def l8(h:xs.Nodup):((grp r xs)\1).Nodup:=by
 unfold grp;rw[Yt,show((λx=>x.1) ∘ λz=>(z,List.filter _ xs))=id from rfl,List.map_id];exact h.filter _
abbrev zg(S:Str->Str->Prop)(ls:ZB)(ds:List ZB):Prop:=∃r:Str->Str,(∀z∈ls,r z∈ls/\ci S z (r z))/\ds=(grp r ls)\2
def zg.one{S:Str->Str->Prop}(h:zg S ls ds)(g:zg S ls b):ds=b:=by
 let%[r,c|rfl]:=h;let%[d,g1|rfl]:=g;rw[AW λz a=>(c z a).2.one (g1 z a).2]
noncomputable abbrev Gs(a:Type):=List (Str×Addr×List a)
abbrev gD{a:Type}(b:Gs a):List (Key×V):=b.map λg=>(Sum.inr g.1,V.ref g.2.1)
def zh:∀{a:Gs b},y∉a\1->cF (gD a) (Sum.inr y)=none
 |[],_=>rfl
 | g::a,h=>by
   rw[Yr,Yy,not_or]at h;rw[show gD _=(Sum.inr g.1,V.ref _)::gD a from rfl,dc (λq=>h.1 (Sum.inr.inj q).symm)];exact zh h.2
def iq:∀{a:Gs f},cF (gD a) (Sum.inr y)∣v->∃g∈a,g.1=y/\v= .ref g.2.1
 |[],h=>(nomatch h)
 | g::a,h=>by
   rw[show gD _=(Sum.inr g.1,V.ref _)::gD a from rfl]at h;by_cases e:g.1=y
   .rw[ee (congrArg Sum.inr e)]at h;exact%[g,Zm,e|(Za h).symm]
   .rw[dc (λq=>e (Sum.inr.inj q))]at h;let%[b,c|d]:=iq h;exact%[b,Zk _ c|d]
def l9:∀{a:Gs b},g∈a->cF (gD a) (Sum.inr g.1)≠none
 | x::a,h,c=>by
   rw[show gD _=(Sum.inr x.1,V.ref _)::gD a from rfl]at c;by_cases e:x.1=g.1
   .rw[ee (congrArg Sum.inr e)]at c;cases c
   .rw[dc (λq=>e (Sum.inr.inj q))]at c;rcases mem_cons.mp h with q|q
    .exact e (by rw[q])
    .exact l9 q c
abbrev nF(H:Hp)(a:ZG):Prop:=∀g∈a,H g.1<*g.2\3
def nF.up{H a:Hp}{b:List _}(h:nF H b)(s:ah H a):nF a b:=λg c=>s _ _ (h g c)
structure jd {α:Type} (f:α->V) (H0 H:Hp) (d:Addr) (gs:Gs α):Prop where
 at_:H d∣.dK (gD gs)
 la:∀g∈gs,H0 g.2.1=none/\H g.2.1<*g.2.2.map f
 nd:(gs.map (·.2.1)).Nodup
def Ft{f:Type}{c:Gs f}(d:(c\1).Nodup){g h:Str×Addr×List f}(i:g∈c)(j:h∈c)(e:g.1=h.1):g=h:=by
 induction c with
 | nil=>cases i
 | cons x xs l=>
   rw[Yr,nodup_cons]at d;rcases mem_cons.mp i with a|a<;> rcases mem_cons.mp j with b|b
   .rw[a,b]
   .exact(d.1 (by rw[<-a,e];exact Xr %[_,b|rfl])).elim
   .exact(d.1 (by rw[<-b,<-e];exact Xr %[_,a|rfl])).elim
   .exact l d.2 a b
def Dr{f:Type}{c:Gs f}(d:(c.map (·.2.1)).Nodup){g h:Str×Addr×List f}(i:g∈c)(j:h∈c)(e:g.2.1=h.2.1):g=h:=by
 induction c with
 | nil=>cases i
 | cons x xs l=>
   rw[Yr,nodup_cons]at d;rcases mem_cons.mp i with a|a<;> rcases mem_cons.mp j with b|b
   .rw[a,b]
   .exact(d.1 (by rw[<-a,e];exact Xr %[_,b|rfl])).elim
   .exact(d.1 (by rw[<-b,<-e];exact Xr %[_,a|rfl])).elim
   .exact l d.2 a b
abbrev qw{a:Type}(y:Str)(z:a)(b:Gs a):Gs a:=b.map λg=>if g.1=y then(g.1,g.2.1,g.2.2++[z])else g
def Ib(y:Str)(z:b)(a:Gs b):gD (qw y z a)=gD a:=by
 unfold qw gD;rw[Yt];show Yq λg _=>?_
 change(Sum.inr (if g.1=y then(g.1,g.2.1,g.2.2++[z])else g).1,V.ref (if g.1=y then(g.1,g.2.1,g.2.2++[z])else g).2.1)=_
 split<;> rfl
def Ic(y:Str)(z:b)(a:Gs b):(qw y z a).map (·.2.1)=a.map (·.2.1):=by
 unfold qw;rw[Yt];show Yq λg _=>?_
 change(if g.1=y then(g.1,g.2.1,g.2.2++[z])else g).2.1=_
 split<;> rfl
def Ie(y:Str)(z:b)(a:Gs b):(qw y z a).map (λg=>(g.1,g.2.2))=(a.map λg=>(g.1,g.2.2)).map λp=>if p.1=y then(p.1,p.2++[z])else p:=by
 unfold qw;rw[Yt,Yt];show Yq λg _=>?_
 change((if g.1=y then(g.1,g.2.1,g.2.2++[z])else g).1,(if g.1=y then(g.1,g.2.1,g.2.2++[z])else g).2.2)=if g.1=y then(g.1,g.2.2++[z])else(g.1,g.2.2)
 split<;> rfl
def jd.up{a:Type}{f:a->V}{b H c:Hp}{d:Addr}{e:Gs a}(h:jd f b H d e)(s:ah H c):jd f b c d e:=%[s _ _ h.at_,λg i=>%[(h.la g i).1|s _ _ (h.la g i).2]|h.nd]
def jd.add{a:Type}{f:a->V}{l H:Hp}{d:Addr}{b:Gs a}(h:jd f l H d b)(m:(b\1).Nodup){g:Str×Addr×List a}(c:g∈b)(z:a):jd f l (JO H g.2.1 (.lst (g.2.2.map f++[f z]))) d (qw g.1 z b):=by
 show%[?_,λo j=>?_|by rw[Ic];exact h.nd]
 .rw[Ib,au (λe=>by let:=(h.la g c).2;rw[<-e,h.at_]at this;cases this)];exact h.at_
 .let%[n,i|rfl]:=Xq j;by_cases e:n.1=g.1
  .rw[if_pos e];obtain rfl:=Ft m i c e;show%[(h.la _ c).1|?_];rw[ae,Zd];rfl
  .rw[if_neg e];show%[(h.la _ i).1|?_];rw[au (λq=>e (by rw[Dr h.nd i c q]))];exact(h.la _ i).2
def jd.new{l:Gs n}(h:jd f m H d l)(s:ah m H)(j:H e=none)(y:Str)(z:n)(o:y∉l\1):jd f m (JO (JO (JO H e (.lst [])) d (.dK (cR (gD l) (Sum.inr y) (.ref e)))) e (.lst [f z])) d (l++[(y,e,[z])]):=by
 show%[?_,λg i=>?_|?_]
 .rw[au (λq=>by rw[<-q,h.at_]at j;cases j),ae,j8 _ (zh o)];unfold gD;rw[Zd];rfl
 .rcases Xo i with i|i
  .show%[(h.la g i).1|?_];let q:=(h.la g i).2;rw[au (λc=>by rw[c,j]at q;cases q),au (λc=>by rw[c,h.at_]at q;cases q),au (λc=>by rw[c,j]at q;cases q)];exact q
  .rw[Xp i];exact%[s.free j|ae]
 .rw[Zd,X3];show%[h.nd,by simp|λa p b r c=>?_];let%[g,i|rfl]:=Xq p;let q:=(h.la g i).2
  simp_all
inductive zk (mg:ZC)
 | mk (g c2 c3 c4 qs ls ts):vs=[.ref g]->GrF mg H g c2 c3 c4 qs ls ts->ls.Nodup->ls.Pairwise (λa b=>aP b a=false)-> ~~~ls<=5000->(∀l H' ss,ah H H'->H l=none->H' l∣.lst (ss\0)->nF H' ss->(∀s∈ss,H s.1=none)->zg (bu qs) ls (ss\2)-> ~~~ss<=5000->Q (.ref l) H')->zk mg vs H Q E0
inductive Ig (mg:ZC)
 | mk (g c2 c3 c4 qs ls ts z):vs=[.ref g,.str z]->GrF mg H g c2 c3 c4 qs ls ts->ls.Nodup->ls.Pairwise (λa b=>aP b a=false)-> ~~~ls<=5000->z∈ls->(∀H' m,ah H H'->ci (bu qs) z m->Q (.str m) H')->Ig mg vs H Q E0
def yi(T:Txt K mg):↥4 "deposits" ["ground"] (zk mg):=by
 .exists T.aE,fK,a3,C,%[g,c2,c3,c4,qs,ls,ts,rfl,hg,nd,so,al|kk];let lm: ~~~(ls\3)= ~~~ls:=Z6 _;show%[_,%["JDG1H~,A0BDG2}DVT~N~i0L3EY~.r~/~:2Aq13ANBBA3BEI^]mA]n]o2B",fK.nd|C]|?_]
  change bn _ _ _ [!g,none,none,none] H;show ak λD1 k1 _=>?_
  lk;show%[g,c2,c3,c4,qs,ls,ts,ρ,hg,nd,so,al|λd H1 r s1 fd I C=>k1 _ _ (ak λD2 k2 _=>?_)];lk;intro e fe;show k2 _ _ (ak λD3 k3 _=>ay λa2 hK=>?_);let an:d≠e:=λc=>by rw[c,fe]at I;cases I
  let s2:=ah.JO (o:= .dK []) fe;let ge:JO H1 e (.dK []) e∣.dK (gD ([]:Gs Str)):=ae;let I:=s2 _ _ I;let fe:=s1.free fe;let U:=s1.trans s2
  generalize JO H1 e (.dK [])=H2 at s2 ge I U
  lk;let aa:=hg.up U;show pJ aa (.inl rfl) %[g,c2,c3,c4,qs,ls,ts,rfl,aa|λl1 aq=>%[l1,rfl,%[_|JP.of ae]|hK _ _ ?_]];let s3:=ah.JO (o:= .lst (ls\3)) aq;let J:JO H2 l1 (.lst (ls\3)) l1=_:=ae;let I:=s3 _ _ I;let ge:=s3 _ _ ge;let ab:=U.trans s3
  generalize JO H2 l1 (.lst (ls\3))=H3 at s3 J I ge ab
  let r2:∀z∈ls,r (r z)=r z:=λz L=>by
   let h:=(C z L)
   let h2:=(C _ h.1).2;exact h2.one %[.refl _|λy c=>h.2.2 y (h.2.1.trans c)]
  let ac:∀z∈ls,r z≠z->aP (r z) z=true:=λz L h=>c9 ((C z L).2.2 z (.refl _)) h.symm
  obtain⟨M,as,aR,aU,Y,s0⟩:∃M:Hp,M e=none/\M d∣.dK (NmD ls r)/\M l1<*ls\3/\ah H M/\ah M H3:=by
   show%[λa=>if a=e then none else H3 a,if_pos rfl,?_,?_,λa o h=>?_|λa o h=>?_]
   .exact(if_neg (λc=>an c)).trans I
   .exact(if_neg (λc=>by rw[c,ge]at J;cases J)).trans J
   .exact(if_neg (λc=>by rw[c,fe]at h;cases h)).trans (ab _ _ h)
   .let h:(if a=e then none else H3 a)∣o:=h
    split at h
    .cases h
    .exact h
  show cu (λi σ H'=>(∃o3,σ=[!g,!d,!e,o3])/\ah M H'/\∃u,jd V.str M H' e u/\u.map (λg=>(g.1,g.2.2))=grp r (ls.take i))
   %[%[_|rfl],s0,[],%[ge,λg hg=>(nomatch hg)|X6]|rfl] (λi σ H' h=>h.2.1 _ _ aU) ?_ ?_
  .intro i z σ H' L %[%[o3|rfl],N,u,b|n];let zm:=Z8 L;let i1:i< ~~~ls:=(Xn L).1;change jB _ _ [!g,!d,!e,-z] H';show aB λD4 k4 _=>?_
   lk;let get:=dM.k (k:=Sum.inr z) (N _ _ aR);rw[jc zm]at get;let gk:u\1=(grp r (ls.take i))\1:=by rw[<-n,Yt];rfl
   let ag:(u\1).Nodup:=by rw[gk];exact l8 (nd.sublist (List.take_sublist _ _))
   let gl: ~~~u<= ~~~ls:=by
    let:=_ST.nodup_sub ag (m:=ls) λy hy=>by rw[gk,jt]at hy;exact Yz hy.1
    rw[Z6]at this;exact this
   let zn:z∉ls.take i:=λhm=>by
    let h:=nd;rw[<-Xd i ls,X3]at h;exact h.2.2 z hm z (Z8 (i:=0) (by rw[Yb];exact L)) rfl
   let tk:ls.take (i+1)=ls.take i++[z]:=by rw[Xc,L];rfl
   show%[tyD (b.at_),_,get,#[0]|λp O=>%[Sum.inr (r z),ρ,gD u,?_,?_,λv hv=>?_|λhv=>?_]]
   .rw[au (λc=>by rw[<-c,b.at_]at O;cases O)];exact b.at_
   .unfold gD;rw[Z6];exact aH ⋯
   .let%[q,B,e1|rfl]:=iq hv;let a0:q.1∈u\1:=Xr %[q,B|rfl];let ai:=a0;rw[gk,jt,e1]at ai;let rn:r z≠z:=λc=>zn (by exact c▸ai.1)
    let sp:=ah.JO (o:= .lst []) O;let hl:=sp _ _ (b.la q B).2;let G:=(b.up sp).add ag B z;let ml: ~~~q.2.2<= ~~~ls:=by
     let:(q.1,q.2.2)∈grp r (ls.take i):=n▸Xr %[q,B|rfl];let%[y,hy|c]:=Xq this;exact((Prod.mk.inj c).2)▸Nat.le_trans (Yi _ _) (by rw[Ym];lia)
    show%[tyL (JP.of hl),_,ρ,_,hl,by rw[Z6];exact aH ⋯|k4 _ _ %[%[_|ρ],ah.set (N.trans sp) (b.la q B).1,_,G|?_]];rw[Ie,n,tk,Fs rn,e1]
   .let nk:r z∉u\1:=λh=>by
     let%[q,B|c]:=Xq h;let:=l9 B;rw[c,hv]at this;exact this rfl
    let rz:r z=z:=Decidable.byContradiction λc=>nk (by rw[gk,jt];exact%[ip so L (C z zm).1 (ac z zm c)|r2 z zm])
    let de:e≠p:=λq=>by rw[<-q,b.at_]at O;cases O
    rw[rz]at hv nk ⊢;let gp:JO (JO H' p (.lst [])) e (.dK (cR (gD u) (Sum.inr z) (.ref p))) p<*[]:=by rw[au de.symm,ae]
    show%[tyL (JP.of gp),[],gp,(show 0<sizeLine by decide)|k4 _ _ %[%[_|ρ],ah.set (ah.set (N.trans (ah.JO O)) as) (N.free O),_,b.new N O z z nk|?_]];rw[Zd,n,tk,Fr rz zn λx hx=>?_]
    .rfl
    .let%[j|hj]:=List.mem_iff_getElem?.mp hx;let xm:=Yz hx;by_cases c:r x=x
     .rw[c];exact hx
     .let ji:j<i:=by let:=(Xn hj).1;rw[Ym]at this;lia
      rw[getElem?_take_of_lt ji]at hj;exact List.take_subset_take_left _ (Ye ji) (ip so hj (C x xm).1 (ac x xm c))
  intro σ H' %[%[o3|rfl],N,u,b|n];rw[Zn (Zi _)]at n;show k3 _ _ ?_;lk;let gk:u\1=(grp r ls)\1:=by rw[<-n,Yt];rfl
  let gl: ~~~u<= ~~~ls:=by
   let:=_ST.nodup_sub (l:=u\1) (gk▸l8 nd) (m:=ls) λy hy=>by rw[gk,jt]at hy;exact hy.1
   rw[Z6]at this;exact this
  show%[tyD (b.at_),%[_|b.at_]|λv fv=>%[e,ae,_,ah.JO fv _ _ b.at_|λl fl=>?_]];let sv:=ah.JO (o:=vC v e) fv;let sl:=ah.JO (o:= .lst ((gD u)\2)) fl;let a1:=N.trans (sv.trans sl);show kk l _ (u\2) (Y.trans a1) ((Y.trans (N.trans sv)).free fl) ?_ (λs hs=>?_) (λs hs=>?_) %[r,C|?_] (by rw[Z6];lia)
  .rw[ae];unfold gD;rw[Yt,Yt];rfl
  .let%[q,B|rfl]:=Xq hs;exact sl _ _ (sv _ _ (b.la q B).2)
  .let%[q,B|rfl]:=Xq hs;exact Y.free (b.la q B).1
  .rw[<-n,Yt,Yt];rfl
structure cm (S:Str->Str->Prop) (ks0 ks:List _):Prop where
 nd:ks.Nodup
 mem:∀k,k∈ks↔∃a b z a' b',[a,b,z]∈ks0/\ci S a a'/\ci S b b'/\k=[a',b',z]
def cm.mm{S:Str->Str->Prop}{a ks ms:List ZB}(h:cm S a ks)(g:cm S a ms)(k:ZB):k∈ks↔k∈ms:=(h.mem k).trans (g.mem k).symm
def ut{ks ms:List ZB}(e:∀k,k∈ks↔k∈ms):Ed ks=Ed ms:=by
 funext a b;simp only[Ed,e]
def pK{ks ms:List ZB}(e:∀k,k∈ks↔k∈ms):Dst ks=Dst ms:=by
 funext a n b;simp only[Dst,e]
def lh{ks ms:List ZB}(e:∀k,k∈ks↔k∈ms):Rch ks=Rch ms:=by
 funext a b;let q:∀{ks},Rch ks a b↔∃n,Dst ks a (n+1) b:=%[Rch.dst|λ⟨_,h⟩=>h.rch]
 rw[propext q,propext q,pK e]
abbrev dB(r:Str->Str):ZB->ZB
 |[a,b,z]=>[r a,r b,z]
 | k=>k
def pL{S:Str->Str->Prop}{c:List ZB}{ls:ZB}{r:Str->Str}(l:∀k∈c,dF ls k)(f:∀z∈ls,ci S z (r z))(k:ZB):k∈c.map (dB r)↔∃a b z g h,[a,b,z]∈c/\ci S a g/\ci S b h/\k=[g,h,z]:=by
 rw[mem_map]
 constructor
 .rintro⟨t,d,rfl⟩;let%[a,b,z,rfl,i|j]:=l t d;exact%[a,b,z,r a,r b,d,f a i,f b j|ρ]
 .rintro⟨a,b,z,g,h,d,m,n,rfl⟩;let%[x,y,u,e,i|j]:=l _ d;simp only[List.cons.injEq,and_true]at e;let%[rfl,rfl|rfl]:=e;exact%[_,d|by rw[<-(f a i).one m,<-(f b j).one n];rfl]
inductive wk (mg:ZC)
 | mk (g c2 c3 c4:Addr) (qs:ZN) (ls:ZB) (ts:ZG):vs=[.ref g]->GrF mg H g c2 c3 c4 qs ls ts->ls.Nodup->ls.Pairwise (λa b=>aP b a=false)-> ~~~ls<=5000-> ~~~ts<=150->(∀k∈ts\2,dF ls k)->(∀l H' ss,ah H H'->H l=none->H' l∣.lst (ss\0)->aM H' ss->cm (bu qs) (ts\2) (ss\2)-> ~~~ss<=150->Q (.ref l) H')->wk mg vs H Q E0
def zo(T:Txt K mg):↥4 "links" ["ground"] (wk mg):=by
 .exists T.aG,vT,aU,n,%[g,O,U,Y,qs,ls,ts,rfl,hg,nd,so,aa,a0,h3|kk];show%[_,%["JD,1jkH~,A0BEI&~%A_~&Amd?1T~N]p0gPX0?2PX1?2PX2?2hszAqO30AqO31A2BBB",vT.nd,↑(["later","earlier","source","names"],[(3,1)]),↑["later","earlier","source","names"]|n]|?_]
  change bn _ _ _ [!g,none] H;show ak λD1 k1 _=>?_
  lk;show%[g,O,U,Y,qs,ls,ts,ρ,hg,nd,so,aa|λd H1 r s1 fd hd n=>k1 _ _ ?_];lk;show aF λaR hK=>?_
  lk;let u:=hg.up s1;show pJ u (.inr (.inr rfl)) %[g,O,U,Y,qs,ls,ts,rfl,u|λJ ab=>%[J,rfl,%[_|JP.of ae]|hK _ _ λF hF=>?_]];let L:=ah.JO (o:= .lst (ts\0)) ab;let v:JO H1 J (.lst (ts\0)) J=_:=ae
  generalize JO H1 J (.lst (ts\0))=H2 at L v hF
  let ac:=L _ _ hd;let ag:=(u.up L).tu;show cJ (λj vs σ M=>(∃o1 o2 o3,σ=[o1,o2,o3,!d])/\ah H2 M/\M F<*vs/\∃ps:ZG,vs=ps\0/\aM M ps/\ps\2=((ts.take j)\2).map (dB r))
   %[%[none,none,none|rfl],ah.JO hF,ae,[],rfl,ja _|rfl] (λ_ _ _ M ai=>ai.2.1 _ _ v) ?_ ?_
  .intro j vs σ H4 hj %[%[o1,o2,o3|rfl],B,C,ps,N,i|c];let tj:=Yc hj;let%[a,b,z,e,ha|hb]:=h3 _ (Xr %[_,tj|rfl]);let st:=B _ _ (ag _ tj).2;rw[e]at st;let get:∀y∈ls,dM H4 d (.str y) (some (.str (r y))):=λy hy=>by
    let:=dM.k (k:=Sum.inr y) (B _ _ ac);rw[jc hy]at this;exact this
   show%[_,SqT.of st,ρ,_,_,ρ,_,_,ρ,_,_,ρ,ρ|?_];change BG [-a,-b,-z,!d] _ _;lk;show%[_,get a ha,_,get b hb,#[3]|λp hp=>?_];let sp:=ah.JO (o:= .tup [V.str (r a),V.str (r b),V.str z]) hp;let gp:JO H4 p (.tup [V.str (r a),V.str (r b),V.str z]) p=_:=ae
   generalize JO H4 p (.tup [V.str (r a),V.str (r b),V.str z])=H5 at sp gp ⊢
   let keep:=fO (ys:=vs++[V.ref p]) (sp _ _ C);let pl:=congrArg List.length c;rw[Z6,Z6,Z6,Ym]at pl;show CK.mk hj (sp _ _ C) (by rw[N,Z6];exact aH ⋯) %[%[_,_,_|rfl],ah.set (B.trans sp) hF,ae,ps++[(p,[r a,r b,z])],by rw[N,Zd];rfl,aT (jq (aT i λb z e=>sp _ _ e) ∅ gp) keep|?_];rw[Zd,c,Xc,Z4 hj,Zd,Zd];change _++[_]=_++[dB r ts[j].2];rw[e];rfl
  intro vs σ H3 %[_,B,al,ps,N,i|c];rw[Zn (Zi _)]at c;let pl:=congrArg List.length c;rw[Z6,Z6,Z6]at pl;let p3:∀q∈ps,~~~q.2=3:=λq l=>by
   let:q.2∈ps\2:=Xr %[q,l|rfl];rw[c]at this;let%[k,hk|e]:=Xq this;let%[a,b,z,rfl|_]:=h3 k hk;rw[<-e];rfl
  show%[F,ρ,ps,by rw[<-N];exact JP.of al,i,%[ps\2,by rw[Z6];lia|λq l=>Xr %[q,l|ρ]]|λl5 an=>?_];let s5:=ah.JO (o:=oH P w l5 (bB ps)) an;let aq: ~~~(bB ps)<=150:=by
   let:=_ST.nodup_sub (d5 ps) (m:=ps\2) λk hk=>by
    let%[q,l|rfl]:=Xq hk;exact Xr %[q,br ps q l|rfl]
   rw[Z6,Z6]at this
   lia
  show%[bB ps,ae,λq l=>%[(i q (br ps q l)).1|s5 _ _ (i q (br ps q l)).2],3,λq l=>p3 q (br ps q l),!1,⋯|λl6 ss G pm=>?_];let s6:=ah.JO (o:= .lst (ss\0)) G;let I:=s1.trans (L.trans (B.trans s5));let pk:(ss\2).Perm ((bB ps)\2):=pm.map _;show kk l6 _ ss (I.trans s6) (I.free G) ae (λq l=>?_) %[pk.nodup_iff.mpr (d5 ps)|λk=>?_] (by rw[pm.length_eq];exact aq)
  .let as:=pm.mem_iff.mp l;let:=i q (br ps q as);exact%[this.1|s6 _ _ (s5 _ _ this.2)]
  .rw[pk.mem_iff,gZ,c];exact pL h3 (λz hz=>(n z hz).2) k
def Dt{S:Str->Str->Prop}(c:ls.Pairwise (λa b=>aP b a=false))(h:∀z∈ls,r z∈ls/\ci S z (r z))(f:p∈grp r ls):p.2[0]?∣p.1:=by
 unfold grp at f;let%[z,i|rfl]:=Xq f;let%[j|l]:=List.mem_filter.mp i;let d:z∈ls.filter (λx=>decide (r x=z)):=List.mem_filter.mpr %[j|l];let c:=c.sublist (List.filter_sublist (p:=λx=>decide (r x=z)));let all:∀x∈ls.filter (λx=>decide (r x=z)),aP x z=false:=λx m=>by
  let%[n|o]:=List.mem_filter.mp m;rw[<-Zo o];exact(h x n).2.2 x (.refl _)
 change(ls.filter λx=>decide (r x=z))[0]?∣z
 generalize ls.filter (λx=>decide (r x=z))=g at all d c
 cases g with
 | nil=>cases d
 | cons y g=>
   rw[List.getElem?_cons_zero];rcases mem_cons.mp d with e|e
   .rw[e]
   .let a:=(pairwise_cons.mp c).1 z e;by_cases q:y=z
    .rw[q]
    .let:=c9 (all y Zm) q;rw[a]at this;cases this
structure wo (S:Str->Str->Prop) (ls ns:ZB):Prop where
 nd:ns.Nodup
 mem:∀x,x∈ns↔x∈ls/\ci S x x
 so:ns.Pairwise (λa b=>aP b a=false)
 ne:ls≠[]->ns≠[]
def Ih{S:Str->Str->Prop}{ls:ZB}{r:Str->Str}(b:∀z∈ls,r z∈ls/\ci S z (r z))(h:ls≠[]):(grp r ls)\1≠[]:=by
 let%[z|e]:=Zy _ h;let%[c|a]:=b z e;let f:ci S (r z) (r z):=%[a.1.symm.trans a.1|λy d=>a.2 y (a.1.trans d)]
 exact List.ne_nil_of_mem (jt.mpr %[c|(b _ c).2.one f])
def Ii{r:Str->Str}{xs:ZB}(h:xs.Pairwise (λa b=>aP b a=false)):((grp r xs)\1).Pairwise (λa b=>aP b a=false):=by
 unfold grp;rw[Yt];change List.Pairwise _ (List.map (λz=>z) _);rw[List.map_id'];exact h.filter _
inductive sw (mg:ZC)
 | mk (g c2 c3 c4 qs ls ts):vs=[.ref g]->GrF mg H g c2 c3 c4 qs ls ts->ls.Nodup->ls.Pairwise (λa b=>aP b a=false)-> ~~~ls<=5000->(∀l H' ns,ah H H'->H l=none->H' l<*ns\3->wo (bu qs) ls ns->Q (.ref l) H')->sw mg vs H Q E0
def cO(T:Txt K mg):↥5 "deposit_names" ["ground"] (sw mg):=by
 .exists T.aF,lQ,M,a,%[g,v,y,B,qs,ls,ts,rfl,N,nd,e,i|O];show%[_,%["JEImd?1TH]qA0BX0?2sM0C",0,↑(["group"],[]),↑["group"]|a]|?_];change jK _ _ [!g] H;lk;show aF λC U=>?_
  lk;show%[g,v,y,B,qs,ls,ts,ρ,N,nd,e,i|λY H1 ss G f1 I la _ ⟨r,a,J⟩ aa=>%[Y,ρ,%[_|JP.of I]|U _ _ λF l=>?_]];let sg: ~~~ss= ~~~(grp r ls):=by
   let:=congrArg List.length J;rwa[Z6,Z6]at this
  show cJ (λj vs m n=>(∃L,m=[L])/\ah H1 n/\n F<*vs/\vs=(((grp r ls).take j)\1)\3)
   %[%[none|rfl],ah.JO l,ae|rfl] (λ_ _ _ n o=>o.2.1 _ _ I) ?_ ?_
  .intro j vs m H4 p %[%[L|rfl],d,q|b];let u:j< ~~~(grp r ls):=by lia
   let e2:ss[j].2=(grp r ls)[j].2:=by
    let:=congrArg (λz=>z[j]?) J;simpa [p,u]using this
   lk;show%[_,JP.of (d _ _ (la _ (Yc p))),_,(show atI (ss[j].2\3) ((0:Nat):Int)∣_ from bK (by rw[Zl,e2,(Dt e a (Yc u))];rfl))|?_];show CK.mk p q (by rw[b,Z6,Z6,Ym];exact aH ⋯) %[%[_|rfl],ah.set d l,ae|?_];rw[b,Xc,Z4 u,Zd,Zd];rfl
  intro vs m H3 %[_,d,c|b];rw[Zn ⋯]at b;rw[b]at c;show O F H3 _ (G.trans d) (G.free l) c %[l8 nd,λx=>?_,Ii e|Ih a];rw[jt];show%[λh=>%[h.1|by let:=(a x h.1).2;rwa[h.2]at this]|λh=>%[h.1|(a x h.1).2.one h.2]]
abbrev GrB(H:Hp)(d:Addr)(ss:ZG)(i:Nat):Prop:=∃a,H d∣.dK a/\∀n,(∃l,cF a (Sum.inr n)∣.ref l/\H l∣.lst ((ss.filter λt=>decide (t.2[i]? =some n))\0))\/(cF a (Sum.inr n)=none/\∀t∈ss,t.2[i]? ≠some n)
def GrB.up(h:GrB H d ss i)(s:ah H e):GrB e d ss i:=by
 let%[c,f|g]:=h;exact%[c,s _ _ f|λn=>(g n).imp_left λ⟨l,a,b⟩=>%[l,a|s _ _ b]]
abbrev dG(H:Hp)(a:ZB)(ss:ZG):Prop:=∀t∈ss,H t.1&&&t.2\3/\dF a t.2
def dG.up(h:dG H b ss)(s:ah H c):dG c b ss:=λt a=>%[s _ _ (h t a).1|(h t a).2]
def Ij(h:dF c k)(hi:i<2):∃n,k[i]?∣n/\n∈c:=by
 let%[a,b,z,rfl,d|e]:=h
 match i,hi with
 | 0,_=>exact%[a,ρ|d]
 | 1,_=>exact%[b,ρ|e]
inductive pM
 | mk (l:Addr) (i:Nat) (ns:ZB) (ss:List _):vs=[.ref l,.int i]->i<2->H l∣.lst (ss\0)->dG H ns ss-> ~~~ss<=150->(∀d H',ah H H'->H d=none->GrB H' d ss i->Q (.ref d) H')->pM vs H Q E0
inductive Du (i:Nat)
 | mk (l ns ss):vs=[.ref l]->H l∣.lst (ss\0)->dG H ns ss-> ~~~ss<=150->(∀d H',ah H H'->H d=none->GrB H' d ss i->Q (.ref d) H')->Du i vs H Q E0
def sA(T:Txt K mg):↥1 "grouped" ["found","side"] pM:=by
 .exists T.aJ,jU,ac,hr,%[l,i,ns,ss,rfl,hi,U,Y,ag|kk];let ai: ~~~(ss\0)= ~~~ss:=Z6 _;show%[_,%["JDG2}DVT0L3EY~.r~/~:2AU31ANBBA3BEI2"|jU.nd]|?_]
  change bn _ _ _ [!l,some (.int i),none,none] H;show ak λD1 k1 _=>?_
  lk;intro e fe;show k1 _ _ (ak λD2 k2 _=>ay λab hK=>?_);lk;let se:=ah.JO (o:= .dK []) fe;show%[%[_|JP.of (se _ _ U)]|hK _ _ ?_];show cu (λj σ u=>(∃o3,σ=[!l,some (.int i),!e,o3])/\ah H u/\∃m,jd (λt:Addr×ZB=>V.ref t.1) H u e m/\(m\1).Nodup/\(∀g∈m,g.2.2=(ss.take j).filter λt=>decide (t.2[i]?∣g.1))/\∀n,n∈m\1↔∃t∈ss.take j,t.2[i]?∣n)
   %[%[_|rfl],se,[],%[ae,λg B=>(nomatch B)|X6],X6,λg B=>(nomatch B)|by simp] (λj σ u h=>h.2.1 _ _ U) ?_ ?_
  .intro j t σ u G %[%[o3|rfl],I,m,d,gn,J|N];let tm:=Z8 G;let j1:j< ~~~ss:=(Xn G).1;let%[n,L|_]:=Ij (Y t tm).2 hi;let tk:ss.take (j+1)=ss.take j++[t]:=by rw[Xc,G];rfl
   change jB _ _ [!l,some (.int i),!e,some (.ref t.1)] u;show aB λD4 k4 _=>?_
   lk;let gl: ~~~m<= ~~~ss:=by
    let:m\1 ⊆ ss.filterMap λt=>t.2[i]? :=λy hy=>by
     let%[t,G|e]:=(N y).mp hy;exact mem_filterMap.mpr %[t,Yz G|e]
    let:=_ST.nodup_sub gn λx hx=>this hx
    rw[Z6]at this;exact Nat.le_trans this (List.length_filterMap_le _ _)
   let st:=I _ _ (Y t tm).1;let keys:∀(M:Gs (Addr×ZB)),(∀y,y∈M\1↔y∈m\1\/y=n)->∀y,y∈M\1↔∃t∈ss.take (j+1),t.2[i]?∣y:=λM h y=>by
    rw[h,N,tk]
    constructor
    .rintro(⟨t',h1,h2⟩|rfl)
     .exact%[t',Yw _ h1|h2]
     .exact%[t,Yx _ Zm|L]
    .rintro⟨t',h1,h2⟩;rcases Xo h1 with q|q
     .exact .inl %[t',q|h2]
     .rw[Xp q,L]at h2;exact .inr (Za h2).symm
   show%[tyD (d.at_),_,SqT.of st,_,bK (show(t.2\3)[i]?∣.str n by rw[Zl,L];rfl),#[0]|λp C=>%[Sum.inr n,ρ,gD m,?_,?_,λv O=>?_|λO=>?_]]
   .rw[au (λc=>by rw[<-c,d.at_]at C;cases C)];exact d.at_
   .unfold gD;rw[Z6];exact aH ⋯
   .let%[q,r,e1|rfl]:=iq O;let sp:=ah.JO (o:= .lst []) C;let U:=sp _ _ (d.la q r).2;let ml: ~~~q.2.2<= ~~~ss:=by
     rw[J q r];exact Nat.le_trans (Yi _ _) (by rw[Ym];lia)
    let ka:(qw q.1 t m)\1=m\1:=by
     unfold qw;rw[Yt];show Yq λg _=>?_
     change(if g.1=q.1 then(g.1,g.2.1,g.2.2++[t])else g).1=_
     split<;> rfl
    show%[tyL (JP.of U),_,ρ,_,U,by rw[Z6];exact aH ⋯|k4 _ _ %[%[_|ρ],ah.set (I.trans sp) (d.la q r).1,_,((d.up sp).add gn r t),ka▸gn,λg B=>?_|keys _ λy=>?_]]
    .unfold qw at B;let%[g0,h0|rfl]:=Xq B;rw[tk,Y2];by_cases c:g0.1=q.1
     .rw[if_pos c];change g0.2.2++[t]=_++List.filter (λt=>decide (t.2[i]?∣g0.1)) [t];rw[J g0 h0,Y4 (by rw[L,c,e1];simp),Y6]
     .rw[if_neg c,J g0 h0,Y3 (by rw[L,<-e1];simpa using λz=>c z.symm),Y6,Zx]
    .rw[ka];exact%[.inl|λh=>h.elim id λh=>by rw[h,<-e1];exact Xr %[q,r|ρ]]
   .let nk:n∉m\1:=λh=>by
     let%[q,r|c]:=Xq h;let:=l9 r;rw[c,O]at this;exact this rfl
    let de:e≠p:=λq=>by rw[<-q,d.at_]at C;cases C
    let gp:JO (JO u p (.lst [])) e (.dK (cR (gD m) (Sum.inr n) (.ref p))) p<*[]:=by rw[au de.symm,ae]
    show%[tyL (JP.of gp),[],gp,(show 0<sizeLine by decide)|k4 _ _ %[%[_|ρ],ah.set (ah.set (I.trans (ah.JO C)) fe) (I.free C),_,d.new I C n t nk,?_,λg B=>?_|keys _ λy=>?_]]
    .rw[Zd,X3];exact%[gn,by simp|λa ha b hb c=>nk (by rw[<-show b=n from Xp hb,<-c];exact ha)]
    .rw[tk,Y2];rcases Xo B with q|q
     .let c:g.1≠n:=λc=>nk (c▸Xr %[g,q|rfl])
      rw[J g q,Y3 (by rw[L];simpa using λz=>c z.symm),Y6,Zx]
     .rw[Xp q];change [t]=_++List.filter (λt=>decide (t.2[i]?∣n)) [t];rw[Y4 (by rw[L];simp),Y6,List.filter_eq_nil_iff.mpr λt' aa c=>nk ((N n).mpr %[t',aa|Zo c])];rfl
    .rw[Zd,Yu,Yr,map_nil,X1]
  .intro σ u %[%[o3|rfl],I,m,d,gn,J|N];rw[Zn (Zi _)]at J N;show k2 _ _ ?_;lk;show kk e u I fe %[_,d.at_|λn=>?_];cases O:cF (gD m) (Sum.inr n)with
   | none=>
     show .inr %[rfl|λt G c=>?_];let%[q,r|c]:=Xq ((N n).mpr %[t,G|c]);let:=l9 r;rw[c,O]at this;exact this rfl
   | some v=>
     let%[q,r,e1|rfl]:=iq O;show .inl %[_,rfl|?_];rw[(d.la q r).2,J q r,e1]
def gJ(T:Txt K mg):↥2 "links_by_later" ["found"] (Du 0):=by
 .exists T.aH,kD,d,e,%[l,c,ss,rfl,g,a,b|i];exact%[_,%["JEIH~;A0A[B",0|e],l,0,c,ss,ρ,by simp,g,a,b|i]
def jW(T:Txt K mg):↥2 "links_by_earlier" ["found"] (Du 1):=by
 .exists T.aI,jx,d,e,%[l,c,ss,rfl,g,a,b|i];exact%[_,%["JEIH~;A0A~VB",0|e],l,1,c,ss,ρ,by simp,g,a,b|i]
structure ReB (ss:ZG) (rs:Gs Str):Prop where
 nd:(rs\1).Nodup
 sub:∀r∈rs,r.2∈ss/\r.2.2[1]?∣r.1
def ReB.len(h:ReB ss a): ~~~a<= ~~~ss:=by
 let:=_ST.nodup_sub h.nd (m:=ss.filterMap λt=>t.2[1]?) λx b=>by
  let%[r,c|rfl]:=Xq b;exact mem_filterMap.mpr %[r.2|h.sub r c]
 rw[Z6]at this;exact Nat.le_trans this (List.length_filterMap_le _ _)
def ReB.snoc(h:ReB ss d)(e:(a,[p,y,z])∈ss)(f:y∉d\1):ReB ss (d++[(y,a,[p,y,z])]):=by
 show%[?_|λr g=>?_]
 .rw[Zd,X3];exact%[h.nd,by simp|λa i b j c=>f (by rw[<-show b=y from Xp j,<-c];exact i)]
 .rcases Xo g with q|q
  .exact h.sub r q
  .rw[Xp q];exact%[e|ρ]
abbrev eK(d:Addr)(H a:Hp):Prop:=∀b o,b≠d->H b∣o->a b∣o
def eK.trans(h:eK d H c)(g:eK d c a):eK d H a:=λb o n e=>g b o n (h b o n e)
def eK.of(h:ah H a):eK d H a:=λb o _ e=>h b o e
def GrB.x(h:GrB H b ss i)(s:eK d H f)(n:b≠d)(m:H d∣.dK o):GrB f b ss i:=by
 let%[e,g|j]:=h;exact%[e,s _ _ n g|λn=>(j n).imp_left λ⟨l,a,b⟩=>%[l,a|s _ _ (λc=>by lia) b]]
def dG.x(h:dG H e ss)(s:eK d H f)(g:H d∣.dK i):dG f e ss:=λt a=>%[s _ _ (λc=>by let b:=(h t a).1;grind) (h t a).1|(h t a).2]
def GrB.get(h:GrB f b ss i)(s:eK d f H)(nb:b≠d)(q:∀xs,f d≠some (.lst xs))(r:H p=none)(n:Str):∃e a,JO H p (.lst []) b∣.dK e/\(cF e (Sum.inr n)).getD (.ref p)= .ref a/\JO H p (.lst []) a∣.lst ((ss.filter λt=>decide (t.2[i]? =some n))\0)/\(a=p\/∃o,f a∣o):=by
 let%[e,m|u]:=h;let sp:=ah.JO (o:= .lst []) r;rcases u n with⟨l,g,j⟩|⟨g,v⟩
 .exact%[e,l,sp _ _ (s _ _ nb m),by rw[g];rfl,sp _ _ (s _ _ (λc=>q _ (c▸j)) j)|.inr %[_|j]]
 .show%[e,p,sp _ _ (s _ _ nb m),by rw[g];rfl,?_|.inl rfl];rw[List.filter_eq_nil_iff.mpr λt y c=>v t y (Zo c)];exact ae
inductive zq
 | mk (b e d:Addr) (ns F:ZB) (ss:List _) (rs:Gs Str):vs=[.ref b,.ref e,.ref d]->b≠d->GrB H b ss 0->dG H ns ss-> ~~~ss<=150->H e<*F\3->H d∣.dK (gD rs)->ReB ss rs->(∀g H' new,eK d H H'->H g=none->H' g<*(new\1)\3->H' d∣.dK (gD (rs++new))->ReB ss (rs++new)->(∀r∈new,∃p∈F,r.2.2[0]?∣p)->(∀x∈F,∀y,Ed (ss\2) x y->y∈(rs++new)\1)->Q (.ref g) H')->zq vs H Q E0
def wp(T:Txt K mg):↥1 "next_edge" ["beneath","edge","reached"] zq:=by
 .exists T.aM,eO,bb,hr,%[b,e,d,ns,F,ss,B,rfl,ai,hb,al,bc,he,hd,a2|kk];let Fm: ~~~(F\3)= ~~~F:=Z6 _;let ed:e≠d:=λc=>by rw[c,hd]at he;cases he
  show%[_,%["JDG3NBDVT1L4EVT~j~k0A4ANBBL5EQ~WU5~V2D<52U5~VEYur3AU5~VBREI3",eO.nd|hr]|?_]
  change bn _ _ _ [!b,!e,!d,none,none,none] H;show ak λD1 k1 _=>?_
  lk;show%[#[0]|λg fg=>k1 _ _ (ak λD2 k2 _=>ay λan hK=>?_)];let gd:g≠d:=λc=>by rw[c,hd]at fg;cases fg
  let s1:=ah.JO (o:= .lst []) fg;let gg:JO H g (.lst []) g<*(([]:Gs Str)\1)\3:=ae
  generalize JO H g (.lst [])=H1 at s1 gg
  lk;show%[%[_|JP.of (s1 _ _ he)]|hK _ _ ?_];show cu (λi Y H'=>(∃o4 o5,Y=[!b,!e,!d,!g,o4,o5])/\eK d H H'/\∃new:Gs Str,H' g<*(new\1)\3/\H' d∣.dK (gD (B++new))/\ReB ss (B++new)/\(∀r∈new,∃p∈F,r.2.2[0]?∣p)/\∀x∈F.take i,∀y,Ed (ss\2) x y->y∈(B++new)\1)
   %[%[_,_|rfl],eK.of s1,[],gg,by rw[Zx];exact s1 _ _ hd,by rw[Zx];exact a2,λr hr=>(nomatch hr)|λx hx=>(nomatch hx)] (λi Y H' h=>h.2.1 _ _ ed he) ?_ ?_
  .intro i n Y H' hn %[%[o4,o5|rfl],sm,new,hg,l,L,ac|m];let tk:F.take (i+1)=F.take i++[n]:=by rw[Xc,hn];rfl
   change wR _ _ _ _ [!b,!e,!d,!g,-n,o5] H';show aB λD3 k3 _=>ay λan hK=>?_
   lk;show%[tyD (sm _ _ ai hb.choose_spec.1),#[0]|λp hp=>?_];let%[a3,a,aq,a4,M|a5]:=hb.get sm ai (λxs c=>by rw[hd]at c;cases c) hp n;let ag:a≠g:=by
    rcases a5 with rfl|⟨o,ho⟩
    .exact λc=>by rw[c,hg]at hp;cases hp
    .exact λc=>by rw[c,fg]at ho;cases ho
   let ad:a≠d:=λc=>by
    let:=M;rw[c,au (λc=>by rw[c,hp]at l;cases l),l]at this;cases this
   let sp:=ah.JO (o:= .lst []) hp;let hg:=sp _ _ hg;let l:=sp _ _ l;let sm:=sm.trans (eK.of sp)
   generalize JO H' p (.lst [])=H2 at aq M sp hg l sm ⊢
   generalize as:(ss.filter λt=>decide (t.2[0]?∣n))=ts at M
   let tm: ~~~(ts\0)= ~~~ts:=Z6 _;let a6:∀t∈ts,t∈ss/\∃y z,t.2=[n,y,z]:=λt ht=>by
    rw[<-as]at ht;let%[h1|h2]:=List.mem_filter.mp ht;let%[x,y,z,e|_]:=(al t h1).2;let h2:=Zo h2;rw[e]at h2;exact%[h1,y,z|by rw[e,show x=n from Za h2]]
   show%[Sum.inr n,ρ,a3,aq,a,a4,%[_|JP.of M]|hK _ _ ?_];show cu (λj Y U=>(∃o5,Y=[!b,!e,!d,!g,-n,o5])/\eK d H U/\U a∣.lst (ts\0)/\∃new:Gs Str,U g<*(new\1)\3/\U d∣.dK (gD (B++new))/\ReB ss (B++new)/\(∀r∈new,∃p∈F,r.2.2[0]?∣p)/\(∀x∈F.take i,∀y,Ed (ss\2) x y->y∈(B++new)\1)/\∀t∈ts.take j,∀y,t.2[1]?∣y->y∈(B++new)\1)
    %[%[_|rfl],sm,M,new,hg,l,L,ac,m|λt ht=>(nomatch ht)] (λj Y U h=>h.2.2.1) ?_ ?_
   .intro j t Y U ht %[%[o5|rfl],N,O,new,aa,I,C,G,u|ab];let%[aR,y,z|et]:=a6 t (Z8 ht);let J:=(al.x N hd t aR).1;rw[et]at J;let a7:ts.take (j+1)=ts.take j++[t]:=by rw[Xc,ht];rfl
    change iM _ _ _ _ [!b,!e,!d,!g,-n,some (.ref t.1)] U;show aB λD4 k4 _=>?_
    lk;show%[_,SqT.of J,_,ρ,_,dM.k (k:=Sum.inr y) I|?_];let aU:∀(nw:Gs Str),(∀x∈(B++new)\1,x∈(B++nw)\1)->y∈(B++nw)\1->(∀x∈F.take i,∀y,Ed (ss\2) x y->y∈(B++nw)\1)/\∀t∈ts.take (j+1),∀y,t.2[1]?∣y->y∈(B++nw)\1:=λnw mono hy=>by
     show%[λx hx y h=>mono y (u x hx y h)|λt' a0 y' h=>?_];rw[a7]at a0;rcases Xo a0 with q|q
     .exact mono y' (ab t' q y' h)
     .rw[Xp q,et]at h;rw[<-show y=y' from Za h];exact hy
    cases hv:cF (gD (B++new)) (Sum.inr y)with
    | some v=>
      rw[if_neg ∅];let%[q,hq,e1|_]:=iq hv;let%[n1|n2]:=aU new (λ_ h=>h) (by rw[<-e1];exact Xr %[q,hq|rfl]);exact k4 _ _ %[%[_|rfl],N,O,new,aa,I,C,G,n1|n2]
    | none=>
      rw[if_pos (by rfl)];let hy:y∉(B++new)\1:=λh=>by
       let%[q,hq|c]:=Xq h;let:=l9 hq;rw[c,hv]at this;exact this rfl
      let ln:=C.len;let nl: ~~~new<=150:=by rw[Z9]at ln;lia
      show%[_,SqT.of J,_,ρ,_,iH.k (k:=Sum.inr y) I (by unfold gD;rw[Z6];exact aH ⋯)|?_];rw[j8 _ hv];let e1:gD (B++new) ++[(Sum.inr y,V.ref t.1)]=gD (B++(new++[(y,t.1,[n,y,z])])):=by
       unfold gD;rw[<-Ze,Zd (l₂:=[_])];rfl
      rw[e1];let u1:∀c o,c≠d->U c∣o->JO U d (.dK (gD (B++(new++[(y,t.1,[n,y,z])])))) c∣o:=λc o h e=>(au h)▸e
      let a1:=u1 _ _ gd aa;let R:=C.snoc (p:=n) (y:=y) (z:=z) (a:=t.1) (et▸aR) hy;rw[Ze]at R;let%[n1|n2]:=aU (new++[(y,t.1,[n,y,z])]) (λx hx=>by rw[<-Ze,Zd];exact Yw _ hx) (by rw[<-Ze,Zd];exact Yx _ Zm);show%[tyL (JP.of a1),_,SqT.of (u1 _ _ (λc=>by rw[c,I]at J;cases J) J),_,ρ,_,a1,by rw[Z6,Z6];exact aH ⋯|k4 _ _ %[%[_|ρ],λc o h e=>?_,(au ag).trans (u1 _ _ ad O),_,?_,(au gd.symm).trans ae,R,?_,n1|n2]]
      .rw[au (aE e fg)];exact u1 _ _ h (N _ _ h e)
      .rw[ae,Zd,Zd];rfl
      .intro r hr;rcases Xo hr with q|q
       .exact G r q
       .rw[Xp q];exact%[n,Z8 hn|ρ]
   .intro Y U %[%[o5|rfl],N,O,new,aa,I,C,G,u|ab];rw[Zn (Zi _)]at ab;show k3 _ _ %[%[_,_|rfl],N,new,aa,I,C,G|λx hx y ⟨z,hy⟩=>?_];rw[tk]at hx;rcases Xo hx with q|q
    .exact u x q y %[z|hy]
    .rw[Xp q]at hy;let%[t,ht|et]:=Xq hy;exact ab t (as▸List.mem_filter.mpr %[ht|by rw[et];simp]) y (by rw[et];rfl)
  .intro Y H' %[%[o4,o5|rfl],sm,new,hg,l,L,ac|m];rw[Zn (Zi _)]at m;show k2 _ _ ?_;lk;exact kk g H' new sm fg hg l L ac m
def sB{b:Bool}(h: ¬ (not b)=true):b=true:=by
 cases b
 .exact absurd rfl h
 .rfl
def yj{a:Gs Str}{y:Str}(h:y∈a\1):∃r∈a,r.1=y/\cF (gD a) (Sum.inr y)∣.ref r.2.1:=by
 cases d:cF (gD a) _ with
 | none=>
   let%[q,b|c]:=Xq h;let:=l9 b;rw[c,d]at this;exact(this rfl).elim
 | some v=>
   let%[q,b,e|rfl]:=iq d;exact%[q,b,e|ρ]
inductive Dv
 | mk (d st goal ns F ss rs dd k):vs=[.ref d,.str st,.str goal]->H d∣.dK (gD rs)->ReB ss rs->Lev (ss\2) st rs dd k F->k<=200->dG H ns ss->goal∈rs\1->(∀l H' (ws:List _),ah H H'->H l=none->H' l∣.lst (ws\0)->(∀t∈ws,t∈ss)->Wal (ws\2) st goal-> ~~~ws=dd goal->Q (.ref l) H')->Dv vs H Q E0
def Dw(T:Txt K mg):↥1 "way_to" ["reached","start","goal"] Dv:=by
 .exists T.aO,rS,aa,j,%[d,st,a,ns,F,ss,C,i,k,rfl,hd,G,l,hk,I,n|kk];show%[_,%["JDG3NAq02BD~MKvUM3:C[1EYur3Aq0UM3:C[BEI]r3",rS.nd|j]|?_]
  change bn _ _ _ [!d,-st,-a,none] H;show ak λD1 k1 _=>?_
  lk;let%[r,J,e1|hv]:=yj n;let get:=dM.k (k:=Sum.inr a) hd;rw[hv]at get;show%[_,get,#[1]|λb fw=>k1 _ _ (ak λD2 k2 _=>?_)];let s1:=ah.JO (o:= .lst [V.ref r.2.1]) fw;let gw:JO H b (.lst [V.ref r.2.1]) b∣.lst (([]:ZG).reverse\0 ++[V.ref r.2.1]):=ae
  generalize JO H b (.lst [V.ref r.2.1])=H1 at s1 gw
  show⟨λm σ u=>σ=[!d,-st,-a,!b]/\ah H u/\∃(us:ZG) (r:Str×Addr×ZB),r∈C/\m=i r.1/\u b∣.lst (us.reverse\0 ++[.ref r.2.1])/\(∀t∈us,t∈ss)/\Wal (us\2) r.1 a/\ ~~~us+m=i a,%[_,rfl,s1,[],r,J,rfl,gw,λt h=>(nomatch h),e1|by rw[e1];simp],?_⟩;intro m σ H2 %[rfl,v,us,r,j,rfl,hw,y,B|hl];let%[ab,p,z,L|hp]:=l.by_ r j;let e:=(G.sub r j).1;let g:=v _ _ (I _ e).1;rw[L]at g;let gl:=l.le a n;lk;show%[_,JP.of hw,_,nN _ _,_,ρ,_,SqT.of g,_,ρ,ρ|bv (λh=>?_) λh=>?_]
  .let h:p≠st:=↑h
   let%[_,M|ac]:=hp.resolve_left λc=>h c.1
   let%[r',N,O|U]:=yj M;let get:=dM.k (k:=Sum.inr p) (v _ _ hd);rw[U]at get;show⟨λY u=>∃m',m'<i r.1/\Y=[!d,-st,-a,!b]/\ah H u/\∃(us:ZG) (r:Str×Addr×ZB),r∈C/\m'=i r.1/\u b∣_/\(∀t∈us,t∈ss)/\Wal (us\2) r.1 a/\ ~~~us+m'=i a,λ_ _ h=>h,tyL (JP.of hw),_,JP.of hw,_,nN _ _,_,rfl,_,SqT.of g,_,rfl,_,get,_,hw,by rw[Z9,Z6,List.length_reverse,Yk];exact aH ⋯,_,?_,rfl,ah.set v fw,r.2::us,r',N,rfl,?_,?_,?_,?_⟩
   .rw[O];lia
   .rw[ae,List.reverse_cons,Zd];rfl
   .intro t ht;rcases mem_cons.mp ht with q|q
    .exact q▸e
    .exact y t q
   .exact%[r.1,z,L.trans (by rw[O])|B]
   .rw[Zr,O];lia
  .let h:p=st:=↑h
   show k2 _ _ ?_;lk;show%[_,hw|λq fq=>kk q _ (r.2::us) (v.trans (ah.JO fq)) (v.free fq) ?_ (λt ht=>?_) %[r.1,z,L.trans (by rw[h])|B] (by rw[Zr];lia)]
   .rw[ae,List.reverse_append,<-List.map_reverse,List.reverse_reverse];rfl
   .rcases mem_cons.mp ht with q|q
    .exact q▸e
    .exact y t q
inductive wq
 | mk (b st goal ns ss):vs=[.ref b,.str st,.str goal]->GrB H b ss 0->dG H ns ss-> ~~~ss<=150->(∀H',ah H H'-> ¬ Rch (ss\2) st goal->Q .non H')->(∀l H' (ws:List _),ah H H'->H l=none->H' l∣.lst (ws\0)->(∀t∈ws,t∈ss)->Sho (ss\2) st goal (ws\2)-> ~~~ws<=200->Q (.ref l) H')->wq vs H Q E0
abbrev JJ(H:Hp)(b d:Addr)(st c:Str)(ss:ZG)(m:Nat)(g:_LL.St)(f:Hp):Prop:=∃e F a h k,g=[!b,-st,-c,!d,!e]/\ah H f/\f e<*F\3/\f d∣.dK (gD a)/\ReB ss a/\Lev (ss\2) st a h k F/\k<= ~~~a+1/\(F≠[]->k<= ~~~a)/\m=2*(150-a.length) +F.length.min 1
def pO(T:Txt K mg):↥2 "shortest_way" ["beneath","start","goal"] wq:=by
 .exists T.aL,dv,aU,G,%[b,st,i,ns,ss,rfl,hb,I,ag,kn|ky];show%[_,%["JDG3}DG4NA1BD~Mc%K~AZaA4BC+~W23EG4H]sA0A4A3BDQ~W23EI=REIH]tA3A1A2B",dv.nd|G]|?_]
  change bn _ _ _ [!b,-st,-i,none,none] H;show ak λD1 k1 _=>?_
  lk;intro d fd;show k1 _ _ (ak λD2 k2 _=>?_);let ai:b≠d:=λc=>by
   let%[a0,O|_]:=hb;rw[c,fd]at O;cases O
  let s1:=ah.JO (o:= .dK []) fd;let B:JO H d (.dK []) d∣.dK (gD ([]:Gs Str)):=ae
  generalize JO H d (.dK [])=H1 at s1 B
  lk;show%[#[1]|λe fe=>k2 _ _ (ak λD3 k3 _=>?_)];let s2:=ah.JO (o:= .lst [V.str st]) fe;let U:JO H1 e (.lst [V.str st]) e<*[st]\3:=ae;let B:=s2 _ _ B;let Y:=s1.trans s2
  generalize JO H1 e (.lst [V.str st])=H2 at Y U B
  show%[JJ H b d st i ss,%[_,e,[st],[],_,_,ρ,Y,U,B,%[X6|λ_ h=>(nomatch h)],.nil,by simp,λ_=>Zi _|ρ]|?_];intro m σ H3 %[e,F,C,dd,k,rfl,J,U,B,L,j,hk,al|rfl];let fm: ~~~(F\3)= ~~~F:=Z6 _;let get:=dM.k (k:=Sum.inr i) B;let rl:=L.len;let M:i∈C\1↔(cF (gD C) (Sum.inr i)).isSome=true:=by
   show%[λh=>?_|λh=>?_]
   .let%[r,_,_|e]:=yj h;rw[e];rfl
   .let%[v|hv]:=isSome_iff_exists.mp h;let%[q,hq,c|_]:=iq hv;exact c▸Xr %[q,hq|rfl]
  lk;let aa:(i∉C\1->F=[])->D3.nx [!b,-st,-i,!d,!e] H3:=λh=>by
   show k3 _ _ (ak λD4 k4 r4=>?_);lk;show%[_,get|bv (λq=>?_) λq=>?_]
   .let q:i∉C\1:=λc=>by rw[M.mp c]at q;cases q
    show r4 _ _ (kn H3 J λr=>q ?_);let%[n|hn]:=r.dst;rw[h q]at j;exact j.stop hn
   .let q:i∈C\1:=M.mpr (sB q);show k4 _ _ ?_;lk;show%[d,st,i,ns,F,ss,C,dd,k,ρ,B,L,j,⋯,I.up J,q|λl H' ws s' fl hl ab an wl=>ky l H' ws (J.trans s') (J.free fl) hl ab %[λk hk=>?_,an,?_|λn hn=>?_] (by rw[wl];let:=j.le _ q;lia)]
    .let%[t,ht|rfl]:=Xq hk;exact Xr %[t,ab t ht|rfl]
    .rw[Z6,wl];exact(j.dst q).1
    .rw[Z6,wl];exact j.min q hn
  show%[_,.inl %[_,JP.of U|ρ]|bv (λh=>?_) λh=>aa λ_=>?_]
  .let h:0< ~~~F:=by
    rw[fm]at h;let:=Zo h
    lia
   show%[_,get|bv (λq=>⟨λaq H'=>∃m',m'<2*(150-C.length) +F.length.min 1/\JJ H b d st i ss m' aq H',λ_ _ h=>h,b,e,d,ns,F,ss,C,ρ,ai,hb.up J,I.up J,ag,U,B,L,λg H4 new sx fg hg as u aR N=>?_⟩) λq=>aa λc=>absurd (M.mpr (sB q)) c];let ln:=u.len;rw[Z9]at ln;let ac:F.length.min 1=1:=Nat.min_eq_right h;let kF:=al λc=>by rw[c]at h;cases h
   show%[_,?_,g,new\1,C++new,_,_,ρ,(λc o ec=>sx c o (λz=>by rw[z,fd]at ec;cases ec) (J _ _ ec)),hg,as,u,j.step u.nd (λr G=>?_) N,?_,λnn=>?_|ρ]
   .rw[ac,Z9,Z6];cases new with
    | nil=>simp
    | cons a r=>
      rw[Zr]at ln ⊢;let:(~~~r+1).min 1<=1:=Nat.min_le_right _ _
      lia
   .let%[O|h2]:=u.sub r (Yx _ G);let%[p,hp|h3]:=aR r G;let%[x,y,z,e|_]:=(I r.2 O).2;rw[e]at h2 h3;exact%[Xr %[_,O|ρ],p,z,hp|by rw[e,show x=p from Za h3,show y=r.1 from Za h2]]
   .rw[Z9];lia
   .cases new with
    | nil=>exact absurd rfl nn
    | cons a r=>rw[Z9,Zr];lia
  .cases F with
   | nil=>rfl
   | cons x F=>exact absurd (Zf (by rw[fm,Zr];lia)) h
abbrev VD(ls:ZB)(g:Str->V):List (Key×V):=ls.map λz=>(Sum.inr z,g z)
def jX:∀{ls:ZB},z∈ls->cF (VD ls g) (Sum.inr z)∣g z
 | x::ls,h=>by
   by_cases e:x=z
   .subst e;exact ee rfl
   .rw[show VD _ g=(Sum.inr x,g x)::VD ls g from rfl,dc (λq=>e (Sum.inr.inj q))];exact jX ((mem_cons.mp h).resolve_left λq=>e q.symm)
def uw:∀{ls:ZB},z∉ls->cF (VD ls g) (Sum.inr z)=none
 |[],_=>rfl
 | x::ls,h=>by
   rw[Yy,not_or]at h;rw[show VD _ g=(Sum.inr x,g x)::VD ls g from rfl,dc (λq=>h.1 (Sum.inr.inj q).symm)];exact uw h.2
def Ik(h:z∈ls):cR (VD ls g) (Sum.inr z) v=VD ls (λx=>if x=z then v else g x):=by
 unfold cR;rw[if_pos (by rw[iN,jX h];rfl)];unfold VD;rw[Yt];show Yq λx _=>?_
 change(if(Sum.inr x)=Sum.inr z then((Sum.inr x),v)else(Sum.inr x,g x))=(Sum.inr x,if x=z then v else g x)
 by_cases e:x=z
 .rw[if_pos (congrArg _ e),if_pos e]
 .rw[if_neg (λq=>e (Sum.inr.inj q)),if_neg e]
abbrev cnt(ss:ZG)(L:ZB)(n:Str):Nat:=ss.countP λt=>decide (t.2[0]?∣n)&&t.2[1]?.all λy=>decide (y∉L)
def Fu(ss:List _)(n:Str):cnt ss [] n= ~~~(ss.filter λt=>decide (t.2[0]?∣n)):=by
 unfold cnt;rw[<-List.countP_eq_length_filter]
 simp_all
def Dx(h:cnt ss L m=0)(e:Ed (ss\2) m y):y∈L:=by
 let%[z|a]:=e;let%[t,b|c]:=Xq a;let:=List.countP_eq_zero.mp h t b
 simp_all
def wt(b:m∉L):∀ss:ZG,cnt ss L n=cnt ss (L++[m]) n+(ss.filter λt=>decide (t.2[1]?∣m)).countP λt=>decide (t.2[0]?∣n)
 |[]=>rfl
 | t::ss=>by
   let c:=wt (n:=n) b ss;unfold cnt at c ⊢;rw[countP_cons,countP_cons,c];cases d:t.2[1]? with
   | none=>rw[Y3 ⋯];simp only[Option.all_none];lia
   | some y=>
     by_cases e:y=m
     .subst e;rw[Y4 (by rw[d];simp),countP_cons];by_cases a:t.2[0]?∣n
      .simp[a,b];lia
      .simp[a]
     .rw[Y3 (by rw[d];simpa using e)];by_cases a:t.2[0]?∣n
      .by_cases f:y∈L
       .simp[f]
       .simp[a,f,e];lia
      .simp[a]
abbrev ux(ks:List ZB)(a L:ZB):Prop:=∀i x,L[i]?∣x->∀y∈a,y∉L.take i->(∀z,Ed ks y z->z∈L.take i)->aP y x=false
def Il{H:Hp}{f L:ZB}{ss:ZG}(c:dG H f ss){y:Str}(h:∀z,Ed (ss\2) y z->z∈L):cnt ss L y=0:=by
 show List.countP_eq_zero.mpr λt d q=>?_
 let%[_,a,b,z,e|_]:=c t d;rw[e]at q;simp only[Zv]at q;let g:a=y:=Za (Zo q.1);exact Zo q.2 (h b %[z|by rw[<-g,<-e];exact Xr %[t,d|rfl]])
structure JK (ss:ZG) (ns L R:ZB):Prop where
 nd:(L++R).Nodup
 mem:∀x,x∈L++R↔x∈ns/\cnt ss L x=0
 ord:∀(i:Nat) x,L[i]?∣x->∀y,Ed (ss\2) x y->y∈L.take i
 lst:ux (ss\2) ns L
abbrev JL(f:Hp)(l m b a w e ld:Addr)(d:ZB)(ss:ZG)(k:Nat)(g:_LL.St)(c:Hp):Prop:=∃(h i j:Option V) (L R:ZB),g=[!l,!m,!b,!a,!w,h,!e,!ld,i,j]/\ah f c/\c w∣.dK (VD d λn=> .int (cnt ss L n))/\c e<*R\3/\c ld<*L\3/\JK ss d L R/\k= ~~~d-L.length
inductive zt
 | mk (l m ns ss):vs=[.ref l,.ref m]->H l<*ns\3->ns.Nodup-> ~~~ns<=63->H m∣.lst (ss\0)->dG H ns ss-> ~~~ss<=150->(∀r H' (L:ZB),ah H H'->H' r<*L\3->L.Nodup->(∀x∈L,x∈ns)->(∀i x,L[i]?∣x->∀y,Ed (ss\2) x y->y∈L.take i)->(∀x∈ns,x∉L->∃y,Ed (ss\2) x y/\y∈ns/\y∉L)->ux (ss\2) ns L->H r=none->Q (.ref r) H')->zt vs H Q E0
def je(T:Txt K mg):↥3 "laid_in_turn" ["names","found"] zt:=by
 .exists T.aK,bg,c7,hr,%[l,m,d,ss,rfl,hl,nn,nl,hm,aa,b0|kk];let nm: ~~~(d\3)= ~~~d:=Z6 _;show%[_,%["JDG2H~<A1BDG3H]uA1BD,4jk}DVT0L5E<ZaA~j~k2A5ANBBBO45D~H6kjd?1T0X0?2~CKeqO10C0DG7NBD~MK~AZaA6BCDG8~O]vA6BDY]w]x6A8BDYur7A8BEVT~j~k3A8ANBBL9D<F~BqO4U9[CO4U9[EQKeqO4U9[CEYur6AU9[BREI7",bg.nd,↑(["name","waits"],[(1,4)]),↑["name","waits"]|hr]|?_]
  change bn _ _ _ [!l,!m,none,none,none,none,none,none,none,none] H;show ak λD1 k1 _=>?_
  lk;show%[m,d,ss,ρ,hm,aa,b0|λb H1 s1 fb hb=>k1 _ _ (ak λD2 k2 _=>?_)];lk;show%[m,d,ss,ρ,s1 _ _ hm,aa.up s1,b0|λa H2 s2 fa ha=>k2 _ _ (ak λD3 k3 _=>?_)];let N:=s1.trans s2;let hb:=hb.up s2;lk;intro w fw;show k3 _ _ (ak λD4 k4 _=>ay λa2 hK=>?_);let s3:=ah.JO (o:= .dK []) fw;let gw:JO H2 w (.dK []) w∣.dK (VD (d.take 0) λn=> .int (cnt ss [] n)):=ae
  generalize JO H2 w (.dK [])=H3 at s3 gw
  let ch:=N.trans s3;lk;show%[%[_|JP.of (ch _ _ hl)]|hK _ _ ?_];let cl:b≠w:=λc=>by
   let%[ab,h1|_]:=hb;rw[c,fw]at h1;cases h1
  let co:a≠w:=λc=>by
   let%[ab,h1|_]:=ha;rw[c,fw]at h1;cases h1
  let b1:∀xs,H2 w≠some (.lst xs):=λxs c=>by rw[fw]at c;cases c
  show cu (λi M v=>(∃o5,M=[!l,!m,!b,!a,!w,o5,none,none,none,none])/\ah H2 v/\v w∣.dK (VD (d.take i) λn=> .int (cnt ss [] n)))
   %[%[_|rfl],s3|gw] (λi M v h=>h.2.1 _ _ (N _ _ hl)) ?_ ?_
  .intro i n M v hn %[%[o5|rfl],sm|hw];let i1:i< ~~~d:=(Xn hn).1;change qQ _ _ _ _ [!l,!m,!b,!a,!w,-n,none,none,none,none] v;show aB λD5 k5 _=>?_
   lk;show%[tyD (sm _ _ hb.choose_spec.1),#[0]|λp hp=>?_];let%[ab,al,cs,ai,O|b2]:=hb.get (eK.of sm) cl b1 hp n;let sp:=ah.JO (o:= .lst []) hp;show%[Sum.inr n,ρ,ab,cs,_,by rw[ai];exact .inl %[_,JP.of O|ρ],_,iH.k (k:=Sum.inr n) (sp _ _ hw) (by unfold VD;rw[Z6,Ym];exact aH ⋯)|k5 _ _ %[%[_|ρ],ah.set (sm.trans sp) fw|?_]];let zn:n∉d.take i:=λhm=>by
    let h:=nn;rw[<-Xd i d,X3]at h;exact h.2.2 n hm n (Z8 (i:=0) (by rw[Yb];exact hn)) rfl
   rw[ae,j8 _ (uw zn),Z6,<-Fu,Xc,hn];unfold VD;rw[Zd];rfl
  .intro M v %[%[o5|rfl],sm|hw];rw[Zn (Zi _)]at hw;show k4 _ _ (ak λD5 k5 _=>aF λa2 hK=>?_);lk;let b3:=sm _ _ (N _ _ hl);show%[%[_|JP.of b3]|hK _ _ λG ac=>?_];show cJ (λj vs M H3=>(∃o1,M=[o1,!w])/\ah v H3/\H3 G<*vs/\vs=((d.take j).filter λn=>decide (cnt ss [] n=0))\3)
    %[%[none|rfl],ah.JO ac,ae|rfl] (λ_ _ _ H3 ct=>ct.2.1 _ _ b3) ?_ ?_
   .intro j vs M H4 hj %[%[o1|rfl],I,b4|hv];let get:=dM.k (k:=Sum.inr d[j]) (I _ _ hw);rw[jX (Yc hj)]at get;lk;show%[_,get,ρ|bv (λh=>?_) λh=>?_]
    .let h:cnt ss [] d[j]=0:=↑h
     show CK.mk hj b4 (by rw[hv,Z6];let:=Yi (λn=>decide (cnt ss [] n=0)) (d.take j);rw[Ym]at this;exact aH ⋯) %[%[_|rfl],ah.set I ac,ae|?_];rw[hv,Xc,Z4 hj,Y2,Zd];change _=_++(List.filter _ [d[j]])\3;rw[Y4 ↑h];rfl
    .let h:cnt ss [] d[j]≠0:=↑h
     show CN.mk hj %[%[_|rfl],I,b4|?_];rw[hv,Xc,Z4 hj,Y2,Zd];change _=_++(List.filter _ [d[j]])\3;rw[Y3 ↑h];simp
   intro vs M H3 %[_,I,an|hv];rw[Zn (Zi _)]at hv;rw[hv]at an;show k5 _ _ (ak λD6 k6 _=>?_);let U:=I _ _ hw;let a4:=sm.trans I;let a5:w≠G:=λc=>by rw[<-c,hw]at ac;cases ac
   let a6:=sm.free ac;lk;show%[#[0]|λld fld=>k6 _ _ (ak λD7 k7 _=>?_)];let s4:=ah.JO (o:= .lst []) fld;let a7:JO H3 ld (.lst []) ld<*([]:ZB)\3:=ae;let b5:w≠ld:=λc=>by rw[<-c,U]at fld;cases fld
   let bb:G≠ld:=λc=>by rw[<-c,an]at fld;cases fld
   let bc:=s4 _ _ U;let bf:=s4 _ _ an;let bl:=a4.trans s4;let fld:=a4.free fld
   generalize JO H3 ld (.lst [])=H4 at s4 a7 bc bf bl
   show%[JL H2 l m b a w G ld d ss,%[_,o5,none,none,[],_,ρ,bl,bc,bf,a7,%[nn.filter _,λx=>by simp,λi x e=>by simp at e|λi x e=>by simp at e]|ρ]|?_];clear bl bc bf a7 an U hw hv I a4 sm;intro k M H5 %[o5,o8,o9,L,R,rfl,sm,hw,hR,hL,r|rfl];let Rm: ~~~(R\3)= ~~~R:=Z6 _;let da: ~~~L+ ~~~R<= ~~~d:=by
    rw[<-Z9];exact _ST.nodup_sub r.nd λx hx=>((r.mem x).mp hx).1
   lk;show%[~~~R,.inl %[_,JP.of hR|Rm.symm]|bv (λh=>?_) λh=>?_]
   .let h:0< ~~~R:=by let:=Zo h;lia
    show⟨λcv v=>∃m',m'< ~~~d-L.length/\JL H2 l m b a w G ld d ss m' cv v,λ_ _ h=>h,R,JP.of hR,h,λx hx cM=>%[tyL (JP.of hR),R,hR,hx|λR1 pm=>?_]⟩;let u1:=ah.set (o:= .lst (R1\3)) sm a6;let bm:JO H5 G (.lst (R1\3)) G=_:=ae;let bt:JO H5 G (.lst (R1\3)) w=_:=(au a5).trans hw;let aq:JO H5 G (.lst (R1\3)) ld=_:=(au bb.symm).trans hL
    generalize JO H5 G (.lst (R1\3))=H6 at u1 bm bt aq ⊢
    show%[tyL (JP.of aq),_,aq,by rw[Z6];exact aH ⋯|aB λdd c0 _=>ay λa2 hK=>?_];let u2:=ah.set (o:= .lst (L\3++[.str x])) u1 fld;let as:JO H6 ld (.lst (L\3++[.str x])) ld<*(L++[x])\3:=by rw[ae,Zd];rfl
    let aR:JO H6 ld (.lst (L\3++[.str x])) w=_:=(au b5).trans bt;let aU:JO H6 ld (.lst (L\3++[.str x])) G=_:=(au bb).trans bm
    generalize JO H6 ld (.lst (L\3++[.str x]))=H7 at u2 as aR aU ⊢
    lk;show%[tyD (u2 _ _ ha.choose_spec.1),#[0]|λp hp=>?_];let%[ab,al,ai,c1,O|b2]:=ha.get (eK.of u2) co b1 hp x;let bI:∀{c:Addr} {o:HO},H7 c∣o->H2 c=none->al≠c:=λ{c o} h1 h2=>by
     rcases b2 with rfl|⟨o',ho⟩
     .exact λz=>by rw[z,h1]at hp;cases hp
     .exact λz=>by rw[z,h2]at ho;cases ho
    let c2:=bI aR fw;let c3:=bI aU a6;let all:=bI as fld;let sp:=ah.JO (o:= .lst []) hp;let U:=sp _ _ aR;let b6:=sp _ _ aU;let b7:=sp _ _ as;let u3:=u2.trans sp
    generalize JO H7 p (.lst [])=H8 at ai O U b6 b7 u3 ⊢
    clear u1 u2 aR aU as bt bm aq hp sp
    generalize b9:(ss.filter λt=>decide (t.2[1]?∣x))=ts at O
    let tm: ~~~(ts\0)= ~~~ts:=Z6 _;let xL:x∉L:=λc=>(nodup_append.mp r.nd).2.2 x c x hx rfl
    let pr:(L++[x] ++R1).Perm (L++R):=by
     rw[Ze];exact pm.append_left L
    let f0:∀n,cnt ss L n=cnt ss (L++[x]) n+(ts.drop 0).countP λt=>decide (t.2[0]?∣n):=λn=>by rw[drop_zero,<-b9];exact wt xL ss
    let c4:∀t∈ts,∃n z,t.2=[n,x,z]/\n∈d/\H t.1&&&[n,x,z]\3:=λt ht=>by
     rw[<-b9]at ht;let%[h1|h2]:=List.mem_filter.mp ht;let%[h3,n,y,z,e,hn|_]:=aa t h1;let h2:=Zo h2;rw[e]at h2 h3;obtain rfl:y=x:=Za h2;exact%[n,z,e,hn|h3]
    show%[Sum.inr x,ρ,ab,ai,al,c1,%[_|JP.of O]|hK _ _ ?_];show cu (λj M v=>(∃o9,M=[!l,!m,!b,!a,!w,o5,!G,!ld,-x,o9])/\ah H2 v/\v al∣.lst (ts\0)/\v w∣.dK (VD d λn=> .int ((cnt ss (L++[x]) n+(ts.drop j).countP λt=>decide (t.2[0]? =some n):Nat):Int))/\v ld<*(L++[x])\3/\∃Rj:ZB,v G<*Rj\3/\(L++[x] ++Rj).Nodup/\∀y,y∈L++[x] ++Rj↔y∈d/\cnt ss (L++[x]) y+((ts.drop j).countP λt=>decide (t.2[0]?∣y))=0)
     %[%[_|rfl],u3,O,by rw[U];exact congrArg (λg=>some (HO.dK (VD d g))) (funext λn=>by rw[f0 n]),b7,R1,b6,pr.nodup_iff.mpr r.nd|λy=>by rw[<-f0,pr.mem_iff];exact r.mem y] (λj M v h=>h.2.2.1) ?_ ?_
    .intro j t M v ht %[%[o9|rfl],a0,B,J,Y,Rj,C,rn|rz];let jl:=(Xn ht).1;let%[n,z,et,hn|u]:=c4 t (Z8 ht);let u:=a0 _ _ (N _ _ u);let dr:ts.drop j=t::ts.drop (j+1):=by rw[List.drop_eq_getElem_cons jl,(Xn ht).2]
     rw[dr]at J rz;let get:=dM.k (k:=Sum.inr n) J;rw[jX hn]at get;let de:=(nodup_append.mp rn)
     let rl: ~~~Rj<= ~~~d:=by
      let:=_ST.nodup_sub rn λy hy=>((rz y).mp hy).1
      rw[Z9]at this
      lia
     change bn _ _ _ [!l,!m,!b,!a,!w,o5,!G,!ld,-x,some (.ref t.1)] v;show ak λdg c5 _=>?_
     lk;let one:∀y,(t::ts.drop (j+1)).countP (λt=>decide (t.2[0]?∣y))=((ts.drop (j+1)).countP λt=>decide (t.2[0]?∣y)) +if y=n then 1 else 0:=λy=>by
      rw[countP_cons,et];by_cases c:y=n
      .rw[if_pos c,if_pos (by rw[c];simp)]
      .rw[if_neg c,if_neg (by simpa using λq=>c q.symm)]
     show%[_,SqT.of u,_,ρ,_,get,_,ρ,_,SqT.of u,_,ρ,_,iH.k (k:=Sum.inr n) J (by unfold VD;rw[Z6];exact aH ⋯)|c5 _ _ (aB λdk ca _=>?_)];rw[Ik hn];let e1:(λy=>if y=n then V.int (((cnt ss (L++[x]) n+(t::ts.drop (j+1)).countP λt=>decide (t.2[0]?∣n):Nat):Int) -1)else V.int ((cnt ss (L++[x]) y+(t::ts.drop (j+1)).countP λt=>decide (t.2[0]?∣y):Nat):Int))=λy=>V.int ((cnt ss (L++[x]) y+(ts.drop (j+1)).countP λt=>decide (t.2[0]?∣y):Nat):Int):=funext λy=>by
      rw[one,one];by_cases c:y=n
      .rw[if_pos c,c,if_pos rfl]
       congr 1
       lia
      .rw[if_neg c,if_neg c];rfl
     rw[e1];let v1:=ah.set (o:= .dK (VD d λy=>V.int ((cnt ss (L++[x]) y+(ts.drop (j+1)).countP λt=>decide (t.2[0]?∣y):Nat):Int))) a0 fw;let a1:JO v w (.dK (VD d λy=>V.int ((cnt ss (L++[x]) y+(ts.drop (j+1)).countP λt=>decide (t.2[0]?∣y):Nat):Int))) w=_:=ae;let ag:∀c o,c≠w->v c∣o->JO v w (.dK (VD d λy=>V.int ((cnt ss (L++[x]) y+(ts.drop (j+1)).countP λt=>decide (t.2[0]?∣y):Nat):Int))) c∣o:=λc o h e=>(au h)▸e
     generalize JO v w (.dK (VD d λy=>V.int ((cnt ss (L++[x]) y+(ts.drop (j+1)).countP λt=>decide (t.2[0]?∣y):Nat):Int)))=H9 at v1 a1 ag
     let u:=ag _ _ (λc=>by rw[c,J]at u;cases u) u;let B:=ag _ _ c2 B;let Y:=ag _ _ b5.symm Y;let C:=ag _ _ a5.symm C;let get:=dM.k (k:=Sum.inr n) a1;rw[jX hn]at get;let cd:n∉L++[x] ++Rj:=λc=>by
      let:=((rz n).mp c).2;rw[one,if_pos rfl]at this
      lia
     let a3:∀y,y≠n->(y∈L++[x] ++Rj↔y∈d/\cnt ss (L++[x]) y+((ts.drop (j+1)).countP λt=>decide (t.2[0]?∣y))=0):=λy c=>by
      rw[rz y,one,if_neg c];rfl
     lk;show%[_,SqT.of u,_,ρ,_,get,ρ|bv (λh=>?_) λh=>?_]
     .let h:cnt ss (L++[x]) n+((ts.drop (j+1)).countP λt=>decide (t.2[0]?∣n))=0:=by
       let:=V.int.inj (Zo h)
       lia
      let tr:t.1≠G:=λc=>by rw[c,C]at u;cases u
      show%[tyL (JP.of C),_,SqT.of u,_,ρ,_,C,by rw[Z6];exact aH ⋯|ca _ _ %[%[_|ρ],ah.set v1 a6,(au c3).trans B,(au a5).trans a1,(au bb.symm).trans Y,Rj++[n],by rw[ae,Zd];rfl,?_|λy=>?_]]
      .rw[<-Ze,X3];exact%[rn,by simp|λa ha b hb c=>cd (by rw[<-Xp hb,<-c];exact ha)]
      .rw[<-Ze,Yu,X1];by_cases c:y=n
       .rw[c];exact%[λ_=>%[hn|h]|λ_=> .inr rfl]
       .rw[<-a3 y c];exact%[λq=>q.resolve_right c|.inl]
     .show ca _ _ %[%[_|rfl],v1,B,a1,Y,Rj,C,rn|λy=>?_];by_cases c:y=n
      .rw[c];exact%[λq=>absurd q cd|λq=>absurd (Zf (congrArg (λi:Nat=>V.int i) q.2)) h]
      .exact a3 y c
    .intro M v %[%[o9|rfl],a0,B,J,Y,Rj,C,rn|rz];rw[List.drop_length]at J rz;show c0 _ _ %[_,?_,o5,_,o9,L++[x],Rj,rfl,a0,J,C,Y,%[rn,rz,λi y hi y' e=>?_|λi y hi z hz nz e=>?_]|rfl]
     .rw[Z9,Yk]
      lia
     .by_cases il:i< ~~~L
      .rw[Y8 il]at hi;rw[Xe (Ye il)];exact r.ord i y hi y' e
      .let ie:i= ~~~L:=by
        let:=(Xn hi).1;rw[Z9,Yk]at this
        lia
       subst ie;rw[Y9 (Zi _),Xb,List.getElem?_cons_zero]at hi;obtain rfl:=Za hi;rw[Xe (Zi _),take_length];exact Dx ((r.mem x).mp (Yx _ hx)).2 e
     .by_cases il:i< ~~~L
      .rw[Y8 il]at hi;rw[Xe (Ye il)]at nz e;exact r.lst i y hi z hz nz e
      .let ie:i= ~~~L:=by
        let:=(Xn hi).1;rw[Z9,Yk]at this
        lia
       subst ie;rw[Y9 (Zi _),Xb,List.getElem?_cons_zero]at hi;obtain rfl:=Za hi;rw[Xe (Zi _),take_length]at nz e;exact cM z ((Xo ((r.mem z).mpr %[hz|Il aa e])).resolve_left nz)
   .show k7 _ _ ?_;lk;let R0:R=[]:=by
     cases R with
     | nil=>rfl
     | cons x R=>exact absurd (Zf (by rw[Zr];lia)) h
    subst R0;let mem:=r.mem;let nd:=r.nd;rw[Zx]at mem nd;show kk ld H5 L (N.trans sm) hL nd (λx hx=>((mem x).mp hx).1) r.ord (λx hx nx=>?_) r.lst (N.free fld);let:cnt ss L x≠0:=λc=>nx ((mem x).mpr %[hx|c])
    let%[t,ht|q]:=List.countP_pos_iff.mp (pos_of_ne_zero this);let%[a,b,z,e,_|hb]:=(aa t ht).2;rw[e]at q;simp only[Zv]at q;exact%[b,%[z|by rw[<-(Za (Zo q.1)),<-e];exact Xr %[t,ht|ρ]],hb|Zo q.2]
inductive wu
 | mk (l m ns ss):vs=[.ref l,.ref m]->H l<*ns\3->ns.Nodup-> ~~~ns<=63->H m∣.lst (ss\0)->dG H ns ss-> ~~~ss<=150->(∀r H' (us:ZB),ah H H'->H' r<*us\3->(∀x∈ns,Rch (ss\2) x x->x∈us)->Q (.ref r) H')->wu vs H Q E0
structure pP (H:Hp) (ks:List ZB) (ss:ZG) (r:Addr) (ws:ZG) (x:Str):Prop where
 at_:H r∣.lst (ws\0)
 sub:∀t∈ws,t∈ss
 sho:Sho ks x x (ws\2)
 len: ~~~ws<=200
def pP.up(h:pP H ks ss r ws x)(s:ah H a):pP a ks ss r ws x:=%[s _ _ h.at_,h.sub,h.sho|h.len]
inductive wv
 | mk (l m ns ss):vs=[.ref l,.ref m]->H l<*ns\3->ns.Nodup-> ~~~ns<=63->H m∣.lst (ss\0)->dG H ns ss-> ~~~ss<=150->(∀H',ah H H'->(∀x,¬ Rch (ss\2) x x)->Q .non H')->(∀r H' ws x,ah H H'->H r=none->pP H' (ss\2) ss r ws x->(∀y n,Dst (ss\2) y (n+1) y-> ~~~ws<=n+1)->Q (.ref r) H')->wv vs H Q E0
def uy(T:Txt K mg):↥4 "never_laid" ["names","found"] wu:=by
 .exists T.aQ,qq,C,G,%[l,m,a,ss,rfl,n,I,nl,J,g,i|M];show%[_,%["JEI&~dAF]y_~FA0B_~FAH~=A0A1BBB",0|G]|?_];change jK _ _ [!l,!m] H;lk;show%[a,JP.of n,⋯|λp N=>?_];let b:=ah.JO (o:=eL w p (aC a)) N;let y:JO H p (eL w p (aC a)) p=_:=ae
  generalize JO H p (eL w p (aC a))=H1 at b y ⊢
  show%[l,m,a,ss,ρ,b _ _ n,I,nl,b _ _ J,g.up b,i|λr H2 L z O U Y j _ _ _=>?_];let Ll:=_ST.nodup_sub U Y;show%[r,ρ,L,JP.of O,⋯|λq fq=>?_];let B:=ah.JO (o:=eL w q (aC L)) fq;let fl:=_ST.nodup_sub (bF a) λx d=>aV.mp d
  show%[_,(B _ _ (z _ _ y)),_,ae,⋯|λu ms fu e mn=>%[ms,ae,?_|λv us fv pu _=>?_]]
  .let:=_ST.nodup_sub mn λx d=>aV.mp ((e x).mp d).1
   lia
  .show M v _ us (b.trans (z.trans (B.trans ((ah.JO fu).trans (ah.JO fv))))) ae λx d rx=>?_
   rw[pu.mem_iff,e];exact%[aV.mpr d|λc=>Fj j (aV.mp c) rx]
def ww{d:ZB}{ss:ZG}(h:∀t∈ss,dF d t.2){x y:Str}(r:Rch (ss\2) x y):x∈d:=by
 induction r with
 | one e=>
   let%[z|g]:=e;let%[t,i|f]:=Xq g;let%[a,b,c,e,j|_]:=h t i;rw[e]at f;exact((List.cons.inj f).1)▸j
 | more _ _ l=>exact l
def iG(T:Txt K mg):↥5 "shortest_ring" ["names","found"] wv:=by
 .exists T.aP,bW,ag,hr,%[l,m,O,ss,rfl,hl,nn,nl,hm,c,z,kn|ky];show%[_,%["JDG2H~<A1BDG3=DVTH]zA0A1BL4DG5H]!A2A4A4BEQc%K~X5=+cwK~>3='K/ZaA5BZaA3BEG35REI3",bW.nd|hr]|?_]
  change bn _ _ _ [!l,!m,none,none,none,none] H;show ak λD1 k1 _=>?_
  lk;show%[m,O,ss,ρ,hm,c,z|λb H1 U fb hb=>k1 _ _ (ak λD2 k2 _=>?_)];lk;show k2 _ _ (ak λD3 k3 _=>ay λac hK=>?_);lk;show%[l,m,O,ss,ρ,U _ _ hl,nn,nl,U _ _ hm,c.up U,z|λr H2 us s2 G I=>%[r,ρ,%[_|JP.of G]|hK _ _ ?_]];let g:=U.trans s2;show cu (λi Y o=>(∃v o4 o5,Y=[!l,!m,!b,some v,o4,o5]/\((v= .non/\∀x∈us.take i,¬ Rch (ss\2) x x)\/∃q ws x,v= .ref q/\H q=none/\pP o (ss\2) ss q ws x/\∀y∈us.take i,∀n,Dst (ss\2) y (n+1) y-> ~~~ws<=n+1))/\ah H2 o)
   %[%[_,_,_,rfl|.inl %[rfl|λx hx=>(nomatch hx)]]|λ_ _ e=>e] (λi Y o h=>h.2 _ _ G) ?_ ?_
  .intro i n Y o hn %[%[v,o4,o5,rfl|J]|j];let tk:us.take (i+1)=us.take i++[n]:=by rw[Xc,hn];rfl
   change bn _ _ _ [!l,!m,!b,some v,-n,o5] o;show ak λD4 k4 _=>?_
   lk;show%[b,n,n,O,ss,ρ,hb.up (s2.trans j),c.up (g.trans j),z,λH3 B nr=>k4 _ _ (aB λD5 k5 _=>?_)|λq H3 ws B L C sub rr rl=>k4 _ _ (aB λD5 k5 _=>?_)]
   .lk;rw[if_neg ∅];show k5 _ _ %[%[v,_,_,rfl|J.imp (λh=>%[h.1|λx hx=>?_]) λ⟨q,ws,x,e,L,C,p⟩=>%[q,ws,x,e,L,C.up B|λy a m d=>?_]]|j.trans B]
    .rw[tk]at hx;rcases Xo hx with h'|h'
     .exact h.2 x h'
     .rw[Xp h'];exact nr
    .rw[tk]at a;rcases Xo a with h'|h'
     .exact p y h' m d
     .rw[Xp h']at d;exact(nr d.rch).elim
   .lk;rw[if_pos ∅];let wl:∀zs:ZG,~~~(zs\0)= ~~~zs:=λzs=>Z6 _
    let u:=λm d=>by
     let:=rr.min m d;rwa[Z6]at this
    let put:(∀y∈us.take i,∀m,Dst (ss\2) y (m+1) y-> ~~~ws<=m+1)->D5.nx [!l,!m,!b,!q,-n,!q] H3:=λp=>k5 _ _ ⟨%[_,_,_,rfl|.inr ⟨q,ws,n,rfl,(g.trans j).free L,%[C,sub,rr|rl],λy a m d=>by
     rw[tk]at a;rcases Xo a with h'|h'
     .exact p y h' m d
     .rw[Xp h']at d;exact u m d⟩],j.trans B⟩
    rcases J with⟨rfl,aa⟩|⟨q',M,x',rfl,ab,N,p⟩
    .rw[if_pos ∅];exact put λy a m d=>(aa y a d.rch).elim
    .rw[if_neg ∅];show%[_,.inl %[_,JP.of C|(wl ws).symm],_,.inl %[_,JP.of (B _ _ N.at_)|(wl M).symm]|bv (λlt=>put λy a m d=>?_) λlt=>k5 _ _ %[%[_,_,_,ρ|.inr %[q',M,x',ρ,ab,N.up B|λy a m d=>?_]]|j.trans B]]
     .let:=p y a m d;let:=Zo lt
      lia
     .rw[tk]at a;rcases Xo a with h'|h'
      .exact p y h' m d
      .rw[Xp h']at d;let:=u m d
       lia
  .intro Y o %[%[v,o4,o5,rfl|J]|j];rw[Zn (Zi _)]at J;show k3 _ _ ?_;lk;rcases J with⟨rfl,h⟩|⟨q,ws,x,rfl,L,C,p⟩
   .exact kn o (g.trans j) λx rx=>h x (I x (ww (λt ht=>(c t ht).2) rx) rx) rx
   .exact ky q o ws x (g.trans j) L C λy n d=>p y (I y (ww (λt ht=>(c t ht).2) d.rch) d.rch) n d
abbrev JM(ws:ZG):Prop:=∀p∈ws,~~~p.2<=3/\∀z∈p.2,Sml z
inductive uz (C:Addr)
 | mk (a r:Addr) (ws:ZG):vs=[.ref a,.ref r]->H r∣.lst (ws\0)->aM H ws-> ~~~ws<=200->JM ws->H a∣ExO a C none->(∀l d,H l=none->H d=none->d≠l->Q .non (JO (JO (JO H l (.lst (ws\0))) a (ExO a C (some d))) d (.xd [("ring",.ref l)])))->uz C vs H Q E0
def C_Torn(T:Txt K mg):Hf P w K mg base 1 "Torn" ["self","ring"] (uz (aL mg "Torn")):=by
 show T.x_Torn.cal t9 (by intro a b c d h;let%[_,_,_,rfl|_]:=h;rfl) (λf m A outer s H vs Q E n g h=>?_)
 .let%[a,r,ws,rfl,i,o,p,u,j|q]:=h;show%[_,(QSs.h (aj (cf rfl (Hj (C:=aL mg "Torn") n rfl T.c_DigError T.i_DigError rfl rfl %[_|ρ] #[↑0,Cf (pjE df (pjE (JC g.gd g.units ↑1) Ce))]))
   (ap (Jg (C:=aL mg "Torn") T.f_Torn_ring rfl ↑0 (ctO (gQ (K:=K) rfl) T.a5 boot_list rfl #[↑1])))))|?_]
  change bn _ _ _ [!a,!r] H;lk;let y:(Str.empty++Str.ofString "torn by the ring ").length=17:=!0
  show%[by rw[PySem.sizeLine_eq];lia,r,ws,ρ,i,o,p,u|λz B=>%[z,ρ,by rw[strLen_append,PySem.sizeLine_eq];lia,by rw[strLen_append,PySem.sizeLine_eq];lia,by simp,%[_|j]|?_]];show%[r,ρ,_,.inl (JP.of i)|λl b=>%[a,ρ,ah.JO b _ _ j|λd c v=>?_]];let dl:d≠l:=λe=>by rw[e,ae]at c;cases c
  rw[au dl]at c;exact q l d b c dl
def yk{C r:Addr}{ws:ZG}{H c:Hp}{y:_LL.St}{D:fU}{t:TA}{E:XK}(m:ah H c)(I:c r∣.lst (ws\0))(J:aM c ws)(f: ~~~ws<=200)(L:JM ws)(M:∀Q:ZM->Hp->Prop,Q [.ref r] c->t y c Q)
 (k:∀d l g,ah H g->ah c g->H d=none->H l=none->d≠l->g d∣.xd [("ring",.ref l)]->g l∣.lst (ws\0)->E (.ref C) (some d) g):
 tK C (xF C (uz C) t) (λa A=>∃d,A a∣ExO a C (some d)/\H a=none/\E (.ref C) (some d) (drop A a)) D y c:=by
 show M _ %[by simp|λx q=>?_];let B:=ah.JO (o:=ExO x C none) q;show%[x,r,ws,ρ,B _ _ I,aT J λb z e=>B _ _ e,f,L,ae|λl d f n h=>?_];let s:l≠x:=λe=>by rw[e,ae]at f;cases f
 let p:d≠x:=λe=>by rw[e,ae]at n;cases n
 let i:c l=none:=by rw[au s]at f;exact f
 let j:c d=none:=by rw[au p]at n;exact n
 let v:∀b,b≠x->b≠l->b≠d->drop (JO (JO (JO (JO c x (ExO x C none)) l (.lst (ws\0))) x (ExO x C (some d))) d (.xd [("ring",.ref l)])) x b=c b:=λb n1 N O=>by
  rw[bQ n1,au O,au n1,au N,au n1]
 let G:ah c (drop (JO (JO (JO (JO c x (ExO x C none)) l (.lst (ws\0))) x (ExO x C (some d))) d (.xd [("ring",.ref l)])) x):=λb u e=>by
  rw[v b (aE e q) (aE e i) (aE e j)];exact e
 show%[ρ,x,d,ρ,?_,d,?_,m.free q|k d l _ (m.trans G) G (m.free j) (m.free i) h ?_ ?_]
 .rw[au p.symm,ae]
 .rw[au p.symm,ae]
 .rw[bQ p,ae]
 .rw[bQ s,au h.symm,au s,ae]
def jY{S:Str->Str->Prop}(h:ci S z m)(c:cK S z x):ci S x m:=%[c.symm.trans h.1|λy d=>h.2 y (c.trans d)]
def jf(h:cE H ls qs)(a b:Str)(s:bu qs a b):a∈ls/\b∈ls:=by
 let%[q,d|e]:=s;rcases(h q d).2 with⟨wd,x,y,c,_,f,g,_⟩|⟨wd,x,y,c,_⟩
 .rw[c]at e;simp only[List.cons.injEq,V.str.injEq,and_true]at e;rw[<-e.2.1,<-e.2.2];exact%[f|g]
 .rw[c]at e;simp at e
structure iJ (mg:ZC) (H:Hp) (g:Addr) (qs:ZN) (ls:ZB) (ts:ZG):Prop where
 gr:∃c2 c3 c4,GrF mg H g c2 c3 c4 qs ls ts
 nd:ls.Nodup
 so:ls.Pairwise (λa b=>aP b a=false)
 ll: ~~~ls<=63
 tl: ~~~ts<=150
 t3:∀k∈ts\2,dF ls k
 sm:∀k∈ts\2,∀z∈k,Sml z
 lm:∀z∈ls,Sml z
def iJ.up(h:iJ mg H g qs ls ts)(s:ah H a):iJ mg a g qs ls ts:=by
 let%[b,c,d|e]:=h.gr;exact%[%[b,c,d|e.up s],h.nd,h.so,h.ll,h.tl,h.t3,h.sm|h.lm]
def iJ.ends(h:iJ mg H g qs ls ts)(f:cm (bu qs) (ts\2) lk)(i:k∈lk):∃a b z,k=[a,b,z]/\(a∈ls/\ci (bu qs) a a)/\b∈ls/\ci (bu qs) b b:=by
 let%[q,r,s|j]:=h.gr;let%[a,b,z,l,m,n,c,d|rfl]:=(f.mem k).mp i;let%[x,y,u,e,o|p]:=h.t3 _ n;simp only[List.cons.injEq,and_true]at e;let%[rfl,rfl|rfl]:=e;let ws:=jf j.sa;exact%[l,m,z,ρ,%[c.1.within ws o|jY c c.1],d.1.within ws p|jY d d.1]
def iJ.short(h:iJ mg H g qs ls ts)(d:cm (bu qs) (ts\2) lk)(f:k∈lk): ~~~k<=3/\∀z∈k,Sml z:=by
 let%[o,p,q|i]:=h.gr;let%[a,b,z,r,s,c,j,l|rfl]:=(d.mem k).mp f;let%[x,y,u,e,m|n]:=h.t3 _ c;simp only[List.cons.injEq,and_true]at e;let%[rfl,rfl|rfl]:=e;let ws:=jf i.sa;exact%[Zi _|HZ (h.lm _ (j.1.within ws m)) (h.lm _ (l.1.within ws n)) (h.sm _ c z ∅)]
def iJ.names(h:iJ mg H g qs ls ts)(d:cm (bu qs) (ts\2) lk)(c:wo (bu qs) ls f):∀k∈lk,dF f k:=λk i=>by
 let%[a,b,z,e,j|l]:=h.ends d i;exact%[a,b,z,e,(c.mem a).mpr j|(c.mem b).mpr l]
def iJ.ties(h:iJ mg H g qs ls ts)(c:cm (bu qs) (ts\2) lk):∀k∈lk,dF ls k:=λk d=>by
 let%[a,b,z,e,f|i]:=h.ends c d;exact%[a,b,z,e,f.1|i.1]
def pQ(a:aM H ss)(h:∀k∈ss\2,dF b k):dG H b ss:=λt q=>%[(a t q).2|h _ (Xr %[t,q|rfl])]
inductive sC (mg:ZC)
 | mk (g:Addr) (qs:ZN) (ls:ZB) (ts:ZG):vs=[.ref g]->iJ mg H g qs ls ts->(∀lk,cm (bu qs) (ts\2) lk->∀x,¬ Rch lk x x)->(∀l H' ns (ss:ZG),ah H H'->H' l∣.lst (ss\0)->dG H' ns ss-> ~~~ss<=150->cm (bu qs) (ts\2) (ss\2)->Q (.ref l) H')->sC mg vs H Q E0
def _root_._CU.Sho.same{ks ms us:List ZB}{a b:Str}(h:Sho ks a b us)(e:∀k,k∈ks↔k∈ms):Sho ms a b us:=%[λk c=>(e k).mp (h.sub k c),h.wal,h.pos|by rw[<-pK e];exact h.min]
structure yl (H:Hp) (lk:List ZB) (d l:Addr) (ws:ZG) (x:Str):Prop where
 ad:H d∣.xd [("ring",.ref l)]
 al:H l∣.lst (ws\0)
 tu:aM H ws
 sho:Sho lk x x (ws\2)
 min:∀y n,Dst lk y (n+1) y-> ~~~ws<=n+1
 len: ~~~ws<=200
inductive zu (mg:ZC) (vs:ZM) (H:Hp) (Q:VK) (E:XK):Prop
 | mk (g:Addr) (qs:ZN) (ls:ZB) (ts:ZG) (lk:List ZB) (us:ZM):vs=[.ref g]->iJ mg H g qs ls ts->cm (bu qs) (ts\2) lk->(∃x,Rch lk x x)->(∀d l H' ws x,ah H H'->H d=none->H l=none->d≠l->yl H' lk d l ws x->E (.ref (aL mg "Torn")) (some d) H')->zu mg vs H Q E
def jh(T:Txt K mg):↥6 "untorn_links" ["ground"] (sC mg):=by
 .exists T.aR,cc,C,d,%[g,qs,ls,ts,rfl,a,nr|G];let%[i,j,n|o]:=a.gr;let O:=a.ll;show%[_,%["JDG1H~^A0BDG2H~_AH~YA0BA1BDQK~X2=E>REI1",cc.nd|d]|?_]
  change bn _ _ _ [!g,none,none] H;show ak λU k1 _=>?_
  lk;show%[g,i,j,n,qs,ls,ts,ρ,o,a.nd,a.so,⋯,a.tl,a.t3|λm Y ss p fm q I lk u=>k1 _ _ (ak λD2 k2 _=>?_)];lk;show%[g,i,j,n,qs,ls,ts,ρ,o.up p,a.nd,a.so,⋯|λl H2 v e fl J c=>?_];let y:=pQ I (a.names lk c);show%[l,m,v,ss,ρ,J,c.nd,?_,e _ _ q,y.up e,u,λz B _=>k2 _ _ (ak λD3 L _=>?_)|λr z ws x B _ M _=>(nr _ lk x M.sho.rch).elim]
  .let:=_ST.nodup_sub c.nd λx N=>((c.mem x).mp N).1
   lia
  .lk;rw[if_neg ∅];show L _ _ ?_;lk;let b:=e.trans B;exact G m z v ss (p.trans b) (b _ _ q) (y.up b) u lk
def fA(T:Txt K mg):Cd P w K mg base 7 "untorn_links" ["ground"] (zu mg):=by
 let%[_,_,b|_]:=T.x_Torn.ini;show T.aR.calX cc (λH vs Q E h=>?_)
 .let%[g,qs,ls,ts,lk,us,rfl,a,y,%[x0|o]|kk]:=h;show%[ρ|λf aa A outer s p=>?_];let%[L,M,N|O]:=a.gr;let ll:=a.ll;show%[_,%["JDG1H~^A0BDG2H~_AH~YA0BA1BDQK~X2=E]$]%]&A2BREI1",cc.nd|p]|?_]
  change bn _ _ _ [!g,none,none] H;show ak λD1 k1 _=>?_
  lk;show%[g,L,M,N,qs,ls,ts,ρ,O,a.nd,a.so,⋯,a.tl,a.t3|λm H1 ss U fm hm z i sl=>k1 _ _ (ak λD2 k2 _=>?_)];let e:=i.mm y;rw[<-lh e]at o;lk;show%[g,L,M,N,qs,ls,ts,ρ,O.up U,a.nd,a.so,⋯|λl H2 ns u fl hl v=>?_];let la:=pQ z (a.names i v);let B:=U.trans u;show%[l,m,ns,ss,ρ,hl,v.nd,?_,u _ _ hm,la.up u,sl,λY C nr=>(nr _ o).elim|λr Y ws x C _ j mn=>k2 _ _ (ak λD3 k3 _=>?_)]
  .let:=_ST.nodup_sub v.nd λx G=>((v.mem x).mp G).1
   lia
  .lk;rw[if_pos ∅];let I:=B.trans C;let inl:∀t∈ws,t.2∈ss\2:=λt c=>Xr %[t,j.sub t c|rfl]
   let n:aM Y ws:=λt c=>%[(z t (j.sub t c)).1|C _ _ (u _ _ (z t (j.sub t c)).2)]
   show yk I j.at_ n j.len (λt c=>a.short i (inl t c)) (λQ q=>?_) λd l H4 s4 s5 hd J dl G hL=>kk d l H4 ws x s4 hd J dl %[G,hL,λt c=>%[(n t c).1|s5 _ _ (n t c).2],j.sho.same e,by rw[<-pK e];exact mn|j.len]
   lk;exact q
structure sD (ks:List ZB) (ns L:ZB):Prop where
 nd:L.Nodup
 mem:∀x,x∈L↔x∈ns
 ord:∀(i:Nat) x,L[i]?∣x->∀y,Ed ks x y->y∈L.take i
 lst:ux ks ns L
def sD.one{ks:List ZB}{m ms L M:ZB}(h:sD ks m L)(g:sD ks ms M)(e:∀x,x∈m↔x∈ms):L=M:=by
 let len: ~~~L= ~~~M:=Nat.le_antisymm (_ST.nodup_sub h.nd λx d=>(g.mem x).mpr ((e x).mp ((h.mem x).mp d))) (_ST.nodup_sub g.nd λx d=>(h.mem x).mpr ((e x).mpr ((g.mem x).mp d)));let fresh:∀{L:ZB},L.Nodup->∀{i:Nat} {x:Str},L[i]?∣x->x∉L.take i:=λ{L} nd {i x} d c=>by
  rw[<-Xd i L,X3]at nd;exact nd.2.2 x c x (Z8 (i:=0) (by rw[Yb];exact d)) rfl
 let step:∀i,i<= ~~~L->L.take i=M.take i:=λi=>by
  induction i with
  | zero=>exact λ_=>rfl
  | succ i f=>
    intro hi;let f:=f ⋯;obtain⟨x,d⟩:∃x,L[i]?∣x:=%[_|Z4 ⋯]
    obtain⟨y,j⟩:∃y,M[i]?∣y:=%[_|Z4 ⋯]
    let q:x=y:=by
     by_cases c:x=y
     .exact c
     .let a:=g.lst i y j x ((e x).mp ((h.mem x).mp (Z8 d))) (f▸fresh h.nd d) λz l=>f▸h.ord i x d z l
      let b:=h.lst i x d y ((e y).mpr ((g.mem y).mp (Z8 j))) (f▸fresh g.nd j) λz l=>f▸g.ord i y j z l
      let:=c9 a c;rw[b]at this;cases this
    rw[Xc,Xc,f,d,j,q]
 let:=step L.length (Zi _);rwa[Zn (Zi _),Zn ⋯]at this
inductive wx (mg:ZC)
 | mk (g:Addr) (qs:ZN) (ls:ZB) (ts:ZG) (lk:List ZB):vs=[.ref g]->iJ mg H g qs ls ts->cm (bu qs) (ts\2) lk->(∀x,¬ Rch lk x x)->(∀r H' ns L,ah H H'->H r=none->H' r<*L\3->wo (bu qs) ls ns->sD lk ns L->Q (.ref r) H')->wx mg vs H Q E0
def uA(T:Txt K mg):↥7 "order" ["ground"] (wx mg):=by
 .exists T.aS,vV,C,p,%[g,qs,ls,ts,lk,rfl,i,j,nr|G];let%[I,J,M|N]:=i.gr;let ll:=i.ll;show%[_,%["JDG1H~|A0BEIH~=AH~YA0BA1B",vV.nd|p]|?_]
  change bn _ _ _ [!g,none] H;show ak λD1 k1 _=>?_
  lk;show%[g,qs,ls,ts,ρ,i,λO h'=>by rw[lh (h'.mm j)];exact nr|λl H1 ns ss z Y la sl m=>k1 _ _ ?_];let e:=m.mm j;rw[<-lh e]at nr;lk;show%[g,I,J,M,qs,ls,ts,ρ,N.up z,i.nd,i.so,⋯|λn H2 ms q fn hn d=>?_];let ml:=_ST.nodup_sub d.nd λx u=>((d.mem x).mp u).1
  let o:=z.trans q;show%[n,l,ms,ss,ρ,hn,d.nd,⋯,q _ _ Y,λt B=>%[q _ _ (la t B).1|i.names m d _ (Xr %[t,B|ρ])],sl|λr H3 L s3 hL Ln Ls v all lo fr=>?_];show G r H3 ms L (o.trans s3) (o.free fr) hL d %[Ln,λx=>%[Ls x|λu=>Decidable.byContradiction λc=>?_],by rw[<-ut e];exact v|by unfold ux;rw[<-ut e];exact lo];show HU (U:=ms.filter λy=>decide (y∉L)) (λy hy=>?_) nr (List.mem_filter.mpr %[u|Zf c]);let%[a|b]:=List.mem_filter.mp hy;let%[y',e,m1|m2]:=all y a (Zo b);exact%[y',List.mem_filter.mpr %[m1|Zf m2]|e]
def ym{S:Str->Str->Prop}{P:Str->Prop}{x y:Str}(h:cK S x y)(e:P x)(d: ¬ P y):∃a b,(S a b\/S b a)/\P a/\ ¬ P b/\cK S x a:=by
 induction h with
 | refl=>exact(d e).elim
 | @step y z c s f=>
   by_cases p:P y
   .exact%[y,z,s,p,d|c]
   .exact f p
structure Rnd (ls:ZB) (S:Str->Str->Prop) (f:Str->Str) (r:Nat):Prop where
 con:∀z∈ls,cK S z (f z)
 dn:∀z∈ls,aP z (f z)=false
 cnt:∀m∈ls,ci S m m->(∀z∈ls,cK S m z->f z=m)\/r+1<= ~~~(ls.filter λz=>decide (f z=m))
def Rnd.nil{ls:ZB}{S:Str->Str->Prop}:Rnd ls S id 0:=%[λz _=> .refl z,λz _=>c8 z|λm a _=> .inr (List.length_pos_of_mem (List.mem_filter.mpr %[a|Zf rfl]))]
structure Mid (ls:ZB) (S T:Str->Str->Prop) (f g:Str->Str):Prop where
 con:∀z∈ls,cK S z (g z)
 le:∀z∈ls,aP (f z) (g z)=false
 don:∀a b,T a b->aP (f a) (g b)=false/\aP (f b) (g a)=false
def eV{x y z:Str}(b:aP y x=false)(a:aP z y=false):aP z x=false:=by
 cases h:aP z x
 .rfl
 .by_cases e:y=x
  .rw[e,h]at a;cases a
  .rw[dE h (c9 b e)]at a;cases a
def Mid.step{ls:ZB}{S T:Str->Str->Prop}{f g:Str->Str}{a b:Str}(h:Mid ls S T f g)(ws:∀x y,S x y->x∈ls/\y∈ls)(s:S a b)(sub:∀x y,T x y->S x y){v:Str}(j:v=if aP (g b) (g a)=true then g b else g a):
 Mid ls S (λx y=>T x y\/(x=a/\y=b)) f (λx=>if x=b then v else if x=a then v else g x):=by
 let%[l|m]:=ws _ _ s;let v1:aP (g a) v=false:=by
  rw[j];split
  .cases q:aP (g a) (g b)
   .rfl
   .rename_i c;let:=dE c q;rw[c8]at this;cases this
  .exact c8 _
 let n:aP (g b) v=false:=by
  rw[j];split
  .exact c8 _
  .rename_i c;simpa using c
 let o:cK S a v:=by
  rw[j];split
  .exact(cK.one (.inl s)).trans (h.con b m)
  .exact h.con a l
 let d:∀x∈ls,aP (g x) (if x=b then v else if x=a then v else g x)=false:=λx _=>by
  split
  .rename_i e;rw[e];exact n
  .split
   .rename_i e;rw[e];exact v1
   .exact c8 _
 show%[λz i=>?_,λz i=>eV (d z i) (h.le z i)|λx y t=>?_]
 .split
  .rename_i e;rw[e];exact(cK.one (.inr s)).trans o
  .split
   .rename_i e;rw[e];exact o
   .exact h.con z i
 .rcases t with t|⟨rfl,rfl⟩
  .let%[p|r]:=ws _ _ (sub _ _ t);exact%[eV (d y r) (h.don x y t).1|eV (d x p) (h.don x y t).2]
  .show%[?_|?_]
   .rw[if_pos rfl];exact eV v1 (h.le x l)
   .rw[if_pos (rfl:x=x),ite_self];exact eV n (h.le y m)
def Rnd.step{ls:ZB}{S:Str->Str->Prop}{f g:Str->Str}{r:Nat}(h:Rnd ls S f r)(nd:ls.Nodup)(ws:∀x y,S x y->x∈ls/\y∈ls)(M:Mid ls S S f g):Rnd ls S g (r+1):=by
 show%[M.con,λz d=>eV (M.le z d) (h.dn z d)|λm n p=>?_];let i:∀{y},cK S m y->aP m y=false->y=m:=λ{y} c l=>by
  by_cases q:y=m
  .exact q
  .let:=c9 (p.2 _ c) q;rw[l]at this;cases this
 let j:∀z∈ls,f z=m->g z=m:=λz d e=>by
  let c:=h.con z d;let l:=M.le z d;rw[e]at c l;exact i (c.symm.trans (M.con z d)) l
 rcases h.cnt m n p with q|q
 .exact .inl λz d c=>j z d (q z d c)
 .by_cases all:∀z∈ls,cK S m z->f z=m
  .exact .inl λz d c=>j z d (all z d c)
  .obtain⟨z,d,c,ne⟩:∃z,z∈ls/\cK S m z/\f z≠m:=by
    simp only[Classical.not_forall]at all;let%[z,d,c|ne]:=all;exact%[z,d,c|ne]
   let B:f m=m:=i (h.con m n) (h.dn m n);let%[a,b,s,u,C|ca]:=ym (P:=λx=>f x=m) c B ne;let v:b∈ls:=s.elim (λs=>(ws _ _ s).2) λs=>(ws _ _ s).1
   let E:g b=m:=i ((ca.trans (.one s)).trans (M.con b v)) (by
    rcases s with s|s
    .let:=(M.don a b s).1;rwa[u]at this
    .let:=(M.don b a s).2;rwa[u]at this)
   let:=_ST.nodup_sub (l:=b::ls.filter λz=>decide (f z=m)) (m:=ls.filter λz=>decide (g z=m)) (nodup_cons.mpr %[λh=>C (Zo (List.mem_filter.mp h).2)|nd.sublist List.filter_sublist]) λx o=>by
    rcases mem_cons.mp o with rfl|o
    .exact List.mem_filter.mpr %[v|Zf E]
    .let%[A|G]:=List.mem_filter.mp o;exact List.mem_filter.mpr %[A|Zf (j x A (Zo G))]
   rw[Zr]at this;exact .inr ⋯
def Dy{ls:ZB}{S:Str->Str->Prop}(ws:∀x y,S x y->x∈ls/\y∈ls):∀(n:Nat) {z:Str},wg ls z<=n->z∈ls->∃m,ci S z m:=λn=>by
 induction n with
 | zero=>
   intro z f a;show%[z,.refl z|λy c=>?_];cases q:aP y z
   .rfl
   .let:=pH (c.within ws a) q
    lia
 | succ n g=>
   intro z f a;by_cases all:∀y,cK S z y->aP y z=false
   .exact%[z,.refl z|all]
   .simp only[Classical.not_forall]at all;let%[y,c|q]:=all;let b:=c.within ws a;let:=pH b ↑q;let%[m|e]:=g ⋯ b;exact%[m,c.trans e.1|λu d=>e.2 u (c.symm.trans d)]
def Rnd.done{ls:ZB}{S:Str->Str->Prop}{f:Str->Str}(h:Rnd ls S f ls.length)(ws:∀x y,S x y->x∈ls/\y∈ls){z:Str}(b:z∈ls):f z∈ls/\ci S z (f z):=by
 let%[m|a]:=Dy ws _ (Zi _) b;let d:=a.1.within ws b;let e:f z=m:=by
  rcases h.cnt m d %[.refl m|λy c=>a.2 y (a.1.trans c)]with q|q
  .exact q z b a.1.symm
  .let:=Yi (λz=>decide (f z=m)) ls
   lia
 rw[e];exact%[d|a]
def Im{h:Str->V}{z:Str}{v:V}{ls:ZB}(a:z∉ls):cR (ls.map λz=>((Sum.inr z:Key),h z)) (Sum.inr z) v=(ls.map λz=>((Sum.inr z:Key),h z)) ++[(Sum.inr z,v)]:=by
 unfold cR;rw[if_neg];rw[any_eq_true];rintro⟨e,b,c⟩;let%[x,d|rfl]:=Xq b;exact a (Sum.inr.inj (Zo c)▸d)
def uB{h:Str->V}:∀{ms ls:ZB},(ls++ms).Nodup->(ms.map λz=>((Sum.inr z:Key),h z)).foldl (λacc a=>cR acc a.1 a.2) (ls.map λz=>((Sum.inr z:Key),h z))=(ls++ms).map λz=>((Sum.inr z:Key),h z)
 |[],ls,_=>by simp
 | m::ms,ls,nd=>by
   let nm:m∉ls:=λq=>(nodup_append.mp nd).2.2 m q m Zm rfl
   rw[Yr,Y7,Im nm,show(ls.map λz=>((Sum.inr z:Key),h z)) ++[(Sum.inr m,h m)]=(ls++[m]).map λz=>((Sum.inr z:Key),h z) by simp,uB ↑nd];simp
def wz{h:Str->V}{ls:ZB}(nd:ls.Nodup){ps:List (Addr×Str×V)}(e:ps\2=ls.map λz=>(z,h z)):kB ps=ls.map λz=>((Sum.inr z:Key),h z):=by
 let a:=congrArg (List.map λq:Str×V=>((Sum.inr q.1:Key),q.2)) e;rw[Yt,Yt]at a;rw[show kB ps=(ps.map ((λq:Str×V=>((Sum.inr q.1:Key),q.2)) ∘ (·.2))).foldl (λacc b=>cR acc b.1 b.2) [] by rw[List.foldl_map];rfl,a];exact uB (ls:=[]) ↑nd
def yn{H:Hp}{a:Addr}{o:Obj}{b:List (Key×V)}{k:Key}(e:H a∣.frz o (.dK b)):dM H a (kV k) (cF b k):= .inl %[b,k,.inr %[o|e],rfl|rfl]
inductive pR
 | mk (l m:Addr) (ls:ZB) (qs:ZN):vs=[.ref l,.ref m]->H l∣.lst (qs\0)->H m<*ls\3->cE H ls qs->ls.Nodup-> ~~~ls<=63->(∀d H' f,ah H H'->H d=none->H' d∣.dK (NmD ls f)->(∀z∈ls,f z∈ls/\ci (bu qs) z (f z))->Q (.ref d) H')->pR vs H Q E0
def qz(T:Txt K mg):↥1 "_law_called" ["_law_sayings","_law_layers"] pR:=by
 .exists T.bo,dq,al,hr,%[l,m,ls,qs,rfl,hl,hm,sa,nd,an|kk];let qm: ~~~(qs\0)= ~~~qs:=Z6 _;let lm: ~~~(ls\3)= ~~~ls:=Z6 _;let ws:=jf sa;show%[_,%["JDG2~}~[Amd?1T1X0?2szA0A0BBDV*AZaA1BBL3EVT0L4EQKeU4CbDG5~O~+Aq2U4CAq2U4CBD<52U4CE<52U4CREI2",dq.nd,↑(["_law_layer"],[]),↑["_law_layer"]|hr]|?_]
  change bn _ _ _ [!l,!m,none,none,none,none] H;show ak λD1 k1 _=>?_
  lk;show aF λL hK=>?_
  lk;show%[%[_|JP.of hm]|hK _ _ λF hF=>?_];show cJ (λj vs u B=>(∃o1,u=[o1])/\ah H B/\B F<*vs/\∃ps:List (Addr×Str×V),vs=ps\0/\ps\2=(ls.take j).map (λz=>(z,V.str z))/\∀q∈ps,B q.1&&&[.str q.2.1,q.2.2])
   %[%[none|rfl],ah.JO hF,ae,[],rfl,rfl|λq I=>(nomatch I)] (λ_ _ _ B ab=>ab.2.1 _ _ hm) ?_ ?_
  .intro j vs u H4 hj %[%[o1|rfl],s3,aa,ps,hv,C|U];lk;show%[#[2]|λp hp=>?_];let r:=ah.JO (o:= .tup [V.str ls[j],V.str ls[j]]) hp;let gp:JO H4 p (.tup [V.str ls[j],V.str ls[j]]) p=_:=ae
   generalize JO H4 p (.tup [V.str ls[j],V.str ls[j]])=H6 at r gp ⊢
   let keep:=fO (ys:=vs++[V.ref p]) (r _ _ aa);let pl:=congrArg List.length C;rw[Z6,Z6,Ym]at pl;show CK.mk hj (r _ _ aa) (by rw[hv,Z6];exact aH ⋯) %[%[_|rfl],ah.set (s3.trans r) hF,ae,ps++[(p,ls[j],V.str ls[j])],by rw[hv,Zd];rfl,by rw[Zd,C,Xc,Z4 hj,Zd];rfl|λq I=>?_];rcases Xo I with h|h
   .exact keep _ _ (r _ _ (U q h))
   .rw[Xp h];exact keep _ _ gp
  intro vs u H3 %[_,s3,ac,ps,hv,C|U];rw[Zn (Zi _)]at C;show%[F,ρ,ps,by rw[<-hv];exact JP.of ac,U|λd hd=>k1 _ _ (ak λD2 k2 _=>ay λL hK=>?_)];rw[show kB ps=NmD ls id from wz nd C];let s4:=s3.trans (ah.JO (o:= .dK (NmD ls id)) hd);let gd:JO H3 d (.dK (NmD ls id)) d=_:=ae;let fd:=s3.free hd
  generalize JO H3 d (.dK (NmD ls id))=H4 at s4 gd
  lk;show%[~~~ls,.inl %[_,JP.of (s4 _ _ hm)|lm.symm],⋯,⋯|hK _ _ (cP (λi u B=>∃N O J f,u=[!l,!m,!d,N,O,J]/\ah H B/\B d∣.dK (NmD ls f)/\Rnd ls (bu qs) f i)
   %[_,_,_,id,ρ,s4,gd|.nil] ?_ ?_)]
  .intro i u H5 hi %[N,O,J,f,rfl,s5,Y|R];change wR _ _ _ _ [!l,!m,!d,some (.int (0+i)),O,J] H5;show aB λD6 k6 _=>ay λL hK=>?_
   lk;let ag:=s5 _ _ hl;show%[%[_|JP.of ag]|hK _ _ (cu (λj u B=>∃N O J g,u=[!l,!m,!d,N,O,J]/\ah H B/\B d∣.dK (NmD ls g)/\Mid ls (bu qs) (bu (qs.take j)) f g)
    %[_,_,_,f,ρ,s5,Y,R.con,λz _=>c8 _|λa b ⟨q,I,_⟩=>(nomatch I)] (λj u B ⟨_,_,_,_,_,q,_⟩=>q _ _ hl) ?_ ?_)]
   .intro j q u H6 I %[N,O,J,g,rfl,r,n|M];let%[q1|q2]:=sa q (Z8 I);let st:=SqT.of (K:=K) (r _ _ q1);let G:=pI I;change iM _ _ _ _ [!l,!m,!d,N,some (.ref q.1),J] H6;show aB λD7 k7 _=>?_
    lk;rcases q2 with⟨wd,a,b,e,hw,ha,hb,_⟩|⟨wd,a,y,e,hw,_⟩
    .rw[e]at st G;show%[_,st,_,ρ,ρ|bv (λh=>?_) λh=>?_]
     .let h:wd=Str.ofString "same":=↑h
      subst h;let get:∀y∈ls,dM H6 d (.str y) (some (.str (g y))):=λy hy=>by
       let:=dM.k (k:=Sum.inr y) n;rw[jc hy]at this;exact this
      let ai:bu qs a b:=%[q,Z8 I|e]
      show%[_,st,_,ρ,_,get a ha,_,st,_,ρ,_,get b hb,_,ρ,_,ρ|?_]
      generalize hv:(if aP (g b) (g a)=true then g b else g a)=v
      let hn: ~~~(NmD ls g)<sizeLine:=by unfold NmD;rw[Z6];exact aH ⋯
      let ne:q.1≠d:=λc=>by let:=r _ _ q1;rw[c,n]at this;cases this
      let P1:=iH.k (k:=Sum.inr a) (v:= .str v) n hn;rw[ur ha]at P1;show%[_,st,_,ρ,_,P1,_,SqT.of ((au ne).trans ((r _ _ q1).trans (by rw[e]))),_,ρ|?_];let P2:=iH.k (k:=Sum.inr b) (v:= .str v) (H:=JO H6 d (.dK (NmD ls λx=>if x=a then v else g x))) ae (by unfold NmD;rw[Z6];exact aH ⋯);rw[ur hb,yx]at P2;show%[_,P2|k7 _ _ %[_,_,_,_,ρ,ah.set r fd,ae|?_]];let M2:=M.step ws ai (λx y ⟨p,hp,e⟩=>%[p,Yz hp|e]) hv.symm;show%[M2.con,M2.le|λx y t=>M2.don x y (((G x y).mp t).imp id λe=>?_)];simp only[List.cons.injEq,V.str.injEq,and_true,true_and]at e;exact%[e.1.symm|e.2.symm]
     .let h:wd≠Str.ofString "same":=↑h
      show k7 _ _ %[_,_,_,g,rfl,r,n,M.con,M.le|λx y t=>M.don x y (((G x y).mp t).resolve_right λe=>h ?_)];simp only[List.cons.injEq,V.str.injEq]at e;exact e.1
    .rw[e]at st G;show%[_,st,_,ρ,ρ|?_];rw[if_neg (by rcases hw with rfl|rfl<;> decide)];show k7 _ _ %[_,_,_,g,rfl,r,n,M.con,M.le|λx y t=>M.don x y (((G x y).mp t).resolve_right λe=>?_)];simp at e
   .intro u H6 %[N,O,J,g,rfl,r,n|M];rw[Zn (Zi _)]at M;exact k6 _ _ %[_,_,_,g,rfl,r,n|R.step nd ws M]
  .intro u H5 %[N,O,J,f,rfl,s5,Y|R];show k2 _ _ ?_;lk;exact kk d H5 f s5 fd Y λz hz=>R.done ws hz
inductive sE
 | mk (l m:Addr) (ls:ZB) (qs:ZN):vs=[.ref l,.ref m]->H l∣.lst (qs\0)->H m<*ls\3->cE H ls qs->ls.Nodup-> ~~~ls<=63->(∀d H' f o,ah H H'->H d=none->H' d∣.frz o (.dK (NmD ls f))->(∀z∈ls,f z∈ls/\ci (bu qs) z (f z))->Q (.ref d) H')->sE vs H Q E0
def li(T:Txt K mg):↥1 "_law_called" ["_law_sayings","_law_layers"] sE:=
 (qz T).freeze.imp λvs H Q E ⟨l,m,ls,qs,b,g,i,j,n,p,q⟩=>%[l,m,ls,qs,b,g,i,j,n,p|λd y f r a s u=>%[[d]|λv=>q d _ f (v d) (λc o e=>(vM (λh=>by rw[Xp h,a]at e;cases e)).trans (r _ _ e)) a (yY Zm s) u]]
def Dz{u r:Str}{g:TG}{o:TS}{D:fU}{a:St}{H:Hp}(Pv:Nat->St->Hp->Prop)(s:Pv 0 a H)(z:r.cps.size=u.cps.size)
 (A:∀i c d T a H,u.cps[i]?∣c->r.cps[i]?∣d->Pv i a H->H T=none->g (.ref T) a (JO H T (.tup [.str ⟨([c].toArray)⟩,.str ⟨([d].toArray)⟩])) λb l=>o {D with nx:=Pv (i+1),ct:=Pv (i+1),bk:=D.nx} b l) (n:∀a H,Pv u.cps.size a H->D.nx a H):
 ∃W:Nat->Nat->St->Hp->Prop,(∃m,W 0 m a H)/\∀i m a H,W i m a H->
  ((Itz u r).stop i H/\D.nx a H)\/((Itz u r).go i H/\∃N:St->Hp->Prop,(∀f h,N f h->∃q,q<m/\W (i+1) q f h)/\∀x h,(Itz u r).yld i H x h->g x a h λb l=>o {D with nx:=N,ct:=N,bk:=D.nx} b l):=by
 show%[λi m a H=>m=u.cps.size-i/\i<=u.cps.size/\Pv i a H,%[u.cps.size,by simp,Xg _|s]|?_];intro i m a H %[rfl,hi|p];by_cases j:i<u.cps.size
 .show .inr %[%[j|⋯],Pv (i+1),λf h B=>%[u.cps.size-(i+1),⋯,rfl,j|B]|λv h y=>?_];let%[c,d,TT,C,n,E,rfl|rfl]:=y;exact A i c d TT a H C n p E
 .let e:i=u.cps.size:=by lia
  subst e;exact .inl %[%[Zi _,⋯|.inl rfl]|n a H p]
abbrev d8(a:List (List Key×V))(m:ZB->Prop):Prop:=∃ks:List ZB,a\1=ks.map (λk=>k.map Sum.inr)/\ks.Nodup/\∀k,k∈ks↔m k
def wA{c:List (List Key×V)}{m j:ZB->Prop}(h:d8 c m)(k:ZB)(v:V)(f:∀z,j z↔m z\/z=k):d8 (cR c (k.map Sum.inr) v) j:=by
 let%[ks,g,l|i]:=h;let n:(k.map (Sum.inr:Str->Key))∈c\1↔k∈ks:=by
  rw[g,mem_map]
  constructor
  .rintro⟨z,p,e⟩;rw[<-tR _ _ e];exact p
  .intro d;exact%[k,d|ρ]
 by_cases d:k∈ks
 .show%[ks,by rw[lJ,if_pos (n.mpr d)];exact g,l|λz=>?_];rw[i,f]
  constructor
  .exact .inl
  .rintro(e|e)
   .exact e
   .rw[e];exact(i k).mp d
 .show%[ks++[k],by rw[lJ,if_neg (λq=>d (n.mp q)),g,Zd];rfl,?_|λz=>?_]
  .rw[X3];exact%[l,by simp|λa o b r e=>by rw[Xp r]at e;rw[e]at o;exact d o]
  .rw[Yu,i,X1,f]
def eW{a:List (List Key×V)}{m b:ZB->Prop}(h:d8 a m)(e:∀k,m k↔b k):d8 a b:=by
 let%[ks,c,d|f]:=h;exact%[ks,c,d|λk=>(f k).trans (e k)]
def zv{a:List (List Key×V)}{m:ZB->Prop}{B:List ZB}(h:d8 a m)(s:∀k,m k->k∈B): ~~~a<= ~~~B:=by
 let%[ks,b,c|d]:=h;let:=_ST.nodup_sub c (m:=B) λk e=>s k ((d k).mp e)
 let l:=congrArg List.length b;rw[Z6,Z6]at l
 lia
def wB{rows:ZB}{i n:Nat}(h:i<=n){k:ZB}(a:k∈bh rows i):k∈bh rows n:=by
 unfold bh at a ⊢;let%[j,b|e]:=mem_flatMap.mp a;exact mem_flatMap.mpr %[j,mem_range.mpr (Zg (mem_range.mp b) h)|e]
def Fv{l:List (Nat×Nat)}{j:Nat}{k:ZB}(h:k∈(l.take j).filterMap eD):k∈l.filterMap eD:=by
 let%[p,a|e]:=mem_filterMap.mp h;exact mem_filterMap.mpr %[p,Yz a|e]
def Io{a:ZH}{i:Nat}{k:ZB}(h:k∈bq (a.take i)):k∈bq a:=by
 let%[p,b|e]:=mem_flatMap.mp h;exact mem_flatMap.mpr %[p,Yz b|e]
def Fw{p:Nat×Nat}{k:ZB}(h:eD p∣k):[p].filterMap eD=[k]:=by rw[Y1,h];rfl
def Fx{p:Nat×Nat}(h:eD p=none):[p].filterMap eD=[]:=by rw[Y1,h];rfl
def sF(n:Str):Str.empty++n=n:=fH (by change(([].toArray) ++n.cps).toList=_;simp)
def zw(n z:Str):n++Str.ofString "."++z=lnS n z:=by unfold lnS;rw[sF]
inductive sG
 | mk (l m u:Addr) (cs:ZH) (qs:ZN) (ls:ZB) (ks0:List ZB):vs=[.ref l,.ref m,.ref u]->H l<*cX cs->H m∣.lst (qs\0)->H u<*ls\3->cn H cs->cE H ls qs->ls.Nodup-> ~~~ls<=63-> ~~~qs<=60->(∀p∈cs,∀a,Let p.2.2 a->lnS p.2.1 (sgn a)∈ls)-> ~~~ks0<=150->(∀k∈ks0,dF ls k)->(∀k,k∈ks0↔k∈bq cs\/k∈db qs qs.length)->(∀r H' (ss:ZG),ah H H'->H r=none->H' r∣.lst (ss\0)->aM H' ss->cm (bu qs) ks0 (ss\2)-> ~~~ss<=150->Q (.ref r) H')->sG vs H Q E0
def wC(T:Txt K mg):↥2 "_law_links" ["_law_cuts","_law_sayings","_law_layers"] sG:=by
 .exists T.bp,bD,c4,hr,%[l,m,u,cs,qs,ls,U,rfl,hl,hm,hu,co,bt,nd,ct,c5,bI,b0,tok,a4|kk];let b1: ~~~(cX cs)= ~~~cs:=Z6 _;let cv: ~~~(qs\0)= ~~~qs:=Z6 _;show%[_,(QSs.h (aj (aK 3 bD.nd rfl (aS (li T) hr rfl #[↑1,↑2]))
   (aj (aK 4 bD.nd rfl Hy)
   (aj (cB PassesOwn.never rfl rfl (cS (K:=K) rfl ↑0) (eE (K:=K) rfl rfl rfl (gsE rfl (aG 5 bD.nd rfl) (gsE rfl (aG 6 bD.nd rfl) cG)))
   (aj (aK 7 bD.nd rfl (bmO (K:=K) plainAttrs_str PySem.F.slot_str_split PySem.F.type_str_split yM rfl ↑6 #[df]))
    (ap (cB PassesOwn.never rfl rfl (fX rfl T.aj rfl #[(opE n9 (cbO (cx (K:=K) rfl) T.a8 PySem.boot_len rfl #[↑7]) aw)]) (aG 8 bD.nd rfl)
    (ap (cB PassesOwn.never rfl rfl (BT rfl T.af rfl rfl #[(↑7>>↑8),(↑7>>(opE bd ↑8 aw))]) (eE (K:=K) rfl rfl rfl (gsE rfl (aG 9 bD.nd rfl) (gsE rfl (aG 10 bD.nd rfl) cG)))
     (ap (ifS (wT (jN (bj dO rfl ↑9 df) (fY (bj dO rfl ↑9 ↑10))))
      (ap (gu hr rfl eBl ↑4 (iI #[(cI hr (λ_ _=>rfl) ↑3 (opE ic (opE ic ↑5 df) ↑9)),(cI hr (λ_ _=>rfl) ↑3 (opE ic (opE ic ↑5 df) ↑10)),↑5])))
      aZ))))))))
   (aj (cB PassesOwn.never rfl rfl (fX rfl T.aj rfl #[(cbO (cx (K:=K) rfl) T.a8 PySem.boot_len rfl #[↑1])]) (aG 11 bD.nd rfl)
   (ap (ifS (bj cT rfl ((↑1>>↑11)*>aw) df)
    (ap (gu hr rfl eBl ↑4 (iI #[(cI hr (λ_ _=>rfl) ↑3 ((↑1>>↑11)*>aw)),(cI hr (λ_ _=>rfl) ↑3 ((↑1>>↑11)*>aw)),opE ic df (ctO ⟨sL⟩ T.ac boot_str rfl #[↑11])])))
    aZ)))
   (ap (aW (cbO (Aq rfl) T.a7 boot_sorted rfl #[↑4]))))))))|?_]
  change bn _ _ _ [!l,!m,!u,none,none,none,none,none,none,none,none,none] H;show ak λD0 k0 _=>?_
  lk;show%[m,u,ls,qs,ρ,hm,hu,bt,nd,ct|λd H0 g oo s0 fd a5 lg=>k0 _ _ (ak λD1 k1 _=>?_)];let get:∀{H':Hp},H' d∣.frz oo (.dK (NmD ls g))->∀y∈ls,dM H' d (.str y) (some (.str (g y))):=λ{H'} e y hy=>by
   let:=yn (k:=Sum.inr y) e;rw[jc hy]at this;exact this
  lk;intro L hL;show k1 _ _ (ak λD2 k2 _=>ay λag hK=>?_);lk;let s1:=ah.JO (o:= .dT []) hL;let nL:L≠d:=λe=>by rw[e,a5]at hL;cases hL
  let a3:∀X:List ZB,(∀t∈X,t∈U)->∀k,k∈X.map (dB g)->k∈U.map (dB g):=λX h k hk=>by
   let%[t,ht|e]:=Xq hk;exact Xr %[t,h t ht|e]
  let kl: ~~~(U.map (dB g))<=150:=by rw[Z6];exact b0
  show%[%[_|JP.of (s1 _ _ (s0 _ _ hl))]|hK _ _ (fW (λi σ H'=>∃o5 o6 o7 o8 o9 C,σ=[!l,!m,!u,!d,!L,o5,o6,o7,o8,o9,C,none]/\ah H0 H'/\∃G,H' L∣.dT G/\d8 G λk=>k∈(bq (cs.take i)).map (dB g))
   %[_,_,_,_,_,_,ρ,s1,[],ae,[],ρ,X6|λk=>Iff.rfl] (λi σ H' _ ⟨_,_,_,_,_,_,_,q,_⟩=>JP.of (q _ _ (s0 _ _ hl))) ?_ ?_)]
  .intro i x σ H1 hx %[o5,o6,o7,o8,o9,C,rfl,sm,G,al|an];let hi:i< ~~~cs:=by rw[<-b1];exact(Xn hx).1
   obtain⟨q,hq,rfl⟩:∃q,cs[i]?∣q/\x=V.ref q.1:=by
    unfold cX at hx;rw[Zl,Z4 hi]at hx;exact%[cs[i],Z4 hi|(Za hx).symm]
   let a6:=Z8 hq;let ab:=co q a6;let a7:∀S:List ZB,(∀k∈S,k∈bh q.2.2 (~~~q.2.2-1))->∀k∈bq (cs.take i) ++S.map (gF q.2.1),k∈U:=λS hS k hk=>by
    show(a4 k).mpr (.inl ?_);rcases Xo hk with e|e
    .exact Io e
    .let%[z,hz|rfl]:=Xq e;exact mem_flatMap.mpr %[q,a6|Xr %[z,hS z hz|rfl]]
   let b2:=kY ab.2.1;let as:=bI q a6;show%[_,SqT.of (sm _ _ (s0 _ _ ab.1)),ρ,_,_,ρ,_,_,ρ,ρ|?_];let B:=kU hq;obtain⟨⟨a,n,rows⟩,e⟩:∃z,z=q:=%[q|rfl]
   subst e;let%[_,_|J]:=ab;let J:cy rows:=J;let as:∀a,Let rows a->lnS n (sgn a)∈ls:=as;let a7:∀S:List ZB,(∀k∈S,k∈bh rows (~~~rows-1))->∀k∈bq (cs.take i) ++S.map (gF n),k∈U:=a7;let B:bq (cs.take (i+1))=bq (cs.take i) ++(bh rows (~~~rows-1)).map (gF n):=B;let b2: ~~~n<=8:=b2;let%[wd,w1,w2|b3]:=J.wide;let cM:=J.text;let b4:=J.split;let c7:=J.high;let da:=J.pos;change bn _ _ _ [!l,!m,!u,!d,!L,-n,some (.str (Str.join nl rows)),o7,o8,o9,C,none] H1
   generalize Str.join nl rows=z at cM b4
   show ak λD3 k3 _=>?_
   lk;show%[!1,Nat.le_trans (by lia: ~~~z+2<=5000) (!1)|λR hR=>k3 _ _ ?_];rw[show(!"\n")=nl from rfl,b4];let sR:=ah.JO (o:= .lst (rows\3)) hR;let gR:JO H1 R (.lst (rows\3)) R=_:=ae;let b5:=sR _ _ al;let b6:=sm.trans sR;let c0:R≠L:=λe=>by rw[e,al]at hR;cases hR
   generalize JO H1 R (.lst (rows\3))=dd at sR gR b5 b6
   show aB λD4 k4 _=>ay λag hK=>?_
   lk;let en:((~~~rows:Int) -1).toNat= ~~~rows-1:=by lia
   show%[~~~rows,.inl %[_,JP.of gR|by simp],⋯,⋯|?_];rw[en];show hK _ _ (cP (λj σ H2=>∃o8 o9 C,σ=[!l,!m,!u,!d,!L,-n,-z,!R,o8,o9,C,none]/\ah H0 H2/\H2 R<*rows\3/\∃G,H2 L∣.dT G/\d8 G λk=>k∈(bq (cs.take i) ++(bh rows j).map (gF n)).map (dB g))
    %[_,_,_,rfl,b6,gR,G,b5|eW an λk=>by rw[show bh rows 0=[]from rfl,map_nil,Zx]] ?_ ?_)
   .intro j σ H2 hj %[o8,o9,C,rfl,I,a0,M,O|N];let hj:j< ~~~rows-1:=hj;change wR _ _ _ _ [!l,!m,!u,!d,!L,-n,-z,!R,some (.int ((0:Int) +(j:Int))),o9,C,none] H2;rw[Int.zero_add];show aB λD5 k5 _=>ay λag hK=>?_
    lk;obtain⟨v,hv⟩:∃v,rows[j]?∣v:=%[rows[j]|by simp[show j< ~~~rows by lia]]
    obtain⟨r,aa⟩:∃r,rows[j+1]?∣r:=%[rows[j+1]|by simp[show j+1< ~~~rows by lia]]
    let ul:v.cps.size=wd:=b3 v (Z8 hv);let rl:r.cps.size=wd:=b3 r (Z8 aa);let aU:atI (rows\3) (j:Int)∣.str v:=bK (by rw[Zl,hv];rfl);let aR:atI (rows\3) ((j:Int) +1)∣.str r:=bK (j:=j+1) (by rw[Zl,aa];rfl);let g1:rows.getD j ⟨([].toArray)⟩=v:=by rw[Zc,hv];rfl
    let g2:rows.getD (j+1) ⟨([].toArray)⟩=r:=by rw[Zc,aa];rfl
    let b7:bh rows (j+1)=bh rows j++(List.zip v.cps.toList r.cps.toList).filterMap eD:=by rw[kR,g1,g2];rfl
    show%[_,JP.of a0,_,aU,_,JP.of a0,_,aR,v,ρ,r,ρ|hK _ _ (Dz (λt σ H3=>∃o9 C,σ=[!l,!m,!u,!d,!L,-n,-z,!R,some (.int (j:Int)),o9,C,none]/\ah H0 H3/\H3 R<*rows\3/\∃G,H3 L∣.dT G/\d8 G λk=>k∈(bq (cs.take i) ++(bh rows j++((List.zip v.cps.toList r.cps.toList).take t).filterMap eD).map (gF n)).map (dB g))
     %[_,_,ρ,I,a0,M,O|eW N λk=>by rw[List.take_zero,List.filterMap_nil,Zx]] ⋯ ?_ ?_)]
    .intro t c e TT σ H3 hc he %[o9,C,rfl,bb,bc,Y,bf|ac] hT;let sT:=ah.JO (o:= .tup [.str ⟨([c].toArray)⟩,.str ⟨([e].toArray)⟩]) hT;let b9:JO H3 TT (.tup [.str ⟨([c].toArray)⟩,.str ⟨([e].toArray)⟩]) TT&&&[.str ⟨([c].toArray)⟩,.str ⟨([e].toArray)⟩]:=ae;let ai:=bb.trans sT;let a1:=sT _ _ bc;let a2:=sT _ _ bf
     generalize JO H3 TT (.tup [.str ⟨([c].toArray)⟩,.str ⟨([e].toArray)⟩])=HT at b9 ai a1 a2
     show%[_,SqT.of b9,ρ,_,_,ρ,_,_,ρ,ρ|?_];change iM _ _ _ _ [!l,!m,!u,!d,!L,-n,-z,!R,some (.int (j:Int)),some (.str ⟨([c].toArray)⟩),some (.str ⟨([e].toArray)⟩),none] HT;show aB λD6 k6 _=>?_
     let nx:=pq v r t c e hc he;let stay:eD (c,e)=none->d8 Y λk=>k∈(bq (cs.take i) ++(bh rows j++((List.zip v.cps.toList r.cps.toList).take (t+1)).filterMap eD).map (gF n)).map (dB g):=λe=>eW ac λk=>by
      rw[<-nx,Y0,Fx e,Zx]
     lk;simp only[lT,ye];let c1:∀k∈bh rows j++((List.zip v.cps.toList r.cps.toList).take t).filterMap eD,k∈bh rows (~~~rows-1):=λk hk=>by
      rcases Xo hk with e|e
      .exact wB ⋯ e
      .show wB (i:=j+1) ⋯ ?_;rw[b7];exact Yx _ (Fv e)
     show bv (λh1=>bv (λh2=>?_) λh2=>?_) λh1=>?_
     .let h2:c≠e:=↑h2
      let h1:c≠46:=↑h1
      let ed:(!".").length=1:=rfl;let l1: ~~~n+(!".").length<=sizeLine:=bH ⋯;let l2:∀c:Nat,(n++Str.ofString ".").length+ ~~~(⟨([c].toArray)⟩:Str)<=sizeLine:=λc=>bH (by
       let e:(n++Str.ofString ".").length= ~~~n+(!".").length:=size_append;let e1: ~~~(⟨([c].toArray)⟩:Str)=1:=rfl
       lia)
      let%[lc|le]:=lW J (a:=c) (b:=e) %[h1,h2,j,t,v,r,hv,aa,hc|he];let ca:=ai _ _ a5;rw[zw,zw];show%[l1,l2 c,_,get ca _ (as c lc),l1,l2 e,_,get ca _ (as e le),#[3]|λp hp=>?_];let sp:=ah.JO (o:= .tup [V.str (g (lnS n (sgn c))),V.str (g (lnS n (sgn e))),V.str n]) hp;let c2:=zv ac (a3 _ (a7 _ c1));show%[_,iH.t (k:=(dB g (gF n [sgn c,sgn e])).map Sum.inr) (sp _ _ a2) (by rw[ae];rfl) (by rw[PySem.sizeLine_eq];lia)|k6 _ _ %[_,_,ρ,λb o e=>by rw[au (aE e hL)];exact sp _ _ (ai _ _ e),(au c0).trans (sp _ _ a1),_,ae|wA ac _ _ λk=>?_]];rw[<-nx,Y0,Fw (if_pos %[h1|h2]),<-Ze,Zd (f:=gF n),<-Ze,Zd,Yu];exact or_congr Iff.rfl X1
     .exact k6 _ _ %[_,_,rfl,ai,a1,Y,a2|stay (if_neg λq=>q.2 ↑h2)]
     .exact k6 _ _ %[_,_,rfl,ai,a1,Y,a2|stay (if_neg λq=>q.1 ↑h1)]
    .intro σ H3 %[o9,C,rfl,bb,bc,Y,bf|ac];rw[Zn (l:=List.zip v.cps.toList r.cps.toList) (by rw[length_zip];simp;lia),<-b7]at ac;exact k5 _ _ %[_,_,_,rfl,bb,bc,Y,bf|ac]
   .intro σ H2 %[o8,o9,C,rfl,I,a0,M,O|N];rw[<-B]at N;exact k4 _ _ %[_,_,_,_,_,_,rfl,I,M,O|N]
  .intro σ H1 %[o5,o6,o7,o8,o9,C,rfl,sm,G,al|an];rw[b1,Zn (Zi _)]at an;show k2 _ _ (ak λD3 k3 _=>ay λag hK=>?_);lk;let cd:=s0 _ _ hm;show%[~~~qs,.inl %[_,JP.of (sm _ _ cd)|cv.symm],⋯,⋯|?_];rw[Int.toNat_natCast];show hK _ _ (cP (λi σ H2=>∃bl,σ=[!l,!m,!u,!d,!L,o5,o6,o7,o8,o9,C,bl]/\ah H0 H2/\∃G,H2 L∣.dT G/\d8 G λk=>k∈(bq cs++db qs i).map (dB g))
    %[_,rfl,sm,G,al|eW an λk=>by rw[show db qs 0=[]from rfl,Zx]] ?_ ?_)
   .intro i σ H2 hi %[bl,rfl,I,M,O|N];let hi:i< ~~~qs:=hi;change iM _ _ _ _ [!l,!m,!u,!d,!L,o5,o6,o7,o8,o9,C,some (.int ((0:Int) +(i:Int)))] H2;rw[Int.zero_add];show aB λD4 k4 _=>?_
    obtain⟨q,hq⟩:∃q,qs[i]?∣q:=%[qs[i]|Z4 hi]
    let aq:atI (qs\0) (i:Int)∣.ref q.1:=bK (by rw[Zl,hq];rfl);let ab:=bt q (Z8 hq);let st:=SqT.of (K:=K) (I _ _ (s0 _ _ ab.1));let sl:=JP.of (K:=K) (I _ _ cd);let B:=eQ hq;lk;rcases ab.2 with⟨wd,a,b,e,hw,ha,hb,_⟩|⟨wd,a,y,e,hw,_⟩
    .rw[e]at st B;show%[_,sl,_,aq,_,ρ,_,st,_,ρ,ρ|bv (λbm=>?_) λbm=>?_]
     .rw[show jb i [V.str wd,V.str a,V.str b]∣[a,b,wc i]from if_pos (V.str.inj (Zo bm))]at B;let c3: ~~~(Str.ofString (toString (i:Int)))<=21:=by
       let e:=PySem.int_text_length_le10 (a:=(i:Int)) (k:=20) (!1) (by let:(i:Int).natAbs=i:=rfl;lia);rw[PySem.ofString_length];lia
      let e1:(!"#").length=1:=!0
      let ch:(i:Int).natAbs.log2<1920:=Nat.lt_of_le_of_lt (Nat.log2_le_self _) (by let:(i:Int).natAbs=i:=rfl;lia);let cl:=I _ _ a5;show%[_,sl,_,aq,_,ρ,_,st,_,ρ,_,get cl a ha,_,sl,_,aq,_,ρ,_,st,_,ρ,_,get cl b hb,ch,bH ⋯,#[3]|λp hp=>?_];rw[show Str.ofString "#"++Str.ofString (toString (i:Int))=wc i from by unfold wc;rw[sF]];let sp:=ah.JO (o:= .tup [V.str (g a),V.str (g b),V.str (wc i)]) hp;let c2:=zv N (a3 _ λt ht=>(a4 t).mpr ((Xo ht).imp id λh=>?_))
      .show%[_,iH.t (k:=(dB g [a,b,wc i]).map Sum.inr) (sp _ _ O) (by rw[ae];rfl) (by rw[PySem.sizeLine_eq];lia)|k4 _ _ %[_,ρ,λb o e=>by rw[au (aE e hL)];exact sp _ _ (I _ _ e),_,ae|wA N _ _ λk=>?_]];rw[B,<-Ze,Zd,Yu];exact or_congr Iff.rfl X1
      .let%[j,hj|e]:=mem_filterMap.mp h;exact mem_filterMap.mpr %[j,mem_range.mpr (by let:=mem_range.mp hj;lia)|e]
     .rw[show jb i [V.str wd,V.str a,V.str b]=none from if_neg λz=>bm (Zf (by rw[z]))]at B;show k4 _ _ %[_,rfl,I,M,O|?_];rw[B];exact eW N λk=>by rw[Option.toList_none,Zx]
    .rw[e]at st B;show%[_,sl,_,aq,_,ρ,_,st,_,ρ,ρ|?_];rw[if_neg (by rcases hw with rfl|rfl<;> decide)];show k4 _ _ %[_,rfl,I,M,O|?_];rw[B];exact eW N λk=>by change _↔_∈List.map _ (_++(_++[]));rw[Zx]
   .intro σ H2 %[bl,rfl,I,M,O|N];show k3 _ _ ?_;lk;let%[ks,q1,q2|q3]:=N;let q3:∀k,k∈ks↔k∈U.map (dB g):=λk=>by
     show(q3 k).trans ?_;dsimp only;rw[mem_map,mem_map];exact exists_congr λt=>and_congr_left λ_=>by rw[a4,Yu]
    let lk:=pL tok (λz hz=>(lg z hz).2);let de: ~~~ks<=150:=by
     let:=_ST.nodup_sub q2 (m:=U.map (dB g)) λk hk=>(q3 k).mp hk
     lia
    let h3:∀k∈ks,~~~k=3:=λk hk=>by
     let%[a,b,z,a',b',_,_,_|rfl]:=(lk k).mp ((q3 k).mp hk);rfl
    show%[M,O,ks,q1,3,h3,!1,⋯|λr ss aa ta pm=>?_];let s2:=ah.JO (o:= .lst (ss\0)) aa;exact kk r _ ss (s0.trans (I.trans s2)) (s0.free (I.free aa)) ae (aT ta λb z e=>s2 _ _ e) %[pm.nodup_iff.mpr q2|λk=>by rw[pm.mem_iff,q3,lk]] (by let:=pm.length_eq;rw[Z6]at this;lia)
def Dst.first{ks:List ZB}{a b:Str}{n:Nat}(h:Dst ks a (n+1) b):∃c,Ed ks a c/\Dst ks c n b:=by
 let%[us,d,f|g]:=h;cases us with
 | nil=>cases d
 | cons k r=>
   let%[c,z,e|h]:=g;exact%[c,%[z|by rw[<-e];exact f k Zm],r,↑d,λk i=>f k (Zk _ i)|h]
structure Bfs (ks:List ZB) (st:Str) (T F:ZB) (k:Nat):Prop where
 lv:∀x∈T,∃m,m<=k/\Dst ks st m x
 fr:∀x∈F,Dst ks st k x
 key:∀n,1<=n->Dst ks st n st->∃x∈F,∃j,1<=j/\Dst ks x j st/\k+j<=n
def Bfs.nil{ks:List ZB}{st:Str}:Bfs ks st [st] [st] 0:=
 %[λx a=>%[0,Zi _|by rw[Xp a];exact .nil],λx a=>by rw[Xp a];exact .nil|λn h d=>%[st,mem_singleton.mpr rfl,n,h,d|⋯]]
def Bfs.step{ks:List ZB}{st:Str}{T F r f:ZB}{k:Nat}(h:Bfs ks st T F k)(A:∀x∈F,¬ Ed ks x st)(s:∀y,y∈f↔(∃x∈F,Ed ks x y)/\y∉T)(B:∀y,y∈r->y∈T\/y∈f):Bfs ks st r f (k+1):=by
 let u:∀x∈f,Dst ks st (k+1) x:=λy l=>by
  let%[x,g|e]:=((s y).mp l).1;exact(h.fr x g).app e.dst
 show%[λy l=>?_,u|λn=>?_]
 .rcases B y l with q|q
  .let%[m,C|d]:=h.lv y q;exact%[m,⋯|d]
  .exact%[k+1,Zi _|u y q]
 .induction n using Nat.strongRecOn with
  | _ n E=>
    intro n1 d;let%[x,g,j,N,G|O]:=h.key n n1 d;obtain⟨j,rfl⟩:∃i,j=i+1:=%[j-1|⋯]
    let%[y,e|o]:=Dst.first G
    let H:1<=j:=pos_of_ne_zero λz=>by
     subst z;let%[us,I,_|v]:=o;rw[length_eq_zero_iff.mp I]at v;rw[show y=st from v]at e;exact A x g e
    by_cases q:y∈T
    .let%[m,C|J]:=h.lv y q;let%[L,p,M,a,b|c]:=E (m+j) ⋯ ⋯ (J.app o);exact%[L,p,M,a,b|⋯]
    .exact%[y,(s y).mpr %[%[x,g|e]|q],j,H,o|⋯]
abbrev fB(ks:List ZB)(S:Str->Prop)(v:V):Prop:=(v= .non/\∀x,S x->∀n,1<=n-> ¬ Dst ks x n x)\/∃n:Nat,v= .int n/\1<=n/\(∃y,Dst ks y n y)/\∀x,S x->∀m,1<=m->Dst ks x m x->n<=m
def fB.more{ks:List ZB}{S c:Str->Prop}{v:V}{st:Str}(h:fB ks S v)(f:∀n,1<=n->Dst ks st n st->∃m:Nat,v= .int m/\m<=n)(g:∀x,c x->S x\/x=st):fB ks c v:=by
 rcases h with⟨rfl,h⟩|⟨n,rfl,n1,y,h⟩
 .show .inl %[rfl|λx b m a d=>?_];rcases g x b with q|rfl
  .exact h x q m a d
  .let%[_,e|_]:=f m a d;cases e
 .show .inr %[n,rfl,n1,y|λx b m a d=>?_];rcases g x b with q|rfl
  .exact h x q m a d
  .let%[i,e|j]:=f m a d;let:=V.int.inj e
   lia
def fB.found{ks:List ZB}{S b:Str->Prop}{v:V}{st:Str}{T F:ZB}{k:Nat}(h:fB ks S v)(B:Bfs ks st T F k){x:Str}(c:x∈F)(e:Ed ks x st)(lt:∀n:Nat,v= .int n->k<n)(f:∀x,b x->S x\/x=st):fB ks b (.int (k+1:Nat)):=by
 show .inr %[k+1,rfl,⋯,%[st|(B.fr x c).app e.dst]|λy g m a d=>?_];rcases f y g with q|rfl
 .rcases h with⟨_,h⟩|⟨n,rfl,_,_,h⟩
  .exact(h y q m a d).elim
  .let:=h y q m a d;let:=lt n rfl
   lia
 .let%[_,_,j,i,_|l]:=B.key m a d
  lia
def pS{t:TT}{b:_LL.St}{H:Hp}{Q:Bool->Hp->Prop}(h:∀K:Bool->Hp->Prop,(∀a,Q true a->K true a)->(∀a,Q false a->K false a)->t b H K):t b H Q:=h Q (λ_ q=>q) λ_ q=>q
def DC{y:Str}:∀{T:ZB},(cF (T.map λz=>((Sum.inr z:Key),V.bl true)) (Sum.inr y)).isSome=decide (y∈T)
 |[]=>rfl
 | x::T=>by
   by_cases e:x=y
   .subst e;rw[Yr,ee rfl];simp
   .rw[Yr,dc (λq=>e (Sum.inr.inj q)),DC];let:y≠x:=λq=>e q.symm
    simp[this]
abbrev fs3(k:ZB):Str:=k.getD 0 Str.empty
abbrev sn3(k:ZB):Str:=k.getD 1 Str.empty
inductive wD
 | mk (r:Addr) (ns:ZB) (ss:ZG):vs=[.ref r]->H r∣.lst (ss\0)->dG H ns ss-> ~~~ns<=60-> ~~~ss<=150->(∀H' v,ah H H'->fB (ss\2) (λ_=>True) v->Q v H')->wD vs H Q E0
def mf(T:Txt K mg):↥1 "_law_least_ring" ["_law_tied"] wD:=by
 .exists T.bq,aO,cM,hr,%[r,ns,ss,rfl,as,ai,c0,a4|kk];let sm: ~~~(ss\0)= ~~~ss:=Z6 _;show%[_,%["JDG1=DVT&~0A_~FAmd?1T0X0?2sU0CBBL2D,3jk]'](2o])D,4jkNA2BDG5CE~Mc%K]*O4NB+cwK~>1='K/51DG5FW5CD~H6kjd?3T0X0?4~CK~DU0CO1U0CEQK~D26DG15E,4jkNBD,4jk&~0A_~FAmd?5T6X0?6~C~W0O10BBEY]+],O3A~}~[Amd?7TO4X0?8szA0AoBBBEI1",aO.nd,↑(["_law_link"],[]),↑["_law_link"],↑(["_law_link","_law_edge"],[(1,4)]),↑["_law_link","_law_edge"],↑(["_law_end","_law_there"],[(1,3)]),↑["_law_end","_law_there"],↑(["_law_end"],[]),↑["_law_end"]|hr]|?_]
  change bn _ _ _ [!r,none,none,none,none,none,none] H;show ak λD1 k1 _=>?_
  lk;show k1 _ _ (ak λD2 k2 _=>ay λaa hK=>?_);lk;show aF λb6 b7=>?_
  lk;show%[%[_|JP.of as]|b7 _ _ λF hF=>?_];show cJ (λj vs u B=>(∃o1,u=[o1])/\ah H B/\B F<*vs/\vs=((ss.take j).map λt=>fs3 t.2)\3)
   %[%[none|rfl],ah.JO hF,ae|rfl] (λ_ _ _ B O=>O.2.1 _ _ as) ?_ ?_
  .intro j vs u H4 U %[%[o1|rfl],s3,b9|g];let%[q1,a,b,z,e|_]:=ai ss[j] (Yc U);lk;show%[_,SqT.of (s3 _ _ q1),V.str (fs3 ss[j].2),by rw[e];rfl|CK.mk U b9 (by rw[g,Z6,Z6,Ym];exact aH ⋯) %[%[_|ρ],ah.set s3 hF,ae|?_]];rw[g,Xc,Z4 U,Zd,Zd];rfl
  intro vs u H1 %[_,s1,ca|g];rw[Zn (Zi _)]at g;subst g;lk;let mem:∀t∈ss,fs3 t.2∈ns/\sn3 t.2∈ns:=λt J=>by
   let%[_,a,b,z,e,ha|hb]:=ai t J;rw[e];exact%[ha|hb]
  let cd: ~~~(aC (ss.map λt=>fs3 t.2))<64:=by
   let:=_ST.nodup_sub (bF (ss.map λt=>fs3 t.2)) (m:=ns) λx I=>by
    let%[t,J|rfl]:=Xq (aV.mp I);exact(mem t J).1
   lia
  show%[_,JP.of ca,by rw[Z6];lia|λl fl=>%[_,ae,cd|λm us fm pm _=>%[%[_|JP.of ae]|hK _ _ ?_]]];let s2:=s1.trans ((ah.JO (o:=eL w l (aC (ss.map λt=>fs3 t.2))) fl).trans (ah.JO (o:= .lst (us\3)) fm));let hm:JO (JO H1 l (eL w l (aC (ss.map λt=>fs3 t.2)))) m (.lst (us\3)) m=_:=ae
  generalize JO (JO H1 l (eL w l (aC (ss.map λt=>fs3 t.2)))) m (.lst (us\3))=H2 at s2 hm
  let um: ~~~(us\3)= ~~~us:=Z6 _;let ed:∀{x y},Ed (ss\2) x y↔∃t∈ss,fs3 t.2=x/\sn3 t.2=y:=λ{x y}=>by
   constructor
   .rintro⟨z,hz⟩;let%[t,J|e]:=Xq hz;exact%[t,J,by rw[e];rfl|by rw[e];rfl]
   .rintro⟨t,J,rfl,rfl⟩;let%[_,a,b,z,e|_]:=ai t J;exact%[z|Xr %[t,J|by rw[e];rfl]]
  let ch:=s2 _ _ as;show cu (λi u B=>(∃v o2 o3 o4 o5 o6,u=[!r,some v,o2,o3,o4,o5,o6]/\fB (ss\2) (λx=>x∈us.take i) v)/\ah H2 B)
   %[%[_,_,_,_,_,_,rfl|.inl %[rfl|λx I=>(nomatch I)]]|λ_ _ e=>e] (λi u B h=>h.2 _ _ hm) ?_ ?_
  .intro i st u H3 cl %[%[v,o2,o3,o4,o5,o6,rfl|lr]|s3];let tk:∀x,x∈us.take (i+1)->x∈us.take i\/x=st:=λx I=>by
    rw[Xc,cl]at I;exact(Xo I).imp id Xp
   change bn _ _ _ [!r,some v,-st,o3,o4,o5,o6] H3;show ak λD3 k3 _=>?_
   lk;intro p fp;show%[ae,[(Sum.inr st,.bl true)],ρ,(by decide:1<=15)|k3 _ _ (ak λD4 k4 _=>?_)];let s4:=ah.JO (o:= .dK [(Sum.inr st,.bl true)]) fp;rw[yx];let hp:JO H3 p (.dK [(Sum.inr st,.bl true)]) p=_:=ae;rw[show iO [] [((Sum.inr st:Key),V.bl true)]=[(Sum.inr st,.bl true)]from rfl]
   generalize JO H3 p (.dK [(Sum.inr st,.bl true)])=H4 at s4 hp
   lk;show%[#[1]|λe fe=>k4 _ _ (ak λD5 k5 _=>?_)];lk;show k5 _ _ ?_;let s5:=s4.trans (ah.JO (o:= .lst [.str st]) fe);let hp:=ah.JO (o:= .lst [.str st]) fe _ _ hp;let he:JO H4 e (.lst [.str st]) e=_:=ae
   generalize JO H4 e (.lst [.str st])=H5 at s5 hp he
   show⟨λm u B=>∃(v':V) (e:Addr) (o6:Option V) (k:Nat) (T F:ZB),u=[!r,some v',-st,!p,!e,some (.int k),o6]/\ah H3 B/\B p∣.dK (T.map λz=>(Sum.inr z,V.bl true))/\B e<*F\3/\T.Nodup/\(∀x∈T,x∈st::ns)/\m=2*(70-T.length) +F.length.min 1/\((v'=v/\Bfs (ss\2) st T F k)\/(F=[]/\fB (ss\2) (λx=>x∈us.take (i+1)) v')),
    %[_,v,e,_,0,[st],[st],rfl,s5,hp,he,by simp,by simp,rfl|.inl %[rfl|.nil]],?_⟩
   intro m u H6 %[v',e,o6,k,T,F,rfl,s6,co,a5,Tn,Ts,rfl|a6];let c1: ~~~T<=61:=by
    let:=_ST.nodup_sub Tn Ts;rw[Zr]at this
    lia
   show pS λKt hT hF=>?_
   lk;show%[#[0]|λq fq=>%[_,ah.JO fq _ _ a5,ae|?_]];let s7:=s6.trans (ah.JO (o:= .lst []) fq);let aR:=ah.JO (o:= .lst []) fq _ _ co;let a7:=ah.JO (o:= .lst []) fq _ _ a5
   generalize JO H6 q (.lst [])=H7 at s7 aR a7
   let done:fB (ss\2) (λx=>x∈us.take (i+1)) v'->Kt false H7:=λh=>hF _ (by
    rw[if_neg ∅];exact%[%[v',_,_,_,_,_,ρ|h]|s3.trans s7])
   let go:F≠[]->v'=v->Bfs (ss\2) st T F k->(∀n:Nat,v= .int n->k<n)->Kt true H7:=by
    rintro Fn rfl BF lt;show hT _ ?_;rw[if_pos rfl];show%[_,λ_ _ h=>h|?_];show ak λD6 k6 _=>?_
    lk;show k6 _ _ (ak λD7 k7 _=>aF λaa hK=>?_);lk;let bb:=s7 _ _ (s3 _ _ ch);let cs:=s2.trans (s3.trans s7);show%[%[_|JP.of bb]|hK _ _ λG hG=>?_];show cJ (λj vs u B=>(∃o1,u=[o1,!e])/\ah H7 B/\B G<*vs/\vs=(((ss.take j).filter λt=>decide (fs3 t.2∈F)).map λt=>sn3 t.2)\3)
     %[%[none|rfl],ah.JO hG,ae|rfl] (λ_ _ _ B O=>O.2.1 _ _ bb) ?_ ?_
    .intro j vs u H9 U %[%[o1|rfl],s8,bc|g];let%[q1,a,b,z,ez|_]:=ai ss[j] (Yc U);let bf:=SqT.of (K:=K) (s8 _ _ (cs _ _ q1));let bl:(ss.take (j+1)).filter (λt=>decide (fs3 t.2∈F))=(ss.take j).filter (λt=>decide (fs3 t.2∈F)) ++if fs3 ss[j].2∈F then [ss[j]]else []:=by
      rw[Xc,Z4 U,Y2];show congrArg _ ?_;change List.filter _ [ss[j]]=_;rw[filter_cons];simp only[decide_eq_true_eq,Y6]
     lk;show%[_,bf,V.str (fs3 ss[j].2),by rw[ez];rfl,_,.inl (JP.of (s8 _ _ a7)),ρ,by simp[fE]|?_];rw[uf];show bv (λh=>%[_,bf,V.str (sn3 ss[j].2),by rw[ez];rfl|CK.mk U bc (by rw[g,Z6,Z6];exact aH (Nat.le_trans (Yi _ _) (by rw[Ym];lia))) %[%[_|rfl],ah.set s8 hG,ae|?_]]) λh=>CN.mk U %[%[_|rfl],s8,bc|?_]
     .rw[g,bl,if_pos (Zo h),Zd,Zd];rfl
     .rw[g,bl,if_neg (λc=>h (Zf c)),Zx]
    intro vs u H8 %[_,s8,al|g];rw[Zn (Zi _)]at g;subst g;show k7 _ _ ?_;show aB λD8 k8 _=>?_
    let em:∀y,y∈(ss.filter λt=>decide (fs3 t.2∈F)).map (λt=>sn3 t.2)↔∃x∈F,Ed (ss\2) x y:=λy=>by
     rw[mem_map]
     constructor
     .rintro⟨t,J,rfl⟩;let%[h1|h2]:=List.mem_filter.mp J;exact%[_,Zo h2|ed.mpr %[t,h1,ρ|ρ]]
     .rintro⟨x,I,h⟩;let%[t,J,rfl|rfl]:=ed.mp h;exact%[t,List.mem_filter.mpr %[J|Zf I]|ρ]
    let el: ~~~((ss.filter λt=>decide (fs3 t.2∈F)).map λt=>sn3 t.2)<=150:=by
     rw[Z6];exact Nat.le_trans (Yi _ _) a4
    let aU:∀y∈(ss.filter λt=>decide (fs3 t.2∈F)).map (λt=>sn3 t.2),y∈ns:=λy hy=>by
     let%[t,J|rfl]:=Xq hy;exact(mem t (List.mem_filter.mp J).1).2
    generalize (ss.filter λt=>decide (fs3 t.2∈F)).map (λt=>sn3 t.2)=L at em el aU al
    show pS (t:=yC (tOp (BL K) (fV 2) (fV 6))) λKt hT hF=>?_
    lk;show%[_,.inl (JP.of al),ρ,by simp[fE]|?_];rw[uf];let bm:=s7.trans s8;by_cases c:st∈L
    .rw[Zf c];show hT _ ?_;rw[if_pos rfl];lk;show%[#[0]|λq fq=>k8 _ _ %[_,?_,.int (k+1:Nat),q,_,k+1,T,[],ρ,bm.trans (ah.JO fq),ah.JO fq _ _ (s8 _ _ aR),ae,Tn,Ts,ρ|.inr %[ρ|?_]]]
     .let:1<= ~~~F:=length_pos_iff.mpr Fn;change 2*(70-T.length) +0<2*(70-T.length) +F.length.min 1;rw[show F.length.min 1=1 from Nat.min_eq_right this]
      lia
     .let%[x,I|h]:=(em st).mp c;exact lr.found BF I h lt tk
    .rw[Zh c];show hF _ ?_;rw[if_neg ∅];show ak λD9 k9 _=>?_
     lk;show aF λaa hK=>?_
     lk;show%[%[_|JP.of al]|hK _ _ λM hM=>?_];let bt:=s8 _ _ aR;show cJ (λj vs u B=>(∃o1,u=[o1,!p])/\ah H8 B/\B M<*vs/\vs=((L.take j).filter λy=>decide (y∉T))\3)
      %[%[none|rfl],ah.JO hM,ae|rfl] (λ_ _ _ B O=>O.2.1 _ _ al) ?_ ?_
     .intro j vs u bI U %[%[o1|rfl],s9,b0|g];let b1:(L.take (j+1)).filter (λy=>decide (y∉T))=(L.take j).filter (λy=>decide (y∉T)) ++if L[j]∉T then [L[j]]else []:=by
       rw[Xc,Z4 U,Y2];show congrArg _ ?_;change List.filter _ [L[j]]=_;rw[filter_cons];simp only[decide_eq_true_eq,Y6]
      lk;show%[_,dM.k (k:=Sum.inr L[j]) (s9 _ _ bt)|?_];rw[DC];show bv (λh=>CK.mk U b0 (by rw[g,Z6];exact aH (Nat.le_trans (Yi _ _) (by rw[Ym];lia))) %[%[_|rfl],ah.set s9 hM,ae|?_]) λh=>CN.mk U %[%[_|rfl],s9,b0|?_]
      .rw[g,b1,if_pos ↑h,Zd];rfl
      .rw[g,b1,if_neg ↑h,Zx]
     intro vs u H9 %[_,s9,ct|g];rw[Zn (Zi _)]at g;subst g;let b2:∀y,y∈aC (L.filter λy=>decide (y∉T))↔y∈L/\y∉T:=λy=>by rw[aV,List.mem_filter,decide_eq_true_eq]
     let f9: ~~~(aC (L.filter λy=>decide (y∉T)))<=60:=by
      let:=_ST.nodup_sub (bF (L.filter λy=>decide (y∉T))) (m:=ns) λx I=>aU x ((b2 x).mp I).1
      lia
     show%[M,ρ,_,JP.of ct,by let:=Yi (λy=>decide (y∉T)) L;lia|λl fl=>%[_,ae,⋯|λq C fq a0 _=>k9 _ _ ?_]];let a1:=s9.trans ((ah.JO (o:=eL w l (aC (L.filter λy=>decide (y∉T)))) fl).trans (ah.JO (o:= .lst (C\3)) fq));let hq:JO (JO H9 l (eL w l (aC (L.filter λy=>decide (y∉T))))) q (.lst (C\3)) q=_:=ae
     generalize JO (JO H9 l (eL w l (aC (L.filter λy=>decide (y∉T))))) q (.lst (C\3))=bI at a1 hq
     let Fm:∀y,y∈C↔(∃x∈F,Ed (ss\2) x y)/\y∉T:=λy=>by rw[a0.mem_iff,b2,em]
     let Fd:C.Nodup:=a0.nodup_iff.mpr (bF _);let Fl: ~~~C<=60:=by rw[a0.length_eq];exact f9
     let ab:=a1 _ _ bt;show aB λc2 cv _=>?_
     lk;show%[tyD (ab)|aF λaa hK=>?_];lk;show%[%[_|JP.of hq]|hK _ _ λN hN=>?_];show cJ (λj vs u B=>(∃o1,u=[o1])/\ah bI B/\B N<*vs/\∃ps:List (Addr×Str×V),vs=ps\0/\ps\2=(C.take j).map (λz=>(z,V.bl true))/\∀q∈ps,B q.1&&&[.str q.2.1,q.2.2])
      %[%[none|rfl],ah.JO hN,ae,[],rfl,rfl|λq hq=>(nomatch hq)] (λ_ _ _ B O=>O.2.1 _ _ hq) ?_ ?_
     .intro j vs u a2 U %[%[o1|rfl],an,b3,ps,g,ac|a3];lk;show%[#[2]|λa fa=>?_];let s6:=ah.JO (o:= .tup [V.str C[j],V.bl true]) fa;let gp:JO a2 a (.tup [V.str C[j],V.bl true]) a=_:=ae
      generalize JO a2 a (.tup [V.str C[j],V.bl true])=c3 at s6 gp ⊢
      let keep:=fO (ys:=vs++[V.ref a]) (s6 _ _ b3);let pl:=congrArg List.length ac;rw[Z6,Z6,Ym]at pl;show CK.mk U (s6 _ _ b3) (by rw[g,Z6];exact aH ⋯) %[%[_|rfl],ah.set (an.trans s6) hN,ae,ps++[(a,C[j],V.bl true)],by rw[g,Zd];rfl,by rw[Zd,ac,Xc,Z4 U,Zd];rfl|λq hq=>?_];rcases Xo hq with h|h
      .exact keep _ _ (s6 _ _ (a3 q h))
      .rw[Xp h];exact keep _ _ gp
     intro vs u b4 %[_,an,b5,ps,g,ac|a3];rw[Zn (Zi _)]at ac;show%[N,ρ,ps,by rw[<-g];exact JP.of b5,a3|λd fd=>?_];rw[wz (h:=λ_=>V.bl true) Fd ac];let aq:=an.trans (ah.JO (o:= .dK (C.map λz=>(Sum.inr z,V.bl true))) fd);let gd:JO b4 d (.dK (C.map λz=>(Sum.inr z,V.bl true))) d=_:=ae;let ag:=aq _ _ ab;let Y:=aq _ _ hq;let ne:p≠d:=λc=>by rw[<-c,an _ _ ab]at fd;cases fd
     generalize JO b4 d (.dK (C.map λz=>(Sum.inr z,V.bl true)))=a2 at aq gd ag Y
     let TF:(T++C).Nodup:=nodup_append.mpr %[Tn,Fd|λa ha b hb e=>((Fm b).mp hb).2 (e▸ha)];show%[d,ρ,_,_,ne,ag,gd,by rw[Z6,Z6];exact bH ⋯|cv _ _ ?_];rw[show iO (T.map λz=>((Sum.inr z:Key),V.bl true)) (C.map λz=>(Sum.inr z,V.bl true))=_ from uB TF];let qp:q≠p:=λc=>by rw[c,ag]at Y;cases Y
     show k8 _ _ %[_,?_,v',q,_,k+1,T++C,C,rfl,?_,ae,(au qp).trans Y,TF,λx I=>?_,rfl|.inl %[rfl|BF.step (λx I h=>c ((em st).mpr %[x,I|h])) Fm λy hy=>Xo hy]]
     .let:1<= ~~~F:=length_pos_iff.mpr Fn;rw[show F.length.min 1=1 from Nat.min_eq_right this,Z9];let:=Nat.min_le_right C.length 1;let:=Nat.min_le_left C.length 1;change 2*(70-(~~~T+ ~~~C)) +min C.length 1<_
      lia
     .exact λb o hb=>by rw[au (aE hb fp)];exact aq _ _ (a1 _ _ (bm _ _ hb))
     .rcases Xo I with h|h
      .exact Ts x h
      .exact Zk _ (aU x ((em x).mpr ((Fm x).mp h).1))
   show bv (λh1=>?_) λh1=>?_
   .let Fn:F≠[]:=↑h1
    let%[rfl|BF]:=a6.resolve_right λh=>Fn h.1
    rcases lr with⟨rfl,h⟩|⟨n,rfl,n1,y,h⟩
    .rw[if_pos ∅];exact go Fn rfl BF λn e=>by cases e
    .rw[if_neg ∅];show%[_,ρ|?_];by_cases c:(k:Int)<n
     .rw[Zf c];exact go Fn rfl BF λm e=>by let:=V.int.inj e;lia
     .rw[Zh c];show done (fB.more (.inr %[n,rfl,n1,y|h]) (λm m1 d=>%[n,rfl|?_]) tk);let%[_,_,j,_,_|le]:=BF.key m m1 d
      lia
   .let Fn:F=[]:=↑h1
    subst Fn;rcases a6 with⟨rfl,BF⟩|⟨_,h⟩
    .exact done (lr.more (λn n1 d=>by let%[x,I|_]:=BF.key n n1 d;cases I) tk)
    .exact done h
  .intro u H3 %[%[v,o2,o3,o4,o5,o6,rfl|lr]|s3];rw[Zn (Zi _)]at lr;show k2 _ _ ?_;lk;let all:∀x n,1<=n->Dst (ss\2) x n x->x∈us:=λx n n1 d=>by
    obtain⟨n,rfl⟩:∃i,n=i+1:=%[n-1|⋯]
    let%[c,e|_]:=Dst.first d
    let%[t,J,rfl|_]:=ed.mp e;exact pm.mem_iff.mpr (aV.mpr (Xr %[t,J|rfl]))
   show kk H3 v (s2.trans s3) ?_;rcases lr with⟨rfl,h⟩|⟨n,rfl,n1,y,h⟩
   .exact .inl %[rfl|λx _ n n1 d=>h x (all x n n1 d) n n1 d]
   .exact .inr %[n,rfl,n1,y|λx _ m m1 d=>h x (all x m m1 d) m m1 d]
def uC{b:Str}:∀{us:List ZB} {a:Str},Wal us a b->∀i,i< ~~~us->∃p q z,us[i]?∣[p,q,z]/\(i=0->p=a)/\(∀k,us[i+1]?∣k->k[0]?∣q)/\(i+1= ~~~us->q=b)
 |[],_,_,_,h=>absurd h (X7 _)
 | k::r,a,⟨c,z,e,w⟩,0,_=>by
   show%[a,c,z,by rw[e];rfl,λ_=>rfl,λd h'=>?_|λh'=>?_]
   .match r,w,h' with
    | k2::n,⟨o,s,f,_⟩,h'=>
      rw[<-Za (show some k2∣d from h'),f];rfl
   .match r,w,h' with
    |[],w,_=>exact w
    | _::_,_,h'=>exact absurd h' ∅
 | k::r,a,⟨c,z,e,w⟩,i+1,h=>by
   let%[p,q,g,j,_,l|m]:=uC w i ↑h;exact%[p,q,g,j,λh=>absurd h ⋯,l|λh=>m ↑h]
def AX{ws:ZG}{x:Str}(w:Wal (ws\2) x x){k:Nat}(g:k< ~~~ws):∃t∈ws,∃p q z b d,ws[k].2=[p,q,z]/\t.2=[b,p,d]/\atI (ws\0) ((k:Int) -1)∣.ref t.1:=by
 let u: ~~~(ws\2)= ~~~ws:=Z6 _;let a:∀(i:Nat) (h:i< ~~~ws) l,(ws\2)[i]?∣l->ws[i].2=l:=λi h l e=>by
  rw[Zl,Z4 h]at e;exact Za e
 let%[p,q,z,j,n,_|_]:=uC w k ⋯;let m:=a k g _ j;cases k with
 | zero=>
   let%[b,o,d,g1,_,_|r]:=uC w (~~~ws-1) ⋯;let f:=a (~~~ws-1) ⋯ _ g1;rw[r ⋯,<-n rfl]at f;show%[_,Yc (show ~~~ws-1< ~~~ws by lia),p,q,z,b,d,m,f|?_];obtain⟨ys,y,rfl⟩:∃ys y,ws=ys++[y]:=%[ws.dropLast,ws.getLast (by intro c;rw[c]at g;exact absurd g (X7 _))|(List.dropLast_concat_getLast _).symm]
   rw[Zd,show((0:Nat):Int) -1= -1 from rfl,List.map_singleton,nN];simp
 | succ k=>
   let%[b,o,d,g1,_,g3|_]:=uC w k ⋯;let f:=a k ⋯ _ g1;let s:=g3 _ j;rw[<-Za s]at f;show%[_,Yc (show k< ~~~ws by lia),p,q,z,b,d,m,f|?_];rw[show((k+1:Nat):Int) -1=(k:Nat) by lia];exact bK (by rw[Zl,Z4 (show k< ~~~ws by lia)];rfl)
inductive sH
 | mk (l m:Addr) (ns:ZB) (ws ss:ZG) (x:Str):vs=[.ref l,.ref m,.int (~~~ws:Int)]->H l∣.lst (ws\0)->aM H ws-> ~~~ws<=200->H m∣.lst (ss\0)->dG H ns ss->Sho (ss\2) x x (ws\2)->Q (.bl true) H->sH vs H Q E0
def qA(T:Txt K mg):↥1 "_law_is_ring" ["_law_found","_law_tied","_law_least"] sH:=by
 .exists T.br,i8,J,L,%[l,m,M,ws,ss,x,rfl,a,y,B,N,j,b|O];let C: ~~~(ws\0)= ~~~ws:=Z6 _;show%[_,%["JDQcw!l()A0A?1B'KvZaA0B2EIoRDV*AZaA0BBL3EQcw!l()AM03A?2BwK].M031'KvUM03CUM0F~B3CCEIoREIo",i8.nd,(blE (v:= .ty "list") rfl T.a5 boot_list rfl rfl rfl),(blE (v:= .ty "tuple") rfl T.ag boot_tuple rfl rfl rfl)|L]|?_]
  change bn _ _ _ [!l,!m,some (.int ws.length),none] H;show ak λD1 k1 _=>?_
  lk;show%[.type "list",.lst a,true,by rfl|p8 %[~~~ws,.inl %[_,JP.of a|C.symm]|?_]];rw[if_neg ∅];show k1 _ _ (ak λD2 k2 _=>ay λG U=>?_);lk;show%[~~~ws,.inl %[_,JP.of a|C.symm],⋯,⋯|U _ _ ?_];rw[Int.toNat_natCast];show cP (λi n e=>(∃o,n=[!l,!m,some (.int ws.length),o])/\e=H) %[%[_|rfl]|rfl] ?_ ?_
  .intro i n e hi %[%[o|rfl]|rfl];change iM _ _ _ _ [!l,!m,some (.int ws.length),some (.int (0+i))] e;rw[Int.zero_add];show aB λD3 Y _=>?_
   lk;let%[t',r,p,q,z,p',z',e1,e2|ea]:=AX b.wal hi;let c:=Yc hi;let u:atI (ws\0) (i:Int)∣.ref ws[i].1:=bK (by rw[Zl,Z4 hi];rfl);let g:=(y _ c).2;let I:=(y _ r).2;let d:=b.sub _ (Xr %[_,c|rfl]);rw[e1]at g d;rw[e2]at I;show%[_,JP.of a,_,u,.type "tuple",.tup g,true,by rfl|p8 %[_,JP.of a,_,u,_,_,_,ss,ρ,ρ,g,N,λt ht=>(j t ht).1,d,_,ρ|p8 %[_,JP.of a,_,u,_,ρ,_,SqT.of g,_,ρ,_,JP.of a,_,ea,_,ρ,_,SqT.of I,_,ρ|?_]]];exact%[ρ|by rw[if_neg ∅];exact Y _ _ %[%[_|ρ]|ρ]]
  .intro n e %[%[o|rfl]|rfl];show k2 _ _ ?_;lk;exact O
def lj(n:Str)(c:Nat):lnS n (sgn c)=dP n c:=by
 show fH ?_;change(([].toArray) ++n.cps++ ([46].toArray) ++ ([c].toArray)).toList=(n.cps.toList++[46,c]).toArray.toList;simp
def uD:x∈lyr p↔∃c,Let p.2.2 c/\x=dP p.2.1 c:=by
 unfold lyr;rw[mem_map]
 constructor
 .rintro⟨z,b,rfl⟩;let%[c,a|rfl]:=io b;exact%[c,gx.mp a|lj _ _]
 .rintro⟨c,a,rfl⟩;exact%[sgn c,aV.mpr (Xr %[c,gx.mpr a|ρ])|lj _ _]
def pT(h:mX d):x∈(gG d)\1↔∃c,Let d.rows c/\x=dP d.name c:=by
 unfold gG Drn.rows;rw[Yt,mem_map]
 constructor
 .rintro⟨a,i,rfl⟩;let%[e,f|g]:=eU.mp i;exact%[sg a d.sh,(vR h.2.2.2.2.2).mpr %[a,e,f,g|ρ]|ρ]
 .rintro⟨c,g,rfl⟩;let%[a,e,f,b|rfl]:=(vR h.2.2.2.2.2).mp g;exact%[a,eU.mpr %[e,f|b]|ρ]
def pU:∀{xs:List s},(xs.map nm).Nodup->(∀p∈xs,(f p).Nodup)->(∀p∈xs,∀x∈f p,∃c,x=dP (nm p) c)->(xs.flatMap f).Nodup
 |[],_,_,_=>X6
 | p::xs,h,l,i=>by
   rw[Yr,nodup_cons]at h;rw[List.flatMap_cons,X3];show%[l p Zm,pU h.2 (λq g=>l q (Zk _ g)) (λq g=>i q (Zk _ g))|λa m b n e=>?_];let%[q,g|j]:=mem_flatMap.mp n;let%[c|o]:=i p Zm a m;let%[d|r]:=i q (Zk _ g) b j;let:=(lP (o.symm.trans (e.trans r))).1;exact h.1 (Xr %[q,g|this.symm])
def AY(p:Addr×Str×ZB):(lyr p).Nodup:=by
 unfold lyr;rw[X4,Xa];show Xi (λ{x y} e f a b=>?_) (nodup_iff_pairwise_ne.mp (bF ((c6 p.2.2).map sgn)));let%[c,_|rfl]:=io e;let%[d,_|rfl]:=io f;rw[lj,lj]at b;exact a (by rw[(lP b).2])
def yo(d:Drn):((gG d)\1).Nodup:=by
 unfold gG;rw[Yt,X4,Xa];show Xi (λ{x y} b c a e=>?_) (nodup_iff_pairwise_ne.mp (vS d.cols));let%[f,g|_]:=eU.mp b;let%[h,i|_]:=eU.mp c;exact a (HX f g h i (lP e).2)
def si.mono(h:si ls xs)(s:∀x∈ls,x∈ms):si ms xs:=by
 rcases h with⟨w,a,b,e,c,d,f,g⟩|⟨w,a,y,e,c,d,f⟩
 .exact .inl %[w,a,b,e,c,s _ d,s _ f|g]
 .exact .inr %[w,a,y,e,c,s _ d|f]
def yp{d:ZH}{ls:ZB}(h:ls.Perm (d.flatMap lyr)){x:Str}:x∈ls↔∃p∈d,∃c,Let p.2.2 c/\x=dP p.2.1 c:=by
 rw[h.mem_iff,mem_flatMap]
 constructor
 .rintro⟨p,a,b⟩;exact%[p,a|uD.mp b]
 .rintro⟨p,a,b⟩;exact%[p,a|uD.mpr b]
def sI(h:∀p∈ds,mX p.2):x∈(ds.flatMap λp=>(gG p.2)\1)↔∃p∈dcs ds,∃c,Let p.2.2 c/\x=dP p.2.1 c:=by
 rw[mem_flatMap];unfold dcs
 constructor
 .rintro⟨p,a,b⟩;exact%[_,Xr %[p,a|ρ]|(pT (h p a)).mp b]
 .rintro⟨q,d,b⟩;let%[p,a|rfl]:=Xq d;exact%[p,a|(pT (h p a)).mpr b]
def wE{ds:List (Addr×Drn)}(h:∀p∈ds,mX p.2)(a:(ds.map λp=>p.2.name).Nodup):(ds.flatMap λp=>(gG p.2)\1).Nodup:=
 pU (nm:=λp:Addr×Drn=>p.2.name) a (λp _=>yo p.2) λp b x d=>by
  let%[c,_|e]:=(pT (h p b)).mp d;exact%[c|e]
def lq{a:ZH}(b:(a.map λp=>p.2.1).Nodup){ls:ZB}(h:ls.Perm (a.flatMap lyr)):ls.Nodup:=by
 rw[h.nodup_iff];exact pU (nm:=λp:Addr×Str×ZB=>p.2.1) b (λp _=>AY p) λp f x d=>by
  let%[c,_|e]:=uD.mp d;exact%[c|e]
structure mj (H:Hp) (cs:ZH) (qs:ZN):Prop where
 ca:cn H cs
 nd:(cs.map λp=>p.2.1).Nodup
 p1:1<= ~~~cs
 p3: ~~~cs<=4
 few:∀p∈cs,x9 p.2.2
 ly: ~~~(cs.flatMap lyr)<=63
 sa:∀ls:ZB,ls.Perm (cs.flatMap lyr)->cE H ls qs
 q20: ~~~qs<=30
def mj.up(h:mj H a qs)(s:ah H b):mj b a qs:=
 %[h.ca.up s,h.nd,h.p1,h.p3,h.few,h.ly,λls p=>(h.sa ls p).up s|h.q20]
inductive pV (K:ZA)
 | mk (a:Addr) (ns:ZL):vs=[.ref a]->JP K H a (ns\4)->Eu H-> ~~~ns<=63->(∀H',Q (.bl true) H')->pV K vs H Q E0
def Fy{R:Hp->Prop}(j:H g=none)(i:H c=none)(n:H a<*cX h)(r:H b∣.lst (qs\0))(p:mj H h qs)
 (k:∀d ls ts,ah H d->iJ mg d g qs ls ts->ls.Perm (h.flatMap lyr)->(∀k,k∈ts\2↔k∈bq h\/k∈db qs qs.length)->R d):
 uk mg [.ref g,.ref a,.ref b] (JO (JO H c (.own g)) g (.ins (aL mg "Ground") c [])) (λv s=>v= .non/\R s) E0:=by
 let f:ah H (JO (JO H c (.own g)) g (.ins (aL mg "Ground") c [])):=λb o e=>by
  rw[au (aE e j),au (aE e i)];exact e
 show%[g,a,b,c,h,qs,ρ,ae,f _ _ n,f _ _ r,p.ca.up f,p.nd,p.p1,p.p3,p.few,p.ly,λls q=>(p.sa ls q).up f,p.q20|λd ls ts u y z A B tk C E G pl I=>%[ρ|k d ls ts (λb o e=>A b o (aE e j) (f _ _ e)) %[%[u,y,z|B],lq p.nd pl,I,by rw[pl.length_eq];exact p.ly,G,λk l=>?_,λk l=>?_|C] pl E]]<;> have%[t,m|rfl]:=Xq l
 .exact(tk t m).1
 .exact(tk t m).2
abbrev plc(L:ZB)(x:Str):Nat:=L.findIdx λy=>decide (y=x)
def uE{L:ZB}(nd:L.Nodup){i:Nat}{x:Str}(h:L[i]?∣x):plc L x=i:=by
 let lt:plc L x< ~~~L:=List.findIdx_lt_length_of_exists %[x,Z8 h|Zf rfl];let e:L[plc L x]=x:=Zo (List.findIdx_getElem (w:=lt));exact iK nd (by rw[Z4 lt,e]) h
structure DD (S:Str->Str->Prop) (ls:ZB) (lk:List ZB) (L:ZB):Prop where
 nd:L.Nodup
 mem:∀x,x∈L↔x∈ls/\ci S x x
 ord:∀x y,Ed lk x y->plc L y<plc L x
inductive wF (mg:ZC)
 | mk (g a:Addr) (qs:ZN) (ls:ZB) (ts:ZG) (lk:List ZB) (L:ZB):vs=[.ref g,.ref a]->iJ mg H g qs ls ts->cm (bu qs) (ts\2) lk->(∀x,¬ Rch lk x x)->H a<*L\3-> ~~~L<64->(∀H' v,ah H H'->(v=true↔DD (bu qs) ls lk L)->Q (.bl v) H')->wF mg vs H Q E0
inductive wG (mg:ZC) (vs:ZM) (H:Hp) (Q:VK) (E:XK):Prop
 | mk (g a:Addr) (qs:ZN) (ls:ZB) (ts:ZG) (lk:List ZB):vs=[.ref g,.ref a]->iJ mg H g qs ls ts->cm (bu qs) (ts\2) lk->(∃x,Rch lk x x)->(∀d l H' ws x,ah H H'->H d=none->H l=none->d≠l->yl H' lk d l ws x->E (.ref (aL mg "Torn")) (some d) H')->wG mg vs H Q E
def jZ(T:Txt K mg):Cd P w K mg base 8 "is_order" ["ground","some"] (wG mg):=by
 let fA:=fA (P:=P) (w:=w) (base:=base) T;show T.aT.calX bU (λH vs Q E h=>?_)
 .let%[g,a,qs,ls,ts,lk,rfl,d,e,i|j]:=h;show%[ρ|λf c A outer s b=>?_];show%[_,(QSs.h (aj (aK 2 bU.nd rfl (Je (EK λ_ _ _ h=>h) fA b rfl rfl rfl rfl #[↑0]))
   (aj (ifS (bj (BW (K:=K) rfl b) rfl (cbO (jn (K:=K) rfl) T.a7 boot_sorted rfl #[↑1]) (aS (cO T) b rfl #[↑0]))
   (ap (aW eBl))
   aZ)
   (aj (lC 3 bU.nd rfl Z1 Z0 rfl mF)
   (aj (cB PassesOwn.leaving rfl rfl (qZ (K:=K) rfl rfl T.ab rfl #[↑1]) (eE (K:=K) rfl rfl rfl (gsE rfl (aG 4 bU.nd rfl) (gsE rfl (aG 5 bU.nd rfl) cG)))
   (ap (gu b rfl ↑4 (bN 3 rfl) ↑5)))
   (ap (aW (cbO (uR (K:=K) rfl rfl) T.aa boot_all rfl #[(dC (aA.of ↑(["later","earlier","source","places"],[(3,3)])) rfl rfl (cS (K:=K) rfl ↑2) (λ_ _ _=>(eE (K:=K) rfl rfl rfl (gsE rfl (aG 0 ↑["later","earlier","source","places"] rfl) (gsE rfl (aG 1 ↑["later","earlier","source","places"] rfl) (gsE rfl (aG 2 ↑["later","earlier","source","places"] rfl) cG))))) (λ_ _ _=>gO) (λ_ _ _=>(jv oa rfl (cI b (λ_ _=>rfl) (bN 3 rfl) ↑1) (cI b (λ_ _=>rfl) (bN 3 rfl) ↑0))))]))))))))|?_]
  exact%[g,qs,ls,ts,lk,[],ρ,d,e,i|j]
def pW(T:Txt K mg):↥7 "is_order" ["ground","some"] (wF mg):=by
 .exists T.aT,bU,bm,Y,%[g,a,qs,ls,ts,lk,L,rfl,hg,ab,nr,ha,Ll|kk];let%[c2,c3,c4|gr]:=hg.gr;let ll:=hg.ll;show%[_,%["JDG2H~|A0BDQK~1&~gA1BH~YA0BEIoRD,3jk}DV~JA1BgPL4PL5hE<4O35EI~R~SAmd?1T2gPX0?2PX1?2PX2?2hsy/qO31qO30B",bU.nd,↑(["later","earlier","source","places"],[(3,3)]),↑["later","earlier","source","places"]|Y]|?_]
  change bn _ _ _ [!g,!a,none,none,none,none] H;show ak λD1 k1 _=>?_
  lk;show%[g,qs,ls,ts,ρ,hg,λbt h'=>by rw[lh (h'.mm ab)];exact nr|λl H1 ns ss s1 hl la sl ac=>k1 _ _ (ak λD2 k2 r2=>?_)];let es:=ut (ac.mm ab);lk;show%[L,JP.of (s1 _ _ ha),Ll|λm M fm pm so=>?_];let s2:=s1.trans (ah.JO (o:= .lst (M\3)) fm);let hm:JO H1 m (.lst (M\3)) m=_:=ae;let ag:=ah.JO (o:= .lst (M\3)) fm _ _ hl;let ai:=la.up (ah.JO (o:= .lst (M\3)) fm)
  generalize JO H1 m (.lst (M\3))=H2 at s2 hm ag ai
  show%[g,c2,c3,c4,qs,ls,ts,ρ,gr.up s2,hg.nd,hg.so,⋯|λn H3 ms s3 fn hn p=>?_];show .inl %[_,Has.strs (JP.of (s3 _ _ hm)),_,Has.strs (JP.of hn),by rw[lD];decide|?_];rw[lE];let s4:=s2.trans s3;let J:M=ms↔L.Nodup/\∀x,x∈L↔x∈ls/\ci (bu qs) x x:=by
   constructor
   .rintro rfl;exact%[pm.nodup_iff.mp p.nd|λx=>by rw[<-pm.mem_iff,p.mem]]
   .rintro⟨nd,mem⟩;exact jT aP (λ_ _ a b=>c9 a b) so p.so (pm.nodup_iff.mpr nd) p.nd λx=>by rw[pm.mem_iff,mem,p.mem]
  show bv (λc=>r2 _ _ (kk _ _ s4 %[(λh=>nomatch h)|λh=>?_])) λc=>k2 _ _ (ak λD3 k3 _=>?_)
  .rw[Zf (J.mpr %[h.nd|h.mem])]at c;cases c
  let c:M=ms:=by
   cases h:decide (M=ms)with
   | true=>exact Zo h
   | false=>rw[h]at c;exact absurd rfl c
  let%[nd|mem]:=J.mp c;clear J c;let a0:=s3 _ _ ag;let a1:=ai.up s3;lk;intro d fd;show k3 _ _ (ak λD4 k4 _=>ay λbf hK=>?_);let s5:=s4.trans (ah.JO (o:= .dK []) fd);let hd:JO H3 d (.dK []) d∣.dK (VD (L.take 0) λn=> .int (plc L n)):=ae;let al:=ah.JO (o:= .dK []) fd _ _ a0;let an:=a1.up (ah.JO (o:= .dK []) fd);let a2:=s4.free fd
  generalize JO H3 d (.dK [])=H5 at s5 hd al an
  lk;let Lm: ~~~(L\3)= ~~~L:=Z6 _;let a3:=s5 _ _ ha;show%[_,JP.of a3|hK _ _ (iS (λi I v=>(∃o4 o5,I=[!g,!a,!l,!d,o4,o5])/\ah H v/\v l∣.lst (ss\0)/\dG v ns ss/\v d∣.dK (VD (L.take i) λn=> .int (plc L n)))
   %[%[none,none|ρ],s5,al,an|hd] (λi I v _ h=>JP.of (h.2.1 _ _ ha)) ?_ ?_)]
  .intro i x TT I v hx %[%[o4,o5|rfl],sm,B,N|C] hT;rw[Zl]at hx;let%[z,hz|rfl]:=map_eq_some_iff.mp hx;let i1:i< ~~~L:=(Xn hz).1;let s0:=ah.JO (o:= .tup [.int i,.str z]) hT;let aq:JO v TT (.tup [.int i,.str z]) TT=_:=ae;let O:=s0 _ _ B;let G:=N.up s0;let U:=s0 _ _ C;let as:=sm.trans s0
   generalize JO v TT (.tup [.int i,.str z])=H6 at s0 aq O G U as
   lk;let ne:∀{b:Addr} {o:HO},H6 b∣o->o≠ .dK _->b≠d:=λe n c=>n (by rw[c,U]at e;exact(Za e).symm)
   show%[_,SqT.of aq,ρ,_,_,ρ,_,_,ρ,ρ,_,iH.k (k:=Sum.inr z) U (by unfold VD;rw[Z6,Ym];exact aH ⋯),%[_|ρ],ah.set as a2,(au (ne O ∅)).trans O,λt r=>%[(au (ne (G t r).1 ∅)).trans (G t r).1|(G t r).2]|?_];let zn:z∉L.take i:=λhm=>by
    let h:=nd;rw[<-Xd i L,X3]at h;exact h.2.2 z hm z (Z8 (i:=0) (by rw[Yb];exact hz)) rfl
   rw[ae,j8 _ (uw zn),Xc,hz];unfold VD;rw[Zd];change some _∣HO.dK (_++[(Sum.inr z,V.int (plc L z))]);rw[uE nd hz]
  .intro I v %[%[o4,o5|rfl],sm,B,N|C];rw[Lm,Zn (Zi _)]at C;show k4 _ _ ?_;lk;show aF λa4 a5=>?_
   lk;show%[%[_|JP.of B]|a5 _ _ λF hF=>?_];show cJ (λj vs I H2=>(∃o1 o2 o3,I=[o1,o2,o3,!d])/\ah v H2/\∃bs:List Bool,H2 F<*bs.map V.bl/\vs=bs.map V.bl/\ ~~~bs=j/\(bs.all id=true↔∀t∈ss.take j,∀x y z,t.2=[x,y,z]->plc L y<plc L x))
    %[%[none,none,none|rfl],ah.JO hF,[],ae,rfl,rfl|by simp] (λ_ _ _ H2 a6=>a6.2.1 _ _ B) ?_ ?_
   .intro j vs I H2 hj %[%[o1,o2,o3|rfl],u,bs,a7,rfl,bl|bI];let%[q1,aa,bb,zz,e,h1|h2]:=N ss[j] (Yc hj);let st:=SqT.of (K:=K) (u _ _ q1);rw[e]at st;let aR:=hg.names ac p _ (Xr %[_,Yc hj|rfl]);rw[e]at aR;let%[_,_,_,e',m1|m2]:=aR;cases e';let aU:=λ{y} hy=>(mem y).mpr ((p.mem y).mp hy)
    let get:=λ{y} hy=>by
     let:=dM.k (k:=Sum.inr y) (u _ _ C);rw[jX hy]at this;exact this
    lk;show%[_,st,ρ,_,_,ρ,_,_,ρ,_,_,ρ,ρ,_,get (aU m2),_,get (aU m1),_,ρ,_,ρ|CK.mk hj a7 (by rw[Z6];exact aH ⋯) %[%[_,_,_|ρ],ah.set u hF,bs++[decide _],by rw[ae,Zd];rfl,by rw[Zd];rfl,by rw[Z9,bl];rfl|?_]];rw[List.all_append,Zv,bI,Xc,Z4 hj];rw[show([decide _].all id=true)=(plc L bb<plc L aa) by simp]
    constructor
    .rintro⟨h1,h2⟩ t r x y z et;rcases Xo r with q|q
     .exact h1 t q x y z et
     .rw[Xp q,e]at et;cases et;exact h2
    .intro h;exact%[λt r=>h t (Yw _ r)|h _ (Yx _ Zm) _ _ _ e]
   intro vs I H2 %[_,u,bs,bc,rfl,bl|bI];rw[Zn (Zi _)]at bI;show%[F,ρ,bs,JP.of bc|kk _ _ (sm.trans u) (bI.trans ?_)]
   constructor
   .intro h;show%[nd,mem|λx y ed=>?_];rw[<-es]at ed;let%[z|hz]:=ed;let%[t,r|e]:=Xq hz;exact h t r x y z e
   .intro h t r x y z e;show h.ord x y ?_;rw[<-es];exact%[z|Xr %[t,r|e]]
def yq{X:Cx}{mg:ZC}{x:Str}{p:Pos}(e:X.mg=mg)(b:Gl X x)(c:mg x∣.ref (aL mg x))(a:(x==("__debug__":Str))=false):QE X (.Name x p) (tC (.ref (aL mg x))):=by
 subst e;exact clsE b c a
inductive wH (mg:ZC)
 | mk (g:Addr) (qs:ZN) (ls:ZB) (ts:ZG) (lk:List ZB) (b:Addr):vs=[.ref g,.ref b]->iJ mg H g qs ls ts->cm (bu qs) (ts\2) lk->(∃x,Rch lk x x)->(∀l H' ws x,ah H H'->H l=none->H' l∣.lst (ws\0)->aM H' ws->Sho lk x x (ws\2)-> ~~~ws<=200->(∀y n,Dst lk y (n+1) y-> ~~~ws<=n+1)->Q (.ref l) H')->wH mg vs H Q E0
def yt(T:Txt K mg):↥9 "_law_torn" ["_law_ground_here","_law_some"] (wH mg):=by
 let jZ:=jZ (P:=P) (w:=w) (base:=base) T;show T.bt.cal fN (λH vs Q E h=>?_)
 .let%[g,qs,ls,ts,lk,b,rfl,M,y,N|O]:=h;show%[ρ|λf J A outer s L=>?_]
  letI U:_LL.St->XK:=λq c d n=>q=[!g,!b,some .non,none]/\c= .ref (aL mg "Torn")/\∃e l ws x,d∣e/\ah H n/\H e=none/\H l=none/\e≠l/\yl n lk e l ws x
  show%[_,%["JDG2=D?1EI2",fN.nd|(tryV (i:=3) U rfl rfl fN.nd rfl rfl rfl rfl T.c_DigError T.t_DigError rfl (λ_=>
   (ap (cf rfl (Jt AE jZ L rfl rfl rfl rfl #[↑0,↑1]))))
   (λ_=>(ap (ifS (wT (jN ((cbE (Cg (K:=K) rfl) rfl T.ae boot_isinstance rfl rfl rfl #[↑3,(yq (mg:=mg) rfl rfl T.c_Torn rfl)])⁻¹) (fY ((cbE (Cg (K:=K) rfl) rfl T.ae boot_isinstance rfl rfl rfl #[↑3,(blE (v:= .ty "ValueError") rfl T.an PyProof.Rows.Boot.«ValueError» rfl rfl rfl)])⁻¹))))
    (ap (ifS (jw ((cbE (Cg (K:=K) rfl) rfl T.ae boot_isinstance rfl rfl rfl #[↑3,(iI #[(yq (mg:=mg) rfl rfl T.c_NoCut rfl),(yq (mg:=mg) rfl rfl T.c_NoGround rfl),(yq (mg:=mg) rfl rfl T.c_NoSaying rfl),(yq (mg:=mg) rfl rfl T.c_NoDeed rfl),(yq (mg:=mg) rfl rfl T.c_NoRow rfl),(yq (mg:=mg) rfl rfl T.c_NoLayer rfl)])])⁻¹))
     (ap (aK 2 fN.nd rfl (Jf T.g_Torn_ring rfl ↑3)))
     aZ))
    aZ))))]|?_]
  change bn _ _ _ [!g,!b,none,none] H;show ak λD1 k1 r1=>?_
  lk;show k1 _ _ (ak λD2 k2 r2=>?_);show%[?_|?_]
  .lk;unfold C5;lk;exact%[g,b,qs,ls,ts,lk,ρ,M,y,N|λd l n ws x s' Y hl dl m=>%[ρ,ρ,d,l,ws,x,ρ,s',Y,hl,dl|m]]
  .intro q c d n %[rfl,rfl,e,l,ws,x,rfl,sm,aa,fl,ab|m];show%[_,ρ,T.u_Torn|λa _ ha=>?_];let z:JO n a (ExH a (aL mg "Torn") (some e)) a∣ExH a (aL mg "Torn") (some e):=ae;let r:=ah.JO (o:=ExH a (aL mg "Torn") (some e)) ha;let u:=sm.trans r;change iM _ _ _ _ [!g,!b,some .non,!a] _
   generalize JO n a (ExH a (aL mg "Torn") (some e))=H1 at z r u
   let C:=r _ _ m.ad;let hL:=r _ _ m.al;let j:∀B,ah H1 B->TyX K B (.ref a) (.ref (aL mg "Torn")):=λB G=> .ex %[_,G _ _ z|.inr %[e,_,rfl|G _ _ C]] T.x_Torn.is
   show aB λD3 k3 r3=>?_
   lk;show%[_,j _ (ah.refl _),true,.inl T.k_Torn_Torn|?_];rw[if_pos rfl];show%[_,j _ (ah.refl _),true,T.k_Torn_ValueError|?_];rw[if_pos rfl];show%[#[6]|λp hp=>?_];let sp:=ah.JO (o:= .tup [V.ref (aL mg "NoCut"),V.ref (aL mg "NoGround"),V.ref (aL mg "NoSaying"),V.ref (aL mg "NoDeed"),V.ref (aL mg "NoRow"),V.ref (aL mg "NoLayer")]) hp;show%[_,j _ sp,false,.inr %[_,ae|T.k_Torn_any2]|?_];rw[if_pos (show(not false)=true from rfl)];simp only[Ca];lk;show%[e,sp _ _ z,_,sp _ _ C,.ref l,by rfl|?_];show k3 _ _ (k2 [!g,!b,!l,none] _ ?_);lk;exact O l _ ws x (u.trans sp) fl (sp _ _ hL) (λt I=>%[(m.tu t I).1|sp _ _ (r _ _ (m.tu t I).2)]) m.sho m.len m.min
def wI{a b:Type}(f:a->b)(xs:List a)(is:List Nat):is.filterMap ((xs.map f)[·]?)=(is.filterMap (xs[·]?)).map f:=by
 rw[List.map_filterMap];exact congrArg (λg=>List.filterMap g is) (funext λi=>Zl ..)
abbrev Yl(te:TE)(c:_LL.St)(H:Hp)(n:Nat):Prop:=∀a,ah H a->∀Q:VK,(∀p b (us:ZB),ah a b->b p<*us\3-> ~~~us<=n->Q (.ref p) b)->te c a Q
abbrev Ys(te:TE)(c:_LL.St)(H:Hp):Prop:=∀a,ah H a->∀Q:VK,(∀(z:Str) b,ah a b->Q (.str z) b)->te c a Q
abbrev fC(H:Hp)(us:ZG):Prop:=∀u∈us,H u.1<*u.2\3/\ ~~~u.2<=63
def fC.up{H a:Hp}{us:List _}(h:fC H us)(s:ah H a):fC a us:=λu b=>%[s _ _ (h u b).1|(h u b).2]
abbrev Ya(c:TA)(d:_LL.St)(H:Hp)(n:Nat):Prop:=∀a,ah H a->∀Q:ZM->Hp->Prop,(∀b (us:ZG),ah a b->fC b us-> ~~~us=n->Q (us\0) b)->c d a Q
abbrev Yv(te:TE)(c:_LL.St)(H:Hp)(n:Nat):Prop:=∀b,ah H b->∀Q:VK,(∀p a (us:ZG),ah b a->a p∣.lst (us\0)->fC a us-> ~~~us<=n->Q (.ref p) a)->te c b Q
abbrev Yll(te:TE)(c:_LL.St)(H:Hp)(n:Nat):Prop:=∀b,ah H b->∀Q:VK,(∀p a (us:ZG),ah b a->a p∣.lst (us\0)->fC a us->us≠[]-> ~~~us<=n->Q (.ref p) a)->te c b Q
section
variable{K:ZA}{σ:_LL.St}{H:Hp}{ta tb te:TE}{m n:Nat}
def ir(a:Yl ta σ H m)(b:Yl tb σ H n)(l:m+n<=1000):Yl (tOp xf ta tb) σ H (m+n):=λe s Q k=>a e s _ λp f us c g j=>b f (s.trans c) _ λq o vs d h u=>%[p,q,_,_,rfl,rfl,d _ _ g,h,by rw[Z6,Z6,PySem.sizeLine_eq];lia|λr i=>k r _ _ ((c.trans d).trans (ah.JO i)) (by rw[ae,Zd]) (by rw[Z9];lia)]
def wJ{a:Type}(f:a->V)(xs:List a)(lo hi:Option Int):sM (xs.map f) lo hi=((xs.drop (_HT.sIx xs.length 0 lo)).take (_HT.sIx xs.length xs.length hi-_HT.sIx xs.length 0 lo)).map f:=by
 unfold sM
 simp_all
def wK{c d:TO}{i:Nat}(a:Yl ta σ H m)(l:∀b Q,Q none b->c σ b Q)(h:∀b Q,Q (some i) b->d σ b Q):Yl (tSl (xa K) ta c d) σ H i:=λb s Q k=>a b s _ λp e us f g o=>l e _ (h e _ %[p,_,rfl,JP.of g|λr j=>by
 rw[wJ];exact k r _ _ (f.trans (ah.JO j)) ae (by rw[Ym,_HT.sIx_nat,_HT.sIx_none];lia)])
def lu{c d:TO}{i:Nat}(a:Yl ta σ H m)(l:∀b (Q:Option Int->Hp->Prop),Q (some i) b->c σ b Q)(h:∀b (Q:Option Int->Hp->Prop),Q none b->d σ b Q):Yl (tSl (xa K) ta c d) σ H (m-i):=λb s Q k=>a b s _ λp e us f g j=>l e _ (h e _ %[p,_,rfl,JP.of g|λr o=>by
 rw[wJ];exact k r _ _ (f.trans (ah.JO o)) ae (by
  rw[Ym,Yh,_HT.sIx_nat];show Nat.le_trans (Nat.min_le_right _ _) ?_;rcases Nat.le_total i us.length with h|h
  .rw[min_eq_left h];exact Nat.sub_le_sub_right j i
  .rw[Nat.min_eq_right h,Xb];exact Xg _)])
def yv(a:Ys te σ H):Yl (uI (j6 te mZ)) σ H 1:=λb s Q k=>a b s _ λz e c=>%[#[1]|λp d=>k p _ [z] (c.trans (ah.JO d)) ae (Zi _)]
def DE(a:Ys ta σ H)(b:Ys tb σ H):Yl (uI (j6 ta (j6 tb mZ))) σ H 2:=λd s Q k=>a d s _ λz e c=>b e (s.trans c) _ λy h f=>%[#[2]|λp g=>k p _ [z,y] ((c.trans f).trans (ah.JO g)) ae (Zi _)]
def DF:Yl (uI mZ) σ H 0:=λb s Q k=>%[(!1)|λp a=>k p _ [] (ah.JO a) ae (Zi _)]
def pX{t:Addr}{L:ZB}(h:H t<*L\3)(l: ~~~L<=n)(e:∀a Q,Q (.ref t) a->te σ a Q):Yl te σ H n:=λa s Q k=>e a Q (k t a L (λ_ _ h=>h) (s _ _ h) l)
def nG{t:Addr}{us:List _}(h:H t∣.lst (us\0))(b:fC H us)(l: ~~~us<=n)(e:∀a Q,Q (.ref t) a->te σ a Q):Yv te σ H n:=λa s Q k=>e a Q (k t a us (λ_ _ h=>h) (s _ _ h) (b.up s) l)
def wL(z:Str)(e:∀a,ah H a->∀Q,Q (.str z) a->te σ a Q):Ys te σ H:=λa s Q k=>e a s Q (k z a λ_ _ h=>h)
def DG{b:TE}(a:Yl ta σ H m)(h:∀c Q,Q (.int (-1)) c->b σ c Q):Yl (HQ ta b) σ H m:=λc s Q k=>a c s _ λp d us e f j=>h d _ %[p,_,rfl,f,rfl|λr g i=>by
 rw[wI,Z6,Z6]at i;rw[wI,Z6];exact k r _ _ (e.trans (ah.JO g)) ae ⋯]
def mo:Ya mZ σ H 0:=λa _ Q k=>k a [] (λ_ _ h=>h) (λ_ h=>nomatch h) rfl
def cw{ts:TA}(a:Yl ta σ H m)(b:Ya ts σ H n)(l:m<=63):Ya (j6 ta ts) σ H (n+1):=λf s Q k=>a f s _ λp g us d h i=>b g (s.trans d) _ λj vs e o q=>k j ((p,us)::vs) (d.trans e) (λu c=>by
 rcases mem_cons.mp c with rfl|c
 .exact%[e _ _ h|Nat.le_trans i l]
 .exact o u c) (congrArg Nat.succ q)
def ju{ts:TA}(b:Ya ts σ H (n+1))(l:n<1000):Yll (uI ts) σ H (n+1):=λc s Q k=>b c s _ λh us d f g=>%[by rw[Z6,PySem.sizeLine_eq];lia|λp a=>k p _ us (d.trans (ah.JO a)) ae (f.up (ah.JO a)) (λe=>by grind) (le_of_eq g)]
abbrev Yf(te:TE)(σ:_LL.St)(H:Hp)(n:Nat):Prop:=∀a,ah H a->∀Q:VK,(∀p b (us:ZG),a p=none->ah a b->b p∣.lst (us\0)->fC b us->us≠[]-> ~~~us<=n->Q (.ref p) b)->te σ a Q
def DH{H a:Hp}{p:Addr}(s:ah H a)(h:a p=none):H p=none:=by
 cases e:H p with
 | none=>rfl
 | some o=>exact nomatch (s _ _ e).symm.trans h
def uF(a:Yv ta σ H m)(b:Yll tb σ H n)(l:m+n<=1000):Yf (tOp xf ta tb) σ H (m+n):=λg s Q k=>a g s _ λp i us f j o A=>b i (s.trans f) _ λq B vs c v y un C=>%[p,q,_,_,rfl,rfl,c _ _ j,v,by rw[Z6,Z6,PySem.sizeLine_eq];lia|λr d=>k r _ _ (DH (f.trans c) d) ((f.trans c).trans (ah.JO d)) (by rw[ae,Zd]) (λu z=>by
 rcases Xo z with h|h
 .exact((o.up c).up (ah.JO d)) u h
 .exact(y.up (ah.JO d)) u h) (λe=>un (List.append_eq_nil_iff.mp e).2) (by rw[Z9];lia)]
def Ip{c:TT}{t u:TS}{D:fU}(h:∀A B:Hp->Prop,(∀a,t D σ a->A a)->(∀a,u D σ a->B a)->c σ H λb a=>if b=true then A a else B a):iM c t u D σ H:=h _ _ (λ_ h=>h) (λ_ h=>h)
def Iq{D:fU}(h:te σ H D.rt):jK te D σ H:=h
def uG{a:TG}{D}(h:te σ H λv b=>a v σ b D.nx):pY te a D σ H:=h
def Ir{c:TT}{o:TE}{D}{b:Bool}{p:Addr}{us:List _}{j:Hp}(q:ah j H)(y:j p=none)(A:∀Q,Q b H->c σ H Q)(B:∀Q,Q (.ref p) H->o σ H Q)(f:H p∣.lst (us\0))(s:fC H us)(un:us≠[])(C: ~~~us<=n)(l:n<1000)(a:b=true->Yl te σ H m)(E:m<=63)
 (k:∀g d,ah j g->g p∣.lst (d\0)->fC g d->d≠[]-> ~~~d<=n+1->D.nx σ g):iM c (jB (tBM K "list" nv o (j6 te mZ))) yy D σ H:=by
 show A _ ?_;cases b with
 | false=>exact k H us q f s un ⋯
 | true=>
   show B _ %[tyL (JP.of f)|a rfl H (λ_ _ h=>h) _ λr G ws i v I=>%[_,rfl,_,i _ _ f,by rw[Z6,PySem.sizeLine_eq];lia|k _ (us++[(r,ws)]) (ah.set (q.trans i) y) (by rw[ae,Zd];rfl) ?_ (λe=>un (List.append_eq_nil_iff.mp e).1) (by rw[Z9];exact Nat.succ_le_succ C)]];let ne:∀{x:Addr} {zs:ZB},G x<*zs\3->x≠p:=λ{x zs} J e=>by
    subst e;let e:=HO.lst.inj (Za (J.symm.trans (i _ _ f)))
    match us,un,zs,e with
    | u::_,_,[],e=>exact nomatch e
    | u::_,_,z::_,e=>grind
   intro u L;rcases Xo L with h|h
   .let:=(s.up i) u h;exact%[by rw[au (ne this.1)];exact this.1|this.2]
   .rw[Xp h];exact%[by rw[au (ne v)];exact v|Nat.le_trans I E]
end
def zx{n i:Nat}(h:i<n):ixN n i∣i:=by
 unfold ixN;simp[h]
inductive wM (K:ZA)
 | mk (t n w:Addr) (L N:ZB) (ws:ZL):vs=[.ref t,.ref n,.ref w]->H t<*L\3->1<= ~~~L-> ~~~L<=40->(∀z∈L,~~~z<=30)->H n<*N\3-> ~~~N<=40->H w<*ws\4-> ~~~ws=86->(∀x∈ws,0<=x/\x<9973)->(∀r H' (us:ZG),ah H H'->H' r∣.lst (us\0)->fC H' us-> ~~~us<=20->Q (.ref r) H')->wM K vs H Q E0
def wN(T:Txt K mg):↥2 "_law_lists" ["_law_told","_law_names_here","_law_row_here"] (wM K):=by
 .exists T.bu,cj,c2,hr,%[t,n,w,L,N,ws,rfl,ht,L1,c3,Lz,hn,a1,hw,wl,wb|kk];show%[_,%["JDG3FSMO2CZaA0BDG4FSMO2CZaA0BDG5^|A0BD~GM04~253D~GM03~254D~H6kjd?1T&]/Amd?2*AZaAO1BBX0?3szAH~oAMO2CA0BAMO10BBgPX0?4PX1?4hs1DG7NA0A5AFin0pf3n0fFW3CpAFiFin0pf3NAM04Bn0f3pBDG7Fi7NAFiFin0pf3NAMNAbAF~UM0CbAbAbBFS4CBn0f3pA6BDQK/FW3CZaA0BEYur7AFiFin0pf3NAM0FW3CAM03Bn0fFW3CpBRDG7Fi7NA~30:CANBAFiFin0pf3NAF~UM04bBn0fFW3CpBEIFi7NAFiFin0pf3NAM04Bn0fFW3CpB",cj.nd,↑(["_law_number","_law_name"],[]),↑(["_law_k","_law_names_here","_law_row_here"],[(1,1),(2,2)]),↑["_law_k","_law_names_here","_law_row_here"],↑["_law_number","_law_name"]|hr]|?_]
  change bn _ _ _ [!t,!n,!w,none,none,none,none,none] H;show ak λD1 k1 _=>?_
  lk;let ab:∀k:Nat,k<86->∃x,atI (ws\4) (k:Int)∣V.int x/\0<=x:=λk l=>by
   let l:k< ~~~ws:=by lia -verbose
   exact%[ws[k],bK (by rw[Zl,Z4 l];rfl)|(wb _ (Yc l)).1]
  let Lm: ~~~(L\3)= ~~~L:=Z6 _;let%[x2,a2|p2]:=ab 2 (!1);let%[x3,a3|p3]:=ab 3 (!1);let%[x4,a4|p4]:=ab 4 (!1);obtain⟨i,ei,il⟩:∃i:Nat,x2%(~~~L:Int)=i/\i< ~~~L:=%[(x2%(~~~L:Int)).toNat,by let:=Int.emod_nonneg x2 (show(~~~L:Int)≠0 by lia -verbose);lia -verbose|by let:=Int.emod_lt_of_pos x2 (show(0:Int)< ~~~L by lia -verbose);let:=Int.emod_nonneg x2 (show(~~~L:Int)≠0 by lia -verbose);lia -verbose]
  obtain⟨j,ej,jl⟩:∃i:Nat,x3%(~~~L:Int)=i/\i< ~~~L:=%[(x3%(~~~L:Int)).toNat,by let:=Int.emod_nonneg x3 (show(~~~L:Int)≠0 by lia -verbose);lia -verbose|by let:=Int.emod_lt_of_pos x3 (show(0:Int)< ~~~L by lia -verbose);let:=Int.emod_nonneg x3 (show(~~~L:Int)≠0 by lia -verbose);lia -verbose]
  show%[_,JP.of hw,_,a2,_,.inl %[_,JP.of ht|ρ],_,ρ,by rw[Lm];lia -verbose|?_];rw[Lm,ei];show k1 _ _ (ak λD2 k2 _=>?_);lk;show%[_,JP.of hw,_,a3,_,.inl %[_,JP.of ht|ρ],_,ρ,by rw[Lm];lia -verbose|?_];rw[Lm,ej];show k2 _ _ (ak λD3 k3 _=>?_);lk;show%[_,.inl (JP.of ht)|λq fq=>k3 _ _ (ak λD4 k4 _=>?_)];let s1:=ah.JO (o:= .lst (L\3)) fq;let hq:JO H q (.lst (L\3)) q=_:=ae
  generalize JO H q (.lst (L\3))=M at s1 hq
  let O:∀k:Nat,k< ~~~L->∃z,L[k]?∣z/\atI (L\3) (k:Int)∣V.str z:=λk l=>%[L[k],Z4 l|bK (by rw[Zl,Z4 l];rfl)]
  let%[zi,c4|an]:=O i il;let%[C,a5|U]:=O j jl;lk;show%[_,JP.of (s1 _ _ ht),_,U,_,hq,i,zx (by rw[Lm];exact il)|k4 _ _ (ak λD5 k5 _=>?_)];rw[<-List.map_set];let s2:=ah.set (o:= .lst ((L.set i C)\3)) s1 fq;let ac:JO M q (.lst ((L.set i C)\3)) q=_:=ae
  generalize JO M q (.lst ((L.set i C)\3))=H2 at s2 ac
  lk;show%[_,JP.of (s2 _ _ ht),_,an,_,ac,j,zx (by rw[Z6,length_set];exact jl)|k5 _ _ (ak λD6 k6 _=>?_)];rw[<-List.map_set];let s3:=ah.set (o:= .lst (((L.set i C).set j zi)\3)) s2 fq;let Y:JO H2 q (.lst (((L.set i C).set j zi)\3)) q=_:=ae;let Tl: ~~~((L.set i C).set j zi)<=50:=by rw[length_set,length_set];lia -verbose
  generalize JO H2 q (.lst (((L.set i C).set j zi)\3))=H3 at s3 Y
  generalize (L.set i C).set j zi=T2 at Y Tl
  lk;show aF λc1 hK=>?_
  lk;show aF λa6 aq=>?_
  lk;let Nm: ~~~(N\3)= ~~~N:=Z6 _;show%[_,.inl %[_,JP.of (s3 _ _ hn)|ρ],by rw[Nm];lia -verbose,by rw[Nm];lia -verbose|aq _ _ λF hF=>?_];rw[Nm,Int.toNat_natCast];let as:=s3 _ _ hn;let aR:=s3 _ _ hw;show cZ (J:=Itr 0 N.length) (n:= ~~~N) (D:=F) (λk vs σ g=>(∃o1,σ=[o1,!n,!w])/\ah H3 g/\g F<*vs/\∃ps:List (Addr×Int×Str),vs=ps\0/\t7 g ps/\ ~~~ps=k)
   %[%[none|rfl],ah.JO hF,ae,[],rfl,(λ_ h=>nomatch h)|rfl] (λk _ _ g l _=>l) (λ_ _ g _=>Zi _) ?_ ?_
  .intro k vs σ g l %[%[o1|rfl],sm,u,ps,rfl,pa|pl] x H4 %[rfl|rfl];let a7:atI (N\3) (k:Int)∣V.str N[k]:=bK (by rw[Zl,Z4 l];rfl);lk;show%[_,JP.of (sm _ _ aR),_,a4,_,_,ρ,(by lia -verbose),(by lia -verbose)|λv v0 _=>%[_,JP.of (sm _ _ as),_,a7,#[2]|λp hp=>?_]];let sp:=ah.JO (o:= .tup [.int v,.str N[k]]) hp;let gp:JO H4 p (.tup [.int v,.str N[k]]) p=_:=ae
   generalize JO H4 p (.tup [.int v,.str N[k]])=H5 at sp gp ⊢
   show CK.mk l (sp _ _ u) (by rw[Z6];exact aH (by lia -verbose)) %[%[_|rfl],ah.set (sm.trans sp) hF,ae,ps++[(p,v,N[k])],by rw[Zd];rfl,λr hr=>?_|by rw[Z9,pl];rfl];rcases Xo hr with I|I
   .exact%[(pa r I).1|fO (sp _ _ u) _ _ (sp _ _ (pa r I).2)]
   .rw[Xp I];exact%[by change -1000<=v;lia -verbose|fO (sp _ _ u) _ _ gp]
  intro vs σ H4 %[_,s4,aU,ps,rfl,pa|pl];show%[F,ρ,ps,JP.of aU,pa,(by lia -verbose)|λl2 rs ag pr=>%[%[_|JP.of ae]|hK _ _ λG hG=>?_]];let s5:=(s3.trans s4).trans (ah.JO (o:= .lst (rs\0)) ag);let h2:JO H4 l2 (.lst (rs\0)) l2=_:=ae;let ra:t7 (JO H4 l2 (.lst (rs\0))) rs:=λr hr=>%[(pa r (pr.mem_iff.mp hr)).1|ah.JO ag _ _ (pa r (pr.mem_iff.mp hr)).2]
  let ai:=(s4.trans (ah.JO (o:= .lst (rs\0)) ag)) _ _ Y;let rl: ~~~rs= ~~~N:=pr.length_eq.trans pl
  generalize JO H4 l2 (.lst (rs\0))=H5 at s5 h2 ra hG ai
  show cJ (us:=rs) (f:=λp=>V.ref p.1) (λk vs σ g=>(∃o1 o2,σ=[o1,o2])/\ah H5 g/\g G<*vs/\∃us:ZB,vs=us\3/\ ~~~us=k)
   %[%[none,none|rfl],ah.JO hG,ae,[],rfl|rfl] (λ_ _ _ g bb=>bb.2.1 _ _ h2) ?_ ?_
  .intro k vs σ g l %[%[o1,o2|rfl],sm,u,us,rfl|ul];let tk:=sm _ _ (ra _ (Yc l)).2;show%[_,SqT.of tk,ρ,_,_,ρ,_,_,ρ,ρ|?_];lk;exact CK.mk l u (by rw[Z6];exact aH (by lia -verbose)) %[%[_,_|rfl],ah.set sm hG,ae,us++[rs[k].2.2],by rw[Zd];rfl|by rw[Z9,ul];rfl]
  intro vs σ H6 %[_,s6,bc,sh,rfl|bf];show k6 _ _ (ak λD7 k7 _=>?_);let s7:=s5.trans s6;let bl:=s6 _ _ ai;let y:=s7 _ _ ht;clear Y aR as s3 s4 aU pa pl hK aq h2 ra ai s5 s6 hF hG ac s2 s1 hq;let ix:∀o8 g (k:Nat) z,ah H6 g->atI (L\3) (k:Int)∣V.str z->∀te:TE,(∀M (Q:VK),Q (.int k) M->te [!t,!n,!w,some (.int i),some (.int j),!q,!G,o8] M Q)->Ys (tOp (Ei K) (fV 0) te) [!t,!n,!w,some (.int i),some (.int j),!q,!G,o8] g:=λo8 g k z s' e te h=>wL z λM s1 Q I=>h M _ %[_,JP.of (s1 _ _ (s' _ _ y)),_,e|I]
  let y0:∀o8 g,ah H6 g->Yl (fV 0) [!t,!n,!w,some (.int i),some (.int j),!q,!G,o8] g L.length:=λo8 g s'=>pX (s' _ _ y) (Zi _) λ_ _ h=>h
  let b2:∀{o8} {g} {ti:TE} (s':ah H6 g) (a:Ys ti [!t,!n,!w,some (.int i),some (.int j),!q,!G,o8] g) {to:TO} {i':Nat} _,i<=i'->Yl (tOp xf (tOp xf (tSl (xa K) (fV 0) j7 (yH (fV 3))) (uI (j6 ti mZ))) (tSl (xa K) (fV 0) to j7)) [!t,!n,!w,some (.int i),some (.int j),!q,!G,o8] g (i+1+(~~~L-i')):=λs' a _ i' b le=>ir (ir (wK (y0 _ _ s') (λ_ _ h=>h) λ_ _ h=>h) (yv a) (by lia -verbose)) (lu (y0 _ _ s') b λ_ _ h=>h) (by lia -verbose)
  let rf:∀{H:Hp},ah H H:=λ_ _ h=>h
  show uG ?_;show(ju (cw (y0 _ _ rf) (cw (pX bl Tl λ_ _ h=>h) (cw (ir (wK (i:=i) (y0 _ _ rf) (λ_ _ h=>h) λ_ _ h=>h) (lu (i:=i+1) (y0 _ _ rf) (λ_ _ h=>h) λ_ _ h=>h) (by lia -verbose)) (cw (b2 (i':=i) rf (ix _ _ _ _ rf U _ λ_ _ h=>h) (λ_ _ h=>h) (Zi _)) mo (by lia -verbose)) (by lia -verbose)) (!1)) (by lia -verbose)) (!1)) H6 rf _ λp H7 us s8 hp ua un ul=>?_
  show k7 _ _ (ak λD8 k8 _=>uG ?_);show(uF (nG hp ua ul λ_ _ h=>h) (ju (cw (b2 (i':=i) s8 ?_ (λ_ _ h=>h) (Zi _)) (cw (pX (s8 _ _ bc) (Nat.le_trans (le_of_eq (bf.trans rl)) a1) λ_ _ h=>h) mo (!1)) (by lia -verbose)) (!1)) (!1)) H7 rf _ λp2 H8 c5 f2 s9 bm bt bI b0=>?_
  .let%[z0,e0|b1]:=O 0 (by lia -verbose);let c7: ~~~z0<=30:=Lz _ (Z8 e0);intro M s' Q kq;let hj:((j:Int)%4).toNat<4:=by lia -verbose
   obtain⟨m4,em,lm⟩:∃m4:Nat,(j:Int)%4=m4/\m4<4:=%[_,(by lia -verbose:(j:Int)%4=((j:Int)%4).toNat)|hj]
   lk;show%[_,JP.of (s' _ _ (s8 _ _ y)),_,b1,_,ρ,?_,#[4]|λp5 f5=>%[!1,_,JP.of ae|?_]]
   .rw[PySem.sizeLine_eq];change _+1<=_
    lia -verbose
   let a0:∀a b c d:Str,∃z,[V.str a,V.str b,V.str c,V.str d][m4]?∣V.str z:=λa b c d=>match m4,lm with
    | 0,_=>%[_|rfl]
    | 1,_=>%[_|rfl]
    | 2,_=>%[_|rfl]
    | 3,_=>%[_|rfl]
   let%[z4|e4]:=a0 (!"none") (z0++Str.ofString "a") (!"") (!"none.a");rw[em];exact%[_,bK e4|kq _ _ (ah.JO f5)]
  show k8 _ _ (ak λD9 k9 _=>?_);let B:=s8.trans s9;show Ir (b:=decide (((i:Int) +1)<(~~~(L\3):Nat))) (te:=_) (m:=i+2+(~~~L-(i+2))) s9 f2 (λQ I=>?_) (λ_ h=>h) bm bt bI b0 (!1) (λhb=>?_) ?_ λH9 da b3 b4 b5 dd b6=>?_
  .exact%[_,_,ρ,.inl %[_,JP.of (B _ _ y)|ρ]|I]
  .let i1:i+1< ~~~L:=by let:=Zo hb;rw[Lm]at this;lia -verbose
   let%[z1,_|b7]:=O (i+1) i1;exact ir (ir (wK (i:=i) (y0 _ _ B) (λ_ _ h=>h) λ_ _ h=>h) (DE (ix _ _ (i+1) _ B b7 _ λ_ _ h=>h) (ix _ _ _ _ B an _ λ_ _ h=>h)) (by lia -verbose)) (lu (i:=i+2) (y0 _ _ B) (λ_ _ h=>h) λ_ _ h=>h) (by lia -verbose)
  .lia
  show k9 _ _ (ak λde b9 _=>uG ?_);let aa:=s8.trans b3;let zl: ~~~C+(!"z").length<=sizeLine:=by
   let:=Lz _ (Z8 a5);rw[PySem.sizeLine_eq];change _+1<=_
   lia -verbose
  show(uF (nG b4 b5 b6 λ_ _ h=>h) (ju (cw (DG (y0 _ _ aa) λ_ _ h=>h) (cw DF (cw (b2 (i':=i+1) aa (wL (C++Str.ofString "z") λM s1 Q I=>%[_,JP.of (s1 _ _ (aa _ _ y)),_,U,_,_,rfl,rfl,zl|I]) (λ_ _ h=>h) (Yg _)) mo (by lia -verbose)) (!1)) (by lia -verbose)) (!1)) (!1)) H9 rf _ λp4 ca dg f4 cd ch cl dk co=>?_
  show b9 _ _ ?_;let al:=aa.trans cd;show Iq ?_;show(uF (nG ch cl co λ_ _ h=>h) (ju (cw (b2 (i':=i+1) al (ix _ _ _ _ al U _ λ_ _ h=>h) (λ_ _ h=>h) (Yg _)) mo (by lia -verbose)) (!1)) (!1)) ca rf _ λp5 dm cs _ ct cv cM _ c0=>?_
  exact kk _ _ cs ((s7.trans al).trans ct) cv cM (Nat.le_trans c0 (!1))
inductive DI
 | mk (a n m:Addr) (L N:ZB) (ss:ZG):vs=[.ref a,.ref n,.ref m]->H a<*L\3-> ~~~L<64->H n<*N\3->N.Pairwise (λa b=>aP b a=false)->N.Nodup->H m∣.lst (ss\0)->aM H ss->(∀t∈ss,∃x y z,t.2=[x,y,z]/\x∈N/\y∈N)->(∀H' v,ah H H'->(v=true↔(L.Nodup/\∀x,x∈L↔x∈N)/\∀t∈ss,∀x y z,t.2=[x,y,z]->plc L y<=plc L x)->Q (.bl v) H')->DI vs H Q E0
def AZ(T:Txt K mg):↥1 "_law_due" ["_law_some","_law_names_here","_law_tied"] DI:=by
 .exists T.bw,ik,ac,hr,%[a,n,m,L,N,ss,rfl,ha,Ll,hn,Ns,Nn,hm,tu,t3|G];show%[_,%["JDQK~1&~gA0B1EIoRDVT2gPL3PL4PL5hEQK~A~l~m0A4B~l~m0A3BEIoREIo",ik.nd|hr]|?_]
  change bn _ _ _ [!a,!n,!m,none,none,none] H;show ak λD1 k1 r1=>?_
  lk;show%[L,JP.of ha,Ll|λq M fq v so=>?_];let g:=ah.JO (o:= .lst (M\3)) fq;let hq:JO H q (.lst (M\3)) q=_:=ae
  generalize JO H q (.lst (M\3))=H1 at g hq
  let I:=g _ _ hn;show .inl %[_,Has.strs (JP.of hq),_,Has.strs (JP.of I),by rw[lD];decide|?_];rw[lE];let p:M=N↔L.Nodup/\∀x,x∈L↔x∈N:=by
   constructor
   .rintro rfl;exact%[v.nodup_iff.mp Nn|λx=>v.mem_iff.symm]
   .rintro⟨nd,mem⟩;exact jT aP (λ_ _ a b=>c9 a b) so Ns (v.nodup_iff.mpr nd) Nn λx=>by rw[v.mem_iff,mem]
  show bv (λc=>r1 _ _ (G _ _ g %[(λh=>nomatch h)|λh=>?_])) λc=>k1 _ _ (ak λD2 k2 r2=>ay λab hK=>?_)
  .rw[Zf (p.mpr h.1)]at c;cases c
  let c:=by
   cases h:decide (M=N)with
   | true=>exact Zo h
   | false=>rw[h]at c;exact absurd rfl c
  let%[nd|mem]:=p.mp c;let r:=g _ _ hm;let d:=g _ _ ha;let J:=aT tu λb z e=>g _ _ e
  show%[%[_|JP.of r]|hK _ _ (cu (λi O B=>(∃U Y o3,O=[some _,some _,some _,U,Y,o3])/\B=H1/\∀t∈ss.take i,∀x y z,t.2=[x,y,z]->plc L y<=plc L x) %[%[none,none,none|ρ],ρ|λt h=>nomatch h] (λ_ _ B h=>h.2.1▸r) ?_ ?_)]
  .intro i t O B ht %[%[U,Y,o3|rfl],rfl|C];let l:=Z8 ht;let%[x,y,z,e,xN|yN]:=t3 t l;let tt:=(J t l).2;rw[e]at tt;show%[_,SqT.of tt,ρ,_,_,ρ,_,_,ρ,_,_,ρ,ρ|?_];show aB λD3 k3 r3=>?_
   lk;show%[tyL (JP.of d),L,d,(mem y).mpr yN|λj hj=>%[tyL (JP.of d),L,d,(mem x).mpr xN|λj' aa=>?_]];let ej:=uE nd hj;let ag:=uE nd aa;show bv (λc=>r3 _ _ (r2 _ _ (G _ false g %[(λh=>nomatch h)|λh=>?_]))) λc=>k3 _ _ %[%[_,_,_|rfl],rfl|λt' u x' y' z' e'=>?_]
   .let:=h.2 t l x y z e
    lia
   .rw[Xc,ht]at u;rcases Xo u with q'|q'
    .exact C t' q' x' y' z' e'
    .rw[Xp q',e]at e'
     lia
  .intro O B %[%[U,Y,o3|rfl],rfl|C];rw[Zn (Zi _)]at C;show k2 _ _ ?_;exact G _ _ g %[λ_=>%[%[nd|mem]|C]|λ_=>rfl]
inductive sJ
 | mk (t d:Addr) (L ls:ZB) (f:Str->Str) (oo:Obj):vs=[.ref t,.ref d]->H t<*L\3-> ~~~L<=40->H d∣.frz oo (.dK (NmD ls f))-> ~~~ls<64->(∀z∈ls,f z∈L)->(∀r H' (us:ZG),ah H H'->H' r∣.lst (us\0)->fC H' us-> ~~~us<=8->Q (.ref r) H')->sJ vs H Q E0
def j3(T:Txt K mg):↥1 "_law_other_layers" ["_law_told","_law_called_here"] sJ:=by
 show T.bv.cal bO (λH vs Q E h=>?_)
 .let%[t,d,L,ls,f,oo,rfl,ht,ac,hd,y,fL|kk]:=h;show%[ρ|λ_ ab A outer s hr=>?_];show%[_,%["JDG2NBDVT&]:A1BL3EQc%Kvq133+K/ZaA2BCDG4~l~m0Aq13BEG2Fi2NAFiFin0pf4NA3Bn0fFW4CpAFiFin0pfFW4CNA3Bn0fFW4CpBREI2",bO.nd|hr]|?_]
  change bn _ _ _ [!t,!d,none,none,none] H;show ak λD1 k1 _=>?_
  lk;show%[#[0]|λp hp=>k1 _ _ (ak λD2 k2 _=>ay λaa hK=>?_)];let z:=ah.JO (o:= .lst []) hp;let gp:JO H p (.lst []) p=_:=ae
  generalize JO H p (.lst [])=H1 at z gp
  lk;show%[_,.inr %[_|z _ _ hd],ls,by unfold NmD;rw[Yt];rfl,y|λl ss fl pr so=>%[%[_|JP.of ae]|hK _ _ ?_]];let C:=z.trans (ah.JO (o:= .lst (ss\3)) fl);let hl:JO H1 l (.lst (ss\3)) l=_:=ae;let e:=ah.JO (o:= .lst (ss\3)) fl _ _ gp
  generalize JO H1 l (.lst (ss\3))=H2 at C hl e
  show cu (us:=ss) (f:=V.str) (λi G a=>∃q us I g,G=[!t,!d,!q,I,g]/\ah H2 a/\a q∣.lst (us\0)/\fC a us/\ ~~~us<=8) %[p,[],none,none,rfl,λ_ _ h=>h,e,(λ_ h=>nomatch h)|!1] (λ_ _ a ⟨_,_,_,_,_,b,_⟩=>b _ _ hl) ?_ ?_
  .intro i x G a hx %[q,us,I,g,rfl,b,m,r|J];let n:x∈ls:=pr.mem_iff.mp (Z8 hx);let s3:=C.trans b;change iM _ _ _ _ [!t,!d,!q,-x,g] a;show aB λD3 k3 _=>Ip λA B hA hB=>?_
   lk;let dg:=by
    let:=yn (k:=Sum.inr x) (s3 _ _ hd);rw[show NmD ls f=VD ls _ from rfl,jX n]at this;exact this
   let no:=k3 _ _ %[q,us,-x,g,rfl,b,m,r|J];show%[_,dg,ρ|bv (λ_=>%[~~~us,.inl %[_,JP.of m|(Z6 _).symm]|bv (λc2=>hA _ ?_) λ_=>hB _ no]) λ_=>hB _ no];let M: ~~~us<=6:=by lia
   let c:=s3 _ _ ht;show ak λD4 k4 _=>?_
   lk;show%[tyL (JP.of c),_,dg,_,ρ,L,c,fL x n|λj hj=>k4 _ _ (uG ?_)];let jl:j< ~~~L:=(Xn hj).1;let rf:∀{H:Hp},ah H H:=λ_ _ h=>h
   let v:Yl (fV 0) [!t,!d,!q,-x,some (.int j)] a L.length:=pX c (Zi _) λ_ _ h=>h
   let y3:Ys (fV 3) [!t,!d,!q,-x,some (.int j)] a:=wL x λ_ _ _ h=>h
   show(uF (nG m r M λ_ _ h=>h) (ju (cw (ir (ir (wK (i:=j) v (λ_ _ h=>h) λ_ _ h=>h) (yv y3) ⋯) (lu (i:=j+1) v (λ_ _ h=>h) λ_ _ h=>h) ⋯) (cw (ir (ir (wK (i:=j+1) v (λ_ _ h=>h) λ_ _ h=>h) (yv y3) ⋯) (lu (i:=j+1) v (λ_ _ h=>h) λ_ _ h=>h) ⋯) mo ⋯) ⋯) (!1)) (!1)) a rf _ λp2 H3 N _ s4 O U _ Y=>?_
   exact k3 _ _ %[p2,N,_,_,rfl,b.trans s4,O,U|Y]
  .intro G a %[q,us,I,g,rfl,b,m,r|J];show k2 _ _ ?_;lk;exact kk _ _ us (C.trans b) m r J
def wO:∀c,(∀p∈c,x9 p.2.2)->∃ks:List _,~~~ks<=26* ~~~c/\∀k,k∈ks↔k∈bq c
 |[],_=>%[[],by simp|λk=>Iff.rfl]
 | p::c,h=>by
   let%[ks,l|e]:=wO c λq g=>h q (Zk _ g)
   let%[m,n|i]:=h p Zm;show%[(m.filter λk=>decide (k∈bh p.2.2 (~~~p.2.2-1))).map (gF p.2.1) ++ks,?_|λk=>?_]
   .let:=Yi (λk=>decide (k∈bh p.2.2 (~~~p.2.2-1))) m;rw[Z9,Z6,Zr]
    lia
   .rw[Yu,e k,show bq (p::c)=(bh _ _).map _++bq c from rfl,Yu];show or_congr %[λq=>?_|λq=>?_] Iff.rfl<;> have%[f,d|rfl]:=Xq q
    .exact Xr %[f,Zo (List.mem_filter.mp d).2|rfl]
    .show Xr %[f,List.mem_filter.mpr %[?_|Zf d]|rfl];let%[a,b,rfl|j]:=lV d;exact i a b j
def Fz{H:Hp}{g:List _}{qs:List _}{f:ZB}(p:mj H g qs)(n:cE H f qs)(d:∀p∈g,∀a,Let p.2.2 a->lnS p.2.1 (sgn a)∈f):
 ∃ks:List _,~~~ks<=150/\(∀k∈ks,dF f k)/\∀k,k∈ks↔k∈bq g\/k∈db qs qs.length:=by
 let%[ks,l|e]:=wO g p.few;show%[ks++db qs qs.length,?_,λk o=>?_|λk=>!2]
 .let:=List.length_filterMap_le (λj=>qs[j]?.bind λq=>jb j q.2) (List.range qs.length);rw[Yj]at this;let:=p.p3;let:=p.q20;rw[Z9];unfold db
  lia
 .rcases Xo o with h|h
  .let%[c,i|h]:=mem_flatMap.mp ((e k).mp h);let%[B,m|rfl]:=Xq h;let%[a,b,rfl|r]:=lV m;let%[s|u]:=lW (p.ca c i).2.2 r;exact%[_,_,_,ρ,d c i a s|d c i b u]
  .let%[j,_|h]:=mem_filterMap.mp h;let%[q,v|h]:=Option.bind_eq_some_iff.mp h;rcases(n q (Z8 v)).2 with⟨w,a,b,e,_,z,A,_⟩|⟨w,a,y,e,_⟩<;> rw[e]at h
   .change (if w=Str.ofString _ then some _ else none)∣k at h
    split at h
    .exact%[a,b,_,(Za h).symm,z|A]
    .cases h
   .cases h
def FA{K:ZA}{te:TE}{b:_LL.St}{H:Hp}{R:It->Hp->Prop}(h:te b H λv c=>asR v λa=>(∃xs,JP K c a xs)/\R (Itl K a) c):HP K te b H R:=h
def yw{L:ZB}{x:Str}(h:x∈L):L[plc L x]?∣x:=by
 let lt:plc L x< ~~~L:=List.findIdx_lt_length_of_exists %[x,h|Zf rfl];rw[Z4 lt];exact congrArg some (Zo (List.findIdx_getElem (w:=lt)))
def Iu{S:Str->Str->Prop}{ls d L:ZB}{lk:List _}(h:sD lk d L)(l:wo S ls d)(m:∀k∈lk,dF d k):DD S ls lk L:=by
 show%[h.nd,λx=>(h.mem x).trans (l.mem x)|λx y n=>?_];let%[z|g]:=n;let%[a,b,c,e,o|q]:=m _ g;cases e;let p:=yw ((h.mem x).mpr o);let%[j|f]:=Xh (h.ord _ x p y %[z|g]);let i:j<plc L x:=by
  let:=(Xn f).1;rw[Ym]at this
  lia
 rw[getElem?_take_of_lt i]at f;rw[uE h.nd f];exact i
def Iv{S:Str->Str->Prop}{ls N L:ZB}{ss:List _}(nr:∀x,¬ Rch ss x x)(ms:∀x,x∈N↔x∈ls/\ci S x x)(g:∀k∈ss,dF N k):DD S ls ss L↔(L.Nodup/\∀x,x∈L↔x∈N)/\∀t∈ss,∀x y z,t=[x,y,z]->plc L y<=plc L x:=by
 constructor
 .intro h;exact%[%[h.nd|λx=>(h.mem x).trans (ms x).symm]|λt i x y z e=>Ye (h.ord x y %[z|e▸i])]
 .rintro⟨⟨nd,mem⟩,j⟩;show%[nd,λx=>(mem x).trans (ms x)|λx y l=>?_];let%[z|d]:=l;show Nat.lt_of_le_of_ne (j _ d x y z rfl) λe=>?_
  let%[a,b,c,m,n|o]:=g _ d;cases m;let p:=yw ((mem x).mpr n);let f:=yw ((mem y).mpr o);rw[e,p]at f;cases f;exact nr x (.one %[z|d])
def Iw{f:Addr}{fd:FuncData}(F:Fun K "law" "law" kO f fd)(T:Txt K mg):d9 P w K mg base CX0 12 f fd ["_law_script"] (pV K):=by
 show F.ok dA (by intro a b c d h;let%[_,_,rfl|_]:=h;rfl) (λdT A outer s H vs Q E I h=>?_)
 .let%[a,ns,rfl,hs,ho,hn|kk]:=h;show%[_,%["JDG1H];A0ACBD~GH]<A1BgPL2PL3PL4hDG5H]=A2A3A4BD,6jkH]>A3A4BDG7&~dA_~FAmd?1]^O6X0?2sqO10BBDG8]_]|A2A3BDG9H]}A5BDQK~X9=DVTNA7A~37:CANBANAM7CAbBBL:DG;H][A8A^|A$:BBDQ!lH]0A$;A5A9BEIoREY]1]2$;EIoRDVTFiH]3AH~nA8BA7A1BH]4AH~nA8BAO6BL:DG<^|A$:BDG=H~4A8A$<BEQcw!l()A$=A?3BwKv$=H]5A$:A7A5B'K]6$<$:EIoREIy]7H~4A8AH~nA8BBo",dA.nd,↑(["_law_layer","_law_called_here"],[(1,6)]),↑["_law_layer","_law_called_here"],(blE (v:= .ty "bool") rfl T.ai boot_bool rfl rfl rfl)|I]|?_]
  change bn _ _ _ [!a,none,none,none,none,none,none,none,none,none,none,none,none,none] H;show ak λD0 k0 _=>?_
  lk;show%[a,ns,86,ρ,hs,⋯,!1,!1|λl0 H0 xs s0 f0 h0 O hb=>k0 _ _ (ak λD1 k1 _=>?_)];lk;show%[l0,xs,ρ,JP.of h0,λH' sm=>JP.of (sm _ _ h0),O,hb|λt l1 l2 l3 H1 ds qs s1 ft f1 f2 f3 dV d0 d2 ht h1 h2 h3 d1 d3 aq bb b3 aa hq a1=>?_];let nm:((dcs ds).map λp=>p.2.1).Nodup:=by
   unfold dcs;rw[Yt];exact bb
  let dl: ~~~(dcs ds)= ~~~ds:=by unfold dcs;rw[Z6]
  let sub:∀ls:ZB,ls.Perm ((dcs ds).flatMap lyr)->∀x,x∈ls↔x∈(ds.flatMap λp=>(gG p.2)\1):=λls pl x=>by rw[yp pl,sI aq]
  let b4:∀p∈dcs ds,x9 p.2.2:=λp hp=>by
   unfold dcs at hp;let%[d,hd|rfl]:=Xq hp;exact Dc (aq d hd).2.2.2.2.2
  let bc: ~~~((dcs ds).flatMap lyr)<=32:=by
   let:=_ST.nodup_sub (lq nm (.refl _)) λx O=>(sub _ (.refl _) x).mp O
   lia
  let P1:mj H1 (dcs ds) qs:=%[b3,nm,⋯,⋯,b4,⋯,λls p q b5=>%[(aa q b5).1|(aa q b5).2.mono λx=>(sub ls p x).mpr]|⋯]
  let U:∀p∈dcs ds,∀a,Let p.2.2 a->lnS p.2.1 (sgn a)∈(ds.flatMap λp=>(gG p.2)\1):=λp hp a ha=>(sI aq).mpr %[p,hp,a,ha|lj _ _]
  let nn:=wE aq bb
  generalize (ds.flatMap λp=>(gG p.2)\1)=B at h3 aa sub U nn a1
  generalize dcs ds=cs at h1 P1 sub U bc
  let h0:=s1 _ _ h0;clear b3 b4 aq bb dl nm d1 d3 ho s0 f0 hs;let%[c4,b6,b7|bf]:=Fz P1 aa U;lk;show%[_,SqT.of ht,ρ,_,_,ρ,_,_,ρ,_,_,ρ,ρ|k1 _ _ (ak λD2 k2 _=>?_)];let:=P1.q20;lk;show%[l1,l2,l3,cs,qs,B,c4,ρ,h1,h2,h3,P1.ca,aa,nn,⋯,⋯,U,b6,b7,bf|λr H2 ss s2 _ b9 tu lk sl=>k2 _ _ (ak λD3 k3 _=>?_)];lk;show%[l2,l3,B,qs,ρ,s2 _ _ h2,s2 _ _ h3,aa.up s2,nn,⋯|λd H3 f oo s3 d4 ag hf=>k3 _ _ (ak λD4 k4 _=>?_)];lk;show aF λa6 hK=>?_
  unfold C6;lk;show%[_,_,ag|hK _ _ λF hF=>?_];let ql: ~~~(NmD B f)= ~~~B:=Z6 _;show cZ (J:=Itk d oo (NmD B f)) (n:= ~~~B) (D:=F) (λj vs σ H4=>(∃o1,σ=[o1,!d])/\ah H3 H4/\H4 F<*vs/\vs=((B.take j).map f)\3)
   %[%[none|rfl],ah.JO hF,ae|rfl] (λj _ _ H4 hj bl=>%[bl.2.1 _ _ ag|by rw[ql];exact hj]) (λ_ _ H4 bl=>%[bl.2.1 _ _ ag|by rw[ql];exact Zi _]) ?_ ?_
  .intro j vs σ H4 hj %[%[o1|rfl],as,c5|rfl] x H5 %[e2,kx,vx,O|rfl];subst e2;unfold NmD at O;rw[Zl,Z4 hj]at O;obtain rfl:Sum.inr B[j]=kx:=congrArg (·.1) (Za O);lk;let dg:=yn (k:=Sum.inr B[j]) (as _ _ ag);rw[jc (Yc hj)]at dg;show%[_,dg|CK.mk hj c5 (by rw[Z6,Z6,Ym];exact aH ⋯) %[%[_|ρ],ah.set as hF,ae|?_]];rw[Xc,Z4 hj,Zd,Zd];rfl
  intro vs σ H4 %[_,as,bm|rfl];rw[Zn (Zi _)]at bm;let fl: ~~~(B.map f)<=32:=by rw[Z6];exact a1.2
  let ca: ~~~(aC (B.map f))<=32:=Nat.le_trans (_ST.nodup_sub (bF _) λx O=>aV.mp O) fl;show%[F,ρ,B.map f,JP.of bm,⋯|λp fp=>%[_,ae,⋯|λn N fn pN sN=>k4 _ _ (ak λD5 k5 _=>?_)]];let sN:=sN ⋯;let Nn:N.Nodup:=pN.nodup_iff.mpr (bF _);let Nm:∀x,x∈N↔x∈B.map f:=λx=>by rw[pN.mem_iff,aV]
  let Nl: ~~~N<=32:=by rw[pN.length_eq];exact ca
  let s5:=(as.trans (ah.JO (o:=eL w p (aC (B.map f))) fp)).trans (ah.JO (o:= .lst (N\3)) fn);let hN:JO (JO H4 p (eL w p (aC (B.map f)))) n (.lst (N\3)) n=_:=ae
  generalize JO (JO H4 p (eL w p (aC (B.map f)))) n (.lst (N\3))=H5 at s5 hN
  clear pN ca fl fn fp bm as hF hK ql;let bt:=s3.trans s5;let Y:=s2.trans bt;lk;show λg dx fg cd c7=>Fy fg cd (Y _ _ h1) (Y _ _ h2) (P1.up Y) λH6 ls ts s6 gr pl tm=>k5 _ _ (ak λD6 k6 _=>?_)
  let a2:=bt.trans s6;let h0:=(s2.trans a2) _ _ h0;let aR:=a2 _ _ b9;let bI:=(s5.trans s6) _ _ ag;let hN:=s6 _ _ hN;let tu:aM H6 ss:=λt ht=>%[(tu t ht).1|a2 _ _ (tu t ht).2]
  let lk:cm (bu qs) (ts\2) (ss\2):=%[lk.nd|λk=>by simp only[tm,<-bf];exact lk.mem k]
  let sub:=sub ls pl;let da:∀k∈ss\2,dF B k:=λk hk=>(gr.ties lk k hk).mono λx=>(sub x).mp
  let la:=pQ tu da;let ll: ~~~ls<=32:=by rw[pl.length_eq];exact bc
  let ms:∀x,x∈N↔x∈ls/\ci (bu qs) x x:=λx=>by
   rw[Nm,mem_map]
   constructor
   .rintro⟨z,hz,rfl⟩;let%[a|b]:=hf z hz;exact%[(sub _).mpr a|jY b b.1]
   .rintro⟨a,b⟩;let a:=(sub x).mp a;exact%[x,a|(hf x a).2.one b]
  let n0:B≠[]:=λe=>by rw[e]at a1;exact absurd a1.1 (!1)
  let N1:N≠[]:=λe=>by
   let%[z|hz]:=Zy _ n0;let:=(Nm _).mpr (Xr %[z,hz|rfl]);rw[e]at this;cases this
  clear tm b6 b7 bf h1 h2 h3 P1 U bc pl s2 s3 s5 s6 bt Y a2 b9 fg cd c7 ag aa;lk;show%[r,B,ss,ρ,aR,la,⋯,sl|λH7 v s7 lr=>k6 _ _ (ak λD7 k7 r7=>?_)];lk;rcases lr with⟨rfl,no⟩|⟨m,rfl,m1,⟨y,dy⟩,mn⟩
  .rw[if_neg ∅];let nr:∀x,¬ Rch (ss\2) x x:=λx c=>by
    let%[n|d]:=c.dst;exact no x trivial _ (succ_pos n) d
   show k7 _ _ (ak λD8 k8 r8=>ay λa6 hK=>?_);let gr:=gr.up s7;let tu:=aT tu λb z e=>s7 _ _ e
   let hN:=s7 _ _ hN;let h0:=s7 _ _ h0;let bI:=s7 _ _ bI;let aR:=s7 _ _ aR;clear s7 la;let hL:∀{L a3:ZB},wo (bu qs) ls a3->sD (ss\2) a3 L->(∀x,x∈L↔x∈N)/\ ~~~L<=32:=λ{L a3} hn ok=>by
    let e:∀x,x∈L↔x∈N:=λx=>by rw[ok.mem,hn.mem,ms]
    exact%[e|Nat.le_trans (_ST.nodup_sub ok.nd λx O=>(e x).mp O) Nl]
   lk;show%[g,qs,ls,ts,_,ρ,gr,lk,nr|λt H8 a3 L s8 ft ch hn ok=>?_];let%[Le|Ll]:=hL hn ok;let L1:1<= ~~~L:=by
    let%[z|hz]:=Zy _ N1;let:=(Le z).mpr hz;cases L with
    | nil=>cases this
    | cons=>exact Nat.succ_le_succ (Xg _)
   show%[t,n,l0,L,N,xs,ρ,ch,L1,⋯,λz hz=>(gr.lm z ((ms z).mp ((Le z).mp hz)).1).1,s8 _ _ hN,⋯,s8 _ _ h0,O,hb|λc H9 us s9 hc ua ul=>?_];let a4:=s8.trans s9;show%[g,qs,ls,ts,_,ρ,gr.up a4,lk,nr|λt' d7 cl L' b0 dd a7 ai al=>?_];let%[co|de]:=hL ai al;show%[t',d,L',B,f,oo,ρ,a7,⋯,(a4.trans b0) _ _ bI,⋯,λz hz=>(co _).mpr ((Nm _).mpr (Xr %[z,hz|ρ]))|λe b1 an ct he cv dk=>?_];let ac:=b0.trans ct;show%[c,ρ,e,ρ,_,ac _ _ hc,_,he,by rw[Z6,Z6,PySem.sizeLine_eq];lia|λp fp=>%[%[_|JP.of ae]|hK _ _ ?_]];rw[<-Zd];let ab:=(a4.trans ac).trans (ah.JO (o:= .lst ((us++an)\0)) fp);let hp:JO b1 p (.lst ((us++an)\0)) p=_:=ae;let uu:fC (JO b1 p (.lst ((us++an)\0))) (us++an):=λu hu=>by
    show fC.up (λu hu=>?_) (ah.JO fp) u hu;rcases Xo hu with h|h
    .exact(ua.up ac) u h
    .exact cv u h
   generalize JO b1 p (.lst ((us++an)\0))=dm at ab hp uu
   generalize us++an=us at hp uu
   clear ua cv ul dk he hc ac b0 ct s8 s9 a4 ch a7 al ai de co hL fp hK;show cu (us:=us) (f:=λu=>V.ref u.1) (λi σ H'=>(∃o1 o2 o3,σ=[!a,!l0,!l1,!l2,!l3,!r,!d,!n,!g,some .non,o1,none,o2,o3])/\ah dm H') %[%[none,none,none|rfl]|ah.refl _] (λ_ _ H' h=>h.2 _ _ hp) ?_ ?_
   .intro i u σ H' hu %[%[o1,o2,o3|rfl]|sm];let%[aU|dn]:=uu u (Z8 hu);show ak λD9 k9 _=>?_
    lk;show%[_,.inl (JP.of (sm _ _ aU))|λq fq=>k9 _ _ (ak λdp b2 _=>?_)];let G:=sm.trans (ah.JO (o:= .lst (u.2\3)) fq);let hq:JO H' q (.lst (u.2\3)) q=_:=ae
    generalize JO H' q (.lst (u.2\3))=cM at G hq
    lk;show%[g,q,qs,ls,ts,_,u.2,ρ,gr.up (ab.trans G),lk,nr,hq,⋯|λc0 v a0 hv=>b2 _ _ (aB λea dr eb=>?_)];let C:=G.trans a0;lk;show%[.type "bool",.bl _,true,by rfl|p8 %[u.1,n,r,u.2,N,ss,ρ,C _ _ aU,⋯,(ab.trans C) _ _ hN,sN,Nn,(ab.trans C) _ _ aR,aT tu λb z e=>(ab.trans C) _ _ e,λt ht=>?_|λec v' Y dt=>?_]]
    .let%[x,y,z,e,O|hy]:=gr.ends lk (Xr %[t,ht|rfl]);exact%[x,y,z,e,(ms x).mpr O|(ms y).mpr hy]
    obtain rfl:v=v':=by
     rw[Bool.eq_iff_iff,hv,dt,Iv nr ms λk hk=>?_]
     .show and_congr Iff.rfl %[λh t ht=>h _ (Xr %[t,ht|rfl])|λh t ht=>?_];let%[t',dK|rfl]:=Xq ht;exact h t' dK
     .let%[x,y,z,e,O|hy]:=gr.ends lk hk;exact%[x,y,z,e,(ms x).mpr O|(ms y).mpr hy]
    show%[ρ|?_];rw[Zf rfl];show p8 %[q,u.1,_,_,rfl,rfl,(a0.trans Y) _ _ hq,(C.trans Y) _ _ aU,rfl,λj x y ex ey=> .inl %[Za (ex.symm.trans ey)|?_],false,rfl|p8 (dr _ _ %[%[_,_,_|rfl]|C.trans Y])];rw[Zl]at ex;let%[t,_|rfl]:=map_eq_some_iff.mp ex;rfl
   .intro σ H' %[%[o1,o2,o3|rfl]|sm];show k8 _ _ ?_;lk;show%[g,qs,ls,ts,_,ρ,gr.up (ab.trans sm),lk,nr|λt' cM cl L' G dd c1 ai al=>?_];show%[g,t',qs,ls,ts,_,L',ρ,gr.up ((ab.trans sm).trans G),lk,nr,c1,?_|λc0 v a0 hv=>?_]
    .let:=_ST.nodup_sub al.nd λx O=>(ms x).mpr ((ai.mem x).mp ((al.mem x).mp O))
     lia
    obtain rfl:v=true:=hv.mpr (Iu al ai (gr.names lk ai));exact%[_,_,ρ,ρ|kk _]
  .rw[if_pos ∅];obtain⟨m,rfl⟩:∃i,m=i+1:=%[m-1|⋯]
   let wn:∀{ws:ZG} {x:Str},Sho (ss\2) x x (ws\2)->(∀y n,Dst (ss\2) y (n+1) y-> ~~~ws<=n+1)-> ~~~ws=m+1:=λ{ws x} a5 mw=>by
    let%[n,e|d]:=a5.dst;rw[Z6]at e;let:=mn x trivial (n+1) ⋯ d;let:=mw y m dy
    lia
   show aB λD8 k8 _=>ay λa6 hK=>?_
   let c2:=s7 _ _ hN;let gr:=gr.up s7;let y7:Yl (fV 7) [!a,!l0,!l1,!l2,!l3,!r,!d,!n,!g,some (.int (m+1:Nat)),none,none,none,none] H7 32:=pX c2 Nl λ_ _ h=>h
   obtain⟨z0,M,rfl⟩:∃z M,N=z::M:=by
    cases N with
    | nil=>exact absurd rfl N1
    | cons z M=>exact%[z,M|ρ]
   show FA ((ju (cw y7 (cw (DG y7 λ_ _ h=>h) (cw DF (cw (DE (wL z0 λH1 s1 Q q=>%[_,JP.of (s1 _ _ c2),_,(show atI _ ((0:Nat):Int)=_ from bK rfl)|q]) (wL _ λ_ _ _ h=>h)) mo (!1)) (!1)) (!1)) (!1)) (!1)) H7 (ah.refl _) _ λp H8 us s8 hp ua un ul=>?_);show%[%[_|JP.of hp]|hK _ _ ?_];show cu (us:=us) (f:=λu=>V.ref u.1) (λi σ H'=>(∃o1 o2,σ=[!a,!l0,!l1,!l2,!l3,!r,!d,!n,!g,some (.int (m+1:Nat)),o1,o2,none,none])/\ah H8 H') %[%[none,none|rfl]|ah.refl _] (λ_ _ H' h=>h.2 _ _ hp) ?_ ?_
   .intro i u σ H' hu %[%[o1,o2|rfl]|sm];let%[aU|dn]:=ua u (Z8 hu);change bn _ _ _ [!a,!l0,!l1,!l2,!l3,!r,!d,!n,!g,some (.int (m+1:Nat)),some (.ref u.1),o2,none,none] H';show ak λD9 k9 _=>?_
    lk;show%[_,.inl (JP.of (sm _ _ aU))|λq fq=>?_];let G:=sm.trans (ah.JO (o:= .lst (u.2\3)) fq)
    generalize JO H' q (.lst (u.2\3))=cM at G
    show%[g,qs,ls,ts,_,q,ρ,gr.up (s8.trans G),lk,%[y|dy.rch]|λl c0 ws x a0 fl hl tw a5 c3 mw=>k9 _ _ (ak λdp b2 ed=>?_)];let C:=G.trans a0;lk;show%[l,r,B,ws,ss,x,by rw[wn a5 mw],hl,tw,c3,(s7.trans (s8.trans C)) _ _ aR,la.up (s7.trans (s8.trans C)),a5,true,ρ|p8 (b2 _ _ ?_)];lk;exact%[tyL (JP.of hl),%[_|hl],%[_|ρ]|ah.set C (G.free fl)]
   .intro σ H' %[%[o1,o2|rfl]|sm];show k8 _ _ ?_;lk;exact r7 _ _ (kk _)
end
abbrev dfm:= @GW
abbrev gvm:= @IU
def all_mk{l:PySem.W.OpenLaw}{w:World}{K:ZA}{h:Heap}{mg:ZC}{fa aj:Addr}(X:K.In h)(G:h.Ns mainGlobals mg)(hfa:mg "law"=some (.ref fa))
 {b7 ay:ZI} {b8:ZK} {b9 az a0 a1 ak a2:Value}
 (F:Txc K mg->Txt K mg)
 (ca:nsIn K mainGlobals "law"=some (some (.ref aj))) (cb:K.lookup aj=some %[b9,b7,.func (fnOf "law" "law" (cY kO) (bL kO) (ao kO) .none az a0 a1 ay ak a2)|b8]) (cc:codeIn K ak "law"=true) (cd:keepIn K (.ref aj)=true)
 {aa ac ad a3 a4 a5 a6 a7:Addr}
 {ae:Addr} {ce cf:ZI} {cg:ZK} {ch ci cj a8 cl:Value}
 (al:nsIn K mainGlobals "Torn"=some (some (.ref aa)))
 (a9:nsIn K mainGlobals "DigError"=some (some (.ref ac)))
 (ba:nsIn K mainGlobals "NoCut"=some (some (.ref ad)))
 (bb:nsIn K mainGlobals "NoLayer"=some (some (.ref a3)))
 (bc:nsIn K mainGlobals "NoRow"=some (some (.ref a4)))
 (bd:nsIn K mainGlobals "NoDeed"=some (some (.ref a5)))
 (be:nsIn K mainGlobals "NoSaying"=some (some (.ref a6)))
 (bf:nsIn K mainGlobals "NoGround"=some (some (.ref a7)))
 (bg:findIn K (.ref aa) "__getattribute__"=some (some (.builtin "BaseException.__getattribute__")))
 (bh:findIn K (.ref aa) "__getattr__"=some none)
 (bi:subIn K (.ref aa) (.type "BaseException")∣true)
 (am:hasDictIn K aa=true)
 (cm:findIn K (.ref aa) "__class__"=some (some (.builtin "object.__class__")))
 (cn:specialIn K (.builtin "object.__class__") "__get__"=some (some (.builtin "getset_descriptor.__get__")))
 (co:takesIn K (.builtin "object.__class__")∣true)
 (cp:mroIn K aa (.type "object")∣true)
 (e8:findIn K (.ref aa) "__init__"=some (some (.ref ae)))
 (an:K.lookup ae=some %[.type "function",ce,.func (fnOf "__init__" "Torn.__init__" (cY eC) (bL eC) (ao eC) .none ch ci cj cf a8 cl)|cg])
 (bj:codeIn K a8 "Torn.__init__"=true)
 (bk:keepIn K (.ref ae)=true)
 (bl:exK K aa ae=true)
 (cq:keepIn K (.ref aa)=true)
 (cr:findIn K (.ref aa) "__setattr__"=some (some (.builtin "object.__setattr__")))
 (bm:tJ K aa=true)
 (bn:findIn K (.ref aa) "ring"=some none)






 (cs:subIn K (.ref aa) (.ref ad)∣false)
 (ct:subIn K (.ref aa) (.ref ac)∣true)
 (cu:kitOne K (.ref aa) (.ref aa)∣true)
 (cv:kitOne K (.ref aa) (.type "ValueError")∣true)
 (cw:kitAny K (.ref aa) [.ref ad,.ref a7,.ref a6,.ref a5,.ref a4,.ref a3]∣false)
 (cx:specialIn K (.ref ac) "__getattribute__"=some (some (.builtin "type.__getattribute__")))
 (cy:readsIn K ac (.type "type")=true)
 (cz:findCls K (.ref ac) (.type "type") "__init__"=some (.val (.builtin "ValueError.__init__")))
 (c0:typeIn K (.ref ad)∣.type "type")
 (c1:subIn K (.ref ad) (.type "BaseException")∣true)
 (bo:(K.lookup ad).any (λo=>match o.data with| .cls _=>true|_=>false)=true)
 (c2:typeIn K (.ref ac)∣.type "type")
 (c3:subIn K (.ref ac) (.type "BaseException")∣true)
 (bp:(K.lookup ac).any (λo=>match o.data with| .cls _=>true|_=>false)=true)
 {ab:Addr}
 (bq:nsIn K mainGlobals "Ground"=some (some (.ref ab)))
 (c4:plainGet K ab Str.empty=true)
 (c5:hasDictIn K ab=true)
 (c6:plainOver K ab=true)
 (c7:findIn K (.ref ab) "__setattr__"=some (some (.builtin "object.__setattr__")))
 (c8:findIn K (.ref ab) "kept_cuts"=some none)
 (c9:findIn K (.ref ab) "kept_sayings"=some none)
 (da:findIn K (.ref ab) "kept_layers"=some none)
 (db:findIn K (.ref ab) "kept_ties"=some none)
 {af:Addr} {dc dd:ZI} {de:ZK} {df dg dh di br dj:Value}
 (dk:findIn K (.ref ab) "__init__"=some (some (.ref af)))
 (bs:K.lookup af=some %[df,dc,.func (fnOf "__init__" "Ground.__init__" (cY ck) (bL ck) (ao ck) .none dg dh di dd br dj)|de])
 (bt:codeIn K br "Ground.__init__"=true)
 (bu:keepIn K (.ref af)=true)
 (dl:isFn K (.ref af)=true)
 (dm:makesIn K ab=true)
 (dn:keepIn K (.ref ab)=true)
 {ag:Addr} {dp dq:ZI} {dr:ZK} {ds dt dv dw bv dx:Value}
 (dy:findIn K (.ref ab) "sayings"=some (some (.ref ag)))
 (bw:K.lookup ag=some %[ds,dp,.func (fnOf "sayings" "Ground.sayings" (cY cA) (bL cA) (ao cA) .none dt dv dw dq bv dx)|dr])
 (bx:codeIn K bv "Ground.sayings"=true)
 (ap:keepIn K (.ref ag)=true)
 (dz:isFn K (.ref ag)=true)
 {ah:Addr} {d0 d1:ZI} {d2:ZK} {d3 d4 d5 d6 bz d7:Value}
 (d8:findIn K (.ref ab) "layers"=some (some (.ref ah)))
 (b0:K.lookup ah=some %[d3,d0,.func (fnOf "layers" "Ground.layers" (cY cL) (bL cL) (ao cL) .none d4 d5 d6 d1 bz d7)|d2])
 (b1:codeIn K bz "Ground.layers"=true)
 (aq:keepIn K (.ref ah)=true)
 (ea:isFn K (.ref ah)=true)
 {ai:Addr} {eb ec:ZI} {ed:ZK} {ee ef eg eh b2 ei:Value}
 (ej:findIn K (.ref ab) "ties"=some (some (.ref ai)))
 (b3:K.lookup ai=some %[ee,eb,.func (fnOf "ties" "Ground.ties" (cY du) (bL du) (ao du) .none ef eg eh ec b2 ei)|ed])
 (b4:codeIn K b2 "Ground.ties"=true)
 (ar:keepIn K (.ref ai)=true)
 (ek:isFn K (.ref ai)=true)
 {b5:Addr} {au:Obj} {av:ZJ} {el:Nat}
 (em:nsIn K mainGlobals "YEAR_WORDS"=some (some (.ref b5)))
 (en:K.lookup b5∣au)
 (eo:au.cls= .type "tuple")
 (ep:au.data= .seq av el)
 (eq:av.size<=sizeLine)
 (er:aD [.str "since",.str "by"] av.toList)
 {b6:Addr} {aw:Obj} {ax:ZJ} {es:Nat}
 (et:nsIn K mainGlobals "LAYER_WORDS"=some (some (.ref b6)))
 (eu:K.lookup b6∣aw)
 (ev:aw.cls= .type "tuple")
 (ew:aw.data= .seq ax es)
 (ex:ax.size<=sizeLine)
 (ey:aD [.str "later",.str "same"] ax.toList)
 :∃fd:FuncData,(∀(s:Shared) (v:Value),BindsTo s fd %[[v]|[]] [("_law_script",v)])/\∀base:Heap,K.In base->base.Ns mainGlobals mg->d9 l.prog w K mg base CX0 12 fa fd ["_law_script"] (pV K):=by
 let e:=hfa.symm.trans (mg_of X G ca);cases e;let ez:=eM (mg_of X G al);subst ez;let e0:=eM (mg_of X G a9);subst e0;let e1:=eM (mg_of X G ba);subst e1;let e2:=eM (mg_of X G bb);subst e2;let e3:=eM (mg_of X G bc);subst e3;let e4:=eM (mg_of X G bd);subst e4;let e5:=eM (mg_of X G be);subst e5;let e6:=eM (mg_of X G bf);subst e6;let e7:=eM (mg_of X G bq);subst e7;let T:Txt K mg:=F %[mg_of X G al,
  mg_of X G a9,
  mg_of X G ba,
  mg_of X G bb,
  mg_of X G bc,
  mg_of X G bd,
  mg_of X G be,
  mg_of X G bf,
  %[mg_of X G al,%[bg,bh,bi,am,cm,cn,co|cp],ae,_,%[bl,by rw[an];rfl|cq],dS an bj bk|(dS an bj bk).binds (by room)],
  %[cr,bm,bn|am],
  %[bg,bh,bi,bn|am],
  cs,
  ct,
  cu,
  cv,
  cw,
  %[cx,cy|cz],
  %[c0,c1|bo],
  %[c2,c3|bp],
  %[mg_of X G bq,c4,c5,c6|c7],
  c8,
  c9,
  da,
  db,
  %[af,_,%[dm,dk,dl|dn],dS bs bt bu|(dS bs bt bu).binds (by room)],
  %[ag,_,%[dy,dz|ap],dS bw bx ap|(dS bw bx ap).binds (by room)],
  %[ah,_,%[d8,ea|aq],dS b0 b1 aq|(dS b0 b1 aq).binds (by room)],
  %[ai,_,%[ej,ek|ar],dS b3 b4 ar|(dS b3 b4 ar).binds (by room)],
  CF X G em en eo ep eq er|
  CF X G et eu ev ew ex ey]
 exact%[fnOf "law" "law" (cY kO) (bL kO) (ao kO) .none az a0 a1 ay ak a2,λs v=> .of_eq rfl|λbase _ _=>Iw (dS (st:=kO) cb cc cd) T]
def walk{l:PySem.W.OpenLaw}{q:Program}{b:ZB}{j:(Str->Option Value)->Heap->Prop}{e:World->Heap->Prop}{d:DefRec}{K:Params->ZA}(m:l.most∣63)(c:d.params.defaults=[])
 (o:∀(w:World) (h:Heap),e w h->(K w.params).In h)
 (F:∀(w:World) (mg:ZC) (g:Addr) (h:Heap),(K w.params).In h->h.Ns mainGlobals mg->mg d.name∣.ref g->
  ∃i:FuncData,(∀(s:Shared) (u:Value),BindsTo s i %[[u]|[]] [("_law_script",u)])/\∀base:Heap,(K w.params).In base->base.Ns mainGlobals mg->d9 l.prog w (K w.params) mg base CX0 12 g i ["_law_script"] (pV (K w.params))):
 PySem.W.WalkO q b j e l.row.toRowW d [] (λf vs=>PySem.call f vs):=
 _LL.walk_of (n:=63) (k:=12) (x:="_law_script") (CX:=λ_=>CX0) (sp:=λw=>pV (K w.params)) m (!1) c %[rfl,!1,!1|rfl] o F (λ_ _ a p r v y=>%[a,p,rfl,y,v,r|λ_=>rfl]) λ_ _ _ _ _ z=>z
end _KK
end
open PySem PySem.W PyProof.Rows
set_option maxRecDepth 100000 in
theorem PySem.Challenge.cw_digbook_k33_what_is_an_order_holds : PySem.Challenge.rw_digbook_k33_what_is_an_order.Holds := by
 w_on;o_law;k_head;(case hw=>w_witness2)
 k_fill
 refine _KK.walk (l:=PySem.Challenge.rw_digbook_k33_what_is_an_order) rfl rfl (λw h Y=>PySem.W.kIn_of Y) ?F
 case F=>
  intro w mg fa h KX G hmg;apply _KK.all_mk KX G hmg
  (case F=>
   intro C
   constructor
   exact C
   all_goals first|exact PySem.W.mg_none_of KX G (by k_is)|(refine' _KK.gvm KX G ?z ?r;(case z=>k_is);(case r=>exact⟨_,rfl⟩))|(refine' _KK.dfm KX G ?a ?l ?c ?k ?b;(case a=>k_is);(case l=>k_is);(case c=>k_is);(case k=>k_is);(case b=>intro _ _ _ _ _ _;(repeat(refine _KK.zq1 λ_=>?_));exact _KK.zq0 rfl)))
  any_goals k_is
  (case bl|bm|bo|bp=>kernel_rfl)
  any_goals first|kit_is|rfl|decide|exact .cons ⟨_,rfl⟩ (.cons ⟨_,rfl⟩ (.nil))
