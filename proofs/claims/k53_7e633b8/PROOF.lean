import PyProof.Rows.All
import Wide.All
import OpenK.AllK
import PySem.Challenge.RW_digbook_k53_whole_direct_pairs_are_enoug
set_option linter.all false
set_option compiler.extract_closed false
local macro_rules|`(#check $s:str)=>do
 let(a,_)<-s.getString.toList.foldlM (init:=(#[],0,0)) λ(a,n,k) c=>do
  let n:=n*90+c.toNat-if c.toNat>92 then 37 else 35
  return if k=9 then(a.push (Lean.mkIdent ("tw"++toString n).toName),0,0)else(a,n,k+1)
 `(structure $(Lean.mkIdent `PySem.W.Fast):ident:Prop where($a*:0=0))
#check "C^%bLeV>4{/6.8it.5Me/VFmJCh@_iIb^Q(Sc}$&46r'*A5,?0LI*up-~/bmFRvn8UT^}G'Ix)7`fm5'7S/zB=`$xQ5IX0CXg8=FP3`jL|]aytNHdStYJQ}N&D{6PKr/eE*arC+A]G;++9o:nDdElKJLdwRS5bXg0BL;Tqs$iC8z]AoIG+y)MC-@b$#<#<9h%'D3'`ebA*_mwlp_F{&?hcE<{KNrKTCK%.8CuC'Pzip1mG<AFc/{h;@6)(IX.VVQj79BHuIqElnqXb=r]K7}?r5uR06vCg#8zAOsS)uW_JemJT=JDaJ~2J2EJIP>]4Z&Gik?].G|C*@VM)O9~UHgPjM*45Su1o2jV-B@t<}pAD^uQ4Z&y~$SmR#%5bV}._:Lk3MTgw7k;>4t$<H.Ox$Se'(>=|R,=0TiJh>HD7)8{a#CxhJu0k>f-Ooa3A)ms?|:7>#B/N+`sv~Q?5]gB9W$`,*33&}B;^<:1B]T1R(FSMBD.'ua5-@b,i4K$ff):YE/7A4l(>*7/m==6<S%/5G=w*w3Ybj%D{gpmf]kx?;LVNA*<Hqq,m{gFifcv.@h^5+GSh5x<1TTq7Y_=B@{cGIo3z6/57~f'j/IRC(Be^p.^3%}RL|J`PN=W}3M)?KoXUrlN.+tgf2`hbB._/l{1ln-+#$uc&qP,V$5)lE9jrwH16)8$8%.s)=HKZ1$P-u%<8jZQeBPa-7(oGJYT]0z.M@cNd5tYY)R3Q>gHjEhN<?UN&m)ak3EGL|C:UhM3(I|D<nIZ>P8HjjTd(Rx:3@)d>2n&lKZ.5bU>}9qHj'7RsT2&5CWU|4E`)p)B(X{i;T@@x<wLd8dZU_y6UhBNl*sNpBad*U3fd2S+$4T4dW3Ux59P_v*pb)'>FEn2;wQ==8)>D)%e;GW4*V4>V1pXb?N0<e>|8ZI@JeE7<1~D5AVVDxo*OCb=a|Zc65{IOKdY0f8immW:/EnsXfg$8'?4%z'QI;w7.:)}SPQQa2rbzhii<>xEO-rrl`,t_MRwukLIgQCNwh%n,8.,`NquY{qUIid6vI#{7>@+(#-#?7zlw.3Jyv?_'V3bM>S6Nq3z4uF(%.Q_0Q{E{N+(g&DlW8XB,N7cUm?FpAHu7rYCZ>1+N3=.e+UX?7Aq`iNl{ge0`/5ov,vW>(#c'XRTV*E#Pem){;l+3L7r=y-q1-@JlX?F~oKQW+w<U-]|(aP4robjtvU-=C;Miqg'{-->|Jy.A3A{)FI2W>N?hH;Lq*d<ri0Y{%%F/IOD(|Y#VZP6`N/ks@vKdS$t&,XN'*j=_FG`T7d?PeH_=7>QW<L2}G@LAFiZ%8W0$R4KNDKb)}_?B5K|GQ7'nGd9=$1_aiKCd(OSS'wQswgJnw8KQ:NPkCqxZj(||(sFy']DdX&kV:pmxAB'(aL6,7yUhXnzC)lNd}d-^`l?@]y.(AQ^9'?kORB);?#@CTsa@4xA-:ZZzsWc':-Q<:JF/rJwX&O~Z=4|UZi/)+.S_E:.i(aZN4ZC;QhGFCCnfZ1{r1|wr]e*V.Z9'^@7*pyYaIl*k'&i@l?-k&r4z},{%'pl]Q-6b%<.WSoD5A60k'%foZpFpVe+C<mBOE)&061jeQ`a>hoD5J-~wVBb53|Ba@+PZmU;qi6d)0A+L:$aw6x@}O(?>rL%5{*UDE.Jn&i>EXQI$9f2mDkz65G.7,HKOs1IhwoFtkk8nJl~~#lhb{821:SKuie6F.hvjf8oC;d2f?a<zq=$S@1P$e/{Rrk*=BXpvFSB>RN7R@~]8^$P9`i%OT|V0Ku}3-iGe%8:}a8?p]b,$D(hysR&.b)4S`]vcaWq3E9LnvGD9K<NTRQa?vBE~J:,Nl85b0q$=)37d}xp7.yrE:=1`b?9U2Be4T(MA0(#KWrD=Tn4ZTiq?Ms:90BqBK+I'^(;FoKTf88d13u@6,V~6_#:6Q`~m7_:ZGg<@WORT__4V>I8Z#QqmE-*ej8FauH?$6)f`dkfg*cDLqoMpTL(:~a?qhuz3K&TO1-iJ+AD_OvP:jqd;QUvY4y#SdpQmzZi8<vWpH)T'uGff,DBtk9a,;=s5.]B(^dKl3,LTpf3w9sk'@3kt_~@Kl5$P69dn@ot1L,b)S/u:O:*3Ompz9_hn=SBrTq?U~?N`*RBWAn5xNVPPX9GJye:NK<qY7WE(51/AU7/wbw1*1a:jt)`4OZN-.dncRf#frp4c<iJ1(Fk`r$1MqmL/dYK:s@vg5#o-8$2|KV-YcX|l|O4i#yg=H}j>dlFaA(03xmRd:ID>YjGR{aEj]KtRkz7n8ImrxsD8']'SxQ&N<G5O;])_Ik}wi.4&Rqk0%3Q(FgOC{]$q]%Adzm5A'iEl$J-hrq.CKTQk0IP%s2DXMBe,+U1n/#Hw.;o?w~goDLb6s*+BGbR(m*8ZpjJh=G<?:_oQVF0h%5yG]hsh#wahyh_EuR&Onu#7oTTMM{7HZK{GaLQ4qUVvu+Kc@nsfVw*xGH</|MbPJ~N&:)pMCHGdEs=:{,&D1|50M2VJq5+.xT:I{3~b&3pM,.OZjFUY+^9}}7>'2r*9#.FN6r7r`7,J{19D^.UA@KP+PTM=.]B?.2aycw>L-Ds3-mGSuI@FWMV9g7kiHR4(Y85=<3<wS*H^lq`o9m]CM$yU@a3@mX@mjnzV+^J7*(Lg{8($@q-mQX`E?#djt0=t'%6OLDa,AZEw.lTlQKYA2GRLBZLp7EkcFp,RdLyO()L8|J`UELpBL5oNicS?yIBNm'^4/W,k0_V=RK`9SR%%kT@2ql,x/s|}+&SLg?D`6.4%zpV3->;0`ARLWA,+,CmSIrb;'vbNC1^0P$<;0z.$M;A19dF5d$AOzh9EwNeh_M^g9DCv7A;h3o8vUctYa+W/7)Z=Q%dYKl5]6W`Zv*G03Q@8^~%p?V1SJo<|U6:d,V@w]<V4Di*]kVRN`B'YR8&YhL7.~$M},;xE)EA6'#okn^X+S5#D-/1<jt*iECLp<GpPhRApN+;0@OctAk}*j1M5=UAhh]sYhz,oA$n>XCAfId"
theorem Z0{c:Sort _}{b:Prop}{a:c}:a=a∨b:=Or.inl rfl
theorem Z1{c:Sort _}{b:Prop}{a:c}:b∨a=a:=Or.inr rfl
def Z2:=@PySem.wpAny_bind
def Z3:=@PySem.wpAny_pure
def Z4:=@List.getElem?_eq_getElem
def Z6:=@List.length_map
def Z7:=@PySem.Heap.get?_push_of_some
def Z8:=@List.mem_of_getElem?
def Z9:=@List.length_append
def Za:=@Option.some.inj
def Zb:=@Array.length_toList
def Zc:=@List.getD_eq_getElem?_getD
def Zd:=@List.map_append
def Ze:=@List.append_assoc
def Zf:=@decide_eq_true
def Zg:=@Nat.lt_of_lt_of_le
def Zh:=@decide_eq_false
def Zi:=@Nat.le_refl
def Zj:=@PySem.Heap.get?_push_size
def Zk:=@List.mem_cons_of_mem
def Zl:=@List.getElem?_map
def Zm:=@List.mem_cons_self
def Zn:=@List.take_of_length_le
def Zo:=@of_decide_eq_true
def Zp:=@List.size_toArray
def Zq:=@PySem.Heap.size_push
def Zr:=@List.length_cons
def Zs:=@Nat.ne_of_lt
def Zt:=@Bool.false_ne_true
def Zu:=@PySem.Heap.lt_size
def Zv:=@Bool.and_eq_true
def Zw:=@List.any_cons
def Zx:=@List.append_nil
def Zy:=@List.ext_getElem
def Zz:=@Bool.false_eq_true
def Y0:=@List.filterMap_append
def Y1:=@List.filterMap_cons
def Y2:=@List.filter_append
def Y3:=@List.filter_cons
def Y4:=@List.filter_cons_of_neg
def Y6:=@List.filter_cons_of_pos
def Y7:=@List.filter_nil
def Y8:=@List.foldl_cons
def Y9:=@List.getElem?_append_left
def Ya:=@List.getElem?_append_right
def Yb:=@List.getElem?_take_of_lt
def Yc:=@List.getElem_mem
def Yd:=@Nat.le_of_lt
def Ye:=@Nat.le_succ
def Yf:=@Nat.le_trans
def Yg:=@List.length_drop
def Yh:=@List.length_filter_le
def Yi:=@List.length_range
def Yj:=@List.length_singleton
def Yk:=@List.length_take
def Yl:=@List.lookup_cons
def Ym:=@Nat.lt_succ_of_lt
def Yn:=@Nat.lt_succ_self
def Yo:=@List.map_congr_left
def Yp:=@List.map_cons
def Yq:=@List.map_map
def Yr:=@List.mem_append
def Ys:=@List.mem_append_left
def Yt:=@List.mem_append_right
def Yu:=@List.mem_cons
def Yv:=@List.mem_of_mem_take
def Yw:=@List.mem_singleton
def Yx:=@Nat.ne_of_gt
def Yy:=@List.nodup_append
def Yz:=@List.nodup_iff_pairwise_ne
def X1:=@List.nodup_nil
def X2:=@Nat.not_lt_zero
def X3:=@List.not_mem_nil
def X4:=@Bool.or_eq_false_iff
def X6:=@List.pairwise_map
def X7:=@Nat.succ_le_succ
def X8:=@List.take_add_one
def X9:=@List.take_append_drop
def Xa:=@List.take_append_of_le_length
def Xb:=@List.take_length
def Xc:=@Array.toList_append
def Xd:=@Nat.zero_le
def Xe:=@List.getElem?_of_mem
def Xf:=@List.Pairwise.imp_of_mem
def Xg:=@Int.eq_ofNat_of_zero_le
def Xh:=@Array.size_push
def Xi:=@Nat.lt_irrefl
def Xj:=@List.getElem?_eq_none
theorem Xk{b:Type _}{l:List b}{i:Nat}{a:b}(h:l[i]?=some a):∃h:i<l.length,l[i]=a:=List.getElem?_eq_some_iff.mp h
theorem Xl{b:Type _}{a:b}{s t:List b}(h:a∈s++t):a∈s∨a∈t:=List.mem_append.mp h
theorem Xm{c:Type _}{a b:c}(h:a∈[b]):a=b:=List.mem_singleton.mp h
theorem Xn{c d:Type _}{f:c->d}{l:List c}{b:d}(h:b∈l.map f):∃a,a∈l/\f a=b:=List.mem_map.mp h
theorem Xo{c d:Type _}{f:c->d}{l:List c}{b:d}(h:∃a,a∈l/\f a=b):b∈l.map f:=List.mem_map.mpr h
open Array (forIn_toList getElem?_toList length_toList mem_toList_iff size_append size_map toList_append toList_extract toList_push)
open Bool (and_eq_true false_eq_true or_eq_false_iff or_eq_true)
open List (all_cons all_eq_true all_map any_cons any_eq_true append_nil cons_append countP_cons drop_drop drop_zero ext_getElem ext_getElem? filterMap_append filterMap_cons filter_append filter_cons filter_cons_of_neg filter_cons_of_pos filter_eq_nil_iff filter_nil flatMap_append flatMap_cons foldl_cons forIn_cons getD_eq_getElem?_getD getElem?_append_left getElem?_append_right getElem?_drop getElem?_map getElem?_take_of_lt getElem_mem getElem_of_mem length_append length_cons length_drop length_eq_zero_iff length_filterMap_le length_filter_le length_map length_pos_iff length_range length_singleton length_take length_zip lookup_cons map_append map_congr_left map_cons map_id map_map map_nil mem_append mem_append_left mem_append_right mem_cons mem_cons_of_mem mem_cons_self mem_filterMap mem_flatMap mem_map mem_of_mem_take mem_range mem_singleton nil_append nodup_append nodup_cons nodup_iff_pairwise_ne nodup_nil nodup_range not_mem_nil of_mem_zip pairwise_map range_succ replicate_succ size_toArray take_add_one take_append_drop take_append_of_le_length take_length take_of_length_le)
open Nat (add_mod add_sub_cancel add_zero le_add_right le_of_lt le_refl le_succ le_trans le_zero lt_of_lt_of_le lt_succ_of_lt lt_succ_self min_eq_left mod_lt ne_of_gt ne_of_lt not_lt_zero pow_succ sub_self succ_le_succ succ_pos zero_add zero_le)
open Option (getD_none isSome_iff_exists isSome_map map_eq_some_iff map_some)
open PyProof.Rows (boot_all boot_any boot_int boot_isinstance boot_list boot_min boot_set boot_sorted boot_str boot_tuple)
open PySem.F (called_set plainAttrs_dict plainAttrs_list plainAttrs_str slot_dict_get slot_dict_setdefault slot_dict_update slot_dict_values slot_list_extend slot_str_join type_dict_get type_list_extend type_str_join)
open PySem.Heap (ExtBut SameBut get?_push_of_some get?_push_size get?_update_other get?_update_self lt_size)
open PySem.W (KatTups Looks callWith_K cellsFrom_some codeIn emptyDict findIn fnOf handedIn hasDictIn instObj isFn kdl_values keepIn kia_one kitOne kitx_dict kitx_list lookIn makesIn mg_of nsIn plainGet plainGet_of plainOver takerIn)
set_option maxHeartbeats 0
set_option Elab.async false
set_option compiler.extract_closed false
set_option maxRecDepth 100000
section
open PySem
local macro_rules|`(!0)=>`(by decide +kernel)|`(!1)=>`(by decide)|`(!2)=>`(by simp_all)|`(!$s:str)=>`(Str.ofString $s)
local macro_rules|`(↑$h:ident)=>`(by simpa using $h)
local macro_rules|`(tactic|lia)=>`(tactic|first|assumption|exact Nat.le_of_lt ‹_›|exact Nat.le_trans ‹_› (by decide)|exact Nat.lt_of_le_of_lt ‹_› (by decide)|exact Nat.le_trans ‹_› ‹_›|exact Nat.le_add_left _ _|exact Nat.le_antisymm ‹_› (Nat.le_of_not_lt ‹_›)|exact Nat.le_of_not_lt ‹_›|exact Nat.lt_of_le_of_ne ‹_› ‹_›|exact Nat.lt_succ_of_le ‹_›|exact Nat.le_of_eq (Eq.symm ‹_›)|exact Nat.le_add_right _ _|exact Nat.le_of_eq ‹_›|lia -verbose)
local macro_rules|`(⋯)=>`(by lia)|`(∅)=>`(by simp)
local macro_rules|`(⇑$s:ident)=>`(Shared.heap $s|>.objs.size)
local macro_rules|`($x:ident⁻¹)=>`(wpAny (model ($x).prog ($x).w) ($x).A)
local macro_rules|`($s:ident>>>$e)=>`({$s with heap:=$e})
local macro_rules|`(%[$x,*|$y])=>`(⟨$x,*,$y⟩)
def zqp:Nat->Lean.Syntax->Lean.Syntax
 |n+1,.node i k a=>if k==`«term%[_|_]»then .node i `Lean.Parser.Tactic.rcasesPat.tuple #[.atom i "⟨",.node i `null (a[1]!.getArgs.push (.atom i ",")|>.push a[3]!|>.map λx=>if x.isAtom then x else .node i `Lean.Parser.Tactic.rcasesPatLo #[.node i `Lean.Parser.Tactic.rcasesPatMed #[.node i `null #[zqp n x]],.node i `null #[]]),.atom i "⟩"]else .node i `Lean.Parser.Tactic.rcasesPat.ignore #[.atom i "_"]
 |_,x=>.node .none `Lean.Parser.Tactic.rcasesPat.one #[x]
local macro_rules|`(tactic|have $p:term:=$h)=>if p.raw.isOfKind `«term%[_|_]»then`(tactic|obtain $(⟨zqp 99 p⟩):rcasesPat:=$h)else Lean.Macro.throwUnsupported
local macro_rules|`(tactic|intro $p*)=>if p.any (·.raw.isOfKind `«term%[_|_]»)then do
  let q:=p.map λx=>(⟨.node .none `Lean.Parser.Tactic.rintroPat.one #[zqp 99 x]⟩:Lean.TSyntax `rintroPat)
  `(tactic|rintro $q*)else Lean.Macro.throwUnsupported
set_option hygiene false in
local macro_rules|`(command|$d:declaration)=>do
 let x:=d.raw[1]
 let b:=x.isOfKind `Lean.Parser.Command.definition
 if x.isOfKind `Lean.Parser.Command.inductive&&x[2][1].isNone&&x[3].isNone then
  let y:=(<-`(inductive q(vs:ZM)(H:Hp)(Q:VK)(E0:XK):Prop)).raw[1][2]
  return d.raw.setArg 1 (x.setArg 2 (y.setArg 0 (Lean.mkNullNode (x[2][0].getArgs++y[0].getArgs))))
 if d.raw[0].getArgs.all (·.isNone)&&(b||x.isOfKind `Lean.Parser.Command.abbrev)then return if b then d.raw.setArg 1 (.node .none `Lean.Parser.Command.theorem #[.atom .none "theorem",x[1],.node .none `Lean.Parser.Command.declSig #[x[2][0],x[2][1][0]],x[3]])else .node .none `Lean.Parser.Command.declaration #[d.raw[0].setArg 4 (Lean.mkNullNode #[.node .none `Lean.Parser.Command.noncomputable #[.atom .none "noncomputable"]]),.node .none `Lean.Parser.Command.definition #[.atom .none "def",x[1],x[2],x[3],Lean.mkNullNode]]
 Lean.Macro.throwUnsupported
set_option hygiene false in
local macro_rules|`(↥$a:ident)=>`(wpAny (model prog w) $a)
set_option hygiene false in
local macro_rules|`(command|#where)=>`(variable{prog:Program}{w:World}{A:Around}{E:ZD}{s:Shared})
set_option hygiene false in
local macro_rules|`(command|#version)=>`(variable{X:Cx}{pins:ZE}{σ:St}{H:Hp}{s:Shared})
nonrec abbrev ZA:=PySem.W.Frag
nonrec abbrev ZB:=List PySem.Str
nonrec abbrev ZC:=PySem.Str->Option PySem.Value
nonrec abbrev ZD:=PySem.Value->PySem.Shared->Prop
nonrec abbrev ZE:=List (PySem.Addr×PySem.Obj)
nonrec abbrev ZF:=List PySem.Value
nonrec abbrev ZG:=List (PySem.Addr×List PySem.Str)
nonrec abbrev ZH:=List (PySem.Addr×PySem.Str×List PySem.Str)
nonrec abbrev ZI:=Option PySem.Addr
nonrec abbrev ZJ:=Array PySem.Value
nonrec abbrev ZK:=Array (Option PySem.Value)
nonrec abbrev ZL:=List Int
set_option genSizeOf false
set_option genInjectivity false
set_option bootstrap.genMatcherCode false
local macro_rules|`(~~~$x)=>`($(x).length)|`($x<*$y)=>`($x=some (.lst $y))|`($x&&&$y)=>`($x=some (.tup $y))
set_option hygiene false in
local macro_rules|`(tactic|exists $t,$c,$a:ident,$j:ident,$p)=>`(tactic|(refine ($t).cal $c (λH vs Q E h=>?_);have $p:term:=h;refine ⟨rfl,λf $a A outer s $j=>?_⟩))
nonrec theorem ρ{α:Sort _}{a:α}:a=a:=rfl
set_option hygiene false in
local macro_rules|`($x\0)=>`($(x).map λt=>V.ref t.1)|`($x\1)=>`($(x).map (·.1))|`($x\2)=>`($(x).map (·.2))|`($x\3)=>`($(x).map V.str)|`($x\4)=>`($(x).map V.int)|`($x∣$y)=>`($x=some $y)
namespace _L
open PySem PySem.Spec PyProof.Rows
noncomputable abbrev Key:=Sum Int Str
abbrev jb:Key->Value->Bool
 | .inl k,v=>Value.isInt k v
 | .inr x,v=>Value.isStrOf x v
abbrev keyH(w:World):Key->Int
 | .inl k=>hashInt k
 | .inr x=>hashStr w x
def aW:∀{k:Key} {v:Value},jb k v=true->(∃i t,k=Sum.inl i/\v=Value.int i t)\/(∃x t,k=Sum.inr x/\v=Value.str x t)
 | .inl i,v,h=>by
   have%[t|e]:=Value.isInt_shape h;exact .inl %[i,t,rfl|e]
 | .inr x,v,h=>by
   have%[t|e]:=Value.isStrOf_shape h;exact .inr %[x,t,rfl|e]
def yz(i:Int)(t:Tok):jb (.inl i) (.int i t)=true:=by simp[jb,Value.isInt]
def dC(x:Str)(t:Tok):jb (.inr x) (.str x t)=true:=by simp[jb,Value.isStrOf]
def ET(a b:Int):decide ((Sum.inl a:Key)=Sum.inl b)=(a==b):=by
 by_cases e:a=b
 .subst e;simp
 simp_all
def EU(a b:Str):decide ((Sum.inr a:Key)=Sum.inr b)=decide (a=b):=by
 simp
abbrev aQ(prog:Program)(w:World):PySem.KeyKind prog w Key where
 is:=jb
 hash:=keyH w
 inj:=λv a b ha hb=>by
  rcases aW ha with⟨i,t,rfl,rfl⟩|⟨x,t,rfl,rfl⟩
  .rcases aW hb with⟨j,u,rfl,e⟩|⟨y,u,rfl,e⟩
   .injection e with e1 _;rw[e1]
   .exact nomatch e
  .rcases aW hb with⟨j,u,rfl,e⟩|⟨y,u,rfl,e⟩
   .exact nomatch e
   .injection e with e1 _;rw[e1]
 byValue:=λk v h=>by
  rcases aW h with⟨i,t,rfl,rfl⟩|⟨x,t,rfl,rfl⟩<;> rfl
 pyHash:=λhv h=>by
  rcases aW hv with⟨i,t,rfl,rfl⟩|⟨x,t,rfl,rfl⟩
  .exact wpAny_pyHash_int h
  .exact wpAny_pyHash_str h
 eqBool:=λhu hv h=>by
  rcases aW hu with⟨i,t,rfl,rfl⟩|⟨x,t,rfl,rfl⟩
  .rcases aW hv with⟨j,u,rfl,rfl⟩|⟨y,u,rfl,rfl⟩
   .rw[ET]at h;exact wpAny_eqBool_int h
   .exact SeqAt.EqAt.int_str i t y u _ _ _ _ h
  .rcases aW hv with⟨j,u,rfl,rfl⟩|⟨y,u,rfl,rfl⟩
   .exact SeqAt.EqAt.str_int x t j u _ _ _ _ h
   .rw[EU]at h;exact wpAny_eqBool_str h
 «strs»:=λk x t v h=>by
  rcases aW h with⟨i,u,rfl,e⟩|⟨y,u,rfl,e⟩
  .exact nomatch e
  .injection e with e1 _
   subst e1;cases v<;> rfl
def tO(prog:Program)(w:World)(i:Int)(t:Tok):(aQ prog w).is (.inl i) (.int i t)=true:=yz i t
def tP(prog:Program)(w:World)(x:Str)(t:Tok):(aQ prog w).is (.inr x) (.str x t)=true:=dC x t
set_option genInjectivity true in
inductive V where
 | non|bl (b:Bool)|int (i:Int)|str (x:Str)|byt (b:Array UInt8)|flt (b:UInt64)|ref (a:Addr)|ty (n:String)
 deriving DecidableEq
abbrev aN:V->Value->Prop
 | .non,u=>u=Value.none
 | .bl b,u=>u=Value.bool b
 | .int i,u=>∃t,u=Value.int i t
 | .str x,u=>∃t,u=Value.str x t
 | .byt b,u=>∃t,u=Value.bytes b t
 | .flt b,u=>∃t,u=Value.float b t
 | .ref a,u=>u=Value.ref a
 | .ty n,u=>u=Value.type n
nonrec abbrev aJ:List V->ZF->Prop:=Paired aN
def aJ.length{xs:List V}{us:ZF}(r:aJ xs us): ~~~xs= ~~~us:=Paired.length r
def aJ.get:∀{xs:List V} {us:ZF} {i:Nat} {x:V},aJ xs us->xs[i]?∣x->∃u,us[i]?∣u/\aN x u
 | _,_,_,_,.nil,e=>by simp at e
 | _,_,0,_,.cons r _,e=>by simp at e;subst e;exact%[_,ρ|r]
 | _,_,i+1,x,.cons _ t,e=>by
   have%[u,a|b]:=aJ.get t (e);exact%[u,a|b]
def aJ.append:∀{xs ys:List V} {us ws:ZF},aJ xs us->aJ ys ws->aJ (xs++ys) (us++ws)
 | _,_,_,_,.nil,s=>s
 | _,_,_,_,.cons r t,s=> .cons r (aJ.append t s)
def aJ.take:∀{xs:List V} {us:ZF} n,aJ xs us->aJ (xs.take n) (us.take n)
 | _,_,0,_=> .nil
 | _,_,_+1,.nil=> .nil
 | _,_,n+1,.cons r t=> .cons r (aJ.take n t)
def aJ.drop:∀{xs:List V} {us:ZF} n,aJ xs us->aJ (xs.drop n) (us.drop n)
 | _,_,0,r=>r
 | _,_,_+1,.nil=> .nil
 | _,_,n+1,.cons _ t=>aJ.drop n t
abbrev fJ:Option V->Option Value->Prop
 | some v,some u=>aN v u
 | none,none=>True
 | _,_=>False
abbrev KV{a:Type}:List (a×V)->List (a×Value)->Prop:=Paired λp q=>p.1=q.1/\aN p.2 q.2
abbrev kV:Key->V
 | .inl i=> .int i
 | .inr x=> .str x
set_option genInjectivity true in
inductive HO where
 | lst (xs:List V)
 | tup (xs:List V)
 | dK (kvs:List (Key×V))|dT (kvs:List (List Key×V))
 | set (S:Int->Bool) (n:Nat)
 | ins (C dx:Addr) (fs:List (Str×V))
 | own (x:Addr)
 | xd (fs:List (Str×V))
 | met (f x:Addr)
 | rng (lo hi:Int)
 | frz (o:Obj) (u:HO)
 | tbl (ps:ZJ)
 | ext (φ:Heap->Prop)
noncomputable abbrev Hp:=Addr->Option HO
abbrev upd(H:Hp)(a:Addr)(o:HO):Hp:=λb=>if b=a then some o else H b
def aa:upd H a o a∣o:=by unfold upd;rw[if_pos rfl]
def ak{H:Hp}{a b:Addr}{o:HO}(h:b≠a):upd H a o b=H b:=by unfold upd;rw[if_neg h]
def CB:upd (upd H a o) a u=upd H a u:=by
 funext b;unfold upd;split<;> rfl
def GO{H:Hp}(h:H a∣o)(h':H b∣u)(d:o≠u):a≠b:=by
 intro e;subst e;rw[h]at h';exact d (Za h')
def au{H:Hp}{a b:Addr}{o:HO}(h:H a∣o)(h':H b=none):a≠b:=by
 lia
section
variable(P:Program)(w:World)
abbrev cF(H:Hp)(h:Heap)(a:Addr):HO->Prop
 | .lst xs=> ~~~xs<=sizeLine/\∃(its:ZF) (n:Nat),aJ xs its/\h.get? a=some {cls:= .type "list",data:= .seq its.toArray n}
 | .tup xs=> ~~~xs<=sizeLine/\∃its:ZF,aJ xs its/\IsTup h a its.toArray
 | .dK b=> ~~~b<=sizeLine/\(a==sysModules)=false/\∃vs,KV b vs/\h.DictOf (aQ P w) a vs
 | .dT b=> ~~~b<=sizeLine/\(a==sysModules)=false/\∃xs:List (List Key×Addr×Value),
  Paired (λ(p:List Key×V) (q:List Key×Addr×Value)=>p.1=q.1/\H q.2.1&&&p.1.map kV/\aN p.2 q.2.2) b xs/\
  ∃o es j,h.get? a∣o/\o.ExactDict/\o.data= .dict es j/\es.toList=xs.map (entryOfKey (tupleKind (aQ P w)))/\(xs\1).Nodup
 | .set S n=>h.SetOf (intKind P w) a S n
 | .ins C d fs=>H d∣.own a/\ ~~~fs<=1000/\d≠a/\h.get? a∣instObj C d/\
  ∃c,h.Ns1 d c/\(∀f,fJ (fs.lookup f) (c f))/\PySem.Within c (fs\1)
 | .own _=>∃o,h.get? a∣o
 | .xd fs=>∃c,h.Ns1 a c/\∀f,fJ (fs.lookup f) (c f)
 | .rng lo hi=>∃t u v,h.get? a=some {cls:= .type "range",data:= .fields #[.int lo t,.int hi u,.int 1 v]}
 | .frz o u=>h.get? a∣o/\cF H h a u
 | .tbl ps=>h.get? a=some {cls:= .none,data:= .fields ps}
 | .met f x=>h.get? a∣PySem.W.methodObj (.ref f) (.ref x)
 | .ext e=>e h/\(∃o,h.get? a∣o)/\∀g i,e g->(∀o,g.get? a∣o->i.get? a∣o)->e i
abbrev HOk(H:Hp)(h:Heap):Prop:=∀a o,H a∣o->cF P w H h a o
end
section
variable{P:Program}{w:World}{H H':Hp}{h h':Heap}{a:Addr}{o:HO}
def cF.lt(x:cF P w H h a o):a<h.objs.size:=by
 cases o with
 | lst xs=>have%[_,_,_,_|e]:=x;exact Zu e
 | tup xs=>have%[_,_,_|p]:=x;exact p.lt
 | dK b=>have%[_,_,_,_,o,_,_,e|_]:=x;exact Zu e
 | dT b=>have%[_,_,_,_,o,_,_,e|_]:=x;exact Zu e
 | set S n=>have%[o,_,_,_,e|_]:=x;exact Zu e
 | ins C c fs=>have%[_,_,_,e|_]:=x;exact Zu e
 | own y=>have%[_|e]:=x;exact Zu e
 | xd fs=>have%[_,%[_,_,_,e|_]|_]:=x;exact Zu e
 | rng lo hi=>have%[_,_,_|e]:=x;exact Zu e
 | frz d u=>have%[e|_]:=x;exact Zu e
 | tbl ps=>exact Zu (x)
 | met f y=>exact Zu (x)
 | ext g=>have%[_,%[_|e]|_]:=x;exact Zu e
def Paired.mapP{F G:c->d->Prop}:∀{l₁:List c} {l₂:List d},Paired F l₁ l₂->(∀a b,F a b->G a b)->Paired G l₁ l₂
 | _,_,.nil,_=> .nil
 | _,_,.cons r t,f=> .cons (f _ _ r) (Paired.mapP t f)
def cF.stay(x:cF P w H h a o)(k:∀b u,(b=a\/H b∣.own a)->h.get? b∣u->h'.get? b∣u)
 (s:∀b,H b∣.own a->H' b∣.own a) (A:∀b xs,H b&&&xs->H' b&&&xs):cF P w H' h' a o:=by
 induction o with
 | lst xs=>have%[z,its,n,r|e]:=x;exact%[z,its,n,r|k _ _ (.inl rfl) e]
 | tup xs=>have%[z,its,r,g,e|c]:=x;exact%[z,its,r,g,k _ _ (.inl rfl) e|c]
 | dK j=>have%[z,y,vs,r,g,es,i,e|c]:=x;exact%[z,y,vs,r,g,es,i,k _ _ (.inl rfl) e|c]
 | dT j=>
   have%[z,y,xs,r,g,es,i,e|c]:=x;exact%[z,y,xs,Paired.mapP r λp q z=>%[z.1,A _ _ z.2.1|z.2.2],g,es,i,k _ _ (.inl rfl) e|c]
 | set S n=>have%[g,es,i,t,e|c]:=x;exact%[g,es,i,t,k _ _ (.inl rfl) e|c]
 | ins C I fs=>
   have%[d,z,B,e,l,%[m,es,i,E|c]|r]:=x;exact%[s _ d,z,B,k _ _ (.inl rfl) e,l,%[m,es,i,k _ _ (.inr d) E|c]|r]
 | own y=>have%[g|e]:=x;exact%[g|k _ _ (.inl rfl) e]
 | xd fs=>have%[l,%[m,es,i,e|c]|r]:=x;exact%[l,%[m,es,i,k _ _ (.inl rfl) e|c]|r]
 | rng lo hi=>have%[t,u,v|e]:=x;exact%[t,u,v|k _ _ (.inl rfl) e]
 | frz g u G=>have%[e|q]:=x;exact%[k _ _ (.inl rfl) e|G q]
 | tbl ps=>
   exact k a _ (.inl rfl) x
 | met f y=>
   exact k a _ (.inl rfl) x
 | ext J=>have%[p,%[o|e]|st]:=x;exact%[st _ _ p λo q=>k _ _ (.inl rfl) q,%[o|k _ _ (.inl rfl) e]|st]
def HOk.lt(x:HOk P w H h)(e:H a∣o):a<h.objs.size:=(x a o e).lt
def HOk.fresh(x:HOk P w H h)(e:h.objs.size<=a):H a=none:=by
 cases q:H a with
 | none=>rfl
 | some u=>exact absurd (Zg (x.lt q) e) (Xi _)
def HOk.kept(x:HOk P w H h)(k:∀b u,h.get? b∣u->h'.get? b∣u):HOk P w H h':=λa o e=>
 (x a o e).stay (λb u _ q=>k b u q) (λ_ q=>q) λ_ _ q=>q
def HOk.laid(x:HOk P w H h)(k:∀b u,h.get? b∣u->h'.get? b∣u)(g:h.objs.size<=a)(new:cF P w (upd H a o) h' a o):HOk P w (upd H a o) h':=λb u e=>by
 have d:=x.fresh g;by_cases f:b=a
 .subst f;rw[aa]at e;grind
 .rw[ak f]at e;exact(x b u e).stay (λc v _ q=>k c v q) (λc q=>(ak (au q d))▸q) λc xs q=>(ak (au q d))▸q
end
abbrev Rd(H:Hp)(a:Addr)(u:HO):Prop:=H a∣u\/∃o,H a∣.frz o u
def Rd.ok{P:Program}{w:World}{H:Hp}{h:Heap}{a:Addr}{u:HO}(r:Rd H a u)(x:HOk P w H h):cF P w H h a u:=by
 rcases r with r|⟨o,r⟩
 .exact x a u r
 .have%[_|q]:=x a _ r;exact q
abbrev Mut:Option HO->Prop
 | some (.lst _)=>True
 | some (.dK _)=>True
 | some (.dT _)=>True
 | some (.set _ _)=>True
 | some (.ins _ _ _)=>True
 | some (.ext _)=>True
 | _=>False
section
variable{P:Program}{w:World}{H:Hp}{h h':Heap}{x e:Addr}{o':HO}
def HOk.write(ok:HOk P w H h)(g:Mut (H x))(m:e=x\/H e∣.own x)(k:∀b u,b≠e->h.get? b∣u->h'.get? b∣u)(i:∃u,h'.get? e∣u)
 (new:cF P w (upd H x o') h' x o'):HOk P w (upd H x o') h':=λb u q=>by
 have d:∀c y,H c∣.own y->c≠x:=λc y r z=>by subst z;rw[r]at g;exact g
 have f:∀c xs,H c&&&xs->c≠x:=λc xs r z=>by subst z;rw[r]at g;exact g
 by_cases j:b=x
 .subst j;rw[aa]at q;grind
 .rw[ak j]at q;by_cases a:b=e
  .have l:H b∣.own x:=by
    rcases m with z|z
    .exact absurd (a.trans z) j
    .exact a▸z
   rw[q]at l;cases l;have%[v|n]:=i;exact%[v|a▸n]
  .refine(ok b u q).stay (λc v o r=>k c v ?_ r) (λc r=>(ak (d c b r))▸r) λc xs r=>(ak (f c xs r))▸r
   grind
end
structure Un (fs ex:List Addr) (H H':Hp) (h h':Heap):Prop where
 keep:∀b o,h.get? b∣o->H b=none->b∉fs->b∉ex->h'.get? b∣o
 slot:∀b o,h.get? b∣o->H b=none->b∈fs->b∉ex->∃sl,h'.get? b=some {o with slots:=sl}
 free:∀b o,h.get? b∣o->H b=none->b∉ex->H' b=none
 there:∀b o,h.get? b∣o->b∉ex->∃o',h'.get? b∣o'
 tups:∀b xs,H b&&&xs->H' b&&&xs
 frzs:∀b o u,H b∣.frz o u->H' b∣.frz o u
 tbls:∀b ps,H b∣.tbl ps->∃more,H' b∣.tbl (ps++more)
section
variable{fs fs' ex ex':List Addr}{H H1 H2:Hp}{h h1 h2 h':Heap}{a x e:Addr}{o:HO}
def Un.any(u:Un fs ex H H1 h h1)(q:h.get? b∣c)(n:H b=none)(d:b∉ex):∃g,h1.get? b=some {c with slots:=g}:=by
 by_cases f:b∈fs
 .exact u.slot b c q n f d
 .exact%[c.slots|u.keep b c q n f d]
def Un.trans(a:Un fs ex H H1 h h1)(b:Un fs ex H1 H2 h1 h2):Un fs ex H H2 h h2 where
 keep:=λc ob q n hc hx=>b.keep c ob (a.keep c ob q n hc hx) (a.free c ob q n hx) hc hx
 slot:=λc ob q n hc hx=>by
  have%[sl|e1]:=a.slot c ob q n hc hx;have%[sl'|e2]:=b.slot c _ e1 (a.free c ob q n hx) hc hx;exact%[sl'|e2]
 free:=λc ob q n hx=>by
  have%[o'|e1]:=a.there c ob q hx;exact b.free c o' e1 (a.free c ob q n hx) hx
 there:=λc ob q hx=>by
  have%[o'|e1]:=a.there c ob q hx;exact b.there c o' e1 hx
 tups:=λc xs q=>b.tups c xs (a.tups c xs q)
 frzs:=λc ob xs q=>b.frzs c ob xs (a.frzs c ob xs q)
 tbls:=λc ps q=>by
  have%[m1|e1]:=a.tbls c ps q;have%[m2|e2]:=b.tbls c _ e1;exact%[m1++m2|by rw[e2,Array.append_assoc]]
def Un.kept(k:∀b u,h.get? b∣u->h'.get? b∣u):Un fs ex H H h h':=
 %[λb c q _ _ _=>k b c q,λb c q _ _ _=>%[c.slots|k b c q],λ_ _ _ n _=>n,λb c q _=>%[c|k b c q],λ_ _ q=>q,λ_ _ _ q=>q|λ_ ps q=>%[#[]|by rw[q];simp]]
def Un.refl:Un fs ex H H h h:=Un.kept λ_ _ q=>q
def Un.laid(k:∀b u,h.get? b∣u->h'.get? b∣u)(hp:h.objs.size<=a)(hn:H a=none):Un fs ex H (upd H a o) h h' where
 keep:=λb u q _ _ _=>k b u q
 slot:=λb u q _ _ _=>%[u.slots|k b u q]
 free:=λb u q n _=>(ak (Zs (Zg (Zu q) hp)))▸n
 there:=λb u q _=>%[u|k b u q]
 tups:=λb xs q=>(ak (au q hn))▸q
 frzs:=λb u xs q=>(ak (au q hn))▸q
 tbls:=λb ps q=>%[#[]|by rw[ak (au q hn),q];simp]
def Un.write(f:Mut (H x))(l:e=x\/H e∣.own x)(k:∀b u,b≠e->h.get? b∣u->h'.get? b∣u)(i:∃u,h'.get? e∣u):Un fs ex H (upd H x o) h h':=by
 have j:∀b,H b=none->b≠x:=λb n z=>by subst z;rw[n]at f;exact f
 have g:∀b,H b=none->b≠e:=λb n z=>by
  simp_all
 have c:∀b u,H b∣u-> ¬ Mut (some u)->b≠x:=λb u q nm z=>!2
 refine%[λb u q n _ _=>k b u (g b n) q,λb u q n _ _=>%[u.slots|k b u (g b n) q],λb u q n _=>(ak (j b n))▸n,λb u q _=>?_,
  λb xs q=>(ak (c b _ q λz=>z))▸q,λb u xs q=>(ak (c b _ q λz=>z))▸q|λb ps q=>%[#[]|by rw[ak (c b _ q λz=>z),q];simp]]
 by_cases d:b=e
 .simp_all
 .exact%[u|k b u d q]
end
abbrev trk(h:Heap)(H:Hp):List Addr:=(List.range h.objs.size).filter λa=>(H a).isSome
abbrev yA(h:Heap)(H:Hp):Heap:=PySem.W.hideAll h (trk h H)
def yB(h:Heap)(H:Hp):(yA h H).objs.size=h.objs.size:=PySem.W.hideAll_size _ _
def z8(e:h.get? b∣o)(n:H b=none):(yA h H).get? b∣o:=
 PySem.W.hideAll_get _ e λa=>by
  have q:=(List.mem_filter.mp a).2;rw[n]at q;simp at q
def CC(e:(yA h H).get? b∣o):h.get? b∣o/\H b=none:=by
 have a:=PySem.W.of_hideAll _ e;refine%[a|?_];cases q:H b with
 | none=>rfl
 | some x=>
   have z:(yA h H).get? b=none:=PySem.W.hideAll_none _ (List.mem_filter.mpr %[mem_range.mpr (Zu a)|by simp[q]])
   grind
abbrev CD(g h:Heap)(L:Addr):ZE:=(List.range h.objs.size).filterMap λa=>if a=L\/(g.get? a).isSome=true then none else(h.get? a).map λo=>(a,o)
abbrev rest(g h:Heap)(L d:Addr):ZE:=(CD g h L).filter λp=>decide (p.1≠d)
structure Mod (K:ZA) (mg:ZC) (base:Heap):Prop where
 kin:K.In base
 glob:base.Ns mainGlobals mg
 blt:∃mb,base.Ns builtinsNs mb/\∀x:Str,x≠"__name__"->mb x=bootBuiltins x
 nolimit:base.NoLimit
structure Cx where
 prog:Program
 w:World
 K:ZA
 mg:Str->Option Value
 base:Heap
 A:Around
 N:ZB
 s₀:Shared
 H₀:Hp
 env:Env
 outer:List Env
 stack:List Env
 ex:List Addr
 fn:Str->Bool
 calm:Bool
 pn:ZE
 xe:Value->Shared->Prop
abbrev frs(l:List Env):List Addr:=l.filterMap (·.frame)
noncomputable abbrev Cx.fs(X:Cx):List Addr:=frs X.outer
abbrev Vis(a:Scope)(x:Str):Prop:=a.names.lookup x∣.local\/a.names.lookup x∣.cell\/a.names.lookup x∣.free
abbrev Loc(a:Scope)(x:Str):Prop:=a.names.lookup x∣.local\/a.names.lookup x∣.cell
abbrev Look(env:Env)(h:Heap)(m:ZC)(x:Str)(u:Value):Prop:=
 (env.kindOf x∣.local/\m x∣u)\/((env.kindOf x∣.cell\/env.kindOf x∣.free)/\∃c,env.cells.lookup x∣c/\h.IsCell c (some u))
structure Cx.Ok (X:Cx):Prop where
 mod:Mod X.K X.mg X.base
 kind:X.env.scope.kind= .function
 glob:X.env.globals=mainGlobals
 blt:X.env.builtins=builtinsNs
 above:X.s₀.heap.objs.size<=X.env.locals
 inj:∀x y c,X.env.cells.lookup x∣c->X.env.cells.lookup y∣c->x=y
 has:∀x,(X.env.kindOf x∣.cell\/X.env.kindOf x∣.free)->∃c,X.env.cells.lookup x∣c
 cab:∀x c,X.fn x=true->X.env.cells.lookup x∣c->X.s₀.heap.objs.size<=c
 hd:X.calm=true->X.A.handled=none
 frames:X.A.frames∣X.stack
 stk:X.stack=X.outer\/(X.stack=X.env::X.outer/\X.env.frame∣X.env.locals)
 exf:∀b∈X.ex,b≠X.env.locals/\∀x c,X.env.cells.lookup x∣c->c≠b
 bs:∀b o,X.base.get? b∣o->X.s₀.heap.get? b∣o/\X.H₀ b=none
 bsz:X.base.objs.size<=X.s₀.heap.objs.size
 noex:∀b o,X.base.get? b∣o->b∉X.ex
 exfs:∀b∈X.ex,b∉X.fs
 funs:X.s₀.heap.FunFrames X.base X.outer
 frf:∀b∈X.fs,X.H₀ b=none
structure Inv (X:Cx) (pins:List _) (σ:List _) (H:Hp) (s:Shared):Prop where
 ok:X.Ok
 os:s.os=X.s₀.os
 bare:AllBare s.gens
 base:Un X.fs X.ex X.H₀ H X.s₀.heap s.heap
 loc:∃m,s.heap.Ns X.env.locals m/\∀(i:Nat) x v,X.N[i]?∣x->σ[i]?∣some v->Vis X.env.scope x->∃u,aN v u/\Look X.env s.heap m x u
 cell:∀x c,X.env.cells.lookup x∣c->∃v,s.heap.IsCell c v
 free:H X.env.locals=none
 freeC:∀x c,X.env.cells.lookup x∣c->H c=none
 pin:∀p∈X.pn++pins,s.heap.get? p.1∣p.2/\H p.1=none/\p.1≠X.env.locals/\p.1∉X.fs/\∀v,p.2.data≠ .cell v
 hok:HOk X.prog X.w H s.heap
 len:σ.length= ~~~X.N
section
variable{X:Cx}{pins:ZE}{σ:List (Option V)}{H H':Hp}{s:Shared}{h':Heap}
def Cx.Ok.nofr(ok:X.Ok)(e:X.base.get? b∣o):b∉X.fs:=λa=>by
 have:=(ok.funs.mem a).1
 grind
def Inv.bs(I:Inv X pins σ H s):∀b o,X.base.get? b∣o->s.heap.get? b∣o/\H b=none:=λb o e=>
 %[I.base.keep b o (I.ok.bs b o e).1 (I.ok.bs b o e).2 (I.ok.nofr e) (I.ok.noex b o e)|I.base.free b o (I.ok.bs b o e).1 (I.ok.bs b o e).2 (I.ok.noex b o e)]
def Inv.bk(I:Inv X pins σ H s):∀b o,X.base.get? b∣o->s.heap.get? b∣o:=λb o e=>(I.bs b o e).1
def Inv.mod(I:Inv X pins σ H s):Mod X.K X.mg X.base:=I.ok.mod
def Inv.kIn(I:Inv X pins σ H s):X.K.In s.heap:=I.ok.mod.kin.keeps I.bk
def Inv.lt(I:Inv X pins σ H s):X.env.locals<⇑s:=let⟨_,a,_⟩:=I.loc;a.lt
def Inv.sz(I:Inv X pins σ H s):X.s₀.heap.objs.size<=⇑s:=Yf I.ok.above (Yd I.lt)
def Inv.nofs(I:Inv X pins σ H s)(h:⇑s<=a):a∉X.fs:=λb=>by
 have%[_,o,c|_]:=I.ok.funs.mem b;exact absurd (Zg (Zu c) (Yf I.sz h)) (Xi _)
def Inv.cne(I:Inv X pins σ H s):∀x c,X.env.cells.lookup x∣c->c≠X.env.locals:=λx c e z=>by
 have%[v,o,d|f]:=I.cell x c e;have%[m,%[g,es,h,a,b|_]|_]:=I.loc
 grind
def Inv.funs(I:Inv X pins σ H s):s.heap.FunFrames X.base X.outer:=by
 have all:∀l,(∀b∈frs l,b∈X.fs)->X.s₀.heap.FunFrames X.base l->s.heap.FunFrames X.base l:=by
  intro l
  induction l with
  | nil=>intro _ _;trivial
  | cons env r g=>
    intro f h;have%[i,%[L,o,a,j,m|n]|p]:=h;have c:=f L (by unfold frs;rw[Y1,a];exact Zm);have%[q|e]:=I.base.slot L o m (I.ok.frf L c) c λz=>I.ok.exfs L z c
    exact%[i,%[L,_,a,j,e|n]|g (λb d=>f b (by unfold frs;rw[Y1,a];exact Zk _ d)) p]
 exact all X.outer (λ_ d=>d) I.ok.funs
def Inv.stack(I:Inv X pins σ H s):s.heap.FunFrames X.base X.stack:=by
 rcases I.ok.stk with e|⟨e,a⟩
 .exact e▸I.funs
 .rw[e];have%[m,b|_]:=I.loc;exact .cons (by rw[I.ok.kind];decide) a b (Heap.get?_none_of_le (Yf I.ok.bsz I.ok.above)) I.funs
def Inv.stkSub(I:Inv X pins σ H s):∀b∈frs X.stack,b∈X.env.locals::X.fs:=λb a=>by
 rcases I.ok.stk with e|⟨e,c⟩
 .rw[e]at a;exact Zk _ a
 .rw[e]at a;unfold frs at a;rw[Y1,c]at a;exact a
def Inv.stkFree(I:Inv X pins σ H s):∀b∈frs X.stack,H b=none:=λb a=>by
 rcases mem_cons.mp (I.stkSub b a)with e|a
 .exact e▸I.free
 .have%[_,o,c|_]:=I.ok.funs.mem a;exact I.base.free b o c (I.ok.frf b a) λz=>I.ok.exfs b z a
def Inv.step{d':Drawn}{ch:List Addr}(I:Inv X pins σ H s)
 (f:∀b∈ch,(b∈X.ex\/X.s₀.heap.objs.size<=b)/\b≠X.env.locals/\(∀x c,X.env.cells.lookup x∣c->c≠b)/\∀p∈X.pn++pins,p.1≠b)
 (keep:∀b o,b≠X.env.locals->b∉X.fs->b∉ch->s.heap.get? b∣o->H b=none->h'.get? b∣o)
 (slot:∀b o,b≠X.env.locals->b∈X.fs->b∉ch->s.heap.get? b∣o->H b=none->∃G,h'.get? b=some {o with slots:=G}) (free:∀b o,b∉ch->s.heap.get? b∣o->H b=none->H' b=none)
 (there:∀b o,b∉ch->s.heap.get? b∣o->∃B,h'.get? b∣B)
 (tups:∀b xs,H b&&&xs->H' b&&&xs) (frzs:∀b o u,H b∣.frz o u->H' b∣.frz o u) (tbls:∀b ps,H b∣.tbl ps->∃more,H' b∣.tbl (ps++more))
 (U:∀m,s.heap.Ns X.env.locals m->h'.Ns X.env.locals m) (J:HOk X.prog X.w H' h') (Y:AllBare g'):
 Inv X pins σ H' {s with heap:=h',gens:=g',drawn:=d',toks:=t'}:=by
 have C:∀b o,X.s₀.heap.get? b∣o->b≠X.env.locals:=λb o e=>Zs (Zg (Zu e) I.ok.above)
 have j:∀b o,X.s₀.heap.get? b∣o->b∉X.ex->b∉ch:=λb o e a y=>by
  rcases(f b y).1 with z|z
  .exact a z
  .exact absurd (Zg (Zu e) z) (Xi _)
 have g:∀x c,X.env.cells.lookup x∣c->∀v,s.heap.IsCell c v->h'.IsCell c v:=λx c e v ⟨o,A,L⟩=>by
  have h:=λz=>(f c z).2.2.1 x c e rfl
  by_cases N:c∈X.fs
  .have%[G|q]:=slot c o (I.cne x c e) N h A (I.freeC x c e);exact%[_,q|L]
  .exact%[o,keep c o (I.cne x c e) N h A (I.freeC x c e)|L]
 refine%[I.ok,I.os,Y,%[λb o e n y a=>?_,λb o e n y a=>?_,λb o e n a=>?_,λb o e a=>?_,λb xs e=>tups b xs (I.base.tups b xs e),λb o xs e=>frzs b o xs (I.base.frzs b o xs e)|λb ps e=>?_],?_,λx c e=>?_,?_,λx c e=>?_,λp O=>?_,J|I.len]
 .exact keep b o (C b o e) y (j b o e a) (I.base.keep b o e n y a) (I.base.free b o e n a)
 .have%[G|w]:=I.base.slot b o e n y a;have%[M|E]:=slot b _ (C b o e) y (j b o e a) w (I.base.free b o e n a);exact%[M|E]
 .have%[B|w]:=I.base.there b o e a;exact free b B (j b o e a) w (I.base.free b o e n a)
 .have%[B|w]:=I.base.there b o e a;exact there b B (j b o e a) w
 .have%[m1|w]:=I.base.tbls b ps e;have%[m2|E]:=tbls b _ w;exact%[m1++m2|by rw[E,Array.append_assoc]]
 .have%[m,hn|hl]:=I.loc;refine%[m,U m hn|λi x v w E e3=>?_];have%[u,r|l]:=hl i x v w E e3;refine%[u,r|?_];rcases l with l|⟨k,c,e,z⟩
  .exact .inl l
  .exact .inr %[k,c,e|g x c e _ z]
 .have%[v|z]:=I.cell x c e;exact%[v|g x c e v z]
 .have%[m,%[o,_,_,A|_]|_]:=I.loc;exact free _ o (λz=>(f _ z).2.1 rfl) A I.free
 .have%[v,o,A|L]:=I.cell x c e;exact free c o (λz=>(f c z).2.2.1 x c e rfl) A (I.freeC x c e)
 .have%[e,n,Q,T|d]:=I.pin p O;have h:=λz=>(f p.1 z).2.2.2 p O rfl
  exact%[keep p.1 p.2 Q T h e n,free p.1 p.2 h e n,Q,T|d]
def Inv.un{t':Nat}(I:Inv X pins σ H s)(u:Un X.fs [] H H' s.heap h')(c:HOk X.prog X.w H' h'):Inv X pins σ H' {s with heap:=h',toks:=t'}:=by
 have%[m,%[o,es,p,h|r]|_]:=id I.loc;have%[q|i]:=u.any h I.free ∅;exact I.step (ch:=[]) (λ_ z=>nomatch z) (λb o _ d _ e n=>u.keep b o e n d ∅) (λb o _ d _ e n=>u.slot b o e n d ∅) (λb o _ e n=>u.free b o e n ∅) (λb o _ e=>u.there b o e ∅) u.tups u.frzs u.tbls (λv j=>by
  have%[w,f,g,a|l]:=j;rw[h]at a;cases a;exact%[_,f,g,i|l]) c I.bare
def Inv.call{d':Drawn}{ch:List Addr}(I:Inv X pins σ H s)(u:Un (frs X.stack) ch H H' s.heap h')(g:HOk X.prog X.w H' h')(q:AllBare g')
 (d:∀b∈ch,(b∈X.ex\/X.s₀.heap.objs.size<=b)/\b≠X.env.locals/\(∀x c,X.env.cells.lookup x∣c->c≠b)/\∀p∈X.pn++pins,p.1≠b):
 Inv X pins σ H' {s with heap:=h',gens:=g',drawn:=d',toks:=t'}:=by
 have%[m,%[o,es,A,l|r]|_]:=id I.loc;have%[B|h]:=u.any l I.free λz=>(d _ z).2.1 rfl
 exact I.step d (λb o h v a e n=>u.keep b o e n (λz=>(mem_cons.mp (I.stkSub b z)).elim h v) a) (λb o _ _ a e n=>u.any e n a) (λb o a e n=>u.free b o e n a) (λb o a e=>u.there b o e a) u.tups u.frzs u.tbls (λC w=>by
  have%[E,i,j,f|y]:=w;rw[l]at f;cases f;exact%[_,i,j,h|y]) g q
def Inv.turned{a:Addr}(I:Inv X pins σ H s)(k:∀b o,b≠a->s.heap.get? b∣o->h'.get? b∣o)(B:H a=none)(g:a≠X.env.locals)
 (h:a∈X.ex\/X.s₀.heap.objs.size<=a) (i:∀x c,X.env.cells.lookup x∣c->c≠a) (j:∀p∈X.pn++pins,p.1≠a):Inv X pins σ H {s with heap:=h',toks:=t'}:=by
 have f:∀b u,H b∣u->b≠a:=λb u e z=>by lia
 refine I.step (ch:=[a]) (λb l=>?_) (λb o _ _ d e _=>k b o (λz=>d (by simp[z])) e) (λb o _ _ d e _=>%[o.slots|k b o (λz=>d (by simp[z])) e]) (λ_ _ _ _ n=>n)
  (λb o d e=>%[o|k b o (λz=>d (by simp[z])) e]) (λ_ _ e=>e) (λ_ _ _ e=>e) (λb ps e=>%[#[]|by rw[e];simp]) (λm w=>?_) (λb u e=>?_) I.bare
 .have e:=↑l
  subst e;exact%[h,g,i|j]
 .have%[o,es,y,A|r]:=w;exact%[o,es,y,k _ o (Ne.symm g) A|r]
 .refine(I.hok b u e).stay (λc v d q=>k c v ?_ q) (λ_ q=>q) λ_ _ q=>q
  rcases d with z|z
  .exact z▸f b u e
  .exact f c _ z
def Inv.tok(I:Inv X pins σ H s)(t:Nat):Inv X pins σ H {s with toks:=t}:=I.un Un.refl I.hok
def Inv.kept(I:Inv X pins σ H s)(k:∀b u,s.heap.get? b∣u->h'.get? b∣u):Inv X pins σ H {s with heap:=h',toks:=t'}:=I.un (Un.kept k) (I.hok.kept k)
def Inv.laid{a:Addr}{o:HO}{t':Nat}(I:Inv X pins σ H s)(k:∀b u,s.heap.get? b∣u->h'.get? b∣u)(c:⇑s<=a)(new:cF X.prog X.w (upd H a o) h' a o):
 Inv X pins σ (upd H a o) {s with heap:=h',toks:=t'}:=I.un (Un.laid k c (I.hok.fresh c)) (I.hok.laid k c new)
def Inv.write(I:Inv X pins σ H s)(c:Mut (H x))(d:e=x\/H e∣.own x)(k:∀b u,b≠e->s.heap.get? b∣u->h'.get? b∣u)(a:∃u,h'.get? e∣u)
 (new:cF X.prog X.w (upd H x o) h' x o):Inv X pins σ (upd H x o) {s with heap:=h',toks:=t'}:=I.un (Un.write c d k a) (I.hok.write c d k a new)
def Inv.pins_of(I:Inv X pins σ H s)(h:∀p∈a,s.heap.get? p.1∣p.2/\H p.1=none/\p.1≠X.env.locals/\p.1∉X.fs/\∀v,p.2.data≠ .cell v):Inv X a σ H s:=
 %[I.ok,I.os,I.bare,I.base,I.loc,I.cell,I.free,I.freeC,λp b=>(Xl b).elim (λz=>I.pin p (Ys _ z)) (h p),I.hok|I.len]
def fK{N:ZB}(c:N.Nodup){i j:Nat}{x:Str}(a:N[i]?∣x)(b:N[j]?∣x):i=j:=by
 have%[f|d]:=Xk a;have%[g|e]:=Xk b;exact(List.getElem_inj c).mp (d.trans e.symm)
def yC{A:Around}{E:ZD}{i:Nat}{x:Str}{v:V}{u:Value}{Q:Unit->Shared->Prop}(I:Inv X pins σ H s)(hN:X.N.Nodup)(hi:X.N[i]?∣x)(B:Loc X.env.scope x)(r:aN v u)
 (h:∀s',Inv X pins (σ.set i (some v)) H s'->(∃a,SameBut a s.heap s'.heap/\(a=X.env.locals\/X.env.cells.lookup x∣a))->Q () s') (hf:X.fn x=true\/X.env.scope.names.lookup x∣.local):wpAny M A (storeName X.env x u) Q E s:=by
 have%[m,hn|hl]:=id I.loc;have J:i<σ.length:=I.len▸(Xk hi).1;have cne:=I.cne;have g:∀{a:Addr} {h':Heap},(∃o,s.heap.get? a∣o/\H a=none)->SameBut a s.heap h'->HOk X.prog X.w H h':=λ{a h'} ha f b ob e=>by
  have%[_,_|C]:=ha;refine(I.hok b ob e).stay (λc w' w q=>(f.2 c ?_).trans q) (λ_ q=>q) λ_ _ q=>q
  rintro rfl;rcases w with rfl|w
  .rw[C]at e;cases e
  .rw[C]at w;cases w
 rcases B with L|L
 .refine wpAny_storeName_local L hn (λh' ae f=>?_) (by rw[I.ok.kind];rfl);have%[oL,_,_,ag|_]:=id hn;refine h _ %[I.ok,I.os,I.bare,%[λb o e n N B=>?_,λb o e n N B=>?_,I.base.free,λb o e B=>?_,I.base.tups,I.base.frzs|I.base.tbls],%[_,ae|λj y v' l G e3=>?_],λy c e=>?_,I.free,I.freeC,λp hp=>?_,g %[oL,ag|I.free] f|by simpa using I.len] %[_,f|.inl rfl]
  .exact(f.2 b (Zs (Zg (Zu e) I.ok.above))).trans (I.base.keep b o e n N B)
  .have%[sl|l]:=I.base.slot b o e n N B;exact%[sl|(f.2 b (Zs (Zg (Zu e) I.ok.above))).trans l]
  .have%[o'|l]:=I.base.there b o e B;exact%[o'|(f.2 b (Zs (Zg (Zu e) I.ok.above))).trans l]
  .by_cases O:j=i
   .subst O;rw[hi]at l;cases l;rw[List.getElem?_set_self J]at G;cases G;exact%[u,r|.inl %[L|by simp]]
   .rw[List.getElem?_set_ne (Ne.symm O)]at G;have%[u',r'|q]:=hl j y v' l G e3;refine%[u',r'|?_];rcases q with⟨k,e⟩|⟨k,c,e,z⟩
    .refine .inl %[k|?_];have:y≠x:=λe=>O (fK hN l (e▸hi))
     simp[this,e]
    .exact .inr %[k,c,e|z.sameBut f (cne y c e)]
  .have%[w'|z]:=I.cell y c e;exact%[w'|z.sameBut f (cne y c e)]
  .have%[e,n,ne,nf|d]:=I.pin p hp;exact%[(f.2 p.1 ne).trans e,n,ne,nf|d]
 .have T:X.fn x=true:=by
   rcases hf with z|z
   .exact z
   .rw[z]at L;cases L
  have%[c|w]:=I.ok.has x (.inl L);have%[w'|z]:=I.cell x c w;refine wpAny_storeName_cell I.ok.kind L w z (λh' U f=>?_);have%[oc,Y|ab]:=id z;refine h _ %[I.ok,I.os,I.bare,%[λb o e n N B=>?_,λb o e n N B=>?_,I.base.free,λb o e B=>?_,I.base.tups,I.base.frzs|I.base.tbls],%[m,hn.sameBut f (Ne.symm (cne x c w))|λj y v' l G e3=>?_],λy c' e=>?_,I.free,I.freeC,λp hp=>?_,g %[oc,Y|I.freeC x c w] f|by simpa using I.len] %[c,f|.inr w]
  .exact(f.2 b (Zs (Zg (Zu e) (I.ok.cab x c T w)))).trans (I.base.keep b o e n N B)
  .have%[sl|l]:=I.base.slot b o e n N B;exact%[sl|(f.2 b (Zs (Zg (Zu e) (I.ok.cab x c T w)))).trans l]
  .have%[o'|l]:=I.base.there b o e B;exact%[o'|(f.2 b (Zs (Zg (Zu e) (I.ok.cab x c T w)))).trans l]
  .by_cases O:j=i
   .subst O;rw[hi]at l;cases l;rw[List.getElem?_set_self J]at G;cases G;exact%[u,r|.inr %[.inl L,c,w|U]]
   .rw[List.getElem?_set_ne (Ne.symm O)]at G;have%[u',r'|q]:=hl j y v' l G e3;refine%[u',r'|?_];rcases q with q|⟨k,c',e,z'⟩
    .exact .inl q
    .refine .inr %[k,c',e|z'.sameBut f ?_];rintro rfl;exact O (fK hN l (I.ok.inj _ _ _ e w▸hi))
  .by_cases ac:c'=c
   .subst ac;exact%[_|U]
   .have%[w2|z2]:=I.cell y c' e;exact%[w2|z2.sameBut f ac]
  .have%[e,n,ne,nf|d]:=I.pin p hp;refine%[(f.2 p.1 ?_).trans e,n,ne,nf|d];intro q;rw[q,Y]at e;exact d w' ((Za e)▸ab)
def mR(I:Inv X pins σ H s)(a:X.N.Nodup)(hi:X.N[i]?∣x)(b:Loc X.env.scope x)(r:aN v u)
 (h:∀s',Inv X pins (σ.set i (some v)) H s'->Q () s') (c:X.fn x=true\/X.env.scope.names.lookup x∣.local):wpAny M A (storeName X.env x u) Q E s:=
 yC I a hi b r (λs' d _=>h s' d) c
def Inv.call'(I:Inv X pins σ H s)(e:s'.os=s.os)(u:Un (frs X.stack) ch H H' s.heap s'.heap)(a:HOk X.prog X.w H' s'.heap)(f:AllBare s'.gens)
 (d:∀b∈ch,(b∈X.ex\/X.s₀.heap.objs.size<=b)/\b≠X.env.locals/\(∀x c,X.env.cells.lookup x∣c->c≠b)/\∀p∈X.pn++pins,p.1≠b):Inv X pins σ H' s':=by
 have%[h',g',d',t'|g]:=s';subst e;exact I.call u a f d
end
noncomputable abbrev XK:=Value->ZI->Hp->Prop
noncomputable abbrev St:=List (Option V)
noncomputable abbrev VK:=V->Hp->Prop
noncomputable abbrev TE:=St->Hp->VK->Prop
noncomputable abbrev TT:=St->Hp->(Bool->Hp->Prop)->Prop
noncomputable abbrev TA:=St->Hp->(List V->Hp->Prop)->Prop
structure jG where
 nx:St->Hp->Prop
 rt:VK
 bk:St->Hp->Prop:=λ_ _=>False
 ct:St->Hp->Prop:=λ_ _=>False
noncomputable abbrev TS:=jG->St->Hp->Prop
abbrev EP(X:Cx)(pins:ZE)(b:St)(Q:VK)(u:Value)(s':Shared):Prop:=∃v a,Inv X pins b a s'/\aN v u/\Q v a
abbrev TP(X:Cx)(pins:ZE)(c:St)(Q:Bool->Hp->Prop)(b:Bool)(s':Shared):Prop:=∃a,Inv X pins c a s'/\Q b a
abbrev AP(X:Cx)(pins:ZE)(b:St)(Q:List V->Hp->Prop)(us:ZF)(s':Shared):Prop:=∃vs a,Inv X pins b a s'/\aJ vs us/\Q vs a
abbrev SP(X:Cx)(pins:ZE)(D:jG)(f:Flow)(s':Shared):Prop:=
 match f with
 | .next=>∃a b,Inv X pins a b s'/\D.nx a b
 | .brk=>∃a b,Inv X pins a b s'/\D.bk a b
 | .cont=>∃a b,Inv X pins a b s'/\D.ct a b
 | .ret u=>∃v a b,Inv X pins a b s'/\aN v u/\D.rt v b
abbrev PE(X:Cx)(e:Expr)(t:TE):Prop:=
 ∀pins s (a:St) H Q,Inv X pins a H s->t a H Q->(X⁻¹) (eval e X.env) (EP X pins a Q) X.xe s
abbrev PT(X:Cx)(e:Expr)(t:TT):Prop:=
 ∀pins s (a:St) H Q,Inv X pins a H s->t a H Q->(X⁻¹) (isTrue e X.env (eval e X.env)) (TP X pins a Q) X.xe s
abbrev PW(X:Cx)(e:Expr)(t:TT):Prop:=
 ∀a pins s (b:St) H Q,Inv X pins b H s->t b H Q->(X⁻¹) (isTrue e X.env a) (TP X pins b Q) X.xe s
def PW.pt{X:Cx}(h:PW X e t):PT X e t:=h _
abbrev PA(X:Cx)(es:List Expr)(t:TA):Prop:=
 ∀pos pins s (a:St) H Q,Inv X pins a H s->t a H Q->(X⁻¹) (spliced (backTo pos (starEach es X.env))) (AP X pins a Q) X.xe s
abbrev PS(X:Cx)(st:Stmt)(t:TS):Prop:=
 ∀pins s (a:St) H D,Inv X pins a H s->t D a H->(X⁻¹) (exec st X.env) (SP X pins D) X.xe s
abbrev PSs(X:Cx)(st:List Stmt)(t:TS):Prop:=
 ∀pins s (a:St) H D,Inv X pins a H s->t D a H->(X⁻¹) (execs st X.env) (SP X pins D) X.xe s
def thn{b:Type}{t:Sem b}{Q c:b->Shared->Prop}{M:Model}{A:Around}{E:ZD}{s:Shared}(h:wpAny M A t Q E s)(d:∀a s,Q a s->c a s):wpAny M A t c E s:=wpAny_mono h d λ_ _ x=>x
def thP{c d:Type}{t:Sem c}{X:Cx}{pins:ZE}{e:St}{R:d->c->Prop}{Q:d->Hp->Prop}{f:c->Shared->Prop}{M:Model}{A:Around}{E:ZD}{s:Shared}(h:wpAny M A t (λa s=>∃v b,Inv X pins e b s/\R v a/\Q v b) E s)(g:∀a s v b,Inv X pins e b s->R v a->Q v b->f a s):wpAny M A t f E s:=wpAny_mono h (λa s ⟨v,b,i,r,q⟩=>g a s v b i r q) λ_ _ x=>x
def thT{c:Type}{t:Sem c}{X:Cx}{pins:ZE}{d:St}{Q:c->Hp->Prop}{e:c->Shared->Prop}{M:Model}{A:Around}{E:ZD}{s:Shared}(h:wpAny M A t (λa s=>∃b,Inv X pins d b s/\Q a b) E s)(f:∀a s b,Inv X pins d b s->Q a b->e a s):wpAny M A t e E s:=wpAny_mono h (λa s ⟨b,i,q⟩=>f a s b i q) λ_ _ x=>x
section
variable{X:Cx}
abbrev asI(x:V)(f:Int->Prop):Prop:=match x with| .int i=>f i|_=>False
abbrev asB(x:V)(f:Bool->Prop):Prop:=match x with| .bl i=>f i|_=>False
abbrev asR(x:V)(f:Addr->Prop):Prop:=match x with| .ref i=>f i|_=>False
def GP:asI (.int i) f=f i:=rfl
def GQ:asB (.bl i) f=f i:=rfl
def GR:asR (.ref i) f=f i:=rfl
def ir{x:V}{f:Int->Prop}(h:asI x f):∃i,x= .int i/\f i:=by
 cases x<;> first|exact⟨_,rfl,h⟩|exact h.elim
def pY{x:V}{f:Bool->Prop}(h:asB x f):∃i,x= .bl i/\f i:=by
 cases x<;> first|exact⟨_,rfl,h⟩|exact h.elim
def dZ{x:V}{f:Addr->Prop}(h:asR x f):∃i,x= .ref i/\f i:=by
 cases x<;> first|exact⟨_,rfl,h⟩|exact h.elim
def GS:asI x f=∃i,x= .int i/\f i:=propext %[ir|λ⟨_,e,q⟩=>by subst e;exact q]
def GT:asB x f=∃i,x= .bl i/\f i:=propext %[pY|λ⟨_,e,q⟩=>by subst e;exact q]
def GU:asR x f=∃i,x= .ref i/\f i:=propext %[dZ|λ⟨_,e,q⟩=>by subst e;exact q]
abbrev pj:Nat->TE
 | 0,some v::_,H,Q=>Q v H
 | i+1,_::a,H,Q=>pj i a H Q
 | _,_,_,_=>False
def EV:pj 0 (some v::a) H Q=Q v H:=rfl
def EW:pj (i+1) (o::a) H Q=pj i a H Q:=rfl
def z9:∀{i:Nat} {a:St},pj i a H Q->∃v,a[i]?∣some v/\Q v H
 | 0,some v::_,h=>%[v,rfl|h]
 | 0,none::_,h=>h.elim
 | 0,[],h=>h.elim
 | _+1,[],h=>h.elim
 | i+1,_::a,h=>z9 (i:=i) h
abbrev tC(v:V):TE:=λ_ H Q=>Q v H
def Aa(n:X.N[i]?∣x)(o:Vis X.env.scope x)(f:(x==("__debug__":Str))=false)(g:(x==("__classdict__":Str))=false):PE X (.Name x pos) (pj i):=by
 intro pins s p H Q I h;have%[v,e|h]:=z9 h;have%[m,q|w]:=I.loc;have%[u,r|l]:=w i x v n e o;have b:EP X pins p Q u s:=%[v,H,I,r|h]
 rcases l with⟨d,y⟩|⟨d,c,j,a⟩
 .exact wpAny_Name (wpAny_loadName_local I.ok.kind d q y b) f
 .rcases d with d|d
  .exact wpAny_Name (wpAny_loadName_cell I.ok.kind d j a b) f
  .exact wpAny_Name (wpAny_loadName_free I.ok.kind d j a b g) f
def EX{i j pos}:PE X (.Constant (.int i) j pos) (tC (.int i)):=λ_ _ _ H _ I h=>wpAny_Constant_int %[.int i,H,I.tok _,%[_|rfl]|h]
def GV{b j pos}:PE X (.Constant (.bool b) j pos) (tC (.bl b)):=λ_ _ _ H _ I h=>Constant_bool %[.bl b,H,I,rfl|h]
def EY{j pos}:PE X (.Constant .none j pos) (tC .non):=λ_ _ _ H _ I h=>Constant_none %[.non,H,I,rfl|h]
def EZ{x j pos}:PE X (.Constant (.str x) j pos) (tC (.str x)):=λ_ _ _ H _ I h=>Calls.Constant_str %[.str x,H,I.tok _,%[_|rfl]|h]
abbrev Gl(X:Cx)(x:Str):Prop:=X.env.kindOf x∣.globalImplicit
def rO(I:Inv X pins d H s)(a:Gl X x)(b:X.mg x∣u)(h:Q u s)
 (c:(x==("__debug__":Str))=false):(X⁻¹) (eval (.Name x pos) X.env) Q E s:=
 Calls.Name_function_global I.ok.kind a (Calls.loadGlobal_global (I.ok.glob▸I.mod.glob.keeps I.bk) b h) c
def gj(I:Inv X pins i H s)(a:Gl X x)(b:X.mg x=none)(c:bootBuiltins x∣u)(h:Q u s)
 (d:x≠"__name__":=by decide) (e:(x==("__debug__":Str))=false:=by decide):(X⁻¹) (eval (.Name x pos) X.env) Q E s:=by
 have%[j,f|g]:=I.mod.blt;exact Calls.Name_function_global I.ok.kind a (Calls.loadGlobal_builtin (I.ok.glob▸I.mod.glob.keeps I.bk) b (I.ok.blt▸f.keeps I.bk) ((g x d).trans c) h) e
def CF(a:Gl X x)(b:X.mg x∣u)(r:aN v u)(c:(x==("__debug__":Str))=false):PE X (.Name x pos) (tC v):=
 λ_ _ _ H _ I h=>rO I a b %[v,H,I,r|h] c
def CG(a:Gl X x)(b:X.mg x=none)(c:bootBuiltins x∣u)(r:aN v u)(d:x≠"__name__")(e:(x==("__debug__":Str))=false):PE X (.Name x pos) (tC v):=
 λ_ _ _ H _ I h=>gj I a b c %[v,H,I,r|h] d e
variable{a b:Expr}{ta tb:TE}{pos:Pos}
abbrev PC(X:Cx)(op:CmpOp)(a b:Expr)(t:TE):Prop:=
 ∀pins s (e:St) H Q,Inv X pins e H s->t e H Q->
  (X⁻¹) (eval a X.env) (λv c=>(X⁻¹) (eval b X.env) (λu d=>(X⁻¹) (compareOp op v u) (EP X pins e Q) X.xe d) X.xe c) X.xe s
def GW(b:Expr)(h:op≠ .In)(e:op≠ .NotIn):behindInMarks op b=false:=by
 have c:(op==CmpOp.In)=false:=by lia
 have d:(op==CmpOp.NotIn)=false:=by lia
 cases b<;> simp[behindInMarks,c,d]
abbrev tB(t:TE):TT:=λd H Q=>t d H λx e=>asB x λc=>Q c e
def E4(h:PC X op a b t)(c:behindInMarks op b=false):PE X (.Compare a [op] [b] pos) t:=λpins s d H Q I hw=>wpAny_Compare1 (h pins s d H Q I hw) c
def Ab{op:CmpOp}(h:PC X op a b t)(e:behindInMarks op b=false):PT X (.Compare a [op] [b] pos) (tB t):=by
 intro pins s f H Q I hw;refine wpAny_isTrue_Compare1 (thn (h pins s f H _ I hw) λv n e=>thn e λu o g=>thn g λc p ⟨x,i,j,l,m⟩=>?_) e;have%[d,rfl|q]:=pY m;cases l;exact wpAny_truthy_bool %[i,j|q]
variable{tA tB':TT}{rest:List Expr}
abbrev CH(t u:TT):TT:=λd H Q=>t d H λc e=>if c=true then u d e Q else Q false e
abbrev tOr(t u:TT):TT:=λd H Q=>t d H λc e=>if c=true then Q true e else u d e Q
abbrev E5(t:TT):TT:=λd H Q=>t d H λc e=>Q (!c) e
def CI(d:PT X a tA):PW X (.BoolOp .And [a] pos) tA:=by
 intro g pins s f H Q I h;refine isTrue_and (thn (d pins s f H Q I h) λc i e=>?_);cases c with
 | true=>exact isTrue_and_nil e
 | false=>exact e
def E6(d:PT X a tA):PW X (.BoolOp .Or [a] pos) tA:=by
 intro g pins s f H Q I h;refine isTrue_or (thn (d pins s f H Q I h) λc i e=>?_);cases c with
 | false=>exact isTrue_or_nil e
 | true=>exact e
def E7(i:PT X a tA)(j:PW X (.BoolOp .And (b::rest) pos) tB'):PW X (.BoolOp .And (a::b::rest) pos) (CH tA tB'):=by
 intro l pins s d H Q I h;refine isTrue_and (thT (i pins s d H _ I h) λc m e f g=>?_);cases c with
 | true=>exact j l pins m d e Q f g
 | false=>exact%[e,f|g]
def GX(i:PT X a tA)(j:PW X (.BoolOp .Or (b::rest) pos) tB'):PW X (.BoolOp .Or (a::b::rest) pos) (tOr tA tB'):=by
 intro l pins s d H Q I h;refine isTrue_or (thT (i pins s d H _ I h) λc m e f g=>?_);cases c with
 | true=>exact%[e,f|g]
 | false=>exact j l pins m d e Q f g
def E8(c:PT X a tA):PT X (.UnaryOp .Not a pos) (E5 tA):=by
 intro pins s d H Q I h;exact isTrue_not (c pins s d H _ I h)
abbrev Ac(ta tb:TE):TE:=λd H Q=>ta d H λx e=>asB x λc=>if c=true then tb d e Q else Q (.bl false) e
abbrev E9(ta tb:TE):TE:=λd H Q=>ta d H λx e=>asB x λc=>if c=true then Q (.bl true) e else tb d e Q
def Fa{op}(h:PE X a t):PE X (.BoolOp op [a] pos) t:=λpins s c H Q I hw=>BoolOp_one (h pins s c H Q I hw)
def Fb(i:PE X a ta)(j:PE X (.BoolOp .And (b::rest) pos) tb):PE X (.BoolOp .And (a::b::rest) pos) (Ac ta tb):=by
 intro pins s e H Q I h;refine BoolOp_and (thP (i pins s e H _ I h) λv l x f g m d=>?_);have%[c,rfl|d]:=pY d;cases m;refine wpAny_truthy_bool ?_;cases c with
 | true=>exact j pins l e f Q g d
 | false=>exact%[.bl false,f,g,ρ|d]
def GY(i:PE X a ta)(j:PE X (.BoolOp .Or (b::rest) pos) tb):PE X (.BoolOp .Or (a::b::rest) pos) (E9 ta tb):=by
 intro pins s e H Q I h;refine BoolOp_or (thP (i pins s e H _ I h) λv l x f g m d=>?_);have%[c,rfl|d]:=pY d;cases m;refine wpAny_truthy_bool ?_;cases c with
 | false=>exact j pins l e f Q g d
 | true=>exact%[.bl true,f,g,ρ|d]
end
abbrev SqL(K:ZA)(H:Hp)(a:Addr)(xs:List V):Prop:=
 Rd H a (.lst xs)\/
  ∃o its n,K.lookup a∣o/\o.cls= .type "list"/\o.dict=none/\o.data= .seq its n/\its.size<=sizeLine/\aJ xs its.toList
abbrev SqT(K:ZA)(H:Hp)(a:Addr)(xs:List V):Prop:=
 Rd H a (.tup xs)\/
  ∃o its n,K.lookup a∣o/\o.cls= .type "tuple"/\o.data= .seq its n/\its.size<=sizeLine/\aJ xs its.toList
abbrev absV:Value->Option V
 | .none=>some .non
 | .bool b=>some (.bl b)
 | .int i _=>some (.int i)
 | .str x _=>some (.str x)
 | .bytes b _=>some (.byt b)
 | .float b _=>some (.flt b)
 | .ref a=>some (.ref a)
 | .type n=>some (.ty n)
 | _=>none
def aN.abs(r:aN x u):absV u∣x:=by
 cases x with
 | non=>cases r;rfl
 | bl _=>cases r;rfl
 | int _=>have%[t|rfl]:=r;rfl
 | str _=>have%[t|rfl]:=r;rfl
 | byt _=>have%[t|rfl]:=r;rfl
 | flt _=>have%[t|rfl]:=r;rfl
 | ref _=>cases r;rfl
 | ty _=>cases r;rfl
def aN.inj(r:aN x u)(q:aN y u):x=y:=Za (r.abs.symm.trans q.abs)
def aJ.inj:∀{xs ys:List V} {us:ZF},aJ xs us->aJ ys us->xs=ys
 | _,_,_,.nil,.nil=>rfl
 | _,_,_,.cons r t,.cons a t'=>by rw[r.inj a,aJ.inj t t']
section
#version
variable{a:Addr}{xs ys:List V}
def SqL.of{K:ZA}(h:H a<*xs):SqL K H a xs:= .inl (.inl h)
def SqT.of{K:ZA}(h:H a&&&xs):SqT K H a xs:= .inl (.inl h)
def Inv.list(I:Inv X pins σ H s)(h:SqL X.K H a xs):∃its:ZF,aJ xs its/\PlainL s.heap a its.toArray/\ ~~~xs<=sizeLine:=by
 rcases h with h|⟨o,its,n,b,c,d,f,g,r⟩
 .have%[z,its,n,r|e]:=h.ok I.hok;exact%[its,r,%[_,n,e,ρ,ρ|ρ]|z]
 .refine%[its.toList,r,%[o,n,I.kIn a o b,c,d|f]|?_];have e:= ~~~r
  simp_all
def Inv.tuple(I:Inv X pins σ H s)(h:SqT X.K H a xs):∃its:ZF,aJ xs its/\IsTup s.heap a its.toArray/\ ~~~xs<=sizeLine:=by
 rcases h with h|⟨o,its,n,b,c,d,f,r⟩
 .have%[z,its,r|p]:=h.ok I.hok;exact%[its,r,p|z]
 .refine%[its.toList,r,%[o,I.kIn a o b,c,n|d]|?_];have e:= ~~~r;simp only[Zb]at e
  lia
def Inv.list_inj(I:Inv X pins σ H s)(h:SqL X.K H a xs)(h':SqL X.K H a ys):xs=ys:=by
 have%[its,r,%[o,n,e,_,_|d]|_]:=I.list h;have%[its',c,%[g,i,b,_,_|d']|_]:=I.list h';rw[e]at b;cases b;rw[d]at d';injection d' with f _
 have:=congrArg Array.toList f;subst this;exact r.inj c
def Inv.tuple_inj(I:Inv X pins σ H s)(h:SqT X.K H a xs)(h':SqT X.K H a ys):xs=ys:=by
 have%[its,r,%[o,e,_,n|d]|_]:=I.tuple h;have%[its',c,%[g,b,_,i|d']|_]:=I.tuple h';rw[e]at b;cases b;rw[d]at d';injection d' with f _
 have:=congrArg Array.toList f;subst this;exact r.inj c
end
noncomputable abbrev Cx.wish(X:Cx)(E:ZD):Cx:={X with xe:=E}
noncomputable abbrev Cx.nox(X:Cx):Cx:=X.wish λ_ _=>False
def Cx.Ok.wish{X:Cx}(ok:X.Ok)(E:ZD):(X.wish E).Ok:=
 %[ok.mod,ok.kind,ok.glob,ok.blt,ok.above,ok.inj,ok.has,ok.cab,ok.hd,ok.frames,ok.stk,ok.exf,ok.bs,ok.bsz,ok.noex,ok.exfs,ok.funs|ok.frf]
def Cx.Ok.unwish{X:Cx}{E:ZD}(ok:(X.wish E).Ok):X.Ok:=
 %[ok.mod,ok.kind,ok.glob,ok.blt,ok.above,ok.inj,ok.has,ok.cab,ok.hd,ok.frames,ok.stk,ok.exf,ok.bs,ok.bsz,ok.noex,ok.exfs,ok.funs|ok.frf]
section
#version
variable{E:ZD}
def Inv.wish(I:Inv X pins σ H s)(E:ZD):Inv (X.wish E) pins σ H s:=%[I.ok.wish E,I.os,I.bare,I.base,I.loc,I.cell,I.free,I.freeC,I.pin,I.hok|I.len]
def Inv.unwish(I:Inv (X.wish E) pins σ H s):Inv X pins σ H s:=%[I.ok.unwish,I.os,I.bare,I.base,I.loc,I.cell,I.free,I.freeC,I.pin,I.hok|I.len]
def SP.unwish{D:jG}{f:Flow}{s':Shared}(h:SP (X.wish E) pins D f s'):SP X pins D f s':=by
 cases f with
 | next=>have%[a,b,I|q]:=h;exact%[a,b,I.unwish|q]
 | brk=>have%[a,b,I|q]:=h;exact%[a,b,I.unwish|q]
 | cont=>have%[a,b,I|q]:=h;exact%[a,b,I.unwish|q]
 | ret u=>have%[v,a,b,I,r|q]:=h;exact%[v,a,b,I.unwish,r|q]
def PSs.nox{st:List Stmt}(h:PSs X.nox st t):PSs X st t:=λpins s σ H D I hw=>
 wpAny_mono (h pins s σ H D (I.wish _) hw) (λ_ _ q=>q.unwish) λ_ _ z=>False.elim z
end
section
variable{X:Cx}{st:Stmt}{rest:List Stmt}{t u:TS}{e:Expr}{te:TE}{pos:Pos}
abbrev Ae:TS:=λD a H=>D.nx a H
abbrev aZ(t u:TS):TS:=λD a H=>t {D with nx:=u D} a H
def CJ:PSs X [] Ae:=λ_ _ a H _ I h=>wpAny_execs_nil %[a,H,I|h]
def Af(b:PS X st t)(c:PSs X rest u):PSs X (st::rest) (aZ t u):=by
 intro pins s d H D I h;refine wpAny_execs_cons (thn (b pins s d H _ I h) λf g q=>?_);cases f with
 | next=>
   have%[a,i,j|q]:=q;exact c pins g a i D j q
 | ret v=>exact q
 | brk=>exact q
 | cont=>exact q
def CL(a:PS X st t):PSs X [st] t:=by
 intro pins s b H D I h;refine wpAny_execs_cons (thn (a pins s b H D I h) λf c q=>?_);cases f with
 | next=>exact wpAny_execs_nil q
 | ret v=>exact q
 | brk=>exact q
 | cont=>exact q
def Inv.quiet{pins:List _}{a:St}{H:Hp}{s:Shared}(I:Inv X pins a H s):interactive X.env=false:=by simp[interactive,I.ok.kind]
abbrev jH(te:TE):TS:=λD a H=>te a H λ_ b=>D.nx a b
def CM(b:PE X e te)(c:swapsWith e none pos.line X.env=pure false):PS X (.Expr e pos) (jH te):=by
 intro pins s a H D I h;exact wpAny_Expr_any (thP (b pins s a H _ I h) λv i x d f j g=>%[a,d,f|g]) I.quiet c
abbrev fM(te:TE):TS:=λD a H=>te a H D.rt
def Fc(b:PE X e te):PS X (.Return (some e) pos) (fM te):=by
 intro pins s a H D I h;exact wpAny_Return_some (thP (b pins s a H _ I h) λv i x c d f g=>%[x,a,c,d,f|g])
abbrev iu(c:TT)(t u:TS):TS:=λD a H=>c a H λb d=>if b=true then t D a d else u D a d
def GZ{c:Expr}{a b:List Stmt}(m:PT X c n)(o:PSs X a t)(p:PSs X b u):PS X (.If c a b pos) (iu n t u):=by
 intro pins s f H D I h;refine wpAny_If (thT (m pins s f H _ I h) λd g i j l=>?_);cases d with
 | true=>exact o pins g f i D j l
 | false=>exact p pins g f i D j l
abbrev Ag:TS:=λ_ _ _=>False
def Ah:PS X st Ag:=λ_ _ _ _ _ _ h=>h.elim
end
noncomputable abbrev TG:=V->St->Hp->(St->Hp->Prop)->Prop
noncomputable abbrev TGs:=List V->St->Hp->(St->Hp->Prop)->Prop
abbrev PG(X:Cx)(a:Expr)(t:TG):Prop:=
 ∀pins s (c:St) H v u Q,Inv X pins c H s->aN v u->t v c H Q->
  (X⁻¹) (assign a X.env u) (λ_ s'=>∃b d,Inv X pins b d s'/\Q b d) X.xe s
abbrev PGs(X:Cx)(ts:List Expr)(t:TGs):Prop:=
 ∀pins s (b:St) H vs us Q,Inv X pins b H s->aJ vs us->t vs b H Q->
  (X⁻¹) (assignInOrder ((assignEach ts X.env)\2) us) (λ_ s'=>∃a c,Inv X pins a c s'/\Q a c) X.xe s
section
variable{X:Cx}{pos:Pos}
abbrev jc(i:Nat):TG:=λv a H Q=>Q (a.set i (some v)) H
def CO(a:X.N.Nodup)(hi:X.N[i]?∣x)(b:Loc X.env.scope x)(c:X.fn x=true\/X.env.scope.names.lookup x∣.local):PG X (.Name x pos) (jc i):=by
 intro pins s e H v u Q I r h;exact wpAny_assign_Name (mR I a hi b r (λs' d=>%[_,H,d|h]) c)
abbrev Fd:TGs:=λvs a H Q=>vs=[]/\Q a H
abbrev Ai(t:TG)(u:TGs):TGs:=λvs b H Q=>∃v r,vs=v::r/\t v b H λa c=>u r a c Q
def CP:PGs X [] Fd:=by
 intro pins s a H vs us Q I r h;have%[e|h]:=h;exact assignInOrder_nil %[a,H,I|h]
def Ak{e:Expr}{u:TGs}(b:PG X e t)(c:PGs X es u)
 (d:(assignEach (e::es) X.env)\2=assign e X.env::(assignEach es X.env)\2):PGs X (e::es) (Ai t u):=by
 intro pins s f H vs us Q I r h;have%[v,n,g|h]:=h;subst g;cases r with
 | cons r rr=>
   rw[d];exact assignInOrder_cons (thn (b pins s f H _ _ _ I r h) λ_ i ⟨a,j,l,m⟩=>c pins i a j _ _ Q l rr m)
abbrev CQ(K:ZA)(n:Nat)(t:TGs):TG:=λv b H Q=>asR v λa=>∃xs,SqT K H a xs/\ ~~~xs=n/\t xs b H Q
def Fe(f:X.calm=true)(h:PGs X es t)
 (g: ~~~(assignEach es X.env)=n) (c:(assignEach es X.env).findIdx? (·.1)=none):PG X (.Tuple es k pos) (CQ X.K n t):=by
 intro pins s i H v u Q I r hw;have%[a,j,xs,l,m|hw]:=dZ hw;clear ‹CQ _ _ _ _ _ _ _›;subst j;cases r;have%[its,d,p|w]:=I.tuple l;exact assign_Tuple_tuple (I.ok.hd f) p (by simp[g,<-m,~~~d]) c λh' q=>h pins _ i H xs _ Q (I.kept λb o e=>q b o (Zs (Zu e)) e) (d) hw
abbrev pq(b:TE)(g:TG):TS:=λD a H=>b a H λx c=>g x a c D.nx
def Ff{a e:Expr}{g:TG}(c:PE X e d)(f:PG X a g)(i:swapsWithSole [a] e pos.line X.env=pure false)(hw:swappedStores [a] e X.env=pure none)
 (j:(assignEach [a] X.env)\2=[assign a X.env]):PS X (.Assign [a] e pos) (pq d g):=by
 intro pins s b H D I h;refine wpAny_Assign_stores (thP (c pins s b H _ I h) λv l x m n o p=>?_) i hw;rw[j];exact thn (f pins l b m x v _ n o p) λ_ r q=>q
def Al{i:Nat}{x:Str}{e:Expr}(b:X.N.Nodup)(hi:X.N[i]?∣x)(c:Loc X.env.scope x)(d:PE X e f)(g:swapsWith e (some (.Name x a)) pos.line X.env=pure false)(j:X.fn x=true\/X.env.scope.names.lookup x∣.local):
 PS X (.Assign [.Name x a] e pos) (pq f (jc i)):=by
 intro pins s l H D I h;exact wpAny_Assign_Name (thP (d pins s l H _ I h) λv r y m n o p=>mR n b hi c o (λu q=>%[_,m,q|p]) j) g
abbrev Am(c:TT)(h:TS):TS:=λD a H=>∃W:Nat->St->Hp->Prop,(∃m,W m a H)/\∀m a H,W m a H->
 c a H λb e=>if b=true then∃N:St->Hp->Prop,(∀d f,N d f->∃g,g<m/\W g d f)/\h {D with nx:=N,ct:=N,bk:=D.nx} a e else D.nx a e
def Ao(w:PassesOwn (model X.prog X.w) X.A X.env X.xe)(E:PT X c G)(J:PSs X e L):PS X (.While c e [] pos) (Am G L):=by
 intro pins s M H D I h;have%[W,%[O|Q]|g]:=h;refine wpAny_While (codeAny_whileLoop (λn s'=>∃i y,Inv X pins i y s'/\W n i y) ?_ O %[M,H,I|Q]);intro n T %[d,z,U|Y];refine wpAny_passesOwn w (thT (E pins T d z _ U (g n d z Y)) λb s2 A B l=>?_);cases b with
 | true=>
   have%[N,C|l]:=l;refine wpAny_passesOwn w (thn (J pins s2 d A _ B l) λf s3 m=>?_);cases f with
   | next=>
     have%[a,j,o|p]:=m;have%[q,r|u]:=C a j p;exact%[q,r,a,j,o|u]
   | cont=>
     have%[a,j,o|p]:=m;have%[q,r|u]:=C a j p;exact%[q,r,a,j,o|u]
   | brk=>exact m
   | ret v=>exact m
 | false=>
   exact wpAny_execs_nil %[d,A,B|l]
end
structure It where
 go:Nat->Hp->Prop
 yld:Nat->Hp->V->Hp->Prop
 stop:Nat->Hp->Prop
abbrev mf(X:Cx)(pins:ZE)(H:Hp)(b:Addr):Prop:=
 H b=none/\b≠X.env.locals/\b∉X.fs/\(b∈X.ex\/X.s₀.heap.objs.size<=b)/\(∀x c,X.env.cells.lookup x∣c->c≠b)/\∀p∈X.pn++pins,p.1≠b
def Inv.fpOk{X:Cx}(I:Inv X pins h H s)(a:⇑s<=b)(d:f b=none):mf X pins f b:=by
 refine%[d,Yx (Zg I.lt a),I.nofs a,.inr (Yf I.sz a),λx c e z=>?_|λp g z=>?_]
 .have%[v|q]:=I.cell x c e;exact absurd (Zg q.lt (z▸a)) (Xi _)
 .exact absurd (Zg (Zu (I.pin p g).1) (z▸a)) (Xi _)
structure pA (P:Program) (w:World) (K:ZA) (tg:Expr) (J:It) (fp:List Addr) (it:Addr) (tn:Nat->Heap->Prop):Prop where
 mem:it∈fp
 obj:∀i h,tn i h->∀b∈fp,∃o,h.get? b∣o/\∀v,o.data≠ .cell v
 keep:∀i h h',tn i h->(∀b∈fp,∀o,h.get? b∣o->h'.get? b∣o)->tn i h'
 item:∀(X:Cx),X.prog=P->X.w=w->X.K=K->X.calm=true->∀i (pins:ZE) s (σ:St) H (E:ZD),Inv X pins σ H s->(∀b∈fp,mf X pins H b)->tn i s.heap->J.go i H->
  wpAny (model P w) X.A (pyNext (.ref it)) (λr s1=>∃u,r∣u/\
   wpAny (model P w) X.A (letOwnedTupleGo tg (.ref it) u) (λ_ s2=>∃x H',Inv X pins σ H' s2/\aN x u/\J.yld i H x H'/\tn (i+1) s2.heap/\∀b∈fp,H' b=none) E s1) E s
 done:∀X,X.prog=P->X.w=w->X.K=K->X.calm=true->∀i pins s (σ:St) H E,Inv X pins σ H s->(∀b∈fp,mf X pins H b)->tn i s.heap->J.stop i H->
  wpAny (model P w) X.A (pyNext (.ref it)) (λr s1=>r=none/\Inv X pins σ H s1) E s
 self:∀A i s Q E,tn i s.heap->Q (.ref it) s->wpAny (model P w) A (pyIter (.ref it)) Q E s
noncomputable abbrev TI:=St->Hp->(It->Hp->Prop)->Prop
abbrev PIE(X:Cx)(pins:ZE)(h:St)(i:Expr)(R:It->Hp->Prop)(a:Value)(d:Shared):Prop:=
 ∃e f g J c,a= .ref e/\Inv X pins h c d/\pA X.prog X.w X.K i J f e g/\g 0 d.heap/\(∀b∈f,mf X pins c b)/\R J c
abbrev PI(X:Cx)(b iter:Expr)(c:TI):Prop:=
 ∀pins s (a:St) H R,Inv X pins a H s->c a H R->
  (X⁻¹) (eval iter X.env) (λv d=>(X⁻¹) (pyIter v) (PIE X pins a b R) X.xe d) X.xe s
def pZ(b:s.heap.get? c∣o)(d:o.cls= .type n)(e:o.data= .fields vs)
 (f:["enumerate","zip","dict_itemiterator","dict_reverseitemiterator","odict_iterator","itertools.zip_longest","itertools.pairwise"].contains n=false) (a:Q () s):wpAny M A (letOwnedTupleGo g (.ref c) u) Q E s:=by
 cases g<;> first
  | exact Z3 a
  |(cases u<;> first
   | exact Z3 a
   |(refine Z2 (wpAny_load b ?_)
     rw[d,e];show wpAny M A (if(["enumerate","zip","dict_itemiterator","dict_reverseitemiterator","odict_iterator","itertools.zip_longest","itertools.pairwise"].contains n&&vs[0]? ==some _)=true then _ else _) Q E s;rw[if_neg (by intro h;rw[f,Bool.false_and]at h;cases h)];exact Z3 a))
abbrev Itl(K:ZA)(a:Addr):It:=
 ⟨λi H=>∃xs x,SqL K H a xs/\xs[i]?∣x,λi H x b=>b=H/\∀xs,SqL K H a xs->xs[i]?∣x,λi H=>∃xs,SqL K H a xs/\ ~~~xs<=i⟩
abbrev Itt(K:ZA)(a:Addr):It:=
 ⟨λi H=>∃xs x,SqT K H a xs/\xs[i]?∣x,λi H x b=>b=H/\∀xs,SqT K H a xs->xs[i]?∣x,λi H=>∃xs,SqT K H a xs/\ ~~~xs<=i⟩
abbrev Itr(lo:Int)(n:Nat):It:=%[λi _=>i<n,λi H x a=>a=H/\x= .int (lo+i)|λi _=>n<=i]
def p7{P:Program}{K:ZA}(a it:Addr):pA P w K tg (Itl K a) [it] it (λi h=>h.IsListIter it a i) where
 mem:=by simp
 obj:=λi h st b hb=>by
  have e:=↑hb
  subst e;have%[o,e,c|d]:=st;exact%[o,e|λv z=>by rw[d]at z;cases z]
 keep:=λi h h' st k=>st.at λo e=>k it ∅ o e
 item:=by
  intro X hP hw hK hc i pins s σ H E I hf st hg;subst hP hw hK;have%[xs,x,hq|hx]:=hg;have%[its,rv,p|hz]:=I.list hq;have%[u,hu|ru]:=rv.get hx;have%[f0,f1,f2,f3,f4|f5]:=hf it ∅;refine wpAny_pyNext_list_item st p.isList ↑hu λh' st' sb=>?_
  have%[o,e,c|d]:=id st';exact%[u,ρ|pZ e c d (!1) %[x,H,(I.turned (λb o hb e=>(sb.2 b hb).trans e) f0 f1 f3 f4 f5),ru,%[ρ|λys hy=>(I.list_inj hy hq)▸hx],st'|λb hb=>(hf b hb).1]]
 done:=by
  intro X hP hw hK hc i pins s σ H E I hf st hg;subst hP hw hK;have%[xs,hq|hx]:=hg;have%[its,rv,p|hz]:=I.list hq;have%[f0,f1,f2,f3,f4|f5]:=hf it ∅;have hl:= ~~~rv;exact wpAny_pyNext_list_end (I.ok.hd hc) st p.isList (by simp;lia) λh' eb=>%[rfl|I.turned (λb o hb e=>eb b o hb e) f0 f1 f3 f4 f5]
 self:=λ_ _ _ _ _ st h=>wpAny_pyIter_listiter st h
def vM{P:Program}{K:ZA}(a it:Addr):pA P w K tg (Itt K a) [it] it (λi h=>h.IsTupleIter it a i) where
 mem:=by simp
 obj:=λi h st b hb=>by
  have e:=↑hb
  subst e;have%[o,e,c|d]:=st;exact%[o,e|λv z=>by rw[d]at z;cases z]
 keep:=λi h h' st k=>st.at λo e=>k it ∅ o e
 item:=by
  intro X hP hw hK hc i pins s σ H E I hf st hg;subst hP hw hK;have%[xs,x,hq|hx]:=hg;have%[its,rv,p|hz]:=I.tuple hq;have%[u,hu|ru]:=rv.get hx;have%[f0,f1,f2,f3,f4|f5]:=hf it ∅;refine wpAny_pyNext_tuple_item st (p) ↑hu λh' st' sb=>?_
  have%[o,e,c|d]:=id st';exact%[u,ρ|pZ e c d (!1) %[x,H,(I.turned (λb o hb e=>(sb.2 b hb).trans e) f0 f1 f3 f4 f5),ru,%[ρ|λys hy=>(I.tuple_inj hy hq)▸hx],st'|λb hb=>(hf b hb).1]]
 done:=by
  intro X hP hw hK hc i pins s σ H E I hf st hg;subst hP hw hK;have%[xs,hq|hx]:=hg;have%[its,rv,p|hz]:=I.tuple hq;have%[f0,f1,f2,f3,f4|f5]:=hf it ∅;have hl:= ~~~rv;exact wpAny_pyNext_tuple_end (I.ok.hd hc) st (p) (by simp;lia) λh' eb=>%[rfl|I.turned (λb o hb e=>eb b o hb e) f0 f1 f3 f4 f5]
 self:=λ_ _ _ _ _ st h=>wpAny_pyIter_tupleiter st h
def vN{P:Program}{K:ZA}(it:Addr)(lo:Int)(n:Nat):pA P w K tg (Itr lo n) [it] it (λi h=>IsRangeIter h it (lo+(i:Nat)*1) ((n:Int) -(i:Nat)) 1) where
 mem:=by simp
 obj:=λi h st b hb=>by
  simp_all
 keep:=λi h h' st k=>k it ∅ _ st
 item:=by
  intro X hP hw hK hc i pins s σ H E I hf st hg;subst hP hw hK;have%[f0,f1,f2,f3,f4|f5]:=hf it ∅;refine(Walks.range (prog:=X.prog) (w:=X.w) (I.ok.hd hc) it lo 1 n).item i s _ _ hg st λv h' tk hv st' kk=>?_
  have%[t|rfl]:=hv;refine%[_,ρ|pZ st' rfl rfl (!1) %[.int _,H,(I.turned (λb o hb e=>kk b o ↑hb e) f0 f1 f3 f4 f5),%[t|?_],%[ρ|ρ],st'|λb hb=>(hf b hb).1]];rw[Int.mul_one]
 done:=by
  intro X hP hw hK hc i pins s σ H E I hf st hg;have%[f0,f1,f2,f3,f4|f5]:=hf it ∅;exact wpAny_pyNext_range_end (I.ok.hd hc) st (by have:n<=i:=hg;lia) λh' eb=>%[rfl|I.turned (λb o hb e=>eb b o hb e) f0 f1 f3 f4 f5]
 self:=λ_ _ _ _ _ st h=>wpAny_pyIter_rangeiter st h
section
variable{X:Cx}{tg:Expr}
def tQ{R:It->Hp->Prop}{lo hi:Int}(I:Inv X pins c H s)(d: -(2^62)<=lo)(f:lo<2^62)(g: -(2^62)<=hi)(h:hi<2^62)
 (q:R (Itr lo (hi-lo).toNat) H):(X⁻¹) (pyIter (.ref ⇑s)) (PIE X pins c tg R) E {s with heap:=s.heap.push {cls:= .type "range",data:= .fields #[.int lo t,.int hi u,.int 1 v]},toks:=tk}:=by
 refine wpAny_pyIter_range (IsRange.new ..) (small_one d f g h) ?_;have a:Inv X pins c H {s with heap:=s.heap.push {cls:= .type "range",data:= .fields #[.int lo t,.int hi u,.int 1 v]},toks:=tk}:=I.kept λb o e=>Z7 _ e
 refine%[(s.heap.push _).objs.size,[(s.heap.push _).objs.size],_,_,H,ρ,
  a.kept λb o e=>Z7 _ e,vN _ lo _,?_,λb i=>?_|q]
 .have j:lo+((0:Nat))*1=lo:=by simp
  have l:(((hi-lo).toNat)) -((0:Nat))=Builtin.Range.rangeSize lo hi 1:=by rw[rangeSize_one];split<;> lia
  rw[j,l];exact Zj _ rfl
 .have e:b=(s.heap.push {cls:= .type "range",data:= .fields #[.int lo t,.int hi u,.int 1 v]}).objs.size:=↑i
  subst e;exact a.fpOk (Zi _) (a.hok.fresh (Zi _))
abbrev Ap(a:TA):TI:=λb H R=>a b H λvs c=>∃j:Int,vs=[.int j]/\ -(2^62)<=j/\j<2^62/\R (Itr 0 j.toNat) c
abbrev Aq(a:TA):TI:=λb H R=>a b H λvs c=>∃i j:Int,vs=[.int i,.int j]/\(-(2^62)<=i/\i<2^62/\ -(2^62)<=j/\j<2^62)/\R (Itr i (j-i).toNat) c
def yD{a:Expr}(c:Gl X "range")(d:X.mg "range"=none)(f:PA X [a] g)(i:starEach [a] X.env=[(false,eval a X.env)]):PI X tg (.Call (.Name "range" p) [a] [] pos) (Ap g):=by
 intro pins s l H R I h;refine Call_ (gj I c d boot_range (PyProof.Rows.callWith_type1 (thP (f pos pins s l H _ I h) λus u vs v m n b=>?_) i rfl));have%[j,e,b,o|q]:=b;subst e;cases n with
 | cons r rr=>
   cases rr;have%[t|rfl]:=r;exact call_range_1 (tQ m ⋯ ⋯ b o ↑q)
def yE(f:Gl X "range")(g:X.mg "range"=none)(l:PA X [a,b] m)(n:starEach [a,b] X.env=[(false,eval a X.env),(false,eval b X.env)])(c:starEach [b] X.env=[(false,eval b X.env)]):
 PI X tg (.Call (.Name "range" p) [a,b] [] pos) (Aq m):=by
 intro pins s o H R I h;refine Call_ (gj I f g boot_range (PyProof.Rows.callWith_type1 (thP (l pos pins s o H _ I h) λus B vs C u v d=>?_) (by rw[n,c]) (by rw[c];rfl)));have%[i,j,e,%[d,w,y|z]|q]:=d;subst e;cases v with
 | cons r rr=>
   cases rr with
   | cons A rr=>
     cases rr;have%[t|rfl]:=r;have%[t'|rfl]:=A;exact call_range_2 (tQ u d w y z q)
abbrev tR(f:TI)(g:TG)(h:TS):TS:=λD a H=>f a H λJ j=>∃W:Nat->Nat->St->Hp->Prop,(∃m,W 0 m a j)/\∀i m a H,W i m a H->
 (J.stop i H/\D.nx a H)\/(J.go i H/\∃N:St->Hp->Prop,(∀b c,N b c->∃e,e<m/\W (i+1) e b c)/\∀x c,J.yld i H x c->g x a c λd l=>h {D with nx:=N,ct:=N,bk:=D.nx} d l)
abbrev rP(a:List Addr)(h:Heap):ZE:=a.filterMap λb=>(h.get? b).map λo=>(b,o)
def eF(a:b∈c)(e:h.get? b∣o):(b,o)∈rP c h:=mem_filterMap.mpr %[b,a|by rw[e];rfl]
def yG(a:p∈rP c h):p.1∈c/\h.get? p.1∣p.2:=by
 have%[b,d|e]:=mem_filterMap.mp a;cases q:h.get? b with
 | none=>simp_all
 | some o=>
   rw[q]at e;have f:=Za e;subst f;exact%[d|q]
def Inv.pinned(I:Inv X pins g H s)(h:∀b∈a,mf X pins H b)(i:∀b∈a,∃o,s.heap.get? b∣o/\∀v,o.data≠ .cell v):Inv X (pins++rP a s.heap) g H s:=
 I.pins_of λp j=>(Xl j).elim (λz=>I.pin p (Yt _ z)) λz=>by
  have%[c|e]:=yG z;have%[l,m,n|_]:=h p.1 c;have%[o,f|d]:=i p.1 c;rw[e]at f;cases f;exact%[e,l,m,n|d]
def Inv.unpinned(I:Inv X (pins++pl) a H s):Inv X pins a H s:=I.pins_of λp b=>I.pin p (Yt _ (Ys _ b))
def Fg(B:PassesOwn (model X.prog X.w) X.A X.env X.xe)(hc:X.calm=true)(hi:PI X tg iter wi)(hg:PG X tg g)(c:PSs X C tb)
 (hs:∀x,foldedSetIterable iter X.env x=pure x):PS X (.For tg iter C [] pos) (tR wi g tb):=by
 intro pins s σ H D I h;refine wpAny_For (thn (hi pins s σ H _ I h) λv s1 h1=>thn h1 λae s2 h2=>?_) hs;have%[it,O,tn,J,H2,e,I2,T,U,f2,W,%[m0|w0]|E]:=h2;subst e;have j:∀{y:Hp},(∀b∈O,y b=none)->∀b∈O,mf X pins y b:=λhn b c=>%[hn b c|(f2 b c).2]
 refine codeAny_forLoop_any (λn s'=>∃i l y,Inv X pins l y s'/\tn i s'.heap/\(∀b∈O,y b=none)/\W i n l y) ?_ m0 %[0,σ,H2,I2,U,λb c=>(f2 b c).1|w0];intro n s3 %[i,p,Q,I3,G,L|w3];rcases E i n p Q w3 with⟨stop,qn⟩|⟨go,N,hN,step⟩
 .refine wpAny_passesOwn B (thn (T.done X rfl rfl rfl hc i pins s3 p Q X.xe I3 (j L) G stop) λr s4 ⟨Y,I4⟩=>?_);subst Y;exact wpAny_execs_nil %[p,Q,I4|qn]
 .refine wpAny_passesOwn B (thn (T.item X rfl rfl rfl hc i pins s3 p Q X.xe I3 (j L) G go) λr s4 ⟨u,Y,h4⟩=>?_);subst Y;refine wpAny_passesOwn B (thn h4 λ_ s5 ⟨x,H5,I5,r5,y5,A,ab⟩=>wpAny_passesOwn B (thn (hg _ s5 p H5 x u _ (I5.pinned (j ab) (T.obj _ _ A)) r5 (step x H5 y5)) λ_ s6 ⟨ac,H6,I6,q6⟩=>wpAny_passesOwn B (thn (c _ s6 ac H6 _ I6 q6) λf s7 z=>?_)));have again:∀{a:St} {q:Hp},Inv X _ a q s7->N a q->∃m,m<n/\∃i l y,Inv X pins l y s7/\tn i s7.heap/\(∀b∈O,y b=none)/\W i m l y:=λ{a q} w M=>by
   have%[m',hm|w7]:=hN a q M;refine%[m',hm,i+1,a,q,w.unpinned,T.keep _ _ _ A λb c o e=>(w.pin _ (Yt _ (Yt _ (eF c e)))).1,λb c=>?_|w7];have%[o,e|d]:=T.obj _ _ A b c;exact(w.pin _ (Yt _ (Yt _ (eF c e)))).2.1
  cases f with
  | next=>have%[a,q,w|M]:=z;exact again w M
  | cont=>have%[a,q,w|M]:=z;exact again w M
  | brk=>have%[a,q,w|z]:=z;exact%[a,q,w.unpinned|z]
  | ret v=>have%[x7,a,q,w,r7|z]:=z;exact%[x7,a,q,w.unpinned,r7|z]
end
def eG{K:ZA}{g:TG}{l:TS}{D:jG}(Pv:Nat->St->Hp->Prop)(o:Pv 0 b H)(r:∀i b H,i<= ~~~xs->Pv i b H->SqL K H a xs)
 (s:∀i x b H,xs[i]?∣x->Pv i b H->g x b H λc h=>l {D with nx:=Pv (i+1),ct:=Pv (i+1),bk:=D.nx} c h) (u:∀b H,Pv xs.length b H->D.nx b H):
 ∃W:Nat->Nat->St->Hp->Prop,(∃m,W 0 m b H)/\∀i m b H,W i m b H->
  ((Itl K a).stop i H/\D.nx b H)\/((Itl K a).go i H/\∃N:St->Hp->Prop,(∀d f,N d f->∃n,n<m/\W (i+1) n d f)/\∀x f,(Itl K a).yld i H x f->g x b f λc h=>l {D with nx:=N,ct:=N,bk:=D.nx} c h):=by
 refine%[λi m b H=>m= ~~~xs-i/\i<= ~~~xs/\Pv i b H,%[~~~xs,by simp,Xd _|o]|?_];intro i m b H %[rfl,hi|p];have q:=r i b H hi p;by_cases j:i< ~~~xs
 .refine .inr %[%[xs,xs[i],q|by simp],Pv _,λd f v=>%[~~~xs-(i+1),⋯,rfl,j|v]|λx f y=>?_];have%[e|y]:=y;subst e;exact s i x b _ (y xs q) p
 .have e:i= ~~~xs:=by lia
  subst e;exact .inl %[%[xs,q|Zi _]|u b H p]
def cW{lo:Int}{g:TG}{j:TS}{D:jG}(Pv:Nat->St->Hp->Prop)(o:Pv 0 a H)
 (q:∀i a H,i<n->Pv i a H->g (.int (lo+i)) a H λb h=>j {D with nx:=Pv (i+1),ct:=Pv (i+1),bk:=D.nx} b h) (r:∀a H,Pv n a H->D.nx a H):
 ∃W:Nat->Nat->St->Hp->Prop,(∃m,W 0 m a H)/\∀i m a H,W i m a H->
  ((Itr lo n).stop i H/\D.nx a H)\/((Itr lo n).go i H/\∃N:St->Hp->Prop,(∀c d,N c d->∃l,l<m/\W (i+1) l c d)/\∀x d,(Itr lo n).yld i H x d->g x a d λb h=>j {D with nx:=N,ct:=N,bk:=D.nx} b h):=by
 refine%[λi m a H=>m=n-i/\i<=n/\Pv i a H,%[n,by simp,Xd _|o]|?_];intro i m a H %[rfl,hi|p];by_cases f:i<n
 .refine .inr %[f,Pv _,λc d s=>%[n-(i+1),⋯,rfl,f|s]|λx d y=>?_];have%[e|y]:=y;subst e y;exact q i a _ f p
 .have e:i=n:=by lia
  subst e;exact .inl %[Zi _|r a H p]
noncomputable abbrev R2:=V->V->Hp->VK->Prop
abbrev OpR(X:Cx)(f:Value->Value->Sem Value)(r:R2):Prop:=
 ∀pins s (a:St) H x y v u Q,Inv X pins a H s->aN x v->aN y u->r x y H Q->
  (X⁻¹) (f v u) (EP X pins a Q) X.xe s
abbrev UnR(X:Cx)(f:Value->Sem Value)(r:V->Hp->VK->Prop):Prop:=
 ∀pins s (a:St) H x v Q,Inv X pins a H s->aN x v->r x H Q->
  (X⁻¹) (f v) (EP X pins a Q) X.xe s
abbrev cr(X:Cx)(f:Value)(r:List V->Hp->VK->Prop):Prop:=
 ∀pins s (a:St) H xs us Q,Inv X pins a H s->aJ xs us->r xs H Q->
  (X⁻¹) (call f us) (EP X pins a Q) X.xe s
abbrev TruR(X:Cx)(r:V->Hp->(Bool->Hp->Prop)->Prop):Prop:=
 ∀pins s (a:St) H x v Q,Inv X pins a H s->aN x v->r x H Q->
  (X⁻¹) (truthy v) (TP X pins a Q) X.xe s
abbrev tOp(r:R2)(b c:TE):TE:=λa H Q=>b a H λx d=>c a d λy e=>r x y e Q
abbrev tUn(r:V->Hp->VK->Prop)(a:TE):TE:=λb H Q=>a b H λx c=>r x c Q
abbrev rI(C:Int->Int->Prop)(g:Int->Int->V):R2:=λx y H Q=>asI x λi=>asI y λj=>C i j/\Q (g i j) H
abbrev rI0(g:Int->Int->V):R2:=λx y H Q=>asI x λi=>asI y λj=>Q (g i j) H
abbrev rU(g:Int->V):V->Hp->VK->Prop:=λx H Q=>asI x λi=>Q (g i) H
section
variable{X:Cx}{a b c:Expr}{ta tb tc:TE}{pos:Pos}
def Fh(m:PE X a ta)(n:PE X b tb){pins:List _}{s:Shared}{d:St}{H:Hp}{R:V->V->Hp->Prop}(I:Inv X pins d H s)
 (h:ta d H λx l=>tb d l λy e=>R x y e) {Q:ZD} {f:Value->Value->Sem Value}
 (o:∀v u j x y e,Inv X pins d e j->aN x v->aN y u->R x y e->(X⁻¹) (f v u) Q X.xe j):
 (X⁻¹) (eval a X.env) (λv g=>(X⁻¹) (eval b X.env) (λu i=>(X⁻¹) (f v u) Q X.xe i) X.xe g) X.xe s:=by
 exact thP (m pins s d H _ I h) λv p x l q r w=>thP (n pins p d l _ q w) λu j y e z A B=>o v u j x y e z r A B
def G0{r:R2}(d:OpR X (binaryOp op) r)(e:PE X a ta)(f:PE X b tb):PE X (.BinOp a op b pos) (tOp r ta tb):=by
 intro pins s g H Q I h;exact wpAny_BinOp (Fh e f I h λv u i x y j l m n q=>d pins i g j x y v u Q l m n q)
def G1(e:UnR X (unaryOp op) r)(f:PE X a ta):PE X (.UnaryOp op a pos) (tUn r ta):=by
 intro pins s d H Q I h;exact UnaryOp_ (thP (f pins s d H _ I h) λv g x i j l m=>e pins g d i x v Q j l m)
def opI{f:Value->Value->Sem Value}{C:Int->Int->Prop}{g:Int->Int->Int}
 (rule:∀i j t u s Q E,C i j->Q (.int (g i j) s.toks) {s with toks:=s.toks+1}->(X⁻¹) (f (.int i t) (.int j u)) Q E s):
 OpR X f (rI C λi j=> .int (g i j)):=by
 intro pins s n H x y v u Q I d e h;have%[i,rfl|l]:=ir h;have%[j,rfl,m|q]:=ir l;have%[t|rfl]:=d;have%[t'|rfl]:=e;exact rule i j t t' s _ _ m %[.int _,H,I.tok _,%[_|rfl]|q]
def G3{g:Int->Int->Int}
 (rule:∀(i j:Int) (t u:Tok) (s:Shared) (Q:ZD) (E:ZD),Q (.int (g i j) s.toks) {s with toks:=s.toks+1}->(X⁻¹) (f (.int i t) (.int j u)) Q E s):
 OpR X f (rI0 λi j=> .int (g i j)):=by
 intro pins s m H x y v u Q I d e h;have%[i,rfl|l]:=ir h;have%[j,rfl|q]:=ir l;have%[t|rfl]:=d;have%[t'|rfl]:=e;exact rule i j t t' s _ _ %[.int _,H,I.tok _,%[_|rfl]|q]
def Fi{g:Int->Int->Bool}
 (rule:∀(i j:Int) (t u:Tok) (s:Shared) (Q:ZD) (E:ZD),Q (.bool (g i j)) s->(X⁻¹) (f (.int i t) (.int j u)) Q E s):
 OpR X f (rI0 λi j=> .bl (g i j)):=by
 intro pins s m H x y v u Q I d e h;have%[i,rfl|l]:=ir h;have%[j,rfl|q]:=ir l;have%[t|rfl]:=d;have%[t'|rfl]:=e;exact rule i j t t' s _ _ %[.bl _,H,I,rfl|q]
abbrev G4(i j:Int):Prop:=0<j/\j<1073741824
abbrev As(i j:Int):Prop:=(-(2^64)<i/\i<2^64)\/(-(2^64)<j/\j<2^64)
def As.ok{i j:Int}(h:As i j):IntMulOk i j:=by
 rcases h with⟨d,e⟩|⟨d,e⟩
 .exact .of_left (intBits_le_64 d e)
 .exact .of_right (intBits_le_64 d e)
def At:OpR X (binaryOp .Add) (rI0 λi j=> .int (i+j)):=G3 λ_ _ _ _ _ _ _ q=>add_int q
def Fj:OpR X (binaryOp .Sub) (rI0 λi j=> .int (i-j)):=G3 λ_ _ _ _ _ _ _ q=>sub_int q
def Au:OpR X (binaryOp .Mult) (rI As λi j=> .int (i*j)):=opI λ_ _ _ _ _ _ _ d q=>mul_int q d.ok
def CS:OpR X (binaryOp .FloorDiv) (rI G4 λi j=> .int (i/j)):=opI λi j _ _ _ _ _ d q=>by
 have e:(0:Int)<j:=d.1;have f:j<1073741824:=d.2;exact floordiv_int ⋯ (by rw[Int.fdiv_eq_ediv_of_nonneg i ⋯];exact q) (.inl (PyProof.noPylong_small ⋯))
def Fk:OpR X (binaryOp .Mod) (rI (λ_ j=>0<j) λi j=> .int (i%j)):=opI λi j _ _ _ _ _ d q=>by
 have e:(0:Int)<j:=d;exact mod_int' ⋯ (by rw[Int.fmod_eq_emod_of_nonneg i ⋯];exact q)
def unI{g:Int->Int}
 (rule:∀(i:Int) (t:Tok) (s:Shared) (Q:ZD) (E:ZD),Q (.int (g i) s.toks) {s with toks:=s.toks+1}->(X⁻¹) (f (.int i t)) Q E s):
 UnR X f (rU λi=> .int (g i)):=by
 intro pins s e H x v Q I d h;have%[i,rfl|q]:=ir h;have%[t|rfl]:=d;exact rule i t s _ _ %[.int _,H,I.tok _,%[_|rfl]|q]
def Fo:UnR X (unaryOp .USub) (rU λi=> .int (-i)):=unI λ_ _ _ _ _ q=>neg_int q
end
abbrev Fp:V->V->Bool
 | .non,.non=>true| .non,.int _=>true| .int _,.non=>true| .non,.bl _=>true| .bl _,.non=>true| .non,.str _=>true| .str _,.non=>true
 | .int _,.int _=>true| .bl _,.bl _=>true| .str _,.str _=>true| .byt _,.byt _=>true
 | .int _,.str _=>true| .str _,.int _=>true| .bl _,.str _=>true| .str _,.bl _=>true
 | _,_=>false
def zqD:(Fp .non .non=true)/\(∀j,Fp .non (.int j)=true)/\(∀i,Fp (.int i) .non=true)/\(∀j,Fp .non (.bl j)=true)/\(∀i,Fp (.bl i) .non=true)/\(∀j,Fp .non (.str j)=true)/\(∀i,Fp (.str i) .non=true)/\(∀i j,Fp (.int i) (.int j)=true)/\(∀i j,Fp (.bl i) (.bl j)=true)/\(∀i j,Fp (.str i) (.str j)=true)/\(∀i j,Fp (.byt i) (.byt j)=true)/\(∀i j,Fp (.int i) (.str j)=true)/\(∀i j,Fp (.str i) (.int j)=true)/\(∀i j,Fp (.bl i) (.str j)=true)/\(∀i j,Fp (.str i) (.bl j)=true):=by and_intros<;> intros<;> rfl
abbrev rEq:R2:=λx y H Q=>Fp x y=true/\Q (.bl (decide (x=y))) H
abbrev rNe:R2:=λx y H Q=>Fp x y=true/\Q (.bl (!decide (x=y))) H
def xf:decide (V.int i=V.int j)=(i==j):=by
 rw[Bool.eq_iff_iff];simp
def Av:decide (V.bl i=V.bl j)=(i==j):=by
 rw[Bool.eq_iff_iff];simp
def xg:decide (V.str i=V.str j)=(i==j):=by
 rw[Bool.eq_iff_iff];simp
def xh:decide (V.byt i=V.byt j)=(i.toList==j.toList):=by
 rw[Bool.eq_iff_iff]
 simp_all
section
variable{X:Cx}{a b c:Expr}{ta tb tc:TE}{pos:Pos}
def aV(I:Inv X pins d H s)(q:Q (.bl k) H)(e:k=f):EP X pins d Q (.bool f) s:=by
 subst e;exact%[.bl k,H,I,ρ|q]
def G5:OpR X (compareOp .Eq) rEq:=by
 intro pins s g H x y v u Q I f d h;have%[e|q]:=h;cases x with
 | non=>
   cases f;cases y with
   | non=>cases d;exact PySem.EqNone.eq_none_none (aV I q ∅)
   | bl j=>cases d;exact PySem.EqNone.eq_none_bool (aV I q ∅)
   | int j=>have%[t'|rfl]:=d;exact PySem.EqNone.eq_none_int (aV I q ∅)
   | str j=>have%[t'|rfl]:=d;exact PySem.EqNone.eq_none_str (aV I q ∅)
   | _=>exact absurd (show false=true from e) Zt
 | bl i=>
   cases f;cases y with
   | non=>cases d;exact PySem.EqNone.eq_bool_none (aV I q ∅)
   | bl j=>cases d;exact eq_bool (aV I q Av)
   | str j=>have%[t'|rfl]:=d;exact PySem.EqMixed.eq_bool_str (aV I q ∅)
   | _=>exact absurd (show false=true from e) Zt
 | int i=>
   have%[t|rfl]:=f;cases y with
   | non=>cases d;exact PySem.EqNone.eq_int_none (aV I q ∅)
   | int j=>have%[t'|rfl]:=d;exact eq_int (aV I q xf)
   | str j=>have%[t'|rfl]:=d;exact PySem.EqMixed.eq_int_str (aV I q ∅)
   | _=>exact absurd (show false=true from e) Zt
 | str i=>
   have%[t|rfl]:=f;cases y with
   | non=>cases d;exact PySem.EqNone.eq_str_none (aV I q ∅)
   | bl j=>cases d;exact PySem.EqMixed.eq_str_bool (aV I q ∅)
   | int j=>have%[t'|rfl]:=d;exact PySem.EqMixed.eq_str_int (aV I q ∅)
   | str j=>have%[t'|rfl]:=d;exact eq_str (aV I q xg)
   | _=>exact absurd (show false=true from e) Zt
 | byt i=>
   have%[t|rfl]:=f;cases y with
   | byt j=>have%[t'|rfl]:=d;exact PySem.W.eq_bytes (aV I q xh)
   | _=>exact absurd (show false=true from e) Zt
 | _=>cases y<;> exact absurd (show false=true from e) Zt
def Ey:OpR X (compareOp .NotEq) rNe:=by
 intro pins s g H x y v u Q I f d h;have%[e|q]:=h;cases x with
 | non=>
   cases f;cases y with
   | non=>cases d;exact PySem.EqNone.ne_none_none (aV I q ∅)
   | bl j=>cases d;exact PySem.EqNone.ne_none_bool (aV I q ∅)
   | int j=>have%[t'|rfl]:=d;exact PySem.EqNone.ne_none_int (aV I q ∅)
   | str j=>have%[t'|rfl]:=d;exact PySem.EqNone.ne_none_str (aV I q ∅)
   | _=>exact absurd (show false=true from e) Zt
 | bl i=>
   cases f;cases y with
   | non=>cases d;exact PySem.EqNone.ne_bool_none (aV I q ∅)
   | bl j=>cases d;exact ne_bool (aV I q (congrArg not Av))
   | str j=>have%[t'|rfl]:=d;exact PySem.EqMixed.ne_bool_str (aV I q ∅)
   | _=>exact absurd (show false=true from e) Zt
 | int i=>
   have%[t|rfl]:=f;cases y with
   | non=>cases d;exact PySem.EqNone.ne_int_none (aV I q ∅)
   | int j=>have%[t'|rfl]:=d;exact ne_int (aV I q (congrArg not xf))
   | str j=>have%[t'|rfl]:=d;exact PySem.EqMixed.ne_int_str (aV I q ∅)
   | _=>exact absurd (show false=true from e) Zt
 | str i=>
   have%[t|rfl]:=f;cases y with
   | non=>cases d;exact PySem.EqNone.ne_str_none (aV I q ∅)
   | bl j=>cases d;exact PySem.EqMixed.ne_str_bool (aV I q ∅)
   | int j=>have%[t'|rfl]:=d;exact PySem.EqMixed.ne_str_int (aV I q ∅)
   | str j=>have%[t'|rfl]:=d;exact ne_str (aV I q (congrArg not xg))
   | _=>exact absurd (show false=true from e) Zt
 | byt i=>
   have%[t|rfl]:=f;cases y with
   | byt j=>have%[t'|rfl]:=d;exact PySem.W.ne_bytes (aV I q (congrArg not xh))
   | _=>exact absurd (show false=true from e) Zt
 | _=>cases y<;> exact absurd (show false=true from e) Zt
def G6:OpR X (compareOp .Lt) (rI0 λi j=> .bl (decide (i<j))):=Fi λ_ _ _ _ _ _ _ q=>lt_int q
def G7:OpR X (compareOp .LtE) (rI0 λi j=> .bl (decide (i<=j))):=Fi λ_ _ _ _ _ _ _ q=>le_int q
def G8:OpR X (compareOp .Gt) (rI0 λi j=> .bl (decide (j<i))):=Fi λ_ _ _ _ _ _ _ q=>gt_int q
def yH:OpR X (compareOp .In) (λx y H Q=>∃i j,x= .str i/\y= .str j/\Q (.bl (!(Builtin.Str.occurrences j i 0 j.length 1).isEmpty)) H):=by
 intro pins s f H x y v u Q I d e h;have%[i,j,rfl,rfl|q]:=h;have%[t|rfl]:=d;have%[t'|rfl]:=e;exact in_str (aV I q rfl)
def Fq:OpR X (compareOp .Is) (λx y H Q=>y= .non/\Q (.bl (decide (x= .non))) H):=by
 intro pins s f H x y v u Q I d e h;have%[rfl|q]:=h;cases e;refine is_none_gen (aV I q ?_);cases x<;> first
  | lia
  |(have%[t|rfl]:=d;rfl)
def CT:OpR X (compareOp .IsNot) (λx y H Q=>y= .non/\Q (.bl (!decide (x= .non))) H):=by
 intro pins s f H x y v u Q I d e h;have%[rfl|q]:=h;cases e;refine isnot_none_gen (aV I q ?_);cases x<;> first
  | lia
  |(have%[t|rfl]:=d;rfl)
def OpR.or(h:OpR X f r)(h':OpR X f i):OpR X f (λx y H Q=>r x y H Q\/i x y H Q):=by
 intro pins s d H x y v u Q I e g q;rcases q with q|q
 .exact h pins s d H x y v u Q I e g q
 .exact h' pins s d H x y v u Q I e g q
def nomark(b:Expr)(h:op≠ .In)(f:op≠ .NotIn):behindInMarks op b=false:=by
 have d:(op==CmpOp.In)=false:=by lia
 have e:(op==CmpOp.NotIn)=false:=by lia
 cases b<;> simp[behindInMarks,d,e]
def CU{r:R2}(d:OpR X (compareOp op) r)(e:PE X a ta)(f:PE X b tb)(g:behindInMarks op b=false):PE X (.Compare a [op] [b] pos) (tOp r ta tb):=by
 intro pins s i H Q I h;exact wpAny_Compare1 (Fh e f I h λv u j x y l m n o q=>d pins j i l x y v u Q m n o q) g
abbrev xi(t:TE):TT:=λd H Q=>t d H λx e=>asB x λk=>Q k e
def CV(f:OpR X (compareOp op) r)(g:PE X a ta)(i:PE X b tb)(j:behindInMarks op b=false):PT X (.Compare a [op] [b] pos) (xi (tOp r ta tb)):=by
 intro pins s d H Q I h;refine wpAny_isTrue_Compare1 (thP (g pins s d H _ I h) λv l x m n o p=>thP (i pins l d m _ n p) λu q y w A B C=>
  thP (f pins q d w x y v u _ A o B C) λc L z E G J e=>?_) j
 have%[k,rfl|e]:=pY e;cases J;exact wpAny_truthy_bool %[E,G|e]
abbrev vO(r f:R2)(ta tb tc:TE):TE:=λd H Q=>ta d H λx g=>tb d g λy h=>r x y h λz e=>asB z λk=>
 (if k=true then tc d e λi j=>f y i j Q else Q (.bl false) e)
def Aw(n:OpR X (compareOp op) r)(i:OpR X (compareOp e) o)(p:PE X a ta)(q:PE X b tb)(w:PE X c tc)
 (A:lastMarks [op,e] [b,c]=false):PE X (.Compare a [op,e] [b,c] pos) (vO r o ta tb tc):=by
 intro pins s f H Q I h;refine Compare_chain (thP (p pins s f H _ I h) λv B x C E G J=>chain_link (thP (q pins B f C _ E J) λu L y M N j O=>
  thP (n pins L f M x y v u _ N G j O) λd T z l m U g=>?_)) A
 have%[k,rfl|g]:=pY g;cases U;refine wpAny_truthy_bool ?_;cases k with
 | false=>exact ite_ff %[.bl false,l,m,rfl|g]
 | true=>exact ite_tt (chain_last (thP (w pins T f l _ m g) λY s4 z' H4 I4 r4 q4=>i pins s4 f H4 y z' u Y Q I4 j r4 q4))
abbrev Ax(K:ZA)(x:V)(H:Hp)(k:Bool):Prop:=
 match x with
 | .non=>k=false
 | .bl b=>k=b
 | .int i=>k=(i != 0)
 | .str y=> ~~~y<=sizeLine/\k=((~~~y:Int) != 0)
 | .byt y=>y.size<=sizeLine/\k=((y.size:Int) != 0)
 | .ref p=>(∃xs,SqL K H p xs/\k=!xs.isEmpty)\/(∃xs,SqT K H p xs/\k=!xs.isEmpty)\/∃d,H p∣.dK d/\k=!d.isEmpty
 | _=>False
def vP{e:Type}{d:List (e×V)}{vs:List _}(r:KV d vs):(!vs.isEmpty)=!d.isEmpty:=by
 cases r<;> rfl
def mS(r:aJ xs its):(!its.toArray.isEmpty)=!xs.isEmpty:=by
 cases r<;> simp
def rQ:sizeLine<2^63:=!1
def Fs:TruR X (λx H Q=>∃k,Ax X.K x H k/\Q k H):=by
 intro pins s w H x v Q I j h;have%[k,e|q]:=h;have z:=rQ;have A:sizeLine=16777216:=sizeLine_eq;cases x with
 | non=>
   cases j;have d:k=false:=e;subst d;exact truthy_none %[H,I|q]
 | bl b=>
   cases j;have d:k=b:=e;subst d;exact wpAny_truthy_bool %[H,I|q]
 | int i=>
   have%[t|rfl]:=j;have d:k=(i != 0):=e;subst d;exact PySem.P.truthy_int %[H,I|q]
 | str y=>
   have%[t|rfl]:=j;obtain⟨o,d⟩: ~~~y<=sizeLine/\k=((~~~y:Int) != 0):=e;subst d;exact PySem.P.truthy_str ⋯ %[H,I.tok _|q]
 | byt y=>
   have%[t|rfl]:=j;obtain⟨o,d⟩:y.size<=sizeLine/\k=((y.size:Int) != 0):=e;subst d;exact PySem.W.truthy_bytes ⋯ %[H,I.tok _|q]
 | ref p=>
   cases j;have d:(∃xs,SqL X.K H p xs/\k=!xs.isEmpty)\/(∃xs,SqT X.K H p xs/\k=!xs.isEmpty)\/∃f,H p∣.dK f/\k=!f.isEmpty:=e;rcases d with⟨xs,l,d⟩|⟨xs,l,d⟩|⟨f,l,d⟩
   .subst d;have%[its,r,pl|n]:=I.list l;have g:= ~~~r;exact wpAny_truthy_list pl.isList (by simp only[Zp];lia) %[H,I.tok _|(mS r)▸q]
   .subst d;have%[its,r,pl|n]:=I.tuple l;have g:= ~~~r;exact truthy_tuple pl (by simp only[Zp];lia) %[H,I.tok _|(mS r)▸q]
   .subst d;obtain⟨n,u,vs,r,m⟩: ~~~f<=sizeLine/\(p==sysModules)=false/\∃vs,KV f vs/\s.heap.DictOf (aQ X.prog X.w) p vs:=I.hok p _ l;have g: ~~~f= ~~~vs:=Paired.length r;exact wpAny_truthy_dict u m ⋯ %[H,I.tok _|(vP r)▸q]
 | _=>exact(show False from e).elim
def Ay(g:PE X a ta)(i:∀d,isTrue a X.env d=(do let v<-d;standAt a.pos;holding [v] (truthy v))):
 PT X a (λe H Q=>ta e H λx f=>∃k,Ax X.K x f k/\Q k f):=by
 intro pins s e H Q I h;exact isTrue_plain (thP (g pins s e H _ I h) λv j x l m n o=>Fs pins j e l x v Q m n o) (i _)
def mT:OpR X (binaryOp .Add) (λx y H Q=>∃i j,x= .str i/\y= .str j/\ ~~~i+ ~~~j<=sizeLine/\Q (.str (i++j)) H):=by
 intro pins s g H x y v u Q I d e h;have%[i,j,rfl,rfl,f|q]:=h;have%[t|rfl]:=d;have%[t'|rfl]:=e;exact add_str (λt' tk=>%[.str _,H,I.tok _,%[_|rfl]|q]) f
def cG(r:aJ [x] us):∃u,us=[u]/\aN x u:=by
 cases r with
 | cons d e=>cases e;exact%[_,ρ|d]
def lF(r:aJ [x,y] us):∃u d,us=[u,d]/\aN x u/\aN y d:=by
 cases r with
 | cons e f=>
   cases f with
   | cons g h=>cases h;exact%[_,_,ρ,e|g]
def yJ(e:X.calm=true):cr X (.builtin "min") (λxs H Q=>∃i j,xs=[.int i,.int j]/\Q (.int (if j<i then j else i)) H):=by
 intro pins s f H xs us Q I r h;have%[i,j,rfl|q]:=h;have%[u,g,rfl,%[t|rfl],t'|rfl]:=lF r;refine min_two_ints (I.ok.hd e) λh' tk k=>%[_,H,I.kept k,?_|q]
 by_cases d:j<i
 .rw[if_pos d,if_pos d];exact%[_|ρ]
 .rw[if_neg d,if_neg d];exact%[_|ρ]
def yK:cr X (.type "int") (λxs H Q=>(∃i,xs=[.int i]/\Q (.int i) H)\/∃k,xs=[.bl k]/\Q (.int (if k then 1 else 0)) H):=by
 intro pins s e H xs us Q I r h;rcases h with⟨i,rfl,q⟩|⟨k,rfl,q⟩
 .have%[u,rfl,t|rfl]:=cG r;exact call_int_int %[.int i,H,I,%[_|rfl]|q]
 .have%[u,rfl|d]:=cG r;cases d;exact call_int_bool %[.int _,H,I.tok _,%[_|rfl]|q]
def rR:cr X (.type "str") (λxs H Q=>∃i,xs=[.int i]/\i.natAbs.log2<1920/\Q (.str (toString i)) H):=by
 intro pins s e H xs us Q I r h;have%[i,rfl,d|q]:=h;have%[u,rfl,t|rfl]:=cG r;exact PySem.P.str_of_int d %[.str _,H,I.tok _,%[_|rfl]|q]
abbrev CW(K:ZA)(x:V)(H:Hp)(n:Nat):Prop:=
 match x with
 | .str y=> ~~~y<=sizeLine/\n= ~~~y
 | .byt y=>y.size<=sizeLine/\n=y.size
 | .ref p=>(∃xs,SqL K H p xs/\n= ~~~xs)\/∃xs,SqT K H p xs/\n= ~~~xs
 | _=>False
def Az:cr X (.builtin "len") (λxs H Q=>∃x n,xs=[x]/\CW X.K x H n/\Q (.int n) H):=by
 intro pins s o H xs us Q I r h;have%[x,n,rfl,e|q]:=h;have%[u,rfl|g]:=cG r;have v:=sizeLine_eq;cases x with
 | str y=>
   have%[t|rfl]:=g;obtain⟨l,f⟩: ~~~y<=sizeLine/\n= ~~~y:=e;subst f;exact len_str ⋯ %[.int _,H,I.tok _,%[_|rfl]|q]
 | byt y=>
   have%[t|rfl]:=g;obtain⟨l,f⟩:y.size<=sizeLine/\n=y.size:=e;subst f;exact PySem.W.len_bytes ⋯ %[.int _,H,I.tok _,%[_|rfl]|q]
 | ref p=>
   cases g;have f:=e;rcases f with⟨xs,i,f⟩|⟨xs,i,f⟩
   .subst f;have%[its,j,pl|m]:=I.list i;have d:= ~~~j;exact Calls.call_len_list pl.isList (by simp only[Zp];lia) %[.int xs.length,H,I.tok _,%[_|by simp only[Zp];rw[d]]|q]
   .subst f;have%[its,j,pl|m]:=I.tuple i;have d:= ~~~j;exact len_tuple pl (by simp only[Zp];lia) %[.int xs.length,H,I.tok _,%[_|by simp only[Zp];rw[d]]|q]
 | _=>exact(e).elim
end
structure vQ (h:Heap) (x dx C:Addr) (mA:ZC):Prop where
 obj:h.get? x∣instObj C dx
 ns:h.Ns1 dx mA
 ne:dx≠x
def yM{h:Heap}{c:ZC}(n:h.Ns1 f c):∃d,h.get? f∣d/\∀name,lookIn name d∣c name:=by
 have%[o,es,p,g,i,j,_|l]:=n;refine%[o,g|λname=>?_];have e:=l name;unfold nsFind findBy at e;rw[<-Array.find?_toList]at e;unfold lookIn;rw[i];dsimp only
 split
 .rename_i y q
  rw[q]at e;exact congrArg some e
 .rename_i q
  rw[q]at e;have a:es.toList.any (·.refKey)=false:=by
   rw[List.any_eq_false];intro y m;have%[z,t|b]:=j y (mem_toList_iff.mp m);simp[DictEntry.refKey,b]
  rw[if_neg (a▸Zt)];exact congrArg some e
def vQ.look(I:vQ h x b C c):∃a,PySem.W.InstAt h x (instObj C b) C (some a)/\∀name,lookIn name a∣c name:=
 let⟨a,d,e⟩:=yM I.ns
 %[a,%[I.obj,rfl,rfl|d]|e]
section
#where
variable{K:ZA}{x dx C f:Addr}{mA:ZC}{name:Str}{v:Value}
def CY(X:K.In s.heap)(I:vQ s.heap x dx C mA)(c:plainGet K C name=true)(d:hasDictIn K C=true)
 (e:findIn K (.ref C) name∣none) (g:mA name∣v) (a:handedIn v=true) (h:Q v {s with toks:=s.toks+1}):
 ↥A (getAttr (.ref x) name b) Q E s:=by
 have%[j,J|i]:=I.look;exact PySem.W.get_value X J (plainGet_of c).1 (PySem.W.findObj_own d e rfl (by rw[i,g])) a h
def AA(X:K.In s.heap)(I:vQ s.heap x dx C mA)(a:plainGet K C name=true)
 (b:findIn K (.ref C) name∣some (.ref f)) (c:isFn K (.ref f)=true) (d:mA name=none) (h:Q (.ref f,[.ref x]) s):
 ↥A (getMethod (.ref x) name pl) Q E s:=by
 have%[e,J|g]:=I.look;exact PySem.W.method_fn X J (plainGet_of a).1 (plainGet_of a).2 b (beq_iff_eq.mp c) (by show(lookIn name e).map _∣false;rw[g,d];rfl) h
def CZ(X:K.In s.heap)(I:vQ s.heap x dx C mA)
 (j:findIn K (.ref C) "__setattr__"=some (some (.builtin "object.__setattr__"))) (l:plainOver K C=true) (m:takerIn K C name∣none) (n:hasDictIn K C=true)
 (hw:PySem.Within mA o) (p: ~~~o<=sizeLine)
 (h:∀h',vQ h' x dx C (λy=>if y=name then some v else mA y)->SameBut dx s.heap h'->Q () {s with heap:=h',toks:=s.toks+2}):
 ↥A (setAttr (.ref x) name v) Q E s:=by
 have%[z,J|B]:=I.look;refine PySem.W.set_plain X J j (PySem.W.osa_open X J l m λb=>?_);have%[G,q|d]:=PySem.W.any_some n;refine Z2 (Z3 (Z2 (Z2 (wpAny_loadPart I.obj (Z2 (Looks.here (PySem.W.looks_clsIn X q) ?_))))));rw[d];refine Z3 (Z2 (Z3 (Z2 (wpAny_nsSet1 I.ns λh' a c=>?_))));have%[H,r,u,e,g|i]:=a.count (PySem.Within.cons name v hw);exact Z2 (wpAny_lookBehind e (g▸pastItsLine_dict (Yf i (!2))) (Z3 (h _ %[(c.2 _ (Ne.symm I.ne)).trans I.obj,a|I.ne] c)))
def AB{R:Result->Shared->Prop}(X:K.In s.heap)(b:makesIn K C=true)
 (hi:findIn K (.ref C) "__init__"=some (some (.ref f))) (c:PySem.W.typeIn K (.ref f)∣.type "function")
 (h:codeAny (model prog w) (A.under (.builtin "type.__call__" %[.ref C::vs|a])) (.call (.ref f) %[.ref (⇑s+1)::vs|a]) (PySem.W.InitBack (⇑s+1) R)
  (s>>>(s.heap.push emptyDict).push (instObj C ⇑s))):
 codeAny (model prog w) A (.call (.ref C) %[vs|a]) R s:=by
 exact PySem.W.make_core (PySem.W.makes_of X b) (PySem.W.looks_findIn X hi) (λself=>PySem.W.bind_fn X self c) (.inl rfl) h
end
abbrev dD(f:Str)(v:V):List (Str×V)->List (Str×V)
 |[]=>[(f,v)]
 |(g,x)::r=>if g=f then(g,v)::r else(g,x)::dD f v r
def lG(f g:Str)(v:V):∀fs,(dD f v fs).lookup g=if g=f then some v else fs.lookup g
 |[]=>by
  show List.lookup g [(f,v)]=_;by_cases h:g=f
  .have a:=beq_iff_eq.mpr h;simp only[List.lookup,a,if_pos h]
  .have a:=beq_eq_false_iff_ne.mpr h;simp only[List.lookup,a,if_neg h]
 |(k,x)::r=>by
  rw[show dD f v _=(if k=f then(k,v)::r else(k,x)::dD f v r)from rfl];by_cases b:k=f
  .rw[if_pos b];by_cases h:g=k
   .have a:=beq_iff_eq.mpr h;simp only[List.lookup,a,if_pos (h.trans b)]
   .have a:=beq_eq_false_iff_ne.mpr h;simp only[List.lookup,a,if_neg (λe:g=f=>h (e.trans b.symm))]
  .rw[if_neg b];by_cases h:g=k
   .have a:=beq_iff_eq.mpr h;simp only[List.lookup,a,if_neg (λe=>b (h.symm.trans e))]
   .have a:=beq_eq_false_iff_ne.mpr h;simp only[List.lookup,a];exact(lG f g v r)
def kQ(f:Str)(v:V):∀fs:List (Str×V),f∈(dD f v fs)\1/\∀g,g∈fs\1->g∈(dD f v fs)\1
 |[]=>%[by simp[dD]|λg h=>by simp at h]
 |(k,x)::r=>by
  have%[a|b]:=kQ f v r;rw[show dD f v _=(if k=f then(k,v)::r else(k,x)::dD f v r)from rfl]
  grind
def lH(f:Str)(v:V):∀fs,~~~(dD f v fs)<= ~~~fs+1
 |[]=>by simp[dD]
 |(k,x)::r=>by
  have a:=lH f v r;rw[show dD f v _=(if k=f then(k,v)::r else(k,x)::dD f v r)from rfl];by_cases b:k=f
  .simp_all
  simp_all
def fJ.some_of(r:fJ (some v) o):∃u,o∣u/\aN v u:=by
 cases o with
 | none=>exact(r).elim
 | some u=>exact%[u,ρ|r]
def fJ.none_of(r:fJ none o):o=none:=by
 cases o with
 | none=>rfl
 | some u=>exact(r).elim
def yO(r:aN v u):handedIn u=true:=by
 cases v with
 | non=>cases(r);rfl
 | bl b=>cases(r);rfl
 | int i=>have%[t|e]:=(r);cases e;rfl
 | str x=>have%[t|e]:=(r);cases e;rfl
 | byt b=>have%[t|e]:=(r);cases e;rfl
 | flt b=>have%[t|e]:=(r);cases e;rfl
 | ref a=>cases(r);rfl
 | ty n=>cases(r);rfl
section
variable{P:Program}{w:World}{H H':Hp}{h h':Heap}{a C dx:Addr}{fs fs':List (Str×V)}
def mF(c:HOk P w H h)(e:H a∣.ins C dx fs):∃b,vQ h a dx C b/\(∀f,fJ (fs.lookup f) (b f))/\PySem.Within b (fs\1)/\ ~~~fs<=1000/\H dx∣.own a:=by
 have%[d,z,g,i,b,n,r|q]:=(c a _ e)
 exact%[b,%[i,n|g],r,q,z|d]
end
structure Cls (K:ZA) (C:Addr):Prop where
 pg:plainGet K C Str.empty=true
 hd:hasDictIn K C=true
 po:plainOver K C=true
 sa:findIn K (.ref C) "__setattr__"=some (some (.builtin "object.__setattr__"))
def Cls.get{K:ZA}{C:Addr}(c:Cls K C)(f:Str):plainGet K C f=true:=c.pg
abbrev fE(K:ZA)(C:Addr)(f:Str):Prop:=findIn K (.ref C) f∣none
def fE.taker{K:ZA}{C:Addr}{f:Str}(n:fE K C f):takerIn K C f∣none:=by
 unfold takerIn;rw[n];rfl
structure C0 (K:ZA) (C:Addr) (m:Str) (f:Addr):Prop where
 at_:findIn K (.ref C) m∣some (.ref f)
 fn:isFn K (.ref f)=true
 kp:keepIn K (.ref f)=true
section
#version
variable{a C dx:Addr}{fs:List (Str×V)}{f:Str}{v:V}{A:Around}{E:ZD}
def vR(I:Inv X pins σ H s)(e:H a∣.ins C dx fs)(c:Cls X.K C)(n:fE X.K C f)(l:fs.lookup f∣v)
 (h:∀u s',Inv X pins σ H s'->aN v u->Q u s'):wpAny (model X.prog X.w) A (getAttr (.ref a) f b) Q E s:=by
 have%[i,O,r,_,_|_]:=mF I.hok e;have%[u,g|d]:=fJ.some_of (l▸r f);exact CY I.kIn O (c.get f) c.hd n g (yO d) (h u _ (I.tok _) d)
def vS(I:Inv X pins σ H s)(e:H a∣.ins C dx fs)(c:Cls X.K C)(k:C0 X.K C m g)(l:fs.lookup m=none)
 (h:Q (.ref g,[.ref a]) s):wpAny (model X.prog X.w) A (getMethod (.ref a) m pl) Q E s:=by
 have%[b,O,r,_,_|_]:=mF I.hok e;exact AA I.kIn O (c.get m) k.at_ k.fn (fJ.none_of (l▸r m)) h
def vT(I:Inv X pins σ H s)(e:H a∣.ins C dx fs)(c:Cls X.K C)(n:fE X.K C f)(J: ~~~fs<1000)(l:aN y u)
 (h:∀s',Inv X pins σ (upd H a (.ins C dx (dD f y fs))) s'->Q () s'):wpAny (model X.prog X.w) A (setAttr (.ref a) f u) Q E s:=by
 have%[m,O,r,i,_|j]:=mF I.hok e;refine CZ I.kIn O c.sa c.po n.taker c.hd i (by rw[Z6,sizeLine_eq];lia) λh' d p=>h _ (I.write (e▸True.intro) (.inr j) (λb q w z=>(p.2 b w).trans z) (let⟨o,_,_,B,_⟩:=d.ns;%[o|B]) %[(ak O.ne)▸j,?_,O.ne,d.obj,_,d.ns,λg=>?_|λg G=>?_])
 .have:=lH f y fs;lia
 .rw[lG];by_cases q:g=f
  .rw[if_pos q,if_pos q];exact l
  .rw[if_neg q,if_neg q];exact r g
 .by_cases q:g=f
  .exact q▸(kQ f y fs).1
  .refine(kQ f y fs).2 g (i g λz=>G ?_);show(if g=f then some u else m g)=none;rw[if_neg q];exact z
def Inv.made(I:Inv X pins σ H s):Inv X pins σ (upd (upd H ⇑s (.own (⇑s+1))) (⇑s+1) (.ins C ⇑s []))
 (s>>>(s.heap.push emptyDict).push (instObj C ⇑s)):=by
 have c:(s.heap.push emptyDict).get? ⇑s∣emptyDict:=Zj s.heap rfl;have g:=by
  have:=Zj (s.heap.push emptyDict) (o:=instObj C ⇑s) rfl;rwa[Zq]at this
 refine(I.laid (o:= .own (⇑s+1)) (t':=s.toks) (λb u q=>Z7 _ q) (Zi _) %[_|c]).laid (λb u q=>Z7 _ q) (Nat.le_of_eq (Zq _ _)) ?_;have d:⇑s≠⇑s+1:=Zs (Yn _);refine%[by rw[ak d,aa],Xd _,d,g,λ_=>none,(Heap.Ns1.of_empty %[emptyDict,#[],_,c,ρ,(λe h=>absurd h ∅)|λ_=>rfl]).at λo q=>Z7 _ q,λ_=>True.intro|λy i=>absurd rfl i]
def C1(c:attributeBase e f env (eval e env)=eval e env)
 (h:↥A (eval e env) (λo b=>↥A (getAttr o f true) Q E b) E s):↥A (eval (.Attribute e f pos) env) Q E s:=
 Attribute_any_ h (by rw[arm_eval_Attribute,c])
end
abbrev Ft(K:ZA)(c:TE)(f:Str):TE:=λd H Q=>c d H λx b=>∃a C e fs v,x= .ref a/\b a∣.ins C e fs/\Cls K C/\fE K C f/\fs.lookup f∣v/\Q v b
abbrev Fu(K:ZA)(e g:TE)(f:Str):TS:=λD b H=>g b H λy h=>e b h λx c=>∃a C d fs,x= .ref a/\c a∣.ins C d fs/\Cls K C/\fE K C f/\ ~~~fs<1000/\
 D.nx b (upd c a (.ins C d (dD f y fs)))
section
variable{X:Cx}{o e value:Expr}{f:Str}{pos pos' tpos:Pos}{ta tv:TE}
def Fv(b:PE X e ta)(d:attributeBase e f X.env (eval e X.env)=eval e X.env):PE X (.Attribute e f pos) (Ft X.K ta f):=by
 intro pins s g H Q I h;refine C1 d (thP (b pins s g H _ I h) λu y x i j m ⟨a,C,z,fs,v,ex,p,c,n,l,q⟩=>?_);subst ex;obtain rfl:u=Value.ref a:=m;exact vR j p c n l λA B r w=>%[v,i,r,w|q]
def Fw(d:PE X o ta)(g:PE X value tv)(i:swapsWith value (some (.Attribute o f pos')) pos.line X.env=pure false):PS X (.Assign [.Attribute o f pos'] value pos) (Fu X.K ta tv f):=by
 intro pins s b H D I h;refine plainObj_wpAny_Assign_Attribute (thP (g pins s b H _ I h) λu j y m p r q=>thP (d pins j b m _ p q) λv G x J w z ⟨a,C,L,fs,ex,A,c,n,l,B⟩=>?_) i;subst ex;obtain rfl:v=Value.ref a:=z;exact vT w A c n l r λM E=>%[b,_,E|B]
end
section
#version
variable{A:Around}{E:ZD}{Q:ZD}{c:Value}{b:Bool}
inductive jq (K:ZA) (H:Hp):V->Value->Prop where
 | non:jq K H .non (.type "NoneType")
 | bl (x:Bool):jq K H (.bl x) (.type "bool")
 | int (i:Int):jq K H (.int i) (.type "int")
 | str (x:Str):jq K H (.str x) (.type "str")
 | flt (x:UInt64):jq K H (.flt x) (.type "float")
 | lst {a:Addr} {xs:List V} (e:H a<*xs):jq K H (.ref a) (.type "list")
 | frz {a:Addr} {o:Obj} {xs:List V} (e:H a∣.frz o (.lst xs)):jq K H (.ref a) (.type "list")
 | tup {a:Addr} {xs:List V} (e:H a&&&xs):jq K H (.ref a) (.type "tuple")
 | dK {a:Addr} {kvs:List _} (e:H a∣.dK kvs):jq K H (.ref a) (.type "dict")
 | dT {a:Addr} {kvs:List _} (e:H a∣.dT kvs):jq K H (.ref a) (.type "dict")
 | ins {a C dx:Addr} {fs:List _} (e:H a∣.ins C dx fs) (cl:Cls K C) (ha:findIn K (.ref C) "__class__"=some (some (.builtin "object.__class__")))
  (hn:PySem.W.specialIn K (.builtin "object.__class__") "__get__"=some (some (.builtin "getset_descriptor.__get__"))) (htk:PySem.W.takesIn K (.builtin "object.__class__")∣true)
  (hm:PySem.W.mroIn K C (.type "object")∣true):jq K H (.ref a) (.ref C)
def yP(I:Inv X pins σ H s)(d:aN x u)(ty:jq X.K H x t)(e:kitOne X.K t c∣b)(h:∀tk,Q (.bool b) {s with toks:=tk}):
 wpAny (model X.prog X.w) A (call (.builtin "isinstance") [u,c]) Q E s:=by
 cases ty with
 | non=>cases(d);exact kia_one PySem.W.kitx_none I.kIn True.intro e (λz=>nomatch z) h
 | bl y=>cases(d);exact kia_one PySem.W.kitx_bool I.kIn True.intro e (λz=>nomatch z) h
 | int i=>have%[t|q]:=(d);cases q;exact kia_one PySem.W.kitx_int I.kIn True.intro e (λz=>nomatch z) h
 | str y=>have%[t|q]:=(d);cases q;exact kia_one PySem.W.kitx_str I.kIn True.intro e (λz=>nomatch z) h
 | flt y=>have%[t|q]:=(d);cases q;exact kia_one PySem.W.kitx_float I.kIn True.intro e (λz=>nomatch z) h
 | @lst a xs f=>
   cases(d);have%[_,_,n,_|g]:=(I.hok a _ f)
   exact kia_one kitx_list I.kIn %[_,g|rfl] e (λz=>nomatch z) h
 | @frz a L xs f=>
   cases(d);have%[_,_,_,n,_|g]:=(I.hok a _ f)
   exact kia_one kitx_list I.kIn %[_,g|rfl] e (λz=>nomatch z) h
 | @tup a xs f=>
   cases(d);have%[_,_,_|p]:=(I.hok a _ f)
   have%[o,g,j|_]:=p;exact kia_one PySem.W.kitx_tuple I.kIn %[o,g|j] e (λz=>nomatch z) h
 | @dK a l f=>
   cases(show u=Value.ref a from d);have%[_,_,vs,_|p]:=(I.hok a _ f)
   have%[o,es,v,g,j|_]:=p;exact kia_one kitx_dict I.kIn %[o,g|j.1] e (λz=>nomatch z) h
 | @dT a l f=>
   cases(show u=Value.ref a from d);have%[_,_,xs,_,o,es,v,g,j|_]:=(I.hok a _ f)
   exact kia_one kitx_dict I.kIn %[o,g|j.1] e (λz=>nomatch z) h
 | @ins a C M fs f r w B m G=>
   cases(d);have%[N,O|_]:=mF I.hok f;have%[T,J|_]:=O.look;exact kia_one (PySem.W.kitx_own (r.get _) r.hd w B m G) I.kIn J e (λz=>nomatch z) h
end
structure bX (k:Nat) (A:Around):Prop where
 hd:A.handled=none
 dp:A.depth+3*k+5<recursionLimit
 un:A.units+16*k+200<cLine
 gd:A.guards∣[]
def bX.mono(r:bX k A)(h:j<=k):bX j A:=%[r.hd,by have:=r.dp;lia,by have:=r.un;lia|r.gd]
def bX.deeper(r:bX (k+1) A)(env:Env):bX k (A.deeper env):=
 %[r.hd,by have:=r.dp;show A.depth+1+3*k+5<_;lia,by have:=r.un;show A.units+3+16*k+200<_;lia|r.gd]
def vU{A:Around}:(A.under (.builtin "type.__call__" %[.ref C::us|a])).depth=A.depth+1:=by
 first|rfl|lia
def vV{A:Around}:(A.under (.builtin "type.__call__" %[.ref C::us|a])).units=A.units+1:=by
 first|rfl|lia
def bX.make(r:bX (k+1) A)(C:Addr)(us:ZF)(a:List (Str×Value)):bX k (A.under (.builtin "type.__call__" %[.ref C::us|a])):=
 %[r.hd,by have:=r.dp;rw[vU];lia,by have:=r.un;rw[vV];lia|r.gd]
def bX.depth(r:bX k A):A.depth<recursionLimit:=by have:=r.dp;lia
def bX.units(r:bX k A):A.units+64<cLine:=by have:=r.un;lia
abbrev vW:TA:=λ_ H Q=>Q [] H
abbrev xj(b:TE)(c:TA):TA:=λa H Q=>b a H λx d=>c a d λxs e=>Q (x::xs) e
section
variable{X:Cx}{e:Expr}{es:List Expr}{te:TE}{t:TA}{pos:Pos}
def AC:PA X [] vW:=λ_ _ _ _ H Q I h=>Calls.spliced_nil %[[],H,I,.nil|h]
def xk(b:PE X e te)(c:PA X es t)(d:starEach (e::es) X.env=(false,eval e X.env)::starEach es X.env):PA X (e::es) (xj te t):=by
 intro pos pins s a H Q I h;rw[d];show wpAny _ _ (spliced ((false,eval e X.env)::backTo pos _)) _ _ s;exact Calls.spliced_cons (thP (b pins s a H _ I h) λu f x g i j l=>thP (c pos pins f a g _ i l) λus q xs m n o p=>%[x::xs,m,n,.cons j o|p])
abbrev Fx(t:TA):TE:=λb H Q=>t b H λxs a=> ~~~xs<=sizeLine/\∀p,a p=none->Q (.ref p) (upd a p (.tup xs))
abbrev Fy(t:TA):TE:=λb H Q=>t b H λxs a=> ~~~xs<=sizeLine/\∀p,a p=none->Q (.ref p) (upd a p (.lst xs))
def Fz{d}(h:PA X es t):PE X (.Tuple es d pos) (Fx t):=by
 intro pins s f H Q I g;refine wpAny_Tuple_spliced (thP (h pos pins s f H _ I g) λus a xs i c r ⟨z,q⟩=>%[~~~r▸z|?_]);have j:=c.hok.fresh (Zi _);refine%[.ref ⇑a,upd i ⇑a _,c.laid (λb u e=>Z7 _ e) (Zi _) ?_,ρ|q _ j];exact%[z,us,r,_,Zj _ rfl,ρ,_|ρ]
def FA(h:PA X es t):PE X (.List es pos) (Fy t):=by
 intro pins s d H Q I f;refine wpAny_List_spliced (thP (h pos pins s d H _ I f) λus a xs g c r ⟨z,q⟩=>%[~~~r▸z|?_]);have i:=c.hok.fresh (Zi _);refine%[.ref ⇑a,upd g ⇑a _,c.laid (λb u e=>Z7 _ e) (Zi _) ?_,ρ|q _ i];exact%[z,us,0,r|Zj _ rfl]
end
noncomputable abbrev Sp:=List V->Hp->VK->XK->Prop
noncomputable abbrev CXT:=List Env->Hp->Shared->XK->Value->Shared->Prop
structure yQ (P:Program) (w:World) (K:ZA) (mg:ZC) (base:Heap) (A:Around) (outer:List Env) (s:Shared) (H:Hp):Prop where
 frames:A.frames∣outer
 mod:Mod K mg base
 bs:∀b o,base.get? b∣o->s.heap.get? b∣o/\H b=none
 bsz:base.objs.size<=⇑s
 funs:s.heap.FunFrames base outer
 frf:∀b∈frs outer,H b=none
 hok:HOk P w H s.heap
 bare:AllBare s.gens
abbrev CE(outer:List Env)(P:Program)(w:World)(H:Hp)(s:Shared)(Q:VK)(u:Value)(s':Shared):Prop:=
 ∃v a,s'.os=s.os/\AllBare s'.gens/\Un (frs outer) [] H a s.heap s'.heap/\HOk P w a s'.heap/\aN v u/\Q v a
abbrev CR(CX:CXT)(outer:List Env)(P:Program)(w:World)(H:Hp)(s:Shared)(Q:VK)(E:XK)(r:Result)(s':Shared):Prop:=
 match r with
 | .ok (.ret u)=>CE outer P w H s Q u s'
 | .ok _=>False
 | .error e=>CX outer H s E e s'
structure fF (P:Program) (w:World) (K:ZA) (mg:ZC) (base:Heap) (CX:CXT) (k:Nat) (f:Addr) (fd:FuncData) (ps:ZB) (sp:Sp):Prop where
 len:∀vs H Q E,sp vs H Q E-> ~~~vs= ~~~ps
 run:∀A outer s H args us vs Q E,bX k A->yQ P w K mg base A outer s H->BindsTo s fd args (ps.zip us)->aJ vs us->sp vs H Q E->
  codeAny (model P w) A (.call (.ref f) args) (CR CX outer P w H s Q E) s
def fF.imp{P:Program}{K:ZA}(F:fF P w K mg base CX k f b ps sp)
 (h:∀vs H Q E,a vs H Q E->sp vs H Q E):fF P w K mg base CX k f b ps a:=
 %[λvs H Q E q=>F.len vs H Q E (h _ _ _ _ q)|λA outer s H args us vs Q E c d e g i=>F.run A outer s H args us vs Q E c d e g (h _ _ _ _ i)]
def yQ.make{P:Program}{K:ZA}(e:yQ P w K mg base A outer s H)(C:Addr)(us:ZF)(a:List (Str×Value)):
 yQ P w K mg base (A.under (.builtin "type.__call__" %[.ref C::us|a])) outer s H:=⟨by first|exact e.frames|lia,e.mod,e.bs,e.bsz,e.funs,e.frf,e.hok,e.bare⟩
section
variable{X:Cx}{pins:ZE}{σ:St}{H:Hp}{s s':Shared}
def Inv.env0(I:Inv X pins σ H s):yQ X.prog X.w X.K X.mg X.base X.A X.stack s H:=
 %[I.ok.frames,I.ok.mod,I.bs,Yf I.ok.bsz I.sz,I.stack,I.stkFree,I.hok|I.bare]
def Inv.after(I:Inv X pins σ H s)(h:CE X.stack X.prog X.w H s Q u s'):EP X pins σ Q u s':=by
 have%[v,f,os,a,un,c,r|q]:=h;have%[i,g,d,t|e]:=s';obtain rfl:e=s.os:=os;exact%[v,f,I.call un c a (λb z=>absurd z ∅),r|q]
end
abbrev tT(sp:Sp)(dvs:List V)(E:XK)(t:TA):TE:=λa H Q=>t a H λvs b=>sp (vs++dvs) b Q E
abbrev xo(C:Addr)(m:Str)(sp:Sp)(dvs:List V)(E:XK)(d:TE)(t:TA):TE:=λb H Q=>d b H λx c=>∃a e fs,x= .ref a/\c a∣.ins C e fs/\fs.lookup m=none/\
 t b c λvs f=>sp (x::(vs++dvs)) f Q E
abbrev xp(C:Addr)(sp:Sp)(dvs:List V)(E:XK)(t:TA):TE:=λc H Q=>t c H λvs b=>∀x a,b x=none->b a=none->a≠x->
 sp (.ref x::(vs++dvs)) (upd (upd b a (.own x)) x (.ins C a [])) (λv d=>v= .non/\Q (.ref x) d) E
abbrev e7(K:ZA)(a:FuncData)(ps:ZB)(ds:ZF):Prop:=
 ∀s us,K.In s.heap-> ~~~(us++ds)= ~~~ps->BindsTo s a %[us|[]] (ps.zip (us++ds))
def e7.all{K:ZA}(h:∀us:ZF,~~~us= ~~~ps->bindArgs b %[us|[]]=pure (ps.zip us)):e7 K b ps []:=λs us _ a=>by
 rw[Zx]at a ⊢;exact .of_eq (h us a)
abbrev jr(CX:CXT)(X:Cx)(E:XK):Prop:=∀pins (a:St) H s e s',Inv X pins a H s->CX X.stack H s E e s'->X.xe e s'
section
variable{X:Cx}{CX:CXT}{k:Nat}{f C:Addr}{fd:FuncData}{ps:ZB}{sp:Sp}{dvs:List V}{ds:ZF}{E:XK}{x m:Str}{p pos apos:Pos}{e o:Expr}{es:List Expr}{ta:TE}{t:TA}
def AD(F:fF X.prog X.w X.K X.mg X.base CX k f fd ps sp)(d:bX k X.A)(g:e7 X.K fd ps ds)(i:aJ dvs ds)(j:jr CX X E)
 (I:Inv X pins b H s) (r:aJ vs us) (h:sp (vs++dvs) H Q E):(X⁻¹) (call (.ref f) us) (EP X pins b Q) X.xe s:=by
 have c:=r.append i;refine wpAny_call (codeAny_mono (F.run X.A X.stack s H _ _ _ Q E d I.env0 (g s us I.kIn (~~~c▸F.len _ _ _ _ h)) c h) λr s' a=>?_);cases r with
 | error e=>exact j pins b H s e s' I a
 | ok l=>
   cases l with
   | ret u=>exact I.after a
   | next=>exact False.elim a
   | brk=>exact False.elim a
   | cont=>exact False.elim a
def C2(F:fF X.prog X.w X.K X.mg X.base CX k f fd ps sp)(d:bX k X.A)(g:Gl X x)(i:X.mg x∣.ref f)(j:keepIn X.K (.ref f)=true)(l:e7 X.K fd ps ds)(n:aJ dvs ds)(u:jr CX X E)
 (v:PA X (e::es) t) (a:(x==("__debug__":Str))=false) (w:starEach (e::es) X.env=(false,eval e X.env)::starEach es X.env) (b:(backTo pos (starEach es X.env)).any (·.1)=false):
 PE X (.Call (.Name x p) (e::es) [] pos) (tT sp dvs E t):=by
 intro pins s y H Q I h;exact wpAny_Call_Name_kw (rO I g i (callWith_K I.ok.mod.kin j (thP (v pos pins s y H _ I h) λus z vs A c r q=>%[c.kIn|AD F d l n u c r q]) w b) a)
def AE(i:PE X o ta)(c:Cls X.K C)(d:C0 X.K C m f)(F:fF X.prog X.w X.K X.mg X.base CX k f fd ps sp)(j:bX k X.A)(n:e7 X.K fd ps ds)(r:aJ dvs ds)(v:jr CX X E)
 (w:eval (.Call (.Attribute o m apos) [] [] pos) X.env=(do
  let g<-eval o X.env
  standAt apos.atName
  let(f,first)<-holding [g] (getMethod g m pl)
  callWith pos f first (backTo pos (starEach [] X.env)) (backToKw pos (keywordEach [] X.env)))):
 PE X (.Call (.Attribute o m apos) [] [] pos) (xo C m sp dvs E ta vW):=by
 intro pins s y H Q I h;refine PySem.W.methodCall_KW (thP (i pins s y H _ I h) λu B x G b z ⟨a,J,fs,ex,A,l,q⟩=>?_) w;subst ex;obtain rfl:u=Value.ref a:=z;exact vS b A c d l (PySem.W.callWith_K0 b.kIn d.kp (AD (us:=[.ref a]) (vs:=[.ref a]) F j n r v b (.cons rfl .nil) q))
structure Mk (K:ZA) (C f:Addr):Prop where
 makes:makesIn K C=true
 init:findIn K (.ref C) "__init__"=some (some (.ref f))
 fn:isFn K (.ref f)=true
 kp:keepIn K (.ref C)=true
def AF(M:Mk X.K C f)(F:fF X.prog X.w X.K X.mg X.base CX k f fd ps sp)(j:bX (k+1) X.A)(l:e7 X.K fd ps ds)(n:aJ dvs ds)
 (q:jr CX X E) (I:Inv X pins d H s) (r:aJ vs us)
 (h:∀x b,H x=none->H b=none->b≠x->sp (.ref x::(vs++dvs)) (upd (upd H b (.own x)) x (.ins C b [])) (λv w=>v= .non/\Q (.ref x) w) E):
 (X⁻¹) (call (.ref C) us) (EP X pins d Q) X.xe s:=by
 have g:=h (⇑s+1) ⇑s (I.hok.fresh (Ye _)) (I.hok.fresh (Zi _)) (Zs (Yn _));have c:=Inv.made (C:=C) I;have i:aJ (V.ref (⇑s+1)::(vs++dvs)) _:= .cons rfl (r.append n);have y:=by
  have e:= ~~~i;rw[F.len _ _ _ _ g]at e;exact e.symm
 refine wpAny_call (AB I.kIn M.makes M.init (beq_iff_eq.mp M.fn) (codeAny_mono (F.run _ X.stack _ _ _ _ _ _ E (j.make C us [])
  (c.env0.make C us []) (l _ _ c.kIn y) i g) λr s' a=>?_))
 cases r with
 | error e=>exact q pins d _ _ e s' c a
 | ok z=>
   cases z with
   | ret u=>
     have%[v,A,B,G,J|L]:=c.after a;subst J;exact%[G,V.ref _,A,B,ρ|L]
   | next=>exact False.elim a
   | brk=>exact False.elim a
   | cont=>exact False.elim a
def C3(M:Mk X.K C f)(F:fF X.prog X.w X.K X.mg X.base CX k f fd ps sp)(d:bX (k+1) X.A)(g:Gl X x)(i:X.mg x∣.ref C)(j:e7 X.K fd ps ds)(l:aJ dvs ds)(n:jr CX X E)
 (u:PA X (e::es) t) (a:(x==("__debug__":Str))=false) (v:starEach (e::es) X.env=(false,eval e X.env)::starEach es X.env) (b:(backTo pos (starEach es X.env)).any (·.1)=false):
 PE X (.Call (.Name x p) (e::es) [] pos) (xp C sp dvs E t):=by
 intro pins s w H Q I h;exact wpAny_Call_Name_kw (rO I g i (callWith_K I.ok.mod.kin M.kp (thP (u pos pins s w H _ I h) λus y vs z c r q=>%[c.kIn|AF M F d j l n c r q]) v b) a)
end
abbrev PK(X:Cx)(a:List Keyword)(t:TA):Prop:=
 ∀pos pins s (b:St) H Q,Inv X pins b H s->t b H Q->(X⁻¹) (evalAll ((backToKw pos (keywordEach a X.env))\2)) (AP X pins b Q) X.xe s
section
variable{X:Cx}{CX:CXT}{k:Nat}{f C:Addr}{fd:FuncData}{ps ks:ZB}{sp:Sp}{E:XK}{x m:Str}{p pos apos kpos:Pos}{e o:Expr}{es:List Expr}{kws:List Keyword}{te ta:TE}{t tk:TA}{nm:Option Str}
def FB:PK X [] vW:=λ_ _ _ _ H Q I h=>wpAny_evalAll_nil %[[],H,I,.nil|h]
def C4(b:PE X e te)(c:PK X kws t):PK X (%[nm,e|kpos]::kws) (xj te t):=by
 intro pos pins s a H Q I h;show wpAny _ _ (evalAll ((do let v<-eval e X.env;standAt pos;pure v)::(backToKw pos (keywordEach kws X.env))\2)) _ _ s;refine wpAny_evalAll_cons (Z2 (thP (b pins s a H _ I h) λu d x g i j l=>Z2 (wpAny_standAt (Z3 ?_))));exact thP (c pos pins d a g _ i l) λus y xs n q r w=>%[x::xs,n,q,.cons j r|w]
variable{g:ZF->ZF->ZF}{gV:List V->List V->List V}
end
structure av (N P:ZB) (sc:Scope):Prop where
 kind:sc.kind= .function
 co:sc.isCoroutine=false
 gen:sc.isGenerator=false
 nd:N.Nodup
 pre:N.take P.length=P
 par:∀x∈P,sc.names.lookup x∣.local\/sc.names.lookup x∣.cell
 nofree:∀y∈sc.names,y.2≠ .free
def p8{kindOf:Str->Option NameKind}:∀{binds:List (Str×Value)} {m:ZC},(∀v,(x,v)∉binds)->bindL kindOf binds m x=m x
 |[],_,_=>rfl
 |(n,v)::r,m,h=>by
  unfold bindL;rw[p8 λw hw=>h w (Zk _ hw)]
  split
  .have:x≠n:=by rintro rfl;exact h v Zm
   simp[this]
  .rfl
def p9{kindOf:Str->Option NameKind}:∀{binds:List (Str×Value)} {m:ZC},(∀v,(x,v)∉binds)->bindC kindOf binds m x=m x
 |[],_,_=>rfl
 |(n,v)::r,m,h=>by
  unfold bindC;rw[p9 λw hw=>h w (Zk _ hw)]
  split
  .rfl
  .have:x≠n:=by rintro rfl;exact h v Zm
   simp[this]
def qa{kindOf:Str->Option NameKind}{x:Str}:∀{P:ZB} {vs:ZF} {i:Nat} {m:ZC},P.Nodup->P[i]?∣x->vs[i]?∣v->kindOf x∣.local->
 bindL kindOf (P.zip vs) m x∣v
 |[],_,_,_,_,h,_,_=>by simp at h
 | _::_,[],_,_,_,_,h,_=>by simp at h
 | p::P,w::vs,0,m,nd,a,b,c=>by
   simp at a b;subst a;subst b;show bindL kindOf ((p,w)::P.zip vs) m p=_;unfold bindL;rw[p8 λv d=>(nodup_cons.mp nd).1 (of_mem_zip d).1,if_pos c];simp
 | p::P,w::vs,i+1,m,nd,a,b,c=>by
   show bindL kindOf ((p,w)::P.zip vs) m x=_;exact qa (nodup_cons.mp nd).2 (a) (b) c
def qb{kindOf:Str->Option NameKind}{x:Str}:∀{P:ZB} {vs:ZF} {i:Nat} {m:ZC},P.Nodup->P[i]?∣x->vs[i]?∣v->kindOf x≠some .local->
 bindC kindOf (P.zip vs) m x∣v
 |[],_,_,_,_,h,_,_=>by simp at h
 | _::_,[],_,_,_,_,h,_=>by simp at h
 | p::P,w::vs,0,m,nd,a,b,c=>by
   simp at a b;subst a;subst b;show bindC kindOf ((p,w)::P.zip vs) m p=_;unfold bindC;rw[p9 λv d=>(nodup_cons.mp nd).1 (of_mem_zip d).1,if_neg c];simp
 | p::P,w::vs,i+1,m,nd,a,b,c=>by
   show bindC kindOf ((p,w)::P.zip vs) m x=_;exact qb (nodup_cons.mp nd).2 (a) (b) c
abbrev start(N:ZB)(vs:List V):St:=vs.map some++List.replicate (~~~N-vs.length) none
abbrev rS(CX:CXT)(P:Program)(w:World)(K:ZA)(mg:ZC)(base:Heap)(N:ZB)(qual:Str)(scope:Scope)(f:Addr)(cd:Value)(A:Around)(outer:List Env)(s:Shared)(H:Hp)(E:XK):Cx where
 prog:=P
 w:=w
 K:=K
 mg:=mg
 base:=base
 A:=A.deeper (envOfC qual scope ⇑s f cd)
 N:=N
 s₀:=s
 H₀:=H
 env:=envOfC qual scope ⇑s f cd
 outer:=outer
 stack:=envOfC qual scope ⇑s f cd::outer
 ex:=[]
 calm:=true
 fn:=λ_=>true
 pn:=[]
 xe:=λe s'=>wpAny (model P w) (A.deeper (envOfC qual scope ⇑s f cd)) (leaving (envOfC qual scope ⇑s f cd) e) (λ_ s''=>CX outer H s E e s'') (λe' s''=>CX outer H s E e' s'') s'
def tU{a:Scope}{n:Nat}{x:Str}(h:a.names.lookup x∣.cell):∃c,(cellsFrom n a.names []).lookup x∣c:=by
 exact isSome_iff_exists.mp (cellsFrom_some a.names n [] (.inl h))
def yS{P:Program}{K:ZA}
 (S:av N ps a) (J:A.handled=none) (g:yQ P w K mg base A outer s H) (T: ~~~vs= ~~~ps) (r:aJ vs us)
 (x:InCallC s ⇑s (bindL (envOfC d a ⇑s f C).kindOf (ps.zip us) λ_=>none) (cellsFrom (⇑s+1) a.names []) (bindC (envOfC d a ⇑s f C).kindOf (ps.zip us) λ_=>none) L):
 Inv (rS CX P w K mg base N d a f C A outer s H E) [] (start N vs) H L:=by
 have M: ~~~ps<= ~~~N:=by have:=congrArg List.length S.pre;rw[Yk]at this;lia
 have%[B,tk,rfl|G]:=x.done;have l:∀b,b∉(rS CX P w K mg base N d a f C A outer s H E).ex:=λb z=>absurd (show b∈([])from z) ∅
 refine%[%[g.mod,S.kind,ρ,ρ,Zi _,λy z c B j=>?_,λy m=>?_,λy c _ h=>?_,λ_=>J,Around.frames_deeper g.frames,.inr %[ρ|ρ],λb z=>absurd z (l b),g.bs,g.bsz,λb _ _=>l b,λb z=>absurd z (l b),g.funs|g.frf],
  rfl,g.bare,Un.kept G,%[_,x.toInCall.ns|λi y v B j U=>?_],λy c h=>%[_|x.cell y c h],g.hok.fresh (Zi _),λy c h=>?_,λp n=>absurd (show p∈([])from n) ∅,g.hok.kept G|?_]
 .exact name_of_addr x.apart (PySem.mem_of_lookup B) (PySem.mem_of_lookup j)
 .rcases m with m|m
  .exact tU m
  .exact absurd rfl (S.nofree _ (PySem.mem_of_lookup m))
 .exact Yd (x.above y c (PySem.mem_of_lookup h))
 .have hi:i< ~~~vs:=by
   unfold start at j;by_cases hi:i< ~~~vs
   .exact hi
   .rw[Ya ↑hi]at j;rw[List.getElem?_replicate]at j
    split at j<;> cases j
  have O:vs[i]?∣v:=by
   unfold start at j;rw[Y9 ↑hi,Zl]at j
   simp_all
  have%[u,I|Q]:=r.get O;have n:ps[i]?∣y:=by
   rw[<-S.pre,Yb ⋯];exact B
  have o:ps.Nodup:=S.pre▸S.nd.sublist (List.take_sublist _ _);refine%[u,Q|?_];rcases S.par y (Z8 n)with k|k
  .exact .inl %[k|qa o n I k]
  .have%[c|e]:=tU k;refine .inr %[.inl k,c,e|?_];have q:=x.cell y c e;rw[qb o n I (by show a.names.lookup y≠_;rw[k];decide)]at q;exact q
 .exact g.hok.fresh (Yd (x.above y c (PySem.mem_of_lookup h)))
 .unfold start;show _= ~~~N;rw[Z9,Z6,List.length_replicate]
  lia
def G9{P:Program}{K:ZA}{U kV z Y d ct oc:Value}
 (lk:K.lookup f=some %[oc,od,.func (fnOf name c g i a U kV z Y an d ct)|ab]) (L:codeIn K d c=true) (S:av N ps a)
 (len:∀vs H Q E,sp vs H Q E-> ~~~vs= ~~~ps)
 (l:∀(A:Around) (outer:List Env) (s:Shared) (H:Hp) (vs:List V) (Q:VK) (E:XK),bX k (A.deeper (envOfC c a ⇑s f d))->sp vs H Q E->
  ∃t,PSs (rS CX P w K mg base N c a f d A outer s H E) i t/\t {nx:=λ_ j=>Q .non j,rt:=Q} (start N vs) H):
 fF P w K mg base CX (k+1) f (fnOf name c g i a U kV z Y an d ct) ps sp:=by
 refine%[len|λA outer s H args us vs Q E M B hb r C=>?_];have KX:=B.mod.kin.keeps λb o e=>(B.bs b o e).1
 have O:=B.mod.nolimit.keeps λb o e=>(B.bs b o e).1
 have m:∀y∈ps.zip us,a.names.lookup y.1∣_\/(a.names.lookup y.1∣_/\((cellsFrom (⇑s+1) a.names []).lookup y.1).isSome=true):=λ⟨n,v⟩ hy=>by
  rcases S.par n (of_mem_zip hy).1 with q|q
  .exact .inl q
  .exact .inr %[q|cellsFrom_some _ _ _ (.inl q)]
 refine codeAny_call_function M.depth (KX _ _ lk) rfl S.co S.gen rfl (PySem.W.codeRec_of KX L) (hb _ _ _ _ (wpAny_newFunctionEnv_cells S.kind m λenv he s1 x=>?_));subst he;refine%[O.keeps x.toInCall.keep|codeAny_func ?_];have%[t,ht|hq]:=l A outer s H vs Q E (M.deeper _) C;have I:Inv (rS CX P w K mg base N c a f d A outer s H E) [] _ H s1:=yS S M.hd B (len _ _ _ _ C) r x;refine wpAny_mono (ht [] s1 _ H _ I hq) (λfl s' p=>?_) λe s' p=>p
 have G:∀{h:St} {j:Hp} {v:V} {u:Value},Inv (rS CX P w K mg base N c a f d A outer s H E) [] h j s'->aN v u->Q v j->CE outer P w H s Q u s':=
  λ{h j v u} J T q=>%[v,j,J.os,J.bare,J.base,J.hok,T|q]
 cases fl with
 | ret u=>
   have%[v,h,j,J,T|q]:=p;exact G J T q
 | next=>
   have%[h,j,J|q]:=p;exact G (v:=V.non) J rfl q
 | brk=>
   have%[_,_,_|q]:=p
   simp_all
 | cont=>
   have%[_,_,_|q]:=p;exact False.elim q
section
variable{X:Cx}{x:Str}{p pos:Pos}{e:Expr}{es:List Expr}{t:TA}{id T:String}{r:List V->Hp->VK->Prop}
abbrev tCB(r:List V->Hp->VK->Prop)(t:TA):TE:=λa H Q=>t a H λvs b=>r vs b Q
def AG(d:cr X (.builtin id) r)(f:Gl X x)(g:X.mg x=none)(i:bootBuiltins x∣.builtin id)(j:PA X (e::es) t)(l:x≠"__name__")(a:(x==("__debug__":Str))=false)
 (m:starEach (e::es) X.env=(false,eval e X.env)::starEach es X.env) (b:(backTo pos (starEach es X.env)).any (·.1)=false):PE X (.Call (.Name x p) (e::es) [] pos) (tCB r t):=by
 intro pins s c H Q I h;exact wpAny_Call_Name_kw (gj I f g i (PyProof.Rows.callWith_builtin1 (thP (j pos pins s c H _ I h) λus n vs o q u v=>d pins n c o vs us Q q u v) m b) l a)
def yT(d:cr X (.type T) r)(f:Gl X x)(g:X.mg x=none)(i:bootBuiltins x∣.type T)(j:PA X (e::es) t)(l:x≠"__name__")(a:(x==("__debug__":Str))=false)
 (m:starEach (e::es) X.env=(false,eval e X.env)::starEach es X.env) (b:(backTo pos (starEach es X.env)).any (·.1)=false):PE X (.Call (.Name x p) (e::es) [] pos) (tCB r t):=by
 intro pins s c H Q I h;exact wpAny_Call_Name_kw (gj I f g i (PyProof.Rows.callWith_type1 (thP (j pos pins s c H _ I h) λus n vs o q u v=>d pins n c o vs us Q q u v) m b) l a)
end
end _L
namespace _H
open PySem PyProof.Rows
section
open PySem.SeqAt
open PySem.AutoSeq1 (wpAny_loadPart')
open PySem.MeetsSeq PySem.MeetsSeq2 PySem.MeetsSeq3
#where
abbrev sIx(n d:Nat):Option Int->Nat
 | none=>d
 | some v=>if v<0 then(v+n).toNat else min v.toNat n
def sIx_none(n d:Nat):sIx n d none=d:=rfl
def sIx_nat(n d k:Nat):sIx n d (some k)=min k n:=by
 show(if k<0 then((k:Int) +n).toNat else min _ n)=min k n;rw[if_neg ⋯,Int.toNat_natCast]
end
end _H
namespace _L
open PySem PySem.Spec PyProof.Rows
noncomputable abbrev TO:=St->Hp->(Option Int->Hp->Prop)->Prop
abbrev PO(X:Cx)(e:Option Expr)(t:TO):Prop:=
 ∀pins s (a:St) H Q,Inv X pins a H s->t a H Q->
  (X⁻¹) (evalPart e X.env) (λu s'=>∃o b,Inv X pins a b s'/\IsPart u o/\Q o b) X.xe s
abbrev rT:TO:=λ_ H Q=>Q none H
abbrev AH(t:TE):TO:=λa H Q=>t a H λx b=>asI x λi=>Q (some i) b
section
variable{X:Cx}{e:Expr}{te:TE}{lo hi:Option Expr}{tl th:TO}{pos p2:Pos}
def C5:PO X none rT:=by
 intro pins s a H Q I h;exact Z3 %[none,H,I,.none|h]
def C6(h:PE X e te):PO X (some e) (AH te):=by
 intro pins s a H Q I hw;refine thP (h pins s a H _ I hw) λu g x b c d f=>?_
 have%[i,rfl|q]:=ir f;have%[t|rfl]:=d;exact%[some i,b,c,.int i t|q]
abbrev SlR(X:Cx)(r:V->Option Int->Option Int->Hp->VK->Prop):Prop:=
 ∀pins s (a:St) H x v b c lo hi d Q,Inv X pins a H s->aN x v->s.heap.IsSliceOf d b c .none->IsPart b lo->IsPart c hi->r x lo hi H Q->
  ∃T id,typeLookup (.type T) "__getitem__"=pure (some (.builtin id))/\s.TypeIs v T/\(X⁻¹) (getItem v (.ref d)) (EP X pins a Q) X.xe s
abbrev tSl(r:V->Option Int->Option Int->Hp->VK->Prop)(te:TE)(tl th:TO):TE:=λa H Q=>te a H λx b=>tl a b λl c=>th a c λu d=>r x l u d Q
def AI(c:SlR X r)(d:PE X e te)(f:PO X lo tl)(g:PO X hi th):PE X (.Subscript e (.Slice lo hi none p2) pos) (tSl r te tl th):=by
 intro pins s a H Q I h;refine Subscript_ (thP (d pins s a H _ I h) λv i x j m n o=>wpAny_Slice (thP (f pins i a j _ m o) λp w l y z pl A=>thP (g pins w a y _ z A) λB C u E G J L=>Z3 ?_));have%[T,id,M,N|O]:=c pins _ a E x v p B l u ⇑C Q (G.kept λb U q=>Z7 _ q) n (Heap.IsSliceOf.new ..) pl J L;exact tail_any N M O (by with_unfolding_all rfl)
abbrev AJ(xs:List V)(lo hi:Option Int):List V:=(xs.drop (_H.sIx xs.length 0 lo)).take (_H.sIx xs.length xs.length hi-_H.sIx xs.length 0 lo)
def tV(xs:List V)(lo hi:Option Int): ~~~(AJ xs lo hi)<= ~~~xs:=by
 unfold AJ;rw[Yk,Yg]
 lia
end
abbrev ixN(n:Nat)(i:Int):Option Nat:=if 0<=i then(if i<n then some i.toNat else none)else if -n<=i then some (i+n).toNat else none
abbrev atI{a:Type}(xs:List a)(i:Int):Option a:=(ixN xs.length i).bind λj=>xs[j]?
def C7(h:ixN n i∣j):seqIndex? i n∣j/\j<n/\ -(n:Int)<=i/\i<n:=by
 unfold ixN at h;by_cases b:0<=i
 .rw[if_pos b]at h;by_cases a:i<n
  .rw[if_pos a]at h;exact%[by rw[seqIndex_of b a,(Za h)],⋯,⋯|a]
  simp_all
 .rw[if_neg b]at h;by_cases a: -n<=i
  .rw[if_pos a]at h;exact%[by rw[seqIndex_neg ⋯ a,(Za h)],⋯,a|⋯]
  .rw[if_neg a]at h;cases h
def rV{a:Type}{xs:List a}{i:Int}{v:a}(h:atI xs i∣v):∃j,seqIndex? i xs.length∣j/\xs[j]?∣v/\j< ~~~xs/\ -xs.length<=i/\i< ~~~xs:=by
 unfold atI at h;cases e:ixN xs.length i with
 | none=>simp_all
 | some j=>
   rw[e]at h;have%[b,c,d|f]:=C7 e;exact%[j,b,h,c,d|f]
def cH{a:Type}{xs:List a}{j:Nat}{v:a}(h:xs[j]?∣v):atI xs j∣v:=by
 have b:=(Xk h).1;have e:ixN xs.length j∣j:=by
  unfold ixN
  simp_all
 unfold atI;exact e▸h
def tW(xs:List a)(v:a):atI (xs++[v]) (-1)∣v:=by
 have b: ~~~(xs++[v])= ~~~xs+1:=by simp
 have e:ixN (xs++[v]).length (-1)∣xs.length:=by
  unfold ixN;rw[b,if_neg (!1),if_pos ⋯]
  congr 1
  lia
 unfold atI
 simp_all
abbrev mG(b:Expr):Prop:=∀o i,subscripted b false o i=operate [o,i] (getItem o i)
abbrev IxR(X:Cx)(r:R2):Prop:=
 ∀b a pins s (c:St) H x y v u Q,Inv X pins c H s->aN x v->aN y u->r x y H Q->
  subscripted a false v u=operate [v,u] (getItem v u)->(X⁻¹) (subscriptTail b a v u) (EP X pins c Q) X.xe s
abbrev MtR(X:Cx)(id:String)(r:V->List V->Hp->VK->Prop):Prop:=
 ∀pins s (a:St) H x xs v us Q,Inv X pins a H s->aN x v->aJ xs us->r x xs H Q->
  (X⁻¹) (call (.builtin id) (v::us)) (EP X pins a Q) X.xe s
section
variable{X:Cx}{a b:Expr}{ta tb:TE}{pos:Pos}
def AK(c:IxR X r)(d:PE X a ta)(e:PE X b tb)(f:mG b):PE X (.Subscript a b pos) (tOp r ta tb):=by
 intro pins s g H Q I h;exact Subscript_ (Fh d e I h λv u i x y j l m n q=>c a b pins i g j x y v u Q l m n q (f _ _))
abbrev FC(K:ZA):R2:=λx y H Q=>asR x λp=>asI y λi=>∃xs,SqL K H p xs/\∃v,atI xs i∣v/\Q v H
abbrev FD(K:ZA):R2:=λx y H Q=>asR x λp=>asI y λi=>∃xs,SqT K H p xs/\∃v,atI xs i∣v/\Q v H
abbrev FE:R2:=λx y H Q=>∃z i c,x= .str z/\y= .int i/\ ~~~z<=sizeLine/\atI z.cps.toList i∣c/\Q (.str ⟨#[c]⟩) H
def C8:IxR X (FC X.K):=by
 intro e f pins s B H x y v u Q I C E h n;have%[p,rfl|g]:=dZ h;have%[i,rfl,xs,G,z,J|q]:=ir g;cases C;have%[t|rfl]:=E;have%[its,r,pl|O]:=I.list G;have%[j,d,g,T,L|M]:=rV J;have%[w,o|l]:=r.get g;have N:= ~~~r;have U:=rQ;have c:EP X pins B Q w s:=%[z,H,I,l|q]
 by_cases A:0<=i
 .have m:=by
   rw[seqIndex_of A M]at d;exact Za d
  exact item_listR pl.isList A ⋯ (by rw[m];simpa using o) c n
 .have m:(i+its.toArray.size).toNat=j:=by
   rw[seqIndex_neg ⋯ L]at d;rw[Zp,<-N];exact Za d
  exact subscriptTail_builtinR pl.isList.typeIs slot_list_getitem.lookup
   (wpAny_getItem_list_neg pl.isList ⋯ (!2) ⋯ (by rw[m];simpa using o) %[rfl|c]) n
def FF:IxR X (FD X.K):=by
 intro c d pins s l H x y v u Q I m n h o;have%[p,rfl|e]:=dZ h;have%[i,rfl,xs,A,z,B|q]:=ir e;cases m;have%[t|rfl]:=n;have%[its,r,pl|G]:=I.tuple A;have%[j,C,e,J,L|M]:=rV B;have%[w,E|f]:=r.get e;have N:=rQ;have g:EP X pins l Q w s:=%[z,H,I,f|q]
 exact subscriptTail_builtinR pl.typeIs slot_tuple_getitem.lookup
  (getItem_tuple pl ⋯ ⋯ (by rw[Zp,<-r.length];exact C) ↑E %[rfl|g]) o
def FG:IxR X FE:=by
 intro d e pins s A H x y v u Q I g l h m;have%[z,i,c,rfl,rfl,B,n|q]:=h;have%[t|rfl]:=g;have%[t'|rfl]:=l;have%[j,f,o,C,p|r]:=rV n;have w: ~~~z.cps.toList= ~~~z:=by simp[Str.length]
 rw[w]at f p r;have E:=rQ;exact tail_any (typeIs_str s z t) slot_str_getitem.lookup (getItem_str (by
  lia) (by rw[f];simpa using o) %[.str _,H,I.tok _,%[_|rfl]|q]) m
def rW(lo hi:Option Int)(n:Nat):(sliceBounds lo hi none n).1=((_H.sIx n 0 lo:Nat):Int)/\(sliceBounds lo hi none n).2.1=((_H.sIx n n hi:Nat):Int)/\(sliceBounds lo hi none n).2.2=1:=by
 refine%[?_,?_|ρ]
 .cases lo with
  | none=>simp[sliceBounds,_H.sIx]
  | some i=>
    simp only[sliceBounds,_H.sIx,getD_none,show(1:Int)>0 by decide,if_true];by_cases h:i<0
    .simp only[h,if_true]<;> lia
    .simp only[h,if_false]<;> lia
 .cases hi with
  | none=>simp[sliceBounds,_H.sIx]
  | some i=>
    simp only[sliceBounds,_H.sIx,getD_none,show(1:Int)>0 by decide,if_true];by_cases h:i<0
    .simp only[h,if_true]<;> lia
    .simp only[h,if_false]<;> lia
def pB(its:ZF)(lo hi:Option Int):slicePick its.toArray lo hi none=((its.drop (_H.sIx its.length 0 lo)).take (_H.sIx its.length its.length hi-_H.sIx its.length 0 lo)).toArray:=by
 have%[c,d|e]:=rW lo hi its.toArray.size;unfold slicePick;rw[c,d,e];simp only[sliceRange_one,pick_run]<;> rfl
abbrev FH(K:ZA):V->Option Int->Option Int->Hp->VK->Prop:=λx lo hi H Q=>∃a xs,x= .ref a/\SqL K H a xs/\∀p,H p=none->Q (.ref p) (upd H p (.lst (AJ xs lo hi)))
def C9:SlR X (FH X.K):=by
 intro pins s l H x v m n lo hi o Q I e f pl g h;have%[a,xs,rfl,i|q]:=h;cases e;have%[its,r,d|j]:=I.list i;have c:= ~~~r;refine%["list",_,slot_list_getitem.lookup,d.isList.typeIs|wpAny_getItem_list_slice d.isList f pl g .none ∅ ?_ (!2)];rw[pB,<-c];refine%[.ref ⇑s,_,I.laid (λb p q=>Z7 _ q) (Zi _) ?_,ρ|q _ (I.hok.fresh (Zi _))];exact%[Yf (tV xs lo hi) j,_,0,(r.drop _).take _|Zj _ rfl]
abbrev jd:V->Bool
 | .non=>true
 | .bl _=>true
 | .int _=>true
 | .str _=>true
 | _=>false
abbrev eqV:V->V->Bool
 | .non,.non=>true
 | .bl a,.bl b=>a==b
 | .bl a,.int b=>(if a then 1 else 0)==b
 | .int a,.bl b=>a==(if b then 1 else 0)
 | .int a,.int b=>a==b
 | .str a,.str b=>a==b
 | _,_=>false
def AL(d:aN y u)(c:aN x v)(f:jd y=true)(e:jd x=true):SeqAt.EqAt A s u v (eqV y x):=by
 cases y with
 | non=>
   cases d;cases x with
   | non=>cases c;exact SeqAt.EqAt.same _
   | bl b=>cases c;exact SeqAt.EqAt.none_bool b
   | int b=>have%[t|rfl]:=c;exact SeqAt.EqAt.none_int b t
   | str b=>have%[t|rfl]:=c;exact SeqAt.EqAt.none_str b t
   | _=>exact absurd (show false=true from e) Zt
 | bl a=>
   cases d;cases x with
   | non=>cases c;exact SeqAt.EqAt.bool_none a
   | bl b=>cases c;exact SeqAt.EqAt.bool_bool a b
   | int b=>have%[t|rfl]:=c;exact SeqAt.EqAt.bool_int a b t
   | str b=>have%[t|rfl]:=c;exact SeqAt.EqAt.bool_str a b t
   | _=>exact absurd (show false=true from e) Zt
 | int a=>
   have%[t'|rfl]:=d;cases x with
   | non=>cases c;exact SeqAt.EqAt.int_none a t'
   | bl b=>cases c;exact SeqAt.EqAt.int_bool a t' b
   | int b=>have%[t|rfl]:=c;exact SeqAt.EqAt.int_int a t' b t
   | str b=>have%[t|rfl]:=c;exact SeqAt.EqAt.int_str a t' b t
   | _=>exact absurd (show false=true from e) Zt
 | str a=>
   have%[t'|rfl]:=d;cases x with
   | non=>cases c;exact SeqAt.EqAt.str_none a t'
   | bl b=>cases c;exact SeqAt.EqAt.str_bool a t' b
   | int b=>have%[t|rfl]:=c;exact SeqAt.EqAt.str_int a t' b t
   | str b=>have%[t|rfl]:=c;exact SeqAt.EqAt.str_str a t' b t
   | _=>exact absurd (show false=true from e) Zt
 | _=>exact absurd (show false=true from f) Zt
abbrev eqU(x:V)(u:Value):Bool:=match u with
 | .none=>eqV .non x
 | .bool b=>eqV (.bl b) x
 | .int i _=>eqV (.int i) x
 | .str z _=>eqV (.str z) x
 | _=>false
def AM(r:aN y u)(f:jd y=true):eqU x u=eqV y x:=by
 cases y with
 | non=>cases r;rfl
 | bl b=>cases r;rfl
 | int i=>have%[t|rfl]:=r;rfl
 | str z=>have%[t|rfl]:=r;rfl
 | _=>exact absurd (show false=true from f) Zt
def jI:∀{xs:List V} {us:ZF},aJ xs us->xs.all jd=true->us.any (eqU x)=xs.any λy=>eqV y x
 | _,_,.nil,_=>rfl
 | y::xs,u::us,.cons r t,f=>by
   rw[all_cons,Zv]at f;rw[Zw,Zw,AM r f.1,jI t f.2]
def iw(d:aN x v)(e:jd x=true):∀{xs:List V} {us:ZF},aJ xs us->xs.all jd=true->∀u∈us,SeqAt.EqAt A s u v (eqU x u)
 | _,_,.nil,_=>λu c=>by cases c
 | y::xs,u::us,.cons r t,f=>λg c=>by
   rw[all_cons,Zv]at f;rcases mem_cons.mp c with rfl|c
   .rw[AM r f.1];exact AL r d f.1 e
   .exact iw d e t f.2 g c
abbrev inV(x:V)(xs:List V):Bool:=xs.any λy=>eqV y x
abbrev rIn(K:ZA)(c:Bool):R2:=λx y H Q=>∃p xs,y= .ref p/\(SqL K H p xs\/SqT K H p xs)/\jd x=true/\xs.all jd=true/\Q (.bl (if c then !inV x xs else inV x xs)) H
def yU:OpR X (compareOp .In) (rIn X.K false):=by
 intro pins s i H x y v u Q I d f h;have%[p,xs,rfl,c,e,fs|q]:=h;cases f;rcases c with c|c
 .have%[its,r,pl|g]:=I.list c;refine SeqAt.in_listAt _ pl.isList (λw hw=>iw d e r fs w ↑hw) %[.bl _,H,I,rfl|?_];rw[show its.toArray.any _=its.any (eqU x) by simp,jI r fs];exact q
 .have%[its,r,pl|g]:=I.tuple c;refine SeqAt.in_tupleAt _ pl (λw hw=>iw d e r fs w ↑hw) %[.bl _,H,I,rfl|?_];rw[show its.toArray.any _=its.any (eqU x) by simp,jI r fs];exact q
def rX:OpR X (compareOp .NotIn) (rIn X.K true):=by
 intro pins s i H x y v u Q I d f h;have%[p,xs,rfl,c,e,fs|q]:=h;cases f;rcases c with c|c
 .have%[its,r,pl|g]:=I.list c;refine SeqAt.notIn_listAt _ pl.isList (λw hw=>iw d e r fs w ↑hw) %[.bl _,H,I,rfl|?_];rw[show its.toArray.any _=its.any (eqU x) by simp,jI r fs];exact q
 .have%[its,r,pl|g]:=I.tuple c;refine SeqAt.notIn_tupleAt _ pl (λw hw=>iw d e r fs w ↑hw) %[.bl _,H,I,rfl|?_];rw[show its.toArray.any _=its.any (eqU x) by simp,jI r fs];exact q
def rY:OpR X (compareOp .NotIn) (λx y H Q=>∃i j,x= .str i/\y= .str j/\Q (.bl (!(!(Builtin.Str.occurrences j i 0 j.length 1).isEmpty))) H):=by
 intro pins s e H x y v u Q I c d h;have%[i,j,rfl,rfl|q]:=h;have%[t|rfl]:=c;have%[t'|rfl]:=d;exact notIn_str %[.bl _,H,I,rfl|q]
def rZ:cr X (.type "list") (λxs H Q=>∃p ys,xs=[.ref p]/\(SqL X.K H p ys\/SqT X.K H p ys)/\∀l,H l=none->Q (.ref l) (upd H l (.lst ys))):=by
 intro pins s A H xs us Q I r h;have%[p,ys,rfl,f|q]:=h;have%[u,rfl|B]:=cG r;cases B;have g:∀its,aJ ys its-> ~~~ys<=sizeLine->∀h' d,(∀b z,s.heap.get? b∣z->h'.get? b∣z)->
  h'.get? ⇑s∣_->EP X pins A Q _ (s>>>h'):=λits c i h' d j e=>
  %[.ref ⇑s,_,I.laid j (Zi _) (show cF X.prog X.w _ h' _ (.lst ys)from%[i,its,d,c|e]),rfl|q _ (I.hok.fresh (Zi _))]
 rcases f with f|f
 .have%[its,c,pl|i]:=I.list f;have m:= ~~~c;have%[o,v,w,n|y]:=pl.isList;exact call_list_seq p (.inl rfl) v w y (λh' d j e=>g its c i h' d j e) (by simp only[Zp]<;> lia)
 .have%[its,c,pl|i]:=I.tuple f;have m:= ~~~c;have%[o,v,w,n|y]:=pl;exact call_list_seq p (.inr rfl) v w y (λh' d j e=>g its c i h' d j e) (by simp only[Zp]<;> lia)
abbrev tyV(K:ZA)(T:String)(x:V)(H:Hp):Prop:=match x with
 | .str _=>T="str"
 | .int _=>T="int"
 | .ref p=>(T="list"/\∃xs,SqL K H p xs)\/(T="tuple"/\∃o,K.lookup p∣o/\o.cls= .type "tuple"/\o.dict=none)\/
  (T="dict"/\((∃c,H p∣.dK c)\/∃c,H p∣.dT c))\/(T="set"/\∃S n,H p∣.set S n)
 | _=>False
def AN(I:Inv X pins q H s)(r:aN x v)(ty:tyV X.K T x H):
 s.TypeIs v T/\∀a,v= .ref a->∃j,s.heap.get? a∣j/\j.dict=none:=by
 cases x with
 | str z=>
   have%[t|rfl]:=r;cases(show T="str" from ty);exact%[typeIs_str s z t|λ_ e=>nomatch e]
 | int i=>
   have%[t|rfl]:=r;cases(show T="int" from ty);exact%[typeIs_int s i t|λ_ e=>nomatch e]
 | ref p=>
   cases r;rcases ty with⟨rfl,xs,l⟩|⟨rfl,o,d,m,f⟩|⟨rfl,d⟩|⟨rfl,S,n,d⟩
   .have%[its,_,pl|_]:=I.list l;refine%[pl.isList.typeIs|λa e=>?_];cases e;have%[o,n,e,c,f|_]:=pl;exact%[o,e|f]
   .refine%[%[o,I.kIn p o d|m]|λa e=>?_];cases e;exact%[o,I.kIn _ o d|f]
   .have z:∃o,s.heap.get? p∣o/\o.ExactDict:=by
     rcases d with⟨g,d⟩|⟨g,d⟩
     .have%[_,_,_,_,o,_,_,e,ex|_]:=I.hok p _ d;exact%[o,e|ex]
     .have%[_,_,_,_,o,_,_,e,ex|_]:=I.hok p _ d;exact%[o,e|ex]
    have%[o,e|ex]:=z;refine%[%[o,e|ex.1]|λa h=>?_];cases h;exact%[o,e|ex.2.1]
   .have%[o,_,_,_,e,ex|_]:=I.hok p _ d;refine%[%[o,e|ex.1]|λa h=>?_];cases h;exact%[o,e|ex.2.1]
 | _=>exact False.elim ty
abbrev Da(K:ZA)(T:String)(r:V->List V->Hp->VK->Prop)(d:TE):TE:=λe H Q=>d e H λx c=>tyV K T x c/\r x [] c Q
abbrev tBM(K:ZA)(T:String)(r:V->List V->Hp->VK->Prop)(e:TE)(t:TA):TE:=λc H Q=>e c H λx d=>tyV K T x d/\t c d λxs f=>r x xs f Q
variable{o e:Expr}{es:List Expr}{to:TE}{t:TA}{name:Str}{apos cpos:Pos}{T id:String}{r:V->List V->Hp->VK->Prop}
def FI(l:PlainAttrs T)(slot:Slot T name id)(f:typeOf (.builtin id)=pure (.type "method_descriptor"))(m:MtR X id r)(n:PE X o to)
 (c:attributeBase o name X.env (eval o X.env)=eval o X.env) (d:(apos.endLine==cpos.line)=true):PE X (.Call (.Attribute o name apos) [] [] cpos) (Da X.K T r to):=by
 intro pins s g H Q I h;refine wpAny_Call_method0_late c d (thP (n pins s g H _ I h) λv p x q i j ⟨ty,u⟩=>?_);have%[w|y]:=AN i j ty;exact%[T,id,l,slot,f,w,y|Calls.callWith_builtin rfl (PySem.evalArgs_none (m pins p g q x [] v [] Q i j .nil u))]
def Ha(p:PlainAttrs T)(slot:Slot T name id)(i:typeOf (.builtin id)=pure (.type "method_descriptor"))(q:MtR X id r)(u:PE X o to)(w:PA X (e::es) t)
 (d:attributeBase o name X.env (eval o X.env)=eval o X.env)
 (g:((backTo cpos (starEach (e::es) X.env)).all (λx=>!x.1)&&(backToKw cpos (keywordEach [] X.env)).all (λx=>x.1.isSome)
  && decide (~~~(e::es)+ ~~~([]:List Keyword)+(if([]:List Keyword).isEmpty then 0 else 1)<30))=true)
 (f:(apos.endLine==cpos.line)=true) (y:starEach (e::es) X.env=(false,eval e X.env)::starEach es X.env) (c:(backTo cpos (starEach es X.env)).any (·.1)=false):
 PE X (.Call (.Attribute o name apos) (e::es) [] cpos) (tBM X.K T r to t):=by
 intro pins s j H Q I h;refine wpAny_Call_method_late d g f rfl (thP (u pins s j H _ I h) λv z x A l m ⟨ty,B⟩=>?_);have%[C|E]:=AN l m ty;refine%[T,id,p,slot,i,C,E|?_];have n:=w cpos pins z j A _ l B;rw[y]at n ⊢;exact Calls.callWith_builtin (by show(false||(backTo cpos _).any _)=false;rw[c]<;> rfl) (Calls.evalArgs_plain (thn n λus G ⟨vs,J,L,M,N⟩=>q pins G j J x vs v us Q L m M N))
end
abbrev MtM(X:Cx)(id:String)(r:V->List V->Hp->VK->Prop):Prop:=
 ∀pins s (a:St) H x xs v us Q,Inv X pins a H s->aN x v->aJ xs us->r x xs H Q->
  (X⁻¹) (call (.builtin id) (v::us)) (EP X pins a Q) X.xe s
def aJ.one:∀{x:V} {us:ZF},aJ [x] us->∃u,us=[u]/\aN x u
 | _,_,.cons r .nil=>%[_,rfl|r]
def aJ.zero:∀{us:ZF},aJ [] us->us=[]
 | _,.nil=>rfl
def aJ.eraseIdx:∀{xs:List V} {us:ZF} i,aJ xs us->aJ (xs.eraseIdx i) (us.eraseIdx i)
 | _,_,_,.nil=> .nil
 | _,_,0,.cons _ t=>t
 | _,_,i+1,.cons r t=> .cons r (aJ.eraseIdx i t)
def aJ.reverse(h:aJ xs us):aJ xs.reverse us.reverse:=by
 induction h with
 | nil=>exact .nil
 | cons r t a=>rw[List.reverse_cons,List.reverse_cons];exact aJ.append a (.cons r .nil)
def aJ.rep(h:aJ xs us):∀k:Nat,aJ (List.replicate k xs).flatten (List.replicate k us).flatten
 | 0=> .nil
 | k+1=>by
   exact aJ.append h (aJ.rep h k)
def qc:∀(l:List a) (i:Nat),~~~(l.eraseIdx i)<= ~~~l
 |[],_=>Zi _
 | _::_,0=>Ye _
 | _::r,i+1=>X7 (qc r i)
def qd(its:ZF):∀k acc,
 List.foldl (λa x2=>a++x2) acc.toArray (List.replicate k its.toArray)=(acc++(List.replicate k its).flatten).toArray
 | 0,acc=>by simp
 | k+1,acc=>by
   have e:acc.toArray++its.toArray=(acc++its).toArray:=by simp
   have b:(acc++its) ++(List.replicate k its).flatten=acc++(List.replicate (k+1) its).flatten:=by
    rw[replicate_succ,List.flatten_cons,Ze]
   rw[<-b,<-qd its k _,<-e,replicate_succ,Y8]
section
#version
variable{l b:Addr}{xs ys zs:List V}
def Inv.lset{its its':ZF}{n:Nat}{f:ZJ->ZJ}{t':Nat}(I:Inv X pins σ H s)(a:H l<*xs)
 (e:s.heap.get? l=some {cls:= .type "list",data:= .seq its.toArray n}) (c:f its.toArray=its'.toArray) (d:aJ ys its') (g: ~~~ys<=sizeLine):
 Inv X pins σ (upd H l (.lst ys)) {s with heap:=s.heap.update l (Obj.mapSeq f),toks:=t'}:=by
 have q:=PySem.IsL.update e f;rw[c]at q;refine I.write (a▸trivial) (.inl rfl) (λj u h i=>(get?_update_other s.heap _ (Ne.symm h)).trans i) %[_|q] ?_;exact%[g,its',_,d|q]
def Inv.lnew(I:Inv X pins σ H s)(a:aJ ys its)(c: ~~~ys<=sizeLine):
 Inv X pins σ (upd H ⇑s (.lst ys)) {s with heap:=s.heap.push {cls:= .type "list",data:= .seq its.toArray},toks:=t'}:=
 I.laid (λ_ _ q=>Z7 _ q) (Zi _) %[c,its,0,a|Zj _ rfl]
def Inv.fresh(I:Inv X pins σ H s):H ⇑s=none:=I.hok.fresh (Zi _)
def Inv.lstM(I:Inv X pins σ H s)(a:H l<*xs): ~~~xs<=sizeLine/\∃its n,aJ xs its/\ ~~~xs= ~~~its/\s.heap.get? l=some {cls:= .type "list",data:= .seq its.toArray n}:=by
 have%[z,its,n,r|e]:=I.hok l _ a;exact%[z,its,n,r,~~~r|e]
def tX{n:Nat}(h:n<=sizeLine):Builtin.List.listTooLong n=false:=by
 unfold Builtin.List.listTooLong
 simp_all
end
section
variable{X:Cx}
abbrev r9:V->List V->Hp->VK->Prop:=λx vs H Q=>asR x λl=>∃y,vs=[y]/\∃xs,H l<*xs/\ ~~~xs<sizeLine/\Q .non (upd H l (.lst (xs++[y])))
def qf:MtM X "list.append" r9:=by
 intro pins s f H x vs v us Q I b c h;have%[l,rfl,y,rfl,xs,a,g|q]:=dZ h;cases b;have%[u,rfl|d]:=c.one;have%[z,its,n,r,i|e]:=I.lstM a;refine call_meets F.slot_list_append %[_,e|rfl] F.entry_list_append (F.args_list_append_2 _ _) (PySem.list_append l its.toArray n u (!2)) %[e,.non,_,I.lset a e ∅ (r.append (.cons d .nil)) ?_,rfl|q];rw[Z9,Yj]
 lia
abbrev sd:V->List V->Hp->VK->Prop:=λx vs H Q=>∃l b xs zs,x= .ref l/\vs=[.ref b]/\H l<*xs/\H b<*zs/\ ~~~xs+ ~~~zs<=sizeLine/\Q .non (upd H l (.lst (xs++zs)))
def yV:MtM X "list.extend" sd:=by
 intro pins s y H x vs v us Q I f g h;have%[l,b,xs,zs,rfl,rfl,d,i,A|q]:=h;cases f;have%[u,rfl|j]:=g.one;cases j;have%[z,its,n,r,B|e]:=I.lstM d;have%[C,its2,m,o,p|w]:=I.lstM i;have c:its.toArray.size+its2.toArray.size<=sizeLine:=!2
 have a: ¬ (!its.toArray.isEmpty&&Builtin.List.listTooLong (its.toArray.size+its2.toArray.size))=true:=by
  rw[tX c,Bool.and_false];exact Zt
 refine call_meets F.slot_list_extend %[_,e|rfl] F.entry_list_extend (F.args_list_extend_2 _ _)
  (AutoSeq1.list_extend_list_list_0 l its.toArray n b its2.toArray m a ⋯ ⋯) %[e,w,.non,_,I.lset d e ∅ (r.append o) ?_,rfl|q]
 simp_all
abbrev Db:R2:=λx y H Q=>∃l b xs zs,x= .ref l/\y= .ref b/\H l<*xs/\H b<*zs/\ ~~~xs+ ~~~zs<=sizeLine/\∀p,H p=none->Q (.ref p) (upd H p (.lst (xs++zs)))
def AO:OpR X (binaryOp .Add) Db:=by
 intro pins s o H x y v u Q I a c h;have%[l,b,xs,zs,rfl,rfl,d,f,p|q]:=h;cases a;cases c;have%[z,its,n,r,w|e]:=I.lstM d;have%[A,its2,B,g,i|j]:=I.lstM f;refine PySem.P.add_list e j ?_ (by rw[Zp,Zp];lia);have m:its.toArray++its2.toArray=(its++its2).toArray:=by simp
 rw[m];exact%[.ref _,_,I.lnew (r.append g) (by rw[Z9];lia),ρ|q _ I.fresh]
abbrev FJ:R2:=λx y H Q=>∃l k xs,x= .ref l/\y= .int k/\H l<*xs/\ -(2^63)<=k/\k<2^63/\ ~~~xs*k.toNat<=sizeLine/\
 ∀p,H p=none->Q (.ref p) (upd H p (.lst (List.replicate k.toNat xs).flatten))
def Dc(xs:List a)(k:Nat):(List.replicate k xs).flatten.length=k* ~~~xs:=by
 simp
def FK:OpR X (binaryOp .Mult) FJ:=by
 intro pins s E H x y v u Q I o p h;have%[l,k,xs,rfl,rfl,w,A,B,j|q]:=h;cases o;have%[t|rfl]:=p;have%[z,its,n,r,C|e]:=I.lstM w;have c:its.toArray.size*k.toNat<=sizeLine:=by rw[Zp,<-C];exact j
 have d: ¬ its.toArray.size*k.toNat>(2^63-1)/8:=by
  have:sizeLine<=(2^63-1)/8:=!1
  lia
 have f: ¬ (!Builtin.List.listFitsIndex k)=true:=by
  rw[fitsIndex_both A B];exact Zt
 have b: ¬ Builtin.List.listTooLong (its.toArray.size*k.toNat)=true:=by
  rw[tX c];exact Zt
 have g:List.foldl (λi x2=>i++x2) #[] (List.replicate (if its.toArray.isEmpty=true then 0 else k.toNat) its.toArray)=(List.replicate k.toNat its).flatten.toArray:=by
  have G:∀m,List.foldl (λi x2=>i++x2) #[] (List.replicate m its.toArray)=(List.replicate m its).flatten.toArray:=λm=>by
   have:=qd its m []
   simp_all
  cases its with
  | nil=>simp
  | cons a J=>simp_all
 refine wpAny_binaryOp_repeat_ref (!1) %[_,e|rfl] (λs'=>typeIs_int s' k t) noFill_list_mul F.fills_int_mul F.slot_int_rmul repeat_list F.slot_int_index.lookup
  (call_meets F.slot_int_rmul (typeIs_int s k t) F.entry_int_rmul (F.args_int_rmul_2 _ _) (int___rmul___int_list k t l its.toArray n)
   %[e,rfl,%[_,e|rfl]|call_meets F.slot_list_mul %[_,e|rfl] F.entry_list_mul (F.args_list_mul_2 _ _) (AutoListH.list___mul___list_int_3 l its.toArray n k t f d b) %[e|?_]])
 rw[g];exact%[.ref _,_,I.lnew (r.rep k.toNat) (by rw[Dc,Nat.mul_comm];exact j),ρ|q _ I.fresh]
#where
end
section
variable{κ:Type}[DecidableEq κ]
abbrev bx(a:List (κ×V))(k:κ):Option V:=(a.find? λb=>decide (b.1=k))\2
abbrev cD(a:List (κ×V))(k:κ)(v:V):List (κ×V):=
 if(a.any λb=>decide (b.1=k))=true then a.map (λb=>if b.1=k then(b.1,v)else b)else a++[(k,v)]
def dO{p:κ×V}{r:List _}{k:κ}(e:p.1=k):bx (p::r) k∣p.2:=by simp[bx,e]
def cQ{p:κ×V}{r:List _}{k:κ}(e: ¬ p.1=k):bx (p::r) k=bx r k:=by simp[bx,e]
def fN(k:κ):∀a,(a.any λb=>decide (b.1=k))=(bx a k).isSome
 |[]=>rfl
 | p::r=>by
   rw[Zw];by_cases e:p.1=k
   .simp only[dO e,Zf e,Bool.true_or,Option.isSome_some]
   .rw[cQ e,Zh e,Bool.false_or];exact fN k r
def e8(a:List _)(k:κ)(v:V): ~~~(cD a k v)<= ~~~a+1:=by
 unfold cD
 split
 .simp
 simp_all
def dq{k:κ}(v:V)(h:bx a k=none):cD a k v=a++[(k,v)]:=by
 unfold cD;rw[fN,h];exact if_neg (!1)
def fJ.isSome_eq(r:fJ o u):o.isSome=u.isSome:=by
 cases o with
 | none=>cases u with
   | none=>rfl
   | some _=>exact(r).elim
 | some _=>cases u with
   | none=>exact(r).elim
   | some _=>rfl
def fJ.getD{o:Option V}{u:Option Value}{d:V}{d':Value}(r:fJ o u)(a:aN d d'):aN (o.getD d) (u.getD d'):=by
 cases o with
 | none=>cases u with
   | none=>exact a
   | some _=>exact(r).elim
 | some _=>cases u with
   | none=>exact(r).elim
   | some _=>exact r
def KV.val{vs:List (κ×Value)}(r:KV a vs)(k:κ):fJ (bx a k) (valueAt vs k):=by
 induction r with
 | nil=>exact True.intro
 | @cons p q ps qs h t f=>
   have%[d|g]:=h;by_cases e:p.1=k
   .have c:=d.symm.trans e;have b:valueAt (q::qs) k∣q.2:=by simp[valueAt,c]
    rw[dO e,b];exact g
   .have c: ¬ q.1=k:=λz=>e (d.trans z)
    have b:valueAt (q::qs) k=valueAt qs k:=by simp[valueAt,c]
    rw[cQ e,b];exact f
def KV.any(r:KV a vs)(k:κ):(a.any λb=>decide (b.1=k))=vs.any λb=>decide (b.1=k):=by
 induction r with
 | nil=>rfl
 | cons h t c=>simp_all
def KV.repl(r:KV c vs)(k:κ)(d:aN y u):
 KV (c.map λa=>if a.1=k then(a.1,y)else a) (vs.map λa=>if a.1=k then(a.1,u)else a):=by
 induction r with
 | nil=>exact .nil
 | @cons p q ps qs h t f=>
   rw[Yp,Yp];refine .cons ?_ f;have%[b|g]:=h;by_cases e:p.1=k
   .rw[if_pos e,if_pos (b.symm.trans e)];exact%[b|d]
   .rw[if_neg e,if_neg (λz=>e (b.trans z))];exact%[b|g]
def KV.put(r:KV a vs)(k:κ)(b:aN y u):KV (cD a k y) (stored vs k u):=by
 unfold cD stored;rw[r.any k];by_cases e:(vs.any λc=>decide (c.1=k))=true
 .rw[if_pos e,if_pos e];exact r.repl k b
 .rw[if_neg e,if_neg e];exact Paired.snoc r %[rfl|b]
def KV.keys{a:List (κ×V)}{vs:List (κ×Value)}(r:KV a vs):a\1=vs\1:=by
 induction r with
 | nil=>rfl
 | cons h t b=>simp_all
def KV.length{a:List (κ×V)}{vs:List _}(r:KV a vs): ~~~a= ~~~vs:=Paired.length r
end
def mU{P:Program}(r:aN (kV k) u):(aQ P w).is k u=true:=by
 cases k with
 | inl i=>have%[t|e]:=(r);subst e;exact tO P w i t
 | inr x=>have%[t|e]:=(r);subst e;exact tP P w x t
def qg{P:Program}:∀{ks:List Key} {us:ZF},aJ (ks.map kV) us->ItemsAre (aQ P w) ks us
 |[],_,r=>by cases r;exact .nil
 | k::ks,_,r=>by
   cases r with
   | cons h t=>exact .cons (mU h) (qg t)
noncomputable abbrev KT(H:Hp):List (List Key×V)->List (List Key×Addr×Value)->Prop:=Paired λp q=>p.1=q.1/\H q.2.1&&&p.1.map kV/\aN p.2 q.2.2
def KT.val{a:List (List Key×V)}{xs:List (List Key×Addr×Value)}(r:KT H a xs)(k:List Key):fJ (bx a k) ((atKey xs k)\2):=by
 induction r with
 | nil=>exact True.intro
 | @cons p q ps qs h t f=>
   have%[d,_|g]:=h;by_cases e:p.1=k
   .have c:=d.symm.trans e;have b:atKey (q::qs) k∣q.2:=by simp[atKey,c]
    rw[dO e,b];exact g
   .have c: ¬ q.1=k:=λz=>e (d.trans z)
    have b:atKey (q::qs) k=atKey qs k:=by simp[atKey,c]
    rw[cQ e,b];exact f
def KT.repl(r:KT H b xs)(k:List Key)(f:aN y u):
 KT H (b.map λc=>if c.1=k then(c.1,y)else c) (xs.map (putAt k u)):=by
 induction r with
 | nil=>exact .nil
 | @cons p q ps qs h t g=>
   rw[Yp,Yp];refine .cons ?_ g;have%[a,d|i]:=h;unfold putAt;by_cases e:p.1=k
   .rw[if_pos e,if_pos (a.symm.trans e)];exact%[a,d|f]
   .rw[if_neg e,if_neg (λz=>e (a.trans z))];exact%[a,d|i]
def KT.put(r:KT H a xs)(k:List Key)(d:H b&&&k.map kV)(c:aN y u):
 KT H (cD a k y) (storedH xs k b u):=by
 have e:(a.any λf=>decide (f.1=k))=(atKey xs k).isSome:=by
  rw[fN,(r.val k).isSome_eq,isSome_map]
 unfold cD storedH;rw[e];by_cases q:(atKey xs k).isSome=true
 .rw[if_pos q,if_pos q];exact r.repl k c
 .rw[if_neg q,if_neg q];exact Paired.snoc r %[rfl,d|c]
def KT.keeps(r:KT H a xs)(c:∀b ys,H b&&&ys->d b&&&ys):KT d a xs:=
 Paired.mapP r λ_ _ z=>%[z.1,c _ _ z.2.1|z.2.2]
section
variable{P:Program}{w:World}{H:Hp}{h:Heap}{a:Addr}
def Ez(ok:HOk P w H h)(e:Rd H a u):cF P w H h a u:=e.ok ok
def tY(ok:HOk P w H h)(e:Rd H a (.dK b)): ~~~b<=sizeLine/\(a==sysModules)=false/\∃vs,KV b vs/\h.DictOf (aQ P w) a vs:=
 Ez ok e
def jJ(ok:HOk P w H h)(e:H a∣.dK b): ~~~b<=sizeLine/\(a==sysModules)=false/\∃vs,KV b vs/\h.DictOf (aQ P w) a vs:=tY ok (.inl e)
def mV(ok:HOk P w H h)(e:H a&&&ks.map kV):(tupleKind (aQ P w)).is h ks a:=by
 have%[_,its,r,o,b,c,n|d]:=(ok a _ e)
 exact%[o,its.toArray,n,b,c,d|qg r]
def tZ(ok:HOk P w H h)(e:Rd H a (.dT b)): ~~~b<=sizeLine/\(a==sysModules)=false/\
 ∃xs,KT H b xs/\h.DictOfH (tupleKind (aQ P w)) a xs:=by
 have%[z,y,xs,r,o,es,d,f,g,i,j|n]:=(Ez ok e)
 refine%[z,y,xs,r,o,es,d,f,g,i,j,λx c=>?_|n];have all:∀{l:List _} {m:List _},KT H l m->∀x∈m,(tupleKind (aQ P w)).is h x.1 x.2.1:=by
  intro l m q
  induction q with
  | nil=>simp
  | @cons p q ps qs u t s=>
    intro x c;rcases mem_cons.mp c with e|c
    .exact mV ok (!2)
    .exact s x c
 exact all r x c
def EA(ok:HOk P w H h)(e:H a∣.dT b): ~~~b<=sizeLine/\(a==sysModules)=false/\
 ∃xs,KT H b xs/\h.DictOfH (tupleKind (aQ P w)) a xs:=tZ ok (.inl e)
end
abbrev bN(H:Hp)(a:Addr)(y:V)(r:Option V):Prop:=
 (∃c k,Rd H a (.dK c)/\y=kV k/\r=bx c k)\/∃c k b,Rd H a (.dT c)/\y= .ref b/\H b&&&k.map kV/\r=bx c k
abbrev eI(H:Hp)(a:Addr)(y v:V)(d:Hp):Prop:=
 (∃c k,H a∣.dK c/\y=kV k/\ ~~~c<sizeLine/\d=upd H a (.dK (cD c k v)))\/
 ∃c k b,H a∣.dT c/\y= .ref b/\H b&&&k.map kV/\ ~~~c<sizeLine/\d=upd H a (.dT (cD c k v))
def bN.k{k:Key}(e:H a∣.dK b):bN H a (kV k) (bx b k):= .inl %[b,k,.inl e,rfl|rfl]
def eI.k{k:Key}(e:H a∣.dK b)(c: ~~~b<sizeLine):eI H a (kV k) v (upd H a (.dK (cD b k v))):= .inl %[b,k,e,rfl,c|rfl]
def eI.t{c:List (List Key×V)}{k:List Key}(e:H a∣.dT c)(d:H b&&&k.map kV)(f: ~~~c<sizeLine):
 eI H a (.ref b) v (upd H a (.dT (cD c k v))):= .inr %[c,k,b,e,rfl,d,f|rfl]
section
#version
variable{a:Addr}{y v:V}{u r:Value}{o:Option V}{A:Around}{E:ZD}
def Inv.big(I:Inv X pins σ H s):sysModules<⇑s:=by
 exact Nat.lt_trans (!1) ((I.mod.glob.keeps I.bk).lt)
def yW(w:A.units+1<cLine)(I:Inv X pins σ H s)(g:bN H a y (some v))(q:aN y u)(h:∀f s',Inv X pins σ H s'->aN v f->Q f s'):
 wpAny (model X.prog X.w) A (getItem (.ref a) u) Q E s:=by
 rcases g with⟨i,k,e,j,l⟩|⟨i,k,b,e,j,B,l⟩
 .subst j;have%[z,C,vs,c|m]:=tY I.hok e;have%[f,hw|d]:=fJ.some_of (l▸c.val k);exact wpAny_getItem_of (mU q) m.mapOf hw (h f _ (I.tok _) d)
 .subst j;cases(q);have%[z,C,xs,c|m]:=tZ I.hok e;have%[f,hw|d]:=fJ.some_of (l▸c.val k);have%[p,G|n]:=map_eq_some_iff.mp hw;refine wpAny_getItem_heap (tupleKind_room_in1 w) (mV I.hok B) m G ?_;rw[n];exact h f _ (I.tok _) d
def d_in(n:A.units+1<cLine)(I:Inv X pins σ H s)(g:bN H a y o)(m:aN y u)(h:∀s',Inv X pins σ H s'->Q (.bool o.isSome) s'):
 wpAny (model X.prog X.w) A (compareOp .In u (.ref a)) Q E s:=by
 rcases g with⟨d,k,e,f,l⟩|⟨d,k,b,e,f,p,l⟩
 .subst f;have%[z,i,vs,c|j]:=tY I.hok e;refine wpAny_in_of (mU m) i j.mapOf ?_;rw[<-(c.val k).isSome_eq,<-l];exact h _ (I.tok _)
 .subst f;cases(m);have%[z,i,xs,c|j]:=tZ I.hok e;refine wpAny_in_heap (tupleKind_room_in1 n) (mV I.hok p) i j ?_;have q:=(c.val k).isSome_eq;rw[isSome_map]at q;rw[<-q,<-l];exact h _ (I.tok _)
def Dd(n:A.units+1<cLine)(I:Inv X pins σ H s)(g:bN H a y o)(m:aN y u)(h:∀s',Inv X pins σ H s'->Q (.bool (!o.isSome)) s'):
 wpAny (model X.prog X.w) A (compareOp .NotIn u (.ref a)) Q E s:=by
 rcases g with⟨d,k,e,f,l⟩|⟨d,k,b,e,f,p,l⟩
 .subst f;have%[z,i,vs,c|j]:=tY I.hok e;refine wpAny_notIn_of (mU m) i j.mapOf ?_;rw[<-(c.val k).isSome_eq,<-l];exact h _ (I.tok _)
 .subst f;cases(m);have%[z,i,xs,c|j]:=tZ I.hok e;refine wpAny_notIn_heap (tupleKind_room_in1 n) (mV I.hok p) i j ?_;have q:=(c.val k).isSome_eq;rw[isSome_map]at q;rw[<-q,<-l];exact h _ (I.tok _)
def mH(I:Inv X pins σ H s)(d:Mut (H a))(e:SameBut a s.heap h')(f:∃q,h'.get? a∣q)(new:cF X.prog X.w (upd H a c) h' a c):
 Inv X pins σ (upd H a c) {s with heap:=h',toks:=t'}:=
 I.write d (.inl rfl) (λb q g z=>(e.2 b g).trans z) f new
def vX{P:Program}(z: ~~~b<=sizeLine)(d:(a==sysModules)=false)(c:KV b vs)(e:h'.DictOf (aQ P w) a vs):
 cF P w f h' a (.dK b):=%[z,d,vs,c|e]
def yX(N:A.units+1<cLine)(I:Inv X pins σ H s)(g:eI H a y v O)(G:aN y u)(J:aN v r)(h:∀s',Inv X pins σ O s'->Q () s'):
 wpAny (model X.prog X.w) A (setItem (.ref a) u r) Q E s:=by
 rcases g with⟨d,k,e,m,l,n⟩|⟨d,k,b,e,m,L,l,n⟩
 .subst m n;have%[z,p,vs,f|w]:=jJ I.hok e;have T: ~~~vs<=sizeLine:= ~~~f▸z;have B: ~~~(cD d k v)<=sizeLine:=by have:=e8 d k v;lia
  exact wpAny_setItem_pairs (mU G) w λh' i C=>h _ (mH I (e▸True.intro) C (let⟨q,_,_,j,_⟩:=i;%[q|j]) (vX B p (f.put k J) i))
 .subst m n;cases(G);have%[z,p,xs,f|w]:=EA I.hok e;have T: ~~~xs<=sizeLine:=(Paired.length f)▸z;have B: ~~~(cD d k v)<=sizeLine:=by have:=e8 d k v;lia
  refine wpAny_setItem_heap (tupleKind_room_in1 N) (mV I.hok L) w λh' i C=>h _ ?_
  have%[q,es,U,j,Y,h3,h4,_|h5]:=i;refine mH I (e▸True.intro) C %[q|j] %[B,p,_,(f.put k L J).keeps λc ys M=>?_,q,es,U,j,Y,h3,h4|h5];rw[ak (GO M e (λz=>nomatch z))];exact M
variable{kvs:List (Key×V)}{k:Key}
end
abbrev FL(i:Expr):Prop:=∀a b,subscripted i false a b=operate [a,b] (getItem a b)
def De{T id:String}
 (m:typeLookup (.type T) "__getitem__"=pure (some (.builtin id))) (n:FL a)
 (h:↥A (eval c env) (λo e=>↥A (eval a env) (λi b=>b.TypeIs o T/\↥A (getItem o i) Q E b) E e) E s):
 ↥A (eval (.Subscript c a pos) env) Q E s:=by
 refine Subscript_ (wpAny_mono h (λo e g=>wpAny_mono g (λi b d=>?_) λ_ _ x=>x) λ_ _ x=>x);have%[p|d]:=d;refine Z2 (Z2 (wpAny_specialOf p m ?_));have l:↥A (subscripted a false o i) (λr f=>↥A (letTemporaryGo c o r>>= λ_=>pure r) Q E f) E b:=by
  rw[n o i];exact wpAny_operating (wpAny_mono d (λr f j=>Z2 (wpAny_letTemporaryGo (Z3 j))) λ_ _ x=>x)
 first
  | exact Z3 (Z2 l)
  | lia
  | lia
def t4{X:Cx}(I:Inv X pins f H s)(g:bN H a y o):s.TypeIs (.ref a) "dict":=by
 rcases g with⟨c,k,e,_,_⟩|⟨c,k,b,e,_,_,_⟩
 .have%[_,_,vs,_|d]:=tY I.hok e;exact d.typeIs
 .have%[_,_,xs,_|d]:=tZ I.hok e;exact d.typeIs
abbrev AQ(d ty:TE):TE:=λb H Q=>d b H λx e=>ty b e λy c=>∃a v,x= .ref a/\bN c a y (some v)/\Q v c
abbrev Df(ty d:TE):TE:=λb H Q=>ty b H λy e=>d b e λx c=>∃a o,x= .ref a/\bN c a y o/\Q (.bl o.isSome) c
abbrev sf(ty d:TE):TE:=λb H Q=>ty b H λy e=>d b e λx c=>∃a o,x= .ref a/\bN c a y o/\Q (.bl (!o.isSome)) c
abbrev lI(d ty e:TE):TS:=λD b H=>e b H λv f=>d b f λx g=>ty b g λy h=>∃a c,x= .ref a/\eI h a y v c/\D.nx b c
section
variable{X:Cx}{o i e value:Expr}{pos pos' tpos:Pos}{td ty tv:TE}
def Dg(f:X.A.units+1<cLine)(j:PE X o td)(hi:PE X i ty)(l:FL i):PE X (.Subscript o i pos) (AQ td ty):=by
 intro pins s c H Q I h;refine De PySem.F.slot_dict_getitem.lookup l (thP (j pins s c H _ I h) λu m x n p q r=>thP (hi pins m c n _ p r) λC E y w d z ⟨a,v,ex,g,A⟩=>?_);subst ex;obtain rfl:u=Value.ref a:=q;exact%[t4 d g|yW f d g z λG J B b=>%[v,w,B,b|A]]
def AR(c:X.A.units+1<cLine)(hi:PE X i ty)(d:PE X o td):PC X .In i o (Df ty td):=by
 intro pins s b H Q I h;refine thP (hi pins s b H _ I h) λA f y j l m n=>thP (d pins f b j _ l n) λu B x p q r ⟨a,v,ex,g,w⟩=>?_
 subst ex;obtain rfl:u=Value.ref a:=r;exact d_in c q g m λC z=>%[.bl v.isSome,p,z,rfl|w]
def yY(c:X.A.units+1<cLine)(hi:PE X i ty)(d:PE X o td):PC X .NotIn i o (sf ty td):=by
 intro pins s b H Q I h;refine thP (hi pins s b H _ I h) λz f y j l m n=>thP (d pins f b j _ l n) λu A x p q r ⟨a,B,ex,g,v⟩=>?_
 subst ex;obtain rfl:u=Value.ref a:=r;exact Dd c q g m λC w=>%[.bl _,p,w,rfl|v]
def Dh(c:X.A.units+1<cLine)(d:PE X o td)(hi:PE X i ty)(f:PE X value tv)(j:swapsWith value (some (.Subscript o i pos')) pos.line X.env=pure false):
 PS X (.Assign [.Subscript o i pos'] value pos) (lI td ty tv):=by
 intro pins s b H D I h;refine wpAny_Assign_Subscript (thP (f pins s b H _ I h) λr l v m n p q=>thP (d pins l b m _ n q) λu w x z A B C=>thP (hi pins w b z _ A C) λN O y Q E G ⟨a,J,ex,g,L⟩=>?_) j;subst ex;obtain rfl:u=Value.ref a:=B;exact yX c E g G p λT M=>%[b,J,M|L]
end
def AS{P:Program}(h:Heap)(a:sysModules<h.objs.size):cF P w H (h.push {cls:= .type "dict",data:= .dict #[]}) h.objs.size (.dK []):=
 %[Xd _,beq_eq_false_iff_ne.mpr (Ne.symm (Zs a)),[],.nil|Heap.DictOf.new h]
def AT{P:Program}(h:Heap)(a:sysModules<h.objs.size):cF P w H (h.push {cls:= .type "dict",data:= .dict #[]}) h.objs.size (.dT []):=
 %[Xd _,beq_eq_false_iff_ne.mpr (Ne.symm (Zs a)),[],.nil,_,#[],0,Zj _ rfl,%[rfl,rfl|rfl],rfl,rfl|X1]
abbrev vY:TE:=λ_ H Q=>∀p,H p=none->Q (.ref p) (upd H p (.dK []))
abbrev vZ:TE:=λ_ H Q=>∀p,H p=none->Q (.ref p) (upd H p (.dT []))
section
variable{X:Cx}{pos:Pos}
def AU:PE X (.Dict [] [] pos) vY:=λpins s a H Q I h=>
 wpAny_Dict_empty %[.ref ⇑s,_,I.laid (λ_ _ q=>Z7 _ q) (Zi _) (AS s.heap I.big),rfl|h _ (I.hok.fresh (Zi _))]
def AV:PE X (.Dict [] [] pos) vZ:=λpins s b H Q I h=>
 wpAny_Dict_empty %[.ref ⇑s,_,I.laid (a:=⇑s) (o:= .dT []) (t':=s.toks) (λ_ _ q=>Z7 _ q) (Zi _) (AT s.heap I.big),rfl|h _ (I.hok.fresh (Zi _))]
end
abbrev gu(a more:List (Key×V)):List (Key×V):=more.foldl (λacc b=>cD acc b.1 b.2) a
def KV.merge:∀{more:List _} {rs:List _} {a:List _} {vs:List _},KV more rs->KV a vs->KV (gu a more) (merged vs rs):=by
 intro more rs a vs r
 induction r generalizing a vs with
 | nil=>intro q;exact q
 | @cons p q ps qs h t b=>
   intro c;have e:KV (cD a p.1 p.2) (stored vs q.1 q.2):=by
    have:=c.put p.1 h.2;exact h.1▸this
   exact b e
def je:∀more a,~~~(gu a more)<= ~~~a+ ~~~more
 |[],a=>by show ~~~a<= ~~~a+0;lia
 | p::r,a=>by
   have b:=je r (cD a p.1 p.2);have c:=e8 a p.1 p.2;show(gu _ r).length<=_
   grind
structure M1 (X:Cx) (o:Expr) (m:Str) (apos:Pos) (e:Expr) (cpos:Pos):Prop where
 base:attributeBase o m X.env (eval o X.env)=eval o X.env
 few:((backTo cpos (starEach [e] X.env)).all (λx=>!x.1)&&(backToKw cpos (keywordEach [] X.env)).all (λx=>x.1.isSome)
  && decide (~~~([e])+ ~~~([]:List Keyword)+(if([]:List Keyword).isEmpty then 0 else 1)<30))=true
 line:(apos.endLine==cpos.line)=true
 trees:backTo cpos (starEach [e] X.env)=[(false,eval e X.env)]
structure M2 (X:Cx) (o:Expr) (m:Str) (apos:Pos) (e f:Expr) (cpos:Pos):Prop where
 base:attributeBase o m X.env (eval o X.env)=eval o X.env
 few:((backTo cpos (starEach [e,f] X.env)).all (λx=>!x.1)&&(backToKw cpos (keywordEach [] X.env)).all (λx=>x.1.isSome)
  && decide (~~~([e,f])+ ~~~([]:List Keyword)+(if([]:List Keyword).isEmpty then 0 else 1)<30))=true
 line:(apos.endLine==cpos.line)=true
 trees:backTo cpos (starEach [e,f] X.env)=[(false,eval e X.env),(false,eval f X.env)]
section
#version
variable{a:Addr}{y d:V}{u r:Value}{o:Option V}{A:Around}{E:ZD}
variable{o:Expr}{e:Expr}{f:Expr}{apos:Pos}{cpos:Pos}{td:TE}{ty:TE}{tx:TE}
variable{kvs:List (Key×V)}
end
end _L
namespace _A
open PySem PySem.W PySem.Calls PyProof.Rows
def mj{P:Params}:∀(c:ZL) (vs:ZF),WellAll P h vs (c.map WData.int)->IntsAre vs c:=by
 intro c
 induction c with
 | nil=>
   intro vs w;cases w;exact .nil
 | cons n c d=>
   intro vs w;cases w with
   | cons a b=>
     cases a;exact .cons _ _ (d _ b)
def yZ{l:OpenLaw}(o:l.most∣n){P:Params}
 (b:l.row.toRowW.claim.pre args=true) (j:WellAll P h e args):
 ∃a vs c,e=[Value.ref a]/\args=[WData.list (c.map WData.int)]/\h.get? a=some {cls:= .type "list",data:= .seq vs.toArray}/\IntsAre vs c/\ ~~~c<=n:=by
 have m:l.pre.holds [] _=true:=(pre_splitW b).2;have%[d,r,rfl,p|q]:=hasAllW_cons ((pre_splitW b).1);obtain rfl:=hasAllW_nil q;have%[xs,rfl|s]:=hasW_list p;have%[c|rfl]:=items_int s;have f: ~~~c<=n:=by
  unfold OpenLaw.pre at m;have i:=by
   have i:=(holds_andW m).1;rw[o]at i;exact i
  have y:=condW_of i (w_not (w_lt w_lit (w_len_list (w_arg rfl))))
  grind
 cases j with
 | cons u v=>
   cases v;cases u with
   | list w g=>exact%[_,_,c,ρ,ρ,w,mj c _ g|f]
def y3(l:OpenLaw)(args:List WData):l.row.toRowW.claim.post args (.bool true) args=true:=
 postW_of
  (by first|rfl|simp|lia)
  (w_eq_bool (w_res rfl) w_lit) rfl
def attach_call{l:OpenLaw}{n:Nat}{q:Program}
 (I:l.most∣n) (u:d.params.defaults=[])
 (call:∀(w:World) (s₀ b:Shared) (mg v:ZC) (h:Addr) (o:Obj) (y p c:Value) (a:Addr) (vs:ZF) (s:ZL),
  Ground q e [] J w s₀ mg v b.heap->L w b.heap->
  b.heap.get? h∣o->o.data= .func (docDef d.name d.params d.body d.scope y p c)->b.heap.CodeRec p d.name->mg d.name∣.ref h->
  b.heap.get? a=some {cls:= .type "list",data:= .seq vs.toArray}->IntsAre vs s-> ~~~s<=n->b.gens= #[]->
  codeAny (model l.prog w) callerA (.call (.ref h) %[[.ref a]|[]]) (λr s'=>r= .ok (.ret (.bool true))/\OldK b.heap s'.heap/\s'.os=b.os/\AllBare s'.gens) b):
 WalkO q e J L l.row.toRowW d [] (λf vs=>PySem.call f vs):=by
 intro w s₀ b mg v G Y h o y p c M kV N O z C A Q args E as i H T B U;obtain rfl:M= .none:=Dflts.none C u;obtain rfl:kV= .none:=Dflts.noKw C;have%[a,vs,s,rfl,rfl,j,g|m]:=yZ I i B;refine enter_call (codeAny_mono (call w s₀ b mg v h o y p c a vs s G Y N (fd_plain O) z A j g m Q) λr s' hq=>?_);have%[rfl,h2,h3|h4]:=hq;exact%[.inl %[.bool true,.bool true,[],ρ,λ_=>rfl,.bool true,y3 l _|λ_=>%[List.Pairwise.nil|λ_ hm=>(nomatch hm)]],h2,h3|h4]
section
#where
variable{K:Frag}
end
end _A
namespace _L
open PySem PySem.Spec PyProof.Rows
def qh:∀{vs:ZF} {a:ZL},IntsAre vs a->aJ (a\4) vs
 | _,_,.nil=> .nil
 | _,_,.cons n t h=> .cons %[t|rfl] (qh h)
abbrev Di(H:Hp):Prop:=∀b,H b=none\/∃o xs,H b∣.frz o (.lst xs)
def law_call{P:Program}{K:ZA}{mg I:ZC}{vs:ZF}
 (U:K.In c.heap) (p:c.heap.Ns mainGlobals mg) (g:c.heap.Ns builtinsNs I) (J:∀x:Str,x≠"__name__"->I x=bootBuiltins x) (y:c.heap.NoLimit) (hg:c.gens= #[])
 (L:c.heap.get? a=some {cls:= .type "list",data:= .seq vs.toArray}) (hi:IntsAre vs M) (Y: ~~~M<=sizeLine) (hr:bX k callerA)
 (F:∀base:Heap,K.In base->base.Ns mainGlobals mg->fF P w K mg base CX k fa fd [x] sp) (l:∀(s:Shared) (u:Value),BindsTo s fd %[[u]|[]] [(x,u)])
 (N:∀H:Hp,Di H->SqL K H a (M\4)->sp [.ref a] H (λv _=>v= .bl true) λ_ _ _=>False)
 (O:∀H e s',CX [] H c (λ_ _ _=>False) e s'->False):
 codeAny (model P w) callerA (.call (.ref fa) %[[.ref a]|[]]) (λr s'=>r= .ok (.ret (.bool true))/\OldK c.heap s'.heap/\s'.os=c.os/\AllBare s'.gens) c:=by
 have rv:=qh hi;have j:∀H,Di H->SqL K H a (M\4)->HOk P w H c.heap->(∀b,H b≠none->b=a)->(H a≠none->K.lookup a=none)->
  codeAny (model P w) callerA (.call (.ref fa) %[[.ref a]|[]]) (λr s'=>r= .ok (.ret (.bool true))/\OldK c.heap s'.heap/\s'.os=c.os/\AllBare s'.gens) c:=by
  intro H hO hS A hA hK;have f:∀{b:Addr} {o:Obj},c.heap.get? b∣o->H b=none->(yA c.heap H).get? b∣o:=λe n=>z8 e n
  have Q:∀{b:Addr} {o:Obj} {es:Array DictEntry} {G:Nat},c.heap.get? b∣o->o.data= .dict es G->H b=none:=λ{b o es G} e d=>by
   grind
  have i:∀{b:Addr} {m:ZC},c.heap.Ns b m->(yA c.heap H).Ns b m:=λ{b m} ⟨o,es,G,e,d,r⟩=>%[o,es,G,f e (Q e d),d|r]
  have B:=λb o e=>f (U b o e) (by
   grind)
  refine codeAny_mono ((F _ B (i p)).run callerA [] c H _ _ [.ref a] _ _ hr %[rfl,%[B,i p,%[I,i g|J]|let⟨mc,h1,h2⟩:=y;%[mc,i h1|h2]],λb o e=>CC e,Nat.le_of_eq (yB _ _),trivial,λb g=>absurd (show b∈([])from g) ∅,A|.of_eq hg] (l c _) (.cons rfl .nil) (N H hO hS)) λr s' h=>?_
  cases r with
  | error e=>exact(O H e s' h).elim
  | ok fl=>
    cases fl with
    | next=>exact False.elim h
    | brk=>exact False.elim h
    | cont=>exact False.elim h
    | ret u=>
      have%[v,H',os,C,un,E,r'|q]:=h;subst q;obtain rfl:u=Value.bool true:=r';refine%[ρ,OldK.of_keep λb o e=>?_,os|C];cases q:H b with
      | none=>exact un.keep b o e q (by intro z;exact absurd (show b∈([])from z) ∅) ∅
      | some u=>
        rcases hO b with z|⟨ob,xs,z⟩
        .rw[q]at z;cases z
        .have%[e1|_]:=A b _ z;have%[e2|_]:=E b _ (un.frzs b ob _ z);rw[e]at e1;cases e1;exact e2
 cases T:K.lookup a with
 | some o=>
   have e:=U a o T;rw[L]at e;cases e;refine j _ (λ_=> .inl rfl) (.inr %[_,vs.toArray,_,T,rfl,rfl,rfl,by rw[Zp,~~~hi];exact Y|rv]) (λb u z=>!2) (λb z=>absurd rfl z) λz=>absurd rfl z
 | none=>
   refine j (λb=>if b=a then some (.frz {cls:= .type "list",data:= .seq vs.toArray} _)else none) (λb=>?_) (.inl (.inr %[{cls:= .type _,data:= .seq vs.toArray}|if_pos rfl])) (λb u z=>?_) (λb z=>?_) λ_=>T
   .by_cases g:b=a
    .exact .inr %[_,_|if_pos g]
    .exact .inl (if_neg g)
   .by_cases g:b=a
    .have z':=(if_pos g).symm.trans z;cases z';subst g;exact%[L,by rw[Z6];exact Y,vs,_,rv|L]
    simp_all
   .by_cases g:b=a
    .exact g
    .exact absurd (if_neg g) z
def walk_of{l:PySem.W.OpenLaw}{J:(Str->Option Value)->Heap->Prop}{E:World->Heap->Prop}{d:DefRec}{K:Params->ZA}{CX:World->CXT}{sp:World->Sp}{x:Str}
 (L:l.most∣n) (p:n<=sizeLine) (r:d.params.defaults=[]) (M:bX k callerA)
 (N:∀(w:World) (h:Heap),E w h->(K w.params).In h)
 (F:∀(w:World) (mg:ZC) (j:Addr) (h:Heap),(K w.params).In h->h.Ns mainGlobals mg->mg d.name∣.ref j->
  ∃y:FuncData,(∀(s:Shared) (u:Value),BindsTo s y %[[u]|[]] [(x,u)])/\
   ∀base:Heap,(K w.params).In base->base.Ns mainGlobals mg->fF l.prog w (K w.params) mg base (CX w) k j y [x] (sp w))
 (z:∀(w:World) (H:Hp) (a:Addr) (m:ZL),~~~m<=n->Di H->SqL (K w.params) H a (m\4)->sp w [.ref a] H (λv _=>v= .bl true) λ_ _ _=>False)
 (A:∀(w:World) (H:Hp) (s:Shared) (e:Value) (s':Shared),CX w [] H s (λ_ _ _=>False) e s'->False):
 PySem.W.WalkO q B J E l.row.toRowW d [] (λf vs=>PySem.call f vs):=by
 refine _A.attach_call L r λw s₀ g mg mb j o pm cd O a vs m G Y ho hd Q C i c b T=>?_
 have I:=N w _ Y;have%[y,U|hF]:=F w mg j _ I G.T.g C;exact law_call I G.T.g G.T.b G.T.builtins G.T.nolimit T i c (Yf b p) M hF U (λH hO hS=>z w H a m b hO hS) λH e s'=>A w H g e s'
abbrev jK(s:Stmt)(j:Nat):Stmt:=match s with
 | .ClassDef _ _ _ a _ _ _ _ _ _ _=>a.getD j (.Pass %[0,0,0|0])
 | _=> .Pass %[0,0,0|0]
abbrev dc(s:Stmt):Arguments:=match s with
 | .FunctionDef _ a _ _ _ _ _ _ _ _=>a
 | _=>{posonlyargs:=[],args:=[],vararg:=none,kwonlyargs:=[],kw_defaults:=[],kwarg:=none,defaults:=[]}
abbrev cb(s:Stmt):List Stmt:=match s with
 | .FunctionDef _ _ b _ _ _ _ _ _ _=>b
 | _=>[]
abbrev ao(s:Stmt):Scope:=match s with
 | .FunctionDef _ _ _ _ _ _ a _ _ _=>a
 | _=>{kind:= .function,names:=[],isGenerator:=false,isCoroutine:=false}
noncomputable abbrev CX0:CXT:=λ_ _ _ _ _ _=>False
noncomputable abbrev E0:XK:=λ_ _ _=>False
def AW{X:Cx}:jr CX0 X E0:=λ_ _ _ _ _ _ _ h=>h.elim
structure Fun (K:ZA) (x qual:Str) (st:Stmt) (f:Addr) (fd:FuncData):Prop where
 ex:∃oc od kV doc pm an cdv ct osl,
  fd=fnOf x qual (dc st) (cb st) (ao st) .none kV doc pm an cdv ct/\K.lookup f=some %[oc,od,.func fd|osl]/\codeIn K cdv qual=true
 kp:keepIn K (.ref f)=true
section
variable{P:Program}{w:World}{K:ZA}{mg:ZC}{base:Heap}
def Fun.ok{x a:Str}{st:Stmt}{f:Addr}{g:FuncData}{N ps:ZB}{k:Nat}{sp:Sp}(F:Fun K x a st f g)(S:av N ps (ao st))(len:∀vs H Q E,sp vs H Q E-> ~~~vs= ~~~ps)
 (c:∀b (A:Around) (outer:List Env) s H (vs:List V) Q E,bX k (A.deeper (envOfC a (ao st) ⇑s f b))->sp vs H Q E->
  ∃t,PSs (rS CX0 P w K mg base N a (ao st) f b A outer s H E).nox (cb st) t/\t {nx:=λ_ i=>Q .non i,rt:=Q} (start N vs) H):fF P w K mg base CX0 (k+1) f g ps sp:=by
 have%[n,o,kV,j,p,r,b,ct,l,rfl,lk|d]:=F.ex;refine G9 lk d S len λA outer s H vs Q E m e=>?_
 have%[t,h|q]:=c b A outer s H vs Q E m e;exact%[t,h.nox|q]
def Fun.binds{st:Stmt}(F:Fun K x c st f g)
 (h:∀(kV a d:Value) (e:ZI) (b ct:Value) (us:ZF),~~~us= ~~~ps->bindArgs (fnOf x c (dc st) (cb st) (ao st) .none kV a d e b ct) %[us|[]]=pure (ps.zip us)):e7 K g ps []:=by
 have%[l,m,kV,a,d,e,b,ct,i,rfl,lk|j]:=F.ex;exact .all (h kV a d e b ct)
def eJ{st:Stmt}{kV d e b ct:Value}(l:K.lookup f=some %[i,j,.func (fnOf x a (dc st) (cb st) (ao st) .none kV d e h b ct)|g])
 (c:codeIn K b a=true) (k:keepIn K (.ref f)=true):Fun K x a st f (fnOf x a (dc st) (cb st) (ao st) .none kV d e h b ct):=%[%[i,j,kV,d,e,h,b,ct,g,rfl,l|c]|k]
variable{X:Cx}
def pv(i:Nat)(b:X.N[i]?∣x)(c:Vis X.env.scope x)(d:(x==("__debug__":Str))=false)
 (a:(x==("__classdict__":Str))=false):PE X (.Name x pos) (pj i):=Aa b c d a
end
def y4{A B:Prop}(h:B):if false=true then A else B:=by
 simp_all
def bC{c A B:Prop}[Decidable c](a:c->A)(b: ¬ c->B):if c then A else B:=by
 simp_all
abbrev ah(H a:Hp):Prop:=∀b o,H b∣o->a b∣o
def ah.refl(H:Hp):ah H H:=λ_ _ h=>h
def ah.trans{H d e:Hp}(a:ah H d)(b:ah d e):ah H e:=λc o h=>b c o (a c o h)
def ah.free{H a:Hp}(e:ah H a){l:Addr}(h:a l=Option.none):H l=Option.none:=by
 cases q:H l with
 | none=>rfl
 | some o=>
   rw[e l o q]at h;cases h
def ah.seq{K:ZA}(e:ah H b)(h:SqL K H a xs):SqL K b a xs:=by
 rcases h with(h|⟨o,h⟩)|h
 .exact .inl (.inl (e _ _ h))
 .exact .inl (.inr %[o|e _ _ h])
 .exact .inr h
section
variable{X:Cx}
end
section
variable{κ:Type}[DecidableEq κ]
def AX{a:List (κ×V)}(h:bx a k=none): ¬ k∈a\1:=by
 intro m;have%[p,b|e]:=Xn m;have q:(a.any λc=>decide (c.1=k))=true:=any_eq_true.mpr %[p,b|Zf e];rw[fN,h]at q;exact absurd q ∅
def xq{a:List (κ×V)}(h:bx a k∣v):k∈a\1:=by
 have q:(a.any λb=>decide (b.1=k))=true:=by
  rw[fN,h]
  all_goals rfl
 simp_all
def mI:∀{l:List κ} {k:κ},l.Nodup-> ¬ k∈l->(l++[k]).Nodup
 |[],k,_,_=>by simp
 | a::r,k,h,b=>by
   have%[c|d]:=nodup_cons.mp h;refine nodup_cons.mpr %[λm=>?_|mI d λm=>b (mem_cons.mpr (Or.inr m))];rcases Xl m with q|q
   .exact c q
   .exact b (mem_cons.mpr (Or.inl (Xm q).symm))
end
abbrev mW(env:Env):List (Str×NameKind)->List (Str×Addr)->List (Str×Addr)
 |[],acc=>acc
 |(n,k)::r,acc=>mW env r (if k= .free then(n,(env.cells.lookup n).getD 0)::acc else acc)
def mX:∀(names:List (Str×NameKind)) (acc:List (Str×Addr)),(∀y∈names,y.2= .free->∃c,env.cells.lookup y.1∣c)->
 (forIn names acc λx r=>match x with
  |(name,kind)=>if(kind==NameKind.free)=true then do let a<-cellOf env name;pure (ForInStep.yield ((name,a)::r))else pure (ForInStep.yield r):Sem (List (Str×Addr)))=pure (mW env names acc)
 |[],acc,_=>rfl
 |(n,k)::r,acc,h=>by
  have d:=λacc=>mX r acc λy f=>h y (Zk _ f)
  rw[forIn_cons];by_cases b:k= .free
  .subst b;have%[c|e]:=h _ Zm rfl;have g:cellOf env n=pure c:=by unfold cellOf;rw[e]
   simp only[beq_self_eq_true,if_true,g,pure_bind];rw[d];show _=pure (mW env r _);rw[if_pos rfl,e]
   all_goals rfl
  .have i:(k==NameKind.free)=false:=↑b
   simp only[i,Zz,if_false,pure_bind];rw[d];show _=pure (mW env r _);rw[if_neg b]
def Dj(h:∀y∈a.names,y.2= .free->∃c,env.cells.lookup y.1∣c):closureFor a env=pure (mW env a.names []):=by
 unfold closureFor;simp only[bind_pure];exact(mX a.names [] h)
def t5:∀(names:List (Str×NameKind)) (acc:List (Str×Addr)),(∀y∈names,y.2= .free->∃c,env.cells.lookup y.1∣c)->
 (∀y d,acc.lookup y∣d->env.cells.lookup y∣d)->(mW env names acc).lookup x∣c->env.cells.lookup x∣c
 |[],acc,_,a,e=>a x c e
 |(n,k)::r,acc,h,a,e=>by
  refine t5 r _ (λy b=>h y (Zk _ b)) (λy d q=>?_) e;by_cases f:k= .free
  .rw[if_pos f,Yl]at q;have%[g|i]:=h _ Zm f;cases b:y==n with
   | true=>
     simp_all
   | false=>rw[b]at q;exact a y d q
  .rw[if_neg f]at q;exact a y d q
def mY:∀(names:List (Str×NameKind)) (acc:List (Str×Addr)),(∃c,acc.lookup x∣c)->∃c,(mW env names acc).lookup x∣c
 |[],_,h=>h
 |(n,k)::r,acc,h=>by
  refine mY r _ ?_;by_cases a:k= .free
  .rw[if_pos a,Yl];cases b:x==n with
   | true=>exact%[_|ρ]
   | false=>exact h
  .rw[if_neg a];exact h
def mZ:∀(names:List (Str×NameKind)) (acc:List (Str×Addr)),(x,NameKind.free)∈names->∃c,(mW env names acc).lookup x∣c
 |[],_,h=>by simp at h
 |(n,k)::r,acc,h=>by
  rcases mem_cons.mp h with e|h
  .refine mY r _ ?_
   simp_all
  .exact mZ r _ h
abbrev bO(X:Cx)(a:Scope)(d:ZB)(b:Shared)(c:Hp)(e:List Addr):Cx:=
 {X with
  N:=d
  s₀:=b
  H₀:=c
  env:=compEnvC a (cellsFrom (⇑b+1) a.names (mW X.env a.names [])) ⇑b X.env
  outer:=X.stack
  stack:=X.stack
  ex:=e
  fn:=λx=>decide (a.names.lookup x∣.cell)
  pn:=[]
  xe:=λ_ _=>False}
structure aC (X:Cx) (scope:Scope) (N':ZB) (cap:List (Nat×Nat)):Prop where
 kind:scope.kind= .function
 cell:∀y∈scope.names,y.2= .cell->scope.names.lookup y.1∣.cell
 loc:∀y∈scope.names,y.2= .local->scope.names.lookup y.1∣.local
 free:∀y∈scope.names,y.2= .free->X.env.kindOf y.1∣.cell\/X.env.kindOf y.1∣.free
 capt:∀p∈cap,∃x,N'[p.1]?∣x/\X.N[p.2]?∣x/\scope.names.lookup x∣.free
abbrev qi(n:Nat)(a:List (Nat×Nat))(b:St):St:=(List.range n).map λj=>(a.lookup j).bind λi=>(b[i]?).join
def lJ:∀{l:List _} {j i:Nat},l.lookup j∣i->(j,i)∈l
 |[],_,_,h=>by simp at h
 |(a,b)::r,j,i,h=>by
  rw[Yl]at h;cases c:j==a with
  | true=>
    simp_all
  | false=>rw[c]at h;exact Zk _ (lJ h)
def lK{env:Env}{names:List (Str×NameKind)}{x:Str}{k:NameKind}(h:(names.map λ(n,k)=>if(k==NameKind.free&&env.scope.kind== .function&&env.kindOf n==some .cell)then(n,NameKind.cell)else(n,k)).lookup x∣k)
 (a:k= .cell\/k= .free):(x,NameKind.free)∈names\/(x,NameKind.cell)∈names:=by
 have m:=PySem.mem_of_lookup h
 grind
def eA:∀names n acc,cellsFrom n names acc=cellsFrom n names [] ++acc
 |[],_,_=>rfl
 |(x,k)::r,n,acc=>by
  unfold cellsFrom
  split
  .rw[eA r _ _,eA r _ [(x,n)],Ze];rfl
  .exact eA r n acc
def kR:∀{names:List (Str×NameKind)} {n:Nat},(x,c)∈cellsFrom n names []->(x,NameKind.cell)∈names
 |[],_,h=>nomatch h
 |(y,k)::r,n,h=>by
  unfold cellsFrom at h
  split at h
  .rw[eA]at h;rcases Xl h with q|q
   .exact Zk _ (kR q)
   grind
  .exact Zk _ (kR h)
def lL(h:(cellsFrom n names acc).lookup x∣c):(x,c)∈cellsFrom n names []\/((cellsFrom n names []).lookup x=none/\acc.lookup x∣c):=by
 rw[eA,List.lookup_append]at h;cases e:(cellsFrom n names []).lookup x with
 | none=>rw[e]at h;exact .inr %[rfl|h]
 | some d=>
   rw[e]at h;have:=↑h
   exact this▸ .inl (PySem.mem_of_lookup e)
def jL{env:Env}:∀{names:List (Str×NameKind)} {x:Str},names.lookup x∣.free->
 (names.map λ(n,k)=>if(k==NameKind.free&&env.scope.kind== .function&&env.kindOf n==some .cell)then(n,NameKind.cell)else(n,k)).lookup x∣.cell\/
 (names.map λ(n,k)=>if(k==NameKind.free&&env.scope.kind== .function&&env.kindOf n==some .cell)then(n,NameKind.cell)else(n,k)).lookup x∣.free
 |[],_,h=>by simp at h
 |(n,k)::r,x,h=>by
  have c:= @jL env r x;simp only[Yp];cases a:x==n with
  | true=>
    rw[Yl,a]at h;have d:=Za h;subst d;by_cases b:((NameKind.free==NameKind.free)&&env.scope.kind== .function&&env.kindOf n==some .cell)=true
    .rw[if_pos b,Yl,a];exact .inl rfl
    .rw[if_neg b,Yl,a];exact .inr rfl
  | false=>
    rw[Yl,a]at h;by_cases b:(k==NameKind.free&&env.scope.kind== .function&&env.kindOf n==some .cell)=true
    .rw[if_pos b,Yl,a];exact(c h)
    .rw[if_neg b,Yl,a];exact(c h)
section
#version
def Inv.kindL(I:Inv X pins σ H s)(h:X.env.kindOf x∣.cell\/X.env.kindOf x∣.free):∃c,X.env.cells.lookup x∣c:=I.ok.has x h
def Inv.block{a:Scope}{E:ZB}{fp:List Addr}{f:Heap}{tk:Nat}(S:aC X a E n)(I:Inv X pins σ H s)(Q:∀b∈fp,mf X pins H b)(L:∀b∈fp,b<⇑s)
 (hn:f.Ns ⇑s (λ_=>none)) (B:∀b u,s.heap.get? b∣u->f.get? b∣u) (nc:CellsOk f (⇑s+1) (cellsFrom (⇑s+1) a.names [])):
 Inv (bO X a E s H fp) [] (qi E.length n σ) H {s with heap:=f,toks:=tk}:=by
 have h:∀x c,(mW X.env a.names []).lookup x∣c->X.env.cells.lookup x∣c:=λx c e=>t5 a.names [] (λy hy hk=>I.kindL (S.free y hy hk)) (λ_ _ q=>by simp at q) e
 have o:∀x c,(cellsFrom (⇑s+1) a.names (mW X.env a.names [])).lookup x∣c->((x,c)∈cellsFrom (⇑s+1) a.names []/\f.IsCell c none/\⇑s+1<=c)\/(X.env.cells.lookup x∣c/\c<⇑s):=λx c e=>by
  rcases lL e with q|⟨_,q⟩
  .exact .inl %[q|nc.empty x c q]
  .have q':=h x c q;have%[v,J,M|_]:=I.cell x c q';exact .inr %[q'|Zu M]
 refine%[%[I.ok.mod,S.kind,I.ok.glob,I.ok.blt,Zi _,λx y c h1 h2=>?_,λx hx=>?_,λx c hq e=>?_,I.ok.hd,I.ok.frames,.inl rfl,λb g=>%[?_|λx c e=>?_],I.bs,
  Yf I.ok.bsz I.sz,λb u e g=>?_,λb g T=>?_,I.stack|I.stkFree],ρ,I.bare,Un.kept B,%[_,hn|λj x v e1 e2 e3=>?_],λx c e=>?_,I.hok.fresh (Zi _),λx c e=>?_,λp hp=>?_,I.hok.kept B|?_]
 .rcases o x c h1 with⟨q1,_,q2⟩|⟨q1,q2⟩<;> rcases o y c h2 with⟨r1,_,r2⟩|⟨r1,r2⟩
  .exact name_of_addr nc.apart q1 r1
  .exact absurd r2 (Nat.not_lt_of_le (Yf (Ye _) q2))
  .exact absurd q2 (Nat.not_lt_of_le (Yf (Ye _) r2))
  .exact I.ok.inj x y c q1 r1
 .have:(x,NameKind.free)∈a.names\/(x,NameKind.cell)∈a.names:=by
   rcases hx with q|q
   .exact lK q (.inl rfl)
   .exact lK q (.inr rfl)
  refine isSome_iff_exists.mp (cellsFrom_some a.names _ _ ?_);rcases this with q|q
  .exact .inr (isSome_iff_exists.mpr (mZ a.names [] q))
  .exact .inl (S.cell _ q rfl)
 .rcases lL e with q|⟨q,_⟩
  .have:=(nc.empty x c q).2;show ⇑s<=c
   lia
  .have:=cellsFrom_some a.names (⇑s+1) [] (.inl (Zo hq));rw[q]at this;cases this
 .exact Zs (L b g)
 .rcases o x c e with⟨_,_,q⟩|⟨q,_⟩
  .exact λz=>absurd (L b g) (Nat.not_lt_of_le (Yf (Ye _) (z▸q)))
  .exact(Q b g).2.2.2.2.1 x c q
 .rcases(Q b g).2.2.2.1 with z|z
  .exact I.ok.noex b u e z
  .exact absurd (Zg (Zu e) (Yf I.ok.bsz z)) (Xi _)
 .rcases mem_cons.mp (I.stkSub b T)with z|z
  .exact(Q b g).2.1 z
  .exact(Q b g).2.2.1 z
 ·
  have hj:∃i,n.lookup j∣i/\σ[i]?∣some v:=by
   have A:((List.range E.length).map _)[j]?∣_:=e2;rw[Zl]at A;cases hr:(List.range E.length)[j]? with
   | none=>rw[hr]at A;cases A
   | some j'=>
     rw[hr]at A;have ab:j'=j:=by
      have:=Xk hr;have%[h1|h2]:=this;simpa using h2.symm
     subst ab;have C:((n.lookup j').bind _)∣v:=Za A;cases U:n.lookup j' with
     | none=>rw[U]at C;cases C
     | some i=>
       rw[U]at C;refine%[i,ρ|?_];have Y:(σ[i]?).join∣v:=C;cases T:σ[i]? with
       | none=>rw[T]at Y;cases Y
       | some w=>rw[T]at Y;have:w∣v:=Y;rw[this]
  have%[i,U|hi]:=hj;have%[y,n1,n2|n3]:=S.capt _ (lJ U);have ac:=Za (n1.symm.trans e1);subst ac;have N:=S.free _ (PySem.mem_of_lookup n3) rfl;have%[m,hm|hl]:=I.loc;have%[u,r|l]:=hl i y v n2 hi (by rcases N with q|q;exact .inr (.inl q);exact .inr (.inr q));refine%[u,r|.inr %[?_|?_]]
  .exact jL n3
  .rcases l with⟨k,_⟩|⟨_,c,G,hv⟩
   .rcases N with q|q
    .rw[k]at q;cases q
    .rw[k]at q;cases q
   .have%[c'|O]:=mZ a.names [] (PySem.mem_of_lookup n3);have:=h y c' O;rw[G]at this;have e5:=Za this;subst e5;have%[J,M|hd]:=hv;refine%[c,?_,J,B c J M|hd];show(cellsFrom _ _ _).lookup y∣c;rw[eA,List.lookup_append];cases e6:(cellsFrom _ a.names []).lookup y with
    | none=>simpa using O
    | some d=>
      have:=S.cell _ (kR (PySem.mem_of_lookup e6)) rfl;rw[n3]at this;cases this
 .rcases o x c e with⟨_,q,_⟩|⟨q,_⟩
  .exact%[none|q]
  .have%[v,J,M|hd]:=I.cell x c q;exact%[v,J,B c J M|hd]
 .rcases o x c e with⟨_,_,q⟩|⟨q,_⟩
  .exact I.hok.fresh ⋯
  .exact I.freeC x c q
 .exact absurd (show p∈([])from hp) ∅
 .show(qi E.length n σ).length= ~~~E;unfold qi;rw[Z6,Yi]
end
abbrev PTs(X:Cx)(a:List Expr)(t:TT):Prop:=
 ∀pins s (b:St) H Q,Inv X pins b H s->t b H Q->
  (X⁻¹) (forIn a true λc r=>if r=true then do let ok<-isTrue c X.env (eval c X.env);pure (ForInStep.yield ok)else pure (ForInStep.yield r)) (TP X pins b Q) X.xe s
abbrev y6:TT:=λ_ H Q=>Q true H
def Dk{X:Cx}:PTs X [] y6:=λ_ _ _ H _ I h=>wpAny_tests_nil %[H,I|h]
def Dl{X:Cx}(h:PT X c t):PTs X [c] t:=λpins s a H Q I q=>wpAny_tests_one (h pins s a H Q I q)
abbrev qj(q:TI)(n:Nat)(f:List (Nat×Nat))(g:TG)(r:TT)(s:TE):TE:=λh H Q=>q h H λJ j=>∀D,j D=none->∃W:Nat->Nat->List V->St->Hp->Prop,
 (∃m,W 0 m [] (qi n f h) (upd j D (.lst [])))/\∀i m ys c d,W i m ys c d->(J.stop i d/\Q (.ref D) d)\/
  (J.go i d/\∀x l,J.yld i d x l->g x c l λa u=>r a u λb o=>if b=true then s a o λy p=>∃zs e,p D<*zs/\ ~~~zs<sizeLine/\e<m/\W (i+1) e (ys++[y]) a (upd p D (.lst (zs++[y])))
   else∃e,e<m/\W (i+1) e ys a o)
def Dm{code:Value}
 (j:∀h',h'.Ns ⇑s (λ_=>none)->(∀b u,s.heap.get? b∣u->h'.get? b∣u)->CellsOk h' (⇑s+1) (cellsFrom (⇑s+1) a.names [])->
  Q (newEnv a ⇑s d (cellsFrom (⇑s+1) a.names f) g h code (some env) c) (s>>>h')):wpAny M A (newFunctionEnv a d f [] g h code (some env) c) Q E s:=by
 refine Z2 (wpAny_alloc (Z2 (wpAny_layCells _ (λname kind i=>by lia) _ _ _ _ ?_)));have ok:=cellsFrom_ok a.names (s.heap.push {cls:= .type "dict",data:= .dict #[]}) (⇑s+1) [] %[λ_ _ l=>(nomatch l)|List.Pairwise.nil] ∅;rw[Zq]at ok;rw[Zq ..];exact Z2 (Z3 (Z3 (j _ ((Heap.Ns.new s.heap _).keeps (pushCells_keeps _ _)) (λb u e=>pushCells_keeps _ _ b u (Z7 _ e)) ok)))
def qk{X:Cx}{a:Scope}(S:aC X a N' a4)(hc:X.calm=true)(hi:PI X tg iter wi)
 (hg:∀L M A,PG (bO X a N' L M A) tg g) (ht:∀L M A,PTs (bO X a N' L M A) a5 tc) (he:∀L M A,PE (bO X a N' L M A) a6 te)
 (hs:∀x,foldedSetIterable iter X.env x=pure x) (I:Inv X pins σ H s) (h:qj wi N'.length a4 g tc te σ H Q)
 (bb:∀(D C:Addr) (O:Hp) (s6:Shared) (fl:Flow) (m:ZC),s6.heap.Ns C m->mf X pins O C->(∀h',SameBut C s6.heap h'->Inv X pins σ O (s6>>>h'))->Q (.ref D) O->compPost (model X.prog X.w) X.A X.xe use QQ (.ref D) C (.ok fl) s6):
 (X⁻¹) (comprehension (.ListComp a6 [%[tg,iter,a5|0]] a pos) a X.env ct (newList []) false (eval iter X.env) use) QQ X.xe s:=by
 refine wpAny_comprehension_free (use:=use) rfl hs (Dj (λy hy hk=>I.kindL (S.free y hy hk))) S.kind S.loc (thn (hi pins s σ H _ I h) λv s1 h1=>thn h1 λcv l h2=>?_);have%[it,A,tn,J,H2,e,I2,T,bc,f2|R]:=h2;subst e;refine wpAny_newObj_type (Dm λU Y N ab=>?_);dsimp only at Y N ab ⊢;have I3:Inv X pins σ (upd H2 ⇑l (.lst [])) {l with heap:=l.heap.push {cls:= .type "list",data:= .seq ([]:ZF).toArray}}:=I2.lnew (its:=[]) (t':=l.toks) .nil (Xd _);have hD:H2 ⇑l=none:=I2.fresh;have an:∀b∈A,b<⇑l:=λb j=>by have%[o,ho|_]:=T.obj 0 _ bc b j;exact Zu ho
 generalize a1:({l with heap:=l.heap.push {cls:= .type "list",data:= .seq ([]:ZF).toArray}}:Shared)=B at I3
 have G:B.heap=l.heap.push {cls:= .type "list",data:= .seq ([]:ZF).toArray}:=by rw[<-a1]
 have be:⇑B=⇑l+1:=by rw[G,Zq]
 have f3:∀b∈A,mf X pins (upd H2 ⇑l (.lst [])) b:=λb j=>%[(ak (Zs (an b j)))▸(f2 b j).1|(f2 b j).2]
 have%[W,%[m0|w0]|bf]:=R _ hD;have ae:∀b u,B.heap.get? b∣u->U.get? b∣u:=G▸N;have I4:Inv (bO X a N' B (upd H2 ⇑l (.lst [])) A) [] (qi N'.length a4 σ) (upd H2 ⇑l (.lst [])) {B with heap:=U,toks:=B.toks}:=I3.block S f3 (λb j=>be▸Ym (an b j)) (G▸Y) ae (G▸ab);have bl:tn 0 U:=T.keep _ _ _ bc λb j o e=>ae b o (G▸Z7 _ e)
 have cw:(bO X a N' B (upd H2 ⇑l (.lst [])) A).env=compEnvC a _ ⇑B X.env:=rfl;have ag:∀{H':Hp},(∀b∈A,H' b=none)->∀b∈A,mf _ [] H' b:=λhn b j=>
  %[hn b j,(I4.ok.exf b j).1,I4.ok.exfs b j,.inl j,(I4.ok.exf b j).2|λp hp=>absurd (show p∈([]:ZE)from hp) ∅]
 have as:codeAny (model X.prog X.w) X.A (.compLoop (.ListComp a6 [%[tg,iter,a5|0]] a pos) 0 (.ref it) (.ref ⇑l) (bO X a N' B (upd H2 ⇑l (.lst [])) A).env)
  (compPost (model X.prog X.w) X.A X.xe use QQ (.ref ⇑l) ⇑B) {B with heap:=U,toks:=B.toks}:=by
  refine codeAny_loop rfl (λn s'=>∃i ys bm H',Inv _ [] bm H' s'/\tn i s'.heap/\(∀b∈A,H' b=none)/\W i n ys bm H') ?_ m0 %[0,[],_,_,I4,bl,λb j=>(f3 b j).1|w0];intro n s5 %[i,ys,al,O,I5,bt,b0|w5];show wpAny _ X.A _ _ _ s5;refine wpAny_noted ?_;rw[compTurn_list];refine Z2 (wpAny_standAt (Z2 ?_));rcases bf i n ys al O w5 with⟨stop,q⟩|⟨go,step⟩
  .refine thn (T.done (bO X a N' B (upd H2 ⇑l (.lst [])) A) rfl rfl rfl hc i [] s5 al O _ I5 (ag b0) bt stop) λr s6 ⟨hr,I6⟩=>?_
   subst hr;refine Z3 ?_;have%[m6,b3|_]:=I6.loc;refine bb ⇑l ⇑B O s6 _ m6 b3 (I2.fpOk (be▸Ye _) I6.free) (λh' sb=>?_) q;have u6:Un (frs X.stack) A (upd H2 ⇑l (.lst [])) O B.heap s6.heap:=I6.base;have a2:∀b u,B.heap.get? b∣u->b≠⇑B:=λb u e=>Zs (Zu e)
   have u7:Un (frs X.stack) A (upd H2 ⇑l (.lst [])) O B.heap h':=%[λb u e n j hx=>(sb.2 b (a2 b u e)).trans (u6.keep b u e n j hx),λb u e n j hx=>by
    have%[sl|q]:=u6.slot b u e n j hx;exact%[sl|(sb.2 b (a2 b u e)).trans q],u6.free,λb u e hx=>by
    have%[o'|q]:=u6.there b u e hx;exact%[o'|(sb.2 b (a2 b u e)).trans q],u6.tups,u6.frzs|u6.tbls]
   have b4:HOk X.prog X.w O h':=λb u e=>by
    have b1:∀c w,O c∣w->c≠⇑B:=λc w q z=>by
     have:O ⇑B=none:=I6.free;rw[z,this]at q;cases q
    refine(I6.hok b u e).stay (λc w b5 q=>(sb.2 c ?_).trans q) (λ_ q=>q) λ_ _ q=>q
    rcases b5 with z|z
    .exact z▸b1 b u e
    .exact b1 c _ z
   exact I2.call' (s':=(s6>>>h')) (ch:=A) (by show s6.os=l.os;rw[I6.os,<-a1];rfl) ((Un.laid (λb u e=>G▸Z7 _ e) (Zi _) hD).trans u7) b4 I6.bare λb j=>%[(f2 b j).2.2.2.1,(f2 b j).2.1,(f2 b j).2.2.2.2.1|(f2 b j).2.2.2.2.2]
  .refine thn (T.item (bO X a N' B (upd H2 ⇑l (.lst [])) A) rfl rfl rfl hc i [] s5 al O _ I5 (ag b0) bt go) λr s6 ⟨u,hr,h6⟩=>?_
   subst hr;refine Z2 (thn h6 λ_ s7 ⟨x,H7,I7,r7,y7,a3,b6⟩=>?_);have ac:∀{α:Type} {t:Sem α} {Q1:α->Shared->Prop} {E2:ZD} {s':Shared},(X⁻¹) t Q1 (λ_ _=>False) s'->(X⁻¹) t Q1 E2 s':=λh=>wpAny_mono h (λ_ _ q=>q) λ_ _ f=>f.elim
   have a0:∀{E:St} {H8:Hp} {s8:Shared},Inv (bO X a N' B (upd H2 ⇑l (.lst [])) A) ([] ++rP A s7.heap) E H8 s8->
    Inv _ [] E H8 s8/\tn (i+1) s8.heap/\∀b∈A,H8 b=none:=λ{E H8 s8} I8=>by
    refine%[I8.unpinned,T.keep _ _ _ a3 λb j o e=>(I8.pin (b,o) (Yt _ (Yt _ (eF j e)))).1|λb j=>?_];have%[o,e|d]:=T.obj _ _ a3 b j;exact(I8.pin (b,o) (Yt _ (Yt _ (eF j e)))).2.1
   refine Z2 (ac (thn (hg B _ A _ s7 al H7 x u _ (I7.pinned (ag b6) (T.obj _ _ a3)) r7 (step x H7 y7)) λ_ s8 ⟨E,H8,I8,q8⟩=>Z2 (ac (thT (ht B _ A _ s8 E H8 _ I8 q8) λb s9 H9 I9 q9=>?_))));cases b with
   | false=>
     have%[m',hm|w9]:=(q9)
     have%[J1,J2|J3]:=a0 I9;exact Z3 %[rfl,m',hm,i+1,ys,E,H9,J1,J2,J3|w9]
   | true=>
     have q9:=(q9:te E H9 λy O=>∃zs m',O ⇑l<*zs/\ ~~~zs<sizeLine/\m'<n/\W (i+1) m' (ys++[y]) E _)
     refine Z2 (Z2 (ac (thP (he B _ A _ s9 E H9 _ I9 q9) λu2 b9 y b2 ca cd ⟨zs,m',hz,hl,hm,cl⟩=>Z2 (ac (thP (qf _ b9 E b2 (.ref ⇑l) [y] (.ref ⇑l) [u2] (λv H'=>v= .non/\H'=upd b2 ⇑l (.lst (zs++[y]))) ca rfl (.cons cd .nil) %[_,rfl,_,hz,hl,rfl|rfl]) λu3 cM v3 c0 co c1 ⟨c2,cs⟩=>?_)))));subst cs;have%[J1,J2|J3]:=a0 co;exact Z3 (Z3 %[rfl,m',hm,i+1,ys++[y],E,_,J1,J2,J3|cl])
 subst a1;exact(codeAny_compStart_list as (T.self _ 0 _ _ _ bl as))
def Do{X:Cx}(S:aC X a e f)(n:X.calm=true)(hi:PI X l iter o)
 (p:∀b c d,PG (bO X a e b c d) l g) (r:∀b c d,PTs (bO X a e b c d) i u) (v:∀b c d,PE (bO X a e b c d) j w)
 (y:∀x,foldedSetIterable iter X.env x=pure x):
 PE X (.ListComp j [%[l,iter,i|0]] a pos) (qj o e.length f g u w):=by
 intro pins s E H Q I h;exact qk S n hi p r v y I h λD C z G J m A _ k q=>%[m,A|λh' B=>%[.ref D,z,k h' B,rfl|q]]
abbrev Its(z:Str):It:=⟨λi _=>i<z.cps.size,λi H x a=>a=H/\∃c,z.cps[i]?∣c/\x= .str ⟨#[c]⟩,λi _=>z.cps.size<=i⟩
def v0{P:Program}{K:ZA}(it:Addr)(z:Str)(t:Tok):pA P w K tg (Its z) [it] it (λi h=>h.IsStrIter it "str_ascii_iterator" z t i) where
 mem:=by simp
 obj:=λi h st b hb=>by
  have e:=↑hb
  subst e;have%[o,e,c|d]:=st;exact%[o,e|λv z=>by lia]
 keep:=λi h h' st k=>by
  have%[o,e|r]:=st;exact%[o,k it ∅ o e|r]
 item:=by
  intro X hP hw hK hc i pins s σ H E I hf st hg;have hlt:i<z.cps.size:=hg;have%[f0,f1,f2,f3,f4|f5]:=hf it ∅;refine wpAny_pyNext_ascii_item st (c:=z.cps[i]) ∅ λh' st' sb=>?_
  have%[o,e,c|d]:=id st';exact%[_,ρ|pZ e c d (!1) %[.str _,H,(I.turned (λb o hb e=>(sb.2 b hb).trans e) f0 f1 f3 f4 f5),%[_|ρ],%[ρ,_,by simp|ρ],st'|λb hb=>(hf b hb).1]]
 done:=by
  intro X hP hw hK hc i pins s σ H E I hf st hg;have hle:z.cps.size<=i:=hg;have%[f0,f1,f2,f3,f4|f5]:=hf it ∅;exact wpAny_pyNext_ascii_end (I.ok.hd hc) st (by simp[hle]) λh' eb=>%[rfl|I.turned (λb o hb e=>eb b o hb e) f0 f1 f3 f4 f5]
 self:=λ_ _ _ _ _ st h=>wpAny_pyIter_striter_ascii st h
def y8{P:Program}{K:ZA}(it:Addr)(z:Str)(t:Tok):pA P w K tg (Its z) [it] it (λi h=>h.IsStrIter it "str_iterator" z t i) where
 mem:=by simp
 obj:=λi h st b hb=>by
  have e:=↑hb
  subst e;have%[o,e,c|d]:=st;exact%[o,e|λv z=>by rw[d]at z;cases z]
 keep:=λi h h' st k=>by
  have%[o,e|r]:=st;exact%[o,k it ∅ o e|r]
 item:=by
  intro X hP hw hK hc i pins s σ H E I hf st hg;have hlt:i<z.cps.size:=hg;have%[f0,f1,f2,f3,f4|f5]:=hf it ∅;refine wpAny_pyNext_wide_item st (c:=z.cps[i]) ∅ λh' st' sb=>?_
  have%[o,e,c|d]:=id st';exact%[_,ρ|pZ e c d (!1) %[.str _,H,(I.turned (λb o hb e=>(sb.2 b hb).trans e) f0 f1 f3 f4 f5),%[_|ρ],%[ρ,_,by simp|ρ],st'|λb hb=>(hf b hb).1]]
 done:=by
  intro X hP hw hK hc i pins s σ H E I hf st hg;have hle:z.cps.size<=i:=hg;have%[f0,f1,f2,f3,f4|f5]:=hf it ∅;exact wpAny_pyNext_wide_end (I.ok.hd hc) st (by simp[hle]) λh' eb=>%[rfl|I.turned (λb o hb e=>eb b o hb e) f0 f1 f3 f4 f5]
 self:=λ_ _ _ _ _ st h=>wpAny_pyIter_striter_wide st h
abbrev CK(D:Addr)(n i:Nat)(Pv:Nat->List V->St->Hp->Prop)(ys:List V)(b:St)(y:V)(H:Hp):Prop:=
 ∃zs a,H D<*zs/\ ~~~zs<sizeLine/\a<n-i/\(a=n-(i+1)/\i+1<=n/\Pv (i+1) (ys++[y]) b (upd H D (.lst (zs++[y]))))
abbrev CN(n i:Nat)(Pv:Nat->List V->St->Hp->Prop)(ys:List V)(b:St)(H:Hp):Prop:=∃a,a<n-i/\(a=n-(i+1)/\i+1<=n/\Pv (i+1) ys b H)
def CK.mk{Pv:Nat->List V->St->Hp->Prop}(hi:i<n)(a:H D<*zs)(b: ~~~zs<sizeLine)(p:Pv (i+1) (ys++[y]) c (upd H D (.lst (zs++[y])))):CK D n i Pv ys c y H:=
 %[zs,n-(i+1),a,b,⋯,rfl,hi|p]
def CN.mk{Pv:Nat->List V->St->Hp->Prop}(hi:i<n)(p:Pv (i+1) ys a H):CN n i Pv ys a H:=%[n-(i+1),⋯,rfl,hi|p]
def d5{J:It}{g:TG}{v:TT}{w:TE}{z:Hp->Prop}(Pv:Nat->List V->St->Hp->Prop)(A:Pv 0 [] c H)(s:∀i ys c H,i<n->Pv i ys c H->J.go i H)(d:∀ys c H,Pv n ys c H->J.stop n H)
 (B:∀i ys c H,i<n->Pv i ys c H->∀x f,J.yld i H x f->g x c f λa u=>v a u λb h=>if b=true then w a h λy r=>CK D n i Pv ys a y r else CN n i Pv ys a h) (C:∀ys c H,Pv n ys c H->z H):
 ∃W:Nat->Nat->List V->St->Hp->Prop,(∃m,W 0 m [] c H)/\∀i m ys j l,W i m ys j l->(J.stop i l/\z l)\/
  (J.go i l/\∀x f,J.yld i l x f->g x j f λa u=>v a u λb h=>if b=true then w a h λy r=>∃zs o,r D<*zs/\ ~~~zs<sizeLine/\o<m/\W (i+1) o (ys++[y]) a (upd r D (.lst (zs++[y])))
   else∃o,o<m/\W (i+1) o ys a h):=by
 refine%[λi m ys c H=>m=n-i/\i<=n/\Pv i ys c H,%[n,by simp,Xd _|A]|?_];intro i m ys c H %[rfl,hi|p];by_cases q:i<n
 .exact .inr %[s i ys c H q p|λx f y=>B i ys c H q p x f y]
 .have e:i=n:=by lia
  subst e;exact .inl %[d ys c H p|C ys c H p]
def si:∀{bs:List Bool} {us:ZF} {i:Nat} {v:Value},aJ (bs.map V.bl) us->us[i]?∣v->∃b,bs[i]?∣b/\v= .bool b
 |[],_,_,_,r,e=>by cases r;simp at e
 | b::bs,_,i,v,r,e=>by
   cases r with
   | cons a c=>
     cases(a);cases i with
     | zero=>simp at e;exact%[b,ρ|e.symm]
     | succ i=>
       have%[d,f|g]:=si c (e);exact%[d,f|g]
def m7(bs:List Bool):(List.range bs.length).all (λi=>bs.getD i false)=bs.all id:=by
 have e:(List.range bs.length).map (λi=>bs.getD i false)=bs:=by
  apply Zy
  .simp
  .intro i a b
   simp_all
 have:(List.range bs.length).all (λi=>bs.getD i false)=((List.range bs.length).map λi=>bs.getD i false).all id:=by rw[all_map];rfl
 rw[this,e]
def AY{X:Cx}(g:X.calm=true):cr X (.builtin "all") (λxs H Q=>∃(p:Addr) (bs:List Bool),xs=[.ref p]/\SqL X.K H p (bs.map V.bl)/\Q (.bl (bs.all id)) H):=by
 intro pins s A H xs us Q I r h;have%[p,bs,rfl,j|q]:=h;have%[u,rfl|l]:=cG r;cases l;have%[its,d,pl|B]:=I.list j;have m:X.A.in1.handled=none:=I.ok.hd g;have a: ~~~bs=its.toArray.size:=by rw[Zp,<-d.length,Z6]
 refine call_all_walk (wpAny_pyIter_list pl.isList %[⇑s,[⇑s,p],[⇑s],its.toArray.size,_,_,λi=>bs.getD i false,rfl,Walks.list m _ p (Zs (by have%[o,n|_]:=pl.isList;exact Zu n)) its.toArray,%[%[_,Zj _ rfl,rfl|rfl]|pl.isList.push _],?_|?_])
 .intro i v s' w C y c;have%[b,f|rfl]:=si d ↑y;have e:bs.getD i false=b:=!2
  have c:w (bs.getD i false) s':=c;rw[e]at c;exact wpAny_truthy_bool c
 .intro h' tk z;rw[<-a,m7];refine%[.bl _,H,I.kept λb o e=>z b o ?_ (Z7 _ e),ρ|q];have:=Zu e;intro f;exact absurd (Xm f) (Zs this)
def gA:∀{ss:ZB} {us:ZF},aJ (ss\3) us->StrsAre us ss
 |[],_,r=>by cases r;exact .nil
 | x::ss,_,r=>by
   cases r with
   | cons a b=>
     have%[t|e]:=a;subst e;exact .cons x t (gA b)
def qo:∀{ss:ZB} {us:ZF},StrsAre us ss->aJ (ss\3) us
 | _,_,.nil=> .nil
 | _,_,.cons x t h=> .cons %[t|rfl] (qo h)
abbrev xt(K:ZA):V->List V->Hp->VK->Prop:=λx vs H Q=>∃z l ss,x= .str z/\vs=[.ref l]/\SqL K H l (ss\3)/\(ss.map (·.length)).sum+ ~~~ss* ~~~z<=16777216/\Q (.str (Txt.join z ss)) H
def Dp{X:Cx}:MtM X "str.join" (xt X.K):=by
 intro pins s e H x vs v us Q I a b h;have%[z,l,ss,rfl,rfl,c,hw|q]:=h;have%[t|rfl]:=a;have%[u,rfl|d]:=b.one;cases d;have%[its,r,pl|f]:=I.list c;exact PyProof.Rows.join_list pl.isList (gA r) hw λt' k=>%[.str _,H,I.tok k,%[_|rfl]|q]
def AZ{X:Cx}:cr X (.builtin "isinstance") (λxs H Q=>∃x n t b,xs=[x,.ty n]/\jq X.K H x t/\kitOne X.K t (.type n)∣b/\Q (.bl b) H):=by
 intro pins s d H xs us Q I r h;have%[x,n,t,b,rfl,ty,e|q]:=h;have%[u,f,rfl,c|a]:=lF r;cases(a);exact yP I c ty e λtk=>%[.bl b,H,I.tok tk,rfl|q]
def qp(z:Str)(c i:Nat):Builtin.Str.subAt z ⟨#[c]⟩ i=decide (z.cps[i]?∣c):=by
 unfold Builtin.Str.subAt;have b: ~~~(⟨#[c]⟩:Str)=1:=rfl;rw[b];by_cases hi:i<z.cps.size
 .have e:z.cps.extract i (i+1)= #[z.cps[i]]:=by
   apply Array.ext
   .simp;lia
   .intro j d a;simp at a;subst a;simp
  rw[e,Array.getElem?_eq_getElem hi];by_cases f:z.cps[i]=c
  .subst f;simp
  simp_all
 .have e:z.cps.extract i (i+1)= #[]:=by
   apply Array.ext
   .simp;lia
   .intro j d a;simp at a
  rw[e,Array.getElem?_eq_none ⋯];simp
def sj(z:Str)(c:Nat):(!(Builtin.Str.occurrences z ⟨#[c]⟩ 0 z.length 1).isEmpty)=decide (c∈z.cps.toList):=by
 rcases StrLaws.occ_head z _ 1 (Zi _)with⟨e,d⟩|⟨i,r,e,f,_⟩
 .rw[e];refine(Zh λg=>?_).symm;have%[j,h|l]:=List.mem_iff_getElem.mp g;have a:=↑h
  refine d j %[?_|?_]
  .show j+1<=z.cps.size;lia
  .rw[qp];exact Zf (by rw[Array.getElem?_eq_getElem a];simpa using l)
 .rw[e];refine(Zf ?_).symm;have b:=f.2;rw[qp]at b;have:=Array.mem_of_getElem? (Zo b);simpa using this
section
variable{X:Cx}
nonrec abbrev A0:R2:=λx y H Q=>∃i j,x= .str i/\y= .str j/\ ~~~i+ ~~~j<=sizeLine/\Q (.str (i++j)) H
nonrec abbrev A1:R2:=λx y H Q=>rI0 (λi j=> .int (i+j)) x y H Q\/(A0 x y H Q\/Db x y H Q)
def Dq:OpR X (binaryOp .Add) A1:=At.or (mT.or AO)
nonrec abbrev A2:R2:=λx y H Q=>rI As (λi j=> .int (i*j)) x y H Q\/FJ x y H Q
def Dr:OpR X (binaryOp .Mult) A2:=Au.or FK
nonrec abbrev FM:R2:=rEq
def FN:OpR X (compareOp .Eq) FM:=G5
nonrec abbrev FO:R2:=rNe
def FP:OpR X (compareOp .NotEq) FO:=Ey
nonrec abbrev Hb:R2:=λx y H Q=>∃i j,x= .str i/\y= .str j/\Q (.bl (!(Builtin.Str.occurrences j i 0 j.length 1).isEmpty)) H
nonrec abbrev Ds(K:ZA):R2:=λx y H Q=>Hb x y H Q\/rIn K false x y H Q
def FQ:OpR X (compareOp .In) (Ds X.K):=yH.or yU
abbrev Dt(K:ZA)(c:TE):TI:=λd H R=>c d H λx b=>(∃a,x= .ref a/\(∃xs,SqL K b a xs)/\R (Itl K a) b)\/(∃a,x= .ref a/\(∃xs,SqT K b a xs)/\R (Itt K a) b)\/∃z,x= .str z/\R (Its z) b
def FR(n:PE X l r):PI X C l (Dt X.K r):=by
 intro pins s u H R I h;refine thP (n pins s u H _ I h) λv d x g f i w=>?_
 have c:∀b∈[⇑d],mf X pins g b:=λb y=>by
  have e:b=⇑d:=↑y
  subst e;exact f.fpOk (Zi _) (f.hok.fresh (Zi _))
 rcases w with⟨a,e,⟨xs,j⟩,q⟩|⟨a,e,⟨xs,j⟩,q⟩|⟨z,e,q⟩
 .subst e;cases i;have%[its,A,p|B]:=f.list j;exact wpAny_pyIter_list p.isList %[⇑d,[⇑d],_,_,g,rfl,f.kept (t':=d.toks) λb o e=>Z7 _ e,p7 a _,%[_,Zj _ rfl,rfl|rfl],c|q]
 .subst e;cases i;have%[its,A,p|B]:=f.tuple j;exact wpAny_pyIter_tuple (p) %[⇑d,[⇑d],_,_,g,rfl,f.kept λb o e=>Z7 _ e,vM a _,%[_,Zj _ rfl,rfl|rfl],c|q]
 .subst e;have%[t|rfl]:=i;cases m:z.cps.all _ with
  | true=>
    exact wpAny_pyIter_ascii m %[⇑d,[⇑d],_,_,g,rfl,f.kept λb o e=>Z7 _ e,v0 _ z t,%[_,Zj _ rfl,rfl|rfl],c|q]
  | false=>
    exact wpAny_pyIter_wide m %[⇑d,[⇑d],_,_,g,rfl,f.kept λb o e=>Z7 _ e,y8 _ z t,%[_,Zj _ rfl,rfl|rfl],c|q]
end
abbrev br(c:Scope)(N:ZB)(a:Scope)(d:ZB)(b:List (Nat×Nat)):Bool:=
 decide (a.kind= .function)&&a.names.all (λy=>(decide (y.2≠ .cell)||decide (a.names.lookup y.1∣.cell))&&(decide (y.2≠ .local)||decide (a.names.lookup y.1∣.local))&&(decide (y.2≠ .free)||decide (c.names.lookup y.1∣.cell)||decide (c.names.lookup y.1∣.free)))&&
  b.all λp=>match d[p.1]? with
   | some x=>decide (N[p.2]?∣x)&&decide (a.names.lookup x∣.free)
   | none=>false
def aC.of{X:Cx}(h:br X.env.scope X.N a g c=true):aC X a g c:=by
 unfold br at h;rw[Zv,Zv,all_eq_true,all_eq_true]at h;have%[%[i|d]|j]:=h;refine%[Zo i,λy b f=>?_,λy b f=>?_,λy b l=>?_|λp m=>?_]
 .have:=d y b;simp only[Zv,or_eq_true,decide_eq_true_eq]at this;exact this.1.1.resolve_left λq=>q f
 .have:=d y b;simp only[Zv,or_eq_true,decide_eq_true_eq]at this;exact this.1.2.resolve_left λq=>q f
 .have:=d y b;simp only[Zv,or_eq_true,decide_eq_true_eq]at this;rcases this.2 with(q|q)|q
  .exact absurd l q
  .exact .inl q
  .exact .inr q
 .have:=j p m;cases e:g[p.1]? with
  | none=>simp_all
  | some x=>
    rw[e]at this;simp only[Zv,decide_eq_true_eq]at this;exact%[x,ρ,this.1|this.2]
structure Gv (mg:ZC) (x:Str) (v:V):Prop where
 ex:∃u,mg x∣u/\aN v u
def EB{X:Cx}(g:Gv X.mg x v)(a:Gl X x)(b:(x==("__debug__":Str))=false):PE X (.Name x pos) (tC v):=by
 have%[u,h|r]:=g.ex;exact CF a h r b
structure Cal (P:Program) (w:World) (K:ZA) (mg:ZC) (base:Heap) (k:Nat) (x:Str) (ps:ZB) (sp:Sp):Prop where
 ex:∃f fd,fF P w K mg base CX0 k f fd ps sp/\mg x∣.ref f/\keepIn K (.ref f)=true/\e7 K fd ps []
structure aG (K:ZA) (mg:ZC) (x:Str) (st:Stmt) (ps:ZB):Prop where
 ex:∃f fd,Fun K x x st f fd/\mg x∣.ref f/\e7 K fd ps []
def aG.cal{P:Program}{K:ZA}{st:Stmt}(D:aG K mg x st ps)(S:av N ps (ao st))
 (a:∀(H:Hp) (vs:List V) (Q:VK) (E:XK),sp vs H Q E-> ~~~vs= ~~~ps/\∀(f:Addr) (b:Value) (A:Around) (outer:List Env) (s:Shared),bX k (A.deeper (envOfC x (ao st) ⇑s f b))->
  ∃t,PSs (rS CX0 P w K mg base N x (ao st) f b A outer s H E).nox (cb st) t/\t {nx:=λ_ c=>Q .non c,rt:=Q} (start N vs) H):Cal P w K mg base (k+1) x ps sp:=by
 have%[f,d,F,e|g]:=D.ex;exact%[f,d,F.ok S (λv H Q E h=>(a H v Q E h).1) (λb A o s H v Q E r h=>(a H v Q E h).2 f b A o s r),e,F.kp|g]
def FS{X:Cx}(C:Cal X.prog X.w X.K X.mg X.base j x ps sp)(d:bX k X.A)(g:Gl X x)(h:jr CX0 X E0)(i:PA X (e::es) t)(a:j<=k)
 (b:(x==("__debug__":Str))=false) (l:starEach (e::es) X.env=(false,eval e X.env)::starEach es X.env) (c:(backTo pos (starEach es X.env)).any (·.1)=false):
 PE X (.Call (.Name x p) (e::es) [] pos) (tT sp [] E0 t):=by
 have%[f,q,F,m,n|o]:=C.ex;exact C2 F (d.mono a) g m n o .nil h i b l c
def FT{K:ZA}{h:Heap}{st:Stmt}{kV e g d ct:Value}(X:K.In h)(G:h.Ns mainGlobals mg)
 (a:nsIn K mainGlobals x∣some (.ref f)) (l:K.lookup f=some %[m,n,.func (fnOf x x (dc st) (cb st) (ao st) .none kV e g i d ct)|j]) (c:codeIn K d x=true) (k:keepIn K (.ref f)=true)
 (b:∀(kV e g:Value) (i:ZI) (d ct:Value) (us:ZF),~~~us= ~~~ps->bindArgs (fnOf x x (dc st) (cb st) (ao st) .none kV e g i d ct) %[us|[]]=pure (ps.zip us)):aG K mg x st ps:=
 %[f,_,eJ l c k,mg_of X G a|(eJ l c k).binds b]
def Hc{K:ZA}{h:Heap}(X:K.In h)(G:h.Ns mainGlobals mg)(a:nsIn K mainGlobals x∣some u)(r:aN v u):Gv mg x v:=%[u,mg_of X G a|r]
def aw(h:∀a:It->Hp->Prop,(∀J f,(∃W:Nat->Nat->St->Hp->Prop,(∃m,W 0 m b f)/\∀i m b H,W i m b H->
 (J.stop i H/\D.nx b H)\/(J.go i H/\∃N:St->Hp->Prop,(∀c d,N c d->∃j,j<m/\W (i+1) j c d)/\∀x d,J.yld i H x d->g x b d λe l=>n {D with nx:=N,ct:=N,bk:=D.nx} e l))->a J f)->o b H a):tR o g n D b H:=h _ λ_ _ x=>x
def aE(h:∀c:It->Hp->Prop,(∀J j,(∀D,j D=none->∃W:Nat->Nat->List V->St->Hp->Prop,
 (∃m,W 0 m [] (qi n l o) (upd j D (.lst [])))/\∀i m ys d e,W i m ys d e->(J.stop i e/\Q (.ref D) e)\/
  (J.go i e/\∀x p,J.yld i e x p->g x d p λa s=>u a s λb q=>if b=true then v a q λy r=>∃zs f,r D<*zs/\ ~~~zs<sizeLine/\f<m/\W (i+1) f (ys++[y]) a (upd r D (.lst (zs++[y])))
   else∃f,f<m/\W (i+1) f ys a q))->c J j)->w o H c):qj w n l g u v o H Q:=h _ λ_ _ x=>x
section
variable{X:Cx}{K:ZA}
def FU(h:X.K=K):OpR X (compareOp .In) (Ds K):=by subst h;exact FQ
def y9(h:X.K=K):cr X (.builtin "len") (λxs H Q=>∃x n,xs=[x]/\CW K x H n/\Q (.int n) H):=by subst h;exact Az
def za(h:X.K=K)(a:X.calm=true):cr X (.builtin "all") (λxs H Q=>∃(p:Addr) (bs:List Bool),xs=[.ref p]/\SqL K H p (bs.map V.bl)/\Q (.bl (bs.all id)) H):=by subst h;exact AY a
def zb(h:X.K=K):cr X (.builtin "isinstance") (λxs H Q=>∃x n t b,xs=[x,.ty n]/\jq K H x t/\kitOne K t (.type n)∣b/\Q (.bl b) H):=by subst h;exact AZ
def v4(h:X.K=K):cr X (.type "list") (λxs H Q=>∃p ys,xs=[.ref p]/\(SqL K H p ys\/SqT K H p ys)/\∀l,H l=none->Q (.ref l) (upd H l (.lst ys))):=by subst h;exact rZ
def A3(h:X.K=K):MtR X "str.join" (xt K):=by subst h;exact Dp
def zc(h:X.K=K)(d:PE X a e)(f:∀b,isTrue a X.env b=(do let v<-b;standAt a.pos;holding [v] (truthy v))):PT X a (λg H Q=>e g H λx c=>∃k,Ax K x c k/\Q k c):=by subst h;exact Ay d f
def Du(h:X.K=K)(a:PE X l b):PI X c l (Dt K b):=by subst h;exact FR a
variable{o e:Expr}{es:List Expr}{to:TE}{t:TA}{name:Str}{apos cpos:Pos}{T id:String}{r:V->List V->Hp->VK->Prop}
def Dv(h:X.K=K)(d:PlainAttrs T)(slot:Slot T name id)(c:typeOf (.builtin id)=pure (.type "method_descriptor"))(f:MtR X id r)(g:PE X o to)
 (a:attributeBase o name X.env (eval o X.env)=eval o X.env) (b:(apos.endLine==cpos.line)=true):PE X (.Call (.Attribute o name apos) [] [] cpos) (Da K T r to):=by
 subst h;exact FI d slot c f g a b
def A4(h:X.K=K)(g:PlainAttrs T)(slot:Slot T name id)(f:typeOf (.builtin id)=pure (.type "method_descriptor"))(i:MtR X id r)(j:PE X o to)(l:PA X (e::es) t)
 (b:attributeBase o name X.env (eval o X.env)=eval o X.env)
 (d:((backTo cpos (starEach (e::es) X.env)).all (λx=>!x.1)&&(backToKw cpos (keywordEach [] X.env)).all (λx=>x.1.isSome)
  && decide (~~~(e::es)+ ~~~([]:List Keyword)+(if([]:List Keyword).isEmpty then 0 else 1)<30))=true)
 (c:(apos.endLine==cpos.line)=true) (m:starEach (e::es) X.env=(false,eval e X.env)::starEach es X.env) (a:(backTo cpos (starEach es X.env)).any (·.1)=false):
 PE X (.Call (.Attribute o name apos) (e::es) [] cpos) (tBM K T r to t):=by
 subst h;exact Ha g slot f i j l b d c m a
end
structure v5 (z TI TO i1 i2:Addr):Prop where
 TIz:TI≠z
 TOz:TO≠z
 i1z:i1≠z
 i2z:i2≠z
 TITO:TI≠TO
 TIi1:TI≠i1
 TIi2:TI≠i2
 TOi1:TO≠i1
 TOi2:TO≠i2
 i12:i1≠i2
section
#where
variable{z TI TO i1 i2:Addr}{fp1 fp2:List Addr}{n1 n2 i:Nat}{P1 P2:Nat->Value->Prop}{St1 St2:Nat->Heap->Prop}
def A5{Q:ZD}(D1:Draws prog w A i1 fp1 n1 P1 St1)(D2:Draws prog w A i2 fp2 n2 P2 St2)(D:v5 z TI TO i1 i2)(O:∀b∈fp1,b≠z/\b≠TO/\b≠i2)(m2:∀b∈fp2,b≠z/\b≠TO/\b≠i1)
 (T:IsZip s.heap z TI TO .none) (ac:IsPair s.heap TI (.ref i1) (.ref i2)) (ae:IsPair s.heap TO a b) (h1:St1 i s.heap) (h2:St2 i s.heap) (l1:i<n1) (l2:i<n2)
 (hQ:∀x y h' tk,P1 i x->P2 i y->IsZip h' z TI TO (rawInt ⇑s)->IsPair h' TO x y->St1 (i+1) h'->St2 (i+1) h'->IsPair h' ⇑s x y->
  (∀c o,c≠z->c≠TO->c≠i1->c≠i2->s.heap.get? c∣o->h'.get? c∣o)->Q (.ref ⇑s) {s with heap:=h',toks:=tk}):
 ↥A (Builtin.«zip.__next__» %[[.ref z]|[]]) (λag s'=>∃v,ag= .done (.ret v)/\Q v s') E s:=by
 have r:∀{k h h' c},(∀b∈fp1,b≠c)->SameBut c h h'->St1 k h->St1 k h':=λhc sb st=>D1.frame _ _ _ st λb d o e=>(sb.2 b (hc b d)).trans e
 have u:∀{k h h' c},(∀b∈fp2,b≠c)->SameBut c h h'->St2 k h->St2 k h':=λhc sb st=>D2.frame _ _ _ st λb d o e=>(sb.2 b (hc b d)).trans e
 show wpAny _ _ (field (.ref z) 2>>= _) _ _ _;refine Z2 (wpAny_field T rfl (x:= .bool false) rfl ?_);show wpAny _ _ (field (.ref z) 3>>= _) _ _ _;refine Z2 (wpAny_field T rfl (x:= .ref TI) rfl (Z2 (wpAny_seqItems ac rfl ?_)));show wpAny _ _ (Builtin.SmallTypes.ownedTupleIsFree (.ref z)>>= _) _ _ _;refine Z2 ?_;unfold Builtin.SmallTypes.ownedTupleIsFree;refine Z2 (wpAny_field T rfl (x:= .none) rfl (Z3 ?_));simp only[if_true];refine Z2 (wpAny_rule (Z2 (wpAny_field T rfl (x:= .ref TO) rfl (Z2 (wpAny_setField_rec T ∅ λg1 M n=>?_)))));replace M:IsZip g1 z TI TO .ellipsis:=M;refine Z2 ?_;simp only[List.zipIdx_cons,List.zipIdx_nil,forIn_cons,List.forIn_nil];refine Z2 (Z2 (wpAny_onRaise ?_));show wpAny _ _ (Builtin.SmallTypes.nextOf (.ref i1)>>= _) _ _ _;refine Z2 (D1.item i _ _ _ l1 (r (λb d=>(O b d).1) n h1) λx g2 al px an f=>Z3 ?_);replace f:SameBut i1 g1 g2:=f;have I:IsPair g2 TO a b:=(f.2 _ D.TOi1).trans ((n.2 _ D.TOz).trans ae);refine Z2 (wpAny_seqItems I rfl (Z2 (wpAny_updateSeq_pair (s:={s with heap:=g2,toks:=al}) I λg3 p g=>?_)));replace p:IsPair g3 TO x b:=p;replace g:SameBut TO g2 g3:=g;refine Z2 (wpAny_letGo (Z3 (Z2 (Z2 (wpAny_onRaise ?_)))));show wpAny _ _ (Builtin.SmallTypes.nextOf (.ref i2)>>= _) _ _ _;refine Z2 (D2.item i _ _ _ l2 (u (λb d=>(m2 b d).2.1) g (u (λb d=>(m2 b d).2.2) f (u (λb d=>(m2 b d).1) n h2))) λy g4 B py as j=>Z3 ?_);replace j:SameBut i2 g3 g4:=j;have J:IsPair g4 TO x b:=(j.2 _ D.TOi2).trans p;refine Z2 (wpAny_seqItems J rfl (Z2 (wpAny_updateSeq_pair (s:={s with heap:=g4,toks:=B}) J λq m l=>?_)));replace m:IsPair q TO x y:=m;replace l:SameBut TO g4 q:=l;refine Z2 (wpAny_letGo (Z3 (Z3 (Z2 (wpAny_seqItems m rfl (Z2 (wpAny_newTuple ?_)))))));have U:q.objs.size=⇑s:=by rw[l.1,j.1,g.1,f.1,n.1]
 have Y:IsZip q z TI TO .ellipsis:=(l.2 _ D.TOz.symm).trans ((j.2 _ D.i2z.symm).trans ((g.2 _ D.TOz.symm).trans ((f.2 _ D.i1z.symm).trans M)));have a0:∀c o,c≠z->c≠TO->c≠i1->c≠i2->s.heap.get? c∣o->q.get? c∣o:=λc o c1 c2 c3 c4 e=>
  (l.2 c c2).trans ((j.2 c c4).trans ((g.2 c c2).trans ((f.2 c c3).trans ((n.2 c c1).trans e))))
 have L:z<q.objs.size:=Zu Y;refine Z2 (Z2 (wpAny_setField_rec (s:={s with heap:=q.push {cls:= .type "tuple",data:= .seq #[x,y]},toks:=B}) (Z7 _ Y) ∅ λg7 N C=>?_));replace N:IsZip g7 z TI TO (rawInt q.objs.size):=N;replace C:SameBut z (q.push _) g7:=C;refine wpAny_setField_rec (s:={s with heap:=g7,toks:=B}) N ∅ λg8 G H=>?_
 replace G:IsZip g8 z TI TO (rawInt q.objs.size):=G;replace H:SameBut z g7 g8:=H;have up:∀c o,c≠z->q.get? c∣o->g8.get? c∣o:=λc o c1 e=>(H.2 c c1).trans ((C.2 c c1).trans (Z7 _ e))
 have ab:=(H.2 _ (Yx L)).trans ((C.2 _ (Yx L)).trans (Zj _ rfl));rw[U]at G ab;refine Z3 %[_,rfl|?_];rw[U];exact hQ x y g8 B px py G (up _ _ D.TOz m) (D1.frame _ _ _ (r (λb d=>(O b d).2.1) l (r (λb d=>(O b d).2.2) j (r (λb d=>(O b d).2.1) g an))) λb d o e=>up b o (O b d).1 e) (D2.frame _ _ _ (u (λb d=>(m2 b d).2.1) l as) λb d o e=>up b o (m2 b d).1 e) ab λc o c1 c2 c3 c4 e=>up c o c1 (a0 c o c1 c2 c3 c4 e)
def A6(O:Draws prog w A i1 fp1 n1 P1 St1)(D2:Draws prog w A i2 fp2 n2 P2 St2)(D:v5 z TI TO i1 i2)(m1:∀b∈fp1,b≠z/\b≠TO/\b≠i2)(m2:∀b∈fp2,b≠z/\b≠TO/\b≠i1)
 (C:IsZip s.heap z TI TO .none) (T:IsPair s.heap TI (.ref i1) (.ref i2)) (U:IsPair s.heap TO a b) (h1:St1 i s.heap) (h2:St2 i s.heap) (l1:i<=n1) (l2:i<=n2) (ab:i=n1\/i=n2)
 (hE:∀h' e tk,(∀c o,c≠z->c≠TO->c≠i1->c≠i2->s.heap.get? c∣o->h'.get? c∣o)->(∃o,h'.get? e∣o/\o.cls= .type "StopIteration")->E (.ref e) {s with heap:=h',toks:=tk}):
 ↥A (Builtin.«zip.__next__» %[[.ref z]|[]]) Q E s:=by
 have Y:∀{k h h' c},(∀b∈fp1,b≠c)->SameBut c h h'->St1 k h->St1 k h':=λhc sb st=>O.frame _ _ _ st λb j o e=>(sb.2 b (hc b j)).trans e
 have v:∀{k h h' c},(∀b∈fp2,b≠c)->SameBut c h h'->St2 k h->St2 k h':=λhc sb st=>D2.frame _ _ _ st λb j o e=>(sb.2 b (hc b j)).trans e
 show wpAny _ _ (field (.ref z) 2>>= _) _ _ _;refine Z2 (wpAny_field C rfl (x:= .bool false) rfl ?_);show wpAny _ _ (field (.ref z) 3>>= _) _ _ _;refine Z2 (wpAny_field C rfl (x:= .ref TI) rfl (Z2 (wpAny_seqItems T rfl ?_)));show wpAny _ _ (Builtin.SmallTypes.ownedTupleIsFree (.ref z)>>= _) _ _ _;refine Z2 ?_;unfold Builtin.SmallTypes.ownedTupleIsFree;refine Z2 (wpAny_field C rfl (x:= .none) rfl (Z3 ?_));simp only[if_true];refine Z2 (wpAny_rule (Z2 (wpAny_field C rfl (x:= .ref TO) rfl (Z2 (wpAny_setField_rec C ∅ λM n l=>?_)))));replace n:IsZip M z TI TO .ellipsis:=n;refine Z2 ?_;simp only[List.zipIdx_cons,List.zipIdx_nil,forIn_cons,List.forIn_nil];refine Z2 (Z2 (wpAny_onRaise ?_));show wpAny _ _ (Builtin.SmallTypes.nextOf (.ref i1)>>= _) _ _ _;have G:St1 i M:=Y (λb j=>(m1 b j).1) l h1;by_cases c1:i<n1
 .have e2:i=n2:=by lia
  refine Z2 (O.item i _ _ _ c1 G λx r y px ae d=>Z3 ?_);replace d:SameBut i1 M r:=d;have u:IsPair r TO a b:=(d.2 _ D.TOi1).trans ((l.2 _ D.TOz).trans U);refine Z2 (wpAny_seqItems u rfl (Z2 (wpAny_updateSeq_pair (s:={s with heap:=r,toks:=y}) u λH ac f=>?_)));replace f:SameBut TO r H:=f;refine Z2 (wpAny_letGo (Z3 (Z2 (Z2 (wpAny_onRaise ?_)))));show wpAny _ _ (Builtin.SmallTypes.nextOf (.ref i2)>>= _) _ _ _;refine Z2 (D2.done _ _ _ (e2▸v (λb j=>(m2 b j).2.1) f (v (λb j=>(m2 b j).2.2) d (v (λb j=>(m2 b j).1) l h2))) λN e p he=>?_);replace p:ExtBut i2 H N:=p;have%[oe,g|m]:=he;have I:IsZip N z TI TO .ellipsis:=p _ _ D.i2z.symm ((f.2 _ D.TOz.symm).trans ((d.2 _ D.i1z.symm).trans n));have B:e≠z:=λx=>by subst x;rw[I]at g;cases g;simp at m
  refine wpAny_setField_rec (s:={s with heap:=N,toks:=y}) I ∅ λg5 _ q=>?_
  replace q:SameBut z N g5:=q;exact hE g5 e y (λc o J d2 d3 d4 x=>(q.2 c J).trans (p c o d4 ((f.2 c d2).trans ((d.2 c d3).trans ((l.2 c J).trans x))))) %[oe,(q.2 e B).trans g|m]
 .have e1:i=n1:=by lia
  refine Z2 (O.done _ _ _ (e1▸G) λr e d he=>?_);replace d:ExtBut i1 M r:=d;have%[oe,g|m]:=he;have L:=d _ _ D.i1z.symm n;have B:e≠z:=λx=>by subst x;rw[L]at g;cases g;simp at m
  refine wpAny_setField_rec (s:=(s>>>r)) L ∅ λH _ f=>?_
  replace f:SameBut z r H:=f;exact hE H e s.toks (λc o J _ d3 _ x=>(f.2 c J).trans (d c o d3 ((l.2 c J).trans x))) %[oe,(f.2 e B).trans g|m]
end
abbrev Itz(x y:Str):It:=⟨λi _=>i<x.cps.size/\i<y.cps.size,λi H v a=>∃c d T,x.cps[i]?∣c/\y.cps[i]?∣d/\H T=none/\v= .ref T/\a=upd H T (.tup [.str ⟨#[c]⟩,.str ⟨#[d]⟩]),
 λi _=>i<=x.cps.size/\i<=y.cps.size/\(i=x.cps.size\/i=y.cps.size)⟩
abbrev ZSt(z TI TO c d:Addr)(e f:Nat->Heap->Prop)(i:Nat)(h:Heap):Prop:=IsZip h z TI TO .none/\IsPair h TI (.ref c) (.ref d)/\(∃a b,IsPair h TO a b)/\e i h/\f i h
def iT(prog:Program)(w:World)(x:Str)(t:Tok)(a:Addr):∀A,A.handled=none->
 Draws prog w A a [a] x.cps.size (λi v=>∃c u,x.cps[i]?∣c/\v= .str ⟨#[c]⟩ u) (λi h=>h.IsStrIter a (strIterType x) x t i):=by
 intro A b;unfold strIterType;cases d:x.cps.all _ with
 | true=>exact Draws.strAscii b a x t
 | false=>exact Draws.strWide b a x t
def A7{P:Program}{K:ZA}(z TI TO i1 i2:Addr)(x y:Str)(t u:Tok)(D:v5 z TI TO i1 i2):
 pA P w K (.Tuple elts kt tp) (Itz x y) [z,TI,TO,i1,i2] z (ZSt z TI TO i1 i2 (λi h=>h.IsStrIter i1 (strIterType x) x t i) (λi h=>h.IsStrIter i2 (strIterType y) y u i)) where
 mem:=by simp
 obj:=λi h st b hb=>by
  have%[hz,hTI,%[a,c|hTO],%[o1,e1,_|d1],o2,e2,_|d2]:=st
  grind
 keep:=λi h h' st k=>by
  have%[hz,hTI,%[a,c|hTO],%[o1,e1|r1],o2,e2|r2]:=st;exact%[k z ∅ _ hz,k TI ∅ _ hTI,%[a,c|k TO ∅ _ hTO],%[o1,k i1 ∅ _ e1|r1],o2,k i2 ∅ _ e2|r2]
 item:=by
  intro X hP hw hK hc i pins s σ H E I hf st hg;subst hP hw hK;have%[hz,hTI,%[a,c|hTO],h1|h2]:=st;obtain⟨g1,g2⟩:i<x.cps.size/\i<y.cps.size:=hg;have hT:s.TypeIs (.ref z) "zip":=%[_,hz|rfl]
  have hh:X.A.in1.handled=none:=I.ok.hd hc;unfold pyNext;refine Z2 (wpAny_attempt (wpAny_callSpecial?_slot (name:=!"__next__") hT F.slot_zip_next (wpAny_call_entry F.slot_zip_next hT F.entry_zip_next
   (A5 (iT _ _ x t i1 _ hh) (iT _ _ y u i2 _ hh) D (λb hb=>(show b=i1 by simpa using hb)▸%[D.i1z,Ne.symm D.TOi1|D.i12]) (λb hb=>(show b=i2 by simpa using hb)▸%[D.i2z,Ne.symm D.TOi2|Ne.symm D.i12]) hz hTI hTO h1 h2 g1 g2 λv1 v2 h' tk p1 p2 a1 a2 a3 a4 a5 hk=>Z3 ?_) (F.args_zip_next_1 _))))
  have%[c1,u1,e1|rfl]:=p1;have%[c2,u2,e2|rfl]:=p2;refine%[_,ρ|wpAny_letOwnedTupleGo_zip (s:={s with heap:=h',toks:=tk}) a1 λh'' hz'' sb=>?_];replace sb:SameBut z h' h'':=sb;have turn1:Inv X pins σ H {s with heap:=h'',toks:=tk}:=by
   have nit:∀b v,H b∣v->b∉[z,TI,TO,i1,i2]:=λb v e hb=>by rw[(hf b hb).1]at e;cases e
   have kk:∀b o,b∉[z,TI,TO,i1,i2]->s.heap.get? b∣o->h''.get? b∣o:=λb o hb e=>by
    simp only[Yu,X3,or_false,not_or]at hb;exact(sb.2 b hb.1).trans (hk b o hb.1 hb.2.2.1 hb.2.2.2.1 hb.2.2.2.2 e)
   refine I.step (g':=s.gens) (d':=s.drawn) (ch:=[z,TI,TO,i1,i2]) (λb hb=>%[(hf b hb).2.2.2.1,(hf b hb).2.1,(hf b hb).2.2.2.2.1|(hf b hb).2.2.2.2.2]) (λb o _ _ hc e _=>kk b o hc e) (λb o _ _ hc e _=>%[o.slots|kk b o hc e]) (λ_ _ _ _ n=>n)
    (λb o hc e=>%[o|kk b o hc e]) (λ_ _ e=>e) (λ_ _ _ e=>e) (λb ps e=>%[#[]|by rw[e];simp]) (λm hm=>?_) (λb v e=>?_) I.bare
   .have%[o,es,ep,ho|r]:=hm;exact%[o,es,ep,kk _ o (λhb=>(hf _ hb).2.1 rfl) ho|r]
   .refine(I.hok b v e).stay (λc' v' hc' q=>kk c' v' ?_ q) (λ_ q=>q) λ_ _ q=>q
    rcases hc' with q'|q'
    .exact q'▸nit b v e
    .exact nit c' _ q'
  have Hn:H ⇑s=none:=I.fresh;have I2:Inv X pins σ (upd H ⇑s (.tup [.str ⟨#[c1]⟩,.str ⟨#[c2]⟩])) {s with heap:=h'',toks:=tk}:=by
   have nf:⇑s∉X.fs:=I.nofs (Zi _);refine%[turn1.ok,turn1.os,turn1.bare,?_,turn1.loc,turn1.cell,?_,?_,?_,?_|turn1.len]
   .refine%[turn1.base.keep,turn1.base.slot,λb o e n hx=>?_,turn1.base.there,λb xs e=>?_,λb o v e=>?_|λb ps e=>?_]
    .rw[ak ((λb o e=>Zs (Zg (Zu e) I.sz)) b o e)];exact turn1.base.free b o e n hx
    .rw[ak (au (turn1.base.tups b xs e) Hn)];exact turn1.base.tups b xs e
    .rw[ak (au (turn1.base.frzs b o v e) Hn)];exact turn1.base.frzs b o v e
    .have%[m|q]:=turn1.base.tbls b ps e;exact%[m|(ak (au q Hn))▸q]
   .rw[ak (Zs I.lt)];exact turn1.free
   .intro x' c' e;have%[v'|q]:=I.cell x' c' e;rw[ak (Zs q.lt)];exact turn1.freeC x' c' e
   .intro p hp;have%[e,n|r]:=turn1.pin p hp;refine%[e,?_|r];rw[ak (Zs (Zu (I.pin p hp).1))];exact n
   .intro b v e;by_cases hb:b=⇑s
    .subst hb;rw[aa]at e;cases e;exact%[by show 2<=sizeLine;decide,[.str _ u1,.str _ u2],.cons %[_|ρ] (.cons %[_|ρ] .nil),_,((sb.2 _ (Yx (Zu hz))).trans a5),ρ,_|ρ]
    .rw[ak hb]at e;refine(turn1.hok b v e).stay (λ_ _ _ q=>q) (λc' q=>?_) λc' xs q=>?_
     .rw[ak (au q Hn)];exact q
     .rw[ak (au q Hn)];exact q
  refine%[.ref ⇑s,_,I2,ρ,%[c1,c2,_,e1,e2,Hn,ρ|ρ],%[hz'',(sb.2 _ D.TIz).trans (hk _ _ D.TIz D.TITO D.TIi1 D.TIi2 hTI),%[_,_|(sb.2 _ D.TOz).trans a2],?_|?_]|λb hb=>?_]
  .have%[o,e|r]:=a3;exact%[o,(sb.2 _ D.i1z).trans e|r]
  .have%[o,e|r]:=a4;exact%[o,(sb.2 _ D.i2z).trans e|r]
  .have:b<⇑s:=by
    simp only[Yu,X3,or_false]at hb;have%[o1,q1|_]:=h1;have%[o2,q2|_]:=h2;rcases hb with rfl|rfl|rfl|rfl|rfl
    .exact Zu hz
    .exact Zu hTI
    .exact Zu hTO
    .exact Zu q1
    .exact Zu q2
   rw[ak (Zs this)];exact(hf b hb).1
 done:=by
  intro X hP hw hK hc i pins s σ H E I hf st hg;have%[hz,hTI,%[a,c|hTO],h1|h2]:=st;obtain⟨g1,g2,g3⟩:i<=x.cps.size/\i<=y.cps.size/\(i=x.cps.size\/i=y.cps.size):=hg;have hT:s.TypeIs (.ref z) "zip":=%[_,hz|rfl]
  have hh:=I.ok.hd hc;refine Z2 (wpAny_attempt (wpAny_callSpecial?_slot hT F.slot_zip_next (wpAny_call_entry F.slot_zip_next hT F.entry_zip_next
   (A6 (iT _ _ x t i1 _ hh) (iT _ _ y u i2 _ hh) D (λb hb=>(show b=i1 by simpa using hb)▸%[D.i1z,Ne.symm D.TOi1|D.i12]) (λb hb=>(show b=i2 by simpa using hb)▸%[D.i2z,Ne.symm D.TOi2|Ne.symm D.i12]) hz hTI hTO h1 h2 g1 g2 g3 λh' e tk hk he=>?_) (F.args_zip_next_1 _))))
  have%[o,ho|hco]:=he;refine Z2 (wpAny_isInstance %[o,ho|hco] isSubtype_stop (Z3 %[rfl|?_]));have nit:∀b v,H b∣v->b∉[z,TI,TO,i1,i2]:=λb v e hb=>by rw[(hf b hb).1]at e;cases e
  have kk:∀b o,b∉[z,TI,TO,i1,i2]->s.heap.get? b∣o->h'.get? b∣o:=λb o hb e=>by
   simp only[Yu,X3,or_false,not_or]at hb;exact hk b o hb.1 hb.2.2.1 hb.2.2.2.1 hb.2.2.2.2 e
  refine I.step (λb hb=>%[(hf b hb).2.2.2.1,(hf b hb).2.1,(hf b hb).2.2.2.2.1|(hf b hb).2.2.2.2.2]) (λb o _ _ hc e _=>kk b o hc e) (λb o _ _ hc e _=>%[o.slots|kk b o hc e]) (λ_ _ _ _ n=>n)
   (λb o hc e=>%[o|kk b o hc e]) (λ_ _ e=>e) (λ_ _ _ e=>e) (λb ps e=>%[#[]|by rw[e];simp]) (λm hm=>?_) (λb v e=>?_) I.bare
  .have%[o',es,ep,ho'|r]:=hm;exact%[o',es,ep,kk _ o' (λhb=>(hf _ hb).2.1 rfl) ho'|r]
  .refine(I.hok b v e).stay (λc' v' hc' q=>kk c' v' ?_ q) (λ_ q=>q) λ_ _ q=>q
   rcases hc' with q'|q'
   .exact q'▸nit b v e
   .exact nit c' _ q'
 self:=λ_ _ _ _ _ st h=>wpAny_pyIter_zip st.1 h
abbrev aS:Expr->Bool
 | .Starred _ _=>true
 | _=>false
def aB(h:aS e=false):starEach (e::es) env=(false,eval e env)::starEach es env:=by
 cases e<;> first|rfl|cases(show true=false from h)
def dE(h:aS e=false):assignEach (e::es) env=(false,assign e env)::assignEach es env:=by
 cases e<;> first|rfl|cases(show true=false from h)
def gB:∀{es:List Expr},es.any aS=false->(backTo pos (starEach es env)).any (·.1)=false
 |[],_=>rfl
 | e::es,h=>by
   rw[Zw,X4]at h;rw[aB h.1];have:=gB (pos:=pos) (env:=env) h.2;cases es with
   | nil=>rfl
   | cons b a=>
     simp only[backTo]at this ⊢;simpa using this
def sk:∀{es:List Expr},es.any aS=false->(backTo pos (starEach es env)).all (λx=>!x.1)=true
 |[],_=>rfl
 | e::es,h=>by
   rw[Zw,X4]at h;rw[aB h.1];have:=sk (pos:=pos) (env:=env) h.2;cases es with
   | nil=>rfl
   | cons b a=>
     simp only[backTo]at this ⊢;simpa using this
def eK:∀{es:List Expr},es.any aS=false-> ~~~(assignEach es env)= ~~~es/\(assignEach es env).findIdx? (·.1)=none
 |[],_=>%[rfl|rfl]
 | e::es,h=>by
   rw[Zw,X4]at h;rw[dE h.1];have a:=eK (env:=env) h.2;refine%[by rw[Zr,Zr,a.1]|?_];rw[List.findIdx?_cons,a.2];rfl
abbrev gC:Expr->Bool
 | .ListComp _ _ _ _=>true
 | .SetComp _ _ _ _=>true
 | .DictComp _ _ _ _ _=>true
 | _=>false
def jM(h:gC e=false):swapsWith e t l env=pure false:=by
 cases e<;> first|rfl|cases(show true=false from h)
abbrev v6:Expr->Bool
 | .Tuple _ _ _=>true
 | _=>false
def v7(h:v6 e=false):swappedStores [t] e env=pure none:=by
 cases e with
 | Tuple _ _ _=>cases(show true=false from h)
 | _=>cases t<;> rfl
abbrev iU:Expr->Bool
 | .Call _ _ _ _=>true
 | _=>false
def iz(h:iU o=false):attributeBase o a env w=w:=by
 cases o<;> first|rfl|cases(show true=false from h)
abbrev m8:Expr->Bool
 | .Set _ _ _=>true
 | _=>false
def kS(h:m8 e=false)(x:Value):foldedSetIterable e env x=pure x:=by
 cases e<;> first|rfl|cases(show true=false from h)
structure QE (X:Cx) (e:Expr) (t:TE):Prop where
 h:PE X e t
structure QT (X:Cx) (e:Expr) (t:TT):Prop where
 h:PT X e t
structure QW (X:Cx) (e:Expr) (t:TT):Prop where
 h:PW X e t
structure QA (X:Cx) (es:List Expr) (t:TA):Prop where
 h:PA X es t
structure QS (X:Cx) (st:Stmt) (t:TS):Prop where
 h:PS X st t
structure QSs (X:Cx) (st:List Stmt) (t:TS):Prop where
 h:PSs X st t
structure QG (X:Cx) (e:Expr) (t:TG):Prop where
 h:PG X e t
structure QGs (X:Cx) (es:List Expr) (t:TGs):Prop where
 h:PGs X es t
structure QI (X:Cx) (tg iter:Expr) (wi:TI):Prop where
 h:PI X tg iter wi
structure QO (X:Cx) (e:Option Expr) (t:TO):Prop where
 h:PO X e t
structure QTs (X:Cx) (ifs:List Expr) (t:TT):Prop where
 h:PTs X ifs t
structure OpQ (X:Cx) (f:Value->Value->Sem Value) (r:R2):Prop where
 h:OpR X f r
structure cu (X:Cx) (f:Value) (r:List V->Hp->VK->Prop):Prop where
 h:cr X f r
structure MtQ (X:Cx) (id:String) (r:V->List V->Hp->VK->Prop):Prop where
 h:MtR X id r
section
variable{X:Cx}{K:ZA}{pos:Pos}
def ay{i j}:QE X (.Constant (.int i) j pos) (tC (.int i)):=⟨EX⟩
def eBl{b j}:QE X (.Constant (.bool b) j pos) (tC (.bl b)):=⟨GV⟩
def A8{j}:QE X (.Constant .none j pos) (tC .non):=⟨EY⟩
def cZ{x j}:QE X (.Constant (.str x) j pos) (tC (.str x)):=⟨EZ⟩
def vn(i:Nat)(b:X.N[i]?∣x)(c:Vis X.env.scope x)(d:(x==("__debug__":Str))=false)(a:(x==("__classdict__":Str))=false):QE X (.Name x pos) (pj i):=⟨Aa b c d a⟩
def gvE(g:Gv X.mg x v)(a:Gl X x)(b:(x==("__debug__":Str))=false):QE X (.Name x pos) (tC v):=⟨EB g a b⟩
def blE(a:Gl X x)(b:X.mg x=none)(c:bootBuiltins x∣u)(r:aN v u)(f:(x==("__name__":Str))=false)(d:(x==("__debug__":Str))=false):QE X (.Name x pos) (tC v):=
 ⟨CG a b c r (λe=>by lia) d⟩
def am:QA X [] vW:=⟨AC⟩
def paE(a:aS e=false)(b:QE X e c)(d:QA X es t):QA X (e::es) (xj c t):=⟨xk b.h d.h (aB a)⟩
def calE(C:Cal X.prog X.w X.K X.mg X.base j x ps sp)(d:bX k X.A)(f:Gl X x)(a:Nat.ble j k=true)
 (b:(x==("__debug__":Str))=false) (c:(e::es).any aS=false) (g:QA X (e::es) t):
 QE X (.Call (.Name x p) (e::es) [] pos) (tT sp [] E0 t):=by
 rw[Zw,X4]at c;exact⟨FS C d f AW g.h (Nat.le_of_ble_eq_true a) b (aB c.1) (gB c.2)⟩
def cbE{id:String}(c:cu X (.builtin id) r)(d:Gl X x)(f:X.mg x=none)(g:bootBuiltins x∣.builtin id)(i:(x==("__name__":Str))=false)(a:(x==("__debug__":Str))=false)
 (b:(e::es).any aS=false) (h:QA X (e::es) t):QE X (.Call (.Name x p) (e::es) [] pos) (tCB r t):=by
 rw[Zw,X4]at b;exact⟨AG c.h d f g h.h (λe=>by lia) a (aB b.1) (gB b.2)⟩
def ctE(c:cu X (.type T) r)(d:Gl X x)(f:X.mg x=none)(g:bootBuiltins x∣.type T)(i:(x==("__name__":Str))=false)(a:(x==("__debug__":Str))=false)
 (b:(e::es).any aS=false) (h:QA X (e::es) t):QE X (.Call (.Name x p) (e::es) [] pos) (tCB r t):=by
 rw[Zw,X4]at b;exact⟨yT c.h d f g h.h (λe=>by lia) a (aB b.1) (gB b.2)⟩
def bmE{T id:String}(h:X.K=K)(l:PlainAttrs T)(slot:Slot T name id)(g:typeOf (.builtin id)=pure (.type "method_descriptor"))(m:MtQ X id r)
 (b:iU o=false) (a:(e::es).any aS=false) (i:Nat.blt (e::es).length 30=true) (c:(d.endLine==f.line)=true) (n:QE X o p) (q:QA X (e::es) t):
 QE X (.Call (.Attribute o name d) (e::es) [] f) (tBM K T r p t):=by
 have j:=a;rw[Zw,X4]at j;refine⟨A4 h l slot g m.h n.h q.h (iz b) ?_ c (aB j.1) (gB j.2)⟩;rw[sk a];have:decide (~~~(e::es)+ ~~~([]:List Keyword)+(if([]:List Keyword).isEmpty then 0 else 1)<30)=true:=Zf ((Nat.blt_eq.mp i));rw[this];rfl
def Hd{T id:String}(h:X.K=K)(f:PlainAttrs T)(slot:Slot T name id)(e:typeOf (.builtin id)=pure (.type "method_descriptor"))(g:MtQ X id r)
 (a:iU o=false) (b:(c.endLine==d.line)=true) (i:QE X o j):QE X (.Call (.Attribute o name c) [] [] d) (Da K T r j):=⟨Dv h f slot e g.h i.h (iz a) b⟩
def lM(b:Gl X "range")(c:X.mg "range"=none)(d:aS a=false)(e:QA X [a] f):QI X g (.Call (.Name "range" p) [a] [] pos) (Ap f):=⟨yD b c e.h (aB d)⟩
def EC(d:Gl X "range")(e:X.mg "range"=none)(f:aS a=false)(c:aS b=false)(g:QA X [a,b] h):QI X i (.Call (.Name "range" p) [a,b] [] pos) (Aq h):=
 ⟨yE d e g.h ((aB f).trans (by rw[aB c];rfl)) (aB c)⟩
def Dw(h:X.K=K)(a:QE X l b):QI X c l (Dt K b):=⟨Du h a.h⟩
section
variable{a b c:Expr}{ta tb tc:TE}{op op':CmpOp}{r r':R2}
def v8(e:OpQ X (compareOp op) r)(d:OpQ X (compareOp op') r')(f:lastMarks [op,op'] [b,c]=false)(g:QE X a ta)(h:QE X b tb)(i:QE X c tc):QE X (.Compare a [op,op'] [b,c] pos) (vO r r' ta tb tc):=⟨Aw e.h d.h g.h h.h i.h f⟩
def jN(d:OpQ X (compareOp op) r)(e:behindInMarks op b=false)(f:QE X a ta)(g:QE X b tb):QE X (.Compare a [op] [b] pos) (tOp r ta tb):=⟨CU d.h f.h g.h e⟩
def bA(d:OpQ X (compareOp op) r)(e:behindInMarks op b=false)(f:QE X a ta)(g:QE X b tb):QT X (.Compare a [op] [b] pos) (xi (tOp r ta tb)):=⟨CV d.h f.h g.h e⟩
def opE{op:Operator}(d:OpQ X (binaryOp op) r)(e:QE X a ta)(f:QE X b tb):QE X (.BinOp a op b pos) (tOp r ta tb):=⟨G0 d.h e.h f.h⟩
def Dx(d:QE X a ta):QE X (.UnaryOp .USub a pos) (tUn (rU λi=> .int (-i)) ta):=⟨G1 Fo d.h⟩
def noO:QO X none rT:=⟨C5⟩
def ED(h:QE X a ta):QO X (some a) (AH ta):=⟨C6 h.h⟩
def t8{op}(h:QE X a ta):QE X (.BoolOp op [a] pos) ta:=⟨Fa h.h⟩
def sr{rest:List Expr}(d:QE X a ta)(e:QE X (.BoolOp .And (b::rest) pos) tb):QE X (.BoolOp .And (a::b::rest) pos) (Ac ta tb):=⟨Fb d.h e.h⟩
def orV{rest:List Expr}(d:QE X a ta)(e:QE X (.BoolOp .Or (b::rest) pos) tb):QE X (.BoolOp .Or (a::b::rest) pos) (E9 ta tb):=⟨GY d.h e.h⟩
def cx(h:QA X es t):QE X (.List es pos) (Fy t):=⟨FA h.h⟩
def fO{d}(h:QA X es t):QE X (.Tuple es d pos) (Fx t):=⟨Fz h.h⟩
def eL:QE X (.Dict [] [] pos) vY:=⟨AU⟩
variable{tA tB':TT}{rest:List Expr}
def m9(d:QT X a tA):QT X (.UnaryOp .Not a pos) (E5 tA):=⟨E8 d.h⟩
def ng(d:QT X a tA):QW X (.BoolOp .And [a] pos) tA:=⟨CI d.h⟩
def v9(d:QT X a tA):QW X (.BoolOp .Or [a] pos) tA:=⟨E6 d.h⟩
def wa(d:QT X a tA)(e:QW X (.BoolOp .And (b::rest) pos) tB'):QW X (.BoolOp .And (a::b::rest) pos) (CH tA tB'):=⟨E7 d.h e.h⟩
def orW(d:QT X a tA)(e:QW X (.BoolOp .Or (b::rest) pos) tB'):QW X (.BoolOp .Or (a::b::rest) pos) (tOr tA tB'):=⟨GX d.h e.h⟩
def wT(h:QW X a tA):QT X a tA:=⟨PW.pt h.h⟩
def iA(h:X.K=K)(f:∀d,isTrue a X.env d=(do let v<-d;standAt a.pos;holding [v] (truthy v)))(g:QE X a ta):QT X a (λi H Q=>ta i H λx e=>∃k,Ax K x e k/\Q k e):=⟨zc h g.h f⟩
def kT:QTs X [] y6:=⟨Dk⟩
def iB(h:QT X c tA):QTs X [c] tA:=⟨Dl h.h⟩
end
def dh(S:aC X c e f)(l:X.calm=true)(m:m8 iter=false)(hi:QI X j iter n)
 (o:∀a b d,QG (bO X c e a b d) j g) (p:∀a b d,QTs (bO X c e a b d) h q) (r:∀a b d,QE (bO X c e a b d) i s):
 QE X (.ListComp i [%[j,iter,h|0]] c pos) (qj n e.length f g q s):=⟨Do S l hi.h (λa b d=>(o a b d).h) (λa b d=>(p a b d).h) (λa b d=>(r a b d).h) (kS m)⟩
def aX:QSs X [] Ae:=⟨CJ⟩
def ai{st:Stmt}{rest:List Stmt}(a:QS X st t)(b:QSs X rest u):QSs X (st::rest) (aZ t u):=⟨Af a.h b.h⟩
def aq{st:Stmt}(a:QS X st t):QSs X [st] t:=⟨CL a.h⟩
def ifS(d:QT X c e)(f:QSs X a t)(g:QSs X b u):QS X (.If c a b pos) (iu e t u):=⟨GZ d.h f.h g.h⟩
def aO(a:QE X e b):QS X (.Return (some e) pos) (fM b):=⟨Fc a.h⟩
def gE{st:Stmt}:QS X st Ag:=⟨Ah⟩
def bM(c:PassesOwn (model X.prog X.w) X.A X.env X.xe)(d:X.calm=true)(e:m8 iter=false)(hi:QI X b iter f)(h:QG X b g)(i:QSs X a j):
 QS X (.For b iter a [] pos) (tR f g j):=⟨Fg c d hi.h h.h i.h (kS e)⟩
def sw(i:Nat)(b:X.N.Nodup)(hi:X.N[i]?∣x)(c:Loc X.env.scope x)(d:X.fn x=true\/X.env.scope.names.lookup x∣.local)(f:gC e=false)(g:QE X e h):
 QS X (.Assign [.Name x a] e pos) (pq h (jc i)):=⟨Al b hi c g.h (jM f) d⟩
def b8(a:gC e=false)(b:QE X e c):QS X (.Expr e pos) (jH c):=⟨CM b.h (jM a)⟩
def He(c:gC e=false)(hw:v6 e=false)(a:aS b=false)(d:QE X e f)(h:QG X b g):QS X (.Assign [b] e pos) (pq f g):=
 ⟨Ff d.h h.h (jM c) (v7 hw) (by rw[dE a];rfl)⟩
def nh(i:Nat)(a:X.N.Nodup)(hi:X.N[i]?∣x)(b:Loc X.env.scope x)(c:X.fn x=true\/X.env.scope.names.lookup x∣.local):QG X (.Name x pos) (jc i):=⟨CO a hi b c⟩
def ck:QGs X [] Fd:=⟨CP⟩
def gsE(a:aS e=false)(b:QG X e t)(c:QGs X es u):QGs X (e::es) (Ai t u):=⟨Ak b.h c.h (by rw[dE a];rfl)⟩
def d6(b:X.K=K)(c:X.calm=true)(a:es.any aS=false)(h:QGs X es t):QG X (.Tuple es k pos) (CQ K es.length t):=by
 subst b;exact⟨Fe c h.h (eK a).1 (eK a).2⟩
def FV:OpQ X (binaryOp .Add) A1:=⟨Dq⟩
def xu:OpQ X (binaryOp .Sub) (rI0 λi j=> .int (i-j)):=⟨Fj⟩
def FW:OpQ X (binaryOp .Mult) A2:=⟨Dr⟩
def cc:OpQ X (binaryOp .Mod) (rI (λ_ j=>0<j) λi j=> .int (i%j)):=⟨Fk⟩
def kU:OpQ X (binaryOp .FloorDiv) (rI G4 λi j=> .int (i/j)):=⟨CS⟩
def cI:OpQ X (compareOp .Eq) FM:=⟨FN⟩
def hV:OpQ X (compareOp .NotEq) FO:=⟨FP⟩
def Dy:OpQ X (compareOp .Lt) (rI0 λi j=> .bl (decide (i<j))):=⟨G6⟩
def wb:OpQ X (compareOp .LtE) (rI0 λi j=> .bl (decide (i<=j))):=⟨G7⟩
def zd:OpQ X (compareOp .Gt) (rI0 λi j=> .bl (decide (j<i))):=⟨G8⟩
def Hf:OpQ X (compareOp .Is) (λx y H Q=>y= .non/\Q (.bl (decide (x= .non))) H):=⟨Fq⟩
def A9:OpQ X (compareOp .IsNot) (λx y H Q=>y= .non/\Q (.bl (!decide (x= .non))) H):=⟨CT⟩
def Dz(h:X.K=K):OpQ X (compareOp .In) (Ds K):=⟨FU h⟩
nonrec abbrev xv:R2:=λx y H Q=>∃i j,x= .str i/\y= .str j/\Q (.bl (!(!(Builtin.Str.occurrences j i 0 j.length 1).isEmpty))) H
nonrec abbrev xw(K:ZA):R2:=λx y H Q=>xv x y H Q\/rIn K true x y H Q
def xx(h:X.K=K):OpQ X (compareOp .NotIn) (xw K):=by subst h;exact⟨rY.or rX⟩
def di(h:X.K=K):cu X (.builtin "len") (λxs H Q=>∃x n,xs=[x]/\CW K x H n/\Q (.int n) H):=⟨y9 h⟩
def Ba(h:X.K=K)(a:X.calm=true):cu X (.builtin "all") (λxs H Q=>∃(p:Addr) (bs:List Bool),xs=[.ref p]/\SqL K H p (bs.map V.bl)/\Q (.bl (bs.all id)) H):=⟨za h a⟩
def Hg(a:X.calm=true):cu X (.builtin "min") (λxs H Q=>∃i j,xs=[.int i,.int j]/\Q (.int (if j<i then j else i)) H):=⟨yJ a⟩
def jO(h:X.K=K):cu X (.builtin "isinstance") (λxs H Q=>∃x n t b,xs=[x,.ty n]/\jq K H x t/\kitOne K t (.type n)∣b/\Q (.bl b) H):=⟨zb h⟩
def Bb:cu X (.type "int") (λxs H Q=>(∃i,xs=[.int i]/\Q (.int i) H)\/∃k,xs=[.bl k]/\Q (.int (if k then 1 else 0)) H):=⟨yK⟩
def ni(h:X.K=K):cu X (.type "list") (λxs H Q=>∃p ys,xs=[.ref p]/\(SqL K H p ys\/SqT K H p ys)/\∀l,H l=none->Q (.ref l) (upd H l (.lst ys))):=⟨v4 h⟩
def bn:MtQ X "list.append" r9:=⟨qf⟩
def no:MtQ X "list.extend" sd:=⟨yV⟩
def wc(h:X.K=K):MtQ X "str.join" (xt K):=⟨A3 h⟩
end
open PySem PySem.Spec PyProof.Rows PySem.SeqAt
section
#version
variable{h':Heap}{tk:Nat}{fp:List Addr}
def Inv.moved(I:Inv X pins σ H s)(c:∀b∈fp,mf X pins H b)(d:∀b o,b∉fp->s.heap.get? b∣o->h'.get? b∣o):Inv X pins σ H {s with heap:=h',toks:=tk}:=by
 have f:∀b v,H b∣v->b∉fp:=λb v e a=>by rw[(c b a).1]at e;cases e
 refine I.step (λb a=>%[(c b a).2.2.2.1,(c b a).2.1,(c b a).2.2.2.2.1|(c b a).2.2.2.2.2]) (λb o _ _ g e _=>d b o g e) (λb o _ _ g e _=>%[o.slots|d b o g e]) (λ_ _ _ _ n=>n)
  (λb o g e=>%[o|d b o g e]) (λ_ _ e=>e) (λ_ _ _ e=>e) (λb ps e=>%[#[]|by rw[e];simp]) (λm l=>?_) (λb v e=>?_) I.bare
 .have%[o,es,p,u|r]:=l;exact%[o,es,p,d _ o (λa=>(c _ a).2.1 rfl) u|r]
 .refine(I.hok b v e).stay (λj w h q=>d j w ?_ q) (λ_ q=>q) λ_ _ q=>q
  rcases h with i|i
  .exact i▸f b v e
  .exact f j _ i
def Inv.stood(I:Inv X pins σ H s)(J:Inv X pins σ H {s with heap:=h',toks:=tk})(c:⇑s<=a)(new:cF X.prog X.w (upd H a o) h' a o):Inv X pins σ (upd H a o) {s with heap:=h',toks:=tk}:=by
 have d:=I.hok.fresh c;refine%[J.ok,J.os,J.bare,?_,J.loc,J.cell,?_,?_,?_,?_|J.len]
 .refine%[J.base.keep,J.base.slot,λb o e n j=>?_,J.base.there,λb xs e=>?_,λb o v e=>?_|λb ps e=>?_]
  .rw[ak ((λb o e=>Zs (Zg (Zg (Zu e) I.sz) c)) b o e)];exact J.base.free b o e n j
  .rw[ak (au (J.base.tups b xs e) d)];exact J.base.tups b xs e
  .rw[ak (au (J.base.frzs b o v e) d)];exact J.base.frzs b o v e
  .have%[m|q]:=J.base.tbls b ps e;exact%[m|(ak (au q d))▸q]
 .rw[ak (Zs (Zg I.lt c))];exact J.free
 .intro g f e;have%[l|q]:=I.cell g f e;rw[ak (Zs (Zg q.lt c))];exact J.freeC g f e
 .intro p h;have%[e,n|r]:=J.pin p h;refine%[e,?_|r];rw[ak (Zs (Zg (Zu (I.pin p h).1) c))];exact n
 .intro b v e;by_cases i:b=a
  .subst i;rw[aa]at e;cases e;exact new
  .rw[ak i]at e;refine(J.hok b v e).stay (λ_ _ _ q=>q) (λf q=>?_) λf xs q=>?_
   .rw[ak (au q d)];exact q
   .rw[ak (au q d)];exact q
end
abbrev wg:V->List V->Hp->VK->Prop:=λx vs H Q=>∃z y,x= .str z/\vs=[.str y]/\1<= ~~~y/\ ~~~z+2<=sizeLine/\∀l,H l=none->Q (.ref l) (upd H l (.lst ((Txt.split z y)\3)))
def qq:∀ss k,aJ (ss\3) (strsFrom k ss)
 |[],_=> .nil
 | _::r,k=> .cons %[_|rfl] (qq r _)
def Bc{X:Cx}:MtM X "str.split" wg:=by
 intro pins s l H x vs v us Q I f g h;have%[z,y,rfl,rfl,m,n|q]:=h;have%[t|rfl]:=f;have%[o,rfl|i]:=g.one;have%[u|rfl]:=i;have b:(~~~y==0)=false:=by simp;lia
 have j:=split_le z y;by_cases c1:(decide (~~~z< ~~~y)||decide (Builtin.Str.strKind z<Builtin.Str.strKind y))=true
 .have e:Txt.split z y=[z]:=if_pos c1;rw[e]at q;exact call_meets F.slot_str_split (typeIs_str _ _ _) F.entry_str_split (F.args_str_split_2 _ _) (meets_str_split_cannot_occur z y t u c1) %[.ref _,_,I.lnew (ys:=[.str z]) (.cons %[_|rfl] .nil) (by show 1<=sizeLine;decide),rfl|q _ I.fresh]
 .have c:=Bool.eq_false_iff.mpr c1;by_cases d:(Builtin.Str.occurrences z y 0 z.length (~~~z+1)).isEmpty=true
  .have e:Txt.split z y=[z]:=(if_neg c1).trans (if_pos d);rw[e]at q;exact call_meets F.slot_str_split (typeIs_str _ _ _) F.entry_str_split (F.args_str_split_2 _ _) (meets_str_split_not_found z y t u c b d) %[.ref _,_,I.lnew (ys:=[.str z]) (.cons %[_|rfl] .nil) (by show 1<=sizeLine;decide),rfl|q _ I.fresh]
  .have e:Txt.split z y=Builtin.Str.partsBetween z _ y.length:=(if_neg c1).trans (if_neg d);have a: ~~~(Builtin.Str.partsBetween z (Builtin.Str.occurrences z y 0 z.length (z.length+1)) y.length)<=sizeLine:=by rw[<-e];lia
   refine call_meets F.slot_str_split (typeIs_str _ _ _) F.entry_str_split (F.args_str_split_2 _ _) (meets_str_split_sep z y t u c b (Bool.eq_false_iff.mpr d) ⋯ a) ?_;rw[<-e]at a ⊢;exact%[.ref _,_,I.lnew (qq _ _) (by rw[Z6];exact a),ρ|q _ I.fresh]
def xy{X:Cx}:MtQ X "str.split" wg:=⟨Bc⟩
abbrev Ite(K:ZA)(a:Addr)(xs:List V):It:=⟨λi H=>SqL K H a xs/\i< ~~~xs,λi H v b=>∃x T,xs[i]?∣x/\H T=none/\v= .ref T/\b=upd H T (.tup [.int i,x]),λi H=>SqL K H a xs/\ ~~~xs<=i⟩
abbrev ESt(e c a:Addr)(i:Nat)(h:Heap):Prop:=(∃b,IsEnum h e c i b)/\h.IsListIter c a i
def ze{P:Program}{K:ZA}(e it a:Addr)(xs:List V)(hne:e≠it):pA P w K (.Tuple elts kt tp) (Ite K a xs) [e,it] e (ESt e it a) where
 mem:=by simp
 obj:=λi h st b hb=>by
  have%[%[old|he],o1,e1,_|d1]:=st;simp only[Yu,X3,or_false]at hb;rcases hb with rfl|rfl
  .exact%[_,he|λv q=>nomatch q]
  .exact%[o1,e1|λv q=>by rw[d1]at q;cases q]
 keep:=λi h h' st k=>by
  have%[%[old|he],o1,e1|r1]:=st;exact%[%[old|k e ∅ _ he],o1,k it ∅ _ e1|r1]
 item:=by
  intro X hP hw hK hc i pins s σ H E I hf st hg;subst hP hw hK;have%[%[old|he]|hit]:=st;obtain⟨hq,hi⟩:SqL X.K H a xs/\i< ~~~xs:=hg;have%[its,rv,p|hz]:=I.list hq;have%[u,hu|ru]:=rv.get (i:=i) (x:=xs[i]) ∅;refine wpAny_pyNext_enum_item he hit p.isList ↑hu hne λh1 he1 hit1 ht1 hz1 hk1=>%[_,rfl|wpAny_letOwnedTupleGo_enum he1 λh2 he2 sb2=>?_]
  replace sb2:SameBut e h1 h2:=sb2;have elt:=Zu he;have kk:∀b o,b∉[e,it]->s.heap.get? b∣o->h2.get? b∣o:=λb o hb q=>by
   simp only[Yu,X3,or_false,not_or]at hb;exact(sb2.2 b hb.1).trans (hk1 b o hb.1 hb.2 q)
  have J:Inv X pins σ H {s with heap:=h2,toks:=s.toks+1}:=I.moved hf kk;have I2:Inv X pins σ (upd H ⇑s (.tup [.int i,xs[i]])) _:=
   I.stood J (Zi _) %[by show 2<=sizeLine;decide,[.int i s.toks,u],.cons %[_|rfl] (.cons ru .nil),_,((sb2.2 _ (Yx elt)).trans ht1),rfl,_|rfl]
  refine%[.ref ⇑s,_,I2,ρ,%[xs[i],_,by simp,I.fresh,ρ|ρ],%[%[u|he2]|?_]|λb hb=>?_]
  .have%[o,q|r]:=hit1;exact%[o,(sb2.2 _ (Ne.symm hne)).trans q|r]
  .have:b<⇑s:=by
    simp only[Yu,X3,or_false]at hb;rcases hb with rfl|rfl
    .exact elt
    .exact(by have%[o,q|_]:=hit;exact Zu q)
   rw[ak (Zs this)];exact(hf b hb).1
 done:=by
  intro X hP hw hK hc i pins s σ H E I hf st hg;subst hP hw hK;have%[%[old|he]|hit]:=st;obtain⟨hq,hi⟩:SqL X.K H a xs/\ ~~~xs<=i:=hg;have%[its,rv,p|hz]:=I.list hq;have hl:= ~~~rv;refine wpAny_pyNext_enum_end (I.ok.hd hc) he hit p.isList (by simp;lia) λh1 xb=>%[rfl|I.moved hf λb o hb q=>?_]
  simp only[Yu,X3,or_false,not_or]at hb;exact xb b o hb.2 q
 self:=λA i s Q E st h=>by
  have%[%[old|he]|hit]:=st;exact wpAny_pyIter_enum he h
abbrev EE(K:ZA)(c:TA):TI:=λd H R=>c d H λvs b=>∃a xs,vs=[.ref a]/\SqL K b a xs/\R (Ite K a xs) b
section
variable{X:Cx}{K:ZA}{pos:Pos}
def t9(m:X.K=K)(n:Gl X "enumerate")(o:X.mg "enumerate"=none)(r:aS a=false)(v:QA X [a] w):
 QI X (.Tuple g L M) (.Call (.Name "enumerate" p) [a] [] pos) (EE K w):=by
 subst m
 constructor
 intro pins s y H R I h;refine Call_ (gj I n o boot_enumerate (PyProof.Rows.callWith_type1 (thP (v.h pos pins s y H _ I h) λus d vs z c A B=>?_) (aB r) rfl));have%[l,xs,e,C|q]:=B;subst e;have%[u,rfl|E]:=cG A;cases E;have%[its,N,p|O]:=c.list C;refine call_enumerate_list p.isList λQ i f G J=>wpAny_pyIter_enum i %[⇑d+1,[⇑d+1,⇑d],ESt _ ⇑d l,Ite X.K l xs,z,rfl,(c.kept J),ze _ _ _ _ (Nat.succ_ne_self _),%[%[_|i]|f],λb j=>?_|q]
 simp only[Yu,X3,or_false]at j;rcases j with rfl|rfl
 .exact c.fpOk (Ye _) (c.hok.fresh (Ye _))
 .exact c.fpOk (Zi _) (c.hok.fresh (Zi _))
end
section
variable(h:Heap)(x y:Str)(t u:Tok)
noncomputable abbrev zs1:Heap:=h.push {cls:= .type (strIterType x),data:= .fields #[.str x t,.int 0 0]}
noncomputable abbrev zs2:Heap:=(zs1 h x t).push {cls:= .type (strIterType y),data:= .fields #[.str y u,.int 0 0]}
noncomputable abbrev zs3:Heap:=(zs2 h x y t u).push {cls:= .type "tuple",data:= .seq #[.ref h.objs.size,.ref (zs1 h x t).objs.size]}
noncomputable abbrev zs4:Heap:=(zs3 h x y t u).push {cls:= .type "tuple",data:= .seq #[.none,.none]}
noncomputable abbrev zs5:Heap:=(zs4 h x y t u).push {cls:= .type "zip",data:= .fields #[.none,.bool false,.bool false,.ref (zs2 h x y t u).objs.size,.ref (zs3 h x y t u).objs.size]}
end
def mo(x y:Str)(t u:Tok):
 Meets (Builtin.«zip.__new__» %[[.type "zip",.str x t,.str y u]|[]]) (λ_ R s=>R (.ok (.ret (.ref (zs4 s.heap x y t u).objs.size))) (s>>>zs5 s.heap x y t u)):=
 .of_wp λprog w A R s b=>by
  have%[c,g,d,tk|os]:=s;have a:=PySem.sub_zip
  wp_walk using wpAny_pyIter_strU (x:=x) (t:=t),wpAny_pyIter_strU (x:=y) (t:=u)
  exact%[_,ρ|b]
section
#where
def np
 (h:∀h',IsZip h' (⇑s+4) (⇑s+2) (⇑s+3) .none->IsPair h' (⇑s+2) (.ref ⇑s) (.ref (⇑s+1))->IsPair h' (⇑s+3) .none .none->
  h'.IsStrIter ⇑s (strIterType x) x t 0->h'.IsStrIter (⇑s+1) (strIterType y) y u 0->(∀c o,s.heap.get? c∣o->h'.get? c∣o)->Q (.ref (⇑s+4)) (s>>>h')):
 ↥A (call (.type "zip") [.str x t,.str y u]) Q E s:=by
 refine callType_new F.called_zip (!1) (F.typeCall_zip_2 _ _) (F.newCall_zip_2 _ _) (λobj=>F.args_object_init_3 obj _ _) F.entry_zip_new (mo x y t u) ?_;have n1:(zs1 s.heap x t).objs.size=⇑s+1:=Zq ..;have a:(zs2 s.heap x y t u).objs.size=⇑s+2:=by rw[Zq,n1]
 have b:(zs3 s.heap x y t u).objs.size=⇑s+3:=by rw[Zq,a]
 have e:(zs4 s.heap x y t u).objs.size=⇑s+4:=by rw[Zq,b]
 have f:∀c o,(zs4 s.heap x y t u).get? c∣o->(zs5 s.heap x y t u).get? c∣o:=λ_ _ q=>Z7 _ q
 have g:∀c o,(zs3 s.heap x y t u).get? c∣o->(zs5 s.heap x y t u).get? c∣o:=λc o q=>f c o (Z7 _ q)
 have i:∀c o,(zs2 s.heap x y t u).get? c∣o->(zs5 s.heap x y t u).get? c∣o:=λc o q=>g c o (Z7 _ q)
 have k2:∀c o,(zs1 s.heap x t).get? c∣o->(zs5 s.heap x y t u).get? c∣o:=λc o q=>i c o (Z7 _ q)
 have k1:∀c o,s.heap.get? c∣o->(zs5 s.heap x y t u).get? c∣o:=λc o q=>k2 c o (Z7 _ q)
 have d:(zs5 s.heap x y t u).get? (zs4 s.heap x y t u).objs.size∣_:=Zj _ rfl;have j:(zs5 s.heap x y t u).get? (zs3 s.heap x y t u).objs.size∣_:=f _ _ (Zj _ rfl);have l:(zs5 s.heap x y t u).get? (zs2 s.heap x y t u).objs.size∣_:=g _ _ (Zj _ rfl);have m:=i _ _ (Zj _ rfl);show _/\_;rw[a,b,e]at d;rw[n1,a]at l;rw[b]at j;rw[n1]at m;rw[e];exact%[%[_,d|ρ]|h _ d l j %[_,(k2 _ _ (Zj _ rfl)),ρ|ρ] %[_,m,ρ|ρ] k1]
end
abbrev EF(a:TA):TI:=λb H R=>a b H λvs c=>∃x y,vs=[.str x,.str y]/\R (Itz x y) c
section
variable{X:Cx}{K:ZA}{pos:Pos}
def EG(w:Gl X "zip")(z:X.mg "zip"=none)(A:aS a=false)(g:aS b=false)(B:QA X [a,b] C):
 QI X (.Tuple o N O) (.Call (.Name "zip" p) [a,b] [] pos) (EF C):=by
 constructor
 intro pins s E H R I h;refine Call_ (gj I w z boot_zip (PyProof.Rows.callWith_type1 (thP (B.h pos pins s E H _ I h) λus d vs G l J L=>?_) (aB A) (by rw[aB g];rfl)));have%[x,y,e|q]:=L;subst e;have%[Q,T,rfl,%[t|rfl],u|rfl]:=lF J;refine np λU r m n hi1 hi2 M=>wpAny_pyIter_zip r ?_
 have c:∀i j,i≠j->⇑d+i≠⇑d+j:=λi j h e=>h (Nat.add_left_cancel e)
 refine%[⇑d+4,[⇑d+4,⇑d+2,⇑d+3,⇑d+0,⇑d+1],_,Itz x y,G,ρ,(l.kept M),
  A7 _ _ _ _ _ x y t u %[c 2 4 (!1),c 3 4 (!1),c 0 4 (!1),c 1 4 (!1),c 2 3 (!1),c 2 0 (!1),c 2 1 (!1),c 3 0 (!1),c 3 1 (!1)|c 0 1 (!1)],
  %[r,m,%[_,_|n],hi1|hi2],λb v=>?_|q]
 have f:⇑d<=b:=by
  simp only[Yu,X3,or_false]at v;rcases v with rfl|rfl|rfl|rfl|rfl<;> exact le_add_right _ _
 exact l.fpOk f (l.hok.fresh f)
end
inductive D where
 | non|bl (b:Bool)|int (i:Int)|str (x:Str)|lst (ds:List D)|tup (ds:List D)
mutual
abbrev D.beq:D->D->Bool
 | .non,.non=>true
 | .bl a,.bl b=>a==b
 | .bl a,.int b=>(if a then 1 else 0)==b
 | .int a,.bl b=>a==(if b then 1 else 0)
 | .int a,.int b=>a==b
 | .str a,.str b=>a==b
 | .lst as,.lst bs=>D.beqs as bs
 | .tup as,.tup bs=>D.beqs as bs
 | _,_=>false
abbrev D.beqs:List D->List D->Bool
 |[],[]=>true
 | a::as,b::bs=>D.beq a b&&D.beqs as bs
 | _,_=>false
end
mutual
abbrev D.dep:D->Nat
 | .lst as=>D.deps as+1
 | .tup as=>D.deps as+1
 | _=>0
abbrev D.deps:List D->Nat
 |[]=>0
 | a::as=>max (D.dep a) (D.deps as)
end
mutual
abbrev Has(K:ZA)(H:Hp):D->V->Prop
 | .non,x=>x= .non
 | .bl b,x=>x= .bl b
 | .int i,x=>x= .int i
 | .str z,x=>x= .str z
 | .lst ds,x=>∃a xs,x= .ref a/\SqL K H a xs/\cj K H ds xs
 | .tup ds,x=>∃a xs,x= .ref a/\SqT K H a xs/\cj K H ds xs
abbrev cj(K:ZA)(H:Hp):List D->List V->Prop
 |[],xs=>xs=[]
 | d::ds,xs=>∃y ys,xs=y::ys/\Has K H d y/\cj K H ds ys
end
section
variable{K:ZA}{H H':Hp}
def cj.len:∀{ds:List D} {xs:List V},cj K H ds xs-> ~~~ds= ~~~xs
 |[],_,h=>by simp only[cj]at h;subst h;rfl
 | d::ds,_,h=>by
   have%[y,ys,rfl,_|a]:=h;rw[Zr,Zr,cj.len a]
def cj.get:∀{ds:List D} {xs:List V} {i:Nat} {x:V},cj K H ds xs->xs[i]?∣x->∃d,ds[i]?∣d/\Has K H d x
 |[],_,i,x,h,e=>by simp only[cj]at h;simp_all
 | d::ds,_,i,x,h,e=>by
   have%[y,ys,rfl,a|b]:=h;cases i with
   | zero=>simp at e;subst e;exact%[d,by simp|a]
   | succ i=>
     have%[d',c|f]:=cj.get b (e);exact%[d',c|f]
def ah.seqT(e:ah H H')(h:SqT K H a xs):SqT K H' a xs:=by
 rcases h with(h|⟨o,h⟩)|h
 .exact .inl (.inl (e _ _ h))
 .exact .inl (.inr %[o|e _ _ h])
 .exact .inr h
def D.beqs_all:∀(as bs:List D),~~~as= ~~~bs->(List.range as.length).all (λj=>D.beq (as.getD j .non) (bs.getD j .non))=D.beqs as bs
 |[],[],_=>by simp[D.beqs]
 | a::as,b::bs,h=>by
   have c:=D.beqs_all as bs ↑h;rw[Zr,List.range_succ_eq_map,all_cons,all_map];simp only[D.beqs];rw[<-c];rfl
def D.beqs_len:∀{as bs:List D},~~~as≠ ~~~bs->D.beqs as bs=false
 |[],[],h=>absurd rfl h
 |[],_::_,_=>by simp[D.beqs]
 | _::_,[],_=>by simp[D.beqs]
 | a::as,b::bs,h=>by
   simp only[D.beqs];rw[D.beqs_len (as:=as) (bs:=bs) ↑h,Bool.and_false]
end
section
#version
def Inv.seq_apart(I:Inv X pins σ H s)(h:SqL X.K H a xs)(h':SqT X.K H b ys):a≠b:=by
 have%[its,r,p|_]:=I.list h;have%[its',d,c|_]:=I.tuple h';exact ne_of_list_tuple p.isList c
mutual
def Has.inj(I:Inv X pins σ H s):∀{d e:D} {x:V},Has X.K H d x->Has X.K H e x->D.beq d e=true
 | .non,e,x,h,h'=>by
   simp only[Has]at h;subst h;cases e<;> simp only[Has]at h'<;> first|rfl|(have%[_,_,q|_]:=h';cases q)|cases h'
   all_goals simp[D.beq]
 | .bl b,e,x,h,h'=>by
   simp only[Has]at h;subst h;cases e<;> simp only[Has]at h'<;> first|(have%[_,_,q|_]:=h';cases q)|cases h'
   all_goals simp[D.beq]
 | .int i,e,x,h,h'=>by
   simp only[Has]at h;subst h;cases e<;> simp only[Has]at h'<;> first|(have%[_,_,q|_]:=h';cases q)|cases h'
   all_goals simp[D.beq]
 | .str z,e,x,h,h'=>by
   simp only[Has]at h;subst h;cases e<;> simp only[Has]at h'<;> first|(have%[_,_,q|_]:=h';cases q)|cases h'
   all_goals simp[D.beq]
 | .lst ds,e,x,h,h'=>by
   simp only[Has]at h;have%[a,xs,rfl,q|r]:=h;cases e with
   | lst es=>
     simp only[Has]at h';have%[b,ys,e,c|f]:=h';cases e;have e:=I.list_inj q c;subst e;simp only[D.beq];exact cj.inj I r f
   | tup es=>
     simp only[Has]at h';have%[b,ys,e,c|f]:=h';cases e;exact absurd rfl (I.seq_apart q c)
   | _=>simp only[Has]at h';cases h'
 | .tup ds,e,x,h,h'=>by
   simp only[Has]at h;have%[a,xs,rfl,q|r]:=h;cases e with
   | tup es=>
     simp only[Has]at h';have%[b,ys,e,c|f]:=h';cases e;have e:=I.tuple_inj q c;subst e;simp only[D.beq];exact cj.inj I r f
   | lst es=>
     simp only[Has]at h';have%[b,ys,e,c|f]:=h';cases e;exact absurd rfl (I.seq_apart c q)
   | _=>simp only[Has]at h';cases h'
def cj.inj(I:Inv X pins σ H s):∀{ds es:List D} {xs:List V},cj X.K H ds xs->cj X.K H es xs->D.beqs ds es=true
 |[],es,xs,h,h'=>by
  simp only[cj]at h;subst h;cases es with
  | nil=>simp[D.beqs]
  | cons e es=>simp only[cj]at h';have%[_,_,q|_]:=h';cases q
 | d::ds,es,xs,h,h'=>by
   simp only[cj]at h;have%[y,ys,rfl,c|f]:=h;cases es with
   | nil=>simp only[cj]at h';cases h'
   | cons e es=>
     simp only[cj]at h';have%[i,g,q,a|b]:=h';cases q;simp only[D.beqs];rw[Has.inj I c a,cj.inj I f b];rfl
end
def jP(r:cj X.K H ds xs)(w:cj X.K H es ys)(c:aJ xs us)(f:aJ ys vs)
 (z:∀(j:Nat) d e x y u v,ds[j]?∣d->es[j]?∣e->Has X.K H d x->Has X.K H e y->aN x u->aN y v->EqAt A s u v (D.beq d e)) (j:Nat) (B:j<us.toArray.size) (C:j<vs.toArray.size):
 EqAt A s us.toArray[j] vs.toArray[j] (D.beq (ds.getD j .non) (es.getD j .non)):=by
 have g:j< ~~~us:=↑B
 have h:j< ~~~vs:=↑C
 have l:j< ~~~xs:=by rw[~~~c];exact g
 have m:j< ~~~ys:=by rw[~~~f];exact h
 have%[d,n|a]:=r.get (i:=j) (x:=xs[j]) (by simp[l]);have%[e,o|b]:=w.get (i:=j) (x:=ys[j]) (by simp[m]);have%[u,p|E]:=c.get (i:=j) (x:=xs[j]) (by simp[l]);have%[v,q|G]:=f.get (i:=j) (x:=ys[j]) (by simp[m]);have I:us.toArray[j]=u:=by
  have:us[j]?∣us[j]:=by simp[g]
  rw[this]at p;simpa using Za p
 have J:vs.toArray[j]=v:=by
  have:vs[j]?∣vs[j]:=by simp[h]
  rw[this]at q;simpa using Za q
 rw[I,J,Zc,Zc,n,o];exact z j d e _ _ u v n o a b E G
def Bd(I:Inv X pins σ H s)(p:SqL X.K H a xs)(f:cj X.K H ds xs)(q:SqL X.K H b ys)(g:cj X.K H es ys)(h:A.units<cLine)
 (r:∀(j:Nat) d e x y u v,ds[j]?∣d->es[j]?∣e->Has X.K H d x->Has X.K H e y->aN x u->aN y v->EqAt A.in1 s u v (D.beq d e)):RcAt A s (.ref a) (.ref b) (D.beqs ds es):=by
 have%[us,i,l|_]:=I.list p;have%[vs,m,n|_]:=I.list q;have n1:us.toArray.size= ~~~ds:=by rw[Zp,<-i.length,f.len]
 have o:vs.toArray.size= ~~~es:=by rw[Zp,<-m.length,g.len]
 by_cases c: ~~~ds= ~~~es
 .rw[<-D.beqs_all ds es c,<-n1];exact RcAt.lists l.isList n.isList (by rw[n1,o,c]) h (jP f g i m r)
 .rw[D.beqs_len c];exact RcAt.lists_lengths l.isList n.isList (by rw[n1,o];simpa using c) h
def DC(I:Inv X pins σ H s)(n:SqT X.K H a xs)(g:cj X.K H ds xs)(o:SqT X.K H b ys)(h:cj X.K H es ys)(p:A.units<cLine)
 (q:∀(j:Nat) d e x y u v,ds[j]?∣d->es[j]?∣e->Has X.K H d x->Has X.K H e y->aN x u->aN y v->EqAt A.in1 s u v (D.beq d e)):RcAt A s (.ref a) (.ref b) (D.beqs ds es):=by
 have%[us,i,r|_]:=I.tuple n;have%[vs,m,w|_]:=I.tuple o;have n1:us.toArray.size= ~~~ds:=by rw[Zp,<-i.length,g.len]
 have z:vs.toArray.size= ~~~es:=by rw[Zp,<-m.length,h.len]
 have c:=RcAt.tuples (A:=A) (s:=s) (l:=a) (b:=b) (items:=us.toArray) (items2:=vs.toArray) r w p (jP g h i m q);rw[n1,z]at c;by_cases f: ~~~ds= ~~~es
 .rw[<-f,Nat.min_self,D.beqs_all ds es f]at c;simpa using c
 .rw[D.beqs_len f];have e:(~~~ds== ~~~es)=false:=↑f
  rw[e,Bool.and_false]at c;exact c
def c7:∀{ds:List D} {j:Nat} {d:D},ds[j]?∣d->D.dep d<=D.deps ds
 |[],_,_,h=>by simp at h
 | a::as,0,d,h=>by
   simp at h;subst h;simp only[D.deps];exact Nat.le_max_left _ _
 | a::as,j+1,d,h=>by
   have:=c7 (ds:=as) (j:=j) (d:=d) ↑h;simp only[D.deps];exact Yf this (Nat.le_max_right _ _)
def ua(I:Inv X pins σ H s):∀(n:Nat) {d e:D} {x y:V} {u v:Value} {A:Around},D.dep d<=n->A.units+n<cLine->Has X.K H d x->Has X.K H e y->aN x u->aN y v->EqAt A s u v (D.beq d e):=by
 intro n
 induction n with
 | zero=>
   intro d e x y u v A C T h c o g;have f:A.units<cLine:=by lia
   cases d with
   | lst ds=>exact absurd C (by simp[D.dep])
   | tup ds=>exact absurd C (by simp[D.dep])
   | non=>
     simp only[Has]at h;subst h;cases o;cases e with
     | non=>simp only[Has]at c;subst c;cases g;simp only[D.beq];exact EqAt.same _
     | bl j=>simp only[Has]at c;subst c;cases g;simp only[D.beq];exact EqAt.none_bool _
     | int j=>simp only[Has]at c;subst c;have%[_|rfl]:=g;simp only[D.beq];exact EqAt.none_int _ _
     | str j=>simp only[Has]at c;subst c;have%[_|rfl]:=g;simp only[D.beq];exact EqAt.none_str _ _
     | lst j=>simp only[Has]at c;have%[b,ys,rfl,q|_]:=c;cases g;have%[vs,_,p|_]:=I.list q;simp only[D.beq];exact EqAt.none_list p.isList f
     | tup j=>simp only[Has]at c;have%[b,ys,rfl,q|_]:=c;cases g;have%[vs,_,p|_]:=I.tuple q;simp only[D.beq];exact EqAt.none_tuple p f
   | bl i=>
     simp only[Has]at h;subst h;cases o;cases e with
     | non=>simp only[Has]at c;subst c;cases g;simp only[D.beq];exact EqAt.bool_none _
     | bl j=>simp only[Has]at c;subst c;cases g;simp only[D.beq];exact EqAt.bool_bool _ _
     | int j=>simp only[Has]at c;subst c;have%[_|rfl]:=g;simp only[D.beq];exact EqAt.bool_int _ _ _
     | str j=>simp only[Has]at c;subst c;have%[_|rfl]:=g;simp only[D.beq];exact EqAt.bool_str _ _ _
     | lst j=>simp only[Has]at c;have%[b,ys,rfl,q|_]:=c;cases g;have%[vs,_,p|_]:=I.list q;simp only[D.beq];exact EqAt.bool_list _ p.isList f
     | tup j=>simp only[Has]at c;have%[b,ys,rfl,q|_]:=c;cases g;have%[vs,_,p|_]:=I.tuple q;simp only[D.beq];exact EqAt.bool_tuple _ p f
   | int i=>
     simp only[Has]at h;subst h;have%[_|rfl]:=o;cases e with
     | non=>simp only[Has]at c;subst c;cases g;simp only[D.beq];exact EqAt.int_none _ _
     | bl j=>simp only[Has]at c;subst c;cases g;simp only[D.beq];exact EqAt.int_bool _ _ _
     | int j=>simp only[Has]at c;subst c;have%[_|rfl]:=g;simp only[D.beq];exact EqAt.int_int _ _ _ _
     | str j=>simp only[Has]at c;subst c;have%[_|rfl]:=g;simp only[D.beq];exact EqAt.int_str _ _ _ _
     | lst j=>simp only[Has]at c;have%[b,ys,rfl,q|_]:=c;cases g;have%[vs,_,p|_]:=I.list q;simp only[D.beq];exact EqAt.int_list _ _ p.isList f
     | tup j=>simp only[Has]at c;have%[b,ys,rfl,q|_]:=c;cases g;have%[vs,_,p|_]:=I.tuple q;simp only[D.beq];exact EqAt.int_tuple _ _ p f
   | str i=>
     simp only[Has]at h;subst h;have%[_|rfl]:=o;cases e with
     | non=>simp only[Has]at c;subst c;cases g;simp only[D.beq];exact EqAt.str_none _ _
     | bl j=>simp only[Has]at c;subst c;cases g;simp only[D.beq];exact EqAt.str_bool _ _ _
     | int j=>simp only[Has]at c;subst c;have%[_|rfl]:=g;simp only[D.beq];exact EqAt.str_int _ _ _ _
     | str j=>simp only[Has]at c;subst c;have%[_|rfl]:=g;simp only[D.beq];exact EqAt.str_str _ _ _ _
     | lst j=>simp only[Has]at c;have%[b,ys,rfl,q|_]:=c;cases g;have%[vs,_,p|_]:=I.list q;simp only[D.beq];exact EqAt.str_list _ _ p.isList f
     | tup j=>simp only[Has]at c;have%[b,ys,rfl,q|_]:=c;cases g;have%[vs,_,p|_]:=I.tuple q;simp only[D.beq];exact EqAt.str_tuple _ _ p f
 | succ n G=>
   intro d e x y u v A C T h c o g;by_cases Q:D.dep d<=n
   .exact G Q ⋯ h c o g
   have f:A.units<cLine:=by lia
   cases d with
   | lst ds=>
     simp only[Has]at h;have%[a,xs,rfl,q|r]:=h;cases o;have J:D.deps ds<=n:=by simp only[D.dep]at C;lia
     cases e with
     | lst es=>
       simp only[Has]at c;have%[b,ys,rfl,m|E]:=c;cases g;simp only[D.beq];by_cases l:a=b
       .subst l;have e:=I.list_inj q m;subst e;rw[cj.inj I r E];exact EqAt.same _
       .exact EqAt.of_refs l (Bd I q r m E f λj d e x y u v w L z B M N=>G (Yf (c7 w) J) (by show A.units+1+n<cLine;lia) z B M N)
     | tup es=>
       simp only[Has]at c;have%[b,ys,rfl,m|_]:=c;cases g;have%[us,_,p|_]:=I.list q;have%[vs,_,O|_]:=I.tuple m;simp only[D.beq];exact EqAt.list_tuple p.isList O f
     | non=>simp only[Has]at c;subst c;cases g;have%[us,_,p|_]:=I.list q;simp only[D.beq];exact EqAt.list_none p.isList f
     | bl k=>simp only[Has]at c;subst c;cases g;have%[us,_,p|_]:=I.list q;simp only[D.beq];exact EqAt.list_bool _ p.isList f
     | int k=>simp only[Has]at c;subst c;have%[t'|rfl]:=g;have%[us,_,p|_]:=I.list q;simp only[D.beq];exact EqAt.list_int _ _ p.isList f
     | str k=>simp only[Has]at c;subst c;have%[t'|rfl]:=g;have%[us,_,p|_]:=I.list q;simp only[D.beq];exact EqAt.list_str _ _ p.isList f
   | tup ds=>
     simp only[Has]at h;have%[a,xs,rfl,q|r]:=h;cases o;have J:D.deps ds<=n:=by simp only[D.dep]at C;lia
     cases e with
     | tup es=>
       simp only[Has]at c;have%[b,ys,rfl,m|E]:=c;cases g;simp only[D.beq];by_cases l:a=b
       .subst l;have e:=I.tuple_inj q m;subst e;rw[cj.inj I r E];exact EqAt.same _
       .exact EqAt.of_refs l (DC I q r m E f λj d e x y u v w L z B M N=>G (Yf (c7 w) J) (by show A.units+1+n<cLine;lia) z B M N)
     | lst es=>
       simp only[Has]at c;have%[b,ys,rfl,m|_]:=c;cases g;have%[us,_,p|_]:=I.tuple q;have%[vs,_,O|_]:=I.list m;simp only[D.beq];exact EqAt.tuple_list p O.isList f
     | non=>simp only[Has]at c;subst c;cases g;have%[us,_,p|_]:=I.tuple q;simp only[D.beq];exact EqAt.tuple_none p f
     | bl k=>simp only[Has]at c;subst c;cases g;have%[us,_,p|_]:=I.tuple q;simp only[D.beq];exact EqAt.tuple_bool _ p f
     | int k=>simp only[Has]at c;subst c;have%[t'|rfl]:=g;have%[us,_,p|_]:=I.tuple q;simp only[D.beq];exact EqAt.tuple_int _ _ p f
     | str k=>simp only[Has]at c;subst c;have%[t'|rfl]:=g;have%[us,_,p|_]:=I.tuple q;simp only[D.beq];exact EqAt.tuple_str _ _ p f
   | _=>exact absurd (Xd n) Q
end
open PySem PySem.Spec PyProof.Rows PySem.SeqAt
def wj{X:Cx}(J:X.N.Nodup)(u:X.N[i]?∣x)(L:Loc X.env.scope x)(M:X.fn x=true\/X.env.scope.names.lookup x∣.local)
 (w:swapsWith (.ListComp l [%[y,iter,p|0]] a pos) (some (.Name x B)) f.line X.env=pure true) (S:aC X a r A) (N:X.calm=true) (O:∀x,foldedSetIterable iter X.env x=pure x) (hi:PI X y iter Q)
 (T:∀c d j,PG (bO X a r c d j) y g) (U:∀c d j,PTs (bO X a r c d j) p Y) (he:∀c d j,PE (bO X a r c d j) l te):
 PS X (.Assign [.Name x B] (.ListComp l [%[y,iter,p|0]] a pos) f) (pq (qj Q r.length A g Y te) (jc i)):=by
 intro pins s σ H D I h;refine Z2 (wpAny_standAt ?_);show wpAny _ _ (swapsWith (.ListComp l _ a pos) (some (.Name x B)) f.line X.env>>= _) _ _ _;rw[w];refine Z2 (Z3 (Z2 (Z2 (qk S N hi T U he O I h λD' C H5 s6 fl m hn j k q=>?_))));have%[o,es,ep,E,hd|hr]:=id hn;have I7:=(k s6.heap (SameBut.refl _ _)).pinned (λb n=>(Xm n)▸j) λb n=>by
  rw[Xm n];exact%[o,E|λv z=>by lia]
 refine wpAny_assign_Name (mR I7 J u L (v:= .ref D') rfl (λs8 G=>%[m,%[o,es,ep,((G.pin _ (Yt _ (Yt _ (eF (mem_singleton.mpr rfl) E)))).1),hd|hr]|λh' sb=>Z3 (Z3 %[_,H5,(G.unpinned).moved (λb n=>(Xm n)▸j) λb o' n e=>(sb.2 b (λz=>n (mem_singleton.mpr z))).trans e|q])]) M)
def zf(h:(env.blockKind== .function&&env.kindOf x==some .local&&b.line==pos.line&&!(a.names.any λ(n,k)=>n==x&&(k== .local||k== .cell)))=true):
 swapsWith (.ListComp c gens a pos) (some (.Name x b)) l env=pure true:=by
 show(pure (env.blockKind== .function&&env.kindOf x==some _&&b.line==pos.line&&!(a.names.any _)))=pure true;rw[h]
def jQ{X:Cx}(i:Nat)(q:X.N.Nodup)(f:X.N[i]?∣x)(r:Loc X.env.scope x)(s:X.fn x=true\/X.env.scope.names.lookup x∣.local)
 (h:(X.env.blockKind== .function&&X.env.kindOf x==some .local&&u.line==pos.line&&!(c.names.any λ(n,k)=>n==x&&(k== .local||k== .cell)))=true) (S:aC X c e j) (v:X.calm=true) (w:m8 iter=false) (hi:QI X o iter y)
 (z:∀a b d,QG (bO X c e a b d) o g) (A:∀a b d,QTs (bO X c e a b d) l B) (C:∀a b d,QE (bO X c e a b d) m E):
 QS X (.Assign [.Name x u] (.ListComp m [%[o,iter,l|0]] c pos) p) (pq (qj y e.length j g B E) (jc i)):=
 ⟨wj q f r s (zf h) S v (kS w) hi.h (λa b d=>(z a b d).h) (λa b d=>(A a b d).h) (λa b d=>(C a b d).h)⟩
section
#version
def Be(I:Inv X pins σ H s)(p:SqL X.K H a xs)(f:cj X.K H ds xs)(q:SqL X.K H b ys)(g:cj X.K H es ys)(h:A.units<cLine)
 (r:∀(j:Nat) d e x y u v,ds[j]?∣d->es[j]?∣e->Has X.K H d x->Has X.K H e y->aN x u->aN y v->EqAt A.in1 s u v (D.beq d e)):RcNeAt A s (.ref a) (.ref b) (!D.beqs ds es):=by
 have%[us,i,l|_]:=I.list p;have%[vs,m,n|_]:=I.list q;have n1:us.toArray.size= ~~~ds:=by rw[Zp,<-i.length,f.len]
 have o:vs.toArray.size= ~~~es:=by rw[Zp,<-m.length,g.len]
 by_cases c: ~~~ds= ~~~es
 .rw[<-D.beqs_all ds es c,<-n1];exact RcNeAt.lists l.isList n.isList (by rw[n1,o,c]) h (jP f g i m r)
 .rw[D.beqs_len c];exact RcNeAt.lists_lengths l.isList n.isList (by rw[n1,o];simpa using c) h
def DD(I:Inv X pins σ H s)(n:SqT X.K H a xs)(g:cj X.K H ds xs)(o:SqT X.K H b ys)(h:cj X.K H es ys)(p:A.units<cLine)
 (q:∀(j:Nat) d e x y u v,ds[j]?∣d->es[j]?∣e->Has X.K H d x->Has X.K H e y->aN x u->aN y v->EqAt A.in1 s u v (D.beq d e)):RcNeAt A s (.ref a) (.ref b) (!D.beqs ds es):=by
 have%[us,i,r|_]:=I.tuple n;have%[vs,m,w|_]:=I.tuple o;have n1:us.toArray.size= ~~~ds:=by rw[Zp,<-i.length,g.len]
 have z:vs.toArray.size= ~~~es:=by rw[Zp,<-m.length,h.len]
 have c:=RcNeAt.tuples (A:=A) (s:=s) (l:=a) (b:=b) (items:=us.toArray) (items2:=vs.toArray) r w p (jP g h i m q);rw[n1,z]at c;by_cases f: ~~~ds= ~~~es
 .rw[<-f,Nat.min_self,D.beqs_all ds es f]at c;simpa using c
 .rw[D.beqs_len f];have e:(~~~ds== ~~~es)=false:=↑f
  rw[e,Bool.and_false]at c;exact c
end
section
variable{X:Cx}{K:ZA}
nonrec abbrev FX(K:ZA):R2:=λx y H Q=>∃ds es,Has K H (.lst ds) x/\Has K H (.lst es) y/\D.deps ds<=40/\Q (.bl (!D.beqs ds es)) H
nonrec abbrev FY(K:ZA):R2:=λx y H Q=>∃ds es,Has K H (.tup ds) x/\Has K H (.tup es) y/\D.deps ds<=40/\Q (.bl (!D.beqs ds es)) H
def FZ(B:X.A.units+64<cLine):OpR X (compareOp .NotEq) (FX X.K):=by
 intro pins s C H x y v u Q I m n h;have%[ds,es,c,f,o|q]:=h;simp only[Has]at c f;have%[a,xs,rfl,p|c]:=c;have%[b,ys,rfl,r|f]:=f;cases m;cases n;exact Be I p c r f ⋯ (λj d e x y u v g w i l z A=>ua I 40 (Yf (c7 g) o) (by show X.A.units+1+40<cLine;lia) i l z A) _ _ _ _ %[.bl _,H,I,rfl|q]
def F0(B:X.A.units+64<cLine):OpR X (compareOp .NotEq) (FY X.K):=by
 intro pins s C H x y v u Q I m n h;have%[ds,es,c,f,o|q]:=h;simp only[Has]at c f;have%[a,xs,rfl,p|c]:=c;have%[b,ys,rfl,r|f]:=f;cases m;cases n;exact DD I p c r f ⋯ (λj d e x y u v g w i l z A=>ua I 40 (Yf (c7 g) o) (by show X.A.units+1+40<cLine;lia) i l z A) _ _ _ _ %[.bl _,H,I,rfl|q]
nonrec abbrev Hh(K:ZA):R2:=λx y H Q=>rNe x y H Q\/(FX K x y H Q\/FY K x y H Q)
def Hi(h:X.K=K)(a:bX k X.A):OpQ X (compareOp .NotEq) (Hh K):=by subst h;exact⟨Ey.or ((FZ a.units).or (F0 a.units))⟩
def cj.strs:∀(ss:ZB),cj K H (ss.map D.str) (ss\3)
 |[]=>by simp only[map_nil,cj]
 | z::r=>by
   exact%[_,_,ρ,by simp only[Has]|cj.strs r]
def qr:∀(ss:ZB),D.deps (ss.map D.str)=0
 |[]=>rfl
 | z::r=>by simp only[Yp,D.deps,D.dep,qr r];rfl
def qu:∀(xs ys:ZB),D.beqs (xs.map D.str) (ys.map D.str)=decide (xs=ys)
 |[],[]=>by simp[D.beqs]
 |[],y::ys=>by simp[D.beqs]
 | x::xs,[]=>by simp[D.beqs]
 | x::xs,y::ys=>by
   simp only[Yp,D.beqs,D.beq,qu xs ys];by_cases a:x=y
   .subst a;by_cases b:xs=ys
    .subst b;simp
    .simp[b]
   .have:(x==y)=false:=↑a
    simp[this,a]
end
open PySem PySem.Spec PyProof.Rows
def bQ:Slot "set_iterator" "__next__" "set_iterator.__next__":=
 .of (owner:="set_iterator") (n:="__next__") (by rw[typeLookup_type,builtinLookup_eq_fast];kernel_rfl) (!0) (!0) (!0) (by first|exact .inl (!0)|exact .inr ∅) (by kernel_rfl)
def fP:entryFor table "set_iterator.__next__"=some Builtin.«set_iterator.__next__»:=entryFor_of_tree (by kernel_rfl)
def hW(a:Value):argsOk "set_iterator.__next__" %[[a]|[]]:=by kernel_rfl
def pC:entryFor table "set.__iter__"=some Builtin.«frozenset.__iter__»:=entryFor_alias (id':="frozenset.__iter__") (by kernel_rfl) rfl (!0) (by kernel_rfl)
def pD(t:SetTable)(n:Nat):(t.orStandIn n).led=t.led:=by unfold SetTable.orStandIn;split<;> rfl
def wk(t:SetTable)(es:Array _)(h:Int)(x:Value):(layNew t es h x).2.1.led=t.led:=by
 unfold layNew;cases t.freeSlot h with
 | none=>rfl
 | some p=>
   exact pD _ _
def sB(t:SetTable)(es:Array _)(n:Nat):(relayAll t es n).2.1.led=t.led:=by
 unfold relayAll;cases a:t.relaid _ n with
 | none=>rfl
 | some p=>
   have%[t'|c]:=p;simp only
   split
   .simp only[SetTable.relaid,SetTable.laid]at a;cases b:SetTable.layClean _ _ with
    | none=>rw[b]at a;cases a
    | some e=>rw[b]at a;injection a with a;injection a with d f;rw[<-d]
   .rfl
def nq(t:SetTable)(es:Array _)(n:Nat)(c:t.plain=false):(relayAll t es n).2.1.plain=false:=by
 unfold relayAll;cases a:t.relaid _ n with
 | none=>rfl
 | some p=>
   have%[t'|d]:=p;simp only
   split
   .simp only[SetTable.relaid,SetTable.laid]at a;cases b:SetTable.layClean _ _ with
    | none=>rw[b]at a;cases a
    | some f=>rw[b]at a;injection a with a;injection a with e g;exact e▸c
   .rfl
abbrev aT(w:World):Bool:=w.params.followText "set-order"
abbrev bi(w:World)(a:Addr)(ks:ZB)(h:Heap):Prop:=
 ∃o es b t ss,h.get? a∣o/\o.ExactSet/\o.data= .set es b t/\StrsAre (es.toList\2) ss/\ss.Perm ks/\ks.Nodup/\(∀e∈es.toList,∃z u,e=(hashStr w z,.str z u))/\es.size<scanBound/\t.fits es.size=true/\(es.size≠0->t.plain=false)/\t.led=!aT w
def qv(h:∀e∈l,∃z u,e=(hashStr w z,.str z u)):ElemsOf (aQ prog w) l:=λe a=>by
 have%[z,u|rfl]:=h e a;exact%[%[Sum.inr z,dC z u|ρ]|ρ]
def dP:∀{vs:ZF} {ss:ZB} {z:Str},StrsAre vs ss->((∃u,Value.str z u∈vs)↔z∈ss)
 | _,_,z,.nil=>by simp
 | _,_,z,.cons x t h=>by
   have b:=dP (z:=z) h
   constructor
   .rintro⟨u,a⟩;rcases mem_cons.mp a with e|e
    .injection e with c _;exact c▸Zm
    .exact Zk _ (b.mp %[u|e])
   .intro d;rcases mem_cons.mp d with e|e
    .exact e▸%[t|Zm]
    .have%[u|a]:=b.mpr e;exact%[u|Zk _ a]
def iC:∀{vs ws:ZF} {ss ts:ZB},StrsAre vs ss->StrsAre ws ts->StrsAre (vs++ws) (ss++ts)
 | _,_,_,_,.nil,h=>h
 | _,_,_,_,.cons x t h,h'=> .cons x t (iC h h')
def a8:∀{vs:ZF} {ss:ZB},StrsAre vs ss-> ~~~vs= ~~~ss
 | _,_,.nil=>rfl
 | _,_,.cons x t h=>by rw[Zr,Zr,a8 h]
def cp(h:StrsAre vs ss)(p:ws.Perm vs):∃ts,StrsAre ws ts/\ts.Perm ss:=by
 refine%[ws.map strOf,strsAre_map ws λv a=>h.all v (p.mem_iff.mp a)|?_];have:=p.map strOf;rwa[h.strs]at this
section
#where
variable{a:Addr}
def bi.stored{h:Heap}{o:Obj}{es b:Array (Int×Value)}{t t':SetTable}(i:h.get? a∣o)(c:o.ExactSet)(d:o.data= .set es f t)(j:StrsAre (b.toList\2) ss)(l:ss.Perm ks)(m:ks.Nodup)
 (n:∀e∈b.toList,∃z u,e=(hashStr w z,.str z u)) (p:b.size<scanBound) (r:t'.fits b.size=true) (v:t'.plain=false) (y:t'.led=!aT w):
 (h.update a (Obj.putSet b t')).get? a=some {o with data:= .set b (f+1) t'}/\bi w a ks (h.update a (Obj.putSet b t')):=by
 have g:=by
  have q:=get?_update_self (Obj.putSet b t') i (by rw[putSet_of b t' d];rfl);rwa[putSet_of b t' d]at q
 exact%[g,_,b,f+1,t',ss,g,c,ρ,j,l,m,n,p,r,λ_=>v|y]
def ub{g:Bool->Sem Unit}(O:∀(b:Bool) (h:Shared) (q:Unit->Shared->Prop),q () h->↥A (g b) q E h){m:Bool}{R:Option Bool->Shared->Prop}(r:s.heap.get? a∣o)(i:o.ExactSet)(v:o.data= .set es ep t)
 (y:StrsAre (c.toList\2) ss) (B:ss.Perm ks) (C:ks.Nodup) (G:∀e∈c.toList,∃z u,e=(hashStr w z,.str z u)) (j:c.size<scanBound) (Q:d.fits c.size=true) (H:d.plain=false) (I:d.led=!aT w)
 (J:∀h',SameBut a s.heap h'->bi w a ks h'->R (some true) (s>>>h')):
 ↥A (do
  storeSet a c d
  if(!m&&d.tooFull)=true then do
   g (relayAll d c (SetTable.grown c.size)).2.2
   storeSet a (relayAll d c (SetTable.grown c.size)).1 (relayAll d c (SetTable.grown c.size)).2.1
   pure (some true)
  else pure (some true)) R E s:=by
 have%[M|T]:=bi.stored r i v y B C G j Q H I;have N:=SameBut.update s.heap a (Obj.putSet c d);refine Z2 (wpAny_storeSet_of r v ?_ (fits_of_scanBound j))
 split
 .have p:=relayAll_perm d c (SetTable.grown c.size);have f:=relayAll_fits d c (SetTable.grown c.size);have l:=sB d c (SetTable.grown c.size);have pl:=nq d c (SetTable.grown c.size) H
  generalize relayAll d c _=L at p f l pl ⊢
  have%[n,t3|gv]:=L;have z:n.size=c.size:=by rw[<-Zb,p.length_eq,Zb]
  have%[ts,U|Y]:=cp y (p.map _);exact Z2 (O _ _ _ (Z2 (wpAny_storeSet_of M rfl (Z3 (J _ (N.trans (SameBut.update _ a _)) (bi.stored M i rfl U (Y.trans B) C (λe he=>G e (p.mem_iff.mp he)) (by rw[z];exact j) f pl (l.trans I)).2)) (fits_of_scanBound (by rw[z];exact j)))))
 .exact Z3 (J _ N T)
def jR{ks:ZB}(hS:bi w a ks s.heap)(r: ~~~ks+1<scanBound)
 (hQ:∀h' b,SameBut a s.heap h'->bi w a (if z∈ks then ks else ks++[z]) h'->Q b (s>>>h')):↥A (setAddHashed a (.str z tk) (hashStr w z)) Q E s:=by
 have%[o,es,ep,t,ss,C,v,G,g,hp,H,h,hb,hf,ac|c]:=hS;have hn:es.size= ~~~ks:=by
  have q:=a8 g;rw[Z6,Zb,hp.length_eq]at q;exact q
 have hE:ElemsOf (aQ prog w) es.toList:=qv h;have I:(aQ prog w).is (Sum.inr z) (.str z tk)=true:=dC z tk;unfold setAddHashed setAddHashedIn;refine wpAny_holding (Z2 (wpAny_setState_of C G hf ?_));dsimp only;rw[byScan_of (knd:=aQ prog w) rfl hb hE];simp only[↓reduceIte];unfold setAddByScan;refine Z2 (Z2 (wpAny_rule (Z2 (wpAny_setScan_of I C G hf hE ?_))));have J:(∃e∈es.toList,(aQ prog w).is (Sum.inr z) e.2=true)↔z∈ks:=by
  rw[<-hp.mem_iff,<-dP g]
  constructor
  .rintro⟨e,l,q⟩;have%[y,u|rfl]:=h e l;have q:jb (Sum.inr z) (Value.str y u)=true:=q;rcases aW q with⟨i,t',q1,m⟩|⟨y',t',q1,m⟩
   .cases m
   .cases q1;exact%[u|Xo ⟨_,l,by injection m with e1 _;rw[e1]⟩]
  .rintro⟨u,hu⟩;have%[e,l|q]:=Xn hu;exact%[e,l|q▸dC z u]
 cases hr:List.findIdx? _ es.toList with
 | some j=>
   have%[hj,ae|_]:=List.findIdx?_eq_some_iff_getElem.mp hr;have hz:=J.mp %[es.toList[j],Yc hj|ae];have q:=hQ s.heap false (SameBut.refl a s.heap) ((if_pos hz)▸%[o,es,ep,t,ss,C,v,G,g,hp,H,h,hb,hf,ac|c]);exact Z3 (Z3 q)
 | none=>
   have hz:z∉ks:=λq=>by
    have%[e,l|m]:=J.mpr q;have:=List.findIdx?_eq_none_iff.mp hr e l;rw[m]at this;cases this
   rw[if_neg hz]at hQ;have M:=layNew_perm t es (hashStr w z) (.str z tk);have lf:=layNew_fits t es (hashStr w z) (.str z tk);have ll:=wk t es (hashStr w z) (.str z tk)
   generalize hL:layNew t es _ _=L at M lf ll
   have%[B,t1,an|al]:=L;rw[toList_push]at M;have d:∀b f Q',Q' () f->↥A (match b with|true=>rule "set.scan.the-table-gave-way"|false=>pure ()) Q' E f:=λb f Q' q=>by
    cases b
    .exact Z3 q
    .exact wpAny_rule q
   have n:∀e∈B.toList,∃z u,e=(hashStr w z,.str z u):=λe l=>by
    rcases Xl (M.mem_iff.mp l)with q|q
    .exact h e q
    .rw[Xm q];exact%[z,tk|ρ]
   have q1:StrsAre ((es.toList++[(hashStr w z,Value.str z tk)])\2) (ss++[z]):=by
    rw[Zd];exact iC g (.cons z tk .nil)
   have%[ts,m|q3]:=cp q1 (M.map _);have N:=q3.trans (hp.append_right _);have p:=mI H hz;have ag:B.size=es.size+1:=by rw[<-Zb,M.length_eq,Z9,Zb];rfl
   have O:B.size<scanBound:=by rw[ag,hn];exact r
   have T:∀h',SameBut a s.heap h'->bi w a _ h'->↥A _ Q E _:=λh' U Y=>Z3 (hQ h' true U Y)
   refine Z2 (d _ _ _ ?_);cases ab:t1.plain with
   | true=>
     exact Z2 (Z3 (ub d C v G m N p n O (SetTable.fits_plain_off lf) rfl (ll.trans c) λh' U Y=>T h' U Y))
   | false=>
     exact ub d C v G m N p n O lf ab (ll.trans c) λh' U Y=>T h' U Y
def uc(d:bi w a ks s.heap)(c: ~~~ks+1<scanBound)
 (e:∀h' b,SameBut a s.heap h'->bi w a (if z∈ks then ks else ks++[z]) h'->Q b {s with heap:=h',toks:=s.toks+1}):↥A (setAdd a (.str z tk)) Q E s:=by
 exact wpAny_holding (Z2 (wpAny_pyHash_str (jR d c e)))
end
open PySem PySem.Spec PyProof.Rows
abbrev mr(ks:ZB)(z:Str):ZB:=if z∈ks then ks else ks++[z]
abbrev aI(ss:ZB):ZB:=ss.foldl mr []
def Bf(ks:ZB)(z:Str): ~~~(mr ks z)<= ~~~ks+1:=by
 unfold mr;split
 .lia
 .exact Z9▸Zi _
def Bg:y∈mr ks z↔y∈ks\/y=z:=by
 unfold mr;by_cases h:z∈ks
 .rw[if_pos h]
  simp_all
 .rw[if_neg h,Yr,Yw]
def wn(h:ks.Nodup):(mr ks z).Nodup:=by
 unfold mr;by_cases a:z∈ks
 .rw[if_pos a];exact h
 .rw[if_neg a];exact mI h a
def uf:∀{ss ks:ZB} {y:Str},y∈ss.foldl mr ks↔y∈ks\/y∈ss
 |[],ks,y=>by simp
 | z::r,ks,y=>by
   rw[Y8,uf,Bg,Yu]
   grind
def nu:∀{ss ks:ZB},ks.Nodup->(ss.foldl mr ks).Nodup
 |[],_,h=>h
 | z::r,ks,h=>by
   rw[Y8];exact nu (wn h)
def aP:y∈aI ss↔y∈ss:=by unfold aI;rw[uf];simp
def bK(ss:ZB):(aI ss).Nodup:=nu X1
def ug:∀(ss ks:ZB),~~~(ss.foldl mr ks)<= ~~~ks+ ~~~ss
 |[],ks=>by simp
 | z::r,ks=>by
   have a:=ug r (mr ks z);have b:=Bf ks z;rw[Y8,Zr]
   lia
def bi.keep(S:bi w a ks h)(k:∀o,h.get? a∣o->h'.get? a∣o):bi w a ks h':=by
 have%[o,es,b,t,ss,c|r]:=S;exact%[o,es,b,t,ss,k o c|r]
def uh(val:Nat->Str)(i:Nat):aI ((List.range (i+1)).map val)=mr (aI ((List.range i).map val)) (val i):=by
 unfold aI;rw[range_succ,Zd,List.foldl_append];rfl
section
variable{prog:Program}{w:World}{A:Around}{R:Result->Shared->Prop}{I:Addr}{fp wr:List Addr}{G:Array GenState->Array GenState->Prop}{n:Nat}{P:Nat->Value->Prop}{St:Nat->Shared->Prop}
def pE(W:WalksS prog w A.in1 I fp wr G n P St)(S:Addr)(d:S∉fp)(val:Nat->Str)(f:∀i v,P i v->∃t,v= .str (val i) t)(c:n+1<scanBound):
 ∀(k i:Nat) (s:Shared),n-i=k->i<=n->St i s->bi w S (aI ((List.range i).map val)) s.heap->
  (∀s',Moved (S::wr) G s s'->bi w S (aI ((List.range n).map val)) s'.heap->R (.ok (.ret .none)) s')->codeAny (model prog w) A (.builtin "set.update.loop" %[[.ref S,.ref I]|[]]) R s:=by
 have out:S∉wr:=λh=>d (W.sub _ h)
 have more:∀b∈wr,b∈S::wr:=λb c=>Zk _ c
 intro k
 induction k with
 | zero=>
   intro i s y hi st l a;have e:i=n:=by lia
   subst e;refine codeAny_builtin F.entry_set_update_loop ?_;rw[Around.under_plainId F.plain_set_update_loop _];show wpAny _ A.in1 (pyNext (.ref I)>>= _) _ _ s;refine Z2 (W.done s _ _ st λg j=>?_);show wpAny _ A.in1 (ret Value.none) _ _ g;exact Z3 (a g (j.mono more) (l.keep λo e=>j.heap S o out e))
 | succ k z=>
   intro i s y hi st l a;have lt:i<n:=by lia
   refine codeAny_builtin F.entry_set_update_loop ?_;rw[Around.under_plainId F.plain_set_update_loop _];show wpAny _ A.in1 (pyNext (.ref I)>>= _) _ _ s;refine Z2 (W.item i s _ _ lt st λv g pv m j=>?_);have%[t|rfl]:=f i v pv;have room: ~~~(aI ((List.range i).map val))+1<scanBound:=by
    have q:=ug ((List.range i).map val) [];rw[Z6,Yi]at q;unfold aI;simp only[List.length_nil,zero_add]at q
    lia
   refine Z2 (wpAny_holding (uc (l.keep (h':=g.heap) λo e=>j.heap S o out e) room λE b u p=>Z3 %[plainId_quiet F.plain_set_update_loop _|z (i+1) _ ⋯ lt (W.frame _ g _ _ m (Ye _) λb c o e=>?_) (by rw[uh];exact p) λB C r=>?_]))
   .rw[u.2 b (λq:b=S=>d (q▸c))];exact e
   .refine a B (Moved.trans W.gtrans ((j.mono more).then_heap (Ye _) λb o c e=>?_) C) r;rw[u.2 b (λq:b=S=>c (q▸Zm))];exact e
end
section
#where
noncomputable abbrev aU(w:World):Obj:={cls:= .type "set",dict:=none,data:= .set #[] 0 (.fresh 0 0 (!aT w))}
def ui(a:Value)(h:Q₁ (.ref ⇑s) (s>>>s.heap.push (aU w))):
 codeAny (model prog w) A (.call (.builtin "set.__new__") %[[.type "set",a]|[]]) (wants Q₁ E) s:=by
 refine codeAny_of_tree ?_;show wpAny _ A.in1 _ _ _ s;refine Z2 (wpAny_of_eq (PySem.F.newCall_set_1 a) (Z3 %[plainId_quiet PySem.F.plain_set_new _|codeAny_builtin PySem.F.entry_set_new ?_]));unfold Builtin.«set.__new__» Builtin.Frozenset.newClass;have b:=sub_set_self;have%[c,g,d,tk|os]:=s;dsimp only
 wp_walk
 refine wpAny_askSetting (Z3 ?_);dsimp only;simp only[newObj];exact Z2 (wpAny_alloc (Z3 (Z3 h)))
def bi.empty(e:h.get? a∣aU w):bi w a [] h:=
 %[_,#[],0,_,[],e,%[rfl,rfl|rfl],rfl,.nil,.nil,X1,λe b=>by simp at b,!1,rfl,λq=>absurd rfl q|rfl]
def uj:∀{vs:ZF} {ss:ZB},StrsAre vs ss->∀(i:Nat) v,vs[i]?∣v->∃t,v= .str (ss.getD i (!"")) t
 | _,_,.nil,i,v,h=>by simp at h
 | _,_,.cons x t a,0,v,h=>by simp at h;exact%[t|by rw[<-h];rfl]
 | _,_,.cons x t a,i+1,v,h=>by
   have%[u|e]:=uj a i v (h);exact%[u|by rw[e];rfl]
def wo(ss:ZB):(List.range ss.length).map (λi=>ss.getD i (!""))=ss:=by
 apply Zy
 .simp
 .intro i a b
  simp_all
def pF(hh:A.handled=none)(hl:s.heap.IsList l items)(hi:StrsAre items.toList ss)(hb:items.size+1<scanBound)
 (hQ:∀(h':Heap) (tk:Nat),bi w ⇑s (aI ss) h'->(∀b o,s.heap.get? b∣o->h'.get? b∣o)->Q (.ref ⇑s) {s with heap:=h',toks:=tk}):
 ↥A (call (.type "set") [.ref l]) Q E s:=by
 have%[c,tl|T]:=called_set.mro;have B:=called_set.made;have U:=called_set.sub;refine wpAny_call (codeAny_of_tree ?_);show wpAny _ _ (callAny (.type "set") _) _ _ _;refine Z3 %[Code.quiet_builtin _ (!0)|codeAny_builtin F.entry_type_call ?_];rw[Around.under_plain (weight_type_call_type "set" [.ref l] []) rfl];have ac:=called_set.notType;have ae:=called_set.canCreate;have ag:=PySem.F.typeCall_set_1 (.ref l)
 repeat any_goals first|assumption|wp_step
 refine codeAny_mono (ui (.ref l) (E:=E) (Q₁:=λobj f=>obj= .ref ⇑s/\f=(s>>>s.heap.push (aU w))) %[rfl|rfl]) λr f C=>?_
 cases r with
 | error e=>exact C
 | ok fl=>
   cases fl with
   | ret obj=>
     have%[rfl|rfl]:=C;have Y:(s.heap.push (aU w)).get? ⇑s∣aU w:=Zj _ rfl;have tS:Shared.TypeIs (s>>>s.heap.push (aU w)) (.ref ⇑s) "set":=%[_,Y|rfl]
     have al:=called_set.init.lookup;have an:=called_set.init.bind (.ref ⇑s)
     repeat any_goals first|assumption|wp_step
     refine codeAny_mono (codeAny_call_builtin (R:=wants (λr g=>r= .none/\∃h' tk,g={s with heap:=h',toks:=tk}/\bi w ⇑s (aI ss) h'/\(∀b o,s.heap.get? b∣o->h'.get? b∣o)) E) called_set.init.plain F.entry_set_init (check_set_init_1 tS ?_)) λm g a=>?_
     .have%[ol,gl,cl,nl|dl]:=hl;have%[ab,h,G|d]:=ol;simp only at cl dl;subst cl;subst dl;have H:(s.heap.push (aU w)).get? l=some {cls:= .type "list",dict:=h,data:= .seq items nl,slots:=d}:=Z7 _ gl;have as:=PySem.F.sub_list_set;have a0:=PySem.F.sub_list_frozenset;have a1:(Value.type "list"==Value.type "dict")=false:=!1
      have n:(s.heap.push (aU w)).IsList l items:=%[_,H,rfl,nl|rfl]
      unfold Builtin.«set.__init__»;unfold noKeywords;unfold Builtin.Frozenset.updateFrom
      generalize I:pyIter=PI
      wp_walk
      subst I;refine wpAny_pyIter_list n (Z2 (wpAny_runValue ?_));have p:l<⇑s:=Zu gl;have h3:A.in1.in1.in1.handled=none:=by simp[hh]
      have J:(s.heap.push (aU w)).objs.size=⇑s+1:=Zq ..;have L:l≠(s.heap.push (aU w)).objs.size:=by rw[J];exact Zs (Ym p)
      have M:⇑s∉[(s.heap.push (aU w)).objs.size,l]:=by
       rw[J];simp only[Yu,X3,or_false,not_or];exact%[Zs (Yn _)|Yx p]
      have q:items.size= ~~~ss:=by rw[<-Zb];exact a8 hi
      refine pE ((Walks.list h3 _ l L items).toS) ⇑s M (λi=>ss.getD i (!"")) (λi v hv=>uj hi i v (by rw[getElem?_toList];exact hv)) hb (items.size-0) 0 _ ⋯ (Xd _)
       %[%[_,Zj _ rfl,rfl|rfl]|n.push _] (bi.empty (Z7 _ Y)) ?_
      intro s3 y z;rw[q,wo]at z;have%[h',g',d',N|O]:=s3;have eg:g'=s.gens:=y.gens;have ed:d'=s.drawn:=y.drawn;have eo:O=s.os:=y.os;subst eg;subst ed;subst eo;refine Z3 ?_;show wpAny _ _ (ret Value.none) _ _ _;refine Z3 %[rfl,h',N,rfl,z|λb o e=>?_];have u:=Zu e;refine y.heap b o ?_ (Z7 _ (Z7 _ e));simp only[Yu,X3,or_false,not_or,J];exact%[Zs u|Zs (Ym u)]
     .cases m with
      | error e=>exact a
      | ok j=>
        cases j with
        | ret r=>
          have%[rfl,h',tk,rfl,z|k3]:=a
          repeat any_goals first|assumption|wp_step
          exact hQ _ _ z k3
        | _=>exact a.elim
   | _=>exact C.elim
end
section
variable{X:Cx}{K:ZA}
abbrev iq(w:World)(a:Addr)(ks:ZB):HO:= .ext (bi w a ks)
def Bh(b:X.calm=true):cr X (.type "set") (λxs H Q=>∃p ss,xs=[.ref p]/\SqL X.K H p (ss\3)/\ ~~~ss<=4000/\∀l,H l=none->Q (.ref l) (upd H l (iq X.w l (aI ss)))):=by
 intro pins s j H xs us Q I r h;have%[p,ss,rfl,c,m|q]:=h;have%[u,rfl|d]:=cG r;cases d;have%[its,e,pl|n]:=I.list c;have a:=gA e;have f:its.toArray.size= ~~~ss:=a8 a;refine pF (I.ok.hd b) pl.isList (a) (by rw[f];show ~~~ss+1<4096;lia) λh' tk S k=>%[.ref ⇑s,_,I.laid (o:=iq X.w ⇑s _) k (Zi _) %[S,?_|λv w g k1=>g.keep k1],rfl|q _ I.fresh]
 have%[o,_,_,_,_,i|_]:=S;exact%[o|i]
def xz(h:X.K=K)(hw:X.w=w)(a:X.calm=true):cu X (.type "set") (λxs H Q=>∃p ss,xs=[.ref p]/\SqL K H p (ss\3)/\ ~~~ss<=4000/\∀l,H l=none->Q (.ref l) (upd H l (iq w l (aI ss)))):=by subst h;subst hw;exact⟨Bh a⟩
end
open PySem PySem.Spec PyProof.Rows
def gG:∀{xs:List a} {i:Nat} (h:i< ~~~xs),(xs[i]::xs.eraseIdx i).Perm xs
 | x::r,0,_=>by simp
 | x::r,i+1,h=>by
   exact(List.Perm.swap _ _ _).trans (.cons _ (gG ↑h))
section
#where
def zg(a:n≠0)(h:∀i d,i<n->Q i {s with drawn:=d}):↥A (choose b n) Q E s:=by
 intro c p _;exact%[a|h _ _ (mod_lt _ (Nat.pos_of_ne_zero a))]
def sE:∀(n:Nat) (xs:List b) (s:Shared) (Q:List b->Shared->Prop),~~~xs<=n->(∀ys d,ys.Perm xs->Q ys {s with drawn:=d})->↥A (drawOrder n xs) Q E s
 | 0,xs,s,Q,a,h=>by
   have e:=length_eq_zero_iff.mp (le_zero.mp a);subst e;exact Z3 (h [] s.drawn .nil)
 | n+1,[],s,Q,a,h=>Z3 (h [] s.drawn .nil)
 | n+1,x::r,s,Q,a,h=>by
   unfold drawOrder;refine Z2 (zg ∅ λi d hi=>?_);rw[(Z4 hi)];exact Z2 (sE n _ _ _ (by rw[List.length_eraseIdx];simp only[hi];simp_all) λys c p=>Z3 (h _ c ((List.Perm.cons _ p).trans (gG hi))))
end
def xA(next:Nat->Nat):∀(fuel k:Nat) (left:List a) (out:Array a),~~~left<=fuel->(pickOrder.go next fuel k left out).toList.Perm (out.toList++left)
 | 0,k,left,out,h=>by
   have e:=length_eq_zero_iff.mp (le_zero.mp h);subst e;rw[Zx];exact .refl _
 | fuel+1,k,[],out,h=>by
   unfold pickOrder.go;simp
 | fuel+1,k,x::r,out,h=>by
   unfold pickOrder.go;have hi:next k% ~~~(x::r)< ~~~(x::r):=mod_lt _ ∅;rw[Z4 hi];refine(xA next fuel _ _ _ (by rw[List.length_eraseIdx];simp_all)).trans ?_;rw[toList_push,Ze];exact(List.Perm.refl _).append (gG hi)
def qw(next:Nat->Nat)(xs:Array a):(pickOrder next xs).toList.Perm xs.toList:=by
 have:=xA next xs.size 0 xs.toList #[] ∅;simpa [pickOrder]using this
def qz(p j:Nat):SetTable.below #[p] j=if p<j then 1 else 0:=by
 unfold SetTable.below;simp only[Zp,Zr];unfold SetTable.below.go;simp
 split<;>(rfl)
def wp(j:Nat):SetTable.below #[] j=0:=rfl
def qA{a:Type}{xs:Array a}(h:xs.size=1):∃p,xs= #[p]:=by
 obtain⟨l⟩:=xs
 match l,h with
 |[p],_=>exact%[p|ρ]
abbrev SIt(w:World)(I S T:Addr)(o:Obj)(es:Array (Int×Value))(b:Nat)(t:SetTable)(a:ZF)(i:Nat)(h:Heap):Prop:=
 h.get? S∣o/\∃first,h.get? I=some {cls:= .type "set_iterator",dict:=none,data:= .fields #[first,rawInt i,.ref S,rawInt es.size,rawInt b],slots:= #[]}/\
  ((aT w=true/\first=rawInt 0/\a=(pickOrder (w.params.setOrder S b) es).toList\2)\/
   (aT w=false/\first= .ref T/\T≠I/\∃ps:List Nat,h.get? T=some {cls:= .type "tuple",data:= .seq (ps.map λ(i:Nat)=>rawInt i).toArray}/\ ~~~ps= ~~~a/\∀(j p:Nat),ps[j]?∣p->∃e,es[p]?∣e/\a[j]?∣e.2)\/
   (aT w=false/\es.size<=1/\a=es.toList\2/\(i=0->first=rawInt 0)/\(i=1->∃p:Nat,t.place[0]?∣p/\first=rawInt (p+1))))
def SIt.is{w:World}{I S T:Addr}{o:Obj}{es:Array _}{b:Nat}{t:SetTable}{a:ZF}{i:Nat}{s:Shared}(h:SIt w I S T o es b t a i s.heap):s.TypeIs (.ref I) "set_iterator":=by
 have%[_,f,c|_]:=h;exact%[_,c|ρ]
section
#where
variable{I S T:Addr}{o:Obj}{es:Array (Int×Value)}{ep:Nat}{t:SetTable}{ord:ZF}
def wq{i:Nat}{v:Value}{Q:Option Value->Shared->Prop}(y:o.data= .set es ep t)(h:t.fits es.size=true)(z:t.led=!aT w)(j:S≠I)(st:SIt w I S T o es ep t ord i s.heap)(f:ord[i]?∣v)(hn: ~~~ord=es.size)
 (hQ:∀h',SIt w I S T o es ep t ord (i+1) h'->SameBut I s.heap h'->Q (some v) (s>>>h')):↥A (pyNext (.ref I)) Q E s:=by
 have hT:=st.is;have%[g,first,U|m]:=st;unfold pyNext;refine Z2 (wpAny_attempt (wpAny_callSpecial?_slot (name:=!"__next__") hT bQ (wpAny_call_entry bQ hT fP ?_ (hW _))));unfold Builtin.«set_iterator.__next__»;refine Z2 (m:=slotArgs _ _ _) (Z3 ?_);refine Z2 (wpAny_fieldsOf U rfl ?_);show wpAny _ _ (setEntries S>>= _) _ _ _;refine Z2 (wpAny_setEntries_of g y h ?_);rw[if_neg ∅];rcases m with⟨c,rfl,B⟩|⟨c,rfl,C,ps,G,ab,H⟩|⟨c,h1,B,f0,f1⟩
 .show wpAny _ _ (setNext S 0 i ep>>= _) _ _ _;refine Z2 ?_;unfold setNext;refine Z2 (wpAny_setState_of g y h ?_);refine Z2 (Z2 (wpAny_askSetting (Z3 ?_)));show wpAny _ _ (if aT w=true then _ else _) _ _ _;rw[if_pos c];dsimp only;rw[if_neg (show ¬ ((ep != ep)=true) by simp)];refine Z2 ?_;unfold setWalk;refine Z2 (wpAny_setState_of g y h ?_);refine Z2 (Z2 (wpAny_askSetting (Z3 ?_)));show wpAny _ _ (if aT w=true then _ else _) _ _ _;rw[if_pos c];refine Z2 (wpAny_askSetting (Z3 (Z3 ?_)));have d:(pickOrder (w.params.setOrder S ep) es)[i]?.map (·.2)∣v:=by
   rw[B]at f;simpa using f
  cases u:(pickOrder (w.params.setOrder S ep) es)[i]? with
  | none=>rw[u]at d;cases d
  | some e=>
    rw[u]at d;have J:e.2=v:=↑d
    show wpAny _ _ (match((pickOrder (w.params.setOrder S ep) es)[i]?).map λe=>(e.2,0)with|some (x,next)=>_|none=>_) _ _ _;rw[u];refine Z2 (wpAny_setField_rec U ∅ λL b a=>?_);refine Z2 (wpAny_setField_rec (s:=(s>>>L)) b ∅ λM l n=>?_);rw[J];have N:SameBut I s.heap M:=a.trans n;refine Z3 %[v,rfl|Z3 (hQ M %[(N.2 S j).trans g,_,l|.inl %[c,rfl|B]] N)]
 .refine Z2 (wpAny_seqItems G rfl ?_);have hi:i< ~~~ord:=(Xk f).1;have ac:i< ~~~ps:=by lia
  have%[e,Y|ae]:=H i ps[i] ∅;have J:e.2=v:=by rw[ae]at f;exact Za f
  have O:(ps.map λ(i:Nat)=>rawInt i).toArray[(i:Int).toNat]?∣rawInt ps[i]:=by simp[ac]
  dsimp only;rw[O];show wpAny _ _ (setNextDrawn S ps[i] ep>>= _) _ _ _;refine Z2 ?_;unfold setNextDrawn;refine Z2 (wpAny_setState_of g y h ?_);dsimp only;rw[if_neg (show ¬ ((ep != ep)=true) by simp),Y];refine Z3 ?_;refine Z2 (wpAny_setField_rec U ∅ λL b a=>?_);rw[J];exact Z3 %[v,rfl|Z3 (hQ L %[(a.2 S j).trans g,_,b|.inr (.inl %[c,rfl,C,ps,(a.2 T C).trans G,ab|H])] a)]
 .have hi:i< ~~~ord:=(Xk f).1;have i0:i=0:=by lia
  subst i0;have f0:=f0 rfl;subst f0;have e1:es.size=1:=by lia
  have pz:t.place.size=1:=by
   simp only[SetTable.fits,Zv,beq_iff_eq,decide_eq_true_eq]at h;rw[h.1,e1]
  have%[p|u]:=qA pz;obtain⟨e,Y⟩:∃e,es[0]?∣e:=%[es[0]|by simp]
  have J:e.2=v:=by
   rw[B]at f;have:(es[0]?)\2∣v:=↑f
   rw[Y]at this;simpa using this
  show wpAny _ _ (setNext S 0 0 ep>>= _) _ _ _;refine Z2 ?_;unfold setNext;refine Z2 (wpAny_setState_of g y h ?_);show wpAny _ _ (if aT w=true then _ else _) _ _ _;rw[if_neg (by rw[c];decide)];dsimp only
  split
  .rename_i r
   change (!t.plain&&decide (es.size>1))=true at r;rw[e1]at r;simp at r
  .refine Z2 (m:=(if(!t.led&&!es.isEmpty)=true then unsupported "set:maker-not-led" else pure ())) ?_;rw[z,c];refine Z3 ?_;rw[u,qz];simp only[X2,↓reduceIte,Y];refine Z3 ?_;show wpAny _ _ (setField (.ref I) 0 (rawInt ((p+1:Nat):Int))>>= _) _ _ _;refine Z2 (wpAny_setField_rec U ∅ λL b a=>Z2 (wpAny_setField_rec (s:=(s>>>L)) b ∅ λM l n=>?_));rw[J];have N:SameBut I s.heap M:=a.trans n;exact Z3 %[v,rfl|Z3 (hQ M %[(N.2 S j).trans g,_,l|.inr (.inr %[c,⋯,B,λq=>by lia|λ_=>%[p,by rw[u];rfl|rfl]])] N)]
def uk{c:Type}{Q:c->Shared->Prop}(d:A.handled=none)(f:∀h' e,(∀b o,s.heap.get? b∣o->h'.get? b∣o)->(∃o,h'.get? e∣o/\o.cls= .type "StopIteration")->E (.ref e) (s>>>h')):
 ↥A (newExc (.type "StopIteration") []>>= λe=>(raiseNew e)) Q E s:=by
 refine Z2 ?_;refine Z2 (wpAny_newObj_type ?_ (by size_fits));refine Z2 (wpAny_of_eq (a:=Value.none) (by first|rfl|lia) (wpAny_newObj_type (wpAny_raiseNew_none d (f _ _ (λb o e=>Z7 _ (Z7 _ e)) %[_,Zj _ rfl|rfl])) (by size_fits)))
def zh{i:Nat}{Q:Option Value->Shared->Prop}(hh:A.handled=none)(y:o.data= .set es ep t)(j:t.fits es.size=true)(n:t.led=!aT w)(st:SIt w I S T o es ep t ord i s.heap)(hi:i= ~~~ord)(hn: ~~~ord=es.size)
 (hQ:∀h',(∀b o,b≠I->s.heap.get? b∣o->h'.get? b∣o)->Q none (s>>>h')):↥A (pyNext (.ref I)) Q E s:=by
 have hT:=st.is;have%[z,first,B|m]:=st;have J:A.in1.handled=none:=hh;have c:∀(g:Heap) (Q':Fin->Shared->Prop),SameBut I s.heap g->↥A.in1 (newExc (.type "StopIteration") []>>= λe=>(raiseNew e:Sem Fin)) Q' (λe s'=>↥A (do
  if(<-isInstance e (.type "StopIteration"))then pure none else throw e) Q E s') (s>>>g):=λg Q' sb=>by
  refine uk J λh' e k ⟨oe,he,hc⟩=>?_
  refine Z2 (wpAny_isInstance (T:="StopIteration") (b:=true) %[oe,he|hc] isSubtype_stop (Z3 (hQ h' λb o r q=>k b o ((sb.2 b r).trans q))))
 unfold pyNext;refine Z2 (wpAny_attempt (wpAny_callSpecial?_slot (name:=!"__next__") hT bQ (wpAny_call_entry bQ hT fP ?_ (hW _))));unfold Builtin.«set_iterator.__next__»;refine Z2 (m:=slotArgs _ _ _) (Z3 ?_);refine Z2 (wpAny_fieldsOf B rfl ?_);show wpAny _ _ (setEntries S>>= _) _ _ _;refine Z2 (wpAny_setEntries_of z y j ?_);rw[if_neg ∅];rcases m with⟨l,rfl,eo⟩|⟨l,rfl,ab,ps,L,ac,ae⟩|⟨l,h1,eo,M,N⟩
 .show wpAny _ _ (setNext S 0 i ep>>= _) _ _ _;refine Z2 ?_;unfold setNext;refine Z2 (wpAny_setState_of z y j ?_);refine Z2 (Z2 (wpAny_askSetting (Z3 ?_)));show wpAny _ _ (if aT w=true then _ else _) _ _ _;rw[if_pos l];dsimp only;rw[if_neg (show ¬ ((ep != ep)=true) by simp)];refine Z2 ?_;unfold setWalk;refine Z2 (wpAny_setState_of z y j (Z2 (Z2 (wpAny_askSetting (Z3 ?_)))));show wpAny _ _ (if aT w=true then _ else _) _ _ _;rw[if_pos l];refine Z2 (wpAny_askSetting (Z3 (Z3 ?_)));have C:(pickOrder (w.params.setOrder S ep) es)[i]? =none:=by
   rw[Array.getElem?_eq_none_iff,hi,eo,Z6,Zb];exact Zi _
  show wpAny _ _ (match((pickOrder (w.params.setOrder S ep) es)[i]?).map λe=>(e.2,0)with|some (x,next)=>_|none=>_) _ _ _;rw[C];show wpAny _ _ (setField (.ref I) 2 .none>>= _) _ _ _;exact Z2 (wpAny_setField_rec B ∅ λG _ d=>c G _ d)
 .show wpAny _ _ (seqItems? (.ref T)>>= _) _ _ _;refine Z2 (wpAny_seqItems L rfl ?_);have u:(ps.map λ(i:Nat)=>rawInt i).toArray[(i:Int).toNat]? =none:=by simp;lia
  dsimp only;rw[u];exact Z2 (wpAny_setField_rec B ∅ λG O d=>Z2 (wpAny_setField_rec O ∅ λg2 _ U=>c g2 _ (d.trans U)))
 .have done:∀slot:Nat,first=rawInt slot->SetTable.below t.place slot=es.size->↥A.in1 (setNext S slot i ep) (λa s'=>a=none/\s'=s) (λ_ _=>False) s:=by
   intro slot _ r;unfold setNext;refine Z2 (wpAny_setState_of z y j ?_);show wpAny _ _ (if aT w=true then _ else _) _ _ _;rw[if_neg (by rw[l];decide)];dsimp only
   split
   .rename_i h
    change (!t.plain&&decide (es.size>1))=true at h;have:decide (es.size>1)=false:=Zh ⋯;rw[this,Bool.and_false]at h;cases h
   .refine Z2 (m:=(if(!t.led&&!es.isEmpty)=true then unsupported "set:maker-not-led" else pure ())) ?_;rw[n,l];refine Z3 ?_;rw[r,show es[es.size]? =none by simp];exact Z3 %[rfl|rfl]
  have go:∀slot:Nat,first=rawInt slot->SetTable.below t.place slot=es.size->↥A.in1 (setNext S slot i ep>>= λa=>match a with
   | some (x,next)=>(do
     setField (.ref I) 0 (rawInt ↑(next))
     setField (.ref I) 1 (rawInt (↑(i)+1))
     ret x)
   | none=>(do
     setField (.ref I) 2 .none
     let e<-newExc (.type "StopIteration") []
     raiseNew e)) (λc s'=>∃v,c=Fin.done (Flow.ret v)/\↥A (pure (some v)) Q E s') (λe s'=>↥A (do
   if(<-isInstance e (.type "StopIteration"))then pure none else throw e) Q E s') s:=by
   intro slot e r;refine Z2 (wpAny_mono (done slot e r) (λa s' ⟨H,e2⟩=>?_) λ_ _ f=>f.elim);subst H;subst e2;exact Z2 (wpAny_setField_rec B ∅ λG _ d=>c G _ d)
  have pz:=by
   simp only[SetTable.fits,Zv,beq_iff_eq,decide_eq_true_eq]at j;exact j.1
  by_cases e0:es.size=0
  .have i0:i=0:=by lia
   subst i0;have M:=M rfl;subst M;refine go 0 rfl ?_;have:t.place= #[]:=Array.eq_empty_of_size_eq_zero ⋯;rw[this,wp,e0]
  .have H:es.size=1:=by lia
   have i1:i=1:=by lia
   subst i1;have%[p,C|N]:=N rfl;subst N;refine go (p+1) rfl ?_;have%[p'|Y]:=qA (by rw[pz,H]:t.place.size=1);rw[Y]at C ⊢;have:p'=p:=↑C
   subst this;rw[qz,if_pos (Yn _),H]
end
open PySem PySem.Spec PyProof.Rows
def h9:Slot "set_iterator" "__iter__" "set_iterator.__iter__":=
 .of (owner:="set_iterator") (n:="__iter__") (by rw[typeLookup_type,builtinLookup_eq_fast];kernel_rfl) (!0) (!0) (!0) (by first|exact .inl (!0)|exact .inr ∅) (by kernel_rfl)
def kW:entryFor table "set_iterator.__iter__"=some Builtin.«dict_keyiterator.__iter__»:=entryFor_alias (id':="dict_keyiterator.__iter__") (by kernel_rfl) rfl (!0) (by kernel_rfl)
def mv(a:Value):argsOk "set_iterator.__iter__" %[[a]|[]]:=by kernel_rfl
def sF:typeLookup (.type "set") "__len__"=pure (some (.builtin "set.__len__")):=by kernel_rfl
section
#where
variable{I S T:Addr}{o:Obj}{es:Array (Int×Value)}{ep:Nat}{t:SetTable}{ord:ZF}
def zi(hh:A.handled=none)(hd:o.data= .set es ep t)(hf:t.fits es.size=true)(hled:t.led=!aT w)(hSI:S≠I)(hn: ~~~ord=es.size):
 Walks prog w A I [I,S,T] [I] ord.length (λi v=>ord[i]?∣v) (λi h=>SIt w I S T o es ep t ord i h) where
 sub:=by simp
 frame:=λi h h' st k=>by
  have%[hS,first,hI|m]:=st;refine⟨k S ∅ _ hS,first,k I ∅ _ hI,?_⟩;rcases m with m|⟨bt,e,hTI,ps,hTt,r⟩|m
  .exact .inl m
  .exact .inr (.inl %[bt,e,hTI,ps,k T ∅ _ hTt|r])
  .exact .inr (.inr m)
 item:=λi s Q E hi st hQ=>wq (v:=ord[i]) hd hf hled hSI st ∅ hn λh' st' sb=>hQ _ h' s.toks ∅ st' λb o' hb e=>(sb.2 b (λq=>hb (by simp[q]))).trans e
 done:=λs Q E st hQ=>zh hh hd hf hled st rfl hn λh' k=>hQ h' s.toks λb o' hb e=>k b o' (λq=>hb (by simp[q])) e
 self:=λi s Q E st hQ=>by
  have hT:=st.is;exact wpAny_pyIter_slot hT h9 (wpAny_call_entry h9 hT kW (Z3 %[_,rfl,"set_iterator",_,hT,bQ.lookup|hQ]) (mv _))
def zj(g:s.heap.get? S∣o)(B:o.ExactSet)(C:o.data= .set es ep t)(hb:es.size<scanBound)(G:t.fits es.size=true)(H:es.size≠0->t.plain=false)(U:t.led=!aT w)
 (hQ:∀(I T:Addr) (ord:ZF) (h':Heap) d,(∀b o,s.heap.get? b∣o->h'.get? b∣o)->⇑s<=I->S≠I->(T=S\/⇑s<=T)->T<h'.objs.size->I<h'.objs.size-> ~~~ord=es.size->
  SIt w I S T o es ep t ord 0 h'->ord.Perm (es.toList\2)->Q (.ref I) {s with heap:=h',drawn:=d}):↥A (pyIter (.ref S)) Q E s:=by
 have Y:s.TypeIs (.ref S) "set":=%[o,g|B.1]
 have n:S<⇑s:=Zu g;refine wpAny_pyIter_slot Y F.slot_set_iter (wpAny_call_entry F.slot_set_iter Y pC ?_ (F.args_set_iter_1 _));unfold Builtin.«frozenset.__iter__»;refine Z2 (m:=Builtin.Frozenset.slot0 _ _) (Z2 (m:=slotArgs _ _ _) (Z3 (Z3 ?_)));refine Z2 (m:=Builtin.Frozenset.sizeOf S) (Z2 (wpAny_setEntries_of g C G (Z3 ?_)));refine Z2 (m:=setDrawn S) ?_;unfold setDrawn;refine Z2 (wpAny_setState_of g C G (Z2 (Z2 (wpAny_askSetting (Z3 (Z3 ?_))))));have a:∀(first:Value) (c:Shared) (T:Addr) (ord:ZF),c.heap.get? S∣o->(∃d f,c={s with heap:=f,drawn:=d})->(∀b o,s.heap.get? b∣o->c.heap.get? b∣o)->T<⇑c->⇑s<=⇑c->(T=S\/⇑s<=T)->ord.Perm (es.toList\2)->
  ((aT w=true/\first=rawInt 0/\ord=(pickOrder (w.params.setOrder S ep) es).toList\2)\/(aT w=false/\first= .ref T/\∃ps:List Nat,c.heap.get? T=some {cls:= .type "tuple",data:= .seq (ps.map λ(i:Nat)=>rawInt i).toArray}/\ ~~~ps= ~~~ord/\∀(j p:Nat),ps[j]?∣p->∃e,es[p]?∣e/\ord[j]?∣e.2)\/(aT w=false/\es.size<=1/\ord=es.toList\2/\first=rawInt 0))-> ~~~ord=es.size->
  ↥A.in1 (do ret (<-newFields "set_iterator" [first,rawInt 0,.ref S,rawInt es.size,rawInt (<-setEpoch S)])) (λa s'=>∃v,a=Fin.done (Flow.ret v)/\∃T' r,s'.TypeIs v T'/\typeLookup (.type T') "__next__"=pure (some r)/\Q v s') (λe s'=>E e s') c:=by
  intro first c T ord f %[d,J|e1] k1 tl sl L y m hn
  subst e1;refine Z2 (wpAny_setEpoch_of f C G (Z2 (wpAny_newObj_type ?_)));have gI:(J.push {cls:= .type "set_iterator",data:= .fields #[first,rawInt 0,.ref S,rawInt es.size,rawInt ep]}).get? J.objs.size∣_:=Zj _ rfl;refine Z3 %[_,rfl,"set_iterator",_,%[_,gI|rfl],bQ.lookup|hQ J.objs.size T ord _ d (λb o' e=>Z7 _ (k1 b o' e)) sl (Zs (Zu f)) L (by rw[Zq];exact Ym tl) (by rw[Zq];exact Yn _) hn ?_ y];refine⟨Z7 _ f,first,gI,?_⟩;rcases m with m|⟨h,e,ps,M,r⟩|⟨h,N,eo,e⟩
  .exact .inl m
  .exact .inr (.inl %[h,e,Zs tl,ps,Z7 _ M|r])
  .exact .inr (.inr %[h,N,eo,λ_=>e|λq=>absurd q ∅])
 have lst: ~~~(es.toList\2)=es.size:=by rw[Z6,Zb]
 by_cases h:aT w=true
 .show wpAny _ _ (if(!aT w&&_)=true then _ else _) _ _ _;rw[h,Bool.not_true,Bool.false_and,if_neg ∅];refine Z2 (Z3 ?_);have u:=(qw (w.params.setOrder S ep) es)\2;exact a (rawInt 0) s S _ g %[s.drawn,s.heap|rfl] (λ_ _ e=>e) n (Zi _) (.inl rfl) u (.inl %[h,rfl|rfl]) (by rw[u.length_eq,lst])
 .have z:aT w=false:=↑h
  show wpAny _ _ (if(!aT w&&(!t.plain&&decide (es.size>1)))=true then _ else _) _ _ _;by_cases f:es.size>1
  .rw[z,H ⋯,Zf f];refine Z2 (sE es.size _ _ _ ∅ λps d l=>Z2 (wpAny_newTuple ?_ (by rw[Z6,l.length_eq,Yi];exact fits_of_scanBound hb)));have lt:∀p∈ps,p<es.size:=λp q=>mem_range.mp (l.mem_iff.mp q)
   have er:(List.range es.size).map (λp=>((es[p]?)\2).getD .none)=es.toList\2:=by
    apply Zy
    .simp
    .intro i y q2;simp at y;simp[y]
   have u:(ps.map (λp=>((es[p]?)\2).getD .none)).Perm (es.toList\2):=er▸l.map _;refine a _ _ ⇑s _ (Z7 _ g) %[d,_|rfl] (λb o' e=>Z7 _ e) (by rw[Zq];exact Yn _) (by rw[Zq];exact Ye _) (.inr (Zi _)) u
    (.inr (.inl %[z,rfl,ps,Zj _ rfl,by rw[Z6]|λj p q=>?_])) (by rw[u.length_eq,lst])
   have O:=lt p (Z8 q);exact%[es[p],by simp|by simp[q,O]]
  .rw[z,Zh f];simp only[Bool.and_false,Zz];exact a (rawInt 0) s S _ g %[s.drawn,s.heap|rfl] (λ_ _ e=>e) n (Zi _) (.inl rfl) (List.Perm.refl _) (.inr (.inr %[z,⋯,rfl|rfl])) lst
def jS(hh:A.handled=none)(u:s.heap.get? S∣r)(a:r.ExactSet)(v:r.data= .set g a1 t0)(y:g.size<scanBound)(z:t0.fits g.size=true)(B:g.size≠0->t0.plain=false)(c:t0.led=!aT w)
 (hQ:∀s' vs,vs.Perm (g.toList\2)->(∀b o,s.heap.get? b∣o->s'.heap.get? b∣o)->s'.gens=s.gens->s'.os=s.os->⇑s<=⇑s'->Q vs s'):↥A (collect (.ref S)) Q E s:=by
 unfold collect;refine Z2 (wpAny_runValue (codeAny_builtin F.entry_proto_collect ?_));rw[Around.under_plainId F.plain_proto_collect _];show wpAny _ A.in1 (newList []>>= λl=>again (.builtin "list.__iadd__" %[[l,.ref S]|[]])) _ _ s;refine Z2 (wpAny_newObj_type (Z3 %[plainId_quiet F.plain_list_iadd _|codeAny_builtin F.entry_list_iadd ?_]));rw[Around.under_plainId F.plain_list_iadd _];have i:S<⇑s:=Zu u;show wpAny _ A.in1 (Builtin.List.listExtendWith (.ref ⇑s) (.ref S) (.ref ⇑s)) _ _ _;unfold Builtin.List.listExtendWith
 generalize O:s.heap.push {cls:= .type "list",data:= .seq ([]:ZF).toArray}=G
 have gS:G.get? S∣r:=by rw[<-O];exact Z7 _ u
 have gz:G.objs.size=⇑s+1:=by rw[<-O,Zq]
 have gL:G.get? ⇑s=some {cls:= .type "list",data:= .seq ([]:ZF).toArray}:=O▸Zj _ rfl;have tS:Shared.TypeIs (s>>>G) (.ref S) "set":=%[r,gS|a.1]
 refine Z2 (wpAny_typeOf (T:="set") tS ?_);have n1:Builtin.List.listSameRef (.ref ⇑s) (.ref S)=false:=by
  show(⇑s==S)=false;exact beq_eq_false_iff_ne.mpr (Yx i)
 have n2:(Value.type "set"==Value.type "list")=false:=!1
 have n3:(Value.type "set"==Value.type "tuple")=false:=!1
 simp only[n1,n2,n3,Bool.or_false,Zz,if_false];refine Z2 (zj (s:=(s>>>G)) gS a v y z B c λI T ord h d k1 U ab ac a2 a3 hn st q1=>?_);replace k1:∀b o,G.get? b∣o->h.get? b∣o:=k1;replace U:G.objs.size<=I:=U;have ae:h.get? S∣r:=k1 _ _ gS;refine Z2 (wpAny_holding ?_);unfold Builtin.List.listLengthHint;have m:Shared.TypeIs {s with heap:=h,drawn:=d} (.ref S) "set":=%[r,ae|a.1]
 refine Z2 (wpAny_specialOf (T:="set") m sF ?_)
 wp_delta
 refine Z2 (wpAny_isInstance (T:="set") (b:=true) m (by rw[isSubtype_type];kernel_rfl) ?_);show wpAny _ A.in1 (typeOf (.ref S)>>= _) _ _ _;refine Z2 (wpAny_typeOf (T:="set") m (Z3 ?_));rw[if_pos (!1)];refine Z2 (wpAny_rule ?_);have C:h.get? ⇑s=some {cls:= .type "list",data:= .seq ([]:ZF).toArray}:=k1 _ _ gL;refine Z2 ?_;unfold Builtin.List.listTouch;refine Z2 (listUpdate_at (s:={s with heap:=h,drawn:=d}) C rfl ?_ (Xd _) (by show 1<=sizeLine+1;lia));have H:=get?_update_self (Obj.mapSeq (·.push Value.none)) C rfl;refine listUpdate_at (xs:= #[Value.none]) (n:=1) (s:={s with heap:=h.update ⇑s (Obj.mapSeq _),drawn:=d}) H rfl ?_ (!1) (by show 0<=sizeLine+1;lia);have ag:=get?_update_self (Obj.mapSeq (·.pop)) H rfl;have J:∀b o,b≠⇑s->h.get? b∣o->((h.update ⇑s (Obj.mapSeq (·.push Value.none))).update ⇑s (Obj.mapSeq (·.pop))).get? b∣o:=λb o Y e=>(get?_update_other _ _ (Ne.symm Y)).trans ((get?_update_other _ _ (Ne.symm Y)).trans e)
 have al:=Zs (Zg (by rw[gz];exact Yn _) U);have neT:⇑s≠T:=by
  rcases ac with e|e
  .exact e▸Yx i
  .exact Zs (Zg (gz▸Yn _) e)
 have L:⇑s∉[I,S,T]:=by
  simp only[Yu,X3,or_false,not_or];exact%[al,Yx i|neT]
 have an: ~~~ord<=sizeLine:=hn▸fits_of_scanBound y;have W:=zi (prog:=prog) (A:=A.in1) (T:=T) (hh) v z c ab hn;have as:=W.frame 0 h _ st λb Y M e=>J b M (λq=>L (q▸Y)) e
 refine Z3 %[plainId_quiet F.plain_extend_loop _|codeAny_extend_loopS W.toS an _ L _ ord.length 0 _ _ _ rfl (Xd _) as ag (ItemsOf.nil _) λs5 acc c5 m5 N f=>?_];refine Z2 (wpAny_load N (Z3 ?_));have ea:acc.toList=ord:=by
  apply ext_getElem?;intro j;by_cases hj:j< ~~~ord
  .have a0:j<acc.size:=f.1▸hj;have:=f.2 j acc[j] ∅;rw[this];simp[a0]
  .have l1: ~~~acc.toList= ~~~ord:=f.1;rw[Xj ⋯,Xj (l:=ord) ⋯]
 rw[ea];refine hQ s5 ord q1 (λb M e=>?_) m5.gens m5.os (Yd (Zu N));have p:=Zu e;refine m5.heap b M ?_ (J b M (Zs p) (k1 b M (O▸Z7 _ e)));simp only[Yu,X3,or_false,not_or];exact%[Zs p|Zs (Zg p (Yf (gz▸Ye _) U))]
def lN(f:A.handled=none)(h:bi w S ks s.heap)
 (i:∀s' vs ss,StrsAre vs ss->ss.Perm ks->(∀b o,s.heap.get? b∣o->s'.heap.get? b∣o)->s'.gens=s.gens->s'.os=s.os->⇑s<=⇑s'->Q vs s'):↥A (collect (.ref S)) Q E s:=by
 have%[o,es,ep,t,ss,j,c,l,d,m,n,p,q,r,e|a]:=h;refine jS f j c l q r e a λs' vs pv k g os sz=>?_
 have%[ts,u|v]:=cp d pv;exact i s' vs ts u (v.trans m) k g os sz
end
open PySem PySem.Spec PyProof.Rows
section
variable{X:Cx}{pins:ZE}{σ:St}{H:Hp}{s s':Shared}
def Inv.keptS(I:Inv X pins σ H s)(k:∀b o,s.heap.get? b∣o->s'.heap.get? b∣o)(c:s'.gens=s.gens)(a:s'.os=s.os):Inv X pins σ H s':=by
 have%[h',g',d',t'|d]:=s';replace a:d=s.os:=a;subst c;subst a;refine I.step (ch:=[]) (λb f=>absurd f ∅) (λb o _ _ _ e _=>k b o e) (λb o _ _ _ e _=>%[o.slots|k b o e]) (λ_ _ _ _ n=>n) (λb o _ e=>%[o|k b o e]) (λ_ _ e=>e) (λ_ _ _ e=>e) (λb ps e=>%[#[]|by rw[e];simp]) (λm g=>?_) (λb v e=>?_) I.bare
 .have%[o,es,h,a|r]:=g;exact%[o,es,h,k _ o a|r]
 .exact(I.hok b v e).stay (λi j _ q=>k i j q) (λ_ q=>q) λ_ _ q=>q
def Inv.stoodS(I:Inv X pins σ H s)(J:Inv X pins σ H s')(c:⇑s<=a)(new:cF X.prog X.w (upd H a o) s'.heap a o):Inv X pins σ (upd H a o) s':=by
 have d:=I.hok.fresh c;refine%[J.ok,J.os,J.bare,?_,J.loc,J.cell,?_,?_,?_,?_|J.len]
 .refine%[J.base.keep,J.base.slot,λb o e n j=>?_,J.base.there,λb xs e=>?_,λb o v e=>?_|λb ps e=>?_]
  .rw[ak ((λb o e=>Zs (Zg (Zg (Zu e) I.sz) c)) b o e)];exact J.base.free b o e n j
  .rw[ak (au (J.base.tups b xs e) d)];exact J.base.tups b xs e
  .rw[ak (au (J.base.frzs b o v e) d)];exact J.base.frzs b o v e
  .have%[m|q]:=J.base.tbls b ps e;exact%[m|(ak (au q d))▸q]
 .rw[ak (Zs (Zg I.lt c))];exact J.free
 .intro g f e;have%[l|q]:=I.cell g f e;rw[ak (Zs (Zg q.lt c))];exact J.freeC g f e
 .intro p h;have%[e,n|r]:=J.pin p h;refine%[e,?_|r];rw[ak (Zs (Zg (Zu (I.pin p h).1) c))];exact n
 .intro b v e;by_cases i:b=a
  .subst i;rw[aa]at e;cases e;exact new
  .rw[ak i]at e;refine(J.hok b v e).stay (λ_ _ _ q=>q) (λf q=>?_) λf xs q=>?_
   .rw[ak (au q d)];exact q
   .rw[ak (au q d)];exact q
end
section
#where
variable{S:Addr}
def wu(u:A.handled=none)(v:bi w S ks s.heap)(g: ~~~ks<64)
 (y:∀(s':Shared) (l:Addr) (vs:ZF) (ss:ZB) (n:Nat),StrsAre vs ss->ss.Perm ks->sortedS ss=true->(∀b o,s.heap.get? b∣o->s'.heap.get? b∣o)->s'.gens=s.gens->s'.os=s.os->⇑s<=l->s'.heap.get? l=some {cls:= .type "list",data:= .seq vs.toArray n}->Q (.ref l) s'):
 ↥A (call (.builtin "sorted") [.ref S]) Q E s:=by
 refine Calls.call_function_entry kind_sorted plain_sorted entry_sorted (args_sorted1 _) ?_;unfold Builtin.«sorted»;refine Z2 (m:=checkCount "sorted" 1 1 _) (Z3 ?_);refine Z2 (lN (show A.in1.handled=none from u) v λc vs ss f j k1 z B h=>?_);have C: ~~~vs<64:=by rw[a8 f,j.length_eq];exact g
 refine Z2 (wpAny_newList ?_ (by rw[sizeLine_eq];lia));have i:(c.heap.push (seqObj "list" vs.toArray 0)).get? ⇑c∣seqObj "list" vs.toArray 0:=Zj _ rfl;refine Z2 (wpAny_holding (wpAny_call_entry slot_list_sort %[_,i|rfl] entry_list_sort (list_sort_treeK (s:=(c>>>c.heap.push (seqObj "list" vs.toArray 0))) strKind_oneLt i f.keysOf (λp q rest e=>keyKind_strs (by rw[<-e];exact f)) C λa G H=>%[_,rfl|?_]) (args_list_sort _)));have%[ts,I,J|L]:=sorted_out_str f G H;obtain⟨n,M⟩:∃n,(sortedHeap (c.heap.push (seqObj "list" vs.toArray 0)) ⇑c vs ((arrOf a)\2)).get? ⇑c∣seqObj "list" ((arrOf a)\2) n:=sortedHeap_at i;refine Z3 %[_,rfl|y _ ⇑c ((arrOf a)\2).toList ts n I (J.trans j) L (λb N e=>?_) z B h ?_]
 rotate_left
 .show _∣seqObj "list" ((arrOf a)\2).toList.toArray n;rw[Array.toArray_toList];exact M
 have r:=k1 b N e;have d:=Zu r;show(sortedHeap _ _ _ _).get? b=_;rw[sortedHeap_old (Zs d) (by rw[Zq];exact Ym d)];exact Z7 _ r
end
section
variable{X:Cx}{K:ZA}
def sG(d:X.calm=true):cr X (.builtin "sorted") (λxs H Q=>∃a ks,xs=[.ref a]/\H a∣iq X.w a ks/\ ~~~ks<64/\∀l ss,H l=none->ss.Perm ks->sortedS ss=true->Q (.ref l) (upd H l (.lst (ss\3)))):=by
 intro pins s v H xs us Q I r h;have%[a,ks,rfl,e,f|q]:=h;have%[u,rfl|i]:=cG r;cases i;have%[S,_|_]:=(I.hok a _ e)
 refine wu (I.ok.hd d) S f λs' l vs ss n j c m k g o b p=>%[.ref l,_,I.stoodS (o:= .lst _) (I.keptS k g o) b %[?_,vs,n,qo j|p],rfl|q l ss (I.hok.fresh b) c m]
 rw[Z6,c.length_eq,sizeLine_eq]
 lia
def zk(h:X.w=w)(b:X.calm=true):cu X (.builtin "sorted") (λxs H Q=>∃a ks,xs=[.ref a]/\H a∣iq w a ks/\ ~~~ks<64/\∀l ss,H l=none->ss.Perm ks->sortedS ss=true->Q (.ref l) (upd H l (.lst (ss\3)))):=by subst h;exact⟨sG b⟩
end
def aj{D:jG}(h:∀c:jG,(∀a b,u D a b->c.nx a b)->(∀v b,D.rt v b->c.rt v b)->t c d H):aZ t u D d H:=h _ (λ_ _ x=>x) λ_ _ x=>x
def az{t:TS}{D:jG}(h:∀c:jG,(∀a b,D.nx a b->c.nx a b)->(∀v b,D.rt v b->c.rt v b)->t c d H):t D d H:=h _ (λ_ _ x=>x) λ_ _ x=>x
def iD{K:ZA}{xs:List V}{g:TG}{j:TS}{D:jG}(Pv:Nat->St->Hp->Prop)(n:Pv 0 b H)(o:∀i b H,i<= ~~~xs->Pv i b H->SqL K H a xs)
 (r:∀i x T b H,xs[i]?∣x->Pv i b H->H T=none->g (.ref T) b (upd H T (.tup [.int i,x])) λc h=>j {D with nx:=Pv (i+1),ct:=Pv (i+1),bk:=D.nx} c h) (s:∀b H,Pv xs.length b H->D.nx b H):
 ∃W:Nat->Nat->St->Hp->Prop,(∃m,W 0 m b H)/\∀i m b H,W i m b H->
  ((Ite K a xs).stop i H/\D.nx b H)\/((Ite K a xs).go i H/\∃N:St->Hp->Prop,(∀d f,N d f->∃l,l<m/\W (i+1) l d f)/\∀x f,(Ite K a xs).yld i H x f->g x b f λc h=>j {D with nx:=N,ct:=N,bk:=D.nx} c h):=by
 refine%[λi m b H=>m= ~~~xs-i/\i<= ~~~xs/\Pv i b H,%[~~~xs,by simp,Xd _|n]|?_];intro i m b H %[rfl,hi|p];have q:=o i b H hi p;by_cases lt:i< ~~~xs
 .refine .inr %[%[q|lt],Pv _,λd f u=>%[~~~xs-(i+1),⋯,rfl,lt|u]|λv f y=>?_];have%[x,T,e,w,rfl|rfl]:=y;exact r i x T b _ e p w
 .have e:i= ~~~xs:=by lia
  subst e;exact .inl %[%[q|Zi _]|s b H p]
section
open PySem PySem.Spec PyProof.Rows
variable{X:Cx}{K:ZA}{pos:Pos}{a b:Expr}{ta tb:TE}
def bo:OpQ X (binaryOp .Add) (rI0 λi j=> .int (i+j)):=⟨At⟩
def eM:OpQ X (binaryOp .Mult) (rI As λi j=> .int (i*j)):=⟨Au⟩
def cX(h:X.K=K)(c:mG b)(d:QE X a ta)(e:QE X b tb):QE X (.Subscript a b pos) (tOp (FC K) ta tb):=by subst h;exact⟨AK C8 d.h e.h c⟩
def zo(c:mG b)(d:QE X a ta)(e:QE X b tb):QE X (.Subscript a b pos) (tOp FE ta tb):=⟨AK FG d.h e.h c⟩
end
end _L
namespace _C
open PySem _L PyProof.Rows
abbrev gH:Str:="abcdefghijklmnopqrstuvwxyz"
abbrev eN(c:Nat):Bool:=decide (c∈gH.cps.toList)
abbrev okc(c:Nat):Bool:=decide (c=46)||eN c
abbrev nl:Str:="\n"
def Hj:nl=⟨#[10]⟩:=rfl
def qB:eN c=true↔97<=c/\c<=122:=by
 have e:gH.cps.toList=(List.range 26).map (·+97):=!0
 unfold eN;rw[decide_eq_true_iff,e,mem_map]
 constructor
 .rintro⟨i,h,rfl⟩;have:=mem_range.mp h
  lia
 .rintro⟨a,b⟩;exact%[c-97,mem_range.mpr ⋯|⋯]
def Bi(h:okc c=true):c≠10:=by
 intro e;subst e
 revert h
 decide +kernel
structure cy (rows:ZB):Prop where
 pos:1<= ~~~rows
 high: ~~~rows<=40
 wide:∃wd,1<=wd/\wd<=40/\∀r∈rows,r.cps.size=wd
 sign:∀r∈rows,r.cps.toList.all okc=true
 fall:∀i r r',rows[i]?∣r->rows[i+1]?∣r'->∀(j c c':Nat),r.cps[j]?∣c->r'.cps[j]?∣c'->c'=46->c=46
 some':∃r∈rows,∃c∈r.cps.toList,c≠46
def jT{x y:Str}(h:x.cps.toList=y.cps.toList):x=y:=by
 obtain⟨⟨l⟩⟩:=x
 simp_all
def eB(sep x y:Str)(r:ZB):(Str.join sep (x::y::r)).cps.toList=x.cps.toList++sep.cps.toList++(Str.join sep (y::r)).cps.toList:=by
 show((x.cps++sep.cps) ++(Str.join sep _).cps).toList=_;rw[Xc,Xc]
def Bj [DecidableEq f]:∀{a b x y:List f},c∉a->c∉b->a++c::x=b++c::y->a=b/\x=y
 |[],[],_,_,_,_,h=>%[rfl|(List.cons.inj h).2]
 |[],b::bs,_,_,_,d,h=>absurd (((List.cons.inj h).1)▸Zm) d
 | a::as,[],_,_,e,_,h=>absurd (((List.cons.inj h).1)▸Zm) e
 | a::as,b::bs,x,y,e,d,h=>by
   have%[g|i]:=List.cons.inj h;have%[j|l]:=Bj (λq=>e (Zk _ q)) (λq=>d (Zk _ q)) i;exact%[by rw[g,j]|l]
def uo{c:Nat}:∀{ps qs:ZB},ps≠[]->qs≠[]->(∀p∈ps,c∉p.cps.toList)->(∀q∈qs,c∉q.cps.toList)->(Str.join ⟨#[c]⟩ ps).cps.toList=(Str.join ⟨#[c]⟩ qs).cps.toList->ps=qs
 |[],_,h,_,_,_,_=>absurd rfl h
 | _,[],_,h,_,_,_=>absurd rfl h
 |[p],[q],_,_,_,_,e=>by rw[jT (show p.cps.toList=q.cps.toList from e)]
 |[p],q::f::qs,_,_,a,_,e=>by
  rw[eB]at e;refine absurd ?_ (a p Zm);rw[show p.cps.toList=(Str.join _ [p]).cps.toList from rfl,e];simp
 | p::g::ps,[q],_,_,_,b,e=>by
   rw[eB]at e;refine absurd ?_ (b q Zm);rw[show q.cps.toList=(Str.join _ [q]).cps.toList from rfl,<-e];simp
 | p::g::ps,q::f::qs,_,_,a,b,e=>by
   rw[eB,eB,Ze,Ze]at e;have%[i|j]:=Bj (a p Zm) (b q Zm) e;rw[jT i,uo ∅ ∅ (λx d=>a x (Zk _ d)) (λx d=>b x (Zk _ d)) j]
def wv(a:rows≠[])(h:∀r∈rows,10∉r.cps.toList):Txt.split (Str.join nl rows) nl=rows:=by
 have e:=StrLaws.join_split (Str.join nl rows) nl;rw[Hj]at e ⊢;refine uo ?_ a (StrLaws.split_free _ 10) h (by rw[e]);intro q;have:=split_pos (Str.join ⟨#[10]⟩ rows) ⟨#[10]⟩
 simp_all
def cy.nonl(h:cy rows):∀r∈rows,10∉r.cps.toList:=λr a b=>by
 have:=all_eq_true.mp (h.sign r a) 10 b;exact Bi this rfl
def cy.split(h:cy rows):Txt.split (Str.join nl rows) nl=rows:=
 wv (λe=>by have:=h.pos;simp_all) h.nonl
def Bk:∀{xs:List b},(∀x∈xs,f x<=B)->(xs.map f).sum<= ~~~xs*B
 |[],_=>by simp
 | x::r,h=>by
   have c:=Bk λy a=>h y (Zk _ a)
   have d:=h x Zm;rw[Yp,List.sum_cons,Zr,Nat.succ_mul]
   lia
def cy.sum(h:cy rows):(rows.map (·.length)).sum<=1600:=by
 have%[c,_,d|a]:=h.wide;have:=Bk (f:=λr:Str=> ~~~r) λr b=>by have:=a r b;show r.cps.size<=40;lia
 have:=h.high
 grind
def cy.text(h:cy rows): ~~~(Str.join nl rows)<=2000:=by
 have a:=StrLaws.join_length_le nl rows;have b:=h.sum;have c:=h.high;have d:nl.length=1:=rfl
 lia
abbrev sgn(c:Nat):Str:=⟨#[c]⟩
def jt{cs:List Nat}(h:∀c∈cs,eN c=true): ~~~(aI (cs.map sgn))<=26:=by
 have a:∀x∈aI _,x∈gH.cps.toList.map sgn:=λx b=>by
  have%[c,d|e]:=Xn (aP.mp b);exact Xo %[c,Zo (h c d)|e]
 have:=List.Nodup.length_le_of_subset (bK _) a;rw[Z6]at this;have e:gH.cps.toList.length=26:=!0
 lia
abbrev cJ(rows:ZB):List Nat:=(Str.join (!"") rows).cps.toList.filter (λc=>decide (c≠46))
def uq:∀(rows:ZB),(Str.join (!"") rows).cps.toList=(rows.map (·.cps.toList)).flatten
 |[]=>rfl
 |[x]=>by simp[Str.join]
 | x::y::r=>by
   have e:(!"").cps.toList=[]:=rfl;rw[eB,uq _,e,Zx];simp
def iV(h:∀r∈rows,r.cps.toList.all okc=true):∀c∈cJ rows,eN c=true:=λc a=>by
 unfold cJ at a;rw[List.mem_filter,uq]at a;have%[b|d]:=a;have%[l,e|f]:=List.mem_flatten.mp b;have%[r,g|rfl]:=Xn e;have:=all_eq_true.mp (h r g) c f;unfold okc at this;rw[or_eq_true]at this;rcases this with q|q
 .exact absurd (Zo q) (Zo d)
 .exact q
def cy.signs_ne(h:cy rows):cJ rows≠[]:=by
 have%[r,b,c,d|a]:=h.some';have:c∈cJ rows:=by
  unfold cJ;rw[List.mem_filter,uq];exact%[List.mem_flatten.mpr %[_,Xo %[r,b|ρ]|d]|Zf a]
 grind
abbrev sI(z:Str):Bool:=(decide (1<=(~~~z:Int))&&decide ((~~~z:Int)<=40))&&z.cps.toList.all okc
abbrev eO(row a:Str):Bool:=decide (~~~row= ~~~a)&&(List.zip a.cps.toList row.cps.toList).all λp=>!decide (p.2=46)||decide (p.1=46)
def cy.row(h:cy rows)(a:r∈rows):sI r=true:=by
 have%[b,d,f|c]:=h.wide;have e: ~~~r=b:=c r a;unfold sI;rw[h.sign r a,e,Zf ⋯,Zf ⋯];rfl
def cy.beneath(h:cy rows)(c:rows[i]?∣r)(d:rows[i+1]?∣a):eO a r=true:=by
 have%[e,n,o|f]:=h.wide;have g: ~~~r=e:=f r (Z8 c);have l: ~~~a=e:=f a (Z8 d);unfold eO;rw[Zf (l.trans g.symm),Bool.true_and,all_eq_true];intro p m;have%[j|b]:=Xe m;rw[List.getElem?_zip_eq_some]at b;have:=h.fall i r a c d j p.1 p.2 (by simpa using b.1) (by simpa using b.2)
 grind
def ww(cs:List Nat):(Str.join (!"") (cs.map sgn))=⟨cs.toArray⟩:=by
 refine jT ?_;rw[uq,Yq];show((cs.map (λc=>[c])).flatten)=cs
 induction cs with
 | nil=>rfl
 | cons c r a=>simp_all
def xB:∀cs:List Nat,((cs.map sgn).map (λx=> ~~~x)).sum= ~~~cs
 |[]=>rfl
 | c::r=>by
   rw[Yp,Yp,List.sum_cons,xB r,Zr];show 1+ ~~~r= ~~~r+1
   lia
end _C
namespace _C
open PySem _L
end _C
namespace _L
open PySem PySem.Spec PyProof.Rows
abbrev Up(B:Heap)(l:List Env)(e:Addr)(cls:Value)(b:ZI)(d:Option Value)(h:Heap):Prop:=
 B.StaysIn h/\B.get? e=none/\h.FunFrames B l/\∃a vs,h.get? e∣a/\a.cls=cls/\a.dict=b/\a.data= .fields vs/\1<vs.size/\
  match d with
  | none=>vs[1]?∣.none
  | some f=>∃T c ts,vs[1]?∣.ref T/\B.get? T=none/\T≠e/\h.get? T∣c/\c.data= .fields ts/\ts[3]?∣f
section
variable{M:Model}{A:Around}{E:ZD}{s:Shared}{B:Heap}{env:Env}{outer:List Env}{L e:Addr}{cls:Value}{dct:ZI}{Q:Unit->Shared->Prop}
end
section
variable{P:Program}{w:World}{H:Hp}{h:Heap}{a:Addr}{o:HO}
def cF.there(x:cF P w H h a o):∃b,h.get? a∣b:=by
 cases o with
 | lst xs=>have%[_,_,_,_|e]:=x;exact%[_|e]
 | tup xs=>have%[_,_,_,b,e|_]:=x;exact%[_|e]
 | dK c=>have%[_,_,_,_,o,_,_,e|_]:=x;exact%[_|e]
 | dT c=>have%[_,_,_,_,o,_,_,e|_]:=x;exact%[_|e]
 | set S n=>have%[o,_,_,_,e|_]:=x;exact%[_|e]
 | ins C d fs=>have%[_,_,_,e|_]:=x;exact%[_|e]
 | own y=>have%[_|e]:=x;exact%[_|e]
 | xd fs=>have%[_,%[_,_,_,e|_]|_]:=x;exact%[_|e]
 | rng lo hi=>have%[_,_,_|e]:=x;exact%[_|e]
 | frz b u=>have%[e|_]:=x;exact%[_|e]
 | tbl ps=>exact%[_|(x)]
 | met f y=>exact%[_|(x)]
 | ext g=>have%[_,%[_|e]|_]:=x;exact%[_|e]
end
structure Fl (P:Program) (w:World) (l:List Env) (H:Hp) (s:Shared) (ea:Addr) (B:Heap) (cls:Value) (dx:ZI) (fl:Option Value) (H':Hp) (s':Shared):Prop where
 os:s'.os=s.os
 bare:AllBare s'.gens
 un:Un (frs l) [] H H' s.heap s'.heap
 hok:HOk P w H' s'.heap
 up:Up B l ea cls dx fl s'.heap
 free:H' ea=none
 new:s.heap.get? ea=none
 inB:∀b ob,s'.heap.get? b∣ob->((∃o,s.heap.get? b∣o)\/∃o,H' b∣o)->b∉frs l->B.get? b∣ob
 frf:∀b∈frs l,H' b=none
section
variable{P:Program}{w:World}{l:List Env}{H H':Hp}{s s':Shared}{ea:Addr}{B h':Heap}{cls:Value}{dx:ZI}{fl fl':Option Value}
variable{K:ZA}{mg:ZC}{base:Heap}{N:ZB}{qual:Str}{scope:Scope}{f:Addr}{cd:Value}{A:Around}{outer:List Env}{s₀:Shared}{H₀:Hp}{E:XK}
variable{prog:Program}{E:ZD}{h:Heap}{g:Array GenState}{d:Drawn}{t:Nat}{os:OsState}
variable{nm q:Str}{C N:Addr}{bs bm bmB:ZF}{hdct:Bool}{sn:ZB}{sub:ZF}{ab:Bool}{col:Option Bool}{dd:ZI}{k0 k1 k2 k3 k5:Option Value}{B newId initId:String}
variable{E:ZE}
variable{x:Addr}{name:Str}{v:Value}{ox:Obj}{od:Option Obj}
variable{X:Cx}
variable{pins:ZE}{σ:St}
variable{D:Addr}{x:Str}{p:Pos}{pos:Pos}{pos':Pos}{apos:Pos}{e:Expr}{o:Expr}{value:Expr}{es:List Expr}{t:TA}{ta:TE}{tv:TE}{r:List V->Hp->VK->Prop}
end
abbrev F1(b:TE):TE:=λc H Q=>b c H λv a=>(∃i:Int,v= .int i/\i.natAbs<2^64/\Q (.str (toString i)) a)\/∃y:Str,v= .str y/\ ~~~y<=sizeLine/\Q (.str y) a
abbrev nA:List TE->Str->TE
 |[],out=>λa H Q=> ~~~out<=sizeLine/\Q (.str out) H
 | t::ts,out=>λa H Q=>t a H λv b=>∃y:Str,v= .str y/\ ~~~(out++y)<=sizeLine/\nA ts (out++y) a b Q
inductive PJ (X:Cx):List Expr->List TE->Prop
 | nil:PJ X [] []
 | cons {e:Expr} {es:List Expr} {t:TE} {ts:List TE}:PE X e t->PJ X es ts->PJ X (e::es) (t::ts)
section
variable{X:Cx}{e v1 v2:Expr}{rest:List Expr}{te t1 t2:TE}{ts:List TE}{pos:Pos}
def F2(c:PE X e te):PE X (.FormattedValue e (-1) none pos) (F1 te):=by
 intro pins s d H Q I h;refine FormattedValue_plain (thP (c pins s d H _ I h) λu j v a b r q=>?_);rcases q with⟨i,rfl,hi,q⟩|⟨y,rfl,f,q⟩
 .have%[t|rfl]:=(show∃t,u=Value.int i t from r)
  have g:i.natAbs.log2<1920:=by
   by_cases z:i.natAbs=0
   .rw[z];decide
   .exact(Nat.log2_lt z).mpr (Zg hi (Nat.pow_le_pow_right (!1) ∅))
  exact formatField_int_small g %[V.str (toString i),a,b.tok _,%[_|rfl]|q]
 .have%[t|rfl]:=(r)
  exact formatField_str (λt' tk=>%[.str y,a,b.tok _,%[_|rfl]|q]) f
def Bl(h:PJ X es ts):∀(out:Str) (pins:ZE) (s:Shared) (a:St) (H:Hp) (Q:VK),Inv X pins a H s->nA ts out a H Q->
 (X⁻¹) (joinParts out (evalEach es X.env)) (EP X pins a Q) X.xe s:=by
 induction h with
 | nil=>exact λout pins s a H Q I ⟨b,q⟩=>joinParts_nil %[.str out,H,I.tok _,%[_|rfl]|q] b
 | cons c _ d=>
   intro out pins s a H Q I q;refine joinParts_cons (thP (c pins s a H _ I q) λu f v g i r ⟨y,j,b,l⟩=>?_);subst j;have%[t|rfl]:=(r)
   exact%[b|d _ pins f a g Q i l]
def DE(h:PJ X (v1::v2::rest) ts):PE X (.JoinedStr (v1::v2::rest) pos) (nA ts Str.empty):=λpins s a H Q I q=>
 JoinedStr_many (Bl h _ pins s a H Q I q)
variable{k:Nat}{f:Addr}{C:Addr}{fd:FuncData}{ps:ZB}{sp:Sp}{x:Str}{p:Pos}{cpos:Pos}{es:List Expr}{t:TA}
end
abbrev drop(H:Hp)(a:Addr):Hp:=λb=>if b=a then none else H b
def zq:drop H a a=none:=by unfold drop;rw[if_pos rfl]
def iW(h:b≠a):drop H a b=H b:=by unfold drop;rw[if_neg h]
section
variable{X:Cx}{pins:ZE}{σ:St}{H:Hp}{s s':Shared}
variable{M:Model}{A:Around}{E:ZD}{K:ZA}{D:Addr}{C:Addr}{e:Addr}{oe:Obj}{b:Bool}{Q:Bool->Shared->Prop}
variable{pins':ZE}{pn:ZE}
variable{prog:Program}{w:World}{E:ZE}
variable{x:Addr}{name:Str}{v:Value}{ox:Obj}{od:Option Obj}
variable{pins:ZF}
end
abbrev cO(mg:ZC)(x:Str):Addr:=match mg x with
 | some (.ref C)=>C
 | _=>0
def DF(h:mg x∣.ref C):cO mg x=C:=by unfold cO;rw[h]
section
variable{P:Program}{w:World}{K:ZA}{mg:ZC}{base:Heap}{x qual:Str}{st:Stmt}{N ps:ZB}{k:Nat}{sp:Sp}
variable{X:Cx}{pos:Pos}
def F3(a:QE X e b):QE X (.FormattedValue e (-1) none pos) (F1 b):=⟨F2 a.h⟩
def EH:PJ X [] []:= .nil
def pjE(a:QE X e t)(h:PJ X es ts):PJ X (e::es) (t::ts):= .cons a.h h
def EI{rest:List Expr}(h:PJ X (v1::a::rest) ts):QE X (.JoinedStr (v1::a::rest) pos) (nA ts Str.empty):=⟨DE h⟩
variable{prog:Program}{A:Around}{E:ZE}{s:Shared}
end
abbrev clo(c:TE):TE:=λd H Q=>∃a:VK,c d H a/\∀v b,a v b->Q v b
def F4{X:Cx}(h:PE X e b):PE X e (clo b):=λpins s c H Q I ⟨d,q,k⟩=>
 thP (h pins s c H d I q) λ_ _ v a f r z=>%[v,a,f,r|k v a z]
def F5{X:Cx}(h:PE X e t)(k:∀a H Q,t' a H Q->t a H Q):PE X e t':=λpins s a H Q I q=>h pins s a H Q I (k a H Q q)
def Bm(h:H r=none):drop (upd H r o) r=H:=by
 funext b;unfold drop upd
 simp_all
section
variable{X:Cx}{K:ZA}{pos:Pos}
end
end _L
namespace _S
open PySem PyProof.Rows
section
variable(prog:Program)(w:World)(A:Around)(SI:Shared->Prop)
abbrev SC{a:Type}(m:StateT SortSt Sem a)(Q:a->SortSt->Prop)(st:SortSt):Prop:=
 ∀s,SI s->↥A (m.run st) (λr s'=>SI s'/\Q r.1 r.2) (λ_ _=>False) s
nonrec abbrev ZY:=Array Keyed
abbrev Cmp(a:SortKind)(D:Keyed->Prop)(N:Keyed->Nat):Prop:=
 ∀x y s,D x->D y->SI s->↥A (keyLt' a x.1 y.1) (λb s'=>b=decide (N x<N y)/\SI s') (λ_ _=>False) s
end
section
variable{prog:Program}{w:World}{A:Around}{SI:Shared->Prop}{α β:Type}
def ar{st:SortSt}(h:Q a st):(SC prog w A SI) (pure a) Q st:=λs b=>by
 exact Z3 %[b|h]
def ap{st:SortSt}(h:(SC prog w A SI) m (λa b=>(SC prog w A SI) (f a) Q b) st):(SC prog w A SI) (m>>= f) Q st:=λs c=>by
 exact Z2 (wpAny_mono (h s c) (λr s' h'=>h'.2 s' h'.1) λ_ _ e=>e)
def bL{st:SortSt}(h:(SC prog w A SI) m Q st)(c:∀a b,Q a b->d a b):(SC prog w A SI) m d st:=λs f=>
 wpAny_mono (h s f) (λr s' h'=>%[h'.1|c _ _ h'.2]) λ_ _ e=>e
def du{st:SortSt}(h:Q st st):(SC prog w A SI) get Q st:=λs a=>by
 exact Z3 %[a|h]
def bR{st:SortSt}(h:Q ⟨⟩ (f st)):(SC prog w A SI) (modify f) Q st:=λs a=>by
 exact Z3 %[a|h]
def F6{st:SortSt}(h:Q ⟨⟩ x):(SC prog w A SI) (set x) Q st:=λs a=>by
 exact Z3 %[a|h]
def xC{st:SortSt}(h:∀s,SI s->↥A m (λa s'=>SI s'/\Q a st) (λ_ _=>False) s):(SC prog w A SI) (liftM m:StateT SortSt Sem α) Q st:=λs b=>by
 exact Z2 (wpAny_mono (h s b) (λa s' h'=>Z3 h') λ_ _ e=>e)
def gJ{st:SortSt}(h:Q () st):(SC prog w A SI) (liftM (rule t):StateT SortSt Sem Unit) Q st:=xC λs a=>wpAny_rule %[a|h]
def bu{st:SortSt}(I:Nat->β->SortSt->Prop)(j:a<=b)(p:I a c st)
 (l:∀i x st,a<=i->i<b->I i x st->(SC prog w A SI) (f i x) (λr g=>match r with| .done y=>Q y g| .yield y=>I (i+1) y g) st) (m:∀x st,I b x st->Q x st):(SC prog w A SI) (forIn [a:b] c f) Q st:=by
 have q:∀d i x st,i+d=b->a<=i->I i x st->(SC prog w A SI) (forIn (List.range' i d 1) x f) Q st:=by
  intro d
  induction d with
  | zero=>
    intro i x st e _ h;subst e;exact ar (m x st h)
  | succ d n=>
    intro i x st e o h;rw[List.range'_succ,forIn_cons];refine ap (bL (l i x st o ⋯ h) λr g h'=>?_);cases r with
    | done y=>exact ar h'
    | yield y=>exact n _ y g ⋯ ⋯ h'
 simp_all
def ba{st:SortSt}(a:xs[i]?∣x)(h:Q x st):(SC prog w A SI) (elem' xs i) Q st:=by
 rw[elem'_eq,a];exact ar h
def ur{st:SortSt}(c:Cmp prog w A SI (kindOf st) D N)(d:D x)(f:D y)(h:Q (some (decide (N x<N y))) st):(SC prog w A SI) (lt' x y) Q st:=by
 refine ap (du (ap (xC (λs g=>wpAny_attempt (wpAny_mono (c x y s d f g) (λb s' ⟨i,a⟩=>?_) λ_ _ e=>e.elim)))));subst i;exact%[a|ar h]
def DG{st:SortSt}(c:Cmp prog w A SI (kindOf st) D N)(hi:(arrOf st)[i]?∣x)(a:(arrOf st)[j]?∣y)(b:D x)(d:D y)
 (h:Q (some (decide (N x<N y))) st):(SC prog w A SI) (ltAt' i j) Q st:=by
 exact ap (du (ap (ba hi (ap (ba a (ur c b d h))))))
end
abbrev e9:Bool->Keyed->ZY->Nat->Nat->Nat->StateT SortSt Sem (Option Nat):=sortPriv% PySem.Builtin.gallop
section
variable{prog:Program}{w:World}{A:Around}{SI:Shared->Prop}{α β:Type}
abbrev ga0(left:Bool)(a:Keyed)(b:ZY)(base i:Nat):StateT SortSt Sem (Option Bool):=do
 let x<-elem' b (base+i)
 if left=true then lt' x a else do
  let y<-lt' a x
  pure (y.map (!·))
abbrev gaM(f:Nat->StateT SortSt Sem (Option Bool))(x:Option (Option Nat)×Nat×Nat):StateT SortSt Sem (ForInStep (Option (Option Nat)×Nat×Nat)):=
 if x.2.1>=x.2.2 then pure (.done (none,x.2.1,x.2.2))else do
  match<-f (x.2.1+(x.2.2-x.2.1)/2)with
  | some w=>if w=true then pure (.yield (none,x.2.1+(x.2.2-x.2.1)/2+1,x.2.2))else pure (.yield (none,x.2.1,x.2.1+(x.2.2-x.2.1)/2))
  | _=>pure (.done (some none,x.2.1,x.2.2))
abbrev ga3(f:Nat->StateT SortSt Sem (Option Bool))(n lo hi:Nat):StateT SortSt Sem (Option Nat):=do
 let x<-forIn [0:n] (none,lo,hi) λ_ x=>gaM f x
 match x.1 with
 | some r=>pure r
 | none=>pure (some x.2.2)
abbrev ga1(f:Nat->StateT SortSt Sem (Option Bool))(n hint:Nat)(x:Option (Option Nat)×Nat×Nat):StateT SortSt Sem (ForInStep (Option (Option Nat)×Nat×Nat)):=
 if x.2.2>=n-hint then pure (.done (none,x.2.1,x.2.2))else do
  match<-f (hint+x.2.2)with
  | some w=>if(!w)=true then pure (.done (none,x.2.1,x.2.2))else pure (.yield (none,x.2.2,2*x.2.2+1))
  | _=>pure (.done (some none,x.2.1,x.2.2))
abbrev ga2(f:Nat->StateT SortSt Sem (Option Bool))(hint:Nat)(x:Option (Option Nat)×Nat×Nat):StateT SortSt Sem (ForInStep (Option (Option Nat)×Nat×Nat)):=
 if x.2.2>=hint+1 then pure (.done (none,x.2.1,x.2.2))else do
  match<-f (hint-x.2.2)with
  | some w=>if w=true then pure (.done (none,x.2.1,x.2.2))else pure (.yield (none,x.2.2,2*x.2.2+1))
  | _=>pure (.done (some none,x.2.1,x.2.2))
set_option smartUnfolding false in
def Hk(left:Bool)(a:Keyed)(b:ZY)(base n hint:Nat):e9 left a b base n hint=(do
 match<-ga0 left a b base hint with
 | some w=>
   if w=true then(do
    let x<-forIn [0:n] (none,0,1) λ_ x=>ga1 (ga0 left a b base) n hint x
    match x.1 with
    | some r=>pure r
    | none=>ga3 (ga0 left a b base) n (hint+x.2.1+1) (hint+min x.2.2 (n-hint)))
   else(do
    let x<-forIn [0:n] (none,0,1) λ_ x=>ga2 (ga0 left a b base) hint x
    match x.1 with
    | some r=>pure r
    | none=>ga3 (ga0 left a b base) n (hint+1-min x.2.2 (hint+1)) (hint-x.2.1))
 | _=>pure none):=rfl
def wx{f:Option (Option Nat)×Nat×Nat->StateT SortSt Sem (ForInStep (Option (Option Nat)×Nat×Nat))}{g:Option (Option Nat)×Nat×Nat->StateT SortSt Sem (Option Nat)}{n l h:Nat}{Q:Option Nat->SortSt->Prop}{st:SortSt}(P:Nat->Prop)(b:P h)
 (c:∀l h (R:ForInStep _->SortSt->Prop),P h->(∀l h,P h->R (.done (none,l,h)) st/\R (.yield (none,l,h)) st)->(SC prog w A SI) (f (none,l,h)) R st) (d:∀l h,P h->(SC prog w A SI) (g (none,l,h)) Q st):
 (SC prog w A SI) (do let x<-forIn [0:n] (none,l,h) λ_ x=>f x;g x) Q st:=by
 refine ap (bL (bu (Q:=λx a=>a=st/\∃l h,x=(none,l,h)/\P h) (λ_ x a=>a=st/\∃l h,x=(none,l,h)/\P h) (Xd _) %[rfl,_,_,rfl|b] ?_ λ_ _ h=>h) ?_)
 .intro _ _ _ _ _ %[rfl,l,h,rfl|p];exact c l h _ p λl h p=>%[%[rfl,_,_,rfl|p],rfl,_,_,rfl|p]
 .intro _ _ %[rfl,l,h,rfl|p];exact d l h p
def eC{D:Keyed->Prop}{N:Keyed->Nat}{left:Bool}{a:Keyed}{d:ZY}{base n hint:Nat}{Q:Option Nat->SortSt->Prop}{st:SortSt}(c:Cmp prog w A SI (kindOf st) D N)(f:D a)
 (p:∀i,i<n->∃x,d[base+i]?∣x/\D x) (q:hint<n) (h:∀k,k<=n->Q (some k) st):(SC prog w A SI) (e9 left a d base n hint) Q st:=by
 have ask:∀(i:Nat) (R:Option Bool->SortSt->Prop),i<n->(∀b,R (some b) st)->(SC prog w A SI) (ga0 left a d base i) R st:=λi R hi g=>by
  have%[x,r|j]:=p i hi;refine ap (ba r ?_);cases left
  .exact ap (ur c f j (ar (g _)))
  .exact ur c j f (g _)
 have m:∀l o,o<=n->(SC prog w A SI) (ga3 (ga0 left a d base) n l o) Q st:=λl o e=>by
  refine wx (·<=n) e (λl o R e k=>?_) λl o e=>ar (h o e)
  unfold gaM;dsimp only
  split
  .exact ar (k _ _ e).1
  .refine ap (ask _ _ ⋯ λb=>?_);cases b
   .exact ar (k _ _ ⋯).2
   .exact ar (k _ _ e).2
 rw[Hk];refine ap (ask hint _ q λb=>?_);cases b
 .refine wx (λ_=>True) ⟨⟩ (λl o R _ k=>?_) λl o _=>m _ _ ⋯
  unfold ga2;dsimp only
  split
  .exact ar (k _ _ ⟨⟩).1
  .refine ap (ask _ _ ⋯ λb=>?_);cases b
   .exact ar (k _ _ ⟨⟩).2
   .exact ar (k _ _ ⟨⟩).1
 .refine wx (λ_=>True) ⟨⟩ (λl o R _ k=>?_) λl o _=>m _ _ ⋯
  unfold ga1;dsimp only
  split
  .exact ar (k _ _ ⟨⟩).1
  .refine ap (ask _ _ ⋯ λb=>?_);cases b
   .exact ar (k _ _ ⟨⟩).1
   .exact ar (k _ _ ⟨⟩).2
end
abbrev nB:ZY->ZY->StateT SortSt Sem ZY:=sortPriv% PySem.Builtin.mergeLo
abbrev nC:ZY->ZY->StateT SortSt Sem ZY:=sortPriv% PySem.Builtin.mergeHi
abbrev c8:Nat->StateT SortSt Sem Unit:=sortPriv% PySem.Builtin.setMinGallop
def fQ(g:Nat):c8 g=modify (λs=>SortSt.mk' (kindOf s) (arrOf s) (pendingOf s) g (failedOf s)):=rfl
abbrev Srt(N:Keyed->Nat)(l:List Keyed):Prop:=l.Pairwise λx y=>N x<=N y
abbrev dB(a b r:ZY):Prop:=r.toList.Perm (a.toList++b.toList)
abbrev MI(a b out:ZY)(c d:Nat):Prop:=(out.toList++(a.toList.drop c++b.toList.drop d)).Perm (a.toList++b.toList)
def eP(a:ZY)(i j:Nat):(a.extract i j).toList=(a.toList.drop i).take (j-i):=by
 simp
def mJ(a:ZY)(i:Nat):(a.extract i a.size).toList=a.toList.drop i:=by
 rw[eP,Zn]
 simp_all
def mK(a:ZY)(i k:Nat):(a.extract i (i+k)).toList=(a.toList.drop i).take k:=by
 simp
def MI.takeA{a b out:ZY}{c d:Nat}(h:MI a b out c d)(k:Nat):MI a b (out++a.extract c (c+k)) (c+k) d:=by
 unfold MI at h ⊢;rw[Xc,mK,Ze,<-Ze _ (a.toList.drop _),<-drop_drop,X9];exact h
def MI.takeB{a b out:ZY}{d c:Nat}(h:MI a b out d c)(k:Nat):MI a b (out++b.extract c (c+k)) d (c+k):=by
 unfold MI at h ⊢;refine List.Perm.trans ?_ h;rw[Xc,mK,Ze];refine List.Perm.append_left _ ?_;refine(List.perm_append_comm_assoc _ _ _).trans ?_;rw[<-drop_drop,X9]
def gK{a:ZY}{i:Nat}(h:i<a.size)(out:ZY):out++a.extract i (i+1)=out.push a[i]:=by
 apply Array.ext';rw[Xc,mK,toList_push,List.drop_eq_getElem_cons ↑h];rfl
def MI.done{a b out:ZY}{c d:Nat}(h:MI a b out c d):dB a b (out++a.extract c a.size++b.extract d b.size):=by
 unfold dB;rw[Xc,Xc,mJ,mJ,Ze];exact h
def MI.last{a b out:ZY}{c d:Nat}(h:MI a b out c d):dB a b (out++b.extract d b.size++a.extract c a.size):=by
 unfold dB;rw[Xc,Xc,mJ,mJ,Ze];exact(List.Perm.append_left _ List.perm_append_comm).trans h
abbrev SG(st a:SortSt):Prop:=kindOf a=kindOf st/\arrOf a=arrOf st/\pendingOf a=pendingOf st/\failedOf a=failedOf st
def SG.refl(st:SortSt):SG st st:=%[rfl,rfl,rfl|rfl]
def SG.set{st a:SortSt}(h:SG st a)(g:Nat):SG st (SortSt.mk' (kindOf a) (arrOf a) (pendingOf a) g (failedOf a)):=h
def SG.trans{s t u:SortSt}(h:SG s t)(k:SG t u):SG s u:=%[k.1.trans h.1,k.2.1.trans h.2.1,k.2.2.1.trans h.2.2.1|k.2.2.2.trans h.2.2.2]
structure LC (prog:Program) (w:World) (A:Around) (SI:Shared->Prop) (D:Keyed->Prop) (N:Keyed->Nat) (a b:ZY) (st:SortSt):Prop where
 c:Cmp prog w A SI (kindOf st) D N
 DA:∀{i:Nat} (hi:i<a.size),a[i]?∣a[i]/\D a[i]
 DB:∀{i:Nat} (hi:i<b.size),b[i]?∣b[i]/\D b[i]
def LC.of{prog:Program}{w:World}{A:Around}{d:Shared->Prop}{D:Keyed->Prop}{N:Keyed->Nat}{a b:ZY}{s t:SortSt}(C:LC prog w A d D N a b s)(h:SG s t):LC prog w A d D N a b t:={C with c:=h.1▸C.c}
section
variable{prog:Program}{w:World}{A:Around}{SI:Shared->Prop}{α β:Type}
structure ML (a b out:ZY) (ia ib:Nat):Prop where
 mi:MI a b out ia ib
 na:ia+1<a.size
 nb:ib<b.size
abbrev lo3(a b out:ZY)(c d g k k1:Nat):StateT SortSt Sem (ForInStep (Option ZY×ZY×Nat×Nat×Nat×Nat×Nat)):=elem' a c>>= λe=>if(c+1+1==a.size)=true then pure (.done (some (out.push e++b.extract d b.size++a.extract (c+1) a.size),out.push e,c+1,d,g,k,k1))else if(decide (k<7)&&decide (k1<7))=true then pure (.done (none,out.push e,c+1,d,g,k,k1))else pure (.yield (none,out.push e,c+1,d,g,k,k1))
abbrev lo2(a b out:ZY)(d c g k f:Nat):StateT SortSt Sem (ForInStep (Option ZY×ZY×Nat×Nat×Nat×Nat×Nat)):=elem' b c>>= λe=>if(c+1==b.size)=true then pure (.done (some (out.push e++a.extract d a.size++b.extract (c+1) b.size),out.push e,d,c+1,g,k,f))else elem' a d>>= λh=>e9 true h b (c+1) (b.size-(c+1)) 0>>= fun|some k1=>if k1>0 then if(c+1+k1==b.size)=true then pure (.done (some (out.push e++b.extract (c+1) (c+1+k1) ++a.extract d a.size++b.extract (c+1+k1) b.size),out.push e++b.extract (c+1) (c+1+k1),d,c+1+k1,g,k,k1))else lo3 a b (out.push e++b.extract (c+1) (c+1+k1)) d (c+1+k1) g k k1 else lo3 a b (out.push e) d (c+1) g k k1|_=>pure (.done (some (out.push e++a.extract d a.size++b.extract (c+1) b.size),out.push e,d,c+1,g,k,f))
abbrev lo1(a b out:ZY)(c d h f g:Nat):StateT SortSt Sem (ForInStep (Option ZY×ZY×Nat×Nat×Nat×Nat×Nat)):=c8 g>>= λ_=>elem' b d>>= λe=>e9 false e a c (a.size-c) 0>>= fun|some k=>if k>0 then if(c+k+1==a.size)=true then pure (.done (some (out++a.extract c (c+k) ++b.extract d b.size++a.extract (c+k) a.size),out++a.extract c (c+k),c+k,d,g,k,f))else if(c+k==a.size)=true then pure (.done (some (out++a.extract c (c+k) ++a.extract (c+k) a.size++b.extract d b.size),out++a.extract c (c+k),c+k,d,g,k,f))else lo2 a b (out++a.extract c (c+k)) (c+k) d g k f else lo2 a b out c d g k f|_=>pure (.done (some (out++a.extract c a.size++b.extract d b.size),out,c,d,g,h,f))
abbrev loI(a b out:ZY)(c d g f h:Nat):StateT SortSt Sem (ForInStep (Option ZY×ZY×Nat×Nat×Nat×Nat)):=elem' b d>>= λi=>elem' a c>>= λj=>lt' i j>>= fun|some w=>if w=true then(elem' b d>>= λe=>if(d+1==b.size)=true then pure (.done (some (out.push e++a.extract c a.size++b.extract (d+1) b.size),out.push e,c,d+1,0,h+1))else if h+1>=g then pure (.done (none,out.push e,c,d+1,0,h+1))else pure (.yield (none,out.push e,c,d+1,0,h+1)))else(elem' a c>>= λe=>if(c+1+1==a.size)=true then pure (.done (some (out.push e++b.extract d b.size++a.extract (c+1) a.size),out.push e,c+1,d,f+1,0))else if f+1>=g then pure (.done (none,out.push e,c+1,d,f+1,0))else pure (.yield (none,out.push e,c+1,d,f+1,0)))|_=>pure (.done (some (out++a.extract c a.size++b.extract d b.size),out,c,d,f,h))
abbrev loG(a b:ZY):Option ZY×ZY×Nat×Nat×Nat×Nat×Nat->StateT SortSt Sem (ForInStep (Option ZY×ZY×Nat×Nat×Nat×Nat×Nat)):=λx=>
 if x.2.2.2.2.1>1 then lo1 a b x.2.1 x.2.2.1 x.2.2.2.1 x.2.2.2.2.2.1 x.2.2.2.2.2.2 (x.2.2.2.2.1-1)else lo1 a b x.2.1 x.2.2.1 x.2.2.2.1 x.2.2.2.2.2.1 x.2.2.2.2.2.2 x.2.2.2.2.1
abbrev loE(x:Option ZY×ZY×Nat×Nat×Nat×Nat×Nat):StateT SortSt Sem (ForInStep (Option ZY×ZY×Nat×Nat×Nat)):=
 match x.1 with
 | some r=>pure (.done (some r,x.2.1,x.2.2.1,x.2.2.2.1,x.2.2.2.2.1))
 | none=>do
   c8 (x.2.2.2.2.1+1)
   pure (.yield (none,x.2.1,x.2.2.1,x.2.2.2.1,x.2.2.2.2.1+1))
abbrev loF(a b:ZY)(g:Nat)(x:Option ZY×ZY×Nat×Nat×Nat×Nat):StateT SortSt Sem (ForInStep (Option ZY×ZY×Nat×Nat×Nat)):=
 match x.1 with
 | some r=>pure (.done (some r,x.2.1,x.2.2.1,x.2.2.2.1,g))
 | none=>do
   rule "list.sort.gallop"
   let x<-forIn [0:a.size+b.size] (none,x.2.1,x.2.2.1,x.2.2.2.1,g+1,x.2.2.2.2.1,x.2.2.2.2.2) λ_ x=>loG a b x
   loE x
abbrev loO(a b:ZY):Option ZY×ZY×Nat×Nat×Nat->StateT SortSt Sem (ForInStep (Option ZY×ZY×Nat×Nat×Nat)):=λx=>do
 let y<-forIn [0:a.size+b.size] (none,x.2.1,x.2.2.1,x.2.2.2.1,0,0) λ_ y=>loI a b y.2.1 y.2.2.1 y.2.2.2.1 x.2.2.2.2 y.2.2.2.2.1 y.2.2.2.2.2
 loF a b x.2.2.2.2 y
abbrev loR(x:Option ZY×ZY×Nat×Nat×Nat):StateT SortSt Sem ZY:=
 match x.1 with
 | some r=>pure r
 | none=>unsupported "internal:list.sort.merge-bound"
set_option smartUnfolding false in
def Hl(a b:ZY):nB a b=(do
 rule "list.sort.merge-lo"
 let e<-elem' b 0
 if(1==b.size)=true then pure (#[e] ++a.extract 0 a.size++b.extract 1 b.size)
 else if(0+1==a.size)=true then pure (#[e] ++b.extract 1 b.size++a.extract 0 a.size)
 else do
  let s<-get
  let x<-forIn [0:a.size+b.size] (none,#[e],0,1,gallopOf s) λ_ x=>loO a b x
  loR x):=by
 rfl
variable{D:Keyed->Prop}{N:Keyed->Nat}{a b out:ZY}{ia ib g k bc z:Nat}{st:SortSt}
def aR{m n:Nat}(h: ¬(m==n)=true):m≠n:=λe=>h (by simp[e])
def Bn{k1:Nat}{R:ForInStep _->SortSt->Prop}(C:LC prog w A SI D N a b st)(m:ML a b out ia ib)(d:z<=out.size+1)
 (e:∀r o,dB a b r->R (.done (some r,o)) st) (f:∀out ia ib g k k1,ML a b out ia ib->z<=out.size->R (.done (none,out,ia,ib,g,k,k1)) st/\R (.yield (none,out,ia,ib,g,k,k1)) st):(SC prog w A SI) (lo3 a b out ia ib g k k1) R st:=by
 have na:=m.na;refine ap (ba (C.DA ⋯).1 ?_);have c:=m.mi.takeA 1;rw[gK ⋯]at c
 split
 .exact ar (e _ _ c.last)
 .rename_i q
  have q:=aR q;have h:=f _ _ _ g k k1 %[c,⋯|m.nb] (by rw[Xh];exact d)
  split
  .exact ar h.1
  .exact ar h.2
def Bo{R:ForInStep (Option ZY×ZY×Nat×Nat×Nat×Nat×Nat)->SortSt->Prop}(C:LC prog w A SI D N a b st)(m:ML a b out ia ib)(p:z<=out.size+2)
 (c:∀r o,dB a b r->R (.done (some r,o)) st) (e:∀out ia ib g k k1,ML a b out ia ib->z<=out.size->R (.done (none,out,ia,ib,g,k,k1)) st/\R (.yield (none,out,ia,ib,g,k,k1)) st):(SC prog w A SI) (lo2 a b out ia ib g k bc) R st:=by
 have%[l,na|nb]:=m;refine ap (ba (C.DB nb).1 ?_);have d:=l.takeB 1;rw[gK nb]at d
 split
 .exact ar (c _ _ d.done)
 .rename_i q
  have q:=aR q;have f:=C.DA (show ia<_ by lia);refine ap (ba f.1 (ap (eC C.c f.2 (λi hi=>%[_|C.DB ⋯]) ⋯ λk2 n=>?_)));dsimp only
  split
  .have h:=d.takeB k2
   split
   .exact ar (c _ _ h.done)
   .rename_i j
    have j:=aR j;exact Bn C %[h,na|⋯] (by simp;lia) c e
  .exact Bn C %[d,na|⋯] (by rw[Xh];lia) c e
def F7{l:Nat}{R:ForInStep (Option ZY×ZY×Nat×Nat×Nat×Nat×Nat)->SortSt->Prop}(C:LC prog w A SI D N a b st)(m:ML a b out ia ib)(n:z<=out.size+2)
 (d:∀c r o,SG st c->dB a b r->R (.done (some r,o)) c) (e:∀c out ia ib g k k1,SG st c->ML a b out ia ib->z<=out.size->R (.done (none,out,ia,ib,g,k,k1)) c/\R (.yield (none,out,ia,ib,g,k,k1)) c):(SC prog w A SI) (lo1 a b out ia ib l bc g) R st:=by
 have na:=m.na;have f:=C.DB m.nb;unfold lo1;rw[fQ];refine ap (bR ?_);have sg:=(SG.refl st).set g;have d:=λr o=>d _ r o sg
 have e:=λout ia ib g k k1=>e _ out ia ib g k k1 sg
 have C:=C.of sg;refine ap (ba f.1 (ap (eC C.c f.2 (λi hi=>%[_|C.DA ⋯]) ⋯ λk p=>?_)));dsimp only
 split
 .have mk:=m.mi.takeA k
  split
  .exact ar (d _ _ mk.last)
  .rename_i h
   have h:=aR h
   split
   .exact ar (d _ _ mk.done)
   .rename_i j
    have j:=aR j;exact Bo C %[mk,⋯|m.nb] (by simp;lia) d e
 .exact Bo C m n d e
def F8{c:Nat}{R:ForInStep (Option ZY×ZY×Nat×Nat×Nat×Nat)->SortSt->Prop}(C:LC prog w A SI D N a b st)(m:ML a b out ia ib)(f:z<=out.size+1)
 (i:∀r o,dB a b r->R (.done (some r,o)) st) (j:∀out ia ib c bc,ML a b out ia ib->z<=out.size->R (.done (none,out,ia,ib,c,bc)) st/\R (.yield (none,out,ia,ib,c,bc)) st):(SC prog w A SI) (loI a b out ia ib g c bc) R st:=by
 have%[l,na|nb]:=m;have d:=C.DA (show ia<_ by lia);have e:=C.DB nb;refine ap (ba e.1 (ap (ba d.1 (ap (ur C.c e.2 d.2 ?_)))));dsimp only
 split
 .refine ap (ba e.1 ?_);have m2:=l.takeB 1;rw[gK nb]at m2
  split
  .exact ar (i _ _ m2.done)
  .rename_i q
   have q:=aR q;have h:=j _ _ _ 0 (bc+1) %[m2,na|⋯] (by rw[Xh];exact f)
   split
   .exact ar h.1
   .exact ar h.2
 .refine ap (ba d.1 ?_);have m2:=l.takeA 1;rw[gK ⋯]at m2
  split
  .exact ar (i _ _ m2.last)
  .rename_i q
   have q:=aR q;have h:=j _ _ _ (c+1) 0 %[m2,⋯|nb] (by rw[Xh];exact f)
   split
   .exact ar h.1
   .exact ar h.2
def F9{j:Nat}{q:Option ZY}{R:ForInStep (Option ZY×ZY×Nat×Nat×Nat)->SortSt->Prop}(C:LC prog w A SI D N a b st)(m:ML a b out ia ib)(e:j+1<=out.size)
 (p:∀d r o,SG st d->dB a b r->R (.done (some r,o)) d) (s:∀d out ia ib g,SG st d->ML a b out ia ib->j+2<=out.size->R (.yield (none,out,ia,ib,g)) d):(SC prog w A SI) (loO a b (q,out,ia,ib,g)) R st:=by
 have u:=m.na;refine ap (bL (bu (Q:=λx d=>SG st d/\((∃r o,x=(some r,o)/\dB a b r)\/∃out ia ib f bc,x=(none,out,ia,ib,f,bc)/\ML a b out ia ib/\j+2<=out.size))
  (λj2 x d=>SG st d/\∃out ia ib f bc,x=(none,out,ia,ib,f,bc)/\ML a b out ia ib/\j+1+j2<=out.size) (Xd _) %[SG.refl _,_,_,_,_,_,rfl,m|e] ?_ ?_) ?_)
 .intro j2 x i _ l %[c,out,ia,ib,f,bc,rfl,m|e];exact F8 (C.of c) m ⋯ (λr o h=>%[c|.inl %[r,o,rfl|h]]) λout ia ib f bc h z=>%[%[c|.inr %[_,_,_,_,_,rfl,h|⋯]],c,_,_,_,_,_,rfl,h|z]
 .intro x i %[c,out,ia,ib,f,bc,rfl,m|e];exact%[c|.inr %[_,_,_,_,_,ρ,m|⋯]]
 .rintro x i ⟨c,⟨r,o,rfl,n⟩|⟨out,ia,ib,f,bc,rfl,m,e⟩⟩
  .exact ar (p _ r _ c n)
  .refine ap (gJ ?_);refine ap (bL (bu (Q:=λx d=>SG st d/\((∃r o,x=(some r,o)/\dB a b r)\/∃out ia ib g f bc,x=(none,out,ia,ib,g,f,bc)/\ML a b out ia ib/\j+2<=out.size))
    (λj2 x d=>SG st d/\∃out ia ib g f bc,x=(none,out,ia,ib,g,f,bc)/\ML a b out ia ib/\j+2<=out.size) (Xd _) %[c,_,_,_,_,_,_,rfl,m|e] ?_ ?_) ?_)
   .intro j2 x i _ l %[c,out,ia,ib,g,f,bc,rfl,m|e];unfold loG;rw[<-apply_ite _];exact F7 (C.of c) m ⋯ (λd r o sg h=>%[SG.trans c sg|.inl %[r,o,rfl|h]]) λd out ia ib g k k1 sg h z=>%[%[SG.trans c sg|.inr %[_,_,_,_,_,_,rfl,h|z]],SG.trans c sg,_,_,_,_,_,_,rfl,h|z]
   .simp_all
   .rintro x i ⟨c,⟨r,o,rfl,n⟩|⟨out,ia,ib,g,f,bc,rfl,m,e⟩⟩
    .exact ar (p _ r _ c n)
    .exact ap (bR (ar (s _ _ _ _ _ (c.set _) m e)))
def wz{Q:ZY->SortSt->Prop}(C:LC prog w A SI D N a b st)(v:1<=a.size)(l:1<=b.size)(h:∀r c,SG st c->dB a b r->Q r c):(SC prog w A SI) (nB a b) Q st:=by
 rw[Hl];refine ap (gJ (ap (ba (C.DB l).1 ?_)));have i:=(show MI a b #[] 0 0 from List.Perm.refl _).takeB 1;rw[gK l]at i
 split
 .exact ar (h _ st (SG.refl _) i.done)
 rename_i n
 have n:=aR n
 split
 .exact ar (h _ st (SG.refl _) i.last)
 rename_i p
 have p:=aR p;refine ap (du ?_);refine ap (bL (bu (Q:=λx c=>SG st c/\∃r,x.1∣r/\dB a b r)
  (λj x c=>SG st c/\∃out ia ib g,x=(none,out,ia,ib,g)/\ML a b out ia ib/\j+1<=out.size) (Xd _) %[SG.refl _,_,_,_,_,rfl,%[i,⋯|⋯]|Zi _] ?_ ?_) ?_)
 .intro j x d _ y %[sg,out,ia,ib,g,rfl,m|f];exact F9 (C.of sg) m f (λc r o e h=>%[SG.trans sg e,r,rfl|h]) λc out ia ib g e h z=>%[SG.trans sg e,_,_,_,_,rfl,h|z]
 .intro x d %[sg,out,ia,ib,g,rfl,m|f];have:=m.na;have q:=m.mi.length_eq;simp only[Z9,Zb,Yg]at q
  lia
 .rintro⟨B,x2⟩ d ⟨sg,r,s,u⟩;subst s;exact ar (h r d sg u)
end
abbrev MH(a b out:ZY)(na nb:Nat):Prop:=(b.toList.take nb++(a.toList.take na++out.reverse.toList)).Perm (a.toList++b.toList)
def xD(a out:ZY){k n:Nat}(h:k<=n):a.toList.take k++(out++(a.extract k n).reverse).reverse.toList=a.toList.take n++out.reverse.toList:=by
 rw[Array.reverse_append,Array.reverse_reverse,Xc,eP,<-Ze,<-List.take_add,Nat.add_sub_cancel' h]
def MH.takeA{a b out:ZY}{na nb k:Nat}(h:MH a b out na nb)(c:k<=na):MH a b (out++(a.extract k na).reverse) k nb:=by
 unfold MH;rw[xD _ _ c];exact h
def MH.takeB{a b out:ZY}{na nb k:Nat}(h:MH a b out na nb)(c:k<=nb):MH a b (out++(b.extract k nb).reverse) na k:=by
 refine(List.perm_append_comm_assoc _ _ _).trans ?_;rw[xD _ _ c];exact(List.perm_append_comm_assoc _ _ _).trans h
def iE{a:ZY}{i:Nat}(h:i<a.size)(out:ZY):out++(a.extract i (i+1)).reverse=out.push a[i]:=by
 rw[<-gK h,<-Array.empty_append (xs:=a.extract i (i+1)),gK h];rfl
def MH.first{a b out:ZY}{na nb:Nat}(h:MH a b out na nb):dB a b (b.extract 0 nb++a.extract 0 na++out.reverse):=by
 unfold dB;rw[Xc,Xc,eP,eP,Ze];exact h
def MH.done{a b out:ZY}{na nb:Nat}(h:MH a b out na nb):dB a b (a.extract 0 na++b.extract 0 nb++out.reverse):=by
 unfold dB;rw[Xc,Xc,eP,eP,Ze];exact(List.perm_append_comm_assoc _ _ _).trans h
section
variable{prog:Program}{w:World}{A:Around}{SI:Shared->Prop}{α β:Type}
structure MHS (a b out:ZY) (na nb:Nat):Prop where
 mh:MH a b out na nb
 pa:1<=na
 pb:2<=nb
 ma:na<=a.size
 mb:nb<=b.size
abbrev hi3(a b:ZY)(na nb:Nat)(out:ZY)(g k k1:Nat):StateT SortSt Sem (ForInStep (Option ZY×Nat×Nat×ZY×Nat×Nat×Nat)):=elem' a (na-1)>>= λe=>if(na-1==0)=true then pure (.done (some (a.extract 0 (na-1) ++b.extract 0 nb++(out.push e).reverse),na-1,nb,out.push e,g,k,k1))else if(decide (k<7)&&decide (k1<7))=true then pure (.done (none,na-1,nb,out.push e,g,k,k1))else pure (.yield (none,na-1,nb,out.push e,g,k,k1))
abbrev hi2(a b:ZY)(na nb:Nat)(out:ZY)(g k c:Nat):StateT SortSt Sem (ForInStep (Option ZY×Nat×Nat×ZY×Nat×Nat×Nat)):=elem' b (nb-1)>>= λe=>if(nb-1==1)=true then pure (.done (some (b.extract 0 (nb-1) ++a.extract 0 na++(out.push e).reverse),na,nb-1,out.push e,g,k,c))else elem' a (na-1)>>= λd=>e9 true d b 0 (nb-1) (nb-1-1)>>= fun|some k1=>if nb-1-k1>0 then if(k1==1)=true then pure (.done (some (b.extract 0 k1++a.extract 0 na++(out.push e++(b.extract k1 (nb-1)).reverse).reverse),na,k1,out.push e++(b.extract k1 (nb-1)).reverse,g,k,nb-1-k1))else if(k1==0)=true then pure (.done (some (a.extract 0 na++b.extract 0 k1++(out.push e++(b.extract k1 (nb-1)).reverse).reverse),na,k1,out.push e++(b.extract k1 (nb-1)).reverse,g,k,nb-1-k1))else hi3 a b na k1 (out.push e++(b.extract k1 (nb-1)).reverse) g k (nb-1-k1)else hi3 a b na (nb-1) (out.push e) g k (nb-1-k1)|_=>pure (.done (some (a.extract 0 na++b.extract 0 (nb-1) ++(out.push e).reverse),na,nb-1,out.push e,g,k,c))
abbrev hi1(a b:ZY)(na nb:Nat)(out:ZY)(d c g:Nat):StateT SortSt Sem (ForInStep (Option ZY×Nat×Nat×ZY×Nat×Nat×Nat)):=c8 g>>= λ_=>elem' b (nb-1)>>= λe=>e9 false e a 0 na (na-1)>>= fun|some k=>if na-k>0 then if(k==0)=true then pure (.done (some (a.extract 0 k++b.extract 0 nb++(out++(a.extract k na).reverse).reverse),k,nb,out++(a.extract k na).reverse,g,na-k,c))else hi2 a b k nb (out++(a.extract k na).reverse) g (na-k) c else hi2 a b na nb out g (na-k) c|_=>pure (.done (some (a.extract 0 na++b.extract 0 nb++out.reverse),na,nb,out,g,d,c))
abbrev hiI(a b:ZY)(na nb:Nat)(out:ZY)(g c d:Nat):StateT SortSt Sem (ForInStep (Option ZY×Nat×Nat×ZY×Nat×Nat)):=elem' b (nb-1)>>= λf=>elem' a (na-1)>>= λh=>lt' f h>>= fun|some w=>if w=true then(elem' a (na-1)>>= λe=>if(na-1==0)=true then pure (.done (some (a.extract 0 (na-1) ++b.extract 0 nb++(out.push e).reverse),na-1,nb,out.push e,c+1,0))else if c+1>=g then pure (.done (none,na-1,nb,out.push e,c+1,0))else pure (.yield (none,na-1,nb,out.push e,c+1,0)))else(elem' b (nb-1)>>= λe=>if(nb-1==1)=true then pure (.done (some (b.extract 0 (nb-1) ++a.extract 0 na++(out.push e).reverse),na,nb-1,out.push e,0,d+1))else if d+1>=g then pure (.done (none,na,nb-1,out.push e,0,d+1))else pure (.yield (none,na,nb-1,out.push e,0,d+1)))|_=>pure (.done (some (a.extract 0 na++b.extract 0 nb++out.reverse),na,nb,out,c,d))
abbrev hiG(a b:ZY)(x:Option ZY×Nat×Nat×ZY×Nat×Nat×Nat):StateT SortSt Sem (ForInStep (Option ZY×Nat×Nat×ZY×Nat×Nat×Nat)):=
 if x.2.2.2.2.1>1 then hi1 a b x.2.1 x.2.2.1 x.2.2.2.1 x.2.2.2.2.2.1 x.2.2.2.2.2.2 (x.2.2.2.2.1-1)else hi1 a b x.2.1 x.2.2.1 x.2.2.2.1 x.2.2.2.2.2.1 x.2.2.2.2.2.2 x.2.2.2.2.1
abbrev hiE(x:Option ZY×Nat×Nat×ZY×Nat×Nat×Nat):StateT SortSt Sem (ForInStep (Option ZY×Nat×Nat×ZY×Nat)):=
 match x.1 with
 | some r=>pure (.done (some r,x.2.1,x.2.2.1,x.2.2.2.1,x.2.2.2.2.1))
 | none=>do
   c8 (x.2.2.2.2.1+1)
   pure (.yield (none,x.2.1,x.2.2.1,x.2.2.2.1,x.2.2.2.2.1+1))
abbrev hiF(a b:ZY)(g:Nat)(x:Option ZY×Nat×Nat×ZY×Nat×Nat):StateT SortSt Sem (ForInStep (Option ZY×Nat×Nat×ZY×Nat)):=
 match x.1 with
 | some r=>pure (.done (some r,x.2.1,x.2.2.1,x.2.2.2.1,g))
 | none=>do
   rule "list.sort.gallop"
   let x<-forIn [0:a.size+b.size] (none,x.2.1,x.2.2.1,x.2.2.2.1,g+1,x.2.2.2.2.1,x.2.2.2.2.2) λ_ x=>hiG a b x
   hiE x
abbrev hiO(a b:ZY)(x:Option ZY×Nat×Nat×ZY×Nat):StateT SortSt Sem (ForInStep (Option ZY×Nat×Nat×ZY×Nat)):=do
 let y<-forIn [0:a.size+b.size] (none,x.2.1,x.2.2.1,x.2.2.2.1,0,0) λ_ y=>hiI a b y.2.1 y.2.2.1 y.2.2.2.1 x.2.2.2.2 y.2.2.2.2.1 y.2.2.2.2.2
 hiF a b x.2.2.2.2 y
abbrev hiR(x:Option ZY×Nat×Nat×ZY×Nat):StateT SortSt Sem ZY:=
 match x.1 with
 | some r=>pure r
 | none=>unsupported "internal:list.sort.merge-bound"
set_option smartUnfolding false in
def Hm(a b:ZY):nC a b=(do
 rule "list.sort.merge-hi"
 let e<-elem' a (a.size-1)
 if(a.size-1==0)=true then pure (a.extract 0 (a.size-1) ++b.extract 0 b.size++ #[e].reverse)
 else if(b.size==1)=true then pure (b.extract 0 b.size++a.extract 0 (a.size-1) ++ #[e].reverse)
 else do
  let s<-get
  let x<-forIn [0:a.size+b.size] (none,a.size-1,b.size,#[e],gallopOf s) λ_ x=>hiO a b x
  hiR x):=by
 rfl
variable{D:Keyed->Prop}{N:Keyed->Nat}{a b out:ZY}{na nb g k bc z:Nat}{st:SortSt}
def Bp{k1:Nat}{R:ForInStep _->SortSt->Prop}(C:LC prog w A SI D N a b st)(m:MHS a b out (na+1) nb)(d:z<=out.size+1)
 (e:∀r o,dB a b r->R (.done (some r,o)) st) (f:∀na nb out g k k1,MHS a b out na nb->z<=out.size->R (.done (none,na,nb,out,g,k,k1)) st/\R (.yield (none,na,nb,out,g,k,k1)) st):(SC prog w A SI) (hi3 a b (na+1) nb out g k k1) R st:=by
 have%[j,p,l,s|n]:=m;refine ap (ba (C.DA (i:=na) ⋯).1 ?_);have c:=j.takeA (Ye na);rw[iE ⋯]at c
 split
 .exact ar (e _ _ c.done)
 rename_i q
 have q:=aR q;have h:=f _ _ _ g k k1 %[c,⋯,l,⋯|n] (by rw[Xh];exact d)
 split
 .exact ar h.1
 .exact ar h.2
def Bq{R:ForInStep (Option ZY×Nat×Nat×ZY×Nat×Nat×Nat)->SortSt->Prop}(C:LC prog w A SI D N a b st)(m:MHS a b out (na+1) (nb+1))(v:z<=out.size+2)
 (c:∀r o,dB a b r->R (.done (some r,o)) st) (h:∀na nb out g k k1,MHS a b out na nb->z<=out.size->R (.done (none,na,nb,out,g,k,k1)) st/\R (.yield (none,na,nb,out,g,k,k1)) st):(SC prog w A SI) (hi2 a b (na+1) (nb+1) out g k bc) R st:=by
 have%[u,j,y,l|B]:=m;have n:=C.DA (i:=na) ⋯;unfold hi2;rw[add_sub_cancel,add_sub_cancel];refine ap (ba (C.DB (i:=nb) ⋯).1 ?_);have d:=u.takeB (Ye nb);rw[iE ⋯]at d
 split
 .exact ar (c _ _ d.first)
 rename_i q
 have q:=aR q;refine ap (ba n.1 (ap (eC C.c n.2 (λi hi=>%[_|C.DB ⋯]) ⋯ λk2 e=>?_)));dsimp only;have f:=d.takeB e
 split
 .split
  .exact ar (c _ _ f.first)
  rename_i p
  have p:=aR p
  split
  .exact ar (c _ _ f.done)
  rename_i s
  have s:=aR s;exact Bp C %[f,j,⋯,l|⋯] (by simp;lia) c h
 .exact Bp C %[d,j,⋯,l|⋯] (by rw[Xh];lia) c h
def Ga{p:Nat}{R:ForInStep (Option ZY×Nat×Nat×ZY×Nat×Nat×Nat)->SortSt->Prop}(C:LC prog w A SI D N a b st)(m:MHS a b out na nb)(s:z<=out.size+2)
 (d:∀c r o,SG st c->dB a b r->R (.done (some r,o)) c) (e:∀c na nb out g k k1,SG st c->MHS a b out na nb->z<=out.size->R (.done (none,na,nb,out,g,k,k1)) c/\R (.yield (none,na,nb,out,g,k,k1)) c):(SC prog w A SI) (hi1 a b na nb out p bc g) R st:=by
 have%[f,u,h,v|j]:=m;obtain⟨nb,rfl⟩:∃n,nb=n+1:=%[nb-1|⋯]
 have l:=C.DB (i:=nb) ⋯;unfold hi1;rw[add_sub_cancel,fQ];refine ap (bR ?_);have sg:=(SG.refl st).set g;have d:=λr o=>d _ r o sg
 have e:=λna nb out g k k1=>e _ na nb out g k k1 sg
 have C:=C.of sg;refine ap (ba l.1 (ap (eC C.c l.2 (λi hi=>%[_|C.DA ⋯]) ⋯ λk y=>?_)));dsimp only
 split
 .have mk:=f.takeA y
  split
  .exact ar (d _ _ mk.done)
  rename_i q
  have q:=aR q;obtain⟨k,rfl⟩:∃n,k=n+1:=%[k-1|⋯]
  exact Bq C %[mk,⋯,h,⋯|j] (by simp;lia) d e
 .obtain⟨na,rfl⟩:∃n,na=n+1:=%[na-1|⋯]
  exact Bq C %[f,u,h,v|j] s d e
def Gb{c:Nat}{R:ForInStep (Option ZY×Nat×Nat×ZY×Nat×Nat)->SortSt->Prop}(C:LC prog w A SI D N a b st)(m:MHS a b out na nb)(f:z<=out.size+1)
 (j:∀r o,dB a b r->R (.done (some r,o)) st) (l:∀na nb out c bc,MHS a b out na nb->z<=out.size->R (.done (none,na,nb,out,c,bc)) st/\R (.yield (none,na,nb,out,c,bc)) st):(SC prog w A SI) (hiI a b na nb out g c bc) R st:=by
 have%[p,s,u,v|y]:=m;obtain⟨na,rfl⟩:∃n,na=n+1:=%[na-1|⋯]
 obtain⟨nb,rfl⟩:∃n,nb=n+1:=%[nb-1|⋯]
 have d:=C.DA (i:=na) ⋯;have e:=C.DB (i:=nb) ⋯;unfold hiI;rw[add_sub_cancel,add_sub_cancel];refine ap (ba e.1 (ap (ba d.1 (ap (ur C.c e.2 d.2 ?_)))));dsimp only
 split
 .refine ap (ba d.1 ?_);have m2:=p.takeA (Ye na);rw[iE ⋯]at m2
  split
  .exact ar (j _ _ m2.done)
  rename_i q
  have q:=aR q;have h:=l _ _ _ (c+1) 0 %[m2,⋯,u,⋯|y] (by rw[Xh];exact f)
  split
  .exact ar h.1
  .exact ar h.2
 .refine ap (ba e.1 ?_);have m2:=p.takeB (Ye nb);rw[iE ⋯]at m2
  split
  .exact ar (j _ _ m2.first)
  rename_i q
  have q:=aR q;have h:=l _ _ _ 0 (bc+1) %[m2,s,⋯,v|⋯] (by rw[Xh];exact f)
  split
  .exact ar h.1
  .exact ar h.2
def Gc{j:Nat}{q:Option ZY}{R:ForInStep (Option ZY×Nat×Nat×ZY×Nat)->SortSt->Prop}(C:LC prog w A SI D N a b st)(m:MHS a b out na nb)(e:j+1<=out.size)
 (p:∀d r o,SG st d->dB a b r->R (.done (some r,o)) d) (s:∀d na nb out g,SG st d->MHS a b out na nb->j+2<=out.size->R (.yield (none,na,nb,out,g)) d):(SC prog w A SI) (hiO a b (q,na,nb,out,g)) R st:=by
 have u:=m.pa;have v:=m.ma;refine ap (bL (bu (Q:=λx d=>SG st d/\((∃r o,x=(some r,o)/\dB a b r)\/∃na nb out f bc,x=(none,na,nb,out,f,bc)/\MHS a b out na nb/\j+2<=out.size))
  (λj2 x d=>SG st d/\∃na nb out f bc,x=(none,na,nb,out,f,bc)/\MHS a b out na nb/\j+1+j2<=out.size) (Xd _) %[SG.refl _,_,_,_,_,_,rfl,m|e] ?_ ?_) ?_)
 .intro j2 x i _ l %[c,na,nb,out,f,bc,rfl,m|e];exact Gb (C.of c) m ⋯ (λr o h=>%[c|.inl %[r,o,rfl|h]]) λna nb out f bc h z=>%[%[c|.inr %[_,_,_,_,_,rfl,h|⋯]],c,_,_,_,_,_,rfl,h|z]
 .intro x i %[c,na,nb,out,f,bc,rfl,m|e];exact%[c|.inr %[_,_,_,_,_,ρ,m|⋯]]
 .rintro x i ⟨c,⟨r,o,rfl,n⟩|⟨na,nb,out,f,bc,rfl,m,e⟩⟩
  .exact ar (p _ r _ c n)
  .refine ap (gJ ?_);refine ap (bL (bu (Q:=λx d=>SG st d/\((∃r o,x=(some r,o)/\dB a b r)\/∃na nb out g f bc,x=(none,na,nb,out,g,f,bc)/\MHS a b out na nb/\j+2<=out.size))
    (λj2 x d=>SG st d/\∃na nb out g f bc,x=(none,na,nb,out,g,f,bc)/\MHS a b out na nb/\j+2<=out.size) (Xd _) %[c,_,_,_,_,_,_,rfl,m|e] ?_ ?_) ?_)
   .intro j2 x i _ l %[c,na,nb,out,g,f,bc,rfl,m|e];unfold hiG;rw[<-apply_ite _];exact Ga (C.of c) m ⋯ (λd r o sg h=>%[SG.trans c sg|.inl %[r,o,rfl|h]]) λd na nb out g k k1 sg h z=>%[%[SG.trans c sg|.inr %[_,_,_,_,_,_,rfl,h|z]],SG.trans c sg,_,_,_,_,_,_,rfl,h|z]
   .simp_all
   .rintro x i ⟨c,⟨r,o,rfl,n⟩|⟨na,nb,out,g,f,bc,rfl,m,e⟩⟩
    .exact ar (p _ r _ c n)
    .exact ap (bR (ar (s _ _ _ _ _ (c.set _) m e)))
def wA{Q:ZY->SortSt->Prop}(C:LC prog w A SI D N a b st)(E:1<=a.size)(G:1<=b.size)(h:∀r c,SG st c->dB a b r->Q r c):(SC prog w A SI) (nC a b) Q st:=by
 rw[Hm];obtain⟨f,p⟩:∃f,a.size=f+1:=%[a.size-1|⋯]
 rw[show a.size-1=f by lia];refine ap (gJ (ap (ba (C.DA (i:=f) ⋯).1 ?_)));have n:=(show MH a b #[] (f+1) b.size by
  unfold MH;rw[<-p,<-Zb,<-Zb,Xb,Xb];simpa using List.perm_append_comm).takeA (Ye f)
 rw[iE ⋯]at n
 split
 .exact ar (h _ st (SG.refl _) n.done)
 rename_i s
 have s:=aR s
 split
 .exact ar (h _ st (SG.refl _) n.first)
 rename_i u
 have u:=aR u;refine ap (du ?_);refine ap (bL (bu (Q:=λx c=>SG st c/\∃r,x.1∣r/\dB a b r)
  (λj x c=>SG st c/\∃na nb out g,x=(none,na,nb,out,g)/\MHS a b out na nb/\j+1<=out.size) (Xd _) %[SG.refl _,_,_,_,_,rfl,%[n,⋯,⋯,⋯|⋯]|Zi _] ?_ ?_) ?_)
 .intro j x d _ H %[sg,na,nb,out,g,rfl,m|l];exact Gc (C.of sg) m l (λc r o e h=>%[SG.trans sg e,r,rfl|h]) λc na nb out g e h z=>%[SG.trans sg e,_,_,_,_,rfl,h|z]
 .intro x d %[sg,na,nb,out,g,rfl,m|l];have%[v,I,J,L|M]:=m;have q:=v.length_eq;simp only[Z9,Yk,Zb,Array.size_reverse]at q
  lia
 .rintro⟨O,x2⟩ d ⟨sg,r,y,B⟩;subst y;exact ar (h r d sg B)
end
def ut(i:Nat):mergeAt' i=(do
 let s<-get
 let(some (b,na,c),some (d,nb,_)):=((pendingOf s)[i]?,(pendingOf s)[i+1]?)|unsupported "internal:list.sort.pending"
 set (setPending s (((pendingOf s).setIfInBounds i (b,na+nb,c)).eraseIdxIfInBounds (i+1)))
 let some k<-e9 false (<-elem' (arrOf s) d) (arrOf s) b na 0|return false
 let(b,na):=(b+k,na-k)
 if na==0 then return true
 let some nb<-e9 true (<-elem' (arrOf s) (b+na-1)) (arrOf s) d nb (nb-1)|return false
 if nb==0 then return true
 let x:=(arrOf s).extract b d
 let y:=(arrOf s).extract d (d+nb)
 let merged<-if na<=nb then nB x y else nC x y
 modify λs=>setArr s (merged.toList.zipIdx.foldl (λa (p,j)=>a.setIfInBounds (b+j) p) (arrOf s))
 return (failedOf (<-get)).isNone):=rfl
def uu:∀m c o (a:ZY),o+c+ ~~~m<=a.size->
 ((m.zipIdx c).foldl (λa p=>a.setIfInBounds (o+p.2) p.1) a).toList=a.toList.take (o+c) ++m++a.toList.drop (o+c+ ~~~m)
 |[],c,o,a,_=>by simp
 | x::m,c,o,a,h=>by
   rw[List.zipIdx_cons,Y8];rw[Zr]at h;rw[uu m _ o _ (by rw[Array.size_setIfInBounds];lia),Array.toList_setIfInBounds];have b:o+c< ~~~a.toList:=by rw[Zb];lia
   rw[Zr,List.take_set,List.drop_set];rw[show o+(c+1)=o+c+1 by lia,show o+c+1+ ~~~m=o+c+(~~~m+1) by lia];have e:(a.toList.take (o+c+1)).set (o+c) x=a.toList.take (o+c) ++[x]:=by
    rw[List.take_succ_eq_append_getElem b];rw[List.set_append_right _ _ (by rw[Yk];lia)];rw[Yk,min_eq_left ⋯,sub_self];rfl
   rw[e];simp
section
variable{prog:Program}{w:World}{A:Around}{SI:Shared->Prop}{α β:Type}
def wB{D:Keyed->Prop}{N:Keyed->Nat}{i p J:Nat}{b X Y L2:List Keyed}{Q:Bool->SortSt->Prop}{st:SortSt}(c:Cmp prog w A SI (kindOf st) D N)(e:(arrOf st).toList=b++X++Y++L2)(L:X≠[])(M:Y≠[])
 (d:∀x∈(arrOf st).toList,D x) (O:(pendingOf st)[i]?∣(~~~b,~~~X,p)) (q:(pendingOf st)[i+1]?∣(~~~b+ ~~~X,~~~Y,J)) (z:failedOf st=none)
 (h:∀Z g,Z.Perm (X++Y)->(arrOf g).toList=b++Z++L2->kindOf g=kindOf st->failedOf g=none->pendingOf g=((pendingOf st).setIfInBounds i (~~~b,~~~X+ ~~~Y,p)).eraseIdxIfInBounds (i+1)->Q true g):(SC prog w A SI) (mergeAt' i) Q st:=by
 have T:0< ~~~X:=length_pos_iff.mpr L;have lY:0< ~~~Y:=length_pos_iff.mpr M;have sz:(arrOf st).size= ~~~b+ ~~~X+ ~~~Y+ ~~~L2:=by
  rw[<-Zb,e];simp only[Z9]
 have l:∀i,i<(arrOf st).size->∃x,(arrOf st)[i]?∣x/\D x:=λi hi=>%[(arrOf st)[i],by simp|d _ ∅]
 have sub:∀(u v i:Nat) (hi:i<((arrOf st).extract u v).size),((arrOf st).extract u v)[i]?∣((arrOf st).extract u v)[i]/\D ((arrOf st).extract u v)[i]:=λu v i hi=>%[Array.getElem?_eq_getElem hi|by rw[Array.getElem_extract];exact d _ ∅]
 rw[ut];refine ap (du ?_);rw[O,q];dsimp only;have%[y,U|dy]:=l (~~~b+ ~~~X) ⋯;refine ap (F6 (ap (ba U (ap (eC c dy (λi hi=>l _ ⋯) T λk hk=>?_)))));dsimp only
 split
 .exact ar (h (X++Y) _ (List.Perm.refl _) (by show(arrOf st).toList=_;rw[e];simp) rfl z rfl)
 rename_i C
 have C:=aR C;have%[x,hx|dx]:=l (~~~b+k+(~~~X-k) -1) ⋯;refine ap (ba hx (ap (eC c dx (λi hi=>l _ ⋯) ⋯ λk2 B=>?_)));dsimp only
 split
 .exact ar (h (X++Y) _ (List.Perm.refl _) (by show(arrOf st).toList=_;rw[e];simp) rfl z rfl)
 rename_i E
 have E:=aR E;have ex:((arrOf st).extract (~~~b+k) (~~~b+ ~~~X)).toList=X.drop k:=by
  rw[eP,e,Ze,Ze,List.drop_append,List.drop_of_length_le ⋯,nil_append,Nat.add_sub_cancel_left,List.drop_append_of_le_length ⋯,Xa (by rw[Yg];lia),Zn (by rw[Yg];lia)]
 have G:((arrOf st).extract (~~~b+ ~~~X) (~~~b+ ~~~X+k2)).toList=Y.take k2:=by
  rw[mK,e,Ze,List.drop_append,List.drop_of_length_le (by rw[Z9];lia),nil_append,Z9,sub_self,drop_zero,Xa ⋯]
 have sx:=congrArg List.length ex;have sy:=congrArg List.length G;rw[Zb,Yg]at sx;rw[Zb,Yk]at sy;have H:∀(r:ZY) (f:SortSt),SG (setPending st (((pendingOf st).setIfInBounds i (~~~b,~~~X+ ~~~Y,p)).eraseIdxIfInBounds (i+1))) f->dB ((arrOf st).extract (~~~b+k) (~~~b+ ~~~X)) ((arrOf st).extract (~~~b+ ~~~X) (~~~b+ ~~~X+k2)) r->
  (SC prog w A SI) (do modify (λs=>setArr s (r.toList.zipIdx.foldl (λa (p,j)=>a.setIfInBounds (~~~b+k+j) p) (arrOf s)));let x<-get;pure (failedOf x).isNone) Q f:=λr f sg o=>by
  unfold dB at o;rw[ex,G]at o;refine ap (bR (ap (du (ar ?_))));have m:failedOf f=none:=by rw[sg.2.2.2];exact z
  show Q (failedOf f).isNone _;rw[m];have I: ~~~r.toList=(~~~X-k) +k2:=by
   rw[o.length_eq,Z9,Yg,Yk,min_eq_left B]
  refine h (X.take k++r.toList++Y.drop k2) _ ?_ ?_ sg.1 m sg.2.2.1
  .refine(List.Perm.append_right _ (List.Perm.append_left _ o)).trans ?_;rw[<-Ze,X9,Ze,X9]
  .show(setArr f _|>arrOf).toList=_;have n:arrOf f=arrOf st:=sg.2.1;show((r.toList.zipIdx).foldl (λ(a:ZY) (p:Keyed×Nat)=>a.setIfInBounds (~~~b+k+p.2) p.1) (arrOf f)).toList=_;rw[uu _ 0 _ _ (by rw[I,n,sz];lia),n,e,I];have t1:(b++X++Y++L2).take (~~~b+k+0)=b++X.take k:=by
    rw[add_zero,Ze,Ze,List.take_append,Zn ⋯,Nat.add_sub_cancel_left,Xa ⋯]
   have t2:(b++X++Y++L2).drop (~~~b+k+0+(~~~X-k+k2))=Y.drop k2++L2:=by
    rw[show ~~~b+k+0+(~~~X-k+k2)= ~~~(b++X)+k2 by rw[Z9];lia,Ze,List.drop_append,List.drop_of_length_le ⋯,nil_append,Nat.add_sub_cancel_left,List.drop_append_of_le_length ⋯]
   rw[t1,t2];simp
 split
 .exact ap (wz %[c,sub _ _ _|sub _ _ _] ⋯ ⋯ H)
 .exact ap (wA %[c,sub _ _ _|sub _ _ _] ⋯ ⋯ H)
end
abbrev ky(N:Keyed->Nat)(a:ZY)(i:Nat):Nat:=N (a.getD i (Value.none,Value.none))
def Br(h:a[i]?∣x):ky N a i=N x:=by
 unfold ky
 simp_all
def uv(h:a[i]? =b[j]?):ky N a i=ky N b j:=by
 unfold ky
 simp_all
structure CR (st0 st:SortSt) (lo:Nat):Prop where
 kind:kindOf st=kindOf st0
 pend:pendingOf st=pendingOf st0
 fail:failedOf st=failedOf st0
 perm:(arrOf st).Perm (arrOf st0)
 same:∀i,i<lo->(arrOf st)[i]? =(arrOf st0)[i]?
def CR.refl(st:SortSt)(lo:Nat):CR st st lo:=%[rfl,rfl,rfl,Array.Perm.refl _|λ_ _=>rfl]
def CR.size{a st:SortSt}{lo:Nat}(h:CR a st lo):(arrOf st).size=(arrOf a).size:=h.perm.size_eq
def CR.rev{a st:SortSt}{lo i j:Nat}(h:CR a st lo)(hi:lo<=i)(b:j<=(arrOf st).size):CR a (setArr st (mirror (arrOf st) i j ((j-i)/2))) lo:=
 %[h.kind,h.pend,h.fail,(mirror_perm _ _ _ _).trans h.perm|λk c=>by
  rw[getElem?_mirror_all b,if_neg ⋯];exact h.same k c]
def wC(b:j<=a.size)(k:Nat):ky N (mirror a i j ((j-i)/2)) k=if i<=k/\k<j then ky N a (i+j-1-k)else ky N a k:=by
 split
 .rename_i h
  exact uv (by rw[getElem?_mirror_all b,if_pos h])
 .rename_i h
  exact uv (by rw[getElem?_mirror_all b,if_neg h])
abbrev Up(N:Keyed->Nat)(a:ZY)(lo n:Nat):Prop:=∀i j,i<=j->j<n->ky N a (lo+i)<=ky N a (lo+j)
abbrev Dn(N:Keyed->Nat)(a:ZY)(lo n:Nat):Prop:=∀i j,i<=j->j<n->ky N a (lo+j)<=ky N a (lo+i)
def Up.one(N:Keyed->Nat)(a:ZY)(lo:Nat):Up N a lo 1:=λi j b c=>by
 simp_all
def Up.step{lo n:Nat}(h:Up N a lo n)(d:1<=n)(f: ¬ ky N a (lo+n)<ky N a (lo+n-1)):Up N a lo (n+1):=λi j b g=>by
 by_cases e:j=n
 .subst e;by_cases c:i=j
  .exact c▸Zi _
  .have:=h i (j-1) ⋯ ⋯;rw[show lo+(j-1)=lo+j-1 by lia]at this
   lia
 .exact h i j b ⋯
def Dn.step{lo n:Nat}(h:Dn N a lo n)(d:1<=n)(f:ky N a (lo+n)<=ky N a (lo+n-1)):Dn N a lo (n+1):=λi j b g=>by
 by_cases e:j=n
 .subst e;by_cases c:i=j
  .exact c▸Zi _
  .have:=h i (j-1) ⋯ ⋯;rw[show lo+(j-1)=lo+j-1 by lia]at this
   lia
 .exact h i j b ⋯
def Dn.rev{lo n:Nat}(h:Dn N a lo n)(b:lo+n<=a.size):Up N (mirror a lo (lo+n) ((lo+n-lo)/2)) lo n:=λi j c d=>by
 rw[wC b,wC b,if_pos ⋯,if_pos ⋯];have:=h (n-1-j) (n-1-i) ⋯ ⋯
 grind
def Dn.same{lo n i j:Nat}(h:Dn N a lo n)(d:j<=a.size)(g:∀k b,i<=k->k<j->i<=b->b<j->ky N a k=ky N a b):Dn N (mirror a i j ((j-i)/2)) lo n:=by
 have e:∀k,ky N (mirror a i j _) k=ky N a k:=λk=>by
  rw[wC d]
  grind
 intro p q c f;rw[e,e];exact h p q c f
section
variable{prog:Program}{w:World}{A:Around}{SI:Shared->Prop}{α β:Type}
def nD{i j lo:Nat}{a st:SortSt}(c:Cmp prog w A SI (kindOf a) D N)(d:∀x∈(arrOf a).toList,D x)(r:CR a st lo)(hi:i<(arrOf a).size)(m:j<(arrOf a).size)
 (h:Q (some (decide (ky N (arrOf st) i<ky N (arrOf st) j))) st):(SC prog w A SI) (ltAt' i j) Q st:=by
 have f:=λx n=>d x ((Array.perm_iff_toList_perm.mp r.perm).mem_iff.mp n)
 have b:=r.size▸hi;have e:=r.size▸m;have g:=Array.getElem?_eq_getElem b;have l:=Array.getElem?_eq_getElem e;refine DG (r.kind▸c) g l (f _ ∅) (f _ ∅) ?_;rw[Br g,Br l]at h;exact h
def sJ{st:SortSt}(h:Q () (setArr st (mirror (arrOf st) i j ((j-i)/2)))):(SC prog w A SI) (reverseSlice' i j) Q st:=by
 exact bR h
abbrev cuL(lo:Nat)(x:Option (Option Nat)×Nat):StateT SortSt Sem (ForInStep (Option (Option Nat)×Nat)):=do
 match<-ltAt' (lo+x.2) (lo+x.2-1)with
 | some w=>if w=true then pure (.done (none,x.2))else pure (.yield (none,x.2+1))
 | _=>pure (.done (some none,x.2))
abbrev cu3(lo nrem n:Nat):StateT SortSt Sem (Option Nat):=do
 reverseSlice' lo (lo+n)
 let x<-forIn [n:nrem] (none,n) λ_ x=>cuL lo x
 match x.1 with
 | some r=>pure r
 | none=>pure (some x.2)
abbrev cuM(lo:Nat)(x:Option (Option Nat)×Nat×Nat):StateT SortSt Sem (ForInStep (Option (Option Nat)×Nat×Nat)):=do
 match<-ltAt' (lo+x.2.1) (lo+x.2.1-1)with
 | some w=>
   if w=true then(if x.2.2>0 then(do
    reverseSlice' (lo+x.2.1-(x.2.2+1)) (lo+x.2.1)
    pure (.yield (none,x.2.1+1,0)))else pure (.yield (none,x.2.1+1,0)))
   else(do
    match<-ltAt' (lo+x.2.1-1) (lo+x.2.1)with
    | some w=>if w=true then pure (.done (none,x.2.1,x.2.2))else pure (.yield (none,x.2.1+1,x.2.2+1))
    | _=>pure (.done (some none,x.2.1,x.2.2)))
 | _=>pure (.done (some none,x.2.1,x.2.2))
abbrev cu2(lo nrem n:Nat):StateT SortSt Sem (Option Nat):=do
 rule "list.sort.descending-run"
 let x<-forIn [n+1:nrem] (none,n+1,0) λ_ x=>cuM lo x
 match x.1 with
 | some r=>pure r
 | none=>
   if x.2.2>0 then(do
    reverseSlice' (lo+x.2.1-(x.2.2+1)) (lo+x.2.1)
    cu3 lo nrem x.2.1)else cu3 lo nrem x.2.1
set_option smartUnfolding false in
def Ho(lo nrem:Nat):countRun' lo nrem=(do
 let x<-forIn [1:nrem] (none,1) λ_ x=>cuL lo x
 match x.1 with
 | some r=>pure r
 | none=>
   if(x.2==nrem)=true then pure (some x.2)
   else if x.2>1 then(do
    match<-ltAt' lo (lo+x.2-1)with
    | some w=>if w=true then pure (some x.2)else(do
      reverseSlice' lo (lo+x.2)
      cu2 lo nrem x.2)
    | _=>pure none)else cu2 lo nrem x.2):=by
 rw[countRun'_eq];rfl
variable{D:Keyed->Prop}{N:Keyed->Nat}{lo nrem n j:Nat}{Q:Option Nat->SortSt->Prop}{st st2:SortSt}
def Bs{q:Option _}{R:ForInStep _->SortSt->Prop}(c:Cmp prog w A SI (kindOf st) D N)(d:∀x∈(arrOf st).toList,D x)(r:CR st st2 lo)(e:lo+nrem<=(arrOf st).size)(f:1<=j)(g:j<nrem)
 (a:ky N (arrOf st2) (lo+j)<ky N (arrOf st2) (lo+j-1)->R (.done (none,j)) st2) (b: ¬ ky N (arrOf st2) (lo+j)<ky N (arrOf st2) (lo+j-1)->R (.yield (none,j+1)) st2):(SC prog w A SI) (cuL lo (q,j)) R st2:=by
 refine ap (nD c d r ⋯ ⋯ ?_);dsimp only;by_cases q:ky N (arrOf st2) (lo+j)<ky N (arrOf st2) (lo+j-1)
 .rw[Zf q,if_pos rfl];exact ar (a q)
 .rw[Zh q,if_neg ∅];exact ar (b q)
def Bt(c:Cmp prog w A SI (kindOf st) D N)(d:∀x∈(arrOf st).toList,D x)(s:lo+nrem<=(arrOf st).size)(h:∀n a,CR st a lo->1<=n->n<=nrem->Up N (arrOf a) lo n->Q (some n) a)
 (r:CR st st2 lo) (n1:1<=n) (o:n<=nrem) (u:Dn N (arrOf st2) lo n):(SC prog w A SI) (cu3 lo nrem n) Q st2:=by
 refine ap (sJ ?_);have v:=r.rev (j:=lo+n) (Zi _) (by rw[r.size];lia);have g:=u.rev (by rw[r.size];lia);refine ap (bL (bu (Q:=λx a=>CR st a lo/\∃n,x=(none,n)/\1<=n/\n<=nrem/\Up N (arrOf a) lo n)
  (λj x a=>CR st a lo/\x=(none,j)/\Up N (arrOf a) lo j) o %[v,rfl|g] ?_ ?_) ?_)
 .intro j x e i p %[f,rfl|b];have l:=Yf n1 i;exact Bs c d f s l p (λ_=>%[f,j,rfl,l,Yd p|b]) λq=>%[f,rfl|b.step l q]
 .intro x e %[f,rfl|b];exact%[f,nrem,ρ,Yf n1 o,Zi _|b]
 .intro x e %[f,m,rfl,y,m2|b];exact ar (h m e f y m2 b)
def Gd{q:Option (Option Nat)}{k:Nat}{R:ForInStep (Option (Option Nat)×Nat×Nat)->SortSt->Prop}(c:Cmp prog w A SI (kindOf st) D N)(d:∀x∈(arrOf st).toList,D x)(r:CR st st2 lo)(B:lo+nrem<=(arrOf st).size)(v:k+1<=j)(C:j<nrem)
 (o:Dn N (arrOf st2) lo j) (p:∀i a,lo+j-(k+1)<=i->i<lo+j->lo+j-(k+1)<=a->a<lo+j->ky N (arrOf st2) i=ky N (arrOf st2) a)
 (y:R (.done (none,j,k)) st2) (g:∀k st2,CR st st2 lo->k<=j->Dn N (arrOf st2) lo (j+1)->(∀i a,lo+(j+1) -(k+1)<=i->i<lo+(j+1)->lo+(j+1) -(k+1)<=a->a<lo+(j+1)->ky N (arrOf st2) i=ky N (arrOf st2) a)->R (.yield (none,j+1,k)) st2):(SC prog w A SI) (cuM lo (q,j,k)) R st2:=by
 have one:∀st,∀i a,lo+(j+1) -(0+1)<=i->i<lo+(j+1)->lo+(j+1) -(0+1)<=a->a<lo+(j+1)->ky N (arrOf st) i=ky N (arrOf st) a:=λst i a h l z s=>by rw[show i=a by lia]
 refine ap (nD c d r ⋯ ⋯ ?_);dsimp only;by_cases m:ky N (arrOf st2) (lo+j)<ky N (arrOf st2) (lo+j-1)
 .rw[Zf m,if_pos rfl];have b:=o.step ⋯ (Yd m);by_cases f:k>0
  .rw[if_pos f];exact ap (sJ (ar (g 0 _ (r.rev ⋯ (by rw[r.size];lia)) (Xd _) (b.same (by rw[r.size];lia) p) (one _))))
  .rw[if_neg f];exact ar (g 0 _ r (Xd _) b (one _))
 .rw[Zh m,if_neg ∅];refine ap (nD c d r ⋯ ⋯ ?_);dsimp only;by_cases u:ky N (arrOf st2) (lo+j-1)<ky N (arrOf st2) (lo+j)
  .rw[Zf u,if_pos rfl];exact ar y
  .rw[Zh u,if_neg ∅];have all:∀i,lo+j-(k+1)<=i->i<lo+(j+1)->ky N (arrOf st2) i=ky N (arrOf st2) (lo+j-1):=λi h l=>by
    by_cases e:i=lo+j
    .lia
    .exact p _ _ h ⋯ ⋯ ⋯
   exact ar (g (k+1) _ r v (o.step ⋯ ⋯) λi a h l z s=>(all i ⋯ l).trans (all a ⋯ s).symm)
def Bu(c:Cmp prog w A SI (kindOf st) D N)(d:∀x∈(arrOf st).toList,D x)(p:lo+nrem<=(arrOf st).size)(h:∀n a,CR st a lo->1<=n->n<=nrem->Up N (arrOf a) lo n->Q (some n) a)
 (r:CR st st2 lo) (B:n<nrem) (s:Dn N (arrOf st2) lo (n+1)):(SC prog w A SI) (cu2 lo nrem n) Q st2:=by
 refine ap (gJ ?_);refine ap (bL (bu (Q:=λx a=>CR st a lo/\∃m q,x=(none,m,q)/\q+1<=m/\m<=nrem/\Dn N (arrOf a) lo m/\(∀k f,lo+m-(q+1)<=k->k<lo+m->lo+m-(q+1)<=f->f<lo+m->ky N (arrOf a) k=ky N (arrOf a) f))
  (λj x a=>CR st a lo/\∃q,x=(none,j,q)/\q+1<=j/\Dn N (arrOf a) lo j/\(∀k f,lo+j-(q+1)<=k->k<lo+j->lo+j-(q+1)<=f->f<lo+j->ky N (arrOf a) k=ky N (arrOf a) f)) B %[r,0,rfl,Nat.le_add_left _ _,s|λk f H I J L=>by rw[show k=f by lia]] ?_ ?_) ?_)
 .intro j x l C v %[g,q,rfl,i,b|e];exact Gd c d g p i v b e %[g,j,q,rfl,i,Yd v,b|e] λk st2 r E s G=>%[r,k,rfl,X7 E,s|G]
 .intro x l %[g,q,rfl,i,b|e];exact%[g,nrem,q,ρ,i,Zi _,b|e]
 .intro x l %[g,m,q,rfl,u,y,b|e];have z:=Yf (Nat.le_add_left _ _) u;dsimp only;by_cases o:q>0
  .rw[if_pos o];exact ap (sJ (Bt c d p h (g.rev ⋯ (by rw[g.size];lia)) z y (b.same (by rw[g.size];lia) e)))
  .rw[if_neg o];exact Bt c d p h g z y b
def lO{lo nrem:Nat}{st:SortSt}(c:Cmp prog w A SI (kindOf st) D N)(d:∀x∈(arrOf st).toList,D x)(r:1<=nrem)(g:lo+nrem<=(arrOf st).size)
 (h:∀n a,CR st a lo->1<=n->n<=nrem->Up N (arrOf a) lo n->Q (some n) a):(SC prog w A SI) (countRun' lo nrem) Q st:=by
 rw[Ho];refine ap (bL (bu (Q:=λx a=>a=st/\∃n,x=(none,n)/\1<=n/\n<=nrem/\Up N (arrOf st) lo n/\(n=nrem\/ky N (arrOf st) (lo+n)<ky N (arrOf st) (lo+n-1)))
  (λj x a=>a=st/\x=(none,j)/\Up N (arrOf st) lo j) r %[rfl,rfl|Up.one _ _ _] ?_ ?_) ?_)
 .intro j x a e f %[rfl,rfl|up];exact Bs c d (CR.refl _ lo) g e f (λq=>%[rfl,j,rfl,e,Yd f,up|.inr q]) λq=>%[rfl,rfl|up.step e q]
 .intro x a %[rfl,rfl|up];exact%[ρ,nrem,ρ,r,Zi _,up|.inl rfl]
 .intro x b %[G,n,rfl,n1,s,up|H];subst G;dsimp only;by_cases l:n=nrem
  .rw[if_pos (by simp[l])];exact ar (h n b (CR.refl _ _) n1 s up)
  rw[if_neg (by simp[l])];have u:n<nrem:=by lia
  by_cases v:n>1
  .rw[if_pos v];refine ap (nD c d (CR.refl _ lo) ⋯ ⋯ ?_);dsimp only;by_cases y:ky N (arrOf b) lo<ky N (arrOf b) (lo+n-1)
   .rw[Zf y,if_pos rfl];exact ar (h n b (CR.refl _ _) n1 s up)
   .rw[Zh y,if_neg ∅];have all:∀i,i<n->ky N (arrOf b) (lo+i)=ky N (arrOf b) lo:=λi hi=>by
     have z:=up 0 i (Xd _) hi;have B:=up i (n-1) ⋯ ⋯;rw[show lo+(n-1)=lo+n-1 by lia]at B;rw[add_zero]at z
     lia
    have m:Dn N (arrOf b) lo n:=λi j o f=>by rw[all i ⋯,all j f];exact Zi _
    exact ap (sJ (Bu c d g h ((CR.refl b lo).rev (Zi _) ⋯) u ((m.step n1 ⋯).same ⋯ (λk p z B I J=>by
     have C:=all (k-lo) ⋯;have E:=all (p-lo) ⋯;rw[show lo+(k-lo)=k by lia]at C;rw[show lo+(p-lo)=p by lia]at E;rw[C,E]))))
  .rw[if_neg v];refine Bu c d g h (CR.refl b lo) u (Dn.step (λi j o f=>?_) n1 (Yd (H.resolve_left l)));rw[show i=j by lia];exact Zi _
end
section
variable{prog:Program}{w:World}{A:Around}{SI:Shared->Prop}{α β:Type}
def CR.move{a st:SortSt}{lo k l:Nat}(h:CR a st lo)(b:lo+k<(arrOf st).size)(c:l<=k):CR a (setArr st (bubble (arrOf st) (lo+k) (lo+k-(lo+l)))) lo:=
 %[h.kind,h.pend,h.fail,(bubble_perm _ _ _).trans h.perm|λi hi=>by
  rw[getElem?_bubble b _ ⋯,if_neg ⋯,if_neg ⋯];exact h.same i hi]
def xE(f:b<a.size)(g:d<=b)(k:Nat):ky N (bubble a b d) k=if k=b-d then ky N a b else if b-d<k/\k<=b then ky N a (k-1)else ky N a k:=by
 by_cases c:k=b-d
 .rw[if_pos c];exact uv (by rw[getElem?_bubble f d g,if_pos c])
 .rw[if_neg c];by_cases e:b-d<k/\k<=b
  .rw[if_pos e];exact uv (by rw[getElem?_bubble f d g,if_neg c,if_pos e])
  .rw[if_neg e];exact uv (by rw[getElem?_bubble f d g,if_neg c,if_neg e])
def qC{lo n ok:Nat}{f st:SortSt}(c:Cmp prog w A SI (kindOf f) D N)(d:∀x∈(arrOf f).toList,D x)(r:CR f st lo)(O:1<=ok)(T:ok<=n)(hs:lo+n<=(arrOf f).size)(up:Up N (arrOf st) lo ok)
 (h:∀a,CR f a lo->Up N (arrOf a) lo n->Q true a):(SC prog w A SI) (binarySort' lo n ok) Q st:=by
 rw[binarySort'_eq];rw[show max ok 1=ok by lia];refine ap (bL (bu (Q:=λx a=>x=(none,())/\CR f a lo/\Up N (arrOf a) lo n) (λk x a=>x=(none,())/\CR f a lo/\Up N (arrOf a) lo k) T %[rfl,r|up] ?_ ?_) ?_)
 .intro k x b U hk %[rfl,m|up1];dsimp only;have pv:∀i,i<k->lo+i<(arrOf f).size:=λi hi=>by lia
  refine ap (bL (bu (Q:=λx a=>a=b/\∃l,x.1=none/\x.2.1=l/\l<=k/\(∀i,i<l->ky N (arrOf b) (lo+i)<=ky N (arrOf b) (lo+k))/\(∀i,l<=i->i<k->ky N (arrOf b) (lo+k)<ky N (arrOf b) (lo+i)))
   (λj x a=>a=b/\∃l q,x=(none,l,q)/\l<=q/\q<=k/\q-l<=k-j/\(∀i,i<l->ky N (arrOf b) (lo+i)<=ky N (arrOf b) (lo+k))/\(∀i,q<=i->i<k->ky N (arrOf b) (lo+k)<ky N (arrOf b) (lo+i))) (Xd _)
   %[rfl,0,k,rfl,⋯,⋯,⋯,λi hi=>absurd hi (X2 _)|λi O h2=>by lia] ?_ ?_) ?_)
  .intro j x g _ Y %[rfl,l,q,rfl,C,o,hm,s|u];dsimp only;by_cases v:l>=q
   .rw[if_pos v];have e:l=q:=by lia
    subst e;exact ar %[rfl,l,rfl,rfl,o,s|u]
   .rw[if_neg v];refine ap (nD c d m ⋯ ⋯ ?_);dsimp only;by_cases p:ky N (arrOf g) (lo+k)<ky N (arrOf g) (lo+(l+q)/2)
    .rw[Zf p,if_pos rfl];exact ar %[rfl,l,_,rfl,⋯,⋯,⋯,s|λi y B=>Zg p (up1 _ _ y B)]
    .rw[Zh p,if_neg ∅];exact ar %[rfl,_,q,rfl,⋯,⋯,⋯,λi y=>Yf (up1 i ((l+q)/2) ⋯ ⋯) ⋯|u]
  .intro x g %[rfl,l,q,rfl,C,o,hm,s|u];have e:l=q:=by lia
   subst e;exact%[ρ,l,ρ,ρ,o,s|u]
  .rintro⟨x1,x2,x3⟩ g ⟨e2,l,H,I,E,s,u⟩;subst e2;dsimp only at H I;subst H I;dsimp only;rw[moveDown'_eq];refine ap (bR (ar %[rfl,m.move (by rw[m.size];lia) E|?_]));have z:lo+k<(arrOf g).size:=by rw[m.size];lia
   intro i j G Y;rw[xE z ⋯,xE z ⋯];have ed:lo+k-(lo+k-(lo+x2))=lo+x2:=by lia
   rw[ed];by_cases y:lo+i=lo+x2
   .rw[if_pos y];by_cases B:lo+j=lo+x2
    .rw[if_pos B];exact Zi _
    .rw[if_neg B,if_pos ⋯];have:=u (j-1) ⋯ ⋯;rw[show lo+(j-1)=lo+j-1 by lia]at this
     lia
   .rw[if_neg y];by_cases J:lo+x2<lo+i/\lo+i<=lo+k
    .rw[if_pos J,if_neg ⋯,if_pos ⋯];have:=up1 (i-1) (j-1) ⋯ ⋯;rw[show lo+(j-1)=lo+j-1 by lia,show lo+(i-1)=lo+i-1 by lia]at this;exact this
    .rw[if_neg J];by_cases L:lo+j=lo+x2
     .rw[if_pos L];exact s i ⋯
     .rw[if_neg L];by_cases M:lo+x2<lo+j/\lo+j<=lo+k
      .rw[if_pos M];have:=up1 i (j-1) ⋯ ⋯;rw[show lo+(j-1)=lo+j-1 by lia]at this;exact this
      .rw[if_neg M];exact up1 i j G ⋯
 .intro x b %[rfl,m|up1];exact%[ρ,m|up1]
 .intro x b %[rfl,m|up1];exact ar (h b m up1)
def DH(h:Up N a 0 a.size):Srt N a.toList:=by
 refine List.pairwise_iff_getElem.mpr λi j hi b c=>?_
 have g:∀i hi,N a.toList[i]=ky N a (0+i):=λi hi=>(Br ∅).symm
 rw[g,g];exact h i j ⋯ (b)
def wD{st:SortSt}(c:Cmp prog w A SI (kindOf st) D N)(d:∀x∈(arrOf st).toList,D x)(G:1<=(arrOf st).size)(l:(arrOf st).size<64)(B:pendingOf st= #[])(H:failedOf st=none)
 (h:∀a,(arrOf a).toList.Perm (arrOf st).toList->Srt N (arrOf a).toList->failedOf a=none->Q () a):(SC prog w A SI) sortRuns' Q st:=by
 rw[sortRuns'_eq];refine ap (du ?_);dsimp only;have I:minRun' (arrOf st).size (arrOf st).size 0=(arrOf st).size:=by
  obtain⟨m,e⟩:∃m,(arrOf st).size=m+1:=%[_|(Nat.sub_add_cancel G).symm]
  rw[e]at l ⊢;rw[minRun'_succ,if_pos l,add_zero]
 rw[I];refine ap (bL (bu (Q:=λx a=>x=(none,(arrOf st).size)/\(arrOf a).toList.Perm (arrOf st).toList/\Srt N (arrOf a).toList/\failedOf a=none/\(pendingOf a).size=1)
  (λj x a=>(j=0/\x=(none,0)/\a=st)\/(x=(none,(arrOf st).size)/\(arrOf a).toList.Perm (arrOf st).toList/\Srt N (arrOf a).toList/\failedOf a=none/\(pendingOf a).size=1)) (Xd _) (.inl %[rfl,rfl|rfl]) ?_ ?_) ?_)
 .rintro j x f _ J (⟨rfl,rfl,rfl⟩|⟨rfl,ok⟩)
  .dsimp only;rw[if_neg ⋯];refine ap (lO c d ⋯ ⋯ λn g C n1 U o=>?_);dsimp only;have E:∀(b:SortSt) (n:Nat),n=(arrOf f).size->CR f b 0->Up N (arrOf b) 0 n->(pendingOf b).back? =none/\(arrOf b).toList.Perm (arrOf f).toList/\Srt N (arrOf b).toList/\failedOf b=none/\(pendingOf b).size=0:=λb n e r u=>by
    refine%[by rw[r.pend,B];rfl,Array.perm_iff_toList_perm.mp r.perm,DH (by rw[r.size,<-e];exact u),r.fail.trans H|by rw[r.pend,B];rfl]
   by_cases i:n<(arrOf f).size
   .rw[if_pos i];refine ap (gJ (ap (qC c d C n1 ⋯ ⋯ o λb L p=>?_)));rw[if_neg ∅];refine ap (du ?_);have%[q,s,v,y|z]:=E b _ ⋯ L p;rw[q];dsimp only;refine ap (bR (ar (.inr %[?_,s,v,y|?_])))
    .rw[zero_add,Nat.sub_zero,Nat.min_self]
    .show((pendingOf b).push _).size=1;rw[Xh,z]
   .rw[if_neg i];refine ap (du ?_);have%[q,s,v,y|z]:=E g _ ⋯ C o;rw[q];dsimp only;refine ap (bR (ar (.inr %[?_,s,v,y|?_])))
    .rw[zero_add,show n=(arrOf f).size by lia]
    .rw[Xh,z]
  .dsimp only;rw[if_pos (Zi _)];exact ar %[rfl|ok]
 .rintro x f (⟨e,_⟩|ok)
  .lia
  .exact ok
 .intro x f %[rfl,M,O,T|Y];dsimp only;refine ap (bL (bu (Q:=λx a=>x=(none,())/\a=f) (λj x a=>x=(none,())/\a=f) (Xd _) %[rfl|rfl] ?_ ?_) ?_)
  .intro j x g _ J %[rfl|rfl];refine ap (du ?_);rw[if_pos ⋯];exact ar %[rfl|rfl]
  .rintro x g e;exact e
  .intro x g %[rfl|rfl];exact ar (h g M O T)
end
abbrev dv:List (List Keyed×Nat)->Nat->List (Nat×Nat×Nat)
 |[],_=>[]
 |(r,p)::t,o=>(o,~~~r,p)::dv t (o+ ~~~r)
abbrev bv(a:List (List Keyed×Nat)):List Keyed:=(a\1).flatten
def ce(a b:List _):bv (a++b)=bv a++bv b:=by simp[bv]
def a7(a:List Keyed×Nat)(b:List _):bv (a::b)=a.1++bv b:=by simp[bv]
def dj:∀a b o,dv (a++b) o=dv a o++dv b (o+ ~~~(bv a))
 |[],b,o=>by simp[dv,bv]
 |(r,p)::t,b,o=>by
  rw[cons_append,dv,dv,dj t b,a7,Z9,cons_append,Nat.add_assoc]
def eD:∀a o,~~~(dv a o)= ~~~a
 |[],_=>rfl
 |(r,p)::t,o=>by rw[dv,Zr,Zr,eD t]
structure RI (st0 st:SortSt) (rp:List (List Keyed×Nat)) (rest:List Keyed):Prop where
 kind:kindOf st=kindOf st0
 fail:failedOf st=none
 perm:(arrOf st).toList.Perm (arrOf st0).toList
 arr:(arrOf st).toList=bv rp++rest
 pend:(pendingOf st).toList=dv rp 0
 runs:∀r∈rp,r.1≠[]
def RI.size{a st:SortSt}{b:List _}{rest:List Keyed}(h:RI a st b rest):(arrOf st).size=(arrOf a).size:=by
 rw[<-Zb,<-Zb,h.perm.length_eq]
def RI.psize{a st:SortSt}{b:List _}{rest:List Keyed}(h:RI a st b rest):(pendingOf st).size= ~~~b:=by
 rw[<-Zb,h.pend,eD]
section
variable{prog:Program}{w:World}{A:Around}{SI:Shared->Prop}{α β:Type}
def jU{D:Keyed->Prop}{N:Keyed->Nat}{f st:SortSt}{a b:List _}{X Y:List Keyed}{p m i:Nat}{rest:List Keyed}{Q:Bool->SortSt->Prop}(c:Cmp prog w A SI (kindOf f) D N)(d:∀x∈(arrOf f).toList,D x)
 (h:RI f st (a++(X,p)::(Y,m)::b) rest) (hi:i= ~~~a) (k:∀Z g,RI f g (a++(Z,p)::b) rest-> ~~~Z= ~~~X+ ~~~Y->Q true g):(SC prog w A SI) (mergeAt' i) Q st:=by
 subst hi;have e:=h.arr;rw[ce,a7,a7]at e;have u:(arrOf st).toList=bv a++X++Y++(bv b++rest):=by rw[e];simp
 have B:=λx n=>d x (h.perm.mem_iff.mp n)
 have l:=h.pend;rw[dj,dv,dv,zero_add]at l;have pl:=eD a 0;have C:=by
  have:(pendingOf st).toList[~~~a]?∣(~~~(bv a),~~~X,p):=by
   rw[l,Ya ⋯,pl,sub_self];rfl
  simpa using this
 have E:=by
  have:(pendingOf st).toList[~~~a+1]?∣(~~~(bv a)+ ~~~X,~~~Y,m):=by
   rw[l,Ya ⋯,pl,Nat.add_sub_cancel_left];rfl
  simpa using this
 have v:=h.runs (X,p) ∅;refine wB (h.kind▸c) u v (h.runs (Y,m) ∅) B C E h.fail λZ g y z G H o=>?_
 have s: ~~~Z= ~~~X+ ~~~Y:=by rw[y.length_eq,Z9]
 refine k Z g %[G.trans h.kind,H,?_,?_,?_|λr j=>?_] s
 .refine List.Perm.trans ?_ h.perm;rw[z,u];rw[show bv a++X++Y++(bv b++rest)=bv a++(X++Y) ++(bv b++rest) by simp];exact List.Perm.append_right _ (List.Perm.append_left _ y)
 .rw[z,ce,a7];simp
 .rw[o,Array.toList_eraseIdxIfInBounds,Array.toList_setIfInBounds,l,dj,dv,zero_add];rw[List.set_append_right _ _ ⋯,pl,sub_self,List.set_cons_zero];rw[List.eraseIdx_append_of_length_le ⋯,pl,Nat.add_sub_cancel_left,List.eraseIdx_cons_succ,List.eraseIdx_cons_zero];rw[s,Nat.add_assoc]
 .rcases Xl j with j|j
  .exact h.runs r (Ys _ j)
  .rcases mem_cons.mp j with rfl|j
   .intro q;have n:=length_pos_iff.mpr v;dsimp only at q n;rw[q,List.length_nil]at s
    lia
   .exact h.runs r (by simp[j])
def CR.toRI{d b a:SortSt}{f:List _}{rest:List Keyed}{lo n:Nat}(h:RI d b f rest)(r:CR b a lo)(j: ~~~(bv f)=lo)(o:lo+n<=(arrOf b).size):
 ∃R c,RI d a f (R++c)/\ ~~~R=n:=by
 have l:=r.size;refine%[((arrOf a).toList.drop lo).take n,(arrOf a).toList.drop (lo+n),%[r.kind.trans h.kind,r.fail.trans h.fail,(Array.perm_iff_toList_perm.mp r.perm).trans h.perm,?_,r.pend▸h.pend|h.runs]|?_]
 .have e:(arrOf a).toList.take lo=bv f:=by
   have m:(arrOf a).toList.take lo=(arrOf b).toList.take lo:=by
    apply ext_getElem?;intro i;rw[List.getElem?_take,List.getElem?_take]
    split
    .rename_i hi
     have:=r.same i hi;simpa using this
    .rfl
   rw[m,h.arr,Xa ⋯,Zn ⋯]
  rw[<-e];have g:=X9 n ((arrOf a).toList.drop lo);rw[drop_drop]at g;rw[g,(X9 lo (arrOf a).toList)]
 grind
def lP{α:Type}(f:α->α):∀l x,(l++[x]).modify l.length f=l++[f x]
 |[],x=>rfl
 | y::l,x=>by
   rw[cons_append,Zr,List.modify_succ_cons,lP f l x,cons_append]
def jV{α:Type}(l:List α):l=[]\/∃a x,l=a++[x]:=by
 by_cases h:l=[]
 .exact .inl h
 .exact .inr %[l.dropLast,l.getLast h|(List.dropLast_concat_getLast h).symm]
def zt{α:Type}(l:List α)(h:1< ~~~l):∃a x y,l=a++x::y::[]:=by
 rcases jV l with rfl|⟨a,y,rfl⟩
 .simp at h
 .rcases jV a with rfl|⟨b,x,rfl⟩
  .simp at h
  .exact%[b,x,y|by simp]
def RI.pushed{a st:SortSt}{c:List _}{R rest:List Keyed}{lo m:Nat}(h:RI a st c (R++rest))(d: ~~~(bv c)=lo)(e: ~~~R=m)(f:1<=m):RI a (setPending st ((pendingOf st).push (lo,m,0))) (c++[(R,0)]) rest:=by
 refine%[h.kind,h.fail,h.perm,?_,?_|λr b=>?_]
 .rw[h.arr,ce,a7];simp[bv]
 .rw[toList_push,h.pend,dj,dv,dv,zero_add,d,e]
 .rcases Xl b with b|b
  .exact h.runs r b
  .rw[Xm b]
   grind
def RI.powered{a st:SortSt}{b:List _}{rest:List Keyed}{X:List Keyed}{p:Nat}(d:Nat)(h:RI a st (b++[(X,p)]) rest):RI a (setPending st ((pendingOf st).modify ((pendingOf st).size-1) λx=>(x.fst,x.2.fst,d))) (b++[(X,d)]) rest:=by
 refine%[h.kind,h.fail,h.perm,?_,?_|λr c=>?_]
 .rw[h.arr,ce,ce,a7,a7]
 .rw[Array.toList_modify,h.psize,h.pend,dj,dj];rw[show(b++[(X,p)]).length-1= ~~~(dv b 0) by rw[eD];simp];show List.modify (dv b 0++[_]) _ _=_;rw[lP];rfl
 .rcases Xl c with c|c
  .exact h.runs r (Ys _ c)
  .rw[Xm c];exact h.runs (X,p) ∅
abbrev srP(lo n:Nat):StateT SortSt Sem (ForInStep (Option Unit×Nat)):=do
 modify λs=>setPending s ((pendingOf s).push (lo,n,0))
 pure (.yield (none,lo+n))
abbrev sr1(size lo n:Nat):StateT SortSt Sem (ForInStep (Option Unit×Nat)):=do
 let s<-get
 match(pendingOf s).back? with
 | some (a,n1,_)=>do
   let x<-forIn [0:size] (none,()) λ_ _=>(do
    let s<-get
    match if(pendingOf s).size>1 then(pendingOf s)[(pendingOf s).size-2]? else none with
    | some (_,_,o)=>
      if o<=power' size (2*a+n1) (2*a+n1+n1+n) size then pure (.done (none,()))
      else(do
       let b<-mergeAt' ((pendingOf s).size-2)
       if(!b)=true then pure (.done (some (),()))else pure (.yield (none,())))
    | _=>pure (.done (none,())))
   match x.1 with
   | some r=>pure (.done (some r,lo))
   | none=>do
     modify λs=>setPending s ((pendingOf s).modify ((pendingOf s).size-1) λx=>(x.1,x.2.1,power' size (2*a+n1) (2*a+n1+n1+n) size))
     srP lo n
 | _=>srP lo n
abbrev srO(size:Nat)(x:Option Unit×Nat):StateT SortSt Sem (ForInStep (Option Unit×Nat)):=
 if x.2>=size then pure (.done (none,x.2))
 else do
  match<-countRun' x.2 (size-x.2)with
  | some n=>
    if n<minRun' size size 0 then(do
     rule "list.sort.binary-insertion"
     let b<-binarySort' x.2 (min (size-x.2) (minRun' size size 0)) n
     if(!b)=true then pure (.done (some (),x.2))else sr1 size x.2 (min (size-x.2) (minRun' size size 0)))
    else sr1 size x.2 n
  | _=>pure (.done (some (),x.2))
abbrev srT(size:Nat)(x:Option Unit×Nat):StateT SortSt Sem Unit:=
 match x.1 with
 | some r=>pure r
 | none=>do
   let x<-forIn [0:size] (none,()) λ_ _=>(do
    let s<-get
    if(pendingOf s).size<=1 then pure (.done (none,()))
    else(do
     let b<-mergeAt' (if Option.any (λx=>decide (x<(pendingOf s)[(pendingOf s).size-2+1]?.elim 0 λx=>x.2.1)) (if(pendingOf s).size-2>0 then Option.map (λx=>x.2.1) (pendingOf s)[(pendingOf s).size-2-1]? else none)=true then(pendingOf s).size-2-1 else(pendingOf s).size-2)
     if(!b)=true then pure (.done (some (),()))else pure (.yield (none,()))))
   match x.1 with
   | some r=>pure r
   | none=>pure ()
set_option smartUnfolding false in
def Hq:sortRuns'=(do
 let s<-get
 let x<-forIn [0:(arrOf s).size] (none,0) λ_ x=>srO (arrOf s).size x
 srT (arrOf s).size x):=by
 rw[sortRuns'_eq];rfl
def Bv{D:Keyed->Prop}{N:Keyed->Nat}{st m:SortSt}{v:List (List Keyed×Nat)}{R e:List Keyed}{lo n:Nat}{T:ForInStep (Option Unit×Nat)->SortSt->Prop}(c:Cmp prog w A SI (kindOf st) D N)(d:∀x∈(arrOf st).toList,D x)(o:RI st m v (R++e))(q: ~~~(bv v)=lo)(p: ~~~R=n)(J:1<=n)
 (L:∀a h,RI st h a e-> ~~~(bv a)=lo+n->T (.yield (none,lo+n)) h):(SC prog w A SI) (sr1 (arrOf st).size lo n) T m:=by
 refine ap (du ?_);rcases jV v with y|⟨O,⟨U,Y⟩,y⟩
 .subst y;have B:(pendingOf m).back? =none:=by
   have:=o.psize;simp[Array.back?,this]
  rw[B];exact ap (bR (ar (L _ _ (o.pushed q p J) (by rw[ce,Z9,q,a7];simp[bv,p]))))
 .have B:(pendingOf m).back?∣(~~~(bv O),~~~U,Y):=by
   rw[<-Array.getLast?_toList,o.pend,y,dj,dv,dv,zero_add];simp
  rw[B];refine ap (bL (bu (Q:=λx h=>x=(none,())/\∃a,RI st h a (R++e)/\a≠[]/\ ~~~(bv a)=lo) (λj x h=>x=(none,())/\∃a,RI st h a _/\a≠[]/\ ~~~(bv a)=lo) (Xd _) %[rfl,v,o,by rw[y];simp|q] ?_ ?_) ?_)
  .intro j5 x f _ _ %[rfl,l,b,i|g];refine ap (du ?_);by_cases C:(pendingOf f).size>1
   .have%[r,%[z|E],%[Y5|q5]|rfl]:=zt l (b.psize▸C);have s:(pendingOf f).size-2= ~~~r:=by rw[b.psize];simp
    have G:(pendingOf f)[(pendingOf f).size-2]?∣(~~~(bv r),~~~z,E):=by
     have:(pendingOf f).toList[~~~r]?∣(~~~(bv r),~~~z,E):=by
      rw[b.pend,dj,Ya (by rw[eD];lia),eD,sub_self,zero_add];rfl
     rw[s];simpa using this
    rw[if_pos C,G];dsimp only
    split
    .exact ar %[rfl,_,b,i|g]
    .refine ap (jU c d b s λZ5 ab H I=>ar %[rfl,_,H,by simp|?_]);rw[<-g,ce,ce,a7,a7,a7];simp[bv,I]
   .rw[if_neg C];exact ar %[rfl,_,b,i|g]
  .intro x f %[rfl,l,b,i|g];exact%[ρ,l,b,i|g]
  .intro x f %[rfl,l,b,i|g];dsimp only;have%[r,%[z|E]|rfl]:=(jV l).resolve_left i;refine ap (bR (ap (bR (ar ?_))));have u:∀M,~~~(bv (r++[(z,M)]))=lo:=λM=>by
    rw[<-g,ce,ce,a7,a7]
   exact L _ _ ((b.powered _).pushed (u _) p J) (by rw[ce,Z9,u,a7];simp[bv,p])
def ux{D:Keyed->Prop}{N:Keyed->Nat}{Q:Unit->SortSt->Prop}{st:SortSt}(c:Cmp prog w A SI (kindOf st) D N)(d:∀x∈(arrOf st).toList,D x)(h2:1<=(arrOf st).size)(hp:pendingOf st= #[])(hf:failedOf st=none)
 (h:∀f,(arrOf f).toList.Perm (arrOf st).toList->failedOf f=none->Q () f):(SC prog w A SI) sortRuns' Q st:=by
 rw[Hq];refine ap (du ?_);refine ap (bL (bu (Q:=λx f=>∃e lo,x=(none,lo)/\RI st f e [])
  (λj x f=>∃e rest lo,x=(none,lo)/\RI st f e rest/\ ~~~(bv e)=lo/\j<=lo/\lo<=(arrOf st).size) (Xd _) %[[],_,0,rfl,%[rfl,hf,List.Perm.refl _,rfl,by rw[hp];rfl|λ_ h=>(nomatch h)],rfl,Zi _|Xd _] ?_ ?_) ?_)
 .intro j x u _ hj %[e,rest,lo,rfl,g,m,G|H];unfold srO;dsimp only;have s1:=g.size;by_cases B:lo>=(arrOf st).size
  .rw[if_pos B];have I:rest=[]:=by
    have:=congrArg List.length g.arr;rw[Z9,Zb,s1,m]at this;exact length_eq_zero_iff.mp ⋯
   subst I;exact ar %[e,lo,rfl|g]
  rw[if_neg B];have d1:∀x∈(arrOf u).toList,D x:=λx hx=>d x (g.perm.mem_iff.mp hx)
  have c1:Cmp prog w A SI (kindOf u) D N:=g.kind▸c;refine ap (lO c1 d1 ⋯ ⋯ λn o r2 n1 n2 J=>?_);dsimp only;by_cases v:n<minRun' (arrOf st).size (arrOf st).size 0
  .rw[if_pos v];refine ap (gJ (ap (qC c1 d1 r2 n1 ⋯ ⋯ J λL r3 ab=>?_)));rw[if_neg ∅];have%[R,y,s|z]:=CR.toRI (n:=min ((arrOf st).size-lo) (minRun' (arrOf st).size (arrOf st).size 0)) g r3 m ⋯;exact Bv c d s m z ⋯ λM f r l=>%[_,_,_,rfl,r,l,⋯|⋯]
  .rw[if_neg v];have%[R,y,s|z]:=CR.toRI (n:=n) g r2 m ⋯;exact Bv c d s m z ⋯ λM f r l=>%[_,_,_,rfl,r,l,⋯|⋯]
 .intro x u %[e,rest,lo,rfl,g,m,G|H];have I:rest=[]:=by
   have:=congrArg List.length g.arr;rw[Z9,Zb,g.size,m]at this;exact length_eq_zero_iff.mp ⋯
  subst I;exact%[e,lo,ρ|g]
 .intro x u %[e,lo,rfl|g];unfold srT;dsimp only;have few:∀(e:List (List Keyed×Nat)),(∀r∈e,r.1≠[])-> ~~~e<= ~~~(bv e):=by
   intro e
   induction e with
   | nil=>intro _;exact Xd _
   | cons r t ih=>
     intro hr;rw[a7,Zr,Z9];have:=length_pos_iff.mpr (hr r ∅);have:=ih λq hq=>hr q (by simp[hq])
     lia
  have l1: ~~~e<=(arrOf st).size:=by
   have a1:=few e g.runs;have a2:=congrArg List.length g.arr;rw[Zx,Zb,g.size]at a2
   lia
  refine ap (bL (bu (Q:=λx f=>x=(none,())/\∃e,RI st f e []/\ ~~~e<=1) (λj x f=>x=(none,())/\∃e,RI st f e []/\ ~~~e<=max 1 ((arrOf st).size-j)) (Xd _) %[rfl,e,g|⋯] ?_ ?_) ?_)
  .intro j x o _ hj %[rfl,e,g|O];refine ap (du ?_);by_cases T:(pendingOf o).size<=1
   .rw[if_pos T];exact ar %[rfl,e,g|g.psize▸T]
   rw[if_neg T];have ac:1< ~~~e:=by rw[<-g.psize];lia
   generalize C:(if Option.any _ _=true then(pendingOf o).size-2-1 else(pendingOf o).size-2)=i
   have hi:i+1< ~~~e:=by
    have E:∀(c:Prop) [Decidable c] (n:Nat),2<=n->(if c then n-2-1 else n-2) +1<n:=λc _ n hn=>by lia
    rw[<-C,<-g.psize];exact E _ _ ⋯
   clear C;obtain⟨a,X,p,Y,q,b,rfl,U⟩:∃a X p Y q b,e=a++(X,p)::(Y,q)::b/\i= ~~~a:=by
    refine%[e.take i,e[i].1,e[i].2,e[i+1].1,e[i+1].2,e.drop (i+2),?_|by rw[Yk];lia];have t1:=(X9 i e).symm;rw[List.drop_eq_getElem_cons ⋯,List.drop_eq_getElem_cons ⋯]at t1;exact t1
   refine ap (jU c d g U λZ L s zl=>?_);rw[if_neg ∅];refine ar %[rfl,_,s|?_];simp only[Z9,Zr]at O hi ⊢
   lia
  .intro x o %[rfl,e,g|O];exact%[ρ,e,g|⋯]
  .intro x o %[rfl,e,g|O];exact ar (h o g.perm g.fail)
def sc_sortRuns{D:Keyed->Prop}{N:Keyed->Nat}{Q:Unit->SortSt->Prop}{st:SortSt}(c:Cmp prog w A SI (kindOf st) D N)(d:∀x∈(arrOf st).toList,D x)(g:1<=(arrOf st).size)(i:pendingOf st= #[])(j:failedOf st=none)
 (h:∀e,(arrOf e).toList.Perm (arrOf st).toList->((arrOf st).size<64->Srt N (arrOf e).toList)->failedOf e=none->Q () e):(SC prog w A SI) sortRuns' Q st:=by
 by_cases f:(arrOf st).size<64
 .exact wD c d g f i j λe a b=>h e a λ_=>b
 .exact ux c d g i j λe a=>h e a λl=>absurd l f
end
end _S
namespace _T
open PySem PySem.SetTable
def uy:∀k,∃q,5^(2^k)=1+2^(k+2)*(2*q+1)
 | 0=>%[0|rfl]
 | k+1=>by
   have%[q|e]:=uy k;refine%[q+2^k*(2*q+1)*(2*q+1)|?_];rw[pow_succ 2 k,Nat.pow_mul,e]
   grind
abbrev step(M i:Nat):Nat:=(i*5+1)%M
abbrev iter(M:Nat):Nat->Nat->Nat
 | 0,i=>i
 | n+1,i=>step M (iter M n i)
abbrev geo:Nat->Nat
 | 0=>0
 | n+1=>geo n*5+1
def sK:∀n,4*geo n+1=5^n
 | 0=>rfl
 | n+1=>by
   have:=sK n;rw[pow_succ,<-this,geo]
   lia
def jW(M:Nat)(i:Nat):∀n,iter M n i%M=(5^n*i+geo n)%M
 | 0=>by simp[iter,geo]
 | n+1=>by
   rw[iter,step,Nat.mod_mod,geo,pow_succ];rw[add_mod,Nat.mul_mod,(jW M i n),<-Nat.mul_mod,<-add_mod]
   congr 1
   grind
def nE:∀(k i e:Nat),e<2^k->∃n,n<2^k/\iter (2^k) n i%2^k=e
 | 0,i,e,c=>%[0,by simp|by simp at c;subst c;simp[Nat.mod_one]]
 | k+1,i,e,c=>by
   have%[n,N|w]:=nE k i (e%2^k) (mod_lt _ (Nat.two_pow_pos k));have d:∀n,iter (2^(k+1)) n i%2^(k+1)%2^k=iter (2^k) n i%2^k:=λn=>by
    rw[Nat.mod_mod_of_dvd _ (Nat.pow_dvd_pow 2 (Ye k)),<-Nat.mod_mod_of_dvd _ (Nat.pow_dvd_pow 2 (Ye k)),jW,Nat.mod_mod_of_dvd _ (Nat.pow_dvd_pow 2 (Ye k)),jW]
   have%[q|b]:=uy k;have y:geo (2^k)=2^k*(2*q+1):=by
    have g:=sK (2^k);rw[b,Nat.pow_add]at g;have:2^k*2^2*(2*q+1)=4*(2^k*(2*q+1)):=by
     rw[Nat.mul_right_comm];lia
    lia
   have f:∀n,iter (2^(k+1)) (n+2^k) i%2^(k+1)=(iter (2^(k+1)) n i+2^k)%2^(k+1):=λn=>by
    rw[jW];have z:5^(n+2^k)*i+geo (n+2^k)=5^(2^k)*(5^n*i+geo n) +geo (2^k):=by
     have O:=sK (n+2^k);have Q:=sK n
     grind
    rw[z,b,y];have A:2^(k+1)=2*2^k:=by rw[pow_succ];lia
    have j:2^(k+2)=2*2^(k+1):=by rw[pow_succ];lia
    have p:=jW (2^(k+1)) i n
    generalize 5^n*i+geo n=v at p ⊢
    have B:(1+2^(k+2)*(2*q+1))*v+2^k*(2*q+1)=v+2^k+2^(k+1)*(2*((2*q+1)*v) +q):=by
     rw[Nat.add_mul,Nat.one_mul,j];have C:2*2^(k+1)*(2*q+1)*v=2^(k+1)*(2*((2*q+1)*v)):=by
      simp only[Nat.mul_assoc,Nat.mul_left_comm]
     have E:2^k*(2*q+1)=2^k+2^(k+1)*q:=by
      rw[A,Nat.mul_add,Nat.mul_one]
      lia
     rw[C,E,Nat.mul_add]
     lia
    rw[B,Nat.add_mul_mod_self_left,add_mod,<-p,<-add_mod]
   have l:=d n;rw[w]at l;have G:iter (2^(k+1)) n i%2^(k+1)<2^(k+1):=mod_lt _ (Nat.two_pow_pos _);have m:=f n;rw[add_mod,Nat.mod_eq_of_lt (by lia:2^k<2^(k+1))]at m;obtain⟨a,r⟩:∃a,a=iter (2^(k+1)) n i%2^(k+1):=%[_|rfl]
   rw[<-r]at l G m;have o:a=e\/(a+2^k)%2^(k+1)=e:=by
    have s:=Nat.div_add_mod a (2^k);have H:=Nat.div_add_mod e (2^k);have I:a/2^k<2:=Nat.div_lt_of_lt_mul ⋯;have J:e/2^k<2:=Nat.div_lt_of_lt_mul ⋯;rw[l]at s
    generalize a/2^k=u at s I
    generalize e/2^k=v at H J
    have L:u=0\/u=1:=by lia
    have M:v=0\/v=1:=by lia
    rcases L with rfl|rfl<;> rcases M with rfl|rfl
    .left;lia
    .right
     rw[Nat.mod_eq_of_lt ⋯]
     lia
    .right
     rw[show a+2^k=e+2^(k+1) by lia,Nat.add_mod_right,Nat.mod_eq_of_lt c]
    .left;lia
   rcases o with h|h
   .exact%[n,⋯|by rw[<-r,h]]
   .exact%[n+2^k,⋯|by rw[m,h]]
abbrev stand(t:SetTable)(h:Int):Nat->Probe
 | 0=>t.probeStart h
 | n+1=>t.advance (stand t h n)
abbrev way(t:SetTable)(h:Int)(n:Nat):Nat:=(stand t h n).j
abbrev aL(t:SetTable)(h:Int):Nat->Nat×Nat
 | 0=>(bits h%(t.mask+1),bits h)
 | r+1=>leap t.mask (aL t h r).1 (aL t h r).2
def lQ(t:SetTable)(h:Int):∀n,(stand t h n).dummy=none
 | 0=>rfl
 | n+1=>by
   have:=lQ t h n;show(t.advance _).dummy=none;unfold advance
   split
   .exact this
   .exact this
def DI(m i:Nat):runEnd m i-i<=9:=by
 unfold runEnd
 split<;> lia
def zu(t:SetTable)(h:Int):∀r,∃n,n<=10*r/\∀d,d<=runEnd t.mask (aL t h r).1-(aL t h r).1->
 stand t h (n+d)=%[(aL t h r).1+d,runEnd t.mask (aL t h r).1-(aL t h r).1-d,(aL t h r).1,(aL t h r).2|none]:=by
 have a:∀n i b,stand t h n=%[i,runEnd t.mask i-i,i,b|none]->∀d,d<=runEnd t.mask i-i->stand t h (n+d)=%[i+d,runEnd t.mask i-i-d,i,b|none]:=by
  intro n i b e d
  induction d with
  | zero=>intro _;rw[add_zero,e];rfl
  | succ d c=>
    intro f;show t.advance (stand t h (n+d))=_;rw[c ⋯];unfold advance;rw[if_pos ⋯]
    grind
 intro r
 induction r with
 | zero=>exact%[0,Xd _|a 0 _ _ rfl]
 | succ r c=>
   have%[n,g|e]:=c;have j:=DI t.mask (aL t h r).1;refine%[n+(runEnd t.mask (aL t h r).1-(aL t h r).1) +1,⋯|a _ _ _ ?_];show t.advance _=_;rw[e _ (Zi _)];unfold advance;rw[if_neg ⋯];rfl
def DJ(h:Int):bits h<2^64:=by
 unfold bits
 grind
def nF(t:SetTable)(h:Int):∀r,(aL t h r).2=bits h/32^r
 | 0=>by simp[aL]
 | r+1=>by
   show(aL t h r).2/32=_;rw[nF t h r,Nat.div_div_eq_div_mul,pow_succ]
def Bw(t:SetTable)(h:Int):∀r,(aL t h r).1<t.mask+1
 | 0=>mod_lt _ (succ_pos _)
 | r+1=>mod_lt _ (succ_pos _)
def ju(t:SetTable)(h:Int):∀m,(aL t h (12+m)).1=iter (t.mask+1) m (aL t h 12).1
 | 0=>rfl
 | m+1=>by
   show((aL t h (12+m)).1*5+1+(aL t h (12+m)).2/32)%(t.mask+1)=step _ _;rw[ju t h m,nF,Nat.div_div_eq_div_mul,<-pow_succ];have a:bits h/32^(12+m+1)=0:=by
    exact Nat.div_eq_of_lt (Zg (DJ h) (Yf (by decide:2^64<=32^13) (Nat.pow_le_pow_right (!1) ⋯)))
   rw[a,add_zero];rfl
def nG(a:t.mask+1=2^k)(h:Int)(e:Nat)(c:e<=t.mask):∃r,r<turns t.mask/\(aL t h r).1=e:=by
 have%[n,d|b]:=nE k _ e ⋯;refine%[12+n,by unfold turns;lia|?_];rw[ju,a];rw[<-a]at b;have:iter (t.mask+1) n (aL t h 12).1<t.mask+1:=by rw[<-ju];exact Bw t h _
 rw[Nat.mod_eq_of_lt this]at b;exact a▸b
def wE(a:t.mask+1=2^k)(h:Int)(e:Nat)(b:e<=t.mask):∃n,n+10<=10*turns t.mask/\way t h n=e:=by
 have%[r,f|c]:=nG a h e b;have%[n,g|d]:=zu t h r;refine%[n,⋯|?_];have:=d 0 (Xd _);unfold way;rw[add_zero]at this;rw[this];exact c
def uz(o:t.dummies= #[]){hashAt:Nat->Int}:∀(fuel n m:Nat),n<=m->m<n+fuel->t.slot (way t h m)= .empty->
 ∃q,n<=q/\q<=m/\(∀j,n<=j->j<q->∃i,t.slot (way t h j)= .live i/\hashAt i≠h)/\
  ((t.slot (way t h q)= .empty/\probe.go t hashAt h fuel (stand t h n)∣.empty (way t h q) none)\/
   ∃i,t.slot (way t h q)= .live i/\hashAt i=h/\probe.go t hashAt h fuel (stand t h n)∣.candidate (way t h q) i (stand t h (q+1)))
 | 0,n,m,g,r,_=>by lia
 | fuel+1,n,m,g,r,p=>by
   have d:probe.go t hashAt h (fuel+1) (stand t h n)=(match t.slot (stand t h n).j with
    | .empty=>some _
    | .dummy=>probe.go t hashAt h fuel (t.advance {stand t h n with dummy:=some _})
    | .live i=>if hashAt i==h then some _ else probe.go t hashAt h fuel _):=rfl
   have l:(stand t h n).j=way t h n:=rfl;cases c:t.slot _ with
   | empty=>
     refine%[n,Zi _,g,λj a b=>by lia|.inl %[c|?_]];rw[d,l,c,lQ]
   | dummy=>
     exfalso;unfold slot at c;dsimp only at c
     split at c
     .lia
     .split at c
      .rename_i q
       rw[o]at q;simp[has]at q
      .lia
   | live i=>
     by_cases f:hashAt i=h
     .refine%[n,Zi _,g,λj a b=>by lia|.inr %[i,c,f|?_]];rw[d,l,c];dsimp only;rw[if_pos (by simp[f])];rfl
     .have s:n≠m:=λq=>by rw[q,p]at c;cases c
      have%[q,z,u,v|w]:=uz o fuel (n+1) m ⋯ ⋯ p;have y:probe.go t hashAt h (fuel+1) (stand t h n)=probe.go t hashAt h fuel (stand t h (n+1)):=by
       rw[d,l,c];dsimp only;rw[if_neg (by simp[f])];rfl
      refine%[q,⋯,u,λj a b=>?_|?_]
      .by_cases e:j=n
       .exact e▸%[i,c|f]
       .exact v j ⋯ b
      .exact y▸w
def nH(xs:Array Nat)(j:Nat)(d:∀a b (s:a<xs.size) (u:b<xs.size),a<b->xs[a]<xs[b]):∀(fuel lo hi:Nat),hi-lo<=fuel->lo<=hi->hi<=xs.size->(∀i (h:i<xs.size),i<lo->xs[i]<j)->(∀i (h:i<xs.size),hi<=i->j<=xs[i])->
 below.go xs j fuel lo hi<=xs.size/\(∀i (h:i<xs.size),i<below.go xs j fuel lo hi->xs[i]<j)/\(∀i (h:i<xs.size),below.go xs j fuel lo hi<=i->j<=xs[i])
 | 0,lo,hi,p,q,f,g,l=>by
   have e:lo=hi:=by lia
   subst e;exact%[f,g|l]
 | fuel+1,lo,hi,p,q,f,g,l=>by
   rw[below.go];by_cases c:lo<hi
   .rw[if_pos c];dsimp only;have n:(lo+hi)/2<xs.size:=by lia
    have r:xs.getD ((lo+hi)/2) j=xs[(lo+hi)/2]:=by simp[Array.getD,n]
    rw[r];by_cases m:xs[(lo+hi)/2]<j
    .rw[if_pos m];refine nH xs j d fuel _ hi ⋯ ⋯ f (λi h o=>?_) l;by_cases e:i=(lo+hi)/2
     .subst e;exact m
     .exact Nat.lt_trans (d i _ h n ⋯) m
    .rw[if_neg m];refine nH xs j d fuel lo _ ⋯ ⋯ ⋯ g (λi h o=>?_);by_cases e:i=(lo+hi)/2
     .subst e;lia
     .have:=d _ i n h ⋯
      lia
   .rw[if_neg c];have e:lo=hi:=by lia
    subst e;exact%[f,g|l]
abbrev Bx(xs:Array Nat):Prop:=∀a b c (d:b<xs.size),a<b->xs[a]<xs[b]
def jv(a:Bx xs)(j:Nat):below xs j<=xs.size/\(∀i (h:i<xs.size),i<below xs j->xs[i]<j)/\(∀i (h:i<xs.size),below xs j<=i->j<=xs[i]):=
 nH xs j a xs.size 0 xs.size ⋯ (Xd _) (Zi _) (λi h q=>absurd q (X2 _)) (λi h q=>by lia)
def By(a:Bx xs)(h:xs[i]?∣j):below xs j=i:=by
 have%[f,c|d]:=jv a j;have%[hi|e]:=Array.getElem?_eq_some_iff.mp h;rcases Nat.lt_trichotomy i _ with q|q|q
 .have:=c i hi q
  lia
 .exact q.symm
 .have b:below xs j<xs.size:=by lia
  have:=d _ b (Zi _);have:=a _ i b hi q
  lia
def qD{t:SetTable}(a:Bx t.place)(h:t.place[i]?∣j):t.slot j= .live i:=by
 unfold slot;dsimp only;rw[By a h,h];simp
def jw{t:SetTable}(a:Bx t.place)(b:t.dummies= #[])(j:Nat):(∃i,t.place[i]?∣j/\t.slot j= .live i)\/(j∉t.place.toList/\t.slot j= .empty):=by
 by_cases h:j∈t.place.toList
 .have%[i|hi]:=Xe h;have hi:=↑hi
  exact .inl %[i,hi|qD a hi]
 .refine .inr %[h|?_];unfold slot;rw[if_neg,if_neg]
  .rw[b];simp[has]
  .intro q;exact h (mem_toList_iff.mpr (Array.mem_of_getElem? ↑q))
def uA(h:t.mask=t'.mask)(x:Int):∀n,stand t x n=stand t' x n
 | 0=>by
   show t.probeStart x=t'.probeStart x;unfold probeStart;rw[h]
 | n+1=>by
   show t.advance _=t'.advance _;rw[uA h x n];unfold advance;rw[h]
def qE(h:t.mask=t'.mask)(x:Int)(n:Nat):way t x n=way t' x n:=by unfold way;rw[uA h]
structure WF (t:SetTable) (es:Array (Int×Value)):Prop where
 pow:∃k,t.mask+1=2^k
 big:7<=t.mask
 dum:t.dummies= #[]
 rise:Bx t.place
 inb:∀j∈t.place.toList,j<=t.mask
 size:t.place.size=es.size
 chain:∀(i j:Nat) h x,t.place[i]?∣j->es[i]?∣(h,x)->∃n,way t h n=j/\∀m,m<n->way t h m∈t.place.toList
def nodup_sub [DecidableEq c]:∀{l m:List c},l.Nodup->(∀x∈l,x∈m)-> ~~~l<= ~~~m
 |[],_,_,_=>Xd _
 | x::l,m,d,a=>by
   have%[f|g]:=nodup_cons.mp d;have b:=a x Zm;have h:=nodup_sub (m:=m.erase x) g λy i=>(List.mem_erase_of_ne (λe=>f (!2))).mpr (a y (Zk _ i))
   rw[List.length_erase_of_mem b]at h;have:=List.length_pos_of_mem b;rw[Zr]
   lia
def wF(W:WF t es)(R:t.place.size<=t.mask)(h:Int):∃m,m+10<=10*turns t.mask/\way t h m∉t.place.toList/\(∀q,q<m->way t h q∈t.place.toList):=by
 have%[k|l]:=W.pow;have ex:∃e,e<=t.mask/\e∉t.place.toList:=by
  refine Classical.byContradiction λb=>?_
  have: ~~~(List.range (t.mask+1))<= ~~~t.place.toList:=nodup_sub nodup_range λx o=>(λe c=>Classical.byContradiction λq=>b %[e,c|q]) x (by have:=mem_range.mp o;lia)
  rw[Yi,Zb]at this
  lia
 have%[e,c|f]:=ex;have%[n,p|hw]:=wE l h e c;have:∀d,∀n,n<=d->n+10<=10*turns t.mask->way t h n∉t.place.toList->∃m,m+10<=10*turns t.mask/\way t h m∉t.place.toList/\(∀q,q<m->way t h q∈t.place.toList):=by
  intro d
  induction d with
  | zero=>
    intro n r g i;have:n=0:=by lia
    subst this;exact%[0,g,i|λq j=>absurd j (X2 _)]
  | succ d s=>
    intro n r g i;by_cases a:∀q,q<n->way t h q∈t.place.toList
    .exact%[n,g,i|a]
    .have%[q|j]:=Classical.not_forall.mp a;have%[v|u]:=Classical.not_imp.mp j;exact s q ⋯ ⋯ u
 exact this n n (Zi _) p (hw▸f)
def jX(xs:Array a)(p:Nat)(x:a)(b:p<=xs.size):(insertAt xs p x).toList=xs.toList.take p++x::xs.toList.drop p:=by
 unfold insertAt;rw[Xc,toList_push,toList_extract,toList_extract,List.extract_eq_take_drop,List.extract_eq_take_drop];rw[drop_zero,Nat.sub_zero,Zn (l:=xs.toList.drop p) ∅];simp
def wG(xs:Array c)(x:c)(f:p<=xs.size)(i:Nat):(insertAt xs p x)[i]? =if i<p then xs[i]? else if i=p then some x else xs[i-1]? :=by
 have e:(insertAt xs p x)[i]? =(insertAt xs p x).toList[i]? :=by simp
 rw[e,jX xs p x f];have g: ~~~(xs.toList.take p)=p:=!2
 by_cases a:i<p
 .rw[if_pos a,Y9 ⋯,List.getElem?_take,if_pos a];simp
 .rw[if_neg a,Ya ⋯,g];by_cases b:i=p
  .rw[if_pos b,b,sub_self];rfl
  .rw[if_neg b];obtain⟨d,h⟩:∃d,i-p=d+1:=%[i-p-1|⋯]
   rw[h,List.getElem?_cons_succ,getElem?_drop];rw[show p+d=i-1 by lia];simp
def iF(xs:Array a)(p:Nat)(x:a)(b:p<=xs.size):(insertAt xs p x).size=xs.size+1:=by
 rw[<-Zb,jX xs p x b,Z9,Zr,Yk,Yg,Zb]
 lia
def Bz(t:SetTable)(h:Int):∀n,(stand t h n).j+(stand t h n).more<=t.mask
 | 0=>by
   show bits h%(t.mask+1) +(runEnd t.mask _-bits h%(t.mask+1))<=t.mask;have:=mod_lt (bits h) (show 0<t.mask+1 from succ_pos _);unfold runEnd
   split<;> lia
 | n+1=>by
   have a:=Bz t h n;show(t.advance _).j+(t.advance _).more<=t.mask;unfold advance
   split
   .lia
   .dsimp only[leap];have:=mod_lt ((stand t h n).i*5+1+(stand t h n).perturb/32) (show 0<t.mask+1 from succ_pos _);unfold runEnd
    split<;> lia
def sM(t:SetTable)(h:Int)(n:Nat):way t h n<=t.mask:=by
 have:=Bz t h n;unfold way
 lia
def WF.put(W:WF t es)(Q:way t h m∉t.place.toList)(T:∀q,q<m->way t h q∈t.place.toList)(r f:Bool):
 (t.put (way t h m)).2=below t.place (way t h m)/\(t.put (way t h m)).1.mask=t.mask/\(t.put (way t h m)).1.place.size=t.place.size+1/\(t.put (way t h m)).1.led=t.led/\(t.put (way t h m)).1.plain=t.plain/\(t.put (way t h m)).1.moves=t.moves/\
  WF {(t.put (way t h m)).1 with led:=r,plain:=f} (insertAt es (t.put (way t h m)).2 (h,x)):=by
 have U:has t.dummies (way t h m)=false:=by rw[W.dum];simp[has]
 have Y:t.put (way t h m)=({t with place:=insertAt t.place (below t.place (way t h m)) (way t h m)},below t.place (way t h m)):=by
  unfold SetTable.put;dsimp only;rw[U];rfl
 rw[Y];have%[g,I|J]:=jv W.rise (way t h m)
 generalize hp:below t.place (way t h m)=p at g I J
 have w:p<=es.size:=by rw[<-W.size];exact g
 have s3:∀i (hi:i<t.place.size),p<=i->way t h m<t.place[i]:=λi hi q=>by
  have:=J i hi q;rcases Nat.eq_or_lt_of_le this with e|e
  .exact absurd (by rw[e];simp) Q
  .exact e
 have c:∀y,y∈(insertAt t.place p (way t h m)).toList↔y=way t h m\/y∈t.place.toList:=λy=>by
  rw[jX _ _ _ g,Yr,Yu];have:=X9 p t.place.toList
  constructor
  .rintro(q|q|q)
   .exact .inr (Yv q)
   .exact .inl q
   .exact .inr (List.mem_of_mem_drop q)
  .rintro(q|q)
   .exact .inr (.inl q)
   .rw[<-this]at q;rcases Xl q with q|q
    .exact .inl q
    .exact .inr (.inr q)
 refine%[ρ,ρ,iF _ _ _ g,ρ,ρ,ρ,W.pow,W.big,W.dum,?_,?_,?_|?_]
 .intro a b ha A B;have l:(insertAt t.place p (way t h m))[a]?∣(insertAt t.place p (way t h m))[a]:=by simp
  have d:(insertAt t.place p (way t h m))[b]?∣(insertAt t.place p (way t h m))[b]:=by simp
  show(insertAt t.place p (way t h m))[a]<(insertAt t.place p (way t h m))[b];rw[wG _ _ g]at l d;have ab:b<t.place.size+1:=(iF t.place p (way t h m) g)▸A;by_cases C:a<p
  .rw[if_pos C]at l;have%[u|E]:=Array.getElem?_eq_some_iff.mp l;rw[<-E];by_cases r:b<p
   .rw[if_pos r]at d;have%[f|v]:=Array.getElem?_eq_some_iff.mp d;exact v▸W.rise a b u f B
   .rw[if_neg r]at d;by_cases f:b=p
    .rw[if_pos f]at d;exact(Za d)▸I a u C
    .rw[if_neg f]at d;have%[v|G]:=Array.getElem?_eq_some_iff.mp d;exact G▸W.rise a (b-1) u v ⋯
  .rw[if_neg C]at l;have r: ¬ b<p:=by lia
   have f: ¬ b=p:=by lia
   rw[if_neg r,if_neg f]at d;have%[v|G]:=Array.getElem?_eq_some_iff.mp d;rw[<-G];by_cases u:a=p
   .rw[if_pos u]at l;exact(Za l)▸s3 (b-1) v ⋯
   .rw[if_neg u]at l;have%[E|a4]:=Array.getElem?_eq_some_iff.mp l;exact a4▸W.rise (a-1) (b-1) E v ⋯
 .intro y hy;rcases(c y).mp hy with q|q
  .rw[q];exact sM t h m
  .exact W.inb y q
 .rw[iF _ _ _ g,iF _ _ _ w,W.size]
 .intro i j h' L hi o;have M:∀n,way {t with place:=insertAt t.place p (way t h m),led:=r,plain:=f} h' n=way t h' n:=λn=>qE (t':=t) (by rfl) h' n
  have H:∃n,way t h' n=j/\∀q,q<n->way t h' q∈(insertAt t.place p (way t h m)).toList:=by
   rw[wG _ _ g]at hi;rw[wG _ _ w]at o;by_cases N:i<p
   .rw[if_pos N]at hi o;have%[n,n1|z]:=W.chain i j h' L hi o;exact%[n,n1|λq s=>(c _).mpr (.inr (z q s))]
   .rw[if_neg N]at hi o;by_cases O:i=p
    .rw[if_pos O]at hi o;cases hi;cases o;exact%[m,ρ|λq s=>(c _).mpr (.inr (T q s))]
    .rw[if_neg O]at hi o;have%[n,n1|z]:=W.chain (i-1) j h' L hi o;exact%[n,n1|λq s=>(c _).mpr (.inr (z q s))]
  have%[n,n1|z]:=H;exact%[n,by rw[M];exact n1|λq s=>by rw[M];exact z q s]
abbrev nb(t:SetTable)(h:Int):Nat->Nat
 | 0=>0
 | r+1=>nb t h r+(runEnd t.mask (aL t h r).1-(aL t h r).1) +1
def BA(t:SetTable)(h:Int):∀r d,d<=runEnd t.mask (aL t h r).1-(aL t h r).1->
 stand t h (nb t h r+d)=%[(aL t h r).1+d,runEnd t.mask (aL t h r).1-(aL t h r).1-d,(aL t h r).1,(aL t h r).2|none]:=by
 have a:∀n i b,stand t h n=%[i,runEnd t.mask i-i,i,b|none]->∀d,d<=runEnd t.mask i-i->stand t h (n+d)=%[i+d,runEnd t.mask i-i-d,i,b|none]:=by
  intro n i b e d
  induction d with
  | zero=>intro _;rw[add_zero,e];rfl
  | succ d c=>
    intro f;show t.advance (stand t h (n+d))=_;rw[c ⋯];unfold advance;rw[if_pos ⋯]
    grind
 intro r
 induction r with
 | zero=>exact a 0 _ _ rfl
 | succ r c=>
   refine a _ _ _ ?_;show t.advance _=_;rw[c _ (Zi _)];unfold advance;rw[if_neg ⋯];rfl
def wH(t:SetTable)(h:Int)(r d:Nat)(a:d<=runEnd t.mask (aL t h r).1-(aL t h r).1):way t h (nb t h r+d)=(aL t h r).1+d:=by
 unfold way;rw[BA t h r d a]
abbrev eQ(owner:Array (Option Nat))(j:Nat):Bool:=(owner.getD j (some 0)).isSome
def qF(t:SetTable)(h:Int)(owner:Array (Option Nat)):∀(fuel r:Nat),(∃a,r<=a/\a<r+fuel/\eQ owner (aL t h a).1=false)->(∀m,m<nb t h r->eQ owner (way t h m)=true)->
 ∃j n,layClean.free t.mask owner fuel (aL t h r).1 (aL t h r).2∣j/\way t h n=j/\eQ owner j=false/\∀m,m<n->eQ owner (way t h m)=true
 | 0,r,⟨a,o,p,_⟩,_=>by lia
 | fuel+1,r,⟨a,o,p,f⟩,g=>by
   rw[layClean.free];have s:runEnd t.mask (aL t h r).1>=(aL t h r).1:=by unfold runEnd;split<;> lia
   have tk:∀k,(owner.getD ((aL t h r).1+k) (some 0)).isNone=!eQ owner ((aL t h r).1+k):=λk=>by
    unfold eQ;cases owner.getD ((aL t h r).1+k) (some 0)<;> rfl
   cases i:(List.range (runEnd t.mask (aL t h r).1+1-(aL t h r).1)).find? λk=>(owner.getD ((aL t h r).1+k) (some 0)).isNone with
   | some k=>
     have%[l,as,bs,b|u]:=List.find?_eq_some_iff_append.mp i;have c:k∈List.range (runEnd t.mask (aL t h r).1+1-(aL t h r).1):=by rw[b];simp
     have c:=mem_range.mp c;have v:as=List.range k:=by
      have w: ~~~as=k:=by
       have:(List.range (runEnd t.mask (aL t h r).1+1-(aL t h r).1))[~~~as]?∣k:=by rw[b];simp
       rw[List.getElem?_range (by have:=(Xk this).1;simpa using this)]at this;exact Za this
      have y:as=(List.range (runEnd t.mask (aL t h r).1+1-(aL t h r).1)).take k:=by
       rw[b,<-w];simp
      rw[y,List.take_range,min_eq_left ⋯]
     dsimp only;refine%[_,nb t h r+k,ρ,wH t h r k ⋯,?_|λm d=>?_]
     .rw[tk]at l;simpa using l
     .by_cases q:m<nb t h r
      .exact g m q
      .have:=u (m-nb t h r) (v▸mem_range.mpr ⋯);rw[tk]at this;rw[show m=nb t h r+(m-nb t h r) by lia,wH t h r _ ⋯];simpa using this
   | none=>
     have all:∀k,k<=runEnd t.mask (aL t h r).1-(aL t h r).1->eQ owner ((aL t h r).1+k)=true:=λk c=>by
      have:=(List.find?_eq_none.mp i) k (mem_range.mpr ⋯);rw[tk]at this;simpa using this
     have z:r≠a:=λe=>by
      have:=all 0 (Xd _);rw[add_zero,e,f]at this;cases this
     dsimp only;exact qF t h owner fuel (r+1) %[a,⋯,⋯|f] λm d=>by
      by_cases q:m<nb t h r
      .exact g m q
      .have d:m<nb t h r+(runEnd t.mask (aL t h r).1-(aL t h r).1) +1:=d;rw[show m=nb t h r+(m-nb t h r) by lia,wH t h r _ ⋯];exact all _ ⋯
structure LO (t:SetTable) (hs:ZL) (owner:Array _):Prop where
 size:owner.size=t.mask+1
 own:∀j q,owner[j]?∣some q->∃h,hs[q]?∣h/\∃n,way t h n=j/\∀m,m<n->eQ owner (way t h m)=true
 all:∀q,q< ~~~hs->∃j:Nat,owner[j]?∣some q
 one:∀(j j' q:Nat),owner[j]?∣some q->owner[j']?∣some q->j=j'
def fT(b:j<owner.size):eQ owner j=true↔∃q,owner[j]?∣some q:=by
 unfold eQ;have e:owner.getD j (some 0)=owner[j]:=!2
 rw[e];have a:owner[j]?∣owner[j]:=by simp
 rw[a];cases owner[j]with
 | none=>simp
 | some q=>simp
def LO.step(L:LO t f owner)(J:t.mask+1=2^k)(room: ~~~f<=t.mask)(h:Int):
 ∃j,layClean.free t.mask owner (turns t.mask) (bits h%(t.mask+1)) (bits h)∣j/\LO t (f++[h]) (owner.setIfInBounds j (some f.length)):=by
 have d:∀h n,way t h n<owner.size:=λh n=>by rw[L.size];have:=sM t h n;lia
 have ex:∃e,e<=t.mask/\eQ owner e=false:=by
  refine Classical.byContradiction λv=>?_
  have all:∀e,e<t.mask+1->eQ owner e=true:=λe c=>by
   cases q:eQ owner e with
   | true=>rfl
   | false=>exact absurd %[e,⋯|q] v
  let g:Nat->Nat:=λe=>((owner[e]?).getD none).getD 0
  have w:∀e,e<t.mask+1->owner[e]?∣some (g e):=λe c=>by
   have%[q|o]:=(λe c=>(fT (L.size▸c)).mp (all e c)) e c;show owner[e]?∣some (((owner[e]?).getD none).getD 0);rw[o];rfl
  have nd:((List.range (t.mask+1)).map g).Nodup:=by
   rw[Yz,X6];refine Xf (λ{a b} M N A q=>A ?_) (nodup_iff_pairwise_ne.mp nodup_range);have E:=w b (mem_range.mp N);rw[<-q]at E;exact L.one a b _ (w a (mem_range.mp M)) E
  have:=nodup_sub nd λy O=>by
   have%[e,c|rfl]:=Xn O;have%[h',l|_]:=L.own e _ (w e (mem_range.mp c));exact mem_range.mpr (Xk l).1
  rw[Z6,Yi,Yi]at this
  lia
 have%[e,c|B]:=ex;have%[r,hr|o]:=nG J h e c;have%[j,n,Q,G,T|U]:=qF t h owner (turns t.mask) 0 %[r,Xd _,⋯|o▸B] (λm p=>absurd p (X2 _));refine%[j,Q|?_];have Y:j<owner.size:=G▸d h n;have nj:∀q,owner[j]? ≠some _:=λq e=>by
  have:=(fT Y).mpr %[q|e];rw[T]at this;cases this
 have get:∀i,(owner.setIfInBounds j (some f.length))[i]? =if j=i then some _ else owner[i]? :=λi=>by
  rw[Array.getElem?_setIfInBounds]
  split
  .first|rfl|simp
  .rfl
 have keep:∀i,eQ owner i=true->i<owner.size->eQ (owner.setIfInBounds j _) i=true:=λi hi H=>by
  have%[q|e]:=(fT H).mp hi;refine(fT (Array.size_setIfInBounds▸H)).mpr ?_;rw[get]
  split
  .exact%[_|ρ]
  .exact%[q|e]
 refine%[by rw[Array.size_setIfInBounds];exact L.size,λi q e=>?_,λq o=>?_|λi I q e s=>?_]
 .rw[get]at e
  split at e
  .rename_i C
   cases e;refine%[h,by simp,n,by rw[G,C]|λm p=>keep _ (U m p) (d h m)]
  .have%[h',l,n',e2|e3]:=L.own i q e;exact%[h',(Y9 (Xk l).1)▸l,n',e2|λm p=>keep _ (e3 m p) (d h' m)]
 .rw[Z9,Yj]at o;by_cases e:q= ~~~f
  .exact%[j|by rw[get,if_pos rfl,e]]
  .have%[i|hi]:=L.all q ⋯;refine%[i|?_];rw[get,if_neg]
   .exact hi
   .intro C;rw[<-C]at hi;exact nj q hi
 .have u:∀i,owner[i]?∣some f.length->False:=λi e=>by
   have%[h',l|_]:=L.own i _ e;have:=(Xk l).1
   lia
  rw[get]at e s
  split at e<;> split at s
  .lia
  .cases e;exact absurd s (λz=>u I z)
  .cases s;exact absurd e (λz=>u i z)
  .exact L.one i I q e s
def uB(c:t.mask+1=2^k)(a:Array Int)(room:a.size<=t.mask+1):∃owner,layClean t.mask a∣owner/\LO t a.toList owner:=by
 have d:∀rest done owner,LO t done owner-> ~~~(done++rest)<=t.mask+1->
  ∃b,rest.foldl (λacc h=>do
   let(owner,k)<-acc
   let j<-layClean.free t.mask owner (turns t.mask) (bits h%(t.mask+1)) (bits h)
   pure (owner.setIfInBounds j (some k),k+1)) (some (owner,~~~done))∣(b,~~~(done++rest))/\LO t (done++rest) b:=by
  intro rest
  induction rest with
  | nil=>intro done owner L _;exact%[owner,by simp|↑L]
  | cons h rest g=>
    intro done owner L i;simp only[Z9,Zr]at i;have%[j,f|l]:=L.step c ⋯ h;have%[b,e|L2]:=g _ _ l (!2);refine%[b,?_|↑L2];rw[Y8];have m:(do
     let(owner,k)<-(some (owner,~~~done))
     let j<-layClean.free t.mask owner (turns t.mask) (bits h%(t.mask+1)) (bits h)
     pure (owner.setIfInBounds j (some k),k+1))∣(owner.setIfInBounds j (some done.length),~~~(done++[h])):=by
     show(layClean.free t.mask owner _ _ _).bind _=_;rw[f];simp
    rw[m,e];simp
 have n:LO t [] (Array.replicate (t.mask+1) none):=%[by simp,λj q e=>by
  rw[Array.getElem?_replicate]at e
  split at e<;> simp at e,λq o=>absurd o (X2 _)|λj p q e _=>by
  rw[Array.getElem?_replicate]at e
  split at e<;> simp at e]
 have%[owner,e|L]:=d a.toList [] _ n (room);refine%[owner,?_|L];unfold layClean;rw[<-Array.foldl_toList];rw[show(0)= ~~~([]) from rfl,e];rfl
def uC(n:Nat):∀fuel k,3<=k->n<2^(k+fuel)->(2^k<=2*n\/k=3)->∃a,3<=a/\sizeAbove.go n fuel (2^k)=2^a/\n<2^a/\(2^a<=2*n\/a=3)
 | 0,k,b,c,d=>%[k,b,rfl,c|d]
 | fuel+1,k,b,c,d=>by
   rw[sizeAbove.go];by_cases h:2^k<=n
   .rw[if_pos h];have e:2^k*2=2^(k+1):=by rw[pow_succ]
    rw[e];exact uC n fuel _ ⋯ ((show k+1+fuel=k+(fuel+1) by lia)▸c) (.inl ⋯)
   .rw[if_neg h];exact%[k,b,ρ,⋯|d]
def wI(a:n<2^60):∃k,3<=k/\sizeAbove n=2^k/\n<2^k/\(2^k<=2*n\/k=3):=
 uC n 64 3 (Zi _) (Zg a (Nat.pow_le_pow_right (!1) ∅)) (.inr rfl)
def nJ [DecidableEq c]:∀{l m:List c},l.Nodup->m.Nodup->(∀x,x∈l↔x∈m)->l.Perm m
 |[],m,_,_,h=>by
  cases m with
  | nil=>simp
  | cons x m=>exact absurd ((h x).mpr Zm) ∅
 | x::l,m,d,b,h=>by
   have%[f|g]:=nodup_cons.mp d;refine List.Perm.trans (List.Perm.cons x (nJ g (b.erase x) λy=>?_)) (List.perm_cons_erase ((h x).mp Zm)).symm
   constructor
   .intro a;exact(List.mem_erase_of_ne (λe=>f (!2))).mpr ((h y).mp (Zk _ a))
   .intro a;rcases mem_cons.mp ((h y).mpr (List.mem_of_mem_erase a))with q|q
    .exact absurd q (λe=>by rw[e]at a;exact b.not_mem_erase a)
    .exact q
def laid_ok{t:SetTable}(hp:t.mask+1=2^k)(C:7<=t.mask)(es:Array (Int×Value))(room:es.size<=t.mask)(finger moves:Nat)(led plain:Bool):
 ∃t' c,laid t.mask finger moves led plain (es\1)∣(t',c)/\t'.mask=t.mask/\t'.led=led/\t'.plain=plain/\t'.moves=moves/\WF t' (c.filterMap (es[·]?))/\(c.filterMap (es[·]?)).toList.Perm es.toList:=by
 have%[owner,e|L]:=uB hp (es\1) (by rw[size_map];lia);have E:(es\1).toList.length=es.size:=by simp
 obtain⟨live,u⟩:∃live,(List.range (t.mask+1)).filterMap (λj=>(owner.getD j none).map (λq=>(j,q)))=live:=%[_|rfl]
 refine%[%[t.mask,(live\1).toArray,#[],finger,led,moves|plain],(live\2).toArray,by unfold laid;rw[e,<-u];rfl,ρ,ρ,ρ,ρ|?_];have gd:∀j q,owner.getD j none∣q↔owner[j]?∣some q:=λj q=>by
  rw[Array.getD_eq_getD_getElem?];cases owner[j]? with
  | none=>simp
  | some o=>simp
 have mem:∀j q,(j,q)∈live↔owner[j]?∣some q:=λj q=>by
  rw[<-u,mem_filterMap]
  constructor
  .rintro⟨G,ab,H⟩;have%[w,r|I]:=map_eq_some_iff.mp H;cases I;exact(gd j q).mp r
  .intro ho;have:j<owner.size:=by
    have%[d|_]:=Array.getElem?_eq_some_iff.mp ho;exact d
   refine%[j,mem_range.mpr (by rw[L.size]at this;exact this)|?_];rw[(gd j q).mpr ho];rfl
 have g:(live\1).Pairwise (·<·):=by
  rw[<-u,X6,List.pairwise_filterMap];refine List.Pairwise.imp (λ{a b} s x hx y J=>?_) List.pairwise_lt_range;have%[_,_|rfl]:=map_eq_some_iff.mp hx;have%[_,_|rfl]:=map_eq_some_iff.mp J;exact s
 have v:∀j q,(j,q)∈live->q<es.size:=λj q h=>by
  have%[h',r|_]:=L.own j q ((mem j q).mp h);have:=(Xk r).1
  lia
 have A:(live\2).Nodup:=by
  rw[Yz,X6];refine Xf (λ{a b} M C s f=>?_) (by rw[X6]at g;exact g);have d:=(mem a.1 a.2).mp M;have N:=(mem b.1 b.2).mp C;rw[<-f]at N;have:=L.one _ _ _ d N
  lia
 have B:(live\2).Perm (List.range es.size):=nJ A nodup_range λq=>by
  constructor
  .intro f;have%[%[j|w],d|rfl]:=Xn f;exact mem_range.mpr (v j w d)
  .intro f;have%[j|O]:=L.all q (E▸mem_range.mp f);exact Xo %[(j,q),(mem j q).mpr O|rfl]
 have fm:∀(l:List Nat),(∀q∈l,q<es.size)->l.filterMap (es[·]?)=l.map (λq=>es.getD q (0,Value.none)):=by
  intro l
  induction l with
  | nil=>intro _;rfl
  | cons q l ih=>
    intro f;have d:=f q Zm;have r:es[q]?∣es.getD q (0,Value.none):=by simp[Array.getD,d]
    rw[Y1,r,Yp,ih λy J=>f y (Zk _ J)]
 have Q:((live\2).toArray.filterMap (es[·]?)).toList=(live\2).map (λq=>es.getD q (0,Value.none)):=by
  rw[Array.toList_filterMap,List.toList_toArray];exact fm _ λq f=>by
   have%[%[j|w],d|rfl]:=Xn f;exact v j w d
 have er:es.toList=(List.range es.size).map (λq=>es.getD q (0,Value.none)):=by
  apply Zy
  .simp
  .intro i d N;have d:=↑d
   simp[Array.getD,d]
 refine%[%[%[k|hp],C,ρ,?_,λj O=>?_,?_|λi j h x hi z=>?_]|?_]
 .intro a b M T s;have:=List.pairwise_iff_getElem.mp g a b (M) (T) s;simpa using this
 .have%[%[G|q],d|rfl]:=Xn O;have:=(Array.getElem?_eq_some_iff.mp ((mem G q).mp d)).1;rw[L.size]at this
  lia
 .rw[<-Zb (xs:=Array.filterMap _ _),Q];simp
 .have hi:(live\1)[i]?∣j:=↑hi
  have z:((live\2).toArray.filterMap (es[·]?)).toList[i]?∣(h,x):=↑z
  rw[Q,Yq,Zl]at z;rw[Zl]at hi;cases U:live[i]? with
  | none=>rw[U]at hi;cases hi
  | some p=>
    have%[G|q]:=p;rw[U]at hi z;cases hi;have hm:=Z8 U;have%[h',r,n,n1|n2]:=L.own _ q ((mem _ q).mp hm);have f:=v _ q hm;have eh:h'=h:=by
     have I:(es\1).toList[q]?∣(es[q]).1:=by simp[f]
     rw[I]at r;have e3:es.getD q (0,Value.none)=es[q]:=by simp[Array.getD,f]
     simp only[Function.comp,map_some,e3,Option.some.injEq]at z;rw[z]at r;exact(Za r).symm
    subst eh;have wm:∀n,way {mask:=t.mask,place:=(live\1).toArray,dummies:= #[],finger:=finger,led:=led,moves:=moves,plain:=plain} h' n=way t h' n:=λn=>qE (t':=t) (by rfl) h' n
    refine%[n,by rw[wm];exact n1|λm Y=>?_];rw[wm];have%[w|H]:=(fT (by rw[L.size];have:=sM t h' m;lia)).mp (n2 m Y);exact Xo %[(way t h' m,w),(mem _ _).mpr H|rfl]
 .rw[Q,er];exact B.map _
section
variable{prog:Program}{w:World}{K:Type}[DecidableEq K]{knd:KeyKind prog w K}{A:Around}{E:ZD}{s:Shared}
abbrev EL(knd:KeyKind prog w K)(h:Heap)(es:Array (Int×Value)):Prop:=∀(i:Nat) e,es[i]?∣e->∃r k,e=(tupleKeyHash knd k,Value.ref r)/\IsTupleKey knd h k r
def lR(f:IsTupleKey knd s.heap ks r)(h:Q false s):↥A (ofAClassStatement 8 (.ref r)) Q E s:=by
 have j:=f.typeIs;have%[o,items,n,l,_,m|hi]:=f;unfold ofAClassStatement;refine Z2 (wpAny_typeOf j (Z2 (Z3 (Z2 (wpAny_seqItems l m (Z2 ?_))))));rw[<-forIn_toList];refine wpAny_forIn_list _ (λrest r s'=>r=(none,())/\s'=s/\∃g,ItemsAre knd g rest) _ ?_ ?_ _ _ %[rfl,rfl,ks|hi]
 .intro x rest r s' %[rfl,rfl,g|c];cases c with
  | @cons k1 u d i p b=>
    have q:=knd.byValue _ _ p;have e:ofAClassStatement 7 x=pure false:=by
     cases x with
     | ref a=>simp[carriedByValue]at q
     | _=>first|rfl|lia|lia
    refine Z2 ?_;rw[e];exact Z3 (Z3 %[rfl,rfl,d|b])
 .intro r s' %[rfl,rfl|_];exact Z3 h
def wJ(d:IsTupleKey knd s.heap ks r):∀(l:ZF),(∀y∈l,∃a c,y=Value.ref a/\IsTupleKey knd s.heap c a)->∀{Q:Bool->Shared->Prop},Q false s->↥A (searchCouldBeSeen (.ref r) l) Q E s:=by
 intro l g Q h;refine Z2 (wpAny_forIn_list _ (λrest x s'=>x=(none,())/\s'=s/\∀y∈rest,∃a c,y=Value.ref a/\IsTupleKey knd s.heap c a) _ ?_ ?_ _ _ %[rfl,rfl|g])
 .intro y rest x s' %[rfl,rfl|e];have%[a,c,rfl|b]:=e y Zm;have f:=λy i=>e y (Zk _ i)
  dsimp only
  split
  .exact Z3 %[rfl,rfl|f]
  .exact Z2 (wpAny_eqIsQuiet_tuple d (Z2 (wpAny_eqIsQuiet_tuple b (Z2 (lR d (Z2 (lR b (Z3 %[rfl,rfl|f]))))))))
 .intro x s' %[rfl,rfl|_];exact Z3 h
def sN(hu:A.units<cLine)(ho:s.heap.get? a∣o)(hd:o.data= .set es ep t)(W:WF t es)(room:t.place.size<=t.mask)(ac:t.mask<=9000)
 (el:EL knd s.heap es) (hk:IsTupleKey knd s.heap k r)
 (h1:(∃(i:Nat) (g:Addr),es[i]?∣(tupleKeyHash knd k,Value.ref g)/\IsTupleKey knd s.heap k g)->Q (.there none) s)
 (h2:∀m,way t (tupleKeyHash knd k) m∉t.place.toList->(∀q,q<m->way t (tupleKeyHash knd k) q∈t.place.toList)->(∀(i:Nat) g u,es[i]?∣(tupleKeyHash knd u,Value.ref g)->IsTupleKey knd s.heap u g->u≠k)->Q (.free (way t (tupleKeyHash knd k) m) false) s):
 ↥A (setSearch a (.ref r) (tupleKeyHash knd k) true) Q E s:=by
 generalize hh:tupleKeyHash knd k=h at h1 h2
 have hf:t.fits es.size=true:=by
  unfold fits fill;rw[W.dum];simp[W.size];exact W.size▸room
 have%[M,m1,m2|m3]:=wF W room h;have me:t.slot (way t h M)= .empty:=by
  rcases jw W.rise W.dum (way t h M)with⟨i,e,_⟩|⟨_,e⟩
  .exact absurd (mem_toList_iff.mpr (Array.mem_of_getElem? e)) m2
  .exact e
 have ae:t.gaveWay=false:=by
  have%[c|hc]:=W.pow;have hb:=W.big;have c0:c≠0:=λq=>by rw[q]at hc;lia
  have%[c'|rfl]:=Nat.exists_eq_succ_of_ne_zero c0;rw[pow_succ]at hc;unfold gaveWay;have:t.mask%2=1:=by lia
  simp[this]
 have N:∀(fuel n:Nat) (st:Option Probe),st.getD (t.probeStart h)=stand t h n->n<=M->M<n+fuel->(∀j,j<n->∀(i:Nat) g u,t.slot (way t h j)= .live i->es[i]?∣(tupleKeyHash knd u,Value.ref g)->IsTupleKey knd s.heap u g->u≠k)->
  ↥A (setSearchFrom a (.ref r) h true fuel st) Q E s:=by
  intro fuel
  induction fuel with
  | zero=>intro n st _ a1 a2;lia
  | succ fuel ih=>
    intro n st ag hn a6 O;unfold setSearchFrom;refine Z2 (wpAny_setState_of ho hd hf ?_);dsimp only;rw[ae];simp only[Zz,if_false];rw[ag]
    generalize al:SetTable.probe t _ h (stand t h n)=pr
    have l:SetTable.probe.go t (λi=>((es[i]?)\1).getD 0) h (10*turns t.mask) (stand t h n)=pr:=al;have%[q,q1,q2,q3|q4]:=uz (t:=t) W.dum (hashAt:=λi=>((es[i]?)\1).getD 0) (h:=h) (10*turns t.mask) n M hn ⋯ me;rcases q4 with⟨I,e2⟩|⟨i,I,e2,e3⟩
    .rw[e2]at l;subst l;have hq:q=M:=by
      rcases Nat.eq_or_lt_of_le q2 with z|z
      .exact z
      .have:=m3 q z;rcases jw W.rise W.dum (way t h q)with⟨i,_,T⟩|⟨z2,_⟩
       .rw[I]at T;cases T
       .exact absurd this z2
     subst hq;dsimp only;refine Z3 (h2 q m2 m3 λi g u p v B=>?_);subst B;rw[hh]at p;have hi:i<es.size:=(Array.getElem?_eq_some_iff.mp p).1;have hp:t.place[i]?∣t.place[i]'(W.size▸hi):=by simp
     have%[U,c1|c2]:=W.chain i _ h _ hp p;have C:=qD W.rise hp;have an:U<q:=by
      rcases Nat.lt_trichotomy U q with z|z|z
      .exact z
      .rw[z,]at c1;rw[<-c1,me]at C;cases C
      .exact absurd (c2 q z) m2
     rw[<-c1]at C;by_cases Y:U<n
     .exact O U Y i g u C (hh▸p) v rfl
     .have%[G,T|ab]:=q3 U ⋯ an;rw[C]at T;cases T;rw[p]at ab;exact ab rfl
    .rw[e3]at l;subst l;obtain⟨x0,p⟩:∃e,es[i]?∣e:=by
      have as:t.place[i]?∣way t h q:=by
       rcases jw W.rise W.dum (way t h q)with⟨G,p1,H⟩|⟨_,H⟩
       .rw[I]at H;cases H;exact p1
       .rw[I]at H;cases H
      have:=(Array.getElem?_eq_some_iff.mp as).1;exact%[es[i]'(W.size▸this)|by simp[<-W.size,this]]
     have%[g,u,rfl|v]:=el i x0 p;have bb:q<M:=Nat.lt_of_le_of_ne q2 λz=>by rw[z,me]at I;cases I
     have J:↥A (do
      let f<-holding [Value.ref g] (eqBool (Value.ref g) (Value.ref r))
      let x<-setState a
      if(true&&f)=true then pure (SetFound.there none)
      else match x.2.snd.sameMemory t.moves t.mask with
       | some same=>
         match if same=true then x.2.snd.slot (way t h q)else Slot.empty with
         | Slot.live G=>
           match x.fst[G]? with
           | some (_,y')=>do
             let b<-isSame y' (Value.ref g)
             let d<-pure (if b=true then some G else none)
             match d with
              | none=>do
                rule "set.search.anew"
                setSearchFrom a (Value.ref r) h true fuel none
              | some G=>
                if f=true then pure (SetFound.there (some G))
                else setSearchFrom a (Value.ref r) h true fuel (some (stand t h (q+1)))
           | none=>do
             let d<-pure none
             match d with
              | none=>do
                rule "set.search.anew"
                setSearchFrom a (Value.ref r) h true fuel none
              | some G=>
                if f=true then pure (SetFound.there (some G))
                else setSearchFrom a (Value.ref r) h true fuel (some (stand t h (q+1)))
         | x=>do
           let d<-pure none
           match d with
            | none=>do
              rule "set.search.anew"
              setSearchFrom a (Value.ref r) h true fuel none
            | some G=>
              if f=true then pure (SetFound.there (some G))
              else setSearchFrom a (Value.ref r) h true fuel (some (stand t h (q+1)))
       | x=>unsupported "set.changed-during-lookup:is-the-new-block-at-the-old-address") Q E s:=by
      refine Z2 (wpAny_holding (wpAny_eqBool_tuple hu v hk (Z2 (wpAny_setState_of ho hd hf ?_))));dsimp only;by_cases B:u=k
      .subst B;rw[Zf rfl];exact Z3 (h1 %[i,g,(by rw[p]at e2;exact e2)▸p|v])
      .rw[Zh B];have sm:t.sameMemory t.moves t.mask∣true:=by unfold sameMemory;rw[if_pos ∅]
       rw[sm];simp only[if_true];rw[I];dsimp only;rw[p];dsimp only;have same:isSame (Value.ref g) (Value.ref g)=pure true:=by
        unfold isSame;simp
       refine Z2 ?_;rw[same];refine Z3 ?_;simp only[if_true];refine Z2 (Z3 ?_);dsimp only;refine ih (q+1) _ rfl ⋯ ⋯ λj hj i2 r2 k2 s2 g2 t2=>?_
       by_cases a0:j<n
       .exact O j a0 i2 r2 k2 s2 g2 t2
       .by_cases a3:j=q
        .subst a3;rw[I]at s2;cases s2;rw[p]at g2;have:g=r2:=by
          have:=Za g2;injection this with _ z
          injection z
         subst this;exact(v.inj t2)▸B
        .have%[i3,p1|H]:=q3 j ⋯ ⋯;rw[s2]at p1;cases p1;rw[g2]at H;intro z;rw[z]at H;exact H hh
     dsimp only;rw[p];dsimp only;by_cases L:(!t.led)=true
     .rw[if_pos L];refine Z2 (wJ hk _ (λy hy=>?_) ?_)
      .have%[e,a4|rfl]:=Xn hy;have%[i2|hi2]:=Array.getElem?_of_mem ((Array.mem_filter.mp (mem_toList_iff.mp a4)).1);have%[r2,k2,rfl|a5]:=el i2 e hi2;exact%[r2,k2,ρ|a5]
      .exact J
     .rw[if_neg L];exact J
 exact N 100000 0 none rfl (Xd _) (by unfold turns at m1;lia) (λj hj=>absurd hj (X2 _))
end
structure IN (es:Array _) (t:SetTable) (led:Bool):Prop where
 wf:WF t es
 roomy:t.place.size*5<t.mask*3
 small:t.mask<=7\/t.mask+1<=8*es.size
 led:t.led=led
 plain:es.size≠0->t.plain=false
def IN.fits{es:Array _}{t:SetTable}{led:Bool}(I:IN es t led):t.fits es.size=true:=by
 unfold SetTable.fits fill;rw[I.wf.dum];have:=I.roomy;simp[I.wf.size];rw[<-I.wf.size]
 lia
def IN.fresh(finger moves:Nat)(led:Bool):IN #[] (SetTable.fresh finger moves led) led:=
 %[%[%[3|rfl],Zi _,rfl,λa b c=>absurd c (by simp[SetTable.fresh]),λj d=>by simp[SetTable.fresh]at d,rfl|λi j h x hi=>by simp[SetTable.fresh]at hi],show 0*5<7*3 from !1,.inl (Zi _),rfl|λq=>absurd rfl q]
section
variable{prog:Program}{w:World}{K:Type}[DecidableEq K]{knd:KeyKind prog w K}{A:Around}{E:ZD}{s:Shared}
def relay_w(d:s.heap.get? a∣o)(e:o.data= .set es z t)(i:t.fits es.size=true)(B:es.size<=n)(hw:n<=4000)
 (h:∀c t',c.toList.Perm es.toList->WF t' c->t'.led=t.led->t'.plain=t.plain->n<=t'.mask->t'.mask+1<=2*n\/t'.mask<=7->Q () (s>>>s.heap.update a (Obj.putSet c t'))):
 ↥A (setRelay a n) Q E s:=by
 have%[k,j,f,lt|l]:=wI (n:=n) ⋯;have C:8<=2^k:=Yf (by simp:8<=2^3) (Nat.pow_le_pow_right ∅ j);have g:2^k<=2*n\/2^k=8:=by
  rcases l with q|q
  .exact .inl q
  .exact .inr (by rw[q])
 have m:2^k<=8000:=by rcases g with q|q<;> lia
 let p:SetTable:={t with mask:=2^k-1}
 have%[t',b,r,G,u,v,H,W|P]:=laid_ok (t:=p) (k:=k) (by show 2^k-1+1=2^k;lia) (by show 7<=2^k-1;lia) es (by show es.size<=2^k-1;lia) t.finger _ t.led t.plain;have y:t.relaid (es\1) n∣(t',b):=by
  unfold relaid;rw[f];exact r
 have sz:(b.filterMap (es[·]?)).size=es.size:=by rw[<-Zb,P.length_eq,Zb]
 refine Z2 (wpAny_setState_of d e i ?_);dsimp only;rw[f,if_neg (by rw[PySem.sizeLine_eq];lia)];rw[y];refine Z2 ?_;show wpAny _ A (if((b.filterMap _).size != es.size)=true then _ else pure _) _ E s;rw[if_neg (by simp[sz])];exact Z3 (wpAny_storeSet_of d e (h _ t' P W u v ⋯ (by rcases g with q|q<;> lia)) (by rw[sz,PySem.sizeLine_eq];lia))
def BB(d:s.heap.get? a∣o)(e:o.data= .set es i t)(f:t.fits es.size=true)(j:es.size<=1000)(m:es.size≠0)(c:t.plain=false)
 (h:∀b t',b.toList.Perm es.toList->IN b t' t.led->t'.plain=false->Q () (s>>>s.heap.update a (Obj.putSet b t'))):
 ↥A (setRelay a (grown es.size)) Q E s:=by
 have g:grown es.size=es.size*4:=by unfold grown;rw[if_neg ⋯]
 rw[g];refine relay_w d e f ⋯ ⋯ λb t' P W l p n m2=>?_
 have sz:b.size=es.size:=by rw[<-Zb,P.length_eq,Zb]
 exact h b t' P %[W,by rw[W.size,sz];lia,⋯,l|λ_=>p▸c] (p▸c)
def zv{led:Bool}(M:A.units<cLine)(n:s.heap.get? a∣o)(l:o.data= .set es ep t)(I:IN es t led)(hn:es.size+1<=1000)
 (el:EL knd s.heap es) (B:IsTupleKey knd s.heap k r) (hv:∀(s':Shared) (N:Bool->Shared->Prop),IsTupleKey knd s'.heap k r->N false s'->↥A (hashByValue 8 (.ref r)) N E s')
 (h1:(∃(i:Nat) (p:Addr),es[i]?∣(tupleKeyHash knd k,Value.ref p)/\IsTupleKey knd s.heap k p)->Q false {s with toks:=s.toks+(~~~k+1)})
 (O:(∀(i:Nat) (p:Addr) (C:List K),es[i]?∣(tupleKeyHash knd C,Value.ref p)->IsTupleKey knd s.heap C p->C≠k)->∀f t' G h',h'.get? a=some {o with data:= .set f G t'}->SameBut a s.heap h'->f.toList.Perm (es.toList++[(tupleKeyHash knd k,Value.ref r)])->IN f t' led->Q true {s with heap:=h',toks:=s.toks+(~~~k+1)}):
 ↥A (setAdd a (.ref r)) Q E s:=by
 unfold setAdd;refine wpAny_holding (Z2 (wpAny_pyHash_tuple M B ?_));unfold setAddHashed;refine wpAny_holding ?_;unfold setAddHashedIn;refine Z2 (wpAny_setState_of (s:={s with toks:=s.toks+(~~~k+1)}) n l I.fits ?_);dsimp only;have ns:byScan (Value.ref r) es=false:=rfl;rw[ns];simp only[Zz,if_false];have rm:=I.roomy;refine Z2 (sN (s:={s with toks:=s.toks+(~~~k+1)}) M n l I.wf ⋯ (by rcases I.small with q|q<;> lia) el B (λq=>?_) λm T m2 U=>?_)
 .exact Z3 (h1 q)
 .dsimp only;refine Z2 (wpAny_setState_of (s:={s with toks:=s.toks+(~~~k+1)}) n l I.fits ?_);dsimp only;have u:=I.wf;have%[p1,Y,p3,p4,p5,p6|Wp]:=u.put (x:=Value.ref r) T m2 t.led false;have%[_,_,_,_,_,_|Wq]:=u.put (x:=Value.ref r) T m2 (t.put (way t (tupleKeyHash knd k) m)).1.led (t.put (way t (tupleKeyHash knd k) m)).1.plain;have v:(t.put (way t (tupleKeyHash knd k) m)).2<=es.size:=by
   rw[p1,<-u.size];exact(jv u.rise _).1
  have d:(insertAt es (t.put (way t (tupleKeyHash knd k) m)).2 (tupleKeyHash knd k,Value.ref r)).size=es.size+1:=iF _ _ _ v;have g:(insertAt es (t.put (way t (tupleKeyHash knd k) m)).2 (tupleKeyHash knd k,Value.ref r)).toList.Perm (es.toList++[(tupleKeyHash knd k,Value.ref r)]):=by
   rw[jX _ _ _ v];have q:=X9 (t.put (way t (tupleKeyHash knd k) m)).2 es.toList;refine List.Perm.trans List.perm_middle ?_;rw[q];exact List.perm_append_comm (l₁:=[_])
  generalize ab:insertAt es _ _=c at Wp Wq d g
  have e:∀b:SetTable,WF b c->b.mask=t.mask->b.place.size=t.place.size+1->b.led=led->b.plain=false->
   ↥A (do storeSet a c b;if(!false&&b.tooFull)=true then do setRelay a (grown (es.size+1));pure true else pure true) Q E {s with toks:=s.toks+(~~~k+1)}:=λb y e1 e2 e3 e4=>by
   have H:=by
    have q:=get?_update_self (Obj.putSet c b) n (by rw[putSet_of c b l];rfl);rwa[putSet_of c b l]at q
   have b1:=SameBut.update s.heap a (Obj.putSet c b);refine Z2 (wpAny_storeSet_of n l ?_ (d▸Yf hn (!1)));have J:b.tooFull=true↔b.mask*3<=b.place.size*5:=by
    unfold tooFull fill;rw[y.dum];simp
   by_cases hf:b.tooFull=true
   .rw[if_pos (by simp[hf])];have z:b.fits c.size=true:=by
     unfold SetTable.fits fill;rw[y.dum];simp[y.size];exact y.size▸(by rw[e1,e2];have:=u.big;lia)
    rw[<-d];refine Z2 (BB H rfl z ⋯ ⋯ e4 λh L P3 I3 _=>Z3 ?_);have g2:=by
     have q:=get?_update_self (Obj.putSet h L) H (by rfl);rwa[putSet_of h L rfl]at q
    exact O U h L _ _ g2 (b1.trans (SameBut.update _ a _)) (P3.trans g) (by rw[e3]at I3;exact I3)
   .rw[if_neg (by simp[hf])];refine Z3 (O U c b _ _ H b1 g %[y,⋯,?_,e3|λ_=>e4]);rw[e1,d];rcases I.small with q|q
    .exact .inl q
    .exact .inr ⋯
  by_cases j:(t.put (way t (tupleKeyHash knd k) m)).1.plain=true
  .rw[if_pos j];exact Z2 (hv _ _ B (e _ Wp Y p3 I.led rfl))
  .rw[if_neg j];exact e _ Wq Y p3 (p4.trans I.led) ↑j
end
end _T
namespace _L
open PySem PySem.Spec PyProof.Rows _T
abbrev gN{a:Type}[DecidableEq a](ps:List (Addr×a))(p:Addr×a):List (Addr×a):=if p.2∈ps\2 then ps else ps++[p]
abbrev a9{a:Type}[DecidableEq a](l:List (Addr×a)):List (Addr×a):=l.foldl gN []
section
variable{κ:Type}[DecidableEq κ]
def BC{ps:List _}{p q:Addr×κ}(h:q∈gN ps p):q∈ps\/q=p:=by
 unfold gN at h
 split at h
 .exact .inl h
 simp_all
def zw{ps:List (Addr×κ)}{p:Addr×κ}{k:κ}:k∈(gN ps p)\2↔k∈ps\2\/k=p.2:=by
 unfold gN;by_cases h:p.2∈ps\2
 .rw[if_pos h];exact%[.inl|λq=>q.elim id λe=>e▸h]
 .rw[if_neg h,Zd,Yr];simp
def wK{ps:List (Addr×κ)}{p:Addr×κ}(h:(ps\2).Nodup):((gN ps p)\2).Nodup:=by
 unfold gN
 split
 .exact h
 .rename_i a
  rw[Zd];exact mI h a
def xF:∀(l ps:List (Addr×κ)),(ps\2).Nodup->((l.foldl gN ps)\2).Nodup/\(∀k,k∈(l.foldl gN ps)\2↔k∈ps\2\/k∈l\2)/\(∀q∈l.foldl gN ps,q∈ps\/q∈l)
 |[],ps,h=>%[h,λk=>by simp|λq a=> .inl a]
 | p::l,ps,h=>by
   have%[b,c|d]:=xF l _ (wK h);rw[Y8];refine%[b,λk=>?_|λq a=>?_]
   .rw[c,zw,Yp,Yu]
    grind
   .rcases d q a with z|z
    .rcases BC z with z|z
     .exact .inl z
     .exact .inr (z▸Zm)
    .exact .inr (Zk _ z)
def dL(l:List (Addr×κ)):((a9 l)\2).Nodup:=(xF l [] X1).1
def gO(l:List (Addr×κ))(k:κ):k∈(a9 l)\2↔k∈l\2:=by
 have:=(xF l [] X1).2.1 k;simpa [a9]using this
def bj(l:List (Addr×κ)):∀q∈a9 l,q∈l:=λq a=>by
 rcases(xF l [] X1).2.2 q a with z|z
 .cases z
 .exact z
def sO(val:Nat->Addr×κ)(i:Nat):a9 ((List.range (i+1)).map val)=gN (a9 ((List.range i).map val)) (val i):=by
 unfold a9;rw[range_succ,Zd,List.foldl_append];rfl
end
section
variable{prog:Program}{w:World}{κ:Type}[DecidableEq κ]{knd:PySem.KeyKind prog w κ}{A:Around}{E:ZD}{s:Shared}{a:Addr}
abbrev nK(w:World)(knd:PySem.KeyKind prog w κ)(a:Addr)(ps:List (Addr×List κ))(h:Heap):Prop:=
 ∃o es b t,h.get? a∣o/\o.ExactSet/\o.data= .set es b t/\IN es t (!aT w)/\es.toList.Perm (ps.map λp=>(tupleKeyHash knd p.2,Value.ref p.1))
def nK.keep(S:nK w knd a ps h)(k:∀o,h.get? a∣o->h'.get? a∣o):nK w knd a ps h':=by
 have%[o,es,b,t,c|r]:=S;exact%[o,es,b,t,k o c|r]
def mL(x:IsTupleKey knd h k r)(q:∀o,h.get? r∣o->h'.get? r∣o):IsTupleKey knd h' k r:=by
 have%[o,items,n,b|z]:=x;exact%[o,items,n,q o b|z]
def BD(u:A.units<cLine)(v:nK w knd a ps s.heap)(tk:∀q∈ps,IsTupleKey knd s.heap q.2 q.1)(y:IsTupleKey knd s.heap p.2 p.1)(room: ~~~ps+1<=1000)
 (B:∀(s':Shared) (l:Bool->Shared->Prop),IsTupleKey knd s'.heap p.2 p.1->l false s'->↥A (hashByValue 8 (.ref p.1)) l E s')
 (m:∀h' b tk,SameBut a s.heap h'->nK w knd a (gN ps p) h'->s.toks<=tk->Q b {s with heap:=h',toks:=tk}):↥A (setAdd a (.ref p.1)) Q E s:=by
 have%[o,es,C,t,n,f,r,I|P]:=v;have Y:=by
  have:=P.length_eq;rw[Z6,Zb]at this;exact this
 have mem:∀i e,es[i]?∣e->∃q∈ps,e=(tupleKeyHash knd q.2,Value.ref q.1):=λi e g=>by
  have:=mem_toList_iff.mpr (Array.mem_of_getElem? g);have%[q,c|rfl]:=Xn (P.mem_iff.mp this);exact%[q,c|ρ]
 have G:EL knd s.heap es:=λi e g=>by
  have%[q,c|rfl]:=mem i e g;exact%[q.1,q.2,ρ|tk q c]
 refine zv u n r I ⋯ G y B (λ⟨i,H,e,J⟩=>?_) λd h t' j h' g' L M N=>?_
 .have%[q,c|O]:=mem i _ e;have T:H=q.1:=by injection O with _ z;injection z
  subst T;refine m s.heap false _ (SameBut.refl a s.heap) ?_ (le_add_right _ _);unfold gN;rw[if_pos (Xo %[q,c|(J.inj (tk q c)).symm])];exact%[o,es,C,t,n,f,r,I|P]
 .refine m h' true _ L ?_ (le_add_right _ _);unfold gN;rw[if_neg]
  .refine%[_,h,j,t',g',f,ρ,N|M.trans ?_];rw[Zd];exact P.append_right _
  .intro U;have%[q,c|e]:=Xn U;have:=P.mem_iff.mpr (Xo %[q,c|rfl]);have%[i|hi]:=Xe this;exact d i q.1 q.2 ↑hi (tk q c) e
end
section
variable{prog:Program}{w:World}{κ:Type}[DecidableEq κ]{knd:PySem.KeyKind prog w κ}{A:Around}{R:Result->Shared->Prop}{I:Addr}{fp wr:List Addr}{G:Array GenState->Array GenState->Prop}{n:Nat}{P:Nat->Value->Prop}{St:Nat->Shared->Prop}
def pG(W:WalksS prog w A.in1 I fp wr G n P St)(S:Addr)(r:S∉fp)(Q:A.in1.units<cLine)(val:Nat->Addr×List κ)(u:∀i v,i<n->P i v->v= .ref (val i).1)(U:List (List κ))(hU: ~~~U<=999)(C:∀i,i<n->(val i).2∈U)(c:∀i,i<n->(val i).1≠S/\(val i).1∉wr)
 (T:∀i,i<n->∀(s':Shared) (B:Bool->Shared->Prop) (Y:ZD),IsTupleKey knd s'.heap (val i).2 (val i).1->B false s'->↥A.in1 (hashByValue 8 (.ref (val i).1)) B Y s'):
 ∀(k i:Nat) (s:Shared),n-i=k->i<=n->St i s->nK w knd S (a9 ((List.range i).map val)) s.heap->(∀j,j<n->IsTupleKey knd s.heap (val j).2 (val j).1)->
  (∀s',Moved (S::wr) G s s'->nK w knd S (a9 ((List.range n).map val)) s'.heap->R (.ok (.ret .none)) s')->codeAny (model prog w) A (.builtin "set.update.loop" %[[.ref S,.ref I]|[]]) R s:=by
 have out:S∉wr:=λh=>r (W.sub _ h)
 have more:∀b∈wr,b∈S::wr:=λb y=>Zk _ y
 intro k
 induction k with
 | zero=>
   intro i s E hi st H tk d;have e:i=n:=by lia
   subst e;refine codeAny_builtin F.entry_set_update_loop ?_;rw[Around.under_plainId F.plain_set_update_loop _];show wpAny _ A.in1 (pyNext (.ref I)>>= _) _ _ s;refine Z2 (W.done s _ _ st λf l=>?_);show wpAny _ A.in1 (ret Value.none) _ _ f;exact Z3 (d f (l.mono more) (H.keep λo e=>l.heap S o out e))
 | succ k ih=>
   intro i s E hi st H tk d;have lt:i<n:=by lia
   refine codeAny_builtin F.entry_set_update_loop ?_;rw[Around.under_plainId F.plain_set_update_loop _];show wpAny _ A.in1 (pyNext (.ref I)>>= _) _ _ s;refine Z2 (W.item i s _ _ lt st λv f pv J l=>?_);obtain rfl:=u i v lt pv;have g:∀j,j<n->IsTupleKey knd f.heap (val j).2 (val j).1:=λj a=>mL (tk j a) λo e=>l.heap _ o (c j a).2 e
   have L:∀q∈a9 ((List.range i).map val),IsTupleKey knd f.heap q.2 q.1:=λq hq=>by
    have%[j,a|rfl]:=Xn (bj _ q hq);exact g j (by have:=mem_range.mp a;lia)
   have room: ~~~(a9 ((List.range i).map val))+1<=1000:=by
    have q:=nodup_sub (dL ((List.range i).map val)) (m:=U) λk E=>by
     have%[p,hp|rfl]:=Xn ((gO _ k).mp E);have%[j,a|rfl]:=Xn hp;exact C j (by have:=mem_range.mp a;lia)
    rw[Z6]at q
    lia
   refine Z2 (wpAny_holding (BD (p:=val i) Q (H.keep (h':=f.heap) λo e=>l.heap S o out e) L (g i lt) room (λs' B=>T i lt s' B _) λh2 b ab M N z=>Z3 %[plainId_quiet F.plain_set_update_loop _|ih (i+1) _ ⋯ lt (W.frame _ f _ _ J z λb y o e=>?_) (by rw[sO];exact N) (λj a=>mL (g j a) λo e=>(M.2 _ (c j a).1)▸e) λs3 m3 O=>?_]))
   .rw[M.2 b (λq:b=S=>r (q▸y))];exact e
   .refine d s3 (Moved.trans W.gtrans ((l.mono more).then_heap z λb o y e=>?_) m3) O;rw[M.2 b (λq:b=S=>y (q▸Zm))];exact e
end
section
variable{prog:Program}{w:World}{κ:Type}[DecidableEq κ]{knd:PySem.KeyKind prog w κ}{A:Around}{E:ZD}{s:Shared}
def pH(hh:A.handled=none)(hu:A.units+16<cLine)(hl:s.heap.IsList l items)(hi:items.toList=ps.map λp=>Value.ref p.1)(tk:∀p∈ps,IsTupleKey knd s.heap p.2 p.1)(U:List (List κ))(hU: ~~~U<=999)(ab:∀p∈ps,p.2∈U)
 (hv:∀p∈ps,∀(B:Around) (s':Shared) (O:Bool->Shared->Prop) (E':ZD),IsTupleKey knd s'.heap p.2 p.1->O false s'->↥B (hashByValue 8 (.ref p.1)) O E' s')
 (hQ:∀(h':Heap) (tk:Nat),nK w knd ⇑s (a9 ps) h'->(∀b o,s.heap.get? b∣o->h'.get? b∣o)->Q (.ref ⇑s) {s with heap:=h',toks:=tk}):
 ↥A (call (.type "set") [.ref l]) Q E s:=by
 have%[c,tl|a4]:=called_set.mro;have ac:=called_set.made;have a5:=called_set.sub;refine wpAny_call (codeAny_of_tree ?_);show wpAny _ _ (callAny (.type "set") _) _ _ _;refine Z3 %[Code.quiet_builtin _ (!0)|codeAny_builtin F.entry_type_call ?_];rw[Around.under_plain (weight_type_call_type "set" [.ref l] []) rfl];have bb:=called_set.notType;have bc:=called_set.canCreate;have be:=PySem.F.typeCall_set_1 (.ref l)
 repeat any_goals first|assumption|wp_step
 refine codeAny_mono (ui (.ref l) (E:=E) (Q₁:=λobj n=>obj= .ref ⇑s/\n=(s>>>s.heap.push (aU w))) %[rfl|rfl]) λr n C=>?_
 cases r with
 | error e=>exact C
 | ok fl=>
   cases fl with
   | ret obj=>
     have%[rfl|rfl]:=C;have gS:(s.heap.push (aU w)).get? ⇑s∣aU w:=Zj _ rfl;have tS:Shared.TypeIs (s>>>s.heap.push (aU w)) (.ref ⇑s) "set":=%[_,gS|rfl]
     have bf:=called_set.init.lookup;have bl:=called_set.init.bind (.ref ⇑s)
     repeat any_goals first|assumption|wp_step
     refine codeAny_mono (codeAny_call_builtin (R:=wants (λr q=>r= .none/\∃h' tk,q={s with heap:=h',toks:=tk}/\nK w knd ⇑s (a9 ps) h'/\(∀b o,s.heap.get? b∣o->h'.get? b∣o)) E) called_set.init.plain F.entry_set_init (check_set_init_1 tS ?_)) λG q d=>?_
     .have%[ol,gl,cl,nl|dl]:=hl;have%[a6,y,ae|g]:=ol;simp only at cl dl;subst cl;subst dl;have ag:(s.heap.push (aU w)).get? l=some {cls:= .type "list",dict:=y,data:= .seq items nl,slots:=g}:=Z7 _ gl;have bm:=PySem.F.sub_list_set;have bt:=PySem.F.sub_list_frozenset;have b0:(Value.type "list"==Value.type "dict")=false:=!1
      have H:(s.heap.push (aU w)).IsList l items:=%[_,ag,rfl,nl|rfl]
      unfold Builtin.«set.__init__»;unfold noKeywords;unfold Builtin.Frozenset.updateFrom
      generalize al:pyIter=PI
      wp_walk
      subst al;refine wpAny_pyIter_list H (Z2 (wpAny_runValue ?_));have I:l<⇑s:=Zu gl;have h3:A.in1.in1.in1.handled=none:=by simp[hh]
      have T:(s.heap.push (aU w)).objs.size=⇑s+1:=Zq ..;have an:l≠(s.heap.push (aU w)).objs.size:=by rw[T];exact Zs (Ym I)
      have as:⇑s∉[(s.heap.push (aU w)).objs.size,l]:=by
       rw[T];simp only[Yu,X3,or_false,not_or];exact%[Zs (Yn _)|Yx I]
      have J:items.size= ~~~ps:=by rw[<-Zb,hi,Z6]
      have a0:A.in1.in1.in1.units<cLine:=by simp only[Around.in1];lia
      have f:∀i,i<items.size->∃p∈ps,ps[i]?∣p/\ps.getD i (0,[])=p:=λi h=>by
       have h':i< ~~~ps:=by lia
       exact%[ps[i],Yc h',by simp[h']|by simp[Zc,h']]
      refine pG (knd:=knd) ((Walks.list h3 _ l an items).toS) ⇑s as a0 (λi=>ps.getD i (0,[])) (λi v a a1=>?_) U hU (λi a=>?_) (λi a=>?_) (λi a=>?_) (items.size-0) 0 _ ⋯ (Xd _)
       %[%[_,Zj _ rfl,rfl|rfl]|H.push _] %[_,#[],0,_,Z7 _ gS,%[rfl,rfl|rfl],rfl,IN.fresh 0 0 _|List.Perm.refl _] (λj a=>?_) ?_
      .have%[p,u,L|m]:=f i a;have:items.toList[i]?∣v:=by rw[getElem?_toList];exact a1
       rw[hi,Zl,L]at this;show v= .ref (ps.getD i (0,[])).1;rw[m];exact(Za this).symm
      .have%[p,u,L|m]:=f i a;show(ps.getD i (0,[])).2∈U;rw[m];exact ab p u
      .have%[p,u,L|m]:=f i a;have%[po,_,_,pg|_]:=tk p u;have M:=Zu pg;show(ps.getD i (0,[])).1≠_/\(ps.getD i (0,[])).1∉_;rw[m];refine%[Zs M|?_];simp only[Yu,X3,or_false,T];exact Zs (Ym M)
      .have%[p,u,L|m]:=f i a;intro s' O E';show IsTupleKey knd s'.heap (ps.getD i (0,[])).2 (ps.getD i (0,[])).1->_->wpAny _ _ (hashByValue 8 (.ref (ps.getD i (0,[])).1)) _ _ _;rw[m];exact hv p u _ s' O E'
      .have%[p,u,L|m]:=f j a;show IsTupleKey knd _ (ps.getD j (0,[])).2 (ps.getD j (0,[])).1;rw[m];exact mL (tk p u) λo e=>Z7 _ (Z7 _ e)
      intro s3 Y S3;have C:(List.range items.size).map (λi=>ps.getD i (0,[]))=ps:=by
       rw[J];apply Zy
       .simp
       .intro i h1 h2;simp[Zc,h2]
      rw[C]at S3;have%[h',g',d',a2|a3]:=s3;have eg:g'=s.gens:=Y.gens;have ed:d'=s.drawn:=Y.drawn;have eo:a3=s.os:=Y.os;subst eg;subst ed;subst eo;refine Z3 ?_;show wpAny _ _ (ret Value.none) _ _ _;refine Z3 %[rfl,h',a2,rfl,S3|λb o e=>?_];have N:=Zu e;refine Y.heap b o ?_ (Z7 _ (Z7 _ e));simp only[Yu,X3,or_false,not_or,T];exact%[Zs N|Zs (Ym N)]
     .cases G with
      | error e=>exact d
      | ok z=>
        cases z with
        | ret r=>
          have%[rfl,h',tk,rfl,S3|k3]:=d
          repeat any_goals first|assumption|wp_step
          exact hQ _ _ S3 k3
        | _=>exact d.elim
   | _=>exact C.elim
end
open PySem PySem.Spec PyProof.Rows
section
variable{prog:Program}{w:World}{A:Around}{s:Shared}
def jf{a:Addr}{vs:ZF}{n:Nat}{kd:SortKind}{Nv:Value->Nat}{P:Fin->Shared->Prop}{E:ZD}(G:s.heap.get? a∣seqObj "list" vs.toArray n)(I: ~~~vs<=100000)
 (f:∀j:Heap,(∀b o,b≠a->s.heap.get? b∣o->j.get? b∣o)->2<= ~~~vs->∀Q:SortKind->Shared->Prop,Q kd (s>>>j)->↥A (keyKind' vs.toArray) Q E (s>>>j))
 (T:∀j:Heap,(∀b o,b≠a->s.heap.get? b∣o->j.get? b∣o)->_S.Cmp prog w A (λs'=>s'=(s>>>j)) kd (λx=>x.1∈vs) (λx=>Nv x.1))
 (h:∀out:ZF,out.Perm vs->(~~~vs<64->out.Pairwise (λx y=>Nv x<=Nv y))->P (.done (.ret .none)) (s>>>sortedHeap s.heap a vs out.toArray)):
 ↥A (Builtin.«list.sort» %[[.ref a]|[]]) P E s:=by
 rw[list_sort_plain];have M:a<⇑s:=Zu G;have g: ~~~vs<=sizeLine:=Yf I (!1);refine Z2 (listItems_at G rfl ?_);refine Z2 (listUpdate_at G rfl ?_ (g));obtain⟨J,B⟩:∃J,(s.heap.update a (Obj.mapSeq λ_=> #[])).get? a∣(seqObj "list" #[] J):=%[_|get?_update_seq G (λ_=> #[])]
 refine Z2 (seqEpoch_at B rfl ?_);refine Z2 (wpAny_newTuple ?_ (g));refine Z2 (wpAny_newList ?_);refine wpAny_holding ?_;have keep:∀b o,b≠a->s.heap.get? b∣o->(((s.heap.update a (Obj.mapSeq λ_=> #[])).push (seqObj "tuple" vs.toArray 0)).push (seqObj "list" #[] 0)).get? b∣o:=λb o U e=>
  Z7 _ (Z7 _ ((get?_update_other _ _ (Ne.symm U)).trans e))
 have d:(((s.heap.update a (Obj.mapSeq λ_=> #[])).push (seqObj "tuple" vs.toArray 0)).push (seqObj "list" #[] 0)).get? a∣(seqObj "list" #[] J):=by
  rw[Heap.get?_push_ne _ _ _ (by rw[size_push',Heap.size_update];exact Zs (Ym M)),Heap.get?_push_ne _ _ _ (by rw[Heap.size_update];exact Zs M)];exact B
 have f:=f _ keep;show ↥A _ P E {s with heap:=((s.heap.update a (Obj.mapSeq λ_=> #[])).push (seqObj "tuple" vs.toArray 0)).push (seqObj "list" #[] 0)};dsimp only;have L:vs.toArray.size= ~~~vs:=by simp
 have m:(vs.toArray.zip vs.toArray).toList=vs.map λv=>(v,v):=by
  rw[Array.toList_zip,List.toList_toArray];apply Zy
  .simp
  .intro i h1 p;simp
 have C:∀c:SortSt,(arrOf c).toList.Perm (vs.map λv=>(v,v))->(~~~vs<64->_S.Srt (λx=>Nv x.1) (arrOf c).toList)->P (.done (.ret .none)) (s>>>(sortedHeap s.heap a vs ((arrOf c)\2))):=by
  intro c u H;have N:∀x∈(arrOf c).toList,x.1=x.2:=λx z=>by
   have%[v,_|rfl]:=Xn (u.mem_iff.mp z);rfl
  have e:(arrOf c)\2=((arrOf c).toList\2).toArray:=by
   apply Array.ext';simp
  rw[e];refine h _ ?_ ?_
  .have:=u\2;rwa[Yq,show((λx:Keyed=>x.2) ∘ λv:Value=>(v,v))=id from rfl,map_id]at this
  .intro l;rw[X6];exact Xf (λ{x y} z Y q=>by rw[<-N x z,<-N y Y];exact q) (H l)
 by_cases p:vs.toArray.size<2
 .rw[if_pos p,if_pos p];refine Z2 (Z3 ?_);rw[StateT.run_pure];refine Z2 (Z3 ?_);dsimp only;refine Z2 (seqEpoch_at d rfl (Z2 (listUpdate_at d rfl ?_ (hsz2:=by rw[size_map];show(pairsOf vs).size<=_;rw[pairsOf_size,sizeLine_eq];omega))));simp only[bne_self_eq_false,Zz,if_false];refine Z3 (C _ (by rw[m]) λ_=>?_);rw[m]
  match vs,L,p with
  |[],_,_=>exact List.Pairwise.nil
  |[v],_,_=>exact List.pairwise_singleton _ _
  | v1::v2::r,h3,h4=>simp at h4;omega
 .rw[if_neg p,if_neg p];refine Z2 (f (by omega) _ ?_);refine Z2 (wpAny_mono (_S.sc_sortRuns (D:=λx=>x.1∈vs) (st:=SortSt.mk' kd (vs.toArray.zip vs.toArray) #[] 7 none) (T _ keep) (λx z=>?_) ?_ rfl rfl
   (Q:=λ_ c=>(arrOf c).toList.Perm (vs.map λv=>(v,v))/\failedOf c=none/\(~~~vs<64->_S.Srt (λx=>Nv x.1) (arrOf c).toList)) (λc a1 a2 a3=>%[?_,a3|λl=>a2 ?_]) _ rfl) ?_ λ_ _ e=>e.elim)
  .rw[m]at z;have%[v,hv|rfl]:=Xn z;exact hv
  .rw[<-Zb,m,Z6];omega
  .rwa[m]at a1
  .rwa[<-Zb,m,Z6]
  .rintro⟨⟨⟩,c⟩ s' ⟨rfl,u,O,H⟩;dsimp only at u O H ⊢;refine Z2 (seqEpoch_at d rfl (Z2 (listUpdate_at d rfl ?_ (hsz2:=?_))))
   .rw[O];simp only[bne_self_eq_false,Zz,if_false];exact Z3 (C c u H)
   .rw[size_map,<-Zb,u.length_eq,Z6];exact Nat.le_succ_of_le g
end
abbrev aM(x y:Str):Bool:=decide (x.cps.toList<y.cps.toList)
abbrev fG:ZB->ZB->Bool
 |[],[]=>false
 |[],_::_=>true
 | _::_,[]=>false
 | x::xs,y::ys=>if x=y then fG xs ys else aM x y
def cK(x:Str):aM x x=false:=Zh (List.lt_irrefl _)
def Ge{x y:Str}(h:x.cps.toList=y.cps.toList):x=y:=by
 obtain⟨⟨l⟩⟩:=x
 simp_all
def dG{x y z:Str}(a:aM x y=true)(b:aM y z=true):aM x z=true:=Zf (List.lt_trans (Zo a) (Zo b))
def dm{x y:Str}(h:aM x y=false)(a:x≠y):aM y x=true:=by
 exact Zf (Classical.byContradiction λb=>a (Ge (List.le_antisymm b (of_decide_eq_false h))))
def xG:∀x,fG x x=false
 |[]=>rfl
 | x::xs=>by rw[fG,if_pos rfl];exact xG xs
def iX:∀{x y z:ZB},fG x y=true->fG y z=true->fG x z=true
 |[],[],z,b,a=>by cases b
 |[],y::ys,[],b,a=>by cases a
 |[],y::ys,z::zs,b,a=>rfl
 | x::xs,[],z,b,a=>by cases b
 | x::xs,y::ys,[],b,a=>by cases a
 | x::xs,y::ys,z::zs,b,a=>by
   rw[fG]at b a ⊢;by_cases d:x=y
   .rw[if_pos d]at b;subst d;by_cases c:x=z
    .rw[if_pos c]at a ⊢;exact iX b a
    .rw[if_neg c]at a ⊢;exact a
   .rw[if_neg d]at b;by_cases c:y=z
    .rw[if_pos c]at a;subst c;rw[if_neg d];exact b
    .rw[if_neg c]at a;have f:=dG b a;rw[if_neg (λe=>by rw[e,cK]at f;cases f)];exact f
def qG:∀{x y:ZB},fG x y=false->x≠y->fG y x=true
 |[],[],a,c=>absurd rfl c
 |[],y::ys,a,c=>by cases a
 | x::xs,[],a,c=>rfl
 | x::xs,y::ys,a,c=>by
   rw[fG]at a ⊢;by_cases b:x=y
   .rw[if_pos b]at a;rw[if_pos b.symm];exact qG a λe=>c (by rw[b,e])
   .rw[if_neg b]at a;rw[if_neg (Ne.symm b)];exact dm a b
abbrev iG(ks:List ZB)(k:ZB):Nat:=ks.countP λu=>fG u k
def mM{ks:List ZB}{x y:ZB}(b:x∈ks):fG x y=decide (iG ks x<iG ks y):=by
 have up:∀(l:List ZB) p q,(∀u∈l,p u=true->q u=true)->l.countP p<=l.countP q:=λl p q h=>List.countP_mono_left h
 cases h:fG x y with
 | true=>
   symm
   refine Zf ?_;have c:∀l:List _,x∈l->l.countP (λu=>fG u x)<l.countP (λu=>fG u y):=by
    intro l
    induction l with
    | nil=>simp
    | cons u l d=>
      intro b;rw[countP_cons,countP_cons];have f:=up l (λu=>fG u x) _ λu _ a=>iX a h
      rcases mem_cons.mp b with e|e
      .subst e;rw[if_neg (by rw[xG];simp),if_pos h];omega
      .have:=d e;by_cases a:fG u x=true
       .rw[if_pos a,if_pos (iX a h)];omega
       .rw[if_neg a]
        split<;> omega
   exact c ks b
 | false=>
   symm
   refine Zh (Nat.not_lt.mpr (up ks _ _ λu _ a=>?_));by_cases e:x=y
   .exact e▸a
   .exact iX a (qG h e)
section
variable{prog:Program}{w:World}{A:Around}{s:Shared}{E:ZD}
nonrec abbrev zx(prog:Program)(w:World)(h:Heap)(zs:ZB)(r:Addr):Prop:=IsTupleKey (aQ prog w) h (zs.map Sum.inr) r
def fU:∀{zs:ZB} {vs:ZF},ItemsAre (aQ prog w) (zs.map Sum.inr) vs->StrsAre vs zs
 |[],_,h=>by cases h;exact .nil
 | z::zs,_,h=>by
   cases h with
   | cons a d=>
     have a:jb (Sum.inr z) _=true:=a;rcases aW a with⟨i,t,b,c⟩|⟨y,t,b,c⟩
     .cases b
     .cases b;subst c;exact .cons z t (fU d)
def EJ{b a:Bool}{Q:Bool->Shared->Prop}:∀(x y:ZB) (vs us:ZF) (i:Nat),StrsAre vs x->StrsAre us y->(~~~x= ~~~y)->a=false->Q (fG x y) s->PySem.W.KatLex prog w A b a Q (vs.zip us) i s
 |[],[],_,_,i,.nil,.nil,_,c,h=>c▸h
 | x::xs,y::ys,_,_,i,.cons _ t d,.cons _ u f,g,c,h=>by
   rw[List.zip_cons_cons];refine PySem.W.kat_cons (eqBool_str ?_);rw[fG]at h;by_cases e:x=y
   .subst e;rw[if_pos rfl]at h;rw[beq_self_eq_true];exact PySem.W.kat_yes (EJ xs ys _ _ _ d f ↑g c h)
   .rw[if_neg e]at h;rw[beq_eq_false_iff_ne.mpr e];refine PySem.W.kat_no ?_;cases j:(b&&i==0)with
    | true=>exact oneLt_str h
    | false=>exact PySem.W.kat_one _ _ (lt_str h)
def DK{x y:ZB}{r q:Addr}{Q:Bool->Shared->Prop}{b:Bool}(d:zx prog w s.heap x r)(e:zx prog w s.heap y q)(f: ~~~x= ~~~y)(h:Q (fG x y) s):↥A (keyLt' (tuples' b) (.ref r) (.ref q)) Q E s:=by
 have%[o,xs,nx,g,_,i|j]:=d;have%[p,ys,u,l,_,m|n]:=e;have a:=fU j;have c:=fU n;refine PySem.W.kat_lt g i l m (EJ x y _ _ 0 a c f ?_ h);have v:=a8 a;have z:=a8 c
 grind
end
def uD [DecidableEq d][DecidableEq i](g:d->i)(j:∀a b,g a=g b->a=b)(l:List (Addr×d)):a9 (l.map λp=>(p.1,g p.2))=(a9 l).map λp=>(p.1,g p.2):=by
 have m:∀(l ps:List _),(l.map λp=>(p.1,g p.2)).foldl gN (ps.map λp=>(p.1,g p.2))=(l.foldl gN ps).map λp=>(p.1,g p.2):=by
  intro l
  induction l with
  | nil=>intro ps;rfl
  | cons p l n=>
    intro ps;rw[Yp,Y8,Y8];have e:gN (ps.map λp=>(p.1,g p.2)) (p.1,g p.2)=(gN ps p).map λp=>(p.1,g p.2):=by
     unfold gN;have f:(g p.2∈(ps.map λp=>(p.1,g p.2))\2)↔p.2∈ps\2:=by
      rw[Yq]
      constructor
      .intro h;have%[q,c|e]:=Xn h;exact Xo %[q,c|j _ _ e]
      .intro h;have%[q,c|e]:=Xn h;exact Xo %[q,c|by show g q.2=g p.2;rw[e]]
     by_cases h:p.2∈ps\2
     .rw[if_pos h,if_pos (f.mpr h)]
     .rw[if_neg h,if_neg (λz=>h (f.mp z)),Zd];rfl
    rw[e];exact n _
 exact m l []
noncomputable abbrev Hr(p:Addr×ZB):Addr×List Key:=(p.1,p.2.map Sum.inr)
def mN:∀a b:ZB,a.map (Sum.inr:Str->Key)=b.map Sum.inr->a=b
 |[],[],_=>rfl
 |[],_::_,h=>by cases h
 | _::_,[],h=>by cases h
 | x::xs,y::ys,h=>by
   injection h with c d
   injection c with e
   rw[e,mN xs ys d]
section
#where
variable{S:Addr}
def nL:∀{vs:ZF} {zs:ZB},StrsAre vs zs->ItemsAre (aQ prog w) (zs.map Sum.inr) vs
 | _,_,.nil=> .nil
 | _,_,.cons x t h=> .cons (dC x t) (nL h)
def DL(b:zs≠[])(a:zx prog w s.heap zs r)(h:Q false s):↥A (hashByValue 8 (.ref r)) Q E s:=by
 have c:=a.typeIs;have%[o,items,n,d,_,e|hi]:=a;refine Z2 (wpAny_specialOf c F.slot_tuple_hash.lookup (Z2 (wpAny_seqItems d e (Z2 ?_))));rw[<-forIn_toList]
 match zs,items.toList,(fU hi),b with
 | z::zs,_,.cons _ t f,_=>
   exact Z2 (Z2 (Z3 (Z3 (Z3 (Z3 h)))))
abbrev kOf(ps:ZG):Value->ZB
 | .ref r=>((ps.find? λp=>p.1==r)\2).getD []
 | _=>[]
abbrev aOf:Value->Addr
 | .ref r=>r
 | _=>0
def jx(G:∀(E1:ZD) (R:ZF->Shared->Prop),(∀c vs,vs.Perm (ps.map λp=>Value.ref p.1)->(∀b o,s.heap.get? b∣o->c.heap.get? b∣o)->c.gens=s.gens->c.os=s.os->R vs c)->↥A.in1 (collect (.ref S)) R E1 s)(tk:∀p∈ps,zx prog w s.heap p.2 p.1)(M:∀p∈ps,~~~p.2=m)(m0:m≠0)(few: ~~~ps<=1000)
 (hQ:∀(c s':Shared) (l:Addr) (ss:ZG) (n:Nat),ss.Perm ps->(∀b o,s.heap.get? b∣o->c.heap.get? b∣o)->c.gens=s.gens->c.os=s.os->(∀b o,c.heap.get? b∣o->s'.heap.get? b∣o)->s'.gens=c.gens->s'.os=c.os->⇑c<=l->s'.heap.get? l=some {cls:= .type "list",data:= .seq (ss.map λp=>Value.ref p.1).toArray n}->Q (.ref l) s'):
 ↥A (call (.builtin "sorted") [.ref S]) Q E s:=by
 have j:∀p∈ps,kOf ps (.ref p.1)=p.2:=λp d=>by
  show((ps.find? λq=>q.1==p.1)\2).getD []=p.2;cases i:ps.find? λq=>q.1==p.1 with
  | none=>
    have:=List.find?_eq_none.mp i p d;simp at this
  | some q=>
    have H:=List.mem_of_find?_eq_some i;have e:q.1=p.1:=by have:=List.find?_some i;simpa using this
    show q.2=p.2;have t1:=tk q H;rw[e]at t1;exact mN _ _ (t1.inj (tk p d))
 refine Calls.call_function_entry kind_sorted plain_sorted entry_sorted (args_sorted1 _) ?_;unfold Builtin.«sorted»;refine Z2 (m:=checkCount "sorted" 1 1 _) (Z3 ?_);refine Z2 (G _ _ λc vs N k1 g1 o1=>?_);have hl: ~~~vs= ~~~ps:=by rw[N.length_eq,Z6]
 have mem:∀v∈vs,∃p∈ps,v=Value.ref p.1:=λv B=>by
  have%[p,d|rfl]:=Xn (N.mem_iff.mp B);exact%[p,d|ρ]
 refine Z2 (wpAny_newList ?_ (by rw[sizeLine_eq];lia));have O:(c.heap.push (seqObj "list" vs.toArray 0)).get? ⇑c∣seqObj "list" vs.toArray 0:=Zj _ rfl;have r:∀p∈ps,∀h:Heap,(∀b o,b≠⇑c->(c.heap.push (seqObj "list" vs.toArray 0)).get? b∣o->h.get? b∣o)->zx prog w h p.2 p.1:=λp d h C=>by
  refine mL (tk p d) λo e=>?_
  have I:=k1 _ _ e;exact C _ _ (Zs (Zu I)) (Z7 _ I)
 refine Z2 (wpAny_holding (wpAny_call_entry slot_list_sort %[_,O|rfl] entry_list_sort (jf (s:=(c>>>c.heap.push (seqObj "list" vs.toArray 0))) (kd:=tuples' true) (Nv:=λv=>iG (ps\2) (kOf ps v)) O ⋯ (λh C al Q6 U=>?_) (λh C=>?_) λout p1 _=>%[_,rfl|?_]) (args_list_sort _)))
 .have tups:∀l:ZF,(∀v∈l,∃p∈ps,v=Value.ref p.1)->∃fs:ZF,KatTups h l fs/\ ~~~fs= ~~~l/\∀f∈fs,∃z t,f=Value.str z t:=by
   intro l
   induction l with
   | nil=>intro _;exact%[[],KatTups.nil,ρ|λf i=>by cases i]
   | cons v l ih=>
     intro B;have%[fs,Y,f2|f3]:=ih λu hu=>B u (Zk _ hu)
     have%[p,d|rfl]:=B v Zm;have%[o',items,n',g',c',d'|i']:=r p d h C;have g:=fU i';have ab:p.2≠[]:=λe=>by have:=M p d;rw[e]at this;exact m0 this.symm
     obtain⟨z,zs,ez⟩:∃z zs,p.2=z::zs:=by
      cases ac:p.2 with
      | nil=>exact absurd ac ab
      | cons z zs=>exact%[z,zs|ρ]
     rw[ez]at g;obtain⟨t',vr,ev⟩:∃t' vr,items.toList=Value.str z t'::vr:=by
      cases J:items.toList with
      | nil=>rw[J]at g;cases g
      | cons a b=>
        rw[J]at g;cases g with
        | cons _ t' _=>exact%[t',b|ρ]
     have e0:items[0]?∣Value.str z t':=by
      have:items.toList[0]?∣Value.str z t':=by rw[ev];rfl
      simpa using this
     exact⟨Value.str z t'::fs,KatTups.cons g' c' d' e0 Y,by simp[f2],λf i=>by
      rcases mem_cons.mp i with e|e
      .exact%[z,t'|e]
      .exact f3 f e⟩
  have%[fs,Y,f2|f3]:=tups vs mem;refine PySem.W.kat_kind (T:= .type "str") Y ⋯ (λf i=>?_) (!1) U;have%[z,t'|rfl]:=f3 f i;exact Looks.of_pure rfl
 .intro x y s' hx hy g;subst g;have%[p,d|ae]:=mem _ hx;have%[q,H|ag]:=mem _ hy;have%[x1|x2]:=x;have%[y1|y2]:=y;obtain rfl:x1=Value.ref p.1:=ae;obtain rfl:y1=Value.ref q.1:=ag;show ↥A.in1.in1 (keyLt' (tuples' true) (Value.ref p.1) (Value.ref q.1)) (λb s'=>b=decide (iG (ps\2) (kOf ps (Value.ref p.1))<iG (ps\2) (kOf ps (Value.ref q.1)))/\s'=(c>>>h)) (λ_ _=>False) (c>>>h);rw[j p d,j q H];refine DK (s:=(c>>>h)) (r p d h C) (r q H h C) (by rw[M p d,M q H]) %[?_|rfl];exact mM (Xo %[p,d|rfl])
 .have p3:out.Perm (ps.map λp=>Value.ref p.1):=p1.trans N;have oe:out=(out.map λv=>(aOf v,kOf ps v)).map λp=>Value.ref p.1:=by
   rw[Yq];refine(map_id out).symm.trans (Yo λv B=>?_);have%[p,d|rfl]:=Xn (p3.mem_iff.mp B);rfl
  obtain⟨n,gl⟩:∃n,(sortedHeap (c.heap.push (seqObj "list" vs.toArray 0)) ⇑c vs out.toArray).get? ⇑c∣seqObj "list" out.toArray n:=sortedHeap_at O;refine Z3 %[_,rfl|hQ c _ ⇑c (out.map λv=>(aOf v,kOf ps v)) n ?_ k1 g1 o1 (λb o' I=>?_) rfl rfl (Zi _) ?_]
  .have:=p3.map λv=>(aOf v,kOf ps v)
   rw[Yq]at this;refine this.trans ?_;have:(ps.map ((λv=>(aOf v,kOf ps v)) ∘ λp=>Value.ref p.1))=ps:=by
    refine(Yo λp d=>?_).trans (map_id ps);show(p.1,kOf ps (.ref p.1))=p;rw[j p d]
   rw[this]
  .have L:=Zu I;show(sortedHeap _ _ _ _).get? b=_;rw[sortedHeap_old (Zs L) (by rw[Zq];exact Ym L)];exact Z7 _ I
  .have e3:(seqObj "list" out.toArray n)=({cls:= .type "list",data:= .seq ((out.map λv=>(aOf v,kOf ps v)).map λp=>Value.ref p.1).toArray n}:Obj):=by
    rw[(congrArg List.toArray oe.symm)]
   exact gl.trans (congrArg some e3)
end
section
variable{X:Cx}{K:ZA}
abbrev nM(P:Program)(w:World)(a:Addr)(ps:ZG):HO:= .ext (nK w (aQ P w) a (ps.map Hr))
abbrev aD(H:Hp)(ps:ZG):Prop:=∀p∈ps,p.2≠[]/\H p.1&&&p.2\3
def mO(I:Inv X pins f H s)(h:aD H ps):∀p∈ps,zx X.prog X.w s.heap p.2 p.1:=λp a=>by
 have%[_,its,b,o,c,d,n|e]:=I.hok p.1 _ (h p a).2;exact%[o,its.toArray,n,c,d,e|nL (gA b)]
def sP:∀{ps:ZG} {us:ZF},aJ (ps\0) us->us=ps.map λp=>Value.ref p.1
 |[],_,.nil=>rfl
 | _::_,_,.cons r t=>by
   cases r;rw[sP t];rfl
def mP:∀(ps:ZG),aJ (ps\0) (ps.map λp=>Value.ref p.1)
 |[]=> .nil
 | _::ps=> .cons rfl (mP ps)
def zy(j:X.calm=true)(E:X.A.units+64<cLine):cr X (.type "set") (λxs H Q=>∃p ps,xs=[.ref p]/\SqL X.K H p (ps\0)/\aD H ps/\(∃U:List _,~~~U<=999/\∀q∈ps,q.2∈U)/\∀l,H l=none->Q (.ref l) (upd H l (nM X.prog X.w l (a9 ps)))):=by
 intro pins s G H xs us Q I r h;have%[p,ps,rfl,m,g,%[U,J|d]|q]:=h;have%[u,rfl|n]:=cG r;cases n;have%[its,v,pl|L]:=I.list m;have w:=sP v;refine pH (knd:=aQ X.prog X.w) (I.ok.hd j) ⋯ pl.isList (ps:=ps.map Hr) (!2) (λi a=>?_) (U.map λz=>z.map Sum.inr) (!2) (λi a=>?_) (λi a B s' M N e f=>?_) λh' y S k=>?_
 .have%[b,c|rfl]:=Xn a;exact(mO I g) b c
 .have%[b,c|rfl]:=Xn a;exact Xo %[b.2,d b c|rfl]
 .have%[b,c|rfl]:=Xn a;exact DL (g b c).1 e f
 .rw[(uD _ mN ps)]at S;refine%[.ref ⇑s,_,I.laid (o:=nM X.prog X.w ⇑s _) k (Zi _) %[S,?_|λO T A k1=>nK.keep A k1],ρ|q _ I.fresh];have%[o,_,_,_,C|_]:=S;exact%[o|C]
def sQ(j:X.calm=true):cr X (.builtin "sorted") (λxs H Q=>∃a ps m,xs=[.ref a]/\H a∣nM X.prog X.w a ps/\aD H ps/\(∀p∈ps,~~~p.2=m)/\m≠0/\ ~~~ps<=1000/\
 ∀l (ss:List _),H l=none->ss.Perm ps->Q (.ref l) (upd H l (.lst (ss\0)))):=by
 intro pins s M H xs us Q I r h;have%[a,ps,m,rfl,v,w,y,z,few|q]:=h;have%[u,rfl|A]:=cG r;cases A;have%[%[o,es,N,t,B,c,C,J|P],_|_]:=(I.hok a _ v)
 have O:es.size= ~~~ps:=by
  have:=P.length_eq
  simp_all
 have pv:(es.toList\2).Perm (ps.map λp=>Value.ref p.1):=by
  have:=P\2;rw[Yq,Yq]at this;exact this
 refine jx (λT R E=>jS (I.ok.hd j) B c C (by show es.size<4096;lia) J.fits J.plain J.led λf vs G k1 d e _=>E f vs (G.trans pv) k1 d e) (mO I w) y z few λf s' l ss n i k1 d e k g o b L=>?_
 have I:=I.keptS k1 d e;refine%[.ref l,_,I.stoodS (o:= .lst _) (I.keptS k g o) b %[?_,ss.map _,n,mP ss|L],ρ|q l ss (I.hok.fresh b) i];rw[Z6,i.length_eq,sizeLine_eq]
 lia
def BE{P:Program}(h:X.K=K)(c:X.prog=P)(hw:X.w=w)(a:X.calm=true)(b:bX k X.A):cu X (.type "set") (λxs H Q=>∃p ps,xs=[.ref p]/\SqL K H p (ps\0)/\aD H ps/\(∃U:List ZB,~~~U<=999/\∀q∈ps,q.2∈U)/\∀l,H l=none->Q (.ref l) (upd H l (nM P w l (a9 ps)))):=by
 subst h;subst hw;exact⟨zy a b.units⟩
def qH{P:Program}(c:X.prog=P)(hw:X.w=w)(b:X.calm=true):cu X (.builtin "sorted") (λxs H Q=>∃a ps m,xs=[.ref a]/\H a∣nM P w a ps/\aD H ps/\(∀p∈ps,~~~p.2=m)/\m≠0/\ ~~~ps<=1000/\
 ∀(l:Addr) (ss:ZG),H l=none->ss.Perm ps->Q (.ref l) (upd H l (.lst (ss\0)))):=by
 subst hw;exact⟨sQ b⟩
end
abbrev zA(K:ZA)(a b:Addr):It:=⟨λi H=>∃xs ys x y,SqL K H a xs/\SqL K H b ys/\xs[i]?∣x/\ys[i]?∣y,
 λi H v c=>∃T x y,H T=none/\v= .ref T/\c=upd H T (.tup [x,y])/\(∀xs,SqL K H a xs->xs[i]?∣x)/\(∀ys,SqL K H b ys->ys[i]?∣y),
 λi H=>∃xs ys,SqL K H a xs/\SqL K H b ys/\i<= ~~~xs/\i<= ~~~ys/\(i= ~~~xs\/i= ~~~ys)⟩
def zB{P:Program}{K:ZA}(z TI TO i1 i2 l1 l2:Addr)(D:ZipApart z TI TO i1 i2 l1 l2):
 pA P w K (.Tuple elts kt tp) (zA K l1 l2) [z,TI,TO,i1,i2] z (ZSt z TI TO i1 i2 (λi h=>h.IsListIter i1 l1 i) (λi h=>h.IsListIter i2 l2 i)) where
 mem:=by simp
 obj:=λi h st b hb=>by
  have%[hz,hTI,%[a,c|hTO],%[o1,e1,_|d1],o2,e2,_|d2]:=st
  grind
 keep:=λi h h' st k=>by
  have%[hz,hTI,%[a,c|hTO],%[o1,e1|r1],o2,e2|r2]:=st;exact%[k z ∅ _ hz,k TI ∅ _ hTI,%[a,c|k TO ∅ _ hTO],%[o1,k i1 ∅ _ e1|r1],o2,k i2 ∅ _ e2|r2]
 item:=by
  intro X hP hw hK hc i pins s σ H E I hf st hg;subst hP hw hK;have%[hz,hTI,%[a,c|hTO],h1|h2]:=st;have%[xs,ys,x,y,hq1,hq2,hx|hy]:=hg;have%[its1,rv1,pl1|hz1]:=I.list hq1;have%[its2,rv2,pl2|hz2]:=I.list hq2;have%[u1,hu1|ru1]:=rv1.get hx;have%[u2,hu2|ru2]:=rv2.get hy;refine wpAny_pyNext_zip_item D hz hTI hTO h1 h2 pl1.isList pl2.isList (x:=u1) (y:=u2) ↑hu1 ↑hu2 λh' a1 a2 a3 a4 a5 a6 hk=>%[_,rfl|wpAny_letOwnedTupleGo_zip (s:=(s>>>h')) a1 λh'' hz'' sb=>?_]
  replace sb:SameBut z h' h'':=sb;have turn1:Inv X pins σ H (s>>>h''):=by
   have nit:∀b v,H b∣v->b∉[z,TI,TO,i1,i2]:=λb v e hb=>by rw[(hf b hb).1]at e;cases e
   have kk:∀b o,b∉[z,TI,TO,i1,i2]->s.heap.get? b∣o->h''.get? b∣o:=λb o hb e=>by
    simp only[Yu,X3,or_false,not_or]at hb;exact(sb.2 b hb.1).trans (hk b o hb.1 hb.2.2.1 hb.2.2.2.1 hb.2.2.2.2 e)
   refine I.step (g':=s.gens) (d':=s.drawn) (ch:=[z,TI,TO,i1,i2]) (λb hb=>%[(hf b hb).2.2.2.1,(hf b hb).2.1,(hf b hb).2.2.2.2.1|(hf b hb).2.2.2.2.2]) (λb o _ _ hc e _=>kk b o hc e) (λb o _ _ hc e _=>%[o.slots|kk b o hc e]) (λ_ _ _ _ n=>n)
    (λb o hc e=>%[o|kk b o hc e]) (λ_ _ e=>e) (λ_ _ _ e=>e) (λb ps e=>%[#[]|by rw[e];simp]) (λm hm=>?_) (λb v e=>?_) I.bare
   .have%[o,es,ep,ho|r]:=hm;exact%[o,es,ep,kk _ o (λhb=>(hf _ hb).2.1 rfl) ho|r]
   .refine(I.hok b v e).stay (λc' v' hc' q=>kk c' v' ?_ q) (λ_ q=>q) λ_ _ q=>q
    rcases hc' with q'|q'
    .exact q'▸nit b v e
    .exact nit c' _ q'
  have Hn:H ⇑s=none:=I.fresh;have I2:Inv X pins σ (upd H ⇑s (.tup [x,y])) (s>>>h''):=by
   have nf:⇑s∉X.fs:=I.nofs (Zi _);refine%[turn1.ok,turn1.os,turn1.bare,?_,turn1.loc,turn1.cell,?_,?_,?_,?_|turn1.len]
   .refine%[turn1.base.keep,turn1.base.slot,λb o e n hx=>?_,turn1.base.there,λb xs e=>?_,λb o v e=>?_|λb ps e=>?_]
    .rw[ak ((λb o e=>Zs (Zg (Zu e) I.sz)) b o e)];exact turn1.base.free b o e n hx
    .rw[ak (au (turn1.base.tups b xs e) Hn)];exact turn1.base.tups b xs e
    .rw[ak (au (turn1.base.frzs b o v e) Hn)];exact turn1.base.frzs b o v e
    .have%[m|q]:=turn1.base.tbls b ps e;exact%[m|(ak (au q Hn))▸q]
   .rw[ak (Zs I.lt)];exact turn1.free
   .intro x' c' e;have%[v'|q]:=I.cell x' c' e;rw[ak (Zs q.lt)];exact turn1.freeC x' c' e
   .intro p hp;have%[e,n|r]:=turn1.pin p hp;refine%[e,?_|r];rw[ak (Zs (Zu (I.pin p hp).1))];exact n
   .intro b v e;by_cases hb:b=⇑s
    .subst hb;rw[aa]at e;cases e;exact%[by show 2<=sizeLine;decide,[u1,u2],.cons ru1 (.cons ru2 .nil),_,((sb.2 _ (Yx (Zu hz))).trans a5),ρ,_|ρ]
    .rw[ak hb]at e;refine(turn1.hok b v e).stay (λ_ _ _ q=>q) (λc' q=>?_) λc' xs q=>?_
     .rw[ak (au q Hn)];exact q
     .rw[ak (au q Hn)];exact q
  refine%[.ref ⇑s,_,I2,ρ,%[_,x,y,Hn,ρ,ρ,λzs hzs=>(I.list_inj hzs hq1)▸hx|λzs hzs=>(I.list_inj hzs hq2)▸hy],%[hz'',(sb.2 _ D.TIz).trans (hk _ _ D.TIz D.TITO D.TIi1 D.TIi2 hTI),%[_,_|(sb.2 _ D.TOz).trans a2],?_|?_]|λb hb=>?_]
  .have%[o,e|r]:=a3;exact%[o,(sb.2 _ D.i1z).trans e|r]
  .have%[o,e|r]:=a4;exact%[o,(sb.2 _ D.i2z).trans e|r]
  .have:b<⇑s:=by
    simp only[Yu,X3,or_false]at hb;have%[o1,q1|_]:=h1;have%[o2,q2|_]:=h2;rcases hb with rfl|rfl|rfl|rfl|rfl
    .exact Zu hz
    .exact Zu hTI
    .exact Zu hTO
    .exact Zu q1
    .exact Zu q2
   rw[ak (Zs this)];exact(hf b hb).1
 done:=by
  intro X hP hw hK hc i pins s σ H E I hf st hg;subst hP hw hK;have%[hz,hTI,%[a,c|hTO],h1|h2]:=st;have%[xs,ys,hq1,hq2,g1,g2|g3]:=hg;have%[its1,rv1,pl1|hz1]:=I.list hq1;have%[its2,rv2,pl2|hz2]:=I.list hq2;have n1:= ~~~rv1;have n2:= ~~~rv2;refine wpAny_pyNext_zip_end (I.ok.hd hc) D hz hTI hTO h1 h2 pl1.isList pl2.isList (by
   rcases g3 with q|q
   .exact .inl (by simp;lia)
   .exact .inr (by simp;lia)) λh' hk=>%[rfl|?_]
  have nit:∀b v,H b∣v->b∉[z,TI,TO,i1,i2]:=λb v e hb=>by rw[(hf b hb).1]at e;cases e
  have kk:∀b o,b∉[z,TI,TO,i1,i2]->s.heap.get? b∣o->h'.get? b∣o:=λb o hb e=>by
   simp only[Yu,X3,or_false,not_or]at hb;exact hk b o hb.1 hb.2.2.1 hb.2.2.2.1 hb.2.2.2.2 e
  refine I.step (λb hb=>%[(hf b hb).2.2.2.1,(hf b hb).2.1,(hf b hb).2.2.2.2.1|(hf b hb).2.2.2.2.2]) (λb o _ _ hc e _=>kk b o hc e) (λb o _ _ hc e _=>%[o.slots|kk b o hc e]) (λ_ _ _ _ n=>n)
   (λb o hc e=>%[o|kk b o hc e]) (λ_ _ e=>e) (λ_ _ _ e=>e) (λb ps e=>%[#[]|by rw[e];simp]) (λm hm=>?_) (λb v e=>?_) I.bare
  .have%[o',es,ep,ho'|r]:=hm;exact%[o',es,ep,kk _ o' (λhb=>(hf _ hb).2.1 rfl) ho'|r]
  .refine(I.hok b v e).stay (λc' v' hc' q=>kk c' v' ?_ q) (λ_ q=>q) λ_ _ q=>q
   rcases hc' with q'|q'
   .exact q'▸nit b v e
   .exact nit c' _ q'
 self:=λ_ _ _ _ _ st h=>wpAny_pyIter_zip st.1 h
abbrev EK(K:ZA)(d:TA):TI:=λe H R=>d e H λvs c=>∃a b,vs=[.ref a,.ref b]/\(∃xs,SqL K c a xs)/\(∃ys,SqL K c b ys)/\R (zA K a b) c
section
variable{X:Cx}{K:ZA}{pos:Pos}
def EM(L:X.K=K){M p:Pos}{a b:Expr}{B:TA}(N:Gl X "zip")(O:X.mg "zip"=none)(Q:aS a=false)(n:aS b=false)(T:QA X [a,b] B):
 QI X (.Tuple C kt M) (.Call (.Name "zip" p) [a,b] [] pos) (EK K B):=by
 subst L
 constructor
 intro pins s U H R I h;refine Call_ (gj I N O boot_zip (PyProof.Rows.callWith_type1 (thP (T.h pos pins s U H _ I h) λus c vs Y f r1 q1=>?_) (aB Q) (by rw[aB n];rfl)));have%[r,u,e,%[xs|v],%[ys|w]|q]:=q1;subst e;have%[u1,u2,rfl,e1|e2]:=lF r1;cases e1;cases e2;have%[E,ab,g|ac]:=f.list v;have%[its2,ae,l|ag]:=f.list w;refine call_zip_2 g.isList l.isList λh1 G y z hi1 hi2 _ hk=>wpAny_pyIter_zip G ?_
 have d:∀i j,i≠j->⇑c+i≠⇑c+j:=λi j h e=>h (Nat.add_left_cancel e)
 have na:∀i,r≠⇑c+i:=λi=>Zs (Zg (by have%[o,A|_]:=g.isList;exact Zu A) (le_add_right _ _))
 have nb:∀i,u≠⇑c+i:=λi=>Zs (Zg (by have%[o,A|_]:=l.isList;exact Zu A) (le_add_right _ _))
 refine%[⇑c+4,[⇑c+4,⇑c+2,⇑c+3,⇑c+0,⇑c+1],_,zA X.K r u,Y,ρ,(f.kept hk),
  zB _ _ _ _ _ r u %[d 2 4 (!1),d 3 4 (!1),d 0 4 (!1),d 1 4 (!1),d 2 3 (!1),d 2 0 (!1),d 2 1 (!1),d 3 0 (!1),d 3 1 (!1),d 0 1 (!1),na 4,na 3,na 0,na 1,nb 4,nb 3,nb 0|nb 1],
  %[G,y,%[_,_|z],hi1|hi2],λb J=>?_|q]
 have m:⇑c<=b:=by
  simp only[Yu,X3,or_false]at J;rcases J with rfl|rfl|rfl|rfl|rfl<;> exact le_add_right _ _
 exact f.fpOk m (f.hok.fresh m)
end
open PySem PySem.Spec PySem.Calls PyProof.Rows PyProof.V PySem.W
abbrev Raw(h:Heap)(d:Addr)(es:Array DictEntry)(a:Nat):Prop:=∃o,h.get? d∣o/\o.ExactDict/\o.data= .dict es a
section
#where
variable{d it:Addr}{es:Array DictEntry}{ep i:Nat}
def Raw.ty(h:Raw s.heap d es ep):s.TypeIs (.ref d) "dict":=%[h.choose,h.choose_spec.1|h.choose_spec.2.1.1]
def Raw.lt(r:Raw h d es ep):d<h.objs.size:=Zu r.choose_spec.1
def Raw.up(r:Raw h d es ep)(e:∀o,h.get? d∣o->h'.get? d∣o):Raw h' d es ep:=%[r.choose,e _ r.choose_spec.1|r.choose_spec.2]
def BF(lo:(d==sysModules)=false)(r:Raw s.heap d es ep)
 (h:Q (.ref ⇑s) {s with heap:=s.heap.push {cls:= .type "dict_keyiterator",data:= .fields #[.ref d,.int 0 0,.int es.size 0,.int ep 0]}}):↥A (pyIter (.ref d)) Q E s:=by
 have ty:=r.ty;have%[o,g,_|a]:=r;refine wpAny_pyIter_slot ty F.slot_dict_iter (wpAny_call_entry F.slot_dict_iter ty F.entry_dict_iter (Z2 (Z2 (wpAny_notOrdered_dict ty (Z3 ?_)))) (F.args_dict_iter_1 _));show wpAny _ _ (Builtin.Dict.showsAll d>>= _) _ _ s;unfold Builtin.Dict.showsAll;rw[if_neg (lo▸Zt)];refine Z2 (Z3 (Z2 (wpAny_dictEntries g a (Z2 (wpAny_dictEpoch g a (Z2 (wpAny_newObj_type (Z3 %[_,rfl,"dict_keyiterator",_,%[_,Zj _ rfl|rfl],F.slot_dict_keyiterator_next.lookup|?_]))))))));simpa [rawInt]using h
def BG(k:s.heap.IsKeyIter it d i es.size ep)(r:Raw s.heap d es ep)(hi:i<es.size)
 (h:∀h',h'.IsKeyIter it d (i+1) es.size ep->SameBut it s.heap h'->Q (some es[i].key) (s>>>h')):↥A (pyNext (.ref it)) Q E s:=by
 have%[o,b,f|a]:=id k;have%[g,c,_|e]:=r;unfold pyNext;refine Z2 (wpAny_attempt (wpAny_callSpecial?_slot (name:=!"__next__") k.typeIs F.slot_dict_keyiterator_next (wpAny_call_entry F.slot_dict_keyiterator_next k.typeIs F.entry_dict_keyiterator_next ?_ (F.args_dict_keyiterator_next_1 _))));refine Z2 (Z3 (Z2 (Z2 (Z2 (wpAny_typeNameOfWhole_keyiter k.typeIs (Z3 (Z2 (wpAny_fieldsOf b a ?_))))))));rw[show Builtin.Dict_items.ownsTuple "dict_keyiterator"=false by decide];show wpAny _ _ (if(Value.ref d==Value.none)=true then _ else _) _ _ s;rw[if_neg (by exact Zt)];refine Z2 (Z3 (Z2 (wpAny_dictEntries c e ?_)));rw[if_neg ∅];refine Z2 (Z3 (Z2 (wpAny_dictEpoch c e ?_)));rw[if_neg ∅];refine Z3 ?_;simp only[if_false,Int.toNat_natCast,Array.getElem?_eq_getElem hi];refine Z2 (Z2 (wpAny_typeNameOfWhole_keyiter k.typeIs (Z3 (Z2 (wpAny_isOneOf_keyiter k.typeIs ?_)))));show wpAny _ _ (setField (.ref it) 1 (rawInt ((i:Int) +1))>>= _) _ _ s;refine Z2 (wpAny_setField b a ∅ ?_);have k2:(s.heap.update it (Obj.mapFields (·.setIfInBounds 1 (rawInt ((i:Int) +1))))).IsKeyIter it d (i+1) es.size ep:=
  %[_,get?_update_self _ b (Obj.isFreed_of_fields (Obj.data_mapFields a _)),(Obj.cls_mapFields ..).trans f|by rw[Obj.data_mapFields a];simp[rawInt]]
 exact Z2 (wpAny_holding (Z2 (wpAny_isOneOf_keyiter k2.typeIs (Z3 (Z3 %[_,rfl|Z3 (h _ k2 (SameBut.update ..))])))))
def DM(j:A.handled=none)(k:s.heap.IsKeyIter it d i es.size ep)(r:Raw s.heap d es ep)(hi:es.size<=i)
 (h:∀h',ExtBut it s.heap h'->Q none (s>>>h')):↥A (pyNext (.ref it)) Q E s:=by
 have%[o,c,l|e]:=id k;have%[n,f,_|g]:=r;unfold pyNext;refine Z2 (wpAny_attempt (wpAny_callSpecial?_slot (name:=!"__next__") k.typeIs F.slot_dict_keyiterator_next (wpAny_call_entry F.slot_dict_keyiterator_next k.typeIs F.entry_dict_keyiterator_next ?_ (F.args_dict_keyiterator_next_1 _))));refine Z2 (Z3 (Z2 (Z2 ?_)));refine Z2 (wpAny_typeNameOfWhole_keyiter k.typeIs (Z3 (Z2 (wpAny_fieldsOf c e ?_))));rw[show Builtin.Dict_items.ownsTuple "dict_keyiterator"=false by decide];show wpAny _ _ (if(Value.ref d==Value.none)=true then _ else _) _ _ s;rw[if_neg (by exact Zt)];refine Z2 (Z3 (Z2 (wpAny_dictEntries f g ?_)));rw[if_neg ∅];refine Z2 (Z3 (Z2 (wpAny_dictEpoch f g ?_)));rw[if_neg ∅];refine Z3 ?_;simp only[show ¬ ((i:Int)<0)from by lia,if_false,Int.toNat_natCast,Array.getElem?_eq_none hi];refine Z2 (Z2 (wpAny_typeNameOfWhole_keyiter k.typeIs (Z3 ?_)));show wpAny _ _ (setField (.ref it) 0 .none>>= _) _ _ s;refine Z2 (wpAny_setField c e ∅ (Z2 ?_));simp only[newExc,newTuple];refine Z2 (m:=firstArgMember _ _) (wpAny_of_eq (a:=Value.none) (by first|rfl|(simp only[firstArgMember];rfl)) (wpAny_newObj_type ?_ (by size_fits)));simp only[raiseNew];refine Z2 (wpAny_handled ?_);rw[show A.in1.handled=none from j];refine Z2 (Z3 (wpAny_throw ?_));refine Z2 (wpAny_isInstance (T:="StopIteration") (b:=true) %[_,Zj _ rfl|rfl] isSubtype_stop ?_);exact Z3 (h _ (((SameBut.update ..).extBut.push _).push _))
def DN(lo:(d==sysModules)=false):KdlSrc prog w "dict" d d es.size (λi v=>∃h:i<es.size,v=es[i].key) (λh=>Raw h d es ep) where
 type:=λ_ r=>r.ty
 there:=λ_ r=>%[r.lt|r.lt]
 keep:=λ_ _ r hk=>r.up λo e=>hk d (.inl rfl) o e
 notList:=!1
 notTuple:=!1
 hint:=λ_ _ _ _ r hq=>kdl_hint_dict r.ty hq
 iter:=λA s hh r=>%[_,λi h=>h.IsKeyIter ⇑s d i es.size ep/\Raw h d es ep,(λ_ _ hq=>BF lo r hq),{
  sub:=λb hb=>!2
  frame:=λ_ _ _ st hk=>%[st.1.at λo e=>hk _ ∅ o e|st.2.up λo e=>hk d ∅ o e]
  item:=λi s' Q E hi st hQ=>BG st.1 st.2 hi λh' k' hs'=>hQ _ h' s'.toks %[hi|rfl] %[k'|st.2.up λo e=>hs'.extBut d o (Zs r.lt) e] λb o hb e=>hs'.extBut b o (λh=>hb (by simp[h])) e
  done:=λs' Q E st hQ=>DM hh st.1 st.2 (Zi _) λh' he'=>hQ h' s'.toks λb o hb e=>he' b o (λh=>hb (by simp[h])) e
  self:=λ_ _ _ _ st hQ=>wpAny_pyIter_keyiter st.1 hQ},%[_,Zj _ rfl,rfl|rfl]|r.up λo e=>Z7 _ e]
def lS{P:Nat->Value->Prop}{R:ZF->Shared->Prop}(K:KdlSrc prog w T r d n P l)(m:A.handled=none)(ok:l s.heap)(p:n<=sizeLine)
 (h:∀(h':Heap) (tk:Nat) (acc:ZJ),(∀b o,s.heap.get? b∣o->h'.get? b∣o)->⇑s<=h'.objs.size->ItemsOf P acc n->R acc.toList {s with heap:=h',toks:=tk}):↥A (collect (.ref r)) R E s:=by
 have lt:=K.there _ ok;refine Z2 (wpAny_runValue (codeAny_builtin entry_proto_collect' (Z2 (wpAny_newObj_type (Z3 %[plainId_quiet F.plain_list_iadd _|codeAny_builtin entry_list_iadd' ?_])))));rw[Around.under_plainId F.plain_list_iadd _];have a:=kdl_extend (s:=(s>>>s.heap.push _))
  (R:=λq s'=>∃h' tk acc c,q= .ok (.ret (.ref ⇑s))/\s'={s with heap:=h',toks:=tk}/\(∀b o,s.heap.get? b∣o->h'.get? b∣o)/\h'.get? ⇑s=some {cls:= .type _,dict:=none,data:= .seq acc c,slots:= #[]}/\ItemsOf P acc n)
  K m (K.keep _ _ ok λb _ o e=>Z7 _ e) ⇑s (Yx lt.1) (Yx lt.2) _ 0 (Zj _ rfl)
  (λh' tk acc c g g' it=>%[h',tk,acc,c,rfl,rfl,λb o e=>g b o (Zs (Zu e)) (Z7 _ e),g'|it]) p
 refine wpAny_mono a (λj s' x=>?_) λe s' x=>?_
 .cases j with
  | done f=>
    have%[h',tk,acc,c,e,rfl,g,g'|it]:=x;cases e;exact Z2 (wpAny_load g' (Z3 (h h' tk acc g (Yd (Zu g')) it)))
  | again c1=>
    refine%[x.1|codeAny_mono x.2 λq u y=>?_];have%[h',tk,acc,c,rfl,rfl,g,g'|it]:=y;exact Z2 (wpAny_load g' (Z3 (h h' tk acc g (Yd (Zu g')) it)))
 simp_all
def lT{R:ZF->Shared->Prop}(lo:(d==sysModules)=false)(f:A.handled=none)(r:Raw s.heap d es ep)(g:es.size<=sizeLine)
 (h:∀(h':Heap) (tk:Nat),(∀b o,s.heap.get? b∣o->h'.get? b∣o)->⇑s<=h'.objs.size->R (es.toList.map (·.key)) {s with heap:=h',toks:=tk}):↥A (collect (.ref d)) R E s:=by
 refine lS (DN lo) f r g λh' tk acc l c a=>?_
 have e:acc.toList=es.toList.map (·.key):=by
  apply ext_getElem?;intro j;rw[Zl,getElem?_toList,getElem?_toList];by_cases m:j<es.size
  .have n:j<acc.size:=a.1▸m;have%[_|q]:=a.2 j acc[j] ∅
   simp_all
  .rw[Array.getElem?_eq_none (by rw[a.1];lia),Array.getElem?_eq_none ⋯];rfl
 rw[e];exact h h' tk l c
variable{S:Addr}
end
section
variable{X:Cx}{K:ZA}
def sS(hc:X.calm=true):cr X (.builtin "sorted") (λxs H Q=>∃a b ks m,xs=[.ref a]/\H a∣.dT b/\b\1=ks.map (λk:ZB=>k.map Sum.inr)/\(∀k∈ks,~~~k=m)/\m≠0/\ ~~~ks<=1000/\
 ∀(l:Addr) (ss:ZG),H l=none->aD H ss->(ss\2).Perm ks->Q (.ref l) (upd H l (.lst (ss\0)))):=by
 intro pins s N H xs us Q I r h;have%[a,b,ks,m,rfl,ha,c,O,T,few|q]:=h;have%[u,rfl|ru]:=cG r;cases ru;have%[_,lo,xs,z,o,es,ep,g,ex,dt,he,_|_]:=EA I.hok ha;have A:∀{b:List (List Key×V)} {xs:List (List Key×Addr×Value)},KT H b xs->∀ks:List ZB,b\1=ks.map (λk:ZB=>k.map Sum.inr)->∃ps:ZG,ps\2=ks/\(xs.map λx=>Value.ref x.2.1)=(ps.map λp=>Value.ref p.1)/\∀p∈ps,H p.1&&&p.2\3:=by
  intro b xs z
  induction z with
  | nil=>
    intro ks c;cases ks with
    | nil=>exact%[[],ρ,ρ|λp d=>by cases d]
    | cons _ _=>cases c
  | @cons kv x b xs hx t ih=>
    intro ks c;cases ks with
    | nil=>cases c
    | cons k ks=>
      rw[Yp,Yp]at c;injection c with h1 h2
      have%[ps,j,B|C]:=ih ks h2;refine%[(x.2.1,k)::ps,by rw[Yp,j],by rw[Yp,Yp,B]|λp d=>?_];rcases mem_cons.mp d with e|e
      .rw[e];have:=hx.2.1;rw[h1,Yq]at this;exact this
      .exact C p e
 have%[ps,j,B|C]:=A z ks c;have v:∀p∈ps,p.2∈ks:=λp d=>by rw[<-j];exact Xo %[p,d|rfl]
 have U:aD H ps:=λp d=>%[λe=>T (by rw[<-O _ (v p d),e];rfl)|C p d]
 have Y: ~~~ps<=1000:=by rw[<-Z6 (f:=(·.2)),j];exact few
 have E:Raw s.heap a es ep:=%[o,g,ex|dt]
 have w:es.toList.map (·.key)=ps.map λp=>Value.ref p.1:=by
  rw[he,Yq,<-B];rfl
 have G:es.size<=sizeLine:=by
  have: ~~~(es.toList.map (·.key))= ~~~(ps.map λp=>Value.ref p.1):=by rw[w]
  rw[Z6,Z6,Zb]at this;rw[sizeLine_eq];lia
 refine jx (λE1 R hR=>lT lo (show X.A.in1.handled=none from I.ok.hd hc) E G λh' tk k ab=>?_) (mO I U) (λp d=>O _ (v p d)) T ⋯ λs1 s' l ss n L k1 g1 o1 k g o y gl=>?_
 .rw[w];exact hR _ _ (List.Perm.refl _) k rfl rfl
 .have M:Inv X pins N H s1:=I.keptS k1 g1 o1;have i:H l=none:=M.hok.fresh y;have J:Inv X pins N H s':=M.keptS k g o;refine%[.ref l,_,M.stoodS (o:= .lst (ss\0)) J y %[?_,ss.map (λp=>Value.ref p.1),n,mP ss|gl],ρ|q l ss i (λp d=>U p (L.mem_iff.mp d)) (by rw[<-j];exact L.map _)];rw[Z6,L.length_eq,sizeLine_eq]
  lia
def zC(c:X.calm=true):cu X (.builtin "sorted") (λxs H Q=>∃a b ks m,xs=[.ref a]/\H a∣.dT b/\b\1=ks.map (λk:ZB=>k.map Sum.inr)/\(∀k∈ks,~~~k=m)/\m≠0/\ ~~~ks<=1000/\
 ∀(l:Addr) (ss:ZG),H l=none->aD H ss->(ss\2).Perm ks->Q (.ref l) (upd H l (.lst (ss\0)))):=⟨sS c⟩
def Gf:QE X (.Dict [] [] pos) vZ:=⟨AV⟩
def dQ(c:bX k X.A)(d:swapsWith a (some (.Subscript o i b)) pos.line X.env=pure false)(e:QE X a f)(g:QE X o h)(hi:QE X i ty):QS X (.Assign [.Subscript o i b] a pos) (lI h ty f):=
 ⟨Dh (by have:=c.units;lia) g.h hi.h e.h d⟩
def kX [DecidableEq c](a:List (c×V))(k:c)(v:V):(cD a k v)\1=if k∈a\1 then a\1 else a\1 ++[k]:=by
 unfold cD;have e:(a.any λb=>decide (b.1=k))=true↔k∈a\1:=by
  grind
 by_cases h:k∈a\1
 .rw[if_pos (e.mpr h),if_pos h,Yq];refine Yo λb _=>?_
  show(if b.1=k then(b.1,v)else b).1=b.1
  split<;> rfl
 .rw[if_neg (λz=>h (e.mp z)),if_neg h,Zd];rfl
end
structure uE (K:ZA) (mg:ZC) (x:Str):Prop where
 at_:mg x∣.ref (cO mg x)
 cls:Cls K (cO mg x)
structure uF (K:ZA) (mg:ZC) (x m qual:Str) (st:Stmt) (ps:ZB):Prop where
 ex:∃f fd,C0 K (cO mg x) m f/\Fun K m qual st f fd/\e7 K fd ps []
structure BH (K:ZA) (mg:ZC) (x qual:Str) (st:Stmt) (ps:ZB):Prop where
 ex:∃f fd,Mk K (cO mg x) f/\Fun K "__init__" qual st f fd/\e7 K fd ps []
structure zD (P:Program) (w:World) (K:ZA) (mg:ZC) (base:Heap) (k:Nat) (x m:Str) (ps:ZB) (sp:Sp):Prop where
 ex:∃f fd,fF P w K mg base CX0 k f fd ps sp/\C0 K (cO mg x) m f/\e7 K fd ps []
structure DO (P:Program) (w:World) (K:ZA) (mg:ZC) (base:Heap) (k:Nat) (x:Str) (ps:ZB) (sp:Sp):Prop where
 ex:∃f fd,fF P w K mg base CX0 k f fd ps sp/\Mk K (cO mg x) f/\e7 K fd ps []
section
variable{P:Program}{w:World}{K:ZA}{mg:ZC}{base:Heap}{x m qual:Str}{st:Stmt}{N ps:ZB}{k:Nat}{sp:Sp}
def uF.cal(D:uF K mg x m qual st ps)(S:av N ps (ao st))
 (a:∀(H:Hp) (vs:List V) (Q:VK) (E:XK),sp vs H Q E-> ~~~vs= ~~~ps/\∀(f:Addr) (b:Value) (A:Around) (outer:List Env) (s:Shared),bX k (A.deeper (envOfC qual (ao st) ⇑s f b))->
  ∃t,PSs (rS CX0 P w K mg base N qual (ao st) f b A outer s H E).nox (cb st) t/\t {nx:=λ_ c=>Q .non c,rt:=Q} (start N vs) H):zD P w K mg base (k+1) x m ps sp:=by
 have%[f,d,e,F|g]:=D.ex;exact%[f,d,F.ok S (λv H Q E h=>(a H v Q E h).1) (λb A o s H v Q E r h=>(a H v Q E h).2 f b A o s r),e|g]
def BH.cal(D:BH K mg x qual st ps)(S:av N ps (ao st))
 (a:∀(H:Hp) (vs:List V) (Q:VK) (E:XK),sp vs H Q E-> ~~~vs= ~~~ps/\∀(f:Addr) (b:Value) (A:Around) (outer:List Env) (s:Shared),bX k (A.deeper (envOfC qual (ao st) ⇑s f b))->
  ∃t,PSs (rS CX0 P w K mg base N qual (ao st) f b A outer s H E).nox (cb st) t/\t {nx:=λ_ c=>Q .non c,rt:=Q} (start N vs) H):DO P w K mg base (k+1) x ps sp:=by
 have%[f,d,e,F|g]:=D.ex;exact%[f,d,F.ok S (λv H Q E h=>(a H v Q E h).1) (λb A o s H v Q E r h=>(a H v Q E h).2 f b A o s r),e|g]
end
section
variable{X:Cx}{K:ZA}{j k:Nat}{x m:Str}{ps:ZB}{sp:Sp}{p pos apos:Pos}{o e:Expr}{es:List Expr}{to te:TE}{t:TA}
def Gg(C:zD X.prog X.w X.K X.mg X.base j x m ps sp)(c:uE X.K X.mg x)(d:bX k X.A)(a:Nat.ble j k=true)
 (g:eval (.Call (.Attribute o m apos) [] [] pos) X.env=(do
  let b<-eval o X.env
  standAt apos.atName
  let(f,first)<-holding [b] (getMethod b m pl)
  callWith pos f first (backTo pos (starEach [] X.env)) (backToKw pos (keywordEach [] X.env)))) (h:QE X o to):QE X (.Call (.Attribute o m apos) [] [] pos) (xo (cO X.mg x) m sp [] E0 to vW):=by
 have%[f,n,F,i|l]:=C.ex;exact⟨AE h.h c.cls i F (d.mono (Nat.le_of_ble_eq_true a)) l .nil AW g⟩
def Hs(C:DO X.prog X.w X.K X.mg X.base j x ps sp)(c:uE X.K X.mg x)(g:bX k X.A)(h:Gl X x)(a:Nat.ble (j+1) k=true)(b:(x==("__debug__"))=false)(d:(e::es).any aS=false)(i:QA X (e::es) t):
 QE X (.Call (.Name x p) (e::es) [] pos) (xp (cO X.mg x) sp [] E0 t):=by
 have%[f,q,F,l|n]:=C.ex;rw[Zw,X4]at d;exact⟨C3 l F (g.mono (Nat.le_of_ble_eq_true a)) h c.at_ n .nil AW i.h b (aB d.1) (gB d.2)⟩
def Gh(h:X.K=K)(a:iU o=false)(b:QE X o to):QE X (.Attribute o f pos) (Ft K to f):=by
 subst h;exact⟨Fv b.h (iz a)⟩
def DP(h:X.K=K)(c:gC a=false)(d:QE X o to)(g:QE X a i):QS X (.Assign [.Attribute o f b] a pos) (Fu K to i f):=by
 subst h;exact⟨Fw d.h g.h (jM c)⟩
end
structure GvT (K:ZA) (mg:ZC) (x:Str) (xs:List V):Prop where
 ex:∃a,mg x∣.ref a/\∀H,SqT K H a xs
def BI{K:ZA}{h:Heap}{o:Obj}{its:ZJ}{n:Nat}(X:K.In h)(G:h.Ns mainGlobals mg)(z:nsIn K mainGlobals x∣some (.ref a))
 (b:K.lookup a∣o) (c:o.cls= .type "tuple") (d:o.data= .seq its n) (e:its.size<=sizeLine) (r:aJ xs its.toList):GvT K mg x xs:=
 %[a,mg_of X G z|λ_=> .inr %[o,its,n,b,c,d,e|r]]
def Ht{X:Cx}{K:ZA}{x:Str}(h:X.K=K)(g:GvT K X.mg x xs)(b:Gl X x)(c:(x==("__debug__":Str))=false):QE X (.Name x pos) (λ_ H Q=>∀a,(∀d,SqT K d a xs)->Q (.ref a) H):=by
 have%[a,e|f]:=g.ex;refine⟨λpins s i H Q I q=>EB (v:= .ref a) %[.ref a,e|rfl] b c pins s i H Q I (q a f)⟩
def tryN{X:Cx}(c:∀e s,X.xe e s->False)(d:QSs X a g):QS X (.Try a [h] [] [] pos) g:=by
 refine⟨λpins s i H D I q=>wpAny_Try_except (wpAny_mono (d.h pins s i H D I q) (λf b q=>?_) λe b q=>(c e b q).elim)⟩;cases f with
 | next=>exact wpAny_execs_nil q
 | brk=>exact q
 | cont=>exact q
 | ret u=>exact q
section
variable{X:Cx}{K:ZA}
end
def nN(x y:Str):fG [x] [y]=aM x y:=by
 show(if x=y then false else aM x y)=aM x y
 split
 .rename_i e;rw[e,cK]
 .rfl
section
#where
variable{S:Addr}
def fc{ks:ZB}{Q:ZD}(h:∀(O:ZD) (R:ZF->Shared->Prop),(∀c us f,StrsAre us f->f.Perm ks->(∀b o,s.heap.get? b∣o->c.heap.get? b∣o)->c.gens=s.gens->c.os=s.os->R us c)->↥A.in1 (collect (.ref S)) R O s)(few: ~~~ks<=1000)
 (T:∀(c s':Shared) (l:Addr) (vs:ZF) (ss:ZB) (n:Nat),StrsAre vs ss->ss.Perm ks->(~~~ks<64->ss.Pairwise (λa b=>aM b a=false))->(∀b o,s.heap.get? b∣o->c.heap.get? b∣o)->c.gens=s.gens->c.os=s.os->(∀b o,c.heap.get? b∣o->s'.heap.get? b∣o)->s'.gens=c.gens->s'.os=c.os->⇑c<=l->s'.heap.get? l=some {cls:= .type "list",data:= .seq vs.toArray n}->Q (.ref l) s'):
 ↥A (call (.builtin "sorted") [.ref S]) Q E s:=by
 refine Calls.call_function_entry kind_sorted plain_sorted entry_sorted (args_sorted1 _) ?_;unfold Builtin.«sorted»;refine Z2 (m:=checkCount "sorted" 1 1 _) (Z3 ?_);refine Z2 (h _ _ λc us f d i k1 U Y=>?_);have few: ~~~us<=1000:=by rw[a8 d,i.length_eq];exact few
 refine Z2 (wpAny_newList ?_ (by rw[sizeLine_eq];omega));have C:(c.heap.push (seqObj "list" us.toArray 0)).get? ⇑c∣seqObj "list" us.toArray 0:=Zj _ rfl;have e:∀v∈us,∃x t,v=Value.str x t/\[x]∈ks.map λz=>[z]:=λv g=>by
  have%[x,t|rfl]:=d.all v g;refine%[x,t,ρ|Xo %[x,i.mem_iff.mp ?_|ρ]];rw[<-d.strs];exact Xo %[_,g|rfl]
 refine Z2 (wpAny_holding (wpAny_call_entry slot_list_sort %[_,C|rfl] entry_list_sort (jf (s:=(c>>>c.heap.push (seqObj "list" us.toArray 0))) (kd:=oneType') (Nv:=λv=>iG (ks.map λz=>[z]) [strOf v]) C (by omega) (λG k6 H Q6 I=>?_) (λG k6=>?_) λout q p2=>%[_,rfl|?_]) (args_list_sort _)))
 .obtain⟨v1,B,r,rfl⟩:∃v1 B r,us=v1::B::r:=by
   match us,H with
   | v1::B::r,_=>exact%[v1,B,r|ρ]
  rw[keyKind_strs d];exact Z3 I
 .intro x y s' hx hy J;subst J;have%[x1|x2]:=x;have%[y1|y2]:=y;have%[a,t,rfl|L]:=e _ hx;have%[b,u,rfl|M]:=e _ hy;show ↥A.in1.in1 (keyLt' oneType' (.str a t) (.str b u)) (λr s'=>r=decide (iG (ks.map λz=>[z]) [a]<iG (ks.map λz=>[z]) [b])/\s'=(c>>>G)) (λ_ _=>False) (c>>>G);rw[keyLt'_oneType];refine oneLt_str %[?_|rfl];rw[<-mM L,nN];rfl
 .obtain⟨n,gl⟩:∃n,(sortedHeap (c.heap.push (seqObj "list" us.toArray 0)) ⇑c us out.toArray).get? ⇑c∣seqObj "list" out.toArray n:=sortedHeap_at C;refine Z3 %[_,rfl|T c _ ⇑c out (out.map strOf) n (strsAre_map out (λv g=>d.all v (q.mem_iff.mp g))) ?_ ?_ k1 U Y (λb o' N=>?_) rfl rfl (Zi _) gl]
  .rw[<-d.strs]at i;exact(q.map _).trans i
  .intro l;rw[X6];refine Xf (λ{u v} hu g j=>?_) (p2 (by rwa[a8 d,i.length_eq]));have%[a,t,rfl|L]:=e _ (q.mem_iff.mp hu);have%[b,t',rfl|M]:=e _ (q.mem_iff.mp g);show aM b a=false;rw[<-nN,mM M];have j:iG (ks.map λz=>[z]) [a]<=iG (ks.map λz=>[z]) [b]:=j;exact Zh (by omega)
  .have p:=Zu N;show(sortedHeap _ _ _ _).get? b=_;rw[sortedHeap_old (Zs p) (by rw[Zq];exact Ym p)];exact Z7 _ N
end
def gP:∀{ks:ZB} {us:ZF},aJ (ks\3) us->StrsAre us ks
 |[],_,.nil=> .nil
 | _::_,_,.cons r t=>by
   have%[t'|rfl]:=r;exact .cons _ _ (gP t)
def dw:∀{ks:ZB} {us:ZF},StrsAre us ks->aJ (ks\3) us
 | _,_,.nil=> .nil
 | _,_,.cons _ t h=> .cons %[t|rfl] (dw h)
section
variable{X:Cx}{K:ZA}
def zE(h:X.K=K):cu X (.builtin "sorted") (λxs H Q=>∃a ks,xs=[.ref a]/\SqL K H a (ks\3)/\ ~~~ks<64/\∀l (ss:ZB),H l=none->ss.Perm ks->ss.Pairwise (λa b=>aM b a=false)->Q (.ref l) (upd H l (.lst (ss\3)))):=by
 subst h;refine⟨λpins s E H xs us Q I r h=>?_⟩;have%[a,ks,rfl,j,few|q]:=h;have%[u,rfl|m]:=cG r;cases m;have%[its,f,%[o,n,p,v,G|d]|J]:=I.list j;have L: ~~~its= ~~~ks:=by rw[<-f.length,Z6]
 refine fc (ks:=ks) (λM R w=>wpAny_collect_seq a (.inl rfl) p v d (λh' k=>?_) (!2)) (by omega) λN s' l vs ss n y i z k1 A B k g o c C=>?_
 .exact w _ _ _ (gP f) (.refl _) k rfl rfl
 .have e:=I.keptS k1 A B;refine%[.ref l,_,e.stoodS (o:= .lst _) (e.keptS k g o) c %[?_,vs,n,dw y|C],ρ|q l ss (e.hok.fresh c) i (z few)];rw[Z6,i.length_eq,sizeLine_eq];omega
def nO{P:Program}{w:World}:∀{es:List DictEntry} {vs:List (Key×Value)} {ks:ZB},Pairs (aQ P w) es vs->vs\1=ks.map Sum.inr->StrsAre (es.map (·.key)) ks
 | _,_,[],h,e=>by
   cases h with
   | nil=>exact .nil
   | cons _ _ _=>cases e
 | _,_,k::ks,h,e=>by
   cases h with
   | nil=>cases e
   | @cons l m a b c n d=>
     rw[Yp,Yp]at e;injection e with f g
     rcases aW (c)with⟨i,t,q,_⟩|⟨x,t,q,j⟩
     .simp_all
     .rw[f]at q;cases q;rw[Yp,j];exact .cons _ _ (nO d g)
def kY(m:X.calm=true):cu X (.builtin "sorted") (λxs H Q=>∃(a:Addr) (c:List (Key×V)) (ks:ZB),xs=[.ref a]/\H a∣.dK c/\c\1=ks.map Sum.inr/\ ~~~ks<64/\
 ∀l (ss:ZB),H l=none->ss.Perm ks->ss.Pairwise (λa b=>aM b a=false)->Q (.ref l) (upd H l (.lst (ss\3)))):=by
 refine⟨λpins s M H xs us Q I r h=>?_⟩;have%[a,c,ks,rfl,p,e,few|q]:=h;have%[u,rfl|v]:=cG r;cases v;have%[_,lo,vs,w,o,es,N,g,ex,y,_,z|_]:=jJ I.hok p;have i:=nO z (e▸w.keys.symm);have O:=by
  have:=a8 i;rw[Z6,Zb]at this;omega
 refine fc (ks:=ks) (λT R A=>lT lo (I.ok.hd m) %[o,g,ex|y] (by rw[sizeLine_eq];omega) λh' tk k B=>A _ _ _ i (.refl _) k rfl rfl) (by omega) λU s' l vs ss n C j E k1 G J k g o d L=>?_
 have f:=I.keptS k1 G J;refine%[.ref l,_,f.stoodS (o:= .lst _) (f.keptS k g o) d %[?_,vs,n,dw C|L],ρ|q l ss (f.hok.fresh d) j (E few)];rw[Z6,j.length_eq,sizeLine_eq];omega
def nP{w:World}(h:X.w=w)(p:X.calm=true):cu X (.builtin "sorted") (λxs H Q=>∃a ks,xs=[.ref a]/\H a∣iq w a ks/\ ~~~ks<=1000/\∀l (ss:ZB),H l=none->ss.Perm ks->(~~~ks<64->ss.Pairwise (λa b=>aM b a=false))->Q (.ref l) (upd H l (.lst (ss\3)))):=by
 subst h;refine⟨λpins s E H xs us Q I r h=>?_⟩;have%[a,ks,rfl,v,few|q]:=h;have%[u,rfl|y]:=cG r;cases y;have%[S,_|_]:=(I.hok a _ v)
 refine fc (ks:=ks) (λG R z=>lN (I.ok.hd p) S λm vs ss e d k1 f i A=>z m vs ss e d k1 f i) few λm s' l vs ss n e d B k1 f i k g o c C=>?_
 have j:=I.keptS k1 f i;refine%[.ref l,_,j.stoodS (o:= .lst _) (j.keptS k g o) c %[?_,vs,n,dw e|C],ρ|q l ss (j.hok.fresh c) d B];rw[Z6,d.length_eq,sizeLine_eq];omega
def qI(h:X.K=K):cu X (.builtin "sorted") (λxs H Q=>∃(a:Addr) (ps:ZG) (m:Nat),xs=[.ref a]/\SqL K H a (ps\0)/\aD H ps/\(∀p∈ps,~~~p.2=m)/\m≠0/\ ~~~ps<=1000/\
 ∀(l:Addr) (ss:ZG),H l=none->ss.Perm ps->Q (.ref l) (upd H l (.lst (ss\0)))):=by
 subst h;refine⟨λpins s J H xs us Q I r h=>?_⟩;have%[a,ps,m,rfl,f,i,j,v,few|q]:=h;have%[u,rfl|w]:=cG r;cases w;have%[its,y,%[o,n,z,A,L|c]|M]:=I.list f;have:=sP y;subst this;refine jx (λN R B=>wpAny_collect_seq a (.inl rfl) z A c (λh' k=>?_) (!2)) (mO I i) j v few λO s' l ss n e k1 C E k g o b G=>?_
 .exact B _ _ (List.Perm.refl _) k rfl rfl
 .have d:=I.keptS k1 C E;refine%[.ref l,_,d.stoodS (o:= .lst _) (d.keptS k g o) b %[?_,ss.map _,n,mP ss|G],ρ|q l ss (d.hok.fresh b) e];rw[Z6,e.length_eq,sizeLine_eq];omega
def Gi{k:Nat}{i o:Expr}{ty a:TE}{pos:Pos}(b:bX k X.A)(c:behindInMarks .In o=false)(hi:QE X i ty)(d:QE X o a):QT X (.Compare i [.In] [o] pos) (tB (Df ty a)):=
 ⟨Ab (AR (by have:=b.units;omega) hi.h d.h) c⟩
end
def cP{X:Cx}{K:ZA}{a b:Expr}{c d:TE}{pos:Pos}(h:X.K=K)(e:mG b)(f:QE X a c)(g:QE X b d):QE X (.Subscript a b pos) (tOp (FD K) c d):=by subst h;exact⟨AK FF f.h g.h e⟩
def wL(h:(env.blockKind== .function&&env.kindOf x==some .local&&b.line==pos.line&&!(a.names.any λ(n,k)=>n==x&&(k== .local||k== .cell)))=false):
 swapsWith (.ListComp c gens a pos) (some (.Name x b)) l env=pure false:=by
 show(pure (env.blockKind== .function&&env.kindOf x==some _&&b.line==pos.line&&!(a.names.any _)))=pure false;rw[h]
def BJ{X:Cx}(i:Nat)(e:X.N.Nodup)(hi:X.N[i]?∣x)(f:Loc X.env.scope x)(g:X.fn x=true\/X.env.scope.names.lookup x∣.local)
 (b:(X.env.blockKind== .function&&X.env.kindOf x==some .local&&h.line==pos.line&&!(a.names.any λ(n,k)=>n==x&&(k== .local||k== .cell)))=false) (j:QE X (.ListComp c gens a pos) l):
 QS X (.Assign [.Name x h] (.ListComp c gens a pos) d) (pq l (jc i)):=⟨Al e hi f j.h (wL b) g⟩
section
#where
end
section
variable(h:Heap)(l1 l2:Addr)
end
section
#where
variable{X:Cx}{K:ZA}{pos:Pos}
end
section
variable{X:Cx}{pos:Pos}
def nQ(b:PassesOwn (model X.prog X.w) X.A X.env X.xe)(d:QT X c e)(f:QSs X a g):QS X (.While c a [] pos) (Am e g):=⟨Ao b d.h f.h⟩
def bw(a:bX k X.A)(b:FL i)(c:QE X o d)(hi:QE X i ty):QE X (.Subscript o i pos) (AQ d ty):=⟨Dg (by have:=a.units;lia) c.h hi.h b⟩
#where
def DQ{P:Nat->Value->Prop}(val:Nat->Str)(a:∀i v,P i v->∃t,v= .str (val i) t):CmpOf prog w A .Gt P (λi j=>decide ((val j).cps.toList<(val i).cps.toList)):=λi j b c s Q E hi d h=>by
 have%[t|rfl]:=a i b hi;have%[u|rfl]:=a j c d;exact richCompare_gives (typeIs_str s _ t) (typeIs_str s _ u) PySem.F.slot_str_gt PySem.F.entry_str_gt (PySem.F.args_str_gt_2 _ _) (gives_str_gt _ _ t u) (λx=>nomatch x) h
def xH{P:Nat->Value->Prop}(val:Nat->Str)(a:∀i v,P i v->∃t,v= .str (val i) t):CmpOf prog w A .Lt P (λi j=>decide ((val i).cps.toList<(val j).cps.toList)):=λi j b c s Q E hi d h=>by
 have%[t|rfl]:=a i b hi;have%[u|rfl]:=a j c d;exact richCompare_gives (typeIs_str s _ t) (typeIs_str s _ u) PySem.F.slot_str_lt PySem.F.entry_str_lt (PySem.F.args_str_lt_2 _ _) (gives_str_lt _ _ t u) (λx=>nomatch x) h
def BK{i:Nat}{v:Value}(h:(#[Value.str x t,Value.str y u]:ZJ)[i]?∣v):∃t,v= .str (if i=0 then x else y) t:=by
 match i,h with
 | 0,h=>exact%[t|by simpa using h.symm]
 | 1,h=>exact%[u|by simpa using h.symm]
 | i+2,h=>simp at h
def uG(a:Nat->Nat->Bool):argBest a 1=if a 1 0=true then 1 else 0:=by simp[argBest]
def sT{x y:Str}(l:A.handled=none)
 (h:∀h' tk,(∀c o,s.heap.get? c∣o->h'.get? c∣o)->Q (if x.cps.toList<y.cps.toList then .str y u else .str x t) {s with heap:=h',toks:=tk}):
 ↥A (call (.builtin "max") [.str x t,.str y u]) Q E s:=by
 have j:(s.heap.push {cls:= .type _,data:= .seq #[.str x t,.str y u]}).IsTuple ⇑s _:=%[_,Zj _ rfl,rfl,0|rfl]
 refine call_max_two (wpAny_pyIter_tuple j ?_);have b:(s.heap.push {cls:= .type "tuple",data:= .seq #[.str x t,.str y u]}).objs.size=⇑s+1:=Zq ..;refine%[_,[_,⇑s],[_],_,_,_,_,ρ,Walks.tuple (A:=A.in1) l _ ⇑s (b▸Zs (Yn _)) _,
  %[%[_,Zj _ rfl,ρ|ρ]|j.push _],λc d=>?_,by simp,DQ _ (λ_ _=>BK)|λv h' tk m n=>?_]
 .rw[Zq,b];rcases mem_cons.mp d with rfl|d
  .simp
  .rcases mem_cons.mp d with rfl|d
   .exact Ym (Yn _)
   .cases d
 .have f:=λc o e=>by
   refine n c o (λi=>?_) (Z7 _ (Z7 _ e));rcases mem_cons.mp i with p|i
   .have:=Zu e;rw[p,b]at this;exact Xi _ (Nat.lt_of_succ_lt this)
   .cases i
  have q:=h h' tk f;have a:(#[Value.str x t,Value.str y u])[argBest _ 1]?∣v:=m;rw[uG]at a;by_cases g:x.cps.toList<y.cps.toList
  .rw[if_pos (by simp[g])]at a;rw[if_pos g]at q;exact(show Value.str y u=v by simpa using a)▸q
  .rw[if_neg (by simp[g])]at a;rw[if_neg g]at q;exact(show Value.str x t=v by simpa using a)▸q
def sU{x y:Str}(l:A.handled=none)
 (h:∀h' tk,(∀c o,s.heap.get? c∣o->h'.get? c∣o)->Q (if y.cps.toList<x.cps.toList then .str y u else .str x t) {s with heap:=h',toks:=tk}):
 ↥A (call (.builtin "min") [.str x t,.str y u]) Q E s:=by
 have j:(s.heap.push {cls:= .type _,data:= .seq #[.str x t,.str y u]}).IsTuple ⇑s _:=%[_,Zj _ rfl,rfl,0|rfl]
 refine call_min_two (wpAny_pyIter_tuple j ?_);have b:(s.heap.push {cls:= .type "tuple",data:= .seq #[.str x t,.str y u]}).objs.size=⇑s+1:=Zq ..;refine%[_,[_,⇑s],[_],_,_,_,_,ρ,Walks.tuple (A:=A.in1) l _ ⇑s (b▸Zs (Yn _)) _,
  %[%[_,Zj _ rfl,ρ|ρ]|j.push _],λc d=>?_,by simp,xH _ (λ_ _=>BK)|λv h' tk m n=>?_]
 .rw[Zq,b];rcases mem_cons.mp d with rfl|d
  .simp
  .rcases mem_cons.mp d with rfl|d
   .exact Ym (Yn _)
   .cases d
 .have f:=λc o e=>by
   refine n c o (λi=>?_) (Z7 _ (Z7 _ e));rcases mem_cons.mp i with p|i
   .have:=Zu e;rw[p,b]at this;exact Xi _ (Nat.lt_of_succ_lt this)
   .cases i
  have q:=h h' tk f;have a:(#[Value.str x t,Value.str y u])[argBest _ 1]?∣v:=m;rw[uG]at a;by_cases g:y.cps.toList<x.cps.toList
  .rw[if_pos (by simp[g])]at a;rw[if_pos g]at q;exact(show Value.str y u=v by simpa using a)▸q
  .rw[if_neg (by simp[g])]at a;rw[if_neg g]at q;exact(show Value.str x t=v by simpa using a)▸q
def pJ{l:Addr}{its:ZJ}{val:Nat->Str}{Q:ZD}(n:A.handled=none)(f:s.heap.IsList l its)(g:0<its.size)(a:∀(i:Nat) v,its[i]?∣v->∃t,v= .str (val i) t)
 (h:∀v h' tk,its[argBest (λi j=>decide ((val i).cps.toList<(val j).cps.toList)) (its.size-1)]?∣v->(∀b o,s.heap.get? b∣o->h'.get? b∣o)->Q v {s with heap:=h',toks:=tk}):
 ↥A (call (.builtin "min") [.ref l]) Q E s:=by
 have c:l<⇑s:=by have%[_,e|_]:=f;exact Zu e
 refine call_min_walk (wpAny_pyIter_list f %[_,[⇑s,l],[⇑s],_,_,_,_,rfl,Walks.list (A:=A.in1) n _ l (Zs c) its,%[%[_,Zj _ rfl,rfl|rfl]|f.push _],λb d=>?_,g,xH val a|λv h' tk p q=>?_])
 .rw[Zq];rcases mem_cons.mp d with rfl|d
  .simp
  .rcases mem_cons.mp d with rfl|d
   .exact Ym c
   .cases d
 .refine h v h' tk p λb o e=>q b o (λm=>?_) (Z7 _ e)
  rcases mem_cons.mp m with r|m
  .exact absurd (r▸Zu e) (Xi _)
  .cases m
def nS(val:Nat->Str):∀k,argBest (λi j=>decide ((val i).cps.toList<(val j).cps.toList)) k<=k/\∀j,j<=k->aM (val j) (val (argBest (λi j=>decide ((val i).cps.toList<(val j).cps.toList)) k))=false
 | 0=>%[Zi _|λj b=>by rw[le_zero.mp b];exact cK _]
 | k+1=>by
   have%[g|d]:=nS val k;rw[argBest];by_cases c:aM (val (k+1)) (val (argBest (λi j=>decide ((val i).cps.toList<(val j).cps.toList)) k))=true
   .have a:=c;unfold aM at a;rw[if_pos a];refine%[Zi _|λj b=>?_];by_cases e:j=k+1
    .exact e▸cK _
    .cases f:aM _ _ with
     | false=>rfl
     | true=>have:=dG f c;rw[d j ⋯]at this;cases this
   .have a:=c;unfold aM at a;rw[if_neg a];refine%[⋯|λj b=>?_];by_cases e:j=k+1
    .lia
    .exact d j ⋯
end
section
variable{X:Cx}
def zF(b:X.calm=true):cr X (.builtin "max") (λxs H Q=>∃x y,xs=[.str x,.str y]/\Q (.str (if aM x y=true then y else x)) H):=by
 intro pins s c H xs us Q I r h;have%[x,y,rfl|q]:=h;have%[u,d,rfl,%[t|rfl],t'|rfl]:=lF r;refine sT (I.ok.hd b) λh' tk k=>%[_,H,I.kept k,?_|q]
 by_cases a:x.cps.toList<y.cps.toList
 .rw[if_pos a,if_pos (show aM x y=true from Zf a)];exact%[_|ρ]
 .rw[if_neg a,if_neg (show ¬ aM x y=true from λe=>a (Zo e))];exact%[_|ρ]
def zG(b:X.calm=true):cr X (.builtin "min") (λxs H Q=>∃x y,xs=[.str x,.str y]/\Q (.str (if aM y x=true then y else x)) H):=by
 intro pins s c H xs us Q I r h;have%[x,y,rfl|q]:=h;have%[u,d,rfl,%[t|rfl],t'|rfl]:=lF r;refine sU (I.ok.hd b) λh' tk k=>%[_,H,I.kept k,?_|q]
 by_cases a:y.cps.toList<x.cps.toList
 .rw[if_pos a,if_pos (show aM y x=true from Zf a)];exact%[_|ρ]
 .rw[if_neg a,if_neg (show ¬ aM y x=true from λe=>a (Zo e))];exact%[_|ρ]
def zH(z:X.calm=true):cr X (.builtin "min") (λxs H Q=>∃(p:Addr) (ss:ZB),xs=[.ref p]/\SqL X.K H p (ss\3)/\0< ~~~ss/\∀m∈ss,(∀y∈ss,aM y m=false)->Q (.str m) H):=by
 intro pins s M H xs us Q I r h;have%[p,ss,rfl,A,N|q]:=h;have%[u,rfl|f]:=cG r;cases f;have%[its,g,B|O]:=I.list A;have a:= ~~~g;rw[Z6]at a;have C:its.toArray.size= ~~~ss:=by rw[Zp,a]
 have c:∀i v,its.toArray[i]?∣v->∃t,v=Value.str (ss.getD i Str.empty) t:=λi v e=>by
  have e:=↑e
  have hi:i< ~~~ss:=a▸(Xk e).1;have%[u,l|f]:=g.get (by rw[Zl,Z4 hi];rfl);rw[e]at l;have%[t|d]:=f;exact%[t|by rw[Za l,d,Zc,Z4 hi];rfl]
 refine pJ (I.ok.hd z) B.isList ⋯ c λv h' tk n k=>?_
 have%[E|o]:=nS _ _;have%[t|d]:=c _ _ n
 generalize argBest _ _=b at E o n d
 have w:b< ~~~ss:=by lia
 have G:ss.getD b Str.empty=ss[b]:=by rw[Zc,Z4 w];rfl
 refine%[.str _,H,I.kept k,%[t|d]|q _ (G▸Yc w) λy J=>?_];have%[j,L|rfl]:=getElem_of_mem J;have:=o j ⋯;rwa[show ss.getD j Str.empty=ss[j] by rw[Zc,Z4 L];rfl]at this
def Gj(a:X.calm=true):cu X (.builtin "max") (λxs H Q=>∃x y,xs=[.str x,.str y]/\Q (.str (if aM x y=true then y else x)) H):=⟨zF a⟩
def BL(a:X.calm=true):cu X (.builtin "min") (λxs H Q=>∃x y,xs=[.str x,.str y]/\Q (.str (if aM y x=true then y else x)) H):=⟨zG a⟩
def Gk{K:ZA}(h:X.K=K)(a:X.calm=true):cu X (.builtin "min") (λxs H Q=>∃(p:Addr) (ss:ZB),xs=[.ref p]/\SqL K H p (ss\3)/\0< ~~~ss/\∀m∈ss,(∀y∈ss,aM y m=false)->Q (.str m) H):=by subst h;exact⟨zH a⟩
#where
variable{R:Result->Shared->Prop}{I:Addr}{fp:List Addr}{wr:List Addr}{G:Array GenState->Array GenState->Prop}{n:Nat}{P:Nat->Value->Prop}{St:Nat->Shared->Prop}
variable{K:ZA}
end
def xI{b:Type}{a:List (b×V)}{vs:List (b×Value)}(r:KV a vs):aJ (a\2) (vs\2):=by
 induction r with
 | nil=>exact .nil
 | cons h _ c=>exact .cons h.2 c
section
variable{X:Cx}{K:ZA}
abbrev BM:V->List V->Hp->VK->Prop:=λx vs H Q=>asR x λa=>∃k y,vs=[kV k,y]/\∃b,H a∣.dK b/\ ~~~b<sizeLine/\(∀v,bx b k∣v->Q v H)/\(bx b k=none->Q y (upd H a (.dK (cD b k y))))
def DR:MtM X "dict.setdefault" BM:=by
 intro pins s J H x vs v us Q I p r h;have%[a,rfl,k,y,rfl,b,e,L,u|w]:=dZ h;cases p;have%[M,A,rfl,B|l]:=lF r;have%[z,m,vs,c|n]:=jJ I.hok e;refine call_meetsIn slot_dict_setdefault n.typeIs PySem.F.entry_dict_setdefault (PySem.F.args_dict_setdefault_3 _ _ _) (kt_meets_setdefault _ a (mU B) m A) %[vs,n,~~~c▸z,λN hw=>?_|λO h' f C=>?_]
 .have q:=c.val k;cases d:bx b k with
  | none=>
    rw[fJ.none_of (o:=valueAt vs k) (d▸q)]at hw;cases hw
  | some i=>
    have%[E,g|j]:=fJ.some_of (d▸q);rw[g]at hw;exact(Za hw)▸%[i,H,I.tok _,j|u i d]
 .have d:bx b k=none:=by
   cases d:bx b k with
   | none=>rfl
   | some i=>
     have%[E,g|_]:=fJ.some_of (d▸c.val k)
     grind
  exact%[y,_,mH I (e▸True.intro) C (let⟨q,_,_,G,_⟩:=f;%[q|G]) (vX (by have:=e8 b k y;lia) m (c.put k l) f),l|w d]
def gQ:MtQ X "dict.setdefault" BM:=⟨DR⟩
abbrev jY(v a:Addr):HO:= .ext λh=>h.IsValuesView v a
abbrev BN:V->List V->Hp->VK->Prop:=λx vs H Q=>asR x λa=>vs=[]/\∃b,H a∣.dK b/\∀v,H v=none->Q (.ref v) (upd H v (jY v a))
def DS:MtM X "dict.values" BN:=by
 intro pins s w H x vs v us Q I i j h;have%[a,rfl,rfl,l,e|q]:=dZ h;cases i;have c:=j.zero;subst c;have%[z,m,vs,n|f]:=jJ I.hok e;refine call_meetsIn slot_dict_values f.typeIs PySem.F.entry_dict_values (PySem.F.args_dict_values_1 _) (meets_dict_values _ a m) %[%[vs|f]|?_];have g:(s.heap.push {cls:= .type _,data:= .fields _}).IsValuesView ⇑s a:=%[_,Zj _ rfl,rfl|rfl]
 refine%[.ref ⇑s,_,I.laid (o:=jY ⇑s a) (λb u e=>Z7 _ e) (Zi _) %[g,?_|λy A p k1=>?_],ρ|q _ I.fresh]
 .have%[o,d|_]:=g;exact%[o|d]
 .have%[o,d|r]:=p;exact%[o,k1 _ d|r]
def uH:MtQ X "dict.values" BN:=⟨DS⟩
def wM(j:X.calm=true):cr X (.type "list") (λxs H Q=>∃(v a:Addr) (b:List (Key×V)),xs=[.ref v]/\H v∣jY v a/\H a∣.dK b/\∀l,H l=none->Q (.ref l) (upd H l (.lst (b\2)))):=by
 intro pins s M H xs us Q I r h;have%[v,a,b,rfl,m,n|q]:=h;have%[u,rfl|p]:=cG r;cases p;have%[z,N,vs,f|w]:=jJ I.hok n;have g:=(I.hok _ _ m).1;have%[o,es,y,A|B]:=w;have C:s.heap.DictAt _ a vs y:=%[o,es,A|B]
 have E:= ~~~f;refine PySem.W.kdl_call (kdl_values) (I.ok.hd j) %[g|C] ⋯ λh' tk acc c keep G d=>?_
 have O: ~~~acc.toList= ~~~b:=by rw[Zb,d.1,E]
 refine%[.ref ⇑s,_,I.laid keep (Zi _) ?_,ρ|q _ I.fresh];have e:acc.toList=vs\2:=by
  refine Zy (!2) λi J T=>?_
  have%[k|L]:=d.2 i _ (Array.getElem?_eq_getElem J);have%[U|Y]:=Xk L
  simp_all
 exact%[by rw[Z6];exact z,acc.toList,c,e▸xI f|G]
def DT(c:X.calm=true):cu X (.type "list") (λxs H Q=>∃(v a:Addr) (b:List (Key×V)),xs=[.ref v]/\H v∣jY v a/\H a∣.dK b/\∀l,H l=none->Q (.ref l) (upd H l (.lst (b\2)))):=⟨wM c⟩
end
def uI:∀{ss:ZB},z∈ss->∃j,ss[j]?∣z/\(∀m,m<j->∀y,ss[m]?∣y->y≠z)/\(z::ss.eraseIdx j).Perm ss
 | x::ss,h=>by
   by_cases e:x=z
   .exact%[0,by simp[e],λm b=>absurd b ⋯|by simp[e]]
   .have%[j,c,d|f]:=uI ((mem_cons.mp h).resolve_left λq=>e q.symm);refine%[j+1,c,λm b y a=>?_|?_]
    .cases m with
     | zero=>simp at a;exact a▸e
     | succ m=>exact d m ⋯ y (a)
    .exact(List.Perm.swap _ _ _).trans (f.cons _)
section
variable{X:Cx}{K:ZA}
abbrev Gm:V->List V->Hp->VK->Prop:=λx vs H Q=>asR x λa=>∃k y,vs=[kV k,y]/\∃b,H a∣.dK b/\Q ((bx b k).getD y) H
def Gn:MtM X "dict.get" Gm:=by
 intro pins s n H x vs v us Q I f g h;have%[a,rfl,k,y,rfl,b,e|q]:=dZ h;cases f;have%[o,i,rfl,j|l]:=lF g;have%[z,m,vs,c|d]:=jJ I.hok e;exact call_meetsIn slot_dict_get d.typeIs PySem.F.entry_dict_get (PySem.F.args_dict_get_3 _ _ _) (meets_dict_get_default _ a (mU j) m i) %[_,d.mapOf,(bx b k).getD y,H,I.tok _,(c.val k).getD l|q]
def qJ:MtQ X "dict.get" Gm:=⟨Gn⟩
abbrev isZ(z:Str):Value->Bool
 | .str x _=>x==z
 | _=>false
def zJ(t:Tok)(r:aJ (ss\3) its)(g: ~~~ss= ~~~its)(i:z∈ss):∃(j:Nat) (d:j<its.toArray.size),ss[j]?∣z/\(z::ss.eraseIdx j).Perm ss/\(∀y,y∈its.toArray->MeetsSeq.EqGives y (.str z t) (isZ z y))/\isZ z its.toArray[j]=true/\∀m (a:m<its.toArray.size),m<j->isZ z its.toArray[m]=false:=by
 have%[j,e,l|n]:=uI i;have at_:∀m y,its[m]?∣y->∃x t,y=Value.str x t/\ss[m]?∣x:=λm y b=>by
  have a:m< ~~~ss:=g▸(Xk b).1;have%[u,h|o]:=r.get (by rw[Zl,Z4 a];rfl);rw[b]at h;have%[t|p]:=o;exact%[_,t,(Za h).trans p|Z4 a]
 have d:j< ~~~its:=g▸(Xk e).1;refine%[j,d,e,n,λy b=>?_,?_|λm a f=>?_]
 .have%[m|a]:=Xe ↑b;have%[x,t',rfl|_]:=at_ m y a;exact eqGives_str x z t' t
 .have%[x,t',ex|c]:=at_ j _ (Z4 d);rw[e]at c;show isZ z its[j]=true;rw[ex,<-Za c];exact beq_self_eq_true z
 .have%[x,t',ex|c]:=at_ m _ (Z4 a);show isZ z its[m]=false;rw[ex];exact beq_eq_false_iff_ne.mpr (l m f x c)
abbrev sV:V->List V->Hp->VK->Prop:=λx vs H Q=>asR x λl=>∃z,vs=[.str z]/\∃ss:ZB,H l<*ss\3/\z∈ss/\∀a,(z::a).Perm ss->Q .non (upd H l (.lst (a\3)))
def zK:MtM X "list.remove" sV:=by
 intro pins s A H x vs v us Q I c d h;have%[l,rfl,z,rfl,ss,a,f|q]:=dZ h;cases c;have%[u,rfl|g]:=d.one;have%[t|rfl]:=g;have%[i,its,n,r,b|e]:=I.lstM a;rw[Z6]at b i;have%[j,m,_,o,p,w|y]:=zJ t r b f;refine call_meets F.slot_list_remove %[_,e|rfl] F.entry_list_remove (F.args_list_remove_2 _ _) (MeetsSeq.list_remove l its.toArray n _ _ p j m w y (!2)) %[e,.non,_,I.lset (its':=its.eraseIdx j) a e ?_ ?_ ?_,rfl|q _ o]
 .simp
 .rw[List.eraseIdx_eq_take_drop_succ,Zd,List.map_take,List.map_drop,<-List.eraseIdx_eq_take_drop_succ];exact r.eraseIdx j
 .have:=qc ss j;rw[Z6]
  lia
def BO:MtQ X "list.remove" sV:=⟨zK⟩
end
def zL:typeLookup (.type "list_reverseiterator") "__len__"=pure none:=by kernel_rfl
def BP:typeLookup (.type "list_reverseiterator") "__length_hint__"=pure (some (.builtin "list_reverseiterator.__length_hint__")):=by kernel_rfl
section
#where
def pK(hh:A.handled=none)(N:s.heap.IsRevIter I l ((items.size:Int) -1))(O:s.heap.IsList l items)(ne:l≠I)(hz:items.size<=sizeLine)
 (hQ:∀s' acc c,(∀b o,b≠I->s.heap.get? b∣o->s'.heap.get? b∣o)->s'.gens=s.gens->s'.os=s.os->s'.heap.get? ⇑s=some {cls:= .type "list",data:= .seq acc c}->acc.toList=items.toList.reverse->Q (.ref ⇑s) s'):
 ↥A (call (.type "list") [.ref I]) Q E s:=by
 have u:I<⇑s:=let⟨_,h,_⟩:=N;Zu h;have v:l<⇑s:=let⟨_,h,_⟩:=O;Zu h
 generalize n:s.heap.push {cls:=Value.type "list",data:=Data.seq #[]}=G
 have gz:G.objs.size=⇑s+1:=by rw[<-n,Zq]
 have y:∀b o,s.heap.get? b∣o->G.get? b∣o:=λb o e=>by rw[<-n];exact Z7 _ e
 have p:G.get? ⇑s=some {cls:=Value.type "list",data:=Data.seq #[]}:=by rw[<-n];exact Zj _ rfl
 refine callType_codes (Q₁:=λobj f=>obj= .ref ⇑s/\f=(s>>>G)) F.called_list (F.typeCall_list_1 (Value.ref I)) F.entry_list_init (code_list_new (Value.ref I) %[rfl|by rw[n]]) λobj f i=>?_
 have%[rfl|rfl]:=i;refine%[%[_,p|ρ],F.args_list_init_2 _ _|?_];show ↥A.in1.in1 (Builtin.«list.__init__» %[[.ref ⇑s,.ref I]|[]]) _ _ _;unfold Builtin.«list.__init__»;refine Z2 ?_;refine listItems_at (s:=(s>>>G)) p rfl ?_;refine Z2 (listUpdate_at (s:=(s>>>G)) p rfl ?_ (Xd _));have U:=get?_update_self (Obj.mapSeq λ_=> #[]) p rfl;have d:∀b o,b≠⇑s->G.get? b∣o->(G.update ⇑s (Obj.mapSeq λ_=> #[])).get? b∣o:=λb o z e=>(get?_update_other _ _ (Ne.symm z)).trans e
 refine Z2 (wpAny_letGo ?_)
 generalize G.update ⇑s (Obj.mapSeq λ_=> #[])=g at U d
 have B:I≠⇑s:=Zs u;have nl:l≠⇑s:=Zs v;have j:g.IsRevIter I l ((items.size:Int) -1):=N.at λo e=>d _ _ B (y _ _ e)
 have C:g.IsList l items:=let⟨o,h,r⟩:=O;%[o,d _ _ nl (y _ _ h)|r];have W:=Walks.listRev (prog:=prog) (w:=w) (A:=A.in1.in1) hh I l ne items;have m:(0<=items.size/\g.IsRevIter I l (↑(items).size-1-((0:Nat):Int))/\g.IsList l items):=%[Xd _,↑j|C]
 show ↥A.in1.in1 (Builtin.List.listExtendWith (.ref ⇑s) (.ref I) .none) _ _ (s>>>g);unfold Builtin.List.listExtendWith;have q:Shared.TypeIs (s>>>g) (.ref I) "list_reverseiterator":=j.typeIs;refine Z2 (wpAny_typeOf (T:="list_reverseiterator") q ?_);have n1:Builtin.List.listSameRef (.ref ⇑s) (.ref I)=false:=beq_eq_false_iff_ne.mpr (Ne.symm B);have n2:(Value.type "list_reverseiterator"==Value.type "list")=false:=!1
 have n3:(Value.type "list_reverseiterator"==Value.type "tuple")=false:=!1
 simp only[n1,n2,n3,Bool.or_false,Zz,if_false];refine Z2 (W.self 0 (s>>>g) _ _ m ?_);refine Z2 (wpAny_holding ?_);unfold Builtin.List.listLengthHint;refine Z2 (wpAny_specialOf (T:="list_reverseiterator") q zL ?_);show wpAny _ _ (specialOf (.ref I) (!"__length_hint__")>>= _) _ _ _;refine Z2 (wpAny_specialOf q BP ?_)
 wp_delta
 refine Z2 (wpAny_isInstance (T:="list_reverseiterator") (b:=true) q (by rw[isSubtype_type];kernel_rfl) ?_);simp only[Bool.not_true,Zz,if_false];rw[if_pos (!0)];rw[if_neg (!1)];refine Z3 ?_;rw[if_neg (!0)];have H:⇑s∉[I,l]:=by
  simp only[Yu,X3,or_false,not_or];exact%[Ne.symm B|Ne.symm nl]
 refine Z3 %[plainId_quiet F.plain_extend_loop _|codeAny_extend_loopS W.toS hz _ H _ items.size 0 _ _ _ rfl (Xd _) m U (ItemsOf.nil _) λs5 acc c5 J L a=>?_];refine%[ρ|hQ s5 acc c5 (λb o z e=>?_) J.gens J.os L ?_]
 .have nb:b≠⇑s:=Zs (Zu e);refine J.heap b o ?_ (d _ _ nb (y _ _ e));simp only[Yu,X3,or_false,not_or];exact%[nb|z]
 .apply ext_getElem?;intro k;have al: ~~~acc.toList=items.size:=Zb▸a.1;by_cases Y:k<items.size
  .have M:k<acc.size:=a.1▸Y;have:=a.2 k acc[k] ∅;rw[List.getElem?_reverse (Y),Zb,getElem?_toList,getElem?_toList,this];simp[M]
  .rw[Xj ⋯,Xj (by simp;lia)]
end
abbrev Go(n:Nat)(a l:Addr)(m:Nat):HO:= .ext λh=>n<=a/\h.IsRevIter a l (m-1)
def zM{X:Cx}:cr X (.type "reversed") (λxs H Q=>∃(l:Addr) (ys:List V),xs=[.ref l]/\SqL X.K H l ys/\∀r,H r=none->Q (.ref r) (upd H r (Go X.s₀.heap.objs.size r l ys.length))):=by
 intro pins s a H xs us Q I r h;have%[l,ys,rfl,c|q]:=h;have%[u,rfl|d]:=cG r;cases d;have%[its,f,pl|j]:=I.list c;refine call_reversed_list pl.isList ?_;have g:=I.hok.fresh (Zi _);have J:Inv X pins a H (s>>>(s.heap.push (revObj l (its.toArray.size-1)))):=I.keptS (λb o e=>Z7 _ e) rfl rfl;refine%[.ref ⇑s,_,I.stoodS (o:=Go X.s₀.heap.objs.size ⇑s l ys.length) J (Zi _) %[%[I.sz|?_],%[_|Zj _ rfl]|λ_ _ ⟨i,x⟩ k=>%[i|x.at λo e=>k o e]],ρ|q _ g];rw[~~~f,<-Zp];exact%[_,Zj _ rfl,ρ|ρ]
def Inv.dropped{X:Cx}(I:Inv X pins l H s)(m:H a∣.ext j)(r:X.s₀.heap.objs.size<=a)(g:∀b o,b≠a->s.heap.get? b∣o->s'.heap.get? b∣o)(v:s'.gens=s.gens)(w:s'.os=s.os):Inv X pins l (drop H a) s':=by
 have d:∀{b:Addr} {o:HO},H b∣o->(∀j,o≠ .ext j)->b≠a:=λe n z=>by
  grind
 have un:Un (frs X.stack) [a] H (drop H a) s.heap s'.heap:=by
  refine%[λb o e _ _ f=>g b o ↑f e,λb o e _ _ f=>%[o.slots|g b o ↑f e],λb o _ n _=>?_,λb o e f=>%[o|g b o ↑f e],λb xs e=>?_,λb o u e=>?_|λb ps e=>%[#[]|?_]]
  .unfold drop;split
   .rfl
   .exact n
  .rw[iW (d e ∅)];exact e
  .rw[iW (d e ∅)];exact e
  .rw[iW (d e ∅)];simpa using e
 have h:HOk X.prog X.w (drop H a) s'.heap:=λb o e=>by
  have nb:b≠a:=λz=>by rw[z,zq]at e;cases e
  rw[iW nb]at e;refine(I.hok b o e).stay (λc u i q=>g c u ?_ q) (λc q=>?_) λc xs q=>?_
  .rcases i with rfl|i
   .exact nb
   .exact d i ∅
  .rw[iW (d q ∅)];exact q
  .rw[iW (d q ∅)];exact q
 exact I.call' w un h (by rw[v];exact I.bare) λb y=>by
  obtain rfl:b=a:=↑y
  refine%[.inr r,λz=>?_,λx c e z=>?_|λp A z=>?_]
  .have:=I.free;grind
  .have:=I.freeC x c e;grind
  .have:=(I.pin p A).2.1;rw[z,m]at this;cases this
def uJ{X:Cx}(y:X.calm=true):cr X (.type "list") (λxs H Q=>∃(r l:Addr) (ys:List V),xs=[.ref r]/\H l<*ys/\H r∣Go X.s₀.heap.objs.size r l ys.length/\∀p,drop H r p=none->p≠r->Q (.ref p) (upd (drop H r) p (.lst ys.reverse))):=by
 intro pins s L H xs us Q I r h;have%[a,l,ys,rfl,g,f|q]:=h;have%[u,rfl|A]:=cG r;cases A;have%[z,its,n,B,m|e]:=I.lstM g;have%[%[v|b]|_]:=I.hok a _ f;have i:l≠a:=λz=>by rw[z,f]at g;cases g
 have sz:its.toArray.size= ~~~ys:=!2
 refine pK (I.ok.hd y) (by rw[sz];exact b) %[_,e,rfl,n|rfl] i (by rw[sz];exact z) λs' acc c C E j G d=>?_
 have w:=I.dropped f v (λ_ _ _ e=>e) rfl rfl;have J:=I.dropped f v C E j;have lt:=let⟨_,j,_⟩:=b;Zu j;refine%[.ref ⇑s,_,w.stoodS (o:= .lst ys.reverse) J (Zi _) %[?_,acc.toList,c,?_|?_],ρ|q _ (w.hok.fresh (Zi _)) (Yx lt)]
 .rw[List.length_reverse];exact z
 .rw[d];exact B.reverse
 .exact G
abbrev uK(b:TE):TE:=λc H Q=>b c H λv a=>∃l ys,v= .ref l/\a l<*ys/\∀p,a p=none->Q (.ref p) (upd a p (.lst ys.reverse))
def BQ{X:Cx}(h:X.calm=true)(i:Gl X "reversed")(j:X.mg "reversed"=none)(a:Gl X "list")(b:X.mg "list"=none)(d:aS e=false)(m:QE X e n):
 QE X (.Call (.Name "list" o) [.Call (.Name "reversed" s) [e] [] u] [] w) (uK n):=by
 have y:QE X (.Call (.Name _ s) [e] [] u) _:=ctE ⟨zM⟩ i j PyProof.Rows.boot_reversed rfl rfl (by simp[d]) (paE d (⟨F4 m.h⟩) am);have z:=ctE (p:=o) (pos:=w) ⟨uJ h⟩ a b boot_list rfl rfl rfl (paE rfl y am);refine⟨F5 z.h λB H Q q=>?_⟩;refine%[_,q|λv C ⟨l,ys,A,c,q⟩=>%[l,ys,by rw[A],SqL.of c|λr f=>?_]];refine%[r,l,ys,ρ,by rw[ak (au c f)];exact c,aa|λp g _=>?_];rw[Bm f]at g ⊢;exact q p g
section
variable{X:Cx}
abbrev Gp:R2:=λx y H Q=>asR x λa=>asR y λb=>∃xs,H a<*xs/\H b<*[]/\Q (.bl (decide (xs≠[]))) H
def Gq(B:X.A.units+64<cLine):OpR X (compareOp .NotEq) Gp:=by
 intro pins s C H x y v u Q I l m h;have%[a,rfl|o]:=dZ h;have%[b,rfl,xs,p,w|q]:=dZ o;cases l;cases m;have%[z,its,n,r,g|e]:=I.lstM p;have%[E,its2,i,G,d|c]:=I.lstM w;obtain rfl:its2=[]:=length_eq_zero_iff.mp d.symm;by_cases f:xs=[]
 .subst f;obtain rfl:its=[]:=length_eq_zero_iff.mp g.symm;exact richCompare_meets_room (op:= .NotEq) %[_,e|rfl] %[_,c|rfl] PySem.F.slot_list_ne PySem.F.entry_list_ne (PySem.F.args_list_ne_2 _ _) (SeqAt.list_neAt a b #[] #[] n i none none #[] #[] rfl λ_=>true) %[e,c,λj h=>absurd h (X2 j),by simp,.bl _,H,I,rfl|q] ⋯
 .have A:its.toArray.size≠0:=by
   rw[Zp,<-g];exact λq=>f (length_eq_zero_iff.mp q)
  rw[Zf f]at q;exact richCompare_meets_room (op:= .NotEq) %[_,e|rfl] %[_,c|rfl] PySem.F.slot_list_ne PySem.F.entry_list_ne (PySem.F.args_list_ne_2 _ _) (SeqAt.list_ne_lengthsAt a b its.toArray #[] n i none none #[] #[] ↑A) %[e,c,by simp,.bl true,H,I,rfl|q] ⋯
def uL(a:bX k X.A):OpQ X (compareOp .NotEq) Gp:=⟨Gq a.units⟩
#where
def eR(I:List i->j->Shared->Prop):∀(xs:List i) (b:j) (s:Shared),I xs b s->
 (∀x r b s,I (x::r) b s->↥A (f x b) (λy s'=>match y with| .done c=>Q c s'| .yield c=>I r c s') E s)->(∀b s,I [] b s->Q b s)->↥A (forIn xs b f) Q E s
 |[],b,s,h,_,a=>by
  exact Z3 (a b s h)
 | x::r,b,s,h,d,a=>by
   rw[forIn_cons];refine Z2 (wpAny_mono (d x r b s h) (λy s' g=>?_) λ_ _ e=>e);cases y with
   | done c=>exact Z3 g
   | yield c=>exact eR I r c s' g d a
def BR:∀as {Q:Bool->Shared->Prop},(∀b∈as,∃c,bi w b c s.heap)->Q true s->↥A (setsQuiet as) Q E s:=by
 intro as Q h j;refine Z2 (eR (λr b s'=>(∀b∈r,∃c,bi w b c s.heap)/\b=(none,())/\s'=s) as _ s %[h,rfl|rfl] ?_ ?_)
 .intro x r b s' %[f,rfl|rfl];have%[c,o,es,B,t,ss,l,m,n,p,C,q,d,G,v,y|g]:=f x Zm;refine Z2 (wpAny_setEntries_of l n v (Z2 ?_));rw[<-forIn_toList];refine eR (λr b a=>(∀e∈r,∃z u,e=(hashStr w z,Value.str z u))/\b=(none,())/\a=s') es.toList _ _ %[d,rfl|rfl] ?_ ?_
  .intro e r b a %[i,rfl|rfl];have%[z,u|rfl]:=i e Zm;exact Z3 %[λe h=>i e (Zk _ h),rfl|rfl]
  .intro b a %[_,rfl|rfl];exact Z3 %[λe h=>f e (Zk _ h),rfl|rfl]
 .intro b s' %[_,rfl|rfl];exact Z3 j
abbrev hsE(w:World)(p:Str×Tok):Int×Value:=(hashStr w p.1,.str p.1 p.2)
def bi.texts{a:Addr}{h:Heap}{o:Obj}{es:Array (Int×Value)}(c:StrsAre (es.toList\2) ss)(f:ss.Perm ks)(d:∀e∈es.toList,∃z u,e=(hashStr w z,Value.str z u))(xs:List (Int×Value))(b:xs.Perm es.toList):∃zs:List (Str×Tok),xs=zs.map (hsE w)/\(zs\1).Perm ks:=by
 have all:∀l,(∀e∈l,∃z u,e=(hashStr w z,Value.str z u))->∃zs:List _,l=zs.map (hsE w):=λl=>by
  induction l with
  | nil=>exact λ_=>%[[]|rfl]
  | cons e l g=>
    intro h;have%[z,u|rfl]:=h e Zm;have%[zs|rfl]:=g λx b=>h x (Zk _ b)
    exact%[(z,u)::zs|ρ]
 have%[zs|rfl]:=all xs λe i=>d e (b.mem_iff.mp i)
 refine%[zs,ρ|?_];have%[ts,j|m]:=cp c (b.map _);have e:ts=zs\1:=by
  rw[<-j.strs,Yq,Yq];rfl
 exact e▸m.trans f
def qK{f:List Addr}{c:ZI}{Q:Array (Int×Value)->Shared->Prop}(U:bi w a ks s.heap)(hO:∀b∈f,∃js,bi w b js s.heap)(n:∀r,c∣r->r≠a/\bi w r [] s.heap)
 (hQ:∀(zs:List (Str×Tok)) (d:Drawn) (h':Heap),(zs\1).Perm ks->(∀b o,c≠some b->s.heap.get? b∣o->h'.get? b∣o)->(∀r,c∣r->bi w r [] h')->Q (zs.map (hsE w)).toArray {s with heap:=h',drawn:=d}):
 ↥A (setWalkUnseen a f c) Q E s:=by
 have%[o,es,ep,t,ss,Y,ac,hd,J,hp,ae,L,I,hf,M|i]:=id U;have g:∀(xs:List _) d h',xs.Perm es.toList->(∀b o,c≠some b->s.heap.get? b∣o->h'.get? b∣o)->(∀r,c∣r->bi w r [] h')->Q xs.toArray {s with heap:=h',drawn:=d}:=λxs d h' hx u h2=>by
  have%[zs,rfl|hz]:=bi.texts (a:=a) (h:=h') (o:=o) J hp L xs hx;exact hQ zs d h' hz u h2
 have walk:↥A (setWalk a) Q E s:=by
  refine Z2 (wpAny_setState_of Y hd hf ?_);show wpAny _ _ (if aT w=true then _ else _) _ _ _;by_cases N:aT w=true
  .rw[if_pos N];refine Z2 (wpAny_askSetting (Z3 ?_));have:=g (pickOrder (w.params.setOrder a ep) es).toList s.drawn s.heap (qw _ _) (λ_ _ _ e=>e) λr e=>(n r e).2
   exact this
  .rw[if_neg N]
   split
   .exact Z2 (sE es.size es.toList _ _ ∅ λys d p=>Z3 (g ys d s.heap p (λ_ _ _ e=>e) λr e=>(n r e).2))
   .refine Z2 ?_;show wpAny _ _ (if(!t.led&&decide _)=true then unsupported _ else pure ()) _ _ _;rw[i,show aT w=false by simpa using N];refine Z3 (Z3 ?_);have:=g es.toList s.drawn s.heap (.refl _) (λ_ _ _ e=>e) λr e=>(n r e).2
    exact this
 refine Z2 (wpAny_setState_of Y hd hf ?_);show wpAny _ _ (if(aT w||t.led&&t.plain||decide _)=true then _ else _) _ _ _;by_cases u:(aT w||t.led&&t.plain||decide (es.size<=1))=true
 .rw[if_pos u];exact walk
 .rw[if_neg u];refine Z2 (BR _ (λb I=>?_) ?_)
  .rcases mem_cons.mp I with e|e
   .exact e▸%[_|U]
   .exact hO b e
  refine Z2 (wpAny_rule ?_);cases c with
  | none=>
    have:=g es.toList s.drawn s.heap (.refl _) (λ_ _ _ e=>e) λr e=>(n r e).2
    exact Z3 this
  | some r=>
    have%[ne,o2,O,ag,q,al,j,v,l,y,T,B,C,G,H,ab|m]:=n r rfl;dsimp only;refine Z2 (wpAny_setState_of j l H ?_)
    split
    .refine Z2 (wpAny_storeSet_of j l ?_ (fits_of_scanBound G));have:=g es.toList s.drawn _ (.refl _) (λb o I e=>((SameBut.update s.heap r (Obj.putSet O {q with led:=q.led&&t.led,plain:=q.plain&&t.plain})).2 b λz=>I (by rw[z])).trans e) λr' e=>?_
     .exact Z3 this
     .cases e;exact(bi.stored (t':={q with led:=q.led&&t.led,plain:=q.plain&&t.plain}) j v l y T B C G H (by rw[(M λz=>u (by rw[z];simp)),Bool.and_false]) (by rw[m,i,Bool.and_self])).2
    .have:=g es.toList s.drawn s.heap (.refl _) (λ_ _ _ e=>e) λr e=>(n r e).2
     exact Z3 this
def DU(h:jb (Sum.inr z) (Value.str y u)=true):y=z:=by
 rcases aW h with⟨i,t',a,b⟩|⟨c,t',a,b⟩
 .lia
 grind
def uM{ks:ZB}(g:s.heap.get? a∣o)(i:o.data= .set es G t)(b:∀e∈es.toList,∃z u,e=(hashStr w z,Value.str z u))(B:es.size<scanBound)(l:t.fits es.size=true)
 (m:∀r,(r=none->∀e∈es.toList,∀u,e.2≠ .str z u)->(∀j,r∣j->∃u,es.toList[j]?∣(hashStr w z,.str z u))->Q r s):↥A (setFind a (.str z tk) (hashStr w z)) Q E s:=by
 have n:ElemsOf (aQ prog w) es.toList:=qv b;have c:(aQ prog w).is (Sum.inr z) (.str z tk)=true:=dC z tk;refine Z2 (wpAny_setState_of g i l ?_);dsimp only;rw[byScan_of rfl B n];refine Z2 (wpAny_rule (Z2 (wpAny_setScan_of c g i l n ?_)));cases p:List.findIdx? _ es.toList with
 | some j=>
   have%[v,d|_]:=List.findIdx?_eq_some_iff_getElem.mp p;dsimp only;rw[zero_add];refine Z3 (m _ (λh=>(nomatch h)) λH e=>?_);cases e;have%[y,u|f]:=b _ (Yc v);rw[f]at d;rw[DU (u:=u) d]at f;exact%[u|by rw[Z4 v,f]]
 | none=>
   refine Z3 (m none (λ_ e C u q=>?_) λj e=>(nomatch e));have:=List.findIdx?_eq_none_iff.mp p e C;rw[q,show(aQ prog w).is (Sum.inr z) (Value.str z u)=true from dC z u]at this;cases this
def zN{t:SetTable}(h:t.fits n=true)(hi:i<n):(t.drop i).fits (n-1)=true/\(t.drop i).led=t.led/\(t.drop i).plain=t.plain:=by
 unfold SetTable.fits at h ⊢;rw[Zv,beq_iff_eq,decide_eq_true_eq]at h;unfold SetTable.drop;have:t.place[i]?∣t.place[i]:=by simp
 rw[this];refine%[?_,ρ|ρ];rw[Zv,beq_iff_eq,decide_eq_true_eq];unfold SetTable.fill at h ⊢;simp only[SetTable.eraseAt,SetTable.insertAt,size_append,Array.size_extract,Xh]
 lia
def wN(h:i<es.size):(SetTable.eraseAt es i).toList=es.toList.eraseIdx i:=by
 rw[List.eraseIdx_eq_take_drop_succ,SetTable.eraseAt,Xc,toList_extract,toList_extract,List.extract_eq_take_drop,List.extract_eq_take_drop];simp;exact Zn ∅
def uN{ks:ZB}(H:bi w a ks s.heap)(l:∀h' b,SameBut a s.heap h'->bi w a (ks.erase z) h'->Q b (s>>>h')):↥A (setDiscardHashed a (.str z tk) (hashStr w z)) Q E s:=by
 have%[o,es,ep,t,ss,g,m,h,c,I,n,d,J,p,v|f]:=id H;refine Z2 (uM (ks:=ks) g h d J p λr L M=>?_);cases r with
 | none=>
   have N:z∉ks:=λq=>by
    have%[u|j]:=(dP c).mpr (I.mem_iff.mpr q);have%[e,y|O]:=Xn j;exact L rfl e y u O
   rw[List.erase_of_not_mem N]at l;exact Z3 (l s.heap false (SameBut.refl a s.heap) H)
 | some i=>
   have%[u|j]:=M i rfl;have hi:i<es.size:=(Xk j).1;have B:((hashStr w z,Value.str z u)::(SetTable.eraseAt es i).toList).Perm es.toList:=by
    rw[wN hi];have:=gG (xs:=es.toList) (hi);rwa[(Xk j).2]at this
   have%[ts,C|T]:=cp c (B.map _);cases C with
   | cons _ _ C=>
   have%[U,Y|d3]:=zN p hi;have G:(SetTable.eraseAt es i).size=es.size-1:=by
    rw[<-Zb,<-Zb,<-B.length_eq];simp
   refine Z2 (wpAny_setState_of g h p ?_);dsimp only;refine Z2 (wpAny_storeSet_of g h (Z2 (wpAny_point (Z3 (l _ true (SameBut.update s.heap a _) (bi.stored g m h C ((List.cons_perm_iff_perm_erase.mp (T.trans I)).2) (n.erase z) (λe y=>d e (B.mem_iff.mp (Zk _ y))) ?_ ?_ ?_ ?_).2)))) (fits_of_scanBound ?_))
   .lia
   .exact G▸U
   .exact d3▸v ⋯
   .exact Y▸f
   .lia
end
def xJ(h:_T.WF t es)(a:es.size<=t.mask):t.fits es.size=true:=by
 unfold SetTable.fits SetTable.fill;rw[h.size,h.dum];simpa using a
section
#where
abbrev sW(w:World)(a:Addr)(n:Nat)(h:Heap):Prop:=∃o b t,h.get? a∣o/\o.ExactSet/\o.data= .set #[] b t/\t.place= #[]/\t.dummies= #[]/\t.led=(!aT w)/\(∃k,t.mask+1=2^k)/\7<=t.mask/\n<=t.mask
def sW.fits{t:SetTable}(a:t.place= #[])(b:t.dummies= #[]):t.fits (#[]:Array (Int×Value)).size=true:=by
 unfold SetTable.fits SetTable.fill;rw[a,b];simp
def DV{n:Nat}{Q:Unit->Shared->Prop}(a:s.heap.get? r∣aU w)(f:n<=1000)(c:∀h',SameBut r s.heap h'->sW w r n h'->Q () (s>>>h')):↥A (setRoomFor r n) Q E s:=by
 have d:(SetTable.fresh 0 0 (!aT w)).fits _=true:=sW.fits rfl rfl;refine Z2 (wpAny_setState_of a rfl d ?_);show wpAny _ _ (match(if(0+n)*5>=7*3 then some ((0+n)*2)else none)with|some x=>setRelay r x|_=>pure ()) _ _ _;by_cases h:(0+n)*5>=7*3
 .rw[if_pos h];refine _T.relay_w a rfl d ∅ ⋯ λb t' P W l p g m2=>c _ (SameBut.update s.heap r _) ?_
  obtain rfl:b= #[]:=by
   have:=P.length_eq;simpa using this
  have e:=by
   have q:=get?_update_self (Obj.putSet #[] t') a (by rfl);rwa[putSet_of #[] t' rfl]at q
  exact%[_,_,t',e,%[ρ,ρ|ρ],ρ,Array.eq_empty_of_size_eq_zero W.size,W.dum,l,W.pow,W.big|⋯]
 .rw[if_neg h];exact Z3 (c s.heap (SameBut.refl r s.heap) %[_,_,_,a,%[rfl,rfl|rfl],rfl,rfl,rfl,rfl,%[3|rfl],Zi 7|by show n<=7;lia])
def BS{ks:ZB}(L:bi w a ks s.heap)(M:s.heap.get? r∣aU w)(N:r≠a)(h1:1<= ~~~ks)(h2: ~~~ks<=1000)(O:∀h',SameBut r s.heap h'->bi w r ks h'->Q () (s>>>h')):↥A (setMerge r a) Q E s:=by
 have%[o,es,ep,t,ss,T,U,Y,m,C,y,z,hb,G,B|d]:=id L;have hn:es.size= ~~~ks:=by
  have q:=a8 m;rw[Z6,Zb,C.length_eq]at q;exact q
 have pl:t.plain=false:=B ⋯;unfold setMerge;rw[if_neg ↑N];refine Z2 (wpAny_setState_of T Y G ?_);dsimp only;rw[if_neg (λh:es.isEmpty=true=>by have:=Zo h;lia)];refine Z2 (DV M ⋯ λh' sb ⟨o2,ab,n,g,u,i,H,I,J,k2,b2,m2⟩=>Z2 (wpAny_setState_of (s:=(s>>>h')) g i (sW.fits H I) ?_));dsimp only;have j:n.fill=0:=by unfold SetTable.fill;rw[H,I];rfl
 have put:∀(b:Array (Int×Value)) (t':SetTable),b.toList.Perm es.toList->t'.fits b.size=true->t'.plain=false->t'.led=(!aT w)->↥A (storeSet r b t') Q E (s>>>h'):=λb t' P f p l=>by
  have sz:b.size=es.size:=by rw[<-Zb,P.length_eq,Zb]
  have%[ts,r1|r2]:=cp m (P\2);exact wpAny_storeSet_of (s:=(s>>>h')) g i (O _ (sb.trans (SameBut.update h' r _)) (bi.stored (w:=w) g u i r1 (r2.trans C) y (λe he=>z e (P.mem_iff.mp he)) ⋯ f p l).2) (fits_of_scanBound ⋯)
 unfold SetTable.road;rw[j,if_neg (!1)]
 split
 .exact put es _ (.refl _) G (by show(n.plain&&t.plain)=false;rw[pl,Bool.and_false]) (by show(n.led&&t.led)=_;rw[J,d,Bool.and_self])
 .have%[k|hk]:=k2;have%[t',c,e1,e2,e3,e4,e5,W|P]:=_T.laid_ok hk b2 es ⋯ n.finger n.moves _ _;have sz:(c.filterMap (es[·]?)).size=es.size:=by rw[<-Zb,P.length_eq,Zb]
  rw[e1];refine Z2 ?_;show wpAny _ A (if((c.filterMap _).size != es.size)=true then _ else pure _) _ E _;rw[if_neg (by simp[sz])];exact Z3 (put _ t' P (show t'.fits _=true from xJ W (by rw[sz,e2];lia)) (by rw[e4,pl,Bool.and_false]) (by rw[e3,J,d,Bool.and_self]))
 .rename_i v
  split at v<;> cases v
end
def bi.nd(S:bi w a ks h):ks.Nodup:=by
 have%[_,_,_,_,_,_,_,_,_,_,h|_]:=S;exact h
section
#where
def sX(c:bi w b f s.heap)(d:Q true s):↥A (Builtin.Frozenset.isAnySet (.ref b)) Q E s:=by
 have%[o,es,g,t,ss,e,a|_]:=c;exact Z2 (wpAny_isInstance (b:=true) %[o,e|a.1] (by kernel_rfl) (Z3 d))
def jZ(d:bi w b e s.heap)(f:Q e.length s):↥A (Builtin.Frozenset.sizeOf b) Q E s:=by
 have%[o,es,u,t,ss,g,h,i,a,j,l,m,v,n,p|c]:=d;have r:=by
  have q:=a8 a;rw[Z6,Zb,j.length_eq]at q;exact q
 exact Z2 (wpAny_setEntries_of g i n (Z3 (r▸f)))
def BT(N:bi w r ks s.heap)(O:bi w b T s.heap)(ne:r≠b)(big: ~~~T< ~~~ks)(few: ~~~ks<=900)
 (hQ:∀h' d f,(∀c o,c≠r->s.heap.get? c∣o->h'.get? c∣o)->(∀x,x∈f↔x∈ks/\x∉T)->bi w r f h'->Q () {s with heap:=h',drawn:=d}):↥A (Builtin.Frozenset.differenceUpdate nm r (.ref b)) Q E s:=by
 unfold Builtin.Frozenset.differenceUpdate;rw[if_neg (by simpa using ne.symm)];refine Z2 (sX O ?_);rw[if_pos rfl];refine Z2 (Z3 (Z2 (jZ O (Z2 (jZ N ?_)))));rw[if_neg ⋯];have%[o,es,ep,t,ss,ho,an,hd,as,hp,a0,a1,hb,hf,a2|al]:=id O;have B:∀(s':Shared) (Q':Nat->Shared->Prop),s'.heap.get? b∣o->Q' ep s'->↥A (setEpoch b) Q' E s':=λs' Q' e q=>by
  unfold setEpoch;exact Z2 (wpAny_setState_of e hd hf (Z3 q))
 refine Z2 (B s _ ho (Z2 (wpAny_holding (Z2 (qK O (λc j=>%[ks|(Xm j)▸N]) (λ_ e=>(nomatch e)) λzs d h1 pz k1 _=>Z2 ?_)))));rw[<-forIn_toList];refine eR (λxs _ s'=>∃g rest h',zs=g++rest/\xs=rest.map (hsE w)/\s'={s with heap:=h',drawn:=d}/\(∀c o,c≠r->s.heap.get? c∣o->h'.get? c∣o)/\∃f,bi w r f h'/\∀x,x∈f↔x∈ks/\x∉g\1) _ _ _
  %[[],zs,h1,rfl,rfl,rfl,λc o _ e=>k1 c o ∅ e,ks,N.keep λo e=>k1 r o ∅ e|by simp] ?_ ?_
 .intro x xs _ s' %[g,rest,h',U,ex,rfl,Y,f,S|h];cases rest with
  | nil=>cases ex
  | cons p rest=>
  rw[Yp]at ex;injection ex with ab ac
  subst ab;refine Z2 (wpAny_holding (uN (z:=p.1) (tk:=p.2) (s:={s with heap:=h',drawn:=d}) S λh2 bb sb S2=>Z2 ?_));unfold Builtin.Frozenset.unchanged;have C:∀c o,c≠r->s.heap.get? c∣o->h2.get? c∣o:=λc o j e=>(sb.2 c j).trans (Y c o j e)
  refine Z2 (B {s with heap:=h2,drawn:=d} _ (C b o ne.symm ho) ?_);rw[if_neg ∅];refine Z3 (Z3 %[g++[p],rest,h2,by rw[U,Ze];rfl,ac,rfl,C,_,S2|λx=>?_]);rw[S.nd.mem_erase_iff,h,Zd,Yr,Yp,map_nil,Yw,not_or]
  constructor
  .exact λ⟨a,b,c⟩=>%[b,c|a]
  .exact λ⟨b,c,a⟩=>%[a,b|c]
 .intro _ s' %[g,rest,h',U,ex,rfl,Y,f,S|h];obtain rfl:rest=[]:=by
   cases rest with
   | nil=>rfl
   | cons p rest=>cases ex
  rw[Zx]at U;have h:∀x,x∈f↔x∈ks/\x∉T:=λx=>by rw[h,<-U,pz.mem_iff]
  have ae: ~~~f≠0:=λe=>by
   have:=_T.nodup_sub N.nd (m:=T) λx hx=>Decidable.byContradiction λq=>by
    have:=(h x).mpr %[hx|q];rw[length_eq_zero_iff.mp e]at this;cases this
   lia
  have sub:=_T.nodup_sub S.nd λx hx=>((h x).mp hx).1
  refine Z3 ?_;have%[o2,n,a3,t2,a4,u,G,v,i,H,I,J,a5,L,M|y]:=id S;have hn:=by
   have q:=a8 i;rw[Z6,Zb,H.length_eq]at q;exact q
  refine Z2 (wpAny_setState_of u v L ?_);dsimp only
  split
  .rw[show SetTable.grown n.size=n.size*4 by unfold SetTable.grown;rw[if_neg ⋯]];refine _T.relay_w u v L ⋯ ⋯ λag t' P W l p m1 m2=>?_
   have sz:ag.size=n.size:=by rw[<-Zb,P.length_eq,Zb]
   have%[ts,r1|r2]:=cp i (P\2);exact hQ _ d f (λc o j e=>((SameBut.update h' r _).2 c j).trans (Y c o j e)) h (bi.stored u G v r1 (r2.trans H) I (λe he=>J e (P.mem_iff.mp he)) ⋯ (xJ W ⋯) (p▸M ⋯) (l▸y)).2
  .exact Z3 (hQ h' d f Y h S)
def uO(a:Q (.ref ⇑s) (s>>>s.heap.push (aU w))):↥A (newSet (.type "set")) Q E s:=by
 exact Z2 (Z2 (wpAny_askSetting (Z3 (wpAny_newObj_type a))))
def uP(d:bi w a ks s.heap)(e:Q (.type "set") s):↥A (Builtin.Frozenset.baseOf a) Q E s:=by
 have%[o,es,g,t,ss,f,c|_]:=d;exact Z2 (wpAny_isInstance (b:=true) %[o,f|c.1] (by kernel_rfl) (Z3 e))
def DW(v:bi w a ks s.heap)(C:bi w b I s.heap)(few: ~~~ks<=900)
 (hQ:∀h' d i,(∀c o,s.heap.get? c∣o->h'.get? c∣o)->(∀x,x∈i↔x∈ks/\x∉I)->bi w ⇑s i h'->Q (.ref ⇑s) {s with heap:=h',drawn:=d}):↥A (Builtin.Frozenset.difference nm a (.ref b)) Q E s:=by
 have lt:∀{c:Addr} {ls:ZB},bi w c ls s.heap->c≠⇑s:=λ{c ls} h=>by
  have%[o,_,_,_,_,U|_]:=h;exact Zs (Zu U)
 have J:∀c o,s.heap.get? c∣o->(s.heap.push (aU w)).get? c∣o:=λc o e=>Z7 _ e
 have Y:(s.heap.push (aU w)).get? ⇑s∣aU w:=Zj _ rfl;have S1:=v.keep λo e=>J a o e
 have O1:=C.keep λo e=>J b o e
 unfold Builtin.Frozenset.difference;dsimp only;refine Z2 (sX C ?_);rw[if_neg (!1)];refine Z2 (Z3 ?_);rw[if_neg ∅,if_pos rfl];refine Z2 (jZ C (Z2 (jZ v ?_)))
 generalize hG:s.heap.push (aU w)=G at J Y S1 O1
 split
 .refine Z2 (wpAny_rule (Z2 ?_));unfold Builtin.Frozenset.copyOf;refine Z2 (uP v (Z2 (uO ?_)));rw[hG];refine Z2 (Z3 (Z2 (BS (s:=(s>>>G)) S1 Y (Ne.symm (lt v)) ⋯ ⋯ λh1 sb R1=>Z3 ?_)));have k1:∀c o,s.heap.get? c∣o->h1.get? c∣o:=λc o e=>(sb.2 c (Zs (Zu e))).trans (J c o e)
  exact Z2 (Z3 (Z2 (wpAny_holding (BT (s:=(s>>>h1)) R1 (C.keep λo e=>k1 b o e) (Ne.symm (lt C)) ⋯ few λl d i k2 y M=>Z3 (hQ l d i (λc o e=>k2 c o (Zs (Zu e)) (k1 c o e)) y M)))))
 .refine Z2 (uP v (Z2 (uO ?_)));rw[hG];refine Z2 (Z3 ?_);have%[o,es,ep,t,ss,U,a3,hd,a4,hp,a5,a6,hb,hf,bc|as]:=id S1;have L:∀(s':Shared) (Q':Nat->Shared->Prop),s'.heap.get? a∣o->Q' ep s'->↥A (setEpoch a) Q' E s':=λs' Q' e q=>by
   unfold setEpoch;exact Z2 (wpAny_setState_of e hd hf (Z3 q))
  refine Z2 (L (s>>>G) _ U ?_);rw[if_pos rfl];refine Z2 (wpAny_holding (Z2 (qK (s:=(s>>>G)) S1 (λc B=>?_) (λr e=>⟨by cases e;exact Ne.symm (lt v),by cases e;exact bi.empty Y⟩) λzs d h1 pz k1 r1=>Z2 ?_)))
  .simp only[Yu,X3,or_false]at B;rcases B with rfl|rfl
   .exact%[_|O1]
   .exact%[_|bi.empty Y]
  rw[<-forIn_toList];refine eR (λxs _ s'=>∃f rest h',zs=f++rest/\xs=rest.map (hsE w)/\s'={s with heap:=h',drawn:=d}/\(∀c o,c≠⇑s->G.get? c∣o->h'.get? c∣o)/\∃i,bi w ⇑s i h'/\ ~~~i<= ~~~f/\∀x,x∈i↔x∈f\1/\x∉I) _ _ _
   %[[],zs,h1,rfl,rfl,rfl,(λc o B e=>k1 c o (λq=>B (Za q).symm) e),[],r1 _ rfl,Zi _|by simp] ?_ ?_
  .intro x xs _ s' %[f,rest,h',H,ex,rfl,g,i,M,ml|y];cases rest with
   | nil=>cases ex
   | cons p rest=>
   rw[Yp]at ex;injection ex with ab N
   subst ab;have zl: ~~~zs= ~~~ks:=by rw[<-pz.length_eq,Z6]
   have pl: ~~~f< ~~~ks:=by rw[<-zl,H,Z9,Zr];lia
   rw[if_pos rfl];have m:∀(l:Heap) Qx,(∀c o,c≠⇑s->G.get? c∣o->l.get? c∣o)->Qx (.yield ⟨⟩) {s with heap:=l,drawn:=d}->↥A (Builtin.Frozenset.unchanged nm a ep>>= λ_=>pure (ForInStep.yield PUnit.unit)) Qx E {s with heap:=l,drawn:=d}:=λl Qx k2 q=>by
    refine Z2 ?_;unfold Builtin.Frozenset.unchanged;refine Z2 (L {s with heap:=l,drawn:=d} _ (k2 a o (lt v) U) ?_);rw[if_neg ∅];exact Z3 (Z3 q)
   have mem:∀x,x∈(f++[p])\1↔x∈f\1\/x=p.1:=λx=>by rw[Zd,Yr,Yp,map_nil,Yw]
   have%[o2,be,bf,t2,bl,ac,a0,ae,n,O,a1,T,ag,al,a2|an]:=id O1;refine Z2 (wpAny_holding (Z2 (uM (ks:=I) (z:=p.1) (tk:=p.2) (g b o2 (lt C) ac) ae T ag al λq q1 q2=>Z2 (Z3 ?_))));cases q with
   | none=>
     have hz:p.1∉I:=λz=>by
      have%[u|hu]:=(dP n).mpr (O.mem_iff.mpr z);have%[e,he|q3]:=Xn hu;exact q1 rfl e he u q3
     rw[if_pos (by rfl)];refine Z2 (jR (z:=p.1) (tk:=p.2) M (by rw[show scanBound=4096 from rfl];lia) λl bb sb M2=>Z3 ?_);have k2:=λc o B e=>(sb.2 c B).trans (g c o B e)
     refine m l _ k2 %[f++[p],rest,l,by rw[H,Ze];rfl,N,rfl,k2,_,M2,?_|λx=>?_]
     .rw[Z9,Yj]
      split
      .lia
      .rw[Z9,Yj];lia
     .rw[mem];by_cases hx:x=p.1
      .subst hx;refine%[λ_=>%[.inr rfl|hz]|λ_=>?_]
       split
       .rename_i h;exact h
       .exact Yt _ Zm
      .split
       .rw[y];exact%[λh=>%[.inl h.1|h.2]|λh=>%[h.1.resolve_right hx|h.2]]
       .rw[Yr,Yw,y];exact%[λh=>let h:=h.resolve_right hx;%[.inl h.1|h.2]|λh=> .inl %[h.1.resolve_right hx|h.2]]
   | some j=>
     have hz:p.1∈I:=by
      have%[u|hu]:=q2 j rfl;exact O.mem_iff.mp ((dP n).mp %[u|Xo %[_,Z8 hu|rfl]])
     rw[if_neg ∅];refine Z3 (m h' _ g %[f++[p],rest,h',by rw[H,Ze];rfl,N,rfl,g,i,M,by rw[Z9];lia|λx=>?_]);rw[y,mem];refine%[λh=>%[.inl h.1|h.2]|λh=>%[h.1.resolve_right λe=>h.2 (e▸hz)|h.2]]
  .intro _ s' %[f,rest,h',H,ex,rfl,g,i,M,ml|y];obtain rfl:rest=[]:=by
    cases rest with
    | nil=>rfl
    | cons p rest=>cases ex
   rw[Zx]at H;exact Z3 (Z3 (hQ h' d i (λc o e=>g c o (Zs (Zu e)) (J c o e)) (λx=>by rw[y,<-H,pz.mem_iff]) M))
end
def sY:entryFor table "set.__sub__"=some Builtin.«frozenset.__sub__»:=entryFor_alias (id':="frozenset.__sub__") (by kernel_rfl) rfl (!0) (by kernel_rfl)
section
variable{X:Cx}
abbrev BU(w:World):R2:=λx y H Q=>asR x λa=>asR y λb=>∃ks d,H a∣iq w a ks/\H b∣iq w b d/\ ~~~ks<=900/\∀l c,H l=none->(∀x,x∈c↔x∈ks/\x∉d)->c.Nodup->Q (.ref l) (upd H l (iq w l c))
def DX:OpR X (binaryOp .Sub) (BU X.w):=by
 intro pins s A H x y v u Q I l m h;have%[a,rfl|n]:=dZ h;have%[b,rfl,ks,B,p,r,few|q]:=dZ n;cases l;cases m;have%[S,_|_]:=(I.hok a _ p)
 have%[O,_|_]:=(I.hok b _ r)
 have e:∀{c:Addr} {i:ZB},bi X.w c i s.heap->s.TypeIs (.ref c) _:=λ{c i} h=>by
  have%[o,es,C,t,ss,f,g|_]:=h;exact%[o,f|g.1]
 refine wpAny_binaryOp_same (e S) (e O) F.fills_set_sub F.slot_set_sub (wpAny_call_entry F.slot_set_sub (e S) sY (Z2 (Z2 (Z3 (Z3 (Z2 (Z2 (sX S (sX O (Z2 (Z3 (Z2 (DW S O few λh' d j k w M=>Z3 %[_,rfl,by simp,.ref ⇑s,_,I.stoodS (o:=iq X.w ⇑s j) (I.keptS k rfl rfl) (Zi _) %[M,?_|λ_ _ z k1=>bi.keep z k1],rfl|q _ j (I.hok.fresh (Zi _)) w M.nd])))))))))))) (F.args_set_sub_2 _ _));have%[o,_,_,_,_,f|_]:=M;exact%[o|f]
def Gr(h:X.w=w):OpQ X (binaryOp .Sub) (BU w):=by subst h;exact⟨DX⟩
end
def j3{X:Cx}(a:bX k X.A)(b:behindInMarks .NotIn o=false)(hi:QE X i ty)(c:QE X o d):QT X (.Compare i [.NotIn] [o] pos) (tB (sf ty d)):=
 ⟨Ab (yY (by have:=a.units;lia) hi.h c.h) b⟩
open PySem PySem.Spec PyProof.Rows PySem.SeqAt
section
variable{X:Cx}
variable{K:ZA}{pos:Pos}
def af(i:Nat){x:Str}(h:(X.N[i]?,X.env.scope.names.lookup x,x==("__debug__":Str),x==("__classdict__":Str))=(some x,some .local,false,false)):QE X (.Name x pos) (pj i):=by
 simp only[Prod.mk.injEq]at h;exact vn i h.1 (.inl h.2.1) h.2.2.1 h.2.2.2
def bD(i:Nat){x:Str}(h:(X.N[i]?,X.env.scope.names.lookup x,x==("__debug__":Str),x==("__classdict__":Str))=(some x,some .cell,false,false)):QE X (.Name x pos) (pj i):=by
 simp only[Prod.mk.injEq]at h;exact vn i h.1 (.inr (.inl h.2.1)) h.2.2.1 h.2.2.2
def aH{mg:ZC}{j k:Nat}{x:Str}{ps:ZB}{sp:Sp}{p:Pos}{e:Expr}{es:List Expr}{t:TA}(C:Cal X.prog X.w K mg X.base j x ps sp)(a:bX k X.A)(h:(X.K,X.mg,X.env.kindOf x,Nat.ble j k,x==("__debug__":Str),(e::es).any aS)=(K,mg,some .globalImplicit,true,false,false))(b:QA X (e::es) t):QE X (.Call (.Name x p) (e::es) [] pos) (tT sp [] E0 t):=by
 simp only[Prod.mk.injEq]at h;have%[rfl,rfl|h]:=h;exact calE C a h.1 h.2.1 h.2.2.1 h.2.2.2 b
def Hu{mg:ZC}{j k:Nat}{x:Str}{ps:ZB}{sp:Sp}{p:Pos}{e:Expr}{es:List Expr}{t:TA}(C:DO X.prog X.w K mg X.base j x ps sp)(c:uE K mg x)(a:bX k X.A)(h:(X.K,X.mg,X.env.kindOf x,Nat.ble (j+1) k,x==("__debug__":Str),(e::es).any aS)=(K,mg,some .globalImplicit,true,false,false))(b:QA X (e::es) t):QE X (.Call (.Name x p) (e::es) [] pos) (xp (cO mg x) sp [] E0 t):=by
 simp only[Prod.mk.injEq]at h;have%[rfl,rfl|h]:=h;exact Hs C c a h.1 h.2.1 h.2.2.1 h.2.2.2 b
def uQ{mg:ZC}{j k:Nat}{x m:Str}{ps:ZB}{sp:Sp}{a:Pos}{o:Expr}{b:TE}{pl:Sem Bool}(C:zD X.prog X.w K mg X.base j x m ps sp)(c:uE K mg x)(e:bX k X.A)(h:(X.K,X.mg,Nat.ble j k)=(K,mg,true))
 (g:eval (.Call (.Attribute o m a) [] [] pos) X.env=(do
  let d<-eval o X.env
  standAt a.atName
  let(f,first)<-holding [d] (getMethod d m pl)
  callWith pos f first (backTo pos (starEach [] X.env)) (backToKw pos (keywordEach [] X.env)))) (i:QE X o b):QE X (.Call (.Attribute o m a) [] [] pos) (xo (cO mg x) m sp [] E0 b vW):=by
 simp only[Prod.mk.injEq]at h;have%[rfl,rfl|h]:=h;exact Gg C c e h g i
def cbO{x:Str}{id:String}{r:List V->Hp->VK->Prop}{p:Pos}{e:Expr}{es:List Expr}{t:TA}(a:cu X (.builtin id) r)(b:X.mg x=none)(c:bootBuiltins x∣.builtin id)(h:(X.env.kindOf x,x==("__name__":Str),x==("__debug__":Str),(e::es).any aS)=(some .globalImplicit,false,false,false))(d:QA X (e::es) t):QE X (.Call (.Name x p) (e::es) [] pos) (tCB r t):=by
 simp only[Prod.mk.injEq]at h;exact cbE a h.1 b c h.2.1 h.2.2.1 h.2.2.2 d
def ctO{x:Str}{T:String}{r:List V->Hp->VK->Prop}{p:Pos}{e:Expr}{es:List Expr}{t:TA}(a:cu X (.type T) r)(b:X.mg x=none)(c:bootBuiltins x∣.type T)(h:(X.env.kindOf x,x==("__name__":Str),x==("__debug__":Str),(e::es).any aS)=(some .globalImplicit,false,false,false))(d:QA X (e::es) t):QE X (.Call (.Name x p) (e::es) [] pos) (tCB r t):=by
 simp only[Prod.mk.injEq]at h;exact ctE a h.1 b c h.2.1 h.2.2.1 h.2.2.2 d
def bmO{o e:Expr}{es:List Expr}{d:TE}{t:TA}{name:Str}{a b:Pos}{T id:String}{r:V->List V->Hp->VK->Prop}(f:PlainAttrs T)(slot:Slot T name id)(c:typeOf (.builtin id)=pure (.type "method_descriptor"))(g:MtQ X id r)
 (h:(X.K,iU o,(e::es).any aS,Nat.blt (e::es).length 30,a.endLine==b.line)=(K,false,false,true,true)) (i:QE X o d) (j:QA X (e::es) t):QE X (.Call (.Attribute o name a) (e::es) [] b) (tBM K T r d t):=by
 simp only[Prod.mk.injEq]at h;have%[rfl|h]:=h;exact bmE rfl f slot c g h.1 h.2.1 h.2.2.1 h.2.2.2 i j
def aK(i:Nat){x:Str}{e:Expr}{b:TE}{a:Pos}(c:X.N.Nodup)(h:(X.N[i]?,X.env.scope.names.lookup x,gC e)=(some x,some .local,false))(d:QE X e b):QS X (.Assign [.Name x a] e pos) (pq b (jc i)):=by
 simp only[Prod.mk.injEq]at h;exact sw i c h.1 (.inl h.2.1) (.inr h.2.1) h.2.2 d
def aF(i:Nat){x:Str}(a:X.N.Nodup)(h:(X.N[i]?,X.env.scope.names.lookup x)=(some x,some .local)):QG X (.Name x pos) (jc i):=by
 simp only[Prod.mk.injEq]at h;exact nh i a h.1 (.inl h.2) (.inr h.2)
#where
variable{x:Addr}{C:Addr}{name:Str}{v:Value}{ox:Obj}
variable{o:Expr}{value:Expr}{nm:Str}{ta:TE}{tv:TE}{pos':Pos}
variable{P:Program}{mg:ZC}{base:Heap}{x:Str}{qual:Str}{st:Stmt}{N:ZB}{ps:ZB}{k:Nat}{sp:Sp}
end
abbrev nT:V->Bool
 | .byt _=>false
 | .flt _=>false
 | _=>true
def gT(r:aJ xs us)(h:j<us.toArray.size):∃x,xs[j]?∣x/\aN x us.toArray[j]:=by
 have l:=h;have a:j< ~~~xs:= ~~~r▸l;have%[u,b|c]:=r.get (i:=j) (x:=xs[j]) ∅
 simp_all
def qL{A:Around}{s:Shared}{x:V}{u v:Value}(e:nT x=true)(a:aN x u)(c:aN x v):EqAt A s u v true:=by
 cases x with
 | int i=>
   have%[t|rfl]:=a;have%[d|rfl]:=c;have:=EqAt.int_int (A:=A) (s:=s) i t i d;rwa[beq_self_eq_true]at this
 | str z=>
   have%[t|rfl]:=a;have%[d|rfl]:=c;have:=EqAt.str_str (A:=A) (s:=s) z t z d;rwa[beq_self_eq_true]at this
 | byt b=>cases e
 | flt b=>cases e
 | _=>cases a;cases c;exact EqAt.same _
abbrev xK(H:Hp)(x y:V):Prop:=(x=y/\nT x=true)\/∃a b xs,x= .ref a/\y= .ref b/\H a<*xs/\H b<*xs/\xs.all nT=true
def BV{xs:List V}(h:xs.all nT=true){j:Nat}{x:V}(e:xs[j]?∣x):nT x=true:=all_eq_true.mp h x (Z8 e)
section
#version
def wO(I:Inv X pins σ H s){A:Around}(h:xK H x y)(n:A.units<cLine)(f:aN x u)(g:aN y v):EqAt A s u v true:=by
 rcases h with⟨rfl,d⟩|⟨a,b,xs,rfl,rfl,o,p,d⟩
 .exact qL d f g
 .cases f;cases g;by_cases e:a=b
  .subst e;exact EqAt.same _
  .have%[us,i,q|_]:=I.list (SqL.of o);have%[vs,l,r|_]:=I.list (SqL.of p);have c:=RcAt.lists (A:=A) (s:=s) (e:=λ_=>true) q.isList r.isList (by rw[Zp,Zp,<-i.length,<-l.length]) n λj w z=>by
    have%[x,ex|B]:=gT i w;have%[y,m|C]:=gT l z;rw[ex]at m;cases m;exact qL (BV d ex) B C
   rw[show(List.range us.toArray.size).all (λ_=>true)=true by simp]at c;exact EqAt.of_refs e c
def dinE(a:bX k X.A)(b:behindInMarks .In o=false)(hi:QE X i ty)(c:QE X o d):QE X (.Compare i [.In] [o] pos) (Df ty d):=⟨E4 (AR (by have:=a.units;lia) hi.h c.h) b⟩
def BW{k:ZB}{x:V}{j:Nat}(h:(k\3)[j]?∣x):∃z,k[j]?∣z/\x= .str z:=by
 rw[Zl]at h;have%[z,e|rfl]:=map_eq_some_iff.mp h;exact%[z,e|ρ]
def uR{k l:ZB}(h:k\3=l\3):k=l:=(List.map_inj_right λ_ _=>V.str.inj).mp h
def BX(I:Inv X pins σ H s){A:Around}{a b:Addr}{k l:ZB}(g:H a&&&k\3)(f:H b&&&l\3)(q:A.units<cLine):EqAt A s (.ref a) (.ref b) (decide (k=l)):=by
 by_cases e:a=b
 .subst e;rw[g]at f;rw[Zf (uR (HO.tup.inj (Za f)))];exact EqAt.same _
 .have%[us,m,r|_]:=I.tuple (SqT.of g);have%[vs,n,v|_]:=I.tuple (SqT.of f);have d:=RcAt.tuples r v q λj o p=>by
   have%[x,ex|w]:=gT m o;have%[y,B|C]:=gT n p;have%[z,E|rfl]:=BW ex;have%[u,G|rfl]:=BW B;have:=AL (A:=A.in1) (s:=s) w C rfl rfl;rw[show eqV _ _=decide (k[j]? =l[j]?) by rw[E,G];show(z==u)=_;by_cases c:z=u<;> simp[c]]at this;exact this
  rw[show((List.range _).all _&&us.toArray.size==vs.toArray.size)=decide (k=l) by
   rw[Zp,Zp,<-m.length,<-n.length,Bool.eq_iff_iff,Zv,all_eq_true,decide_eq_true_iff];refine%[λ⟨o,p⟩=>ext_getElem? λi=>?_|λh=>by lia]
   grind]at d
  exact EqAt.of_refs e d
end
section
variable{X:Cx}
nonrec abbrev xM:R2:=λx y H Q=>∃(a p:Addr) (k:ZB) (ws:ZG),x= .ref a/\y= .ref p/\H a&&&k\3/\H p∣.lst (ws\0)/\(∀t∈ws,H t.1&&&t.2\3)/\k∈ws\2/\Q (.bl false) H
open Classical in
def zO(f:X.A.units+64<cLine):OpR X (compareOp .NotIn) xM:=by
 intro pins s C H x y v u Q I g i h;have%[a,p,k,ws,rfl,rfl,l,m,hw,n|q]:=h;cases g;cases i;have%[us,r,pl|_]:=I.list (SqL.of m);have of:∀y∈us,∃t∈ws,y= .ref t.1:=λy c=>by
  have%[j,d|rfl]:=getElem_of_mem c;have%[x,ex|rr]:=gT r (d);rw[Zl]at ex;have%[t,b|rfl]:=map_eq_some_iff.mp ex;exact%[t,Z8 b|(rr)]
 refine notIn_listAt (λv=>decide (∃t∈ws,v= .ref t.1/\t.2=k)) pl.isList (λy c=>?_) %[.bl false,H,I,?_|q]
 .have%[t,b|rfl]:=of y ↑c;have:=BX I (A:=X.A.in1) (hw t b) l ⋯;rw[show decide _=decide (t.2=k)from ?_]
  .exact this
  .rw[Bool.eq_iff_iff,decide_eq_true_iff,decide_eq_true_iff];refine%[λ⟨t',o,w,z⟩=>?_|λh=>%[t,b,ρ|h]];have e:=hw t' o;rw[<-Value.ref.inj w,hw t b]at e;rw[<-z,uR (HO.tup.inj (Za e))]
 .have%[t,b|e]:=Xn n;have%[j|d]:=Xe b;have%[u,f|B]:=r.get (by rw[Zl,d];rfl);cases B;rw[show us.toArray.any _=true from ?_]
  .rfl
  .rw[List.any_toArray,any_eq_true];exact%[_,Z8 f|Zf %[t,b,ρ|e]]
def BY(a:bX k X.A):OpQ X (compareOp .NotIn) xM:=⟨zO a.units⟩
def qM:∀{a:ZL} {us:ZF},aJ (a\4) us->∃ps:List (Int×Tok),ps\1=a/\us=ps.map λp=>Value.int p.1 p.2
 |[],_,.nil=>%[[],rfl|rfl]
 | n::a,_,.cons r v=>by
   have%[t|rfl]:=r;have%[ps,rfl|rfl]:=qM v;exact%[(n,t)::ps,ρ|ρ]
end
abbrev nU(L:List Addr)(c:Addr->Obj)(H:Hp):Hp:=λb=>if b∈L then(match H b with|some (.dK a)=>some (.frz (c b) (.dK a))|x=>x)else H b
def j4(h:b∈L)(e:H b∣.dK a):nU L c H b∣.frz (c b) (.dK a):=by
 unfold nU;rw[if_pos h,e]
def j6(h:b∉L):nU L a H b=H b:=if_neg h
def ff(h:∀a,H b≠some (.dK a)):nU L d H b=H b:=by
 unfold nU;by_cases c:b∈L
 .rw[if_pos c];cases e:H b with
  | none=>rfl
  | some o=>cases o<;> first|rfl|exact(h _ e).elim
 .rw[if_neg c]
section
variable{P:Program}{w:World}{K:ZA}{mg:ZC}{base:Heap}{k:Nat}{f:Addr}{fd:FuncData}{ps:ZB}{sp:Sp}
def DY(x:HOk P w H h):HOk P w (nU L (λb=>(h.get? b).getD default) H) h:=by
 intro b o e;have st:∀{b:Addr} {o:HO},cF P w H h b o->cF P w (nU L (λb=>(h.get? b).getD default) H) h b o:=λq=>q.stay (λ_ _ _ q=>q) (λc q=>by rw[ff (λa z=>by lia)];exact q) λc xs q=>by rw[ff (λa z=>by rw[q]at z;cases z)];exact q
 by_cases c:b∈L
 .by_cases d:∃a,H b∣.dK a
  .have%[a|d]:=d;rw[j4 c d]at e;cases e;have%[i|g]:=(x b _ d).there;exact%[by rw[g];rfl|st (x b _ d)]
  .rw[ff (λa z=>d %[a|z])]at e;exact st (x b o e)
 .rw[j6 c]at e;exact st (x b o e)
def Gu(u:Un fs [] H c h h'):Un fs [] H (nU L g c) h h':=by
 refine%[u.keep,u.slot,λb o e n d=>?_,u.there,λb xs e=>?_,λb o v e=>?_|λb q e=>?_]
 .have:=u.free b o e n d;rw[ff (λa z=>by lia)];exact this
 .have:=u.tups b xs e;rw[ff (λa z=>by rw[this]at z;cases z)];exact this
 .have:=u.frzs b o v e;rw[ff (λa z=>by rw[this]at z;cases z)];exact this
 .have%[m|this]:=u.tbls b q e;exact%[m|by rw[ff (λa z=>by rw[this]at z;cases z)];exact this]
def fF.freeze(F:fF P w K mg base CX0 k f fd ps sp):fF P w K mg base CX0 k f fd ps (λvs H Q E=>sp vs H (λv b=>∃L,∀c,Q v (nU L c b)) E):=by
 refine%[λvs H Q E=>F.len vs H _ E|λA outer s H args us vs Q E d g h i j=>codeAny_mono (F.run A outer s H args us vs _ E d g h i j) λr s' a=>?_];cases r with
 | error e=>exact a
 | ok l=>
   cases l with
   | ret u=>
     have%[v,z,m,n,o,p,q,L|y]:=a;exact%[v,_,m,n,Gu o,DY p,q|y _]
   | next=>exact a
   | brk=>exact a
   | cont=>exact a
end
abbrev Itk(d:Addr)(o:Obj)(a:List (Key×V)):It:=⟨λi H=>H d∣.frz o (.dK a)/\i< ~~~a,λi H x b=>b=H/\∃k v,a[i]?∣(k,v)/\x=kV k,λi H=>H d∣.frz o (.dK a)/\ ~~~a<=i⟩
abbrev qN(c:TE):TI:=λe H R=>c e H λv b=>∃d o a,v= .ref d/\b d∣.frz o (.dK a)/\R (Itk d o a) b
def DZ(h:jb k v=true):aN (kV k) v:=by
 rcases aW h with⟨i,t,rfl,rfl⟩|⟨x,t,rfl,rfl⟩
 .exact%[t|ρ]
 .exact%[t|ρ]
def Gw{a:List _}{vs:List _}(r:KV a vs){i:Nat}{k:Key}{v:V}(e:a[i]?∣(k,v)):∃u,vs[i]?∣(k,u)/\aN v u:=by
 induction r generalizing i with
 | nil=>cases e
 | @cons p q ps qs b t c=>
   cases i with
   | zero=>
     obtain rfl:p=(k,v):=Za e;exact%[q.2,by rw[show k=q.1 from b.1];rfl|b.2]
   | succ i=>exact c e
def nV(r:KV a vs): ~~~a= ~~~vs:=by
 induction r with
 | nil=>rfl
 | cons _ _ b=>simp_all
section
variable{P:Program}{w:World}{K:ZA}{tg:Expr}
def BZ{X:Cx}(I:Inv X pins m H s)(e:H d∣.frz o (.dK a))(b:o.data= .dict es f):∃vs,KV a vs/\s.heap.DictAt (aQ X.prog X.w) d vs f:=by
 have%[g,n,p,vs,r,q,h,i,g',j,c|l]:=I.hok d _ e;rw[g]at g';cases g';rw[b]at c;cases c;exact%[vs,r,_,es,g,j,b|l]
def B0(d it:Addr)(o:Obj)(kvs:List _):pA P w K tg (Itk d o kvs) [it] it (λi h=>∃es ep,o.data= .dict es ep/\h.IsKeyIter it d i kvs.length ep) where
 mem:=by simp
 obj:=λi h st b hb=>by
  have e:=↑hb
  subst e;have%[_,_,_,o,e,c|d]:=st;exact%[o,e|λv z=>by rw[d]at z;cases z]
 keep:=λi h h' ⟨es,ep,ho,st⟩ k=>%[es,ep,ho|st.at λo e=>k it ∅ o e]
 item:=by
  intro X hP hw hK hc i pins s σ H E I hf st hg;subst hP hw hK;have%[es,ep,ho|st]:=st;have%[hd|hi]:=hg;have%[vs,r|da]:=BZ I hd ho;have ln:=nV r;have%[u,hu|ru]:=Gw r (Z4 hi);have%[f0,f1,f2,f3,f4|f5]:=hf it ∅;rw[ln]at st;refine wpAny_pyNext_dict_item st da hu λkey h' hk st' sb=>?_
  rw[<-ln]at st';have%[o',e,c|dd]:=id st';exact%[key,ρ|pZ e c dd (!1) %[_,H,(I.turned (λb o hb e=>(sb.2 b hb).trans e) f0 f1 f3 f4 f5),DZ hk,%[ρ,_,_,Z4 hi|ρ],%[es,ep,ho|st']|λb hb=>(hf b hb).1]]
 done:=by
  intro X hP hw hK hc i pins s σ H E I hf st hg;subst hP hw hK;have%[es,ep,ho|st]:=st;have%[hd|hi]:=hg;have%[vs,r|da]:=BZ I hd ho;have ln:=nV r;have%[f0,f1,f2,f3,f4|f5]:=hf it ∅;rw[ln]at st;exact wpAny_pyNext_dict_end (I.ok.hd hc) st da (Xj ⋯) λh' eb=>%[rfl|I.turned (λb o hb e=>eb b o hb e) f0 f1 f3 f4 f5]
 self:=λ_ _ _ _ _ ⟨_,_,_,st⟩ h=>wpAny_pyIter_keyiter st h
def D0{X:Cx}(m:PE X l n):PI X tg l (qN n):=by
 intro pins s p H R I h;refine thP (m pins s p H _ I h) λv c x u a y z=>?_
 have%[d,o,f,e,A|q]:=z;subst e;cases y;have%[g,M,B,vs,r,C,es,i,g',E,j|G]:=a.hok d _ A;have J:c.heap.DictAt _ d vs i:=%[C,es,g',E,j|G]
 rw[g]at g';cases g';refine wpAny_pyIter_dict B J %[⇑c,[⇑c],_,_,u,rfl,a.kept λb o e=>Z7 _ e,B0 d _ o f,%[es,i,j,_,Zj _ rfl,rfl|by rw[nV r];rfl],λb L=>?_|q];have e:=↑L
 subst e;exact a.fpOk (Zi _) (a.hok.fresh (Zi _))
def xO{X:Cx}(a:QE X l b):QI X tg l (qN b):=⟨D0 a.h⟩
variable{elts:List Expr}{kt:Nat}{tp:Pos}
end
section
variable{X:Cx}
abbrev Hv:V->List V->Hp->VK->Prop:=λx vs H Q=>asR x λa=>∃b,vs=[.ref b]/\∃c more,a≠b/\H a∣.dK c/\H b∣.dK more/\ ~~~c+ ~~~more<=sizeLine/\Q .non (upd H a (.dK (gu c more)))
def Gx:MtM X "dict.update" Hv:=by
 intro pins s E H x vs v us Q I m n h;have%[a,rfl,b,rfl,o,more,p,g,r,i|q]:=dZ h;cases m;have%[u,rfl|w]:=n.one;cases w;have%[z,y,vs,d|j]:=jJ I.hok g;have%[G,e,A,c|f]:=jJ I.hok r;exact call_meetsIn slot_dict_update j.typeIs PySem.F.entry_dict_update (PySem.F.args_dict_update_2 _ _) (meets_dict_update _ a b p e) %[vs,A,j,f,by rw[<-nV d,<-nV c];exact i|λh' l J B=>%[.non,_,mH I (g▸True.intro) B (let⟨q,_,_,C,_⟩:=l;%[q|C]) (vX (Yf (je _ _) i) y (KV.merge c d) l),rfl|q]]
def uS:MtQ X "dict.update" Hv:=⟨Gx⟩
end
def Cal.freeze{P:Program}{K:ZA}(C:Cal P w K mg base k x ps sp):Cal P w K mg base k x ps (λvs H Q E=>sp vs H (λv a=>∃L,∀b,Q v (nU L b a)) E):=by
 have%[f,c,F|r]:=C.ex;exact%[f,c,F.freeze|r]
def Cal.imp{P:Program}{K:ZA}(C:Cal P w K mg base k x ps sp)(h:∀vs H Q E,a vs H Q E->sp vs H Q E):Cal P w K mg base k x ps a:=by
 have%[f,b,F|r]:=C.ex;exact%[f,b,F.imp h|r]
def nW{a:List (Key×V)}{g:TG}{n:TS}{D:jG}(Pv:Nat->St->Hp->Prop)(s:Pv 0 b H)(u:∀i b H,i<= ~~~a->Pv i b H->H d∣.frz o (.dK a))
 (w:∀i k v b H,a[i]?∣(k,v)->Pv i b H->g (kV k) b H λc l=>n {D with nx:=Pv (i+1),ct:=Pv (i+1),bk:=D.nx} c l) (z:∀b H,Pv a.length b H->D.nx b H):
 ∃W:Nat->Nat->St->Hp->Prop,(∃m,W 0 m b H)/\∀i m b H,W i m b H->
  ((Itk d o a).stop i H/\D.nx b H)\/((Itk d o a).go i H/\∃N:St->Hp->Prop,(∀f h,N f h->∃r,r<m/\W (i+1) r f h)/\∀x h,(Itk d o a).yld i H x h->g x b h λc l=>n {D with nx:=N,ct:=N,bk:=D.nx} c l):=by
 refine%[λi m b H=>m= ~~~a-i/\i<= ~~~a/\Pv i b H,%[~~~a,by simp,Xd _|s]|?_];intro i m b H %[rfl,hi|p];have q:=u i b H hi p;by_cases j:i< ~~~a
 .refine .inr %[%[q|j],Pv _,λf h A=>%[~~~a-(i+1),⋯,rfl,j|A]|λx h y=>?_];have%[e,k,v,y|rfl]:=y;subst e;exact w i k v b _ y p
 .have e:i= ~~~a:=by lia
  subst e;exact .inl %[%[q|Zi _]|z b H p]
section
variable{X:Cx}
variable{prog:Program}{w:World}{A:Around}{R:Result->Shared->Prop}{I S:Addr}{fp wr:List Addr}{n:Nat}{P:Nat->Value->Prop}{St:Nat->Heap->Prop}{val:Nat->Int}{kn:Str}{d:Value}
abbrev Top(val:Nat->Int)(n:Nat)(v:Value):Prop:=∃m t,v= .int m t/\(∃j,j<n/\val j=m)/\∀j,j<n->val j<=m
def Top.step(h:Top val i v)(x:Int)(t:Tok)(e:val i=x):if x>(match v with| .int m _=>m|_=>0)then Top val (i+1) (.int x t)else Top val (i+1) v:=by
 have%[m,t',rfl,%[j,a|c]|b]:=h;show if x>m then _ else _
 split
 .refine%[x,t,ρ,%[i,⋯|e]|λj a=>?_];rcases Nat.lt_succ_iff_lt_or_eq.mp a with h|h
  .have:=b j h
   lia
  .rw[h,e];exact Int.le_refl _
 .refine%[m,t',ρ,%[j,⋯|c]|λj a=>?_];rcases Nat.lt_succ_iff_lt_or_eq.mp a with h|h
  .exact b j h
  .rw[h,e]
   lia
def zP(W:Walks prog w A.in1 I fp wr n P St)(T:∀i v,P i v->∃t,v= .int (val i) t)(G:S∉fp):∀(k i:Nat) (s:Shared) (l:ZJ) (c:Nat),n-i=k->i<=n->St i s.heap->
 s.heap.get? S=some {cls:= .type "list",dict:=none,data:= .seq l c,slots:= #[]}->(i=0/\l= #[]\/∃v,l= #[v,v]/\Top val i v)->
 (∀v h' tk,(n=0/\v=d\/Top val n v)->(∀b o,b∉wr->b≠S->s.heap.get? b∣o->h'.get? b∣o)->R (.ok (.ret v)) {s with heap:=h',toks:=tk})->
 codeAny (model prog w) A (.builtin "max.loop" %[[.ref I,.none,.ref S]|[(kn,d)]]) R s:=by
 have H:S∉wr:=λh=>G (W.sub _ h)
 have a:(toString "max"++toString ".loop":String)="max.loop":=!1
 intro k
 induction k with
 | zero=>
   intro i s l c U hi y J N L;obtain rfl:i=n:=by lia
   refine codeAny_builtin F.entry_max_loop ?_;rw[Around.under_plainId F.plain_max_loop _];refine Z2 (wpAny_seqItems J rfl ?_);refine Z2 (wpAny_tryCatch (W.done s _ _ y λh' tk z=>?_));have f:=z S _ H J;rcases N with⟨rfl,rfl⟩|⟨v,rfl,M⟩
   .exact Z2 (wpAny_rule (Z3 (L d _ tk (.inl %[rfl|rfl]) λb o p _ e=>z b o p e)))
   .refine Z2 (wpAny_updateSeq f rfl (Z2 (wpAny_letGo (Z3 ?_))));exact L v _ tk (.inr M) λb o p g e=>(get?_update_other _ _ (Ne.symm g)).trans (z b o p e)
 | succ k Q=>
   intro i s l c U hi y J N L;have B:i<n:=by lia
   refine codeAny_builtin F.entry_max_loop ?_;rw[Around.under_plainId F.plain_max_loop _];refine Z2 (wpAny_seqItems J rfl ?_);refine Z2 (wpAny_tryCatch (W.item i s _ _ B y λu h' tk Y r z=>?_));have f:=z S _ H J;have%[t|rfl]:=T i u Y;have up:∀(x:ZJ),(∃v,x= #[v,v]/\Top val (i+1) v)->codeAny (model prog w) A (.builtin "max.loop" %[[.ref I,.none,.ref S]|[(kn,d)]]) R {s with heap:=h'.update S (Obj.mapSeq λ_=>x),toks:=tk}:=λx hx=>
    Q (i+1) _ x _ ⋯ B (W.frame _ _ _ r λb p o e=>(get?_update_other _ _ (λh:S=b=>G (by rw[h];exact p))).trans e) (get?_update_self _ f rfl) (.inr hx)
     λv O C q E=>L v O C q λb o p g e=>E b o p g ((get?_update_other _ _ (Ne.symm g)).trans (z b o p e))
   rcases N with⟨rfl,rfl⟩|⟨v,rfl,M⟩
   .refine Z2 (Z3 (Z2 (wpAny_updateSeq f rfl ?_)));rw[a];exact Z3 %[plainId_quiet F.plain_max_loop _|up _ %[_,rfl,_,_,rfl,%[0,⋯|rfl]|λj hj=>by rw[show j=0 by lia];exact Int.le_refl _]]
   .have st:=M.step _ t rfl;have%[m,t',rfl,_|_]:=M;refine Z2 (Z3 ?_);refine Z2 (wpAny_tryCatch (wpAny_holding (Z2 (CmpOf.ints_gt (P:=λj v=>∃t,v= .int (if j=0 then val i else m) t) (λj=>if j=0 then val i else m) (λ_ _ h=>h) 0 1 _ _ _ _ _ %[t|rfl] %[t'|rfl] ?_))));refine Z2 (wpAny_holding (wpAny_truthy_bool ?_));refine Z2 (wpAny_letGo (Z3 ?_))
    split
    .rename_i h
     have c:val i>m:=Zo h;refine Z2 (wpAny_updateSeq f rfl (Z2 (wpAny_letGo ?_)));rw[a];exact Z3 %[plainId_quiet F.plain_max_loop _|up _ %[_,rfl|by rwa[if_pos c]at st]]
    .rename_i h
     have c: ¬ val i>m:=λc=>h (Zf c)
     refine Z2 (wpAny_letGo ?_);rw[a];exact Z3 %[plainId_quiet F.plain_max_loop _|Q (i+1) _ _ _ ⋯ B r f (.inr %[_,rfl|by rwa[if_neg c]at st]) λv O C q E=>L v O C q λb o p g e=>E b o p g (z b o p e)]
end
def zQ(a d:Value):argsOk "max" %[[a]|[("default",d)]]:=by kernel_rfl
def Ea{id:String}(c:argsOk id a)(h:Q () s):↥A (match Manifest.signature? id with|some b=>Bind.checkArgs id b a|none=>pure ()) Q E s:=by
 cases e:Manifest.signature? id with
 | none=>exact Z3 h
 | some b=>
   simp only[argsOk,e]at c;show wpAny _ _ (Bind.checkArgs id b a) _ _ s;rw[c];exact Z3 h
def zR{prog:Program}{w:World}{A:Around}{E:ZD}{s:Shared}{l:Addr}{ps:List (Int×Tok)}{d:Value}{Q:ZD}(g:A.handled=none)(i:s.heap.IsList l (intItems ps.toArray))
 (h:∀v h' tk,(ps.toArray.size=0/\v=d\/Top (numAt ps.toArray) ps.toArray.size v)->(∀b o,s.heap.get? b∣o->h'.get? b∣o)->Q v {s with heap:=h',toks:=tk}):
 ↥A (call (.builtin "max") [.ref l] [("default",d)]) Q E s:=by
 have a:(toString "max"++toString ".loop":String)="max.loop":=!1
 refine wpAny_call (codeAny_call_builtin F.plain_max F.entry_max ?_);simp only[checkBuiltinCall,F.kind_max];refine Ea (zQ _ _) ?_;refine Z2 (wpAny_of_eq (show Builtin.Builtins.bindParams "max" ["key","default"] 0 %[[]|[("default",d)]]=pure [none,some d]from rfl) ?_);refine Z2 (Z3 ?_);refine Z2 (iter_intList i λp e st c f=>?_);subst e;refine Z2 (wpAny_newObj_type ?_);rw[a];refine Z3 %[plainId_quiet F.plain_max_loop _|zP (Walks.list (A:=A.in1) g _ l f (intItems ps.toArray)) (val:=numAt ps.toArray) (λ_ _=>intItems_at) (λj=>Xi _ (c _ j)) _ 0 _ #[] 0 rfl (Xd _) %[st.1.at λo e=>Z7 _ e|st.2.at λo e=>Z7 _ e] (Zj _ rfl) (.inl %[rfl|rfl]) λv h' tk q m=>?_];refine h v h' tk (by simpa [intItems]using q) (old_kept λb o n e=>m b o n (Zs (Zu e)) (Z7 _ e))
section
variable{X:Cx}{e v:Expr}{te tv:TE}{p pos kpos:Pos}
abbrev xP(K:ZA)(te tv:TE):TE:=λc H Q=>te c H λx f=>tv c f λy d=>∃(a:Addr) (b:ZL) (z:Int),x= .ref a/\y= .int z/\SqL K d a (b\4)/\∀m,(b=[]/\m=z\/m∈b/\∀y∈b,y<=m)->Q (.int m) d
def Eb(C:X.calm=true)(E:Gl X "max")(g:X.mg "max"=none)(G:aS e=false)(J:PE X e te)(L:PE X v tv):PE X (.Call (.Name "max" p) [e] [%[some "default",v|kpos]] pos) (xP X.K te tv):=by
 intro pins s l H Q I h;have d:=aB (es:=[]) (env:=X.env) G;refine wpAny_Call_Name_kw (gj I E g boot_max ?_);refine callWith_kw (thP (xk J AC d pos pins s l H (λvs n=>match vs with|[x]=>tv l n λy c=>∃(a:Addr) (b:ZL) (z:Int),x= .ref a/\y= .int z/\SqL X.K c a (b\4)/\∀m,(b=[]/\m=z\/m∈b/\∀y∈b,y<=m)->Q (.int m) c|_=>False) I h) λus M vs n N O r=>?_) (by rw[d];rfl) (by rw[d];rfl) rfl rfl
 match vs,r with
 |[x],r=>
  have%[u,rfl|T]:=cG O;refine thP (C4 L FB pos pins M l n (λzs c=>match zs with|[y]=>∃a b z,x= .ref a/\y= .int z/\SqL X.K c a (b\4)/\∀m,(b=[]/\m=z\/m∈b/\∀y∈b,y<=m)->Q (.int m) c|_=>False) N r) λws s2 zs c w U Y=>?_
  match zs,Y with
  |[y],⟨a,b,z,e1,e2,ha,q⟩=>
   subst e1 e2;have%[u2,rfl,t|rfl]:=cG U;cases T;have%[its,rv,hl|hz]:=w.list ha;have%[ps,rfl|rfl]:=qM rv;refine zR (I.ok.hd C) (by rw[show intItems ps.toArray=(ps.map λp=>Value.int p.1 p.2).toArray by simp[intItems]];exact hl.isList) λv h' tk o A=>?_
   have f:∀i h,numAt ps.toArray i=ps[i].1:=λi h=>by simp[numAt,h]
   have sz:ps.toArray.size= ~~~ps:=rfl;rw[sz]at o;rcases o with⟨o,rfl⟩|⟨m,t',rfl,⟨j,B,ej⟩,g⟩
   .exact%[.int z,c,w.kept A,%[t|ρ]|q z (.inl %[by rw[length_eq_zero_iff.mp o];rfl|ρ])]
   .refine%[.int m,c,w.kept A,%[t'|ρ]|q m (.inr %[Xo %[_,Yc B|by rw[<-f j B,ej]]|λy hy=>?_])];have%[p,hp|rfl]:=Xn hy;have%[i,hi|rfl]:=getElem_of_mem hp;rw[<-f i hi];exact g i hi
variable{K:ZA}
def EN(h:X.K=K)(a:X.calm=true)(b:X.mg "max"=none)(c:Gl X "max")(d:aS e=false)(f:QE X e te)(g:QE X v tv):QE X (.Call (.Name "max" p) [e] [%[some "default",v|kpos]] pos) (xP K te tv):=by
 subst h;exact⟨Eb a c b d f.h g.h⟩
variable{prog:Program}{w:World}{A:Around}{s:Shared}{E:ZD}
end
section
variable{X:Cx}
nonrec abbrev Hw:R2:=λx y H Q=>∃a b xs ys,x= .ref a/\y= .ref b/\H a<*xs/\H b<*ys/\ ~~~xs= ~~~ys/\(∀(j:Nat) (x y:V),xs[j]?∣x->ys[j]?∣y->xK H x y)/\Q (.bl false) H
def Gy(B:X.A.units+64<cLine):OpR X (compareOp .NotEq) Hw:=by
 intro pins s C H x y v u Q I d e h;have%[a,b,xs,ys,rfl,rfl,f,g,i,l|q]:=h;cases d;cases e;have%[us,d,m|_]:=I.list (SqL.of f);have%[vs,e,n|_]:=I.list (SqL.of g);have c:=RcNeAt.lists (A:=X.A) m.isList n.isList (by rw[Zp,Zp,<-d.length,<-e.length,i]) (by omega) λj o p=>by
  have%[x,ex|r]:=gT d o;have%[y,w|z]:=gT e p;exact wO I (l j x y ex w) ⋯ r z
 rw[show(List.range us.toArray.size).all _=true by simp]at c;exact c _ _ _ _ %[.bl _,H,I,rfl|q]
def Hx{k:Nat}(a:bX k X.A):OpQ X (compareOp .NotEq) Hw:=⟨Gy a.units⟩
variable{pins:ZF}{σ:St}{H:Hp}{s:Shared}
end
def Hy{X:Cx}{K:ZA}(h:X.K=K)(g:X.calm=true):cu X (.builtin "any") (λxs H Q=>∃(p:Addr) (bs:List Bool),xs=[.ref p]/\SqL K H p (bs.map V.bl)/\Q (.bl (bs.any id)) H):=by
 subst h;refine⟨λ{pins s C H xs us Q} I r h=>?_⟩;have%[p,bs,rfl,j|q]:=h;have%[u,rfl|l]:=cG r;cases l;have%[its,f,pl|E]:=I.list j;have m:p<⇑s:=by have%[o,n|_]:=pl.isList;exact Zu n
 have a: ~~~bs=its.toArray.size:=by rw[Zp,<-f.length,Z6]
 refine call_any_walk (wpAny_pyIter_list pl.isList ?_);refine%[⇑s,[⇑s,p],[⇑s],its.toArray.size,_,_,λi=>bs.getD i false,ρ,Walks.list (A:=X.A.in1) (I.ok.hd g) _ p (Zs m) its.toArray,%[%[_,Zj _ rfl,ρ|ρ]|pl.isList.push _],?_|?_]
 .intro i v s' w G y c;have%[b,d|rfl]:=si f ↑y;have c:w (bs.getD i false) s':=c;rw[Zc,d]at c;exact wpAny_truthy_bool c
 .intro h' tk z;rw[<-a,show(List.range bs.length).any _=bs.any id by
   have e:(List.range bs.length).map (λi=>bs.getD i false)=bs:=Zy ∅ λi J B=>by simp[B]
   rw[show(List.range bs.length).any _=((List.range bs.length).map λi=>bs.getD i false).any id by rw[List.any_map];rfl,e]]
  exact%[.bl _,H,I.kept λb o e=>z b o (λd=>absurd (Xm d) (Zs (Zu e))) (Z7 _ e),ρ|q]
section
variable{prog:Program}{w:World}{A:Around}{R:Result->Shared->Prop}{I:Addr}{fp wr:List Addr}{G:Array GenState->Array GenState->Prop}{n:Nat}{P:Nat->Value->Prop}{St:Nat->Shared->Prop}
variable{E:ZE}{s:Shared}
variable{X:Cx}{K:ZA}
end
abbrev Hz(K:ZA)(c:TE):TI:=λd H R=>c d H λx b=>asR x λa=>(∃xs,SqL K b a xs)/\R (Itl K a) b
def bY{X:Cx}{K:ZA}{g l:Expr}{f:TE}(h:X.K=K)(i:QE X l f):QI X g l (Hz K f):=by
 subst h;refine⟨λpins s j H R I h=>thP (i.h pins s j H _ I h) λv c x m d n r=>?_⟩;have%[a,rfl,%[xs|u]|q]:=dZ r;cases n;have%[its,y,p|z]:=d.list u;exact wpAny_pyIter_list p.isList ⟨⇑c,[⇑c],_,_,m,rfl,d.kept (t':=c.toks) λb o e=>Z7 _ e,p7 a _,%[_,Zj _ rfl,rfl|rfl],λb w=>by
  obtain rfl:b=⇑c:=↑w
  exact d.fpOk (Zi _) (d.hok.fresh (Zi _)),q⟩
def EO{X:Cx}:OpQ X (binaryOp .Add) Db:=⟨AO⟩
def HA{X:Cx}{K:ZA}{e:Expr}{lo hi:Option Expr}{a:TE}{b c:TO}{d pos:Pos}(h:X.K=K)(f:QE X e a)(g:QO X lo b)(i:QO X hi c):QE X (.Subscript e (.Slice lo hi none d) pos) (tSl (FH K) a b c):=by subst h;exact⟨AI C9 f.h g.h i.h⟩
def dS{X:Cx}:OpQ X (binaryOp .Add) A0:=⟨mT⟩
open PySem
def HB{K:ZA}{z:Str}{H:Hp}:tyV K "str" (.str z) H=True:=eq_true rfl
def tyL{K:ZA}{l:Addr}{H:Hp}{xs:List V}(h:SqL K H l xs):tyV K "list" (.ref l) H:= .inl %[rfl,_|h]
def tyD{K:ZA}{l:Addr}{H:Hp}{a}(h:H l∣.dK a):tyV K "dict" (.ref l) H:= .inr (.inr (.inl %[rfl|.inl %[_|h]]))
abbrev HC(K:ZA)(n:Nat)(t:TGs):TG:=λv b H Q=>asR v λa=>∃xs,SqL K H a xs/\ ~~~xs=n/\t xs b H Q
def HD{X:Cx}{K:ZA}{es:List Expr}{t:TGs}{k}{pos:Pos}(f:X.K=K)(g:X.calm=true)(c:es.any aS=false)(h:QGs X es t):QG X (.Tuple es k pos) (HC K es.length t):=by
 subst f;refine⟨λpins s i H v u Q I r hw=>?_⟩;have%[a,rfl,xs,j,l|hw]:=dZ hw;cases r;have%[its,d,p|q]:=I.list j;rw[assign_Tuple];refine Z2 (wpAny_standAt ?_);unfold unpack;have m: ~~~(assignEach es X.env)=its.toArray.size:=by rw[(eK c).1,<-l];simpa using d.length
 rw[m,(eK c).2];exact Z2 (wpAny_holding (PySem.W.kun_itemsOf (I.ok.hd g) p.isList λh' n=>h.h pins _ i H xs _ Q (I.kept λb o e=>n b o (Zs (Zu e)) e) ↑d hw))
def zS{X:Cx}(A:X.calm=true):cu X (.builtin "sorted") (λxs H Q=>∃(v a:Addr) (c:List (Key×V)) (ks:ZB),xs=[.ref v]/\H v∣jY v a/\H a∣.dK c/\c\2=ks\3/\ ~~~ks<64/\
 ∀l (ss:ZB),H l=none->ss.Perm ks->ss.Pairwise (λa b=>aM b a=false)->Q (.ref l) (upd H l (.lst (ss\3)))):=by
 refine⟨λpins s σ H xs us Q I r h=>?_⟩;have%[v,a,c,ks,rfl,B,C,f,few|q]:=h;have%[u,rfl|E]:=cG r;cases E;have%[z,hd,vs,j|G]:=jJ I.hok C;have p:=(I.hok _ _ B).1;have%[o,es,J,L|M]:=G;have N:s.heap.DictAt _ a vs J:=%[o,es,L|M]
 have vl:= ~~~j;have kl: ~~~c= ~~~ks:=by have:=congrArg List.length f;rwa[Z6,Z6]at this
 have O:StrsAre (vs\2) ks:=gP (f▸xI j);refine fc (ks:=ks) (λE1 R T=>lS kdl_values (I.ok.hd A) %[p|N] (by rw[sizeLine_eq];omega) λh' tk acc k U d=>?_) (by omega) λs1 s' l vs ss n Y y q3 k1 g1 o1 k g o m gl=>?_
 .have e:acc.toList=vs\2:=by
   refine Zy (by rw[Zb,d.1,Z6]) λi h1 h2=>?_
   have%[k|ek]:=d.2 i _ (Array.getElem?_eq_getElem h1);have%[h3|e3]:=Xk ek
   simp_all
  rw[e];exact T _ _ _ O (.refl _) k rfl rfl
 .have w:=I.keptS k1 g1 o1;refine%[.ref l,_,w.stoodS (o:= .lst _) (w.keptS k g o) m %[?_,vs,n,dw Y|gl],ρ|q l ss (w.hok.fresh m) y (q3 few)];rw[Z6,y.length_eq,sizeLine_eq];omega
def bB{v:Type}{K:ZA}{l D:Addr}{us:List v}{f:v->V}{c:St}{H:Hp}{g:TG}{w:TT}{z:TE}{A:Hp->Prop}(Pv:Nat->List V->St->Hp->Prop)(B:Pv 0 [] c H)(r:∀i ys c H,Pv i ys c H->H l<*us.map f)
 (C:∀i ys c H (hi:i< ~~~us),Pv i ys c H->g (f us[i]) c H λa s=>w a s λb d=>if b=true then z a d λy q=>CK D us.length i Pv ys a y q else CN us.length i Pv ys a d) (E:∀ys c H,Pv us.length ys c H->A H):
 ∃W:Nat->Nat->List V->St->Hp->Prop,(∃m,W 0 m [] c H)/\∀i m ys h j,W i m ys h j->((Itl K l).stop i j/\A j)\/
  ((Itl K l).go i j/\∀x u,(Itl K l).yld i j x u->g x h u λa s=>w a s λb d=>if b=true then z a d λy q=>∃zs o,q D<*zs/\ ~~~zs<sizeLine/\o<m/\W (i+1) o (ys++[y]) a (upd q D (.lst (zs++[y])))
    else∃o,o<m/\W (i+1) o ys a d):=
 d5 (n:= ~~~us) Pv B (λi ys c H hi p=>%[_,f us[i],SqL.of (r _ _ _ _ p)|by simp[hi]]) (λys c H p=>%[_,SqL.of (r _ _ _ _ p)|by simp]) (λi ys c H hi p x u ⟨e,G⟩=>by
  subst e;have:=G _ (SqL.of (r _ _ _ _ p));rw[Zl,Z4 hi]at this;obtain rfl:f us[i]=x:=Za this;exact C i ys c _ hi p) E
def bz{j:Type}{K:ZA}{a:Addr}{us:List j}{f:j->V}{b:St}{H:Hp}{g:TG}{l:TS}{D:jG}(Pv:Nat->St->Hp->Prop)(q:Pv 0 b H)(r:∀i b H,Pv i b H->H a<*us.map f)
 (s:∀i u b H,us[i]?∣u->Pv i b H->g (f u) b H λc h=>l {D with nx:=Pv (i+1),ct:=Pv (i+1),bk:=D.nx} c h) (v:∀b H,Pv us.length b H->D.nx b H):
 ∃W:Nat->Nat->St->Hp->Prop,(∃m,W 0 m b H)/\∀i m b H,W i m b H->
  ((Itl K a).stop i H/\D.nx b H)\/((Itl K a).go i H/\∃N:St->Hp->Prop,(∀d e,N d e->∃n,n<m/\W (i+1) n d e)/\∀x e,(Itl K a).yld i H x e->g x b e λc h=>l {D with nx:=N,ct:=N,bk:=D.nx} c h):=
 eG (xs:=us.map f) Pv q (λi b H _ p=>SqL.of (r i b H p)) (λi x b H o p=>by
  rw[Zl]at o;have%[u,w|rfl]:=map_eq_some_iff.mp o;exact s i u b H w p) (by rw[Z6];exact v)
end _L
namespace _C
open PySem _L
inductive cz (S:Str->Str->Prop):Str->Str->Prop
 | refl (x:Str):cz S x x
 | step {x y z:Str}:cz S x y->(S y z\/S z y)->cz S x z
def cz.trans{S:Str->Str->Prop}(h:cz S x y)(g:cz S y z):cz S x z:=by
 induction g with
 | refl=>exact h
 | step _ s a=>exact .step a s
def cz.one{S:Str->Str->Prop}(h:S x y\/S y x):cz S x y:= .step (.refl x) h
def cz.symm{S:Str->Str->Prop}(h:cz S x y):cz S y x:=by
 induction h with
 | refl=>exact .refl _
 | step _ s a=>exact(cz.one s.symm).trans a
def cz.mono{S R:Str->Str->Prop}(m:∀a b,S a b->R a b)(h:cz S x y):cz R x y:=by
 induction h with
 | refl=>exact .refl _
 | step _ s c=>exact .step c (s.imp (m _ _) (m _ _))
def cz.within{S:Str->Str->Prop}{p:Str->Prop}(w:∀a b,S a b->p a/\p b)(h:cz S x y)(c:p x):p y:=by
 induction h with
 | refl=>exact c
 | step _ s _=>
   rcases s with s|s
   .exact(w _ _ s).2
   .exact(w _ _ s).1
abbrev cf(S:Str->Str->Prop)(z r:Str):Prop:=cz S z r/\∀y,cz S z y->aM y r=false
def cf.one{S:Str->Str->Prop}(h:cf S z r)(g:cf S z a):r=a:=by
 by_cases e:r=a
 .exact e
 .have:=dm (g.2 _ h.1) e;rw[h.2 _ g.1]at this;cases this
structure bE (ls:ZB) (f r:Str->Str) (S:Str->Str->Prop):Prop where
 ws:∀a b,S a b->a∈ls/\b∈ls
 fin:∀z∈ls,f z∈ls
 rin:∀z∈ls,r z∈ls
 rf:∀z∈ls,r (f z)=r z
 fr:∀z∈ls,f (r z)=r z
 fix:∀z∈ls,f z=z->r z=z
 dec:∀z∈ls,f z≠z->aM (f z) z=true
 le:∀z∈ls,aM z (r z)=false
 cl:∀x∈ls,∀y∈ls,r x=r y↔cz S x y
def bE.rr{S:Str->Str->Prop}(F:bE a f r S)(h:z∈a):r (r z)=r z:=F.fix _ (F.rin z h) (F.fr z h)
def bE.conn{S:Str->Str->Prop}(F:bE a f r S)(h:z∈a):cz S z (r z):=(F.cl z h _ (F.rin z h)).mp (F.rr h).symm
def bE.least{S:Str->Str->Prop}(F:bE b f r S){z:Str}(h:z∈b):cf S z (r z):=by
 refine%[F.conn h|λy c=>?_];have a:=c.within F.ws h;rw[(F.cl z h y a).mpr c];exact F.le y a
def bE.start(a:ZB):bE a id id (λ_ _=>False):=by
 refine%[λ_ _ h=>h.elim,λz h=>h,λz h=>h,λ_ _=>rfl,λ_ _=>rfl,λ_ _ _=>rfl,λz _ h=>(h rfl).elim,λz _=>cK z|λx b y d=>%[λe=>?_|λc=>?_]]
 .rw[show x=y from e];exact .refl _
 .induction c with
  | refl=>rfl
  | step _ s _=>simp_all
def bE.join{S:Str->Str->Prop}(F:bE j f r S){a b M m:Str}(q:a∈j)(w:b∈j)(B:M=if aM (r a) (r b)=true then r b else r a)(C:m=if aM (r b) (r a)=true then r b else r a):
 bE j (λx=>if x=M then m else f x) (λx=>if r x=M then m else r x) (λx y=>S x y\/(x=a/\y=b)):=by
 have g:(M=r a/\m=r b)\/(M=r b/\m=r a):=by
  rw[B,C];cases e:aM _ _ with
  | true=>
    have:aM (r b) (r a)=false:=by
     cases i:aM _ _ with
     | false=>rfl
     | true=>have:=dG e i;rw[cK]at this;cases this
    exact this▸ .inr %[rfl|rfl]
  | false=>
    cases i:aM _ _ with
    | true=>exact .inl %[rfl|rfl]
    | false=>
      have:r a=r b:=by
       by_cases h:r a=r b
       .exact h
       .have:=dm e h;rw[i]at this;cases this
      exact this▸ .inl %[rfl|rfl]
 have lt:m≠M->aM m M=true:=by
  rw[B,C];cases e:aM _ _ with
  | true=>
    cases i:aM _ _ with
    | true=>intro h;exact(h rfl).elim
    | false=>intro _;exact e
  | false=>
    cases i:aM _ _ with
    | true=>intro _;exact i
    | false=>intro h;exact(h rfl).elim
 have Q:=F.rin a q;have T:=F.rin b w;have E:m∈j:=by rcases g with⟨_,h⟩|⟨_,h⟩<;> rw[h]<;> assumption
 have G:r M=M:=by rcases g with⟨h,_⟩|⟨h,_⟩<;> rw[h]<;> apply F.rr<;> assumption
 have L:r m=m:=by rcases g with⟨_,h⟩|⟨_,h⟩<;> rw[h]<;> apply F.rr<;> assumption
 have N:cz (λx y=>S x y\/(x=a/\y=b)) M m:=by
  have c1:cz (λx y=>S x y\/(x=a/\y=b)) _ _:=(((F.conn q).mono λ_ _=> .inl).symm.trans (.one (.inl (.inr %[rfl|rfl])))).trans ((F.conn w).mono λ_ _=> .inl);rcases g with⟨l,n⟩|⟨l,n⟩
  .rw[l,n];exact c1
  .rw[l,n];exact c1.symm
 have p:∀x∈j,cz _ x (if r x=M then m else r x):=λx A=>by
  have c:=(F.conn A).mono (R:=λx y=>S x y\/(x=a/\y=b)) λ_ _=> .inl
  by_cases e:r x=M
  .rw[if_pos e];rw[e]at c;exact c.trans N
  .rw[if_neg e];exact c
 have H:(if r a=M then m else r a)=(if r b=M then m else r b):=by
  rcases g with⟨l,n⟩|⟨l,n⟩
  .rw[if_pos l.symm];by_cases e:r b=M
   .rw[if_pos e]
   .rw[if_neg e];exact n
  .rw[if_pos l.symm];by_cases e:r a=M
   .rw[if_pos e]
   .rw[if_neg e];exact n.symm
 refine%[λx y h=>?_,λz d=>?_,λz d=>?_,λz d=>?_,λz d=>?_,λz d h=>?_,λz d h=>?_,λz d=>?_|λx A y I=>%[λe=>?_|λc=>?_]]
 .rcases h with h|⟨rfl,rfl⟩
  .exact F.ws x y h
  .exact%[q|w]
 .split
  .exact E
  .exact F.fin z d
 .split
  .exact E
  .exact F.rin z d
 .by_cases e:z=M
  .rw[if_pos e,e,G,if_pos rfl,L]
   split<;> rfl
  .rw[if_neg e,F.rf z d]
 .by_cases e:r z=M
  .rw[if_pos e]
   split
   .rfl
   .exact(by rcases g with⟨_,h⟩|⟨_,h⟩<;> rw[h]<;> apply F.fr<;> assumption)
  .rw[if_neg e,if_neg e];exact F.fr z d
 .by_cases e:z=M
  .rw[if_pos e]at h;rw[e,G,if_pos rfl,<-e];exact h
  .rw[if_neg e]at h;rw[F.fix z d h,if_neg e]
 .by_cases e:z=M
  .rw[if_pos e]at h ⊢;rw[e]at h ⊢;exact lt h
  .rw[if_neg e]at h ⊢;exact F.dec z d h
 .by_cases e:r z=M
  .rw[if_pos e];cases i:aM z m with
   | false=>rfl
   | true=>
     have o:=F.le z d;rw[e]at o;by_cases em:m=M
     .rw[em]at i;rw[o]at i;cases i
     .have:=dG i (lt em);rw[o]at this;cases this
  .rw[if_neg e];exact F.le z d
 .have c:=(p x A)
  rw[e]at c;exact c.trans (p y I).symm
 .have ws:∀x y,(S x y\/(x=a/\y=b))->x∈j/\y∈j:=λx y h=>by
   rcases h with h|⟨rfl,rfl⟩
   .exact F.ws x y h
   .exact%[q|w]
  clear I
  induction c with
  | refl=>rfl
  | step c s O=>
    rename_i u v
    have J:=c.within ws A;rw[O];rcases s with(s|⟨rfl,rfl⟩)|(s|⟨rfl,rfl⟩)
    .rw[(F.cl u J v (F.ws u v s).2).mpr (.one (.inl s))]
    .exact H
    .rw[(F.cl u J v (F.ws v u s).1).mpr (.one (.inr s))]
    .exact H.symm
def bE.short{S:Str->Str->Prop}(F:bE d f r S)(b:z∈d):bE d (λx=>if x=z then f (f z)else f x) r S:=by
 have g:f z≠z->aM (f _) z=true:=λh=>by
  have i:=F.dec z b h;by_cases e:f (f z)=f z
  .exact e▸i
  .exact dG (F.dec _ (F.fin z b) e) i
 refine%[F.ws,λx a=>?_,F.rin,λx a=>?_,λx a=>?_,λx a h=>?_,λx a h=>?_,F.le|F.cl]
 .split
  .exact F.fin _ (F.fin z b)
  .exact F.fin x a
 .by_cases e:x=z
  .rw[if_pos e,F.rf _ (F.fin z b),F.rf z b,e]
  .rw[if_neg e];exact F.rf x a
 .by_cases e:r x=z
  .rw[if_pos e];have:=F.fr x a
   simp_all
  .rw[if_neg e];exact F.fr x a
 .by_cases e:x=z
  .rw[if_pos e]at h;rw[e]at h ⊢;by_cases c:f z=z
   .exact F.fix z b c
   .have:=g c;rw[h,cK]at this;cases this
  .rw[if_neg e]at h;exact F.fix x a h
 .by_cases e:x=z
  .rw[if_pos e]at h ⊢;rw[e]at h ⊢;refine g λc=>h ?_
   rw[c,c]
  .rw[if_neg e]at h ⊢;exact F.dec x a h
def bE.done{S:Str->Str->Prop}(F:bE b f r S)(a:z∈b)(h:∀w∈b,aM w z=true->f w=r w):f (f z)=r z:=by
 by_cases e:f z=z
 .rw[e,e];exact(F.fix z a e).symm
 .rw[h _ (F.fin z a) (F.dec z a e),F.rf z a]
abbrev Ed(ks:List ZB)(a b:Str):Prop:=∃z,[a,b,z]∈ks
inductive Rch (ks:List ZB):Str->Str->Prop
 | one {a b:Str}:Ed ks a b->Rch ks a b
 | more {a b c:Str}:Rch ks a b->Ed ks b c->Rch ks a c
def Rch.trans(h:Rch ks a b)(g:Rch ks b c):Rch ks a c:=by
 induction g with
 | one e=>exact .more h e
 | more _ e d=>exact .more d e
def Rch.closed{R:Str->Prop}(a:∀y,Ed ks s y->R y)(h:∀x y,R x->Ed ks x y->R y)(r:Rch ks s y):R y:=by
 induction r with
 | one e=>exact a _ e
 | more _ e b=>exact h _ _ b e
def qO{ks:List _}{laid:ZB}(h:∀i x,laid[i]?∣x->∀y,Ed ks x y->y∈laid.take i){i:Nat}{x y:Str}(hi:laid[i]?∣x)(r:Rch ks x y):∃j,j<i/\laid[j]?∣y:=by
 have at_:∀i y,y∈laid.take i->∃j,j<i/\laid[j]?∣y:=λi y c=>by
  have%[j|b]:=Xe c;have d:=(Xk b).1;rw[Yk]at d;exact%[j,⋯|by rwa[Yb ⋯]at b]
 refine r.closed (λy e=>at_ i y (h i x hi y e)) λa y ⟨j,l,b⟩ e=>?_
 have%[f,m|g]:=at_ j y (h j a b y e);exact%[f,⋯|g]
def Ec{laid:ZB}(h:∀(i:Nat) x,laid[i]?∣x->∀y,Ed ks x y->y∈laid.take i){x:Str}(a:x∈laid): ¬ Rch ks x x:=by
 intro r;have%[i|hi]:=Xe a;have:∀n i:Nat,i<=n->laid[i]? ≠some x:=λn=>by
  induction n with
  | zero=>
    intro i hi e;have%[j,b|_]:=qO h e r
    lia
  | succ n c=>
    intro i hi e;have%[j,b|d]:=qO h e r;exact c j ⋯ d
 exact this i i (Zi _) hi
abbrev Wal:List ZB->Str->Str->Prop
 |[],a,b=>a=b
 | k::r,a,b=>∃c z,k=[a,c,z]/\Wal r c b
def Wal.app:∀{us vs:List ZB} {a:Str},Wal us a b->Wal vs b c->Wal (us++vs) a c
 |[],_,_,h,g=>h▸g
 | _::_,_,_,⟨d,z,e,h⟩,g=>%[d,z,e|h.app g]
abbrev Dst(ks:List ZB)(s:Str)(n:Nat)(x:Str):Prop:=∃us:List _,~~~us=n/\(∀k∈us,k∈ks)/\Wal us s x
def Dst.nil:Dst ks s 0 s:=%[[],rfl,λ_ h=>(nomatch h)|rfl]
def Dst.app(h:Dst ks s n x)(g:Dst ks x m y):Dst ks s (n+m) y:=by
 have%[us,f,a|b]:=h;have%[vs,i,c|d]:=g;exact%[us++vs,!2,λk e=>(Xl e).elim (a k) (c k)|b.app d]
def Ed.dst(e:Ed ks s x):Dst ks s 1 x:=by
 have%[z|e]:=e;exact%[[[s,x,z]],ρ,λk a=>(Xm a)▸e,x,z,ρ|ρ]
def Dst.last:∀{n:Nat} {s:Str},Dst ks s (n+1) x->∃y,Dst ks s n y/\Ed ks y x
 | n,s,⟨[],a,_,_⟩=>(nomatch a)
 | 0,s,⟨[k],_,b,c,z,e,h⟩=>%[s,.nil,z|by rw[<-h,<-e];exact b k Zm]
 | 0,s,⟨_::_::_,a,_,_⟩=>absurd a ∅
 | n+1,s,⟨k::r,a,b,c,z,e,h⟩=>by
   have%[y,d|f]:=Dst.last %[r,↑a,λk g=>b k (Zk _ g)|h];have:Ed ks s c:=%[z|e▸b k Zm]
   exact%[y,Nat.add_comm 1 n▸this.dst.app d|f]
def Rch.dst(h:Rch ks a b):∃n,Dst ks a (n+1) b:=by
 induction h with
 | one e=>exact%[0|e.dst]
 | more _ e c=>
   have%[n|h]:=c;exact%[n+1|h.app e.dst]
def Dst.rch:∀{n:Nat} {b:Str},Dst ks a (n+1) b->Rch ks a b
 | 0,b,h=>by
   have%[y,%[us,d,_|c]|e]:=h.last;rw[length_eq_zero_iff.mp d]at c;rw[c];exact .one e
 | n+1,b,h=>by
   have%[y,h|e]:=h.last;exact .more h.rch e
structure Lev (ks:List ZB) (st:Str) (rs:List (Str×Addr×ZB)) (d:Str->Nat) (k:Nat) (F:ZB):Prop where
 nd:(rs\1).Nodup
 by_:∀r∈rs,r.2.2∈ks/\∃p z,r.2.2=[p,r.1,z]/\((p=st/\d r.1=1)\/(p≠st/\p∈rs\1/\d r.1=d p+1))
 le:∀x∈rs\1,d x<=k
 edge:∀x,x∈F↔(k=0/\x=st)\/(1<=k/\x∈rs\1/\d x=k)
 all:∀n x,1<=n->n<=k->Dst ks st n x->x∈rs\1/\d x<=n
section
variable{ks:List ZB}{st:Str}{rs:List (Str×Addr×ZB)}{d:Str->Nat}{k:Nat}{F:ZB}
def Lev.nil:Lev ks st [] (λ_=>0) 0 [st]:=
 %[X1,λ_ h=>(nomatch h),λ_ h=>(nomatch h),λx=>by simp|λn x a b=>by lia]
def Lev.dst(h:Lev ks st rs d k F)(a:x∈rs\1):1<=d x/\Dst ks st (d x) x:=by
 have:∀m x,x∈rs\1->d x<=m->1<=d x/\Dst ks st (d x) x:=λm=>by
  induction m with
  | zero=>
    intro x a l;have%[r,b|rfl]:=Xn a;obtain⟨_,p,z,_,⟨_,e⟩|⟨_,_,e⟩⟩:=h.by_ r b<;> lia
  | succ m g=>
    intro x a l;have%[r,b|rfl]:=Xn a;have%[c,p,z,i|q]:=h.by_ r b;rw[i]at c;have f:Ed ks p r.1:=%[z|c]
    rcases q with⟨rfl,e⟩|⟨_,j,e⟩
    .rw[e];exact%[Zi _|f.dst]
    .exact e▸%[⋯|(g p j ⋯).2.app f.dst]
 exact this _ x a (Zi _)
def Lev.min(h:Lev ks st rs d k F)(a:x∈rs\1)(g:Dst ks st (n+1) x):d x<=n+1:=by
 by_cases c:n+1<=k
 .exact(h.all _ x ⋯ c g).2
 .have:=h.le x a
  lia
def Lev.stop(h:Lev ks st rs d k []):∀{n:Nat},Dst ks st (n+1) x->x∈rs\1:=by
 have k1:=Nat.pos_of_ne_zero λc=>(nomatch (h.edge st).mpr (.inl %[c|rfl]))
 have:∀n x,Dst ks st (n+1) x->x∈rs.map _:=λn=>by
  induction n with
  | zero=>exact λx g=>(h.all 1 x (Zi _) k1 g).1
  | succ n a=>
    intro x g;have%[y,b|e]:=g.last;have q:=a y b;have l:=h.le y q;have f:d y≠k:=λc=>(nomatch (h.edge y).mpr (.inr %[k1,q|c]))
    exact(h.all _ x ⋯ ⋯ ((h.dst q).2.app e.dst)).1
 exact λ{n}=>this n x
def Lev.step(h:Lev ks st rs d k F)(nd:((rs++new)\1).Nodup)(G:∀r∈new,r.2.2∈ks/\∃p z,p∈F/\r.2.2=[p,r.1,z])
 (v:∀x∈F,∀y,Ed ks x y->y∈(rs++new)\1):Lev ks st (rs++new) (λx=>if x∈new\1 then k+1 else d x) (k+1) (new\1):=by
 have o:=nd;rw[Zd,Yy]at o;have f:∀{x},x∈rs\1->x∉new\1:=λ{x} a b=>o.2.2 x a x b rfl
 have mem:∀{x},x∈(rs++new)\1↔x∈rs\1\/x∈new\1:=λ{x}=>by rw[Zd,Yr]
 have w:∀x∈(rs++new)\1,(if x∈new\1 then k+1 else d x)<=k+1:=λx l=>by
  by_cases c:x∈new\1
  .rw[if_pos c];exact Zi _
  .rw[if_neg c];have:=h.le x ((mem.mp l).resolve_right c);lia
 refine%[nd,λr H=>?_,w,λx=>?_|λn x n1 N g=>?_]
 .rcases Xl H with q|q
  .have%[u,p,z,e|g]:=h.by_ r q;refine%[u,p,z,e|?_];rw[if_neg (f (Xo %[r,q|rfl]))];refine g.imp_right λ⟨a,b,c⟩=>%[a,mem.mpr (.inl b)|?_]
   rw[if_neg (f b)];exact c
  .have%[u,p,z,I|e]:=G r q;have A:r.1∈new\1:=Xo %[r,q|rfl];refine%[u,p,z,e|?_];rw[if_pos A];rcases(h.edge p).mp I with⟨rfl,rfl⟩|⟨k1,b,c⟩
   .exact .inl %[rfl|rfl]
   .refine .inr %[λps=>?_,mem.mpr (.inl b)|by rw[if_neg (f b),c]];have:Ed ks st r.1:=%[z|by rw[<-ps,<-e];exact u]
    exact f (h.all 1 _ (Zi _) k1 this.dst).1 A
 .refine%[λl=> .inr %[⋯,mem.mpr (.inr l)|if_pos l]|λl=>?_];rcases l with⟨a,_⟩|⟨_,a,b⟩
  .lia
  .refine(mem.mp a).resolve_left λc=>?_
   rw[if_neg (f c)]at b;have:=h.le x c
   lia
 .have i:∀{m},1<=m->m<=k->Dst ks st m x->x∈(rs++new).map _/\(if x∈new.map _ then k+1 else d x)<=m:=λa b g=>by
   have%[s|B]:=h.all _ x a b g;exact%[mem.mpr (.inl s)|by rw[if_neg (f s)];exact B]
  by_cases c:n<=k
  .exact i n1 c g
  .obtain rfl:n=k+1:=by lia
   have j:x∈(rs++new).map _->x∈(rs++new).map _/\(if x∈new.map _ then k+1 else d x)<=k+1:=λa=>%[a|w x a]
   have%[y,C|e]:=g.last;by_cases J:k=0
   .subst J;have%[us,L,_|E]:=C;rw[length_eq_zero_iff.mp L]at E;exact j (v y ((h.edge y).mpr (.inl %[rfl|(E).symm])) x e)
   .have%[s|B]:=h.all k y ⋯ (Zi _) C;by_cases M:d y=k
    .exact j (v y ((h.edge y).mpr (.inr %[⋯,s|M])) x e)
    .exact j (i ⋯ ⋯ ((h.dst s).2.app e.dst)).1
end
structure Sho (ks:List _) (a b:Str) (us:List _):Prop where
 sub:∀k∈us,k∈ks
 wal:Wal us a b
 pos:0< ~~~us
 min:∀n,Dst ks a (n+1) b-> ~~~us<=n+1
def Sho.dst(h:Sho ks a b us):∃n,~~~us=n+1/\Dst ks a (n+1) b:=
 %[~~~us-1,by have:=h.pos;lia,us,by have:=h.pos;lia,h.sub|h.wal]
def Sho.rch(h:Sho ks a b us):Rch ks a b:=by
 have%[n,_|d]:=h.dst;exact d.rch
def B1{U:ZB}(h:∀x∈U,∃y∈U,Ed ks x y)(i:∀x,¬ Rch ks x x){x:Str}(j:x∈U):False:=by
 have:∀n,∃a p,~~~p=n/\(a::p).Nodup/\(∀y∈a::p,y∈U)/\∀y∈p,Rch ks y a:=λn=>by
  induction n with
  | zero=>exact%[x,[],ρ,by simp,↑j|λ_ h=>(nomatch h)]
  | succ n m=>
    have%[a,p,l,nd,d|r]:=m;have%[b,o|e]:=h a (d a Zm);have g:∀y∈a::p,Rch ks y b:=λy f=>by
     rcases mem_cons.mp f with rfl|q
     .exact .one e
     .exact .more (r y q) e
    refine%[b,a::p,!2,nodup_cons.mpr %[λc=>i b (g b c)|nd],λy f=>?_|g];rcases mem_cons.mp f with rfl|q
    .exact o
    .exact d y q
 have%[a,p,l,nd,d|_]:=this U.length;have:=_T.nodup_sub nd d;rw[Zr]at this
 lia
def nZ(lt:q->q->Bool)(c:∀x y,lt x y=false->x≠y->lt y x=true):∀{l m:List q},l.Pairwise (λa b=>lt b a=false)->m.Pairwise (λa b=>lt b a=false)->l.Nodup->m.Nodup->(∀x,x∈l↔x∈m)->l=m
 |[],[],_,_,_,_,_=>rfl
 |[],y::m,_,_,_,_,h=>absurd ((h y).mpr Zm) ∅
 | x::l,[],_,_,_,_,h=>absurd ((h x).mp Zm) ∅
 | x::l,y::m,s,u,nl,nm,h=>by
   have%[f|g]:=List.pairwise_cons.mp s;have%[i|j]:=List.pairwise_cons.mp u;have%[v|n]:=nodup_cons.mp nl;have%[w|o]:=nodup_cons.mp nm;have e:=Classical.byContradiction λd=>by
    have A:=(mem_cons.mp ((h x).mp Zm)).resolve_left d;have r:=f y ((mem_cons.mp ((h y).mpr Zm)).resolve_left (Ne.symm d));rw[c x y (i x A) d]at r;cases r
   subst e;rw[nZ lt c g j n o λz=>?_]
   constructor
   .intro p;rcases mem_cons.mp ((h z).mp (Zk _ p))with e|e
    .simp_all
    .exact e
   .intro p;rcases mem_cons.mp ((h z).mpr (Zk _ p))with e|e
    .simp_all
    .exact e
abbrev Let(rows:ZB)(c:Nat):Prop:=c≠46/\∃r∈rows,c∈r.cps.toList
abbrev zT(rows:ZB)(a b:Nat):Prop:=a≠46/\a≠b/\∃(i j:Nat) (r c:Str),rows[i]?∣r/\rows[i+1]?∣c/\r.cps[j]?∣a/\c.cps[j]?∣b
def fV:c∈cJ rows↔Let rows c:=by
 unfold cJ Let;rw[List.mem_filter,uq,List.mem_flatten,decide_eq_true_eq]
 constructor
 .rintro⟨⟨l,e,b⟩,a⟩;have%[r,d|rfl]:=Xn e;exact%[a,r,d|b]
 .rintro⟨a,r,d,b⟩;exact%[%[_,Xo %[r,d|ρ]|b]|a]
def xQ(h:sgn a=sgn b):a=b:=by
 have:(#[a]:Array Nat)= #[b]:=by injection h
 simpa using this
abbrev xK(rows d:ZB):Prop:=(∀c,Let rows c↔Let d c)/\∀a b,zT rows a b↔zT d a b
abbrev St(a:Bool)(c d:Int):Prop:=c<=d+(if a=true then 1 else 0)/\d<=c+(if a=true then 1 else 2)
abbrev sg(a s:Int):Nat:=if a<0 then 46 else 97+((a*5+s)%26).toNat
abbrev HE(a:List ZL)(b:Int)(k:Nat):Str:=⟨(a.map λc=>sg (c.getD k 0) b).toArray⟩
abbrev drawn(a:List ZL)(hi:Nat)(b:Int):ZB:=(List.range hi).map (HE a b)
abbrev there(b:List ZL):ZL:=((List.range 8).filter λa:Nat=>b.any λc=>decide ((a:Int)∈c)).map λa:Nat=>a
abbrev uT(rows:ZB):Prop:=∃m:List _,~~~m<=26/\∀a b,zT rows a b->[sgn a,sgn b]∈m
end _C
namespace _K
open PySem _L _C
nonrec abbrev ZqS:=Lean.Syntax
nonrec def zqn:Lean.Name->Array ZqS->ZqS:= .node .none
nonrec def zqa:String->ZqS:= .atom .none
nonrec def zqi(s:String):ZqS:=Lean.mkIdent s.toName
nonrec def zqh:ZqS:=zqn `Lean.Parser.Term.hole #[zqa "_"]
nonrec def zqf(k:Nat)(b:ZqS):ZqS:=zqn `Lean.Parser.Term.fun #[zqa "fun",zqn `Lean.Parser.Term.basicFun #[zqn `null (Array.replicate k zqh),zqn `null #[],zqa "=>",b]]
nonrec def zqd(c:Char):ZqS:=Lean.Syntax.mkNumLit (toString (c.toNat-48))
nonrec def zqe(a:Array ZqS)(x:String):ZqS:=if x="r"then zqi "rfl"else if x="n"then a[0]! else if x="h"then a.back! else if x="_"then zqh else if x="f"then zqf 2 (zqi "rfl") else if x="g"then zqf 1 (zqi "rfl") else if ~~~x>1 then zqi x else zqn `Lean.Parser.Term.namedArgument #[zqa "(",zqi x,zqa ":=",zqi x,zqa ")"]
nonrec def zqx(r:Array ZqS):ZqS:=if r[0]!.isAtom then(if r[0]!.getAtomVal=""then zqf 3 r[1]! else r[1]!)else if r.size<2 then r[0]! else zqn `Lean.Parser.Term.app #[r[0]!,zqn `null (r.extract 1 r.size)]
nonrec def zqp(s t:String):Nat:=(s.splitOn t).head!.length
nonrec def zqs(t:String)(a:Array ZqS)(l:List Char)(k:List (List String×Array ZqS)):List Char×List (List String×Array ZqS):=
 let f:=k.head!
 let k:=k.tail
 let x:=f.1.headD ""
 let w:=f.1.tail
 let c:=l.headD ' '
 if f.1.isEmpty then(l,(k.head!.1,k.head!.2.push (zqx f.2))::k.tail)
 else if x="#"then(l.tail,(w,f.2.push (zqd c))::k)
 else if x="L"then(l,(["*"],#[zqa ""])::(w,f.2)::k)
 else if x="*"then
  if c.isDigit then(l.tail,(["r"],#[zqi "af",zqd c])::(w,f.2)::k)
  else if c='?'then(l.drop 2,(w,f.2.push a[l[1]!.toNat-48]!)::k)
  else
   let p:=zqp "~]`" c.toString
   let q:=if p<3 then 1 else 0
   let s:=((t.splitOn "|")[(74+84*p)*q+zqp "ABCDEFGHIJKLMNOPQRSTUVWXYZabcdefghijklmnopqrstuvwxyz!$%&'()*+,./:;<=>^_|}[0123456789" l[q]!.toString]!).splitOn " "
   (l.drop (q+1),(s.tail,#[zqi s.head!])::(w,f.2)::k)
 else(l,(w,f.2.push (zqe a x))::k)
nonrec def zqt(t:String)(a:Array ZqS)(l:List Char):Nat->ZqS
 |n=>(n.fold (λ_ _ s=>if ~~~s.2=1&&s.2.head!.1.isEmpty then s else zqs t a s.1 s.2) (l,[(["*"],#[zqa "1"])])).2.head!.2[1]!
nonrec def zqm(s:Lean.StrLit)(a:Array Lean.Term):Lean.MacroM Lean.Term:=
 return⟨zqt "paE r * *|am|ai * *|aq *|ay|opE * * *|aH * h r *|aK # n r *|aO *|aF # n r|QSs.h *|gsE r * *|bA * r * *|bD # r|bM PassesOwn.never r r * * *|ifS * * *|aX|bY K r *|cx *|bw h f * *|cX K r f * *|cP K r f * *|aF # * r|cZ|bo|cc|b8 r *|aC.of *|ck|cI|d6 K r r r *|cbO * T.a8 PySem.boot_len r *|di K r|dh * r r * L L L|Z1|Z0|fO *|bn|iA K r g *|dQ h r * * *|eBl|eL|bmO K plainAttrs_list PySem.F.slot_list_append PySem.F.type_list_append * r * *|jN * r * *|wT *|kT|cbO * T.a7 boot_sorted r *|hV|eM|iB *|m9 *|dS|sr * *|cbO * T.ae boot_isinstance r *|jO K r|gE|lM r T.ak r *|sw # n r * * r *|t8 *|orW * *|gvE T.am r r|af # r|wb|v9 *|wa * *|ng *|gvE T.al r r|kU|zd|zo f * *|ctO * T.a6 boot_set r *|ctO * T.a5 boot_list r *|bmO K plainAttrs_dict slot_dict_get type_dict_get * r * *|qJ|gvE T.ar r r|pjE * *|cB T|nh # n r * *|ni K r|uL h|nQ PassesOwn.never * *|uQ * T.o_Ground h r r *|j3 h r * *|A8|bJ T|Dy|dN T|Dw K r *|Dz K r|xz K w r r r|t9 K r r T.af r *|xu|DP K r r * *|jQ # n r * * r * r r * L L L|Dx *|cbO * T.a0 boot_min r *|xO *|ctO * T.ai boot_int r *|Bb|bmO K plainAttrs_str slot_str_join type_str_join * r * *|wc K r|v8 * * r * * *|cbO * T.ab boot_all r *|Ba K r r|bmO K plainAttrs_list slot_list_extend type_list_extend * r * *|no|F3 *|Gi h r * *|gX T|Gh K r r *|gW T|kY r|dX T|GC K r plainAttrs_list PySem.F.slot_list_append PySem.F.type_list_append * r r r r * *|bmO K plainAttrs_dict slot_dict_setdefault PySem.F.type_dict_setdefault * r * *|gQ|eY T|dY T|eZ T|lD T|EC r T.ak r r *|kA T|orV * *|gvE T.ao r r|EG r T.ag r r *|bmO K plainAttrs_str PySem.F.slot_str_split PySem.F.type_str_split * r * *|xy|kB T|li T|EM K r r T.ag r r *|HA K r * * *|ED *|noO|qH P w r r r|BE K P w r r r r h|EI *|EH|qI K r|bmO K plainAttrs_dict slot_dict_update PySem.F.type_dict_update * r * *|uS|He r r r * *|HD K r r r *|eX T|BL r|gi T|Hd K r plainAttrs_dict slot_dict_values PySem.F.type_dict_values * r r *|uH|rD T|nP w r r|A9|EN K r r T.a1 r r * *|xx K r|kP T|tf T|FW|nh # * r * *|gvE T.aq r r|zk w r r|gvE T.ap r r|B6 T|oB T|jz T|gvE T.an r r|gvE T.aw r r|gvE T.ax r r|Ht K r T.t_LAYER_WORDS r r|Ht K r T.t_YEAR_WORDS r r|z3 T|z0 T|B7 T|gvE T.au r r|oG T|gvE T.av r r|u8 T|zY T|zE K r|wV T|tw T|vc T|mC T|EO|oH T|kM T|zW T|vf T|z5 T|FV|wY T|Hg r|wZ T|cbO * T.a1 PyProof.Rows.boot_max r *|Gj r|lz T|mD T|DT r|pS T|w8 T|BQ r r T.a9 r T.a5 r *|vv T|Cm T|jD T|Gk K r r|bmO K plainAttrs_list PySem.F.slot_list_remove PySem.F.type_list_remove * r * *|BO|Gr w r|tJ T|oS T|Hf|En T|mE T|pU T|cbO * T.aa boot_any r *|Hy K r r|dinE h r * *|oX T|pV T|Gf|xa T|zC r|zS r|tH T|vE T|vJ T|pX T|pf T|Hu * T.o_Ground h r *|B8 T|oY T|BJ # n r * * r *|BY h|Hx h|Hi K r h|lE T|Cr T" (a.map (·.raw)) s.getString.toList 9999⟩
nonrec abbrev ZM:=List V
nonrec abbrev ZN:=List (Addr×List V)
local macro_rules|`(%[$s:str,$x,*|$y])=>zqm s (x.getElems.push y)|`(%[$s:str|$y])=>zqm s #[y]
local macro_rules|`(tactic|lk)=>do
 let x<-("aZ Ae iu fM jH pq jc xi tB CH tOr E5 Ac E9 tOp tUn tC EV EW tCB tT vW xj Fx Fy vO tBM Da tSl AH rT y6 rI rI0 rU FM FO rEq rNe A1 A0 A2 Db FJ FC FD FE Ds Hb xw xv Hh FX FY wg sd CQ HC Ai Fd EE EF Hz EK xo xp Ft Fu F1 lI Df sf vY vZ AQ BM BN Gm sV Gp BU uK rIn FH r9 xt Ap Aq Dt HB GP GQ GR".splitOn " ").toArray.mapM λs=>`(Lean.Parser.Tactic.simpLemma|↓$(Lean.mkIdent s.toName):ident)
 let y<-("nA CW Ax Fp GS GT GU List.getElem?_cons_zero List.getElem?_cons_succ List.set_cons_zero List.set_cons_succ Option.some.injEq V.int.injEq V.str.injEq V.bl.injEq V.ref.injEq V.ty.injEq List.cons.injEq reduceCtorEq and_true true_and and_false false_and or_false false_or or_true true_or exists_false exists_eq_left' exists_eq_left exists_eq_right exists_eq_right' exists_and_left exists_and_right exists_eq cons_append nil_append Zx exists_const and_assoc Int.zero_add Bool.not_true Bool.not_false Zz if_true if_false eq_self".splitOn " ").toArray.mapM λs=>`(Lean.Parser.Tactic.simpLemma|$(Lean.mkIdent s.toName):ident)
 `(tactic|simp only[$(x++y),*])
local macro_rules|`(!$n:ident)=>`(some (V.ref $n))
local macro_rules|`(-$n:ident)=>`(some (V.str $n))
local macro_rules|`(#[$n:num])=>`((show $n≤sizeLine by decide))|`(#[$x])=>`(paE rfl $x am)|`(#[$x,$y,*])=>`(paE rfl $x #[$y,*])
local macro_rules|`(tactic|walk)=>`(tactic|refine⟨rfl,rfl,rfl,?_,rfl,?_,?_⟩<;>decide +kernel)
def zq0{P:List Value->Prop}(h:P []):∀u,~~~u=0->P u:=λu e=>by rw[List.length_eq_zero_iff.mp e];exact h
def zq1{n:Nat}{P:List Value->Prop}(h:∀a,∀u,~~~u=n->P (a::u)):∀u,~~~u=n+1->P u:=λu e=>by
 cases u with
 |nil=>cases e
 |cons a u=>exact h a u (Nat.succ.inj e)
local macro_rules|`(tactic|room)=>`(tactic|(intro _ _ _ _ _ _;(repeat(refine zq1 λ_=>?_));exact zq0 rfl))
set_option hygiene false in
local macro_rules|`(↑$n:num)=>`(af $n rfl)|`(↑($x,$y))=>`(show br _ _ _ $x $y=true from rfl)|`(↑[$x,*])=>`(show([$x,*]:ZB).Nodup from by decide)
set_option hygiene false in
local macro_rules|`($a>>$b)=>`(cP (K:=K) rfl (λ_ _=>rfl) $a $b)
set_option hygiene false in
local macro_rules|`(↥$n:num)=>`(Cal P w K mg base $n)
abbrev top(i:Nat):Stmt:=PySem.Challenge.pw_digbook_k53_whole_direct_pairs_are_enoug.main.body.getD i (.Pass %[0,0,0|0])
noncomputable section
nonrec abbrev fW:Stmt:=top 1
def bd:av ["ground","names","layer","word","one","other"] ["ground"] (ao fW):=by walk
nonrec abbrev ic:Stmt:=top 2
def dH:av ["names","one","other","first","second"] ["names","one","other"] (ao ic):=by walk
nonrec abbrev eS:Stmt:=top 3
def d0:av ["names","layer"] ["names","layer"] (ao eS):=by walk
nonrec abbrev n5:Stmt:=top 4
def fh:av ["ground","names","groups","layer"] ["ground"] (ao n5):=by walk
nonrec abbrev ig:Stmt:=top 5
def kZ:av ["ground"] ["ground"] (ao ig):=by walk
nonrec abbrev xR:Stmt:=top 6
def uU:av ["ground","names"] ["ground"] (ao xR):=by walk
nonrec abbrev fY:Stmt:=top 15
def j7:av ["found"] ["found"] (ao fY):=by walk
nonrec abbrev eT:Stmt:=top 16
def i8:av ["found"] ["found"] (ao eT):=by walk
nonrec abbrev qP:Stmt:=top 17
def jy:av ["found","side","groups","link"] ["found","side"] (ao qP):=by walk
nonrec abbrev iH:Stmt:=top 18
def aY:av ["names","found","beneath","above","waits","name","ready","laid","least","link"] ["names","found"] (ao iH):=by walk
nonrec abbrev iI:Stmt:=top 19
def df:av ["beneath","start","goal","reached","edge"] ["beneath","start","goal"] (ao iI):=by walk
nonrec abbrev lU:Stmt:=top 20
def d7:av ["beneath","edge","reached","further","name","link"] ["beneath","edge","reached"] (ao lU):=by walk
nonrec abbrev uV:Stmt:=top 21
def qQ:av ["reached","start","goal","way"] ["reached","start","goal"] (ao uV):=by walk
nonrec abbrev jh:Stmt:=top 22
def cR:av ["names","found","beneath","reach","name","link"] ["names","found"] (ao jh):=by walk
nonrec abbrev ii:Stmt:=top 24
def bI:av ["names","found","beneath","shortest","name","way"] ["names","found"] (ao ii):=by walk
nonrec abbrev j8:Stmt:=top 25
def pL:av ["names","found"] ["names","found"] (ao j8):=by walk
nonrec abbrev iJ:Stmt:=top 26
def dU:av ["ground","found","torn_by"] ["ground"] (ao iJ):=by walk
nonrec abbrev iK:Stmt:=top 28
def ik:av ["ground","found"] ["ground"] (ao iK):=by walk
nonrec abbrev iL:Stmt:=top 30
def bS:av ["ground","beneath","reach","pairs","later","steps"] ["ground"] (ao iL):=by walk
nonrec abbrev jj:Stmt:=top 31
def n6:av ["reach","steps","earlier"] ["reach","steps","earlier"] (ao jj):=by walk
nonrec abbrev uW:Stmt:=top 32
def f9:av ["ground","found","beneath","told","name"] ["ground"] (ao uW):=by walk
nonrec abbrev qR:Stmt:=top 39
def wP:av ["thing"] ["thing"] (ao qR):=by walk
nonrec abbrev qS:Stmt:=top 40
def gU:av ["text","rows","number","row"] ["text"] (ao qS):=by walk
nonrec abbrev uX:Stmt:=top 41
def zU:av ["row"] ["row"] (ao uX):=by walk
nonrec abbrev iM:Stmt:=top 42
def mw:av ["row","above"] ["row","above"] (ao iM):=by walk
nonrec abbrev j9:Stmt:=top 43
def pM:av ["rows"] ["rows"] (ao j9):=by walk
nonrec abbrev qT:Stmt:=top 44
def wQ:av ["text"] ["text"] (ao qT):=by walk
nonrec abbrev n8:Stmt:=top 45
def dR:av ["text","rows","pairs","above","row"] ["text"] (ao n8):=by walk
nonrec abbrev eU:Stmt:=top 46
def i9:av ["above","row"] ["above","row"] (ao eU):=by walk
nonrec abbrev kb:Stmt:=top 55
def dM:av ["cuts","names","number","thing"] ["cuts"] (ao kb):=by walk
nonrec abbrev iN:Stmt:=top 56
def mx:av ["thing"] ["thing"] (ao iN):=by walk
nonrec abbrev uY:Stmt:=top 57
def zV:av ["thing"] ["thing"] (ao uY):=by walk
nonrec abbrev im:Stmt:=top 58
def dI:av ["sayings","layers","number","thing"] ["sayings","layers"] (ao im):=by walk
nonrec abbrev lV:Stmt:=top 59
def sZ:av ["thing","layers"] ["thing","layers"] (ao lV):=by walk
nonrec abbrev io:Stmt:=top 60
def lc:av ["thing","texts"] ["thing","texts"] (ao io):=by walk
nonrec abbrev qU:Stmt:=top 61
def wR:av ["thing"] ["thing"] (ao qU):=by walk
nonrec abbrev ke:Stmt:=top 62
def pO:av ["name","letter"] ["name","letter"] (ao ke):=by walk
nonrec abbrev lW:Stmt:=top 63
def d8:av ["cuts","layers","name","text"] ["cuts"] (ao lW):=by walk
nonrec abbrev iO:Stmt:=top 64
def bT:av ["cuts","ties","name","text","upper","lower"] ["cuts"] (ao iO):=by walk
nonrec abbrev fi:Stmt:=top 65
def cq:av ["sayings","ties","number","saying"] ["sayings"] (ao fi):=by walk
nonrec abbrev jk:Stmt:=top 67
def n9:av ["_law_script","_law_k"] ["_law_script","_law_k"] (ao jk):=by walk
nonrec abbrev kf:Stmt:=top 68
def cC:av ["_law_cell","_law_k","_law_number","_law_found","_law_j"] ["_law_cell","_law_k"] (ao kf):=by walk
nonrec abbrev kg:Stmt:=top 69
def bH:av ["_law_script","_law_k","_law_base","_law_many","_law_cell","_law_mixed_one","_law_digits_here","_law_turn"] ["_law_script","_law_k","_law_base","_law_many"] (ao kg):=by walk
nonrec abbrev kh:Stmt:=top 70
def pP:av ["_law_rank","_law_way"] ["_law_rank","_law_way"] (ao kh):=by walk
nonrec abbrev qV:Stmt:=top 71
def bZ:av ["_law_digits_here","_law_way","_law_wide","_law_high","_law_columns","_law_j","_law_air","_law_rank","_law_column","_law_k"] ["_law_digits_here","_law_way"] (ao qV):=by walk
nonrec abbrev lZ:Stmt:=top 72
def d9:av ["_law_name","_law_way","_law_rows","_law_ranks_here","_law_rank","_law_letter_here"] ["_law_name","_law_way","_law_rows"] (ao lZ):=by walk
nonrec abbrev oa:Stmt:=top 73
def cS:av ["_law_script","_law_head","_law_cuts_here","_law_ranks_here","_law_k","_law_name","_law_rows"] ["_law_script"] (ao oa):=by walk
nonrec abbrev qW:Stmt:=top 74
def wS:av ["_law_one","_law_other","_law_ranks_here"] ["_law_one","_law_other","_law_ranks_here"] (ao qW):=by walk
nonrec abbrev og:Stmt:=top 75
def cm:av ["_law_digits_here","_law_ranks_here","_law_torn","_law_wild","_law_names","_law_one","_law_other","_law_saying","_law_alike","_law_year"] ["_law_digits_here","_law_ranks_here","_law_torn","_law_wild"] (ao og):=by walk
nonrec abbrev ki:Stmt:=top 76
def b7:av ["_law_script","_law_cuts_here","_law_ranks_here","_law_sayings","_law_torn","_law_wild","_law_k"] ["_law_script"] (ao ki):=by walk
nonrec abbrev iP:Stmt:=top 77
def bU:av ["_law_name","_law_text","_law_rows","_law_ties_here","_law_upper","_law_lower","_law_k"] ["_law_name","_law_text"] (ao iP):=by walk
nonrec abbrev oh:Stmt:=top 78
def cT:av ["_law_cuts_here","_law_sayings","_law_ties_here","_law_name","_law_text","_law_number","_law_saying"] ["_law_cuts_here","_law_sayings"] (ao oh):=by walk
nonrec abbrev l7:Stmt:=top 79
def bg:av ["_law_cuts_here","_law_sayings","_law_homes_here","_law_name","_law_text","_law_sign","_law_pairs","_law_turn","_law_word","_law_one","_law_other","_law_least"] ["_law_cuts_here","_law_sayings"] (ao l7):=by walk
nonrec abbrev l8:Stmt:=top 80
def dz:av ["_law_cuts_here","_law_sayings","_law_homes_here","_law_laid","_law_one","_law_other","_law_source"] ["_law_cuts_here","_law_sayings","_law_homes_here"] (ao l8):=by walk
nonrec abbrev qX:Stmt:=top 81
def bp:av ["_law_laid","_law_one","_law_steps","_law_later","_law_earlier","_law_source","_law_far_here","_law_row","_law_many","_law_ahead","_law_deposit","_law_other"] ["_law_laid","_law_one"] (ao qX):=by walk
nonrec abbrev jm:Stmt:=top 82
def eV:av ["_law_laid","_law_homes_here","_law_beneath_here","_law_deposit"] ["_law_laid","_law_homes_here"] (ao jm):=by walk
nonrec abbrev iQ:Stmt:=top 83
def mB:av ["_law_beneath_here"] ["_law_beneath_here"] (ao iQ):=by walk
nonrec abbrev km:Stmt:=top 85
def pQ:av ["_law_pairs"] ["_law_pairs"] (ao km):=by walk
nonrec abbrev gc:Stmt:=top 86
def bV:av ["_law_pairs","_law_beneath_here","_law_high","_law_later","_law_earlier","_law_deposit","_law_below"] ["_law_pairs","_law_beneath_here","_law_high"] (ao gc):=by walk
nonrec abbrev ko:Stmt:=top 87
def dW:av ["_law_script","_law_cuts_here","_law_sayings","_law_homes_here","_law_laid","_law_beneath_here","_law_ground_here","_law_pairs","_law_told_links","_law_deposit","_law_later","_law_earlier"] ["_law_script"] (ao ko):=by walk
nonrec abbrev bW:Stmt:=jK (top 54) 0
def eW:av ["self","cuts","sayings","layers"] ["self","cuts","sayings"] (ao bW):=by walk
nonrec abbrev pR:Stmt:=jK (top 54) 1
def B2:av ["self"] ["self"] (ao pR):=by walk
nonrec abbrev cg:Stmt:=jK (top 54) 2
def kq:av ["self"] ["self"] (ao cg):=by walk
nonrec abbrev cA:Stmt:=jK (top 54) 3
def lh:av ["self"] ["self"] (ao cA):=by walk
nonrec abbrev c9:Stmt:=jK (top 54) 4
end
def oi:av ["self"] ["self"] (ao c9):=by walk
inductive oj (K:ZA)
 | mk (a:Addr) (ns:ZL) (k:Int):vs=[.ref a,.int k]->SqL K H a (ns\4)->0<=k->Q (.int (ns.getD k.toNat 0)) H->oj K vs H Q E0
inductive qY
 | mk (c k:Int):vs=[.int c,.int k]->0<=k->k<=100->(∀v,Q (.int v) H)->qY vs H Q E0
inductive qZ (K:ZA)
 | mk (a:Addr) (ns:ZL) (k b m:Int):vs=[.ref a,.int k,.int b,.int m]->SqL K H a (ns\4)->0<=k->k<=100->2<=b->b<=1000->0<=m->m<=100->(∀l H' (xs:ZL),ah H H'->H l=none->H' l<*xs\4-> ~~~xs=m.toNat->(∀x∈xs,0<=x/\x<b)->Q (.ref l) H')->qZ K vs H Q E0
structure Txc (K:ZA) (mg:ZC):Prop where
 o_Ground:uE K mg "Ground"
 n_Ground_kept_cuts:fE K (cO mg "Ground") "kept_cuts"
 n_Ground_kept_sayings:fE K (cO mg "Ground") "kept_sayings"
 n_Ground_kept_layers:fE K (cO mg "Ground") "kept_layers"
 n_Ground_kept_ties:fE K (cO mg "Ground") "kept_ties"
 i_Ground:BH K mg "Ground" "Ground.__init__" bW ["self","cuts","sayings"]
 m_Ground_sayings:uF K mg "Ground" "sayings" "Ground.sayings" cg ["self"]
 m_Ground_layers:uF K mg "Ground" "layers" "Ground.layers" cA ["self"]
 m_Ground_ties:uF K mg "Ground" "ties" "Ground.ties" c9 ["self"]
 t_YEAR_WORDS:GvT K mg "YEAR_WORDS" [.str "since",.str "by"]
 t_LAYER_WORDS:GvT K mg "LAYER_WORDS" [.str "later",.str "same"]
structure Txt (K:ZA) (mg:ZC):Prop extends Txc K mg where
 a0:mg "min"=none
 a1:mg "max"=none
 a5:mg "list"=none
 a6:mg "set"=none
 a7:mg "sorted"=none
 a8:mg "len"=none
 a9:mg "reversed"=none
 aa:mg "any"=none
 ab:mg "all"=none
 ac:mg "str"=none
 ae:mg "isinstance"=none
 af:mg "enumerate"=none
 ag:mg "zip"=none
 ah:mg "tuple"=none
 ai:mg "int"=none
 aj:mg "bool"=none
 ak:mg "range"=none
 al:Gv mg "LATER" (.int 0)
 am:Gv mg "EARLIER" (.int 1)
 an:Gv mg "LONGEST_NAME" (.int 8)
 ao:Gv mg "LETTERS" (.str "abcdefghijklmnopqrstuvwxyz")
 ap:Gv mg "MOST_ROWS" (.int 40)
 aq:Gv mg "MOST_SIGNS" (.int 40)
 ar:Gv mg "AIR" (.str ".")
 au:Gv mg "MOST_CUTS" (.int 8)
 av:Gv mg "MOST_SAYINGS" (.int 60)
 aw:Gv mg "FIRST_YEAR" (.int (-9999))
 ax:Gv mg "LAST_YEAR" (.int 9999)
 ay:aG K mg "names_by_layer" fW ["ground"]
 az:aG K mg "join_deposits" ic ["names","one","other"]
 aA:aG K mg "least_pointed_to" eS ["names","layer"]
 aB:aG K mg "deposits" n5 ["ground"]
 aC:aG K mg "deposit_names" ig ["ground"]
 aD:aG K mg "links" xR ["ground"]
 aE:aG K mg "links_by_later" fY ["found"]
 aF:aG K mg "links_by_earlier" eT ["found"]
 aH:aG K mg "grouped" qP ["found","side"]
 aI:aG K mg "laid_in_turn" iH ["names","found"]
 aJ:aG K mg "shortest_way" iI ["beneath","start","goal"]
 aK:aG K mg "next_edge" lU ["beneath","edge","reached"]
 aL:aG K mg "way_to" uV ["reached","start","goal"]
 aM:aG K mg "all_beneath" jh ["names","found"]
 aN:aG K mg "shortest_ring" ii ["names","found"]
 aO:aG K mg "never_laid" j8 ["names","found"]
 aP:aG K mg "untorn_links" iJ ["ground"]
 aQ:aG K mg "earlier_ones" iK ["ground"]
 aR:aG K mg "direct_pairs" iL ["ground"]
 aS:aG K mg "is_replaced" jj ["reach","steps","earlier"]
 aT:aG K mg "levels" uW ["ground"]
 aU:aG K mg "is_name" qR ["thing"]
 aV:aG K mg "rows_of" qS ["text"]
 aW:aG K mg "is_row" uX ["row"]
 aX:aG K mg "lies_beneath" iM ["row","above"]
 aY:aG K mg "letters_in" j9 ["rows"]
 aZ:aG K mg "letters" qT ["text"]
 b0:aG K mg "meetings" n8 ["text"]
 b1:aG K mg "meetings_between" eU ["above","row"]
 b2:aG K mg "check_cuts" kb ["cuts"]
 b3:aG K mg "is_named_cut" iN ["thing"]
 b4:aG K mg "is_cut" uY ["thing"]
 b5:aG K mg "check_sayings" im ["sayings","layers"]
 b6:aG K mg "is_saying" lV ["thing","layers"]
 b7:aG K mg "is_text_among" io ["thing","texts"]
 b8:aG K mg "is_year" qU ["thing"]
 b9:aG K mg "layer_name" ke ["name","letter"]
 ba:aG K mg "layers_of" lW ["cuts"]
 bb:aG K mg "ties_of_cuts" iO ["cuts"]
 bc:aG K mg "ties_of_sayings" fi ["sayings"]
 bd:aG K mg "_law_cell_at" jk ["_law_script","_law_k"]
 be:aG K mg "_law_spread" kf ["_law_cell","_law_k"]
 bf:aG K mg "_law_digits" kg ["_law_script","_law_k","_law_base","_law_many"]
 bg:aG K mg "_law_letter" kh ["_law_rank","_law_way"]
 bh:aG K mg "_law_cut" qV ["_law_digits_here","_law_way"]
 bi:aG K mg "_law_ranks" lZ ["_law_name","_law_way","_law_rows"]
 bj:aG K mg "_law_cuts" oa ["_law_script"]
 bm:aG K mg "_law_tie" qW ["_law_one","_law_other","_law_ranks_here"]
 bn:aG K mg "_law_said" og ["_law_digits_here","_law_ranks_here","_law_torn","_law_wild"]
 bo:aG K mg "_law_ground" ki ["_law_script"]
 bp:aG K mg "_law_cut_ties" iP ["_law_name","_law_text"]
 bq:aG K mg "_law_ties" oh ["_law_cuts_here","_law_sayings"]
 br:aG K mg "_law_homes" l7 ["_law_cuts_here","_law_sayings"]
 bt:aG K mg "_law_links" l8 ["_law_cuts_here","_law_sayings","_law_homes_here"]
 bu:aG K mg "_law_far" qX ["_law_laid","_law_one"]
 bv:aG K mg "_law_beneath" jm ["_law_laid","_law_homes_here"]
 bw:aG K mg "_law_has_ring" iQ ["_law_beneath_here"]
 bx:aG K mg "_law_paired" km ["_law_pairs"]
 bz:aG K mg "_law_levels_fit" gc ["_law_pairs","_law_beneath_here","_law_high"]
section
variable{P:Program}{w:World}{K:ZA}{mg:ZC}{base:Heap}
def ci{n:Nat}(h:n<=5000):n<=sizeLine:=Yf h (!1)
def aA{n:Nat}(h:n<=5000):n<sizeLine:=Nat.lt_of_le_of_lt h (!1)
def ah.upd{H:Hp}{p:Addr}{o:HO}(h:H p=none):ah H (upd H p o):=λb u e=>by rw[ak (au e h)];exact e
def ah.set{H a:Hp}{p:Addr}{o:HO}(c:ah H a)(h:H p=none):ah H (_L.upd a p o):=λb u e=>by rw[ak (au e h)];exact c b u e
def HF{b:Type}(xs:List b){i:Int}(d:0<=i)(e:i<(~~~xs:Int)):∃c,atI xs i∣c/\c∈xs:=by
 have%[j|rfl]:=Xg d;have a:j< ~~~xs:=by lia
 exact%[xs[j],cH (by simp[a])|Yc a]
def om(xs:ZL){i:Int}(b:0<=i)(d:i<(~~~xs:Int)):∃c,atI (xs\4) i∣V.int c/\c∈xs:=by
 have%[j|rfl]:=Xg b;have a:j< ~~~xs:=by lia
 exact%[xs[j],cH (by simp[a])|Yc a]
def EQ:(gH.cps.toList.length:Int)=26:=!0
def dN(T:Txt K mg):↥1 "_law_cell_at" ["_law_script","_law_k"] (oj K):=by
 .exists T.bd,n9,g,m,%[a,c,k,rfl,d,i|q];refine%[_,%["KCPM~L1fgA0BDIU01QDIE"|0]|?_]
  show aZ _ _ _ [!a,some (.int k)] H;lk;refine%[_,.inl %[_,d|ρ]|bC (λb=>?_) λb=>?_]
  .have b:=Zo b;rw[Z6]at b;refine%[_,d,.int (c.getD k.toNat 0),?_|q];have%[j|rfl]:=Xg i;have l:j< ~~~c:=by lia
   exact cH (by simp[l])
  .have b: ¬ k<(~~~(c\4):Int):=↑b
   rw[Z6]at b;have e:c.getD k.toNat 0=0:=by
    rw[Zc,Xj ⋯];rfl
   rw[e]at q;exact q
def tf(T:Txt K mg):↥1 "_law_spread" ["_law_cell","_law_k"] qY:=by
 .exists T.be,cC,j,B,%[c,k,rfl,C,G|q];refine%[_,%["KCH2FYFYFZ0EFwE1ECH3ECO'AEBJ4CH2FZFYFYFYFYFw22FwFYFwFw444E2FwE14EEDH3FYFw3EFZF=2EEDI3"|cC.nd]|?_]
  show aZ _ _ _ [some (.int c),some (.int k),none,none,none] H;refine aj λI k1 _=>?_
  lk;refine%[!1,.inl %[!1|!1]|k1 _ _ (aj λJ k2 _=>?_)];have d:0<=c%2147483647+977*k+5/\c%2147483647+977*k+5<2^40:=by lia -verbose
  generalize c%2147483647+977*k+5=n at d
  lk;refine k2 _ _ (aj λL l _=>aw λe p=>?_);lk;refine%[!1,!1|p _ _ (cW (λi a b=>∃(n v:Int) (o:Option V),a=[some (.int c),some (.int k),some (.int n),some (.int v),o]/\b=H/\0<=n/\n<2^40) %[_,_,_,ρ,ρ|d] ?_ ?_)]
  .intro i a b hi %[n,v,o,rfl,rfl,r|n1];show aZ _ _ _ [some (.int c),some (.int k),some (.int n),some (.int v),some (.int (0+i))] _;rw[Int.zero_add];refine aj λM u _=>?_
   lk;refine%[.inl %[(by lia -verbose)|(by lia -verbose)],.inl %[(by lia -verbose)|(by lia -verbose)],.inr %[(by lia -verbose)|(by lia -verbose)],.inr %[(by lia -verbose)|(by lia -verbose)],.inl %[!1|!1],!1|u _ _ (az λN y _=>?_)];have g:=Int.emod_nonneg (n*n+(i*i*i+7)*n+104729*k+i+1) (by decide:(2147483629:Int)≠0);have z:=Int.emod_lt_of_pos (n*n+(i*i*i+7)*n+104729*k+i+1) (by decide:(0:Int)<2147483629)
   generalize (n*n+((i:Int)*i*i+7)*n+104729*k+i+1)%2147483629=m at g z
   lk;exact%[.inr %[!1|!1],%[!1|!1],!1|y _ _ %[m,_,_,ρ,ρ,g|(by lia -verbose)]]
  .intro a b %[n,v,o,rfl,rfl,r|n1];refine l _ _ ?_;lk;exact q v
def gW(T:Txt K mg):↥2 "_law_digits" ["_law_script","_law_k","_law_base","_law_many"] (qZ K):=by
 .exists T.bf,bH,U,u,%[a,n,k,b,m,rfl,I,J,k1,b2,b1,m0,m1|q];refine%[_,%["KCH4G~MA0A1BCH5G~5A4A1BCPMdFZG~MA0AEBEEDH4EQCH6SBCO'A3BJ7DPM>4ECaql6AFZ42BDH4F=42Caql6AFZ52BDH5F=52DI6",bH.nd|u]|?_]
  show aZ _ _ _ [!a,some (.int k),some (.int b),some (.int m),none,none,none,none] H;refine aj λD1 k1 _=>?_
  lk;refine%[a,n,k,ρ,I,J|k1 _ _ (aj λD2 k2 _=>?_)]
  generalize n.getD k.toNat 0=c
  lk;refine%[_,_,ρ,J,⋯|λv=>k2 _ _ (aj λY k3 _=>?_)];lk;refine%[a,n,0,ρ,I,!1,_,ρ,!1|?_]
  suffices L:∀M:Int,Y.nx [!a,some (.int k),some (.int b),some (.int m),some (.int M),some (.int v),none,none] H from bC (λ_=>L 0) λ_=>L c
  intro M;refine k3 _ _ (aj λD4 k4 _=>?_);lk;refine%[Xd _|λl z=>k4 _ _ (aj λD5 k5 _=>aw λN hK=>?_)];lk;refine%[⋯,⋯|hK _ _ (cW (λi B j=>∃(c v:Int) (o:Option V) (xs:ZL),B=[!a,some (.int k),some (.int b),some (.int m),some (.int c),some (.int v),!l,o]/\ah H j/\j l<*xs\4/\ ~~~xs=i/\∀x∈xs,0<=x/\x<b) %[_,_,_,[],ρ,ah.upd z,aa,ρ|λ_ h=>nomatch h] ?_ ?_)]
  .intro i B j hi %[c,v,o,xs,rfl,C,e,r|g];have put:∀v:Int,ah H (upd j l (.lst (xs\4++[.int (v%b)])))/\∃d:ZL,upd j l (.lst (xs\4++[.int (v%b)])) l<*d\4/\ ~~~d=i+1/\∀x∈d,0<=x/\x<b:=λv=>
    ⟨ah.set C z,xs++[v%b],by rw[aa,Zd];rfl,by rw[Z9,r];rfl,λy hy=>by
     rcases Xl hy with q|q
     .exact g y q
     .rw[Xm q];exact%[Int.emod_nonneg _ ⋯|Int.emod_lt_of_pos _ ⋯]⟩
   have len: ~~~(xs\4)<sizeLine:=by rw[Z6,r];exact aA ⋯
   show iu _ _ _ _ [!a,some (.int k),some (.int b),some (.int m),some (.int c),some (.int v),!l,some (.int (0+i))] j;refine az λD6 O _=>?_
   lk;refine bC (λ_=>?_) λ_=>?_
   .have%[G,d|p]:=put c;exact%[tyL (SqL.of e),⋯,_,e,len,%[⋯|⋯]|O _ _ %[_,_,_,d,ρ,G|p]]
   .have%[G,d|p]:=put v;exact%[tyL (SqL.of e),⋯,_,e,len,%[⋯|⋯]|O _ _ %[_,_,_,d,ρ,G|p]]
  .intro B j %[c,v,o,xs,rfl,C,e,r|g];refine k5 _ _ ?_;lk;exact q l j xs C z e r g
abbrev mlt(w:Int):Int:=if w%4=0 then 1 else if w%4=1 then 25 else if w%4=2 then 7 else 5
abbrev ltr(r w:Int):Nat:=97+((r*mlt w+w)%26).toNat
def Ee(r w:Int):eN (ltr r w)=true:=by
 have all:∀i:Fin 26,eN (97+i.1)=true:=!0
 exact all %[((r*mlt w+w)%26).toNat|by omega]
def ti(r w:Int):ltr r w≠46:=by unfold ltr;omega
abbrev Ef(w:Int)(hi:Nat)(c:List Nat):Prop:= ~~~c=hi/\∃a:Nat,∀(k x:Nat),c[k]?∣x->(k<a->x=46)/\(a<=k->∃r:Int,0<=r/\r<16/\x=ltr r w)
abbrev oq(a:List (List Nat))(k:Nat):Str:=⟨(a.map λc=>c.getD k 46).toArray⟩
abbrev bq(a:List (List Nat))(hi:Nat):ZB:=(List.range hi).map (oq a)
def eE{a:List (List Nat)}{hi k:Nat}{z:Str}(h:(bq a hi)[k]?∣z):k<hi/\z=oq a k:=by
 unfold bq at h;rw[Zl]at h;by_cases b:k<hi
 .rw[List.getElem?_range b]at h;exact%[b|(Za h).symm]
 simp_all
def kr{a:List (List Nat)}{k j c:Nat}(h:(oq a k).cps[j]?∣c):∃b,a[j]?∣b/\c=b.getD k 46:=by
 have h:(a.map λc=>c.getD k 46)[j]?∣c:=by simpa [oq]using h
 rw[Zl]at h;cases e:a[j]? with
 | none=>simp_all
 | some b=>rw[e]at h;exact%[b,ρ|(Za h).symm]
def kz{a:List Nat}{hi k:Nat}(b: ~~~a=hi)(c:k<hi):a[k]?∣a.getD k 46:=!2
structure fj (w:Int) (cols:List (List Nat)) (hi:Nat):Prop where
 h1:1<=hi
 h5:hi<=5
 w1:1<= ~~~cols
 w4: ~~~cols<=4
 ok:∀c∈cols,Ef w hi c
 fst:∃col,cols[0]?∣col/\∃r:Int,0<=r/\r<16/\col[hi-1]?∣ltr r w
section
variable{w:Int}{cols:List (List Nat)}{hi:Nat}
def fj.let_(d:fj w cols hi){k j c:Nat}(e:k<hi)(h:(oq cols k).cps[j]?∣c):c=46\/∃r:Int,0<=r/\r<16/\c=ltr r w:=by
 have%[a,f|rfl]:=kr h;have%[g,b|i]:=d.ok a (Z8 f);have:=i k _ (kz g e);by_cases c:k<b
 .exact .inl (this.1 c)
 .exact .inr (this.2 (by omega))
def fj.cut(d:fj w cols hi):cy (bq cols hi):=by
 have len: ~~~(bq cols hi)=hi:=by unfold bq;rw[Z6,Yi]
 have b:∀z∈bq cols hi,∃k,k<hi/\z=oq cols k:=λz f=>by
  have%[k|e]:=Xe f;exact%[k|eE e]
 have C:=d.h1;have E:=d.h5;have G:=d.w4;refine%[by omega,by omega,%[~~~cols,d.w1,by omega|λz f=>?_],λz f=>?_,λi r H s u j c I v y m=>?_|?_]
 .have%[k,_|rfl]:=b z f;simp[oq]
 .have%[k,h|rfl]:=b z f;rw[all_eq_true];intro c n;have%[j|A]:=Xe n;rcases d.let_ h (j:=j) ↑A with rfl|⟨r,_,_,rfl⟩
  .decide +kernel
  .unfold okc;rw[Ee,Bool.or_true]
 .have%[hi1|rfl]:=eE s;have%[hi2|rfl]:=eE u;have%[a,l|rfl]:=kr v;have%[p,g|rfl]:=kr y;rw[l]at g;cases g;have%[q,o|h]:=d.ok a (Z8 l);by_cases B:i+1<o
  .exact(h i _ (kz q hi1)).1 (by omega)
  .have%[r,_,_|e]:=(h _ _ (kz q hi2)).2 (by omega);exact absurd (e.symm.trans m) (ti r w)
 .have%[a,l,r,_,_|e]:=d.fst;refine%[oq cols (hi-1),Xo %[hi-1,by rw[mem_range];omega|ρ],ltr r w,Xo %[a,Z8 l|?_]|ti r w];rw[Zc,e];rfl
def fj.few(d:fj w cols hi):uT (bq cols hi):=by
 refine%[(List.range 4).flatMap λi=>(List.range 4).map λj=>[sgn ((cols.getD j []).getD i 46),sgn ((cols.getD j []).getD (i+1) 46)],by simp[List.length_flatMap,range_succ]|?_];intro a b %[_,_,i,j,r,p,g,h,m|n];have%[hi1|rfl]:=eE g;have%[hi2|rfl]:=eE h;have%[o,e|rfl]:=kr m;have%[f,c|rfl]:=kr n;rw[e]at c;cases c;have q:=d.h5;have s:=d.w4;have:=(Xk e).1;refine mem_flatMap.mpr %[i,mem_range.mpr (by omega)|Xo %[j,mem_range.mpr (by omega)|?_]];rw[Zc (l:=cols),e];rfl
def fj.lets(d:fj w cols hi){c:Nat}(h:Let (bq cols hi) c):∃r:Int,0<=r/\r<16/\c=ltr r w:=by
 have%[a,r,f|b]:=h;have%[k|e]:=Xe f;have%[g|rfl]:=eE e;have%[j|i]:=Xe b;exact(d.let_ g (j:=j) ↑i).resolve_left a
def fj.ex(d:fj w cols hi):∃r:Int,0<=r/\r<16/\Let (bq cols hi) (ltr r w):=by
 have%[r,b,c,e|f]:=d.cut.some';have l:Let (bq cols hi) c:=%[f,r,b|e]
 have%[a,g,h|rfl]:=d.lets l;exact%[a,g,h|l]
end
inductive q0
 | mk (r w:Int):vs=[.int r,.int w]->0<=r->r<=100->0<=w->w<=100->(∀H',ah H H'->Q (.str (sgn (ltr r w))) H')->q0 vs H Q E0
def B3(a:0<=i)(c:i<26):atI gH.cps.toList i∣(97+i.toNat):=by
 have%[j|rfl]:=Xg a;have b:j<26:=by omega
 have all:∀j:Fin 26,gH.cps.toList[j.1]?∣(97+j.1):=!0
 exact cH (all %[j|b])
def kA(T:Txt K mg):↥1 "_law_letter" ["_law_rank","_law_way"] q0:=by
 .exists T.bg,pP,b,g,%[r,w,rfl,i,j,l,m|c];refine%[_,%["KDI^XFZFYFw0USAEAEAEAEBFZ1E1E"|0]|?_];show fM _ _ [some (.int r),some (.int w)] H;lk;refine%[#[4]|λp d=>%[!1,_,SqL.of aa,.int (mlt w),?_,_,ρ,.inr ?_,!1,#[26],_,B3 (by omega) (by omega)|c _ (ah.upd d)]]
  all_goals
   unfold mlt;rcases(show w%4=0\/w%4=1\/w%4=2\/w%4=3 by omega)with e|e|e|e<;> rw[e]<;> first|rfl|decide
inductive B4 (K:ZA)
 | mk (a:Addr) (xs:ZL) (w:Int):vs=[.ref a,.int w]->SqL K H a (xs\4)-> ~~~xs=30->(∀x∈xs,0<=x/\x<6)->0<=w->w<=100->(∀l H' (cols:List (List Nat)) (hi:Nat),ah H H'->H l=none->H' l<*(bq cols hi)\3->fj w cols hi->Q (.ref l) H')->B4 K vs H Q E0
abbrev HG(H:Hp)(cs:List (Addr×List Nat)):Prop:=∀p∈cs,H p.1∣.lst (p.2.map λx=>V.str (sgn x))
def Ef.put{w:Int}{a i:Nat}{c:List Nat}(h:∀(k x:Nat),c[k]?∣x->(k<a->x=46)/\(a<=k->∃r:Int,0<=r/\r<16/\x=ltr r w))(g: ~~~c=i)(j:a<=i){r:Int}(b:0<=r)(d:r<16)(k x:Nat)(e:(c++[ltr r w])[k]?∣x):(k<a->x=46)/\(a<=k->∃r:Int,0<=r/\r<16/\x=ltr r w):=by
 by_cases f:k< ~~~c
 .rw[Y9 f]at e;exact h k x e
 .have:k= ~~~c:=by
   have:=(Xk e).1;simp at this
   lia
  subst this;rw[Ya ⋯,sub_self]at e;cases e;exact%[λz=>by lia|λ_=>%[r,b,d|ρ]]
def xS:∀n:Nat,(List.replicate n [V.str (!".")]).flatten=(List.replicate n 46).map λx=>V.str (sgn x)
 | 0=>rfl
 | n+1=>by rw[replicate_succ,List.flatten_cons,xS n,replicate_succ,Yp];rfl
def zW(T:Txt K mg):↥2 "_law_cut" ["_law_digits_here","_law_way"] (B4 K):=by
 .exists T.bh,bZ,bf,hr,%[a,xs,w,rfl,hs,hx,hb,w0,w1|kk];have get:∀i:Int,0<=i->i<30->∃c,atI (xs\4) i∣V.int c/\0<=c/\c<6:=λi h0 h1=>by
   have%[c,e|hm]:=om xs h0 (by lia -verbose);exact%[c,e|hb c hm]
  have%[c0,g0,l0|u0]:=get 0 (!1) (!1);have%[c1,g1,l1|u1]:=get 1 (!1) (!1);refine%[_,%["KCH2FYEFZU0EECH3FYEFZU0EEC(4ijSBCO'A2BJ5CH6FZU0FYE5FY3~X~YAr>5EBCH7FZU0FYE5ECH8F~6SAXB6CO~uA6A3BJ9Caql8AG~vA7A1BBDH7FY7FZU0FYFYEFwE59EDaqlN4A8BDIhb?1'A3B~70?2ijt~Z~aXAhb?3RN1W0?4tU0N1B",bZ.nd,↑(["_law_k","_law_columns"],[(1,4)]),↑["_law_k","_law_columns"],↑(["_law_column","_law_k"],[(1,0)]),↑["_law_column","_law_k"]|hr]|?_]
  show aZ _ _ _ [!a,some (.int w),none,none,none,none,none,none,none,none] H;refine aj λD1 k1 _=>?_
  lk;refine%[_,hs,_,g0,c0,ρ,!1|k1 _ _ (aj λD2 k2 _=>?_)];lk;refine%[_,hs,_,g1,c1,ρ,!1|k2 _ _ (aj λD3 k3 _=>?_)];obtain⟨N,ew,bl,bm⟩:∃N:Nat,1+c0%4=N/\1<=N/\N<=4:=%[(1+c0%4).toNat,(by lia -verbose),(by lia -verbose)|(by lia -verbose)]
  obtain⟨hi,eh,hi1,bc⟩:∃hi:Nat,1+c1%5=hi/\1<=hi/\hi<=5:=%[(1+c1%5).toNat,(by lia -verbose),(by lia -verbose)|(by lia -verbose)]
  rw[ew,eh];lk;refine%[Xd _|λL hL=>k3 _ _ (aj λD4 k4 _=>aw λv hK=>?_)];lk;refine%[(by lia -verbose),(by lia -verbose)|hK _ _ (cW (λi g l=>∃(o5 o6 o7 o8 o9:Option V) (cs:List (Addr×List Nat)),g=[!a,some (.int w),some (.int N),some (.int hi),!L,o5,o6,o7,o8,o9]/\ah H l/\l L∣.lst (cs\0)/\ ~~~cs=i/\HG l cs/\(∀p∈cs,p.1≠L/\Ef w hi p.2)/\
   ∀p:Addr×List Nat,cs[0]?∣p->∃r:Int,0<=r/\r<16/\p.2[hi-1]?∣ltr r w)
   %[_,_,_,_,_,[],ρ,ah.upd hL,aa,ρ,(λ_ h=>nomatch h),(λ_ h=>nomatch h)|λ_ h=>nomatch h] ?_ ?_)]
  .intro j g l m %[o5,o6,o7,o8,o9,cs,rfl,sm,y,ac,ae,B|ag];show aZ _ _ _ [!a,some (.int w),some (.int N),some (.int hi),!L,some (.int (0+j)),o6,o7,o8,o9] l;rw[Int.zero_add];have%[c2,g2,l2|u2]:=get (2+j) (by lia -verbose) (by lia -verbose);have%[c6,g6,l6|u6]:=get (6+j) (by lia -verbose) (by lia -verbose);refine aj λD5 k5 _=>?_
   lk;obtain⟨m,ej,bt,b0⟩:∃m:Nat,(hi+if decide (0<(j:Int))=true then 1 else 0:Int)=m/\(j=0->m=hi)/\hi<=m:=by
    by_cases c:0<(j:Int)
    .exact%[hi+1,by rw[if_pos (Zf c)];rfl,λe=>by lia -verbose|(by lia -verbose)]
    .exact%[hi,by rw[if_neg ↑c];simp,λ_=>rfl|Zi _]
   have b1:m<=hi+1:=by split at ej<;> lia -verbose
   rw[ej];refine%[_,sm.seq hs,_,g2,c2,ρ,(by lia -verbose)|k5 _ _ (aj λD6 k6 _=>?_)];obtain⟨d,ea,al⟩:∃d:Nat,c2%(m:Int)=d/\d<m:=%[(c2%(m:Int)).toNat,by have:=Int.emod_nonneg c2 (b:=m) (by lia -verbose);lia -verbose|by have:=Int.emod_lt_of_pos c2 (b:=m) (by lia -verbose);have:=Int.emod_nonneg c2 (b:=m) (by lia -verbose);lia -verbose]
   rw[ea];lk;refine%[_,sm.seq hs,_,g6,c6,ρ,!1|k6 _ _ (aj λD7 k7 _=>?_)];lk;refine%[#[1]|λp hp=>%[_,aa,(by lia -verbose),(by lia -verbose),by rw[Yj];exact Yd (aA (by lia -verbose))|λC hC=>k7 _ _ (aj λD8 k8 _=>aw λv hK=>?_)]];have s1:=(ah.upd (o:= .lst [V.str (!".")]) hp).trans (ah.upd (o:= .lst (List.replicate (d:Int).toNat [V.str (!".")]).flatten) hC);have fC:=(ah.upd (o:= .lst [V.str (!".")]) hp).free hC;have a2:upd (upd l p (.lst [V.str (!".")])) C (.lst (List.replicate (d:Int).toNat [V.str (!".")]).flatten) C∣.lst ((List.replicate d 46).map λx=>V.str (sgn x)):=by
    rw[aa,Int.toNat_natCast,xS]
   generalize upd (upd l p (.lst [V.str (!".")])) C (.lst (List.replicate (d:Int).toNat [V.str (!".")]).flatten)=H1 at s1 a2
   have a3:C≠L:=λe=>by rw[e,y]at fC;cases fC
   lk;refine%[(by lia -verbose),(by lia -verbose),(by lia -verbose),(by lia -verbose)|hK _ _ (cW (λi g I=>∃(r:Int) (o9:Option V) (c:List Nat),g=[!a,some (.int w),some (.int N),some (.int hi),!L,some (.int j),some (.int d),some (.int r),!C,o9]/\ah l I/\I C∣.lst (c.map λx=>V.str (sgn x))/\ ~~~c=d+i/\0<=r/\r<=3+2*i/\(∀(k x:Nat),c[k]?∣x->(k<d->x=46)/\(d<=k->∃r:Int,0<=r/\r<16/\x=ltr r w)))
    %[_,_,_,ρ,s1,a2,by simp,(by lia -verbose),(by lia -verbose)|λk x e=>?_] ?_ ?_)]
   .have:=List.getElem?_replicate (a:=46) (n:=d) (i:=k);rw[e]at this
    split at this
    .cases this;exact%[λ_=>rfl|λz=>by lia -verbose]
    .cases this
   .intro i g I hi2 %[r,o9,c,rfl,u,O,cl,r0,r1|U];show aZ _ _ _ [!a,some (.int w),some (.int N),some (.int hi),!L,some (.int j),some (.int d),some (.int r),!C,some (.int (d+i))] I;refine aj λD9 k9 _=>?_
    lk;have%[cd,gd,ld|ud]:=get (10+5*j+(d+i)) (by lia -verbose) (by lia -verbose);refine%[tyL (SqL.of O),r,w,ρ,r0,(by lia -verbose),w0,w1|λH3 s3=>%[_,s3 _ _ O,by rw[Z6,cl];exact aA (by lia -verbose)|k9 _ _ (az λb2 be _=>?_)]];have Y:ah l (upd H3 C (.lst ((c.map λx=>V.str (sgn x)) ++[V.str (sgn (ltr r w))]))):=ah.set (u.trans s3) fC;lk;exact%[.inl %[!1|!1],_,(sm.trans Y).seq hs,_,gd,cd,ρ,!1|be _ _ %[_,_,c++[ltr r w],ρ,Y,by rw[aa,Zd];rfl,by rw[Z9,cl];rfl,(by lia -verbose),(by lia -verbose)|Ef.put U cl (by lia -verbose) r0 (by lia -verbose)]]
   .intro g I %[r,o9,c,rfl,u,O,cl,r0,r1|U];refine k8 _ _ (az λD9 k9 _=>?_);lk;have b3: ~~~c=max d hi:=by lia -verbose
    refine%[tyL (SqL.of (u _ _ y)),_,u _ _ y,by rw[Z6,ac];exact aA (by lia -verbose)|k9 _ _ %[_,_,_,_,_,cs++[(C,c)],ρ,ah.set (sm.trans u) hL,by rw[aa,Zd];rfl,by rw[Z9,ac];rfl,λq M=>?_,λq M=>?_|λq M=>?_]]
    .rcases Xl M with z|z
     .rw[ak (B q z).1];exact u _ _ (ae q z)
     .rw[Xm z,ak a3];exact O
    .rcases Xl M with z|z
     .exact B q z
     .rw[Xm z];exact%[a3,by show ~~~c=hi;lia -verbose,d|U]
    .by_cases j0:j=0
     .obtain rfl:cs=[]:=length_eq_zero_iff.mp (by lia -verbose);cases M;have:=U (hi-1) (c[hi-1]'(by lia -verbose)) (Z4 (by lia -verbose));have%[r,a,b|e]:=this.2 (by lia -verbose);exact%[r,a,b|by rw[Z4 (by lia -verbose:hi-1< ~~~c),e]]
     .rw[Y9 (by lia -verbose)]at M;exact ag q M
  .intro g l %[o5,o6,o7,o8,o9,cs,rfl,sm,y,ac,ae,B|ag];refine k4 _ _ ?_;lk;refine aE λv hK=>?_
   lk;have a4: ~~~cs=N:=by lia -verbose
   refine%[(by lia -verbose),(by lia -verbose)|hK _ _ λF hF=>?_];refine d5 (J:=Itr 0 hi) (n:=hi) (D:=F) (λq ts g I=>(∃o,g=[o,!L])/\ah l I/\I F<*ts/\ts=((List.range q).map (oq (cs\2)))\3)
    %[%[none|rfl],ah.upd hF,aa|rfl] (λq _ _ l M _=>M) (λ_ _ l _=>Zi _) ?_ ?_
   .intro q ts g I M %[%[o|rfl],u,an|ht] x H3 %[e2|e3];subst e2 e3;lk;refine aE λv hK=>?_
    lk;have ab:=u _ _ y;refine%[%[_|SqL.of ab]|hK _ _ λG hG=>?_];refine d5 (J:=Itl K L) (n:=N) (D:=G) (λr zs g H4=>(∃o,g=[o,some (.int q)])/\ah H3 H4/\H4 G<*zs/\zs=(((cs.take r).map λp=>p.2.getD q 46).map sgn)\3)
     %[%[none|rfl],ah.upd hG,aa|rfl]
     (λr _ _ H4 a5 as=>%[_,V.ref (cs[r]'(by lia -verbose)).1,SqL.of (as.2.1 _ _ ab)|by simp[show r< ~~~cs by lia -verbose]]) (λ_ _ H4 as=>%[_,SqL.of (as.2.1 _ _ ab)|by simp[a4]]) ?_ ?_
    .intro r zs g H4 a5 %[%[o|rfl],Y,a0|hz] x H5 %[e2|hx];subst e2;have a1:r< ~~~cs:=by lia -verbose
     have a6:=hx _ (SqL.of (Y _ _ ab));rw[Zl,Z4 a1]at a6;obtain rfl:x=V.ref cs[r].1:=(Za a6).symm;have hm:=Yc a1;lk;refine%[_,SqL.of (Y _ _ (u _ _ (ae _ hm))),V.str (sgn (cs[r].2.getD q 46)),?_|CK.mk a5 a0 (by rw[hz,Z6,Z6,Z6,Yk];exact aA (by lia -verbose)) %[%[_|ρ],ah.set Y hG,aa|?_]]
     .refine cH ?_;rw[Zl,kz (B _ hm).2.1 (by lia -verbose)];rfl
     .rw[hz,X8,Zd,Zd,Zd,Z4 a1];rfl
    intro zs g H4 %[_,Y,a0|hz];rw[Zn (by lia -verbose)]at hz;lk;refine%[(cs.map λp=>p.2.getD q 46).map sgn,by rw[<-hz];exact SqL.of a0,?_|CK.mk M (Y _ _ an) (by rw[ht,Z6,Z6,Yi];exact aA (by lia -verbose)) %[%[_|ρ],ah.set (u.trans Y) hF,aa|?_]]
    .rw[xB,Z6,Z6,show(!"").length=0 from rfl]
     lia -verbose
    .rw[ht,range_succ,Zd,Zd,show Txt.join (!"") ((cs.map λp=>p.2.getD q 46).map sgn)=Str.join (!"") ((cs.map λp=>p.2.getD q 46).map sgn)from StrLaws.glued_eq_join _ _,ww];have e:oq (cs\2) q=⟨(cs.map λp=>p.2.getD q 46).toArray⟩:=by
      unfold oq;rw[Yq];rfl
     rw[<-e];rfl
   .intro ts g I %[_,u,an|ht];have bb:0< ~~~cs:=by lia -verbose
    refine kk F I (cs\2) hi (sm.trans u) (sm.free hF) (by rw[an,ht];rfl) %[hi1,bc,by rw[Z6];lia -verbose,by rw[Z6];lia -verbose,λc hc=>?_,cs[0].2,by rw[Zl,Z4 bb];rfl|ag _ (Z4 bb)];have%[p,hp|rfl]:=Xn hc;exact(B p hp).2
inductive rc
 | mk (z:Str):vs=[.str z]-> ~~~z<=1000->(∀H',ah H H'->Q (.bl (sI z)) H')->rc vs H Q E0
inductive ot
 | mk (row above:Str):vs=[.str row,.str above]-> ~~~row<=1000-> ~~~above<=1000->(∀H',ah H H'->Q (.bl (eO row above)) H')->ot vs H Q E0
inductive jn (K:ZA)
 | mk (a rows):vs=[.ref a]->SqL K H a (rows\3)->(rows.map (·.length)).sum<=3000->(∀r∈rows,r.cps.toList.all okc=true)->(∀l H' ss,ah H H'->H l=none->H' l<*ss\3->ss.Perm (aI ((cJ rows).map sgn))->PyProof.Rows.sortedS ss=true->Q (.ref l) H')->jn K vs H Q E0
inductive ou
 | mk (rows:ZB):vs=[.str (Str.join nl rows)]->cy rows->(∀l H',ah H H'->H l=none->H' l<*rows\3->Q (.ref l) H')->ou vs H Q E0
def iY(z:Str)(i:Nat)(c:Nat)(h:z.cps[i]?∣c):(z.cps.toList.take i++[c])=z.cps.toList.take (i+1):=by
 have h':z.cps.toList[i]?∣c:=↑h
 have%[a|e]:=Xk h';rw[List.take_succ_eq_append_getElem a,e]
def B5(c d:Nat):((⟨([c].toArray)⟩:Str)=⟨([d].toArray)⟩)↔c=d:=by
 simp
def oz(c:Nat):((⟨([c].toArray)⟩)=!".")↔c=46:=B5 c 46
def B6(T:Txt K mg):↥1 "is_row" ["row"] rc:=by
 .exists T.aW,zU,y,N,%[z,rfl,O|k];refine%[_,%["KDI!~b..EfgA0B~8)~c~dAhb?1~N0W0?2t~wrd0~A)r~O0~xB",0,↑(["sign"],[])|↑["sign"]]|?_];show fM _ _ [-z] H;lk;refine%[ci ⋯|bC (λl=>bC (λm=>?_) λm=>?_) λl=>?_]
  .refine aE λu B=>?_
   lk;refine B _ _ λD v=>?_
   refine d5 (J:=Its z) (n:=z.cps.size) (D:=D) (λi ys d a=>(∃o,d=[o])/\ah H a/\a D<*ys/\ys=(z.cps.toList.take i).map (λc=>V.bl (okc c))) %[%[none|rfl],ah.upd v,aa|rfl]
    (λi _ _ _ hi _=>hi) (λ_ _ _ _=>Zi _) ?_ ?_
   .intro i ys d a hi %[%[o|rfl],p,q|g] x C %[G,c,I|rfl];subst G;have j: ~~~ys=i:=by
     rw[g,Z6,Yk];have: ~~~z.cps.toList=z.cps.size:=by simp
     lia
    have L:i<1000:=by
     have: ~~~z=z.cps.size:=rfl
     lia
    have put:∀b:Bool,b=okc c->CK D z.cps.size i (λi ys d a=>(∃o,d=[o])/\ah H a/\a D<*ys/\ys=(z.cps.toList.take i).map (λc=>V.bl (okc c))) ys [some (.str ⟨([c].toArray)⟩)] (.bl b) C:=λb M=>
     CK.mk hi q (j▸aA ⋯) %[%[_|rfl],ah.set p v,aa|by rw[M,g,<-iY z i c I,Zd];rfl]
    lk;refine bC (λr=>put true ?_) λr=>put _ ?_
    .have:=(oz c).mp (Zo r);unfold okc;rw[Zf this,Bool.true_or]
    .have: ¬ c=46:=λe=>(λe=>r (Zf e)) ((oz c).mpr e)
     unfold okc;rw[Zh this,Bool.false_or,sj];rfl
   .intro ys d a %[_,p,q|g];lk;refine%[z.cps.toList.map okc,?_|?_]
    .have e:z.cps.toList.take z.cps.size=z.cps.toList:=by
      apply Zn;simp
     rw[e]at g;have:(z.cps.toList.map okc).map V.bl=ys:=by rw[g,Yq];rfl
     rw[this];exact SqL.of q
    .have e:sI z=(z.cps.toList.map okc).all id:=by
      unfold sI;rw[l,m,all_map]
      all_goals rfl
     exact e▸k a p
  .rw[Bool.not_eq_true]at m;have e:sI z=false:=by unfold sI;rw[m,Bool.and_false,Bool.false_and]
   rw[e]at k;exact k H (ah.refl H)
  .rw[Bool.not_eq_true]at l;have e:sI z=false:=by unfold sI;rw[l,Bool.false_and,Bool.false_and]
   rw[e]at k;exact k H (ah.refl H)
abbrev l9(p:Nat×Nat):Bool:=!decide (p.2=46)||decide (p.1=46)
def oA(x y:Str)(i c d:Nat)(b:x.cps[i]?∣c)(f:y.cps[i]?∣d):((List.zip x.cps.toList y.cps.toList).take i++[(c,d)])=(List.zip x.cps.toList y.cps.toList).take (i+1):=by
 have h:(List.zip x.cps.toList y.cps.toList)[i]?∣(c,d):=List.getElem?_zip_eq_some.mpr %[↑b|↑f];have%[a|e]:=Xk h;rw[List.take_succ_eq_append_getElem a,e]
def oB(T:Txt K mg):↥1 "lies_beneath" ["row","above"] ot:=by
 .exists T.aX,mw,I,hr,%[row,a,rfl,L,M|k];refine%[_,%["KCPMvfgA0BfgA1BDIoQDI~c~dAhb?1~yA1A0BeLW0?2LW1?2ct~wrv1~A)rd0~AB",0,↑(["high","low"],[])|↑["high","low"]]|?_]
  show aZ _ _ _ [-row,-a] H;refine aj λD1 k1 N=>?_
  lk;refine%[ci ⋯,ci ⋯|bC (λj=>?_) λj=>?_]
  .have j: ¬ ((~~~row:Int)= ~~~a):=↑j
   have e:eO row a=false:=by
    unfold eO;rw[Zh ⋯,Bool.false_and]
   rw[e]at k;exact N _ _ (k H (ah.refl H))
  .have j: ~~~row= ~~~a:=by
    have:(~~~row:Int)= ~~~a:=↑j
    lia
   refine k1 _ _ ?_;have u:row.cps.size=a.cps.size:=j;have v: ~~~(List.zip a.cps.toList row.cps.toList)=a.cps.size:=by rw[length_zip];simp[u]
   lk;refine aE λB O=>?_
   lk;refine O _ _ λD C=>?_
   refine d5 (J:=Itz a row) (n:=a.cps.size) (D:=D) (λi ys l g=>(∃q r,l=[q,r])/\ah H g/\g D<*ys/\ys=((List.zip a.cps.toList row.cps.toList).take i).map (λp=>V.bl (l9 p))) %[%[none,none|rfl],ah.upd C,aa|rfl]
    (λi _ _ _ hi _=>%[hi|⋯]) (λ_ _ _ _=>%[Zi _,⋯|.inl rfl]) ?_ ?_
   .intro i ys l g hi %[%[q,r|rfl],y,z|m] x H2 %[c,d,TT,U,Y,G,rfl|rfl];have o: ~~~ys=i:=by rw[m,Z6,Yk,v];lia
    have ab:i<1000:=by
     have: ~~~a=a.cps.size:=rfl
     lia
    have put:∀b:Bool,b=l9 (c,d)->CK D a.cps.size i (λi ys l g=>(∃q r,l=[q,r])/\ah H g/\g D<*ys/\ys=((List.zip a.cps.toList row.cps.toList).take i).map (λp=>V.bl (l9 p))) ys [some (.str ⟨([c].toArray)⟩),some (.str ⟨([d].toArray)⟩)] (.bl b) (upd g TT (.tup [.str ⟨([c].toArray)⟩,.str ⟨([d].toArray)⟩])):=λb eb=>
     CK.mk hi (ah.upd G _ _ z) (o▸aA ⋯) %[%[_,_|rfl],ah.set (y.trans (ah.upd G)) C,aa|by rw[eb,m,<-oA a row i c d U Y,Zd];rfl]
    lk;refine%[_,SqT.of aa,ρ,_,_,ρ,_,_,ρ,ρ,ρ|?_];simp only[V.str.injEq,oz];refine bC (λh=>put true ?_) λh=>%[⟨⟩|put _ ?_]
    .unfold l9;rw[h,Bool.true_or]
    .unfold l9;rw[Bool.not_eq_true]at h;rw[h,Bool.false_or]
   .intro ys l g %[_,y,z|m];lk;refine%[(List.zip a.cps.toList row.cps.toList).map l9,?_|?_]
    .have e:(List.zip a.cps.toList row.cps.toList).take a.cps.size=List.zip a.cps.toList row.cps.toList:=Zn ⋯;rw[e]at m;have:((List.zip a.cps.toList row.cps.toList).map l9).map V.bl=ys:=by rw[m,Yq];rfl
     rw[this];exact SqL.of z
    .have e:eO row a=((List.zip a.cps.toList row.cps.toList).map l9).all id:=by
      unfold eO;rw[Zf j,all_map,Bool.true_and];rfl
     exact e▸k g y
def zX(h:(rows.map (·.length)).sum<=3000):(Str.join (!"") rows).length<=3000:=by
 have:=StrLaws.join_length_le (!"") rows;rw[show(!"").length=0 from rfl]at this
 lia
def kB(T:Txt K mg):↥1 "letters_in" ["rows"] (jn K):=by
 .exists T.aY,pM,N,hr,%[a,rows,rfl,O,g,v|k];refine%[_,%["KDIu~9A_~PAhb?1~N~Z~aXA0BW0?2xMv0~A0BB",0,↑(["sign"],[])|↑["sign"]]|?_];show fM _ _ [!a] H;lk;refine aE λG U=>?_
  lk;refine%[rows,O,by rw[show(!"").length=0 from rfl];lia|?_];rw[show Txt.join (!"") rows=Str.join (!"") rows from StrLaws.glued_eq_join _ _];have j:=zX g;have b:=iV v;unfold cJ at b k
  generalize Str.join (!"") rows=z at j b k ⊢
  refine U _ _ λD I=>?_
  refine d5 (J:=Its z) (n:=z.cps.size) (D:=D) (λi ys y m=>(∃o,y=[o])/\ah H m/\m D<*ys/\ys=((z.cps.toList.take i).filter (λc=>decide (c≠46))).map (λc=>V.str (sgn c))) %[%[none|rfl],ah.upd I,aa|rfl]
   (λi _ _ _ hi _=>hi) (λ_ _ _ _=>Zi _) ?_ ?_
  .intro i ys y m hi %[%[o|rfl],r,u|d] x H2 %[Y,c,L|rfl];subst Y;have M: ~~~ys<=i:=by
    rw[d,Z6];have:=Yh (λc=>decide (c≠46)) (z.cps.toList.take i);rw[Yk]at this
    lia
   have ab:i<3000:=by
    have: ~~~z=z.cps.size:=rfl
    lia
   lk;simp only[oz];refine bC (λB=>?_) λB=>?_
   .refine CK.mk hi u (aA ⋯) %[%[_|rfl],ah.set r I,aa|?_];rw[<-iY z i c L,Y2,Zd,d];have:decide (c≠46)=true:=↑B
    rw[Y3,this];rfl
   .refine CN.mk hi %[%[_|rfl],r,u|?_];rw[<-iY z i c L,Y2,Zd,d];have:decide (c≠46)=false:=↑B
    rw[Y3,this];simp
  .intro ys y m %[_,r,u|d];have e:z.cps.toList.take z.cps.size=z.cps.toList:=by
    apply Zn;simp
   rw[e]at d;lk;have ac:=Yh (λc=>decide (c≠46)) z.cps.toList;have ae: ~~~z.cps.toList= ~~~z:=by simp[Str.length]
   refine%[(z.cps.toList.filter (λc=>decide (c≠46))).map sgn,?_,by rw[Z6];lia|λS hS=>%[_,aa,?_|λl ss p hp C=>?_]]
   .rw[Yq];have:(z.cps.toList.filter (λc=>decide (c≠46))).map (V.str ∘ sgn)=ys:=by rw[d];rfl
    rw[this];exact SqL.of u
   .have:=jt b
    lia
   .have q:ah H (upd m S (iq w S (aI ((z.cps.toList.filter (λc=>decide (c≠46))).map sgn)))):=r.trans (ah.upd hS);exact k l _ ss (q.trans (ah.upd p)) (q.free p) aa hp C
def li(T:Txt K mg):↥2 "rows_of" ["text"] ou:=by
 .exists T.aV,gU,as,N,%[rows,rfl,a|k];have%[wd,w1,w2|hw]:=a.wide;have O:=a.text;have u:=a.split;refine%[_,%["KCPym$%A0A?1BD&QCH1~z~!0AXBCO~QA1BeLJ2LJ3cCPs*Md2]A/ymG]BA3BD&QDPs:M>2E;ymG]CA3AU1F~R2EBD&QCPMdfgAG~$A1BBED&QDI1",gU.nd,(blE (v:= .ty "str") rfl T.ac boot_str rfl rfl rfl)|N]|?_]
  generalize Str.join nl rows=z at O u
  show aZ _ _ _ [-z,none,none,none] H;refine aj λD1 k1 _=>?_
  lk;refine%[.type "str",.str z,true,by rfl|y4 (k1 _ _ (aj λD2 k2 _=>?_))];lk;refine%[!1,Yf (by lia: ~~~z+2<=5000) (!1)|λl hl=>k2 _ _ ?_];rw[show(!"\n")=nl from rfl,u];refine aj λD3 k3 _=>aw λag hK=>?_
  lk;have U:ah H (upd H l (.lst (rows\3))):=ah.upd hl;refine%[_,SqL.of aa|hK _ _ (iD (λi L g=>∃Y o3,L=[-z,!l,Y,o3]/\ah H g/\g l<*rows\3) %[none,none,ρ,U|aa] (λi L g _ ⟨_,_,_,_,q⟩=>SqL.of q) ?_ ?_)]
  .intro i x TT L g y %[Y,o3,rfl,sm|j] hT;obtain⟨r,m,rfl⟩:∃r,rows[i]?∣r/\x=V.str r:=by
    rw[Zl]at y;cases e:rows[i]? with
    | none=>rw[e]at y;cases y
    | some r=>rw[e]at y;exact%[r,ρ|(Za y).symm]
   have al:i< ~~~rows:=(Xk m).1;have an:=a.high;have B:ah H (upd g TT (.tup [.int i,.str r])):=sm.trans (ah.upd hT);have o:upd g TT (.tup [.int i,.str r]) l<*rows\3:=ah.upd hT _ _ j;have C:upd g TT (.tup [.int i,.str r]) TT&&&[.int i,.str r]:=aa
   generalize upd g TT (.tup [.int i,.str r])=HT at B o C
   have G: ~~~r<=1000:=by
    have: ~~~r=wd:=hw r (Z8 m)
    lia
   refine%[_,SqT.of C,ρ,_,_,ρ,_,_,ρ,ρ|?_];show aZ _ _ _ [-z,!l,some (.int i),-r] HT;refine aj λD4 k4 _=>?_
   have go:∀p,ah HT p->D4.nx [-z,!l,some (.int i),-r] p:=by
    intro p b;refine k4 _ _ (az λD5 k5 _=>?_);have I:∀M,ah HT M->D5.nx [-z,!l,some (.int i),-r] M:=λM n=>k5 _ _ %[_,_,rfl,B.trans n|n l _ o]
    lk;refine bC (λJ=>?_) λ_=>I _ b
    have J:0<(i:Int):=Zo J;obtain⟨d,rfl⟩:∃d,i=d+1:=%[i-1|⋯]
    have ab:d< ~~~rows:=by lia
    have ac:rows[d]?∣rows[d]:=by simp
    have e1:(((d+1:Nat):Int) -1)=(d:Int):=by lia
    refine%[_,SqL.of (b l _ o),.str rows[d],e1▸cH ∅,r,rows[d],ρ,G,?_|λM n=>%[_,ρ|?_]]
    .have:rows[d].length=wd:=hw _ (Yc ab)
     lia
    .rw[a.beneath ac m];exact y4 (I _ (b.trans n))
   lk;rw[if_neg ⋯];refine%[r,ρ,G|λp b=>%[_,ρ|?_]];rw[a.row (Z8 m)];exact y4 (go p b)
  .intro L g %[Y,o3,rfl,sm|j];refine k3 _ _ ?_;lk;refine%[l,rows,ρ,SqL.of j,by have:=a.sum;lia,a.sign|λl2 p ss b a0 ae J a1=>%[_,.inl %[_,SqL.of ae|ρ]|?_]];rw[if_neg]
   .exact k l p (sm.trans b) hl (b l _ j)
   .intro h0;have h0:=Zo h0;rw[Z6]at h0;have:ss=[]:=length_eq_zero_iff.mp ⋯;rw[this]at J;have hm:=J.symm.eq_nil;have%[c|hc]:=List.exists_mem_of_ne_nil _ a.signs_ne;have:sgn c∈aI ((cJ rows).map sgn):=aP.mpr (Xo %[c,hc|rfl]);rw[hm]at this;cases this
abbrev fk(p:Nat×Nat):Option ZB:=if p.1≠46/\p.1≠p.2 then some [sgn p.1,sgn p.2]else none
abbrev oC(u r:Str):List ZB:=(List.zip u.cps.toList r.cps.toList).filterMap fk
def dA(H:Hp):aD H []:=λp a=>by cases a
def ax(h:aD H ps)(s:∀b z,H b&&&z->c b&&&z):aD c ps:=λp a=>%[(h p a).1|s _ _ (h p a).2]
def cY(h:aD H ps)(a:q.2≠[])(b:H q.1&&&q.2\3):aD H (ps++[q]):=λp c=>by
 rcases Xl c with z|z
 .exact h p z
 .rw[Xm z];exact%[a|b]
def kC(a:aD H ps)(b:aD H qs):aD H (ps++qs):=λp c=>(Xl c).elim (a p) (b p)
inductive ER
 | mk (u r:Str):vs=[.str u,.str r]-> ~~~u<=40-> ~~~r= ~~~u->(∀l H' ps,ah H H'->H l=none->H' l∣.lst (ps\0)->aD H' ps->ps\2=oC u r->Q (.ref l) H')->ER vs H Q E0
inductive xT
 | mk (rows:ZB):vs=[.str (Str.join nl rows)]->cy rows->(∀l H' ss,ah H H'->H l=none->H' l<*ss\3->ss.Perm (aI ((cJ rows).map sgn))->PyProof.Rows.sortedS ss=true->Q (.ref l) H')->xT vs H Q E0
def zY(T:Txt K mg):↥3 "letters" ["text"] xT:=by
 .exists T.aZ,wQ,d,b,%[rows,rfl,a|e];refine%[_,%["KDIG~$AG~%A0BB",0|b],rows,ρ,a|λl r c u g=>%[l,rows,ρ,SqL.of g,by have:=a.sum;lia,a.sign|λi j ss m n o p q=>e i j ss (c.trans m) (c.free n) o p q]]
def jz(T:Txt K mg):↥1 "meetings_between" ["above","row"] ER:=by
 .exists T.b1,i9,ac,hr,%[u,r,rfl,hu,ae|kk];have ag: ~~~u=u.cps.size:=rfl;have al: ~~~r=r.cps.size:=rfl;refine%[_,%["KDIhb?1~yA0A1BeLW0?2LW1?2cxs:Mv0~A;Mv01kA0A1B",0,↑(["high","low"],[])|↑["high","low"]]|?_];show fM _ _ [-u,-r] H;lk;refine aE λab hK=>?_
  lk;refine hK _ _ λD O=>?_
  refine d5 (J:=Itz u r) (n:=u.cps.size) (D:=D) (λi ys U l=>(∃o1 o2,U=[o1,o2])/\ah H l/\l D<*ys/\ ~~~ys<=i/\∃ps:ZG,ys=ps\0/\aD l ps/\ps\2=((List.zip u.cps.toList r.cps.toList).take i).filterMap fk)
   %[%[none,none|rfl],ah.upd O,aa,Zi _,[],rfl,dA _|rfl] (λi _ _ _ hi _=>%[hi|⋯]) (λ_ _ _ _=>%[Zi _,⋯|.inl rfl]) ?_ ?_
  .intro i ys U l hi %[%[o1,o2|rfl],Y,hl,I,ps,L,m|j] x H2 %[c,d,TT,hc,hd,hT,rfl|rfl];have v:=ah.upd (o:= .tup [.str ⟨([c].toArray)⟩,.str ⟨([d].toArray)⟩]) hT;have nx:=oA u r i c d hc hd;have a:=v _ _ hl;have C:upd l TT (.tup [.str ⟨([c].toArray)⟩,.str ⟨([d].toArray)⟩]) TT&&&[.str ⟨([c].toArray)⟩,.str ⟨([d].toArray)⟩]:=aa;have g:aD (upd l TT (.tup [.str ⟨([c].toArray)⟩,.str ⟨([d].toArray)⟩])) ps:=λp G=>%[(m p G).1|v _ _ (m p G).2]
   have y:=Y.trans v
   generalize upd l TT (.tup [.str ⟨([c].toArray)⟩,.str ⟨([d].toArray)⟩])=HT at v a C g y
   refine%[_,SqT.of C,ρ,_,_,ρ,_,_,ρ,ρ|?_];show CH _ _ [some (.str ⟨([c].toArray)⟩),some (.str ⟨([d].toArray)⟩)] HT _;lk;simp only[oz,B5];have an:D≠TT:=λe=>by rw[e,C]at a;cases a
   refine bC (λM=>bC (λN=>?_) λN=>?_) λM=>?_
   .have M:c≠46:=↑M
    have N:c≠d:=↑N
    refine%[show 2<=sizeLine from !1|λp G=>?_];have B:=ah.upd (o:= .tup [V.str ⟨([c].toArray)⟩,V.str ⟨([d].toArray)⟩]) G;have as:p≠D:=λe=>by rw[e,a]at G;cases G
    refine CK.mk hi (B _ _ a) (aA ⋯) %[%[_,_|rfl],ah.set (y.trans B) O,aa,by rw[Z9,Yj];lia,ps++[(p,[sgn c,sgn d])],by rw[L,Zd];rfl,?_|?_]
    .have keep:∀b z,upd HT p _ b&&&z->upd _ D (.lst (ys++[V.ref p])) b&&&z:=λb z e=>by
      have:b≠D:=λe2=>by rw[e2,B _ _ a]at e;cases e
      rw[ak this];exact e
     exact ax (cY (ax g λb z e=>B _ _ e) ∅ (by rw[aa];rfl)) keep
    .rw[Zd,j,<-nx,Y0];have:fk (c,d)∣[sgn c,sgn d]:=if_pos %[M|N];rw[Y1,this];rfl
   .refine CN.mk hi %[%[_,_|rfl],y,a,⋯,ps,L,g|?_];rw[j,<-nx,Y0];have:fk (c,d)=none:=if_neg λq=>q.2 ↑N
    rw[Y1,this];simp
   .refine CN.mk hi %[%[_,_|rfl],y,a,⋯,ps,L,g|?_];rw[j,<-nx,Y0];have:fk (c,d)=none:=if_neg λq=>q.1 ↑M
    rw[Y1,this];simp
  .intro ys U l %[_,Y,hl,I,ps,L,m|j];rw[Zn (by rw[length_zip];simp;lia)]at j;exact kk D l ps Y O (by rw[hl,L]) m j
def uZ{K:ZA}{xs ys:ZM}{g:TG}{q:TS}{D:jG}(Pv:Nat->St->Hp->Prop)(s:Pv 0 c H)(u: ~~~ys<= ~~~xs)(z:∀i c H,i<= ~~~ys->Pv i c H->SqL K H a xs/\SqL K H b ys)
 (A:∀i x y T c H,xs[i]?∣x->ys[i]?∣y->Pv i c H->H T=none->g (.ref T) c (upd H T (.tup [x,y])) λd j=>q {D with nx:=Pv (i+1),ct:=Pv (i+1),bk:=D.nx} d j) (B:∀c H,Pv ys.length c H->D.nx c H):
 ∃W:Nat->Nat->St->Hp->Prop,(∃m,W 0 m c H)/\∀i m c H,W i m c H->
  ((zA K a b).stop i H/\D.nx c H)\/((zA K a b).go i H/\∃N:St->Hp->Prop,(∀f h,N f h->∃r,r<m/\W (i+1) r f h)/\∀x h,(zA K a b).yld i H x h->g x c h λd j=>q {D with nx:=N,ct:=N,bk:=D.nx} d j):=by
 refine%[λi m c H=>m= ~~~ys-i/\i<= ~~~ys/\Pv i c H,%[~~~ys,by simp,Xd _|s]|?_];intro i m c H %[rfl,hi|p];have%[l|n]:=z i c H hi p;by_cases o:i< ~~~ys
 .have C:xs[i]?∣xs[i]:=by simp[show i< ~~~xs by lia]
  have E:ys[i]?∣ys[i]:=by simp
  refine .inr %[%[xs,ys,_,_,l,n,C|E],Pv _,λf h G=>%[~~~ys-(i+1),⋯,rfl,o|G]|λv h y=>?_];have%[T,I,J,L,rfl,rfl,M|O]:=y;exact A i I J T c H (M xs l) (O ys n) p L
 .have e:i= ~~~ys:=by lia
  subst e;exact .inl %[%[xs,ys,l,n,⋯,Zi _|.inr rfl]|B c H p]
abbrev bF(rows:ZB)(i:Nat):List ZB:=(List.range i).flatMap λj=>oC (rows.getD j ⟨([].toArray)⟩) (rows.getD (j+1) ⟨([].toArray)⟩)
def kD(rows:ZB)(i:Nat):bF rows (i+1)=bF rows i++oC (rows.getD i ⟨([].toArray)⟩) (rows.getD (i+1) ⟨([].toArray)⟩):=by
 unfold bF;rw[range_succ,flatMap_append];simp
def wU(u r:Str): ~~~(oC u r)<= ~~~u:=by
 refine Yf (length_filterMap_le _ _) ?_;rw[length_zip];have: ~~~u.cps.toList= ~~~u:=by simp[Str.length]
 lia
def lj(h:k∈bF rows (~~~rows-1)):∃a b,k=[sgn a,sgn b]/\zT rows a b:=by
 have%[j,d|g]:=mem_flatMap.mp h;have f:∀j h,rows.getD j ⟨([].toArray)⟩=rows[j]:=λj h=>by simp[h]
 have d:=mem_range.mp d;have%[%[a|b],i|e]:=mem_filterMap.mp g;unfold fk at e
 split at e
 .rename_i h
  have%[q|c]:=Xe i;rw[List.getElem?_zip_eq_some,f j ⋯,f _ ⋯]at c;exact%[a,b,(Za e).symm,h.1,h.2,j,q,rows[j],rows[j+1],Z4 _,Z4 _,by simpa using c.1|by simpa using c.2]
 .lia
def rg(m:cy rows)(h:zT rows a b):Let rows a/\Let rows b:=by
 have%[n1,n,i,j,r,c,d,f,g|l]:=h;refine%[%[n1,r,Z8 d|Z8 ↑g],λe=>n1 (m.fall i r c d f j a b g l e),c,Z8 f|Z8 ↑l]
def rh(rows:ZB)(h:rows≠[]):AJ (rows\3) (some 1) none=(rows.drop 1)\3:=by
 unfold AJ;rw[_H.sIx_none,show(some (1))∣((1:Nat):Int)from rfl,_H.sIx_nat,Z6,min_eq_left (length_pos_iff.mpr h),<-List.map_drop,<-List.map_take];rw[Zn (Yg▸Zi _)]
inductive xU
 | mk (rows:ZB):vs=[.str (Str.join nl rows)]->cy rows->uT rows->(∀l H' ss,ah H H'->H l=none->H' l∣.lst (ss\0)->aD H' ss-> ~~~ss<=26->(∀t∈ss,∃a b,t.2=[sgn a,sgn b]/\Let rows a/\Let rows b)->(∀k,k∈ss\2↔k∈bF rows (~~~rows-1))->Q (.ref l) H')->xU vs H Q E0
def wV(T:Txt K mg):↥3 "meetings" ["text"] xU:=by
 refine T.b0.cal dR (λH vs Q E h=>?_)
 .have%[rows,rfl,c,%[mm,ml|bb]|kk]:=h;refine%[ρ|λf b2 A outer s hr=>?_];have%[wd,w1,w2|ab]:=c.wide;have hp:1<= ~~~rows:=c.pos;have bt:=c.high;have bc:rows≠[]:=length_pos_iff.mp hp;refine%[_,%["KCH1G~%A0BCH2SBCO~&A1A~'1~(E~)BeLJ3LJ4cDa~e~f2AG]DA3A4BBDIu~*A_~+A2BB",dR.nd|hr]|?_]
  show aZ _ _ _ [some (.str (Str.join nl rows)),none,none,none,none] H;refine aj λD1 k1 r1=>?_
  lk;refine%[rows,ρ,c|λR H1 s1 f1 hR=>k1 _ _ (aj λD2 k2 r2=>?_)];lk;refine%[Xd _|λL hL=>k2 _ _ (aj λD3 k3 r3=>aw λb0 hK=>?_)];have s2:=ah.upd (o:= .lst []) hL;have G:=s2 _ _ hR;have I:upd H1 L (.lst []) L<*[]:=aa;have fL:H L=none:=s1.free hL;have ac:=s1.trans s2
  generalize upd H1 L (.lst [])=H2 at s2 G I ac
  lk;refine%[_,SqL.of G|λp hp=>?_];rw[rh rows bc];have s3:=ah.upd (o:= .lst ((rows.drop 1)\3)) hp;have J:=s3 _ _ G;have ae:=s3 _ _ I;have M:upd H2 p (.lst ((rows.drop 1)\3)) p<*(rows.drop 1)\3:=aa;have ag:=ac.trans s3;have be:L≠R:=λe=>by rw[e,hR]at hL;cases hL
  have bf:p≠L:=λe=>by rw[e,I]at hp;cases hp
  generalize upd H2 p (.lst ((rows.drop 1)\3))=H3 at s3 J ae M ag
  refine%[%[_|SqL.of J],%[_|SqL.of M]|hK _ _ (uZ (xs:=rows\3) (ys:=(rows.drop 1)\3) (λi σ l=>(∃o3 o4,σ=[some (.str (Str.join nl rows)),!R,!L,o3,o4])/\ah H l/\l R<*rows\3/\l p<*(rows.drop 1)\3/\
   ∃ps:ZG,l L∣.lst (ps\0)/\aD l ps/\ps\2=bF rows i/\ ~~~ps<=40*i) %[%[none,none|ρ],ag,J,M,[],ae,dA _,ρ|Xd _] (by rw[Z6,Z6,Yg];lia) (λi σ l _ q=>%[SqL.of q.2.2.1|SqL.of q.2.2.2.1]) ?_ ?_)]
  .intro i x y TT σ l hx hy %[%[o3,o4|rfl],sm,al,an,ps,N,g,n|as] hT;rw[Zl]at hx hy;have%[u,hu|rfl]:=map_eq_some_iff.mp hx;have%[r,B|rfl]:=map_eq_some_iff.mp hy;rw[getElem?_drop,Nat.add_comm]at B;have b3:i+1< ~~~rows:=(Xk B).1;have ul: ~~~u=wd:=ab u (Z8 hu);have rl: ~~~r=wd:=ab r (Z8 B);have j:=ah.upd (o:= .tup [V.str u,V.str r]) hT;have a0:upd l TT (.tup [V.str u,V.str r]) TT&&&[V.str u,V.str r]:=aa;have a1:=j _ _ al;have a2:=j _ _ an;have v:=j _ _ N;have C:aD (upd l TT (.tup [V.str u,V.str r])) ps:=ax g λb z e=>j _ _ e
   have a3:=sm.trans j
   generalize upd l TT (.tup [V.str u,V.str r])=HT at j a0 a1 a2 v C a3
   refine%[_,SqT.of a0,ρ,_,_,ρ,_,_,ρ,ρ|?_];refine az λD4 k4 r4=>?_
   lk;refine%[tyL (SqL.of v),u,r,ρ,⋯,⋯|λl4 H4 ps4 Y f4 h4 a4 e4=>?_];have b4:l4≠L:=λe=>by rw[e,v]at f4;cases f4
   have b1: ~~~ps4<=40:=by
    have: ~~~(ps4\2)= ~~~(oC u r):=by rw[e4]
    rw[Z6]at this;have:=wU u r
    lia
   refine%[_,ρ,_,Y _ _ v,_,h4,by rw[Z6,Z6];exact ci ⋯|k4 _ _ ?_];have O:∀b z,H4 b&&&z->upd H4 L (.lst ((ps\0) ++ps4\0)) b&&&z:=λb z e=>by
    have:b≠L:=λe2=>by rw[e2,Y _ _ v]at e;cases e
    rw[ak this];exact e
   have bl:R≠L:=Ne.symm be;refine%[%[_,_|ρ],λb u' e=>?_,(ak bl)▸Y _ _ a1,(ak bf)▸Y _ _ a2,ps++ps4,by rw[aa,Zd],ax (kC (ax C λb z e=>Y _ _ e) a4) O,?_|by rw[Z9];lia]
   .rw[ak (au e fL)];exact Y _ _ (a3 _ _ e)
   .rw[Zd,n,e4,kD];have g1:rows.getD i ⟨([].toArray)⟩=u:=by rw[Zc,hu];rfl
    have g2:rows.getD (i+1) ⟨([].toArray)⟩=r:=by rw[Zc,B];rfl
    rw[g1,g2]
  .intro σ l %[%[o3,o4|rfl],sm,al,an,ps,N,g,n|as];rw[Z6,Yg]at n;refine k3 _ _ ?_;lk;have U:∀q∈ps,∃a b,q.2=[sgn a,sgn b]/\zT rows a b:=λq d=>lj (n▸Xo %[q,d|rfl])
   have a5:∀q∈ps,q.2∈mm:=λq d=>by
    have%[a,b,e|h]:=U q d;rw[e];exact bb a b h
   refine%[ps,SqL.of N,g,%[mm,⋯|a5]|λl5 bm=>?_];have s5:=ah.upd (o:=nM P w l5 (a9 ps)) bm;have few: ~~~(a9 ps)<=26:=by
    have:=_T.nodup_sub (dL ps) (m:=mm) λk hk=>by
     have%[q,d|rfl]:=Xn hk;exact a5 q (bj ps q d)
    rw[Z6]at this
    lia
   refine%[a9 ps,aa,λq d=>%[(g q (bj ps q d)).1|s5 _ _ (g q (bj ps q d)).2],2,λq d=>?_,!1,⋯|λl6 ss a6 pm=>?_]
   .have%[a,b,e|_]:=U q (bj ps q d);rw[e];rfl
   have s6:=ah.upd (o:= .lst (ss\0)) a6;refine kk l6 _ ss ((sm.trans s5).trans s6) ((sm.trans s5).free a6) aa (λq d=>?_) (pm.length_eq▸few) (λq d=>?_) λk=>?_
   .have:=g q (bj ps q (pm.mem_iff.mp d));exact%[this.1|s6 _ _ (s5 _ _ this.2)]
   .have%[a,b,e|h]:=U q (bj ps q (pm.mem_iff.mp d));exact%[a,b,e|rg c h]
   .rw[(pm.map _).mem_iff,gO,n]
abbrev fo(z:Str):Bool:=(decide (1<=(~~~z:Int))&&decide ((~~~z:Int)<=8))&&z.cps.toList.all eN
inductive oE
 | mk (z:Str):vs=[.str z]->fo z=true->(∀H',ah H H'->Q (.bl true) H')->oE vs H Q E0
inductive u5 (K:ZA)
 | mk (z:Str) (p:Addr) (ts:ZB):vs=[.str z,.ref p]->(SqL K H p (ts\3)\/SqT K H p (ts\3))->Q (.bl (decide (z∈ts))) H->u5 K vs H Q E0
inductive oF
 | mk (i:Int):vs=[.int i]-> -9999<=i->i<=9999->Q (.bl true) H->oF vs H Q E0
abbrev md(c:ZB)(vs:ZM):Prop:=
 (∃w a b:Str,vs=[.str w,.str a,.str b]/\(w="later"\/w="same")/\a∈c/\b∈c/\a≠b)\/
 ∃w a y,vs=[.str w,.str a,.int y]/\(w="since"\/w="by")/\a∈c/\ -9999<=y/\y<=9999
inductive kE (K:ZA)
 | mk (t p xs ls):vs=[.ref t,.ref p]->H t&&&xs->SqL K H p (ls\3)->md ls xs->Q (.bl true) H->kE K vs H Q E0
abbrev lnS(n z:Str):Str:=Str.empty++n++Str.ofString "."++z
inductive jo
 | mk (n z:Str):vs=[.str n,.str z]-> ~~~n<=100-> ~~~z<=100->Q (.str (lnS n z)) H->jo vs H Q E0
def Eg(z:Str)(ts:ZB):inV (V.str z) (ts\3)=decide (z∈ts):=by
 unfold inV
 induction ts with
 | nil=>rfl
 | cons c r a=>
   show((c==z)||_)=_
   grind
def zZ(ts:ZB):(ts\3).all jd=true:=by simp[jd]
def z0(T:Txt K mg):↥1 "is_name" ["thing"] oE:=by
 .exists T.aU,wP,y,N,%[z,rfl,B|k];refine%[_,%["KCPym$%A0A?1BDIoQDI!~b..EfgA0B]E)~c~dAhb?2~N0W0?3tr~O0~xB",0,(blE (v:= .ty "str") rfl T.ac boot_str rfl rfl rfl),↑(["sign"],[])|↑["sign"]]|?_]
  show aZ _ _ _ [-z] H;have a:=B;unfold fo at a;rw[Zv,Zv]at a;have%[%[C|q]|b]:=a;have O: ~~~z<=8:=by have:=Zo q;lia
  lk;refine%[.type "str",.str z,true,by rfl|?_];lk;refine%[ci ⋯|?_];rw[if_pos C,if_pos q];refine aE λr G=>?_
  lk;refine G _ _ λD u=>?_
  refine d5 (J:=Its z) (n:=z.cps.size) (D:=D) (λi ys l d=>(∃o,l=[o])/\ah H d/\d D<*ys/\ys=(z.cps.toList.take i).map (λc=>V.bl (eN c))) %[%[none|rfl],ah.upd u,aa|rfl]
   (λi _ _ _ hi _=>hi) (λ_ _ _ _=>Zi _) ?_ ?_
  .intro i ys l d hi %[%[o|rfl],m,p|g] x U %[I,c,L|rfl];subst I;lk;have j: ~~~ys=i:=by
    rw[g,Z6,Yk];have: ~~~z.cps.toList=z.cps.size:=by simp
    lia
   have M:i<1000:=by
    have: ~~~z=z.cps.size:=rfl
    lia
   refine CK.mk hi p (j▸aA ⋯) %[%[_|rfl],ah.set m u,aa|?_];rw[sj,g,<-iY z i c L,Zd]
   all_goals rfl
  .intro ys l d %[_,m,p|g];refine%[D,ρ,(z.cps.toList.map eN),?_|?_]
   .have e:z.cps.toList.take z.cps.size=z.cps.toList:=by
     apply Zn;simp
    rw[e]at g;have:(z.cps.toList.map eN).map V.bl=ys:=by rw[g,Yq];rfl
    rw[this];exact SqL.of p
   .have e:(z.cps.toList.map eN).all id=true:=by
     rw[all_map];exact b
    rw[e];exact k d m
def cB(T:Txt K mg):↥1 "is_text_among" ["thing","texts"] (u5 K):=by
 .exists T.b7,lc,a,c,%[z,p,ts,rfl,b|k];refine%[_,%["KDI!$%A0A?1B)r~O01",0|(blE (v:= .ty "str") rfl T.ac boot_str rfl rfl rfl)]|?_];show fM _ _ [some _,some _] H;lk;refine%[.type _,.str z,true,by rfl|?_];rw[<-Eg]at k;exact%[_,b,ρ,zZ ts|k]
def z3(T:Txt K mg):↥1 "is_year" ["thing"] oF:=by
 .exists T.b8,wR,a,d,%[i,rfl,b,c|k];refine%[_,%["KCPs*ym$%A0A?1B/m$%A0A?2BDIoQDI~b..]F0]G",0,(blE (v:= .ty "int") rfl T.ai boot_int rfl rfl rfl)|(blE (v:= .ty "bool") rfl T.aj PyProof.Rows.boot_bool rfl rfl rfl)]|?_]
  show aZ _ _ _ [some (.int i)] H;lk;refine%[.type _,.int i,true,by rfl,.type _,.int i,false,by rfl|?_];rw[if_pos (Zf b),Zf c];exact k
def gX(T:Txt K mg):↥1 "layer_name" ["name","letter"] jo:=by
 .exists T.b9,pO,d,j,%[n,z,rfl,l,m|k];refine%[_,%["KDI~,~B~g0~BX~B~g1~."|0]|?_];show fM _ _ [-n,some _] H;lk;have e:∀a b:Str,~~~(a++b)= ~~~a+ ~~~b:=λa b=>size_append
  have g:Str.empty.length=0:=rfl;have i:(!".").length=1:=rfl;have c:∀k,k<=1000->k<=sizeLine:=λk o=>ci ⋯
  refine%[c _ ⋯,c _ ?_,c _ ?_,c _ ⋯,c _ ?_,c _ ?_|k]<;> simp only[e,g,i]<;> lia
def u8(T:Txt K mg):↥2 "is_saying" ["thing","layers"] (kE K):=by
 .exists T.b6,sZ,o,d,%[t,p,xs,g,rfl,n,i,ok|k];refine%[_,%["KCPs*ym$%A0A?1B/MvfgA0BEDIoQCPmG~CAV0EA]HBDI!G~CAV0EA1B!G~CAV0EA1B)rvV0EV0EQCPmG~CAV0EA]IBDI!G~CAV0EA1B)G]JAV0EBQDIo",0,(blE (v:= .ty "tuple") rfl T.ah boot_tuple rfl rfl rfl)|d]|?_]
  show aZ _ _ _ [!t,!p] H;lk;refine%[.type "tuple",.tup n,true,by rfl|?_];have st:=SqT.of (K:=K) n;rcases ok with⟨c,a,b,rfl,hw,j,r,l⟩|⟨c,a,y,rfl,hw,j,u,z⟩
  .have m:decide (c∈([!"later",!"same"]:ZB))=true:=by rcases hw with rfl|rfl<;> decide
   lk;refine%[3,.inr %[_,st|ρ]|?_];rw[if_neg (!1)];refine%[_,st,_,ρ|λq e=>%[c,q,[!"later",!"same"],ρ,.inr (e H),_,ρ|?_]];rw[m];lk;refine%[_,st,_,ρ,a,p,g,ρ,.inl i,_,ρ|?_];rw[Zf j];lk;refine%[_,st,_,ρ,b,p,g,ρ,.inl i,_,ρ|?_];rw[Zf r];lk;refine%[_,st,_,ρ,_,st,_,ρ,ρ|?_];rw[show(!decide (V.str a=V.str b))=true from by simp[l]];exact k
  .have m:decide (c∈([!"later",!"same"]:ZB))=false:=by rcases hw with rfl|rfl<;> decide
   have B:decide (c∈([!"since",!"by"]:ZB))=true:=by rcases hw with rfl|rfl<;> decide
   lk;refine%[3,.inr %[_,st|ρ]|?_];rw[if_neg (!1)];refine%[_,st,_,ρ|λq e=>%[c,q,[!"later",!"same"],ρ,.inr (e H),_,ρ|?_]];rw[m];lk;refine%[_,st,_,ρ|λq e=>%[c,q,[!"since",!"by"],ρ,.inr (e H),_,ρ|?_]];rw[B];lk;refine%[_,st,_,ρ,a,p,g,ρ,.inl i,_,ρ|?_];rw[Zf j];lk;exact%[_,st,_,ρ,y,ρ,u,z|k]
abbrev bP(H:Hp)(cs:ZH):Prop:=∀p∈cs,H p.1&&&[.str p.2.1,.str (Str.join nl p.2.2)]/\fo p.2.1=true/\cy p.2.2
def bP.up(h:bP H cs)(s:ah H b):bP b cs:=λp a=>%[s _ _ (h p a).1|(h p a).2]
inductive rj
 | mk (rows:ZB):vs=[.str (Str.join nl rows)]->cy rows->(∀H',ah H H'->Q (.bl true) H')->rj vs H Q E0
inductive u9
 | mk (p:Addr×Str×ZB):vs=[.ref p.1]->bP H [p]->(∀H',ah H H'->Q (.bl true) H')->u9 vs H Q E0
abbrev cU(cs:ZH):ZM:=cs\0
inductive jp
 | mk (l cs):vs=[.ref l]->H l<*cU cs->bP H cs->(cs.map λp=>p.2.1).Nodup->1<= ~~~cs-> ~~~cs<=8->(∀H',ah H H'->Q .non H')->jp vs H Q E0
abbrev cE(H:Hp)(a:ZB)(qs:ZN):Prop:=∀q∈qs,H q.1&&&q.2/\md a q.2
def cE.up(h:cE H b qs)(s:ah H c):cE c b qs:=λp a=>%[s _ _ (h p a).1|(h p a).2]
inductive gh (K:ZA)
 | mk (l r ls qs):vs=[.ref l,.ref r]->H l∣.lst (qs\0)->H r<*ls\3->cE H ls qs-> ~~~qs<=60->(∀H',ah H H'->Q .non H')->gh K vs H Q E0
def B7(T:Txt K mg):↥3 "is_cut" ["thing"] rj:=by
 .exists T.b4,zV,b,c,%[rows,rfl,a|k];refine%[_,(QSs.h (ai (tryN (λ_ _ h=>h) (aq (b8 rfl (aH (li T) c rfl #[↑0]))))
   (aq (aO eBl))))|?_]
  show aZ _ _ _ [some (.str (Str.join nl rows))] H;lk;exact%[rows,ρ,a|λl d e g i=>k d e]
def oG(T:Txt K mg):↥4 "is_named_cut" ["thing"] u9:=by
 .exists T.b3,mx,e,c,%[p,rfl,g|k];have%[b,i|a]:=g p (mem_singleton.mpr rfl);refine%[_,%["KDI!$%A0A?1B!rdfgA0BE!G]KAV0EB)G]LAV0EB",0,(blE (v:= .ty "tuple") rfl T.ah boot_tuple rfl rfl rfl)|c]|?_];show fM _ _ [some _] H;lk;refine%[.type _,.tup b,true,by rfl|?_];have st:=SqT.of (K:=K) b;refine%[2,.inr %[_,st|ρ],_,st,_,ρ,p.2.1,ρ,i|λm d=>?_];lk;exact%[_,SqT.of (d _ _ b),_,ρ,p.2.2,ρ,a|λj l=>k j (d.trans l)]
def tw(T:Txt K mg):↥5 "check_cuts" ["cuts"] jp:=by
 .exists T.b2,dM,al,J,%[l,cs,rfl,C,L,M,h1,h8|k];have u: ~~~(cU cs)= ~~~cs:=Z6 _;refine%[_,%["KCPs*ym$%A0A?1B/MdfgA0BED&QCH1pDO~QA0BeLJ2LJ3cCPs*Md2]M*ymG]NA3B/~hV3E1D&QDno1V3E",dM.nd,(blE (v:= .ty "list") rfl T.a5 boot_list rfl rfl rfl)|J]|?_]
  show aZ _ _ _ [!l,none,none,none] H;refine aj λD1 k1 _=>?_
  lk;refine%[.type "list",.lst C,true,by rfl|?_];lk;refine%[~~~cs,.inl %[_,SqL.of C|u.symm]|?_];rw[if_neg (by simp only[decide_eq_true_eq];lia)];refine k1 _ _ (aj λD2 k2 _=>?_);lk;refine λd N=>k2 _ _ (az λD3 k3 _=>aw λag hK=>?_)
  lk;refine%[_,SqL.of (ah.upd N _ _ C)|hK _ _ (iD (λi G c=>∃O U a,G=[!l,!d,O,U]/\ah H c/\c d∣.dK a/\a\1=(cs.take i).map λp=>Sum.inr p.2.1) %[none,none,[],ρ,ah.upd N,aa|ρ] (λi G c _ ⟨_,_,_,_,q,_⟩=>SqL.of (q _ _ C)) ?_ ?_)]
  .intro i x TT G c I %[O,U,a,rfl,Y,y|g] hT;have hi:i< ~~~cs:=u▸(Xk I).1;obtain⟨q,hq,rfl⟩:∃q,cs[i]?∣q/\x=V.ref q.1:=by
    unfold cU at I;rw[Zl,Z4 hi]at I;exact%[cs[i],Z4 hi|(Za I).symm]
   have b:ah H (upd c TT (.tup [.int i,.ref q.1])):=Y.trans (ah.upd hT);have z:upd c TT (.tup [.int i,.ref q.1]) TT&&&[.int i,.ref q.1]:=aa;have r:=ah.upd (o:= .tup [.int i,.ref q.1]) hT _ _ y
   generalize upd c TT (.tup [.int i,.ref q.1])=HT at b r z
   have m:=L q (Z8 hq);refine%[_,SqT.of z,ρ,_,_,ρ,_,_,ρ,ρ|?_];show aZ _ _ _ [!l,!d,some (.int i),some (.ref q.1)] HT;refine aj λD4 k4 _=>?_
   lk;rw[if_neg (by simp only[decide_eq_true_eq];lia)];refine%[q,ρ,λp hp=>(Xm hp)▸%[b _ _ m.1|m.2]|λH2 B=>%[true,ρ|?_]];rw[if_neg ∅];have n:(Sum.inr q.2.1:Key)∉a\1:=by
    rw[g];intro hm;have%[q',ab|e]:=Xn hm;have e:q'.2.1=q.2.1:=Sum.inr.inj e;have%[j|hj]:=Xe ab;have ac:j<i:=by
     have:=(Xk hj).1;rw[Yk]at this
     lia
    rw[Yb ac]at hj;have n1:(cs.map λp=>p.2.1)[j]?∣q.2.1:=by rw[Zl,hj,<-e];rfl
    have:=fK M n1 (by rw[Zl,hq];rfl)
    lia
   refine%[_,SqT.of (B _ _ (b _ _ m.1)),_,ρ,_,bN.k (k:=Sum.inr q.2.1) (B _ _ r)|?_];have hv:bx a (Sum.inr q.2.1:Key)=none:=by
    cases e:bx a (Sum.inr q.2.1:Key)with
    | none=>rfl
    | some v=>exact absurd (xq e) n
   rw[hv,if_neg ∅];refine k4 _ _ (az λD5 k5 _=>?_);lk;have ae: ~~~a=i:=by
    have:=congrArg List.length g;rw[Z6,Z6,Yk]at this
    lia
   refine%[_,SqT.of (B _ _ (b _ _ m.1)),_,ρ,_,eI.k (k:=Sum.inr q.2.1) (B _ _ r) (ae▸aA ⋯)|k5 _ _ %[_,_,_,ρ,ah.set (b.trans B) N,aa|?_]];rw[kX,if_neg n,g,X8,Zd,hq];rfl
  .intro G c %[O,U,a,rfl,Y,y|g];exact k3 _ _ (k c Y)
def mC(T:Txt K mg):↥3 "check_sayings" ["sayings","layers"] (gh K):=by
 .exists T.b5,dI,B,C,%[l,r,y,qs,rfl,g,j,m,G|k];refine%[_,%["KCPym$%A0A?1BD&QDO~QA0BeLJ2LJ3cDPs*Md2]O/ymG]PA3A1BD&Q",dI.nd,(blE (v:= .ty "list") rfl T.a5 boot_list rfl rfl rfl)|C]|?_]
  show aZ _ _ _ [!l,!r,none,none] H;refine aj λO k1 _=>?_
  lk;refine%[.type "list",.lst g,true,by rfl|?_];lk;refine k1 _ _ (az λU I _=>aw λz J=>?_);lk;refine%[_,SqL.of g|J _ _ (iD (λi e b=>∃n o,e=[!l,!r,n,o]/\ah H b) %[none,none,ρ|ah.refl H] (λi e b _ ⟨_,_,_,q⟩=>SqL.of (q _ _ g)) ?_ ?_)]
  .intro i x TT e b p %[n,o,rfl|u] L;have hi:i< ~~~qs:=(Z6 _)▸(Xk p).1;obtain⟨q,M,rfl⟩:∃q,qs[i]?∣q/\x=V.ref q.1:=by
    rw[Zl,Z4 hi]at p;exact%[qs[i],Z4 hi|(Za p).symm]
   have a:ah H (upd b TT (.tup [.int i,.ref q.1])):=u.trans (ah.upd L);have c:upd b TT (.tup [.int i,.ref q.1]) TT&&&[.int i,.ref q.1]:=aa
   generalize upd b TT (.tup [.int i,.ref q.1])=HT at a c
   have d:=m q (Z8 M);refine%[_,SqT.of c,ρ,_,_,ρ,_,_,ρ,ρ|?_];show iu _ _ _ _ [!l,!r,some (.int i),some (.ref q.1)] HT;refine az λY N _=>?_
   lk;rw[if_neg ⋯];refine%[q.1,r,q.2,y,ρ,a _ _ d.1,SqL.of (a _ _ j),d.2,true,ρ|?_];rw[if_neg ∅];exact N _ _ %[_,_,rfl|a]
  .intro e b %[n,o,rfl|u];exact I _ _ (k b u)
abbrev lyr(p:Addr×Str×ZB):ZB:=(aI ((cJ p.2.2).map sgn)).map (lnS p.2.1)
inductive kH
 | mk (l cs):vs=[.ref l]->H l<*cU cs->bP H cs-> ~~~cs<=3-> ~~~(cs.flatMap lyr)<=63->(∀r H' (ls:ZB),ah H H'->H r=none->H' r<*ls\3->ls.Perm (cs.flatMap lyr)->ls.Pairwise (λa b=>aM b a=false)->Q (.ref r) H')->kH vs H Q E0
abbrev db(c:ZB)(k:ZB):Prop:=∃a b z,k=[a,b,z]/\a∈c/\b∈c
abbrev Sml(z:Str):Prop:= ~~~z<=30/\∀c∈z.cps.toList,c<16^8
abbrev z4(a:ZB)(k:ZB):Prop:=db a k/\∀z∈k,Sml z
def vb(h:fo z=true):Sml z:=by
 unfold fo at h;rw[Zv,Zv]at h;refine%[⋯|λc a=>?_];have:=(qB.mp (all_eq_true.mp h.2 c a)).2
 lia
def Sml.app{a b:Str}(f:∀c∈a.cps.toList,c<16^8)(g:∀c∈b.cps.toList,c<16^8):∀c∈(a++b).cps.toList,c<16^8:=λc d=>by
 have e:(a++b).cps.toList=a.cps.toList++b.cps.toList:=Xc;rw[e]at d;exact(Xl d).elim (f c) (g c)
def Eh(h:c<1000):∀x∈(sgn c).cps.toList,x<16^8:=λx a=>by
 have e:=by simpa [sgn]using a
 lia
def lq{c:Nat}(h:fo n=true)(d:c<1000):Sml (lnS n (sgn c)):=by
 have e:∀a b:Str,~~~(a++b)= ~~~a+ ~~~b:=λa b=>size_append
 have l: ~~~n<=8:=by
  unfold fo at h
  grind
 refine%[?_|Sml.app (Sml.app (Sml.app (λc d=>(nomatch d)) (vb h).2) (!0)) (Eh d)];unfold lnS;rw[e,e,e,show Str.empty.length=0 from rfl,show(!".").length=1 from rfl,show(sgn c).length=1 from rfl]
 lia
def wW(h:cy rows)(l:Let rows c):c<1000:=by
 have:=(qB.mp (iV h.sign c (fV.mpr l))).2
 lia
def Ei(b:fo p.2.1=true)(d:cy p.2.2):∀z∈lyr p,Sml z:=λz e=>by
 have%[y,f|rfl]:=Xn e;have%[c,a|rfl]:=Xn (aP.mp f);exact lq b (wW d (fV.mp a))
def Gz(e:Sml a)(f:Sml b)(g:Sml c):∀z∈[a,b,c],Sml z:=λz d=>by
 simp only[Yu,X3,or_false]at d;rcases d with rfl|rfl|rfl
 .exact e
 .exact f
 .exact g
def Ej(i:Nat)(h:i<=100):Sml (Str.empty++Str.ofString "#"++Str.ofString (toString (i:Int))):=by
 have all:∀j:Fin 101,Sml (Str.empty++Str.ofString "#"++Str.ofString (toString ((j.1)))):=by
  unfold Sml;decide +kernel
 exact all %[i|⋯]
def db.three(h:db c k): ~~~k=3:=by
 have%[a,b,z,rfl|_]:=h;rfl
def db.mono(h:db c k)(s:∀x∈c,x∈d):db d k:=by
 have%[a,b,z,e,f|g]:=h;exact%[a,b,z,e,s a f|s b g]
def iZ(h:Let p.2.2 a):lnS p.2.1 (sgn a)∈lyr p:=
 Xo %[_,aP.mpr (Xo %[a,fV.mpr h|rfl])|rfl]
abbrev kI(n:Str)(k:ZB):ZB:=k.map (lnS n) ++[n]
abbrev tz(i:Nat):Str:=Str.empty++Str.ofString "#"++Str.ofString (toString (i:Int))
abbrev cL(cs:ZH):List ZB:=cs.flatMap λp=>(bF p.2.2 (~~~p.2.2-1)).map (kI p.2.1)
abbrev fH(i:Nat):ZM->Option ZB
 |[.str w,.str a,.str b]=>if w=Str.ofString "later" then some [a,b,tz i]else none
 | _=>none
abbrev cN(qs:ZN)(n:Nat):List ZB:=(List.range n).filterMap λj=>qs[j]?.bind λq=>fH j q.2
def kJ{cs:List _}{i:Nat}{q:Addr×Str×ZB}(a:cs[i]?∣q):cL (cs.take (i+1))=cL (cs.take i) ++(bF q.2.2 (~~~q.2.2-1)).map (kI q.2.1):=by
 unfold cL;rw[X8,a,flatMap_append];show _++([q].flatMap _)=_;rw[List.flatMap_singleton]
def ef(a:qs[i]?∣q):cN qs (i+1)=cN qs i++(fH i q.2).toList:=by
 unfold cN;rw[range_succ,Y0];refine congrArg _ ?_;rw[Y1,a];rw[Option.bind_some];cases fH i q.2<;> rfl
inductive kK
 | mk (l cs):vs=[.ref l]->H l<*cU cs->bP H cs->(∀p∈cs,uT p.2.2)-> ~~~cs<=3->(∀r H' ts,ah H H'->H r=none->H' r∣.lst (ts\0)->aD H' ts->(∀t∈ts,z4 (cs.flatMap lyr) t.2)-> ~~~ts<=78->(∀k,k∈ts\2↔k∈cL cs)->Q (.ref r) H')->kK vs H Q E0
inductive kL
 | mk (l ls qs):vs=[.ref l]->H l∣.lst (qs\0)->cE H ls qs->(∀z∈ls,Sml z)-> ~~~qs<=63->(∀r H' ts,ah H H'->H r=none->H' r∣.lst (ts\0)->aD H' ts->(∀t∈ts,z4 ls t.2)-> ~~~ts<= ~~~qs->ts\2=cN qs qs.length->Q (.ref r) H')->kL vs H Q E0
def iR{z:Str}(h:fo z=true): ~~~z<=8:=by
 unfold fo at h;rw[Zv,Zv]at h;have:=Zo h.1.2
 lia
def jA{cs:List Nat}{z:Str}(h:z∈aI (cs.map sgn)):∃c∈cs,z=sgn c:=by
 have:=aP.mp h;have%[c,a|rfl]:=Xn this;exact%[c,a|ρ]
def vc(T:Txt K mg):↥4 "layers_of" ["cuts"] kH:=by
 .exists T.ba,d8,ae,hr,%[l,cs,rfl,hl,G,h8,ag|k];have m: ~~~(cU cs)= ~~~cs:=Z6 _;refine%[_,%["KCH1SBCOR0eL~D2ijLJ3cDa~e~f1Ahb?1RG]QA3BW0?2tG~iAN1A0BBDIu]RA1B",d8.nd,↑(["letter","name"],[(1,2)]),↑["letter","name"]|hr]|?_]
  show aZ _ _ _ [!l,none,none,none] H;refine aj λD1 k1 _=>?_
  lk;refine%[Xd _|λL I=>k1 _ _ (aj λD2 k2 _=>aw λn J=>?_)];lk;refine%[%[_|SqL.of (ah.upd I _ _ hl)]|J _ _ (eG (λi d a=>∃M N,d=[!l,!L,M,N]/\ah H a/\∃e:ZB,a L<*e\3/\e.Perm ((cs.take i).flatMap lyr)/\ ~~~e<=26*i)
   %[none,none,ρ,ah.upd I,[],aa,List.Perm.refl _|Xd _] (λi d a _ ⟨_,_,_,q,_⟩=>SqL.of (q _ _ hl)) ?_ ?_)]
  .intro i x d a y %[M,N,rfl,p,e,B,u|O];have hi:i< ~~~cs:=m▸(Xk y).1;obtain⟨q,hq,rfl⟩:∃q,cs[i]?∣q/\x=V.ref q.1:=by
    unfold cU at y;rw[Zl,Z4 hi]at y;exact%[cs[i],Z4 hi|(Za y).symm]
   have b:=G q (Z8 hq);refine%[_,SqT.of (p _ _ b.1),ρ,_,_,ρ,_,_,ρ,ρ|az λD3 k3 _=>?_];show jH _ _ [!l,!L,some (.str q.2.1),some (.str (Str.join nl q.2.2))] a;lk;refine%[tyL (SqL.of B)|aE λn J=>?_];lk;refine%[q.2.2,ρ,b.2.2|λl2 H2 ss s2 f2 h2 U q2=>?_];lk;refine%[%[_|SqL.of h2]|J _ _ λF hF=>?_];have few: ~~~ss<=26:=U.length_eq▸jt λc hc=>iV b.2.2.sign c hc
   have one:∀z∈ss,~~~z=1:=λz hz=>by
    have%[c,_|rfl]:=jA (U.mem_iff.mp hz);rfl
   refine bB (λj ts d a=>(∃o,d=[o,some (.str q.2.1)])/\ah H2 a/\a F<*ts/\ts=((ss.take j).map (lnS q.2.1))\3)
    %[%[none|rfl],ah.upd hF,aa|rfl] (λ_ _ _ a Y=>Y.2.1 _ _ h2) ?_ ?_
   .intro j ts d H4 hj %[%[o|rfl],C,ab|g];lk;refine%[_,_,ρ,by have:=iR b.2.1;lia,by rw[one _ (Yc hj)];decide|CK.mk hj ab (by rw[g,Z6,Z6,Yk];exact aA ⋯) %[%[_|ρ],ah.set C hF,aa|?_]];rw[g,X8,Zd,Zd,Z4 hj];rfl
   intro ts d H3 %[_,C,ac|g];rw[Zn (Zi _)]at g;lk;refine%[_,C _ _ (s2 _ _ B),_,ac,(by rw[g,Z6,Z6,Z6];exact ci ⋯)|k3 _ _ %[_,_,ρ,ah.set (p.trans (s2.trans C)) I,e++ss.map (lnS q.2.1),?_,?_|?_]]
   .rw[aa,g,Zd]
   .rw[X8,hq,flatMap_append];refine u.append ?_;show List.Perm _ ([q].flatMap lyr);rw[List.flatMap_singleton];exact U.map _
   .rw[Z9,Z6]
    lia
  .intro d a %[M,N,rfl,p,e,B,u|O];refine k2 _ _ ?_;lk;rw[m,Zn (Zi _)]at u;exact%[e,SqL.of B,by rw[u.length_eq];lia|λr ss v p' q'=>k r _ ss (p.trans (ah.upd v)) (p.free v) aa (p'.trans u) q']
def oH(T:Txt K mg):↥4 "ties_of_cuts" ["cuts"] kK:=by
 .exists T.bb,bT,bb,hr,%[l,cs,rfl,hl,a4,a5,h8|k];have ae: ~~~(cU cs)= ~~~cs:=Z6 _;refine%[_,%["KCH1SBCOR0eLJ2LJ3cDORG]SA3BeLJ4LJ5cDaql1AkAG~iA2A4BAG~iA2A5BA2BBDI1",bT.nd|hr]|?_]
  show aZ _ _ _ [!l,none,none,none,none,none] H;refine aj λD1 k1 _=>?_
  lk;refine%[Xd _|λL hL=>k1 _ _ (aj λD2 k2 _=>aw λag hK=>?_)];lk;refine%[%[_|SqL.of (ah.upd hL _ _ hl)]|hK _ _ (eG (λi B G=>∃o2 o3 I J,B=[!l,!L,o2,o3,I,J]/\ah H G/\∃ts:ZG,G L∣.lst (ts\0)/\aD G ts/\(∀t∈ts,z4 (cs.flatMap lyr) t.2)/\ ~~~ts<=26*i/\∀k,k∈ts\2↔k∈cL (cs.take i))
   %[none,none,none,none,ρ,ah.upd hL,[],aa,dA _,λt ht=>(nomatch ht),Xd _|λk=>Iff.rfl] (λi B G _ ⟨_,_,_,_,_,q,_⟩=>SqL.of (q _ _ hl)) ?_ ?_)]
  .intro i x B G M %[o2,o3,I,J,rfl,sm,ts,hm,U,Y,al|d];have hi:i< ~~~cs:=by rw[<-ae];exact(Xk M).1
   obtain⟨q,hq,rfl⟩:∃q,cs[i]?∣q/\x=V.ref q.1:=by
    unfold cU at M;rw[Zl,Z4 hi]at M;exact%[cs[i],Z4 hi|(Za M).symm]
   have g:=a4 q (Z8 hq);refine%[_,SqT.of (sm _ _ g.1),ρ,_,_,ρ,_,_,ρ,ρ|?_];refine az λD3 k3 _=>?_
   show tR _ _ _ _ [!l,!L,some (.str q.2.1),some (.str (Str.join nl q.2.2)),I,J] G;refine aw λag hK=>?_
   lk;have qm:=Z8 hq;refine%[q.2.2,ρ,g.2.2,a5 q qm|?_];intro l2 H2 ss s2 f2 h2 t2 few an all2;have a6:=iR g.2.1;have as:l2≠L:=λe=>by rw[e,hm]at f2;cases f2
   have a0: ~~~(ss\0)= ~~~ss:=Z6 _;refine%[l2,ρ,%[_|SqL.of h2]|hK _ _ (eG (xs:=ss\0) (λj B n=>∃I J,B=[!l,!L,some (.str q.2.1),some (.str (Str.join nl q.2.2)),I,J]/\ah H n/\n l2∣.lst (ss\0)/\aD n ss/\∃c:ZG,n L∣.lst (c\0)/\aD n c/\(∀t∈c,z4 (cs.flatMap lyr) t.2)/\ ~~~c<=26*i+j/\c\2=ts\2 ++((ss.take j)\2).map (kI q.2.1))
    %[_,_,ρ,sm.trans s2,h2,t2,ts,s2 _ _ hm,ax U λb z e=>s2 _ _ e,Y,⋯|(Zx _).symm] (λj B n _ ⟨_,_,_,_,q,_⟩=>SqL.of q) ?_ ?_)]
   .intro j x B n M %[I,J,rfl,ab,a1,r,c,C,u,ac,v|m];have hj:j< ~~~ss:=a0▸(Xk M).1;rw[Zl,Z4 hj]at M;obtain rfl:x=V.ref ss[j].1:=(Za M).symm;have N:=Yc hj;have%[a,b,a2,la|lb]:=an _ N;have O:=(r _ N).2;rw[a2]at O;refine%[_,SqT.of O,ρ,_,_,ρ,_,_,ρ,ρ|az λD4 k4 _=>?_];show jH _ _ [!l,!L,some (.str q.2.1),some (.str (Str.join nl q.2.2)),some (.str (sgn a)),some (.str (sgn b))] n;lk;refine%[tyL (SqL.of C),q.2.1,sgn a,ρ,⋯,(show 1<=100 by decide)|?_];refine%[q.2.1,sgn b,ρ,⋯,(show 1<=100 by decide)|?_];refine%[#[3]|λp hp=>?_];have sp:=ah.upd (o:= .tup [V.str (lnS q.2.1 (sgn a)),V.str (lnS q.2.1 (sgn b)),V.str q.2.1]) hp;have gp:upd n p (.tup [V.str (lnS q.2.1 (sgn a)),V.str (lnS q.2.1 (sgn b)),V.str q.2.1]) p=_:=aa
    generalize upd n p _=H4 at sp gp
    have a3:=sp _ _ C;have y:∀b z,H4 b&&&z->upd H4 L (.lst (c\0 ++[V.ref p])) b&&&z:=λb z e=>by
     have:b≠L:=λe2=>by rw[e2,a3]at e;cases e
     rw[ak this];exact e
    refine%[_,a3,by rw[Z6];exact Nat.lt_of_le_of_lt (show ~~~c<=10000 by lia) (!1)|k4 _ _ %[_,_,ρ,ah.set (ab.trans sp) hL,(ak as)▸sp _ _ a1,ax (ax r λb z e=>sp _ _ e) y,c++[(p,[lnS q.2.1 (sgn a),lnS q.2.1 (sgn b),q.2.1])],?_,?_,?_,?_|?_]]
    .rw[aa,Zd];rfl
    .exact ax (cY (ax u λb z e=>sp _ _ e) ∅ gp) y
    .intro t ht;rcases Xl ht with z|z
     .exact ac t z
     .rw[Xm z];exact%[%[_,_,_,ρ,mem_flatMap.mpr %[q,qm|iZ la]|mem_flatMap.mpr %[q,qm|iZ lb]]|Gz (lq g.2.1 (wW g.2.2 la)) (lq g.2.1 (wW g.2.2 lb)) (vb g.2.1)]
    .rw[Z9,Yj];lia
    .rw[Zd,m,Ze,X8,Z4 hj,Zd,Zd];show _++(_++[_])=_++(_++[kI q.2.1 ss[j].2]);rw[a2];rfl
   .intro B n %[I,J,rfl,ab,a1,r,c,C,u,ac,v|m];rw[a0]at v m;rw[Zn (Zi _)]at m;refine k3 _ _ %[_,_,_,_,rfl,ab,c,C,u,ac,⋯|λk=>?_];rw[m,kJ hq,Yr,Yr,d,mem_map,mem_map];exact or_congr Iff.rfl (exists_congr λz=>and_congr_left λ_=>all2 z)
  .intro B G %[o2,o3,I,J,rfl,sm,ts,hm,U,Y,al|d];refine k2 _ _ ?_;lk;rw[ae]at al d;rw[Zn (Zi _)]at d;exact k L G ts sm hL hm U Y ⋯ d
def kM(T:Txt K mg):↥1 "ties_of_sayings" ["sayings"] kL:=by
 .exists T.bc,cq,al,hr,%[l,N,qs,rfl,hl,ab,r,an|k];have G: ~~~(qs\0)= ~~~qs:=Z6 _;refine%[_,%["KCH1SBCO~QA0BeLJ2LJ3cDPMdV3EXDaql1AkAV3EAV3EA~,~BX~B~g2~.BBQDI1"|cq.nd]|?_]
  show aZ _ _ _ [!l,none,none,none] H;refine aj λD1 k1 _=>?_
  lk;refine%[Xd _|λL O=>k1 _ _ (aj λD2 k2 _=>aw λae hK=>?_)];lk;refine%[_,SqL.of (ah.upd O _ _ hl)|hK _ _ (iD (λi U n=>∃o2 o3,U=[!l,!L,o2,o3]/\ah H n/\∃ts:ZG,n L∣.lst (ts\0)/\aD n ts/\(∀t∈ts,z4 N t.2)/\ ~~~ts<=i/\ts\2=cN qs i)
   %[none,none,ρ,ah.upd O,[],aa,dA _,λt ht=>(nomatch ht),Xd _|ρ] (λi U n _ ⟨_,_,_,q,_⟩=>SqL.of (q _ _ hl)) ?_ ?_)]
  .intro i x TT U n hx %[o2,o3,rfl,sm,ts,hm,u,g,v|d] hT;have hi:i< ~~~qs:=by rw[<-G];exact(Xk hx).1
   obtain⟨q,Y,rfl⟩:∃q,qs[i]?∣q/\x=V.ref q.1:=by
    rw[Zl,Z4 hi]at hx;exact%[qs[i],Z4 hi|(Za hx).symm]
   have s0:=ah.upd (o:= .tup [.int i,.ref q.1]) hT;have j:ah H (upd n TT (.tup [.int i,.ref q.1])):=sm.trans s0;have I:upd n TT (.tup [.int i,.ref q.1]) TT&&&[.int i,.ref q.1]:=aa;have m:=s0 _ _ hm;have c:=ax u λb z e=>s0 _ _ e
   generalize upd n TT (.tup [.int i,.ref q.1])=HT at j I m c
   have J:=ab q (Z8 Y);refine%[_,SqT.of I,ρ,_,_,ρ,_,_,ρ,ρ|?_];show iu _ _ _ _ [!l,!L,some (.int i),some (.ref q.1)] HT;refine az λD4 k4 _=>?_
   lk;have st:=SqT.of (K:=K) (j _ _ J.1);have ag: ~~~(Str.ofString (toString (i:Int)))<=21:=by
    have e:=PySem.int_text_length_le10 (a:=(i:Int)) (k:=20) (!1) (by have:(i:Int).natAbs=i:=rfl;lia);rw[PySem.ofString_length];lia
   have e1:(Str.empty++Str.ofString "#").length=1:=!0
   have ea:∀a b:Str,~~~(a++b)= ~~~a+ ~~~b:=λa b=>size_append
   have add:∀a b:Str,a∈N->b∈N->fH i q.2∣[a,b,tz i]->∀p,HT p=none->∃x,upd HT p (.tup [.str a,.str b,V.str (Str.empty++Str.ofString "#"++Str.ofString (toString (i:Int)))]) L<*x/\ ~~~x<sizeLine/\D4.nx [!l,!L,some (.int i),some (.ref q.1)] (upd (upd HT p (.tup [.str a,.str b,V.str (Str.empty++Str.ofString "#"++Str.ofString (toString (i:Int)))])) L (.lst (x++[V.ref p]))):=by
    intro a b ma mb ac p hp;have tn:=ef Y;rw[ac,<-d]at tn;unfold tz at tn
    generalize hz:Str.empty++Str.ofString "#"++Str.ofString (toString (i:Int))=z at tn ⊢
    have sp:=ah.upd (o:= .tup [V.str a,V.str b,V.str z]) hp;have gp:upd HT p (.tup [V.str a,V.str b,V.str z]) p=_:=aa
    generalize upd HT p (.tup [V.str a,V.str b,V.str z])=H4 at sp gp
    have M:=sp _ _ m;have B:∀b z,H4 b&&&z->upd H4 L (.lst (ts\0 ++[V.ref p])) b&&&z:=λb z e=>by
     have:b≠L:=λe2=>by rw[e2,M]at e;cases e
     rw[ak this];exact e
    refine%[_,M,by rw[Z6];exact aA ⋯|k4 _ _ %[_,_,ρ,ah.set (j.trans sp) O,ts++[(p,[a,b,z])],?_,?_,?_,?_|?_]]
    .rw[aa,Zd];rfl
    .exact ax (cY (ax c λb z e=>sp _ _ e) ∅ gp) B
    .intro t ht;rcases Xl ht with z|z
     .exact g t z
     .rw[Xm z];exact%[%[_,_,_,ρ,ma|mb]|Gz (r a ma) (r b mb) (hz▸Ej i ⋯)]
    .rw[Z9,Yj];lia
    .rw[tn,Zd];rfl
   rcases J.2 with⟨wd,a,b,e,hw,ma,mb,_⟩|⟨wd,a,y,e,hw,_⟩
   .rw[e]at st;refine%[_,st,_,ρ,ρ|bC (λC=>?_) λC=>?_]
    .refine%[tyL (SqL.of m),_,st,_,ρ,_,st,_,ρ,ci ⋯,?_,ci (by rw[ea];lia),ci (by rw[ea];lia),#[3]|add a b ma mb (e▸if_pos (V.str.inj (Zo C)))];have:(i:Int).natAbs=i:=rfl
     lia
    .refine k4 _ _ %[_,_,rfl,j,ts,m,c,g,⋯|?_];rw[ef Y,e,show fH i [V.str wd,V.str a,V.str b]=none from if_neg λz=>C (Zf (by rw[z])),d];exact(Zx _).symm
   .rw[e]at st;refine%[_,st,_,ρ,ρ|?_];rw[if_neg (by rcases hw with rfl|rfl<;> decide)];refine k4 _ _ %[_,_,rfl,j,ts,m,c,g,⋯|?_];rw[ef Y,e,d];exact(Zx _).symm
  .intro U n %[o2,o3,rfl,sm,ts,hm,u,g,v|d];refine k2 _ _ ?_;lk;rw[G]at v d;exact k L n ts sm O hm u g v d
structure GrF (mg:ZC) (H:Hp) (g c2 c3 c4:Addr) (qs:ZN) (ls:ZB) (ts:ZG):Prop where
 at_:∃dx c1,H g∣.ins (cO mg "Ground") dx [("kept_cuts",.ref c1),("kept_sayings",.ref c2),("kept_layers",.ref c3),("kept_ties",.ref c4)]
 a2:H c2∣.lst (qs\0)
 a3:H c3<*ls\3
 a4:H c4∣.lst (ts\0)
 sa:cE H ls qs
 tu:aD H ts
def GrF.up(h:GrF mg H g a c3 c qs d ts)(s:ah H f):GrF mg f g a c3 c qs d ts:=by
 have%[i,c1|j]:=h.at_;exact%[%[i,c1|s _ _ j],s _ _ h.a2,s _ _ h.a3,s _ _ h.a4,h.sa.up s|ax h.tu λb z e=>s _ _ e]
inductive ro (mg:ZC)
 | mk (g c2 c3 c4 qs ls ts):vs=[.ref g]->GrF mg H g c2 c3 c4 qs ls ts->(∀l,H l=none->Q (.ref l) (upd H l (.lst (ls\3))))->ro mg vs H Q E0
inductive oI (mg:ZC)
 | mk (g c2 c3 c4 qs ls ts):vs=[.ref g]->GrF mg H g c2 c3 c4 qs ls ts->(∀l,H l=none->Q (.ref l) (upd H l (.lst (qs\0))))->oI mg vs H Q E0
inductive xV (mg:ZC)
 | mk (g c2 c3 c4 qs ls ts):vs=[.ref g]->GrF mg H g c2 c3 c4 qs ls ts->(∀l,H l=none->Q (.ref l) (upd H l (.lst (ts\0))))->xV mg vs H Q E0
inductive tD (mg:ZC)
 | mk (g l m dx cs qs):vs=[.ref g,.ref l,.ref m]->H g∣.ins (cO mg "Ground") dx []->H l<*cU cs->H m∣.lst (qs\0)->bP H cs->(cs.map λp=>p.2.1).Nodup->1<= ~~~cs-> ~~~cs<=3->(∀p∈cs,uT p.2.2)-> ~~~(cs.flatMap lyr)<=63->(∀ls,ls.Perm (cs.flatMap lyr)->cE H ls qs)-> ~~~qs<=40->(∀H' ls ts c2 c3 c4,(∀b o,b≠g->H b∣o->H' b∣o)->GrF mg H' g c2 c3 c4 qs ls ts->(∀t∈ts,z4 ls t.2)->(∀z∈ls,Sml z)->(∀k,k∈ts\2↔k∈cL cs\/k∈cN qs qs.length)-> ~~~ts<=150->ls.Perm (cs.flatMap lyr)->ls.Pairwise (λa b=>aM b a=false)->Q .non H')->tD mg vs H Q E0
def B8(T:Txt K mg):DO P w K mg base 6 "Ground" ["self","cuts","sayings"] (tD mg):=by
 .exists T.i_Ground,eW,bf,hr,%[g,l,m,c,cs,qs,rfl,M,hl,hm,i,an,h1,h8,as,a0,y,bl|k];refine%[_,%["KCaG]TA1BCH3G]UA1BCaG]VA2A3BC~S0|~EA1BC~S0|~EA2BC~S03D~S0u~/AF]WG]XA1BG]YA2BB",eW.nd|hr]|?_]
  show aZ _ _ _ [!g,!l,!m,none] H;refine aj λD1 k1 _=>?_
  lk;refine%[l,cs,ρ,hl,i,an,h1,⋯|λH1 s1=>k1 _ _ (aj λD2 k2 _=>?_)];lk;refine%[l,cs,ρ,s1 _ _ hl,i.up s1,h8,a0|λr H2 B s2 f2 h2 N q2=>k2 _ _ (aj λD3 k3 _=>?_)];have O:=s1.trans s2;lk;refine%[m,r,B,qs,ρ,O _ _ hm,h2,(y B N).up O,⋯|λH3 s3=>k3 _ _ (aj λD4 k4 _=>?_)];have n:=O.trans s3;have OC:=T.o_Ground.cls;have ac:∀z∈B,Sml z:=λz hz=>by
   have%[p,u|hz]:=mem_flatMap.mp (N.mem_iff.mp hz);exact Ei (i p u).2.1 (i p u).2.2 z hz
  have gl:l≠g:=λe=>by rw[e,M]at hl;cases hl
  have gm:m≠g:=λe=>by rw[e,M]at hm;cases hm
  have gr:r≠g:=λe=>by rw[e,s1 _ _ M]at f2;cases f2
  lk;refine%[_,.inl (SqL.of (n _ _ hl))|λc1 C=>%[_,_,_,ah.upd C _ _ (n _ _ M),OC,T.n_Ground_kept_cuts,(by show 0<1000;decide)|k4 _ _ (aj λD5 k5 _=>?_)]];have a1:c1≠g:=λe=>by rw[e,n _ _ M]at C;cases C
  have a2:=ah.upd (o:= .lst (cU cs)) C;have b4:∀b o,b≠g->H3 b∣o->upd (upd H3 c1 (.lst (cU cs))) g (.ins (cO mg "Ground") c (dD (!"kept_cuts") (V.ref c1) [])) b∣o:=λb o a e=>by rw[ak a];exact a2 _ _ e
  have g4:upd (upd H3 c1 (.lst (cU cs))) g (.ins (cO mg "Ground") c (dD (!"kept_cuts") (V.ref c1) [])) g∣.ins (cO mg "Ground") c [("kept_cuts",V.ref c1)]:=aa;have a4:upd (upd H3 c1 (.lst (cU cs))) g (.ins (cO mg "Ground") c (dD (!"kept_cuts") (V.ref c1) [])) c1<*cU cs:=by rw[ak a1];exact aa
  generalize upd (upd H3 c1 (.lst (cU cs))) g (.ins (cO mg "Ground") c (dD (!"kept_cuts") (V.ref c1) []))=H4 at b4 g4 a4
  have n4:∀b,H4 b=none->b≠g:=λb a e=>by rw[e,g4]at a;cases a
  lk;refine%[_,.inl (SqL.of (b4 _ _ gm (n _ _ hm)))|λd U=>%[_,_,_,ah.upd U _ _ g4,OC,T.n_Ground_kept_sayings,(by show 1<1000;decide)|k5 _ _ (aj λD6 k6 _=>?_)]];have Y:=n4 d U;have sc2:=ah.upd (o:= .lst (qs\0)) U;have b5:∀b o,b≠g->H4 b∣o->upd (upd H4 d (.lst (qs\0))) g (.ins (cO mg "Ground") c (dD (!"kept_sayings") (V.ref d) [("kept_cuts",V.ref c1)])) b∣o:=λb o a e=>(ak a)▸sc2 _ _ e
  have g5:upd (upd H4 d (.lst (qs\0))) g (.ins (cO mg "Ground") c (dD (!"kept_sayings") (V.ref d) [("kept_cuts",V.ref c1)])) g∣.ins (cO mg "Ground") c [("kept_cuts",V.ref c1),("kept_sayings",V.ref d)]:=by rw[aa];rfl
  have a5:upd (upd H4 d (.lst (qs\0))) g (.ins (cO mg "Ground") c (dD (!"kept_sayings") (V.ref d) [("kept_cuts",V.ref c1)])) d∣.lst (qs\0):=(ak Y)▸aa
  generalize upd (upd H4 d (.lst (qs\0))) g (.ins (cO mg "Ground") c (dD (!"kept_sayings") (V.ref d) [("kept_cuts",V.ref c1)]))=H5 at b5 g5 a5
  lk;refine%[_,_,_,g5,OC,T.n_Ground_kept_layers,(by show 2<1000;decide)|k6 _ _ (az λD7 k7 _=>?_)];have b6:∀b o,b≠g->H5 b∣o->upd H5 g (.ins (cO mg "Ground") c (dD (!"kept_layers") (V.ref r) [("kept_cuts",V.ref c1),("kept_sayings",V.ref d)])) b∣o:=λb o a e=>(ak a)▸e
  have g6:upd H5 g (.ins (cO mg "Ground") c (dD (!"kept_layers") (V.ref r) [("kept_cuts",V.ref c1),("kept_sayings",V.ref d)])) g∣.ins (cO mg "Ground") c [("kept_cuts",V.ref c1),("kept_sayings",V.ref d),("kept_layers",V.ref r)]:=by rw[aa];rfl
  generalize upd H5 g (.ins (cO mg "Ground") c (dD (!"kept_layers") (V.ref r) [("kept_cuts",V.ref c1),("kept_sayings",V.ref d)]))=H6 at b6 g6
  have ae:∀b o,b≠g->H3 b∣o->H6 b∣o:=λb o a e=>b6 b o a (b5 b o a (b4 b o a e))
  have v:∀b o,b≠g->H b∣o->H6 b∣o:=λb o a e=>ae b o a (n _ _ e)
  have ag:bP H6 cs:=λp u=>⟨v _ _ (λe=>by have:=(i p u).1;rw[e,M]at this;cases this) (i p u).1,(i p u).2⟩
  have j:cE H6 B qs:=λq hq=>⟨v _ _ (λe=>by have:=(y B N q hq).1;rw[e,M]at this;cases this) (y B N q hq).1,(y B N q hq).2⟩
  lk;refine%[l,cs,ρ,v _ _ gl hl,ag,as,h8|λt1 H7 ts s7 f7 h7 a3 ab bm a6=>?_];lk;refine%[m,B,qs,ρ,s7 _ _ (v _ _ gm hm),j.up s7,ac,⋯|λt2 H8 us s8 f8 bb bc al bt be=>?_];lk;have L:aD H8 (ts++us):=kC (ax a3 λb z e=>s8 _ _ e) bc;have g8:=s8 _ _ (s7 _ _ g6);refine%[_,s8 _ _ h7,_,bb,by rw[Z6,Z6,PySem.sizeLine_eq];lia|λp u=>%[ts++us,Zd▸SqL.of aa,ax L λb z e=>ah.upd u _ _ e,3,?_,!1,by rw[Z9];lia|λc4 ss G I=>%[_,_,_,ah.upd G _ _ (ah.upd u _ _ g8),OC,T.n_Ground_kept_ties,(by show 3<1000;decide)|k7 _ _ ?_]]]
  .intro t ht;rcases Xl ht with z|z
   .exact(ab t z).1.three
   .exact(al t z).1.three
  .have b9:∀b o,b≠g->H8 b∣o->upd (upd (upd H8 p (.lst (ts\0 ++us\0))) c4 (.lst (ss\0))) g (.ins (cO mg "Ground") c (dD (!"kept_ties") (V.ref c4) [("kept_cuts",V.ref c1),("kept_sayings",V.ref d),("kept_layers",V.ref r)])) b∣o:=λb o a e=>(ak a)▸((ah.upd (o:= .lst (ts\0 ++us\0)) u).trans (ah.upd (o:= .lst (ss\0)) G)) _ _ e
   have J:∀b o,b≠g->H6 b∣o->_:=λb o a e=>b9 b o a (s8 _ _ (s7 _ _ e))
   refine k _ B ss d r c4 (λb o a e=>J b o a (v b o a e)) %[%[c,c1|?_],?_,?_,?_,?_|?_] (λt ht=>?_) ac (λk=>by rw[(I.map _).mem_iff,Zd,Yr,a6,be]) (by rw[I.length_eq,Z9];lia) N q2
   .rw[aa];rfl
   .exact J _ _ Y (b6 _ _ Y a5)
   .exact J _ _ gr (ae _ _ gr (s3 _ _ h2))
   .rw[ak (λe=>by rw[e,ah.upd u _ _ g8]at G;cases G)];exact aa
   .exact λq hq=>⟨J _ _ (λe=>by have:=(j q hq).1;rw[e,g6]at this;cases this) (j q hq).1,(j q hq).2⟩
   .intro t ht;have:=L t (I.mem_iff.mp ht);exact%[this.1|b9 _ _ (λe=>by have q:=this.2;rw[e,g8]at q;cases q) this.2]
   .rcases Xl (I.mem_iff.mp ht)with z|z
    .exact%[(ab t z).1.mono λx=>N.mem_iff.mpr|(ab t z).2]
    .exact al t z
def dX(T:Txt K mg):zD P w K mg base 1 "Ground" "layers" ["self"] (ro mg):=by
 .exists T.m_Ground_layers,lh,b,m,%[g,c,c3,d,qs,e,ts,rfl,a|k];have%[n,c1|i]:=a.at_;refine%[_,%["KDI|~EA~j0B"|0]|?_];show fM _ _ [some _] H;lk;exact%[_,_,_,i,T.o_Ground.cls,T.n_Ground_kept_layers,_,ρ,_,ρ,_,.inl (SqL.of a.a3)|λl j=>k l j]
def lz(T:Txt K mg):zD P w K mg base 1 "Ground" "sayings" ["self"] (oI mg):=by
 .exists T.m_Ground_sayings,kq,b,m,%[g,c,c3,d,qs,e,ts,rfl,a|k];have%[n,c1|i]:=a.at_;refine%[_,%["KDI|~EA~j0B"|0]|?_];show fM _ _ [some _] H;lk;exact%[_,_,_,i,T.o_Ground.cls,T.n_Ground_kept_sayings,_,ρ,_,ρ,_,.inl (SqL.of a.a2)|λl j=>k l j]
def pS(T:Txt K mg):zD P w K mg base 1 "Ground" "ties" ["self"] (xV mg):=by
 .exists T.m_Ground_ties,oi,b,m,%[g,c,c3,d,qs,e,ts,rfl,a|k];have%[n,c1|i]:=a.at_;refine%[_,%["KDI|~EA~j0B"|0]|?_];show fM _ _ [some _] H;lk;exact%[_,_,_,i,T.o_Ground.cls,T.n_Ground_kept_ties,_,ρ,_,ρ,_,.inl (SqL.of a.a4)|λl j=>k l j]
def xW{r a w:Int}(d:0<=r)(f:r<16)(b:0<=a)(c:a<16)(e:ltr r w=ltr a w):r=a:=by
 unfold ltr mlt at e
 split at e
 .lia
 .split at e
  .lia
  .split at e<;> lia
def rA(n:Str):Str.empty++n=n:=jT (by show(([].toArray) ++n.cps).toList=_;simp)
def i4(n z:Str):n++Str.ofString "."++z=lnS n z:=by unfold lnS;rw[rA]
def tE{n:Str}{c a:Nat}(e:lnS n (sgn c)=lnS n (sgn a)):c=a:=by
 have:=congrArg (λz:Str=>z.cps.toList) e;have:((Str.empty++n++Str.ofString ".").cps++ ([c].toArray)).toList=((Str.empty++n++Str.ofString ".").cps++ ([a].toArray)).toList:=this;simpa using this
abbrev wX(rows:ZB)(c:Nat):Bool:=rows.any λz=>decide (c∈z.cps.toList)
abbrev jB(nm:Str)(w:Int)(rows:ZB)(n:Nat):List (Str×Int):=((List.range n).filter λr:Nat=>wX rows (ltr r w)).map λr:Nat=>(lnS nm (sgn (ltr r w)),(r:Int))
abbrev rkD(rs:List (Str×Int)):List (Key×V):=rs.map λp=>(Sum.inr p.1,V.int p.2)
def oJ(p:Str->Bool):∀rows:ZB,decide ((rows.filter p)\3≠[])=rows.any p
 |[]=>rfl
 | z::r=>by
   have:=oJ p r;cases c:p z
   .rw[Y3,c,Zw,c];exact this
   .rw[Y3,c,Zw,c];rfl
def xX(nm:Str)(w:Int)(rows:ZB)(n:Nat):jB nm w rows (n+1)=jB nm w rows n++if wX rows (ltr n w)=true then [(lnS nm (sgn (ltr n w)),(n:Int))]else []:=by
 unfold jB;rw[range_succ,Y2,Zd]
 congr 1
 by_cases c:wX rows (ltr n w)=true
 .rw[if_pos c,Y3,if_pos c];rfl
 .rw[if_neg c,Y3,if_neg c];rfl
def tF{z:Str}:∀{rs:List (Str×Int)},z∉rs\1->bx (rkD rs) (Sum.inr z)=none
 |[],_=>rfl
 | p::rs,h=>by
   rw[Yp,Yu,not_or]at h;rw[show rkD (p::rs)=(Sum.inr p.1,V.int p.2)::rkD rs from rfl,cQ (λq=>h.1 (Sum.inr.inj q).symm)];exact tF h.2
def GA{nm:Str}{w:Int}{rows:ZB}{n:Nat}(h:n<16):lnS nm (sgn (ltr n w))∉(jB nm w rows n)\1:=λa=>by
 have%[p,b|e]:=Xn a;have%[r,c|rfl]:=Xn b;have:=mem_range.mp (List.mem_filter.mp c).1;have:=xW ⋯ ⋯ ⋯ ⋯ (tE e)
 lia
inductive ve
 | mk (nm:Str) (w:Int) (l:Addr) (rows:ZB):vs=[.str nm,.int w,.ref l]->0<=w->w<=100-> ~~~nm<=8->H l<*rows\3-> ~~~rows<=100->(∀d H',ah H H'->H d=none->H' d∣.dK (rkD (jB nm w rows 16))->Q (.ref d) H')->ve vs H Q E0
def vf(T:Txt K mg):↥2 "_law_ranks" ["_law_name","_law_way","_law_rows"] ve:=by
 .exists T.bi,d9,ab,I,%[nm,w,l,rows,rfl,w0,w1,nl,hl,rl|kk];refine%[_,%["KCH3pCO'AEBJ4C(5ijG~vA4A1BDPM~Fhb?1R2W0?2xM~ON100SBDn43FzFz0XN5QDI3",d9.nd,↑(["_law_row","_law_letter_here"],[(1,5)]),↑["_law_row","_law_letter_here"]|I]|?_]
  show aZ _ _ _ [-nm,some (.int w),!l,none,none,none] H;refine aj λD1 k1 _=>?_
  lk;refine λd J=>k1 _ _ (aj λD2 k2 _=>aw λm L=>?_)
  lk;refine%[!1,!1|L _ _ (cW (λi g U=>∃M v,g=[-nm,some (.int w),!l,!d,M,v]/\ah H U/\U d∣.dK (rkD (jB nm w rows i))) %[_,_,ρ,ah.upd J|aa] ?_ ?_)]
  .intro i g y hi %[M,v,rfl,B|j];show aZ _ _ _ [-nm,some (.int w),!l,!d,some (.int (0+i)),v] y;rw[Int.zero_add];refine aj λD3 k3 _=>?_
   lk;refine%[i,w,ρ,⋯,⋯,w0,w1|λH2 Y=>k3 _ _ (az λD4 k4 _=>?_)];lk;refine aE λm L=>?_
   lk;have n:=Y _ _ (B _ _ hl);refine%[%[_|SqL.of n]|L _ _ λF hF=>?_];refine bB (λq ts g C=>(∃o,g=[o,some (.str (sgn (ltr i w)))])/\ah H2 C/\C F<*ts/\ts=((rows.take q).filter λz=>decide (ltr i w∈z.cps.toList))\3)
    %[%[none|rfl],ah.upd hF,aa|rfl] (λ_ _ _ H4 N=>N.2.1 _ _ n) ?_ ?_
   .intro q ts g H4 O %[%[o|rfl],G,a|r];lk;rw[show(!(Builtin.Str.occurrences rows[q] (sgn (ltr i w)) 0 rows[q].length 1).isEmpty)=decide (ltr i w∈rows[q].cps.toList)from sj _ _];have tk:∀b,decide (ltr i w∈rows[q].cps.toList)=b->((rows.take (q+1)).filter λz=>decide (ltr i w∈z.cps.toList))\3=ts++if b=true then [V.str rows[q]]else []:=λb hb=>by
     rw[r,X8,Z4 O,Y2,Zd]
     congr 1
     show List.map V.str (List.filter _ [rows[q]])=_;rw[Y3,hb];cases b<;> rfl
    refine bC (λc=>CK.mk O a (by rw[r,Z6];exact aA (Yf (Yh _ _) (by rw[Yk];lia))) %[%[_|rfl],ah.set G hF,aa|?_]) λc=>CN.mk O %[%[_|rfl],G,a|?_]
    .rw[tk _ c];rfl
    .rw[tk false ↑c];simp
   .intro ts g C %[_,G,a|r];rw[Xb]at r;have e:decide (ts≠[])=wX rows (ltr i w):=by
     rw[r];exact oJ _ rows
    refine%[Xd _|λp hp=>%[F,ρ,ts,ah.upd hp _ _ a,aa|?_]];rw[e,i4];have s4:ah y (upd C p (.lst [])):=(Y.trans G).trans (ah.upd hp);have u:=s4 _ _ j;have sH:=B.trans s4;refine bC (λc=>?_) λc=>?_
    .have:=xX nm w rows i;rw[if_pos c]at this;refine%[by rw[PySem.sizeLine_eq];show ~~~nm+1<=_;lia,by rw[PySem.sizeLine_eq,Str.length_append];show ~~~nm+1+1<=_;lia,_,eI.k (k:=Sum.inr (lnS nm (sgn (ltr i w)))) u (by unfold rkD jB;rw[Z6,Z6];exact aA (Yf (Yh _ _) (by rw[Yi];lia)))|k4 _ _ %[_,_,ρ,ah.set sH J|?_]];rw[aa,dq _ (tF (GA hi)),this];unfold rkD;rw[Zd];rfl
    .refine k4 _ _ %[_,_,rfl,sH|?_];rw[u,xX,if_neg c,Zx]
  .intro g y %[M,v,rfl,B|j];refine k2 _ _ ?_;lk;exact kk d y B J j
abbrev pT(c:Int):Str:=if c%3=0 then Str.ofString "pit" else if c%3=1 then Str.ofString "a" else Str.ofString "zone"
abbrev nmN(c1 a:Int)(k:Nat):Str:=pT c1++sgn (97+((a+9*k)%26).toNat)
def GB{c:Int}:eN (97+(c%26).toNat)=true:=by
 have all:∀i:Fin 26,eN (97+i.1)=true:=!0
 exact all %[(c%26).toNat|⋯]
def B9(c1 a:Int)(k:Nat):fo (nmN c1 a k)=true:=by
 have p:∀z:Str,~~~z<=7->z.cps.toList.all eN=true->fo (z++sgn (97+((a+9*k)%26).toNat))=true:=λz d b=>by
  have c: ~~~(z++sgn (97+((a+9*k)%26).toNat))= ~~~z+1:=Str.length_append _ _;unfold fo;rw[c,show(z++sgn (97+((a+9*k)%26).toNat)).cps.toList=z.cps.toList++[97+((a+9*k)%26).toNat] by show(z.cps++ ([_].toArray)).toList=_;simp,List.all_append,b];simp only[Zv,decide_eq_true_eq];exact%[%[⋯|⋯],True.intro|by rw[all_cons,GB];rfl]
 unfold nmN pT
 split
 .exact p _ (!0) (!0)
 .split
  .exact p _ (!0) (!0)
  .exact p _ (!0) (!0)
def xY{c1 a:Int}{k b:Nat}(h:k<3)(h':b<3)(e:nmN c1 a k=nmN c1 a b):k=b:=by
 have e:((pT c1).cps++ ([97+((a+9*k)%26).toNat].toArray)).toList=((pT c1).cps++ ([97+((a+9*b)%26).toNat].toArray)).toList:=congrArg (λz:Str=>z.cps.toList) e;have:97+((a+9*k)%26).toNat=97+((a+9*b)%26).toNat:=↑e
 lia
def vg{n a:Str}{c b:Nat}(e:lnS n (sgn c)=lnS a (sgn b)):n=a:=by
 rw[<-i4,<-i4]at e;have e:(n.cps++ ([46].toArray) ++ ([c].toArray)).toList=(a.cps++ ([46].toArray) ++ ([b].toArray)).toList:=congrArg (λz:Str=>z.cps.toList) e;have e:n.cps.toList++[46,c]=a.cps.toList++[46,b]:=↑e
 exact jT (List.append_inj_left' e rfl)
structure vh (cs:ZH) (rs:List (Str×Int)):Prop where
 dr:∀p∈cs,∃w cols hi,fj w cols hi/\p.2.2=bq cols hi
 rk:∀q∈rs,q.1∈cs.flatMap lyr/\0<=q.2/\q.2<16
 nd:(rs\1).Nodup
 len: ~~~rs<=16* ~~~cs
 ne:cs≠[]->rs≠[]
def vm:∀{more rs:List (Str×Int)},((rs++more)\1).Nodup->gu (rkD rs) (rkD more)=rkD (rs++more)
 |[],rs,_=>by rw[Zx];rfl
 | p::more,rs,h=>by
   have e:rs++p::more=(rs++[p]) ++more:=by simp
   have a:p.1∉rs\1:=by
    rw[Zd,Yy]at h;exact λq=>h.2.2 _ q p.1 Zm rfl
   rw[e]at h ⊢;rw[<-vm h];show gu (cD (rkD rs) (Sum.inr p.1) (V.int p.2)) (rkD more)=_;rw[dq _ (tF a)];unfold rkD;rw[Zd];rfl
def Ca{p:Addr×Str×ZB}{z:Str}(h:z∈lyr p):∃c,z=lnS p.2.1 (sgn c):=by
 have%[y,a|rfl]:=Xn h;have%[c,_|rfl]:=Xn (aP.mp a);exact%[c|ρ]
def oK{nm:Str}{w:Int}{rows:ZB}{n:Nat}{q:Str×Int}:q∈jB nm w rows n↔∃r:Nat,r<n/\wX rows (ltr r w)=true/\q=(lnS nm (sgn (ltr r w)),(r:Int)):=by
 unfold jB;rw[mem_map];simp only[List.mem_filter,mem_range];exact%[λ⟨r,⟨a,b⟩,e⟩=>%[r,a,b|e.symm]|λ⟨r,a,b,e⟩=>%[r,%[a|b]|e.symm]]
def vo{rows:ZB}{c:Nat}(h:c≠46):wX rows c=true↔Let rows c:=by
 unfold wX Let;rw[any_eq_true];exact%[λ⟨z,a,b⟩=>%[h,z,a|Zo b]|λ⟨_,z,a,b⟩=>%[z,a|Zf b]]
def vh.snoc{cs:ZH}{rs:List (Str×Int)}(h:vh cs rs){a:Addr}{nm:Str}{w:Int}{b:List (List Nat)}{hi:Nat}(d:fj w b hi)(fr:nm∉cs.map (·.2.1)):vh (cs++[(a,nm,bq b hi)]) (rs++jB nm w (bq b hi) 16):=by
 refine%[λp g=>?_,λq f=>?_,?_,?_|λ_=>?_]
 .rcases Xl g with g|g
  .exact h.dr p g
  .rw[Xm g];exact%[w,b,hi,d|ρ]
 .rw[flatMap_append,Yr];rcases Xl f with f|f
  .exact%[.inl (h.rk q f).1|(h.rk q f).2]
  .have%[r,m,o|rfl]:=oK.mp f;exact%[.inr (mem_flatMap.mpr %[_,List.mem_singleton_self _|iZ (p:=(a,nm,bq b hi)) ((vo (ti _ _)).mp o)]),by show(0:Int)<=(r:Int);lia|by show(r:Int)<16;lia]
 .rw[Zd,Yy];refine%[h.nd,?_|λx i y j e=>?_]
  .unfold jB;rw[Yq,Yz,X6];refine Xf (λ{x y} i j n e=>n ?_) (nodup_iff_pairwise_ne.mp (nodup_range.filter _));have s:=mem_range.mp (List.mem_filter.mp i).1;have B:=mem_range.mp (List.mem_filter.mp j).1;have:=xW ⋯ ⋯ ⋯ ⋯ (tE e)
   lia
  .have%[p,g|rfl]:=Xn i;have%[q,f|rfl]:=Xn j;have%[c,u|v]:=mem_flatMap.mp (h.rk p g).1;have%[l|z]:=Ca v;have%[r,_,_|rfl]:=oK.mp f;exact fr (Xo %[c,u|vg (z.symm.trans e)])
 .rw[Z9,Z9,Yj];have s:=h.len;have: ~~~(jB nm w (bq b hi) 16)<=16:=by
   unfold jB;rw[Z6];exact Yf (Yh _ _) (by rw[Yi];lia)
  lia
 .have%[r,A,m|l]:=d.ex;have%[r|rfl]:=Xg A;intro e;have:(lnS nm (sgn (ltr r w)),(r:Int))∈rs++jB nm w (bq b hi) 16:=mem_append.mpr (.inr (oK.mpr %[r,⋯,(vo (ti _ _)).mpr l|rfl]));rw[e]at this;exact nomatch this
inductive xZ (K:ZA)
 | mk (a:Addr) (ns:ZL):vs=[.ref a]->SqL K H a (ns\4)->(∀(t l1 l2:Addr) H' (cs:ZH) (rs:List (Str×Int)),ah H H'->H' t<*[.ref l1,.ref l2]->H l1=none->H' l1<*cU cs->H' l2∣.dK (rkD rs)->1<= ~~~cs-> ~~~cs<=3->bP H' cs->(cs.map (·.2.1)).Nodup->vh cs rs->Q (.ref t) H')->xZ K vs H Q E0
def wY(T:Txt K mg):↥3 "_law_cuts" ["_law_script"] (xZ K):=by
 .exists T.bj,cS,bl,hr,%[a,ns,rfl,hs|kk];refine%[_,%["KCH1G~kA0AEAEAEBCH2SBCH3pCO'AFYEFZU1EEBJ4CH5FzUSAXAXAXBFZU1EE^XFZFYU1EFwE4ECH6G]ZAG~kA0AFYE4AEAEBAU1FYE4BCaql2AkA5A~Z~aXA6BBBDa~:~;3AG]aA5AU1FYE4A6BBDISA2A3B",cS.nd|hr]|?_]
  show aZ _ _ _ [!a,none,none,none,none,none,none] H;refine aj λD1 k1 _=>?_
  lk;refine%[a,ns,1,26,6,ρ,hs,!1,!1,!1,!1,!1,!1|λhd H1 xs s1 _ M hx hb=>k1 _ _ (aj λD2 k2 _=>?_)];have get:∀i:Int,0<=i->i<6->∃c,atI (xs\4) i∣V.int c/\0<=c/\c<26:=λi h0 h1=>by
   have%[c,e|hm]:=om xs h0 (by rw[hx];exact h1);exact%[c,e|hb c hm]
  have%[c0,g0,l0|u0]:=get 0 (!1) (!1);have%[c1,g1,l1|u1]:=get 1 (!1) (!1);have%[j,g2,l2|u2]:=get 2 (!1) (!1);lk;refine%[Xd _|λC hC=>k2 _ _ (aj λD3 k3 _=>?_)];have sC:=s1.trans (ah.upd (o:= .lst []) hC);lk;refine λD hD=>k3 _ _ (aj λD4 k4 _=>aw λbf hK=>?_)
  have sD:=ah.upd (o:= .dK []) hD;have ac:C≠D:=λe=>by rw[e,aa]at hD;cases hD
  have fC:=s1.free hC;have as:hd≠C:=λe=>by rw[e,hC]at M;cases M
  have fD:=sC.free hD;have ae:=sD _ _ (ah.upd (o:= .lst []) hC _ _ M);lk;obtain⟨n,en,n1,n3⟩:∃n:Nat,1+c0%3=n/\1<=n/\n<=3:=%[(1+c0%3).toNat,(by lia -verbose),(by lia -verbose)|(by lia -verbose)]
  refine%[_,SqL.of ae,_,g0,c0,ρ,!1|?_];rw[en];refine%[(by lia -verbose),(by lia -verbose)|hK _ _ (cW (λi σ B=>∃(o4 o5 o6:Option V) (cs:ZH) (rs:List (Str×Int)),σ=[!a,!hd,!C,!D,o4,o5,o6]/\ah H B/\B hd<*xs\4/\B C<*cU cs/\B D∣.dK (rkD rs)/\bP B cs/\vh cs rs/\cs.map (·.2.1)=(List.range i).map (nmN c1 j))
   %[_,_,_,[],[],ρ,sC.trans sD,ae,sD _ _ aa,aa,(λ_ h=>nomatch h),%[(λ_ h=>nomatch h),(λ_ h=>nomatch h),X1,Xd _|λh=>(h rfl).elim]|ρ] ?_ ?_)]
  .intro i σ B hi %[o4,o5,o6,cs,rs,rfl,sm,l,v,G,m,ok|u];show aZ _ _ _ [!a,!hd,!C,!D,some (.int (0+i)),o5,o6] B;rw[Int.zero_add];have i3:i<3:=by lia -verbose
   have%[cw,gw,lw|uw]:=get (3+i) (by lia -verbose) (by lia -verbose);refine aj λD5 k5 _=>?_
   lk;refine%[#[3]|λp hp=>?_];have sp:=ah.upd (o:= .lst [V.str (!"pit"),V.str (!"a"),V.str (!"zone")]) hp;refine%[_,SqL.of (sp _ _ l),_,g1,c1,ρ,!1,_,SqL.of aa,.str (pT c1),?_,_,SqL.of (sp _ _ l),_,g2,.inl %[!1|!1],j,ρ,!1,#[26],_,B3 (by lia -verbose) (by lia -verbose),_,ρ,?_|k5 _ _ (aj λD6 k6 _=>?_)]
   .unfold pT;rcases(show c1%3=0\/c1%3=1\/c1%3=2 by lia -verbose)with e|e|e<;> rw[e]<;> rfl
   .have: ~~~(pT c1)<=4:=by
     unfold pT
     split
     .decide +kernel
     .split<;> decide +kernel
    rw[PySem.sizeLine_eq];show(pT c1).length+1<=_
    lia -verbose
   have ag:fo (nmN c1 j i)=true:=B9 c1 j i;have a0:nmN c1 j i∉cs.map (·.2.1):=λh=>by
    rw[u]at h;have%[k,hk|e]:=Xn h;have:=mem_range.mp hk;have:=xY (by lia -verbose) i3 e
    lia -verbose
   have al:∀q:Addr,∀r,(cs++[(q,nmN c1 j i,r)]).map (λp:Addr×Str×ZB=>p.2.1)=(List.range (i+1)).map (nmN c1 j):=λq r=>by rw[Zd,u,range_succ,Zd];rfl
   have a1:pT c1++(⟨([97+((j+9*(i:Int))%26).toNat].toArray)⟩:Str)=nmN c1 j i:=rfl;rw[a1];lk;have bm:=hp
   generalize upd B p (.lst [V.str (!"pit"),V.str (!"a"),V.str (!"zone")])=H2 at sp
   refine%[a,ns,2+i,6,30,ρ,(sm.trans sp).seq hs,(by lia -verbose),(by lia -verbose),!1,!1,!1,!1|λds H3 ys s3 _ a2 hy a3=>%[_,SqL.of ((sp.trans s3) _ _ l),_,gw,ds,ys,cw,ρ,SqL.of a2,hy,a3,lw,(by lia -verbose)|λR H4 g I s4 fR hR dr=>k6 _ _ (aj λD7 k7 _=>?_)]];have s5:=sp.trans (s3.trans s4);have N:=s5 _ _ v;lk;have cl: ~~~cs=i:=by have:=congrArg List.length u;rwa[Z6,Z6,Yi]at this
   refine%[tyL (SqL.of N),bq g I,SqL.of hR,?_,#[2]|λt ht=>?_]
   .have:=dr.cut.sum;have:=dr.cut.high;rw[show(!"\n").length=1 from rfl]
    lia -verbose
   have ej:Txt.join (!"\n") (bq g I)=Str.join nl (bq g I):=StrLaws.glued_eq_join _ _;rw[ej];have st:=ah.upd (o:= .tup [V.str (nmN c1 j i),V.str (Str.join nl (bq g I))]) ht;have gt:upd H4 t (.tup [V.str (nmN c1 j i),V.str (Str.join nl (bq g I))]) t=_:=aa
   generalize upd H4 t (.tup [V.str (nmN c1 j i),V.str (Str.join nl (bq g I))])=H5 at st gt
   have a4:t≠C:=λe=>by rw[e,N]at ht;cases ht
   refine%[_,st _ _ N,by unfold cU;rw[Z6,cl];exact aA (by lia -verbose)|k7 _ _ (az λD8 k8 _=>?_)];have O:∀b o,b≠C->B b∣o->upd H5 C (.lst (cU cs++[V.ref t])) b∣o:=λb o n e=>by rw[ak n];exact st _ _ (s5 _ _ e)
   have a5:upd H5 C (.lst (cU cs++[V.ref t])) C<*cU (cs++[(t,nmN c1 j i,bq g I)]):=by rw[aa];unfold cU;rw[Zd];rfl
   lk;have a6:R≠C:=λe=>by rw[e,(sp.trans s3) _ _ v]at fR;cases fR
   have sC:ah H (upd H5 C (.lst (cU cs++[V.ref t]))):=ah.set (sm.trans (s5.trans st)) fC;have J:=O _ _ (Ne.symm ac) G;have U:bP (upd H5 C (.lst (cU cs++[V.ref t]))) (cs++[(t,nmN c1 j i,bq g I)]):=λq L=>by
    rcases Xl L with z|z
    .refine%[O _ _ (λe=>?_) (m q z).1|(m q z).2];have:=(m q z).1;rw[e,v]at this;cases this
    .rw[Xm z];exact%[by rw[ak a4];exact gt,ag|dr.cut]
   have Y:=ok.snoc (a:=t) dr a0;have an:=O _ _ as l;refine%[tyD J,_,SqL.of an,_,gw,_,_,_,_,ρ,lw,(by lia -verbose),iR ag,(by rw[ak a6];exact st _ _ hR),?_|λd H7 s7 fd bb=>?_]
   .have:=dr.cut.high
    lia -verbose
   have bc:D≠d:=λe=>by rw[<-e,J]at fd;cases fd
   have be:=s7 _ _ J;have ab:∀b o,b≠D->upd H5 C (.lst (cU cs++[V.ref t])) b∣o->upd H7 D (.dK (gu (rkD rs) (rkD (jB (nmN c1 j i) cw (bq g I) 16)))) b∣o:=λb o n e=>by rw[ak n];exact s7 _ _ e
   refine%[d,ρ,_,_,bc,be,bb,?_|k8 _ _ %[_,_,_,_,_,ρ,ah.set (sC.trans s7) fD,ab _ _ (λe=>by rw[e,G]at l;cases l) an,ab _ _ ac a5,by rw[aa,vm Y.nd],λq L=>?_,Y|al _ _]]
   .have:=Y.len;rw[Z9]at this;unfold rkD;rw[Z6,Z6];rw[Z9,Yj,cl]at this;exact Yd (aA (by lia -verbose))
   .refine%[ab _ _ (λe=>?_) (U q L).1|(U q L).2];have:=(U q L).1;rw[e,J]at this;cases this
  .intro σ B %[o4,o5,o6,cs,rs,rfl,sm,l,v,G,m,ok|u];refine k4 _ _ ?_;lk;refine%[#[2]|λp hp=>?_];have sp:=ah.upd (o:= .lst [V.ref C,V.ref D]) hp;have cl: ~~~cs=n:=by have:=congrArg List.length u;rw[Z6,Z6,Yi]at this;lia -verbose
   refine kk p C D _ cs rs (sm.trans sp) aa fC (sp _ _ v) (sp _ _ G) (by lia -verbose) (by lia -verbose) (λq L=>%[sp _ _ (m q L).1|(m q L).2]) ?_ ok;rw[u,Yz,X6];refine Xf (λ{x y} hx hy ne e=>ne (xY ?_ ?_ e)) (nodup_iff_pairwise_ne.mp nodup_range)
   .have:=mem_range.mp hx;lia -verbose
   .have:=mem_range.mp hy;lia -verbose
def tG{rs:List (Str×Int)}(nd:(rs\1).Nodup){z:Str}(h:z∈rs\1):∃r,(z,r)∈rs/\bx (rkD rs) (Sum.inr z)∣V.int r:=by
 induction rs with
 | nil=>exact nomatch h
 | cons p rs a=>
   rw[Yp,nodup_cons]at nd;by_cases e:p.1=z
   .subst e;exact%[p.2,Zm|dO rfl]
   .have%[r,b|c]:=a nd.2 ((mem_cons.mp h).resolve_left λq=>e q.symm);refine%[r,Zk _ b|?_];rw[show rkD (p::rs)=(Sum.inr p.1,V.int p.2)::rkD rs from rfl,cQ (λq=>e (Sum.inr.inj q))];exact c
inductive Cb
 | mk (one other:Str) (d:Addr) (rs:List (Str×Int)):vs=[.str one,.str other,.ref d]->H d∣.dK (rkD rs)->(rs\1).Nodup->one∈rs\1->other∈rs\1->(∀(t:Addr) H' (w a b:Str),ah H H'->H t=none->H' t&&&[.str w,.str a,.str b]->(w="later"\/w="same")->((a=one/\b=other)\/(a=other/\b=one))->Q (.ref t) H')->Cb vs H Q E0
def z5(T:Txt K mg):↥1 "_law_tie" ["_law_one","_law_other","_law_ranks_here"] Cb:=by
 .exists T.bm,wS,m,g,%[one,c,d,rs,rfl,i,nd,n,o|q];have%[r,C|v1]:=tG nd n;have%[u,m2|v]:=tG nd o;have j:bN H d (.str one) (some (.int r)):=v1▸bN.k (k:=Sum.inr one) i;have l:bN H d (.str c) (some (.int u)):=v▸bN.k (k:=Sum.inr c) i;refine%[_,%["KCPM~LT20T21DIkAXA0A1BQCPM>T20T21DIkAXA1A0BQDIkAXA0A1B",0|g]|?_]
  show aZ _ _ _ [-one,-c,!d] H;have tup:∀(w a b:Str),(w="later"\/w="same")->((a=one/\b=c)\/(a=c/\b=one))->[V.str w,V.str a,V.str b].length<=sizeLine/\∀(p:Addr),H p=none->Q (.ref p) (upd H p (.tup [.str w,.str a,.str b])):=λw a b hw h=>%[#[3]|λp e=>q p _ w a b (ah.upd e) e aa hw h]
  refine aj λG k1 z=>?_
  lk;refine%[_,j,_,l,_,ρ,_,ρ|bC (λ_=>?_) λ_=>k1 _ _ (aj λI k2 B=>?_)]
  .have%[x|y]:=tup "later" one c (.inl rfl) (.inl %[rfl|rfl]);exact%[x|λp e=>z _ _ (y p e)]
  lk;refine%[_,j,_,l,_,ρ,_,ρ|bC (λ_=>?_) λ_=>k2 _ _ ?_]
  .have%[x|y]:=tup "later" c one (.inl rfl) (.inr %[rfl|rfl]);exact%[x|λp e=>B _ _ (y p e)]
  lk;exact tup "same" one c (.inr rfl) (.inl %[rfl|rfl])
inductive x4 (K:ZA)
 | mk (l d:Addr) (xs:ZL) (rs:List (Str×Int)) (torn wild:Bool):vs=[.ref l,.ref d,.bl torn,.bl wild]->H l<*xs\4-> ~~~xs=6->(∀x∈xs,0<=x/\x<211)->H d∣.dK (rkD rs)->(rs\1).Nodup->rs≠[]-> ~~~rs<=63->(∀q∈rs,0<=q.2/\q.2<16)->(∀(t:Addr) H' (xs:ZM),ah H H'->H' t&&&xs->md (rs\1) xs->Q (.ref t) H')->x4 K vs H Q E0
def wZ(T:Txt K mg):↥2 "_law_said" ["_law_digits_here","_law_ranks_here","_law_torn","_law_wild"] (x4 K):=by
 .exists T.bn,cm,bl,hr,%[l,d,xs,rs,m,r,rfl,hl,hx,hb,hd,nd,ne,rl,rb|kk];have get:∀i:Int,0<=i->i<6->∃c,atI (xs\4) i∣V.int c/\0<=c/\c<211:=λi h0 h1=>by
   have%[c,e|hm]:=om xs h0 ⋯;exact%[c,e|hb c hm]
  have%[c0,g0,l0|u0]:=get 0 (!1) (!1);have%[c1,g1,l1|u1]:=get 1 (!1) (!1);have%[c2,g2,l2|u2]:=get 2 (!1) (!1);have%[c3,g3,l3|u3]:=get 3 (!1) (!1);have%[c4,g4,l4|u4]:=get 4 (!1) (!1);refine%[_,%["KCH4u~lAN1BC(5ijU4FZU0EfgA4BCH6U4FZU0EfgA4BCPs:M~LFZU0EEE;MvN56CH7G]bAN5A6AN1BCPs:m2;MdFZU0EEEDIkAV7EAV7EAV7EBQDI7QCPMdFZU0EEEC~T8jib?1R4W0?2xs:MdTN20TN2N1;Mv0N10DPM~F8SBDIkAXAN5AU8FZU0EfgA8BBQQCH9FYF~REFwETN1N5F=U0EECPm3DH9F~RF]c9U0EEQCPMdFZU0EEEDIkAXAN5AUSA9A~UEB~X~YArdFZU0EEEBBQDIkAXAN5AUSAFY9EAEB~X~YArdFZU0EEEBB",cm.nd,↑(["_law_name","_law_one","_law_ranks_here"],[(1,5),(2,1)]),↑["_law_name","_law_one","_law_ranks_here"]|hr]|?_]
  show aZ _ _ _ [!l,!d,some (.bl m),some (.bl r),none,none,none,none,none,none] H;refine aj λD1 k1 _=>?_
  lk;refine%[_,hd,rs\1,by unfold rkD;rw[Yq,Yq];rfl,by rw[Z6];lia|λL ss hL pm _=>k1 _ _ (aj λD2 k2 _=>?_)];have s1:=ah.upd (o:= .lst (ss\3)) hL;have C:upd H L (.lst (ss\3)) L=_:=aa
  generalize upd H L (.lst (ss\3))=H1 at s1 C
  have G:=s1 _ _ hl;have ag:=s1 _ _ hd;have sl: ~~~ss= ~~~rs:=by rw[pm.length_eq,Z6]
  have be:0< ~~~rs:=length_pos_iff.mpr ne;have Y:∀{ys:ZB} (n:Int),0< ~~~ys->∃z,atI (ys\3) (n%(~~~ys:Int))∣V.str z/\z∈ys:=λ{ys} n M=>by
   have h0:=Int.emod_nonneg n (show(~~~ys:Int)≠0 by lia);have h1:=Int.emod_lt_of_pos n (show(0:Int)<(~~~ys:Int) by lia)
   generalize n%(~~~ys:Int)=i at h0 h1
   have%[j|rfl]:=Xg h0;have hj:j< ~~~ys:=by lia
   exact%[ys[j],cH (by simp[hj])|Yc hj]
  have%[one,e1|m1]:=Y (ys:=ss) c1 ⋯;have%[g,e2|m2]:=Y (ys:=ss) c2 ⋯;have N:=pm.mem_iff.mp m1;have al:=pm.mem_iff.mp m2;have as: ~~~(ss\3)= ~~~ss:=Z6 _;lk;refine%[_,SqL.of G,_,g1,~~~ss,.inl %[_,SqL.of C|as.symm],c1,ρ,⋯,_,SqL.of C,_,e1|k2 _ _ (aj λD3 k3 _=>?_)];lk;refine%[_,SqL.of G,_,g2,~~~ss,.inl %[_,SqL.of C|as.symm],c2,ρ,⋯,_,SqL.of C,_,e2|k3 _ _ (aj λD4 k4 r4=>?_)];lk;have%[r1,a2|v1]:=tG nd N;have bm:=rb _ a2;have dg:∀I,ah H1 I->bN I d (.str one) (some (.int r1)):=λI s2=>v1▸bN.k (k:=Sum.inr one) (s2 _ _ ag)
  suffices rest:∀oo,D4.nx [!l,!d,some (.bl m),some (.bl r),!L,-one,-g,oo,none,none] H1 by
   refine%[_,SqL.of G,_,g0,c0,ρ,!1|bC (λ_=>bC (λac=>?_) λ_=>rest _) λ_=>rest _];have ac:one≠g:=↑ac
   refine%[_,_,_,_,ρ,ag,nd,N,al|λt I w a b s2 ft B hw a0=>?_];have J:=s2 _ _ G;have ok:∀a b,((a=one/\b=g)\/(a=g/\b=one))->md (rs\1) [.str w,.str a,.str b]:=λa b h=>by
    rcases h with⟨rfl,rfl⟩|⟨rfl,rfl⟩
    .exact .inl %[w,_,_,rfl,hw,N,al|ac]
    .exact .inl %[w,_,_,rfl,hw,al,N|Ne.symm ac]
   have a3:=ok a b a0;have a4:=ok b a (a0.elim (λh=> .inr %[h.2|h.1]) λh=> .inl %[h.2|h.1]);have ab:D4.rt (.ref t) I:=r4 _ _ (kk t I _ (s1.trans s2) B a3);refine bC (λ_=>?_) λ_=>ab
   refine%[_,SqL.of J,_,g3,c3,ρ,!1|bC (λ_=>?_) λ_=>ab];refine%[t,ρ,_,SqT.of B,.str w,ρ,t,ρ,_,SqT.of B,.str b,ρ,t,ρ,_,SqT.of B,.str a,ρ,#[3]|λp M=>r4 _ _ (kk p _ _ (s1.trans (s2.trans (ah.upd M))) aa a4)]
  intro oo;refine k4 _ _ (aj λD5 k5 r5=>?_);lk
  suffices yr:∀o8 I,ah H1 I->D5.nx [!l,!d,some (.bl m),some (.bl r),!L,-one,-g,oo,o8,none] I by
   refine%[_,SqL.of G,_,g0,c0,ρ,!1|bC (λ_=>?_) λ_=>yr _ _ (ah.refl H1)];refine aE λbf hK=>?_
   lk;refine%[%[_|SqL.of C]|hK _ _ λF hF=>?_];refine bB (λq ts σ I=>(∃o,σ=[o,-one,!d])/\ah H1 I/\I F<*ts/\∃ys:ZB,ts=ys\3/\ ~~~ys<=q/\∀y∈ys,y∈rs\1/\y≠one)
    %[%[none|rfl],ah.upd hF,aa,[],rfl,Xd _|λ_ h=>nomatch h] (λ_ _ _ H4 a5=>a5.2.1 _ _ C) ?_ ?_
   .intro q ts σ H4 hq %[%[o|rfl],s3,O,ys,B,yl|U];have a1:=pm.mem_iff.mp (Yc hq);have%[rq,mq|vq]:=tG nd a1;have gq:bN H4 d (.str ss[q]) (some (.int rq)):=vq▸bN.k (k:=Sum.inr ss[q]) (s3 _ _ ag);lk;refine%[_,gq,_,dg _ s3,ρ|bC (λ_=>bC (λc=>?_) λ_=>?_) λ_=>?_]
    .have c:ss[q]≠one:=↑c
     exact CK.mk hq O (by rw[B,Z6];exact aA ⋯) ⟨%[_|rfl],ah.set s3 hF,aa,ys++[ss[q]],by rw[B,Zd];rfl,by rw[Z9];exact X7 yl,λy hy=>by
      rcases Xl hy with z|z
      .exact U y z
      .rw[Xm z];exact%[a1|c]⟩
    .exact CN.mk hq %[%[_|rfl],s3,O,ys,B,⋯|U]
    .exact CN.mk hq %[%[_|rfl],s3,O,ys,B,⋯|U]
   .intro ts σ H3 %[_,s3,O,ys,B,yl|U];refine%[Xd _|λp M=>%[F,ρ,ts,ah.upd M _ _ O,aa|bC (λc=>?_) λ_=>?_]]
    .have a6:0< ~~~ys:=by
      cases ys with
      | nil=>exact absurd B (Zo c)
      | cons=>exact succ_pos _
     have%[z,ez|mz]:=Y (ys:=ys) c2 a6;have sp:=ah.upd (o:= .lst []) M;have an:=sp _ _ O;rw[B]at an;refine%[_,SqL.of ((s3.trans sp) _ _ G),_,g2,~~~ys,.inl %[_,SqL.of an|(Z6 _).symm],c2,ρ,⋯,F,ρ,_,SqL.of an,_,ez,#[3]|λt bb=>r5 _ _ (kk t _ _ (s1.trans ((s3.trans sp).trans (ah.upd bb))) aa (.inl %[_,_,_,ρ,.inr rfl,N,(U z mz).1|Ne.symm (U z mz).2]))]
    .exact yr _ _ (s3.trans (ah.upd M))
  intro o8 I s2;refine k5 _ _ (aj λD6 k6 _=>?_);lk;have J:=s2 _ _ G;have bc:=s1.trans s2;refine%[_,dg _ s2,_,ρ,.inl %[!1|!1],_,SqL.of J,_,g3,c3,ρ,%[!1|!1]|k6 _ _ (aj λD7 k7 _=>?_)];have yb: -900<=800-100*r1+c3/5/\800-100*r1+c3/5<=900:=by lia
  generalize 800-100*r1+c3/5=y at yb
  lk
  suffices ab:∀y:Int,-2000<=y->y<=2000->D7.nx [!l,!d,some (.bl m),some (.bl r),!L,-one,-g,oo,o8,some (.int y)] I from
   bC (λ_=>%[_,SqL.of J,_,g4,c4,rfl|ab _ ⋯ ⋯]) λ_=>ab _ ⋯ ⋯
  intro y y0 y1;refine k7 _ _ (aj λD8 k8 r8=>?_);have pk:∀(u v:Int) (b:Bool),atI [V.int u,V.int v] (if b=true then 1 else 0)∣V.int (if b=true then v else u):=λu v b=>by cases b<;> rfl
  have ae:∀(w:Str) (u:Int) (p:Addr) (H3:Hp),(w="since"\/w="by")-> -9999<=u->u<=9999->ah I H3->H3 p=none->Q (.ref p) (upd H3 p (.tup [.str w,.str one,.int u])):=λw u p H3 hw u0 u1 s3 M=>kk p _ _ (bc.trans (s3.trans (ah.upd M))) aa (.inr %[w,one,u,rfl,hw,N,u0|u1])
  lk;refine%[_,SqL.of J,_,g0,c0,ρ,!1|bC (λ_=>?_) λ_=>k8 _ _ ?_]
  .refine%[#[2]|λp M=>%[_,SqL.of (ah.upd M _ _ J),_,g4,c4,ρ,!1,_,SqL.of aa,_,pk _ _ _,#[3]|λt B=>r8 _ _ (ae _ _ t _ (.inl rfl) ?_ ?_ (ah.upd M) B)]]<;> split<;> lia
  .lk;refine%[#[2]|λp M=>%[_,SqL.of (ah.upd M _ _ J),_,g4,c4,ρ,!1,_,SqL.of aa,_,pk _ _ _,#[3]|λt B=>ae _ _ t _ (.inr rfl) ?_ ?_ (ah.upd M) B]]<;> split<;> lia
def gY{H:Hp}{M:Addr}{xs ys:ZM}(h:H M<*xs):∀b z,H b&&&z->upd H M (.lst ys) b&&&z:=λb z e=>by
 rw[ak (λa=>by rw[a,h]at e;cases e)];exact e
def md.sub{f g:ZB}{vs:ZM}(h:md f vs)(m:∀z∈f,z∈g):md g vs:=by
 rcases h with⟨w,a,b,e,hw,c,d,n⟩|⟨w,a,y,e,hw,c,d⟩
 .exact .inl %[w,a,b,e,hw,m a c,m b d|n]
 .exact .inr %[w,a,y,e,hw,m a c|d]
def x6:∀{cs:ZH},(∀p∈cs,∃w a hi,fj w a hi/\p.2.2=bq a hi)-> ~~~(cs.flatMap lyr)<=16* ~~~cs
 |[],_=>Zi _
 | q::cs,h=>by
   have j:=x6 (cs:=cs) λp b=>h p (Zk _ b)
   have%[w,a,hi,d|e]:=h q Zm;have:=_T.nodup_sub (bK ((cJ q.2.2).map sgn)) (m:=(List.range 16).map λr:Nat=>sgn (ltr r w)) λy f=>by
    have%[c,g|rfl]:=Xn (aP.mp f);have%[r,i,l|rfl]:=d.lets (e▸fV.mp g);exact Xo %[r.toNat,mem_range.mpr ⋯|by rw[Int.toNat_of_nonneg i]]
   rw[Z6,Yi]at this;rw[flatMap_cons,Z9,Zr,lyr,Z6]
   lia
structure GdOk (H:Hp) (cs:ZH) (qs:ZN):Prop where
 c1:1<= ~~~cs
 c3: ~~~cs<=3
 ca:bP H cs
 nd:(cs.map (·.2.1)).Nodup
 few:∀p∈cs,uT p.2.2
 ly: ~~~(cs.flatMap lyr)<=63
 sa:cE H (cs.flatMap lyr) qs
 ql: ~~~qs<=36
inductive rB (K:ZA)
 | mk (a:Addr) (ns:ZL):vs=[.ref a]->SqL K H a (ns\4)-> ~~~ns<=1000->(∀(t l1 l2:Addr) H' (cs:ZH) (qs:ZN),ah H H'->H' t<*[.ref l1,.ref l2]->H' l1<*cU cs->H' l2∣.lst (qs\0)->GdOk H' cs qs->Q (.ref t) H')->rB K vs H Q E0
def tH(T:Txt K mg):↥4 "_law_ground" ["_law_script"] (rB K):=by
 .exists T.bo,b7,a2,M,%[a,r,rfl,hs,hn|kk];refine%[_,%["KC~<G]dA0B~=LJ1LJ2cCH3SBCH4rdFZF=G~MA0AEBEEECH5rdFZF=G~MA0AEBEEECO~uAEA~V]eAfgA0BAEBBJ6Daql3AG]fAG~kA0A6AEAEBA2A4A5BBDISA1A3B",b7.nd|M]|?_]
  show aZ _ _ _ [!a,none,none,none,none,none,none] H;refine aj λD1 k1 _=>?_
  lk;refine%[a,r,ρ,hs|λt C D H1 cs rs s1 N _ hC hD c1 c3 ca ac ok=>%[t,ρ,_,SqL.of N,ρ,_,_,ρ,_,_,ρ,ρ|k1 _ _ (aj λD2 k2 _=>?_)]];lk;refine%[Xd _|λL B=>k2 _ _ (aj λD3 k3 _=>?_)];have sL:=s1.trans (ah.upd (o:= .lst []) B);have u:=sL.seq hs;lk;refine%[a,r,0,ρ,u,!1,_,ρ,%[!1|!1],!1|k3 _ _ (aj λD4 k4 _=>?_)]
  generalize decide (r.getD (Int.toNat 0) 0/2%6=1)=g
  lk;refine%[a,r,0,ρ,u,!1,_,ρ,%[!1|!1],!1|k4 _ _ ?_]
  generalize decide (r.getD (Int.toNat 0) 0/12%2=1)=j
  refine aj λD5 k5 _=>aw λa0 hK=>?_
  lk;have fL:=s1.free B;have ae:C≠L:=λe=>by rw[e,B]at hC;cases hC
  have ag:D≠L:=λe=>by rw[e,B]at hD;cases hD
  have O:=ah.upd (o:= .lst []) B _ _ hC;have U:=ah.upd (o:= .lst []) B _ _ hD;have v:bP (upd H1 L (.lst [])) cs:=λp hp=>%[ah.upd (o:= .lst []) B _ _ (ca p hp).1|(ca p hp).2]
  have G:upd H1 L (.lst []) L<*[]:=aa
  generalize upd H1 L (.lst [])=H2 at sL u O U v G
  refine%[~~~r,.inl %[_,u|(Z6 _).symm],!1,!1,by split<;> lia,by split<;> lia|?_]
  generalize hm:((if 41<(~~~r:Int)then 41 else(~~~r:Int)) -5).toNat=m
  have a3:m<=36:=by split at hm<;> lia
  refine hK _ _ (cW (λi σ I=>∃(o6:Option V) (qs:ZN),σ=[!a,!C,!D,!L,some (.bl g),some (.bl j),o6]/\ah H I/\(∀b o,b≠L->H2 b∣o->I b∣o)/\I L∣.lst (qs\0)/\ ~~~qs=i/\cE I (cs.flatMap lyr) qs)
   %[_,[],rfl,sL,(λb o _ e=>e),G,rfl|λ_ h=>nomatch h] ?_ ?_)
  .intro i σ I hi %[o6,qs,rfl,sH,Y,l,ql|J];show jH _ _ [!a,!C,!D,!L,some (.bl g),some (.bl j),some (.int (5+i))] I;refine az λD6 k6 _=>?_
   lk;refine%[tyL (SqL.of l),a,r,5+i,211,6,ρ,sH.seq hs,⋯,⋯,!1,!1,!1,!1|λdl H3 xs s3 _ al hx hb=>%[dl,D,xs,rs,g,j,ρ,al,hx,hb,s3 _ _ (Y _ _ ag U),ok.nd,ok.ne (λe=>by rw[e]at c1;cases c1),by have:=ok.len;lia,λq c=>(ok.rk q c).2|λt H4 zs s4 N an=>?_]];have y:=s3.trans s4;have ab:=y _ _ l;have as:t≠L:=λe=>by rw[e,ab]at N;cases N
   refine%[_,ab,by rw[Z6,ql];exact aA ⋯|k6 _ _ %[_,qs++[(t,zs)],ρ,ah.set (sH.trans y) fL,λb o n e=>by rw[ak n];exact y _ _ (Y b o n e),by rw[aa,Zd];rfl,by rw[Z9,ql];rfl|λq c=>?_]];rcases Xl c with z|z
   .refine%[?_|(J q z).2];rw[ak (λe=>by have:=(J q z).1;rw[e,l]at this;cases this)];exact y _ _ (J q z).1
   .rw[Xm z];refine%[by rw[ak as];exact N|an.sub λz hz=>?_];have%[q,c|rfl]:=Xn hz;exact(ok.rk q c).1
  .intro σ I %[o6,qs,rfl,sH,Y,l,ql|J];refine k5 _ _ ?_;lk;refine%[#[2]|λp hp=>?_];have sp:=ah.upd (o:= .lst [V.ref C,V.ref L]) hp;refine kk p C L _ cs qs (sH.trans sp) aa (sp _ _ (Y _ _ ae O)) (sp _ _ l) %[c1,c3,λq c=>%[sp _ _ (Y _ _ (λe=>?_) (v q c).1)|(v q c).2],ac,λq c=>?_,by have:=x6 ok.dr;lia,λq c=>%[sp _ _ (J q c).1|(J q c).2]|⋯]
   .have:=(v q c).1;rw[e,G]at this;cases this
   .have%[w,a1,hi,d|e]:=ok.dr q c;rw[e];exact d.few
abbrev NmD(a:ZB)(f:Str->Str):List (Key×V):=a.map λz=>(Sum.inr z,V.str (f z))
def jC:∀{a:ZB},z∈a->bx (NmD a f) (Sum.inr z)∣.str (f z)
 |[],h=>(nomatch h)
 | x::a,h=>by
   by_cases e:x=z
   .subst e;exact dO rfl
   .rw[show NmD _ f=(Sum.inr x,V.str _)::NmD a f from rfl,cQ (λq=>e (Sum.inr.inj q))];exact jC (by rcases mem_cons.mp h with q|q;exact(e q.symm).elim;exact q)
def Cc:((NmD b f).any λa=>decide (a.1=(Sum.inr z:Key)))=true↔z∈b:=by
 rw[any_eq_true]
 constructor
 .rintro⟨a,c,d⟩;have%[x,e|rfl]:=Xn c
  simp_all
 .intro h;exact%[_,Xo %[z,h|ρ]|Zf rfl]
def oM(h:z∈a):cD (NmD a f) (Sum.inr z) (.str v)=NmD a (λx=>if x=z then v else f x):=by
 unfold cD;rw[if_pos (Cc.mpr h)];unfold NmD;rw[Yq];refine Yo λx _=>?_
 show(if(Sum.inr x)=Sum.inr z then((Sum.inr x),V.str v)else(Sum.inr x,V.str _))=(Sum.inr x,V.str (if x=z then v else f x))
 by_cases e:x=z
 .rw[if_pos (congrArg _ e),if_pos e]
 .rw[if_neg (λq=>e (Sum.inr.inj q)),if_neg e]
def Cd(h:z∉a):cD (NmD a id) (Sum.inr z) (.str z)=NmD (a++[z]) id:=by
 unfold cD;rw[if_neg (λq=>h (Cc.mp q))];unfold NmD;rw[Zd];rfl
abbrev x8(a:ZB)(z:Str):Nat:=iG (a.map λu=>[u]) [z]
def oN(b:x∈a)(h:aM x y=true):x8 a x<x8 a y:=by
 have:=mM (ks:=a.map λu=>[u]) (y:=[y]) (Xo %[x,b|rfl]);rw[nN,h]at this;exact Zo this.symm
abbrev bh(qs:ZN)(a b:Str):Prop:=∃q∈qs,q.2=[.str "same",.str a,.str b]
def i5{S R:Str->Str->Prop}(F:bE c f r S)(h:∀a b,S a b↔R a b):bE c f r R:=by
 rw[funext λa=>funext λb=>(propext (h a b)).symm];exact F
inductive Ce
 | mk (d z ls f r S):vs=[.ref d,.str z]->H d∣.dK (NmD ls f)->bE ls f r S->z∈ls->Q (.str (r z)) H->Ce vs H Q E0
inductive x9
 | mk (d a b ls f r S):vs=[.ref d,.str a,.str b]->H d∣.dK (NmD ls f)->bE ls f r S->a∈ls->b∈ls-> ~~~ls<=5000->(∀f' r',bE ls f' r' (λx y=>S x y\/(x=a/\y=b))->Q .non (upd H d (.dK (NmD ls f'))))->x9 vs H Q E0
def eX(T:Txt K mg):↥1 "least_pointed_to" ["names","layer"] Ce:=by
 .exists T.aA,d0,q,i,%[d,z,e,p,r,S,rfl,u,F,v|j];refine%[_,%["KC~GMvT011DH1T01DI1",d0.nd|i]|aj λB k1 _=>⟨λm l g=>∃y,l=[some _,-y]/\g=H/\y∈e/\r y=r z/\m=x8 e y,%[_,z,ρ,ρ,v,ρ|ρ],?_⟩]
  intro m l g %[y,rfl,rfl,a,b|rfl];lk;have n:=by
   have:=bN.k (k:=Sum.inr y) u;rw[jC a]at this;exact this
  refine%[_,n,ρ|bC (λh=>?_) λh=>?_]
  .have h:=↑h
   refine%[λc o=>c=[some _,some _]/\o=g,?_,_,n,ρ|ρ];intro c o %[rfl|rfl];exact%[_,oN (F.fin y a) (F.dec y a h),p y,ρ,ρ,F.fin y a,(F.rf y a).trans b|ρ]
  .refine k1 _ _ ?_;rw[<-b,F.fix y a ↑h]at j;exact j
def mD(T:Txt K mg):↥2 "join_deposits" ["names","one","other"] x9:=by
 .exists T.az,dH,m,e,%[d,a,b,c,p,r,S,rfl,g,F,i,j,n|o];refine%[_,%["KCH3G~>A0A1BCH4G~>A0A2BDn~V~^A3A4B0]g]hA3A4B",dH.nd|e]|?_]
  show aZ _ _ _ [!d,-a,-b,none,none] H;refine aj λu k1 _=>?_
  lk;refine%[d,a,c,p,r,S,ρ,g,F,i|k1 _ _ (aj λv k2 _=>?_)];lk;refine%[d,b,c,p,r,S,ρ,g,F,j|k2 _ _ (az λy q _=>?_)];lk;have J:=F.join i j rfl rfl;have l:(if aM (r a) (r b)=true then r b else r a)∈c:=by
   split
   .exact F.rin b j
   .exact F.rin a i
  generalize (if aM (r a) (r b)=true then r b else r a)=M at J l
  refine%[_,eI.k (k:=Sum.inr M) g (by unfold NmD;rw[Z6,PySem.sizeLine_eq];lia)|q _ _ ?_];rw[oM l];exact o _ _ J
def w6{qs:ZN}{q:Addr×ZM}(c:qs[i]?∣q)(a b:Str):bh (qs.take (i+1)) a b↔bh (qs.take i) a b\/q.2=[.str "same",.str a,.str b]:=by
 unfold bh;rw[X8,c]
 simp_all
def gZ{c:ZB}(d:c.Pairwise (λa b=>aM b a=false)){i:Nat}{z w:Str}(f:c[i]?∣z)(hw:w∈c)(h:aM w z=true):w∈c.take i:=by
 rw[<-X9 i c]at hw;rcases Xl hw with e|e
 .exact e
 .have%[hi|g]:=Xk f;have%[j,l|rfl]:=getElem_of_mem e;rw[List.getElem_drop]at h;rw[Yg]at l;by_cases m:j=0
  .subst m;rw[<-g]at h;simp only[add_zero]at h;rw[cK]at h;cases h
  .have:=List.pairwise_iff_getElem.mp d i (i+j) hi ⋯ ⋯
   grind
inductive vp (mg:ZC)
 | mk (g c2 c3 c4 qs ls ts):vs=[.ref g]->GrF mg H g c2 c3 c4 qs ls ts->ls.Nodup->ls.Pairwise (λa b=>aM b a=false)-> ~~~ls<=5000->(∀d H' r,ah H H'->H d=none->H' d∣.dK (NmD ls r)->(∀z∈ls,r z∈ls/\cf (bh qs) z (r z))->Q (.ref d) H')->vp mg vs H Q E0
def oO{H:Hp}{g b c3 c:Addr}{qs:List _}{d:ZB}{ts:List _}{m:Str}{R:Prop}(h:GrF mg H g b c3 c qs d ts)(e:m="layers"\/m="sayings"\/m="ties")(k:R):∃a fs,H g∣.ins (cO mg "Ground") a fs/\List.lookup m fs=none/\R:=by
 have%[a,c1|f]:=h.at_;exact⟨a,_,f,by rcases e with rfl|rfl|rfl<;> rfl,k⟩
def gi(T:Txt K mg):↥3 "names_by_layer" ["ground"] (vp mg):=by
 .exists T.ay,bd,a0,L,%[g,c2,c3,c4,qs,j,ts,rfl,hg,nd,so,as|kk];have lm: ~~~(j\3)= ~~~j:=Z6 _;have qm: ~~~(qs\0)= ~~~qs:=Z6 _;refine%[_,%["KCH1pCOR~H~m0J2Dn212COR~H]i0eLJ3LJ4LJ5cDPMd3XDaG]jA1A4A5BQCOR~H~m0J2DnT1T1212DI1",bd.nd|L]|?_]
  show aZ _ _ _ [!g,none,none,none,none,none] H;refine aj λD1 k1 _=>?_
  lk;intro d hd;refine k1 _ _ (aj λD2 k2 _=>aw λM hK=>?_);have s1:=ah.upd (o:= .dK []) hd;have Y:upd H d (.dK []) d∣.dK (NmD (j.take 0) id):=aa
  generalize upd H d (.dK [])=H1 at s1 Y
  lk;have ab:=hg.up s1;refine oO ab (.inl rfl) %[g,c2,c3,c4,qs,j,ts,rfl,ab|λl1 N=>%[l1,rfl,%[_|SqL.of aa]|hK _ _ ?_]];have s2:=ah.upd (o:= .lst (j\3)) N;have ac:upd H1 l1 (.lst (j\3)) l1=_:=aa;have n1:l1≠d:=λe=>by rw[e,Y]at N;cases N
  have Y:=s2 _ _ Y
  generalize upd H1 l1 (.lst (j\3))=H2 at s2 ac Y
  refine bz (λi n l=>(∃p u v B,n=[!g,!d,p,u,v,B])/\ah H l/\l l1<*j\3/\l d∣.dK (NmD (j.take i) id))
   %[%[_,_,_,_|rfl],s1.trans s2,ac|Y] (λi n l h=>h.2.2.1) ?_ ?_
  .intro i z n l C %[%[p,u,v,B|rfl],m,J|c];show lI _ _ _ _ [!g,!d,-z,u,v,B] l;refine az λD3 k3 _=>?_
   lk;have zn:z∉j.take i:=λhm=>by
    have h:=nd;rw[<-X9 i j,Yy]at h;exact h.2.2 z hm z (Z8 (i:=0) ((getElem?_drop)▸C)) rfl
   refine%[_,eI.k (k:=Sum.inr z) c (by unfold NmD;rw[Z6,Yk,PySem.sizeLine_eq];lia)|k3 _ _ %[%[_,_,_,_|ρ],ah.set m hd,(ak n1).trans J|?_]];rw[aa,Cd zn,X8,C];rfl
  intro n H3 %[%[p,u,v,B|rfl],m,J|c];rw[Zn (Zi _)]at c;refine k2 _ _ (aj λD4 k4 _=>aw λM hK=>?_);lk;have ae:=hg.up m;refine oO ae (.inr (.inl rfl)) %[g,c2,c3,c4,qs,j,ts,rfl,ae|λl2 O=>%[l2,rfl,%[_|SqL.of aa]|hK _ _ ?_]];have s4:=ah.upd (o:= .lst (qs\0)) O;have ag:upd H3 l2 (.lst (qs\0)) l2=_:=aa;have n2:l2≠d:=λe=>by rw[e,c]at O;cases O
  have c:=s4 _ _ c;have al:=m.trans s4
  generalize upd H3 l2 (.lst (qs\0))=H4 at s4 ag c al
  refine bz (λi n l=>(∃p u v B,n=[!g,!d,p,u,v,B])/\ah H l/\l l2∣.lst (qs\0)/\∃f r,l d∣.dK (NmD j f)/\bE j f r (bh (qs.take i)))
   %[%[_,_,_,_|rfl],al,ag,id,id,c|i5 (bE.start j) λa b=>%[λh=>h.elim|λ⟨q,hq,_⟩=>(nomatch hq)]] (λi n l h=>h.2.2.1) ?_ ?_
  .intro i q n l hq %[%[p,u,v,B|rfl],m,J,f,r,c|F];have%[q1|q2]:=hg.sa q (Z8 hq);have st:=m _ _ q1;have G:=w6 hq;rcases q2 with⟨wd,a,b,e,hw,ha,hb,_⟩|⟨wd,a,y,e,hw,_⟩
   .rw[e]at st G;refine%[_,SqT.of st,ρ,_,_,ρ,_,_,ρ,_,_,ρ,ρ|?_];show iu _ _ _ _ [!g,!d,p,-wd,-a,-b] l;refine az λD5 k5 _=>?_
    lk;refine bC (λh=>?_) λh=>?_
    .have h:wd=Str.ofString "same":=↑h
     refine%[d,a,b,j,f,r,_,ρ,c,F,ha,hb,as|λf' r' F'=>k5 _ _ %[%[_,_,_,_|ρ],ah.set m hd,(ak n2).trans J,f',r',aa|i5 F' λx y=>?_]];rw[G,h];refine or_congr Iff.rfl %[λ⟨e1,e2⟩=>by rw[e1,e2]|λe=>?_];simp only[List.cons.injEq,V.str.injEq,and_true,true_and]at e;exact%[e.1.symm|e.2.symm]
    .have h:wd≠Str.ofString "same":=↑h
     refine k5 _ _ %[%[_,_,_,_|rfl],m,J,f,r,c|i5 F λx y=>?_];rw[G];refine%[.inl|λe=>e.resolve_right λe=>h ?_];simp only[List.cons.injEq,V.str.injEq]at e;exact e.1
   .rw[e]at st G;refine%[_,SqT.of st,ρ,_,_,ρ,_,_,ρ,_,_,ρ,ρ|?_];show iu _ _ _ _ [!g,!d,p,-wd,-a,some (.int y)] l;refine az λD5 k5 _=>?_
    lk;rw[if_neg (by rcases hw with rfl|rfl<;> decide)];refine k5 _ _ %[%[_,_,_,_|rfl],m,J,f,r,c|i5 F λx z=>?_];rw[G];refine%[.inl|λe=>e.resolve_right λe=>?_];simp at e
  intro n H5 %[%[p,u,v,B|rfl],m,J,f,r,c|F];rw[Zn (Zi _)]at F;refine k4 _ _ (aj λD6 k6 _=>aw λM hK=>?_);lk;have an:=hg.up m;refine oO an (.inl rfl) %[g,c2,c3,c4,qs,j,ts,rfl,an|λl3 U=>%[l3,rfl,%[_|SqL.of aa]|hK _ _ ?_]];have s6:=ah.upd (o:= .lst (j\3)) U;have n3:l3≠d:=λe=>by rw[e,c]at U;cases U
  have c:=s6 _ _ c;refine bz (λi n l=>(∃p u v B,n=[!g,!d,p,u,v,B])/\ah H l/\l l3<*j\3/\∃f,l d∣.dK (NmD j f)/\bE j f r (bh qs)/\∀z∈j.take i,f z=r z)
   %[%[_,_,_,_|rfl],(m.trans s6),aa,f,c,F|λz C=>(nomatch C)] (λi n l h=>h.2.2.1) ?_ ?_
  .intro i z n l C %[%[p,u,v,B|rfl],m,J,f,c,F|I];have zm:=Z8 C;show lI _ _ _ _ [!g,!d,-z,u,v,B] l;refine az λD7 k7 _=>?_
   lk;have get:=λy hy=>by
    have:=bN.k (k:=Sum.inr y) c;rw[jC hy]at this;exact this
   refine%[_,get z zm,_,get _ (F.fin z zm),_,eI.k (k:=Sum.inr z) c (by unfold NmD;rw[Z6,PySem.sizeLine_eq];lia)|k7 _ _ %[%[_,_,_,_|ρ],ah.set m hd,(ak n3).trans J,_,?_,F.short zm|λy hy=>?_]]
   .rw[aa,oM zm]
   .rw[X8,C]at hy;by_cases e:y=z
    .rw[if_pos e,e];exact F.done zm λw hw h=>I w (gZ so C hw h)
    .rw[if_neg e];rcases Xl hy with h|h
     .exact I y h
     .exact(e (Xm h)).elim
  intro n H7 %[%[p,u,v,B|rfl],m,J,f,c,F|I];rw[Zn (Zi _)]at I;refine k6 _ _ ?_;lk;refine kk d H7 r m hd ?_ λz C=>%[F.rin z C|F.least C]
  rw[c];unfold NmD;rw[Yo λz C=>by rw[I z C]]
def GC{X:Cx}{K:ZA}{T id:String}(h:X.K=K)(l:PlainAttrs T)(slot:Slot T name id)(g:typeOf (.builtin id)=pure (.type "method_descriptor"))(m:MtQ X id r)
 (b:attributeBase o name X.env (eval o X.env)=eval o X.env) (a:(e::es).any aS=false) (i:Nat.blt (e::es).length 30=true) (c:(d.endLine==f.line)=true) (n:QE X o p) (q:QA X (e::es) t):
 QE X (.Call (.Attribute o name d) (e::es) [] f) (tBM K T r p t):=by
 have j:=a;rw[Zw,X4]at j;refine⟨A4 h l slot g m.h n.h q.h b ?_ c (aB j.1) (gB j.2)⟩;rw[sk a];have:decide (~~~(e::es)+ ~~~([]:List Keyword)+(if([]:List Keyword).isEmpty then 0 else 1)<30)=true:=Zf ((Nat.blt_eq.mp i));rw[this];rfl
abbrev grp(r:Str->Str)(xs:ZB):List (Str×ZB):=(xs.filter λz=>decide (r z=z)).map λz=>(z,xs.filter λx=>decide (r x=z))
def z6(h:∀z∈xs,r z=b z):grp r xs=grp b xs:=by
 unfold grp;rw[List.filter_congr λz a=>by rw[h z a]];refine Yo λz a=>?_
 rw[List.filter_congr λx c=>by rw[h x c]]
def Ek(a:r z=z)(b:z∉xs)(c:∀x∈xs,r x∈xs):grp r (xs++[z])=grp r xs++[(z,[z])]:=by
 unfold grp;rw[Y2,Zd];refine congr (congrArg _ (Yo λw hw=>?_)) ?_
 .have:w≠z:=λe=>b (e▸(List.mem_filter.mp hw).1)
  rw[Y2,Y4 (by rw[a];simpa using this.symm),Y7,Zx]
 .rw[Y6 (by rw[a];simp),Y7];show [(z,_)]=_;rw[Y2,Y6 (by rw[a];simp),Y7,filter_eq_nil_iff.mpr λx d=>?_]
  .rfl
  .intro e;exact b ((Zo e)▸c x d)
def El(a:r z≠z):grp r (xs++[z])=(grp r xs).map λp=>if p.1=r z then(p.1,p.2++[z])else p:=by
 unfold grp;rw[Y2,Y4 ↑a,Y7,Zx,Yq];refine Yo λw hw=>?_
 show(w,_)=if w=r z then(w,_)else(w,_)
 rw[Y2];by_cases e:w=r z
 .rw[if_pos e,Y6 (by simpa using e.symm),Y7]
 .rw[if_neg e,Y4 (by simpa using λq=>e q.symm),Y7,Zx]
def i6:y∈(grp r xs)\1↔y∈xs/\r y=y:=by
 unfold grp
 simp_all
def lA(h:xs.Nodup):((grp r xs)\1).Nodup:=by
 unfold grp;rw[Yq,show((λx=>x.1) ∘ λz=>(z,List.filter _ xs))=id from rfl,map_id];exact h.filter _
abbrev ya(S:Str->Str->Prop)(a:ZB)(ds:List ZB):Prop:=∃r:Str->Str,(∀z∈a,r z∈a/\cf S z (r z))/\ds=(grp r a)\2
def ya.one{S:Str->Str->Prop}(h:ya S b ds)(g:ya S b es):ds=es:=by
 have%[r,c|rfl]:=h;have%[e,d|rfl]:=g;rw[z6 λz a=>(c z a).2.one (d z a).2]
noncomputable abbrev Gs(a:Type):=List (Str×Addr×List a)
abbrev gD{a:Type}(b:Gs a):List (Key×V):=b.map λg=>(Sum.inr g.1,V.ref g.2.1)
def kN:∀{a:Gs b},y∉a\1->bx (gD a) (Sum.inr y)=none
 |[],_=>rfl
 | g::a,h=>by
   rw[Yp,Yu,not_or]at h;rw[show gD _=(Sum.inr g.1,V.ref _)::gD a from rfl,cQ (λq=>h.1 (Sum.inr.inj q).symm)];exact kN h.2
def ei:∀{a:Gs d},bx (gD a) (Sum.inr y)∣v->∃g∈a,g.1=y/\v= .ref g.2.1
 |[],h=>(nomatch h)
 | g::a,h=>by
   rw[show gD _=(Sum.inr g.1,V.ref _)::gD a from rfl]at h;by_cases e:g.1=y
   .rw[dO (congrArg Sum.inr e)]at h;exact%[g,Zm,e|(Za h).symm]
   .rw[cQ (λq=>e (Sum.inr.inj q))]at h;have%[g',b|c]:=ei h;exact%[g',Zk _ b|c]
def g9:∀{a:Gs b},g∈a->bx (gD a) (Sum.inr g.1)≠none
 | x::a,h,c=>by
   rw[show gD _=(Sum.inr x.1,V.ref _)::gD a from rfl]at c;by_cases e:x.1=g.1
   .rw[dO (congrArg Sum.inr e)]at c;cases c
   .rw[cQ (λq=>e (Sum.inr.inj q))]at c;rcases mem_cons.mp h with q|q
    .exact e (by rw[q])
    .exact g9 q c
abbrev mQ(H:Hp)(a:ZG):Prop:=∀g∈a,H g.1<*g.2\3
def mQ.up{H a:Hp}{b:List _}(h:mQ H b)(s:ah H a):mQ a b:=λg c=>s _ _ (h g c)
structure ip {α:Type} (f:α->V) (H0 H:Hp) (d:Addr) (gs:Gs α):Prop where
 at_:H d∣.dK (gD gs)
 la:∀g∈gs,H0 g.2.1=none/\H g.2.1<*g.2.2.map f
 nd:(gs.map (·.2.1)).Nodup
def Em{f:Type}{c:Gs f}(d:(c\1).Nodup){g h:Str×Addr×List f}(i:g∈c)(j:h∈c)(e:g.1=h.1):g=h:=by
 induction c with
 | nil=>cases i
 | cons x xs l=>
   rw[Yp,nodup_cons]at d;rcases mem_cons.mp i with a|a<;> rcases mem_cons.mp j with b|b
   .rw[a,b]
   .exact(d.1 (by rw[<-a,e];exact Xo %[_,b|rfl])).elim
   .exact(d.1 (by rw[<-b,<-e];exact Xo %[_,a|rfl])).elim
   .exact l d.2 a b
def Cf{f:Type}{c:Gs f}(d:(c.map (·.2.1)).Nodup){g h:Str×Addr×List f}(i:g∈c)(j:h∈c)(e:g.2.1=h.2.1):g=h:=by
 induction c with
 | nil=>cases i
 | cons x xs l=>
   rw[Yp,nodup_cons]at d;rcases mem_cons.mp i with a|a<;> rcases mem_cons.mp j with b|b
   .rw[a,b]
   .exact(d.1 (by rw[<-a,e];exact Xo %[_,b|rfl])).elim
   .exact(d.1 (by rw[<-b,<-e];exact Xo %[_,a|rfl])).elim
   .exact l d.2 a b
abbrev lB{a:Type}(y:Str)(z:a)(b:Gs a):Gs a:=b.map λg=>if g.1=y then(g.1,g.2.1,g.2.2++[z])else g
def GD(y:Str)(z:b)(a:Gs b):gD (lB y z a)=gD a:=by
 unfold lB gD;rw[Yq];refine Yo λg _=>?_
 show(Sum.inr (if g.1=y then(g.1,g.2.1,g.2.2++[z])else g).1,V.ref (if g.1=y then(g.1,g.2.1,g.2.2++[z])else g).2.1)=_
 split<;> rfl
def GE(y:Str)(z:b)(a:Gs b):(lB y z a).map (·.2.1)=a.map (·.2.1):=by
 unfold lB;rw[Yq];refine Yo λg _=>?_
 show(if g.1=y then(g.1,g.2.1,g.2.2++[z])else g).2.1=_
 split<;> rfl
def GF(y:Str)(z:b)(a:Gs b):(lB y z a).map (λg=>(g.1,g.2.2))=(a.map λg=>(g.1,g.2.2)).map λp=>if p.1=y then(p.1,p.2++[z])else p:=by
 unfold lB;rw[Yq,Yq];refine Yo λg _=>?_
 show((if g.1=y then(g.1,g.2.1,g.2.2++[z])else g).1,(if g.1=y then(g.1,g.2.1,g.2.2++[z])else g).2.2)=if g.1=y then(g.1,g.2.2++[z])else(g.1,g.2.2)
 split<;> rfl
def ip.up{a:Type}{f:a->V}{b H c:Hp}{d:Addr}{e:Gs a}(h:ip f b H d e)(s:ah H c):ip f b c d e:=%[s _ _ h.at_,λg i=>%[(h.la g i).1|s _ _ (h.la g i).2]|h.nd]
def ip.add{a:Type}{f:a->V}{l H:Hp}{d:Addr}{b:Gs a}(h:ip f l H d b)(m:(b\1).Nodup){g:Str×Addr×List a}(c:g∈b)(z:a):ip f l (upd H g.2.1 (.lst (g.2.2.map f++[f z]))) d (lB g.1 z b):=by
 refine%[?_,λg' j=>?_|by rw[GE];exact h.nd]
 .rw[GD,ak (λe=>by have:=(h.la g c).2;rw[<-e,h.at_]at this;cases this)];exact h.at_
 .have%[n,i|rfl]:=Xn j;by_cases e:n.1=g.1
  .rw[if_pos e];obtain rfl:=Em m i c e;refine%[(h.la _ c).1|?_];rw[aa,Zd];rfl
  .rw[if_neg e];refine%[(h.la _ i).1|?_];rw[ak (λq=>e (by rw[Cf h.nd i c q]))];exact(h.la _ i).2
def ip.new{l:Gs n}(h:ip f m H d l)(s:ah m H)(j:H e=none)(y:Str)(z:n)(o:y∉l\1):ip f m (upd (upd (upd H e (.lst [])) d (.dK (cD (gD l) (Sum.inr y) (.ref e)))) e (.lst [f z])) d (l++[(y,e,[z])]):=by
 refine%[?_,λg i=>?_|?_]
 .rw[ak (λq=>by rw[<-q,h.at_]at j;cases j),aa,dq _ (kN o)];unfold gD;rw[Zd];rfl
 .rcases Xl i with i|i
  .refine%[(h.la g i).1|?_];have q:=(h.la g i).2;rw[ak (λc=>by rw[c,j]at q;cases q),ak (λc=>by rw[c,h.at_]at q;cases q),ak (λc=>by rw[c,j]at q;cases q)];exact q
  .rw[Xm i];exact%[s.free j|aa]
 .rw[Zd,Yy];refine%[h.nd,by simp|λa p b r c=>?_];have%[g,i|rfl]:=Xn p;have q:=(h.la g i).2
  simp_all
inductive yc (mg:ZC)
 | mk (g c2 c3 c4 qs ls ts):vs=[.ref g]->GrF mg H g c2 c3 c4 qs ls ts->ls.Nodup->ls.Pairwise (λa b=>aM b a=false)-> ~~~ls<=5000->(∀l H' ss,ah H H'->H l=none->H' l∣.lst (ss\0)->mQ H' ss->(∀s∈ss,H s.1=none)->ya (bh qs) ls (ss\2)-> ~~~ss<=5000->Q (.ref l) H')->yc mg vs H Q E0
inductive GG (mg:ZC)
 | mk (g c2 c3 c4 qs ls ts z):vs=[.ref g,.str z]->GrF mg H g c2 c3 c4 qs ls ts->ls.Nodup->ls.Pairwise (λa b=>aM b a=false)-> ~~~ls<=5000->z∈ls->(∀H' m,ah H H'->cf (bh qs) z m->Q (.str m) H')->GG mg vs H Q E0
def w8(T:Txt K mg):↥4 "deposits" ["ground"] (yc mg):=by
 .exists T.aB,fh,bc,I,%[g,c2,c3,c4,qs,n,ts,rfl,hg,nd,so,as|kk];have lm: ~~~(n\3)= ~~~n:=Z6 _;refine%[_,%["KCH1G~_A0BCH2pCOR~H~m0J3Da~nl~o~p2AT13ASBBA3BDI|]kA~|~}2B",fh.nd|I]|?_]
  show aZ _ _ _ [!g,none,none,none] H;refine aj λD1 k1 _=>?_
  lk;refine%[g,c2,c3,c4,qs,n,ts,ρ,hg,nd,so,as|λd H1 r s1 fd J I=>k1 _ _ (aj λD2 k2 _=>?_)];lk;intro e fe;refine k2 _ _ (aj λD3 k3 _=>aw λbb hK=>?_);have a0:d≠e:=λc=>by rw[c,fe]at J;cases J
  have s2:=ah.upd (o:= .dK []) fe;have ge:upd H1 e (.dK []) e∣.dK (gD ([]:Gs Str)):=aa;have J:=s2 _ _ J;have fe:=s1.free fe;have Y:=s1.trans s2
  generalize upd H1 e (.dK [])=H2 at s2 ge J Y
  lk;have ac:=hg.up Y;refine oO ac (.inl rfl) %[g,c2,c3,c4,qs,n,ts,rfl,ac|λl1 a1=>%[l1,rfl,%[_|SqL.of aa]|hK _ _ ?_]];have s3:=ah.upd (o:= .lst (n\3)) a1;have L:upd H2 l1 (.lst (n\3)) l1=_:=aa;have J:=s3 _ _ J;have ge:=s3 _ _ ge;have ae:=Y.trans s3
  generalize upd H2 l1 (.lst (n\3))=H3 at s3 L J ge ae
  have r2:∀z∈n,r (r z)=r z:=λz M=>by
   have h:=(I z M)
   have h2:=(I _ h.1).2;exact h2.one %[.refl _|λy c=>h.2.2 y (h.2.1.trans c)]
  have ag:∀z∈n,r z≠z->aM (r z) z=true:=λz M h=>dm ((I z M).2.2 z (.refl _)) h.symm
  obtain⟨N,a2,a3,a4,ab,s0⟩:∃N:Hp,N e=none/\N d∣.dK (NmD n r)/\N l1<*n\3/\ah H N/\ah N H3:=by
   refine%[λa=>if a=e then none else H3 a,if_pos rfl,?_,?_,λa o h=>?_|λa o h=>?_]
   .exact(if_neg (λc=>a0 c)).trans J
   .exact(if_neg (λc=>by rw[c,ge]at L;cases L)).trans L
   .exact(if_neg (λc=>by rw[c,fe]at h;cases h)).trans (ae _ _ h)
   .have h:(if a=e then none else H3 a)∣o:=h
    split at h
    .cases h
    .exact h
  refine bz (λi σ H'=>(∃o3,σ=[!g,!d,!e,o3])/\ah N H'/\∃B,ip V.str N H' e B/\B.map (λg=>(g.1,g.2.2))=grp r (n.take i))
   %[%[_|rfl],s0,[],%[ge,λg hg=>(nomatch hg)|X1]|rfl] (λi σ H' h=>h.2.1 _ _ a4) ?_ ?_
  .intro i z σ H' M %[%[o3|rfl],O,B,b|u];have zm:=Z8 M;have i1:i< ~~~n:=(Xk M).1;show jH _ _ [!g,!d,!e,-z] H';refine az λD4 k4 _=>?_
   lk;have get:=bN.k (k:=Sum.inr z) (O _ _ a3);rw[jC zm]at get;have gk:B\1=(grp r (n.take i))\1:=by rw[<-u,Yq];rfl
   have al:(B\1).Nodup:=by rw[gk];exact lA (nd.sublist (List.take_sublist _ _))
   have gl: ~~~B<= ~~~n:=by
    have:=_T.nodup_sub al (m:=n) λy hy=>by rw[gk,i6]at hy;exact Yv hy.1
    rw[Z6]at this;exact this
   have zn:z∉n.take i:=λhm=>by
    have h:=nd;rw[<-X9 i n,Yy]at h;exact h.2.2 z hm z (Z8 (i:=0) (by rw[getElem?_drop];exact M)) rfl
   have tk:n.take (i+1)=n.take i++[z]:=by rw[X8,M];rfl
   refine%[tyD (b.at_),_,get,#[0]|λp U=>%[Sum.inr (r z),ρ,gD B,?_,?_,λv hv=>?_|λhv=>?_]]
   .rw[ak (λc=>by rw[<-c,b.at_]at U;cases U)];exact b.at_
   .unfold gD;rw[Z6];exact aA ⋯
   .have%[q,C,e1|rfl]:=ei hv;have a5:q.1∈B\1:=Xo %[q,C|rfl];have an:=a5;rw[gk,i6,e1]at an;have rn:r z≠z:=λc=>zn (by exact c▸an.1)
    have sp:=ah.upd (o:= .lst []) U;have hl:=sp _ _ (b.la q C).2;have G:=(b.up sp).add al C z;have ml: ~~~q.2.2<= ~~~n:=by
     have:(q.1,q.2.2)∈grp r (n.take i):=u▸Xo %[q,C|rfl];have%[y,hy|c]:=Xn this;exact((Prod.mk.inj c).2)▸Yf (Yh _ _) (by rw[Yk];lia)
    refine%[tyL (SqL.of hl),_,ρ,_,hl,by rw[Z6];exact aA ⋯|k4 _ _ %[%[_|ρ],ah.set (O.trans sp) (b.la q C).1,_,G|?_]];rw[GF,u,tk,El rn,e1]
   .have nk:r z∉B\1:=λh=>by
     have%[q,C|c]:=Xn h;have:=g9 C;rw[c,hv]at this;exact this rfl
    have rz:r z=z:=Decidable.byContradiction λc=>nk (by rw[gk,i6];exact%[gZ so M (I z zm).1 (ag z zm c)|r2 z zm])
    have de:e≠p:=λq=>by rw[<-q,b.at_]at U;cases U
    rw[rz]at hv nk ⊢;have gp:upd (upd H' p (.lst [])) e (.dK (cD (gD B) (Sum.inr z) (.ref p))) p<*[]:=by rw[ak de.symm,aa]
    refine%[tyL (SqL.of gp),[],gp,(show 0<sizeLine by decide)|k4 _ _ %[%[_|ρ],ah.set (ah.set (O.trans (ah.upd U)) a2) (O.free U),_,b.new O U z z nk|?_]];rw[Zd,u,tk,Ek rz zn λx hx=>?_]
    .rfl
    .have%[j|hj]:=List.mem_iff_getElem?.mp hx;have xm:=Yv hx;by_cases c:r x=x
     .rw[c];exact hx
     .have ji:j<i:=by have:=(Xk hj).1;rw[Yk]at this;lia
      rw[Yb ji]at hj;exact List.take_subset_take_left _ (Yd ji) (gZ so hj (I x xm).1 (ag x xm c))
  intro σ H' %[%[o3|rfl],O,B,b|u];rw[Zn (Zi _)]at u;refine k3 _ _ ?_;lk;have gk:B\1=(grp r n)\1:=by rw[<-u,Yq];rfl
  have gl: ~~~B<= ~~~n:=by
   have:=_T.nodup_sub (l:=B\1) (gk▸lA nd) (m:=n) λy hy=>by rw[gk,i6]at hy;exact hy.1
   rw[Z6]at this;exact this
  refine%[tyD (b.at_),%[_|b.at_]|λv fv=>%[e,aa,_,ah.upd fv _ _ b.at_|λl fl=>?_]];have sv:=ah.upd (o:=jY v e) fv;have sl:=ah.upd (o:= .lst ((gD B)\2)) fl;have a6:=O.trans (sv.trans sl);refine kk l _ (B\2) (ab.trans a6) ((ab.trans (O.trans sv)).free fl) ?_ (λs hs=>?_) (λs hs=>?_) %[r,I|?_] (by rw[Z6];lia)
  .rw[aa];unfold gD;rw[Yq,Yq];rfl
  .have%[q,C|rfl]:=Xn hs;exact sl _ _ (sv _ _ (b.la q C).2)
  .have%[q,C|rfl]:=Xn hs;exact ab.free (b.la q C).1
  .rw[<-u,Yq,Yq];rfl
structure bG (S:Str->Str->Prop) (ks0 ks:List _):Prop where
 nd:ks.Nodup
 mem:∀k,k∈ks↔∃a b z a' b',[a,b,z]∈ks0/\cf S a a'/\cf S b b'/\k=[a',b',z]
def bG.mm{S:Str->Str->Prop}{a ks b:List ZB}(h:bG S a ks)(g:bG S a b)(k:ZB):k∈ks↔k∈b:=(h.mem k).trans (g.mem k).symm
def yd{ks c:List ZB}(e:∀k,k∈ks↔k∈c):Ed ks=Ed c:=by
 funext a b;simp only[Ed,e]
def Cg{ks c:List ZB}(e:∀k,k∈ks↔k∈c):Dst ks=Dst c:=by
 funext a n b;simp only[Dst,e]
def oP{ks c:List ZB}(e:∀k,k∈ks↔k∈c):Rch ks=Rch c:=by
 funext a b;have q:∀{ks},Rch ks a b↔∃n,Dst ks a (n+1) b:=%[Rch.dst|λ⟨_,h⟩=>h.rch]
 rw[propext q,propext q,Cg e]
abbrev hJ(r:Str->Str):ZB->ZB
 |[a,b,z]=>[r a,r b,z]
 | k=>k
def oQ{S:Str->Str->Prop}{c:List ZB}{l:ZB}{r:Str->Str}(m:∀k∈c,db l k)(f:∀z∈l,cf S z (r z))(k:ZB):k∈c.map (hJ r)↔∃a b z g h,[a,b,z]∈c/\cf S a g/\cf S b h/\k=[g,h,z]:=by
 rw[mem_map]
 constructor
 .rintro⟨t,d,rfl⟩;have%[a,b,z,rfl,i|j]:=m t d;exact%[a,b,z,r a,r b,d,f a i,f b j|ρ]
 .rintro⟨a,b,z,g,h,d,n,o,rfl⟩;have%[x,y,u,e,i|j]:=m _ d;simp only[List.cons.injEq,and_true]at e;have%[rfl,rfl|rfl]:=e;exact%[_,d|by rw[<-(f a i).one n,<-(f b j).one o];rfl]
inductive vt (mg:ZC)
 | mk (g c2 c3 c4:Addr) (qs:ZN) (ls:ZB) (ts:ZG):vs=[.ref g]->GrF mg H g c2 c3 c4 qs ls ts->ls.Nodup->ls.Pairwise (λa b=>aM b a=false)-> ~~~ls<=5000-> ~~~ts<=150->(∀k∈ts\2,db ls k)->(∀l H' ss,ah H H'->H l=none->H' l∣.lst (ss\0)->aD H' ss->bG (bh qs) (ts\2) (ss\2)-> ~~~ss<=150->Q (.ref l) H')->vt mg vs H Q E0
def En(T:Txt K mg):↥4 "links" ["ground"] (vt mg):=by
 .exists T.aD,uU,a2,n,%[g,U,c3,Y,qs,J,ts,rfl,hg,nd,so,ab,a3,h3|kk];refine%[_,%["KC(1ijG~_A0BDIu~*A_~+Ahb?1R~H]l0eLW0?2LW1?2LW2?2ctkATN30ATN31A2BBB",uU.nd,↑(["later","earlier","source","names"],[(3,1)]),↑["later","earlier","source","names"]|n]|?_]
  show aZ _ _ _ [!g,none] H;refine aj λD1 k1 _=>?_
  lk;refine%[g,U,c3,Y,qs,J,ts,ρ,hg,nd,so,ab|λd H1 r s1 fd hd n=>k1 _ _ ?_];lk;refine aE λa1 hK=>?_
  lk;have u:=hg.up s1;refine oO u (.inr (.inr rfl)) %[g,U,c3,Y,qs,J,ts,rfl,u|λL ac=>%[L,rfl,%[_|SqL.of aa]|hK _ _ λF hF=>?_]];have M:=ah.upd (o:= .lst (ts\0)) ac;have v:upd H1 L (.lst (ts\0)) L=_:=aa
  generalize upd H1 L (.lst (ts\0))=H2 at M v hF
  have ae:=M _ _ hd;have ag:=(u.up M).tu;refine bB (λj vs σ N=>(∃o1 o2 o3,σ=[o1,o2,o3,!d])/\ah H2 N/\N F<*vs/\∃ps:ZG,vs=ps\0/\aD N ps/\ps\2=((ts.take j)\2).map (hJ r))
   %[%[none,none,none|rfl],ah.upd hF,aa,[],rfl,dA _|rfl] (λ_ _ _ N al=>al.2.1 _ _ v) ?_ ?_
  .intro j vs σ H4 hj %[%[o1,o2,o3|rfl],B,C,ps,O,i|c];have tj:=Yc hj;have%[a,b,z,e,ha|hb]:=h3 _ (Xo %[_,tj|rfl]);have st:=B _ _ (ag _ tj).2;rw[e]at st;have get:∀y∈J,bN H4 d (.str y) (some (.str (r y))):=λy hy=>by
    have:=bN.k (k:=Sum.inr y) (B _ _ ae);rw[jC hy]at this;exact this
   refine%[_,SqT.of st,ρ,_,_,ρ,_,_,ρ,_,_,ρ,ρ|?_];show y6 [-a,-b,-z,!d] _ _;lk;refine%[_,get a ha,_,get b hb,#[3]|λp hp=>?_];have sp:=ah.upd (o:= .tup [V.str (r a),V.str (r b),V.str z]) hp;have gp:upd H4 p (.tup [V.str (r a),V.str (r b),V.str z]) p=_:=aa
   generalize upd H4 p (.tup [V.str (r a),V.str (r b),V.str z])=H5 at sp gp ⊢
   have keep:=gY (ys:=vs++[V.ref p]) (sp _ _ C);have pl:=congrArg List.length c;rw[Z6,Z6,Z6,Yk]at pl;refine CK.mk hj (sp _ _ C) (by rw[O,Z6];exact aA ⋯) %[%[_,_,_|rfl],ah.set (B.trans sp) hF,aa,ps++[(p,[r a,r b,z])],by rw[O,Zd];rfl,ax (cY (ax i λb z e=>sp _ _ e) ∅ gp) keep|?_];rw[Zd,c,X8,Z4 hj,Zd,Zd];show _++[_]=_++[hJ r ts[j].2];rw[e];rfl
  intro vs σ H3 %[_,B,an,ps,O,i|c];rw[Zn (Zi _)]at c;have pl:=congrArg List.length c;rw[Z6,Z6,Z6]at pl;have p3:∀q∈ps,~~~q.2=3:=λq l=>by
   have:q.2∈ps\2:=Xo %[q,l|rfl];rw[c]at this;have%[k,hk|e]:=Xn this;have%[a,b,z,rfl|_]:=h3 k hk;rw[<-e];rfl
  refine%[F,ρ,ps,by rw[<-O];exact SqL.of an,i,%[ps\2,by rw[Z6];lia|λq l=>Xo %[q,l|ρ]]|λl5 as=>?_];have s5:=ah.upd (o:=nM P w l5 (a9 ps)) as;have few: ~~~(a9 ps)<=150:=by
   have:=_T.nodup_sub (dL ps) (m:=ps\2) λk hk=>by
    have%[q,l|rfl]:=Xn hk;exact Xo %[q,bj ps q l|rfl]
   rw[Z6,Z6]at this
   lia
  refine%[a9 ps,aa,λq l=>%[(i q (bj ps q l)).1|s5 _ _ (i q (bj ps q l)).2],3,λq l=>p3 q (bj ps q l),!1,⋯|λl6 ss G pm=>?_];have s6:=ah.upd (o:= .lst (ss\0)) G;have I:=s1.trans (M.trans (B.trans s5));have pk:(ss\2).Perm ((a9 ps)\2):=pm.map _;refine kk l6 _ ss (I.trans s6) (I.free G) aa (λq l=>?_) %[pk.nodup_iff.mpr (dL ps)|λk=>?_] (by rw[pm.length_eq];exact few)
  .have a0:=pm.mem_iff.mp l;have:=i q (bj ps q a0);exact%[this.1|s6 _ _ (s5 _ _ this.2)]
  .rw[pk.mem_iff,gO,c];exact oQ h3 (λz hz=>(n z hz).2) k
def Ch{S:Str->Str->Prop}(d:c.Pairwise (λa b=>aM b a=false))(i:∀z∈c,r z∈c/\cf S z (r z))(h:p∈grp r c):p.2[0]?∣p.1:=by
 unfold grp at h;have%[z,j|rfl]:=Xn h;have%[l|m]:=List.mem_filter.mp j;have f:z∈c.filter (λx=>decide (r x=z)):=List.mem_filter.mpr %[l|m];have d:=d.sublist (List.filter_sublist (p:=λx=>decide (r x=z)));have all:∀x∈c.filter (λx=>decide (r x=z)),aM x z=false:=λx n=>by
  have%[o|s]:=List.mem_filter.mp n;rw[<-Zo s];exact(i x o).2.2 x (.refl _)
 show(c.filter λx=>decide (r x=z))[0]?∣z
 generalize c.filter (λx=>decide (r x=z))=g at all f d
 cases g with
 | nil=>cases f
 | cons y g=>
   rw[List.getElem?_cons_zero];rcases mem_cons.mp f with e|e
   .rw[e]
   .have a:=(List.pairwise_cons.mp d).1 z e;by_cases q:y=z
    .rw[q]
    .have:=dm (all y Zm) q;rw[a]at this;cases this
structure yf (S:Str->Str->Prop) (ls ns:ZB):Prop where
 nd:ns.Nodup
 mem:∀x,x∈ns↔x∈ls/\cf S x x
 so:ns.Pairwise (λa b=>aM b a=false)
 ne:ls≠[]->ns≠[]
def GH{S:Str->Str->Prop}{a:ZB}{r:Str->Str}(c:∀z∈a,r z∈a/\cf S z (r z))(h:a≠[]):(grp r a)\1≠[]:=by
 have%[z|f]:=List.exists_mem_of_ne_nil _ h;have%[e|b]:=c z f;have g:cf S (r z) (r z):=%[b.1.symm.trans b.1|λy d=>b.2 y (b.1.trans d)]
 exact List.ne_nil_of_mem (i6.mpr %[e|(c _ e).2.one g])
def GI{r:Str->Str}{xs:ZB}(h:xs.Pairwise (λa b=>aM b a=false)):((grp r xs)\1).Pairwise (λa b=>aM b a=false):=by
 unfold grp;rw[Yq];show List.Pairwise _ (List.map (λz=>z) _);rw[List.map_id'];exact h.filter _
inductive rC (mg:ZC)
 | mk (g c2 c3 c4 qs ls ts):vs=[.ref g]->GrF mg H g c2 c3 c4 qs ls ts->ls.Nodup->ls.Pairwise (λa b=>aM b a=false)-> ~~~ls<=5000->(∀l H' ns,ah H H'->H l=none->H' l<*ns\3->yf (bh qs) ls ns->Q (.ref l) H')->rC mg vs H Q E0
def dY(T:Txt K mg):↥5 "deposit_names" ["ground"] (rC mg):=by
 .exists T.aC,kZ,M,a,%[g,y,c3,B,qs,b,ts,rfl,N,nd,i,l|O];refine%[_,%["KDIhb?1RG]mA0BW0?2tU0E",0,↑(["group"],[]),↑["group"]|a]|?_];show fM _ _ [!g] H;lk;refine aE λC U=>?_
  lk;refine%[g,y,c3,B,qs,b,ts,ρ,N,nd,i,l|λY H1 ss G f1 I la _ ⟨r,a,J⟩ ab=>%[Y,ρ,%[_|SqL.of I]|U _ _ λF m=>?_]];have sg: ~~~ss= ~~~(grp r b):=by
   have:=congrArg List.length J;rwa[Z6,Z6]at this
  refine bB (λj vs n o=>(∃L,n=[L])/\ah H1 o/\o F<*vs/\vs=(((grp r b).take j)\1)\3)
   %[%[none|rfl],ah.upd m,aa|rfl] (λ_ _ _ o p=>p.2.1 _ _ I) ?_ ?_
  .intro j vs n H4 q %[%[L|rfl],e,u|c];have v:j< ~~~(grp r b):=by lia
   have e2:ss[j].2=(grp r b)[j].2:=by
    have:=congrArg (λz=>z[j]?) J;simpa [q,v]using this
   lk;refine%[_,SqL.of (e _ _ (la _ (Yc q))),_,(show atI (ss[j].2\3) ((0:Nat):Int)∣_ from cH (by rw[Zl,e2,(Ch i a (Yc v))];rfl))|?_];refine CK.mk q u (by rw[c,Z6,Z6,Yk];exact aA ⋯) %[%[_|rfl],ah.set e m,aa|?_];rw[c,X8,Z4 v,Zd,Zd];rfl
  intro vs n H3 %[_,e,d|c];rw[Zn ⋯]at c;rw[c]at d;refine O F H3 _ (G.trans e) (G.free m) d %[lA nd,λx=>?_,GI i|GH a];rw[i6];refine%[λh=>%[h.1|by have:=(a x h.1).2;rwa[h.2]at this]|λh=>%[h.1|(a x h.1).2.one h.2]]
abbrev GrB(H:Hp)(d:Addr)(ss:ZG)(i:Nat):Prop:=∃a,H d∣.dK a/\∀n:Str,(∃l,bx a (Sum.inr n)∣.ref l/\H l∣.lst ((ss.filter λt=>decide (t.2[i]? =some n))\0))\/(bx a (Sum.inr n)=none/\∀t∈ss,t.2[i]? ≠some n)
def GrB.up(h:GrB H d ss i)(s:ah H e):GrB e d ss i:=by
 have%[c,f|g]:=h;exact%[c,s _ _ f|λn=>(g n).imp_left λ⟨l,a,b⟩=>%[l,a|s _ _ b]]
abbrev cn(H:Hp)(a:ZB)(ss:ZG):Prop:=∀t∈ss,H t.1&&&t.2\3/\db a t.2
def cn.up(h:cn H b ss)(s:ah H c):cn c b ss:=λt a=>%[s _ _ (h t a).1|(h t a).2]
def GJ(h:db c k)(hi:i<2):∃n,k[i]?∣n/\n∈c:=by
 have%[a,b,z,rfl,d|e]:=h
 match i,hi with
 | 0,_=>exact%[a,ρ|d]
 | 1,_=>exact%[b,ρ|e]
abbrev TxK(H:Hp)(d:Addr):Prop:=∀a,H d∣.dK a->∃ks:ZB,a\1=ks.map Sum.inr/\ks.Nodup
inductive oR
 | mk (l:Addr) (i:Nat) (ns:ZB) (ss:ZG):vs=[.ref l,.int i]->i<2->H l∣.lst (ss\0)->cn H ns ss-> ~~~ss<=150->(∀d H',ah H H'->H d=none->GrB H' d ss i->TxK H' d->Q (.ref d) H')->oR vs H Q E0
inductive Ci (i:Nat)
 | mk (l:Addr) (ns:ZB) (ss:ZG):vs=[.ref l]->H l∣.lst (ss\0)->cn H ns ss-> ~~~ss<=150->(∀d H',ah H H'->H d=none->GrB H' d ss i->Q (.ref d) H')->Ci i vs H Q E0
inductive Cj
 | mk (l:Addr) (ns:ZB) (ss:ZG):vs=[.ref l]->H l∣.lst (ss\0)->cn H ns ss-> ~~~ss<=150->(∀d H',ah H H'->H d=none->GrB H' d ss 0->TxK H' d->Q (.ref d) H')->Cj vs H Q E0
def rD(T:Txt K mg):↥1 "grouped" ["found","side"] oR:=by
 .exists T.aH,jy,ag,hr,%[l,i,ns,ss,rfl,hi,hl,ab,al|kk];have an: ~~~(ss\0)= ~~~ss:=Z6 _;refine%[_,%["KCH2pCOR0J3Da~nl~o~p2AV31ASBBA3BDI2"|jy.nd]|?_]
  show aZ _ _ _ [!l,some (.int i),none,none] H;refine aj λD1 k1 _=>?_
  lk;intro e fe;refine k1 _ _ (aj λD2 k2 _=>aw λae hK=>?_);lk;have se:=ah.upd (o:= .dK []) fe;refine%[%[_|SqL.of (se _ _ hl)]|hK _ _ ?_];refine bz (λj σ u=>(∃o3,σ=[!l,some (.int i),!e,o3])/\ah H u/\∃m,ip (λt:Addr×ZB=>V.ref t.1) H u e m/\(m\1).Nodup/\(∀g∈m,g.2.2=(ss.take j).filter λt=>decide (t.2[i]?∣g.1))/\∀n,n∈m\1↔∃t∈ss.take j,t.2[i]?∣n)
   %[%[_|rfl],se,[],%[aa,λg B=>(nomatch B)|X1],X1,λg B=>(nomatch B)|by simp] (λj σ u h=>h.2.1 _ _ hl) ?_ ?_
  .intro j t σ u I %[%[o3|rfl],J,m,d,O,L|U];have tm:=Z8 I;have j1:j< ~~~ss:=(Xk I).1;have%[n,M|_]:=GJ (ab t tm).2 hi;have tk:ss.take (j+1)=ss.take j++[t]:=by rw[X8,I];rfl
   show jH _ _ [!l,some (.int i),!e,some (.ref t.1)] u;refine az λD4 k4 _=>?_
   lk;have gl: ~~~m<= ~~~ss:=by
    have:m\1 ⊆ ss.filterMap λt=>t.2[i]? :=λy hy=>by
     have%[t,I|e]:=(U y).mp hy;exact mem_filterMap.mpr %[t,Yv I|e]
    have:=_T.nodup_sub O λx hx=>this hx
    rw[Z6]at this;exact Yf this (length_filterMap_le _ _)
   have st:=J _ _ (ab t tm).1;have keys:∀(N:Gs (Addr×ZB)),(∀y,y∈N\1↔y∈m\1\/y=n)->∀y,y∈N\1↔∃t∈ss.take (j+1),t.2[i]?∣y:=λN h y=>by
    rw[h,U,tk]
    constructor
    .rintro(⟨t',h1,h2⟩|rfl)
     .exact%[t',Ys _ h1|h2]
     .exact%[t,Yt _ Zm|M]
    .rintro⟨t',h1,h2⟩;rcases Xl h1 with q|q
     .exact .inl %[t',q|h2]
     .rw[Xm q,M]at h2;exact .inr (Za h2).symm
   refine%[tyD (d.at_),_,SqT.of st,_,cH (show(t.2\3)[i]?∣.str n by rw[Zl,M];rfl),#[0]|λp C=>%[Sum.inr n,ρ,gD m,?_,?_,λv Y=>?_|λY=>?_]]
   .rw[ak (λc=>by rw[<-c,d.at_]at C;cases C)];exact d.at_
   .unfold gD;rw[Z6];exact aA ⋯
   .have%[q,r,e1|rfl]:=ei Y;have sp:=ah.upd (o:= .lst []) C;have hl:=sp _ _ (d.la q r).2;have G:=(d.up sp).add O r t;have ml: ~~~q.2.2<= ~~~ss:=by
     rw[L q r];exact Yf (Yh _ _) (by rw[Yk];lia)
    have ka:(lB q.1 t m)\1=m\1:=by
     unfold lB;rw[Yq];refine Yo λg _=>?_
     show(if g.1=q.1 then(g.1,g.2.1,g.2.2++[t])else g).1=_
     split<;> rfl
    refine%[tyL (SqL.of hl),_,ρ,_,hl,by rw[Z6];exact aA ⋯|k4 _ _ %[%[_|ρ],ah.set (J.trans sp) (d.la q r).1,_,G,by rw[ka];exact O,λg B=>?_|keys _ λy=>?_]]
    .unfold lB at B;have%[g0,h0|rfl]:=Xn B;rw[tk,Y2];by_cases c:g0.1=q.1
     .rw[if_pos c];show g0.2.2++[t]=_++List.filter (λt=>decide (t.2[i]?∣g0.1)) [t];rw[L g0 h0,Y6 (by rw[M,c,e1];simp),Y7]
     .rw[if_neg c,L g0 h0,Y4 (by rw[M,<-e1];simpa using λz=>c z.symm),Y7,Zx]
    .rw[ka];exact%[.inl|λh=>h.elim id λh=>by rw[h,<-e1];exact Xo %[q,r|ρ]]
   .have nk:n∉m\1:=λh=>by
     have%[q,r|c]:=Xn h;have:=g9 r;rw[c,Y]at this;exact this rfl
    have de:e≠p:=λq=>by rw[<-q,d.at_]at C;cases C
    have gp:upd (upd u p (.lst [])) e (.dK (cD (gD m) (Sum.inr n) (.ref p))) p<*[]:=by rw[ak de.symm,aa]
    refine%[tyL (SqL.of gp),[],gp,(show 0<sizeLine by decide)|k4 _ _ %[%[_|ρ],ah.set (ah.set (J.trans (ah.upd C)) fe) (J.free C),_,d.new J C n t nk,?_,λg B=>?_|keys _ λy=>?_]]
    .rw[Zd,Yy];exact%[O,by simp|λa ha b hb c=>nk (by rw[<-show b=n from Xm hb,<-c];exact ha)]
    .rw[tk,Y2];rcases Xl B with q|q
     .have c:g.1≠n:=λc=>nk (by rw[<-c];exact Xo %[g,q|rfl])
      rw[L g q,Y4 (by rw[M];simpa using λz=>c z.symm),Y7,Zx]
     .rw[Xm q];show [t]=_++List.filter (λt=>decide (t.2[i]?∣n)) [t];rw[Y6 (by rw[M];simp),Y7,filter_eq_nil_iff.mpr λt' ac c=>nk ((U n).mpr %[t',ac|Zo c])];rfl
    .rw[Zd,Yr,Yp,map_nil,Yw]
  .intro σ u %[%[o3|rfl],J,m,d,O,L|U];rw[Zn (Zi _)]at L U;refine k2 _ _ ?_;lk;refine kk e u J fe %[_,d.at_|λn=>?_] (λas h=>by rw[d.at_]at h;cases h;exact%[m\1,by unfold gD;rw[Yq,Yq];rfl|O]);cases Y:bx (gD m) (Sum.inr n)with
   | none=>
     refine .inr %[rfl|λt I c=>?_];have%[q,r|c]:=Xn ((U n).mpr %[t,I|c]);have:=g9 r;rw[c,Y]at this;exact this rfl
   | some v=>
     have%[q,r,e1|rfl]:=ei Y;refine .inl %[_,rfl|?_];rw[(d.la q r).2,L q r,e1]
def fA(T:Txt K mg):↥2 "links_by_later" ["found"] Cj:=by
 .exists T.aE,j7,d,e,%[l,c,ss,rfl,g,a,b|i];refine%[_,%["KDIG~[A0A<B",0|e]|?_];show fM _ _ [!l] H;lk;exact%[l,0,c,ss,ρ,!1,g,a,b|i]
def bJ(T:Txt K mg):↥2 "links_by_later" ["found"] (Ci 0):=
 (fA T).imp λvs H Q E ⟨l,e,ss,f,g,h,i,j⟩=>%[l,e,ss,f,g,h,i|λd m a b c _=>j d m a b c]
inductive Ck
 | mk (l:Addr) (ns:ZB) (ss:ZG):vs=[.ref l]->H l∣.lst (ss\0)->cn H ns ss-> ~~~ss<=150->(∀d H' o kvs,ah H H'->H' d∣.frz o (.dK kvs)->(∃ks:ZB,kvs\1=ks.map Sum.inr/\ks.Nodup)->(∀n:Str,(∃l,bx kvs (Sum.inr n)∣.ref l/\H' l∣.lst ((ss.filter λt=>decide (t.2[0]? =some n))\0))\/(bx kvs (Sum.inr n)=none/\∀t∈ss,t.2[0]? ≠some n))->Q (.ref d) H')->Ck vs H Q E0
def kO(T:Txt K mg):↥2 "links_by_later" ["found"] Ck:=
 (fA T).freeze.imp λvs H Q E ⟨l,i,ss,j,m,p,q,r⟩=>%[l,i,ss,j,m,p,q|λd A s u ⟨a,b,g⟩ v=>%[[d]|λy=>r d _ (y d) a (λc o e=>(j6 (λh=>by rw[Xm h,u]at e;cases e)).trans (s _ _ e)) (j4 Zm b) (v a b) λn=>(g n).imp_left λ⟨l,z,f⟩=>%[l,z|(ff λa c=>by rw[f]at c;cases c).trans f]]]
def jD(T:Txt K mg):↥2 "links_by_earlier" ["found"] (Ci 1):=by
 .exists T.aF,i8,j,m,%[l,i,ss,rfl,n,e,g|o];refine%[_,%["KDIG~[A0A+B",0|m]|?_];show fM _ _ [!l] H;lk;exact%[l,1,i,ss,ρ,!1,n,e,g|λd p a b c _=>o d p a b c]
structure ReB (ss:ZG) (rs:Gs Str):Prop where
 nd:(rs\1).Nodup
 sub:∀r∈rs,r.2∈ss/\r.2.2[1]?∣r.1
def ReB.len(h:ReB ss rs): ~~~rs<= ~~~ss:=by
 have:=_T.nodup_sub h.nd (m:=ss.filterMap λt=>t.2[1]?) λx a=>by
  have%[r,b|rfl]:=Xn a;exact mem_filterMap.mpr %[r.2|h.sub r b]
 rw[Z6]at this;exact Yf this (length_filterMap_le _ _)
def ReB.snoc(h:ReB ss rs)(d:(a,[p,y,z])∈ss)(e:y∉rs\1):ReB ss (rs++[(y,a,[p,y,z])]):=by
 refine%[?_|λr f=>?_]
 .rw[Zd,Yy];exact%[h.nd,by simp|λa g b i c=>e (by rw[<-show b=y from Xm i,<-c];exact g)]
 .rcases Xl f with q|q
  .exact h.sub r q
  .rw[Xm q];exact%[d|ρ]
abbrev cV(d:Addr)(H a:Hp):Prop:=∀b o,b≠d->H b∣o->a b∣o
def cV.trans(h:cV d H c)(g:cV d c a):cV d H a:=λb o n e=>g b o n (h b o n e)
def cV.of(h:ah H a):cV d H a:=λb o _ e=>h b o e
def GrB.x(h:GrB H b ss i)(s:cV d H f)(n:b≠d)(m:H d∣.dK o):GrB f b ss i:=by
 have%[e,g|j]:=h;exact%[e,s _ _ n g|λn=>(j n).imp_left λ⟨l,a,b⟩=>%[l,a|s _ _ (λc=>by lia) b]]
def cn.x(h:cn H e ss)(s:cV d H f)(g:H d∣.dK i):cn f e ss:=λt a=>%[s _ _ (λc=>by have b:=(h t a).1;grind) (h t a).1|(h t a).2]
def GrB.get(h:GrB f b ss i)(s:cV d f H)(nb:b≠d)(q:∀xs,f d≠some (.lst xs))(r:H p=none)(n:Str):∃e a,upd H p (.lst []) b∣.dK e/\(bx e (Sum.inr n)).getD (.ref p)= .ref a/\upd H p (.lst []) a∣.lst ((ss.filter λt=>decide (t.2[i]? =some n))\0)/\(a=p\/∃o,f a∣o):=by
 have%[e,m|u]:=h;have sp:=ah.upd (o:= .lst []) r;rcases u n with⟨l,g,j⟩|⟨g,v⟩
 .exact%[e,l,sp _ _ (s _ _ nb m),by rw[g];rfl,sp _ _ (s _ _ (λc=>q _ (c▸j)) j)|.inr %[_|j]]
 .refine%[e,p,sp _ _ (s _ _ nb m),by rw[g];rfl,?_|.inl rfl];rw[filter_eq_nil_iff.mpr λt y c=>v t y (Zo c)];exact aa
inductive yg
 | mk (b e d:Addr) (ns F:ZB) (ss:List _) (rs:Gs Str):vs=[.ref b,.ref e,.ref d]->b≠d->GrB H b ss 0->cn H ns ss-> ~~~ss<=150->H e<*F\3->H d∣.dK (gD rs)->ReB ss rs->(∀g H' new,cV d H H'->H g=none->H' g<*(new\1)\3->H' d∣.dK (gD (rs++new))->ReB ss (rs++new)->(∀r∈new,∃p∈F,r.2.2[0]?∣p)->(∀x∈F,∀y,Ed (ss\2) x y->y∈(rs++new)\1)->Q (.ref g) H')->yg vs H Q E0
def vv(T:Txt K mg):↥1 "next_edge" ["beneath","edge","reached"] yg:=by
 .exists T.aK,d7,bm,hr,%[b,e,d,ns,F,ss,rs,rfl,al,hb,an,bt,he,hd,a6|kk];have Fm: ~~~(F\3)= ~~~F:=Z6 _;have ed:e≠d:=λc=>by rw[c,hd]at he;cases he
  refine%[_,%["KCH3SBCOR1J4DOR}[0A4ASBBJ5DP~IV5+2Cn52V5+Daql3AV5+BQDI3",d7.nd|hr]|?_]
  show aZ _ _ _ [!b,!e,!d,none,none,none] H;refine aj λD1 k1 _=>?_
  lk;refine%[#[0]|λg fg=>k1 _ _ (aj λD2 k2 _=>aw λas hK=>?_)];have gd:g≠d:=λc=>by rw[c,hd]at fg;cases fg
  have s1:=ah.upd (o:= .lst []) fg;have gg:upd H g (.lst []) g<*(([]:Gs Str)\1)\3:=aa
  generalize upd H g (.lst [])=H1 at s1 gg
  lk;refine%[%[_|SqL.of (s1 _ _ he)]|hK _ _ ?_];refine bz (λi U Y=>(∃o4 o5,U=[!b,!e,!d,!g,o4,o5])/\cV d H Y/\∃new:Gs Str,Y g<*(new\1)\3/\Y d∣.dK (gD (rs++new))/\ReB ss (rs++new)/\(∀r∈new,∃p∈F,r.2.2[0]?∣p)/\∀x∈F.take i,∀y,Ed (ss\2) x y->y∈(rs++new)\1)
   %[%[_,_|rfl],cV.of s1,[],gg,by rw[Zx];exact s1 _ _ hd,by rw[Zx];exact a6,λr hr=>(nomatch hr)|λx hx=>(nomatch hx)] (λi U Y h=>h.2.1 _ _ ed he) ?_ ?_
  .intro i n U Y hn %[%[o4,o5|rfl],sm,new,hg,l,J,ae|m];have tk:F.take (i+1)=F.take i++[n]:=by rw[X8,hn];rfl
   show tR _ _ _ _ [!b,!e,!d,!g,-n,o5] Y;refine az λD3 k3 _=>aw λas hK=>?_
   lk;refine%[tyD (sm _ _ al hb.choose_spec.1),#[0]|λp hp=>?_];have%[bb,a,a0,bc,L|be]:=hb.get sm al (λxs c=>by rw[hd]at c;cases c) hp n;have ag:a≠g:=by
    rcases be with rfl|⟨o,ho⟩
    .exact λc=>by rw[c,hg]at hp;cases hp
    .exact λc=>by rw[c,fg]at ho;cases ho
   have ad:a≠d:=λc=>by
    have:=L;rw[c,ak (λc=>by rw[c,hp]at l;cases l),l]at this;cases this
   have sp:=ah.upd (o:= .lst []) hp;have hg:=sp _ _ hg;have l:=sp _ _ l;have sm:=sm.trans (cV.of sp)
   generalize upd Y p (.lst [])=H2 at a0 L sp hg l sm ⊢
   generalize a1:(ss.filter λt=>decide (t.2[0]?∣n))=ts at L
   have tm: ~~~(ts\0)= ~~~ts:=Z6 _;have bf:∀t∈ts,t∈ss/\∃y z,t.2=[n,y,z]:=λt ht=>by
    rw[<-a1]at ht;have%[h1|h2]:=List.mem_filter.mp ht;have%[x,y,z,e|_]:=(an t h1).2;have h2:=Zo h2;rw[e]at h2;exact%[h1,y,z|by rw[e,show x=n from Za h2]]
   refine%[Sum.inr n,ρ,bb,a0,a,bc,%[_|SqL.of L]|hK _ _ ?_];refine bz (λj U O=>(∃o5,U=[!b,!e,!d,!g,-n,o5])/\cV d H O/\O a∣.lst (ts\0)/\∃new:Gs Str,O g<*(new\1)\3/\O d∣.dK (gD (rs++new))/\ReB ss (rs++new)/\(∀r∈new,∃p∈F,r.2.2[0]?∣p)/\(∀x∈F.take i,∀y,Ed (ss\2) x y->y∈(rs++new)\1)/\∀t∈ts.take j,∀y,t.2[1]?∣y->y∈(rs++new)\1)
    %[%[_|rfl],sm,L,new,hg,l,J,ae,m|λt ht=>(nomatch ht)] (λj U O h=>h.2.2.1) ?_ ?_
   .intro j t U O ht %[%[o5|rfl],M,N,new,ab,G,B,C,u|ac];have%[a2,y,z|et]:=bf t (Z8 ht);have I:=(an.x M hd t a2).1;rw[et]at I;have bl:ts.take (j+1)=ts.take j++[t]:=by rw[X8,ht];rfl
    show iu _ _ _ _ [!b,!e,!d,!g,-n,some (.ref t.1)] O;refine az λD4 k4 _=>?_
    lk;refine%[_,SqT.of I,_,ρ,_,bN.k (k:=Sum.inr y) G|?_];have a3:∀(nw:Gs Str),(∀x∈(rs++new)\1,x∈(rs++nw)\1)->y∈(rs++nw)\1->(∀x∈F.take i,∀y,Ed (ss\2) x y->y∈(rs++nw)\1)/\∀t∈ts.take (j+1),∀y,t.2[1]?∣y->y∈(rs++nw)\1:=λnw mono hy=>by
     refine%[λx hx y h=>mono y (u x hx y h)|λt' a4 y' h=>?_];rw[bl]at a4;rcases Xl a4 with q|q
     .exact mono y' (ac t' q y' h)
     .rw[Xm q,et]at h;rw[<-show y=y' from Za h];exact hy
    cases hv:bx (gD (rs++new)) (Sum.inr y)with
    | some v=>
      rw[if_neg ∅];have%[q,hq,e1|_]:=ei hv;have%[n1|n2]:=a3 new (λ_ h=>h) (by rw[<-e1];exact Xo %[q,hq|rfl]);exact k4 _ _ %[%[_|rfl],M,N,new,ab,G,B,C,n1|n2]
    | none=>
      rw[if_pos (by rfl)];have hy:y∉(rs++new)\1:=λh=>by
       have%[q,hq|c]:=Xn h;have:=g9 hq;rw[c,hv]at this;exact this rfl
      have ln:=B.len;have nl: ~~~new<=150:=by rw[Z9]at ln;lia
      refine%[_,SqT.of I,_,ρ,_,eI.k (k:=Sum.inr y) G (by unfold gD;rw[Z6];exact aA ⋯)|?_];rw[dq _ hv];have e1:gD (rs++new) ++[(Sum.inr y,V.ref t.1)]=gD (rs++(new++[(y,t.1,[n,y,z])])):=by
       unfold gD;rw[<-Ze,Zd (l₂:=[_])];rfl
      rw[e1];have u1:∀c o,c≠d->O c∣o->upd O d (.dK (gD (rs++(new++[(y,t.1,[n,y,z])])))) c∣o:=λc o h e=>(ak h)▸e
      have a5:=u1 _ _ gd ab;have R:=B.snoc (p:=n) (y:=y) (z:=z) (a:=t.1) (et▸a2) hy;rw[Ze]at R;have%[n1|n2]:=a3 (new++[(y,t.1,[n,y,z])]) (λx hx=>by rw[<-Ze,Zd];exact Ys _ hx) (by rw[<-Ze,Zd];exact Yt _ Zm);refine%[tyL (SqL.of a5),_,SqT.of (u1 _ _ (λc=>by rw[c,G]at I;cases I) I),_,ρ,_,a5,by rw[Z6,Z6];exact aA ⋯|k4 _ _ %[%[_|ρ],λc o h e=>?_,(ak ag).trans (u1 _ _ ad N),_,?_,(ak gd.symm).trans aa,R,?_,n1|n2]]
      .rw[ak (au e fg)];exact u1 _ _ h (M _ _ h e)
      .rw[aa,Zd,Zd];rfl
      .intro r hr;rcases Xl hr with q|q
       .exact C r q
       .rw[Xm q];exact%[n,Z8 hn|ρ]
   .intro U O %[%[o5|rfl],M,N,new,ab,G,B,C,u|ac];rw[Zn (Zi _)]at ac;refine k3 _ _ %[%[_,_|rfl],M,new,ab,G,B,C|λx hx y ⟨z,hy⟩=>?_];rw[tk]at hx;rcases Xl hx with q|q
    .exact u x q y %[z|hy]
    .rw[Xm q]at hy;have%[t,ht|et]:=Xn hy;exact ac t (a1▸List.mem_filter.mpr %[ht|by rw[et];simp]) y (by rw[et];rfl)
  .intro U Y %[%[o4,o5|rfl],sm,new,hg,l,J,ae|m];rw[Zn (Zi _)]at m;refine k2 _ _ ?_;lk;exact kk g Y new sm fg hg l J ae m
def rE{b:Bool}(h: ¬ (not b)=true):b=true:=by
 cases b
 .exact absurd rfl h
 .rfl
def jE{rs:Gs Str}{y:Str}(h:y∈rs\1):∃r∈rs,r.1=y/\bx (gD rs) (Sum.inr y)∣.ref r.2.1:=by
 cases b:bx (gD rs) _ with
 | none=>
   have%[q,a|c]:=Xn h;have:=g9 a;rw[c,b]at this;exact(this rfl).elim
 | some v=>
   have%[q,a,e|rfl]:=ei b;exact%[q,a,e|ρ]
inductive Cl
 | mk (d st goal ns F ss rs dd k):vs=[.ref d,.str st,.str goal]->H d∣.dK (gD rs)->ReB ss rs->Lev (ss\2) st rs dd k F->k<=200->cn H ns ss->goal∈rs\1->(∀l H' (ws:List _),ah H H'->H l=none->H' l∣.lst (ws\0)->(∀t∈ws,t∈ss)->Wal (ws\2) st goal-> ~~~ws=dd goal->Q (.ref l) H')->Cl vs H Q E0
def Cm(T:Txt K mg):↥1 "way_to" ["reached","start","goal"] Cl:=by
 .exists T.aL,qQ,ab,j,%[d,st,a,ns,F,ss,rs,i,k,rfl,hd,B,lev,hk,C,l|kk];refine%[_,%["KCH3SAT02BC~GMvVU3~UE<1Daql3AT0VU3~UE<BDI]n3",qQ.nd|j]|?_]
  show aZ _ _ _ [!d,-st,-a,none] H;refine aj λD1 k1 _=>?_
  lk;have%[r,G,e1|hv]:=jE l;have get:=bN.k (k:=Sum.inr a) hd;rw[hv]at get;refine%[_,get,#[1]|λb fw=>k1 _ _ (aj λD2 k2 _=>?_)];have s1:=ah.upd (o:= .lst [V.ref r.2.1]) fw;have gw:upd H b (.lst [V.ref r.2.1]) b∣.lst (([]:ZG).reverse\0 ++[V.ref r.2.1]):=aa
  generalize upd H b (.lst [V.ref r.2.1])=H1 at s1 gw
  refine⟨λm σ n=>σ=[!d,-st,-a,!b]/\ah H n/\∃(us:ZG) (r:Str×Addr×ZB),r∈rs/\m=i r.1/\n b∣.lst (us.reverse\0 ++[.ref r.2.1])/\(∀t∈us,t∈ss)/\Wal (us\2) r.1 a/\ ~~~us+m=i a,%[_,rfl,s1,[],r,G,rfl,gw,λt h=>(nomatch h),e1|by rw[e1];simp],?_⟩;intro m σ H2 %[rfl,u,us,r,j,rfl,hw,v,y|hl];have%[ac,p,z,I|hp]:=lev.by_ r j;have e:=(B.sub r j).1;have g:=u _ _ (C _ e).1;rw[I]at g;have gl:=lev.le a l;lk;refine%[_,SqL.of hw,_,tW _ _,_,ρ,_,SqT.of g,_,ρ,ρ|bC (λh=>?_) λh=>?_]
  .have h:p≠st:=↑h
   have%[_,J|ae]:=hp.resolve_left λc=>h c.1
   have%[r',L,M|N]:=jE J;have get:=bN.k (k:=Sum.inr p) (u _ _ hd);rw[N]at get;refine⟨λO n=>∃U,U<i r.1/\O=[!d,-st,-a,!b]/\ah H n/\∃(us:ZG) (r:Str×Addr×ZB),r∈rs/\U=i r.1/\n b∣_/\(∀t∈us,t∈ss)/\Wal (us\2) r.1 a/\ ~~~us+U=i a,λ_ _ h=>h,tyL (SqL.of hw),_,SqL.of hw,_,tW _ _,_,rfl,_,SqT.of g,_,rfl,_,get,_,hw,by rw[Z9,Z6,List.length_reverse,Yj];exact aA ⋯,_,?_,rfl,ah.set u fw,r.2::us,r',L,rfl,?_,?_,?_,?_⟩
   .rw[M];lia
   .rw[aa,List.reverse_cons,Zd];rfl
   .intro t Y;rcases mem_cons.mp Y with q|q
    .exact q▸e
    .exact v t q
   .exact%[r.1,z,I.trans (by rw[M])|y]
   .rw[Zr,M];lia
  .have h:p=st:=↑h
   refine k2 _ _ ?_;lk;refine%[_,hw|λq fq=>kk q _ (r.2::us) (u.trans (ah.upd fq)) (u.free fq) ?_ (λt Y=>?_) %[r.1,z,I.trans (by rw[h])|y] (by rw[Zr];lia)]
   .rw[aa,List.reverse_append,<-List.map_reverse,List.reverse_reverse];rfl
   .rcases mem_cons.mp Y with q|q
    .exact q▸e
    .exact v t q
inductive vw
 | mk (b st goal ns ss):vs=[.ref b,.str st,.str goal]->GrB H b ss 0->cn H ns ss-> ~~~ss<=150->(∀H',ah H H'-> ¬ Rch (ss\2) st goal->Q .non H')->(∀l H' (ws:List _),ah H H'->H l=none->H' l∣.lst (ws\0)->(∀t∈ws,t∈ss)->Sho (ss\2) st goal (ws\2)-> ~~~ws<=200->Q (.ref l) H')->vw vs H Q E0
abbrev HH(H:Hp)(b d:Addr)(st a:Str)(ss:ZG)(m:Nat)(f:_L.St)(c:Hp):Prop:=∃e F rs g k,f=[!b,-st,-a,!d,!e]/\ah H c/\c e<*F\3/\c d∣.dK (gD rs)/\ReB ss rs/\Lev (ss\2) st rs g k F/\k<= ~~~rs+1/\(F≠[]->k<= ~~~rs)/\m=2*(150-rs.length) +F.length.min 1
def oS(T:Txt K mg):↥2 "shortest_way" ["beneath","start","goal"] vw:=by
 .exists T.aJ,df,a1,B,%[b,st,i,ns,ss,rfl,hb,C,ac,kn|ky];refine%[_,%["KCH3pCH4SA1BC~Gs:M>fgA4BE;~I23DH4G]oA0A4A3BCP~I23DI~JQDIG]pA3A1A2B",df.nd|B]|?_]
  show aZ _ _ _ [!b,-st,-i,none,none] H;refine aj λD1 k1 _=>?_
  lk;intro d fd;refine k1 _ _ (aj λD2 k2 _=>?_);have ae:b≠d:=λc=>by
   have%[a2,M|_]:=hb;rw[c,fd]at M;cases M
  have s1:=ah.upd (o:= .dK []) fd;have u:upd H d (.dK []) d∣.dK (gD ([]:Gs Str)):=aa
  generalize upd H d (.dK [])=H1 at s1 u
  lk;refine%[#[1]|λe fe=>k2 _ _ (aj λD3 k3 _=>?_)];have s2:=ah.upd (o:= .lst [V.str st]) fe;have N:upd H1 e (.lst [V.str st]) e<*[st]\3:=aa;have u:=s2 _ _ u;have O:=s1.trans s2
  generalize upd H1 e (.lst [V.str st])=H2 at O N u
  refine%[HH H b d st i ss,%[_,e,[st],[],_,_,ρ,O,N,u,%[X1|λ_ h=>(nomatch h)],.nil,by simp,λ_=>Zi _|ρ]|?_];intro m σ H3 %[e,F,rs,dd,k,rfl,G,N,u,I,lev,hk,ag|rfl];have fm: ~~~(F\3)= ~~~F:=Z6 _;have get:=bN.k (k:=Sum.inr i) u;have rl:=I.len;have J:i∈rs\1↔(bx (gD rs) (Sum.inr i)).isSome=true:=by
   refine%[λh=>?_|λh=>?_]
   .have%[r,_,_|e]:=jE h;rw[e];rfl
   .have%[v|hv]:=isSome_iff_exists.mp h;have%[q,hq,c|_]:=ei hv;exact c▸Xo %[q,hq|rfl]
  lk;have U:(i∉rs\1->F=[])->D3.nx [!b,-st,-i,!d,!e] H3:=λh=>by
   refine k3 _ _ (aj λD4 k4 r4=>?_);lk;refine%[_,get|bC (λq=>?_) λq=>?_]
   .have q:i∉rs\1:=λc=>by rw[J.mp c]at q;cases q
    refine r4 _ _ (kn H3 G λr=>q ?_);have%[n|hn]:=r.dst;rw[h q]at lev;exact lev.stop hn
   .have q:i∈rs\1:=J.mpr (rE q);refine k4 _ _ ?_;lk;refine%[d,st,i,ns,F,ss,rs,dd,k,ρ,u,I,lev,⋯,C.up G,q|λl H' ws s' fl hl Y al wl=>ky l H' ws (G.trans s') (G.free fl) hl Y %[λk hk=>?_,al,?_|λn hn=>?_] (by rw[wl];have:=lev.le _ q;lia)]
    .have%[t,ht|rfl]:=Xn hk;exact Xo %[t,Y t ht|rfl]
    .rw[Z6,wl];exact(lev.dst q).1
    .rw[Z6,wl];exact lev.min q hn
  refine%[_,.inl %[_,SqL.of N|ρ]|bC (λh=>?_) λh=>U λ_=>?_]
  .have h:0< ~~~F:=by
    rw[fm]at h;have:=Zo h
    lia
   refine%[_,get|bC (λq=>⟨λan H'=>∃m',m'<2*(150-rs.length) +F.length.min 1/\HH H b d st i ss m' an H',λ_ _ h=>h,b,e,d,ns,F,ss,rs,ρ,ae,hb.up G,C.up G,ac,N,u,I,λg H4 new sx fg hg as j a0 L=>?_⟩) λq=>U λc=>absurd (J.mpr (rE q)) c];have ln:=j.len;rw[Z9]at ln;have ab:F.length.min 1=1:=Nat.min_eq_right h;have kF:=ag λc=>by rw[c]at h;cases h
   refine%[_,?_,g,new\1,rs++new,_,_,ρ,(λc o ec=>sx c o (λz=>by rw[z,fd]at ec;cases ec) (G _ _ ec)),hg,as,j,lev.step j.nd (λr B=>?_) L,?_,λnn=>?_|ρ]
   .rw[ab,Z9,Z6];cases new with
    | nil=>simp
    | cons a r=>
      rw[Zr]at ln ⊢;have:(~~~r+1).min 1<=1:=Nat.min_le_right _ _
      lia
   .have%[M|h2]:=j.sub r (Yt _ B);have%[p,hp|h3]:=a0 r B;have%[x,y,z,e|_]:=(C r.2 M).2;rw[e]at h2 h3;exact%[Xo %[_,M|ρ],p,z,hp|by rw[e,show x=p from Za h3,show y=r.1 from Za h2]]
   .rw[Z9];lia
   .cases new with
    | nil=>exact absurd rfl nn
    | cons a r=>rw[Z9,Zr];lia
  .cases F with
   | nil=>rfl
   | cons x F=>exact absurd (Zf (by rw[fm,Zr];lia)) h
abbrev VD(a:ZB)(g:Str->V):List (Key×V):=a.map λz=>(Sum.inr z,g z)
def fI:∀{a:ZB},z∈a->bx (VD a g) (Sum.inr z)∣g z
 | x::a,h=>by
   by_cases e:x=z
   .subst e;exact dO rfl
   .rw[show VD _ g=(Sum.inr x,g x)::VD a g from rfl,cQ (λq=>e (Sum.inr.inj q))];exact fI ((mem_cons.mp h).resolve_left λq=>e q.symm)
def fB:∀{a:ZB},z∉a->bx (VD a g) (Sum.inr z)=none
 |[],_=>rfl
 | x::a,h=>by
   rw[Yu,not_or]at h;rw[show VD _ g=(Sum.inr x,g x)::VD a g from rfl,cQ (λq=>h.1 (Sum.inr.inj q).symm)];exact fB h.2
def Cn(h:z∈a):cD (VD a g) (Sum.inr z) v=VD a (λx=>if x=z then v else g x):=by
 unfold cD;rw[if_pos (by rw[fN,fI h];rfl)];unfold VD;rw[Yq];refine Yo λx _=>?_
 show(if(Sum.inr x)=Sum.inr z then((Sum.inr x),v)else(Sum.inr x,g x))=(Sum.inr x,if x=z then v else g x)
 by_cases e:x=z
 .rw[if_pos (congrArg _ e),if_pos e]
 .rw[if_neg (λq=>e (Sum.inr.inj q)),if_neg e]
abbrev cnt(ss:ZG)(L:ZB)(n:Str):Nat:=ss.countP λt=>decide (t.2[0]?∣n)&&t.2[1]?.all λy=>decide (y∉L)
def Eo(ss:List _)(n:Str):cnt ss [] n= ~~~(ss.filter λt=>decide (t.2[0]?∣n)):=by
 unfold cnt;rw[<-List.countP_eq_length_filter]
 simp_all
def Co(h:cnt ss L m=0)(e:Ed (ss\2) m y):y∈L:=by
 have%[z|a]:=e;have%[t,b|c]:=Xn a;have:=List.countP_eq_zero.mp h t b
 simp_all
def vx(b:m∉L):∀ss:ZG,cnt ss L n=cnt ss (L++[m]) n+(ss.filter λt=>decide (t.2[1]?∣m)).countP λt=>decide (t.2[0]?∣n)
 |[]=>rfl
 | t::ss=>by
   have c:=vx (n:=n) b ss;unfold cnt at c ⊢;rw[countP_cons,countP_cons,c];cases d:t.2[1]? with
   | none=>rw[Y4 ⋯];simp only[Option.all_none];lia
   | some y=>
     by_cases e:y=m
     .subst e;rw[Y6 (by rw[d];simp),countP_cons];by_cases a:t.2[0]?∣n
      .simp[a,b];lia
      .simp[a]
     .rw[Y4 (by rw[d];simpa using e)];by_cases a:t.2[0]?∣n
      .by_cases f:y∈L
       .simp[f]
       .simp[a,f,e];lia
      .simp[a]
structure HI (ss:ZG) (ns L R:ZB):Prop where
 nd:(L++R).Nodup
 mem:∀x,x∈L++R↔x∈ns/\cnt ss L x=0
 ord:∀i x,L[i]?∣x->∀y,Ed (ss\2) x y->y∈L.take i
abbrev HJ(f:Hp)(l m b a w e ld:Addr)(d:ZB)(ss:ZG)(k:Nat)(g:_L.St)(c:Hp):Prop:=∃h i j L R,g=[!l,!m,!b,!a,!w,h,!e,!ld,i,j]/\ah f c/\c w∣.dK (VD d λn=> .int (cnt ss L n))/\c e<*R\3/\c ld<*L\3/\HI ss d L R/\k= ~~~d-L.length
inductive yh
 | mk (l m ns ss):vs=[.ref l,.ref m]->H l<*ns\3->ns.Nodup-> ~~~ns<=63->H m∣.lst (ss\0)->cn H ns ss-> ~~~ss<=150->(∀r H' (L:ZB),ah H H'->H' r<*L\3->L.Nodup->(∀x∈L,x∈ns)->(∀i x,L[i]?∣x->∀y,Ed (ss\2) x y->y∈L.take i)->(∀x∈ns,x∉L->∃y,Ed (ss\2) x y/\y∈ns/\y∉L)->Q (.ref r) H')->yh vs H Q E0
def eY(T:Txt K mg):↥3 "laid_in_turn" ["names","found"] yh:=by
 .exists T.aI,aY,dg,hr,%[l,m,d,ss,rfl,hl,nn,nl,hm,ag,b5|kk];have nm: ~~~(d\3)= ~~~d:=Z6 _;refine%[_,%["KCH2G~KA1BCH3G]qA1BC(4ijpCOR0J5DnfgA}[2A5ASBBBN45C~T6jib?1R0W0?2xMdTN10E0CH7SBC~GM>fgA6BECH8~V]rA6BCa]s]t6A8BCaql7A8BDOR}[3A8ASBBJ9CnF~RTN4V9<EN4V9<DPMdTN4V9<EDaql6AV9<BQDI7",aY.nd,↑(["name","waits"],[(1,4)]),↑["name","waits"]|hr]|?_]
  show aZ _ _ _ [!l,!m,none,none,none,none,none,none,none,none] H;refine aj λD1 k1 _=>?_
  lk;refine%[m,d,ss,ρ,hm,ag,b5|λb H1 s1 fb hb=>k1 _ _ (aj λD2 k2 _=>?_)];lk;refine%[m,d,ss,ρ,s1 _ _ hm,ag.up s1,b5|λa H2 s2 fa ha=>k2 _ _ (aj λD3 k3 _=>?_)];have Y:=s1.trans s2;have hb:=hb.up s2;lk;intro w fw;refine k3 _ _ (aj λD4 k4 _=>aw λa6 hK=>?_);have s3:=ah.upd (o:= .dK []) fw;have gw:upd H2 w (.dK []) w∣.dK (VD (d.take 0) λn=> .int (cnt ss [] n)):=aa
  generalize upd H2 w (.dK [])=H3 at s3 gw
  have cw:=Y.trans s3;lk;refine%[%[_|SqL.of (cw _ _ hl)]|hK _ _ ?_];have cM:b≠w:=λc=>by
   have%[ab,h1|_]:=hb;rw[c,fw]at h1;cases h1
  have c0:a≠w:=λc=>by
   have%[ab,h1|_]:=ha;rw[c,fw]at h1;cases h1
  have b6:∀xs,H2 w≠some (.lst xs):=λxs c=>by rw[fw]at c;cases c
  refine bz (λi M u=>(∃o5,M=[!l,!m,!b,!a,!w,o5,none,none,none,none])/\ah H2 u/\u w∣.dK (VD (d.take i) λn=> .int (cnt ss [] n)))
   %[%[_|rfl],s3|gw] (λi M u h=>h.2.1 _ _ (Y _ _ hl)) ?_ ?_
  .intro i n M u hn %[%[o5|rfl],sm|hw];have i1:i< ~~~d:=(Xk hn).1;show lI _ _ _ _ [!l,!m,!b,!a,!w,-n,none,none,none,none] u;refine az λD5 k5 _=>?_
   lk;refine%[tyD (sm _ _ hb.choose_spec.1),#[0]|λp hp=>?_];have%[ab,al,c1,an,N|b9]:=hb.get (cV.of sm) cM b6 hp n;have sp:=ah.upd (o:= .lst []) hp;refine%[Sum.inr n,ρ,ab,c1,_,by rw[an];exact .inl %[_,SqL.of N|ρ],_,eI.k (k:=Sum.inr n) (sp _ _ hw) (by unfold VD;rw[Z6,Yk];exact aA ⋯)|k5 _ _ %[%[_|ρ],ah.set (sm.trans sp) fw|?_]];have zn:n∉d.take i:=λhm=>by
    have h:=nn;rw[<-X9 i d,Yy]at h;exact h.2.2 n hm n (Z8 (i:=0) (by rw[getElem?_drop];exact hn)) rfl
   rw[aa,dq _ (fB zn),Z6,<-Eo,X8,hn];unfold VD;rw[Zd];rfl
  .intro M u %[%[o5|rfl],sm|hw];rw[Zn (Zi _)]at hw;refine k4 _ _ (aj λD5 k5 _=>aE λa6 hK=>?_);lk;have ca:=sm _ _ (Y _ _ hl);refine%[%[_|SqL.of ca]|hK _ _ λG ac=>?_];refine bB (λj vs M H3=>(∃o1,M=[o1,!w])/\ah u H3/\H3 G<*vs/\vs=((d.take j).filter λn=>decide (cnt ss [] n=0))\3)
    %[%[none|rfl],ah.upd ac,aa|rfl] (λ_ _ _ H3 c2=>c2.2.1 _ _ ca) ?_ ?_
   .intro j vs M H4 hj %[%[o1|rfl],I,cd|hv];have get:=bN.k (k:=Sum.inr d[j]) (I _ _ hw);rw[fI (Yc hj)]at get;lk;refine%[_,get,ρ|bC (λh=>?_) λh=>?_]
    .have h:cnt ss [] d[j]=0:=↑h
     refine CK.mk hj cd (by rw[hv,Z6];have:=Yh (λn=>decide (cnt ss [] n=0)) (d.take j);rw[Yk]at this;exact aA ⋯) %[%[_|rfl],ah.set I ac,aa|?_];rw[hv,X8,Z4 hj,Y2,Zd];show _=_++(List.filter _ [d[j]])\3;rw[Y6 ↑h];rfl
    .have h:cnt ss [] d[j]≠0:=↑h
     refine CN.mk hj %[%[_|rfl],I,cd|?_];rw[hv,X8,Z4 hj,Y2,Zd];show _=_++(List.filter _ [d[j]])\3;rw[Y4 ↑h];simp
   intro vs M H3 %[_,I,as|hv];rw[Zn (Zi _)]at hv;rw[hv]at as;refine k5 _ _ (aj λD6 k6 _=>?_);have O:=I _ _ hw;have bc:=sm.trans I;have be:w≠G:=λc=>by rw[<-c,hw]at ac;cases ac
   have bf:=sm.free ac;lk;refine%[#[0]|λld fld=>k6 _ _ (aj λD7 k7 _=>?_)];have s4:=ah.upd (o:= .lst []) fld;have bl:upd H3 ld (.lst []) ld<*([]:ZB)\3:=aa;have ch:w≠ld:=λc=>by rw[<-c,O]at fld;cases fld
   have bm:G≠ld:=λc=>by rw[<-c,as]at fld;cases fld
   have bt:=s4 _ _ O;have b0:=s4 _ _ as;have b1:=bc.trans s4;have fld:=bc.free fld
   generalize upd H3 ld (.lst [])=H4 at s4 bl bt b0 b1
   refine%[HJ H2 l m b a w G ld d ss,%[_,o5,none,none,[],_,ρ,b1,bt,b0,bl,%[nn.filter _,λx=>by simp|λi x e=>by simp at e]|ρ]|?_];clear b1 bt b0 bl as O hw hv I bc sm;intro k M H5 %[o5,o8,o9,L,R,rfl,sm,hw,hR,hL,v|rfl];have Rm: ~~~(R\3)= ~~~R:=Z6 _;have dk: ~~~L+ ~~~R<= ~~~d:=by
    rw[<-Z9];exact _T.nodup_sub v.nd λx hx=>((v.mem x).mp hx).1
   lk;refine%[~~~R,.inl %[_,SqL.of hR|Rm.symm]|bC (λh=>?_) λh=>?_]
   .have h:0< ~~~R:=by have:=Zo h;lia
    refine⟨λc3 u=>∃m',m'< ~~~d-L.length/\HJ H2 l m b a w G ld d ss m' c3 u,λ_ _ h=>h,R,SqL.of hR,h,λx hx _=>%[tyL (SqL.of hR),R,hR,hx|λR1 pm=>?_]⟩;have u1:=ah.set (o:= .lst (R1\3)) sm bf;have b2:upd H5 G (.lst (R1\3)) G=_:=aa;have b3:upd H5 G (.lst (R1\3)) w=_:=(ak be).trans hw;have a0:upd H5 G (.lst (R1\3)) ld=_:=(ak bm.symm).trans hL
    generalize upd H5 G (.lst (R1\3))=H6 at u1 b2 b3 a0 ⊢
    refine%[tyL (SqL.of a0),_,a0,by rw[Z6];exact aA ⋯|az λdn c4 _=>aw λa6 hK=>?_];have u2:=ah.set (o:= .lst (L\3++[.str x])) u1 fld;have a1:upd H6 ld (.lst (L\3++[.str x])) ld<*(L++[x])\3:=by rw[aa,Zd];rfl
    have a2:upd H6 ld (.lst (L\3++[.str x])) w=_:=(ak ch).trans b3;have a3:upd H6 ld (.lst (L\3++[.str x])) G=_:=(ak bm).trans b2
    generalize upd H6 ld (.lst (L\3++[.str x]))=H7 at u2 a1 a2 a3 ⊢
    lk;refine%[tyD (u2 _ _ ha.choose_spec.1),#[0]|λp hp=>?_];have%[ab,al,an,c5,N|b9]:=ha.get (cV.of u2) c0 b6 hp x;have b4:∀{c:Addr} {o:HO},H7 c∣o->H2 c=none->al≠c:=λ{c o} h1 h2=>by
     rcases b9 with rfl|⟨o',ho⟩
     .exact λz=>by rw[z,h1]at hp;cases hp
     .exact λz=>by rw[z,h2]at ho;cases ho
    have c6:=b4 a2 fw;have da:=b4 a3 bf;have all:=b4 a1 fld;have sp:=ah.upd (o:= .lst []) hp;have O:=sp _ _ a2;have cl:=sp _ _ a3;have co:=sp _ _ a1;have u3:=u2.trans sp
    generalize upd H7 p (.lst [])=H8 at an N O cl co u3 ⊢
    clear u1 u2 a2 a3 a1 b3 b2 a0 hp sp
    generalize cs:(ss.filter λt=>decide (t.2[1]?∣x))=ts at N
    have tm: ~~~(ts\0)= ~~~ts:=Z6 _;have xL:x∉L:=λc=>(nodup_append.mp v.nd).2.2 x c x hx rfl
    have pr:(L++[x] ++R1).Perm (L++R):=by
     rw[Ze];exact pm.append_left L
    have f0:∀n,cnt ss L n=cnt ss (L++[x]) n+(ts.drop 0).countP λt=>decide (t.2[0]?∣n):=λn=>by rw[drop_zero,<-cs];exact vx xL ss
    have dd:∀t∈ts,∃n z,t.2=[n,x,z]/\n∈d/\H t.1&&&[n,x,z]\3:=λt ht=>by
     rw[<-cs]at ht;have%[h1|h2]:=List.mem_filter.mp ht;have%[h3,n,y,z,e,hn|_]:=ag t h1;have h2:=Zo h2;rw[e]at h2 h3;obtain rfl:y=x:=Za h2;exact%[n,z,e,hn|h3]
    refine%[Sum.inr x,ρ,ab,an,al,c5,%[_|SqL.of N]|hK _ _ ?_];refine bz (λj M u=>(∃o9,M=[!l,!m,!b,!a,!w,o5,!G,!ld,-x,o9])/\ah H2 u/\u al∣.lst (ts\0)/\u w∣.dK (VD d λn=> .int ((cnt ss (L++[x]) n+(ts.drop j).countP λt=>decide (t.2[0]? =some n):Nat):Int))/\u ld<*(L++[x])\3/\∃Rj:ZB,u G<*Rj\3/\(L++[x] ++Rj).Nodup/\∀y,y∈L++[x] ++Rj↔y∈d/\cnt ss (L++[x]) y+((ts.drop j).countP λt=>decide (t.2[0]?∣y))=0)
     %[%[_|rfl],u3,N,by rw[O];exact congrArg (λg=>some (HO.dK (VD d g))) (funext λn=>by rw[f0 n]),co,R1,cl,pr.nodup_iff.mpr v.nd|λy=>by rw[<-f0,pr.mem_iff];exact v.mem y] (λj M u h=>h.2.2.1) ?_ ?_
    .intro j t M u ht %[%[o9|rfl],a4,B,J,U,Rj,C,rn|rz];have jl:=(Xk ht).1;have%[n,z,et,hn|r]:=dd t (Z8 ht);have r:=a4 _ _ (Y _ _ r);have dr:ts.drop j=t::ts.drop (j+1):=by rw[List.drop_eq_getElem_cons jl,(Xk ht).2]
     rw[dr]at J rz;have get:=bN.k (k:=Sum.inr n) J;rw[fI hn]at get;have dp:=(nodup_append.mp rn)
     have rl: ~~~Rj<= ~~~d:=by
      have:=_T.nodup_sub rn λy hy=>((rz y).mp hy).1
      rw[Z9]at this
      lia
     show aZ _ _ _ [!l,!m,!b,!a,!w,o5,!G,!ld,-x,some (.ref t.1)] u;refine aj λds de _=>?_
     lk;have one:∀y,(t::ts.drop (j+1)).countP (λt=>decide (t.2[0]?∣y))=((ts.drop (j+1)).countP λt=>decide (t.2[0]?∣y)) +if y=n then 1 else 0:=λy=>by
      rw[countP_cons,et];by_cases c:y=n
      .rw[if_pos c,if_pos (by rw[c];simp)]
      .rw[if_neg c,if_neg (by simpa using λq=>c q.symm)]
     refine%[_,SqT.of r,_,ρ,_,get,_,ρ,_,SqT.of r,_,ρ,_,eI.k (k:=Sum.inr n) J (by unfold VD;rw[Z6];exact aA ⋯)|de _ _ (az λdt ct _=>?_)];rw[Cn hn];have e1:(λy=>if y=n then V.int (((cnt ss (L++[x]) n+(t::ts.drop (j+1)).countP λt=>decide (t.2[0]?∣n):Nat):Int) -1)else V.int ((cnt ss (L++[x]) y+(t::ts.drop (j+1)).countP λt=>decide (t.2[0]?∣y):Nat):Int))=λy=>V.int ((cnt ss (L++[x]) y+(ts.drop (j+1)).countP λt=>decide (t.2[0]?∣y):Nat):Int):=funext λy=>by
      rw[one,one];by_cases c:y=n
      .rw[if_pos c,c,if_pos rfl]
       congr 1
       lia
      .rw[if_neg c,if_neg c];rfl
     rw[e1];have v1:=ah.set (o:= .dK (VD d λy=>V.int ((cnt ss (L++[x]) y+(ts.drop (j+1)).countP λt=>decide (t.2[0]?∣y):Nat):Int))) a4 fw;have a5:upd u w (.dK (VD d λy=>V.int ((cnt ss (L++[x]) y+(ts.drop (j+1)).countP λt=>decide (t.2[0]?∣y):Nat):Int))) w=_:=aa;have ae:∀c o,c≠w->u c∣o->upd u w (.dK (VD d λy=>V.int ((cnt ss (L++[x]) y+(ts.drop (j+1)).countP λt=>decide (t.2[0]?∣y):Nat):Int))) c∣o:=λc o h e=>(ak h)▸e
     generalize upd u w (.dK (VD d λy=>V.int ((cnt ss (L++[x]) y+(ts.drop (j+1)).countP λt=>decide (t.2[0]?∣y):Nat):Int)))=H9 at v1 a5 ae
     have r:=ae _ _ (λc=>by rw[c,J]at r;cases r) r;have B:=ae _ _ c6 B;have U:=ae _ _ ch.symm U;have C:=ae _ _ be.symm C;have get:=bN.k (k:=Sum.inr n) a5;rw[fI hn]at get;have cv:n∉L++[x] ++Rj:=λc=>by
      have:=((rz n).mp c).2;rw[one,if_pos rfl]at this
      lia
     have bb:∀y,y≠n->(y∈L++[x] ++Rj↔y∈d/\cnt ss (L++[x]) y+((ts.drop (j+1)).countP λt=>decide (t.2[0]?∣y))=0):=λy c=>by
      rw[rz y,one,if_neg c];rfl
     lk;refine%[_,SqT.of r,_,ρ,_,get,ρ|bC (λh=>?_) λh=>?_]
     .have h:cnt ss (L++[x]) n+((ts.drop (j+1)).countP λt=>decide (t.2[0]?∣n))=0:=by
       have:=V.int.inj (Zo h)
       lia
      have tr:t.1≠G:=λc=>by rw[c,C]at r;cases r
      refine%[tyL (SqL.of C),_,SqT.of r,_,ρ,_,C,by rw[Z6];exact aA ⋯|ct _ _ %[%[_|ρ],ah.set v1 bf,(ak da).trans B,(ak be).trans a5,(ak bm.symm).trans U,Rj++[n],by rw[aa,Zd];rfl,?_|λy=>?_]]
      .rw[<-Ze,Yy];exact%[rn,by simp|λa ha b hb c=>cv (by rw[<-Xm hb,<-c];exact ha)]
      .rw[<-Ze,Yr,Yw];by_cases c:y=n
       .rw[c];exact%[λ_=>%[hn|h]|λ_=> .inr rfl]
       .rw[<-bb y c];exact%[λq=>q.resolve_right c|.inl]
     .refine ct _ _ %[%[_|rfl],v1,B,a5,U,Rj,C,rn|λy=>?_];by_cases c:y=n
      .rw[c];exact%[λq=>absurd q cv|λq=>absurd (Zf (congrArg (λi:Nat=>V.int i) q.2)) h]
      .exact bb y c
    .intro M u %[%[o9|rfl],a4,B,J,U,Rj,C,rn|rz];rw[List.drop_length]at J rz;refine c4 _ _ %[_,?_,o5,_,o9,L++[x],Rj,rfl,a4,J,C,U,%[rn,rz|λi y hi y' e=>?_]|rfl]
     .rw[Z9,Yj]
      lia
     .by_cases il:i< ~~~L
      .rw[Y9 il]at hi;rw[Xa (Yd il)];exact v.ord i y hi y' e
      .have ie:i= ~~~L:=by
        have:=(Xk hi).1;rw[Z9,Yj]at this
        lia
       subst ie;rw[Ya (Zi _),sub_self,List.getElem?_cons_zero]at hi;obtain rfl:=Za hi;rw[Xa (Zi _),Xb];exact Co ((v.mem x).mp (Yt _ hx)).2 e
   .refine k7 _ _ ?_;lk;have R0:R=[]:=by
     cases R with
     | nil=>rfl
     | cons x R=>exact absurd (Zf (by rw[Zr];lia)) h
    subst R0;have mem:=v.mem;have nd:=v.nd;rw[Zx]at mem nd;refine kk ld H5 L (Y.trans sm) hL nd (λx hx=>((mem x).mp hx).1) v.ord λx hx nx=>?_
    have:cnt ss L x≠0:=λc=>nx ((mem x).mpr %[hx|c])
    have%[t,ht|q]:=List.countP_pos_iff.mp (Nat.pos_of_ne_zero this);have%[a,b,z,e,_|hb]:=(ag t ht).2;rw[e]at q;simp only[Zv]at q;exact%[b,%[z|by rw[<-(Za (Zo q.1)),<-e];exact Xo %[t,ht|ρ]],hb|Zo q.2]
inductive vy
 | mk (l m ns ss):vs=[.ref l,.ref m]->H l<*ns\3->ns.Nodup-> ~~~ns<=63->H m∣.lst (ss\0)->cn H ns ss-> ~~~ss<=150->(∀r H' (us:ZB),ah H H'->H' r<*us\3->(∀x∈ns,Rch (ss\2) x x->x∈us)->Q (.ref r) H')->vy vs H Q E0
structure oU (H:Hp) (ks:List ZB) (ss:ZG) (r:Addr) (ws:ZG) (x:Str):Prop where
 at_:H r∣.lst (ws\0)
 sub:∀t∈ws,t∈ss
 sho:Sho ks x x (ws\2)
 len: ~~~ws<=200
def oU.up(h:oU H ks ss r ws x)(s:ah H a):oU a ks ss r ws x:=%[s _ _ h.at_,h.sub,h.sho|h.len]
inductive vz
 | mk (l m ns ss):vs=[.ref l,.ref m]->H l<*ns\3->ns.Nodup-> ~~~ns<=63->H m∣.lst (ss\0)->cn H ns ss-> ~~~ss<=150->(∀H',ah H H'->(∀x,¬ Rch (ss\2) x x)->Q .non H')->(∀r H' ws x,ah H H'->oU H' (ss\2) ss r ws x->(∀y n,Dst (ss\2) y (n+1) y-> ~~~ws<=n+1)->Q (.ref r) H')->vz vs H Q E0
def tJ(T:Txt K mg):↥4 "never_laid" ["names","found"] vy:=by
 .exists T.aO,pL,C,G,%[l,m,a,ss,rfl,n,I,nl,J,g,i|M];refine%[_,%["KDIu~0AF]u_~PA0B_~PAG~qA0A1BBB",0|G]|?_];show fM _ _ [!l,!m] H;lk;refine%[a,SqL.of n,⋯|λp N=>?_];have b:=ah.upd (o:=iq w p (aI a)) N;have y:upd H p (iq w p (aI a)) p=_:=aa
  generalize upd H p (iq w p (aI a))=H1 at b y ⊢
  refine%[l,m,a,ss,ρ,b _ _ n,I,nl,b _ _ J,g.up b,i|λr H2 L z O U Y j _=>?_];have Ll:=_T.nodup_sub U Y;refine%[r,ρ,L,SqL.of O,⋯|λq fq=>?_];have B:=ah.upd (o:=iq w q (aI L)) fq;have fl:=_T.nodup_sub (bK a) λx d=>aP.mp d
  refine%[_,(B _ _ (z _ _ y)),_,aa,⋯|λu ms fu e mn=>%[ms,aa,?_|λv us fv pu _=>?_]]
  .have:=_T.nodup_sub mn λx d=>aP.mp ((e x).mp d).1
   lia
  .refine M v _ us (b.trans (z.trans (B.trans ((ah.upd fu).trans (ah.upd fv))))) aa λx d rx=>?_
   rw[pu.mem_iff,e];exact%[aP.mpr d|λc=>Ec j (aP.mp c) rx]
def vA{d:ZB}{ss:ZG}(h:∀t∈ss,db d t.2){x y:Str}(r:Rch (ss\2) x y):x∈d:=by
 induction r with
 | one e=>
   have%[z|g]:=e;have%[t,i|f]:=Xn g;have%[a,b,c,e,j|_]:=h t i;rw[e]at f;exact((List.cons.inj f).1)▸j
 | more _ _ l=>exact l
def mE(T:Txt K mg):↥5 "shortest_ring" ["names","found"] vz:=by
 .exists T.aN,bI,ae,hr,%[l,m,N,ss,rfl,hl,nn,nl,hm,c,u,kn|ky];refine%[_,%["KCH2G~KA1BCH3~JCORG]vA0A1BJ4CH5G]wA2A4A4BDPs:M~15~J;s*M]x3~J/M~LfgA5BfgA3BDH35QDI3",bI.nd|hr]|?_]
  show aZ _ _ _ [!l,!m,none,none,none,none] H;refine aj λD1 k1 _=>?_
  lk;refine%[m,N,ss,ρ,hm,c,u|λb H1 O fb hb=>k1 _ _ (aj λD2 k2 _=>?_)];lk;refine k2 _ _ (aj λD3 k3 _=>aw λac hK=>?_);lk;refine%[l,m,N,ss,ρ,O _ _ hl,nn,nl,O _ _ hm,c.up O,u|λr H2 us s2 G I=>%[r,ρ,%[_|SqL.of G]|hK _ _ ?_]];have z:=O.trans s2;refine bz (λi U g=>(∃v o4 Y,U=[!l,!m,!b,some v,o4,Y]/\((v= .non/\∀x∈us.take i,¬ Rch (ss\2) x x)\/∃q ws x,v= .ref q/\oU g (ss\2) ss q ws x/\∀y∈us.take i,∀n,Dst (ss\2) y (n+1) y-> ~~~ws<=n+1))/\ah H2 g)
   %[%[_,_,_,rfl|.inl %[rfl|λx hx=>(nomatch hx)]]|λ_ _ e=>e] (λi U g h=>h.2 _ _ G) ?_ ?_
  .intro i n U g hn %[%[v,o4,Y,rfl|J]|j];have tk:us.take (i+1)=us.take i++[n]:=by rw[X8,hn];rfl
   show aZ _ _ _ [!l,!m,!b,some v,-n,Y] g;refine aj λD4 k4 _=>?_
   lk;refine%[b,n,n,N,ss,ρ,hb.up (s2.trans j),c.up (z.trans j),u,λH3 B nr=>k4 _ _ (az λD5 k5 _=>?_)|λq H3 ws B _ C sub rr rl=>k4 _ _ (az λD5 k5 _=>?_)]
   .lk;rw[if_neg ∅];refine k5 _ _ %[%[v,_,_,rfl|J.imp (λh=>%[h.1|λx hx=>?_]) λ⟨q,ws,x,e,C,o⟩=>%[q,ws,x,e,C.up B|λy a m d=>?_]]|j.trans B]
    .rw[tk]at hx;rcases Xl hx with h'|h'
     .exact h.2 x h'
     .rw[Xm h'];exact nr
    .rw[tk]at a;rcases Xl a with h'|h'
     .exact o y h' m d
     .rw[Xm h']at d;exact(nr d.rch).elim
   .lk;rw[if_pos ∅];have wl:∀zs:ZG,~~~(zs\0)= ~~~zs:=λzs=>Z6 _
    have p:=λm d=>by
     have:=rr.min m d;rwa[Z6]at this
    have put:(∀y∈us.take i,∀m,Dst (ss\2) y (m+1) y-> ~~~ws<=m+1)->D5.nx [!l,!m,!b,!q,-n,!q] H3:=λo=>k5 _ _ ⟨%[_,_,_,rfl|.inr ⟨q,ws,n,rfl,%[C,sub,rr|rl],λy a m d=>by
     rw[tk]at a;rcases Xl a with h'|h'
     .exact o y h' m d
     .rw[Xm h']at d;exact p m d⟩],j.trans B⟩
    rcases J with⟨rfl,ab⟩|⟨q',L,x',rfl,M,o⟩
    .rw[if_pos ∅];exact put λy a m d=>(ab y a d.rch).elim
    .rw[if_neg ∅];refine%[_,.inl %[_,SqL.of C|(wl ws).symm],_,.inl %[_,SqL.of (B _ _ M.at_)|(wl L).symm]|bC (λlt=>put λy a m d=>?_) λlt=>k5 _ _ %[%[_,_,_,ρ|.inr %[q',L,x',ρ,M.up B|λy a m d=>?_]]|j.trans B]]
     .have:=o y a m d;have:=Zo lt
      lia
     .rw[tk]at a;rcases Xl a with h'|h'
      .exact o y h' m d
      .rw[Xm h']at d;have:=p m d
       lia
  .intro U g %[%[v,o4,Y,rfl|J]|j];rw[Zn (Zi _)]at J;refine k3 _ _ ?_;lk;rcases J with⟨rfl,h⟩|⟨q,ws,x,rfl,C,o⟩
   .exact kn g (z.trans j) λx rx=>h x (I x (vA (λt ht=>(c t ht).2) rx) rx) rx
   .exact ky q g ws x (z.trans j) C λy n d=>o y (I y (vA (λt ht=>(c t ht).2) d.rch) d.rch) n d
def jF{S:Str->Str->Prop}(h:cf S z m)(c:cz S z x):cf S x m:=%[c.symm.trans h.1|λy d=>h.2 y (c.trans d)]
def iS(h:cE H d qs)(a b:Str)(s:bh qs a b):a∈d/\b∈d:=by
 have%[q,f|e]:=s;rcases(h q f).2 with⟨g,x,y,c,_,i,j,_⟩|⟨g,x,y,c,_⟩
 .rw[c]at e;simp only[List.cons.injEq,V.str.injEq,and_true]at e;rw[<-e.2.1,<-e.2.2];exact%[i|j]
 .rw[c]at e;simp at e
structure ja (mg:ZC) (H:Hp) (g:Addr) (qs:ZN) (ls:ZB) (ts:ZG):Prop where
 gr:∃c2 c3 c4,GrF mg H g c2 c3 c4 qs ls ts
 nd:ls.Nodup
 so:ls.Pairwise (λa b=>aM b a=false)
 ll: ~~~ls<=63
 tl: ~~~ts<=150
 t3:∀k∈ts\2,db ls k
 sm:∀k∈ts\2,∀z∈k,Sml z
 lm:∀z∈ls,Sml z
def ja.up(h:ja mg H g qs a ts)(s:ah H b):ja mg b g qs a ts:=by
 have%[c,c3,d|e]:=h.gr;exact%[%[c,c3,d|e.up s],h.nd,h.so,h.ll,h.tl,h.t3,h.sm|h.lm]
def ja.ends(h:ja mg H g qs f ts)(i:bG (bh qs) (ts\2) lk)(j:k∈lk):∃a b z,k=[a,b,z]/\(a∈f/\cf (bh qs) a a)/\b∈f/\cf (bh qs) b b:=by
 have%[r,c3,s|l]:=h.gr;have%[a,b,z,m,n,o,c,d|rfl]:=(i.mem k).mp j;have%[x,y,u,e,p|q]:=h.t3 _ o;simp only[List.cons.injEq,and_true]at e;have%[rfl,rfl|rfl]:=e;have ws:=iS l.sa;exact%[m,n,z,ρ,%[c.1.within ws p|jF c c.1],d.1.within ws q|jF d d.1]
def ja.short(h:ja mg H g qs o ts)(d:bG (bh qs) (ts\2) lk)(f:k∈lk): ~~~k<=3/\∀z∈k,Sml z:=by
 have%[p,c3,q|i]:=h.gr;have%[a,b,z,r,s,c,j,l|rfl]:=(d.mem k).mp f;have%[x,y,u,e,m|n]:=h.t3 _ c;simp only[List.cons.injEq,and_true]at e;have%[rfl,rfl|rfl]:=e;have ws:=iS i.sa;exact%[Zi _|Gz (h.lm _ (j.1.within ws m)) (h.lm _ (l.1.within ws n)) (h.sm _ c z ∅)]
def ja.names(h:ja mg H g qs d ts)(f:bG (bh qs) (ts\2) lk)(c:yf (bh qs) d i):∀k∈lk,db i k:=λk j=>by
 have%[a,b,z,e,l|m]:=h.ends f j;exact%[a,b,z,e,(c.mem a).mpr l|(c.mem b).mpr m]
def ja.ties(h:ja mg H g qs c ts)(d:bG (bh qs) (ts\2) lk):∀k∈lk,db c k:=λk f=>by
 have%[a,b,z,e,i|j]:=h.ends d f;exact%[a,b,z,e,i.1|j.1]
def oV(a:aD H ss)(h:∀k∈ss\2,db b k):cn H b ss:=λt q=>%[(a t q).2|h _ (Xo %[t,q|rfl])]
inductive rF (mg:ZC)
 | mk (g:Addr) (qs:ZN) (ls:ZB) (ts:ZG):vs=[.ref g]->ja mg H g qs ls ts->(∀lk,bG (bh qs) (ts\2) lk->∀x,¬ Rch lk x x)->(∀l H' ns (ss:ZG),ah H H'->H' l∣.lst (ss\0)->cn H' ns ss-> ~~~ss<=150->bG (bh qs) (ts\2) (ss\2)->Q (.ref l) H')->rF mg vs H Q E0
def eZ(T:Txt K mg):↥6 "untorn_links" ["ground"] (rF mg):=by
 .exists T.aP,dU,C,d,%[g,qs,e,ts,rfl,a,G|I];have%[j,c3,n|o]:=a.gr;have U:=a.ll;refine%[_,%["KCH1G]yA0BCH2G]zAG~rA0BA1BCPM~12~JD&QDI1",dU.nd|d]|?_]
  show aZ _ _ _ [!g,none,none] H;refine aj λY k1 _=>?_
  lk;refine%[g,j,c3,n,qs,e,ts,ρ,o,a.nd,a.so,⋯,a.tl,a.t3|λm H1 ss p fm q J lk u=>k1 _ _ (aj λD2 k2 _=>?_)];lk;refine%[g,j,c3,n,qs,e,ts,ρ,o.up p,a.nd,a.so,⋯|λl H2 v i fl L c=>?_];have y:=oV J (a.names lk c);refine%[l,m,v,ss,ρ,L,c.nd,?_,i _ _ q,y.up i,u,λz B _=>k2 _ _ (aj λD3 M _=>?_)|λr z ws x B N _=>(G _ lk x N.sho.rch).elim]
  .have:=_T.nodup_sub c.nd λx O=>((c.mem x).mp O).1
   lia
  .lk;rw[if_neg ∅];refine M _ _ ?_;lk;have b:=i.trans B;exact I m z v ss (p.trans b) (b _ _ q) (y.up b) u lk
abbrev SD(M:ZB):List (Key×V):=VD M λ_=> .bl true
def Cp:∃M2,cD (SD M) (Sum.inr x) (.bl true)=SD M2/\(M.Nodup->M2.Nodup)/\∀y,y∈M2↔y∈M\/y=x:=by
 by_cases c:x∈M
 .refine%[M,?_,λh=>h|λy=>%[.inl|λh=>h.elim (λh=>h) λe=>e▸c]];unfold SD;rw[Cn c]
  simp_all
 .refine%[M++[x],?_,λh=>nodup_append.mpr %[h,by simp|λa d b f e=>c (by rw[<-Xm f,<-e];exact d)]|λy=>by simp];unfold SD;rw[dq _ (fB c)];unfold VD;rw[Zd];rfl
def vB:∀{R M:ZB},∃M2,gu (SD M) (SD R)=SD M2/\(M.Nodup->M2.Nodup)/\∀y,y∈M2↔y∈M\/y∈R
 |[],M=>%[M,rfl,λh=>h|λy=>by simp]
 | x::R,M=>by
   have%[M1,a,n1|b]:=Cp;have%[M2,c,d|m2]:=vB (R:=R);refine%[M2,?_,λh=>d (n1 h)|λy=>by rw[m2,b,Yu,or_assoc]];show gu (cD _ (Sum.inr x) (.bl true)) (SD R)=_;rw[a,c]
def lC(r:Rch ks a c):∃y,Ed ks a y/\(y=c\/Rch ks y c):=by
 induction r with
 | one e=>exact%[_,e|.inl rfl]
 | more _ e b=>
   have%[y,h|q]:=b;exact%[y,h|.inr (q.elim (λq=>q▸ .one e) λq=> .more q e)]
def GK{b:ZB}{ss:ZG}(h:∀t∈ss,db b t.2){x y:Str}(r:Rch (ss\2) x y):y∈b:=by
 have:∃a,Ed (ss\2) a y:=by
  cases r with
  | one e=>exact%[_|e]
  | more _ e=>exact%[_|e]
 have%[a,z|d]:=this;have%[t,f|c]:=Xn d;have%[u,v,w,e,_|g]:=h t f;rw[e]at c;exact((List.cons.inj (List.cons.inj c).2).1)▸g
structure Rea (H:Hp) (ks:List ZB) (rs:Gs Str):Prop where
 nd:(rs\1).Nodup
 ad:(rs.map (·.2.1)).Nodup
 at_:∀r∈rs,H r.2.1∣.dK (SD r.2.2)/\r.2.2.Nodup/\∀y,y∈r.2.2↔Rch ks r.1 y
inductive yi
 | mk (l m ns ss):vs=[.ref l,.ref m]->H l<*ns\3->ns.Nodup-> ~~~ns<=63->H m∣.lst (ss\0)->cn H ns ss-> ~~~ss<=150->(∀x,¬ Rch (ss\2) x x)->(∀d H' rs,ah H H'->H d=none->H' d∣.dK (gD rs)->Rea H' (ss\2) rs->(∀r∈rs,r.2.1≠d/\H r.2.1=none)->(∀x,x∈rs\1↔x∈ns)->Q (.ref d) H')->yi vs H Q E0
def oW(T:Txt K mg):↥4 "all_beneath" ["names","found"] yi:=by
 .exists T.aM,cR,c1,u,%[l,m,ns,ss,rfl,hl,nn,nl,hm,O,bf,nr|kk];refine%[_,%["KCH2G~KA1BCH3pCORG~qA0A1BJ4Cnp34DOR}[2A4ASBBJ5CnoT34V5+Da~:~;T34AT3V5+BDI3",cR.nd|u]|?_]
  show aZ _ _ _ [!l,!m,none,none,none,none] H;refine aj λD1 k1 _=>?_
  lk;refine%[m,ns,ss,ρ,hm,O,bf|λb H1 s1 fb hb=>k1 _ _ (aj λD2 k2 _=>?_)];lk;intro d fd;refine k2 _ _ (aj λD3 k3 _=>aw λbl hK=>?_);have s2:=ah.upd (o:= .dK []) fd;have hd:upd H1 d (.dK []) d∣.dK (gD ([]:Gs Str)):=aa;have Y:=s1.trans s2;have bm:b≠d:=λc=>by
   have%[bt,G|_]:=hb;rw[c,fd]at G;cases G
  have b0:=s1.free fd;have b1:=hb.up s2
  generalize upd H1 d (.dK [])=H2 at s2 hd Y b1
  lk;refine%[l,m,ns,ss,ρ,Y _ _ hl,nn,nl,Y _ _ hm,O.up Y,bf|λr H3 L s3 an Ln Ls cs rest=>%[r,ρ,%[_|SqL.of an]|hK _ _ ?_]];have c2:=s2.trans s3;have b2:∀x∈ns,x∈L:=λx hx=>Decidable.byContradiction λc=>B1 (ks:=ss\2) (U:=ns.filter λx=>decide (x∉L)) (λx hx=>by
   have%[G|J]:=List.mem_filter.mp hx;have%[y,e,yn|yl]:=rest x G (Zo J);exact%[y,List.mem_filter.mpr %[yn|Zf yl]|e]) nr (List.mem_filter.mpr %[hx|Zf c])
  have Lm: ~~~(L\3)= ~~~L:=Z6 _;have Ll:=_T.nodup_sub Ln Ls;have b3:=b1.up s3;have as:=Y.trans s3;refine bz (λi σ C=>(∃o4 o5,σ=[!l,!m,!b,!d,o4,o5])/\cV d H3 C/\∃rs:Gs Str,C d∣.dK (gD rs)/\Rea C (ss\2) rs/\(∀r∈rs,r.2.1≠d/\H3 r.2.1=none)/\rs\1=L.take i)
   %[%[_,_|rfl],λ_ _ _ e=>e,[],s3 _ _ hd,%[X1,X1|λ_ h=>(nomatch h)],λ_ h=>(nomatch h)|rfl] (λi σ C h=>h.2.1 _ _ (λc=>by have:=s3 _ _ hd;rw[<-c,an]at this;cases this) an) ?_ ?_
  .intro i n σ C hn %[%[o4,o5|rfl],sm,rs,ac,g,rn|rk];have tk:L.take (i+1)=L.take i++[n]:=by rw[X8,hn];rfl
   show aZ _ _ _ [!l,!m,!b,!d,-n,o5] C;refine aj λD4 k4 _=>?_
   lk;intro e fe;have B:e≠d:=λc=>by rw[c,ac]at fe;cases fe
   have a0:n∉rs\1:=by
    rw[rk];intro c;have%[j|hj]:=Xe c;have jl:=(Xk hj).1;rw[Yk]at jl;rw[Yb ⋯]at hj;have:=fK Ln hj hn
    lia
   have rl: ~~~rs<=63:=by
    have: ~~~(rs\1)<= ~~~L:=by rw[rk,Yk];lia
    rw[Z6]at this
    lia
   have e3:H3 e=none:=by
    cases q:H3 e with
    | none=>rfl
    | some o=>rw[sm e o B q]at fe;cases fe
   refine%[_,eI.k (k:=Sum.inr n) (ah.upd fe _ _ ac) (by unfold gD;rw[Z6];exact aA ⋯)|k4 _ _ ?_];rw[dq _ (kN a0),show gD rs++[(Sum.inr n,V.ref e)]=gD (rs++[(n,e,[])]) by unfold gD;rw[Zd];rfl];have he:upd (upd C e (.dK [])) d (.dK (gD (rs++[(n,e,[])]))) e∣.dK (SD []):=by rw[ak B,aa];rfl
   have b4:upd (upd C e (.dK [])) d (.dK (gD (rs++[(n,e,[])]))) d=_:=aa;have o4:∀c o,c≠d->C c∣o->upd (upd C e (.dK [])) d (.dK (gD (rs++[(n,e,[])]))) c∣o:=λc o h q=>by rw[ak h,ak (au q fe)];exact q
   generalize upd (upd C e (.dK [])) d (.dK (gD (rs++[(n,e,[])])))=H4 at he b4 o4
   have a1:cV d H3 H4:=λc o h q=>o4 c o h (sm c o h q)
   refine az λD5 k5 _=>aw λbl hK=>?_
   lk;refine%[tyD (a1 _ _ bm b3.choose_spec.1),#[0]|λp hp=>?_];have%[bt,a,b5,ct,ag|cv]:=b3.get a1 bm (λxs c=>by rw[s3 _ _ hd]at c;cases c) hp n;have sp:=ah.upd (o:= .lst []) hp;have he:=sp _ _ he;have a2:=sp _ _ b4;have a3:=a1.trans (cV.of sp);have a4:∀c o,c≠d->C c∣o->upd H4 p (.lst []) c∣o:=λc o h q=>sp _ _ (o4 c o h q)
   have ae:a≠e:=by
    rcases cv with rfl|⟨o,ho⟩
    .exact λc=>by rw[c]at hp;have:=he;rw[c,aa]at this;cases this
    .exact λc=>by rw[c,e3]at ho;cases ho
   generalize upd H4 p (.lst [])=H5 at b5 ag he a2 a3 a4 ⊢
   generalize b6:(ss.filter λt=>decide (t.2[0]?∣n))=ts at ag
   have tm: ~~~(ts\0)= ~~~ts:=Z6 _;have cw:∀t∈ts,t∈ss/\∃y z,t.2=[n,y,z]:=λt ht=>by
    rw[<-b6]at ht;have%[G|J]:=List.mem_filter.mp ht;have%[x,y,z,e|_]:=(O t G).2;have J:=Zo J;rw[e]at J;exact%[G,y,z|by rw[e,show x=n from Za J]]
   refine%[Sum.inr n,ρ,bt,b5,a,ct,%[_|SqL.of ag]|hK _ _ ?_];refine bz (λj σ N=>(∃o5,σ=[!l,!m,!b,!d,-n,o5])/\cV e H5 N/\∃M:ZB,N e∣.dK (SD M)/\M.Nodup/\(∀y∈M,Rch (ss\2) n y)/\∀t∈ts.take j,∀y,t.2[1]?∣y->y∈M/\∀z,Rch (ss\2) y z->z∈M)
    %[%[_|rfl],λ_ _ _ q=>q,[],he,X1,λ_ h=>(nomatch h)|λ_ h=>(nomatch h)] (λj σ N h=>h.2.1 _ _ ae ag) ?_ ?_
   .intro j t σ N ht %[%[o5|rfl],v,M,hM,Mn,Mr|Md];have%[b9,y,z|et]:=cw t (Z8 ht);show aZ _ _ _ [!l,!m,!b,!d,-n,some (.ref t.1)] N;refine aj λD6 k6 _=>?_
    lk;have a5:∀c o,c≠d->c≠e->H3 c∣o->N c∣o:=λc o G J q=>v c o J (a3 c o G q)
    have te:∀c zs,H3 c&&&zs->N c&&&zs:=λc zs q=>a5 c _ (λz=>by rw[z,s3 _ _ hd]at q;cases q) (λz=>by rw[z,e3]at q;cases q) q
    have t6:=te _ _ (as _ _ (O t b9).1);rw[et]at t6;have a6:=v d _ B.symm a2;have al:bx (gD (rs++[(n,e,([]:ZB))])) (Sum.inr n)∣.ref e:=by
     have%[r,cM,e1|hv]:=jE (rs:=rs++[(n,e,[])]) (y:=n) ∅;rcases Xl cM with q|q
     .exact(a0 (by exact e1▸Xo %[r,q|rfl])).elim
     .rw[Xm q]at hv;exact hv
    have gn:=bN.k (k:=Sum.inr n) a6;rw[al]at gn;have ed:Ed (ss\2) n y:=%[z|et▸Xo %[t,b9|rfl]]
    have yt:=cs i n hn y ed;rw[<-rk]at yt;have%[M1,e1,n1|m1]:=Cp (M:=M) (x:=y);have bb:∀U:ZB,U.Nodup->(∀x∈U,Rch (ss\2) n x)-> ~~~U<=63:=λU G J=>Yf (_T.nodup_sub G λx hx=>GK (λt ht=>(O t ht).2) (J x hx)) nl
    have Ml:=bb M Mn Mr;refine%[_,gn,_,SqT.of t6,_,ρ,e,ρ,_,eI.k (k:=Sum.inr y) hM (by unfold SD VD;rw[Z6];exact aA ⋯)|k6 _ _ (az λD7 k7 _=>?_)];rw[e1];have ca:∀x∈M1,Rch (ss\2) n x:=λx hx=>((m1 x).mp hx).elim (Mr x) λq=>q▸ .one ed
    have bc:upd N e (.dK (SD M1)) e∣.dK (SD M1):=aa;have u7:∀c o,c≠e->N c∣o->upd N e (.dK (SD M1)) c∣o:=λc o h q=>(ak h)▸q
    generalize upd N e (.dK (SD M1))=H7 at bc u7
    have cd:=bN.k (k:=Sum.inr n) (u7 _ _ B.symm a6);rw[al]at cd;have%[ry,I,ey|gy]:=jE (rs:=rs++[(n,e,[])]) (y:=y) (Zd▸Ys _ yt);have I:ry∈rs:=by
     rcases Xl I with q|q
     .exact q
     .rw[Xm q]at ey;exact(nr n (.one (by rw[<-show n=y from ey]at ed;exact ed))).elim
    have ch:=bN.k (k:=Sum.inr y) (u7 _ _ B.symm a6);rw[gy]at ch;have be:ry.2.1≠e:=au (g.at_ ry I).1 fe;have c0:=u7 _ _ be (v _ _ be (a4 _ _ (rn ry I).1 (g.at_ ry I).1));lk;have%[M2,e2,n2|m2]:=vB (R:=ry.2.2) (M:=M1);have ab:=(g.at_ ry I).2;rw[ey]at ab;have c3:=bb M1 (n1 Mn) ca;have Rl:=bb ry.2.2 ab.1 λx hx=>(Rch.one ed).trans ((ab.2 x).mp hx)
    refine%[_,cd,tyD (bc),_,SqT.of (u7 _ _ (λc=>by rw[c,hM]at t6;cases t6) t6),_,ρ,_,ch,ry.2.1,ρ,_,_,be.symm,bc,c0,by unfold SD VD;rw[Z6,Z6,PySem.sizeLine_eq];lia|?_];rw[e2];refine k7 _ _ %[%[_|rfl],λc o h q=>(ak h)▸u7 c o h (v c o h q),M2,aa,n2 (n1 Mn),λx hx=>?_|λt' cl x ex=>?_]
    .rcases(m2 x).mp hx with q|q
     .exact ca x q
     .exact(Rch.one ed).trans ((ab.2 x).mp q)
    .rw[X8,ht]at cl;rcases Xl cl with q|q
     .have%[G|J]:=Md t' q x ex;exact%[(m2 x).mpr (.inl ((m1 x).mpr (.inl G)))|λz hz=>(m2 z).mpr (.inl ((m1 z).mpr (.inl (J z hz))))]
     .rw[show t'=t from Xm q,et]at ex;obtain rfl:y=x:=Za ex;exact%[(m2 y).mpr (.inl ((m1 y).mpr (.inr rfl)))|λz hz=>(m2 z).mpr (.inr ((ab.2 z).mpr hz))]
   .intro σ N %[%[o5|rfl],v,M,hM,Mn,Mr|Md];rw[Zn (Zi _)]at Md;have all:∀y,y∈M↔Rch (ss\2) n y:=λy=>%[Mr y|λr=>by
     have%[x,%[z|hz]|q]:=lC r;have%[t,ht|et]:=Xn hz;have h:=Md t (b6▸List.mem_filter.mpr %[ht|by rw[et];simp]) x (by rw[et];rfl);exact q.elim (λq=>q▸h.1) λq=>h.2 y q]
    have co:∀r∈rs,r.2.1≠e:=λr u=>au (g.at_ r u).1 fe
    refine k5 _ _ %[%[_,_|rfl],λc o h q=>v c o (au q e3) (a3 c o h q),rs++[(n,e,M)],?_,%[?_,?_|λr u=>?_],λr u=>?_|by rw[Zd,rk,tk];rfl]
    .rw[v d _ B.symm a2];unfold gD;rw[Zd,Zd];rfl
    .rw[Zd,Yy];exact%[g.nd,by simp|λa ha b hb c=>a0 (by rw[<-show b=n from Xm hb,<-c];exact ha)]
    .rw[Zd,Yy];refine%[g.ad,by simp|λa ha b hb c=>?_];have%[r,u|rfl]:=Xn ha;exact co r u (c.trans (Xm hb))
    .rcases Xl u with q|q
     .exact%[v _ _ (co r q) (a4 _ _ (rn r q).1 (g.at_ r q).1)|(g.at_ r q).2]
     .rw[Xm q];exact%[hM,Mn|all]
    .rcases Xl u with q|q
     .exact rn r q
     .rw[Xm q];exact%[B|e3]
  .intro σ C %[%[o4,o5|rfl],sm,rs,ac,g,rn|rk];rw[Zn (Zi _)]at rk;refine k3 _ _ ?_;lk;exact kk d C rs (λc o e=>sm c o (au e b0) (as _ _ e)) b0 ac g (λr u=>%[(rn r u).1|as.free (rn r u).2]) λx=>rk▸%[Ls x|b2 x]
structure ReF (H:Hp) (ks:List ZB) (d:Addr) (rs:Gs Str):Prop where
 at_:∃o,H d∣.frz o (.dK (gD rs))
 nd:(rs\1).Nodup
 in_:∀r∈rs,(∃o,H r.2.1∣.frz o (.dK (SD r.2.2)))/\r.2.2.Nodup/\∀y,y∈r.2.2↔Rch ks r.1 y
def ReF.up(h:ReF H ks d rs)(s:ah H b):ReF b ks d rs:=
 %[h.at_.imp λo e=>s _ _ e,h.nd|λr a=>%[(h.in_ r a).1.imp λo e=>s _ _ e|(h.in_ r a).2]]
def ReF.same{H:Hp}{ks a:List ZB}{d:Addr}{rs:Gs Str}(h:ReF H ks d rs)(e:∀k,k∈ks↔k∈a):ReF H a d rs:=%[h.at_,h.nd|by rw[<-oP e];exact h.in_]
inductive yj
 | mk (l m ns ss):vs=[.ref l,.ref m]->H l<*ns\3->ns.Nodup-> ~~~ns<=63->H m∣.lst (ss\0)->cn H ns ss-> ~~~ss<=150->(∀x,¬ Rch (ss\2) x x)->(∀d H' rs,ah H H'->ReF H' (ss\2) d rs->(∀x,x∈rs\1↔x∈ns)->Q (.ref d) H')->yj vs H Q E0
def pU(T:Txt K mg):↥4 "all_beneath" ["names","found"] yj:=by
 refine(oW T).freeze.imp λvs H Q E zqw=>?_;have%[l,m,f,ss,g,h,i,j,n,p,s,u|v]:=zqw;refine %[l,m,f,ss,g,h,i,j,n,p,s,u|λd C rs y G z a A B=>%[d::rs.map _|λI=>v d _ rs (λc o e=>?_) %[%[_|j4 Zm z],a.nd|λr b=>%[%[_|j4 (Zk _ (Xo %[r,b|ρ])) (a.at_ r b).1]|(a.at_ r b).2]] B]]
 rw[j6]
 .exact y c o e
 .intro q;rcases mem_cons.mp q with rfl|q
  .lia
  .have%[r,b|rfl]:=Xn q;rw[(A r b).2]at e;cases e
inductive yk (mg:ZC)
 | mk (g qs ls ts):vs=[.ref g]->ja mg H g qs ls ts->(∀lk,bG (bh qs) (ts\2) lk->∀x,¬ Rch lk x x)->(∀d H' rs lk ns,ah H H'->bG (bh qs) (ts\2) lk->yf (bh qs) ls ns->ReF H' lk d rs->(∀x,x∈rs\1↔x∈ns)->Q (.ref d) H')->yk mg vs H Q E0
def oX(T:Txt K mg):↥7 "earlier_ones" ["ground"] (yk mg):=by
 .exists T.aQ,ik,q,c,%[g,qs,e,ts,rfl,a,n|r];have%[u,c3,v|y]:=a.gr;have U:=a.ll;refine%[_,%["KCH1G~sA0BDIG]!AG~rA0BA1B",ik.nd|c]|?_]
  show aZ _ _ _ [some _,none] H;refine aj λY k1 _=>?_
  lk;refine%[g,qs,e,ts,ρ,a,n|λl H1 z ss o B C G lk=>k1 _ _ ?_];lk;refine%[g,u,c3,v,qs,e,ts,ρ,y.up o,a.nd,a.so,⋯|λm H2 i j fm I b=>?_];have nl: ~~~i<=63:=by
   have:=_T.nodup_sub b.nd λx J=>((b.mem x).mp J).1
   lia
  refine%[m,l,i,ss,ρ,I,b.nd,nl,j _ _ B,λt p=>%[j _ _ (C t p).1|a.names lk b _ (Xo %[t,p|ρ])],G,n _ lk|λd L rs M N O=>r d L rs _ i (o.trans (j.trans M)) lk b N O]
def yo{a:ZB}{g h:Str->V}{z:Str}(b:z∉a)(e:∀x∈a,h x=g x):cD (VD a g) (Sum.inr z) (h z)=VD (a++[z]) h:=by
 rw[dq _ (fB b)];unfold VD;rw[Zd];exact congrArg (·++_) (Yo λx c=>by rw[e x c])
abbrev Cq(ks:List ZB)(a:Str->Int)(x:Str):Prop:=(∀y,Ed ks x y->a y<a x)/\((∃y,Ed ks x y/\a x=a y+1)\/((∀y,¬ Ed ks x y)/\a x=0))
structure ES (lk:List ZB) (ns L:ZB) (lv:Str->Int):Prop where
 mem:∀x,x∈L↔x∈ns
 at_:∀x∈L,Cq lk lv x
inductive rG (mg:ZC)
 | mk (g:Addr) (qs:ZN) (ls:ZB) (ts:ZG):vs=[.ref g]->ja mg H g qs ls ts->(∀lk,bG (bh qs) (ts\2) lk->∀x,¬ Rch lk x x)->(∀d H' lk ns L lv,ah H H'->H d=none->bG (bh qs) (ts\2) lk->yf (bh qs) ls ns->H' d∣.dK (VD L λx=> .int (lv x))->ES lk ns L lv->Q (.ref d) H')->rG mg vs H Q E0
def Cr(T:Txt K mg):↥8 "levels" ["ground"] (rG mg):=by
 .exists T.aT,f9,cl,hr,%[g,qs,ls,ts,rfl,hg,nr|kk];have%[c2,c3,c4|gr]:=hg.gr;have ll:=hg.ll;refine%[_,%["KCH1G~sA0BCH2G~KA1BC(3ijpCORG~qAG~rA0BA1BJ4Dn~2hb?1R}[2A4ASBBW0?2tFYTN1V0+EEN34DIN3",f9.nd,↑(["link","told"],[(1,3)]),↑["link","told"]|hr]|?_]
  show aZ _ _ _ [!g,none,none,none,none] H;refine aj λD1 k1 _=>?_
  lk;refine%[g,qs,ls,ts,ρ,hg,nr|λso H1 n0 ss s1 a6 la sl lk=>k1 _ _ (aj λD2 k2 _=>?_)];have nr:=nr _ lk;lk;refine%[so,n0,ss,ρ,a6,la,sl|λb H2 s2 fb hb=>k2 _ _ (aj λD3 k3 _=>?_)];lk;intro d fd;refine k3 _ _ (aj λD4 k4 _=>aw λbb hK=>?_);have s3:=ah.upd (o:= .dK []) fd;have hd:upd H2 d (.dK []) d∣.dK (VD [] λ_=> .int 0):=aa;have bc:=s1.trans s2;have as:=bc.trans s3;have be:b≠d:=λc=>by
   have%[bf,N|_]:=hb;rw[c,fd]at N;cases N
  have bl:=bc.free fd;have bm:=hb.up s3;have bt:=s2.trans s3
  generalize upd H2 d (.dK [])=H3 at s3 hd as bm bt
  lk;refine%[g,c2,c3,c4,qs,ls,ts,ρ,gr.up as,hg.nd,hg.so,⋯|λnl H4 ms s4 fm hm hn=>?_];have ca: ~~~ms<=63:=by
   have:=_T.nodup_sub hn.nd λx u=>((hn.mem x).mp u).1
   lia
  have b0:=bt.trans s4;have lm:cn H4 ms ss:=λt q=>%[b0 _ _ (la t q).1|hg.names lk hn _ (Xo %[t,q|rfl])]
  refine%[nl,so,ms,ss,ρ,hm,hn.nd,ca,b0 _ _ a6,lm,sl|λr H5 L s5 a0 Ln Ls b1 rest=>%[r,ρ,%[_|SqL.of a0]|hK _ _ ?_]];have b2:∀x∈ms,x∈L:=λx u=>Decidable.byContradiction λc=>B1 (ks:=ss\2) (U:=ms.filter λx=>decide (x∉L)) (λx u=>by
   have%[N|h2]:=List.mem_filter.mp u;have%[y,e,yn|yl]:=rest x N (Zo h2);exact%[y,List.mem_filter.mpr %[yn|Zf yl]|e]) nr (List.mem_filter.mpr %[u|Zf c])
  have Ll:=_T.nodup_sub Ln Ls;have a1:=s4.trans s5;have b3:=bm.up a1;have B:=a1 _ _ hd;have b4:=lm.up s5;refine bz (λi σ O=>(∃o4,σ=[!g,!so,!b,!d,o4])/\cV d H5 O/\∃l:Str->Int,O d∣.dK (VD (L.take i) λx=> .int (l x))/\∀x∈L.take i,Cq (ss\2) l x)
   %[%[_|rfl],λ_ _ _ e=>e,_,B|λx h=>(nomatch h)] (λi σ O h=>h.2.1 _ _ (λc=>by rw[<-c,a0]at B;cases B) a0) ?_ ?_
  .intro i n σ O Y %[%[o4|rfl],sm,l,ab|ac];have il:=(Xk Y).1;have tk:L.take (i+1)=L.take i++[n]:=by rw[X8,Y];rfl
   have nt:n∉L.take i:=λc=>by
    have%[j|C]:=Xe c;have jl:=(Xk C).1;rw[Yk]at jl;rw[Yb ⋯]at C;have:=fK Ln C Y
    lia
   show lI _ _ _ _ [!g,!so,!b,!d,-n] O;refine az λD5 k5 _=>?_
   lk;unfold xP;refine aE λbb hK=>?_
   lk;refine%[tyD (sm _ _ be b3.choose_spec.1),#[0]|λp hp=>?_];have%[bf,a,b5,cd,ae|co]:=b3.get sm be (λxs c=>by rw[B]at c;cases c) hp n;have sp:=ah.upd (o:= .lst []) hp;have ag:=sp _ _ ab;have a2:=sm.trans (cV.of sp)
   generalize upd O p (.lst [])=H6 at b5 ae ag a2 ⊢
   generalize a3:(ss.filter λt=>decide (t.2[0]?∣n))=us at ae
   have b6:∀t∈us,t∈ss/\∃y z,t.2=[n,y,z]:=λt G=>by
    rw[<-a3]at G;have%[N|h2]:=List.mem_filter.mp G;have%[x,y,z,e|_]:=(lm t N).2;have h2:=Zo h2;rw[e]at h2;exact%[N,y,z|by rw[e,show x=n from Za h2]]
   have ul: ~~~us<=150:=by rw[<-a3];exact Yf (Yh _ _) sl
   have yt:∀y,Ed (ss\2) n y->y∈L.take i:=λy e=>b1 i n Y y e
   refine%[Sum.inr n,ρ,bf,b5,a,cd,%[_|SqL.of ae]|hK _ _ λF hF=>?_];have dF:d≠F:=au ag hF;refine bB (λj vs σ H7=>(∃o1,σ=[o1,!d])/\ah H6 H7/\∃J:ZL,H7 F<*J\4/\vs=J\4/\ ~~~J=j/\(∀t∈us.take j,∀y,t.2[1]?∣y->l y+1∈J)/\∀v∈J,∃t∈us.take j,∃y,t.2[1]?∣y/\v=l y+1)
    %[%[none|rfl],ah.upd hF,[],aa,rfl,rfl,(λt h=>nomatch h)|λ_ h=>nomatch h] (λ_ _ _ H7 ch=>ch.2.1 _ _ ae) ?_ ?_
   .intro j vs σ H8 C %[%[o1|rfl],s7,J,a4,rfl,b9,al|an];have ka:us.take (j+1)=us.take j++[us[j]]:=by rw[X8,Z4 C];rfl
    have%[I,y,z|M]:=b6 _ (Yc C);have t7:=s7 _ _ (a2 _ _ (λc=>by have:=(b4 _ I).1;rw[c,B]at this;cases this) (b4 _ I).1);rw[M]at t7;have ye:y∈L.take i:=yt y %[z|Xo %[_,I|M]];have g1:=bN.k (k:=Sum.inr y) (s7 _ _ ag);rw[fI ye]at g1;lk;refine%[_,SqT.of t7,_,(show atI ([n,y,z]\3) ((1:Nat):Int)∣.str y from cH rfl),_,g1,_,ρ|?_];refine CK.mk C a4 (by rw[Z6];exact aA ⋯) %[%[_|rfl],ah.set s7 hF,J++[l y+1],by rw[aa,Zd];rfl,by rw[Zd];rfl,by rw[Z9,b9];rfl,λt G y' ey=>?_|λv hv=>?_]
    .rw[ka]at G;rcases Xl G with q|q
     .exact Ys _ (al t q y' ey)
     .rw[Xm q,M]at ey;obtain rfl:y=y':=Za ey;exact Yt _ Zm
    .rw[ka];rcases Xl hv with q|q
     .have%[t,G|r]:=an v q;exact%[t,Ys _ G|r]
     .exact%[_,Yt _ Zm,y,by rw[M];rfl|Xm q]
   .intro vs σ H7 %[_,s7,J,a4,rfl,b9,al|an];rw[Zn (Zi _)]at al an;refine%[F,J,0,ρ,ρ,SqL.of a4|λm hm=>%[_,eI.k (k:=Sum.inr n) (s7 _ _ ag) (by unfold VD;rw[Z6,Yk];exact aA ⋯)|k5 _ _ %[%[_|ρ],λc o h q=>(ak h).trans (s7 _ _ (a2 c o h q)),λx=>if x=n then m else l x,?_|λx u=>?_]]]
    .have:=yo (g:=λx=>V.int (l x)) (h:=λx=>V.int (if x=n then m else l x)) nt λx u=>by
      show V.int (if x=n then m else l x)=V.int (l x);rw[if_neg (λc:x=n=>nt (c▸u))]
     rw[if_pos rfl]at this;rw[aa,this,tk]
    .rw[tk]at u;have yn:∀x,x∈L.take (i+1)->∀y,Ed (ss\2) x y->y≠n:=λx u y e c=>by
      have%[j|C]:=Xe u;have jl:=(Xk C).1;rw[Yk]at jl;rw[Yb ⋯]at C;have:=b1 j x C y e;exact nt (c▸(List.take_subset_take_left L (show j<=i by lia)) this)
     have yn:=yn x (by rw[tk];exact u);unfold Cq;dsimp only;rcases Xl u with q|q
     .have%[N|h2]:=ac x q;rw[if_neg (λc:x=n=>nt (c▸q))];refine%[λy e=>by rw[if_neg (yn y e)];exact N y e|h2.imp (λ⟨y,e,h⟩=>%[y,e|by rw[if_neg (yn y e)];exact h]) id]
     .obtain rfl:x=n:=Xm q;rw[if_pos rfl];have a5:∀y,Ed (ss\2) x y->l y+1∈J:=λy ⟨z,hz⟩=>by
       have%[t,G|M]:=Xn hz;have tu:t∈us:=by
        rw[<-a3];exact List.mem_filter.mpr %[G|Zf (by rw[M];rfl)]
       exact al t tu y (by rw[M];rfl)
      refine%[λy e=>?_|?_]
      .rw[if_neg (yn y e)];rcases hm with⟨rfl,_⟩|⟨_,h⟩
       .cases a5 y e
       .have:=h _ (a5 y e)
        lia
      .rcases hm with⟨rfl,h⟩|⟨h,_⟩
       .exact .inr %[λy e=>(nomatch a5 y e)|h]
       .have%[t,G,y,ey|rfl]:=an m h;have%[I,y',z|M]:=b6 t G;rw[M]at ey;obtain rfl:y'=y:=Za ey;have e:Ed (ss\2) x y':=%[z|Xo %[t,I|M]]
        exact .inl %[y',e|by rw[if_neg (yn y' e)]]
  .intro σ O %[%[o4|rfl],sm,l,ab|ac];rw[Zn (Zi _)]at ab ac;refine k4 _ _ ?_;lk;have keep:ah H O:=λc o e=>sm c o (au e bl) ((as.trans a1) _ _ e)
   refine kk d O _ ms L l keep bl lk hn ab %[λx=>%[Ls x|b2 x]|ac]
def GL{M:ZB}{y:Str}:(bx (SD M) (Sum.inr y)).isSome=true↔y∈M:=by
 by_cases c:y∈M
 .unfold SD;rw[fI c];simp[c]
 .unfold SD;rw[fB c];simp[c]
inductive yp (K:ZA)
 | mk (d l:Addr) (y:Str) (ks:List ZB) (rs:Gs Str) (us:ZB):vs=[.ref d,.ref l,.str y]->ReF H ks d rs->H l<*us\3->(∀x∈us,x∈rs\1)-> ~~~us<=1000->(∀H' b,ah H H'->(b=true↔∃x∈us,Rch ks x y)->Q (.bl b) H')->yp K vs H Q E0
def pV(T:Txt K mg):↥1 "is_replaced" ["reach","steps","earlier"] (yp K):=by
 .exists T.aS,n6,M,C,%[d,l,y,ks,rs,us,rfl,N,G,i,ul|O];refine%[_,%["KDI]$]%Ahb?1R1W0?2t]&N1TN20B",0,↑(["step","earlier","reach"],[(1,2),(2,0)]),↑["step","earlier","reach"]|C]|?_];show fM _ _ [!d,!l,-y] H;lk;refine aE λI U=>?_
  lk;refine%[%[_|SqL.of G]|U _ _ λF J=>?_];refine bB (λj vs m c=>(∃L,m=[L,-y,!d])/\ah H c/\∃bs:List Bool,c F<*bs.map V.bl/\vs=bs.map V.bl/\ ~~~bs=j/\(bs.any id=true↔∃x∈us.take j,Rch ks x y))
   %[%[none|rfl],ah.upd J,[],aa,rfl,rfl|by simp] (λ_ _ _ c n=>n.2.1 _ _ G) ?_ ?_
  .intro j vs m H8 p %[%[L|rfl],g,bs,b,rfl,bl|a];have e:=N.up g;have%[r,u,Y|hv]:=jE (i _ (Yc p));have%[o|ho]:=e.at_;have%[%[o'|v],nd|mem]:=e.in_ r u;lk;have tk:us.take (j+1)=us.take j++[us[j]]:=by rw[X8,Z4 p];rfl
   refine%[_,.inl %[_,Sum.inr us[j],.inr %[o|ho],ρ|hv.symm],_,ρ,_,.inl %[_,Sum.inr y,.inr %[o'|v],ρ|ρ]|CK.mk p b (by rw[Z6];exact aA ⋯) %[%[_|ρ],ah.set g J,bs++[(bx (SD r.2.2) (Sum.inr y)).isSome],by rw[aa,Zd];rfl,by rw[Zd];rfl,by rw[Z9,bl];rfl|?_]];rw[List.any_append,or_eq_true,a,tk];have:([(bx (SD r.2.2) (Sum.inr y)).isSome].any id=true)↔Rch ks us[j] y:=by rw[<-Y,<-mem,<-GL];simp
   rw[this]
   constructor
   .rintro(⟨x,B,q⟩|q)
    .exact%[x,Ys _ B|q]
    .exact%[_,Yt _ Zm|q]
   .rintro⟨x,B,q⟩;rcases Xl B with z|z
    .exact .inl %[x,z|q]
    .rw[Xm z]at q;exact .inr q
  .intro vs m c %[_,g,bs,b,rfl,bl|a];rw[Zn (Zi _)]at a;exact%[F,ρ,bs,SqL.of b|O c _ g a]
abbrev Dir(ks:List ZB)(x y:Str):Prop:=Ed ks x y/\∀s,Ed ks x s-> ¬ Rch ks s y
def Cs{ks c:List ZB}(e:∀k,k∈ks↔k∈c):Dir ks=Dir c:=by
 funext a b;simp only[Dir,yd e,oP e]
inductive rH (mg:ZC)
 | mk (g:Addr) (qs:ZN) (ls:ZB) (ts:ZG):vs=[.ref g]->ja mg H g qs ls ts->(∀lk,bG (bh qs) (ts\2) lk->∀x,¬ Rch lk x x)->(∀l H' lk (ps:ZG),ah H H'->bG (bh qs) (ts\2) lk->H' l∣.lst (ps\0)->aD H' ps->(∀k,k∈ps\2↔∃x y,k=[x,y]/\Dir lk x y)-> ~~~ps<=150->Q (.ref l) H')->rH mg vs H Q E0
def HK{c:ZB}{ks:List ZB}(h:∀k∈ks,db c k){x y:Str}(e:Ed ks x y):x∈c/\y∈c:=by
 have%[z|d]:=e;have%[a,b,u,e,f|g]:=h _ d;cases e;exact%[f|g]
def rJ{ss:ZG}{ks:List ZB}(n:ks.Nodup)(h:∀k∈ks,∃x y,k=[x,y]/\Ed (ss\2) x y): ~~~ks<= ~~~ss:=by
 have:=_T.nodup_sub n (m:=ss.map λt=>t.2.take 2) λk a=>by
  have%[x,y,rfl,z|b]:=h k a;have%[t,c|e]:=Xn b;exact Xo %[t,c|by rw[e];rfl]
 rwa[Z6]at this
open Classical in
def oY(T:Txt K mg):↥8 "direct_pairs" ["ground"] (rH mg):=by
 have bJ:=kO (P:=P) (w:=w) (K:=K) (mg:=mg) (base:=base);refine T.aR.cal bS (λH vs Q E h=>?_)
 .have%[g,qs,ls,ts,rfl,hg,nr|kk]:=h;refine%[ρ|λf ch A outer s hr=>?_];refine%[_,%["KCH1G~KAG~sA0BBC(2ijG]'A0BCH3SBCO~W1~D4ijC(5iju~0A_~PAhb?1RT1N4W0?2tV0+BBDa~e~f3Ahb?3RN5W0?4xymG](AN2AN3A0BkAN1A0BBDIu~/A3B",bS.nd,↑(["link"],[]),↑["link"],↑(["earlier","later","reach","steps"],[(1,4),(2,2),(3,5)]),↑["earlier","later","reach","steps"]|hr]|?_]
  show aZ _ _ _ [!g,none,none,none,none,none] H;refine aj λD1 k1 _=>?_
  lk;refine%[g,qs,ls,ts,ρ,hg,nr|λso H1 n0 ss s1 bl la sl lk=>%[so,n0,ss,ρ,bl,la,sl|λb H2 ob a2 s2 hb tx gb=>k1 _ _ (aj λD2 k2 _=>?_)]];have a3:=s1.trans s2;lk;refine%[g,qs,ls,ts,ρ,hg.up a3,nr|λd H3 rs cl ns s3 bm hn re rn=>k2 _ _ (aj λD3 k3 _=>?_)];have re:=re.same (bm.mm lk);have nr:=nr _ lk;lk;refine%[Xd _|λL hL=>k3 _ _ (aj λD4 k4 _=>aw λac hK=>?_)];have a4:=a3.trans s3;have sL:=ah.upd (o:= .lst []) hL;have fL:=a4.free hL;have B:=sL _ _ (s3 _ _ hb);have a5:=re.up sL;have U:upd H3 L (.lst []) L<*[]:=aa;have a6:=a4.trans sL;have bb:cn (upd H3 L (.lst [])) n0 ss:=(la.up s2).up (s3.trans sL)
  generalize upd H3 L (.lst [])=H4 at sL B a5 U a6 bb
  have%[xs,kx|xn]:=tx;have kl: ~~~a2= ~~~xs:=by have:=congrArg List.length kx;rwa[Z6,Z6]at this
  unfold qN;lk;refine%[_,_,B|hK _ _ (nW (λi I J=>(∃o4 o5,I=[!g,!b,!d,!L,o4,o5])/\cV L H4 J/\∃ps:ZG,J L∣.lst (ps\0)/\aD J ps/\(ps\2).Nodup/\∀k,k∈ps\2↔∃x y,k=[x,y]/\x∈xs.take i/\Dir (ss\2) x y)
   %[%[_,_|ρ],λ_ _ _ e=>e,[],U,λ_ h=>(nomatch h),X1|by simp] (λi I J _ h=>h.2.1 _ _ (λc=>by rw[c,U]at B;cases B) B) ?_ ?_)]
  .intro i k v I J hk %[%[o4,o5|rfl],sx,ps,ag,M,pn|pm];have il:i< ~~~xs:=by have:=(Xk hk).1;lia
   obtain⟨n,en⟩:∃n,xs[i]?∣n:=%[_|Z4 il]
   obtain rfl:k=Sum.inr n:=by
    have:=congrArg (·[i]?) kx;simp only[Zl,hk,en,map_some,Option.some.injEq]at this;exact this
   have tk:xs.take (i+1)=xs.take i++[n]:=by rw[X8,en];rfl
   have nt:n∉xs.take i:=λc=>by
    have%[j|N]:=Xe c;have jl:=(Xk N).1;rw[Yk]at jl;rw[Yb ⋯]at N;have:=fK xn N en
    lia
   have fX:∀{c o},H4 c∣o->(∀xs,o≠ .lst xs)->J c∣o:=λ{c o} e q=>sx c o (λz=>by rw[z,U]at e;exact q _ (Za e).symm) e
   have%[a,va|ha]:=(gb n).resolve_right λ⟨c,_⟩=>AX c (by rw[kx];exact Xo %[n,Z8 en|rfl])
   have al:=s3 _ _ ha;have bt:a≠L:=λc=>by rw[c,hL]at al;cases al
   have ha:=sx _ _ bt (sL _ _ al)
   generalize an:(ss.filter λt=>decide (t.2[0]?∣n))=us at ha
   have b0:∀t∈us,J t.1&&&t.2\3/\∃y z,t.2=[n,y,z]/\Ed (ss\2) n y:=λt Y=>by
    rw[<-an]at Y;have%[h1|h2]:=List.mem_filter.mp Y;have%[b1,x,y,z,e|_]:=bb t h1;have h2:=Zo h2;rw[e]at h2;obtain rfl:x=n:=Za h2;exact%[fX b1 (λ_=>nofun),y,z,e,z|Xo %[t,h1|e]]
   have ul: ~~~us<=150:=by rw[<-an];exact Yf (Yh _ _) sl
   have b2:bN J b (.str n) (some (.ref a)):= .inl %[a2,Sum.inr n,.inr %[ob|fX B (λ_=>nofun)],rfl|va.symm];show aZ _ _ _ [!g,!b,!d,!L,-n,o5] J;refine aj λD5 k5 _=>?_
   lk;refine aE λac hK=>?_
   lk;refine%[_,b2,a,ρ,%[_|SqL.of ha]|hK _ _ λF hF=>?_];refine bB (λj vs I H7=>(∃o1,I=[o1])/\ah J H7/\∃ys:ZB,H7 F<*ys\3/\vs=ys\3/\ ~~~ys=j/\(∀t∈us.take j,∀y,t.2[1]?∣y->y∈ys)/\∀y∈ys,Ed (ss\2) n y)
    %[%[none|rfl],ah.upd hF,[],aa,rfl,rfl,(λt h=>nomatch h)|λ_ h=>nomatch h] (λ_ _ _ H7 as=>as.2.1 _ _ ha) ?_ ?_
   .intro j vs I H8 N %[%[o1|rfl],s7,ys,a0,rfl,yl,ab|a1];have ka:us.take (j+1)=us.take j++[us[j]]:=by rw[X8,Z4 N];rfl
    have%[tu,y,z,et|ed]:=b0 _ (Yc N);have t7:=s7 _ _ tu;rw[et]at t7;lk;refine%[_,SqT.of t7,_,(show atI ([n,y,z]\3) ((1:Nat):Int)∣.str y from cH rfl)|?_];refine CK.mk N a0 (by rw[Z6];exact aA ⋯) %[%[_|rfl],ah.set s7 hF,ys++[y],by rw[aa,Zd];rfl,by rw[Zd];rfl,by rw[Z9,yl];rfl,λt Y y' ey=>?_|λv hv=>?_]
    .rw[ka]at Y;rcases Xl Y with q|q
     .exact Ys _ (ab t q y' ey)
     .rw[Xm q,et]at ey;obtain rfl:y=y':=Za ey;exact Yt _ Zm
    .rcases Xl hv with q|q
     .exact a1 v q
     .rw[Xm q];exact ed
   .intro vs I H7 %[_,s7,ys,a0,rfl,yl,ab|a1];rw[Zn (Zi _)]at ab;have b3:∀y,y∈ys↔Ed (ss\2) n y:=λy=>%[a1 y|λ⟨z,hz⟩=>by
     have%[t,Y|et]:=Xn hz;exact ab t (by rw[<-an];exact List.mem_filter.mpr %[Y|Zf (by rw[et];rfl)]) y (by rw[et];rfl)]
    refine%[F,ρ,ys,SqL.of a0,⋯|λS fS=>%[_,aa,?_|λZ zs fZ pz _=>k5 _ _ (az λD6 k6 _=>?_)]]
    .have:=_T.nodup_sub (bK ys) λy hy=>aP.mp hy
     lia
    have s8:=(s7.trans (ah.upd (o:=iq w S (aI ys)) fS)).trans (ah.upd (o:= .lst (zs\3)) fZ);have hZ:upd (upd H7 S (iq w S (aI ys))) Z (.lst (zs\3)) Z<*zs\3:=aa
    generalize upd (upd H7 S (iq w S (aI ys))) Z (.lst (zs\3))=H8 at s8 hZ
    have zI:∀y,y∈zs↔Ed (ss\2) n y:=λy=>by rw[pz.mem_iff,aP,b3]
    have zn:zs.Nodup:=pz.nodup_iff.mpr (bK ys);have zl: ~~~zs<=150:=by
     rw[pz.length_eq];have:=_T.nodup_sub (bK ys) λy hy=>aP.mp hy
     lia
    have bc:=s8 _ _ ag;have b4:aD H8 ps:=ax M λb z e=>s8 _ _ e
    have b5:ReF H8 (ss\2) d rs:=by
     have%[%[o|e],nd|i]:=a5;exact%[%[o|s8 _ _ (fX e λ_=>nofun)],nd|λr hr=>%[(i r hr).1.imp λo e=>s8 _ _ (fX e λ_=>nofun)|(i r hr).2]]
    lk;refine%[tyL (SqL.of bc)|?_];refine aE λac hK=>?_
    lk;refine%[%[_|SqL.of hZ]|hK _ _ λG hG=>?_];refine bB (λj vs I H9=>(∃o1,I=[o1,-n,!d,!Z])/\ah H8 H9/\∃qs:ZG,H9 G∣.lst (qs\0)/\vs=qs\0/\ ~~~qs<=j/\aD H9 qs/\qs\2=((zs.take j).filter λy=>decide (∀s,Ed (ss\2) n s-> ¬ Rch (ss\2) s y)).map λy=>[n,y])
     %[%[none|rfl],ah.upd hG,[],aa,rfl,Xd _,(λt h=>nomatch h)|rfl] (λ_ _ _ H7 as=>as.2.1 _ _ hZ) ?_ ?_
    .intro j vs I co N %[%[o1|rfl],s9,O,C,rfl,ql,qt|qe];have ka:zs.take (j+1)=zs.take j++[zs[j]]:=by rw[X8,Z4 N];rfl
     lk;refine%[d,Z,zs[j],_,rs,zs,ρ,b5.up s9,s9 _ _ hZ,λx hx=>(rn x).mpr (HK (hg.names lk hn) ((zI x).mp hx)).2,⋯|λcs b' m b6=>?_];have ae:(b'=true)↔ ¬ ∀s,Ed (ss\2) n s-> ¬ Rch (ss\2) s zs[j]:=by
      rw[b6];exact%[λ⟨x,hx,r⟩ h=>h x ((zI x).mp hx) r|λh=>Classical.byContradiction λc=>h λs e r=>c %[s,(zI s).mpr e|r]]
     refine%[b',ρ|?_];have fe:∀c:Bool,decide (∀s,Ed (ss\2) n s-> ¬ Rch (ss\2) s zs[j])=c->((zs.take (j+1)).filter λy=>decide (∀s,Ed (ss\2) n s-> ¬ Rch (ss\2) s y)).map (λy=>[n,y])=O\2 ++if c=true then [[n,zs[j]]]else []:=λc hc=>by
      rw[qe,ka,Y2,Zd]
      congr 1
      rw[Y3,hc];cases c<;> rfl
     refine bC (λc=>%[#[2]|λp hp=>?_]) λc=>CN.mk N %[%[_|rfl],s9.trans m,O,m _ _ C,rfl,⋯,ax qt (λb z e=>m _ _ e)|?_]
     .have c:b'≠true:=↑c
      have sp:=ah.upd (o:= .tup [V.str n,V.str zs[j]]) hp;have b9:p≠G:=λe=>by rw[e,m _ _ C]at hp;cases hp
      refine CK.mk N (sp _ _ (m _ _ C)) (by rw[Z6];exact aA ⋯) %[%[_|rfl],ah.set ((s9.trans m).trans sp) hG,O++[(p,[n,zs[j]])],by rw[aa,Zd];rfl,by rw[Zd];rfl,by rw[Z9];exact X7 ql,cY (ax (ax qt λb z e=>sp _ _ (m _ _ e)) (gY (sp _ _ (m _ _ C)))) ∅ (by rw[ak b9];exact aa)|?_];rw[fe true (Zf (Classical.byContradiction λh=>c (ae.mpr h))),Zd];rfl
     .have c:b'=true:=↑c
      rw[fe false (Zh (ae.mp c))];simp
    .intro vs I H9 %[_,s9,O,C,rfl,ql,qt|qe];rw[Zn (Zi _)]at qe;have ca:=s8.trans s9;have be:=s9 _ _ bc;have pl: ~~~ps<=150:=by
      have:=rJ pn λk hk=>let⟨x,y,e,_,d⟩:=(pm k).mp hk;%[x,y,e|d.1]
      rw[Z6]at this
      lia
     refine%[G,ρ,_,be,_,C,by rw[Z6,Z6];exact Yd (aA ⋯)|k6 _ _ %[%[_,_|ρ],λc o h e=>(ak h).trans (ca _ _ (sx c o h e)),ps++O,by rw[aa,Zd],ax (kC (ax b4 λb z e=>s9 _ _ e) qt) (gY be),?_|λk=>?_]]
     .rw[Zd,Yy];refine%[pn,?_|λx hx y hy e=>?_]
      .rw[qe,Yz,X6];exact List.Pairwise.imp (λh e=>h (by cases e;rfl)) (nodup_iff_pairwise_ne.mp (zn.filter _))
      .subst e;have%[u,v,rfl,hu|_]:=(pm x).mp hx;rw[qe]at hy;have%[y,_|e]:=Xn hy;cases e;exact nt hu
     .rw[Zd,Yr,pm,qe,tk]
      constructor
      .rintro(⟨x,y,e,hx,q⟩|h)
       .exact%[x,y,e,Ys _ hx|q]
       .have%[y,hy|e]:=Xn h;have%[h1|h2]:=List.mem_filter.mp hy;exact%[n,y,e.symm,Yt _ Zm,(zI y).mp h1|Zo h2]
      .rintro⟨x,y,e,hx,q⟩;rcases Xl hx with z|z
       .exact .inl %[x,y,e,z|q]
       .obtain rfl:=Xm z;exact .inr (Xo %[y,List.mem_filter.mpr %[(zI y).mpr q.1|Zf q.2]|e.symm])
  .intro I J %[%[o4,o5|rfl],sx,ps,ag,M,pn|pm];rw[kl,Xb]at pm;refine k4 _ _ ?_;lk;have pI:∀k,k∈ps\2↔∃x y,k=[x,y]/\Dir (ss\2) x y:=λk=>by
    rw[pm];refine%[λ⟨x,y,e,_,d⟩=>%[x,y,e|d]|λ⟨x,y,e,d⟩=>%[x,y,e,?_|d]];have%[%[z|hz]|_]:=d;have%[t,Y|et]:=Xn hz;have%[l,vl|_]:=(gb x).resolve_right λh=>h.2 t Y (by rw[et];rfl)
    have:=xq vl;rw[kx]at this;have%[x',cd|e]:=Xn this;cases e;exact cd
   have pl: ~~~ps<=150:=by
    have:=rJ pn λk hk=>let⟨x,y,e,d⟩:=(pI k).mp hk;%[x,y,e|d.1]
    rw[Z6]at this
    lia
   have keep:ah H J:=λc o e=>sx c o (au e fL) (a6 _ _ e)
   refine%[ps,SqL.of ag,M,2,λp hp=>?_,!1,⋯|λl zs hl pz=>?_]
   .have%[x,y,e|_]:=(pI _).mp (Xo %[p,hp|rfl]);rw[e];rfl
   .have bf:=ah.upd (o:= .lst (zs\0)) hl;exact kk l _ _ zs (keep.trans bf) lk aa (λp hp=>%[(M p (pz.mem_iff.mp hp)).1|bf _ _ (M p (pz.mem_iff.mp hp)).2]) (λk=>by rw[<-pI];exact(pz.map _).mem_iff) (by rw[pz.length_eq];lia)
def oZ{S:Str->Str->Prop}{P:Str->Prop}{x y:Str}(h:cz S x y)(e:P x)(d: ¬ P y):∃a b,(S a b\/S b a)/\P a/\ ¬ P b/\cz S x a:=by
 induction h with
 | refl=>exact(d e).elim
 | @step y z c s f=>
   by_cases p:P y
   .exact%[y,z,s,p,d|c]
   .exact f p
structure Rnd (ls:ZB) (ps:List (Str×Str)) (S:Str->Str->Prop) (f:Str->Str) (r:Nat):Prop where
 con:∀z∈ls,cz S z (f z)
 dn:∀z∈ls,aM z (f z)=false
 cnt:∀m∈ls,cf S m m->(∀z∈ls,cz S m z->f z=m)\/r<= ~~~(ps.filter λp=>decide (f p.1=m/\f p.2=m))
def Rnd.nil{a:ZB}{ps:List (Str×Str)}{S:Str->Str->Prop}:Rnd a ps S id 0:=%[λz _=> .refl z,λz _=>cK z|λm b _=> .inr (Xd _)]
def yq{c:Type}{p q:c->Bool}:∀{l:List c},(∀x∈l,p x=true->q x=true)-> ~~~(l.filter p)<= ~~~(l.filter q)
 |[],_=>Zi _
 | x::l,h=>by
   have e:=yq (l:=l) λy d=>h y (Zk _ d)
   have f:=h x Zm;rw[Y3,Y3];cases a:p x<;> cases b:q x<;> simp_all
   lia
def tK{d:Type}{p q:d->Bool}:∀{l:List d},(∀x∈l,p x=true->q x=true)->(∃x∈l,q x=true/\p x=false)-> ~~~(l.filter p)< ~~~(l.filter q)
 |[],_,h=>(nomatch h.choose_spec.1)
 | x::l,h,⟨y,c,e,f⟩=>by
   have sub:∀y∈l,p y=true->q y=true:=λy c=>h y (Zk _ c)
   have g:=h x Zm;rw[Y3,Y3];rcases mem_cons.mp c with rfl|c
   .have:=yq sub;rw[e,f];simp
    lia
   .have i:=tK sub %[y,c,e|f];cases a:p x<;> cases b:q x<;> simp_all
    lia
structure Mid (ls:ZB) (S T:Str->Str->Prop) (f g:Str->Str):Prop where
 con:∀z∈ls,cz S z (g z)
 le:∀z∈ls,aM (f z) (g z)=false
 don:∀a b,T a b->aM (f a) (g b)=false/\aM (f b) (g a)=false
def dJ{x y z:Str}(b:aM y x=false)(a:aM z y=false):aM z x=false:=by
 cases h:aM z x
 .rfl
 .by_cases e:y=x
  .rw[e,h]at a;cases a
  .rw[dG h (dm b e)]at a;cases a
def Mid.step{i:ZB}{S T:Str->Str->Prop}{f g:Str->Str}{a b:Str}(h:Mid i S T f g)(ws:∀x y,S x y->x∈i/\y∈i)(s:S a b)(sub:∀x y,T x y->S x y){v:Str}(l:v=if aM (g b) (g a)=true then g b else g a):
 Mid i S (λx y=>T x y\/(x=a/\y=b)) f (λx=>if x=b then v else if x=a then v else g x):=by
 have%[m|n]:=ws _ _ s;have v1:aM (g a) v=false:=by
  rw[l];split
  .cases q:aM (g a) (g b)
   .rfl
   .rename_i c;have:=dG c q;rw[cK]at this;cases this
  .exact cK _
 have o:aM (g b) v=false:=by
  rw[l];split
  .exact cK _
  .rename_i c;simpa using c
 have p:cz S a v:=by
  rw[l];split
  .exact(cz.one (.inl s)).trans (h.con b n)
  .exact h.con a m
 have d:∀x∈i,aM (g x) (if x=b then v else if x=a then v else g x)=false:=λx _=>by
  split
  .rename_i e;rw[e];exact o
  .split
   .rename_i e;rw[e];exact v1
   .exact cK _
 refine%[λz j=>?_,λz j=>dJ (d z j) (h.le z j)|λx y t=>?_]
 .split
  .rename_i e;rw[e];exact(cz.one (.inr s)).trans p
  .split
   .rename_i e;rw[e];exact p
   .exact h.con z j
 .rcases t with t|⟨rfl,rfl⟩
  .have%[r|u]:=ws _ _ (sub _ _ t);exact%[dJ (d y u) (h.don x y t).1|dJ (d x r) (h.don x y t).2]
  .refine%[?_|?_]
   .rw[if_pos rfl];exact dJ v1 (h.le x m)
   .rw[if_pos (rfl:x=x),ite_self];exact dJ o (h.le y n)
def Rnd.step{n:ZB}{ps:List (Str×Str)}{S:Str->Str->Prop}{f g:Str->Str}{r:Nat}(h:Rnd n ps S f r)(o:∀x y,S x y↔(x,y)∈ps)(ws:∀x y,S x y->x∈n/\y∈n)(M:Mid n S S f g):Rnd n ps S g (r+1):=by
 refine%[M.con,λz d=>dJ (M.le z d) (h.dn z d)|λm u B=>?_];have i:∀{y},cz S m y->aM m y=false->y=m:=λ{y} c l=>by
  by_cases q:y=m
  .exact q
  .have:=dm (B.2 _ c) q;rw[l]at this;cases this
 have j:∀z∈n,f z=m->g z=m:=λz d e=>by
  have c:=h.con z d;have l:=M.le z d;rw[e]at c l;exact i (c.symm.trans (M.con z d)) l
 rcases h.cnt m u B with q|q
 .exact .inl λz d c=>j z d (q z d c)
 .by_cases all:∀z∈n,cz S m z->f z=m
  .exact .inl λz d c=>j z d (all z d c)
  .obtain⟨z,d,c,v⟩:∃z,z∈n/\cz S m z/\f z≠m:=by
    simp only[Classical.not_forall]at all;have%[z,d,c|v]:=all;exact%[z,d,c|v]
   have H:f m=m:=i (h.con m u) (h.dn m u);have%[a,b,s,A,C|I]:=oZ (P:=λx=>f x=m) c H v;have J:b∈n:=s.elim (λs=>(ws _ _ s).2) λs=>(ws _ _ s).1
   have E:g b=m:=i ((I.trans (.one s)).trans (M.con b J)) (by
    rcases s with s|s
    .have:=(M.don a b s).1;rwa[A]at this
    .have:=(M.don b a s).2;rwa[A]at this)
   have G:g a=m:=j a (s.elim (λs=>(ws _ _ s).1) λs=>(ws _ _ s).2) A;have:=tK (p:=λp:Str×Str=>decide (f p.1=m/\f p.2=m)) (q:=λp=>decide (g p.1=m/\g p.2=m)) (l:=ps) (λp q h=>by
    have e:=Zo h;have:=ws _ _ ((o p.1 p.2).mpr q);exact Zf %[j _ this.1 e.1|j _ this.2 e.2]) (by
    rcases s with s|s
    .exact%[(a,b),(o a b).mp s,Zf %[G|E]|Zh λh=>C h.2]
    .exact%[(b,a),(o b a).mp s,Zf %[E|G]|Zh λh=>C h.1])
   exact .inr ⋯
def Ct{a:ZB}{S:Str->Str->Prop}(ws:∀x y,S x y->x∈a/\y∈a):∀(n:Nat) {z:Str},x8 a z<=n->z∈a->∃m,cf S z m:=λn=>by
 induction n with
 | zero=>
   intro z g b;refine%[z,.refl z|λy c=>?_];cases q:aM y z
   .rfl
   .have:=oN (c.within ws b) q
    lia
 | succ n h=>
   intro z g b;by_cases all:∀y,cz S z y->aM y z=false
   .exact%[z,.refl z|all]
   .simp only[Classical.not_forall]at all;have%[y,c|q]:=all;have e:=c.within ws b;have:=oN e ↑q;have%[m|f]:=h ⋯ e;exact%[m,c.trans f.1|λu d=>f.2 u (c.symm.trans d)]
def Rnd.done{i:ZB}{ps:List (Str×Str)}{S:Str->Str->Prop}{f:Str->Str}(h:Rnd i ps S f ps.length)(n:∀x y,S x y↔(x,y)∈ps)(ws:∀x y,S x y->x∈i/\y∈i){z:Str}(l:z∈i):f z∈i/\cf S z (f z):=by
 have%[m|g]:=Ct ws _ (Zi _) l;have j:=g.1.within ws l;have d:cf S m m:=%[.refl m|λy c=>g.2 y (g.1.trans c)]
 have e:f z=m:=by
  rcases h.cnt m j d with q|q
  .exact q z l g.1.symm
  .have all:=List.length_filter_eq_length_iff.mp (Nat.le_antisymm (Yh _ _) q);have p:f m=m:=(cf.one %[h.con m j|λy c=>dJ (h.dn m j) (d.2 y c)] d)
   refine Classical.byContradiction λr=>?_
   have%[a,b,s,u,o|_]:=oZ (P:=λx=>f x=m) g.1.symm p r;rcases s with s|s
   .exact o (Zo (all _ ((n a b).mp s))).2
   .exact o (Zo (all _ ((n b a).mp s))).1
 rw[e];exact%[j|g]
def vC{c:Nat}(h:c≠10):∀{rows:ZB},c∈(Str.join nl rows).cps.toList↔∃r∈rows,c∈r.cps.toList
 |[]=>by simp[Str.join,Str.empty]
 |[x]=>by simp[Str.join]
 | x::y::r=>by
   have a:=vC h (rows:=y::r);rw[show(Str.join nl (x::y::r)).cps.toList=_ from eB nl x y r,Yr,Yr,a];have:c∉nl.cps.toList:=λq=>h (by simpa using (show c∈[10]from q))
   simp[this]
def Ep{z:Str}{g:TG}{j:TS}{D:jG}{a:_L.St}{H:Hp}(Pv:Nat->_L.St->Hp->Prop)(n:Pv 0 a H)
 (o:∀i c a H,z.cps[i]?∣c->Pv i a H->g (.str (sgn c)) a H λb h=>j {D with nx:=Pv (i+1),ct:=Pv (i+1),bk:=D.nx} b h) (q:∀a H,Pv z.cps.size a H->D.nx a H):
 ∃W:Nat->Nat->_L.St->Hp->Prop,(∃m,W 0 m a H)/\∀i m a H,W i m a H->
  ((Its z).stop i H/\D.nx a H)\/((Its z).go i H/\∃N:_L.St->Hp->Prop,(∀d e,N d e->∃l,l<m/\W (i+1) l d e)/\∀x e,(Its z).yld i H x e->g x a e λb h=>j {D with nx:=N,ct:=N,bk:=D.nx} b h):=by
 refine%[λi m a H=>m=z.cps.size-i/\i<=z.cps.size/\Pv i a H,%[z.cps.size,by simp,Xd _|n]|?_];intro i m a H %[rfl,hi|p];by_cases f:i<z.cps.size
 .refine .inr %[f,Pv _,λd e r=>%[z.cps.size-(i+1),⋯,rfl,f|r]|λx e y=>?_];have%[rfl,c,s|rfl]:=y;exact o i c a _ s p
 .obtain rfl:i=z.cps.size:=by lia
  exact .inl %[Zi _|q a H p]
def yv{p:Addr×Str×ZB}{z:Str}:z∈lyr p↔∃c,Let p.2.2 c/\z=lnS p.2.1 (sgn c):=by
 constructor
 .intro h;have%[y,b|rfl]:=Xn h;have%[c,a|rfl]:=Xn (aP.mp b);exact%[c,fV.mp a|ρ]
 .rintro⟨c,a,rfl⟩;exact iZ a
def tL{H:Hp}:∀{cs:ZH},bP H cs-> ~~~(cs.flatMap lyr)<=26* ~~~cs
 |[],_=>Zi _
 | q::cs,h=>by
   have b:=tL (cs:=cs) λp a=>h p (Zk _ a)
   have: ~~~(lyr q)<=26:=by
    unfold lyr;rw[Z6];exact jt (iV (h q Zm).2.2.sign)
   rw[flatMap_cons,Z9,Zr]
   lia
abbrev pW(q:Addr×ZM):Bool:=decide (q.2[0]?∣.str (!"same"))
abbrev prT(q:Addr×ZM):Str×Str:=match q.2 with|[_,.str a,.str b]=>(a,b)|_=>(Str.empty,Str.empty)
def yw{c:ZB}{q:Addr×ZM}(h:md c q.2)(e:pW q=true):∃a b,q.2=[.str (!"same"),.str a,.str b]/\a∈c/\b∈c/\prT q=(a,b):=by
 have e:=Zo e;rcases h with⟨w,a,b,h,_,d,f,_⟩|⟨w,a,y,h,hw,_⟩
 .rw[h]at e;obtain rfl:w=Str.ofString "same":=V.str.inj (Za e);exact%[a,b,h,d,f|by unfold prT;rw[h]]
 .rw[h]at e;have:=V.str.inj (Za e);rw[this]at hw;exact absurd hw (!1)
def Er{H:Hp}{f:ZB}{qs:ZN}(h:cE H f qs)(a b:Str):bh qs a b↔(a,b)∈(qs.filter pW).map prT:=by
 constructor
 .rintro⟨q,c,e⟩;exact Xo %[q,List.mem_filter.mpr %[c|by unfold pW;rw[e];exact Zf rfl]|by unfold prT;rw[e]]
 .intro m;have%[q,c|e]:=Xn m;have%[d|g]:=List.mem_filter.mp c;have%[x,y,i,_,_|j]:=yw (h q d).2 g;rw[j]at e;cases e;exact%[q,d|i]
inductive vD
 | mk (l m:Addr) (cs:ZH) (qs:ZN):vs=[.ref l,.ref m]->H l<*cU cs->H m∣.lst (qs\0)->bP H cs->cE H (cs.flatMap lyr) qs-> ~~~cs<=3-> ~~~qs<=40->(∀d H' ms f,ah H H'->H d=none->H' d∣.dK (NmD ms f)->ms.Nodup->(∀z,z∈ms↔z∈cs.flatMap lyr)->(∀z∈ms,f z∈ms/\cf (bh qs) z (f z))->Q (.ref d) H')->vD vs H Q E0
def vE(T:Txt K mg):↥1 "_law_homes" ["_law_cuts_here","_law_sayings"] vD:=by
 .exists T.br,bg,b6,hr,%[l,m,cs,qs,rfl,hl,hm,ca,sa,c3,bl|kk];have qm: ~~~(qs\0)= ~~~qs:=Z6 _;have a2: ~~~(cU cs)= ~~~cs:=Z6 _;refine%[_,%["KCH2pCOR0eLJ3LJ4cDO~N4J5DPM~35XDnFzFz3X52FzFz3X5QC~T6jib?1R1W0?2xMdV0EX0CO'AfgA6BBJ7DOR6eLJ8LJ9LJ:cCH;~V~^AT29AT2,:BCn,;29Dn,;2,:DI2",bg.nd,↑(["_law_saying"],[]),↑["_law_saying"]|hr]|?_]
  show aZ _ _ _ [!l,!m,none,none,none,none,none,none,none,none,none,none] H;refine aj λD1 k1 _=>?_
  lk;intro d fd;refine k1 _ _ (aj λD2 k2 _=>aw λO hK=>?_);have s1:=ah.upd (o:= .dK []) fd;lk;refine%[%[_|SqL.of (s1 _ _ hl)]|hK _ _ (eG (λi B L=>∃o3 o4 Y n,B=[!l,!m,!d,o3,o4,Y,none,none,none,none,none,none]/\ah H L/\L d∣.dK (NmD n id)/\n.Nodup/\∀z,z∈n↔z∈(cs.take i).flatMap lyr)
   %[_,_,_,[],ρ,s1,aa,X1|λz=>Iff.rfl] (λi B L _ ⟨_,_,_,_,_,q,_⟩=>SqL.of (q _ _ hl)) ?_ ?_)]
  .intro i x B H1 hx %[o3,o4,Y,n,rfl,U,hd,nd|mem];have hi:i< ~~~cs:=by rw[<-a2];exact(Xk hx).1
   obtain⟨q,hq,rfl⟩:∃q,cs[i]?∣q/\x=V.ref q.1:=by
    unfold cU at hx;rw[Zl,Z4 hi]at hx;exact%[cs[i],Z4 hi|(Za hx).symm]
   have a3:=Z8 hq;have%[a4,bm|bt]:=ca q a3;have tk:cs.take (i+1)=cs.take i++[q]:=by rw[X8,hq];rfl
   have tx:∀c,c≠10->c≠46->(c∈(Str.join nl q.2.2).cps.toList↔Let q.2.2 c):=λc J N=>by
    rw[vC J];exact%[λh=>%[N|h]|λh=>h.2]
   have b9:=iR bm
   generalize Str.join nl q.2.2=tt at tx a4
   refine%[_,SqT.of (U _ _ a4),ρ,_,_,ρ,_,_,ρ,ρ|?_];refine az λD3 k3 _=>aw λO hK=>?_
   lk;refine hK _ _ (Ep (λj B L=>∃Y n,B=[!l,!m,!d,some (.str q.2.1),-tt,Y,none,none,none,none,none,none]/\ah H L/\L d∣.dK (NmD n id)/\n.Nodup/\∀z,z∈n↔z∈(cs.take i).flatMap lyr\/∃c∈tt.cps.toList.take j,c≠10/\c≠46/\z=lnS q.2.1 (sgn c))
    %[_,n,rfl,U,hd,nd|λz=>by rw[mem];simp] ?_ ?_)
   .intro j c B H2 hc %[Y,n,rfl,U,hd,nd|mem];have C:tt.cps.toList[j]?∣c:=↑hc
    have ka:tt.cps.toList.take (j+1)=tt.cps.toList.take j++[c]:=by rw[X8,C];rfl
    show iu _ _ _ _ [!l,!m,!d,some (.str q.2.1),-tt,some (.str (sgn c)),none,none,none,none,none,none] H2;refine az λD4 k4 _=>?_
    lk;have b0: ~~~n<=100:=by
     have:=_T.nodup_sub nd (m:=cs.flatMap lyr) λz hz=>by
      rcases(mem z).mp hz with h|⟨c,hc,J,N,rfl⟩
      .have%[p,hp|e]:=mem_flatMap.mp h;exact mem_flatMap.mpr %[p,Yv hp|e]
      .exact mem_flatMap.mpr %[q,a3|yv.mpr %[c,(tx c J N).mp (Yv hc)|rfl]]
     have:=tL ca
     lia
    rw[show(!!(Builtin.Str.occurrences (!".\n") (sgn c) 0 (!".\n").length 1).isEmpty)=!decide (c∈(!".\n").cps.toList)from congrArg not (sj _ _),i4];have a5:c∈(!".\n").cps.toList↔c=46\/c=10:=by
     rw[show(!".\n").cps.toList=[46,10]from rfl];simp
    have al: ~~~q.2.1+(!".").length<=sizeLine:=by rw[PySem.sizeLine_eq];show ~~~q.2.1+1<=_;lia
    have an:(q.2.1++Str.ofString ".").length+ ~~~(sgn c)<=sizeLine:=by rw[PySem.sizeLine_eq,Str.length_append];show ~~~q.2.1+1+1<=_;lia
    refine bC (λh=>?_) λh=>?_
    .have h: ¬ (c=46\/c=10):=λe=>by rw[Zf (a5.mpr e)]at h;cases h
     have a6:∀z,(z∈(cs.take i).flatMap lyr\/∃c∈tt.cps.toList.take (j+1),c≠10/\c≠46/\z=lnS q.2.1 (sgn c))↔z∈n\/z=lnS q.2.1 (sgn c):=λz=>by
      rw[mem,ka]
      constructor
      .rintro(h|⟨c',C,J,N,e⟩)
       .exact .inl (.inl h)
       .rcases Xl C with u|u
        .exact .inl (.inr %[c',u,J,N|e])
        .rw[Xm u]at e;exact .inr e
      .rintro((h|⟨c',C,J,N,e⟩)|e)
       .exact .inl h
       .exact .inr %[c',Ys _ C,J,N|e]
       .exact .inr %[c,Yt _ Zm,λe=>h (.inr e),λe=>h (.inl e)|e]
     refine%[al,an,al,an,_,eI.k (k:=Sum.inr (lnS q.2.1 (sgn c))) hd (by unfold NmD;rw[Z6];exact aA ⋯)|?_];by_cases ae:lnS q.2.1 (sgn c)∈n
     .refine k4 _ _ %[_,n,rfl,ah.set U fd,?_,nd|λz=>by rw[a6];exact%[.inl|λh=>h.elim id λe=>e▸ae]];rw[aa,oM ae];exact congrArg (λf=>some (HO.dK (NmD n f))) (funext λx=>by by_cases e:x=lnS q.2.1 (sgn c)<;> simp[e])
     .refine k4 _ _ %[_,n++[lnS q.2.1 (sgn c)],rfl,ah.set U fd,by rw[aa,Cd ae],?_|λz=>by rw[a6,Yr,Yw]];rw[Yy];exact%[nd,by simp|λa ha b hb e=>ae (by rw[<-Xm hb,<-e];exact ha)]
    .refine k4 _ _ %[_,n,rfl,U,hd,nd|λz=>?_];have h:c=46\/c=10:=by
      rw[<-a5];simpa using h
     rw[mem,ka];refine or_congr Iff.rfl %[λ⟨c',C,r⟩=>%[c',Ys _ C|r]|λ⟨c',C,J,N,e⟩=>?_];rcases Xl C with u|u
     .exact%[c',u,J,N|e]
     .rw[Xm u]at J N;exact(h.elim N J).elim
   .intro B H2 %[Y,n,rfl,U,hd,nd|mem];refine k3 _ _ %[_,_,_,n,rfl,U,hd,nd|λz=>?_];rw[mem,tk,flatMap_append,Yr];refine or_congr Iff.rfl ?_;rw[show List.flatMap lyr [q]=lyr q by simp,yv];have e:tt.cps.toList.take tt.cps.size=tt.cps.toList:=Zn ∅;rw[e]
    constructor
    .rintro⟨c,hc,J,N,e⟩;exact%[c,(tx c J N).mp hc|e]
    .rintro⟨c,hc,e⟩;have bb:c≠10:=by
      have%[_,r,hr|b1]:=hc;exact Bi (all_eq_true.mp (bt.sign r hr) c b1)
     exact%[c,(tx c bb hc.1).mpr hc,bb,hc.1|e]
  .intro B H1 %[o3,o4,Y,n,rfl,U,hd,nd|mem];rw[a2,Xb]at mem;refine k2 _ _ (aj λD3 k3 _=>?_);lk;refine aE λO hK=>?_
   lk;have bc:=U _ _ hm;refine%[%[_|SqL.of bc]|hK _ _ λF hF=>?_];refine bB (λj vs B H7=>(∃o1,B=[o1])/\ah H1 H7/\H7 F<*vs/\vs=((qs.take j).filter pW)\0)
    %[%[none|rfl],ah.upd hF,aa|rfl] (λ_ _ _ H7 b2=>b2.2.1 _ _ bc) ?_ ?_
   .intro j vs B H8 hj %[%[o1|rfl],s7,be|hv];have%[ht|so]:=sa _ (Yc hj);have st:=SqT.of (K:=K) (s7 _ _ (U _ _ ht));have fe:∀b:Bool,pW qs[j]=b->((qs.take (j+1)).filter pW)\0=vs++if b=true then [V.ref qs[j].1]else []:=λb hb=>by
     rw[hv,X8,Z4 hj,Y2,Zd]
     congr 1
     show List.map _ (List.filter pW [qs[j]])=_;rw[Y3,hb];cases b<;> rfl
    have vl: ~~~vs<sizeLine:=by rw[hv,Z6];exact aA (Yf (Yh _ _) (by rw[Yk];lia))
    obtain⟨w,r,ew⟩:∃w r,qs[j].2=V.str w::r:=by
     rcases so with⟨w,a,b,e,_⟩|⟨w,a,y,e,_⟩
     .exact%[_,_|e]
     .exact%[_,_|e]
    rw[ew]at st;have is:pW qs[j]=decide (w=!"same"):=by
     unfold pW;rw[ew];simp
    lk;refine%[_,st,.str w,(show atI (V.str w::r) ((0:Nat):Int)∣.str w from cH rfl),ρ|bC (λc=>CK.mk hj be vl %[%[_|ρ],ah.set s7 hF,aa|?_]) λc=>CN.mk hj %[%[_|ρ],s7,be|?_]]
    .rw[fe true (by rw[is];simpa using c)];rfl
    .rw[fe false (by rw[is];simpa using c)];simp
   intro vs B H3 %[_,s3,ag|rfl];rw[Zn (Zi _)]at ag
   generalize as:qs.filter pW=us at ag
   have pI:=Er sa;rw[as]at pI;have ul: ~~~us<=40:=by rw[<-as];exact Yf (Yh _ _) bl
   have tu:∀q∈us,H q.1&&&q.2/\∃a b,q.2=[.str (!"same"),.str a,.str b]/\a∈n/\b∈n/\prT q=(a,b):=λq hq=>by
    rw[<-as]at hq;have%[J|N]:=List.mem_filter.mp hq;have%[a,b,e,ha,hb|h]:=yw (sa q J).2 N;exact%[(sa q J).1,a,b,e,(mem a).mpr ha,(mem b).mpr hb|h]
   have ws:∀a b,bh qs a b->a∈n/\b∈n:=λa b h=>by
    have:=iS sa a b h;exact%[(mem a).mpr this.1|(mem b).mpr this.2]
   have b0: ~~~n<=100:=by
    have:=_T.nodup_sub nd (m:=cs.flatMap lyr) λz hz=>(mem z).mp hz
    have:=tL ca
    lia
   have um: ~~~(us\0)= ~~~us:=Z6 _;refine k3 _ _ (aj λD4 k4 _=>aw λO hK=>?_);lk;have b3:=U.trans s3;refine%[~~~us,.inl %[_,SqL.of ag|um.symm],⋯,⋯|hK _ _ (cW (λi B L=>∃o7 o8 o9 I G f,B=[!l,!m,!d,o3,o4,Y,!F,o7,o8,o9,I,G]/\ah H L/\L F∣.lst (us\0)/\L d∣.dK (NmD n f)/\Rnd n (us.map prT) (bh qs) f i)
    %[_,_,_,_,_,id,ρ,b3,ag,s3 _ _ hd|.nil] ?_ ?_)]
   .intro i B H5 hi %[o7,o8,o9,I,G,f,rfl,s5,a0,a1|R];show tR _ _ _ _ [!l,!m,!d,o3,o4,Y,!F,some (.int (0+i)),o8,o9,I,G] H5;refine az λD6 k6 _=>aw λO hK=>?_
    lk;refine%[%[_|SqL.of a0]|hK _ _ (bz (λj B L=>∃o7 o8 o9 I G g,B=[!l,!m,!d,o3,o4,Y,!F,o7,o8,o9,I,G]/\ah H L/\L F∣.lst (us\0)/\L d∣.dK (NmD n g)/\Mid n (bh qs) (λa b=>(a,b)∈(us.take j).map prT) f g)
     %[_,_,_,_,_,f,ρ,s5,a0,a1,R.con,λz _=>cK _|λa b h=>(nomatch h)] (λj B L ⟨_,_,_,_,_,_,_,_,q,_⟩=>q) ?_ ?_)]
    .intro j q B H6 hq %[o7,o8,o9,I,G,g,rfl,s6,ab,ac|M];have bf:=Z8 hq;have%[q1,a,b,e,ha,hb|pe]:=tu q bf;have st:=SqT.of (K:=K) (s6 _ _ q1);rw[e]at st;have get:∀y∈n,bN H6 d (.str y) (some (.str (g y))):=λy hy=>by
      have:=bN.k (k:=Sum.inr y) ac;rw[jC hy]at this;exact this
     have b4:bh qs a b:=(pI a b).mpr (Xo %[q,bf|pe]);refine%[_,st,ρ,_,_,ρ,_,_,ρ,_,_,ρ,ρ|?_];show aZ _ _ _ [!l,!m,!d,o3,o4,Y,!F,o7,some (.str (!"same")),-a,-b,G] H6;refine aj λD7 k7 _=>?_
     lk;refine%[_,get a ha,_,get b hb,_,ρ,_,ρ|k7 _ _ (aj λD8 k8 _=>?_)]
     generalize hv:(if aM (g b) (g a)=true then g b else g a)=v
     have hn:∀g,~~~(NmD n g)<sizeLine:=λg=>by unfold NmD;rw[Z6];exact aA ⋯
     have P1:=eI.k (k:=Sum.inr a) (v:= .str v) ac (hn g);rw[oM ha]at P1;have b5:F≠d:=λc=>by rw[c,ac]at ab;cases ab
     lk;refine%[_,P1|k8 _ _ (az λD9 k9 _=>?_)];have P2:=eI.k (k:=Sum.inr b) (v:= .str v) (H:=upd H6 d (.dK (NmD n λx=>if x=a then v else g x))) aa (hn _);rw[oM hb,CB]at P2;lk;refine%[_,P2|k9 _ _ %[_,_,_,_,_,_,ρ,ah.set s6 fd,(ak b5).trans ab,aa|?_]];have M2:=M.step ws b4 (λx y h=>(pI x y).mpr ((List.map_subset prT (List.take_subset j us)) h)) hv.symm;refine%[M2.con,M2.le|λx y t=>M2.don x y ?_];have t:(x,y)∈(us.take (j+1)).map prT:=t;rw[X8,hq,Zd]at t;rcases Xl t with z|z
     .exact .inl z
     .have z:(x,y)=prT q:=↑z
      rw[pe]at z;cases z;exact .inr %[rfl|rfl]
    .intro B H6 %[o7,o8,o9,I,G,g,rfl,s6,ab,ac|M];rw[Zn (Zi _)]at M;exact k6 _ _ %[_,_,_,_,_,g,rfl,s6,ab,ac|R.step pI ws %[M.con,M.le|λa b s=>M.don a b ((pI a b).mp s)]]
   .intro B H5 %[o7,o8,o9,I,G,f,rfl,s5,a0,a1|R];refine k4 _ _ ?_;lk;have R:Rnd n (us.map prT) (bh qs) f (us.map prT).length:=by rw[Z6];simpa using R
    exact kk d H5 n f s5 fd a1 nd mem λz hz=>R.done pI ws hz
def HL{rows:ZB}{i n:Nat}(h:i<=n){k:ZB}(a:k∈bF rows i):k∈bF rows n:=by
 unfold bF at a ⊢;have%[j,b|e]:=mem_flatMap.mp a;exact mem_flatMap.mpr %[j,mem_range.mpr (Zg (mem_range.mp b) h)|e]
def Es{p:Nat×Nat}{k:ZB}(h:fk p∣k):[p].filterMap fk=[k]:=by rw[Y1,h];rfl
def Et{p:Nat×Nat}(h:fk p=none):[p].filterMap fk=[]:=by rw[Y1,h];rfl
def Eu(c e:Nat):inV (V.str ⟨([c].toArray)⟩) [V.str (!"."),V.str ⟨([e].toArray)⟩]=decide (c=46\/c=e):=by
 have a:eqV (V.str (!".")) (V.str ⟨([c].toArray)⟩)=decide (c=46):=by
  show(Str.ofString "."==(⟨([c].toArray)⟩:Str))=_;by_cases h:c=46
  .subst h;rfl
  .rw[Zh h];exact beq_eq_false_iff_ne.mpr λq=>h (xQ (show sgn 46=sgn c from q)).symm
 have b:eqV (V.str ⟨([e].toArray)⟩) (V.str ⟨([c].toArray)⟩)=decide (c=e):=by
  show((⟨([e].toArray)⟩:Str)==(⟨([c].toArray)⟩:Str))=_;by_cases h:c=e
  .subst h;simp
  .rw[Zh h];exact beq_eq_false_iff_ne.mpr λq=>h (xQ (show sgn e=sgn c from q)).symm
 unfold inV;simp only[Zw,List.any_nil,a,b,Bool.or_false,Bool.decide_or]
inductive vF
 | mk (n:Str) (rows:ZB):vs=[.str n,.str (Str.join nl rows)]->cy rows-> ~~~n<=8->(∀r H' (ts:ZG),ah H H'->H r=none->H' r∣.lst (ts\0)->aD H' ts->ts\2=(bF rows (~~~rows-1)).map (kI n)-> ~~~ts<=1600->Q (.ref r) H')->vF vs H Q E0
def pc(T:Txt K mg):↥1 "_law_cut_ties" ["_law_name","_law_text"] vF:=by
 .exists T.bp,bU,ca,hr,%[n,rows,rfl,a,cd|kk];have%[wd,w1,w2|a3]:=a.wide;have b2:=a.text;have a4:=a.split;have ch:=a.high;have b3:=a.pos
  generalize Str.join nl rows=z at b2 a4
  refine%[_,%["KCH2~z~!1AXBCH3SBCO~&A2A~'2~(E~)BeLJ4LJ5cDO'AfgA4BBJ6DPM~3^46kAXA^56BDaql3AkAFzFz0X^46AFzFz0X^56A0BBQDI3"|bU.nd]|?_]
  show aZ _ _ _ [-n,-z,none,none,none,none,none] H;refine aj λD1 k1 _=>?_
  lk;refine%[!1,Yf (by lia: ~~~z+2<=5000) (!1)|λR hR=>k1 _ _ ?_];rw[show(!"\n")=nl from rfl,a4];have sR:=ah.upd (o:= .lst (rows\3)) hR;have gR:upd H R (.lst (rows\3)) R=_:=aa
  generalize upd H R (.lst (rows\3))=H1 at sR gR
  refine aj λD2 k2 _=>?_
  lk;refine%[Xd _|λL hL=>k2 _ _ (aj λD3 k3 _=>aw λa5 hK=>?_)];have sL:=sR.trans (ah.upd (o:= .lst []) hL);have gL:upd H1 L (.lst []) L<*[]:=aa;have M:=ah.upd (o:= .lst []) hL _ _ gR;have fL:=sR.free hL
  generalize upd H1 L (.lst [])=g at sL gL M
  lk;refine%[_,SqL.of M|λp hp=>?_];rw[rh rows (length_pos_iff.mp b3)];have s3:=ah.upd (o:= .lst ((rows.drop 1)\3)) hp;have N:=s3 _ _ M;have a6:=s3 _ _ gL;have O:upd g p (.lst ((rows.drop 1)\3)) p<*(rows.drop 1)\3:=aa;have bb:=sL.trans s3;have b4:R≠L:=λe=>by rw[e,hL]at gR;cases gR
  have b5:p≠L:=λe=>by rw[e,gL]at hp;cases hp
  generalize upd g p (.lst ((rows.drop 1)\3))=H3 at s3 N a6 O bb
  refine%[%[_|SqL.of N],%[_|SqL.of O]|hK _ _ (uZ (xs:=rows\3) (ys:=(rows.drop 1)\3) (λi G l=>(∃o4 o5 I,G=[-n,-z,!R,!L,o4,o5,I])/\ah H l/\l R<*rows\3/\l p<*(rows.drop 1)\3/\
   ∃ps:ZG,l L∣.lst (ps\0)/\aD l ps/\ps\2=(bF rows i).map (kI n)/\ ~~~ps<=40*i) %[%[_,_,_|ρ],bb,N,O,[],a6,dA _,ρ|Xd _] (by rw[Z6,Z6,Yg];lia) (λi G l _ h=>%[SqL.of h.2.2.1|SqL.of h.2.2.2.1]) ?_ ?_)]
  .intro i x y TT G l hx hy %[%[o4,o5,I|rfl],sm,bc,be,ps,U,Y,B|m] hT;rw[Zl]at hx hy;have%[u,hu|rfl]:=map_eq_some_iff.mp hx;have%[r,C|rfl]:=map_eq_some_iff.mp hy;rw[getElem?_drop,Nat.add_comm]at C;have cl:i+1< ~~~rows:=(Xk C).1;have ul:u.cps.size=wd:=a3 u (Z8 hu);have rl:r.cps.size=wd:=a3 r (Z8 C);have d:=ah.upd (o:= .tup [V.str u,V.str r]) hT;have bf:upd l TT (.tup [V.str u,V.str r]) TT&&&[V.str u,V.str r]:=aa;have bl:=d _ _ bc;have bm:=d _ _ be;have bt:=d _ _ U;have J:aD (upd l TT (.tup [V.str u,V.str r])) ps:=ax Y λb z e=>d _ _ e
   have b0:=sm.trans d
   generalize upd l TT (.tup [V.str u,V.str r])=HT at d bf bl bm bt J b0
   have g1:rows.getD i ⟨([].toArray)⟩=u:=by rw[Zc,hu];rfl
   have g2:rows.getD (i+1) ⟨([].toArray)⟩=r:=by rw[Zc,C];rfl
   have b6:bF rows (i+1)=bF rows i++(List.zip u.cps.toList r.cps.toList).filterMap fk:=by rw[kD,g1,g2];rfl
   refine%[_,SqT.of bf,ρ,_,_,ρ,_,_,ρ,ρ|?_];show tR _ _ _ _ [-n,-z,!R,!L,-u,-r,I] HT;refine az λD4 k4 _=>aw λa5 hK=>?_
   lk;have us: ~~~u=wd:=ul;refine%[by rw[us];exact Yd (aA ⋯),⋯,⋯|?_];rw[us,Int.toNat_natCast];refine hK _ _ (cW (λj G g=>∃I,G=[-n,-z,!R,!L,-u,-r,I]/\ah H g/\g R<*rows\3/\g p<*(rows.drop 1)\3/\
    ∃ps:ZG,g L∣.lst (ps\0)/\aD g ps/\ps\2=(bF rows i++((List.zip u.cps.toList r.cps.toList).take j).filterMap fk).map (kI n)/\ ~~~ps<=40*i+j)
    %[_,rfl,b0,bl,bm,ps,bt,J,by rw[B];simp|m] ?_ ?_)
   .intro j G g hj %[I,rfl,ab,ag,al,qs,an,tq,qe|ql];show iu _ _ _ _ [-n,-z,!R,!L,-u,-r,some (.int (0+j))] g;rw[Int.zero_add];obtain⟨c,hc⟩:∃c,u.cps[j]?∣c:=%[u.cps[j]|by simp[show j<u.cps.size by lia]]
    obtain⟨e,he⟩:∃e,r.cps[j]?∣e:=%[r.cps[j]|by simp[show j<r.cps.size by lia]]
    have nx:=oA u r j c e hc he;have ac:atI u.cps.toList (j:Int)∣c:=cH ↑hc;have ae:atI r.cps.toList (j:Int)∣e:=cH ↑he;refine az λD5 k5 _=>?_
    lk;have l1: ~~~n+(!".").length<=sizeLine:=ci (by show ~~~n+1<=_;lia);have l2:∀c:Nat,(n++Str.ofString ".").length+ ~~~(⟨([c].toArray)⟩:Str)<=sizeLine:=λc=>ci (by
     have e:(n++Str.ofString ".").length= ~~~n+(!".").length:=size_append;have e1: ~~~(⟨([c].toArray)⟩:Str)=1:=rfl;have e2:(!".").length=1:=rfl
     lia)
    have lu: ~~~u<=sizeLine:=by rw[us];exact Yd (aA ⋯)
    have lr: ~~~r<=sizeLine:=by rw[show ~~~r=wd from rl];exact Yd (aA ⋯)
    refine%[lu,c,ac,lr,e,ae,#[2]|λt ht=>%[_,.inr (SqT.of aa),ρ,ρ|?_]];rw[Eu];have st:=ah.upd (o:= .tup [V.str (!"."),V.str ⟨([e].toArray)⟩]) ht;have as:=ax tq λb z e=>st _ _ e
    have v:=st _ _ an;have a0:=ab.trans st;have a1:=st _ _ ag;have a2:=st _ _ al
    generalize upd g t (.tup [V.str (!"."),V.str ⟨([e].toArray)⟩])=H4 at st as v a0 a1 a2
    have stay:fk (c,e)=none->(bF rows i++((List.zip u.cps.toList r.cps.toList).take (j+1)).filterMap fk).map (kI n)=qs\2:=λe=>by rw[qe,<-nx,Y0,Et e,Zx]
    refine bC (λh=>?_) λh=>?_
    .have h: ¬ (c=46\/c=e):=↑h
     refine%[tyL (SqL.of v),l1,lu,c,ac,l2 c,l1,lr,e,ae,l2 e,#[3]|λq hq=>?_];rw[i4,i4];have sq:=ah.upd (o:= .tup [V.str (lnS n ⟨([c].toArray)⟩),V.str (lnS n ⟨([e].toArray)⟩),V.str n]) hq;have b1:=sq _ _ v;have b9:q≠L:=λe=>by rw[e,v]at hq;cases hq
     refine%[_,b1,by rw[Z6];exact aA ⋯|k5 _ _ %[_,ρ,ah.set (a0.trans sq) fL,(ak b4).trans (sq _ _ a1),(ak b5).trans (sq _ _ a2),qs++[(q,[lnS n ⟨([c].toArray)⟩,lnS n ⟨([e].toArray)⟩,n])],by rw[aa,Zd];rfl,cY (ax (ax as λb z e=>sq _ _ e) (gY b1)) ∅ ((ak b9).trans aa),?_|by rw[Z9];exact X7 ql]];rw[<-nx,Y0,Es (if_pos %[λe=>h (.inl e)|λe=>h (.inr e)]),<-Ze,Zd,Zd,qe];rfl
    .refine k5 _ _ %[_,rfl,a0,a1,a2,qs,v,as,(stay (if_neg λq=>?_)).symm|⋯];rw[Zh (λe=>e.elim q.1 q.2)]at h;exact h rfl
   .intro G g %[I,rfl,ab,ag,al,qs,an,tq,qe|ql];rw[Zn (by rw[length_zip];simp;lia),<-b6]at qe;exact k4 _ _ %[%[_,_,_|rfl],ab,ag,al,qs,an,tq,qe|⋯]
  .intro G l %[%[o4,o5,I|rfl],sm,bc,be,ps,U,Y,B|m];rw[Z6,Yg]at B m;refine k3 _ _ ?_;lk;exact kk L l ps sm fL U Y B ⋯
inductive vG
 | mk (l m:Addr) (cs:ZH) (qs:ZN) (ls:ZB):vs=[.ref l,.ref m]->H l<*cU cs->H m∣.lst (qs\0)->bP H cs->cE H ls qs-> ~~~cs<=3-> ~~~qs<=40->(∀r H' (ts:ZG),ah H H'->H' r∣.lst (ts\0)->aD H' ts->ts\2=cL cs++cN qs qs.length->Q (.ref r) H')->vG vs H Q E0
def xa(T:Txt K mg):↥2 "_law_ties" ["_law_cuts_here","_law_sayings"] vG:=by
 .exists T.bq,cT,a3,hr,%[l,m,cs,qs,ls,rfl,hl,hm,ca,sa,c3,a4|kk];have O: ~~~(cU cs)= ~~~cs:=Z6 _;refine%[_,(QSs.h (ai (aK 2 cT.nd rfl (cx am))
   (ai (bM PassesOwn.never rfl rfl (bY (K:=K) rfl ↑0) (d6 (K:=K) rfl rfl rfl (gsE rfl (aF 3 cT.nd rfl) (gsE rfl (aF 4 cT.nd rfl) ck)))
   (aq (aK 2 cT.nd rfl (opE EO ↑2 (aH (pc T) hr rfl #[↑3,↑4])))))
   (ai (bM PassesOwn.never rfl rfl (t9 (K:=K) rfl rfl T.af rfl #[↑1]) (d6 (K:=K) rfl rfl rfl (gsE rfl (aF 5 cT.nd rfl) (gsE rfl (aF 6 cT.nd rfl) ck)))
   (aq (ifS (bA cI rfl (↑6>>ay) cZ)
    (aq (b8 rfl (bmO (K:=K) plainAttrs_list PySem.F.slot_list_append PySem.F.type_list_append bn rfl ↑2 #[(fO #[(↑6>>ay),(↑6>>ay),opE dS cZ (ctO ⟨rR⟩ T.ac boot_str rfl #[↑5])])])))
    aX)))
   (aq (aO ↑2))))))|?_]
  show aZ _ _ _ [!l,!m,none,none,none,none,none] H;refine aj λD1 k1 _=>?_
  lk;refine%[Xd _|λL hL=>k1 _ _ (aj λD2 k2 _=>aw λU hK=>?_)];have sL:=ah.upd (o:= .lst []) hL;lk;refine%[%[_|SqL.of (sL _ _ hl)]|hK _ _ (eG (λi u c=>∃L Y o4 ts,u=[!l,!m,!L,Y,o4,none,none]/\ah H c/\H L=none/\c L∣.lst (ts.map λt:Addr×ZB=>V.ref t.1)/\aD c ts/\ts\2=cL (cs.take i)/\ ~~~ts<=1600*i)
   %[L,_,_,[],ρ,sL,hL,aa,dA _,ρ|Xd _] (λi u c _ ⟨_,_,_,_,_,q,_⟩=>SqL.of (q _ _ hl)) ?_ ?_)]
  .intro i x u H1 B %[L,Y,o4,ts,rfl,n,fL,C,G,g|tl];have hi:i< ~~~cs:=by rw[<-O];exact(Xk B).1
   obtain⟨q,hq,rfl⟩:∃q,cs[i]?∣q/\x=V.ref q.1:=by
    unfold cU at B;rw[Zl,Z4 hi]at B;exact%[cs[i],Z4 hi|(Za B).symm]
   have%[an,as|a0]:=ca q (Z8 hq);refine%[_,SqT.of (n _ _ an),ρ,_,_,ρ,_,_,ρ,ρ|?_];show pq _ _ _ [!l,!m,!L,some (.str q.2.1),some (.str (Str.join nl q.2.2)),none,none] H1;refine az λD3 k3 _=>?_
   lk;refine%[_,_,ρ,a0,iR as|λr H2 us s2 fr hr tu ue ul=>%[r,ρ,_,s2 _ _ C,_,hr,by rw[Z6,Z6];exact Yd (aA ⋯)|λp I=>k3 _ _ %[p,_,_,ts++us,ρ,(n.trans s2).trans (ah.upd I),(n.trans s2).free I,by rw[aa,Zd],ax (kC (ax G λb z e=>s2 _ _ e) tu) (λb z e=>ah.upd I _ _ e),by rw[Zd,g,ue,kJ hq]|by rw[Z9];lia]]]
  .intro u H1 %[L,Y,o4,ts,rfl,n,fL,C,G,g|tl];rw[O,Xb]at g;refine k2 _ _ (aj λD3 k3 _=>aw λU hK=>?_);lk;have ab: ~~~(qs\0)= ~~~qs:=Z6 _;refine%[_,SqL.of (n _ _ hm)|hK _ _ (iD (λi u c=>∃o5 o6,u=[!l,!m,!L,Y,o4,o5,o6]/\ah H c/\∃ts:ZG,c L∣.lst (ts\0)/\aD c ts/\ts\2=cL cs++cN qs i/\ ~~~ts<=4800+i)
    %[_,_,ρ,n,ts,C,G,by rw[g,show cN qs 0=[]from rfl,Zx]|⋯] (λi u c _ ⟨_,_,_,q,_⟩=>SqL.of (q _ _ hm)) ?_ ?_)]
   .intro i x TT u c B %[o5,o6,rfl,n,ts,J,G,g|tl] hT;have hi:i< ~~~qs:=by rw[<-ab];exact(Xk B).1
    obtain⟨q,hq,rfl⟩:∃q,qs[i]?∣q/\x=V.ref q.1:=by
     rw[Zl,Z4 hi]at B;exact%[qs[i],Z4 hi|(Za B).symm]
    have s0:=ah.upd (o:= .tup [.int i,.ref q.1]) hT;have j:ah H (upd c TT (.tup [.int i,.ref q.1])):=n.trans s0;have ac:upd c TT (.tup [.int i,.ref q.1]) TT&&&[.int i,.ref q.1]:=aa;have d:=s0 _ _ J;have v:=ax G λb z e=>s0 _ _ e
    generalize upd c TT (.tup [.int i,.ref q.1])=HT at j ac d v
    have ae:=sa q (Z8 hq);have st:=SqT.of (K:=K) (j _ _ ae.1);have M:=ef hq;refine%[_,SqT.of ac,ρ,_,_,ρ,_,_,ρ,ρ|?_];show iu _ _ _ _ [!l,!m,!L,Y,o4,some (.int i),some (.ref q.1)] HT;refine az λD4 k4 _=>?_
    lk;rcases ae.2 with⟨wd,a,b,e,hw,ma,mb,_⟩|⟨wd,a,y,e,hw,_⟩
    .rw[e]at st M;refine%[_,st,_,ρ,ρ|bC (λN=>?_) λN=>?_]
     .rw[show fH i [V.str wd,V.str a,V.str b]∣[a,b,tz i]from if_pos (V.str.inj (Zo N))]at M;have a2: ~~~(Str.ofString (toString (i:Int)))<=21:=by
       have e:=PySem.int_text_length_le10 (a:=(i:Int)) (k:=20) (!1) (by have:(i:Int).natAbs=i:=rfl;lia);rw[PySem.ofString_length];lia
      have e1:(!"#").length=1:=!0
      have ag:(i:Int).natAbs.log2<1920:=Nat.lt_of_le_of_lt (Nat.log2_le_self _) (by have:(i:Int).natAbs=i:=rfl;lia);refine%[tyL (SqL.of d),_,st,_,ρ,_,st,_,ρ,ag,ci ⋯,#[3]|λp I=>?_];rw[show Str.ofString "#"++Str.ofString (toString (i:Int))=tz i from by unfold tz;rw[rA]];have sp:=ah.upd (o:= .tup [V.str a,V.str b,V.str (tz i)]) I;have al:=sp _ _ d;have a1:p≠L:=λe=>by rw[e,d]at I;cases I
      refine%[_,al,by rw[Z6];exact aA ⋯|k4 _ _ %[_,_,ρ,ah.set (j.trans sp) fL,ts++[(p,[a,b,tz i])],by rw[aa,Zd];rfl,cY (ax (ax v λb z e=>sp _ _ e) (gY al)) ∅ ((ak a1).trans aa),?_|by rw[Z9];exact X7 tl]];rw[M,Zd,g,<-Ze];rfl
     .rw[show fH i [V.str wd,V.str a,V.str b]=none from if_neg λz=>N (Zf (by rw[z]))]at M;refine k4 _ _ %[_,_,rfl,j,ts,d,v,?_|⋯];rw[M,g,Option.toList_none,Zx]
    .rw[e]at st M;refine%[_,st,_,ρ,ρ|?_];rw[if_neg (by rcases hw with rfl|rfl<;> decide)];refine k4 _ _ %[_,_,rfl,j,ts,d,v,?_|⋯];rw[M,g];show _=_++(_++[]);rw[Zx]
   .intro u c %[o5,o6,rfl,n,ts,J,G,g|tl];rw[ab]at g;refine k3 _ _ ?_;lk;exact kk L c ts n J G g
abbrev i7(a:List (List Key×V))(m:ZB->Prop):Prop:=∃ks:List ZB,a\1=ks.map (λk=>k.map Sum.inr)/\ks.Nodup/\∀k,k∈ks↔m k
def Cu{c:List (List Key×V)}{m j:ZB->Prop}(h:i7 c m)(k:ZB)(v:V)(f:∀z,j z↔m z\/z=k):i7 (cD c (k.map Sum.inr) v) j:=by
 have%[ks,g,l|i]:=h;have n:(k.map (Sum.inr:Str->Key))∈c\1↔k∈ks:=by
  rw[g,mem_map]
  constructor
  .rintro⟨z,p,e⟩;rw[<-mN _ _ e];exact p
  .intro d;exact%[k,d|ρ]
 by_cases d:k∈ks
 .refine%[ks,by rw[kX,if_pos (n.mpr d)];exact g,l|λz=>?_];rw[i,f]
  constructor
  .exact .inl
  .rintro(e|e)
   .exact e
   .rw[e];exact(i k).mp d
 .refine%[ks++[k],by rw[kX,if_neg (λq=>d (n.mp q)),g,Zd];rfl,?_|λz=>?_]
  .rw[Yy];exact%[l,by simp|λa o b r e=>by rw[Xm r]at e;rw[e]at o;exact d o]
  .rw[Yr,i,Yw,f]
def GN{a:List (List Key×V)}{m b:ZB->Prop}(h:i7 a m)(e:∀k,m k↔b k):i7 a b:=by
 have%[ks,c,d|f]:=h;exact%[ks,c,d|λk=>(f k).trans (e k)]
def Ev{a:List (List Key×V)}{m:ZB->Prop}{B:List ZB}(h:i7 a m)(s:∀k,m k->k∈B): ~~~a<= ~~~B:=by
 have%[ks,b,c|d]:=h;have:=_T.nodup_sub c (m:=B) λk e=>s k ((d k).mp e)
 have l:=congrArg List.length b;rw[Z6,Z6]at l
 lia
def Ew{rows:ZB}(h:uT rows)(e:cy rows):∃m:List ZB,~~~m<=26/\∀k,k∈m↔k∈bF rows (~~~rows-1):=by
 have%[m,c|d]:=h;refine%[m.filter λk=>decide (k∈bF rows (~~~rows-1)),Yf (Yh _ _) c|λk=>?_];rw[List.mem_filter,decide_eq_true_iff];refine%[λh=>h.2|λh=>%[?_|h]];have%[a,b,rfl|mt]:=lj h;exact d a b mt
def vH{H:Hp}:∀{cs:ZH},bP H cs->(∀p∈cs,uT p.2.2)->∃ks:List ZB,~~~ks<=26* ~~~cs/\∀k,k∈ks↔k∈cL cs
 |[],_,_=>%[[],Zi _|λk=>Iff.rfl]
 | q::cs,h,f=>by
   have%[ks,d|b]:=vH (cs:=cs) (λp a=>h p (Zk _ a)) λp a=>f p (Zk _ a)
   have%[m,e|c]:=Ew (f q Zm) (h q Zm).2.2;refine%[m.map (kI q.2.1) ++ks,by rw[Z9,Z6,Zr];lia|λk=>?_];unfold cL at b ⊢;rw[flatMap_cons,Yr,Yr,b,mem_map,mem_map];exact or_congr (exists_congr λz=>and_congr_left λ_=>c z) Iff.rfl
def yx{H:Hp}{cs:ZH}{qs:ZN}(i:bP H cs)(l:cE H (cs.flatMap lyr) qs){n:Nat}{k:ZB}(h:k∈cL cs\/k∈cN qs n):db (cs.flatMap lyr) k:=by
 rcases h with h|h
 .have%[p,c|h]:=mem_flatMap.mp h;have%[z,m|rfl]:=Xn h;have%[a,b,rfl|mt]:=lj m;have%[o|r]:=rg (i p c).2.2 mt;exact%[_,_,_,ρ,mem_flatMap.mpr %[p,c|iZ o]|mem_flatMap.mpr %[p,c|iZ r]]
 .have%[j,v|e]:=mem_filterMap.mp h;cases d:qs[j]? with
  | none=>rw[d]at e;cases e
  | some q=>
    rw[d]at e;rcases(l q (Z8 d)).2 with⟨g,a,b,f,hw,s,u,_⟩|⟨g,a,y,f,hw,_⟩
    .have e:fH j q.2∣k:=e;rw[f]at e;have e:(if g=Str.ofString "later" then some [a,b,tz j]else none)∣k:=e
     split at e
     .cases e;exact%[_,_,_,ρ,s|u]
     .cases e
    .have e:fH j q.2∣k:=e;rw[f]at e;cases e
inductive rK
 | mk (l m d:Addr) (cs:ZH) (qs:ZN) (ms:ZB) (g:Str->Str) (ks0:List ZB):vs=[.ref l,.ref m,.ref d]->H l<*cU cs->H m∣.lst (qs\0)->bP H cs->cE H (cs.flatMap lyr) qs-> ~~~cs<=3-> ~~~qs<=40->H d∣.dK (NmD ms g)->(∀z,z∈ms↔z∈cs.flatMap lyr)->(∀z∈ms,g z∈ms/\cf (bh qs) z (g z))-> ~~~ks0<=150->(∀k,k∈ks0↔k∈cL cs\/k∈cN qs qs.length)->(∀r H' (ss:ZG),ah H H'->H r=none->H' r∣.lst (ss\0)->aD H' ss->bG (bh qs) ks0 (ss\2)->(∀k∈ss\2,db ms k)-> ~~~ss<=150->Q (.ref r) H')->rK vs H Q E0
def vJ(T:Txt K mg):↥3 "_law_links" ["_law_cuts_here","_law_sayings","_law_homes_here"] rK:=by
 .exists T.bt,dz,a4,hr,%[l,m,d,cs,qs,ms,g,c,rfl,hl,hm,ca,sa,c3,al,hd,mem,lg,a2,N|kk];refine%[_,%["KCH3])CORG]*A0A1BeLJ4LJ5LJ6cDno3kAT24AT25A6BDIu]+A3B",dz.nd|hr]|?_]
  show aZ _ _ _ [!l,!m,!d,none,none,none,none] H;refine aj λD1 k1 _=>?_
  lk;intro L hL;have O:=ah.upd (o:= .dT []) hL;refine k1 _ _ (aj λD2 k2 _=>aw λa3 hK=>?_);lk;refine%[l,m,cs,qs,_,ρ,O _ _ hl,O _ _ hm,(λp hp=>%[O _ _ (ca p hp).1|(ca p hp).2]),(λq hq=>%[O _ _ (sa q hq).1|(sa q hq).2]),c3,al|λr H1 ts s1 B tt te=>%[r,ρ,%[_|SqL.of B]|hK _ _ ?_]];have an:=O.trans s1;have G:=s1 _ _ (show upd H L (.dT []) L∣.dT [] from aa);have I:∀k,k∈ts\2↔k∈c:=λk=>by rw[te,Yr,N]
  have tok:∀k∈c,db ms k:=λk j=>by
   have%[a,b,z,e,U|Y]:=yx ca sa ((N k).mp j);exact%[a,b,z,e,(mem a).mpr U|(mem b).mpr Y]
  have as:r≠L:=λe=>by rw[e,G]at B;cases B
  have ab:∀n k,k∈((ts.take n)\2).map (hJ g)->k∈c.map (hJ g):=λn k j=>by
   have%[t,M|e]:=Xn j;exact Xo %[t,(I t).mp ((List.map_subset _ (List.take_subset n ts)) M)|e]
  have tm: ~~~(ts\0)= ~~~ts:=Z6 _;refine bz (λi σ H'=>∃o4 o5 o6,σ=[!l,!m,!d,!L,o4,o5,o6]/\ah H H'/\(∀b o,b≠L->H1 b∣o->H' b∣o)/\∃u,H' L∣.dT u/\i7 u λk=>k∈((ts.take i)\2).map (hJ g))
   %[_,_,_,rfl,an,(λb o _ e=>e),[],G,[],rfl,X1|λk=>Iff.rfl] (λi σ H' ⟨_,_,_,_,_,q,_⟩=>q _ _ as B) ?_ ?_
  .intro i t σ H2 M %[o4,o5,o6,rfl,s2,sx,u,J|v];have ac:=Z8 M;have%[a,b,z,et,U|Y]:=tok _ ((I t.2).mp (Xo %[t,ac|rfl]));have C:=(tt t ac).2;rw[et]at C;have st:=SqT.of (K:=K) (sx _ _ (λe=>by rw[e,G]at C;cases C) C);have a0:=s2 _ _ hd;have get:∀y∈ms,bN H2 d (.str y) (some (.str (g y))):=λy hy=>by
    have:=bN.k (k:=Sum.inr y) a0;rw[jC hy]at this;exact this
   refine%[_,st,ρ,_,_,ρ,_,_,ρ,_,_,ρ,ρ|?_];show lI _ _ _ _ [!l,!m,!d,!L,-a,-b,-z] H2;refine az λD3 k3 _=>?_
   lk;refine%[_,get a U,_,get b Y,#[3]|λp hp=>?_];have sp:=ah.upd (o:= .tup [V.str (g a),V.str (g b),V.str z]) hp;have a1:=Ev v (ab i);rw[Z6]at a1;refine%[_,eI.t (k:=(hJ g [a,b,z]).map Sum.inr) (sp _ _ J) (by rw[aa];rfl) (by rw[PySem.sizeLine_eq];lia)|k3 _ _ %[_,_,_,ρ,λb o e=>by rw[ak (au e hL)];exact sp _ _ (s2 _ _ e),(λb o n e=>by rw[ak n];exact sp _ _ (sx b o n e)),_,aa|Cu v _ _ λk=>?_]];rw[X8,M,Zd,Zd,Yr,<-et];exact or_congr Iff.rfl Yw
  .intro σ H2 %[o4,o5,o6,rfl,s2,sx,u,J|v];rw[Xb]at v;refine k2 _ _ ?_;lk;have%[ks,q1,q2|q3]:=v;have q3:∀k,k∈ks↔k∈c.map (hJ g):=λk=>by
    refine(q3 k).trans ?_;dsimp only;rw[mem_map,mem_map];exact exists_congr λt=>and_congr_left λ_=>I t
   have lk:=oQ tok (λz hz=>(lg z hz).2);have few: ~~~ks<=150:=by
    have:=_T.nodup_sub q2 (m:=c.map (hJ g)) λk j=>(q3 k).mp j
    rw[Z6]at this
    lia
   have ae:∀k∈ks,db ms k:=λk j=>by
    have%[t,M|rfl]:=Xn ((q3 k).mp j);have%[a,b,z,rfl,U|Y]:=tok t M;exact%[_,_,_,ρ,(lg a U).1|(lg b Y).1]
   have h3:∀k∈ks,~~~k=3:=λk j=>by
    have%[a,b,z,rfl|_]:=ae k j;rfl
   refine%[u,J,ks,q1,3,h3,!1,⋯|λr ss ag ta pm=>?_];have s3:=ah.upd (o:= .lst (ss\0)) ag;exact kk r _ ss (s2.trans s3) (s2.free ag) aa (ax ta λb z e=>s3 _ _ e) %[pm.nodup_iff.mpr q2|λk=>by rw[pm.mem_iff,q3,lk]] (λk j=>ae k (pm.mem_iff.mp j)) (by have:=pm.length_eq;rw[Z6]at this;lia)
abbrev sc2(t:Addr×ZB):Str:=t.2.getD 1 Str.empty
abbrev StB(H:Hp)(d:Addr)(ss:ZG):Prop:=∃a,H d∣.dK a/\∀n:Str,(∃l,bx a (Sum.inr n)∣.ref l/\H l∣.lst (((ss.filter λt=>decide (t.2[0]? =some n)).map sc2)\3))\/(bx a (Sum.inr n)=none/\∀t∈ss,t.2[0]? ≠some n)
def StB.up{H e:Hp}{d:Addr}{ss:ZG}(h:StB H d ss)(s:ah H e):StB e d ss:=by
 have%[c,f|g]:=h;exact%[c,s _ _ f|λn=>(g n).imp_left λ⟨l,a,b⟩=>%[l,a|s _ _ b]]
def StB.at{H i:Hp}{e d q p:Addr}{ss:ZG}(h:StB H e ss)(m:e≠d)(r:∃x,H d∣.dK x)(s:H q=none)(f:∀b o,b≠d->b≠q->H b∣o->i b∣o)(u:∃x,i q<*x)(y:i p=none)(n:Str):
 ∃g a,upd i p (.lst []) e∣.dK g/\(bx g (Sum.inr n)).getD (.ref p)= .ref a/\upd i p (.lst []) a∣.lst (((ss.filter λt=>decide (t.2[0]? =some n)).map sc2)\3)/\a≠q:=by
 have%[g,z|B]:=h;have sp:=ah.upd (o:= .lst []) y;have A:=sp _ _ (f e _ m (au z s) z);rcases B n with⟨l,v,j⟩|⟨v,C⟩
 .exact⟨g,l,A,by rw[v];rfl,sp _ _ (f l _ (λc=>by have%[x|r]:=r;rw[c,r]at j;cases j) (au j s) j),au j s⟩
 .refine%[g,p,A,by rw[v];rfl,?_|λc=>by have%[x|e]:=u;rw[<-c,y]at e;cases e];rw[filter_eq_nil_iff.mpr λt E c=>C t E (Zo c)];exact aa
def StB.fr{H m:Hp}{e d q:Addr}{ss:ZG}(h:StB H e ss)(g:e≠d)(i:∃x,H d∣.dK x)(p:H q=none)(f:∀b o,b≠d->b≠q->H b∣o->m b∣o):StB m e ss:=by
 have%[j,r|s]:=h;exact%[j,f e _ g (au r p) r|λn=>(s n).imp_left λ⟨l,u,a⟩=>%[l,u|f l _ (λc=>by have%[x|i]:=i;rw[c,i]at a;cases a) (au a p) a]]
inductive Cv
 | mk (l:Addr) (st:Str) (ns:ZB) (ss:ZG):vs=[.ref l,.str st]->H l∣.lst (ss\0)->cn H ns ss-> ~~~ss<=150->(∀d H' (F:ZB) (g:Str->Int),ah H H'->H d=none->H' d∣.dK (VD F λx=> .int (g x))->F.Nodup->(∀y,y∈F↔Rch (ss\2) st y)->Q (.ref d) H')->Cv vs H Q E0
abbrev HM(H:Hp)(l e d:Addr)(st:Str)(ss:ZG)(m:Nat)(h:_L.St)(b:Hp):Prop:=∃(r:Addr) (a:Int) (i j n o c f:Option V) (R F:ZB) (g:Str->Int),h=[!l,-st,!e,i,j,n,!d,!r,some (.int a),o,c,f]/\ah H b/\StB b e ss/\b r<*R\3/\b d∣.dK (VD F λx=> .int (g x))/\F.Nodup/\(∀y∈F,Rch (ss\2) st y)/\(∀x∈R,x=st\/x∈F)/\(∀x,(x=st\/x∈F)->x∈R\/∀y,Ed (ss\2) x y->y∈F)/\m=2*(150-F.length) +R.length.min 1
def lD(T:Txt K mg):↥1 "_law_far" ["_law_laid","_law_one"] Cv:=by
 .exists T.bu,bp,dp,hr,%[l,st,ns,ss,rfl,hl,be,dr|kk];have ds: ~~~(ss\0)= ~~~ss:=Z6 _;refine%[_,%["KCH2pCOR0eLJ3LJ4LJ5cDa~nl~o~p2A3ASBBA4BCH6pCH7SA1BCH8EC~GM~F7SBCH8FY8ECH9SBCOR7J:DOR}[2A,:ASBBJ;DP~I,;6Cn86,;Daql9A,;BQDH79DI6",bp.nd|hr]|?_]
  show aZ _ _ _ [!l,-st,none,none,none,none,none,none,none,none,none,none] H;refine aj λD1 k1 _=>?_
  lk;intro e fe;refine k1 _ _ (aj λD2 k2 _=>aw λa1 hK=>?_);lk;have se:=ah.upd (o:= .dK []) fe;refine%[%[_|SqL.of (se _ _ hl)]|hK _ _ ?_];refine bz (λj L C=>(∃o3 o4 o5,L=[!l,-st,!e,o3,o4,o5,none,none,none,none,none,none])/\ah H C/\∃M:Gs Str,ip V.str H C e M/\(M\1).Nodup/\(∀g∈M,g.2.2=((ss.take j).filter λt=>decide (t.2[0]?∣g.1)).map sc2)/\∀n,n∈M\1↔∃t∈ss.take j,t.2[0]?∣n)
   %[%[_,_,_|rfl],se,[],%[aa,λg hg=>(nomatch hg)|X1],X1,(λg hg=>nomatch hg)|by simp] (λj L C h=>h.2.1 _ _ hl) ?_ ?_
  .intro j t L C U %[%[o3,o4,o5|rfl],sm,M,I,gn,gf|gk];have tm:=Z8 U;have j1:j< ~~~ss:=(Xk U).1;have%[c1,n,y,z,et|_]:=be t tm;have hn:t.2[0]?∣n:=by rw[et];rfl
   have hy:sc2 t=y:=by unfold sc2;rw[et];rfl
   have tk:ss.take (j+1)=ss.take j++[t]:=by rw[X8,U];rfl
   have bf:=sm _ _ c1;rw[et]at bf;refine%[_,SqT.of bf,ρ,_,_,ρ,_,_,ρ,_,_,ρ,ρ|?_];show jH _ _ [!l,-st,!e,-n,-y,-z,none,none,none,none,none,none] C;refine az λD4 k4 _=>?_
   lk;have gl: ~~~M<= ~~~ss:=by
    have:M\1 ⊆ ss.filterMap λt=>t.2[0]? :=λy hy=>by
     have%[t,U|e]:=(gk y).mp hy;exact mem_filterMap.mpr %[t,Yv U|e]
    have:=_T.nodup_sub gn λx O=>this O
    rw[Z6]at this;exact Yf this (length_filterMap_le _ _)
   have keys:∀(a2:Gs Str),(∀y,y∈a2\1↔y∈M\1\/y=n)->∀y,y∈a2\1↔∃t∈ss.take (j+1),t.2[0]?∣y:=λa2 h y=>by
    rw[h,gk,tk]
    constructor
    .rintro(⟨t',h1,h2⟩|rfl)
     .exact%[t',Ys _ h1|h2]
     .exact%[t,Yt _ Zm|hn]
    .rintro⟨t',h1,h2⟩;rcases Xl h1 with q|q
     .exact .inl %[t',q|h2]
     .rw[Xm q,hn]at h2;exact .inr (Za h2).symm
   refine%[tyD (I.at_),#[0]|λp hp=>%[Sum.inr n,ρ,gD M,?_,?_,λv hv=>?_|λhv=>?_]]
   .rw[ak (λc=>by rw[<-c,I.at_]at hp;cases hp)];exact I.at_
   .unfold gD;rw[Z6];exact aA ⋯
   .have%[q,hq,e1|rfl]:=ei hv;have sp:=ah.upd (o:= .lst []) hp;have hl:=sp _ _ (I.la q hq).2;have G:=(I.up sp).add gn hq y;have ml: ~~~q.2.2<= ~~~ss:=by
     rw[gf q hq,Z6];exact Yf (Yh _ _) (by rw[Yk];lia)
    have ka:(lB q.1 y M)\1=M\1:=by
     unfold lB;rw[Yq];refine Yo λg _=>?_
     show(if g.1=q.1 then(g.1,g.2.1,g.2.2++[y])else g).1=_
     split<;> rfl
    refine%[tyL (SqL.of hl),_,ρ,_,hl,by rw[Z6];exact aA ⋯|k4 _ _ %[%[_,_,_|ρ],ah.set (sm.trans sp) (I.la q hq).1,_,G,by rw[ka];exact gn,λg hg=>?_|keys _ λy=>?_]]
    .unfold lB at hg;have%[g0,h0|rfl]:=Xn hg;rw[tk,Y2,Zd];by_cases c:g0.1=q.1
     .rw[if_pos c];show g0.2.2++[y]=_++(List.filter (λt=>decide (t.2[0]?∣g0.1)) [t]).map sc2;rw[gf g0 h0,Y6 (by rw[hn,c,e1];simp),Y7,Yp,map_nil,hy]
     .rw[if_neg c,gf g0 h0,Y4 (by rw[hn,<-e1];simpa using λz=>c z.symm),Y7,map_nil,Zx]
    .rw[ka];exact%[.inl|λh=>h.elim id λh=>by rw[h,<-e1];exact Xo %[q,hq|ρ]]
   .have nk:n∉M\1:=λh=>by
     have%[q,hq|c]:=Xn h;have:=g9 hq;rw[c,hv]at this;exact this rfl
    have de:e≠p:=λq=>by rw[<-q,I.at_]at hp;cases hp
    have gp:upd (upd C p (.lst [])) e (.dK (cD (gD M) (Sum.inr n) (.ref p))) p<*[]:=by rw[ak de.symm,aa]
    refine%[tyL (SqL.of gp),[],gp,(show 0<sizeLine by decide)|k4 _ _ %[%[_,_,_|ρ],ah.set (ah.set (sm.trans (ah.upd hp)) fe) (sm.free hp),_,I.new sm hp n y nk,?_,λg hg=>?_|keys _ λy=>?_]]
    .rw[Zd,Yy];exact%[gn,by simp|λa ha b hb c=>nk (by rw[<-show b=n from Xm hb,<-c];exact ha)]
    .rw[tk,Y2,Zd];rcases Xl hg with q|q
     .have c:g.1≠n:=λc=>nk (by rw[<-c];exact Xo %[g,q|rfl])
      rw[gf g q,Y4 (by rw[hn];simpa using λz=>c z.symm),Y7,map_nil,Zx]
     .rw[Xm q];show [y]=_++(List.filter (λt=>decide (t.2[0]?∣n)) [t]).map sc2;rw[Y6 (by rw[hn];simp),Y7,filter_eq_nil_iff.mpr λt' c2 c=>nk ((gk n).mpr %[t',c2|Zo c]),Yp,hy];rfl
    .rw[Zd,Yr,Yp,map_nil,Yw]
  .intro L C %[%[o3,o4,o5|rfl],sm,M,I,gn,gf|gk];rw[Zn (Zi _)]at gf gk;have hb:StB C e ss:=⟨_,I.at_,λn=>by
    cases hv:bx (gD M) (Sum.inr n)with
    | none=>
      refine .inr %[rfl|λt U c=>?_];have%[q,hq|c]:=Xn ((gk n).mpr %[t,U|c]);have:=g9 hq;rw[c,hv]at this;exact this rfl
    | some v=>
      have%[q,hq,e1|rfl]:=ei hv;refine .inl %[_,rfl|?_];rw[(I.la q hq).2,gf q hq,e1]⟩
   refine k2 _ _ (aj λD3 k3 _=>?_);lk;intro d fd;have s1:=ah.upd (o:= .dK []) fd;refine k3 _ _ (aj λD4 k4 _=>?_);have bl:=hb.up s1;have bm:upd C d (.dK []) d∣.dK (VD [] λx=> .int ((λ_=>0:Str->Int) x)):=aa;have bt:=sm.trans s1;have b0:=sm.free fd;have a3:e≠d:=λc=>by
    have%[b1,h1|_]:=hb;rw[c,fd]at h1;cases h1
   generalize upd C d (.dK [])=H1 at bl bm bt
   lk;refine%[#[1]|λr0 c3=>k4 _ _ (aj λD5 k5 _=>?_)];have s2:=ah.upd (o:= .lst [V.str st]) c3;have b2:upd H1 r0 (.lst [V.str st]) r0<*[st]\3:=aa;have b3:=s2 _ _ bm;have b4:=bl.up s2;have b5:=bt.trans s2
   generalize upd H1 r0 (.lst [V.str st])=H2 at b5 b2 b3 b4
   lk;refine k5 _ _ (aj λD6 k6 _=>?_);refine%[HM H l e d st ss,%[_,r0,0,o3,o4,o5,none,none,none,[st],[],_,ρ,b5,b4,b2,b3,X1,(λ_ h=>nomatch h),(λx h=>Xm h▸ .inl rfl),(λx h=> .inl (h.elim (λh=>h▸Zm) λh=>nomatch h))|ρ]|?_];intro m L H3 %[r,B,o3,o4,o5,o9,ae,J,R,F,g,rfl,s3,c4,b6,b9,Fn,Fr,c5,cl|rfl];lk;have few:∀{X:ZB},X.Nodup->(∀y∈X,Rch (ss\2) st y)-> ~~~X<=150:=λ{X} xn xr=>by
    have:=_T.nodup_sub xn (m:=ss.map sc2) λy hy=>by
     have:∃a,Ed (ss\2) a y:=by
      cases xr y hy with
      | one e=>exact%[_|e]
      | more _ e=>exact%[_|e]
     have%[a,z|N]:=this;have%[t,U|et]:=Xn N;exact Xo %[t,U|by unfold sc2;rw[et];rfl]
    rw[Z6]at this
    lia
   refine%[Xd _|λp fp=>%[R\3,ah.upd fp _ _ b6,aa|bC (λh=>?_) λh=>?_]]
   .have R0:R≠[]:=λc=>by rw[c]at h;exact absurd rfl (Zo h)
    have s4:=ah.upd (o:= .lst []) fp;have Y:=s4 _ _ b6;have ab:=s4 _ _ b9;have an:=c4.up s4;have a4:=s3.trans s4
    generalize upd H3 p (.lst [])=H4 at Y ab an a4
    refine⟨λc6 C=>∃m',m'<2*(150-F.length) +R.length.min 1/\HM H l e d st ss m' c6 C,λ_ _ h=>h,Xd _,λq fq=>aw λa1 hK=>?_⟩;have a5:d≠q:=au ab fq;have da:=a4.free fq;have f0:∀b o,b≠d->b≠q->H4 b∣o->upd H4 q (.lst []) b∣o:=λb o _ n e=>by rw[ak n];exact e
    have ca:upd H4 q (.lst []) q<*([]:ZB)\3:=aa;have cd:upd H4 q (.lst []) d∣.dK (VD (F++[]) λx=> .int (g x)):=by rw[ak a5,Zx];exact ab
    have ch:=a4.trans (ah.upd (o:= .lst []) fq);have co:r≠d:=λc=>by rw[c,ab]at Y;cases Y
    have cs:r≠q:=au Y fq
    generalize upd H4 q (.lst [])=H5 at f0 ca cd ch
    lk;refine%[%[_|SqL.of (f0 _ _ co cs Y)]|hK _ _ ?_];have Rm: ~~~(R\3)= ~~~R:=Z6 _;refine bz (λi L C=>∃(ae J:Option V) (A:ZB) (g:Str->Int),L=[!l,-st,!e,o3,o4,o5,!d,!r,some (.int (B+1)),!q,ae,J]/\ah H C/\(∀b o,b≠d->b≠q->H4 b∣o->C b∣o)/\C q<*A\3/\C d∣.dK (VD (F++A) λx=> .int (g x))/\(F++A).Nodup/\(∀y∈A,Rch (ss\2) st y)/\∀x∈R.take i,∀y,Ed (ss\2) x y->y∈F++A)
     %[_,_,[],g,rfl,ch,f0,ca,cd,by rw[Zx];exact Fn,(λ_ h=>nomatch h)|λ_ h=>nomatch h] (λi L C ⟨_,_,_,_,_,_,f,_⟩=>f _ _ co cs Y) ?_ ?_
    .intro i n L H6 hn %[ae,J,A,g,rfl,s6,f6,as,a6,An,Ar|Ad];have tk:R.take (i+1)=R.take i++[n]:=by rw[X8,hn];rfl
     have nR:n=st\/Rch (ss\2) st n:=(c5 n (Z8 hn)).imp id (Fr n);show tR _ _ _ _ [!l,-st,!e,o3,o4,o5,!d,!r,some (.int (B+1)),!q,-n,J] H6;refine az λD7 k7 _=>aw λa1 hK=>?_
     lk;have%[dt,ct|_]:=id an;refine%[tyD (f6 e _ a3 (au ct fq) ct),#[0]|λp2 cv=>?_];have%[b1,a,cw,dd,ac|dg]:=an.at a3 %[_|ab] fq f6 %[_|as] cv n;have sp:=ah.upd (o:= .lst []) cv;have cM:=sp _ _ as;have bb:=sp _ _ a6;have s7:=s6.trans sp;have f7:∀b o,b≠d->b≠q->H4 b∣o->upd H6 p2 (.lst []) b∣o:=λb o n1 n2 e=>sp _ _ (f6 b o n1 n2 e)
     have dk:a≠d:=λc=>by rw[c,bb]at ac;cases ac
     generalize upd H6 p2 (.lst [])=H7 at cw ac cM bb s7 f7
     refine%[Sum.inr n,ρ,b1,cw,a,dd,%[_|SqL.of ac]|hK _ _ ?_];have yI:∀y,y∈(ss.filter λt=>decide (t.2[0]?∣n)).map sc2↔Ed (ss\2) n y:=λy=>by
      rw[mem_map]
      constructor
      .rintro⟨t,U,rfl⟩;have%[h1|h2]:=List.mem_filter.mp U;have%[_,x,y,z,et|_]:=be t h1;have h2:=Zo h2;rw[et]at h2;obtain rfl:x=n:=Za h2;exact%[z|Xo %[t,h1|by unfold sc2;rw[et];rfl]]
      .rintro⟨z,N⟩;have%[t,U|et]:=Xn N;exact%[t,List.mem_filter.mpr %[U|Zf (by rw[et];rfl)]|by unfold sc2;rw[et];rfl]
     generalize (ss.filter λt=>decide (t.2[0]?∣n)).map sc2=ys at ac yI
     have ym: ~~~(ys\3)= ~~~ys:=Z6 _;refine bz (λj L C=>∃(J:Option V) (A:ZB) (g:Str->Int),L=[!l,-st,!e,o3,o4,o5,!d,!r,some (.int (B+1)),!q,-n,J]/\ah H C/\(∀b o,b≠d->b≠q->H4 b∣o->C b∣o)/\C a<*ys\3/\C q<*A\3/\C d∣.dK (VD (F++A) λx=> .int (g x))/\(F++A).Nodup/\(∀y∈A,Rch (ss\2) st y)/\(∀x∈R.take i,∀y,Ed (ss\2) x y->y∈F++A)/\∀y∈ys.take j,y∈F++A)
      %[_,A,g,rfl,s7,f7,ac,cM,bb,An,Ar,Ad|λ_ h=>nomatch h] (λj L C ⟨_,_,_,_,_,_,h,_⟩=>h) ?_ ?_
     .intro j y L H8 hy %[J,A,g,rfl,s8,f8,bc,a0,ag,An,Ar,Ad|Aj];have tj:ys.take (j+1)=ys.take j++[y]:=by rw[X8,hy];rfl
      have yR:Rch (ss\2) st y:=by
       have e:=(yI y).mp (Z8 hy);rcases nR with rfl|h
       .exact .one e
       .exact .more h e
      have al:=few An λz N=>(Xl N).elim (Fr z) (Ar z)
      have vl: ~~~(VD (F++A) λx=>V.int (g x))<sizeLine:=by unfold VD;rw[Z6];exact aA ⋯
      show iu _ _ _ _ [!l,-st,!e,o3,o4,o5,!d,!r,some (.int (B+1)),!q,-n,-y] H8;refine az λD8 k8 _=>?_
      lk;refine%[_,bN.k (k:=Sum.inr y) ag|bC (λc=>?_) λc=>?_]
      .have yn:y∉F++A:=λh=>by rw[fI h]at c;cases c
       have P:=eI.k (k:=Sum.inr y) (v:= .int (B+1)) ag vl;have dn:q≠d:=Ne.symm a5;have c0:=(ak (o:= .dK (cD (VD (F++A) λx=>V.int (g x)) (Sum.inr y) (V.int (B+1)))) dn).trans a0;have vd:=yo (g:=λx=>V.int (g x)) (h:=λx=>V.int (if x=y then B+1 else g x)) yn λx O=>by
        show V.int (if x=y then B+1 else g x)=V.int (g x);rw[if_neg (λc:x=y=>yn (c▸O))]
       rw[if_pos rfl]at vd;refine%[_,P,tyL (SqL.of c0),_,c0,by rw[Z6];rw[Z9]at al;exact aA ⋯|k8 _ _ %[_,A++[y],λx=>if x=y then B+1 else g x,ρ,ah.set (ah.set s8 b0) da,(λb o n1 n2 e=>by rw[ak n2,ak n1];exact f8 b o n1 n2 e),by rw[ak dg,ak dk];exact bc,by rw[aa,Zd];rfl,by rw[ak a5,aa,vd,Ze],?_,(λz N=>?_),(λx O z e=>?_)|λz N=>?_]]
       .rw[<-Ze,Yy];exact%[An,by simp|λa ha b hb e=>yn (by rw[<-Xm hb,<-e];exact ha)]
       .rcases Xl N with u|u
        .exact Ar z u
        .rw[Xm u];exact yR
       .rw[<-Ze];exact Ys _ (Ad x O z e)
       .rw[<-Ze];rw[tj]at N;rcases Xl N with u|u
        .exact Ys _ (Aj z u)
        .exact Yt _ u
      .have yn:y∈F++A:=Decidable.byContradiction λh=>by rw[fB h]at c;exact c rfl
       refine k8 _ _ %[_,A,g,rfl,s8,f8,bc,a0,ag,An,Ar,Ad|λz N=>?_];rw[tj]at N;rcases Xl N with u|u
       .exact Aj z u
       .rw[Xm u];exact yn
     .intro L H8 %[J,A,g,rfl,s8,f8,bc,a0,ag,An,Ar,Ad|Aj];rw[Xb]at Aj;refine k7 _ _ %[_,_,A,g,rfl,s8,f8,a0,ag,An,Ar|λx O y e=>?_];rw[tk]at O;rcases Xl O with z|z
      .exact Ad x z y e
      .rw[Xm z]at e;exact Aj y ((yI y).mpr e)
    .intro L H6 %[ae,J,A,g,rfl,s6,f6,as,a6,An,Ar|Ad];rw[Xb]at Ad;have al:=few An λz N=>(Xl N).elim (Fr z) (Ar z)
     rw[Z9]at al;have rp:R.length.min 1=1:=Nat.min_eq_right (length_pos_iff.mpr R0);dsimp only;lk;refine%[_,?_,q,B+1,o3,o4,o5,_,ae,J,A,F++A,g,ρ,s6,an.fr a3 %[_|ab] fq f6,as,a6,An,(λy hy=>(Xl hy).elim (Fr y) (Ar y)),(λx O=> .inr (Yt _ O)),λx O=>?_|ρ]
     .rw[Z9,rp];cases A with
      | nil=>simp
      | cons a A=>
        rw[Zr]at al ⊢;have:(~~~A+1).min 1=1:=Nat.min_eq_right ⋯
        lia
     .by_cases hA:x∈A
      .exact .inl hA
      .refine .inr λy e=>?_
       rcases cl x (O.imp id λh=>(Xl h).resolve_right hA)with h|h
       .exact Ad x h y e
       .exact Ys _ (h y e)
   .have R0:R=[]:=by
     have:=h;cases R with
     | nil=>rfl
     | cons a R=>exact absurd (Zf ∅) h
    subst R0;have s4:=ah.upd (o:= .lst []) fp;refine k6 _ _ ?_;lk;refine kk d _ F g (s3.trans s4) b0 (s4 _ _ b9) Fn λy=>%[Fr y|λr=>?_]
    exact r.closed (R:=(·∈F)) ((cl st (.inl rfl)).resolve_left λh=>nomatch h) λx y O e=>((cl x (.inr O)).resolve_left λh=>nomatch h) y e
structure Ben (H:Hp) (ks:List ZB) (rs:Gs Str):Prop where
 nd:(rs\1).Nodup
 at_:∀r∈rs,(∃g:Str->Int,H r.2.1∣.dK (VD r.2.2 λx=> .int (g x)))/\r.2.2.Nodup/\∀y,y∈r.2.2↔Rch ks r.1 y
structure BeF (H:Hp) (ks:List ZB) (d:Addr) (rs:Gs Str):Prop where
 at_:∃o,H d∣.frz o (.dK (gD rs))
 nd:(rs\1).Nodup
 in_:∀r∈rs,(∃g:Str->Int,H r.2.1∣.dK (VD r.2.2 λx=> .int (g x)))/\r.2.2.Nodup/\∀y,y∈r.2.2↔Rch ks r.1 y
def BeF.up{H a:Hp}{ks:List ZB}{d:Addr}{rs:Gs Str}(h:BeF H ks d rs)(s:ah H a):BeF a ks d rs:=
 %[h.at_.imp λo e=>s _ _ e,h.nd|λr b=>%[(h.in_ r b).1.imp λg e=>s _ _ e|(h.in_ r b).2]]
inductive yy
 | mk (l d:Addr) (ns ms:ZB) (ss:ZG) (f:Str->Str):vs=[.ref l,.ref d]->H l∣.lst (ss\0)->cn H ns ss-> ~~~ss<=150->H d∣.dK (NmD ms f)-> ~~~ms<=63->(∀b H' (rs:Gs Str),ah H H'->H b=none->H' b∣.dK (gD rs)->Ben H' (ss\2) rs->(∀r∈rs,r.2.1≠b/\H r.2.1=none)->(∀x,x∈rs\1↔∃z∈ms,f z=x)->Q (.ref b) H')->yy vs H Q E0
inductive Cw
 | mk (l d:Addr) (ns ms:ZB) (ss:ZG) (f:Str->Str):vs=[.ref l,.ref d]->H l∣.lst (ss\0)->cn H ns ss-> ~~~ss<=150->H d∣.dK (NmD ms f)-> ~~~ms<=63->(∀b H' (rs:Gs Str),ah H H'->BeF H' (ss\2) b rs->(∀x,x∈rs\1↔∃z∈ms,f z=x)->Q (.ref b) H')->Cw vs H Q E0
def pd(T:Txt K mg):↥2 "_law_beneath" ["_law_laid","_law_homes_here"] yy:=by
 refine T.bv.cal eV (λH vs Q E h=>?_)
 .have%[l,d,ns,ms,ss,f,rfl,hl,ab,ac,hd,al|kk]:=h;refine%[ρ|λ_ as A outer s q=>?_];refine%[_,%["KCH2pCORu],A~|~}1BJ3DP~I32DnG~tA0A3B23QDI2",eV.nd|q]|?_]
  show aZ _ _ _ [!l,!d,none,none] H;refine aj λD1 k1 _=>?_
  lk;intro b fb;have s1:=ah.upd (o:= .dK []) fb;have J:upd H b (.dK []) b∣.dK (gD ([]:Gs Str)):=aa;refine k1 _ _ (aj λD2 k2 _=>aw λan hK=>?_)
  generalize upd H b (.dK [])=H1 at s1 J
  lk;have y:=s1 _ _ hd;refine%[tyD y,%[_|y]|λv fv=>%[d,?_,_,ah.upd fv _ _ y,ms.map f,by unfold NmD;rw[Yq,Yq];rfl,by rw[Z6];lia|λz zs fz pz _=>?_]]
  .exact aa
  have s2:=(ah.upd (o:=jY v d) fv).trans (ah.upd (o:= .lst (zs\3)) fz);have m:upd (upd H1 v (jY v d)) z (.lst (zs\3)) z<*zs\3:=aa;have L:=s1.trans s2;have B:=s2 _ _ J
  generalize upd (upd H1 v (jY v d)) z (.lst (zs\3))=H2 at s2 m L B
  have zl: ~~~zs<=100:=by rw[pz.length_eq,Z6];lia
  have ae:z≠b:=λc=>by rw[c,B]at m;cases m
  have zm: ~~~(zs\3)= ~~~zs:=Z6 _;refine%[%[_|SqL.of m]|hK _ _ (bz (λi U M=>∃(o3:Option V) (rs:Gs Str),U=[!l,!d,!b,o3]/\ah H M/\M z<*zs\3/\M b∣.dK (gD rs)/\Ben M (ss\2) rs/\(∀r∈rs,r.2.1≠b/\H r.2.1=none)/\(∀x,x∈rs\1↔x∈zs.take i)/\ ~~~rs<=i)
   %[_,[],ρ,L,m,B,%[X1|λ_ h=>(nomatch h)],(λ_ h=>nomatch h),(λx=>Iff.rfl)|Zi _] (λi U M ⟨_,_,_,_,h,_⟩=>h) ?_ ?_)]
  .intro i n U H3 hn %[o3,rs,rfl,C,G,j,p,N,I|rl];have il:=(Xk hn).1;have tk:zs.take (i+1)=zs.take i++[n]:=by rw[X8,hn];rfl
   show iu _ _ _ _ [!l,!d,!b,-n] H3;refine az λD3 k3 _=>?_
   lk;refine%[_,bN.k (k:=Sum.inr n) j|bC (λc=>?_) λc=>?_]
   .have Y:n∉rs\1:=λh=>by
     have%[r,q|e]:=Xn h;have:=g9 q;rw[e]at this;cases hv:bx (gD rs) (Sum.inr n)with
     | none=>exact this hv
     | some v=>rw[hv]at c;cases c
    refine%[l,n,ns,ss,ρ,C _ _ hl,ab.up C,ac|λe H4 F g s4 fe he Fn Fr=>?_];have ag:=s4 _ _ j;have O:e≠b:=λc=>by rw[c,j]at fe;cases fe
    have nv:bx (gD rs) (Sum.inr n)=none:=kN Y;have pk:cD (gD rs) (Sum.inr n) (.ref e)=gD (rs++[(n,e,F)]):=by
     rw[dq _ nv];unfold gD;rw[Zd];rfl
    refine%[_,eI.k (k:=Sum.inr n) (v:= .ref e) ag (by unfold gD;rw[Z6];exact aA ⋯)|k3 _ _ %[_,rs++[(n,e,F)],ρ,ah.set (C.trans s4) fb,(ak ae).trans (s4 _ _ G),by rw[aa,pk],%[?_|λr q=>?_],λr q=>?_,λx=>?_|by rw[Z9];exact X7 rl]]
    .rw[Zd,Yy];exact%[p.nd,by simp|λa ha b hb e=>Y (by rw[<-show b=n by simpa using hb,<-e];exact ha)]
    .rcases Xl q with u|u
     .have%[%[g|e1]|r2]:=p.at_ r u;exact%[%[g|by rw[ak (N r u).1];exact s4 _ _ e1]|r2]
     .rw[Xm u];exact%[%[g|by rw[ak O];exact he],Fn|Fr]
    .rcases Xl q with u|u
     .exact N r u
     .rw[Xm u];exact%[O|C.free fe]
    .rw[Zd,Yr,I,tk,Yr];exact or_congr Iff.rfl ∅
   .refine k3 _ _ %[_,rs,rfl,C,G,j,p,N,λx=>?_|⋯];have Y:n∈rs\1:=Decidable.byContradiction λh=>by rw[kN h]at c;exact c rfl
    rw[I,tk,Yr];exact%[.inl|λh=>h.elim id λh=>by rw[Xm h];exact(I n).mp Y]
  .intro U H3 %[o3,rs,rfl,C,G,j,p,N,I|rl];rw[Xb]at I;refine k2 _ _ ?_;lk;exact kk b H3 rs C fb j p N λx=>by rw[I,pz.mem_iff,mem_map]
def pX(T:Txt K mg):↥2 "_law_beneath" ["_law_laid","_law_homes_here"] Cw:=by
 refine(pd T).freeze.imp λvs H Q E zqw=>?_;have%[l,d,m,p,ss,f,q,s,u,v,y,z|A]:=zqw;refine %[l,d,m,p,ss,f,q,s,u,v,y,z|λb j rs B C G a I J=>%[[b]|λL=>?_]]
 have out:∀c,c≠b->nU [b] L j c=j c:=λc n=>j6 λh=>n (Xm h)
 exact A b _ rs (λc o e=>(out c (au e C)).trans (B _ _ e)) %[%[_|j4 Zm G],a.nd|λr i=>%[(a.at_ r i).1.imp λg e=>(out _ (I r i).1).trans e|(a.at_ r i).2]] J
def Cy{M:ZB}{g:Str->V}{y:Str}:(bx (VD M g) (Sum.inr y)).isSome=true↔y∈M:=by
 by_cases c:y∈M
 .rw[fI c];simp[c]
 .rw[fB c];simp[c]
def BeF.get{H:Hp}{ks:List ZB}{d:Addr}{rs:Gs Str}(h:BeF H ks d rs){x:Str}(b:x∈rs\1):∃a M,bN H d (.str x) (some (.ref a))/\(∃g:Str->Int,H a∣.dK (VD M λx=> .int (g x)))/\M.Nodup/\∀y,y∈M↔Rch ks x y:=by
 have%[o|c]:=h.at_;have%[r,e,rfl|f]:=jE b;exact%[r.2.1,r.2.2,.inl %[_,Sum.inr r.1,.inr %[o|c],ρ|f.symm]|h.in_ r e]
inductive vK
 | mk (b:Addr) (ks:List ZB) (rs:Gs Str):vs=[.ref b]->BeF H ks b rs-> ~~~rs<=1000->(∀H' v,ah H H'->(v=true↔∃x∈rs\1,Rch ks x x)->Q (.bl v) H')->vK vs H Q E0
def pf(T:Txt K mg):↥1 "_law_has_ring" ["_law_beneath_here"] vK:=by
 .exists T.bw,mB,ab,e,%[b,ks,rs,rfl,N,rl|kk];have%[o|B]:=N.at_;refine%[_,%["KDIr~Fhb?1~WN0W0?2x~h0TN100SB",0,↑(["_law_deposit","_law_beneath_here"],[(1,0)]),↑["_law_deposit","_law_beneath_here"]|e]|?_];show fM _ _ [!b] H;lk;refine aE λO hK=>?_
  unfold qN;lk;refine%[_,_,B|hK _ _ λF U=>?_];have gl: ~~~(gD rs)= ~~~rs:=Z6 _;refine d5 (J:=Itk b o (gD rs)) (n:= ~~~(gD rs)) (D:=F) (λi ts C m=>(∃Y,C=[Y,!b])/\ah H m/\m F<*ts/\ ~~~ts<=i/\(ts≠[]↔∃r∈rs.take i,Rch ks r.1 r.1))
   %[%[none|rfl],ah.upd U,aa,Zi _|by simp] (λi _ _ m hi j=>%[j.2.1 _ _ B|hi]) (λ_ _ m j=>%[j.2.1 _ _ B|Zi _]) ?_ ?_
  .intro i ts C m hi %[%[Y|rfl],y,d,tl|z] x H2 %[e2,k,v,hk|G];subst e2;have il:i< ~~~rs:=by lia
   obtain⟨r,l⟩:∃r,rs[i]?∣r:=%[_|Z4 il]
   have I:(gD rs)[i]?∣(Sum.inr r.1,V.ref r.2.1):=by unfold gD;rw[Zl,l];rfl
   rw[I]at hk;cases hk;obtain rfl:x=V.str r.1:=G;have%[a,M,ga,%[g|ha],_|hM]:=(N.up y).get (Xo %[r,Z8 l|rfl]);have tk:rs.take (i+1)=rs.take i++[r]:=by rw[X8,l];rfl
   lk;refine%[_,ga,a,ρ,_,.inl %[_,Sum.inr r.1,.inl ha,ρ|ρ]|bC (λc=>CK.mk hi d (aA ⋯) %[%[_|ρ],ah.set y U,aa,by rw[Z9];exact X7 tl|?_]) λc=>CN.mk hi %[%[_|ρ],y,d,⋯|?_]]
   .rw[tk];exact%[λ_=>%[r,Yt _ Zm|(hM _).mp (Cy.mp c)]|λ_=>by simp]
   .rw[z,tk];refine%[λ⟨q,L,h⟩=>%[q,Ys _ L|h]|λ⟨q,L,h⟩=>?_];rcases Xl L with u|u
    .exact%[q,u|h]
    .rw[Xm u]at h;exact(c (Cy.mpr ((hM _).mpr h))).elim
  .intro ts C m %[_,y,d,tl|z];rw[gl,Xb]at z;refine%[Xd _|λp hp=>%[F,ρ,ts,ah.upd hp _ _ d,aa|kk _ _ (y.trans (ah.upd hp)) ?_]];rw[decide_eq_true_iff,z];exact%[λ⟨r,e,h⟩=>%[r.1,Xo %[r,e|ρ]|h]|λ⟨x,G,h⟩=>by have%[r,e|rfl]:=Xn G;exact%[r,e|h]]
abbrev rL(H:Hp)(ps:ZG):Prop:=aD H ps/\∀p∈ps,∃x y,p.2=[x,y]
def rL.up{H a:Hp}{ps:ZG}(h:rL H ps)(s:ah H a):rL a ps:=%[ax h.1 λb z e=>s _ _ e|h.2]
inductive rN
 | mk (l:Addr) (ps:ZG):vs=[.ref l]->H l∣.lst (ps\0)->rL H ps-> ~~~ps<=1000->(∀r H' (ss:ZG),ah H H'->H r=none->H' r∣.lst (ss\0)->aD H' ss->ss\2=(ps\2).map (·++[!""])->Q (.ref r) H')->rN vs H Q E0
inductive Cz
 | mk (l b d:Addr) (ps:ZG) (ks:List ZB) (rs:Gs Str) (L:ZB) (lv:Str->Int):vs=[.ref l,.ref b,.ref d]->H l∣.lst (ps\0)->rL H ps-> ~~~ps<=1000->BeF H ks b rs->H d∣.dK (VD L λx=> .int (lv x))->(∀x y,[x,y]∈ps\2->x∈L/\y∈L/\lv y<lv x)->(∀x∈rs\1,x∈L/\((∃y,[x,y]∈ps\2/\lv x=lv y+1)\/((∀y,[x,y]∉ps\2)/\lv x=0)))->(∀H',ah H H'->Q (.bl true) H')->Cz vs H Q E0
def kP(T:Txt K mg):↥1 "_law_paired" ["_law_pairs"] rN:=by
 refine T.bx.cal pQ (λH vs Q E h=>?_)
 .have%[l,ps,rfl,C,%[pt|U],pl|Y]:=h;refine%[ρ|λf O A outer s hr=>?_];refine%[_,%["KDIhb?1R0eLW0?2LW1?2ctkA0A1AXB",0,↑(["_law_later","_law_earlier"],[])|↑["_law_later","_law_earlier"]]|?_];show fM _ _ [!l] H;lk;refine aE λG hK=>?_
  lk;refine%[%[_|SqL.of C]|hK _ _ λF n=>?_];refine bB (λj vs q d=>(∃I J,q=[I,J])/\ah H d/\d F<*vs/\∃ss:ZG,vs=ss\0/\aD d ss/\ss\2=((ps.take j)\2).map (·++[!""])/\ ~~~ss=j)
   %[%[none,none|rfl],ah.upd n,aa,[],rfl,dA _,rfl|rfl] (λ_ _ _ H7 r=>r.2.1 _ _ C) ?_ ?_
  .intro j vs q H2 u %[%[I,J|rfl],i,a,ss,rfl,st,m|L];have M:=Yc u;have%[x,y|e]:=U _ M;have N:=i _ _ (pt _ M).2;rw[e]at N;refine%[_,SqT.of N,ρ,_,_,ρ,_,_,ρ,ρ|?_];show y6 [-x,-y] H2 _;lk;refine%[#[3]|λp v=>?_];have sp:=ah.upd (o:= .tup [V.str x,V.str y,V.str (!"")]) v;have g:=sp _ _ a;have B:p≠F:=λc=>by rw[c,a]at v;cases v
   refine CK.mk u g (by rw[Z6];exact aA ⋯) %[%[_,_|rfl],ah.set (i.trans sp) n,aa,ss++[(p,[x,y,!""])],by rw[Zd];rfl,cY (ax (ax st λb z e=>sp _ _ e) (gY g)) ∅ ((ak B).trans aa),?_|by rw[Z9,L];rfl];rw[Zd,m,X8,Z4 u,Zd,Zd];show _++[[x,y,!""]]=_++[ps[j].2++[!""]];rw[e];rfl
  .intro vs q d %[_,i,a,ss,rfl,st,m|L];rw[Xb]at m;exact Y F d ss i n a st m
def lE(T:Txt K mg):↥1 "_law_levels_fit" ["_law_pairs","_law_beneath_here","_law_high"] Cz:=by
 refine T.bz.cal bV (λH vs Q E h=>?_)
 .have%[l,b,d,ps,ks,rs,L,O,rfl,hl,%[pt|p2],pl,be,hd,hp,hb|kk]:=h;refine%[ρ|λf as A outer s hr=>?_];have pm: ~~~(ps\0)= ~~~ps:=Z6 _;have get:∀{g},ah H g->∀y∈L,bN g d (.str y) (some (.int (O y))):=λ{g} s y hy=>by
   have:=bN.k (k:=Sum.inr y) (s _ _ hd);rw[fI hy]at this;exact this
  refine%[_,%["KCOR0eLJ3LJ4cDPM.TN23TN24DIoQCO~W1~D5ijC~T6jib?1R0eLW0?2LW1?2cxMd0N3TN21DPMvTN2N5FY~26~UEEDIoQDIo",bV.nd,↑(["_law_later","_law_earlier","_law_high","_law_deposit"],[(2,2),(3,5)]),↑["_law_later","_law_earlier","_law_high","_law_deposit"]|hr]|?_]
  show aZ _ _ _ [!l,!b,!d,none,none,none,none] H;refine aj λD1 k1 _=>aw λB U=>?_
  lk;refine%[%[_|SqL.of hl]|U _ _ (eG (xs:=ps\0) (λi n g=>∃Y o4,n=[!l,!b,!d,Y,o4,none,none]/\g=H) %[_,_,ρ|ρ] (λi n g _ ⟨_,_,_,e⟩=>e▸SqL.of hl) ?_ ?_)]
  .intro i x n g hx %[Y,o4,rfl|rfl];rw[Zl]at hx;have%[p,ae|rfl]:=map_eq_some_iff.mp hx;have a:=Z8 ae;have%[x,y|e]:=p2 p a;have ht:=(pt p a).2;rw[e]at ht;have%[xL,yL|lt]:=hp x y (Xo %[p,a|e]);refine%[_,SqT.of ht,ρ,_,_,ρ,_,_,ρ,ρ|?_];show iu _ _ _ _ [!l,!b,!d,-x,-y,none,none] g;refine az λD2 k2 _=>?_
   lk;refine%[_,get (ah.refl g) x xL,_,get (ah.refl g) y yL,_,ρ,_,ρ|?_];rw[if_neg (by simp;lia)];exact k2 _ _ %[_,_,rfl|rfl]
  .intro n g %[Y,o4,rfl|rfl];have%[o|ho]:=be.at_;refine k1 _ _ (aj λD2 k2 _=>aw λB U=>?_);unfold qN;lk;have gl: ~~~(gD rs)= ~~~rs:=Z6 _;refine%[_,_,ho|U _ _ (nW (λi n G=>∃o5 o6,n=[!l,!b,!d,Y,o4,o5,o6]/\ah g G) %[_,_,ρ|ah.refl g] (λi n G _ ⟨_,_,_,s⟩=>s _ _ ho) ?_ ?_)]
   .intro i k v n G hk %[o5,o6,rfl|I];have il:i< ~~~rs:=by have:=(Xk hk).1;lia
    obtain⟨r,ab⟩:∃r,rs[i]?∣r:=%[_|Z4 il]
    have ag:(gD rs)[i]?∣(Sum.inr r.1,V.ref r.2.1):=by unfold gD;rw[Zl,ab];rfl
    rw[ag]at hk;cases hk;have%[xL|al]:=hb r.1 (Xo %[r,Z8 ab|rfl]);show aZ _ _ _ [!l,!b,!d,Y,o4,some (.str r.1),o6] G;refine aj λD3 k3 _=>?_
    lk;refine aE λB U=>?_
    lk;have ac:=I _ _ hl;refine%[%[_|SqL.of ac]|U _ _ λF hF=>?_];refine bB (λj vs n H3=>(∃o1 o2,n=[o1,o2,!d,some (.str r.1)])/\ah G H3/\H3 F<*vs/\∃C:ZL,vs=C\4/\ ~~~C<=j/\∀m,m∈C↔∃y,[r.1,y]∈(ps.take j)\2/\m=O y)
     %[%[none,none|rfl],ah.upd hF,aa,[],rfl,Zi _|by simp] (λ_ _ _ H7 an=>an.2.1 _ _ ac) ?_ ?_
    .intro j vs n H4 hj %[%[o1,o2|rfl],J,q,C,rfl,nl|M];have a:=Yc hj;have%[x,y|e]:=p2 _ a;have ht:=J _ _ (I _ _ (pt _ a).2);rw[e]at ht;have%[_,yL|_]:=hp x y (Xo %[_,a|e]);have ka:(ps.take (j+1))\2=(ps.take j)\2 ++[[x,y]]:=by rw[X8,Z4 hj,Zd,<-e];rfl
     refine%[_,SqT.of ht,ρ,_,_,ρ,_,_,ρ,ρ|?_];show xi _ [-x,-y,!d,some (.str r.1)] H4 _;lk;refine bC (λc=>?_) λc=>CN.mk hj %[%[_,_|rfl],J,q,C,rfl,⋯|λm=>?_]
     .obtain rfl:x=r.1:=↑c
      refine%[_,get (I.trans J) y yL|CK.mk hj q (by rw[Z6];exact aA ⋯) %[%[_,_|ρ],ah.set J hF,aa,C++[O y],by rw[Zd];rfl,by rw[Z9];exact X7 nl|λm=>?_]];rw[Yr,M,ka]
      constructor
      .rintro(⟨z,h,e⟩|h)
       .exact%[z,Ys _ h|e]
       .exact%[y,Yt _ Zm|Xm h]
      .rintro⟨z,h,e⟩;rcases Xl h with u|u
       .exact .inl %[z,u|e]
       .cases Xm u;exact .inr (by rw[e];exact Zm)
     .have c:x≠r.1:=↑c
      rw[M,ka];refine%[λ⟨z,h,e⟩=>%[z,Ys _ h|e]|λ⟨z,h,e⟩=>?_];rcases Xl h with u|u
      .exact%[z,u|e]
      .cases Xm u;exact(c rfl).elim
    .intro vs n H3 %[_,J,q,C,rfl,nl|M];rw[Xb]at M;refine k3 _ _ (az λD4 k4 _=>?_);lk;refine%[_,get (I.trans J) r.1 xL|?_];unfold xP;lk;refine%[C,SqL.of q|λm hm=>?_];have e:O r.1=m+1:=by
      rcases al with⟨y,hy,e⟩|⟨hn,e⟩
      .have my:=(M (O y)).mpr %[y,hy|rfl];rcases hm with⟨rfl,_⟩|⟨h1,h2⟩
       .exact nomatch my
       .have%[y',N|rfl]:=(M m).mp h1;have:=(hp r.1 y' N).2.2;have:=h2 _ my
        lia
      .rcases hm with⟨_,rfl⟩|⟨h1,_⟩
       .lia
       .have%[y',N|_]:=(M m).mp h1;exact(hn y' N).elim
     rw[e,if_neg ∅];exact k4 _ _ %[_,_,rfl|I.trans J]
   .intro n G %[o5,o6,rfl|I];refine k2 _ _ ?_;lk;exact kk G I
def vL:∀{xs:List s},(xs.map nm).Nodup->(∀p∈xs,(f p).Nodup)->(∀p∈xs,∀x∈f p,∃c,x=lnS (nm p) (sgn c))->(xs.flatMap f).Nodup
 |[],_,_,_=>X1
 | p::xs,h,l,i=>by
   rw[Yp,nodup_cons]at h;rw[flatMap_cons,Yy];refine%[l p Zm,vL h.2 (λq g=>l q (Zk _ g)) (λq g=>i q (Zk _ g))|λa m b n e=>?_];have%[q,g|j]:=mem_flatMap.mp n;have%[c|o]:=i p Zm a m;have%[d|r]:=i q (Zk _ g) b j;exact h.1 (Xo %[q,g|(vg (o.symm.trans (e.trans r))).symm])
def z7(p:Addr×Str×ZB):(lyr p).Nodup:=by
 unfold lyr;rw[Yz,X6];refine Xf (λ{x y} b e a f=>?_) (nodup_iff_pairwise_ne.mp (bK ((cJ p.2.2).map sgn)));have%[c,_|rfl]:=jA b;have%[d,_|rfl]:=jA e;exact a (by rw[tE f])
def tM{cs:ZH}(b:(cs.map λp=>p.2.1).Nodup){a:ZB}(h:a.Perm (cs.flatMap lyr)):a.Nodup:=by
 rw[h.nodup_iff];exact vL (nm:=λp:Addr×Str×ZB=>p.2.1) b (λp _=>z7 p) λp d x c=>Ca c
structure ph (H:Hp) (cs:ZH) (qs:ZN):Prop where
 ca:bP H cs
 nd:(cs.map λp=>p.2.1).Nodup
 p1:1<= ~~~cs
 p3: ~~~cs<=3
 few:∀p∈cs,uT p.2.2
 ly: ~~~(cs.flatMap lyr)<=63
 sa:∀ls:ZB,ls.Perm (cs.flatMap lyr)->cE H ls qs
 q20: ~~~qs<=40
def ph.up(h:ph H cs qs)(s:ah H a):ph a cs qs:=
 %[h.ca.up s,h.nd,h.p1,h.p3,h.few,h.ly,λb p=>(h.sa b p).up s|h.q20]
inductive pi (K:ZA)
 | mk (a:Addr) (ns:ZL):vs=[.ref a]->SqL K H a (ns\4)->Di H-> ~~~ns<=63->(∀H',Q (.bl true) H')->pi K vs H Q E0
def Ex{R:Hp->Prop}(j:H g=none)(i:H d=none)(n:H a<*cU cs)(r:H b∣.lst (qs\0))(p:ph H cs qs)
 (k:∀f c ts,ah H f->ja mg f g qs c ts->c.Perm (cs.flatMap lyr)->(∀k,k∈ts\2↔k∈cL cs\/k∈cN qs qs.length)->R f):
 tD mg [.ref g,.ref a,.ref b] (upd (upd H d (.own g)) g (.ins (cO mg "Ground") d [])) (λv s=>v= .non/\R s) E0:=by
 have h:ah H (upd (upd H d (.own g)) g (.ins (cO mg "Ground") d [])):=λb o e=>by
  rw[ak (au e j),ak (au e i)];exact e
 refine%[g,a,b,d,cs,qs,ρ,aa,h _ _ n,h _ _ r,p.ca.up h,p.nd,p.p1,p.p3,p.few,p.ly,λc q=>(p.sa c q).up h,p.q20|λf c ts u c3 y z A tk B C E pl G=>%[ρ|k f c ts (λb o e=>z b o (au e j) (h _ _ e)) %[%[u,c3,y|A],tM p.nd pl,G,by rw[pl.length_eq];exact p.ly,E,λk l=>?_,λk l=>?_|B] pl C]]<;> have%[t,m|rfl]:=Xn l
 .exact(tk t m).1
 .exact(tk t m).2
def edP{ks:List ZB}{x y:Str}:Ed (ks.map (·++[!""])) x y↔[x,y]∈ks:=by
 constructor
 .rintro⟨z,d⟩;have%[k,f|e]:=Xn d
  match k,e with
  |[a,b],e=>cases e;exact f
  |[],e=>cases e
  |[_],e=>cases e
  | a::b::c::r,e=>
    have:=congrArg List.length e;simp at this
 .exact λh=>%[_|Xo %[_,h|rfl]]
def Rch.mono{ks a:List ZB}(h:∀x y,Ed ks x y->Rch a x y){x y:Str}(r:Rch ks x y):Rch a x y:=by
 induction r with
 | one e=>exact h _ _ e
 | more _ e b=>exact b.trans (h _ _ e)
def xc{ks:List ZB}{a:Str->Int}(h:∀x y,Ed ks x y->a y<a x){x y:Str}(r:Rch ks x y):a y<a x:=by
 induction r with
 | one e=>exact h _ _ e
 | more _ e b=>have:=h _ _ e;lia
open Classical in
def HN{ss:ZG}(c:∀x,¬ Rch (ss\2) x x):∃b:Str->Int,∀x y,Ed (ss\2) x y->b y<b x:=by
 refine%[λx=>(~~~((ss.map sc2).filter λz=>decide (Rch (ss\2) x z)):Int)|λx y e=>?_];have a:y∈ss.map sc2:=by
  have%[z|d]:=e;have%[t,f|g]:=Xn d;exact Xo %[t,f|by unfold sc2;rw[g];rfl]
 have:=tK (p:=λz=>decide (Rch (ss\2) y z)) (q:=λz=>decide (Rch (ss\2) x z)) (l:=ss.map sc2) (λz _ h=>Zf ((Rch.one e).trans (Zo h))) %[y,a,Zf (.one e)|Zh (c y)];show((List.length _:Nat):Int)<(List.length _:Nat)
 lia
structure tN (ks ps:List ZB):Prop where
 mem:∀k,k∈ps↔∃x y,k=[x,y]/\Dir ks x y
def tN.at_{ks ps:List ZB}(h:tN ks ps){x y:Str}:[x,y]∈ps↔Dir ks x y:=by
 rw[h.mem];exact⟨λ⟨a,b,e,d⟩=>by cases e;exact d,λd=>%[x,y,rfl|d]⟩
def tN.rch{ss:ZG}{ps:List ZB}(p:∀x,¬ Rch (ss\2) x x)(h:tN (ss\2) ps)(x y:Str):Rch (ps.map (·++[!""])) x y↔Rch (ss\2) x y:=by
 have%[g|f]:=HN p;refine%[Rch.mono λa b e=> .one (h.at_.mp (edP.mp e)).1|Rch.mono ?_];have i:∀(n:Nat) (a b:Str),Ed (ss\2) a b->g a-g b<=n->Rch (ps.map (·++[!""])) a b:=λn=>by
  induction n with
  | zero=>intro a b e l;have:=f a b e;lia
  | succ n m=>
    intro a b e l;by_cases d:Dir (ss\2) a b
    .exact .one (edP.mpr (h.at_.mpr d))
    .have:∃s,Ed (ss\2) a s/\Rch (ss\2) s b:=Classical.byContradiction λc=>d %[e|λs q r=>c %[s,q|r]]
     have%[s,es|r]:=this;have z:=f a s es;have A:=xc f r;have j:∀{u v:Str},Rch (ss\2) u v->g u-g v<=n->Rch (ps.map (·++[!""])) u v:=λ{u v} r=>by
      induction r with
      | one e=>exact λl=>m _ _ e l
      | more r e o=>
        intro l;have:=xc f r;have:=f _ _ e;exact(o ⋯).trans (m _ _ e ⋯)
     exact(m a s es ⋯).trans (j r ⋯)
 exact λa b e=>i (g a-g b).toNat a b e ⋯
def tN.need{ks ps qs:List ZB}(h:tN ks ps){x y:Str}(d:[x,y]∈ps)(sub:∀k,k∈qs->k∈ps/\k≠[x,y]): ¬ Rch (qs.map (·++[!""])) x y:=λr=>by
 have%[s,e|q]:=lC r;have e:=sub _ (edP.mp e);have up:∀a b,Ed (qs.map (·++[!""])) a b->Rch ks a b:=λa b e=> .one (h.at_.mp (sub _ (edP.mp e)).1).1
 rcases q with rfl|q
 .exact e.2 rfl
 .exact(h.at_.mp d).2 s (h.at_.mp e.1).1 (Rch.mono up q)
def tN.lev{ks ps:List ZB}{a:Str->Int}(h:tN ks ps)(lt:∀x y,Ed ks x y->a y<a x){x:Str}(l:Cq ks a x):(∃y,[x,y]∈ps/\a x=a y+1)\/((∀y,[x,y]∉ps)/\a x=0):=by
 rcases l.2 with⟨y,e,q⟩|⟨n,q⟩
 .refine .inl %[y,h.at_.mpr %[e|λs es r=>?_]|q];have:=lt x s es;have:=xc lt r
  lia
 .exact .inr %[λy c=>n y (h.at_.mp c).1|q]
def CA{H:Hp}{N:ZB}{ps ss:ZG}(c:aD H ss)(e:ss\2=(ps\2).map (·++[!""]))(h:∀p∈ps,∃x y,p.2=[x,y]/\x∈N/\y∈N):cn H N ss:=oV c λk b=>by
 rw[e]at b;have%[i,a|rfl]:=Xn b;have%[p,d|rfl]:=Xn a;have%[x,y,e,f|g]:=h p d;exact%[x,y,_,by rw[e];rfl,f|g]
def GM{f:Addr}{fd:FuncData}(F:Fun K "law" "law" ko f fd)(T:Txt K mg):fF P w K mg base CX0 12 f fd ["_law_script"] (pi K):=by
 refine F.ok dW (by intro a b c d h;have%[_,_,rfl|_]:=h;rfl) (λe0 A outer s H vs Q E U h=>?_)
 .have%[a,ns,rfl,hs,ho,hn|kk]:=h;refine%[_,%["KC~<G].A0B~=LJ1LJ2cCH3G]/A1A2BCH4G]:A1A2A3BCH5G];A4A3BCPmG]<A5BDIoQCH6]=]>A1A2BCH7G]^A6BC]_8ijhb?1R4eLW0?2LW1?2LW2?2ctkA0A1BCPM~Fhb?3R7W0?4xM]|0N10SBDIoQCO~W5J9DPM]}u~lAG~tAG~4A7BA9BBu~lAT59BDIoQCOR7eL~D:ijL~D;ijcDP~hN;G~tAG~4Ahb?5R7W0?6xM][0kAN1AN2B0BAN:BDIoQDIG]0A7A5AG]1A6BB",dW.nd,↑(["_law_later","_law_earlier","_law_source"],[]),↑["_law_later","_law_earlier","_law_source"],↑(["_law_pair","_law_told_links"],[(1,8)]),↑["_law_pair","_law_told_links"],↑(["_law_pair","_law_later","_law_earlier"],[(1,10),(2,11)]),↑["_law_pair","_law_later","_law_earlier"]|U]|?_]
  show aZ _ _ _ [!a,none,none,none,none,none,none,none,none,none,none,none] H;refine aj λD1 k1 _=>?_
  lk;refine%[a,ns,ρ,hs,⋯|λt l1 l2 H1 cs qs s1 ht h1 h2 B=>%[t,ρ,_,SqL.of ht,ρ,_,_,ρ,_,_,ρ,ρ|k1 _ _ (aj λD2 k2 _=>?_)]];have e1:=B.ql;lk;refine%[l1,l2,cs,qs,ρ,h1,h2,B.ca,B.sa,B.c3,⋯|λd H2 ms g s2 fd hd nd mem lg=>k2 _ _ (aj λD3 k3 _=>?_)];have%[kc,e2|bt]:=vH B.ca B.few;have ml: ~~~ms<=63:=Yf (_T.nodup_sub nd λz hz=>(mem z).mp hz) B.ly;have dp:bP H2 cs:=λp hp=>%[s2 _ _ (B.ca p hp).1|(B.ca p hp).2]
  have dr:cE H2 (cs.flatMap lyr) qs:=λq hq=>%[s2 _ _ (B.sa q hq).1|(B.sa q hq).2]
  lk;refine%[l1,l2,d,cs,qs,ms,g,kc++cN qs qs.length,ρ,s2 _ _ h1,s2 _ _ h2,dp,dr,B.c3,⋯,hd,mem,lg,?_,λk=>by rw[Yr,bt]|λr H3 ss s3 fr ca tu lk tk sl=>k3 _ _ (aj λD4 k4 _=>?_)]
  .have:=length_filterMap_le (λj=>qs[j]?.bind λq=>fH j q.2) (List.range qs.length);rw[Yi]at this;have:=B.c3;rw[Z9];unfold cN
   lia
  have la:=oV tu tk;lk;refine%[r,d,ms,ms,ss,g,ρ,ca,la,sl,s3 _ _ hd,ml|λb H4 rs s4 be rk=>k4 _ _ (aj λD5 k5 r5=>?_)];have rl: ~~~rs<=63:=by
   have:=_T.nodup_sub be.nd (m:=ms.map g) λx hx=>Xo ((rk x).mp hx)
   rw[Z6,Z6]at this
   lia
  lk;refine%[b,_,rs,ρ,be,⋯|λH5 v s5 vI=>?_];refine%[v,ρ|bC (λ_=>r5 _ _ (kk _)) λhv=>k5 _ _ (aj λD6 k6 _=>?_)];have ends:∀x y,Ed (ss\2) x y->x∈rs\1/\y∈rs\1:=λx y ⟨z,hz⟩=>by
   have%[a,b,z',a',b',hm,ha,hb|e]:=(lk.mem _).mp hz;cases e;have%[u,v,w,e,hu|hv]:=yx B.ca B.sa (n:= ~~~qs) (by rw[Yr,bt]at hm;exact hm);cases e;have hu:=(mem a).mpr hu;have hv:=(mem b).mpr hv;exact%[(rk _).mpr %[a,hu|(lg a hu).2.one ha]|(rk _).mpr %[b,hv|(lg b hv).2.one hb]]
  have nr:∀x,¬ Rch (ss\2) x x:=λx r=>hv (vI.mpr ⟨x,by
   have%[y,e|_]:=lC r;exact(ends x y e).1,r⟩)
  have a0:=s2.trans (s3.trans (s4.trans s5));have P1:ph H5 cs qs:=%[B.ca.up a0,B.nd,B.c1,B.c3,B.few,B.ly,λls p q hq=>%[a0 _ _ (B.sa q hq).1|(B.sa q hq).2.sub λz hz=>p.mem_iff.mpr hz]|⋯]
  have cd:=be.up s5;have ch:=(s4.trans s5) _ _ ca;have cl:aD H5 ss:=ax tu λb z e=>s5 _ _ (s4 _ _ e)
  lk;refine λg' dx fg ds e3=>Ex fg ds (a0 _ _ h1) (a0 _ _ h2) P1 λH6 ls ts s6 gr pl tm=>k6 _ _ (aj λD7 k7 _=>?_)
  have b0:bG (bh qs) (ts\2) (ss\2):=%[lk.nd|λk=>by simp only[tm,<-bt,<-Yr];exact lk.mem k]
  have co:∀lk,bG (bh qs) (ts\2) lk->∀x,¬ Rch lk x x:=λlk h=>by rw[oP (h.mm b0)];exact nr
  have dt:=cd.up s6;have dy:=s6 _ _ ch;have dF:aD H6 ss:=ax cl λb z e=>s6 _ _ e
  clear P1 a0 hv vI be cd ch cl tu;lk;refine%[g',qs,ls,ts,ρ,gr,co|λan H7 dK ps s7 dT ct pt pI pn=>k7 _ _ (aj λD8 k8 _=>?_)];rw[Cs (dT.mm b0)]at pI;have ab:tN (ss\2) (ps\2):=⟨pI⟩
  have dV:=dt.up s7;have cv:=s7 _ _ dy;have d1:aD H7 ss:=ax dF λb z e=>s7 _ _ e
  have d2:=gr.up s7;have cw:rL H7 ps:=%[pt|λp hp=>by
   have%[x,y,e|_]:=(pI _).mp (Xo %[p,hp|rfl]);exact%[x,y|e]]
  lk;refine aE λag hK=>?_
  lk;refine%[%[_|SqL.of cv]|hK _ _ λE1 cM=>?_];refine bB (λj vs C l=>(∃o1 o2 o3,C=[o1,o2,o3])/\ah H7 l/\l E1<*vs/\∃es:ZG,vs=es\0/\aD l es/\es\2=((ss.take j)\2).map (·.take 2)/\ ~~~es=j)
   %[%[none,none,none|rfl],ah.upd cM,aa,[],rfl,dA _,rfl|rfl] (λ_ _ _ l a1=>a1.2.1 _ _ cv) ?_ ?_
  .intro j vs C H2 hj %[%[o1,o2,o3|rfl],sm,ac,es,rfl,et,ee|el];have Y:=Yc hj;have%[x,y,z,e|_]:=tk _ (Xo %[_,Y|rfl]);have a2:=sm _ _ (d1 _ Y).2;rw[e]at a2;refine%[_,SqT.of a2,ρ,_,_,ρ,_,_,ρ,_,_,ρ,ρ|?_];show y6 [-x,-y,-z] H2 _;lk;refine%[#[2]|λp hp=>?_];have sp:=ah.upd (o:= .tup [V.str x,V.str y]) hp;have c0:=sp _ _ ac;have d3:p≠E1:=λc=>by rw[c,ac]at hp;cases hp
   refine CK.mk hj c0 (by rw[Z6];exact aA ⋯) %[%[_,_,_|rfl],ah.set (sm.trans sp) cM,aa,es++[(p,[x,y])],by rw[Zd];rfl,cY (ax (ax et λb z e=>sp _ _ e) (gY c0)) ∅ ((ak d3).trans aa),?_|by rw[Z9,el];rfl];rw[Zd,ee,X8,Z4 hj,Zd,Zd];show _++[[x,y]]=_++[ss[j].2.take 2];rw[e];rfl
  intro vs C H8 %[_,s8,d4,es,rfl,et,ee|el];rw[Xb]at ee;have ea:∀p∈ps,p.2∈es\2:=λp hp=>by
   have%[x,y,e,%[z|hz]|_]:=(pI _).mp (Xo %[p,hp|rfl]);rw[ee,e];exact Xo %[_,hz|rfl]
  refine k8 _ _ (aj λD9 k9 _=>?_);have c1:=cw.up s8;have c2:=s8 _ _ ct;lk;refine aE λag hK=>?_
  lk;refine%[%[_|SqL.of c2]|hK _ _ λE2 eb=>?_];refine bB (λj vs C l=>(∃o1,C=[o1,!E1])/\ah H8 l/\l E2<*vs/\vs=[])
   %[%[none|rfl],ah.upd eb,aa|rfl] (λ_ _ _ l a1=>a1.2.1 _ _ c2) ?_ ?_
  .intro j vs C H2 hj %[%[o1|rfl],sm,ac|rfl];lk;have Y:=Yc hj;exact⟨_,_,ps[j].2,es,rfl,rfl,(c1.up sm).1 _ Y|>.2,sm _ _ d4,(λt ht=>sm _ _ (et t ht).2),ea _ Y,false,rfl,y4 (CN.mk hj ⟨⟨_,rfl⟩,sm,ac,rfl⟩)⟩
  intro vs C H9 %[_,s9,ec|rfl];refine%[Xd _|λp hp=>%[E2,ρ,[],ah.upd hp _ _ ec,aa|?_]];rw[if_neg ∅];have a3:=(s8.trans s9).trans (ah.upd (o:= .lst []) hp);have bc:=dV.up a3;have J:=cw.up a3;have as:=a3 _ _ ct;have c3:=d2.up a3
  generalize upd H9 p (.lst [])=b1 at a3 bc J as c3
  refine k9 _ _ (aj λe4 ed _=>aw λag hK=>?_);have%[o|ho]:=bc.at_;have gl: ~~~(gD rs)= ~~~rs:=Z6 _;have e5: ~~~(ps\0)= ~~~ps:=Z6 _;have pN:∀p∈ps,∃x y,p.2=[x,y]/\x∈rs\1/\y∈rs\1:=λp hp=>by
   have%[x,y,e|d]:=(pI _).mp (Xo %[p,hp|rfl]);exact%[x,y,e|ends x y d.1]
  have N:∀{x y},Rch (ss\2) x y->y∈rs\1:=λ{x y} r=>by
   cases r with
   | one e=>exact(ends _ _ e).2
   | more _ e=>exact(ends _ _ e).2
  unfold qN;lk;refine%[_,_,ho|hK _ _ (nW (λi C l=>∃o9,C=[!a,!l1,!l2,!d,!r,!b,!g',!an,!E1,o9,none,none]/\ah b1 l) %[_,ρ|ah.refl b1] (λi C l _ ⟨_,_,s⟩=>s _ _ ho) ?_ ?_)]
  .intro i k v C l hk %[o9,rfl|sm];have il:i< ~~~rs:=by have:=(Xk hk).1;lia
   obtain⟨q,c4⟩:∃q,rs[i]?∣q:=%[_|Z4 il]
   have eg:(gD rs)[i]?∣(Sum.inr q.1,V.ref q.2.1):=by unfold gD;rw[Zl,c4];rfl
   rw[eg]at hk;cases hk;have eh:q.1∈rs\1:=Xo %[q,Z8 c4|rfl];show iu _ _ _ _ [!a,!l1,!l2,!d,!r,!b,!g',!an,!E1,some (.str q.1),none,none] l;refine az λe6 ej _=>?_
   lk;refine%[an,ps,ρ,sm _ _ as,J.up sm,⋯|λx1 bf ws G fa b2 wt we=>?_];have wl: ~~~ws<=150:=by
    have:=congrArg List.length we;simp only[Z6]at this
    lia
   refine%[x1,q.1,rs\1,ws,ρ,b2,CA wt we pN,wl|λx2 c5 F gF I fb b3 Fn Fr=>?_];have Fl: ~~~F<64:=by
    have:=_T.nodup_sub Fn (m:=rs\1) λy hy=>by
     have:=(ab.rch nr q.1 y).mp (we▸(Fr y).mp hy);exact N this
    rw[Z6]at this
    lia
   have vk:∀{M:ZB} {g:Str->Int},(VD M λx=>V.int (g x))\1=M.map Sum.inr:=λ{M g}=>by unfold VD;rw[Yq];rfl
   refine%[x2,ρ,_,b3,F,vk,Fl|λx3 z1 f3 c6 ek=>?_];have b4:=ah.upd (o:= .lst (z1\3)) f3;have sA:=(sm.trans G).trans (I.trans b4);have%[a4,M,ga,%[gM|en],Mn|hM]:=(bc.up sA).get eh;have Ml: ~~~M<64:=by
    have:=_T.nodup_sub Mn (m:=rs\1) λy hy=>N ((hM y).mp hy)
    rw[Z6]at this
    lia
   refine%[_,ga,a4,ρ,_,en,M,vk,Ml|λx5 z2 f5 da eo=>?_];have zz:z1=z2:=nZ aM (λ_ _ a b=>dm a b) ek eo (c6.nodup_iff.mpr Fn) (da.nodup_iff.mpr Mn) λy=>by rw[c6.mem_iff,da.mem_iff,hM,Fr,we];exact ab.rch nr q.1 y
   subst zz;have bl:=ah.upd (o:= .lst (z1\3)) f5;have al:∀{l:Hp} (j:Nat) (x y:V),(z1\3)[j]?∣x->(z1\3)[j]?∣y->xK l x y:=λ{l} j x y ex ey=> .inl %[Za (ex.symm.trans ey)|by
    rw[Zl]at ex;have%[t,_|rfl]:=map_eq_some_iff.mp ex;rfl]
   exact%[x3,x5,_,_,ρ,ρ,bl _ _ aa,aa,ρ,al,false,ρ|y4 (ej _ _ %[_,ρ|sA.trans bl])]
  .intro C l %[o9,rfl|sm];refine ed _ _ (aj λfl ep _=>aw λag hK=>?_);lk;refine%[%[_|SqL.of (sm _ _ as)]|hK _ _ (bz (λi C l=>∃b5 b6,C=[!a,!l1,!l2,!d,!r,!b,!g',!an,!E1,o9,b5,b6]/\ah b1 l) %[_,_,ρ|sm] (λi C l ⟨_,_,_,s⟩=>s _ _ as) ?_ ?_)]
   .intro i p C bf eq %[b5,b6,rfl|G];have Y:=Z8 eq;have%[x,y,e,xN|yN]:=pN p Y;have a2:=((J.up G).1 p Y).2;rw[e]at a2;refine%[_,SqT.of a2,ρ,_,_,ρ,_,_,ρ,ρ|?_];show iu _ _ _ _ [!a,!l1,!l2,!d,!r,!b,!g',!an,!E1,o9,-x,-y] bf;refine az λfm er _=>?_
    lk;refine aE λag hK=>?_
    lk;have bm:=G _ _ as;refine%[%[_|SqL.of bm]|hK _ _ λE3 dd=>?_];refine bB (λj vs C l=>(∃o1,C=[o1,-x,-y])/\ah bf l/\l E3<*vs/\vs=((ps.take j).filter λt=>decide (t.2≠[x,y]))\0)
     %[%[none|rfl],ah.upd dd,aa|rfl] (λ_ _ _ l a1=>a1.2.1 _ _ bm) ?_ ?_
    .intro j vs C H2 hj %[%[o1|rfl],I,ac|hv];have%[u,v,eu|_]:=pN _ (Yc hj);have de:=(((J.up G).up I).1 _ (Yc hj)).2;rw[eu]at de;have fe:∀c:Bool,decide (ps[j].2≠[x,y])=c->((ps.take (j+1)).filter λt=>decide (t.2≠[x,y]))\0=vs++if c=true then [V.ref ps[j].1]else []:=λc hc=>by
      rw[hv,X8,Z4 hj,Y2,Zd]
      congr 1
      show List.map _ (List.filter _ [ps[j]])=_;rw[Y3,hc];cases c<;> rfl
     have vl: ~~~vs<sizeLine:=by rw[hv,Z6];exact aA (Yf (Yh _ _) (by rw[Yk];lia))
     lk;refine%[#[2]|λp hp=> .inr %[[u,v].map D.str,%[_,_,ρ,SqT.of (ah.upd hp _ _ de)|cj.strs [u,v]],[x,y].map D.str,%[_,_,ρ,SqT.of (show upd H2 p (.tup ([x,y]\3)) p=_ from aa)|cj.strs [x,y]],by rw[qr];decide|?_]];rw[qu];have sp:=ah.upd (o:= .tup [V.str x,V.str y]) hp;refine bC (λc=>CK.mk hj (sp _ _ ac) vl %[%[_|rfl],ah.set (I.trans sp) dd,aa|?_]) λc=>CN.mk hj %[%[_|rfl],I.trans sp,sp _ _ ac|?_]
     .rw[fe true (by rw[eu];simpa using c)];rfl
     .rw[fe false (by rw[eu];simpa using c)];simp
    .intro vs C c5 %[_,I,a5|rfl];rw[Xb]at a5;have O:∀t,t∈ps.filter (λt=>decide (t.2≠[x,y]))->t∈ps/\t.2≠[x,y]:=λt ht=>%[(List.mem_filter.mp ht).1|Zo (List.mem_filter.mp ht).2]
     generalize dg:(ps.filter λt=>decide (t.2≠[x,y]))=b9 at a5 O
     have fn: ~~~b9<=150:=by rw[<-dg];exact Yf (Yh _ _) pn
     have a6:=(J.up G).up I;refine%[E3,b9,ρ,a5,%[λt ht=>a6.1 t (O t ht).1|λt ht=>a6.2 t (O t ht).1],⋯|λx1 fp ws b4 fq b2 wt we=>?_];have wl: ~~~ws<=150:=by
      have:=congrArg List.length we;simp only[Z6]at this
      lia
     refine%[x1,x,rs\1,ws,ρ,b2,CA wt we (λt ht=>pN t (O t ht).1),wl|λx2 ft F gF bl fu b3 Fn Fr=>%[x2,ρ,_,bN.k (k:=Sum.inr y) b3|?_]];have yF:y∉F:=λh=>ab.need (qs:=b9\2) (Xo %[p,Y|e]) (λk hk=>by
      have%[t,ht|rfl]:=Xn hk;exact%[Xo %[t,(O t ht).1|ρ]|(O t ht).2]) (we▸(Fr y).mp h)
     rw[fB yF];exact y4 (er _ _ %[_,_,rfl|G.trans (I.trans (b4.trans bl))])
   .intro C bf %[b5,b6,rfl|G];refine ep _ _ ?_;lk;have dk:=c3.up G;refine%[g',qs,ls,ts,ρ,dk,co|λdl c5 dK ev L lv I _ dn ew ez lo=>?_];have lo:ES (ss\2) ev L lv:=%[lo.mem|λx hx=>by have:=lo.at_ x hx;unfold Cq at this ⊢;rwa[yd (dn.mm b0)]at this]
    have bb:∀x∈rs\1,x∈L:=λx hx=>by
     have%[z,hz|rfl]:=(rk x).mp hx;refine(lo.mem _).mpr ((ew.mem _).mpr %[?_|?_])
     .exact pl.mem_iff.mpr ((mem _).mp (lg z hz).1)
     .have:=(lg z hz).2;exact jF this this.1
    have lt:∀x y,Ed (ss\2) x y->lv y<lv x:=λx y e=>(lo.at_ x (bb x (ends x y e).1)).1 y e
    have ae:=G.trans I;refine%[an,b,dl,ps,_,rs,L,lv,ρ,ae _ _ as,J.up ae,⋯,bc.up ae,ez,λx y eH=>?_,λx hx=>%[bb x hx|ab.lev lt (lo.at_ x (bb x hx))]|λl _=>kk l];have d:=ab.at_.mp eH;have:=ends x y d.1;exact%[bb x this.1,bb y this.2|lt x y d.1]
end
abbrev dfm:= @FT
abbrev gvm:= @Hc
def all_mk{l:PySem.W.OpenLaw}{w:World}{K:ZA}{h:Heap}{mg:ZC}{fa af:Addr}(X:K.In h)(G:h.Ns mainGlobals mg)(hfa:mg "law"=some (.ref fa))
 {bc ap:ZI} {bd:ZK} {be aq ar au ag av:Value}
 (F:Txc K mg->Txt K mg)
 (bf:nsIn K mainGlobals "law"=some (some (.ref af))) (bg:K.lookup af=some %[be,bc,.func (fnOf "law" "law" (dc ko) (cb ko) (ao ko) .none aq ar au ap ag av)|bd]) (bh:codeIn K ag "law"=true) (bi:keepIn K (.ref af)=true)
 {aa:Addr}
 (aw:nsIn K mainGlobals "Ground"=some (some (.ref aa)))
 (bj:plainGet K aa Str.empty=true)
 (bk:hasDictIn K aa=true)
 (bl:plainOver K aa=true)
 (bm:findIn K (.ref aa) "__setattr__"=some (some (.builtin "object.__setattr__")))
 (bn:findIn K (.ref aa) "kept_cuts"=some none)
 (bo:findIn K (.ref aa) "kept_sayings"=some none)
 (bp:findIn K (.ref aa) "kept_layers"=some none)
 (bq:findIn K (.ref aa) "kept_ties"=some none)
 {ab:Addr} {br bs:ZI} {bt:ZK} {bu bv bw bx ax bz:Value}
 (b0:findIn K (.ref aa) "__init__"=some (some (.ref ab)))
 (ay:K.lookup ab=some %[bu,br,.func (fnOf "__init__" "Ground.__init__" (dc bW) (cb bW) (ao bW) .none bv bw bx bs ax bz)|bt])
 (az:codeIn K ax "Ground.__init__"=true)
 (a0:keepIn K (.ref ab)=true)
 (b1:isFn K (.ref ab)=true)
 (b2:makesIn K aa=true)
 (b3:keepIn K (.ref aa)=true)
 {ac:Addr} {b4 b5:ZI} {b6:ZK} {b7 b8 b9 ca a1 cc:Value}
 (cd:findIn K (.ref aa) "sayings"=some (some (.ref ac)))
 (a2:K.lookup ac=some %[b7,b4,.func (fnOf "sayings" "Ground.sayings" (dc cg) (cb cg) (ao cg) .none b8 b9 ca b5 a1 cc)|b6])
 (a3:codeIn K a1 "Ground.sayings"=true)
 (ah:keepIn K (.ref ac)=true)
 (ce:isFn K (.ref ac)=true)
 {ad:Addr} {cf ch:ZI} {ci:ZK} {cj ck cl cm a4 cn:Value}
 (co:findIn K (.ref aa) "layers"=some (some (.ref ad)))
 (a5:K.lookup ad=some %[cj,cf,.func (fnOf "layers" "Ground.layers" (dc cA) (cb cA) (ao cA) .none ck cl cm ch a4 cn)|ci])
 (a6:codeIn K a4 "Ground.layers"=true)
 (ai:keepIn K (.ref ad)=true)
 (cp:isFn K (.ref ad)=true)
 {ae:Addr} {cq cr:ZI} {cs:ZK} {ct cu cv cw a7 cx:Value}
 (cy:findIn K (.ref aa) "ties"=some (some (.ref ae)))
 (a8:K.lookup ae=some %[ct,cq,.func (fnOf "ties" "Ground.ties" (dc c9) (cb c9) (ao c9) .none cu cv cw cr a7 cx)|cs])
 (a9:codeIn K a7 "Ground.ties"=true)
 (aj:keepIn K (.ref ae)=true)
 (cz:isFn K (.ref ae)=true)
 {ba:Addr} {ak:Obj} {al:ZJ} {c0:Nat}
 (c1:nsIn K mainGlobals "YEAR_WORDS"=some (some (.ref ba)))
 (c2:K.lookup ba∣ak)
 (c3:ak.cls= .type "tuple")
 (c4:ak.data= .seq al c0)
 (c5:al.size<=sizeLine)
 (c6:aJ [.str "since",.str "by"] al.toList)
 {bb:Addr} {am:Obj} {an:ZJ} {c7:Nat}
 (c8:nsIn K mainGlobals "LAYER_WORDS"=some (some (.ref bb)))
 (da:K.lookup bb∣am)
 (db:am.cls= .type "tuple")
 (dd:am.data= .seq an c7)
 (de:an.size<=sizeLine)
 (df:aJ [.str "later",.str "same"] an.toList)
 :∃fd:FuncData,(∀(s:Shared) (v:Value),BindsTo s fd %[[v]|[]] [("_law_script",v)])/\∀base:Heap,K.In base->base.Ns mainGlobals mg->fF l.prog w K mg base CX0 12 fa fd ["_law_script"] (pi K):=by
 have e:=hfa.symm.trans (mg_of X G bf);cases e;have dg:=DF (mg_of X G aw);subst dg;have T:Txt K mg:=F %[%[mg_of X G aw,bj,bk,bl|bm],
  bn,
  bo,
  bp,
  bq,
  %[ab,_,%[b2,b0,b1|b3],eJ ay az a0|(eJ ay az a0).binds (by room)],
  %[ac,_,%[cd,ce|ah],eJ a2 a3 ah|(eJ a2 a3 ah).binds (by room)],
  %[ad,_,%[co,cp|ai],eJ a5 a6 ai|(eJ a5 a6 ai).binds (by room)],
  %[ae,_,%[cy,cz|aj],eJ a8 a9 aj|(eJ a8 a9 aj).binds (by room)],
  BI X G c1 c2 c3 c4 c5 c6|
  BI X G c8 da db dd de df]
 exact%[fnOf "law" "law" (dc ko) (cb ko) (ao ko) .none aq ar au ap ag av,λs v=> .of_eq rfl|λbase _ _=>GM (eJ (st:=ko) bg bh bi) T]
def walk{l:PySem.W.OpenLaw}{q:Program}{b:ZB}{j:(Str->Option Value)->Heap->Prop}{e:World->Heap->Prop}{d:DefRec}{K:Params->ZA}(m:l.most∣63)(c:d.params.defaults=[])
 (o:∀(w:World) (h:Heap),e w h->(K w.params).In h)
 (F:∀(w:World) (mg:ZC) (g:Addr) (h:Heap),(K w.params).In h->h.Ns mainGlobals mg->mg d.name∣.ref g->
  ∃i:FuncData,(∀(s:Shared) (u:Value),BindsTo s i %[[u]|[]] [("_law_script",u)])/\∀base:Heap,(K w.params).In base->base.Ns mainGlobals mg->fF l.prog w (K w.params) mg base CX0 12 g i ["_law_script"] (pi (K w.params))):
 PySem.W.WalkO q b j e l.row.toRowW d [] (λf vs=>PySem.call f vs):=
 _L.walk_of (n:=63) (k:=12) (x:="_law_script") (CX:=λ_=>CX0) (sp:=λw=>pi (K w.params)) m (!1) c %[rfl,!1,!1|rfl] o F (λ_ _ a p r v y=>%[a,p,rfl,y,v,r|λ_=>rfl]) λ_ _ _ _ _ z=>z
end _K
end
open PySem PySem.W PyProof.Rows
set_option maxRecDepth 100000 in
theorem PySem.Challenge.cw_digbook_k53_whole_direct_pairs_are_enoug_holds : PySem.Challenge.rw_digbook_k53_whole_direct_pairs_are_enoug.Holds := by
 w_on;o_law;k_head;(case hw=>w_witness2)
 k_fill
 refine _K.walk (l:=PySem.Challenge.rw_digbook_k53_whole_direct_pairs_are_enoug) rfl rfl (λw h Y=>PySem.W.kIn_of Y) ?F
 case F=>
  intro w mg fa h KX G hmg;apply _K.all_mk KX G hmg
  (case F=>
   intro C
   constructor
   exact C
   all_goals first|exact PySem.W.mg_none_of KX G (by k_is)|(refine' _K.gvm KX G ?z ?r;(case z=>k_is);(case r=>exact⟨_,rfl⟩))|(refine' _K.dfm KX G ?a ?l ?c ?k ?b;(case a=>k_is);(case l=>k_is);(case c=>k_is);(case k=>k_is);(case b=>intro _ _ _ _ _ _;(repeat(refine _K.zq1 λ_=>?_));exact _K.zq0 rfl)))
  any_goals first|k_is|rfl|decide|exact .cons ⟨_,rfl⟩ (.cons ⟨_,rfl⟩ (.nil))
