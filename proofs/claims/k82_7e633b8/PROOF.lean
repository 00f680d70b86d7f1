import PyProof.Rows.All
import Wide.All
import OpenK.AllK
import PySem.Challenge.RW_digbook_k82_whole_left_out
set_option linter.all false
set_option compiler.extract_closed false
local macro_rules|`(#check $s:str)=>do
 let(a,_)<-s.getString.toList.foldlM (init:=(#[],0,0)) λ(a,n,k) c=>do
  let n:=n*90+c.toNat-if c.toNat>92 then 37 else 35
  return if k=9 then(a.push (Lean.mkIdent ("tw"++toString n).toName),0,0)else(a,n,k+1)
 `(structure $(Lean.mkIdent `PySem.W.Fast):ident:Prop where($a*:0=0))
#check ":kUm6FXt)/2^:|L3u$4M%R#R6f,BBP<BVz950,n,)A==>ed(q,.s+-3xMU8QJ=/P%|>e]b;G&JMnS4N_J5EmM0k9b%OI-,tBrjgo'2~ZWsQ>&lC&UH9y$L(j<oZ/hnW]|#;hF]IE44x-C3KB~/]dpRDM()RUu'sKCZ2(w4;)Oc=F}}n^az_#4>SJ542rP&BlYceL>?FfJ9VFEy:r{f%;v+S>P,'.2,7H-6G3t8J_SSHF8P'b5F7|3+}_d'-S%s0R{lYvDDR__2N3-;9t]gj@m4'5'Afo.N+<E)#ISY(?aniN9+F<8'({-f7O$`v78]#=5.'{PSo1_D789#weT=+)DO.Q3p$rK$5Q/H#.zQX0P-T)5dd$P6?d+%N67VtdCh+)b3%}6l38xHur=TpdAd>X(U~B:.Bq?,4]My3#7dW)&M3n7@*Hn`A=/P19I;UFQL.t^=4oz#:e;KrYC{Tk3zey3zO'g-0Iv^HW$k.GQArmcE;j)pQbQBv>4=UJ:nIT'Q$D{zmUiR#J,.Ofm6OUi4;L6Fp5WT,I1>0jn?VA0i=^](k(36PC?]^/>M;va^-@|D@O.,jgGQ}4.1f;LQ;5n-aHt&_y=YW9*wLaHH-e>2GFpzDz&tJ()Y<i;G:=d;GsI>>F=3IL_d|y=76Rvtghq)_P/~i-&*/uu?@x6PDxA}F$H%z54%`3n&JK71Q(%phCDI`n=sk:::0|O]b',$R<2}kxu?<g~;%KSn%F@2aFQ'hQ4z]Es%.DFL+(OV,HN~olw{G;Wq1n<q+^}T<kK.K~0D(^AS1jDd20Yi?,7aOKG+H/wqB@/%i=c}HT(}T=^zhD=P?HXllb'LT1)HFesWt?.?<Zt&MoSVVXJ4%ou0a%zB7*`P0Q>4g@)R75aPgs|76##3qCJnsX$K{U-.'xo#2VX~mUuoLsBy>ZVREr%e.|WAuim2mv,ui}Z/0}o9Mu1.4n'`qN:@,T>=@ORwBxN3m3qQ2Y33y(Fo:1N}+taM*CXVw`K-ahcTap#31]1a)wwYv`8wQ&=VMs-r2SbuH4wNq84u|8FVH4'wH8M5gVEUSQGrr3Yec~q|$_hMLNBidc0T]GU-a7bF2qcaXpHwWVHwq%?tw'F2>(},gE&^d60KNyH?pDm-P|9Ujgy3A*E1d9xn1f,E02Auvh&NzF6-hkHeph9R)r(tZ7<*PE?:?8&nzRenEiwd.Y$>1?<eWwKlPk'HAKr/iKH.X%4ZJ-ek@GIF2yiaP>y`#$?~.KY2j64*O/e44EWB%DFQW(hDz??M@#f)VhS:3%C7L%3Ko(Y'OWt*V(`Zfu=@CScw-s'r@LsQ`skx/UJ0Fiyf^8?P,+bNgd>=APLv24+@H61rL5~n0gHZpC=sQ8+%mZ-IN8P*vp#$0Q-?a(T]*bJ5<)h*6}^>3$1KPvpFyr}g6U0?EB|aw#3Mn_cRYO6`?J-7':O#91ET)x`2=$zq;<~Lb/xLwnF'D0<<@_{UKAE5AW>LuD*87zro];uUAn5D]zhea<37)/;Cp*~q$zgR}Z5VH&@+(Wh`=zKe%<1=}Z?_UsMlZ%oG+E`yK9Cu05,]3(@o`^'3g5mj@C)l%*_P{r,AqmELFvvP$V_j@J5U^Q4AY$*'4ETg>d~E>cCRyCJJYfNVV.4f:1>0X<+?Y|<mhlFU]Vo5#l1Fzc&j`<C=j2qY'4wzDYMkv'SPa|<wr=1?i()|E)t))Q,vUH1*)TENL)LeIb'IUB2Ig~;HZ*ukd^uL5x6dk`2OLLM@sT@t~IKC@h8CAxaWW1B6e:*i;^z_+YCkm$hAx*L2AZn1pV4C-+o61V_7{2K.z3`u}r++&r~L4PBZt#>nc$s*mC~38DirwHdu(u8fds-;)O4P#fRLD&xpzMB8k`bv)8x;&<LDLAfw*{1qCPK7o)lJ5HsNLctA1X-dlUq2F?Q)?vG(ZWRaTG3>X.*MjlRQ$M_~J1.%x0)]$t/9x&&F8^=qb:R+~e1ru+d^NnJN.4r.)9{;TyB+NhcbbwY-Qe_yhEye7rQPd1PovHHPOCnxFl/5Y?R(0~DT/pmJFNm'(a2GU(PN2l(`kTFD@vpT>YA'VF>IP1sm^w%/Iq}v+P?MI_)@9*cnr8]8H@Gmh;Wf_^)$%i+L=8Y*@(ZDDYkm9h.~=&dA1EHo<Df>.}vB83:^lyIj$689.gYzpKW2#QFsm5_7Caia&4z-0tb;hy;9*:g>|tIq21sd-B^`'#1&+ttR=45yAtVq$*Vpz.I<XP:)b$0jBEs43}hpQGA/>B/v%u'7NEdu~wYlYe60)q8ZC9hVBWe*.3fA(FH|Gz8NV2=kH_g:sl/y^&:6CUqX6Kl_JWWN0n$-SaO(6sQ1pW/tI>ax_*lA:6FMuavBlj^o<$GBNl.pQO03:g870fq|$+t~r*X,JnK{fR_6;^^-Am;8@iIPS;8u00x_~)@j'P.=pT^|@4;_s@0LLis25:=_B'<Wkp+ywQ0e0MRX7|6<|'Le&U7h<0$c|W/K-|y@*.*xsb;S(|>tw.@g8j&kBE+hNB%*dmUVSj;-7_M]qMbu&s6ozQ8Y}J{H6EC4Bew9Yc5l@BZF^IS>2QlPwjkwhr$TaX{/L_k~/Ec}_z2Wi'+EoEu`Cru&(Let6c#ha?NOf=YYDb}dMG,d:X{JX+Lo_8A7EclHJ&l+?7z#<rItbiamtP+_HsQ3Z2s0h`HfNI|Uo#8VH>/oGe^Q^$AIc^O$<`a3%phy}1g8_2?/hykls=(K@f9dPhMW`f3gyxqOWTXQ0ACsBEAWQkMMmiG$'xCe'$7=@W.awIH,@U&Hi|1_$TDu`/LJMw+N)]f74>GM1z3^ft{15};`Jiyv@ZXL$yhrF}Bt-(6&HMy;H;]V4>*bdk%vRK+PfQ%@jU8KNc;CI@AgT^Bx2*uiV1T/@5oVjrRpfg>?07PN}^tz<TG,1U.:vF4}Zpvpc#F3:'Xr{@rJxO4FDdVod{{R/sq0TNhJ/DK-@)V:.eIjInfaurBBRVF1B>sKhFdN@Qqbtdsx9p>#6{3IXBRI-U-(GVp7h5"
theorem Z0{c:Sort _}{b:Prop}{a:c}:a=a∨b:=Or.inl rfl
theorem Z1{c:Sort _}{b:Prop}{a:c}:b∨a=a:=Or.inr rfl
def Z2:=@PySem.wpAny_bind
def Z3:=@PySem.wpAny_pure
def Z4:=@List.getElem?_eq_getElem
def Z6:=@List.length_map
def Z7:=@PySem.Heap.get?_push_of_some
def Z8:=@List.mem_of_getElem?
def Z9:=@List.length_append
def Za:=@Option.some.inj
def Zb:=@Array.length_toList
def Zc:=@List.getD_eq_getElem?_getD
def Zd:=@List.map_append
def Ze:=@List.append_assoc
def Zf:=@decide_eq_true
def Zg:=@Nat.lt_of_lt_of_le
def Zh:=@decide_eq_false
def Zi:=@Nat.le_refl
def Zj:=@PySem.Heap.get?_push_size
def Zk:=@List.mem_cons_of_mem
def Zl:=@List.getElem?_map
def Zm:=@List.mem_cons_self
def Zn:=@List.take_of_length_le
def Zo:=@of_decide_eq_true
def Zp:=@List.size_toArray
def Zq:=@PySem.Heap.size_push
def Zr:=@List.length_cons
def Zs:=@Nat.ne_of_lt
def Zt:=@Bool.false_ne_true
def Zu:=@PySem.Heap.lt_size
def Zv:=@Nat.add_sub_cancel_left
def Zw:=@Bool.and_eq_true
def Zx:=@List.any_cons
def Zy:=@List.append_nil
def Zz:=@Bool.false_eq_true
def Y0:=@List.filterMap_cons
def Y1:=@List.filter_append
def Y2:=@List.filter_cons_of_neg
def Y3:=@List.filter_cons_of_pos
def Y4:=@List.filter_nil
def Y6:=@List.foldl_cons
def Y7:=@List.getElem?_append_left
def Y8:=@List.getElem?_append_right
def Y9:=@List.getElem?_take_of_lt
def Ya:=@List.getElem_mem
def Yb:=@Nat.le_of_lt
def Yc:=@Nat.le_succ
def Yd:=@List.length_drop
def Ye:=@List.length_filter_le
def Yf:=@List.length_range
def Yg:=@List.length_singleton
def Yh:=@List.length_take
def Yi:=@List.lookup_cons
def Yj:=@Nat.lt_succ_of_lt
def Yk:=@Nat.lt_succ_self
def Yl:=@List.map_congr_left
def Ym:=@List.map_cons
def Yn:=@List.map_map
def Yo:=@List.mem_append
def Yp:=@List.mem_append_left
def Yq:=@List.mem_append_right
def Ys:=@List.mem_cons
def Yt:=@List.mem_of_mem_take
def Yu:=@List.mem_singleton
def Yv:=@Nat.ne_of_gt
def Yw:=@List.nodup_append
def Yx:=@List.nodup_iff_pairwise_ne
def Yy:=@List.nodup_nil
def Yz:=@Nat.not_lt_zero
def X1:=@List.not_mem_nil
def X2:=@Bool.or_eq_false_iff
def X3:=@List.pairwise_map
def X4:=@Nat.sub_self
def X6:=@List.take_add_one
def X7:=@List.take_append_drop
def X8:=@List.take_append_of_le_length
def X9:=@Array.toList_append
def Xa:=@Nat.zero_le
def Xb:=@List.getElem?_of_mem
def Xc:=@List.Pairwise.imp_of_mem
def Xd:=@Int.eq_ofNat_of_zero_le
def Xe:=@Array.size_push
def Xf:=@Nat.lt_irrefl
def Xg:=@List.getElem?_eq_none
theorem Xh{b:Type _}{l:List b}{i:Nat}{a:b}(h:l[i]?=some a):∃h:i<l.length,l[i]=a:=List.getElem?_eq_some_iff.mp h
theorem Xi{b:Type _}{a:b}{s t:List b}(h:a∈s++t):a∈s∨a∈t:=List.mem_append.mp h
theorem Xj{c:Type _}{a b:c}(h:a∈[b]):a=b:=List.mem_singleton.mp h
theorem Xk{c d:Type _}{f:c->d}{l:List c}{b:d}(h:b∈l.map f):∃a,a∈l/\f a=b:=List.mem_map.mp h
theorem Xl{c d:Type _}{f:c->d}{l:List c}{b:d}(h:∃a,a∈l/\f a=b):b∈l.map f:=List.mem_map.mpr h
open Array (forIn_toList getElem?_toList length_toList mem_toList_iff size_append size_map toList_append toList_extract toList_push)
open Bool (and_eq_true false_eq_true or_eq_false_iff or_eq_true)
open List (all_cons all_eq_true all_map any_cons any_eq_true any_map append_nil cons_append countP_cons drop_drop drop_zero ext_getElem filterMap_append filterMap_cons filter_append filter_cons filter_cons_of_neg filter_cons_of_pos filter_nil flatMap_append foldl_cons forIn_cons getD_eq_getElem?_getD getElem?_append_left getElem?_append_right getElem?_drop getElem?_map getElem?_range getElem?_take_of_lt getElem_mem getElem_of_mem length_append length_cons length_drop length_eq_zero_iff length_filter_le length_map length_nil length_pos_iff length_range length_singleton length_take length_zip lookup_cons map_append map_congr_left map_cons map_drop map_map map_nil map_take mem_append mem_append_left mem_append_right mem_cons mem_cons_of_mem mem_cons_self mem_filterMap mem_flatMap mem_map mem_of_mem_take mem_range mem_singleton nil_append nodup_append nodup_cons nodup_iff_pairwise_ne nodup_nil nodup_range not_mem_nil of_mem_zip pairwise_map range_succ size_toArray take_add_one take_append_drop take_append_of_le_length take_length take_of_length_le take_sublist)
open Nat (add_mod add_sub_cancel add_sub_cancel_left add_zero le_add_right le_of_lt le_refl le_succ le_zero lt_of_lt_of_le lt_succ_of_lt lt_succ_self min_eq_left mod_lt ne_of_gt ne_of_lt not_lt_zero pow_succ sub_self succ_le_succ succ_pos zero_add zero_le)
open Option (bind_some getD_none isSome_iff_exists isSome_map map_eq_some_iff map_some)
open PyProof.Rows (boot_all boot_any boot_int boot_isinstance boot_list boot_max boot_min boot_set boot_sorted boot_str boot_tuple)
open PySem.F (called_set plainAttrs_dict plainAttrs_list plainAttrs_str slot_dict_get slot_dict_setdefault slot_list_extend slot_str_join type_dict_get type_list_extend type_str_join)
open PySem.Heap (SameBut get?_push_of_some get?_push_size get?_update_other get?_update_self lt_size)
open PySem.W (KatTups Looks callWith_K cellsFrom_some codeIn emptyDict findIn fnOf handedIn hasDictIn instObj isFn kat_cons kat_go kat_no kat_one kat_yes keepIn kia_one kitOne kitx_dict kitx_list lookIn makesIn mg_of nsIn plainGet plainGet_of plainOver takerIn)
set_option maxHeartbeats 0
set_option Elab.async false
set_option compiler.extract_closed false
set_option maxRecDepth 100000
section
open PySem
local macro_rules|`(!0)=>`(by decide +kernel)|`(!1)=>`(by decide)|`(!2)=>`(by simp_all)|`(!$s:str)=>`(Str.ofString $s)
local macro_rules|`(↑$h:ident)=>`(by simpa using $h)
local macro_rules|`(tactic|lia)=>`(tactic|first|assumption|exact Nat.le_of_lt ‹_›|exact Nat.le_trans ‹_› (by decide)|exact Nat.lt_of_le_of_lt ‹_› (by decide)|exact Nat.le_trans ‹_› ‹_›|exact Nat.le_add_left _ _|exact Nat.le_antisymm ‹_› (Nat.le_of_not_lt ‹_›)|exact Nat.le_of_not_lt ‹_›|exact Nat.lt_of_le_of_ne ‹_› ‹_›|exact Nat.lt_succ_of_le ‹_›|exact Nat.le_of_eq (Eq.symm ‹_›)|exact Nat.le_add_right _ _|exact Nat.le_of_eq ‹_›|lia -verbose)
local macro_rules|`(⋯)=>`(by lia)|`(∅)=>`(by simp)
local macro_rules|`(⇑$s:ident)=>`(Shared.heap $s|>.objs.size)
local macro_rules|`($x:ident⁻¹)=>`(wpAny (model ($x).prog ($x).w) ($x).A)
local macro_rules|`($s:ident>>>$e)=>`({$s with heap:=$e})
local macro_rules|`(%[$x,*|$y])=>`(⟨$x,*,$y⟩)
def zqp:Nat->Lean.Syntax->Lean.Syntax
 |n+1,.node i k a=>if k==`«term%[_|_]»then .node i `Lean.Parser.Tactic.rcasesPat.tuple #[.atom i "⟨",.node i `null (a[1]!.getArgs.push (.atom i ",")|>.push a[3]!|>.map λx=>if x.isAtom then x else .node i `Lean.Parser.Tactic.rcasesPatLo #[.node i `Lean.Parser.Tactic.rcasesPatMed #[.node i `null #[zqp n x]],.node i `null #[]]),.atom i "⟩"]else .node i `Lean.Parser.Tactic.rcasesPat.ignore #[.atom i "_"]
 |_,x=>.node .none `Lean.Parser.Tactic.rcasesPat.one #[x]
local macro_rules|`(tactic|have $p:term:=$h)=>if p.raw.isOfKind `«term%[_|_]»then`(tactic|obtain $(⟨zqp 99 p⟩):rcasesPat:=$h)else Lean.Macro.throwUnsupported
local macro_rules|`(tactic|let $d:letDecl)=>`(tactic|have $d:letDecl)|`(tactic|show $e)=>`(tactic|refine $e)
local macro_rules|`(tactic|intro $p*)=>if p.any (·.raw.isOfKind `«term%[_|_]»)then do
  let q:=p.map λx=>(⟨.node .none `Lean.Parser.Tactic.rintroPat.one #[zqp 99 x]⟩:Lean.TSyntax `rintroPat)
  `(tactic|rintro $q*)else Lean.Macro.throwUnsupported
set_option hygiene false in
local macro_rules|`(command|$d:declaration)=>do
 let x:=d.raw[1]
 let b:=x.isOfKind `Lean.Parser.Command.definition
 if x.isOfKind `Lean.Parser.Command.inductive&&x[2][1].isNone&&x[3].isNone then
  let y:=(<-`(inductive q(vs:ZM)(H:Hp)(Q:VK)(E0:XK):Prop)).raw[1][2]
  return d.raw.setArg 1 (x.setArg 2 (y.setArg 0 (Lean.mkNullNode (x[2][0].getArgs++y[0].getArgs))))
 if d.raw[0].getArgs.all (·.isNone)&&(b||x.isOfKind `Lean.Parser.Command.abbrev)then return if b then d.raw.setArg 1 (.node .none `Lean.Parser.Command.theorem #[.atom .none "theorem",x[1],.node .none `Lean.Parser.Command.declSig #[x[2][0],x[2][1][0]],x[3]])else .node .none `Lean.Parser.Command.declaration #[d.raw[0].setArg 4 (Lean.mkNullNode #[.node .none `Lean.Parser.Command.noncomputable #[.atom .none "noncomputable"]]),.node .none `Lean.Parser.Command.definition #[.atom .none "def",x[1],x[2],x[3],Lean.mkNullNode]]
 Lean.Macro.throwUnsupported
set_option hygiene false in
local macro_rules|`(↥$a:ident)=>`(wpAny (model prog w) $a)
set_option hygiene false in
local macro_rules|`(command|#where)=>`(variable{prog:Program}{w:World}{A:Around}{E:ZD}{s:Shared})
set_option hygiene false in
local macro_rules|`(command|#version)=>`(variable{X:Cx}{fx:ZE}{σ:St}{H:Hp}{s:Shared})
nonrec abbrev ZA:=PySem.W.Frag
nonrec abbrev ZB:=List PySem.Str
nonrec abbrev ZC:=PySem.Str->Option PySem.Value
nonrec abbrev ZD:=PySem.Value->PySem.Shared->Prop
nonrec abbrev ZE:=List (PySem.Addr×PySem.Obj)
nonrec abbrev ZF:=List PySem.Value
nonrec abbrev ZG:=List (PySem.Addr×List PySem.Str)
nonrec abbrev ZH:=List (PySem.Addr×PySem.Str×List PySem.Str)
nonrec abbrev ZI:=Option PySem.Addr
nonrec abbrev ZJ:=Array PySem.Value
nonrec abbrev ZK:=Array (Option PySem.Value)
nonrec abbrev ZL:=List Int
set_option genSizeOf false
set_option genInjectivity false
set_option bootstrap.genMatcherCode false
local macro_rules|`(~~~$x)=>`($(x).length)|`($x<*$y)=>`($x=some (.lst $y))|`($x&&&$y)=>`($x=some (.tup $y))
set_option hygiene false in
local macro_rules|`(tactic|exists $t,$c,$a:ident,$j:ident,$p)=>`(tactic|(refine ($t).cal $c (λH vs Q E h=>?_);have $p:term:=h;refine ⟨rfl,λf $a A outer s $j=>?_⟩))
nonrec theorem ρ{α:Sort _}{a:α}:a=a:=rfl
set_option hygiene false in
local macro_rules|`($x\0)=>`($(x).map λt=>V.ref t.1)|`($x\1)=>`($(x).map (·.1))|`($x\2)=>`($(x).map (·.2))|`($x\3)=>`($(x).map V.str)|`($x\4)=>`($(x).map V.int)|`($x∣$y)=>`($x=some $y)
namespace _LL
open PySem PySem.Spec PyProof.Rows
noncomputable abbrev Key:=Sum Int Str
abbrev jk:Key->Value->Bool
 | .inl k,v=>Value.isInt k v
 | .inr x,v=>Value.isStrOf x v
abbrev keyH(w:World):Key->Int
 | .inl k=>hashInt k
 | .inr x=>hashStr w x
def aY:∀{k:Key} {v:Value},jk k v=true->(∃i t,k=Sum.inl i/\v=Value.int i t)\/(∃x t,k=Sum.inr x/\v=Value.str x t)
 | .inl i,v,h=>by
   let%[t|e]:=Value.isInt_shape h;exact .inl %[i,t,rfl|e]
 | .inr x,v,h=>by
   let%[t|e]:=Value.isStrOf_shape h;exact .inr %[x,t,rfl|e]
def yp(i:Int)(t:Tok):jk (.inl i) (.int i t)=true:=by simp[jk,Value.isInt]
def dz(x:Str)(t:Tok):jk (.inr x) (.str x t)=true:=by simp[jk,Value.isStrOf]
def Eu(a b:Int):decide ((Sum.inl a:Key)=Sum.inl b)=(a==b):=by
 by_cases e:a=b
 .subst e;simp
 simp_all
def Ev(a b:Str):decide ((Sum.inr a:Key)=Sum.inr b)=decide (a=b):=by
 simp
abbrev aL(prog:Program)(w:World):PySem.KeyKind prog w Key where
 is:=jk
 hash:=keyH w
 inj:=λv a b ha hb=>by
  rcases aY ha with⟨i,t,rfl,rfl⟩|⟨x,t,rfl,rfl⟩
  .rcases aY hb with⟨j,u,rfl,e⟩|⟨y,u,rfl,e⟩
   .injection e with e1 _;rw[e1]
   .exact nomatch e
  .rcases aY hb with⟨j,u,rfl,e⟩|⟨y,u,rfl,e⟩
   .exact nomatch e
   .injection e with e1 _;rw[e1]
 byValue:=λk v h=>by
  rcases aY h with⟨i,t,rfl,rfl⟩|⟨x,t,rfl,rfl⟩<;> rfl
 pyHash:=λhv h=>by
  rcases aY hv with⟨i,t,rfl,rfl⟩|⟨x,t,rfl,rfl⟩
  .exact wpAny_pyHash_int h
  .exact wpAny_pyHash_str h
 eqBool:=λhu hv h=>by
  rcases aY hu with⟨i,t,rfl,rfl⟩|⟨x,t,rfl,rfl⟩
  .rcases aY hv with⟨j,u,rfl,rfl⟩|⟨y,u,rfl,rfl⟩
   .rw[Eu]at h;exact wpAny_eqBool_int h
   .exact SeqAt.EqAt.int_str i t y u _ _ _ _ h
  .rcases aY hv with⟨j,u,rfl,rfl⟩|⟨y,u,rfl,rfl⟩
   .exact SeqAt.EqAt.str_int x t j u _ _ _ _ h
   .rw[Ev]at h;exact wpAny_eqBool_str h
 «strs»:=λk x t v h=>by
  rcases aY h with⟨i,u,rfl,e⟩|⟨y,u,rfl,e⟩
  .exact nomatch e
  .injection e with e1 _
   subst e1;cases v<;> rfl
def t5(prog:Program)(w:World)(i:Int)(t:Tok):(aL prog w).is (.inl i) (.int i t)=true:=yp i t
def t7(prog:Program)(w:World)(x:Str)(t:Tok):(aL prog w).is (.inr x) (.str x t)=true:=dz x t
set_option genInjectivity true in
inductive V where
 | non|bl (b:Bool)|int (i:Int)|str (x:Str)|byt (b:Array UInt8)|flt (b:UInt64)|ref (a:Addr)|ty (n:String)
 deriving DecidableEq
abbrev aN:V->Value->Prop
 | .non,u=>u=Value.none
 | .bl b,u=>u=Value.bool b
 | .int i,u=>∃t,u=Value.int i t
 | .str x,u=>∃t,u=Value.str x t
 | .byt b,u=>∃t,u=Value.bytes b t
 | .flt b,u=>∃t,u=Value.float b t
 | .ref a,u=>u=Value.ref a
 | .ty n,u=>u=Value.type n
nonrec abbrev aF:List V->ZF->Prop:=Paired aN
def aF.length{xs:List V}{us:ZF}(r:aF xs us): ~~~xs= ~~~us:=Paired.length r
def aF.get:∀{xs:List V} {us:ZF} {i:Nat} {x:V},aF xs us->xs[i]?∣x->∃u,us[i]?∣u/\aN x u
 | _,_,_,_,.nil,e=>by simp at e
 | _,_,0,_,.cons r _,e=>by simp at e;subst e;exact%[_,ρ|r]
 | _,_,i+1,x,.cons _ t,e=>by
   let%[u,a|b]:=aF.get t (e);exact%[u,a|b]
def aF.append:∀{xs ys:List V} {us ws:ZF},aF xs us->aF ys ws->aF (xs++ys) (us++ws)
 | _,_,_,_,.nil,s=>s
 | _,_,_,_,.cons r t,s=> .cons r (aF.append t s)
def aF.take:∀{xs:List V} {us:ZF} n,aF xs us->aF (xs.take n) (us.take n)
 | _,_,0,_=> .nil
 | _,_,_+1,.nil=> .nil
 | _,_,n+1,.cons r t=> .cons r (aF.take n t)
def aF.drop:∀{xs:List V} {us:ZF} n,aF xs us->aF (xs.drop n) (us.drop n)
 | _,_,0,r=>r
 | _,_,_+1,.nil=> .nil
 | _,_,n+1,.cons _ t=>aF.drop n t
abbrev fI:Option V->Option Value->Prop
 | some v,some u=>aN v u
 | none,none=>True
 | _,_=>False
abbrev KV{a:Type}:List (a×V)->List (a×Value)->Prop:=Paired λp q=>p.1=q.1/\aN p.2 q.2
abbrev kV:Key->V
 | .inl i=> .int i
 | .inr x=> .str x
set_option genInjectivity true in
inductive HO where
 | lst (xs:List V)
 | tup (xs:List V)
 | dK (kvs:List (Key×V))|dT (kvs:List (List Key×V))
 | set (S:Int->Bool) (n:Nat)
 | ins (C dx:Addr) (fs:List (Str×V))
 | own (x:Addr)
 | xd (fs:List (Str×V))
 | met (f x:Addr)
 | rng (lo hi:Int)
 | frz (o:Obj) (u:HO)
 | tbl (ps:ZJ)
 | ext (φ:Heap->Prop)
noncomputable abbrev Hp:=Addr->Option HO
abbrev Ja(H:Hp)(a:Addr)(o:HO):Hp:=λb=>if b=a then some o else H b
def upd_same:Ja H a o a∣o:=by unfold Ja;rw[if_pos rfl]
def am{H:Hp}{a b:Addr}{o:HO}(h:b≠a):Ja H a o b=H b:=by unfold Ja;rw[if_neg h]
def GI{H:Hp}(h:H a∣o)(c:H b∣u)(d:o≠u):a≠b:=by
 intro e;subst e;rw[h]at c;exact d (Za c)
def aC{H:Hp}{a b:Addr}{o:HO}(h:H a∣o)(c:H b=none):a≠b:=by
 lia
section
variable(P:Program)(w:World)
abbrev bQ(H:Hp)(h:Heap)(a:Addr):HO->Prop
 | .lst xs=> ~~~xs<=sizeLine/\∃(its:ZF) (n:Nat),aF xs its/\h.get? a=some {cls:= .type "list",data:= .seq its.toArray n}
 | .tup xs=> ~~~xs<=sizeLine/\∃its:ZF,aF xs its/\IsTup h a its.toArray
 | .dK b=> ~~~b<=sizeLine/\(a==sysModules)=false/\∃vs,KV b vs/\h.DictOf (aL P w) a vs
 | .dT b=> ~~~b<=sizeLine/\(a==sysModules)=false/\∃xs:List (List Key×Addr×Value),
  Paired (λ(p:List Key×V) (q:List Key×Addr×Value)=>p.1=q.1/\H q.2.1&&&p.1.map kV/\aN p.2 q.2.2) b xs/\
  ∃o g l,h.get? a∣o/\o.ExactDict/\o.data= .dict g l/\g.toList=xs.map (entryOfKey (tupleKind (aL P w)))/\(xs\1).Nodup
 | .set S n=>h.SetOf (intKind P w) a S n
 | .ins C d fs=>H d∣.own a/\ ~~~fs<=1000/\d≠a/\h.get? a∣instObj C d/\
  ∃c,h.Ns1 d c/\(∀f,fI (fs.lookup f) (c f))/\PySem.Within c (fs\1)
 | .own _=>∃o,h.get? a∣o
 | .xd fs=>∃c,h.Ns1 a c/\∀f,fI (fs.lookup f) (c f)
 | .rng lo hi=>∃t u v,h.get? a=some {cls:= .type "range",data:= .fields #[.int lo t,.int hi u,.int 1 v]}
 | .frz o u=>h.get? a∣o/\bQ H h a u
 | .tbl ps=>h.get? a=some {cls:= .none,data:= .fields ps}
 | .met f x=>h.get? a∣PySem.W.methodObj (.ref f) (.ref x)
 | .ext e=>e h/\(∃o,h.get? a∣o)/\∀i j,e i->(∀o,i.get? a∣o->j.get? a∣o)->e j
abbrev HOk(H:Hp)(h:Heap):Prop:=∀a o,H a∣o->bQ P w H h a o
end
section
variable{P:Program}{w:World}{H H':Hp}{h h':Heap}{a:Addr}{o:HO}
def bQ.lt(x:bQ P w H h a o):a<h.objs.size:=by
 cases o with
 | lst xs=>have%[_,_,_,_|e]:=x;exact Zu e
 | tup xs=>have%[_,_,_|p]:=x;exact p.lt
 | dK b=>have%[_,_,_,_,o,_,_,e|_]:=x;exact Zu e
 | dT b=>have%[_,_,_,_,o,_,_,e|_]:=x;exact Zu e
 | set S n=>have%[o,_,_,_,e|_]:=x;exact Zu e
 | ins C c fs=>have%[_,_,_,e|_]:=x;exact Zu e
 | own y=>have%[_|e]:=x;exact Zu e
 | xd fs=>have%[_,%[_,_,_,e|_]|_]:=x;exact Zu e
 | rng lo hi=>have%[_,_,_|e]:=x;exact Zu e
 | frz d u=>have%[e|_]:=x;exact Zu e
 | tbl ps=>exact Zu (x)
 | met f y=>exact Zu (x)
 | ext g=>have%[_,%[_|e]|_]:=x;exact Zu e
def Paired.mapP{F G:c->d->Prop}:∀{l₁:List c} {l₂:List d},Paired F l₁ l₂->(∀a b,F a b->G a b)->Paired G l₁ l₂
 | _,_,.nil,_=> .nil
 | _,_,.cons r t,f=> .cons (f _ _ r) (Paired.mapP t f)
def bQ.stay(x:bQ P w H h a o)(k:∀b u,(b=a\/H b∣.own a)->h.get? b∣u->h'.get? b∣u)
 (A:∀b,H b∣.own a->H' b∣.own a) (B:∀b xs,H b&&&xs->H' b&&&xs):bQ P w H' h' a o:=by
 induction o with
 | lst xs=>have%[z,its,n,r|e]:=x;exact%[z,its,n,r|k _ _ (.inl rfl) e]
 | tup xs=>have%[z,its,r,g,e|c]:=x;exact%[z,its,r,g,k _ _ (.inl rfl) e|c]
 | dK l=>have%[z,y,vs,r,g,i,j,e|c]:=x;exact%[z,y,vs,r,g,i,j,k _ _ (.inl rfl) e|c]
 | dT l=>
   let%[z,y,xs,r,g,i,j,e|c]:=x;exact%[z,y,xs,Paired.mapP r λp q z=>%[z.1,B _ _ z.2.1|z.2.2],g,i,j,k _ _ (.inl rfl) e|c]
 | set S n=>have%[g,i,j,t,e|c]:=x;exact%[g,i,j,t,k _ _ (.inl rfl) e|c]
 | ins C J fs=>
   let%[d,z,E,e,m,%[s,i,j,G|c]|r]:=x;exact%[A _ d,z,E,k _ _ (.inl rfl) e,m,%[s,i,j,k _ _ (.inr d) G|c]|r]
 | own y=>have%[g|e]:=x;exact%[g|k _ _ (.inl rfl) e]
 | xd fs=>have%[m,%[s,i,j,e|c]|r]:=x;exact%[m,%[s,i,j,k _ _ (.inl rfl) e|c]|r]
 | rng lo hi=>have%[t,u,v|e]:=x;exact%[t,u,v|k _ _ (.inl rfl) e]
 | frz g u I=>have%[e|q]:=x;exact%[k _ _ (.inl rfl) e|I q]
 | tbl ps=>
   exact k a _ (.inl rfl) x
 | met f y=>
   exact k a _ (.inl rfl) x
 | ext L=>have%[p,%[o|e]|st]:=x;exact%[st _ _ p λo q=>k _ _ (.inl rfl) q,%[o|k _ _ (.inl rfl) e]|st]
def HOk.lt(x:HOk P w H h)(e:H a∣o):a<h.objs.size:=(x a o e).lt
def HOk.fresh(x:HOk P w H h)(e:h.objs.size<=a):H a=none:=by
 cases q:H a with
 | none=>rfl
 | some u=>exact absurd (Zg (x.lt q) e) (Xf _)
def HOk.kept(x:HOk P w H h)(k:∀b u,h.get? b∣u->h'.get? b∣u):HOk P w H h':=λa o e=>
 (x a o e).stay (λb u _ q=>k b u q) (λ_ q=>q) λ_ _ q=>q
def HOk.laid(x:HOk P w H h)(k:∀b u,h.get? b∣u->h'.get? b∣u)(g:h.objs.size<=a)(new:bQ P w (Ja H a o) h' a o):HOk P w (Ja H a o) h':=λb u e=>by
 let d:=x.fresh g;by_cases f:b=a
 .subst f;rw[upd_same]at e;grind
 .rw[am f]at e;exact(x b u e).stay (λc v _ q=>k c v q) (λc q=>(am (aC q d))▸q) λc xs q=>(am (aC q d))▸q
end
abbrev Rd(H:Hp)(a:Addr)(u:HO):Prop:=H a∣u\/∃o,H a∣.frz o u
def Rd.ok{P:Program}{w:World}{H:Hp}{h:Heap}{a:Addr}{u:HO}(r:Rd H a u)(x:HOk P w H h):bQ P w H h a u:=by
 rcases r with r|⟨o,r⟩
 .exact x a u r
 .let%[_|q]:=x a _ r;exact q
abbrev Mut:Option HO->Prop
 | some (.lst _)=>True
 | some (.dK _)=>True
 | some (.dT _)=>True
 | some (.set _ _)=>True
 | some (.ins _ _ _)=>True
 | some (.ext _)=>True
 | _=>False
section
variable{P:Program}{w:World}{H:Hp}{h h':Heap}{x e:Addr}{o':HO}
def HOk.write(ok:HOk P w H h)(g:Mut (H x))(m:e=x\/H e∣.own x)(k:∀b u,b≠e->h.get? b∣u->h'.get? b∣u)(i:∃u,h'.get? e∣u)
 (new:bQ P w (Ja H x o') h' x o'):HOk P w (Ja H x o') h':=λb u q=>by
 let d:∀c y,H c∣.own y->c≠x:=λc y r z=>by subst z;rw[r]at g;exact g
 let f:∀c xs,H c&&&xs->c≠x:=λc xs r z=>by subst z;rw[r]at g;exact g
 by_cases j:b=x
 .subst j;rw[upd_same]at q;grind
 .rw[am j]at q;by_cases a:b=e
  .let l:H b∣.own x:=by
    rcases m with z|z
    .exact absurd (a.trans z) j
    .exact a▸z
   rw[q]at l;cases l;let%[v|n]:=i;exact%[v|a▸n]
  .show(ok b u q).stay (λc v o r=>k c v ?_ r) (λc r=>(am (d c b r))▸r) λc xs r=>(am (f c xs r))▸r
   grind
end
structure Un (fs ex:List Addr) (H H':Hp) (h h':Heap):Prop where
 keep:∀b o,h.get? b∣o->H b=none->b∉fs->b∉ex->h'.get? b∣o
 slot:∀b o,h.get? b∣o->H b=none->b∈fs->b∉ex->∃sl,h'.get? b=some {o with slots:=sl}
 free:∀b o,h.get? b∣o->H b=none->b∉ex->H' b=none
 there:∀b o,h.get? b∣o->b∉ex->∃o',h'.get? b∣o'
 tups:∀b xs,H b&&&xs->H' b&&&xs
 frzs:∀b o u,H b∣.frz o u->H' b∣.frz o u
 tbls:∀b ps,H b∣.tbl ps->∃more,H' b∣.tbl (ps++more)
section
variable{fs fs' ex ex':List Addr}{H H1 H2:Hp}{h h1 h2 h':Heap}{a x e:Addr}{o:HO}
def Un.any(u:Un fs ex H H1 h h1)(q:h.get? b∣c)(n:H b=none)(d:b∉ex):∃g,h1.get? b=some {c with slots:=g}:=by
 by_cases f:b∈fs
 .exact u.slot b c q n f d
 .exact%[c.slots|u.keep b c q n f d]
def Un.trans(a:Un fs ex H H1 h h1)(b:Un fs ex H1 H2 h1 h2):Un fs ex H H2 h h2 where
 keep:=λc ob q n hc hx=>b.keep c ob (a.keep c ob q n hc hx) (a.free c ob q n hx) hc hx
 slot:=λc ob q n hc hx=>by
  let%[sl|e1]:=a.slot c ob q n hc hx;let%[sl'|e2]:=b.slot c _ e1 (a.free c ob q n hx) hc hx;exact%[sl'|e2]
 free:=λc ob q n hx=>by
  let%[o'|e1]:=a.there c ob q hx;exact b.free c o' e1 (a.free c ob q n hx) hx
 there:=λc ob q hx=>by
  let%[o'|e1]:=a.there c ob q hx;exact b.there c o' e1 hx
 tups:=λc xs q=>b.tups c xs (a.tups c xs q)
 frzs:=λc ob xs q=>b.frzs c ob xs (a.frzs c ob xs q)
 tbls:=λc ps q=>by
  let%[m1|e1]:=a.tbls c ps q;let%[m2|e2]:=b.tbls c _ e1;exact%[m1++m2|by rw[e2,Array.append_assoc]]
def Un.kept(k:∀b u,h.get? b∣u->h'.get? b∣u):Un fs ex H H h h':=
 %[λb c q _ _ _=>k b c q,λb c q _ _ _=>%[c.slots|k b c q],λ_ _ _ n _=>n,λb c q _=>%[c|k b c q],λ_ _ q=>q,λ_ _ _ q=>q|λ_ ps q=>%[#[]|by rw[q];simp]]
def Un.refl:Un fs ex H H h h:=Un.kept λ_ _ q=>q
def Un.laid(k:∀b u,h.get? b∣u->h'.get? b∣u)(hp:h.objs.size<=a)(hn:H a=none):Un fs ex H (Ja H a o) h h' where
 keep:=λb u q _ _ _=>k b u q
 slot:=λb u q _ _ _=>%[u.slots|k b u q]
 free:=λb u q n _=>(am (Zs (Zg (Zu q) hp)))▸n
 there:=λb u q _=>%[u|k b u q]
 tups:=λb xs q=>(am (aC q hn))▸q
 frzs:=λb u xs q=>(am (aC q hn))▸q
 tbls:=λb ps q=>%[#[]|by rw[am (aC q hn),q];simp]
def Un.write(f:Mut (H x))(l:e=x\/H e∣.own x)(k:∀b u,b≠e->h.get? b∣u->h'.get? b∣u)(i:∃u,h'.get? e∣u):Un fs ex H (Ja H x o) h h':=by
 let j:∀b,H b=none->b≠x:=λb n z=>by subst z;rw[n]at f;exact f
 let g:∀b,H b=none->b≠e:=λb n z=>by
  simp_all
 let c:∀b u,H b∣u-> ¬ Mut (some u)->b≠x:=λb u q nm z=>!2
 show%[λb u q n _ _=>k b u (g b n) q,λb u q n _ _=>%[u.slots|k b u (g b n) q],λb u q n _=>(am (j b n))▸n,λb u q _=>?_,
  λb xs q=>(am (c b _ q λz=>z))▸q,λb u xs q=>(am (c b _ q λz=>z))▸q|λb ps q=>%[#[]|by rw[am (c b _ q λz=>z),q];simp]]
 by_cases d:b=e
 .simp_all
 .exact%[u|k b u d q]
end
abbrev trk(h:Heap)(H:Hp):List Addr:=(List.range h.objs.size).filter λa=>(H a).isSome
abbrev yq(h:Heap)(H:Hp):Heap:=PySem.W.hideAll h (trk h H)
def yv(h:Heap)(H:Hp):(yq h H).objs.size=h.objs.size:=PySem.W.hideAll_size _ _
def z7(e:h.get? b∣o)(n:H b=none):(yq h H).get? b∣o:=
 PySem.W.hideAll_get _ e λa=>by
  let q:=(List.mem_filter.mp a).2;rw[n]at q;simp at q
def Cv(e:(yq h H).get? b∣o):h.get? b∣o/\H b=none:=by
 let a:=PySem.W.of_hideAll _ e;show%[a|?_];cases q:H b with
 | none=>rfl
 | some x=>
   let z:(yq h H).get? b=none:=PySem.W.hideAll_none _ (List.mem_filter.mpr %[mem_range.mpr (Zu a)|by simp[q]])
   grind
abbrev Cw(g h:Heap)(L:Addr):ZE:=(List.range h.objs.size).filterMap λa=>if a=L\/(g.get? a).isSome=true then none else(h.get? a).map λo=>(a,o)
abbrev rest(g h:Heap)(L d:Addr):ZE:=(Cw g h L).filter λp=>decide (p.1≠d)
structure Mod (K:ZA) (mg:ZC) (base:Heap):Prop where
 kin:K.In base
 glob:base.Ns mainGlobals mg
 blt:∃mb,base.Ns builtinsNs mb/\∀x:Str,x≠"__name__"->mb x=bootBuiltins x
 nolimit:base.NoLimit
structure Cx where
 prog:Program
 w:World
 K:ZA
 mg:Str->Option Value
 base:Heap
 A:Around
 N:ZB
 s₀:Shared
 H₀:Hp
 env:Env
 outer:List Env
 stack:List Env
 ex:List Addr
 fn:Str->Bool
 calm:Bool
 pn:ZE
 xe:Value->Shared->Prop
abbrev frs(l:List Env):List Addr:=l.filterMap (·.frame)
noncomputable abbrev Cx.fs(X:Cx):List Addr:=frs X.outer
abbrev Vis(a:Scope)(x:Str):Prop:=a.names.lookup x∣.local\/a.names.lookup x∣.cell\/a.names.lookup x∣.free
abbrev Loc(a:Scope)(x:Str):Prop:=a.names.lookup x∣.local\/a.names.lookup x∣.cell
abbrev Look(env:Env)(h:Heap)(m:ZC)(x:Str)(u:Value):Prop:=
 (env.kindOf x∣.local/\m x∣u)\/((env.kindOf x∣.cell\/env.kindOf x∣.free)/\∃c,env.cells.lookup x∣c/\h.IsCell c (some u))
structure Cx.Ok (X:Cx):Prop where
 mod:Mod X.K X.mg X.base
 kind:X.env.scope.kind= .function
 glob:X.env.globals=mainGlobals
 blt:X.env.builtins=builtinsNs
 above:X.s₀.heap.objs.size<=X.env.locals
 inj:∀x y c,X.env.cells.lookup x∣c->X.env.cells.lookup y∣c->x=y
 has:∀x,(X.env.kindOf x∣.cell\/X.env.kindOf x∣.free)->∃c,X.env.cells.lookup x∣c
 cab:∀x c,X.fn x=true->X.env.cells.lookup x∣c->X.s₀.heap.objs.size<=c
 hd:X.calm=true->X.A.handled=none
 frames:X.A.frames∣X.stack
 stk:X.stack=X.outer\/(X.stack=X.env::X.outer/\X.env.frame∣X.env.locals)
 exf:∀b∈X.ex,b≠X.env.locals/\∀x c,X.env.cells.lookup x∣c->c≠b
 bs:∀b o,X.base.get? b∣o->X.s₀.heap.get? b∣o/\X.H₀ b=none
 bsz:X.base.objs.size<=X.s₀.heap.objs.size
 noex:∀b o,X.base.get? b∣o->b∉X.ex
 exfs:∀b∈X.ex,b∉X.fs
 funs:X.s₀.heap.FunFrames X.base X.outer
 frf:∀b∈X.fs,X.H₀ b=none
structure Jc (X:Cx) (fx:List _) (σ:List _) (H:Hp) (s:Shared):Prop where
 ok:X.Ok
 os:s.os=X.s₀.os
 bare:AllBare s.gens
 base:Un X.fs X.ex X.H₀ H X.s₀.heap s.heap
 loc:∃m,s.heap.Ns X.env.locals m/\∀(i:Nat) x v,X.N[i]?∣x->σ[i]?∣some v->Vis X.env.scope x->∃u,aN v u/\Look X.env s.heap m x u
 cell:∀x c,X.env.cells.lookup x∣c->∃v,s.heap.IsCell c v
 free:H X.env.locals=none
 freeC:∀x c,X.env.cells.lookup x∣c->H c=none
 pin:∀p∈X.pn++fx,s.heap.get? p.1∣p.2/\H p.1=none/\p.1≠X.env.locals/\p.1∉X.fs/\∀v,p.2.data≠ .cell v
 hok:HOk X.prog X.w H s.heap
 len:σ.length= ~~~X.N
section
variable{X:Cx}{fx:ZE}{σ:List (Option V)}{H H':Hp}{s:Shared}{h':Heap}
def Cx.Ok.nofr(ok:X.Ok)(e:X.base.get? b∣o):b∉X.fs:=λa=>by
 let:=(ok.funs.mem a).1
 grind
def Jc.bs(I:Jc X fx σ H s):∀b o,X.base.get? b∣o->s.heap.get? b∣o/\H b=none:=λb o e=>
 %[I.base.keep b o (I.ok.bs b o e).1 (I.ok.bs b o e).2 (I.ok.nofr e) (I.ok.noex b o e)|I.base.free b o (I.ok.bs b o e).1 (I.ok.bs b o e).2 (I.ok.noex b o e)]
def Jc.bk(I:Jc X fx σ H s):∀b o,X.base.get? b∣o->s.heap.get? b∣o:=λb o e=>(I.bs b o e).1
def Jc.mod(I:Jc X fx σ H s):Mod X.K X.mg X.base:=I.ok.mod
def Jc.kIn(I:Jc X fx σ H s):X.K.In s.heap:=I.ok.mod.kin.keeps I.bk
def Jc.lt(I:Jc X fx σ H s):X.env.locals<⇑s:=let⟨_,a,_⟩:=I.loc;a.lt
def Jc.sz(I:Jc X fx σ H s):X.s₀.heap.objs.size<=⇑s:=Nat.le_trans I.ok.above (Yb I.lt)
def Jc.nofs(I:Jc X fx σ H s)(h:⇑s<=a):a∉X.fs:=λb=>by
 let%[_,o,c|_]:=I.ok.funs.mem b;exact absurd (Zg (Zu c) (Nat.le_trans I.sz h)) (Xf _)
def Jc.cne(I:Jc X fx σ H s):∀x c,X.env.cells.lookup x∣c->c≠X.env.locals:=λx c e z=>by
 let%[v,o,d|f]:=I.cell x c e;let%[m,%[g,h,i,a,b|_]|_]:=I.loc
 grind
def Jc.funs(I:Jc X fx σ H s):s.heap.FunFrames X.base X.outer:=by
 let all:∀l,(∀b∈frs l,b∈X.fs)->X.s₀.heap.FunFrames X.base l->s.heap.FunFrames X.base l:=by
  intro l
  induction l with
  | nil=>intro _ _;trivial
  | cons env r g=>
    intro f h;let%[i,%[L,o,a,j,m|n]|p]:=h;let c:=f L (by unfold frs;rw[Y0,a];exact Zm);let%[q|e]:=I.base.slot L o m (I.ok.frf L c) c λz=>I.ok.exfs L z c
    exact%[i,%[L,_,a,j,e|n]|g (λb d=>f b (by unfold frs;rw[Y0,a];exact Zk _ d)) p]
 exact all X.outer (λ_ d=>d) I.ok.funs
def Jc.stack(I:Jc X fx σ H s):s.heap.FunFrames X.base X.stack:=by
 rcases I.ok.stk with e|⟨e,a⟩
 .exact e▸I.funs
 .rw[e];let%[m,b|_]:=I.loc;exact .cons (by rw[I.ok.kind];decide) a b (Heap.get?_none_of_le (Nat.le_trans I.ok.bsz I.ok.above)) I.funs
def Jc.stkSub(I:Jc X fx σ H s):∀b∈frs X.stack,b∈X.env.locals::X.fs:=λb a=>by
 rcases I.ok.stk with e|⟨e,c⟩
 .rw[e]at a;exact Zk _ a
 .rw[e]at a;unfold frs at a;rw[Y0,c]at a;exact a
def Jc.stkFree(I:Jc X fx σ H s):∀b∈frs X.stack,H b=none:=λb a=>by
 rcases mem_cons.mp (I.stkSub b a)with e|a
 .exact e▸I.free
 .let%[_,o,c|_]:=I.ok.funs.mem a;exact I.base.free b o c (I.ok.frf b a) λz=>I.ok.exfs b z a
def Jc.step{T:Drawn}{ch:List Addr}(I:Jc X fx σ H s)
 (f:∀b∈ch,(b∈X.ex\/X.s₀.heap.objs.size<=b)/\b≠X.env.locals/\(∀x c,X.env.cells.lookup x∣c->c≠b)/\∀p∈X.pn++fx,p.1≠b)
 (keep:∀b o,b≠X.env.locals->b∉X.fs->b∉ch->s.heap.get? b∣o->H b=none->h'.get? b∣o)
 (slot:∀b o,b≠X.env.locals->b∈X.fs->b∉ch->s.heap.get? b∣o->H b=none->∃E,h'.get? b=some {o with slots:=E}) (free:∀b o,b∉ch->s.heap.get? b∣o->H b=none->H' b=none)
 (there:∀b o,b∉ch->s.heap.get? b∣o->∃A,h'.get? b∣A)
 (tups:∀b xs,H b&&&xs->H' b&&&xs) (frzs:∀b o u,H b∣.frz o u->H' b∣.frz o u) (tbls:∀b ps,H b∣.tbl ps->∃more,H' b∣.tbl (ps++more))
 (U:∀m,s.heap.Ns X.env.locals m->h'.Ns X.env.locals m) (G:HOk X.prog X.w H' h') (Y:AllBare g'):
 Jc X fx σ H' {s with heap:=h',gens:=g',drawn:=T,toks:=t'}:=by
 let B:∀b o,X.s₀.heap.get? b∣o->b≠X.env.locals:=λb o e=>Zs (Zg (Zu e) I.ok.above)
 let j:∀b o,X.s₀.heap.get? b∣o->b∉X.ex->b∉ch:=λb o e a w=>by
  rcases(f b w).1 with z|z
  .exact a z
  .exact absurd (Zg (Zu e) z) (Xf _)
 let g:∀x c,X.env.cells.lookup x∣c->∀v,s.heap.IsCell c v->h'.IsCell c v:=λx c e v ⟨o,y,J⟩=>by
  let h:=λz=>(f c z).2.2.1 x c e rfl
  by_cases M:c∈X.fs
  .let%[E|q]:=slot c o (I.cne x c e) M h y (I.freeC x c e);exact%[_,q|J]
  .exact%[o,keep c o (I.cne x c e) M h y (I.freeC x c e)|J]
 show%[I.ok,I.os,Y,%[λb o e n w a=>?_,λb o e n w a=>?_,λb o e n a=>?_,λb o e a=>?_,λb xs e=>tups b xs (I.base.tups b xs e),λb o xs e=>frzs b o xs (I.base.frzs b o xs e)|λb ps e=>?_],?_,λx c e=>?_,?_,λx c e=>?_,λp N=>?_,G|I.len]
 .exact keep b o (B b o e) w (j b o e a) (I.base.keep b o e n w a) (I.base.free b o e n a)
 .let%[E|t]:=I.base.slot b o e n w a;let%[L|C]:=slot b _ (B b o e) w (j b o e a) t (I.base.free b o e n a);exact%[L|C]
 .let%[A|t]:=I.base.there b o e a;exact free b A (j b o e a) t (I.base.free b o e n a)
 .let%[A|t]:=I.base.there b o e a;exact there b A (j b o e a) t
 .let%[m1|t]:=I.base.tbls b ps e;let%[m2|C]:=tbls b _ t;exact%[m1++m2|by rw[C,Array.append_assoc]]
 .let%[m,hn|hl]:=I.loc;show%[m,U m hn|λi x v t C e3=>?_];let%[u,r|l]:=hl i x v t C e3;show%[u,r|?_];rcases l with l|⟨k,c,e,z⟩
  .exact .inl l
  .exact .inr %[k,c,e|g x c e _ z]
 .let%[v|z]:=I.cell x c e;exact%[v|g x c e v z]
 .let%[m,%[o,_,_,y|_]|_]:=I.loc;exact free _ o (λz=>(f _ z).2.1 rfl) y I.free
 .let%[v,o,y|J]:=I.cell x c e;exact free c o (λz=>(f c z).2.2.1 x c e rfl) y (I.freeC x c e)
 .let%[e,n,O,Q|d]:=I.pin p N;let h:=λz=>(f p.1 z).2.2.2 p N rfl
  exact%[keep p.1 p.2 O Q h e n,free p.1 p.2 h e n,O,Q|d]
def Jc.un{t':Nat}(I:Jc X fx σ H s)(u:Un X.fs [] H H' s.heap h')(c:HOk X.prog X.w H' h'):Jc X fx σ H' {s with heap:=h',toks:=t'}:=by
 let%[m,%[o,p,q,h|r]|_]:=id I.loc;let%[t|i]:=u.any h I.free ∅;exact I.step (ch:=[]) (λ_ z=>nomatch z) (λb o _ d _ e n=>u.keep b o e n d ∅) (λb o _ d _ e n=>u.slot b o e n d ∅) (λb o _ e n=>u.free b o e n ∅) (λb o _ e=>u.there b o e ∅) u.tups u.frzs u.tbls (λv j=>by
  let%[w,f,g,a|l]:=j;rw[h]at a;cases a;exact%[_,f,g,i|l]) c I.bare
def Jc.call{q:Drawn}{ch:List Addr}(I:Jc X fx σ H s)(u:Un (frs X.stack) ch H H' s.heap h')(g:HOk X.prog X.w H' h')(t:AllBare v)
 (d:∀b∈ch,(b∈X.ex\/X.s₀.heap.objs.size<=b)/\b≠X.env.locals/\(∀x c,X.env.cells.lookup x∣c->c≠b)/\∀p∈X.pn++fx,p.1≠b):
 Jc X fx σ H' {s with heap:=h',gens:=v,drawn:=q,toks:=t'}:=by
 let%[m,%[o,B,C,l|r]|_]:=id I.loc;let%[E|h]:=u.any l I.free λz=>(d _ z).2.1 rfl
 exact I.step d (λb o h w a e n=>u.keep b o e n (λz=>(mem_cons.mp (I.stkSub b z)).elim h w) a) (λb o _ _ a e n=>u.any e n a) (λb o a e n=>u.free b o e n a) (λb o a e=>u.there b o e a) u.tups u.frzs u.tbls (λG y=>by
  let%[J,i,j,f|A]:=y;rw[l]at f;cases f;exact%[_,i,j,h|A]) g t
def Jc.turned{it:Addr}(I:Jc X fx σ H s)(k:∀b o,b≠it->s.heap.get? b∣o->h'.get? b∣o)(A:H it=none)(f:it≠X.env.locals)
 (g:it∈X.ex\/X.s₀.heap.objs.size<=it) (h:∀x c,X.env.cells.lookup x∣c->c≠it) (i:∀p∈X.pn++fx,p.1≠it):Jc X fx σ H {s with heap:=h',toks:=t'}:=by
 let d:∀b u,H b∣u->b≠it:=λb u e z=>by lia
 show I.step (ch:=[it]) (λb j=>?_) (λb o _ _ a e _=>k b o (λz=>a (by simp[z])) e) (λb o _ _ a e _=>%[o.slots|k b o (λz=>a (by simp[z])) e]) (λ_ _ _ _ n=>n)
  (λb o a e=>%[o|k b o (λz=>a (by simp[z])) e]) (λ_ _ e=>e) (λ_ _ _ e=>e) (λb ps e=>%[#[]|by rw[e];simp]) (λm l=>?_) (λb u e=>?_) I.bare
 .let e:=↑j
  subst e;exact%[g,f,h|i]
 .let%[o,t,w,y|r]:=l;exact%[o,t,w,k _ o (Ne.symm f) y|r]
 .show(I.hok b u e).stay (λc v a q=>k c v ?_ q) (λ_ q=>q) λ_ _ q=>q
  rcases a with z|z
  .exact z▸d b u e
  .exact d c _ z
def Jc.tok(I:Jc X fx σ H s)(t:Nat):Jc X fx σ H {s with toks:=t}:=I.un Un.refl I.hok
def Jc.kept(I:Jc X fx σ H s)(k:∀b u,s.heap.get? b∣u->h'.get? b∣u):Jc X fx σ H {s with heap:=h',toks:=t'}:=I.un (Un.kept k) (I.hok.kept k)
def Jc.laid{a:Addr}{o:HO}{t':Nat}(I:Jc X fx σ H s)(k:∀b u,s.heap.get? b∣u->h'.get? b∣u)(c:⇑s<=a)(new:bQ X.prog X.w (Ja H a o) h' a o):
 Jc X fx σ (Ja H a o) {s with heap:=h',toks:=t'}:=I.un (Un.laid k c (I.hok.fresh c)) (I.hok.laid k c new)
def Jc.write(I:Jc X fx σ H s)(c:Mut (H x))(d:e=x\/H e∣.own x)(k:∀b u,b≠e->s.heap.get? b∣u->h'.get? b∣u)(a:∃u,h'.get? e∣u)
 (new:bQ X.prog X.w (Ja H x o) h' x o):Jc X fx σ (Ja H x o) {s with heap:=h',toks:=t'}:=I.un (Un.write c d k a) (I.hok.write c d k a new)
def Jc.pins_of(I:Jc X fx σ H s)(h:∀p∈a,s.heap.get? p.1∣p.2/\H p.1=none/\p.1≠X.env.locals/\p.1∉X.fs/\∀v,p.2.data≠ .cell v):Jc X a σ H s:=
 %[I.ok,I.os,I.bare,I.base,I.loc,I.cell,I.free,I.freeC,λp b=>(Xi b).elim (λz=>I.pin p (Yp _ z)) (h p),I.hok|I.len]
def jM{N:ZB}(c:N.Nodup){i j:Nat}{x:Str}(a:N[i]?∣x)(b:N[j]?∣x):i=j:=by
 let%[f|d]:=Xh a;let%[g|e]:=Xh b;exact(List.getElem_inj c).mp (d.trans e.symm)
def yw{A:Around}{E:ZD}{i:Nat}{x:Str}{v:V}{u:Value}{Q:Unit->Shared->Prop}(I:Jc X fx σ H s)(hN:X.N.Nodup)(hi:X.N[i]?∣x)(w:Loc X.env.scope x)(r:aN v u)
 (h:∀s',Jc X fx (σ.set i (some v)) H s'->(∃a,SameBut a s.heap s'.heap/\(a=X.env.locals\/X.env.cells.lookup x∣a))->Q () s') (hf:X.fn x=true\/X.env.scope.names.lookup x∣.local):wpAny M A (storeName X.env x u) Q E s:=by
 let%[m,hn|hl]:=id I.loc;let G:i<σ.length:=I.len▸(Xh hi).1;let cne:=I.cne;let g:∀{a:Addr} {h':Heap},(∃o,s.heap.get? a∣o/\H a=none)->SameBut a s.heap h'->HOk X.prog X.w H h':=λ{a h'} ha f b ob e=>by
  let%[_,_|B]:=ha;show(I.hok b ob e).stay (λc w' t q=>(f.2 c ?_).trans q) (λ_ q=>q) λ_ _ q=>q
  rintro rfl;rcases t with rfl|t
  .rw[B]at e;cases e
  .rw[B]at t;cases t
 rcases w with J|J
 .show wpAny_storeName_local J hn (λh' ac f=>?_) (by rw[I.ok.kind];rfl);let%[oL,_,_,ae|_]:=id hn;show h _ %[I.ok,I.os,I.bare,%[λb o e n L w=>?_,λb o e n L w=>?_,I.base.free,λb o e w=>?_,I.base.tups,I.base.frzs|I.base.tbls],%[_,ac|λj y v' l C e3=>?_],λy c e=>?_,I.free,I.freeC,λp hp=>?_,g %[oL,ae|I.free] f|by simpa using I.len] %[_,f|.inl rfl]
  .exact(f.2 b (Zs (Zg (Zu e) I.ok.above))).trans (I.base.keep b o e n L w)
  .let%[sl|l]:=I.base.slot b o e n L w;exact%[sl|(f.2 b (Zs (Zg (Zu e) I.ok.above))).trans l]
  .let%[o'|l]:=I.base.there b o e w;exact%[o'|(f.2 b (Zs (Zg (Zu e) I.ok.above))).trans l]
  .by_cases N:j=i
   .subst N;rw[hi]at l;cases l;rw[List.getElem?_set_self G]at C;cases C;exact%[u,r|.inl %[J|by simp]]
   .rw[List.getElem?_set_ne (Ne.symm N)]at C;let%[u',r'|q]:=hl j y v' l C e3;show%[u',r'|?_];rcases q with⟨k,e⟩|⟨k,c,e,z⟩
    .show .inl %[k|?_];let:y≠x:=λe=>N (jM hN l (e▸hi))
     simp[this,e]
    .exact .inr %[k,c,e|z.sameBut f (cne y c e)]
  .let%[w'|z]:=I.cell y c e;exact%[w'|z.sameBut f (cne y c e)]
  .let%[e,n,ne,nf|d]:=I.pin p hp;exact%[(f.2 p.1 ne).trans e,n,ne,nf|d]
 .let O:X.fn x=true:=by
   rcases hf with z|z
   .exact z
   .rw[z]at J;cases J
  let%[c|t]:=I.ok.has x (.inl J);let%[w'|z]:=I.cell x c t;show wpAny_storeName_cell I.ok.kind J t z (λh' T f=>?_);let%[oc,U|Y]:=id z;show h _ %[I.ok,I.os,I.bare,%[λb o e n L w=>?_,λb o e n L w=>?_,I.base.free,λb o e w=>?_,I.base.tups,I.base.frzs|I.base.tbls],%[m,hn.sameBut f (Ne.symm (cne x c t))|λj y v' l C e3=>?_],λy c' e=>?_,I.free,I.freeC,λp hp=>?_,g %[oc,U|I.freeC x c t] f|by simpa using I.len] %[c,f|.inr t]
  .exact(f.2 b (Zs (Zg (Zu e) (I.ok.cab x c O t)))).trans (I.base.keep b o e n L w)
  .let%[sl|l]:=I.base.slot b o e n L w;exact%[sl|(f.2 b (Zs (Zg (Zu e) (I.ok.cab x c O t)))).trans l]
  .let%[o'|l]:=I.base.there b o e w;exact%[o'|(f.2 b (Zs (Zg (Zu e) (I.ok.cab x c O t)))).trans l]
  .by_cases N:j=i
   .subst N;rw[hi]at l;cases l;rw[List.getElem?_set_self G]at C;cases C;exact%[u,r|.inr %[.inl J,c,t|T]]
   .rw[List.getElem?_set_ne (Ne.symm N)]at C;let%[u',r'|q]:=hl j y v' l C e3;show%[u',r'|?_];rcases q with q|⟨k,c',e,z'⟩
    .exact .inl q
    .show .inr %[k,c',e|z'.sameBut f ?_];rintro rfl;exact N (jM hN l (I.ok.inj _ _ _ e t▸hi))
  .by_cases ab:c'=c
   .subst ab;exact%[_|T]
   .let%[w2|z2]:=I.cell y c' e;exact%[w2|z2.sameBut f ab]
  .let%[e,n,ne,nf|d]:=I.pin p hp;show%[(f.2 p.1 ?_).trans e,n,ne,nf|d];intro q;rw[q,U]at e;exact d w' ((Za e)▸Y)
def nu(I:Jc X fx σ H s)(a:X.N.Nodup)(hi:X.N[i]?∣x)(b:Loc X.env.scope x)(r:aN v u)
 (h:∀s',Jc X fx (σ.set i (some v)) H s'->Q () s') (c:X.fn x=true\/X.env.scope.names.lookup x∣.local):wpAny M A (storeName X.env x u) Q E s:=
 yw I a hi b r (λs' d _=>h s' d) c
def Jc.call'(I:Jc X fx σ H s)(e:s'.os=s.os)(u:Un (frs X.stack) ch H H' s.heap s'.heap)(a:HOk X.prog X.w H' s'.heap)(f:AllBare s'.gens)
 (d:∀b∈ch,(b∈X.ex\/X.s₀.heap.objs.size<=b)/\b≠X.env.locals/\(∀x c,X.env.cells.lookup x∣c->c≠b)/\∀p∈X.pn++fx,p.1≠b):Jc X fx σ H' s':=by
 let%[h',g,h,t'|i]:=s';subst e;exact I.call u a f d
end
noncomputable abbrev XK:=Value->ZI->Hp->Prop
noncomputable abbrev St:=List (Option V)
noncomputable abbrev VK:=V->Hp->Prop
noncomputable abbrev TE:=St->Hp->VK->Prop
noncomputable abbrev TT:=St->Hp->(Bool->Hp->Prop)->Prop
noncomputable abbrev TA:=St->Hp->(List V->Hp->Prop)->Prop
structure jN where
 nx:St->Hp->Prop
 rt:VK
 bk:St->Hp->Prop:=λ_ _=>False
 ct:St->Hp->Prop:=λ_ _=>False
noncomputable abbrev TS:=jN->St->Hp->Prop
abbrev EP(X:Cx)(fx:ZE)(b:St)(Q:VK)(u:Value)(s':Shared):Prop:=∃v a,Jc X fx b a s'/\aN v u/\Q v a
abbrev TP(X:Cx)(fx:ZE)(c:St)(Q:Bool->Hp->Prop)(b:Bool)(s':Shared):Prop:=∃a,Jc X fx c a s'/\Q b a
abbrev AP(X:Cx)(fx:ZE)(b:St)(Q:List V->Hp->Prop)(us:ZF)(s':Shared):Prop:=∃vs a,Jc X fx b a s'/\aF vs us/\Q vs a
abbrev SP(X:Cx)(fx:ZE)(D:jN)(f:Flow)(s':Shared):Prop:=
 match f with
 | .next=>∃a b,Jc X fx a b s'/\D.nx a b
 | .brk=>∃a b,Jc X fx a b s'/\D.bk a b
 | .cont=>∃a b,Jc X fx a b s'/\D.ct a b
 | .ret u=>∃v a b,Jc X fx a b s'/\aN v u/\D.rt v b
abbrev PE(X:Cx)(e:Expr)(t:TE):Prop:=
 ∀fx s (a:St) H Q,Jc X fx a H s->t a H Q->(X⁻¹) (eval e X.env) (EP X fx a Q) X.xe s
abbrev PT(X:Cx)(e:Expr)(t:TT):Prop:=
 ∀fx s (a:St) H Q,Jc X fx a H s->t a H Q->(X⁻¹) (isTrue e X.env (eval e X.env)) (TP X fx a Q) X.xe s
abbrev PW(X:Cx)(e:Expr)(t:TT):Prop:=
 ∀a fx s (b:St) H Q,Jc X fx b H s->t b H Q->(X⁻¹) (isTrue e X.env a) (TP X fx b Q) X.xe s
def PW.pt{X:Cx}(h:PW X e t):PT X e t:=h _
abbrev PA(X:Cx)(b:List Expr)(t:TA):Prop:=
 ∀pos fx s (a:St) H Q,Jc X fx a H s->t a H Q->(X⁻¹) (spliced (backTo pos (starEach b X.env))) (AP X fx a Q) X.xe s
abbrev PS(X:Cx)(st:Stmt)(t:TS):Prop:=
 ∀fx s (a:St) H D,Jc X fx a H s->t D a H->(X⁻¹) (exec st X.env) (SP X fx D) X.xe s
abbrev PSs(X:Cx)(st:List Stmt)(t:TS):Prop:=
 ∀fx s (a:St) H D,Jc X fx a H s->t D a H->(X⁻¹) (execs st X.env) (SP X fx D) X.xe s
def thn{b:Type}{t:Sem b}{Q c:b->Shared->Prop}{M:Model}{A:Around}{E:ZD}{s:Shared}(h:wpAny M A t Q E s)(d:∀a s,Q a s->c a s):wpAny M A t c E s:=wpAny_mono h d λ_ _ x=>x
def thP{c d:Type}{t:Sem c}{X:Cx}{fx:ZE}{e:St}{R:d->c->Prop}{Q:d->Hp->Prop}{f:c->Shared->Prop}{M:Model}{A:Around}{E:ZD}{s:Shared}(h:wpAny M A t (λa s=>∃v b,Jc X fx e b s/\R v a/\Q v b) E s)(g:∀a s v b,Jc X fx e b s->R v a->Q v b->f a s):wpAny M A t f E s:=wpAny_mono h (λa s ⟨v,b,i,r,q⟩=>g a s v b i r q) λ_ _ x=>x
def thT{c:Type}{t:Sem c}{X:Cx}{fx:ZE}{d:St}{Q:c->Hp->Prop}{e:c->Shared->Prop}{M:Model}{A:Around}{E:ZD}{s:Shared}(h:wpAny M A t (λa s=>∃b,Jc X fx d b s/\Q a b) E s)(f:∀a s b,Jc X fx d b s->Q a b->e a s):wpAny M A t e E s:=wpAny_mono h (λa s ⟨b,i,q⟩=>f a s b i q) λ_ _ x=>x
section
variable{X:Cx}
abbrev asI(x:V)(f:Int->Prop):Prop:=match x with| .int i=>f i|_=>False
abbrev asB(x:V)(f:Bool->Prop):Prop:=match x with| .bl i=>f i|_=>False
abbrev asR(x:V)(f:Addr->Prop):Prop:=match x with| .ref i=>f i|_=>False
def GJ:asI (.int i) f=f i:=rfl
def GK:asB (.bl i) f=f i:=rfl
def GL:asR (.ref i) f=f i:=rfl
def iD{x:V}{f:Int->Prop}(h:asI x f):∃i,x= .int i/\f i:=by
 cases x<;> first|exact⟨_,rfl,h⟩|exact h.elim
def nv{x:V}{f:Bool->Prop}(h:asB x f):∃i,x= .bl i/\f i:=by
 cases x<;> first|exact⟨_,rfl,h⟩|exact h.elim
def e8{x:V}{f:Addr->Prop}(h:asR x f):∃i,x= .ref i/\f i:=by
 cases x<;> first|exact⟨_,rfl,h⟩|exact h.elim
def GM:asI x f=∃i,x= .int i/\f i:=propext %[iD|λ⟨_,e,q⟩=>by subst e;exact q]
def GN:asB x f=∃i,x= .bl i/\f i:=propext %[nv|λ⟨_,e,q⟩=>by subst e;exact q]
def GO:asR x f=∃i,x= .ref i/\f i:=propext %[e8|λ⟨_,e,q⟩=>by subst e;exact q]
abbrev pK:Nat->TE
 | 0,some v::_,H,Q=>Q v H
 | i+1,_::a,H,Q=>pK i a H Q
 | _,_,_,_=>False
def Ex:pK 0 (some v::a) H Q=Q v H:=rfl
def Ey:pK (i+1) (o::a) H Q=pK i a H Q:=rfl
def z8:∀{i:Nat} {a:St},pK i a H Q->∃v,a[i]?∣some v/\Q v H
 | 0,some v::_,h=>%[v,rfl|h]
 | 0,none::_,h=>h.elim
 | 0,[],h=>h.elim
 | _+1,[],h=>h.elim
 | i+1,_::a,h=>z8 (i:=i) h
abbrev tC(v:V):TE:=λ_ H Q=>Q v H
def z9(j:X.N[i]?∣x)(n:Vis X.env.scope x)(d:(x==("__debug__":Str))=false)(f:(x==("__classdict__":Str))=false):PE X (.Name x pos) (pK i):=by
 intro fx s o H Q I h;let%[v,e|h]:=z8 h;let%[m,p|q]:=I.loc;let%[u,r|l]:=q i x v j e n;let fin:EP X fx o Q u s:=%[v,H,I,r|h]
 rcases l with⟨b,t⟩|⟨b,c,g,a⟩
 .exact wpAny_Name (wpAny_loadName_local I.ok.kind b p t fin) d
 .rcases b with b|b
  .exact wpAny_Name (wpAny_loadName_cell I.ok.kind b g a fin) d
  .exact wpAny_Name (wpAny_loadName_free I.ok.kind b g a fin f) d
def Ez{i j pos}:PE X (.Constant (.int i) j pos) (tC (.int i)):=λ_ _ _ H _ I h=>wpAny_Constant_int %[.int i,H,I.tok _,%[_|rfl]|h]
def GP{b j pos}:PE X (.Constant (.bool b) j pos) (tC (.bl b)):=λ_ _ _ H _ I h=>Constant_bool %[.bl b,H,I,rfl|h]
def EA{j pos}:PE X (.Constant .none j pos) (tC .non):=λ_ _ _ H _ I h=>Constant_none %[.non,H,I,rfl|h]
def EB{x j pos}:PE X (.Constant (.str x) j pos) (tC (.str x)):=λ_ _ _ H _ I h=>Calls.Constant_str %[.str x,H,I.tok _,%[_|rfl]|h]
abbrev Gl(X:Cx)(x:Str):Prop:=X.env.kindOf x∣.globalImplicit
def rE(I:Jc X fx d H s)(a:Gl X x)(b:X.mg x∣u)(h:Q u s)
 (c:(x==("__debug__":Str))=false):(X⁻¹) (eval (.Name x pos) X.env) Q E s:=
 Calls.Name_function_global I.ok.kind a (Calls.loadGlobal_global (I.ok.glob▸I.mod.glob.keeps I.bk) b h) c
def jy(I:Jc X fx i H s)(a:Gl X x)(b:X.mg x=none)(c:bootBuiltins x∣u)(h:Q u s)
 (d:x≠"__name__":=by decide) (e:(x==("__debug__":Str))=false:=by decide):(X⁻¹) (eval (.Name x pos) X.env) Q E s:=by
 let%[j,f|g]:=I.mod.blt;exact Calls.Name_function_global I.ok.kind a (Calls.loadGlobal_builtin (I.ok.glob▸I.mod.glob.keeps I.bk) b (I.ok.blt▸f.keeps I.bk) ((g x d).trans c) h) e
def Cy(a:Gl X x)(b:X.mg x∣u)(r:aN v u)(c:(x==("__debug__":Str))=false):PE X (.Name x pos) (tC v):=
 λ_ _ _ H _ I h=>rE I a b %[v,H,I,r|h] c
def Cz(a:Gl X x)(b:X.mg x=none)(c:bootBuiltins x∣u)(r:aN v u)(d:x≠"__name__")(e:(x==("__debug__":Str))=false):PE X (.Name x pos) (tC v):=
 λ_ _ _ H _ I h=>jy I a b c %[v,H,I,r|h] d e
variable{a b:Expr}{ta tb:TE}{pos:Pos}
abbrev PC(X:Cx)(f:CmpOp)(a b:Expr)(t:TE):Prop:=
 ∀fx s (e:St) H Q,Jc X fx e H s->t e H Q->
  (X⁻¹) (eval a X.env) (λv c=>(X⁻¹) (eval b X.env) (λu d=>(X⁻¹) (compareOp f v u) (EP X fx e Q) X.xe d) X.xe c) X.xe s
def GQ(b:Expr)(h:c≠ .In)(f:c≠ .NotIn):behindInMarks c b=false:=by
 let d:(c==CmpOp.In)=false:=by lia
 let e:(c==CmpOp.NotIn)=false:=by lia
 cases b<;> simp[behindInMarks,d,e]
abbrev tB(t:TE):TT:=λd H Q=>t d H λx e=>asB x λc=>Q c e
def EC(h:PC X c a b t)(d:behindInMarks c b=false):PE X (.Compare a [c] [b] pos) t:=λfx s e H Q I hw=>wpAny_Compare1 (h fx s e H Q I hw) d
def Aa{e:CmpOp}(h:PC X e a b t)(f:behindInMarks e b=false):PT X (.Compare a [e] [b] pos) (tB t):=by
 intro fx s g H Q I hw;show wpAny_isTrue_Compare1 (thn (h fx s g H _ I hw) λv o f=>thn f λu p i=>thn i λc r ⟨x,j,l,m,n⟩=>?_) f;let%[d,rfl|q]:=nv n;cases m;exact wpAny_truthy_bool %[j,l|q]
def ED{e:Expr}(h:PE X e t)(f:∀c,isTrue e X.env c=(do let v<-c;standAt e.pos;holding [v] (truthy v))):PT X e (tB t):=by
 intro fx s g H Q I hw;show isTrue_plain (thP (h fx s g H _ I hw) λv n x i j l m=>?_) (f _);let%[d,rfl|q]:=nv m;cases l;exact wpAny_truthy_bool %[i,j|q]
variable{tA tB':TT}{rest:List Expr}
abbrev CA(t u:TT):TT:=λd H Q=>t d H λc e=>if c=true then u d e Q else Q false e
abbrev tOr(t u:TT):TT:=λd H Q=>t d H λc e=>if c=true then Q true e else u d e Q
abbrev EE(t:TT):TT:=λd H Q=>t d H λc e=>Q (!c) e
def CB(d:PT X a tA):PW X (.BoolOp .And [a] pos) tA:=by
 intro g fx s f H Q I h;show isTrue_and (thn (d fx s f H Q I h) λc i e=>?_);cases c with
 | true=>exact isTrue_and_nil e
 | false=>exact e
def EF(d:PT X a tA):PW X (.BoolOp .Or [a] pos) tA:=by
 intro g fx s f H Q I h;show isTrue_or (thn (d fx s f H Q I h) λc i e=>?_);cases c with
 | false=>exact isTrue_or_nil e
 | true=>exact e
def EG(i:PT X a tA)(j:PW X (.BoolOp .And (b::rest) pos) tB'):PW X (.BoolOp .And (a::b::rest) pos) (CA tA tB'):=by
 intro l fx s d H Q I h;show isTrue_and (thT (i fx s d H _ I h) λc m e f g=>?_);cases c with
 | true=>exact j l fx m d e Q f g
 | false=>exact%[e,f|g]
def GR(i:PT X a tA)(j:PW X (.BoolOp .Or (b::rest) pos) tB'):PW X (.BoolOp .Or (a::b::rest) pos) (tOr tA tB'):=by
 intro l fx s d H Q I h;show isTrue_or (thT (i fx s d H _ I h) λc m e f g=>?_);cases c with
 | true=>exact%[e,f|g]
 | false=>exact j l fx m d e Q f g
def EH(c:PT X a tA):PT X (.UnaryOp .Not a pos) (EE tA):=by
 intro fx s d H Q I h;exact isTrue_not (c fx s d H _ I h)
abbrev Ab(ta tb:TE):TE:=λd H Q=>ta d H λx e=>asB x λc=>if c=true then tb d e Q else Q (.bl false) e
abbrev EI(ta tb:TE):TE:=λd H Q=>ta d H λx e=>asB x λc=>if c=true then Q (.bl true) e else tb d e Q
def EJ{c}(h:PE X a t):PE X (.BoolOp c [a] pos) t:=λfx s d H Q I hw=>BoolOp_one (h fx s d H Q I hw)
def EK(i:PE X a ta)(j:PE X (.BoolOp .And (b::rest) pos) tb):PE X (.BoolOp .And (a::b::rest) pos) (Ab ta tb):=by
 intro fx s e H Q I h;show BoolOp_and (thP (i fx s e H _ I h) λv l x f g m d=>?_);let%[c,rfl|d]:=nv d;cases m;show wpAny_truthy_bool ?_;cases c with
 | true=>exact j fx l e f Q g d
 | false=>exact%[.bl false,f,g,ρ|d]
def GS(i:PE X a ta)(j:PE X (.BoolOp .Or (b::rest) pos) tb):PE X (.BoolOp .Or (a::b::rest) pos) (EI ta tb):=by
 intro fx s e H Q I h;show BoolOp_or (thP (i fx s e H _ I h) λv l x f g m d=>?_);let%[c,rfl|d]:=nv d;cases m;show wpAny_truthy_bool ?_;cases c with
 | false=>exact j fx l e f Q g d
 | true=>exact%[.bl true,f,g,ρ|d]
abbrev tIf(t:TT)(ta tb:TE):TE:=λd H Q=>t d H λc e=>if c=true then ta d e Q else tb d e Q
def Ac{c:Expr}(l:PT X c tA)(m:PE X a ta)(n:PE X b tb):PE X (.IfExp c a b pos) (tIf tA ta tb):=by
 intro fx s e H Q I h;show wpAny_IfExp (thT (l fx s e H _ I h) λd f g i j=>?_);cases d with
 | true=>exact m fx f e g Q i j
 | false=>exact n fx f e g Q i j
end
abbrev Jb(K:ZA)(H:Hp)(a:Addr)(xs:List V):Prop:=
 Rd H a (.lst xs)\/
  ∃o its n,K.lookup a∣o/\o.cls= .type "list"/\o.dict=none/\o.data= .seq its n/\its.size<=sizeLine/\aF xs its.toList
abbrev SqT(K:ZA)(H:Hp)(a:Addr)(xs:List V):Prop:=
 Rd H a (.tup xs)\/
  ∃o its n,K.lookup a∣o/\o.cls= .type "tuple"/\o.data= .seq its n/\its.size<=sizeLine/\aF xs its.toList
abbrev absV:Value->Option V
 | .none=>some .non
 | .bool b=>some (.bl b)
 | .int i _=>some (.int i)
 | .str x _=>some (.str x)
 | .bytes b _=>some (.byt b)
 | .float b _=>some (.flt b)
 | .ref a=>some (.ref a)
 | .type n=>some (.ty n)
 | _=>none
def aN.abs(r:aN x u):absV u∣x:=by
 cases x with
 | non=>cases r;rfl
 | bl _=>cases r;rfl
 | int _=>have%[t|rfl]:=r;rfl
 | str _=>have%[t|rfl]:=r;rfl
 | byt _=>have%[t|rfl]:=r;rfl
 | flt _=>have%[t|rfl]:=r;rfl
 | ref _=>cases r;rfl
 | ty _=>cases r;rfl
def aN.inj(r:aN x u)(q:aN y u):x=y:=Za (r.abs.symm.trans q.abs)
def aF.inj:∀{xs ys:List V} {us:ZF},aF xs us->aF ys us->xs=ys
 | _,_,_,.nil,.nil=>rfl
 | _,_,_,.cons r t,.cons a t'=>by rw[r.inj a,aF.inj t t']
section
#version
variable{a:Addr}{xs ys:List V}
def Jb.of{K:ZA}(h:H a<*xs):Jb K H a xs:= .inl (.inl h)
def SqT.of{K:ZA}(h:H a&&&xs):SqT K H a xs:= .inl (.inl h)
def Jc.list(I:Jc X fx σ H s)(h:Jb X.K H a xs):∃its:ZF,aF xs its/\PlainL s.heap a its.toArray/\ ~~~xs<=sizeLine:=by
 rcases h with h|⟨o,its,n,b,c,d,f,g,r⟩
 .let%[z,its,n,r|e]:=h.ok I.hok;exact%[its,r,%[_,n,e,ρ,ρ|ρ]|z]
 .show%[its.toList,r,%[o,n,I.kIn a o b,c,d|f]|?_];let e:= ~~~r
  simp_all
def Jc.tuple(I:Jc X fx σ H s)(h:SqT X.K H a xs):∃its:ZF,aF xs its/\IsTup s.heap a its.toArray/\ ~~~xs<=sizeLine:=by
 rcases h with h|⟨o,its,n,b,c,d,f,r⟩
 .let%[z,its,r|p]:=h.ok I.hok;exact%[its,r,p|z]
 .show%[its.toList,r,%[o,I.kIn a o b,c,n|d]|?_];let e:= ~~~r;simp only[Zb]at e
  lia
def Jc.list_inj(I:Jc X fx σ H s)(h:Jb X.K H a xs)(f:Jb X.K H a ys):xs=ys:=by
 let%[its,r,%[o,n,e,_,_|d]|_]:=I.list h;let%[its',g,%[j,l,b,_,_|c]|_]:=I.list f;rw[e]at b;cases b;rw[d]at c;injection c with i _
 let:=congrArg Array.toList i;subst this;exact r.inj g
def Jc.tuple_inj(I:Jc X fx σ H s)(h:SqT X.K H a xs)(f:SqT X.K H a ys):xs=ys:=by
 let%[its,r,%[o,e,_,n|d]|_]:=I.tuple h;let%[its',g,%[j,b,_,l|c]|_]:=I.tuple f;rw[e]at b;cases b;rw[d]at c;injection c with i _
 let:=congrArg Array.toList i;subst this;exact r.inj g
end
noncomputable abbrev Cx.wish(X:Cx)(E:ZD):Cx:={X with xe:=E}
noncomputable abbrev Cx.nox(X:Cx):Cx:=X.wish λ_ _=>False
def Cx.Ok.wish{X:Cx}(ok:X.Ok)(E:ZD):(X.wish E).Ok:=
 %[ok.mod,ok.kind,ok.glob,ok.blt,ok.above,ok.inj,ok.has,ok.cab,ok.hd,ok.frames,ok.stk,ok.exf,ok.bs,ok.bsz,ok.noex,ok.exfs,ok.funs|ok.frf]
def Cx.Ok.unwish{X:Cx}{E:ZD}(ok:(X.wish E).Ok):X.Ok:=
 %[ok.mod,ok.kind,ok.glob,ok.blt,ok.above,ok.inj,ok.has,ok.cab,ok.hd,ok.frames,ok.stk,ok.exf,ok.bs,ok.bsz,ok.noex,ok.exfs,ok.funs|ok.frf]
section
#version
variable{E:ZD}
def Jc.wish(I:Jc X fx σ H s)(E:ZD):Jc (X.wish E) fx σ H s:=%[I.ok.wish E,I.os,I.bare,I.base,I.loc,I.cell,I.free,I.freeC,I.pin,I.hok|I.len]
def Jc.unwish(I:Jc (X.wish E) fx σ H s):Jc X fx σ H s:=%[I.ok.unwish,I.os,I.bare,I.base,I.loc,I.cell,I.free,I.freeC,I.pin,I.hok|I.len]
def SP.unwish{D:jN}{f:Flow}{s':Shared}(h:SP (X.wish E) fx D f s'):SP X fx D f s':=by
 cases f with
 | next=>have%[a,b,I|q]:=h;exact%[a,b,I.unwish|q]
 | brk=>have%[a,b,I|q]:=h;exact%[a,b,I.unwish|q]
 | cont=>have%[a,b,I|q]:=h;exact%[a,b,I.unwish|q]
 | ret u=>have%[v,a,b,I,r|q]:=h;exact%[v,a,b,I.unwish,r|q]
def PSs.nox{st:List Stmt}(h:PSs X.nox st t):PSs X st t:=λfx s σ H D I hw=>
 wpAny_mono (h fx s σ H D (I.wish _) hw) (λ_ _ q=>q.unwish) λ_ _ z=>False.elim z
end
section
variable{X:Cx}{st:Stmt}{rest:List Stmt}{t u:TS}{e:Expr}{te:TE}{pos:Pos}
abbrev Ad:TS:=λD a H=>D.nx a H
abbrev a9(t u:TS):TS:=λD a H=>t {D with nx:=u D} a H
def CC:PSs X [] Ad:=λ_ _ a H _ I h=>wpAny_execs_nil %[a,H,I|h]
def Ae(b:PS X st t)(c:PSs X rest u):PSs X (st::rest) (a9 t u):=by
 intro fx s d H D I h;show wpAny_execs_cons (thn (b fx s d H _ I h) λf g q=>?_);cases f with
 | next=>
   let%[a,i,j|q]:=q;exact c fx g a i D j q
 | ret v=>exact q
 | brk=>exact q
 | cont=>exact q
def CD(a:PS X st t):PSs X [st] t:=by
 intro fx s b H D I h;show wpAny_execs_cons (thn (a fx s b H D I h) λf c q=>?_);cases f with
 | next=>exact wpAny_execs_nil q
 | ret v=>exact q
 | brk=>exact q
 | cont=>exact q
def Jc.quiet{fx:List _}{a:St}{H:Hp}{s:Shared}(I:Jc X fx a H s):interactive X.env=false:=by simp[interactive,I.ok.kind]
abbrev iE(te:TE):TS:=λD a H=>te a H λ_ b=>D.nx a b
def CF(b:PE X e te)(c:swapsWith e none pos.line X.env=pure false):PS X (.Expr e pos) (iE te):=by
 intro fx s a H D I h;exact wpAny_Expr_any (thP (b fx s a H _ I h) λv i x d f j g=>%[a,d,f|g]) I.quiet c
abbrev iB(te:TE):TS:=λD a H=>te a H D.rt
def EM(b:PE X e te):PS X (.Return (some e) pos) (iB te):=by
 intro fx s a H D I h;exact wpAny_Return_some (thP (b fx s a H _ I h) λv i x c d f g=>%[x,a,c,d,f|g])
abbrev mL(c:TT)(t u:TS):TS:=λD a H=>c a H λb d=>if b=true then t D a d else u D a d
def GT{c:Expr}{a b:List Stmt}(m:PT X c n)(o:PSs X a t)(p:PSs X b u):PS X (.If c a b pos) (mL n t u):=by
 intro fx s f H D I h;show wpAny_If (thT (m fx s f H _ I h) λd g i j l=>?_);cases d with
 | true=>exact o fx g f i D j l
 | false=>exact p fx g f i D j l
abbrev Af:TS:=λ_ _ _=>False
def Ag:PS X st Af:=λ_ _ _ _ _ _ h=>h.elim
end
noncomputable abbrev TG:=V->St->Hp->(St->Hp->Prop)->Prop
noncomputable abbrev TGs:=List V->St->Hp->(St->Hp->Prop)->Prop
abbrev PG(X:Cx)(a:Expr)(t:TG):Prop:=
 ∀fx s (c:St) H v u Q,Jc X fx c H s->aN v u->t v c H Q->
  (X⁻¹) (assign a X.env u) (λ_ s'=>∃b d,Jc X fx b d s'/\Q b d) X.xe s
abbrev PGs(X:Cx)(ts:List Expr)(t:TGs):Prop:=
 ∀fx s (b:St) H vs us Q,Jc X fx b H s->aF vs us->t vs b H Q->
  (X⁻¹) (assignInOrder ((assignEach ts X.env)\2) us) (λ_ s'=>∃a c,Jc X fx a c s'/\Q a c) X.xe s
section
variable{X:Cx}{pos:Pos}
abbrev jm(i:Nat):TG:=λv a H Q=>Q (a.set i (some v)) H
def CG(a:X.N.Nodup)(hi:X.N[i]?∣x)(b:Loc X.env.scope x)(c:X.fn x=true\/X.env.scope.names.lookup x∣.local):PG X (.Name x pos) (jm i):=by
 intro fx s e H v u Q I r h;exact wpAny_assign_Name (nu I a hi b r (λs' d=>%[_,H,d|h]) c)
abbrev EN:TGs:=λvs a H Q=>vs=[]/\Q a H
abbrev Ah(t:TG)(u:TGs):TGs:=λvs b H Q=>∃v r,vs=v::r/\t v b H λa c=>u r a c Q
def CH:PGs X [] EN:=by
 intro fx s a H vs us Q I r h;let%[e|h]:=h;exact assignInOrder_nil %[a,H,I|h]
def Ai{e:Expr}{u:TGs}(c:PG X e t)(d:PGs X a u)
 (f:(assignEach (e::a) X.env)\2=assign e X.env::(assignEach a X.env)\2):PGs X (e::a) (Ah t u):=by
 intro fx s g H vs us Q I r h;let%[v,o,i|h]:=h;subst i;cases r with
 | cons r rr=>
   rw[f];exact assignInOrder_cons (thn (c fx s g H _ _ _ I r h) λ_ j ⟨b,l,m,n⟩=>d fx j b l _ _ Q m rr n)
abbrev Aj(K:ZA)(n:Nat)(t:TGs):TG:=λv b H Q=>asR v λa=>∃xs,SqT K H a xs/\ ~~~xs=n/\t xs b H Q
def EO(g:X.calm=true)(h:PGs X c t)
 (i: ~~~(assignEach c X.env)=n) (d:(assignEach c X.env).findIdx? (·.1)=none):PG X (.Tuple c k pos) (Aj X.K n t):=by
 intro fx s j H v u Q I r hw;let%[a,l,xs,m,p|hw]:=e8 hw;clear ‹Aj _ _ _ _ _ _ _›;subst l;cases r;let%[its,f,q|y]:=I.tuple m;exact assign_Tuple_tuple (I.ok.hd g) q (by simp[i,<-p,~~~f]) d λz w=>h fx _ j H xs _ Q (I.kept λb o e=>w b o (Zs (Zu e)) e) (f) hw
abbrev rF(b:TE)(g:TG):TS:=λD a H=>b a H λx c=>g x a c D.nx
def EQ{a e:Expr}{g:TG}(c:PE X e d)(f:PG X a g)(i:swapsWithSole [a] e pos.line X.env=pure false)(hw:swappedStores [a] e X.env=pure none)
 (j:(assignEach [a] X.env)\2=[assign a X.env]):PS X (.Assign [a] e pos) (rF d g):=by
 intro fx s b H D I h;show wpAny_Assign_stores (thP (c fx s b H _ I h) λv l x m n o p=>?_) i hw;rw[j];exact thn (f fx l b m x v _ n o p) λ_ r q=>q
def Ak{i:Nat}{x:Str}{e:Expr}(b:X.N.Nodup)(hi:X.N[i]?∣x)(c:Loc X.env.scope x)(d:PE X e f)(g:swapsWith e (some (.Name x a)) pos.line X.env=pure false)(j:X.fn x=true\/X.env.scope.names.lookup x∣.local):
 PS X (.Assign [.Name x a] e pos) (rF f (jm i)):=by
 intro fx s l H D I h;exact wpAny_Assign_Name (thP (d fx s l H _ I h) λv r y m n o p=>nu n b hi c o (λt q=>%[_,m,q|p]) j) g
abbrev Al(c:TT)(h:TS):TS:=λD a H=>∃W:Nat->St->Hp->Prop,(∃m,W m a H)/\∀m a H,W m a H->
 c a H λb e=>if b=true then∃N:St->Hp->Prop,(∀d f,N d f->∃g,g<m/\W g d f)/\h {D with nx:=N,ct:=N,bk:=D.nx} a e else D.nx a e
def Am(u:PassesOwn (model X.prog X.w) X.A X.env X.xe)(C:PT X c E)(G:PSs X e J):PS X (.While c e [] pos) (Al E J):=by
 intro fx s L H D I h;let%[W,%[M|O]|g]:=h;show wpAny_While (codeAny_whileLoop (λn s'=>∃i w,Jc X fx i w s'/\W n i w) ?_ M %[L,H,I|O]);intro n Q %[d,y,T|U];show wpAny_passesOwn u (thT (C fx Q d y _ T (g n d y U)) λb Y z A l=>?_);cases b with
 | true=>
   let%[N,B|l]:=l;show wpAny_passesOwn u (thn (G fx Y d z _ A l) λf s3 m=>?_);cases f with
   | next=>
     let%[a,j,o|p]:=m;let%[q,r|t]:=B a j p;exact%[q,r,a,j,o|t]
   | cont=>
     let%[a,j,o|p]:=m;let%[q,r|t]:=B a j p;exact%[q,r,a,j,o|t]
   | brk=>exact m
   | ret v=>exact m
 | false=>
   exact wpAny_execs_nil %[d,z,A|l]
end
structure It where
 go:Nat->Hp->Prop
 yld:Nat->Hp->V->Hp->Prop
 stop:Nat->Hp->Prop
abbrev mM(X:Cx)(fx:ZE)(H:Hp)(b:Addr):Prop:=
 H b=none/\b≠X.env.locals/\b∉X.fs/\(b∈X.ex\/X.s₀.heap.objs.size<=b)/\(∀x c,X.env.cells.lookup x∣c->c≠b)/\∀p∈X.pn++fx,p.1≠b
def Jc.fpOk{X:Cx}(I:Jc X fx h H s)(a:⇑s<=b)(d:f b=none):mM X fx f b:=by
 show%[d,Yv (Zg I.lt a),I.nofs a,.inr (Nat.le_trans I.sz a),λx c e z=>?_|λp g z=>?_]
 .let%[v|q]:=I.cell x c e;exact absurd (Zg q.lt (z▸a)) (Xf _)
 .exact absurd (Zg (Zu (I.pin p g).1) (z▸a)) (Xf _)
structure ny (P:Program) (w:World) (K:ZA) (tg:Expr) (J:It) (fp:List Addr) (it:Addr) (tn:Nat->Heap->Prop):Prop where
 mem:it∈fp
 obj:∀i h,tn i h->∀b∈fp,∃o,h.get? b∣o/\∀v,o.data≠ .cell v
 keep:∀i h h',tn i h->(∀b∈fp,∀o,h.get? b∣o->h'.get? b∣o)->tn i h'
 item:∀(X:Cx),X.prog=P->X.w=w->X.K=K->X.calm=true->∀i (fx:ZE) s (σ:St) H (E:ZD),Jc X fx σ H s->(∀b∈fp,mM X fx H b)->tn i s.heap->J.go i H->
  wpAny (model P w) X.A (pyNext (.ref it)) (λr s1=>∃u,r∣u/\
   wpAny (model P w) X.A (letOwnedTupleGo tg (.ref it) u) (λ_ s2=>∃x H',Jc X fx σ H' s2/\aN x u/\J.yld i H x H'/\tn (i+1) s2.heap/\∀b∈fp,H' b=none) E s1) E s
 done:∀X,X.prog=P->X.w=w->X.K=K->X.calm=true->∀i fx s (σ:St) H E,Jc X fx σ H s->(∀b∈fp,mM X fx H b)->tn i s.heap->J.stop i H->
  wpAny (model P w) X.A (pyNext (.ref it)) (λr s1=>r=none/\Jc X fx σ H s1) E s
 self:∀A i s Q E,tn i s.heap->Q (.ref it) s->wpAny (model P w) A (pyIter (.ref it)) Q E s
noncomputable abbrev TI:=St->Hp->(It->Hp->Prop)->Prop
abbrev PIE(X:Cx)(fx:ZE)(g:St)(h:Expr)(R:It->Hp->Prop)(a:Value)(d:Shared):Prop:=
 ∃it e f J c,a= .ref it/\Jc X fx g c d/\ny X.prog X.w X.K h J e it f/\f 0 d.heap/\(∀b∈e,mM X fx c b)/\R J c
abbrev PI(X:Cx)(b cf:Expr)(c:TI):Prop:=
 ∀fx s (a:St) H R,Jc X fx a H s->c a H R->
  (X⁻¹) (eval cf X.env) (λv d=>(X⁻¹) (pyIter v) (PIE X fx a b R) X.xe d) X.xe s
def qe(b:s.heap.get? it∣o)(c:o.cls= .type n)(d:o.data= .fields vs)
 (e:["enumerate","zip","dict_itemiterator","dict_reverseitemiterator","odict_iterator","itertools.zip_longest","itertools.pairwise"].contains n=false) (a:Q () s):wpAny M A (letOwnedTupleGo f (.ref it) u) Q E s:=by
 cases f<;> first
  | exact Z3 a
  |(cases u<;> first
   | exact Z3 a
   |(show Z2 (wpAny_load b ?_)
     rw[c,d];change wpAny M A (if(["enumerate","zip","dict_itemiterator","dict_reverseitemiterator","odict_iterator","itertools.zip_longest","itertools.pairwise"].contains n&&vs[0]? ==some _)=true then _ else _) Q E s;rw[if_neg (by intro h;rw[e,Bool.false_and]at h;cases h)];exact Z3 a))
abbrev Itl(K:ZA)(a:Addr):It:=
 ⟨λi H=>∃xs x,Jb K H a xs/\xs[i]?∣x,λi H x b=>b=H/\∀xs,Jb K H a xs->xs[i]?∣x,λi H=>∃xs,Jb K H a xs/\ ~~~xs<=i⟩
abbrev Itt(K:ZA)(a:Addr):It:=
 ⟨λi H=>∃xs x,SqT K H a xs/\xs[i]?∣x,λi H x b=>b=H/\∀xs,SqT K H a xs->xs[i]?∣x,λi H=>∃xs,SqT K H a xs/\ ~~~xs<=i⟩
abbrev Itr(lo:Int)(n:Nat):It:=%[λi _=>i<n,λi H x a=>a=H/\x= .int (lo+i)|λi _=>n<=i]
def qf{P:Program}{K:ZA}(a it:Addr):ny P w K tg (Itl K a) [it] it (λi h=>h.IsListIter it a i) where
 mem:=by simp
 obj:=λi h st b hb=>by
  let e:=↑hb
  subst e;let%[o,e,c|d]:=st;exact%[o,e|λv z=>by rw[d]at z;cases z]
 keep:=λi h h' st k=>st.at λo e=>k it ∅ o e
 item:=by
  intro X hP hw hK hc i fx s σ H E I hf st hg;subst hP hw hK;let%[xs,x,hq|hx]:=hg;let%[its,rv,p|hz]:=I.list hq;let%[u,hu|ru]:=rv.get hx;let%[f0,f1,f2,f3,f4|f5]:=hf it ∅;show wpAny_pyNext_list_item st p.isList ↑hu λh' st' sb=>?_
  let%[o,e,c|d]:=id st';exact%[u,ρ|qe e c d (!1) %[x,H,(I.turned (λb o hb e=>(sb.2 b hb).trans e) f0 f1 f3 f4 f5),ru,%[ρ|λys hy=>(I.list_inj hy hq)▸hx],st'|λb hb=>(hf b hb).1]]
 done:=by
  intro X hP hw hK hc i fx s σ H E I hf st hg;subst hP hw hK;let%[xs,hq|hx]:=hg;let%[its,rv,p|hz]:=I.list hq;let%[f0,f1,f2,f3,f4|f5]:=hf it ∅;let hl:= ~~~rv;exact wpAny_pyNext_list_end (I.ok.hd hc) st p.isList (by simp;lia) λh' eb=>%[rfl|I.turned (λb o hb e=>eb b o hb e) f0 f1 f3 f4 f5]
 self:=λ_ _ _ _ _ st h=>wpAny_pyIter_listiter st h
def vU{P:Program}{K:ZA}(a it:Addr):ny P w K tg (Itt K a) [it] it (λi h=>h.IsTupleIter it a i) where
 mem:=by simp
 obj:=λi h st b hb=>by
  let e:=↑hb
  subst e;let%[o,e,c|d]:=st;exact%[o,e|λv z=>by rw[d]at z;cases z]
 keep:=λi h h' st k=>st.at λo e=>k it ∅ o e
 item:=by
  intro X hP hw hK hc i fx s σ H E I hf st hg;subst hP hw hK;let%[xs,x,hq|hx]:=hg;let%[its,rv,p|hz]:=I.tuple hq;let%[u,hu|ru]:=rv.get hx;let%[f0,f1,f2,f3,f4|f5]:=hf it ∅;show wpAny_pyNext_tuple_item st (p) ↑hu λh' st' sb=>?_
  let%[o,e,c|d]:=id st';exact%[u,ρ|qe e c d (!1) %[x,H,(I.turned (λb o hb e=>(sb.2 b hb).trans e) f0 f1 f3 f4 f5),ru,%[ρ|λys hy=>(I.tuple_inj hy hq)▸hx],st'|λb hb=>(hf b hb).1]]
 done:=by
  intro X hP hw hK hc i fx s σ H E I hf st hg;subst hP hw hK;let%[xs,hq|hx]:=hg;let%[its,rv,p|hz]:=I.tuple hq;let%[f0,f1,f2,f3,f4|f5]:=hf it ∅;let hl:= ~~~rv;exact wpAny_pyNext_tuple_end (I.ok.hd hc) st (p) (by simp;lia) λh' eb=>%[rfl|I.turned (λb o hb e=>eb b o hb e) f0 f1 f3 f4 f5]
 self:=λ_ _ _ _ _ st h=>wpAny_pyIter_tupleiter st h
def vV{P:Program}{K:ZA}(it:Addr)(lo:Int)(n:Nat):ny P w K tg (Itr lo n) [it] it (λi h=>IsRangeIter h it (lo+(i:Nat)*1) ((n:Int) -(i:Nat)) 1) where
 mem:=by simp
 obj:=λi h st b hb=>by
  simp_all
 keep:=λi h h' st k=>k it ∅ _ st
 item:=by
  intro X hP hw hK hc i fx s σ H E I hf st hg;subst hP hw hK;let%[f0,f1,f2,f3,f4|f5]:=hf it ∅;show(Walks.range (prog:=X.prog) (w:=X.w) (I.ok.hd hc) it lo 1 n).item i s _ _ hg st λv h' tk hv st' kk=>?_
  let%[t|rfl]:=hv;show%[_,ρ|qe st' rfl rfl (!1) %[.int _,H,(I.turned (λb o hb e=>kk b o ↑hb e) f0 f1 f3 f4 f5),%[t|?_],%[ρ|ρ],st'|λb hb=>(hf b hb).1]];rw[Int.mul_one]
 done:=by
  intro X hP hw hK hc i fx s σ H E I hf st hg;let%[f0,f1,f2,f3,f4|f5]:=hf it ∅;exact wpAny_pyNext_range_end (I.ok.hd hc) st (by let:n<=i:=hg;lia) λh' eb=>%[rfl|I.turned (λb o hb e=>eb b o hb e) f0 f1 f3 f4 f5]
 self:=λ_ _ _ _ _ st h=>wpAny_pyIter_rangeiter st h
section
variable{X:Cx}{tg:Expr}
def An{R:It->Hp->Prop}{lo hi:Int}(I:Jc X fx c H s)(d: -(2^62)<=lo)(f:lo<2^62)(g: -(2^62)<=hi)(h:hi<2^62)
 (q:R (Itr lo (hi-lo).toNat) H):(X⁻¹) (pyIter (.ref ⇑s)) (PIE X fx c tg R) E {s with heap:=s.heap.push {cls:= .type "range",data:= .fields #[.int lo t,.int hi u,.int 1 v]},toks:=tk}:=by
 show wpAny_pyIter_range (IsRange.new ..) (small_one d f g h) ?_;let a:Jc X fx c H {s with heap:=s.heap.push {cls:= .type "range",data:= .fields #[.int lo t,.int hi u,.int 1 v]},toks:=tk}:=I.kept λb o e=>Z7 _ e
 show%[(s.heap.push _).objs.size,[(s.heap.push _).objs.size],_,_,H,ρ,
  a.kept λb o e=>Z7 _ e,vV _ lo _,?_,λb i=>?_|q]
 .let j:lo+((0:Nat))*1=lo:=by simp
  let l:(((hi-lo).toNat)) -((0:Nat))=Builtin.Range.rangeSize lo hi 1:=by rw[rangeSize_one];split<;> lia
  rw[j,l];exact Zj _ rfl
 .let e:b=(s.heap.push {cls:= .type "range",data:= .fields #[.int lo t,.int hi u,.int 1 v]}).objs.size:=↑i
  subst e;exact a.fpOk (Zi _) (a.hok.fresh (Zi _))
abbrev Ao(a:TA):TI:=λb H R=>a b H λvs c=>∃j:Int,vs=[.int j]/\ -(2^62)<=j/\j<2^62/\R (Itr 0 j.toNat) c
def yx{a:Expr}(c:Gl X "range")(d:X.mg "range"=none)(f:PA X [a] g)(i:starEach [a] X.env=[(false,eval a X.env)]):PI X tg (.Call (.Name "range" p) [a] [] pos) (Ao g):=by
 intro fx s l H R I h;show Call_ (jy I c d boot_range (PyProof.Rows.callWith_type1 (thP (f pos fx s l H _ I h) λus u vs v m n b=>?_) i rfl));let%[j,e,b,o|q]:=b;subst e;cases n with
 | cons r rr=>
   cases rr;let%[t|rfl]:=r;exact call_range_1 (An m ⋯ ⋯ b o ↑q)
abbrev Ap(f:TI)(g:TG)(h:TS):TS:=λD a H=>f a H λJ j=>∃W:Nat->Nat->St->Hp->Prop,(∃m,W 0 m a j)/\∀i m a H,W i m a H->
 (J.stop i H/\D.nx a H)\/(J.go i H/\∃N:St->Hp->Prop,(∀b c,N b c->∃e,e<m/\W (i+1) e b c)/\∀x c,J.yld i H x c->g x a c λd l=>h {D with nx:=N,ct:=N,bk:=D.nx} d l)
abbrev rG(a:List Addr)(h:Heap):ZE:=a.filterMap λb=>(h.get? b).map λo=>(b,o)
def eI(a:b∈c)(e:h.get? b∣o):(b,o)∈rG c h:=mem_filterMap.mpr %[b,a|by rw[e];rfl]
def yy(a:p∈rG c h):p.1∈c/\h.get? p.1∣p.2:=by
 let%[b,d|e]:=mem_filterMap.mp a;cases q:h.get? b with
 | none=>simp_all
 | some o=>
   rw[q]at e;let f:=Za e;subst f;exact%[d|q]
def Jc.pinned(I:Jc X fx g H s)(h:∀b∈a,mM X fx H b)(i:∀b∈a,∃o,s.heap.get? b∣o/\∀v,o.data≠ .cell v):Jc X (fx++rG a s.heap) g H s:=
 I.pins_of λp j=>(Xi j).elim (λz=>I.pin p (Yq _ z)) λz=>by
  let%[c|e]:=yy z;let%[l,m,n|_]:=h p.1 c;let%[o,f|d]:=i p.1 c;rw[e]at f;cases f;exact%[e,l,m,n|d]
def Jc.unpinned(I:Jc X (fx++pl) a H s):Jc X fx a H s:=I.pins_of λp b=>I.pin p (Yq _ (Yp _ b))
def ER(A:PassesOwn (model X.prog X.w) X.A X.env X.xe)(hc:X.calm=true)(hi:PI X tg cf wi)(hg:PG X tg g)(c:PSs X B tb)
 (hs:∀x,foldedSetIterable cf X.env x=pure x):PS X (.For tg cf B [] pos) (Ap wi g tb):=by
 intro fx s σ H D I h;show wpAny_For (thn (hi fx s σ H _ I h) λv s1 h1=>thn h1 λac s2 h2=>?_) hs;let%[it,M,tn,J,H2,e,I2,T,Q,f2,W,%[m0|w0]|C]:=h2;subst e;let j:∀{w:Hp},(∀b∈M,w b=none)->∀b∈M,mM X fx w b:=λhn b c=>%[hn b c|(f2 b c).2]
 show codeAny_forLoop_any (λn s'=>∃i l w,Jc X fx l w s'/\tn i s'.heap/\(∀b∈M,w b=none)/\W i n l w) ?_ m0 %[0,σ,H2,I2,Q,λb c=>(f2 b c).1|w0];intro n s3 %[i,p,O,I3,E,G|w3];rcases C i n p O w3 with⟨stop,qn⟩|⟨go,N,hN,step⟩
 .show wpAny_passesOwn A (thn (T.done X rfl rfl rfl hc i fx s3 p O X.xe I3 (j G) E stop) λr s4 ⟨U,I4⟩=>?_);subst U;exact wpAny_execs_nil %[p,O,I4|qn]
 .show wpAny_passesOwn A (thn (T.item X rfl rfl rfl hc i fx s3 p O X.xe I3 (j G) E go) λr s4 ⟨u,U,h4⟩=>?_);subst U;show wpAny_passesOwn A (thn h4 λ_ s5 ⟨x,H5,I5,r5,y5,z,Y⟩=>wpAny_passesOwn A (thn (hg _ s5 p H5 x u _ (I5.pinned (j Y) (T.obj _ _ z)) r5 (step x H5 y5)) λ_ s6 ⟨ab,H6,I6,q6⟩=>wpAny_passesOwn A (thn (c _ s6 ab H6 _ I6 q6) λf s7 y=>?_)));let again:∀{a:St} {q:Hp},Jc X _ a q s7->N a q->∃m,m<n/\∃i l w,Jc X fx l w s7/\tn i s7.heap/\(∀b∈M,w b=none)/\W i m l w:=λ{a q} t L=>by
   let%[m',hm|w7]:=hN a q L;show%[m',hm,i+1,a,q,t.unpinned,T.keep _ _ _ z λb c o e=>(t.pin _ (Yq _ (Yq _ (eI c e)))).1,λb c=>?_|w7];let%[o,e|d]:=T.obj _ _ z b c;exact(t.pin _ (Yq _ (Yq _ (eI c e)))).2.1
  cases f with
  | next=>have%[a,q,t|L]:=y;exact again t L
  | cont=>have%[a,q,t|L]:=y;exact again t L
  | brk=>have%[a,q,t|y]:=y;exact%[a,q,t.unpinned|y]
  | ret v=>have%[x7,a,q,t,r7|y]:=y;exact%[x7,a,q,t.unpinned,r7|y]
end
def iF{K:ZA}{g:TG}{l:TS}{D:jN}(Pv:Nat->St->Hp->Prop)(o:Pv 0 b H)(r:∀i b H,i<= ~~~xs->Pv i b H->Jb K H a xs)
 (s:∀i x b H,xs[i]?∣x->Pv i b H->g x b H λc h=>l {D with nx:=Pv (i+1),ct:=Pv (i+1),bk:=D.nx} c h) (t:∀b H,Pv xs.length b H->D.nx b H):
 ∃W:Nat->Nat->St->Hp->Prop,(∃m,W 0 m b H)/\∀i m b H,W i m b H->
  ((Itl K a).stop i H/\D.nx b H)\/((Itl K a).go i H/\∃N:St->Hp->Prop,(∀d f,N d f->∃n,n<m/\W (i+1) n d f)/\∀x f,(Itl K a).yld i H x f->g x b f λc h=>l {D with nx:=N,ct:=N,bk:=D.nx} c h):=by
 show%[λi m b H=>m= ~~~xs-i/\i<= ~~~xs/\Pv i b H,%[~~~xs,by simp,Xa _|o]|?_];intro i m b H %[rfl,hi|p];let q:=r i b H hi p;by_cases j:i< ~~~xs
 .show .inr %[%[xs,xs[i],q|by simp],Pv _,λd f u=>%[~~~xs-(i+1),⋯,rfl,j|u]|λx f y=>?_];let%[e|y]:=y;subst e;exact s i x b _ (y xs q) p
 .let e:i= ~~~xs:=by lia
  subst e;exact .inl %[%[xs,q|Zi _]|t b H p]
def eA{lo:Int}{g:TG}{j:TS}{D:jN}(Pv:Nat->St->Hp->Prop)(o:Pv 0 a H)
 (q:∀i a H,i<n->Pv i a H->g (.int (lo+i)) a H λb h=>j {D with nx:=Pv (i+1),ct:=Pv (i+1),bk:=D.nx} b h) (r:∀a H,Pv n a H->D.nx a H):
 ∃W:Nat->Nat->St->Hp->Prop,(∃m,W 0 m a H)/\∀i m a H,W i m a H->
  ((Itr lo n).stop i H/\D.nx a H)\/((Itr lo n).go i H/\∃N:St->Hp->Prop,(∀c d,N c d->∃l,l<m/\W (i+1) l c d)/\∀x d,(Itr lo n).yld i H x d->g x a d λb h=>j {D with nx:=N,ct:=N,bk:=D.nx} b h):=by
 show%[λi m a H=>m=n-i/\i<=n/\Pv i a H,%[n,by simp,Xa _|o]|?_];intro i m a H %[rfl,hi|p];by_cases f:i<n
 .show .inr %[f,Pv _,λc d s=>%[n-(i+1),⋯,rfl,f|s]|λx d y=>?_];let%[e|y]:=y;subst e y;exact q i a _ f p
 .let e:i=n:=by lia
  subst e;exact .inl %[Zi _|r a H p]
noncomputable abbrev R2:=V->V->Hp->VK->Prop
abbrev OpR(X:Cx)(f:Value->Value->Sem Value)(r:R2):Prop:=
 ∀fx s (a:St) H x y v u Q,Jc X fx a H s->aN x v->aN y u->r x y H Q->
  (X⁻¹) (f v u) (EP X fx a Q) X.xe s
abbrev UnR(X:Cx)(f:Value->Sem Value)(r:V->Hp->VK->Prop):Prop:=
 ∀fx s (a:St) H x v Q,Jc X fx a H s->aN x v->r x H Q->
  (X⁻¹) (f v) (EP X fx a Q) X.xe s
abbrev cD(X:Cx)(f:Value)(r:List V->Hp->VK->Prop):Prop:=
 ∀fx s (a:St) H xs us Q,Jc X fx a H s->aF xs us->r xs H Q->
  (X⁻¹) (call f us) (EP X fx a Q) X.xe s
abbrev TruR(X:Cx)(r:V->Hp->(Bool->Hp->Prop)->Prop):Prop:=
 ∀fx s (a:St) H x v Q,Jc X fx a H s->aN x v->r x H Q->
  (X⁻¹) (truthy v) (TP X fx a Q) X.xe s
abbrev tOp(r:R2)(b c:TE):TE:=λa H Q=>b a H λx d=>c a d λy e=>r x y e Q
abbrev tUn(r:V->Hp->VK->Prop)(a:TE):TE:=λb H Q=>a b H λx c=>r x c Q
abbrev rI(C:Int->Int->Prop)(g:Int->Int->V):R2:=λx y H Q=>asI x λi=>asI y λj=>C i j/\Q (g i j) H
abbrev rI0(g:Int->Int->V):R2:=λx y H Q=>asI x λi=>asI y λj=>Q (g i j) H
abbrev rU(g:Int->V):V->Hp->VK->Prop:=λx H Q=>asI x λi=>Q (g i) H
section
variable{X:Cx}{a b c:Expr}{ta tb tc:TE}{pos:Pos}
def ES(m:PE X a ta)(n:PE X b tb){fx:List _}{s:Shared}{d:St}{H:Hp}{R:V->V->Hp->Prop}(I:Jc X fx d H s)
 (h:ta d H λx l=>tb d l λy e=>R x y e) {Q:ZD} {f:Value->Value->Sem Value}
 (o:∀v u j x y e,Jc X fx d e j->aN x v->aN y u->R x y e->(X⁻¹) (f v u) Q X.xe j):
 (X⁻¹) (eval a X.env) (λv g=>(X⁻¹) (eval b X.env) (λu i=>(X⁻¹) (f v u) Q X.xe i) X.xe g) X.xe s:=by
 exact thP (m fx s d H _ I h) λv p x l q r t=>thP (n fx p d l _ q t) λu j y e w z A=>o v u j x y e w r z A
def GU{r:R2}(d:OpR X (binaryOp e) r)(f:PE X a ta)(g:PE X b tb):PE X (.BinOp a e b pos) (tOp r ta tb):=by
 intro fx s i H Q I h;exact wpAny_BinOp (ES f g I h λv u j x y l m n o q=>d fx j i l x y v u Q m n o q)
def GV(e:UnR X (unaryOp f) r)(g:PE X a ta):PE X (.UnaryOp f a pos) (tUn r ta):=by
 intro fx s d H Q I h;exact UnaryOp_ (thP (g fx s d H _ I h) λv i x j l m n=>e fx i d j x v Q l m n)
def opI{f:Value->Value->Sem Value}{C:Int->Int->Prop}{g:Int->Int->Int}
 (rule:∀i j t u s Q E,C i j->Q (.int (g i j) s.toks) {s with toks:=s.toks+1}->(X⁻¹) (f (.int i t) (.int j u)) Q E s):
 OpR X f (rI C λi j=> .int (g i j)):=by
 intro fx s n H x y v u Q I d e h;let%[i,rfl|l]:=iD h;let%[j,rfl,m|q]:=iD l;let%[t|rfl]:=d;let%[t'|rfl]:=e;exact rule i j t t' s _ _ m %[.int _,H,I.tok _,%[_|rfl]|q]
def GW{g:Int->Int->Int}
 (rule:∀(i j:Int) (t u:Tok) (s:Shared) (Q:ZD) (E:ZD),Q (.int (g i j) s.toks) {s with toks:=s.toks+1}->(X⁻¹) (f (.int i t) (.int j u)) Q E s):
 OpR X f (rI0 λi j=> .int (g i j)):=by
 intro fx s m H x y v u Q I d e h;let%[i,rfl|l]:=iD h;let%[j,rfl|q]:=iD l;let%[t|rfl]:=d;let%[t'|rfl]:=e;exact rule i j t t' s _ _ %[.int _,H,I.tok _,%[_|rfl]|q]
def ET{g:Int->Int->Bool}
 (rule:∀(i j:Int) (t u:Tok) (s:Shared) (Q:ZD) (E:ZD),Q (.bool (g i j)) s->(X⁻¹) (f (.int i t) (.int j u)) Q E s):
 OpR X f (rI0 λi j=> .bl (g i j)):=by
 intro fx s m H x y v u Q I d e h;let%[i,rfl|l]:=iD h;let%[j,rfl|q]:=iD l;let%[t|rfl]:=d;let%[t'|rfl]:=e;exact rule i j t t' s _ _ %[.bl _,H,I,rfl|q]
abbrev GX(i j:Int):Prop:=0<j/\j<1073741824
abbrev Aq(i j:Int):Prop:=(-(2^64)<i/\i<2^64)\/(-(2^64)<j/\j<2^64)
def Aq.ok{i j:Int}(h:Aq i j):IntMulOk i j:=by
 rcases h with⟨d,e⟩|⟨d,e⟩
 .exact .of_left (intBits_le_64 d e)
 .exact .of_right (intBits_le_64 d e)
def EU:OpR X (binaryOp .Add) (rI0 λi j=> .int (i+j)):=GW λ_ _ _ _ _ _ _ q=>add_int q
def EV:OpR X (binaryOp .Sub) (rI0 λi j=> .int (i-j)):=GW λ_ _ _ _ _ _ _ q=>sub_int q
def Ar:OpR X (binaryOp .Mult) (rI Aq λi j=> .int (i*j)):=opI λ_ _ _ _ _ _ _ d q=>mul_int q d.ok
def CI:OpR X (binaryOp .FloorDiv) (rI GX λi j=> .int (i/j)):=opI λi j _ _ _ _ _ d q=>by
 let e:(0:Int)<j:=d.1;let f:j<1073741824:=d.2;exact floordiv_int ⋯ (by rw[Int.fdiv_eq_ediv_of_nonneg i ⋯];exact q) (.inl (PyProof.noPylong_small ⋯))
def EW:OpR X (binaryOp .Mod) (rI (λ_ j=>0<j) λi j=> .int (i%j)):=opI λi j _ _ _ _ _ d q=>by
 let e:(0:Int)<j:=d;exact mod_int' ⋯ (by rw[Int.fmod_eq_emod_of_nonneg i ⋯];exact q)
def unI{g:Int->Int}
 (rule:∀(i:Int) (t:Tok) (s:Shared) (Q:ZD) (E:ZD),Q (.int (g i) s.toks) {s with toks:=s.toks+1}->(X⁻¹) (f (.int i t)) Q E s):
 UnR X f (rU λi=> .int (g i)):=by
 intro fx s e H x v Q I d h;let%[i,rfl|q]:=iD h;let%[t|rfl]:=d;exact rule i t s _ _ %[.int _,H,I.tok _,%[_|rfl]|q]
def EX:UnR X (unaryOp .USub) (rU λi=> .int (-i)):=unI λ_ _ _ _ _ q=>neg_int q
end
abbrev EY(x y:V):Bool:=match x with
 | .non=>(match y with| .non=>true| .int _=>true| .bl _=>true| .str _=>true|_=>false)
 | .int _=>(match y with| .non=>true| .int _=>true| .str _=>true|_=>false)
 | .bl _=>(match y with| .non=>true| .bl _=>true| .str _=>true|_=>false)
 | .str _=>(match y with| .non=>true| .int _=>true| .bl _=>true| .str _=>true|_=>false)
 | .byt _=>(match y with| .byt _=>true|_=>false)
 | _=>false
abbrev rEq:R2:=λx y H Q=>EY x y=true/\Q (.bl (decide (x=y))) H
abbrev rNe:R2:=λx y H Q=>EY x y=true/\Q (.bl (!decide (x=y))) H
def xk:decide (V.int i=V.int j)=(i==j):=by
 rw[Bool.eq_iff_iff];simp
def As:decide (V.bl i=V.bl j)=(i==j):=by
 rw[Bool.eq_iff_iff];simp
def xo:decide (V.str i=V.str j)=(i==j):=by
 rw[Bool.eq_iff_iff];simp
def xp:decide (V.byt i=V.byt j)=(i.toList==j.toList):=by
 rw[Bool.eq_iff_iff]
 simp_all
section
variable{X:Cx}{a b c:Expr}{ta tb tc:TE}{pos:Pos}
def aR(I:Jc X fx d H s)(q:Q (.bl k) H)(e:k=f):EP X fx d Q (.bool f) s:=by
 subst e;exact%[.bl k,H,I,ρ|q]
def GY:OpR X (compareOp .Eq) rEq:=by
 intro fx s g H x y v u Q I f d h;let%[e|q]:=h;cases x with
 | non=>
   cases f;cases y with
   | non=>cases d;exact PySem.EqNone.eq_none_none (aR I q ∅)
   | bl j=>cases d;exact PySem.EqNone.eq_none_bool (aR I q ∅)
   | int j=>have%[t'|rfl]:=d;exact PySem.EqNone.eq_none_int (aR I q ∅)
   | str j=>have%[t'|rfl]:=d;exact PySem.EqNone.eq_none_str (aR I q ∅)
   | _=>exact absurd (show false=true from e) Zt
 | bl i=>
   cases f;cases y with
   | non=>cases d;exact PySem.EqNone.eq_bool_none (aR I q ∅)
   | bl j=>cases d;exact eq_bool (aR I q As)
   | str j=>have%[t'|rfl]:=d;exact PySem.EqMixed.eq_bool_str (aR I q ∅)
   | _=>exact absurd (show false=true from e) Zt
 | int i=>
   let%[t|rfl]:=f;cases y with
   | non=>cases d;exact PySem.EqNone.eq_int_none (aR I q ∅)
   | int j=>have%[t'|rfl]:=d;exact eq_int (aR I q xk)
   | str j=>have%[t'|rfl]:=d;exact PySem.EqMixed.eq_int_str (aR I q ∅)
   | _=>exact absurd (show false=true from e) Zt
 | str i=>
   let%[t|rfl]:=f;cases y with
   | non=>cases d;exact PySem.EqNone.eq_str_none (aR I q ∅)
   | bl j=>cases d;exact PySem.EqMixed.eq_str_bool (aR I q ∅)
   | int j=>have%[t'|rfl]:=d;exact PySem.EqMixed.eq_str_int (aR I q ∅)
   | str j=>have%[t'|rfl]:=d;exact eq_str (aR I q xo)
   | _=>exact absurd (show false=true from e) Zt
 | byt i=>
   let%[t|rfl]:=f;cases y with
   | byt j=>have%[t'|rfl]:=d;exact PySem.W.eq_bytes (aR I q xp)
   | _=>exact absurd (show false=true from e) Zt
 | _=>cases y<;> exact absurd (show false=true from e) Zt
def GZ:OpR X (compareOp .NotEq) rNe:=by
 intro fx s g H x y v u Q I f d h;let%[e|q]:=h;cases x with
 | non=>
   cases f;cases y with
   | non=>cases d;exact PySem.EqNone.ne_none_none (aR I q ∅)
   | bl j=>cases d;exact PySem.EqNone.ne_none_bool (aR I q ∅)
   | int j=>have%[t'|rfl]:=d;exact PySem.EqNone.ne_none_int (aR I q ∅)
   | str j=>have%[t'|rfl]:=d;exact PySem.EqNone.ne_none_str (aR I q ∅)
   | _=>exact absurd (show false=true from e) Zt
 | bl i=>
   cases f;cases y with
   | non=>cases d;exact PySem.EqNone.ne_bool_none (aR I q ∅)
   | bl j=>cases d;exact ne_bool (aR I q (congrArg not As))
   | str j=>have%[t'|rfl]:=d;exact PySem.EqMixed.ne_bool_str (aR I q ∅)
   | _=>exact absurd (show false=true from e) Zt
 | int i=>
   let%[t|rfl]:=f;cases y with
   | non=>cases d;exact PySem.EqNone.ne_int_none (aR I q ∅)
   | int j=>have%[t'|rfl]:=d;exact ne_int (aR I q (congrArg not xk))
   | str j=>have%[t'|rfl]:=d;exact PySem.EqMixed.ne_int_str (aR I q ∅)
   | _=>exact absurd (show false=true from e) Zt
 | str i=>
   let%[t|rfl]:=f;cases y with
   | non=>cases d;exact PySem.EqNone.ne_str_none (aR I q ∅)
   | bl j=>cases d;exact PySem.EqMixed.ne_str_bool (aR I q ∅)
   | int j=>have%[t'|rfl]:=d;exact PySem.EqMixed.ne_str_int (aR I q ∅)
   | str j=>have%[t'|rfl]:=d;exact ne_str (aR I q (congrArg not xo))
   | _=>exact absurd (show false=true from e) Zt
 | byt i=>
   let%[t|rfl]:=f;cases y with
   | byt j=>have%[t'|rfl]:=d;exact PySem.W.ne_bytes (aR I q (congrArg not xp))
   | _=>exact absurd (show false=true from e) Zt
 | _=>cases y<;> exact absurd (show false=true from e) Zt
def G0:OpR X (compareOp .Lt) (rI0 λi j=> .bl (decide (i<j))):=ET λ_ _ _ _ _ _ _ q=>lt_int q
def G1:OpR X (compareOp .LtE) (rI0 λi j=> .bl (decide (i<=j))):=ET λ_ _ _ _ _ _ _ q=>le_int q
def G3:OpR X (compareOp .Gt) (rI0 λi j=> .bl (decide (j<i))):=ET λ_ _ _ _ _ _ _ q=>gt_int q
def yz:OpR X (compareOp .In) (λx y H Q=>∃i j,x= .str i/\y= .str j/\Q (.bl (!(Builtin.Str.occurrences j i 0 j.length 1).isEmpty)) H):=by
 intro fx s f H x y v u Q I d e h;let%[i,j,rfl,rfl|q]:=h;let%[t|rfl]:=d;let%[t'|rfl]:=e;exact in_str (aR I q rfl)
def EZ:OpR X (compareOp .Is) (λx y H Q=>y= .non/\Q (.bl (decide (x= .non))) H):=by
 intro fx s f H x y v u Q I d e h;let%[rfl|q]:=h;cases e;show is_none_gen (aR I q ?_);cases x<;> first
  | lia
  |(have%[t|rfl]:=d;rfl)
def CJ:OpR X (compareOp .IsNot) (λx y H Q=>y= .non/\Q (.bl (!decide (x= .non))) H):=by
 intro fx s f H x y v u Q I d e h;let%[rfl|q]:=h;cases e;show isnot_none_gen (aR I q ?_);cases x<;> first
  | lia
  |(have%[t|rfl]:=d;rfl)
def OpR.or(h:OpR X f r)(i:OpR X f j):OpR X f (λx y H Q=>r x y H Q\/j x y H Q):=by
 intro fx s d H x y v u Q I e g q;rcases q with q|q
 .exact h fx s d H x y v u Q I e g q
 .exact i fx s d H x y v u Q I e g q
def nomark(b:Expr)(h:d≠ .In)(g:d≠ .NotIn):behindInMarks d b=false:=by
 let e:(d==CmpOp.In)=false:=by lia
 let f:(d==CmpOp.NotIn)=false:=by lia
 cases b<;> simp[behindInMarks,e,f]
def CL{r:R2}(e:OpR X (compareOp d) r)(f:PE X a ta)(g:PE X b tb)(i:behindInMarks d b=false):PE X (.Compare a [d] [b] pos) (tOp r ta tb):=by
 intro fx s j H Q I h;exact wpAny_Compare1 (ES f g I h λv u l x y m n o p q=>e fx l j m x y v u Q n o p q) i
abbrev xq(t:TE):TT:=λd H Q=>t d H λx e=>asB x λk=>Q k e
def CM(g:OpR X (compareOp f) r)(i:PE X a ta)(j:PE X b tb)(l:behindInMarks f b=false):PT X (.Compare a [f] [b] pos) (xq (tOp r ta tb)):=by
 intro fx s d H Q I h;show wpAny_isTrue_Compare1 (thP (i fx s d H _ I h) λv m x n o p q=>thP (j fx m d n _ o q) λu t y w A B C=>
  thP (g fx t d w x y v u _ A p B C) λc L z E G J e=>?_) l
 let%[k,rfl|e]:=nv e;cases J;exact wpAny_truthy_bool %[E,G|e]
abbrev vW(r f:R2)(ta tb tc:TE):TE:=λd H Q=>ta d H λx g=>tb d g λy h=>r x y h λz e=>asB z λk=>
 (if k=true then tc d e λi j=>f y i j Q else Q (.bl false) e)
def At(o:OpR X (compareOp j) r)(i:OpR X (compareOp e) p)(q:PE X a ta)(t:PE X b tb)(w:PE X c tc)
 (A:lastMarks [j,e] [b,c]=false):PE X (.Compare a [j,e] [b,c] pos) (vW r p ta tb tc):=by
 intro fx s f H Q I h;show Compare_chain (thP (q fx s f H _ I h) λv B x C E G J=>chain_link (thP (t fx B f C _ E J) λu L y M N l O=>
  thP (o fx L f M x y v u _ N G l O) λd T z m n U g=>?_)) A
 let%[k,rfl|g]:=nv g;cases U;show wpAny_truthy_bool ?_;cases k with
 | false=>exact ite_ff %[.bl false,m,n,rfl|g]
 | true=>exact ite_tt (chain_last (thP (w fx T f m _ n g) λY s4 z' H4 I4 r4 q4=>i fx s4 f H4 y z' u Y Q I4 l r4 q4))
abbrev yA(K:ZA)(x:V)(H:Hp)(k:Bool):Prop:=
 match x with
 | .non=>k=false
 | .bl b=>k=b
 | .int i=>k=(i != 0)
 | .str y=> ~~~y<=sizeLine/\k=((~~~y:Int) != 0)
 | .byt y=>y.size<=sizeLine/\k=((y.size:Int) != 0)
 | .ref p=>(∃xs,Jb K H p xs/\k=!xs.isEmpty)\/(∃xs,SqT K H p xs/\k=!xs.isEmpty)\/∃d,H p∣.dK d/\k=!d.isEmpty
 | _=>False
def vX{e:Type}{d:List (e×V)}{vs:List _}(r:KV d vs):(!vs.isEmpty)=!d.isEmpty:=by
 cases r<;> rfl
def nA(r:aF xs its):(!its.toArray.isEmpty)=!xs.isEmpty:=by
 cases r<;> simp
def rH:sizeLine<2^63:=!1
def E3:TruR X (λx H Q=>∃k,yA X.K x H k/\Q k H):=by
 intro fx s w H x v Q I j h;let%[k,e|q]:=h;let z:=rH;let A:sizeLine=16777216:=sizeLine_eq;cases x with
 | non=>
   cases j;let d:k=false:=e;subst d;exact truthy_none %[H,I|q]
 | bl b=>
   cases j;let d:k=b:=e;subst d;exact wpAny_truthy_bool %[H,I|q]
 | int i=>
   let%[t|rfl]:=j;let d:k=(i != 0):=e;subst d;exact PySem.P.truthy_int %[H,I|q]
 | str y=>
   let%[t|rfl]:=j;obtain⟨o,d⟩: ~~~y<=sizeLine/\k=((~~~y:Int) != 0):=e;subst d;exact PySem.P.truthy_str ⋯ %[H,I.tok _|q]
 | byt y=>
   let%[t|rfl]:=j;obtain⟨o,d⟩:y.size<=sizeLine/\k=((y.size:Int) != 0):=e;subst d;exact PySem.W.truthy_bytes ⋯ %[H,I.tok _|q]
 | ref p=>
   cases j;let d:(∃xs,Jb X.K H p xs/\k=!xs.isEmpty)\/(∃xs,SqT X.K H p xs/\k=!xs.isEmpty)\/∃f,H p∣.dK f/\k=!f.isEmpty:=e;rcases d with⟨xs,l,d⟩|⟨xs,l,d⟩|⟨f,l,d⟩
   .subst d;let%[its,r,pl|n]:=I.list l;let g:= ~~~r;exact wpAny_truthy_list pl.isList (by simp only[Zp];lia) %[H,I.tok _|(nA r)▸q]
   .subst d;let%[its,r,pl|n]:=I.tuple l;let g:= ~~~r;exact truthy_tuple pl (by simp only[Zp];lia) %[H,I.tok _|(nA r)▸q]
   .subst d;obtain⟨n,u,vs,r,m⟩: ~~~f<=sizeLine/\(p==sysModules)=false/\∃vs,KV f vs/\s.heap.DictOf (aL X.prog X.w) p vs:=I.hok p _ l;let g: ~~~f= ~~~vs:=Paired.length r;exact wpAny_truthy_dict u m ⋯ %[H,I.tok _|(vX r)▸q]
 | _=>exact(show False from e).elim
def Au(g:PE X a ta)(i:∀d,isTrue a X.env d=(do let v<-d;standAt a.pos;holding [v] (truthy v))):
 PT X a (λe H Q=>ta e H λx f=>∃k,yA X.K x f k/\Q k f):=by
 intro fx s e H Q I h;exact isTrue_plain (thP (g fx s e H _ I h) λv j x l m n o=>E3 fx j e l x v Q m n o) (i _)
def vY:OpR X (binaryOp .Add) (λx y H Q=>∃i j,x= .str i/\y= .str j/\ ~~~i+ ~~~j<=sizeLine/\Q (.str (i++j)) H):=by
 intro fx s g H x y v u Q I d e h;let%[i,j,rfl,rfl,f|q]:=h;let%[t|rfl]:=d;let%[t'|rfl]:=e;exact add_str (λt' tk=>%[.str _,H,I.tok _,%[_|rfl]|q]) f
def dh(r:aF [x] us):∃u,us=[u]/\aN x u:=by
 cases r with
 | cons d e=>cases e;exact%[_,ρ|d]
def jn(r:aF [x,y] us):∃u d,us=[u,d]/\aN x u/\aN y d:=by
 cases r with
 | cons e f=>
   cases f with
   | cons g h=>cases h;exact%[_,_,ρ,e|g]
def yB(e:X.calm=true):cD X (.builtin "max") (λxs H Q=>∃i j,xs=[.int i,.int j]/\Q (.int (if j>i then j else i)) H):=by
 intro fx s f H xs us Q I r h;let%[i,j,rfl|q]:=h;let%[u,g,rfl,%[t|rfl],t'|rfl]:=jn r;show max_two_ints (I.ok.hd e) λl tk k=>%[_,H,I.kept k,?_|q]
 by_cases d:j>i
 .rw[if_pos d,if_pos d];exact%[_|ρ]
 .rw[if_neg d,if_neg d];exact%[_|ρ]
def yC(e:X.calm=true):cD X (.builtin "min") (λxs H Q=>∃i j,xs=[.int i,.int j]/\Q (.int (if j<i then j else i)) H):=by
 intro fx s f H xs us Q I r h;let%[i,j,rfl|q]:=h;let%[u,g,rfl,%[t|rfl],t'|rfl]:=jn r;show min_two_ints (I.ok.hd e) λl tk k=>%[_,H,I.kept k,?_|q]
 by_cases d:j<i
 .rw[if_pos d,if_pos d];exact%[_|ρ]
 .rw[if_neg d,if_neg d];exact%[_|ρ]
def yD:cD X (.type "int") (λxs H Q=>(∃i,xs=[.int i]/\Q (.int i) H)\/∃k,xs=[.bl k]/\Q (.int (if k then 1 else 0)) H):=by
 intro fx s e H xs us Q I r h;rcases h with⟨i,rfl,q⟩|⟨k,rfl,q⟩
 .let%[u,rfl,t|rfl]:=dh r;exact call_int_int %[.int i,H,I,%[_|rfl]|q]
 .let%[u,rfl|d]:=dh r;cases d;exact call_int_bool %[.int _,H,I.tok _,%[_|rfl]|q]
abbrev CO(K:ZA)(x:V)(H:Hp)(n:Nat):Prop:=
 match x with
 | .str y=> ~~~y<=sizeLine/\n= ~~~y
 | .byt y=>y.size<=sizeLine/\n=y.size
 | .ref p=>(∃xs,Jb K H p xs/\n= ~~~xs)\/∃xs,SqT K H p xs/\n= ~~~xs
 | _=>False
def Av:cD X (.builtin "len") (λxs H Q=>∃x n,xs=[x]/\CO X.K x H n/\Q (.int n) H):=by
 intro fx s o H xs us Q I r h;let%[x,n,rfl,e|q]:=h;let%[u,rfl|g]:=dh r;let v:=sizeLine_eq;cases x with
 | str y=>
   let%[t|rfl]:=g;obtain⟨l,f⟩: ~~~y<=sizeLine/\n= ~~~y:=e;subst f;exact len_str ⋯ %[.int _,H,I.tok _,%[_|rfl]|q]
 | byt y=>
   let%[t|rfl]:=g;obtain⟨l,f⟩:y.size<=sizeLine/\n=y.size:=e;subst f;exact PySem.W.len_bytes ⋯ %[.int _,H,I.tok _,%[_|rfl]|q]
 | ref p=>
   cases g;let f:=e;rcases f with⟨xs,i,f⟩|⟨xs,i,f⟩
   .subst f;let%[its,j,pl|m]:=I.list i;let d:= ~~~j;exact Calls.call_len_list pl.isList (by simp only[Zp];lia) %[.int xs.length,H,I.tok _,%[_|by simp only[Zp];rw[d]]|q]
   .subst f;let%[its,j,pl|m]:=I.tuple i;let d:= ~~~j;exact len_tuple pl (by simp only[Zp];lia) %[.int xs.length,H,I.tok _,%[_|by simp only[Zp];rw[d]]|q]
 | _=>exact(e).elim
end
structure vZ (h:Heap) (x dx C:Addr) (mA:ZC):Prop where
 obj:h.get? x∣instObj C dx
 ns:h.Ns1 dx mA
 ne:dx≠x
def yE{h:Heap}{c:ZC}(n:h.Ns1 f c):∃d,h.get? f∣d/\∀name,lookIn name d∣c name:=by
 let%[o,g,r,i,j,l,_|m]:=n;show%[o,i|λname=>?_];let e:=m name;unfold nsFind findBy at e;rw[<-Array.find?_toList]at e;unfold lookIn;rw[j];dsimp only
 split
 .rename_i y q
  rw[q]at e;exact congrArg some e
 .rename_i q
  rw[q]at e;let a:g.toList.any (·.refKey)=false:=by
   rw[List.any_eq_false];intro y p;let%[z,t|b]:=l y (mem_toList_iff.mp p);simp[DictEntry.refKey,b]
  rw[if_neg (a▸Zt)];exact congrArg some e
def vZ.look(I:vZ h x b C c):∃a,PySem.W.InstAt h x (instObj C b) C (some a)/\∀name,lookIn name a∣c name:=
 let⟨a,d,e⟩:=yE I.ns
 %[a,%[I.obj,rfl,rfl|d]|e]
section
#where
variable{K:ZA}{x dx C f:Addr}{mA:ZC}{name:Str}{v:Value}
def CP(X:K.In s.heap)(I:vZ s.heap x dx C mA)(c:plainGet K C name=true)(d:hasDictIn K C=true)
 (e:findIn K (.ref C) name∣none) (g:mA name∣v) (a:handedIn v=true) (h:Q v {s with toks:=s.toks+1}):
 ↥A (getAttr (.ref x) name b) Q E s:=by
 let%[j,J|i]:=I.look;exact PySem.W.get_value X J (plainGet_of c).1 (PySem.W.findObj_own d e rfl (by rw[i,g])) a h
def Aw(X:K.In s.heap)(I:vZ s.heap x dx C mA)(a:plainGet K C name=true)
 (b:findIn K (.ref C) name∣some (.ref f)) (c:isFn K (.ref f)=true) (d:mA name=none) (h:Q (.ref f,[.ref x]) s):
 ↥A (getMethod (.ref x) name pl) Q E s:=by
 let%[e,J|g]:=I.look;exact PySem.W.method_fn X J (plainGet_of a).1 (plainGet_of a).2 b (beq_iff_eq.mp c) (by change(lookIn name e).map _∣false;rw[g,d];rfl) h
def CQ(X:K.In s.heap)(I:vZ s.heap x dx C mA)
 (l:findIn K (.ref C) "__setattr__"=some (some (.builtin "object.__setattr__"))) (m:plainOver K C=true) (n:takerIn K C name∣none) (o:hasDictIn K C=true)
 (hw:PySem.Within mA p) (q: ~~~p<=sizeLine)
 (h:∀d,vZ d x dx C (λy=>if y=name then some v else mA y)->SameBut dx s.heap d->Q () {s with heap:=d,toks:=s.toks+2}):
 ↥A (setAttr (.ref x) name v) Q E s:=by
 let%[z,J|B]:=I.look;show PySem.W.set_plain X J l (PySem.W.osa_open X J m n λb=>?_);let%[G,r|e]:=PySem.W.any_some o;show Z2 (Z3 (Z2 (Z2 (wpAny_loadPart I.obj (Z2 (Looks.here (PySem.W.looks_clsIn X r) ?_))))));rw[e];show Z3 (Z2 (Z3 (Z2 (wpAny_nsSet1 I.ns λd a c=>?_))));let%[H,t,u,g,i|j]:=a.count (PySem.Within.cons name v hw);exact Z2 (wpAny_lookBehind g (i▸pastItsLine_dict (Nat.le_trans j (!2))) (Z3 (h _ %[(c.2 _ (Ne.symm I.ne)).trans I.obj,a|I.ne] c)))
def Ax{R:Result->Shared->Prop}(X:K.In s.heap)(b:makesIn K C=true)
 (hi:findIn K (.ref C) "__init__"=some (some (.ref f))) (c:PySem.W.typeIn K (.ref f)∣.type "function")
 (h:codeAny (model prog w) (A.under (.builtin "type.__call__" %[.ref C::vs|a])) (.call (.ref f) %[.ref (⇑s+1)::vs|a]) (PySem.W.InitBack (⇑s+1) R)
  (s>>>(s.heap.push emptyDict).push (instObj C ⇑s))):
 codeAny (model prog w) A (.call (.ref C) %[vs|a]) R s:=by
 exact PySem.W.make_core (PySem.W.makes_of X b) (PySem.W.looks_findIn X hi) (λself=>PySem.W.bind_fn X self c) (.inl rfl) h
end
abbrev dA(f:Str)(v:V):List (Str×V)->List (Str×V)
 |[]=>[(f,v)]
 |(g,x)::r=>if g=f then(g,v)::r else(g,x)::dA f v r
def lU(f g:Str)(v:V):∀fs,(dA f v fs).lookup g=if g=f then some v else fs.lookup g
 |[]=>by
  change List.lookup g [(f,v)]=_;by_cases h:g=f
  .let a:=beq_iff_eq.mpr h;simp only[List.lookup,a,if_pos h]
  .let a:=beq_eq_false_iff_ne.mpr h;simp only[List.lookup,a,if_neg h]
 |(k,x)::r=>by
  rw[show dA f v _=(if k=f then(k,v)::r else(k,x)::dA f v r)from rfl];by_cases b:k=f
  .rw[if_pos b];by_cases h:g=k
   .let a:=beq_iff_eq.mpr h;simp only[List.lookup,a,if_pos (h.trans b)]
   .let a:=beq_eq_false_iff_ne.mpr h;simp only[List.lookup,a,if_neg (λe:g=f=>h (e.trans b.symm))]
  .rw[if_neg b];by_cases h:g=k
   .let a:=beq_iff_eq.mpr h;simp only[List.lookup,a,if_neg (λe=>b (h.symm.trans e))]
   .let a:=beq_eq_false_iff_ne.mpr h;simp only[List.lookup,a];exact(lU f g v r)
def kX(f:Str)(v:V):∀fs:List (Str×V),f∈(dA f v fs)\1/\∀g,g∈fs\1->g∈(dA f v fs)\1
 |[]=>%[by simp[dA]|λg h=>by simp at h]
 |(k,x)::r=>by
  let%[a|b]:=kX f v r;rw[show dA f v _=(if k=f then(k,v)::r else(k,x)::dA f v r)from rfl]
  grind
def lV(f:Str)(v:V):∀fs,~~~(dA f v fs)<= ~~~fs+1
 |[]=>by simp[dA]
 |(k,x)::r=>by
  let a:=lV f v r;rw[show dA f v _=(if k=f then(k,v)::r else(k,x)::dA f v r)from rfl];by_cases b:k=f
  .simp_all
  simp_all
def fI.some_of(r:fI (some v) o):∃u,o∣u/\aN v u:=by
 cases o with
 | none=>exact(r).elim
 | some u=>exact%[u,ρ|r]
def fI.none_of(r:fI none o):o=none:=by
 cases o with
 | none=>rfl
 | some u=>exact(r).elim
def yF(r:aN v u):handedIn u=true:=by
 cases v with
 | non=>cases(r);rfl
 | bl b=>cases(r);rfl
 | int i=>have%[t|e]:=(r);cases e;rfl
 | str x=>have%[t|e]:=(r);cases e;rfl
 | byt b=>have%[t|e]:=(r);cases e;rfl
 | flt b=>have%[t|e]:=(r);cases e;rfl
 | ref a=>cases(r);rfl
 | ty n=>cases(r);rfl
section
variable{P:Program}{w:World}{H H':Hp}{h h':Heap}{a C dx:Addr}{fs fs':List (Str×V)}
def mZ(c:HOk P w H h)(e:H a∣.ins C dx fs):∃b,vZ h a dx C b/\(∀f,fI (fs.lookup f) (b f))/\PySem.Within b (fs\1)/\ ~~~fs<=1000/\H dx∣.own a:=by
 let%[d,z,g,i,b,n,r|q]:=(c a _ e)
 exact%[b,%[i,n|g],r,q,z|d]
end
structure Cls (K:ZA) (C:Addr):Prop where
 pg:plainGet K C Str.empty=true
 hd:hasDictIn K C=true
 po:plainOver K C=true
 sa:findIn K (.ref C) "__setattr__"=some (some (.builtin "object.__setattr__"))
def Cls.get{K:ZA}{C:Addr}(c:Cls K C)(f:Str):plainGet K C f=true:=c.pg
abbrev fC(K:ZA)(C:Addr)(f:Str):Prop:=findIn K (.ref C) f∣none
def fC.taker{K:ZA}{C:Addr}{f:Str}(n:fC K C f):takerIn K C f∣none:=by
 unfold takerIn;rw[n];rfl
structure CS (K:ZA) (C:Addr) (m:Str) (f:Addr):Prop where
 at_:findIn K (.ref C) m∣some (.ref f)
 fn:isFn K (.ref f)=true
 kp:keepIn K (.ref f)=true
section
#version
variable{a C dx:Addr}{fs:List (Str×V)}{f:Str}{v:V}{A:Around}{E:ZD}
def v4(I:Jc X fx σ H s)(e:H a∣.ins C dx fs)(c:Cls X.K C)(n:fC X.K C f)(l:fs.lookup f∣v)
 (h:∀u s',Jc X fx σ H s'->aN v u->Q u s'):wpAny (model X.prog X.w) A (getAttr (.ref a) f b) Q E s:=by
 let%[i,O,r,_,_|_]:=mZ I.hok e;let%[u,g|d]:=fI.some_of (l▸r f);exact CP I.kIn O (c.get f) c.hd n g (yF d) (h u _ (I.tok _) d)
def v5(I:Jc X fx σ H s)(e:H a∣.ins C dx fs)(c:Cls X.K C)(k:CS X.K C m g)(l:fs.lookup m=none)
 (h:Q (.ref g,[.ref a]) s):wpAny (model X.prog X.w) A (getMethod (.ref a) m pl) Q E s:=by
 let%[b,O,r,_,_|_]:=mZ I.hok e;exact Aw I.kIn O (c.get m) k.at_ k.fn (fI.none_of (l▸r m)) h
def v6(I:Jc X fx σ H s)(e:H a∣.ins C dx fs)(c:Cls X.K C)(n:fC X.K C f)(G: ~~~fs<1000)(l:aN y u)
 (h:∀s',Jc X fx σ (Ja H a (.ins C dx (dA f y fs))) s'->Q () s'):wpAny (model X.prog X.w) A (setAttr (.ref a) f u) Q E s:=by
 let%[m,O,r,i,_|j]:=mZ I.hok e;show CQ I.kIn O c.sa c.po n.taker c.hd i (by rw[Z6,sizeLine_eq];lia) λJ d p=>h _ (I.write (e▸True.intro) (.inr j) (λb q t z=>(p.2 b t).trans z) (let⟨o,_,_,w,_⟩:=d.ns;%[o|w]) %[(am O.ne)▸j,?_,O.ne,d.obj,_,d.ns,λg=>?_|λg B=>?_])
 .let:=lV f y fs;lia
 .rw[lU];by_cases q:g=f
  .rw[if_pos q,if_pos q];exact l
  .rw[if_neg q,if_neg q];exact r g
 .by_cases q:g=f
  .exact q▸(kX f y fs).1
  .show(kX f y fs).2 g (i g λz=>B ?_);change(if g=f then some u else m g)=none;rw[if_neg q];exact z
def Jc.made(I:Jc X fx σ H s):Jc X fx σ (Ja (Ja H ⇑s (.own (⇑s+1))) (⇑s+1) (.ins C ⇑s []))
 (s>>>(s.heap.push emptyDict).push (instObj C ⇑s)):=by
 let c:(s.heap.push emptyDict).get? ⇑s∣emptyDict:=Zj s.heap rfl;let g:=by
  let:=Zj (s.heap.push emptyDict) (o:=instObj C ⇑s) rfl;rwa[Zq]at this
 show(I.laid (o:= .own (⇑s+1)) (t':=s.toks) (λb u q=>Z7 _ q) (Zi _) %[_|c]).laid (λb u q=>Z7 _ q) (Nat.le_of_eq (Zq _ _)) ?_;let d:⇑s≠⇑s+1:=Zs (Yk _);show%[by rw[am d,upd_same],Xa _,d,g,λ_=>none,(Heap.Ns1.of_empty %[emptyDict,#[],_,c,ρ,(λe h=>absurd h ∅)|λ_=>rfl]).at λo q=>Z7 _ q,λ_=>True.intro|λy i=>absurd rfl i]
def CT(c:attributeBase e f env (eval e env)=eval e env)
 (h:↥A (eval e env) (λo b=>↥A (getAttr o f true) Q E b) E s):↥A (eval (.Attribute e f pos) env) Q E s:=
 Attribute_any_ h (by rw[arm_eval_Attribute,c])
end
abbrev E4(K:ZA)(c:TE)(f:Str):TE:=λd H Q=>c d H λx b=>∃a C e fs v,x= .ref a/\b a∣.ins C e fs/\Cls K C/\fC K C f/\fs.lookup f∣v/\Q v b
abbrev E5(K:ZA)(e g:TE)(f:Str):TS:=λD b H=>g b H λy h=>e b h λx c=>∃a C d fs,x= .ref a/\c a∣.ins C d fs/\Cls K C/\fC K C f/\ ~~~fs<1000/\
 D.nx b (Ja c a (.ins C d (dA f y fs)))
section
variable{X:Cx}{o e value:Expr}{f:Str}{pos pos' tpos:Pos}{ta tv:TE}
def E6(b:PE X e ta)(d:attributeBase e f X.env (eval e X.env)=eval e X.env):PE X (.Attribute e f pos) (E4 X.K ta f):=by
 intro fx s g H Q I h;show CT d (thP (b fx s g H _ I h) λu w x i j m ⟨a,C,y,fs,v,ex,p,c,n,l,q⟩=>?_);subst ex;obtain rfl:u=Value.ref a:=m;exact v4 j p c n l λz A r t=>%[v,i,r,t|q]
def E7(d:PE X o ta)(g:PE X value tv)(i:swapsWith value (some (.Attribute o f pos')) pos.line X.env=pure false):PS X (.Assign [.Attribute o f pos'] value pos) (E5 X.K ta tv f):=by
 intro fx s b H D I h;show plainObj_wpAny_Assign_Attribute (thP (g fx s b H _ I h) λu j y m p r q=>thP (d fx j b m _ p q) λt E x G v w ⟨a,C,J,fs,ex,z,c,n,l,A⟩=>?_) i;subst ex;obtain rfl:t=Value.ref a:=w;exact v6 v z c n l r λL B=>%[b,_,B|A]
end
section
#version
variable{A:Around}{E:ZD}{Q:ZD}{c:Value}{b:Bool}
inductive jz (K:ZA) (H:Hp):V->Value->Prop where
 | non:jz K H .non (.type "NoneType")
 | bl (x:Bool):jz K H (.bl x) (.type "bool")
 | int (i:Int):jz K H (.int i) (.type "int")
 | str (x:Str):jz K H (.str x) (.type "str")
 | flt (x:UInt64):jz K H (.flt x) (.type "float")
 | lst {a:Addr} {xs:List V} (e:H a<*xs):jz K H (.ref a) (.type "list")
 | frz {a:Addr} {o:Obj} {xs:List V} (e:H a∣.frz o (.lst xs)):jz K H (.ref a) (.type "list")
 | tup {a:Addr} {xs:List V} (e:H a&&&xs):jz K H (.ref a) (.type "tuple")
 | dK {a:Addr} {kvs:List _} (e:H a∣.dK kvs):jz K H (.ref a) (.type "dict")
 | dT {a:Addr} {kvs:List _} (e:H a∣.dT kvs):jz K H (.ref a) (.type "dict")
 | ins {a C dx:Addr} {fs:List _} (e:H a∣.ins C dx fs) (cl:Cls K C) (ha:findIn K (.ref C) "__class__"=some (some (.builtin "object.__class__")))
  (hn:PySem.W.specialIn K (.builtin "object.__class__") "__get__"=some (some (.builtin "getset_descriptor.__get__"))) (htk:PySem.W.takesIn K (.builtin "object.__class__")∣true)
  (hm:PySem.W.mroIn K C (.type "object")∣true):jz K H (.ref a) (.ref C)
def yG(I:Jc X fx σ H s)(d:aN x u)(ty:jz X.K H x t)(e:kitOne X.K t c∣b)(h:∀tk,Q (.bool b) {s with toks:=tk}):
 wpAny (model X.prog X.w) A (call (.builtin "isinstance") [u,c]) Q E s:=by
 cases ty with
 | non=>cases(d);exact kia_one PySem.W.kitx_none I.kIn True.intro e (λz=>nomatch z) h
 | bl y=>cases(d);exact kia_one PySem.W.kitx_bool I.kIn True.intro e (λz=>nomatch z) h
 | int i=>have%[t|q]:=(d);cases q;exact kia_one PySem.W.kitx_int I.kIn True.intro e (λz=>nomatch z) h
 | str y=>have%[t|q]:=(d);cases q;exact kia_one PySem.W.kitx_str I.kIn True.intro e (λz=>nomatch z) h
 | flt y=>have%[t|q]:=(d);cases q;exact kia_one PySem.W.kitx_float I.kIn True.intro e (λz=>nomatch z) h
 | @lst a xs f=>
   cases(d);let%[_,_,n,_|g]:=(I.hok a _ f)
   exact kia_one kitx_list I.kIn %[_,g|rfl] e (λz=>nomatch z) h
 | @frz a M xs f=>
   cases(d);let%[_,_,_,n,_|g]:=(I.hok a _ f)
   exact kia_one kitx_list I.kIn %[_,g|rfl] e (λz=>nomatch z) h
 | @tup a xs f=>
   cases(d);let%[_,_,_|p]:=(I.hok a _ f)
   let%[o,g,j|_]:=p;exact kia_one PySem.W.kitx_tuple I.kIn %[o,g|j] e (λz=>nomatch z) h
 | @dK a l f=>
   cases(show u=Value.ref a from d);let%[_,_,vs,_|p]:=(I.hok a _ f)
   let%[o,v,w,g,j|_]:=p;exact kia_one kitx_dict I.kIn %[o,g|j.1] e (λz=>nomatch z) h
 | @dT a l f=>
   cases(show u=Value.ref a from d);let%[_,_,xs,_,o,v,w,g,j|_]:=(I.hok a _ f)
   exact kia_one kitx_dict I.kIn %[o,g|j.1] e (λz=>nomatch z) h
 | @ins a C N fs f r B G m L=>
   cases(d);let%[T,O|_]:=mZ I.hok f;let%[U,J|_]:=O.look;exact kia_one (PySem.W.kitx_own (r.get _) r.hd B G m L) I.kIn J e (λz=>nomatch z) h
end
structure cj (k:Nat) (A:Around):Prop where
 hd:A.handled=none
 dp:A.depth+3*k+5<recursionLimit
 un:A.units+16*k+200<cLine
 gd:A.guards∣[]
def cj.mono(r:cj k A)(h:j<=k):cj j A:=%[r.hd,by let:=r.dp;lia,by let:=r.un;lia|r.gd]
def cj.deeper(r:cj (k+1) A)(env:Env):cj k (A.deeper env):=
 %[r.hd,by let:=r.dp;change A.depth+1+3*k+5<_;lia,by let:=r.un;change A.units+3+16*k+200<_;lia|r.gd]
def v7{A:Around}:(A.under (.builtin "type.__call__" %[.ref C::us|a])).depth=A.depth+1:=by
 first|rfl|lia
def v8{A:Around}:(A.under (.builtin "type.__call__" %[.ref C::us|a])).units=A.units+1:=by
 first|rfl|lia
def cj.make(r:cj (k+1) A)(C:Addr)(us:ZF)(a:List (Str×Value)):cj k (A.under (.builtin "type.__call__" %[.ref C::us|a])):=
 %[r.hd,by let:=r.dp;rw[v7];lia,by let:=r.un;rw[v8];lia|r.gd]
def cj.depth(r:cj k A):A.depth<recursionLimit:=by let:=r.dp;lia
def cj.units(r:cj k A):A.units+64<cLine:=by let:=r.un;lia
abbrev yH:TA:=λ_ H Q=>Q [] H
abbrev Ay(b:TE)(c:TA):TA:=λa H Q=>b a H λx d=>c a d λxs e=>Q (x::xs) e
section
variable{X:Cx}{e:Expr}{es:List Expr}{te:TE}{t:TA}{pos:Pos}
def E8:PA X [] yH:=λ_ _ _ _ H Q I h=>Calls.spliced_nil %[[],H,I,.nil|h]
def CU(b:PE X e te)(c:PA X es t)(d:starEach (e::es) X.env=(false,eval e X.env)::starEach es X.env):PA X (e::es) (Ay te t):=by
 intro pos fx s a H Q I h;rw[d];change wpAny _ _ (spliced ((false,eval e X.env)::backTo pos _)) _ _ s;exact Calls.spliced_cons (thP (b fx s a H _ I h) λu f x g i j l=>thP (c pos fx f a g _ i l) λus q xs m n o p=>%[x::xs,m,n,.cons j o|p])
abbrev E9(t:TA):TE:=λb H Q=>t b H λxs a=> ~~~xs<=sizeLine/\∀p,a p=none->Q (.ref p) (Ja a p (.tup xs))
abbrev Fa(t:TA):TE:=λb H Q=>t b H λxs a=> ~~~xs<=sizeLine/\∀p,a p=none->Q (.ref p) (Ja a p (.lst xs))
def Fb{d}(h:PA X es t):PE X (.Tuple es d pos) (E9 t):=by
 intro fx s f H Q I g;show wpAny_Tuple_spliced (thP (h pos fx s f H _ I g) λus a xs i c r ⟨z,q⟩=>%[~~~r▸z|?_]);let j:=c.hok.fresh (Zi _);show%[.ref ⇑a,Ja i ⇑a _,c.laid (λb u e=>Z7 _ e) (Zi _) ?_,ρ|q _ j];exact%[z,us,r,_,Zj _ rfl,ρ,_|ρ]
def Fc(h:PA X es t):PE X (.List es pos) (Fa t):=by
 intro fx s d H Q I f;show wpAny_List_spliced (thP (h pos fx s d H _ I f) λus a xs g c r ⟨z,q⟩=>%[~~~r▸z|?_]);let i:=c.hok.fresh (Zi _);show%[.ref ⇑a,Ja g ⇑a _,c.laid (λb u e=>Z7 _ e) (Zi _) ?_,ρ|q _ i];exact%[z,us,0,r|Zj _ rfl]
end
noncomputable abbrev Sp:=List V->Hp->VK->XK->Prop
noncomputable abbrev CXT:=List Env->Hp->Shared->XK->Value->Shared->Prop
structure v9 (P:Program) (w:World) (K:ZA) (mg:ZC) (base:Heap) (A:Around) (outer:List Env) (s:Shared) (H:Hp):Prop where
 frames:A.frames∣outer
 mod:Mod K mg base
 bs:∀b o,base.get? b∣o->s.heap.get? b∣o/\H b=none
 bsz:base.objs.size<=⇑s
 funs:s.heap.FunFrames base outer
 frf:∀b∈frs outer,H b=none
 hok:HOk P w H s.heap
 bare:AllBare s.gens
abbrev CE(outer:List Env)(P:Program)(w:World)(H:Hp)(s:Shared)(Q:VK)(u:Value)(s':Shared):Prop:=
 ∃v a,s'.os=s.os/\AllBare s'.gens/\Un (frs outer) [] H a s.heap s'.heap/\HOk P w a s'.heap/\aN v u/\Q v a
abbrev CR(CX:CXT)(outer:List Env)(P:Program)(w:World)(H:Hp)(s:Shared)(Q:VK)(E:XK)(r:Result)(s':Shared):Prop:=
 match r with
 | .ok (.ret u)=>CE outer P w H s Q u s'
 | .ok _=>False
 | .error e=>CX outer H s E e s'
structure d9 (P:Program) (w:World) (K:ZA) (mg:ZC) (base:Heap) (CX:CXT) (k:Nat) (f:Addr) (fd:FuncData) (ps:ZB) (sp:Sp):Prop where
 len:∀vs H Q E,sp vs H Q E-> ~~~vs= ~~~ps
 run:∀A outer s H args us vs Q E,cj k A->v9 P w K mg base A outer s H->BindsTo s fd args (ps.zip us)->aF vs us->sp vs H Q E->
  codeAny (model P w) A (.call (.ref f) args) (CR CX outer P w H s Q E) s
def d9.imp{P:Program}{K:ZA}(F:d9 P w K mg base CX k f b ps sp)
 (h:∀vs H Q E,a vs H Q E->sp vs H Q E):d9 P w K mg base CX k f b ps a:=
 %[λvs H Q E q=>F.len vs H Q E (h _ _ _ _ q)|λA outer s H args us vs Q E c d e g i=>F.run A outer s H args us vs Q E c d e g (h _ _ _ _ i)]
def v9.make{P:Program}{K:ZA}(e:v9 P w K mg base A outer s H)(C:Addr)(us:ZF)(a:List (Str×Value)):
 v9 P w K mg base (A.under (.builtin "type.__call__" %[.ref C::us|a])) outer s H:=⟨by first|exact e.frames|lia,e.mod,e.bs,e.bsz,e.funs,e.frf,e.hok,e.bare⟩
section
variable{X:Cx}{fx:ZE}{σ:St}{H:Hp}{s s':Shared}
def Jc.env0(I:Jc X fx σ H s):v9 X.prog X.w X.K X.mg X.base X.A X.stack s H:=
 %[I.ok.frames,I.ok.mod,I.bs,Nat.le_trans I.ok.bsz I.sz,I.stack,I.stkFree,I.hok|I.bare]
def Jc.after(I:Jc X fx σ H s)(h:CE X.stack X.prog X.w H s Q u s'):EP X fx σ Q u s':=by
 let%[v,f,os,a,un,c,r|q]:=h;let%[i,g,d,t|e]:=s';obtain rfl:e=s.os:=os;exact%[v,f,I.call un c a (λb z=>absurd z ∅),r|q]
end
abbrev t8(sp:Sp)(dvs:List V)(E:XK)(t:TA):TE:=λa H Q=>t a H λvs b=>sp (vs++dvs) b Q E
abbrev xt(C:Addr)(m:Str)(sp:Sp)(dvs:List V)(E:XK)(d:TE)(t:TA):TE:=λb H Q=>d b H λx c=>∃a e fs,x= .ref a/\c a∣.ins C e fs/\fs.lookup m=none/\
 t b c λvs f=>sp (x::(vs++dvs)) f Q E
abbrev xu(C:Addr)(sp:Sp)(dvs:List V)(E:XK)(t:TA):TE:=λc H Q=>t c H λvs b=>∀x a,b x=none->b a=none->a≠x->
 sp (.ref x::(vs++dvs)) (Ja (Ja b a (.own x)) x (.ins C a [])) (λv d=>v= .non/\Q (.ref x) d) E
abbrev e9(K:ZA)(a:FuncData)(ps:ZB)(ds:ZF):Prop:=
 ∀s us,K.In s.heap-> ~~~(us++ds)= ~~~ps->BindsTo s a %[us|[]] (ps.zip (us++ds))
def e9.all{K:ZA}(h:∀us:ZF,~~~us= ~~~ps->bindArgs b %[us|[]]=pure (ps.zip us)):e9 K b ps []:=λs us _ a=>by
 rw[Zy]at a ⊢;exact .of_eq (h us a)
abbrev jA(CX:CXT)(X:Cx)(E:XK):Prop:=∀fx (a:St) H s e s',Jc X fx a H s->CX X.stack H s E e s'->X.xe e s'
section
variable{X:Cx}{CX:CXT}{k:Nat}{f C:Addr}{fd:FuncData}{ps:ZB}{sp:Sp}{dvs:List V}{ds:ZF}{E:XK}{x m:Str}{p pos apos:Pos}{e o:Expr}{es:List Expr}{ta:TE}{t:TA}
def Az(F:d9 X.prog X.w X.K X.mg X.base CX k f fd ps sp)(d:cj k X.A)(g:e9 X.K fd ps ds)(i:aF dvs ds)(j:jA CX X E)
 (I:Jc X fx b H s) (r:aF vs us) (h:sp (vs++dvs) H Q E):(X⁻¹) (call (.ref f) us) (EP X fx b Q) X.xe s:=by
 let c:=r.append i;show wpAny_call (codeAny_mono (F.run X.A X.stack s H _ _ _ Q E d I.env0 (g s us I.kIn (~~~c▸F.len _ _ _ _ h)) c h) λr s' a=>?_);cases r with
 | error e=>exact j fx b H s e s' I a
 | ok l=>
   cases l with
   | ret u=>exact I.after a
   | next=>exact False.elim a
   | brk=>exact False.elim a
   | cont=>exact False.elim a
def CW(F:d9 X.prog X.w X.K X.mg X.base CX k f fd ps sp)(d:cj k X.A)(g:Gl X x)(i:X.mg x∣.ref f)(j:keepIn X.K (.ref f)=true)(l:e9 X.K fd ps ds)(n:aF dvs ds)(u:jA CX X E)
 (v:PA X (e::es) t) (a:(x==("__debug__":Str))=false) (w:starEach (e::es) X.env=(false,eval e X.env)::starEach es X.env) (b:(backTo pos (starEach es X.env)).any (·.1)=false):
 PE X (.Call (.Name x p) (e::es) [] pos) (t8 sp dvs E t):=by
 intro fx s y H Q I h;exact wpAny_Call_Name_kw (rE I g i (callWith_K I.ok.mod.kin j (thP (v pos fx s y H _ I h) λus z vs A c r q=>%[c.kIn|Az F d l n u c r q]) w b) a)
def AA(i:PE X o ta)(c:Cls X.K C)(d:CS X.K C m f)(F:d9 X.prog X.w X.K X.mg X.base CX k f fd ps sp)(j:cj k X.A)(n:e9 X.K fd ps ds)(r:aF dvs ds)(v:jA CX X E)
 (w:eval (.Call (.Attribute o m apos) [] [] pos) X.env=(do
  let g<-eval o X.env
  standAt apos.atName
  let(f,first)<-holding [g] (getMethod g m pl)
  callWith pos f first (backTo pos (starEach [] X.env)) (backToKw pos (keywordEach [] X.env)))):
 PE X (.Call (.Attribute o m apos) [] [] pos) (xt C m sp dvs E ta yH):=by
 intro fx s y H Q I h;show PySem.W.methodCall_KW (thP (i fx s y H _ I h) λu B x G b z ⟨a,J,fs,ex,A,l,q⟩=>?_) w;subst ex;obtain rfl:u=Value.ref a:=z;exact v5 b A c d l (PySem.W.callWith_K0 b.kIn d.kp (Az (us:=[.ref a]) (vs:=[.ref a]) F j n r v b (.cons rfl .nil) q))
structure Mk (K:ZA) (C f:Addr):Prop where
 makes:makesIn K C=true
 init:findIn K (.ref C) "__init__"=some (some (.ref f))
 fn:isFn K (.ref f)=true
 kp:keepIn K (.ref C)=true
def AB(M:Mk X.K C f)(F:d9 X.prog X.w X.K X.mg X.base CX k f fd ps sp)(j:cj (k+1) X.A)(l:e9 X.K fd ps ds)(n:aF dvs ds)
 (q:jA CX X E) (I:Jc X fx d H s) (r:aF vs us)
 (h:∀x b,H x=none->H b=none->b≠x->sp (.ref x::(vs++dvs)) (Ja (Ja H b (.own x)) x (.ins C b [])) (λv w=>v= .non/\Q (.ref x) w) E):
 (X⁻¹) (call (.ref C) us) (EP X fx d Q) X.xe s:=by
 let g:=h (⇑s+1) ⇑s (I.hok.fresh (Yc _)) (I.hok.fresh (Zi _)) (Zs (Yk _));let c:=Jc.made (C:=C) I;let i:aF (V.ref (⇑s+1)::(vs++dvs)) _:= .cons rfl (r.append n);let y:=by
  let e:= ~~~i;rw[F.len _ _ _ _ g]at e;exact e.symm
 show wpAny_call (Ax I.kIn M.makes M.init (beq_iff_eq.mp M.fn) (codeAny_mono (F.run _ X.stack _ _ _ _ _ _ E (j.make C us [])
  (c.env0.make C us []) (l _ _ c.kIn y) i g) λr s' a=>?_))
 cases r with
 | error e=>exact q fx d _ _ e s' c a
 | ok z=>
   cases z with
   | ret u=>
     let%[v,A,B,G,J|L]:=c.after a;subst J;exact%[G,V.ref _,A,B,ρ|L]
   | next=>exact False.elim a
   | brk=>exact False.elim a
   | cont=>exact False.elim a
def CY(M:Mk X.K C f)(F:d9 X.prog X.w X.K X.mg X.base CX k f fd ps sp)(d:cj (k+1) X.A)(g:Gl X x)(i:X.mg x∣.ref C)(j:e9 X.K fd ps ds)(l:aF dvs ds)(n:jA CX X E)
 (u:PA X (e::es) t) (a:(x==("__debug__":Str))=false) (v:starEach (e::es) X.env=(false,eval e X.env)::starEach es X.env) (b:(backTo pos (starEach es X.env)).any (·.1)=false):
 PE X (.Call (.Name x p) (e::es) [] pos) (xu C sp dvs E t):=by
 intro fx s w H Q I h;exact wpAny_Call_Name_kw (rE I g i (callWith_K I.ok.mod.kin M.kp (thP (u pos fx s w H _ I h) λus y vs z c r q=>%[c.kIn|AB M F d j l n c r q]) v b) a)
variable{ks:ZB}{kpos:Pos}{kws:List Keyword}{te:TE}{tk:TA}{nm:Option Str}
end
structure av (N P:ZB) (sc:Scope):Prop where
 kind:sc.kind= .function
 co:sc.isCoroutine=false
 gen:sc.isGenerator=false
 nd:N.Nodup
 pre:N.take P.length=P
 par:∀x∈P,sc.names.lookup x∣.local\/sc.names.lookup x∣.cell
 nofree:∀y∈sc.names,y.2≠ .free
def qg{kindOf:Str->Option NameKind}:∀{binds:List (Str×Value)} {m:ZC},(∀v,(x,v)∉binds)->bindL kindOf binds m x=m x
 |[],_,_=>rfl
 |(n,v)::r,m,h=>by
  unfold bindL;rw[qg λw hw=>h w (Zk _ hw)]
  split
  .let:x≠n:=by rintro rfl;exact h v Zm
   simp[this]
  .rfl
def qh{kindOf:Str->Option NameKind}:∀{binds:List (Str×Value)} {m:ZC},(∀v,(x,v)∉binds)->bindC kindOf binds m x=m x
 |[],_,_=>rfl
 |(n,v)::r,m,h=>by
  unfold bindC;rw[qh λw hw=>h w (Zk _ hw)]
  split
  .rfl
  .let:x≠n:=by rintro rfl;exact h v Zm
   simp[this]
def qj{kindOf:Str->Option NameKind}{x:Str}:∀{P:ZB} {vs:ZF} {i:Nat} {m:ZC},P.Nodup->P[i]?∣x->vs[i]?∣v->kindOf x∣.local->
 bindL kindOf (P.zip vs) m x∣v
 |[],_,_,_,_,h,_,_=>by simp at h
 | _::_,[],_,_,_,_,h,_=>by simp at h
 | p::P,w::vs,0,m,nd,a,b,c=>by
   simp at a b;subst a;subst b;change bindL kindOf ((p,w)::P.zip vs) m p=_;unfold bindL;rw[qg λv d=>(nodup_cons.mp nd).1 (of_mem_zip d).1,if_pos c];simp
 | p::P,w::vs,i+1,m,nd,a,b,c=>by
   change bindL kindOf ((p,w)::P.zip vs) m x=_;exact qj (nodup_cons.mp nd).2 (a) (b) c
def qk{kindOf:Str->Option NameKind}{x:Str}:∀{P:ZB} {vs:ZF} {i:Nat} {m:ZC},P.Nodup->P[i]?∣x->vs[i]?∣v->kindOf x≠some .local->
 bindC kindOf (P.zip vs) m x∣v
 |[],_,_,_,_,h,_,_=>by simp at h
 | _::_,[],_,_,_,_,h,_=>by simp at h
 | p::P,w::vs,0,m,nd,a,b,c=>by
   simp at a b;subst a;subst b;change bindC kindOf ((p,w)::P.zip vs) m p=_;unfold bindC;rw[qh λv d=>(nodup_cons.mp nd).1 (of_mem_zip d).1,if_neg c];simp
 | p::P,w::vs,i+1,m,nd,a,b,c=>by
   change bindC kindOf ((p,w)::P.zip vs) m x=_;exact qk (nodup_cons.mp nd).2 (a) (b) c
abbrev start(N:ZB)(vs:List V):St:=vs.map some++List.replicate (~~~N-vs.length) none
abbrev rJ(CX:CXT)(P:Program)(w:World)(K:ZA)(mg:ZC)(base:Heap)(N:ZB)(qual:Str)(scope:Scope)(f:Addr)(cd:Value)(A:Around)(outer:List Env)(s:Shared)(H:Hp)(E:XK):Cx where
 prog:=P
 w:=w
 K:=K
 mg:=mg
 base:=base
 A:=A.deeper (envOfC qual scope ⇑s f cd)
 N:=N
 s₀:=s
 H₀:=H
 env:=envOfC qual scope ⇑s f cd
 outer:=outer
 stack:=envOfC qual scope ⇑s f cd::outer
 ex:=[]
 calm:=true
 fn:=λ_=>true
 pn:=[]
 xe:=λe s'=>wpAny (model P w) (A.deeper (envOfC qual scope ⇑s f cd)) (leaving (envOfC qual scope ⇑s f cd) e) (λ_ s''=>CX outer H s E e s'') (λe' s''=>CX outer H s E e' s'') s'
def t9{a:Scope}{n:Nat}{x:Str}(h:a.names.lookup x∣.cell):∃c,(cellsFrom n a.names []).lookup x∣c:=by
 exact isSome_iff_exists.mp (cellsFrom_some a.names n [] (.inl h))
def yI{P:Program}{K:ZA}
 (S:av N ps a) (I:A.handled=none) (g:v9 P w K mg base A outer s H) (Q: ~~~vs= ~~~ps) (r:aF vs us)
 (x:InCallC s ⇑s (bindL (envOfC d a ⇑s f B).kindOf (ps.zip us) λ_=>none) (cellsFrom (⇑s+1) a.names []) (bindC (envOfC d a ⇑s f B).kindOf (ps.zip us) λ_=>none) J):
 Jc (rJ CX P w K mg base N d a f B A outer s H E) [] (start N vs) H J:=by
 let L: ~~~ps<= ~~~N:=by let:=congrArg List.length S.pre;rw[Yh]at this;lia
 let%[t,tk,rfl|C]:=x.done;let l:∀b,b∉(rJ CX P w K mg base N d a f B A outer s H E).ex:=λb z=>absurd (show b∈([])from z) ∅
 show%[%[g.mod,S.kind,ρ,ρ,Zi _,λy z c t j=>?_,λy m=>?_,λy c _ h=>?_,λ_=>I,Around.frames_deeper g.frames,.inr %[ρ|ρ],λb z=>absurd z (l b),g.bs,g.bsz,λb _ _=>l b,λb z=>absurd z (l b),g.funs|g.frf],
  rfl,g.bare,Un.kept C,%[_,x.toInCall.ns|λi y v t j T=>?_],λy c h=>%[_|x.cell y c h],g.hok.fresh (Zi _),λy c h=>?_,λp n=>absurd (show p∈([])from n) ∅,g.hok.kept C|?_]
 .exact name_of_addr x.apart (PySem.mem_of_lookup t) (PySem.mem_of_lookup j)
 .rcases m with m|m
  .exact t9 m
  .exact absurd rfl (S.nofree _ (PySem.mem_of_lookup m))
 .exact Yb (x.above y c (PySem.mem_of_lookup h))
 .let hi:i< ~~~vs:=by
   unfold start at j;by_cases hi:i< ~~~vs
   .exact hi
   .rw[Y8 ↑hi]at j;rw[List.getElem?_replicate]at j
    split at j<;> cases j
  let M:vs[i]?∣v:=by
   unfold start at j;rw[Y7 ↑hi,Zl]at j
   simp_all
  let%[u,G|O]:=r.get M;let n:ps[i]?∣y:=by
   rw[<-S.pre,Y9 ⋯];exact t
  let o:ps.Nodup:=S.pre▸S.nd.sublist (take_sublist _ _);show%[u,O|?_];rcases S.par y (Z8 n)with k|k
  .exact .inl %[k|qj o n G k]
  .let%[c|e]:=t9 k;show .inr %[.inl k,c,e|?_];let q:=x.cell y c e;rw[qk o n G (by change a.names.lookup y≠_;rw[k];decide)]at q;exact q
 .exact g.hok.fresh (Yb (x.above y c (PySem.mem_of_lookup h)))
 .unfold start;change _= ~~~N;rw[Z9,Z6,List.length_replicate]
  lia
def G4{P:Program}{K:ZA}{T kV z U d ct oc:Value}
 (lk:K.lookup f=some %[oc,od,.func (fnOf name c g i a T kV z U an d ct)|ab]) (G:codeIn K d c=true) (S:av N ps a)
 (len:∀vs H Q E,sp vs H Q E-> ~~~vs= ~~~ps)
 (l:∀(A:Around) (outer:List Env) (s:Shared) (H:Hp) (vs:List V) (Q:VK) (E:XK),cj k (A.deeper (envOfC c a ⇑s f d))->sp vs H Q E->
  ∃t,PSs (rJ CX P w K mg base N c a f d A outer s H E) i t/\t {nx:=λ_ j=>Q .non j,rt:=Q} (start N vs) H):
 d9 P w K mg base CX (k+1) f (fnOf name c g i a T kV z U an d ct) ps sp:=by
 show%[len|λA outer s H args us vs Q E L B hb r C=>?_];let Y:=B.mod.kin.keeps λb o e=>(B.bs b o e).1
 let M:=B.mod.nolimit.keeps λb o e=>(B.bs b o e).1
 let m:∀y∈ps.zip us,a.names.lookup y.1∣_\/(a.names.lookup y.1∣_/\((cellsFrom (⇑s+1) a.names []).lookup y.1).isSome=true):=λ⟨n,v⟩ hy=>by
  rcases S.par n (of_mem_zip hy).1 with q|q
  .exact .inl q
  .exact .inr %[q|cellsFrom_some _ _ _ (.inl q)]
 show codeAny_call_function L.depth (Y _ _ lk) rfl S.co S.gen rfl (PySem.W.codeRec_of Y G) (hb _ _ _ _ (wpAny_newFunctionEnv_cells S.kind m λenv he s1 x=>?_));subst he;show%[M.keeps x.toInCall.keep|codeAny_func ?_];let%[t,ht|hq]:=l A outer s H vs Q E (L.deeper _) C;let I:Jc (rJ CX P w K mg base N c a f d A outer s H E) [] _ H s1:=yI S L.hd B (len _ _ _ _ C) r x;show wpAny_mono (ht [] s1 _ H _ I hq) (λfl s' p=>?_) λe s' p=>p
 let fin:∀{h:St} {j:Hp} {v:V} {u:Value},Jc (rJ CX P w K mg base N c a f d A outer s H E) [] h j s'->aN v u->Q v j->CE outer P w H s Q u s':=
  λ{h j v u} J O q=>%[v,j,J.os,J.bare,J.base,J.hok,O|q]
 cases fl with
 | ret u=>
   let%[v,h,j,J,O|q]:=p;exact fin J O q
 | next=>
   let%[h,j,J|q]:=p;exact fin (v:=V.non) J rfl q
 | brk=>
   let%[_,_,_|q]:=p
   simp_all
 | cont=>
   let%[_,_,_|q]:=p;exact False.elim q
section
variable{X:Cx}{x:Str}{p pos:Pos}{e:Expr}{es:List Expr}{t:TA}{id T:String}{r:List V->Hp->VK->Prop}
abbrev tCB(r:List V->Hp->VK->Prop)(t:TA):TE:=λa H Q=>t a H λvs b=>r vs b Q
def AC(d:cD X (.builtin id) r)(f:Gl X x)(g:X.mg x=none)(i:bootBuiltins x∣.builtin id)(j:PA X (e::es) t)(l:x≠"__name__")(a:(x==("__debug__":Str))=false)
 (m:starEach (e::es) X.env=(false,eval e X.env)::starEach es X.env) (b:(backTo pos (starEach es X.env)).any (·.1)=false):PE X (.Call (.Name x p) (e::es) [] pos) (tCB r t):=by
 intro fx s c H Q I h;exact wpAny_Call_Name_kw (jy I f g i (PyProof.Rows.callWith_builtin1 (thP (j pos fx s c H _ I h) λus n vs o q u v=>d fx n c o vs us Q q u v) m b) l a)
def yJ(d:cD X (.type T) r)(f:Gl X x)(g:X.mg x=none)(i:bootBuiltins x∣.type T)(j:PA X (e::es) t)(l:x≠"__name__")(a:(x==("__debug__":Str))=false)
 (m:starEach (e::es) X.env=(false,eval e X.env)::starEach es X.env) (b:(backTo pos (starEach es X.env)).any (·.1)=false):PE X (.Call (.Name x p) (e::es) [] pos) (tCB r t):=by
 intro fx s c H Q I h;exact wpAny_Call_Name_kw (jy I f g i (PyProof.Rows.callWith_type1 (thP (j pos fx s c H _ I h) λus n vs o q u v=>d fx n c o vs us Q q u v) m b) l a)
end
end _LL
namespace _HT
open PySem PyProof.Rows
section
open PySem.SeqAt
open PySem.AutoSeq1 (wpAny_loadPart')
open PySem.MeetsSeq PySem.MeetsSeq2 PySem.MeetsSeq3
#where
abbrev sIx(n d:Nat):Option Int->Nat
 | none=>d
 | some v=>if v<0 then(v+n).toNat else min v.toNat n
def sIx_none(n d:Nat):sIx n d none=d:=rfl
def sIx_nat(n d k:Nat):sIx n d (some k)=min k n:=by
 change(if k<0 then((k:Int) +n).toNat else min _ n)=min k n;rw[if_neg ⋯,Int.toNat_natCast]
end
end _HT
namespace _LL
open PySem PySem.Spec PyProof.Rows
noncomputable abbrev TO:=St->Hp->(Option Int->Hp->Prop)->Prop
abbrev PO(X:Cx)(e:Option Expr)(t:TO):Prop:=
 ∀fx s (a:St) H Q,Jc X fx a H s->t a H Q->
  (X⁻¹) (evalPart e X.env) (λu s'=>∃o b,Jc X fx a b s'/\IsPart u o/\Q o b) X.xe s
abbrev rK:TO:=λ_ H Q=>Q none H
abbrev AD(t:TE):TO:=λa H Q=>t a H λx b=>asI x λi=>Q (some i) b
section
variable{X:Cx}{e:Expr}{te:TE}{lo hi:Option Expr}{tl th:TO}{pos p2:Pos}
def CZ:PO X none rK:=by
 intro fx s a H Q I h;exact Z3 %[none,H,I,.none|h]
def C0(h:PE X e te):PO X (some e) (AD te):=by
 intro fx s a H Q I hw;show thP (h fx s a H _ I hw) λu g x b c d f=>?_
 let%[i,rfl|q]:=iD f;let%[t|rfl]:=d;exact%[some i,b,c,.int i t|q]
abbrev SlR(X:Cx)(r:V->Option Int->Option Int->Hp->VK->Prop):Prop:=
 ∀fx s (a:St) H x v b c lo hi d Q,Jc X fx a H s->aN x v->s.heap.IsSliceOf d b c .none->IsPart b lo->IsPart c hi->r x lo hi H Q->
  ∃T id,typeLookup (.type T) "__getitem__"=pure (some (.builtin id))/\s.TypeIs v T/\(X⁻¹) (getItem v (.ref d)) (EP X fx a Q) X.xe s
abbrev tSl(r:V->Option Int->Option Int->Hp->VK->Prop)(te:TE)(tl th:TO):TE:=λa H Q=>te a H λx b=>tl a b λl c=>th a c λu d=>r x l u d Q
def ub(c:SlR X r)(d:PE X e te)(f:PO X lo tl)(g:PO X hi th):PE X (.Subscript e (.Slice lo hi none p2) pos) (tSl r te tl th):=by
 intro fx s a H Q I h;show Subscript_ (thP (d fx s a H _ I h) λv i x j m n o=>wpAny_Slice (thP (f fx i a j _ m o) λp t l w y pl z=>thP (g fx t a w _ y z) λA B u C E G J=>Z3 ?_));let%[T,id,L,M|N]:=c fx _ a C x v p A l u ⇑B Q (E.kept λb O q=>Z7 _ q) n (Heap.IsSliceOf.new ..) pl G J;exact tail_any M L N (by with_unfolding_all rfl)
abbrev rL(xs:List V)(lo hi:Option Int):List V:=(xs.drop (_HT.sIx xs.length 0 lo)).take (_HT.sIx xs.length xs.length hi-_HT.sIx xs.length 0 lo)
def uc(xs:List V)(lo hi:Option Int): ~~~(rL xs lo hi)<= ~~~xs:=by
 unfold rL;rw[Yh,Yd]
 lia
end
abbrev ixN(n:Nat)(i:Int):Option Nat:=if 0<=i then(if i<n then some i.toNat else none)else if -n<=i then some (i+n).toNat else none
abbrev atI{a:Type}(xs:List a)(i:Int):Option a:=(ixN xs.length i).bind λj=>xs[j]?
def C1(h:ixN n i∣j):seqIndex? i n∣j/\j<n/\ -(n:Int)<=i/\i<n:=by
 unfold ixN at h;by_cases b:0<=i
 .rw[if_pos b]at h;by_cases a:i<n
  .rw[if_pos a]at h;exact%[by rw[seqIndex_of b a,(Za h)],⋯,⋯|a]
  simp_all
 .rw[if_neg b]at h;by_cases a: -n<=i
  .rw[if_pos a]at h;exact%[by rw[seqIndex_neg ⋯ a,(Za h)],⋯,a|⋯]
  .rw[if_neg a]at h;cases h
def rN{a:Type}{xs:List a}{i:Int}{v:a}(h:atI xs i∣v):∃j,seqIndex? i xs.length∣j/\xs[j]?∣v/\j< ~~~xs/\ -xs.length<=i/\i< ~~~xs:=by
 unfold atI at h;cases e:ixN xs.length i with
 | none=>simp_all
 | some j=>
   rw[e]at h;let%[b,c,d|f]:=C1 e;exact%[j,b,h,c,d|f]
def bC{a:Type}{xs:List a}{j:Nat}{v:a}(h:xs[j]?∣v):atI xs j∣v:=by
 let b:=(Xh h).1;let e:ixN xs.length j∣j:=by
  unfold ixN
  simp_all
 unfold atI;exact e▸h
def ud(xs:List a)(v:a):atI (xs++[v]) (-1)∣v:=by
 let b: ~~~(xs++[v])= ~~~xs+1:=by simp
 let e:ixN (xs++[v]).length (-1)∣xs.length:=by
  unfold ixN;rw[b,if_neg (!1),if_pos ⋯]
  congr 1
  lia
 unfold atI
 simp_all
abbrev m7(b:Expr):Prop:=∀o i,subscripted b false o i=operate [o,i] (getItem o i)
abbrev IxR(X:Cx)(r:R2):Prop:=
 ∀b a fx s (c:St) H x y v u Q,Jc X fx c H s->aN x v->aN y u->r x y H Q->
  subscripted a false v u=operate [v,u] (getItem v u)->(X⁻¹) (subscriptTail b a v u) (EP X fx c Q) X.xe s
abbrev MtR(X:Cx)(id:String)(r:V->List V->Hp->VK->Prop):Prop:=
 ∀fx s (a:St) H x xs v us Q,Jc X fx a H s->aN x v->aF xs us->r x xs H Q->
  (X⁻¹) (call (.builtin id) (v::us)) (EP X fx a Q) X.xe s
section
variable{X:Cx}{a b:Expr}{ta tb:TE}{pos:Pos}
def AE(c:IxR X r)(d:PE X a ta)(e:PE X b tb)(f:m7 b):PE X (.Subscript a b pos) (tOp r ta tb):=by
 intro fx s g H Q I h;exact Subscript_ (ES d e I h λv u i x y j l m n q=>c a b fx i g j x y v u Q l m n q (f _ _))
abbrev Fd(K:ZA):R2:=λx y H Q=>asR x λp=>asI y λi=>∃xs,Jb K H p xs/\∃v,atI xs i∣v/\Q v H
abbrev Fe(K:ZA):R2:=λx y H Q=>asR x λp=>asI y λi=>∃xs,SqT K H p xs/\∃v,atI xs i∣v/\Q v H
abbrev Ff:R2:=λx y H Q=>∃z i c,x= .str z/\y= .int i/\ ~~~z<=sizeLine/\atI z.cps.toList i∣c/\Q (.str ⟨#[c]⟩) H
def C2:IxR X (Fd X.K):=by
 intro d e fx s A H x y v u Q I B C h m;let%[p,rfl|f]:=e8 h;let%[i,rfl,xs,E,z,G|q]:=iD f;cases B;let%[t|rfl]:=C;let%[its,r,pl|N]:=I.list E;let%[j,c,f,O,J|L]:=rN G;let%[w,n|g]:=r.get f;let M:= ~~~r;let T:=rH;let fin:EP X fx A Q w s:=%[z,H,I,g|q]
 by_cases o:0<=i
 .let l:=by
   rw[seqIndex_of o L]at c;exact Za c
  exact item_listR pl.isList o ⋯ (by rw[l];simpa using n) fin m
 .let l:(i+its.toArray.size).toNat=j:=by
   rw[seqIndex_neg ⋯ J]at c;rw[Zp,<-M];exact Za c
  exact subscriptTail_builtinR pl.isList.typeIs slot_list_getitem.lookup
   (wpAny_getItem_list_neg pl.isList ⋯ (!2) ⋯ (by rw[l];simpa using n) %[rfl|fin]) m
def Fg:IxR X (Fe X.K):=by
 intro c d fx s g H x y v u Q I l m h n;let%[p,rfl|e]:=e8 h;let%[i,rfl,xs,o,z,A|q]:=iD e;cases l;let%[t|rfl]:=m;let%[its,r,pl|E]:=I.tuple o;let%[j,B,e,G,J|L]:=rN A;let%[w,C|f]:=r.get e;let M:=rH;let fin:EP X fx g Q w s:=%[z,H,I,f|q]
 exact subscriptTail_builtinR pl.typeIs slot_tuple_getitem.lookup
  (getItem_tuple pl ⋯ ⋯ (by rw[Zp,<-r.length];exact B) ↑C %[rfl|fin]) n
def Fh:IxR X Ff:=by
 intro d e fx s A H x y v u Q I g l h m;let%[z,i,c,rfl,rfl,B,n|q]:=h;let%[t|rfl]:=g;let%[t'|rfl]:=l;let%[j,f,o,C,p|r]:=rN n;let w: ~~~z.cps.toList= ~~~z:=by simp[Str.length]
 rw[w]at f p r;let E:=rH;exact tail_any (typeIs_str s z t) slot_str_getitem.lookup (getItem_str (by
  lia) (by rw[f];simpa using o) %[.str _,H,I.tok _,%[_|rfl]|q]) m
def rO(lo hi:Option Int)(n:Nat):(sliceBounds lo hi none n).1=((_HT.sIx n 0 lo:Nat):Int)/\(sliceBounds lo hi none n).2.1=((_HT.sIx n n hi:Nat):Int)/\(sliceBounds lo hi none n).2.2=1:=by
 show%[?_,?_|ρ]
 .cases lo with
  | none=>simp[sliceBounds,_HT.sIx]
  | some i=>
    simp only[sliceBounds,_HT.sIx,getD_none,show(1:Int)>0 by decide,if_true];by_cases h:i<0
    .simp only[h,if_true]<;> lia
    .simp only[h,if_false]<;> lia
 .cases hi with
  | none=>simp[sliceBounds,_HT.sIx]
  | some i=>
    simp only[sliceBounds,_HT.sIx,getD_none,show(1:Int)>0 by decide,if_true];by_cases h:i<0
    .simp only[h,if_true]<;> lia
    .simp only[h,if_false]<;> lia
def pL(its:ZF)(lo hi:Option Int):slicePick its.toArray lo hi none=((its.drop (_HT.sIx its.length 0 lo)).take (_HT.sIx its.length its.length hi-_HT.sIx its.length 0 lo)).toArray:=by
 let%[c,d|e]:=rO lo hi its.toArray.size;unfold slicePick;rw[c,d,e];simp only[sliceRange_one,pick_run]<;> rfl
abbrev Fi(K:ZA):V->Option Int->Option Int->Hp->VK->Prop:=λx lo hi H Q=>∃a xs,x= .ref a/\Jb K H a xs/\∀p,H p=none->Q (.ref p) (Ja H p (.lst (rL xs lo hi)))
def C3:SlR X (Fi X.K):=by
 intro fx s l H x v m n lo hi o Q I e f pl g h;let%[a,xs,rfl,i|q]:=h;cases e;let%[its,r,d|j]:=I.list i;let c:= ~~~r;show%["list",_,slot_list_getitem.lookup,d.isList.typeIs|wpAny_getItem_list_slice d.isList f pl g .none ∅ ?_ (!2)];rw[pL,<-c];show%[.ref ⇑s,_,I.laid (λb p q=>Z7 _ q) (Zi _) ?_,ρ|q _ (I.hok.fresh (Zi _))];exact%[Nat.le_trans (uc xs lo hi) j,_,0,(r.drop _).take _|Zj _ rfl]
abbrev fJ:V->Bool
 | .non=>true
 | .bl _=>true
 | .int _=>true
 | .str _=>true
 | _=>false
abbrev eqV:V->V->Bool
 | .non,.non=>true
 | .bl a,.bl b=>a==b
 | .bl a,.int b=>(if a then 1 else 0)==b
 | .int a,.bl b=>a==(if b then 1 else 0)
 | .int a,.int b=>a==b
 | .str a,.str b=>a==b
 | _,_=>false
def Fj(d:aN y u)(c:aN x v)(f:fJ y=true)(e:fJ x=true):SeqAt.EqAt A s u v (eqV y x):=by
 cases y with
 | non=>
   cases d;cases x with
   | non=>cases c;exact SeqAt.EqAt.same _
   | bl b=>cases c;exact SeqAt.EqAt.none_bool b
   | int b=>have%[t|rfl]:=c;exact SeqAt.EqAt.none_int b t
   | str b=>have%[t|rfl]:=c;exact SeqAt.EqAt.none_str b t
   | _=>exact absurd (show false=true from e) Zt
 | bl a=>
   cases d;cases x with
   | non=>cases c;exact SeqAt.EqAt.bool_none a
   | bl b=>cases c;exact SeqAt.EqAt.bool_bool a b
   | int b=>have%[t|rfl]:=c;exact SeqAt.EqAt.bool_int a b t
   | str b=>have%[t|rfl]:=c;exact SeqAt.EqAt.bool_str a b t
   | _=>exact absurd (show false=true from e) Zt
 | int a=>
   let%[t'|rfl]:=d;cases x with
   | non=>cases c;exact SeqAt.EqAt.int_none a t'
   | bl b=>cases c;exact SeqAt.EqAt.int_bool a t' b
   | int b=>have%[t|rfl]:=c;exact SeqAt.EqAt.int_int a t' b t
   | str b=>have%[t|rfl]:=c;exact SeqAt.EqAt.int_str a t' b t
   | _=>exact absurd (show false=true from e) Zt
 | str a=>
   let%[t'|rfl]:=d;cases x with
   | non=>cases c;exact SeqAt.EqAt.str_none a t'
   | bl b=>cases c;exact SeqAt.EqAt.str_bool a t' b
   | int b=>have%[t|rfl]:=c;exact SeqAt.EqAt.str_int a t' b t
   | str b=>have%[t|rfl]:=c;exact SeqAt.EqAt.str_str a t' b t
   | _=>exact absurd (show false=true from e) Zt
 | _=>exact absurd (show false=true from f) Zt
abbrev eqU(x:V)(u:Value):Bool:=match u with
 | .none=>eqV .non x
 | .bool b=>eqV (.bl b) x
 | .int i _=>eqV (.int i) x
 | .str z _=>eqV (.str z) x
 | _=>false
def AF(r:aN y u)(f:fJ y=true):eqU x u=eqV y x:=by
 cases y with
 | non=>cases r;rfl
 | bl b=>cases r;rfl
 | int i=>have%[t|rfl]:=r;rfl
 | str z=>have%[t|rfl]:=r;rfl
 | _=>exact absurd (show false=true from f) Zt
def jO:∀{xs:List V} {us:ZF},aF xs us->xs.all fJ=true->us.any (eqU x)=xs.any λy=>eqV y x
 | _,_,.nil,_=>rfl
 | y::xs,u::us,.cons r t,f=>by
   rw[all_cons,Zw]at f;rw[Zx,Zx,AF r f.1,jO t f.2]
def iG(d:aN x v)(e:fJ x=true):∀{xs:List V} {us:ZF},aF xs us->xs.all fJ=true->∀u∈us,SeqAt.EqAt A s u v (eqU x u)
 | _,_,.nil,_=>λu c=>by cases c
 | y::xs,u::us,.cons r t,f=>λg c=>by
   rw[all_cons,Zw]at f;rcases mem_cons.mp c with rfl|c
   .rw[AF r f.1];exact Fj r d f.1 e
   .exact iG d e t f.2 g c
abbrev inV(x:V)(xs:List V):Bool:=xs.any λy=>eqV y x
abbrev rIn(K:ZA)(c:Bool):R2:=λx y H Q=>∃p xs,y= .ref p/\(Jb K H p xs\/SqT K H p xs)/\fJ x=true/\xs.all fJ=true/\Q (.bl (if c then !inV x xs else inV x xs)) H
def yK:OpR X (compareOp .In) (rIn X.K false):=by
 intro fx s i H x y v u Q I d f h;let%[p,xs,rfl,c,e,fs|q]:=h;cases f;rcases c with c|c
 .let%[its,r,pl|g]:=I.list c;show SeqAt.in_listAt _ pl.isList (λw hw=>iG d e r fs w ↑hw) %[.bl _,H,I,rfl|?_];rw[show its.toArray.any _=its.any (eqU x) by simp,jO r fs];exact q
 .let%[its,r,pl|g]:=I.tuple c;show SeqAt.in_tupleAt _ pl (λw hw=>iG d e r fs w ↑hw) %[.bl _,H,I,rfl|?_];rw[show its.toArray.any _=its.any (eqU x) by simp,jO r fs];exact q
def rP:OpR X (compareOp .NotIn) (rIn X.K true):=by
 intro fx s i H x y v u Q I d f h;let%[p,xs,rfl,c,e,fs|q]:=h;cases f;rcases c with c|c
 .let%[its,r,pl|g]:=I.list c;show SeqAt.notIn_listAt _ pl.isList (λw hw=>iG d e r fs w ↑hw) %[.bl _,H,I,rfl|?_];rw[show its.toArray.any _=its.any (eqU x) by simp,jO r fs];exact q
 .let%[its,r,pl|g]:=I.tuple c;show SeqAt.notIn_tupleAt _ pl (λw hw=>iG d e r fs w ↑hw) %[.bl _,H,I,rfl|?_];rw[show its.toArray.any _=its.any (eqU x) by simp,jO r fs];exact q
def rQ:OpR X (compareOp .NotIn) (λx y H Q=>∃i j,x= .str i/\y= .str j/\Q (.bl (!(!(Builtin.Str.occurrences j i 0 j.length 1).isEmpty))) H):=by
 intro fx s e H x y v u Q I c d h;let%[i,j,rfl,rfl|q]:=h;let%[t|rfl]:=c;let%[t'|rfl]:=d;exact notIn_str %[.bl _,H,I,rfl|q]
def rR:cD X (.type "list") (λxs H Q=>∃p ys,xs=[.ref p]/\(Jb X.K H p ys\/SqT X.K H p ys)/\∀l,H l=none->Q (.ref l) (Ja H l (.lst ys))):=by
 intro fx s z H xs us Q I r h;let%[p,ys,rfl,g|q]:=h;let%[u,rfl|A]:=dh r;cases A;let fin:∀its,aF ys its-> ~~~ys<=sizeLine->∀c f,(∀b y,s.heap.get? b∣y->c.get? b∣y)->
  c.get? ⇑s∣_->EP X fx z Q _ (s>>>c):=λits d i c f j e=>
  %[.ref ⇑s,_,I.laid j (Zi _) (show bQ X.prog X.w _ c _ (.lst ys)from%[i,its,f,d|e]),rfl|q _ (I.hok.fresh (Zi _))]
 rcases g with g|g
 .let%[its,d,pl|i]:=I.list g;let m:= ~~~d;let%[o,t,v,n|w]:=pl.isList;exact call_list_seq p (.inl rfl) t v w (λc f j e=>fin its d i c f j e) (by simp only[Zp]<;> lia)
 .let%[its,d,pl|i]:=I.tuple g;let m:= ~~~d;let%[o,t,v,n|w]:=pl;exact call_list_seq p (.inr rfl) t v w (λc f j e=>fin its d i c f j e) (by simp only[Zp]<;> lia)
abbrev tyV(K:ZA)(T:String)(x:V)(H:Hp):Prop:=match x with
 | .str _=>T="str"
 | .int _=>T="int"
 | .ref p=>(T="list"/\∃xs,Jb K H p xs)\/(T="tuple"/\∃o,K.lookup p∣o/\o.cls= .type "tuple"/\o.dict=none)\/
  (T="dict"/\((∃c,H p∣.dK c)\/∃c,H p∣.dT c))\/(T="set"/\∃S n,H p∣.set S n)
 | _=>False
def AG(I:Jc X fx q H s)(r:aN x v)(ty:tyV X.K T x H):
 s.TypeIs v T/\∀a,v= .ref a->∃j,s.heap.get? a∣j/\j.dict=none:=by
 cases x with
 | str z=>
   let%[t|rfl]:=r;cases(show T="str" from ty);exact%[typeIs_str s z t|λ_ e=>nomatch e]
 | int i=>
   let%[t|rfl]:=r;cases(show T="int" from ty);exact%[typeIs_int s i t|λ_ e=>nomatch e]
 | ref p=>
   cases r;rcases ty with⟨rfl,xs,l⟩|⟨rfl,o,d,m,f⟩|⟨rfl,d⟩|⟨rfl,S,n,d⟩
   .let%[its,_,pl|_]:=I.list l;show%[pl.isList.typeIs|λa e=>?_];cases e;let%[o,n,e,c,f|_]:=pl;exact%[o,e|f]
   .show%[%[o,I.kIn p o d|m]|λa e=>?_];cases e;exact%[o,I.kIn _ o d|f]
   .let z:∃o,s.heap.get? p∣o/\o.ExactDict:=by
     rcases d with⟨g,d⟩|⟨g,d⟩
     .let%[_,_,_,_,o,_,_,e,ex|_]:=I.hok p _ d;exact%[o,e|ex]
     .let%[_,_,_,_,o,_,_,e,ex|_]:=I.hok p _ d;exact%[o,e|ex]
    let%[o,e|ex]:=z;show%[%[o,e|ex.1]|λa h=>?_];cases h;exact%[o,e|ex.2.1]
   .let%[o,_,_,_,e,ex|_]:=I.hok p _ d;show%[%[o,e|ex.1]|λa h=>?_];cases h;exact%[o,e|ex.2.1]
 | _=>exact False.elim ty
abbrev C4(K:ZA)(T:String)(r:V->List V->Hp->VK->Prop)(d:TE):TE:=λe H Q=>d e H λx c=>tyV K T x c/\r x [] c Q
abbrev tBM(K:ZA)(T:String)(r:V->List V->Hp->VK->Prop)(e:TE)(t:TA):TE:=λc H Q=>e c H λx d=>tyV K T x d/\t c d λxs f=>r x xs f Q
variable{o e:Expr}{es:List Expr}{to:TE}{t:TA}{name:Str}{apos cpos:Pos}{T id:String}{r:V->List V->Hp->VK->Prop}
def Fk(l:PlainAttrs T)(slot:Slot T name id)(f:typeOf (.builtin id)=pure (.type "method_descriptor"))(m:MtR X id r)(n:PE X o to)
 (c:attributeBase o name X.env (eval o X.env)=eval o X.env) (d:(apos.endLine==cpos.line)=true):PE X (.Call (.Attribute o name apos) [] [] cpos) (C4 X.K T r to):=by
 intro fx s g H Q I h;show wpAny_Call_method0_late c d (thP (n fx s g H _ I h) λv p x q i j ⟨ty,u⟩=>?_);let%[w|y]:=AG i j ty;exact%[T,id,l,slot,f,w,y|Calls.callWith_builtin rfl (PySem.evalArgs_none (m fx p g q x [] v [] Q i j .nil u))]
def G5(p:PlainAttrs T)(slot:Slot T name id)(i:typeOf (.builtin id)=pure (.type "method_descriptor"))(q:MtR X id r)(u:PE X o to)(w:PA X (e::es) t)
 (d:attributeBase o name X.env (eval o X.env)=eval o X.env)
 (g:((backTo cpos (starEach (e::es) X.env)).all (λx=>!x.1)&&(backToKw cpos (keywordEach [] X.env)).all (λx=>x.1.isSome)
  && decide (~~~(e::es)+ ~~~([]:List Keyword)+(if([]:List Keyword).isEmpty then 0 else 1)<30))=true)
 (f:(apos.endLine==cpos.line)=true) (y:starEach (e::es) X.env=(false,eval e X.env)::starEach es X.env) (c:(backTo cpos (starEach es X.env)).any (·.1)=false):
 PE X (.Call (.Attribute o name apos) (e::es) [] cpos) (tBM X.K T r to t):=by
 intro fx s j H Q I h;show wpAny_Call_method_late d g f rfl (thP (u fx s j H _ I h) λv z x A l m ⟨ty,B⟩=>?_);let%[C|E]:=AG l m ty;show%[T,id,p,slot,i,C,E|?_];let n:=w cpos fx z j A _ l B;rw[y]at n ⊢;exact Calls.callWith_builtin (by change(false||(backTo cpos _).any _)=false;rw[c]<;> rfl) (Calls.evalArgs_plain (thn n λus G ⟨vs,J,L,M,N⟩=>q fx G j J x vs v us Q L m M N))
end
abbrev MtM(X:Cx)(id:String)(r:V->List V->Hp->VK->Prop):Prop:=
 ∀fx s (a:St) H x xs v us Q,Jc X fx a H s->aN x v->aF xs us->r x xs H Q->
  (X⁻¹) (call (.builtin id) (v::us)) (EP X fx a Q) X.xe s
def aF.one:∀{x:V} {us:ZF},aF [x] us->∃u,us=[u]/\aN x u
 | _,_,.cons r .nil=>%[_,rfl|r]
def aF.zero:∀{us:ZF},aF [] us->us=[]
 | _,.nil=>rfl
def aF.dropLast{xs:List V}{us:ZF}(h:aF xs us):aF xs.dropLast us.dropLast:=by
 induction h with
 | nil=>exact .nil
 | cons r t a=>
   cases t with
   | nil=>exact .nil
   | cons q t'=>exact .cons r a
def aF.eraseIdx:∀{xs:List V} {us:ZF} i,aF xs us->aF (xs.eraseIdx i) (us.eraseIdx i)
 | _,_,_,.nil=> .nil
 | _,_,0,.cons _ t=>t
 | _,_,i+1,.cons r t=> .cons r (aF.eraseIdx i t)
def aF.reverse(h:aF xs us):aF xs.reverse us.reverse:=by
 induction h with
 | nil=>exact .nil
 | cons r t a=>rw[List.reverse_cons,List.reverse_cons];exact aF.append a (.cons r .nil)
def aF.rep(h:aF xs us):∀k:Nat,aF (List.replicate k xs).flatten (List.replicate k us).flatten
 | 0=> .nil
 | k+1=>by
   exact aF.append h (aF.rep h k)
def qo:∀(l:List a) (i:Nat),~~~(l.eraseIdx i)<= ~~~l
 |[],_=>Zi _
 | _::_,0=>Yc _
 | _::r,i+1=>succ_le_succ (qo r i)
def qp(its:ZF):∀k acc,
 List.foldl (λa x2=>a++x2) acc.toArray (List.replicate k its.toArray)=(acc++(List.replicate k its).flatten).toArray
 | 0,acc=>by simp
 | k+1,acc=>by
   let e:acc.toArray++its.toArray=(acc++its).toArray:=by simp
   let b:(acc++its) ++(List.replicate k its).flatten=acc++(List.replicate (k+1) its).flatten:=by
    rw[List.replicate_succ,List.flatten_cons,Ze]
   rw[<-b,<-qp its k _,<-e,List.replicate_succ,Y6]
section
#version
variable{l b:Addr}{xs ys zs:List V}
def Jc.lset{its its':ZF}{n:Nat}{f:ZJ->ZJ}{t':Nat}(I:Jc X fx σ H s)(a:H l<*xs)
 (e:s.heap.get? l=some {cls:= .type "list",data:= .seq its.toArray n}) (c:f its.toArray=its'.toArray) (d:aF ys its') (g: ~~~ys<=sizeLine):
 Jc X fx σ (Ja H l (.lst ys)) {s with heap:=s.heap.update l (Obj.mapSeq f),toks:=t'}:=by
 let q:=PySem.IsL.update e f;rw[c]at q;show I.write (a▸trivial) (.inl rfl) (λj u h i=>(get?_update_other s.heap _ (Ne.symm h)).trans i) %[_|q] ?_;exact%[g,its',_,d|q]
def Jc.lnew(I:Jc X fx σ H s)(a:aF ys its)(c: ~~~ys<=sizeLine):
 Jc X fx σ (Ja H ⇑s (.lst ys)) {s with heap:=s.heap.push {cls:= .type "list",data:= .seq its.toArray},toks:=t'}:=
 I.laid (λ_ _ q=>Z7 _ q) (Zi _) %[c,its,0,a|Zj _ rfl]
def Jc.fresh(I:Jc X fx σ H s):H ⇑s=none:=I.hok.fresh (Zi _)
def Jc.lstM(I:Jc X fx σ H s)(a:H l<*xs): ~~~xs<=sizeLine/\∃its n,aF xs its/\ ~~~xs= ~~~its/\s.heap.get? l=some {cls:= .type "list",data:= .seq its.toArray n}:=by
 let%[z,its,n,r|e]:=I.hok l _ a;exact%[z,its,n,r,~~~r|e]
def ue{n:Nat}(h:n<=sizeLine):Builtin.List.listTooLong n=false:=by
 unfold Builtin.List.listTooLong
 simp_all
end
section
variable{X:Cx}
abbrev rS:V->List V->Hp->VK->Prop:=λx vs H Q=>asR x λl=>∃y,vs=[y]/\∃xs,H l<*xs/\ ~~~xs<sizeLine/\Q .non (Ja H l (.lst (xs++[y])))
def qq:MtM X "list.append" rS:=by
 intro fx s f H x vs v us Q I b c h;let%[l,rfl,y,rfl,xs,a,g|q]:=e8 h;cases b;let%[u,rfl|d]:=c.one;let%[z,its,n,r,i|e]:=I.lstM a;show call_meets F.slot_list_append %[_,e|rfl] F.entry_list_append (F.args_list_append_2 _ _) (PySem.list_append l its.toArray n u (!2)) %[e,.non,_,I.lset a e ∅ (r.append (.cons d .nil)) ?_,rfl|q];rw[Z9,Yg]
 lia
abbrev rT:V->List V->Hp->VK->Prop:=λx vs H Q=>∃l b xs zs,x= .ref l/\vs=[.ref b]/\H l<*xs/\H b<*zs/\ ~~~xs+ ~~~zs<=sizeLine/\Q .non (Ja H l (.lst (xs++zs)))
def yL:MtM X "list.extend" rT:=by
 intro fx s w H x vs v us Q I f g h;let%[l,b,xs,zs,rfl,rfl,d,i,y|q]:=h;cases f;let%[u,rfl|j]:=g.one;cases j;let%[z,its,n,r,A|e]:=I.lstM d;let%[B,its2,m,o,p|t]:=I.lstM i;let c:its.toArray.size+its2.toArray.size<=sizeLine:=!2
 let a: ¬ (!its.toArray.isEmpty&&Builtin.List.listTooLong (its.toArray.size+its2.toArray.size))=true:=by
  rw[ue c,Bool.and_false];exact Zt
 show call_meets F.slot_list_extend %[_,e|rfl] F.entry_list_extend (F.args_list_extend_2 _ _)
  (AutoSeq1.list_extend_list_list_0 l its.toArray n b its2.toArray m a ⋯ ⋯) %[e,t,.non,_,I.lset d e ∅ (r.append o) ?_,rfl|q]
 simp_all
abbrev G6:V->List V->Hp->VK->Prop:=λx vs H Q=>∃l xs y,x= .ref l/\vs=[]/\H l<*xs/\xs[~~~xs-1]?∣y/\Q y (Ja H l (.lst xs.dropLast))
def Fl:MtM X "list.pop" G6:=by
 intro fx s j H x vs v us Q I d f h;let%[l,xs,y,rfl,rfl,c,g|q]:=h;cases d;let a:=f.zero;subst a;let%[z,its,n,r,m|e]:=I.lstM c;let%[u,o|i]:=r.get g;let b:its.toArray[its.toArray.size-1]?∣u:=by
  simp_all
 show call_meets F.slot_list_pop %[_,e|rfl] F.entry_list_pop (F.args_list_pop_1 _) (MeetsSeq.list_pop_last l its.toArray n u b (!2)) %[e,y,_,I.lset c e ?_ r.dropLast ?_,i|q]
 .simp
 .rw[List.length_dropLast]
  lia
abbrev Fn:R2:=λx y H Q=>∃l b xs zs,x= .ref l/\y= .ref b/\H l<*xs/\H b<*zs/\ ~~~xs+ ~~~zs<=sizeLine/\∀p,H p=none->Q (.ref p) (Ja H p (.lst (xs++zs)))
def Fo:OpR X (binaryOp .Add) Fn:=by
 intro fx s o H x y v u Q I a c h;let%[l,b,xs,zs,rfl,rfl,d,f,p|q]:=h;cases a;cases c;let%[z,its,n,r,t|e]:=I.lstM d;let%[w,its2,A,g,i|j]:=I.lstM f;show PySem.P.add_list e j ?_ (by rw[Zp,Zp];lia);let m:its.toArray++its2.toArray=(its++its2).toArray:=by simp
 rw[m];exact%[.ref _,_,I.lnew (r.append g) (by rw[Z9];lia),ρ|q _ I.fresh]
abbrev Fp:R2:=λx y H Q=>∃l k xs,x= .ref l/\y= .int k/\H l<*xs/\ -(2^63)<=k/\k<2^63/\ ~~~xs*k.toNat<=sizeLine/\
 ∀p,H p=none->Q (.ref p) (Ja H p (.lst (List.replicate k.toNat xs).flatten))
def C5(xs:List a)(k:Nat):(List.replicate k xs).flatten.length=k* ~~~xs:=by
 simp
def Fq:OpR X (binaryOp .Mult) Fp:=by
 intro fx s E H x y v u Q I o p h;let%[l,k,xs,rfl,rfl,w,A,B,j|q]:=h;cases o;let%[t|rfl]:=p;let%[z,its,n,r,C|e]:=I.lstM w;let c:its.toArray.size*k.toNat<=sizeLine:=by rw[Zp,<-C];exact j
 let d: ¬ its.toArray.size*k.toNat>(2^63-1)/8:=by
  let:sizeLine<=(2^63-1)/8:=!1
  lia
 let f: ¬ (!Builtin.List.listFitsIndex k)=true:=by
  rw[fitsIndex_both A B];exact Zt
 let b: ¬ Builtin.List.listTooLong (its.toArray.size*k.toNat)=true:=by
  rw[ue c];exact Zt
 let g:List.foldl (λi x2=>i++x2) #[] (List.replicate (if its.toArray.isEmpty=true then 0 else k.toNat) its.toArray)=(List.replicate k.toNat its).flatten.toArray:=by
  let G:∀m,List.foldl (λi x2=>i++x2) #[] (List.replicate m its.toArray)=(List.replicate m its).flatten.toArray:=λm=>by
   let:=qp its m []
   simp_all
  cases its with
  | nil=>simp
  | cons a J=>simp_all
 show wpAny_binaryOp_repeat_ref (!1) %[_,e|rfl] (λs'=>typeIs_int s' k t) noFill_list_mul F.fills_int_mul F.slot_int_rmul repeat_list F.slot_int_index.lookup
  (call_meets F.slot_int_rmul (typeIs_int s k t) F.entry_int_rmul (F.args_int_rmul_2 _ _) (int___rmul___int_list k t l its.toArray n)
   %[e,rfl,%[_,e|rfl]|call_meets F.slot_list_mul %[_,e|rfl] F.entry_list_mul (F.args_list_mul_2 _ _) (AutoListH.list___mul___list_int_3 l its.toArray n k t f d b) %[e|?_]])
 rw[g];exact%[.ref _,_,I.lnew (r.rep k.toNat) (by rw[C5,Nat.mul_comm];exact j),ρ|q _ I.fresh]
end
section
variable{κ:Type}[DecidableEq κ]
abbrev bu(a:List (κ×V))(k:κ):Option V:=(a.find? λb=>decide (b.1=k))\2
abbrev cB(a:List (κ×V))(k:κ)(v:V):List (κ×V):=
 if(a.any λb=>decide (b.1=k))=true then a.map (λb=>if b.1=k then(b.1,v)else b)else a++[(k,v)]
def cV{p:κ×V}{r:List _}{k:κ}(e:p.1=k):bu (p::r) k∣p.2:=by simp[bu,e]
def b8{p:κ×V}{r:List _}{k:κ}(e: ¬ p.1=k):bu (p::r) k=bu r k:=by simp[bu,e]
def fK(k:κ):∀a,(a.any λb=>decide (b.1=k))=(bu a k).isSome
 |[]=>rfl
 | p::r=>by
   rw[Zx];by_cases e:p.1=k
   .simp only[cV e,Zf e,Bool.true_or,Option.isSome_some]
   .rw[b8 e,Zh e,Bool.false_or];exact fK k r
def ff(a:List _)(k:κ)(v:V): ~~~(cB a k v)<= ~~~a+1:=by
 unfold cB
 split
 .simp
 simp_all
def eJ{k:κ}(v:V)(h:bu a k=none):cB a k v=a++[(k,v)]:=by
 unfold cB;rw[fK,h];exact if_neg (!1)
def fI.isSome_eq(r:fI o u):o.isSome=u.isSome:=by
 cases o with
 | none=>cases u with
   | none=>rfl
   | some _=>exact(r).elim
 | some _=>cases u with
   | none=>exact(r).elim
   | some _=>rfl
def fI.getD{o:Option V}{u:Option Value}{d:V}{a:Value}(r:fI o u)(b:aN d a):aN (o.getD d) (u.getD a):=by
 cases o with
 | none=>cases u with
   | none=>exact b
   | some _=>exact(r).elim
 | some _=>cases u with
   | none=>exact(r).elim
   | some _=>exact r
def KV.val{vs:List (κ×Value)}(r:KV a vs)(k:κ):fI (bu a k) (valueAt vs k):=by
 induction r with
 | nil=>exact True.intro
 | @cons p q ps qs h t f=>
   let%[d|g]:=h;by_cases e:p.1=k
   .let c:=d.symm.trans e;let b:valueAt (q::qs) k∣q.2:=by simp[valueAt,c]
    rw[cV e,b];exact g
   .let c: ¬ q.1=k:=λz=>e (d.trans z)
    let b:valueAt (q::qs) k=valueAt qs k:=by simp[valueAt,c]
    rw[b8 e,b];exact f
def KV.any(r:KV a vs)(k:κ):(a.any λb=>decide (b.1=k))=vs.any λb=>decide (b.1=k):=by
 induction r with
 | nil=>rfl
 | cons h t c=>simp_all
def KV.repl(r:KV c vs)(k:κ)(d:aN y u):
 KV (c.map λa=>if a.1=k then(a.1,y)else a) (vs.map λa=>if a.1=k then(a.1,u)else a):=by
 induction r with
 | nil=>exact .nil
 | @cons p q ps qs h t f=>
   rw[Ym,Ym];show .cons ?_ f;let%[b|g]:=h;by_cases e:p.1=k
   .rw[if_pos e,if_pos (b.symm.trans e)];exact%[b|d]
   .rw[if_neg e,if_neg (λz=>e (b.trans z))];exact%[b|g]
def KV.put(r:KV a vs)(k:κ)(b:aN y u):KV (cB a k y) (stored vs k u):=by
 unfold cB stored;rw[r.any k];by_cases e:(vs.any λc=>decide (c.1=k))=true
 .rw[if_pos e,if_pos e];exact r.repl k b
 .rw[if_neg e,if_neg e];exact Paired.snoc r %[rfl|b]
def KV.length{a:List (κ×V)}{vs:List _}(r:KV a vs): ~~~a= ~~~vs:=Paired.length r
end
def lW{P:Program}(r:aN (kV k) u):(aL P w).is k u=true:=by
 cases k with
 | inl i=>have%[t|e]:=(r);subst e;exact t5 P w i t
 | inr x=>have%[t|e]:=(r);subst e;exact t7 P w x t
def qr{P:Program}:∀{ks:List Key} {us:ZF},aF (ks.map kV) us->ItemsAre (aL P w) ks us
 |[],_,r=>by cases r;exact .nil
 | k::ks,_,r=>by
   cases r with
   | cons h t=>exact .cons (lW h) (qr t)
noncomputable abbrev KT(H:Hp):List (List Key×V)->List (List Key×Addr×Value)->Prop:=Paired λp q=>p.1=q.1/\H q.2.1&&&p.1.map kV/\aN p.2 q.2.2
def KT.val{a:List (List Key×V)}{xs:List (List Key×Addr×Value)}(r:KT H a xs)(k:List Key):fI (bu a k) ((atKey xs k)\2):=by
 induction r with
 | nil=>exact True.intro
 | @cons p q ps qs h t f=>
   let%[d,_|g]:=h;by_cases e:p.1=k
   .let c:=d.symm.trans e;let b:atKey (q::qs) k∣q.2:=by simp[atKey,c]
    rw[cV e,b];exact g
   .let c: ¬ q.1=k:=λz=>e (d.trans z)
    let b:atKey (q::qs) k=atKey qs k:=by simp[atKey,c]
    rw[b8 e,b];exact f
def KT.repl(r:KT H b xs)(k:List Key)(f:aN y u):
 KT H (b.map λc=>if c.1=k then(c.1,y)else c) (xs.map (putAt k u)):=by
 induction r with
 | nil=>exact .nil
 | @cons p q ps qs h t g=>
   rw[Ym,Ym];show .cons ?_ g;let%[a,d|i]:=h;unfold putAt;by_cases e:p.1=k
   .rw[if_pos e,if_pos (a.symm.trans e)];exact%[a,d|f]
   .rw[if_neg e,if_neg (λz=>e (a.trans z))];exact%[a,d|i]
def KT.put(r:KT H a xs)(k:List Key)(d:H b&&&k.map kV)(c:aN y u):
 KT H (cB a k y) (storedH xs k b u):=by
 let e:(a.any λf=>decide (f.1=k))=(atKey xs k).isSome:=by
  rw[fK,(r.val k).isSome_eq,isSome_map]
 unfold cB storedH;rw[e];by_cases q:(atKey xs k).isSome=true
 .rw[if_pos q,if_pos q];exact r.repl k c
 .rw[if_neg q,if_neg q];exact Paired.snoc r %[rfl,d|c]
def KT.keeps(r:KT H a xs)(c:∀b ys,H b&&&ys->d b&&&ys):KT d a xs:=
 Paired.mapP r λ_ _ z=>%[z.1,c _ _ z.2.1|z.2.2]
section
variable{P:Program}{w:World}{H:Hp}{h:Heap}{a:Addr}
def Ec(ok:HOk P w H h)(e:Rd H a u):bQ P w H h a u:=e.ok ok
def nB(ok:HOk P w H h)(e:Rd H a (.dK b)): ~~~b<=sizeLine/\(a==sysModules)=false/\∃vs,KV b vs/\h.DictOf (aL P w) a vs:=
 Ec ok e
def lZ(ok:HOk P w H h)(e:H a∣.dK b): ~~~b<=sizeLine/\(a==sysModules)=false/\∃vs,KV b vs/\h.DictOf (aL P w) a vs:=nB ok (.inl e)
def nC(ok:HOk P w H h)(e:H a&&&ks.map kV):(tupleKind (aL P w)).is h ks a:=by
 let%[_,its,r,o,b,c,n|d]:=(ok a _ e)
 exact%[o,its.toArray,n,b,c,d|qr r]
def qt(ok:HOk P w H h)(e:Rd H a (.dT b)): ~~~b<=sizeLine/\(a==sysModules)=false/\
 ∃xs,KT H b xs/\h.DictOfH (tupleKind (aL P w)) a xs:=by
 let%[z,y,xs,r,o,d,f,g,i,j,n|s]:=(Ec ok e)
 show%[z,y,xs,r,o,d,f,g,i,j,n,λx c=>?_|s];let all:∀{l:List _} {m:List _},KT H l m->∀x∈m,(tupleKind (aL P w)).is h x.1 x.2.1:=by
  intro l m q
  induction q with
  | nil=>simp
  | @cons p q ps qs v t u=>
    intro x c;rcases mem_cons.mp c with e|c
    .exact nC ok (!2)
    .exact u x c
 exact all r x c
def G7(ok:HOk P w H h)(e:H a∣.dT b): ~~~b<=sizeLine/\(a==sysModules)=false/\
 ∃xs,KT H b xs/\h.DictOfH (tupleKind (aL P w)) a xs:=qt ok (.inl e)
end
abbrev cE(H:Hp)(a:Addr)(y:V)(r:Option V):Prop:=
 (∃c k,Rd H a (.dK c)/\y=kV k/\r=bu c k)\/∃c k b,Rd H a (.dT c)/\y= .ref b/\H b&&&k.map kV/\r=bu c k
abbrev je(H:Hp)(a:Addr)(y v:V)(d:Hp):Prop:=
 (∃c k,H a∣.dK c/\y=kV k/\ ~~~c<sizeLine/\d=Ja H a (.dK (cB c k v)))\/
 ∃c k b,H a∣.dT c/\y= .ref b/\H b&&&k.map kV/\ ~~~c<sizeLine/\d=Ja H a (.dT (cB c k v))
def cE.k{k:Key}(e:H a∣.dK b):cE H a (kV k) (bu b k):= .inl %[b,k,.inl e,rfl|rfl]
def je.k{k:Key}(e:H a∣.dK b)(c: ~~~b<sizeLine):je H a (kV k) v (Ja H a (.dK (cB b k v))):= .inl %[b,k,e,rfl,c|rfl]
section
#version
variable{a:Addr}{y v:V}{u r:Value}{o:Option V}{A:Around}{E:ZD}
def Jc.big(I:Jc X fx σ H s):sysModules<⇑s:=by
 exact Nat.lt_trans (!1) ((I.mod.glob.keeps I.bk).lt)
def yM(t:A.units+1<cLine)(I:Jc X fx σ H s)(g:cE H a y (some v))(q:aN y u)(h:∀f s',Jc X fx σ H s'->aN v f->Q f s'):
 wpAny (model X.prog X.w) A (getItem (.ref a) u) Q E s:=by
 rcases g with⟨i,k,e,j,l⟩|⟨i,k,b,e,j,w,l⟩
 .subst j;let%[z,B,vs,c|m]:=nB I.hok e;let%[f,hw|d]:=fI.some_of (l▸c.val k);exact wpAny_getItem_of (lW q) m.mapOf hw (h f _ (I.tok _) d)
 .subst j;cases(q);let%[z,B,xs,c|m]:=qt I.hok e;let%[f,hw|d]:=fI.some_of (l▸c.val k);let%[p,C|n]:=map_eq_some_iff.mp hw;show wpAny_getItem_heap (tupleKind_room_in1 t) (nC I.hok w) m C ?_;rw[n];exact h f _ (I.tok _) d
def d_in(n:A.units+1<cLine)(I:Jc X fx σ H s)(g:cE H a y o)(m:aN y u)(h:∀s',Jc X fx σ H s'->Q (.bool o.isSome) s'):
 wpAny (model X.prog X.w) A (compareOp .In u (.ref a)) Q E s:=by
 rcases g with⟨d,k,e,f,l⟩|⟨d,k,b,e,f,p,l⟩
 .subst f;let%[z,i,vs,c|j]:=nB I.hok e;show wpAny_in_of (lW m) i j.mapOf ?_;rw[<-(c.val k).isSome_eq,<-l];exact h _ (I.tok _)
 .subst f;cases(m);let%[z,i,xs,c|j]:=qt I.hok e;show wpAny_in_heap (tupleKind_room_in1 n) (nC I.hok p) i j ?_;let q:=(c.val k).isSome_eq;rw[isSome_map]at q;rw[<-q,<-l];exact h _ (I.tok _)
def C6(n:A.units+1<cLine)(I:Jc X fx σ H s)(g:cE H a y o)(m:aN y u)(h:∀s',Jc X fx σ H s'->Q (.bool (!o.isSome)) s'):
 wpAny (model X.prog X.w) A (compareOp .NotIn u (.ref a)) Q E s:=by
 rcases g with⟨d,k,e,f,l⟩|⟨d,k,b,e,f,p,l⟩
 .subst f;let%[z,i,vs,c|j]:=nB I.hok e;show wpAny_notIn_of (lW m) i j.mapOf ?_;rw[<-(c.val k).isSome_eq,<-l];exact h _ (I.tok _)
 .subst f;cases(m);let%[z,i,xs,c|j]:=qt I.hok e;show wpAny_notIn_heap (tupleKind_room_in1 n) (nC I.hok p) i j ?_;let q:=(c.val k).isSome_eq;rw[isSome_map]at q;rw[<-q,<-l];exact h _ (I.tok _)
def m8(I:Jc X fx σ H s)(e:Mut (H a))(f:SameBut a s.heap c)(g:∃q,c.get? a∣q)(new:bQ X.prog X.w (Ja H a d) c a d):
 Jc X fx σ (Ja H a d) {s with heap:=c,toks:=t'}:=
 I.write e (.inl rfl) (λb q h z=>(f.2 b h).trans z) g new
def wa{P:Program}(z: ~~~b<=sizeLine)(d:(a==sysModules)=false)(c:KV b vs)(e:f.DictOf (aL P w) a vs):
 bQ P w g f a (.dK b):=%[z,d,vs,c|e]
def yN(M:A.units+1<cLine)(I:Jc X fx σ H s)(g:je H a y v N)(C:aN y u)(G:aN v r)(h:∀s',Jc X fx σ N s'->Q () s'):
 wpAny (model X.prog X.w) A (setItem (.ref a) u r) Q E s:=by
 rcases g with⟨d,k,e,m,l,n⟩|⟨d,k,b,e,m,J,l,n⟩
 .subst m n;let%[z,p,vs,f|t]:=lZ I.hok e;let O: ~~~vs<=sizeLine:= ~~~f▸z;let w: ~~~(cB d k v)<=sizeLine:=by let:=ff d k v;lia
  exact wpAny_setItem_pairs (lW C) t λT i B=>h _ (m8 I (e▸True.intro) B (let⟨q,_,_,j,_⟩:=i;%[q|j]) (wa w p (f.put k G) i))
 .subst m n;cases(C);let%[z,p,xs,f|t]:=G7 I.hok e;let O: ~~~xs<=sizeLine:=(Paired.length f)▸z;let w: ~~~(cB d k v)<=sizeLine:=by let:=ff d k v;lia
  show wpAny_setItem_heap (tupleKind_room_in1 M) (nC I.hok J) t λT i B=>h _ ?_
  let%[q,U,Y,j,h2,h3,h4,_|h5]:=i;show m8 I (e▸True.intro) B %[q|j] %[w,p,_,(f.put k J G).keeps λc ys L=>?_,q,U,Y,j,h2,h3,h4|h5];rw[am (GI L e (λz=>nomatch z))];exact L
end
abbrev Fs(i:Expr):Prop:=∀a b,subscripted i false a b=operate [a,b] (getItem a b)
def C7{T id:String}
 (l:typeLookup (.type T) "__getitem__"=pure (some (.builtin id))) (m:Fs a)
 (h:↥A (eval c env) (λo e=>↥A (eval a env) (λi b=>b.TypeIs o T/\↥A (getItem o i) Q E b) E e) E s):
 ↥A (eval (.Subscript c a pos) env) Q E s:=by
 show Subscript_ (wpAny_mono h (λo e g=>wpAny_mono g (λi b d=>?_) λ_ _ x=>x) λ_ _ x=>x);let%[n|d]:=d;show Z2 (Z2 (wpAny_specialOf n l ?_));let fin:↥A (subscripted a false o i) (λr f=>↥A (letTemporaryGo c o r>>= λ_=>pure r) Q E f) E b:=by
  rw[m o i];exact wpAny_operating (wpAny_mono d (λr f j=>Z2 (wpAny_letTemporaryGo (Z3 j))) λ_ _ x=>x)
 first
  | exact Z3 (Z2 fin)
  | lia
  | lia
def l7{X:Cx}(I:Jc X fx f H s)(g:cE H a y o):s.TypeIs (.ref a) "dict":=by
 rcases g with⟨c,k,e,_,_⟩|⟨c,k,b,e,_,_,_⟩
 .let%[_,_,vs,_|d]:=nB I.hok e;exact d.typeIs
 .let%[_,_,xs,_|d]:=qt I.hok e;exact d.typeIs
def uf{X:Cx}(I:Jc X fx i H s)(g:cE H a y o):
 ∀b,Value.ref a= .ref b->∃c,s.heap.get? b∣c/\c.dict=none:=λb q=>by
 cases q;rcases g with⟨d,k,e,_,_⟩|⟨d,k,b,e,_,_,_⟩
 .let%[_,_,vs,_,c,_,_,f,h|_]:=nB I.hok e;exact%[c,f|h.2.1]
 .let%[_,_,xs,_,c,_,_,f,h|_]:=qt I.hok e;exact%[c,f|h.2.1]
abbrev AH(d ty:TE):TE:=λb H Q=>d b H λx e=>ty b e λy c=>∃a v,x= .ref a/\cE c a y (some v)/\Q v c
abbrev C8(ty d:TE):TE:=λb H Q=>ty b H λy e=>d b e λx c=>∃a o,x= .ref a/\cE c a y o/\Q (.bl o.isSome) c
abbrev rV(ty d:TE):TE:=λb H Q=>ty b H λy e=>d b e λx c=>∃a o,x= .ref a/\cE c a y o/\Q (.bl (!o.isSome)) c
abbrev nD(d ty e:TE):TS:=λD b H=>e b H λv f=>d b f λx g=>ty b g λy h=>∃a c,x= .ref a/\je h a y v c/\D.nx b c
section
variable{X:Cx}{o i e value:Expr}{pos pos' tpos:Pos}{td ty tv:TE}
def C9(f:X.A.units+1<cLine)(j:PE X o td)(hi:PE X i ty)(l:Fs i):PE X (.Subscript o i pos) (AH td ty):=by
 intro fx s c H Q I h;show C7 PySem.F.slot_dict_getitem.lookup l (thP (j fx s c H _ I h) λu m x n p q r=>thP (hi fx m c n _ p r) λB C y t d w ⟨a,v,ex,g,z⟩=>?_);subst ex;obtain rfl:u=Value.ref a:=q;exact%[l7 d g|yM f d g w λE G A b=>%[v,t,A,b|z]]
def AI(c:X.A.units+1<cLine)(hi:PE X i ty)(d:PE X o td):PC X .In i o (C8 ty td):=by
 intro fx s b H Q I h;show thP (hi fx s b H _ I h) λz f y j l m n=>thP (d fx f b j _ l n) λu A x p q r ⟨a,t,ex,g,v⟩=>?_
 subst ex;obtain rfl:u=Value.ref a:=r;exact d_in c q g m λB w=>%[.bl t.isSome,p,w,rfl|v]
def yO(c:X.A.units+1<cLine)(hi:PE X i ty)(d:PE X o td):PC X .NotIn i o (rV ty td):=by
 intro fx s b H Q I h;show thP (hi fx s b H _ I h) λw f y j l m n=>thP (d fx f b j _ l n) λu z x p q r ⟨a,A,ex,g,t⟩=>?_
 subst ex;obtain rfl:u=Value.ref a:=r;exact C6 c q g m λB v=>%[.bl _,p,v,rfl|t]
def Da(c:X.A.units+1<cLine)(d:PE X o td)(hi:PE X i ty)(f:PE X value tv)(j:swapsWith value (some (.Subscript o i pos')) pos.line X.env=pure false):
 PS X (.Assign [.Subscript o i pos'] value pos) (nD td ty tv):=by
 intro fx s b H D I h;show wpAny_Assign_Subscript (thP (f fx s b H _ I h) λr l v m n p q=>thP (d fx l b m _ n q) λu t x w z A B=>thP (hi fx t b w _ z B) λM N y O C E ⟨a,G,ex,g,J⟩=>?_) j;subst ex;obtain rfl:u=Value.ref a:=A;exact yN c C g E p λQ L=>%[b,G,L|J]
end
def AJ{P:Program}(h:Heap)(a:sysModules<h.objs.size):bQ P w H (h.push {cls:= .type "dict",data:= .dict #[]}) h.objs.size (.dK []):=
 %[Xa _,beq_eq_false_iff_ne.mpr (Ne.symm (Zs a)),[],.nil|Heap.DictOf.new h]
abbrev wb:TE:=λ_ H Q=>∀p,H p=none->Q (.ref p) (Ja H p (.dK []))
section
variable{X:Cx}{pos:Pos}
def AK:PE X (.Dict [] [] pos) wb:=λfx s a H Q I h=>
 wpAny_Dict_empty %[.ref ⇑s,_,I.laid (λ_ _ q=>Z7 _ q) (Zi _) (AJ s.heap I.big),rfl|h _ (I.hok.fresh (Zi _))]
end
abbrev kY(a more:List (Key×V)):List (Key×V):=more.foldl (λacc b=>cB acc b.1 b.2) a
def KV.merge:∀{more:List _} {rs:List _} {a:List _} {vs:List _},KV more rs->KV a vs->KV (kY a more) (merged vs rs):=by
 intro more rs a vs r
 induction r generalizing a vs with
 | nil=>intro q;exact q
 | @cons p q ps qs h t b=>
   intro c;let e:KV (cB a p.1 p.2) (stored vs q.1 q.2):=by
    let:=c.put p.1 h.2;exact h.1▸this
   exact b e
def jo:∀more a,~~~(kY a more)<= ~~~a+ ~~~more
 |[],a=>by change ~~~a<= ~~~a+0;lia
 | p::r,a=>by
   let b:=jo r (cB a p.1 p.2);let c:=ff a p.1 p.2;change(kY _ r).length<=_
   grind
structure M1 (X:Cx) (o:Expr) (m:Str) (apos:Pos) (e:Expr) (cpos:Pos):Prop where
 base:attributeBase o m X.env (eval o X.env)=eval o X.env
 few:((backTo cpos (starEach [e] X.env)).all (λx=>!x.1)&&(backToKw cpos (keywordEach [] X.env)).all (λx=>x.1.isSome)
  && decide (~~~([e])+ ~~~([]:List Keyword)+(if([]:List Keyword).isEmpty then 0 else 1)<30))=true
 line:(apos.endLine==cpos.line)=true
 trees:backTo cpos (starEach [e] X.env)=[(false,eval e X.env)]
structure M2 (X:Cx) (o:Expr) (m:Str) (apos:Pos) (e f:Expr) (cpos:Pos):Prop where
 base:attributeBase o m X.env (eval o X.env)=eval o X.env
 few:((backTo cpos (starEach [e,f] X.env)).all (λx=>!x.1)&&(backToKw cpos (keywordEach [] X.env)).all (λx=>x.1.isSome)
  && decide (~~~([e,f])+ ~~~([]:List Keyword)+(if([]:List Keyword).isEmpty then 0 else 1)<30))=true
 line:(apos.endLine==cpos.line)=true
 trees:backTo cpos (starEach [e,f] X.env)=[(false,eval e X.env),(false,eval f X.env)]
section
#version
variable{a:Addr}{y d:V}{u r:Value}{o:Option V}{A:Around}{E:ZD}
variable{o:Expr}{e:Expr}{f:Expr}{apos:Pos}{cpos:Pos}{td:TE}{ty:TE}{tx:TE}
end
end _LL
namespace _AT
open PySem PySem.W PySem.Calls PyProof.Rows
def mN{P:Params}:∀(c:ZL) (vs:ZF),WellAll P h vs (c.map WData.int)->IntsAre vs c:=by
 intro c
 induction c with
 | nil=>
   intro vs w;cases w;exact .nil
 | cons n c d=>
   intro vs w;cases w with
   | cons a b=>
     cases a;exact .cons _ _ (d _ b)
def yP{l:OpenLaw}(o:l.most∣n){P:Params}
 (b:l.row.toRowW.claim.pre args=true) (j:WellAll P h e args):
 ∃a vs c,e=[Value.ref a]/\args=[WData.list (c.map WData.int)]/\h.get? a=some {cls:= .type "list",data:= .seq vs.toArray}/\IntsAre vs c/\ ~~~c<=n:=by
 let m:l.pre.holds [] _=true:=(pre_splitW b).2;let%[d,r,rfl,p|q]:=hasAllW_cons ((pre_splitW b).1);obtain rfl:=hasAllW_nil q;let%[xs,rfl|s]:=hasW_list p;let%[c|rfl]:=items_int s;let f: ~~~c<=n:=by
  unfold OpenLaw.pre at m;let i:=by
   let i:=(holds_andW m).1;rw[o]at i;exact i
  let w:=condW_of i (w_not (w_lt w_lit (w_len_list (w_arg rfl))))
  grind
 cases j with
 | cons t u=>
   cases u;cases t with
   | list v g=>exact%[_,_,c,ρ,ρ,v,mN c _ g|f]
def yQ(l:OpenLaw)(args:List WData):l.row.toRowW.claim.post args (.bool true) args=true:=
 postW_of
  (by first|rfl|simp|lia)
  (w_eq_bool (w_res rfl) w_lit) rfl
def attach_call{l:OpenLaw}{n:Nat}{q:Program}
 (H:l.most∣n) (t:d.params.defaults=[])
 (call:∀(w:World) (s₀ b:Shared) (mg u:ZC) (h:Addr) (o:Obj) (v p c:Value) (a:Addr) (vs:ZF) (s:ZL),
  Ground q e [] I w s₀ mg u b.heap->J w b.heap->
  b.heap.get? h∣o->o.data= .func (docDef d.name d.params d.body d.scope v p c)->b.heap.CodeRec p d.name->mg d.name∣.ref h->
  b.heap.get? a=some {cls:= .type "list",data:= .seq vs.toArray}->IntsAre vs s-> ~~~s<=n->b.gens= #[]->
  codeAny (model l.prog w) callerA (.call (.ref h) %[[.ref a]|[]]) (λr s'=>r= .ok (.ret (.bool true))/\OldK b.heap s'.heap/\s'.os=b.os/\AllBare s'.gens) b):
 WalkO q e I J l.row.toRowW d [] (λf vs=>PySem.call f vs):=by
 intro w s₀ b mg u G Y h o v p c L kV M N y B z O args C as i E Q A T;obtain rfl:L= .none:=Dflts.none B t;obtain rfl:kV= .none:=Dflts.noKw B;let%[a,vs,s,rfl,rfl,j,g|m]:=yP H i A;show enter_call (codeAny_mono (call w s₀ b mg u h o v p c a vs s G Y M (fd_plain N) y z j g m O) λr s' U=>?_);let%[rfl,h2,h3|h4]:=U;exact%[.inl %[.bool true,.bool true,[],ρ,λ_=>rfl,.bool true,yQ l _|λ_=>%[List.Pairwise.nil|λ_ hm=>(nomatch hm)]],h2,h3|h4]
section
#where
end
end _AT
namespace _LL
open PySem PySem.Spec PyProof.Rows
def kZ:∀{vs:ZF} {a:ZL},IntsAre vs a->aF (a\4) vs
 | _,_,.nil=> .nil
 | _,_,.cons n t h=> .cons %[t|rfl] (kZ h)
abbrev Db(H:Hp):Prop:=∀b,H b=none\/∃o xs,H b∣.frz o (.lst xs)
def law_call{P:Program}{K:ZA}{mg I:ZC}{vs:ZF}
 (U:K.In c.heap) (p:c.heap.Ns mainGlobals mg) (g:c.heap.Ns builtinsNs I) (J:∀x:Str,x≠"__name__"->I x=bootBuiltins x) (t:c.heap.NoLimit) (hg:c.gens= #[])
 (L:c.heap.get? a=some {cls:= .type "list",data:= .seq vs.toArray}) (hi:IntsAre vs M) (Y: ~~~M<=sizeLine) (hr:cj k callerA)
 (F:∀base:Heap,K.In base->base.Ns mainGlobals mg->d9 P w K mg base CX k fa fd [x] sp) (l:∀(s:Shared) (u:Value),BindsTo s fd %[[u]|[]] [(x,u)])
 (N:∀H:Hp,Db H->Jb K H a (M\4)->sp [.ref a] H (λv _=>v= .bl true) λ_ _ _=>False)
 (O:∀H e s',CX [] H c (λ_ _ _=>False) e s'->False):
 codeAny (model P w) callerA (.call (.ref fa) %[[.ref a]|[]]) (λr s'=>r= .ok (.ret (.bool true))/\OldK c.heap s'.heap/\s'.os=c.os/\AllBare s'.gens) c:=by
 let rv:=kZ hi;let j:∀H,Db H->Jb K H a (M\4)->HOk P w H c.heap->(∀b,H b≠none->b=a)->(H a≠none->K.lookup a=none)->
  codeAny (model P w) callerA (.call (.ref fa) %[[.ref a]|[]]) (λr s'=>r= .ok (.ret (.bool true))/\OldK c.heap s'.heap/\s'.os=c.os/\AllBare s'.gens) c:=by
  intro H hO hS y hA hK;let f:∀{b:Addr} {o:Obj},c.heap.get? b∣o->H b=none->(yq c.heap H).get? b∣o:=λe n=>z7 e n
  let Q:∀{b:Addr} {o:Obj} {E:Array DictEntry} {G:Nat},c.heap.get? b∣o->o.data= .dict E G->H b=none:=λ{b o E G} e d=>by
   grind
  let i:∀{b:Addr} {m:ZC},c.heap.Ns b m->(yq c.heap H).Ns b m:=λ{b m} ⟨o,E,G,e,d,r⟩=>%[o,E,G,f e (Q e d),d|r]
  let A:=λb o e=>f (U b o e) (by
   grind)
  show codeAny_mono ((F _ A (i p)).run callerA [] c H _ _ [.ref a] _ _ hr %[rfl,%[A,i p,%[I,i g|J]|let⟨mc,h1,h2⟩:=t;%[mc,i h1|h2]],λb o e=>Cv e,Nat.le_of_eq (yv _ _),trivial,λb g=>absurd (show b∈([])from g) ∅,y|.of_eq hg] (l c _) (.cons rfl .nil) (N H hO hS)) λr s' h=>?_
  cases r with
  | error e=>exact(O H e s' h).elim
  | ok fl=>
    cases fl with
    | next=>exact False.elim h
    | brk=>exact False.elim h
    | cont=>exact False.elim h
    | ret u=>
      let%[v,H',os,B,un,C,r'|q]:=h;subst q;obtain rfl:u=Value.bool true:=r';show%[ρ,OldK.of_keep λb o e=>?_,os|B];cases q:H b with
      | none=>exact un.keep b o e q (by intro z;exact absurd (show b∈([])from z) ∅) ∅
      | some u=>
        rcases hO b with z|⟨ob,xs,z⟩
        .rw[q]at z;cases z
        .let%[e1|_]:=y b _ z;let%[e2|_]:=C b _ (un.frzs b ob _ z);rw[e]at e1;cases e1;exact e2
 cases T:K.lookup a with
 | some o=>
   let e:=U a o T;rw[L]at e;cases e;show j _ (λ_=> .inl rfl) (.inr %[_,vs.toArray,_,T,rfl,rfl,rfl,by rw[Zp,~~~hi];exact Y|rv]) (λb u z=>!2) (λb z=>absurd rfl z) λz=>absurd rfl z
 | none=>
   show j (λb=>if b=a then some (.frz {cls:= .type "list",data:= .seq vs.toArray} _)else none) (λb=>?_) (.inl (.inr %[{cls:= .type _,data:= .seq vs.toArray}|if_pos rfl])) (λb u z=>?_) (λb z=>?_) λ_=>T
   .by_cases g:b=a
    .exact .inr %[_,_|if_pos g]
    .exact .inl (if_neg g)
   .by_cases g:b=a
    .let z':=(if_pos g).symm.trans z;cases z';subst g;exact%[L,by rw[Z6];exact Y,vs,_,rv|L]
    simp_all
   .by_cases g:b=a
    .exact g
    .exact absurd (if_neg g) z
def walk_of{l:PySem.W.OpenLaw}{I:(Str->Option Value)->Heap->Prop}{C:World->Heap->Prop}{d:DefRec}{K:Params->ZA}{CX:World->CXT}{sp:World->Sp}{x:Str}
 (J:l.most∣n) (p:n<=sizeLine) (r:d.params.defaults=[]) (L:cj k callerA)
 (M:∀(w:World) (h:Heap),C w h->(K w.params).In h)
 (F:∀(w:World) (mg:ZC) (j:Addr) (h:Heap),(K w.params).In h->h.Ns mainGlobals mg->mg d.name∣.ref j->
  ∃t:FuncData,(∀(s:Shared) (u:Value),BindsTo s t %[[u]|[]] [(x,u)])/\
   ∀base:Heap,(K w.params).In base->base.Ns mainGlobals mg->d9 l.prog w (K w.params) mg base (CX w) k j t [x] (sp w))
 (y:∀(w:World) (H:Hp) (a:Addr) (m:ZL),~~~m<=n->Db H->Jb (K w.params) H a (m\4)->sp w [.ref a] H (λv _=>v= .bl true) λ_ _ _=>False)
 (z:∀(w:World) (H:Hp) (s:Shared) (e:Value) (s':Shared),CX w [] H s (λ_ _ _=>False) e s'->False):
 PySem.W.WalkO q A I C l.row.toRowW d [] (λf vs=>PySem.call f vs):=by
 show _AT.attach_call J r λw s₀ g mg mb j o pm cd N a vs m G Y ho hd O B i c b Q=>?_
 let E:=M w _ Y;let%[t,T|U]:=F w mg j _ E G.T.g B;exact law_call E G.T.g G.T.b G.T.builtins G.T.nolimit Q i c (Nat.le_trans b p) L U T (λH hO hS=>y w H a m b hO hS) λH e s'=>z w H g e s'
abbrev jP(s:Stmt)(j:Nat):Stmt:=match s with
 | .ClassDef _ _ _ a _ _ _ _ _ _ _=>a.getD j (.Pass %[0,0,0|0])
 | _=> .Pass %[0,0,0|0]
abbrev c8(s:Stmt):Arguments:=match s with
 | .FunctionDef _ a _ _ _ _ _ _ _ _=>a
 | _=>{posonlyargs:=[],args:=[],vararg:=none,kwonlyargs:=[],kw_defaults:=[],kwarg:=none,defaults:=[]}
abbrev bY(s:Stmt):List Stmt:=match s with
 | .FunctionDef _ _ b _ _ _ _ _ _ _=>b
 | _=>[]
abbrev ap(s:Stmt):Scope:=match s with
 | .FunctionDef _ _ _ _ _ _ a _ _ _=>a
 | _=>{kind:= .function,names:=[],isGenerator:=false,isCoroutine:=false}
noncomputable abbrev CX0:CXT:=λ_ _ _ _ _ _=>False
noncomputable abbrev E0:XK:=λ_ _ _=>False
def AL{X:Cx}:jA CX0 X E0:=λ_ _ _ _ _ _ _ h=>h.elim
structure Fun (K:ZA) (x qual:Str) (st:Stmt) (f:Addr) (fd:FuncData):Prop where
 ex:∃oc od kV doc pm an cdv ct osl,
  fd=fnOf x qual (c8 st) (bY st) (ap st) .none kV doc pm an cdv ct/\K.lookup f=some %[oc,od,.func fd|osl]/\codeIn K cdv qual=true
 kp:keepIn K (.ref f)=true
section
variable{P:Program}{w:World}{K:ZA}{mg:ZC}{base:Heap}
def Fun.ok{x a:Str}{st:Stmt}{f:Addr}{g:FuncData}{N ps:ZB}{k:Nat}{sp:Sp}(F:Fun K x a st f g)(S:av N ps (ap st))(len:∀vs H Q E,sp vs H Q E-> ~~~vs= ~~~ps)
 (c:∀b (A:Around) (outer:List Env) s H (vs:List V) Q E,cj k (A.deeper (envOfC a (ap st) ⇑s f b))->sp vs H Q E->
  ∃t,PSs (rJ CX0 P w K mg base N a (ap st) f b A outer s H E).nox (bY st) t/\t {nx:=λ_ i=>Q .non i,rt:=Q} (start N vs) H):d9 P w K mg base CX0 (k+1) f g ps sp:=by
 let%[n,o,kV,j,p,r,b,ct,l,rfl,lk|d]:=F.ex;show G4 lk d S len λA outer s H vs Q E m e=>?_
 let%[t,h|q]:=c b A outer s H vs Q E m e;exact%[t,h.nox|q]
def Fun.binds{st:Stmt}(F:Fun K x c st f g)
 (h:∀(kV a d:Value) (e:ZI) (b ct:Value) (us:ZF),~~~us= ~~~ps->bindArgs (fnOf x c (c8 st) (bY st) (ap st) .none kV a d e b ct) %[us|[]]=pure (ps.zip us)):e9 K g ps []:=by
 let%[l,m,kV,a,d,e,b,ct,i,rfl,lk|j]:=F.ex;exact .all (h kV a d e b ct)
def eK{st:Stmt}{kV d e b ct:Value}(l:K.lookup f=some %[i,j,.func (fnOf x a (c8 st) (bY st) (ap st) .none kV d e h b ct)|g])
 (c:codeIn K b a=true) (k:keepIn K (.ref f)=true):Fun K x a st f (fnOf x a (c8 st) (bY st) (ap st) .none kV d e h b ct):=%[%[i,j,kV,d,e,h,b,ct,g,rfl,l|c]|k]
variable{X:Cx}
def pv(i:Nat)(b:X.N[i]?∣x)(c:Vis X.env.scope x)(d:(x==("__debug__":Str))=false)
 (a:(x==("__classdict__":Str))=false):PE X (.Name x pos) (pK i):=z9 b c d a
end
def Ft{A B:Prop}(h:B):if false=true then A else B:=by
 simp_all
def ba{c A B:Prop}[Decidable c](a:c->A)(b: ¬ c->B):if c then A else B:=by
 simp_all
abbrev af(H a:Hp):Prop:=∀b o,H b∣o->a b∣o
def af.refl(H:Hp):af H H:=λ_ _ h=>h
def af.trans{H d e:Hp}(a:af H d)(b:af d e):af H e:=λc o h=>b c o (a c o h)
def af.free{H a:Hp}(e:af H a){l:Addr}(h:a l=Option.none):H l=Option.none:=by
 cases q:H l with
 | none=>rfl
 | some o=>
   rw[e l o q]at h;cases h
def af.seq{K:ZA}(e:af H b)(h:Jb K H a xs):Jb K b a xs:=by
 rcases h with(h|⟨o,h⟩)|h
 .exact .inl (.inl (e _ _ h))
 .exact .inl (.inr %[o|e _ _ h])
 .exact .inr h
section
end
section
variable{κ:Type}[DecidableEq κ]
def Dc{a:List (κ×V)}(h:bu a k∣v):k∈a\1:=by
 let q:(a.any λb=>decide (b.1=k))=true:=by
  rw[fK,h]
  all_goals rfl
 simp_all
def m9:∀{l:List κ} {k:κ},l.Nodup-> ¬ k∈l->(l++[k]).Nodup
 |[],k,_,_=>by simp
 | a::r,k,h,b=>by
   let%[c|d]:=nodup_cons.mp h;show nodup_cons.mpr %[λm=>?_|m9 d λm=>b (mem_cons.mpr (Or.inr m))];rcases Xi m with q|q
   .exact c q
   .exact b (mem_cons.mpr (Or.inl (Xj q).symm))
end
abbrev nE(env:Env):List (Str×NameKind)->List (Str×Addr)->List (Str×Addr)
 |[],acc=>acc
 |(n,k)::r,acc=>nE env r (if k= .free then(n,(env.cells.lookup n).getD 0)::acc else acc)
def nF:∀(names:List (Str×NameKind)) (acc:List (Str×Addr)),(∀y∈names,y.2= .free->∃c,env.cells.lookup y.1∣c)->
 (forIn names acc λx r=>match x with
  |(name,kind)=>if(kind==NameKind.free)=true then do let a<-cellOf env name;pure (ForInStep.yield ((name,a)::r))else pure (ForInStep.yield r):Sem (List (Str×Addr)))=pure (nE env names acc)
 |[],acc,_=>rfl
 |(n,k)::r,acc,h=>by
  let d:=λacc=>nF r acc λy f=>h y (Zk _ f)
  rw[forIn_cons];by_cases b:k= .free
  .subst b;let%[c|e]:=h _ Zm rfl;let g:cellOf env n=pure c:=by unfold cellOf;rw[e]
   simp only[beq_self_eq_true,if_true,g,pure_bind];rw[d];change _=pure (nE env r _);rw[if_pos rfl,e]
   all_goals rfl
  .let i:(k==NameKind.free)=false:=↑b
   simp only[i,Zz,if_false,pure_bind];rw[d];change _=pure (nE env r _);rw[if_neg b]
def Dd(h:∀y∈a.names,y.2= .free->∃c,env.cells.lookup y.1∣c):closureFor a env=pure (nE env a.names []):=by
 unfold closureFor;simp only[bind_pure];exact(nF a.names [] h)
def ug:∀(names:List (Str×NameKind)) (acc:List (Str×Addr)),(∀y∈names,y.2= .free->∃c,env.cells.lookup y.1∣c)->
 (∀y d,acc.lookup y∣d->env.cells.lookup y∣d)->(nE env names acc).lookup x∣c->env.cells.lookup x∣c
 |[],acc,_,a,e=>a x c e
 |(n,k)::r,acc,h,a,e=>by
  show ug r _ (λy b=>h y (Zk _ b)) (λy d q=>?_) e;by_cases f:k= .free
  .rw[if_pos f,Yi]at q;let%[g|i]:=h _ Zm f;cases b:y==n with
   | true=>
     simp_all
   | false=>rw[b]at q;exact a y d q
  .rw[if_neg f]at q;exact a y d q
def nG:∀(names:List (Str×NameKind)) (acc:List (Str×Addr)),(∃c,acc.lookup x∣c)->∃c,(nE env names acc).lookup x∣c
 |[],_,h=>h
 |(n,k)::r,acc,h=>by
  show nG r _ ?_;by_cases a:k= .free
  .rw[if_pos a,Yi];cases b:x==n with
   | true=>exact%[_|ρ]
   | false=>exact h
  .rw[if_neg a];exact h
def nH:∀(names:List (Str×NameKind)) (acc:List (Str×Addr)),(x,NameKind.free)∈names->∃c,(nE env names acc).lookup x∣c
 |[],_,h=>by simp at h
 |(n,k)::r,acc,h=>by
  rcases mem_cons.mp h with e|h
  .show nG r _ ?_
   simp_all
  .exact nH r _ h
abbrev bM(X:Cx)(a:Scope)(d:ZB)(b:Shared)(c:Hp)(e:List Addr):Cx:=
 {X with
  N:=d
  s₀:=b
  H₀:=c
  env:=compEnvC a (cellsFrom (⇑b+1) a.names (nE X.env a.names [])) ⇑b X.env
  outer:=X.stack
  stack:=X.stack
  ex:=e
  fn:=λx=>decide (a.names.lookup x∣.cell)
  pn:=[]
  xe:=λ_ _=>False}
structure ax (X:Cx) (scope:Scope) (N':ZB) (cap:List (Nat×Nat)):Prop where
 kind:scope.kind= .function
 cell:∀y∈scope.names,y.2= .cell->scope.names.lookup y.1∣.cell
 loc:∀y∈scope.names,y.2= .local->scope.names.lookup y.1∣.local
 free:∀y∈scope.names,y.2= .free->X.env.kindOf y.1∣.cell\/X.env.kindOf y.1∣.free
 capt:∀p∈cap,∃x,N'[p.1]?∣x/\X.N[p.2]?∣x/\scope.names.lookup x∣.free
abbrev qu(n:Nat)(a:List (Nat×Nat))(b:St):St:=(List.range n).map λj=>(a.lookup j).bind λi=>(b[i]?).join
def l8:∀{l:List _} {j i:Nat},l.lookup j∣i->(j,i)∈l
 |[],_,_,h=>by simp at h
 |(a,b)::r,j,i,h=>by
  rw[Yi]at h;cases c:j==a with
  | true=>
    simp_all
  | false=>rw[c]at h;exact Zk _ (l8 h)
def l9{env:Env}{names:List (Str×NameKind)}{x:Str}{k:NameKind}(h:(names.map λ(n,k)=>if(k==NameKind.free&&env.scope.kind== .function&&env.kindOf n==some .cell)then(n,NameKind.cell)else(n,k)).lookup x∣k)
 (a:k= .cell\/k= .free):(x,NameKind.free)∈names\/(x,NameKind.cell)∈names:=by
 let m:=PySem.mem_of_lookup h
 grind
def eB:∀names n acc,cellsFrom n names acc=cellsFrom n names [] ++acc
 |[],_,_=>rfl
 |(x,k)::r,n,acc=>by
  unfold cellsFrom
  split
  .rw[eB r _ _,eB r _ [(x,n)],Ze];rfl
  .exact eB r n acc
def lc:∀{names:List (Str×NameKind)} {n:Nat},(x,c)∈cellsFrom n names []->(x,NameKind.cell)∈names
 |[],_,h=>nomatch h
 |(y,k)::r,n,h=>by
  unfold cellsFrom at h
  split at h
  .rw[eB]at h;rcases Xi h with q|q
   .exact Zk _ (lc q)
   grind
  .exact Zk _ (lc h)
def mf(h:(cellsFrom n names acc).lookup x∣c):(x,c)∈cellsFrom n names []\/((cellsFrom n names []).lookup x=none/\acc.lookup x∣c):=by
 rw[eB,List.lookup_append]at h;cases e:(cellsFrom n names []).lookup x with
 | none=>rw[e]at h;exact .inr %[rfl|h]
 | some d=>
   rw[e]at h;let:=↑h
   exact this▸ .inl (PySem.mem_of_lookup e)
def jQ{env:Env}:∀{names:List (Str×NameKind)} {x:Str},names.lookup x∣.free->
 (names.map λ(n,k)=>if(k==NameKind.free&&env.scope.kind== .function&&env.kindOf n==some .cell)then(n,NameKind.cell)else(n,k)).lookup x∣.cell\/
 (names.map λ(n,k)=>if(k==NameKind.free&&env.scope.kind== .function&&env.kindOf n==some .cell)then(n,NameKind.cell)else(n,k)).lookup x∣.free
 |[],_,h=>by simp at h
 |(n,k)::r,x,h=>by
  let c:= @jQ env r x;simp only[Ym];cases a:x==n with
  | true=>
    rw[Yi,a]at h;let d:=Za h;subst d;by_cases b:((NameKind.free==NameKind.free)&&env.scope.kind== .function&&env.kindOf n==some .cell)=true
    .rw[if_pos b,Yi,a];exact .inl rfl
    .rw[if_neg b,Yi,a];exact .inr rfl
  | false=>
    rw[Yi,a]at h;by_cases b:(k==NameKind.free&&env.scope.kind== .function&&env.kindOf n==some .cell)=true
    .rw[if_pos b,Yi,a];exact(c h)
    .rw[if_neg b,Yi,a];exact(c h)
section
#version
def Jc.kindL(I:Jc X fx σ H s)(h:X.env.kindOf x∣.cell\/X.env.kindOf x∣.free):∃c,X.env.cells.lookup x∣c:=I.ok.has x h
def Jc.block{a:Scope}{C:ZB}{fp:List Addr}{f:Heap}{tk:Nat}(S:ax X a C n)(I:Jc X fx σ H s)(O:∀b∈fp,mM X fx H b)(J:∀b∈fp,b<⇑s)
 (hn:f.Ns ⇑s (λ_=>none)) (A:∀b u,s.heap.get? b∣u->f.get? b∣u) (nc:CellsOk f (⇑s+1) (cellsFrom (⇑s+1) a.names [])):
 Jc (bM X a C s H fp) [] (qu C.length n σ) H {s with heap:=f,toks:=tk}:=by
 let h:∀x c,(nE X.env a.names []).lookup x∣c->X.env.cells.lookup x∣c:=λx c e=>ug a.names [] (λy hy hk=>I.kindL (S.free y hy hk)) (λ_ _ q=>by simp at q) e
 let o:∀x c,(cellsFrom (⇑s+1) a.names (nE X.env a.names [])).lookup x∣c->((x,c)∈cellsFrom (⇑s+1) a.names []/\f.IsCell c none/\⇑s+1<=c)\/(X.env.cells.lookup x∣c/\c<⇑s):=λx c e=>by
  rcases mf e with q|⟨_,q⟩
  .exact .inl %[q|nc.empty x c q]
  .let q':=h x c q;let%[v,G,L|_]:=I.cell x c q';exact .inr %[q'|Zu L]
 show%[%[I.ok.mod,S.kind,I.ok.glob,I.ok.blt,Zi _,λx y c h1 h2=>?_,λx hx=>?_,λx c hq e=>?_,I.ok.hd,I.ok.frames,.inl rfl,λb g=>%[?_|λx c e=>?_],I.bs,
  Nat.le_trans I.ok.bsz I.sz,λb u e g=>?_,λb g Q=>?_,I.stack|I.stkFree],ρ,I.bare,Un.kept A,%[_,hn|λj x v e1 e2 e3=>?_],λx c e=>?_,I.hok.fresh (Zi _),λx c e=>?_,λp hp=>?_,I.hok.kept A|?_]
 .rcases o x c h1 with⟨q1,_,q2⟩|⟨q1,q2⟩<;> rcases o y c h2 with⟨r1,_,r2⟩|⟨r1,r2⟩
  .exact name_of_addr nc.apart q1 r1
  .exact absurd r2 (Nat.not_lt_of_le (Nat.le_trans (Yc _) q2))
  .exact absurd q2 (Nat.not_lt_of_le (Nat.le_trans (Yc _) r2))
  .exact I.ok.inj x y c q1 r1
 .let:(x,NameKind.free)∈a.names\/(x,NameKind.cell)∈a.names:=by
   rcases hx with q|q
   .exact l9 q (.inl rfl)
   .exact l9 q (.inr rfl)
  show isSome_iff_exists.mp (cellsFrom_some a.names _ _ ?_);rcases this with q|q
  .exact .inr (isSome_iff_exists.mpr (nH a.names [] q))
  .exact .inl (S.cell _ q rfl)
 .rcases mf e with q|⟨q,_⟩
  .let:=(nc.empty x c q).2;change ⇑s<=c
   lia
  .let:=cellsFrom_some a.names (⇑s+1) [] (.inl (Zo hq));rw[q]at this;cases this
 .exact Zs (J b g)
 .rcases o x c e with⟨_,_,q⟩|⟨q,_⟩
  .exact λz=>absurd (J b g) (Nat.not_lt_of_le (Nat.le_trans (Yc _) (z▸q)))
  .exact(O b g).2.2.2.2.1 x c q
 .rcases(O b g).2.2.2.1 with z|z
  .exact I.ok.noex b u e z
  .exact absurd (Zg (Zu e) (Nat.le_trans I.ok.bsz z)) (Xf _)
 .rcases mem_cons.mp (I.stkSub b Q)with z|z
  .exact(O b g).2.1 z
  .exact(O b g).2.2.1 z
 ·
  let hj:∃i,n.lookup j∣i/\σ[i]?∣some v:=by
   let t:((List.range C.length).map _)[j]?∣_:=e2;rw[Zl]at t;cases hr:(List.range C.length)[j]? with
   | none=>rw[hr]at t;cases t
   | some j'=>
     rw[hr]at t;let ab:j'=j:=by
      let:=Xh hr;let%[h1|h2]:=this;simpa using h2.symm
     subst ab;let B:((n.lookup j').bind _)∣v:=Za t;cases T:n.lookup j' with
     | none=>rw[T]at B;cases B
     | some i=>
       rw[T]at B;show%[i,ρ|?_];let U:(σ[i]?).join∣v:=B;cases Q:σ[i]? with
       | none=>rw[Q]at U;cases U
       | some w=>rw[Q]at U;let:w∣v:=U;rw[this]
  let%[i,T|hi]:=hj;let%[y,n1,n2|Y]:=S.capt _ (l8 T);let ac:=Za (n1.symm.trans e1);subst ac;let M:=S.free _ (PySem.mem_of_lookup Y) rfl;let%[m,hm|hl]:=I.loc;let%[u,r|l]:=hl i y v n2 hi (by rcases M with q|q;exact .inr (.inl q);exact .inr (.inr q));show%[u,r|.inr %[?_|?_]]
  .exact jQ Y
  .rcases l with⟨k,_⟩|⟨_,c,E,hv⟩
   .rcases M with q|q
    .rw[k]at q;cases q
    .rw[k]at q;cases q
   .let%[c'|N]:=nH a.names [] (PySem.mem_of_lookup Y);let:=h y c' N;rw[E]at this;let e5:=Za this;subst e5;let%[G,L|hd]:=hv;show%[c,?_,G,A c G L|hd];change(cellsFrom _ _ _).lookup y∣c;rw[eB,List.lookup_append];cases e6:(cellsFrom _ a.names []).lookup y with
    | none=>simpa using N
    | some d=>
      let:=S.cell _ (lc (PySem.mem_of_lookup e6)) rfl;rw[Y]at this;cases this
 .rcases o x c e with⟨_,q,_⟩|⟨q,_⟩
  .exact%[none|q]
  .let%[v,G,L|hd]:=I.cell x c q;exact%[v,G,A c G L|hd]
 .rcases o x c e with⟨_,_,q⟩|⟨q,_⟩
  .exact I.hok.fresh ⋯
  .exact I.freeC x c q
 .exact absurd (show p∈([])from hp) ∅
 .change(qu C.length n σ).length= ~~~C;unfold qu;rw[Z6,Yf]
end
abbrev PTs(X:Cx)(a:List Expr)(t:TT):Prop:=
 ∀fx s (b:St) H Q,Jc X fx b H s->t b H Q->
  (X⁻¹) (forIn a true λc r=>if r=true then do let ok<-isTrue c X.env (eval c X.env);pure (ForInStep.yield ok)else pure (ForInStep.yield r)) (TP X fx b Q) X.xe s
abbrev wc:TT:=λ_ H Q=>Q true H
def De{X:Cx}:PTs X [] wc:=λ_ _ _ H _ I h=>wpAny_tests_nil %[H,I|h]
def Df{X:Cx}(h:PT X c t):PTs X [c] t:=λfx s a H Q I q=>wpAny_tests_one (h fx s a H Q I q)
abbrev qv(q:TI)(n:Nat)(f:List (Nat×Nat))(g:TG)(r:TT)(s:TE):TE:=λh H Q=>q h H λJ j=>∀D,j D=none->∃W:Nat->Nat->List V->St->Hp->Prop,
 (∃m,W 0 m [] (qu n f h) (Ja j D (.lst [])))/\∀i m ys c d,W i m ys c d->(J.stop i d/\Q (.ref D) d)\/
  (J.go i d/\∀x l,J.yld i d x l->g x c l λa t=>r a t λb o=>if b=true then s a o λy p=>∃zs e,p D<*zs/\ ~~~zs<sizeLine/\e<m/\W (i+1) e (ys++[y]) a (Ja p D (.lst (zs++[y])))
   else∃e,e<m/\W (i+1) e ys a o)
def Dg{code:Value}
 (l:∀i,i.Ns ⇑s (λ_=>none)->(∀b u,s.heap.get? b∣u->i.get? b∣u)->CellsOk i (⇑s+1) (cellsFrom (⇑s+1) a.names [])->
  Q (newEnv a ⇑s d (cellsFrom (⇑s+1) a.names f) g h code (some env) c) (s>>>i)):wpAny M A (newFunctionEnv a d f [] g h code (some env) c) Q E s:=by
 show Z2 (wpAny_alloc (Z2 (wpAny_layCells _ (λname kind j=>by lia) _ _ _ _ ?_)));let ok:=cellsFrom_ok a.names (s.heap.push {cls:= .type "dict",data:= .dict #[]}) (⇑s+1) [] %[λ_ _ m=>(nomatch m)|List.Pairwise.nil] ∅;rw[Zq]at ok;rw[Zq ..];exact Z2 (Z3 (Z3 (l _ ((Heap.Ns.new s.heap _).keeps (pushCells_keeps _ _)) (λb u e=>pushCells_keeps _ _ b u (Z7 _ e)) ok)))
def qw{X:Cx}{a:Scope}(S:ax X a N' a1)(hc:X.calm=true)(hi:PI X tg cf wi)
 (hg:∀L M A,PG (bM X a N' L M A) tg g) (ht:∀L M A,PTs (bM X a N' L M A) a2 tc) (he:∀L M A,PE (bM X a N' L M A) a3 te)
 (hs:∀x,foldedSetIterable cf X.env x=pure x) (I:Jc X fx σ H s) (h:qv wi N'.length a1 g tc te σ H Q)
 (a4:∀(D C:Addr) (O:Hp) (s6:Shared) (fl:Flow) (m:ZC),s6.heap.Ns C m->mM X fx O C->(∀h',SameBut C s6.heap h'->Jc X fx σ O (s6>>>h'))->Q (.ref D) O->compPost (model X.prog X.w) X.A X.xe use QQ (.ref D) C (.ok fl) s6):
 (X⁻¹) (comprehension (.ListComp a3 [%[tg,cf,a2|0]] a pos) a X.env b6 (newList []) false (eval cf X.env) use) QQ X.xe s:=by
 show wpAny_comprehension_free (use:=use) rfl hs (Dd (λy hy hk=>I.kindL (S.free y hy hk))) S.kind S.loc (thn (hi fx s σ H _ I h) λv s1 h1=>thn h1 λb7 l h2=>?_);let%[it,A,tn,J,H2,e,I2,T,a5,f2|R]:=h2;subst e;show wpAny_newObj_type (Dg λU Y N ab=>?_);dsimp only at Y N ab ⊢;let I3:Jc X fx σ (Ja H2 ⇑l (.lst [])) {l with heap:=l.heap.push {cls:= .type "list",data:= .seq ([]:ZF).toArray}}:=I2.lnew (its:=[]) (t':=l.toks) .nil (Xa _);let hD:H2 ⇑l=none:=I2.fresh;let aj:∀b∈A,b<⇑l:=λb j=>by let%[o,ho|_]:=T.obj 0 _ a5 b j;exact Zu ho
 generalize an:({l with heap:=l.heap.push {cls:= .type "list",data:= .seq ([]:ZF).toArray}}:Shared)=B at I3
 let G:B.heap=l.heap.push {cls:= .type "list",data:= .seq ([]:ZF).toArray}:=by rw[<-an]
 let a6:⇑B=⇑l+1:=by rw[G,Zq]
 let f3:∀b∈A,mM X fx (Ja H2 ⇑l (.lst [])) b:=λb j=>%[(am (Zs (aj b j)))▸(f2 b j).1|(f2 b j).2]
 let%[W,%[m0|w0]|a7]:=R _ hD;let ae:∀b u,B.heap.get? b∣u->U.get? b∣u:=G▸N;let I4:Jc (bM X a N' B (Ja H2 ⇑l (.lst [])) A) [] (qu N'.length a1 σ) (Ja H2 ⇑l (.lst [])) {B with heap:=U,toks:=B.toks}:=I3.block S f3 (λb j=>a6▸Yj (aj b j)) (G▸Y) ae (G▸ab);let bb:tn 0 U:=T.keep _ _ _ a5 λb j o e=>ae b o (G▸Z7 _ e)
 let b9:(bM X a N' B (Ja H2 ⇑l (.lst [])) A).env=compEnvC a _ ⇑B X.env:=rfl;let ag:∀{H':Hp},(∀b∈A,H' b=none)->∀b∈A,mM _ [] H' b:=λhn b j=>
  %[hn b j,(I4.ok.exf b j).1,I4.ok.exfs b j,.inl j,(I4.ok.exf b j).2|λp hp=>absurd (show p∈([]:ZE)from hp) ∅]
 let al:codeAny (model X.prog X.w) X.A (.compLoop (.ListComp a3 [%[tg,cf,a2|0]] a pos) 0 (.ref it) (.ref ⇑l) (bM X a N' B (Ja H2 ⇑l (.lst [])) A).env)
  (compPost (model X.prog X.w) X.A X.xe use QQ (.ref ⇑l) ⇑B) {B with heap:=U,toks:=B.toks}:=by
  show codeAny_loop rfl (λn s'=>∃i ys bc H',Jc _ [] bc H' s'/\tn i s'.heap/\(∀b∈A,H' b=none)/\W i n ys bc H') ?_ m0 %[0,[],_,_,I4,bb,λb j=>(f3 b j).1|w0];intro n s5 %[i,ys,ai,O,I5,bd,bf|w5];change wpAny _ X.A _ _ _ s5;show wpAny_noted ?_;rw[compTurn_list];show Z2 (wpAny_standAt (Z2 ?_));rcases a7 i n ys ai O w5 with⟨stop,q⟩|⟨go,step⟩
  .show thn (T.done (bM X a N' B (Ja H2 ⇑l (.lst [])) A) rfl rfl rfl hc i [] s5 ai O _ I5 (ag bf) bd stop) λr s6 ⟨hr,I6⟩=>?_
   subst hr;show Z3 ?_;let%[m6,bn|_]:=I6.loc;show a4 ⇑l ⇑B O s6 _ m6 bn (I2.fpOk (a6▸Yc _) I6.free) (λh' sb=>?_) q;let u6:Un (frs X.stack) A (Ja H2 ⇑l (.lst [])) O B.heap s6.heap:=I6.base;let as:∀b u,B.heap.get? b∣u->b≠⇑B:=λb u e=>Zs (Zu e)
   let u7:Un (frs X.stack) A (Ja H2 ⇑l (.lst [])) O B.heap h':=%[λb u e n j hx=>(sb.2 b (as b u e)).trans (u6.keep b u e n j hx),λb u e n j hx=>by
    let%[sl|q]:=u6.slot b u e n j hx;exact%[sl|(sb.2 b (as b u e)).trans q],u6.free,λb u e hx=>by
    let%[o'|q]:=u6.there b u e hx;exact%[o'|(sb.2 b (as b u e)).trans q],u6.tups,u6.frzs|u6.tbls]
   let bp:HOk X.prog X.w O h':=λb u e=>by
    let bl:∀c w,O c∣w->c≠⇑B:=λc w q z=>by
     let:O ⇑B=none:=I6.free;rw[z,this]at q;cases q
    show(I6.hok b u e).stay (λc w bt q=>(sb.2 c ?_).trans q) (λ_ q=>q) λ_ _ q=>q
    rcases bt with z|z
    .exact z▸bl b u e
    .exact bl c _ z
   exact I2.call' (s':=(s6>>>h')) (ch:=A) (by change s6.os=l.os;rw[I6.os,<-an];rfl) ((Un.laid (λb u e=>G▸Z7 _ e) (Zi _) hD).trans u7) bp I6.bare λb j=>%[(f2 b j).2.2.2.1,(f2 b j).2.1,(f2 b j).2.2.2.2.1|(f2 b j).2.2.2.2.2]
  .show thn (T.item (bM X a N' B (Ja H2 ⇑l (.lst [])) A) rfl rfl rfl hc i [] s5 ai O _ I5 (ag bf) bd go) λr s6 ⟨u,hr,h6⟩=>?_
   subst hr;show Z2 (thn h6 λ_ s7 ⟨x,H7,I7,r7,y7,a0,bU⟩=>?_);let ac:∀{α:Type} {t:Sem α} {Q1:α->Shared->Prop} {E2:ZD} {s':Shared},(X⁻¹) t Q1 (λ_ _=>False) s'->(X⁻¹) t Q1 E2 s':=λh=>wpAny_mono h (λ_ _ q=>q) λ_ _ f=>f.elim
   let pB:∀{E:St} {H8:Hp} {s8:Shared},Jc (bM X a N' B (Ja H2 ⇑l (.lst [])) A) ([] ++rG A s7.heap) E H8 s8->
    Jc _ [] E H8 s8/\tn (i+1) s8.heap/\∀b∈A,H8 b=none:=λ{E H8 s8} I8=>by
    show%[I8.unpinned,T.keep _ _ _ a0 λb j o e=>(I8.pin (b,o) (Yq _ (Yq _ (eI j e)))).1|λb j=>?_];let%[o,e|d]:=T.obj _ _ a0 b j;exact(I8.pin (b,o) (Yq _ (Yq _ (eI j e)))).2.1
   show Z2 (ac (thn (hg B _ A _ s7 ai H7 x u _ (I7.pinned (ag bU) (T.obj _ _ a0)) r7 (step x H7 y7)) λ_ s8 ⟨E,H8,I8,q8⟩=>Z2 (ac (thT (ht B _ A _ s8 E H8 _ I8 q8) λb s9 H9 I9 q9=>?_))));cases b with
   | false=>
     let%[m',hm|w9]:=(q9)
     let%[J1,J2|J3]:=pB I9;exact Z3 %[rfl,m',hm,i+1,ys,E,H9,J1,J2,J3|w9]
   | true=>
     let q9:=(q9:te E H9 λy O=>∃zs m',O ⇑l<*zs/\ ~~~zs<sizeLine/\m'<n/\W (i+1) m' (ys++[y]) E _)
     show Z2 (Z2 (ac (thP (he B _ A _ s9 E H9 _ I9 q9) λu2 b0 y bm b1 b2 ⟨zs,m',hz,hl,hm,b3⟩=>Z2 (ac (thP (qq _ b0 E bm (.ref ⇑l) [y] (.ref ⇑l) [u2] (λv H'=>v= .non/\H'=Ja bm ⇑l (.lst (zs++[y]))) b1 rfl (.cons b2 .nil) %[_,rfl,_,hz,hl,rfl|rfl]) λu3 ca v3 cd b4 ce ⟨cl,b5⟩=>?_)))));subst b5;let%[J1,J2|J3]:=pB b4;exact Z3 (Z3 %[rfl,m',hm,i+1,ys++[y],E,_,J1,J2,J3|b3])
 subst an;exact(codeAny_compStart_list al (T.self _ 0 _ _ _ bb al))
def Dh{X:Cx}(S:ax X a e f)(n:X.calm=true)(hi:PI X l cf o)
 (p:∀b c d,PG (bM X a e b c d) l g) (r:∀b c d,PTs (bM X a e b c d) i t) (u:∀b c d,PE (bM X a e b c d) j v)
 (w:∀x,foldedSetIterable cf X.env x=pure x):
 PE X (.ListComp j [%[l,cf,i|0]] a pos) (qv o e.length f g t v):=by
 intro fx s E H Q I h;exact qw S n hi p r u w I h λD C y G J m z _ k q=>%[m,z|λA B=>%[.ref D,y,k A B,rfl|q]]
abbrev Its(z:Str):It:=⟨λi _=>i<z.cps.size,λi H x a=>a=H/\∃c,z.cps[i]?∣c/\x= .str ⟨#[c]⟩,λi _=>z.cps.size<=i⟩
def we{P:Program}{K:ZA}(it:Addr)(z:Str)(t:Tok):ny P w K tg (Its z) [it] it (λi h=>h.IsStrIter it "str_ascii_iterator" z t i) where
 mem:=by simp
 obj:=λi h st b hb=>by
  let e:=↑hb
  subst e;let%[o,e,c|d]:=st;exact%[o,e|λv z=>by lia]
 keep:=λi h h' st k=>by
  let%[o,e|r]:=st;exact%[o,k it ∅ o e|r]
 item:=by
  intro X hP hw hK hc i fx s σ H E I hf st hg;let hlt:i<z.cps.size:=hg;let%[f0,f1,f2,f3,f4|f5]:=hf it ∅;show wpAny_pyNext_ascii_item st (c:=z.cps[i]) ∅ λh' st' sb=>?_
  let%[o,e,c|d]:=id st';exact%[_,ρ|qe e c d (!1) %[.str _,H,(I.turned (λb o hb e=>(sb.2 b hb).trans e) f0 f1 f3 f4 f5),%[_|ρ],%[ρ,_,by simp|ρ],st'|λb hb=>(hf b hb).1]]
 done:=by
  intro X hP hw hK hc i fx s σ H E I hf st hg;let hle:z.cps.size<=i:=hg;let%[f0,f1,f2,f3,f4|f5]:=hf it ∅;exact wpAny_pyNext_ascii_end (I.ok.hd hc) st (by simp[hle]) λh' eb=>%[rfl|I.turned (λb o hb e=>eb b o hb e) f0 f1 f3 f4 f5]
 self:=λ_ _ _ _ _ st h=>wpAny_pyIter_striter_ascii st h
def yR{P:Program}{K:ZA}(it:Addr)(z:Str)(t:Tok):ny P w K tg (Its z) [it] it (λi h=>h.IsStrIter it "str_iterator" z t i) where
 mem:=by simp
 obj:=λi h st b hb=>by
  let e:=↑hb
  subst e;let%[o,e,c|d]:=st;exact%[o,e|λv z=>by rw[d]at z;cases z]
 keep:=λi h h' st k=>by
  let%[o,e|r]:=st;exact%[o,k it ∅ o e|r]
 item:=by
  intro X hP hw hK hc i fx s σ H E I hf st hg;let hlt:i<z.cps.size:=hg;let%[f0,f1,f2,f3,f4|f5]:=hf it ∅;show wpAny_pyNext_wide_item st (c:=z.cps[i]) ∅ λh' st' sb=>?_
  let%[o,e,c|d]:=id st';exact%[_,ρ|qe e c d (!1) %[.str _,H,(I.turned (λb o hb e=>(sb.2 b hb).trans e) f0 f1 f3 f4 f5),%[_|ρ],%[ρ,_,by simp|ρ],st'|λb hb=>(hf b hb).1]]
 done:=by
  intro X hP hw hK hc i fx s σ H E I hf st hg;let hle:z.cps.size<=i:=hg;let%[f0,f1,f2,f3,f4|f5]:=hf it ∅;exact wpAny_pyNext_wide_end (I.ok.hd hc) st (by simp[hle]) λh' eb=>%[rfl|I.turned (λb o hb e=>eb b o hb e) f0 f1 f3 f4 f5]
 self:=λ_ _ _ _ _ st h=>wpAny_pyIter_striter_wide st h
abbrev CK(D:Addr)(n i:Nat)(Pv:Nat->List V->St->Hp->Prop)(ys:List V)(b:St)(y:V)(H:Hp):Prop:=
 ∃zs a,H D<*zs/\ ~~~zs<sizeLine/\a<n-i/\(a=n-(i+1)/\i+1<=n/\Pv (i+1) (ys++[y]) b (Ja H D (.lst (zs++[y]))))
abbrev CN(n i:Nat)(Pv:Nat->List V->St->Hp->Prop)(ys:List V)(b:St)(H:Hp):Prop:=∃a,a<n-i/\(a=n-(i+1)/\i+1<=n/\Pv (i+1) ys b H)
def CK.mk{Pv:Nat->List V->St->Hp->Prop}(hi:i<n)(a:H D<*zs)(b: ~~~zs<sizeLine)(p:Pv (i+1) (ys++[y]) c (Ja H D (.lst (zs++[y])))):CK D n i Pv ys c y H:=
 %[zs,n-(i+1),a,b,⋯,rfl,hi|p]
def CN.mk{Pv:Nat->List V->St->Hp->Prop}(hi:i<n)(p:Pv (i+1) ys a H):CN n i Pv ys a H:=%[n-(i+1),⋯,rfl,hi|p]
def bR{J:It}{g:TG}{u:TT}{v:TE}{w:Hp->Prop}(Pv:Nat->List V->St->Hp->Prop)(z:Pv 0 [] c H)(s:∀i ys c H,i<n->Pv i ys c H->J.go i H)(d:∀ys c H,Pv n ys c H->J.stop n H)
 (A:∀i ys c H,i<n->Pv i ys c H->∀x f,J.yld i H x f->g x c f λa t=>u a t λb h=>if b=true then v a h λy r=>CK D n i Pv ys a y r else CN n i Pv ys a h) (B:∀ys c H,Pv n ys c H->w H):
 ∃W:Nat->Nat->List V->St->Hp->Prop,(∃m,W 0 m [] c H)/\∀i m ys j l,W i m ys j l->(J.stop i l/\w l)\/
  (J.go i l/\∀x f,J.yld i l x f->g x j f λa t=>u a t λb h=>if b=true then v a h λy r=>∃zs o,r D<*zs/\ ~~~zs<sizeLine/\o<m/\W (i+1) o (ys++[y]) a (Ja r D (.lst (zs++[y])))
   else∃o,o<m/\W (i+1) o ys a h):=by
 show%[λi m ys c H=>m=n-i/\i<=n/\Pv i ys c H,%[n,by simp,Xa _|z]|?_];intro i m ys c H %[rfl,hi|p];by_cases q:i<n
 .exact .inr %[s i ys c H q p|λx f y=>A i ys c H q p x f y]
 .let e:i=n:=by lia
  subst e;exact .inl %[d ys c H p|B ys c H p]
def rW:∀{bs:List Bool} {us:ZF} {i:Nat} {v:Value},aF (bs.map V.bl) us->us[i]?∣v->∃b,bs[i]?∣b/\v= .bool b
 |[],_,_,_,r,e=>by cases r;simp at e
 | b::bs,_,i,v,r,e=>by
   cases r with
   | cons a c=>
     cases(a);cases i with
     | zero=>simp at e;exact%[b,ρ|e.symm]
     | succ i=>
       let%[d,f|g]:=rW c (e);exact%[d,f|g]
def nJ(bs:List Bool):(List.range bs.length).all (λi=>bs.getD i false)=bs.all id:=by
 let e:(List.range bs.length).map (λi=>bs.getD i false)=bs:=by
  apply ext_getElem
  .simp
  .intro i a b
   simp_all
 let:(List.range bs.length).all (λi=>bs.getD i false)=((List.range bs.length).map λi=>bs.getD i false).all id:=by rw[all_map];rfl
 rw[this,e]
def AM{X:Cx}(g:X.calm=true):cD X (.builtin "all") (λxs H Q=>∃(p:Addr) (bs:List Bool),xs=[.ref p]/\Jb X.K H p (bs.map V.bl)/\Q (.bl (bs.all id)) H):=by
 intro fx s z H xs us Q I r h;let%[p,bs,rfl,j|q]:=h;let%[u,rfl|l]:=dh r;cases l;let%[its,d,pl|A]:=I.list j;let m:X.A.in1.handled=none:=I.ok.hd g;let a: ~~~bs=its.toArray.size:=by rw[Zp,<-d.length,Z6]
 show call_all_walk (wpAny_pyIter_list pl.isList %[⇑s,[⇑s,p],[⇑s],its.toArray.size,_,_,λi=>bs.getD i false,rfl,Walks.list m _ p (Zs (by let%[o,n|_]:=pl.isList;exact Zu n)) its.toArray,%[%[_,Zj _ rfl,rfl|rfl]|pl.isList.push _],?_|?_])
 .intro i v s' t B w c;let%[b,f|rfl]:=rW d ↑w;let e:bs.getD i false=b:=!2
  let c:t (bs.getD i false) s':=c;rw[e]at c;exact wpAny_truthy_bool c
 .intro C tk y;rw[<-a,nJ];show%[.bl _,H,I.kept λb o e=>y b o ?_ (Z7 _ e),ρ|q];let:=Zu e;intro f;exact absurd (Xj f) (Zs this)
abbrev Fu:V->Option Int->Option Int->Hp->VK->Prop:=λx lo hi H Q=>∃z,x= .str z/\ ~~~z<=sizeLine/\Q (.str (Txt.slice z lo hi)) H
def Fv{X:Cx}:SlR X Fu:=by
 intro fx s g H x v m n lo hi o Q I e a pl c h;let%[z,rfl,f|q]:=h;let%[t|rfl]:=e;show%["str",_,F.slot_str_getitem.lookup,typeIs_str _ _ _|?_];let fin:∀l u,~~~(Txt.slice z l u)<=sizeLine:=λl u=>Nat.le_trans (Txt.slice_le z _ _) f
 cases pl with
 | none=>
   cases c with
   | none=>exact wpAny_getItem_str_slice (l:=none) (u:=none) (st:=none) a rfl (post_val_or_str %[fin _ _|λt' k=>%[.str (Txt.slice z _ _),H,I.tok k,%[_|rfl]|q]])
   | int j b=>exact wpAny_getItem_str_slice (l:=none) (u:=some (j,b)) (st:=none) a rfl (post_val_or_str %[fin _ _|λt' k=>%[.str (Txt.slice z _ _),H,I.tok k,%[_|rfl]|q]])
 | int i d=>
   cases c with
   | none=>exact wpAny_getItem_str_slice (l:=some (i,d)) (u:=none) (st:=none) a rfl (post_val_or_str %[fin _ _|λt' k=>%[.str (Txt.slice z _ _),H,I.tok k,%[_|rfl]|q]])
   | int j b=>exact wpAny_getItem_str_slice (l:=some (i,d)) (u:=some (j,b)) (st:=none) a rfl (post_val_or_str %[fin _ _|λt' k=>%[.str (Txt.slice z _ _),H,I.tok k,%[_|rfl]|q]])
def f9:∀{ss:ZB} {us:ZF},aF (ss\3) us->StrsAre us ss
 |[],_,r=>by cases r;exact .nil
 | x::ss,_,r=>by
   cases r with
   | cons a b=>
     let%[t|e]:=a;subst e;exact .cons x t (f9 b)
abbrev xv(K:ZA):V->List V->Hp->VK->Prop:=λx vs H Q=>∃z l ss,x= .str z/\vs=[.ref l]/\Jb K H l (ss\3)/\(ss.map (·.length)).sum+ ~~~ss* ~~~z<=16777216/\Q (.str (Txt.join z ss)) H
def Di{X:Cx}:MtM X "str.join" (xv X.K):=by
 intro fx s e H x vs v us Q I a b h;let%[z,l,ss,rfl,rfl,c,hw|q]:=h;let%[t|rfl]:=a;let%[u,rfl|d]:=b.one;cases d;let%[its,r,pl|f]:=I.list c;exact PyProof.Rows.join_list pl.isList (f9 r) hw λt' k=>%[.str _,H,I.tok k,%[_|rfl]|q]
def AN{X:Cx}:cD X (.builtin "isinstance") (λxs H Q=>∃x n t b,xs=[x,.ty n]/\jz X.K H x t/\kitOne X.K t (.type n)∣b/\Q (.bl b) H):=by
 intro fx s d H xs us Q I r h;let%[x,n,t,b,rfl,ty,e|q]:=h;let%[u,f,rfl,c|a]:=jn r;cases(a);exact yG I c ty e λtk=>%[.bl b,H,I.tok tk,rfl|q]
def qz(z:Str)(c i:Nat):Builtin.Str.subAt z ⟨#[c]⟩ i=decide (z.cps[i]?∣c):=by
 unfold Builtin.Str.subAt;let b: ~~~(⟨#[c]⟩:Str)=1:=rfl;rw[b];by_cases hi:i<z.cps.size
 .let e:z.cps.extract i (i+1)= #[z.cps[i]]:=by
   apply Array.ext
   .simp;lia
   .intro j d a;simp at a;subst a;simp
  rw[e,Array.getElem?_eq_getElem hi];by_cases f:z.cps[i]=c
  .subst f;simp
  simp_all
 .let e:z.cps.extract i (i+1)= #[]:=by
   apply Array.ext
   .simp;lia
   .intro j d a;simp at a
  rw[e,Array.getElem?_eq_none ⋯];simp
def AO(z:Str)(c:Nat):(!(Builtin.Str.occurrences z ⟨#[c]⟩ 0 z.length 1).isEmpty)=decide (c∈z.cps.toList):=by
 rcases StrLaws.occ_head z _ 1 (Zi _)with⟨e,d⟩|⟨i,r,e,f,_⟩
 .rw[e];show(Zh λg=>?_).symm;let%[j,h|l]:=List.mem_iff_getElem.mp g;let a:=↑h
  show d j %[?_|?_]
  .change j+1<=z.cps.size;lia
  .rw[qz];exact Zf (by rw[Array.getElem?_eq_getElem a];simpa using l)
 .rw[e];show(Zf ?_).symm;let b:=f.2;rw[qz]at b;let:=Array.mem_of_getElem? (Zo b);simpa using this
section
variable{X:Cx}
nonrec abbrev Ee:R2:=λx y H Q=>∃i j,x= .str i/\y= .str j/\ ~~~i+ ~~~j<=sizeLine/\Q (.str (i++j)) H
nonrec abbrev AQ:R2:=λx y H Q=>rI Aq (λi j=> .int (i*j)) x y H Q\/Fp x y H Q
def Dj:OpR X (binaryOp .Mult) AQ:=Ar.or Fq
nonrec abbrev Fw:R2:=rEq
def Fx:OpR X (compareOp .Eq) Fw:=GY
nonrec abbrev Fy:R2:=rNe
def Fz:OpR X (compareOp .NotEq) Fy:=GZ
nonrec abbrev G8:R2:=λx y H Q=>∃i j,x= .str i/\y= .str j/\Q (.bl (!(Builtin.Str.occurrences j i 0 j.length 1).isEmpty)) H
nonrec abbrev Dk(K:ZA):R2:=λx y H Q=>G8 x y H Q\/rIn K false x y H Q
def FA:OpR X (compareOp .In) (Dk X.K):=yz.or yK
abbrev Dl(K:ZA)(c:TE):TI:=λd H R=>c d H λx b=>(∃a,x= .ref a/\(∃xs,Jb K b a xs)/\R (Itl K a) b)\/(∃a,x= .ref a/\(∃xs,SqT K b a xs)/\R (Itt K a) b)\/∃z,x= .str z/\R (Its z) b
def FB(n:PE X l r):PI X C l (Dl X.K r):=by
 intro fx s u H R I h;show thP (n fx s u H _ I h) λv d x g f i w=>?_
 let c:∀b∈[⇑d],mM X fx g b:=λb y=>by
  let e:b=⇑d:=↑y
  subst e;exact f.fpOk (Zi _) (f.hok.fresh (Zi _))
 rcases w with⟨a,e,⟨xs,j⟩,q⟩|⟨a,e,⟨xs,j⟩,q⟩|⟨z,e,q⟩
 .subst e;cases i;let%[its,A,p|B]:=f.list j;exact wpAny_pyIter_list p.isList %[⇑d,[⇑d],_,_,g,rfl,f.kept (t':=d.toks) λb o e=>Z7 _ e,qf a _,%[_,Zj _ rfl,rfl|rfl],c|q]
 .subst e;cases i;let%[its,A,p|B]:=f.tuple j;exact wpAny_pyIter_tuple (p) %[⇑d,[⇑d],_,_,g,rfl,f.kept λb o e=>Z7 _ e,vU a _,%[_,Zj _ rfl,rfl|rfl],c|q]
 .subst e;let%[t|rfl]:=i;cases m:z.cps.all _ with
  | true=>
    exact wpAny_pyIter_ascii m %[⇑d,[⇑d],_,_,g,rfl,f.kept λb o e=>Z7 _ e,we _ z t,%[_,Zj _ rfl,rfl|rfl],c|q]
  | false=>
    exact wpAny_pyIter_wide m %[⇑d,[⇑d],_,_,g,rfl,f.kept λb o e=>Z7 _ e,yR _ z t,%[_,Zj _ rfl,rfl|rfl],c|q]
end
abbrev be(c:Scope)(N:ZB)(a:Scope)(d:ZB)(b:List (Nat×Nat)):Bool:=
 decide (a.kind= .function)&&a.names.all (λy=>(decide (y.2≠ .cell)||decide (a.names.lookup y.1∣.cell))&&(decide (y.2≠ .local)||decide (a.names.lookup y.1∣.local))&&(decide (y.2≠ .free)||decide (c.names.lookup y.1∣.cell)||decide (c.names.lookup y.1∣.free)))&&
  b.all λp=>match d[p.1]? with
   | some x=>decide (N[p.2]?∣x)&&decide (a.names.lookup x∣.free)
   | none=>false
def ax.of{X:Cx}(h:be X.env.scope X.N a g c=true):ax X a g c:=by
 unfold be at h;rw[Zw,Zw,all_eq_true,all_eq_true]at h;let%[%[i|d]|j]:=h;show%[Zo i,λy b f=>?_,λy b f=>?_,λy b l=>?_|λp m=>?_]
 .let:=d y b;simp only[Zw,or_eq_true,decide_eq_true_eq]at this;exact this.1.1.resolve_left λq=>q f
 .let:=d y b;simp only[Zw,or_eq_true,decide_eq_true_eq]at this;exact this.1.2.resolve_left λq=>q f
 .let:=d y b;simp only[Zw,or_eq_true,decide_eq_true_eq]at this;rcases this.2 with(q|q)|q
  .exact absurd l q
  .exact .inl q
  .exact .inr q
 .let:=j p m;cases e:g[p.1]? with
  | none=>simp_all
  | some x=>
    rw[e]at this;simp only[Zw,decide_eq_true_eq]at this;exact%[x,ρ,this.1|this.2]
structure Gv (mg:ZC) (x:Str) (v:V):Prop where
 ex:∃u,mg x∣u/\aN v u
def Ef{X:Cx}(g:Gv X.mg x v)(a:Gl X x)(b:(x==("__debug__":Str))=false):PE X (.Name x pos) (tC v):=by
 let%[u,h|r]:=g.ex;exact Cy a h r b
structure Cal (P:Program) (w:World) (K:ZA) (mg:ZC) (base:Heap) (k:Nat) (x:Str) (ps:ZB) (sp:Sp):Prop where
 ex:∃f fd,d9 P w K mg base CX0 k f fd ps sp/\mg x∣.ref f/\keepIn K (.ref f)=true/\e9 K fd ps []
structure aE (K:ZA) (mg:ZC) (x:Str) (st:Stmt) (ps:ZB):Prop where
 ex:∃f fd,Fun K x x st f fd/\mg x∣.ref f/\e9 K fd ps []
def aE.cal{P:Program}{K:ZA}{st:Stmt}(D:aE K mg x st ps)(S:av N ps (ap st))
 (a:∀(H:Hp) (vs:List V) (Q:VK) (E:XK),sp vs H Q E-> ~~~vs= ~~~ps/\∀(f:Addr) (b:Value) (A:Around) (outer:List Env) (s:Shared),cj k (A.deeper (envOfC x (ap st) ⇑s f b))->
  ∃t,PSs (rJ CX0 P w K mg base N x (ap st) f b A outer s H E).nox (bY st) t/\t {nx:=λ_ c=>Q .non c,rt:=Q} (start N vs) H):Cal P w K mg base (k+1) x ps sp:=by
 let%[f,d,F,e|g]:=D.ex;exact%[f,d,F.ok S (λv H Q E h=>(a H v Q E h).1) (λb A o s H v Q E r h=>(a H v Q E h).2 f b A o s r),e,F.kp|g]
def FC{X:Cx}(C:Cal X.prog X.w X.K X.mg X.base j x ps sp)(g:cj k X.A)(h:Gl X x)(i:jA CX0 X E0)(l:PA X (e::a) t)(b:j<=k)
 (c:(x==("__debug__":Str))=false) (m:starEach (e::a) X.env=(false,eval e X.env)::starEach a X.env) (d:(backTo pos (starEach a X.env)).any (·.1)=false):
 PE X (.Call (.Name x p) (e::a) [] pos) (t8 sp [] E0 t):=by
 let%[f,r,F,n,o|q]:=C.ex;exact CW F (g.mono b) h n o q .nil i l c m d
def FD{K:ZA}{h:Heap}{st:Stmt}{kV e g d ct:Value}(X:K.In h)(G:h.Ns mainGlobals mg)
 (a:nsIn K mainGlobals x∣some (.ref f)) (l:K.lookup f=some %[m,n,.func (fnOf x x (c8 st) (bY st) (ap st) .none kV e g i d ct)|j]) (c:codeIn K d x=true) (k:keepIn K (.ref f)=true)
 (b:∀(kV e g:Value) (i:ZI) (d ct:Value) (us:ZF),~~~us= ~~~ps->bindArgs (fnOf x x (c8 st) (bY st) (ap st) .none kV e g i d ct) %[us|[]]=pure (ps.zip us)):aE K mg x st ps:=
 %[f,_,eK l c k,mg_of X G a|(eK l c k).binds b]
def G9{K:ZA}{h:Heap}(X:K.In h)(G:h.Ns mainGlobals mg)(a:nsIn K mainGlobals x∣some u)(r:aN v u):Gv mg x v:=%[u,mg_of X G a|r]
def ay(h:∀a:It->Hp->Prop,(∀J f,(∃W:Nat->Nat->St->Hp->Prop,(∃m,W 0 m b f)/\∀i m b H,W i m b H->
 (J.stop i H/\D.nx b H)\/(J.go i H/\∃N:St->Hp->Prop,(∀c d,N c d->∃j,j<m/\W (i+1) j c d)/\∀x d,J.yld i H x d->g x b d λe l=>n {D with nx:=N,ct:=N,bk:=D.nx} e l))->a J f)->o b H a):Ap o g n D b H:=h _ λ_ _ x=>x
def az(h:∀c:It->Hp->Prop,(∀J j,(∀D,j D=none->∃W:Nat->Nat->List V->St->Hp->Prop,
 (∃m,W 0 m [] (qu n l o) (Ja j D (.lst [])))/\∀i m ys d e,W i m ys d e->(J.stop i e/\Q (.ref D) e)\/
  (J.go i e/\∀x p,J.yld i e x p->g x d p λa s=>t a s λb q=>if b=true then u a q λy r=>∃zs f,r D<*zs/\ ~~~zs<sizeLine/\f<m/\W (i+1) f (ys++[y]) a (Ja r D (.lst (zs++[y])))
   else∃f,f<m/\W (i+1) f ys a q))->c J j)->v o H c):qv v n l g t u o H Q:=h _ λ_ _ x=>x
section
variable{X:Cx}{K:ZA}
def FE(h:X.K=K):OpR X (compareOp .In) (Dk K):=by subst h;exact FA
def yS(h:X.K=K):cD X (.builtin "len") (λxs H Q=>∃x n,xs=[x]/\CO K x H n/\Q (.int n) H):=by subst h;exact Av
def yT(h:X.K=K)(a:X.calm=true):cD X (.builtin "all") (λxs H Q=>∃(p:Addr) (bs:List Bool),xs=[.ref p]/\Jb K H p (bs.map V.bl)/\Q (.bl (bs.all id)) H):=by subst h;exact AM a
def yV(h:X.K=K):cD X (.builtin "isinstance") (λxs H Q=>∃x n t b,xs=[x,.ty n]/\jz K H x t/\kitOne K t (.type n)∣b/\Q (.bl b) H):=by subst h;exact AN
def wg(h:X.K=K):cD X (.type "list") (λxs H Q=>∃p ys,xs=[.ref p]/\(Jb K H p ys\/SqT K H p ys)/\∀l,H l=none->Q (.ref l) (Ja H l (.lst ys))):=by subst h;exact rR
def AR(h:X.K=K):MtR X "str.join" (xv K):=by subst h;exact Di
def yW(h:X.K=K)(d:PE X a e)(f:∀b,isTrue a X.env b=(do let v<-b;standAt a.pos;holding [v] (truthy v))):PT X a (λg H Q=>e g H λx c=>∃k,yA K x c k/\Q k c):=by subst h;exact Au d f
def Dm(h:X.K=K)(a:PE X l b):PI X c l (Dl K b):=by subst h;exact FB a
variable{o e:Expr}{es:List Expr}{to:TE}{t:TA}{name:Str}{apos cpos:Pos}{T id:String}{r:V->List V->Hp->VK->Prop}
def Dn(h:X.K=K)(d:PlainAttrs T)(slot:Slot T name id)(c:typeOf (.builtin id)=pure (.type "method_descriptor"))(f:MtR X id r)(g:PE X o to)
 (a:attributeBase o name X.env (eval o X.env)=eval o X.env) (b:(apos.endLine==cpos.line)=true):PE X (.Call (.Attribute o name apos) [] [] cpos) (C4 K T r to):=by
 subst h;exact Fk d slot c f g a b
def AS(h:X.K=K)(g:PlainAttrs T)(slot:Slot T name id)(f:typeOf (.builtin id)=pure (.type "method_descriptor"))(i:MtR X id r)(j:PE X o to)(l:PA X (e::es) t)
 (b:attributeBase o name X.env (eval o X.env)=eval o X.env)
 (d:((backTo cpos (starEach (e::es) X.env)).all (λx=>!x.1)&&(backToKw cpos (keywordEach [] X.env)).all (λx=>x.1.isSome)
  && decide (~~~(e::es)+ ~~~([]:List Keyword)+(if([]:List Keyword).isEmpty then 0 else 1)<30))=true)
 (c:(apos.endLine==cpos.line)=true) (m:starEach (e::es) X.env=(false,eval e X.env)::starEach es X.env) (a:(backTo cpos (starEach es X.env)).any (·.1)=false):
 PE X (.Call (.Attribute o name apos) (e::es) [] cpos) (tBM K T r to t):=by
 subst h;exact G5 g slot f i j l b d c m a
end
section
variable{X:Cx}{fx:ZE}{σ:St}{H:Hp}{s s':Shared}{h':Heap}{tk:Nat}{fp:List Addr}
def Jc.moved(I:Jc X fx σ H s)(c:∀b∈fp,mM X fx H b)(d:∀b o,b∉fp->s.heap.get? b∣o->h'.get? b∣o):Jc X fx σ H {s with heap:=h',toks:=tk}:=by
 let f:∀b v,H b∣v->b∉fp:=λb v e a=>by rw[(c b a).1]at e;cases e
 show I.step (λb a=>%[(c b a).2.2.2.1,(c b a).2.1,(c b a).2.2.2.2.1|(c b a).2.2.2.2.2]) (λb o _ _ g e _=>d b o g e) (λb o _ _ g e _=>%[o.slots|d b o g e]) (λ_ _ _ _ n=>n)
  (λb o g e=>%[o|d b o g e]) (λ_ _ e=>e) (λ_ _ _ e=>e) (λb ps e=>%[#[]|by rw[e];simp]) (λm l=>?_) (λb v e=>?_) I.bare
 .let%[o,p,t,u|r]:=l;exact%[o,p,t,d _ o (λa=>(c _ a).2.1 rfl) u|r]
 .show(I.hok b v e).stay (λj w h q=>d j w ?_ q) (λ_ q=>q) λ_ _ q=>q
  rcases h with i|i
  .exact i▸f b v e
  .exact f j _ i
def Jc.stood3(I:Jc X c y B s)(h:∀p∈fx,p∈c)(J:Jc X fx σ H s')(d:H a=none)(C:s.heap.get? a=none)(new:bQ X.prog X.w (Ja H a o) s'.heap a o):Jc X fx σ (Ja H a o) s':=by
 let f:∀{b:Addr} {o:Obj},s.heap.get? b∣o->b≠a:=λe z=>by lia
 show%[J.ok,J.os,J.bare,?_,J.loc,J.cell,?_,?_,?_,?_|J.len]
 .show%[J.base.keep,J.base.slot,λb o e n l=>?_,J.base.there,λb xs e=>?_,λb o v e=>?_|λb ps e=>?_]
  .let%[E|A]:=I.base.there b o e l;rw[am (f A)];exact J.base.free b o e n l
  .rw[am (aC (J.base.tups b xs e) d)];exact J.base.tups b xs e
  .rw[am (aC (J.base.frzs b o v e) d)];exact J.base.frzs b o v e
  .let%[m|q]:=J.base.tbls b ps e;exact%[m|(am (aC q d))▸q]
 .let%[m,%[G,_,_,i|_]|_]:=I.loc;rw[am (f i)];exact J.free
 .intro t g e;let%[L,M,j|_]:=I.cell t g e;rw[am (f j)];exact J.freeC t g e
 .intro p u;let%[e,n|r]:=J.pin p u;show%[e,?_|r];let:=(I.pin p ((Xi u).elim (λz=>Yp _ z) λz=>Yq _ (h p z))).1;rw[am (f this)];exact n
 .intro b v e;by_cases w:b=a
  .subst w;rw[upd_same]at e;cases e;exact new
  .rw[am w]at e;show(J.hok b v e).stay (λ_ _ _ q=>q) (λg q=>?_) λg xs q=>?_
   .rw[am (aC q d)];exact q
   .rw[am (aC q d)];exact q
def Jc.stood2(I:Jc X fx σ d s)(J:Jc X fx σ H s')(b:H a=none)(c:⇑s<=a)(new:bQ X.prog X.w (Ja H a o) s'.heap a o):Jc X fx σ (Ja H a o) s':=
 I.stood3 (λ_ h=>h) J b (by
  cases e:s.heap.get? a with
  | none=>rfl
  | some o=>exact absurd (Zu e) (Nat.not_lt.mpr c)) new
def Jc.stoodS(I:Jc X fx σ H s)(J:Jc X fx σ H s')(b:⇑s<=a)(new:bQ X.prog X.w (Ja H a o) s'.heap a o):Jc X fx σ (Ja H a o) s':=I.stood2 J (I.hok.fresh b) b new
def Jc.stood(I:Jc X fx σ H s)(J:Jc X fx σ H {s with heap:=h',toks:=tk})(b:⇑s<=a)(new:bQ X.prog X.w (Ja H a o) h' a o):Jc X fx σ (Ja H a o) {s with heap:=h',toks:=tk}:=I.stoodS J b new
end
structure wj (z TI TO i1 i2:Addr):Prop where
 TIz:TI≠z
 TOz:TO≠z
 i1z:i1≠z
 i2z:i2≠z
 TITO:TI≠TO
 TIi1:TI≠i1
 TIi2:TI≠i2
 TOi1:TO≠i1
 TOi2:TO≠i2
 i12:i1≠i2
section
#where
variable{z TI TO i1 i2:Addr}{fp1 fp2:List Addr}{n1 n2 i:Nat}{P1 P2:Nat->Value->Prop}{St1 St2:Nat->Heap->Prop}
def AT{Q:ZD}(D1:Draws prog w A i1 fp1 n1 P1 St1)(D2:Draws prog w A i2 fp2 n2 P2 St2)(D:wj z TI TO i1 i2)(T:∀b∈fp1,b≠z/\b≠TO/\b≠i2)(m2:∀b∈fp2,b≠z/\b≠TO/\b≠i1)
 (U:IsZip s.heap z TI TO .none) (ae:IsPair s.heap TI (.ref i1) (.ref i2)) (ag:IsPair s.heap TO a b) (h1:St1 i s.heap) (h2:St2 i s.heap) (l1:i<n1) (l2:i<n2)
 (hQ:∀x y n tk,P1 i x->P2 i y->IsZip n z TI TO (rawInt ⇑s)->IsPair n TO x y->St1 (i+1) n->St2 (i+1) n->IsPair n ⇑s x y->
  (∀c o,c≠z->c≠TO->c≠i1->c≠i2->s.heap.get? c∣o->n.get? c∣o)->Q (.ref ⇑s) {s with heap:=n,toks:=tk}):
 ↥A (Builtin.«zip.__next__» %[[.ref z]|[]]) (λfin s'=>∃v,fin= .done (.ret v)/\Q v s') E s:=by
 let t:∀{k h n c},(∀b∈fp1,b≠c)->SameBut c h n->St1 k h->St1 k n:=λhc sb st=>D1.frame _ _ _ st λb d o e=>(sb.2 b (hc b d)).trans e
 let u:∀{k h n c},(∀b∈fp2,b≠c)->SameBut c h n->St2 k h->St2 k n:=λhc sb st=>D2.frame _ _ _ st λb d o e=>(sb.2 b (hc b d)).trans e
 change wpAny _ _ (field (.ref z) 2>>= _) _ _ _;show Z2 (wpAny_field U rfl (x:= .bool false) rfl ?_);change wpAny _ _ (field (.ref z) 3>>= _) _ _ _;show Z2 (wpAny_field U rfl (x:= .ref TI) rfl (Z2 (wpAny_seqItems ae rfl ?_)));change wpAny _ _ (Builtin.SmallTypes.ownedTupleIsFree (.ref z)>>= _) _ _ _;show Z2 ?_;unfold Builtin.SmallTypes.ownedTupleIsFree;show Z2 (wpAny_field U rfl (x:= .none) rfl (Z3 ?_));simp only[if_true];show Z2 (wpAny_rule (Z2 (wpAny_field U rfl (x:= .ref TO) rfl (Z2 (wpAny_setField_rec U ∅ λg1 M p=>?_)))));replace M:IsZip g1 z TI TO .ellipsis:=M;show Z2 ?_;simp only[List.zipIdx_cons,List.zipIdx_nil,forIn_cons,List.forIn_nil];show Z2 (Z2 (wpAny_onRaise ?_));change wpAny _ _ (Builtin.SmallTypes.nextOf (.ref i1)>>= _) _ _ _;show Z2 (D1.item i _ _ _ l1 (t (λb d=>(T b d).1) p h1) λx g2 ai px aj f=>Z3 ?_);replace f:SameBut i1 g1 g2:=f;let I:IsPair g2 TO a b:=(f.2 _ D.TOi1).trans ((p.2 _ D.TOz).trans ag);show Z2 (wpAny_seqItems I rfl (Z2 (wpAny_updateSeq_pair (s:={s with heap:=g2,toks:=ai}) I λg3 q g=>?_)));replace q:IsPair g3 TO x b:=q;replace g:SameBut TO g2 g3:=g;show Z2 (wpAny_letGo (Z3 (Z2 (Z2 (wpAny_onRaise ?_)))));change wpAny _ _ (Builtin.SmallTypes.nextOf (.ref i2)>>= _) _ _ _;show Z2 (D2.item i _ _ _ l2 (u (λb d=>(m2 b d).2.1) g (u (λb d=>(m2 b d).2.2) f (u (λb d=>(m2 b d).1) p h2))) λy g4 B py al j=>Z3 ?_);replace j:SameBut i2 g3 g4:=j;let J:IsPair g4 TO x b:=(j.2 _ D.TOi2).trans q;show Z2 (wpAny_seqItems J rfl (Z2 (wpAny_updateSeq_pair (s:={s with heap:=g4,toks:=B}) J λr m l=>?_)));replace m:IsPair r TO x y:=m;replace l:SameBut TO g4 r:=l;show Z2 (wpAny_letGo (Z3 (Z3 (Z2 (wpAny_seqItems m rfl (Z2 (wpAny_newTuple ?_)))))));let Y:r.objs.size=⇑s:=by rw[l.1,j.1,g.1,f.1,p.1]
 let ab:IsZip r z TI TO .ellipsis:=(l.2 _ D.TOz.symm).trans ((j.2 _ D.i2z.symm).trans ((g.2 _ D.TOz.symm).trans ((f.2 _ D.i1z.symm).trans M)));let an:∀c o,c≠z->c≠TO->c≠i1->c≠i2->s.heap.get? c∣o->r.get? c∣o:=λc o N c2 c3 c4 e=>
  (l.2 c c2).trans ((j.2 c c4).trans ((g.2 c c2).trans ((f.2 c c3).trans ((p.2 c N).trans e))))
 let L:z<r.objs.size:=Zu ab;show Z2 (Z2 (wpAny_setField_rec (s:={s with heap:=r.push {cls:= .type "tuple",data:= .seq #[x,y]},toks:=B}) (Z7 _ ab) ∅ λg7 O C=>?_));replace O:IsZip g7 z TI TO (rawInt r.objs.size):=O;replace C:SameBut z (r.push _) g7:=C;show wpAny_setField_rec (s:={s with heap:=g7,toks:=B}) O ∅ λg8 G H=>?_
 replace G:IsZip g8 z TI TO (rawInt r.objs.size):=G;replace H:SameBut z g7 g8:=H;let up:∀c o,c≠z->r.get? c∣o->g8.get? c∣o:=λc o N e=>(H.2 c N).trans ((C.2 c N).trans (Z7 _ e))
 let ac:=(H.2 _ (Yv L)).trans ((C.2 _ (Yv L)).trans (Zj _ rfl));rw[Y]at G ac;show Z3 %[_,rfl|?_];rw[Y];exact hQ x y g8 B px py G (up _ _ D.TOz m) (D1.frame _ _ _ (t (λb d=>(T b d).2.1) l (t (λb d=>(T b d).2.2) j (t (λb d=>(T b d).2.1) g aj))) λb d o e=>up b o (T b d).1 e) (D2.frame _ _ _ (u (λb d=>(m2 b d).2.1) l al) λb d o e=>up b o (m2 b d).1 e) ac λc o N c2 c3 c4 e=>up c o N (an c o N c2 c3 c4 e)
def AU(L:Draws prog w A i1 fp1 n1 P1 St1)(D2:Draws prog w A i2 fp2 n2 P2 St2)(D:wj z TI TO i1 i2)(m1:∀b∈fp1,b≠z/\b≠TO/\b≠i2)(m2:∀b∈fp2,b≠z/\b≠TO/\b≠i1)
 (B:IsZip s.heap z TI TO .none) (M:IsPair s.heap TI (.ref i1) (.ref i2)) (N:IsPair s.heap TO a b) (h1:St1 i s.heap) (h2:St2 i s.heap) (l1:i<=n1) (l2:i<=n2) (ab:i=n1\/i=n2)
 (hE:∀n e tk,(∀c o,c≠z->c≠TO->c≠i1->c≠i2->s.heap.get? c∣o->n.get? c∣o)->(∃o,n.get? e∣o/\o.cls= .type "StopIteration")->E (.ref e) {s with heap:=n,toks:=tk}):
 ↥A (Builtin.«zip.__next__» %[[.ref z]|[]]) Q E s:=by
 let O:∀{k h n c},(∀b∈fp1,b≠c)->SameBut c h n->St1 k h->St1 k n:=λT U st=>L.frame _ _ _ st λb j o e=>(U.2 b (T b j)).trans e
 let u:∀{k h n c},(∀b∈fp2,b≠c)->SameBut c h n->St2 k h->St2 k n:=λT U st=>D2.frame _ _ _ st λb j o e=>(U.2 b (T b j)).trans e
 change wpAny _ _ (field (.ref z) 2>>= _) _ _ _;show Z2 (wpAny_field B rfl (x:= .bool false) rfl ?_);change wpAny _ _ (field (.ref z) 3>>= _) _ _ _;show Z2 (wpAny_field B rfl (x:= .ref TI) rfl (Z2 (wpAny_seqItems M rfl ?_)));change wpAny _ _ (Builtin.SmallTypes.ownedTupleIsFree (.ref z)>>= _) _ _ _;show Z2 ?_;unfold Builtin.SmallTypes.ownedTupleIsFree;show Z2 (wpAny_field B rfl (x:= .none) rfl (Z3 ?_));simp only[if_true];show Z2 (wpAny_rule (Z2 (wpAny_field B rfl (x:= .ref TO) rfl (Z2 (wpAny_setField_rec B ∅ λg1 p l=>?_)))));replace p:IsZip g1 z TI TO .ellipsis:=p;show Z2 ?_;simp only[List.zipIdx_cons,List.zipIdx_nil,forIn_cons,List.forIn_nil];show Z2 (Z2 (wpAny_onRaise ?_));change wpAny _ _ (Builtin.SmallTypes.nextOf (.ref i1)>>= _) _ _ _;let C:St1 i g1:=O (λb j=>(m1 b j).1) l h1;by_cases c1:i<n1
 .let e2:i=n2:=by lia
  show Z2 (L.item i _ _ _ c1 C λx g2 v px ae d=>Z3 ?_);replace d:SameBut i1 g1 g2:=d;let t:IsPair g2 TO a b:=(d.2 _ D.TOi1).trans ((l.2 _ D.TOz).trans N);show Z2 (wpAny_seqItems t rfl (Z2 (wpAny_updateSeq_pair (s:={s with heap:=g2,toks:=v}) t λg3 ac f=>?_)));replace f:SameBut TO g2 g3:=f;show Z2 (wpAny_letGo (Z3 (Z2 (Z2 (wpAny_onRaise ?_)))));change wpAny _ _ (Builtin.SmallTypes.nextOf (.ref i2)>>= _) _ _ _;show Z2 (D2.done _ _ _ (e2▸u (λb j=>(m2 b j).2.1) f (u (λb j=>(m2 b j).2.2) d (u (λb j=>(m2 b j).1) l h2))) λJ e q Y=>?_);replace q:Heap.ExtBut i2 g3 J:=q;let%[oe,g|m]:=Y;let G:IsZip J z TI TO .ellipsis:=q _ _ D.i2z.symm ((f.2 _ D.TOz.symm).trans ((d.2 _ D.i1z.symm).trans p));let y:e≠z:=λx=>by subst x;rw[G]at g;cases g;simp at m
  show wpAny_setField_rec (s:={s with heap:=J,toks:=v}) G ∅ λg5 _ r=>?_
  replace r:SameBut z J g5:=r;exact hE g5 e v (λc o H d2 d3 d4 x=>(r.2 c H).trans (q c o d4 ((f.2 c d2).trans ((d.2 c d3).trans ((l.2 c H).trans x))))) %[oe,(r.2 e y).trans g|m]
 .let e1:i=n1:=by lia
  show Z2 (L.done _ _ _ (e1▸C) λg2 e d Y=>?_);replace d:Heap.ExtBut i1 g1 g2:=d;let%[oe,g|m]:=Y;let I:=d _ _ D.i1z.symm p;let y:e≠z:=λx=>by subst x;rw[I]at g;cases g;simp at m
  show wpAny_setField_rec (s:=(s>>>g2)) I ∅ λg3 _ f=>?_
  replace f:SameBut z g2 g3:=f;exact hE g3 e s.toks (λc o H _ d3 _ x=>(f.2 c H).trans (d c o d3 ((l.2 c H).trans x))) %[oe,(f.2 e y).trans g|m]
end
abbrev Itz(x y:Str):It:=⟨λi _=>i<x.cps.size/\i<y.cps.size,λi H v a=>∃c d T,x.cps[i]?∣c/\y.cps[i]?∣d/\H T=none/\v= .ref T/\a=Ja H T (.tup [.str ⟨#[c]⟩,.str ⟨#[d]⟩]),
 λi _=>i<=x.cps.size/\i<=y.cps.size/\(i=x.cps.size\/i=y.cps.size)⟩
abbrev ZSt(z TI TO c d:Addr)(e f:Nat->Heap->Prop)(i:Nat)(h:Heap):Prop:=IsZip h z TI TO .none/\IsPair h TI (.ref c) (.ref d)/\(∃a b,IsPair h TO a b)/\e i h/\f i h
def iY(prog:Program)(w:World)(x:Str)(t:Tok)(it:Addr):∀A,A.handled=none->
 Draws prog w A it [it] x.cps.size (λi v=>∃c u,x.cps[i]?∣c/\v= .str ⟨#[c]⟩ u) (λi h=>h.IsStrIter it (strIterType x) x t i):=by
 intro A a;unfold strIterType;cases b:x.cps.all _ with
 | true=>exact Draws.strAscii a it x t
 | false=>exact Draws.strWide a it x t
def AV{P:Program}{K:ZA}(z TI TO i1 i2:Addr)(x y:Str)(t u:Tok)(D:wj z TI TO i1 i2):
 ny P w K (.Tuple elts kt tp) (Itz x y) [z,TI,TO,i1,i2] z (ZSt z TI TO i1 i2 (λi h=>h.IsStrIter i1 (strIterType x) x t i) (λi h=>h.IsStrIter i2 (strIterType y) y u i)) where
 mem:=by simp
 obj:=λi h st b hb=>by
  let%[hz,hTI,%[a,c|hTO],%[o1,e1,_|d1],o2,e2,_|d2]:=st
  grind
 keep:=λi h h' st k=>by
  let%[hz,hTI,%[a,c|hTO],%[o1,e1|r1],o2,e2|r2]:=st;exact%[k z ∅ _ hz,k TI ∅ _ hTI,%[a,c|k TO ∅ _ hTO],%[o1,k i1 ∅ _ e1|r1],o2,k i2 ∅ _ e2|r2]
 item:=by
  intro X hP hw hK hc i fx s σ H E I hf st hg;subst hP hw hK;let%[hz,hTI,%[a,c|hTO],h1|h2]:=st;obtain⟨g1,g2⟩:i<x.cps.size/\i<y.cps.size:=hg;let hT:s.TypeIs (.ref z) "zip":=%[_,hz|rfl]
  let hh:X.A.in1.handled=none:=I.ok.hd hc;unfold pyNext;show Z2 (wpAny_attempt (wpAny_callSpecial?_slot (name:=!"__next__") hT F.slot_zip_next (wpAny_call_entry F.slot_zip_next hT F.entry_zip_next
   (AT (iY _ _ x t i1 _ hh) (iY _ _ y u i2 _ hh) D (λb hb=>(show b=i1 by simpa using hb)▸%[D.i1z,Ne.symm D.TOi1|D.i12]) (λb hb=>(show b=i2 by simpa using hb)▸%[D.i2z,Ne.symm D.TOi2|Ne.symm D.i12]) hz hTI hTO h1 h2 g1 g2 λv1 v2 h' tk p1 p2 a1 a2 a3 a4 a5 hk=>Z3 ?_) (F.args_zip_next_1 _))))
  let%[c1,u1,e1|rfl]:=p1;let%[c2,u2,e2|rfl]:=p2;show%[_,ρ|wpAny_letOwnedTupleGo_zip (s:={s with heap:=h',toks:=tk}) a1 λh'' hz'' sb=>?_];replace sb:SameBut z h' h'':=sb;let kk:∀b o,b∉[z,TI,TO,i1,i2]->s.heap.get? b∣o->h''.get? b∣o:=λb o hb e=>by
   simp only[Ys,X1,or_false,not_or]at hb;exact(sb.2 b hb.1).trans (hk b o hb.1 hb.2.2.1 hb.2.2.2.1 hb.2.2.2.2 e)
  let turn1:Jc X fx σ H {s with heap:=h'',toks:=tk}:=I.moved hf kk;let Hn:H ⇑s=none:=I.fresh;let I2:Jc X fx σ (Ja H ⇑s (.tup [.str ⟨#[c1]⟩,.str ⟨#[c2]⟩])) {s with heap:=h'',toks:=tk}:=
   I.stood turn1 (Zi _) %[by change 2<=sizeLine;decide,[.str _ u1,.str _ u2],.cons %[_|rfl] (.cons %[_|rfl] .nil),_,((sb.2 _ (Yv (Zu hz))).trans a5),rfl,_|rfl]
  show%[.ref ⇑s,_,I2,ρ,%[c1,c2,_,e1,e2,Hn,ρ|ρ],%[hz'',(sb.2 _ D.TIz).trans (hk _ _ D.TIz D.TITO D.TIi1 D.TIi2 hTI),%[_,_|(sb.2 _ D.TOz).trans a2],?_|?_]|λb hb=>?_]
  .let%[o,e|r]:=a3;exact%[o,(sb.2 _ D.i1z).trans e|r]
  .let%[o,e|r]:=a4;exact%[o,(sb.2 _ D.i2z).trans e|r]
  .let:b<⇑s:=by
    simp only[Ys,X1,or_false]at hb;let%[o1,q1|_]:=h1;let%[o2,q2|_]:=h2;rcases hb with rfl|rfl|rfl|rfl|rfl
    .exact Zu hz
    .exact Zu hTI
    .exact Zu hTO
    .exact Zu q1
    .exact Zu q2
   rw[am (Zs this)];exact(hf b hb).1
 done:=by
  intro X hP hw hK hc i fx s σ H E I hf st hg;let%[hz,hTI,%[a,c|hTO],h1|h2]:=st;obtain⟨g1,g2,g3⟩:i<=x.cps.size/\i<=y.cps.size/\(i=x.cps.size\/i=y.cps.size):=hg;let hT:s.TypeIs (.ref z) "zip":=%[_,hz|rfl]
  let hh:=I.ok.hd hc;show Z2 (wpAny_attempt (wpAny_callSpecial?_slot hT F.slot_zip_next (wpAny_call_entry F.slot_zip_next hT F.entry_zip_next
   (AU (iY _ _ x t i1 _ hh) (iY _ _ y u i2 _ hh) D (λb hb=>(show b=i1 by simpa using hb)▸%[D.i1z,Ne.symm D.TOi1|D.i12]) (λb hb=>(show b=i2 by simpa using hb)▸%[D.i2z,Ne.symm D.TOi2|Ne.symm D.i12]) hz hTI hTO h1 h2 g1 g2 g3 λh' e tk hk he=>?_) (F.args_zip_next_1 _))))
  let%[o,ho|hco]:=he;show Z2 (wpAny_isInstance %[o,ho|hco] isSubtype_stop (Z3 %[rfl|?_]));let kk:∀b o,b∉[z,TI,TO,i1,i2]->s.heap.get? b∣o->h'.get? b∣o:=λb o hb e=>by
   simp only[Ys,X1,or_false,not_or]at hb;exact hk b o hb.1 hb.2.2.1 hb.2.2.2.1 hb.2.2.2.2 e
  exact I.moved hf kk
 self:=λ_ _ _ _ _ st h=>wpAny_pyIter_zip st.1 h
abbrev bg:Expr->Bool
 | .Starred _ _=>true
 | _=>false
def aD(h:bg e=false):starEach (e::a) env=(false,eval e env)::starEach a env:=by
 cases e<;> first|rfl|cases(show true=false from h)
def dB(h:bg e=false):assignEach (e::a) env=(false,assign e env)::assignEach a env:=by
 cases e<;> first|rfl|cases(show true=false from h)
def gc:∀{a:List Expr},a.any bg=false->(backTo pos (starEach a env)).any (·.1)=false
 |[],_=>rfl
 | e::a,h=>by
   rw[Zx,X2]at h;rw[aD h.1];let:=gc (pos:=pos) (env:=env) h.2;cases a with
   | nil=>rfl
   | cons c b=>
     simp only[backTo]at this ⊢;simpa using this
def rX:∀{a:List Expr},a.any bg=false->(backTo pos (starEach a env)).all (λx=>!x.1)=true
 |[],_=>rfl
 | e::a,h=>by
   rw[Zx,X2]at h;rw[aD h.1];let:=rX (pos:=pos) (env:=env) h.2;cases a with
   | nil=>rfl
   | cons c b=>
     simp only[backTo]at this ⊢;simpa using this
def jB:∀{a:List Expr},a.any bg=false-> ~~~(assignEach a env)= ~~~a/\(assignEach a env).findIdx? (·.1)=none
 |[],_=>%[rfl|rfl]
 | e::a,h=>by
   rw[Zx,X2]at h;rw[dB h.1];let b:=jB (env:=env) h.2;show%[by rw[Zr,Zr,b.1]|?_];rw[List.findIdx?_cons,b.2];rfl
abbrev gj:Expr->Bool
 | .ListComp _ _ _ _=>true
 | .SetComp _ _ _ _=>true
 | .DictComp _ _ _ _ _=>true
 | _=>false
def jR(h:gj e=false):swapsWith e t l env=pure false:=by
 cases e<;> first|rfl|cases(show true=false from h)
abbrev AW:Expr->Bool
 | .Tuple _ _ _=>true
 | _=>false
def wk(h:AW e=false):swappedStores [t] e env=pure none:=by
 cases t with
 | Tuple _ _ _=>cases e<;> first|rfl|cases(show true=false from h)
 | List _ _=>cases e<;> first|rfl|cases(show true=false from h)
 | _=>rfl
abbrev gx:Expr->Bool
 | .Call _ _ _ _=>true
 | _=>false
def fh(h:gx o=false):attributeBase o a env w=w:=by
 cases o<;> first|rfl|cases(show true=false from h)
abbrev nK:Expr->Bool
 | .Set _ _ _=>true
 | _=>false
def lg(h:nK e=false)(x:Value):foldedSetIterable e env x=pure x:=by
 cases e<;> first|rfl|cases(show true=false from h)
structure QE (X:Cx) (e:Expr) (t:TE):Prop where
 h:PE X e t
structure QT (X:Cx) (e:Expr) (t:TT):Prop where
 h:PT X e t
structure QW (X:Cx) (e:Expr) (t:TT):Prop where
 h:PW X e t
structure QA (X:Cx) (es:List Expr) (t:TA):Prop where
 h:PA X es t
structure QS (X:Cx) (st:Stmt) (t:TS):Prop where
 h:PS X st t
structure QSs (X:Cx) (st:List Stmt) (t:TS):Prop where
 h:PSs X st t
structure QG (X:Cx) (e:Expr) (t:TG):Prop where
 h:PG X e t
structure QGs (X:Cx) (es:List Expr) (t:TGs):Prop where
 h:PGs X es t
structure QI (X:Cx) (tg cf:Expr) (wi:TI):Prop where
 h:PI X tg cf wi
structure QO (X:Cx) (e:Option Expr) (t:TO):Prop where
 h:PO X e t
structure QTs (X:Cx) (ifs:List Expr) (t:TT):Prop where
 h:PTs X ifs t
structure OpQ (X:Cx) (f:Value->Value->Sem Value) (r:R2):Prop where
 h:OpR X f r
structure cA (X:Cx) (f:Value) (r:List V->Hp->VK->Prop):Prop where
 h:cD X f r
structure MtQ (X:Cx) (id:String) (r:V->List V->Hp->VK->Prop):Prop where
 h:MtR X id r
section
variable{X:Cx}{K:ZA}{pos:Pos}
def aw{i j}:QE X (.Constant (.int i) j pos) (tC (.int i)):=⟨Ez⟩
def eBl{b j}:QE X (.Constant (.bool b) j pos) (tC (.bl b)):=⟨GP⟩
def wo{j}:QE X (.Constant .none j pos) (tC .non):=⟨EA⟩
def dN{x j}:QE X (.Constant (.str x) j pos) (tC (.str x)):=⟨EB⟩
def vn(i:Nat)(b:X.N[i]?∣x)(c:Vis X.env.scope x)(d:(x==("__debug__":Str))=false)(a:(x==("__classdict__":Str))=false):QE X (.Name x pos) (pK i):=⟨z9 b c d a⟩
def gvE(g:Gv X.mg x v)(a:Gl X x)(b:(x==("__debug__":Str))=false):QE X (.Name x pos) (tC v):=⟨Ef g a b⟩
def blE(a:Gl X x)(b:X.mg x=none)(c:bootBuiltins x∣u)(r:aN v u)(f:(x==("__name__":Str))=false)(d:(x==("__debug__":Str))=false):QE X (.Name x pos) (tC v):=
 ⟨Cz a b c r (λe=>by lia) d⟩
def ao:QA X [] yH:=⟨E8⟩
def paE(a:bg e=false)(b:QE X e c)(d:QA X f t):QA X (e::f) (Ay c t):=⟨CU b.h d.h (aD a)⟩
def calE(C:Cal X.prog X.w X.K X.mg X.base j x ps sp)(f:cj k X.A)(g:Gl X x)(a:Nat.ble j k=true)
 (b:(x==("__debug__":Str))=false) (c:(e::d).any bg=false) (h:QA X (e::d) t):
 QE X (.Call (.Name x p) (e::d) [] pos) (t8 sp [] E0 t):=by
 rw[Zx,X2]at c;exact⟨FC C f g AL h.h (Nat.le_of_ble_eq_true a) b (aD c.1) (gc c.2)⟩
def cbE{id:String}(d:cA X (.builtin id) r)(f:Gl X x)(g:X.mg x=none)(h:bootBuiltins x∣.builtin id)(j:(x==("__name__":Str))=false)(a:(x==("__debug__":Str))=false)
 (b:(e::c).any bg=false) (i:QA X (e::c) t):QE X (.Call (.Name x p) (e::c) [] pos) (tCB r t):=by
 rw[Zx,X2]at b;exact⟨AC d.h f g h i.h (λe=>by lia) a (aD b.1) (gc b.2)⟩
def ctE(d:cA X (.type T) r)(f:Gl X x)(g:X.mg x=none)(h:bootBuiltins x∣.type T)(j:(x==("__name__":Str))=false)(a:(x==("__debug__":Str))=false)
 (b:(e::c).any bg=false) (i:QA X (e::c) t):QE X (.Call (.Name x p) (e::c) [] pos) (tCB r t):=by
 rw[Zx,X2]at b;exact⟨yJ d.h f g h i.h (λe=>by lia) a (aD b.1) (gc b.2)⟩
def bmE{T id:String}(h:X.K=K)(m:PlainAttrs T)(slot:Slot T name id)(i:typeOf (.builtin id)=pure (.type "method_descriptor"))(n:MtQ X id r)
 (b:gx o=false) (a:(e::g).any bg=false) (j:Nat.blt (e::g).length 30=true) (c:(d.endLine==f.line)=true) (p:QE X o q) (s:QA X (e::g) t):
 QE X (.Call (.Attribute o name d) (e::g) [] f) (tBM K T r q t):=by
 let l:=a;rw[Zx,X2]at l;show⟨AS h m slot i n.h p.h s.h (fh b) ?_ c (aD l.1) (gc l.2)⟩;rw[rX a];let:decide (~~~(e::g)+ ~~~([]:List Keyword)+(if([]:List Keyword).isEmpty then 0 else 1)<30)=true:=Zf ((Nat.blt_eq.mp j));rw[this];rfl
def Ha{T id:String}(h:X.K=K)(f:PlainAttrs T)(slot:Slot T name id)(e:typeOf (.builtin id)=pure (.type "method_descriptor"))(g:MtQ X id r)
 (a:gx o=false) (b:(c.endLine==d.line)=true) (i:QE X o j):QE X (.Call (.Attribute o name c) [] [] d) (C4 K T r j):=⟨Dn h f slot e g.h i.h (fh a) b⟩
def jS(b:Gl X "range")(c:X.mg "range"=none)(d:bg a=false)(e:QA X [a] f):QI X g (.Call (.Name "range" p) [a] [] pos) (Ao f):=⟨yx b c e.h (aD d)⟩
def FF(h:X.K=K)(a:QE X l b):QI X c l (Dl K b):=⟨Dm h a.h⟩
section
variable{a b c:Expr}{ta tb tc:TE}{op op':CmpOp}{r r':R2}
def wp(e:OpQ X (compareOp op) r)(d:OpQ X (compareOp op') r')(f:lastMarks [op,op'] [b,c]=false)(g:QE X a ta)(h:QE X b tb)(i:QE X c tc):QE X (.Compare a [op,op'] [b,c] pos) (vW r r' ta tb tc):=⟨At e.h d.h g.h h.h i.h f⟩
def jC(d:OpQ X (compareOp op) r)(e:behindInMarks op b=false)(f:QE X a ta)(g:QE X b tb):QE X (.Compare a [op] [b] pos) (tOp r ta tb):=⟨CL d.h f.h g.h e⟩
def bh(d:OpQ X (compareOp op) r)(e:behindInMarks op b=false)(f:QE X a ta)(g:QE X b tb):QT X (.Compare a [op] [b] pos) (xq (tOp r ta tb)):=⟨CM d.h f.h g.h e⟩
def opE{op:Operator}(d:OpQ X (binaryOp op) r)(e:QE X a ta)(f:QE X b tb):QE X (.BinOp a op b pos) (tOp r ta tb):=⟨GU d.h e.h f.h⟩
def rY(d:QE X a ta):QE X (.UnaryOp .USub a pos) (tUn (rU λi=> .int (-i)) ta):=⟨GV EX d.h⟩
def noO:QO X none rK:=⟨CZ⟩
def jp(h:QE X a ta):QO X (some a) (AD ta):=⟨C0 h.h⟩
def nL{op}(h:QE X a ta):QE X (.BoolOp op [a] pos) ta:=⟨EJ h.h⟩
def nM{rest:List Expr}(d:QE X a ta)(e:QE X (.BoolOp .And (b::rest) pos) tb):QE X (.BoolOp .And (a::b::rest) pos) (Ab ta tb):=⟨EK d.h e.h⟩
def orV{rest:List Expr}(d:QE X a ta)(e:QE X (.BoolOp .Or (b::rest) pos) tb):QE X (.BoolOp .Or (a::b::rest) pos) (EI ta tb):=⟨GS d.h e.h⟩
def cK(h:QA X d t):QE X (.List d pos) (Fa t):=⟨Fc h.h⟩
def gA{d}(h:QA X e t):QE X (.Tuple e d pos) (E9 t):=⟨Fb h.h⟩
def ic:QE X (.Dict [] [] pos) wb:=⟨AK⟩
variable{tA tB':TT}{rest:List Expr}
def ifE(d:QT X c tA)(e:QE X a ta)(f:QE X b tb):QE X (.IfExp c a b pos) (tIf tA ta tb):=⟨Ac d.h e.h f.h⟩
def mO(d:QT X a tA):QT X (.UnaryOp .Not a pos) (EE tA):=⟨EH d.h⟩
def jq(d:QT X a tA):QW X (.BoolOp .And [a] pos) tA:=⟨CB d.h⟩
def pM(d:QT X a tA):QW X (.BoolOp .Or [a] pos) tA:=⟨EF d.h⟩
def mP(d:QT X a tA)(e:QW X (.BoolOp .And (b::rest) pos) tB'):QW X (.BoolOp .And (a::b::rest) pos) (CA tA tB'):=⟨EG d.h e.h⟩
def orW(d:QT X a tA)(e:QW X (.BoolOp .Or (b::rest) pos) tB'):QW X (.BoolOp .Or (a::b::rest) pos) (tOr tA tB'):=⟨GR d.h e.h⟩
def wT(h:QW X a tA):QT X a tA:=⟨PW.pt h.h⟩
def iC(h:X.K=K)(f:∀d,isTrue a X.env d=(do let v<-d;standAt a.pos;holding [v] (truthy v)))(g:QE X a ta):QT X a (λi H Q=>ta i H λx e=>∃k,yA K x e k/\Q k e):=⟨yW h g.h f⟩
def lh:QTs X [] wc:=⟨De⟩
def fj(h:QT X c tA):QTs X [c] tA:=⟨Df h.h⟩
end
def di(S:ax X c e f)(l:X.calm=true)(m:nK cf=false)(hi:QI X j cf n)
 (o:∀a b d,QG (bM X c e a b d) j g) (p:∀a b d,QTs (bM X c e a b d) h q) (r:∀a b d,QE (bM X c e a b d) i s):
 QE X (.ListComp i [%[j,cf,h|0]] c pos) (qv n e.length f g q s):=⟨Dh S l hi.h (λa b d=>(o a b d).h) (λa b d=>(p a b d).h) (λa b d=>(r a b d).h) (lg m)⟩
def aZ:QSs X [] Ad:=⟨CC⟩
def ah{st:Stmt}{rest:List Stmt}(a:QS X st t)(b:QSs X rest u):QSs X (st::rest) (a9 t u):=⟨Ae a.h b.h⟩
def ar{st:Stmt}(a:QS X st t):QSs X [st] t:=⟨CD a.h⟩
def ifS(d:QT X c e)(f:QSs X a t)(g:QSs X b u):QS X (.If c a b pos) (mL e t u):=⟨GT d.h f.h g.h⟩
def aJ(a:QE X e b):QS X (.Return (some e) pos) (iB b):=⟨EM a.h⟩
def gB{st:Stmt}:QS X st Af:=⟨Ag⟩
def cL(c:PassesOwn (model X.prog X.w) X.A X.env X.xe)(d:X.calm=true)(e:nK cf=false)(hi:QI X b cf f)(h:QG X b g)(i:QSs X a j):
 QS X (.For b cf a [] pos) (Ap f g j):=⟨ER c d hi.h h.h i.h (lg e)⟩
def pN(i:Nat)(b:X.N.Nodup)(hi:X.N[i]?∣x)(c:Loc X.env.scope x)(d:X.fn x=true\/X.env.scope.names.lookup x∣.local)(f:gj e=false)(g:QE X e h):
 QS X (.Assign [.Name x a] e pos) (rF h (jm i)):=⟨Ak b hi c g.h (jR f) d⟩
def bS(a:gj e=false)(b:QE X e c):QS X (.Expr e pos) (iE c):=⟨CF b.h (jR a)⟩
def AX(c:gj e=false)(hw:AW e=false)(a:bg b=false)(d:QE X e f)(h:QG X b g):QS X (.Assign [b] e pos) (rF f g):=
 ⟨EQ d.h h.h (jR c) (wk hw) (by rw[dB a];rfl)⟩
def qA(i:Nat)(a:X.N.Nodup)(hi:X.N[i]?∣x)(b:Loc X.env.scope x)(c:X.fn x=true\/X.env.scope.names.lookup x∣.local):QG X (.Name x pos) (jm i):=⟨CG a hi b c⟩
def cq:QGs X [] EN:=⟨CH⟩
def gsE(a:bg e=false)(b:QG X e t)(c:QGs X d u):QGs X (e::d) (Ah t u):=⟨Ai b.h c.h (by rw[dB a];rfl)⟩
def dU(c:X.K=K)(d:X.calm=true)(b:a.any bg=false)(h:QGs X a t):QG X (.Tuple a k pos) (Aj K a.length t):=by
 subst c;exact⟨EO d h.h (jB b).1 (jB b).2⟩
def uh:OpQ X (binaryOp .Sub) (rI0 λi j=> .int (i-j)):=⟨EV⟩
def FG:OpQ X (binaryOp .Mult) AQ:=⟨Dj⟩
def bD:OpQ X (binaryOp .Mod) (rI (λ_ j=>0<j) λi j=> .int (i%j)):=⟨EW⟩
def cF:OpQ X (binaryOp .FloorDiv) (rI GX λi j=> .int (i/j)):=⟨CI⟩
def cb:OpQ X (compareOp .Eq) Fw:=⟨Fx⟩
def dv:OpQ X (compareOp .NotEq) Fy:=⟨Fz⟩
def wq:OpQ X (compareOp .Lt) (rI0 λi j=> .bl (decide (i<j))):=⟨G0⟩
def yX:OpQ X (compareOp .LtE) (rI0 λi j=> .bl (decide (i<=j))):=⟨G1⟩
def rZ:OpQ X (compareOp .Gt) (rI0 λi j=> .bl (decide (j<i))):=⟨G3⟩
def Hb:OpQ X (compareOp .Is) (λx y H Q=>y= .non/\Q (.bl (decide (x= .non))) H):=⟨EZ⟩
def sd:OpQ X (compareOp .IsNot) (λx y H Q=>y= .non/\Q (.bl (!decide (x= .non))) H):=⟨CJ⟩
def AY(h:X.K=K):OpQ X (compareOp .In) (Dk K):=⟨FE h⟩
nonrec abbrev xw:R2:=λx y H Q=>∃i j,x= .str i/\y= .str j/\Q (.bl (!(!(Builtin.Str.occurrences j i 0 j.length 1).isEmpty))) H
nonrec abbrev xx(K:ZA):R2:=λx y H Q=>xw x y H Q\/rIn K true x y H Q
def xy(h:X.K=K):OpQ X (compareOp .NotIn) (xx K):=by subst h;exact⟨rQ.or rP⟩
def bX(h:X.K=K):cA X (.builtin "len") (λxs H Q=>∃x n,xs=[x]/\CO K x H n/\Q (.int n) H):=⟨yS h⟩
def AZ(h:X.K=K)(a:X.calm=true):cA X (.builtin "all") (λxs H Q=>∃(p:Addr) (bs:List Bool),xs=[.ref p]/\Jb K H p (bs.map V.bl)/\Q (.bl (bs.all id)) H):=⟨yT h a⟩
def Eg(a:X.calm=true):cA X (.builtin "max") (λxs H Q=>∃i j,xs=[.int i,.int j]/\Q (.int (if j>i then j else i)) H):=⟨yB a⟩
def Hc(a:X.calm=true):cA X (.builtin "min") (λxs H Q=>∃i j,xs=[.int i,.int j]/\Q (.int (if j<i then j else i)) H):=⟨yC a⟩
def jT(h:X.K=K):cA X (.builtin "isinstance") (λxs H Q=>∃x n t b,xs=[x,.ty n]/\jz K H x t/\kitOne K t (.type n)∣b/\Q (.bl b) H):=⟨yV h⟩
def Eh:cA X (.type "int") (λxs H Q=>(∃i,xs=[.int i]/\Q (.int i) H)\/∃k,xs=[.bl k]/\Q (.int (if k then 1 else 0)) H):=⟨yD⟩
def lj(h:X.K=K):cA X (.type "list") (λxs H Q=>∃p ys,xs=[.ref p]/\(Jb K H p ys\/SqT K H p ys)/\∀l,H l=none->Q (.ref l) (Ja H l (.lst ys))):=⟨wg h⟩
def bi:MtQ X "list.append" rS:=⟨qq⟩
def nN:MtQ X "list.extend" rT:=⟨yL⟩
def si(h:X.K=K):MtQ X "str.join" (xv K):=⟨AR h⟩
end
open PySem PySem.Spec PyProof.Rows PySem.SeqAt
abbrev wu:V->List V->Hp->VK->Prop:=λx vs H Q=>∃z y,x= .str z/\vs=[.str y]/\1<= ~~~y/\ ~~~z+2<=sizeLine/\∀l,H l=none->Q (.ref l) (Ja H l (.lst ((Txt.split z y)\3)))
def qB:∀ss k,aF (ss\3) (strsFrom k ss)
 |[],_=> .nil
 | _::r,k=> .cons %[_|rfl] (qB r _)
def A2{X:Cx}:MtM X "str.split" wu:=by
 intro fx s m H x vs v us Q I g i h;let%[z,y,rfl,rfl,n,o|q]:=h;let%[t|rfl]:=g;let%[p,rfl|j]:=i.one;let%[u|rfl]:=j;let b:(~~~y==0)=false:=by simp;lia
 let l:=split_le z y;by_cases c:(decide (~~~z< ~~~y)||decide (Builtin.Str.strKind z<Builtin.Str.strKind y))=true
 .let e:Txt.split z y=[z]:=if_pos c;rw[e]at q;exact call_meets F.slot_str_split (typeIs_str _ _ _) F.entry_str_split (F.args_str_split_2 _ _) (meets_str_split_cannot_occur z y t u c) %[.ref _,_,I.lnew (ys:=[.str z]) (.cons %[_|rfl] .nil) (by change 1<=sizeLine;decide),rfl|q _ I.fresh]
 .let d:=Bool.eq_false_iff.mpr c;by_cases f:(Builtin.Str.occurrences z y 0 z.length (~~~z+1)).isEmpty=true
  .let e:Txt.split z y=[z]:=(if_neg c).trans (if_pos f);rw[e]at q;exact call_meets F.slot_str_split (typeIs_str _ _ _) F.entry_str_split (F.args_str_split_2 _ _) (meets_str_split_not_found z y t u d b f) %[.ref _,_,I.lnew (ys:=[.str z]) (.cons %[_|rfl] .nil) (by change 1<=sizeLine;decide),rfl|q _ I.fresh]
  .let e:Txt.split z y=Builtin.Str.partsBetween z _ y.length:=(if_neg c).trans (if_neg f);let a: ~~~(Builtin.Str.partsBetween z (Builtin.Str.occurrences z y 0 z.length (z.length+1)) y.length)<=sizeLine:=by rw[<-e];lia
   show call_meets F.slot_str_split (typeIs_str _ _ _) F.entry_str_split (F.args_str_split_2 _ _) (meets_str_split_sep z y t u d b (Bool.eq_false_iff.mpr f) ⋯ a) ?_;rw[<-e]at a ⊢;exact%[.ref _,_,I.lnew (qB _ _) (by rw[Z6];exact a),ρ|q _ I.fresh]
def Do{X:Cx}:MtQ X "str.split" wu:=⟨A2⟩
abbrev Ite(K:ZA)(a:Addr)(xs:List V):It:=⟨λi H=>Jb K H a xs/\i< ~~~xs,λi H v b=>∃x T,xs[i]?∣x/\H T=none/\v= .ref T/\b=Ja H T (.tup [.int i,x]),λi H=>Jb K H a xs/\ ~~~xs<=i⟩
abbrev ESt(e it a:Addr)(i:Nat)(h:Heap):Prop:=(∃b,IsEnum h e it i b)/\h.IsListIter it a i
def yY{P:Program}{K:ZA}(e it a:Addr)(xs:List V)(hne:e≠it):ny P w K (.Tuple elts kt tp) (Ite K a xs) [e,it] e (ESt e it a) where
 mem:=by simp
 obj:=λi h st b hb=>by
  let%[%[old|he],o1,e1,_|d1]:=st;simp only[Ys,X1,or_false]at hb;rcases hb with rfl|rfl
  .exact%[_,he|λv q=>nomatch q]
  .exact%[o1,e1|λv q=>by rw[d1]at q;cases q]
 keep:=λi h h' st k=>by
  let%[%[old|he],o1,e1|r1]:=st;exact%[%[old|k e ∅ _ he],o1,k it ∅ _ e1|r1]
 item:=by
  intro X hP hw hK hc i fx s σ H E I hf st hg;subst hP hw hK;let%[%[old|he]|hit]:=st;obtain⟨hq,hi⟩:Jb X.K H a xs/\i< ~~~xs:=hg;let%[its,rv,p|hz]:=I.list hq;let%[u,hu|ru]:=rv.get (i:=i) (x:=xs[i]) ∅;show wpAny_pyNext_enum_item he hit p.isList ↑hu hne λh1 he1 hit1 ht1 hz1 hk1=>%[_,rfl|wpAny_letOwnedTupleGo_enum he1 λh2 he2 sb2=>?_]
  replace sb2:SameBut e h1 h2:=sb2;let elt:=Zu he;let kk:∀b o,b∉[e,it]->s.heap.get? b∣o->h2.get? b∣o:=λb o hb q=>by
   simp only[Ys,X1,or_false,not_or]at hb;exact(sb2.2 b hb.1).trans (hk1 b o hb.1 hb.2 q)
  let J:Jc X fx σ H {s with heap:=h2,toks:=s.toks+1}:=I.moved hf kk;let I2:Jc X fx σ (Ja H ⇑s (.tup [.int i,xs[i]])) _:=
   I.stood J (Zi _) %[by change 2<=sizeLine;decide,[.int i s.toks,u],.cons %[_|rfl] (.cons ru .nil),_,((sb2.2 _ (Yv elt)).trans ht1),rfl,_|rfl]
  show%[.ref ⇑s,_,I2,ρ,%[xs[i],_,by simp,I.fresh,ρ|ρ],%[%[u|he2]|?_]|λb hb=>?_]
  .let%[o,q|r]:=hit1;exact%[o,(sb2.2 _ (Ne.symm hne)).trans q|r]
  .let:b<⇑s:=by
    simp only[Ys,X1,or_false]at hb;rcases hb with rfl|rfl
    .exact elt
    .exact(by let%[o,q|_]:=hit;exact Zu q)
   rw[am (Zs this)];exact(hf b hb).1
 done:=by
  intro X hP hw hK hc i fx s σ H E I hf st hg;subst hP hw hK;let%[%[old|he]|hit]:=st;obtain⟨hq,hi⟩:Jb X.K H a xs/\ ~~~xs<=i:=hg;let%[its,rv,p|hz]:=I.list hq;let hl:= ~~~rv;show wpAny_pyNext_enum_end (I.ok.hd hc) he hit p.isList (by simp;lia) λh1 xb=>%[rfl|I.moved hf λb o hb q=>?_]
  simp only[Ys,X1,or_false,not_or]at hb;exact xb b o hb.2 q
 self:=λA i s Q E st h=>by
  let%[%[old|he]|hit]:=st;exact wpAny_pyIter_enum he h
abbrev Ei(K:ZA)(c:TA):TI:=λd H R=>c d H λvs b=>∃a xs,vs=[.ref a]/\Jb K b a xs/\R (Ite K a xs) b
section
variable{X:Cx}{K:ZA}{pos:Pos}
def uk(m:X.K=K)(n:Gl X "enumerate")(o:X.mg "enumerate"=none)(r:bg a=false)(t:QA X [a] v):
 QI X (.Tuple g J L) (.Call (.Name "enumerate" p) [a] [] pos) (Ei K v):=by
 subst m
 constructor
 intro fx s w H R I h;show Call_ (jy I n o boot_enumerate (PyProof.Rows.callWith_type1 (thP (t.h pos fx s w H _ I h) λus d vs y c z A=>?_) (aD r) rfl));let%[l,xs,e,B|q]:=A;subst e;let%[u,rfl|C]:=dh z;cases C;let%[its,M,p|N]:=c.list B;show call_enumerate_list p.isList λO i f E G=>wpAny_pyIter_enum i %[⇑d+1,[⇑d+1,⇑d],ESt _ ⇑d l,Ite X.K l xs,y,rfl,(c.kept G),yY _ _ _ _ (Nat.succ_ne_self _),%[%[_|i]|f],λb j=>?_|q]
 simp only[Ys,X1,or_false]at j;rcases j with rfl|rfl
 .exact c.fpOk (Yc _) (c.hok.fresh (Yc _))
 .exact c.fpOk (Zi _) (c.hok.fresh (Zi _))
end
section
variable(h:Heap)(x y:Str)(t u:Tok)
noncomputable abbrev zs1:Heap:=h.push {cls:= .type (strIterType x),data:= .fields #[.str x t,.int 0 0]}
noncomputable abbrev zs2:Heap:=(zs1 h x t).push {cls:= .type (strIterType y),data:= .fields #[.str y u,.int 0 0]}
noncomputable abbrev zs3:Heap:=(zs2 h x y t u).push {cls:= .type "tuple",data:= .seq #[.ref h.objs.size,.ref (zs1 h x t).objs.size]}
noncomputable abbrev zs4:Heap:=(zs3 h x y t u).push {cls:= .type "tuple",data:= .seq #[.none,.none]}
noncomputable abbrev zs5:Heap:=(zs4 h x y t u).push {cls:= .type "zip",data:= .fields #[.none,.bool false,.bool false,.ref (zs2 h x y t u).objs.size,.ref (zs3 h x y t u).objs.size]}
end
def mQ(x y:Str)(t u:Tok):
 Meets (Builtin.«zip.__new__» %[[.type "zip",.str x t,.str y u]|[]]) (λ_ R s=>R (.ok (.ret (.ref (zs4 s.heap x y t u).objs.size))) (s>>>zs5 s.heap x y t u)):=
 .of_wp λprog w A R s b=>by
  let%[c,g,d,tk|os]:=s;let a:=PySem.sub_zip
  wp_walk using wpAny_pyIter_strU (x:=x) (t:=t),wpAny_pyIter_strU (x:=y) (t:=u)
  exact%[_,ρ|b]
section
#where
def nO
 (h:∀a,IsZip a (⇑s+4) (⇑s+2) (⇑s+3) .none->IsPair a (⇑s+2) (.ref ⇑s) (.ref (⇑s+1))->IsPair a (⇑s+3) .none .none->
  a.IsStrIter ⇑s (strIterType x) x t 0->a.IsStrIter (⇑s+1) (strIterType y) y u 0->(∀c o,s.heap.get? c∣o->a.get? c∣o)->Q (.ref (⇑s+4)) (s>>>a)):
 ↥A (call (.type "zip") [.str x t,.str y u]) Q E s:=by
 show callType_new F.called_zip (!1) (F.typeCall_zip_2 _ _) (F.newCall_zip_2 _ _) (λobj=>F.args_object_init_3 obj _ _) F.entry_zip_new (mQ x y t u) ?_;let n1:(zs1 s.heap x t).objs.size=⇑s+1:=Zq ..;let b:(zs2 s.heap x y t u).objs.size=⇑s+2:=by rw[Zq,n1]
 let d:(zs3 s.heap x y t u).objs.size=⇑s+3:=by rw[Zq,b]
 let f:(zs4 s.heap x y t u).objs.size=⇑s+4:=by rw[Zq,d]
 let g:∀c o,(zs4 s.heap x y t u).get? c∣o->(zs5 s.heap x y t u).get? c∣o:=λ_ _ q=>Z7 _ q
 let i:∀c o,(zs3 s.heap x y t u).get? c∣o->(zs5 s.heap x y t u).get? c∣o:=λc o q=>g c o (Z7 _ q)
 let j:∀c o,(zs2 s.heap x y t u).get? c∣o->(zs5 s.heap x y t u).get? c∣o:=λc o q=>i c o (Z7 _ q)
 let k2:∀c o,(zs1 s.heap x t).get? c∣o->(zs5 s.heap x y t u).get? c∣o:=λc o q=>j c o (Z7 _ q)
 let k1:∀c o,s.heap.get? c∣o->(zs5 s.heap x y t u).get? c∣o:=λc o q=>k2 c o (Z7 _ q)
 let e:(zs5 s.heap x y t u).get? (zs4 s.heap x y t u).objs.size∣_:=Zj _ rfl;let l:(zs5 s.heap x y t u).get? (zs3 s.heap x y t u).objs.size∣_:=g _ _ (Zj _ rfl);let m:(zs5 s.heap x y t u).get? (zs2 s.heap x y t u).objs.size∣_:=i _ _ (Zj _ rfl);let n:=j _ _ (Zj _ rfl);change _/\_;rw[b,d,f]at e;rw[n1,b]at m;rw[d]at l;rw[n1]at n;rw[f];exact%[%[_,e|ρ]|h _ e m l %[_,(k2 _ _ (Zj _ rfl)),ρ|ρ] %[_,n,ρ|ρ] k1]
end
abbrev Ej(a:TA):TI:=λb H R=>a b H λvs c=>∃x y,vs=[.str x,.str y]/\R (Itz x y) c
section
variable{X:Cx}{K:ZA}{pos:Pos}
def Ek(w:Gl X "zip")(z:X.mg "zip"=none)(A:bg a=false)(g:bg b=false)(B:QA X [a,b] C):
 QI X (.Tuple o N O) (.Call (.Name "zip" p) [a,b] [] pos) (Ej C):=by
 constructor
 intro fx s E H R I h;show Call_ (jy I w z boot_zip (PyProof.Rows.callWith_type1 (thP (B.h pos fx s E H _ I h) λus d vs G l J L=>?_) (aD A) (by rw[aD g];rfl)));let%[x,y,e|q]:=L;subst e;let%[Q,T,rfl,%[t|rfl],u|rfl]:=jn J;show nO λU r m n hi1 hi2 M=>wpAny_pyIter_zip r ?_
 let c:∀i j,i≠j->⇑d+i≠⇑d+j:=λi j h e=>h (Nat.add_left_cancel e)
 show%[⇑d+4,[⇑d+4,⇑d+2,⇑d+3,⇑d+0,⇑d+1],_,Itz x y,G,ρ,(l.kept M),
  AV _ _ _ _ _ x y t u %[c 2 4 (!1),c 3 4 (!1),c 0 4 (!1),c 1 4 (!1),c 2 3 (!1),c 2 0 (!1),c 2 1 (!1),c 3 0 (!1),c 3 1 (!1)|c 0 1 (!1)],
  %[r,m,%[_,_|n],hi1|hi2],λb v=>?_|q]
 let f:⇑d<=b:=by
  simp only[Ys,X1,or_false]at v;rcases v with rfl|rfl|rfl|rfl|rfl<;> exact le_add_right _ _
 exact l.fpOk f (l.hok.fresh f)
end
inductive D where
 | non|bl (b:Bool)|int (i:Int)|str (x:Str)|lst (ds:List D)|tup (ds:List D)
mutual
abbrev D.beq:D->D->Bool
 | .non,.non=>true
 | .bl a,.bl b=>a==b
 | .bl a,.int b=>(if a then 1 else 0)==b
 | .int a,.bl b=>a==(if b then 1 else 0)
 | .int a,.int b=>a==b
 | .str a,.str b=>a==b
 | .lst as,.lst bs=>D.beqs as bs
 | .tup as,.tup bs=>D.beqs as bs
 | _,_=>false
abbrev D.beqs:List D->List D->Bool
 |[],[]=>true
 | a::as,b::bs=>D.beq a b&&D.beqs as bs
 | _,_=>false
end
mutual
abbrev D.dep:D->Nat
 | .lst as=>D.deps as+1
 | .tup as=>D.deps as+1
 | _=>0
abbrev D.deps:List D->Nat
 |[]=>0
 | a::as=>max (D.dep a) (D.deps as)
end
mutual
abbrev Has(K:ZA)(H:Hp):D->V->Prop
 | .non,x=>x= .non
 | .bl b,x=>x= .bl b
 | .int i,x=>x= .int i
 | .str z,x=>x= .str z
 | .lst ds,x=>∃a xs,x= .ref a/\Jb K H a xs/\cW K H ds xs
 | .tup ds,x=>∃a xs,x= .ref a/\SqT K H a xs/\cW K H ds xs
abbrev cW(K:ZA)(H:Hp):List D->List V->Prop
 |[],xs=>xs=[]
 | d::ds,xs=>∃y ys,xs=y::ys/\Has K H d y/\cW K H ds ys
end
section
variable{K:ZA}{H H':Hp}
def cW.len:∀{ds:List D} {xs:List V},cW K H ds xs-> ~~~ds= ~~~xs
 |[],_,h=>by simp only[cW]at h;subst h;rfl
 | d::ds,_,h=>by
   let%[y,ys,rfl,_|a]:=h;rw[Zr,Zr,cW.len a]
def cW.get:∀{ds:List D} {xs:List V} {i:Nat} {x:V},cW K H ds xs->xs[i]?∣x->∃d,ds[i]?∣d/\Has K H d x
 |[],_,i,x,h,e=>by simp only[cW]at h;simp_all
 | d::ds,_,i,x,h,e=>by
   let%[y,ys,rfl,a|b]:=h;cases i with
   | zero=>simp at e;subst e;exact%[d,by simp|a]
   | succ i=>
     let%[c,f|g]:=cW.get b (e);exact%[c,f|g]
def af.seqT(e:af H H')(h:SqT K H a xs):SqT K H' a xs:=by
 rcases h with(h|⟨o,h⟩)|h
 .exact .inl (.inl (e _ _ h))
 .exact .inl (.inr %[o|e _ _ h])
 .exact .inr h
def D.beqs_all:∀(as bs:List D),~~~as= ~~~bs->(List.range as.length).all (λj=>D.beq (as.getD j .non) (bs.getD j .non))=D.beqs as bs
 |[],[],_=>by simp[D.beqs]
 | a::as,b::bs,h=>by
   let c:=D.beqs_all as bs ↑h;rw[Zr,List.range_succ_eq_map,all_cons,all_map];simp only[D.beqs];rw[<-c];rfl
def D.beqs_len:∀{as bs:List D},~~~as≠ ~~~bs->D.beqs as bs=false
 |[],[],h=>absurd rfl h
 |[],_::_,_=>by simp[D.beqs]
 | _::_,[],_=>by simp[D.beqs]
 | a::as,b::bs,h=>by
   simp only[D.beqs];rw[D.beqs_len (as:=as) (bs:=bs) ↑h,Bool.and_false]
end
section
#version
def Jc.seq_apart(I:Jc X fx σ H s)(h:Jb X.K H a xs)(c:SqT X.K H b ys):a≠b:=by
 let%[its,r,p|_]:=I.list h;let%[its',e,d|_]:=I.tuple c;exact ne_of_list_tuple p.isList d
mutual
def Has.inj(I:Jc X fx σ H s):∀{d e:D} {x:V},Has X.K H d x->Has X.K H e x->D.beq d e=true
 | .non,e,x,h,c=>by
   simp only[Has]at h;subst h;cases e<;> simp only[Has]at c<;> first|rfl|(have%[_,_,q|_]:=c;cases q)|cases c
   all_goals simp[D.beq]
 | .bl b,e,x,h,c=>by
   simp only[Has]at h;subst h;cases e<;> simp only[Has]at c<;> first|(have%[_,_,q|_]:=c;cases q)|cases c
   all_goals simp[D.beq]
 | .int i,e,x,h,c=>by
   simp only[Has]at h;subst h;cases e<;> simp only[Has]at c<;> first|(have%[_,_,q|_]:=c;cases q)|cases c
   all_goals simp[D.beq]
 | .str z,e,x,h,c=>by
   simp only[Has]at h;subst h;cases e<;> simp only[Has]at c<;> first|(have%[_,_,q|_]:=c;cases q)|cases c
   all_goals simp[D.beq]
 | .lst ds,e,x,h,c=>by
   simp only[Has]at h;let%[a,xs,rfl,q|r]:=h;cases e with
   | lst j=>
     simp only[Has]at c;let%[b,ys,e,f|g]:=c;cases e;let e:=I.list_inj q f;subst e;simp only[D.beq];exact cW.inj I r g
   | tup j=>
     simp only[Has]at c;let%[b,ys,e,f|g]:=c;cases e;exact absurd rfl (I.seq_apart q f)
   | _=>simp only[Has]at c;cases c
 | .tup ds,e,x,h,c=>by
   simp only[Has]at h;let%[a,xs,rfl,q|r]:=h;cases e with
   | tup j=>
     simp only[Has]at c;let%[b,ys,e,f|g]:=c;cases e;let e:=I.tuple_inj q f;subst e;simp only[D.beq];exact cW.inj I r g
   | lst j=>
     simp only[Has]at c;let%[b,ys,e,f|g]:=c;cases e;exact absurd rfl (I.seq_apart f q)
   | _=>simp only[Has]at c;cases c
def cW.inj(I:Jc X fx σ H s):∀{ds a:List D} {xs:List V},cW X.K H ds xs->cW X.K H a xs->D.beqs ds a=true
 |[],a,xs,h,b=>by
  simp only[cW]at h;subst h;cases a with
  | nil=>simp[D.beqs]
  | cons e a=>simp only[cW]at b;let%[_,_,q|_]:=b;cases q
 | d::ds,a,xs,h,b=>by
   simp only[cW]at h;let%[y,ys,rfl,g|i]:=h;cases a with
   | nil=>simp only[cW]at b;cases b
   | cons e a=>
     simp only[cW]at b;let%[l,j,q,c|f]:=b;cases q;simp only[D.beqs];rw[Has.inj I g c,cW.inj I i f];rfl
end
def nP(t:cW X.K H ds xs)(w:cW X.K H c ys)(f:aF xs us)(g:aF ys vs)
 (z:∀(j:Nat) d e x y u v,ds[j]?∣d->c[j]?∣e->Has X.K H d x->Has X.K H e y->aN x u->aN y v->EqAt A s u v (D.beq d e)) (j:Nat) (B:j<us.toArray.size) (C:j<vs.toArray.size):
 EqAt A s us.toArray[j] vs.toArray[j] (D.beq (ds.getD j .non) (c.getD j .non)):=by
 let h:j< ~~~us:=↑B
 let l:j< ~~~vs:=↑C
 let m:j< ~~~xs:=by rw[~~~f];exact h
 let n:j< ~~~ys:=by rw[~~~g];exact l
 let%[d,o|a]:=t.get (i:=j) (x:=xs[j]) (by simp[m]);let%[e,p|b]:=w.get (i:=j) (x:=ys[j]) (by simp[n]);let%[u,q|E]:=f.get (i:=j) (x:=xs[j]) (by simp[m]);let%[v,r|G]:=g.get (i:=j) (x:=ys[j]) (by simp[n]);let I:us.toArray[j]=u:=by
  let:us[j]?∣us[j]:=by simp[h]
  rw[this]at q;simpa using Za q
 let J:vs.toArray[j]=v:=by
  let:vs[j]?∣vs[j]:=by simp[l]
  rw[this]at r;simpa using Za r
 rw[I,J,Zc,Zc,o,p];exact z j d e _ _ u v o p a b E G
def A3(I:Jc X fx σ H s)(q:Jb X.K H a xs)(g:cW X.K H ds xs)(r:Jb X.K H b ys)(h:cW X.K H c ys)(i:A.units<cLine)
 (t:∀(j:Nat) d e x y u v,ds[j]?∣d->c[j]?∣e->Has X.K H d x->Has X.K H e y->aN x u->aN y v->EqAt A.in1 s u v (D.beq d e)):RcAt A s (.ref a) (.ref b) (D.beqs ds c):=by
 let%[us,l,m|_]:=I.list q;let%[vs,n,o|_]:=I.list r;let n1:us.toArray.size= ~~~ds:=by rw[Zp,<-l.length,g.len]
 let p:vs.toArray.size= ~~~c:=by rw[Zp,<-n.length,h.len]
 by_cases f: ~~~ds= ~~~c
 .rw[<-D.beqs_all ds c f,<-n1];exact RcAt.lists m.isList o.isList (by rw[n1,p,f]) i (nP g h l n t)
 .rw[D.beqs_len f];exact RcAt.lists_lengths m.isList o.isList (by rw[n1,p];simpa using f) i
def Dp(I:Jc X fx σ H s)(o:SqT X.K H a xs)(h:cW X.K H ds xs)(p:SqT X.K H b ys)(i:cW X.K H f ys)(q:A.units<cLine)
 (r:∀(j:Nat) d e x y u v,ds[j]?∣d->f[j]?∣e->Has X.K H d x->Has X.K H e y->aN x u->aN y v->EqAt A.in1 s u v (D.beq d e)):RcAt A s (.ref a) (.ref b) (D.beqs ds f):=by
 let%[us,m,t|_]:=I.tuple o;let%[vs,n,w|_]:=I.tuple p;let n1:us.toArray.size= ~~~ds:=by rw[Zp,<-m.length,h.len]
 let z:vs.toArray.size= ~~~f:=by rw[Zp,<-n.length,i.len]
 let c:=RcAt.tuples (A:=A) (s:=s) (l:=a) (b:=b) (items:=us.toArray) (items2:=vs.toArray) t w q (nP h i m n r);rw[n1,z]at c;by_cases g: ~~~ds= ~~~f
 .rw[<-g,Nat.min_self,D.beqs_all ds f g]at c;simpa using c
 .rw[D.beqs_len g];let e:(~~~ds== ~~~f)=false:=↑g
  rw[e,Bool.and_false]at c;exact c
def dJ:∀{ds:List D} {j:Nat} {d:D},ds[j]?∣d->D.dep d<=D.deps ds
 |[],_,_,h=>by simp at h
 | a::as,0,d,h=>by
   simp at h;subst h;simp only[D.deps];exact Nat.le_max_left _ _
 | a::as,j+1,d,h=>by
   let:=dJ (ds:=as) (j:=j) (d:=d) ↑h;simp only[D.deps];exact Nat.le_trans this (Nat.le_max_right _ _)
def A4(I:Jc X fx σ H s):∀(n:Nat) {d e:D} {x y:V} {u v:Value} {A:Around},D.dep d<=n->A.units+n<cLine->Has X.K H d x->Has X.K H e y->aN x u->aN y v->EqAt A s u v (D.beq d e):=by
 intro n
 induction n with
 | zero=>
   intro d e x y u v A B T h c o g;let f:A.units<cLine:=by lia
   cases d with
   | lst ds=>exact absurd B (by simp[D.dep])
   | tup ds=>exact absurd B (by simp[D.dep])
   | non=>
     simp only[Has]at h;subst h;cases o;cases e with
     | non=>simp only[Has]at c;subst c;cases g;simp only[D.beq];exact EqAt.same _
     | bl j=>simp only[Has]at c;subst c;cases g;simp only[D.beq];exact EqAt.none_bool _
     | int j=>simp only[Has]at c;subst c;let%[_|rfl]:=g;simp only[D.beq];exact EqAt.none_int _ _
     | str j=>simp only[Has]at c;subst c;let%[_|rfl]:=g;simp only[D.beq];exact EqAt.none_str _ _
     | lst j=>simp only[Has]at c;let%[b,ys,rfl,q|_]:=c;cases g;let%[vs,_,p|_]:=I.list q;simp only[D.beq];exact EqAt.none_list p.isList f
     | tup j=>simp only[Has]at c;let%[b,ys,rfl,q|_]:=c;cases g;let%[vs,_,p|_]:=I.tuple q;simp only[D.beq];exact EqAt.none_tuple p f
   | bl i=>
     simp only[Has]at h;subst h;cases o;cases e with
     | non=>simp only[Has]at c;subst c;cases g;simp only[D.beq];exact EqAt.bool_none _
     | bl j=>simp only[Has]at c;subst c;cases g;simp only[D.beq];exact EqAt.bool_bool _ _
     | int j=>simp only[Has]at c;subst c;let%[_|rfl]:=g;simp only[D.beq];exact EqAt.bool_int _ _ _
     | str j=>simp only[Has]at c;subst c;let%[_|rfl]:=g;simp only[D.beq];exact EqAt.bool_str _ _ _
     | lst j=>simp only[Has]at c;let%[b,ys,rfl,q|_]:=c;cases g;let%[vs,_,p|_]:=I.list q;simp only[D.beq];exact EqAt.bool_list _ p.isList f
     | tup j=>simp only[Has]at c;let%[b,ys,rfl,q|_]:=c;cases g;let%[vs,_,p|_]:=I.tuple q;simp only[D.beq];exact EqAt.bool_tuple _ p f
   | int i=>
     simp only[Has]at h;subst h;let%[_|rfl]:=o;cases e with
     | non=>simp only[Has]at c;subst c;cases g;simp only[D.beq];exact EqAt.int_none _ _
     | bl j=>simp only[Has]at c;subst c;cases g;simp only[D.beq];exact EqAt.int_bool _ _ _
     | int j=>simp only[Has]at c;subst c;let%[_|rfl]:=g;simp only[D.beq];exact EqAt.int_int _ _ _ _
     | str j=>simp only[Has]at c;subst c;let%[_|rfl]:=g;simp only[D.beq];exact EqAt.int_str _ _ _ _
     | lst j=>simp only[Has]at c;let%[b,ys,rfl,q|_]:=c;cases g;let%[vs,_,p|_]:=I.list q;simp only[D.beq];exact EqAt.int_list _ _ p.isList f
     | tup j=>simp only[Has]at c;let%[b,ys,rfl,q|_]:=c;cases g;let%[vs,_,p|_]:=I.tuple q;simp only[D.beq];exact EqAt.int_tuple _ _ p f
   | str i=>
     simp only[Has]at h;subst h;let%[_|rfl]:=o;cases e with
     | non=>simp only[Has]at c;subst c;cases g;simp only[D.beq];exact EqAt.str_none _ _
     | bl j=>simp only[Has]at c;subst c;cases g;simp only[D.beq];exact EqAt.str_bool _ _ _
     | int j=>simp only[Has]at c;subst c;let%[_|rfl]:=g;simp only[D.beq];exact EqAt.str_int _ _ _ _
     | str j=>simp only[Has]at c;subst c;let%[_|rfl]:=g;simp only[D.beq];exact EqAt.str_str _ _ _ _
     | lst j=>simp only[Has]at c;let%[b,ys,rfl,q|_]:=c;cases g;let%[vs,_,p|_]:=I.list q;simp only[D.beq];exact EqAt.str_list _ _ p.isList f
     | tup j=>simp only[Has]at c;let%[b,ys,rfl,q|_]:=c;cases g;let%[vs,_,p|_]:=I.tuple q;simp only[D.beq];exact EqAt.str_tuple _ _ p f
 | succ n E=>
   intro d e x y u v A B T h c o g;by_cases Q:D.dep d<=n
   .exact E Q ⋯ h c o g
   let f:A.units<cLine:=by lia
   cases d with
   | lst ds=>
     simp only[Has]at h;let%[a,xs,rfl,q|r]:=h;cases o;let G:D.deps ds<=n:=by simp only[D.dep]at B;lia
     cases e with
     | lst J=>
       simp only[Has]at c;let%[b,ys,rfl,m|C]:=c;cases g;simp only[D.beq];by_cases l:a=b
       .subst l;let e:=I.list_inj q m;subst e;rw[cW.inj I r C];exact EqAt.same _
       .exact EqAt.of_refs l (A3 I q r m C f λj d e x y u v t L w z M N=>E (Nat.le_trans (dJ t) G) (by change A.units+1+n<cLine;lia) w z M N)
     | tup J=>
       simp only[Has]at c;let%[b,ys,rfl,m|_]:=c;cases g;let%[us,_,p|_]:=I.list q;let%[vs,_,O|_]:=I.tuple m;simp only[D.beq];exact EqAt.list_tuple p.isList O f
     | non=>simp only[Has]at c;subst c;cases g;let%[us,_,p|_]:=I.list q;simp only[D.beq];exact EqAt.list_none p.isList f
     | bl k=>simp only[Has]at c;subst c;cases g;let%[us,_,p|_]:=I.list q;simp only[D.beq];exact EqAt.list_bool _ p.isList f
     | int k=>simp only[Has]at c;subst c;let%[t'|rfl]:=g;let%[us,_,p|_]:=I.list q;simp only[D.beq];exact EqAt.list_int _ _ p.isList f
     | str k=>simp only[Has]at c;subst c;let%[t'|rfl]:=g;let%[us,_,p|_]:=I.list q;simp only[D.beq];exact EqAt.list_str _ _ p.isList f
   | tup ds=>
     simp only[Has]at h;let%[a,xs,rfl,q|r]:=h;cases o;let G:D.deps ds<=n:=by simp only[D.dep]at B;lia
     cases e with
     | tup J=>
       simp only[Has]at c;let%[b,ys,rfl,m|C]:=c;cases g;simp only[D.beq];by_cases l:a=b
       .subst l;let e:=I.tuple_inj q m;subst e;rw[cW.inj I r C];exact EqAt.same _
       .exact EqAt.of_refs l (Dp I q r m C f λj d e x y u v t L w z M N=>E (Nat.le_trans (dJ t) G) (by change A.units+1+n<cLine;lia) w z M N)
     | lst J=>
       simp only[Has]at c;let%[b,ys,rfl,m|_]:=c;cases g;let%[us,_,p|_]:=I.tuple q;let%[vs,_,O|_]:=I.list m;simp only[D.beq];exact EqAt.tuple_list p O.isList f
     | non=>simp only[Has]at c;subst c;cases g;let%[us,_,p|_]:=I.tuple q;simp only[D.beq];exact EqAt.tuple_none p f
     | bl k=>simp only[Has]at c;subst c;cases g;let%[us,_,p|_]:=I.tuple q;simp only[D.beq];exact EqAt.tuple_bool _ p f
     | int k=>simp only[Has]at c;subst c;let%[t'|rfl]:=g;let%[us,_,p|_]:=I.tuple q;simp only[D.beq];exact EqAt.tuple_int _ _ p f
     | str k=>simp only[Has]at c;subst c;let%[t'|rfl]:=g;let%[us,_,p|_]:=I.tuple q;simp only[D.beq];exact EqAt.tuple_str _ _ p f
   | _=>exact absurd (Xa n) Q
end
open PySem PySem.Spec PyProof.Rows PySem.SeqAt
def wv{X:Cx}(G:X.N.Nodup)(t:X.N[i]?∣x)(J:Loc X.env.scope x)(L:X.fn x=true\/X.env.scope.names.lookup x∣.local)
 (u:swapsWith (.ListComp l [%[w,cf,p|0]] a pos) (some (.Name x A)) f.line X.env=pure true) (S:ax X a r y) (M:X.calm=true) (N:∀x,foldedSetIterable cf X.env x=pure x) (hi:PI X w cf O)
 (Q:∀c d j,PG (bM X a r c d j) w g) (T:∀c d j,PTs (bM X a r c d j) p U) (Y:∀c d j,PE (bM X a r c d j) l te):
 PS X (.Assign [.Name x A] (.ListComp l [%[w,cf,p|0]] a pos) f) (rF (qv O r.length y g U te) (jm i)):=by
 intro fx s σ H D I h;show Z2 (wpAny_standAt ?_);change wpAny _ _ (swapsWith (.ListComp l _ a pos) (some (.Name x A)) f.line X.env>>= _) _ _ _;rw[u];show Z2 (Z3 (Z2 (Z2 (qw S M hi Q T Y N I h λD' C H5 s6 fl m hn j k q=>?_))));let%[o,es,ep,B,hd|hr]:=id hn;let I7:=(k s6.heap (SameBut.refl _ _)).pinned (λb n=>(Xj n)▸j) λb n=>by
  rw[Xj n];exact%[o,B|λv z=>by lia]
 show wpAny_assign_Name (nu I7 G t J (v:= .ref D') rfl (λs8 E=>%[m,%[o,es,ep,((E.pin _ (Yq _ (Yq _ (eI (mem_singleton.mpr rfl) B)))).1),hd|hr]|λh' sb=>Z3 (Z3 %[_,H5,(E.unpinned).moved (λb n=>(Xj n)▸j) λb o' n e=>(sb.2 b (λz=>n (mem_singleton.mpr z))).trans e|q])]) L)
def yZ(h:(env.blockKind== .function&&env.kindOf x==some .local&&b.line==pos.line&&!(a.names.any λ(n,k)=>n==x&&(k== .local||k== .cell)))=true):
 swapsWith (.ListComp c gens a pos) (some (.Name x b)) l env=pure true:=by
 change(pure (env.blockKind== .function&&env.kindOf x==some _&&b.line==pos.line&&!(a.names.any _)))=pure true;rw[h]
def dO{X:Cx}(i:Nat)(q:X.N.Nodup)(f:X.N[i]?∣x)(r:Loc X.env.scope x)(s:X.fn x=true\/X.env.scope.names.lookup x∣.local)
 (h:(X.env.blockKind== .function&&X.env.kindOf x==some .local&&t.line==pos.line&&!(c.names.any λ(n,k)=>n==x&&(k== .local||k== .cell)))=true) (S:ax X c e j) (u:X.calm=true) (v:nK cf=false) (hi:QI X o cf w)
 (y:∀a b d,QG (bM X c e a b d) o g) (z:∀a b d,QTs (bM X c e a b d) l A) (B:∀a b d,QE (bM X c e a b d) m C):
 QS X (.Assign [.Name x t] (.ListComp m [%[o,cf,l|0]] c pos) p) (rF (qv w e.length j g A C) (jm i)):=
 ⟨wv q f r s (yZ h) S u (lg v) hi.h (λa b d=>(y a b d).h) (λa b d=>(z a b d).h) (λa b d=>(B a b d).h)⟩
section
#version
def Dq(I:Jc X fx σ H s)(o:SqT X.K H a xs)(h:cW X.K H ds xs)(p:SqT X.K H b ys)(i:cW X.K H f ys)(q:A.units<cLine)
 (r:∀(j:Nat) d e x y u v,ds[j]?∣d->f[j]?∣e->Has X.K H d x->Has X.K H e y->aN x u->aN y v->EqAt A.in1 s u v (D.beq d e)):RcNeAt A s (.ref a) (.ref b) (!D.beqs ds f):=by
 let%[us,m,t|_]:=I.tuple o;let%[vs,n,w|_]:=I.tuple p;let n1:us.toArray.size= ~~~ds:=by rw[Zp,<-m.length,h.len]
 let z:vs.toArray.size= ~~~f:=by rw[Zp,<-n.length,i.len]
 let c:=RcNeAt.tuples (A:=A) (s:=s) (l:=a) (b:=b) (items:=us.toArray) (items2:=vs.toArray) t w q (nP h i m n r);rw[n1,z]at c;by_cases g: ~~~ds= ~~~f
 .rw[<-g,Nat.min_self,D.beqs_all ds f g]at c;simpa using c
 .rw[D.beqs_len g];let e:(~~~ds== ~~~f)=false:=↑g
  rw[e,Bool.and_false]at c;exact c
end
section
variable{X:Cx}{K:ZA}
nonrec abbrev FH(K:ZA):R2:=λx y H Q=>∃ds a,Has K H (.tup ds) x/\Has K H (.tup a) y/\D.deps ds<=40/\Q (.bl (!D.beqs ds a)) H
def FI(A:X.A.units+64<cLine):OpR X (compareOp .NotEq) (FH X.K):=by
 intro fx s B H x y v u Q I m n h;let%[ds,C,c,f,o|q]:=h;simp only[Has]at c f;let%[a,xs,rfl,p|c]:=c;let%[b,ys,rfl,r|f]:=f;cases m;cases n;exact Dq I p c r f ⋯ (λj d e x y u v g t i l w z=>A4 I 40 (Nat.le_trans (dJ g) o) (by change X.A.units+1+40<cLine;lia) i l w z) _ _ _ _ %[.bl _,H,I,rfl|q]
end
open PySem PySem.Spec PyProof.Rows
def bN:Slot "set_iterator" "__next__" "set_iterator.__next__":=
 .of (owner:="set_iterator") (n:="__next__") (by rw[typeLookup_type,builtinLookup_eq_fast];kernel_rfl) (!0) (!0) (!0) (by first|exact .inl (!0)|exact .inr ∅) (by kernel_rfl)
def fM:entryFor table "set_iterator.__next__"=some Builtin.«set_iterator.__next__»:=entryFor_of_tree (by kernel_rfl)
def ig(a:Value):argsOk "set_iterator.__next__" %[[a]|[]]:=by kernel_rfl
def pO:entryFor table "set.__iter__"=some Builtin.«frozenset.__iter__»:=entryFor_alias (id':="frozenset.__iter__") (by kernel_rfl) rfl (!0) (by kernel_rfl)
def pP(t:SetTable)(n:Nat):(t.orStandIn n).led=t.led:=by unfold SetTable.orStandIn;split<;> rfl
def ww(t:SetTable)(a:Array _)(h:Int)(x:Value):(layNew t a h x).2.1.led=t.led:=by
 unfold layNew;cases t.freeSlot h with
 | none=>rfl
 | some p=>
   exact pP _ _
def sj(t:SetTable)(c:Array _)(n:Nat):(relayAll t c n).2.1.led=t.led:=by
 unfold relayAll;cases a:t.relaid _ n with
 | none=>rfl
 | some p=>
   let%[t'|d]:=p;simp only
   split
   .simp only[SetTable.relaid,SetTable.laid]at a;cases b:SetTable.layClean _ _ with
    | none=>rw[b]at a;cases a
    | some f=>rw[b]at a;injection a with a;injection a with e g;rw[<-e]
   .rfl
def nQ(t:SetTable)(c:Array _)(n:Nat)(d:t.plain=false):(relayAll t c n).2.1.plain=false:=by
 unfold relayAll;cases a:t.relaid _ n with
 | none=>rfl
 | some p=>
   let%[t'|e]:=p;simp only
   split
   .simp only[SetTable.relaid,SetTable.laid]at a;cases b:SetTable.layClean _ _ with
    | none=>rw[b]at a;cases a
    | some g=>rw[b]at a;injection a with a;injection a with f h;exact f▸d
   .rfl
abbrev aQ(w:World):Bool:=w.params.followText "set-order"
abbrev bw(w:World)(a:Addr)(ks:ZB)(h:Heap):Prop:=
 ∃o b c t ss,h.get? a∣o/\o.ExactSet/\o.data= .set b c t/\StrsAre (b.toList\2) ss/\ss.Perm ks/\ks.Nodup/\(∀e∈b.toList,∃z u,e=(hashStr w z,.str z u))/\b.size<scanBound/\t.fits b.size=true/\(b.size≠0->t.plain=false)/\t.led=!aQ w
def qC(h:∀e∈l,∃z u,e=(hashStr w z,.str z u)):ElemsOf (aL prog w) l:=λe a=>by
 let%[z,u|rfl]:=h e a;exact%[%[Sum.inr z,dz z u|ρ]|ρ]
def dP:∀{vs:ZF} {ss:ZB} {z:Str},StrsAre vs ss->((∃u,Value.str z u∈vs)↔z∈ss)
 | _,_,z,.nil=>by simp
 | _,_,z,.cons x t h=>by
   let b:=dP (z:=z) h
   constructor
   .rintro⟨u,a⟩;rcases mem_cons.mp a with e|e
    .injection e with c _;exact c▸Zm
    .exact Zk _ (b.mp %[u|e])
   .intro d;rcases mem_cons.mp d with e|e
    .exact e▸%[t|Zm]
    .let%[u|a]:=b.mpr e;exact%[u|Zk _ a]
def iH:∀{vs ws:ZF} {ss ts:ZB},StrsAre vs ss->StrsAre ws ts->StrsAre (vs++ws) (ss++ts)
 | _,_,_,_,.nil,h=>h
 | _,_,_,_,.cons x t h,a=> .cons x t (iH h a)
def ck:∀{vs:ZF} {ss:ZB},StrsAre vs ss-> ~~~vs= ~~~ss
 | _,_,.nil=>rfl
 | _,_,.cons x t h=>by rw[Zr,Zr,ck h]
def bT(h:StrsAre vs ss)(p:ws.Perm vs):∃ts,StrsAre ws ts/\ts.Perm ss:=by
 show%[ws.map strOf,strsAre_map ws λv a=>h.all v (p.mem_iff.mp a)|?_];let:=p.map strOf;rwa[h.strs]at this
section
#where
variable{a:Addr}
def bw.stored{h:Heap}{o:Obj}{i b:Array (Int×Value)}{t t':SetTable}(j:h.get? a∣o)(c:o.ExactSet)(d:o.data= .set i f t)(l:StrsAre (b.toList\2) ss)(m:ss.Perm ks)(n:ks.Nodup)
 (p:∀e∈b.toList,∃z u,e=(hashStr w z,.str z u)) (r:b.size<scanBound) (v:t'.fits b.size=true) (y:t'.plain=false) (B:t'.led=!aQ w):
 (h.update a (Obj.putSet b t')).get? a=some {o with data:= .set b (f+1) t'}/\bw w a ks (h.update a (Obj.putSet b t')):=by
 let g:=by
  let q:=get?_update_self (Obj.putSet b t') j (by rw[putSet_of b t' d];rfl);rwa[putSet_of b t' d]at q
 exact%[g,_,b,f+1,t',ss,g,c,ρ,l,m,n,p,r,v,λ_=>y|B]
def uo{g:Bool->Sem Unit}(O:∀(b:Bool) (h:Shared) (r:Unit->Shared->Prop),r () h->↥A (g b) r E h){m:Bool}{R:Option Bool->Shared->Prop}(v:s.heap.get? a∣o)(i:o.ExactSet)(y:o.data= .set es ep t)
 (B:StrsAre (c.toList\2) ss) (C:ss.Perm ks) (G:ks.Nodup) (H:∀e∈c.toList,∃z u,e=(hashStr w z,.str z u)) (j:c.size<scanBound) (Q:d.fits c.size=true) (I:d.plain=false) (J:d.led=!aQ w)
 (M:∀n,SameBut a s.heap n->bw w a ks n->R (some true) (s>>>n)):
 ↥A (do
  storeSet a c d
  if(!m&&d.tooFull)=true then do
   g (relayAll d c (SetTable.grown c.size)).2.2
   storeSet a (relayAll d c (SetTable.grown c.size)).1 (relayAll d c (SetTable.grown c.size)).2.1
   pure (some true)
  else pure (some true)) R E s:=by
 let%[g1|T]:=bw.stored v i y B C G H j Q I J;let N:=SameBut.update s.heap a (Obj.putSet c d);show Z2 (wpAny_storeSet_of v y ?_ (fits_of_scanBound j))
 split
 .let p:=relayAll_perm d c (SetTable.grown c.size);let f:=relayAll_fits d c (SetTable.grown c.size);let l:=sj d c (SetTable.grown c.size);let pl:=nQ d c (SetTable.grown c.size) I
  generalize relayAll d c _=L at p f l pl ⊢
  let%[q,t3|gv]:=L;let z:q.size=c.size:=by rw[<-Zb,p.length_eq,Zb]
  let%[ts,U|Y]:=bT B (p.map _);exact Z2 (O _ _ _ (Z2 (wpAny_storeSet_of g1 rfl (Z3 (M _ (N.trans (SameBut.update _ a _)) (bw.stored g1 i rfl U (Y.trans C) G (λe he=>H e (p.mem_iff.mp he)) (by rw[z];exact j) f pl (l.trans J)).2)) (fits_of_scanBound (by rw[z];exact j)))))
 .exact Z3 (M _ N T)
def jU{ks:ZB}(hS:bw w a ks s.heap)(B: ~~~ks+1<scanBound)
 (hQ:∀c b,SameBut a s.heap c->bw w a (if z∈ks then ks else ks++[z]) c->Q b (s>>>c)):↥A (setAddHashed a (.str z tk) (hashStr w z)) Q E s:=by
 let%[o,d,ep,t,ss,H,C,I,l,hp,J,m,hb,hf,ac|f]:=hS;let hn:d.size= ~~~ks:=by
  let q:=ck l;rw[Z6,Zb,hp.length_eq]at q;exact q
 let hE:ElemsOf (aL prog w) d.toList:=qC m;let M:(aL prog w).is (Sum.inr z) (.str z tk)=true:=dz z tk;unfold setAddHashed setAddHashedIn;show wpAny_holding (Z2 (wpAny_setState_of H I hf ?_));dsimp only;rw[byScan_of (knd:=aL prog w) rfl hb hE];simp only[↓reduceIte];unfold setAddByScan;show Z2 (Z2 (wpAny_rule (Z2 (wpAny_setScan_of M H I hf hE ?_))));let N:(∃e∈d.toList,(aL prog w).is (Sum.inr z) e.2=true)↔z∈ks:=by
  rw[<-hp.mem_iff,<-dP l]
  constructor
  .rintro⟨e,n,q⟩;let%[y,u|rfl]:=m e n;let q:jk (Sum.inr z) (Value.str y u)=true:=q;rcases aY q with⟨i,t',q1,p⟩|⟨y',t',q1,p⟩
   .cases p
   .cases q1;exact%[u|Xl ⟨_,n,by injection p with e1 _;rw[e1]⟩]
  .rintro⟨u,hu⟩;let%[e,n|q]:=Xk hu;exact%[e,n|q▸dz z u]
 cases hr:List.findIdx? _ d.toList with
 | some j=>
   let%[hj,ae|_]:=List.findIdx?_eq_some_iff_getElem.mp hr;let hz:=N.mp %[d.toList[j],Ya hj|ae];let q:=hQ s.heap false (SameBut.refl a s.heap) ((if_pos hz)▸%[o,d,ep,t,ss,H,C,I,l,hp,J,m,hb,hf,ac|f]);exact Z3 (Z3 q)
 | none=>
   let hz:z∉ks:=λq=>by
    let%[e,n|p]:=N.mpr q;let:=List.findIdx?_eq_none_iff.mp hr e n;rw[p]at this;cases this
   rw[if_neg hz]at hQ;let O:=layNew_perm t d (hashStr w z) (.str z tk);let lf:=layNew_fits t d (hashStr w z) (.str z tk);let ll:=ww t d (hashStr w z) (.str z tk)
   generalize hL:layNew t d _ _=L at O lf ll
   let%[G,t1,aj|ai]:=L;rw[toList_push]at O;let g:∀b h Q',Q' () h->↥A (match b with|true=>rule "set.scan.the-table-gave-way"|false=>pure ()) Q' E h:=λb h Q' q=>by
    cases b
    .exact Z3 q
    .exact wpAny_rule q
   let r:∀e∈G.toList,∃z u,e=(hashStr w z,.str z u):=λe n=>by
    rcases Xi (O.mem_iff.mp n)with q|q
    .exact m e q
    .rw[Xj q];exact%[z,tk|ρ]
   let q1:StrsAre ((d.toList++[(hashStr w z,Value.str z tk)])\2) (ss++[z]):=by
    rw[Zd];exact iH l (.cons z tk .nil)
   let%[ts,p|q3]:=bT q1 (O.map _);let T:=q3.trans (hp.append_right _);let v:=m9 J hz;let ag:G.size=d.size+1:=by rw[<-Zb,O.length_eq,Z9,Zb];rfl
   let U:G.size<scanBound:=by rw[ag,hn];exact B
   let fin:∀c,SameBut a s.heap c->bw w a _ c->↥A _ Q E _:=λc Y S'=>Z3 (hQ c true Y S')
   show Z2 (g _ _ _ ?_);cases ab:t1.plain with
   | true=>
     exact Z2 (Z3 (uo g H C I p T v r U (SetTable.fits_plain_off lf) rfl (ll.trans f) λc Y S'=>fin c Y S'))
   | false=>
     exact uo g H C I p T v r U lf ab (ll.trans f) λc Y S'=>fin c Y S'
def uq(e:bw w a ks s.heap)(c: ~~~ks+1<scanBound)
 (f:∀d b,SameBut a s.heap d->bw w a (if z∈ks then ks else ks++[z]) d->Q b {s with heap:=d,toks:=s.toks+1}):↥A (setAdd a (.str z tk)) Q E s:=by
 exact wpAny_holding (Z2 (wpAny_pyHash_str (jU e c f)))
end
open PySem PySem.Spec PyProof.Rows
abbrev mR(ks:ZB)(z:Str):ZB:=if z∈ks then ks else ks++[z]
abbrev aP(ss:ZB):ZB:=ss.foldl mR []
def A5(ks:ZB)(z:Str): ~~~(mR ks z)<= ~~~ks+1:=by
 unfold mR;split
 .lia
 .exact Z9▸Zi _
def A6:y∈mR ks z↔y∈ks\/y=z:=by
 unfold mR;by_cases h:z∈ks
 .rw[if_pos h]
  simp_all
 .rw[if_neg h,Yo,Yu]
def wx(h:ks.Nodup):(mR ks z).Nodup:=by
 unfold mR;by_cases a:z∈ks
 .rw[if_pos a];exact h
 .rw[if_neg a];exact m9 h a
def ur:∀{ss ks:ZB} {y:Str},y∈ss.foldl mR ks↔y∈ks\/y∈ss
 |[],ks,y=>by simp
 | z::r,ks,y=>by
   rw[Y6,ur,A6,Ys]
   grind
def nR:∀{ss ks:ZB},ks.Nodup->(ss.foldl mR ks).Nodup
 |[],_,h=>h
 | z::r,ks,h=>by
   rw[Y6];exact nR (wx h)
def bx:y∈aP ss↔y∈ss:=by unfold aP;rw[ur];simp
def eL(ss:ZB):(aP ss).Nodup:=nR Yy
def ut:∀(ss ks:ZB),~~~(ss.foldl mR ks)<= ~~~ks+ ~~~ss
 |[],ks=>by simp
 | z::r,ks=>by
   let a:=ut r (mR ks z);let b:=A5 ks z;rw[Y6,Zr]
   lia
def uu{ss:ZB}{i:Nat}{z:Str}(h:ss[i]?∣z):aP (ss.take (i+1))=mR (aP (ss.take i)) z:=by
 unfold aP;rw[X6,h,List.foldl_append];rfl
def bw.keep(S:bw w a ks h)(k:∀o,h.get? a∣o->b.get? a∣o):bw w a ks b:=by
 let%[o,c,d,t,ss,e|r]:=S;exact%[o,c,d,t,ss,k o e|r]
section
variable{prog:Program}{w:World}{A:Around}{R:Result->Shared->Prop}{I:Addr}{fp wr:List Addr}{G:Array GenState->Array GenState->Prop}{n:Nat}{P:Nat->Value->Prop}{St:Nat->Shared->Prop}
def uv(W:WalksS prog w A.in1 I fp wr G n P St)(S:Addr)(g:S∉fp){T:Nat->Heap->Prop}{V:Heap->Prop}(tk:∀i h c,T i h->(∀o,h.get? S∣o->c.get? S∣o)->T i c)(y:∀h c,V h->(∀b o,b≠S->b∉wr->h.get? b∣o->c.get? b∣o)->V c)
 (add:∀i v (a:Shared) (Q:Bool->Shared->Prop) (E:ZD),P i v->T i a.heap->V a.heap->(∀c b t,SameBut S a.heap c->T (i+1) c->a.toks<=t->Q b {a with heap:=c,toks:=t})->↥A.in1 (setAdd S v) Q E a):
 ∀(k i:Nat) (s:Shared),n-i=k->i<=n->St i s->T i s.heap->V s.heap->
  (∀s',Moved (S::wr) G s s'->T n s'.heap->R (.ok (.ret .none)) s')->codeAny (model prog w) A (.builtin "set.update.loop" %[[.ref S,.ref I]|[]]) R s:=by
 let out:S∉wr:=λh=>g (W.sub _ h)
 let more:∀b∈wr,b∈S::wr:=λb d=>Zk _ d
 intro k
 induction k with
 | zero=>
   intro i s C hi st l z fin;let e:i=n:=by lia
   subst e;show codeAny_builtin F.entry_set_update_loop ?_;rw[Around.under_plainId F.plain_set_update_loop _];change wpAny _ A.in1 (pyNext (.ref I)>>= _) _ _ s;show Z2 (W.done s _ _ st λa f=>?_);change wpAny _ A.in1 (ret Value.none) _ _ a;exact Z3 (fin a (f.mono more) (tk _ _ _ l λo e=>f.heap S o out e))
 | succ k H=>
   intro i s C hi st l z fin;let lt:i<n:=by lia
   show codeAny_builtin F.entry_set_update_loop ?_;rw[Around.under_plainId F.plain_set_update_loop _];change wpAny _ A.in1 (pyNext (.ref I)>>= _) _ _ s;show Z2 (W.item i s _ _ lt st λv a pv m f=>?_);let j:=y _ a.heap z λb o _ d e=>f.heap b o d e
   show Z2 (wpAny_holding (add i v a _ _ pv (tk _ _ _ l λo e=>f.heap S o out e) j λM b N p r B=>Z3 %[plainId_quiet F.plain_set_update_loop _|H (i+1) _ ⋯ lt (W.frame _ a _ _ m B λb d o e=>?_) r (y _ _ j λb o n _ e=>(p.2 b n).trans e) λJ L u=>?_]))
   .exact(p.2 b (λq:b=S=>g (q▸d))).trans e
   .exact fin J (Moved.trans W.gtrans ((f.mono more).then_heap B λb o d e=>(p.2 b (λq:b=S=>d (q▸Zm))).trans e) L) u
end
section
#where
noncomputable abbrev bE(w:World):Obj:={cls:= .type "set",dict:=none,data:= .set #[] 0 (.fresh 0 0 (!aQ w))}
def A7(a:Value)(h:Q₁ (.ref ⇑s) (s>>>s.heap.push (bE w))):
 codeAny (model prog w) A (.call (.builtin "set.__new__") %[[.type "set",a]|[]]) (wants Q₁ E) s:=by
 show codeAny_of_tree ?_;change wpAny _ A.in1 _ _ _ s;show Z2 (wpAny_of_eq (PySem.F.newCall_set_1 a) (Z3 %[plainId_quiet PySem.F.plain_set_new _|codeAny_builtin PySem.F.entry_set_new ?_]));unfold Builtin.«set.__new__» Builtin.Frozenset.newClass;let b:=sub_set_self;let%[c,g,d,tk|os]:=s;dsimp only
 wp_walk
 show wpAny_askSetting (Z3 ?_);dsimp only;simp only[newObj];exact Z2 (wpAny_alloc (Z3 (Z3 h)))
def bw.empty(e:h.get? a∣bE w):bw w a [] h:=
 %[_,#[],0,_,[],e,%[rfl,rfl|rfl],rfl,.nil,.nil,Yy,λe b=>by simp at b,!1,rfl,λq=>absurd rfl q|rfl]
def mj{T:Nat->Heap->Prop}(hh:A.handled=none)(hl:s.heap.IsList l items)(t0:∀h,h.get? ⇑s∣bE w->T 0 h)(tk:∀i h a,T i h->(∀o,h.get? ⇑s∣o->a.get? ⇑s∣o)->T i a)
 (add:∀i v (j:Shared) (Q:Bool->Shared->Prop) (E:ZD),items[i]?∣v->T i j.heap->(∀b o,s.heap.get? b∣o->j.heap.get? b∣o)->(∀a b t,SameBut ⇑s j.heap a->T (i+1) a->j.toks<=t->Q b {j with heap:=a,toks:=t})->↥A.in1.in1.in1 (setAdd ⇑s v) Q E j)
 (hQ:∀(a:Heap) (tk:Nat),T items.size a->(∀b o,s.heap.get? b∣o->a.get? b∣o)->Q (.ref ⇑s) {s with heap:=a,toks:=tk}):
 ↥A (call (.type "set") [.ref l]) Q E s:=by
 let%[c,tl|ac]:=called_set.mro;let H:=called_set.made;let ae:=called_set.sub;show wpAny_call (codeAny_of_tree ?_);change wpAny _ _ (callAny (.type "set") _) _ _ _;show Z3 %[Code.quiet_builtin _ (!0)|codeAny_builtin F.entry_type_call ?_];rw[Around.under_plain (weight_type_call_type "set" [.ref l] []) rfl];let ai:=called_set.notType;let aj:=called_set.canCreate;let al:=PySem.F.typeCall_set_1 (.ref l)
 repeat any_goals first|assumption|wp_step
 show codeAny_mono (A7 (.ref l) (E:=E) (Q₁:=λobj m=>obj= .ref ⇑s/\m=(s>>>s.heap.push (bE w))) %[rfl|rfl]) λr m I=>?_
 cases r with
 | error e=>exact I
 | ok fl=>
   cases fl with
   | ret obj=>
     let%[rfl|rfl]:=I;let gS:(s.heap.push (bE w)).get? ⇑s∣bE w:=Zj _ rfl;let tS:Shared.TypeIs (s>>>s.heap.push (bE w)) (.ref ⇑s) "set":=%[_,gS|rfl]
     let an:=called_set.init.lookup;let as:=called_set.init.bind (.ref ⇑s)
     repeat any_goals first|assumption|wp_step
     show codeAny_mono (codeAny_call_builtin (R:=wants (λr n=>r= .none/\∃a tk,n={s with heap:=a,toks:=tk}/\T items.size a/\(∀b o,s.heap.get? b∣o->a.get? b∣o)) E) called_set.init.plain F.entry_set_init (check_set_init_1 tS ?_)) λy n d=>?_
     .let%[ol,gl,cl,nl|dl]:=hl;let%[ag,p,J|g]:=ol;simp only at cl dl;subst cl;subst dl;let L:(s.heap.push (bE w)).get? l=some {cls:= .type "list",dict:=p,data:= .seq items nl,slots:=g}:=Z7 _ gl;let a0:=PySem.F.sub_list_set;let a1:=PySem.F.sub_list_frozenset;let a2:(Value.type "list"==Value.type "dict")=false:=!1
      let z:(s.heap.push (bE w)).IsList l items:=%[_,L,rfl,nl|rfl]
      unfold Builtin.«set.__init__»;unfold noKeywords;unfold Builtin.Frozenset.updateFrom
      generalize M:pyIter=PI
      wp_walk
      subst M;show wpAny_pyIter_list z (Z2 (wpAny_runValue ?_));let B:l<⇑s:=Zu gl;let h3:A.in1.in1.in1.handled=none:=by simp[hh]
      let C:(s.heap.push (bE w)).objs.size=⇑s+1:=Zq ..;let N:l≠(s.heap.push (bE w)).objs.size:=by rw[C];exact Zs (Yj B)
      let O:⇑s∉[(s.heap.push (bE w)).objs.size,l]:=by
       rw[C];simp only[Ys,X1,or_false,not_or];exact%[Zs (Yk _)|Yv B]
      show uv ((Walks.list h3 _ l N items).toS) ⇑s O (V:=λh=>∀b o,s.heap.get? b∣o->h.get? b∣o) tk (λh a v k b o e=>?_) (λi v j Q E pv t v' q=>add i v j Q E pv t v' q) (items.size-0) 0 _ ⋯ (Xa _)
       %[%[_,Zj _ rfl,rfl|rfl]|z.push _] (t0 _ (Z7 _ gS)) (λb o e=>Z7 _ (Z7 _ e)) ?_
      .let f:=Zu e;show k b o (Zs f) ?_ (v b o e);simp only[Ys,X1,or_false,C];exact Zs (Yj f)
      intro s3 G U;let%[a,g',d',Y|ab]:=s3;let eg:g'=s.gens:=G.gens;let ed:d'=s.drawn:=G.drawn;let eo:ab=s.os:=G.os;subst eg;subst ed;subst eo;show Z3 ?_;change wpAny _ _ (ret Value.none) _ _ _;show Z3 %[rfl,a,Y,rfl,U|λb o e=>?_];let f:=Zu e;show G.heap b o ?_ (Z7 _ (Z7 _ e));simp only[Ys,X1,or_false,not_or,C];exact%[Zs f|Zs (Yj f)]
     .cases y with
      | error e=>exact d
      | ok u=>
        cases u with
        | ret r=>
          let%[rfl,a,tk,rfl,U|k3]:=d
          repeat any_goals first|assumption|wp_step
          exact hQ _ _ U k3
        | _=>exact d.elim
   | _=>exact I.elim
end
section
variable{X:Cx}{K:ZA}
abbrev lq(w:World)(a:Addr)(ks:ZB):HO:= .ext (bw w a ks)
def A8(m:X.calm=true):cD X (.type "set") (λxs H Q=>∃p ss,xs=[.ref p]/\Jb X.K H p (ss\3)/\ ~~~ss<=4000/\∀l,H l=none->Q (.ref l) (Ja H l (lq X.w l (aP ss)))):=by
 intro fx s J H xs us Q I r h;let%[p,ss,rfl,n,L|q]:=h;let%[u,rfl|w]:=dh r;cases w;let%[its,d,pl|M]:=I.list n;let a:=f9 d;let f:its.toArray.size= ~~~ss:=ck a;show mj (T:=λi h=>bw X.w ⇑s (aP (ss.take i)) h) (I.ok.hd m) pl.isList (λh e=>bw.empty e) (λi h y S k=>S.keep k) (λi v N Q E g z _ k=>?_) λy tk S k=>?_
 .let lt:i< ~~~ss:=f▸(Array.getElem?_eq_some_iff.mp g).1;let%[u,A,t|rfl]:=d.get (i:=i) (x:= .str ss[i]) (by simp[lt]);obtain rfl:v=_:=Za (g.symm.trans ↑A);let q:=ut (ss.take i) [];rw[Yh]at q;show uq z (by change(aP (ss.take i)).length+1<4096;unfold aP;simp only[length_nil]at q;lia) λj b B c=>k j b _ B ?_ (Yc _)
  rw[uu (Z4 lt)];exact c
 .rw[f,Zn (Zi _)]at S;show%[.ref ⇑s,_,I.laid (o:=lq X.w ⇑s _) k (Zi _) %[S,?_|λO j C k1=>C.keep k1],ρ|q _ I.fresh];let%[o,_,_,_,_,G|_]:=S;exact%[o|G]
def A9(h:X.K=K)(hw:X.w=w)(a:X.calm=true):cA X (.type "set") (λxs H Q=>∃p ss,xs=[.ref p]/\Jb K H p (ss\3)/\ ~~~ss<=4000/\∀l,H l=none->Q (.ref l) (Ja H l (lq w l (aP ss)))):=by subst h;subst hw;exact⟨A8 a⟩
end
open PySem PySem.Spec PyProof.Rows
def gC:∀{xs:List a} {i:Nat} (h:i< ~~~xs),(xs[i]::xs.eraseIdx i).Perm xs
 | x::r,0,_=>by simp
 | x::r,i+1,h=>by
   exact(List.Perm.swap _ _ _).trans (.cons _ (gC ↑h))
section
#where
def y3(a:n≠0)(h:∀i d,i<n->Q i {s with drawn:=d}):↥A (choose b n) Q E s:=by
 intro c p _;exact%[a|h _ _ (mod_lt _ (Nat.pos_of_ne_zero a))]
def sk:∀(n:Nat) (xs:List b) (s:Shared) (Q:List b->Shared->Prop),~~~xs<=n->(∀ys d,ys.Perm xs->Q ys {s with drawn:=d})->↥A (drawOrder n xs) Q E s
 | 0,xs,s,Q,a,h=>by
   let e:=length_eq_zero_iff.mp (le_zero.mp a);subst e;exact Z3 (h [] s.drawn .nil)
 | n+1,[],s,Q,a,h=>Z3 (h [] s.drawn .nil)
 | n+1,x::r,s,Q,a,h=>by
   unfold drawOrder;show Z2 (y3 ∅ λi d hi=>?_);rw[(Z4 hi)];exact Z2 (sk n _ _ _ (by rw[List.length_eraseIdx];simp only[hi];simp_all) λys c p=>Z3 (h _ c ((List.Perm.cons _ p).trans (gC hi))))
end
def xz(next:Nat->Nat):∀(fuel k:Nat) (left:List a) (out:Array a),~~~left<=fuel->(pickOrder.go next fuel k left out).toList.Perm (out.toList++left)
 | 0,k,left,out,h=>by
   let e:=length_eq_zero_iff.mp (le_zero.mp h);subst e;rw[Zy];exact .refl _
 | fuel+1,k,[],out,h=>by
   unfold pickOrder.go;simp
 | fuel+1,k,x::r,out,h=>by
   unfold pickOrder.go;let hi:next k% ~~~(x::r)< ~~~(x::r):=mod_lt _ ∅;rw[Z4 hi];show(xz next fuel _ _ _ (by rw[List.length_eraseIdx];simp_all)).trans ?_;rw[toList_push,Ze];exact(List.Perm.refl _).append (gC hi)
def qD(next:Nat->Nat)(xs:Array a):(pickOrder next xs).toList.Perm xs.toList:=by
 let:=xz next xs.size 0 xs.toList #[] ∅;simpa [pickOrder]using this
def qE(p j:Nat):SetTable.below #[p] j=if p<j then 1 else 0:=by
 unfold SetTable.below;simp only[Zp,Zr];unfold SetTable.below.go;simp
 split<;>(rfl)
def wz(j:Nat):SetTable.below #[] j=0:=rfl
def qF{a:Type}{xs:Array a}(h:xs.size=1):∃p,xs= #[p]:=by
 obtain⟨l⟩:=xs
 match l,h with
 |[p],_=>exact%[p|ρ]
abbrev SIt(w:World)(I S T:Addr)(o:Obj)(b:Array (Int×Value))(c:Nat)(t:SetTable)(a:ZF)(i:Nat)(h:Heap):Prop:=
 h.get? S∣o/\∃first,h.get? I=some {cls:= .type "set_iterator",dict:=none,data:= .fields #[first,rawInt i,.ref S,rawInt b.size,rawInt c],slots:= #[]}/\
  ((aQ w=true/\first=rawInt 0/\a=(pickOrder (w.params.setOrder S c) b).toList\2)\/
   (aQ w=false/\first= .ref T/\T≠I/\∃ps:List Nat,h.get? T=some {cls:= .type "tuple",data:= .seq (ps.map λ(i:Nat)=>rawInt i).toArray}/\ ~~~ps= ~~~a/\∀(j p:Nat),ps[j]?∣p->∃e,b[p]?∣e/\a[j]?∣e.2)\/
   (aQ w=false/\b.size<=1/\a=b.toList\2/\(i=0->first=rawInt 0)/\(i=1->∃p:Nat,t.place[0]?∣p/\first=rawInt (p+1))))
def SIt.is{w:World}{I S T:Addr}{o:Obj}{b:Array _}{c:Nat}{t:SetTable}{a:ZF}{i:Nat}{s:Shared}(h:SIt w I S T o b c t a i s.heap):s.TypeIs (.ref I) "set_iterator":=by
 let%[_,f,d|_]:=h;exact%[_,d|ρ]
section
#where
variable{I S T:Addr}{o:Obj}{es:Array (Int×Value)}{ep:Nat}{t:SetTable}{ord:ZF}
def wA{i:Nat}{v:Value}{Q:Option Value->Shared->Prop}(y:o.data= .set es ep t)(h:t.fits es.size=true)(z:t.led=!aQ w)(j:S≠I)(st:SIt w I S T o es ep t ord i s.heap)(f:ord[i]?∣v)(hn: ~~~ord=es.size)
 (U:∀Y,SIt w I S T o es ep t ord (i+1) Y->SameBut I s.heap Y->Q (some v) (s>>>Y)):↥A (pyNext (.ref I)) Q E s:=by
 let hT:=st.is;let%[g,first,N|m]:=st;unfold pyNext;show Z2 (wpAny_attempt (wpAny_callSpecial?_slot (name:=!"__next__") hT bN (wpAny_call_entry bN hT fM ?_ (ig _))));unfold Builtin.«set_iterator.__next__»;show Z2 (m:=slotArgs _ _ _) (Z3 ?_);show Z2 (wpAny_fieldsOf N rfl ?_);change wpAny _ _ (setEntries S>>= _) _ _ _;show Z2 (wpAny_setEntries_of g y h ?_);rw[if_neg ∅];rcases m with⟨c,rfl,B⟩|⟨c,rfl,C,ps,G,ab,H⟩|⟨c,h1,B,f0,f1⟩
 .change wpAny _ _ (setNext S 0 i ep>>= _) _ _ _;show Z2 ?_;unfold setNext;show Z2 (wpAny_setState_of g y h ?_);show Z2 (Z2 (wpAny_askSetting (Z3 ?_)));change wpAny _ _ (if aQ w=true then _ else _) _ _ _;rw[if_pos c];dsimp only;rw[if_neg (show ¬ ((ep != ep)=true) by simp)];show Z2 ?_;unfold setWalk;show Z2 (wpAny_setState_of g y h ?_);show Z2 (Z2 (wpAny_askSetting (Z3 ?_)));change wpAny _ _ (if aQ w=true then _ else _) _ _ _;rw[if_pos c];show Z2 (wpAny_askSetting (Z3 (Z3 ?_)));let d:(pickOrder (w.params.setOrder S ep) es)[i]?.map (·.2)∣v:=by
   rw[B]at f;simpa using f
  cases u:(pickOrder (w.params.setOrder S ep) es)[i]? with
  | none=>rw[u]at d;cases d
  | some e=>
    rw[u]at d;let J:e.2=v:=↑d
    change wpAny _ _ (match((pickOrder (w.params.setOrder S ep) es)[i]?).map λe=>(e.2,0)with|some (x,next)=>_|none=>_) _ _ _;rw[u];show Z2 (wpAny_setField_rec N ∅ λg1 b a=>?_);show Z2 (wpAny_setField_rec (s:=(s>>>g1)) b ∅ λg2 l n=>?_);rw[J];let L:SameBut I s.heap g2:=a.trans n;show Z3 %[v,rfl|Z3 (U g2 %[(L.2 S j).trans g,_,l|.inl %[c,rfl|B]] L)]
 .show Z2 (wpAny_seqItems G rfl ?_);let hi:i< ~~~ord:=(Xh f).1;let ac:i< ~~~ps:=by lia
  let%[e,O|ae]:=H i ps[i] ∅;let J:e.2=v:=by rw[ae]at f;exact Za f
  let M:(ps.map λ(i:Nat)=>rawInt i).toArray[(i:Int).toNat]?∣rawInt ps[i]:=by simp[ac]
  dsimp only;rw[M];change wpAny _ _ (setNextDrawn S ps[i] ep>>= _) _ _ _;show Z2 ?_;unfold setNextDrawn;show Z2 (wpAny_setState_of g y h ?_);dsimp only;rw[if_neg (show ¬ ((ep != ep)=true) by simp),O];show Z3 ?_;show Z2 (wpAny_setField_rec N ∅ λg1 b a=>?_);rw[J];exact Z3 %[v,rfl|Z3 (U g1 %[(a.2 S j).trans g,_,b|.inr (.inl %[c,rfl,C,ps,(a.2 T C).trans G,ab|H])] a)]
 .let hi:i< ~~~ord:=(Xh f).1;let i0:i=0:=by lia
  subst i0;let f0:=f0 rfl;subst f0;let e1:es.size=1:=by lia
  let pz:t.place.size=1:=by
   simp only[SetTable.fits,Zw,beq_iff_eq,decide_eq_true_eq]at h;rw[h.1,e1]
  let%[p|u]:=qF pz;obtain⟨e,O⟩:∃e,es[0]?∣e:=%[es[0]|by simp]
  let J:e.2=v:=by
   rw[B]at f;let:(es[0]?)\2∣v:=↑f
   rw[O]at this;simpa using this
  change wpAny _ _ (setNext S 0 0 ep>>= _) _ _ _;show Z2 ?_;unfold setNext;show Z2 (wpAny_setState_of g y h ?_);change wpAny _ _ (if aQ w=true then _ else _) _ _ _;rw[if_neg (by rw[c];decide)];dsimp only
  split
  .rename_i r
   change (!t.plain&&decide (es.size>1))=true at r;rw[e1]at r;simp at r
  .show Z2 (m:=(if(!t.led&&!es.isEmpty)=true then unsupported "set:maker-not-led" else pure ())) ?_;rw[z,c];show Z3 ?_;rw[u,qE];simp only[Yz,↓reduceIte,O];show Z3 ?_;change wpAny _ _ (setField (.ref I) 0 (rawInt ((p+1:Nat):Int))>>= _) _ _ _;show Z2 (wpAny_setField_rec N ∅ λg1 b a=>Z2 (wpAny_setField_rec (s:=(s>>>g1)) b ∅ λg2 l n=>?_));rw[J];let L:SameBut I s.heap g2:=a.trans n;exact Z3 %[v,rfl|Z3 (U g2 %[(L.2 S j).trans g,_,l|.inr (.inr %[c,⋯,B,λq=>by lia|λ_=>%[p,by rw[u];rfl|rfl]])] L)]
def uw{d:Type}{Q:d->Shared->Prop}(f:A.handled=none)(g:∀c e,(∀b o,s.heap.get? b∣o->c.get? b∣o)->(∃o,c.get? e∣o/\o.cls= .type "StopIteration")->E (.ref e) (s>>>c)):
 ↥A (newExc (.type "StopIteration") []>>= λe=>(raiseNew e)) Q E s:=by
 show Z2 ?_;show Z2 (wpAny_newObj_type ?_ (by size_fits));show Z2 (wpAny_of_eq (a:=Value.none) (by first|rfl|lia) (wpAny_newObj_type (wpAny_raiseNew_none f (g _ _ (λb o e=>Z7 _ (Z7 _ e)) %[_,Zj _ rfl|rfl])) (by size_fits)))
def y4{i:Nat}{Q:Option Value->Shared->Prop}(hh:A.handled=none)(u:o.data= .set es ep t)(h:t.fits es.size=true)(l:t.led=!aQ w)(st:SIt w I S T o es ep t ord i s.heap)(hi:i= ~~~ord)(hn: ~~~ord=es.size)
 (hQ:∀y,(∀b o,b≠I->s.heap.get? b∣o->y.get? b∣o)->Q none (s>>>y)):↥A (pyNext (.ref I)) Q E s:=by
 let Y:=st.is;let%[z,first,B|m]:=st;let H:A.in1.handled=none:=hh;let fin:∀(g:Heap) (Q':Fin->Shared->Prop),SameBut I s.heap g->↥A.in1 (newExc (.type "StopIteration") []>>= λe=>(raiseNew e:Sem Fin)) Q' (λe s'=>↥A (do
  if(<-isInstance e (.type "StopIteration"))then pure none else throw e) Q E s') (s>>>g):=λg Q' sb=>by
  show uw H λy e k ⟨oe,he,hc⟩=>?_
  show Z2 (wpAny_isInstance (T:="StopIteration") (b:=true) %[oe,he|hc] isSubtype_stop (Z3 (hQ y λb o n q=>k b o ((sb.2 b n).trans q))))
 unfold pyNext;show Z2 (wpAny_attempt (wpAny_callSpecial?_slot (name:=!"__next__") Y bN (wpAny_call_entry bN Y fM ?_ (ig _))));unfold Builtin.«set_iterator.__next__»;show Z2 (m:=slotArgs _ _ _) (Z3 ?_);show Z2 (wpAny_fieldsOf B rfl ?_);change wpAny _ _ (setEntries S>>= _) _ _ _;show Z2 (wpAny_setEntries_of z u h ?_);rw[if_neg ∅];rcases m with⟨j,rfl,eo⟩|⟨j,rfl,ab,ps,J,ac,ae⟩|⟨j,h1,eo,L,M⟩
 .change wpAny _ _ (setNext S 0 i ep>>= _) _ _ _;show Z2 ?_;unfold setNext;show Z2 (wpAny_setState_of z u h ?_);show Z2 (Z2 (wpAny_askSetting (Z3 ?_)));change wpAny _ _ (if aQ w=true then _ else _) _ _ _;rw[if_pos j];dsimp only;rw[if_neg (show ¬ ((ep != ep)=true) by simp)];show Z2 ?_;unfold setWalk;show Z2 (wpAny_setState_of z u h (Z2 (Z2 (wpAny_askSetting (Z3 ?_)))));change wpAny _ _ (if aQ w=true then _ else _) _ _ _;rw[if_pos j];show Z2 (wpAny_askSetting (Z3 (Z3 ?_)));let C:(pickOrder (w.params.setOrder S ep) es)[i]? =none:=by
   rw[Array.getElem?_eq_none_iff,hi,eo,Z6,Zb];exact Zi _
  change wpAny _ _ (match((pickOrder (w.params.setOrder S ep) es)[i]?).map λe=>(e.2,0)with|some (x,next)=>_|none=>_) _ _ _;rw[C];change wpAny _ _ (setField (.ref I) 2 .none>>= _) _ _ _;exact Z2 (wpAny_setField_rec B ∅ λg1 _ c=>fin g1 _ c)
 .change wpAny _ _ (seqItems? (.ref T)>>= _) _ _ _;show Z2 (wpAny_seqItems J rfl ?_);let r:(ps.map λ(i:Nat)=>rawInt i).toArray[(i:Int).toNat]? =none:=by simp;lia
  dsimp only;rw[r];exact Z2 (wpAny_setField_rec B ∅ λg1 N c=>Z2 (wpAny_setField_rec N ∅ λg2 _ O=>fin g2 _ (c.trans O)))
 .let done:∀slot:Nat,first=rawInt slot->SetTable.below t.place slot=es.size->↥A.in1 (setNext S slot i ep) (λa s'=>a=none/\s'=s) (λ_ _=>False) s:=by
   intro slot _ n;unfold setNext;show Z2 (wpAny_setState_of z u h ?_);change wpAny _ _ (if aQ w=true then _ else _) _ _ _;rw[if_neg (by rw[j];decide)];dsimp only
   split
   .rename_i d
    change (!t.plain&&decide (es.size>1))=true at d;let:decide (es.size>1)=false:=Zh ⋯;rw[this,Bool.and_false]at d;cases d
   .show Z2 (m:=(if(!t.led&&!es.isEmpty)=true then unsupported "set:maker-not-led" else pure ())) ?_;rw[l,j];show Z3 ?_;rw[n,show es[es.size]? =none by simp];exact Z3 %[rfl|rfl]
  let go:∀slot:Nat,first=rawInt slot->SetTable.below t.place slot=es.size->↥A.in1 (setNext S slot i ep>>= λa=>match a with
   | some (x,next)=>(do
     setField (.ref I) 0 (rawInt ↑(next))
     setField (.ref I) 1 (rawInt (↑(i)+1))
     ret x)
   | none=>(do
     setField (.ref I) 2 .none
     let e<-newExc (.type "StopIteration") []
     raiseNew e)) (λfin s'=>∃v,fin=Fin.done (Flow.ret v)/\↥A (pure (some v)) Q E s') (λe s'=>↥A (do
   if(<-isInstance e (.type "StopIteration"))then pure none else throw e) Q E s') s:=by
   intro slot e n;show Z2 (wpAny_mono (done slot e n) (λa s' ⟨G,e2⟩=>?_) λ_ _ f=>f.elim);subst G;subst e2;exact Z2 (wpAny_setField_rec B ∅ λg1 _ c=>fin g1 _ c)
  let pz:=by
   simp only[SetTable.fits,Zw,beq_iff_eq,decide_eq_true_eq]at h;exact h.1
  by_cases e0:es.size=0
  .let i0:i=0:=by lia
   subst i0;let L:=L rfl;subst L;show go 0 rfl ?_;let:t.place= #[]:=Array.eq_empty_of_size_eq_zero ⋯;rw[this,wz,e0]
  .let G:es.size=1:=by lia
   let i1:i=1:=by lia
   subst i1;let%[p,C|M]:=M rfl;subst M;show go (p+1) rfl ?_;let%[p'|U]:=qF (by rw[pz,G]:t.place.size=1);rw[U]at C ⊢;let:p'=p:=↑C
   subst this;rw[qE,if_pos (Yk _),G]
end
open PySem PySem.Spec PyProof.Rows
def ii:Slot "set_iterator" "__iter__" "set_iterator.__iter__":=
 .of (owner:="set_iterator") (n:="__iter__") (by rw[typeLookup_type,builtinLookup_eq_fast];kernel_rfl) (!0) (!0) (!0) (by first|exact .inl (!0)|exact .inr ∅) (by kernel_rfl)
def lu:entryFor table "set_iterator.__iter__"=some Builtin.«dict_keyiterator.__iter__»:=entryFor_alias (id':="dict_keyiterator.__iter__") (by kernel_rfl) rfl (!0) (by kernel_rfl)
def mS(a:Value):argsOk "set_iterator.__iter__" %[[a]|[]]:=by kernel_rfl
def sq:typeLookup (.type "set") "__len__"=pure (some (.builtin "set.__len__")):=by kernel_rfl
section
#where
variable{I S T:Addr}{o:Obj}{es:Array (Int×Value)}{ep:Nat}{t:SetTable}{ord:ZF}
def y6(hh:A.handled=none)(hd:o.data= .set es ep t)(hf:t.fits es.size=true)(hled:t.led=!aQ w)(hSI:S≠I)(hn: ~~~ord=es.size):
 Walks prog w A I [I,S,T] [I] ord.length (λi v=>ord[i]?∣v) (λi h=>SIt w I S T o es ep t ord i h) where
 sub:=by simp
 frame:=λi h h' st k=>by
  let%[hS,first,hI|m]:=st;show⟨k S ∅ _ hS,first,k I ∅ _ hI,?_⟩;rcases m with m|⟨bt,e,hTI,ps,hTt,r⟩|m
  .exact .inl m
  .exact .inr (.inl %[bt,e,hTI,ps,k T ∅ _ hTt|r])
  .exact .inr (.inr m)
 item:=λi s Q E hi st hQ=>wA (v:=ord[i]) hd hf hled hSI st ∅ hn λh' st' sb=>hQ _ h' s.toks ∅ st' λb o' hb e=>(sb.2 b (λq=>hb (by simp[q]))).trans e
 done:=λs Q E st hQ=>y4 hh hd hf hled st rfl hn λh' k=>hQ h' s.toks λb o' hb e=>k b o' (λq=>hb (by simp[q])) e
 self:=λi s Q E st hQ=>by
  let hT:=st.is;exact wpAny_pyIter_slot hT ii (wpAny_call_entry ii hT lu (Z3 %[_,rfl,"set_iterator",_,hT,bN.lookup|hQ]) (mS _))
def y8(f:s.heap.get? S∣o)(B:o.ExactSet)(C:o.data= .set es ep t)(hb:es.size<scanBound)(G:t.fits es.size=true)(H:es.size≠0->t.plain=false)(O:t.led=!aQ w)
 (hQ:∀(I T:Addr) (ord:ZF) (l:Heap) d,(∀b o,s.heap.get? b∣o->l.get? b∣o)->⇑s<=I->S≠I->(T=S\/⇑s<=T)->T<l.objs.size->I<l.objs.size-> ~~~ord=es.size->
  SIt w I S T o es ep t ord 0 l->ord.Perm (es.toList\2)->Q (.ref I) {s with heap:=l,drawn:=d}):↥A (pyIter (.ref S)) Q E s:=by
 let U:s.TypeIs (.ref S) "set":=%[o,f|B.1]
 let n:S<⇑s:=Zu f;show wpAny_pyIter_slot U F.slot_set_iter (wpAny_call_entry F.slot_set_iter U pO ?_ (F.args_set_iter_1 _));unfold Builtin.«frozenset.__iter__»;show Z2 (m:=Builtin.Frozenset.slot0 _ _) (Z2 (m:=slotArgs _ _ _) (Z3 (Z3 ?_)));show Z2 (m:=Builtin.Frozenset.sizeOf S) (Z2 (wpAny_setEntries_of f C G (Z3 ?_)));show Z2 (m:=setDrawn S) ?_;unfold setDrawn;show Z2 (wpAny_setState_of f C G (Z2 (Z2 (wpAny_askSetting (Z3 (Z3 ?_))))));let fin:∀(first:Value) (a:Shared) (T:Addr) (ord:ZF),a.heap.get? S∣o->(∃d c,a={s with heap:=c,drawn:=d})->(∀b o,s.heap.get? b∣o->a.heap.get? b∣o)->T<⇑a->⇑s<=⇑a->(T=S\/⇑s<=T)->ord.Perm (es.toList\2)->
  ((aQ w=true/\first=rawInt 0/\ord=(pickOrder (w.params.setOrder S ep) es).toList\2)\/(aQ w=false/\first= .ref T/\∃ps:List Nat,a.heap.get? T=some {cls:= .type "tuple",data:= .seq (ps.map λ(i:Nat)=>rawInt i).toArray}/\ ~~~ps= ~~~ord/\∀(j p:Nat),ps[j]?∣p->∃e,es[p]?∣e/\ord[j]?∣e.2)\/(aQ w=false/\es.size<=1/\ord=es.toList\2/\first=rawInt 0))-> ~~~ord=es.size->
  ↥A.in1 (do ret (<-newFields "set_iterator" [first,rawInt 0,.ref S,rawInt es.size,rawInt (<-setEpoch S)])) (λfin s'=>∃v,fin=Fin.done (Flow.ret v)/\∃Y r,s'.TypeIs v Y/\typeLookup (.type Y) "__next__"=pure (some r)/\Q v s') (λe s'=>E e s') a:=by
  intro first a T ord c %[d,g1|e1] k1 tl sl J y m hn
  subst e1;show Z2 (wpAny_setEpoch_of c C G (Z2 (wpAny_newObj_type ?_)));let gI:(g1.push {cls:= .type "set_iterator",data:= .fields #[first,rawInt 0,.ref S,rawInt es.size,rawInt ep]}).get? g1.objs.size∣_:=Zj _ rfl;show Z3 %[_,rfl,"set_iterator",_,%[_,gI|rfl],bN.lookup|hQ g1.objs.size T ord _ d (λb o' e=>Z7 _ (k1 b o' e)) sl (Zs (Zu c)) J (by rw[Zq];exact Yj tl) (by rw[Zq];exact Yk _) hn ?_ y];show⟨Z7 _ c,first,gI,?_⟩;rcases m with m|⟨g,e,ps,L,r⟩|⟨g,M,eo,e⟩
  .exact .inl m
  .exact .inr (.inl %[g,e,Zs tl,ps,Z7 _ L|r])
  .exact .inr (.inr %[g,M,eo,λ_=>e|λq=>absurd q ∅])
 let lst: ~~~(es.toList\2)=es.size:=by rw[Z6,Zb]
 by_cases g:aQ w=true
 .change wpAny _ _ (if(!aQ w&&_)=true then _ else _) _ _ _;rw[g,Bool.not_true,Bool.false_and,if_neg ∅];show Z2 (Z3 ?_);let u:=(qD (w.params.setOrder S ep) es)\2;exact fin (rawInt 0) s S _ f %[s.drawn,s.heap|rfl] (λ_ _ e=>e) n (Zi _) (.inl rfl) u (.inl %[g,rfl|rfl]) (by rw[u.length_eq,lst])
 .let z:aQ w=false:=↑g
  change wpAny _ _ (if(!aQ w&&(!t.plain&&decide (es.size>1)))=true then _ else _) _ _ _;by_cases c:es.size>1
  .rw[z,H ⋯,Zf c];show Z2 (sk es.size _ _ _ ∅ λps d h=>Z2 (wpAny_newTuple ?_ (by rw[Z6,h.length_eq,Yf];exact fits_of_scanBound hb)));let lt:∀p∈ps,p<es.size:=λp q=>mem_range.mp (h.mem_iff.mp q)
   let er:(List.range es.size).map (λp=>((es[p]?)\2).getD .none)=es.toList\2:=by
    apply ext_getElem
    .simp
    .intro i y q2;simp at y;simp[y]
   let u:(ps.map (λp=>((es[p]?)\2).getD .none)).Perm (es.toList\2):=er▸h.map _;show fin _ _ ⇑s _ (Z7 _ f) %[d,_|rfl] (λb o' e=>Z7 _ e) (by rw[Zq];exact Yk _) (by rw[Zq];exact Yc _) (.inr (Zi _)) u
    (.inr (.inl %[z,rfl,ps,Zj _ rfl,by rw[Z6]|λj p q=>?_])) (by rw[u.length_eq,lst])
   let N:=lt p (Z8 q);exact%[es[p],by simp|by simp[q,N]]
  .rw[z,Zh c];simp only[Bool.and_false,Zz];exact fin (rawInt 0) s S _ f %[s.drawn,s.heap|rfl] (λ_ _ e=>e) n (Zi _) (.inl rfl) (List.Perm.refl _) (.inr (.inr %[z,⋯,rfl|rfl])) lst
def jV(hh:A.handled=none)(u:s.heap.get? S∣r)(a:r.ExactSet)(v:r.data= .set g as t0)(y:g.size<scanBound)(z:t0.fits g.size=true)(B:g.size≠0->t0.plain=false)(c:t0.led=!aQ w)
 (hQ:∀s' vs,vs.Perm (g.toList\2)->(∀b o,s.heap.get? b∣o->s'.heap.get? b∣o)->s'.gens=s.gens->s'.os=s.os->⇑s<=⇑s'->Q vs s'):↥A (collect (.ref S)) Q E s:=by
 unfold collect;show Z2 (wpAny_runValue (codeAny_builtin F.entry_proto_collect ?_));rw[Around.under_plainId F.plain_proto_collect _];change wpAny _ A.in1 (newList []>>= λl=>again (.builtin "list.__iadd__" %[[l,.ref S]|[]])) _ _ s;show Z2 (wpAny_newObj_type (Z3 %[plainId_quiet F.plain_list_iadd _|codeAny_builtin F.entry_list_iadd ?_]));rw[Around.under_plainId F.plain_list_iadd _];let i:S<⇑s:=Zu u;change wpAny _ A.in1 (Builtin.List.listExtendWith (.ref ⇑s) (.ref S) (.ref ⇑s)) _ _ _;unfold Builtin.List.listExtendWith
 generalize O:s.heap.push {cls:= .type "list",data:= .seq ([]:ZF).toArray}=G
 let gS:G.get? S∣r:=by rw[<-O];exact Z7 _ u
 let gz:G.objs.size=⇑s+1:=by rw[<-O,Zq]
 let gL:G.get? ⇑s=some {cls:= .type "list",data:= .seq ([]:ZF).toArray}:=O▸Zj _ rfl;let tS:Shared.TypeIs (s>>>G) (.ref S) "set":=%[r,gS|a.1]
 show Z2 (wpAny_typeOf (T:="set") tS ?_);let n1:Builtin.List.listSameRef (.ref ⇑s) (.ref S)=false:=by
  change(⇑s==S)=false;exact beq_eq_false_iff_ne.mpr (Yv i)
 let n2:(Value.type "set"==Value.type "list")=false:=!1
 let n3:(Value.type "set"==Value.type "tuple")=false:=!1
 simp only[n1,n2,n3,Bool.or_false,Zz,if_false];show Z2 (y8 (s:=(s>>>G)) gS a v y z B c λI T ord h d k1 U ab ac a0 a1 hn st q1=>?_);replace k1:∀b o,G.get? b∣o->h.get? b∣o:=k1;replace U:G.objs.size<=I:=U;let ae:h.get? S∣r:=k1 _ _ gS;show Z2 (wpAny_holding ?_);unfold Builtin.List.listLengthHint;let m:Shared.TypeIs {s with heap:=h,drawn:=d} (.ref S) "set":=%[r,ae|a.1]
 show Z2 (wpAny_specialOf (T:="set") m sq ?_)
 wp_delta
 show Z2 (wpAny_isInstance (T:="set") (b:=true) m (by rw[isSubtype_type];kernel_rfl) ?_);change wpAny _ A.in1 (typeOf (.ref S)>>= _) _ _ _;show Z2 (wpAny_typeOf (T:="set") m (Z3 ?_));rw[if_pos (!1)];show Z2 (wpAny_rule ?_);let C:h.get? ⇑s=some {cls:= .type "list",data:= .seq ([]:ZF).toArray}:=k1 _ _ gL;show Z2 ?_;unfold Builtin.List.listTouch;show Z2 (listUpdate_at (s:={s with heap:=h,drawn:=d}) C rfl ?_ (Xa _) (by change 1<=sizeLine+1;lia));let H:=get?_update_self (Obj.mapSeq (·.push Value.none)) C rfl;show listUpdate_at (xs:= #[Value.none]) (n:=1) (s:={s with heap:=h.update ⇑s (Obj.mapSeq _),drawn:=d}) H rfl ?_ (!1) (by change 0<=sizeLine+1;lia);let ag:=get?_update_self (Obj.mapSeq (·.pop)) H rfl;let J:∀b o,b≠⇑s->h.get? b∣o->((h.update ⇑s (Obj.mapSeq (·.push Value.none))).update ⇑s (Obj.mapSeq (·.pop))).get? b∣o:=λb o Y e=>(get?_update_other _ _ (Ne.symm Y)).trans ((get?_update_other _ _ (Ne.symm Y)).trans e)
 let ai:=Zs (Zg (by rw[gz];exact Yk _) U);let neT:⇑s≠T:=by
  rcases ac with e|e
  .exact e▸Yv i
  .exact Zs (Zg (gz▸Yk _) e)
 let L:⇑s∉[I,S,T]:=by
  simp only[Ys,X1,or_false,not_or];exact%[ai,Yv i|neT]
 let aj: ~~~ord<=sizeLine:=hn▸fits_of_scanBound y;let W:=y6 (prog:=prog) (A:=A.in1) (T:=T) (hh) v z c ab hn;let al:=W.frame 0 h _ st λb Y M e=>J b M (λq=>L (q▸Y)) e
 show Z3 %[plainId_quiet F.plain_extend_loop _|codeAny_extend_loopS W.toS aj _ L _ ord.length 0 _ _ _ rfl (Xa _) al ag (ItemsOf.nil _) λs5 acc c5 m5 N f=>?_];show Z2 (wpAny_load N (Z3 ?_));let ea:acc.toList=ord:=by
  apply List.ext_getElem?;intro j;by_cases hj:j< ~~~ord
  .let an:j<acc.size:=f.1▸hj;let:=f.2 j acc[j] ∅;rw[this];simp[an]
  .let l1: ~~~acc.toList= ~~~ord:=f.1;rw[Xg ⋯,Xg (l:=ord) ⋯]
 rw[ea];show hQ s5 ord q1 (λb M e=>?_) m5.gens m5.os (Yb (Zu N));let p:=Zu e;show m5.heap b M ?_ (J b M (Zs p) (k1 b M (O▸Z7 _ e)));simp only[Ys,X1,or_false,not_or];exact%[Zs p|Zs (Zg p (Nat.le_trans (gz▸Yc _) U))]
def ux(f:A.handled=none)(h:bw w S ks s.heap)
 (i:∀s' vs ss,StrsAre vs ss->ss.Perm ks->(∀b o,s.heap.get? b∣o->s'.heap.get? b∣o)->s'.gens=s.gens->s'.os=s.os->⇑s<=⇑s'->Q vs s'):↥A (collect (.ref S)) Q E s:=by
 let%[o,es,ep,t,ss,j,c,l,d,m,n,p,q,r,e|a]:=h;show jV f j c l q r e a λs' vs pv k g os sz=>?_
 let%[ts,u|v]:=bT d pv;exact i s' vs ts u (v.trans m) k g os sz
end
open PySem PySem.Spec PyProof.Rows
section
variable{X:Cx}{fx:ZE}{σ:St}{H:Hp}{s s':Shared}
def Jc.keptS(I:Jc X fx σ H s)(k:∀b o,s.heap.get? b∣o->s'.heap.get? b∣o)(c:s'.gens=s.gens)(a:s'.os=s.os):Jc X fx σ H s':=by
 let%[p,t,u,t'|d]:=s';replace a:d=s.os:=a;subst c;subst a;show I.step (ch:=[]) (λb f=>absurd f ∅) (λb o _ _ _ e _=>k b o e) (λb o _ _ _ e _=>%[o.slots|k b o e]) (λ_ _ _ _ n=>n) (λb o _ e=>%[o|k b o e]) (λ_ _ e=>e) (λ_ _ _ e=>e) (λb ps e=>%[#[]|by rw[e];simp]) (λm g=>?_) (λb v e=>?_) I.bare
 .let%[o,h,i,a|r]:=g;exact%[o,h,i,k _ o a|r]
 .exact(I.hok b v e).stay (λj l _ q=>k j l q) (λ_ q=>q) λ_ _ q=>q
variable{prog:Program}{w:World}{A:Around}{E:ZD}
variable{S:Addr}
end
def ak{D:jN}(h:∀c:jN,(∀a b,u D a b->c.nx a b)->(∀v b,D.rt v b->c.rt v b)->t c d H):a9 t u D d H:=h _ (λ_ _ x=>x) λ_ _ x=>x
def aB{t:TS}{D:jN}(h:∀c:jN,(∀a b,D.nx a b->c.nx a b)->(∀v b,D.rt v b->c.rt v b)->t c d H):t D d H:=h _ (λ_ _ x=>x) λ_ _ x=>x
def jW{K:ZA}{xs:List V}{g:TG}{j:TS}{D:jN}(Pv:Nat->St->Hp->Prop)(n:Pv 0 b H)(o:∀i b H,i<= ~~~xs->Pv i b H->Jb K H a xs)
 (r:∀i x T b H,xs[i]?∣x->Pv i b H->H T=none->g (.ref T) b (Ja H T (.tup [.int i,x])) λc h=>j {D with nx:=Pv (i+1),ct:=Pv (i+1),bk:=D.nx} c h) (s:∀b H,Pv xs.length b H->D.nx b H):
 ∃W:Nat->Nat->St->Hp->Prop,(∃m,W 0 m b H)/\∀i m b H,W i m b H->
  ((Ite K a xs).stop i H/\D.nx b H)\/((Ite K a xs).go i H/\∃N:St->Hp->Prop,(∀d f,N d f->∃l,l<m/\W (i+1) l d f)/\∀x f,(Ite K a xs).yld i H x f->g x b f λc h=>j {D with nx:=N,ct:=N,bk:=D.nx} c h):=by
 show%[λi m b H=>m= ~~~xs-i/\i<= ~~~xs/\Pv i b H,%[~~~xs,by simp,Xa _|n]|?_];intro i m b H %[rfl,hi|p];let q:=o i b H hi p;by_cases lt:i< ~~~xs
 .show .inr %[%[q|lt],Pv _,λd f t=>%[~~~xs-(i+1),⋯,rfl,lt|t]|λv f y=>?_];let%[x,T,e,u,rfl|rfl]:=y;exact r i x T b _ e p u
 .let e:i= ~~~xs:=by lia
  subst e;exact .inl %[%[q|Zi _]|s b H p]
section
open PySem PySem.Spec PyProof.Rows
variable{X:Cx}{K:ZA}{pos:Pos}{a b:Expr}{ta tb:TE}
def bK:OpQ X (binaryOp .Add) (rI0 λi j=> .int (i+j)):=⟨EU⟩
def cS:OpQ X (binaryOp .Mult) (rI Aq λi j=> .int (i*j)):=⟨Ar⟩
def cG(h:X.K=K)(c:m7 b)(d:QE X a ta)(e:QE X b tb):QE X (.Subscript a b pos) (tOp (Fd K) ta tb):=by subst h;exact⟨AE C2 d.h e.h c⟩
def Hd(c:m7 b)(d:QE X a ta)(e:QE X b tb):QE X (.Subscript a b pos) (tOp Ff ta tb):=⟨AE Fh d.h e.h c⟩
end
end _LL
namespace _CU
open PySem _LL PyProof.Rows
abbrev gE:Str:="abcdefghijklmnopqrstuvwxyz"
abbrev ik(c:Nat):Bool:=decide (c∈gE.cps.toList)
abbrev okc(c:Nat):Bool:=decide (c=46)||ik c
abbrev nl:Str:="\n"
def He:nl=⟨#[10]⟩:=rfl
def lv:ik c=true↔97<=c/\c<=122:=by
 let e:gE.cps.toList=(List.range 26).map (·+97):=!0
 unfold ik;rw[decide_eq_true_iff,e,mem_map]
 constructor
 .rintro⟨i,h,rfl⟩;let:=mem_range.mp h
  lia
 .rintro⟨a,b⟩;exact%[c-97,mem_range.mpr ⋯|⋯]
def FJ(h:okc c=true):c≠10:=by
 intro e;subst e
 revert h
 decide +kernel
structure cm (rows:ZB):Prop where
 pos:1<= ~~~rows
 high: ~~~rows<=40
 wide:∃wd,1<=wd/\wd<=40/\∀r∈rows,r.cps.size=wd
 sign:∀r∈rows,r.cps.toList.all okc=true
 fall:∀i r r',rows[i]?∣r->rows[i+1]?∣r'->∀(j c c':Nat),r.cps[j]?∣c->r'.cps[j]?∣c'->c'=46->c=46
 some':∃r∈rows,∃c∈r.cps.toList,c≠46
def gF{x y:Str}(h:x.cps.toList=y.cps.toList):x=y:=by
 obtain⟨⟨l⟩⟩:=x
 simp_all
def fN(sep x y:Str)(r:ZB):(Str.join sep (x::y::r)).cps.toList=x.cps.toList++sep.cps.toList++(Str.join sep (y::r)).cps.toList:=by
 change((x.cps++sep.cps) ++(Str.join sep _).cps).toList=_;rw[X9,X9]
def Ba [DecidableEq f]:∀{a b x y:List f},c∉a->c∉b->a++c::x=b++c::y->a=b/\x=y
 |[],[],_,_,_,_,h=>%[rfl|(List.cons.inj h).2]
 |[],b::bs,_,_,_,d,h=>absurd (((List.cons.inj h).1)▸Zm) d
 | a::as,[],_,_,e,_,h=>absurd (((List.cons.inj h).1)▸Zm) e
 | a::as,b::bs,x,y,e,d,h=>by
   let%[g|i]:=List.cons.inj h;let%[j|l]:=Ba (λq=>e (Zk _ q)) (λq=>d (Zk _ q)) i;exact%[by rw[g,j]|l]
def uy{c:Nat}:∀{ps qs:ZB},ps≠[]->qs≠[]->(∀p∈ps,c∉p.cps.toList)->(∀q∈qs,c∉q.cps.toList)->(Str.join ⟨#[c]⟩ ps).cps.toList=(Str.join ⟨#[c]⟩ qs).cps.toList->ps=qs
 |[],_,h,_,_,_,_=>absurd rfl h
 | _,[],_,h,_,_,_=>absurd rfl h
 |[p],[q],_,_,_,_,e=>by rw[gF (show p.cps.toList=q.cps.toList from e)]
 |[p],q::f::qs,_,_,a,_,e=>by
  rw[fN]at e;show absurd ?_ (a p Zm);rw[show p.cps.toList=(Str.join _ [p]).cps.toList from rfl,e];simp
 | p::g::ps,[q],_,_,_,b,e=>by
   rw[fN]at e;show absurd ?_ (b q Zm);rw[show q.cps.toList=(Str.join _ [q]).cps.toList from rfl,<-e];simp
 | p::g::ps,q::f::qs,_,_,a,b,e=>by
   rw[fN,fN,Ze,Ze]at e;let%[i|j]:=Ba (a p Zm) (b q Zm) e;rw[gF i,uy ∅ ∅ (λx d=>a x (Zk _ d)) (λx d=>b x (Zk _ d)) j]
def wB(a:rows≠[])(h:∀r∈rows,10∉r.cps.toList):Txt.split (Str.join nl rows) nl=rows:=by
 let e:=StrLaws.join_split (Str.join nl rows) nl;rw[He]at e ⊢;show uy ?_ a (StrLaws.split_free _ 10) h (by rw[e]);intro q;let:=split_pos (Str.join ⟨#[10]⟩ rows) ⟨#[10]⟩
 simp_all
def cm.nonl(h:cm rows):∀r∈rows,10∉r.cps.toList:=λr a b=>by
 let:=all_eq_true.mp (h.sign r a) 10 b;exact FJ this rfl
def cm.split(h:cm rows):Txt.split (Str.join nl rows) nl=rows:=
 wB (λe=>by let:=h.pos;simp_all) h.nonl
def sr:∀{xs:List b},(∀x∈xs,f x<=B)->(xs.map f).sum<= ~~~xs*B
 |[],_=>by simp
 | x::r,h=>by
   let c:=sr λy a=>h y (Zk _ a)
   let d:=h x Zm;rw[Ym,List.sum_cons,Zr,Nat.succ_mul]
   lia
def cm.sum(h:cm rows):(rows.map (·.length)).sum<=1600:=by
 let%[wd,_,c|a]:=h.wide;let:=sr (f:=λr:Str=> ~~~r) λr b=>by let:=a r b;change r.cps.size<=40;lia
 let:=h.high
 grind
def cm.text(h:cm rows): ~~~(Str.join nl rows)<=2000:=by
 let a:=StrLaws.join_length_le nl rows;let b:=h.sum;let c:=h.high;let d:nl.length=1:=rfl
 lia
abbrev sgn(c:Nat):Str:=⟨#[c]⟩
def nS{a:List Nat}(h:∀c∈a,ik c=true): ~~~(aP (a.map sgn))<=26:=by
 let b:∀x∈aP _,x∈gE.cps.toList.map sgn:=λx d=>by
  let%[c,f|e]:=Xk (bx.mp d);exact Xl %[c,Zo (h c f)|e]
 let:=List.Nodup.length_le_of_subset (eL _) b;rw[Z6]at this;let e:gE.cps.toList.length=26:=!0
 lia
abbrev cN(rows:ZB):List Nat:=(Str.join (!"") rows).cps.toList.filter (λc=>decide (c≠46))
def uz:∀(rows:ZB),(Str.join (!"") rows).cps.toList=(rows.map (·.cps.toList)).flatten
 |[]=>rfl
 |[x]=>by simp[Str.join]
 | x::y::r=>by
   let e:(!"").cps.toList=[]:=rfl;rw[fN,uz _,e,Zy];simp
def lw(h:∀r∈rows,r.cps.toList.all okc=true):∀c∈cN rows,ik c=true:=λc a=>by
 unfold cN at a;rw[List.mem_filter,uz]at a;let%[b|d]:=a;let%[l,e|f]:=List.mem_flatten.mp b;let%[r,g|rfl]:=Xk e;let:=all_eq_true.mp (h r g) c f;unfold okc at this;rw[or_eq_true]at this;rcases this with q|q
 .exact absurd (Zo q) (Zo d)
 .exact q
def cm.signs_ne(h:cm rows):cN rows≠[]:=by
 let%[r,b,c,d|a]:=h.some';let:c∈cN rows:=by
  unfold cN;rw[List.mem_filter,uz];exact%[List.mem_flatten.mpr %[_,Xl %[r,b|ρ]|d]|Zf a]
 grind
abbrev sw(z:Str):Bool:=(decide (1<=(~~~z:Int))&&decide ((~~~z:Int)<=40))&&z.cps.toList.all okc
abbrev eM(row a:Str):Bool:=decide (~~~row= ~~~a)&&(List.zip a.cps.toList row.cps.toList).all λp=>!decide (p.2=46)||decide (p.1=46)
def cm.row(h:cm rows)(a:r∈rows):sw r=true:=by
 let%[wd,c,d|b]:=h.wide;let e: ~~~r=wd:=b r a;unfold sw;rw[h.sign r a,e,Zf ⋯,Zf ⋯];rfl
def cm.beneath(h:cm rows)(c:rows[i]?∣r)(d:rows[i+1]?∣a):eM a r=true:=by
 let%[wd,m,n|e]:=h.wide;let f: ~~~r=wd:=e r (Z8 c);let g: ~~~a=wd:=e a (Z8 d);unfold eM;rw[Zf (g.trans f.symm),Bool.true_and,all_eq_true];intro p l;let%[j|b]:=Xb l;rw[List.getElem?_zip_eq_some]at b;let:=h.fall i r a c d j p.1 p.2 (by simpa using b.1) (by simpa using b.2)
 grind
def nT(a:List Nat):(Str.join (!"") (a.map sgn))=⟨a.toArray⟩:=by
 show gF ?_;rw[uz,Yn];change((a.map (λc=>[c])).flatten)=a
 induction a with
 | nil=>rfl
 | cons c r b=>simp_all
def sA:∀a:List Nat,((a.map sgn).map (λx=> ~~~x)).sum= ~~~a
 |[]=>rfl
 | c::r=>by
   rw[Ym,Ym,List.sum_cons,sA r,Zr];change 1+ ~~~r= ~~~r+1
   lia
end _CU
namespace _CU
open PySem _LL
end _CU
namespace _LL
open PySem PySem.Spec PyProof.Rows
abbrev Up(B:Heap)(l:List Env)(e:Addr)(cls:Value)(b:ZI)(d:Option Value)(h:Heap):Prop:=
 B.StaysIn h/\B.get? e=none/\h.FunFrames B l/\∃a vs,h.get? e∣a/\a.cls=cls/\a.dict=b/\a.data= .fields vs/\1<vs.size/\
  match d with
  | none=>vs[1]?∣.none
  | some f=>∃T c ts,vs[1]?∣.ref T/\B.get? T=none/\T≠e/\h.get? T∣c/\c.data= .fields ts/\ts[3]?∣f
section
end
section
variable{P:Program}{w:World}{H:Hp}{h:Heap}{a:Addr}{o:HO}
def bQ.there(x:bQ P w H h a o):∃b,h.get? a∣b:=by
 cases o with
 | lst xs=>have%[_,_,_,_|e]:=x;exact%[_|e]
 | tup xs=>have%[_,_,_,b,e|_]:=x;exact%[_|e]
 | dK c=>have%[_,_,_,_,o,_,_,e|_]:=x;exact%[_|e]
 | dT c=>have%[_,_,_,_,o,_,_,e|_]:=x;exact%[_|e]
 | set S n=>have%[o,_,_,_,e|_]:=x;exact%[_|e]
 | ins C d fs=>have%[_,_,_,e|_]:=x;exact%[_|e]
 | own y=>have%[_|e]:=x;exact%[_|e]
 | xd fs=>have%[_,%[_,_,_,e|_]|_]:=x;exact%[_|e]
 | rng lo hi=>have%[_,_,_|e]:=x;exact%[_|e]
 | frz b u=>have%[e|_]:=x;exact%[_|e]
 | tbl ps=>exact%[_|(x)]
 | met f y=>exact%[_|(x)]
 | ext g=>have%[_,%[_|e]|_]:=x;exact%[_|e]
variable{l:List Env}{H':Hp}{s:Shared}{s':Shared}{ea:Addr}{B:Heap}{h':Heap}{cls:Value}{dx:ZI}{fl:Option Value}{fl':Option Value}
variable{K:ZA}{mg:ZC}{base:Heap}{N:ZB}{qual:Str}{scope:Scope}{f:Addr}{cd:Value}{A:Around}{outer:List Env}{s₀:Shared}{H₀:Hp}{E:XK}
variable{prog:Program}{E:ZD}{g:Array GenState}{d:Drawn}{t:Nat}{os:OsState}
variable{nm q:Str}{C N:Addr}{bs bm bmB:ZF}{hdct:Bool}{sn:ZB}{sub:ZF}{ab:Bool}{col:Option Bool}{dd:ZI}{k0 k1 k2 k3 k5:Option Value}{B newId initId:String}
variable{x:Addr}{name:Str}{v:Value}{ox:Obj}{od:Option Obj}
variable{X:Cx}
end
abbrev FK(b:TE):TE:=λc H Q=>b c H λv a=>(∃i:Int,v= .int i/\i.natAbs<2^64/\Q (.str (toString i)) a)\/∃y:Str,v= .str y/\ ~~~y<=sizeLine/\Q (.str y) a
abbrev nU:List TE->Str->TE
 |[],out=>λa H Q=> ~~~out<=sizeLine/\Q (.str out) H
 | t::ts,out=>λa H Q=>t a H λv b=>∃y:Str,v= .str y/\ ~~~(out++y)<=sizeLine/\nU ts (out++y) a b Q
inductive PJ (X:Cx):List Expr->List TE->Prop
 | nil:PJ X [] []
 | cons {e:Expr} {es:List Expr} {t:TE} {ts:List TE}:PE X e t->PJ X es ts->PJ X (e::es) (t::ts)
section
variable{X:Cx}{e v1 v2:Expr}{rest:List Expr}{te t1 t2:TE}{ts:List TE}{pos:Pos}
def FL(c:PE X e te):PE X (.FormattedValue e (-1) none pos) (FK te):=by
 intro fx s d H Q I h;show FormattedValue_plain (thP (c fx s d H _ I h) λu j v a b r q=>?_);rcases q with⟨i,rfl,hi,q⟩|⟨y,rfl,f,q⟩
 .let%[t|rfl]:=(show∃t,u=Value.int i t from r)
  let g:i.natAbs.log2<1920:=by
   by_cases z:i.natAbs=0
   .rw[z];decide
   .exact(Nat.log2_lt z).mpr (Zg hi (Nat.pow_le_pow_right (!1) ∅))
  exact formatField_int_small g %[V.str (toString i),a,b.tok _,%[_|rfl]|q]
 .let%[t|rfl]:=(r)
  exact formatField_str (λt' tk=>%[.str y,a,b.tok _,%[_|rfl]|q]) f
def Bb(h:PJ X c ts):∀(out:Str) (fx:ZE) (s:Shared) (a:St) (H:Hp) (Q:VK),Jc X fx a H s->nU ts out a H Q->
 (X⁻¹) (joinParts out (evalEach c X.env)) (EP X fx a Q) X.xe s:=by
 induction h with
 | nil=>exact λout fx s a H Q I ⟨b,q⟩=>joinParts_nil %[.str out,H,I.tok _,%[_|rfl]|q] b
 | cons d _ f=>
   intro out fx s a H Q I q;show joinParts_cons (thP (d fx s a H _ I q) λu g v i j r ⟨y,l,b,m⟩=>?_);subst l;let%[t|rfl]:=(r)
   exact%[b|f _ fx g a i Q j m]
def Dr(h:PJ X (v1::v2::rest) ts):PE X (.JoinedStr (v1::v2::rest) pos) (nU ts Str.empty):=λfx s a H Q I q=>
 JoinedStr_many (Bb h _ fx s a H Q I q)
end
abbrev drop(H:Hp)(a:Addr):Hp:=λb=>if b=a then none else H b
def zb:drop H a a=none:=by unfold drop;rw[if_pos rfl]
def iZ(h:b≠a):drop H a b=H b:=by unfold drop;rw[if_neg h]
section
variable{X:Cx}{fx:ZE}{σ:St}{H:Hp}{s s':Shared}
variable{M:Model}{A:Around}{E:ZD}{K:ZA}{D:Addr}{C:Addr}{e:Addr}{oe:Obj}{b:Bool}{Q:Bool->Shared->Prop}
variable{pins':ZE}{pn:ZE}
variable{prog:Program}{w:World}
end
abbrev cC(mg:ZC)(x:Str):Addr:=match mg x with
 | some (.ref C)=>C
 | _=>0
def Ds(h:mg x∣.ref C):cC mg x=C:=by unfold cC;rw[h]
section
variable{P:Program}{w:World}{K:ZA}{mg:ZC}{base:Heap}{x qual:Str}{st:Stmt}{N ps:ZB}{k:Nat}{sp:Sp}
variable{X:Cx}{pos:Pos}
def FM(a:QE X e b):QE X (.FormattedValue e (-1) none pos) (FK b):=⟨FL a.h⟩
def El:PJ X [] []:= .nil
def pjE(a:QE X e t)(h:PJ X b ts):PJ X (e::b) (t::ts):= .cons a.h h
def Em{rest:List Expr}(h:PJ X (v1::a::rest) ts):QE X (.JoinedStr (v1::a::rest) pos) (nU ts Str.empty):=⟨Dr h⟩
end
abbrev clo(c:TE):TE:=λd H Q=>∃a:VK,c d H a/\∀v b,a v b->Q v b
def FN{X:Cx}(h:PE X e b):PE X e (clo b):=λfx s c H Q I ⟨d,q,k⟩=>
 thP (h fx s c H d I q) λ_ _ v a f r z=>%[v,a,f,r|k v a z]
def FO{X:Cx}(h:PE X e t)(k:∀a H Q,t' a H Q->t a H Q):PE X e t':=λfx s a H Q I q=>h fx s a H Q I (k a H Q q)
def Bc(h:H r=none):drop (Ja H r o) r=H:=by
 funext b;unfold drop Ja
 simp_all
section
end
end _LL
namespace _SB
open PySem PyProof.Rows
section
variable(prog:Program)(w:World)(A:Around)(SI:Shared->Prop)
abbrev SC{a:Type}(m:StateT SortSt Sem a)(Q:a->SortSt->Prop)(st:SortSt):Prop:=
 ∀s,SI s->↥A (m.run st) (λr s'=>SI s'/\Q r.1 r.2) (λ_ _=>False) s
nonrec abbrev ZY:=Array Keyed
abbrev Cmp(a:SortKind)(D:Keyed->Prop):Prop:=
 ∀x y s,D x->D y->SI s->↥A (keyLt' a x.1 y.1) (λ_ s'=>SI s') (λ_ _=>False) s
end
section
variable{prog:Program}{w:World}{A:Around}{SI:Shared->Prop}{α β:Type}
def au{st:SortSt}(h:Q a st):(SC prog w A SI) (pure a) Q st:=λs b=>by
 exact Z3 %[b|h]
def aq{st:SortSt}(h:(SC prog w A SI) m (λa b=>(SC prog w A SI) (f a) Q b) st):(SC prog w A SI) (m>>= f) Q st:=λs d=>by
 exact Z2 (wpAny_mono (h s d) (λr s' c=>c.2 s' c.1) λ_ _ e=>e)
def bZ{st:SortSt}(h:(SC prog w A SI) m Q st)(d:∀a b,Q a b->f a b):(SC prog w A SI) m f st:=λs g=>
 wpAny_mono (h s g) (λr s' c=>%[c.1|d _ _ c.2]) λ_ _ e=>e
def fE{st:SortSt}(h:Q st st):(SC prog w A SI) get Q st:=λs a=>by
 exact Z3 %[a|h]
def cz{st:SortSt}(h:Q ⟨⟩ (f st)):(SC prog w A SI) (modify f) Q st:=λs a=>by
 exact Z3 %[a|h]
def FP{st:SortSt}(h:Q ⟨⟩ x):(SC prog w A SI) (set x) Q st:=λs a=>by
 exact Z3 %[a|h]
def xA{st:SortSt}(h:∀s,SI s->↥A m (λa s'=>SI s'/\Q a st) (λ_ _=>False) s):(SC prog w A SI) (liftM m:StateT SortSt Sem α) Q st:=λs b=>by
 exact Z2 (wpAny_mono (h s b) (λa s' c=>Z3 c) λ_ _ e=>e)
def i5{st:SortSt}(h:Q () st):(SC prog w A SI) (liftM (rule t):StateT SortSt Sem Unit) Q st:=xA λs a=>wpAny_rule %[a|h]
def bL{st:SortSt}(I:Nat->β->SortSt->Prop)(l:a<=b)(q:I a c st)
 (m:∀i x st,a<=i->i<b->I i x st->(SC prog w A SI) (f i x) (λr g=>match r with| .done y=>Q y g| .yield y=>I (i+1) y g) st) (n:∀x st,I b x st->Q x st):(SC prog w A SI) (forIn [a:b] c f) Q st:=by
 let s:∀d i x st,i+d=b->a<=i->I i x st->(SC prog w A SI) (forIn (List.range' i d 1) x f) Q st:=by
  intro d
  induction d with
  | zero=>
    intro i x st e _ h;subst e;exact au (n x st h)
  | succ d o=>
    intro i x st e p h;rw[List.range'_succ,forIn_cons];show aq (bZ (m i x st p ⋯ h) λr g j=>?_);cases r with
    | done y=>exact au j
    | yield y=>exact o _ y g ⋯ ⋯ j
 simp_all
def bj{st:SortSt}(a:xs[i]?∣x)(h:Q x st):(SC prog w A SI) (elem' xs i) Q st:=by
 rw[elem'_eq,a];exact au h
def uA{st:SortSt}(c:Cmp prog w A SI (kindOf st) D)(d:D x)(f:D y)(h:∀b,Q (some b) st):(SC prog w A SI) (lt' x y) Q st:=
 aq (fE (aq (xA (λs g=>wpAny_attempt (wpAny_mono (c x y s d f g) (λb s' a=>%[a|au (h b)]) λ_ _ e=>e.elim)))))
def Dt{st:SortSt}(c:Cmp prog w A SI (kindOf st) D)(hi:(arrOf st)[i]?∣x)(a:(arrOf st)[j]?∣y)(d:D x)(e:D y)
 (h:∀b,Q (some b) st):(SC prog w A SI) (ltAt' i j) Q st:=
 aq (fE (aq (bj hi (aq (bj a (uA c d e h))))))
end
abbrev fk:Bool->Keyed->ZY->Nat->Nat->Nat->StateT SortSt Sem (Option Nat):=sortPriv% PySem.Builtin.gallop
section
variable{prog:Program}{w:World}{A:Around}{SI:Shared->Prop}{α β:Type}
abbrev ga0(left:Bool)(a:Keyed)(b:ZY)(base i:Nat):StateT SortSt Sem (Option Bool):=do
 let x<-elem' b (base+i)
 if left=true then lt' x a else do
  let y<-lt' a x
  pure (y.map (!·))
abbrev gaM(f:Nat->StateT SortSt Sem (Option Bool))(x:Option (Option Nat)×Nat×Nat):StateT SortSt Sem (ForInStep (Option (Option Nat)×Nat×Nat)):=
 if x.2.1>=x.2.2 then pure (.done (none,x.2.1,x.2.2))else do
  match<-f (x.2.1+(x.2.2-x.2.1)/2)with
  | some w=>if w=true then pure (.yield (none,x.2.1+(x.2.2-x.2.1)/2+1,x.2.2))else pure (.yield (none,x.2.1,x.2.1+(x.2.2-x.2.1)/2))
  | _=>pure (.done (some none,x.2.1,x.2.2))
abbrev ga3(f:Nat->StateT SortSt Sem (Option Bool))(n lo hi:Nat):StateT SortSt Sem (Option Nat):=do
 let x<-forIn [0:n] (none,lo,hi) λ_ x=>gaM f x
 match x.1 with
 | some r=>pure r
 | none=>pure (some x.2.2)
abbrev ga1(f:Nat->StateT SortSt Sem (Option Bool))(n a:Nat)(x:Option (Option Nat)×Nat×Nat):StateT SortSt Sem (ForInStep (Option (Option Nat)×Nat×Nat)):=
 if x.2.2>=n-a then pure (.done (none,x.2.1,x.2.2))else do
  match<-f (a+x.2.2)with
  | some w=>if(!w)=true then pure (.done (none,x.2.1,x.2.2))else pure (.yield (none,x.2.2,2*x.2.2+1))
  | _=>pure (.done (some none,x.2.1,x.2.2))
abbrev ga2(f:Nat->StateT SortSt Sem (Option Bool))(a:Nat)(x:Option (Option Nat)×Nat×Nat):StateT SortSt Sem (ForInStep (Option (Option Nat)×Nat×Nat)):=
 if x.2.2>=a+1 then pure (.done (none,x.2.1,x.2.2))else do
  match<-f (a-x.2.2)with
  | some w=>if w=true then pure (.done (none,x.2.1,x.2.2))else pure (.yield (none,x.2.2,2*x.2.2+1))
  | _=>pure (.done (some none,x.2.1,x.2.2))
set_option smartUnfolding false in
def Hf(left:Bool)(b:Keyed)(c:ZY)(base n a:Nat):fk left b c base n a=(do
 match<-ga0 left b c base a with
 | some w=>
   if w=true then(do
    let x<-forIn [0:n] (none,0,1) λ_ x=>ga1 (ga0 left b c base) n a x
    match x.1 with
    | some r=>pure r
    | none=>ga3 (ga0 left b c base) n (a+x.2.1+1) (a+min x.2.2 (n-a)))
   else(do
    let x<-forIn [0:n] (none,0,1) λ_ x=>ga2 (ga0 left b c base) a x
    match x.1 with
    | some r=>pure r
    | none=>ga3 (ga0 left b c base) n (a+1-min x.2.2 (a+1)) (a-x.2.1))
 | _=>pure none):=rfl
def wC{f:Option (Option Nat)×Nat×Nat->StateT SortSt Sem (ForInStep (Option (Option Nat)×Nat×Nat))}{g:Option (Option Nat)×Nat×Nat->StateT SortSt Sem (Option Nat)}{n l h:Nat}{Q:Option Nat->SortSt->Prop}{st:SortSt}(P:Nat->Prop)(b:P h)
 (c:∀l h (R:ForInStep _->SortSt->Prop),P h->(∀l h,P h->R (.done (none,l,h)) st/\R (.yield (none,l,h)) st)->(SC prog w A SI) (f (none,l,h)) R st) (d:∀l h,P h->(SC prog w A SI) (g (none,l,h)) Q st):
 (SC prog w A SI) (do let x<-forIn [0:n] (none,l,h) λ_ x=>f x;g x) Q st:=by
 show aq (bZ (bL (Q:=λx a=>a=st/\∃l h,x=(none,l,h)/\P h) (λ_ x a=>a=st/\∃l h,x=(none,l,h)/\P h) (Xa _) %[rfl,_,_,rfl|b] ?_ λ_ _ h=>h) ?_)
 .intro _ _ _ _ _ %[rfl,l,h,rfl|p];exact c l h _ p λl h p=>%[%[rfl,_,_,rfl|p],rfl,_,_,rfl|p]
 .intro _ _ %[rfl,l,h,rfl|p];exact d l h p
def eC{D:Keyed->Prop}{left:Bool}{d:Keyed}{e:ZY}{base n a:Nat}{Q:Option Nat->SortSt->Prop}{st:SortSt}(c:Cmp prog w A SI (kindOf st) D)(g:D d)
 (p:∀i,i<n->∃x,e[base+i]?∣x/\D x) (q:a<n) (h:∀k,k<=n->Q (some k) st):(SC prog w A SI) (fk left d e base n a) Q st:=by
 let ask:∀(i:Nat) (R:Option Bool->SortSt->Prop),i<n->(∀b,R (some b) st)->(SC prog w A SI) (ga0 left d e base i) R st:=λi R hi j=>by
  let%[x,r|m]:=p i hi;show aq (bj r ?_);cases left
  .exact aq (uA c g m λ_=>au (j _))
  .exact uA c m g j
 let g3:∀l o,o<=n->(SC prog w A SI) (ga3 (ga0 left d e base) n l o) Q st:=λl o f=>by
  show wC (·<=n) f (λl o R f k=>?_) λl o f=>au (h o f)
  unfold gaM;dsimp only
  split
  .exact au (k _ _ f).1
  .show aq (ask _ _ ⋯ λb=>?_);cases b
   .exact au (k _ _ ⋯).2
   .exact au (k _ _ f).2
 rw[Hf];show aq (ask a _ q λb=>?_);cases b
 .show wC (λ_=>True) ⟨⟩ (λl o R _ k=>?_) λl o _=>g3 _ _ ⋯
  unfold ga2;dsimp only
  split
  .exact au (k _ _ ⟨⟩).1
  .show aq (ask _ _ ⋯ λb=>?_);cases b
   .exact au (k _ _ ⟨⟩).2
   .exact au (k _ _ ⟨⟩).1
 .show wC (λ_=>True) ⟨⟩ (λl o R _ k=>?_) λl o _=>g3 _ _ ⋯
  unfold ga1;dsimp only
  split
  .exact au (k _ _ ⟨⟩).1
  .show aq (ask _ _ ⋯ λb=>?_);cases b
   .exact au (k _ _ ⟨⟩).1
   .exact au (k _ _ ⟨⟩).2
end
abbrev nV:ZY->ZY->StateT SortSt Sem ZY:=sortPriv% PySem.Builtin.mergeLo
abbrev nW:ZY->ZY->StateT SortSt Sem ZY:=sortPriv% PySem.Builtin.mergeHi
abbrev cX:Nat->StateT SortSt Sem Unit:=sortPriv% PySem.Builtin.setMinGallop
def fO(g:Nat):cX g=modify (λs=>SortSt.mk' (kindOf s) (arrOf s) (pendingOf s) g (failedOf s)):=rfl
abbrev du(a b r:ZY):Prop:=r.toList.Perm (a.toList++b.toList)
abbrev MI(a b out:ZY)(c d:Nat):Prop:=(out.toList++(a.toList.drop c++b.toList.drop d)).Perm (a.toList++b.toList)
def eO(a:ZY)(i j:Nat):(a.extract i j).toList=(a.toList.drop i).take (j-i):=by
 simp
def ng(a:ZY)(i:Nat):(a.extract i a.size).toList=a.toList.drop i:=by
 rw[eO,Zn]
 simp_all
def nh(a:ZY)(i k:Nat):(a.extract i (i+k)).toList=(a.toList.drop i).take k:=by
 simp
def MI.takeA{a b out:ZY}{c d:Nat}(h:MI a b out c d)(k:Nat):MI a b (out++a.extract c (c+k)) (c+k) d:=by
 unfold MI at h ⊢;rw[X9,nh,Ze,<-Ze _ (a.toList.drop _),<-drop_drop,X7];exact h
def MI.takeB{a b out:ZY}{d c:Nat}(h:MI a b out d c)(k:Nat):MI a b (out++b.extract c (c+k)) d (c+k):=by
 unfold MI at h ⊢;show List.Perm.trans ?_ h;rw[X9,nh,Ze];show List.Perm.append_left _ ?_;show(List.perm_append_comm_assoc _ _ _).trans ?_;rw[<-drop_drop,X7]
def gG{a:ZY}{i:Nat}(h:i<a.size)(out:ZY):out++a.extract i (i+1)=out.push a[i]:=by
 apply Array.ext';rw[X9,nh,toList_push,List.drop_eq_getElem_cons ↑h];rfl
def MI.done{a b out:ZY}{c d:Nat}(h:MI a b out c d):du a b (out++a.extract c a.size++b.extract d b.size):=by
 unfold du;rw[X9,X9,ng,ng,Ze];exact h
def MI.last{a b out:ZY}{c d:Nat}(h:MI a b out c d):du a b (out++b.extract d b.size++a.extract c a.size):=by
 unfold du;rw[X9,X9,ng,ng,Ze];exact(List.Perm.append_left _ List.perm_append_comm).trans h
abbrev SG(st a:SortSt):Prop:=kindOf a=kindOf st/\arrOf a=arrOf st/\pendingOf a=pendingOf st/\failedOf a=failedOf st
def SG.refl(st:SortSt):SG st st:=%[rfl,rfl,rfl|rfl]
def SG.set{st a:SortSt}(h:SG st a)(g:Nat):SG st (SortSt.mk' (kindOf a) (arrOf a) (pendingOf a) g (failedOf a)):=h
def SG.trans{s t u:SortSt}(h:SG s t)(k:SG t u):SG s u:=%[k.1.trans h.1,k.2.1.trans h.2.1,k.2.2.1.trans h.2.2.1|k.2.2.2.trans h.2.2.2]
structure LC (prog:Program) (w:World) (A:Around) (SI:Shared->Prop) (D:Keyed->Prop) (a b:ZY) (st:SortSt):Prop where
 c:Cmp prog w A SI (kindOf st) D
 DA:∀{i:Nat} (hi:i<a.size),a[i]?∣a[i]/\D a[i]
 DB:∀{i:Nat} (hi:i<b.size),b[i]?∣b[i]/\D b[i]
def LC.of{prog:Program}{w:World}{A:Around}{d:Shared->Prop}{D:Keyed->Prop}{a b:ZY}{s t:SortSt}(C:LC prog w A d D a b s)(h:SG s t):LC prog w A d D a b t:={C with c:=h.1▸C.c}
section
variable{prog:Program}{w:World}{A:Around}{SI:Shared->Prop}{α β:Type}
structure ML (a b out:ZY) (ia ib:Nat):Prop where
 mi:MI a b out ia ib
 na:ia+1<a.size
 nb:ib<b.size
abbrev lo3(a b out:ZY)(c d g k k1:Nat):StateT SortSt Sem (ForInStep (Option ZY×ZY×Nat×Nat×Nat×Nat×Nat)):=elem' a c>>= λe=>if(c+1+1==a.size)=true then pure (.done (some (out.push e++b.extract d b.size++a.extract (c+1) a.size),out.push e,c+1,d,g,k,k1))else if(decide (k<7)&&decide (k1<7))=true then pure (.done (none,out.push e,c+1,d,g,k,k1))else pure (.yield (none,out.push e,c+1,d,g,k,k1))
abbrev lo2(a b out:ZY)(d c g k f:Nat):StateT SortSt Sem (ForInStep (Option ZY×ZY×Nat×Nat×Nat×Nat×Nat)):=elem' b c>>= λe=>if(c+1==b.size)=true then pure (.done (some (out.push e++a.extract d a.size++b.extract (c+1) b.size),out.push e,d,c+1,g,k,f))else elem' a d>>= λh=>fk true h b (c+1) (b.size-(c+1)) 0>>= fun|some k1=>if k1>0 then if(c+1+k1==b.size)=true then pure (.done (some (out.push e++b.extract (c+1) (c+1+k1) ++a.extract d a.size++b.extract (c+1+k1) b.size),out.push e++b.extract (c+1) (c+1+k1),d,c+1+k1,g,k,k1))else lo3 a b (out.push e++b.extract (c+1) (c+1+k1)) d (c+1+k1) g k k1 else lo3 a b (out.push e) d (c+1) g k k1|_=>pure (.done (some (out.push e++a.extract d a.size++b.extract (c+1) b.size),out.push e,d,c+1,g,k,f))
abbrev lo1(a b out:ZY)(c d h f g:Nat):StateT SortSt Sem (ForInStep (Option ZY×ZY×Nat×Nat×Nat×Nat×Nat)):=cX g>>= λ_=>elem' b d>>= λe=>fk false e a c (a.size-c) 0>>= fun|some k=>if k>0 then if(c+k+1==a.size)=true then pure (.done (some (out++a.extract c (c+k) ++b.extract d b.size++a.extract (c+k) a.size),out++a.extract c (c+k),c+k,d,g,k,f))else if(c+k==a.size)=true then pure (.done (some (out++a.extract c (c+k) ++a.extract (c+k) a.size++b.extract d b.size),out++a.extract c (c+k),c+k,d,g,k,f))else lo2 a b (out++a.extract c (c+k)) (c+k) d g k f else lo2 a b out c d g k f|_=>pure (.done (some (out++a.extract c a.size++b.extract d b.size),out,c,d,g,h,f))
abbrev loI(a b out:ZY)(c d g f h:Nat):StateT SortSt Sem (ForInStep (Option ZY×ZY×Nat×Nat×Nat×Nat)):=elem' b d>>= λi=>elem' a c>>= λj=>lt' i j>>= fun|some w=>if w=true then(elem' b d>>= λe=>if(d+1==b.size)=true then pure (.done (some (out.push e++a.extract c a.size++b.extract (d+1) b.size),out.push e,c,d+1,0,h+1))else if h+1>=g then pure (.done (none,out.push e,c,d+1,0,h+1))else pure (.yield (none,out.push e,c,d+1,0,h+1)))else(elem' a c>>= λe=>if(c+1+1==a.size)=true then pure (.done (some (out.push e++b.extract d b.size++a.extract (c+1) a.size),out.push e,c+1,d,f+1,0))else if f+1>=g then pure (.done (none,out.push e,c+1,d,f+1,0))else pure (.yield (none,out.push e,c+1,d,f+1,0)))|_=>pure (.done (some (out++a.extract c a.size++b.extract d b.size),out,c,d,f,h))
abbrev loG(a b:ZY):Option ZY×ZY×Nat×Nat×Nat×Nat×Nat->StateT SortSt Sem (ForInStep (Option ZY×ZY×Nat×Nat×Nat×Nat×Nat)):=λx=>
 if x.2.2.2.2.1>1 then lo1 a b x.2.1 x.2.2.1 x.2.2.2.1 x.2.2.2.2.2.1 x.2.2.2.2.2.2 (x.2.2.2.2.1-1)else lo1 a b x.2.1 x.2.2.1 x.2.2.2.1 x.2.2.2.2.2.1 x.2.2.2.2.2.2 x.2.2.2.2.1
abbrev loE(x:Option ZY×ZY×Nat×Nat×Nat×Nat×Nat):StateT SortSt Sem (ForInStep (Option ZY×ZY×Nat×Nat×Nat)):=
 match x.1 with
 | some r=>pure (.done (some r,x.2.1,x.2.2.1,x.2.2.2.1,x.2.2.2.2.1))
 | none=>do
   cX (x.2.2.2.2.1+1)
   pure (.yield (none,x.2.1,x.2.2.1,x.2.2.2.1,x.2.2.2.2.1+1))
abbrev loF(a b:ZY)(g:Nat)(x:Option ZY×ZY×Nat×Nat×Nat×Nat):StateT SortSt Sem (ForInStep (Option ZY×ZY×Nat×Nat×Nat)):=
 match x.1 with
 | some r=>pure (.done (some r,x.2.1,x.2.2.1,x.2.2.2.1,g))
 | none=>do
   rule "list.sort.gallop"
   let x<-forIn [0:a.size+b.size] (none,x.2.1,x.2.2.1,x.2.2.2.1,g+1,x.2.2.2.2.1,x.2.2.2.2.2) λ_ x=>loG a b x
   loE x
abbrev loO(a b:ZY):Option ZY×ZY×Nat×Nat×Nat->StateT SortSt Sem (ForInStep (Option ZY×ZY×Nat×Nat×Nat)):=λx=>do
 let y<-forIn [0:a.size+b.size] (none,x.2.1,x.2.2.1,x.2.2.2.1,0,0) λ_ y=>loI a b y.2.1 y.2.2.1 y.2.2.2.1 x.2.2.2.2 y.2.2.2.2.1 y.2.2.2.2.2
 loF a b x.2.2.2.2 y
abbrev loR(x:Option ZY×ZY×Nat×Nat×Nat):StateT SortSt Sem ZY:=
 match x.1 with
 | some r=>pure r
 | none=>unsupported "internal:list.sort.merge-bound"
set_option smartUnfolding false in
def Hg(a b:ZY):nV a b=(do
 rule "list.sort.merge-lo"
 let e<-elem' b 0
 if(1==b.size)=true then pure (#[e] ++a.extract 0 a.size++b.extract 1 b.size)
 else if(0+1==a.size)=true then pure (#[e] ++b.extract 1 b.size++a.extract 0 a.size)
 else do
  let s<-get
  let x<-forIn [0:a.size+b.size] (none,#[e],0,1,gallopOf s) λ_ x=>loO a b x
  loR x):=by
 rfl
variable{D:Keyed->Prop}{a b out:ZY}{ia ib g k bc z:Nat}{st:SortSt}
def aO{m n:Nat}(h: ¬(m==n)=true):m≠n:=λe=>h (by simp[e])
def Bd{k1:Nat}{R:ForInStep _->SortSt->Prop}(C:LC prog w A SI D a b st)(m:ML a b out ia ib)(d:z<=out.size+1)
 (e:∀r o,du a b r->R (.done (some r,o)) st) (f:∀out ia ib g k k1,ML a b out ia ib->z<=out.size->R (.done (none,out,ia,ib,g,k,k1)) st/\R (.yield (none,out,ia,ib,g,k,k1)) st):(SC prog w A SI) (lo3 a b out ia ib g k k1) R st:=by
 let na:=m.na;show aq (bj (C.DA ⋯).1 ?_);let c:=m.mi.takeA 1;rw[gG ⋯]at c
 split
 .exact au (e _ _ c.last)
 .rename_i q
  let q:=aO q;let h:=f _ _ _ g k k1 %[c,⋯|m.nb] (by rw[Xe];exact d)
  split
  .exact au h.1
  .exact au h.2
def Be{R:ForInStep (Option ZY×ZY×Nat×Nat×Nat×Nat×Nat)->SortSt->Prop}(C:LC prog w A SI D a b st)(m:ML a b out ia ib)(p:z<=out.size+2)
 (c:∀r o,du a b r->R (.done (some r,o)) st) (e:∀out ia ib g k k1,ML a b out ia ib->z<=out.size->R (.done (none,out,ia,ib,g,k,k1)) st/\R (.yield (none,out,ia,ib,g,k,k1)) st):(SC prog w A SI) (lo2 a b out ia ib g k bc) R st:=by
 let%[l,na|nb]:=m;show aq (bj (C.DB nb).1 ?_);let d:=l.takeB 1;rw[gG nb]at d
 split
 .exact au (c _ _ d.done)
 .rename_i q
  let q:=aO q;let f:=C.DA (show ia<_ by lia);show aq (bj f.1 (aq (eC C.c f.2 (λi hi=>%[_|C.DB ⋯]) ⋯ λk2 n=>?_)));dsimp only
  split
  .let h:=d.takeB k2
   split
   .exact au (c _ _ h.done)
   .rename_i j
    let j:=aO j;exact Bd C %[h,na|⋯] (by simp;lia) c e
  .exact Bd C %[d,na|⋯] (by rw[Xe];lia) c e
def FQ{l:Nat}{R:ForInStep (Option ZY×ZY×Nat×Nat×Nat×Nat×Nat)->SortSt->Prop}(C:LC prog w A SI D a b st)(m:ML a b out ia ib)(n:z<=out.size+2)
 (d:∀c r o,SG st c->du a b r->R (.done (some r,o)) c) (e:∀c out ia ib g k k1,SG st c->ML a b out ia ib->z<=out.size->R (.done (none,out,ia,ib,g,k,k1)) c/\R (.yield (none,out,ia,ib,g,k,k1)) c):(SC prog w A SI) (lo1 a b out ia ib l bc g) R st:=by
 let na:=m.na;let f:=C.DB m.nb;unfold lo1;rw[fO];show aq (cz ?_);let sg:=(SG.refl st).set g;let d:=λr o=>d _ r o sg
 let e:=λout ia ib g k k1=>e _ out ia ib g k k1 sg
 let C:=C.of sg;show aq (bj f.1 (aq (eC C.c f.2 (λi hi=>%[_|C.DA ⋯]) ⋯ λk p=>?_)));dsimp only
 split
 .let mk:=m.mi.takeA k
  split
  .exact au (d _ _ mk.last)
  .rename_i h
   let h:=aO h
   split
   .exact au (d _ _ mk.done)
   .rename_i j
    let j:=aO j;exact Be C %[mk,⋯|m.nb] (by simp;lia) d e
 .exact Be C m n d e
def FR{c:Nat}{R:ForInStep (Option ZY×ZY×Nat×Nat×Nat×Nat)->SortSt->Prop}(C:LC prog w A SI D a b st)(m:ML a b out ia ib)(f:z<=out.size+1)
 (i:∀r o,du a b r->R (.done (some r,o)) st) (j:∀out ia ib c bc,ML a b out ia ib->z<=out.size->R (.done (none,out,ia,ib,c,bc)) st/\R (.yield (none,out,ia,ib,c,bc)) st):(SC prog w A SI) (loI a b out ia ib g c bc) R st:=by
 let%[l,na|nb]:=m;let d:=C.DA (show ia<_ by lia);let e:=C.DB nb;show aq (bj e.1 (aq (bj d.1 (aq (uA C.c e.2 d.2 λ_=>?_)))));dsimp only
 split
 .show aq (bj e.1 ?_);let m2:=l.takeB 1;rw[gG nb]at m2
  split
  .exact au (i _ _ m2.done)
  .rename_i q
   let q:=aO q;let h:=j _ _ _ 0 (bc+1) %[m2,na|⋯] (by rw[Xe];exact f)
   split
   .exact au h.1
   .exact au h.2
 .show aq (bj d.1 ?_);let m2:=l.takeA 1;rw[gG ⋯]at m2
  split
  .exact au (i _ _ m2.last)
  .rename_i q
   let q:=aO q;let h:=j _ _ _ (c+1) 0 %[m2,⋯|nb] (by rw[Xe];exact f)
   split
   .exact au h.1
   .exact au h.2
def FS{j:Nat}{q:Option ZY}{R:ForInStep (Option ZY×ZY×Nat×Nat×Nat)->SortSt->Prop}(C:LC prog w A SI D a b st)(m:ML a b out ia ib)(e:j+1<=out.size)
 (p:∀d r o,SG st d->du a b r->R (.done (some r,o)) d) (s:∀d out ia ib g,SG st d->ML a b out ia ib->j+2<=out.size->R (.yield (none,out,ia,ib,g)) d):(SC prog w A SI) (loO a b (q,out,ia,ib,g)) R st:=by
 let t:=m.na;show aq (bZ (bL (Q:=λx d=>SG st d/\((∃r o,x=(some r,o)/\du a b r)\/∃out ia ib f bc,x=(none,out,ia,ib,f,bc)/\ML a b out ia ib/\j+2<=out.size))
  (λj2 x d=>SG st d/\∃out ia ib f bc,x=(none,out,ia,ib,f,bc)/\ML a b out ia ib/\j+1+j2<=out.size) (Xa _) %[SG.refl _,_,_,_,_,_,rfl,m|e] ?_ ?_) ?_)
 .intro j2 x i _ l %[c,out,ia,ib,f,bc,rfl,m|e];exact FR (C.of c) m ⋯ (λr o h=>%[c|.inl %[r,o,rfl|h]]) λout ia ib f bc h z=>%[%[c|.inr %[_,_,_,_,_,rfl,h|⋯]],c,_,_,_,_,_,rfl,h|z]
 .intro x i %[c,out,ia,ib,f,bc,rfl,m|e];exact%[c|.inr %[_,_,_,_,_,ρ,m|⋯]]
 .rintro x i ⟨c,⟨r,o,rfl,n⟩|⟨out,ia,ib,f,bc,rfl,m,e⟩⟩
  .exact au (p _ r _ c n)
  .show aq (i5 ?_);show aq (bZ (bL (Q:=λx d=>SG st d/\((∃r o,x=(some r,o)/\du a b r)\/∃out ia ib g f bc,x=(none,out,ia,ib,g,f,bc)/\ML a b out ia ib/\j+2<=out.size))
    (λj2 x d=>SG st d/\∃out ia ib g f bc,x=(none,out,ia,ib,g,f,bc)/\ML a b out ia ib/\j+2<=out.size) (Xa _) %[c,_,_,_,_,_,_,rfl,m|e] ?_ ?_) ?_)
   .intro j2 x i _ l %[c,out,ia,ib,g,f,bc,rfl,m|e];unfold loG;rw[<-apply_ite _];exact FQ (C.of c) m ⋯ (λd r o sg h=>%[SG.trans c sg|.inl %[r,o,rfl|h]]) λd out ia ib g k k1 sg h z=>%[%[SG.trans c sg|.inr %[_,_,_,_,_,_,rfl,h|z]],SG.trans c sg,_,_,_,_,_,_,rfl,h|z]
   .simp_all
   .rintro x i ⟨c,⟨r,o,rfl,n⟩|⟨out,ia,ib,g,f,bc,rfl,m,e⟩⟩
    .exact au (p _ r _ c n)
    .exact aq (cz (au (s _ _ _ _ _ (c.set _) m e)))
def wD{Q:ZY->SortSt->Prop}(C:LC prog w A SI D a b st)(u:1<=a.size)(l:1<=b.size)(h:∀r c,SG st c->du a b r->Q r c):(SC prog w A SI) (nV a b) Q st:=by
 rw[Hg];show aq (i5 (aq (bj (C.DB l).1 ?_)));let i:=(show MI a b #[] 0 0 from List.Perm.refl _).takeB 1;rw[gG l]at i
 split
 .exact au (h _ st (SG.refl _) i.done)
 rename_i n
 let n:=aO n
 split
 .exact au (h _ st (SG.refl _) i.last)
 rename_i p
 let p:=aO p;show aq (fE ?_);show aq (bZ (bL (Q:=λx c=>SG st c/\∃r,x.1∣r/\du a b r)
  (λj x c=>SG st c/\∃out ia ib g,x=(none,out,ia,ib,g)/\ML a b out ia ib/\j+1<=out.size) (Xa _) %[SG.refl _,_,_,_,_,rfl,%[i,⋯|⋯]|Zi _] ?_ ?_) ?_)
 .intro j x d _ v %[sg,out,ia,ib,g,rfl,m|f];exact FS (C.of sg) m f (λc r o e h=>%[SG.trans sg e,r,rfl|h]) λc out ia ib g e h z=>%[SG.trans sg e,_,_,_,_,rfl,h|z]
 .intro x d %[sg,out,ia,ib,g,rfl,m|f];let:=m.na;let q:=m.mi.length_eq;simp only[Z9,Zb,Yd]at q
  lia
 .rintro⟨y,x2⟩ d ⟨sg,r,s,t⟩;subst s;exact au (h r d sg t)
end
abbrev MH(a b out:ZY)(na nb:Nat):Prop:=(b.toList.take nb++(a.toList.take na++out.reverse.toList)).Perm (a.toList++b.toList)
def xB(a out:ZY){k n:Nat}(h:k<=n):a.toList.take k++(out++(a.extract k n).reverse).reverse.toList=a.toList.take n++out.reverse.toList:=by
 rw[Array.reverse_append,Array.reverse_reverse,X9,eO,<-Ze,<-List.take_add,Nat.add_sub_cancel' h]
def MH.takeA{a b out:ZY}{na nb k:Nat}(h:MH a b out na nb)(c:k<=na):MH a b (out++(a.extract k na).reverse) k nb:=by
 unfold MH;rw[xB _ _ c];exact h
def MH.takeB{a b out:ZY}{na nb k:Nat}(h:MH a b out na nb)(c:k<=nb):MH a b (out++(b.extract k nb).reverse) na k:=by
 show(List.perm_append_comm_assoc _ _ _).trans ?_;rw[xB _ _ c];exact(List.perm_append_comm_assoc _ _ _).trans h
def iI{a:ZY}{i:Nat}(h:i<a.size)(out:ZY):out++(a.extract i (i+1)).reverse=out.push a[i]:=by
 rw[<-gG h,<-Array.empty_append (xs:=a.extract i (i+1)),gG h];rfl
def MH.first{a b out:ZY}{na nb:Nat}(h:MH a b out na nb):du a b (b.extract 0 nb++a.extract 0 na++out.reverse):=by
 unfold du;rw[X9,X9,eO,eO,Ze];exact h
def MH.done{a b out:ZY}{na nb:Nat}(h:MH a b out na nb):du a b (a.extract 0 na++b.extract 0 nb++out.reverse):=by
 unfold du;rw[X9,X9,eO,eO,Ze];exact(List.perm_append_comm_assoc _ _ _).trans h
section
variable{prog:Program}{w:World}{A:Around}{SI:Shared->Prop}{α β:Type}
structure MHS (a b out:ZY) (na nb:Nat):Prop where
 mh:MH a b out na nb
 pa:1<=na
 pb:2<=nb
 ma:na<=a.size
 mb:nb<=b.size
abbrev hi3(a b:ZY)(na nb:Nat)(out:ZY)(g k k1:Nat):StateT SortSt Sem (ForInStep (Option ZY×Nat×Nat×ZY×Nat×Nat×Nat)):=elem' a (na-1)>>= λe=>if(na-1==0)=true then pure (.done (some (a.extract 0 (na-1) ++b.extract 0 nb++(out.push e).reverse),na-1,nb,out.push e,g,k,k1))else if(decide (k<7)&&decide (k1<7))=true then pure (.done (none,na-1,nb,out.push e,g,k,k1))else pure (.yield (none,na-1,nb,out.push e,g,k,k1))
abbrev hi2(a b:ZY)(na nb:Nat)(out:ZY)(g k c:Nat):StateT SortSt Sem (ForInStep (Option ZY×Nat×Nat×ZY×Nat×Nat×Nat)):=elem' b (nb-1)>>= λe=>if(nb-1==1)=true then pure (.done (some (b.extract 0 (nb-1) ++a.extract 0 na++(out.push e).reverse),na,nb-1,out.push e,g,k,c))else elem' a (na-1)>>= λd=>fk true d b 0 (nb-1) (nb-1-1)>>= fun|some k1=>if nb-1-k1>0 then if(k1==1)=true then pure (.done (some (b.extract 0 k1++a.extract 0 na++(out.push e++(b.extract k1 (nb-1)).reverse).reverse),na,k1,out.push e++(b.extract k1 (nb-1)).reverse,g,k,nb-1-k1))else if(k1==0)=true then pure (.done (some (a.extract 0 na++b.extract 0 k1++(out.push e++(b.extract k1 (nb-1)).reverse).reverse),na,k1,out.push e++(b.extract k1 (nb-1)).reverse,g,k,nb-1-k1))else hi3 a b na k1 (out.push e++(b.extract k1 (nb-1)).reverse) g k (nb-1-k1)else hi3 a b na (nb-1) (out.push e) g k (nb-1-k1)|_=>pure (.done (some (a.extract 0 na++b.extract 0 (nb-1) ++(out.push e).reverse),na,nb-1,out.push e,g,k,c))
abbrev hi1(a b:ZY)(na nb:Nat)(out:ZY)(d c g:Nat):StateT SortSt Sem (ForInStep (Option ZY×Nat×Nat×ZY×Nat×Nat×Nat)):=cX g>>= λ_=>elem' b (nb-1)>>= λe=>fk false e a 0 na (na-1)>>= fun|some k=>if na-k>0 then if(k==0)=true then pure (.done (some (a.extract 0 k++b.extract 0 nb++(out++(a.extract k na).reverse).reverse),k,nb,out++(a.extract k na).reverse,g,na-k,c))else hi2 a b k nb (out++(a.extract k na).reverse) g (na-k) c else hi2 a b na nb out g (na-k) c|_=>pure (.done (some (a.extract 0 na++b.extract 0 nb++out.reverse),na,nb,out,g,d,c))
abbrev hiI(a b:ZY)(na nb:Nat)(out:ZY)(g c d:Nat):StateT SortSt Sem (ForInStep (Option ZY×Nat×Nat×ZY×Nat×Nat)):=elem' b (nb-1)>>= λf=>elem' a (na-1)>>= λh=>lt' f h>>= fun|some w=>if w=true then(elem' a (na-1)>>= λe=>if(na-1==0)=true then pure (.done (some (a.extract 0 (na-1) ++b.extract 0 nb++(out.push e).reverse),na-1,nb,out.push e,c+1,0))else if c+1>=g then pure (.done (none,na-1,nb,out.push e,c+1,0))else pure (.yield (none,na-1,nb,out.push e,c+1,0)))else(elem' b (nb-1)>>= λe=>if(nb-1==1)=true then pure (.done (some (b.extract 0 (nb-1) ++a.extract 0 na++(out.push e).reverse),na,nb-1,out.push e,0,d+1))else if d+1>=g then pure (.done (none,na,nb-1,out.push e,0,d+1))else pure (.yield (none,na,nb-1,out.push e,0,d+1)))|_=>pure (.done (some (a.extract 0 na++b.extract 0 nb++out.reverse),na,nb,out,c,d))
abbrev hiG(a b:ZY)(x:Option ZY×Nat×Nat×ZY×Nat×Nat×Nat):StateT SortSt Sem (ForInStep (Option ZY×Nat×Nat×ZY×Nat×Nat×Nat)):=
 if x.2.2.2.2.1>1 then hi1 a b x.2.1 x.2.2.1 x.2.2.2.1 x.2.2.2.2.2.1 x.2.2.2.2.2.2 (x.2.2.2.2.1-1)else hi1 a b x.2.1 x.2.2.1 x.2.2.2.1 x.2.2.2.2.2.1 x.2.2.2.2.2.2 x.2.2.2.2.1
abbrev hiE(x:Option ZY×Nat×Nat×ZY×Nat×Nat×Nat):StateT SortSt Sem (ForInStep (Option ZY×Nat×Nat×ZY×Nat)):=
 match x.1 with
 | some r=>pure (.done (some r,x.2.1,x.2.2.1,x.2.2.2.1,x.2.2.2.2.1))
 | none=>do
   cX (x.2.2.2.2.1+1)
   pure (.yield (none,x.2.1,x.2.2.1,x.2.2.2.1,x.2.2.2.2.1+1))
abbrev hiF(a b:ZY)(g:Nat)(x:Option ZY×Nat×Nat×ZY×Nat×Nat):StateT SortSt Sem (ForInStep (Option ZY×Nat×Nat×ZY×Nat)):=
 match x.1 with
 | some r=>pure (.done (some r,x.2.1,x.2.2.1,x.2.2.2.1,g))
 | none=>do
   rule "list.sort.gallop"
   let x<-forIn [0:a.size+b.size] (none,x.2.1,x.2.2.1,x.2.2.2.1,g+1,x.2.2.2.2.1,x.2.2.2.2.2) λ_ x=>hiG a b x
   hiE x
abbrev hiO(a b:ZY)(x:Option ZY×Nat×Nat×ZY×Nat):StateT SortSt Sem (ForInStep (Option ZY×Nat×Nat×ZY×Nat)):=do
 let y<-forIn [0:a.size+b.size] (none,x.2.1,x.2.2.1,x.2.2.2.1,0,0) λ_ y=>hiI a b y.2.1 y.2.2.1 y.2.2.2.1 x.2.2.2.2 y.2.2.2.2.1 y.2.2.2.2.2
 hiF a b x.2.2.2.2 y
abbrev hiR(x:Option ZY×Nat×Nat×ZY×Nat):StateT SortSt Sem ZY:=
 match x.1 with
 | some r=>pure r
 | none=>unsupported "internal:list.sort.merge-bound"
set_option smartUnfolding false in
def Hh(a b:ZY):nW a b=(do
 rule "list.sort.merge-hi"
 let e<-elem' a (a.size-1)
 if(a.size-1==0)=true then pure (a.extract 0 (a.size-1) ++b.extract 0 b.size++ #[e].reverse)
 else if(b.size==1)=true then pure (b.extract 0 b.size++a.extract 0 (a.size-1) ++ #[e].reverse)
 else do
  let s<-get
  let x<-forIn [0:a.size+b.size] (none,a.size-1,b.size,#[e],gallopOf s) λ_ x=>hiO a b x
  hiR x):=by
 rfl
variable{D:Keyed->Prop}{a b out:ZY}{na nb g k bc z:Nat}{st:SortSt}
def Bf{k1:Nat}{R:ForInStep _->SortSt->Prop}(C:LC prog w A SI D a b st)(m:MHS a b out (na+1) nb)(d:z<=out.size+1)
 (e:∀r o,du a b r->R (.done (some r,o)) st) (f:∀na nb out g k k1,MHS a b out na nb->z<=out.size->R (.done (none,na,nb,out,g,k,k1)) st/\R (.yield (none,na,nb,out,g,k,k1)) st):(SC prog w A SI) (hi3 a b (na+1) nb out g k k1) R st:=by
 let%[j,p,l,s|n]:=m;show aq (bj (C.DA (i:=na) ⋯).1 ?_);let c:=j.takeA (Yc na);rw[iI ⋯]at c
 split
 .exact au (e _ _ c.done)
 rename_i q
 let q:=aO q;let h:=f _ _ _ g k k1 %[c,⋯,l,⋯|n] (by rw[Xe];exact d)
 split
 .exact au h.1
 .exact au h.2
def Bg{R:ForInStep (Option ZY×Nat×Nat×ZY×Nat×Nat×Nat)->SortSt->Prop}(C:LC prog w A SI D a b st)(m:MHS a b out (na+1) (nb+1))(u:z<=out.size+2)
 (c:∀r o,du a b r->R (.done (some r,o)) st) (h:∀na nb out g k k1,MHS a b out na nb->z<=out.size->R (.done (none,na,nb,out,g,k,k1)) st/\R (.yield (none,na,nb,out,g,k,k1)) st):(SC prog w A SI) (hi2 a b (na+1) (nb+1) out g k bc) R st:=by
 let%[t,j,v,l|y]:=m;let n:=C.DA (i:=na) ⋯;unfold hi2;rw[add_sub_cancel,add_sub_cancel];show aq (bj (C.DB (i:=nb) ⋯).1 ?_);let d:=t.takeB (Yc nb);rw[iI ⋯]at d
 split
 .exact au (c _ _ d.first)
 rename_i q
 let q:=aO q;show aq (bj n.1 (aq (eC C.c n.2 (λi hi=>%[_|C.DB ⋯]) ⋯ λk2 e=>?_)));dsimp only;let f:=d.takeB e
 split
 .split
  .exact au (c _ _ f.first)
  rename_i p
  let p:=aO p
  split
  .exact au (c _ _ f.done)
  rename_i s
  let s:=aO s;exact Bf C %[f,j,⋯,l|⋯] (by simp;lia) c h
 .exact Bf C %[d,j,⋯,l|⋯] (by rw[Xe];lia) c h
def FT{p:Nat}{R:ForInStep (Option ZY×Nat×Nat×ZY×Nat×Nat×Nat)->SortSt->Prop}(C:LC prog w A SI D a b st)(m:MHS a b out na nb)(s:z<=out.size+2)
 (d:∀c r o,SG st c->du a b r->R (.done (some r,o)) c) (e:∀c na nb out g k k1,SG st c->MHS a b out na nb->z<=out.size->R (.done (none,na,nb,out,g,k,k1)) c/\R (.yield (none,na,nb,out,g,k,k1)) c):(SC prog w A SI) (hi1 a b na nb out p bc g) R st:=by
 let%[f,t,h,u|j]:=m;obtain⟨nb,rfl⟩:∃n,nb=n+1:=%[nb-1|⋯]
 let l:=C.DB (i:=nb) ⋯;unfold hi1;rw[add_sub_cancel,fO];show aq (cz ?_);let sg:=(SG.refl st).set g;let d:=λr o=>d _ r o sg
 let e:=λna nb out g k k1=>e _ na nb out g k k1 sg
 let C:=C.of sg;show aq (bj l.1 (aq (eC C.c l.2 (λi hi=>%[_|C.DA ⋯]) ⋯ λk v=>?_)));dsimp only
 split
 .let mk:=f.takeA v
  split
  .exact au (d _ _ mk.done)
  rename_i q
  let q:=aO q;obtain⟨k,rfl⟩:∃n,k=n+1:=%[k-1|⋯]
  exact Bg C %[mk,⋯,h,⋯|j] (by simp;lia) d e
 .obtain⟨na,rfl⟩:∃n,na=n+1:=%[na-1|⋯]
  exact Bg C %[f,t,h,u|j] s d e
def FU{c:Nat}{R:ForInStep (Option ZY×Nat×Nat×ZY×Nat×Nat)->SortSt->Prop}(C:LC prog w A SI D a b st)(m:MHS a b out na nb)(f:z<=out.size+1)
 (j:∀r o,du a b r->R (.done (some r,o)) st) (l:∀na nb out c bc,MHS a b out na nb->z<=out.size->R (.done (none,na,nb,out,c,bc)) st/\R (.yield (none,na,nb,out,c,bc)) st):(SC prog w A SI) (hiI a b na nb out g c bc) R st:=by
 let%[p,s,t,u|v]:=m;obtain⟨na,rfl⟩:∃n,na=n+1:=%[na-1|⋯]
 obtain⟨nb,rfl⟩:∃n,nb=n+1:=%[nb-1|⋯]
 let d:=C.DA (i:=na) ⋯;let e:=C.DB (i:=nb) ⋯;unfold hiI;rw[add_sub_cancel,add_sub_cancel];show aq (bj e.1 (aq (bj d.1 (aq (uA C.c e.2 d.2 λ_=>?_)))));dsimp only
 split
 .show aq (bj d.1 ?_);let m2:=p.takeA (Yc na);rw[iI ⋯]at m2
  split
  .exact au (j _ _ m2.done)
  rename_i q
  let q:=aO q;let h:=l _ _ _ (c+1) 0 %[m2,⋯,t,⋯|v] (by rw[Xe];exact f)
  split
  .exact au h.1
  .exact au h.2
 .show aq (bj e.1 ?_);let m2:=p.takeB (Yc nb);rw[iI ⋯]at m2
  split
  .exact au (j _ _ m2.first)
  rename_i q
  let q:=aO q;let h:=l _ _ _ 0 (bc+1) %[m2,s,⋯,u|⋯] (by rw[Xe];exact f)
  split
  .exact au h.1
  .exact au h.2
def FV{j:Nat}{q:Option ZY}{R:ForInStep (Option ZY×Nat×Nat×ZY×Nat)->SortSt->Prop}(C:LC prog w A SI D a b st)(m:MHS a b out na nb)(e:j+1<=out.size)
 (p:∀d r o,SG st d->du a b r->R (.done (some r,o)) d) (s:∀d na nb out g,SG st d->MHS a b out na nb->j+2<=out.size->R (.yield (none,na,nb,out,g)) d):(SC prog w A SI) (hiO a b (q,na,nb,out,g)) R st:=by
 let t:=m.pa;let u:=m.ma;show aq (bZ (bL (Q:=λx d=>SG st d/\((∃r o,x=(some r,o)/\du a b r)\/∃na nb out f bc,x=(none,na,nb,out,f,bc)/\MHS a b out na nb/\j+2<=out.size))
  (λj2 x d=>SG st d/\∃na nb out f bc,x=(none,na,nb,out,f,bc)/\MHS a b out na nb/\j+1+j2<=out.size) (Xa _) %[SG.refl _,_,_,_,_,_,rfl,m|e] ?_ ?_) ?_)
 .intro j2 x i _ l %[c,na,nb,out,f,bc,rfl,m|e];exact FU (C.of c) m ⋯ (λr o h=>%[c|.inl %[r,o,rfl|h]]) λna nb out f bc h z=>%[%[c|.inr %[_,_,_,_,_,rfl,h|⋯]],c,_,_,_,_,_,rfl,h|z]
 .intro x i %[c,na,nb,out,f,bc,rfl,m|e];exact%[c|.inr %[_,_,_,_,_,ρ,m|⋯]]
 .rintro x i ⟨c,⟨r,o,rfl,n⟩|⟨na,nb,out,f,bc,rfl,m,e⟩⟩
  .exact au (p _ r _ c n)
  .show aq (i5 ?_);show aq (bZ (bL (Q:=λx d=>SG st d/\((∃r o,x=(some r,o)/\du a b r)\/∃na nb out g f bc,x=(none,na,nb,out,g,f,bc)/\MHS a b out na nb/\j+2<=out.size))
    (λj2 x d=>SG st d/\∃na nb out g f bc,x=(none,na,nb,out,g,f,bc)/\MHS a b out na nb/\j+2<=out.size) (Xa _) %[c,_,_,_,_,_,_,rfl,m|e] ?_ ?_) ?_)
   .intro j2 x i _ l %[c,na,nb,out,g,f,bc,rfl,m|e];unfold hiG;rw[<-apply_ite _];exact FT (C.of c) m ⋯ (λd r o sg h=>%[SG.trans c sg|.inl %[r,o,rfl|h]]) λd na nb out g k k1 sg h z=>%[%[SG.trans c sg|.inr %[_,_,_,_,_,_,rfl,h|z]],SG.trans c sg,_,_,_,_,_,_,rfl,h|z]
   .simp_all
   .rintro x i ⟨c,⟨r,o,rfl,n⟩|⟨na,nb,out,g,f,bc,rfl,m,e⟩⟩
    .exact au (p _ r _ c n)
    .exact aq (cz (au (s _ _ _ _ _ (c.set _) m e)))
def wE{Q:ZY->SortSt->Prop}(C:LC prog w A SI D a b st)(B:1<=a.size)(E:1<=b.size)(h:∀r c,SG st c->du a b r->Q r c):(SC prog w A SI) (nW a b) Q st:=by
 rw[Hh];obtain⟨f,p⟩:∃f,a.size=f+1:=%[a.size-1|⋯]
 rw[show a.size-1=f by lia];show aq (i5 (aq (bj (C.DA (i:=f) ⋯).1 ?_)));let n:=(show MH a b #[] (f+1) b.size by
  unfold MH;rw[<-p,<-Zb,<-Zb,take_length,take_length];simpa using List.perm_append_comm).takeA (Yc f)
 rw[iI ⋯]at n
 split
 .exact au (h _ st (SG.refl _) n.done)
 rename_i s
 let s:=aO s
 split
 .exact au (h _ st (SG.refl _) n.first)
 rename_i t
 let t:=aO t;show aq (fE ?_);show aq (bZ (bL (Q:=λx c=>SG st c/\∃r,x.1∣r/\du a b r)
  (λj x c=>SG st c/\∃na nb out g,x=(none,na,nb,out,g)/\MHS a b out na nb/\j+1<=out.size) (Xa _) %[SG.refl _,_,_,_,_,rfl,%[n,⋯,⋯,⋯|⋯]|Zi _] ?_ ?_) ?_)
 .intro j x d _ G %[sg,na,nb,out,g,rfl,m|l];exact FV (C.of sg) m l (λc r o e h=>%[SG.trans sg e,r,rfl|h]) λc na nb out g e h z=>%[SG.trans sg e,_,_,_,_,rfl,h|z]
 .intro x d %[sg,na,nb,out,g,rfl,m|l];let%[u,H,I,J|L]:=m;let q:=u.length_eq;simp only[Z9,Yh,Zb,Array.size_reverse]at q
  lia
 .rintro⟨M,x2⟩ d ⟨sg,r,v,y⟩;subst v;exact au (h r d sg y)
end
def uB(i:Nat):mergeAt' i=(do
 let s<-get
 let(some (b,na,c),some (d,nb,_)):=((pendingOf s)[i]?,(pendingOf s)[i+1]?)|unsupported "internal:list.sort.pending"
 set (setPending s (((pendingOf s).setIfInBounds i (b,na+nb,c)).eraseIdxIfInBounds (i+1)))
 let some k<-fk false (<-elem' (arrOf s) d) (arrOf s) b na 0|return false
 let(b,na):=(b+k,na-k)
 if na==0 then return true
 let some nb<-fk true (<-elem' (arrOf s) (b+na-1)) (arrOf s) d nb (nb-1)|return false
 if nb==0 then return true
 let x:=(arrOf s).extract b d
 let y:=(arrOf s).extract d (d+nb)
 let merged<-if na<=nb then nV x y else nW x y
 modify λs=>setArr s (merged.toList.zipIdx.foldl (λa (p,j)=>a.setIfInBounds (b+j) p) (arrOf s))
 return (failedOf (<-get)).isNone):=rfl
def uC:∀m c o (a:ZY),o+c+ ~~~m<=a.size->
 ((m.zipIdx c).foldl (λa p=>a.setIfInBounds (o+p.2) p.1) a).toList=a.toList.take (o+c) ++m++a.toList.drop (o+c+ ~~~m)
 |[],c,o,a,_=>by simp
 | x::m,c,o,a,h=>by
   rw[List.zipIdx_cons,Y6];rw[Zr]at h;rw[uC m _ o _ (by rw[Array.size_setIfInBounds];lia),Array.toList_setIfInBounds];let b:o+c< ~~~a.toList:=by rw[Zb];lia
   rw[Zr,List.take_set,List.drop_set];rw[show o+(c+1)=o+c+1 by lia,show o+c+1+ ~~~m=o+c+(~~~m+1) by lia];let e:(a.toList.take (o+c+1)).set (o+c) x=a.toList.take (o+c) ++[x]:=by
    rw[List.take_succ_eq_append_getElem b];rw[List.set_append_right _ _ (by rw[Yh];lia)];rw[Yh,min_eq_left ⋯,X4];rfl
   rw[e];simp
section
variable{prog:Program}{w:World}{A:Around}{SI:Shared->Prop}{α β:Type}
def wF{D:Keyed->Prop}{i p I:Nat}{b X Y L2:List Keyed}{Q:Bool->SortSt->Prop}{st:SortSt}(c:Cmp prog w A SI (kindOf st) D)(e:(arrOf st).toList=b++X++Y++L2)(J:X≠[])(L:Y≠[])
 (d:∀x∈(arrOf st).toList,D x) (M:(pendingOf st)[i]?∣(~~~b,~~~X,p)) (q:(pendingOf st)[i+1]?∣(~~~b+ ~~~X,~~~Y,I)) (t:failedOf st=none)
 (h:∀Z g,Z.Perm (X++Y)->(arrOf g).toList=b++Z++L2->kindOf g=kindOf st->failedOf g=none->pendingOf g=((pendingOf st).setIfInBounds i (~~~b,~~~X+ ~~~Y,p)).eraseIdxIfInBounds (i+1)->Q true g):(SC prog w A SI) (mergeAt' i) Q st:=by
 let N:0< ~~~X:=length_pos_iff.mpr J;let lY:0< ~~~Y:=length_pos_iff.mpr L;let sz:(arrOf st).size= ~~~b+ ~~~X+ ~~~Y+ ~~~L2:=by
  rw[<-Zb,e];simp only[Z9]
 let l:∀i,i<(arrOf st).size->∃x,(arrOf st)[i]?∣x/\D x:=λi hi=>%[(arrOf st)[i],by simp|d _ ∅]
 let sub:∀(u v i:Nat) (hi:i<((arrOf st).extract u v).size),((arrOf st).extract u v)[i]?∣((arrOf st).extract u v)[i]/\D ((arrOf st).extract u v)[i]:=λu v i hi=>%[Array.getElem?_eq_getElem hi|by rw[Array.getElem_extract];exact d _ ∅]
 rw[uB];show aq (fE ?_);rw[M,q];dsimp only;let%[y,O|T]:=l (~~~b+ ~~~X) ⋯;show aq (FP (aq (bj O (aq (eC c T (λi hi=>l _ ⋯) N λk hk=>?_)))));dsimp only
 split
 .exact au (h (X++Y) _ (List.Perm.refl _) (by change(arrOf st).toList=_;rw[e];simp) rfl t rfl)
 rename_i B
 let B:=aO B;let%[x,U|dx]:=l (~~~b+k+(~~~X-k) -1) ⋯;show aq (bj U (aq (eC c dx (λi hi=>l _ ⋯) ⋯ λk2 z=>?_)));dsimp only
 split
 .exact au (h (X++Y) _ (List.Perm.refl _) (by change(arrOf st).toList=_;rw[e];simp) rfl t rfl)
 rename_i C
 let C:=aO C;let ex:((arrOf st).extract (~~~b+k) (~~~b+ ~~~X)).toList=X.drop k:=by
  rw[eO,e,Ze,Ze,List.drop_append,List.drop_of_length_le ⋯,nil_append,Zv,List.drop_append_of_le_length ⋯,X8 (by rw[Yd];lia),Zn (by rw[Yd];lia)]
 let E:((arrOf st).extract (~~~b+ ~~~X) (~~~b+ ~~~X+k2)).toList=Y.take k2:=by
  rw[nh,e,Ze,List.drop_append,List.drop_of_length_le (by rw[Z9];lia),nil_append,Z9,X4,drop_zero,X8 ⋯]
 let sx:=congrArg List.length ex;let sy:=congrArg List.length E;rw[Zb,Yd]at sx;rw[Zb,Yh]at sy;let G:∀(r:ZY) (f:SortSt),SG (setPending st (((pendingOf st).setIfInBounds i (~~~b,~~~X+ ~~~Y,p)).eraseIdxIfInBounds (i+1))) f->du ((arrOf st).extract (~~~b+k) (~~~b+ ~~~X)) ((arrOf st).extract (~~~b+ ~~~X) (~~~b+ ~~~X+k2)) r->
  (SC prog w A SI) (do modify (λs=>setArr s (r.toList.zipIdx.foldl (λa (p,j)=>a.setIfInBounds (~~~b+k+j) p) (arrOf s)));let x<-get;pure (failedOf x).isNone) Q f:=λr f sg o=>by
  unfold du at o;rw[ex,E]at o;show aq (cz (aq (fE (au ?_))));let m:failedOf f=none:=by rw[sg.2.2.2];exact t
  change Q (failedOf f).isNone _;rw[m];let H: ~~~r.toList=(~~~X-k) +k2:=by
   rw[o.length_eq,Z9,Yd,Yh,min_eq_left z]
  show h (X.take k++r.toList++Y.drop k2) _ ?_ ?_ sg.1 m sg.2.2.1
  .show(List.Perm.append_right _ (List.Perm.append_left _ o)).trans ?_;rw[<-Ze,X7,Ze,X7]
  .change(setArr f _|>arrOf).toList=_;let n:arrOf f=arrOf st:=sg.2.1;change((r.toList.zipIdx).foldl (λ(a:ZY) (p:Keyed×Nat)=>a.setIfInBounds (~~~b+k+p.2) p.1) (arrOf f)).toList=_;rw[uC _ 0 _ _ (by rw[H,n,sz];lia),n,e,H];let t1:(b++X++Y++L2).take (~~~b+k+0)=b++X.take k:=by
    rw[add_zero,Ze,Ze,List.take_append,Zn ⋯,Zv,X8 ⋯]
   let t2:(b++X++Y++L2).drop (~~~b+k+0+(~~~X-k+k2))=Y.drop k2++L2:=by
    rw[show ~~~b+k+0+(~~~X-k+k2)= ~~~(b++X)+k2 by rw[Z9];lia,Ze,List.drop_append,List.drop_of_length_le ⋯,nil_append,Zv,List.drop_append_of_le_length ⋯]
   rw[t1,t2];simp
 split
 .exact aq (wD %[c,sub _ _ _|sub _ _ _] ⋯ ⋯ G)
 .exact aq (wE %[c,sub _ _ _|sub _ _ _] ⋯ ⋯ G)
end
structure CR (st0 st:SortSt) (lo:Nat):Prop where
 kind:kindOf st=kindOf st0
 pend:pendingOf st=pendingOf st0
 fail:failedOf st=failedOf st0
 perm:(arrOf st).Perm (arrOf st0)
 same:∀i,i<lo->(arrOf st)[i]? =(arrOf st0)[i]?
def CR.refl(st:SortSt)(lo:Nat):CR st st lo:=%[rfl,rfl,rfl,Array.Perm.refl _|λ_ _=>rfl]
def CR.size{a st:SortSt}{lo:Nat}(h:CR a st lo):(arrOf st).size=(arrOf a).size:=h.perm.size_eq
def CR.rev{a st:SortSt}{lo i j:Nat}(h:CR a st lo)(hi:lo<=i)(b:j<=(arrOf st).size):CR a (setArr st (mirror (arrOf st) i j ((j-i)/2))) lo:=
 %[h.kind,h.pend,h.fail,(mirror_perm _ _ _ _).trans h.perm|λk c=>by
  rw[getElem?_mirror_all b,if_neg ⋯];exact h.same k c]
section
variable{prog:Program}{w:World}{A:Around}{SI:Shared->Prop}{α β:Type}
def nZ{i j lo:Nat}{a st:SortSt}(c:Cmp prog w A SI (kindOf a) D)(d:∀x∈(arrOf a).toList,D x)(r:CR a st lo)(hi:i<(arrOf a).size)(f:j<(arrOf a).size)
 (h:∀b,Q (some b) st):(SC prog w A SI) (ltAt' i j) Q st:=by
 let e:=λx g=>d x ((Array.perm_iff_toList_perm.mp r.perm).mem_iff.mp g)
 exact Dt (r.kind▸c) (Array.getElem?_eq_getElem (r.size▸hi)) (Array.getElem?_eq_getElem (r.size▸f)) (e _ ∅) (e _ ∅) h
def sB{st:SortSt}(h:Q () (setArr st (mirror (arrOf st) i j ((j-i)/2)))):(SC prog w A SI) (reverseSlice' i j) Q st:=by
 exact cz h
abbrev cuL(lo:Nat)(x:Option (Option Nat)×Nat):StateT SortSt Sem (ForInStep (Option (Option Nat)×Nat)):=do
 match<-ltAt' (lo+x.2) (lo+x.2-1)with
 | some w=>if w=true then pure (.done (none,x.2))else pure (.yield (none,x.2+1))
 | _=>pure (.done (some none,x.2))
abbrev cu3(lo nrem n:Nat):StateT SortSt Sem (Option Nat):=do
 reverseSlice' lo (lo+n)
 let x<-forIn [n:nrem] (none,n) λ_ x=>cuL lo x
 match x.1 with
 | some r=>pure r
 | none=>pure (some x.2)
abbrev cuM(lo:Nat)(x:Option (Option Nat)×Nat×Nat):StateT SortSt Sem (ForInStep (Option (Option Nat)×Nat×Nat)):=do
 match<-ltAt' (lo+x.2.1) (lo+x.2.1-1)with
 | some w=>
   if w=true then(if x.2.2>0 then(do
    reverseSlice' (lo+x.2.1-(x.2.2+1)) (lo+x.2.1)
    pure (.yield (none,x.2.1+1,0)))else pure (.yield (none,x.2.1+1,0)))
   else(do
    match<-ltAt' (lo+x.2.1-1) (lo+x.2.1)with
    | some w=>if w=true then pure (.done (none,x.2.1,x.2.2))else pure (.yield (none,x.2.1+1,x.2.2+1))
    | _=>pure (.done (some none,x.2.1,x.2.2)))
 | _=>pure (.done (some none,x.2.1,x.2.2))
abbrev cu2(lo nrem n:Nat):StateT SortSt Sem (Option Nat):=do
 rule "list.sort.descending-run"
 let x<-forIn [n+1:nrem] (none,n+1,0) λ_ x=>cuM lo x
 match x.1 with
 | some r=>pure r
 | none=>
   if x.2.2>0 then(do
    reverseSlice' (lo+x.2.1-(x.2.2+1)) (lo+x.2.1)
    cu3 lo nrem x.2.1)else cu3 lo nrem x.2.1
set_option smartUnfolding false in
def Hi(lo nrem:Nat):countRun' lo nrem=(do
 let x<-forIn [1:nrem] (none,1) λ_ x=>cuL lo x
 match x.1 with
 | some r=>pure r
 | none=>
   if(x.2==nrem)=true then pure (some x.2)
   else if x.2>1 then(do
    match<-ltAt' lo (lo+x.2-1)with
    | some w=>if w=true then pure (some x.2)else(do
      reverseSlice' lo (lo+x.2)
      cu2 lo nrem x.2)
    | _=>pure none)else cu2 lo nrem x.2):=by
 rw[countRun'_eq];rfl
variable{D:Keyed->Prop}{lo nrem n j:Nat}{Q:Option Nat->SortSt->Prop}{st st2:SortSt}
def Bh{q:Option _}{R:ForInStep _->SortSt->Prop}(c:Cmp prog w A SI (kindOf st) D)(d:∀x∈(arrOf st).toList,D x)(r:CR st st2 lo)(a:lo+nrem<=(arrOf st).size)(e:j<nrem)
 (f:R (.done (none,j)) st2) (g:R (.yield (none,j+1)) st2):(SC prog w A SI) (cuL lo (q,j)) R st2:=
 aq (nZ c d r ⋯ ⋯ λb=>by cases b<;> exact au (by assumption))
def Bi(c:Cmp prog w A SI (kindOf st) D)(d:∀x∈(arrOf st).toList,D x)(l:lo+nrem<=(arrOf st).size)(h:∀n a,CR st a lo->1<=n->n<=nrem->Q (some n) a)
 (r:CR st st2 lo) (n1:1<=n) (g:n<=nrem):(SC prog w A SI) (cu3 lo nrem n) Q st2:=by
 show aq (sB ?_);let o:=r.rev (j:=lo+n) (Zi _) (by rw[r.size];lia);show aq (bZ (bL (Q:=λx a=>CR st a lo/\∃n,x=(none,n)/\1<=n/\n<=nrem)
  (λj x a=>CR st a lo/\x=(none,j)) g %[o|rfl] ?_ ?_) ?_)
 .intro j x b f i %[e|rfl];exact Bh c d e l i %[e,j,rfl,Nat.le_trans n1 f|Yb i] %[e|rfl]
 .intro x b %[e|rfl];exact%[e,nrem,ρ,Nat.le_trans n1 g|Zi _]
 .intro x b %[e,m,rfl,p|m2];exact au (h m b e p m2)
def FW{q:Option (Option Nat)}{k:Nat}{R:ForInStep (Option (Option Nat)×Nat×Nat)->SortSt->Prop}(c:Cmp prog w A SI (kindOf st) D)(d:∀x∈(arrOf st).toList,D x)(r:CR st st2 lo)(g:lo+nrem<=(arrOf st).size)(e:k+1<=j)(h:j<nrem)
 (f:R (.done (none,j,k)) st2) (a:∀k st2,CR st st2 lo->k<=j->R (.yield (none,j+1,k)) st2):(SC prog w A SI) (cuM lo (q,j,k)) R st2:=by
 show aq (nZ c d r ⋯ ⋯ λb=>?_);cases b
 .show aq (nZ c d r ⋯ ⋯ λb=>?_);cases b
  .exact au (a (k+1) _ r e)
  .exact au f
 .dsimp only;rw[if_pos rfl]
  split
  .exact aq (sB (au (a 0 _ (r.rev ⋯ (by rw[r.size];lia)) (Xa _))))
  .exact au (a 0 _ r (Xa _))
def Bj(c:Cmp prog w A SI (kindOf st) D)(d:∀x∈(arrOf st).toList,D x)(g:lo+nrem<=(arrOf st).size)(h:∀n a,CR st a lo->1<=n->n<=nrem->Q (some n) a)
 (r:CR st st2 lo) (s:n<nrem):(SC prog w A SI) (cu2 lo nrem n) Q st2:=by
 show aq (i5 ?_);show aq (bZ (bL (Q:=λx a=>CR st a lo/\∃m q,x=(none,m,q)/\q+1<=m/\m<=nrem)
  (λj x a=>CR st a lo/\∃q,x=(none,j,q)/\q+1<=j) s %[r,0,rfl|Nat.le_add_left _ _] ?_ ?_) ?_)
 .intro j x f t l %[e,q,rfl|b];exact FW c d e g b l %[e,j,q,rfl,b|Yb l] λk st2 r u=>%[r,k,rfl|succ_le_succ u]
 .intro x f %[e,q,rfl|b];exact%[e,nrem,q,ρ,b|Zi _]
 .intro x f %[e,m,q,rfl,i|o];let p:=Nat.le_trans (Nat.le_add_left _ _) i;dsimp only
  split
  .exact aq (sB (Bi c d g h (e.rev ⋯ (by rw[e.size];lia)) p o))
  .exact Bi c d g h e p o
def uD{lo nrem:Nat}{st:SortSt}(c:Cmp prog w A SI (kindOf st) D)(d:∀x∈(arrOf st).toList,D x)(i:1<=nrem)(f:lo+nrem<=(arrOf st).size)
 (h:∀n a,CR st a lo->1<=n->n<=nrem->Q (some n) a):(SC prog w A SI) (countRun' lo nrem) Q st:=by
 rw[Hi];show aq (bZ (bL (Q:=λx a=>a=st/\∃n,x=(none,n)/\1<=n/\n<=nrem)
  (λj x a=>a=st/\x=(none,j)) i %[rfl|rfl] ?_ ?_) ?_)
 .intro j x a g l %[rfl|rfl];exact Bh c d (CR.refl _ lo) f l %[rfl,j,rfl,g|Yb l] %[rfl|rfl]
 .intro x a %[rfl|rfl];exact%[ρ,nrem,ρ,i|Zi _]
 .intro x e %[q,n,rfl,n1|m];subst q;dsimp only;by_cases o:n=nrem
  .rw[if_pos (by simp[o])];exact au (h n e (CR.refl _ _) n1 m)
  rw[if_neg (by simp[o])];let p:n<nrem:=by lia
  split
  .show aq (nZ c d (CR.refl _ lo) ⋯ ⋯ λb=>?_);cases b
   .exact aq (sB (Bj c d f h ((CR.refl e lo).rev (Zi _) ⋯) p))
   .exact au (h n e (CR.refl _ _) n1 m)
  .exact Bj c d f h (CR.refl e lo) p
end
section
variable{prog:Program}{w:World}{A:Around}{SI:Shared->Prop}{α β:Type}
def CR.move{a st:SortSt}{lo k l:Nat}(h:CR a st lo)(b:lo+k<(arrOf st).size)(c:l<=k):CR a (setArr st (bubble (arrOf st) (lo+k) (lo+k-(lo+l)))) lo:=
 %[h.kind,h.pend,h.fail,(bubble_perm _ _ _).trans h.perm|λi hi=>by
  rw[getElem?_bubble b _ ⋯,if_neg ⋯,if_neg ⋯];exact h.same i hi]
def zd{lo n ok:Nat}{e st:SortSt}(c:Cmp prog w A SI (kindOf e) D)(d:∀x∈(arrOf e).toList,D x)(r:CR e st lo)(o:1<=ok)(t:ok<=n)(v:lo+n<=(arrOf e).size)
 (h:∀a,CR e a lo->Q true a):(SC prog w A SI) (binarySort' lo n ok) Q st:=by
 rw[binarySort'_eq,Nat.max_eq_left o];show aq (bZ (bL (Q:=λx a=>x=(none,())/\CR e a lo) (λk x a=>x=(none,())/\CR e a lo) t %[rfl|r] ?_ λ_ _ h=>h) ?_)
 .intro k x f u y %[rfl|m];dsimp only;show aq (bZ (bL (Q:=λx a=>a=f/\∃l q,x=(none,l,q)/\l<=q/\q<=k)
   (λj x a=>a=f/\∃l q,x=(none,l,q)/\l<=q/\q<=k) (Xa _) %[rfl,0,k,rfl,Xa _|Zi _] ?_ λ_ _ h=>h) ?_)
  .intro j x p _ z %[rfl,l,q,rfl,i|g];dsimp only
   split
   .exact au %[rfl,l,q,rfl,i|g]
   .let o:l<=(l+q)/2:=by lia
    let s:(l+q)/2<q:=by lia
    generalize (l+q)/2=B at o s ⊢
    show aq (nZ c d m ⋯ ⋯ λb=>?_);cases b
    .exact au %[rfl,_,q,rfl,s|g]
    .exact au %[rfl,l,_,rfl,o|⋯]
  .intro x p %[rfl,l,q,rfl,i|g];dsimp only;rw[moveDown'_eq];exact aq (cz (au %[rfl|m.move (by rw[m.size];lia) (Nat.le_trans i g)]))
 .intro x f %[rfl|m];exact au (h f m)
end
abbrev dj:List (List Keyed×Nat)->Nat->List (Nat×Nat×Nat)
 |[],_=>[]
 |(r,p)::t,o=>(o,~~~r,p)::dj t (o+ ~~~r)
abbrev bB(a:List (List Keyed×Nat)):List Keyed:=(a\1).flatten
def cc(a b:List _):bB (a++b)=bB a++bB b:=by simp[bB]
def aX(a:List Keyed×Nat)(b:List _):bB (a::b)=a.1++bB b:=by simp[bB]
def df:∀a b o,dj (a++b) o=dj a o++dj b (o+ ~~~(bB a))
 |[],b,o=>by simp[dj,bB]
 |(r,p)::t,b,o=>by
  rw[cons_append,dj,dj,df t b,aX,Z9,cons_append,Nat.add_assoc]
def eD:∀a o,~~~(dj a o)= ~~~a
 |[],_=>rfl
 |(r,p)::t,o=>by rw[dj,Zr,Zr,eD t]
structure RI (st0 st:SortSt) (rp:List (List Keyed×Nat)) (rest:List Keyed):Prop where
 kind:kindOf st=kindOf st0
 fail:failedOf st=none
 perm:(arrOf st).toList.Perm (arrOf st0).toList
 arr:(arrOf st).toList=bB rp++rest
 pend:(pendingOf st).toList=dj rp 0
 runs:∀r∈rp,r.1≠[]
def RI.size{a st:SortSt}{b:List _}{rest:List Keyed}(h:RI a st b rest):(arrOf st).size=(arrOf a).size:=by
 rw[<-Zb,<-Zb,h.perm.length_eq]
def RI.psize{a st:SortSt}{b:List _}{rest:List Keyed}(h:RI a st b rest):(pendingOf st).size= ~~~b:=by
 rw[<-Zb,h.pend,eD]
section
variable{prog:Program}{w:World}{A:Around}{SI:Shared->Prop}{α β:Type}
def jX{D:Keyed->Prop}{f st:SortSt}{a b:List _}{X Y:List Keyed}{p m i:Nat}{rest:List Keyed}{Q:Bool->SortSt->Prop}(c:Cmp prog w A SI (kindOf f) D)(d:∀x∈(arrOf f).toList,D x)
 (h:RI f st (a++(X,p)::(Y,m)::b) rest) (hi:i= ~~~a) (k:∀Z g,RI f g (a++(Z,p)::b) rest-> ~~~Z= ~~~X+ ~~~Y->Q true g):(SC prog w A SI) (mergeAt' i) Q st:=by
 subst hi;let e:=h.arr;rw[cc,aX,aX]at e;let t:(arrOf st).toList=bB a++X++Y++(bB b++rest):=by rw[e];simp
 let z:=λx n=>d x (h.perm.mem_iff.mp n)
 let l:=h.pend;rw[df,dj,dj,zero_add]at l;let pl:=eD a 0;let B:=by
  let:(pendingOf st).toList[~~~a]?∣(~~~(bB a),~~~X,p):=by
   rw[l,Y8 ⋯,pl,X4];rfl
  simpa using this
 let C:=by
  let:(pendingOf st).toList[~~~a+1]?∣(~~~(bB a)+ ~~~X,~~~Y,m):=by
   rw[l,Y8 ⋯,pl,Zv];rfl
  simpa using this
 let u:=h.runs (X,p) ∅;show wF (h.kind▸c) t u (h.runs (Y,m) ∅) z B C h.fail λZ g v y E G o=>?_
 let s: ~~~Z= ~~~X+ ~~~Y:=by rw[v.length_eq,Z9]
 show k Z g %[E.trans h.kind,G,?_,?_,?_|λr j=>?_] s
 .show List.Perm.trans ?_ h.perm;rw[y,t];rw[show bB a++X++Y++(bB b++rest)=bB a++(X++Y) ++(bB b++rest) by simp];exact List.Perm.append_right _ (List.Perm.append_left _ v)
 .rw[y,cc,aX];simp
 .rw[o,Array.toList_eraseIdxIfInBounds,Array.toList_setIfInBounds,l,df,dj,zero_add];rw[List.set_append_right _ _ ⋯,pl,X4,List.set_cons_zero];rw[List.eraseIdx_append_of_length_le ⋯,pl,Zv,List.eraseIdx_cons_succ,List.eraseIdx_cons_zero];rw[s,Nat.add_assoc]
 .rcases Xi j with j|j
  .exact h.runs r (Yp _ j)
  .rcases mem_cons.mp j with rfl|j
   .intro q;let n:=length_pos_iff.mpr u;dsimp only at q n;rw[q,length_nil]at s
    lia
   .exact h.runs r (by simp[j])
def CR.toRI{d b a:SortSt}{f:List _}{rest:List Keyed}{lo n:Nat}(h:RI d b f rest)(r:CR b a lo)(j: ~~~(bB f)=lo)(o:lo+n<=(arrOf b).size):
 ∃R c,RI d a f (R++c)/\ ~~~R=n:=by
 let l:=r.size;show%[((arrOf a).toList.drop lo).take n,(arrOf a).toList.drop (lo+n),%[r.kind.trans h.kind,r.fail.trans h.fail,(Array.perm_iff_toList_perm.mp r.perm).trans h.perm,?_,r.pend▸h.pend|h.runs]|?_]
 .let e:(arrOf a).toList.take lo=bB f:=by
   let m:(arrOf a).toList.take lo=(arrOf b).toList.take lo:=by
    apply List.ext_getElem?;intro i;rw[List.getElem?_take,List.getElem?_take]
    split
    .rename_i hi
     let:=r.same i hi;simpa using this
    .rfl
   rw[m,h.arr,X8 ⋯,Zn ⋯]
  rw[<-e];let g:=X7 n ((arrOf a).toList.drop lo);rw[drop_drop]at g;rw[g,(X7 lo (arrOf a).toList)]
 grind
def mo{α:Type}(f:α->α):∀l x,(l++[x]).modify l.length f=l++[f x]
 |[],x=>rfl
 | y::l,x=>by
   rw[cons_append,Zr,List.modify_succ_cons,mo f l x,cons_append]
def jY{α:Type}(l:List α):l=[]\/∃a x,l=a++[x]:=by
 by_cases h:l=[]
 .exact .inl h
 .exact .inr %[l.dropLast,l.getLast h|(List.dropLast_concat_getLast h).symm]
def ze{α:Type}(l:List α)(h:1< ~~~l):∃a x y,l=a++x::y::[]:=by
 rcases jY l with rfl|⟨a,y,rfl⟩
 .simp at h
 .rcases jY a with rfl|⟨b,x,rfl⟩
  .simp at h
  .exact%[b,x,y|by simp]
def RI.pushed{a st:SortSt}{c:List _}{R rest:List Keyed}{lo m:Nat}(h:RI a st c (R++rest))(d: ~~~(bB c)=lo)(e: ~~~R=m)(f:1<=m):RI a (setPending st ((pendingOf st).push (lo,m,0))) (c++[(R,0)]) rest:=by
 show%[h.kind,h.fail,h.perm,?_,?_|λr b=>?_]
 .rw[h.arr,cc,aX];simp[bB]
 .rw[toList_push,h.pend,df,dj,dj,zero_add,d,e]
 .rcases Xi b with b|b
  .exact h.runs r b
  .rw[Xj b]
   grind
def RI.powered{a st:SortSt}{b:List _}{rest:List Keyed}{X:List Keyed}{p:Nat}(d:Nat)(h:RI a st (b++[(X,p)]) rest):RI a (setPending st ((pendingOf st).modify ((pendingOf st).size-1) λx=>(x.fst,x.2.fst,d))) (b++[(X,d)]) rest:=by
 show%[h.kind,h.fail,h.perm,?_,?_|λr c=>?_]
 .rw[h.arr,cc,cc,aX,aX]
 .rw[Array.toList_modify,h.psize,h.pend,df,df];rw[show(b++[(X,p)]).length-1= ~~~(dj b 0) by rw[eD];simp];change List.modify (dj b 0++[_]) _ _=_;rw[mo];rfl
 .rcases Xi c with c|c
  .exact h.runs r (Yp _ c)
  .rw[Xj c];exact h.runs (X,p) ∅
abbrev srP(lo n:Nat):StateT SortSt Sem (ForInStep (Option Unit×Nat)):=do
 modify λs=>setPending s ((pendingOf s).push (lo,n,0))
 pure (.yield (none,lo+n))
abbrev sr1(size lo n:Nat):StateT SortSt Sem (ForInStep (Option Unit×Nat)):=do
 let s<-get
 match(pendingOf s).back? with
 | some (a,n1,_)=>do
   let x<-forIn [0:size] (none,()) λ_ _=>(do
    let s<-get
    match if(pendingOf s).size>1 then(pendingOf s)[(pendingOf s).size-2]? else none with
    | some (_,_,o)=>
      if o<=power' size (2*a+n1) (2*a+n1+n1+n) size then pure (.done (none,()))
      else(do
       let b<-mergeAt' ((pendingOf s).size-2)
       if(!b)=true then pure (.done (some (),()))else pure (.yield (none,())))
    | _=>pure (.done (none,())))
   match x.1 with
   | some r=>pure (.done (some r,lo))
   | none=>do
     modify λs=>setPending s ((pendingOf s).modify ((pendingOf s).size-1) λx=>(x.1,x.2.1,power' size (2*a+n1) (2*a+n1+n1+n) size))
     srP lo n
 | _=>srP lo n
abbrev srO(size:Nat)(x:Option Unit×Nat):StateT SortSt Sem (ForInStep (Option Unit×Nat)):=
 if x.2>=size then pure (.done (none,x.2))
 else do
  match<-countRun' x.2 (size-x.2)with
  | some n=>
    if n<minRun' size size 0 then(do
     rule "list.sort.binary-insertion"
     let b<-binarySort' x.2 (min (size-x.2) (minRun' size size 0)) n
     if(!b)=true then pure (.done (some (),x.2))else sr1 size x.2 (min (size-x.2) (minRun' size size 0)))
    else sr1 size x.2 n
  | _=>pure (.done (some (),x.2))
abbrev srT(size:Nat)(x:Option Unit×Nat):StateT SortSt Sem Unit:=
 match x.1 with
 | some r=>pure r
 | none=>do
   let x<-forIn [0:size] (none,()) λ_ _=>(do
    let s<-get
    if(pendingOf s).size<=1 then pure (.done (none,()))
    else(do
     let b<-mergeAt' (if Option.any (λx=>decide (x<(pendingOf s)[(pendingOf s).size-2+1]?.elim 0 λx=>x.2.1)) (if(pendingOf s).size-2>0 then Option.map (λx=>x.2.1) (pendingOf s)[(pendingOf s).size-2-1]? else none)=true then(pendingOf s).size-2-1 else(pendingOf s).size-2)
     if(!b)=true then pure (.done (some (),()))else pure (.yield (none,()))))
   match x.1 with
   | some r=>pure r
   | none=>pure ()
set_option smartUnfolding false in
def Hj:sortRuns'=(do
 let s<-get
 let x<-forIn [0:(arrOf s).size] (none,0) λ_ x=>srO (arrOf s).size x
 srT (arrOf s).size x):=by
 rw[sortRuns'_eq];rfl
def Bk{D:Keyed->Prop}{st m:SortSt}{u:List (List Keyed×Nat)}{R e:List Keyed}{lo n:Nat}{T:ForInStep (Option Unit×Nat)->SortSt->Prop}(c:Cmp prog w A SI (kindOf st) D)(d:∀x∈(arrOf st).toList,D x)(o:RI st m u (R++e))(q: ~~~(bB u)=lo)(p: ~~~R=n)(I:1<=n)
 (J:∀a h,RI st h a e-> ~~~(bB a)=lo+n->T (.yield (none,lo+n)) h):(SC prog w A SI) (sr1 (arrOf st).size lo n) T m:=by
 show aq (fE ?_);rcases jY u with v|⟨M,⟨N,O⟩,v⟩
 .subst v;let z:(pendingOf m).back? =none:=by
   let:=o.psize;simp[Array.back?,this]
  rw[z];exact aq (cz (au (J _ _ (o.pushed q p I) (by rw[cc,Z9,q,aX];simp[bB,p]))))
 .let z:(pendingOf m).back?∣(~~~(bB M),~~~N,O):=by
   rw[<-Array.getLast?_toList,o.pend,v,df,dj,dj,zero_add];simp
  rw[z];show aq (bZ (bL (Q:=λx h=>x=(none,())/\∃a,RI st h a (R++e)/\a≠[]/\ ~~~(bB a)=lo) (λj x h=>x=(none,())/\∃a,RI st h a _/\a≠[]/\ ~~~(bB a)=lo) (Xa _) %[rfl,u,o,by rw[v];simp|q] ?_ ?_) ?_)
  .intro Y x f _ _ %[rfl,l,b,i|g];show aq (fE ?_);by_cases B:(pendingOf f).size>1
   .let%[r,%[y|C],%[Y5|q5]|rfl]:=ze l (b.psize▸B);let s:(pendingOf f).size-2= ~~~r:=by rw[b.psize];simp
    let E:(pendingOf f)[(pendingOf f).size-2]?∣(~~~(bB r),~~~y,C):=by
     let:(pendingOf f).toList[~~~r]?∣(~~~(bB r),~~~y,C):=by
      rw[b.pend,df,Y8 (by rw[eD];lia),eD,X4,zero_add];rfl
     rw[s];simpa using this
    rw[if_pos B,E];dsimp only
    split
    .exact au %[rfl,_,b,i|g]
    .show aq (jX c d b s λZ5 U G H=>au %[rfl,_,G,by simp|?_]);rw[<-g,cc,cc,aX,aX,aX];simp[bB,H]
   .rw[if_neg B];exact au %[rfl,_,b,i|g]
  .intro x f %[rfl,l,b,i|g];exact%[ρ,l,b,i|g]
  .intro x f %[rfl,l,b,i|g];dsimp only;let%[r,%[y|C]|rfl]:=(jY l).resolve_left i;show aq (cz (aq (cz (au ?_))));let t:∀L,~~~(bB (r++[(y,L)]))=lo:=λL=>by
    rw[<-g,cc,cc,aX,aX]
   exact J _ _ ((b.powered _).pushed (t _) p I) (by rw[cc,Z9,t,aX];simp[bB,p])
def sc_sortMany{D:Keyed->Prop}{Q:Unit->SortSt->Prop}{st:SortSt}(c:Cmp prog w A SI (kindOf st) D)(d:∀x∈(arrOf st).toList,D x)(h2:1<=(arrOf st).size)(hp:pendingOf st= #[])(hf:failedOf st=none)
 (h:∀f,(arrOf f).toList.Perm (arrOf st).toList->failedOf f=none->Q () f):(SC prog w A SI) sortRuns' Q st:=by
 rw[Hj];show aq (fE ?_);show aq (bZ (bL (Q:=λx f=>∃e lo,x=(none,lo)/\RI st f e [])
  (λj x f=>∃e rest lo,x=(none,lo)/\RI st f e rest/\ ~~~(bB e)=lo/\j<=lo/\lo<=(arrOf st).size) (Xa _) %[[],_,0,rfl,%[rfl,hf,List.Perm.refl _,rfl,by rw[hp];rfl|λ_ h=>(nomatch h)],rfl,Zi _|Xa _] ?_ ?_) ?_)
 .intro j x u _ hj %[e,rest,lo,rfl,g,m,G|H];unfold srO;dsimp only;let s1:=g.size;by_cases B:lo>=(arrOf st).size
  .rw[if_pos B];let I:rest=[]:=by
    let:=congrArg List.length g.arr;rw[Z9,Zb,s1,m]at this;exact length_eq_zero_iff.mp ⋯
   subst I;exact au %[e,lo,rfl|g]
  rw[if_neg B];let U:∀x∈(arrOf u).toList,D x:=λx hx=>d x (g.perm.mem_iff.mp hx)
  let c1:Cmp prog w A SI (kindOf u) D:=g.kind▸c;show aq (uD c1 U ⋯ ⋯ λn o r2 n1 n2=>?_);dsimp only;by_cases v:n<minRun' (arrOf st).size (arrOf st).size 0
  .rw[if_pos v];show aq (i5 (aq (zd c1 U r2 n1 ⋯ ⋯ λJ r3=>?_)));rw[if_neg ∅];let%[R,y,s|z]:=CR.toRI (n:=min ((arrOf st).size-lo) (minRun' (arrOf st).size (arrOf st).size 0)) g r3 m ⋯;exact Bk c d s m z ⋯ λL f r l=>%[_,_,_,rfl,r,l,⋯|⋯]
  .rw[if_neg v];let%[R,y,s|z]:=CR.toRI (n:=n) g r2 m ⋯;exact Bk c d s m z ⋯ λL f r l=>%[_,_,_,rfl,r,l,⋯|⋯]
 .intro x u %[e,rest,lo,rfl,g,m,G|H];let I:rest=[]:=by
   let:=congrArg List.length g.arr;rw[Z9,Zb,g.size,m]at this;exact length_eq_zero_iff.mp ⋯
  subst I;exact%[e,lo,ρ|g]
 .intro x u %[e,lo,rfl|g];unfold srT;dsimp only;let M:∀(e:List (List Keyed×Nat)),(∀r∈e,r.1≠[])-> ~~~e<= ~~~(bB e):=by
   intro e
   induction e with
   | nil=>intro _;exact Xa _
   | cons r t ih=>
     intro hr;rw[aX,Zr,Z9];let:=length_pos_iff.mpr (hr r ∅);let:=ih λq hq=>hr q (by simp[hq])
     lia
  let l1: ~~~e<=(arrOf st).size:=by
   let a1:=M e g.runs;let a2:=congrArg List.length g.arr;rw[Zy,Zb,g.size]at a2
   lia
  show aq (bZ (bL (Q:=λx f=>x=(none,())/\∃e,RI st f e []/\ ~~~e<=1) (λj x f=>x=(none,())/\∃e,RI st f e []/\ ~~~e<=max 1 ((arrOf st).size-j)) (Xa _) %[rfl,e,g|⋯] ?_ ?_) ?_)
  .intro j x o _ hj %[rfl,e,g|N];show aq (fE ?_);by_cases O:(pendingOf o).size<=1
   .rw[if_pos O];exact au %[rfl,e,g|g.psize▸O]
   rw[if_neg O];let ab:1< ~~~e:=by rw[<-g.psize];lia
   generalize C:(if Option.any _ _=true then(pendingOf o).size-2-1 else(pendingOf o).size-2)=i
   let hi:i+1< ~~~e:=by
    let E:∀(c:Prop) [Decidable c] (n:Nat),2<=n->(if c then n-2-1 else n-2) +1<n:=λc _ n hn=>by lia
    rw[<-C,<-g.psize];exact E _ _ ⋯
   clear C;obtain⟨a,X,p,Y,q,b,rfl,T⟩:∃a X p Y q b,e=a++(X,p)::(Y,q)::b/\i= ~~~a:=by
    show%[e.take i,e[i].1,e[i].2,e[i+1].1,e[i+1].2,e.drop (i+2),?_|by rw[Yh];lia];let t1:=(X7 i e).symm;rw[List.drop_eq_getElem_cons ⋯,List.drop_eq_getElem_cons ⋯]at t1;exact t1
   show aq (jX c d g T λZ J s zl=>?_);rw[if_neg ∅];show au %[rfl,_,s|?_];simp only[Z9,Zr]at N hi ⊢
   lia
  .intro x o %[rfl,e,g|N];exact%[ρ,e,g|⋯]
  .intro x o %[rfl,e,g|N];exact au (h o g.perm g.fail)
end
end _SB
namespace _ST
open PySem PySem.SetTable
def uE:∀k,∃q,5^(2^k)=1+2^(k+2)*(2*q+1)
 | 0=>%[0|rfl]
 | k+1=>by
   let%[q|e]:=uE k;show%[q+2^k*(2*q+1)*(2*q+1)|?_];rw[pow_succ 2 k,Nat.pow_mul,e]
   grind
abbrev step(M i:Nat):Nat:=(i*5+1)%M
abbrev cf(M:Nat):Nat->Nat->Nat
 | 0,i=>i
 | n+1,i=>step M (cf M n i)
abbrev geo:Nat->Nat
 | 0=>0
 | n+1=>geo n*5+1
def sC:∀n,4*geo n+1=5^n
 | 0=>rfl
 | n+1=>by
   let:=sC n;rw[pow_succ,<-this,geo]
   lia
def jZ(M:Nat)(i:Nat):∀n,cf M n i%M=(5^n*i+geo n)%M
 | 0=>by simp[cf,geo]
 | n+1=>by
   rw[cf,step,Nat.mod_mod,geo,pow_succ];rw[add_mod,Nat.mul_mod,(jZ M i n),<-Nat.mul_mod,<-add_mod]
   congr 1
   grind
def n6:∀(k i e:Nat),e<2^k->∃n,n<2^k/\cf (2^k) n i%2^k=e
 | 0,i,e,c=>%[0,by simp|by simp at c;subst c;simp[Nat.mod_one]]
 | k+1,i,e,c=>by
   let%[n,M|t]:=n6 k i (e%2^k) (mod_lt _ (Nat.two_pow_pos k));let d:∀n,cf (2^(k+1)) n i%2^(k+1)%2^k=cf (2^k) n i%2^k:=λn=>by
    rw[Nat.mod_mod_of_dvd _ (Nat.pow_dvd_pow 2 (Yc k)),<-Nat.mod_mod_of_dvd _ (Nat.pow_dvd_pow 2 (Yc k)),jZ,Nat.mod_mod_of_dvd _ (Nat.pow_dvd_pow 2 (Yc k)),jZ]
   let%[q|b]:=uE k;let w:geo (2^k)=2^k*(2*q+1):=by
    let g:=sC (2^k);rw[b,Nat.pow_add]at g;let:2^k*2^2*(2*q+1)=4*(2^k*(2*q+1)):=by
     rw[Nat.mul_right_comm];lia
    lia
   let f:∀n,cf (2^(k+1)) (n+2^k) i%2^(k+1)=(cf (2^(k+1)) n i+2^k)%2^(k+1):=λn=>by
    rw[jZ];let y:5^(n+2^k)*i+geo (n+2^k)=5^(2^k)*(5^n*i+geo n) +geo (2^k):=by
     let g1:=sC (n+2^k);let g2:=sC n
     grind
    rw[y,b,w];let z:2^(k+1)=2*2^k:=by rw[pow_succ];lia
    let j:2^(k+2)=2*2^(k+1):=by rw[pow_succ];lia
    let p:=jZ (2^(k+1)) i n
    generalize 5^n*i+geo n=v at p ⊢
    let A:(1+2^(k+2)*(2*q+1))*v+2^k*(2*q+1)=v+2^k+2^(k+1)*(2*((2*q+1)*v) +q):=by
     rw[Nat.add_mul,Nat.one_mul,j];let B:2*2^(k+1)*(2*q+1)*v=2^(k+1)*(2*((2*q+1)*v)):=by
      simp only[Nat.mul_assoc,Nat.mul_left_comm]
     let C:2^k*(2*q+1)=2^k+2^(k+1)*q:=by
      rw[z,Nat.mul_add,Nat.mul_one]
      lia
     rw[B,C,Nat.mul_add]
     lia
    rw[A,Nat.add_mul_mod_self_left,add_mod,<-p,<-add_mod]
   let l:=d n;rw[t]at l;let E:cf (2^(k+1)) n i%2^(k+1)<2^(k+1):=mod_lt _ (Nat.two_pow_pos _);let m:=f n;rw[add_mod,Nat.mod_eq_of_lt (by lia:2^k<2^(k+1))]at m;obtain⟨a,r⟩:∃a,a=cf (2^(k+1)) n i%2^(k+1):=%[_|rfl]
   rw[<-r]at l E m;let o:a=e\/(a+2^k)%2^(k+1)=e:=by
    let s:=Nat.div_add_mod a (2^k);let G:=Nat.div_add_mod e (2^k);let H:a/2^k<2:=Nat.div_lt_of_lt_mul ⋯;let I:e/2^k<2:=Nat.div_lt_of_lt_mul ⋯;rw[l]at s
    generalize a/2^k=u at s H
    generalize e/2^k=v at G I
    let J:u=0\/u=1:=by lia
    let L:v=0\/v=1:=by lia
    rcases J with rfl|rfl<;> rcases L with rfl|rfl
    .left;lia
    .right
     rw[Nat.mod_eq_of_lt ⋯]
     lia
    .right
     rw[show a+2^k=e+2^(k+1) by lia,Nat.add_mod_right,Nat.mod_eq_of_lt c]
    .left;lia
   rcases o with h|h
   .exact%[n,⋯|by rw[<-r,h]]
   .exact%[n+2^k,⋯|by rw[m,h]]
abbrev stand(t:SetTable)(h:Int):Nat->Probe
 | 0=>t.probeStart h
 | n+1=>t.advance (stand t h n)
abbrev way(t:SetTable)(h:Int)(n:Nat):Nat:=(stand t h n).j
abbrev aI(t:SetTable)(h:Int):Nat->Nat×Nat
 | 0=>(bits h%(t.mask+1),bits h)
 | r+1=>leap t.mask (aI t h r).1 (aI t h r).2
def mr(t:SetTable)(h:Int):∀n,(stand t h n).dummy=none
 | 0=>rfl
 | n+1=>by
   let:=mr t h n;change(t.advance _).dummy=none;unfold advance
   split
   .exact this
   .exact this
def Du(m i:Nat):runEnd m i-i<=9:=by
 unfold runEnd
 split<;> lia
def zf(t:SetTable)(h:Int):∀r,∃n,n<=10*r/\∀d,d<=runEnd t.mask (aI t h r).1-(aI t h r).1->
 stand t h (n+d)=%[(aI t h r).1+d,runEnd t.mask (aI t h r).1-(aI t h r).1-d,(aI t h r).1,(aI t h r).2|none]:=by
 let a:∀n i b,stand t h n=%[i,runEnd t.mask i-i,i,b|none]->∀d,d<=runEnd t.mask i-i->stand t h (n+d)=%[i+d,runEnd t.mask i-i-d,i,b|none]:=by
  intro n i b e d
  induction d with
  | zero=>intro _;rw[add_zero,e];rfl
  | succ d c=>
    intro f;change t.advance (stand t h (n+d))=_;rw[c ⋯];unfold advance;rw[if_pos ⋯]
    grind
 intro r
 induction r with
 | zero=>exact%[0,Xa _|a 0 _ _ rfl]
 | succ r c=>
   let%[n,g|e]:=c;let j:=Du t.mask (aI t h r).1;show%[n+(runEnd t.mask (aI t h r).1-(aI t h r).1) +1,⋯|a _ _ _ ?_];change t.advance _=_;rw[e _ (Zi _)];unfold advance;rw[if_neg ⋯];rfl
def Dv(h:Int):bits h<2^64:=by
 unfold bits
 grind
def n8(t:SetTable)(h:Int):∀r,(aI t h r).2=bits h/32^r
 | 0=>by simp[aI]
 | r+1=>by
   change(aI t h r).2/32=_;rw[n8 t h r,Nat.div_div_eq_div_mul,pow_succ]
def Bl(t:SetTable)(h:Int):∀r,(aI t h r).1<t.mask+1
 | 0=>mod_lt _ (succ_pos _)
 | r+1=>mod_lt _ (succ_pos _)
def jD(t:SetTable)(h:Int):∀m,(aI t h (12+m)).1=cf (t.mask+1) m (aI t h 12).1
 | 0=>rfl
 | m+1=>by
   change((aI t h (12+m)).1*5+1+(aI t h (12+m)).2/32)%(t.mask+1)=step _ _;rw[jD t h m,n8,Nat.div_div_eq_div_mul,<-pow_succ];let a:bits h/32^(12+m+1)=0:=by
    exact Nat.div_eq_of_lt (Zg (Dv h) (Nat.le_trans (by decide:2^64<=32^13) (Nat.pow_le_pow_right (!1) ⋯)))
   rw[a,add_zero];rfl
def n9(a:t.mask+1=2^k)(h:Int)(e:Nat)(c:e<=t.mask):∃r,r<turns t.mask/\(aI t h r).1=e:=by
 let%[n,d|b]:=n6 k _ e ⋯;show%[12+n,by unfold turns;lia|?_];rw[jD,a];rw[<-a]at b;let:cf (t.mask+1) n (aI t h 12).1<t.mask+1:=by rw[<-jD];exact Bl t h _
 rw[Nat.mod_eq_of_lt this]at b;exact a▸b
def wG(a:t.mask+1=2^k)(h:Int)(e:Nat)(b:e<=t.mask):∃n,n+10<=10*turns t.mask/\way t h n=e:=by
 let%[r,f|c]:=n9 a h e b;let%[n,g|d]:=zf t h r;show%[n,⋯|?_];let:=d 0 (Xa _);unfold way;rw[add_zero]at this;rw[this];exact c
def uF(o:t.dummies= #[]){hashAt:Nat->Int}:∀(fuel n m:Nat),n<=m->m<n+fuel->t.slot (way t h m)= .empty->
 ∃q,n<=q/\q<=m/\(∀j,n<=j->j<q->∃i,t.slot (way t h j)= .live i/\hashAt i≠h)/\
  ((t.slot (way t h q)= .empty/\probe.go t hashAt h fuel (stand t h n)∣.empty (way t h q) none)\/
   ∃i,t.slot (way t h q)= .live i/\hashAt i=h/\probe.go t hashAt h fuel (stand t h n)∣.candidate (way t h q) i (stand t h (q+1)))
 | 0,n,m,g,r,_=>by lia
 | fuel+1,n,m,g,r,p=>by
   let d:probe.go t hashAt h (fuel+1) (stand t h n)=(match t.slot (stand t h n).j with
    | .empty=>some _
    | .dummy=>probe.go t hashAt h fuel (t.advance {stand t h n with dummy:=some _})
    | .live i=>if hashAt i==h then some _ else probe.go t hashAt h fuel _):=rfl
   let l:(stand t h n).j=way t h n:=rfl;cases c:t.slot _ with
   | empty=>
     show%[n,Zi _,g,λj a b=>by lia|.inl %[c|?_]];rw[d,l,c,mr]
   | dummy=>
     exfalso;unfold slot at c;dsimp only at c
     split at c
     .lia
     .split at c
      .rename_i q
       rw[o]at q;simp[has]at q
      .lia
   | live i=>
     by_cases f:hashAt i=h
     .show%[n,Zi _,g,λj a b=>by lia|.inr %[i,c,f|?_]];rw[d,l,c];dsimp only;rw[if_pos (by simp[f])];rfl
     .let s:n≠m:=λq=>by rw[q,p]at c;cases c
      let%[q,z,u,v|w]:=uF o fuel (n+1) m ⋯ ⋯ p;let y:probe.go t hashAt h (fuel+1) (stand t h n)=probe.go t hashAt h fuel (stand t h (n+1)):=by
       rw[d,l,c];dsimp only;rw[if_neg (by simp[f])];rfl
      show%[q,⋯,u,λj a b=>?_|?_]
      .by_cases e:j=n
       .exact e▸%[i,c|f]
       .exact v j ⋯ b
      .exact y▸w
def og(xs:Array Nat)(j:Nat)(d:∀a b (s:a<xs.size) (t:b<xs.size),a<b->xs[a]<xs[b]):∀(fuel lo hi:Nat),hi-lo<=fuel->lo<=hi->hi<=xs.size->(∀i (h:i<xs.size),i<lo->xs[i]<j)->(∀i (h:i<xs.size),hi<=i->j<=xs[i])->
 below.go xs j fuel lo hi<=xs.size/\(∀i (h:i<xs.size),i<below.go xs j fuel lo hi->xs[i]<j)/\(∀i (h:i<xs.size),below.go xs j fuel lo hi<=i->j<=xs[i])
 | 0,lo,hi,p,q,f,g,l=>by
   let e:lo=hi:=by lia
   subst e;exact%[f,g|l]
 | fuel+1,lo,hi,p,q,f,g,l=>by
   rw[below.go];by_cases c:lo<hi
   .rw[if_pos c];dsimp only;let n:(lo+hi)/2<xs.size:=by lia
    let r:xs.getD ((lo+hi)/2) j=xs[(lo+hi)/2]:=by simp[Array.getD,n]
    rw[r];by_cases m:xs[(lo+hi)/2]<j
    .rw[if_pos m];show og xs j d fuel _ hi ⋯ ⋯ f (λi h o=>?_) l;by_cases e:i=(lo+hi)/2
     .subst e;exact m
     .exact Nat.lt_trans (d i _ h n ⋯) m
    .rw[if_neg m];show og xs j d fuel lo _ ⋯ ⋯ ⋯ g (λi h o=>?_);by_cases e:i=(lo+hi)/2
     .subst e;lia
     .let:=d _ i n h ⋯
      lia
   .rw[if_neg c];let e:lo=hi:=by lia
    subst e;exact%[f,g|l]
abbrev Bm(xs:Array Nat):Prop:=∀a b c (d:b<xs.size),a<b->xs[a]<xs[b]
def jE(a:Bm xs)(j:Nat):below xs j<=xs.size/\(∀i (h:i<xs.size),i<below xs j->xs[i]<j)/\(∀i (h:i<xs.size),below xs j<=i->j<=xs[i]):=
 og xs j a xs.size 0 xs.size ⋯ (Xa _) (Zi _) (λi h q=>absurd q (Yz _)) (λi h q=>by lia)
def Bn(a:Bm xs)(h:xs[i]?∣j):below xs j=i:=by
 let%[f,c|d]:=jE a j;let%[hi|e]:=Array.getElem?_eq_some_iff.mp h;rcases Nat.lt_trichotomy i _ with q|q|q
 .let:=c i hi q
  lia
 .exact q.symm
 .let b:below xs j<xs.size:=by lia
  let:=d _ b (Zi _);let:=a _ i b hi q
  lia
def qG{t:SetTable}(a:Bm t.place)(h:t.place[i]?∣j):t.slot j= .live i:=by
 unfold slot;dsimp only;rw[Bn a h,h];simp
def jF{t:SetTable}(a:Bm t.place)(b:t.dummies= #[])(j:Nat):(∃i,t.place[i]?∣j/\t.slot j= .live i)\/(j∉t.place.toList/\t.slot j= .empty):=by
 by_cases h:j∈t.place.toList
 .let%[i|hi]:=Xb h;let hi:=↑hi
  exact .inl %[i,hi|qG a hi]
 .show .inr %[h|?_];unfold slot;rw[if_neg,if_neg]
  .rw[b];simp[has]
  .intro q;exact h (mem_toList_iff.mpr (Array.mem_of_getElem? ↑q))
def uG(h:t.mask=t'.mask)(x:Int):∀n,stand t x n=stand t' x n
 | 0=>by
   change t.probeStart x=t'.probeStart x;unfold probeStart;rw[h]
 | n+1=>by
   change t.advance _=t'.advance _;rw[uG h x n];unfold advance;rw[h]
def qH(h:t.mask=t'.mask)(x:Int)(n:Nat):way t x n=way t' x n:=by unfold way;rw[uG h]
structure WF (t:SetTable) (es:Array (Int×Value)):Prop where
 pow:∃k,t.mask+1=2^k
 big:7<=t.mask
 dum:t.dummies= #[]
 rise:Bm t.place
 inb:∀j∈t.place.toList,j<=t.mask
 size:t.place.size=es.size
 chain:∀(i j:Nat) h x,t.place[i]?∣j->es[i]?∣(h,x)->∃n,way t h n=j/\∀m,m<n->way t h m∈t.place.toList
def nodup_sub [DecidableEq c]:∀{l m:List c},l.Nodup->(∀x∈l,x∈m)-> ~~~l<= ~~~m
 |[],_,_,_=>Xa _
 | x::l,m,d,a=>by
   let%[f|g]:=nodup_cons.mp d;let b:=a x Zm;let h:=nodup_sub (m:=m.erase x) g λy i=>(List.mem_erase_of_ne (λe=>f (!2))).mpr (a y (Zk _ i))
   rw[List.length_erase_of_mem b]at h;let:=List.length_pos_of_mem b;rw[Zr]
   lia
def wH(W:WF t v)(R:t.place.size<=t.mask)(h:Int):∃m,m+10<=10*turns t.mask/\way t h m∉t.place.toList/\(∀q,q<m->way t h q∈t.place.toList):=by
 let%[k|l]:=W.pow;let ex:∃e,e<=t.mask/\e∉t.place.toList:=by
  show Classical.byContradiction λb=>?_
  let: ~~~(List.range (t.mask+1))<= ~~~t.place.toList:=nodup_sub nodup_range λx o=>(λe c=>Classical.byContradiction λq=>b %[e,c|q]) x (by let:=mem_range.mp o;lia)
  rw[Yf,Zb]at this
  lia
 let%[e,c|f]:=ex;let%[n,p|hw]:=wG l h e c;let:∀d,∀n,n<=d->n+10<=10*turns t.mask->way t h n∉t.place.toList->∃m,m+10<=10*turns t.mask/\way t h m∉t.place.toList/\(∀q,q<m->way t h q∈t.place.toList):=by
  intro d
  induction d with
  | zero=>
    intro n r g i;let:n=0:=by lia
    subst this;exact%[0,g,i|λq j=>absurd j (Yz _)]
  | succ d s=>
    intro n r g i;by_cases a:∀q,q<n->way t h q∈t.place.toList
    .exact%[n,g,i|a]
    .let%[q|j]:=Classical.not_forall.mp a;let%[w|u]:=Classical.not_imp.mp j;exact s q ⋯ ⋯ u
 exact this n n (Zi _) p (hw▸f)
def j0(xs:Array a)(p:Nat)(x:a)(b:p<=xs.size):(insertAt xs p x).toList=xs.toList.take p++x::xs.toList.drop p:=by
 unfold insertAt;rw[X9,toList_push,toList_extract,toList_extract,List.extract_eq_take_drop,List.extract_eq_take_drop];rw[drop_zero,Nat.sub_zero,Zn (l:=xs.toList.drop p) ∅];simp
def wI(xs:Array c)(x:c)(f:p<=xs.size)(i:Nat):(insertAt xs p x)[i]? =if i<p then xs[i]? else if i=p then some x else xs[i-1]? :=by
 let e:(insertAt xs p x)[i]? =(insertAt xs p x).toList[i]? :=by simp
 rw[e,j0 xs p x f];let g: ~~~(xs.toList.take p)=p:=!2
 by_cases a:i<p
 .rw[if_pos a,Y7 ⋯,List.getElem?_take,if_pos a];simp
 .rw[if_neg a,Y8 ⋯,g];by_cases b:i=p
  .rw[if_pos b,b,X4];rfl
  .rw[if_neg b];obtain⟨d,h⟩:∃d,i-p=d+1:=%[i-p-1|⋯]
   rw[h,List.getElem?_cons_succ,getElem?_drop];rw[show p+d=i-1 by lia];simp
def iJ(xs:Array a)(p:Nat)(x:a)(b:p<=xs.size):(insertAt xs p x).size=xs.size+1:=by
 rw[<-Zb,j0 xs p x b,Z9,Zr,Yh,Yd,Zb]
 lia
def Bo(t:SetTable)(h:Int):∀n,(stand t h n).j+(stand t h n).more<=t.mask
 | 0=>by
   change bits h%(t.mask+1) +(runEnd t.mask _-bits h%(t.mask+1))<=t.mask;let:=mod_lt (bits h) (show 0<t.mask+1 from succ_pos _);unfold runEnd
   split<;> lia
 | n+1=>by
   let a:=Bo t h n;change(t.advance _).j+(t.advance _).more<=t.mask;unfold advance
   split
   .lia
   .dsimp only[leap];let:=mod_lt ((stand t h n).i*5+1+(stand t h n).perturb/32) (show 0<t.mask+1 from succ_pos _);unfold runEnd
    split<;> lia
def sD(t:SetTable)(h:Int)(n:Nat):way t h n<=t.mask:=by
 let:=Bo t h n;unfold way
 lia
def WF.put(W:WF t J)(U:way t h m∉t.place.toList)(Y:∀q,q<m->way t h q∈t.place.toList)(r f:Bool):
 (t.put (way t h m)).2=below t.place (way t h m)/\(t.put (way t h m)).1.mask=t.mask/\(t.put (way t h m)).1.place.size=t.place.size+1/\(t.put (way t h m)).1.led=t.led/\(t.put (way t h m)).1.plain=t.plain/\(t.put (way t h m)).1.moves=t.moves/\
  WF {(t.put (way t h m)).1 with led:=r,plain:=f} (insertAt J (t.put (way t h m)).2 (h,x)):=by
 let hd:has t.dummies (way t h m)=false:=by rw[W.dum];simp[has]
 let ep:t.put (way t h m)=({t with place:=insertAt t.place (below t.place (way t h m)) (way t h m)},below t.place (way t h m)):=by
  unfold SetTable.put;dsimp only;rw[hd];rfl
 rw[ep];let%[g,L|M]:=jE W.rise (way t h m)
 generalize hp:below t.place (way t h m)=p at g L M
 let z:p<=J.size:=by rw[<-W.size];exact g
 let s3:∀i (hi:i<t.place.size),p<=i->way t h m<t.place[i]:=λi hi q=>by
  let:=M i hi q;rcases Nat.eq_or_lt_of_le this with e|e
  .exact absurd (by rw[e];simp) U
  .exact e
 let c:∀y,y∈(insertAt t.place p (way t h m)).toList↔y=way t h m\/y∈t.place.toList:=λy=>by
  rw[j0 _ _ _ g,Yo,Ys];let:=X7 p t.place.toList
  constructor
  .rintro(q|q|q)
   .exact .inr (Yt q)
   .exact .inl q
   .exact .inr (List.mem_of_mem_drop q)
  .rintro(q|q)
   .exact .inr (.inl q)
   .rw[<-this]at q;rcases Xi q with q|q
    .exact .inl q
    .exact .inr (.inr q)
 show%[ρ,ρ,iJ _ _ _ g,ρ,ρ,ρ,W.pow,W.big,W.dum,?_,?_,?_|?_]
 .intro a b ha B C;let l:(insertAt t.place p (way t h m))[a]?∣(insertAt t.place p (way t h m))[a]:=by simp
  let d:(insertAt t.place p (way t h m))[b]?∣(insertAt t.place p (way t h m))[b]:=by simp
  change(insertAt t.place p (way t h m))[a]<(insertAt t.place p (way t h m))[b];rw[wI _ _ g]at l d;let ab:b<t.place.size+1:=(iJ t.place p (way t h m) g)▸B;by_cases E:a<p
  .rw[if_pos E]at l;let%[v|G]:=Array.getElem?_eq_some_iff.mp l;rw[<-G];by_cases r:b<p
   .rw[if_pos r]at d;let%[f|w]:=Array.getElem?_eq_some_iff.mp d;exact w▸W.rise a b v f C
   .rw[if_neg r]at d;by_cases f:b=p
    .rw[if_pos f]at d;exact(Za d)▸L a v E
    .rw[if_neg f]at d;let%[w|H]:=Array.getElem?_eq_some_iff.mp d;exact H▸W.rise a (b-1) v w ⋯
  .rw[if_neg E]at l;let r: ¬ b<p:=by lia
   let f: ¬ b=p:=by lia
   rw[if_neg r,if_neg f]at d;let%[w|H]:=Array.getElem?_eq_some_iff.mp d;rw[<-H];by_cases v:a=p
   .rw[if_pos v]at l;exact(Za l)▸s3 (b-1) w ⋯
   .rw[if_neg v]at l;let%[G|a4]:=Array.getElem?_eq_some_iff.mp l;exact a4▸W.rise (a-1) (b-1) G w ⋯
 .intro y hy;rcases(c y).mp hy with q|q
  .rw[q];exact sD t h m
  .exact W.inb y q
 .rw[iJ _ _ _ g,iJ _ _ _ z,W.size]
 .intro i j s N hi o;let O:∀n,way {t with place:=insertAt t.place p (way t h m),led:=r,plain:=f} s n=way t s n:=λn=>qH (t':=t) (by rfl) s n
  let I:∃n,way t s n=j/\∀q,q<n->way t s q∈(insertAt t.place p (way t h m)).toList:=by
   rw[wI _ _ g]at hi;rw[wI _ _ z]at o;by_cases Q:i<p
   .rw[if_pos Q]at hi o;let%[n,n1|A]:=W.chain i j s N hi o;exact%[n,n1|λq u=>(c _).mpr (.inr (A q u))]
   .rw[if_neg Q]at hi o;by_cases T:i=p
    .rw[if_pos T]at hi o;cases hi;cases o;exact%[m,ρ|λq u=>(c _).mpr (.inr (Y q u))]
    .rw[if_neg T]at hi o;let%[n,n1|A]:=W.chain (i-1) j s N hi o;exact%[n,n1|λq u=>(c _).mpr (.inr (A q u))]
  let%[n,n1|A]:=I;exact%[n,by rw[O];exact n1|λq u=>by rw[O];exact A q u]
abbrev nb(t:SetTable)(h:Int):Nat->Nat
 | 0=>0
 | r+1=>nb t h r+(runEnd t.mask (aI t h r).1-(aI t h r).1) +1
def Bp(t:SetTable)(h:Int):∀r d,d<=runEnd t.mask (aI t h r).1-(aI t h r).1->
 stand t h (nb t h r+d)=%[(aI t h r).1+d,runEnd t.mask (aI t h r).1-(aI t h r).1-d,(aI t h r).1,(aI t h r).2|none]:=by
 let a:∀n i b,stand t h n=%[i,runEnd t.mask i-i,i,b|none]->∀d,d<=runEnd t.mask i-i->stand t h (n+d)=%[i+d,runEnd t.mask i-i-d,i,b|none]:=by
  intro n i b e d
  induction d with
  | zero=>intro _;rw[add_zero,e];rfl
  | succ d c=>
    intro f;change t.advance (stand t h (n+d))=_;rw[c ⋯];unfold advance;rw[if_pos ⋯]
    grind
 intro r
 induction r with
 | zero=>exact a 0 _ _ rfl
 | succ r c=>
   show a _ _ _ ?_;change t.advance _=_;rw[c _ (Zi _)];unfold advance;rw[if_neg ⋯];rfl
def wJ(t:SetTable)(h:Int)(r d:Nat)(a:d<=runEnd t.mask (aI t h r).1-(aI t h r).1):way t h (nb t h r+d)=(aI t h r).1+d:=by
 unfold way;rw[Bp t h r d a]
abbrev eP(owner:Array (Option Nat))(j:Nat):Bool:=(owner.getD j (some 0)).isSome
def qI(t:SetTable)(h:Int)(owner:Array (Option Nat)):∀(fuel r:Nat),(∃a,r<=a/\a<r+fuel/\eP owner (aI t h a).1=false)->(∀m,m<nb t h r->eP owner (way t h m)=true)->
 ∃j n,layClean.free t.mask owner fuel (aI t h r).1 (aI t h r).2∣j/\way t h n=j/\eP owner j=false/\∀m,m<n->eP owner (way t h m)=true
 | 0,r,⟨a,o,p,_⟩,_=>by lia
 | fuel+1,r,⟨a,o,p,f⟩,g=>by
   rw[layClean.free];let s:runEnd t.mask (aI t h r).1>=(aI t h r).1:=by unfold runEnd;split<;> lia
   let tk:∀k,(owner.getD ((aI t h r).1+k) (some 0)).isNone=!eP owner ((aI t h r).1+k):=λk=>by
    unfold eP;cases owner.getD ((aI t h r).1+k) (some 0)<;> rfl
   cases i:(List.range (runEnd t.mask (aI t h r).1+1-(aI t h r).1)).find? λk=>(owner.getD ((aI t h r).1+k) (some 0)).isNone with
   | some k=>
     let%[l,as,bs,b|u]:=List.find?_eq_some_iff_append.mp i;let c:k∈List.range (runEnd t.mask (aI t h r).1+1-(aI t h r).1):=by rw[b];simp
     let c:=mem_range.mp c;let v:as=List.range k:=by
      let w: ~~~as=k:=by
       let:(List.range (runEnd t.mask (aI t h r).1+1-(aI t h r).1))[~~~as]?∣k:=by rw[b];simp
       rw[getElem?_range (by let:=(Xh this).1;simpa using this)]at this;exact Za this
      let y:as=(List.range (runEnd t.mask (aI t h r).1+1-(aI t h r).1)).take k:=by
       rw[b,<-w];simp
      rw[y,List.take_range,min_eq_left ⋯]
     dsimp only;show%[_,nb t h r+k,ρ,wJ t h r k ⋯,?_|λm d=>?_]
     .rw[tk]at l;simpa using l
     .by_cases q:m<nb t h r
      .exact g m q
      .let:=u (m-nb t h r) (v▸mem_range.mpr ⋯);rw[tk]at this;rw[show m=nb t h r+(m-nb t h r) by lia,wJ t h r _ ⋯];simpa using this
   | none=>
     let all:∀k,k<=runEnd t.mask (aI t h r).1-(aI t h r).1->eP owner ((aI t h r).1+k)=true:=λk c=>by
      let:=(List.find?_eq_none.mp i) k (mem_range.mpr ⋯);rw[tk]at this;simpa using this
     let z:r≠a:=λe=>by
      let:=all 0 (Xa _);rw[add_zero,e,f]at this;cases this
     dsimp only;exact qI t h owner fuel (r+1) %[a,⋯,⋯|f] λm d=>by
      by_cases q:m<nb t h r
      .exact g m q
      .let d:m<nb t h r+(runEnd t.mask (aI t h r).1-(aI t h r).1) +1:=d;rw[show m=nb t h r+(m-nb t h r) by lia,wJ t h r _ ⋯];exact all _ ⋯
structure LO (t:SetTable) (hs:ZL) (owner:Array _):Prop where
 size:owner.size=t.mask+1
 own:∀j q,owner[j]?∣some q->∃h,hs[q]?∣h/\∃n,way t h n=j/\∀m,m<n->eP owner (way t h m)=true
 all:∀q,q< ~~~hs->∃j:Nat,owner[j]?∣some q
 one:∀(j j' q:Nat),owner[j]?∣some q->owner[j']?∣some q->j=j'
def fP(b:j<owner.size):eP owner j=true↔∃q,owner[j]?∣some q:=by
 unfold eP;let e:owner.getD j (some 0)=owner[j]:=!2
 rw[e];let a:owner[j]?∣owner[j]:=by simp
 rw[a];cases owner[j]with
 | none=>simp
 | some q=>simp
def LO.step(L:LO t f owner)(M:t.mask+1=2^k)(room: ~~~f<=t.mask)(h:Int):
 ∃j,layClean.free t.mask owner (turns t.mask) (bits h%(t.mask+1)) (bits h)∣j/\LO t (f++[h]) (owner.setIfInBounds j (some f.length)):=by
 let d:∀h n,way t h n<owner.size:=λh n=>by rw[L.size];let:=sD t h n;lia
 let ex:∃e,e<=t.mask/\eP owner e=false:=by
  show Classical.byContradiction λw=>?_
  let all:∀e,e<t.mask+1->eP owner e=true:=λe c=>by
   cases q:eP owner e with
   | true=>rfl
   | false=>exact absurd %[e,⋯|q] w
  letI g:Nat->Nat:=λe=>((owner[e]?).getD none).getD 0
  let A:∀e,e<t.mask+1->owner[e]?∣some (g e):=λe c=>by
   let%[q|o]:=(λe c=>(fP (L.size▸c)).mp (all e c)) e c;change owner[e]?∣some (((owner[e]?).getD none).getD 0);rw[o];rfl
  let nd:((List.range (t.mask+1)).map g).Nodup:=by
   rw[Yx,X3];show Xc (λ{a b} N O B q=>B ?_) (nodup_iff_pairwise_ne.mp nodup_range);let G:=A b (mem_range.mp O);rw[<-q]at G;exact L.one a b _ (A a (mem_range.mp N)) G
  let:=nodup_sub nd λy Q=>by
   let%[e,c|rfl]:=Xk Q;let%[v,l|_]:=L.own e _ (A e (mem_range.mp c));exact mem_range.mpr (Xh l).1
  rw[Z6,Yf,Yf]at this
  lia
 let%[e,c|C]:=ex;let%[r,hr|o]:=n9 M h e c;let%[j,n,T,H,U|Y]:=qI t h owner (turns t.mask) 0 %[r,Xa _,⋯|o▸C] (λm p=>absurd p (Yz _));show%[j,T|?_];let hj:j<owner.size:=H▸d h n;let nj:∀q,owner[j]? ≠some _:=λq e=>by
  let:=(fP hj).mpr %[q|e];rw[U]at this;cases this
 let get:∀i,(owner.setIfInBounds j (some f.length))[i]? =if j=i then some _ else owner[i]? :=λi=>by
  rw[Array.getElem?_setIfInBounds]
  split
  .first|rfl|simp
  .rfl
 let keep:∀i,eP owner i=true->i<owner.size->eP (owner.setIfInBounds j _) i=true:=λi hi I=>by
  let%[q|e]:=(fP I).mp hi;show(fP (Array.size_setIfInBounds▸I)).mpr ?_;rw[get]
  split
  .exact%[_|ρ]
  .exact%[q|e]
 show%[by rw[Array.size_setIfInBounds];exact L.size,λi q e=>?_,λq o=>?_|λi J q e s=>?_]
 .rw[get]at e
  split at e
  .rename_i E
   cases e;show%[h,by simp,n,by rw[H,E]|λm p=>keep _ (Y m p) (d h m)]
  .let%[v,l,n',e2|e3]:=L.own i q e;exact%[v,(Y7 (Xh l).1)▸l,n',e2|λm p=>keep _ (e3 m p) (d v m)]
 .rw[Z9,Yg]at o;by_cases e:q= ~~~f
  .exact%[j|by rw[get,if_pos rfl,e]]
  .let%[i|hi]:=L.all q ⋯;show%[i|?_];rw[get,if_neg]
   .exact hi
   .intro E;rw[<-E]at hi;exact nj q hi
 .let u:∀i,owner[i]?∣some f.length->False:=λi e=>by
   let%[v,l|_]:=L.own i _ e;let:=(Xh l).1
   lia
  rw[get]at e s
  split at e<;> split at s
  .lia
  .cases e;exact absurd s (λz=>u J z)
  .cases s;exact absurd e (λz=>u i z)
  .exact L.one i J q e s
def uH(c:t.mask+1=2^k)(a:Array Int)(room:a.size<=t.mask+1):∃owner,layClean t.mask a∣owner/\LO t a.toList owner:=by
 let d:∀rest done owner,LO t done owner-> ~~~(done++rest)<=t.mask+1->
  ∃b,rest.foldl (λacc h=>do
   let(owner,k)<-acc
   let j<-layClean.free t.mask owner (turns t.mask) (bits h%(t.mask+1)) (bits h)
   pure (owner.setIfInBounds j (some k),k+1)) (some (owner,~~~done))∣(b,~~~(done++rest))/\LO t (done++rest) b:=by
  intro rest
  induction rest with
  | nil=>intro done owner L _;exact%[owner,by simp|↑L]
  | cons h rest g=>
    intro done owner L i;simp only[Z9,Zr]at i;let%[j,f|l]:=L.step c ⋯ h;let%[b,e|L2]:=g _ _ l (!2);show%[b,?_|↑L2];rw[Y6];let m:(do
     let(owner,k)<-(some (owner,~~~done))
     let j<-layClean.free t.mask owner (turns t.mask) (bits h%(t.mask+1)) (bits h)
     pure (owner.setIfInBounds j (some k),k+1))∣(owner.setIfInBounds j (some done.length),~~~(done++[h])):=by
     change(layClean.free t.mask owner _ _ _).bind _=_;rw[f];simp
    rw[m,e];simp
 let n:LO t [] (Array.replicate (t.mask+1) none):=%[by simp,λj q e=>by
  rw[Array.getElem?_replicate]at e
  split at e<;> simp at e,λq o=>absurd o (Yz _)|λj p q e _=>by
  rw[Array.getElem?_replicate]at e
  split at e<;> simp at e]
 let%[owner,e|L]:=d a.toList [] _ n (room);show%[owner,?_|L];unfold layClean;rw[<-Array.foldl_toList];rw[show(0)= ~~~([]) from rfl,e];rfl
def uI(n:Nat):∀fuel k,3<=k->n<2^(k+fuel)->(2^k<=2*n\/k=3)->∃a,3<=a/\sizeAbove.go n fuel (2^k)=2^a/\n<2^a/\(2^a<=2*n\/a=3)
 | 0,k,b,c,d=>%[k,b,rfl,c|d]
 | fuel+1,k,b,c,d=>by
   rw[sizeAbove.go];by_cases h:2^k<=n
   .rw[if_pos h];let e:2^k*2=2^(k+1):=by rw[pow_succ]
    rw[e];exact uI n fuel _ ⋯ ((show k+1+fuel=k+(fuel+1) by lia)▸c) (.inl ⋯)
   .rw[if_neg h];exact%[k,b,ρ,⋯|d]
def wK(a:n<2^60):∃k,3<=k/\sizeAbove n=2^k/\n<2^k/\(2^k<=2*n\/k=3):=
 uI n 64 3 (Zi _) (Zg a (Nat.pow_le_pow_right (!1) ∅)) (.inr rfl)
def oh [DecidableEq c]:∀{l m:List c},l.Nodup->m.Nodup->(∀x,x∈l↔x∈m)->l.Perm m
 |[],m,_,_,h=>by
  cases m with
  | nil=>simp
  | cons x m=>exact absurd ((h x).mpr Zm) ∅
 | x::l,m,d,b,h=>by
   let%[f|g]:=nodup_cons.mp d;show List.Perm.trans (List.Perm.cons x (oh g (b.erase x) λy=>?_)) (List.perm_cons_erase ((h x).mp Zm)).symm
   constructor
   .intro a;exact(List.mem_erase_of_ne (λe=>f (!2))).mpr ((h y).mp (Zk _ a))
   .intro a;rcases mem_cons.mp ((h y).mpr (List.mem_of_mem_erase a))with q|q
    .exact absurd q (λe=>by rw[e]at a;exact b.not_mem_erase a)
    .exact q
def laid_ok{t:SetTable}(hp:t.mask+1=2^k)(G:7<=t.mask)(c:Array (Int×Value))(room:c.size<=t.mask)(finger moves:Nat)(led plain:Bool):
 ∃t' d,laid t.mask finger moves led plain (c\1)∣(t',d)/\t'.mask=t.mask/\t'.led=led/\t'.plain=plain/\t'.moves=moves/\WF t' (d.filterMap (c[·]?))/\(d.filterMap (c[·]?)).toList.Perm c.toList:=by
 let%[owner,e|L]:=uH hp (c\1) (by rw[size_map];lia);let H:(c\1).toList.length=c.size:=by simp
 obtain⟨live,v⟩:∃live,(List.range (t.mask+1)).filterMap (λj=>(owner.getD j none).map (λq=>(j,q)))=live:=%[_|rfl]
 show%[%[t.mask,(live\1).toArray,#[],finger,led,moves|plain],(live\2).toArray,by unfold laid;rw[e,<-v];rfl,ρ,ρ,ρ,ρ|?_];let gd:∀j q,owner.getD j none∣q↔owner[j]?∣some q:=λj q=>by
  rw[Array.getD_eq_getD_getElem?];cases owner[j]? with
  | none=>simp
  | some o=>simp
 let mem:∀j q,(j,q)∈live↔owner[j]?∣some q:=λj q=>by
  rw[<-v,mem_filterMap]
  constructor
  .rintro⟨I,ac,J⟩;let%[A,s|M]:=map_eq_some_iff.mp J;cases M;exact(gd j q).mp s
  .intro ho;let:j<owner.size:=by
    let%[f|_]:=Array.getElem?_eq_some_iff.mp ho;exact f
   show%[j,mem_range.mpr (by rw[L.size]at this;exact this)|?_];rw[(gd j q).mpr ho];rfl
 let r:(live\1).Pairwise (·<·):=by
  rw[<-v,X3,List.pairwise_filterMap];show List.Pairwise.imp (λ{a b} u x hx y N=>?_) List.pairwise_lt_range;let%[_,_|rfl]:=map_eq_some_iff.mp hx;let%[_,_|rfl]:=map_eq_some_iff.mp N;exact u
 let w:∀j q,(j,q)∈live->q<c.size:=λj q h=>by
  let%[z,s|_]:=L.own j q ((mem j q).mp h);let:=(Xh s).1
  lia
 let C:(live\2).Nodup:=by
  rw[Yx,X3];show Xc (λ{a b} O G u g=>?_) (by rw[X3]at r;exact r);let f:=(mem a.1 a.2).mp O;let Q:=(mem b.1 b.2).mp G;rw[<-g]at Q;let:=L.one _ _ _ f Q
  lia
 let E:(live\2).Perm (List.range c.size):=oh C nodup_range λq=>by
  constructor
  .intro g;let%[%[j|A],f|rfl]:=Xk g;exact mem_range.mpr (w j A f)
  .intro g;let%[j|T]:=L.all q (H▸mem_range.mp g);exact Xl %[(j,q),(mem j q).mpr T|rfl]
 let fm:∀(l:List Nat),(∀q∈l,q<c.size)->l.filterMap (c[·]?)=l.map (λq=>c.getD q (0,Value.none)):=by
  intro l
  induction l with
  | nil=>intro _;rfl
  | cons q l ih=>
    intro g;let f:=g q Zm;let s:c[q]?∣c.getD q (0,Value.none):=by simp[Array.getD,f]
    rw[Y0,s,Ym,ih λy N=>g y (Zk _ N)]
 let U:((live\2).toArray.filterMap (c[·]?)).toList=(live\2).map (λq=>c.getD q (0,Value.none)):=by
  rw[Array.toList_filterMap,List.toList_toArray];exact fm _ λq g=>by
   let%[%[j|A],f|rfl]:=Xk g;exact w j A f
 let er:c.toList=(List.range c.size).map (λq=>c.getD q (0,Value.none)):=by
  apply ext_getElem
  .simp
  .intro i f Q;let f:=↑f
   simp[Array.getD,f]
 show%[%[%[k|hp],G,ρ,?_,λj T=>?_,?_|λi j h x hi B=>?_]|?_]
 .intro a b O Y u;let:=List.pairwise_iff_getElem.mp r a b (O) (Y) u;simpa using this
 .let%[%[I|q],f|rfl]:=Xk T;let:=(Array.getElem?_eq_some_iff.mp ((mem I q).mp f)).1;rw[L.size]at this
  lia
 .rw[<-Zb (xs:=Array.filterMap _ _),U];simp
 .let hi:(live\1)[i]?∣j:=↑hi
  let B:((live\2).toArray.filterMap (c[·]?)).toList[i]?∣(h,x):=↑B
  rw[U,Yn,Zl]at B;rw[Zl]at hi;cases hl:live[i]? with
  | none=>rw[hl]at hi;cases hi
  | some p=>
    let%[I|q]:=p;rw[hl]at hi B;cases hi;let hm:=Z8 hl;let%[z,s,n,n1|n2]:=L.own _ q ((mem _ q).mp hm);let g:=w _ q hm;let eh:z=h:=by
     let M:(c\1).toList[q]?∣(c[q]).1:=by simp[g]
     rw[M]at s;let e3:c.getD q (0,Value.none)=c[q]:=by simp[Array.getD,g]
     simp only[Function.comp,map_some,e3,Option.some.injEq]at B;rw[B]at s;exact(Za s).symm
    subst eh;let wm:∀n,way {mask:=t.mask,place:=(live\1).toArray,dummies:= #[],finger:=finger,led:=led,moves:=moves,plain:=plain} z n=way t z n:=λn=>qH (t':=t) (by rfl) z n
    show%[n,by rw[wm];exact n1|λm ab=>?_];rw[wm];let%[A|J]:=(fP (by rw[L.size];let:=sD t z m;lia)).mp (n2 m ab);exact Xl %[(way t z m,A),(mem _ _).mpr J|rfl]
 .rw[U,er];exact E.map _
section
variable{prog:Program}{w:World}{K:Type}[DecidableEq K]{knd:KeyKind prog w K}{A:Around}{E:ZD}{s:Shared}
abbrev EL(knd:KeyKind prog w K)(h:Heap)(a:Array (Int×Value)):Prop:=∀(i:Nat) e,a[i]?∣e->∃r k,e=(tupleKeyHash knd k,Value.ref r)/\IsTupleKey knd h k r
def mv(f:IsTupleKey knd s.heap ks r)(h:Q false s):↥A (ofAClassStatement 8 (.ref r)) Q E s:=by
 let j:=f.typeIs;let%[o,items,n,l,_,m|hi]:=f;unfold ofAClassStatement;show Z2 (wpAny_typeOf j (Z2 (Z3 (Z2 (wpAny_seqItems l m (Z2 ?_))))));rw[<-forIn_toList];show wpAny_forIn_list _ (λrest r s'=>r=(none,())/\s'=s/\∃g,ItemsAre knd g rest) _ ?_ ?_ _ _ %[rfl,rfl,ks|hi]
 .intro x rest r s' %[rfl,rfl,g|c];cases c with
  | @cons k1 t d i p b=>
    let q:=knd.byValue _ _ p;let e:ofAClassStatement 7 x=pure false:=by
     cases x with
     | ref a=>simp[carriedByValue]at q
     | _=>first|rfl|lia|lia
    show Z2 ?_;rw[e];exact Z3 (Z3 %[rfl,rfl,d|b])
 .intro r s' %[rfl,rfl|_];exact Z3 h
def wL(d:IsTupleKey knd s.heap ks r):∀(l:ZF),(∀y∈l,∃a c,y=Value.ref a/\IsTupleKey knd s.heap c a)->∀{Q:Bool->Shared->Prop},Q false s->↥A (searchCouldBeSeen (.ref r) l) Q E s:=by
 intro l g Q h;show Z2 (wpAny_forIn_list _ (λrest x s'=>x=(none,())/\s'=s/\∀y∈rest,∃a c,y=Value.ref a/\IsTupleKey knd s.heap c a) _ ?_ ?_ _ _ %[rfl,rfl|g])
 .intro y rest x s' %[rfl,rfl|e];let%[a,c,rfl|b]:=e y Zm;let f:=λy i=>e y (Zk _ i)
  dsimp only
  split
  .exact Z3 %[rfl,rfl|f]
  .exact Z2 (wpAny_eqIsQuiet_tuple d (Z2 (wpAny_eqIsQuiet_tuple b (Z2 (mv d (Z2 (mv b (Z3 %[rfl,rfl|f]))))))))
 .intro x s' %[rfl,rfl|_];exact Z3 h
def sH(hu:A.units<cLine)(ho:s.heap.get? a∣o)(hd:o.data= .set u ep t)(W:WF t u)(room:t.place.size<=t.mask)(ae:t.mask<=9000)
 (el:EL knd s.heap u) (hk:IsTupleKey knd s.heap k r)
 (h1:(∃(i:Nat) (g:Addr),u[i]?∣(tupleKeyHash knd k,Value.ref g)/\IsTupleKey knd s.heap k g)->Q (.there none) s)
 (h2:∀m,way t (tupleKeyHash knd k) m∉t.place.toList->(∀q,q<m->way t (tupleKeyHash knd k) q∈t.place.toList)->(∀(i:Nat) g v,u[i]?∣(tupleKeyHash knd v,Value.ref g)->IsTupleKey knd s.heap v g->v≠k)->Q (.free (way t (tupleKeyHash knd k) m) false) s):
 ↥A (setSearch a (.ref r) (tupleKeyHash knd k) true) Q E s:=by
 generalize hh:tupleKeyHash knd k=h at h1 h2
 let hf:t.fits u.size=true:=by
  unfold fits fill;rw[W.dum];simp[W.size];exact W.size▸room
 let%[N,m1,m2|m3]:=wH W room h;let me:t.slot (way t h N)= .empty:=by
  rcases jF W.rise W.dum (way t h N)with⟨i,e,_⟩|⟨_,e⟩
  .exact absurd (mem_toList_iff.mpr (Array.mem_of_getElem? e)) m2
  .exact e
 let ag:t.gaveWay=false:=by
  let%[c|hc]:=W.pow;let hb:=W.big;let c0:c≠0:=λq=>by rw[q]at hc;lia
  let%[c'|rfl]:=Nat.exists_eq_succ_of_ne_zero c0;rw[pow_succ]at hc;unfold gaveWay;let:t.mask%2=1:=by lia
  simp[this]
 let O:∀(fuel n:Nat) (st:Option Probe),st.getD (t.probeStart h)=stand t h n->n<=N->N<n+fuel->(∀j,j<n->∀(i:Nat) g v,t.slot (way t h j)= .live i->u[i]?∣(tupleKeyHash knd v,Value.ref g)->IsTupleKey knd s.heap v g->v≠k)->
  ↥A (setSearchFrom a (.ref r) h true fuel st) Q E s:=by
  intro fuel
  induction fuel with
  | zero=>intro n st _ a1 a2;lia
  | succ fuel ih=>
    intro n st ai hn a5 T;unfold setSearchFrom;show Z2 (wpAny_setState_of ho hd hf ?_);dsimp only;rw[ag];simp only[Zz,if_false];rw[ai]
    generalize aj:SetTable.probe t _ h (stand t h n)=pr
    let l:SetTable.probe.go t (λi=>((u[i]?)\1).getD 0) h (10*turns t.mask) (stand t h n)=pr:=aj;let%[q,q1,q2,q3|q4]:=uF (t:=t) W.dum (hashAt:=λi=>((u[i]?)\1).getD 0) (h:=h) (10*turns t.mask) n N hn ⋯ me;rcases q4 with⟨J,e2⟩|⟨i,J,e2,e3⟩
    .rw[e2]at l;subst l;let hq:q=N:=by
      rcases Nat.eq_or_lt_of_le q2 with z|z
      .exact z
      .let:=m3 q z;rcases jF W.rise W.dum (way t h q)with⟨i,_,U⟩|⟨z2,_⟩
       .rw[J]at U;cases U
       .exact absurd this z2
     subst hq;dsimp only;show Z3 (h2 q m2 m3 λi g v p B C=>?_);subst C;rw[hh]at p;let hi:i<u.size:=(Array.getElem?_eq_some_iff.mp p).1;let hp:t.place[i]?∣t.place[i]'(W.size▸hi):=by simp
     let%[Y,c1|c2]:=W.chain i _ h _ hp p;let G:=qG W.rise hp;let al:Y<q:=by
      rcases Nat.lt_trichotomy Y q with z|z|z
      .exact z
      .rw[z,]at c1;rw[<-c1,me]at G;cases G
      .exact absurd (c2 q z) m2
     rw[<-c1]at G;by_cases ab:Y<n
     .exact T Y ab i g v G (hh▸p) B rfl
     .let%[H,U|ac]:=q3 Y ⋯ al;rw[G]at U;cases U;rw[p]at ac;exact ac rfl
    .rw[e3]at l;subst l;obtain⟨x0,p⟩:∃e,u[i]?∣e:=by
      let an:t.place[i]?∣way t h q:=by
       rcases jF W.rise W.dum (way t h q)with⟨H,p1,I⟩|⟨_,I⟩
       .rw[J]at I;cases I;exact p1
       .rw[J]at I;cases I
      let:=(Array.getElem?_eq_some_iff.mp an).1;exact%[u[i]'(W.size▸this)|by simp[<-W.size,this]]
     let%[g,v,rfl|B]:=el i x0 p;let a6:q<N:=Nat.lt_of_le_of_ne q2 λz=>by rw[z,me]at J;cases J
     let L:↥A (do
      let f<-holding [Value.ref g] (eqBool (Value.ref g) (Value.ref r))
      let x<-setState a
      if(true&&f)=true then pure (SetFound.there none)
      else match x.2.snd.sameMemory t.moves t.mask with
       | some same=>
         match if same=true then x.2.snd.slot (way t h q)else Slot.empty with
         | Slot.live H=>
           match x.fst[H]? with
           | some (_,y')=>do
             let b<-isSame y' (Value.ref g)
             let d<-pure (if b=true then some H else none)
             match d with
              | none=>do
                rule "set.search.anew"
                setSearchFrom a (Value.ref r) h true fuel none
              | some H=>
                if f=true then pure (SetFound.there (some H))
                else setSearchFrom a (Value.ref r) h true fuel (some (stand t h (q+1)))
           | none=>do
             let d<-pure none
             match d with
              | none=>do
                rule "set.search.anew"
                setSearchFrom a (Value.ref r) h true fuel none
              | some H=>
                if f=true then pure (SetFound.there (some H))
                else setSearchFrom a (Value.ref r) h true fuel (some (stand t h (q+1)))
         | x=>do
           let d<-pure none
           match d with
            | none=>do
              rule "set.search.anew"
              setSearchFrom a (Value.ref r) h true fuel none
            | some H=>
              if f=true then pure (SetFound.there (some H))
              else setSearchFrom a (Value.ref r) h true fuel (some (stand t h (q+1)))
       | x=>unsupported "set.changed-during-lookup:is-the-new-block-at-the-old-address") Q E s:=by
      show Z2 (wpAny_holding (wpAny_eqBool_tuple hu B hk (Z2 (wpAny_setState_of ho hd hf ?_))));dsimp only;by_cases C:v=k
      .subst C;rw[Zf rfl];exact Z3 (h1 %[i,g,(by rw[p]at e2;exact e2)▸p|B])
      .rw[Zh C];let sm:t.sameMemory t.moves t.mask∣true:=by unfold sameMemory;rw[if_pos ∅]
       rw[sm];simp only[if_true];rw[J];dsimp only;rw[p];dsimp only;let same:isSame (Value.ref g) (Value.ref g)=pure true:=by
        unfold isSame;simp
       show Z2 ?_;rw[same];show Z3 ?_;simp only[if_true];show Z2 (Z3 ?_);dsimp only;show ih (q+1) _ rfl ⋯ ⋯ λj hj i2 r2 k2 s2 g2 t2=>?_
       by_cases as:j<n
       .exact T j as i2 r2 k2 s2 g2 t2
       .by_cases a0:j=q
        .subst a0;rw[J]at s2;cases s2;rw[p]at g2;let:g=r2:=by
          let:=Za g2;injection this with _ z
          injection z
         subst this;exact(B.inj t2)▸C
        .let%[i3,p1|I]:=q3 j ⋯ ⋯;rw[s2]at p1;cases p1;rw[g2]at I;intro z;rw[z]at I;exact I hh
     dsimp only;rw[p];dsimp only;by_cases M:(!t.led)=true
     .rw[if_pos M];show Z2 (wL hk _ (λy hy=>?_) ?_)
      .let%[e,a3|rfl]:=Xk hy;let%[i2|hi2]:=Array.getElem?_of_mem ((Array.mem_filter.mp (mem_toList_iff.mp a3)).1);let%[r2,k2,rfl|a4]:=el i2 e hi2;exact%[r2,k2,ρ|a4]
      .exact L
     .rw[if_neg M];exact L
 exact O 100000 0 none rfl (Xa _) (by unfold turns at m1;lia) (λj hj=>absurd hj (Yz _))
end
structure IN (es:Array _) (t:SetTable) (led:Bool):Prop where
 wf:WF t es
 roomy:t.place.size*5<t.mask*3
 small:t.mask<=7\/t.mask+1<=8*es.size
 led:t.led=led
 plain:es.size≠0->t.plain=false
def IN.fits{a:Array _}{t:SetTable}{led:Bool}(I:IN a t led):t.fits a.size=true:=by
 unfold SetTable.fits fill;rw[I.wf.dum];let:=I.roomy;simp[I.wf.size];rw[<-I.wf.size]
 lia
def IN.fresh(finger moves:Nat)(led:Bool):IN #[] (SetTable.fresh finger moves led) led:=
 %[%[%[3|rfl],Zi _,rfl,λa b c=>absurd c (by simp[SetTable.fresh]),λj d=>by simp[SetTable.fresh]at d,rfl|λi j h x hi=>by simp[SetTable.fresh]at hi],show 0*5<7*3 from !1,.inl (Zi _),rfl|λq=>absurd rfl q]
section
variable{prog:Program}{w:World}{K:Type}[DecidableEq K]{knd:KeyKind prog w K}{A:Around}{E:ZD}{s:Shared}
def relay_w(e:s.heap.get? a∣o)(f:o.data= .set c z t)(j:t.fits c.size=true)(B:c.size<=n)(hw:n<=4000)
 (h:∀d t',d.toList.Perm c.toList->WF t' d->t'.led=t.led->t'.plain=t.plain->n<=t'.mask->t'.mask+1<=2*n\/t'.mask<=7->Q () (s>>>s.heap.update a (Obj.putSet d t'))):
 ↥A (setRelay a n) Q E s:=by
 let%[k,l,g,lt|le]:=wK (n:=n) ⋯;let C:8<=2^k:=Nat.le_trans (by simp:8<=2^3) (Nat.pow_le_pow_right ∅ l);let i:2^k<=2*n\/2^k=8:=by
  rcases le with q|q
  .exact .inl q
  .exact .inr (by rw[q])
 let m:2^k<=8000:=by rcases i with q|q<;> lia
 letI p:SetTable:={t with mask:=2^k-1}
 let%[t',b,r,G,u,v,H,W|P]:=laid_ok (t:=p) (k:=k) (by change 2^k-1+1=2^k;lia) (by change 7<=2^k-1;lia) c (by change c.size<=2^k-1;lia) t.finger _ t.led t.plain;let y:t.relaid (c\1) n∣(t',b):=by
  unfold relaid;rw[g];exact r
 let sz:(b.filterMap (c[·]?)).size=c.size:=by rw[<-Zb,P.length_eq,Zb]
 show Z2 (wpAny_setState_of e f j ?_);dsimp only;rw[g,if_neg (by rw[PySem.sizeLine_eq];lia)];rw[y];show Z2 ?_;change wpAny _ A (if((b.filterMap _).size != c.size)=true then _ else pure _) _ E s;rw[if_neg (by simp[sz])];exact Z3 (wpAny_storeSet_of e f (h _ t' P W u v ⋯ (by rcases i with q|q<;> lia)) (by rw[sz,PySem.sizeLine_eq];lia))
def Bq(e:s.heap.get? a∣o)(f:o.data= .set c j t)(g:t.fits c.size=true)(m:c.size<=1000)(n:c.size≠0)(d:t.plain=false)
 (h:∀b t',b.toList.Perm c.toList->IN b t' t.led->t'.plain=false->Q () (s>>>s.heap.update a (Obj.putSet b t'))):
 ↥A (setRelay a (grown c.size)) Q E s:=by
 let i:grown c.size=c.size*4:=by unfold grown;rw[if_neg ⋯]
 rw[i];show relay_w e f g ⋯ ⋯ λb t' P W l p q m2=>?_
 let sz:b.size=c.size:=by rw[<-Zb,P.length_eq,Zb]
 exact h b t' P %[W,by rw[W.size,sz];lia,⋯,l|λ_=>p▸d] (p▸d)
def zg{led:Bool}(M:A.units<cLine)(p:s.heap.get? a∣o)(n:o.data= .set d ep t)(I:IN d t led)(hn:d.size+1<=1000)
 (el:EL knd s.heap d) (B:IsTupleKey knd s.heap k r) (hv:∀(s':Shared) (N:Bool->Shared->Prop),IsTupleKey knd s'.heap k r->N false s'->↥A (hashByValue 8 (.ref r)) N E s')
 (h1:(∃(i:Nat) (u:Addr),d[i]?∣(tupleKeyHash knd k,Value.ref u)/\IsTupleKey knd s.heap k u)->Q false {s with toks:=s.toks+(~~~k+1)})
 (O:(∀(i:Nat) (u:Addr) (C:List K),d[i]?∣(tupleKeyHash knd C,Value.ref u)->IsTupleKey knd s.heap C u->C≠k)->∀g t' G H,H.get? a=some {o with data:= .set g G t'}->SameBut a s.heap H->g.toList.Perm (d.toList++[(tupleKeyHash knd k,Value.ref r)])->IN g t' led->Q true {s with heap:=H,toks:=s.toks+(~~~k+1)}):
 ↥A (setAdd a (.ref r)) Q E s:=by
 unfold setAdd;show wpAny_holding (Z2 (wpAny_pyHash_tuple M B ?_));unfold setAddHashed;show wpAny_holding ?_;unfold setAddHashedIn;show Z2 (wpAny_setState_of (s:={s with toks:=s.toks+(~~~k+1)}) p n I.fits ?_);dsimp only;let ns:byScan (Value.ref r) d=false:=rfl;rw[ns];simp only[Zz,if_false];let rm:=I.roomy;show Z2 (sH (s:={s with toks:=s.toks+(~~~k+1)}) M p n I.wf ⋯ (by rcases I.small with q|q<;> lia) el B (λq=>?_) λm T m2 U=>?_)
 .exact Z3 (h1 q)
 .dsimp only;show Z2 (wpAny_setState_of (s:={s with toks:=s.toks+(~~~k+1)}) p n I.fits ?_);dsimp only;let v:=I.wf;let%[p1,Y,p3,p4,p5,p6|Wp]:=v.put (x:=Value.ref r) T m2 t.led false;let%[_,_,_,_,_,_|Wq]:=v.put (x:=Value.ref r) T m2 (t.put (way t (tupleKeyHash knd k) m)).1.led (t.put (way t (tupleKeyHash knd k) m)).1.plain;let y:(t.put (way t (tupleKeyHash knd k) m)).2<=d.size:=by
   rw[p1,<-v.size];exact(jE v.rise _).1
  let e:(insertAt d (t.put (way t (tupleKeyHash knd k) m)).2 (tupleKeyHash knd k,Value.ref r)).size=d.size+1:=iJ _ _ _ y;let h:(insertAt d (t.put (way t (tupleKeyHash knd k) m)).2 (tupleKeyHash knd k,Value.ref r)).toList.Perm (d.toList++[(tupleKeyHash knd k,Value.ref r)]):=by
   rw[j0 _ _ _ y];let q:=X7 (t.put (way t (tupleKeyHash knd k) m)).2 d.toList;show List.Perm.trans List.perm_middle ?_;rw[q];exact List.perm_append_comm (l₁:=[_])
  generalize ab:insertAt d _ _=c at Wp Wq e h
  let f:∀b:SetTable,WF b c->b.mask=t.mask->b.place.size=t.place.size+1->b.led=led->b.plain=false->
   ↥A (do storeSet a c b;if(!false&&b.tooFull)=true then do setRelay a (grown (d.size+1));pure true else pure true) Q E {s with toks:=s.toks+(~~~k+1)}:=λb W2 e1 e2 e3 e4=>by
   let g1:=by
    let q:=get?_update_self (Obj.putSet c b) p (by rw[putSet_of c b n];rfl);rwa[putSet_of c b n]at q
   let b1:=SameBut.update s.heap a (Obj.putSet c b);show Z2 (wpAny_storeSet_of p n ?_ (e▸Nat.le_trans hn (!1)));let J:b.tooFull=true↔b.mask*3<=b.place.size*5:=by
    unfold tooFull fill;rw[W2.dum];simp
   by_cases hf:b.tooFull=true
   .rw[if_pos (by simp[hf])];let z:b.fits c.size=true:=by
     unfold SetTable.fits fill;rw[W2.dum];simp[W2.size];exact W2.size▸(by rw[e1,e2];let:=v.big;lia)
    rw[<-e];show Z2 (Bq g1 rfl z ⋯ ⋯ e4 λj L P3 I3 _=>Z3 ?_);let g2:=by
     let q:=get?_update_self (Obj.putSet j L) g1 (by rfl);rwa[putSet_of j L rfl]at q
    exact O U j L _ _ g2 (b1.trans (SameBut.update _ a _)) (P3.trans h) (by rw[e3]at I3;exact I3)
   .rw[if_neg (by simp[hf])];show Z3 (O U c b _ _ g1 b1 h %[W2,⋯,?_,e3|λ_=>e4]);rw[e1,e];rcases I.small with q|q
    .exact .inl q
    .exact .inr ⋯
  by_cases l:(t.put (way t (tupleKeyHash knd k) m)).1.plain=true
  .rw[if_pos l];exact Z2 (hv _ _ B (f _ Wp Y p3 I.led rfl))
  .rw[if_neg l];exact f _ Wq Y p3 (p4.trans I.led) ↑l
end
end _ST
namespace _LL
open PySem PySem.Spec PyProof.Rows _ST
abbrev gH{a:Type}[DecidableEq a](ps:List (Addr×a))(p:Addr×a):List (Addr×a):=if p.2∈ps\2 then ps else ps++[p]
abbrev bz{a:Type}[DecidableEq a](l:List (Addr×a)):List (Addr×a):=l.foldl gH []
section
variable{κ:Type}[DecidableEq κ]
def Br{ps:List _}{p q:Addr×κ}(h:q∈gH ps p):q∈ps\/q=p:=by
 unfold gH at h
 split at h
 .exact .inl h
 simp_all
def zh{ps:List (Addr×κ)}{p:Addr×κ}{k:κ}:k∈(gH ps p)\2↔k∈ps\2\/k=p.2:=by
 unfold gH;by_cases h:p.2∈ps\2
 .rw[if_pos h];exact%[.inl|λq=>q.elim id λe=>e▸h]
 .rw[if_neg h,Zd,Yo];simp
def wM{ps:List (Addr×κ)}{p:Addr×κ}(h:(ps\2).Nodup):((gH ps p)\2).Nodup:=by
 unfold gH
 split
 .exact h
 .rename_i a
  rw[Zd];exact m9 h a
def xC:∀(l ps:List (Addr×κ)),(ps\2).Nodup->((l.foldl gH ps)\2).Nodup/\(∀k,k∈(l.foldl gH ps)\2↔k∈ps\2\/k∈l\2)/\(∀q∈l.foldl gH ps,q∈ps\/q∈l)
 |[],ps,h=>%[h,λk=>by simp|λq a=> .inl a]
 | p::l,ps,h=>by
   let%[b,c|d]:=xC l _ (wM h);rw[Y6];show%[b,λk=>?_|λq a=>?_]
   .rw[c,zh,Ym,Ys]
    grind
   .rcases d q a with z|z
    .rcases Br z with z|z
     .exact .inl z
     .exact .inr (z▸Zm)
    .exact .inr (Zk _ z)
def dL(l:List (Addr×κ)):((bz l)\2).Nodup:=(xC l [] Yy).1
def gJ(l:List (Addr×κ))(k:κ):k∈(bz l)\2↔k∈l\2:=by
 let:=(xC l [] Yy).2.1 k;simpa [bz]using this
def bv(l:List (Addr×κ)):∀q∈bz l,q∈l:=λq a=>by
 rcases(xC l [] Yy).2.2 q a with z|z
 .cases z
 .exact z
def sI{l:List (Addr×κ)}{i:Nat}{p:Addr×κ}(h:l[i]?∣p):bz (l.take (i+1))=gH (bz (l.take i)) p:=by
 unfold bz;rw[X6,h,List.foldl_append];rfl
end
section
variable{prog:Program}{w:World}{κ:Type}[DecidableEq κ]{knd:PySem.KeyKind prog w κ}{A:Around}{E:ZD}{s:Shared}{a:Addr}
abbrev sJ(w:World)(knd:PySem.KeyKind prog w κ)(a:Addr)(ps:List (Addr×List κ))(h:Heap):Prop:=
 ∃o b c t,h.get? a∣o/\o.ExactSet/\o.data= .set b c t/\IN b t (!aQ w)/\b.toList.Perm (ps.map λp=>(tupleKeyHash knd p.2,Value.ref p.1))
def sJ.keep(S:sJ w knd a ps h)(k:∀o,h.get? a∣o->b.get? a∣o):sJ w knd a ps b:=by
 let%[o,c,d,t,e|r]:=S;exact%[o,c,d,t,k o e|r]
def xD(x:IsTupleKey knd h k r)(q:∀o,h.get? r∣o->b.get? r∣o):IsTupleKey knd b k r:=by
 let%[o,items,n,c|z]:=x;exact%[o,items,n,q o c|z]
def Bs(y:A.units<cLine)(B:sJ w knd a ps s.heap)(tk:∀q∈ps,IsTupleKey knd s.heap q.2 q.1)(C:IsTupleKey knd s.heap p.2 p.1)(room: ~~~ps+1<=1000)
 (G:∀(s':Shared) (n:Bool->Shared->Prop),IsTupleKey knd s'.heap p.2 p.1->n false s'->↥A (hashByValue 8 (.ref p.1)) n E s')
 (r:∀f b tk,SameBut a s.heap f->sJ w knd a (gH ps p) f->s.toks<=tk->Q b {s with heap:=f,toks:=tk}):↥A (setAdd a (.ref p.1)) Q E s:=by
 let%[o,h,H,t,u,g,v,I|P]:=B;let hn:=by
  let:=P.length_eq;rw[Z6,Zb]at this;exact this
 let mem:∀i e,h[i]?∣e->∃q∈ps,e=(tupleKeyHash knd q.2,Value.ref q.1):=λi e j=>by
  let:=mem_toList_iff.mpr (Array.mem_of_getElem? j);let%[q,c|rfl]:=Xk (P.mem_iff.mp this);exact%[q,c|ρ]
 let J:EL knd s.heap h:=λi e j=>by
  let%[q,c|rfl]:=mem i e j;exact%[q.1,q.2,ρ|tk q c]
 show zg y u v I ⋯ J C G (λ⟨i,L,e,M⟩=>?_) λd l t' m f N O T U=>?_
 .let%[q,c|Y]:=mem i _ e;let er:L=q.1:=by injection Y with _ z;injection z
  subst er;show r s.heap false _ (SameBut.refl a s.heap) ?_ (le_add_right _ _);unfold gH;rw[if_pos (Xl %[q,c|(M.inj (tk q c)).symm])];exact%[o,h,H,t,u,g,v,I|P]
 .show r f true _ O ?_ (le_add_right _ _);unfold gH;rw[if_neg]
  .show%[_,l,m,t',N,g,ρ,U|T.trans ?_];rw[Zd];exact P.append_right _
  .intro hm;let%[q,c|e]:=Xk hm;let:=P.mem_iff.mpr (Xl %[q,c|rfl]);let%[i|hi]:=Xb this;exact d i q.1 q.2 ↑hi (tk q c) e
end
section
variable{prog:Program}{w:World}{κ:Type}[DecidableEq κ]{knd:PySem.KeyKind prog w κ}{A:Around}{E:ZD}{s:Shared}
def pQ(y:A.handled=none)(Y:A.units+16<cLine)(z:s.heap.IsList l items)(hi:items.toList=ps.map λp=>Value.ref p.1)(tk:∀p∈ps,IsTupleKey knd s.heap p.2 p.1)(U:List (List κ))(hU: ~~~U<=999)(g:∀p∈ps,p.2∈U)
 (C:∀p∈ps,∀(B:Around) (s':Shared) (d:Bool->Shared->Prop) (G:ZD),IsTupleKey knd s'.heap p.2 p.1->d false s'->↥B (hashByValue 8 (.ref p.1)) d G s')
 (H:∀(a:Heap) (tk:Nat),sJ w knd ⇑s (bz ps) a->(∀b o,s.heap.get? b∣o->a.get? b∣o)->Q (.ref ⇑s) {s with heap:=a,toks:=tk}):
 ↥A (call (.type "set") [.ref l]) Q E s:=by
 let c:items.size= ~~~ps:=by rw[<-Zb,hi,Z6]
 show mj (T:=λi h=>sJ w knd ⇑s (bz (ps.take i)) h) y z (λh e=>%[_,#[],0,_,e,%[rfl,rfl|rfl],rfl,IN.fresh 0 0 _|List.Perm.refl _]) (λi h a S k=>S.keep k) (λi v s1 Q E e I r k=>?_) λa t S k=>H a t (by rwa[c,Zn (Zi _)]at S) k
 rw[<-getElem?_toList,hi,Zl]at e;let%[p,u|rfl]:=map_eq_some_iff.mp e;let sub:∀q∈bz (ps.take i),q∈ps:=λq j=>Yt (bv _ q j)
 let f:=Z8 u;show Bs (p:=p) (by simp only[Around.in1];lia) I (λq j=>xD (tk q (sub q j)) λo=>r _ o) (xD (tk p f) λo=>r _ o) ?_ (λs' d=>C p f _ s' d _) λJ b L M n N=>k J b L M (by rw[sI u];exact n) N
 let q:=nodup_sub (dL (ps.take i)) (m:=U) λk O=>by
  let%[p,f|rfl]:=Xk ((gJ _ k).mp O);exact g p (Yt f)
 rw[Z6]at q
 lia
end
open PySem PySem.Spec PyProof.Rows
section
variable{prog:Program}{w:World}{A:Around}{s:Shared}
def pR{a:Addr}{vs:ZF}{n:Nat}{kd:SortKind}{P:Fin->Shared->Prop}{E:ZD}(q:s.heap.get? a∣seqObj "list" vs.toArray n)(t: ~~~vs<=100000)
 (f:∀j:Heap,(∀b o,b≠a->s.heap.get? b∣o->j.get? b∣o)->2<= ~~~vs->∀Q:SortKind->Shared->Prop,Q kd (s>>>j)->↥A (keyKind' vs.toArray) Q E (s>>>j))
 (C:∀j:Heap,(∀b o,b≠a->s.heap.get? b∣o->j.get? b∣o)->_SB.Cmp prog w A (λs'=>s'=(s>>>j)) kd λx=>x.1∈vs)
 (h:∀out:ZJ,out.toList.Perm vs->P (.done (.ret .none)) (s>>>sortedHeap s.heap a vs out)):
 ↥A (Builtin.«list.sort» %[[.ref a]|[]]) P E s:=by
 rw[list_sort_plain];let y:a<⇑s:=Zu q;let g: ~~~vs<=sizeLine:=Nat.le_trans t (!1);show Z2 (listItems_at q rfl ?_);show Z2 (listUpdate_at q rfl ?_ (g));obtain⟨u,l⟩:∃u,(s.heap.update a (Obj.mapSeq λ_=> #[])).get? a∣(seqObj "list" #[] u):=%[_|get?_update_seq q (λ_=> #[])]
 show Z2 (seqEpoch_at l rfl ?_);show Z2 (wpAny_newTuple ?_ (g));show Z2 (wpAny_newList ?_);show wpAny_holding ?_;let keep:∀b o,b≠a->s.heap.get? b∣o->(((s.heap.update a (Obj.mapSeq λ_=> #[])).push (seqObj "tuple" vs.toArray 0)).push (seqObj "list" #[] 0)).get? b∣o:=λb o G e=>
  Z7 _ (Z7 _ ((get?_update_other _ _ (Ne.symm G)).trans e))
 let d:(((s.heap.update a (Obj.mapSeq λ_=> #[])).push (seqObj "tuple" vs.toArray 0)).push (seqObj "list" #[] 0)).get? a∣(seqObj "list" #[] u):=by
  rw[Heap.get?_push_ne _ _ _ (by rw[size_push',Heap.size_update];exact Zs (Yj y)),Heap.get?_push_ne _ _ _ (by rw[Heap.size_update];exact Zs y)];exact l
 let f:=f _ keep;change ↥A _ P E {s with heap:=((s.heap.update a (Obj.mapSeq λ_=> #[])).push (seqObj "tuple" vs.toArray 0)).push (seqObj "list" #[] 0)};dsimp only;let H:vs.toArray.size= ~~~vs:=by simp
 let r:(vs.toArray.zip vs.toArray).toList=vs.map λv=>(v,v):=by
  rw[Array.toList_zip,List.toList_toArray];apply ext_getElem
  .simp
  .intro i M m;simp
 let fin:∀c:SortSt,(arrOf c).toList.Perm (vs.map λv=>(v,v))->P (.done (.ret .none)) (s>>>(sortedHeap s.heap a vs ((arrOf c)\2))):=λc p=>h _ (by
  let:=p\2;rwa[Yn,show((λx:Keyed=>x.2) ∘ λv:Value=>(v,v))=id from rfl,List.map_id,<-Array.toList_map]at this)
 by_cases m:vs.toArray.size<2
 .rw[if_pos m,if_pos m];show Z2 (Z3 ?_);rw[StateT.run_pure];show Z2 (Z3 ?_);dsimp only;show Z2 (seqEpoch_at d rfl (Z2 (listUpdate_at d rfl ?_ (hsz2:=by rw[size_map];change(pairsOf vs).size<=_;rw[pairsOf_size,sizeLine_eq];omega))));simp only[bne_self_eq_false,Zz,if_false];exact Z3 (fin _ (by rw[r]))
 .rw[if_neg m,if_neg m];show Z2 (f (by omega) _ ?_);show Z2 (wpAny_mono (_SB.sc_sortMany (D:=λx=>x.1∈vs) (st:=SortSt.mk' kd (vs.toArray.zip vs.toArray) #[] 7 none) (C _ keep) (λx z=>?_) ?_ rfl rfl
   (Q:=λ_ c=>(arrOf c).toList.Perm (vs.map λv=>(v,v))/\failedOf c=none) (λc I J=>%[?_|J]) _ rfl) ?_ λ_ _ e=>e.elim)
  .rw[r]at z;let%[v,L|rfl]:=Xk z;exact L
  .rw[<-Zb,r,Z6];omega
  .rwa[r]at I
  .rintro⟨⟨⟩,c⟩ s' ⟨rfl,p,B⟩;dsimp only at p B ⊢;show Z2 (seqEpoch_at d rfl (Z2 (listUpdate_at d rfl ?_ (hsz2:=?_))))
   .rw[B];simp only[bne_self_eq_false,Zz,if_false];exact Z3 (fin c p)
   .rw[size_map,<-Zb,p.length_eq,Z6];exact Nat.le_succ_of_le g
nonrec abbrev Kp(s a:Shared):Prop:=∀b o,s.heap.get? b∣o->a.heap.get? b∣o
def lz{S:Addr}{G:ZF->Prop}{O:ZF->ZJ->Prop}{Q:ZD}{E:ZD}(d:∀(i:ZD) (R:ZF->Shared->Prop),(∀c us,G us->Kp s c->c.gens=s.gens->c.os=s.os->R us c)->↥A.in1 (collect (.ref S)) R i s)(j:∀us,G us-> ~~~us<=1000)
 (t:∀(f:Shared) (u:Around) (us:ZF) (a:Addr) (P:Fin->Shared->Prop) (i:ZD),G us->f.heap.get? a∣seqObj "list" us.toArray 0->(∀b o,s.heap.get? b∣o->f.heap.get? b∣o/\b≠a)->(∀out,O us out->P (.done (.ret .none)) (f>>>sortedHeap f.heap a us out))->↥u (Builtin.«list.sort» %[[.ref a]|[]]) P i f)
 (v:∀(c s':Shared) (l:Addr) (us:ZF) (out:ZJ) (n:Nat),G us->O us out->Kp s c->c.gens=s.gens->c.os=s.os->Kp c s'->s'.gens=c.gens->s'.os=c.os->⇑c<=l->s'.heap.get? l=some {cls:= .type "list",data:= .seq out n}->Q (.ref l) s'):
 ↥A (call (.builtin "sorted") [.ref S]) Q E s:=by
 show Calls.call_function_entry kind_sorted plain_sorted entry_sorted (args_sorted1 _) ?_;unfold Builtin.«sorted»;show Z2 (m:=checkCount "sorted" 1 1 _) (Z3 ?_);show Z2 (d _ _ λc us g k1 g1 y=>?_);show Z2 (wpAny_newList ?_ (by let:=j us g;rw[sizeLine_eq];lia));let p:(c.heap.push (seqObj "list" us.toArray 0)).get? ⇑c∣seqObj "list" us.toArray 0:=Zj _ rfl;show Z2 (wpAny_holding (wpAny_call_entry slot_list_sort %[_,p|rfl] entry_list_sort (t (c>>>c.heap.push (seqObj "list" us.toArray 0)) _ us _ _ _ g p (λb o e=>%[Z7 _ (k1 b o e)|Zs (Zu (k1 b o e))]) λout q=>%[_,rfl|?_]) (args_list_sort _)));obtain⟨n,z⟩:∃n,(sortedHeap (c.heap.push (seqObj "list" us.toArray 0)) ⇑c us out).get? ⇑c∣seqObj "list" out n:=sortedHeap_at p;show Z3 %[_,rfl|v c _ ⇑c us out n g q k1 g1 y (λb B r=>?_) rfl rfl (Zi _) z];let h:=Zu r;change(sortedHeap _ _ _ _).get? b=_;rw[sortedHeap_old (Zs h) (by rw[Zq];exact Yj h)];exact Z7 _ r
def oi{G:ZF->Prop}{kd:SortKind}(j:∀us,G us-> ~~~us<=1000)
 (l:∀us (c:Shared) (d:Around) (m:ZD) (Q:SortKind->Shared->Prop),G us->2<= ~~~us->Kp s c->Q kd c->↥d (keyKind' us.toArray) Q m c)
 (p:∀us x y (c:Shared) (d:Around) (Q:Bool->Shared->Prop),G us->x∈us->y∈us->Kp s c->(∀b,Q b c)->↥d (keyLt' kd x y) Q (λ_ _=>False) c)
 (f:Shared) (d:Around) (us:ZF) (a:Addr) (P:Fin->Shared->Prop) (m:ZD) (g:G us) (q:f.heap.get? a∣seqObj "list" us.toArray 0) (i:∀b o,s.heap.get? b∣o->f.heap.get? b∣o/\b≠a) (h:∀out:ZJ,out.toList.Perm us->P (.done (.ret .none)) (f>>>sortedHeap f.heap a us out)):↥d (Builtin.«list.sort» %[[.ref a]|[]]) P m f:=
 pR q (by let:=j us g;lia) (λr n t u v=>l us _ _ _ u g t (λb o e=>n b o (i b o e).2 (i b o e).1) v) (λr n x y s' z B e=>by
  subst e;exact p us _ _ _ _ _ g z B (λb o e=>n b o (i b o e).2 (i b o e).1) λ_=>rfl) h
end
abbrev aS(x y:Str):Bool:=decide (x.cps.toList<y.cps.toList)
def gK(x:Str):aS x x=false:=Zh (List.lt_irrefl _)
def FX{x y:Str}(h:x.cps.toList=y.cps.toList):x=y:=by
 obtain⟨⟨l⟩⟩:=x
 simp_all
def eF{x y z:Str}(a:aS x y=true)(b:aS y z=true):aS x z=true:=Zf (List.lt_trans (Zo a) (Zo b))
def i7{x y:Str}(h:aS x y=false)(a:x≠y):aS y x=true:=by
 exact Zf (Classical.byContradiction λb=>a (FX (List.le_antisymm b (of_decide_eq_false h))))
def qJ:∀(p:Str) (l:ZB),risingS p l=true->(p::l).Pairwise (λa b=>aS b a=false)
 | p,[],_=>List.pairwise_singleton _ _
 | p,x::r,h=>by
   let h:(!ltCps x.cps.toList p.cps.toList&&risingS x r)=true:=h;rw[Zw,Bool.not_eq_true',ltCps_eq]at h;let d:=qJ x r h.2;show List.pairwise_cons.mpr %[λy c=>?_|d];rcases mem_cons.mp c with rfl|c
   .exact h.1
   .exact Zh (List.not_lt.mpr (List.le_trans (List.not_lt.mp (of_decide_eq_false h.1)) (List.not_lt.mp (of_decide_eq_false (List.rel_of_pairwise_cons d c)))))
def zi:∀(l:ZB),sortedS l=true->l.Pairwise (λa b=>aS b a=false)
 |[],_=>List.Pairwise.nil
 | p::l,h=>qJ p l h
section
variable{prog:Program}{w:World}{A:Around}{s:Shared}{E:ZD}
nonrec abbrev FY(prog:Program)(w:World)(h:Heap)(zs:ZB)(r:Addr):Prop:=IsTupleKey (aL prog w) h (zs.map Sum.inr) r
def lA:∀{zs:ZB} {vs:ZF},ItemsAre (aL prog w) (zs.map Sum.inr) vs->StrsAre vs zs
 |[],_,h=>by cases h;exact .nil
 | z::zs,_,h=>by
   cases h with
   | cons a d=>
     let a:jk (Sum.inr z) _=true:=a;rcases aY a with⟨i,t,b,c⟩|⟨y,t,b,c⟩
     .cases b
     .cases b;subst c;exact .cons z t (lA d)
inductive j6:ZF->ZF->Prop where
 | nl (us:ZF):j6 [] us
 | nr (us:ZF):j6 us []
 | st (x y:Str) (t u:Tok) {vs us:ZF}:j6 vs us->j6 (.str x t::vs) (.str y u::us)
 | it (x y:Int) (t u:Tok) {vs us:ZF}:j6 vs us->j6 (.int x t::vs) (.int y u::us)
def qK:∀{x y:ZB} {vs us:ZF},StrsAre vs x->StrsAre us y->j6 vs us
 |[],_,_,_,.nil,_=> .nl _
 | _::_,[],_,_,_,.nil=> .nr _
 | _::_,_::_,_,_,.cons _ t h,.cons _ u k=> .st _ _ t u (qK h k)
def Hk{b fin:Bool}{Q:Bool->Shared->Prop}(h:∀b,Q b s):∀{vs us:ZF} (i:Nat),j6 vs us->PySem.W.KatLex prog w A b fin Q (vs.zip us) i s:=by
 intro vs us i k
 induction k generalizing i with
 | nl=>exact h fin
 | nr vs=>rw[List.zip_nil_right];exact h fin
 | st x y t u k a=>
   show kat_cons (eqBool_str (kat_go (λ_=>kat_yes (a _)) λ_=>kat_no ?_));cases b&&i==0 with
   | true=>exact oneLt_str (h _)
   | false=>exact kat_one _ _ (lt_str (h _))
 | it x y t u k a=>
   show kat_cons (wpAny_eqBool_int (kat_go (λ_=>kat_yes (a _)) λ_=>kat_no ?_));cases b&&i==0 with
   | true=>exact oneLt_int (h _)
   | false=>exact kat_one _ _ (lt_int (h _))
end
def uJ [DecidableEq d][DecidableEq i](g:d->i)(j:∀a b,g a=g b->a=b)(l:List (Addr×d)):bz (l.map λp=>(p.1,g p.2))=(bz l).map λp=>(p.1,g p.2):=by
 let m:∀(l ps:List _),(l.map λp=>(p.1,g p.2)).foldl gH (ps.map λp=>(p.1,g p.2))=(l.foldl gH ps).map λp=>(p.1,g p.2):=by
  intro l
  induction l with
  | nil=>intro ps;rfl
  | cons p l n=>
    intro ps;rw[Ym,Y6,Y6];let e:gH (ps.map λp=>(p.1,g p.2)) (p.1,g p.2)=(gH ps p).map λp=>(p.1,g p.2):=by
     unfold gH;let f:(g p.2∈(ps.map λp=>(p.1,g p.2))\2)↔p.2∈ps\2:=by
      rw[Yn]
      constructor
      .intro h;let%[q,c|e]:=Xk h;exact Xl %[q,c|j _ _ e]
      .intro h;let%[q,c|e]:=Xk h;exact Xl %[q,c|by change g q.2=g p.2;rw[e]]
     by_cases h:p.2∈ps\2
     .rw[if_pos h,if_pos (f.mpr h)]
     .rw[if_neg h,if_neg (λz=>h (f.mp z)),Zd];rfl
    rw[e];exact n _
 exact m l []
noncomputable abbrev Hl(p:Addr×ZB):Addr×List Key:=(p.1,p.2.map Sum.inr)
def xE:∀a b:ZB,a.map (Sum.inr:Str->Key)=b.map Sum.inr->a=b
 |[],[],_=>rfl
 |[],_::_,h=>by cases h
 | _::_,[],h=>by cases h
 | x::xs,y::ys,h=>by
   injection h with c d
   injection c with e
   rw[e,xE xs ys d]
section
#where
variable{S:Addr}
def oj:∀{vs:ZF} {zs:ZB},StrsAre vs zs->ItemsAre (aL prog w) (zs.map Sum.inr) vs
 | _,_,.nil=> .nil
 | _,_,.cons x t h=> .cons (dz x t) (oj h)
def Dw(b:zs≠[])(a:FY prog w s.heap zs r)(h:Q false s):↥A (hashByValue 8 (.ref r)) Q E s:=by
 let c:=a.typeIs;let%[o,items,n,d,_,e|hi]:=a;show Z2 (wpAny_specialOf c F.slot_tuple_hash.lookup (Z2 (wpAny_seqItems d e (Z2 ?_))));rw[<-forIn_toList]
 match zs,items.toList,(lA hi),b with
 | z::zs,_,.cons _ t f,_=>
   exact Z2 (Z2 (Z3 (Z3 (Z3 (Z3 h)))))
def uK{j m:Type}{f:j->m}{x y:List m}(h:x.Perm y):∀ps,y=ps.map f->∃ss:List j,ss.Perm ps/\x=ss.map f:=by
 induction h with
 | nil=>exact λps e=>%[[],!2|rfl]
 | cons a _ n=>
   intro ps e;cases ps with
   | nil=>cases e
   | cons p ps=>
     rw[Ym,List.cons.injEq]at e;let%[ss,c|d]:=n ps e.2;exact%[p::ss,c.cons p|by rw[e.1,d];rfl]
 | swap a b l=>
   intro ps e
   match ps,e with
   | p::q::ps,e=>
     rw[Ym,Ym,List.cons.injEq,List.cons.injEq]at e;exact%[q::p::ps,.swap p q ps|!2]
 | trans _ _ g i=>
   intro ps e;let%[ss,c|d]:=i ps e;let%[ts,o|r]:=g ss d;exact%[ts,o.trans c|r]
def my{M:Type}{S:Addr}{ps:List (Addr×M)}{G:ZF->Prop}{T:String}{Q:ZD}(c:∀(N:ZD) (R:ZF->Shared->Prop),(∀a vs,vs.Perm (ps.map λp=>Value.ref p.1)->(∀b o,s.heap.get? b∣o->a.heap.get? b∣o)->a.gens=s.gens->a.os=s.os->R vs a)->↥A.in1 (collect (.ref S)) R N s)(t: ~~~ps<=1000)
 (tk:∀p∈ps,∃o its n,s.heap.get? p.1∣o/\o.cls= .type "tuple"/\o.data= .seq its n/\G its.toList) (g1:∀i,G i->∃f r,i=f::r/\typeOf f=pure (.type T)) (gT:(Value.type T != Value.type "tuple")=true) (g2:∀i j,G i->G j->j6 i j)
 (hQ:∀(a s':Shared) (l:Addr) (ss:List (Addr×M)) (n:Nat),ss.Perm ps->(∀b o,s.heap.get? b∣o->a.heap.get? b∣o)->a.gens=s.gens->a.os=s.os->(∀b o,a.heap.get? b∣o->s'.heap.get? b∣o)->s'.gens=a.gens->s'.os=a.os->⇑a<=l->s'.heap.get? l=some {cls:= .type "list",data:= .seq (ss.map λp=>Value.ref p.1).toArray n}->Q (.ref l) s'):
 ↥A (call (.builtin "sorted") [.ref S]) Q E s:=by
 let U:∀us:ZF,us.Perm (ps.map λp=>Value.ref p.1)-> ~~~us<=1000:=λus h=>by rw[h.length_eq,Z6];exact t
 show lz (O:=λus out=>out.toList.Perm us) c U (oi (kd:=tuples' true) U (λus Y A1 N Q g h2 k q=>?_) λus x y Y A1 Q g hx hy k q=>?_) λa s' l us out n g o k1 a1 a2 k2 a3 a4 hl gl=>?_
 .let tups:∀l:ZF,(∀v∈l,v∈ps.map λp=>Value.ref p.1)->∃fs:ZF,KatTups Y.heap l fs/\ ~~~fs= ~~~l/\∀f∈fs,typeOf f=pure (.type T):=by
   intro l
   induction l with
   | nil=>exact λ_=>%[[],KatTups.nil,rfl|λf z=>nomatch z]
   | cons v l ih=>
     intro m;let%[fs,B,f2|C]:=ih λu d=>m u (Zk _ d)
     let%[p,H|rfl]:=Xk (m v Zm);let%[o,its,n,I,c',J|L]:=tk p H;let%[f,r,e|ft]:=g1 _ L;show%[f::fs,KatTups.cons (k _ _ I) c' J (by rw[<-getElem?_toList,e];rfl) B,congrArg Nat.succ f2|λu d=>?_];rcases mem_cons.mp d with rfl|d
     .exact ft
     .exact C u d
  let%[fs,B,f2|C]:=tups us λv m=>g.mem_iff.mp m
  exact PySem.W.kat_kind (T:= .type T) B ⋯ (λf z=>Looks.of_pure (C f z)) ∅ (gT▸q)
 .let%[p,H|rfl]:=Xk (g.mem_iff.mp hx);let%[r,hr|rfl]:=Xk (g.mem_iff.mp hy);let%[o,its,n,I,c',J|L]:=tk p H;let%[o2,its2,n2,g3,c3,d3|i3]:=tk r hr;exact PySem.W.kat_lt (k _ _ I) J (k _ _ g3) d3 (Hk q 0 (g2 _ _ L i3))
 .let%[ss,h1|e]:=uK (o.trans g) ps rfl;exact hQ a s' l ss n h1 k1 a1 a2 k2 a3 a4 hl (by rw[<-e];exact gl)
def om(j:∀(u:ZD) (R:ZF->Shared->Prop),(∀f vs,vs.Perm (ps.map λp=>Value.ref p.1)->(∀b o,s.heap.get? b∣o->f.heap.get? b∣o)->f.gens=s.gens->f.os=s.os->R vs f)->↥A.in1 (collect (.ref S)) R u s)(tk:∀p∈ps,FY prog w s.heap p.2 p.1)(v:∀p∈ps,~~~p.2=m)(y:m≠0)(q: ~~~ps<=1000)
 (B:∀(f s':Shared) (l:Addr) (ss:ZG) (n:Nat),ss.Perm ps->(∀b o,s.heap.get? b∣o->f.heap.get? b∣o)->f.gens=s.gens->f.os=s.os->(∀b o,f.heap.get? b∣o->s'.heap.get? b∣o)->s'.gens=f.gens->s'.os=f.os->⇑f<=l->s'.heap.get? l=some {cls:= .type "list",data:= .seq (ss.map λp=>Value.ref p.1).toArray n}->Q (.ref l) s'):
 ↥A (call (.builtin "sorted") [.ref S]) Q E s:=
 my (G:=λvs=>∃zs:ZB,StrsAre vs zs/\zs≠[]) (T:="str") j q (λp r=>by
  let%[o,its,n,g,c,d|i]:=tk p r;exact%[o,its,n,g,c,d,p.2,lA i|λe=>y (by rw[<-v p r,e];rfl)]) (λ_ ⟨zs,h,n⟩=>by
  cases h with
  | nil=>exact absurd rfl n
  | cons z t h=>exact%[_,_,ρ|ρ]) (!1) (λ_ _ ⟨_,a,_⟩ ⟨_,b,_⟩=>qK a b) B
end
section
variable{X:Cx}{K:ZA}
abbrev oo(P:Program)(w:World)(a:Addr)(ps:ZG):HO:= .ext (sJ w (aL P w) a (ps.map Hl))
abbrev aU(H:Hp)(ps:ZG):Prop:=∀p∈ps,p.2≠[]/\H p.1&&&p.2\3
def sK(I:Jc X fx f H s)(h:aU H ps):∀p∈ps,FY X.prog X.w s.heap p.2 p.1:=λp a=>by
 let%[_,its,b,o,c,d,n|e]:=I.hok p.1 _ (h p a).2;exact%[o,its.toArray,n,c,d,e|oj (f9 b)]
def sM:∀{ps:ZG} {us:ZF},aF (ps\0) us->us=ps.map λp=>Value.ref p.1
 |[],_,.nil=>rfl
 | _::_,_,.cons r t=>by
   cases r;rw[sM t];rfl
def sN:∀(ps:ZG),aF (ps\0) (ps.map λp=>Value.ref p.1)
 |[]=> .nil
 | _::ps=> .cons rfl (sN ps)
def zj(j:X.calm=true)(C:X.A.units+64<cLine):cD X (.type "set") (λxs H Q=>∃p ps,xs=[.ref p]/\Jb X.K H p (ps\0)/\aU H ps/\(∃U:List _,~~~U<=999/\∀q∈ps,q.2∈U)/\∀l,H l=none->Q (.ref l) (Ja H l (oo X.prog X.w l (bz ps)))):=by
 intro fx s E H xs us Q I r h;let%[p,ps,rfl,m,g,%[U,G|d]|q]:=h;let%[u,rfl|n]:=dh r;cases n;let%[its,t,pl|J]:=I.list m;let v:=sM t;show pQ (knd:=aL X.prog X.w) (I.ok.hd j) ⋯ pl.isList (ps:=ps.map Hl) (!2) (λi a=>?_) (U.map λz=>z.map Sum.inr) (!2) (λi a=>?_) (λi a B s' L M e f=>?_) λN w S k=>?_
 .let%[b,c|rfl]:=Xk a;exact(sK I g) b c
 .let%[b,c|rfl]:=Xk a;exact Xl %[b.2,d b c|rfl]
 .let%[b,c|rfl]:=Xk a;exact Dw (g b c).1 e f
 .rw[(uJ _ xE ps)]at S;show%[.ref ⇑s,_,I.laid (o:=oo X.prog X.w ⇑s _) k (Zi _) %[S,?_|λO T y k1=>sJ.keep y k1],ρ|q _ I.fresh];let%[o,_,_,_,A|_]:=S;exact%[o|A]
def sO(v:X.calm=true):cD X (.builtin "sorted") (λxs H Q=>∃a ps m,xs=[.ref a]/\H a∣oo X.prog X.w a ps/\aU H ps/\(∀p∈ps,~~~p.2=m)/\m≠0/\ ~~~ps<=1000/\
 ∀l (ss:List _),H l=none->ss.Perm ps->Q (.ref l) (Ja H l (.lst (ss\0)))):=by
 intro fx s N H xs us Q I r h;let%[a,ps,m,rfl,w,y,z,A,c|q]:=h;let%[u,rfl|B]:=dh r;cases B;let%[%[o,d,O,t,C,e,E,J|P],_|_]:=(I.hok a _ w)
 let T:d.size= ~~~ps:=by
  let:=P.length_eq
  simp_all
 let pv:(d.toList\2).Perm (ps.map λp=>Value.ref p.1):=by
  let:=P\2;rw[Yn,Yn]at this;exact this
 show om (λU R G=>jV (I.ok.hd v) C e E (by change d.size<4096;lia) J.fits J.plain J.led λi vs L k1 g1 f _=>G i vs (L.trans pv) k1 g1 f) (sK I y) z A c λi s' l ss n j k1 g1 f k g o b M=>?_
 let I:=I.keptS k1 g1 f;show%[.ref l,_,I.stoodS (o:= .lst _) (I.keptS k g o) b %[?_,ss.map _,n,sN ss|M],ρ|q l ss (I.hok.fresh b) j];rw[Z6,j.length_eq,sizeLine_eq]
 lia
def Bt{P:Program}(h:X.K=K)(c:X.prog=P)(hw:X.w=w)(a:X.calm=true)(b:cj k X.A):cA X (.type "set") (λxs H Q=>∃p ps,xs=[.ref p]/\Jb K H p (ps\0)/\aU H ps/\(∃U:List ZB,~~~U<=999/\∀q∈ps,q.2∈U)/\∀l,H l=none->Q (.ref l) (Ja H l (oo P w l (bz ps)))):=by
 subst h;subst hw;exact⟨zj a b.units⟩
def qL{P:Program}(c:X.prog=P)(hw:X.w=w)(b:X.calm=true):cA X (.builtin "sorted") (λxs H Q=>∃a ps m,xs=[.ref a]/\H a∣oo P w a ps/\aU H ps/\(∀p∈ps,~~~p.2=m)/\m≠0/\ ~~~ps<=1000/\
 ∀(l:Addr) (ss:ZG),H l=none->ss.Perm ps->Q (.ref l) (Ja H l (.lst (ss\0)))):=by
 subst hw;exact⟨sO b⟩
end
abbrev zk(K:ZA)(a b:Addr):It:=⟨λi H=>∃xs ys x y,Jb K H a xs/\Jb K H b ys/\xs[i]?∣x/\ys[i]?∣y,
 λi H v c=>∃T x y,H T=none/\v= .ref T/\c=Ja H T (.tup [x,y])/\(∀xs,Jb K H a xs->xs[i]?∣x)/\(∀ys,Jb K H b ys->ys[i]?∣y),
 λi H=>∃xs ys,Jb K H a xs/\Jb K H b ys/\i<= ~~~xs/\i<= ~~~ys/\(i= ~~~xs\/i= ~~~ys)⟩
def zo{P:Program}{K:ZA}(z TI TO i1 i2 l1 l2:Addr)(D:ZipApart z TI TO i1 i2 l1 l2):
 ny P w K (.Tuple elts kt tp) (zk K l1 l2) [z,TI,TO,i1,i2] z (ZSt z TI TO i1 i2 (λi h=>h.IsListIter i1 l1 i) (λi h=>h.IsListIter i2 l2 i)) where
 mem:=by simp
 obj:=λi h st b hb=>by
  let%[hz,hTI,%[a,c|hTO],%[o1,e1,_|d1],o2,e2,_|d2]:=st
  grind
 keep:=λi h h' st k=>by
  let%[hz,hTI,%[a,c|hTO],%[o1,e1|r1],o2,e2|r2]:=st;exact%[k z ∅ _ hz,k TI ∅ _ hTI,%[a,c|k TO ∅ _ hTO],%[o1,k i1 ∅ _ e1|r1],o2,k i2 ∅ _ e2|r2]
 item:=by
  intro X hP hw hK hc i fx s σ H E I hf st hg;subst hP hw hK;let%[hz,hTI,%[a,c|hTO],h1|h2]:=st;let%[xs,ys,x,y,hq1,hq2,hx|hy]:=hg;let%[its1,rv1,pl1|hz1]:=I.list hq1;let%[its2,rv2,pl2|hz2]:=I.list hq2;let%[u1,hu1|ru1]:=rv1.get hx;let%[u2,hu2|ru2]:=rv2.get hy;show wpAny_pyNext_zip_item D hz hTI hTO h1 h2 pl1.isList pl2.isList (x:=u1) (y:=u2) ↑hu1 ↑hu2 λh' a1 a2 a3 a4 a5 a6 hk=>%[_,rfl|wpAny_letOwnedTupleGo_zip (s:=(s>>>h')) a1 λh'' hz'' sb=>?_]
  replace sb:SameBut z h' h'':=sb;let kk:∀b o,b∉[z,TI,TO,i1,i2]->s.heap.get? b∣o->h''.get? b∣o:=λb o hb e=>by
   simp only[Ys,X1,or_false,not_or]at hb;exact(sb.2 b hb.1).trans (hk b o hb.1 hb.2.2.1 hb.2.2.2.1 hb.2.2.2.2 e)
  let turn1:Jc X fx σ H (s>>>h''):=I.moved hf kk;let Hn:H ⇑s=none:=I.fresh;let I2:Jc X fx σ (Ja H ⇑s (.tup [x,y])) (s>>>h''):=
   I.stood turn1 (Zi _) %[by change 2<=sizeLine;decide,[u1,u2],.cons ru1 (.cons ru2 .nil),_,((sb.2 _ (Yv (Zu hz))).trans a5),rfl,_|rfl]
  show%[.ref ⇑s,_,I2,ρ,%[_,x,y,Hn,ρ,ρ,λzs hzs=>(I.list_inj hzs hq1)▸hx|λzs hzs=>(I.list_inj hzs hq2)▸hy],%[hz'',(sb.2 _ D.TIz).trans (hk _ _ D.TIz D.TITO D.TIi1 D.TIi2 hTI),%[_,_|(sb.2 _ D.TOz).trans a2],?_|?_]|λb hb=>?_]
  .let%[o,e|r]:=a3;exact%[o,(sb.2 _ D.i1z).trans e|r]
  .let%[o,e|r]:=a4;exact%[o,(sb.2 _ D.i2z).trans e|r]
  .let:b<⇑s:=by
    simp only[Ys,X1,or_false]at hb;let%[o1,q1|_]:=h1;let%[o2,q2|_]:=h2;rcases hb with rfl|rfl|rfl|rfl|rfl
    .exact Zu hz
    .exact Zu hTI
    .exact Zu hTO
    .exact Zu q1
    .exact Zu q2
   rw[am (Zs this)];exact(hf b hb).1
 done:=by
  intro X hP hw hK hc i fx s σ H E I hf st hg;subst hP hw hK;let%[hz,hTI,%[a,c|hTO],h1|h2]:=st;let%[xs,ys,hq1,hq2,g1,g2|g3]:=hg;let%[its1,rv1,pl1|hz1]:=I.list hq1;let%[its2,rv2,pl2|hz2]:=I.list hq2;let n1:= ~~~rv1;let n2:= ~~~rv2;show wpAny_pyNext_zip_end (I.ok.hd hc) D hz hTI hTO h1 h2 pl1.isList pl2.isList (by
   rcases g3 with q|q
   .exact .inl (by simp;lia)
   .exact .inr (by simp;lia)) λh' hk=>%[rfl|?_]
  let kk:∀b o,b∉[z,TI,TO,i1,i2]->s.heap.get? b∣o->h'.get? b∣o:=λb o hb e=>by
   simp only[Ys,X1,or_false,not_or]at hb;exact hk b o hb.1 hb.2.2.1 hb.2.2.2.1 hb.2.2.2.2 e
  exact I.moved hf kk
 self:=λ_ _ _ _ _ st h=>wpAny_pyIter_zip st.1 h
abbrev En(K:ZA)(d:TA):TI:=λe H R=>d e H λvs c=>∃a b,vs=[.ref a,.ref b]/\(∃xs,Jb K c a xs)/\(∃ys,Jb K c b ys)/\R (zk K a b) c
section
variable{X:Cx}{K:ZA}{pos:Pos}
def Hm(J:X.K=K){L p:Pos}{a b:Expr}{A:TA}(M:Gl X "zip")(N:X.mg "zip"=none)(O:bg a=false)(n:bg b=false)(Q:QA X [a,b] A):
 QI X (.Tuple B kt L) (.Call (.Name "zip" p) [a,b] [] pos) (En K A):=by
 subst J
 constructor
 intro fx s T H R I h;show Call_ (jy I M N boot_zip (PyProof.Rows.callWith_type1 (thP (Q.h pos fx s T H _ I h) λus c vs U f Y q1=>?_) (aD O) (by rw[aD n];rfl)));let%[r,t,e,%[xs|u],%[ys|v]|q]:=q1;subst e;let%[u1,u2,rfl,e1|e2]:=jn Y;cases e1;cases e2;let%[C,ab,g|ac]:=f.list u;let%[its2,ae,l|ag]:=f.list v;show call_zip_2 g.isList l.isList λh1 E w y hi1 hi2 _ hk=>wpAny_pyIter_zip E ?_
 let d:∀i j,i≠j->⇑c+i≠⇑c+j:=λi j h e=>h (Nat.add_left_cancel e)
 let na:∀i,r≠⇑c+i:=λi=>Zs (Zg (by let%[o,z|_]:=g.isList;exact Zu z) (le_add_right _ _))
 let nb:∀i,t≠⇑c+i:=λi=>Zs (Zg (by let%[o,z|_]:=l.isList;exact Zu z) (le_add_right _ _))
 show%[⇑c+4,[⇑c+4,⇑c+2,⇑c+3,⇑c+0,⇑c+1],_,zk X.K r t,U,ρ,(f.kept hk),
  zo _ _ _ _ _ r t %[d 2 4 (!1),d 3 4 (!1),d 0 4 (!1),d 1 4 (!1),d 2 3 (!1),d 2 0 (!1),d 2 1 (!1),d 3 0 (!1),d 3 1 (!1),d 0 1 (!1),na 4,na 3,na 0,na 1,nb 4,nb 3,nb 0|nb 1],
  %[E,w,%[_,_|y],hi1|hi2],λb G=>?_|q]
 let m:⇑c<=b:=by
  simp only[Ys,X1,or_false]at G;rcases G with rfl|rfl|rfl|rfl|rfl<;> exact le_add_right _ _
 exact f.fpOk m (f.hok.fresh m)
end
open PySem PySem.Spec PySem.Calls PyProof.Rows PyProof.V PySem.W
section
#where
variable{d it:Addr}{es:Array DictEntry}{ep i:Nat}
variable{S:Addr}
end
section
variable{X:Cx}
def im(c:cj k X.A)(d:swapsWith a (some (.Subscript o i b)) pos.line X.env=pure false)(e:QE X a f)(g:QE X o h)(hi:QE X i ty):QS X (.Assign [.Subscript o i b] a pos) (nD h ty f):=
 ⟨Da (by let:=c.units;lia) g.h hi.h e.h d⟩
def zq [DecidableEq c](a:List (c×V))(k:c)(v:V):(cB a k v)\1=if k∈a\1 then a\1 else a\1 ++[k]:=by
 unfold cB;let e:(a.any λb=>decide (b.1=k))=true↔k∈a\1:=by
  grind
 by_cases h:k∈a\1
 .rw[if_pos (e.mpr h),if_pos h,Yn];show Yl λb _=>?_
  change(if b.1=k then(b.1,v)else b).1=b.1
  split<;> rfl
 .rw[if_neg (λz=>h (e.mp z)),if_neg h,Zd];rfl
end
structure uL (K:ZA) (mg:ZC) (x:Str):Prop where
 at_:mg x∣.ref (cC mg x)
 cls:Cls K (cC mg x)
structure uM (K:ZA) (mg:ZC) (x m qual:Str) (st:Stmt) (ps:ZB):Prop where
 ex:∃f fd,CS K (cC mg x) m f/\Fun K m qual st f fd/\e9 K fd ps []
structure Bu (K:ZA) (mg:ZC) (x qual:Str) (st:Stmt) (ps:ZB):Prop where
 ex:∃f fd,Mk K (cC mg x) f/\Fun K "__init__" qual st f fd/\e9 K fd ps []
structure zt (P:Program) (w:World) (K:ZA) (mg:ZC) (base:Heap) (k:Nat) (x m:Str) (ps:ZB) (sp:Sp):Prop where
 ex:∃f fd,d9 P w K mg base CX0 k f fd ps sp/\CS K (cC mg x) m f/\e9 K fd ps []
structure Dx (P:Program) (w:World) (K:ZA) (mg:ZC) (base:Heap) (k:Nat) (x:Str) (ps:ZB) (sp:Sp):Prop where
 ex:∃f fd,d9 P w K mg base CX0 k f fd ps sp/\Mk K (cC mg x) f/\e9 K fd ps []
section
variable{P:Program}{w:World}{K:ZA}{mg:ZC}{base:Heap}{x m qual:Str}{st:Stmt}{N ps:ZB}{k:Nat}{sp:Sp}
def uM.cal(D:uM K mg x m qual st ps)(S:av N ps (ap st))
 (a:∀(H:Hp) (vs:List V) (Q:VK) (E:XK),sp vs H Q E-> ~~~vs= ~~~ps/\∀(f:Addr) (b:Value) (A:Around) (outer:List Env) (s:Shared),cj k (A.deeper (envOfC qual (ap st) ⇑s f b))->
  ∃t,PSs (rJ CX0 P w K mg base N qual (ap st) f b A outer s H E).nox (bY st) t/\t {nx:=λ_ c=>Q .non c,rt:=Q} (start N vs) H):zt P w K mg base (k+1) x m ps sp:=by
 let%[f,d,e,F|g]:=D.ex;exact%[f,d,F.ok S (λv H Q E h=>(a H v Q E h).1) (λb A o s H v Q E r h=>(a H v Q E h).2 f b A o s r),e|g]
def Bu.cal(D:Bu K mg x qual st ps)(S:av N ps (ap st))
 (a:∀(H:Hp) (vs:List V) (Q:VK) (E:XK),sp vs H Q E-> ~~~vs= ~~~ps/\∀(f:Addr) (b:Value) (A:Around) (outer:List Env) (s:Shared),cj k (A.deeper (envOfC qual (ap st) ⇑s f b))->
  ∃t,PSs (rJ CX0 P w K mg base N qual (ap st) f b A outer s H E).nox (bY st) t/\t {nx:=λ_ c=>Q .non c,rt:=Q} (start N vs) H):Dx P w K mg base (k+1) x ps sp:=by
 let%[f,d,e,F|g]:=D.ex;exact%[f,d,F.ok S (λv H Q E h=>(a H v Q E h).1) (λb A o s H v Q E r h=>(a H v Q E h).2 f b A o s r),e|g]
end
section
variable{X:Cx}{K:ZA}{j k:Nat}{x m:Str}{ps:ZB}{sp:Sp}{p pos apos:Pos}{o e:Expr}{es:List Expr}{to te:TE}{t:TA}
def FZ(C:zt X.prog X.w X.K X.mg X.base j x m ps sp)(c:uL X.K X.mg x)(d:cj k X.A)(a:Nat.ble j k=true)
 (g:eval (.Call (.Attribute o m apos) [] [] pos) X.env=(do
  let b<-eval o X.env
  standAt apos.atName
  let(f,first)<-holding [b] (getMethod b m pl)
  callWith pos f first (backTo pos (starEach [] X.env)) (backToKw pos (keywordEach [] X.env)))) (h:QE X o to):QE X (.Call (.Attribute o m apos) [] [] pos) (xt (cC X.mg x) m sp [] E0 to yH):=by
 let%[f,n,F,i|l]:=C.ex;exact⟨AA h.h c.cls i F (d.mono (Nat.le_of_ble_eq_true a)) l .nil AL g⟩
def Ho(C:Dx X.prog X.w X.K X.mg X.base j x ps sp)(c:uL X.K X.mg x)(g:cj k X.A)(h:Gl X x)(a:Nat.ble (j+1) k=true)(b:(x==("__debug__"))=false)(d:(e::es).any bg=false)(i:QA X (e::es) t):
 QE X (.Call (.Name x p) (e::es) [] pos) (xu (cC X.mg x) sp [] E0 t):=by
 let%[f,q,F,l|n]:=C.ex;rw[Zx,X2]at d;exact⟨CY l F (g.mono (Nat.le_of_ble_eq_true a)) h c.at_ n .nil AL i.h b (aD d.1) (gc d.2)⟩
def F0(h:X.K=K)(a:gx o=false)(b:QE X o to):QE X (.Attribute o f pos) (E4 K to f):=by
 subst h;exact⟨E6 b.h (fh a)⟩
def Dy(h:X.K=K)(c:gj a=false)(d:QE X o to)(g:QE X a i):QS X (.Assign [.Attribute o f b] a pos) (E5 K to i f):=by
 subst h;exact⟨E7 d.h g.h (jR c)⟩
end
structure GvT (K:ZA) (mg:ZC) (x:Str) (xs:List V):Prop where
 ex:∃a,mg x∣.ref a/\∀H,SqT K H a xs
def Bv{K:ZA}{h:Heap}{o:Obj}{its:ZJ}{n:Nat}(X:K.In h)(G:h.Ns mainGlobals mg)(z:nsIn K mainGlobals x∣some (.ref a))
 (b:K.lookup a∣o) (c:o.cls= .type "tuple") (d:o.data= .seq its n) (e:its.size<=sizeLine) (r:aF xs its.toList):GvT K mg x xs:=
 %[a,mg_of X G z|λ_=> .inr %[o,its,n,b,c,d,e|r]]
def Hq{X:Cx}{K:ZA}{x:Str}(h:X.K=K)(g:GvT K X.mg x xs)(b:Gl X x)(c:(x==("__debug__":Str))=false):QE X (.Name x pos) (λ_ H Q=>∀a,(∀d,SqT K d a xs)->Q (.ref a) H):=by
 let%[a,e|f]:=g.ex;show⟨λfx s i H Q I q=>Ef (v:= .ref a) %[.ref a,e|rfl] b c fx s i H Q I (q a f)⟩
def tryN{X:Cx}(c:∀e s,X.xe e s->False)(d:QSs X a g):QS X (.Try a [h] [] [] pos) g:=by
 show⟨λfx s i H D I q=>wpAny_Try_except (wpAny_mono (d.h fx s i H D I q) (λf b q=>?_) λe b q=>(c e b q).elim)⟩;cases f with
 | next=>exact wpAny_execs_nil q
 | brk=>exact q
 | cont=>exact q
 | ret u=>exact q
section
variable{X:Cx}{K:ZA}
#where
variable{S:Addr}
def mz{ks:ZB}{Q:ZD}(v:∀(m:ZD) (R:ZF->Shared->Prop),(∀f us c,StrsAre us c->c.Perm ks->(∀b o,s.heap.get? b∣o->f.heap.get? b∣o)->f.gens=s.gens->f.os=s.os->R us f)->↥A.in1 (collect (.ref S)) R m s)(H: ~~~ks<=1000)
 (Y:∀(f s':Shared) (l:Addr) (vs:ZF) (ss:ZB) (n:Nat),StrsAre vs ss->ss.Perm ks->(~~~ks<64->ss.Pairwise (λa b=>aS b a=false))->(∀b o,s.heap.get? b∣o->f.heap.get? b∣o)->f.gens=s.gens->f.os=s.os->(∀b o,f.heap.get? b∣o->s'.heap.get? b∣o)->s'.gens=f.gens->s'.os=f.os->⇑f<=l->s'.heap.get? l=some {cls:= .type "list",data:= .seq vs.toArray n}->Q (.ref l) s'):
 ↥A (call (.builtin "sorted") [.ref S]) Q E s:=by
 let L:∀us:ZF,(∃c,StrsAre us c/\c.Perm ks)-> ~~~us<=1000:=λus ⟨_,h,p⟩=>by rw[ck h,p.length_eq];exact H
 show lz (G:=λus=>∃c,StrsAre us c/\c.Perm ks) (O:=λus out=>∃ss,StrsAre out.toList ss/\ss.Perm ks/\(~~~ks<64->ss.Pairwise (λa b=>aS b a=false))) (λm R k=>v m R λf us c a b=>k f us %[c,a|b]) L (λs2 I us a P m g M kp h=>?_) λf s' l us out n g o k1 a1 a2 k2 a3 a4 hl gl=>?_
 .let%[c,d|C]:=g;let N:∀v1 i r,us=v1::i::r->keyKind' (v1::i::r).toArray=pure oneType':=λv1 i r e=>keyKind_strs (e▸d)
  let ll: ~~~us= ~~~ks:=by rw[ck d,C.length_eq]
  by_cases z: ~~~us<64
  .show list_sort_treeK strKind_oneLt M d.keysOf N z λab hp hs=>?_
   let%[ss,B,j|J]:=sorted_out_str d hp hs;exact h _ %[ss,B,j.trans C|λ_=>zi ss J]
  .show oi (s:=s) (G:=λvs=>vs=us) (kd:=oneType') (λ_ e=>e▸L us %[_,d|C]) (λ_ s3 I m Q e j _ q=>?_) (λ_ x y s3 I Q e T U _ q=>?_) s2 I us a P m rfl M kp λout p=>?_
   .rw[e]at j ⊢;obtain⟨v1,i,r,e⟩:∃v1 i r,us=v1::i::r:=by
     match us,j with
     | v1::i::r,_=>exact%[v1,i,r|ρ]
    rw[e,N v1 i r e];exact Z3 q
   .rw[e]at T U;let%[a,t|rfl]:=d.all _ T;let%[b,u|rfl]:=d.all _ U;rw[keyLt'_oneType];exact oneLt_str (q _)
   .let%[ss,B|j]:=bT d p;exact h out %[ss,B,j.trans C|λl=>absurd (ll▸l) z]
 .let%[ss,B,j|J]:=o;exact Y f s' l out.toList ss n B j J k1 a1 a2 k2 a3 a4 hl (by rw[Array.toArray_toList];exact gl)
end
def j7:∀{ks:ZB} {us:ZF},aF (ks\3) us->StrsAre us ks
 |[],_,.nil=> .nil
 | _::_,_,.cons r t=>by
   let%[t'|rfl]:=r;exact .cons _ _ (j7 t)
def gM:∀{ks:ZB} {us:ZF},StrsAre us ks->aF (ks\3) us
 | _,_,.nil=> .nil
 | _,_,.cons _ t h=> .cons %[t|rfl] (gM h)
section
variable{X:Cx}{K:ZA}
def zu(h:X.K=K):cA X (.builtin "sorted") (λxs H Q=>∃a ks,xs=[.ref a]/\Jb K H a (ks\3)/\ ~~~ks<64/\∀l (ss:ZB),H l=none->ss.Perm ks->ss.Pairwise (λa b=>aS b a=false)->Q (.ref l) (Ja H l (.lst (ss\3)))):=by
 subst h;show⟨λfx s C H xs us Q I r h=>?_⟩;let%[a,ks,rfl,m,d|q]:=h;let%[u,rfl|p]:=dh r;cases p;let%[its,i,%[o,n,t,v,E|e]|G]:=I.list m;let J: ~~~its= ~~~ks:=by rw[<-i.length,Z6]
 show mz (ks:=ks) (λL R w=>wpAny_collect_seq a (.inl rfl) t v e (λM k=>?_) (!2)) (by omega) λN s' l vs ss n y j z k1 g1 A k g o c B=>?_
 .exact w _ _ _ (j7 i) (.refl _) k rfl rfl
 .let f:=I.keptS k1 g1 A;show%[.ref l,_,f.stoodS (o:= .lst _) (f.keptS k g o) c %[?_,vs,n,gM y|B],ρ|q l ss (f.hok.fresh c) j (z d)];rw[Z6,j.length_eq,sizeLine_eq];omega
def oy{w:World}(h:X.w=w)(p:X.calm=true):cA X (.builtin "sorted") (λxs H Q=>∃a ks,xs=[.ref a]/\H a∣lq w a ks/\ ~~~ks<=1000/\∀l (ss:ZB),H l=none->ss.Perm ks->(~~~ks<64->ss.Pairwise (λa b=>aS b a=false))->Q (.ref l) (Ja H l (.lst (ss\3)))):=by
 subst h;show⟨λfx s C H xs us Q I r h=>?_⟩;let%[a,ks,rfl,t,e|q]:=h;let%[u,rfl|v]:=dh r;cases v;let%[S,_|_]:=(I.hok a _ t)
 show mz (ks:=ks) (λE R y=>ux (I.ok.hd p) S λm vs ss f d k1 g1 i z=>y m vs ss f d k1 g1 i) e λm s' l vs ss n f d A k1 g1 i k g o c B=>?_
 let j:=I.keptS k1 g1 i;show%[.ref l,_,j.stoodS (o:= .lst _) (j.keptS k g o) c %[?_,vs,n,gM f|B],ρ|q l ss (j.hok.fresh c) d A];rw[Z6,d.length_eq,sizeLine_eq];omega
def zv(h:X.K=K):cA X (.builtin "sorted") (λxs H Q=>∃(a:Addr) (ps:ZG) (m:Nat),xs=[.ref a]/\Jb K H a (ps\0)/\aU H ps/\(∀p∈ps,~~~p.2=m)/\m≠0/\ ~~~ps<=1000/\
 ∀(l:Addr) (ss:ZG),H l=none->ss.Perm ps->Q (.ref l) (Ja H l (.lst (ss\0)))):=by
 subst h;show⟨λfx s G H xs us Q I r h=>?_⟩;let%[a,ps,m,rfl,i,j,t,v,c|q]:=h;let%[u,rfl|w]:=dh r;cases w;let%[its,y,%[o,n,z,A,J|d]|L]:=I.list i;let:=sM y;subst this;show om (λM R B=>wpAny_collect_seq a (.inl rfl) z A d (λN k=>?_) (!2)) (sK I j) t v c λO s' l ss n f k1 g1 C k g o b E=>?_
 .exact B _ _ (List.Perm.refl _) k rfl rfl
 .let e:=I.keptS k1 g1 C;show%[.ref l,_,e.stoodS (o:= .lst _) (e.keptS k g o) b %[?_,ss.map _,n,sN ss|E],ρ|q l ss (e.hok.fresh b) f];rw[Z6,f.length_eq,sizeLine_eq];omega
def Hr{k:Nat}{i o:Expr}{ty a:TE}{pos:Pos}(b:cj k X.A)(c:behindInMarks .In o=false)(hi:QE X i ty)(d:QE X o a):QT X (.Compare i [.In] [o] pos) (tB (C8 ty a)):=
 ⟨Aa (AI (by let:=b.units;omega) hi.h d.h) c⟩
end
def cr{X:Cx}{K:ZA}{a b:Expr}{c d:TE}{pos:Pos}(h:X.K=K)(e:m7 b)(f:QE X a c)(g:QE X b d):QE X (.Subscript a b pos) (tOp (Fe K) c d):=by subst h;exact⟨AE Fg f.h g.h e⟩
def wN(h:(env.blockKind== .function&&env.kindOf x==some .local&&b.line==pos.line&&!(a.names.any λ(n,k)=>n==x&&(k== .local||k== .cell)))=false):
 swapsWith (.ListComp c gens a pos) (some (.Name x b)) l env=pure false:=by
 change(pure (env.blockKind== .function&&env.kindOf x==some _&&b.line==pos.line&&!(a.names.any _)))=pure false;rw[h]
def Bw{X:Cx}(i:Nat)(e:X.N.Nodup)(hi:X.N[i]?∣x)(f:Loc X.env.scope x)(g:X.fn x=true\/X.env.scope.names.lookup x∣.local)
 (b:(X.env.blockKind== .function&&X.env.kindOf x==some .local&&h.line==pos.line&&!(a.names.any λ(n,k)=>n==x&&(k== .local||k== .cell)))=false) (j:QE X (.ListComp c gens a pos) l):
 QS X (.Assign [.Name x h] (.ListComp c gens a pos) d) (rF l (jm i)):=⟨Ak e hi f j.h (wN b) g⟩
section
end
section
end
section
#where
end
section
variable{X:Cx}{pos:Pos}
def lB(b:PassesOwn (model X.prog X.w) X.A X.env X.xe)(d:QT X c e)(f:QSs X a g):QS X (.While c a [] pos) (Al e g):=⟨Am b d.h f.h⟩
def dg(a:cj k X.A)(b:Fs i)(c:QE X o d)(hi:QE X i ty):QE X (.Subscript o i pos) (AH d ty):=⟨C9 (by let:=a.units;lia) c.h hi.h b⟩
#where
def Dz{P:Nat->Value->Prop}(val:Nat->Str)(a:∀i v,P i v->∃t,v= .str (val i) t):CmpOf prog w A .Gt P (λi j=>decide ((val j).cps.toList<(val i).cps.toList)):=λi j b c s Q E hi d h=>by
 let%[t|rfl]:=a i b hi;let%[u|rfl]:=a j c d;exact richCompare_gives (typeIs_str s _ t) (typeIs_str s _ u) PySem.F.slot_str_gt PySem.F.entry_str_gt (PySem.F.args_str_gt_2 _ _) (gives_str_gt _ _ t u) (λx=>nomatch x) h
def xF{P:Nat->Value->Prop}(val:Nat->Str)(a:∀i v,P i v->∃t,v= .str (val i) t):CmpOf prog w A .Lt P (λi j=>decide ((val i).cps.toList<(val j).cps.toList)):=λi j b c s Q E hi d h=>by
 let%[t|rfl]:=a i b hi;let%[u|rfl]:=a j c d;exact richCompare_gives (typeIs_str s _ t) (typeIs_str s _ u) PySem.F.slot_str_lt PySem.F.entry_str_lt (PySem.F.args_str_lt_2 _ _) (gives_str_lt _ _ t u) (λx=>nomatch x) h
def Bx{i:Nat}{v:Value}(h:(#[Value.str x t,Value.str y u]:ZJ)[i]?∣v):∃t,v= .str (if i=0 then x else y) t:=by
 match i,h with
 | 0,h=>exact%[t|by simpa using h.symm]
 | 1,h=>exact%[u|by simpa using h.symm]
 | i+2,h=>simp at h
def uN(a:Nat->Nat->Bool):argBest a 1=if a 1 0=true then 1 else 0:=by simp[argBest]
def sP{x y:Str}(m:A.handled=none)
 (h:∀g tk,(∀c o,s.heap.get? c∣o->g.get? c∣o)->Q (if x.cps.toList<y.cps.toList then .str y u else .str x t) {s with heap:=g,toks:=tk}):
 ↥A (call (.builtin "max") [.str x t,.str y u]) Q E s:=by
 let l:(s.heap.push {cls:= .type _,data:= .seq #[.str x t,.str y u]}).IsTuple ⇑s _:=%[_,Zj _ rfl,rfl,0|rfl]
 show call_max_two (wpAny_pyIter_tuple l ?_);let b:(s.heap.push {cls:= .type "tuple",data:= .seq #[.str x t,.str y u]}).objs.size=⇑s+1:=Zq ..;show%[_,[_,⇑s],[_],_,_,_,_,ρ,Walks.tuple (A:=A.in1) m _ ⇑s (b▸Zs (Yk _)) _,
  %[%[_,Zj _ rfl,ρ|ρ]|l.push _],λc d=>?_,by simp,Dz _ (λ_ _=>Bx)|λv g tk n p=>?_]
 .rw[Zq,b];rcases mem_cons.mp d with rfl|d
  .simp
  .rcases mem_cons.mp d with rfl|d
   .exact Yj (Yk _)
   .cases d
 .let f:=λc o e=>by
   show p c o (λj=>?_) (Z7 _ (Z7 _ e));rcases mem_cons.mp j with r|j
   .let:=Zu e;rw[r,b]at this;exact Xf _ (Nat.lt_of_succ_lt this)
   .cases j
  let q:=h g tk f;let a:(#[Value.str x t,Value.str y u])[argBest _ 1]?∣v:=n;rw[uN]at a;by_cases i:x.cps.toList<y.cps.toList
  .rw[if_pos (by simp[i])]at a;rw[if_pos i]at q;exact(show Value.str y u=v by simpa using a)▸q
  .rw[if_neg (by simp[i])]at a;rw[if_neg i]at q;exact(show Value.str x t=v by simpa using a)▸q
def sQ{x y:Str}(m:A.handled=none)
 (h:∀g tk,(∀c o,s.heap.get? c∣o->g.get? c∣o)->Q (if y.cps.toList<x.cps.toList then .str y u else .str x t) {s with heap:=g,toks:=tk}):
 ↥A (call (.builtin "min") [.str x t,.str y u]) Q E s:=by
 let l:(s.heap.push {cls:= .type _,data:= .seq #[.str x t,.str y u]}).IsTuple ⇑s _:=%[_,Zj _ rfl,rfl,0|rfl]
 show call_min_two (wpAny_pyIter_tuple l ?_);let b:(s.heap.push {cls:= .type "tuple",data:= .seq #[.str x t,.str y u]}).objs.size=⇑s+1:=Zq ..;show%[_,[_,⇑s],[_],_,_,_,_,ρ,Walks.tuple (A:=A.in1) m _ ⇑s (b▸Zs (Yk _)) _,
  %[%[_,Zj _ rfl,ρ|ρ]|l.push _],λc d=>?_,by simp,xF _ (λ_ _=>Bx)|λv g tk n p=>?_]
 .rw[Zq,b];rcases mem_cons.mp d with rfl|d
  .simp
  .rcases mem_cons.mp d with rfl|d
   .exact Yj (Yk _)
   .cases d
 .let f:=λc o e=>by
   show p c o (λj=>?_) (Z7 _ (Z7 _ e));rcases mem_cons.mp j with r|j
   .let:=Zu e;rw[r,b]at this;exact Xf _ (Nat.lt_of_succ_lt this)
   .cases j
  let q:=h g tk f;let a:(#[Value.str x t,Value.str y u])[argBest _ 1]?∣v:=n;rw[uN]at a;by_cases i:y.cps.toList<x.cps.toList
  .rw[if_pos (by simp[i])]at a;rw[if_pos i]at q;exact(show Value.str y u=v by simpa using a)▸q
  .rw[if_neg (by simp[i])]at a;rw[if_neg i]at q;exact(show Value.str x t=v by simpa using a)▸q
def pS{l:Addr}{its:ZJ}{val:Nat->Str}{Q:ZD}(p:A.handled=none)(g:s.heap.IsList l its)(m:0<its.size)(a:∀(i:Nat) v,its[i]?∣v->∃t,v= .str (val i) t)
 (h:∀v f tk,its[argBest (λi j=>decide ((val i).cps.toList<(val j).cps.toList)) (its.size-1)]?∣v->(∀b o,s.heap.get? b∣o->f.get? b∣o)->Q v {s with heap:=f,toks:=tk}):
 ↥A (call (.builtin "min") [.ref l]) Q E s:=by
 let c:l<⇑s:=by let%[_,e|_]:=g;exact Zu e
 show call_min_walk (wpAny_pyIter_list g %[_,[⇑s,l],[⇑s],_,_,_,_,rfl,Walks.list (A:=A.in1) p _ l (Zs c) its,%[%[_,Zj _ rfl,rfl|rfl]|g.push _],λb d=>?_,m,xF val a|λv f tk q r=>?_])
 .rw[Zq];rcases mem_cons.mp d with rfl|d
  .simp
  .rcases mem_cons.mp d with rfl|d
   .exact Yj c
   .cases d
 .show h v f tk q λb o e=>r b o (λn=>?_) (Z7 _ e)
  rcases mem_cons.mp n with u|n
  .exact absurd (u▸Zu e) (Xf _)
  .cases n
def oz(val:Nat->Str):∀k,argBest (λi j=>decide ((val i).cps.toList<(val j).cps.toList)) k<=k/\∀j,j<=k->aS (val j) (val (argBest (λi j=>decide ((val i).cps.toList<(val j).cps.toList)) k))=false
 | 0=>%[Zi _|λj b=>by rw[le_zero.mp b];exact gK _]
 | k+1=>by
   let%[g|d]:=oz val k;rw[argBest];by_cases c:aS (val (k+1)) (val (argBest (λi j=>decide ((val i).cps.toList<(val j).cps.toList)) k))=true
   .let a:=c;unfold aS at a;rw[if_pos a];show%[Zi _|λj b=>?_];by_cases e:j=k+1
    .exact e▸gK _
    .cases f:aS _ _ with
     | false=>rfl
     | true=>have:=eF f c;rw[d j ⋯]at this;cases this
   .let a:=c;unfold aS at a;rw[if_neg a];show%[⋯|λj b=>?_];by_cases e:j=k+1
    .lia
    .exact d j ⋯
end
section
variable{X:Cx}
def zw(b:X.calm=true):cD X (.builtin "max") (λxs H Q=>∃x y,xs=[.str x,.str y]/\Q (.str (if aS x y=true then y else x)) H):=by
 intro fx s c H xs us Q I r h;let%[x,y,rfl|q]:=h;let%[u,d,rfl,%[t|rfl],t'|rfl]:=jn r;show sP (I.ok.hd b) λf tk k=>%[_,H,I.kept k,?_|q]
 by_cases a:x.cps.toList<y.cps.toList
 .rw[if_pos a,if_pos (show aS x y=true from Zf a)];exact%[_|ρ]
 .rw[if_neg a,if_neg (show ¬ aS x y=true from λe=>a (Zo e))];exact%[_|ρ]
def zx(b:X.calm=true):cD X (.builtin "min") (λxs H Q=>∃x y,xs=[.str x,.str y]/\Q (.str (if aS y x=true then y else x)) H):=by
 intro fx s c H xs us Q I r h;let%[x,y,rfl|q]:=h;let%[u,d,rfl,%[t|rfl],t'|rfl]:=jn r;show sQ (I.ok.hd b) λf tk k=>%[_,H,I.kept k,?_|q]
 by_cases a:y.cps.toList<x.cps.toList
 .rw[if_pos a,if_pos (show aS y x=true from Zf a)];exact%[_|ρ]
 .rw[if_neg a,if_neg (show ¬ aS y x=true from λe=>a (Zo e))];exact%[_|ρ]
def zy(z:X.calm=true):cD X (.builtin "min") (λxs H Q=>∃(p:Addr) (ss:ZB),xs=[.ref p]/\Jb X.K H p (ss\3)/\0< ~~~ss/\∀m∈ss,(∀y∈ss,aS y m=false)->Q (.str m) H):=by
 intro fx s M H xs us Q I r h;let%[p,ss,rfl,A,N|q]:=h;let%[u,rfl|f]:=dh r;cases f;let%[its,g,B|O]:=I.list A;let a:= ~~~g;rw[Z6]at a;let C:its.toArray.size= ~~~ss:=by rw[Zp,a]
 let c:∀i v,its.toArray[i]?∣v->∃t,v=Value.str (ss.getD i Str.empty) t:=λi v e=>by
  let e:=↑e
  let hi:i< ~~~ss:=a▸(Xh e).1;let%[u,l|f]:=g.get (by rw[Zl,Z4 hi];rfl);rw[e]at l;let%[t|d]:=f;exact%[t|by rw[Za l,d,Zc,Z4 hi];rfl]
 show pS (I.ok.hd z) B.isList ⋯ c λv T tk n k=>?_
 let%[E|o]:=oz _ _;let%[t|d]:=c _ _ n
 generalize argBest _ _=b at E o n d
 let w:b< ~~~ss:=by lia
 let G:ss.getD b Str.empty=ss[b]:=by rw[Zc,Z4 w];rfl
 show%[.str _,H,I.kept k,%[t|d]|q _ (G▸Ya w) λy J=>?_];let%[j,L|rfl]:=getElem_of_mem J;let:=o j ⋯;rwa[show ss.getD j Str.empty=ss[j] by rw[Zc,Z4 L];rfl]at this
def F1(a:X.calm=true):cA X (.builtin "max") (λxs H Q=>∃x y,xs=[.str x,.str y]/\Q (.str (if aS x y=true then y else x)) H):=⟨zw a⟩
def F2(a:X.calm=true):cA X (.builtin "min") (λxs H Q=>∃x y,xs=[.str x,.str y]/\Q (.str (if aS y x=true then y else x)) H):=⟨zx a⟩
def F3{K:ZA}(h:X.K=K)(a:X.calm=true):cA X (.builtin "min") (λxs H Q=>∃(p:Addr) (ss:ZB),xs=[.ref p]/\Jb K H p (ss\3)/\0< ~~~ss/\∀m∈ss,(∀y∈ss,aS y m=false)->Q (.str m) H):=by subst h;exact⟨zy a⟩
#where
variable{R:Result->Shared->Prop}{I:Addr}{fp:List Addr}{wr:List Addr}{G:Array GenState->Array GenState->Prop}{n:Nat}{P:Nat->Value->Prop}{St:Nat->Shared->Prop}
end
def DC{b:Type}{a:List (b×V)}{vs:List (b×Value)}(r:KV a vs):aF (a\2) (vs\2):=by
 induction r with
 | nil=>exact .nil
 | cons h _ c=>exact .cons h.2 c
section
variable{X:Cx}{K:ZA}
abbrev By:V->List V->Hp->VK->Prop:=λx vs H Q=>asR x λa=>∃k y,vs=[kV k,y]/\∃b,H a∣.dK b/\ ~~~b<sizeLine/\(∀v,bu b k∣v->Q v H)/\(bu b k=none->Q y (Ja H a (.dK (cB b k y))))
def DD:MtM X "dict.setdefault" By:=by
 intro fx s G H x vs v us Q I p r h;let%[a,rfl,k,y,rfl,b,e,J,t|u]:=e8 h;cases p;let%[L,w,rfl,A|l]:=jn r;let%[z,m,vs,c|n]:=lZ I.hok e;show call_meetsIn slot_dict_setdefault n.typeIs PySem.F.entry_dict_setdefault (PySem.F.args_dict_setdefault_3 _ _ _) (kt_meets_setdefault _ a (lW A) m w) %[vs,n,~~~c▸z,λM hw=>?_|λN O f B=>?_]
 .let q:=c.val k;cases d:bu b k with
  | none=>
    rw[fI.none_of (o:=valueAt vs k) (d▸q)]at hw;cases hw
  | some i=>
    let%[C,g|j]:=fI.some_of (d▸q);rw[g]at hw;exact(Za hw)▸%[i,H,I.tok _,j|t i d]
 .let d:bu b k=none:=by
   cases d:bu b k with
   | none=>rfl
   | some i=>
     let%[C,g|_]:=fI.some_of (d▸c.val k)
     grind
  exact%[y,_,m8 I (e▸True.intro) B (let⟨q,_,_,E,_⟩:=f;%[q|E]) (wa (by let:=ff b k y;lia) m (c.put k l) f),l|u d]
def gN:MtQ X "dict.setdefault" By:=⟨DD⟩
abbrev uO(v a:Addr):HO:= .ext λh=>h.IsValuesView v a
abbrev Bz:V->List V->Hp->VK->Prop:=λx vs H Q=>asR x λa=>vs=[]/\∃b,H a∣.dK b/\∀v,H v=none->Q (.ref v) (Ja H v (uO v a))
def DE:MtM X "dict.values" Bz:=by
 intro fx s t H x vs v us Q I i j h;let%[a,rfl,rfl,l,e|q]:=e8 h;cases i;let c:=j.zero;subst c;let%[z,m,vs,n|f]:=lZ I.hok e;show call_meetsIn PySem.F.slot_dict_values f.typeIs PySem.F.entry_dict_values (PySem.F.args_dict_values_1 _) (meets_dict_values _ a m) %[%[vs|f]|?_];let g:(s.heap.push {cls:= .type _,data:= .fields _}).IsValuesView ⇑s a:=%[_,Zj _ rfl,rfl|rfl]
 show%[.ref ⇑s,_,I.laid (o:=uO ⇑s a) (λb u e=>Z7 _ e) (Zi _) %[g,?_|λw y p k1=>?_],ρ|q _ I.fresh]
 .let%[o,d|_]:=g;exact%[o|d]
 .let%[o,d|r]:=p;exact%[o,k1 _ d|r]
def BA:MtQ X "dict.values" Bz:=⟨DE⟩
def wO(j:X.calm=true):cD X (.type "list") (λxs H Q=>∃(v a:Addr) (b:List (Key×V)),xs=[.ref v]/\H v∣uO v a/\H a∣.dK b/\∀l,H l=none->Q (.ref l) (Ja H l (.lst (b\2)))):=by
 intro fx s M H xs us Q I r h;let%[v,a,b,rfl,m,n|q]:=h;let%[u,rfl|p]:=dh r;cases p;let%[z,N,vs,f|t]:=lZ I.hok n;let g:=(I.hok _ _ m).1;let%[o,w,y,A|B]:=t;let C:s.heap.DictAt _ a vs y:=%[o,w,A|B]
 let E:= ~~~f;show PySem.W.kdl_call (PySem.W.kdl_values) (I.ok.hd j) %[g|C] ⋯ λO tk acc c keep G d=>?_
 let T: ~~~acc.toList= ~~~b:=by rw[Zb,d.1,E]
 show%[.ref ⇑s,_,I.laid keep (Zi _) ?_,ρ|q _ I.fresh];let e:acc.toList=vs\2:=by
  show ext_getElem (!2) λi J U=>?_
  let%[k|L]:=d.2 i _ (Array.getElem?_eq_getElem J);let%[Y|e3]:=Xh L
  simp_all
 exact%[by rw[Z6];exact z,acc.toList,c,e▸DC f|G]
def DF(c:X.calm=true):cA X (.type "list") (λxs H Q=>∃(v a:Addr) (b:List (Key×V)),xs=[.ref v]/\H v∣uO v a/\H a∣.dK b/\∀l,H l=none->Q (.ref l) (Ja H l (.lst (b\2)))):=⟨wO c⟩
end
def uP:∀{ss:ZB},z∈ss->∃j,ss[j]?∣z/\(∀m,m<j->∀y,ss[m]?∣y->y≠z)/\(z::ss.eraseIdx j).Perm ss
 | x::ss,h=>by
   by_cases e:x=z
   .exact%[0,by simp[e],λm b=>absurd b ⋯|by simp[e]]
   .let%[j,c,d|f]:=uP ((mem_cons.mp h).resolve_left λq=>e q.symm);show%[j+1,c,λm b y a=>?_|?_]
    .cases m with
     | zero=>simp at a;exact a▸e
     | succ m=>exact d m ⋯ y (a)
    .exact(List.Perm.swap _ _ _).trans (f.cons _)
section
variable{X:Cx}{K:ZA}
abbrev F4:V->List V->Hp->VK->Prop:=λx vs H Q=>asR x λa=>∃k y,vs=[kV k,y]/\∃b,H a∣.dK b/\Q ((bu b k).getD y) H
def F5:MtM X "dict.get" F4:=by
 intro fx s n H x vs v us Q I f g h;let%[a,rfl,k,y,rfl,b,e|q]:=e8 h;cases f;let%[o,i,rfl,j|l]:=jn g;let%[z,m,vs,c|d]:=lZ I.hok e;exact call_meetsIn slot_dict_get d.typeIs PySem.F.entry_dict_get (PySem.F.args_dict_get_3 _ _ _) (meets_dict_get_default _ a (lW j) m i) %[_,d.mapOf,(bu b k).getD y,H,I.tok _,(c.val k).getD l|q]
def xG:MtQ X "dict.get" F4:=⟨F5⟩
abbrev isZ(z:Str):Value->Bool
 | .str x _=>x==z
 | _=>false
def zA(t:Tok)(r:aF (ss\3) its)(h: ~~~ss= ~~~its)(l:z∈ss):∃(j:Nat) (e:j<its.toArray.size),ss[j]?∣z/\(z::ss.eraseIdx j).Perm ss/\(∀y,y∈its.toArray->MeetsSeq.EqGives y (.str z t) (isZ z y))/\isZ z its.toArray[j]=true/\∀m (a:m<its.toArray.size),m<j->isZ z its.toArray[m]=false:=by
 let%[j,f,n|o]:=uP l;let b:∀m y,its[m]?∣y->∃x t,y=Value.str x t/\ss[m]?∣x:=λm y c=>by
  let a:m< ~~~ss:=h▸(Xh c).1;let%[u,i|p]:=r.get (by rw[Zl,Z4 a];rfl);rw[c]at i;let%[t|q]:=p;exact%[_,t,(Za i).trans q|Z4 a]
 let e:j< ~~~its:=h▸(Xh f).1;show%[j,e,f,o,λy c=>?_,?_|λm a g=>?_]
 .let%[m|a]:=Xb ↑c;let%[x,t',rfl|_]:=b m y a;exact eqGives_str x z t' t
 .let%[x,t',ex|d]:=b j _ (Z4 e);rw[f]at d;change isZ z its[j]=true;rw[ex,<-Za d];exact beq_self_eq_true z
 .let%[x,t',ex|d]:=b m _ (Z4 a);change isZ z its[m]=false;rw[ex];exact beq_eq_false_iff_ne.mpr (n m g x d)
abbrev sR:V->List V->Hp->VK->Prop:=λx vs H Q=>asR x λl=>∃z,vs=[.str z]/\∃ss:ZB,H l<*ss\3/\z∈ss/\∀a,(z::a).Perm ss->Q .non (Ja H l (.lst (a\3)))
def zB:MtM X "list.remove" sR:=by
 intro fx s A H x vs v us Q I c d h;let%[l,rfl,z,rfl,ss,a,f|q]:=e8 h;cases c;let%[u,rfl|g]:=d.one;let%[t|rfl]:=g;let%[i,its,n,r,b|e]:=I.lstM a;rw[Z6]at b i;let%[j,m,_,o,p,w|y]:=zA t r b f;show call_meets F.slot_list_remove %[_,e|rfl] F.entry_list_remove (F.args_list_remove_2 _ _) (MeetsSeq.list_remove l its.toArray n _ _ p j m w y (!2)) %[e,.non,_,I.lset (its':=its.eraseIdx j) a e ?_ ?_ ?_,rfl|q _ o]
 .simp
 .rw[List.eraseIdx_eq_take_drop_succ,Zd,map_take,map_drop,<-List.eraseIdx_eq_take_drop_succ];exact r.eraseIdx j
 .let:=qo ss j;rw[Z6]
  lia
def BB:MtQ X "list.remove" sR:=⟨zB⟩
end
def zC:typeLookup (.type "list_reverseiterator") "__len__"=pure none:=by kernel_rfl
def BC:typeLookup (.type "list_reverseiterator") "__length_hint__"=pure (some (.builtin "list_reverseiterator.__length_hint__")):=by kernel_rfl
section
#where
def pT(Y:A.handled=none)(M:s.heap.IsRevIter I l ((items.size:Int) -1))(N:s.heap.IsList l items)(ne:l≠I)(hz:items.size<=sizeLine)
 (hQ:∀s' acc c,(∀b o,b≠I->s.heap.get? b∣o->s'.heap.get? b∣o)->s'.gens=s.gens->s'.os=s.os->s'.heap.get? ⇑s=some {cls:= .type "list",data:= .seq acc c}->acc.toList=items.toList.reverse->Q (.ref ⇑s) s'):
 ↥A (call (.type "list") [.ref I]) Q E s:=by
 let t:I<⇑s:=let⟨_,h,_⟩:=M;Zu h;let u:l<⇑s:=let⟨_,h,_⟩:=N;Zu h
 generalize n:s.heap.push {cls:=Value.type "list",data:=Data.seq #[]}=G
 let gz:G.objs.size=⇑s+1:=by rw[<-n,Zq]
 let v:∀b o,s.heap.get? b∣o->G.get? b∣o:=λb o e=>by rw[<-n];exact Z7 _ e
 let p:G.get? ⇑s=some {cls:=Value.type "list",data:=Data.seq #[]}:=by rw[<-n];exact Zj _ rfl
 show callType_codes (Q₁:=λobj f=>obj= .ref ⇑s/\f=(s>>>G)) F.called_list (F.typeCall_list_1 (Value.ref I)) F.entry_list_init (code_list_new (Value.ref I) %[rfl|by rw[n]]) λobj f i=>?_
 let%[rfl|rfl]:=i;show%[%[_,p|ρ],F.args_list_init_2 _ _|?_];change ↥A.in1.in1 (Builtin.«list.__init__» %[[.ref ⇑s,.ref I]|[]]) _ _ _;unfold Builtin.«list.__init__»;show Z2 ?_;show listItems_at (s:=(s>>>G)) p rfl ?_;show Z2 (listUpdate_at (s:=(s>>>G)) p rfl ?_ (Xa _));let O:=get?_update_self (Obj.mapSeq λ_=> #[]) p rfl;let d:∀b o,b≠⇑s->G.get? b∣o->(G.update ⇑s (Obj.mapSeq λ_=> #[])).get? b∣o:=λb o y e=>(get?_update_other _ _ (Ne.symm y)).trans e
 show Z2 (wpAny_letGo ?_)
 generalize G.update ⇑s (Obj.mapSeq λ_=> #[])=g at O d
 let z:I≠⇑s:=Zs t;let nl:l≠⇑s:=Zs u;let j:g.IsRevIter I l ((items.size:Int) -1):=M.at λo e=>d _ _ z (v _ _ e)
 let B:g.IsList l items:=let⟨o,h,r⟩:=N;%[o,d _ _ nl (v _ _ h)|r];let W:=Walks.listRev (prog:=prog) (w:=w) (A:=A.in1.in1) Y I l ne items;let m:(0<=items.size/\g.IsRevIter I l (↑(items).size-1-((0:Nat):Int))/\g.IsList l items):=%[Xa _,↑j|B]
 change ↥A.in1.in1 (Builtin.List.listExtendWith (.ref ⇑s) (.ref I) .none) _ _ (s>>>g);unfold Builtin.List.listExtendWith;let q:Shared.TypeIs (s>>>g) (.ref I) "list_reverseiterator":=j.typeIs;show Z2 (wpAny_typeOf (T:="list_reverseiterator") q ?_);let n1:Builtin.List.listSameRef (.ref ⇑s) (.ref I)=false:=beq_eq_false_iff_ne.mpr (Ne.symm z);let n2:(Value.type "list_reverseiterator"==Value.type "list")=false:=!1
 let n3:(Value.type "list_reverseiterator"==Value.type "tuple")=false:=!1
 simp only[n1,n2,n3,Bool.or_false,Zz,if_false];show Z2 (W.self 0 (s>>>g) _ _ m ?_);show Z2 (wpAny_holding ?_);unfold Builtin.List.listLengthHint;show Z2 (wpAny_specialOf (T:="list_reverseiterator") q zC ?_);change wpAny _ _ (specialOf (.ref I) (!"__length_hint__")>>= _) _ _ _;show Z2 (wpAny_specialOf q BC ?_)
 wp_delta
 show Z2 (wpAny_isInstance (T:="list_reverseiterator") (b:=true) q (by rw[isSubtype_type];kernel_rfl) ?_);simp only[Bool.not_true,Zz,if_false];rw[if_pos (!0)];rw[if_neg (!1)];show Z3 ?_;rw[if_neg (!0)];let C:⇑s∉[I,l]:=by
  simp only[Ys,X1,or_false,not_or];exact%[Ne.symm z|Ne.symm nl]
 show Z3 %[plainId_quiet F.plain_extend_loop _|codeAny_extend_loopS W.toS hz _ C _ items.size 0 _ _ _ rfl (Xa _) m O (ItemsOf.nil _) λs5 acc c5 H J a=>?_];show%[ρ|hQ s5 acc c5 (λb o y e=>?_) H.gens H.os J ?_]
 .let nb:b≠⇑s:=Zs (Zu e);show H.heap b o ?_ (d _ _ nb (v _ _ e));simp only[Ys,X1,or_false,not_or];exact%[nb|y]
 .apply List.ext_getElem?;intro k;let al: ~~~acc.toList=items.size:=Zb▸a.1;by_cases U:k<items.size
  .let L:k<acc.size:=a.1▸U;let:=a.2 k acc[k] ∅;rw[List.getElem?_reverse (U),Zb,getElem?_toList,getElem?_toList,this];simp[L]
  .rw[Xg ⋯,Xg (by simp;lia)]
end
abbrev F6(n:Nat)(a l:Addr)(m:Nat):HO:= .ext λh=>n<=a/\h.IsRevIter a l (m-1)
def zD{X:Cx}:cD X (.type "reversed") (λxs H Q=>∃(l:Addr) (ys:List V),xs=[.ref l]/\Jb X.K H l ys/\∀r,H r=none->Q (.ref r) (Ja H r (F6 X.s₀.heap.objs.size r l ys.length))):=by
 intro fx s a H xs us Q I r h;let%[l,ys,rfl,c|q]:=h;let%[u,rfl|d]:=dh r;cases d;let%[its,f,pl|j]:=I.list c;show call_reversed_list pl.isList ?_;let g:=I.hok.fresh (Zi _);let J:Jc X fx a H (s>>>(s.heap.push (revObj l (its.toArray.size-1)))):=I.keptS (λb o e=>Z7 _ e) rfl rfl;show%[.ref ⇑s,_,I.stoodS (o:=F6 X.s₀.heap.objs.size ⇑s l ys.length) J (Zi _) %[%[I.sz|?_],%[_|Zj _ rfl]|λ_ _ ⟨i,x⟩ k=>%[i|x.at λo e=>k o e]],ρ|q _ g];rw[~~~f,<-Zp];exact%[_,Zj _ rfl,ρ|ρ]
def Jc.dropped{X:Cx}(I:Jc X fx l H s)(m:H a∣.ext j)(r:X.s₀.heap.objs.size<=a)(g:∀b o,b≠a->s.heap.get? b∣o->s'.heap.get? b∣o)(t:s'.gens=s.gens)(v:s'.os=s.os):Jc X fx l (drop H a) s':=by
 let d:∀{b:Addr} {o:HO},H b∣o->(∀j,o≠ .ext j)->b≠a:=λe n z=>by
  grind
 let un:Un (frs X.stack) [a] H (drop H a) s.heap s'.heap:=by
  show%[λb o e _ _ f=>g b o ↑f e,λb o e _ _ f=>%[o.slots|g b o ↑f e],λb o _ n _=>?_,λb o e f=>%[o|g b o ↑f e],λb xs e=>?_,λb o u e=>?_|λb ps e=>%[#[]|?_]]
  .unfold drop;split
   .rfl
   .exact n
  .rw[iZ (d e ∅)];exact e
  .rw[iZ (d e ∅)];exact e
  .rw[iZ (d e ∅)];simpa using e
 let h:HOk X.prog X.w (drop H a) s'.heap:=λb o e=>by
  let nb:b≠a:=λz=>by rw[z,zb]at e;cases e
  rw[iZ nb]at e;show(I.hok b o e).stay (λc u i q=>g c u ?_ q) (λc q=>?_) λc xs q=>?_
  .rcases i with rfl|i
   .exact nb
   .exact d i ∅
  .rw[iZ (d q ∅)];exact q
  .rw[iZ (d q ∅)];exact q
 exact I.call' v un h (by rw[t];exact I.bare) λb w=>by
  obtain rfl:b=a:=↑w
  show%[.inr r,λz=>?_,λx c e z=>?_|λp y z=>?_]
  .let:=I.free;grind
  .let:=I.freeC x c e;grind
  .let:=(I.pin p y).2.1;rw[z,m]at this;cases this
def uQ{X:Cx}(w:X.calm=true):cD X (.type "list") (λxs H Q=>∃(r l:Addr) (ys:List V),xs=[.ref r]/\H l<*ys/\H r∣F6 X.s₀.heap.objs.size r l ys.length/\∀p,drop H r p=none->p≠r->Q (.ref p) (Ja (drop H r) p (.lst ys.reverse))):=by
 intro fx s J H xs us Q I r h;let%[a,l,ys,rfl,g,f|q]:=h;let%[u,rfl|y]:=dh r;cases y;let%[z,its,n,A,m|e]:=I.lstM g;let%[%[t|b]|_]:=I.hok a _ f;let i:l≠a:=λz=>by rw[z,f]at g;cases g
 let sz:its.toArray.size= ~~~ys:=!2
 show pT (I.ok.hd w) (by rw[sz];exact b) %[_,e,rfl,n|rfl] i (by rw[sz];exact z) λs' acc c B C j E d=>?_
 let v:=I.dropped f t (λ_ _ _ e=>e) rfl rfl;let G:=I.dropped f t B C j;let lt:=let⟨_,j,_⟩:=b;Zu j;show%[.ref ⇑s,_,v.stoodS (o:= .lst ys.reverse) G (Zi _) %[?_,acc.toList,c,?_|?_],ρ|q _ (v.hok.fresh (Zi _)) (Yv lt)]
 .rw[List.length_reverse];exact z
 .rw[d];exact A.reverse
 .exact E
abbrev uR(b:TE):TE:=λc H Q=>b c H λv a=>∃l ys,v= .ref l/\a l<*ys/\∀p,a p=none->Q (.ref p) (Ja a p (.lst ys.reverse))
def BD{X:Cx}(h:X.calm=true)(i:Gl X "reversed")(j:X.mg "reversed"=none)(a:Gl X "list")(b:X.mg "list"=none)(d:bg e=false)(m:QE X e n):
 QE X (.Call (.Name "list" o) [.Call (.Name "reversed" s) [e] [] t] [] u) (uR n):=by
 let w:QE X (.Call (.Name _ s) [e] [] t) _:=ctE ⟨zD⟩ i j PyProof.Rows.boot_reversed rfl rfl (by simp[d]) (paE d (⟨FN m.h⟩) ao);let y:=ctE (p:=o) (pos:=u) ⟨uQ h⟩ a b boot_list rfl rfl rfl (paE rfl w ao);show⟨FO y.h λA H Q q=>?_⟩;show%[_,q|λv B ⟨l,ys,z,c,q⟩=>%[l,ys,by rw[z],Jb.of c|λr f=>?_]];show%[r,l,ys,ρ,by rw[am (aC c f)];exact c,upd_same|λp g _=>?_];rw[Bc f]at g ⊢;exact q p g
section
variable{X:Cx}
#where
def eQ(I:List i->j->Shared->Prop):∀(xs:List i) (b:j) (s:Shared),I xs b s->
 (∀x r b s,I (x::r) b s->↥A (f x b) (λy s'=>match y with| .done c=>Q c s'| .yield c=>I r c s') E s)->(∀b s,I [] b s->Q b s)->↥A (forIn xs b f) Q E s
 |[],b,s,h,_,a=>by
  exact Z3 (a b s h)
 | x::r,b,s,h,d,a=>by
   rw[forIn_cons];show Z2 (wpAny_mono (d x r b s h) (λy s' g=>?_) λ_ _ e=>e);cases y with
   | done c=>exact Z3 g
   | yield c=>exact eQ I r c s' g d a
def BE:∀as {Q:Bool->Shared->Prop},(∀b∈as,∃c,bw w b c s.heap)->Q true s->↥A (setsQuiet as) Q E s:=by
 intro as Q h j;show Z2 (eQ (λr b s'=>(∀b∈r,∃c,bw w b c s.heap)/\b=(none,())/\s'=s) as _ s %[h,rfl|rfl] ?_ ?_)
 .intro x r b s' %[f,rfl|rfl];let%[c,o,l,C,t,ss,m,n,p,q,G,v,d,H,y,B|g]:=f x Zm;show Z2 (wpAny_setEntries_of m p y (Z2 ?_));rw[<-forIn_toList];show eQ (λr b a=>(∀e∈r,∃z u,e=(hashStr w z,Value.str z u))/\b=(none,())/\a=s') l.toList _ _ %[d,rfl|rfl] ?_ ?_
  .intro e r b a %[i,rfl|rfl];let%[z,u|rfl]:=i e Zm;exact Z3 %[λe h=>i e (Zk _ h),rfl|rfl]
  .intro b a %[_,rfl|rfl];exact Z3 %[λe h=>f e (Zk _ h),rfl|rfl]
 .intro b s' %[_,rfl|rfl];exact Z3 j
abbrev hsE(w:World)(p:Str×Tok):Int×Value:=(hashStr w p.1,.str p.1 p.2)
def bw.texts{a:Addr}{h:Heap}{o:Obj}{c:Array (Int×Value)}(d:StrsAre (c.toList\2) ss)(g:ss.Perm ks)(f:∀e∈c.toList,∃z u,e=(hashStr w z,Value.str z u))(xs:List (Int×Value))(b:xs.Perm c.toList):∃zs:List (Str×Tok),xs=zs.map (hsE w)/\(zs\1).Perm ks:=by
 let all:∀l,(∀e∈l,∃z u,e=(hashStr w z,Value.str z u))->∃zs:List _,l=zs.map (hsE w):=λl=>by
  induction l with
  | nil=>exact λ_=>%[[]|rfl]
  | cons e l i=>
    intro h;let%[z,u|rfl]:=h e Zm;let%[zs|rfl]:=i λx b=>h x (Zk _ b)
    exact%[(z,u)::zs|ρ]
 let%[zs|rfl]:=all xs λe j=>f e (b.mem_iff.mp j)
 show%[zs,ρ|?_];let%[ts,m|n]:=bT d (b.map _);let e:ts=zs\1:=by
  rw[<-m.strs,Yn,Yn];rfl
 exact e▸n.trans g
def qM{f:List Addr}{c:ZI}{Q:Array (Int×Value)->Shared->Prop}(Y:bw w a ks s.heap)(hO:∀b∈f,∃js,bw w b js s.heap)(q:∀r,c∣r->r≠a/\bw w r [] s.heap)
 (hQ:∀(zs:List (Str×Tok)) (d:Drawn) (g:Heap),(zs\1).Perm ks->(∀b o,c≠some b->s.heap.get? b∣o->g.get? b∣o)->(∀r,c∣r->bw w r [] g)->Q (zs.map (hsE w)).toArray {s with heap:=g,drawn:=d}):
 ↥A (setWalkUnseen a f c) Q E s:=by
 let%[o,i,ep,t,ss,ho,ac,hd,L,hp,ae,M,J,hf,N|j]:=id Y;let fin:∀(xs:List _) d g,xs.Perm i.toList->(∀b o,c≠some b->s.heap.get? b∣o->g.get? b∣o)->(∀r,c∣r->bw w r [] g)->Q xs.toArray {s with heap:=g,drawn:=d}:=λxs d g hx v h2=>by
  let%[zs,rfl|hz]:=bw.texts (a:=a) (h:=g) (o:=o) L hp M xs hx;exact hQ zs d g hz v h2
 let walk:↥A (setWalk a) Q E s:=by
  show Z2 (wpAny_setState_of ho hd hf ?_);change wpAny _ _ (if aQ w=true then _ else _) _ _ _;by_cases O:aQ w=true
  .rw[if_pos O];show Z2 (wpAny_askSetting (Z3 ?_));let:=fin (pickOrder (w.params.setOrder a ep) i).toList s.drawn s.heap (qD _ _) (λ_ _ _ e=>e) λr e=>(q r e).2
   exact this
  .rw[if_neg O]
   split
   .exact Z2 (sk i.size i.toList _ _ ∅ λys d p=>Z3 (fin ys d s.heap p (λ_ _ _ e=>e) λr e=>(q r e).2))
   .show Z2 ?_;change wpAny _ _ (if(!t.led&&decide _)=true then unsupported _ else pure ()) _ _ _;rw[j,show aQ w=false by simpa using O];show Z3 (Z3 ?_);let:=fin i.toList s.drawn s.heap (.refl _) (λ_ _ _ e=>e) λr e=>(q r e).2
    exact this
 show Z2 (wpAny_setState_of ho hd hf ?_);change wpAny _ _ (if(aQ w||t.led&&t.plain||decide _)=true then _ else _) _ _ _;by_cases v:(aQ w||t.led&&t.plain||decide (i.size<=1))=true
 .rw[if_pos v];exact walk
 .rw[if_neg v];show Z2 (BE _ (λb J=>?_) ?_)
  .rcases mem_cons.mp J with e|e
   .exact e▸%[_|Y]
   .exact hO b e
  show Z2 (wpAny_rule ?_);cases c with
  | none=>
    let:=fin i.toList s.drawn s.heap (.refl _) (λ_ _ _ e=>e) λr e=>(q r e).2
    exact Z3 this
  | some r=>
    let%[ne,o2,T,ag,u,ai,l,y,m,B,U,C,G,H,I,ab|n]:=q r rfl;dsimp only;show Z2 (wpAny_setState_of l m I ?_)
    split
    .show Z2 (wpAny_storeSet_of l m ?_ (fits_of_scanBound H));let:=fin i.toList s.drawn _ (.refl _) (λb o J e=>((SameBut.update s.heap r (Obj.putSet T {u with led:=u.led&&t.led,plain:=u.plain&&t.plain})).2 b λz=>J (by rw[z])).trans e) λr' e=>?_
     .exact Z3 this
     .cases e;exact(bw.stored (t':={u with led:=u.led&&t.led,plain:=u.plain&&t.plain}) l y m B U C G H I (by rw[(N λz=>v (by rw[z];simp)),Bool.and_false]) (by rw[n,j,Bool.and_self])).2
    .let:=fin i.toList s.drawn s.heap (.refl _) (λ_ _ _ e=>e) λr e=>(q r e).2
     exact Z3 this
def DG(h:jk (Sum.inr z) (Value.str y u)=true):y=z:=by
 rcases aY h with⟨i,t',a,b⟩|⟨c,t',a,b⟩
 .lia
 grind
def uS{ks:ZB}(i:s.heap.get? a∣o)(l:o.data= .set b H t)(c:∀e∈b.toList,∃z u,e=(hashStr w z,Value.str z u))(C:b.size<scanBound)(m:t.fits b.size=true)
 (n:∀r,(r=none->∀e∈b.toList,∀u,e.2≠ .str z u)->(∀j,r∣j->∃u,b.toList[j]?∣(hashStr w z,.str z u))->Q r s):↥A (setFind a (.str z tk) (hashStr w z)) Q E s:=by
 let p:ElemsOf (aL prog w) b.toList:=qC c;let d:(aL prog w).is (Sum.inr z) (.str z tk)=true:=dz z tk;show Z2 (wpAny_setState_of i l m ?_);dsimp only;rw[byScan_of rfl C p];show Z2 (wpAny_rule (Z2 (wpAny_setScan_of d i l m p ?_)));cases v:List.findIdx? _ b.toList with
 | some j=>
   let%[B,f|_]:=List.findIdx?_eq_some_iff_getElem.mp v;dsimp only;rw[zero_add];show Z3 (n _ (λh=>(nomatch h)) λI e=>?_);cases e;let%[y,u|g]:=c _ (Ya B);rw[g]at f;rw[DG (u:=u) f]at g;exact%[u|by rw[Z4 B,g]]
 | none=>
   show Z3 (n none (λ_ e G u q=>?_) λj e=>(nomatch e));let:=List.findIdx?_eq_none_iff.mp v e G;rw[q,show(aL prog w).is (Sum.inr z) (Value.str z u)=true from dz z u]at this;cases this
def BF{P D M n i b:Nat}(h:P=n/\P+D<=M)(hi:i<n):min i P+(P-(i+1))=n-1/\min i P+(P-(i+1)) +(min b D+1+(D-b))<=M:=by
 let%[rfl|h]:=h;let e:=Nat.sub_add_min_cancel D b;let k:i+1+(P-(i+1))=P:=Nat.add_sub_of_le hi;rw[min_eq_left (Yb hi),Nat.min_comm b D]
 generalize min D b=x at e ⊢
 generalize D-b=y at e ⊢
 generalize P-(i+1)=z at k ⊢
 exact%[⋯|⋯]
def zE{t:SetTable}(h:t.fits n=true)(hi:i<n):(t.drop i).fits (n-1)=true/\(t.drop i).led=t.led/\(t.drop i).plain=t.plain:=by
 unfold SetTable.fits at h ⊢;rw[Zw,beq_iff_eq,decide_eq_true_eq]at h;unfold SetTable.drop;let:t.place[i]?∣t.place[i]:=by simp
 rw[this];show%[?_,ρ|ρ];rw[Zw,beq_iff_eq,decide_eq_true_eq];unfold SetTable.fill at h ⊢;simp only[SetTable.eraseAt,SetTable.insertAt,size_append,Array.size_extract,Xe,Nat.min_self,Nat.sub_zero];exact BF h hi
def wP(h:i<a.size):(SetTable.eraseAt a i).toList=a.toList.eraseIdx i:=by
 rw[List.eraseIdx_eq_take_drop_succ,SetTable.eraseAt,X9,toList_extract,toList_extract,List.extract_eq_take_drop,List.extract_eq_take_drop];simp;exact Zn ∅
def uT{ks:ZB}(J:bw w a ks s.heap)(m:∀n b,SameBut a s.heap n->bw w a (ks.erase z) n->Q b (s>>>n)):↥A (setDiscardHashed a (.str z tk) (hashStr w z)) Q E s:=by
 let%[o,c,ep,t,ss,h,p,j,d,L,v,f,M,y,B|g]:=id J;show Z2 (uS (ks:=ks) h j f M y λr N O=>?_);cases r with
 | none=>
   let T:z∉ks:=λq=>by
    let%[u|l]:=(dP d).mpr (L.mem_iff.mpr q);let%[e,C|U]:=Xk l;exact N rfl e C u U
   rw[List.erase_of_not_mem T]at m;exact Z3 (m s.heap false (SameBut.refl a s.heap) J)
 | some i=>
   let%[u|l]:=O i rfl;let hi:i<c.size:=(Xh l).1;let G:((hashStr w z,Value.str z u)::(SetTable.eraseAt c i).toList).Perm c.toList:=by
    rw[wP hi];let:=gC (xs:=c.toList) (hi);rwa[(Xh l).2]at this
   let%[ts,H|Y]:=bT d (G.map _);cases H with
   | cons _ _ H=>
   let%[d1,d2|d3]:=zE y hi;let I:(SetTable.eraseAt c i).size=c.size-1:=by
    rw[<-Zb,<-Zb,<-G.length_eq];simp
   show Z2 (wpAny_setState_of h j y ?_);dsimp only;show Z2 (wpAny_storeSet_of h j (Z2 (wpAny_point (Z3 (m _ true (SameBut.update s.heap a _) (bw.stored h p j H ((List.cons_perm_iff_perm_erase.mp (Y.trans L)).2) (v.erase z) (λe C=>f e (G.mem_iff.mp (Zk _ C))) ?_ ?_ ?_ ?_).2)))) (fits_of_scanBound ?_))
   .lia
   .exact I▸d1
   .exact d3▸B ⋯
   .exact d2▸g
   .lia
end
def xH(h:_ST.WF t a)(b:a.size<=t.mask):t.fits a.size=true:=by
 unfold SetTable.fits SetTable.fill;rw[h.size,h.dum];simpa using b
section
#where
abbrev sS(w:World)(a:Addr)(n:Nat)(h:Heap):Prop:=∃o b t,h.get? a∣o/\o.ExactSet/\o.data= .set #[] b t/\t.place= #[]/\t.dummies= #[]/\t.led=(!aQ w)/\(∃k,t.mask+1=2^k)/\7<=t.mask/\n<=t.mask
def sS.fits{t:SetTable}(a:t.place= #[])(b:t.dummies= #[]):t.fits (#[]:Array (Int×Value)).size=true:=by
 unfold SetTable.fits SetTable.fill;rw[a,b];simp
def DH{n:Nat}{Q:Unit->Shared->Prop}(a:s.heap.get? r∣bE w)(g:n<=1000)(d:∀b,SameBut r s.heap b->sS w r n b->Q () (s>>>b)):↥A (setRoomFor r n) Q E s:=by
 let e:(SetTable.fresh 0 0 (!aQ w)).fits _=true:=sS.fits rfl rfl;show Z2 (wpAny_setState_of a rfl e ?_);change wpAny _ _ (match(if(0+n)*5>=7*3 then some ((0+n)*2)else none)with|some x=>setRelay r x|_=>pure ()) _ _ _;by_cases h:(0+n)*5>=7*3
 .rw[if_pos h];show _ST.relay_w a rfl e ∅ ⋯ λc t' P W l p i m2=>d _ (SameBut.update s.heap r _) ?_
  obtain rfl:c= #[]:=by
   let:=P.length_eq;simpa using this
  let f:=by
   let q:=get?_update_self (Obj.putSet #[] t') a (by rfl);rwa[putSet_of #[] t' rfl]at q
  exact%[_,_,t',f,%[ρ,ρ|ρ],ρ,Array.eq_empty_of_size_eq_zero W.size,W.dum,l,W.pow,W.big|⋯]
 .rw[if_neg h];exact Z3 (d s.heap (SameBut.refl r s.heap) %[_,_,_,a,%[rfl,rfl|rfl],rfl,rfl,rfl,rfl,%[3|rfl],Zi 7|by change n<=7;lia])
def BG{ks:ZB}(N:bw w a ks s.heap)(O:s.heap.get? r∣bE w)(T:r≠a)(h1:1<= ~~~ks)(h2: ~~~ks<=1000)(U:∀g,SameBut r s.heap g->bw w r ks g->Q () (s>>>g)):↥A (setMerge r a) Q E s:=by
 let%[o,d,ep,t,ss,Y,ab,hd,u,H,B,C,hb,I,G|i]:=id N;let hn:d.size= ~~~ks:=by
  let q:=ck u;rw[Z6,Zb,H.length_eq]at q;exact q
 let pl:t.plain=false:=G ⋯;unfold setMerge;rw[if_neg ↑T];show Z2 (wpAny_setState_of Y hd I ?_);dsimp only;rw[if_neg (λh:d.isEmpty=true=>by let:=Zo h;lia)];show Z2 (DH O ⋯ λg sb ⟨o2,ac,v,j,y,m,J,L,M,k2,b2,m2⟩=>Z2 (wpAny_setState_of (s:=(s>>>g)) j m (sS.fits J L) ?_));dsimp only;let n:v.fill=0:=by unfold SetTable.fill;rw[J,L];rfl
 let put:∀(b:Array (Int×Value)) (t':SetTable),b.toList.Perm d.toList->t'.fits b.size=true->t'.plain=false->t'.led=(!aQ w)->↥A (storeSet r b t') Q E (s>>>g):=λb t' P f p l=>by
  let sz:b.size=d.size:=by rw[<-Zb,P.length_eq,Zb]
  let%[ts,r1|r2]:=bT u (P\2);exact wpAny_storeSet_of (s:=(s>>>g)) j m (U _ (sb.trans (SameBut.update g r _)) (bw.stored (w:=w) j y m r1 (r2.trans H) B (λe he=>C e (P.mem_iff.mp he)) ⋯ f p l).2) (fits_of_scanBound ⋯)
 unfold SetTable.road;rw[n,if_neg (!1)]
 split
 .exact put d _ (.refl _) I (by change(v.plain&&t.plain)=false;rw[pl,Bool.and_false]) (by change(v.led&&t.led)=_;rw[M,i,Bool.and_self])
 .let%[k|hk]:=k2;let%[t',c,e1,e2,e3,e4,e5,W|P]:=_ST.laid_ok hk b2 d ⋯ v.finger v.moves _ _;let sz:(c.filterMap (d[·]?)).size=d.size:=by rw[<-Zb,P.length_eq,Zb]
  rw[e1];show Z2 ?_;change wpAny _ A (if((c.filterMap _).size != d.size)=true then _ else pure _) _ E _;rw[if_neg (by simp[sz])];exact Z3 (put _ t' P (show t'.fits _=true from xH W (by rw[sz,e2];lia)) (by rw[e4,pl,Bool.and_false]) (by rw[e3,M,i,Bool.and_self]))
 .rename_i z
  split at z<;> cases z
end
def bw.nd(S:bw w a ks h):ks.Nodup:=by
 let%[_,_,_,_,_,_,_,_,_,_,h|_]:=S;exact h
section
#where
def sU(c:bw w b f s.heap)(d:Q true s):↥A (Builtin.Frozenset.isAnySet (.ref b)) Q E s:=by
 let%[o,g,h,t,ss,e,a|_]:=c;exact Z2 (wpAny_isInstance (b:=true) %[o,e|a.1] (by kernel_rfl) (Z3 d))
def j8(d:bw w b e s.heap)(f:Q e.length s):↥A (Builtin.Frozenset.sizeOf b) Q E s:=by
 let%[o,u,v,t,ss,g,h,i,a,j,l,m,y,n,p|c]:=d;let r:=by
  let q:=ck a;rw[Z6,Zb,j.length_eq]at q;exact q
 exact Z2 (wpAny_setEntries_of g i n (Z3 (r▸f)))
def BH(O:bw w r ks s.heap)(T:bw w b U s.heap)(ne:r≠b)(big: ~~~U< ~~~ks)(aj: ~~~ks<=900)
 (hQ:∀f d g,(∀c o,c≠r->s.heap.get? c∣o->f.get? c∣o)->(∀x,x∈g↔x∈ks/\x∉U)->bw w r g f->Q () {s with heap:=f,drawn:=d}):↥A (Builtin.Frozenset.differenceUpdate nm r (.ref b)) Q E s:=by
 unfold Builtin.Frozenset.differenceUpdate;rw[if_neg (by simpa using ne.symm)];show Z2 (sU T ?_);rw[if_pos rfl];show Z2 (Z3 (Z2 (j8 T (Z2 (j8 O ?_)))));rw[if_neg ⋯];let%[o,es,ep,t,ss,ho,al,hd,an,hp,as,a0,hb,hf,a1|ai]:=id T;let C:∀(s':Shared) (Q':Nat->Shared->Prop),s'.heap.get? b∣o->Q' ep s'->↥A (setEpoch b) Q' E s':=λs' Q' e q=>by
  unfold setEpoch;exact Z2 (wpAny_setState_of e hd hf (Z3 q))
 show Z2 (C s _ ho (Z2 (wpAny_holding (Z2 (qM T (λc n=>%[ks|(Xj n)▸O]) (λ_ e=>(nomatch e)) λzs d h1 pz k1 _=>Z2 ?_)))));rw[<-forIn_toList];show eQ (λxs _ s'=>∃h rest f,zs=h++rest/\xs=rest.map (hsE w)/\s'={s with heap:=f,drawn:=d}/\(∀c o,c≠r->s.heap.get? c∣o->f.get? c∣o)/\∃g,bw w r g f/\∀x,x∈g↔x∈ks/\x∉h\1) _ _ _
  %[[],zs,h1,rfl,rfl,rfl,λc o _ e=>k1 c o ∅ e,ks,O.keep λo e=>k1 r o ∅ e|by simp] ?_ ?_
 .intro x xs _ s' %[h,rest,f,Y,ex,rfl,kp,g,S|i];cases rest with
  | nil=>cases ex
  | cons p rest=>
  rw[Ym]at ex;injection ex with ab ac
  subst ab;show Z2 (wpAny_holding (uT (z:=p.1) (tk:=p.2) (s:={s with heap:=f,drawn:=d}) S λh2 bb sb S2=>Z2 ?_));unfold Builtin.Frozenset.unchanged;let G:∀c o,c≠r->s.heap.get? c∣o->h2.get? c∣o:=λc o n e=>(sb.2 c n).trans (kp c o n e)
  show Z2 (C {s with heap:=h2,drawn:=d} _ (G b o ne.symm ho) ?_);rw[if_neg ∅];show Z3 (Z3 %[h++[p],rest,h2,by rw[Y,Ze];rfl,ac,rfl,G,_,S2|λx=>?_]);rw[S.nd.mem_erase_iff,i,Zd,Yo,Ym,map_nil,Yu,not_or]
  constructor
  .exact λ⟨a,b,c⟩=>%[b,c|a]
  .exact λ⟨b,c,a⟩=>%[a,b|c]
 .intro _ s' %[h,rest,f,Y,ex,rfl,kp,g,S|i];obtain rfl:rest=[]:=by
   cases rest with
   | nil=>rfl
   | cons p rest=>cases ex
  rw[Zy]at Y;let i:∀x,x∈g↔x∈ks/\x∉U:=λx=>by rw[i,<-Y,pz.mem_iff]
  let ae: ~~~g≠0:=λe=>by
   let:=_ST.nodup_sub O.nd (m:=U) λx hx=>Decidable.byContradiction λq=>by
    let:=(i x).mpr %[hx|q];rw[length_eq_zero_iff.mp e]at this;cases this
   lia
  let sub:=_ST.nodup_sub S.nd λx hx=>((i x).mp hx).1
  show Z3 ?_;let%[o2,u,a2,t2,a3,v,H,y,j,I,J,L,a4,M,N|B]:=id S;let hn:=by
   let q:=ck j;rw[Z6,Zb,I.length_eq]at q;exact q
  show Z2 (wpAny_setState_of v y M ?_);dsimp only
  split
  .rw[show SetTable.grown u.size=u.size*4 by unfold SetTable.grown;rw[if_neg ⋯]];show _ST.relay_w v y M ⋯ ⋯ λag t' P W l p m1 m2=>?_
   let sz:ag.size=u.size:=by rw[<-Zb,P.length_eq,Zb]
   let%[ts,r1|r2]:=bT j (P\2);exact hQ _ d g (λc o n e=>((SameBut.update f r _).2 c n).trans (kp c o n e)) i (bw.stored v H y r1 (r2.trans I) J (λe he=>L e (P.mem_iff.mp he)) ⋯ (xH W ⋯) (p▸N ⋯) (l▸B)).2
  .exact Z3 (hQ f d g kp i S)
def uU(a:Q (.ref ⇑s) (s>>>s.heap.push (bE w))):↥A (newSet (.type "set")) Q E s:=by
 exact Z2 (Z2 (wpAny_askSetting (Z3 (wpAny_newObj_type a))))
def uV(d:bw w a ks s.heap)(e:Q (.type "set") s):↥A (Builtin.Frozenset.baseOf a) Q E s:=by
 let%[o,g,h,t,ss,f,c|_]:=d;exact Z2 (wpAny_isInstance (b:=true) %[o,f|c.1] (by kernel_rfl) (Z3 e))
def DI(y:bw w a ks s.heap)(H:bw w b J s.heap)(ab: ~~~ks<=900)
 (hQ:∀i d l,(∀c o,s.heap.get? c∣o->i.get? c∣o)->(∀x,x∈l↔x∈ks/\x∉J)->bw w ⇑s l i->Q (.ref ⇑s) {s with heap:=i,drawn:=d}):↥A (Builtin.Frozenset.difference nm a (.ref b)) Q E s:=by
 let lt:∀{c:Addr} {ls:ZB},bw w c ls s.heap->c≠⇑s:=λ{c ls} h=>by
  let%[o,_,_,_,_,Y|_]:=h;exact Zs (Zu Y)
 let L:∀c o,s.heap.get? c∣o->(s.heap.push (bE w)).get? c∣o:=λc o e=>Z7 _ e
 let hr:(s.heap.push (bE w)).get? ⇑s∣bE w:=Zj _ rfl;let S1:=y.keep λo e=>L a o e
 let O1:=H.keep λo e=>L b o e
 unfold Builtin.Frozenset.difference;dsimp only;show Z2 (sU H ?_);rw[if_neg (!1)];show Z2 (Z3 ?_);rw[if_neg ∅,if_pos rfl];show Z2 (j8 H (Z2 (j8 y ?_)))
 generalize hG:s.heap.push (bE w)=G at L hr S1 O1
 split
 .show Z2 (wpAny_rule (Z2 ?_));unfold Builtin.Frozenset.copyOf;show Z2 (uV y (Z2 (uU ?_)));rw[hG];show Z2 (Z3 (Z2 (BG (s:=(s>>>G)) S1 hr (Ne.symm (lt y)) ⋯ ⋯ λh1 sb R1=>Z3 ?_)));let k1:∀c o,s.heap.get? c∣o->h1.get? c∣o:=λc o e=>(sb.2 c (Zs (Zu e))).trans (L c o e)
  exact Z2 (Z3 (Z2 (wpAny_holding (BH (s:=(s>>>h1)) R1 (H.keep λo e=>k1 b o e) (Ne.symm (lt H)) ⋯ ab λm d l k2 B M=>Z3 (hQ m d l (λc o e=>k2 c o (Zs (Zu e)) (k1 c o e)) B M)))))
 .show Z2 (uV y (Z2 (uU ?_)));rw[hG];show Z2 (Z3 ?_);let%[o,es,ep,t,ss,Y,a2,hd,a3,hp,a4,a5,hb,hf,a6|an]:=id S1;let N:∀(s':Shared) (Q':Nat->Shared->Prop),s'.heap.get? a∣o->Q' ep s'->↥A (setEpoch a) Q' E s':=λs' Q' e q=>by
   unfold setEpoch;exact Z2 (wpAny_setState_of e hd hf (Z3 q))
  show Z2 (N (s>>>G) _ Y ?_);rw[if_pos rfl];show Z2 (wpAny_holding (Z2 (qM (s:=(s>>>G)) S1 (λc C=>?_) (λr e=>⟨by cases e;exact Ne.symm (lt y),by cases e;exact bw.empty hr⟩) λzs d h1 pz k1 r1=>Z2 ?_)))
  .simp only[Ys,X1,or_false]at C;rcases C with rfl|rfl
   .exact%[_|O1]
   .exact%[_|bw.empty hr]
  rw[<-forIn_toList];show eQ (λxs _ s'=>∃f rest i,zs=f++rest/\xs=rest.map (hsE w)/\s'={s with heap:=i,drawn:=d}/\(∀c o,c≠⇑s->G.get? c∣o->i.get? c∣o)/\∃l,bw w ⇑s l i/\ ~~~l<= ~~~f/\∀x,x∈l↔x∈f\1/\x∉J) _ _ _
   %[[],zs,h1,rfl,rfl,rfl,(λc o C e=>k1 c o (λq=>C (Za q).symm) e),[],r1 _ rfl,Zi _|by simp] ?_ ?_
  .intro x xs _ s' %[f,rest,i,I,ex,rfl,g,l,M,ml|B];cases rest with
   | nil=>cases ex
   | cons p rest=>
   rw[Ym]at ex;injection ex with ac O
   subst ac;let zl: ~~~zs= ~~~ks:=by rw[<-pz.length_eq,Z6]
   let pl: ~~~f< ~~~ks:=by rw[<-zl,I,Z9,Zr];lia
   rw[if_pos rfl];let n:∀(m:Heap) Qx,(∀c o,c≠⇑s->G.get? c∣o->m.get? c∣o)->Qx (.yield ⟨⟩) {s with heap:=m,drawn:=d}->↥A (Builtin.Frozenset.unchanged nm a ep>>= λ_=>pure (ForInStep.yield PUnit.unit)) Qx E {s with heap:=m,drawn:=d}:=λm Qx k2 q=>by
    show Z2 ?_;unfold Builtin.Frozenset.unchanged;show Z2 (N {s with heap:=m,drawn:=d} _ (k2 a o (lt y) Y) ?_);rw[if_neg ∅];exact Z3 (Z3 q)
   let mem:∀x,x∈(f++[p])\1↔x∈f\1\/x=p.1:=λx=>by rw[Zd,Yo,Ym,map_nil,Yu]
   let%[o2,a7,bc,t2,bd,ae,as,ag,v,T,a0,U,ai,aj,a1|al]:=id O1;show Z2 (wpAny_holding (Z2 (uS (ks:=J) (z:=p.1) (tk:=p.2) (g b o2 (lt H) ae) ag U ai aj λq q1 q2=>Z2 (Z3 ?_))));cases q with
   | none=>
     let hz:p.1∉J:=λz=>by
      let%[u|hu]:=(dP v).mpr (T.mem_iff.mpr z);let%[e,he|q3]:=Xk hu;exact q1 rfl e he u q3
     rw[if_pos (by rfl)];show Z2 (jU (z:=p.1) (tk:=p.2) M (by rw[show scanBound=4096 from rfl];lia) λm bb sb M2=>Z3 ?_);let k2:=λc o C e=>(sb.2 c C).trans (g c o C e)
     show n m _ k2 %[f++[p],rest,m,by rw[I,Ze];rfl,O,rfl,k2,_,M2,?_|λx=>?_]
     .rw[Z9,Yg]
      split
      .lia
      .rw[Z9,Yg];lia
     .rw[mem];by_cases hx:x=p.1
      .subst hx;show%[λ_=>%[.inr rfl|hz]|λ_=>?_]
       split
       .rename_i h;exact h
       .exact Yq _ Zm
      .split
       .rw[B];exact%[λh=>%[.inl h.1|h.2]|λh=>%[h.1.resolve_right hx|h.2]]
       .rw[Yo,Yu,B];exact%[λh=>let h:=h.resolve_right hx;%[.inl h.1|h.2]|λh=> .inl %[h.1.resolve_right hx|h.2]]
   | some j=>
     let hz:p.1∈J:=by
      let%[u|hu]:=q2 j rfl;exact T.mem_iff.mp ((dP v).mp %[u|Xl %[_,Z8 hu|rfl]])
     rw[if_neg ∅];show Z3 (n i _ g %[f++[p],rest,i,by rw[I,Ze];rfl,O,rfl,g,l,M,by rw[Z9];lia|λx=>?_]);rw[B,mem];show%[λh=>%[.inl h.1|h.2]|λh=>%[h.1.resolve_right λe=>h.2 (e▸hz)|h.2]]
  .intro _ s' %[f,rest,i,I,ex,rfl,g,l,M,ml|B];obtain rfl:rest=[]:=by
    cases rest with
    | nil=>rfl
    | cons p rest=>cases ex
   rw[Zy]at I;exact Z3 (Z3 (hQ i d l (λc o e=>g c o (Zs (Zu e)) (L c o e)) (λx=>by rw[B,<-I,pz.mem_iff]) M))
end
def sV:entryFor table "set.__sub__"=some Builtin.«frozenset.__sub__»:=entryFor_alias (id':="frozenset.__sub__") (by kernel_rfl) rfl (!0) (by kernel_rfl)
section
variable{X:Cx}
abbrev BI(w:World):R2:=λx y H Q=>asR x λa=>asR y λb=>∃ks d,H a∣lq w a ks/\H b∣lq w b d/\ ~~~ks<=900/\∀l c,H l=none->(∀x,x∈c↔x∈ks/\x∉d)->c.Nodup->Q (.ref l) (Ja H l (lq w l c))
def DJ:OpR X (binaryOp .Sub) (BI X.w):=by
 intro fx s B H x y v u Q I m n h;let%[a,rfl|p]:=e8 h;let%[b,rfl,ks,C,r,w,e|q]:=e8 p;cases m;cases n;let%[S,_|_]:=(I.hok a _ r)
 let%[O,_|_]:=(I.hok b _ w)
 let f:∀{c:Addr} {j:ZB},bw X.w c j s.heap->s.TypeIs (.ref c) _:=λ{c j} h=>by
  let%[o,E,G,t,ss,g,i|_]:=h;exact%[o,g|i.1]
 show wpAny_binaryOp_same (f S) (f O) F.fills_set_sub F.slot_set_sub (wpAny_call_entry F.slot_set_sub (f S) sV (Z2 (Z2 (Z3 (Z3 (Z2 (Z2 (sU S (sU O (Z2 (Z3 (Z2 (DI S O e λJ d l k z M=>Z3 %[_,rfl,by simp,.ref ⇑s,_,I.stoodS (o:=lq X.w ⇑s l) (I.keptS k rfl rfl) (Zi _) %[M,?_|λ_ _ A k1=>bw.keep A k1],rfl|q _ l (I.hok.fresh (Zi _)) z M.nd])))))))))))) (F.args_set_sub_2 _ _));let%[o,_,_,_,_,g|_]:=M;exact%[o|g]
def F7(h:X.w=w):OpQ X (binaryOp .Sub) (BI w):=by subst h;exact⟨DJ⟩
end
def gO{X:Cx}(a:cj k X.A)(b:behindInMarks .NotIn o=false)(hi:QE X i ty)(c:QE X o d):QT X (.Compare i [.NotIn] [o] pos) (tB (rV ty d)):=
 ⟨Aa (yO (by let:=a.units;lia) hi.h c.h) b⟩
open PySem PySem.Spec PyProof.Rows PySem.SeqAt
section
variable{X:Cx}
variable{K:ZA}{pos:Pos}
def aa(i:Nat){x:Str}(h:(X.N[i]?,X.env.scope.names.lookup x,x==("__debug__":Str),x==("__classdict__":Str))=(some x,some .local,false,false)):QE X (.Name x pos) (pK i):=by
 simp only[Prod.mk.injEq]at h;exact vn i h.1 (.inl h.2.1) h.2.2.1 h.2.2.2
def bI(i:Nat){x:Str}(h:(X.N[i]?,X.env.scope.names.lookup x,x==("__debug__":Str),x==("__classdict__":Str))=(some x,some .cell,false,false)):QE X (.Name x pos) (pK i):=by
 simp only[Prod.mk.injEq]at h;exact vn i h.1 (.inr (.inl h.2.1)) h.2.2.1 h.2.2.2
def aG{mg:ZC}{j k:Nat}{x:Str}{ps:ZB}{sp:Sp}{p:Pos}{e:Expr}{a:List Expr}{t:TA}(C:Cal X.prog X.w K mg X.base j x ps sp)(b:cj k X.A)(h:(X.K,X.mg,X.env.kindOf x,Nat.ble j k,x==("__debug__":Str),(e::a).any bg)=(K,mg,some .globalImplicit,true,false,false))(c:QA X (e::a) t):QE X (.Call (.Name x p) (e::a) [] pos) (t8 sp [] E0 t):=by
 simp only[Prod.mk.injEq]at h;let%[rfl,rfl|h]:=h;exact calE C b h.1 h.2.1 h.2.2.1 h.2.2.2 c
def BJ{mg:ZC}{j k:Nat}{x:Str}{ps:ZB}{sp:Sp}{p:Pos}{e:Expr}{a:List Expr}{t:TA}(C:Dx X.prog X.w K mg X.base j x ps sp)(c:uL K mg x)(b:cj k X.A)(h:(X.K,X.mg,X.env.kindOf x,Nat.ble (j+1) k,x==("__debug__":Str),(e::a).any bg)=(K,mg,some .globalImplicit,true,false,false))(d:QA X (e::a) t):QE X (.Call (.Name x p) (e::a) [] pos) (xu (cC mg x) sp [] E0 t):=by
 simp only[Prod.mk.injEq]at h;let%[rfl,rfl|h]:=h;exact Ho C c b h.1 h.2.1 h.2.2.1 h.2.2.2 d
def qN{mg:ZC}{j k:Nat}{x m:Str}{ps:ZB}{sp:Sp}{a:Pos}{o:Expr}{b:TE}{pl:Sem Bool}(C:zt X.prog X.w K mg X.base j x m ps sp)(c:uL K mg x)(e:cj k X.A)(h:(X.K,X.mg,Nat.ble j k)=(K,mg,true))
 (g:eval (.Call (.Attribute o m a) [] [] pos) X.env=(do
  let d<-eval o X.env
  standAt a.atName
  let(f,first)<-holding [d] (getMethod d m pl)
  callWith pos f first (backTo pos (starEach [] X.env)) (backToKw pos (keywordEach [] X.env)))) (i:QE X o b):QE X (.Call (.Attribute o m a) [] [] pos) (xt (cC mg x) m sp [] E0 b yH):=by
 simp only[Prod.mk.injEq]at h;let%[rfl,rfl|h]:=h;exact FZ C c e h g i
def cbO{x:Str}{id:String}{r:List V->Hp->VK->Prop}{p:Pos}{e:Expr}{a:List Expr}{t:TA}(b:cA X (.builtin id) r)(c:X.mg x=none)(d:bootBuiltins x∣.builtin id)(h:(X.env.kindOf x,x==("__name__":Str),x==("__debug__":Str),(e::a).any bg)=(some .globalImplicit,false,false,false))(f:QA X (e::a) t):QE X (.Call (.Name x p) (e::a) [] pos) (tCB r t):=by
 simp only[Prod.mk.injEq]at h;exact cbE b h.1 c d h.2.1 h.2.2.1 h.2.2.2 f
def ctO{x:Str}{T:String}{r:List V->Hp->VK->Prop}{p:Pos}{e:Expr}{a:List Expr}{t:TA}(b:cA X (.type T) r)(c:X.mg x=none)(d:bootBuiltins x∣.type T)(h:(X.env.kindOf x,x==("__name__":Str),x==("__debug__":Str),(e::a).any bg)=(some .globalImplicit,false,false,false))(f:QA X (e::a) t):QE X (.Call (.Name x p) (e::a) [] pos) (tCB r t):=by
 simp only[Prod.mk.injEq]at h;exact ctE b h.1 c d h.2.1 h.2.2.1 h.2.2.2 f
def bmO{o e:Expr}{c:List Expr}{f:TE}{t:TA}{name:Str}{a b:Pos}{T id:String}{r:V->List V->Hp->VK->Prop}(g:PlainAttrs T)(slot:Slot T name id)(d:typeOf (.builtin id)=pure (.type "method_descriptor"))(i:MtQ X id r)
 (h:(X.K,gx o,(e::c).any bg,Nat.blt (e::c).length 30,a.endLine==b.line)=(K,false,false,true,true)) (j:QE X o f) (l:QA X (e::c) t):QE X (.Call (.Attribute o name a) (e::c) [] b) (tBM K T r f t):=by
 simp only[Prod.mk.injEq]at h;let%[rfl|h]:=h;exact bmE rfl g slot d i h.1 h.2.1 h.2.2.1 h.2.2.2 j l
def aK(i:Nat){x:Str}{e:Expr}{b:TE}{a:Pos}(c:X.N.Nodup)(h:(X.N[i]?,X.env.scope.names.lookup x,gj e)=(some x,some .local,false))(d:QE X e b):QS X (.Assign [.Name x a] e pos) (rF b (jm i)):=by
 simp only[Prod.mk.injEq]at h;exact pN i c h.1 (.inl h.2.1) (.inr h.2.1) h.2.2 d
def aH(i:Nat){x:Str}(a:X.N.Nodup)(h:(X.N[i]?,X.env.scope.names.lookup x)=(some x,some .local)):QG X (.Name x pos) (jm i):=by
 simp only[Prod.mk.injEq]at h;exact qA i a h.1 (.inl h.2) (.inr h.2)
#where
variable{x:Addr}{C:Addr}{name:Str}{v:Value}{ox:Obj}
variable{o:Expr}{value:Expr}{nm:Str}{ta:TE}{tv:TE}{pos':Pos}
variable{P:Program}{mg:ZC}{base:Heap}{x:Str}{qual:Str}{st:Stmt}{N:ZB}{ps:ZB}{k:Nat}{sp:Sp}
end
section
variable{X:Cx}
def dinE(a:cj k X.A)(b:behindInMarks .In o=false)(hi:QE X i ty)(c:QE X o d):QE X (.Compare i [.In] [o] pos) (C8 ty d):=⟨EC (AI (by let:=a.units;lia) hi.h c.h) b⟩
end
abbrev pV(L:List Addr)(c:Addr->Obj)(H:Hp):Hp:=λb=>if b∈L then(match H b with|some (.dK a)=>some (.frz (c b) (.dK a))|x=>x)else H b
def j9(h:b∈L)(e:H b∣.dK a):pV L c H b∣.frz (c b) (.dK a):=by
 unfold pV;rw[if_pos h,e]
def kb(h:b∉L):pV L a H b=H b:=if_neg h
def gP(h:∀a,H b≠some (.dK a)):pV L d H b=H b:=by
 unfold pV;by_cases c:b∈L
 .rw[if_pos c];cases e:H b with
  | none=>rfl
  | some o=>cases o<;> first|rfl|exact(h _ e).elim
 .rw[if_neg c]
section
variable{P:Program}{w:World}{K:ZA}{mg:ZC}{base:Heap}{k:Nat}{f:Addr}{fd:FuncData}{ps:ZB}{sp:Sp}
def DK(x:HOk P w H h):HOk P w (pV L (λb=>(h.get? b).getD default) H) h:=by
 intro b o e;let st:∀{b:Addr} {o:HO},bQ P w H h b o->bQ P w (pV L (λb=>(h.get? b).getD default) H) h b o:=λq=>q.stay (λ_ _ _ q=>q) (λc q=>by rw[gP (λa z=>by lia)];exact q) λc xs q=>by rw[gP (λa z=>by rw[q]at z;cases z)];exact q
 by_cases c:b∈L
 .by_cases d:∃a,H b∣.dK a
  .let%[a|d]:=d;rw[j9 c d]at e;cases e;let%[i|g]:=(x b _ d).there;exact%[by rw[g];rfl|st (x b _ d)]
  .rw[gP (λa z=>d %[a|z])]at e;exact st (x b o e)
 .rw[kb c]at e;exact st (x b o e)
def F8(u:Un fs [] H c h d):Un fs [] H (pV L i c) h d:=by
 show%[u.keep,u.slot,λb o e n g=>?_,u.there,λb xs e=>?_,λb o v e=>?_|λb q e=>?_]
 .let:=u.free b o e n g;rw[gP (λa z=>by lia)];exact this
 .let:=u.tups b xs e;rw[gP (λa z=>by rw[this]at z;cases z)];exact this
 .let:=u.frzs b o v e;rw[gP (λa z=>by rw[this]at z;cases z)];exact this
 .let%[m|this]:=u.tbls b q e;exact%[m|by rw[gP (λa z=>by rw[this]at z;cases z)];exact this]
def d9.freeze(F:d9 P w K mg base CX0 k f fd ps sp):d9 P w K mg base CX0 k f fd ps (λvs H Q E=>sp vs H (λv b=>∃L,∀c,Q v (pV L c b)) E):=by
 show%[λvs H Q E=>F.len vs H _ E|λA outer s H args us vs Q E d g h i j=>codeAny_mono (F.run A outer s H args us vs _ E d g h i j) λr s' a=>?_];cases r with
 | error e=>exact a
 | ok l=>
   cases l with
   | ret u=>
     let%[v,y,m,n,o,p,q,L|t]:=a;exact%[v,_,m,n,F8 o,DK p,q|t _]
   | next=>exact a
   | brk=>exact a
   | cont=>exact a
def d9.frozen(F:d9 P w K mg base CX0 k f fd ps sp):d9 P w K mg base CX0 k f fd ps (λvs H Q E=>∃d a,~~~vs= ~~~ps/\H d∣.dK a/\∀o,sp vs (Ja H d (.frz o (.dK a))) (λv L=>Q v (Ja L d (.dK a))) E):=by
 show%[λvs H Q E ⟨d,a,l,_⟩=>l|λA outer s H args us vs Q E M g B N ⟨d,a,_,C,O⟩=>?_];let%[o|T]:=(g.hok d _ C).there;let h:∀{b:Addr},H b=none->b≠d:=λe z=>by rw[z,C]at e;cases e
 let m:∀{b:Addr} {u:HO},H b∣u->(∀q,u≠ .dK q)->b≠d:=λe n z=>by rw[z,C]at e;cases e;exact n _ rfl
 let st:∀{b:Addr} {u:HO},bQ P w H s.heap b u->bQ P w (Ja H d (.frz o (.dK a))) s.heap b u:=λq=>q.stay (λ_ _ _ q=>q) (λc q=>(am (m q λ_ z=>nomatch z))▸q) λc xs q=>(am (m q λ_ z=>nomatch z))▸q
 let G:v9 P w K mg base A outer s (Ja H d (.frz o _)):=⟨g.frames,g.mod,λb i e=>%[(g.bs b i e).1|by rw[am (h (g.bs b i e).2)];exact(g.bs b i e).2],g.bsz,g.funs,λb B=>by rw[am (h (g.frf b B))];exact g.frf b B,λb u e=>by
  by_cases c:b=d
  .subst c;rw[upd_same]at e;cases e;exact%[T|st (g.hok b _ C)]
  .rw[am c]at e;exact st (g.hok b u e),g.bare⟩
 show codeAny_mono (F.run A outer s _ args us vs _ E M G B N (O o)) λr s' p=>?_
 cases r with
 | error e=>exact p
 | ok U=>
   cases U with
   | next=>exact p
   | brk=>exact p
   | cont=>exact p
   | ret u=>
     let%[v,I,Y,h2,j,J,h5|h6]:=p;let hf:=j.frzs d o _ upd_same;let t:∀{b:Addr} {u:HO},I b∣u->(∀o q,u≠ .frz o q)->b≠d:=λe n z=>by grind
     let y:∀{b:Addr} {u:HO},bQ P w I s'.heap b u->bQ P w (Ja I d (.dK a)) s'.heap b u:=λq=>q.stay (λ_ _ _ q=>q) (λc q=>(am (t q λ_ _ z=>nomatch z))▸q) λc xs q=>(am (t q λ_ _ z=>nomatch z))▸q
     show%[v,_,Y,h2,%[λb i e n=>j.keep b i e ((am (h n))▸n),λb i e n=>j.slot b i e ((am (h n))▸n),λb i e n hx=>?_,j.there,λb xs e=>?_,λb i u e=>?_|λb q e=>?_],λb u e=>?_,h5|h6]
     .rw[am (h n)];exact j.free b i e ((am (h n))▸n) hx
     .let n:=m e λ_ z=>nomatch z
      rw[am n];exact j.tups b xs ((am n)▸e)
     .let n:=m e λ_ z=>nomatch z
      rw[am n];exact j.frzs b i u ((am n)▸e)
     .let n:=m e λ_ z=>nomatch z
      rw[am n];exact j.tbls b q ((am n)▸e)
     .by_cases c:b=d
      .subst c;rw[upd_same]at e;cases e;exact y (J b _ hf).2
      .rw[am c]at e;exact y (J b u e)
end
abbrev Itk(d:Addr)(o:Obj)(a:List (Key×V)):It:=⟨λi H=>H d∣.frz o (.dK a)/\i< ~~~a,λi H x b=>b=H/\∃k v,a[i]?∣(k,v)/\x=kV k,λi H=>H d∣.frz o (.dK a)/\ ~~~a<=i⟩
abbrev uW(c:TE):TI:=λe H R=>c e H λv b=>∃d o a,v= .ref d/\b d∣.frz o (.dK a)/\R (Itk d o a) b
def xI(h:jk k v=true):aN (kV k) v:=by
 rcases aY h with⟨i,t,rfl,rfl⟩|⟨x,t,rfl,rfl⟩
 .exact%[t|ρ]
 .exact%[t|ρ]
def BK{a:List _}{vs:List _}(r:KV a vs){i:Nat}{k:Key}{v:V}(e:a[i]?∣(k,v)):∃u,vs[i]?∣(k,u)/\aN v u:=by
 induction r generalizing i with
 | nil=>cases e
 | @cons p q ps qs b t c=>
   cases i with
   | zero=>
     obtain rfl:p=(k,v):=Za e;exact%[q.2,by rw[show k=q.1 from b.1];rfl|b.2]
   | succ i=>exact c e
def iK(r:KV a vs): ~~~a= ~~~vs:=by
 induction r with
 | nil=>rfl
 | cons _ _ b=>simp_all
section
variable{P:Program}{w:World}{K:ZA}{tg:Expr}
def sW{X:Cx}(I:Jc X fx p H s)(e:H d∣.frz o (.dK a))(b:o.data= .dict h i):∃vs,KV a vs/\s.heap.DictAt (aL X.prog X.w) d vs i:=by
 let%[g,q,t,vs,r,u,j,l,c,m,f|n]:=I.hok d _ e;rw[g]at c;cases c;rw[b]at f;cases f;exact%[vs,r,_,h,g,m,b|n]
def BL(d it:Addr)(o:Obj)(kvs:List _):ny P w K tg (Itk d o kvs) [it] it (λi h=>∃es ep,o.data= .dict es ep/\h.IsKeyIter it d i kvs.length ep) where
 mem:=by simp
 obj:=λi h st b hb=>by
  let e:=↑hb
  subst e;let%[_,_,_,o,e,c|d]:=st;exact%[o,e|λv z=>by rw[d]at z;cases z]
 keep:=λi h h' ⟨es,ep,ho,st⟩ k=>%[es,ep,ho|st.at λo e=>k it ∅ o e]
 item:=by
  intro X hP hw hK hc i fx s σ H E I hf st hg;subst hP hw hK;let%[es,ep,ho|st]:=st;let%[hd|hi]:=hg;let%[vs,r|da]:=sW I hd ho;let ln:=iK r;let%[u,hu|ru]:=BK r (Z4 hi);let%[f0,f1,f2,f3,f4|f5]:=hf it ∅;rw[ln]at st;show wpAny_pyNext_dict_item st da hu λkey h' hk st' sb=>?_
  rw[<-ln]at st';let%[o',e,c|dd]:=id st';exact%[key,ρ|qe e c dd (!1) %[_,H,(I.turned (λb o hb e=>(sb.2 b hb).trans e) f0 f1 f3 f4 f5),xI hk,%[ρ,_,_,Z4 hi|ρ],%[es,ep,ho|st']|λb hb=>(hf b hb).1]]
 done:=by
  intro X hP hw hK hc i fx s σ H E I hf st hg;subst hP hw hK;let%[es,ep,ho|st]:=st;let%[hd|hi]:=hg;let%[vs,r|da]:=sW I hd ho;let ln:=iK r;let%[f0,f1,f2,f3,f4|f5]:=hf it ∅;rw[ln]at st;exact wpAny_pyNext_dict_end (I.ok.hd hc) st da (Xg ⋯) λh' eb=>%[rfl|I.turned (λb o hb e=>eb b o hb e) f0 f1 f3 f4 f5]
 self:=λ_ _ _ _ _ ⟨_,_,_,st⟩ h=>wpAny_pyIter_keyiter st h
def DL{X:Cx}(p:PE X l t):PI X tg l (uW t):=by
 intro fx s u H R I h;show thP (p fx s u H _ I h) λv c x y a z A=>?_
 let%[d,o,f,e,B|q]:=A;subst e;cases z;let%[g,N,C,vs,r,E,j,m,i,G,n|J]:=a.hok d _ B;let L:c.heap.DictAt _ d vs m:=%[E,j,i,G,n|J]
 rw[g]at i;cases i;show wpAny_pyIter_dict C L %[⇑c,[⇑c],_,_,y,rfl,a.kept λb o e=>Z7 _ e,BL d _ o f,%[j,m,n,_,Zj _ rfl,rfl|by rw[iK r];rfl],λb M=>?_|q];let e:=↑M
 subst e;exact a.fpOk (Zi _) (a.hok.fresh (Zi _))
def BM{X:Cx}(a:QE X l b):QI X tg l (uW b):=⟨DL a.h⟩
end
abbrev Iti(d:Addr)(o:Obj)(a:List (Key×V)):It:=⟨λi H=>H d∣.frz o (.dK a)/\i< ~~~a,λi H v b=>∃k x T,a[i]?∣(k,x)/\H T=none/\v= .ref T/\b=Ja H T (.tup [kV k,x]),λi H=>H d∣.frz o (.dK a)/\ ~~~a<=i⟩
abbrev sX(c:TE):TI:=λe H R=>c e H λv b=>∃d o a,v= .ref d/\b d∣.frz o (.dK a)/\R (Iti d o a) b
def sY:entryFor table "dict_itemiterator.__iter__"=some Builtin.«dict_keyiterator.__iter__»:=
 entryFor_alias (id (Eq.refl (fastTable "dict_itemiterator.__iter__"))) (Eq.refl ("dict_itemiterator.__iter__".cutAt '#')) (!0) (id (Eq.refl (fastTable "dict_keyiterator.__iter__")))
section
variable{P:Program}{w:World}{K:ZA}{elts:List Expr}{kt:Nat}{tp:Pos}
def wQ(d it:Addr)(o:Obj)(kvs:List (Key×V)):ny P w K (.Tuple elts kt tp) (Iti d o kvs) [it] it (λi h=>∃es ep ok ov,o.data= .dict es ep/\IsItemIter h it d i kvs.length ep ok ov) where
 mem:=by simp
 obj:=λi h st b hb=>by
  let e:b=it:=↑hb
  subst e;let%[_,_,_,_,_|e]:=st;exact%[_,e|λv z=>nomatch z]
 keep:=λi h h' ⟨es,ep,ok,ov,ho,st⟩ k=>%[es,ep,ok,ov,ho|k it ∅ _ st]
 item:=by
  intro X hP hw hK hc i fx s σ H E I hf st hg;subst hP hw hK;let%[es,ep,ok,ov,ho|st]:=st;let%[hd|hi]:=hg;let%[vs,r|da]:=sW I hd ho;let ln:=iK r;let%[u,hu|ru]:=BK r (Z4 hi);let ilt:it<⇑s:=Zu st;rw[ln]at st;show wpAny_pyNext_items_item st da hu λkey h1 hk st1 ht1 hz1 hk1=>%[_,rfl|wpAny_letOwnedTupleGo_items (s:=(s>>>h1)) st1 λh2 st2 sb2=>?_]
  replace sb2:SameBut it h1 h2:=sb2;let kk:∀b o,b∉[it]->s.heap.get? b∣o->h2.get? b∣o:=λb o hb q=>by
   let hb:b≠it:=↑hb
   exact(sb2.2 b hb).trans (hk1 b o hb q)
  let J:Jc X fx σ H (s>>>h2):=I.moved hf kk;let hT:=(sb2.2 _ (Yv ilt)).trans ht1;let I2:Jc X fx σ (Ja H ⇑s (.tup _)) _:=
   I.stood J (Zi _) %[by change 2<=sizeLine;decide,[key,u],.cons (xI hk) (.cons ru .nil),_,hT,rfl,_|rfl]
  rw[<-ln]at st2;show%[.ref ⇑s,_,I2,ρ,%[_,_,_,Z4 hi,I.fresh,ρ|ρ],%[es,ep,_,_,ho|st2]|λb hb=>?_];rw[am (↑hb▸Zs ilt)];exact(hf b hb).1
 done:=by
  intro X hP hw hK hc i fx s σ H E I hf st hg;subst hP hw hK;let%[es,ep,ok,ov,ho|st]:=st;let%[hd|hi]:=hg;let%[vs,r|da]:=sW I hd ho;let ln:=iK r;rw[ln]at st;show wpAny_pyNext_items_end (I.ok.hd hc) st da (Xg ⋯) λh1 xb=>%[rfl|I.moved hf λb o hb q=>?_]
  exact xb b o ↑hb q
 self:=λA i s Q E ⟨_,_,_,_,_,st⟩ h=>by
  let hT:s.TypeIs (.ref it) _:=%[_,st|rfl]
  exact wpAny_pyIter_slot hT PySem.F.slot_dict_itemiterator_iter (wpAny_call_entry PySem.F.slot_dict_itemiterator_iter hT sY (Z3 %[.ref it,rfl,"dict_itemiterator",_,hT,PySem.F.slot_dict_itemiterator_next.lookup|h]) (PySem.F.args_dict_itemiterator_iter_1 _))
def wR{X:Cx}(n:gx o=false)(c:(i.endLine==j.line)=true)(J:QE X o L):QI X (.Tuple elts kt tp) (.Call (.Attribute o "items" i) [] [] j) (sX L):=by
 show⟨λfx s A H R I h=>?_⟩;show wpAny_Call_method0_late (fh n) c (thP (J.h fx s A H _ I h) λv a x p l M N=>?_);let%[d,t,f,e,u|q]:=N;subst e;cases M;let g:cE p d (kV (.inr Str.empty)) (bu f (.inr Str.empty)):= .inl %[f,_,.inr %[t|u],rfl|rfl];show%["dict",_,plainAttrs_dict,PySem.F.slot_dict_items,PySem.F.type_dict_items,l7 l g,uf l g|Calls.callWith_builtin rfl (PySem.evalArgs_none ?_)];let%[hz,O,vs,r|B]:=nB l.hok (.inr %[t|u]);show call_meetsIn PySem.F.slot_dict_items B.typeIs PySem.F.entry_dict_items (PySem.F.args_dict_items_1 _) (meets_dict_items (aL X.prog X.w) d O) %[%[vs|B]|?_];let m:Jc X fx A p {a with heap:=a.heap.push {cls:= .type "dict_items",data:= .fields #[.ref d]}}:=l.kept (t':=a.toks) λb o e=>Z7 _ e
 let%[Q,_,_,y,T,U,C,E,z,Y,G|h3]:=m.hok d _ u;let da:Heap.DictAt (aL X.prog X.w) (a.heap.push {cls:= .type "dict_items",data:= .fields #[.ref d]}) d y E:=%[U,C,z,Y,G|h3]
 rw[Q]at z;cases z;show wpAny_pyIter_items (s:={a with heap:=a.heap.push {cls:= .type "dict_items",data:= .fields #[.ref d]}}) %[_,Zj _ rfl,rfl|rfl] da ?_;show%[_,[_],_,_,p,ρ,(m.kept (t':=a.toks) λb o e=>Z7 _ e),wQ d _ t f,%[C,E,_,_,G|by rw[iK T];exact Zj _ rfl],λb n=>?_|q];let e:b=(a.heap.push {cls:= .type "dict_items",data:= .fields #[.ref d]}).objs.size:=↑n
 subst e;exact m.fpOk (Zi _) (m.hok.fresh (Zi _))
end
section
variable{X:Cx}
def Hs:MtQ X "list.pop" G6:=⟨Fl⟩
abbrev Ht:V->List V->Hp->VK->Prop:=λx vs H Q=>asR x λa=>∃b,vs=[.ref b]/\∃c more,a≠b/\H a∣.dK c/\H b∣.dK more/\ ~~~c+ ~~~more<=sizeLine/\Q .non (Ja H a (.dK (kY c more)))
def F9:MtM X "dict.update" Ht:=by
 intro fx s C H x vs v us Q I m n h;let%[a,rfl,b,rfl,o,more,p,g,r,i|q]:=e8 h;cases m;let%[u,rfl|t]:=n.one;cases t;let%[z,w,vs,d|j]:=lZ I.hok g;let%[E,e,y,c|f]:=lZ I.hok r;exact call_meetsIn PySem.F.slot_dict_update j.typeIs PySem.F.entry_dict_update (PySem.F.args_dict_update_2 _ _) (meets_dict_update _ a b p e) %[vs,y,j,f,by rw[<-iK d,<-iK c];exact i|λG l J A=>%[.non,_,m8 I (g▸True.intro) A (let⟨q,_,_,B,_⟩:=l;%[q|B]) (wa (Nat.le_trans (jo _ _) i) w (KV.merge c d) l),rfl|q]]
def BN:MtQ X "dict.update" Ht:=⟨F9⟩
abbrev Eo:V->List V->Hp->VK->Prop:=λx vs H Q=>asR x λa=>∃k,vs=[kV k]/\∃b,H a∣.dK b/\Q ((bu b k).getD .non) H
def DM:MtM X "dict.get" Eo:=by
 intro fx s l H x vs v us Q I f g h;let%[a,rfl,k,rfl,b,e|q]:=e8 h;cases f;let%[m,rfl|i]:=g.one;let%[z,j,vs,c|d]:=lZ I.hok e;exact call_meetsIn slot_dict_get d.typeIs PySem.F.entry_dict_get (PySem.F.args_dict_get_2 _ _) (meets_dict_get _ a (lW i) j) %[_,d.mapOf,(bu b k).getD .non,H,I.tok _,(c.val k).getD rfl|q]
def Ga:MtQ X "dict.get" Eo:=⟨DM⟩
end
def Cal.freeze{P:Program}{K:ZA}(C:Cal P w K mg base k x ps sp):Cal P w K mg base k x ps (λvs H Q E=>sp vs H (λv a=>∃L,∀b,Q v (pV L b a)) E):=by
 let%[f,c,F|r]:=C.ex;exact%[f,c,F.freeze|r]
def Cal.imp{P:Program}{K:ZA}(C:Cal P w K mg base k x ps sp)(h:∀vs H Q E,a vs H Q E->sp vs H Q E):Cal P w K mg base k x ps a:=by
 let%[f,b,F|r]:=C.ex;exact%[f,b,F.imp h|r]
def Cal.frozen{P:Program}{K:ZA}(C:Cal P w K mg base k x ps sp):Cal P w K mg base k x ps (λvs H Q E=>sp vs H Q E\/∃d a,~~~vs= ~~~ps/\H d∣.dK a/\∀o,sp vs (Ja H d (.frz o (.dK a))) (λv i=>Q v (Ja i d (.dK a))) E):=by
 let%[f,j,F|r]:=C.ex;show%[f,j,%[λvs H Q E h=>h.elim (F.len vs H Q E) (F.frozen.len vs H Q E)|λA outer s H args us vs Q E b c e g h=>h.elim (F.run A outer s H args us vs Q E b c e g) (F.frozen.run A outer s H args us vs Q E b c e g)]|r]
def BO{a:List (Key×V)}{g:TG}{n:TS}{D:jN}(Pv:Nat->St->Hp->Prop)(s:Pv 0 b H)(t:∀i b H,i<= ~~~a->Pv i b H->H d∣.frz o (.dK a))
 (u:∀i k v b H,a[i]?∣(k,v)->Pv i b H->g (kV k) b H λc l=>n {D with nx:=Pv (i+1),ct:=Pv (i+1),bk:=D.nx} c l) (w:∀b H,Pv a.length b H->D.nx b H):
 ∃W:Nat->Nat->St->Hp->Prop,(∃m,W 0 m b H)/\∀i m b H,W i m b H->
  ((Itk d o a).stop i H/\D.nx b H)\/((Itk d o a).go i H/\∃N:St->Hp->Prop,(∀f h,N f h->∃r,r<m/\W (i+1) r f h)/\∀x h,(Itk d o a).yld i H x h->g x b h λc l=>n {D with nx:=N,ct:=N,bk:=D.nx} c l):=by
 show%[λi m b H=>m= ~~~a-i/\i<= ~~~a/\Pv i b H,%[~~~a,by simp,Xa _|s]|?_];intro i m b H %[rfl,hi|p];let q:=t i b H hi p;by_cases j:i< ~~~a
 .show .inr %[%[q|j],Pv _,λf h z=>%[~~~a-(i+1),⋯,rfl,j|z]|λx h y=>?_];let%[e,k,v,y|rfl]:=y;subst e;exact u i k v b _ y p
 .let e:i= ~~~a:=by lia
  subst e;exact .inl %[%[q|Zi _]|w b H p]
def zF{a:List (Key×V)}{g:TG}{r:TS}{D:jN}(Pv:Nat->St->Hp->Prop)(t:Pv 0 b H)(u:∀i b H,i<= ~~~a->Pv i b H->H d∣.frz o (.dK a))
 (w:∀i k v T b H,a[i]?∣(k,v)->Pv i b H->H T=none->g (.ref T) b (Ja H T (.tup [kV k,v])) λc n=>r {D with nx:=Pv (i+1),ct:=Pv (i+1),bk:=D.nx} c n) (z:∀b H,Pv a.length b H->D.nx b H):
 ∃W:Nat->Nat->St->Hp->Prop,(∃m,W 0 m b H)/\∀i m b H,W i m b H->
  ((Iti d o a).stop i H/\D.nx b H)\/((Iti d o a).go i H/\∃N:St->Hp->Prop,(∀h j,N h j->∃s,s<m/\W (i+1) s h j)/\∀x j,(Iti d o a).yld i H x j->g x b j λc n=>r {D with nx:=N,ct:=N,bk:=D.nx} c n):=by
 show%[λi m b H=>m= ~~~a-i/\i<= ~~~a/\Pv i b H,%[~~~a,by simp,Xa _|t]|?_];intro i m b H %[rfl,hi|p];let q:=u i b H hi p;by_cases l:i< ~~~a
 .show .inr %[%[q|l],Pv _,λh j A=>%[~~~a-(i+1),⋯,rfl,l|A]|λx j y=>?_];let%[k,v,T,y,f,rfl|rfl]:=y;exact w i k v T b H y p f
 .let e:i= ~~~a:=by lia
  subst e;exact .inl %[%[q|Zi _]|z b H p]
section
variable{X:Cx}
variable{prog:Program}{w:World}{A:Around}{R:Result->Shared->Prop}{I S:Addr}{fp wr:List Addr}{n:Nat}{P:Nat->Value->Prop}{St:Nat->Heap->Prop}{val:Nat->Int}{kn:Str}{d:Value}
variable{e:Expr}{v:Expr}{te:TE}{tv:TE}{p:Pos}{pos:Pos}{kpos:Pos}
variable{K:ZA}
variable{s:Shared}{E:ZD}
def lC{xs:List V}{us:ZF}(r:aF xs us):∀is:List Nat,aF (is.filterMap (xs[·]?)) (is.filterMap (us.toArray[·]?))
 |[]=> .nil
 | i::is=>by
   let h:us.toArray[i]? =us[i]? :=by simp
   rw[Y0,Y0,h];by_cases c:i< ~~~xs
   .let%[u,a|b]:=r.get (i:=i) (x:=xs[i]) ∅;rw[a,Z4 c];exact .cons b (lC r is)
   .rw[Xg (by omega),Xg (by let:= ~~~r;omega)];exact lC r is
end
def Hu{X:Cx}{K:ZA}(h:X.K=K)(g:X.calm=true):cA X (.builtin "any") (λxs H Q=>∃(p:Addr) (bs:List Bool),xs=[.ref p]/\Jb K H p (bs.map V.bl)/\Q (.bl (bs.any id)) H):=by
 subst h;show⟨λ{fx s B H xs us Q} I r h=>?_⟩;let%[p,bs,rfl,j|q]:=h;let%[u,rfl|l]:=dh r;cases l;let%[its,f,pl|C]:=I.list j;let m:p<⇑s:=by let%[o,n|_]:=pl.isList;exact Zu n
 let a: ~~~bs=its.toArray.size:=by rw[Zp,<-f.length,Z6]
 show call_any_walk (wpAny_pyIter_list pl.isList ?_);show%[⇑s,[⇑s,p],[⇑s],its.toArray.size,_,_,λi=>bs.getD i false,ρ,Walks.list (A:=X.A.in1) (I.ok.hd g) _ p (Zs m) its.toArray,%[%[_,Zj _ rfl,ρ|ρ]|pl.isList.push _],?_|?_]
 .intro i v s' t E w c;let%[b,d|rfl]:=rW f ↑w;let c:t (bs.getD i false) s':=c;rw[Zc,d]at c;exact wpAny_truthy_bool c
 .intro G tk y;rw[<-a,show(List.range bs.length).any _=bs.any id by
   let e:(List.range bs.length).map (λi=>bs.getD i false)=bs:=ext_getElem ∅ λi J z=>by simp[z]
   rw[show(List.range bs.length).any _=((List.range bs.length).map λi=>bs.getD i false).any id by rw[any_map];rfl,e]]
  exact%[.bl _,H,I.kept λb o e=>y b o (λd=>absurd (Xj d) (Zs (Zu e))) (Z7 _ e),ρ|q]
def Hv{X:Cx}{K:ZA}{a:Expr}{b:TE}{pos e:Pos}{lo hi:Option Expr}{c d:TO}(_:X.K=K)(f:QE X a b)(g:QO X lo c)(h:QO X hi d):QE X (.Subscript a (.Slice lo hi none e) pos) (tSl Fu b c d):=⟨ub Fv f.h g.h h.h⟩
def valT{X:Cx}{a:Expr}{c:TE}(d:∀b,isTrue a X.env b=(do let v<-b;standAt a.pos;holding [v] (truthy v)))(e:QE X a c):QT X a (tB c):=⟨ED e.h d⟩
section
variable{prog:Program}{w:World}{A:Around}{R:Result->Shared->Prop}{I:Addr}{fp wr:List Addr}{G:Array GenState->Array GenState->Prop}{n:Nat}{P:Nat->Value->Prop}{St:Nat->Shared->Prop}
variable{E:ZD}{s:Shared}
end
abbrev Hw(K:ZA)(c:TE):TI:=λd H R=>c d H λx b=>asR x λa=>(∃xs,Jb K b a xs)/\R (Itl K a) b
def cH{X:Cx}{K:ZA}{g l:Expr}{f:TE}(h:X.K=K)(i:QE X l f):QI X g l (Hw K f):=by
 subst h;show⟨λfx s j H R I h=>thP (i.h fx s j H _ I h) λv c x m d n r=>?_⟩;let%[a,rfl,%[xs|t]|q]:=e8 r;cases n;let%[its,w,p|y]:=d.list t;exact wpAny_pyIter_list p.isList ⟨⇑c,[⇑c],_,_,m,rfl,d.kept (t':=c.toks) λb o e=>Z7 _ e,qf a _,%[_,Zj _ rfl,rfl|rfl],λb u=>by
  obtain rfl:b=⇑c:=↑u
  exact d.fpOk (Zi _) (d.hok.fresh (Zi _)),q⟩
def kc{X:Cx}:OpQ X (binaryOp .Add) Fn:=⟨Fo⟩
def zG{X:Cx}{K:ZA}{e:Expr}{lo hi:Option Expr}{a:TE}{b c:TO}{d pos:Pos}(h:X.K=K)(f:QE X e a)(g:QO X lo b)(i:QO X hi c):QE X (.Subscript e (.Slice lo hi none d) pos) (tSl (Fi K) a b c):=by subst h;exact⟨ub C3 f.h g.h i.h⟩
def BP{X:Cx}:OpQ X (binaryOp .Add) Ee:=⟨vY⟩
open PySem
def Hy{K:ZA}{z:Str}{H:Hp}:tyV K "str" (.str z) H=True:=eq_true rfl
def tyL{K:ZA}{l:Addr}{H:Hp}{xs:List V}(h:Jb K H l xs):tyV K "list" (.ref l) H:= .inl %[rfl,_|h]
def tyD{K:ZA}{l:Addr}{H:Hp}{a}(h:H l∣.dK a):tyV K "dict" (.ref l) H:= .inr (.inr (.inl %[rfl|.inl %[_|h]]))
def dQ{u:Type}{K:ZA}{l D:Addr}{us:List u}{f:u->V}{c:St}{H:Hp}{g:TG}{v:TT}{w:TE}{z:Hp->Prop}(Pv:Nat->List V->St->Hp->Prop)(A:Pv 0 [] c H)(r:∀i ys c H,Pv i ys c H->H l<*us.map f)
 (B:∀i ys c H (hi:i< ~~~us),Pv i ys c H->g (f us[i]) c H λa s=>v a s λb d=>if b=true then w a d λy q=>CK D us.length i Pv ys a y q else CN us.length i Pv ys a d) (C:∀ys c H,Pv us.length ys c H->z H):
 ∃W:Nat->Nat->List V->St->Hp->Prop,(∃m,W 0 m [] c H)/\∀i m ys h j,W i m ys h j->((Itl K l).stop i j/\z j)\/
  ((Itl K l).go i j/\∀x t,(Itl K l).yld i j x t->g x h t λa s=>v a s λb d=>if b=true then w a d λy q=>∃zs o,q D<*zs/\ ~~~zs<sizeLine/\o<m/\W (i+1) o (ys++[y]) a (Ja q D (.lst (zs++[y])))
    else∃o,o<m/\W (i+1) o ys a d):=
 bR (n:= ~~~us) Pv A (λi ys c H hi p=>%[_,f us[i],Jb.of (r _ _ _ _ p)|by simp[hi]]) (λys c H p=>%[_,Jb.of (r _ _ _ _ p)|by simp]) (λi ys c H hi p x t ⟨e,E⟩=>by
  subst e;let:=E _ (Jb.of (r _ _ _ _ p));rw[Zl,Z4 hi]at this;obtain rfl:f us[i]=x:=Za this;exact B i ys c _ hi p) C
def bV{j:Type}{K:ZA}{a:Addr}{us:List j}{f:j->V}{b:St}{H:Hp}{g:TG}{l:TS}{D:jN}(Pv:Nat->St->Hp->Prop)(q:Pv 0 b H)(r:∀i b H,Pv i b H->H a<*us.map f)
 (s:∀i u b H,us[i]?∣u->Pv i b H->g (f u) b H λc h=>l {D with nx:=Pv (i+1),ct:=Pv (i+1),bk:=D.nx} c h) (t:∀b H,Pv us.length b H->D.nx b H):
 ∃W:Nat->Nat->St->Hp->Prop,(∃m,W 0 m b H)/\∀i m b H,W i m b H->
  ((Itl K a).stop i H/\D.nx b H)\/((Itl K a).go i H/\∃N:St->Hp->Prop,(∀d e,N d e->∃n,n<m/\W (i+1) n d e)/\∀x e,(Itl K a).yld i H x e->g x b e λc h=>l {D with nx:=N,ct:=N,bk:=D.nx} c h):=
 iF (xs:=us.map f) Pv q (λi b H _ p=>Jb.of (r i b H p)) (λi x b H o p=>by
  rw[Zl]at o;let%[u,v|rfl]:=map_eq_some_iff.mp o;exact s i u b H v p) (by rw[Z6];exact t)
section
variable{prog:Program}{w:World}{A:Around}{R:Result->Shared->Prop}{I S:Addr}{fp wr:List Addr}{n:Nat}{P:Nat->Value->Prop}{St:Nat->Heap->Prop}{val:Nat->Int}{kn:Str}{d:Value}
end
section
variable{X:Cx}
abbrev rvI(n:Nat):List Nat:=sliceRange (sliceBounds none none (some (-1)) n).1 (sliceBounds none none (some (-1)) n).2.1 (sliceBounds none none (some (-1)) n).2.2
abbrev Hz(e b:TE):TE:=λd H Q=>e d H λx f=>b d f λy c=>∃a xs,x= .ref a/\c a<*xs/\y= .int (-1)/\∀p:Addr,c p=none-> ~~~((rvI xs.length).filterMap (xs[·]?))<= ~~~xs->Q (.ref p) (Ja c p (.lst ((rvI xs.length).filterMap (xs[·]?))))
def Gb{e st:Expr}{m c:TE}{pos o:Pos}(p:PE X e m)(g:PE X st c):PE X (.Subscript e (.Slice none none (some st) o) pos) (Hz m c):=by
 intro fx s i H Q I h;show Subscript_ (thP (p fx s i H _ I h) λv t x w z A B=>?_);show wpAny_Slice (evalPart_none_step (evalPart_none_step (evalPart_some_step (thP (g fx t i w _ z B) λu f y C E G ⟨a,xs,ex,J,L,q⟩=>?_))));subst ex L;cases A;let%[j|rfl]:=(G)
 let l:Jc X fx i C {f with heap:=f.heap.push {cls:= .type "slice",data:= .fields #[.none,.none,.int (-1) j]}}:=E.kept λb M q=>Z7 _ q
 let N:(f.heap.push {cls:= .type _,data:= .fields #[.none,.none,.int (-1) j]}).IsSliceOf ⇑f _ _ _:=Heap.IsSliceOf.new ..;let%[its,r,n|O]:=l.list (Jb.of J);let d:= ~~~r;show tail_any n.isList.typeIs slot_list_getitem.lookup (wpAny_getItem_list_slice n.isList N .none .none (.int (-1) j) ∅ ?_ (!2)) (by with_unfolding_all rfl);let sz:=slicePick_size_le its.toArray none none (some (-1));unfold slicePick at sz ⊢;rw[show its.toArray.size= ~~~xs by exact d.symm]at sz ⊢;let pv:=lC r (rvI xs.length);let le: ~~~((rvI xs.length).filterMap (xs[·]?))<= ~~~xs:=by rw[pv.length];exact sz
 show%[.ref _,_,l.laid (λb M q=>Z7 _ q) (Zi _) ?_,ρ|q _ (l.hok.fresh (Zi _)) le];exact%[Nat.le_trans le O,_,0,pv|Zj _ rfl]
def slRE{e st:Expr}{c a:TE}{pos d:Pos}(f:QE X e c)(b:QE X st a):QE X (.Subscript e (.Slice none none (some st) d) pos) (Hz c a):=⟨Gb f.h b.h⟩
end
def kf:∀{a:ZL} {us:ZF},aF (a\4) us->IntsAre us a
 |[],_,.nil=> .nil
 | _::_,_,.cons r t=>by
   let%[t'|rfl]:=r;exact .cons _ _ (kf t)
def uX{a:Type}:∀{ps:List (Addr×a)} {us:ZF},aF (ps\0) us->us=ps.map λp=>Value.ref p.1
 |[],_,.nil=>rfl
 | _::_,_,.cons r t=>by
   cases r;rw[uX t];rfl
def uY{a:Type}:∀(ps:List (Addr×a)),aF (ps\0) (ps.map λp=>Value.ref p.1)
 |[]=> .nil
 | _::ps=> .cons rfl (uY ps)
section
variable{X:Cx}{K:ZA}
def zH(h:X.K=K):cA X (.builtin "sorted") (λxs H Q=>∃(a:Addr) (b:ZL),xs=[.ref a]/\Jb K H a (b\4)/\ ~~~b<=1000/\∀l (z:ZL),H l=none->z.Perm b->Q (.ref l) (Ja H l (.lst (z\4)))):=by
 subst h;show⟨λfx s σ H xs us Q I r h=>?_⟩;let%[a,b,rfl,J,m|q]:=h;let%[u,rfl|L]:=dh r;cases L;let%[its,A,%[o,n,M,N,hd|p]|hz]:=I.list J;let c:=kf A;let T: ~~~its= ~~~b:=by rw[<-A.length,Z6]
 let B:∀us,us=its-> ~~~us<=1000:=λus e=>by rw[e,T];exact m
 show lz (s:=s) (G:=λus=>us=its) (O:=λus out=>out.toList.Perm us) (λU R Y=>wpAny_collect_seq a (.inl rfl) M N p (λh' k=>Y _ _ rfl k rfl rfl) (!2)) B (oi (kd:=oneType') B (λus s3 A1 U Q e h2 _ q=>?_) λus x y s3 A1 Q e hx hy _ q=>?_) λs1 s' l us out n e C k1 g1 o1 k g o d gl=>?_
 .subst e;obtain⟨v1,f,r,e⟩:∃v1 f r,us=v1::f::r:=by
   match us,h2 with
   | v1::f::r,_=>exact%[v1,f,r|ρ]
  rw[e,keyKind_ints (e▸c)];exact Z3 q
 .subst e;let%[i,t|rfl]:=c.all _ hx;let%[j,u|rfl]:=c.all _ hy;rw[keyLt'_oneType];exact oneLt_int (q _)
 .subst e;let w:=I.keptS k1 g1 o1;let E:(out.toList.map numOf).Perm b:=by
   let:=C.map numOf;rwa[c.nums]at this
  show%[.ref l,_,w.stoodS (o:= .lst _) (w.keptS k g o) d %[?_,out.toList,n,kZ (intsAre_map out.toList λv hv=>c.all v (C.mem_iff.mp hv))|by rw[Array.toArray_toList];exact gl],ρ|q l _ (w.hok.fresh d) E];rw[Z6,E.length_eq,sizeLine_eq]
  lia
def wS(h:X.K=K):cA X (.builtin "sorted") (λxs H Q=>∃(a:Addr) (ps:List (Addr×Nat×Nat)),xs=[.ref a]/\Jb K H a (ps\0)/\(∀p∈ps,H p.1&&&[.int p.2.1,.int p.2.2])/\ ~~~ps<=1000/\
 ∀l (ss:List (Addr×Nat×Nat)),H l=none->ss.Perm ps->Q (.ref l) (Ja H l (.lst (ss\0)))):=by
 subst h;show⟨λfx s U H xs us Q I r h=>?_⟩;let%[a,ps,rfl,A,B,d|q]:=h;let%[u,rfl|C]:=dh r;cases C;let%[its,f,%[o,n,E,m,y|v]|Y]:=I.list A;let:=uX f;subst this;show my (ps:=ps) (G:=λvs=>∃i t j t',vs=[Value.int i t,Value.int j t']) (T:="int") (λE1 R J=>wpAny_collect_seq a (.inl rfl) E m v (λh' k=>J _ _ (List.Perm.refl _) k rfl rfl) (!2)) d (λp L=>?_) (λ_ ⟨_,_,_,_,e⟩=>%[_,_,e|rfl]) (!1) (λ_ _ ⟨_,_,_,_,a⟩ ⟨_,_,_,_,b⟩=>by
  subst a b;exact .it _ _ _ _ (.it _ _ _ _ (.nl _))) λs1 s' l ss n z k1 g1 M k g o c N=>?_
 .let%[_,its,f,o,O,m,n|y]:=I.hok p.1 _ (B p L);let%[_,_,rfl,%[t|rfl],t'|rfl]:=jn f;exact%[o,_,n,O,m,y,_,_,_,_|ρ]
 .let w:=I.keptS k1 g1 M;show%[.ref l,_,w.stoodS (o:= .lst _) (w.keptS k g o) c %[?_,ss.map _,n,uY ss|N],ρ|q l ss (w.hok.fresh c) z];rw[Z6,z.length_eq,sizeLine_eq]
  lia
end
end _LL
namespace _CU
open PySem _LL
inductive dR (S:Str->Str->Prop):Str->Str->Prop
 | refl (x:Str):dR S x x
 | step {x y z:Str}:dR S x y->(S y z\/S z y)->dR S x z
def dR.trans{S:Str->Str->Prop}(h:dR S x y)(g:dR S y z):dR S x z:=by
 induction g with
 | refl=>exact h
 | step _ s a=>exact .step a s
def dR.one{S:Str->Str->Prop}(h:S x y\/S y x):dR S x y:= .step (.refl x) h
def dR.symm{S:Str->Str->Prop}(h:dR S x y):dR S y x:=by
 induction h with
 | refl=>exact .refl _
 | step _ s a=>exact(dR.one s.symm).trans a
def dR.mono{S R:Str->Str->Prop}(m:∀a b,S a b->R a b)(h:dR S x y):dR R x y:=by
 induction h with
 | refl=>exact .refl _
 | step _ s c=>exact .step c (s.imp (m _ _) (m _ _))
def dR.within{S:Str->Str->Prop}{p:Str->Prop}(w:∀a b,S a b->p a/\p b)(h:dR S x y)(c:p x):p y:=by
 induction h with
 | refl=>exact c
 | step _ s _=>
   rcases s with s|s
   .exact(w _ _ s).2
   .exact(w _ _ s).1
abbrev cI(S:Str->Str->Prop)(z r:Str):Prop:=dR S z r/\∀y,dR S z y->aS y r=false
def cI.one{S:Str->Str->Prop}(h:cI S z r)(g:cI S z a):r=a:=by
 by_cases e:r=a
 .exact e
 .let:=i7 (g.2 _ h.1) e;rw[h.2 _ g.1]at this;cases this
structure bF (ls:ZB) (f r:Str->Str) (S:Str->Str->Prop):Prop where
 ws:∀a b,S a b->a∈ls/\b∈ls
 fin:∀z∈ls,f z∈ls
 rin:∀z∈ls,r z∈ls
 rf:∀z∈ls,r (f z)=r z
 fr:∀z∈ls,f (r z)=r z
 fix:∀z∈ls,f z=z->r z=z
 dec:∀z∈ls,f z≠z->aS (f z) z=true
 le:∀z∈ls,aS z (r z)=false
 cl:∀x∈ls,∀y∈ls,r x=r y↔dR S x y
def bF.rr{S:Str->Str->Prop}(F:bF a f r S)(h:z∈a):r (r z)=r z:=F.fix _ (F.rin z h) (F.fr z h)
def bF.conn{S:Str->Str->Prop}(F:bF a f r S)(h:z∈a):dR S z (r z):=(F.cl z h _ (F.rin z h)).mp (F.rr h).symm
def bF.least{S:Str->Str->Prop}(F:bF b f r S){z:Str}(h:z∈b):cI S z (r z):=by
 show%[F.conn h|λy c=>?_];let a:=c.within F.ws h;rw[(F.cl z h y a).mpr c];exact F.le y a
def bF.start(a:ZB):bF a id id (λ_ _=>False):=by
 show%[λ_ _ h=>h.elim,λz h=>h,λz h=>h,λ_ _=>rfl,λ_ _=>rfl,λ_ _ _=>rfl,λz _ h=>(h rfl).elim,λz _=>gK z|λx b y d=>%[λe=>?_|λc=>?_]]
 .rw[show x=y from e];exact .refl _
 .induction c with
  | refl=>rfl
  | step _ s _=>simp_all
def bF.join{S:Str->Str->Prop}(F:bF j f r S){a b M m:Str}(q:a∈j)(t:b∈j)(A:M=if aS (r a) (r b)=true then r b else r a)(B:m=if aS (r b) (r a)=true then r b else r a):
 bF j (λx=>if x=M then m else f x) (λx=>if r x=M then m else r x) (λx y=>S x y\/(x=a/\y=b)):=by
 let g:(M=r a/\m=r b)\/(M=r b/\m=r a):=by
  rw[A,B];cases e:aS _ _ with
  | true=>
    let:aS (r b) (r a)=false:=by
     cases i:aS _ _ with
     | false=>rfl
     | true=>have:=eF e i;rw[gK]at this;cases this
    exact this▸ .inr %[rfl|rfl]
  | false=>
    cases i:aS _ _ with
    | true=>exact .inl %[rfl|rfl]
    | false=>
      let:r a=r b:=by
       by_cases h:r a=r b
       .exact h
       .let:=i7 e h;rw[i]at this;cases this
      exact this▸ .inl %[rfl|rfl]
 let lt:m≠M->aS m M=true:=by
  rw[A,B];cases e:aS _ _ with
  | true=>
    cases i:aS _ _ with
    | true=>intro h;exact(h rfl).elim
    | false=>intro _;exact e
  | false=>
    cases i:aS _ _ with
    | true=>intro _;exact i
    | false=>intro h;exact(h rfl).elim
 let T:=F.rin a q;let U:=F.rin b t;let C:m∈j:=by rcases g with⟨_,h⟩|⟨_,h⟩<;> rw[h]<;> assumption
 let E:r M=M:=by rcases g with⟨h,_⟩|⟨h,_⟩<;> rw[h]<;> apply F.rr<;> assumption
 let N:r m=m:=by rcases g with⟨_,h⟩|⟨_,h⟩<;> rw[h]<;> apply F.rr<;> assumption
 let O:dR (λx y=>S x y\/(x=a/\y=b)) M m:=by
  let G:dR (λx y=>S x y\/(x=a/\y=b)) _ _:=(((F.conn q).mono λ_ _=> .inl).symm.trans (.one (.inl (.inr %[rfl|rfl])))).trans ((F.conn t).mono λ_ _=> .inl);rcases g with⟨l,n⟩|⟨l,n⟩
  .rw[l,n];exact G
  .rw[l,n];exact G.symm
 let p:∀x∈j,dR _ x (if r x=M then m else r x):=λx w=>by
  let c:=(F.conn w).mono (R:=λx y=>S x y\/(x=a/\y=b)) λ_ _=> .inl
  by_cases e:r x=M
  .rw[if_pos e];rw[e]at c;exact c.trans O
  .rw[if_neg e];exact c
 let H:(if r a=M then m else r a)=(if r b=M then m else r b):=by
  rcases g with⟨l,n⟩|⟨l,n⟩
  .rw[if_pos l.symm];by_cases e:r b=M
   .rw[if_pos e]
   .rw[if_neg e];exact n
  .rw[if_pos l.symm];by_cases e:r a=M
   .rw[if_pos e]
   .rw[if_neg e];exact n.symm
 show%[λx y h=>?_,λz d=>?_,λz d=>?_,λz d=>?_,λz d=>?_,λz d h=>?_,λz d h=>?_,λz d=>?_|λx w y I=>%[λe=>?_|λc=>?_]]
 .rcases h with h|⟨rfl,rfl⟩
  .exact F.ws x y h
  .exact%[q|t]
 .split
  .exact C
  .exact F.fin z d
 .split
  .exact C
  .exact F.rin z d
 .by_cases e:z=M
  .rw[if_pos e,e,E,if_pos rfl,N]
   split<;> rfl
  .rw[if_neg e,F.rf z d]
 .by_cases e:r z=M
  .rw[if_pos e]
   split
   .rfl
   .exact(by rcases g with⟨_,h⟩|⟨_,h⟩<;> rw[h]<;> apply F.fr<;> assumption)
  .rw[if_neg e,if_neg e];exact F.fr z d
 .by_cases e:z=M
  .rw[if_pos e]at h;rw[e,E,if_pos rfl,<-e];exact h
  .rw[if_neg e]at h;rw[F.fix z d h,if_neg e]
 .by_cases e:z=M
  .rw[if_pos e]at h ⊢;rw[e]at h ⊢;exact lt h
  .rw[if_neg e]at h ⊢;exact F.dec z d h
 .by_cases e:r z=M
  .rw[if_pos e];cases i:aS z m with
   | false=>rfl
   | true=>
     let o:=F.le z d;rw[e]at o;by_cases J:m=M
     .rw[J]at i;rw[o]at i;cases i
     .let:=eF i (lt J);rw[o]at this;cases this
  .rw[if_neg e];exact F.le z d
 .let c:=(p x w)
  rw[e]at c;exact c.trans (p y I).symm
 .let ws:∀x y,(S x y\/(x=a/\y=b))->x∈j/\y∈j:=λx y h=>by
   rcases h with h|⟨rfl,rfl⟩
   .exact F.ws x y h
   .exact%[q|t]
  clear I
  induction c with
  | refl=>rfl
  | step c s Q=>
    rename_i u v
    let L:=c.within ws w;rw[Q];rcases s with(s|⟨rfl,rfl⟩)|(s|⟨rfl,rfl⟩)
    .rw[(F.cl u L v (F.ws u v s).2).mpr (.one (.inl s))]
    .exact H
    .rw[(F.cl u L v (F.ws v u s).1).mpr (.one (.inr s))]
    .exact H.symm
def bF.short{S:Str->Str->Prop}(F:bF d f r S)(b:z∈d):bF d (λx=>if x=z then f (f z)else f x) r S:=by
 let g:f z≠z->aS (f _) z=true:=λh=>by
  let i:=F.dec z b h;by_cases e:f (f z)=f z
  .exact e▸i
  .exact eF (F.dec _ (F.fin z b) e) i
 show%[F.ws,λx a=>?_,F.rin,λx a=>?_,λx a=>?_,λx a h=>?_,λx a h=>?_,F.le|F.cl]
 .split
  .exact F.fin _ (F.fin z b)
  .exact F.fin x a
 .by_cases e:x=z
  .rw[if_pos e,F.rf _ (F.fin z b),F.rf z b,e]
  .rw[if_neg e];exact F.rf x a
 .by_cases e:r x=z
  .rw[if_pos e];let:=F.fr x a
   simp_all
  .rw[if_neg e];exact F.fr x a
 .by_cases e:x=z
  .rw[if_pos e]at h;rw[e]at h ⊢;by_cases c:f z=z
   .exact F.fix z b c
   .let:=g c;rw[h,gK]at this;cases this
  .rw[if_neg e]at h;exact F.fix x a h
 .by_cases e:x=z
  .rw[if_pos e]at h ⊢;rw[e]at h ⊢;show g λc=>h ?_
   rw[c,c]
  .rw[if_neg e]at h ⊢;exact F.dec x a h
def bF.done{S:Str->Str->Prop}(F:bF b f r S)(a:z∈b)(h:∀w∈b,aS w z=true->f w=r w):f (f z)=r z:=by
 by_cases e:f z=z
 .rw[e,e];exact(F.fix z a e).symm
 .rw[h _ (F.fin z a) (F.dec z a e),F.rf z a]
abbrev Ed(ks:List ZB)(a b:Str):Prop:=∃z,[a,b,z]∈ks
inductive Rch (ks:List ZB):Str->Str->Prop
 | one {a b:Str}:Ed ks a b->Rch ks a b
 | more {a b c:Str}:Rch ks a b->Ed ks b c->Rch ks a c
def Rch.trans(h:Rch ks a b)(g:Rch ks b c):Rch ks a c:=by
 induction g with
 | one e=>exact .more h e
 | more _ e d=>exact .more d e
def Rch.closed{R:Str->Prop}(a:∀y,Ed ks s y->R y)(h:∀x y,R x->Ed ks x y->R y)(r:Rch ks s y):R y:=by
 induction r with
 | one e=>exact a _ e
 | more _ e b=>exact h _ _ b e
def qO{ks:List _}{laid:ZB}(h:∀i x,laid[i]?∣x->∀y,Ed ks x y->y∈laid.take i){i:Nat}{x y:Str}(hi:laid[i]?∣x)(r:Rch ks x y):∃j,j<i/\laid[j]?∣y:=by
 let b:∀i y,y∈laid.take i->∃j,j<i/\laid[j]?∣y:=λi y d=>by
  let%[j|c]:=Xb d;let f:=(Xh c).1;rw[Yh]at f;exact%[j,⋯|by rwa[Y9 ⋯]at c]
 show r.closed (λy e=>b i y (h i x hi y e)) λa y ⟨j,m,c⟩ e=>?_
 let%[g,n|l]:=b j y (h j a c y e);exact%[g,⋯|l]
def DN{laid:ZB}(h:∀(i:Nat) x,laid[i]?∣x->∀y,Ed ks x y->y∈laid.take i){x:Str}(a:x∈laid): ¬ Rch ks x x:=by
 intro r;let%[i|hi]:=Xb a;let:∀n i:Nat,i<=n->laid[i]? ≠some x:=λn=>by
  induction n with
  | zero=>
    intro i hi e;let%[j,b|_]:=qO h e r
    lia
  | succ n c=>
    intro i hi e;let%[j,b|d]:=qO h e r;exact c j ⋯ d
 exact this i i (Zi _) hi
abbrev Wal:List ZB->Str->Str->Prop
 |[],a,b=>a=b
 | k::r,a,b=>∃c z,k=[a,c,z]/\Wal r c b
def Wal.app:∀{us vs:List ZB} {a:Str},Wal us a b->Wal vs b c->Wal (us++vs) a c
 |[],_,_,h,g=>h▸g
 | _::_,_,_,⟨d,z,e,h⟩,g=>%[d,z,e|h.app g]
abbrev Dst(ks:List ZB)(s:Str)(n:Nat)(x:Str):Prop:=∃us:List _,~~~us=n/\(∀k∈us,k∈ks)/\Wal us s x
def Dst.nil:Dst ks s 0 s:=%[[],rfl,λ_ h=>(nomatch h)|rfl]
def Dst.app(h:Dst ks s n x)(g:Dst ks x m y):Dst ks s (n+m) y:=by
 let%[us,d,a|b]:=h;let%[vs,g1,g2|g3]:=g;exact%[us++vs,!2,λk c=>(Xi c).elim (a k) (g2 k)|b.app g3]
def Ed.dst(e:Ed ks s x):Dst ks s 1 x:=by
 let%[z|e]:=e;exact%[[[s,x,z]],ρ,λk a=>(Xj a)▸e,x,z,ρ|ρ]
def Dst.last:∀{n:Nat} {s:Str},Dst ks s (n+1) x->∃y,Dst ks s n y/\Ed ks y x
 | n,s,⟨[],a,_,_⟩=>(nomatch a)
 | 0,s,⟨[k],_,b,c,z,e,h⟩=>%[s,.nil,z|by rw[<-h,<-e];exact b k Zm]
 | 0,s,⟨_::_::_,a,_,_⟩=>absurd a ∅
 | n+1,s,⟨k::r,a,b,c,z,e,h⟩=>by
   let%[y,d|f]:=Dst.last %[r,↑a,λk g=>b k (Zk _ g)|h];let:Ed ks s c:=%[z|e▸b k Zm]
   exact%[y,Nat.add_comm 1 n▸this.dst.app d|f]
def Rch.dst(h:Rch ks a b):∃n,Dst ks a (n+1) b:=by
 induction h with
 | one e=>exact%[0|e.dst]
 | more _ e c=>
   let%[n|h]:=c;exact%[n+1|h.app e.dst]
def Dst.rch:∀{n:Nat} {b:Str},Dst ks a (n+1) b->Rch ks a b
 | 0,b,h=>by
   let%[y,%[us,d,_|c]|e]:=h.last;rw[length_eq_zero_iff.mp d]at c;rw[c];exact .one e
 | n+1,b,h=>by
   let%[y,h|e]:=h.last;exact .more h.rch e
structure Lev (ks:List ZB) (st:Str) (rs:List (Str×Addr×ZB)) (d:Str->Nat) (k:Nat) (F:ZB):Prop where
 nd:(rs\1).Nodup
 by_:∀r∈rs,r.2.2∈ks/\∃p z,r.2.2=[p,r.1,z]/\((p=st/\d r.1=1)\/(p≠st/\p∈rs\1/\d r.1=d p+1))
 le:∀x∈rs\1,d x<=k
 edge:∀x,x∈F↔(k=0/\x=st)\/(1<=k/\x∈rs\1/\d x=k)
 all:∀n x,1<=n->n<=k->Dst ks st n x->x∈rs\1/\d x<=n
section
variable{ks:List ZB}{st:Str}{rs:List (Str×Addr×ZB)}{d:Str->Nat}{k:Nat}{F:ZB}
def Lev.nil:Lev ks st [] (λ_=>0) 0 [st]:=
 %[Yy,λ_ h=>(nomatch h),λ_ h=>(nomatch h),λx=>by simp|λn x a b=>by lia]
def Lev.dst(h:Lev ks st rs d k F)(a:x∈rs\1):1<=d x/\Dst ks st (d x) x:=by
 let:∀m x,x∈rs\1->d x<=m->1<=d x/\Dst ks st (d x) x:=λm=>by
  induction m with
  | zero=>
    intro x a l;let%[r,b|rfl]:=Xk a;obtain⟨_,p,z,_,⟨_,e⟩|⟨_,_,e⟩⟩:=h.by_ r b<;> lia
  | succ m g=>
    intro x a l;let%[r,b|rfl]:=Xk a;let%[c,p,z,i|q]:=h.by_ r b;rw[i]at c;let f:Ed ks p r.1:=%[z|c]
    rcases q with⟨rfl,e⟩|⟨_,j,e⟩
    .rw[e];exact%[Zi _|f.dst]
    .exact e▸%[⋯|(g p j ⋯).2.app f.dst]
 exact this _ x a (Zi _)
def Lev.min(h:Lev ks st rs d k F)(a:x∈rs\1)(g:Dst ks st (n+1) x):d x<=n+1:=by
 by_cases c:n+1<=k
 .exact(h.all _ x ⋯ c g).2
 .let:=h.le x a
  lia
def Lev.stop(h:Lev ks st rs d k []):∀{n:Nat},Dst ks st (n+1) x->x∈rs\1:=by
 let k1:=Nat.pos_of_ne_zero λc=>(nomatch (h.edge st).mpr (.inl %[c|rfl]))
 let:∀n x,Dst ks st (n+1) x->x∈rs.map _:=λn=>by
  induction n with
  | zero=>exact λx g=>(h.all 1 x (Zi _) k1 g).1
  | succ n a=>
    intro x g;let%[y,b|e]:=g.last;let q:=a y b;let l:=h.le y q;let f:d y≠k:=λc=>(nomatch (h.edge y).mpr (.inr %[k1,q|c]))
    exact(h.all _ x ⋯ ⋯ ((h.dst q).2.app e.dst)).1
 exact λ{n}=>this n x
def Lev.step(h:Lev ks st rs d k F)(nd:((rs++new)\1).Nodup)(B:∀r∈new,r.2.2∈ks/\∃p z,p∈F/\r.2.2=[p,r.1,z])
 (t:∀x∈F,∀y,Ed ks x y->y∈(rs++new)\1):Lev ks st (rs++new) (λx=>if x∈new\1 then k+1 else d x) (k+1) (new\1):=by
 let l:=nd;rw[Zd,Yw]at l;let f:∀{x},x∈rs\1->x∉new\1:=λ{x} a b=>l.2.2 x a x b rfl
 let mem:∀{x},x∈(rs++new)\1↔x∈rs\1\/x∈new\1:=λ{x}=>by rw[Zd,Yo]
 let le:∀x∈(rs++new)\1,(if x∈new\1 then k+1 else d x)<=k+1:=λx j=>by
  by_cases c:x∈new\1
  .rw[if_pos c];exact Zi _
  .rw[if_neg c];let:=h.le x ((mem.mp j).resolve_right c);lia
 show%[nd,λr C=>?_,le,λx=>?_|λn x n1 J g=>?_]
 .rcases Xi C with q|q
  .let%[s,p,z,e|g]:=h.by_ r q;show%[s,p,z,e|?_];rw[if_neg (f (Xl %[r,q|rfl]))];show g.imp_right λ⟨a,b,c⟩=>%[a,mem.mpr (.inl b)|?_]
   rw[if_neg (f b)];exact c
  .let%[s,p,z,E|e]:=B r q;let u:r.1∈new\1:=Xl %[r,q|rfl];show%[s,p,z,e|?_];rw[if_pos u];rcases(h.edge p).mp E with⟨rfl,rfl⟩|⟨k1,b,c⟩
   .exact .inl %[rfl|rfl]
   .show .inr %[λps=>?_,mem.mpr (.inl b)|by rw[if_neg (f b),c]];let:Ed ks st r.1:=%[z|by rw[<-ps,<-e];exact s]
    exact f (h.all 1 _ (Zi _) k1 this.dst).1 u
 .show%[λj=> .inr %[⋯,mem.mpr (.inr j)|if_pos j]|λj=>?_];rcases j with⟨a,_⟩|⟨_,a,b⟩
  .lia
  .show(mem.mp a).resolve_left λc=>?_
   rw[if_neg (f c)]at b;let:=h.le x c
   lia
 .let i:∀{m},1<=m->m<=k->Dst ks st m x->x∈(rs++new).map _/\(if x∈new.map _ then k+1 else d x)<=m:=λa b g=>by
   let%[o|v]:=h.all _ x a b g;exact%[mem.mpr (.inl o)|by rw[if_neg (f o)];exact v]
  by_cases c:n<=k
  .exact i n1 c g
  .obtain rfl:n=k+1:=by lia
   let fin:x∈(rs++new).map _->x∈(rs++new).map _/\(if x∈new.map _ then k+1 else d x)<=k+1:=λa=>%[a|le x a]
   let%[y,w|e]:=g.last;by_cases G:k=0
   .subst G;let%[us,H,_|A]:=w;rw[length_eq_zero_iff.mp H]at A;exact fin (t y ((h.edge y).mpr (.inl %[rfl|(A).symm])) x e)
   .let%[o|v]:=h.all k y ⋯ (Zi _) w;by_cases I:d y=k
    .exact fin (t y ((h.edge y).mpr (.inr %[⋯,o|I])) x e)
    .exact fin (i ⋯ ⋯ ((h.dst o).2.app e.dst)).1
end
structure Sho (ks:List _) (a b:Str) (us:List _):Prop where
 sub:∀k∈us,k∈ks
 wal:Wal us a b
 pos:0< ~~~us
 min:∀n,Dst ks a (n+1) b-> ~~~us<=n+1
def Sho.dst(h:Sho ks a b us):∃n,~~~us=n+1/\Dst ks a (n+1) b:=
 %[~~~us-1,by let:=h.pos;lia,us,by let:=h.pos;lia,h.sub|h.wal]
def Sho.rch(h:Sho ks a b us):Rch ks a b:=by
 let%[n,_|d]:=h.dst;exact d.rch
def Gc{U:ZB}(h:∀x∈U,∃y∈U,Ed ks x y)(nr:∀x,¬ Rch ks x x){x:Str}(i:x∈U):False:=by
 let:∀n,∃a p,~~~p=n/\(a::p).Nodup/\(∀y∈a::p,y∈U)/\∀y∈p,Rch ks y a:=λn=>by
  induction n with
  | zero=>exact%[x,[],ρ,by simp,↑i|λ_ h=>(nomatch h)]
  | succ n j=>
    let%[a,p,l,nd,d|r]:=j;let%[b,m|e]:=h a (d a Zm);let g:∀y∈a::p,Rch ks y b:=λy f=>by
     rcases mem_cons.mp f with rfl|q
     .exact .one e
     .exact .more (r y q) e
    show%[b,a::p,!2,nodup_cons.mpr %[λc=>nr b (g b c)|nd],λy f=>?_|g];rcases mem_cons.mp f with rfl|q
    .exact m
    .exact d y q
 let%[a,p,l,nd,d|_]:=this U.length;let:=_ST.nodup_sub nd d;rw[Zr]at this
 lia
structure Mat {α:Type} (E:α->α->Prop) (L:List α) (m:α->α):Prop where
 nd:L.Nodup
 inj:∀x∈L,∀y∈L,m x=m y->x=y
 ed:∀x∈L,E (m x) x
structure kg {α:Type} (E:α->α->Prop) (L:List α) (m:α->α) (S T:α->Prop):Prop where
 nb:∀a,S a->∀p,E a p->T p
 mt:∀p,T p->p∈L/\S (m p)
structure Ask {α:Type} (E:α->α->Prop) (L:List α) (m:α->α) (A0 Q:List α) (g:α->α):Prop where
 nd:Q.Nodup
 by_:∀i x,Q[i]?∣x->E (g x) x/\(g x∈A0\/∃y∈Q.take i,y∈L/\m y=g x)
section
variable{α:Type}[DecidableEq α]{E:α->α->Prop}{L A0 Q:List α}{m g:α->α}{S T S' T':α->Prop}
def kg.or(h:kg E L m S T)(k:kg E L m S' T'):kg E L m (λa=>S a\/S' a) (λp=>T p\/T' p):=
 %[λa s p e=>s.imp (λs=>h.nb a s p e) λs=>k.nb a s p e|λp t=>t.elim (λt=>%[(h.mt p t).1|.inl (h.mt p t).2]) λt=>%[(k.mt p t).1|.inr (k.mt p t).2]]
def Ask.shut(a:Ask E L m A0 Q g)(h:kg E L m S T)(d:∀x∈A0,S x):∀x∈Q,T x:=by
 let:∀(n i:Nat) x,i<n->Q[i]?∣x->T x:=λn=>by
  induction n with
  | zero=>exact λi x l=>absurd l (Yz _)
  | succ n f=>
    intro i x l e;let%[o|b]:=a.by_ i x e;show h.nb _ ?_ x o;rcases b with b|⟨y,p,s,b⟩
    .exact d _ b
    .let%[j|c]:=Xb p;let q:=(Xh c).1;rw[Yh]at q;rw[Y9 ⋯]at c;exact b▸(h.mt y (f j y ⋯ c)).2
 intro x r;let%[i|hi]:=Xb r;exact this _ i x (Yk _) hi
def Ask.closed(c:∀x∈Q,x∈L)(d:∀b,(b∈A0\/∃y∈Q,y∈L/\m y=b)->∀p,E b p->p∈Q):kg E L m (λb=>b∈A0\/∃y∈Q,y∈L/\m y=b) (λp=>p∈Q):=
 %[d|λp a=>%[c p a|.inr %[p,a,c p a|rfl]]]
structure oA {α:Type} (E:α->α->Prop) (L Q:List α) (m g:α->α) (T:α->Prop) (f:α) (C:List α) (i:Nat) (p:α):Prop where
 at_:Q[i]?∣p
 own:p=f\/p∈L
 far:∀x∈C,∃j,i<j/\Q[j]?∣x
 nx:∀x∈C,∃y,y∈L/\m y=g x/\(y∈C\/y=p)
 inj:∀x∈C,∀y∈C,g x=g y->x=y
 pv:∀y,y∈C\/y=p->y=f\/(y∈L/\∃x∈C,g x=m y)
 nt:∀y,y∈C\/y=p-> ¬ T y
 hf:f∈C\/p=f
def oB{Q:List α}(nd:Q.Nodup){i j:Nat}{x:α}(h:Q[i]?∣x)(k:Q[j]?∣x):i=j:=(List.getElem?_inj (Xh h).1 nd).mp (h.trans k.symm)
def oA.start(h:kg E L m S T)(b:f∉L)(e:Q[i]?∣f):oA E L Q m g T f [] i f:=
 %[e,.inl rfl,λ_ h=>(nomatch h),λ_ h=>(nomatch h),λ_ h=>(nomatch h),λy a=>a.elim (λh=>(nomatch h)) .inl,λy a t=>a.elim (λh=>(nomatch h)) λe=>b (e▸(h.mt y t).1)|.inr rfl]
def oA.inj'(M:Mat E L m)(a:Ask E L m A0 Q g){f:α}{C:List α}{i:Nat}{p:α}(b:oA E L Q m g T f C i p):∀x∈C++[p],∀y∈C++[p],(∀z∈L,m z=g p->z∈Q.take i)->g x=g y->x=y:=by
 let o:∀x∈C,(∀z∈L,m z=g p->z∈Q.take i)->g x≠g p:=λx c h e=>by
  let%[y,q,r|n]:=b.nx x c;let%[j|l]:=Xb (h y q (r.trans e));let s:=(Xh l).1;rw[Yh]at s;rw[Y9 ⋯]at l;rcases n with n|rfl
  .let%[k,u|t]:=b.far y n;let:=oB a.nd l t
   lia
  .let:=oB a.nd l b.at_
   lia
 intro x c y d h e;rcases Xi c with c|c<;> rcases Xi d with d|d
 .exact b.inj x c y d e
 .rw[Xj d]at e;exact(o x c h e).elim
 .rw[Xj c]at e;exact(o y d h e.symm).elim
 .rw[Xj c,Xj d]
def oA.step(M:Mat E L m)(a:Ask E L m [w] Q g)(A:∀x∈L,m x≠w)(h:kg E L m S T)(b:oA E L Q m g T f C i p)(n:y∈L)(o:m y=g p):∃j,j<i/\oA E L Q m g T f (C++[p]) j y:=by
 let%[B|s]:=a.by_ i p b.at_;let v:y∈Q.take i:=by
  rcases s with s|⟨z,c,q,r⟩
  .exact(A y n (o.trans (Xj s))).elim
  .rw[M.inj y n z q (o.trans r.symm)];exact c
 let%[j|u]:=Xb v;let G:=(Xh u).1;rw[Yh]at G;rw[Y9 ⋯]at u;let l:∀{x},x∈C++[p]↔x∈C\/x=p:=λ{x}=>by rw[Yo,Yu]
 show%[j,⋯,u,.inr n,λx d=>?_,λx d=>?_,λx d z c=>b.inj' M a x d z c λz q r=>(M.inj z q y n (r.trans o.symm))▸v,λz c=>?_,λz c t=>?_|.inl (l.mpr (b.hf.imp_right Eq.symm))]
 .rcases l.mp d with d|rfl
  .let%[k,J|H]:=b.far x d;exact%[k,⋯|H]
  .exact%[i,⋯|b.at_]
 .rcases l.mp d with d|rfl
  .let%[z,q,r|I]:=b.nx x d;exact%[z,q,r|.inl (l.mpr I)]
  .exact%[y,n,o|.inr rfl]
 .rcases c with c|rfl
  .exact(b.pv z (l.mp c)).imp_right λ⟨a,x,d,e⟩=>%[a,x,l.mpr (.inl d)|e]
  .exact(.inr %[n,p,l.mpr (.inr rfl)|o.symm])
 .rcases c with c|rfl
  .exact b.nt z (l.mp c) t
  .exact b.nt p (.inr rfl) (h.nb _ (o▸(h.mt z t).2) p B)
def oA.fin(M:Mat E L m)(a:Ask E L m [B] Q g)(h:kg E L m S T)(b:oA E L Q m g T f C i p)(J:f∉L)(N:∀y∈L,m y≠g p)(nd:v.Nodup)(G:∀x,x∈v↔x∈L\/x=f):
 Mat E v (λx=>if x∈C++[p]then g x else m x)/\kg E v (λx=>if x∈C++[p]then g x else m x) S T/\g p=B/\(∀x∈v,(if x∈C++[p]then g x else m x)=B\/∃y∈L,m y=if x∈C++[p]then g x else m x)/\∀y,y=B\/(∃x∈L,m x=y)->∃x∈v,(if x∈C++[p]then g x else m x)=y:=by
 let r:∀{x},x∈C++[p]↔x∈C\/x=p:=λ{x}=>by rw[Yo,Yu]
 let O:g p=B:=by
  obtain⟨_,e|⟨y,_,H,ym⟩⟩:=a.by_ i p b.at_
  .exact Xj e
  .exact(N y H ym).elim
 let U:∀x∈C++[p],∃j,Q[j]?∣x:=λx l=>by
  rcases r.mp l with l|rfl
  .let%[j,_|e]:=b.far x l;exact%[j|e]
  .exact%[i|b.at_]
 let o:∀x∈v,x∉C++[p]->x∈L:=λx l n=>((G x).mp l).resolve_right λe=>n (e▸r.mpr (b.hf.imp_right Eq.symm))
 let s:∀x∈C++[p],∀y∈L,y∉C++[p]->g x≠m y:=λx l y H n e=>by
  rcases r.mp l with l|rfl
  .let%[z,w,A|zc]:=b.nx x l;exact n ((M.inj y H z w (e.symm.trans A.symm))▸r.mpr zc)
  .exact N y H e.symm
 show%[%[nd,λx l y I e=>?_|λx l=>?_],%[h.nb|λq t=>%[(G q).mpr (.inl (h.mt q t).1)|?_]],O,λx l=>?_|λy I=>?_]
 .by_cases d:x∈C++[p]<;> by_cases u:y∈C++[p]
  .rw[if_pos d,if_pos u]at e;exact b.inj' M a x d y u (λz w A=>(N z w A).elim) e
  .rw[if_pos d,if_neg u]at e;exact(s x d y (o y I u) u e).elim
  .rw[if_neg d,if_pos u]at e;exact(s y u x (o x l d) d e.symm).elim
  .rw[if_neg d,if_neg u]at e;exact M.inj x (o x l d) y (o y I u) e
 .by_cases d:x∈C++[p]
  .rw[if_pos d];let%[j|e]:=U x d;exact(a.by_ j x e).1
  .rw[if_neg d];exact M.ed x (o x l d)
 .rw[if_neg (λc=>b.nt q (r.mp c) t)];exact(h.mt q t).2
 .by_cases d:x∈C++[p]
  .rw[if_pos d];rcases r.mp d with d|rfl
   .let%[z,w,A|_]:=b.nx x d;exact .inr %[z,w|A]
   .exact .inl O
  .rw[if_neg d];exact .inr %[x,o x l d|rfl]
 .let mem:=λx l=>(G x).mpr ((b.pv x (r.mp l)).elim .inr λh=> .inl h.1)
  rcases I with rfl|⟨x,Y,rfl⟩
  .exact%[p,mem p (r.mpr (.inr rfl))|(if_pos (r.mpr (.inr rfl)))▸O]
  .by_cases d:x∈C++[p]
   .rcases b.pv x (r.mp d)with e|⟨_,z,hz,e⟩
    .exact(J (e▸Y)).elim
    .exact%[z,mem z (r.mpr (.inl hz))|(if_pos (r.mpr (.inl hz)))▸e]
   .exact%[x,(G x).mpr (.inl Y)|by rw[if_neg d]]
end
abbrev Let(rows:ZB)(c:Nat):Prop:=c≠46/\∃r∈rows,c∈r.cps.toList
abbrev DO(rows:ZB)(a b:Nat):Prop:=a≠46/\a≠b/\∃(i j:Nat) (r c:Str),rows[i]?∣r/\rows[i+1]?∣c/\r.cps[j]?∣a/\c.cps[j]?∣b
def fQ:c∈cN rows↔Let rows c:=by
 unfold cN Let;rw[List.mem_filter,uz,List.mem_flatten,decide_eq_true_eq]
 constructor
 .rintro⟨⟨l,e,b⟩,a⟩;let%[r,d|rfl]:=Xk e;exact%[a,r,d|b]
 .rintro⟨a,r,d,b⟩;exact%[%[_,Xl %[r,d|ρ]|b]|a]
abbrev St(wd:Bool)(c d:Int):Prop:=c<=d+(if wd=true then 1 else 0)/\d<=c+(if wd=true then 1 else 2)
abbrev kh(wd:Bool)(b:ZL):Prop:=∃a:Nat,a< ~~~b/\(∀k c,b[k]?∣c->(k<a->c= -1)/\(a<=k->0<=c/\c<=7))/\∀k c d,b[k]?∣c->b[k+1]?∣d->a<=k->St wd c d
abbrev sg(a s:Int):Nat:=if a<0 then 46 else 97+((a*5+s)%26).toNat
def Gd(h:0<=a):ik (sg a s)=true:=by
 unfold sg;rw[if_neg ⋯,lv]
 lia
def Ge(h:a<0):sg a s=46:=if_pos h
def BQ(h:0<=a):sg a s≠46:=by
 unfold sg;rw[if_neg ⋯]
 lia
def Gf(e:0<=a)(c:a<=7)(f:0<=b)(d:b<=7)(h:sg a s=sg b s):a=b:=by
 unfold sg at h;rw[if_neg (Int.not_lt.mpr e),if_neg (Int.not_lt.mpr f)]at h;let h:=congrArg (λn:Nat=>(n:Int)) (Nat.add_left_cancel h);let m:∀x:Int,((x%26).toNat:Int)=x%26:=λx=>Int.toNat_of_nonneg (Int.emod_nonneg _ (!1))
 replace h:(a*5+s)%26=(b*5+s)%26:=(m _).symm.trans (h.trans (m _));let h:=Int.emod_eq_emod_iff_emod_sub_eq_zero.mp h;let%[x|rfl]:=Xd e;let%[y|rfl]:=Xd f;rw[show(x:Int)*5+s-((y:Int)*5+s)=(x:Int)*5-(y:Int)*5 from Int.add_sub_add_right _ _ _]at h;exact congrArg _ ((by decide:∀x:Fin 8,∀y:Fin 8,((x.val:Int)*5-(y.val:Int)*5)%26=0->x.val=y.val) %[x|Nat.lt_succ_of_le (Int.ofNat_le.mp c)] %[y|Nat.lt_succ_of_le (Int.ofNat_le.mp d)] h)
abbrev iL(a:List ZL)(b:Int)(k:Nat):Str:=⟨(a.map λc=>sg (c.getD k 0) b).toArray⟩
abbrev drawn(a:List ZL)(hi:Nat)(b:Int):ZB:=(List.range hi).map (iL a b)
def fR(h:(drawn a hi c)[k]?∣z):k<hi/\z=iL a c k:=by
 unfold drawn at h;rw[Zl]at h;by_cases b:k<hi
 .rw[getElem?_range b]at h;exact%[b|(Za h).symm]
 simp_all
def lD{a:List ZL}{k j c:Nat}(h:(iL a d k).cps[j]?∣c):∃b,a[j]?∣b/\c=sg (b.getD k 0) d:=by
 let h:(a.map λc=>sg (c.getD k 0) d)[j]?∣c:=by simpa [iL]using h
 rw[Zl]at h;cases e:a[j]? with
 | none=>simp_all
 | some b=>rw[e]at h;exact%[b,ρ|(Za h).symm]
def dm{a:ZL}(b: ~~~a=hi)(c:k<hi):a[k]?∣a.getD k 0:=by
 simp_all
def uZ{a:List ZL}{d:Int}{wd:Bool}(H:1<=hi)(I:hi<=40)(v:1<= ~~~a)(w: ~~~a<=40)(t:∀c∈a,~~~c=hi/\kh wd c):cm (drawn a hi d):=by
 let len: ~~~(drawn a hi d)=hi:=by unfold drawn;rw[Z6,Yf]
 let f:∀z∈drawn a hi d,∃k,k<hi/\z=iL a d k:=λz g=>by
  let%[k|e]:=Xb g;exact%[k|fR e]
 show%[⋯,⋯,%[~~~a,v,w|λz g=>?_],λz g=>?_,λi r J y A j c L g1 g2 p=>?_|?_]
 .let%[k,_|rfl]:=f z g;simp[iL]
 .let%[k,h|rfl]:=f z g;rw[all_eq_true];intro c q;let%[j|B]:=Xb q;let%[b,s|rfl]:=lD (j:=j) ↑B;by_cases C:b.getD k 0<0
  .rw[Ge C];decide +kernel
  .unfold okc;rw[Gd ⋯,Bool.or_true]
 .let%[hi1|rfl]:=fR y;let%[hi2|rfl]:=fR A;let%[b,s|rfl]:=lD g1;let%[u,l|rfl]:=lD g2;rw[s]at l;cases l;let%[o,m,E,h|_]:=t b (Z8 s);by_cases G:i+1<m
  .rw[(h i _ (dm o hi1)).1 ⋯];rfl
  .exact absurd p (BQ ((h _ _ (dm o hi2)).2 ⋯).1)
 .let n:0< ~~~a:=by lia
  let%[o,m,E,h|_]:=(t _ (Ya n))
  exact%[iL a d _,Xl %[hi-1,by rw[mem_range];lia|ρ],sg (a[0].getD (hi-1) 0) d,Xl %[a[0],Ya n|ρ]|BQ ((h _ _ (dm o ⋯)).2 ⋯).1]
def u4{i:Int}{wd:Bool}(s:∀c∈d,~~~c=hi/\kh wd c){c:Nat}:Let (drawn d hi i) c↔∃a:Int,0<=a/\a<=7/\(∃b∈d,a∈b)/\c=sg a i:=by
 constructor
 .rintro⟨l,r,t,m⟩;let%[k|e]:=Xb t;let%[h|rfl]:=fR e;let%[j|u]:=Xb m;let%[b,v|rfl]:=lD ↑u;let f:=Z8 v;let%[n,o,A,w|_]:=s b f;let g:=dm n h;let q:=w k _ g;let:o<=k:=by
   show Nat.le_of_not_lt λz=>l ?_
   rw[q.1 z];rfl
  exact%[_,(q.2 this).1,(q.2 this).2,%[b,f|Z8 g]|ρ]
 .rintro⟨a,y,B,⟨b,f,p⟩,rfl⟩;let%[n|_]:=s b f;let%[k|h]:=Xb p;show%[BQ y,iL d i k,Xl %[k,by rw[mem_range];exact(n▸(Xh h).1)|ρ]|Xl %[b,f|?_]];rw[Zc,h];rfl
abbrev there(b:List ZL):ZL:=((List.range 8).filter λa:Nat=>b.any λc=>decide ((a:Int)∈c)).map λa:Nat=>a
def eG:a∈there c↔0<=a/\a<=7/\∃b∈c,a∈b:=by
 unfold there;rw[mem_map]
 constructor
 .rintro⟨n,f,rfl⟩;rw[List.mem_filter,mem_range,any_eq_true]at f;let%[g,b,d|e]:=f;exact%[⋯,⋯,b,d|Zo e]
 .rintro⟨h,i,b,d,e⟩;show%[a.toNat,?_|⋯];rw[List.mem_filter,mem_range,any_eq_true];show%[⋯,b,d|Zf ?_];rw[show a.toNat=a by lia];exact e
def u5(a:List _):(there a).Nodup:=by
 unfold there;rw[Yx,X3];show(List.Pairwise.filter _ (nodup_iff_pairwise_ne.mp nodup_range)).imp λh e=>h ⋯
def BR{a:List ZL}{hi:Nat}(i:1<=hi)(j:1<= ~~~a)(d:∀c∈a,~~~c=hi/\kh wd c):there a≠[]:=by
 let b:0< ~~~a:=by lia
 let%[e,f,l,h|_]:=d _ (Ya b);let g:=dm e (show hi-1<hi by lia);let q:=(h _ _ g).2 ⋯;exact List.ne_nil_of_mem (eG.mpr %[q.1,q.2,_,Ya b|Z8 g])
def lE(a:List _): ~~~(there a)<=8:=by
 unfold there;rw[Z6];exact Nat.le_trans (Ye _ _) (Zi _)
abbrev dw(n:Str)(c:Nat):Str:=⟨(n.cps.toList++[46,c]).toArray⟩
def lF(h:dw n c=dw m d):n=m/\c=d:=by
 let e:=by
  let:=congrArg (λz=>z.cps.toList) h;simpa [dw]using this
 let q:=List.append_inj' e rfl;show%[gF q.1|?_];let:=q.2;simpa using this
abbrev zI(rows:ZB):Prop:=∃m:List _,~~~m<=26/\∀a b,DO rows a b->[sgn a,sgn b]∈m
abbrev wU(wd:Bool):List (Int×Int):=((List.range 7).map λi:Nat=>((i:Int),(i:Int) +1)) ++if wd=true then(List.range 7).map λi:Nat=>((i:Int) +1,(i:Int))else(List.range 6).map λi:Nat=>(i,i+2)
def zJ(h:St wd c d)(c0:0<=c)(a:c<=7)(b:0<=d)(f:d<=7)(g:c≠d):(c,d)∈wU wd:=by
 unfold St at h;unfold wU;rw[Yo];by_cases e:d=c+1
 .exact .inl (Xl %[c.toNat,mem_range.mpr ⋯|by rw[show c.toNat=c by lia,e]])
 .show .inr ?_;cases wd
  .exact Xl %[c.toNat,mem_range.mpr ⋯|by rw[show c.toNat=c by lia,show d=c+2 by lia]]
  .exact Xl %[d.toNat,mem_range.mpr ⋯|by grind]
def BS{hi:Nat}{h:Int}{wd:Bool}(u:∀c∈d,~~~c=hi/\kh wd c):zI (drawn d hi h):=by
 show%[(wU wd).map λp=>[sgn (sg p.1 h),sgn (sg p.2 h)],?_|?_]
 .rw[Z6];cases wd<;> decide
 .intro a b %[n1,v,i,j,r,C,w,y,g1|g2];let%[hi1|rfl]:=fR w;let%[hi2|rfl]:=fR y;let%[l,n|rfl]:=lD g1;let%[o,f|rfl]:=lD g2;rw[n]at f;cases f;let%[g,A,E,m|B]:=u l (Z8 n);let q:=Nat.le_of_not_lt λz=>n1 (by rw[(m i _ (dm g hi1)).1 z];rfl)
  let s:=(m i _ (dm g hi1)).2 q;let t:=(m _ _ (dm g hi2)).2 ⋯;exact Xl %[(_,_),zJ (B i _ _ (dm g hi1) (dm g hi2) q) s.1 s.2 t.1 t.2 (λe=>v (by rw[e]))|rfl]
end _CU
namespace _KK
open PySem _LL _CU
nonrec abbrev ZqS:=Lean.Syntax
nonrec def zqn:Lean.Name->Array ZqS->ZqS:= .node .none
nonrec def zqa:String->ZqS:= .atom .none
nonrec def zqi(s:String):ZqS:=Lean.mkIdent s.toName
nonrec def zqh:ZqS:=zqn `Lean.Parser.Term.hole #[zqa "_"]
nonrec def zqf(k:Nat)(b:ZqS):ZqS:=zqn `Lean.Parser.Term.fun #[zqa "fun",zqn `Lean.Parser.Term.basicFun #[zqn `null (Array.replicate k zqh),zqn `null #[],zqa "=>",b]]
nonrec def zqd(c:Char):ZqS:=Lean.Syntax.mkNumLit (toString (c.toNat-48))
nonrec def zqe(a:Array ZqS)(x:String):ZqS:=if x="r"then zqi "rfl"else if x="n"then a[0]! else if x="h"then a.back! else if x="_"then zqh else if x="f"then zqf 2 (zqi "rfl") else if x="g"then zqf 1 (zqi "rfl") else if ~~~x>1 then zqi x else zqn `Lean.Parser.Term.namedArgument #[zqa "(",zqi x,zqa ":=",zqi x,zqa ")"]
nonrec def zqx(r:Array ZqS):ZqS:=if r[0]!.isAtom then(if r[0]!.getAtomVal=""then zqf 3 r[1]! else r[1]!)else if r.size<2 then r[0]! else zqn `Lean.Parser.Term.app #[r[0]!,zqn `null (r.extract 1 r.size)]
nonrec def zqp(s t:String):Nat:=(s.splitOn t).head!.length
nonrec def zqs(t:String)(a:Array ZqS)(l:List Char)(k:List (List String×Array ZqS)):List Char×List (List String×Array ZqS):=
 let f:=k.head!
 let k:=k.tail
 let x:=f.1.headD ""
 let w:=f.1.tail
 let c:=l.headD ' '
 if f.1.isEmpty then(l,(k.head!.1,k.head!.2.push (zqx f.2))::k.tail)
 else if x="#"then(l.tail,(w,f.2.push (zqd c))::k)
 else if x="L"then(l,(["*"],#[zqa ""])::(w,f.2)::k)
 else if x="*"then
  if c.isDigit then(l.tail,(["r"],#[zqi "aa",zqd c])::(w,f.2)::k)
  else if c='?'then(l.drop 2,(w,f.2.push a[l[1]!.toNat-48]!)::k)
  else
   let p:=zqp "~]`" c.toString
   let q:=if p<3 then 1 else 0
   let s:=((t.splitOn "|")[(74+84*p)*q+zqp "ABCDEFGHIJKLMNOPQRSTUVWXYZabcdefghijklmnopqrstuvwxyz!$%&'()*+,./:;<=>^_|}[0123456789" l[q]!.toString]!).splitOn " "
   (l.drop (q+1),(s.tail,#[zqi s.head!])::(w,f.2)::k)
 else(l,(w,f.2.push (zqe a x))::k)
nonrec def zqt(t:String)(a:Array ZqS)(l:List Char):Nat->ZqS
 |n=>(n.fold (λ_ _ s=>if ~~~s.2=1&&s.2.head!.1.isEmpty then s else zqs t a s.1 s.2) (l,[(["*"],#[zqa "1"])])).2.head!.2[1]!
nonrec def zqm(s:Lean.StrLit)(a:Array Lean.Term):Lean.MacroM Lean.Term:=
 return⟨zqt "paE r * *|ao|aw|ah * *|ar *|opE * * *|aG * h r *|aJ *|aK # n r *|QSs.h *|bh * r * *|aH # n r|gsE r * *|bI # r|ifS * * *|aZ|cr K r f * *|cG K r f * *|cH K r *|cK *|cL PassesOwn.never r r * * *|aH # * r|bD|cbO * T.a0 PySem.boot_len r *|bX K r|bS r *|cb|ax.of *|dN|dU K r r r *|cq|bK|Z1|Z0|wT *|dg h f * *|bi|di * r r * L L L|gA *|dv|cF|eBl|iC K r g *|cS|bmO K plainAttrs_list PySem.F.slot_list_append PySem.F.type_list_append * r * *|jC * r * *|fj *|lh|mP * *|mO *|ic|im h r * * *|nM * *|nL *|orW * *|jq *|jp *|pM *|jS r T.aj r *|rZ|rY *|pN # n r * * r *|cbO * T.ac boot_isinstance r *|jT K r|gB|kc|dO # n r * * r * r r * L L L|cbO * T.a9 boot_sorted r *|wq|ctO * T.a6 boot_list r *|aa # r|gvE T.al r r|gO h r * *|wo|dc T|zG K r * * *|yX|noO|lj K r|lB PassesOwn.never * *|qN * T.o_Ground h r r *|gvE T.am r r|uh|AY K r|gvE T.au r r|ctO * T.a8 boot_set r *|uk K r r T.ae r *|pjE * *|cw T|AX r r r * *|bmO K plainAttrs_dict slot_dict_get type_dict_get * r * *|qA # n r * *|bmO K plainAttrs_str slot_str_join type_str_join * r * *|si K r|Dy K r r * *|xG|sd|fG T|cbO * T.a7 boot_max r *|cbO * T.a1 boot_min r *|wp * * r * * *|cbO * T.aa boot_all r *|AZ K r r|FF K r *|orV * *|A9 K w r r r|bmO K plainAttrs_list slot_list_extend type_list_extend * r * *|nN|FM *|gU T|F0 K r r *|dY T|dG T|Gj K r plainAttrs_list PySem.F.slot_list_append PySem.F.type_list_append * r r r r * *|bmO K plainAttrs_dict slot_dict_setdefault PySem.F.type_dict_setdefault * r * *|gN|dH T|dZ T|wR r r *|BM *|eZ T|BJ * T.o_Ground h r *|oZ T|Eg r|Hd f * *|ctO * T.ah boot_int r *|Eh|oK T|gvE T.ap r r|Ek r T.af r r *|oy w r r|kJ T|lJ T|qL P w r r r|Bt K P w r r r r h|Em *|El|Hv K r * * *|Hr h r * *|BP|eY T|fZ T|rA T|iW T|xW T|iz T|kR T|iA T|kS T|xy K r|vf T|Hc r|Bw # n r * * r *|tq T|qA # * r * *|valT g *|cbO * T.ak boot_any r *|Hu K r r|gvE T.ar r r|bmO K plainAttrs_str PySem.F.slot_str_split PySem.F.type_str_split * r * *|Do|gvE T.aq r r|BZ T|oP T|Hm K r r T.af r r *|jI T|gvE T.ao r r|gvE T.ax r r|gvE T.ay r r|Hq K r T.t_LAYER_WORDS r r|Hq K r T.t_YEAR_WORDS r r|zW T|FG|zV T|B4 T|gvE T.av r r|oV T|gvE T.aw r r|vp T|zQ T|zu K r|wZ T|tE T|vw T|mW T|zv K r|oX T|kP T|vq T|zO T|tH T|F2 r|F1 r|mX T|DF r|Ha K r plainAttrs_dict PySem.F.slot_dict_values PySem.F.type_dict_values * r r *|BA|p7 T|w8 T|BD r r T.a5 r T.a6 r *|vC T|Ce T|jJ T|F3 K r r|bmO K plainAttrs_list PySem.F.slot_list_remove PySem.F.type_list_remove * r * *|BB|F7 w r|tL T|pd T|Hb|bmO K plainAttrs_dict PySem.F.slot_dict_update PySem.F.type_dict_update * r * *|BN|ph T|p9 T|dinE h r * *|truN K r g *|kQ T|gvE T.az r r|pq T|vM T|gvE T.aA r r|gvE T.aB r r|Ha K r plainAttrs_list PySem.F.slot_list_pop PySem.F.type_list_pop * r r *|Hs|Ga|z1 T|ifE * * *|lS T|tP T|zH K r|jL T|wS K r|HK K r h|zM T|tJ T|Gw T|qd T|slRE * *" (a.map (·.raw)) s.getString.toList 9999⟩
nonrec abbrev ZM:=List V
nonrec abbrev ZN:=List (Addr×List V)
local macro_rules|`(%[$s:str,$x,*|$y])=>zqm s (x.getElems.push y)|`(%[$s:str|$y])=>zqm s #[y]
local macro_rules|`(tactic|lk)=>do
 let x<-("a9 Ad mL iB iE rF jm xq tB CA tOr EE Ab EI tIf tOp tUn tC Ex Ey tCB t8 yH Ay E9 Fa vW tBM C4 tSl AD rK wc rI rI0 rU Fw Fy rEq rNe Ee AQ Fn Fp Fd Fe Ff Dk G8 xx xw FH wu rT Aj Ah EN Ei Ej Hw En xt xu E4 E5 FK nD C8 rV wb AH By Bz F4 sR BI uR rIn Fi Fu rS xv Ao Dl Hy GJ GK GL".splitOn " ").toArray.mapM λs=>`(Lean.Parser.Tactic.simpLemma|↓$(Lean.mkIdent s.toName):ident)
 let y<-("nU CO yA EY GM GN GO List.getElem?_cons_zero List.getElem?_cons_succ List.set_cons_zero List.set_cons_succ Option.some.injEq V.int.injEq V.str.injEq V.bl.injEq V.ref.injEq V.ty.injEq List.cons.injEq reduceCtorEq and_true true_and and_false false_and or_false false_or or_true true_or exists_false exists_eq_left' exists_eq_left exists_eq_right exists_eq_right' exists_and_left exists_and_right exists_eq cons_append nil_append exists_const and_assoc Int.zero_add Bool.not_true Bool.not_false Zz if_true if_false eq_self".splitOn " ").toArray.mapM λs=>`(Lean.Parser.Tactic.simpLemma|$(Lean.mkIdent s.toName):ident)
 `(tactic|simp only[$(x++y),*])
local macro_rules|`(!$n:ident)=>`(some (V.ref $n))
local macro_rules|`(-$n:ident)=>`(some (V.str $n))
local macro_rules|`(#[$n:num])=>`((show $n≤sizeLine by decide))|`(#[$x])=>`(paE rfl $x ao)|`(#[$x,$y,*])=>`(paE rfl $x #[$y,*])
local macro_rules|`(tactic|walk)=>`(tactic|refine⟨rfl,rfl,rfl,?_,rfl,?_,?_⟩<;>decide +kernel)
def zq0{P:List Value->Prop}(h:P []):∀u,~~~u=0->P u:=λu e=>by rw[List.length_eq_zero_iff.mp e];exact h
def zq1{n:Nat}{P:List Value->Prop}(h:∀a,∀u,~~~u=n->P (a::u)):∀u,~~~u=n+1->P u:=λu e=>by
 cases u with
 |nil=>cases e
 |cons a u=>exact h a u (Nat.succ.inj e)
local macro_rules|`(tactic|room)=>`(tactic|(intro _ _ _ _ _ _;(repeat(refine zq1 λ_=>?_));exact zq0 rfl))
set_option hygiene false in
local macro_rules|`(↑$n:num)=>`(aa $n rfl)|`(↑($x,$y))=>`(show be _ _ _ $x $y=true from rfl)|`(↑[$x,*])=>`(show([$x,*]:ZB).Nodup from by decide)
set_option hygiene false in
local macro_rules|`(↥$n:num)=>`(Cal P w K mg base $n)
abbrev top(i:Nat):Stmt:=PySem.Challenge.pw_digbook_k82_whole_left_out.main.body.getD i (.Pass %[0,0,0|0])
noncomputable section
nonrec abbrev fS:Stmt:=top 3
def ki:av ["found"] ["found"] (ap fS):=by walk
nonrec abbrev eR:Stmt:=top 4
def jf:av ["found"] ["found"] (ap eR):=by walk
nonrec abbrev qP:Stmt:=top 5
def jG:av ["found","side","groups","link"] ["found","side"] (ap qP):=by walk
nonrec abbrev iM:Stmt:=top 6
def aW:av ["names","found","beneath","above","waits","name","ready","laid","least","link"] ["names","found"] (ap iM):=by walk
nonrec abbrev iN:Stmt:=top 7
def c9:av ["beneath","start","goal","reached","edge"] ["beneath","start","goal"] (ap iN):=by walk
nonrec abbrev mB:Stmt:=top 8
def ee:av ["beneath","edge","reached","further","name","link"] ["beneath","edge","reached"] (ap mB):=by walk
nonrec abbrev u8:Stmt:=top 9
def qQ:av ["reached","start","goal","way"] ["reached","start","goal"] (ap u8):=by walk
nonrec abbrev jr:Stmt:=top 10
def cJ:av ["names","found","beneath","reach","name","link"] ["names","found"] (ap jr):=by walk
nonrec abbrev km:Stmt:=top 11
def cY:av ["partners","held_by","asker","asked_by","free"] ["partners"] (ap km):=by walk
nonrec abbrev ko:Stmt:=top 12
def cZ:av ["partners","held_by","askers","asked_by","waiting","asker","partner"] ["partners","held_by","askers"] (ap ko):=by walk
nonrec abbrev qR:Stmt:=top 13
def eS:av ["held_by","asked_by","free","holds","partner","asker"] ["held_by","asked_by","free"] (ap qR):=by walk
nonrec abbrev io:Stmt:=top 14
def cO:av ["some","turned_about","key","value"] ["some"] (ap io):=by walk
nonrec abbrev eT:Stmt:=top 15
def cT:av ["partners","held_by","holds","asked_by"] ["partners","held_by"] (ap eT):=by walk
nonrec abbrev fT:Stmt:=top 17
def bo:av ["ground","names","layer","word","one","other"] ["ground"] (ap fT):=by walk
nonrec abbrev ip:Stmt:=top 18
def dC:av ["names","one","other","first","second"] ["names","one","other"] (ap ip):=by walk
nonrec abbrev eU:Stmt:=top 19
def d5:av ["names","layer"] ["names","layer"] (ap eU):=by walk
nonrec abbrev oC:Stmt:=top 20
def fo:av ["ground","names","groups","layer"] ["ground"] (ap oC):=by walk
nonrec abbrev iq:Stmt:=top 21
def lG:av ["ground"] ["ground"] (ap iq):=by walk
nonrec abbrev xJ:Stmt:=top 22
def u9:av ["ground","names"] ["ground"] (ap xJ):=by walk
nonrec abbrev BT:Stmt:=top 29
def DP:av ["ground"] ["ground"] (ap BT):=by walk
nonrec abbrev ir:Stmt:=top 30
def bJ:av ["names","found","beneath","shortest","name","way"] ["names","found"] (ap ir):=by walk
nonrec abbrev kq:Stmt:=top 31
def pW:av ["names","found"] ["names","found"] (ap kq):=by walk
nonrec abbrev iO:Stmt:=top 32
def dW:av ["ground","found","torn_by"] ["ground"] (ap iO):=by walk
nonrec abbrev iP:Stmt:=top 34
def iu:av ["ground","found"] ["ground"] (ap iP):=by walk
nonrec abbrev qS:Stmt:=top 41
def wV:av ["thing"] ["thing"] (ap qS):=by walk
nonrec abbrev qT:Stmt:=top 42
def gQ:av ["text","rows","number","row"] ["text"] (ap qT):=by walk
nonrec abbrev va:Stmt:=top 43
def zK:av ["row"] ["row"] (ap va):=by walk
nonrec abbrev iQ:Stmt:=top 44
def mU:av ["row","above"] ["row","above"] (ap iQ):=by walk
nonrec abbrev kr:Stmt:=top 45
def pX:av ["rows"] ["rows"] (ap kr):=by walk
nonrec abbrev qU:Stmt:=top 46
def wW:av ["text"] ["text"] (ap qU):=by walk
nonrec abbrev oE:Stmt:=top 47
def dS:av ["text","rows","pairs","above","row"] ["text"] (ap oE):=by walk
nonrec abbrev eV:Stmt:=top 48
def jh:av ["above","row"] ["above","row"] (ap eV):=by walk
nonrec abbrev kz:Stmt:=top 57
def dM:av ["cuts","names","number","thing"] ["cuts"] (ap kz):=by walk
nonrec abbrev iR:Stmt:=top 58
def mV:av ["thing"] ["thing"] (ap iR):=by walk
nonrec abbrev vb:Stmt:=top 59
def zL:av ["thing"] ["thing"] (ap vb):=by walk
nonrec abbrev iw:Stmt:=top 60
def dD:av ["sayings","layers","number","thing"] ["sayings","layers"] (ap iw):=by walk
nonrec abbrev mC:Stmt:=top 61
def sZ:av ["thing","layers"] ["thing","layers"] (ap mC):=by walk
nonrec abbrev ix:Stmt:=top 62
def lH:av ["thing","texts"] ["thing","texts"] (ap ix):=by walk
nonrec abbrev qV:Stmt:=top 63
def wX:av ["thing"] ["thing"] (ap qV):=by walk
nonrec abbrev kA:Stmt:=top 64
def pY:av ["name","letter"] ["name","letter"] (ap kA):=by walk
nonrec abbrev mD:Stmt:=top 65
def ef:av ["cuts","layers","name","text"] ["cuts"] (ap mD):=by walk
nonrec abbrev iS:Stmt:=top 66
def bO:av ["cuts","ties","name","text","upper","lower"] ["cuts"] (ap iS):=by walk
nonrec abbrev fz:Stmt:=top 67
def cn:av ["sayings","ties","number","saying"] ["sayings"] (ap fz):=by walk
nonrec abbrev kB:Stmt:=top 72
def fF:av ["ground","word","names","sayings"] ["ground","word"] (ap kB):=by walk
nonrec abbrev mE:Stmt:=top 73
def tf:av ["bys","reach","name"] ["bys","reach","name"] (ap mE):=by walk
nonrec abbrev fA:Stmt:=top 74
def jH:av ["reach","upper","lower"] ["reach","upper","lower"] (ap fA):=by walk
nonrec abbrev fV:Stmt:=top 75
def bq:av ["ground","reach","bys","pairs","number","name","year"] ["ground"] (ap fV):=by walk
nonrec abbrev iT:Stmt:=top 77
def bP:av ["ground","partners","since","by","held_by","pairs"] ["ground"] (ap iT):=by walk
nonrec abbrev jt:Stmt:=top 79
def oF:av ["_law_script","_law_k"] ["_law_script","_law_k"] (ap jt):=by walk
nonrec abbrev mF:Stmt:=top 80
def gR:av ["_law_cell","_law_k","_law_one","_law_two"] ["_law_cell","_law_k"] (ap mF):=by walk
nonrec abbrev qW:Stmt:=top 81
def dE:av ["_law_script","_law_many_here","_law_found","_law_number","_law_k"] ["_law_script","_law_many_here"] (ap qW):=by walk
nonrec abbrev mG:Stmt:=top 82
def bG:av ["_law_number","_law_size","_law_at","_law_names_here","_law_k","_law_signs","_law_j","_law_place"] ["_law_number"] (ap mG):=by walk
nonrec abbrev kC:Stmt:=top 83
def bH:av ["_law_number","_law_high","_law_wild","_law_air","_law_at","_law_signs","_law_k"] ["_law_number","_law_high","_law_wild"] (ap kC):=by walk
nonrec abbrev oG:Stmt:=top 84
def vc:av ["_law_at","_law_shift"] ["_law_at","_law_shift"] (ap oG):=by walk
nonrec abbrev qX:Stmt:=top 85
def db:av ["_law_row_here","_law_shift","_law_wild","_law_wide","_law_high","_law_columns","_law_rows","_law_k","_law_there"] ["_law_row_here","_law_shift","_law_wild"] (ap qX):=by walk
nonrec abbrev kD:Stmt:=top 86
def bA:av ["_law_one","_law_two","_law_layers","_law_torn","_law_layer","_law_at","_law_other","_law_there","_law_odd","_law_kind","_law_year"] ["_law_one","_law_two","_law_layers","_law_torn"] (ap kD):=by walk
nonrec abbrev kE:Stmt:=top 87
def aM:av ["_law_row_here","_law_names_here","_law_torn","_law_cuts","_law_layers","_law_k","_law_shift","_law_wild","_law_text","_law_there","_law_at","_law_many_here","_law_sayings"] ["_law_row_here"] (ap kE):=by walk
nonrec abbrev oH:Stmt:=top 88
def vd:av ["_law_cuts","_law_sayings"] ["_law_cuts","_law_sayings"] (ap oH):=by walk
nonrec abbrev ju:Stmt:=top 89
def eW:av ["_law_cuts","_law_sayings","_law_numbers","_law_left","_law_number"] ["_law_cuts","_law_sayings","_law_numbers"] (ap ju):=by walk
nonrec abbrev kH:Stmt:=top 90
def dX:av ["_law_script","_law_row_here","_law_cuts","_law_sayings","_law_layers","_law_ground_here","_law_numbers","_law_pairs","_law_ties","_law_years","_law_since","_law_by"] ["_law_script"] (ap kH):=by walk
nonrec abbrev bW:Stmt:=jP (top 56) 0
def eX:av ["self","cuts","sayings","layers"] ["self","cuts","sayings"] (ap bW):=by walk
nonrec abbrev pZ:Stmt:=jP (top 56) 1
def BU:av ["self"] ["self"] (ap pZ):=by walk
nonrec abbrev cg:Stmt:=jP (top 56) 2
def kI:av ["self"] ["self"] (ap cg):=by walk
nonrec abbrev cu:Stmt:=jP (top 56) 3
def lI:av ["self"] ["self"] (ap cu):=by walk
nonrec abbrev c6:Stmt:=jP (top 56) 4
end
def oI:av ["self"] ["self"] (ap c6):=by walk
inductive oJ (K:ZA)
 | mk (a:Addr) (ns:ZL) (k:Int):vs=[.ref a,.int k]->Jb K H a (ns\4)->0<=k->Q (.int (ns.getD k.toNat 0)) H->oJ K vs H Q E0
inductive BV (K:ZA)
 | mk (a:Addr) (ns:ZL) (m:Int):vs=[.ref a,.int m]->Jb K H a (ns\4)-> ~~~ns<=1000->0<=m->m<=100->(∀l H' (xs:ZL),af H H'->H l=none->H' l<*xs\4-> ~~~xs=m.toNat->(∀x∈xs,0<=x/\x<9973)->Q (.ref l) H')->BV K vs H Q E0
inductive qY
 | mk (n hi:Int) (wild:Bool):vs=[.int n,.int hi,.bl wild]->0<=n->1<=hi->hi<=7->(∀l H' (cs:ZL),af H H'->H l=none->H' l<*cs\4-> ~~~cs=hi.toNat->kh wild cs->Q (.ref l) H')->qY vs H Q E0
inductive xK
 | mk (a s:Int):vs=[.int a,.int s]->0<=s->Q (.str (sgn (sg a s))) H->xK vs H Q E0
abbrev ti(H:Hp)(a:List (Addr×ZL)):Prop:=∀p∈a,H p.1<*p.2\4
def ti.up{H a:Hp}{b:List (Addr×ZL)}(h:ti H b)(s:af H a):ti a b:=λp c=>s _ _ (h p c)
inductive BW (K:ZA)
 | mk (a:Addr) (xs:ZL) (sh:Int) (wd:Bool):vs=[.ref a,.int sh,.bl wd]->Jb K H a (xs\4)->(∀H',af H H'->Jb K H' a (xs\4))-> ~~~xs=6->(∀x∈xs,0<=x/\x<9973)->0<=sh->(∀(T th:Addr) H' (cols:List ZL) (hi:Nat),af H H'->H T=none->H th=none->T≠th->H' T&&&[.str (Str.join nl (drawn cols hi sh)),.ref th]->H' th<*(there cols)\4->1<=hi->hi<=7->1<= ~~~cols-> ~~~cols<=5->(∀c∈cols,~~~c=hi/\kh wd c)->Q (.ref T) H')->BW K vs H Q E0
inductive ve
 | mk (c k:Int):vs=[.int c,.int k]->0<=k->k<=100->(∀v,0<=v->v<2147483563->Q (.int v) H)->ve vs H Q E0
structure Txc (K:ZA) (mg:ZC):Prop where
 o_Ground:uL K mg "Ground"
 n_Ground_kept_cuts:fC K (cC mg "Ground") "kept_cuts"
 n_Ground_kept_sayings:fC K (cC mg "Ground") "kept_sayings"
 n_Ground_kept_layers:fC K (cC mg "Ground") "kept_layers"
 n_Ground_kept_ties:fC K (cC mg "Ground") "kept_ties"
 i_Ground:Bu K mg "Ground" "Ground.__init__" bW ["self","cuts","sayings"]
 m_Ground_sayings:uM K mg "Ground" "sayings" "Ground.sayings" cg ["self"]
 m_Ground_layers:uM K mg "Ground" "layers" "Ground.layers" cu ["self"]
 m_Ground_ties:uM K mg "Ground" "ties" "Ground.ties" c6 ["self"]
 t_YEAR_WORDS:GvT K mg "YEAR_WORDS" [.str "since",.str "by"]
 t_LAYER_WORDS:GvT K mg "LAYER_WORDS" [.str "later",.str "same"]
structure Txt (K:ZA) (mg:ZC):Prop extends Txc K mg where
 a0:mg "len"=none
 a1:mg "min"=none
 a5:mg "reversed"=none
 a6:mg "list"=none
 a7:mg "max"=none
 a8:mg "set"=none
 a9:mg "sorted"=none
 aa:mg "all"=none
 ab:mg "str"=none
 ac:mg "isinstance"=none
 ae:mg "enumerate"=none
 af:mg "zip"=none
 ag:mg "tuple"=none
 ah:mg "int"=none
 ai:mg "bool"=none
 aj:mg "range"=none
 ak:mg "any"=none
 al:Gv mg "LATER" (.int 0)
 am:Gv mg "EARLIER" (.int 1)
 ao:Gv mg "LONGEST_NAME" (.int 8)
 ap:Gv mg "LETTERS" (.str "abcdefghijklmnopqrstuvwxyz")
 aq:Gv mg "MOST_ROWS" (.int 40)
 ar:Gv mg "MOST_SIGNS" (.int 40)
 au:Gv mg "AIR" (.str ".")
 av:Gv mg "MOST_CUTS" (.int 8)
 aw:Gv mg "MOST_SAYINGS" (.int 60)
 ax:Gv mg "FIRST_YEAR" (.int (-9999))
 ay:Gv mg "LAST_YEAR" (.int 9999)
 az:Gv mg "DEPOSIT" (.int 1)
 aA:Gv mg "YEAR" (.int 2)
 aB:Gv mg "NUMBER" (.int 0)
 aC:aE K mg "links_by_later" fS ["found"]
 aD:aE K mg "links_by_earlier" eR ["found"]
 aF:aE K mg "grouped" qP ["found","side"]
 aG:aE K mg "laid_in_turn" iM ["names","found"]
 aH:aE K mg "shortest_way" iN ["beneath","start","goal"]
 aI:aE K mg "next_edge" mB ["beneath","edge","reached"]
 aJ:aE K mg "way_to" u8 ["reached","start","goal"]
 aK:aE K mg "all_beneath" jr ["names","found"]
 aL:aE K mg "most_pairs" km ["partners"]
 aM:aE K mg "ask_around" ko ["partners","held_by","askers"]
 aN:aE K mg "pass_on" qR ["held_by","asked_by","free"]
 aO:aE K mg "keys_by_value" io ["some"]
 aP:aE K mg "one_of_each_pair" eT ["partners","held_by"]
 aQ:aE K mg "names_by_layer" fT ["ground"]
 aR:aE K mg "join_deposits" ip ["names","one","other"]
 aS:aE K mg "least_pointed_to" eU ["names","layer"]
 aT:aE K mg "deposits" oC ["ground"]
 aU:aE K mg "deposit_names" iq ["ground"]
 aV:aE K mg "links" xJ ["ground"]
 aW:aE K mg "ring" BT ["ground"]
 aX:aE K mg "shortest_ring" ir ["names","found"]
 aY:aE K mg "never_laid" kq ["names","found"]
 aZ:aE K mg "untorn_links" iO ["ground"]
 b0:aE K mg "earlier_ones" iP ["ground"]
 b1:aE K mg "is_name" qS ["thing"]
 b2:aE K mg "rows_of" qT ["text"]
 b3:aE K mg "is_row" va ["row"]
 b4:aE K mg "lies_beneath" iQ ["row","above"]
 b5:aE K mg "letters_in" kr ["rows"]
 b6:aE K mg "letters" qU ["text"]
 b7:aE K mg "meetings" oE ["text"]
 b8:aE K mg "meetings_between" eV ["above","row"]
 b9:aE K mg "check_cuts" kz ["cuts"]
 ba:aE K mg "is_named_cut" iR ["thing"]
 bb:aE K mg "is_cut" vb ["thing"]
 bc:aE K mg "check_sayings" iw ["sayings","layers"]
 bd:aE K mg "is_saying" mC ["thing","layers"]
 be:aE K mg "is_text_among" ix ["thing","texts"]
 bf:aE K mg "is_year" qV ["thing"]
 bg:aE K mg "layer_name" kA ["name","letter"]
 bh:aE K mg "layers_of" mD ["cuts"]
 bi:aE K mg "ties_of_cuts" iS ["cuts"]
 bj:aE K mg "ties_of_sayings" fz ["sayings"]
 bm:aE K mg "years_said" kB ["ground","word"]
 bn:aE K mg "bys_above" mE ["bys","reach","name"]
 bo:aE K mg "is_one_or_later" fA ["reach","upper","lower"]
 bp:aE K mg "clashing_pairs" fV ["ground"]
 bq:aE K mg "fewest_wrong" iT ["ground"]
 br:aE K mg "_law_cell_at" jt ["_law_script","_law_k"]
 bt:aE K mg "_law_mixed" mF ["_law_cell","_law_k"]
 bu:aE K mg "_law_row" qW ["_law_script","_law_many_here"]
 bv:aE K mg "_law_names" mG ["_law_number"]
 bw:aE K mg "_law_column" kC ["_law_number","_law_high","_law_wild"]
 bx:aE K mg "_law_sign" oG ["_law_at","_law_shift"]
 bz:aE K mg "_law_cut" qX ["_law_row_here","_law_shift","_law_wild"]
 bA:aE K mg "_law_saying" kD ["_law_one","_law_two","_law_layers","_law_torn"]
 bB:aE K mg "_law_ground" kE ["_law_row_here"]
 bC:aE K mg "_law_many" oH ["_law_cuts","_law_sayings"]
 bD:aE K mg "_law_without" ju ["_law_cuts","_law_sayings","_law_numbers"]
section
variable{P:Program}{w:World}{K:ZA}{mg:ZC}{base:Heap}
def aV{n:Nat}(h:n<=5000):n<=sizeLine:=Nat.le_trans h (!1)
def aA{n:Nat}(h:n<=5000):n<sizeLine:=Nat.lt_of_le_of_lt h (!1)
def af.Ja{H:Hp}{p:Addr}{o:HO}(h:H p=none):af H (Ja H p o):=λb u e=>by rw[am (aC e h)];exact e
def af.set{H a:Hp}{p:Addr}{o:HO}(c:af H a)(h:H p=none):af H (_LL.Ja a p o):=λb u e=>by rw[am (aC e h)];exact c b u e
def HA{b:Type}(xs:List b){i:Int}(d:0<=i)(e:i<(~~~xs:Int)):∃c,atI xs i∣c/\c∈xs:=by
 let%[j|rfl]:=Xd d;let a:j< ~~~xs:=by lia
 exact%[xs[j],bC (by simp[a])|Ya a]
def fW(xs:ZL){i:Int}(b:0<=i)(d:i<(~~~xs:Int)):∃c,atI (xs\4) i∣V.int c/\c∈xs:=by
 let%[j|rfl]:=Xd b;let a:j< ~~~xs:=by lia
 exact%[xs[j],bC (by simp[a])|Ya a]
def Ep:(gE.cps.toList.length:Int)=26:=!0
def fG(T:Txt K mg):↥1 "_law_cell_at" ["_law_script","_law_k"] (oJ K):=by
 .exists T.br,oF,g,m,%[a,c,k,rfl,d,i|q];show%[_,%["JDOK>1XYA0BEHR01PEHC"|0]|?_]
  change a9 _ _ _ [!a,some (.int k)] H;lk;show%[_,.inl %[_,d|ρ]|ba (λb=>?_) λb=>?_]
  .let b:=Zo b;rw[Z6]at b;show%[_,d,.int (c.getD k.toNat 0),?_|q];let%[j|rfl]:=Xd i;let l:j< ~~~c:=by lia
   exact bC (by simp[l])
  .let b: ¬ k<(~~~(c\4):Int):=↑b
   rw[Z6]at b;let e:c.getD k.toNat 0=0:=by
    rw[Zc,Xg ⋯];rfl
   rw[e]at q;exact q
def vf(T:Txt K mg):↥1 "_law_mixed" ["_law_cell","_law_k"] ve:=by
 .exists T.bt,gR,a,j,%[c,k,rfl,l,m|q];show%[_,%["JDI2FWFrFfFfFW0CFrC1CCCDI3FWFfFr22FrFrC11CEHFWFr33C"|gR.nd]|?_]
  change a9 _ _ _ [some (.int c),some (.int k),none,none] H;show ak λn k1 _=>?_
  lk;show%[!1,.inl %[!1|!1],.inr %[!1|!1],!1|k1 _ _ (ak λo k2 _=>?_)];let b:=Int.emod_nonneg ((c%1000003+7919*k+1)*48271) (by decide:(2147483629:Int)≠0);let d:=Int.emod_lt_of_pos ((c%1000003+7919*k+1)*48271) (by decide:(0:Int)<2147483629)
  generalize (c%1000003+7919*k+1)*48271%2147483629=one at b d
  lk;show%[.inl %[⋯|⋯],.inl %[!1|!1],.inr %[⋯|⋯],!1|k2 _ _ ?_];let e:=Int.emod_nonneg (one*one+104729*k*k) (by decide:(2147483587:Int)≠0);let g:=Int.emod_lt_of_pos (one*one+104729*k*k) (by decide:(0:Int)<2147483587)
  generalize (one*one+104729*k*k)%2147483587=i at e g
  lk;exact%[.inl %[⋯|⋯],!1|q _ ⋯ ⋯]
def zM(T:Txt K mg):↥2 "_law_row" ["_law_script","_law_many_here"] (BV K):=by
 .exists T.bu,dE,Y,p,%[a,j,m,rfl,hs,hn,h0,h1|q];show%[_,%["JDI2TBDI3CDU)A1BL4DOKaFW4CCEI3G~XA0AFfCFo4CBPEOiwKaFWG~XA0ACBCC&K*3CDZsk2AFW3CBEI3Fo3CEZsk2AFWG~2AG~XA0AFfCFW4~Y~xACAF~IXYA0BCBBA4BCBEH2",dE.nd|p]|?_]
  change a9 _ _ _ [!a,some (.int m),none,none,none] H;show ak λD1 k1 _=>?_
  lk;show%[Xa _|λl u=>k1 _ _ (ak λD2 k2 _=>?_)];let z:af H (Ja H l (.lst [])):=af.Ja u;lk;show k2 _ _ (ak λD3 k3 _=>ay λM hK=>?_);lk;show%[⋯,⋯|hK _ _ (eA (λi B e=>∃(n:Int) (o:Option V) (xs:ZL),B=[!a,some (.int m),!l,some (.int n),o]/\af H e/\e l<*xs\4/\ ~~~xs=i/\∀x∈xs,0<=x/\x<9973)
   %[_,none,[],ρ,z,upd_same,ρ|λ_ h=>nomatch h] ?_ ?_)]
  .intro i B e hi %[n,o,xs,rfl,r,c,t|d];let ab:i<100:=by lia
   let g:=r.seq hs;change a9 _ _ _ [!a,some (.int m),!l,some (.int n),some (.int (0+i))] e;rw[Int.zero_add];show ak λD4 k4 _=>?_
   let fin:∀C:Int,D4.nx [!a,some (.int m),!l,some (.int C),some (.int i)] e:=λC=>k4 _ _ (aB λD5 N _=>by
    let put:∀v:Int,0<=v->v<9973->af H (Ja e l (.lst (xs\4++[.int v])))/\∃b:ZL,Ja e l (.lst (xs\4++[.int v])) l<*b\4/\ ~~~b=i+1/\∀x∈b,0<=x/\x<9973:=λv O v1=>
     ⟨af.set r u,xs++[v],by rw[upd_same,Zd];rfl,by rw[Z9,t];rfl,λy hy=>by
      rcases Xi hy with q|q
      .exact d y q
      .rw[Xj q];exact%[O|v1]⟩
    let len: ~~~(xs\4)<sizeLine:=by rw[Z6,t];exact aA ⋯
    let U:∀x:Nat,(0:Int)<(if(x:Int) -1>1 then(x:Int) -1 else 1):=λx=>by split<;> lia
    lk;show%[a,j,0,ρ,g,!1,_,ρ,!1|ba (λ_=>ba (λ_=>?g1) λ_=>?g2) λ_=>?g3]
    case g1=>
     let%[G,b,I,J|L]:=put (C%9973) ⋯ ⋯;exact%[tyL (Jb.of c),!1,_,c,len,%[!1|!1]|N _ _ %[_,_,b,ρ,G,I,J|L]]
    all_goals
     show%[tyL (Jb.of c),_,.inl %[_,g|ρ],U _,a,j,_,ρ,g,?_|?_]
     .let:=Int.emod_nonneg (i:Int) (Int.ne_of_gt (U (j\4).length))
      lia
     show%[_,_,ρ,⋯,⋯|λv O v1=>%[_,ρ,!1,_,c,len|N _ _ ?_]];let%[G,b,I,J|L]:=put (v%9973) ⋯ ⋯;exact%[_,_,b,ρ,G,I,J|L])
   lk;exact%[!1|ba (λ_=>%[%[!1|!1],a,j,_,ρ,g,⋯|fin _]) λ_=>fin n]
  .intro B e %[n,o,xs,rfl,r,c,t|d];show k3 _ _ ?_;lk;exact q l e xs r u c t d
def BX(a:0<=i)(c:i<26):atI gE.cps.toList i∣(97+i.toNat):=by
 let%[j|rfl]:=Xd a;let b:j<26:=by omega
 let all:∀j:Fin 26,gE.cps.toList[j.1]?∣(97+j.1):=!0
 exact bC (all %[j|b])
def oK(T:Txt K mg):↥1 "_law_sign" ["_law_at","_law_shift"] xK:=by
 .exists T.bx,vc,d,e,%[a,g,rfl,i|c];show%[_,%["JDOK>0CEHcPEH~ycFWFfFr0C1C"|0]|?_]
  change a9 _ _ _ [some (.int a),some _] H;lk;unfold sg at c;show ba (λb=>?_) λb=>?_
  .let b:=Zo b;rw[if_pos b]at c;exact c
  .let b: ¬ a<0:=↑b
   rw[if_neg b]at c;show%[.inr %[by simp|by simp],!1,(!1),_,BX (by omega) (by omega)|c]
def tq(T:Txt K mg):↥1 "_law_column" ["_law_number","_law_high","_law_wild"] qY:=by
 .exists T.bw,bH,ag,hr,%[n,hi,wd,rfl,n0,h1,h6|kk];show%[_,%["JDI3FW0CDI4FWFo0CCDI0Fo0CDI5TBDU)A1BL6EOiwK>63&K>6F~I1CEZsk5A+CBDZsk5A4BDI4~Y~xACA~Z~3ACAFf4RTACACARTACA+CB~z~!A2BBFW0CBBEI0Fo0CEH5"|bH.nd]|?_]
  change a9 _ _ _ [some (.int n),some (.int hi),some (.bl wd),none,none,none,none] H;show ak λD1 k1 _=>?_
  lk;show%[!1|k1 _ _ (ak λD2 k2 _=>?_)];lk;show%[%[!1|!1],!1|k2 _ _ (ak λD3 k3 _=>?_)];lk;show%[%[!1|!1]|k3 _ _ (ak λD4 k4 _=>?_)];lk;show%[Xa _|λL O=>k4 _ _ (ak λD5 k5 r5=>ay λae hK=>?_)];lk;let I:∃a:Nat,(a:Int)=(if n%3<hi-1 then n%3 else hi-1):=by
   split
   .exact%[(n%3).toNat|by omega]
   .exact%[(hi-1).toNat|by omega]
  let%[a|ea]:=I;show%[by omega,by omega|hK _ _ (eA (λi σ y=>∃(m b:Int) (o:Option V) (g:ZL),σ=[some (.int m),some (.int hi),some (.bl wd),some (.int (n%3)),some (.int b),!L,o]/\0<=b/\b<=7/\af H y/\y L<*g\4/\ ~~~g=i/\
   (∀(k:Nat) (c:Int),g[k]?∣c->(k<a->c= -1)/\(a<=k->0<=c/\c<=7))/\∀(k:Nat) (c d:Int),g[k]?∣c->(g++[b])[k+1]?∣d->a<=k->St wd c d)
   %[_,_,none,[],ρ,by omega,by omega,af.Ja O,upd_same,ρ,(λk c e=>by simp at e)|λk c d e=>by simp at e] ?_ ?_)]
  .intro i σ y ai %[m,b,o,g,rfl,a0,a7,U,l,B,r|C];change mL _ _ _ _ [some (.int m),some (.int hi),some (.bl wd),some (.int (n%3)),some (.int b),!L,some (.int (0+i))] y;rw[Int.zero_add];let len: ~~~(g\4)<sizeLine:=by rw[Z6,B];exact aA (by omega)
   let put:∀v:Int,(i<a->v= -1)->(a<=i->0<=v/\v<=7)->∀(k:Nat) (c:Int),(g++[v])[k]?∣c->(k<a->c= -1)/\(a<=k->0<=c/\c<=7):=λv v1 v2 k c e=>by
    by_cases Y:k< ~~~g
    .rw[Y7 Y]at e;exact r k c e
    .let ek:k=i:=by
      let:=(Xh e).1;rw[Z9]at this;simp only[Zr,length_nil]at this;omega
     subst ek;rw[Y8 (by omega),B,X4]at e;cases e;exact%[v1|v2]
   show aB λD6 k6 _=>?_
   lk;let J:∀v u:Int,(a<=i->v=b/\St wd v u)->∀(k:Nat) (c d:Int),(g++[v])[k]?∣c->(g++[v] ++[u])[k+1]?∣d->a<=k->St wd c d:=λv u q k c d G t Y=>by
    let aj:k+1<= ~~~g+1:=by
     let:=(Xh t).1;simp only[Z9,Zr,length_nil]at this;omega
    by_cases h:k+1< ~~~g+1
    .rw[Y7 (by omega)]at G;rw[Y7 ↑h]at t;by_cases h':a<=i
     .rw[(q h').1]at t;exact C k c d G t Y
     .omega
    .let ek:k=i:=by omega
     subst ek;rw[Y8 (by omega),B,X4]at G;rw[Y8 (by simp;omega)]at t;simp[B]at G t;rw[<-G,<-t];exact(q Y).2
   let fin:∀_v:Int,¬ i<a->∀(m2 j:Int) (HH:Hp),0<=j->j<=7->St wd b j->af (Ja y L (.lst (g\4++[.int b]))) HH->D6.nx [some (.int m2),some (.int hi),some (.bl wd),some (.int (n%3)),some (.int j),!L,some (.int i)] HH:=λv hv m2 j HH b0 b7 st sh=>
    k6 _ _ %[m2,j,_,g++[b],rfl,b0,b7,(af.set U O).trans sh,by rw[sh L _ upd_same,Zd];rfl,by rw[Z9,B];rfl,put b (λz=>absurd z hv) λ_=>%[a0|a7]|J b j λ_=>%[rfl|st]]
   show ba (λhA=>ba (λhB=>?g1) λhB=>?g2) λhA=>?g3
   case g1=>
    simp only[decide_eq_true_eq]at hA hB;let M:i<a:=by split at ea<;> omega
    exact%[tyL (Jb.of l),_,l,len|k6 _ _ %[m,b,_,g++[-1],ρ,a0,a7,af.set U O,by rw[upd_same,Zd];rfl,by rw[Z9,B];rfl,put (-1) (λ_=>rfl) λz=>absurd M (by omega)|J (-1) b λz=>absurd M (by omega)]]
   all_goals
    let ab: ¬ i<a:=by
     simp only[decide_eq_true_eq]at*
     split at ea<;> omega
    show%[tyL (Jb.of l),_,l,len,#[2]|λp hp=>%[_,Jb.of upd_same,.int (if wd=true then -1 else 2),by cases wd<;> rfl,#[3]|λp1 ac=>%[!1,_,Jb.of upd_same|?_]]];let%[c,hc|N]:=fW [0,1,if wd=true then -1 else 2] (i:=m%3) (by omega) (by change m%3<3;omega);show%[_,hc,c,ρ,%[!1|!1]|fin 0 ab _ _ _ ?_ ?_ ?_ ((af.Ja hp).trans (af.Ja ac))]
    rotate_left 2
    .unfold _CU.St;simp only[Ys,X1,or_false]at N;cases wd<;> rcases N with rfl|rfl|rfl<;> simp<;>(split<;>(try split)<;> omega)
    all_goals(split<;>(simp)<;> omega)
  .intro σ y %[m,b,o,g,rfl,a0,a7,U,l,B,r|C];show k5 _ _ ?_;lk;exact kk L y g U O l (by omega) %[a,by omega,r|λk c d G t=>C k c d G ((Y7 (Xh t).1)▸t)]
def vg(xs:ZL){lo hi:Int}(c:0<=lo)(d:lo<=hi)(e:hi<= ~~~xs):rL (xs\4) (some lo) (some hi)=((xs.drop lo.toNat).take (hi.toNat-lo.toNat))\4:=by
 unfold rL;rw[Z6];let a:_HT.sIx xs.length 0 (some lo)=lo.toNat:=by
  change(if lo<0 then _ else min lo.toNat xs.length)=_;rw[if_neg ⋯]
  lia
 let b:_HT.sIx xs.length xs.length (some hi)=hi.toNat:=by
  change(if hi<0 then _ else min hi.toNat xs.length)=_;rw[if_neg ⋯]
  lia
 rw[a,b,map_take,map_drop]
def DQ(a:Int)(b:ZL):inV (V.int a) (b\4)=decide (a∈b):=by
 unfold inV;rw[any_map]
 induction b with
 | nil=>rfl
 | cons c r d=>
   rw[Zx,d];change((c==a)||_)=_;by_cases h:c=a
   .subst h;simp
   .let:a≠c:=λe=>h e.symm
    simp[h,this]
def zN(a:ZL):(a\4).all fJ=true:=by simp[fJ]
def zO(T:Txt K mg):↥2 "_law_cut" ["_law_row_here","_law_shift","_law_wild"] (BW K):=by
 .exists T.bz,db,cd,hr,%[a,xs,u,d,rfl,hs,keep,b1,hb,s0|kk];let get:∀i:Int,0<=i->i<6->∃c,atI (xs\4) i∣V.int c/\0<=c/\c<9973:=λi h0 h1=>by
   let%[c,e|hm]:=fW xs h0 ⋯;exact%[c,e|hb c hm]
  let%[c0,g0,l0|u0]:=get 0 (!1) (!1);show%[_,%["JDI3FfCFWR0CCD,4ghFfCFWFoR0CCCD~45ghlb?1S~B0'C'FfC3V0?2vG~5A0AN1AN2BDI6TBDU)AN4B~R7ghEZsk6A~S~TcAlb?3SN5V0?4vG~$AR0N2AN1BBBD<8hgb?5)ACB~60?6ghu~7~8~9Alb?7SN1V0?8vt~JN10BN0EHmA~S~TcA6BA8B",db.nd,↑(["_law_number","_law_high","_law_wild"],[(1,4),(2,2)]),↑["_law_number","_law_high","_law_wild"],↑(["_law_column_here","_law_shift","_law_k"],[(1,1),(2,7)]),↑["_law_column_here","_law_shift","_law_k"],↑(["_law_at","_law_columns"],[(1,5)]),↑["_law_at","_law_columns"],↑(["_law_column_here","_law_at"],[(1,0)]),↑["_law_column_here","_law_at"]|hr]|?_]
  change a9 _ _ _ [!a,some (.int u),some (.bl d),none,none,none,none,none,none] H;show ak λD1 k1 _=>?_
  lk;show%[_,hs,_,g0,c0,ρ,!1|k1 _ _ (ak λD2 k2 _=>?_)];lk;show%[_,hs,_,g0,c0,ρ,%[!1|!1],!1|k2 _ _ (ak λD4 k4 _=>?_)];let w1:1<=1+c0%5:=by lia
  let w5:1+c0%5<=5:=by lia
  let i1:1<=1+c0/5%7:=by lia
  let i6:1+c0/5%7<=7:=by lia
  generalize ce:1+c0%5=wd at w1 w5
  generalize 1+c0/5%7=hi at i1 i6
  show az λC U=>?_
  lk;show%[_,hs|λp Y=>%[%[_|Jb.of upd_same]|U _ _ λD hD=>?_]];rw[vg xs (!1) ⋯ ⋯]at hD ⊢;let a1: ~~~((xs.drop (Int.toNat 1)).take ((1+wd).toNat-Int.toNat 1))=wd.toNat:=by
   rw[Yh,Yd,b1];rw[show(1+wd).toNat=wd.toNat+1 by lia];exact min_eq_left ⋯
  let a2:∀x∈(xs.drop (Int.toNat 1)).take ((1+wd).toNat-Int.toNat 1),0<=x/\x<9973:=λx hx=>hb x (List.mem_of_mem_drop (Yt hx))
  generalize (xs.drop (Int.toNat 1)).take ((1+wd).toNat-Int.toNat 1)=ys at a1 a2 hD ⊢
  let a3:af H (Ja H p (.lst (ys\4))):=af.Ja Y;let ab:Ja H p (.lst (ys\4)) p<*ys\4:=upd_same
  generalize Ja H p (.lst (ys\4))=b2 at a3 ab hD ⊢
  show bR (J:=Itl K p) (n:=wd.toNat) (D:=D) (λi zs m j=>(∃o,m=[o,some (.int hi),some (.bl d)])/\af b2 j/\j D<*zs/\∃b:List (Addr×ZL),zs=b\0/\ ~~~b=i/\ti j b/\∀q∈b,q.1≠D/\ ~~~q.2=hi.toNat/\kh d q.2)
   %[%[none|rfl],af.Ja hD,upd_same,[],rfl,rfl,λq y=>(nomatch y)|λq y=>(nomatch y)]
   (λi _ _ j a4 g=>%[_,V.int (ys[i]'⋯),Jb.of (g.2.1 _ _ ab)|by simp[show i< ~~~ys by lia]]) (λ_ _ j g=>%[_,Jb.of (g.2.1 _ _ ab)|by simp[a1]]) ?_ ?_
  .intro i zs m j a4 %[%[o|rfl],L,a5,b,rfl,I,ac|M] x H2 %[e2|hx];subst e2;let a6:i< ~~~ys:=by lia
   let v:=hx _ (Jb.of (L _ _ ab));rw[Zl,Z4 a6]at v;obtain rfl:x=V.int ys[i]:=(Za v).symm;lk;show%[_,_,_,ρ,(a2 _ (Ya a6)).1,i1,i6|λl H3 b3 al a7 bb bc b4=>?_];let bd:l≠D:=λe=>by rw[e,a5]at a7;cases a7
   show CK.mk a4 (al _ _ a5) (by rw[Z6,I];exact aA ⋯) %[%[_|rfl],af.set (L.trans al) hD,upd_same,b++[(l,b3)],by rw[Zd];rfl,by rw[Z9,I];rfl,λq y=>?_|λq y=>?_]
   .rcases Xi y with z|z
    .rw[am (M q z).1];exact al _ _ (ac q z)
    .rw[Xj z,am bd];exact bb
   .rcases Xi y with z|z
    .exact M q z
    .rw[Xj z];exact%[bd,bc|b4]
  intro zs m H4 %[_,b5,bf,b,rfl,I,ac|M];let an:af H H4:=a3.trans b5;show k4 _ _ (ak λD5 k5 _=>?_);lk;show%[Xa _|λR hR=>k5 _ _ (ak λD6 k6 _=>ay λC U=>?_)];lk;let ca: ~~~(b\2)=wd.toNat:=by rw[Z6];exact I
  show%[⋯,⋯|U _ _ (eA (λi m j=>∃o7,m=[!a,some (.int u),some (.bl d),some (.int wd),some (.int hi),!D,!R,o7,none]/\af H4 j/\j R<*((List.range i).map (iL (b\2) u))\3)
   %[_,ρ,af.Ja hR|upd_same] ?_ ?_)]
  .intro i m H5 ch %[o7,rfl,t|ae];change iE _ _ [!a,some (.int u),some (.bl d),some (.int wd),some (.int hi),!D,!R,some (.int (0+i)),none] H5;rw[Int.zero_add];show aB λD8 k8 _=>?_
   lk;show%[tyL (Jb.of ae)|az λC U=>?_];lk;let ag:=t _ _ bf;show%[%[_|Jb.of ag]|U _ _ λF hF=>?_];show bR (J:=Itl K D) (n:=wd.toNat) (D:=F) (λq ts m j=>(∃o,m=[o,some (.int u),some (.int i)])/\af H5 j/\j F<*ts/\ts=(((b.take q).map (λp=>sg (p.2.getD i 0) u)).map sgn)\3)
    %[%[none|rfl],af.Ja hF,upd_same|rfl]
    (λq _ _ j y g=>%[_,V.ref (b[q]'⋯).1,Jb.of (g.2.1 _ _ ag)|by simp[show q< ~~~b by lia]]) (λ_ _ j g=>%[_,Jb.of (g.2.1 _ _ ag)|by simp[I]]) ?_ ?_
   .intro q ts m j y %[%[o|rfl],L,as|N] x H2 %[e2|hx];subst e2;let B:q< ~~~b:=by lia
    let v:=hx _ (Jb.of (L _ _ ag));rw[Zl,Z4 B]at v;obtain rfl:x=V.ref b[q].1:=(Za v).symm;let hm:=Ya B;lk;show%[_,Jb.of (L _ _ (t _ _ (ac _ hm))),V.int (b[q].2.getD i 0),?_|?_]
    .show bC ?_;rw[Zl,dm (M _ hm).2.1 ⋯];rfl
    show%[_,_,ρ,s0|?_];show CK.mk y as (by rw[N,Z6,Z6,Z6,Yh];exact aA ⋯) %[%[_|rfl],af.set L hF,upd_same|?_];rw[N,X6,Zd,Zd,Zd,Z4 B];rfl
   intro ts m H7 %[_,bl,b6|N];rw[Zn ⋯]at N;lk;show%[(b.map λp=>sg (p.2.getD i 0) u).map sgn,by rw[<-N];exact Jb.of b6,?_,_,bl _ _ ae,by rw[Z6,Z6,Yf];exact aA ⋯|k8 _ _ %[_,ρ,af.set (t.trans bl) hR|?_]]
   .rw[sA,Z6,Z6,show(!"").length=0 from rfl]
    lia
   .rw[upd_same,range_succ,Zd,Zd,show Txt.join (!"") ((b.map λp=>sg (p.2.getD i 0) u).map sgn)=Str.join (!"") ((b.map λp=>sg (p.2.getD i 0) u).map sgn)from StrLaws.glued_eq_join _ _,nT];let e:iL (b\2) u i=⟨(b.map λp=>sg (p.2.getD i 0) u).toArray⟩:=by
     unfold iL;rw[Yn];rfl
    rw[<-e];rfl
  .intro m H5 %[o7,rfl,t|ae];show k6 _ _ (ak λD7 k7 _=>az λC U=>?_);lk;show%[!1,!1|U _ _ λF hF=>?_];show bR (J:=Itr 0 8) (n:=8) (D:=F) (λq ts m j=>(∃o,m=[o,!D])/\af H5 j/\j F<*ts/\ts=(((List.range q).filter λa:Nat=>(b\2).any λc=>decide ((a:Int)∈c)).map λa:Nat=>(a:Int))\4)
    %[%[none|rfl],af.Ja hF,upd_same|rfl] (λq _ _ j y _=>y) (λ_ _ j _=>Zi _) ?_ ?_
   .intro q ts m j y %[%[o|rfl],L,as|N] x H2 %[e2|e3];subst e2 e3;lk;show az λC U=>?_
    lk;let ai:=L _ _ (t _ _ bf);show%[%[_|Jb.of ai]|U _ _ λG hG=>?_];show bR (J:=Itl K D) (n:=wd.toNat) (D:=G) (λr zs m H3=>(∃o,m=[o,some (.int q)])/\af H2 H3/\H3 G<*zs/\zs=(b.take r).map (λp=>V.bl (decide ((q:Int)∈p.2))))
     %[%[none|rfl],af.Ja hG,upd_same|rfl]
     (λr _ _ H3 bm g=>%[_,V.ref (b[r]'⋯).1,Jb.of (g.2.1 _ _ ai)|by simp[show r< ~~~b by lia]]) (λ_ _ H3 g=>%[_,Jb.of (g.2.1 _ _ ai)|by simp[I]]) ?_ ?_
    .intro r zs m H3 bm %[%[o|rfl],s3,b7|hz] x cl %[e2|hx];subst e2;let B:r< ~~~b:=by lia
     let v:=hx _ (Jb.of (s3 _ _ ai));rw[Zl,Z4 B]at v;obtain rfl:x=V.ref b[r].1:=(Za v).symm;let hm:=Ya B;lk;show%[_,.inl (Jb.of (s3 _ _ (L _ _ (t _ _ (ac _ hm))))),ρ,zN _|?_];rw[DQ];show CK.mk bm b7 (by rw[hz,Z6,Yh];exact aA ⋯) %[%[_|rfl],af.set s3 hG,upd_same|?_];rw[hz,X6,Zd,Z4 B];rfl
    intro zs m H3 %[_,s3,b9|hz];rw[Zn ⋯]at hz;let bn:=s3 _ _ as;lk;show%[b.map λp=>decide ((q:Int)∈p.2),by rw[Yn];exact Jb.of (by rw[b9,hz];rfl)|?_];rw[show((b.map λp=>decide ((q:Int)∈p.2)).any id)=(b\2).any λc=>decide ((q:Int)∈c) by rw[any_map,any_map];rfl];let bp: ~~~ts<sizeLine:=by
     rw[N,Z6,Z6];let:=Ye (λa:Nat=>(b\2).any λc=>decide ((a:Int)∈c)) (List.range q);rw[Yf]at this;exact aA ⋯
    show ba (λhb=>?_) λhb=>?_
    .show CK.mk y bn bp %[%[_|rfl],af.set (L.trans s3) hF,upd_same|?_];rw[N,range_succ,Y1,Zd,Zd];rw[show List.filter (λa:Nat=>(b\2).any λc=>decide ((a:Int)∈c)) [q]=[q]from by rw[filter_cons,if_pos hb];rfl];rfl
    .show CN.mk y %[%[_|rfl],L.trans s3,bn|?_];rw[N,range_succ,Y1,Zd,Zd];rw[show List.filter (λa:Nat=>(b\2).any λc=>decide ((a:Int)∈c)) [q]=[]from by rw[filter_cons,if_neg hb];rfl];simp
   intro ts m H6 %[_,a0,bt|N];show k7 _ _ ?_;lk;let O:∀c∈b\2,~~~c=hi.toNat/\kh d c:=λc hc=>by
    let%[p,Y|rfl]:=Xk hc;exact(M p Y).2
   let aj:cm (drawn (b\2) hi.toNat u):=uZ ⋯ ⋯ ⋯ ⋯ O;let bU:H5 R<*(drawn (b\2) hi.toNat u)\3:=ae;show%[drawn (b\2) hi.toNat u,Jb.of (a0 _ _ bU),?_,#[2]|λp Y=>?_]
   .let:=aj.sum;let:=aj.high;rw[show(!"\n").length=1 from rfl]
    lia
   .let b0:af H (Ja H6 p (.tup [V.str (Txt.join (!"\n") (drawn (b\2) hi.toNat u)),V.ref F])):=(an.trans (t.trans a0)).trans (af.Ja Y);show kk p F _ (b\2) hi.toNat b0 ((an.trans (t.trans a0)).free Y) ((an.trans t).free hF) (λe=>by rw[e,bt]at Y;cases Y) ?_ ?_ ⋯ ⋯ ⋯ ⋯ O
    .rw[upd_same,show Txt.join (!"\n") (drawn (b\2) hi.toNat u)=Str.join (!"\n") (drawn (b\2) hi.toNat u)from StrLaws.glued_eq_join _ _];rfl
    .rw[af.Ja Y F _ bt,N];rfl
inductive qZ
 | mk (z:Str):vs=[.str z]-> ~~~z<=1000->(∀H',af H H'->Q (.bl (sw z)) H')->qZ vs H Q E0
inductive oM
 | mk (row above:Str):vs=[.str row,.str above]-> ~~~row<=1000-> ~~~above<=1000->(∀H',af H H'->Q (.bl (eM row above)) H')->oM vs H Q E0
inductive jv (K:ZA)
 | mk (a:Addr) (rows:ZB):vs=[.ref a]->Jb K H a (rows\3)->(rows.map (·.length)).sum<=3000->(∀r∈rows,r.cps.toList.all okc=true)->(∀l H' (ss:ZB),af H H'->H l=none->H' l<*ss\3->ss.Perm (aP ((cN rows).map sgn))->Q (.ref l) H')->jv K vs H Q E0
inductive oN
 | mk (rows:ZB):vs=[.str (Str.join nl rows)]->cm rows->(∀l H',af H H'->H l=none->H' l<*rows\3->Q (.ref l) H')->oN vs H Q E0
def i8(z:Str)(i:Nat)(c:Nat)(h:z.cps[i]?∣c):(z.cps.toList.take i++[c])=z.cps.toList.take (i+1):=by
 let b:z.cps.toList[i]?∣c:=↑h
 let%[a|e]:=Xh b;rw[List.take_succ_eq_append_getElem a,e]
def BY(c d:Nat):((⟨([c].toArray)⟩:Str)=⟨([d].toArray)⟩)↔c=d:=by
 constructor
 .intro h;let:(([c].toArray):Array Nat)= ([d].toArray):=by injection h
  simpa using this
 .intro h;rw[h]
def oO(c:Nat):((⟨([c].toArray)⟩:Str)=!".")↔c=46:=BY c 46
def BZ(T:Txt K mg):↥1 "is_row" ["row"] qZ:=by
 .exists T.b3,zK,v,M,%[z,rfl,N|k];show%[_,%["JEH!~a~C~CCXYA0B]A$~b~cAlb?1~d0V0?2v~eta0~K$t~J0~%B",0,↑(["sign"],[])|↑["sign"]]|?_];change iB _ _ [-z] H;lk;show%[aV ⋯|ba (λm=>ba (λp=>?_) λp=>?_) λm=>?_]
  .show az λt y=>?_
   lk;show y _ _ λD u=>?_
   show bR (J:=Its z) (n:=z.cps.size) (D:=D) (λi ys d a=>(∃o,d=[o])/\af H a/\a D<*ys/\ys=(z.cps.toList.take i).map (λc=>V.bl (okc c))) %[%[none|rfl],af.Ja u,upd_same|rfl]
    (λi _ _ _ hi _=>hi) (λ_ _ _ _=>Zi _) ?_ ?_
   .intro i ys d a hi %[%[o|rfl],q,r|g] x B %[C,c,G|rfl];subst C;let j: ~~~ys=i:=by
     rw[g,Z6,Yh];let: ~~~z.cps.toList=z.cps.size:=by simp
     lia
    let I:i<1000:=by
     let: ~~~z=z.cps.size:=rfl
     lia
    let put:∀b:Bool,b=okc c->CK D z.cps.size i (λi ys d a=>(∃o,d=[o])/\af H a/\a D<*ys/\ys=(z.cps.toList.take i).map (λc=>V.bl (okc c))) ys [some (.str ⟨([c].toArray)⟩)] (.bl b) B:=λb L=>
     CK.mk hi r (by rw[j];exact aA ⋯) %[%[_|rfl],af.set q u,upd_same|by rw[L,g,<-i8 z i c G,Zd];rfl]
    lk;show ba (λl=>put true ?_) λl=>put _ ?_
    .let:=(oO c).mp (Zo l);unfold okc;rw[Zf this,Bool.true_or]
    .let l: ¬ (⟨([c].toArray)⟩:Str)=Str.ofString ".":=λe=>l (Zf e)
     let: ¬ c=46:=λe=>l ((oO c).mpr e)
     unfold okc;rw[Zh this,Bool.false_or,AO];rfl
   .intro ys d a %[_,q,r|g];lk;show%[z.cps.toList.map okc,?_|?_]
    .let e:z.cps.toList.take z.cps.size=z.cps.toList:=by
      apply Zn;simp
     rw[e]at g;let:(z.cps.toList.map okc).map V.bl=ys:=by rw[g,Yn];rfl
     rw[this];exact Jb.of r
    .let e:sw z=(z.cps.toList.map okc).all id:=by
      unfold sw;rw[m,p,all_map]
      all_goals rfl
     rw[<-e];exact k a q
  .rw[Bool.not_eq_true]at p;let e:sw z=false:=by unfold sw;rw[p,Bool.and_false,Bool.false_and]
   rw[e]at k;exact k H (af.refl H)
  .rw[Bool.not_eq_true]at m;let e:sw z=false:=by unfold sw;rw[m,Bool.false_and,Bool.false_and]
   rw[e]at k;exact k H (af.refl H)
abbrev mH(p:Nat×Nat):Bool:=!decide (p.2=46)||decide (p.1=46)
def vh(x y:Str)(i c d:Nat)(b:x.cps[i]?∣c)(f:y.cps[i]?∣d):((List.zip x.cps.toList y.cps.toList).take i++[(c,d)])=(List.zip x.cps.toList y.cps.toList).take (i+1):=by
 let h:(List.zip x.cps.toList y.cps.toList)[i]?∣(c,d):=List.getElem?_zip_eq_some.mpr %[↑b|↑f];let%[a|e]:=Xh h;rw[List.take_succ_eq_append_getElem a,e]
def oP(T:Txt K mg):↥1 "lies_beneath" ["row","above"] oM:=by
 .exists T.b4,mU,G,hr,%[row,a,rfl,I,L|k];show%[_,%["JDOKnXYA0BXYA1BEHpPEH~b~cAlb?1~&A1A0BdMV0?2MV1?2ev~etn1~K$ta0~KB",0,↑(["high","low"],[])|↑["high","low"]]|?_]
  change a9 _ _ _ [-row,-a] H;show ak λD1 k1 M=>?_
  lk;show%[aV ⋯,aV ⋯|ba (λj=>?_) λj=>?_]
  .let j: ¬ ((~~~row:Int)= ~~~a):=↑j
   let e:eM row a=false:=by
    unfold eM;rw[Zh ⋯,Bool.false_and]
   rw[e]at k;exact M _ _ (k H (af.refl H))
  .let j: ~~~row= ~~~a:=by
    let:(~~~row:Int)= ~~~a:=↑j
    lia
   show k1 _ _ ?_;let t:row.cps.size=a.cps.size:=j;let u: ~~~(List.zip a.cps.toList row.cps.toList)=a.cps.size:=by rw[length_zip];simp[t]
   lk;show az λz N=>?_
   lk;show N _ _ λD B=>?_
   show bR (J:=Itz a row) (n:=a.cps.size) (D:=D) (λi ys l g=>(∃q r,l=[q,r])/\af H g/\g D<*ys/\ys=((List.zip a.cps.toList row.cps.toList).take i).map (λp=>V.bl (mH p))) %[%[none,none|rfl],af.Ja B,upd_same|rfl]
    (λi _ _ _ hi _=>%[hi|⋯]) (λ_ _ _ _=>%[Zi _,⋯|.inl rfl]) ?_ ?_
   .intro i ys l g hi %[%[q,r|rfl],v,y|m] x H2 %[c,d,TT,O,U,C,rfl|rfl];let o: ~~~ys=i:=by rw[m,Z6,Yh,u];lia
    let Y:i<1000:=by
     let: ~~~a=a.cps.size:=rfl
     lia
    let put:∀b:Bool,b=mH (c,d)->CK D a.cps.size i (λi ys l g=>(∃q r,l=[q,r])/\af H g/\g D<*ys/\ys=((List.zip a.cps.toList row.cps.toList).take i).map (λp=>V.bl (mH p))) ys [some (.str ⟨([c].toArray)⟩),some (.str ⟨([d].toArray)⟩)] (.bl b) (Ja g TT (.tup [.str ⟨([c].toArray)⟩,.str ⟨([d].toArray)⟩])):=λb eb=>
     CK.mk hi (af.Ja C _ _ y) (o▸aA ⋯) %[%[_,_|rfl],af.set (v.trans (af.Ja C)) B,upd_same|by rw[eb,m,<-vh a row i c d O U,Zd];rfl]
    lk;show%[_,SqT.of upd_same,ρ,_,_,ρ,_,_,ρ,ρ,ρ|?_];simp only[V.str.injEq,oO];show ba (λh=>put true ?_) λh=>%[⟨⟩|put _ ?_]
    .unfold mH;rw[h,Bool.true_or]
    .unfold mH;rw[Bool.not_eq_true]at h;rw[h,Bool.false_or]
   .intro ys l g %[_,v,y|m];lk;show%[(List.zip a.cps.toList row.cps.toList).map mH,?_|?_]
    .let e:(List.zip a.cps.toList row.cps.toList).take a.cps.size=List.zip a.cps.toList row.cps.toList:=Zn ⋯;rw[e]at m;let:((List.zip a.cps.toList row.cps.toList).map mH).map V.bl=ys:=by rw[m,Yn];rfl
     rw[this];exact Jb.of y
    .let e:eM row a=((List.zip a.cps.toList row.cps.toList).map mH).all id:=by
      unfold eM;rw[Zf j,all_map,Bool.true_and];rfl
     exact e▸k g v
def zP(h:(rows.map (·.length)).sum<=3000):(Str.join (!"") rows).length<=3000:=by
 let:=StrLaws.join_length_le (!"") rows;rw[show(!"").length=0 from rfl]at this
 lia
def kJ(T:Txt K mg):↥1 "letters_in" ["rows"] (jv K):=by
 .exists T.b5,pX,L,hr,%[a,rows,rfl,M,g,u|k];show%[_,%["JEH=~'A~L~fAlb?1~d~S~TcA0BV0?2uKn0~K0BB",0,↑(["sign"],[])|↑["sign"]]|?_];change iB _ _ [!a] H;lk;show az λB N=>?_
  lk;show%[rows,M,by rw[show(!"").length=0 from rfl];lia|?_];rw[show Txt.join (!"") rows=Str.join (!"") rows from StrLaws.glued_eq_join _ _];let j:=zP g;let b:=lw u;unfold cN at b k
  generalize Str.join (!"") rows=z at j b k ⊢
  show N _ _ λD C=>?_
  show bR (J:=Its z) (n:=z.cps.size) (D:=D) (λi ys v m=>(∃o,v=[o])/\af H m/\m D<*ys/\ys=((z.cps.toList.take i).filter (λc=>decide (c≠46))).map (λc=>V.str (sgn c))) %[%[none|rfl],af.Ja C,upd_same|rfl]
   (λi _ _ _ hi _=>hi) (λ_ _ _ _=>Zi _) ?_ ?_
  .intro i ys v m hi %[%[o|rfl],r,t|d] x H2 %[O,c,G|rfl];subst O;let I: ~~~ys<=i:=by
    rw[d,Z6];let:=Ye (λc=>decide (c≠46)) (z.cps.toList.take i);rw[Yh]at this
    lia
   let U:i<3000:=by
    let: ~~~z=z.cps.size:=rfl
    lia
   lk;simp only[oO];show ba (λy=>?_) λy=>?_
   .show CK.mk hi t (aA ⋯) %[%[_|rfl],af.set r C,upd_same|?_];rw[<-i8 z i c G,Y1,Zd,d];let:decide (c≠46)=true:=↑y
    rw[filter_cons,this];rfl
   .show CN.mk hi %[%[_|rfl],r,t|?_];rw[<-i8 z i c G,Y1,Zd,d];let:decide (c≠46)=false:=↑y
    rw[filter_cons,this];simp
  .intro ys v m %[_,r,t|d];let e:z.cps.toList.take z.cps.size=z.cps.toList:=by
    apply Zn;simp
   rw[e]at d;lk;let Y:=Ye (λc=>decide (c≠46)) z.cps.toList;let ab: ~~~z.cps.toList= ~~~z:=by simp[Str.length]
   show%[(z.cps.toList.filter (λc=>decide (c≠46))).map sgn,?_,by rw[Z6];lia|λS hS=>%[_,upd_same,?_|λl ss p hp ac=>?_]]
   .rw[Yn];let:(z.cps.toList.filter (λc=>decide (c≠46))).map (V.str ∘ sgn)=ys:=by rw[d];rfl
    rw[this];exact Jb.of t
   .let:=nS b
    lia
   .let q:af H (Ja m S (lq w S (aP ((z.cps.toList.filter (λc=>decide (c≠46))).map sgn)))):=r.trans (af.Ja hS);exact k l _ ss (q.trans (af.Ja p)) (q.free p) upd_same hp
def lJ(T:Txt K mg):↥2 "rows_of" ["text"] oN:=by
 .exists T.b2,gQ,al,L,%[rows,rfl,a|k];let%[wd,w1,w2|hw]:=a.wide;let M:=a.text;let t:=a.split;show%[_,%["JDOxq./A0A?1BE:PDI1]B]C0AcBDU~MA1BdML2ML3eDOi%Ka2]D(xqG]EA3BE:PEOiwK*2C&xqG]FA3AR1F~I2CBE:PDOKaXYAG~(A1BBCE:PEH1",gQ.nd,(blE (v:= .ty "str") rfl T.ab boot_str rfl rfl rfl)|L]|?_]
  generalize Str.join nl rows=z at M t
  change a9 _ _ _ [-z,none,none,none] H;show ak λD1 k1 _=>?_
  lk;show%[.type "str",.str z,true,by rfl|Ft (k1 _ _ (ak λD2 k2 _=>?_))];lk;show%[!1,Nat.le_trans (by lia: ~~~z+2<=5000) (!1)|λl hl=>k2 _ _ ?_];rw[show(!"\n")=nl from rfl,t];show ak λD3 k3 _=>ay λag hK=>?_
  lk;let N:af H (Ja H l (.lst (rows\3))):=af.Ja hl;show%[_,Jb.of upd_same|hK _ _ (jW (λi I g=>∃O U,I=[-z,!l,O,U]/\af H g/\g l<*rows\3) %[none,none,ρ,N|upd_same] (λi I g _ ⟨_,_,_,_,q⟩=>Jb.of q) ?_ ?_)]
  .intro i x TT I g u %[O,U,rfl,Y|j] hT;obtain⟨r,m,rfl⟩:∃r,rows[i]?∣r/\x=V.str r:=by
    rw[Zl]at u;cases e:rows[i]? with
    | none=>rw[e]at u;cases u
    | some r=>rw[e]at u;exact%[r,ρ|(Za u).symm]
   let ai:i< ~~~rows:=(Xh m).1;let aj:=a.high;let y:af H (Ja g TT (.tup [.int i,.str r])):=Y.trans (af.Ja hT);let o:Ja g TT (.tup [.int i,.str r]) l<*rows\3:=af.Ja hT _ _ j;let B:Ja g TT (.tup [.int i,.str r]) TT&&&[.int i,.str r]:=upd_same
   generalize Ja g TT (.tup [.int i,.str r])=HT at y o B
   let C: ~~~r<=1000:=by
    let: ~~~r=wd:=hw r (Z8 m)
    lia
   show%[_,SqT.of B,ρ,_,_,ρ,_,_,ρ,ρ|?_];change a9 _ _ _ [-z,!l,some (.int i),-r] HT;show ak λD4 k4 _=>?_
   let go:∀p,af HT p->D4.nx [-z,!l,some (.int i),-r] p:=by
    intro p b;show k4 _ _ (aB λD5 k5 _=>?_);let fin:∀J,af HT J->D5.nx [-z,!l,some (.int i),-r] J:=λJ n=>k5 _ _ %[_,_,rfl,y.trans n|n l _ o]
    lk;show ba (λG=>?_) λ_=>fin _ b
    let G:0<(i:Int):=Zo G;obtain⟨d,rfl⟩:∃d,i=d+1:=%[i-1|⋯]
    let ab:d< ~~~rows:=by lia
    let ac:rows[d]?∣rows[d]:=by simp
    let e1:(((d+1:Nat):Int) -1)=(d:Int):=by lia
    show%[_,Jb.of (b l _ o),.str rows[d],e1▸bC ∅,r,rows[d],ρ,C,?_|λJ n=>%[_,ρ|?_]]
    .let:rows[d].length=wd:=hw _ (Ya ab)
     lia
    .rw[a.beneath ac m];exact Ft (fin _ (b.trans n))
   lk;rw[if_neg ⋯];show%[r,ρ,C|λp b=>%[_,ρ|?_]];rw[a.row (Z8 m)];exact Ft (go p b)
  .intro I g %[O,U,rfl,Y|j];show k3 _ _ ?_;lk;show%[l,rows,ρ,Jb.of j,by let:=a.sum;lia,a.sign|λl2 p ss b an ae G=>%[_,.inl %[_,Jb.of ae|ρ]|?_]];rw[if_neg]
   .exact k l p (Y.trans b) hl (b l _ j)
   .intro h0;let h0:=Zo h0;rw[Z6]at h0;let:ss=[]:=length_eq_zero_iff.mp ⋯;rw[this]at G;let hm:=G.symm.eq_nil;let%[c|hc]:=List.exists_mem_of_ne_nil _ a.signs_ne;let:sgn c∈aP ((cN rows).map sgn):=bx.mpr (Xl %[c,hc|rfl]);rw[hm]at this;cases this
abbrev q0(p:Nat×Nat):Option ZB:=if p.1≠46/\p.1≠p.2 then some [sgn p.1,sgn p.2]else none
abbrev oQ(u r:Str):List ZB:=(List.zip u.cps.toList r.cps.toList).filterMap q0
def iU(H:Hp):aU H []:=λp a=>by cases a
def aT(h:aU H ps)(s:∀b z,H b&&&z->c b&&&z):aU c ps:=λp a=>%[(h p a).1|s _ _ (h p a).2]
def i9(h:aU H ps)(a:q.2≠[])(b:H q.1&&&q.2\3):aU H (ps++[q]):=λp c=>by
 rcases Xi c with z|z
 .exact h p z
 .rw[Xj z];exact%[a|b]
def vm(a:aU H ps)(b:aU H qs):aU H (ps++qs):=λp c=>(Xi c).elim (a p) (b p)
inductive Er
 | mk (u r:Str):vs=[.str u,.str r]-> ~~~u<=40-> ~~~r= ~~~u->(∀l H' ps,af H H'->H l=none->H' l∣.lst (ps\0)->aU H' ps->ps\2=oQ u r->Q (.ref l) H')->Er vs H Q E0
inductive xM
 | mk (rows:ZB):vs=[.str (Str.join nl rows)]->cm rows->(∀l H' (ss:ZB),af H H'->H l=none->H' l<*ss\3->ss.Perm (aP ((cN rows).map sgn))->Q (.ref l) H')->xM vs H Q E0
def zQ(T:Txt K mg):↥3 "letters" ["text"] xM:=by
 .exists T.b6,wW,d,b,%[rows,rfl,a|e];show%[_,%["JEHG~(AG~)A0BB",0|b],rows,ρ,a|λl q c r g=>%[l,rows,ρ,Jb.of g,by let:=a.sum;lia,a.sign|λi j ss m n o p=>e i j ss (c.trans m) (c.free n) o p]]
def jI(T:Txt K mg):↥1 "meetings_between" ["above","row"] Er:=by
 .exists T.b8,jh,ac,hr,%[u,r,rfl,hu,ae|kk];let ag: ~~~u=u.cps.size:=rfl;let ai: ~~~r=r.cps.size:=rfl;show%[_,%["JEHlb?1~&A0A1BdMV0?2MV1?2euiwKn0~K&Kn01mA0A1B",0,↑(["high","low"],[])|↑["high","low"]]|?_];change iB _ _ [-u,-r] H;lk;show az λab hK=>?_
  lk;show hK _ _ λD N=>?_
  show bR (J:=Itz u r) (n:=u.cps.size) (D:=D) (λi ys O l=>(∃o1 o2,O=[o1,o2])/\af H l/\l D<*ys/\ ~~~ys<=i/\∃ps:ZG,ys=ps\0/\aU l ps/\ps\2=((List.zip u.cps.toList r.cps.toList).take i).filterMap q0)
   %[%[none,none|rfl],af.Ja N,upd_same,Zi _,[],rfl,iU _|rfl] (λi _ _ _ hi _=>%[hi|⋯]) (λ_ _ _ _=>%[Zi _,⋯|.inl rfl]) ?_ ?_
  .intro i ys O l hi %[%[o1,o2|rfl],U,Y,G,ps,I,m|j] x H2 %[c,d,TT,hc,hd,hT,rfl|rfl];let t:=af.Ja (o:= .tup [.str ⟨([c].toArray)⟩,.str ⟨([d].toArray)⟩]) hT;let nx:=vh u r i c d hc hd;let a:=t _ _ Y;let B:Ja l TT (.tup [.str ⟨([c].toArray)⟩,.str ⟨([d].toArray)⟩]) TT&&&[.str ⟨([c].toArray)⟩,.str ⟨([d].toArray)⟩]:=upd_same;let g:aU (Ja l TT (.tup [.str ⟨([c].toArray)⟩,.str ⟨([d].toArray)⟩])) ps:=λp C=>%[(m p C).1|t _ _ (m p C).2]
   let v:=U.trans t
   generalize Ja l TT (.tup [.str ⟨([c].toArray)⟩,.str ⟨([d].toArray)⟩])=HT at t a B g v
   show%[_,SqT.of B,ρ,_,_,ρ,_,_,ρ,ρ|?_];change CA _ _ [some (.str ⟨([c].toArray)⟩),some (.str ⟨([d].toArray)⟩)] HT _;lk;simp only[oO,BY];let aj:D≠TT:=λe=>by rw[e,B]at a;cases a
   show ba (λL=>ba (λM=>?_) λM=>?_) λL=>?_
   .let L:c≠46:=↑L
    let M:c≠d:=↑M
    show%[show 2<=sizeLine from !1|λp C=>?_];let y:=af.Ja (o:= .tup [V.str ⟨([c].toArray)⟩,V.str ⟨([d].toArray)⟩]) C;let al:p≠D:=λe=>by rw[e,a]at C;cases C
    show CK.mk hi (y _ _ a) (aA ⋯) %[%[_,_|rfl],af.set (v.trans y) N,upd_same,by rw[Z9,Yg];lia,ps++[(p,[sgn c,sgn d])],by rw[I,Zd];rfl,?_|?_]
    .let keep:∀b z,Ja HT p _ b&&&z->Ja _ D (.lst (ys++[V.ref p])) b&&&z:=λb z e=>by
      let:b≠D:=λe2=>by rw[e2,y _ _ a]at e;cases e
      rw[am this];exact e
     exact aT (i9 (aT g λb z e=>y _ _ e) ∅ (by rw[upd_same];rfl)) keep
    .rw[Zd,j,<-nx,filterMap_append];let:q0 (c,d)∣[sgn c,sgn d]:=if_pos %[L|M];rw[Y0,this];rfl
   .show CN.mk hi %[%[_,_|rfl],v,a,⋯,ps,I,g|?_];rw[j,<-nx,filterMap_append];let:q0 (c,d)=none:=if_neg λq=>q.2 ↑M
    rw[Y0,this];simp
   .show CN.mk hi %[%[_,_|rfl],v,a,⋯,ps,I,g|?_];rw[j,<-nx,filterMap_append];let:q0 (c,d)=none:=if_neg λq=>q.1 ↑L
    rw[Y0,this];simp
  .intro ys O l %[_,U,Y,G,ps,I,m|j];rw[Zn (by rw[length_zip];simp;lia)]at j;exact kk D l ps U N (by rw[Y,I]) m j
def B0{K:ZA}{xs ys:ZM}{g:TG}{q:TS}{D:jN}(Pv:Nat->St->Hp->Prop)(s:Pv 0 c H)(t: ~~~ys<= ~~~xs)(u:∀i c H,i<= ~~~ys->Pv i c H->Jb K H a xs/\Jb K H b ys)
 (z:∀i x y T c H,xs[i]?∣x->ys[i]?∣y->Pv i c H->H T=none->g (.ref T) c (Ja H T (.tup [x,y])) λd j=>q {D with nx:=Pv (i+1),ct:=Pv (i+1),bk:=D.nx} d j) (A:∀c H,Pv ys.length c H->D.nx c H):
 ∃W:Nat->Nat->St->Hp->Prop,(∃m,W 0 m c H)/\∀i m c H,W i m c H->
  ((zk K a b).stop i H/\D.nx c H)\/((zk K a b).go i H/\∃N:St->Hp->Prop,(∀f h,N f h->∃r,r<m/\W (i+1) r f h)/\∀x h,(zk K a b).yld i H x h->g x c h λd j=>q {D with nx:=N,ct:=N,bk:=D.nx} d j):=by
 show%[λi m c H=>m= ~~~ys-i/\i<= ~~~ys/\Pv i c H,%[~~~ys,by simp,Xa _|s]|?_];intro i m c H %[rfl,hi|p];let%[l|n]:=u i c H hi p;by_cases o:i< ~~~ys
 .let B:xs[i]?∣xs[i]:=by simp[show i< ~~~xs by lia]
  let C:ys[i]?∣ys[i]:=by simp
  show .inr %[%[xs,ys,_,_,l,n,B|C],Pv _,λf h E=>%[~~~ys-(i+1),⋯,rfl,o|E]|λv h y=>?_];let%[T,G,I,J,rfl,rfl,L|M]:=y;exact z i G I T c H (L xs l) (M ys n) p J
 .let e:i= ~~~ys:=by lia
  subst e;exact .inl %[%[xs,ys,l,n,⋯,Zi _|.inr rfl]|A c H p]
abbrev fB(rows:ZB)(i:Nat):List ZB:=(List.range i).flatMap λj=>oQ (rows.getD j ⟨([].toArray)⟩) (rows.getD (j+1) ⟨([].toArray)⟩)
def tz(rows:ZB)(i:Nat):fB rows (i+1)=fB rows i++oQ (rows.getD i ⟨([].toArray)⟩) (rows.getD (i+1) ⟨([].toArray)⟩):=by
 unfold fB;rw[range_succ,flatMap_append];simp
def wY(u r:Str): ~~~(oQ u r)<= ~~~u:=by
 show Nat.le_trans (List.length_filterMap_le _ _) ?_;rw[length_zip];let: ~~~u.cps.toList= ~~~u:=by simp[Str.length]
 lia
def zR(h:k∈fB rows (~~~rows-1)):∃a b,k=[sgn a,sgn b]/\DO rows a b:=by
 let%[j,d|g]:=mem_flatMap.mp h;let f:∀j h,rows.getD j ⟨([].toArray)⟩=rows[j]:=λj h=>by simp[h]
 let d:=mem_range.mp d;let%[%[a|b],i|e]:=mem_filterMap.mp g;unfold q0 at e
 split at e
 .rename_i h
  let%[q|c]:=Xb i;rw[List.getElem?_zip_eq_some,f j ⋯,f _ ⋯]at c;exact%[a,b,(Za e).symm,h.1,h.2,j,q,rows[j],rows[j+1],Z4 _,Z4 _,by simpa using c.1|by simpa using c.2]
 .lia
def zS(g:cm rows)(h:DO rows a b):Let rows a/\Let rows b:=by
 let%[n1,l,i,j,r,c,d,f,g1|g2]:=h;show%[%[n1,r,Z8 d|Z8 ↑g1],λe=>n1 (g.fall i r c d f j a b g1 g2 e),c,Z8 f|Z8 ↑g2]
def zT(rows:ZB)(h:rows≠[]):rL (rows\3) (some 1) none=(rows.drop 1)\3:=by
 unfold rL;rw[_HT.sIx_none,show(some (1))∣((1:Nat):Int)from rfl,_HT.sIx_nat,Z6,min_eq_left (length_pos_iff.mpr h),<-map_drop,<-map_take];rw[Zn (Yd▸Zi _)]
inductive xN
 | mk (rows:ZB):vs=[.str (Str.join nl rows)]->cm rows->zI rows->(∀l H' ss,af H H'->H l=none->H' l∣.lst (ss\0)->aU H' ss-> ~~~ss<=26->(∀t∈ss,∃a b,t.2=[sgn a,sgn b]/\Let rows a/\Let rows b)->(∀k,k∈ss\2↔k∈fB rows (~~~rows-1))->Q (.ref l) H')->xN vs H Q E0
def wZ(T:Txt K mg):↥3 "meetings" ["text"] xN:=by
 show T.b7.cal dS (λH vs Q E h=>?_)
 .let%[rows,rfl,c,%[mm,ml|a4]|kk]:=h;show%[ρ|λf bn A outer s hr=>?_];let%[wd,w1,w2|Y]:=c.wide;let hp:1<= ~~~rows:=c.pos;let bf:=c.high;let a5:rows≠[]:=length_pos_iff.mp hp;show%[_,%["JDI1G~)A0BDI2TBDU]GA1A~B1'C~DBdML3ML4eEZ~g~h2AG]HA3A4BBEH=~*A~L~+A2BB",dS.nd|hr]|?_]
  change a9 _ _ _ [some (.str (Str.join nl rows)),none,none,none,none] H;show ak λD1 k1 r1=>?_
  lk;show%[rows,ρ,c|λR H1 s1 f1 hR=>k1 _ _ (ak λD2 k2 r2=>?_)];lk;show%[Xa _|λL hL=>k2 _ _ (ak λD3 k3 r3=>ay λbl hK=>?_)];let s2:=af.Ja (o:= .lst []) hL;let C:=s2 _ _ hR;let G:Ja H1 L (.lst []) L<*[]:=upd_same;let fL:H L=none:=s1.free hL;let ab:=s1.trans s2
  generalize Ja H1 L (.lst [])=H2 at s2 C G ab
  lk;show%[_,Jb.of C|λp hp=>?_];rw[zT rows a5];let s3:=af.Ja (o:= .lst ((rows.drop 1)\3)) hp;let I:=s3 _ _ C;let ac:=s3 _ _ G;let J:Ja H2 p (.lst ((rows.drop 1)\3)) p<*(rows.drop 1)\3:=upd_same;let ae:=ab.trans s3;let a6:L≠R:=λe=>by rw[e,hR]at hL;cases hL
  let a7:p≠L:=λe=>by rw[e,G]at hp;cases hp
  generalize Ja H2 p (.lst ((rows.drop 1)\3))=H3 at s3 I ac J ae
  show%[%[_|Jb.of I],%[_|Jb.of J]|hK _ _ (B0 (xs:=rows\3) (ys:=(rows.drop 1)\3) (λi σ l=>(∃o3 o4,σ=[some (.str (Str.join nl rows)),!R,!L,o3,o4])/\af H l/\l R<*rows\3/\l p<*(rows.drop 1)\3/\
   ∃ps:ZG,l L∣.lst (ps\0)/\aU l ps/\ps\2=fB rows i/\ ~~~ps<=40*i) %[%[none,none|ρ],ae,I,J,[],ac,iU _,ρ|Xa _] (by rw[Z6,Z6,Yd];lia) (λi σ l _ q=>%[Jb.of q.2.2.1|Jb.of q.2.2.2.1]) ?_ ?_)]
  .intro i x y TT σ l hx hy %[%[o3,o4|rfl],sm,ag,ai,ps,M,g,n|aj] hT;rw[Zl]at hx hy;let%[u,hu|rfl]:=map_eq_some_iff.mp hx;let%[r,v|rfl]:=map_eq_some_iff.mp hy;rw[getElem?_drop,Nat.add_comm]at v;let bp:i+1< ~~~rows:=(Xh v).1;let ul: ~~~u=wd:=Y u (Z8 hu);let rl: ~~~r=wd:=Y r (Z8 v);let j:=af.Ja (o:= .tup [V.str u,V.str r]) hT;let al:Ja l TT (.tup [V.str u,V.str r]) TT&&&[V.str u,V.str r]:=upd_same;let an:=j _ _ ag;let as:=j _ _ ai;let t:=j _ _ M;let B:aU (Ja l TT (.tup [V.str u,V.str r])) ps:=aT g λb z e=>j _ _ e
   let a0:=sm.trans j
   generalize Ja l TT (.tup [V.str u,V.str r])=HT at j al an as t B a0
   show%[_,SqT.of al,ρ,_,_,ρ,_,_,ρ,ρ|?_];show aB λD4 k4 r4=>?_
   lk;show%[tyL (Jb.of t),u,r,ρ,⋯,⋯|λl4 H4 ps4 U f4 h4 a1 e4=>?_];let bt:l4≠L:=λe=>by rw[e,t]at f4;cases f4
   let bm: ~~~ps4<=40:=by
    let: ~~~(ps4\2)= ~~~(oQ u r):=by rw[e4]
    rw[Z6]at this;let:=wY u r
    lia
   show%[_,ρ,_,U _ _ t,_,h4,by rw[Z6,Z6];exact aV ⋯|k4 _ _ ?_];let N:∀b z,H4 b&&&z->Ja H4 L (.lst ((ps\0) ++ps4\0)) b&&&z:=λb z e=>by
    let:b≠L:=λe2=>by rw[e2,U _ _ t]at e;cases e
    rw[am this];exact e
   let bb:R≠L:=Ne.symm a6;show%[%[_,_|ρ],λb u' e=>?_,(am bb)▸U _ _ an,(am a7)▸U _ _ as,ps++ps4,by rw[upd_same,Zd],aT (vm (aT B λb z e=>U _ _ e) a1) N,?_|by rw[Z9];lia]
   .rw[am (aC e fL)];exact U _ _ (a0 _ _ e)
   .rw[Zd,n,e4,tz];let g1:rows.getD i ⟨([].toArray)⟩=u:=by rw[Zc,hu];rfl
    let g2:rows.getD (i+1) ⟨([].toArray)⟩=r:=by rw[Zc,v];rfl
    rw[g1,g2]
  .intro σ l %[%[o3,o4|rfl],sm,ag,ai,ps,M,g,n|aj];rw[Z6,Yd]at n;show k3 _ _ ?_;lk;let O:∀q∈ps,∃a b,q.2=[sgn a,sgn b]/\DO rows a b:=λq d=>zR (n▸Xl %[q,d|rfl])
   let a2:∀q∈ps,q.2∈mm:=λq d=>by
    let%[a,b,e|h]:=O q d;rw[e];exact a4 a b h
   show%[ps,Jb.of M,g,%[mm,⋯|a2]|λl5 bc=>?_];let s5:=af.Ja (o:=oo P w l5 (bz ps)) bc;let bd: ~~~(bz ps)<=26:=by
    let:=_ST.nodup_sub (dL ps) (m:=mm) λk hk=>by
     let%[q,d|rfl]:=Xk hk;exact a2 q (bv ps q d)
    rw[Z6]at this
    lia
   show%[bz ps,upd_same,λq d=>%[(g q (bv ps q d)).1|s5 _ _ (g q (bv ps q d)).2],2,λq d=>?_,!1,⋯|λl6 ss a3 pm=>?_]
   .let%[a,b,e|_]:=O q (bv ps q d);rw[e];rfl
   let s6:=af.Ja (o:= .lst (ss\0)) a3;show kk l6 _ ss ((sm.trans s5).trans s6) ((sm.trans s5).free a3) upd_same (λq d=>?_) (pm.length_eq▸bd) (λq d=>?_) λk=>?_
   .let:=g q (bv ps q (pm.mem_iff.mp d));exact%[this.1|s6 _ _ (s5 _ _ this.2)]
   .let%[a,b,e|h]:=O q (bv ps q (pm.mem_iff.mp d));exact%[a,b,e|zS c h]
   .rw[(pm.map _).mem_iff,gJ,n]
abbrev d6(z:Str):Bool:=(decide (1<=(~~~z:Int))&&decide ((~~~z:Int)<=8))&&z.cps.toList.all ik
inductive oR
 | mk (z:Str):vs=[.str z]->d6 z=true->(∀H',af H H'->Q (.bl true) H')->oR vs H Q E0
inductive vo (K:ZA)
 | mk (z:Str) (p:Addr) (ts:ZB):vs=[.str z,.ref p]->(Jb K H p (ts\3)\/SqT K H p (ts\3))->Q (.bl (decide (z∈ts))) H->vo K vs H Q E0
inductive oS
 | mk (i:Int):vs=[.int i]-> -9999<=i->i<=9999->Q (.bl true) H->oS vs H Q E0
abbrev oU(c:ZB)(vs:ZM):Prop:=
 (∃w a b:Str,vs=[.str w,.str a,.str b]/\(w="later"\/w="same")/\a∈c/\b∈c/\a≠b)\/
 ∃w a y,vs=[.str w,.str a,.int y]/\(w="since"\/w="by")/\a∈c/\ -9999<=y/\y<=9999
inductive kK (K:ZA)
 | mk (t p xs ls):vs=[.ref t,.ref p]->H t&&&xs->Jb K H p (ls\3)->oU ls xs->Q (.bl true) H->kK K vs H Q E0
abbrev lnS(n z:Str):Str:=Str.empty++n++Str.ofString "."++z
inductive jw
 | mk (n z:Str):vs=[.str n,.str z]-> ~~~n<=100-> ~~~z<=100->Q (.str (lnS n z)) H->jw vs H Q E0
def DR(z:Str)(ts:ZB):inV (V.str z) (ts\3)=decide (z∈ts):=by
 unfold inV
 induction ts with
 | nil=>rfl
 | cons c r a=>
   change((c==z)||_)=_
   grind
def zU(ts:ZB):(ts\3).all fJ=true:=by simp[fJ]
def zV(T:Txt K mg):↥1 "is_name" ["thing"] oR:=by
 .exists T.b1,wV,u,M,%[z,rfl,y|k];show%[_,%["JDOxq./A0A?1BEHpPEH!~a~C~CCXYA0B]I$~b~cAlb?2~d0V0?3vt~J0~%B",0,(blE (v:= .ty "str") rfl T.ab boot_str rfl rfl rfl),↑(["sign"],[])|↑["sign"]]|?_]
  change a9 _ _ _ [-z] H;let a:=y;unfold d6 at a;rw[Zw,Zw]at a;let%[%[B|q]|b]:=a;let N: ~~~z<=8:=by let:=Zo q;lia
  lk;show%[.type "str",.str z,true,by rfl|?_];lk;show%[aV ⋯|?_];rw[if_pos B,if_pos q];show az λr C=>?_
  lk;show C _ _ λD t=>?_
  show bR (J:=Its z) (n:=z.cps.size) (D:=D) (λi ys l d=>(∃o,l=[o])/\af H d/\d D<*ys/\ys=(z.cps.toList.take i).map (λc=>V.bl (ik c))) %[%[none|rfl],af.Ja t,upd_same|rfl]
   (λi _ _ _ hi _=>hi) (λ_ _ _ _=>Zi _) ?_ ?_
  .intro i ys l d hi %[%[o|rfl],m,p|g] x O %[G,c,I|rfl];subst G;lk;let j: ~~~ys=i:=by
    rw[g,Z6,Yh];let: ~~~z.cps.toList=z.cps.size:=by simp
    lia
   let L:i<1000:=by
    let: ~~~z=z.cps.size:=rfl
    lia
   show CK.mk hi p (j▸aA ⋯) %[%[_|rfl],af.set m t,upd_same|?_];rw[AO,g,<-i8 z i c I,Zd]
   all_goals rfl
  .intro ys l d %[_,m,p|g];show%[D,ρ,(z.cps.toList.map ik),?_|?_]
   .let e:z.cps.toList.take z.cps.size=z.cps.toList:=by
     apply Zn;simp
    rw[e]at g;let:(z.cps.toList.map ik).map V.bl=ys:=by rw[g,Yn];rfl
    rw[this];exact Jb.of p
   .let e:(z.cps.toList.map ik).all id=true:=by
     rw[all_map];exact b
    rw[e];exact k d m
def cw(T:Txt K mg):↥1 "is_text_among" ["thing","texts"] (vo K):=by
 .exists T.be,lH,a,c,%[z,p,ts,rfl,b|k];show%[_,%["JEH!./A0A?1B$t~J01",0|(blE (v:= .ty "str") rfl T.ab boot_str rfl rfl rfl)]|?_];change iB _ _ [some _,some _] H;lk;show%[.type _,.str z,true,by rfl|?_];rw[<-DR]at k;exact%[_,b,ρ,zU ts|k]
def zW(T:Txt K mg):↥1 "is_year" ["thing"] oS:=by
 .exists T.bf,wX,a,d,%[i,rfl,b,c|k];show%[_,%["JDOi%xq./A0A?1B(q./A0A?2BEHpPEH~a~C~C]J0]K",0,(blE (v:= .ty "int") rfl T.ah boot_int rfl rfl rfl)|(blE (v:= .ty "bool") rfl T.ai PyProof.Rows.boot_bool rfl rfl rfl)]|?_]
  change a9 _ _ _ [some (.int i)] H;lk;show%[.type _,.int i,true,by rfl,.type _,.int i,false,by rfl|?_];rw[if_pos (Zf b),Zf c];exact k
def gU(T:Txt K mg):↥1 "layer_name" ["name","letter"] jw:=by
 .exists T.bg,pY,c,i,%[n,z,rfl,j,l|k];show%[_,%["JEH~,~N~i0~Nc~N~i1~."|0]|?_];change iB _ _ [-n,some _] H;lk;let e:∀a b:Str,~~~(a++b)= ~~~a+ ~~~b:=λa b=>size_append
  let d:Str.empty.length=0:=rfl;let g:(!".").length=1:=rfl;let le:∀k,k<=1000->k<=sizeLine:=λk m=>aV ⋯
  show%[le _ ⋯,le _ ?_,le _ ?_,le _ ⋯,le _ ?_,le _ ?_|k]<;> simp only[e,d,g]<;> lia
def vp(T:Txt K mg):↥2 "is_saying" ["thing","layers"] (kK K):=by
 .exists T.bd,sZ,n,c,%[t,p,xs,e,rfl,m,g,ok|k];show%[_,%["JDOi%xq./A0A?1B(KnXYA0BCEHpPDOqG~OAQ0CA]LBEH!G~OAQ0CA1B!G~OAQ0CA1B$tnQ0CQ0CPDOqG~OAQ0CA]MBEH!G~OAQ0CA1B$G]NAQ0CBPEHp",0,(blE (v:= .ty "tuple") rfl T.ag boot_tuple rfl rfl rfl)|c]|?_]
  change a9 _ _ _ [!t,!p] H;lk;show%[.type "tuple",.tup m,true,by rfl|?_];let st:=SqT.of (K:=K) m;rcases ok with⟨wd,a,b,rfl,hw,i,o,j⟩|⟨wd,a,y,rfl,hw,i,r,u⟩
  .let l:decide (wd∈([!"later",!"same"]:ZB))=true:=by rcases hw with rfl|rfl<;> decide
   lk;show%[3,.inr %[_,st|ρ]|?_];rw[if_neg (!1)];show%[_,st,_,ρ|λq d=>%[wd,q,[!"later",!"same"],ρ,.inr (d H),_,ρ|?_]];rw[l];lk;show%[_,st,_,ρ,a,p,e,ρ,.inl g,_,ρ|?_];rw[Zf i];lk;show%[_,st,_,ρ,b,p,e,ρ,.inl g,_,ρ|?_];rw[Zf o];lk;show%[_,st,_,ρ,_,st,_,ρ,ρ|?_];rw[show(!decide (V.str a=V.str b))=true from by simp[j]];exact k
  .let l:decide (wd∈([!"later",!"same"]:ZB))=false:=by rcases hw with rfl|rfl<;> decide
   let z:decide (wd∈([!"since",!"by"]:ZB))=true:=by rcases hw with rfl|rfl<;> decide
   lk;show%[3,.inr %[_,st|ρ]|?_];rw[if_neg (!1)];show%[_,st,_,ρ|λq d=>%[wd,q,[!"later",!"same"],ρ,.inr (d H),_,ρ|?_]];rw[l];lk;show%[_,st,_,ρ|λq d=>%[wd,q,[!"since",!"by"],ρ,.inr (d H),_,ρ|?_]];rw[z];lk;show%[_,st,_,ρ,a,p,e,ρ,.inl g,_,ρ|?_];rw[Zf i];lk;exact%[_,st,_,ρ,y,ρ,r,u|k]
abbrev nmC(b a k j:Nat):Nat:=97+(b+5*j*j+k*(if j=a then 1 else 0))%26
abbrev nmS(b a k s:Nat):Str:=⟨((List.range s).map (nmC b a k)).toArray⟩
def tD(b a k s:Nat): ~~~(nmS b a k s)=s:=by
 change((List.range s).map _).toArray.size=s;simp
def B1{b a k s:Nat}(e:1<=s)(f:s<=8):d6 (nmS b a k s)=true:=by
 let all:∀i:Fin 26,ik (97+i.1)=true:=!0
 unfold d6;rw[tD];simp only[Zw,decide_eq_true_eq,all_eq_true];show%[%[⋯|⋯]|λc d=>?_];let%[j,_|rfl]:=Xk (show c∈(List.range s).map (nmC b a k)from d);exact all %[_|mod_lt _ (!1)]
def Gg{b a k c s s':Nat}(h:a<s)(d:a<s')(g:k<4)(f:c<4)(e:nmS b a k s=nmS b a c s'):k=c:=by
 let e:(List.range s).map (nmC b a k)=(List.range s').map (nmC b a c):=congrArg (λz:Str=>z.cps.toList) e;let e:=congrArg (·[a]?) e;simp only[Zl,getElem?_range h,getElem?_range d,map_some,Option.some.injEq,nmC,if_true]at e
 generalize b+5*a*a=m at e
 lia
def xO(b a k s:Nat)(h:a<s):Txt.slice (nmS b a k s) none (some ((a:Int) +1))=nmS b a k (a+1):=by
 rw[beq_iff_eq.mp (PyProof.Rows.slice_closes_toL (x:=nmS b a k s) (j:=(a:Int) +1) ⋯ (by rw[tD];lia))];show gF ?_;change((((List.range s).map (nmC b a k)).drop 0).take ((a:Int) +1-0).toNat)=(List.range (a+1)).map (nmC b a k);rw[drop_zero,<-map_take,List.take_range,show min ((a:Int) +1-0).toNat s=a+1 by lia]
abbrev Nm4(a:ZB):Prop:= ~~~a=4/\a.Nodup/\∀z∈a,d6 z=true
def B2{b a:Nat}{s:Nat->Nat}(h:∀k<4,a<s k/\s k<=8):Nm4 ((List.range 4).map λk=>nmS b a k (s k)):=by
 show%[by simp,?_|λz f=>?_]
 .rw[Yx,X3];show Xc (λ{x y} c d e g=>e ?_) (nodup_iff_pairwise_ne.mp (nodup_range (n:=4)));rw[mem_range]at c d;exact Gg (h x c).1 (h y d).1 c d g
 .let%[k,i|rfl]:=Xk f;let:=h k (mem_range.mp i);exact B1 ⋯ this.2
inductive B3
 | mk (n:Int):vs=[.int n]->0<=n->n<9973->(∀l H' (ms:ZB),af H H'->H l=none->H' l<*ms\3->Nm4 ms->Q (.ref l) H')->B3 vs H Q E0
def vq(T:Txt K mg):↥1 "_law_names" ["_law_number"] B3:=by
 .exists T.bv,bG,ab,hr,%[n,rfl,n0,n1|N];let%[n|rfl]:=Xd n0;show%[_,%["JDI1FfCFW0CDI2FWFo0C1DI3TBDU)ACBL4DI5TBDU)A1BL6DI7FfFfFo0CFrFrC66F]O4~z~!Ata62BEZsk5A~ycFW7CBEZsk3A~S~TcA5BBDOKaFWFo0CCCEI3TAR3CA~/R3C~D'Ff2CAR3CA~/R3C~D'Ff2CBPEH3"|bG.nd]|?_]
  change a9 _ _ _ [some (.int n),none,none,none,none,none,none,none] H;show ak λD1 k1 _=>?_
  lk;show%[!1|k1 _ _ (ak λD2 k2 _=>?_)];obtain⟨sz,es,s1,s8⟩:∃sz:Nat,1+(n:Int)%8=sz/\1<=sz/\sz<=8:=%[1+n%8,(by lia -verbose),(by lia -verbose)|(by lia -verbose)]
  rw[es];lk;show%[%[!1|!1],(by lia -verbose)|k2 _ _ (ak λD3 k3 _=>?_)];obtain⟨a,ea,B⟩:∃a:Nat,(n:Int)/8%sz=a/\a<sz:=%[n/8%sz,by simp|mod_lt _ (by lia -verbose)]
  rw[ea];lk;show%[Xa _|λL C=>k3 _ _ (ak λD4 k4 _=>ay λq G=>?_)];lk;show%[!1,!1|G _ _ (eA (λi o r=>∃I v m d,o=[some (.int n),some (.int sz),some (.int a),!L,I,v,m,d]/\af H r/\r L∣.lst (((List.range i).map λk=>nmS (n/64) a k sz)\3))
   %[_,_,_,_,ρ,af.Ja C|upd_same] ?_ ?_)]
  .intro i o t hi %[I,v,m,d,rfl,c|b];change a9 _ _ _ [some (.int n),some (.int sz),some (.int a),!L,some (.int (0+i)),v,m,d] t;rw[Int.zero_add];show ak λD5 y _=>?_
   lk;show%[Xa _|λM O=>y _ _ (ak λD6 k6 _=>ay λq G=>?_)];lk;show%[(by lia -verbose),(by lia -verbose)|G _ _ (eA (λj o r=>∃m d,o=[some (.int n),some (.int sz),some (.int a),!L,some (.int i),!M,m,d]/\af t r/\r M∣.lst (((List.range j).map λj=>sgn (nmC (n/64) a i j))\3))
    %[_,_,ρ,af.Ja O|upd_same] ?_ ?_)]
   .intro j o U hj %[m,d,rfl,g|l];change a9 _ _ _ [some (.int n),some (.int sz),some (.int a),!L,some (.int i),!M,some (.int (0+j)),d] U;rw[Int.zero_add];show ak λD7 J _=>?_
    lk;show%[%[!1|!1],.inl %[!1|!1],.inr %[(by lia -verbose)|(by lia -verbose)],.inr %[by split<;> decide|by split<;> decide]|J _ _ (aB λD8 k8 _=>?_)];let e:(n:Int)/64+5*j*j+i*(if decide ((j:Int)=a)=true then 1 else 0)=((n/64+5*j*j+i*(if j=a then 1 else 0):Nat):Int):=by
     by_cases h:j=a
     .simp[h]
     .simp[h,show ¬ (j:Int)=a by lia -verbose]
    rw[e]
    generalize z:n/64+5*j*j+i*(if j=a then 1 else 0)=p
    lk;show%[tyL (Jb.of l),!1,#[26],_,BX (by lia -verbose) (by lia -verbose),_,l,by rw[Z6,Z6,Yf];exact aA (by lia -verbose)|k8 _ _ %[_,_,ρ,af.set g O|?_]];rw[upd_same,range_succ,Zd,Zd];let:97+((p:Int)%26).toNat=nmC (n/64) a i j:=by
     unfold nmC;rw[z]
     lia -verbose
    rw[this];rfl
   .intro o U %[m,d,rfl,g|l];show k6 _ _ (aB λD7 J _=>?_);lk;let u:=g _ _ b;let e:(List.range (Int.toNat sz)).map (λj=>sgn (nmC (n/64) a i j))=((List.range sz).map (nmC (n/64) a i)).map sgn:=by rw[Yn];rfl
    show%[tyL (Jb.of u),((List.range sz).map (nmC (n/64) a i)).map sgn,Jb.of (by rw[<-e];simpa using l),?_,_,u,by rw[Z6,Z6,Yf];exact aA (by lia -verbose)|J _ _ %[_,_,_,_,ρ,af.set (c.trans g) C|?_]]
    .rw[sA,Z6,Z6,Yf,show(!"").length=0 from rfl]
     lia -verbose
    .rw[upd_same,range_succ,Zd,Zd,show Txt.join (!"") (((List.range sz).map (nmC (n/64) a i)).map sgn)=Str.join (!"") (((List.range sz).map (nmC (n/64) a i)).map sgn)from StrLaws.glued_eq_join _ _,nT];rfl
  .intro o t %[I,v,m,d,rfl,c|b];show k4 _ _ (ak λD5 y _=>?_);let b:t L<*[.str (nmS (n/64) a 0 sz),.str (nmS (n/64) a 1 sz),.str (nmS (n/64) a 2 sz),.str (nmS (n/64) a 3 sz)]:=b;lk;let Y:∀k,~~~(nmS (n/64) a k sz)<=sizeLine:=λk=>by rw[tD];exact aV (by lia -verbose)
   show%[%[!1|!1],!1|ba (λ_=>?_) λ_=>?_]
   .show%[_,Jb.of b,_,ρ,_,Jb.of b,_,ρ,_,ρ,Y 1,_,Jb.of b,_,ρ,_,Jb.of b,_,ρ,_,ρ,Y 3,#[4]|λp z=>y _ _ ?_];rw[xO _ _ _ _ B,xO _ _ _ _ B];lk;exact N p _ ((List.range 4).map λk=>nmS (n/64) a k (if k%2=1 then a+1 else sz)) (c.trans (af.Ja z)) (c.free z) upd_same (B2 (s:=λk=>if k%2=1 then a+1 else sz) λk hk=>by split<;> exact%[(by lia -verbose)|(by lia -verbose)])
   .show y _ _ ?_;lk;exact N L t ((List.range 4).map λk=>nmS (n/64) a k sz) c C b (B2 (s:=λ_=>sz) λk hk=>%[B|s8])
abbrev ci(H:Hp)(a:ZH):Prop:=∀p∈a,H p.1&&&[.str p.2.1,.str (Str.join nl p.2.2)]/\d6 p.2.1=true/\cm p.2.2
def ci.up(h:ci H b)(s:af H c):ci c b:=λp a=>%[s _ _ (h p a).1|(h p a).2]
inductive rc
 | mk (rows:ZB):vs=[.str (Str.join nl rows)]->cm rows->(∀H',af H H'->Q (.bl true) H')->rc vs H Q E0
inductive vt
 | mk (p:Addr×Str×ZB):vs=[.ref p.1]->ci H [p]->(∀H',af H H'->Q (.bl true) H')->vt vs H Q E0
abbrev cP(a:ZH):ZM:=a\0
inductive jx
 | mk (l cs):vs=[.ref l]->H l<*cP cs->ci H cs->(cs.map λp=>p.2.1).Nodup->1<= ~~~cs-> ~~~cs<=8->(∀H',af H H'->Q .non H')->jx vs H Q E0
abbrev cU(H:Hp)(a:ZB)(qs:ZN):Prop:=∀q∈qs,H q.1&&&q.2/\oU a q.2
def cU.up(h:cU H b qs)(s:af H c):cU c b qs:=λp a=>%[s _ _ (h p a).1|(h p a).2]
inductive fY (K:ZA)
 | mk (l r ls qs):vs=[.ref l,.ref r]->H l∣.lst (qs\0)->H r<*ls\3->cU H ls qs-> ~~~qs<=60->(∀H',af H H'->Q .non H')->fY K vs H Q E0
def B4(T:Txt K mg):↥3 "is_cut" ["thing"] rc:=by
 .exists T.bb,zL,b,c,%[rows,rfl,a|k];show%[_,(QSs.h (ah (tryN (λ_ _ h=>h) (ar (bS rfl (aG (lJ T) c rfl #[↑0]))))
   (ar (aJ eBl))))|?_]
  change a9 _ _ _ [some (.str (Str.join nl rows))] H;lk;exact%[rows,ρ,a|λl d e g i=>k d e]
def oV(T:Txt K mg):↥4 "is_named_cut" ["thing"] vt:=by
 .exists T.ba,mV,e,c,%[p,rfl,g|k];let%[b,i|a]:=g p (mem_singleton.mpr rfl);show%[_,%["JEH!./A0A?1B!taXYA0BC!G]PAQ0CB$G]QAQ0CB",0,(blE (v:= .ty "tuple") rfl T.ag boot_tuple rfl rfl rfl)|c]|?_];change iB _ _ [some _] H;lk;show%[.type _,.tup b,true,by rfl|?_];let st:=SqT.of (K:=K) b;show%[2,.inr %[_,st|ρ],_,st,_,ρ,p.2.1,ρ,i|λm d=>?_];lk;exact%[_,SqT.of (d _ _ b),_,ρ,p.2.2,ρ,a|λj l=>k j (d.trans l)]
def tE(T:Txt K mg):↥5 "check_cuts" ["cuts"] jx:=by
 .exists T.b9,dM,ai,J,%[l,c,rfl,C,L,M,h1,h8|k];let u: ~~~(cP c)= ~~~c:=Z6 _;show%[_,%["JDOi%xq./A0A?1B(KaXYA0BCE:PDI1yEU~MA0BdML2ML3eDOi%Ka2]R%xqG]SA3B(~:Q3C1E:PEzp1Q3C",dM.nd,(blE (v:= .ty "list") rfl T.a6 boot_list rfl rfl rfl)|J]|?_]
  change a9 _ _ _ [!l,none,none,none] H;show ak λD1 k1 _=>?_
  lk;show%[.type "list",.lst C,true,by rfl|?_];lk;show%[~~~c,.inl %[_,Jb.of C|u.symm]|?_];rw[if_neg (by simp only[decide_eq_true_eq];lia)];show k1 _ _ (ak λD2 k2 _=>?_);lk;show λd N=>k2 _ _ (aB λD3 k3 _=>ay λag hK=>?_)
  lk;show%[_,Jb.of (af.Ja N _ _ C)|hK _ _ (jW (λi G g=>∃O U a,G=[!l,!d,O,U]/\af H g/\g d∣.dK a/\a\1=(c.take i).map λp=>Sum.inr p.2.1) %[none,none,[],ρ,af.Ja N,upd_same|ρ] (λi G g _ ⟨_,_,_,_,q,_⟩=>Jb.of (q _ _ C)) ?_ ?_)]
  .intro i x TT G g I %[O,U,a,rfl,Y,y|m] hT;let hi:i< ~~~c:=u▸(Xh I).1;obtain⟨q,hq,rfl⟩:∃q,c[i]?∣q/\x=V.ref q.1:=by
    unfold cP at I;rw[Zl,Z4 hi]at I;exact%[c[i],Z4 hi|(Za I).symm]
   let b:af H (Ja g TT (.tup [.int i,.ref q.1])):=Y.trans (af.Ja hT);let z:Ja g TT (.tup [.int i,.ref q.1]) TT&&&[.int i,.ref q.1]:=upd_same;let t:=af.Ja (o:= .tup [.int i,.ref q.1]) hT _ _ y
   generalize Ja g TT (.tup [.int i,.ref q.1])=HT at b t z
   let n:=L q (Z8 hq);show%[_,SqT.of z,ρ,_,_,ρ,_,_,ρ,ρ|?_];change a9 _ _ _ [!l,!d,some (.int i),some (.ref q.1)] HT;show ak λD4 k4 _=>?_
   lk;rw[if_neg (by simp only[decide_eq_true_eq];lia)];show%[q,ρ,λp hp=>(Xj hp)▸%[b _ _ n.1|n.2]|λH2 B=>%[true,ρ|?_]];rw[if_neg ∅];let r:(Sum.inr q.2.1:Key)∉a\1:=by
    rw[m];intro hm;let%[q',ab|e]:=Xk hm;let e:q'.2.1=q.2.1:=Sum.inr.inj e;let%[j|hj]:=Xb ab;let ac:j<i:=by
     let:=(Xh hj).1;rw[Yh]at this
     lia
    rw[Y9 ac]at hj;let n1:(c.map λp=>p.2.1)[j]?∣q.2.1:=by rw[Zl,hj,<-e];rfl
    let:=jM M n1 (by rw[Zl,hq];rfl)
    lia
   show%[_,SqT.of (B _ _ (b _ _ n.1)),_,ρ,_,cE.k (k:=Sum.inr q.2.1) (B _ _ t)|?_];let hv:bu a (Sum.inr q.2.1:Key)=none:=by
    cases e:bu a (Sum.inr q.2.1:Key)with
    | none=>rfl
    | some v=>exact absurd (Dc e) r
   rw[hv,if_neg ∅];show k4 _ _ (aB λD5 k5 _=>?_);lk;let ae: ~~~a=i:=by
    let:=congrArg List.length m;rw[Z6,Z6,Yh]at this
    lia
   show%[_,SqT.of (B _ _ (b _ _ n.1)),_,ρ,_,je.k (k:=Sum.inr q.2.1) (B _ _ t) (ae▸aA ⋯)|k5 _ _ %[_,_,_,ρ,af.set (b.trans B) N,upd_same|?_]];rw[zq,if_neg r,m,X6,Zd,hq];rfl
  .intro G g %[O,U,a,rfl,Y,y|m];exact k3 _ _ (k g Y)
def mW(T:Txt K mg):↥3 "check_sayings" ["sayings","layers"] (fY K):=by
 .exists T.bc,dD,z,B,%[l,r,u,qs,rfl,g,j,m,C|k];show%[_,%["JDOxq./A0A?1BE:PEU~MA0BdML2ML3eEOi%Ka2]T(xqG]UA3A1BE:P",dD.nd,(blE (v:= .ty "list") rfl T.a6 boot_list rfl rfl rfl)|B]|?_]
  change a9 _ _ _ [!l,!r,none,none] H;show ak λN k1 _=>?_
  lk;show%[.type "list",.lst g,true,by rfl|?_];lk;show k1 _ _ (aB λO G _=>ay λy I=>?_);lk;show%[_,Jb.of g|I _ _ (jW (λi e b=>∃n o,e=[!l,!r,n,o]/\af H b) %[none,none,ρ|af.refl H] (λi e b _ ⟨_,_,_,q⟩=>Jb.of (q _ _ g)) ?_ ?_)]
  .intro i x TT e b p %[n,o,rfl|t] J;let hi:i< ~~~qs:=(Z6 _)▸(Xh p).1;obtain⟨q,L,rfl⟩:∃q,qs[i]?∣q/\x=V.ref q.1:=by
    rw[Zl,Z4 hi]at p;exact%[qs[i],Z4 hi|(Za p).symm]
   let a:af H (Ja b TT (.tup [.int i,.ref q.1])):=t.trans (af.Ja J);let c:Ja b TT (.tup [.int i,.ref q.1]) TT&&&[.int i,.ref q.1]:=upd_same
   generalize Ja b TT (.tup [.int i,.ref q.1])=HT at a c
   let d:=m q (Z8 L);show%[_,SqT.of c,ρ,_,_,ρ,_,_,ρ,ρ|?_];change mL _ _ _ _ [!l,!r,some (.int i),some (.ref q.1)] HT;show aB λU M _=>?_
   lk;rw[if_neg ⋯];show%[q.1,r,q.2,u,ρ,a _ _ d.1,Jb.of (a _ _ j),d.2,true,ρ|?_];rw[if_neg ∅];exact M _ _ %[_,_,rfl|a]
  .intro e b %[n,o,rfl|t];exact G _ _ (k b t)
abbrev lyr(p:Addr×Str×ZB):ZB:=(aP ((cN p.2.2).map sgn)).map (lnS p.2.1)
inductive kL
 | mk (l cs):vs=[.ref l]->H l<*cP cs->ci H cs-> ~~~cs<=4-> ~~~(cs.flatMap lyr)<=63->(∀r H' (ls:ZB),af H H'->H r=none->H' r<*ls\3->ls.Perm (cs.flatMap lyr)->ls.Pairwise (λa b=>aS b a=false)->Q (.ref r) H')->kL vs H Q E0
abbrev d8(c:ZB)(k:ZB):Prop:=∃a b z,k=[a,b,z]/\a∈c/\b∈c
abbrev Sml(z:Str):Prop:= ~~~z<=30/\∀c∈z.cps.toList,c<16^8
abbrev zX(a:ZB)(k:ZB):Prop:=d8 a k/\∀z∈k,Sml z
def vv(h:d6 z=true):Sml z:=by
 unfold d6 at h;rw[Zw,Zw]at h;show%[⋯|λc a=>?_];let:=(lv.mp (all_eq_true.mp h.2 c a)).2
 lia
def Sml.app{a b:Str}(f:∀c∈a.cps.toList,c<16^8)(g:∀c∈b.cps.toList,c<16^8):∀c∈(a++b).cps.toList,c<16^8:=λc d=>by
 let e:(a++b).cps.toList=a.cps.toList++b.cps.toList:=X9;rw[e]at d;exact(Xi d).elim (f c) (g c)
def DS(h:c<1000):∀x∈(sgn c).cps.toList,x<16^8:=λx a=>by
 let e:=by simpa [sgn]using a
 lia
def lK{c:Nat}(h:d6 n=true)(d:c<1000):Sml (lnS n (sgn c)):=by
 let e:∀a b:Str,~~~(a++b)= ~~~a+ ~~~b:=λa b=>size_append
 let l: ~~~n<=8:=by
  unfold d6 at h
  grind
 show%[?_|Sml.app (Sml.app (Sml.app (λc d=>(nomatch d)) (vv h).2) (!0)) (DS d)];unfold lnS;rw[e,e,e,show Str.empty.length=0 from rfl,show(!".").length=1 from rfl,show(sgn c).length=1 from rfl]
 lia
def w4(h:cm rows)(l:Let rows c):c<1000:=by
 let:=(lv.mp (lw h.sign c (fQ.mpr l))).2
 lia
def DT(b:d6 p.2.1=true)(d:cm p.2.2):∀z∈lyr p,Sml z:=λz e=>by
 let%[y,f|rfl]:=Xk e;let%[c,a|rfl]:=Xk (bx.mp f);exact lK b (w4 d (fQ.mp a))
def Gh(e:Sml a)(f:Sml b)(g:Sml c):∀z∈[a,b,c],Sml z:=λz d=>by
 simp only[Ys,X1,or_false]at d;rcases d with rfl|rfl|rfl
 .exact e
 .exact f
 .exact g
def DU(i:Nat)(h:i<=100):Sml (Str.empty++Str.ofString "#"++Str.ofString (toString (i:Int))):=by
 let all:∀j:Fin 101,Sml (Str.empty++Str.ofString "#"++Str.ofString (toString ((j.1)))):=by
  unfold Sml;decide +kernel
 exact all %[i|⋯]
def d8.three(h:d8 c k): ~~~k=3:=by
 let%[a,b,z,rfl|_]:=h;rfl
def d8.mono(h:d8 c k)(s:∀x∈c,x∈d):d8 d k:=by
 let%[a,b,z,e,f|g]:=h;exact%[a,b,z,e,s a f|s b g]
def xP(h:Let p.2.2 a):lnS p.2.1 (sgn a)∈lyr p:=
 Xl %[_,bx.mpr (Xl %[a,fQ.mpr h|rfl])|rfl]
abbrev xQ(n:Str)(k:ZB):ZB:=k.map (lnS n) ++[n]
abbrev B5(i:Nat):Str:=Str.empty++Str.ofString "#"++Str.ofString (toString (i:Int))
abbrev dq(a:ZH):List ZB:=a.flatMap λp=>(fB p.2.2 (~~~p.2.2-1)).map (xQ p.2.1)
abbrev lL(i:Nat):ZM->Option ZB
 |[.str w,.str a,.str b]=>if w=Str.ofString "later" then some [a,b,B5 i]else none
 | _=>none
abbrev cQ(qs:ZN)(n:Nat):List ZB:=(List.range n).filterMap λj=>qs[j]?.bind λq=>lL j q.2
def tF{a:List _}{i:Nat}{q:Addr×Str×ZB}(b:a[i]?∣q):dq (a.take (i+1))=dq (a.take i) ++(fB q.2.2 (~~~q.2.2-1)).map (xQ q.2.1):=by
 unfold dq;rw[X6,b,flatMap_append];change _++([q].flatMap _)=_;rw[List.flatMap_singleton]
def gW(a:qs[i]?∣q):cQ qs (i+1)=cQ qs i++(lL i q.2).toList:=by
 unfold cQ;rw[range_succ,filterMap_append];show congrArg _ ?_;rw[Y0,a];rw[bind_some];cases lL i q.2<;> rfl
inductive kM
 | mk (l cs):vs=[.ref l]->H l<*cP cs->ci H cs->(∀p∈cs,zI p.2.2)-> ~~~cs<=4->(∀r H' ts,af H H'->H r=none->H' r∣.lst (ts\0)->aU H' ts->(∀t∈ts,zX (cs.flatMap lyr) t.2)-> ~~~ts<=104->(∀k,k∈ts\2↔k∈dq cs)->Q (.ref r) H')->kM vs H Q E0
inductive kO
 | mk (l ls qs):vs=[.ref l]->H l∣.lst (qs\0)->cU H ls qs->(∀z∈ls,Sml z)-> ~~~qs<=63->(∀r H' ts,af H H'->H r=none->H' r∣.lst (ts\0)->aU H' ts->(∀t∈ts,zX ls t.2)-> ~~~ts<= ~~~qs->ts\2=cQ qs qs.length->Q (.ref r) H')->kO vs H Q E0
def oW{z:Str}(h:d6 z=true): ~~~z<=8:=by
 unfold d6 at h;rw[Zw,Zw]at h;let:=Zo h.1.2
 lia
def gX{a:List Nat}{z:Str}(h:z∈aP (a.map sgn)):∃c∈a,z=sgn c:=by
 let:=bx.mp h;let%[c,b|rfl]:=Xk this;exact%[c,b|ρ]
def vw(T:Txt K mg):↥4 "layers_of" ["cuts"] kL:=by
 .exists T.bh,ef,ae,hr,%[l,e,rfl,hl,G,h8,ag|k];let n: ~~~(cP e)= ~~~e:=Z6 _;show%[_,%["JDI1TBDUS0dM~R2ghML3eEZ~g~h1Alb?1SG]VA3BV0?2vG~jAN1A0BBEH=]WA1B",ef.nd,↑(["letter","name"],[(1,2)]),↑["letter","name"]|hr]|?_]
  change a9 _ _ _ [!l,none,none,none] H;show ak λD1 k1 _=>?_
  lk;show%[Xa _|λL I=>k1 _ _ (ak λD2 k2 _=>ay λp J=>?_)];lk;show%[%[_|Jb.of (af.Ja I _ _ hl)]|J _ _ (iF (λi d a=>∃M N,d=[!l,!L,M,N]/\af H a/\∃g:ZB,a L<*g\3/\g.Perm ((e.take i).flatMap lyr)/\ ~~~g<=26*i)
   %[none,none,ρ,af.Ja I,[],upd_same,List.Perm.refl _|Xa _] (λi d a _ ⟨_,_,_,q,_⟩=>Jb.of (q _ _ hl)) ?_ ?_)]
  .intro i x d a y %[M,N,rfl,t,g,B,u|O];let hi:i< ~~~e:=n▸(Xh y).1;obtain⟨q,hq,rfl⟩:∃q,e[i]?∣q/\x=V.ref q.1:=by
    unfold cP at y;rw[Zl,Z4 hi]at y;exact%[e[i],Z4 hi|(Za y).symm]
   let b:=G q (Z8 hq);show%[_,SqT.of (t _ _ b.1),ρ,_,_,ρ,_,_,ρ,ρ|aB λD3 k3 _=>?_];change iE _ _ [!l,!L,some (.str q.2.1),some (.str (Str.join nl q.2.2))] a;lk;show%[tyL (Jb.of B)|az λp J=>?_];lk;show%[q.2.2,ρ,b.2.2|λl2 H2 ss s2 f2 h2 U=>?_];lk;show%[%[_|Jb.of h2]|J _ _ λF hF=>?_];let ai: ~~~ss<=26:=U.length_eq▸nS λc hc=>lw b.2.2.sign c hc
   let one:∀z∈ss,~~~z=1:=λz hz=>by
    let%[c,_|rfl]:=gX (U.mem_iff.mp hz);rfl
   show dQ (λj ts d a=>(∃o,d=[o,some (.str q.2.1)])/\af H2 a/\a F<*ts/\ts=((ss.take j).map (lnS q.2.1))\3)
    %[%[none|rfl],af.Ja hF,upd_same|rfl] (λ_ _ _ a Y=>Y.2.1 _ _ h2) ?_ ?_
   .intro j ts d H4 hj %[%[o|rfl],C,ab|m];lk;show%[_,_,ρ,by let:=oW b.2.1;lia,by rw[one _ (Ya hj)];decide|CK.mk hj ab (by rw[m,Z6,Z6,Yh];exact aA ⋯) %[%[_|ρ],af.set C hF,upd_same|?_]];rw[m,X6,Zd,Zd,Z4 hj];rfl
   intro ts d H3 %[_,C,ac|m];rw[Zn (Zi _)]at m;lk;show%[_,C _ _ (s2 _ _ B),_,ac,(by rw[m,Z6,Z6,Z6];exact aV ⋯)|k3 _ _ %[_,_,ρ,af.set (t.trans (s2.trans C)) I,g++ss.map (lnS q.2.1),?_,?_|?_]]
   .rw[upd_same,m,Zd]
   .rw[X6,hq,flatMap_append];show u.append ?_;change List.Perm _ ([q].flatMap lyr);rw[List.flatMap_singleton];exact U.map _
   .rw[Z9,Z6]
    lia
  .intro d a %[M,N,rfl,t,g,B,u|O];show k2 _ _ ?_;lk;rw[n,Zn (Zi _)]at u;exact%[g,Jb.of B,by rw[u.length_eq];lia|λr ss v p' q'=>k r _ ss (t.trans (af.Ja v)) (t.free v) upd_same (p'.trans u) q']
def oX(T:Txt K mg):↥4 "ties_of_cuts" ["cuts"] kM:=by
 .exists T.bi,bO,a6,hr,%[l,B,rfl,hl,a3,a4,h8|k];let ag: ~~~(cP B)= ~~~B:=Z6 _;show%[_,%["JDI1TBDUS0dML2ML3eEUSG]XA3BdML4ML5eEZsk1AmAG~jA2A4BAG~jA2A5BA2BBEH1",bO.nd|hr]|?_]
  change a9 _ _ _ [!l,none,none,none,none,none] H;show ak λD1 k1 _=>?_
  lk;show%[Xa _|λL hL=>k1 _ _ (ak λD2 k2 _=>ay λai hK=>?_)];lk;show%[%[_|Jb.of (af.Ja hL _ _ hl)]|hK _ _ (iF (λi C I=>∃o2 o3 J M,C=[!l,!L,o2,o3,J,M]/\af H I/\∃ts:ZG,I L∣.lst (ts\0)/\aU I ts/\(∀t∈ts,zX (B.flatMap lyr) t.2)/\ ~~~ts<=26*i/\∀k,k∈ts\2↔k∈dq (B.take i))
   %[none,none,none,none,ρ,af.Ja hL,[],upd_same,iU _,λt ht=>(nomatch ht),Xa _|λk=>Iff.rfl] (λi C I _ ⟨_,_,_,_,_,q,_⟩=>Jb.of (q _ _ hl)) ?_ ?_)]
  .intro i x C I N %[o2,o3,J,M,rfl,sm,ts,hm,Y,ab,aj|d];let hi:i< ~~~B:=by rw[<-ag];exact(Xh N).1
   obtain⟨q,hq,rfl⟩:∃q,B[i]?∣q/\x=V.ref q.1:=by
    unfold cP at N;rw[Zl,Z4 hi]at N;exact%[B[i],Z4 hi|(Za N).symm]
   let g:=a3 q (Z8 hq);show%[_,SqT.of (sm _ _ g.1),ρ,_,_,ρ,_,_,ρ,ρ|?_];show aB λD3 k3 _=>?_
   change Ap _ _ _ _ [!l,!L,some (.str q.2.1),some (.str (Str.join nl q.2.2)),J,M] I;show ay λai hK=>?_
   lk;let qm:=Z8 hq;show%[q.2.2,ρ,g.2.2,a4 q qm|?_];intro l2 H2 ss s2 f2 h2 t2 a7 al all2;let a5:=oW g.2.1;let an:l2≠L:=λe=>by rw[e,hm]at f2;cases f2
   let as: ~~~(ss\0)= ~~~ss:=Z6 _;show%[l2,ρ,%[_|Jb.of h2]|hK _ _ (iF (xs:=ss\0) (λj C n=>∃J M,C=[!l,!L,some (.str q.2.1),some (.str (Str.join nl q.2.2)),J,M]/\af H n/\n l2∣.lst (ss\0)/\aU n ss/\∃c:ZG,n L∣.lst (c\0)/\aU n c/\(∀t∈c,zX (B.flatMap lyr) t.2)/\ ~~~c<=26*i+j/\c\2=ts\2 ++((ss.take j)\2).map (xQ q.2.1))
    %[_,_,ρ,sm.trans s2,h2,t2,ts,s2 _ _ hm,aT Y λb z e=>s2 _ _ e,ab,⋯|(Zy _).symm] (λj C n _ ⟨_,_,_,_,q,_⟩=>Jb.of q) ?_ ?_)]
   .intro j x C n N %[J,M,rfl,ac,a0,r,c,G,u,ae,v|m];let hj:j< ~~~ss:=as▸(Xh N).1;rw[Zl,Z4 hj]at N;obtain rfl:x=V.ref ss[j].1:=(Za N).symm;let O:=Ya hj;let%[a,b,a1,la|lb]:=al _ O;let U:=(r _ O).2;rw[a1]at U;show%[_,SqT.of U,ρ,_,_,ρ,_,_,ρ,ρ|aB λD4 k4 _=>?_];change iE _ _ [!l,!L,some (.str q.2.1),some (.str (Str.join nl q.2.2)),some (.str (sgn a)),some (.str (sgn b))] n;lk;show%[tyL (Jb.of G),q.2.1,sgn a,ρ,⋯,(show 1<=100 by decide)|?_];show%[q.2.1,sgn b,ρ,⋯,(show 1<=100 by decide)|?_];show%[#[3]|λp hp=>?_];let sp:=af.Ja (o:= .tup [V.str (lnS q.2.1 (sgn a)),V.str (lnS q.2.1 (sgn b)),V.str q.2.1]) hp;let gp:Ja n p (.tup [V.str (lnS q.2.1 (sgn a)),V.str (lnS q.2.1 (sgn b)),V.str q.2.1]) p=_:=upd_same
    generalize Ja n p _=H4 at sp gp
    let a2:=sp _ _ G;let y:∀b z,H4 b&&&z->Ja H4 L (.lst (c\0 ++[V.ref p])) b&&&z:=λb z e=>by
     let:b≠L:=λe2=>by rw[e2,a2]at e;cases e
     rw[am this];exact e
    show%[_,a2,by rw[Z6];exact Nat.lt_of_le_of_lt (show ~~~c<=10000 by lia) (!1)|k4 _ _ %[_,_,ρ,af.set (ac.trans sp) hL,(am an)▸sp _ _ a0,aT (aT r λb z e=>sp _ _ e) y,c++[(p,[lnS q.2.1 (sgn a),lnS q.2.1 (sgn b),q.2.1])],?_,?_,?_,?_|?_]]
    .rw[upd_same,Zd];rfl
    .exact aT (i9 (aT u λb z e=>sp _ _ e) ∅ gp) y
    .intro t ht;rcases Xi ht with z|z
     .exact ae t z
     .rw[Xj z];exact%[%[_,_,_,ρ,mem_flatMap.mpr %[q,qm|xP la]|mem_flatMap.mpr %[q,qm|xP lb]]|Gh (lK g.2.1 (w4 g.2.2 la)) (lK g.2.1 (w4 g.2.2 lb)) (vv g.2.1)]
    .rw[Z9,Yg];lia
    .rw[Zd,m,Ze,X6,Z4 hj,Zd,Zd];change _++(_++[_])=_++(_++[xQ q.2.1 ss[j].2]);rw[a1];rfl
   .intro C n %[J,M,rfl,ac,a0,r,c,G,u,ae,v|m];rw[as]at v m;rw[Zn (Zi _)]at m;show k3 _ _ %[_,_,_,_,rfl,ac,c,G,u,ae,⋯|λk=>?_];rw[m,tF hq,Yo,Yo,d,mem_map,mem_map];exact or_congr Iff.rfl (exists_congr λz=>and_congr_left λ_=>all2 z)
  .intro C I %[o2,o3,J,M,rfl,sm,ts,hm,Y,ab,aj|d];show k2 _ _ ?_;lk;rw[ag]at aj d;rw[Zn (Zi _)]at d;exact k L I ts sm hL hm Y ab ⋯ d
def kP(T:Txt K mg):↥1 "ties_of_sayings" ["sayings"] kO:=by
 .exists T.bj,cn,ai,hr,%[l,N,qs,rfl,hl,ab,r,aj|k];let G: ~~~(qs\0)= ~~~qs:=Z6 _;show%[_,%["JDI1TBDU~MA0BdML2ML3eEOKaQ3CcEZsk1AmAQ3CAQ3CA~,~Nc~N~i2~.BBPEH1"|cn.nd]|?_]
  change a9 _ _ _ [!l,none,none,none] H;show ak λD1 k1 _=>?_
  lk;show%[Xa _|λL O=>k1 _ _ (ak λD2 k2 _=>ay λae hK=>?_)];lk;show%[_,Jb.of (af.Ja O _ _ hl)|hK _ _ (jW (λi U n=>∃o2 o3,U=[!l,!L,o2,o3]/\af H n/\∃ts:ZG,n L∣.lst (ts\0)/\aU n ts/\(∀t∈ts,zX N t.2)/\ ~~~ts<=i/\ts\2=cQ qs i)
   %[none,none,ρ,af.Ja O,[],upd_same,iU _,λt ht=>(nomatch ht),Xa _|ρ] (λi U n _ ⟨_,_,_,q,_⟩=>Jb.of (q _ _ hl)) ?_ ?_)]
  .intro i x TT U n hx %[o2,o3,rfl,sm,ts,hm,u,g,v|d] hT;let hi:i< ~~~qs:=by rw[<-G];exact(Xh hx).1
   obtain⟨q,Y,rfl⟩:∃q,qs[i]?∣q/\x=V.ref q.1:=by
    rw[Zl,Z4 hi]at hx;exact%[qs[i],Z4 hi|(Za hx).symm]
   let s0:=af.Ja (o:= .tup [.int i,.ref q.1]) hT;let j:af H (Ja n TT (.tup [.int i,.ref q.1])):=sm.trans s0;let I:Ja n TT (.tup [.int i,.ref q.1]) TT&&&[.int i,.ref q.1]:=upd_same;let m:=s0 _ _ hm;let c:=aT u λb z e=>s0 _ _ e
   generalize Ja n TT (.tup [.int i,.ref q.1])=HT at j I m c
   let J:=ab q (Z8 Y);show%[_,SqT.of I,ρ,_,_,ρ,_,_,ρ,ρ|?_];change mL _ _ _ _ [!l,!L,some (.int i),some (.ref q.1)] HT;show aB λD4 k4 _=>?_
   lk;let st:=SqT.of (K:=K) (j _ _ J.1);let ag: ~~~(Str.ofString (toString (i:Int)))<=21:=by
    let e:=PySem.int_text_length_le10 (a:=(i:Int)) (k:=20) (!1) (by let:(i:Int).natAbs=i:=rfl;lia);rw[PySem.ofString_length];lia
   let e1:(Str.empty++Str.ofString "#").length=1:=!0
   let ea:∀a b:Str,~~~(a++b)= ~~~a+ ~~~b:=λa b=>size_append
   let add:∀a b:Str,a∈N->b∈N->lL i q.2∣[a,b,B5 i]->∀p,HT p=none->∃x,Ja HT p (.tup [.str a,.str b,V.str (Str.empty++Str.ofString "#"++Str.ofString (toString (i:Int)))]) L<*x/\ ~~~x<sizeLine/\D4.nx [!l,!L,some (.int i),some (.ref q.1)] (Ja (Ja HT p (.tup [.str a,.str b,V.str (Str.empty++Str.ofString "#"++Str.ofString (toString (i:Int)))])) L (.lst (x++[V.ref p]))):=by
    intro a b ma mb ac p hp;let tn:=gW Y;rw[ac,<-d]at tn;unfold B5 at tn
    generalize hz:Str.empty++Str.ofString "#"++Str.ofString (toString (i:Int))=z at tn ⊢
    let sp:=af.Ja (o:= .tup [V.str a,V.str b,V.str z]) hp;let gp:Ja HT p (.tup [V.str a,V.str b,V.str z]) p=_:=upd_same
    generalize Ja HT p (.tup [V.str a,V.str b,V.str z])=H4 at sp gp
    let M:=sp _ _ m;let B:∀b z,H4 b&&&z->Ja H4 L (.lst (ts\0 ++[V.ref p])) b&&&z:=λb z e=>by
     let:b≠L:=λe2=>by rw[e2,M]at e;cases e
     rw[am this];exact e
    show%[_,M,by rw[Z6];exact aA ⋯|k4 _ _ %[_,_,ρ,af.set (j.trans sp) O,ts++[(p,[a,b,z])],?_,?_,?_,?_|?_]]
    .rw[upd_same,Zd];rfl
    .exact aT (i9 (aT c λb z e=>sp _ _ e) ∅ gp) B
    .intro t ht;rcases Xi ht with z|z
     .exact g t z
     .rw[Xj z];exact%[%[_,_,_,ρ,ma|mb]|Gh (r a ma) (r b mb) (hz▸DU i ⋯)]
    .rw[Z9,Yg];lia
    .rw[tn,Zd];rfl
   rcases J.2 with⟨wd,a,b,e,hw,ma,mb,_⟩|⟨wd,a,y,e,hw,_⟩
   .rw[e]at st;show%[_,st,_,ρ,ρ|ba (λC=>?_) λC=>?_]
    .show%[tyL (Jb.of m),_,st,_,ρ,_,st,_,ρ,aV ⋯,?_,aV (by rw[ea];lia),aV (by rw[ea];lia),#[3]|add a b ma mb (e▸if_pos (V.str.inj (Zo C)))];let:(i:Int).natAbs=i:=rfl
     lia
    .show k4 _ _ %[_,_,rfl,j,ts,m,c,g,⋯|?_];rw[gW Y,e,show lL i [V.str wd,V.str a,V.str b]=none from if_neg λz=>C (Zf (by rw[z])),d];exact(Zy _).symm
   .rw[e]at st;show%[_,st,_,ρ,ρ|?_];rw[if_neg (by rcases hw with rfl|rfl<;> decide)];show k4 _ _ %[_,_,rfl,j,ts,m,c,g,⋯|?_];rw[gW Y,e,d];exact(Zy _).symm
  .intro U n %[o2,o3,rfl,sm,ts,hm,u,g,v|d];show k2 _ _ ?_;lk;rw[G]at v d;exact k L n ts sm O hm u g v d
structure GrF (mg:ZC) (H:Hp) (g c2 c3 c4:Addr) (qs:ZN) (ls:ZB) (ts:ZG):Prop where
 at_:∃dx c1,H g∣.ins (cC mg "Ground") dx [("kept_cuts",.ref c1),("kept_sayings",.ref c2),("kept_layers",.ref c3),("kept_ties",.ref c4)]
 a2:H c2∣.lst (qs\0)
 a3:H c3<*ls\3
 a4:H c4∣.lst (ts\0)
 sa:cU H ls qs
 tu:aU H ts
def GrF.up(h:GrF mg H g a c d qs f ts)(s:af H i):GrF mg i g a c d qs f ts:=by
 let%[j,l|m]:=h.at_;exact%[%[j,l|s _ _ m],s _ _ h.a2,s _ _ h.a3,s _ _ h.a4,h.sa.up s|aT h.tu λb z e=>s _ _ e]
inductive rh (mg:ZC)
 | mk (g c2 c3 c4 qs ls ts):vs=[.ref g]->GrF mg H g c2 c3 c4 qs ls ts->(∀l,H l=none->Q (.ref l) (Ja H l (.lst (ls\3))))->rh mg vs H Q E0
inductive oY (mg:ZC)
 | mk (g c2 c3 c4 qs ls ts):vs=[.ref g]->GrF mg H g c2 c3 c4 qs ls ts->(∀l,H l=none->Q (.ref l) (Ja H l (.lst (qs\0))))->oY mg vs H Q E0
inductive xR (mg:ZC)
 | mk (g c2 c3 c4 qs ls ts):vs=[.ref g]->GrF mg H g c2 c3 c4 qs ls ts->(∀l,H l=none->Q (.ref l) (Ja H l (.lst (ts\0))))->xR mg vs H Q E0
inductive tG (mg:ZC)
 | mk (g l m dx cs qs):vs=[.ref g,.ref l,.ref m]->H g∣.ins (cC mg "Ground") dx []->H l<*cP cs->H m∣.lst (qs\0)->ci H cs->(cs.map λp=>p.2.1).Nodup->1<= ~~~cs-> ~~~cs<=4->(∀p∈cs,zI p.2.2)-> ~~~(cs.flatMap lyr)<=63->(∀ls,ls.Perm (cs.flatMap lyr)->cU H ls qs)-> ~~~qs<=46->(∀H' ls ts c2 c3 c4,(∀b o,b≠g->H b∣o->H' b∣o)->GrF mg H' g c2 c3 c4 qs ls ts->(∀t∈ts,zX ls t.2)->(∀z∈ls,Sml z)->(∀k,k∈ts\2↔k∈dq cs\/k∈cQ qs qs.length)-> ~~~ts<=150->ls.Perm (cs.flatMap lyr)->ls.Pairwise (λa b=>aS b a=false)->Q .non H')->tG mg vs H Q E0
def oZ(T:Txt K mg):Dx P w K mg base 6 "Ground" ["self","cuts","sayings"] (tG mg):=by
 .exists T.i_Ground,eX,bf,hr,%[g,l,m,d,u,qs,rfl,O,hl,hm,j,an,h1,h8,as,a0,C,bl|k];show%[_,%["JDZG]YA1BDI3G]ZA1BDZG]aA2A3BD~U0^~EA1BD~U0^~EA2BD~U03E~U0=]bAF;G]cA1BG]dA2BB",eX.nd|hr]|?_]
  change a9 _ _ _ [!g,!l,!m,none] H;show ak λD1 k1 _=>?_
  lk;show%[l,u,ρ,hl,j,an,h1,⋯|λH1 s1=>k1 _ _ (ak λD2 k2 _=>?_)];lk;show%[l,u,ρ,s1 _ _ hl,j.up s1,h8,a0|λr H2 G s2 f2 h2 U q2=>k2 _ _ (ak λD3 k3 _=>?_)];let Y:=s1.trans s2;lk;show%[m,r,G,qs,ρ,Y _ _ hm,h2,(C G U).up Y,⋯|λH3 s3=>k3 _ _ (ak λD4 k4 _=>?_)];let v:=Y.trans s3;let OC:=T.o_Ground.cls;let ag:∀z∈G,Sml z:=λz hz=>by
   let%[p,y|hz]:=mem_flatMap.mp (U.mem_iff.mp hz);exact DT (j p y).2.1 (j p y).2.2 z hz
  let gl:l≠g:=λe=>by rw[e,O]at hl;cases hl
  let gm:m≠g:=λe=>by rw[e,O]at hm;cases hm
  let gr:r≠g:=λe=>by rw[e,s1 _ _ O]at f2;cases f2
  lk;show%[_,.inl (Jb.of (v _ _ hl))|λa I=>%[_,_,_,af.Ja I _ _ (v _ _ O),OC,T.n_Ground_kept_cuts,(by change 0<1000;decide)|k4 _ _ (ak λD5 k5 _=>?_)]];let a1:a≠g:=λe=>by rw[e,v _ _ O]at I;cases I
  let a2:=af.Ja (o:= .lst (cP u)) I;let b4:∀b o,b≠g->H3 b∣o->Ja (Ja H3 a (.lst (cP u))) g (.ins (cC mg "Ground") d (dA (!"kept_cuts") (V.ref a) [])) b∣o:=λb o c e=>by rw[am c];exact a2 _ _ e
  let g4:Ja (Ja H3 a (.lst (cP u))) g (.ins (cC mg "Ground") d (dA (!"kept_cuts") (V.ref a) [])) g∣.ins (cC mg "Ground") d [("kept_cuts",V.ref a)]:=upd_same;let a4:Ja (Ja H3 a (.lst (cP u))) g (.ins (cC mg "Ground") d (dA (!"kept_cuts") (V.ref a) [])) a<*cP u:=by rw[am a1];exact upd_same
  generalize Ja (Ja H3 a (.lst (cP u))) g (.ins (cC mg "Ground") d (dA (!"kept_cuts") (V.ref a) []))=H4 at b4 g4 a4
  let n4:∀b,H4 b=none->b≠g:=λb c e=>by rw[e,g4]at c;cases c
  lk;show%[_,.inl (Jb.of (b4 _ _ gm (v _ _ hm)))|λi ab=>%[_,_,_,af.Ja ab _ _ g4,OC,T.n_Ground_kept_sayings,(by change 1<1000;decide)|k5 _ _ (ak λD6 k6 _=>?_)]];let ac:=n4 i ab;let a3:=af.Ja (o:= .lst (qs\0)) ab;let b5:∀b o,b≠g->H4 b∣o->Ja (Ja H4 i (.lst (qs\0))) g (.ins (cC mg "Ground") d (dA (!"kept_sayings") (V.ref i) [("kept_cuts",V.ref a)])) b∣o:=λb o c e=>(am c)▸a3 _ _ e
  let g5:Ja (Ja H4 i (.lst (qs\0))) g (.ins (cC mg "Ground") d (dA (!"kept_sayings") (V.ref i) [("kept_cuts",V.ref a)])) g∣.ins (cC mg "Ground") d [("kept_cuts",V.ref a),("kept_sayings",V.ref i)]:=by rw[upd_same];rfl
  let a5:Ja (Ja H4 i (.lst (qs\0))) g (.ins (cC mg "Ground") d (dA (!"kept_sayings") (V.ref i) [("kept_cuts",V.ref a)])) i∣.lst (qs\0):=(am ac)▸upd_same
  generalize Ja (Ja H4 i (.lst (qs\0))) g (.ins (cC mg "Ground") d (dA (!"kept_sayings") (V.ref i) [("kept_cuts",V.ref a)]))=H5 at b5 g5 a5
  lk;show%[_,_,_,g5,OC,T.n_Ground_kept_layers,(by change 2<1000;decide)|k6 _ _ (aB λD7 k7 _=>?_)];let b6:∀b o,b≠g->H5 b∣o->Ja H5 g (.ins (cC mg "Ground") d (dA (!"kept_layers") (V.ref r) [("kept_cuts",V.ref a),("kept_sayings",V.ref i)])) b∣o:=λb o c e=>(am c)▸e
  let g6:Ja H5 g (.ins (cC mg "Ground") d (dA (!"kept_layers") (V.ref r) [("kept_cuts",V.ref a),("kept_sayings",V.ref i)])) g∣.ins (cC mg "Ground") d [("kept_cuts",V.ref a),("kept_sayings",V.ref i),("kept_layers",V.ref r)]:=by rw[upd_same];rfl
  generalize Ja H5 g (.ins (cC mg "Ground") d (dA (!"kept_layers") (V.ref r) [("kept_cuts",V.ref a),("kept_sayings",V.ref i)]))=H6 at b6 g6
  let ai:∀b o,b≠g->H3 b∣o->H6 b∣o:=λb o c e=>b6 b o c (b5 b o c (b4 b o c e))
  let B:∀b o,b≠g->H b∣o->H6 b∣o:=λb o c e=>ai b o c (v _ _ e)
  let aj:ci H6 u:=λp y=>⟨B _ _ (λe=>by let:=(j p y).1;rw[e,O]at this;cases this) (j p y).1,(j p y).2⟩
  let n:cU H6 G qs:=λq hq=>⟨B _ _ (λe=>by let:=(C G U q hq).1;rw[e,O]at this;cases this) (C G U q hq).1,(C G U q hq).2⟩
  lk;show%[l,u,ρ,B _ _ gl hl,aj,as,h8|λt1 H7 ts s7 f7 h7 a6 ae bm a7=>?_];lk;show%[m,G,qs,ρ,s7 _ _ (B _ _ gm hm),n.up s7,ag,⋯|λt2 H8 us s8 f8 bb bc al bn bd=>?_];lk;let N:aU H8 (ts++us):=vm (aT a6 λb z e=>s8 _ _ e) bc;let g8:=s8 _ _ (s7 _ _ g6);show%[_,s8 _ _ h7,_,bb,by rw[Z6,Z6,PySem.sizeLine_eq];lia|λp y=>%[ts++us,Zd▸Jb.of upd_same,aT N λb z e=>af.Ja y _ _ e,3,?_,!1,by rw[Z9];lia|λc4 ss J L=>%[_,_,_,af.Ja J _ _ (af.Ja y _ _ g8),OC,T.n_Ground_kept_ties,(by change 3<1000;decide)|k7 _ _ ?_]]]
  .intro t ht;rcases Xi ht with z|z
   .exact(ae t z).1.three
   .exact(al t z).1.three
  .let b9:∀b o,b≠g->H8 b∣o->Ja (Ja (Ja H8 p (.lst (ts\0 ++us\0))) c4 (.lst (ss\0))) g (.ins (cC mg "Ground") d (dA (!"kept_ties") (V.ref c4) [("kept_cuts",V.ref a),("kept_sayings",V.ref i),("kept_layers",V.ref r)])) b∣o:=λb o c e=>(am c)▸((af.Ja (o:= .lst (ts\0 ++us\0)) y).trans (af.Ja (o:= .lst (ss\0)) J)) _ _ e
   let M:∀b o,b≠g->H6 b∣o->_:=λb o c e=>b9 b o c (s8 _ _ (s7 _ _ e))
   show k _ G ss i r c4 (λb o c e=>M b o c (B b o c e)) %[%[d,a|?_],?_,?_,?_,?_|?_] (λt ht=>?_) ag (λk=>by rw[(L.map _).mem_iff,Zd,Yo,a7,bd]) (by rw[L.length_eq,Z9];lia) U q2
   .rw[upd_same];rfl
   .exact M _ _ ac (b6 _ _ ac a5)
   .exact M _ _ gr (ai _ _ gr (s3 _ _ h2))
   .rw[am (λe=>by rw[e,af.Ja y _ _ g8]at J;cases J)];exact upd_same
   .exact λq hq=>⟨M _ _ (λe=>by let:=(n q hq).1;rw[e,g6]at this;cases this) (n q hq).1,(n q hq).2⟩
   .intro t ht;let:=N t (L.mem_iff.mp ht);exact%[this.1|b9 _ _ (λe=>by let q:=this.2;rw[e,g8]at q;cases q) this.2]
   .rcases Xi (L.mem_iff.mp ht)with z|z
    .exact%[(ae t z).1.mono λx=>U.mem_iff.mpr|(ae t z).2]
    .exact al t z
def dY(T:Txt K mg):zt P w K mg base 1 "Ground" "layers" ["self"] (rh mg):=by
 .exists T.m_Ground_layers,lI,b,n,%[g,c,d,e,qs,i,ts,rfl,a|k];let%[o,p|j]:=a.at_;show%[_,%["JEH^~EA~k0B"|0]|?_];change iB _ _ [some _] H;lk;exact%[_,_,_,j,T.o_Ground.cls,T.n_Ground_kept_layers,_,ρ,_,ρ,_,.inl (Jb.of a.a3)|λl m=>k l m]
def fZ(T:Txt K mg):zt P w K mg base 1 "Ground" "sayings" ["self"] (oY mg):=by
 .exists T.m_Ground_sayings,kI,b,n,%[g,c,d,e,qs,i,ts,rfl,a|k];let%[o,p|j]:=a.at_;show%[_,%["JEH^~EA~k0B"|0]|?_];change iB _ _ [some _] H;lk;exact%[_,_,_,j,T.o_Ground.cls,T.n_Ground_kept_sayings,_,ρ,_,ρ,_,.inl (Jb.of a.a2)|λl m=>k l m]
def p7(T:Txt K mg):zt P w K mg base 1 "Ground" "ties" ["self"] (xR mg):=by
 .exists T.m_Ground_ties,oI,b,n,%[g,c,d,e,qs,i,ts,rfl,a|k];let%[o,p|j]:=a.at_;show%[_,%["JEH^~EA~k0B"|0]|?_];change iB _ _ [some _] H;lk;exact%[_,_,_,j,T.o_Ground.cls,T.n_Ground_kept_ties,_,ρ,_,ρ,_,.inl (Jb.of a.a4)|λl m=>k l m]
abbrev dF(H:Hp)(ys:List (Addr×Str×Int)):Prop:=∀p∈ys,H p.1&&&[.str p.2.1,.int p.2.2]/\0<=p.2.2/\p.2.2<=7
def dF.up(h:dF H ys)(s:af H b):dF b ys:=λp a=>%[s _ _ (h p a).1|(h p a).2]
inductive rj
 | mk (one two:Int) (l:Addr) (torn:Bool) (ys:List (Addr×Str×Int)):vs=[.int one,.int two,.ref l,.bl torn]->H l∣.lst (ys\0)->dF H ys->1<= ~~~ys-> ~~~ys<=100->0<=one->0<=two->(∀(t:Addr) H' (xs:ZM),af H H'->H t=none->H' t&&&xs->oU (ys.map λp=>p.2.1) xs->Q (.ref t) H')->rj vs H Q E0
def tH(T:Txt K mg):↥1 "_law_saying" ["_law_one","_law_two","_law_layers","_law_torn"] rj:=by
 .exists T.bA,bA,ag,hr,%[one,d,l,g,ys,rfl,Y,O,y1,ae,o0,t0|k];let get:∀n:Int,0<=n->∃q,atI (ys\0) (n%(~~~ys:Int))∣V.ref q.1/\q∈ys:=λn hn=>by
   let h0:=Int.emod_nonneg n (show(~~~ys:Int)≠0 by lia);let h1:=Int.emod_lt_of_pos n (show(0:Int)<(~~~ys:Int) by lia)
   generalize n%(~~~ys:Int)=i at h0 h1
   let%[j|rfl]:=Xd h0;let hj:j< ~~~ys:=by lia
   exact%[ys[j],bC (by simp[hj])|Ya hj]
  let%[p,gp|mp]:=get one o0;let%[q,gq|mq]:=get d t0;let U: ~~~(ys\0)= ~~~ys:=Z6 _;let G:(0:Int)<(~~~ys:Int):=by lia
  let pa:=O p mp;let qa:=O q mq;show%[_,%["JD~PR2FW0XYA2BdML4ML5eD~PR2FW1XYA2BdML6ML7eDI8!3$taFWFo1CCCDI9FWFo0CCDOiwK>9CwKn46&i%Kn57(q8DOiwK*57&xq8EHmAcA6A4BPEHmAcA4A6BPDOiwKa9CwKn46&i%Ka57(q8EHmAcA4A6BPDI:FfF~ICFrC5RTACA+CA+CACACA+CACACBFW1CDOKaFWFo1CCCEI:RTA+CACBFWFo1CCPEHmARTAcAcBFW0CA4A_:B"|bA.nd]|?_]
  change a9 _ _ _ [some (.int one),some (.int d),!l,some (.bl g),none,none,none,none,none,none,none] H;show ak λD1 k1 _=>?_
  lk;show%[~~~ys,.inl %[_,Jb.of Y|U.symm],G,_,Jb.of Y,_,gp,_,ρ,_,SqT.of pa.1,ρ,_,_,ρ,_,_,ρ,ρ|k1 _ _ (ak λD2 k2 _=>?_)];lk;show%[~~~ys,.inl %[_,Jb.of Y|U.symm],G,_,Jb.of Y,_,gq,_,ρ,_,SqT.of qa.1,ρ,_,_,ρ,_,_,ρ,ρ|k2 _ _ (ak λD3 k3 _=>?_)];let I:∀v:Bool,D3.nx [some (.int one),some (.int d),!l,some (.bl g),some (.str p.2.1),some (.int p.2.2),some (.str q.2.1),some (.int q.2.2),some (.bl v),none,none] H:=by
   intro v;show k3 _ _ (ak λD4 k4 _=>?_);lk;show%[%[!1|!1],!1|k4 _ _ (ak λD5 k5 r5=>?_)];let b1:0<=one/64%8:=by lia
   let b2:one/64%8<8:=by lia
   generalize one/64%8=kind at b1 b2
   let%[ai,pn|pi]:=p;let%[aj,u|qi]:=q;dsimp only at pa qa gp gq;let mem:∀{r:Addr×Str×Int},r∈ys->r.2.1∈ys.map λp=>p.2.1:=λ{r} hr=>Xl %[r,hr|rfl]
   let fin:∀(z:Hp) (a b:Str),af H z->a∈(ys.map λp=>p.2.1)->b∈(ys.map λp=>p.2.1)->a≠b->∀w:Str,w="later"\/w="same"->∀t,z t=none->Q (.ref t) (Ja z t (.tup [.str w,.str a,.str b])):=λz a b sh ha hb ab w hw t y=>
    k t _ _ (sh.trans (af.Ja y)) (sh.free y) upd_same (.inl %[w,a,b,rfl,hw,ha,hb|ab])
   let m1:pn∈ys.map λp=>p.2.1:=mem mp
   let m2:u∈ys.map λp=>p.2.1:=mem mq
   let B:3<=sizeLine:=!1
   let rest:D5.nx [some (.int one),some (.int d),!l,some (.bl g),-pn,some (.int pi),-u,some (.int qi),some (.bl v),some (.int kind),none] H:=by
    show k5 _ _ (ak λD6 k6 r6=>?_);let J:∀z,af H z->D6.nx [some (.int one),some (.int d),!l,some (.bl g),-pn,some (.int pi),-u,some (.int qi),some (.bl v),some (.int kind),none] z:=by
     intro z sh;show k6 _ _ (ak λD7 k7 _=>?_);lk;show%[.inl %[!1|!1],#[8]|λp hp=>%[!1,_,Jb.of upd_same|?_]];let%[c,hc|M]:=fW [0,-20,-60,10,60,-200,110,0] (i:=d%8) ⋯ (by change d%8<8;lia);let N: -200<=c/\c<=110:=by
      simp only[Ys,X1,or_false]at M
      lia
     show%[_,hc,c,ρ|k7 _ _ (ak λD8 k8 _=>?_)];let s7:=sh.trans (af.Ja (o:= .lst [V.int 0,V.int (-20),V.int (-60),V.int 10,V.int 60,V.int (-200),V.int 110,V.int 0]) hp)
     generalize _LL.Ja z p _=H7 at s7
     let done:∀(yr:Int) H8,af H H8-> -9999<=yr->yr<=9999->D8.nx [some (.int one),some (.int d),!l,some (.bl g),-pn,some (.int pi),-u,some (.int qi),some (.bl v),some (.int kind),some (.int yr)] H8:=by
      intro yr H8 s8 y0 y9;show k8 _ _ ?_;lk;obtain⟨wd,ac,hw⟩:∃wd:Str,atI [V.str (!"since"),V.str (!"by")] (one%2)∣V.str wd/\(wd="since"\/wd="by"):=by
       rcases(show one%2=0\/one%2=1 by lia)with e|e<;> rw[e]
       .exact%[_,ρ|.inl rfl]
       .exact%[_,ρ|.inr rfl]
      show%[#[2]|λp1 C=>%[!1,_,Jb.of upd_same,_,ac,B|λt y=>?_]];exact k t _ _ (s8.trans ((af.Ja C).trans (af.Ja y))) (s8.free ((af.Ja C).free y)) upd_same (.inr %[wd,pn,_,rfl,hw,m1,y0|y9])
     lk;show%[%[!1|!1],!1|ba (λ_=>%[#[2]|λp1 C=>%[%[!1|!1],!1,_,Jb.of upd_same|?_]]) λ_=>done _ _ s7 ⋯ ⋯];let%[c,hc|M]:=fW [-9999,9999] (i:=d/240%2) ⋯ (by change d/240%2<2;lia);let N: -9999<=c/\c<=9999:=by
      simp only[Ys,X1,or_false]at M
      lia
     exact%[_,hc|done _ _ (s7.trans (af.Ja C)) N.1 N.2]
    lk;let sp:=af.refl H;let R:=J H sp;show ba (λ_=>ba (λm=>?_) λ_=>R) λ_=>R
    let m:pn≠u:=↑m
    let L:3<=sizeLine/\∀p,H p=none->D6.rt (.ref p) (Ja H p (.tup [V.str (!"same"),V.str pn,V.str u])):=%[B|λt y=>r6 _ _ (fin H pn u sp m1 m2 m _ (.inr rfl) t y)]
    exact ba (λ_=>L) λ_=>ba (λ_=>L) λ_=>R
   lk;show ba (λ_=>ba (λm=>?_) λ_=>rest) λ_=>rest
   let m:pn≠u:=↑m
   let L1:3<=sizeLine/\∀p,H p=none->D5.rt (.ref p) (Ja H p (.tup [V.str (!"later"),V.str u,V.str pn])):=%[B|λt y=>r5 _ _ (fin H u pn (af.refl H) m2 m1 (Ne.symm m) _ (.inl rfl) t y)]
   let L2:3<=sizeLine/\∀p,H p=none->D5.rt (.ref p) (Ja H p (.tup [V.str (!"later"),V.str pn,V.str u])):=%[B|λt y=>r5 _ _ (fin H pn u (af.refl H) m1 m2 m _ (.inl rfl) t y)]
   exact ba (λ_=>ba (λ_=>ba (λ_=>L1) λ_=>L2) λ_=>L2) λ_=>ba (λ_=>ba (λ_=>ba (λ_=>L1) λ_=>L2) λ_=>L2) λ_=>rest
  lk;exact ba (λ_=>%[%[!1|!1],!1|I _]) λ_=>I _
structure Drn where
 name:Str
 cols:List ZL
 hi:Nat
 sh:Int
 wd:Bool
abbrev Drn.rows(d:Drn):ZB:=drawn d.cols d.hi d.sh
abbrev mI(d:Drn):Prop:=d6 d.name=true/\1<=d.hi/\d.hi<=7/\1<= ~~~d.cols/\ ~~~d.cols<=5/\∀c∈d.cols,~~~c=d.hi/\kh d.wd c
def mI.cut(h:mI d):cm d.rows:=uZ h.2.1 (by let:=h.2.2.1;lia) h.2.2.2.1 (by let:=h.2.2.2.2.1;lia) h.2.2.2.2.2
abbrev gY(d:Drn):List (Str×Int):=(there d.cols).map λa=>(dw d.name (sg a d.sh),a)
abbrev dcs(ds:List (Addr×Drn)):ZH:=ds.map λp=>(p.1,p.2.name,p.2.rows)
inductive ro (K:ZA)
 | mk (a:Addr) (xs:ZL):vs=[.ref a]->Jb K H a (xs\4)->(∀H',af H H'->Jb K H' a (xs\4))-> ~~~xs=86->(∀x∈xs,0<=x/\x<9973)->(∀(t l1 l2 l3:Addr) H' (ds:List (Addr×Drn)) (qs:ZN),af H H'->H t=none->H l1=none->H l2=none->H l3=none->l1≠l2->l1≠l3->l2≠l3->H' t&&&[.ref l1,.ref l2,.ref l3]->H' l1<*cP (dcs ds)->H' l2∣.lst (qs\0)->H' l3∣.lst ((ds.flatMap λp=>(gY p.2)\1)\3)->1<= ~~~ds-> ~~~ds<=4->(∀p∈ds,mI p.2)->(ds.map λp=>p.2.name).Nodup->ci H' (dcs ds)->cU H' (ds.flatMap λp=>(gY p.2)\1) qs-> ~~~qs<=30->1<= ~~~(ds.flatMap λp=>(gY p.2)\1)/\ ~~~(ds.flatMap λp=>(gY p.2)\1)<=32->Q (.ref t) H')->ro K vs H Q E0
def gZ(h:H M<*xs):∀b z,H b&&&z->Ja H M (.lst ys) b&&&z:=λb z e=>by
 rw[am (λa=>by rw[a,h]at e;cases e)];exact e
def dF.keep(h:dF H ys)(t:∀b z,H b&&&z->c b&&&z):dF c ys:=λp a=>%[t _ _ (h p a).1|(h p a).2]
def ci.keep(h:ci H c)(t:∀b z,H b&&&z->d b&&&z):ci d c:=λp a=>%[t _ _ (h p a).1|(h p a).2]
def cU.keep(h:cU H c qs)(t:∀b z,H b&&&z->d b&&&z):cU d c qs:=λp a=>%[t _ _ (h p a).1|(h p a).2]
def ci.snoc(h:ci H a)(b:H q.1&&&[.str q.2.1,.str (Str.join nl q.2.2)]/\d6 q.2.1=true/\cm q.2.2):ci H (a++[q]):=λp c=>by
 rcases Xi c with z|z
 .exact h p z
 .rw[Xj z];exact b
def dF.snoc(h:dF H ys)(a:H q.1&&&[.str q.2.1,.int q.2.2]/\0<=q.2.2/\q.2.2<=7):dF H (ys++[q]):=λp b=>by
 rcases Xi b with z|z
 .exact h p z
 .rw[Xj z];exact a
def zY(n:Str)(c:Nat):n++Str.ofString "."++sgn c=dw n c:=by
 show gF ?_;change(n.cps++ ([46].toArray) ++ ([c].toArray)).toList=(n.cps.toList++[46,c]).toArray.toList;simp
def tJ(T:Txt K mg):↥3 "_law_ground" ["_law_row_here"] (ro K):=by
 .exists T.bB,aM,es,hr,%[a,xs,rfl,hs,keep,b7,hb|kk];let get:∀i:Int,0<=i->i<86->∃c,atI (xs\4) i∣V.int c/\0<=c/\c<9973:=λi h0 h1=>by
   let%[c,e|hm]:=fW xs h0 ⋯;exact%[c,e|hb c hm]
  let%[c0,g0,l0|u0]:=get 0 (!1) (!1);show%[_,%["JDI1G]eARN0CBD,2ghtaFWRN0CCCDI3TBD,4ghTBDU)AFfCFWFoRN0CCCBL5DI6FfFWFoRN0CCCFrC5DI7!N2$ta5FWFoRN0CCCD~PG]fA~BN0'FfCFrC5'FfCFrC5A6A7BdML8ML9eDZsk3AmAR15A8BBEUS9L:EZskN4AmAF~;F~;R15cG~$A_:A6BA_:BBDI;FWFoRN0CCCD<<hgb?1)A_;BV0?2vG]gARN3FfCFrC0ARN3FfCFrC0AN1AN2BEHmA3A_<Alb?3SN4dMV0?4MV1?4ev0B",aM.nd,↑(["_law_k","_law_layers","_law_torn","_law_row_here"],[(1,4),(2,2),(3,0)]),↑["_law_k","_law_layers","_law_torn","_law_row_here"],↑(["_law_layer","_law_at"],[]),↑["_law_layer","_law_at"]|hr]|?_]
  let%[c1,g1,l1|u1]:=get 1 (!1) (!1);change a9 _ _ _ [!a,none,none,none,none,none,none,none,none,none,none,none,none] H;show ak λD1 k1 _=>?_
  lk;show%[_,hs,_,g1,_,ρ,l1,u1|λLN Hn ms sn fn bn aj=>k1 _ _ (ak λD2 k2 _=>?_)];let keep:∀g,af Hn g->Jb K g a (xs\4):=λg sm=>keep _ (sn.trans sm)
  lk;show%[_,keep _ (af.refl Hn),_,g0,c0,ρ,!1|k2 _ _ (ak λet da _=>?_)]
  generalize decide (c0%3=1)=u
  lk;show%[Xa _|λv al=>da _ _ (ak λeq b9 _=>?_)];let s1:=af.Ja (o:= .lst []) al;lk;show%[Xa _|λL3 a2=>b9 _ _ (ak λD3 k3 _=>ay λan hK=>?_)];let s2:=s1.trans (af.Ja (o:= .lst []) a2);let eu:LN≠v:=λe=>by rw[<-e,bn]at al;cases al
  let bp:v≠L3:=λe=>by rw[<-e,upd_same]at a2;cases a2
  lk;show%[_,keep _ s2,_,g0,c0,ρ,%[!1|!1],!1|?_];show%[⋯,⋯|hK _ _ (eA (λi L g=>∃o3 o4 o5 o6 o7 o8,L=[!a,!LN,some (.bl u),!v,!L3,o3,o4,o5,o6,o7,o8,none,none]/\af Hn g/\∃(ds:List (Addr×Drn)) (ys:List (Addr×Str×Int)),~~~ds=i/\g v<*cP (dcs ds)/\g L3∣.lst (ys\0)/\dF g ys/\(ys\2)=(ds.flatMap λp=>gY p.2)/\
   ci g (dcs ds)/\(∀p∈ds,mI p.2)/\ds.map (λp=>p.2.name)=ms.take i)
   %[_,_,_,_,_,_,ρ,s2,[],[],ρ,by rw[am bp];exact upd_same,upd_same,λp hp=>(nomatch hp),ρ,λp hp=>(nomatch hp),λp hp=>(nomatch hp)|ρ] ?_ ?_)]
  .intro i L H3 hi %[o3,o4,o5,o6,o7,o8,rfl,s3,ds,ys,bt,y,C,a3,O,bU,a4|b0];let hi3:i<4:=by lia
   change a9 _ _ _ [!a,!LN,some (.bl u),!v,!L3,some (.int (0+i)),o4,o5,o6,o7,o8,none,none] H3;rw[Int.zero_add];show ak λD4 k4 _=>?_
   let ca:i< ~~~ms:=by rw[aj.1];exact hi3
   obtain⟨nm,cd,b1⟩:∃nm,ms[i]?∣nm/\d6 nm=true:=%[_,Z4 ca|aj.2.2 _ (Ya ca)]
   let bb:atI (ms\3) (i:Int)∣V.str nm:=bC (by rw[Zl,cd];rfl);lk;show%[_,keep _ s3,_,g0,c0,ρ,%[!1|!1],!1,.inl %[!1|!1]|k4 _ _ (ak λD5 k5 _=>?_)];let b2:0<=c0/12%26+3*(i:Int):=by lia
   generalize c0/12%26+3*(i:Int)=r at b2
   let M:=s3;let as:∀m:Bool,D5.nx [!a,!LN,some (.bl u),!v,!L3,some (.int i),some (.int r),some (.bl m),o6,o7,o8,none,none] H3:=by
    intro m;show k5 _ _ (ak λD6 k6 _=>?_);lk;show%[.inl %[!1|!1],.inl %[!1|!1],_,keep _ M|λp2 ce=>?_];rw[vg xs ⋯ ⋯ ⋯];let ch: ~~~((xs.drop (2+6*(i:Int)).toNat).take ((8+6*(i:Int)).toNat-(2+6*(i:Int)).toNat))=6:=by
     rw[Yh,Yd,b7];exact(by decide:∀i:Nat,i<4->min ((8+6*(i:Int)).toNat-(2+6*(i:Int)).toNat) (86-(2+6*(i:Int)).toNat)=6) i ⋯
    let cl:∀x∈(xs.drop (2+6*(i:Int)).toNat).take ((8+6*(i:Int)).toNat-(2+6*(i:Int)).toNat),0<=x/\x<9973:=λx hx=>hb x (List.mem_of_mem_drop (Yt hx))
    generalize (xs.drop (2+6*(i:Int)).toNat).take ((8+6*(i:Int)).toNat-(2+6*(i:Int)).toNat)=ws at ch cl
    show%[p2,ws,r,m,ρ,Jb.of upd_same,λg sm=>Jb.of (sm _ _ upd_same),ch,cl,b2|λT5 th H5 d l U f5 dd n5 de dk dn dp dr dx b3=>%[T5,ρ,_,SqT.of de,ρ,_,_,ρ,_,_,ρ,ρ|k6 _ _ (ak λD7 k7 _=>?_)]];let a5:af H3 H5:=(af.Ja ce).trans U;let bc:mI %[nm,d,l,r|m]:=%[b1,dn,dp,dr,dx|b3]
    let ab:H3 th=none:=(af.Ja ce).free dd;let dy:th≠v:=λe=>by rw[e,y]at ab;cases ab
    let dK:th≠L3:=λe=>by rw[e,C]at ab;cases ab
    lk;show%[tyL (Jb.of (a5 _ _ y)),_,Jb.of (a5 _ _ (s3 _ _ bn)),_,bb,#[2]|λI dT=>?_];let s6:=af.Ja (o:= .tup [V.str nm,V.str (nl.join (drawn d l r))]) dT;let g6:Ja H5 I (.tup [V.str nm,V.str (nl.join (drawn d l r))]) I=_:=upd_same;let ai:=s6 _ _ (a5 _ _ y)
    generalize Ja H5 I (.tup [V.str nm,V.str (nl.join (drawn d l r))])=H6 at s6 g6 ai
    let a6:=a5.trans s6;show%[_,ai,by rw[show(cP (dcs ds)).length= ~~~ds by unfold cP dcs;rw[Z6,Z6],bt];exact aA ⋯|k7 _ _ (aB λD8 k8 _=>ay λan hK=>?_)];let tk:=gZ (ys:=cP (dcs ds) ++[V.ref I]) ai;let co:af Hn (Ja H6 v (.lst (cP (dcs ds) ++[V.ref I]))):=af.set (s3.trans a6) al;let cp:Ja H6 v (.lst (cP (dcs ds) ++[V.ref I])) v<*cP (dcs (ds++[(I,%[nm,d,l,r|m])])):=by
     rw[upd_same];unfold cP dcs;rw[Zd,Zd];rfl
    let cs:Ja H6 v (.lst (cP (dcs ds) ++[V.ref I])) L3∣.lst (ys\0):=by rw[am (Ne.symm bp)];exact a6 _ _ C
    let b4:Ja H6 v (.lst (cP (dcs ds) ++[V.ref I])) th<*(there d)\4:=by rw[am dy];exact s6 _ _ dk
    let ct:ci (Ja H6 v (.lst (cP (dcs ds) ++[V.ref I]))) (dcs (ds++[(I,%[nm,d,l,r|m])])):=by
     rw[show dcs (ds++[(I,%[nm,d,l,r|m])])=dcs ds++[(I,nm,drawn d l r)] by unfold dcs;rw[Zd];rfl];exact((bU.up a6).snoc %[g6,b1|bc.cut]).keep tk
    let cv:dF (Ja H6 v (.lst (cP (dcs ds) ++[V.ref I]))) ys:=(a3.up a6).keep tk
    generalize Ja H6 v (.lst (cP (dcs ds) ++[V.ref I]))=H7 at co cp cs b4 ct cv
    let ac: ~~~ys<=8*i:=by
     let e:=congrArg List.length O;rw[Z6,List.length_flatMap]at e;let:=sr (f:=λp:Addr×Drn=> ~~~(gY p.2)) (B:=8) (xs:=ds) λp _=>by
      unfold gY;rw[Z6];exact lE _
     lia
    lk;show%[%[_|Jb.of b4]|hK _ _ (iF (xs:=(there d)\4) (λj L g=>∃o8,L=[!a,!LN,some (.bl u),!v,!L3,some (.int i),some (.int r),some (.bl m),some (.str (nl.join (drawn d l r))),!th,o8,none,none]/\af Hn g/\g v<*cP (dcs (ds++[(I,%[nm,d,l,r|m])]))/\g th<*(there d)\4/\ci g (dcs (ds++[(I,%[nm,d,l,r|m])]))/\
     ∃zs:List (Addr×Str×Int),g L3∣.lst ((ys++zs)\0)/\dF g (ys++zs)/\zs\2=((there d).take j).map λa=>(dw nm (sg a r),a))
     %[_,ρ,co,cp,b4,ct,[],by rw[Zy];exact cs,by rw[Zy];exact cv|ρ] (λj L g _ ⟨_,_,_,_,q,_⟩=>Jb.of q) ?_ ?_)]
    .intro j x L H8 hx %[o8,rfl,s8,a0,bd,b5,zs,ae,b6|a1];let hj:j< ~~~(there d):=by let:=(Xh hx).1;rwa[Z6]at this
     rw[Zl,Z4 hj]at hx;obtain rfl:x=V.int (there d)[j]:=(Za hx).symm;let cx:=eG.mp (Ya hj);change iE _ _ [!a,!LN,some (.bl u),!v,!L3,some (.int i),some (.int r),some (.bl m),some (.str (nl.join (drawn d l r))),!th,some (.int (there d)[j]),none,none] H8;show aB λD9 k9 _=>?_
     lk;let er:=oW b1;let ea:∀a b:Str,~~~(a++b)= ~~~a+ ~~~b:=λa b=>size_append
     let e1:(!".").length=1:=rfl;let zl: ~~~zs<=j:=by
      let:=congrArg List.length a1;rw[Z6,Z6,Yh]at this
      lia
     let tl:=lE d;show%[tyL (Jb.of ae),_,Jb.of (s8 _ _ bn),_,bb,_,ρ,aV ⋯,_,_,ρ,b2,_,ρ,aV (by rw[ea,show(sgn (sg (there d)[j] r)).length=1 from rfl];lia),#[2]|λp hp=>?_];rw[zY];let s9:=af.Ja (o:= .tup [V.str (dw nm (sg (there d)[j] r)),V.int (there d)[j]]) hp;let g9:Ja H8 p (.tup [V.str (dw nm (sg (there d)[j] r)),V.int (there d)[j]]) p=_:=upd_same
     generalize Ja H8 p (.tup [V.str (dw nm (sg (there d)[j] r)),V.int (there d)[j]])=H9 at s9 g9
     let cy:=s9 _ _ ae;let cM:=gZ (ys:=(ys++zs)\0 ++[V.ref p]) cy;show%[_,cy,by rw[Z6,Z9];exact aA ⋯|k9 _ _ %[_,ρ,af.set (s8.trans s9) (s1.free a2),by rw[am bp];exact s9 _ _ a0,by rw[am dK];exact s9 _ _ bd,(b5.up s9).keep cM,zs++[(p,dw nm (sg (there d)[j] r),(there d)[j])],?_,?_|?_]]
     .rw[upd_same,<-Ze,Zd (l₂:=[(p,dw nm (sg (there d)[j] r),(there d)[j])])];rfl
     .rw[<-Ze];exact((b6.up s9).snoc %[g9,cx.1|cx.2.1]).keep cM
     .rw[Zd,a1,X6,Z4 hj,Zd];rfl
    .intro L H8 %[o8,rfl,s8,a0,bd,b5,zs,ae,b6|a1];rw[Z6,Zn (Zi _)]at a1;show k8 _ _ %[_,_,_,_,_,_,rfl,s8,ds++[(I,%[nm,d,l,r|m])],ys++zs,by rw[Z9,bt];rfl,a0,ae,b6,?_,b5,λp hp=>?_|?_]
     .rw[Zd,O,a1,flatMap_append]
      congr 1
      rw[List.flatMap_singleton];rfl
     .rcases Xi hp with z|z
      .exact a4 p z
      .rw[Xj z];exact bc
     .rw[Zd,b0,X6,cd];rfl
   lk;exact ba (λ_=>%[_,keep _ M,_,g0,c0,rfl,%[!1|!1],!1|as _]) λ_=>as _
  .intro L H3 %[o3,o4,o5,o6,o7,o8,rfl,s3,ds,ys,bt,y,C,a3,O,bU,a4|b0];show k3 _ _ (ak λD4 k4 _=>?_);lk;show%[_,keep _ s3,_,g0,c0,ρ,%[!1|!1],!1|k4 _ _ (ak λD5 k5 _=>?_)];let m0:0<=c0/12%31:=by lia
   let dV:c0/12%31<=30:=by lia
   generalize c0/12%31=bf at m0 dV
   let d0:1<= ~~~ds:=by lia
   let d1: ~~~ds<=4:=by lia
   let ac: ~~~ys<=32/\1<= ~~~ys:=by
    let e:=congrArg List.length O;rw[Z6,List.length_flatMap]at e;let:=sr (f:=λp:Addr×Drn=> ~~~(gY p.2)) (B:=8) (xs:=ds) λp _=>by
     unfold gY;rw[Z6];exact lE _
    show%[⋯|Nat.pos_of_ne_zero λz=>?_];let d2:ys=[]:=length_eq_zero_iff.mp z;rw[d2]at O;let c2:0< ~~~ds:=by lia
    let hq:=a4 ds[0] (Ya c2);let d3:=BR hq.2.1 hq.2.2.2.1 hq.2.2.2.2.2;let%[a'|d4]:=List.exists_mem_of_ne_nil _ d3;let:(dw ds[0].2.name (sg a' ds[0].2.sh),a')∈ds.flatMap λp=>gY p.2:=mem_flatMap.mpr %[ds[0],Ya c2|Xl %[a',d4|rfl]]
    rw[<-O]at this;cases this
   let G:(ys.map λp=>p.2.1)=ds.flatMap λp=>(gY p.2)\1:=by
    let e:=congrArg (List.map (·.1)) O;rw[Yn,List.map_flatMap]at e;exact e
   show az λan hK=>?_
   lk;show%[⋯,⋯|hK _ _ λL2 Y=>?_];let d7:L2≠v:=λe=>by rw[e,y]at Y;cases Y
   let ev:L2≠L3:=λe=>by rw[e,C]at Y;cases Y
   let eb:=af.Ja (o:= .lst []) Y;show bR (J:=Itr 0 bf.toNat) (n:=bf.toNat) (D:=L2) (λi zs L g=>(∃o,L=[o,!L3,some (.bl u),!a])/\af H3 g/\g L2<*zs/\∃qs:ZN,zs=(qs\0)/\ ~~~qs=i/\cU g (ys.map λp=>p.2.1) qs)
    %[%[none|rfl],eb,upd_same,[],rfl,rfl|λq hq=>(nomatch hq)] (λi _ _ g hi _=>hi) (λ_ _ g _=>Zi _) ?_ ?_
   .intro i zs L H4 ec %[%[o|rfl],M,ag,qs,rfl,c3|a7] x ew %[e2|e3];subst e2 e3;let%[x1,ed,eg|ex]:=get (26+2*(i:Int)) ⋯ ⋯;let%[x2,eh,ej|ey]:=get (27+2*(i:Int)) ⋯ ⋯;lk;show%[.inl %[!1|!1],_,keep _ (s3.trans M),_,ed,.inl %[!1|!1],_,keep _ (s3.trans M),_,eh|?_];show%[x1,x2,L3,u,ys,ρ,M _ _ C,a3.up M,ac.2,⋯,eg,ej|λt H5 ek U f5 h5 el=>?_];let ai:=U _ _ ag;let c4:=gZ (ys:=qs\0 ++[V.ref t]) ai;show CK.mk ec ai (by rw[Z6];exact aA ⋯) %[%[_|rfl],af.set (M.trans U) Y,upd_same,qs++[(t,ek)],by rw[Zd];rfl,by rw[Z9,c3];rfl|λq hq=>?_];rcases Xi hq with z|z
    .exact(((a7.up U).keep c4) q z)
    .rw[Xj z];exact%[c4 _ _ h5|el]
   .intro zs L H4 %[_,M,ag,qs,rfl,c3|a7];show k5 _ _ ?_;lk;show az λan hK=>?_
    lk;let bl:=M _ _ C;show%[%[_|Jb.of bl]|hK _ _ λN hN=>?_];show dQ (λj ts L g=>(∃o1 o2,L=[o1,o2])/\af H4 g/\g N<*ts/\ts=((ys.take j).map λp=>p.2.1)\3)
     %[%[none,none|rfl],af.Ja hN,upd_same|rfl] (λ_ _ _ g em=>em.2.1 _ _ bl) ?_ ?_
    .intro j ts L H6 hj %[%[o1,o2|rfl],U,en|ht];let eo:=(a3 ys[j] (Ya hj)).1;show%[_,SqT.of (U _ _ (M _ _ eo)),ρ,_,_,ρ,_,_,ρ,ρ|?_];change wc [some (.str ys[j].2.1),some (.int ys[j].2.2)] _ _;lk;show CK.mk hj en (by rw[ht,Z6,Z6,Yh];exact aA ⋯) %[%[_,_|rfl],af.set U hN,upd_same|?_];rw[ht,X6,Zd,Zd,Z4 hj];rfl
    intro ts L H5 %[_,U,ep|ht];rw[Zn (Zi _),G]at ht;show%[#[3]|λt c5=>?_];let st:=af.Ja (o:= .tup [V.ref v,V.ref L2,V.ref N]) c5;let c7:=s3.trans (M.trans (U.trans st));rw[G]at a7;let bm:=M _ _ y;show kk t v L2 N _ ds qs (sn.trans c7) (sn.free ((s3.trans (M.trans U)).free c5)) (sn.free al) (sn.free (s3.free Y)) (sn.free ((s3.trans M).free hN)) (Ne.symm d7) (λe=>by rw[<-e,bm]at hN;cases hN) (λe=>by rw[<-e,ag]at hN;cases hN) upd_same (st _ _ (U _ _ bm)) (st _ _ (U _ _ ag)) (by rw[st _ _ ep,ht]) d0 d1 a4 ?_ (bU.up (M.trans (U.trans st))) (a7.up (U.trans st)) ⋯ (by rw[<-G,Z6];exact%[ac.2|ac.1]);rw[b0];exact aj.2.1.sublist (take_sublist _ _)
abbrev NmD(a:ZB)(f:Str->Str):List (Key×V):=a.map λz=>(Sum.inr z,V.str (f z))
def lM:∀{a:ZB},z∈a->bu (NmD a f) (Sum.inr z)∣.str (f z)
 |[],h=>(nomatch h)
 | x::a,h=>by
   by_cases e:x=z
   .subst e;exact cV rfl
   .rw[show NmD _ f=(Sum.inr x,V.str _)::NmD a f from rfl,b8 (λq=>e (Sum.inr.inj q))];exact lM (by rcases mem_cons.mp h with q|q;exact(e q.symm).elim;exact q)
def B6:((NmD b f).any λa=>decide (a.1=(Sum.inr z:Key)))=true↔z∈b:=by
 rw[any_eq_true]
 constructor
 .rintro⟨a,c,d⟩;let%[x,e|rfl]:=Xk c
  simp_all
 .intro h;exact%[_,Xl %[z,h|ρ]|Zf rfl]
def B7(h:z∈a):cB (NmD a f) (Sum.inr z) (.str v)=NmD a (λx=>if x=z then v else f x):=by
 unfold cB;rw[if_pos (B6.mpr h)];unfold NmD;rw[Yn];show Yl λx _=>?_
 change(if(Sum.inr x)=Sum.inr z then((Sum.inr x),V.str v)else(Sum.inr x,V.str _))=(Sum.inr x,V.str (if x=z then v else f x))
 by_cases e:x=z
 .rw[if_pos (congrArg _ e),if_pos e]
 .rw[if_neg (λq=>e (Sum.inr.inj q)),if_neg e]
def Gi(h:z∉a):cB (NmD a id) (Sum.inr z) (.str z)=NmD (a++[z]) id:=by
 unfold cB;rw[if_neg (λq=>h (B6.mp q))];unfold NmD;rw[Zd];rfl
abbrev xS(a:ZB)(z:Str):Nat:=a.countP λu=>aS u z
def B8(c:x∈b)(h:aS x y=true):xS b x<xS b y:=by
 unfold xS
 induction b with
 | nil=>cases c
 | cons u l d=>
   let le:l.countP (λu=>aS u x)<=l.countP λu=>aS u y:=List.countP_mono_left λu _ a=>eF a h
   rw[countP_cons,countP_cons];rcases mem_cons.mp c with rfl|e
   .rw[if_neg (by rw[gK];simp),if_pos h]
    lia
   .let:=d e;by_cases a:aS u x=true
    .rw[if_pos a,if_pos (eF a h)]
     lia
    .rw[if_neg a]
     split<;> lia
abbrev a8(qs:ZN)(a b:Str):Prop:=∃q∈qs,q.2=[.str "same",.str a,.str b]
def ja{S R:Str->Str->Prop}(F:bF c f r S)(h:∀a b,S a b↔R a b):bF c f r R:=by
 rw[funext λa=>funext λb=>(propext (h a b)).symm];exact F
inductive B9
 | mk (d z ls f r S):vs=[.ref d,.str z]->H d∣.dK (NmD ls f)->bF ls f r S->z∈ls->Q (.str (r z)) H->B9 vs H Q E0
inductive xT
 | mk (d a b ls f r S):vs=[.ref d,.str a,.str b]->H d∣.dK (NmD ls f)->bF ls f r S->a∈ls->b∈ls-> ~~~ls<=5000->(∀f' r',bF ls f' r' (λx y=>S x y\/(x=a/\y=b))->Q .non (Ja H d (.dK (NmD ls f'))))->xT vs H Q E0
def eY(T:Txt K mg):↥1 "least_pointed_to" ["names","layer"] B9:=by
 .exists T.aS,d5,o,i,%[d,z,e,p,r,S,rfl,q,F,t|j];show%[_,%["JD~FKnj011EI1j01EH1",d5.nd|i]|ak λu k1 _=>⟨λm l g=>∃y,l=[some _,-y]/\g=H/\y∈e/\r y=r z/\m=xS e y,%[_,z,ρ,ρ,t,ρ|ρ],?_⟩]
  intro m l g %[y,rfl,rfl,a,b|rfl];lk;let g1:=by
   let:=cE.k (k:=Sum.inr y) q;rw[lM a]at this;exact this
  show%[_,g1,ρ|ba (λh=>?_) λh=>?_]
  .let h:=↑h
   show%[λc n=>c=[some _,some _]/\n=g,?_,_,g1,ρ|ρ];intro c n %[rfl|rfl];exact%[_,B8 (F.fin y a) (F.dec y a h),p y,ρ,ρ,F.fin y a,(F.rf y a).trans b|ρ]
  .show k1 _ _ ?_;rw[<-b,F.fix y a ↑h]at j;exact j
def mX(T:Txt K mg):↥2 "join_deposits" ["names","one","other"] xT:=by
 .exists T.aR,dC,m,e,%[d,a,b,c,p,r,S,rfl,g,F,i,j,n|o];show%[_,%["JDI3G~<A0A1BDI4G~<A0A2BEz~Z]hA3A4B0~Y]iA3A4B",dC.nd|e]|?_]
  change a9 _ _ _ [!d,-a,-b,none,none] H;show ak λt k1 _=>?_
  lk;show%[d,a,c,p,r,S,ρ,g,F,i|k1 _ _ (ak λu k2 _=>?_)];lk;show%[d,b,c,p,r,S,ρ,g,F,j|k2 _ _ (aB λv q _=>?_)];lk;let J:=F.join i j rfl rfl;let l:(if aS (r a) (r b)=true then r b else r a)∈c:=by
   split
   .exact F.rin b j
   .exact F.rin a i
  generalize (if aS (r a) (r b)=true then r b else r a)=M at J l
  show%[_,je.k (k:=Sum.inr M) g (by unfold NmD;rw[Z6,PySem.sizeLine_eq];lia)|q _ _ ?_];rw[B7 l];exact o _ _ J
def w6{qs:ZN}{q:Addr×ZM}(c:qs[i]?∣q)(a b:Str):a8 (qs.take (i+1)) a b↔a8 (qs.take i) a b\/q.2=[.str "same",.str a,.str b]:=by
 unfold a8;rw[X6,c]
 simp_all
def hC{c:ZB}(d:c.Pairwise (λa b=>aS b a=false)){i:Nat}{z w:Str}(f:c[i]?∣z)(hw:w∈c)(h:aS w z=true):w∈c.take i:=by
 rw[<-X7 i c]at hw;rcases Xi hw with e|e
 .exact e
 .let%[hi|g]:=Xh f;let%[j,l|rfl]:=getElem_of_mem e;rw[List.getElem_drop]at h;rw[Yd]at l;by_cases m:j=0
  .subst m;rw[<-g]at h;simp only[add_zero]at h;rw[gK]at h;cases h
  .let:=List.pairwise_iff_getElem.mp d i (i+j) hi ⋯ ⋯
   grind
inductive vy (mg:ZC)
 | mk (g c2 c3 c4 qs ls ts):vs=[.ref g]->GrF mg H g c2 c3 c4 qs ls ts->ls.Nodup->ls.Pairwise (λa b=>aS b a=false)-> ~~~ls<=5000->(∀d H' r,af H H'->H d=none->H' d∣.dK (NmD ls r)->(∀z∈ls,r z∈ls/\cI (a8 qs) z (r z))->Q (.ref d) H')->vy mg vs H Q E0
def lN{H:Hp}{g b c d:Addr}{qs:List _}{e:ZB}{ts:List _}{m:Str}{R:Prop}(h:GrF mg H g b c d qs e ts)(f:m="layers"\/m="sayings"\/m="ties")(k:R):∃a fs,H g∣.ins (cC mg "Ground") a fs/\List.lookup m fs=none/\R:=by
 let%[a,j|i]:=h.at_;exact⟨a,_,i,by rcases f with rfl|rfl|rfl<;> rfl,k⟩
def dG(T:Txt K mg):↥3 "names_by_layer" ["ground"] (vy mg):=by
 .exists T.aQ,bo,an,J,%[g,c2,c3,c4,qs,j,ts,rfl,hg,nd,so,al|kk];let lm: ~~~(j\3)= ~~~j:=Z6 _;let qm: ~~~(qs\0)= ~~~qs:=Z6 _;show%[_,%["JDI1yDUS~G~l0L2Ez212DUS~G~=0dML3ML4ML5eEOKa3cEZG]jA1A4A5BPDUS~G~l0L2Ezj1j1212EH1",bo.nd|J]|?_]
  change a9 _ _ _ [!g,none,none,none,none,none] H;show ak λD1 k1 _=>?_
  lk;intro d hd;show k1 _ _ (ak λD2 k2 _=>ay λL hK=>?_);let s1:=af.Ja (o:= .dK []) hd;let U:Ja H d (.dK []) d∣.dK (NmD (j.take 0) id):=upd_same
  generalize Ja H d (.dK [])=H1 at s1 U
  lk;let ab:=hg.up s1;show lN ab (.inl rfl) %[g,c2,c3,c4,qs,j,ts,rfl,ab|λY M=>%[Y,rfl,%[_|Jb.of upd_same]|hK _ _ ?_]];let s2:=af.Ja (o:= .lst (j\3)) M;let ac:Ja H1 Y (.lst (j\3)) Y=_:=upd_same;let n1:Y≠d:=λe=>by rw[e,U]at M;cases M
  let U:=s2 _ _ U
  generalize Ja H1 Y (.lst (j\3))=H2 at s2 ac U
  show bV (λi n l=>(∃p t u v,n=[!g,!d,p,t,u,v])/\af H l/\l Y<*j\3/\l d∣.dK (NmD (j.take i) id))
   %[%[_,_,_,_|rfl],s1.trans s2,ac|U] (λi n l h=>h.2.2.1) ?_ ?_
  .intro i z n l B %[%[p,t,u,v|rfl],m,I|c];change nD _ _ _ _ [!g,!d,-z,t,u,v] l;show aB λD3 k3 _=>?_
   lk;let zn:z∉j.take i:=λhm=>by
    let h:=nd;rw[<-X7 i j,Yw]at h;exact h.2.2 z hm z (Z8 (i:=0) ((getElem?_drop)▸B)) rfl
   show%[_,je.k (k:=Sum.inr z) c (by unfold NmD;rw[Z6,Yh,PySem.sizeLine_eq];lia)|k3 _ _ %[%[_,_,_,_|ρ],af.set m hd,(am n1).trans I|?_]];rw[upd_same,Gi zn,X6,B];rfl
  intro n H3 %[%[p,t,u,v|rfl],m,I|c];rw[Zn (Zi _)]at c;show k2 _ _ (ak λD4 k4 _=>ay λL hK=>?_);lk;let ae:=hg.up m;show lN ae (.inr (.inl rfl)) %[g,c2,c3,c4,qs,j,ts,rfl,ae|λl2 N=>%[l2,rfl,%[_|Jb.of upd_same]|hK _ _ ?_]];let s4:=af.Ja (o:= .lst (qs\0)) N;let ag:Ja H3 l2 (.lst (qs\0)) l2=_:=upd_same;let n2:l2≠d:=λe=>by rw[e,c]at N;cases N
  let c:=s4 _ _ c;let ai:=m.trans s4
  generalize Ja H3 l2 (.lst (qs\0))=H4 at s4 ag c ai
  show bV (λi n l=>(∃p t u v,n=[!g,!d,p,t,u,v])/\af H l/\l l2∣.lst (qs\0)/\∃f r,l d∣.dK (NmD j f)/\bF j f r (a8 (qs.take i)))
   %[%[_,_,_,_|rfl],ai,ag,id,id,c|ja (bF.start j) λa b=>%[λh=>h.elim|λ⟨q,hq,_⟩=>(nomatch hq)]] (λi n l h=>h.2.2.1) ?_ ?_
  .intro i q n l hq %[%[p,t,u,v|rfl],m,I,f,r,c|F];let%[q1|q2]:=hg.sa q (Z8 hq);let st:=m _ _ q1;let C:=w6 hq;rcases q2 with⟨wd,a,b,e,hw,ha,hb,_⟩|⟨wd,a,y,e,hw,_⟩
   .rw[e]at st C;show%[_,SqT.of st,ρ,_,_,ρ,_,_,ρ,_,_,ρ,ρ|?_];change mL _ _ _ _ [!g,!d,p,-wd,-a,-b] l;show aB λD5 k5 _=>?_
    lk;show ba (λh=>?_) λh=>?_
    .let h:wd=Str.ofString "same":=↑h
     show%[d,a,b,j,f,r,_,ρ,c,F,ha,hb,al|λf' r' F'=>k5 _ _ %[%[_,_,_,_|ρ],af.set m hd,(am n2).trans I,f',r',upd_same|ja F' λx y=>?_]];rw[C,h];show or_congr Iff.rfl %[λ⟨e1,e2⟩=>by rw[e1,e2]|λe=>?_];simp only[List.cons.injEq,V.str.injEq,and_true,true_and]at e;exact%[e.1.symm|e.2.symm]
    .let h:wd≠Str.ofString "same":=↑h
     show k5 _ _ %[%[_,_,_,_|rfl],m,I,f,r,c|ja F λx y=>?_];rw[C];show%[.inl|λe=>e.resolve_right λe=>h ?_];simp only[List.cons.injEq,V.str.injEq]at e;exact e.1
   .rw[e]at st C;show%[_,SqT.of st,ρ,_,_,ρ,_,_,ρ,_,_,ρ,ρ|?_];change mL _ _ _ _ [!g,!d,p,-wd,-a,some (.int y)] l;show aB λD5 k5 _=>?_
    lk;rw[if_neg (by rcases hw with rfl|rfl<;> decide)];show k5 _ _ %[%[_,_,_,_|rfl],m,I,f,r,c|ja F λx z=>?_];rw[C];show%[.inl|λe=>e.resolve_right λe=>?_];simp at e
  intro n H5 %[%[p,t,u,v|rfl],m,I,f,r,c|F];rw[Zn (Zi _)]at F;show k4 _ _ (ak λD6 k6 _=>ay λL hK=>?_);lk;let aj:=hg.up m;show lN aj (.inl rfl) %[g,c2,c3,c4,qs,j,ts,rfl,aj|λl3 O=>%[l3,rfl,%[_|Jb.of upd_same]|hK _ _ ?_]];let s6:=af.Ja (o:= .lst (j\3)) O;let n3:l3≠d:=λe=>by rw[e,c]at O;cases O
  let c:=s6 _ _ c;show bV (λi n l=>(∃p t u v,n=[!g,!d,p,t,u,v])/\af H l/\l l3<*j\3/\∃f,l d∣.dK (NmD j f)/\bF j f r (a8 qs)/\∀z∈j.take i,f z=r z)
   %[%[_,_,_,_|rfl],(m.trans s6),upd_same,f,c,F|λz B=>(nomatch B)] (λi n l h=>h.2.2.1) ?_ ?_
  .intro i z n l B %[%[p,t,u,v|rfl],m,I,f,c,F|G];let zm:=Z8 B;change nD _ _ _ _ [!g,!d,-z,t,u,v] l;show aB λD7 k7 _=>?_
   lk;let get:=λy hy=>by
    let:=cE.k (k:=Sum.inr y) c;rw[lM hy]at this;exact this
   show%[_,get z zm,_,get _ (F.fin z zm),_,je.k (k:=Sum.inr z) c (by unfold NmD;rw[Z6,PySem.sizeLine_eq];lia)|k7 _ _ %[%[_,_,_,_|ρ],af.set m hd,(am n3).trans I,_,?_,F.short zm|λy hy=>?_]]
   .rw[upd_same,B7 zm]
   .rw[X6,B]at hy;by_cases e:y=z
    .rw[if_pos e,e];exact F.done zm λw hw h=>G w (hC so B hw h)
    .rw[if_neg e];rcases Xi hy with h|h
     .exact G y h
     .exact(e (Xj h)).elim
  intro n H7 %[%[p,t,u,v|rfl],m,I,f,c,F|G];rw[Zn (Zi _)]at G;show k6 _ _ ?_;lk;show kk d H7 r m hd ?_ λz B=>%[F.rin z B|F.least B]
  rw[c];unfold NmD;rw[Yl λz B=>by rw[G z B]]
def Gj{X:Cx}{K:ZA}{T id:String}(h:X.K=K)(m:PlainAttrs T)(slot:Slot T name id)(i:typeOf (.builtin id)=pure (.type "method_descriptor"))(n:MtQ X id r)
 (b:attributeBase o name X.env (eval o X.env)=eval o X.env) (a:(e::g).any bg=false) (j:Nat.blt (e::g).length 30=true) (c:(d.endLine==f.line)=true) (p:QE X o q) (s:QA X (e::g) t):
 QE X (.Call (.Attribute o name d) (e::g) [] f) (tBM K T r q t):=by
 let l:=a;rw[Zx,X2]at l;show⟨AS h m slot i n.h p.h s.h b ?_ c (aD l.1) (gc l.2)⟩;rw[rX a];let:decide (~~~(e::g)+ ~~~([]:List Keyword)+(if([]:List Keyword).isEmpty then 0 else 1)<30)=true:=Zf ((Nat.blt_eq.mp j));rw[this];rfl
abbrev grp(r:Str->Str)(xs:ZB):List (Str×ZB):=(xs.filter λz=>decide (r z=z)).map λz=>(z,xs.filter λx=>decide (r x=z))
def zZ(h:∀z∈xs,r z=b z):grp r xs=grp b xs:=by
 unfold grp;rw[List.filter_congr λz a=>by rw[h z a]];show Yl λz a=>?_
 rw[List.filter_congr λx c=>by rw[h x c]]
def DV(a:r z=z)(b:z∉xs)(c:∀x∈xs,r x∈xs):grp r (xs++[z])=grp r xs++[(z,[z])]:=by
 unfold grp;rw[Y1,Zd];show congr (congrArg _ (Yl λw hw=>?_)) ?_
 .let:w≠z:=λe=>b (e▸(List.mem_filter.mp hw).1)
  rw[Y1,Y2 (by rw[a];simpa using this.symm),Y4,Zy]
 .rw[Y3 (by rw[a];simp),Y4];change [(z,_)]=_;rw[Y1,Y3 (by rw[a];simp),Y4,List.filter_eq_nil_iff.mpr λx d=>?_]
  .rfl
  .intro e;exact b ((Zo e)▸c x d)
def DW(a:r z≠z):grp r (xs++[z])=(grp r xs).map λp=>if p.1=r z then(p.1,p.2++[z])else p:=by
 unfold grp;rw[Y1,Y2 ↑a,Y4,Zy,Yn];show Yl λw hw=>?_
 change(w,_)=if w=r z then(w,_)else(w,_)
 rw[Y1];by_cases e:w=r z
 .rw[if_pos e,Y3 (by simpa using e.symm),Y4]
 .rw[if_neg e,Y2 (by simpa using λq=>e q.symm),Y4,Zy]
def jb:y∈(grp r xs)\1↔y∈xs/\r y=y:=by
 unfold grp
 simp_all
def lO(h:xs.Nodup):((grp r xs)\1).Nodup:=by
 unfold grp;rw[Yn,show((λx=>x.1) ∘ λz=>(z,List.filter _ xs))=id from rfl,List.map_id];exact h.filter _
abbrev xU(S:Str->Str->Prop)(a:ZB)(ds:List ZB):Prop:=∃r:Str->Str,(∀z∈a,r z∈a/\cI S z (r z))/\ds=(grp r a)\2
def xU.one{S:Str->Str->Prop}(h:xU S b ds)(g:xU S b c):ds=c:=by
 let%[r,d|rfl]:=h;let%[e,g1|rfl]:=g;rw[zZ λz a=>(d z a).2.one (g1 z a).2]
noncomputable abbrev Gs(a:Type):=List (Str×Addr×List a)
abbrev gD{a:Type}(b:Gs a):List (Key×V):=b.map λg=>(Sum.inr g.1,V.ref g.2.1)
def tK:∀{a:Gs b},y∉a\1->bu (gD a) (Sum.inr y)=none
 |[],_=>rfl
 | g::a,h=>by
   rw[Ym,Ys,not_or]at h;rw[show gD _=(Sum.inr g.1,V.ref _)::gD a from rfl,b8 (λq=>h.1 (Sum.inr.inj q).symm)];exact tK h.2
def hW:∀{a:Gs f},bu (gD a) (Sum.inr y)∣v->∃g∈a,g.1=y/\v= .ref g.2.1
 |[],h=>(nomatch h)
 | g::a,h=>by
   rw[show gD _=(Sum.inr g.1,V.ref _)::gD a from rfl]at h;by_cases e:g.1=y
   .rw[cV (congrArg Sum.inr e)]at h;exact%[g,Zm,e|(Za h).symm]
   .rw[b8 (λq=>e (Sum.inr.inj q))]at h;let%[b,c|d]:=hW h;exact%[b,Zk _ c|d]
def lP:∀{a:Gs b},g∈a->bu (gD a) (Sum.inr g.1)≠none
 | x::a,h,c=>by
   rw[show gD _=(Sum.inr x.1,V.ref _)::gD a from rfl]at c;by_cases e:x.1=g.1
   .rw[cV (congrArg Sum.inr e)]at c;cases c
   .rw[b8 (λq=>e (Sum.inr.inj q))]at c;rcases mem_cons.mp h with q|q
    .exact e (by rw[q])
    .exact lP q c
abbrev ni(H:Hp)(a:ZG):Prop:=∀g∈a,H g.1<*g.2\3
def ni.up{H a:Hp}{b:List _}(h:ni H b)(s:af H a):ni a b:=λg c=>s _ _ (h g c)
structure iV {α:Type} (f:α->V) (H0 H:Hp) (d:Addr) (gs:Gs α):Prop where
 at_:H d∣.dK (gD gs)
 la:∀g∈gs,H0 g.2.1=none/\H g.2.1<*g.2.2.map f
 nd:(gs.map (·.2.1)).Nodup
def DX{f:Type}{c:Gs f}(d:(c\1).Nodup){g h:Str×Addr×List f}(i:g∈c)(j:h∈c)(e:g.1=h.1):g=h:=by
 induction c with
 | nil=>cases i
 | cons x xs l=>
   rw[Ym,nodup_cons]at d;rcases mem_cons.mp i with a|a<;> rcases mem_cons.mp j with b|b
   .rw[a,b]
   .exact(d.1 (by rw[<-a,e];exact Xl %[_,b|rfl])).elim
   .exact(d.1 (by rw[<-b,<-e];exact Xl %[_,a|rfl])).elim
   .exact l d.2 a b
def Ca{f:Type}{c:Gs f}(d:(c.map (·.2.1)).Nodup){g h:Str×Addr×List f}(i:g∈c)(j:h∈c)(e:g.2.1=h.2.1):g=h:=by
 induction c with
 | nil=>cases i
 | cons x xs l=>
   rw[Ym,nodup_cons]at d;rcases mem_cons.mp i with a|a<;> rcases mem_cons.mp j with b|b
   .rw[a,b]
   .exact(d.1 (by rw[<-a,e];exact Xl %[_,b|rfl])).elim
   .exact(d.1 (by rw[<-b,<-e];exact Xl %[_,a|rfl])).elim
   .exact l d.2 a b
abbrev p8{a:Type}(y:Str)(z:a)(b:Gs a):Gs a:=b.map λg=>if g.1=y then(g.1,g.2.1,g.2.2++[z])else g
def Gk(y:Str)(z:b)(a:Gs b):gD (p8 y z a)=gD a:=by
 unfold p8 gD;rw[Yn];show Yl λg _=>?_
 change(Sum.inr (if g.1=y then(g.1,g.2.1,g.2.2++[z])else g).1,V.ref (if g.1=y then(g.1,g.2.1,g.2.2++[z])else g).2.1)=_
 split<;> rfl
def Gm(y:Str)(z:b)(a:Gs b):(p8 y z a).map (·.2.1)=a.map (·.2.1):=by
 unfold p8;rw[Yn];show Yl λg _=>?_
 change(if g.1=y then(g.1,g.2.1,g.2.2++[z])else g).2.1=_
 split<;> rfl
def Gn(y:Str)(z:b)(a:Gs b):(p8 y z a).map (λg=>(g.1,g.2.2))=(a.map λg=>(g.1,g.2.2)).map λp=>if p.1=y then(p.1,p.2++[z])else p:=by
 unfold p8;rw[Yn,Yn];show Yl λg _=>?_
 change((if g.1=y then(g.1,g.2.1,g.2.2++[z])else g).1,(if g.1=y then(g.1,g.2.1,g.2.2++[z])else g).2.2)=if g.1=y then(g.1,g.2.2++[z])else(g.1,g.2.2)
 split<;> rfl
def iV.up{a:Type}{f:a->V}{b H c:Hp}{d:Addr}{e:Gs a}(h:iV f b H d e)(s:af H c):iV f b c d e:=%[s _ _ h.at_,λg i=>%[(h.la g i).1|s _ _ (h.la g i).2]|h.nd]
def iV.add{a:Type}{f:a->V}{l H:Hp}{d:Addr}{b:Gs a}(h:iV f l H d b)(m:(b\1).Nodup){g:Str×Addr×List a}(c:g∈b)(z:a):iV f l (Ja H g.2.1 (.lst (g.2.2.map f++[f z]))) d (p8 g.1 z b):=by
 show%[?_,λo j=>?_|by rw[Gm];exact h.nd]
 .rw[Gk,am (λe=>by let:=(h.la g c).2;rw[<-e,h.at_]at this;cases this)];exact h.at_
 .let%[n,i|rfl]:=Xk j;by_cases e:n.1=g.1
  .rw[if_pos e];obtain rfl:=DX m i c e;show%[(h.la _ c).1|?_];rw[upd_same,Zd];rfl
  .rw[if_neg e];show%[(h.la _ i).1|?_];rw[am (λq=>e (by rw[Ca h.nd i c q]))];exact(h.la _ i).2
def iV.new{l:Gs n}(h:iV f m H d l)(s:af m H)(j:H e=none)(y:Str)(z:n)(o:y∉l\1):iV f m (Ja (Ja (Ja H e (.lst [])) d (.dK (cB (gD l) (Sum.inr y) (.ref e)))) e (.lst [f z])) d (l++[(y,e,[z])]):=by
 show%[?_,λg i=>?_|?_]
 .rw[am (λq=>by rw[<-q,h.at_]at j;cases j),upd_same,eJ _ (tK o)];unfold gD;rw[Zd];rfl
 .rcases Xi i with i|i
  .show%[(h.la g i).1|?_];let q:=(h.la g i).2;rw[am (λc=>by rw[c,j]at q;cases q),am (λc=>by rw[c,h.at_]at q;cases q),am (λc=>by rw[c,j]at q;cases q)];exact q
  .rw[Xj i];exact%[s.free j|upd_same]
 .rw[Zd,Yw];show%[h.nd,by simp|λa p b r c=>?_];let%[g,i|rfl]:=Xk p;let q:=(h.la g i).2
  simp_all
inductive xV (mg:ZC)
 | mk (g c2 c3 c4 qs ls ts):vs=[.ref g]->GrF mg H g c2 c3 c4 qs ls ts->ls.Nodup->ls.Pairwise (λa b=>aS b a=false)-> ~~~ls<=5000->(∀l H' ss,af H H'->H l=none->H' l∣.lst (ss\0)->ni H' ss->(∀s∈ss,H s.1=none)->xU (a8 qs) ls (ss\2)-> ~~~ss<=5000->Q (.ref l) H')->xV mg vs H Q E0
inductive Go (mg:ZC)
 | mk (g c2 c3 c4 qs ls ts z):vs=[.ref g,.str z]->GrF mg H g c2 c3 c4 qs ls ts->ls.Nodup->ls.Pairwise (λa b=>aS b a=false)-> ~~~ls<=5000->z∈ls->(∀H' m,af H H'->cI (a8 qs) z m->Q (.str m) H')->Go mg vs H Q E0
def w8(T:Txt K mg):↥4 "deposits" ["ground"] (xV mg):=by
 .exists T.aT,fo,a5,C,%[g,c2,c3,c4,qs,n,ts,rfl,hg,nd,so,aj|kk];let lm: ~~~(n\3)= ~~~n:=Z6 _;show%[_,%["JDI1G~mA0BDI2yDUS~G~l0L3EZ~nk~o~p2Aj13ATBBA3BEH^]kA]l]m2B",fo.nd|C]|?_]
  change a9 _ _ _ [!g,none,none,none] H;show ak λD1 k1 _=>?_
  lk;show%[g,c2,c3,c4,qs,n,ts,ρ,hg,nd,so,aj|λd H1 r s1 fd I C=>k1 _ _ (ak λD2 k2 _=>?_)];lk;intro e fe;show k2 _ _ (ak λD3 k3 _=>ay λa4 hK=>?_);let al:d≠e:=λc=>by rw[c,fe]at I;cases I
  let s2:=af.Ja (o:= .dK []) fe;let ge:Ja H1 e (.dK []) e∣.dK (gD ([]:Gs Str)):=upd_same;let I:=s2 _ _ I;let fe:=s1.free fe;let U:=s1.trans s2
  generalize Ja H1 e (.dK [])=H2 at s2 ge I U
  lk;let ab:=hg.up U;show lN ab (.inl rfl) %[g,c2,c3,c4,qs,n,ts,rfl,ab|λl1 an=>%[l1,rfl,%[_|Jb.of upd_same]|hK _ _ ?_]];let s3:=af.Ja (o:= .lst (n\3)) an;let J:Ja H2 l1 (.lst (n\3)) l1=_:=upd_same;let I:=s3 _ _ I;let ge:=s3 _ _ ge;let ac:=U.trans s3
  generalize Ja H2 l1 (.lst (n\3))=H3 at s3 J I ge ac
  let r2:∀z∈n,r (r z)=r z:=λz L=>by
   let h:=(C z L)
   let h2:=(C _ h.1).2;exact h2.one %[.refl _|λy c=>h.2.2 y (h.2.1.trans c)]
  let ae:∀z∈n,r z≠z->aS (r z) z=true:=λz L h=>i7 ((C z L).2.2 z (.refl _)) h.symm
  obtain⟨M,as,a0,a1,Y,s0⟩:∃M:Hp,M e=none/\M d∣.dK (NmD n r)/\M l1<*n\3/\af H M/\af M H3:=by
   show%[λa=>if a=e then none else H3 a,if_pos rfl,?_,?_,λa o h=>?_|λa o h=>?_]
   .exact(if_neg (λc=>al c)).trans I
   .exact(if_neg (λc=>by rw[c,ge]at J;cases J)).trans J
   .exact(if_neg (λc=>by rw[c,fe]at h;cases h)).trans (ac _ _ h)
   .let h:(if a=e then none else H3 a)∣o:=h
    split at h
    .cases h
    .exact h
  show bV (λi σ H'=>(∃o3,σ=[!g,!d,!e,o3])/\af M H'/\∃u,iV V.str M H' e u/\u.map (λg=>(g.1,g.2.2))=grp r (n.take i))
   %[%[_|rfl],s0,[],%[ge,λg hg=>(nomatch hg)|Yy]|rfl] (λi σ H' h=>h.2.1 _ _ a1) ?_ ?_
  .intro i z σ H' L %[%[o3|rfl],N,u,b|t];let zm:=Z8 L;let i1:i< ~~~n:=(Xh L).1;change iE _ _ [!g,!d,!e,-z] H';show aB λD4 k4 _=>?_
   lk;let get:=cE.k (k:=Sum.inr z) (N _ _ a0);rw[lM zm]at get;let gk:u\1=(grp r (n.take i))\1:=by rw[<-t,Yn];rfl
   let ag:(u\1).Nodup:=by rw[gk];exact lO (nd.sublist (take_sublist _ _))
   let gl: ~~~u<= ~~~n:=by
    let:=_ST.nodup_sub ag (m:=n) λy hy=>by rw[gk,jb]at hy;exact Yt hy.1
    rw[Z6]at this;exact this
   let zn:z∉n.take i:=λhm=>by
    let h:=nd;rw[<-X7 i n,Yw]at h;exact h.2.2 z hm z (Z8 (i:=0) (by rw[getElem?_drop];exact L)) rfl
   let tk:n.take (i+1)=n.take i++[z]:=by rw[X6,L];rfl
   show%[tyD (b.at_),_,get,#[0]|λp O=>%[Sum.inr (r z),ρ,gD u,?_,?_,λv hv=>?_|λhv=>?_]]
   .rw[am (λc=>by rw[<-c,b.at_]at O;cases O)];exact b.at_
   .unfold gD;rw[Z6];exact aA ⋯
   .let%[q,B,e1|rfl]:=hW hv;let a2:q.1∈u\1:=Xl %[q,B|rfl];let ai:=a2;rw[gk,jb,e1]at ai;let rn:r z≠z:=λc=>zn (by exact c▸ai.1)
    let sp:=af.Ja (o:= .lst []) O;let hl:=sp _ _ (b.la q B).2;let G:=(b.up sp).add ag B z;let ml: ~~~q.2.2<= ~~~n:=by
     let:(q.1,q.2.2)∈grp r (n.take i):=t▸Xl %[q,B|rfl];let%[y,hy|c]:=Xk this;exact((Prod.mk.inj c).2)▸Nat.le_trans (Ye _ _) (by rw[Yh];lia)
    show%[tyL (Jb.of hl),_,ρ,_,hl,by rw[Z6];exact aA ⋯|k4 _ _ %[%[_|ρ],af.set (N.trans sp) (b.la q B).1,_,G|?_]];rw[Gn,t,tk,DW rn,e1]
   .let nk:r z∉u\1:=λh=>by
     let%[q,B|c]:=Xk h;let:=lP B;rw[c,hv]at this;exact this rfl
    let rz:r z=z:=Decidable.byContradiction λc=>nk (by rw[gk,jb];exact%[hC so L (C z zm).1 (ae z zm c)|r2 z zm])
    let de:e≠p:=λq=>by rw[<-q,b.at_]at O;cases O
    rw[rz]at hv nk ⊢;let gp:Ja (Ja H' p (.lst [])) e (.dK (cB (gD u) (Sum.inr z) (.ref p))) p<*[]:=by rw[am de.symm,upd_same]
    show%[tyL (Jb.of gp),[],gp,(show 0<sizeLine by decide)|k4 _ _ %[%[_|ρ],af.set (af.set (N.trans (af.Ja O)) as) (N.free O),_,b.new N O z z nk|?_]];rw[Zd,t,tk,DV rz zn λx hx=>?_]
    .rfl
    .let%[j|hj]:=List.mem_iff_getElem?.mp hx;let xm:=Yt hx;by_cases c:r x=x
     .rw[c];exact hx
     .let ji:j<i:=by let:=(Xh hj).1;rw[Yh]at this;lia
      rw[Y9 ji]at hj;exact List.take_subset_take_left _ (Yb ji) (hC so hj (C x xm).1 (ae x xm c))
  intro σ H' %[%[o3|rfl],N,u,b|t];rw[Zn (Zi _)]at t;show k3 _ _ ?_;lk;let gk:u\1=(grp r n)\1:=by rw[<-t,Yn];rfl
  let gl: ~~~u<= ~~~n:=by
   let:=_ST.nodup_sub (l:=u\1) (gk▸lO nd) (m:=n) λy hy=>by rw[gk,jb]at hy;exact hy.1
   rw[Z6]at this;exact this
  show%[tyD (b.at_),%[_|b.at_]|λv fv=>%[e,upd_same,_,af.Ja fv _ _ b.at_|λl fl=>?_]];let sv:=af.Ja (o:=uO v e) fv;let sl:=af.Ja (o:= .lst ((gD u)\2)) fl;let a3:=N.trans (sv.trans sl);show kk l _ (u\2) (Y.trans a3) ((Y.trans (N.trans sv)).free fl) ?_ (λs hs=>?_) (λs hs=>?_) %[r,C|?_] (by rw[Z6];lia)
  .rw[upd_same];unfold gD;rw[Yn,Yn];rfl
  .let%[q,B|rfl]:=Xk hs;exact sl _ _ (sv _ _ (b.la q B).2)
  .let%[q,B|rfl]:=Xk hs;exact Y.free (b.la q B).1
  .rw[<-t,Yn,Yn];rfl
structure br (S:Str->Str->Prop) (ks0 ks:List _):Prop where
 nd:ks.Nodup
 mem:∀k,k∈ks↔∃a b z a' b',[a,b,z]∈ks0/\cI S a a'/\cI S b b'/\k=[a',b',z]
def br.mm{S:Str->Str->Prop}{a ks b:List ZB}(h:br S a ks)(g:br S a b)(k:ZB):k∈ks↔k∈b:=(h.mem k).trans (g.mem k).symm
def HM{ks c:List ZB}(e:∀k,k∈ks↔k∈c):Ed ks=Ed c:=by
 funext a b;simp only[Ed,e]
def vz{ks c:List ZB}(e:∀k,k∈ks↔k∈c):Dst ks=Dst c:=by
 funext a n b;simp only[Dst,e]
def vA{ks c:List ZB}(e:∀k,k∈ks↔k∈c):Rch ks=Rch c:=by
 funext a b;let q:∀{ks},Rch ks a b↔∃n,Dst ks a (n+1) b:=%[Rch.dst|λ⟨_,h⟩=>h.rch]
 rw[propext q,propext q,vz e]
abbrev xa(r:Str->Str):ZB->ZB
 |[a,b,z]=>[r a,r b,z]
 | k=>k
def xc{S:Str->Str->Prop}{c:List ZB}{l:ZB}{r:Str->Str}(m:∀k∈c,d8 l k)(f:∀z∈l,cI S z (r z))(k:ZB):k∈c.map (xa r)↔∃a b z g h,[a,b,z]∈c/\cI S a g/\cI S b h/\k=[g,h,z]:=by
 rw[mem_map]
 constructor
 .rintro⟨t,d,rfl⟩;let%[a,b,z,rfl,i|j]:=m t d;exact%[a,b,z,r a,r b,d,f a i,f b j|ρ]
 .rintro⟨a,b,z,g,h,d,n,o,rfl⟩;let%[x,y,u,e,i|j]:=m _ d;simp only[List.cons.injEq,and_true]at e;let%[rfl,rfl|rfl]:=e;exact%[_,d|by rw[<-(f a i).one n,<-(f b j).one o];rfl]
inductive vB (mg:ZC)
 | mk (g c2 c3 c4:Addr) (qs:ZN) (ls:ZB) (ts:ZG):vs=[.ref g]->GrF mg H g c2 c3 c4 qs ls ts->ls.Nodup->ls.Pairwise (λa b=>aS b a=false)-> ~~~ls<=5000-> ~~~ts<=150->(∀k∈ts\2,d8 ls k)->(∀l H' ss,af H H'->H l=none->H' l∣.lst (ss\0)->aU H' ss->br (a8 qs) (ts\2) (ss\2)-> ~~~ss<=150->Q (.ref l) H')->vB mg vs H Q E0
def xW(T:Txt K mg):↥4 "links" ["ground"] (vB mg):=by
 .exists T.aV,u9,a1,n,%[g,U,Y,c4,qs,J,ts,rfl,hg,nd,so,ab,a2,h3|kk];show%[_,%["JD,1ghG~mA0BEH=~*A~L~+Alb?1S~G]n0dMV0?2MV1?2MV2?2evmAjN30AjN31A2BBB",u9.nd,↑(["later","earlier","source","names"],[(3,1)]),↑["later","earlier","source","names"]|n]|?_]
  change a9 _ _ _ [!g,none] H;show ak λD1 k1 _=>?_
  lk;show%[g,U,Y,c4,qs,J,ts,ρ,hg,nd,so,ab|λd H1 r s1 fd hd n=>k1 _ _ ?_];lk;show az λa0 hK=>?_
  lk;let u:=hg.up s1;show lN u (.inr (.inr rfl)) %[g,U,Y,c4,qs,J,ts,rfl,u|λL ac=>%[L,rfl,%[_|Jb.of upd_same]|hK _ _ λF hF=>?_]];let M:=af.Ja (o:= .lst (ts\0)) ac;let v:Ja H1 L (.lst (ts\0)) L=_:=upd_same
  generalize Ja H1 L (.lst (ts\0))=H2 at M v hF
  let ae:=M _ _ hd;let ag:=(u.up M).tu;show dQ (λj vs σ N=>(∃o1 o2 o3,σ=[o1,o2,o3,!d])/\af H2 N/\N F<*vs/\∃ps:ZG,vs=ps\0/\aU N ps/\ps\2=((ts.take j)\2).map (xa r))
   %[%[none,none,none|rfl],af.Ja hF,upd_same,[],rfl,iU _|rfl] (λ_ _ _ N ai=>ai.2.1 _ _ v) ?_ ?_
  .intro j vs σ H4 hj %[%[o1,o2,o3|rfl],B,C,ps,O,i|c];let tj:=Ya hj;let%[a,b,z,e,ha|hb]:=h3 _ (Xl %[_,tj|rfl]);let st:=B _ _ (ag _ tj).2;rw[e]at st;let get:∀y∈J,cE H4 d (.str y) (some (.str (r y))):=λy hy=>by
    let:=cE.k (k:=Sum.inr y) (B _ _ ae);rw[lM hy]at this;exact this
   show%[_,SqT.of st,ρ,_,_,ρ,_,_,ρ,_,_,ρ,ρ|?_];change wc [-a,-b,-z,!d] _ _;lk;show%[_,get a ha,_,get b hb,#[3]|λp hp=>?_];let sp:=af.Ja (o:= .tup [V.str (r a),V.str (r b),V.str z]) hp;let gp:Ja H4 p (.tup [V.str (r a),V.str (r b),V.str z]) p=_:=upd_same
   generalize Ja H4 p (.tup [V.str (r a),V.str (r b),V.str z])=H5 at sp gp ⊢
   let keep:=gZ (ys:=vs++[V.ref p]) (sp _ _ C);let pl:=congrArg List.length c;rw[Z6,Z6,Z6,Yh]at pl;show CK.mk hj (sp _ _ C) (by rw[O,Z6];exact aA ⋯) %[%[_,_,_|rfl],af.set (B.trans sp) hF,upd_same,ps++[(p,[r a,r b,z])],by rw[O,Zd];rfl,aT (i9 (aT i λb z e=>sp _ _ e) ∅ gp) keep|?_];rw[Zd,c,X6,Z4 hj,Zd,Zd];change _++[_]=_++[xa r ts[j].2];rw[e];rfl
  intro vs σ H3 %[_,B,aj,ps,O,i|c];rw[Zn (Zi _)]at c;let pl:=congrArg List.length c;rw[Z6,Z6,Z6]at pl;let p3:∀q∈ps,~~~q.2=3:=λq l=>by
   let:q.2∈ps\2:=Xl %[q,l|rfl];rw[c]at this;let%[k,hk|e]:=Xk this;let%[a,b,z,rfl|_]:=h3 k hk;rw[<-e];rfl
  show%[F,ρ,ps,by rw[<-O];exact Jb.of aj,i,%[ps\2,by rw[Z6];lia|λq l=>Xl %[q,l|ρ]]|λl5 al=>?_];let s5:=af.Ja (o:=oo P w l5 (bz ps)) al;let an: ~~~(bz ps)<=150:=by
   let:=_ST.nodup_sub (dL ps) (m:=ps\2) λk hk=>by
    let%[q,l|rfl]:=Xk hk;exact Xl %[q,bv ps q l|rfl]
   rw[Z6,Z6]at this
   lia
  show%[bz ps,upd_same,λq l=>%[(i q (bv ps q l)).1|s5 _ _ (i q (bv ps q l)).2],3,λq l=>p3 q (bv ps q l),!1,⋯|λl6 ss G pm=>?_];let s6:=af.Ja (o:= .lst (ss\0)) G;let I:=s1.trans (M.trans (B.trans s5));let pk:(ss\2).Perm ((bz ps)\2):=pm.map _;show kk l6 _ ss (I.trans s6) (I.free G) upd_same (λq l=>?_) %[pk.nodup_iff.mpr (dL ps)|λk=>?_] (by rw[pm.length_eq];exact an)
  .let as:=pm.mem_iff.mp l;let:=i q (bv ps q as);exact%[this.1|s6 _ _ (s5 _ _ this.2)]
  .rw[pk.mem_iff,gJ,c];exact xc h3 (λz hz=>(n z hz).2) k
def Cb{S:Str->Str->Prop}(d:c.Pairwise (λa b=>aS b a=false))(i:∀z∈c,r z∈c/\cI S z (r z))(h:p∈grp r c):p.2[0]?∣p.1:=by
 unfold grp at h;let%[z,j|rfl]:=Xk h;let%[l|m]:=List.mem_filter.mp j;let f:z∈c.filter (λx=>decide (r x=z)):=List.mem_filter.mpr %[l|m];let d:=d.sublist (List.filter_sublist (p:=λx=>decide (r x=z)));let all:∀x∈c.filter (λx=>decide (r x=z)),aS x z=false:=λx n=>by
  let%[o|s]:=List.mem_filter.mp n;rw[<-Zo s];exact(i x o).2.2 x (.refl _)
 change(c.filter λx=>decide (r x=z))[0]?∣z
 generalize c.filter (λx=>decide (r x=z))=g at all f d
 cases g with
 | nil=>cases f
 | cons y g=>
   rw[List.getElem?_cons_zero];rcases mem_cons.mp f with e|e
   .rw[e]
   .let a:=(List.pairwise_cons.mp d).1 z e;by_cases q:y=z
    .rw[q]
    .let:=i7 (all y Zm) q;rw[a]at this;cases this
structure xX (S:Str->Str->Prop) (ls ns:ZB):Prop where
 nd:ns.Nodup
 mem:∀x,x∈ns↔x∈ls/\cI S x x
 so:ns.Pairwise (λa b=>aS b a=false)
 ne:ls≠[]->ns≠[]
def Gp{S:Str->Str->Prop}{a:ZB}{r:Str->Str}(c:∀z∈a,r z∈a/\cI S z (r z))(h:a≠[]):(grp r a)\1≠[]:=by
 let%[z|f]:=List.exists_mem_of_ne_nil _ h;let%[e|b]:=c z f;let g:cI S (r z) (r z):=%[b.1.symm.trans b.1|λy d=>b.2 y (b.1.trans d)]
 exact List.ne_nil_of_mem (jb.mpr %[e|(c _ e).2.one g])
def Gq{r:Str->Str}{xs:ZB}(h:xs.Pairwise (λa b=>aS b a=false)):((grp r xs)\1).Pairwise (λa b=>aS b a=false):=by
 unfold grp;rw[Yn];change List.Pairwise _ (List.map (λz=>z) _);rw[List.map_id'];exact h.filter _
inductive rq (mg:ZC)
 | mk (g c2 c3 c4 qs ls ts):vs=[.ref g]->GrF mg H g c2 c3 c4 qs ls ts->ls.Nodup->ls.Pairwise (λa b=>aS b a=false)-> ~~~ls<=5000->(∀l H' ns,af H H'->H l=none->H' l<*ns\3->xX (a8 qs) ls ns->Q (.ref l) H')->rq mg vs H Q E0
def dZ(T:Txt K mg):↥5 "deposit_names" ["ground"] (rq mg):=by
 .exists T.aU,lG,M,a,%[g,v,y,B,qs,b,ts,rfl,N,nd,i,l|O];show%[_,%["JEHlb?1SG]oA0BV0?2vR0C",0,↑(["group"],[]),↑["group"]|a]|?_];change iB _ _ [!g] H;lk;show az λC U=>?_
  lk;show%[g,v,y,B,qs,b,ts,ρ,N,nd,i,l|λY H1 ss G f1 I la _ ⟨r,a,J⟩ ab=>%[Y,ρ,%[_|Jb.of I]|U _ _ λF m=>?_]];let sg: ~~~ss= ~~~(grp r b):=by
   let:=congrArg List.length J;rwa[Z6,Z6]at this
  show dQ (λj vs n o=>(∃L,n=[L])/\af H1 o/\o F<*vs/\vs=(((grp r b).take j)\1)\3)
   %[%[none|rfl],af.Ja m,upd_same|rfl] (λ_ _ _ o p=>p.2.1 _ _ I) ?_ ?_
  .intro j vs n H4 q %[%[L|rfl],e,t|c];let u:j< ~~~(grp r b):=by lia
   let e2:ss[j].2=(grp r b)[j].2:=by
    let:=congrArg (λz=>z[j]?) J;simpa [q,u]using this
   lk;show%[_,Jb.of (e _ _ (la _ (Ya q))),_,(show atI (ss[j].2\3) ((0:Nat):Int)∣_ from bC (by rw[Zl,e2,(Cb i a (Ya u))];rfl))|?_];show CK.mk q t (by rw[c,Z6,Z6,Yh];exact aA ⋯) %[%[_|rfl],af.set e m,upd_same|?_];rw[c,X6,Z4 u,Zd,Zd];rfl
  intro vs n H3 %[_,e,d|c];rw[Zn ⋯]at c;rw[c]at d;show O F H3 _ (G.trans e) (G.free m) d %[lO nd,λx=>?_,Gq i|Gp a];rw[jb];show%[λh=>%[h.1|by let:=(a x h.1).2;rwa[h.2]at this]|λh=>%[h.1|(a x h.1).2.one h.2]]
abbrev GrB(H:Hp)(d:Addr)(ss:ZG)(i:Nat):Prop:=∃a,H d∣.dK a/\∀n,(∃l,bu a (Sum.inr n)∣.ref l/\H l∣.lst ((ss.filter λt=>decide (t.2[i]? =some n))\0))\/(bu a (Sum.inr n)=none/\∀t∈ss,t.2[i]? ≠some n)
def GrB.up(h:GrB H d ss i)(s:af H e):GrB e d ss i:=by
 let%[c,f|g]:=h;exact%[c,s _ _ f|λn=>(g n).imp_left λ⟨l,a,b⟩=>%[l,a|s _ _ b]]
abbrev dt(H:Hp)(a:ZB)(ss:ZG):Prop:=∀t∈ss,H t.1&&&t.2\3/\d8 a t.2
def dt.up(h:dt H b ss)(s:af H c):dt c b ss:=λt a=>%[s _ _ (h t a).1|(h t a).2]
def Gr(h:d8 c k)(hi:i<2):∃n,k[i]?∣n/\n∈c:=by
 let%[a,b,z,rfl,d|e]:=h
 match i,hi with
 | 0,_=>exact%[a,ρ|d]
 | 1,_=>exact%[b,ρ|e]
inductive pc
 | mk (l:Addr) (i:Nat) (ns:ZB) (ss:List _):vs=[.ref l,.int i]->i<2->H l∣.lst (ss\0)->dt H ns ss-> ~~~ss<=150->(∀d H',af H H'->H d=none->GrB H' d ss i->Q (.ref d) H')->pc vs H Q E0
inductive Cc (i:Nat)
 | mk (l ns ss):vs=[.ref l]->H l∣.lst (ss\0)->dt H ns ss-> ~~~ss<=150->(∀d H',af H H'->H d=none->GrB H' d ss i->Q (.ref d) H')->Cc i vs H Q E0
def rA(T:Txt K mg):↥1 "grouped" ["found","side"] pc:=by
 .exists T.aF,jG,ag,hr,%[l,i,ns,ss,rfl,hi,Y,ab,ai|kk];let aj: ~~~(ss\0)= ~~~ss:=Z6 _;show%[_,%["JDI2yDUS0L3EZ~nk~o~p2AQ31ATBBA3BEH2"|jG.nd]|?_]
  change a9 _ _ _ [!l,some (.int i),none,none] H;show ak λD1 k1 _=>?_
  lk;intro e fe;show k1 _ _ (ak λD2 k2 _=>ay λae hK=>?_);lk;let se:=af.Ja (o:= .dK []) fe;show%[%[_|Jb.of (se _ _ Y)]|hK _ _ ?_];show bV (λj σ u=>(∃o3,σ=[!l,some (.int i),!e,o3])/\af H u/\∃m,iV (λt:Addr×ZB=>V.ref t.1) H u e m/\(m\1).Nodup/\(∀g∈m,g.2.2=(ss.take j).filter λt=>decide (t.2[i]?∣g.1))/\∀n,n∈m\1↔∃t∈ss.take j,t.2[i]?∣n)
   %[%[_|rfl],se,[],%[upd_same,λg B=>(nomatch B)|Yy],Yy,λg B=>(nomatch B)|by simp] (λj σ u h=>h.2.1 _ _ Y) ?_ ?_
  .intro j t σ u I %[%[o3|rfl],J,m,d,gn,L|O];let tm:=Z8 I;let j1:j< ~~~ss:=(Xh I).1;let%[n,M|_]:=Gr (ab t tm).2 hi;let tk:ss.take (j+1)=ss.take j++[t]:=by rw[X6,I];rfl
   change iE _ _ [!l,some (.int i),!e,some (.ref t.1)] u;show aB λD4 k4 _=>?_
   lk;let gl: ~~~m<= ~~~ss:=by
    let:m\1 ⊆ ss.filterMap λt=>t.2[i]? :=λy hy=>by
     let%[t,I|e]:=(O y).mp hy;exact mem_filterMap.mpr %[t,Yt I|e]
    let:=_ST.nodup_sub gn λx hx=>this hx
    rw[Z6]at this;exact Nat.le_trans this (List.length_filterMap_le _ _)
   let st:=J _ _ (ab t tm).1;let C:∀(N:Gs (Addr×ZB)),(∀y,y∈N\1↔y∈m\1\/y=n)->∀y,y∈N\1↔∃t∈ss.take (j+1),t.2[i]?∣y:=λN h y=>by
    rw[h,O,tk]
    constructor
    .rintro(⟨t',h1,h2⟩|rfl)
     .exact%[t',Yp _ h1|h2]
     .exact%[t,Yq _ Zm|M]
    .rintro⟨t',h1,h2⟩;rcases Xi h1 with q|q
     .exact .inl %[t',q|h2]
     .rw[Xj q,M]at h2;exact .inr (Za h2).symm
   show%[tyD (d.at_),_,SqT.of st,_,bC (show(t.2\3)[i]?∣.str n by rw[Zl,M];rfl),#[0]|λp G=>%[Sum.inr n,ρ,gD m,?_,?_,λv U=>?_|λU=>?_]]
   .rw[am (λc=>by rw[<-c,d.at_]at G;cases G)];exact d.at_
   .unfold gD;rw[Z6];exact aA ⋯
   .let%[q,r,e1|rfl]:=hW U;let sp:=af.Ja (o:= .lst []) G;let Y:=sp _ _ (d.la q r).2;let ml: ~~~q.2.2<= ~~~ss:=by
     rw[L q r];exact Nat.le_trans (Ye _ _) (by rw[Yh];lia)
    let ka:(p8 q.1 t m)\1=m\1:=by
     unfold p8;rw[Yn];show Yl λg _=>?_
     change(if g.1=q.1 then(g.1,g.2.1,g.2.2++[t])else g).1=_
     split<;> rfl
    show%[tyL (Jb.of Y),_,ρ,_,Y,by rw[Z6];exact aA ⋯|k4 _ _ %[%[_|ρ],af.set (J.trans sp) (d.la q r).1,_,((d.up sp).add gn r t),ka▸gn,λg B=>?_|C _ λy=>?_]]
    .unfold p8 at B;let%[g0,h0|rfl]:=Xk B;rw[tk,Y1];by_cases c:g0.1=q.1
     .rw[if_pos c];change g0.2.2++[t]=_++List.filter (λt=>decide (t.2[i]?∣g0.1)) [t];rw[L g0 h0,Y3 (by rw[M,c,e1];simp),Y4]
     .rw[if_neg c,L g0 h0,Y2 (by rw[M,<-e1];simpa using λz=>c z.symm),Y4,Zy]
    .rw[ka];exact%[.inl|λh=>h.elim id λh=>by rw[h,<-e1];exact Xl %[q,r|ρ]]
   .let nk:n∉m\1:=λh=>by
     let%[q,r|c]:=Xk h;let:=lP r;rw[c,U]at this;exact this rfl
    let de:e≠p:=λq=>by rw[<-q,d.at_]at G;cases G
    let gp:Ja (Ja u p (.lst [])) e (.dK (cB (gD m) (Sum.inr n) (.ref p))) p<*[]:=by rw[am de.symm,upd_same]
    show%[tyL (Jb.of gp),[],gp,(show 0<sizeLine by decide)|k4 _ _ %[%[_|ρ],af.set (af.set (J.trans (af.Ja G)) fe) (J.free G),_,d.new J G n t nk,?_,λg B=>?_|C _ λy=>?_]]
    .rw[Zd,Yw];exact%[gn,by simp|λa ha b hb c=>nk (by rw[<-show b=n from Xj hb,<-c];exact ha)]
    .rw[tk,Y1];rcases Xi B with q|q
     .let c:g.1≠n:=λc=>nk (c▸Xl %[g,q|rfl])
      rw[L g q,Y2 (by rw[M];simpa using λz=>c z.symm),Y4,Zy]
     .rw[Xj q];change [t]=_++List.filter (λt=>decide (t.2[i]?∣n)) [t];rw[Y3 (by rw[M];simp),Y4,List.filter_eq_nil_iff.mpr λt' ac c=>nk ((O n).mpr %[t',ac|Zo c])];rfl
    .rw[Zd,Yo,Ym,map_nil,Yu]
  .intro σ u %[%[o3|rfl],J,m,d,gn,L|O];rw[Zn (Zi _)]at L O;show k2 _ _ ?_;lk;show kk e u J fe %[_,d.at_|λn=>?_];cases U:bu (gD m) (Sum.inr n)with
   | none=>
     show .inr %[rfl|λt I c=>?_];let%[q,r|c]:=Xk ((O n).mpr %[t,I|c]);let:=lP r;rw[c,U]at this;exact this rfl
   | some v=>
     let%[q,r,e1|rfl]:=hW U;show .inl %[_,rfl|?_];rw[(d.la q r).2,L q r,e1]
def dH(T:Txt K mg):↥2 "links_by_later" ["found"] (Cc 0):=by
 .exists T.aC,ki,d,e,%[l,c,ss,rfl,g,a,b|i];exact%[_,%["JEHG~>A0A|B",0|e],l,0,c,ss,ρ,by simp,g,a,b|i]
def jJ(T:Txt K mg):↥2 "links_by_earlier" ["found"] (Cc 1):=by
 .exists T.aD,jf,d,e,%[l,c,ss,rfl,g,a,b|i];exact%[_,%["JEHG~>A0A~HB",0|e],l,1,c,ss,ρ,by simp,g,a,b|i]
structure ReB (ss:ZG) (rs:Gs Str):Prop where
 nd:(rs\1).Nodup
 sub:∀r∈rs,r.2∈ss/\r.2.2[1]?∣r.1
def ReB.len(h:ReB ss rs): ~~~rs<= ~~~ss:=by
 let:=_ST.nodup_sub h.nd (m:=ss.filterMap λt=>t.2[1]?) λx a=>by
  let%[r,b|rfl]:=Xk a;exact mem_filterMap.mpr %[r.2|h.sub r b]
 rw[Z6]at this;exact Nat.le_trans this (List.length_filterMap_le _ _)
def ReB.snoc(h:ReB ss rs)(d:(a,[p,y,z])∈ss)(e:y∉rs\1):ReB ss (rs++[(y,a,[p,y,z])]):=by
 show%[?_|λr f=>?_]
 .rw[Zd,Yw];exact%[h.nd,by simp|λa g b i c=>e (by rw[<-show b=y from Xj i,<-c];exact g)]
 .rcases Xi f with q|q
  .exact h.sub r q
  .rw[Xj q];exact%[d|ρ]
abbrev cR(d:Addr)(H a:Hp):Prop:=∀b o,b≠d->H b∣o->a b∣o
def cR.trans(h:cR d H c)(g:cR d c a):cR d H a:=λb o n e=>g b o n (h b o n e)
def cR.of(h:af H a):cR d H a:=λb o _ e=>h b o e
def GrB.x(h:GrB H b ss i)(s:cR d H f)(n:b≠d)(m:H d∣.dK o):GrB f b ss i:=by
 let%[e,g|j]:=h;exact%[e,s _ _ n g|λn=>(j n).imp_left λ⟨l,a,b⟩=>%[l,a|s _ _ (λc=>by lia) b]]
def dt.x(h:dt H e ss)(s:cR d H f)(g:H d∣.dK i):dt f e ss:=λt a=>%[s _ _ (λc=>by let b:=(h t a).1;grind) (h t a).1|(h t a).2]
def GrB.get(h:GrB f b ss i)(s:cR d f H)(nb:b≠d)(q:∀xs,f d≠some (.lst xs))(r:H p=none)(n:Str):∃e a,Ja H p (.lst []) b∣.dK e/\(bu e (Sum.inr n)).getD (.ref p)= .ref a/\Ja H p (.lst []) a∣.lst ((ss.filter λt=>decide (t.2[i]? =some n))\0)/\(a=p\/∃o,f a∣o):=by
 let%[e,m|u]:=h;let sp:=af.Ja (o:= .lst []) r;rcases u n with⟨l,g,j⟩|⟨g,v⟩
 .exact%[e,l,sp _ _ (s _ _ nb m),by rw[g];rfl,sp _ _ (s _ _ (λc=>q _ (c▸j)) j)|.inr %[_|j]]
 .show%[e,p,sp _ _ (s _ _ nb m),by rw[g];rfl,?_|.inl rfl];rw[List.filter_eq_nil_iff.mpr λt y c=>v t y (Zo c)];exact upd_same
inductive xY
 | mk (b e d:Addr) (ns F:ZB) (ss:List _) (rs:Gs Str):vs=[.ref b,.ref e,.ref d]->b≠d->GrB H b ss 0->dt H ns ss-> ~~~ss<=150->H e<*F\3->H d∣.dK (gD rs)->ReB ss rs->(∀g H' new,cR d H H'->H g=none->H' g<*(new\1)\3->H' d∣.dK (gD (rs++new))->ReB ss (rs++new)->(∀r∈new,∃p∈F,r.2.2[0]?∣p)->(∀x∈F,∀y,Ed (ss\2) x y->y∈(rs++new)\1)->Q (.ref g) H')->xY vs H Q E0
def vC(T:Txt K mg):↥1 "next_edge" ["beneath","edge","reached"] xY:=by
 .exists T.aI,ee,bd,hr,%[b,e,d,ns,F,ss,rs,rfl,ai,hb,aj,bf,he,hd,a4|kk];let Fm: ~~~(F\3)= ~~~F:=Z6 _;let ed:e≠d:=λc=>by rw[c,hd]at he;cases he
  show%[_,%["JDI3TBDUS1L4EUS~Q~V0A4ATBBL5EO}Q5~H2Dz52Q5~HEZsk3AQ5~HBPEH3",ee.nd|hr]|?_]
  change a9 _ _ _ [!b,!e,!d,none,none,none] H;show ak λD1 k1 _=>?_
  lk;show%[#[0]|λg fg=>k1 _ _ (ak λD2 k2 _=>ay λal hK=>?_)];let gd:g≠d:=λc=>by rw[c,hd]at fg;cases fg
  let s1:=af.Ja (o:= .lst []) fg;let gg:Ja H g (.lst []) g<*(([]:Gs Str)\1)\3:=upd_same
  generalize Ja H g (.lst [])=H1 at s1 gg
  lk;show%[%[_|Jb.of (s1 _ _ he)]|hK _ _ ?_];show bV (λi U Y=>(∃o4 o5,U=[!b,!e,!d,!g,o4,o5])/\cR d H Y/\∃new:Gs Str,Y g<*(new\1)\3/\Y d∣.dK (gD (rs++new))/\ReB ss (rs++new)/\(∀r∈new,∃p∈F,r.2.2[0]?∣p)/\∀x∈F.take i,∀y,Ed (ss\2) x y->y∈(rs++new)\1)
   %[%[_,_|rfl],cR.of s1,[],gg,by rw[Zy];exact s1 _ _ hd,by rw[Zy];exact a4,λr hr=>(nomatch hr)|λx hx=>(nomatch hx)] (λi U Y h=>h.2.1 _ _ ed he) ?_ ?_
  .intro i n U Y hn %[%[o4,o5|rfl],sm,new,hg,l,J,ae|m];let tk:F.take (i+1)=F.take i++[n]:=by rw[X6,hn];rfl
   change Ap _ _ _ _ [!b,!e,!d,!g,-n,o5] Y;show aB λD3 k3 _=>ay λal hK=>?_
   lk;show%[tyD (sm _ _ ai hb.choose_spec.1),#[0]|λp hp=>?_];let%[a5,a,an,a6,L|a7]:=hb.get sm ai (λxs c=>by rw[hd]at c;cases c) hp n;let ag:a≠g:=by
    rcases a7 with rfl|⟨o,ho⟩
    .exact λc=>by rw[c,hg]at hp;cases hp
    .exact λc=>by rw[c,fg]at ho;cases ho
   let ad:a≠d:=λc=>by
    let:=L;rw[c,am (λc=>by rw[c,hp]at l;cases l),l]at this;cases this
   let sp:=af.Ja (o:= .lst []) hp;let hg:=sp _ _ hg;let l:=sp _ _ l;let sm:=sm.trans (cR.of sp)
   generalize Ja Y p (.lst [])=H2 at an L sp hg l sm ⊢
   generalize as:(ss.filter λt=>decide (t.2[0]?∣n))=ts at L
   let tm: ~~~(ts\0)= ~~~ts:=Z6 _;let bb:∀t∈ts,t∈ss/\∃y z,t.2=[n,y,z]:=λt ht=>by
    rw[<-as]at ht;let%[h1|h2]:=List.mem_filter.mp ht;let%[x,y,z,e|_]:=(aj t h1).2;let h2:=Zo h2;rw[e]at h2;exact%[h1,y,z|by rw[e,show x=n from Za h2]]
   show%[Sum.inr n,ρ,a5,an,a,a6,%[_|Jb.of L]|hK _ _ ?_];show bV (λj U O=>(∃o5,U=[!b,!e,!d,!g,-n,o5])/\cR d H O/\O a∣.lst (ts\0)/\∃new:Gs Str,O g<*(new\1)\3/\O d∣.dK (gD (rs++new))/\ReB ss (rs++new)/\(∀r∈new,∃p∈F,r.2.2[0]?∣p)/\(∀x∈F.take i,∀y,Ed (ss\2) x y->y∈(rs++new)\1)/\∀t∈ts.take j,∀y,t.2[1]?∣y->y∈(rs++new)\1)
    %[%[_|rfl],sm,L,new,hg,l,J,ae,m|λt ht=>(nomatch ht)] (λj U O h=>h.2.2.1) ?_ ?_
   .intro j t U O ht %[%[o5|rfl],M,N,new,ab,G,B,C,u|ac];let%[a0,y,z|et]:=bb t (Z8 ht);let I:=(aj.x M hd t a0).1;rw[et]at I;let bc:ts.take (j+1)=ts.take j++[t]:=by rw[X6,ht];rfl
    change mL _ _ _ _ [!b,!e,!d,!g,-n,some (.ref t.1)] O;show aB λD4 k4 _=>?_
    lk;show%[_,SqT.of I,_,ρ,_,cE.k (k:=Sum.inr y) G|?_];let a1:∀(nw:Gs Str),(∀x∈(rs++new)\1,x∈(rs++nw)\1)->y∈(rs++nw)\1->(∀x∈F.take i,∀y,Ed (ss\2) x y->y∈(rs++nw)\1)/\∀t∈ts.take (j+1),∀y,t.2[1]?∣y->y∈(rs++nw)\1:=λnw mono hy=>by
     show%[λx hx y h=>mono y (u x hx y h)|λt' a2 y' h=>?_];rw[bc]at a2;rcases Xi a2 with q|q
     .exact mono y' (ac t' q y' h)
     .rw[Xj q,et]at h;rw[<-show y=y' from Za h];exact hy
    cases hv:bu (gD (rs++new)) (Sum.inr y)with
    | some v=>
      rw[if_neg ∅];let%[q,hq,e1|_]:=hW hv;let%[n1|n2]:=a1 new (λ_ h=>h) (by rw[<-e1];exact Xl %[q,hq|rfl]);exact k4 _ _ %[%[_|rfl],M,N,new,ab,G,B,C,n1|n2]
    | none=>
      rw[if_pos (by rfl)];let hy:y∉(rs++new)\1:=λh=>by
       let%[q,hq|c]:=Xk h;let:=lP hq;rw[c,hv]at this;exact this rfl
      let ln:=B.len;let nl: ~~~new<=150:=by rw[Z9]at ln;lia
      show%[_,SqT.of I,_,ρ,_,je.k (k:=Sum.inr y) G (by unfold gD;rw[Z6];exact aA ⋯)|?_];rw[eJ _ hv];let e1:gD (rs++new) ++[(Sum.inr y,V.ref t.1)]=gD (rs++(new++[(y,t.1,[n,y,z])])):=by
       unfold gD;rw[<-Ze,Zd (l₂:=[_])];rfl
      rw[e1];let u1:∀c o,c≠d->O c∣o->Ja O d (.dK (gD (rs++(new++[(y,t.1,[n,y,z])])))) c∣o:=λc o h e=>(am h)▸e
      let a3:=u1 _ _ gd ab;let R:=B.snoc (p:=n) (y:=y) (z:=z) (a:=t.1) (et▸a0) hy;rw[Ze]at R;let%[n1|n2]:=a1 (new++[(y,t.1,[n,y,z])]) (λx hx=>by rw[<-Ze,Zd];exact Yp _ hx) (by rw[<-Ze,Zd];exact Yq _ Zm);show%[tyL (Jb.of a3),_,SqT.of (u1 _ _ (λc=>by rw[c,G]at I;cases I) I),_,ρ,_,a3,by rw[Z6,Z6];exact aA ⋯|k4 _ _ %[%[_|ρ],λc o h e=>?_,(am ag).trans (u1 _ _ ad N),_,?_,(am gd.symm).trans upd_same,R,?_,n1|n2]]
      .rw[am (aC e fg)];exact u1 _ _ h (M _ _ h e)
      .rw[upd_same,Zd,Zd];rfl
      .intro r hr;rcases Xi hr with q|q
       .exact C r q
       .rw[Xj q];exact%[n,Z8 hn|ρ]
   .intro U O %[%[o5|rfl],M,N,new,ab,G,B,C,u|ac];rw[Zn (Zi _)]at ac;show k3 _ _ %[%[_,_|rfl],M,new,ab,G,B,C|λx hx y ⟨z,hy⟩=>?_];rw[tk]at hx;rcases Xi hx with q|q
    .exact u x q y %[z|hy]
    .rw[Xj q]at hy;let%[t,ht|et]:=Xk hy;exact ac t (as▸List.mem_filter.mpr %[ht|by rw[et];simp]) y (by rw[et];rfl)
  .intro U Y %[%[o4,o5|rfl],sm,new,hg,l,J,ae|m];rw[Zn (Zi _)]at m;show k2 _ _ ?_;lk;exact kk g Y new sm fg hg l J ae m
def rB{b:Bool}(h: ¬ (not b)=true):b=true:=by
 cases b
 .exact absurd rfl h
 .rfl
def lQ{rs:Gs Str}{y:Str}(h:y∈rs\1):∃r∈rs,r.1=y/\bu (gD rs) (Sum.inr y)∣.ref r.2.1:=by
 cases b:bu (gD rs) _ with
 | none=>
   let%[q,a|c]:=Xk h;let:=lP a;rw[c,b]at this;exact(this rfl).elim
 | some v=>
   let%[q,a,e|rfl]:=hW b;exact%[q,a,e|ρ]
inductive Cd
 | mk (d st goal ns F ss rs dd k):vs=[.ref d,.str st,.str goal]->H d∣.dK (gD rs)->ReB ss rs->Lev (ss\2) st rs dd k F->k<=200->dt H ns ss->goal∈rs\1->(∀l H' (ws:List _),af H H'->H l=none->H' l∣.lst (ws\0)->(∀t∈ws,t∈ss)->Wal (ws\2) st goal-> ~~~ws=dd goal->Q (.ref l) H')->Cd vs H Q E0
def Ce(T:Txt K mg):↥1 "way_to" ["reached","start","goal"] Cd:=by
 .exists T.aJ,qQ,ab,j,%[d,st,a,ns,F,ss,rs,i,k,rfl,hd,C,l,hk,G,n|kk];show%[_,%["JDI3TAj02BD~FKnQR3+C|1EZsk3Aj0QR3+C|BEH]p3",qQ.nd|j]|?_]
  change a9 _ _ _ [!d,-st,-a,none] H;show ak λD1 k1 _=>?_
  lk;let%[r,I,e1|hv]:=lQ n;let get:=cE.k (k:=Sum.inr a) hd;rw[hv]at get;show%[_,get,#[1]|λb fw=>k1 _ _ (ak λD2 k2 _=>?_)];let s1:=af.Ja (o:= .lst [V.ref r.2.1]) fw;let gw:Ja H b (.lst [V.ref r.2.1]) b∣.lst (([]:ZG).reverse\0 ++[V.ref r.2.1]):=upd_same
  generalize Ja H b (.lst [V.ref r.2.1])=H1 at s1 gw
  show⟨λm σ u=>σ=[!d,-st,-a,!b]/\af H u/\∃(us:ZG) (r:Str×Addr×ZB),r∈rs/\m=i r.1/\u b∣.lst (us.reverse\0 ++[.ref r.2.1])/\(∀t∈us,t∈ss)/\Wal (us\2) r.1 a/\ ~~~us+m=i a,%[_,rfl,s1,[],r,I,rfl,gw,λt h=>(nomatch h),e1|by rw[e1];simp],?_⟩;intro m σ H2 %[rfl,v,us,r,j,rfl,hw,y,B|hl];let%[ac,p,z,J|hp]:=l.by_ r j;let e:=(C.sub r j).1;let g:=v _ _ (G _ e).1;rw[J]at g;let gl:=l.le a n;lk;show%[_,Jb.of hw,_,ud _ _,_,ρ,_,SqT.of g,_,ρ,ρ|ba (λh=>?_) λh=>?_]
  .let h:p≠st:=↑h
   let%[_,L|ae]:=hp.resolve_left λc=>h c.1
   let%[r',M,N|O]:=lQ L;let get:=cE.k (k:=Sum.inr p) (v _ _ hd);rw[O]at get;show⟨λU u=>∃Y,Y<i r.1/\U=[!d,-st,-a,!b]/\af H u/\∃(us:ZG) (r:Str×Addr×ZB),r∈rs/\Y=i r.1/\u b∣_/\(∀t∈us,t∈ss)/\Wal (us\2) r.1 a/\ ~~~us+Y=i a,λ_ _ h=>h,tyL (Jb.of hw),_,Jb.of hw,_,ud _ _,_,rfl,_,SqT.of g,_,rfl,_,get,_,hw,by rw[Z9,Z6,List.length_reverse,Yg];exact aA ⋯,_,?_,rfl,af.set v fw,r.2::us,r',M,rfl,?_,?_,?_,?_⟩
   .rw[N];lia
   .rw[upd_same,List.reverse_cons,Zd];rfl
   .intro t ht;rcases mem_cons.mp ht with q|q
    .exact q▸e
    .exact y t q
   .exact%[r.1,z,J.trans (by rw[N])|B]
   .rw[Zr,N];lia
  .let h:p=st:=↑h
   show k2 _ _ ?_;lk;show%[_,hw|λq fq=>kk q _ (r.2::us) (v.trans (af.Ja fq)) (v.free fq) ?_ (λt ht=>?_) %[r.1,z,J.trans (by rw[h])|B] (by rw[Zr];lia)]
   .rw[upd_same,List.reverse_append,<-List.map_reverse,List.reverse_reverse];rfl
   .rcases mem_cons.mp ht with q|q
    .exact q▸e
    .exact y t q
inductive vD
 | mk (b st goal ns ss):vs=[.ref b,.str st,.str goal]->GrB H b ss 0->dt H ns ss-> ~~~ss<=150->(∀H',af H H'-> ¬ Rch (ss\2) st goal->Q .non H')->(∀l H' (ws:List _),af H H'->H l=none->H' l∣.lst (ws\0)->(∀t∈ws,t∈ss)->Sho (ss\2) st goal (ws\2)-> ~~~ws<=200->Q (.ref l) H')->vD vs H Q E0
abbrev HB(H:Hp)(b d:Addr)(st a:Str)(ss:ZG)(m:Nat)(f:_LL.St)(c:Hp):Prop:=∃e F rs g k,f=[!b,-st,-a,!d,!e]/\af H c/\c e<*F\3/\c d∣.dK (gD rs)/\ReB ss rs/\Lev (ss\2) st rs g k F/\k<= ~~~rs+1/\(F≠[]->k<= ~~~rs)/\m=2*(150-rs.length) +F.length.min 1
def pd(T:Txt K mg):↥2 "shortest_way" ["beneath","start","goal"] vD:=by
 .exists T.aH,c9,as,C,%[b,st,i,ns,ss,rfl,hb,G,ac,kn|ky];show%[_,%["JDI3yDI4TA1BD~FiwK*XYA4BC&}23EI4G]qA0A4A3BDO}23EH[PEHG]rA3A1A2B",c9.nd|C]|?_]
  change a9 _ _ _ [!b,-st,-i,none,none] H;show ak λD1 k1 _=>?_
  lk;intro d fd;show k1 _ _ (ak λD2 k2 _=>?_);let ae:b≠d:=λc=>by
   let%[a0,N|_]:=hb;rw[c,fd]at N;cases N
  let s1:=af.Ja (o:= .dK []) fd;let B:Ja H d (.dK []) d∣.dK (gD ([]:Gs Str)):=upd_same
  generalize Ja H d (.dK [])=H1 at s1 B
  lk;show%[#[1]|λe fe=>k2 _ _ (ak λD3 k3 _=>?_)];let s2:=af.Ja (o:= .lst [V.str st]) fe;let O:Ja H1 e (.lst [V.str st]) e<*[st]\3:=upd_same;let B:=s2 _ _ B;let U:=s1.trans s2
  generalize Ja H1 e (.lst [V.str st])=H2 at U O B
  show%[HB H b d st i ss,%[_,e,[st],[],_,_,ρ,U,O,B,%[Yy|λ_ h=>(nomatch h)],.nil,by simp,λ_=>Zi _|ρ]|?_];intro m σ H3 %[e,F,rs,dd,k,rfl,I,O,B,J,j,hk,ag|rfl];let fm: ~~~(F\3)= ~~~F:=Z6 _;let get:=cE.k (k:=Sum.inr i) B;let rl:=J.len;let L:i∈rs\1↔(bu (gD rs) (Sum.inr i)).isSome=true:=by
   show%[λh=>?_|λh=>?_]
   .let%[r,_,_|e]:=lQ h;rw[e];rfl
   .let%[v|hv]:=isSome_iff_exists.mp h;let%[q,hq,c|_]:=hW hv;exact c▸Xl %[q,hq|rfl]
  lk;let fin:(i∉rs\1->F=[])->D3.nx [!b,-st,-i,!d,!e] H3:=λh=>by
   show k3 _ _ (ak λD4 k4 r4=>?_);lk;show%[_,get|ba (λq=>?_) λq=>?_]
   .let q:i∉rs\1:=λc=>by rw[L.mp c]at q;cases q
    show r4 _ _ (kn H3 I λr=>q ?_);let%[n|hn]:=r.dst;rw[h q]at j;exact j.stop hn
   .let q:i∈rs\1:=L.mpr (rB q);show k4 _ _ ?_;lk;show%[d,st,i,ns,F,ss,rs,dd,k,ρ,B,J,j,⋯,G.up I,q|λl H' ws s' fl hl Y ai wl=>ky l H' ws (I.trans s') (I.free fl) hl Y %[λk hk=>?_,ai,?_|λn hn=>?_] (by rw[wl];let:=j.le _ q;lia)]
    .let%[t,ht|rfl]:=Xk hk;exact Xl %[t,Y t ht|rfl]
    .rw[Z6,wl];exact(j.dst q).1
    .rw[Z6,wl];exact j.min q hn
  show%[_,.inl %[_,Jb.of O|ρ]|ba (λh=>?_) λh=>fin λ_=>?_]
  .let h:0< ~~~F:=by
    rw[fm]at h;let:=Zo h
    lia
   show%[_,get|ba (λq=>⟨λaj H'=>∃m',m'<2*(150-rs.length) +F.length.min 1/\HB H b d st i ss m' aj H',λ_ _ h=>h,b,e,d,ns,F,ss,rs,ρ,ae,hb.up I,G.up I,ac,O,B,J,λg H4 new sx fg hg al u an M=>?_⟩) λq=>fin λc=>absurd (L.mpr (rB q)) c];let ln:=u.len;rw[Z9]at ln;let ab:F.length.min 1=1:=Nat.min_eq_right h;let kF:=ag λc=>by rw[c]at h;cases h
   show%[_,?_,g,new\1,rs++new,_,_,ρ,(λc o ec=>sx c o (λz=>by rw[z,fd]at ec;cases ec) (I _ _ ec)),hg,al,u,j.step u.nd (λr C=>?_) M,?_,λnn=>?_|ρ]
   .rw[ab,Z9,Z6];cases new with
    | nil=>simp
    | cons a r=>
      rw[Zr]at ln ⊢;let:(~~~r+1).min 1<=1:=Nat.min_le_right _ _
      lia
   .let%[N|h2]:=u.sub r (Yq _ C);let%[p,hp|h3]:=an r C;let%[x,y,z,e|_]:=(G r.2 N).2;rw[e]at h2 h3;exact%[Xl %[_,N|ρ],p,z,hp|by rw[e,show x=p from Za h3,show y=r.1 from Za h2]]
   .rw[Z9];lia
   .cases new with
    | nil=>exact absurd rfl nn
    | cons a r=>rw[Z9,Zr];lia
  .cases F with
   | nil=>rfl
   | cons x F=>exact absurd (Zf (by rw[fm,Zr];lia)) h
abbrev VD(a:ZB)(g:Str->V):List (Key×V):=a.map λz=>(Sum.inr z,g z)
def lR:∀{a:ZB},z∈a->bu (VD a g) (Sum.inr z)∣g z
 | x::a,h=>by
   by_cases e:x=z
   .subst e;exact cV rfl
   .rw[show VD _ g=(Sum.inr x,g x)::VD a g from rfl,b8 (λq=>e (Sum.inr.inj q))];exact lR ((mem_cons.mp h).resolve_left λq=>e q.symm)
def np:∀{a:ZB},z∉a->bu (VD a g) (Sum.inr z)=none
 |[],_=>rfl
 | x::a,h=>by
   rw[Ys,not_or]at h;rw[show VD _ g=(Sum.inr x,g x)::VD a g from rfl,b8 (λq=>h.1 (Sum.inr.inj q).symm)];exact np h.2
def Cf(h:z∈a):cB (VD a g) (Sum.inr z) v=VD a (λx=>if x=z then v else g x):=by
 unfold cB;rw[if_pos (by rw[fK,lR h];rfl)];unfold VD;rw[Yn];show Yl λx _=>?_
 change(if(Sum.inr x)=Sum.inr z then((Sum.inr x),v)else(Sum.inr x,g x))=(Sum.inr x,if x=z then v else g x)
 by_cases e:x=z
 .rw[if_pos (congrArg _ e),if_pos e]
 .rw[if_neg (λq=>e (Sum.inr.inj q)),if_neg e]
abbrev cnt(ss:ZG)(L:ZB)(n:Str):Nat:=ss.countP λt=>decide (t.2[0]?∣n)&&t.2[1]?.all λy=>decide (y∉L)
def DY(ss:List _)(n:Str):cnt ss [] n= ~~~(ss.filter λt=>decide (t.2[0]?∣n)):=by
 unfold cnt;rw[<-List.countP_eq_length_filter]
 simp_all
def Cg(h:cnt ss L m=0)(e:Ed (ss\2) m y):y∈L:=by
 let%[z|a]:=e;let%[t,b|c]:=Xk a;let:=List.countP_eq_zero.mp h t b
 simp_all
def vE(b:m∉L):∀ss:ZG,cnt ss L n=cnt ss (L++[m]) n+(ss.filter λt=>decide (t.2[1]?∣m)).countP λt=>decide (t.2[0]?∣n)
 |[]=>rfl
 | t::ss=>by
   let c:=vE (n:=n) b ss;unfold cnt at c ⊢;rw[countP_cons,countP_cons,c];cases d:t.2[1]? with
   | none=>rw[Y2 ⋯];simp only[Option.all_none];lia
   | some y=>
     by_cases e:y=m
     .subst e;rw[Y3 (by rw[d];simp),countP_cons];by_cases a:t.2[0]?∣n
      .simp[a,b];lia
      .simp[a]
     .rw[Y2 (by rw[d];simpa using e)];by_cases a:t.2[0]?∣n
      .by_cases f:y∈L
       .simp[f]
       .simp[a,f,e];lia
      .simp[a]
abbrev Ch(ks:List ZB)(a L:ZB):Prop:=∀i x,L[i]?∣x->∀y∈a,y∉L.take i->(∀z,Ed ks y z->z∈L.take i)->aS y x=false
def Gu{H:Hp}{f L:ZB}{ss:ZG}(c:dt H f ss){y:Str}(h:∀z,Ed (ss\2) y z->z∈L):cnt ss L y=0:=by
 show List.countP_eq_zero.mpr λt d q=>?_
 let%[_,a,b,z,e|_]:=c t d;rw[e]at q;simp only[Zw]at q;let g:a=y:=Za (Zo q.1);exact Zo q.2 (h b %[z|by rw[<-g,<-e];exact Xl %[t,d|rfl]])
structure HC (ss:ZG) (ns L R:ZB):Prop where
 nd:(L++R).Nodup
 mem:∀x,x∈L++R↔x∈ns/\cnt ss L x=0
 ord:∀(i:Nat) x,L[i]?∣x->∀y,Ed (ss\2) x y->y∈L.take i
 lst:Ch (ss\2) ns L
abbrev HD(f:Hp)(l m b a w e ld:Addr)(d:ZB)(ss:ZG)(k:Nat)(g:_LL.St)(c:Hp):Prop:=∃(h i j:Option V) (L R:ZB),g=[!l,!m,!b,!a,!w,h,!e,!ld,i,j]/\af f c/\c w∣.dK (VD d λn=> .int (cnt ss L n))/\c e<*R\3/\c ld<*L\3/\HC ss d L R/\k= ~~~d-L.length
inductive xZ
 | mk (l m ns ss):vs=[.ref l,.ref m]->H l<*ns\3->ns.Nodup-> ~~~ns<=63->H m∣.lst (ss\0)->dt H ns ss-> ~~~ss<=150->(∀r H' (L:ZB),af H H'->H' r<*L\3->L.Nodup->(∀x∈L,x∈ns)->(∀i x,L[i]?∣x->∀y,Ed (ss\2) x y->y∈L.take i)->(∀x∈ns,x∉L->∃y,Ed (ss\2) x y/\y∈ns/\y∉L)->Ch (ss\2) ns L->H r=none->Q (.ref r) H')->xZ vs H Q E0
def iW(T:Txt K mg):↥3 "laid_in_turn" ["names","found"] xZ:=by
 .exists T.aG,aW,c1,hr,%[l,m,d,ss,rfl,hl,nn,nl,hm,ab,bU|kk];let nm: ~~~(d\3)= ~~~d:=Z6 _;show%[_,%["JDI2G~qA1BDI3G]sA1BD,4ghyDUS0L5EzXYA~Q~V2A5ATBBBN45D<6hgb?1S0V0?2uKajN10C0DI7TBD~FK*XYA6BCDI8~Z]tA6BDZ]u]v6A8BDZsk7A8BEUS~Q~V3A8ATBBL9DzF~IjN4Q9|CN4Q9|EOKajN4Q9|CEZsk6AQ9|BPEH7",aW.nd,↑(["name","waits"],[(1,4)]),↑["name","waits"]|hr]|?_]
  change a9 _ _ _ [!l,!m,none,none,none,none,none,none,none,none] H;show ak λD1 k1 _=>?_
  lk;show%[m,d,ss,ρ,hm,ab,bU|λb H1 s1 fb hb=>k1 _ _ (ak λD2 k2 _=>?_)];lk;show%[m,d,ss,ρ,s1 _ _ hm,ab.up s1,bU|λa H2 s2 fa ha=>k2 _ _ (ak λD3 k3 _=>?_)];let N:=s1.trans s2;let hb:=hb.up s2;lk;intro w fw;show k3 _ _ (ak λD4 k4 _=>ay λa4 hK=>?_);let s3:=af.Ja (o:= .dK []) fw;let gw:Ja H2 w (.dK []) w∣.dK (VD (d.take 0) λn=> .int (cnt ss [] n)):=upd_same
  generalize Ja H2 w (.dK [])=H3 at s3 gw
  let cd:=N.trans s3;lk;show%[%[_|Jb.of (cd _ _ hl)]|hK _ _ ?_];let ce:b≠w:=λc=>by
   let%[ac,h1|_]:=hb;rw[c,fw]at h1;cases h1
  let ch:a≠w:=λc=>by
   let%[ac,h1|_]:=ha;rw[c,fw]at h1;cases h1
  let b0:∀xs,H2 w≠some (.lst xs):=λxs c=>by rw[fw]at c;cases c
  show bV (λi M v=>(∃o5,M=[!l,!m,!b,!a,!w,o5,none,none,none,none])/\af H2 v/\v w∣.dK (VD (d.take i) λn=> .int (cnt ss [] n)))
   %[%[_|rfl],s3|gw] (λi M v h=>h.2.1 _ _ (N _ _ hl)) ?_ ?_
  .intro i n M v hn %[%[o5|rfl],sm|hw];let i1:i< ~~~d:=(Xh hn).1;change nD _ _ _ _ [!l,!m,!b,!a,!w,-n,none,none,none,none] v;show aB λD5 k5 _=>?_
   lk;show%[tyD (sm _ _ hb.choose_spec.1),#[0]|λp hp=>?_];let%[ac,al,cl,ai,O|b1]:=hb.get (cR.of sm) ce b0 hp n;let sp:=af.Ja (o:= .lst []) hp;show%[Sum.inr n,ρ,ac,cl,_,by rw[ai];exact .inl %[_,Jb.of O|ρ],_,je.k (k:=Sum.inr n) (sp _ _ hw) (by unfold VD;rw[Z6,Yh];exact aA ⋯)|k5 _ _ %[%[_|ρ],af.set (sm.trans sp) fw|?_]];let zn:n∉d.take i:=λhm=>by
    let h:=nn;rw[<-X7 i d,Yw]at h;exact h.2.2 n hm n (Z8 (i:=0) (by rw[getElem?_drop];exact hn)) rfl
   rw[upd_same,eJ _ (np zn),Z6,<-DY,X6,hn];unfold VD;rw[Zd];rfl
  .intro M v %[%[o5|rfl],sm|hw];rw[Zn (Zi _)]at hw;show k4 _ _ (ak λD5 k5 _=>az λa4 hK=>?_);lk;let b2:=sm _ _ (N _ _ hl);show%[%[_|Jb.of b2]|hK _ _ λG ae=>?_];show dQ (λj vs M H3=>(∃o1,M=[o1,!w])/\af v H3/\H3 G<*vs/\vs=((d.take j).filter λn=>decide (cnt ss [] n=0))\3)
    %[%[none|rfl],af.Ja ae,upd_same|rfl] (λ_ _ _ H3 co=>co.2.1 _ _ b2) ?_ ?_
   .intro j vs M H4 hj %[%[o1|rfl],I,b3|hv];let get:=cE.k (k:=Sum.inr d[j]) (I _ _ hw);rw[lR (Ya hj)]at get;lk;show%[_,get,ρ|ba (λh=>?_) λh=>?_]
    .let h:cnt ss [] d[j]=0:=↑h
     show CK.mk hj b3 (by rw[hv,Z6];let:=Ye (λn=>decide (cnt ss [] n=0)) (d.take j);rw[Yh]at this;exact aA ⋯) %[%[_|rfl],af.set I ae,upd_same|?_];rw[hv,X6,Z4 hj,Y1,Zd];change _=_++(List.filter _ [d[j]])\3;rw[Y3 ↑h];rfl
    .let h:cnt ss [] d[j]≠0:=↑h
     show CN.mk hj %[%[_|rfl],I,b3|?_];rw[hv,X6,Z4 hj,Y1,Zd];change _=_++(List.filter _ [d[j]])\3;rw[Y2 ↑h];simp
   intro vs M H3 %[_,I,aj|hv];rw[Zn (Zi _)]at hv;rw[hv]at aj;show k5 _ _ (ak λD6 k6 _=>?_);let U:=I _ _ hw;let a6:=sm.trans I;let a7:w≠G:=λc=>by rw[<-c,hw]at ae;cases ae
   let bb:=sm.free ae;lk;show%[#[0]|λld fld=>k6 _ _ (ak λD7 k7 _=>?_)];let s4:=af.Ja (o:= .lst []) fld;let bc:Ja H3 ld (.lst []) ld<*([]:ZB)\3:=upd_same;let b4:w≠ld:=λc=>by rw[<-c,U]at fld;cases fld
   let bd:G≠ld:=λc=>by rw[<-c,aj]at fld;cases fld
   let bf:=s4 _ _ U;let bl:=s4 _ _ aj;let bm:=a6.trans s4;let fld:=a6.free fld
   generalize Ja H3 ld (.lst [])=H4 at s4 bc bf bl bm
   show%[HD H2 l m b a w G ld d ss,%[_,o5,none,none,[],_,ρ,bm,bf,bl,bc,%[nn.filter _,λx=>by simp,λi x e=>by simp at e|λi x e=>by simp at e]|ρ]|?_];clear bm bf bl bc aj U hw hv I a6 sm;intro k M H5 %[o5,o8,o9,L,R,rfl,sm,hw,hR,hL,r|rfl];let Rm: ~~~(R\3)= ~~~R:=Z6 _;let c2: ~~~L+ ~~~R<= ~~~d:=by
    rw[<-Z9];exact _ST.nodup_sub r.nd λx hx=>((r.mem x).mp hx).1
   lk;show%[~~~R,.inl %[_,Jb.of hR|Rm.symm]|ba (λh=>?_) λh=>?_]
   .let h:0< ~~~R:=by let:=Zo h;lia
    show⟨λcp v=>∃m',m'< ~~~d-L.length/\HD H2 l m b a w G ld d ss m' cp v,λ_ _ h=>h,R,Jb.of hR,h,λx hx cs=>%[tyL (Jb.of hR),R,hR,hx|λR1 pm=>?_]⟩;let u1:=af.set (o:= .lst (R1\3)) sm bb;let bn:Ja H5 G (.lst (R1\3)) G=_:=upd_same;let bp:Ja H5 G (.lst (R1\3)) w=_:=(am a7).trans hw;let an:Ja H5 G (.lst (R1\3)) ld=_:=(am bd.symm).trans hL
    generalize Ja H5 G (.lst (R1\3))=H6 at u1 bn bp an ⊢
    show%[tyL (Jb.of an),_,an,by rw[Z6];exact aA ⋯|aB λc3 ct _=>ay λa4 hK=>?_];let u2:=af.set (o:= .lst (L\3++[.str x])) u1 fld;let as:Ja H6 ld (.lst (L\3++[.str x])) ld<*(L++[x])\3:=by rw[upd_same,Zd];rfl
    let a0:Ja H6 ld (.lst (L\3++[.str x])) w=_:=(am b4).trans bp;let a1:Ja H6 ld (.lst (L\3++[.str x])) G=_:=(am bd).trans bn
    generalize Ja H6 ld (.lst (L\3++[.str x]))=H7 at u2 as a0 a1 ⊢
    lk;show%[tyD (u2 _ _ ha.choose_spec.1),#[0]|λp hp=>?_];let%[ac,al,ai,cv,O|b1]:=ha.get (cR.of u2) ch b0 hp x;let bt:∀{c:Addr} {o:HO},H7 c∣o->H2 c=none->al≠c:=λ{c o} h1 h2=>by
     rcases b1 with rfl|⟨o',ho⟩
     .exact λz=>by rw[z,h1]at hp;cases hp
     .exact λz=>by rw[z,h2]at ho;cases ho
    let cx:=bt a0 fw;let cy:=bt a1 bb;let all:=bt as fld;let sp:=af.Ja (o:= .lst []) hp;let U:=sp _ _ a0;let b5:=sp _ _ a1;let b6:=sp _ _ as;let u3:=u2.trans sp
    generalize Ja H7 p (.lst [])=H8 at ai O U b5 b6 u3 ⊢
    clear u1 u2 a0 a1 as bp bn an hp sp
    generalize b7:(ss.filter λt=>decide (t.2[1]?∣x))=ts at O
    let tm: ~~~(ts\0)= ~~~ts:=Z6 _;let xL:x∉L:=λc=>(nodup_append.mp r.nd).2.2 x c x hx rfl
    let pr:(L++[x] ++R1).Perm (L++R):=by
     rw[Ze];exact pm.append_left L
    let f0:∀n,cnt ss L n=cnt ss (L++[x]) n+(ts.drop 0).countP λt=>decide (t.2[0]?∣n):=λn=>by rw[drop_zero,<-b7];exact vE xL ss
    let cM:∀t∈ts,∃n z,t.2=[n,x,z]/\n∈d/\H t.1&&&[n,x,z]\3:=λt ht=>by
     rw[<-b7]at ht;let%[h1|h2]:=List.mem_filter.mp ht;let%[h3,n,y,z,e,hn|_]:=ab t h1;let h2:=Zo h2;rw[e]at h2 h3;obtain rfl:y=x:=Za h2;exact%[n,z,e,hn|h3]
    show%[Sum.inr x,ρ,ac,ai,al,cv,%[_|Jb.of O]|hK _ _ ?_];show bV (λj M v=>(∃o9,M=[!l,!m,!b,!a,!w,o5,!G,!ld,-x,o9])/\af H2 v/\v al∣.lst (ts\0)/\v w∣.dK (VD d λn=> .int ((cnt ss (L++[x]) n+(ts.drop j).countP λt=>decide (t.2[0]? =some n):Nat):Int))/\v ld<*(L++[x])\3/\∃Rj:ZB,v G<*Rj\3/\(L++[x] ++Rj).Nodup/\∀y,y∈L++[x] ++Rj↔y∈d/\cnt ss (L++[x]) y+((ts.drop j).countP λt=>decide (t.2[0]?∣y))=0)
     %[%[_|rfl],u3,O,by rw[U];exact congrArg (λg=>some (HO.dK (VD d g))) (funext λn=>by rw[f0 n]),b6,R1,b5,pr.nodup_iff.mpr r.nd|λy=>by rw[<-f0,pr.mem_iff];exact r.mem y] (λj M v h=>h.2.2.1) ?_ ?_
    .intro j t M v ht %[%[o9|rfl],a2,B,J,Y,Rj,C,rn|rz];let jl:=(Xh ht).1;let%[n,z,et,hn|u]:=cM t (Z8 ht);let u:=a2 _ _ (N _ _ u);let dr:ts.drop j=t::ts.drop (j+1):=by rw[List.drop_eq_getElem_cons jl,(Xh ht).2]
     rw[dr]at J rz;let get:=cE.k (k:=Sum.inr n) J;rw[lR hn]at get;let c4:=(nodup_append.mp rn)
     let rl: ~~~Rj<= ~~~d:=by
      let:=_ST.nodup_sub rn λy hy=>((rz y).mp hy).1
      rw[Z9]at this
      lia
     change a9 _ _ _ [!l,!m,!b,!a,!w,o5,!G,!ld,-x,some (.ref t.1)] v;show ak λc5 c0 _=>?_
     lk;let one:∀y,(t::ts.drop (j+1)).countP (λt=>decide (t.2[0]?∣y))=((ts.drop (j+1)).countP λt=>decide (t.2[0]?∣y)) +if y=n then 1 else 0:=λy=>by
      rw[countP_cons,et];by_cases c:y=n
      .rw[if_pos c,if_pos (by rw[c];simp)]
      .rw[if_neg c,if_neg (by simpa using λq=>c q.symm)]
     show%[_,SqT.of u,_,ρ,_,get,_,ρ,_,SqT.of u,_,ρ,_,je.k (k:=Sum.inr n) J (by unfold VD;rw[Z6];exact aA ⋯)|c0 _ _ (aB λc7 b9 _=>?_)];rw[Cf hn];let e1:(λy=>if y=n then V.int (((cnt ss (L++[x]) n+(t::ts.drop (j+1)).countP λt=>decide (t.2[0]?∣n):Nat):Int) -1)else V.int ((cnt ss (L++[x]) y+(t::ts.drop (j+1)).countP λt=>decide (t.2[0]?∣y):Nat):Int))=λy=>V.int ((cnt ss (L++[x]) y+(ts.drop (j+1)).countP λt=>decide (t.2[0]?∣y):Nat):Int):=funext λy=>by
      rw[one,one];by_cases c:y=n
      .rw[if_pos c,c,if_pos rfl]
       congr 1
       lia
      .rw[if_neg c,if_neg c];rfl
     rw[e1];let v1:=af.set (o:= .dK (VD d λy=>V.int ((cnt ss (L++[x]) y+(ts.drop (j+1)).countP λt=>decide (t.2[0]?∣y):Nat):Int))) a2 fw;let a3:Ja v w (.dK (VD d λy=>V.int ((cnt ss (L++[x]) y+(ts.drop (j+1)).countP λt=>decide (t.2[0]?∣y):Nat):Int))) w=_:=upd_same;let ag:∀c o,c≠w->v c∣o->Ja v w (.dK (VD d λy=>V.int ((cnt ss (L++[x]) y+(ts.drop (j+1)).countP λt=>decide (t.2[0]?∣y):Nat):Int))) c∣o:=λc o h e=>(am h)▸e
     generalize Ja v w (.dK (VD d λy=>V.int ((cnt ss (L++[x]) y+(ts.drop (j+1)).countP λt=>decide (t.2[0]?∣y):Nat):Int)))=H9 at v1 a3 ag
     let u:=ag _ _ (λc=>by rw[c,J]at u;cases u) u;let B:=ag _ _ cx B;let Y:=ag _ _ b4.symm Y;let C:=ag _ _ a7.symm C;let get:=cE.k (k:=Sum.inr n) a3;rw[lR hn]at get;let ca:n∉L++[x] ++Rj:=λc=>by
      let:=((rz n).mp c).2;rw[one,if_pos rfl]at this
      lia
     let a5:∀y,y≠n->(y∈L++[x] ++Rj↔y∈d/\cnt ss (L++[x]) y+((ts.drop (j+1)).countP λt=>decide (t.2[0]?∣y))=0):=λy c=>by
      rw[rz y,one,if_neg c];rfl
     lk;show%[_,SqT.of u,_,ρ,_,get,ρ|ba (λh=>?_) λh=>?_]
     .let h:cnt ss (L++[x]) n+((ts.drop (j+1)).countP λt=>decide (t.2[0]?∣n))=0:=by
       let:=V.int.inj (Zo h)
       lia
      let tr:t.1≠G:=λc=>by rw[c,C]at u;cases u
      show%[tyL (Jb.of C),_,SqT.of u,_,ρ,_,C,by rw[Z6];exact aA ⋯|b9 _ _ %[%[_|ρ],af.set v1 bb,(am cy).trans B,(am a7).trans a3,(am bd.symm).trans Y,Rj++[n],by rw[upd_same,Zd];rfl,?_|λy=>?_]]
      .rw[<-Ze,Yw];exact%[rn,by simp|λa ha b hb c=>ca (by rw[<-Xj hb,<-c];exact ha)]
      .rw[<-Ze,Yo,Yu];by_cases c:y=n
       .rw[c];exact%[λ_=>%[hn|h]|λ_=> .inr rfl]
       .rw[<-a5 y c];exact%[λq=>q.resolve_right c|.inl]
     .show b9 _ _ %[%[_|rfl],v1,B,a3,Y,Rj,C,rn|λy=>?_];by_cases c:y=n
      .rw[c];exact%[λq=>absurd q ca|λq=>absurd (Zf (congrArg (λi:Nat=>V.int i) q.2)) h]
      .exact a5 y c
    .intro M v %[%[o9|rfl],a2,B,J,Y,Rj,C,rn|rz];rw[List.drop_length]at J rz;show ct _ _ %[_,?_,o5,_,o9,L++[x],Rj,rfl,a2,J,C,Y,%[rn,rz,λi y hi y' e=>?_|λi y hi z hz nz e=>?_]|rfl]
     .rw[Z9,Yg]
      lia
     .by_cases il:i< ~~~L
      .rw[Y7 il]at hi;rw[X8 (Yb il)];exact r.ord i y hi y' e
      .let ie:i= ~~~L:=by
        let:=(Xh hi).1;rw[Z9,Yg]at this
        lia
       subst ie;rw[Y8 (Zi _),X4,List.getElem?_cons_zero]at hi;obtain rfl:=Za hi;rw[X8 (Zi _),take_length];exact Cg ((r.mem x).mp (Yq _ hx)).2 e
     .by_cases il:i< ~~~L
      .rw[Y7 il]at hi;rw[X8 (Yb il)]at nz e;exact r.lst i y hi z hz nz e
      .let ie:i= ~~~L:=by
        let:=(Xh hi).1;rw[Z9,Yg]at this
        lia
       subst ie;rw[Y8 (Zi _),X4,List.getElem?_cons_zero]at hi;obtain rfl:=Za hi;rw[X8 (Zi _),take_length]at nz e;exact cs z ((Xi ((r.mem z).mpr %[hz|Gu ab e])).resolve_left nz)
   .show k7 _ _ ?_;lk;let R0:R=[]:=by
     cases R with
     | nil=>rfl
     | cons x R=>exact absurd (Zf (by rw[Zr];lia)) h
    subst R0;let mem:=r.mem;let nd:=r.nd;rw[Zy]at mem nd;show kk ld H5 L (N.trans sm) hL nd (λx hx=>((mem x).mp hx).1) r.ord (λx hx nx=>?_) r.lst (N.free fld);let:cnt ss L x≠0:=λc=>nx ((mem x).mpr %[hx|c])
    let%[t,ht|q]:=List.countP_pos_iff.mp (Nat.pos_of_ne_zero this);let%[a,b,z,e,_|hb]:=(ab t ht).2;rw[e]at q;simp only[Zw]at q;exact%[b,%[z|by rw[<-(Za (Zo q.1)),<-e];exact Xl %[t,ht|ρ]],hb|Zo q.2]
inductive vF
 | mk (l m ns ss):vs=[.ref l,.ref m]->H l<*ns\3->ns.Nodup-> ~~~ns<=63->H m∣.lst (ss\0)->dt H ns ss-> ~~~ss<=150->(∀r H' (us:ZB),af H H'->H' r<*us\3->(∀x∈ns,Rch (ss\2) x x->x∈us)->Q (.ref r) H')->vF vs H Q E0
structure pf (H:Hp) (ks:List ZB) (ss:ZG) (r:Addr) (ws:ZG) (x:Str):Prop where
 at_:H r∣.lst (ws\0)
 sub:∀t∈ws,t∈ss
 sho:Sho ks x x (ws\2)
 len: ~~~ws<=200
def pf.up(h:pf H ks ss r ws x)(s:af H a):pf a ks ss r ws x:=%[s _ _ h.at_,h.sub,h.sho|h.len]
inductive vG
 | mk (l m ns ss):vs=[.ref l,.ref m]->H l<*ns\3->ns.Nodup-> ~~~ns<=63->H m∣.lst (ss\0)->dt H ns ss-> ~~~ss<=150->(∀H',af H H'->(∀x,¬ Rch (ss\2) x x)->Q .non H')->(∀r H' ws x,af H H'->H r=none->pf H' (ss\2) ss r ws x->(∀y n,Dst (ss\2) y (n+1) y-> ~~~ws<=n+1)->Q (.ref r) H')->vG vs H Q E0
def tL(T:Txt K mg):↥4 "never_laid" ["names","found"] vF:=by
 .exists T.aY,pW,B,C,%[l,m,a,ss,rfl,n,G,nl,I,g,i|J];show%[_,%["JEH=~'AF]w~L~fA0B~L~fAG~^A0A1BBB",0|C]|?_];change iB _ _ [!l,!m] H;lk;show%[a,Jb.of n,⋯|λp M=>?_];let b:=af.Ja (o:=lq w p (aP a)) M;let t:Ja H p (lq w p (aP a)) p=_:=upd_same
  generalize Ja H p (lq w p (aP a))=H1 at b t ⊢
  show%[l,m,a,ss,ρ,b _ _ n,G,nl,b _ _ I,g.up b,i|λr H2 L y N O U j _ _ _=>?_];let Ll:=_ST.nodup_sub O U;show%[r,ρ,L,Jb.of N,⋯|λq Y=>?_];let z:=af.Ja (o:=lq w q (aP L)) Y;let fl:=_ST.nodup_sub (eL a) λx d=>bx.mp d
  show%[_,(z _ _ (y _ _ t)),_,upd_same,⋯|λu ms fu e mn=>%[ms,upd_same,?_|λv us fv pu _=>?_]]
  .let:=_ST.nodup_sub mn λx d=>bx.mp ((e x).mp d).1
   lia
  .show J v _ us (b.trans (y.trans (z.trans ((af.Ja fu).trans (af.Ja fv))))) upd_same λx d rx=>?_
   rw[pu.mem_iff,e];exact%[bx.mpr d|λc=>DN j (bx.mp c) rx]
def vH{d:ZB}{ss:ZG}(h:∀t∈ss,d8 d t.2){x y:Str}(r:Rch (ss\2) x y):x∈d:=by
 induction r with
 | one e=>
   let%[z|g]:=e;let%[t,i|f]:=Xk g;let%[a,b,c,e,j|_]:=h t i;rw[e]at f;exact((List.cons.inj f).1)▸j
 | more _ _ l=>exact l
def iz(T:Txt K mg):↥5 "shortest_ring" ["names","found"] vG:=by
 .exists T.aX,bJ,ag,hr,%[l,m,U,ss,rfl,hl,nn,nl,hm,g,B,kn|ky];show%[_,%["JDI2G~qA1BDI3[DUSG]xA0A1BL4DI5G]yA2A4A4BEOiwK~W5[&i%K]z3[(K>XYA5BXYA3BEI35PEH3",bJ.nd|hr]|?_]
  change a9 _ _ _ [!l,!m,none,none,none,none] H;show ak λD1 k1 _=>?_
  lk;show%[m,U,ss,ρ,hm,g,B|λb H1 Y fb hb=>k1 _ _ (ak λD2 k2 _=>?_)];lk;show k2 _ _ (ak λD3 k3 _=>ay λae hK=>?_);lk;show%[l,m,U,ss,ρ,Y _ _ hl,nn,nl,Y _ _ hm,g.up Y,B|λr H2 us s2 I J=>%[r,ρ,%[_|Jb.of I]|hK _ _ ?_]];let j:=Y.trans s2;show bV (λi σ p=>(∃v o4 o5,σ=[!l,!m,!b,some v,o4,o5]/\((v= .non/\∀x∈us.take i,¬ Rch (ss\2) x x)\/∃q ws x,v= .ref q/\H q=none/\pf p (ss\2) ss q ws x/\∀y∈us.take i,∀n,Dst (ss\2) y (n+1) y-> ~~~ws<=n+1))/\af H2 p)
   %[%[_,_,_,rfl|.inl %[rfl|λx hx=>(nomatch hx)]]|λ_ _ e=>e] (λi σ p h=>h.2 _ _ I) ?_ ?_
  .intro i n σ p hn %[%[v,o4,o5,rfl|L]|o];let tk:us.take (i+1)=us.take i++[n]:=by rw[X6,hn];rfl
   change a9 _ _ _ [!l,!m,!b,some v,-n,o5] p;show ak λD4 k4 _=>?_
   lk;show%[b,n,n,U,ss,ρ,hb.up (s2.trans o),g.up (j.trans o),B,λH3 C nr=>k4 _ _ (aB λD5 k5 _=>?_)|λq H3 ws C M G sub rr rl=>k4 _ _ (aB λD5 k5 _=>?_)]
   .lk;rw[if_neg ∅];show k5 _ _ %[%[v,_,_,rfl|L.imp (λh=>%[h.1|λx hx=>?_]) λ⟨q,ws,x,e,M,G,u⟩=>%[q,ws,x,e,M,G.up C|λy c m d=>?_]]|o.trans C]
    .rw[tk]at hx;rcases Xi hx with a|a
     .exact h.2 x a
     .rw[Xj a];exact nr
    .rw[tk]at c;rcases Xi c with a|a
     .exact u y a m d
     .rw[Xj a]at d;exact(nr d.rch).elim
   .lk;rw[if_pos ∅];let wl:∀zs:ZG,~~~(zs\0)= ~~~zs:=λzs=>Z6 _
    let z:=λm d=>by
     let:=rr.min m d;rwa[Z6]at this
    let put:(∀y∈us.take i,∀m,Dst (ss\2) y (m+1) y-> ~~~ws<=m+1)->D5.nx [!l,!m,!b,!q,-n,!q] H3:=λu=>k5 _ _ ⟨%[_,_,_,rfl|.inr ⟨q,ws,n,rfl,(j.trans o).free M,%[G,sub,rr|rl],λy c m d=>by
     rw[tk]at c;rcases Xi c with a|a
     .exact u y a m d
     .rw[Xj a]at d;exact z m d⟩],o.trans C⟩
    rcases L with⟨rfl,ab⟩|⟨q',N,x',rfl,ac,O,u⟩
    .rw[if_pos ∅];exact put λy c m d=>(ab y c d.rch).elim
    .rw[if_neg ∅];show%[_,.inl %[_,Jb.of G|(wl ws).symm],_,.inl %[_,Jb.of (C _ _ O.at_)|(wl N).symm]|ba (λlt=>put λy c m d=>?_) λlt=>k5 _ _ %[%[_,_,_,ρ|.inr %[q',N,x',ρ,ac,O.up C|λy c m d=>?_]]|o.trans C]]
     .let:=u y c m d;let:=Zo lt
      lia
     .rw[tk]at c;rcases Xi c with a|a
      .exact u y a m d
      .rw[Xj a]at d;let:=z m d
       lia
  .intro σ p %[%[v,o4,o5,rfl|L]|o];rw[Zn (Zi _)]at L;show k3 _ _ ?_;lk;rcases L with⟨rfl,h⟩|⟨q,ws,x,rfl,M,G,u⟩
   .exact kn p (j.trans o) λx rx=>h x (J x (vH (λt ht=>(g t ht).2) rx) rx) rx
   .exact ky q p ws x (j.trans o) M G λy n d=>u y (J y (vH (λt ht=>(g t ht).2) d.rch) d.rch) n d
def jK{S:Str->Str->Prop}(h:cI S z m)(c:dR S z x):cI S x m:=%[c.symm.trans h.1|λy d=>h.2 y (c.trans d)]
def iX(h:cU H d qs)(a b:Str)(s:a8 qs a b):a∈d/\b∈d:=by
 let%[q,f|e]:=s;rcases(h q f).2 with⟨wd,x,y,c,_,g,i,_⟩|⟨wd,x,y,c,_⟩
 .rw[c]at e;simp only[List.cons.injEq,V.str.injEq,and_true]at e;rw[<-e.2.1,<-e.2.2];exact%[g|i]
 .rw[c]at e;simp at e
structure f6 (mg:ZC) (H:Hp) (g:Addr) (qs:ZN) (ls:ZB) (ts:ZG):Prop where
 gr:∃c2 c3 c4,GrF mg H g c2 c3 c4 qs ls ts
 nd:ls.Nodup
 so:ls.Pairwise (λa b=>aS b a=false)
 ll: ~~~ls<=63
 tl: ~~~ts<=150
 t3:∀k∈ts\2,d8 ls k
 sm:∀k∈ts\2,∀z∈k,Sml z
 lm:∀z∈ls,Sml z
def f6.up(h:f6 mg H g qs a ts)(s:af H b):f6 mg b g qs a ts:=by
 let%[c,d,e|f]:=h.gr;exact%[%[c,d,e|f.up s],h.nd,h.so,h.ll,h.tl,h.t3,h.sm|h.lm]
def f6.ends(h:f6 mg H g qs f ts)(i:br (a8 qs) (ts\2) lk)(j:k∈lk):∃a b z,k=[a,b,z]/\(a∈f/\cI (a8 qs) a a)/\b∈f/\cI (a8 qs) b b:=by
 let%[r,s,t|l]:=h.gr;let%[a,b,z,m,n,o,c,d|rfl]:=(i.mem k).mp j;let%[x,y,u,e,p|q]:=h.t3 _ o;simp only[List.cons.injEq,and_true]at e;let%[rfl,rfl|rfl]:=e;let ws:=iX l.sa;exact%[m,n,z,ρ,%[c.1.within ws p|jK c c.1],d.1.within ws q|jK d d.1]
def f6.short(h:f6 mg H g qs o ts)(d:br (a8 qs) (ts\2) lk)(f:k∈lk): ~~~k<=3/\∀z∈k,Sml z:=by
 let%[p,q,r|i]:=h.gr;let%[a,b,z,s,t,c,j,l|rfl]:=(d.mem k).mp f;let%[x,y,u,e,m|n]:=h.t3 _ c;simp only[List.cons.injEq,and_true]at e;let%[rfl,rfl|rfl]:=e;let ws:=iX i.sa;exact%[Zi _|Gh (h.lm _ (j.1.within ws m)) (h.lm _ (l.1.within ws n)) (h.sm _ c z ∅)]
def f6.names(h:f6 mg H g qs d ts)(f:br (a8 qs) (ts\2) lk)(c:xX (a8 qs) d i):∀k∈lk,d8 i k:=λk j=>by
 let%[a,b,z,e,l|m]:=h.ends f j;exact%[a,b,z,e,(c.mem a).mpr l|(c.mem b).mpr m]
def f6.ties(h:f6 mg H g qs c ts)(d:br (a8 qs) (ts\2) lk):∀k∈lk,d8 c k:=λk f=>by
 let%[a,b,z,e,i|j]:=h.ends d f;exact%[a,b,z,e,i.1|j.1]
def vI(a:aU H ss)(h:∀k∈ss\2,d8 b k):dt H b ss:=λt q=>%[(a t q).2|h _ (Xl %[t,q|rfl])]
inductive rC (mg:ZC)
 | mk (g:Addr) (qs:ZN) (ls:ZB) (ts:ZG):vs=[.ref g]->f6 mg H g qs ls ts->(∀lk,br (a8 qs) (ts\2) lk->∀x,¬ Rch lk x x)->(∀l H' ns (ss:ZG),af H H'->H' l∣.lst (ss\0)->dt H' ns ss-> ~~~ss<=150->br (a8 qs) (ts\2) (ss\2)->Q (.ref l) H')->rC mg vs H Q E0
def _root_._CU.Sho.same{ks c us:List ZB}{a b:Str}(h:Sho ks a b us)(e:∀k,k∈ks↔k∈c):Sho c a b us:=%[λk d=>(e k).mp (h.sub k d),h.wal,h.pos|by rw[<-vz e];exact h.min]
def ph(T:Txt K mg):↥6 "untorn_links" ["ground"] (rC mg):=by
 .exists T.aZ,dW,C,d,%[g,qs,e,ts,rfl,a,nr|G];let%[j,n,o|p]:=a.gr;let O:=a.ll;show%[_,%["JDI1G~_A0BDI2G~|AG~rA0BA1BDOK~W2[E:PEH1",dW.nd|d]|?_]
  change a9 _ _ _ [!g,none,none] H;show ak λU k1 _=>?_
  lk;show%[g,j,n,o,qs,e,ts,ρ,p,a.nd,a.so,⋯,a.tl,a.t3|λm Y ss q fm t I lk u=>k1 _ _ (ak λD2 k2 _=>?_)];lk;show%[g,j,n,o,qs,e,ts,ρ,p.up q,a.nd,a.so,⋯|λl H2 v i fl J c=>?_];let y:=vI I (a.names lk c);show%[l,m,v,ss,ρ,J,c.nd,?_,i _ _ t,y.up i,u,λz B _=>k2 _ _ (ak λD3 L _=>?_)|λr z ws x B _ M _=>(nr _ lk x M.sho.rch).elim]
  .let:=_ST.nodup_sub c.nd λx N=>((c.mem x).mp N).1
   lia
  .lk;rw[if_neg ∅];show L _ _ ?_;lk;let b:=i.trans B;exact G m z v ss (q.trans b) (b _ _ t) (y.up b) u lk
inductive x3 (mg:ZC)
 | mk (g:Addr) (qs:ZN) (ls:ZB) (ts:ZG):vs=[.ref g]->f6 mg H g qs ls ts->(∀H' lk,af H H'->br (a8 qs) (ts\2) lk->((∀x,¬ Rch lk x x)->Q .non H')/\∀r ws x,H r=none->H' r∣.lst (ws\0)->aU H' ws->Sho lk x x (ws\2)-> ~~~ws<=200->(∀y n,Dst lk y (n+1) y-> ~~~ws<=n+1)->Q (.ref r) H')->x3 mg vs H Q E0
def Gw(T:Txt K mg):↥6 "ring" ["ground"] (x3 mg):=by
 .exists T.aW,DP,G,i,%[g,qs,j,ts,rfl,a|p];let%[q,u,v|y]:=a.gr;let Y:=a.ll;show%[_,%["JEHG~|AG~rA0BAG~_A0BB",0|i]|?_];change iB _ _ [!g] H;lk;show%[g,q,u,v,qs,j,ts,ρ,y,a.nd,a.so,⋯|λl H1 I z fl J d=>?_];show%[g,q,u,v,qs,j,ts,ρ,y.up z,a.nd,a.so,⋯,a.tl,a.t3|λm H2 ss B fm L n lk M=>?_];let b:=z.trans B;show%[l,m,I,ss,ρ,B _ _ J,d.nd,?_,L,vI n (a.names lk d),M,λo e nr=>(p o _ (b.trans e) lk).1 nr|λr o ws x e N c O=>(p o _ (b.trans e) lk).2 r ws x (b.free N) c.at_ (λt C=>%[(n t (c.sub t C)).1|e _ _ (n t (c.sub t C)).2]) c.sho c.len O];let:=_ST.nodup_sub d.nd λx U=>((d.mem x).mp U).1
  lia
abbrev SD(M:ZB):List (Key×V):=VD M λ_=> .bl true
def Ci:∃M2,cB (SD M) (Sum.inr x) (.bl true)=SD M2/\(M.Nodup->M2.Nodup)/\∀y,y∈M2↔y∈M\/y=x:=by
 by_cases c:x∈M
 .show%[M,?_,λh=>h|λy=>%[.inl|λh=>h.elim (λh=>h) λe=>e▸c]];unfold SD;rw[Cf c];exact congrArg (VD M) (funext λz=>by by_cases e:z=x<;> simp[e])
 .show%[M++[x],?_,λh=>nodup_append.mpr %[h,by simp|λa d b f e=>c (by rw[<-Xj f,<-e];exact d)]|λy=>by rw[Yo,Yu]];unfold SD;rw[eJ _ (np c)];unfold VD;rw[Zd];rfl
def vJ:∀{R M:ZB},∃M2,kY (SD M) (SD R)=SD M2/\(M.Nodup->M2.Nodup)/\∀y,y∈M2↔y∈M\/y∈R
 |[],M=>%[M,rfl,λh=>h|λy=>by simp]
 | x::R,M=>by
   let%[M1,a,n1|b]:=Ci (M:=M) (x:=x);let%[M2,c,d|m2]:=vJ (R:=R) (M:=M1);show%[M2,?_,λh=>d (n1 h)|λy=>by rw[m2,b,Ys,or_assoc]];change kY (cB (SD M) (Sum.inr x) (.bl true)) (SD R)=_;rw[a,c]
def z0(r:Rch ks a c):∃y,Ed ks a y/\(y=c\/Rch ks y c):=by
 induction r with
 | one e=>exact%[_,e|.inl rfl]
 | more _ e b=>
   let%[y,h|q]:=b;exact%[y,h|.inr (q.elim (λq=>q▸ .one e) λq=> .more q e)]
def Gx{b:ZB}{ss:ZG}(h:∀t∈ss,d8 b t.2){x y:Str}(r:Rch (ss\2) x y):y∈b:=by
 let:∃a,Ed (ss\2) a y:=by
  cases r with
  | one e=>exact%[_|e]
  | more _ e=>exact%[_|e]
 let%[a,z|d]:=this;let%[t,f|c]:=Xk d;let%[u,v,w,e,_|g]:=h t f;rw[e]at c;rw[<-(List.cons.inj (List.cons.inj c).2).1];exact g
structure Rea (H:Hp) (ks:List ZB) (rs:Gs Str):Prop where
 nd:(rs\1).Nodup
 ad:(rs.map (·.2.1)).Nodup
 at_:∀r∈rs,H r.2.1∣.dK (SD r.2.2)/\r.2.2.Nodup/\∀y,y∈r.2.2↔Rch ks r.1 y
inductive x4
 | mk (l m:Addr) (ns:ZB) (ss:ZG):vs=[.ref l,.ref m]->H l<*ns\3->ns.Nodup-> ~~~ns<=63->H m∣.lst (ss\0)->dt H ns ss-> ~~~ss<=150->(∀x,¬ Rch (ss\2) x x)->(∀d H' (rs:Gs Str),af H H'->H d=none->H' d∣.dK (gD rs)->Rea H' (ss\2) rs->(∀r∈rs,r.2.1≠d/\H r.2.1=none)->(∀x,x∈rs\1↔x∈ns)->Q (.ref d) H')->x4 vs H Q E0
def pj(T:Txt K mg):↥4 "all_beneath" ["names","found"] x4:=by
 .exists T.aK,cJ,cl,u,%[l,m,ns,ss,rfl,hl,nn,nl,hm,O,bb,nr|kk];show%[_,%["JDI2G~qA1BDI3yDUSG~^A0A1BL4Dzy34EUS~Q~V2A4ATBBL5Dzpj34Q5~HEZ]!]$j34Aj3Q5~HBEH3",cJ.nd|u]|?_]
  change a9 _ _ _ [!l,!m,none,none,none,none] H;show ak λD1 k1 _=>?_
  lk;show%[m,ns,ss,ρ,hm,O,bb|λb H1 s1 fb hb=>k1 _ _ (ak λD2 k2 _=>?_)];lk;intro d fd;show k2 _ _ (ak λD3 k3 _=>ay λbc hK=>?_);let s2:=af.Ja (o:= .dK []) fd;let hd:Ja H1 d (.dK []) d∣.dK (gD ([]:Gs Str)):=upd_same;let Y:=s1.trans s2;let bd:b≠d:=λc=>by
   let%[bf,G|_]:=hb;rw[c,fd]at G;cases G
  let bl:=s1.free fd;let bm:=hb.up s2
  generalize Ja H1 d (.dK [])=H2 at s2 hd Y bm
  lk;show%[l,m,ns,ss,ρ,Y _ _ hl,nn,nl,Y _ _ hm,O.up Y,bb|λr H3 L s3 aj Ln Ls b7 rest _ _=>%[r,ρ,%[_|Jb.of aj]|hK _ _ ?_]];let co:=s2.trans s3;let bn:∀x∈ns,x∈L:=λx hx=>Decidable.byContradiction λc=>Gc (ks:=ss\2) (U:=ns.filter λx=>decide (x∉L)) (λx hx=>by
   let%[G|J]:=List.mem_filter.mp hx;let%[y,e,yn|yl]:=rest x G (Zo J);exact%[y,List.mem_filter.mpr %[yn|Zf yl]|e]) nr (List.mem_filter.mpr %[hx|Zf c])
  let Lm: ~~~(L\3)= ~~~L:=Z6 _;let Ll:=_ST.nodup_sub Ln Ls;let bp:=bm.up s3;let al:=Y.trans s3;show bV (λi σ B=>(∃o4 o5,σ=[!l,!m,!b,!d,o4,o5])/\cR d H3 B/\∃rs:Gs Str,B d∣.dK (gD rs)/\Rea B (ss\2) rs/\(∀r∈rs,r.2.1≠d/\H3 r.2.1=none)/\rs\1=L.take i)
   %[%[_,_|rfl],λ_ _ _ e=>e,[],s3 _ _ hd,%[Yy,Yy|λ_ h=>(nomatch h)],λ_ h=>(nomatch h)|rfl] (λi σ B h=>h.2.1 _ _ (λc=>by let:=s3 _ _ hd;rw[<-c,aj]at this;cases this) aj) ?_ ?_
  .intro i n σ B hn %[%[o4,o5|rfl],sm,rs,ac,g,rn|rk];let tk:L.take (i+1)=L.take i++[n]:=by rw[X6,hn];rfl
   change a9 _ _ _ [!l,!m,!b,!d,-n,o5] B;show ak λD4 k4 _=>?_
   lk;intro e fe;let C:e≠d:=λc=>by rw[c,ac]at fe;cases fe
   let an:n∉rs\1:=by
    rw[rk];intro c;let%[j|hj]:=Xb c;let jl:=(Xh hj).1;rw[Yh]at jl;rw[Y9 ⋯]at hj;let:=jM Ln hj hn
    lia
   let rl: ~~~rs<=63:=by
    let: ~~~(rs\1)<= ~~~L:=by rw[rk,Yh];lia
    rw[Z6]at this
    lia
   let e3:H3 e=none:=by
    cases q:H3 e with
    | none=>rfl
    | some o=>rw[sm e o C q]at fe;cases fe
   show%[_,je.k (k:=Sum.inr n) (af.Ja fe _ _ ac) (by unfold gD;rw[Z6];exact aA ⋯)|k4 _ _ ?_];rw[eJ _ (tK an),show gD rs++[(Sum.inr n,V.ref e)]=gD (rs++[(n,e,[])]) by unfold gD;rw[Zd];rfl];let he:Ja (Ja B e (.dK [])) d (.dK (gD (rs++[(n,e,[])]))) e∣.dK (SD []):=by rw[am C,upd_same];rfl
   let bt:Ja (Ja B e (.dK [])) d (.dK (gD (rs++[(n,e,[])]))) d=_:=upd_same;let o4:∀c o,c≠d->B c∣o->Ja (Ja B e (.dK [])) d (.dK (gD (rs++[(n,e,[])]))) c∣o:=λc o h q=>by rw[am h,am (aC q fe)];exact q
   generalize Ja (Ja B e (.dK [])) d (.dK (gD (rs++[(n,e,[])])))=H4 at he bt o4
   let as:cR d H3 H4:=λc o h q=>o4 c o h (sm c o h q)
   show aB λD5 k5 _=>ay λbc hK=>?_
   lk;show%[tyD (as _ _ bd bp.choose_spec.1),#[0]|λp hp=>?_];let%[bf,a,bU,b9,ag|ca]:=bp.get as bd (λxs c=>by rw[s3 _ _ hd]at c;cases c) hp n;let sp:=af.Ja (o:= .lst []) hp;let he:=sp _ _ he;let a0:=sp _ _ bt;let a1:=as.trans (cR.of sp);let a2:∀c o,c≠d->B c∣o->Ja H4 p (.lst []) c∣o:=λc o h q=>sp _ _ (o4 c o h q)
   let ae:a≠e:=by
    rcases ca with rfl|⟨o,ho⟩
    .exact λc=>by rw[c]at hp;let:=he;rw[c,upd_same]at this;cases this
    .exact λc=>by rw[c,e3]at ho;cases ho
   generalize Ja H4 p (.lst [])=H5 at bU ag he a0 a1 a2 ⊢
   generalize b0:(ss.filter λt=>decide (t.2[0]?∣n))=ts at ag
   let tm: ~~~(ts\0)= ~~~ts:=Z6 _;let cd:∀t∈ts,t∈ss/\∃y z,t.2=[n,y,z]:=λt ht=>by
    rw[<-b0]at ht;let%[G|J]:=List.mem_filter.mp ht;let%[x,y,z,e|_]:=(O t G).2;let J:=Zo J;rw[e]at J;exact%[G,y,z|by rw[e,show x=n from Za J]]
   show%[Sum.inr n,ρ,bf,bU,a,b9,%[_|Jb.of ag]|hK _ _ ?_];show bV (λj σ N=>(∃o5,σ=[!l,!m,!b,!d,-n,o5])/\cR e H5 N/\∃M:ZB,N e∣.dK (SD M)/\M.Nodup/\(∀y∈M,Rch (ss\2) n y)/\∀t∈ts.take j,∀y,t.2[1]?∣y->y∈M/\∀z,Rch (ss\2) y z->z∈M)
    %[%[_|rfl],λ_ _ _ q=>q,[],he,Yy,λ_ h=>(nomatch h)|λ_ h=>(nomatch h)] (λj σ N h=>h.2.1 _ _ ae ag) ?_ ?_
   .intro j t σ N ht %[%[o5|rfl],v,M,hM,Mn,Mr|Md];let%[b1,y,z|et]:=cd t (Z8 ht);change a9 _ _ _ [!l,!m,!b,!d,-n,some (.ref t.1)] N;show ak λD6 k6 _=>?_
    lk;let a3:∀c o,c≠d->c≠e->H3 c∣o->N c∣o:=λc o G J q=>v c o J (a1 c o G q)
    let te:∀c zs,H3 c&&&zs->N c&&&zs:=λc zs q=>a3 c _ (λz=>by rw[z,s3 _ _ hd]at q;cases q) (λz=>by rw[z,e3]at q;cases q) q
    let t6:=te _ _ (al _ _ (O t b1).1);rw[et]at t6;let a4:=v d _ C.symm a0;let ai:bu (gD (rs++[(n,e,([]:ZB))])) (Sum.inr n)∣.ref e:=by
     let%[r,ce,e1|hv]:=lQ (rs:=rs++[(n,e,[])]) (y:=n) ∅;rcases Xi ce with q|q
     .exact(an (by rw[<-e1];exact Xl %[r,q|rfl])).elim
     .rw[Xj q]at hv;exact hv
    let gn:=cE.k (k:=Sum.inr n) a4;rw[ai]at gn;let ed:Ed (ss\2) n y:=%[z|by rw[<-et];exact Xl %[t,b1|rfl]]
    let yt:=b7 i n hn y ed;rw[<-rk]at yt;let%[M1,e1,n1|m1]:=Ci (M:=M) (x:=y);let a5:∀U:ZB,U.Nodup->(∀x∈U,Rch (ss\2) n x)-> ~~~U<=63:=λU G J=>Nat.le_trans (_ST.nodup_sub G λx hx=>Gx (λt ht=>(O t ht).2) (J x hx)) nl
    let Ml:=a5 M Mn Mr;show%[_,gn,_,SqT.of t6,_,ρ,e,ρ,_,je.k (k:=Sum.inr y) hM (by unfold SD VD;rw[Z6];exact aA ⋯)|k6 _ _ (aB λD7 k7 _=>?_)];rw[e1];let b2:∀x∈M1,Rch (ss\2) n x:=λx hx=>((m1 x).mp hx).elim (Mr x) λq=>q▸ .one ed
    let a6:Ja N e (.dK (SD M1)) e∣.dK (SD M1):=upd_same;let u7:∀c o,c≠e->N c∣o->Ja N e (.dK (SD M1)) c∣o:=λc o h q=>by rw[am h];exact q
    generalize Ja N e (.dK (SD M1))=H7 at a6 u7
    let b3:=cE.k (k:=Sum.inr n) (u7 _ _ C.symm a4);rw[ai]at b3;let%[ry,I,ey|gy]:=lQ (rs:=rs++[(n,e,[])]) (y:=y) (by rw[Zd];exact Yp _ yt);let I:ry∈rs:=by
     rcases Xi I with q|q
     .exact q
     .rw[Xj q]at ey;exact(nr n (.one (by rw[<-show n=y from ey]at ed;exact ed))).elim
    let b4:=cE.k (k:=Sum.inr y) (u7 _ _ C.symm a4);rw[gy]at b4;let a7:ry.2.1≠e:=aC (g.at_ ry I).1 fe;let ch:=u7 _ _ a7 (v _ _ a7 (a2 _ _ (rn ry I).1 (g.at_ ry I).1));lk;let%[M2,e2,n2|m2]:=vJ (R:=ry.2.2) (M:=M1);let ab:=(g.at_ ry I).2;rw[ey]at ab;let cp:=a5 M1 (n1 Mn) b2;let Rl:=a5 ry.2.2 ab.1 λx hx=>(Rch.one ed).trans ((ab.2 x).mp hx)
    show%[_,b3,tyD (a6),_,SqT.of (u7 _ _ (λc=>by rw[c,hM]at t6;cases t6) t6),_,ρ,_,b4,ry.2.1,ρ,_,_,a7.symm,a6,ch,by unfold SD VD;rw[Z6,Z6,PySem.sizeLine_eq];lia|?_];rw[e2];show k7 _ _ %[%[_|rfl],λc o h q=>by rw[am h];exact u7 c o h (v c o h q),M2,upd_same,n2 (n1 Mn),λx hx=>?_|λt' b5 x ex=>?_]
    .rcases(m2 x).mp hx with q|q
     .exact b2 x q
     .exact(Rch.one ed).trans ((ab.2 x).mp q)
    .rw[X6,ht]at b5;rcases Xi b5 with q|q
     .let%[G|J]:=Md t' q x ex;exact%[(m2 x).mpr (.inl ((m1 x).mpr (.inl G)))|λz hz=>(m2 z).mpr (.inl ((m1 z).mpr (.inl (J z hz))))]
     .rw[show t'=t from Xj q,et]at ex;obtain rfl:y=x:=Za ex;exact%[(m2 y).mpr (.inl ((m1 y).mpr (.inr rfl)))|λz hz=>(m2 z).mpr (.inr ((ab.2 z).mpr hz))]
   .intro σ N %[%[o5|rfl],v,M,hM,Mn,Mr|Md];rw[Zn (Zi _)]at Md;let all:∀y,y∈M↔Rch (ss\2) n y:=λy=>%[Mr y|λr=>by
     let%[x,%[z|hz]|q]:=z0 r;let%[t,ht|et]:=Xk hz;let h:=Md t (by rw[<-b0];exact List.mem_filter.mpr %[ht|by rw[et];simp]) x (by rw[et];rfl);exact q.elim (λq=>q▸h.1) λq=>h.2 y q]
    let b6:∀r∈rs,r.2.1≠e:=λr u=>aC (g.at_ r u).1 fe
    show k5 _ _ %[%[_,_|rfl],λc o h q=>v c o (aC q e3) (a1 c o h q),rs++[(n,e,M)],?_,%[?_,?_|λr u=>?_],λr u=>?_|by rw[Zd,rk,tk];rfl]
    .rw[v d _ C.symm a0];unfold gD;rw[Zd,Zd];rfl
    .rw[Zd,Yw];exact%[g.nd,by simp|λa ha b hb c=>an (by rw[<-show b=n from Xj hb,<-c];exact ha)]
    .rw[Zd,Yw];show%[g.ad,by simp|λa ha b hb c=>?_];let%[r,u|rfl]:=Xk ha;exact b6 r u (c.trans (Xj hb))
    .rcases Xi u with q|q
     .exact%[v _ _ (b6 r q) (a2 _ _ (rn r q).1 (g.at_ r q).1)|(g.at_ r q).2]
     .rw[Xj q];exact%[hM,Mn|all]
    .rcases Xi u with q|q
     .exact rn r q
     .rw[Xj q];exact%[C|e3]
  .intro σ B %[%[o4,o5|rfl],sm,rs,ac,g,rn|rk];rw[Zn (Zi _)]at rk;show k3 _ _ ?_;lk;let keep:af H B:=λc o e=>sm c o (aC e bl) (al _ _ e)
   exact kk d B rs keep bl ac g (λr u=>%[(rn r u).1|al.free (rn r u).2]) λx=>by rw[rk];exact%[Ls x|bn x]
structure ReF (H:Hp) (ks:List ZB) (d:Addr) (rs:Gs Str):Prop where
 at_:∃o,H d∣.frz o (.dK (gD rs))
 nd:(rs\1).Nodup
 in_:∀r∈rs,(∃o,H r.2.1∣.frz o (.dK (SD r.2.2)))/\r.2.2.Nodup/\∀y,y∈r.2.2↔Rch ks r.1 y
def ReF.up(h:ReF H ks d rs)(s:af H b):ReF b ks d rs:=
 %[h.at_.imp λo e=>s _ _ e,h.nd|λr a=>%[(h.in_ r a).1.imp λo e=>s _ _ e|(h.in_ r a).2]]
def ReF.same{H:Hp}{ks a:List ZB}{d:Addr}{rs:Gs Str}(h:ReF H ks d rs)(e:∀k,k∈ks↔k∈a):ReF H a d rs:=%[h.at_,h.nd|by rw[<-vA e];exact h.in_]
inductive x5
 | mk (l m:Addr) (ns:ZB) (ss:ZG):vs=[.ref l,.ref m]->H l<*ns\3->ns.Nodup-> ~~~ns<=63->H m∣.lst (ss\0)->dt H ns ss-> ~~~ss<=150->(∀x,¬ Rch (ss\2) x x)->(∀d H' (rs:Gs Str),af H H'->ReF H' (ss\2) d rs->(∀x,x∈rs\1↔x∈ns)->Q (.ref d) H')->x5 vs H Q E0
def p9(T:Txt K mg):↥4 "all_beneath" ["names","found"] x5:=by
 show(pj T).freeze.imp λvs H Q E zqw=>?_;let%[l,m,f,ss,g,h,i,j,n,p,s,t|u]:=zqw;show %[l,m,f,ss,g,h,i,j,n,p,s,t|λd C rs v y z a A B=>%[d::rs.map (·.2.1)|λG=>u d _ rs (λc o e=>?_) %[%[_|j9 Zm z],a.nd|λr b=>%[%[_|j9 (Zk _ (Xl %[r,b|ρ])) (a.at_ r b).1]|(a.at_ r b).2]] B]]
 rw[kb]
 .exact v c o e
 .intro q;rcases mem_cons.mp q with rfl|q
  .rw[y]at e;cases e
  .let%[r,b|rfl]:=Xk q;rw[(A r b).2]at e;cases e
inductive x6 (mg:ZC)
 | mk (g:Addr) (qs:ZN) (ls:ZB) (ts:ZG):vs=[.ref g]->f6 mg H g qs ls ts->(∀lk,br (a8 qs) (ts\2) lk->∀x,¬ Rch lk x x)->(∀d H' (rs:Gs Str) lk ns,af H H'->br (a8 qs) (ts\2) lk->xX (a8 qs) ls ns->ReF H' lk d rs->(∀x,x∈rs\1↔x∈ns)->Q (.ref d) H')->x6 mg vs H Q E0
def pq(T:Txt K mg):↥7 "earlier_ones" ["ground"] (x6 mg):=by
 .exists T.b0,iu,p,c,%[g,qs,e,ts,rfl,a,nr|q];let%[r,u,v|y]:=a.gr;let U:=a.ll;show%[_,%["JDI1G]%A0BEHG]&AG~rA0BA1B",iu.nd|c]|?_]
  change a9 _ _ _ [!g,none] H;show ak λY k1 _=>?_
  lk;show%[g,qs,e,ts,ρ,a,nr|λl H1 z ss n B C G lk=>k1 _ _ ?_];lk;show%[g,r,u,v,qs,e,ts,ρ,y.up n,a.nd,a.so,⋯|λm H2 i j fm I b=>?_];let nl: ~~~i<=63:=by
   let:=_ST.nodup_sub b.nd λx J=>((b.mem x).mp J).1
   lia
  show%[m,l,i,ss,ρ,I,b.nd,nl,j _ _ B,λt o=>%[j _ _ (C t o).1|a.names lk b _ (Xl %[t,o|ρ])],G,nr _ lk|λd L rs M N O=>q d L rs _ i (n.trans (j.trans M)) lk b N O]
structure vK (mg:ZC) (H:Hp) (g:Addr) (qs:ZN) (ls:ZB) (ts:ZG) (lk:List ZB):Prop where
 gr:f6 mg H g qs ls ts
 li:br (a8 qs) (ts\2) lk
 nr:∀x,¬ Rch lk x x
def vK.up{mg:ZC}{H a:Hp}{g:Addr}{qs:ZN}{b:ZB}{ts:ZG}{lk:List ZB}(h:vK mg H g qs b ts lk)(s:af H a):vK mg a g qs b ts lk:=%[h.gr.up s,h.li|h.nr]
def vK.all{mg:ZC}{H:Hp}{g:Addr}{qs:ZN}{b:ZB}{ts:ZG}{lk:List ZB}(h:vK mg H g qs b ts lk)(a:List ZB)(c:br (a8 qs) (ts\2) a):∀x,¬ Rch a x x:=by
 rw[vA (c.mm h.li)];exact h.nr
abbrev Up(lk:List ZB)(a b:Str):Prop:=a=b\/Rch lk a b
abbrev HE(K:ZA)(b:TE):TT:=λc H Q=>b c H λx a=>∃k,yA K x a k/\Q k a
def truN{X:Cx}{K:ZA}{a:Expr}{c:TE}(h:X.K=K)(d:∀b,isTrue a X.env b=(do let v<-b;standAt a.pos;holding [v] (truthy v)))(e:QE X a c):QT X a (HE K c):=iC h d e
noncomputable abbrev Yr:=Addr×Nat×Str×Int
abbrev mJ(H:Hp)(ys:List Yr):Prop:=∀t∈ys,H t.1&&&[.int t.2.1,.str t.2.2.1,.int t.2.2.2]
def mJ.up{H a:Hp}{ys:List Yr}(h:mJ H ys)(s:af H a):mJ a ys:=λt b=>s _ _ (h t b)
def Gy{M:ZB}{y:Str}:(bu (SD M) (Sum.inr y)).isSome=true↔y∈M:=by
 by_cases c:y∈M
 .unfold SD;rw[lR c];simp[c]
 .unfold SD;rw[np c];simp[c]
inductive Cj
 | mk (d:Addr) (x y:Str) (ks:List ZB) (rs:Gs Str):vs=[.ref d,.str x,.str y]->ReF H ks d rs->x∈rs\1->(∀b:Bool,(b=true↔Up ks x y)->Q (.bl b) H)->Cj vs H Q E0
abbrev upB(ks:List ZB)(a b:Str):Bool:= @decide (Up ks a b) (Classical.propDecidable _)
def x8{ks:List ZB}{a b:Str}:upB ks a b=true↔Up ks a b:= @decide_eq_true_iff _ (Classical.propDecidable _)
inductive x9 (up:Bool)
 | mk (l d:Addr) (x:Str) (ks:List ZB) (rs:Gs Str) (ys:List Yr):vs=[.ref l,.ref d,.str x]->H l∣.lst (ys\0)->mJ H ys->ReF H ks d rs->x∈rs\1->(∀t∈ys,t.2.2.1∈rs\1)-> ~~~ys<=60->(∀r H',af H H'->H r=none->H' r∣.lst ((ys.filter λt=>if up then upB ks t.2.2.1 x else upB ks x t.2.2.1)\0)->Q (.ref r) H')->x9 up vs H Q E0
def jc{ys:List Yr}{p:Yr->Bool}{j:Nat}(a:j< ~~~ys):(ys.take (j+1)).filter p=(ys.take j).filter p++if p ys[j]=true then [ys[j]]else []:=by
 rw[X6,Z4 a,Y1];rw[show(some ys[j]).toList=[ys[j]]from rfl,filter_cons,Y4]
def vL{ys:List Yr}{p:Yr->Bool}{j:Nat}(h: ~~~ys<=60): ~~~(((ys.take j).filter p)\0)<=60:=by
 rw[Z6];exact Nat.le_trans (Ye _ _) (Nat.le_trans (List.length_take_le' ..) h)
def kQ(T:Txt K mg):↥1 "is_one_or_later" ["reach","upper","lower"] Cj:=by
 .exists T.bo,jH,j,e,%[d,x,y,ks,rs,rfl,g,l|i];show%[_,%["JEH~eta12$]'2j01",0|e]|?_];change iB _ _ [!d,-x,-y] H;let%[r,a,m|n]:=lQ l;let%[o|p]:=g.at_;let%[%[q|b],nd|mem]:=g.in_ r a;lk;by_cases c:x=y
  .rw[if_pos (Zf c)];exact i true %[λ_=> .inl c|λ_=>rfl]
  .rw[if_neg (by simp[c])];show%[_,.inl %[_,Sum.inr x,.inr %[o|p],ρ|n.symm],_,ρ,_,.inl %[_,Sum.inr y,.inr %[q|b],ρ|ρ]|i _ ?_];rw[Gy,mem,m];exact%[.inr|λh=>h.resolve_left c]
def vM(T:Txt K mg):↥2 "bys_above" ["bys","reach","name"] (x9 true):=by
 .exists T.bn,tf,y,z,%[l,d,x,ks,rs,ys,rfl,q,B,C,O,G,I|J];show%[_,%["JEHlb?1S0V0?2u](G])AN1AQ0]*AN2B0",0,↑(["said","reach","name"],[(1,1),(2,2)]),↑["said","reach","name"]|z]|?_];change iB _ _ [!l,!d,-x] H;show az λr L=>?_
  lk;show%[%[_|Jb.of q]|L _ _ λF m=>?_];show dQ (λj vs n e=>(∃u,n=[u,!d,-x])/\af H e/\e F<*vs/\vs=(((ys.take j).filter λt=>upB ks t.2.2.1 x)\0))
   %[%[none|rfl],af.Ja m,upd_same|rfl] (λ_ _ _ e o=>o.2.1 _ _ q) ?_ ?_
  .intro j vs n e i %[%[u|rfl],g,a|rfl];let v:=Ya i;let M:=g _ _ (B _ v);unfold HE;lk;show%[_,SqT.of M,_,ρ,d,_,x,ks,rs,ρ,C.up g,G _ v|λb N=>%[b,ρ|?_]];obtain rfl:b=upB ks ys[j].2.2.1 x:=Bool.eq_iff_iff.mpr (N.trans x8.symm);show ba (λc=>CK.mk i a (by let:=vL (p:=λt=>upB ks t.2.2.1 x) (j:=j) I;exact aA ⋯) %[%[_|rfl],af.set g m,upd_same|?_]) λc=>CN.mk i %[%[_|rfl],g,a|?_]
   .rw[jc i,if_pos c,Zd];rfl
   .rw[jc i,if_neg c,Zy]
  .intro vs n e %[_,g,a|rfl];rw[Zn (Zi _)]at a;exact J F e g m a
abbrev YS(qs:ZN)(wd:Str)(n:Nat)(d:Str)(y:Int):Prop:=∃q a,qs[n]?∣q/\q.2=[.str wd,.str a,.int y]/\cI (a8 qs) a d
inductive vN (mg:ZC)
 | mk (g:Addr) (wd:Str) (qs:ZN) (ls:ZB) (ts:ZG):vs=[.ref g,.str wd]->f6 mg H g qs ls ts->(wd="since"\/wd="by")-> ~~~qs<=60->(∀l H' (ys:List Yr),af H H'->H l=none->H' l∣.lst (ys\0)->mJ H' ys->(∀n d y,(n,d,y)∈ys\2↔YS qs wd n d y)-> ~~~ys<=60->Q (.ref l) H')->vN mg vs H Q E0
def kR(T:Txt K mg):↥4 "years_said" ["ground","word"] (vN mg):=by
 .exists T.bm,fF,ai,L,%[g,wd,qs,ls,ts,rfl,hg,hw,ql|kk];let%[c2,c3,c4|gr]:=hg.gr;let ll:=hg.ll;show%[_,%["JD,2ghG~mA0BDI3~G~=0EHlb?1~MA3BdMV0?2MV1?2euKaQ1CN3mA0AjN2Q1CAQ1CB",fF.nd,↑(["number","saying","names","word"],[(2,2),(3,1)]),↑["number","saying","names","word"]|L]|?_]
  change a9 _ _ _ [!g,-wd,none,none] H;show ak λD1 k1 _=>?_
  lk;show%[g,c2,c3,c4,qs,ls,ts,ρ,gr,hg.nd,hg.so,⋯|λd H1 r s1 fd hd L=>k1 _ _ (ak λD2 k2 _=>?_)];let B:=gr.up s1;lk;show lN B (.inr (.inl rfl)) %[g,c2,c3,c4,qs,ls,ts,rfl,B|λl1 ab=>k2 _ _ ?_];let s2:=af.Ja (o:= .lst (qs\0)) ab;let m:Ja H1 l1 (.lst (qs\0)) l1=_:=upd_same;let sa:=(B.up s2).sa;let hd:=s2 _ _ hd;let C:=s1.trans s2
  generalize Ja H1 l1 (.lst (qs\0))=H2 at s2 m hd C sa
  show az λag hK=>?_
  lk;show%[_,Jb.of m|hK _ _ λF hF=>?_];show bR (J:=Ite K l1 (qs\0)) (n:= ~~~qs) (D:=F) (λj vs N l=>(∃o1 o2,N=[o1,o2,!d,-wd])/\af H2 l/\l F<*vs/\∃ys:List Yr,vs=ys\0/\mJ l ys/\ ~~~ys<=j/\∀n d y,(n,d,y)∈ys\2↔n<j/\YS qs wd n d y)
   %[%[none,none|rfl],af.Ja hF,upd_same,[],rfl,(λ_ h=>nomatch h),Zi _|by simp] (λj ys N l z G=>%[Jb.of (G.2.1 _ _ m)|by rwa[Z6]]) (λys N l G=>%[Jb.of (G.2.1 _ _ m)|by rw[Z6];exact Zi _]) ?_ ?_
  .intro j vs N l z %[%[o1,o2|rfl],u,i,ys,rfl,I,yl|ym] _ _ %[x,t0,hx,ac,rfl|rfl];rw[Zl,Z4 z]at hx;obtain rfl:V.ref qs[j].1=x:=Za hx;let sT:=af.Ja (o:= .tup [.int j,.ref qs[j].1]) ac;let g0:Ja l t0 (.tup [.int j,.ref qs[j].1]) t0=_:=upd_same;let i:=sT _ _ i;let I:=I.up sT;let u:=u.trans sT
   generalize Ja l t0 (.tup [.int j,.ref qs[j].1])=H3 at sT g0 i I u
   let%[tu|ok]:=(sa.up u) _ (Ya z);show%[_,SqT.of g0,ρ,_,_,ρ,_,_,ρ,ρ|?_];change xq _ [some (.int j),some (.ref qs[j].1),!d,-wd] _ _;lk;let ex:∃M v1 v2,qs[j].2=[.str M,v1,v2]/\(M=wd->∃a y,v1=V.str a/\v2=V.int y/\a∈ls):=by
    rcases ok with⟨M,a,b,e,ae,_⟩|⟨M,a,y,e,_,O,_⟩
    .show%[_,_,_,e|λc=>?_];subst c;rcases hw with rfl|rfl<;> rcases ae with h|h<;> exact absurd h (!1)
    .exact%[_,_,_,e|λ_=>%[a,y,ρ,ρ|O]]
   let%[M,v1,v2,e|he]:=ex;rw[e]at tu;show%[_,SqT.of tu,_,ρ,ρ|ba (λc=>?_) λc=>?_]
   .obtain rfl:M=wd:=V.str.inj (Zo c);let%[a,y,rfl,rfl|O]:=he rfl;let get:=cE.k (k:=Sum.inr a) (u _ _ hd);rw[lM O]at get;show%[_,SqT.of tu,_,ρ,_,get,_,SqT.of tu,_,ρ,#[3]|λp hp=>?_];let sp:=af.Ja (o:= .tup [.int j,.str (r a),.int y]) hp;let gp:Ja H3 p (.tup [.int j,.str (r a),.int y]) p=_:=upd_same
    generalize Ja H3 p (.tup [.int j,.str (r a),.int y])=H4 at sp gp ⊢
    show CK.mk z (sp _ _ i) (by rw[Z6];exact aA ⋯) %[%[_,_|rfl],af.set (u.trans sp) hF,upd_same,ys++[(p,j,r a,y)],by rw[Zd];rfl,λt ht=>?_,by rw[Z9];exact succ_le_succ yl|λn d' y'=>?_]
    .show gZ (sp _ _ i) _ _ ?_;rcases Xi ht with q|q
     .exact sp _ _ (I t q)
     .rw[Xj q];exact gp
    .rw[Zd,Yo,ym];change _\/(n,d',y')∈[(j,r a,y)]↔_;rw[Yu]
     constructor
     .rintro(⟨U,v⟩|h)
      .exact%[⋯|v]
      .cases h;exact%[Yk _,_,a,Z4 z,e|(L a O).2]
     .rintro⟨U,v⟩;rcases Nat.lt_succ_iff_lt_or_eq.mp U with h|rfl
      .exact .inl %[h|v]
      .let%[q,a',Y,e2|l2]:=v;rw[Z4 z]at Y;cases Y;rw[e]at e2;cases e2;rw[(L a O).2.one l2];exact .inr rfl
   .show CN.mk z %[%[_,_|rfl],u,i,ys,rfl,I,⋯|λn d' y'=>?_];rw[ym]
    constructor
    .rintro⟨U,v⟩;exact%[⋯|v]
    .rintro⟨U,v⟩;show%[?_|v];rcases Nat.lt_succ_iff_lt_or_eq.mp U with h|rfl
     .exact h
     .let%[q,a',Y,e2|_]:=v;rw[Z4 z]at Y;cases Y;rw[e]at e2;cases e2;exact absurd (Zf rfl) c
  .intro vs N l %[_,u,i,ys,rfl,I,yl|ym];exact kk F l ys (C.trans u) (C.free hF) i I (λn d y=>(ym n d y).trans %[λh=>h.2|λh=>⟨by let%[q,_,e|_]:=h;exact(Xh e).1,h⟩]) ⋯
def YS.in_{mg:ZC}{H:Hp}{g:Addr}{qs:ZN}{f i:ZB}{ts:ZG}{wd d:Str}{n:Nat}{y:Int}(b:f6 mg H g qs f ts)(j:xX (a8 qs) f i)(h:YS qs wd n d y):d∈i:=by
 let%[q,a,m,c|l]:=h;let%[s,t,u|b]:=b.gr;let o:a∈f:=by
  rcases(b.sa q (Z8 m)).2 with⟨p,x,z,e,_⟩|⟨p,x,z,e,_,r,_⟩
  .rw[e]at c;cases c
  .rw[e]at c;cases c;exact r
 exact(j.mem d).mpr %[l.1.within (iX b.sa) o|jK l l.1]
abbrev Cls(qs:ZN)(lk:List ZB)(i j:Nat):Prop:=∃d x y z,YS qs "since" i d y/\YS qs "by" j x z/\Up lk x d/\y>z
abbrev PrN(H:Hp)(ps:List (Addr×Nat×Nat)):Prop:=∀t∈ps,H t.1&&&[.int t.2.1,.int t.2.2]
inductive Ck (mg:ZC)
 | mk (g:Addr) (qs:ZN) (ls:ZB) (ts:ZG):vs=[.ref g]->f6 mg H g qs ls ts->(∀lk,br (a8 qs) (ts\2) lk->∀x,¬ Rch lk x x)-> ~~~qs<=60->(∀l H' (ps:List (Addr×Nat×Nat)) lk,br (a8 qs) (ts\2) lk->af H H'->H' l∣.lst (ps\0)->PrN H' ps->(∀i j,(i,j)∈ps\2↔Cls qs lk i j)-> ~~~ps<=3600->Q (.ref l) H')->Ck mg vs H Q E0
def lS(T:Txt K mg):↥8 "clashing_pairs" ["ground"] (Ck mg):=by
 .exists T.bp,bq,a5,U,%[g,qs,ls,ts,rfl,hg,nr,ql|kk];show%[_,%["JDI1G]+A0BDI2G~}A0AcBDI3TBDUSG~}A0AcBdM~R4ghML5M~R6gheEZ~g~h3Alb?1SG],A2A1A5BV0?2uK*N2Q0].mAN1AQ0]/BBEH3",bq.nd,↑(["said","number","year"],[(1,4),(2,6)]),↑["said","number","year"]|U]|?_]
  change a9 _ _ _ [!g,none,none,none,none,none,none] H;show ak λD1 k1 _=>?_
  lk;show%[g,qs,ls,ts,ρ,hg,nr|λd H1 rs lk ns s1 li hn G rn=>k1 _ _ (ak λD2 k2 _=>?_)];lk;show%[g,_,qs,ls,ts,ρ,hg.up s1,.inr rfl,ql|λl2 H2 zs s2 a6 m za zm zl=>k2 _ _ (ak λD3 k3 _=>?_)];let ag:=s1.trans s2;lk;show%[Xa _|λL hL=>k3 _ _ (ak λD4 k4 _=>ay λa4 hK=>?_)];let sL:=af.Ja (o:= .lst []) hL;let gL:Ja H2 L (.lst []) L=_:=upd_same;let G:=(G.up s2).up sL;let as:l2≠L:=λc=>by rw[c,hL]at m;cases m
  let m:=sL _ _ m;let za:=za.up sL;let fL:=ag.free hL;let Y:=ag.trans sL
  generalize Ja H2 L (.lst [])=H3 at sL gL G m za Y
  lk;show%[g,_,qs,ls,ts,ρ,hg.up Y,.inl rfl,ql|λl1 H4 ys s4 ai aj ya ym yl=>%[l1,ρ,%[_|Jb.of aj]|hK _ _ ?_]];let a0:l1≠L:=λc=>by rw[c,gL]at ai;cases ai
  let gL:=s4 _ _ gL;let G:=G.up s4;let m:=s4 _ _ m;let za:=za.up s4;show bV (us:=ys) (f:=λt=>V.ref t.1) (λi J v=>(∃o4 o5 o6,J=[!g,!d,!l2,!L,o4,o5,o6])/\cR L H4 v/\∃ps:List (Addr×Nat×Nat),v L∣.lst (ps\0)/\PrN v ps/\ ~~~ps<=60*i/\∀a b,(a,b)∈ps\2↔∃t∈ys.take i,t.2.1=a/\∃u∈zs,u.2.1=b/\Up lk u.2.2.1 t.2.2.1/\t.2.2.2>u.2.2.2)
   %[%[_,_,_|rfl],(λ_ _ _ h=>h),[],gL,(λ_ h=>nomatch h),Zi _|by simp] (λi J v ab=>ab.2.1 _ _ a0 aj) ?_ ?_
  .intro i x J v hx %[%[o4,o5,o6|rfl],sx,ps,B,pa,pl|pm];let fX:∀{c o},H4 c∣o->(∀xs,o≠ .lst xs)->v c∣o:=λ{c o} h q=>sx c o (λz=>by rw[z,gL]at h;exact q _ (Za h).symm) h
   let xm:=Z8 hx;let tx:=fX (ya x xm) (λ_=>nofun);let a1:ReF v lk d rs:=%[G.at_.imp λo h=>fX h (λ_=>nofun),G.nd|λr U=>%[(G.in_ r U).1.imp λo h=>fX h (λ_=>nofun)|(G.in_ r U).2]]
   let al:mJ v zs:=λt n=>fX (za t n) (λ_=>nofun)
   let rx:x.2.2.1∈rs\1:=(rn _).mpr (((ym _ _ _).mp (Xl %[x,xm|rfl])).in_ hg hn);show%[_,SqT.of tx,ρ,_,_,ρ,_,_,ρ,_,_,ρ,ρ|?_];change iE _ _ [!g,!d,!l2,!L,some (.int x.2.1),some (.str x.2.2.1),some (.int x.2.2.2)] v;show aB λD5 k5 _=>?_
   lk;show%[tyL (Jb.of B)|?_];show az λa2 a3=>?_
   lk;show%[l2,d,_,lk,rs,zs,ρ,sx _ _ as m,al,a1,rx,(λt n=>(rn _).mpr (((zm _ _ _).mp (Xl %[t,n|ρ])).in_ hg hn)),zl|λr H5 s5 fr ac=>%[r,ρ,%[_|Jb.of ac]|a3 _ _ λF hF=>?_]];let ul:=vL (p:=λt=>if true=true then upB lk t.2.2.1 x.2.2.1 else upB lk x.2.2.1 t.2.2.1) (j:= ~~~zs) zl;rw[take_length,Z6]at ul;let um:∀u,u∈(zs.filter λt=>if true=true then upB lk t.2.2.1 x.2.2.1 else upB lk x.2.2.1 t.2.2.1)↔u∈zs/\Up lk u.2.2.1 x.2.2.1:=λu=>by
    rw[List.mem_filter];exact and_congr_right λ_=>x8
   generalize (zs.filter λt=>if true=true then upB lk t.2.2.1 x.2.2.1 else upB lk x.2.2.1 t.2.2.1)=us at ac um ul
   let ua:mJ H5 us:=λt n=>s5 _ _ (al t ((um t).mp n).1)
   show dQ (λj vs J M=>(∃o1,J=[o1,some (.int x.2.1),some (.int x.2.2.2)])/\af H5 M/\M F<*vs/\∃l:List (Addr×Nat×Nat),vs=l\0/\PrN M l/\ ~~~l<=j/\l\2=((us.take j).filter λu=>decide (u.2.2.2<x.2.2.2)).map λu=>(x.2.1,u.2.1))
    %[%[none|rfl],af.Ja hF,upd_same,[],rfl,(λ_ h=>nomatch h),Zi _|rfl] (λ_ _ _ M ab=>ab.2.1 _ _ ac) ?_ ?_
   .intro j vs J M hj %[%[o1|rfl],sm,C,l,rfl,ra,rl|rm];let tu:=sm _ _ (ua _ (Ya hj));lk;show%[_,SqT.of tu,_,ρ,_,ρ|ba (λc=>%[_,SqT.of tu,_,ρ,#[2]|λp hp=>?_]) λc=>CN.mk hj %[%[_|ρ],sm,C,l,ρ,ra,⋯|?_]]
    .let sp:=af.Ja (o:= .tup [.int x.2.1,.int us[j].2.1]) hp;let gp:Ja M p (.tup [.int x.2.1,.int us[j].2.1]) p=_:=upd_same
     generalize Ja M p (.tup [.int x.2.1,.int us[j].2.1])=H7 at sp gp ⊢
     show CK.mk hj (sp _ _ C) (by rw[Z6];exact aA ⋯) %[%[_|rfl],af.set (sm.trans sp) hF,upd_same,l++[(p,x.2.1,us[j].2.1)],by rw[Zd];rfl,λt n=>?_,by rw[Z9];exact succ_le_succ rl|?_]
     .show gZ (sp _ _ C) _ _ ?_;rcases Xi n with q|q
      .exact sp _ _ (ra t q)
      .rw[Xj q];exact gp
     .rw[jc hj,if_pos c,Zd,Zd,rm];rfl
    .rw[jc hj,if_neg c,Zy,rm]
   .intro vs J M %[_,sm,C,l,rfl,ra,rl|rm];rw[Zn (Zi _)]at rm;let ae:=s5.trans sm;let an:=ae _ _ B;let a7:F≠L:=λc=>by rw[c,s5 _ _ B]at hF;cases hF
    show%[F,ρ,_,an,_,C,by rw[Z6,Z6,PySem.sizeLine_eq];let:=(Xh hx).1;lia|k5 _ _ %[%[_,_,_|ρ],(λb o h q=>by rw[am h];exact ae _ _ (sx b o h q)),ps++l,by rw[upd_same,Zd],λt n=>?_,by rw[Z9];lia|λa b=>?_]]
    .show gZ an _ _ ?_;rcases Xi n with q|q
     .exact ae _ _ (pa t q)
     .exact ra t q
    .rw[Zd,Yo,pm,rm,X6,hx];change _↔∃t∈ys.take i++[x],_
     constructor
     .rintro(⟨t,n,h⟩|h)
      .exact%[t,Yp _ n|h]
      .let%[u,N|e]:=Xk h;let%[I|O]:=List.mem_filter.mp N;cases e;exact%[x,Yq _ Zm,ρ,u,((um u).mp I).1,ρ,((um u).mp I).2|Zo O]
     .rintro⟨t,n,rfl,u,N,rfl,I,O⟩;rcases Xi n with q|q
      .exact .inl %[t,q,rfl,u,N,rfl,I|O]
      .obtain rfl:=Xj q;exact .inr (Xl %[u,List.mem_filter.mpr %[(um u).mpr %[N|I]|Zf O]|rfl])
  .intro J v %[%[o4,o5,o6|rfl],sx,ps,B,pa,pl|pm];rw[Zn (Zi _)]at pm;show k4 _ _ ?_;lk;show kk L v ps lk li (λb o h=>sx b o (aC h fL) ((Y.trans s4) _ _ h)) B pa (λi j=>(pm i j).trans ?_) ⋯
   constructor
   .rintro⟨t,n,rfl,u,N,rfl,I,O⟩;exact%[_,_,_,_,(ym _ _ _).mp (Xl %[t,n|ρ]),(zm _ _ _).mp (Xl %[u,N|ρ]),I|O]
   .rintro⟨d',x,y,z,I,O,h3,h4⟩;let%[t,n|e1]:=Xk ((ym _ _ _).mpr I);let%[u,N|e2]:=Xk ((zm _ _ _).mpr O);exact%[t,n,by rw[e1],u,N,by rw[e2],by rw[e1,e2];exact h3|by rw[e1,e2];exact h4]
abbrev ND(L:List Nat)(f:Nat->V):List (Key×V):=L.map λn:Nat=>(Sum.inl (n:Int),f n)
def xf{L:List Nat}{f:Nat->V}{x:Nat}(h:x∈L):bu (ND L f) (Sum.inl (x:Int))∣f x:=by
 induction L with
 | nil=>cases h
 | cons y L a=>
   change bu ((Sum.inl (y:Int),f y)::ND L f) _=_;by_cases e:y=x
   .subst e;exact cV rfl
   .rw[b8 (λq=>e (Int.ofNat.inj (Sum.inl.inj q)))];exact a ((mem_cons.mp h).resolve_left λq=>e q.symm)
def tM{L:List Nat}{f:Nat->V}{x:Nat}(h:x∉L):bu (ND L f) (Sum.inl (x:Int))=none:=by
 induction L with
 | nil=>rfl
 | cons y L a=>
   rw[Ys,not_or]at h;change bu ((Sum.inl (y:Int),f y)::ND L f) _=_;rw[b8 (λq=>h.1 (Int.ofNat.inj (Sum.inl.inj q)).symm)];exact a h.2
abbrev TD(L:List Nat)(m:Nat->Nat):List (Key×V):=ND L λx=> .int (m x)
noncomputable abbrev Pt:=List (Nat×Addr×List Nat)
abbrev nums(l:List Nat):ZM:=l.map λn:Nat=>V.int (n:Int)
structure PtF (H:Hp) (d:Addr) (rs:Pt):Prop where
 at_:∃o,H d∣.frz o (.dK (rs.map λg=>(Sum.inl (g.1:Int),V.ref g.2.1)))
 la:∀g∈rs,H g.2.1<*nums g.2.2
 nd:(rs\1).Nodup
 lt:∀g∈rs,g.1<60/\∀p∈g.2.2,p<60
def PtF.up{H a:Hp}{d:Addr}{rs:Pt}(h:PtF H d rs)(s:af H a):PtF a d rs:=%[h.at_.imp λ_ e=>s _ _ e,λg b=>s _ _ (h.la g b),h.nd|h.lt]
abbrev PtE(rs:Pt)(a p:Nat):Prop:=∃g∈rs,g.1=a/\p∈g.2.2
def Cl{rs:Pt}(nd:(rs\1).Nodup){g r:Nat×Addr×List Nat}(d:g∈rs)(c:r∈rs)(e:g.1=r.1):g=r:=by
 induction rs with
 | nil=>cases c
 | cons x rs f=>
   rw[Ym,nodup_cons]at nd;rcases mem_cons.mp c with a|a<;> rcases mem_cons.mp d with b|b
   .rw[a,b]
   .exact(nd.1 (by rw[<-a,<-e];exact Xl %[_,b|rfl])).elim
   .exact(nd.1 (by rw[<-b,e];exact Xl %[_,a|rfl])).elim
   .exact f nd.2 b a
def Es{rs:Pt}(nd:(rs\1).Nodup){r:Nat×Addr×List Nat}(a:r∈rs):bu (rs.map λg=>((Sum.inl (g.1:Int):Key),V.ref g.2.1)) (Sum.inl (r.1:Int))∣.ref r.2.1:=by
 induction rs with
 | nil=>cases a
 | cons g rs b=>
   rw[Ym,nodup_cons]at nd;rw[Ym];rcases mem_cons.mp a with rfl|a
   .exact cV rfl
   .rw[b8 (λq=>nd.1 (by rw[show g.1=r.1 from Int.ofNat.inj (Sum.inl.inj q)];exact Xl %[r,a|rfl]))];exact b nd.2 a
def Gz{rs:Pt}(nd:(rs\1).Nodup){b:Nat}(h:b∈rs\1):∃r∈rs,r.1=b/\bu (rs.map λg=>((Sum.inl (g.1:Int):Key),V.ref g.2.1)) (Sum.inl (b:Int))∣.ref r.2.1/\∀p,p∈r.2.2↔PtE rs b p:=by
 let%[r,a|rfl]:=Xk h;exact%[r,a,ρ,Es nd a|λp=>%[λc=>%[r,a,ρ|c]|λ⟨g,d,e,c⟩=>Cl nd d a e▸c]]
structure HF (rs:Pt) (L:List Nat) (m:Nat->Nat) (A0 Q:List Nat) (g:Nat->Nat) (W:List Nat):Prop where
 ask:Ask (PtE rs) L m A0 Q g
 ql:∀x∈Q,x∈L
 qn:∀x∈Q,x<60
 wn:∀b∈W,b∈rs\1/\(b∈A0\/∃y∈Q,y∈L/\m y=b)
 cl:∀b,(b∈A0\/∃y∈Q,y∈L/\m y=b)->b∈W\/∀p,PtE rs b p->p∈Q
structure DZ (rs:Pt) (L:List Nat) (m:Nat->Nat) (A0 Q:List Nat) (g:Nat->Nat) (W:List Nat) (b:Nat):Prop where
 ask:Ask (PtE rs) L m A0 Q g
 ql:∀x∈Q,x∈L
 qn:∀x∈Q,x<60
 wn:∀b∈W,b∈rs\1/\(b∈A0\/∃y∈Q,y∈L/\m y=b)
 cl:∀c,(c∈A0\/∃y∈Q,y∈L/\m y=c)->c∈W\/c=b\/∀p,PtE rs c p->p∈Q
 by_:b∈A0\/∃y∈Q,y∈L/\m y=b
def yb{E:Nat->Nat->Prop}{L f Q:List Nat}{m g:Nat->Nat}(a:Ask E L m f Q g){b p:Nat}(j:p∉Q)(e:E b p)(h:b∈f\/∃y∈Q,y∈L/\m y=b):Ask E L m f (Q++[p]) (λx=>if x=p then b else g x):=by
 show%[nodup_append.mpr %[a.nd,by simp|λx d y o c=>j (by rw[<-Xj o,<-c];exact d)]|λi x d=>?_];by_cases c:i< ~~~Q
 .rw[Y7 c]at d;let n:x≠p:=λz=>j (z▸Z8 d)
  rw[if_neg n,X8 (Yb c)];exact a.by_ i x d
 .let l:=(Xh d).1;rw[Z9,Yg]at l;obtain rfl:i= ~~~Q:=by lia
  rw[Y8 (Zi _),X4]at d;obtain rfl:p=x:=Za d;rw[if_pos rfl,List.take_left];exact%[e|h]
def DZ.add{rs:Pt}{L d Q W:List Nat}{m g:Nat->Nat}{b p:Nat}(a:DZ rs L m d Q g W b)(l:p∉Q)(e:PtE rs b p)(pl:p∈L)(pn:p<60)(n:m p∈rs\1):DZ rs L m d (Q++[p]) (λx=>if x=p then b else g x) (W++[m p]) b:=by
 let up:∀{c},(c∈d\/∃y∈Q,y∈L/\m y=c)->c∈d\/∃y∈Q++[p],y∈L/\m y=c:=λh=>h.imp_right λ⟨y,h,q⟩=>%[y,Yp _ h|q]
 show%[yb a.ask l e a.by_,λx i=>?_,λx i=>?_,λc j=>?_,λc j=>?_|up a.by_]
 .exact(Xi i).elim (a.ql x) λh=>Xj h▸pl
 .exact(Xi i).elim (a.qn x) λh=>Xj h▸pn
 .rcases Xi j with h|h
  .exact%[(a.wn c h).1|up (a.wn c h).2]
  .rw[Xj h];exact%[n|.inr %[p,Yq _ Zm,pl|ρ]]
 .let f:(c∈d\/∃y∈Q,y∈L/\m y=c)->c∈W++[m p]\/c=b\/∀q,PtE rs c q->q∈Q++[p]:=λh=>(a.cl c h).imp (Yp _) λh=>h.imp_right λh q r=>Yp _ (h q r)
  rcases j with h|⟨y,o,s,rfl⟩
  .exact f (.inl h)
  .rcases Xi o with h|h
   .exact f (.inr %[y,h,s|rfl])
   .rw[Xj h];exact .inl (Yq _ Zm)
def dI{L:List Nat}{m:Nat->Nat}{x:Nat}:((bu (TD L m) (Sum.inl (x:Int))).isSome=true↔x∈L)/\(x∈L->bu (TD L m) (Sum.inl (x:Int))∣.int (m x)):=by
 show%[?_|λh=>xf h];unfold TD;by_cases c:x∈L
 .rw[xf c];exact%[λ_=>c|λ_=>rfl]
 .rw[tM c];exact%[λq=>(nomatch q)|λq=>absurd q c]
def xg{L:List Nat}{m:Nat->Nat}{x y:Nat}(h:x∉L):cB (TD L m) (Sum.inl (x:Int)) (.int y)=TD (L++[x]) (λz=>if z=x then y else m z):=by
 unfold TD;rw[eJ _ (tM h)];unfold ND;rw[Zd];show congr (congrArg _ (Yl λa b=>?_)) ∅;change(Sum.inl (a:Int),V.int (m a))=((Sum.inl (a:Int):Key),V.int (if a=x then y else m a:Nat))
 rw[if_neg (λc:a=x=>h (c▸b))]
def vO{l:List Nat}(n:l.Nodup)(h:∀x∈l,x<60): ~~~l<=60:=by
 let:=_ST.nodup_sub n (m:=List.range 60) λx a=>mem_range.mpr (h x a)
 rwa[Yf]at this
inductive yd
 | mk (d hb al:Addr) (rs:Pt) (L A0:List Nat) (m:Nat->Nat):vs=[.ref d,.ref hb,.ref al]->PtF H d rs->Rd H hb (.dK (TD L m))->(∀x∈L,m x∈rs\1)->H al<*nums A0->(∀x∈A0,x∈rs\1)-> ~~~A0<=80->(∀q H' (U:List Nat) (g:Nat->Nat),af H H'->H q=none->H' q∣.dK (TD U g)->Ask (PtE rs) L m A0 U g->(∀x∈U,x<60)->((∃f∈U,f∉L)\/((∀x∈U,x∈L)/\∀b,(b∈A0\/∃y∈U,y∈L/\m y=b)->∀p,PtE rs b p->p∈U))->Q (.ref q) H')->yd vs H Q E0
def qb(T:Txt K mg):↥1 "ask_around" ["partners","held_by","askers"] yd:=by
 .exists T.aM,cZ,bf,hr,%[d,u,al,rs,L,I,m,rfl,re,hh,mn,ha,an,bc|kk];let rn:∀b p,PtE rs b p->p<60:=λb p ⟨g,hg,_,hp⟩=>(re.lt g hg).2 p hp
  show%[_,%["JDI3yDI4^~EA2BD~FK*XYA4BCDI5]:];4EUSj05L6EO}63Dz536DO}61EH3PEZsk4Aj16BPEH3",cZ.nd|hr]|?_]
  change a9 _ _ _ [!d,!u,!al,none,none,none,none] H;show ak λD1 k1 _=>?_
  lk;intro q fq;show k1 _ _ (ak λD2 k2 _=>?_);let s1:=af.Ja (o:= .dK []) fq;let J:Ja H q (.dK []) q∣.dK (TD [] id):=upd_same
  generalize Ja H q (.dK [])=H1 at s1 J
  lk;show%[_,.inl (Jb.of (s1 _ _ ha))|λj fw=>k2 _ _ (ak λD3 k3 r3=>?_)];let ac:j≠q:=λc=>by rw[c,J]at fw;cases fw
  let s2:=af.Ja (o:= .lst (nums I)) fw;let hw:Ja H1 j (.lst (nums I)) j=_:=upd_same;let J:=s2 _ _ J;let as:=s1.trans s2;let a0:=s1.free fw
  generalize Ja H1 j (.lst (nums I))=H2 at hw J as
  show⟨λn σ a=>∃(o5 G:Option V) (U W:List Nat) (g:Nat->Nat),σ=[!d,!u,!al,!q,!j,o5,G]/\af H a/\a q∣.dK (TD U g)/\a j<*nums W/\HF rs L m I U g W/\n=2*(81-U.length) + ~~~W/\n<=300,%[_,none,none,[],I,id,rfl,as,J,hw,%[%[Yy|λi x e=>(nomatch e)],λ_ h=>(nomatch h),λ_ h=>(nomatch h),λb u=>%[an b u|.inl u]|λb u=> .inl (u.elim (λh=>h) λ⟨_,h,_⟩=>(nomatch h))],rfl|by rw[length_nil];lia],?_⟩;intro n σ H3 %[o5,G,U,W,g,rfl,sm,J,hw,v,rfl|Y];let wm: ~~~(nums W)= ~~~W:=Z6 _;lk;let Ul:=vO v.ask.nd v.qn;show%[~~~W,.inl %[_,Jb.of hw|wm.symm]|ba (λc=>?_) λc=>?_]
  .let c:=Zo c;obtain⟨W1,b,rfl⟩:∃W1 b,W=W1++[b]:=%[W.dropLast,W.getLast (λe=>by rw[e]at c;simp at c)|(List.dropLast_concat_getLast _).symm]
   show⟨λa1 a=>∃n',n'<2*(81-U.length) + ~~~(W1++[b])/\∃(o5 G:Option V) (U W:List Nat) (g:Nat->Nat),a1=[!d,!u,!al,!q,!j,o5,G]/\af H a/\a q∣.dK (TD U g)/\a j<*nums W/\HF rs L m I U g W/\n'=2*(81-U.length) + ~~~W/\n'<=300,λa1 a ⟨n',h1,o5,G,U,W,g,h2,h3,h4,h5,h6,h7⟩=>%[n',h1,%[o5,G|h2],h3,U,W,g,h4,h5,h6|h7],tyL (Jb.of hw),j,_,.int b,rfl,rfl,hw,by simp[nums],ay λbd hK=>?_⟩;let dl:(nums (W1++[b])).dropLast=nums W1:=by unfold nums;rw[Zd];exact List.dropLast_concat
   rw[dl];let a2:Ja H3 j (.lst (nums W1)) j=_:=upd_same;let a3:Ja H3 j (.lst (nums W1)) q∣.dK (TD U g):=by rw[am ac.symm];exact J
   let M:af H (Ja H3 j (.lst (nums W1))):=af.set sm a0
   generalize Ja H3 j (.lst (nums W1))=H4 at a2 a3 M ⊢
   let%[bn|a5]:=v.wn b ∅;let%[o|ed]:=re.at_;let%[r,a4,er,gv|ab]:=Gz re.nd bn;let a6:=M _ _ (re.la r a4);let gb:cE H4 d (.int b) (some (.ref r.2.1)):= .inl %[_,Sum.inl (b:Int),.inr %[o|M _ _ ed],rfl|gv.symm];lk;show%[_,gb,_,ρ,%[_|Jb.of a6]|hK _ _ (bV (us:=r.2.2) (f:=λn:Nat=>V.int (n:Int)) (λi σ a=>(∃G,σ=[!d,!u,!al,!q,!j,some (.int b),G])/\af H a/\∃(l W2:List Nat) (g1:Nat->Nat),a q∣.dK (TD l g1)/\a j<*nums W2/\DZ rs L m I l g1 W2 b/\(∀x∈r.2.2.take i,x∈l)/\2*(81-l.length) + ~~~W2<=2*(81-U.length) + ~~~W1)
    %[%[_|ρ],M,U,W1,g,a3,a2,%[v.ask,v.ql,v.qn,λc hc=>v.wn c (Yp _ hc),λc hc=>(v.cl c hc).elim (λh=>(Xi h).imp_right λh=> .inl (Xj h)) λh=> .inr (.inr h)|a5],λ_ h=>(nomatch h)|Zi _] (λi σ a h=>h.2.1 _ _ (re.la r a4)) ?_ ?_)]
   .intro i p σ a hp %[%[G|rfl],N,l,W2,g1,B,O,t,dn|le];let tk:r.2.2.take (i+1)=r.2.2.take i++[p]:=by rw[X6,hp];rfl
    let bp:=(ab p).mp (Z8 hp);let bl:=vO t.ask.nd t.qn;change mL _ _ _ _ [!d,!u,!al,!q,!j,some (.int b),some (.int p)] a;show aB λD4 k4 r4=>?_
    lk;show%[_,cE.k (k:=Sum.inl (p:Int)) B|ba (λc=>?_) λc=>?_]
    .let pn:p∉l:=λh=>by rw[dI.1.mpr h]at c;cases c
     show%[_,je.k (k:=Sum.inl (p:Int)) B (by unfold TD ND;rw[Z6];exact aA ⋯)|?_];rw[xg pn];let C:=af.set (o:= .dK (TD (l++[p]) λz=>if z=p then b else g1 z)) N fq;let ae:Ja a q (.dK (TD (l++[p]) λz=>if z=p then b else g1 z)) q=_:=upd_same;let ag:Ja a q (.dK (TD (l++[p]) λz=>if z=p then b else g1 z)) j<*nums W2:=by rw[am ac];exact O
     generalize Ja a q (.dK (TD (l++[p]) λz=>if z=p then b else g1 z))=H6 at C ae ag ⊢
     let gh:cE H6 u (.int p) (bu (TD L m) (Sum.inl (p:Int))):= .inl %[_,Sum.inl (p:Int),hh.imp (C _ _) λ⟨o,e⟩=>%[o|C _ _ e],rfl|rfl];let bb:b∈I\/∃y∈l,y∈L/\m y=b:=t.by_;show%[_,gh|ba (λe=>?_) λe=>?_]
     .let pl:p∉L:=λh=>by rw[dI.1.mpr h]at e;cases e
      exact r4 _ _ (r3 _ _ (kk q H6 _ _ C fq ae (yb t.ask pn bp bb) (λx hx=>(Xi hx).elim (t.qn x) λh=>Xj h▸rn _ _ bp) (.inl %[p,Yq _ Zm|pl])))
     .let pl:p∈L:=dI.1.mp (by cases h:(bu (TD L m) (Sum.inl (p:Int))).isSome with
       | true=>rfl
       | false=>rw[h]at e;exact absurd rfl e)
      rw[dI.2 pl]at gh;let bm: ~~~W2<=300:=by rw[Z9]at Y;lia
      show%[tyL (Jb.of ag),_,gh,_,ag,by unfold nums;rw[Z6];exact aA ⋯|k4 _ _ %[%[_|ρ],af.set C a0,l++[p],W2++[m p],_,(am ac.symm).trans ae,by unfold nums;rw[upd_same,Zd];rfl,t.add pn bp pl (rn _ _ bp) (mn p pl),λx hx=>?_|?_]]
      .rw[tk]at hx;exact(Xi hx).elim (λh=>Yp _ (dn x h)) λh=>Yq _ h
      .let a7:=vO (t.add pn bp pl (rn _ _ bp) (mn p pl)).ask.nd (t.add pn bp pl (rn _ _ bp) (mn p pl)).qn;rw[Z9,Yg]at a7 ⊢;rw[Z9,Yg]
       lia
    .let pu:p∈l:=dI.1.mp (by cases h:(bu (TD l g1) (Sum.inl (p:Int))).isSome with
      | true=>rfl
      | false=>rw[h]at c;exact absurd rfl c)
     show k4 _ _ %[%[_|rfl],N,l,W2,g1,B,O,t,λx hx=>?_|le];rw[tk]at hx;exact(Xi hx).elim (dn x) λh=>Xj h▸pu
   .intro σ a %[%[G|rfl],N,l,W2,g1,B,O,t,dn|le];rw[Zn (Zi _)]at dn;rw[Z9,Yg]at Y;show%[_,?_,_,_,l,W2,g1,ρ,N,B,O,%[t.ask,t.ql,t.qn,t.wn|λc hc=>?_],ρ|⋯]
    .rw[Z9,Yg];lia
    .rcases t.cl c hc with h|rfl|h
     .exact .inl h
     .exact .inr λp hp=>dn p ((ab p).mpr hp)
     .exact .inr h
  .show k3 _ _ ?_;let e:W=[]:=by
    cases W with
    | nil=>rfl
    | cons x W=>exact absurd (Zf (by rw[Zr];lia)) c
   subst e;lk;exact kk q H3 U g sm fq J v.ask v.qn (.inr %[v.ql|λb u=>(v.cl b u).resolve_left λh=>(nomatch h)])
inductive Cm
 | mk (d hb al:Addr) (rs:Pt) (L A0:List Nat) (m:Nat->Nat):vs=[.ref d,.ref hb,.ref al]->PtF H d rs->Rd H hb (.dK (TD L m))->(∀x∈L,m x∈rs\1)->H al<*nums A0->(∀x∈A0,x∈rs\1)-> ~~~A0<=80->(∀q o H' (U:List Nat) (g:Nat->Nat),af H H'->H' q∣.frz o (.dK (TD U g))->Ask (PtE rs) L m A0 U g->(∀x∈U,x<60)->((∃f∈U,f∉L)\/((∀x∈U,x∈L)/\∀b,(b∈A0\/∃y∈U,y∈L/\m y=b)->∀p,PtE rs b p->p∈U))->Q (.ref q) H')->Cm vs H Q E0
def GA{L:List Nat}{f:Nat->V}{x:Nat}{v:V}(h:x∈L):cB (ND L f) (Sum.inl (x:Int)) v=ND L λz=>if z=x then v else f z:=by
 unfold cB;rw[if_pos (by rw[fK,xf h];rfl)];unfold ND;rw[Yn];show Yl λy _=>?_
 change(if(Sum.inl (y:Int):Key)=Sum.inl (x:Int)then((Sum.inl (y:Int):Key),v)else(Sum.inl (y:Int),f y))=(Sum.inl (y:Int),if y=x then v else f y)
 by_cases e:y=x
 .rw[if_pos (by rw[e]),if_pos e]
 .rw[if_neg (show ¬ (Sum.inl (y:Int):Key)=Sum.inl (x:Int)from λq=>e (Int.ofNat.inj (Sum.inl.inj q))),if_neg e]
inductive ye
 | mk (d:Addr) (o:Obj) (L:List Nat) (m:Nat->Nat):vs=[.ref d]->H d∣.frz o (.dK (TD L m))-> ~~~L<=80->L.Nodup->(∀x∈L,∀y∈L,m x=m y->x=y)->(∀t H' (i:Nat->Nat),af H H'->H t=none->H' t∣.dK (TD (L.map m) i)->(∀x∈L,i (m x)=x)->Q (.ref t) H')->ye vs H Q E0
inductive Cn
 | mk (d:Addr) (L:List Nat) (m:Nat->Nat):vs=[.ref d]->Rd H d (.dK (TD L m))-> ~~~L<=80->L.Nodup->(∀x∈L,∀y∈L,m x=m y->x=y)->(∀t H' (i:Nat->Nat),af H H'->H t=none->H' t∣.dK (TD (L.map m) i)->(∀x∈L,i (m x)=x)->Q (.ref t) H')->Cn vs H Q E0
def kS(T:Txt K mg):↥1 "ask_around" ["partners","held_by","askers"] Cm:=by
 show(qb T).freeze.imp λvs H Q E zqw=>?_;let%[d,f,h,rs,L,i,m,j,l,n,p,r,s,t|u]:=zqw;show %[d,f,h,rs,L,i,m,j,l,n,p,r,s,t|λq B U g v y A a b c=>%[[q]|λC=>u q _ _ U g (λx o e=>?_) (j9 Zm A) a b c]]
 rw[kb]
 .exact v x o e
 .intro z;rw[Xj z,y]at e;cases e
def lT(T:Txt K mg):↥1 "keys_by_value" ["some"] ye:=by
 .exists T.aO,cO,ac,hr,%[d,o,L,m,rfl,hd,ae,nd,inj|kk];show%[_,%["JDI1yDU~s0dML2ML3eEz213EH1",cO.nd|hr]|?_]
  change a9 _ _ _ [!d,none,none,none] H;show ak λD1 k1 _=>?_
  lk;intro t G;show k1 _ _ (ak λD2 k2 _=>ay λab hK=>?_);let I:=af.Ja (o:= .dK []) G;let ht:Ja H t (.dK []) t∣.dK (TD (([]:List Nat).map m) id):=upd_same
  generalize Ja H t (.dK [])=H1 at I ht
  unfold sX;lk;let ll: ~~~(TD L m)= ~~~L:=Z6 _;show%[_,_,I _ _ hd|hK _ _ (zF (λi u a=>(∃J M,u=[!d,!t,J,M])/\af H a/\∃l:Nat->Nat,a t∣.dK (TD ((L.take i).map m) l)/\∀x∈L.take i,l (m x)=x)
   %[%[_,_|ρ],I,id,ht|λ_ h=>(nomatch h)] (λi u a _ h=>h.2.1 _ _ hd) ?_ ?_)]
  .intro i k v B u a N %[%[J,M|rfl],O,l,b|g] U;unfold TD ND at N;rw[Zl]at N;let%[x,Y|ex]:=map_eq_some_iff.mp N;obtain⟨rfl,rfl⟩:Sum.inl ((x:Nat):Int)=k/\V.int (m x)=v:=%[congrArg (·.1) ex|congrArg (·.2) ex]
   let s2:=af.Ja (o:= .tup [.int x,.int (m x)]) U;let n:Ja a B (.tup [.int x,.int (m x)]) B=_:=upd_same;let p:=s2 _ _ b;let q:=O.trans s2;change Aj _ _ _ _ _ (Ja a B (.tup [.int x,.int (m x)])) _
   generalize Ja a B (.tup [.int x,.int (m x)])=H2 at n p q ⊢
   let tk:L.take (i+1)=L.take i++[x]:=by rw[X6,Y];rfl
   let xn:m x∉(L.take i).map m:=λc=>by
    let%[y,C|e]:=Xk c;let%[j|r]:=Xb C;let jl:=(Xh r).1;rw[Yh]at jl;rw[Y9 ⋯]at r;rw[inj y (Z8 r) x (Z8 Y) e]at r;let:=oB nd r Y
    lia
   show%[_,SqT.of n,ρ,_,_,ρ,_,_,ρ,ρ|?_];change nD _ _ _ _ [!d,!t,some (.int x),some (.int (m x))] H2;show aB λD3 k3 _=>?_
   lk;let tl: ~~~(L.take i)<=80:=by rw[Yh];lia
   show%[_,je.k (k:=Sum.inl (((m x):Nat):Int)) p (by unfold TD ND;rw[Z6,Z6];exact aA ⋯)|k3 _ _ %[%[_,_|ρ],af.set q G,λz=>if z=m x then x else l z,?_|λy C=>?_]]
   .rw[upd_same,xg xn,tk,Zd];rfl
   .rw[tk]at C;rcases Xi C with h|h
    .change(if m y=m x then x else l (m y))=y;rw[if_neg (λe:m y=m x=>xn (e▸Xl %[y,h|rfl]))];exact g y h
    .rw[Xj h];change(if m x=m x then x else l (m x))=x;rw[if_pos rfl]
  .intro u a %[%[J,M|rfl],O,l,b|g];rw[ll,Zn (Zi _)]at b g;show k2 _ _ ?_;lk;exact kk t a l O G b g
def iA(T:Txt K mg):↥1 "keys_by_value" ["some"] Cn:=by
 show(lT T).frozen.imp λvs H Q E zqw=>?_;let%[d,L,m,f,a,g,h,j|l]:=zqw;show a.elim (λa=> .inr %[d,_,by rw[f];rfl,a|λo=>%[d,o,L,m,f,upd_same,g,h,j|λt r i p b q hi=>?_]]) λ⟨o,a⟩=> .inl %[d,o,L,m,f,a,g,h,j|l]
 let n:t≠d:=λc=>by rw[c,upd_same]at b;cases b
 rw[am n]at b;show l t _ i (λc o e=>?_) b (by rw[am n];exact q) hi;by_cases z:c=d
 .rw[z]at e ⊢;rw[a]at e;rw[upd_same];exact e
 .rw[am z];exact p c o (by rw[am z];exact e)
inductive yf
 | mk (hb q:Addr) (o:Obj) (f a0:Nat) (rs:Pt) (L U:List Nat) (m g:Nat->Nat) (S T:Nat->Prop):vs=[.ref hb,.ref q,.int f]->H hb∣.dK (TD L m)->H q∣.frz o (.dK (TD U g))-> ~~~L<80->Mat (PtE rs) L m->Ask (PtE rs) L m [a0] U g->(∀x∈L,m x≠a0)->kg (PtE rs) L m S T->f∈U->f∉L->(∀H' (L':List Nat) (m':Nat->Nat),(∀c o,c≠hb->H c∣o->H' c∣o)->H' hb∣.dK (TD L' m')->Mat (PtE rs) L' m'->kg (PtE rs) L' m' S T->(∀x,x∈L'↔x∈L\/x=f)->(∀x∈L',m' x=a0\/∃y∈L,m y=m' x)->(∀y,y=a0\/(∃x∈L,m x=y)->∃x∈L',m' x=y)->Q .non H')->yf vs H Q E0
abbrev HG(s:Hp)(d q t:Addr)(f l:Nat)(rs:Pt)(L U:List Nat)(m g:Nat->Nat)(S T:Nat->Prop)(n:Nat)(r:_LL.St)(e:Hp):Prop:=(∀c o,c≠d->s c∣o->e c∣o)/\∃(C h:List Nat),((∃(p j:Nat) (i:Option V),r=[!d,!q,some (.int f),!t,some (.int p),i]/\oA (PtE rs) L U m g T f C j p/\e d∣.dK (TD h λx=>if x∈C then g x else m x)/\((C=[]/\h=L)\/(f∈C/\h=L++[f]))/\n=j+1)\/(∃i,r=[!d,!q,some (.int f),!t,some .non,i])/\n=0/\∃(a:List Nat) (b:Nat->Nat),e d∣.dK (TD a b)/\Mat (PtE rs) a b/\kg (PtE rs) a b S T/\(∀x,x∈a↔x∈L\/x=f)/\(∀x∈a,b x=l\/∃y∈L,m y=b x)/\∀y,y=l\/(∃x∈L,m x=y)->∃x∈a,b x=y)
def z1(T:Txt K mg):↥2 "pass_on" ["held_by","asked_by","free"] yf:=by
 show T.aN.cal eS (λH vs Q E h=>?_)
 .let%[b,q,o,f,N,rs,L,U,m,g,S,O,rfl,G,Y,as,M,a,h0,sh,fU,I|kk]:=h;show%[ρ|λ_ an A outer s J=>?_];show%[_,%["JDI3G~[A0BDI42E~FK~W4[DI5j14Dz504EI4~Q]<3A5B",eS.nd|J]|?_]
  change a9 _ _ _ [!b,!q,some (.int f),none,none,none] H;show ak λD1 k1 _=>?_
  lk;show%[b,L,m,ρ,.inl G,⋯,M.nd,M.inj|λt H1 i s1 ft ht hi=>k1 _ _ (ak λD2 k2 _=>?_)];lk;show k2 _ _ ?_;let ab:t≠b:=λc=>by rw[c,G]at ft;cases ft
  let ac:q≠b:=λc=>by rw[c,G]at Y;cases Y
  let%[i0|ae]:=Xb fU;show%[HG H1 b q t f N rs L U m g S O,
   %[_,λ_ _ _ e=>e,[],L|.inl %[f,i0,none,ρ,oA.start sh I ae,by rw[s1 _ _ G];rfl,.inl %[ρ|ρ]|ρ]]|?_]
  rintro n σ u ⟨sm,C,L1,⟨p,j,o5,rfl,bk,ag,v,rfl⟩|⟨⟨o5,rfl⟩,rfl,L',m',e1,e2,e3,e4,e5,e6⟩⟩
  .lk;rw[if_pos ∅];show⟨λai H'=>∃n',n'<j+1/\HG H1 b q t f N rs L U m g S O n' ai H',λ_ _ h=>h,?_⟩;let pU:p∈U:=Z8 bk.at_;let gq:cE u q (.int p) (some (.int (g p))):= .inl %[_,Sum.inl ((p:Nat):Int),.inr %[o|sm _ _ ac (s1 _ _ Y)],rfl|(dI.2 pU).symm];let a1: ~~~L1<=80:=by
    rcases v with⟨_,rfl⟩|⟨_,rfl⟩
    .lia
    .rw[Z9,Yg];lia
   let pC:p∉C:=λc=>by
    let%[k,kl|hk]:=bk.far p c;let:=oB a.nd bk.at_ hk
    lia
   let put:cB (TD L1 λx=>if x∈C then g x else m x) (Sum.inl ((p:Nat):Int)) (.int (g p))=TD (L++[f]) λx=>if x∈C++[p]then g x else m x:=by
    let fe:(λz=>if z=p then g p else if z∈C then g z else m z)=λx=>if x∈C++[p]then g x else m x:=funext λz=>by
     by_cases e:z=p
     .rw[if_pos e,if_pos (by rw[e];simp),e]
     .let:z∈C++[p]↔z∈C:=by rw[Yo,Yu];exact or_iff_left e
      rw[if_neg e];simp only[this]
    rcases v with⟨rfl,rfl⟩|⟨fc,rfl⟩
    .obtain rfl:p=f:=bk.hf.resolve_left λh=>(nomatch h)
     rw[xg I,fe]
    .let pl:p∈L++[f]:=Yp _ (bk.own.resolve_left λe=>pC (e▸fc));unfold TD;rw[GA pl,<-fe];exact congrArg (ND _) (funext λz=>by by_cases e:z=p<;> simp[e])
   show%[_,gq,_,je.k (k:=Sum.inl ((p:Nat):Int)) ag (by unfold TD ND;rw[Z6];exact aA ⋯)|?_];rw[put];let l:Ja u b (.dK (TD (L++[f]) λx=>if x∈C++[p]then g x else m x)) b=_:=upd_same;let d:∀c o,c≠b->H1 c∣o->Ja u b (.dK (TD (L++[f]) λx=>if x∈C++[p]then g x else m x)) c∣o:=λc o n e=>by rw[am n];exact sm c o n e
   generalize Ja u b (.dK (TD (L++[f]) λx=>if x∈C++[p]then g x else m x))=H3 at l d ⊢
   let B:=d _ _ ab ht;let aj:f∈C++[p]:=by rw[Yo,Yu];exact bk.hf.imp_right Eq.symm
   show%[tyD B,Sum.inl (((g p):Nat):Int),ρ,_,B|?_];by_cases c:∃y∈L,m y=g p
   .let%[y,r|ym]:=c;let%[k,kl|al]:=bk.step M a h0 sh r ym;let iy:i (g p)=y:=by rw[<-ym];exact hi y r
    rw[dI.2 (Xl %[y,r|ym]),iy];exact%[k+1,⋯,d,C++[p],L++[f]|.inl %[y,k,_,ρ,al,l,.inr %[aj|ρ]|ρ]]
   .let no:∀y∈L,m y≠g p:=λy r e=>c %[y,r|e]
    let nn:bu (TD (L.map m) i) (Sum.inl (((g p):Nat):Int))=none:=tM λh=>by
     let%[y,r|e]:=Xk h;exact no y r e
    rw[nn];let nd:(L++[f]).Nodup:=nodup_append.mpr %[M.nd,by simp|λx hx y hy e=>I (by rw[<-Xj hy,<-e];exact hx)];let%[e2,e3,_,e5|e6]:=bk.fin M a sh I no nd λx=>by rw[Yo,Yu]
    exact%[0,⋯,d,[],[]|.inr %[%[_|ρ],ρ,L++[f],_,l,e2,e3,λx=>by rw[Yo,Yu],e5|e6]]
  .lk;rw[if_neg ∅];exact kk u L' m' (λc o n e=>sm c o n (s1 _ _ e)) e1 e2 e3 e4 e5 e6
structure rD (rs:Pt) (L:List Nat) (m:Nat->Nat) (N:List Nat):Prop where
 mat:Mat (PtE rs) L m
 mn:∀x∈L,m x∈N
 ln:∀x∈L,x<60
 sh:∃S T,kg (PtE rs) L m S T/\∀a∈N,(∃x∈L,m x=a)\/S a
inductive vP
 | mk (d:Addr) (rs:Pt):vs=[.ref d]->PtF H d rs->(∀hb H' (L:List Nat) (m:Nat->Nat),af H H'->H hb=none->H' hb∣.dK (TD L m)->rD rs L m (rs\1)->Q (.ref hb) H')->vP vs H Q E0
def z3{L:List Nat}{m:Nat->Nat}(nd:L.Nodup)(inj:∀x∈L,∀y∈L,m x=m y->x=y):(L.map m).Nodup:=by
 rw[Yx,X3];exact Xc (λ{x y} a b n e=>n (inj x a y b e)) (nodup_iff_pairwise_ne.mp nd)
def qc(T:Txt K mg):↥3 "most_pairs" ["partners"] vP:=by
 .exists T.aL,cY,bd,hr,%[d,rs,rfl,re|kk];let%[o|hd]:=re.at_;let rl: ~~~rs<=60:=by
   let:=vO re.nd λx b=>by
    let%[g,hg|rfl]:=Xk b;exact(re.lt g hg).1
   rwa[Z6]at this
  show%[_,%["JD,1ghyDU~t0L2DI3G~0A0AN1ATA2BBD<4hgb?1~t3V0?2u}0N10EOK*XYA4BCEZG]=AN1A3AR4CBPEHN1",cY.nd,↑(["partner","held_by"],[(1,1)]),↑["partner","held_by"]|hr]|?_]
  change a9 _ _ _ [!d,none,none,none,none] H;show ak λD1 k1 _=>?_
  lk;intro z fb;show k1 _ _ (ak λD2 k2 _=>ay λab hK=>?_);let s1:=af.Ja (o:= .dK []) fb;let Y:Ja H z (.dK []) z∣.dK (TD [] id):=upd_same
  generalize Ja H z (.dK [])=H1 at s1 Y
  unfold uW;lk;let gl: ~~~(rs.map λg=>((Sum.inl (g.1:Int):Key),V.ref g.2.1))= ~~~rs:=Z6 _;show%[_,_,s1 _ _ hd|hK _ _ (BO (λi G B=>(∃o2 o3 o4,G=[!d,!z,o2,o3,o4])/\af H B/\∃(L:List Nat) (m:Nat->Nat),B z∣.dK (TD L m)/\rD rs L m ((rs\1).take i))
   %[%[_,_,_|ρ],s1,[],id,Y,%[Yy,λ_ h=>(nomatch h)|λ_ h=>(nomatch h)],λ_ h=>(nomatch h),λ_ h=>(nomatch h),λ_=>False,λ_=>False,%[λ_ h=>h.elim|λ_ h=>h.elim]|λ_ h=>(nomatch h)] (λi G B _ h=>h.2.1 _ _ hd) ?_ ?_)]
  .intro i k v G B hv %[%[o2,o3,o4|rfl],sm,L,m,Y|l];rw[Zl]at hv;let%[r,ac|er]:=map_eq_some_iff.mp hv;obtain⟨rfl,rfl⟩:Sum.inl (r.1:Int)=k/\V.ref r.2.1=v:=%[congrArg (·.1) er|congrArg (·.2) er]
   generalize ea:r.1=t at*
   let hN:(rs\1)[i]?∣t:=by rw[Zl,ac,<-ea];rfl
   let tk:(rs\1).take (i+1)=(rs\1).take i++[t]:=by rw[X6,hN];rfl
   let a2:t∉(rs\1).take i:=λc=>by
    let%[j|u]:=Xb c;let jl:=(Xh u).1;rw[Yh]at jl;rw[Y9 ⋯]at u;let:=oB re.nd u hN
    lia
   let a3:t∈rs\1:=Z8 hN;let ae:∀x∈(rs\1).take i,x∈rs\1:=λx b=>Yt b
   let Ll: ~~~L<=i:=by
    let:=_ST.nodup_sub (z3 l.mat.nd l.mat.inj) (m:=(rs\1).take i) λy hy=>by
     let%[x,b|rfl]:=Xk hy;exact l.mn x b
    rw[Z6,Yh]at this
    lia
   let il:i< ~~~rs:=(Xh ac).1;change a9 _ _ _ [!d,!z,some (.int t),o3,o4] B;show ak λD3 k3 _=>?_
   lk;show%[#[1]|λal a4=>?_];let s2:=af.Ja (o:= .lst [V.int t]) a4;let ag:Ja B al (.lst [V.int t]) al<*nums [t]:=upd_same;let M:=s2 _ _ Y;let N:=sm.trans s2
   generalize Ja B al (.lst [V.int t])=H2 at ag M N ⊢
   show%[d,z,al,rs,L,[t],m,ρ,re.up N,.inl M,λx b=>ae _ (l.mn x b),ag,λx b=>Xj b▸a3,(show 1<=80 by decide)|λq oq H3 U g s3 hq ask un a5=>k3 _ _ (ak λD4 k4 _=>az λab hK=>?_)];let a6:=N.trans s3;let ai:=s3 _ _ M;let Ul:=vO ask.nd un;unfold uW;lk;show%[_,_,hq|hK _ _ λF hF=>?_];let ql: ~~~(TD U g)= ~~~U:=Z6 _;show bR (J:=Itk q oq (TD U g)) (n:= ~~~U) (D:=F) (λj vs G H4=>(∃o1,G=[o1,!z])/\af H3 H4/\H4 F<*vs/\vs=((U.take j).filter λx=>decide (x∉L)).map λn:Nat=>V.int (n:Int))
    %[%[none|rfl],af.Ja hF,upd_same|rfl] (λj _ _ H4 u O=>%[O.2.1 _ _ hq|by rw[ql];exact u]) (λ_ _ H4 O=>%[O.2.1 _ _ hq|by rw[ql];exact Zi _]) ?_ ?_
   .intro j vs G H4 u %[%[o1|rfl],p,aj|rfl] x H5 %[e2,kx,vx,b|rfl];subst e2;unfold TD ND at b;rw[Zl,Z4 u]at b;obtain rfl:Sum.inl ((U[j]:Nat):Int)=kx:=congrArg (·.1) (Za b);lk;show%[_,cE.k (k:=Sum.inl ((U[j]:Nat):Int)) (p _ _ ai)|ba (λc=>?_) λc=>?_]
    .let n:U[j]∉L:=λh=>by rw[dI.1.mpr h]at c;cases c
     show CK.mk u aj (by rw[Z6];let:=Ye (λx=>decide (x∉L)) (U.take j);rw[Yh]at this;exact aA ⋯) %[%[_|rfl],af.set p hF,upd_same|?_];rw[X6,Z4 u,Y1,Zd];change _=_++(List.filter _ [U[j]]).map λn:Nat=>V.int (n:Int)
     rw[Y3 ↑n];rfl
    .let n:U[j]∈L:=dI.1.mp (by cases h:(bu (TD L m) (Sum.inl ((U[j]:Nat):Int))).isSome with
      | true=>rfl
      | false=>rw[h]at c;exact absurd rfl c)
     show CN.mk u %[%[_|rfl],p,aj|?_];rw[X6,Z4 u,Y1,Zd];change _=_++(List.filter _ [U[j]]).map λn:Nat=>V.int (n:Int)
     rw[Y2 ↑n];simp
   intro vs G H4 %[_,p,C|rfl];rw[Zn (Zi _)]at C;show k4 _ _ (aB λD5 k5 _=>?_);let I:=a6.trans p;let an:=p _ _ ai;let%[S,T',sh|all]:=l.sh;lk;let h0:∀x∈L,m x≠t:=λx b e=>a2 (e▸l.mn x b)
   let mt:∀{a},a∈(rs\1).take (i+1)↔a∈(rs\1).take i\/a=t:=λ{a}=>by rw[tk,Yo,Yu]
   let fl:∀{x},x∈U.filter (λx=>decide (x∉L))↔x∈U/\x∉L:=λ{x}=>by rw[List.mem_filter,decide_eq_true_iff]
   generalize U.filter (λx=>decide (x∉L))=Fr at C fl
   let vl: ~~~(Fr.map λn:Nat=>V.int (n:Int))= ~~~Fr:=Z6 _;show%[~~~Fr,.inl %[_,Jb.of C|vl.symm]|ba (λc=>?_) λc=>?_]
   .let c:0< ~~~Fr:=by let:=Zo c;lia
    let%[fU|fL]:=fl.mp (Ya c);show%[_,Jb.of C,.int Fr[0],bC (by rw[Zl,Z4 c];rfl),z,q,oq,Fr[0],t,rs,L,U,m,g,S,T',ρ,an,p _ _ hq,⋯,l.mat,ask,h0,sh,fU,fL|λH5 L' m' keep a7 a1 bb bc e5 e6=>k5 _ _ %[%[_,_,_|ρ],λc o e=>keep c o (aC e fb) (I _ _ e),L',m',a7,a1,λx b=>?_,λx b=>?_,S,T',bb|λa ha=>?_]]
    .rcases e5 x b with e|⟨y,yl,e⟩
     .exact mt.mpr (.inr e)
     .exact mt.mpr (.inl (e▸l.mn y yl))
    .exact((bc x).mp b).elim (l.ln x) λe=>e▸un _ fU
    .rcases mt.mp ha with h|h
     .exact(all a h).imp_left λh=>e6 a (.inr h)
     .exact .inl (e6 a (.inl h))
   .let e:∀x∈U,x∈L:=λx b=>Decidable.byContradiction λn=>by
     let:=fl.mpr %[b|n];cases Fr with
     | nil=>cases this
     | cons y Fr=>exact c (Zf (by rw[Zr];lia))
    let cl:=(a5.resolve_left λ⟨f,h1,h2⟩=>h2 (e f h1)).2;show k5 _ _ %[%[_,_,_|rfl],I,L,m,an,l.mat,λx b=>mt.mpr (.inl (l.mn x b)),l.ln,_,_,sh.or (Ask.closed e cl)|λa ha=>?_];rcases mt.mp ha with h|h
    .exact(all a h).imp_right .inl
    .exact .inr (.inr (.inl (by rw[h];exact Zm)))
  .intro G B %[%[o2,o3,o4|rfl],sm,L,m,Y|l];rw[gl,<-Z6 (f:=(·.1)) (as:=rs),Zn (Zi _)]at l;show k2 _ _ ?_;lk;let%[S,T',sh|all]:=l.sh;exact kk z B L m sm fb Y %[l.mat,l.mn,l.ln,S,T',sh|all]
inductive yg
 | mk (d hb:Addr) (o:Obj) (rs:Pt) (L:List Nat) (m:Nat->Nat):vs=[.ref d,.ref hb]->PtF H d rs->H hb∣.frz o (.dK (TD L m))->rD rs L m (rs\1)->(∀l H' (ch:Nat->Nat),af H H'->H' l<*nums (L.map ch)->(∀x∈L,ch x=x\/ch x=m x)->(∀a b,PtE rs a b->a∈L.map ch\/b∈L.map ch)->Q (.ref l) H')->yg vs H Q E0
def jj(T:Txt K mg):↥2 "one_of_each_pair" ["partners","held_by"] yg:=by
 .exists T.aP,cT,bc,hr,%[d,hb,o,rs,L,m,rfl,re,hh,M|kk];let%[od|hd]:=re.at_;let rl: ~~~rs<=60:=by
   let:=vO re.nd λx l=>by
    let%[g,hg|rfl]:=Xk l;exact(re.lt g hg).1
   rwa[Z6]at this
  let Ll:=vO M.mat.nd M.ln;show%[_,%["JD,2ghG~[A1BD,3ghG~0A0A1Alb?1~t0V0?2u}0N10BEHlb?3~s1dMV0?4MV1?4ev]>~:0N201",cT.nd,↑(["asker","holds"],[(1,2)]),↑["asker","holds"],↑(["partner","asker","asked_by"],[(2,3)]),↑["partner","asker","asked_by"]|hr]|?_]
  change a9 _ _ _ [!d,!hb,none,none] H;show ak λD1 k1 _=>?_
  lk;show%[hb,L,m,ρ,.inr %[o|hh],⋯,M.mat.nd,M.mat.inj|λt H1 i s1 ft ht hi=>k1 _ _ (ak λD2 k2 _=>?_)];lk;show az λaj hK=>?_
  unfold uW;lk;let O:=s1 _ _ hd;show%[_,_,O|hK _ _ λF hF=>?_]
  generalize eN:rs\1=N at M
  let Nl: ~~~N= ~~~rs:=by rw[<-eN,Z6]
  let gl: ~~~(rs.map λg=>((Sum.inl (g.1:Int):Key),V.ref g.2.1))= ~~~N:=by rw[Nl];exact Z6 _
  let kN:∀(j:Nat) k v,(rs.map λg=>((Sum.inl (g.1:Int):Key),V.ref g.2.1))[j]?∣(k,v)->∃x,N[j]?∣x/\k=Sum.inl (x:Int):=λj k v h=>by
   rw[Zl]at h;let%[r,h1|h2]:=map_eq_some_iff.mp h;exact%[r.1,by rw[<-eN,Zl,h1];rfl|(congrArg (·.1) h2).symm]
  show bR (J:=Itk d od (rs.map λg=>((Sum.inl (g.1:Int):Key),V.ref g.2.1))) (n:= ~~~N) (D:=F) (λj vs I H2=>(∃Y,I=[Y,!t])/\af H1 H2/\H2 F<*vs/\vs=((N.take j).filter λx=>decide (x∉L.map m)).map λn:Nat=>V.int (n:Int))
   %[%[none|rfl],af.Ja hF,upd_same|rfl] (λj _ _ H2 C p=>%[p.2.1 _ _ O|by rw[gl];exact C]) (λ_ _ H2 p=>%[p.2.1 _ _ O|by rw[gl];exact Zi _]) ?_ ?_
  .intro j vs I H2 C %[%[Y|rfl],B,an|rfl] x H3 %[e2,kx,vx,l|rfl];subst e2;let%[z,hz|rfl]:=kN j kx vx l;let tk:N.take (j+1)=N.take j++[z]:=by rw[X6,hz];rfl
   lk;show%[_,cE.k (k:=Sum.inl (z:Int)) (B _ _ ht)|ba (λc=>?_) λc=>?_]
   .let n:z∉L.map m:=λh=>by rw[dI.1.mpr h]at c;cases c
    show CK.mk C an (by rw[Z6];let:=Ye (λx=>decide (x∉L.map m)) (N.take j);rw[Yh]at this;exact aA ⋯) %[%[_|rfl],af.set B hF,upd_same|?_];rw[tk,Y1,Zd,Y3 ↑n];rfl
   .let n:z∈L.map m:=dI.1.mp (by cases h:(bu (TD (L.map m) i) (Sum.inl (z:Int))).isSome with
     | true=>rfl
     | false=>rw[h]at c;exact absurd rfl c)
    show CN.mk C %[%[_|rfl],B,an|?_];rw[tk,Y1,Zd,Y2 ↑n];simp
  intro vs I H2 %[_,B,ab|rfl];rw[Zn (Zi _)]at ab;let fl:∀{x},x∈N.filter (λx=>decide (x∉L.map m))↔x∈N/\x∉L.map m:=λ{x}=>by rw[List.mem_filter,decide_eq_true_iff]
  let a3:=Ye (λx=>decide (x∉L.map m)) N
  generalize N.filter (λx=>decide (x∉L.map m))=A0 at ab fl a3
  let ac:=s1.trans B;let%[S,T',sh|all]:=M.sh;let a4:∀x∈A0,S x:=λx l=>(all x (fl.mp l).1).resolve_left λ⟨y,yl,e⟩=>(fl.mp l).2 (Xl %[y,yl|e])
  show%[d,hb,F,rs,L,A0,m,ρ,re.up ac,.inr %[o|ac _ _ hh],λx l=>eN▸M.mn x l,ab,λx l=>eN▸(fl.mp l).1,⋯|λq oq H3 U g s3 hq ask un a5=>k2 _ _ ?_];let a6:=ask.shut sh a4;let cl:=(a5.resolve_left λ⟨f,h1,h2⟩=>h2 (sh.mt f (a6 f h1)).1)
  let as:=ac.trans s3;let ae:=as _ _ hh;show az λaj hK=>?_
  unfold sX;lk;show%[_,_,ae|hK _ _ λG hG=>?_];let tl: ~~~(TD L m)= ~~~L:=Z6 _;show bR (J:=Iti hb o (TD L m)) (n:= ~~~L) (D:=G) (λj vs I u=>(∃Y o2,I=[Y,o2,!q])/\af H3 u/\u G<*vs/\vs=((L.take j).map λx=>if x∈U then x else m x).map λn:Nat=>V.int (n:Int))
   %[%[none,none|rfl],af.Ja hG,upd_same|rfl] (λj _ _ u C p=>%[p.2.1 _ _ ae|by rw[tl];exact C]) (λ_ _ u p=>%[p.2.1 _ _ ae|by rw[tl];exact Zi _]) ?_ ?_
  .intro j vs I u C %[%[Y,o2|rfl],ag,a7|rfl] x H5 %[kx,vx,tp,l,bb,rfl|rfl];unfold TD ND at l;rw[Zl,Z4 C]at l;obtain⟨rfl,rfl⟩:Sum.inl ((L[j]:Nat):Int)=kx/\V.int (m L[j]:Nat)=vx:=%[congrArg (·.1) (Za l)|congrArg (·.2) (Za l)]
   let s5:=af.Ja (o:= .tup [kV (Sum.inl ((L[j]:Nat):Int)),.int (m L[j]:Nat)]) bb;let a0:Ja u tp (.tup [kV (Sum.inl ((L[j]:Nat):Int)),.int (m L[j]:Nat)]) tp&&&[.int (L[j]:Nat),.int (m L[j]:Nat)]:=upd_same;let ai:=ag.trans s5;let a1:=s5 _ _ a7
   generalize Ja u tp (.tup [kV (Sum.inl ((L[j]:Nat):Int)),.int (m L[j]:Nat)])=H5 at a0 ai a1 ⊢
   let tk:L.take (j+1)=L.take j++[L[j]]:=by rw[X6,Z4 C];rfl
   show%[_,SqT.of a0,ρ,_,_,ρ,_,_,ρ,ρ|?_];change wc [some (.int (L[j]:Nat)),some (.int (m L[j]:Nat)),!q] H5 _;lk;let gq:cE H5 q (.int (L[j]:Nat)) (bu (TD U g) (Sum.inl ((L[j]:Nat):Int))):= .inl %[_,Sum.inl ((L[j]:Nat):Int),.inr %[oq|ai _ _ hq],rfl|rfl];let put:∀y:Nat,(if L[j]∈U then L[j]else m L[j])=y->CK G L.length j (λj vs I u=>(∃Y o2,I=[Y,o2,!q])/\af H3 u/\u G<*vs/\vs=((L.take j).map λx=>if x∈U then x else m x).map λn:Nat=>V.int (n:Int)) (((L.take j).map λx=>if x∈U then x else m x).map λn:Nat=>V.int (n:Int)) [some (.int (L[j]:Nat)),some (.int (m L[j]:Nat)),!q] (.int (y:Nat)) H5:=λy e=>by
    show CK.mk C a1 (by rw[Z6,Z6,Yh];exact aA ⋯) %[%[_,_|rfl],af.set ai hG,upd_same|?_];rw[tk,Zd,Zd,<-e];rfl
   show%[_,gq|ba (λc=>put _ (if_pos (dI.1.mp c))) λc=>put _ (if_neg λh=>c (dI.1.mpr h))]
  intro vs I u %[_,ag,a2|rfl];rw[Zn (Zi _)]at a2;show kk G u _ (as.trans ag) a2 (λx _=>by
   change(if x∈U then x else m x)=x\/(if x∈U then x else m x)=m x
   split
   .exact .inl rfl
   .exact .inr rfl) λa b r=>?_
  let mem:∀x∈L,(if x∈U then x else m x)∈L.map λx=>if x∈U then x else m x:=λx l=>Xl %[x,l|rfl]
  by_cases c:a∈A0\/∃y∈U,y∈L/\m y=a
  .let bU:=cl.2 a c b r;let:=mem b (cl.1 b bU);rw[if_pos bU]at this;exact .inr this
  .let al:a∈L.map m:=Decidable.byContradiction λn=>c (.inl (fl.mpr ⟨by
    let%[g,hg,e|_]:=r;rw[<-eN];exact Xl %[g,hg|e],n⟩))
   let%[y,yl|rfl]:=Xk al;let yU:y∉U:=λh=>c (.inr %[y,h,yl|rfl])
   let:=mem y yl;rw[if_neg yU]at this;exact .inl this
noncomputable abbrev PD(rs:Pt):List (Key×V):=rs.map λg=>(Sum.inl (g.1:Int),V.ref g.2.1)
structure PtU (H:Hp) (d:Addr) (rs:Pt):Prop where
 at_:H d∣.dK (PD rs)
 la:∀g∈rs,H g.2.1<*nums g.2.2
 nd:(rs\1).Nodup
 lt:∀g∈rs,g.1<60/\∀p∈g.2.2,p<60
def PtU.up{H a:Hp}{d:Addr}{rs:Pt}(h:PtU H d rs)(s:af H a):PtU a d rs:=%[s _ _ h.at_,λg b=>s _ _ (h.la g b),h.nd|h.lt]
def PtU.frz{H:Hp}{d:Addr}{rs:Pt}(h:PtU H d rs)(o:Obj):PtF (Ja H d (.frz o (.dK (PD rs)))) d rs:=%[%[o|upd_same],λg a=>by
 rw[am (λe=>by let:=h.la g a;rw[e,h.at_]at this;cases this)];exact h.la g a,h.nd|h.lt]
def HI{H b:Hp}{d:Addr}{o:Obj}{a:List (Key×V)}(f:H d∣.dK a)(g:af (Ja H d (.frz o (.dK a))) b):af H (Ja b d (.dK a)):=λc h e=>by
 by_cases z:c=d
 .rw[z]at e ⊢;rw[f]at e;rw[upd_same];exact e
 .rw[am z];exact g c h (by rw[am z];exact e)
inductive yh
 | mk (d:Addr) (rs:Pt):vs=[.ref d]->PtU H d rs->(∀hb o H' (L:List Nat) (m:Nat->Nat),af H H'->H' hb∣.frz o (.dK (TD L m))->rD rs L m (rs\1)->Q (.ref hb) H')->yh vs H Q E0
inductive Co
 | mk (d hb:Addr) (o:Obj) (rs:Pt) (L:List Nat) (m:Nat->Nat):vs=[.ref d,.ref hb]->PtU H d rs->H hb∣.frz o (.dK (TD L m))->rD rs L m (rs\1)->(∀l H' (ch:Nat->Nat),af H H'->H' l<*nums (L.map ch)->(∀x∈L,ch x=x\/ch x=m x)->(∀a b,PtE rs a b->a∈L.map ch\/b∈L.map ch)->Q (.ref l) H')->Co vs H Q E0
structure PtN (H0 H:Hp) (d:Addr) (rs:Pt):Prop where
 at_:H d∣.dK (PD rs)
 la:∀g∈rs,H0 g.2.1=none/\H g.2.1<*nums g.2.2
 an:(rs.map (·.2.1)).Nodup
 nd:(rs\1).Nodup
def tN{n:Nat}{v:V}:∀{rs:Pt},bu (PD rs) (Sum.inl (n:Int))∣v->∃g∈rs,g.1=n/\v= .ref g.2.1
 |[],h=>nomatch h
 | g::rs,h=>by
   by_cases e:g.1=n
   .rw[show PD (g::rs)=(Sum.inl (g.1:Int),V.ref g.2.1)::PD rs from rfl,cV (by rw[e])]at h;exact%[g,Zm,e|(Za h).symm]
   .rw[show PD (g::rs)=(Sum.inl (g.1:Int),V.ref g.2.1)::PD rs from rfl,b8 (λq=>e (Int.ofNat.inj (Sum.inl.inj q)))]at h;let%[a,b|c]:=tN h;exact%[a,Zk _ b|c]
abbrev z4(y z:Nat)(rs:Pt):Pt:=rs.map λg=>if g.1=y then(g.1,g.2.1,g.2.2++[z])else g
def tO{y z:Nat}{a:Type}(f:Nat×Addr->a)(rs:Pt):(z4 y z rs).map (λg=>f (g.1,g.2.1))=rs.map λg=>f (g.1,g.2.1):=by
 unfold z4;rw[Yn];show Yl λg _=>?_
 change f ((if g.1=y then(g.1,g.2.1,g.2.2++[z])else g).1,(if g.1=y then(g.1,g.2.1,g.2.2++[z])else g).2.1)=_
 split<;> rfl
def PtN.add{r H:Hp}{d:Addr}{rs:Pt}(h:PtN r H d rs){g:Nat×Addr×List Nat}(i:g∈rs)(z:Nat):PtN r (Ja H g.2.1 (.lst (nums g.2.2++[.int z]))) d (z4 g.1 z rs):=by
 show%[?_,λt m=>?_,by rw[tO (·.2)];exact h.an|by rw[tO (·.1)];exact h.nd]
 .rw[show PD (z4 g.1 z rs)=PD rs from tO (λp=>((Sum.inl (p.1:Int):Key),V.ref p.2)) rs,am (λe=>by let:=(h.la g i).2;rw[<-e,h.at_]at this;cases this)];exact h.at_
 .let%[o,j|rfl]:=Xk m;by_cases e:o.1=g.1
  .rw[if_pos e];obtain rfl:=Cl h.nd j i e;show%[(h.la _ i).1|?_];rw[upd_same];unfold nums;rw[Zd];rfl
  .rw[if_neg e];show%[(h.la _ j).1|?_];rw[am (λq=>e ?_)]
   .exact(h.la _ j).2
   .let inj:∀{l:Pt},(l.map (·.2.1)).Nodup->o∈l->g∈l->o=g:=λ{l} n a b=>by
     induction l with
     | nil=>cases a
     | cons x l s=>
       rw[Ym,nodup_cons]at n;rcases mem_cons.mp a with c|c<;> rcases mem_cons.mp b with f|f
       .rw[c,f]
       .exact(n.1 (by rw[<-c,q];exact Xl %[_,f|rfl])).elim
       .exact(n.1 (by rw[<-f,<-q];exact Xl %[_,c|rfl])).elim
       .exact s n.2 c f
    rw[inj h.an j i]
def PtN.new{j H:Hp}{d e:Addr}{rs:Pt}(h:PtN j H d rs)(o:j e=none)(i:H e=none)(y z:Nat)(n:y∉rs\1):PtN j (Ja (Ja (Ja H e (.lst [])) d (.dK (cB (PD rs) (Sum.inl (y:Int)) (.ref e)))) e (.lst [.int z])) d (rs++[(y,e,[z])]):=by
 let p:d≠e:=λq=>by rw[<-q,h.at_]at i;cases i
 show%[?_,λg f=>?_,?_|?_]
 .rw[am p,upd_same,eJ _ (by
   cases r:bu (PD rs) (Sum.inl (y:Int))with
   | none=>rfl
   | some v=>
     let%[g,f,e|_]:=tN r;exact absurd (Xl %[g,f|e]) n)]
  unfold PD;rw[Zd];rfl
 .rcases Xi f with f|f
  .show%[(h.la g f).1|?_];let q:=(h.la g f).2;rw[am (λc=>by rw[c,i]at q;cases q),am (λc=>by rw[c,h.at_]at q;cases q),am (λc=>by rw[c,i]at q;cases q)];exact q
  .rw[Xj f];exact%[o|upd_same]
 .rw[Zd,Yw];show%[h.an,by simp|λa l b m c=>?_];let%[g,f|rfl]:=Xk l;let q:=(h.la g f).2;rw[show b=e from Xj m]at c;rw[show g.2.1=e from c,i]at q;cases q
 .rw[Zd,Yw];exact%[h.nd,by simp|λa l b m c=>n (by rw[<-show b=y from Xj m,<-c];exact l)]
def GB{rs:Pt}{g:Nat×Addr×List Nat}(j:g∈rs)(z a b:Nat):PtE (z4 g.1 z rs) a b↔PtE rs a b\/(a=g.1/\b=z):=by
 constructor
 .rintro⟨l,i,e,d⟩;let%[f,h|rfl]:=Xk i;by_cases c:f.1=g.1
  .rw[if_pos c]at e d;rcases Xi d with q|q
   .exact .inl %[f,h,e|q]
   .exact .inr %[e.symm.trans c|Xj q]
  .rw[if_neg c]at e d;exact .inl %[f,h,e|d]
 .rintro(⟨f,h,e,d⟩|⟨rfl,rfl⟩)
  .show%[_,Xl %[f,h|ρ]|?_];by_cases c:f.1=g.1
   .rw[if_pos c];exact%[e|Yp _ d]
   .rw[if_neg c];exact%[e|d]
  .show%[_,Xl %[g,j|ρ]|?_];rw[if_pos rfl];exact%[ρ|Yq _ Zm]
def GC{rs:Pt}{y z a b:Nat}{e:Addr}:PtE (rs++[(y,e,[z])]) a b↔PtE rs a b\/(a=y/\b=z):=by
 constructor
 .rintro⟨g,d,q,c⟩;rcases Xi d with h|h
  .exact .inl %[g,h,q|c]
  .rw[Xj h]at q c;exact .inr %[q.symm|Xj c]
 .rintro(⟨g,d,q,c⟩|⟨rfl,rfl⟩)
  .exact%[g,Yp _ d,q|c]
  .exact%[_,Yq _ Zm,ρ|Zm]
def tP(T:Txt K mg):↥3 "most_pairs" ["partners"] yh:=by
 let A:↥3 "most_pairs" ["partners"] (λvs H Q _=>∃(d:Addr) (rs:Pt),vs=[.ref d]/\PtU H d rs/\∀a f (L:List Nat) (m:Nat->Nat),af H f->H a=none->f a∣.dK (TD L m)->rD rs L m (rs\1)->Q (.ref a) f):=by
  show(qc T).frozen.imp λvs H Q E ⟨d,rs,i,g,j⟩=> .inr %[d,_,by rw[i];rfl,g.at_|λo=>%[d,rs,i,g.frz o|λa f L m l b n p=>?_]]
  let q:a≠d:=λc=>by rw[c,upd_same]at b;cases b
  rw[am q]at b;exact j a _ L m (HI g.at_ l) b (by rw[am q];exact n) p
 exact A.freeze.imp λvs H Q E ⟨d,rs,i,g,j⟩=>%[d,rs,i,g|λa f L m l b n p=>%[[a]|λr=>j a (r a) _ L m (λc o e=>(kb (λh=>by rw[Xj h,b]at e;cases e)).trans (l _ _ e)) (j9 Zm n) p]]
def jL(T:Txt K mg):↥2 "one_of_each_pair" ["partners","held_by"] Co:=by
 show(jj T).frozen.imp λvs H Q E zqw=>?_;let%[d,j,o,rs,L,m,f,b,e,n|p]:=zqw;show  .inr %[d,_,by rw[f];rfl,b.at_|λg=>%[d,j,o,rs,L,m,f,b.frz g,?_,n|λl s ch h i q r=>?_]]
 .rw[am (λc=>by rw[c,b.at_]at e;cases e)];exact e
 .let ld:l≠d:=λc=>by
   let:=h _ _ (upd_same (H:=H) (a:=d) (o:= .frz g (.dK (PD rs))));rw[<-c,i]at this;cases this
  exact p l _ ch (HI b.at_ h) (by rw[am ld];exact i) q r
inductive Cp (mg:ZC)
 | mk (g:Addr) (qs:ZN) (ls:ZB) (ts:ZG):vs=[.ref g]->f6 mg H g qs ls ts->(∀lk,br (a8 qs) (ts\2) lk->∀x,¬ Rch lk x x)-> ~~~qs<=60->(∀t a b H' (as L:List Nat) (bs:List (Addr×Nat×Nat)) (m ch:Nat->Nat) lk,br (a8 qs) (ts\2) lk->af H H'->H' t&&&[.ref a,.ref b]->H' a<*nums as->as.Perm (L.map ch)->H' b∣.lst (bs\0)->PrN H' bs->(bs\2).Perm (L.map λx=>(m x,x))->Mat (Cls qs lk) L m->(∀x∈L,ch x=x\/ch x=m x)->(∀i j,Cls qs lk i j->i∈L.map ch\/j∈L.map ch)->Q (.ref t) H')->Cp mg vs H Q E0
def Cq{qs:ZN}{lk:List ZB}{i j:Nat}(h:Cls qs lk i j)(l: ~~~qs<=60):i<60/\j<60:=by
 let%[_,_,_,_,%[_,_,c|_],%[_,_,d|_]|_]:=h;let a:=(Xh c).1;let b:=(Xh d).1;exact%[⋯|⋯]
def eZ(T:Txt K mg):↥9 "fewest_wrong" ["ground"] (Cp mg):=by
 .exists T.bq,bP,a7,hr,%[g,qs,ls,ts,rfl,d,nr,ql|kk];show%[_,%["JDI1yDUSG]^A0BdML2ML3eEZ~nk~o~p1A2ATBBA3BDI4G]_A1BD<5hgb?1~s4dMV0?2MV1?2evmA1A0BEHmA=]|AG]}A1A4BBA=][A5BB",bP.nd,↑(["by","since"],[]),↑["by","since"]|hr]|?_]
  change a9 _ _ _ [!g,none,none,none,none,none] H;show ak λD1 k1 _=>?_
  lk;intro e fe;show k1 _ _ (ak λD2 k2 _=>ay λae hK=>?_);let se:=af.Ja (o:= .dK []) fe;let he:Ja H e (.dK []) e∣.dK (PD []):=upd_same
  generalize Ja H e (.dK [])=H1 at se he
  lk;show%[g,qs,ls,ts,ρ,d.up se,nr,ql|λl H2 ps lk li s2 M pa pm pl=>%[l,ρ,%[_|Jb.of M]|hK _ _ ?_]];let he:=s2 _ _ he;let le:l≠e:=λc=>by rw[c,he]at M;cases M
  show bV (us:=ps) (f:=λt=>V.ref t.1) (λj C u=>(∃o2 o3,C=[!g,!e,o2,o3,none,none])/\cR e H2 u/\∃rs,PtN H2 u e rs/\ ~~~rs<=j/\(∀g∈rs,g.2.2≠[]/\ ~~~g.2.2<=j)/\∀a b,PtE rs a b↔(a,b)∈(ps.take j)\2)
   %[%[_,_|rfl],(λ_ _ _ h=>h),[],%[he,(λ_ h=>nomatch h),Yy|Yy],Zi _,(λ_ h=>nomatch h)|λa b=>%[λ⟨_,h,_⟩=>(nomatch h)|λh=>nomatch h]] (λj C u h=>h.2.1 _ _ le M) ?_ ?_
  .intro j t C u r %[%[o2,o3|rfl],sx,rs,pn,rl,rg|G];let tm:=Z8 r;let j1:j< ~~~ps:=(Xh r).1;let tt:=sx _ _ (λc=>by let:=pa t tm;rw[c,he]at this;cases this) (pa t tm);let tk:(ps.take (j+1))\2=(ps.take j)\2 ++[t.2]:=by rw[X6,r,Zd];rfl
   let sf:∀{p},u p=none->H2 p=none:=λ{p} h=>by
    cases q:H2 p with
    | none=>rfl
    | some o=>
      let pe:p≠e:=λc=>by rw[c,pn.at_]at h;cases h
      rw[sx _ _ pe q]at h;cases h
   show%[_,SqT.of tt,ρ,_,_,ρ,_,_,ρ,ρ|?_];change iE _ _ [!g,!e,some (.int t.2.1),some (.int t.2.2),none,none] u;show aB λD4 k4 _=>?_
   lk;let mem:∀N:Pt,(∀a b,PtE N a b↔PtE rs a b\/(a=t.2.1/\b=t.2.2))->∀a b,PtE N a b↔(a,b)∈(ps.take (j+1))\2:=λN h a b=>by
    rw[h,G,tk,Yo,Yu];exact or_congr Iff.rfl %[λ⟨h1,h2⟩=>by rw[h1,h2]|λh=>%[congrArg (·.1) h|congrArg (·.2) h]]
   show%[tyD pn.at_,#[0]|λp i=>%[Sum.inl (t.2.1:Int),ρ,PD rs,?_,?_,λv hv=>?_|λhv=>?_]]
   .rw[am (λc=>by rw[<-c,pn.at_]at i;cases i)];exact pn.at_
   .rw[Z6];exact aA ⋯
   .let%[q,O,e1|rfl]:=tN hv;let sp:=af.Ja (o:= .lst []) i;let ag:PtN H2 (Ja u p (.lst [])) e rs:=%[sp _ _ pn.at_,λg d=>%[(pn.la g d).1|sp _ _ (pn.la g d).2],pn.an|pn.nd]
    let M:=(ag.la q O).2;show%[tyL (Jb.of M),_,ρ,_,M,by unfold nums;rw[Z6];exact aA (by let:=(rg q O).2;lia)|k4 _ _ %[%[_,_|ρ],λc o n h=>?_,_,ag.add O t.2.2,?_,λg d=>?_|mem _ λa b=>?_]]
    .rw[am (λz=>by rw[z,(pn.la q O).1]at h;cases h)];exact sp _ _ (sx c o n h)
    .unfold z4;rw[Z6]
     lia
    .let%[g0,h0|rfl]:=Xk d;let:=rg g0 h0
     split
     .exact%[by simp|by change(g0.2.2++[t.2.2]).length<=_;rw[Z9,Yg];lia]
     .exact%[this.1|⋯]
    .rw[GB O,e1]
   .let nk:t.2.1∉rs\1:=λh=>by
     let%[q,O|c]:=Xk h;let:=Es pn.nd O;rw[show q.1=t.2.1 from c]at this;rw[this]at hv;cases hv
    let de:e≠p:=λq=>by rw[<-q,pn.at_]at i;cases i
    let gp:Ja (Ja u p (.lst [])) e (.dK (cB (PD rs) (Sum.inl (t.2.1:Int)) (.ref p))) p<*[]:=by rw[am de.symm,upd_same]
    show%[tyL (Jb.of gp),[],gp,(show 0<sizeLine by decide)|k4 _ _ %[%[_,_|ρ],λc o n h=>?_,_,pn.new (sf i) i t.2.1 t.2.2 nk,?_,λg d=>?_|mem _ λa b=>GC]]
    .let cp:c≠p:=λz=>by rw[z,sf i]at h;cases h
     rw[am cp,am n,am cp];exact sx c o n h
    .rw[Z9,Yg]
     lia
    .rcases Xi d with q|q
     .exact%[(rg g q).1|by let:=(rg g q).2;lia]
     .rw[Xj q];exact%[nofun|succ_le_succ (Xa _)]
  .intro C u %[%[o2,o3|rfl],sx,rs,pn,rl,rg|G];rw[Zn (Zi _)]at G;let G:∀a b,PtE rs a b↔Cls qs lk a b:=λa b=>(G a b).trans (pm a b)
   let pu:PtU u e rs:=%[pn.at_,λg d=>(pn.la g d).2,pn.nd|λg d=>⟨by
    let%[b|hb]:=List.exists_mem_of_ne_nil _ (rg g d).1;exact(Cq ((G g.1 b).mp %[g,d,rfl|hb]) ql).1,λp i=>(Cq ((G g.1 p).mp %[g,d,rfl|i]) ql).2⟩]
   let eE:PtE rs=Cls qs lk:=funext λa=>funext λb=>propext (G a b)
   let s3:af H u:=λc o h=>by
    let ce:c≠e:=λz=>by rw[z,fe]at h;cases h
    exact sx c o ce (s2 _ _ (se _ _ h))
   show k2 _ _ (ak λD5 k5 _=>?_);lk;show%[e,rs,ρ,pu|λhb ob H4 L m s4 hh pr=>k5 _ _ (ak λD6 k6 _=>?_)];let Ll:=vO pr.mat.nd pr.ln;show az λae hK=>?_
   unfold sX;lk;show%[_,_,hh|hK _ _ λF hF=>?_];let tl: ~~~(TD L m)= ~~~L:=Z6 _;show bR (J:=Iti hb ob (TD L m)) (n:= ~~~L) (D:=F) (λj vs C B=>(∃o1 o2,C=[o1,o2])/\af H4 B/\B F<*vs/\∃bs:List (Addr×Nat×Nat),vs=(bs\0)/\PrN B bs/\bs\2=(L.take j).map λx=>(m x,x))
    %[%[none,none|rfl],af.Ja hF,upd_same,[],rfl,(λ_ h=>nomatch h)|rfl] (λj _ _ B hj U=>%[U.2.1 _ _ hh|by rw[tl];exact hj]) (λ_ _ B U=>%[U.2.1 _ _ hh|by rw[tl];exact Zi _]) ?_ ?_
   .intro j vs C B hj %[%[o1,o2|rfl],y,a2,bs,rfl,pb|eb] x I %[kx,vx,tp,hx,a3,rfl|rfl];unfold TD ND at hx;rw[Zl,Z4 hj]at hx;obtain⟨rfl,rfl⟩:Sum.inl ((L[j]:Nat):Int)=kx/\V.int (m L[j]:Nat)=vx:=%[congrArg (·.1) (Za hx)|congrArg (·.2) (Za hx)]
    let s6:=af.Ja (o:= .tup [kV (Sum.inl ((L[j]:Nat):Int)),.int (m L[j]:Nat)]) a3;let ai:Ja B tp (.tup [kV (Sum.inl ((L[j]:Nat):Int)),.int (m L[j]:Nat)]) tp&&&[.int (L[j]:Nat),.int (m L[j]:Nat)]:=upd_same;let aj:=y.trans s6;let al:=s6 _ _ a2;let an:PrN (Ja B tp (.tup [kV (Sum.inl ((L[j]:Nat):Int)),.int (m L[j]:Nat)])) bs:=λt r=>s6 _ _ (pb t r)
    generalize Ja B tp (.tup [kV (Sum.inl ((L[j]:Nat):Int)),.int (m L[j]:Nat)])=I at ai aj al an ⊢
    show%[_,SqT.of ai,ρ,_,_,ρ,_,_,ρ,ρ|?_];change wc [some (.int (L[j]:Nat)),some (.int (m L[j]:Nat))] I _;lk;let bl: ~~~bs=j:=by
     let:=congrArg List.length eb;rw[Z6,Z6,Yh]at this
     lia
    show%[#[2]|λp i=>?_];let s7:=af.Ja (o:= .tup [.int (m L[j]:Nat),.int (L[j]:Nat)]) i;let Y:=s7 _ _ al;let gp:Ja I p (.tup [.int (m L[j]:Nat),.int (L[j]:Nat)]) p=_:=upd_same;let ab:PrN (Ja I p (.tup [.int (m L[j]:Nat),.int (L[j]:Nat)])) (bs++[(p,m L[j],L[j])]):=λt r=>by
     rcases Xi r with h|h
     .exact s7 _ _ (an t h)
     .rw[Xj h];exact gp
    let a0:=aj.trans s7
    generalize Ja I p (.tup [.int (m L[j]:Nat),.int (L[j]:Nat)])=H7 at Y ab a0
    show CK.mk hj Y (by rw[Z6];exact aA ⋯) %[%[_,_|rfl],af.set a0 hF,upd_same,bs++[(p,m L[j],L[j])],by rw[Zd];rfl,λt r=>?_|?_]
    .rw[am (λc=>by let:=ab t r;rw[c,Y]at this;cases this)];exact ab t r
    .rw[Zd,eb,X6,Z4 hj,Zd];rfl
   intro vs C B %[_,y,a4,bs,rfl,pb|eb];rw[Zn (Zi _)]at eb;show k6 _ _ ?_;lk;let bl: ~~~bs= ~~~L:=by
    let:=congrArg List.length eb;rwa[Z6,Z6]at this
   show%[e,hb,ob,rs,L,m,ρ,pu.up (s4.trans y),y _ _ hh,pr|λl' I ch s6 a5 e1 e2=>%[l',ρ,(L.map ch).map λn:Nat=>(n:Int),Jb.of (by rw[Yn];exact a5),by rw[Z6,Z6];lia|λl1 ms f1 p1=>?_]];let%[as,a6|rfl]:=uK p1 (L.map ch) rfl;let s7:=af.Ja (o:= .lst ((as.map λn:Nat=>(n:Int))\4)) f1;let h1:Ja I l1 (.lst ((as.map λn:Nat=>(n:Int))\4)) l1<*nums as:=by rw[upd_same,Yn];rfl
   generalize Ja I l1 (.lst ((as.map λn:Nat=>(n:Int))\4))=H7 at s7 h1
   let ac:=s6.trans s7;show%[bs,Jb.of (ac _ _ a4),λt r=>ac _ _ (pb t r),⋯|λl2 ss f2 p2=>%[#[2]|λt ft=>?_]];let s8:=af.Ja (o:= .lst (ss\0)) f2;let h2:Ja H7 l2 (.lst (ss\0)) l2=_:=upd_same
   generalize Ja H7 l2 (.lst (ss\0))=H8 at s8 h2 ft
   let s9:=af.Ja (o:= .tup [.ref l1,.ref l2]) ft;let a1:=(ac.trans s8).trans s9;rw[eE]at e2;show kk t l1 l2 _ as L ss m ch lk li ((s3.trans (s4.trans y)).trans a1) upd_same ((s8.trans s9) _ _ h1) a6 (s9 _ _ h2) (λp i=>a1 _ _ (pb p (p2.mem_iff.mp i))) ?_ (eE▸pr.mat) e1 e2;rw[<-eb];exact p2.map _
abbrev Kon(E:Nat->Nat->Prop)(n:Nat):Prop:=∃(L C:List Nat) (m:Nat->Nat),Mat E L m/\(∀i j,E i j->i∈C\/j∈C)/\ ~~~L=n/\ ~~~C=n
abbrev Two(E:Nat->Nat->Prop):Prop:=∀i j k,E i j-> ¬ E j k
def pA{E:Nat->Nat->Prop}(f:Two E){L C:List Nat}{m:Nat->Nat}(M:Mat E L m)(g:∀i j,E i j->i∈C\/j∈C): ~~~L<= ~~~C:=by
 let nd:(L.map λx=>if m x∈C then m x else x).Nodup:=by
  rw[Yx,X3];show Xc (λ{x y} c d n e=>n ?_) (nodup_iff_pairwise_ne.mp M.nd);by_cases a:m x∈C<;> by_cases b:m y∈C
  .rw[if_pos a,if_pos b]at e;exact M.inj x c y d e
  .rw[if_pos a,if_neg b]at e;exact(f _ _ _ (M.ed y d) (e▸M.ed x c)).elim
  .rw[if_neg a,if_pos b]at e;exact(f _ _ _ (M.ed x c) (e.symm▸M.ed y d)).elim
  .rw[if_neg a,if_neg b]at e;exact e
 let:=_ST.nodup_sub nd (m:=C) λz h=>by
  let%[x,c|rfl]:=Xk h;by_cases a:m x∈C
  .rw[if_pos a];exact a
  .rw[if_neg a];exact(g _ _ (M.ed x c)).resolve_left a
 rwa[Z6]at this
abbrev pB(N:Nat)(f:Nat->Nat)(C:List Nat):List Nat:=(List.range N).filter λi=>decide (f i∈C)
def e7{N:Nat}{f:Nat->Nat}{C:List Nat}{i:Nat}:i∈pB N f C↔i<N/\f i∈C:=by
 unfold pB;rw[List.mem_filter,mem_range,decide_eq_true_iff]
def tQ{N:Nat}{f:Nat->Nat}{C:List Nat}(inj:∀i j,i<N->j<N->f i=f j->i=j):((pB N f C).map f).Nodup:=by
 rw[Yx,X3];exact Xc (λ{x y} a b n e=>n (inj x y (e7.mp a).1 (e7.mp b).1 e)) (nodup_iff_pairwise_ne.mp (nodup_range.filter _))
def pD{N:Nat}{f:Nat->Nat}{C:List Nat}:∀z∈(pB N f C).map f,z∈C:=λz a=>by
 let%[i,hi|rfl]:=Xk a;exact(e7.mp hi).2
def tR{E b:Nat->Nat->Prop}{N:Nat}{f:Nat->Nat}{C:List Nat}(c:∀i j,E i j->i<N/\j<N)(a:∀i j,E i j->b (f i) (f j))(d:∀i j,b i j->i∈C\/j∈C):∀i j,E i j->i∈pB N f C\/j∈pB N f C:=λi j e=>
 (d _ _ (a i j e)).imp (λh=>e7.mpr %[(c i j e).1|h]) λh=>e7.mpr %[(c i j e).2|h]
def xh{E b:Nat->Nat->Prop}{n c N:Nat}{f:Nat->Nat}(d:Two E)(k:Kon E n)(e:Kon b c)(g:∀i j,E i j->i<N/\j<N)(inj:∀i j,i<N->j<N->f i=f j->i=j)(a:∀i j,E i j->b (f i) (f j)):n<=c:=by
 let%[L,_,m,M,_,rfl|_]:=k;let%[_,C,_,_,h,_|rfl]:=e;let:=_ST.nodup_sub (tQ (C:=C) inj) pD;rw[Z6]at this;exact Nat.le_trans (pA d M (tR g a h)) this
def D0{E c:Nat->Nat->Prop}{n s N:Nat}{f g:Nat->Nat}(t:Two E)(l:Two c)(k:Kon E n)(y:Kon c s)(u:∀i j,E i j->i<N/\j<N)(A:∀i j,i<N->j<N->f i=f j->i=j)(B:∀i j,i<N->j<N->g i=g j->i=j)(G:∀i j,i<N->j<N->f i≠g j)
 (H:∀i j,E i j->c (f i) (f j)) (I:∀i j,E i j->c (g i) (g j)) (all:∀a b,c a b->∃i j,E i j/\(a=f i\/a=g i)/\(b=f j\/b=g j)):s=2*n:=by
 let%[L,C,m,M,J,Y|e2]:=k;let%[L',o,m',O,d,e3|e4]:=y;let up:=pA (C:=C.map f++C.map g) l O λa b e=>by
  let%[i,j,h,p|r]:=all a b e;rw[Yo,Yo];let v:∀{a i:Nat},(a=f i\/a=g i)->i∈C->a∈C.map f\/a∈C.map g:=λh q=>by
   rcases h with rfl|rfl
   .exact .inl (Xl %[_,q|rfl])
   .exact .inr (Xl %[_,q|rfl])
  exact(J i j h).imp (v p) (v r)
 rw[Z9,Z6,Z6]at up;let d1:=pA t M (tR u H d);let d2:=pA t M (tR u I d);let nd:((pB N f o).map f++(pB N g o).map g).Nodup:=nodup_append.mpr %[tQ A,tQ B|λa p b r e=>by
  let%[i,hi|rfl]:=Xk p;let%[j,Q|rfl]:=Xk r;exact G i j (e7.mp hi).1 (e7.mp Q).1 e]
 let T:=_ST.nodup_sub nd (m:=o) λz U=>(Xi U).elim (pD z) (pD z)
 rw[Z9,Z6,Z6]at T
 lia
def pE{E:Nat->Nat->Prop}{n:Nat}(k:Kon E n)(h:∀i j,¬ E i j):n=0:=by
 let%[L,_,m,M,_,rfl|_]:=k;cases L with
 | nil=>rfl
 | cons x L=>exact(h _ _ (M.ed x Zm)).elim
def tU{E:Nat->Nat->Prop}{n c i j:Nat}(b:Two E)(k:Kon E n)(h:E i j)(all:∀i j,E i j->i=c\/j=c):n=1:=by
 let%[L,C,m,M,a,rfl|e]:=k;let:=pA (C:=[c]) b M λi j e=>(all i j e).imp mem_singleton.mpr mem_singleton.mpr
 let:C≠[]:=λz=>by rw[z]at a;exact(a i j h).elim (λh=>nomatch h) λh=>nomatch h
 let:=length_pos_iff.mpr this;simp only[Yg]at*
 lia
def tV{E:Nat->Nat->Prop}{L:List Nat}{m ch:Nat->Nat}(M:Mat E L m)(a:∀i j,E i j->i∈L.map ch\/j∈L.map ch):Kon E L.length:=%[L,L.map ch,m,M,a,rfl|Z6 _]
def HN(qs:ZN)(lk:List ZB):Two (Cls qs lk):=λi j k ⟨_,_,_,_,_,⟨q,a,d,e,_⟩,_⟩ ⟨_,_,_,_,⟨f,g,b,c,_⟩,_⟩=>by
 rw[d]at b;cases b;rw[e]at c;cases c
def nq(n:Str)(c:Nat):lnS n (sgn c)=dw n c:=by
 show gF ?_;change(([].toArray) ++n.cps++ ([46].toArray) ++ ([c].toArray)).toList=(n.cps.toList++[46,c]).toArray.toList;simp
def tW{p:Addr×Str×ZB}{x:Str}:x∈lyr p↔∃c,Let p.2.2 c/\x=dw p.2.1 c:=by
 unfold lyr;rw[mem_map]
 constructor
 .rintro⟨z,b,rfl⟩;let%[c,a|rfl]:=gX b;exact%[c,fQ.mp a|nq _ _]
 .rintro⟨c,a,rfl⟩;exact%[sgn c,bx.mpr (Xl %[c,fQ.mpr a|ρ])|nq _ _]
def pF{d:Drn}(h:mI d){x:Str}:x∈(gY d)\1↔∃c,Let d.rows c/\x=dw d.name c:=by
 unfold gY Drn.rows;rw[Yn,mem_map]
 constructor
 .rintro⟨a,i,rfl⟩;let%[e,f|g]:=eG.mp i;exact%[sg a d.sh,(u4 h.2.2.2.2.2).mpr %[a,e,f,g|ρ]|ρ]
 .rintro⟨c,g,rfl⟩;let%[a,e,f,b|rfl]:=(u4 h.2.2.2.2.2).mp g;exact%[a,eG.mpr %[e,f|b]|ρ]
def pG{h:Type}{f:h->ZB}{nm:h->Str}:∀{xs:List h},(xs.map nm).Nodup->(∀p∈xs,(f p).Nodup)->(∀p∈xs,∀x∈f p,∃c,x=dw (nm p) c)->(xs.flatMap f).Nodup
 |[],_,_,_=>Yy
 | p::xs,i,m,j=>by
   rw[Ym,nodup_cons]at i;rw[List.flatMap_cons,Yw];show%[m p Zm,pG i.2 (λq g=>m q (Zk _ g)) (λq g=>j q (Zk _ g))|λa n b o e=>?_];let%[q,g|l]:=mem_flatMap.mp o;let%[c|r]:=j p Zm a n;let%[d|s]:=j q (Zk _ g) b l;let:=(lF (r.symm.trans (e.trans s))).1;exact i.1 (Xl %[q,g|this.symm])
def z5(p:Addr×Str×ZB):(lyr p).Nodup:=by
 unfold lyr;rw[Yx,X3];show Xc (λ{x y} e f a b=>?_) (nodup_iff_pairwise_ne.mp (eL ((cN p.2.2).map sgn)));let%[c,_|rfl]:=gX e;let%[d,_|rfl]:=gX f;rw[nq,nq]at b;exact a (by rw[(lF b).2])
def xi(d:Drn):((gY d)\1).Nodup:=by
 unfold gY;rw[Yn,Yx,X3];show Xc (λ{x y} b c a e=>?_) (nodup_iff_pairwise_ne.mp (u5 d.cols));let%[f,g|_]:=eG.mp b;let%[h,i|_]:=eG.mp c;exact a (Gf f g h i (lF e).2)
def oU.mono{g i:ZB}{xs:ZM}(h:oU g xs)(s:∀x∈g,x∈i):oU i xs:=by
 rcases h with⟨w,a,b,e,c,d,f,j⟩|⟨w,a,y,e,c,d,f⟩
 .exact .inl %[w,a,b,e,c,s _ d,s _ f|j]
 .exact .inr %[w,a,y,e,c,s _ d|f]
def xj{d:ZH}{e:ZB}(h:e.Perm (d.flatMap lyr)){x:Str}:x∈e↔∃p∈d,∃c,Let p.2.2 c/\x=dw p.2.1 c:=by
 rw[h.mem_iff,mem_flatMap]
 constructor
 .rintro⟨p,a,b⟩;exact%[p,a|tW.mp b]
 .rintro⟨p,a,b⟩;exact%[p,a|tW.mpr b]
def z6{ds:List (Addr×Drn)}(h:∀p∈ds,mI p.2){x:Str}:x∈(ds.flatMap λp=>(gY p.2)\1)↔∃p∈dcs ds,∃c,Let p.2.2 c/\x=dw p.2.1 c:=by
 rw[mem_flatMap];unfold dcs
 constructor
 .rintro⟨p,a,b⟩;exact%[_,Xl %[p,a|ρ]|(pF (h p a)).mp b]
 .rintro⟨q,d,b⟩;let%[p,a|rfl]:=Xk d;exact%[p,a|(pF (h p a)).mpr b]
def Et{ds:List (Addr×Drn)}(h:∀p∈ds,mI p.2)(a:(ds.map λp=>p.2.name).Nodup):(ds.flatMap λp=>(gY p.2)\1).Nodup:=
 pG (nm:=λp:Addr×Drn=>p.2.name) a (λp _=>xi p.2) λp b x d=>by
  let%[c,_|e]:=(pF (h p b)).mp d;exact%[c|e]
def kT{a:ZH}(d:(a.map λp=>p.2.1).Nodup){b:ZB}(h:b.Perm (a.flatMap lyr)):b.Nodup:=by
 rw[h.nodup_iff];exact pG (nm:=λp:Addr×Str×ZB=>p.2.1) d (λp _=>z5 p) λp g x f=>by
  let%[c,_|e]:=tW.mp f;exact%[c|e]
structure fH (H:Hp) (cs:ZH) (qs:ZN):Prop where
 ca:ci H cs
 nd:(cs.map λp=>p.2.1).Nodup
 p1:1<= ~~~cs
 p3: ~~~cs<=4
 few:∀p∈cs,zI p.2.2
 ly: ~~~(cs.flatMap lyr)<=63
 sa:∀ls:ZB,ls.Perm (cs.flatMap lyr)->cU H ls qs
 q20: ~~~qs<=46
def fH.up{H a:Hp}{b:ZH}{qs:ZN}(h:fH H b qs)(s:af H a):fH a b qs:=
 %[h.ca.up s,h.nd,h.p1,h.p3,h.few,h.ly,λc p=>(h.sa c p).up s|h.q20]
inductive pH (K:ZA)
 | mk (a:Addr) (ns:ZL):vs=[.ref a]->Jb K H a (ns\4)->Db H-> ~~~ns<=63->(∀H',Q (.bl true) H')->pH K vs H Q E0
def tX{H:Hp}{g c a b:Addr}{f:ZH}{qs:ZN}{R:Hp->Prop}(l:H g=none)(j:H c=none)(r:H a<*cP f)(s:H b∣.lst (qs\0))(p:fH H f qs)
 (k:∀h d ts,af H h->f6 mg h g qs d ts->d.Perm (f.flatMap lyr)->(∀k,k∈ts\2↔k∈dq f\/k∈cQ qs qs.length)->R h):
 tG mg [.ref g,.ref a,.ref b] (Ja (Ja H c (.own g)) g (.ins (cC mg "Ground") c [])) (λv u=>v= .non/\R u) E0:=by
 let i:af H (Ja (Ja H c (.own g)) g (.ins (cC mg "Ground") c [])):=λb o e=>by
  rw[am (aC e l),am (aC e j)];exact e
 show%[g,a,b,c,f,qs,ρ,upd_same,i _ _ r,i _ _ s,p.ca.up i,p.nd,p.p1,p.p3,p.few,p.ly,λd q=>(p.sa d q).up i,p.q20|λh d ts y z A B C tk E G I pl J=>%[ρ|k h d ts (λb o e=>B b o (aC e l) (i _ _ e)) %[%[y,z,A|C],kT p.nd pl,J,by rw[pl.length_eq];exact p.ly,I,λk m=>?_,λk m=>?_|E] pl G]]<;> have%[t,n|rfl]:=Xk m
 .exact(tk t n).1
 .exact(tk t n).2
abbrev CV(S U:Str->Str->Prop)(v w:ZM):Prop:=∃(a b d x:Str) (y z:Int),v=[.str "since",.str a,.int y]/\w=[.str "by",.str b,.int z]/\cI S a d/\cI S b x/\U x d/\y>z
abbrev Ew(W:ZM->ZM->Prop)(qs:ZN)(i j:Nat):Prop:=∃q r,qs[i]?∣q/\qs[j]?∣r/\W q.2 r.2
def GD{qs:ZN}{lk:List ZB}{i j:Nat}:Cls qs lk i j↔Ew (CV (a8 qs) (Up lk)) qs i j:=by
 constructor
 .rintro⟨d,x,y,z,⟨q,a,c,e,f⟩,⟨r,b,h,l,m⟩,u,g⟩;exact%[q,r,c,h,a,b,d,x,y,z,e,l,f,m,u|g]
 .rintro⟨q,r,c,h,a,b,d,x,y,z,e,l,f,m,u,g⟩;exact%[d,x,y,z,%[q,a,c,e|f],%[r,b,h,l|m],u|g]
def yi{qs:ZN}{a b:Str}:(∃z,[a,b,z]∈cQ qs qs.length)↔∃q∈qs,q.2=[.str "later",.str a,.str b]:=by
 unfold cQ
 constructor
 .rintro⟨z,h⟩;let%[j,d|e]:=mem_filterMap.mp h;let%[q,f|e]:=Option.bind_eq_some_iff.mp e;show%[q,Z8 f|?_]
  revert e
  unfold lL
  split
  .next w x y g=>
   split
   .next c=>
    intro e;let e:=Za e;simp only[List.cons.injEq,and_true]at e;rw[g,e.1,e.2.1,c]
   .exact λe=>nomatch e
  .exact λe=>nomatch e
 .rintro⟨q,f,e⟩;let%[j,d|rfl]:=getElem_of_mem f;show%[B5 j|mem_filterMap.mpr %[j,mem_range.mpr d|?_]];rw[Z4 d,bind_some,e];change(if Str.ofString "later"=Str.ofString "later" then some [a,b,B5 j]else none)=_;rw[if_pos rfl]
abbrev SmT(qs rs:ZN):Prop:=∀wd a b,(∃q∈qs,q.2=[.str wd,.str a,.str b])↔∃q∈rs,q.2=[.str wd,.str a,.str b]
def yj{d:ZH}{qs rs:ZN}(h:SmT qs rs){ts us lk mk:List ZB}(g:∀k,k∈ts↔k∈dq d\/k∈cQ qs qs.length)(f:∀k,k∈us↔k∈dq d\/k∈cQ rs rs.length){S:Str->Str->Prop}(l:br S ts lk)(m:br S us mk)(x y:Str)(e:Ed lk x y):Ed mk x y:=by
 let%[z|i]:=e;let%[a,b,p,r,s,q,j,n|e]:=(l.mem _).mp i;simp only[List.cons.injEq,and_true]at e;let%[rfl,rfl|rfl]:=e;obtain⟨c,o⟩:∃c,[a,b,c]∈us:=by
  rcases(g _).mp q with q|q
  .exact%[_|(f _).mpr (.inl q)]
  .let%[c|q]:=yi.mpr ((h _ _ _).mp (yi.mp %[_|q]));exact%[c|(f _).mpr (.inr q)]
 exact%[c|(m.mem _).mpr %[a,b,c,_,_,o,j,n|ρ]]
def vQ{lk mk:List ZB}(h:∀x y,Ed lk x y->Ed mk x y){x y:Str}(r:Rch lk x y):Rch mk x y:=by
 induction r with
 | one e=>exact .one (h _ _ e)
 | more _ e a=>exact a.more (h _ _ e)
abbrev Fit(W:ZM->ZM->Prop)(a:ZH)(qs:ZN):Prop:=∀ts lk:List ZB,(∀k,k∈ts↔k∈dq a\/k∈cQ qs qs.length)->br (a8 qs) ts lk->(∀x,¬ Rch lk x x)/\Cls qs lk=Ew W qs
def SmT.fit{c:ZH}{qs rs:ZN}(h:SmT qs rs){ts lk:List ZB}(d:∀k,k∈ts↔k∈dq c\/k∈cQ qs qs.length)(l:br (a8 qs) ts lk)(nr:∀x,¬ Rch lk x x):Fit (CV (a8 qs) (Up lk)) c rs:=λus mk e m=>by
 let f:a8 rs=a8 qs:=funext λa=>funext λb=>propext (h _ a b).symm
 rw[f]at m;let g:Rch mk=Rch lk:=funext λx=>funext λy=>propext %[vQ (yj (λw a b=>(h w a b).symm) e d m l)|vQ (yj h d e l m)]
 let n:Up mk=Up lk:=by unfold Up;rw[g]
 show%[λx r=>nr x (g▸r)|funext λi=>funext λj=>propext ?_];rw[GD,f,n]
def tY{v:Type}{l m:List v}(p:l.Perm m):∃f g:Nat->Nat,(∀i,i< ~~~l->f i< ~~~m/\g (f i)=i/\m[f i]? =l[i]?)/\∀j,j< ~~~m->g j< ~~~l/\f (g j)=j/\l[g j]? =m[j]? :=by
 induction p with
 | nil=>exact%[id,id,(λi h=>absurd h (Yz i))|λi h=>absurd h (Yz i)]
 | @cons a l m _ A=>
   let%[f,g,n|o]:=A;show⟨λi=>match i with|0=>0|i+1=>f i+1,λi=>match i with|0=>0|i+1=>g i+1,λi h=>?_,λi h=>?_⟩
   .cases i with
    | zero=>exact%[succ_pos _,ρ|ρ]
    | succ i=>
      let%[c,d|e]:=n i (Nat.lt_of_succ_lt_succ h);exact%[Nat.succ_lt_succ c,congrArg (·+1) d|e]
   .cases i with
    | zero=>exact%[succ_pos _,ρ|ρ]
    | succ i=>
      let%[c,d|e]:=o i (Nat.lt_of_succ_lt_succ h);exact%[Nat.succ_lt_succ c,congrArg (·+1) d|e]
 | swap a b l=>
   let y:∀(a b:v) i,i< ~~~(b::a::l)->(match i with|0=>1|1=>0|i+2=>i+2)< ~~~(a::b::l)/\(λi:Nat=>match i with|0=>1|1=>0|i+2=>i+2) (match i with|0=>1|1=>0|i+2=>i+2)=i/\(a::b::l)[(match i with|0=>1|1=>0|i+2=>i+2:Nat)]? =(b::a::l)[i]? :=λa b i h=>by
    match i with
    | 0=>exact%[Nat.succ_lt_succ (succ_pos _),ρ|ρ]
    | 1=>exact%[succ_pos _,ρ|ρ]
    | i+2=>exact%[h,ρ|ρ]
   exact⟨λi=>match i with|0=>1|1=>0|i+2=>i+2,λi=>match i with|0=>1|1=>0|i+2=>i+2,y a b,y b a⟩
 | trans _ _ q r=>
   let%[f,g,n|o]:=q;let%[z,B,C|E]:=r;show%[λi=>z (f i),λi=>g (B i),λi h=>?_|λi h=>?_]
   .let%[c,d|e]:=n i h;let%[s,t|u]:=C _ c;exact%[s,(congrArg g t).trans d|u.trans e]
   .let%[c,d|e]:=E i h;let%[s,t|u]:=o _ c;exact%[s,(congrArg z t).trans d|u.trans e]
def Cr{n:Type}{l m:List n}(p:l.Sublist m):∃f:Nat->Nat,(∀i j,i< ~~~l->j< ~~~l->f i=f j->i=j)/\∀i,i< ~~~l->m[f i]? =l[i]? :=by
 induction p with
 | slnil=>exact%[id,(λi j h=>absurd h (Yz i))|λi h=>absurd h (Yz i)]
 | cons a _ b=>
   let%[f,c|d]:=b;exact%[λi=>f i+1,λi j hi g e=>c i j hi g (Nat.succ.inj e)|λi h=>d i h]
 | cons_cons a _ b=>
   let%[f,c|d]:=b;show⟨λi=>match i with|0=>0|i+1=>f i+1,λi j hi g e=>?_,λi h=>?_⟩
   .match i,j,e with
    | 0,0,_=>rfl
    | i+1,j+1,e=>exact congrArg (·+1) (c i j (Nat.lt_of_succ_lt_succ hi) (Nat.lt_of_succ_lt_succ g) (Nat.succ.inj e))
   .match i with
    | 0=>rfl
    | i+1=>exact d i (Nat.lt_of_succ_lt_succ h)
def kU{W:ZM->ZM->Prop}{qs:ZN}{i j:Nat}(h:Ew W qs i j):i< ~~~qs/\j< ~~~qs:=by
 let%[_,_,a,b|_]:=h;exact%[(Xh a).1|(Xh b).1]
def hZ{S U:Str->Str->Prop}(qs:ZN):Two (Ew (CV S U) qs):=λi j k ⟨_,r,_,c,_,_,_,_,_,_,_,d,_⟩ ⟨e,_,a,_,_,_,_,_,_,_,b,_⟩=>by
 rw[c]at a;cases a;rw[d]at b;cases b
def HJ{S U:Str->Str->Prop}{qs rs:ZN}{n d:Nat}(p:qs.Perm rs)(k:Kon (Ew (CV S U) qs) n)(h:Kon (Ew (CV S U) rs) d):n<=d:=by
 let%[f,g,c|_]:=tY p;show xh (N:= ~~~qs) (f:=f) (hZ qs) k h (λi j=>kU) (λi j hi l e=>by rw[<-(c i hi).2.1,e,(c j l).2.1]) λi j e=>?_
 let%[a|b]:=kU e;let%[q,r,m,o|w]:=e;exact%[q,r,by rw[(c i a).2.2,m],by rw[(c j b).2.2,o]|w]
def HP{S U:Str->Str->Prop}{qs rs:ZN}{n c:Nat}(p:qs.Sublist rs)(k:Kon (Ew (CV S U) qs) n)(g:Kon (Ew (CV S U) rs) c):n<=c:=by
 let%[f,h|d]:=Cr p;show xh (N:= ~~~qs) (f:=f) (hZ qs) k g (λi j=>kU) h λi j e=>?_
 let%[a|b]:=kU e;let%[q,r,l,m|w]:=e;exact%[q,r,by rw[d i a,l],by rw[d j b,m]|w]
inductive tZ
 | mk (W:ZM->ZM->Prop) (a b:Addr) (cs:ZH) (qs:ZN):vs=[.ref a,.ref b]->H a<*cP cs->H b∣.lst (qs\0)->fH H cs qs->Fit W cs qs->(∀n H',af H H'->Kon (Ew W qs) n->Q (.int (n:Nat)) H')->tZ vs H Q E0
def dc(T:Txt K mg):↥10 "_law_many" ["_law_cuts","_law_sayings"] tZ:=by
 .exists T.bC,vd,o,d,%[W,a,b,p,qs,rfl,q,r,i,l|u];show%[_,%["JEHXYAQG~uA~v~wA0A1BBCB",0|d]|?_];change iB _ _ [!a,!b] H;lk;show λg dx v c y=>tX v c q r i λH1 z ts B C pl n=>?_
  show%[g,qs,z,ts,ρ,C,λlk G=>(l _ lk n G).1,by let:=i.q20;lia|λt a' b' H2 as L bs m ch lk I J N O U _ _ _ M _ Y=>%[t,ρ,_,SqT.of N,_,bC (j:=0) rfl,_,.inl %[_,Jb.of O|ρ]|?_]];let e: ~~~(nums as)= ~~~L:=by
   unfold nums;rw[Z6,U.length_eq,Z6]
  rw[e];exact u _ _ (B.trans J) ((l _ lk n I).2▸tV M Y)
def Cs(xs:ZM)(n:Nat):rL xs none (some (n:Int))=xs.take n:=by
 unfold rL;rw[_HT.sIx_nat,show _HT.sIx xs.length 0 none=0 from rfl,drop_zero,Nat.sub_zero];exact(List.take_eq_take_min ..).symm
abbrev lef(qs:ZN)(as:List Nat)(n:Nat):ZN:=(List.range n).filterMap λk=>if k∈as then none else qs[k]?
def vR{qs:ZN}{as:List Nat}{n:Nat}{q:Addr×ZM}(h:qs[n]?∣q):lef qs as (n+1)=lef qs as n++if n∈as then []else [q]:=by
 unfold lef;rw[range_succ,filterMap_append,Y0,h]
 split
 .next c=>rw[if_pos (by by_cases d:n∈as;exact d;rw[if_neg d]at c;cases c)];rfl
 .next c=>rw[if_neg (λd=>by rw[if_pos d]at c;cases c)];rw[if_neg (λd=>by rw[if_pos d]at c;cases c)]at c;cases c;rfl
def h9{qs:ZN}{as:List Nat}{q:Addr×ZM}:q∈lef qs as qs.length↔∃k,k∉as/\qs[k]?∣q:=by
 unfold lef;rw[mem_filterMap]
 constructor
 .rintro⟨k,_,h⟩;by_cases d:k∈as
  .rw[if_pos d]at h;cases h
  .rw[if_neg d]at h;exact%[k,d|h]
 .rintro⟨k,d,h⟩;exact%[k,mem_range.mpr (Xh h).1|by rw[if_neg d];exact h]
def yk(qs:ZN)(as:List Nat)(n:Nat): ~~~(lef qs as n)<=n:=by
 let:=List.length_filterMap_le (λk=>if k∈as then none else qs[k]?) (List.range n);rwa[Yf]at this
structure Out (W:ZM->ZM->Prop) (qs:ZN) (as:List Nat):Prop where
 cv:∀i j,Ew W qs i j->i∈as\/j∈as
 ot:∀n∈as,∃o,o∉as/\(Ew W qs n o\/Ew W qs o n)
def vS{W:ZM->ZM->Prop}{qs:ZN}{as:List Nat}(h:Out W qs as){rs:ZN}{i j:Nat}(hi:∀q,rs[i]?∣q->q∈lef qs as qs.length)(a:∀q,rs[j]?∣q->q∈lef qs as qs.length): ¬ Ew W rs i j:=λ⟨q,r,b,c,w⟩=>by
 let%[k,d|e]:=h9.mp (hi q b);let%[l,f|le]:=h9.mp (a r c);exact(h.cv k l %[q,r,e,le|w]).elim d f
def Ea{S U:Str->Str->Prop}{qs:ZN}{as:List Nat}(h:Out (CV S U) qs as){n m:Nat}{q:Addr×ZM}(v:n∈as)(t:qs[n]?∣q)(k:Kon (Ew (CV S U) (lef qs as qs.length++[q])) m):m=1:=by
 let d:∀r∈lef qs as qs.length,∃p,(lef qs as qs.length++[q])[p]?∣r:=λr z=>by
  let%[p,c|e]:=getElem_of_mem z;exact%[p|by rw[Y7 c,Z4 c,e]]
 let f:(lef qs as qs.length++[q])[~~~(lef qs as qs.length)]?∣q:=by rw[Y8 (Zi _),X4];rfl
 let lo:∀i r,i≠ ~~~(lef qs as qs.length)->(lef qs as qs.length++[q])[i]?∣r->r∈lef qs as qs.length:=λi r hi e=>by
  let l:=(Xh e).1;rw[Z9,Yg]at l;rw[Y7 ⋯]at e;exact Z8 e
 let all:∀i j,Ew (CV S U) (lef qs as qs.length++[q]) i j->i= ~~~(lef qs as qs.length)\/j= ~~~(lef qs as qs.length):=λi j e=>by
  by_cases a:i= ~~~(lef qs as qs.length)
  .exact .inl a
  .by_cases b:j= ~~~(lef qs as qs.length)
   .exact .inr b
   .exact(vS h (λr=>lo i r a) (λr=>lo j r b) e).elim
 let%[o,u|e]:=h.ot n v;rcases e with⟨x,y,g,s,w⟩|⟨x,y,g,s,w⟩
 .let%[p|c]:=d y (h9.mpr %[o,u|s]);rw[t]at g;cases g;exact tU (hZ _) k %[_,_,f,c|w] all
 .let%[p|c]:=d x (h9.mpr %[o,u|g]);rw[t]at s;cases s;exact tU (hZ _) k %[_,_,c,f|w] all
def yo{S U:Str->Str->Prop}{qs:ZN}{as:List Nat}(h:Out (CV S U) qs as){us:ZN}(i:∀q∈us,q∈qs):SmT qs (lef qs as qs.length++us):=λwd a b=>by
 constructor
 .rintro⟨q,c,e⟩;let%[k,d|rfl]:=getElem_of_mem c;show%[_,Yp _ (h9.mpr %[k,λj=>?_|Z4 d])|e];let%[o,_|l]:=h.ot k j;rcases l with⟨x,y,f,_,_,_,_,_,_,_,g,_⟩|⟨x,y,_,f,_,_,_,_,_,_,_,g,_⟩<;> rw[Z4 d]at f<;> cases f<;> rw[e]at g<;> cases g
 .rintro⟨q,c,e⟩;rcases Xi c with c|c
  .let%[k,_|d]:=h9.mp c;exact%[q,Z8 d|e]
  .exact%[q,i q c|e]
def fH.sub{H:Hp}{b:ZH}{qs a:ZN}(h:fH H b qs)(s:∀q∈a,q∈qs)(l: ~~~a<=46):fH H b a:=%[h.ca,h.nd,h.p1,h.p3,h.few,h.ly,λc p q d=>h.sa c p q (s q d)|l]
def Ct(n:Nat)(l:List Nat):inV (.int (n:Int)) (nums l)=decide (n∈l):=by
 unfold inV nums;rw[any_map];show Bool.eq_iff_iff.mpr ?_;rw[any_eq_true,decide_eq_true_iff]
 constructor
 .rintro⟨x,a,e⟩;let:(x:Int)=n:=by simpa [eqV]using e
  rwa[<-Int.ofNat.inj this]
 .exact λh=>%[n,h|by simp[eqV]]
def HK{X:Cx}{K:ZA}{k:Nat}(h:X.K=K)(a:cj k X.A):OpQ X (compareOp .NotEq) (FH K):=by subst h;exact⟨FI a.units⟩
inductive pI
 | mk (S U:Str->Str->Prop) (a b c:Addr) (cs:ZH) (qs:ZN) (as:List Nat):vs=[.ref a,.ref b,.ref c]->H a<*cP cs->H b∣.lst (qs\0)->H c<*nums as->fH H cs qs-> ~~~qs<=30->(∀rs,SmT qs rs->Fit (CV S U) cs rs)->Out (CV S U) qs as->(∀H',af H H'->Q (.bl true) H')->pI vs H Q E0
def qd(T:Txt K mg):↥11 "_law_without" ["_law_cuts","_law_sayings","_law_numbers"] pI:=by
 .exists T.bD,eW,a1,d,%[S,U,a,b,c,cs,qs,as,rfl,ha,hb,hc,pk,a2,ft,I|kk];show%[_,%["JD<3hgb?1)AXYAN1BBV0?2uK~10N2RN10DOK]0G~uA~v~wA0A3BBmATBATBBEHpPDUS~BN2~D'CL4EOKnG~AA0AF;3TARN14BBCEHpPEHp",eW.nd,↑(["_law_k","_law_sayings","_law_numbers"],[(1,1),(2,2)]),↑["_law_k","_law_sayings","_law_numbers"]|d]|?_]
  change a9 _ _ _ [!a,!b,!c,none,none] H;show ak λD1 k1 _=>?_
  lk;show az λN hK=>?_
  lk;show%[~~~qs,.inl %[_,Jb.of hb|(Z6 _).symm],⋯,⋯|hK _ _ λF hF=>?_];rw[Int.toNat_natCast];show bR (J:=Itr 0 qs.length) (n:= ~~~qs) (D:=F) (λi vs l y=>(∃o,l=[o,!b,!c])/\af H y/\y F<*vs/\vs=(lef qs as i)\0)
   %[%[none|rfl],af.Ja hF,upd_same|rfl] (λi _ _ y hi _=>hi) (λ_ _ y _=>Zi _) ?_ ?_
  .intro i vs l H1 hi %[%[o|rfl],v,O|rfl] x a3 %[e2|e3];subst e2 e3;let B:=Z4 hi;lk;show%[_,.inl (Jb.of (v _ _ hc)),ρ,by simp[nums,fJ]|?_];rw[Ct];show ba (λc=>?_) λc=>?_
   .let m:i∉as:=↑c
    show%[_,Jb.of (v _ _ hb),_,bC (by rw[Zl,B];rfl)|CK.mk hi O (by rw[Z6];exact aA (by let:=yk qs as i;lia)) %[%[_|ρ],af.set v hF,upd_same|?_]];rw[vR B,if_neg m,Zd];rfl
   .let m:i∈as:=↑c
    show CN.mk hi %[%[_|rfl],v,O|?_];rw[vR B,if_pos m,Zy]
  intro vs l H1 %[_,v,Y|rfl];show k1 _ _ (ak λD2 k2 _=>?_);lk;let ll:=yk qs as qs.length;let lm:∀q∈lef qs as qs.length,q∈qs:=λq h=>by
   let%[k,_|e]:=h9.mp h;exact Z8 e
  let aj:=pk.up v;let ab:=yo I (us:=[]) (λ_ h=>nomatch h);rw[Zy]at ab;let f0:=ft _ ab;show λg dx fg al a4=>tX fg al (v _ _ ha) Y (aj.sub lm ⋯) λH2 ls ts s2 gr pl tm=>%[g,_,ls,ts,rfl,gr,λlk hl=>(f0 _ lk tm hl).1,⋯|λt a' b' H3 a5 L bs m ch lk li s3 ht h1 pa h2 _ pb M _ cv=>?_]
  let L0:L=[]:=length_eq_zero_iff.mp (pE ((f0 _ lk tm li).2▸tV M cv) λi j=>vS I (λq=>Z8) λq=>Z8);subst L0;obtain rfl:=List.map_eq_nil_iff.mp pb.eq_nil;obtain rfl:=pa.eq_nil;let an:=(v.trans s2).trans s3;show%[#[0]|λp hp=>%[#[0]|λr d=>%[#[2]|λu hu=>?_]]];let t1:=af.Ja (o:= .lst []) hp;let C:=af.Ja (o:= .lst []) d;let t3:=af.Ja (o:= .tup [V.ref p,V.ref r]) hu;let gu:Ja (Ja (Ja H3 p (.lst [])) r (.lst [])) u (.tup [V.ref p,V.ref r]) u=_:=upd_same;let ac:=t3 _ _ (upd_same:Ja (Ja H3 p (.lst [])) r (.lst []) r=_);let gp:=t3 _ _ (C _ _ (upd_same:Ja H3 p (.lst []) p=_));let G:=t1.trans (C.trans t3)
  generalize Ja (Ja (Ja H3 p (.lst [])) r (.lst [])) u (.tup [V.ref p,V.ref r])=H4 at gu ac gp G
  let em:∀{z:Addr},H4 z<*[]->Has K H4 (.lst []) (.ref z):=λh=>%[_,_,rfl,Jb.of h|rfl]
  show%[[.lst [],.lst []],%[_,_,ρ,SqT.of (G _ _ ht),_,_,ρ,em (G _ _ h1),_,_,ρ,em (G _ _ h2)|ρ],[.lst [],.lst []],%[_,_,ρ,SqT.of gu,_,_,ρ,em gp,_,_,ρ,em ac|ρ],!1|k2 _ _ (ak λD3 k3 _=>ay λN hK=>?_)];let ae:=an.trans G;let a0:=((s2.trans s3).trans G) _ _ Y;lk;show%[_,Jb.of (ae _ _ hc)|λp hp=>%[%[_|Jb.of upd_same]|hK _ _ ?_]];rw[show(6:Int)=((6:Nat):Int)from rfl,Cs,show(nums as).take 6=(as.take 6).map λn:Nat=>V.int (n:Int)from(map_take ..).symm];let sp:=af.Ja (o:= .lst ((as.take 6).map λn:Nat=>V.int (n:Int))) hp;let gp:Ja H4 p (.lst ((as.take 6).map λn:Nat=>V.int (n:Int))) p=_:=upd_same;let sp:=ae.trans sp;let ag:=af.Ja (o:= .lst ((as.take 6).map λn:Nat=>V.int (n:Int))) hp _ _ a0
  generalize Ja H4 p (.lst ((as.take 6).map λn:Nat=>V.int (n:Int)))=H5 at sp gp ag
  show bV (λi l y=>(∃o,l=[!a,!b,!c,!F,o])/\af H5 y)
   %[%[_|rfl]|af.refl _] (λi l y h=>h.2 _ _ gp) ?_ ?_
  .intro i n l H6 hn %[%[o|rfl]|s6];let nm:=Yt (Z8 hn);let sp:=sp.trans s6;change mL _ _ _ _ [!a,!b,!c,!F,some (.int n)] H6;show aB λD4 k4 _=>?_
   lk;obtain⟨q,B⟩:∃q,qs[n]?∣q:=by
    obtain⟨o,_,h|h⟩:=I.ot n nm
    .let%[q,_,h|_]:=h;exact%[q|h]
    .let%[_,q,_,h|_]:=h;exact%[q|h]
   let qm:=Z8 B;show%[_,Jb.of (sp _ _ hb),_,bC (by rw[Zl,B];rfl),#[1]|λp' ai=>%[_,(af.Ja ai) _ _ (s6 _ _ ag),_,upd_same,by rw[Z6];exact aV (by change _+1<=_;lia)|λr d=>?_]];let C:=(af.Ja (o:= .lst [V.ref q.1]) ai).trans (af.Ja (o:= .lst ((lef qs as qs.length)\0 ++[V.ref q.1])) d);show%[_,a,r,cs,lef qs as qs.length++[q],ρ,(sp.trans C) _ _ ha,by rw[upd_same,Zd];rfl,(pk.up (sp.trans C)).sub (λz hz=>?_) (by rw[Z9];change _+1<=_;lia),ft _ (yo I λz hz=>?_)|λm H7 s7 kn=>%[?_|?_]]
   .rcases Xi hz with h|h
    .exact lm z h
    .rw[Xj h];exact qm
   .rw[Xj hz];exact qm
   .rfl
   .rw[Ea I nm B kn,if_neg ∅];exact k4 _ _ %[%[_|rfl]|s6.trans (C.trans s7)]
  .intro l H6 %[_|s6];show k3 _ _ ?_;lk;exact kk _ (sp.trans s6)
abbrev wdS(q:Addr×ZM):Str:=match q.2 with
 | .str w::_=>w
 | _=>Str.empty
abbrev ei(q:Addr×ZM):Bool:=inV (.str (wdS q)) [V.str "later",V.str "same"]
def mK{q:Addr×ZM}{w:Str}{r:ZM}(e:q.2= .str w::r):wdS q=w:=by
 unfold wdS;rw[e]
def GE{c:ZB}{q:Addr×ZM}(h:oU c q.2):(ei q=true/\∃w a b,q.2=[.str w,.str a,.str b])\/ei q=false/\∃w a y,q.2=[.str w,.str a,.int y]/\(w="since"\/w="by"):=by
 unfold ei;rcases h with⟨w,a,b,e,hw,_⟩|⟨w,a,y,e,hw,_⟩
 .show .inl %[?_,w,a,b|e];rw[mK e];rcases hw with rfl|rfl<;> decide +kernel
 .show .inr %[?_,w,a,y,e|hw];rw[mK e];rcases hw with rfl|rfl<;> decide +kernel
def Eb{S U:Str->Str->Prop}{qs:ZN}{L as:List Nat}{m ch:Nat->Nat}(M:Mat (Ew (CV S U) qs) L m)(d:∀x∈L,ch x=x\/ch x=m x)(q:∀i j,Ew (CV S U) qs i j->i∈L.map ch\/j∈L.map ch)(b:as.Perm (L.map ch)):Out (CV S U) qs as:=by
 let g:=hZ (S:=S) (U:=U) qs;show%[λi j e=>(q i j e).imp b.mem_iff.mpr b.mem_iff.mpr|λn r=>?_];let%[x,l|rfl]:=Xk (b.mem_iff.mp r);let ex:=M.ed x l;let nx:m x≠x:=λc=>by rw[c]at ex;exact g _ _ _ ex ex
 let p:∀o,(∀y∈L,ch y≠o)->o∉as:=λo h s=>by
  let%[y,a|e]:=Xk (b.mem_iff.mp s);exact h y a e
 rcases d x l with e|e
 .show%[m x,p _ λy a c=>?_|.inr (by rw[e];exact ex)];rcases d y a with f|f<;> rw[f]at c
  .exact g _ _ _ (M.ed y a) (c▸ex)
  .let:=M.inj y a x l c;subst this;exact nx (f.symm.trans e)
 .show%[x,p _ λy a c=>?_|.inl (by rw[e];exact ex)];rcases d y a with f|f<;> rw[f]at c
  .subst c;exact nx (e.symm.trans f)
  .exact g _ _ _ ex (c▸M.ed y a)
def jd{C:Type}{K:ZA}{l D:Addr}{us:List C}{f:C->V}{p:C->Bool}{H:Hp}{g:TG}{G:TT}{I:TE}{J:Hp->Prop}(M:H l<*us.map f)(L:H D=none)(T: ~~~us<=5000)
 (O:∀i (hi:i< ~~~us) o a,af H a->∀(R:St->V->Hp->Prop) (N:St->Hp->Prop),(∀o e,af a e->p us[i]=true->R [o] (f us[i]) e)->(∀o e,af a e->p us[i]=false->N [o] e)->g (f us[i]) [o] a λd E=>G d E λb q=>if b=true then I d q λy A=>R d y A else N d q)
 (Q:∀a,af H a->a D<*(us.filter p).map f->J a):
 ∃W:Nat->Nat->ZM->St->Hp->Prop,(∃m,W 0 m [] [none] (Ja H D (.lst [])))/\∀i m ys r a,W i m ys r a->((Itl K l).stop i a/\J a)\/
  ((Itl K l).go i a/\∀x e,(Itl K l).yld i a x e->g x r e λd E=>G d E λb q=>if b=true then I d q λy A=>∃zs s,A D<*zs/\ ~~~zs<sizeLine/\s<m/\W (i+1) s (ys++[y]) d (Ja A D (.lst (zs++[y])))
    else∃s,s<m/\W (i+1) s ys d q):=by
 let t:∀{j:Nat} (n:j< ~~~us),(us.take (j+1)).filter p=(us.take j).filter p++if p us[j]=true then [us[j]]else []:=λ{j} n=>by
  rw[X6,Z4 n,Y1];show congrArg _ ?_;cases c:p us[j]<;> simp[c]
 show dQ (λj ys B a=>(∃o,B=[o])/\af H a/\a D<*ys/\ys=((us.take j).filter p).map f) %[%[_|rfl],af.Ja L,upd_same|rfl] (λi ys B a h=>h.2.1 _ _ M) ?_ ?_
 .intro j ys B a n %[%[o|rfl],u,v|rfl];let le: ~~~(((us.take j).filter p).map f)<=5000:=by
   rw[Z6];let:=Ye p (us.take j);rw[Yh]at this
   lia
  show O j n o a u _ _ (λo e z c=>CK.mk n (z _ _ v) (aA le) %[%[_|rfl],af.set (u.trans z) L,upd_same|?_]) λo e z c=>CN.mk n %[%[_|rfl],u.trans z,z _ _ v|?_]
  .rw[t n,if_pos c,Zd];rfl
  .rw[t n,if_neg (by rw[c];exact Zt),Zy]
 .intro ys B a %[_,u,v|rfl];rw[Zn (Zi _)]at v;exact Q a u v
abbrev Emb(qs rs:ZN):Prop:=∃f:Nat->Nat,(∀i j,i< ~~~qs->j< ~~~qs->f i=f j->i=j)/\∀i,i< ~~~qs->rs[f i]? =qs[i]?
def Emb.trans{qs rs ts:ZN}(h:Emb qs rs)(k:Emb rs ts):Emb qs ts:=by
 let%[f,c|a]:=h;let%[g,k1|k2]:=k;let lt:∀i,i< ~~~qs->f i< ~~~rs:=λi hi=>by
  let:=a i hi;rw[Z4 hi]at this;exact(Xh this).1
 exact%[λi=>g (f i),λi j hi b e=>c i j hi b (k1 _ _ (lt i hi) (lt j b) e)|λi hi=>(k2 _ (lt i hi)).trans (a i hi)]
def pJ{qs rs:ZN}(p:qs.Perm rs):Emb qs rs:=by
 let%[f,g,a|_]:=tY p;exact%[f,λi j hi b e=>by rw[<-(a i hi).2.1,e,(a j b).2.1]|λi hi=>(a i hi).2.2]
def Emb.le{S U:Str->Str->Prop}{qs rs:ZN}{n c:Nat}(p:Emb qs rs)(k:Kon (Ew (CV S U) qs) n)(g:Kon (Ew (CV S U) rs) c):n<=c:=by
 let%[f,h|d]:=p;show xh (N:= ~~~qs) (f:=f) (hZ qs) k g (λi j=>kU) h λi j e=>?_
 let%[a|b]:=kU e;let%[q,r,l,m|w]:=e;exact%[q,r,by rw[d i a,l],by rw[d j b,m]|w]
def vT{S U:Str->Str->Prop}{rs:ZN}{i j:Nat}(h:Ew (CV S U) rs i j):∃q r,rs[i]?∣q/\rs[j]?∣r/\wdS q="since"/\wdS r="by":=by
 let%[q,r,c,e,a,b,d,x,y,z,f,g|_]:=h;exact%[q,r,c,e,mK f|mK g]
def kW{q:Addr×ZM}(h:ei q=true):wdS q≠"since"/\wdS q≠"by":=by
 unfold ei at h
 constructor<;> intro c<;> rw[c]at h<;> exact absurd h (!0)
def Cu{S U:Str->Str->Prop}{T:ZN}{q r:Addr×ZM}{n:Nat}(h:∀t∈T,ei t=true)(w:CV S U q.2 r.2)(k:Kon (Ew (CV S U) (T++[q,r])) n):n=1:=by
 let l:(T++[q,r])[~~~T]?∣q:=by rw[Y8 (Zi _),X4];rfl
 let b:(T++[q,r])[~~~T+1]?∣r:=by rw[Y8 (le_add_right _ _),Zv];rfl
 let f:Ew (CV S U) (T++[q,r]) T.length (~~~T+1):=%[q,r,l,b|w]
 show tU (c:= ~~~T) (hZ _) k f λi j e=> .inl ?_
 let%[x,y,a,o,g1|g2]:=vT e;let lt:=(Xh a).1;rw[Z9]at lt;by_cases c:i< ~~~T
 .rw[Y7 c]at a;exact absurd g1 (kW (h x (Z8 a))).1
 .by_cases d:i= ~~~T
  .exact d
  .let:i= ~~~T+1:=by simp only[Zr,length_nil]at lt;lia
   rw[this,b]at a;cases a;let%[_,_,p,g,_|m]:=vT f;rw[b]at g;cases g;rw[m]at g1;exact absurd g1 (!0)
def HL{S U:Str->Str->Prop}{qs T Y:ZN}{n L:Nat}(p:qs.Perm (T++Y))(M:∀t∈T,ei t=true)(l: ~~~(T++Y)<=100)(k:Kon (Ew (CV S U) qs) n)(k':Kon (Ew (CV S U) (T++Y++Y)) L):L=2*n:=by
 let%[f,g,m|E]:=tY p;rw[Z9]at l m E;let O:∀{i j:Nat} {rs},Ew (CV S U) rs i j->(∀{i q},i< ~~~T->rs[i]?∣q->q∈T)-> ~~~T<=i/\ ~~~T<=j:=λ{i j rs} e h=>by
  let%[q,r,f1,f2,g1|g2]:=vT e
  constructor<;> show Nat.le_of_not_lt λc=>?_
  .exact(kW (M q (h c f1))).1 g1
  .exact(kW (M r (h c f2))).2 g2
 let o:∀{i},i< ~~~T+ ~~~Y->(T++Y++Y)[i]? =(T++Y)[i]? :=λ{i} h=>Y7 (by rw[Z9];exact h)
 let u:∀{i},~~~T<=i->i< ~~~T+ ~~~Y->(T++Y++Y)[i+ ~~~Y]? =(T++Y)[i]? :=λ{i} h h'=>by
  rw[Y8 (by rw[Z9];lia),Y8 h,Z9];exact congrArg (Y[·]?) ⋯
 let Q:∀{i q},i< ~~~T->(T++Y)[i]?∣q->q∈T:=λ{i q} h e=>by
  rw[Y7 h]at e;exact Z8 e
 let G:∀{i j},Ew (CV S U) qs i j->Ew (CV S U) (T++Y) (f i) (f j):=λ{i j} e=>by
  let%[a|b]:=kU e;let%[q,r,v,y|w]:=e;exact%[q,r,(m i a).2.2.trans v,(m j b).2.2.trans y|w]
 let fy:∀{i j},Ew (CV S U) qs i j->(~~~T<=f i/\f i< ~~~T+ ~~~Y)/\ ~~~T<=f j/\f j< ~~~T+ ~~~Y:=λ{i j} e=>by
  let%[a|b]:=kU e;let%[c|d]:=O (G e) Q;exact%[%[c|(m i a).1],d|(m j b).1]
 show D0 (N:= ~~~qs) (f:=f) (g:=λi=>if f i< ~~~T then f i+1000 else f i+ ~~~Y) (hZ _) (hZ _) k k' (λi j=>kU) (λi j hi z e=>by rw[<-(m i hi).2.1,e,(m j z).2.1]) (λi j hi z e=>?_) (λi j hi z e=>?_) (λi j e=>?_) (λi j e=>?_) λa b e=>?_
 .let a:=(m i hi).1;let b:=(m j z).1;let:f i=f j:=by
   split at e<;> split at e<;> lia
  rw[<-(m i hi).2.1,this,(m j z).2.1]
 .let a:=(m i hi).1;let b:=(m j z).1
  split at e<;> lia
 .let%[%[s|A],B|H]:=fy e;let%[q,r,v,y|w]:=G e;exact%[q,r,(o A).trans v,(o H).trans y|w]
 .let%[%[s|A],B|H]:=fy e;let%[q,r,v,y|w]:=G e;show%[q,r,?_,?_|w]
  .rw[if_neg (Nat.not_lt.mpr s)];exact(u s A).trans v
  .rw[if_neg (Nat.not_lt.mpr B)];exact(u B H).trans y
 .let bk:∀{a q},~~~T<=a->(T++Y++Y)[a]?∣q->∃i,i< ~~~qs/\ ~~~T<=f i/\qs[i]?∣q/\(a=f i\/a=if f i< ~~~T then f i+1000 else f i+ ~~~Y):=λ{a q} h e=>by
   let lt:=(Xh e).1;rw[Z9,Z9]at lt;by_cases c:a< ~~~T+ ~~~Y
   .rw[o c]at e;let%[I,C|J]:=E a c;exact%[g a,I,by rw[C];exact h,J.trans e|.inl C.symm]
   .obtain⟨a,rfl⟩:∃a',a=a'+ ~~~Y:=%[a-Y.length|⋯]
    let s: ~~~T<=a:=by lia
    let A:a< ~~~T+ ~~~Y:=by lia
    rw[u s A]at e;let%[I,C|J]:=E a A;exact%[g a,I,by rw[C];exact s,J.trans e|.inr (by rw[C,if_neg (Nat.not_lt.mpr s)])]
  let%[s|B]:=O e λ{i q} h e=>Q h (by rw[<-o ⋯];exact e)
  let%[q,r,v,y|w]:=e;let%[i,_,_,i3|i4]:=bk s v;let%[j,_,_,j3|j4]:=bk B y;exact%[i,j,%[q,r,i3,j3|w],i4|j4]
def GF(xs:ZM):(rvI xs.length).filterMap (xs[·]?)=xs.reverse:=by
 let:=PySem.W.krv_all xs.toArray;unfold rvI;rw[PySem.W.krv_bounds];change(sliceRange ((~~~xs:Int) -1) (-1) (-1)).filterMap (xs[·]?)=_;rw[PySem.W.krv_sliceRange,PySem.W.krv_range,List.filterMap_reverse];exact congrArg List.reverse ↑this
def GG{H:Hp}{f:ZB}{qs rs:ZN}(g:cU H f qs)(i:∀q∈rs,q∈qs)(j:∀q∈qs.filter ei,q∈rs):SmT qs rs:=λwd a b=>by
 show%[λ⟨q,c,e⟩=>%[q,j q (List.mem_filter.mpr %[c|?_])|e]|λ⟨q,c,e⟩=>%[q,i q c|e]];rcases GE (g q c).2 with⟨h,_⟩|⟨_,w,x,y,d,_⟩
 .exact h
 .rw[e]at d;cases d
def GH{f:Addr}{fd:FuncData}(F:Fun K "law" "law" kH f fd)(T:Txt K mg):d9 P w K mg base CX0 12 f fd ["_law_script"] (pH K):=by
 show F.ok dX (by intro a b c d h;let%[_,_,rfl|_]:=h;rfl) (λes A outer s H vs Q E l h=>?_)
 .let%[a,ns,rfl,hs,ho,hn|kk]:=h;show%[_,%["JDI1G]1A0ACBD~PG]2A1BdML2ML3ML4eDI5~v~wA2A3BDOK~WG]3A5B[EHpPD~PG~uA5BdML6ML7eDOi%KnXYA6BXYA7B(xqG]4A2A3A6BEHpPD<8hgb?1S3V0?2uK~JQ0CmAcAcB0D<9hgb?1S3V0?2uK~1Q0CmAcAcB0DUS~B7~D'CdML:ML;eEOKnG~AA2AF;8TAR3_:AR3_;BBCEHpPDOKnG~AA2AF;]59+C8BXYA6BEHpPDOiwK>XYA9BC&KnG~AA2AF;F;899BFrCXYA6BEHpPDOK*G~AA2AF;8~B9~D'FWR1CFfXYA9BCBXYA6BEHpPDOKnG~AA2AF;8lb?1S9V0?2uKaQ0Cc0BCEHpPEHtaG~AA2AF;8lb?1S9V0?2uKaQ0Cc0BC",dX.nd,↑(["_law_saying_here"],[]),↑["_law_saying_here"]|l]|?_]
  change a9 _ _ _ [!a,none,none,none,none,none,none,none,none,none,none,none] H;show ak λD1 k1 _=>?_
  lk;show%[a,ns,86,ρ,hs,⋯,!1,!1|λl0 H0 xs s0 f0 h0 hx hb=>k1 _ _ (ak λD1 k1 _=>?_)];lk;show%[l0,xs,ρ,Jb.of h0,λu sm=>Jb.of (sm _ _ h0),hx,hb|λt l1 l2 l3 H1 ds qs s1 ft f1 f2 f3 eu ev ew ht h1 h2 h3 d1 d3 bb cl co v hq dy=>?_];let nm:((dcs ds).map λp=>p.2.1).Nodup:=by
   unfold dcs;rw[Yn];exact cl
  let dl: ~~~(dcs ds)= ~~~ds:=by unfold dcs;rw[Z6]
  let sub:∀ls:ZB,ls.Perm ((dcs ds).flatMap lyr)->∀x,x∈ls↔x∈(ds.flatMap λp=>(gY p.2)\1):=λls pl x=>by rw[xj pl,z6 bb]
  let cp:∀p∈dcs ds,zI p.2.2:=λp b=>by
   unfold dcs at b;let%[d,hd|rfl]:=Xk b;exact BS (bb d hd).2.2.2.2.2
  let dK: ~~~((dcs ds).flatMap lyr)<=32:=by
   let:=_ST.nodup_sub (kT nm (.refl _)) λx hx=>(sub _ (.refl _) x).mp hx
   lia
  let P1:fH H1 (dcs ds) qs:=%[co,nm,⋯,⋯,cp,⋯,λls p q ct=>%[(v q ct).1|(v q ct).2.mono λx=>(sub ls p x).mpr]|⋯]
  generalize (ds.flatMap λp=>(gY p.2)\1)=ex at h3 v sub dy
  generalize dcs ds=cs at h1 P1 sub dK
  clear co cp bb cl dl nm d1 d3 ho f0 hs;lk;show%[_,SqT.of ht,ρ,_,_,ρ,_,_,ρ,_,_,ρ,ρ|k1 _ _ (ak λD2 k2 _=>?_)];let ey:=P1.q20;lk;show λg dx fg dT ez=>tX fg dT h1 h2 P1 λH2 ls ts s2 gr pl tm=>k2 _ _ (ak λD3 k3 r3=>?_)
  lk;show%[g,qs,ls,ts,ρ,gr|λH3 lk s3 bc=>%[λnr=>?_|λr ws x fr eE tw eH er mw=>?_]]
  rotate_left
  .change ite _ _ _;rw[if_pos ∅];exact r3 _ _ (kk _)
  rw[if_neg ∅];let ft:∀rs,SmT qs rs->Fit (CV (a8 qs) (Up lk)) cs rs:=λrs h=>h.fit tm bc nr
  let bd:=ft qs λ_ _ _=>Iff.rfl
  let dV:=s2.trans s3;show k3 _ _ (ak λD4 k4 _=>?_);lk;show%[g,qs,ls,ts,ρ,gr.up s3,λlk hl=>(bd _ lk tm hl).1,⋯|λt4 a4 b4 H4 as L bs m ch cx cy s4 d0 an pa bf cM pb M ec cv=>?_];rw[(bd _ cx tm cy).2]at M cv;let ou:=Eb M ec cv pa;let kn:=tV M cv;let al: ~~~as= ~~~L:=by rw[pa.length_eq,Z6]
  let bl: ~~~bs= ~~~L:=by
   let:=pb.length_eq;rwa[Z6,Z6]at this
  generalize a8 qs=S at ft ou kn M bc
  generalize Up lk=U at ft ou kn M
  clear pa ec cv cy bd nr bc tm cx gr;show%[_,ρ,_,SqT.of d0,ρ,_,_,ρ,_,_,ρ,ρ|k4 _ _ (ak λD5 k5 r5=>?_)];let I:=dV.trans s4;lk;show%[~~~L,.inl %[_,Jb.of an|by unfold nums;rw[Z6,al]],~~~L,.inl %[_,Jb.of bf|by rw[Z6,bl]]|?_];rw[if_neg ∅];show%[S,U,l1,l2,a4,cs,qs,as,ρ,I _ _ h1,I _ _ h2,an,P1.up I,hq,ft,ou|λH5 s5=>%[true,ρ|k5 _ _ (ak λD6 k6 _=>?_)]];let bm:=I.trans s5;let one:∀{q:Addr×ZM} {u:Hp},q∈qs->af H5 u->∃w r,SqT K u q.1 (.str w::r)/\wdS q=w:=λ{q u} hq sm=>by
   let st:=SqT.of (K:=K) ((bm.trans sm) _ _ (v _ hq).1);rcases(v _ hq).2 with⟨w,x,y,e,_⟩|⟨w,x,y,e,_⟩<;> rw[e]at st
   .exact%[w,_,st|mK e]
   .exact%[w,_,st|mK e]
  lk;show az λab hK=>?_
  lk;let a0:=bm _ _ h2;show%[%[_|Jb.of a0]|hK _ _ λF hF=>?_];show jd (p:=ei) a0 hF ⋯ (λi hi o u sm R N r n=>?_) λH6 s6 c0=>k6 _ _ (ak λD7 k7 _=>?_)
  .let%[w,r',st|e]:=one (Ya hi) sm;lk;show%[_,st,_,bC (j:=0) rfl,#[2]|λp b=>%[_,.inr (SqT.of upd_same),ρ,ρ|?_]];let e:inV (.str w) [V.str "later",V.str "same"]=ei qs[i]:=by unfold ei;rw[e]
   rw[e];exact ba (λc=>r _ _ (af.Ja b) c) λc=>n _ _ (af.Ja b) ↑c
  lk;show az λab hK=>?_
  lk;let bn:=s6 _ _ a0;show%[%[_|Jb.of bn]|hK _ _ λG hG=>?_];show jd (p:=λq=>!ei q) bn hG ⋯ (λi hi o u sm R N r n=>?_) λH7 s7 bp=>k7 _ _ (ak λD8 k8 r8=>?_)
  .let%[w,r',st|e]:=one (Ya hi) (s6.trans sm);lk;show%[_,st,_,bC (j:=0) rfl,#[2]|λp b=>%[_,.inr (SqT.of upd_same),ρ,ρ|?_]];let e:inV (.str w) [V.str "later",V.str "same"]=ei qs[i]:=by unfold ei;rw[e]
   rw[e];exact ba (λc=>r _ _ (af.Ja b) c) λc=>n _ _ (af.Ja b) ↑c
  let c2:=bm.trans (s6.trans s7);let a1:=s7 _ _ c0;let pm:qs.Perm (qs.filter ei++qs.filter λq=>!ei q):=(List.filter_append_perm ei qs).symm;let len:=pm.length_eq;rw[Z9]at len;let hT:∀t∈qs.filter ei,ei t=true:=λt h=>(List.mem_filter.mp h).2
  let mT:∀t∈qs.filter ei,t∈qs:=λt h=>(List.mem_filter.mp h).1
  let mY:∀t∈qs.filter (λq=>!ei q),t∈qs:=λt h=>(List.mem_filter.mp h).1
  let c3:∀rs,(∀q∈rs,q∈qs)->(∀q∈qs.filter ei,q∈rs)->Fit (CV S U) cs rs:=λrs h1 h2=>ft rs (GG v h1 h2)
  generalize qs.filter ei=T at a1 pm len hT mT c3
  generalize (qs.filter λq=>!ei q)=Y at bp pm len mY
  let ac:∀{R:V->Hp->Prop} {Hx:Hp} {p:Addr} {rs:ZN},af H1 Hx->Hx p∣.lst (rs\0)->(∀q∈rs,q∈qs)->(∀q∈T,q∈rs)-> ~~~rs<=46->(∀n u,af Hx u->Kon (Ew (CV S U) rs) n->R (.int (n:Nat)) u)->tZ [.ref l1,.ref p] Hx R E0:=λ{R Hx p rs} sx b hm hT hl k=>
   %[CV S U,l1,p,cs,rs,rfl,sx _ _ h1,b,(P1.up sx).sub hm hl,c3 _ hm hT|k]
  let fl:∀p,~~~(Y.filter p)<= ~~~Y:=λp=>Ye p Y
  let inl:∀{us:ZN},∀q∈T,q∈T++us:=λq h=>Yp _ h
  let ai:∀{us:ZN},(∀q∈us,q∈qs)->∀q∈T++us,q∈qs:=λh q hq=>(Xi hq).elim (mT q) (h q)
  show ay λab hK=>?_
  lk;let bt:=s5.trans (s6.trans s7);show%[_,Jb.of (bt _ _ bf)|λp b=>%[%[_|Jb.of upd_same]|hK _ _ ?_]];rw[show(4:Int)=((4:Nat):Int)from rfl,Cs,<-map_take];let sp:=af.Ja (o:= .lst ((bs.take 4)\0)) b;let gp:Ja H7 p (.lst ((bs.take 4)\0)) p=_:=upd_same
  generalize Ja H7 p (.lst ((bs.take 4)\0))=H8 at sp gp
  let a2:=c2.trans sp;let bU:=bt.trans sp;show bV (λi σ u=>(∃o1 o2,σ=[!a,!l0,!l1,!l2,!l3,!g,!a4,!b4,!F,!G,o1,o2])/\af H8 u)
   %[%[_,_|rfl]|af.refl _] (λi σ u h=>h.2 _ _ gp) ?_ ?_
  .intro i t σ H9 d2 %[%[o1,o2|rfl]|s9];let tm:=Yt (Z8 d2);let%[x,hx|et]:=Xk (pb.mem_iff.mp (Xl %[t,tm|rfl]));let%[q,r,e1,e2|wt]:=M.ed x hx;let tt:=(bU.trans s9) _ _ (cM t tm);rw[<-et]at tt;let O:=a2.trans s9;show%[_,SqT.of tt,ρ,_,_,ρ,_,_,ρ,ρ|?_];change mL _ _ _ _ [!a,!l0,!l1,!l2,!l3,!g,!a4,!b4,!F,!G,some (.int (m x:Nat)),some (.int (x:Nat))] H9;show aB λD9 k9 _=>?_
   lk;show%[_,Jb.of (O _ _ h2),_,bC (by rw[Zl,e1];rfl),_,Jb.of (O _ _ h2),_,bC (by rw[Zl,e2];rfl),#[2]|λp' c4=>%[_,(af.Ja c4) _ _ ((sp.trans s9) _ _ a1),_,upd_same,by rw[Z6];exact aV (by change _+2<=_;lia)|λr' d4=>?_]];let t2:=(af.Ja (o:= .lst [V.ref q.1,V.ref r.1]) c4).trans (af.Ja (o:= .lst (T\0 ++[V.ref q.1,V.ref r.1])) d4);show ac (rs:=T++[q,r]) (O.trans t2) (by rw[upd_same,Zd];rfl) (ai λz hz=>?_) inl (by rw[Z9];change _+2<=_;lia) λn u s' kn=>%[rfl|?_]
   .rcases mem_cons.mp hz with rfl|hz
    .exact Z8 e1
    .rw[Xj hz];exact Z8 e2
   .rw[Cu hT wt kn,if_neg ∅];exact k9 _ _ %[%[_,_|rfl]|s9.trans (t2.trans s')]
  intro σ H9 %[%[o1,o2|rfl]|s9];show k8 _ _ (ak λD9 k9 r9=>?_);let O:=a2.trans s9;let b0:=(sp.trans s9) _ _ a1;let b1:=(sp.trans s9) _ _ bp;let b2:=(bU.trans s9) _ _ an;let c5:=(s1.trans O) _ _ h0;clear a1 bp sp gp a2 s9 bU c2 bt c0 a0 bn bf an cM pb M;let nl: ~~~(nums as)= ~~~L:=by unfold nums;rw[Z6,al]
  lk;show%[G,_,ρ,b1,ρ|λp b _=>%[p,ρ|?_]];rw[GF,<-List.map_reverse];let B:=af.Ja (o:= .lst (Y.reverse\0)) b;let g1:Ja H9 p (.lst (Y.reverse\0)) p=_:=upd_same
  generalize Ja H9 p (.lst (Y.reverse\0))=eN at B g1
  show%[_,g1,_,B _ _ b0,by rw[Z6,Z6,List.length_reverse];exact aV ⋯|λr l=>?_];let t2:=af.Ja (o:= .lst (Y.reverse\0 ++T\0)) l;let pv:qs.Perm (Y.reverse++T):=pm.trans (List.perm_append_comm.trans ((List.reverse_perm Y).symm.append_right T));show ac (rs:=Y.reverse++T) (O.trans (B.trans t2)) (by rw[upd_same,Zd]) (λq h=>pv.mem_iff.mpr h) (λq h=>Yq _ h) (by rw[<-pv.length_eq];lia) λn b3 c7 a3=>?_
  let en:n= ~~~L:=Nat.le_antisymm ((pJ pv.symm).le a3 kn) ((pJ pv).le kn a3);let C:=(B.trans t2).trans c7;show%[~~~L,.inl %[_,Jb.of (C _ _ b2)|nl.symm],ρ|?_];rw[en,if_neg ∅];let b5:=O.trans C;let b6:=C _ _ b0;let aj:=C _ _ b1;let b7:=C _ _ b2;let da:=C _ _ c5;show k9 _ _ (ak λd7 ea e0=>?_);clear B t2 C c7 b0 b1 b2 c5 l b g1;let go:∀ae,af b3 ae->d7.nx [!a,!l0,!l1,!l2,!l3,!g,!a4,!b4,!F,!G,o1,o2] ae:=λae ag=>by
   let b9:=b5.trans ag;let ca:=ag _ _ b6;let a5:=ag _ _ aj;let dd:=ag _ _ b7;let de:=ag _ _ da;clear b6 aj b7 da ag b5;show ea _ _ (ak λe3 a3 e4=>?_);lk;let%[c1,g1|_]:=fW xs (i:=1) (!1) ⋯;obtain⟨k,ek⟩:∃k:Nat,c1%((~~~Y:Int) +1)=k:=%[(c1%((~~~Y:Int) +1)).toNat|(Int.toNat_of_nonneg (Int.emod_nonneg _ ⋯)).symm]
   show%[_,Jb.of de,_,g1,~~~Y,.inl %[_,Jb.of a5|(Z6 _).symm],c1,ρ,⋯,_,Jb.of a5|λp b=>?_];rw[ek,Cs,<-map_take];let B:=af.Ja (o:= .lst ((Y.take k)\0)) b;let gp:Ja ae p (.lst ((Y.take k)\0)) p=_:=upd_same
   generalize Ja ae p (.lst ((Y.take k)\0))=eb at B gp
   let tl:=List.length_take_le k Y;let e5: ~~~(Y.take k)<= ~~~Y:=by rw[Yh];exact Nat.min_le_right _ _
   show%[_,B _ _ ca,_,gp,by rw[Z6,Z6];exact aV ⋯|λr l=>?_];let t2:=af.Ja (o:= .lst (T\0 ++(Y.take k)\0)) l;show ac (rs:=T++Y.take k) (b9.trans (B.trans t2)) (by rw[upd_same,Zd]) (ai λq h=>mY q (Yt h)) inl (by rw[Z9];lia) λn ed I eg=>?_
   let C:=(B.trans t2).trans I;let le:n<= ~~~L:=(Emb.trans (Cr (List.Sublist.append (List.Sublist.refl T) (take_sublist k Y))) (pJ pm.symm)).le eg kn;show%[~~~L,.inl %[_,Jb.of (C _ _ dd)|nl.symm],n,ρ|?_];rw[if_neg ↑le];let cd:=b9.trans C;let dk:=C _ _ ca;let ce:=C _ _ a5;clear B t2 C I ca a5 dd de l b gp b9;show a3 _ _ (ak λe6 eh fa=>?_);let wd:∀{q:Addr×ZM} {u:Hp},q∈Y->af ed u->∃w r,SqT K u q.1 (.str w::r)/\wdS q=w:=λ{q u} hq sm=>by
    let st:=SqT.of (K:=K) ((cd.trans sm) _ _ (v _ (mY q hq)).1);rcases(v _ (mY q hq)).2 with⟨w,x,y,e,_⟩|⟨w,x,y,e,_⟩<;> rw[e]at st
    .exact%[w,_,st|mK e]
    .exact%[w,_,st|mK e]
   lk;show az λab hK=>?_
   lk;show%[%[_|Jb.of ce]|hK _ _ λJ hJ=>?_];show jd (p:=λq=>decide (V.str (wdS q)=V.str "since")) ce hJ ⋯ (λi hi o u sm R N r n=>?_) λfb a6 dn=>%[J,rfl,_,a6 _ _ dk,_,dn,?_|λp b=>?_]
   .let%[w,r',st|e]:=wd (Ya hi) sm;lk;show%[_,st,_,bC (j:=0) rfl,ρ|?_];rw[<-e];exact ba (λc=>r _ _ (af.refl _) c) λc=>n _ _ (af.refl _) ↑c
   .rw[Z6,Z6];exact aV (by let:=fl (λq=>decide (V.str (wdS q)=V.str "since"));lia)
   let sE:=a6.trans (af.Ja (o:= .lst (T\0 ++(Y.filter λq=>decide (V.str (wdS q)=V.str "since"))\0)) b);show ac (rs:=T++Y.filter λq=>decide (V.str (wdS q)=V.str "since")) (cd.trans sE) (by rw[upd_same,Zd]) (ai λq h=>mY q (List.mem_filter.mp h).1) inl (by rw[Z9];let:=fl (λq=>decide (V.str (wdS q)=V.str "since"));lia) λn fc ej el=>%[rfl|?_]
   let n0:n=0:=pE el λi j e=>by
    let%[q,r,_,e2,_|g2]:=vT e;rcases Xi (Z8 e2)with h|h
    .exact(kW (hT r h)).2 g2
    .let:=V.str.inj (Zo (List.mem_filter.mp h).2);rw[g2]at this;exact absurd this (!0)
   rw[n0,if_neg ∅];let sF:=sE.trans ej;let em:=sF _ _ dk;let dp:=sF _ _ ce;show eh _ _ ?_;lk;show az λab hK=>?_
   lk;show%[%[_|Jb.of dp]|hK _ _ λJ hJ=>?_];show jd (p:=λq=>decide (V.str (wdS q)=V.str "by")) dp hJ ⋯ (λi hi o u sm R N r n=>?_) λfe a7 dr=>%[J,rfl,_,a7 _ _ em,_,dr,?_|λp b=>?_]
   .let%[w,r',st|e]:=wd (Ya hi) (sF.trans sm);lk;show%[_,st,_,bC (j:=0) rfl,ρ|?_];rw[<-e];exact ba (λc=>r _ _ (af.refl _) c) λc=>n _ _ (af.refl _) ↑c
   .rw[Z6,Z6];exact aV (by let:=fl (λq=>decide (V.str (wdS q)=V.str "by"));lia)
   let sG:=a7.trans (af.Ja (o:= .lst (T\0 ++(Y.filter λq=>decide (V.str (wdS q)=V.str "by"))\0)) b);show ac (rs:=T++Y.filter λq=>decide (V.str (wdS q)=V.str "by")) (cd.trans (sF.trans sG)) (by rw[upd_same,Zd]) (ai λq h=>mY q (List.mem_filter.mp h).1) inl (by rw[Z9];let:=fl (λq=>decide (V.str (wdS q)=V.str "by"));lia) λn fi a2 eo=>?_
   let n0:n=0:=pE eo λi j e=>by
    let%[q,r,e1,_,g1|_]:=vT e;rcases Xi (Z8 e1)with h|h
    .exact(kW (hT q h)).1 g1
    .let:=V.str.inj (Zo (List.mem_filter.mp h).2);rw[g1]at this;exact absurd this (!0)
   rw[n0];exact%[ρ|kk _]
  lk;show%[~~~Y,.inl %[_,Jb.of aj|(Z6 _).symm]|ba (λc=>?_) λ_=>go _ (af.refl _)];let c: ~~~Y<15:=by
   let:=Zo c
   lia
  show%[_,b6,_,aj,by rw[Z6,Z6];exact aV ⋯|λp b=>?_];rw[<-Zd];let B:=af.Ja (o:= .lst ((T++Y)\0)) b;let g1:Ja b3 p (.lst ((T++Y)\0)) p=_:=upd_same
  generalize Ja b3 p (.lst ((T++Y)\0))=ae at B g1
  show%[_,g1,_,B _ _ aj,by rw[Z6,Z6,Z9];exact aV ⋯|λr l=>?_];let t2:=af.Ja (o:= .lst ((T++Y)\0 ++Y\0)) l;show ac (rs:=T++Y++Y) (b5.trans (B.trans t2)) (by rw[upd_same,Zd (l₁:=T++Y)]) (λq h=>(Xi h).elim (ai mY q) (mY q)) (λq h=>Yp _ (inl q h)) (by rw[Z9,Z9];lia) λn eb ep eq=>?_
  let C:=(B.trans t2).trans ep;show%[~~~L,.inl %[_,Jb.of (C _ _ b7)|nl.symm],.inl %[!1|!1],ρ|?_];rw[HL pm hT (by rw[Z9];lia) kn eq,if_neg ∅];exact go _ C
end
abbrev dfm:= @FD
abbrev gvm:= @G9
def all_mk{l:PySem.W.OpenLaw}{w:World}{K:ZA}{h:Heap}{mg:ZC}{fa af:Addr}(X:K.In h)(G:h.Ns mainGlobals mg)(hfa:mg "law"=some (.ref fa))
 {bc ao:ZI} {bd:ZK} {be aq ar au ag av:Value}
 (F:Txc K mg->Txt K mg)
 (bf:nsIn K mainGlobals "law"=some (some (.ref af))) (bg:K.lookup af=some %[be,bc,.func (fnOf "law" "law" (c8 kH) (bY kH) (ap kH) .none aq ar au ao ag av)|bd]) (bh:codeIn K ag "law"=true) (bi:keepIn K (.ref af)=true)
 {aa:Addr}
 (aw:nsIn K mainGlobals "Ground"=some (some (.ref aa)))
 (bj:plainGet K aa Str.empty=true)
 (bk:hasDictIn K aa=true)
 (bl:plainOver K aa=true)
 (bm:findIn K (.ref aa) "__setattr__"=some (some (.builtin "object.__setattr__")))
 (bn:findIn K (.ref aa) "kept_cuts"=some none)
 (bo:findIn K (.ref aa) "kept_sayings"=some none)
 (bp:findIn K (.ref aa) "kept_layers"=some none)
 (bq:findIn K (.ref aa) "kept_ties"=some none)
 {ab:Addr} {br bs:ZI} {bt:ZK} {bu bv bw bx ax bz:Value}
 (b0:findIn K (.ref aa) "__init__"=some (some (.ref ab)))
 (ay:K.lookup ab=some %[bu,br,.func (fnOf "__init__" "Ground.__init__" (c8 bW) (bY bW) (ap bW) .none bv bw bx bs ax bz)|bt])
 (az:codeIn K ax "Ground.__init__"=true)
 (a0:keepIn K (.ref ab)=true)
 (b1:isFn K (.ref ab)=true)
 (b2:makesIn K aa=true)
 (b3:keepIn K (.ref aa)=true)
 {ac:Addr} {b4 b5:ZI} {b6:ZK} {b7 b8 b9 ca a1 cb:Value}
 (cc:findIn K (.ref aa) "sayings"=some (some (.ref ac)))
 (a2:K.lookup ac=some %[b7,b4,.func (fnOf "sayings" "Ground.sayings" (c8 cg) (bY cg) (ap cg) .none b8 b9 ca b5 a1 cb)|b6])
 (a3:codeIn K a1 "Ground.sayings"=true)
 (ah:keepIn K (.ref ac)=true)
 (cd:isFn K (.ref ac)=true)
 {ad:Addr} {ce cf:ZI} {ch:ZK} {ci cj ck cl a4 cm:Value}
 (cn:findIn K (.ref aa) "layers"=some (some (.ref ad)))
 (a5:K.lookup ad=some %[ci,ce,.func (fnOf "layers" "Ground.layers" (c8 cu) (bY cu) (ap cu) .none cj ck cl cf a4 cm)|ch])
 (a6:codeIn K a4 "Ground.layers"=true)
 (ai:keepIn K (.ref ad)=true)
 (co:isFn K (.ref ad)=true)
 {ae:Addr} {cp cq:ZI} {cr:ZK} {cs ct cv cw a7 cx:Value}
 (cy:findIn K (.ref aa) "ties"=some (some (.ref ae)))
 (a8:K.lookup ae=some %[cs,cp,.func (fnOf "ties" "Ground.ties" (c8 c6) (bY c6) (ap c6) .none ct cv cw cq a7 cx)|cr])
 (a9:codeIn K a7 "Ground.ties"=true)
 (aj:keepIn K (.ref ae)=true)
 (cz:isFn K (.ref ae)=true)
 {ba:Addr} {ak:Obj} {al:ZJ} {c0:Nat}
 (c1:nsIn K mainGlobals "YEAR_WORDS"=some (some (.ref ba)))
 (c2:K.lookup ba∣ak)
 (c3:ak.cls= .type "tuple")
 (c4:ak.data= .seq al c0)
 (c5:al.size<=sizeLine)
 (c7:aF [.str "since",.str "by"] al.toList)
 {bb:Addr} {am:Obj} {an:ZJ} {c9:Nat}
 (da:nsIn K mainGlobals "LAYER_WORDS"=some (some (.ref bb)))
 (db:K.lookup bb∣am)
 (dc:am.cls= .type "tuple")
 (dd:am.data= .seq an c9)
 (de:an.size<=sizeLine)
 (df:aF [.str "later",.str "same"] an.toList)
 :∃fd:FuncData,(∀(s:Shared) (v:Value),BindsTo s fd %[[v]|[]] [("_law_script",v)])/\∀base:Heap,K.In base->base.Ns mainGlobals mg->d9 l.prog w K mg base CX0 12 fa fd ["_law_script"] (pH K):=by
 let e:=hfa.symm.trans (mg_of X G bf);cases e;let dg:=Ds (mg_of X G aw);subst dg;let T:Txt K mg:=F %[%[mg_of X G aw,bj,bk,bl|bm],
  bn,
  bo,
  bp,
  bq,
  %[ab,_,%[b2,b0,b1|b3],eK ay az a0|(eK ay az a0).binds (by room)],
  %[ac,_,%[cc,cd|ah],eK a2 a3 ah|(eK a2 a3 ah).binds (by room)],
  %[ad,_,%[cn,co|ai],eK a5 a6 ai|(eK a5 a6 ai).binds (by room)],
  %[ae,_,%[cy,cz|aj],eK a8 a9 aj|(eK a8 a9 aj).binds (by room)],
  Bv X G c1 c2 c3 c4 c5 c7|
  Bv X G da db dc dd de df]
 exact%[fnOf "law" "law" (c8 kH) (bY kH) (ap kH) .none aq ar au ao ag av,λs v=> .of_eq rfl|λbase _ _=>GH (eK (st:=kH) bg bh bi) T]
def walk{l:PySem.W.OpenLaw}{q:Program}{b:ZB}{j:(Str->Option Value)->Heap->Prop}{e:World->Heap->Prop}{d:DefRec}{K:Params->ZA}(m:l.most∣63)(c:d.params.defaults=[])
 (o:∀(w:World) (h:Heap),e w h->(K w.params).In h)
 (F:∀(w:World) (mg:ZC) (g:Addr) (h:Heap),(K w.params).In h->h.Ns mainGlobals mg->mg d.name∣.ref g->
  ∃i:FuncData,(∀(s:Shared) (u:Value),BindsTo s i %[[u]|[]] [("_law_script",u)])/\∀base:Heap,(K w.params).In base->base.Ns mainGlobals mg->d9 l.prog w (K w.params) mg base CX0 12 g i ["_law_script"] (pH (K w.params))):
 PySem.W.WalkO q b j e l.row.toRowW d [] (λf vs=>PySem.call f vs):=
 _LL.walk_of (n:=63) (k:=12) (x:="_law_script") (CX:=λ_=>CX0) (sp:=λw=>pH (K w.params)) m (!1) c %[rfl,!1,!1|rfl] o F (λ_ _ a p r t v=>%[a,p,rfl,v,t,r|λ_=>rfl]) λ_ _ _ _ _ z=>z
end _KK
end
open PySem PySem.W PyProof.Rows
set_option maxRecDepth 100000 in
theorem PySem.Challenge.cw_digbook_k82_whole_left_out_holds : PySem.Challenge.rw_digbook_k82_whole_left_out.Holds := by
 w_on;o_law;k_head;(case hw=>w_witness2)
 k_fill
 refine _KK.walk (l:=PySem.Challenge.rw_digbook_k82_whole_left_out) rfl rfl (λw h Y=>PySem.W.kIn_of Y) ?F
 case F=>
  intro w mg fa h KX G hmg;apply _KK.all_mk KX G hmg
  (case F=>
   intro C
   constructor
   exact C
   all_goals first|exact PySem.W.mg_none_of KX G (by k_is)|(refine' _KK.gvm KX G ?z ?r;(case z=>k_is);(case r=>exact⟨_,rfl⟩))|(refine' _KK.dfm KX G ?a ?l ?c ?k ?b;(case a=>k_is);(case l=>k_is);(case c=>k_is);(case k=>k_is);(case b=>intro _ _ _ _ _ _;(repeat(refine _KK.zq1 λ_=>?_));exact _KK.zq0 rfl)))
  any_goals first|k_is|rfl|decide|exact .cons ⟨_,rfl⟩ (.cons ⟨_,rfl⟩ (.nil))
