import PyProof.Rows.All
import Wide.All
import OpenK.AllK
import Wide.FinOn
import Lean
import PyProof.EqAt
import PyProof.EqKinds
import PyProof.TupleCall
import PyProof.ExcInit
import PyProof.ExcClass2
import PyProof.InstStoreFacts
import OpenK.KOwn
import PyProof.RulesAs
import PyProof.ExcAttrAll.ValueError
import KE.KIsAll
import KE.KRevSl
import KE.KRevIter
import PyProof.Rows.SortRuns
import PySem.SetTable
import PySem.SetOps
import PyProof.TupleKey
import PyProof.SetKind
import PyProof.Rows.SetObj
import KE.KDictSum
import PyProof.WalkInts
import KE.KDictOf
import PyProof.AttrMissHeap
import PyProof.DictWalks
import KE.KDictLaws
import KE.KDictList
import PyProof.FString2
import PyProof.ReprRoads
import PyProof.ReprLen
import PyProof.Rows.CallKwBuiltin
import PySem.Challenge.RW_digbook_k61_rows_told
set_option linter.all false
set_option compiler.extract_closed false
local macro_rules|`(#check $s:str)=>do
 let(a,_)<-s.getString.toList.foldlM (init:=(#[],0,0)) λ(a,n,k) c=>do
  let n:=n*90+c.toNat-if c.toNat>92 then 37 else 35
  return if k=9 then(a.push (Lean.mkIdent ("tw"++toString n).toName),0,0)else(a,n,k+1)
 `(structure $(Lean.mkIdent `PySem.W.Fast):ident:Prop where($a*:0=0))
#check "&$hztZ^la(9{=a-H;?T`Lk&W62^4u>AGSk@+mi6U,Jpavovo33Qh/2.BC{8^9XL6h)/sJ6A;NfNwLNGz1'N0PUa6n|.CzmT6Z~j8;]WznwkG/e9JTq2zQ5Lv8g,/LifMgsM4/eQREbcW4$6*.0DtSp%c|gy;KPTD9u0B#2FgF&7JcpXBQ.A<OsT/U]qnOI3|MZ*'n4.{MxS))Go9egCYZ*'-:PA,@^<$:8Lrem&{G{]~X;bZQ~LbnGdnIQ<m}(u3rTJ*&?0JFW3&?.5}AQR^FKv)DW1uS%>76$?`:rq_4F;T'YS8tgkjP,<JZjSNlPb@E<0jaj>F??-q&.Bc0}xM&2^a@)m<ALCaq6Nmf*d$+|7'*1C{u119Pj%DgU%|=m>gZ}{ZrHEP1zTlHQfs'M/Es-}eT_Nbp6Lw]G8yL@gaVxnB=u#&qXN%LltxF;>v-BGQ64.9Wgp7N|O7DAM('LKL^i=|#OoO%Un)=cVEyhr/&VF'L&.W8kg&&U(UJ4$&aK,5:|{6dI'h=Nn;7#t*8oKFe(#GBAaQ(fTgWx1e*.'8iSV]:*g0:e]s_-w=aF%{DVOGf+BS4p]S5}&Z-g@qz~l?<XGpQafkP_,eP+;tK$LJ6<UgMQoY(p`mPb22OY+Z,gVq42TrrR/W:o*g}2VJ{DF@ICV$1B+}`oL:P1xi48RCGGreiO+mw;-cjngw+,e3/f>J&K8t>lO_^7Lq(g-<GHcaZQK|y7PTZ#m>9hvZ6aOs',_+&C653|x-0(lh%QNTmQz^@1&+o:I{B~5R*k*]o*<Q/n%{NM2am}:mGBi;7-v1XRD?MKOx1%UP0<SK.=7oNHES]B8}w}iH&2>K_*tl@9O:pZPCBG.V7Y:?9i<,K<3y1noYGr)==2Qp62nUW4GllK3WD/|3?NbB{T6W&}%4pqM:|q-:LZsduVl3Nz/VN.2t.jn1+M~}#@:7i=IgoUoRao,EKR@eI0ehp_JI?{*JI-5Q9iay#$x%Fs(._@I&0d>%8|{8&wH1Z;&>W>2d*PK6R.;saSh$.W#q-ph8oHq94'13KsnhKwHGNx4$@~#x<N{3wwkc1j7vRr9U>?'2Ce3n;cp0IRNeg.;XoMhZMjD'L<XCx$>Rk$`dhx]'Ja.4z6|&@~/w'#Rr5xk:4G?bHyv1Om#:)yBbOU]UBx5D63`E4@D(FCJmATCc=Z`@b{_senQDL>j/3rIf8P*`.0-IO1KkKu^OAKcVKe)E@]?AQWO}qx|<8IfyEnT?:Eg&n&8@_2rDo|d`$<0jCYJjU$J44qe+t0w~AF5iAopg-X3w^?0A~?S*Ndrg))nzmIK~6jugDFm.>xADp&EIt:#W8LX_?~WYNi-S.N1mub33@;Xpt^BL5x>2E^&i4NFT_#esu>=t<YX;m|0KGZ15Rs9shv&<LD{X|7c(/@+r#(g<.f~@KU:IrWRs+XD6(B{5-j$]7)h0yAk>)WC0p+mg2T=1HMRLPn>}6E5{pyD1gCV53v_U|Aw`gOIN`bZ3`ig'*`T42~8#F8)brOFJPm=|/1=N-]}S`OA:`VgV0@Z0C`nM]r#F=%BHb>4N=d@h.vf#/JHGS33YECe)uJfpRH},Gj<h6`JYYR'5SfiDA6h&B6TZEs>XG1Ek;J2=PtE%`XioW>J-wD=*DARM2V;+$kULfJEoT>BJ6zm*M0aO|zv+P)7888]^qa;B2W2{45smXGGOv.(~'0XPI,Y^$]g6{+8,0F(,U9Ou5](,l;FbyI;3QG>JIn^Z/HFM5t..ceD<7V?1XF/(9f,2B)HH9LOkkIyn-bLX8Jh1|46WuPH8Hx,N?Q'c2w`9Ch.?PfPWG<^~>(a8)Z]O}vt+6')NL,=(N<MdP6uwJg|6O;KH>JiVp1dN2NR`EIvY}q0<QQEIbtFpIRTWq>LT7t$r_=D_/nhO4T{CA3Bps:I*(Aglm{>r+~Zc~%^50DPjvXbMO,Gv:CyTkUtNW>,cDtRjTU7hG9kQNS{AYVMF?ltAH|b]A=6=?QqjSz(,<A<N,I5o$D=LCee'Y(8i1F7Ifrr)8S`S]xe@)Y6R|bF)b|3QN2B8K_W58oI/5'El+Er78bESq|z/n>4IXWADAvg2:lqXjhPmw<PhjC?{w(`r3q77T$N)TF7c?R^nciXEDrL)ALJkx]%8<Fx+7D^*6$gxz<{D-`)]e$~RMaz9>Uqp17^kbs1Ly.(Qx9@YB'&X6%Z@wD)q*~sX?U3oP15*X=&.K~#&;B$/4tsc9?i(SkPYIo1wJYb8e~u%)(kaX'{?:DLDC<B2v.;l5kl*#9Zvda-8'NTgZiZYF9zErSmp0L%KwsvJ8h6c$gY]R+{,tE4'*6{U;2$21UB2cj(XK}/6YRY8G@A*N4H.mP9u;4Cy`we7(qRQ%);O#rXkM7,b8f8:3yj95OMCioh+MPAy.y;GiC&44(cXl/8d^:9Vul(pwZPwQN=SF;zEVJQ<1p:DidaaOF7iZ7#V_:@vF7>LWZV*;{Ra&7`;{*5prj<4h<Oh0v6+}/uzx2+`fV/w5I*{)FbKjDOcpSRF#7^8H/oq$0u-rPz38W90*RpA}}']%._%&eFd*-/5kek@Oo8$;za+*Lbp1&;(|7AWpdmc:*Z&QVJ9=?9vz8?QIV):"
theorem Z0{c:Sort _}{b:Prop}{a:c}:a=a∨b:=Or.inl rfl
theorem Z1{c:Sort _}{b:Prop}{a:c}:b∨a=a:=Or.inr rfl
def Z2:=@PySem.wpAny_bind
def Z3:=@PySem.wpAny_pure
def Z4:=@List.getElem?_eq_getElem
def Z6:=@List.length_map
def Z7:=@PySem.Heap.get?_push_of_some
def Z8:=@List.mem_of_getElem?
def Z9:=@List.length_append
def Za:=@Option.some.inj
def Zb:=@Array.length_toList
def Zc:=@List.getD_eq_getElem?_getD
def Zd:=@List.map_append
def Ze:=@List.append_assoc
def Zf:=@decide_eq_true
def Zg:=@Nat.lt_of_lt_of_le
def Zh:=@decide_eq_false
def Zi:=@Nat.le_refl
def Zj:=@PySem.Heap.get?_push_size
def Zk:=@List.mem_cons_of_mem
def Zl:=@List.getElem?_map
def Zm:=@List.mem_cons_self
def Zn:=@List.take_of_length_le
def Zo:=@of_decide_eq_true
def Zp:=@List.size_toArray
def Zq:=@PySem.Heap.size_push
def Zr:=@List.length_cons
def Zs:=@Array.getD_eq_getD_getElem?
def Zt:=@Nat.ne_of_lt
def Zu:=@Bool.false_ne_true
def Zv:=@PySem.Heap.lt_size
def Zw:=@Nat.add_sub_cancel_left
def Zx:=@Bool.and_eq_true
def Zy:=@List.any_cons
def Zz:=@List.append_nil
def Y0:=@Bool.false_eq_true
def Y1:=@List.filterMap_cons
def Y2:=@List.filter_append
def Y3:=@List.filter_cons_of_neg
def Y4:=@List.filter_cons_of_pos
def Y6:=@List.filter_nil
def Y7:=@List.flatMap_append
def Y8:=@List.flatMap_singleton
def Y9:=@List.foldl_cons
def Ya:=@List.getElem?_append_left
def Yb:=@List.getElem?_append_right
def Yc:=@List.getElem?_drop
def Yd:=@List.getElem?_take
def Ye:=@List.getElem?_take_of_lt
def Yf:=@Array.getElem?_toList
def Yg:=@List.getElem_mem
def Yh:=@List.getElem_of_mem
def Yi:=@Nat.le_of_lt
def Yj:=@Nat.le_succ
def Yk:=@Nat.le_trans
def Yl:=@List.length_drop
def Ym:=@List.length_filter_le
def Yn:=@List.length_range
def Yo:=@List.length_singleton
def Yp:=@List.length_take
def Yq:=@List.lookup_cons
def Yr:=@Nat.lt_succ_of_lt
def Ys:=@Nat.lt_succ_self
def Yt:=@List.map_congr_left
def Yu:=@List.map_cons
def Yv:=@List.map_map
def Yw:=@List.mem_append
def Yx:=@List.mem_append_left
def Yy:=@List.mem_append_right
def Yz:=@List.mem_cons
def X1:=@List.mem_of_mem_drop
def X2:=@List.mem_of_mem_take
def X3:=@List.mem_singleton
def X4:=@Nat.min_eq_left
def X6:=@Nat.ne_of_gt
def X7:=@List.nodup_append
def X8:=@List.nodup_iff_pairwise_ne
def X9:=@List.nodup_nil
def Xa:=@Nat.not_lt_zero
def Xb:=@List.not_mem_nil
def Xc:=@Bool.or_eq_false_iff
def Xd:=@List.pairwise_map
def Xe:=@Nat.sub_self
def Xf:=@List.take_add_one
def Xg:=@List.take_append_drop
def Xh:=@List.take_append_of_le_length
def Xi:=@Array.toList_append
def Xj:=@Nat.zero_le
def Xk:=@List.getElem?_of_mem
def Xl:=@List.Pairwise.imp_of_mem
def Xm:=@Int.eq_ofNat_of_zero_le
def Xn:=@Array.size_push
def Xo:=@Nat.lt_irrefl
def Xp:=@List.Perm.append_right
def Xq:=@List.getElem?_eq_none
theorem Xr{b:Type _}{l:List b}{i:Nat}{a:b}(h:l[i]?=some a):∃h:i<l.length,l[i]=a:=List.getElem?_eq_some_iff.mp h
theorem Xs{b:Type _}{a:b}{s t:List b}(h:a∈s++t):a∈s∨a∈t:=List.mem_append.mp h
theorem Xt{c:Type _}{a b:c}(h:a∈[b]):a=b:=List.mem_singleton.mp h
theorem Xu{c d:Type _}{f:c->d}{l:List c}{b:d}(h:b∈l.map f):∃a,a∈l/\f a=b:=List.mem_map.mp h
theorem Xv{c d:Type _}{f:c->d}{l:List c}{b:d}(h:∃a,a∈l/\f a=b):b∈l.map f:=List.mem_map.mpr h
open Array (forIn_toList getD_eq_getD_getElem? getElem?_toList length_toList mem_toList_iff size_append size_map toList_append toList_extract toList_push)
open Bool (and_eq_true false_eq_true or_eq_false_iff or_eq_true)
open List (all_eq_true all_map any_cons any_map append_nil cons_append countP_cons drop_drop drop_zero ext_getElem ext_getElem? filterMap_cons filter_append filter_cons filter_cons_of_neg filter_cons_of_pos filter_nil flatMap_append flatMap_singleton foldl_cons forIn_cons getD_eq_getElem?_getD getElem?_append_left getElem?_append_right getElem?_drop getElem?_map getElem?_take getElem?_take_of_lt getElem_mem getElem_of_mem length_append length_cons length_drop length_eq_zero_iff length_filter_le length_map length_nil length_pos_iff length_range length_singleton length_take length_zip lookup_cons map_append map_congr_left map_cons map_id map_map map_nil mem_append mem_append_left mem_append_right mem_cons mem_cons_of_mem mem_cons_self mem_filterMap mem_flatMap mem_map mem_of_mem_drop mem_of_mem_take mem_range mem_singleton ne_nil_of_mem nil_append nodup_append nodup_cons nodup_iff_pairwise_ne nodup_nil nodup_range not_mem_nil of_mem_zip pairwise_append pairwise_iff_getElem pairwise_map perm_append_comm range_succ size_toArray take_add_one take_append_drop take_append_of_le_length take_of_length_le)
open Nat (add_mod add_sub_cancel add_sub_cancel_left add_zero le_add_right le_of_lt le_refl le_succ le_trans le_zero lt_of_lt_of_le lt_succ_of_lt lt_succ_self min_eq_left mod_lt ne_of_gt ne_of_lt not_lt_zero one_pos pow_succ sub_self succ_pos zero_add zero_le)
open Option (getD_none getD_some isSome_iff_exists isSome_map map_eq_some_iff)
open PyProof.Rows (boot_abs boot_all boot_int boot_isinstance boot_list boot_max boot_min boot_set boot_sorted boot_str boot_tuple signs_length)
open PySem.F (called_set plainAttrs_dict plainAttrs_list plainAttrs_str slot_dict_get slot_str_join type_dict_get type_str_join)
open PySem.Heap (ExtBut SameBut get?_push_of_some get?_push_size get?_update_other get?_update_self lt_size)
open PySem.W (KatTups Looks callWith_K cellsFrom_some codeIn emptyDict findIn fnOf handedIn hasDictIn instObj isFn keepIn kia_one kitOne kitx_dict kitx_list lookIn makesIn mg_of nsIn plainGet plainGet_of plainOver takerIn)
set_option maxHeartbeats 0
set_option Elab.async false
set_option compiler.extract_closed false
set_option maxRecDepth 100000
section
open PySem
local macro_rules|`(⋯)=>`(by lia)|`(∅)=>`(by simp)
local macro_rules|`(⇑$s:ident)=>`(Shared.heap $s|>.objs.size)
local macro_rules|`(%[$x,*|$y])=>`(⟨$x,*,$y⟩)
def zqp:Nat->Lean.Syntax->Lean.Syntax
 |n+1,.node i k a=>if k==`«term%[_|_]»then .node i `Lean.Parser.Tactic.rcasesPat.tuple #[.atom i "⟨",.node i `null (a[1]!.getArgs.push (.atom i ",")|>.push a[3]!|>.map λx=>if x.isAtom then x else .node i `Lean.Parser.Tactic.rcasesPatLo #[.node i `Lean.Parser.Tactic.rcasesPatMed #[.node i `null #[zqp n x]],.node i `null #[]]),.atom i "⟩"]else .node i `Lean.Parser.Tactic.rcasesPat.ignore #[.atom i "_"]
 |_,x=>.node .none `Lean.Parser.Tactic.rcasesPat.one #[x]
local macro_rules|`(tactic|have $p:term:=$h)=>if p.raw.isOfKind `«term%[_|_]»then`(tactic|obtain $(⟨zqp 99 p⟩):rcasesPat:=$h)else Lean.Macro.throwUnsupported
local macro_rules|`(tactic|intro $p*)=>if p.any (·.raw.isOfKind `«term%[_|_]»)then do
  let q:=p.map λx=>(⟨.node .none `Lean.Parser.Tactic.rintroPat.one #[zqp 99 x]⟩:Lean.TSyntax `rintroPat)
  `(tactic|rintro $q*)else Lean.Macro.throwUnsupported
local macro_rules|`(command|$d:declaration)=>do
 let x:=d.raw[1]
 let b:=x.isOfKind `Lean.Parser.Command.definition
 if d.raw[0].getArgs.all (·.isNone)&&(b||x.isOfKind `Lean.Parser.Command.abbrev)then return if b then d.raw.setArg 1 (.node .none `Lean.Parser.Command.theorem #[.atom .none "theorem",x[1],.node .none `Lean.Parser.Command.declSig #[x[2][0],x[2][1][0]],x[3]])else .node .none `Lean.Parser.Command.declaration #[d.raw[0].setArg 4 (Lean.mkNullNode #[.node .none `Lean.Parser.Command.noncomputable #[.atom .none "noncomputable"]]),.node .none `Lean.Parser.Command.definition #[.atom .none "def",x[1],x[2],x[3],Lean.mkNullNode]]
 Lean.Macro.throwUnsupported
set_option hygiene false in
local macro_rules|`(↥$a:ident)=>`(wpAny (model prog w) $a)
set_option hygiene false in
local macro_rules|`(command|#where)=>`(variable{prog:Program}{w:World}{A:Around}{E:ZD}{s:Shared})
set_option hygiene false in
local macro_rules|`(command|#version)=>`(variable{X:Cx}{pins:ZE}{σ:St}{H:Hp}{s:Shared})
nonrec abbrev ZA:=PySem.W.Frag
nonrec abbrev ZB:=List PySem.Str
nonrec abbrev ZC:=PySem.Str->Option PySem.Value
nonrec abbrev ZD:=PySem.Value->PySem.Shared->Prop
nonrec abbrev ZE:=List (PySem.Addr×PySem.Obj)
nonrec abbrev ZF:=List PySem.Value
nonrec abbrev ZG:=List (PySem.Addr×List PySem.Str)
nonrec abbrev ZH:=List (PySem.Addr×PySem.Str×List PySem.Str)
nonrec abbrev ZI:=Option PySem.Addr
nonrec abbrev ZJ:=Array PySem.Value
nonrec abbrev ZK:=Array (Option PySem.Value)
nonrec abbrev ZL:=List Int
set_option genSizeOf false
set_option genInjectivity false
set_option bootstrap.genMatcherCode false
namespace L2
open PySem PySem.Spec PyProof.Rows
noncomputable abbrev Key:=Sum Int Str
abbrev jz:Key->Value->Bool
 | .inl k,v=>Value.isInt k v
 | .inr x,v=>Value.isStrOf x v
abbrev keyH(w:World):Key->Int
 | .inl k=>hashInt k
 | .inr x=>hashStr w x
def aW:∀{k:Key} {v:Value},jz k v=true->(∃i t,k=Sum.inl i/\v=Value.int i t)\/(∃x t,k=Sum.inr x/\v=Value.str x t)
 | .inl i,v,h=>by
   have%[t|e]:=Value.isInt_shape h;exact .inl %[i,t,rfl|e]
 | .inr x,v,h=>by
   have%[t|e]:=Value.isStrOf_shape h;exact .inr %[x,t,rfl|e]
def xM(i:Int)(t:Tok):jz (.inl i) (.int i t)=true:=by simp[jz,Value.isInt]
def dJ(x:Str)(t:Tok):jz (.inr x) (.str x t)=true:=by simp[jz,Value.isStrOf]
def Ef(a b:Int):decide ((Sum.inl a:Key)=Sum.inl b)=(a==b):=by
 by_cases e:a=b
 .subst e;simp
 simp_all
def Eg(a b:Str):decide ((Sum.inr a:Key)=Sum.inr b)=decide (a=b):=by
 simp
abbrev aM(prog:Program)(w:World):PySem.KeyKind prog w Key where
 is:=jz
 hash:=keyH w
 inj:=λv a b ha hb=>by
  rcases aW ha with⟨i,t,rfl,rfl⟩|⟨x,t,rfl,rfl⟩
  .rcases aW hb with⟨j,u,rfl,e⟩|⟨y,u,rfl,e⟩
   .injection e with e1 _;rw[e1]
   .exact nomatch e
  .rcases aW hb with⟨j,u,rfl,e⟩|⟨y,u,rfl,e⟩
   .exact nomatch e
   .injection e with e1 _;rw[e1]
 byValue:=λk v h=>by
  rcases aW h with⟨i,t,rfl,rfl⟩|⟨x,t,rfl,rfl⟩<;> rfl
 pyHash:=λhv h=>by
  rcases aW hv with⟨i,t,rfl,rfl⟩|⟨x,t,rfl,rfl⟩
  .exact wpAny_pyHash_int h
  .exact wpAny_pyHash_str h
 eqBool:=λhu hv h=>by
  rcases aW hu with⟨i,t,rfl,rfl⟩|⟨x,t,rfl,rfl⟩
  .rcases aW hv with⟨j,u,rfl,rfl⟩|⟨y,u,rfl,rfl⟩
   .rw[Ef]at h;exact wpAny_eqBool_int h
   .exact SeqAt.EqAt.int_str i t y u _ _ _ _ h
  .rcases aW hv with⟨j,u,rfl,rfl⟩|⟨y,u,rfl,rfl⟩
   .exact SeqAt.EqAt.str_int x t j u _ _ _ _ h
   .rw[Eg]at h;exact wpAny_eqBool_str h
 «strs»:=λk x t v h=>by
  rcases aW h with⟨i,u,rfl,e⟩|⟨y,u,rfl,e⟩
  .exact nomatch e
  .injection e with e1 _
   subst e1;cases v<;> rfl
def sX(prog:Program)(w:World)(i:Int)(t:Tok):(aM prog w).is (.inl i) (.int i t)=true:=xM i t
def sY(prog:Program)(w:World)(x:Str)(t:Tok):(aM prog w).is (.inr x) (.str x t)=true:=dJ x t
set_option genInjectivity true in
inductive V where
 | non|bl (b:Bool)|int (i:Int)|str (x:Str)|byt (b:Array UInt8)|flt (b:UInt64)|ref (a:Addr)|ty (n:String)
 deriving DecidableEq
abbrev aQ:V->Value->Prop
 | .non,u=>u=Value.none
 | .bl b,u=>u=Value.bool b
 | .int i,u=>∃t,u=Value.int i t
 | .str x,u=>∃t,u=Value.str x t
 | .byt b,u=>∃t,u=Value.bytes b t
 | .flt b,u=>∃t,u=Value.float b t
 | .ref a,u=>u=Value.ref a
 | .ty n,u=>u=Value.type n
nonrec abbrev aE:List V->ZF->Prop:=Paired aQ
def aE.length{xs:List V}{us:ZF}(r:aE xs us):xs.length=us.length:=Paired.length r
def aE.get:∀{xs:List V} {us:ZF} {i:Nat} {x:V},aE xs us->xs[i]? =some x->∃u,us[i]? =some u/\aQ x u
 | _,_,_,_,.nil,e=>by simp at e
 | _,_,0,_,.cons r _,e=>by simp at e;subst e;exact%[_,rfl|r]
 | _,_,i+1,x,.cons _ t,e=>by
   have%[u,a|b]:=aE.get t (e);exact%[u,a|b]
def aE.append:∀{xs ys:List V} {us ws:ZF},aE xs us->aE ys ws->aE (xs++ys) (us++ws)
 | _,_,_,_,.nil,s=>s
 | _,_,_,_,.cons r t,s=> .cons r (aE.append t s)
def aE.take:∀{xs:List V} {us:ZF} n,aE xs us->aE (xs.take n) (us.take n)
 | _,_,0,_=> .nil
 | _,_,_+1,.nil=> .nil
 | _,_,n+1,.cons r t=> .cons r (aE.take n t)
def aE.drop:∀{xs:List V} {us:ZF} n,aE xs us->aE (xs.drop n) (us.drop n)
 | _,_,0,r=>r
 | _,_,_+1,.nil=> .nil
 | _,_,n+1,.cons _ t=>aE.drop n t
abbrev f9:Option V->Option Value->Prop
 | some v,some u=>aQ v u
 | none,none=>True
 | _,_=>False
abbrev KV{a:Type}:List (a×V)->List (a×Value)->Prop:=Paired λp q=>p.1=q.1/\aQ p.2 q.2
abbrev kV:Key->V
 | .inl i=> .int i
 | .inr x=> .str x
set_option genInjectivity true in
inductive HO where
 | lst (xs:List V)
 | tup (xs:List V)
 | dK (kvs:List (Key×V))|dT (kvs:List (List Key×V))
 | set (S:Int->Bool) (n:Nat)
 | ins (C dx:Addr) (fs:List (Str×V))
 | own (x:Addr)
 | xd (fs:List (Str×V))
 | met (f x:Addr)
 | rng (lo hi:Int)
 | frz (o:Obj) (u:HO)
 | tbl (ps:ZJ)
 | ext (φ:Heap->Prop)
noncomputable abbrev Hp:=Addr->Option HO
abbrev upd(H:Hp)(a:Addr)(o:HO):Hp:=λb=>if b=a then some o else H b
def aa:upd H a o a=some o:=by unfold upd;rw[if_pos rfl]
def am{H:Hp}{a b:Addr}{o:HO}(h:b≠a):upd H a o b=H b:=by unfold upd;rw[if_neg h]
def Gi{H:Hp}(h:H a=some o)(h':H b=some u)(d:o≠u):a≠b:=by
 intro e;subst e;rw[h]at h';exact d (Za h')
def ay{H:Hp}{a b:Addr}{o:HO}(h:H a=some o)(h':H b=none):a≠b:=by
 lia
section
variable(P:Program)(w:World)
abbrev b8(H:Hp)(h:Heap)(a:Addr):HO->Prop
 | .lst xs=>xs.length<=sizeLine/\∃(its:ZF) (n:Nat),aE xs its/\h.get? a=some {cls:= .type "list",data:= .seq its.toArray n}
 | .tup xs=>xs.length<=sizeLine/\∃its:ZF,aE xs its/\IsTup h a its.toArray
 | .dK b=>b.length<=sizeLine/\(a==sysModules)=false/\∃vs,KV b vs/\h.DictOf (aM P w) a vs
 | .dT b=>b.length<=sizeLine/\(a==sysModules)=false/\∃xs:List (List Key×Addr×Value),
  Paired (λ(p:List Key×V) (q:List Key×Addr×Value)=>p.1=q.1/\H q.2.1=some (.tup (p.1.map kV))/\aQ p.2 q.2.2) b xs/\
  ∃o g l,h.get? a=some o/\o.ExactDict/\o.data= .dict g l/\g.toList=xs.map (entryOfKey (tupleKind (aM P w)))/\(xs.map (·.1)).Nodup
 | .set S n=>h.SetOf (intKind P w) a S n
 | .ins C d fs=>H d=some (.own a)/\fs.length<=1000/\d≠a/\h.get? a=some (instObj C d)/\
  ∃c,h.Ns1 d c/\(∀f,f9 (fs.lookup f) (c f))/\PySem.Within c (fs.map (·.1))
 | .own _=>∃o,h.get? a=some o
 | .xd fs=>∃c,h.Ns1 a c/\∀f,f9 (fs.lookup f) (c f)
 | .rng lo hi=>∃t u v,h.get? a=some {cls:= .type "range",data:= .fields #[.int lo t,.int hi u,.int 1 v]}
 | .frz o u=>h.get? a=some o/\b8 H h a u
 | .tbl ps=>h.get? a=some {cls:= .none,data:= .fields ps}
 | .met f x=>h.get? a=some (PySem.W.methodObj (.ref f) (.ref x))
 | .ext e=>e h/\(∃o,h.get? a=some o)/\∀i j,e i->(∀o,i.get? a=some o->j.get? a=some o)->e j
abbrev HOk(H:Hp)(h:Heap):Prop:=∀a o,H a=some o->b8 P w H h a o
end
section
variable{P:Program}{w:World}{H H':Hp}{h h':Heap}{a:Addr}{o:HO}
def b8.lt(x:b8 P w H h a o):a<h.objs.size:=by
 cases o with
 | lst xs=>have%[_,_,_,_|e]:=x;exact Zv e
 | tup xs=>have%[_,_,_|p]:=x;exact p.lt
 | dK b=>have%[_,_,_,_,o,_,_,e|_]:=x;exact Zv e
 | dT b=>have%[_,_,_,_,o,_,_,e|_]:=x;exact Zv e
 | set S n=>have%[o,_,_,_,e|_]:=x;exact Zv e
 | ins C c fs=>have%[_,_,_,e|_]:=x;exact Zv e
 | own y=>have%[_|e]:=x;exact Zv e
 | xd fs=>have%[_,%[_,_,_,e|_]|_]:=x;exact Zv e
 | rng lo hi=>have%[_,_,_|e]:=x;exact Zv e
 | frz d u=>have%[e|_]:=x;exact Zv e
 | tbl ps=>exact Zv (x)
 | met f y=>exact Zv (x)
 | ext g=>have%[_,%[_|e]|_]:=x;exact Zv e
def Paired.mapP{F G:c->d->Prop}:∀{l₁:List c} {l₂:List d},Paired F l₁ l₂->(∀a b,F a b->G a b)->Paired G l₁ l₂
 | _,_,.nil,_=> .nil
 | _,_,.cons r t,f=> .cons (f _ _ r) (Paired.mapP t f)
def b8.stay(x:b8 P w H h a o)(k:∀b u,(b=a\/H b=some (.own a))->h.get? b=some u->h'.get? b=some u)
 (A:∀b,H b=some (.own a)->H' b=some (.own a)) (B:∀b xs,H b=some (.tup xs)->H' b=some (.tup xs)):b8 P w H' h' a o:=by
 induction o with
 | lst xs=>have%[z,its,n,r|e]:=x;exact%[z,its,n,r|k _ _ (.inl rfl) e]
 | tup xs=>have%[z,its,r,g,e|c]:=x;exact%[z,its,r,g,k _ _ (.inl rfl) e|c]
 | dK l=>have%[z,y,vs,r,g,i,j,e|c]:=x;exact%[z,y,vs,r,g,i,j,k _ _ (.inl rfl) e|c]
 | dT l=>
   have%[z,y,xs,r,g,i,j,e|c]:=x;exact%[z,y,xs,Paired.mapP r λp q z=>%[z.1,B _ _ z.2.1|z.2.2],g,i,j,k _ _ (.inl rfl) e|c]
 | set S n=>have%[g,i,j,t,e|c]:=x;exact%[g,i,j,t,k _ _ (.inl rfl) e|c]
 | ins C I fs=>
   have%[d,z,ne,e,m,%[s,i,j,E|c]|r]:=x;exact%[A _ d,z,ne,k _ _ (.inl rfl) e,m,%[s,i,j,k _ _ (.inr d) E|c]|r]
 | own y=>have%[g|e]:=x;exact%[g|k _ _ (.inl rfl) e]
 | xd fs=>have%[m,%[s,i,j,e|c]|r]:=x;exact%[m,%[s,i,j,k _ _ (.inl rfl) e|c]|r]
 | rng lo hi=>have%[t,u,v|e]:=x;exact%[t,u,v|k _ _ (.inl rfl) e]
 | frz g u G=>have%[e|q]:=x;exact%[k _ _ (.inl rfl) e|G q]
 | tbl ps=>
   exact k a _ (.inl rfl) x
 | met f y=>
   exact k a _ (.inl rfl) x
 | ext J=>have%[p,%[o|e]|st]:=x;exact%[st _ _ p λo q=>k _ _ (.inl rfl) q,%[o|k _ _ (.inl rfl) e]|st]
def HOk.lt(x:HOk P w H h)(e:H a=some o):a<h.objs.size:=(x a o e).lt
def HOk.fresh(x:HOk P w H h)(e:h.objs.size<=a):H a=none:=by
 cases q:H a with
 | none=>rfl
 | some u=>exact absurd (Zg (x.lt q) e) (Xo _)
def HOk.kept(x:HOk P w H h)(k:∀b u,h.get? b=some u->h'.get? b=some u):HOk P w H h':=λa o e=>
 (x a o e).stay (λb u _ q=>k b u q) (λ_ q=>q) λ_ _ q=>q
def HOk.laid(x:HOk P w H h)(k:∀b u,h.get? b=some u->h'.get? b=some u)(g:h.objs.size<=a)(new:b8 P w (upd H a o) h' a o):HOk P w (upd H a o) h':=λb u e=>by
 have d:=x.fresh g;by_cases f:b=a
 .subst f;rw[aa]at e;grind
 .rw[am f]at e;exact(x b u e).stay (λc v _ q=>k c v q) (λc q=>(am (ay q d))▸q) λc xs q=>(am (ay q d))▸q
end
abbrev Rd(H:Hp)(a:Addr)(u:HO):Prop:=H a=some u\/∃o,H a=some (.frz o u)
def Rd.ok{P:Program}{w:World}{H:Hp}{h:Heap}{a:Addr}{u:HO}(r:Rd H a u)(x:HOk P w H h):b8 P w H h a u:=by
 rcases r with r|⟨o,r⟩
 .exact x a u r
 .have%[_|q]:=x a _ r;exact q
abbrev Mut:Option HO->Prop
 | some (.lst _)=>True
 | some (.dK _)=>True
 | some (.dT _)=>True
 | some (.set _ _)=>True
 | some (.ins _ _ _)=>True
 | some (.ext _)=>True
 | _=>False
section
variable{P:Program}{w:World}{H:Hp}{h h':Heap}{x e:Addr}{o':HO}
def HOk.write(ok:HOk P w H h)(g:Mut (H x))(m:e=x\/H e=some (.own x))(k:∀b u,b≠e->h.get? b=some u->h'.get? b=some u)(i:∃u,h'.get? e=some u)
 (new:b8 P w (upd H x o') h' x o'):HOk P w (upd H x o') h':=λb u q=>by
 have d:∀c y,H c=some (.own y)->c≠x:=λc y r z=>by subst z;rw[r]at g;exact g
 have f:∀c xs,H c=some (.tup xs)->c≠x:=λc xs r z=>by subst z;rw[r]at g;exact g
 by_cases j:b=x
 .subst j;rw[aa]at q;grind
 .rw[am j]at q;by_cases a:b=e
  .have l:H b=some (.own x):=by
    rcases m with z|z
    .exact absurd (a.trans z) j
    .exact a▸z
   rw[q]at l;cases l;have%[v|n]:=i;exact%[v|a▸n]
  .refine(ok b u q).stay (λc v o r=>k c v ?_ r) (λc r=>(am (d c b r))▸r) λc xs r=>(am (f c xs r))▸r
   grind
end
structure Un (fs ex:List Addr) (H H':Hp) (h h':Heap):Prop where
 keep:∀b o,h.get? b=some o->H b=none->b∉fs->b∉ex->h'.get? b=some o
 slot:∀b o,h.get? b=some o->H b=none->b∈fs->b∉ex->∃sl,h'.get? b=some {o with slots:=sl}
 free:∀b o,h.get? b=some o->H b=none->b∉ex->H' b=none
 there:∀b o,h.get? b=some o->b∉ex->∃o',h'.get? b=some o'
 tups:∀b xs,H b=some (.tup xs)->H' b=some (.tup xs)
 frzs:∀b o u,H b=some (.frz o u)->H' b=some (.frz o u)
 tbls:∀b ps,H b=some (.tbl ps)->∃more,H' b=some (.tbl (ps++more))
section
variable{fs fs' ex ex':List Addr}{H H1 H2:Hp}{h h1 h2 h':Heap}{a x e:Addr}{o:HO}
def Un.any(u:Un fs ex H H1 h h1)(q:h.get? b=some c)(n:H b=none)(d:b∉ex):∃g,h1.get? b=some {c with slots:=g}:=by
 by_cases f:b∈fs
 .exact u.slot b c q n f d
 .exact%[c.slots|u.keep b c q n f d]
def Un.trans(a:Un fs ex H H1 h h1)(b:Un fs ex H1 H2 h1 h2):Un fs ex H H2 h h2 where
 keep:=λc ob q n hc hx=>b.keep c ob (a.keep c ob q n hc hx) (a.free c ob q n hx) hc hx
 slot:=λc ob q n hc hx=>by
  have%[sl|e1]:=a.slot c ob q n hc hx;have%[sl'|e2]:=b.slot c _ e1 (a.free c ob q n hx) hc hx;exact%[sl'|e2]
 free:=λc ob q n hx=>by
  have%[o'|e1]:=a.there c ob q hx;exact b.free c o' e1 (a.free c ob q n hx) hx
 there:=λc ob q hx=>by
  have%[o'|e1]:=a.there c ob q hx;exact b.there c o' e1 hx
 tups:=λc xs q=>b.tups c xs (a.tups c xs q)
 frzs:=λc ob xs q=>b.frzs c ob xs (a.frzs c ob xs q)
 tbls:=λc ps q=>by
  have%[m1|e1]:=a.tbls c ps q;have%[m2|e2]:=b.tbls c _ e1;exact%[m1++m2|by rw[e2,Array.append_assoc]]
def Un.kept(k:∀b u,h.get? b=some u->h'.get? b=some u):Un fs ex H H h h':=
 %[λb c q _ _ _=>k b c q,λb c q _ _ _=>%[c.slots|k b c q],λ_ _ _ n _=>n,λb c q _=>%[c|k b c q],λ_ _ q=>q,λ_ _ _ q=>q|λ_ ps q=>%[#[]|by rw[q];simp]]
def Un.refl:Un fs ex H H h h:=Un.kept λ_ _ q=>q
def Un.laid(k:∀b u,h.get? b=some u->h'.get? b=some u)(hp:h.objs.size<=a)(hn:H a=none):Un fs ex H (upd H a o) h h' where
 keep:=λb u q _ _ _=>k b u q
 slot:=λb u q _ _ _=>%[u.slots|k b u q]
 free:=λb u q n _=>(am (Zt (Zg (Zv q) hp)))▸n
 there:=λb u q _=>%[u|k b u q]
 tups:=λb xs q=>(am (ay q hn))▸q
 frzs:=λb u xs q=>(am (ay q hn))▸q
 tbls:=λb ps q=>%[#[]|by rw[am (ay q hn),q];simp]
def Un.write(f:Mut (H x))(l:e=x\/H e=some (.own x))(k:∀b u,b≠e->h.get? b=some u->h'.get? b=some u)(i:∃u,h'.get? e=some u):Un fs ex H (upd H x o) h h':=by
 have j:∀b,H b=none->b≠x:=λb n z=>by subst z;rw[n]at f;exact f
 have g:∀b,H b=none->b≠e:=λb n z=>by
  simp_all
 have c:∀b u,H b=some u-> ¬ Mut (some u)->b≠x:=λb u q m z=>by simp_all
 refine%[λb u q n _ _=>k b u (g b n) q,λb u q n _ _=>%[u.slots|k b u (g b n) q],λb u q n _=>(am (j b n))▸n,λb u q _=>?_,
  λb xs q=>(am (c b _ q λz=>z))▸q,λb u xs q=>(am (c b _ q λz=>z))▸q|λb ps q=>%[#[]|by rw[am (c b _ q λz=>z),q];simp]]
 by_cases d:b=e
 .simp_all
 .exact%[u|k b u d q]
end
abbrev trk(h:Heap)(H:Hp):List Addr:=(List.range h.objs.size).filter λa=>(H a).isSome
abbrev xN(h:Heap)(H:Hp):Heap:=PySem.W.hideAll h (trk h H)
def xO(h:Heap)(H:Hp):(xN h H).objs.size=h.objs.size:=PySem.W.hideAll_size _ _
def zD(e:h.get? b=some o)(n:H b=none):(xN h H).get? b=some o:=
 PySem.W.hideAll_get _ e λa=>by
  have q:=(List.mem_filter.mp a).2;rw[n]at q;simp at q
def B7(e:(xN h H).get? b=some o):h.get? b=some o/\H b=none:=by
 have a:=PySem.W.of_hideAll _ e;refine%[a|?_];cases q:H b with
 | none=>rfl
 | some x=>
   have z:(xN h H).get? b=none:=PySem.W.hideAll_none _ (List.mem_filter.mpr %[mem_range.mpr (Zv a)|by simp[q]])
   grind
abbrev B8(g h:Heap)(L:Addr):ZE:=(List.range h.objs.size).filterMap λa=>if a=L\/(g.get? a).isSome=true then none else(h.get? a).map λo=>(a,o)
abbrev rest(g h:Heap)(L d:Addr):ZE:=(B8 g h L).filter λp=>decide (p.1≠d)
structure Mod (K:ZA) (mg:ZC) (base:Heap):Prop where
 kin:K.In base
 glob:base.Ns mainGlobals mg
 blt:∃mb,base.Ns builtinsNs mb/\∀x:Str,x≠"__name__"->mb x=bootBuiltins x
 nolimit:base.NoLimit
structure Cx where
 prog:Program
 w:World
 K:ZA
 mg:Str->Option Value
 base:Heap
 A:Around
 N:ZB
 s₀:Shared
 H₀:Hp
 env:Env
 outer:List Env
 stack:List Env
 ex:List Addr
 fn:Str->Bool
 calm:Bool
 pn:ZE
 xe:Value->Shared->Prop
abbrev frs(l:List Env):List Addr:=l.filterMap (·.frame)
noncomputable abbrev Cx.fs(X:Cx):List Addr:=frs X.outer
abbrev Vis(a:Scope)(x:Str):Prop:=a.names.lookup x=some .local\/a.names.lookup x=some .cell\/a.names.lookup x=some .free
abbrev Loc(a:Scope)(x:Str):Prop:=a.names.lookup x=some .local\/a.names.lookup x=some .cell
abbrev Look(env:Env)(h:Heap)(m:ZC)(x:Str)(u:Value):Prop:=
 (env.kindOf x=some .local/\m x=some u)\/((env.kindOf x=some .cell\/env.kindOf x=some .free)/\∃c,env.cells.lookup x=some c/\h.IsCell c (some u))
structure Cx.Ok (X:Cx):Prop where
 mod:Mod X.K X.mg X.base
 kind:X.env.scope.kind= .function
 glob:X.env.globals=mainGlobals
 blt:X.env.builtins=builtinsNs
 above:X.s₀.heap.objs.size<=X.env.locals
 inj:∀x y c,X.env.cells.lookup x=some c->X.env.cells.lookup y=some c->x=y
 has:∀x,(X.env.kindOf x=some .cell\/X.env.kindOf x=some .free)->∃c,X.env.cells.lookup x=some c
 cab:∀x c,X.fn x=true->X.env.cells.lookup x=some c->X.s₀.heap.objs.size<=c
 hd:X.calm=true->X.A.handled=none
 frames:X.A.frames=some X.stack
 stk:X.stack=X.outer\/(X.stack=X.env::X.outer/\X.env.frame=some X.env.locals)
 exf:∀b∈X.ex,b≠X.env.locals/\∀x c,X.env.cells.lookup x=some c->c≠b
 bs:∀b o,X.base.get? b=some o->X.s₀.heap.get? b=some o/\X.H₀ b=none
 bsz:X.base.objs.size<=X.s₀.heap.objs.size
 noex:∀b o,X.base.get? b=some o->b∉X.ex
 exfs:∀b∈X.ex,b∉X.fs
 funs:X.s₀.heap.FunFrames X.base X.outer
 frf:∀b∈X.fs,X.H₀ b=none
structure Inv (X:Cx) (pins:List _) (σ:List _) (H:Hp) (s:Shared):Prop where
 ok:X.Ok
 os:s.os=X.s₀.os
 bare:AllBare s.gens
 base:Un X.fs X.ex X.H₀ H X.s₀.heap s.heap
 loc:∃m,s.heap.Ns X.env.locals m/\∀(i:Nat) x v,X.N[i]? =some x->σ[i]? =some (some v)->Vis X.env.scope x->∃u,aQ v u/\Look X.env s.heap m x u
 cell:∀x c,X.env.cells.lookup x=some c->∃v,s.heap.IsCell c v
 free:H X.env.locals=none
 freeC:∀x c,X.env.cells.lookup x=some c->H c=none
 pin:∀p∈X.pn++pins,s.heap.get? p.1=some p.2/\H p.1=none/\p.1≠X.env.locals/\p.1∉X.fs/\∀v,p.2.data≠ .cell v
 hok:HOk X.prog X.w H s.heap
 len:σ.length=X.N.length
section
variable{X:Cx}{pins:ZE}{σ:List (Option V)}{H H':Hp}{s:Shared}{h':Heap}
def Cx.Ok.nofr(ok:X.Ok)(e:X.base.get? b=some o):b∉X.fs:=λa=>by
 have:=(ok.funs.mem a).1
 grind
def Inv.bs(I:Inv X pins σ H s):∀b o,X.base.get? b=some o->s.heap.get? b=some o/\H b=none:=λb o e=>
 %[I.base.keep b o (I.ok.bs b o e).1 (I.ok.bs b o e).2 (I.ok.nofr e) (I.ok.noex b o e)|I.base.free b o (I.ok.bs b o e).1 (I.ok.bs b o e).2 (I.ok.noex b o e)]
def Inv.bk(I:Inv X pins σ H s):∀b o,X.base.get? b=some o->s.heap.get? b=some o:=λb o e=>(I.bs b o e).1
def Inv.mod(I:Inv X pins σ H s):Mod X.K X.mg X.base:=I.ok.mod
def Inv.kIn(I:Inv X pins σ H s):X.K.In s.heap:=I.ok.mod.kin.keeps I.bk
def Inv.lt(I:Inv X pins σ H s):X.env.locals<⇑s:=let⟨_,a,_⟩:=I.loc;a.lt
def Inv.sz(I:Inv X pins σ H s):X.s₀.heap.objs.size<=⇑s:=Yk I.ok.above (Yi I.lt)
def Inv.nofs(I:Inv X pins σ H s)(h:⇑s<=a):a∉X.fs:=λb=>by
 have%[_,o,c|_]:=I.ok.funs.mem b;exact absurd (Zg (Zv c) (Yk I.sz h)) (Xo _)
def Inv.cne(I:Inv X pins σ H s):∀x c,X.env.cells.lookup x=some c->c≠X.env.locals:=λx c e z=>by
 have%[v,o,d|f]:=I.cell x c e;have%[m,%[g,h,i,a,b|_]|_]:=I.loc
 grind
def Inv.funs(I:Inv X pins σ H s):s.heap.FunFrames X.base X.outer:=by
 have all:∀l,(∀b∈frs l,b∈X.fs)->X.s₀.heap.FunFrames X.base l->s.heap.FunFrames X.base l:=by
  intro l
  induction l with
  | nil=>intro _ _;trivial
  | cons env r g=>
    intro f h;have%[i,%[L,o,a,j,m|n]|p]:=h;have c:=f L (by unfold frs;rw[Y1,a];exact Zm);have%[q|e]:=I.base.slot L o m (I.ok.frf L c) c λz=>I.ok.exfs L z c
    exact%[i,%[L,_,a,j,e|n]|g (λb d=>f b (by unfold frs;rw[Y1,a];exact Zk _ d)) p]
 exact all X.outer (λ_ d=>d) I.ok.funs
def Inv.stack(I:Inv X pins σ H s):s.heap.FunFrames X.base X.stack:=by
 rcases I.ok.stk with e|⟨e,a⟩
 .exact e▸I.funs
 .rw[e];have%[m,b|_]:=I.loc;exact .cons (by rw[I.ok.kind];decide) a b (Heap.get?_none_of_le (Yk I.ok.bsz I.ok.above)) I.funs
def Inv.stkSub(I:Inv X pins σ H s):∀b∈frs X.stack,b∈X.env.locals::X.fs:=λb a=>by
 rcases I.ok.stk with e|⟨e,c⟩
 .rw[e]at a;exact Zk _ a
 .rw[e]at a;unfold frs at a;rw[Y1,c]at a;exact a
def Inv.stkFree(I:Inv X pins σ H s):∀b∈frs X.stack,H b=none:=λb a=>by
 rcases mem_cons.mp (I.stkSub b a)with e|a
 .exact e▸I.free
 .have%[_,o,c|_]:=I.ok.funs.mem a;exact I.base.free b o c (I.ok.frf b a) λz=>I.ok.exfs b z a
def Inv.step{d':Drawn}{ch:List Addr}(I:Inv X pins σ H s)
 (f:∀b∈ch,(b∈X.ex\/X.s₀.heap.objs.size<=b)/\b≠X.env.locals/\(∀x c,X.env.cells.lookup x=some c->c≠b)/\∀p∈X.pn++pins,p.1≠b)
 (keep:∀b o,b≠X.env.locals->b∉X.fs->b∉ch->s.heap.get? b=some o->H b=none->h'.get? b=some o)
 (slot:∀b o,b≠X.env.locals->b∈X.fs->b∉ch->s.heap.get? b=some o->H b=none->∃E,h'.get? b=some {o with slots:=E}) (free:∀b o,b∉ch->s.heap.get? b=some o->H b=none->H' b=none)
 (there:∀b o,b∉ch->s.heap.get? b=some o->∃A,h'.get? b=some A)
 (tups:∀b xs,H b=some (.tup xs)->H' b=some (.tup xs)) (frzs:∀b o u,H b=some (.frz o u)->H' b=some (.frz o u)) (tbls:∀b ps,H b=some (.tbl ps)->∃more,H' b=some (.tbl (ps++more)))
 (ns:∀m,s.heap.Ns X.env.locals m->h'.Ns X.env.locals m) (G:HOk X.prog X.w H' h') (Q:AllBare g'):
 Inv X pins σ H' {s with heap:=h',gens:=g',drawn:=d',toks:=t'}:=by
 have B:∀b o,X.s₀.heap.get? b=some o->b≠X.env.locals:=λb o e=>Zt (Zg (Zv e) I.ok.above)
 have j:∀b o,X.s₀.heap.get? b=some o->b∉X.ex->b∉ch:=λb o e a w=>by
  rcases(f b w).1 with z|z
  .exact a z
  .exact absurd (Zg (Zv e) z) (Xo _)
 have g:∀x c,X.env.cells.lookup x=some c->∀v,s.heap.IsCell c v->h'.IsCell c v:=λx c e v ⟨o,y,J⟩=>by
  have h:=λz=>(f c z).2.2.1 x c e rfl
  by_cases M:c∈X.fs
  .have%[E|q]:=slot c o (I.cne x c e) M h y (I.freeC x c e);exact%[_,q|J]
  .exact%[o,keep c o (I.cne x c e) M h y (I.freeC x c e)|J]
 refine%[I.ok,I.os,Q,%[λb o e n w a=>?_,λb o e n w a=>?_,λb o e n a=>?_,λb o e a=>?_,λb xs e=>tups b xs (I.base.tups b xs e),λb o xs e=>frzs b o xs (I.base.frzs b o xs e)|λb ps e=>?_],?_,λx c e=>?_,?_,λx c e=>?_,λp N=>?_,G|I.len]
 .exact keep b o (B b o e) w (j b o e a) (I.base.keep b o e n w a) (I.base.free b o e n a)
 .have%[E|t]:=I.base.slot b o e n w a;have%[L|C]:=slot b _ (B b o e) w (j b o e a) t (I.base.free b o e n a);exact%[L|C]
 .have%[A|t]:=I.base.there b o e a;exact free b A (j b o e a) t (I.base.free b o e n a)
 .have%[A|t]:=I.base.there b o e a;exact there b A (j b o e a) t
 .have%[T|t]:=I.base.tbls b ps e;have%[m2|C]:=tbls b _ t;exact%[T++m2|by rw[C,Array.append_assoc]]
 .have%[m,U|Y]:=I.loc;refine%[m,ns m U|λi x v t C e3=>?_];have%[u,r|l]:=Y i x v t C e3;refine%[u,r|?_];rcases l with l|⟨k,c,e,z⟩
  .exact .inl l
  .exact .inr %[k,c,e|g x c e _ z]
 .have%[v|z]:=I.cell x c e;exact%[v|g x c e v z]
 .have%[m,%[o,_,_,y|_]|_]:=I.loc;exact free _ o (λz=>(f _ z).2.1 rfl) y I.free
 .have%[v,o,y|J]:=I.cell x c e;exact free c o (λz=>(f c z).2.2.1 x c e rfl) y (I.freeC x c e)
 .have%[e,n,ne,O|d]:=I.pin p N;have h:=λz=>(f p.1 z).2.2.2 p N rfl
  exact%[keep p.1 p.2 ne O h e n,free p.1 p.2 h e n,ne,O|d]
def Inv.un{t':Nat}(I:Inv X pins σ H s)(u:Un X.fs [] H H' s.heap h')(c:HOk X.prog X.w H' h'):Inv X pins σ H' {s with heap:=h',toks:=t'}:=by
 have%[m,%[o,p,q,h|r]|_]:=id I.loc;have%[t|i]:=u.any h I.free ∅;exact I.step (ch:=[]) (λ_ z=>nomatch z) (λb o _ d _ e n=>u.keep b o e n d ∅) (λb o _ d _ e n=>u.slot b o e n d ∅) (λb o _ e n=>u.free b o e n ∅) (λb o _ e=>u.there b o e ∅) u.tups u.frzs u.tbls (λv j=>by
  have%[w,f,g,a|l]:=j;rw[h]at a;cases a;exact%[_,f,g,i|l]) c I.bare
def Inv.call{d':Drawn}{ch:List Addr}(I:Inv X pins σ H s)(u:Un (frs X.stack) ch H H' s.heap h')(g:HOk X.prog X.w H' h')(q:AllBare g')
 (d:∀b∈ch,(b∈X.ex\/X.s₀.heap.objs.size<=b)/\b≠X.env.locals/\(∀x c,X.env.cells.lookup x=some c->c≠b)/\∀p∈X.pn++pins,p.1≠b):
 Inv X pins σ H' {s with heap:=h',gens:=g',drawn:=d',toks:=t'}:=by
 have%[m,%[o,y,A,l|r]|_]:=id I.loc;have%[B|h]:=u.any l I.free λz=>(d _ z).2.1 rfl
 exact I.step d (λb o h t a e n=>u.keep b o e n (λz=>(mem_cons.mp (I.stkSub b z)).elim h t) a) (λb o _ _ a e n=>u.any e n a) (λb o a e n=>u.free b o e n a) (λb o a e=>u.there b o e a) u.tups u.frzs u.tbls (λC v=>by
  have%[E,i,j,f|w]:=v;rw[l]at f;cases f;exact%[_,i,j,h|w]) g q
def Inv.turned{a:Addr}(I:Inv X pins σ H s)(k:∀b o,b≠a->s.heap.get? b=some o->h'.get? b=some o)(B:H a=none)(g:a≠X.env.locals)
 (h:a∈X.ex\/X.s₀.heap.objs.size<=a) (i:∀x c,X.env.cells.lookup x=some c->c≠a) (j:∀p∈X.pn++pins,p.1≠a):Inv X pins σ H {s with heap:=h',toks:=t'}:=by
 have f:∀b u,H b=some u->b≠a:=λb u e z=>by lia
 refine I.step (ch:=[a]) (λb l=>?_) (λb o _ _ d e _=>k b o (λz=>d (by simp[z])) e) (λb o _ _ d e _=>%[o.slots|k b o (λz=>d (by simp[z])) e]) (λ_ _ _ _ n=>n)
  (λb o d e=>%[o|k b o (λz=>d (by simp[z])) e]) (λ_ _ e=>e) (λ_ _ _ e=>e) (λb ps e=>%[#[]|by rw[e];simp]) (λm t=>?_) (λb u e=>?_) I.bare
 .have e:=by simpa using l
  subst e;exact%[h,g,i|j]
 .have%[o,w,y,A|r]:=t;exact%[o,w,y,k _ o (Ne.symm g) A|r]
 .refine(I.hok b u e).stay (λc v d q=>k c v ?_ q) (λ_ q=>q) λ_ _ q=>q
  rcases d with z|z
  .exact z▸f b u e
  .exact f c _ z
def Inv.tok(I:Inv X pins σ H s)(t:Nat):Inv X pins σ H {s with toks:=t}:=I.un Un.refl I.hok
def Inv.kept(I:Inv X pins σ H s)(k:∀b u,s.heap.get? b=some u->h'.get? b=some u):Inv X pins σ H {s with heap:=h',toks:=t'}:=I.un (Un.kept k) (I.hok.kept k)
def Inv.laid{a:Addr}{o:HO}{t':Nat}(I:Inv X pins σ H s)(k:∀b u,s.heap.get? b=some u->h'.get? b=some u)(c:⇑s<=a)(new:b8 X.prog X.w (upd H a o) h' a o):
 Inv X pins σ (upd H a o) {s with heap:=h',toks:=t'}:=I.un (Un.laid k c (I.hok.fresh c)) (I.hok.laid k c new)
def Inv.write(I:Inv X pins σ H s)(c:Mut (H x))(d:e=x\/H e=some (.own x))(k:∀b u,b≠e->s.heap.get? b=some u->h'.get? b=some u)(a:∃u,h'.get? e=some u)
 (new:b8 X.prog X.w (upd H x o) h' x o):Inv X pins σ (upd H x o) {s with heap:=h',toks:=t'}:=I.un (Un.write c d k a) (I.hok.write c d k a new)
def Inv.pins_of(I:Inv X pins σ H s)(h:∀p∈a,s.heap.get? p.1=some p.2/\H p.1=none/\p.1≠X.env.locals/\p.1∉X.fs/\∀v,p.2.data≠ .cell v):Inv X a σ H s:=
 %[I.ok,I.os,I.bare,I.base,I.loc,I.cell,I.free,I.freeC,λp b=>(Xs b).elim (λz=>I.pin p (Yx _ z)) (h p),I.hok|I.len]
def du{N:ZB}(c:N.Nodup){i j:Nat}{x:Str}(a:N[i]? =some x)(b:N[j]? =some x):i=j:=by
 have%[f|d]:=Xr a;have%[g|e]:=Xr b;exact(List.getElem_inj c).mp (d.trans e.symm)
def xP{A:Around}{E:ZD}{i:Nat}{x:Str}{v:V}{u:Value}{Q:Unit->Shared->Prop}(I:Inv X pins σ H s)(hN:X.N.Nodup)(hi:X.N[i]? =some x)(w:Loc X.env.scope x)(r:aQ v u)
 (h:∀s',Inv X pins (σ.set i (some v)) H s'->(∃a,SameBut a s.heap s'.heap/\(a=X.env.locals\/X.env.cells.lookup x=some a))->Q () s') (hf:X.fn x=true\/X.env.scope.names.lookup x=some .local):wpAny M A (storeName X.env x u) Q E s:=by
 have%[m,hn|hl]:=id I.loc;have G:i<σ.length:=I.len▸(Xr hi).1;have cne:=I.cne;have g:∀{a:Addr} {h':Heap},(∃o,s.heap.get? a=some o/\H a=none)->SameBut a s.heap h'->HOk X.prog X.w H h':=λ{a h'} ha f b ob e=>by
  have%[_,_|B]:=ha;refine(I.hok b ob e).stay (λc w' t q=>(f.2 c ?_).trans q) (λ_ q=>q) λ_ _ q=>q
  rintro rfl;rcases t with rfl|t
  .rw[B]at e;cases e
  .rw[B]at t;cases t
 rcases w with J|J
 .refine wpAny_storeName_local J hn (λh' ac f=>?_) (by rw[I.ok.kind];rfl);have%[oL,_,_,ae|_]:=id hn;refine h _ %[I.ok,I.os,I.bare,%[λb o e n L w=>?_,λb o e n L w=>?_,I.base.free,λb o e w=>?_,I.base.tups,I.base.frzs|I.base.tbls],%[_,ac|λj y v' l C e3=>?_],λy c e=>?_,I.free,I.freeC,λp hp=>?_,g %[oL,ae|I.free] f|by simpa using I.len] %[_,f|.inl rfl]
  .exact(f.2 b (Zt (Zg (Zv e) I.ok.above))).trans (I.base.keep b o e n L w)
  .have%[sl|l]:=I.base.slot b o e n L w;exact%[sl|(f.2 b (Zt (Zg (Zv e) I.ok.above))).trans l]
  .have%[o'|l]:=I.base.there b o e w;exact%[o'|(f.2 b (Zt (Zg (Zv e) I.ok.above))).trans l]
  .by_cases N:j=i
   .subst N;rw[hi]at l;cases l;rw[List.getElem?_set_self G]at C;cases C;exact%[u,r|.inl %[J|by simp]]
   .rw[List.getElem?_set_ne (Ne.symm N)]at C;have%[u',r'|q]:=hl j y v' l C e3;refine%[u',r'|?_];rcases q with⟨k,e⟩|⟨k,c,e,z⟩
    .refine .inl %[k|?_];have:y≠x:=λe=>N (du hN l (e▸hi))
     simp[this,e]
    .exact .inr %[k,c,e|z.sameBut f (cne y c e)]
  .have%[w'|z]:=I.cell y c e;exact%[w'|z.sameBut f (cne y c e)]
  .have%[e,n,ne,nf|d]:=I.pin p hp;exact%[(f.2 p.1 ne).trans e,n,ne,nf|d]
 .have O:X.fn x=true:=by
   rcases hf with z|z
   .exact z
   .rw[z]at J;cases J
  have%[c|t]:=I.ok.has x (.inl J);have%[w'|z]:=I.cell x c t;refine wpAny_storeName_cell I.ok.kind J t z (λh' T f=>?_);have%[oc,U|Y]:=id z;refine h _ %[I.ok,I.os,I.bare,%[λb o e n L w=>?_,λb o e n L w=>?_,I.base.free,λb o e w=>?_,I.base.tups,I.base.frzs|I.base.tbls],%[m,hn.sameBut f (Ne.symm (cne x c t))|λj y v' l C e3=>?_],λy c' e=>?_,I.free,I.freeC,λp hp=>?_,g %[oc,U|I.freeC x c t] f|by simpa using I.len] %[c,f|.inr t]
  .exact(f.2 b (Zt (Zg (Zv e) (I.ok.cab x c O t)))).trans (I.base.keep b o e n L w)
  .have%[sl|l]:=I.base.slot b o e n L w;exact%[sl|(f.2 b (Zt (Zg (Zv e) (I.ok.cab x c O t)))).trans l]
  .have%[o'|l]:=I.base.there b o e w;exact%[o'|(f.2 b (Zt (Zg (Zv e) (I.ok.cab x c O t)))).trans l]
  .by_cases N:j=i
   .subst N;rw[hi]at l;cases l;rw[List.getElem?_set_self G]at C;cases C;exact%[u,r|.inr %[.inl J,c,t|T]]
   .rw[List.getElem?_set_ne (Ne.symm N)]at C;have%[u',r'|q]:=hl j y v' l C e3;refine%[u',r'|?_];rcases q with q|⟨k,c',e,z'⟩
    .exact .inl q
    .refine .inr %[k,c',e|z'.sameBut f ?_];rintro rfl;exact N (du hN l (I.ok.inj _ _ _ e t▸hi))
  .by_cases ab:c'=c
   .subst ab;exact%[_|T]
   .have%[w2|z2]:=I.cell y c' e;exact%[w2|z2.sameBut f ab]
  .have%[e,n,ne,nf|d]:=I.pin p hp;refine%[(f.2 p.1 ?_).trans e,n,ne,nf|d];intro q;rw[q,U]at e;exact d w' ((Za e)▸Y)
def ng(I:Inv X pins σ H s)(a:X.N.Nodup)(hi:X.N[i]? =some x)(b:Loc X.env.scope x)(r:aQ v u)
 (h:∀s',Inv X pins (σ.set i (some v)) H s'->Q () s') (c:X.fn x=true\/X.env.scope.names.lookup x=some .local):wpAny M A (storeName X.env x u) Q E s:=
 xP I a hi b r (λs' d _=>h s' d) c
def Inv.call'(I:Inv X pins σ H s)(e:s'.os=s.os)(u:Un (frs X.stack) ch H H' s.heap s'.heap)(a:HOk X.prog X.w H' s'.heap)(f:AllBare s'.gens)
 (d:∀b∈ch,(b∈X.ex\/X.s₀.heap.objs.size<=b)/\b≠X.env.locals/\(∀x c,X.env.cells.lookup x=some c->c≠b)/\∀p∈X.pn++pins,p.1≠b):Inv X pins σ H' s':=by
 have%[h',g',d',t'|g]:=s';subst e;exact I.call u a f d
end
noncomputable abbrev XK:=Value->ZI->Hp->Prop
noncomputable abbrev St:=List (Option V)
noncomputable abbrev VK:=V->Hp->Prop
noncomputable abbrev TE:=St->Hp->VK->Prop
noncomputable abbrev TT:=St->Hp->(Bool->Hp->Prop)->Prop
noncomputable abbrev TA:=St->Hp->(List V->Hp->Prop)->Prop
structure lg where
 nx:St->Hp->Prop
 rt:VK
 bk:St->Hp->Prop:=λ_ _=>False
 ct:St->Hp->Prop:=λ_ _=>False
noncomputable abbrev TS:=lg->St->Hp->Prop
abbrev EP(X:Cx)(pins:ZE)(b:St)(Q:VK)(u:Value)(s':Shared):Prop:=∃v a,Inv X pins b a s'/\aQ v u/\Q v a
abbrev TP(X:Cx)(pins:ZE)(c:St)(Q:Bool->Hp->Prop)(b:Bool)(s':Shared):Prop:=∃a,Inv X pins c a s'/\Q b a
abbrev AP(X:Cx)(pins:ZE)(b:St)(Q:List V->Hp->Prop)(us:ZF)(s':Shared):Prop:=∃vs a,Inv X pins b a s'/\aE vs us/\Q vs a
abbrev SP(X:Cx)(pins:ZE)(D:lg)(f:Flow)(s':Shared):Prop:=
 match f with
 | .next=>∃a b,Inv X pins a b s'/\D.nx a b
 | .brk=>∃a b,Inv X pins a b s'/\D.bk a b
 | .cont=>∃a b,Inv X pins a b s'/\D.ct a b
 | .ret u=>∃v a b,Inv X pins a b s'/\aQ v u/\D.rt v b
abbrev PE(X:Cx)(e:Expr)(t:TE):Prop:=
 ∀pins s (a:St) H Q,Inv X pins a H s->t a H Q->wpAny (model X.prog X.w) X.A (eval e X.env) (EP X pins a Q) X.xe s
abbrev PT(X:Cx)(e:Expr)(t:TT):Prop:=
 ∀pins s (a:St) H Q,Inv X pins a H s->t a H Q->wpAny (model X.prog X.w) X.A (isTrue e X.env (eval e X.env)) (TP X pins a Q) X.xe s
abbrev PW(X:Cx)(e:Expr)(t:TT):Prop:=
 ∀a pins s (b:St) H Q,Inv X pins b H s->t b H Q->wpAny (model X.prog X.w) X.A (isTrue e X.env a) (TP X pins b Q) X.xe s
def PW.pt{X:Cx}(h:PW X e t):PT X e t:=h _
abbrev PA(X:Cx)(b:List Expr)(t:TA):Prop:=
 ∀pos pins s (a:St) H Q,Inv X pins a H s->t a H Q->wpAny (model X.prog X.w) X.A (spliced (backTo pos (starEach b X.env))) (AP X pins a Q) X.xe s
abbrev PS(X:Cx)(st:Stmt)(t:TS):Prop:=
 ∀pins s (a:St) H D,Inv X pins a H s->t D a H->wpAny (model X.prog X.w) X.A (exec st X.env) (SP X pins D) X.xe s
abbrev PSs(X:Cx)(st:List Stmt)(t:TS):Prop:=
 ∀pins s (a:St) H D,Inv X pins a H s->t D a H->wpAny (model X.prog X.w) X.A (execs st X.env) (SP X pins D) X.xe s
def thn{b:Type}{t:Sem b}{Q c:b->Shared->Prop}{M:Model}{A:Around}{E:ZD}{s:Shared}(h:wpAny M A t Q E s)(d:∀a s,Q a s->c a s):wpAny M A t c E s:=wpAny_mono h d λ_ _ x=>x
def thP{c d:Type}{t:Sem c}{X:Cx}{pins:ZE}{e:St}{R:d->c->Prop}{Q:d->Hp->Prop}{f:c->Shared->Prop}{M:Model}{A:Around}{E:ZD}{s:Shared}(h:wpAny M A t (λa s=>∃v b,Inv X pins e b s/\R v a/\Q v b) E s)(g:∀a s v b,Inv X pins e b s->R v a->Q v b->f a s):wpAny M A t f E s:=wpAny_mono h (λa s ⟨v,b,i,r,q⟩=>g a s v b i r q) λ_ _ x=>x
def thT{c:Type}{t:Sem c}{X:Cx}{pins:ZE}{d:St}{Q:c->Hp->Prop}{e:c->Shared->Prop}{M:Model}{A:Around}{E:ZD}{s:Shared}(h:wpAny M A t (λa s=>∃b,Inv X pins d b s/\Q a b) E s)(f:∀a s b,Inv X pins d b s->Q a b->e a s):wpAny M A t e E s:=wpAny_mono h (λa s ⟨b,i,q⟩=>f a s b i q) λ_ _ x=>x
section
variable{X:Cx}
abbrev asI(x:V)(f:Int->Prop):Prop:=match x with| .int i=>f i|_=>False
abbrev asB(x:V)(f:Bool->Prop):Prop:=match x with| .bl i=>f i|_=>False
abbrev asR(x:V)(f:Addr->Prop):Prop:=match x with| .ref i=>f i|_=>False
def Gj:asI (.int i) f=f i:=rfl
def Gk:asB (.bl i) f=f i:=rfl
def Gm:asR (.ref i) f=f i:=rfl
def iP{x:V}{f:Int->Prop}(h:asI x f):∃i,x= .int i/\f i:=by
 cases x<;> first|exact⟨_,rfl,h⟩|exact h.elim
def pY{x:V}{f:Bool->Prop}(h:asB x f):∃i,x= .bl i/\f i:=by
 cases x<;> first|exact⟨_,rfl,h⟩|exact h.elim
def eT{x:V}{f:Addr->Prop}(h:asR x f):∃i,x= .ref i/\f i:=by
 cases x<;> first|exact⟨_,rfl,h⟩|exact h.elim
def Gn:asI x f=∃i,x= .int i/\f i:=propext %[iP|λ⟨_,e,q⟩=>by subst e;exact q]
def Go:asB x f=∃i,x= .bl i/\f i:=propext %[pY|λ⟨_,e,q⟩=>by subst e;exact q]
def Gp:asR x f=∃i,x= .ref i/\f i:=propext %[eT|λ⟨_,e,q⟩=>by subst e;exact q]
abbrev pB:Nat->TE
 | 0,some v::_,H,Q=>Q v H
 | i+1,_::a,H,Q=>pB i a H Q
 | _,_,_,_=>False
def Eh:pB 0 (some v::a) H Q=Q v H:=rfl
def Ei:pB (i+1) (o::a) H Q=pB i a H Q:=rfl
def zE:∀{i:Nat} {a:St},pB i a H Q->∃v,a[i]? =some (some v)/\Q v H
 | 0,some v::_,h=>%[v,rfl|h]
 | 0,none::_,h=>h.elim
 | 0,[],h=>h.elim
 | _+1,[],h=>h.elim
 | i+1,_::a,h=>zE (i:=i) h
abbrev tC(v:V):TE:=λ_ H Q=>Q v H
def zF(j:X.N[i]? =some x)(n:Vis X.env.scope x)(d:(x==("__debug__":Str))=false)(f:(x==("__classdict__":Str))=false):PE X (.Name x pos) (pB i):=by
 intro pins s o H Q I h;have%[v,e|h]:=zE h;have%[m,p|q]:=I.loc;have%[u,r|l]:=q i x v j e n;have fin:EP X pins o Q u s:=%[v,H,I,r|h]
 rcases l with⟨b,t⟩|⟨b,c,g,a⟩
 .exact wpAny_Name (wpAny_loadName_local I.ok.kind b p t fin) d
 .rcases b with b|b
  .exact wpAny_Name (wpAny_loadName_cell I.ok.kind b g a fin) d
  .exact wpAny_Name (wpAny_loadName_free I.ok.kind b g a fin f) d
def Ej{i j pos}:PE X (.Constant (.int i) j pos) (tC (.int i)):=λ_ _ _ H _ I h=>wpAny_Constant_int %[.int i,H,I.tok _,%[_|rfl]|h]
def Gq{b j pos}:PE X (.Constant (.bool b) j pos) (tC (.bl b)):=λ_ _ _ H _ I h=>Constant_bool %[.bl b,H,I,rfl|h]
def Ek{j pos}:PE X (.Constant .none j pos) (tC .non):=λ_ _ _ H _ I h=>Constant_none %[.non,H,I,rfl|h]
def El{x j pos}:PE X (.Constant (.str x) j pos) (tC (.str x)):=λ_ _ _ H _ I h=>Calls.Constant_str %[.str x,H,I.tok _,%[_|rfl]|h]
abbrev Gl(X:Cx)(x:Str):Prop:=X.env.kindOf x=some .globalImplicit
def rj(I:Inv X pins d H s)(a:Gl X x)(b:X.mg x=some u)(h:Q u s)
 (c:(x==("__debug__":Str))=false):wpAny (model X.prog X.w) X.A (eval (.Name x pos) X.env) Q E s:=
 Calls.Name_function_global I.ok.kind a (Calls.loadGlobal_global (I.ok.glob▸I.mod.glob.keeps I.bk) b h) c
def jN(I:Inv X pins i H s)(a:Gl X x)(b:X.mg x=none)(c:bootBuiltins x=some u)(h:Q u s)
 (d:x≠"__name__":=by decide) (e:(x==("__debug__":Str))=false:=by decide):wpAny (model X.prog X.w) X.A (eval (.Name x pos) X.env) Q E s:=by
 have%[j,f|g]:=I.mod.blt;exact Calls.Name_function_global I.ok.kind a (Calls.loadGlobal_builtin (I.ok.glob▸I.mod.glob.keeps I.bk) b (I.ok.blt▸f.keeps I.bk) ((g x d).trans c) h) e
def B9(a:Gl X x)(b:X.mg x=some u)(r:aQ v u)(c:(x==("__debug__":Str))=false):PE X (.Name x pos) (tC v):=
 λ_ _ _ H _ I h=>rj I a b %[v,H,I,r|h] c
def Ca(a:Gl X x)(b:X.mg x=none)(c:bootBuiltins x=some u)(r:aQ v u)(d:x≠"__name__")(e:(x==("__debug__":Str))=false):PE X (.Name x pos) (tC v):=
 λ_ _ _ H _ I h=>jN I a b c %[v,H,I,r|h] d e
variable{a b:Expr}{ta tb:TE}{pos:Pos}
abbrev PC(X:Cx)(op:CmpOp)(a b:Expr)(t:TE):Prop:=
 ∀pins s (e:St) H Q,Inv X pins e H s->t e H Q->
  (wpAny (model X.prog X.w) X.A) (eval a X.env) (λv c=>wpAny (model X.prog X.w) X.A (eval b X.env) (λu d=>wpAny (model X.prog X.w) X.A (compareOp op v u) (EP X pins e Q) X.xe d) X.xe c) X.xe s
def Gr(b:Expr)(h:op≠ .In)(e:op≠ .NotIn):behindInMarks op b=false:=by
 have c:(op==CmpOp.In)=false:=by lia
 have d:(op==CmpOp.NotIn)=false:=by lia
 cases b<;> simp[behindInMarks,c,d]
abbrev tB(t:TE):TT:=λd H Q=>t d H λx e=>asB x λc=>Q c e
def zG{op:CmpOp}(h:PC X op a b t)(e:behindInMarks op b=false):PT X (.Compare a [op] [b] pos) (tB t):=by
 intro pins s f H Q I hw;refine wpAny_isTrue_Compare1 (thn (h pins s f H _ I hw) λv n e=>thn e λu o g=>thn g λc p ⟨x,i,j,l,m⟩=>?_) e;have%[d,rfl|q]:=pY m;cases l;exact wpAny_truthy_bool %[i,j|q]
variable{tA tB':TT}{rest:List Expr}
abbrev Cb(t u:TT):TT:=λd H Q=>t d H λc e=>if c=true then u d e Q else Q false e
abbrev tOr(t u:TT):TT:=λd H Q=>t d H λc e=>if c=true then Q true e else u d e Q
abbrev Em(t:TT):TT:=λd H Q=>t d H λc e=>Q (!c) e
def Cc(d:PT X a tA):PW X (.BoolOp .And [a] pos) tA:=by
 intro g pins s f H Q I h;refine isTrue_and (thn (d pins s f H Q I h) λc i e=>?_);cases c with
 | true=>exact isTrue_and_nil e
 | false=>exact e
def En(d:PT X a tA):PW X (.BoolOp .Or [a] pos) tA:=by
 intro g pins s f H Q I h;refine isTrue_or (thn (d pins s f H Q I h) λc i e=>?_);cases c with
 | false=>exact isTrue_or_nil e
 | true=>exact e
def Eo(i:PT X a tA)(j:PW X (.BoolOp .And (b::rest) pos) tB'):PW X (.BoolOp .And (a::b::rest) pos) (Cb tA tB'):=by
 intro l pins s d H Q I h;refine isTrue_and (thT (i pins s d H _ I h) λc m e f g=>?_);cases c with
 | true=>exact j l pins m d e Q f g
 | false=>exact%[e,f|g]
def Gu(i:PT X a tA)(j:PW X (.BoolOp .Or (b::rest) pos) tB'):PW X (.BoolOp .Or (a::b::rest) pos) (tOr tA tB'):=by
 intro l pins s d H Q I h;refine isTrue_or (thT (i pins s d H _ I h) λc m e f g=>?_);cases c with
 | true=>exact%[e,f|g]
 | false=>exact j l pins m d e Q f g
def Ep(c:PT X a tA):PT X (.UnaryOp .Not a pos) (Em tA):=by
 intro pins s d H Q I h;exact isTrue_not (c pins s d H _ I h)
abbrev zH(ta tb:TE):TE:=λd H Q=>ta d H λx e=>asB x λc=>if c=true then tb d e Q else Q (.bl false) e
abbrev Er(ta tb:TE):TE:=λd H Q=>ta d H λx e=>asB x λc=>if c=true then Q (.bl true) e else tb d e Q
def Es{op}(h:PE X a t):PE X (.BoolOp op [a] pos) t:=λpins s c H Q I hw=>BoolOp_one (h pins s c H Q I hw)
def Et(i:PE X a ta)(j:PE X (.BoolOp .And (b::rest) pos) tb):PE X (.BoolOp .And (a::b::rest) pos) (zH ta tb):=by
 intro pins s e H Q I h;refine BoolOp_and (thP (i pins s e H _ I h) λv l x f g m d=>?_);have%[c,rfl|d]:=pY d;cases m;refine wpAny_truthy_bool ?_;cases c with
 | true=>exact j pins l e f Q g d
 | false=>exact%[.bl false,f,g,rfl|d]
def Gw(i:PE X a ta)(j:PE X (.BoolOp .Or (b::rest) pos) tb):PE X (.BoolOp .Or (a::b::rest) pos) (Er ta tb):=by
 intro pins s e H Q I h;refine BoolOp_or (thP (i pins s e H _ I h) λv l x f g m d=>?_);have%[c,rfl|d]:=pY d;cases m;refine wpAny_truthy_bool ?_;cases c with
 | false=>exact j pins l e f Q g d
 | true=>exact%[.bl true,f,g,rfl|d]
end
abbrev SqL(K:ZA)(H:Hp)(a:Addr)(xs:List V):Prop:=
 Rd H a (.lst xs)\/
  ∃o its n,K.lookup a=some o/\o.cls= .type "list"/\o.dict=none/\o.data= .seq its n/\its.size<=sizeLine/\aE xs its.toList
abbrev SqT(K:ZA)(H:Hp)(a:Addr)(xs:List V):Prop:=
 Rd H a (.tup xs)\/
  ∃o its n,K.lookup a=some o/\o.cls= .type "tuple"/\o.data= .seq its n/\its.size<=sizeLine/\aE xs its.toList
abbrev absV:Value->Option V
 | .none=>some .non
 | .bool b=>some (.bl b)
 | .int i _=>some (.int i)
 | .str x _=>some (.str x)
 | .bytes b _=>some (.byt b)
 | .float b _=>some (.flt b)
 | .ref a=>some (.ref a)
 | .type n=>some (.ty n)
 | _=>none
def aQ.abs(r:aQ x u):absV u=some x:=by
 cases x with
 | non=>cases r;rfl
 | bl _=>cases r;rfl
 | int _=>have%[t|rfl]:=r;rfl
 | str _=>have%[t|rfl]:=r;rfl
 | byt _=>have%[t|rfl]:=r;rfl
 | flt _=>have%[t|rfl]:=r;rfl
 | ref _=>cases r;rfl
 | ty _=>cases r;rfl
def aQ.inj(r:aQ x u)(q:aQ y u):x=y:=Za (r.abs.symm.trans q.abs)
def aE.inj:∀{xs ys:List V} {us:ZF},aE xs us->aE ys us->xs=ys
 | _,_,_,.nil,.nil=>rfl
 | _,_,_,.cons r t,.cons a t'=>by rw[r.inj a,aE.inj t t']
section
#version
variable{a:Addr}{xs ys:List V}
def SqL.of{K:ZA}(h:H a=some (.lst xs)):SqL K H a xs:= .inl (.inl h)
def SqT.of{K:ZA}(h:H a=some (.tup xs)):SqT K H a xs:= .inl (.inl h)
def Inv.list(I:Inv X pins σ H s)(h:SqL X.K H a xs):∃its:ZF,aE xs its/\PlainL s.heap a its.toArray/\xs.length<=sizeLine:=by
 rcases h with h|⟨o,its,n,b,c,d,f,g,r⟩
 .have%[z,its,n,r|e]:=h.ok I.hok;exact%[its,r,%[_,n,e,rfl,rfl|rfl]|z]
 .refine%[its.toList,r,%[o,n,I.kIn a o b,c,d|f]|?_];have e:=r.length
  simp_all
def Inv.tuple(I:Inv X pins σ H s)(h:SqT X.K H a xs):∃its:ZF,aE xs its/\IsTup s.heap a its.toArray/\xs.length<=sizeLine:=by
 rcases h with h|⟨o,its,n,b,c,d,f,r⟩
 .have%[z,its,r|p]:=h.ok I.hok;exact%[its,r,p|z]
 .refine%[its.toList,r,%[o,I.kIn a o b,c,n|d]|?_];have e:=r.length;simp only[Zb]at e
  lia
def Inv.list_inj(I:Inv X pins σ H s)(h:SqL X.K H a xs)(h':SqL X.K H a ys):xs=ys:=by
 have%[its,r,%[o,n,e,_,_|d]|_]:=I.list h;have%[its',c,%[g,i,b,_,_|d']|_]:=I.list h';rw[e]at b;cases b;rw[d]at d';injection d' with f _
 have:=congrArg Array.toList f;subst this;exact r.inj c
def Inv.tuple_inj(I:Inv X pins σ H s)(h:SqT X.K H a xs)(h':SqT X.K H a ys):xs=ys:=by
 have%[its,r,%[o,e,_,n|d]|_]:=I.tuple h;have%[its',c,%[g,b,_,i|d']|_]:=I.tuple h';rw[e]at b;cases b;rw[d]at d';injection d' with f _
 have:=congrArg Array.toList f;subst this;exact r.inj c
end
noncomputable abbrev Cx.wish(X:Cx)(E:ZD):Cx:={X with xe:=E}
noncomputable abbrev Cx.nox(X:Cx):Cx:=X.wish λ_ _=>False
def Cx.Ok.wish{X:Cx}(ok:X.Ok)(E:ZD):(X.wish E).Ok:=
 %[ok.mod,ok.kind,ok.glob,ok.blt,ok.above,ok.inj,ok.has,ok.cab,ok.hd,ok.frames,ok.stk,ok.exf,ok.bs,ok.bsz,ok.noex,ok.exfs,ok.funs|ok.frf]
def Cx.Ok.unwish{X:Cx}{E:ZD}(ok:(X.wish E).Ok):X.Ok:=
 %[ok.mod,ok.kind,ok.glob,ok.blt,ok.above,ok.inj,ok.has,ok.cab,ok.hd,ok.frames,ok.stk,ok.exf,ok.bs,ok.bsz,ok.noex,ok.exfs,ok.funs|ok.frf]
section
#version
variable{E:ZD}
def Inv.wish(I:Inv X pins σ H s)(E:ZD):Inv (X.wish E) pins σ H s:=%[I.ok.wish E,I.os,I.bare,I.base,I.loc,I.cell,I.free,I.freeC,I.pin,I.hok|I.len]
def Inv.unwish(I:Inv (X.wish E) pins σ H s):Inv X pins σ H s:=%[I.ok.unwish,I.os,I.bare,I.base,I.loc,I.cell,I.free,I.freeC,I.pin,I.hok|I.len]
def SP.unwish{D:lg}{f:Flow}{s':Shared}(h:SP (X.wish E) pins D f s'):SP X pins D f s':=by
 cases f with
 | next=>have%[a,b,I|q]:=h;exact%[a,b,I.unwish|q]
 | brk=>have%[a,b,I|q]:=h;exact%[a,b,I.unwish|q]
 | cont=>have%[a,b,I|q]:=h;exact%[a,b,I.unwish|q]
 | ret u=>have%[v,a,b,I,r|q]:=h;exact%[v,a,b,I.unwish,r|q]
def PSs.nox{st:List Stmt}(h:PSs X.nox st t):PSs X st t:=λpins s σ H D I hw=>
 wpAny_mono (h pins s σ H D (I.wish _) hw) (λ_ _ q=>q.unwish) λ_ _ z=>False.elim z
end
section
variable{X:Cx}{st:Stmt}{rest:List Stmt}{t u:TS}{e:Expr}{te:TE}{pos:Pos}
abbrev zI:TS:=λD a H=>D.nx a H
abbrev bd(t u:TS):TS:=λD a H=>t {D with nx:=u D} a H
def Cd:PSs X [] zI:=λ_ _ a H _ I h=>wpAny_execs_nil %[a,H,I|h]
def zJ(b:PS X st t)(c:PSs X rest u):PSs X (st::rest) (bd t u):=by
 intro pins s d H D I h;refine wpAny_execs_cons (thn (b pins s d H _ I h) λf g q=>?_);cases f with
 | next=>
   have%[a,i,j|q]:=q;exact c pins g a i D j q
 | ret v=>exact q
 | brk=>exact q
 | cont=>exact q
def Ce(a:PS X st t):PSs X [st] t:=by
 intro pins s b H D I h;refine wpAny_execs_cons (thn (a pins s b H D I h) λf c q=>?_);cases f with
 | next=>exact wpAny_execs_nil q
 | ret v=>exact q
 | brk=>exact q
 | cont=>exact q
def Inv.quiet{pins:List _}{a:St}{H:Hp}{s:Shared}(I:Inv X pins a H s):interactive X.env=false:=by simp[interactive,I.ok.kind]
abbrev jA(te:TE):TS:=λD a H=>te a H λ_ b=>D.nx a b
def Cf(b:PE X e te)(c:swapsWith e none pos.line X.env=pure false):PS X (.Expr e pos) (jA te):=by
 intro pins s a H D I h;exact wpAny_Expr_any (thP (b pins s a H _ I h) λv i x d f j g=>%[a,d,f|g]) I.quiet c
abbrev j6(te:TE):TS:=λD a H=>te a H D.rt
def Eu(b:PE X e te):PS X (.Return (some e) pos) (j6 te):=by
 intro pins s a H D I h;exact wpAny_Return_some (thP (b pins s a H _ I h) λv i x c d f g=>%[x,a,c,d,f|g])
abbrev lh(c:TT)(t u:TS):TS:=λD a H=>c a H λb d=>if b=true then t D a d else u D a d
def Gx{c:Expr}{a b:List Stmt}(m:PT X c n)(o:PSs X a t)(p:PSs X b u):PS X (.If c a b pos) (lh n t u):=by
 intro pins s f H D I h;refine wpAny_If (thT (m pins s f H _ I h) λd g i j l=>?_);cases d with
 | true=>exact o pins g f i D j l
 | false=>exact p pins g f i D j l
abbrev zK:TS:=λ_ _ _=>False
def zL:PS X st zK:=λ_ _ _ _ _ _ h=>h.elim
end
noncomputable abbrev TG:=V->St->Hp->(St->Hp->Prop)->Prop
noncomputable abbrev TGs:=List V->St->Hp->(St->Hp->Prop)->Prop
abbrev PG(X:Cx)(a:Expr)(t:TG):Prop:=
 ∀pins s (c:St) H v u Q,Inv X pins c H s->aQ v u->t v c H Q->
  (wpAny (model X.prog X.w) X.A) (assign a X.env u) (λ_ s'=>∃b d,Inv X pins b d s'/\Q b d) X.xe s
abbrev PGs(X:Cx)(ts:List Expr)(t:TGs):Prop:=
 ∀pins s (b:St) H vs us Q,Inv X pins b H s->aE vs us->t vs b H Q->
  (wpAny (model X.prog X.w) X.A) (assignInOrder ((assignEach ts X.env).map (·.2)) us) (λ_ s'=>∃a c,Inv X pins a c s'/\Q a c) X.xe s
section
variable{X:Cx}{pos:Pos}
abbrev jB(i:Nat):TG:=λv a H Q=>Q (a.set i (some v)) H
def Cg(a:X.N.Nodup)(hi:X.N[i]? =some x)(b:Loc X.env.scope x)(c:X.fn x=true\/X.env.scope.names.lookup x=some .local):PG X (.Name x pos) (jB i):=by
 intro pins s e H v u Q I r h;exact wpAny_assign_Name (ng I a hi b r (λs' d=>%[_,H,d|h]) c)
abbrev Ev:TGs:=λvs a H Q=>vs=[]/\Q a H
abbrev zM(t:TG)(u:TGs):TGs:=λvs b H Q=>∃v r,vs=v::r/\t v b H λa c=>u r a c Q
def Ch:PGs X [] Ev:=by
 intro pins s a H vs us Q I r h;have%[e|h]:=h;exact assignInOrder_nil %[a,H,I|h]
def zN{e:Expr}{u:TGs}(c:PG X e t)(d:PGs X a u)
 (f:(assignEach (e::a) X.env).map (·.2)=assign e X.env::(assignEach a X.env).map (·.2)):PGs X (e::a) (zM t u):=by
 intro pins s g H vs us Q I r h;have%[v,o,i|h]:=h;subst i;cases r with
 | cons r rr=>
   rw[f];exact assignInOrder_cons (thn (c pins s g H _ _ _ I r h) λ_ j ⟨b,l,m,n⟩=>d pins j b l _ _ Q m rr n)
abbrev zO(K:ZA)(n:Nat)(t:TGs):TG:=λv b H Q=>asR v λa=>∃xs,SqT K H a xs/\xs.length=n/\t xs b H Q
def Ew(g:X.calm=true)(h:PGs X c t)
 (i:(assignEach c X.env).length=n) (d:(assignEach c X.env).findIdx? (·.1)=none):PG X (.Tuple c k pos) (zO X.K n t):=by
 intro pins s j H v u Q I r hw;have%[a,l,xs,m,p|hw]:=eT hw;clear ‹zO _ _ _ _ _ _ _›;subst l;cases r;have%[its,f,q|y]:=I.tuple m;exact assign_Tuple_tuple (I.ok.hd g) q (by simp[i,<-p,f.length]) d λh' w=>h pins _ j H xs _ Q (I.kept λb o e=>w b o (Zt (Zv e)) e) (f) hw
abbrev pD(b:TE)(g:TG):TS:=λD a H=>b a H λx c=>g x a c D.nx
def Ex{a e:Expr}{g:TG}(c:PE X e d)(f:PG X a g)(i:swapsWithSole [a] e pos.line X.env=pure false)(hw:swappedStores [a] e X.env=pure none)
 (j:(assignEach [a] X.env).map (·.2)=[assign a X.env]):PS X (.Assign [a] e pos) (pD d g):=by
 intro pins s b H D I h;refine wpAny_Assign_stores (thP (c pins s b H _ I h) λv l x m n o p=>?_) i hw;rw[j];exact thn (f pins l b m x v _ n o p) λ_ r q=>q
def zP{i:Nat}{x:Str}{e:Expr}(b:X.N.Nodup)(hi:X.N[i]? =some x)(c:Loc X.env.scope x)(d:PE X e f)(g:swapsWith e (some (.Name x a)) pos.line X.env=pure false)(j:X.fn x=true\/X.env.scope.names.lookup x=some .local):
 PS X (.Assign [.Name x a] e pos) (pD f (jB i)):=by
 intro pins s l H D I h;exact wpAny_Assign_Name (thP (d pins s l H _ I h) λv r y m n o p=>ng n b hi c o (λt q=>%[_,m,q|p]) j) g
end
section
variable{X:Cx}{pos:Pos}
abbrev zQ(c:TT)(h:TS):TS:=λD a H=>∃W:Nat->St->Hp->Prop,(∃m,W m a H)/\∀m a H,W m a H->
 c a H λb e=>if b=true then∃N:St->Hp->Prop,(∀d f,N d f->∃g,g<m/\W g d f)/\h {D with nx:=N,ct:=N,bk:=D.nx} a e else D.nx a e
def zR(u:PassesOwn (model X.prog X.w) X.A X.env X.xe)(C:PT X c E)(G:PSs X e J):PS X (.While c e [] pos) (zQ E J):=by
 intro pins s L H D I h;have%[W,%[M|O]|g]:=h;refine wpAny_While (codeAny_whileLoop (λn s'=>∃i w,Inv X pins i w s'/\W n i w) ?_ M %[L,H,I|O]);intro n Q %[d,y,T|U];refine wpAny_passesOwn u (thT (C pins Q d y _ T (g n d y U)) λb Y z A l=>?_);cases b with
 | true=>
   have%[N,B|l]:=l;refine wpAny_passesOwn u (thn (G pins Y d z _ A l) λf s3 m=>?_);cases f with
   | next=>
     have%[a,j,o|p]:=m;have%[q,r|t]:=B a j p;exact%[q,r,a,j,o|t]
   | cont=>
     have%[a,j,o|p]:=m;have%[q,r|t]:=B a j p;exact%[q,r,a,j,o|t]
   | brk=>exact m
   | ret v=>exact m
 | false=>
   exact wpAny_execs_nil %[d,z,A|l]
end
structure It where
 go:Nat->Hp->Prop
 yld:Nat->Hp->V->Hp->Prop
 stop:Nat->Hp->Prop
abbrev mH(X:Cx)(pins:ZE)(H:Hp)(b:Addr):Prop:=
 H b=none/\b≠X.env.locals/\b∉X.fs/\(b∈X.ex\/X.s₀.heap.objs.size<=b)/\(∀x c,X.env.cells.lookup x=some c->c≠b)/\∀p∈X.pn++pins,p.1≠b
def Inv.fpOk{X:Cx}(I:Inv X pins h H s)(a:⇑s<=b)(d:f b=none):mH X pins f b:=by
 refine%[d,X6 (Zg I.lt a),I.nofs a,.inr (Yk I.sz a),λx c e z=>?_|λp g z=>?_]
 .have%[v|q]:=I.cell x c e;exact absurd (Zg q.lt (z▸a)) (Xo _)
 .exact absurd (Zg (Zv (I.pin p g).1) (z▸a)) (Xo _)
structure nh (P:Program) (w:World) (K:ZA) (tg:Expr) (J:It) (fp:List Addr) (it:Addr) (tn:Nat->Heap->Prop):Prop where
 mem:it∈fp
 obj:∀i h,tn i h->∀b∈fp,∃o,h.get? b=some o/\∀v,o.data≠ .cell v
 keep:∀i h h',tn i h->(∀b∈fp,∀o,h.get? b=some o->h'.get? b=some o)->tn i h'
 item:∀(X:Cx),X.prog=P->X.w=w->X.K=K->X.calm=true->∀i (pins:ZE) s (σ:St) H (E:ZD),Inv X pins σ H s->(∀b∈fp,mH X pins H b)->tn i s.heap->J.go i H->
  wpAny (model P w) X.A (pyNext (.ref it)) (λr s1=>∃u,r=some u/\
   wpAny (model P w) X.A (letOwnedTupleGo tg (.ref it) u) (λ_ s2=>∃x H',Inv X pins σ H' s2/\aQ x u/\J.yld i H x H'/\tn (i+1) s2.heap/\∀b∈fp,H' b=none) E s1) E s
 done:∀X,X.prog=P->X.w=w->X.K=K->X.calm=true->∀i pins s (σ:St) H E,Inv X pins σ H s->(∀b∈fp,mH X pins H b)->tn i s.heap->J.stop i H->
  wpAny (model P w) X.A (pyNext (.ref it)) (λr s1=>r=none/\Inv X pins σ H s1) E s
 self:∀A i s Q E,tn i s.heap->Q (.ref it) s->wpAny (model P w) A (pyIter (.ref it)) Q E s
noncomputable abbrev TI:=St->Hp->(It->Hp->Prop)->Prop
abbrev PIE(X:Cx)(pins:ZE)(h:St)(i:Expr)(R:It->Hp->Prop)(a:Value)(d:Shared):Prop:=
 ∃e f g J c,a= .ref e/\Inv X pins h c d/\nh X.prog X.w X.K i J f e g/\g 0 d.heap/\(∀b∈f,mH X pins c b)/\R J c
abbrev PI(X:Cx)(b iter:Expr)(c:TI):Prop:=
 ∀pins s (a:St) H R,Inv X pins a H s->c a H R->
  (wpAny (model X.prog X.w) X.A) (eval iter X.env) (λv d=>wpAny (model X.prog X.w) X.A (pyIter v) (PIE X pins a b R) X.xe d) X.xe s
def pZ(b:s.heap.get? c=some o)(d:o.cls= .type n)(e:o.data= .fields vs)
 (f:["enumerate","zip","dict_itemiterator","dict_reverseitemiterator","odict_iterator","itertools.zip_longest","itertools.pairwise"].contains n=false) (a:Q () s):wpAny M A (letOwnedTupleGo g (.ref c) u) Q E s:=by
 cases g<;> first
  | exact Z3 a
  |(cases u<;> first
   | exact Z3 a
   |(refine Z2 (wpAny_load b ?_)
     rw[d,e];show wpAny M A (if(["enumerate","zip","dict_itemiterator","dict_reverseitemiterator","odict_iterator","itertools.zip_longest","itertools.pairwise"].contains n&&vs[0]? ==some _)=true then _ else _) Q E s;rw[if_neg (by intro h;rw[f,Bool.false_and]at h;cases h)];exact Z3 a))
abbrev Itl(K:ZA)(a:Addr):It:=
 ⟨λi H=>∃xs x,SqL K H a xs/\xs[i]? =some x,λi H x b=>b=H/\∀xs,SqL K H a xs->xs[i]? =some x,λi H=>∃xs,SqL K H a xs/\xs.length<=i⟩
abbrev Itt(K:ZA)(a:Addr):It:=
 ⟨λi H=>∃xs x,SqT K H a xs/\xs[i]? =some x,λi H x b=>b=H/\∀xs,SqT K H a xs->xs[i]? =some x,λi H=>∃xs,SqT K H a xs/\xs.length<=i⟩
abbrev Itr(lo:Int)(n:Nat):It:=%[λi _=>i<n,λi H x a=>a=H/\x= .int (lo+i)|λi _=>n<=i]
def xQ{P:Program}{K:ZA}(a it:Addr):nh P w K tg (Itl K a) [it] it (λi h=>h.IsListIter it a i) where
 mem:=by simp
 obj:=λi h st b hb=>by
  have e:=by simpa using hb
  subst e;have%[o,e,c|d]:=st;exact%[o,e|λv z=>by rw[d]at z;cases z]
 keep:=λi h h' st k=>st.at λo e=>k it ∅ o e
 item:=by
  intro X hP hw hK hc i pins s σ H E I hf st hg;subst hP hw hK;have%[xs,x,hq|hx]:=hg;have%[its,rv,p|hz]:=I.list hq;have%[u,hu|ru]:=rv.get hx;have%[f0,f1,f2,f3,f4|f5]:=hf it ∅;refine wpAny_pyNext_list_item st p.isList (by simpa using hu) λh' st' sb=>?_
  have%[o,e,c|d]:=id st';exact%[u,rfl|pZ e c d (by decide) %[x,H,(I.turned (λb o hb e=>(sb.2 b hb).trans e) f0 f1 f3 f4 f5),ru,%[rfl|λys hy=>(I.list_inj hy hq)▸hx],st'|λb hb=>(hf b hb).1]]
 done:=by
  intro X hP hw hK hc i pins s σ H E I hf st hg;subst hP hw hK;have%[xs,hq|hx]:=hg;have%[its,rv,p|hz]:=I.list hq;have%[f0,f1,f2,f3,f4|f5]:=hf it ∅;have hl:=rv.length;exact wpAny_pyNext_list_end (I.ok.hd hc) st p.isList (by simp;lia) λh' eb=>%[rfl|I.turned (λb o hb e=>eb b o hb e) f0 f1 f3 f4 f5]
 self:=λ_ _ _ _ _ st h=>wpAny_pyIter_listiter st h
def vd{P:Program}{K:ZA}(a it:Addr):nh P w K tg (Itt K a) [it] it (λi h=>h.IsTupleIter it a i) where
 mem:=by simp
 obj:=λi h st b hb=>by
  have e:=by simpa using hb
  subst e;have%[o,e,c|d]:=st;exact%[o,e|λv z=>by rw[d]at z;cases z]
 keep:=λi h h' st k=>st.at λo e=>k it ∅ o e
 item:=by
  intro X hP hw hK hc i pins s σ H E I hf st hg;subst hP hw hK;have%[xs,x,hq|hx]:=hg;have%[its,rv,p|hz]:=I.tuple hq;have%[u,hu|ru]:=rv.get hx;have%[f0,f1,f2,f3,f4|f5]:=hf it ∅;refine wpAny_pyNext_tuple_item st (p) (by simpa using hu) λh' st' sb=>?_
  have%[o,e,c|d]:=id st';exact%[u,rfl|pZ e c d (by decide) %[x,H,(I.turned (λb o hb e=>(sb.2 b hb).trans e) f0 f1 f3 f4 f5),ru,%[rfl|λys hy=>(I.tuple_inj hy hq)▸hx],st'|λb hb=>(hf b hb).1]]
 done:=by
  intro X hP hw hK hc i pins s σ H E I hf st hg;subst hP hw hK;have%[xs,hq|hx]:=hg;have%[its,rv,p|hz]:=I.tuple hq;have%[f0,f1,f2,f3,f4|f5]:=hf it ∅;have hl:=rv.length;exact wpAny_pyNext_tuple_end (I.ok.hd hc) st (p) (by simp;lia) λh' eb=>%[rfl|I.turned (λb o hb e=>eb b o hb e) f0 f1 f3 f4 f5]
 self:=λ_ _ _ _ _ st h=>wpAny_pyIter_tupleiter st h
def vf{P:Program}{K:ZA}(it:Addr)(lo:Int)(n:Nat):nh P w K tg (Itr lo n) [it] it (λi h=>IsRangeIter h it (lo+(i:Nat)*1) ((n:Int) -(i:Nat)) 1) where
 mem:=by simp
 obj:=λi h st b hb=>by
  simp_all
 keep:=λi h h' st k=>k it ∅ _ st
 item:=by
  intro X hP hw hK hc i pins s σ H E I hf st hg;subst hP hw hK;have%[f0,f1,f2,f3,f4|f5]:=hf it ∅;refine(Walks.range (prog:=X.prog) (w:=X.w) (I.ok.hd hc) it lo 1 n).item i s _ _ hg st λv h' tk hv st' kk=>?_
  have%[t|rfl]:=hv;refine%[_,rfl|pZ st' rfl rfl (by decide) %[.int _,H,(I.turned (λb o hb e=>kk b o (by simpa using hb) e) f0 f1 f3 f4 f5),%[t|?_],%[rfl|rfl],st'|λb hb=>(hf b hb).1]];rw[Int.mul_one]
 done:=by
  intro X hP hw hK hc i pins s σ H E I hf st hg;have%[f0,f1,f2,f3,f4|f5]:=hf it ∅;exact wpAny_pyNext_range_end (I.ok.hd hc) st (by have:n<=i:=hg;lia) λh' eb=>%[rfl|I.turned (λb o hb e=>eb b o hb e) f0 f1 f3 f4 f5]
 self:=λ_ _ _ _ _ st h=>wpAny_pyIter_rangeiter st h
section
variable{X:Cx}{tg:Expr}
def zS{R:It->Hp->Prop}{lo hi:Int}(I:Inv X pins c H s)(d: -(2^62)<=lo)(f:lo<2^62)(g: -(2^62)<=hi)(h:hi<2^62)
 (q:R (Itr lo (hi-lo).toNat) H):wpAny (model X.prog X.w) X.A (pyIter (.ref ⇑s)) (PIE X pins c tg R) E {s with heap:=s.heap.push {cls:= .type "range",data:= .fields #[.int lo t,.int hi u,.int 1 v]},toks:=tk}:=by
 refine wpAny_pyIter_range (IsRange.new ..) (small_one d f g h) ?_;have a:Inv X pins c H {s with heap:=s.heap.push {cls:= .type "range",data:= .fields #[.int lo t,.int hi u,.int 1 v]},toks:=tk}:=I.kept λb o e=>Z7 _ e
 refine%[(s.heap.push _).objs.size,[(s.heap.push _).objs.size],_,_,H,rfl,
  a.kept λb o e=>Z7 _ e,vf _ lo _,?_,λb i=>?_|q]
 .have j:lo+((0:Nat))*1=lo:=by simp
  have l:(((hi-lo).toNat)) -((0:Nat))=Builtin.Range.rangeSize lo hi 1:=by rw[rangeSize_one];split<;> lia
  rw[j,l];exact Zj _ rfl
 .have e:b=(s.heap.push {cls:= .type "range",data:= .fields #[.int lo t,.int hi u,.int 1 v]}).objs.size:=by simpa using i
  subst e;exact a.fpOk (Zi _) (a.hok.fresh (Zi _))
abbrev zT(a:TA):TI:=λb H R=>a b H λvs c=>∃j:Int,vs=[.int j]/\ -(2^62)<=j/\j<2^62/\R (Itr 0 j.toNat) c
def xR{a:Expr}(c:Gl X "range")(d:X.mg "range"=none)(f:PA X [a] g)(i:starEach [a] X.env=[(false,eval a X.env)]):PI X tg (.Call (.Name "range" p) [a] [] pos) (zT g):=by
 intro pins s l H R I h;refine Call_ (jN I c d boot_range (PyProof.Rows.callWith_type1 (thP (f pos pins s l H _ I h) λus u vs v m n b=>?_) i rfl));have%[j,e,b,o|q]:=b;subst e;cases n with
 | cons r rr=>
   cases rr;have%[t|rfl]:=r;exact call_range_1 (zS m ⋯ ⋯ b o (by simpa using q))
abbrev zU(f:TI)(g:TG)(h:TS):TS:=λD a H=>f a H λJ j=>∃W:Nat->Nat->St->Hp->Prop,(∃m,W 0 m a j)/\∀i m a H,W i m a H->
 (J.stop i H/\D.nx a H)\/(J.go i H/\∃N:St->Hp->Prop,(∀b c,N b c->∃e,e<m/\W (i+1) e b c)/\∀x c,J.yld i H x c->g x a c λd l=>h {D with nx:=N,ct:=N,bk:=D.nx} d l)
abbrev rq(a:List Addr)(h:Heap):ZE:=a.filterMap λb=>(h.get? b).map λo=>(b,o)
def eU(a:b∈c)(e:h.get? b=some o):(b,o)∈rq c h:=mem_filterMap.mpr %[b,a|by rw[e];rfl]
def xS(a:p∈rq c h):p.1∈c/\h.get? p.1=some p.2:=by
 have%[b,d|e]:=mem_filterMap.mp a;cases q:h.get? b with
 | none=>simp_all
 | some o=>
   rw[q]at e;have f:=Za e;subst f;exact%[d|q]
def Inv.pinned(I:Inv X pins g H s)(h:∀b∈a,mH X pins H b)(i:∀b∈a,∃o,s.heap.get? b=some o/\∀v,o.data≠ .cell v):Inv X (pins++rq a s.heap) g H s:=
 I.pins_of λp j=>(Xs j).elim (λz=>I.pin p (Yy _ z)) λz=>by
  have%[c|e]:=xS z;have%[l,m,n|_]:=h p.1 c;have%[o,f|d]:=i p.1 c;rw[e]at f;cases f;exact%[e,l,m,n|d]
def Inv.unpinned(I:Inv X (pins++pl) a H s):Inv X pins a H s:=I.pins_of λp b=>I.pin p (Yy _ (Yx _ b))
def Ey(A:PassesOwn (model X.prog X.w) X.A X.env X.xe)(hc:X.calm=true)(hi:PI X tg iter wi)(hg:PG X tg g)(c:PSs X B tb)
 (hs:∀x,foldedSetIterable iter X.env x=pure x):PS X (.For tg iter B [] pos) (zU wi g tb):=by
 intro pins s σ H D I h;refine wpAny_For (thn (hi pins s σ H _ I h) λv s1 h1=>thn h1 λac s2 h2=>?_) hs;have%[it,M,tn,J,H2,e,I2,T,Q,f2,W,%[m0|w0]|C]:=h2;subst e;have j:∀{w:Hp},(∀b∈M,w b=none)->∀b∈M,mH X pins w b:=λhn b c=>%[hn b c|(f2 b c).2]
 refine codeAny_forLoop_any (λn s'=>∃i l w,Inv X pins l w s'/\tn i s'.heap/\(∀b∈M,w b=none)/\W i n l w) ?_ m0 %[0,σ,H2,I2,Q,λb c=>(f2 b c).1|w0];intro n s3 %[i,p,O,I3,E,G|w3];rcases C i n p O w3 with⟨stop,qn⟩|⟨go,N,hN,step⟩
 .refine wpAny_passesOwn A (thn (T.done X rfl rfl rfl hc i pins s3 p O X.xe I3 (j G) E stop) λr s4 ⟨U,I4⟩=>?_);subst U;exact wpAny_execs_nil %[p,O,I4|qn]
 .refine wpAny_passesOwn A (thn (T.item X rfl rfl rfl hc i pins s3 p O X.xe I3 (j G) E go) λr s4 ⟨u,U,h4⟩=>?_);subst U;refine wpAny_passesOwn A (thn h4 λ_ s5 ⟨x,H5,I5,r5,y5,z,Y⟩=>wpAny_passesOwn A (thn (hg _ s5 p H5 x u _ (I5.pinned (j Y) (T.obj _ _ z)) r5 (step x H5 y5)) λ_ s6 ⟨ab,H6,I6,q6⟩=>wpAny_passesOwn A (thn (c _ s6 ab H6 _ I6 q6) λf s7 y=>?_)));have again:∀{a:St} {q:Hp},Inv X _ a q s7->N a q->∃m,m<n/\∃i l w,Inv X pins l w s7/\tn i s7.heap/\(∀b∈M,w b=none)/\W i m l w:=λ{a q} t L=>by
   have%[m',hm|w7]:=hN a q L;refine%[m',hm,i+1,a,q,t.unpinned,T.keep _ _ _ z λb c o e=>(t.pin _ (Yy _ (Yy _ (eU c e)))).1,λb c=>?_|w7];have%[o,e|d]:=T.obj _ _ z b c;exact(t.pin _ (Yy _ (Yy _ (eU c e)))).2.1
  cases f with
  | next=>have%[a,q,t|L]:=y;exact again t L
  | cont=>have%[a,q,t|L]:=y;exact again t L
  | brk=>have%[a,q,t|y]:=y;exact%[a,q,t.unpinned|y]
  | ret v=>have%[x7,a,q,t,r7|y]:=y;exact%[x7,a,q,t.unpinned,r7|y]
end
def aZ{K:ZA}{g:TG}{l:TS}{D:lg}(Pv:Nat->St->Hp->Prop)(o:Pv 0 b H)(r:∀i b H,i<=xs.length->Pv i b H->SqL K H a xs)
 (s:∀i x b H,xs[i]? =some x->Pv i b H->g x b H λc h=>l {D with nx:=Pv (i+1),ct:=Pv (i+1),bk:=D.nx} c h) (t:∀b H,Pv xs.length b H->D.nx b H):
 ∃W:Nat->Nat->St->Hp->Prop,(∃m,W 0 m b H)/\∀i m b H,W i m b H->
  ((Itl K a).stop i H/\D.nx b H)\/((Itl K a).go i H/\∃N:St->Hp->Prop,(∀d f,N d f->∃n,n<m/\W (i+1) n d f)/\∀x f,(Itl K a).yld i H x f->g x b f λc h=>l {D with nx:=N,ct:=N,bk:=D.nx} c h):=by
 refine%[λi m b H=>m=xs.length-i/\i<=xs.length/\Pv i b H,%[xs.length,by simp,Xj _|o]|?_];intro i m b H %[rfl,hi|p];have q:=r i b H hi p;by_cases j:i<xs.length
 .refine .inr %[%[xs,xs[i],q|by simp],Pv _,λd f u=>%[xs.length-(i+1),⋯,rfl,j|u]|λx f y=>?_];have%[e|y]:=y;subst e;exact s i x b _ (y xs q) p
 .have e:i=xs.length:=by lia
  subst e;exact .inl %[%[xs,q|Zi _]|t b H p]
def eM{lo:Int}{g:TG}{j:TS}{D:lg}(Pv:Nat->St->Hp->Prop)(o:Pv 0 a H)
 (q:∀i a H,i<n->Pv i a H->g (.int (lo+i)) a H λb h=>j {D with nx:=Pv (i+1),ct:=Pv (i+1),bk:=D.nx} b h) (r:∀a H,Pv n a H->D.nx a H):
 ∃W:Nat->Nat->St->Hp->Prop,(∃m,W 0 m a H)/\∀i m a H,W i m a H->
  ((Itr lo n).stop i H/\D.nx a H)\/((Itr lo n).go i H/\∃N:St->Hp->Prop,(∀c d,N c d->∃l,l<m/\W (i+1) l c d)/\∀x d,(Itr lo n).yld i H x d->g x a d λb h=>j {D with nx:=N,ct:=N,bk:=D.nx} b h):=by
 refine%[λi m a H=>m=n-i/\i<=n/\Pv i a H,%[n,by simp,Xj _|o]|?_];intro i m a H %[rfl,hi|p];by_cases f:i<n
 .refine .inr %[f,Pv _,λc d s=>%[n-(i+1),⋯,rfl,f|s]|λx d y=>?_];have%[e|y]:=y;subst e y;exact q i a _ f p
 .have e:i=n:=by lia
  subst e;exact .inl %[Zi _|r a H p]
noncomputable abbrev R2:=V->V->Hp->VK->Prop
abbrev OpR(X:Cx)(f:Value->Value->Sem Value)(r:R2):Prop:=
 ∀pins s (a:St) H x y v u Q,Inv X pins a H s->aQ x v->aQ y u->r x y H Q->
  (wpAny (model X.prog X.w) X.A) (f v u) (EP X pins a Q) X.xe s
abbrev UnR(X:Cx)(f:Value->Sem Value)(r:V->Hp->VK->Prop):Prop:=
 ∀pins s (a:St) H x v Q,Inv X pins a H s->aQ x v->r x H Q->
  (wpAny (model X.prog X.w) X.A) (f v) (EP X pins a Q) X.xe s
abbrev cq(X:Cx)(f:Value)(r:List V->Hp->VK->Prop):Prop:=
 ∀pins s (a:St) H xs us Q,Inv X pins a H s->aE xs us->r xs H Q->
  (wpAny (model X.prog X.w) X.A) (call f us) (EP X pins a Q) X.xe s
abbrev TruR(X:Cx)(r:V->Hp->(Bool->Hp->Prop)->Prop):Prop:=
 ∀pins s (a:St) H x v Q,Inv X pins a H s->aQ x v->r x H Q->
  (wpAny (model X.prog X.w) X.A) (truthy v) (TP X pins a Q) X.xe s
abbrev tOp(r:R2)(b c:TE):TE:=λa H Q=>b a H λx d=>c a d λy e=>r x y e Q
abbrev tUn(r:V->Hp->VK->Prop)(a:TE):TE:=λb H Q=>a b H λx c=>r x c Q
abbrev rI(C:Int->Int->Prop)(g:Int->Int->V):R2:=λx y H Q=>asI x λi=>asI y λj=>C i j/\Q (g i j) H
abbrev rI0(g:Int->Int->V):R2:=λx y H Q=>asI x λi=>asI y λj=>Q (g i j) H
abbrev rU(g:Int->V):V->Hp->VK->Prop:=λx H Q=>asI x λi=>Q (g i) H
section
variable{X:Cx}{a b c:Expr}{ta tb tc:TE}{pos:Pos}
def Ez(m:PE X a ta)(n:PE X b tb){pins:List _}{s:Shared}{d:St}{H:Hp}{R:V->V->Hp->Prop}(I:Inv X pins d H s)
 (h:ta d H λx l=>tb d l λy e=>R x y e) {Q:ZD} {f:Value->Value->Sem Value}
 (o:∀v u j x y e,Inv X pins d e j->aQ x v->aQ y u->R x y e->wpAny (model X.prog X.w) X.A (f v u) Q X.xe j):
 (wpAny (model X.prog X.w) X.A) (eval a X.env) (λv g=>wpAny (model X.prog X.w) X.A (eval b X.env) (λu i=>wpAny (model X.prog X.w) X.A (f v u) Q X.xe i) X.xe g) X.xe s:=by
 exact thP (m pins s d H _ I h) λv p x l q r t=>thP (n pins p d l _ q t) λu j y e w z A=>o v u j x y e w r z A
def Gy{r:R2}(d:OpR X (binaryOp op) r)(e:PE X a ta)(f:PE X b tb):PE X (.BinOp a op b pos) (tOp r ta tb):=by
 intro pins s g H Q I h;exact wpAny_BinOp (Ez e f I h λv u i x y j l m n q=>d pins i g j x y v u Q l m n q)
def Gz(e:UnR X (unaryOp op) r)(f:PE X a ta):PE X (.UnaryOp op a pos) (tUn r ta):=by
 intro pins s d H Q I h;exact UnaryOp_ (thP (f pins s d H _ I h) λv g x i j l m=>e pins g d i x v Q j l m)
def opI{f:Value->Value->Sem Value}{C:Int->Int->Prop}{g:Int->Int->Int}
 (rule:∀i j t u s Q E,C i j->Q (.int (g i j) s.toks) {s with toks:=s.toks+1}->wpAny (model X.prog X.w) X.A (f (.int i t) (.int j u)) Q E s):
 OpR X f (rI C λi j=> .int (g i j)):=by
 intro pins s n H x y v u Q I d e h;have%[i,rfl|l]:=iP h;have%[j,rfl,m|q]:=iP l;have%[t|rfl]:=d;have%[t'|rfl]:=e;exact rule i j t t' s _ _ m %[.int _,H,I.tok _,%[_|rfl]|q]
def GA{g:Int->Int->Int}
 (rule:∀(i j:Int) (t u:Tok) (s:Shared) (Q:ZD) (E:ZD),Q (.int (g i j) s.toks) {s with toks:=s.toks+1}->wpAny (model X.prog X.w) X.A (f (.int i t) (.int j u)) Q E s):
 OpR X f (rI0 λi j=> .int (g i j)):=by
 intro pins s m H x y v u Q I d e h;have%[i,rfl|l]:=iP h;have%[j,rfl|q]:=iP l;have%[t|rfl]:=d;have%[t'|rfl]:=e;exact rule i j t t' s _ _ %[.int _,H,I.tok _,%[_|rfl]|q]
def EA{g:Int->Int->Bool}
 (rule:∀(i j:Int) (t u:Tok) (s:Shared) (Q:ZD) (E:ZD),Q (.bool (g i j)) s->wpAny (model X.prog X.w) X.A (f (.int i t) (.int j u)) Q E s):
 OpR X f (rI0 λi j=> .bl (g i j)):=by
 intro pins s m H x y v u Q I d e h;have%[i,rfl|l]:=iP h;have%[j,rfl|q]:=iP l;have%[t|rfl]:=d;have%[t'|rfl]:=e;exact rule i j t t' s _ _ %[.bl _,H,I,rfl|q]
abbrev GB(i j:Int):Prop:=0<j/\j<1073741824
abbrev zV(i j:Int):Prop:=(-(2^64)<i/\i<2^64)\/(-(2^64)<j/\j<2^64)
def zV.ok{i j:Int}(h:zV i j):IntMulOk i j:=by
 rcases h with⟨d,e⟩|⟨d,e⟩
 .exact .of_left (intBits_le_64 d e)
 .exact .of_right (intBits_le_64 d e)
def zW:OpR X (binaryOp .Add) (rI0 λi j=> .int (i+j)):=GA λ_ _ _ _ _ _ _ q=>add_int q
def EB:OpR X (binaryOp .Sub) (rI0 λi j=> .int (i-j)):=GA λ_ _ _ _ _ _ _ q=>sub_int q
def zX:OpR X (binaryOp .Mult) (rI zV λi j=> .int (i*j)):=opI λ_ _ _ _ _ _ _ d q=>mul_int q d.ok
def Ci:OpR X (binaryOp .FloorDiv) (rI GB λi j=> .int (i/j)):=opI λi j _ _ _ _ _ d q=>by
 have e:(0:Int)<j:=d.1;have f:j<1073741824:=d.2;exact floordiv_int ⋯ (by rw[Int.fdiv_eq_ediv_of_nonneg i ⋯];exact q) (.inl (PyProof.noPylong_small ⋯))
def EC:OpR X (binaryOp .Mod) (rI (λ_ j=>0<j) λi j=> .int (i%j)):=opI λi j _ _ _ _ _ d q=>by
 have e:(0:Int)<j:=d;exact mod_int' ⋯ (by rw[Int.fmod_eq_emod_of_nonneg i ⋯];exact q)
def unI{g:Int->Int}
 (rule:∀(i:Int) (t:Tok) (s:Shared) (Q:ZD) (E:ZD),Q (.int (g i) s.toks) {s with toks:=s.toks+1}->wpAny (model X.prog X.w) X.A (f (.int i t)) Q E s):
 UnR X f (rU λi=> .int (g i)):=by
 intro pins s e H x v Q I d h;have%[i,rfl|q]:=iP h;have%[t|rfl]:=d;exact rule i t s _ _ %[.int _,H,I.tok _,%[_|rfl]|q]
def ED:UnR X (unaryOp .USub) (rU λi=> .int (-i)):=unI λ_ _ _ _ _ q=>neg_int q
end
abbrev EE:V->V->Bool
 | .non,.non=>true| .non,.int _=>true| .int _,.non=>true| .non,.bl _=>true| .bl _,.non=>true| .non,.str _=>true| .str _,.non=>true
 | .int _,.int _=>true| .bl _,.bl _=>true| .str _,.str _=>true| .byt _,.byt _=>true
 | .int _,.str _=>true| .str _,.int _=>true| .bl _,.str _=>true| .str _,.bl _=>true
 | _,_=>false
def zqD:(EE .non .non=true)/\(∀j,EE .non (.int j)=true)/\(∀i,EE (.int i) .non=true)/\(∀j,EE .non (.bl j)=true)/\(∀i,EE (.bl i) .non=true)/\(∀j,EE .non (.str j)=true)/\(∀i,EE (.str i) .non=true)/\(∀i j,EE (.int i) (.int j)=true)/\(∀i j,EE (.bl i) (.bl j)=true)/\(∀i j,EE (.str i) (.str j)=true)/\(∀i j,EE (.byt i) (.byt j)=true)/\(∀i j,EE (.int i) (.str j)=true)/\(∀i j,EE (.str i) (.int j)=true)/\(∀i j,EE (.bl i) (.str j)=true)/\(∀i j,EE (.str i) (.bl j)=true):=by and_intros<;> intros<;> rfl
abbrev rEq:R2:=λx y H Q=>EE x y=true/\Q (.bl (decide (x=y))) H
abbrev rNe:R2:=λx y H Q=>EE x y=true/\Q (.bl (!decide (x=y))) H
def wF:decide (V.int i=V.int j)=(i==j):=by
 rw[Bool.eq_iff_iff];simp
def zY:decide (V.bl i=V.bl j)=(i==j):=by
 rw[Bool.eq_iff_iff];simp
def wG:decide (V.str i=V.str j)=(i==j):=by
 rw[Bool.eq_iff_iff];simp
def wH:decide (V.byt i=V.byt j)=(i.toList==j.toList):=by
 rw[Bool.eq_iff_iff]
 simp_all
section
variable{X:Cx}{a b c:Expr}{ta tb tc:TE}{pos:Pos}
def aU(I:Inv X pins d H s)(q:Q (.bl k) H)(e:k=f):EP X pins d Q (.bool f) s:=by
 subst e;exact%[.bl k,H,I,rfl|q]
def GC:OpR X (compareOp .Eq) rEq:=by
 intro pins s g H x y v u Q I f d h;have%[e|q]:=h;cases x with
 | non=>
   cases f;cases y with
   | non=>cases d;exact PySem.EqNone.eq_none_none (aU I q ∅)
   | bl j=>cases d;exact PySem.EqNone.eq_none_bool (aU I q ∅)
   | int j=>have%[t'|rfl]:=d;exact PySem.EqNone.eq_none_int (aU I q ∅)
   | str j=>have%[t'|rfl]:=d;exact PySem.EqNone.eq_none_str (aU I q ∅)
   | _=>exact absurd (show false=true from e) Zu
 | bl i=>
   cases f;cases y with
   | non=>cases d;exact PySem.EqNone.eq_bool_none (aU I q ∅)
   | bl j=>cases d;exact eq_bool (aU I q zY)
   | str j=>have%[t'|rfl]:=d;exact PySem.EqMixed.eq_bool_str (aU I q ∅)
   | _=>exact absurd (show false=true from e) Zu
 | int i=>
   have%[t|rfl]:=f;cases y with
   | non=>cases d;exact PySem.EqNone.eq_int_none (aU I q ∅)
   | int j=>have%[t'|rfl]:=d;exact eq_int (aU I q wF)
   | str j=>have%[t'|rfl]:=d;exact PySem.EqMixed.eq_int_str (aU I q ∅)
   | _=>exact absurd (show false=true from e) Zu
 | str i=>
   have%[t|rfl]:=f;cases y with
   | non=>cases d;exact PySem.EqNone.eq_str_none (aU I q ∅)
   | bl j=>cases d;exact PySem.EqMixed.eq_str_bool (aU I q ∅)
   | int j=>have%[t'|rfl]:=d;exact PySem.EqMixed.eq_str_int (aU I q ∅)
   | str j=>have%[t'|rfl]:=d;exact eq_str (aU I q wG)
   | _=>exact absurd (show false=true from e) Zu
 | byt i=>
   have%[t|rfl]:=f;cases y with
   | byt j=>have%[t'|rfl]:=d;exact PySem.W.eq_bytes (aU I q wH)
   | _=>exact absurd (show false=true from e) Zu
 | _=>cases y<;> exact absurd (show false=true from e) Zu
def GD:OpR X (compareOp .NotEq) rNe:=by
 intro pins s g H x y v u Q I f d h;have%[e|q]:=h;cases x with
 | non=>
   cases f;cases y with
   | non=>cases d;exact PySem.EqNone.ne_none_none (aU I q ∅)
   | bl j=>cases d;exact PySem.EqNone.ne_none_bool (aU I q ∅)
   | int j=>have%[t'|rfl]:=d;exact PySem.EqNone.ne_none_int (aU I q ∅)
   | str j=>have%[t'|rfl]:=d;exact PySem.EqNone.ne_none_str (aU I q ∅)
   | _=>exact absurd (show false=true from e) Zu
 | bl i=>
   cases f;cases y with
   | non=>cases d;exact PySem.EqNone.ne_bool_none (aU I q ∅)
   | bl j=>cases d;exact ne_bool (aU I q (congrArg not zY))
   | str j=>have%[t'|rfl]:=d;exact PySem.EqMixed.ne_bool_str (aU I q ∅)
   | _=>exact absurd (show false=true from e) Zu
 | int i=>
   have%[t|rfl]:=f;cases y with
   | non=>cases d;exact PySem.EqNone.ne_int_none (aU I q ∅)
   | int j=>have%[t'|rfl]:=d;exact ne_int (aU I q (congrArg not wF))
   | str j=>have%[t'|rfl]:=d;exact PySem.EqMixed.ne_int_str (aU I q ∅)
   | _=>exact absurd (show false=true from e) Zu
 | str i=>
   have%[t|rfl]:=f;cases y with
   | non=>cases d;exact PySem.EqNone.ne_str_none (aU I q ∅)
   | bl j=>cases d;exact PySem.EqMixed.ne_str_bool (aU I q ∅)
   | int j=>have%[t'|rfl]:=d;exact PySem.EqMixed.ne_str_int (aU I q ∅)
   | str j=>have%[t'|rfl]:=d;exact ne_str (aU I q (congrArg not wG))
   | _=>exact absurd (show false=true from e) Zu
 | byt i=>
   have%[t|rfl]:=f;cases y with
   | byt j=>have%[t'|rfl]:=d;exact PySem.W.ne_bytes (aU I q (congrArg not wH))
   | _=>exact absurd (show false=true from e) Zu
 | _=>cases y<;> exact absurd (show false=true from e) Zu
def GE:OpR X (compareOp .Lt) (rI0 λi j=> .bl (decide (i<j))):=EA λ_ _ _ _ _ _ _ q=>lt_int q
def GF:OpR X (compareOp .LtE) (rI0 λi j=> .bl (decide (i<=j))):=EA λ_ _ _ _ _ _ _ q=>le_int q
def GG:OpR X (compareOp .Gt) (rI0 λi j=> .bl (decide (j<i))):=EA λ_ _ _ _ _ _ _ q=>gt_int q
def xT:OpR X (compareOp .In) (λx y H Q=>∃i j,x= .str i/\y= .str j/\Q (.bl (!(Builtin.Str.occurrences j i 0 j.length 1).isEmpty)) H):=by
 intro pins s f H x y v u Q I d e h;have%[i,j,rfl,rfl|q]:=h;have%[t|rfl]:=d;have%[t'|rfl]:=e;exact in_str (aU I q rfl)
def EF:OpR X (compareOp .Is) (λx y H Q=>y= .non/\Q (.bl (decide (x= .non))) H):=by
 intro pins s f H x y v u Q I d e h;have%[rfl|q]:=h;cases e;refine is_none_gen (aU I q ?_);cases x<;> first
  | lia
  |(have%[t|rfl]:=d;rfl)
def Cj:OpR X (compareOp .IsNot) (λx y H Q=>y= .non/\Q (.bl (!decide (x= .non))) H):=by
 intro pins s f H x y v u Q I d e h;have%[rfl|q]:=h;cases e;refine isnot_none_gen (aU I q ?_);cases x<;> first
  | lia
  |(have%[t|rfl]:=d;rfl)
def OpR.or(h:OpR X f r)(h':OpR X f i):OpR X f (λx y H Q=>r x y H Q\/i x y H Q):=by
 intro pins s d H x y v u Q I e g q;rcases q with q|q
 .exact h pins s d H x y v u Q I e g q
 .exact h' pins s d H x y v u Q I e g q
def nomark(b:Expr)(h:op≠ .In)(f:op≠ .NotIn):behindInMarks op b=false:=by
 have d:(op==CmpOp.In)=false:=by lia
 have e:(op==CmpOp.NotIn)=false:=by lia
 cases b<;> simp[behindInMarks,d,e]
def Ck{r:R2}(d:OpR X (compareOp op) r)(e:PE X a ta)(f:PE X b tb)(g:behindInMarks op b=false):PE X (.Compare a [op] [b] pos) (tOp r ta tb):=by
 intro pins s i H Q I h;exact wpAny_Compare1 (Ez e f I h λv u j x y l m n o q=>d pins j i l x y v u Q m n o q) g
abbrev zZ(t:TE):TT:=λd H Q=>t d H λx e=>asB x λk=>Q k e
def Cl(f:OpR X (compareOp op) r)(g:PE X a ta)(i:PE X b tb)(j:behindInMarks op b=false):PT X (.Compare a [op] [b] pos) (zZ (tOp r ta tb)):=by
 intro pins s d H Q I h;refine wpAny_isTrue_Compare1 (thP (g pins s d H _ I h) λv l x m n o p=>thP (i pins l d m _ n p) λu q y t w A B=>
  thP (f pins q d t x y v u _ w o A B) λc J z C E G e=>?_) j
 have%[k,rfl|e]:=pY e;cases G;exact wpAny_truthy_bool %[C,E|e]
abbrev vg(r f:R2)(ta tb tc:TE):TE:=λd H Q=>ta d H λx g=>tb d g λy h=>r x y h λz e=>asB z λk=>
 (if k=true then tc d e λi j=>f y i j Q else Q (.bl false) e)
def z0(n:OpR X (compareOp op) r)(i:OpR X (compareOp e) o)(p:PE X a ta)(q:PE X b tb)(t:PE X c tc)
 (w:lastMarks [op,e] [b,c]=false):PE X (.Compare a [op,e] [b,c] pos) (vg r o ta tb tc):=by
 intro pins s f H Q I h;refine Compare_chain (thP (p pins s f H _ I h) λv A x B C E G=>chain_link (thP (q pins A f B _ C G) λu J y L M j N=>
  thP (n pins J f L x y v u _ M E j N) λd O z l m T g=>?_)) w
 have%[k,rfl|g]:=pY g;cases T;refine wpAny_truthy_bool ?_;cases k with
 | false=>exact ite_ff %[.bl false,l,m,rfl|g]
 | true=>exact ite_tt (chain_last (thP (t pins O f l _ m g) λU Y z' H4 I4 r4 q4=>i pins Y f H4 y z' u U Q I4 j r4 q4))
abbrev z5(K:ZA)(x:V)(H:Hp)(k:Bool):Prop:=
 match x with
 | .non=>k=false
 | .bl b=>k=b
 | .int i=>k=(i != 0)
 | .str y=>y.length<=sizeLine/\k=((y.length:Int) != 0)
 | .byt y=>y.size<=sizeLine/\k=((y.size:Int) != 0)
 | .ref p=>(∃xs,SqL K H p xs/\k=!xs.isEmpty)\/(∃xs,SqT K H p xs/\k=!xs.isEmpty)\/∃d,H p=some (.dK d)/\k=!d.isEmpty
 | _=>False
def vh{e:Type}{d:List (e×V)}{vs:List _}(r:KV d vs):(!vs.isEmpty)=!d.isEmpty:=by
 cases r<;> rfl
def ni(r:aE xs its):(!its.toArray.isEmpty)=!xs.isEmpty:=by
 cases r<;> simp
def rA:sizeLine<2^63:=by decide
def EG:TruR X (λx H Q=>∃k,z5 X.K x H k/\Q k H):=by
 intro pins s w H x v Q I j h;have%[k,e|q]:=h;have z:=rA;have A:sizeLine=16777216:=sizeLine_eq;cases x with
 | non=>
   cases j;have d:k=false:=e;subst d;exact truthy_none %[H,I|q]
 | bl b=>
   cases j;have d:k=b:=e;subst d;exact wpAny_truthy_bool %[H,I|q]
 | int i=>
   have%[t|rfl]:=j;have d:k=(i != 0):=e;subst d;exact PySem.P.truthy_int %[H,I|q]
 | str y=>
   have%[t|rfl]:=j;obtain⟨o,d⟩:y.length<=sizeLine/\k=((y.length:Int) != 0):=e;subst d;exact PySem.P.truthy_str ⋯ %[H,I.tok _|q]
 | byt y=>
   have%[t|rfl]:=j;obtain⟨o,d⟩:y.size<=sizeLine/\k=((y.size:Int) != 0):=e;subst d;exact PySem.W.truthy_bytes ⋯ %[H,I.tok _|q]
 | ref p=>
   cases j;have d:(∃xs,SqL X.K H p xs/\k=!xs.isEmpty)\/(∃xs,SqT X.K H p xs/\k=!xs.isEmpty)\/∃f,H p=some (.dK f)/\k=!f.isEmpty:=e;rcases d with⟨xs,l,d⟩|⟨xs,l,d⟩|⟨f,l,d⟩
   .subst d;have%[its,r,pl|n]:=I.list l;have g:=r.length;exact wpAny_truthy_list pl.isList (by simp only[Zp];lia) %[H,I.tok _|(ni r)▸q]
   .subst d;have%[its,r,pl|n]:=I.tuple l;have g:=r.length;exact truthy_tuple pl (by simp only[Zp];lia) %[H,I.tok _|(ni r)▸q]
   .subst d;obtain⟨n,u,vs,r,m⟩:f.length<=sizeLine/\(p==sysModules)=false/\∃vs,KV f vs/\s.heap.DictOf (aM X.prog X.w) p vs:=I.hok p _ l;have g:f.length=vs.length:=Paired.length r;exact wpAny_truthy_dict u m ⋯ %[H,I.tok _|(vh r)▸q]
 | _=>exact(show False from e).elim
def z6(g:PE X a ta)(i:∀d,isTrue a X.env d=(do let v<-d;standAt a.pos;holding [v] (truthy v))):
 PT X a (λe H Q=>ta e H λx f=>∃k,z5 X.K x f k/\Q k f):=by
 intro pins s e H Q I h;exact isTrue_plain (thP (g pins s e H _ I h) λv j x l m n o=>EG pins j e l x v Q m n o) (i _)
def vk:OpR X (binaryOp .Add) (λx y H Q=>∃i j,x= .str i/\y= .str j/\i.length+j.length<=sizeLine/\Q (.str (i++j)) H):=by
 intro pins s g H x y v u Q I d e h;have%[i,j,rfl,rfl,f|q]:=h;have%[t|rfl]:=d;have%[t'|rfl]:=e;exact add_str (λt' tk=>%[.str _,H,I.tok _,%[_|rfl]|q]) f
def dg(r:aE [x] us):∃u,us=[u]/\aQ x u:=by
 cases r with
 | cons d e=>cases e;exact%[_,rfl|d]
def j7(r:aE [x,y] us):∃u d,us=[u,d]/\aQ x u/\aQ y d:=by
 cases r with
 | cons e f=>
   cases f with
   | cons g h=>cases h;exact%[_,_,rfl,e|g]
def z7:cq X (.builtin "abs") (λxs H Q=>∃i,xs=[.int i]/\Q (.int (if i<0 then -i else i)) H):=by
 intro pins s d H xs us Q I r h;have%[i,rfl|q]:=h;have%[u,rfl,t|rfl]:=dg r;exact call_abs_int λu tk=>%[.int _,H,I.tok _,%[_|rfl]|q]
def xU(e:X.calm=true):cq X (.builtin "max") (λxs H Q=>∃i j,xs=[.int i,.int j]/\Q (.int (if j>i then j else i)) H):=by
 intro pins s f H xs us Q I r h;have%[i,j,rfl|q]:=h;have%[u,g,rfl,%[t|rfl],t'|rfl]:=j7 r;refine max_two_ints (I.ok.hd e) λh' tk k=>%[_,H,I.kept k,?_|q]
 by_cases d:j>i
 .rw[if_pos d,if_pos d];exact%[_|rfl]
 .rw[if_neg d,if_neg d];exact%[_|rfl]
def xV(e:X.calm=true):cq X (.builtin "min") (λxs H Q=>∃i j,xs=[.int i,.int j]/\Q (.int (if j<i then j else i)) H):=by
 intro pins s f H xs us Q I r h;have%[i,j,rfl|q]:=h;have%[u,g,rfl,%[t|rfl],t'|rfl]:=j7 r;refine min_two_ints (I.ok.hd e) λh' tk k=>%[_,H,I.kept k,?_|q]
 by_cases d:j<i
 .rw[if_pos d,if_pos d];exact%[_|rfl]
 .rw[if_neg d,if_neg d];exact%[_|rfl]
def xX:cq X (.type "int") (λxs H Q=>(∃i,xs=[.int i]/\Q (.int i) H)\/∃k,xs=[.bl k]/\Q (.int (if k then 1 else 0)) H):=by
 intro pins s e H xs us Q I r h;rcases h with⟨i,rfl,q⟩|⟨k,rfl,q⟩
 .have%[u,rfl,t|rfl]:=dg r;exact call_int_int %[.int i,H,I,%[_|rfl]|q]
 .have%[u,rfl|d]:=dg r;cases d;exact call_int_bool %[.int _,H,I.tok _,%[_|rfl]|q]
abbrev Cm(K:ZA)(x:V)(H:Hp)(n:Nat):Prop:=
 match x with
 | .str y=>y.length<=sizeLine/\n=y.length
 | .byt y=>y.size<=sizeLine/\n=y.size
 | .ref p=>(∃xs,SqL K H p xs/\n=xs.length)\/∃xs,SqT K H p xs/\n=xs.length
 | _=>False
def z8:cq X (.builtin "len") (λxs H Q=>∃x n,xs=[x]/\Cm X.K x H n/\Q (.int n) H):=by
 intro pins s o H xs us Q I r h;have%[x,n,rfl,e|q]:=h;have%[u,rfl|g]:=dg r;have v:=sizeLine_eq;cases x with
 | str y=>
   have%[t|rfl]:=g;obtain⟨l,f⟩:y.length<=sizeLine/\n=y.length:=e;subst f;exact len_str ⋯ %[.int _,H,I.tok _,%[_|rfl]|q]
 | byt y=>
   have%[t|rfl]:=g;obtain⟨l,f⟩:y.size<=sizeLine/\n=y.size:=e;subst f;exact PySem.W.len_bytes ⋯ %[.int _,H,I.tok _,%[_|rfl]|q]
 | ref p=>
   cases g;have f:=e;rcases f with⟨xs,i,f⟩|⟨xs,i,f⟩
   .subst f;have%[its,j,pl|m]:=I.list i;have d:=j.length;exact Calls.call_len_list pl.isList (by simp only[Zp];lia) %[.int xs.length,H,I.tok _,%[_|by simp only[Zp];rw[d]]|q]
   .subst f;have%[its,j,pl|m]:=I.tuple i;have d:=j.length;exact len_tuple pl (by simp only[Zp];lia) %[.int xs.length,H,I.tok _,%[_|by simp only[Zp];rw[d]]|q]
 | _=>exact(e).elim
end
structure vm (h:Heap) (x dx C:Addr) (mA:ZC):Prop where
 obj:h.get? x=some (instObj C dx)
 ns:h.Ns1 dx mA
 ne:dx≠x
def xY{h:Heap}{c:ZC}(n:h.Ns1 f c):∃d,h.get? f=some d/\∀name,lookIn name d=some (c name):=by
 have%[o,g,r,i,j,l,_|m]:=n;refine%[o,i|λname=>?_];have e:=m name;unfold nsFind findBy at e;rw[<-Array.find?_toList]at e;unfold lookIn;rw[j];dsimp only
 split
 .rename_i y q
  rw[q]at e;exact congrArg some e
 .rename_i q
  rw[q]at e;have a:g.toList.any (·.refKey)=false:=by
   rw[List.any_eq_false];intro y p;have%[z,t|b]:=l y (mem_toList_iff.mp p);simp[DictEntry.refKey,b]
  rw[if_neg (a▸Zu)];exact congrArg some e
def vm.look(I:vm h x b C c):∃a,PySem.W.InstAt h x (instObj C b) C (some a)/\∀name,lookIn name a=some (c name):=
 let⟨a,d,e⟩:=xY I.ns
 %[a,%[I.obj,rfl,rfl|d]|e]
section
#where
variable{K:ZA}{x dx C f:Addr}{mA:ZC}{name:Str}{v:Value}
def Cn(X:K.In s.heap)(I:vm s.heap x dx C mA)(c:plainGet K C name=true)(d:hasDictIn K C=true)
 (e:findIn K (.ref C) name=some none) (g:mA name=some v) (a:handedIn v=true) (h:Q v {s with toks:=s.toks+1}):
 ↥A (getAttr (.ref x) name b) Q E s:=by
 have%[j,J|i]:=I.look;exact PySem.W.get_value X J (plainGet_of c).1 (PySem.W.findObj_own d e rfl (by rw[i,g])) a h
def z9(X:K.In s.heap)(I:vm s.heap x dx C mA)(a:plainGet K C name=true)
 (b:findIn K (.ref C) name=some (some (.ref f))) (c:isFn K (.ref f)=true) (d:mA name=none) (h:Q (.ref f,[.ref x]) s):
 ↥A (getMethod (.ref x) name pl) Q E s:=by
 have%[e,J|g]:=I.look;exact PySem.W.method_fn X J (plainGet_of a).1 (plainGet_of a).2 b (beq_iff_eq.mp c) (by show(lookIn name e).map _=some false;rw[g,d];rfl) h
def Co(X:K.In s.heap)(I:vm s.heap x dx C mA)
 (j:findIn K (.ref C) "__setattr__"=some (some (.builtin "object.__setattr__"))) (l:plainOver K C=true) (m:takerIn K C name=some none) (n:hasDictIn K C=true)
 (hw:PySem.Within mA ns) (o:ns.length<=sizeLine)
 (h:∀h',vm h' x dx C (λy=>if y=name then some v else mA y)->SameBut dx s.heap h'->Q () {s with heap:=h',toks:=s.toks+2}):
 ↥A (setAttr (.ref x) name v) Q E s:=by
 have%[t,J|u]:=I.look;refine PySem.W.set_plain X J j (PySem.W.osa_open X J l m λb=>?_);have%[z,p|d]:=PySem.W.any_some n;refine Z2 (Z3 (Z2 (Z2 (wpAny_loadPart I.obj (Z2 (Looks.here (PySem.W.looks_clsIn X p) ?_))))));rw[d];refine Z3 (Z2 (Z3 (Z2 (wpAny_nsSet1 I.ns λh' a c=>?_))));have%[B,q,r,e,g|i]:=a.count (PySem.Within.cons name v hw);exact Z2 (wpAny_lookBehind e (g▸pastItsLine_dict (Yk i (by simp_all))) (Z3 (h _ %[(c.2 _ (Ne.symm I.ne)).trans I.obj,a|I.ne] c)))
def Aa{R:Result->Shared->Prop}(X:K.In s.heap)(b:makesIn K C=true)
 (hi:findIn K (.ref C) "__init__"=some (some (.ref f))) (c:PySem.W.typeIn K (.ref f)=some (.type "function"))
 (h:codeAny (model prog w) (A.under (.builtin "type.__call__" %[.ref C::vs|a])) (.call (.ref f) %[.ref (⇑s+1)::vs|a]) (PySem.W.InitBack (⇑s+1) R)
  {s with heap:=(s.heap.push emptyDict).push (instObj C ⇑s)}):
 codeAny (model prog w) A (.call (.ref C) %[vs|a]) R s:=by
 exact PySem.W.make_core (PySem.W.makes_of X b) (PySem.W.looks_findIn X hi) (λself=>PySem.W.bind_fn X self c) (.inl rfl) h
end
abbrev dL(f:Str)(v:V):List (Str×V)->List (Str×V)
 |[]=>[(f,v)]
 |(g,x)::r=>if g=f then(g,v)::r else(g,x)::dL f v r
def lT(f g:Str)(v:V):∀fs,(dL f v fs).lookup g=if g=f then some v else fs.lookup g
 |[]=>by
  show List.lookup g [(f,v)]=_;by_cases h:g=f
  .have a:=beq_iff_eq.mpr h;simp only[List.lookup,a,if_pos h]
  .have a:=beq_eq_false_iff_ne.mpr h;simp only[List.lookup,a,if_neg h]
 |(k,x)::r=>by
  rw[show dL f v _=(if k=f then(k,v)::r else(k,x)::dL f v r)from rfl];by_cases b:k=f
  .rw[if_pos b];by_cases h:g=k
   .have a:=beq_iff_eq.mpr h;simp only[List.lookup,a,if_pos (h.trans b)]
   .have a:=beq_eq_false_iff_ne.mpr h;simp only[List.lookup,a,if_neg (λe:g=f=>h (e.trans b.symm))]
  .rw[if_neg b];by_cases h:g=k
   .have a:=beq_iff_eq.mpr h;simp only[List.lookup,a,if_neg (λe=>b (h.symm.trans e))]
   .have a:=beq_eq_false_iff_ne.mpr h;simp only[List.lookup,a];exact(lT f g v r)
def li(f:Str)(v:V):∀fs:List (Str×V),f∈(dL f v fs).map (·.1)/\∀g,g∈fs.map (·.1)->g∈(dL f v fs).map (·.1)
 |[]=>%[by simp[dL]|λg h=>by simp at h]
 |(k,x)::r=>by
  have%[a|b]:=li f v r;rw[show dL f v _=(if k=f then(k,v)::r else(k,x)::dL f v r)from rfl]
  grind
def lU(f:Str)(v:V):∀fs,(dL f v fs).length<=fs.length+1
 |[]=>by simp[dL]
 |(k,x)::r=>by
  have a:=lU f v r;rw[show dL f v _=(if k=f then(k,v)::r else(k,x)::dL f v r)from rfl];by_cases b:k=f
  .simp_all
  simp_all
def f9.some_of(r:f9 (some v) o):∃u,o=some u/\aQ v u:=by
 cases o with
 | none=>exact(r).elim
 | some u=>exact%[u,rfl|r]
def f9.none_of(r:f9 none o):o=none:=by
 cases o with
 | none=>rfl
 | some u=>exact(r).elim
def xZ(r:aQ v u):handedIn u=true:=by
 cases v with
 | non=>cases(r);rfl
 | bl b=>cases(r);rfl
 | int i=>have%[t|e]:=(r);cases e;rfl
 | str x=>have%[t|e]:=(r);cases e;rfl
 | byt b=>have%[t|e]:=(r);cases e;rfl
 | flt b=>have%[t|e]:=(r);cases e;rfl
 | ref a=>cases(r);rfl
 | ty n=>cases(r);rfl
section
variable{P:Program}{w:World}{H H':Hp}{h h':Heap}{a C dx:Addr}{fs fs':List (Str×V)}
def mT(c:HOk P w H h)(e:H a=some (.ins C dx fs)):∃b,vm h a dx C b/\(∀f,f9 (fs.lookup f) (b f))/\PySem.Within b (fs.map (·.1))/\fs.length<=1000/\H dx=some (.own a):=by
 have%[d,z,ne,g,b,n,r|q]:=(c a _ e)
 exact%[b,%[g,n|ne],r,q,z|d]
end
structure Cls (K:ZA) (C:Addr):Prop where
 pg:plainGet K C Str.empty=true
 hd:hasDictIn K C=true
 po:plainOver K C=true
 sa:findIn K (.ref C) "__setattr__"=some (some (.builtin "object.__setattr__"))
def Cls.get{K:ZA}{C:Addr}(c:Cls K C)(f:Str):plainGet K C f=true:=c.pg
abbrev fR(K:ZA)(C:Addr)(f:Str):Prop:=findIn K (.ref C) f=some none
def fR.taker{K:ZA}{C:Addr}{f:Str}(n:fR K C f):takerIn K C f=some none:=by
 unfold takerIn;rw[n];rfl
structure Cp (K:ZA) (C:Addr) (m:Str) (f:Addr):Prop where
 at_:findIn K (.ref C) m=some (some (.ref f))
 fn:isFn K (.ref f)=true
 kp:keepIn K (.ref f)=true
section
#version
variable{a C dx:Addr}{fs:List (Str×V)}{f:Str}{v:V}{A:Around}{E:ZD}
def vo(I:Inv X pins σ H s)(e:H a=some (.ins C dx fs))(c:Cls X.K C)(n:fR X.K C f)(l:fs.lookup f=some v)
 (h:∀u s',Inv X pins σ H s'->aQ v u->Q u s'):wpAny (model X.prog X.w) A (getAttr (.ref a) f b) Q E s:=by
 have%[i,O,r,_,_|_]:=mT I.hok e;have%[u,g|d]:=f9.some_of (l▸r f);exact Cn I.kIn O (c.get f) c.hd n g (xZ d) (h u _ (I.tok _) d)
def vp(I:Inv X pins σ H s)(e:H a=some (.ins C dx fs))(c:Cls X.K C)(k:Cp X.K C m g)(l:fs.lookup m=none)
 (h:Q (.ref g,[.ref a]) s):wpAny (model X.prog X.w) A (getMethod (.ref a) m pl) Q E s:=by
 have%[b,O,r,_,_|_]:=mT I.hok e;exact z9 I.kIn O (c.get m) k.at_ k.fn (f9.none_of (l▸r m)) h
def vq(I:Inv X pins σ H s)(e:H a=some (.ins C dx fs))(c:Cls X.K C)(n:fR X.K C f)(G:fs.length<1000)(l:aQ y u)
 (h:∀s',Inv X pins σ (upd H a (.ins C dx (dL f y fs))) s'->Q () s'):wpAny (model X.prog X.w) A (setAttr (.ref a) f u) Q E s:=by
 have%[m,O,r,i,_|j]:=mT I.hok e;refine Co I.kIn O c.sa c.po n.taker c.hd i (by rw[Z6,sizeLine_eq];lia) λh' d p=>h _ (I.write (e▸True.intro) (.inr j) (λb q t z=>(p.2 b t).trans z) (let⟨o,_,_,w,_⟩:=d.ns;%[o|w]) %[(am O.ne)▸j,?_,O.ne,d.obj,_,d.ns,λg=>?_|λg B=>?_])
 .have:=lU f y fs;lia
 .rw[lT];by_cases q:g=f
  .rw[if_pos q,if_pos q];exact l
  .rw[if_neg q,if_neg q];exact r g
 .by_cases q:g=f
  .exact q▸(li f y fs).1
  .refine(li f y fs).2 g (i g λz=>B ?_);show(if g=f then some u else m g)=none;rw[if_neg q];exact z
def Inv.made(I:Inv X pins σ H s):Inv X pins σ (upd (upd H ⇑s (.own (⇑s+1))) (⇑s+1) (.ins C ⇑s []))
 {s with heap:=(s.heap.push emptyDict).push (instObj C ⇑s)}:=by
 have c:(s.heap.push emptyDict).get? ⇑s=some emptyDict:=Zj s.heap rfl;have d:=by
  have:=Zj (s.heap.push emptyDict) (o:=instObj C ⇑s) rfl;rwa[Zq]at this
 refine(I.laid (o:= .own (⇑s+1)) (t':=s.toks) (λb u q=>Z7 _ q) (Zi _) %[_|c]).laid (λb u q=>Z7 _ q) (Nat.le_of_eq (Zq _ _)) ?_;have ne:⇑s≠⇑s+1:=Zt (Ys _);refine%[by rw[am ne,aa],Xj _,ne,d,λ_=>none,(Heap.Ns1.of_empty %[emptyDict,#[],_,c,rfl,(λe g=>absurd g ∅)|λ_=>rfl]).at λo q=>Z7 _ q,λ_=>True.intro|λy h=>absurd rfl h]
def Cq(c:attributeBase e f env (eval e env)=eval e env)
 (h:↥A (eval e env) (λo b=>↥A (getAttr o f true) Q E b) E s):↥A (eval (.Attribute e f pos) env) Q E s:=
 Attribute_any_ h (by rw[arm_eval_Attribute,c])
end
abbrev EH(K:ZA)(c:TE)(f:Str):TE:=λd H Q=>c d H λx b=>∃a C e fs v,x= .ref a/\b a=some (.ins C e fs)/\Cls K C/\fR K C f/\fs.lookup f=some v/\Q v b
abbrev EI(K:ZA)(e g:TE)(f:Str):TS:=λD b H=>g b H λy h=>e b h λx c=>∃a C d fs,x= .ref a/\c a=some (.ins C d fs)/\Cls K C/\fR K C f/\fs.length<1000/\
 D.nx b (upd c a (.ins C d (dL f y fs)))
section
variable{X:Cx}{o e value:Expr}{f:Str}{pos pos' tpos:Pos}{ta tv:TE}
def EJ(b:PE X e ta)(d:attributeBase e f X.env (eval e X.env)=eval e X.env):PE X (.Attribute e f pos) (EH X.K ta f):=by
 intro pins s g H Q I h;refine Cq d (thP (b pins s g H _ I h) λu w x i j m ⟨a,C,y,fs,v,ex,p,c,n,l,q⟩=>?_);subst ex;obtain rfl:u=Value.ref a:=m;exact vo j p c n l λz A r t=>%[v,i,r,t|q]
def EK(d:PE X o ta)(g:PE X value tv)(i:swapsWith value (some (.Attribute o f pos')) pos.line X.env=pure false):PS X (.Assign [.Attribute o f pos'] value pos) (EI X.K ta tv f):=by
 intro pins s b H D I h;refine plainObj_wpAny_Assign_Attribute (thP (g pins s b H _ I h) λu j y m p r q=>thP (d pins j b m _ p q) λt E x G v w ⟨a,C,J,fs,ex,z,c,n,l,A⟩=>?_) i;subst ex;obtain rfl:t=Value.ref a:=w;exact vq v z c n l r λL B=>%[b,_,B|A]
end
section
#version
variable{A:Around}{E:ZD}{Q:ZD}{c:Value}{b:Bool}
inductive jO (K:ZA) (H:Hp):V->Value->Prop where
 | non:jO K H .non (.type "NoneType")
 | bl (x:Bool):jO K H (.bl x) (.type "bool")
 | int (i:Int):jO K H (.int i) (.type "int")
 | str (x:Str):jO K H (.str x) (.type "str")
 | flt (x:UInt64):jO K H (.flt x) (.type "float")
 | lst {a:Addr} {xs:List V} (e:H a=some (.lst xs)):jO K H (.ref a) (.type "list")
 | frz {a:Addr} {o:Obj} {xs:List V} (e:H a=some (.frz o (.lst xs))):jO K H (.ref a) (.type "list")
 | tup {a:Addr} {xs:List V} (e:H a=some (.tup xs)):jO K H (.ref a) (.type "tuple")
 | dK {a:Addr} {kvs:List _} (e:H a=some (.dK kvs)):jO K H (.ref a) (.type "dict")
 | dT {a:Addr} {kvs:List _} (e:H a=some (.dT kvs)):jO K H (.ref a) (.type "dict")
 | ins {a C dx:Addr} {fs:List _} (e:H a=some (.ins C dx fs)) (cl:Cls K C) (ha:findIn K (.ref C) "__class__"=some (some (.builtin "object.__class__")))
  (hn:PySem.W.specialIn K (.builtin "object.__class__") "__get__"=some (some (.builtin "getset_descriptor.__get__"))) (htk:PySem.W.takesIn K (.builtin "object.__class__")=some true)
  (hm:PySem.W.mroIn K C (.type "object")=some true):jO K H (.ref a) (.ref C)
def x4(I:Inv X pins σ H s)(d:aQ x u)(ty:jO X.K H x t)(e:kitOne X.K t c=some b)(h:∀tk,Q (.bool b) {s with toks:=tk}):
 wpAny (model X.prog X.w) A (call (.builtin "isinstance") [u,c]) Q E s:=by
 cases ty with
 | non=>cases(d);exact kia_one PySem.W.kitx_none I.kIn True.intro e (λz=>nomatch z) h
 | bl y=>cases(d);exact kia_one PySem.W.kitx_bool I.kIn True.intro e (λz=>nomatch z) h
 | int i=>have%[t|q]:=(d);cases q;exact kia_one PySem.W.kitx_int I.kIn True.intro e (λz=>nomatch z) h
 | str y=>have%[t|q]:=(d);cases q;exact kia_one PySem.W.kitx_str I.kIn True.intro e (λz=>nomatch z) h
 | flt y=>have%[t|q]:=(d);cases q;exact kia_one PySem.W.kitx_float I.kIn True.intro e (λz=>nomatch z) h
 | @lst a xs f=>
   cases(d);have%[_,_,n,_|g]:=(I.hok a _ f)
   exact kia_one kitx_list I.kIn %[_,g|rfl] e (λz=>nomatch z) h
 | @frz a M xs f=>
   cases(d);have%[_,_,_,n,_|g]:=(I.hok a _ f)
   exact kia_one kitx_list I.kIn %[_,g|rfl] e (λz=>nomatch z) h
 | @tup a xs f=>
   cases(d);have%[_,_,_|p]:=(I.hok a _ f)
   have%[o,g,j|_]:=p;exact kia_one PySem.W.kitx_tuple I.kIn %[o,g|j] e (λz=>nomatch z) h
 | @dK a l f=>
   cases(show u=Value.ref a from d);have%[_,_,vs,_|p]:=(I.hok a _ f)
   have%[o,v,w,g,j|_]:=p;exact kia_one kitx_dict I.kIn %[o,g|j.1] e (λz=>nomatch z) h
 | @dT a l f=>
   cases(show u=Value.ref a from d);have%[_,_,xs,_,o,v,w,g,j|_]:=(I.hok a _ f)
   exact kia_one kitx_dict I.kIn %[o,g|j.1] e (λz=>nomatch z) h
 | @ins a C N fs f r B G m L=>
   cases(d);have%[T,O|_]:=mT I.hok f;have%[U,J|_]:=O.look;exact kia_one (PySem.W.kitx_own (r.get _) r.hd B G m L) I.kIn J e (λz=>nomatch z) h
end
structure bX (k:Nat) (A:Around):Prop where
 hd:A.handled=none
 dp:A.depth+3*k+5<recursionLimit
 un:A.units+16*k+200<cLine
 gd:A.guards=some []
def bX.mono(r:bX k A)(h:j<=k):bX j A:=%[r.hd,by have:=r.dp;lia,by have:=r.un;lia|r.gd]
def bX.deeper(r:bX (k+1) A)(env:Env):bX k (A.deeper env):=
 %[r.hd,by have:=r.dp;show A.depth+1+3*k+5<_;lia,by have:=r.un;show A.units+3+16*k+200<_;lia|r.gd]
def vt{A:Around}:(A.under (.builtin "type.__call__" %[.ref C::us|a])).depth=A.depth+1:=by
 first|rfl|lia
def vv{A:Around}:(A.under (.builtin "type.__call__" %[.ref C::us|a])).units=A.units+1:=by
 first|rfl|lia
def bX.make(r:bX (k+1) A)(C:Addr)(us:ZF)(a:List (Str×Value)):bX k (A.under (.builtin "type.__call__" %[.ref C::us|a])):=
 %[r.hd,by have:=r.dp;rw[vt];lia,by have:=r.un;rw[vv];lia|r.gd]
def bX.depth(r:bX k A):A.depth<recursionLimit:=by have:=r.dp;lia
def bX.units(r:bX k A):A.units+64<cLine:=by have:=r.un;lia
abbrev x5:TA:=λ_ H Q=>Q [] H
abbrev Ab(b:TE)(c:TA):TA:=λa H Q=>b a H λx d=>c a d λxs e=>Q (x::xs) e
section
variable{X:Cx}{e:Expr}{es:List Expr}{te:TE}{t:TA}{pos:Pos}
def EM:PA X [] x5:=λ_ _ _ _ H Q I h=>Calls.spliced_nil %[[],H,I,.nil|h]
def Cr(b:PE X e te)(c:PA X es t)(d:starEach (e::es) X.env=(false,eval e X.env)::starEach es X.env):PA X (e::es) (Ab te t):=by
 intro pos pins s a H Q I h;rw[d];show wpAny _ _ (spliced ((false,eval e X.env)::backTo pos _)) _ _ s;exact Calls.spliced_cons (thP (b pins s a H _ I h) λu f x g i j l=>thP (c pos pins f a g _ i l) λus q xs m n o p=>%[x::xs,m,n,.cons j o|p])
abbrev EN(t:TA):TE:=λb H Q=>t b H λxs a=>xs.length<=sizeLine/\∀p,a p=none->Q (.ref p) (upd a p (.tup xs))
abbrev EO(t:TA):TE:=λb H Q=>t b H λxs a=>xs.length<=sizeLine/\∀p,a p=none->Q (.ref p) (upd a p (.lst xs))
def EQ{d}(h:PA X es t):PE X (.Tuple es d pos) (EN t):=by
 intro pins s f H Q I g;refine wpAny_Tuple_spliced (thP (h pos pins s f H _ I g) λus a xs i c r ⟨z,q⟩=>%[r.length▸z|?_]);have j:=c.hok.fresh (Zi _);refine%[.ref ⇑a,upd i ⇑a _,c.laid (λb u e=>Z7 _ e) (Zi _) ?_,rfl|q _ j];exact%[z,us,r,_,Zj _ rfl,rfl,_|rfl]
def ER(h:PA X es t):PE X (.List es pos) (EO t):=by
 intro pins s d H Q I f;refine wpAny_List_spliced (thP (h pos pins s d H _ I f) λus a xs g c r ⟨z,q⟩=>%[r.length▸z|?_]);have i:=c.hok.fresh (Zi _);refine%[.ref ⇑a,upd g ⇑a _,c.laid (λb u e=>Z7 _ e) (Zi _) ?_,rfl|q _ i];exact%[z,us,0,r|Zj _ rfl]
end
noncomputable abbrev Sp:=List V->Hp->VK->XK->Prop
noncomputable abbrev CXT:=List Env->Hp->Shared->XK->Value->Shared->Prop
structure vw (P:Program) (w:World) (K:ZA) (mg:ZC) (base:Heap) (A:Around) (outer:List Env) (s:Shared) (H:Hp):Prop where
 frames:A.frames=some outer
 mod:Mod K mg base
 bs:∀b o,base.get? b=some o->s.heap.get? b=some o/\H b=none
 bsz:base.objs.size<=⇑s
 funs:s.heap.FunFrames base outer
 frf:∀b∈frs outer,H b=none
 hok:HOk P w H s.heap
 bare:AllBare s.gens
abbrev CE(outer:List Env)(P:Program)(w:World)(H:Hp)(s:Shared)(Q:VK)(u:Value)(s':Shared):Prop:=
 ∃v a,s'.os=s.os/\AllBare s'.gens/\Un (frs outer) [] H a s.heap s'.heap/\HOk P w a s'.heap/\aQ v u/\Q v a
abbrev CR(CX:CXT)(outer:List Env)(P:Program)(w:World)(H:Hp)(s:Shared)(Q:VK)(E:XK)(r:Result)(s':Shared):Prop:=
 match r with
 | .ok (.ret u)=>CE outer P w H s Q u s'
 | .ok _=>False
 | .error e=>CX outer H s E e s'
structure eE (P:Program) (w:World) (K:ZA) (mg:ZC) (base:Heap) (CX:CXT) (k:Nat) (f:Addr) (fd:FuncData) (ps:ZB) (sp:Sp):Prop where
 len:∀vs H Q E,sp vs H Q E->vs.length=ps.length
 run:∀A outer s H args us vs Q E,bX k A->vw P w K mg base A outer s H->BindsTo s fd args (ps.zip us)->aE vs us->sp vs H Q E->
  codeAny (model P w) A (.call (.ref f) args) (CR CX outer P w H s Q E) s
def eE.imp{P:Program}{K:ZA}(F:eE P w K mg base CX k f b ps sp)
 (h:∀vs H Q E,a vs H Q E->sp vs H Q E):eE P w K mg base CX k f b ps a:=
 %[λvs H Q E q=>F.len vs H Q E (h _ _ _ _ q)|λA outer s H args us vs Q E c d e g i=>F.run A outer s H args us vs Q E c d e g (h _ _ _ _ i)]
def vw.make{P:Program}{K:ZA}(e:vw P w K mg base A outer s H)(C:Addr)(us:ZF)(a:List (Str×Value)):
 vw P w K mg base (A.under (.builtin "type.__call__" %[.ref C::us|a])) outer s H:=⟨by first|exact e.frames|lia,e.mod,e.bs,e.bsz,e.funs,e.frf,e.hok,e.bare⟩
section
variable{X:Cx}{pins:ZE}{σ:St}{H:Hp}{s s':Shared}
def Inv.env0(I:Inv X pins σ H s):vw X.prog X.w X.K X.mg X.base X.A X.stack s H:=
 %[I.ok.frames,I.ok.mod,I.bs,Yk I.ok.bsz I.sz,I.stack,I.stkFree,I.hok|I.bare]
def Inv.after(I:Inv X pins σ H s)(h:CE X.stack X.prog X.w H s Q u s'):EP X pins σ Q u s':=by
 have%[v,f,os,a,un,c,r|q]:=h;have%[i,g,d,t|e]:=s';obtain rfl:e=s.os:=os;exact%[v,f,I.call un c a (λb z=>absurd z ∅),r|q]
end
abbrev sZ(sp:Sp)(dvs:List V)(E:XK)(t:TA):TE:=λa H Q=>t a H λvs b=>sp (vs++dvs) b Q E
abbrev wI(C:Addr)(m:Str)(sp:Sp)(dvs:List V)(E:XK)(d:TE)(t:TA):TE:=λb H Q=>d b H λx c=>∃a e fs,x= .ref a/\c a=some (.ins C e fs)/\fs.lookup m=none/\
 t b c λvs f=>sp (x::(vs++dvs)) f Q E
abbrev wJ(C:Addr)(sp:Sp)(dvs:List V)(E:XK)(t:TA):TE:=λc H Q=>t c H λvs b=>∀x a,b x=none->b a=none->a≠x->
 sp (.ref x::(vs++dvs)) (upd (upd b a (.own x)) x (.ins C a [])) (λv d=>v= .non/\Q (.ref x) d) E
abbrev fD(K:ZA)(a:FuncData)(ps:ZB)(ds:ZF):Prop:=
 ∀s us,K.In s.heap->(us++ds).length=ps.length->BindsTo s a %[us|[]] (ps.zip (us++ds))
def fD.all{K:ZA}(h:∀us:ZF,us.length=ps.length->bindArgs b %[us|[]]=pure (ps.zip us)):fD K b ps []:=λs us _ a=>by
 rw[Zz]at a ⊢;exact .of_eq (h us a)
abbrev jP(CX:CXT)(X:Cx)(E:XK):Prop:=∀pins (a:St) H s e s',Inv X pins a H s->CX X.stack H s E e s'->X.xe e s'
section
variable{X:Cx}{CX:CXT}{k:Nat}{f C:Addr}{fd:FuncData}{ps:ZB}{sp:Sp}{dvs:List V}{ds:ZF}{E:XK}{x m:Str}{p pos apos:Pos}{e o:Expr}{es:List Expr}{ta:TE}{t:TA}
def Ac(F:eE X.prog X.w X.K X.mg X.base CX k f fd ps sp)(d:bX k X.A)(g:fD X.K fd ps ds)(i:aE dvs ds)(j:jP CX X E)
 (I:Inv X pins b H s) (r:aE vs us) (h:sp (vs++dvs) H Q E):wpAny (model X.prog X.w) X.A (call (.ref f) us) (EP X pins b Q) X.xe s:=by
 have c:=r.append i;refine wpAny_call (codeAny_mono (F.run X.A X.stack s H _ _ _ Q E d I.env0 (g s us I.kIn (c.length▸F.len _ _ _ _ h)) c h) λr s' a=>?_);cases r with
 | error e=>exact j pins b H s e s' I a
 | ok l=>
   cases l with
   | ret u=>exact I.after a
   | next=>exact False.elim a
   | brk=>exact False.elim a
   | cont=>exact False.elim a
def Cs(F:eE X.prog X.w X.K X.mg X.base CX k f fd ps sp)(d:bX k X.A)(g:Gl X x)(i:X.mg x=some (.ref f))(j:keepIn X.K (.ref f)=true)(l:fD X.K fd ps ds)(n:aE dvs ds)(u:jP CX X E)
 (v:PA X (e::es) t) (a:(x==("__debug__":Str))=false) (w:starEach (e::es) X.env=(false,eval e X.env)::starEach es X.env) (b:(backTo pos (starEach es X.env)).any (·.1)=false):
 PE X (.Call (.Name x p) (e::es) [] pos) (sZ sp dvs E t):=by
 intro pins s y H Q I h;exact wpAny_Call_Name_kw (rj I g i (callWith_K I.ok.mod.kin j (thP (v pos pins s y H _ I h) λus z vs A c r q=>%[c.kIn|Ac F d l n u c r q]) w b) a)
def Ad(i:PE X o ta)(c:Cls X.K C)(d:Cp X.K C m f)(F:eE X.prog X.w X.K X.mg X.base CX k f fd ps sp)(j:bX k X.A)(n:fD X.K fd ps ds)(r:aE dvs ds)(v:jP CX X E)
 (w:eval (.Call (.Attribute o m apos) [] [] pos) X.env=(do
  let g<-eval o X.env
  standAt apos.atName
  let(f,first)<-holding [g] (getMethod g m pl)
  callWith pos f first (backTo pos (starEach [] X.env)) (backToKw pos (keywordEach [] X.env)))):
 PE X (.Call (.Attribute o m apos) [] [] pos) (wI C m sp dvs E ta x5):=by
 intro pins s y H Q I h;refine PySem.W.methodCall_KW (thP (i pins s y H _ I h) λu B x G b z ⟨a,J,fs,ex,A,l,q⟩=>?_) w;subst ex;obtain rfl:u=Value.ref a:=z;exact vp b A c d l (PySem.W.callWith_K0 b.kIn d.kp (Ac (us:=[.ref a]) (vs:=[.ref a]) F j n r v b (.cons rfl .nil) q))
structure Mk (K:ZA) (C f:Addr):Prop where
 makes:makesIn K C=true
 init:findIn K (.ref C) "__init__"=some (some (.ref f))
 fn:isFn K (.ref f)=true
 kp:keepIn K (.ref C)=true
def Ae(M:Mk X.K C f)(F:eE X.prog X.w X.K X.mg X.base CX k f fd ps sp)(j:bX (k+1) X.A)(l:fD X.K fd ps ds)(n:aE dvs ds)
 (q:jP CX X E) (I:Inv X pins d H s) (r:aE vs us)
 (h:∀x b,H x=none->H b=none->b≠x->sp (.ref x::(vs++dvs)) (upd (upd H b (.own x)) x (.ins C b [])) (λv w=>v= .non/\Q (.ref x) w) E):
 (wpAny (model X.prog X.w) X.A) (call (.ref C) us) (EP X pins d Q) X.xe s:=by
 have g:=h (⇑s+1) ⇑s (I.hok.fresh (Yj _)) (I.hok.fresh (Zi _)) (Zt (Ys _));have c:=Inv.made (C:=C) I;have i:aE (V.ref (⇑s+1)::(vs++dvs)) _:= .cons rfl (r.append n);have y:=by
  have e:=i.length;rw[F.len _ _ _ _ g]at e;exact e.symm
 refine wpAny_call (Aa I.kIn M.makes M.init (beq_iff_eq.mp M.fn) (codeAny_mono (F.run _ X.stack _ _ _ _ _ _ E (j.make C us [])
  (c.env0.make C us []) (l _ _ c.kIn y) i g) λr s' a=>?_))
 cases r with
 | error e=>exact q pins d _ _ e s' c a
 | ok z=>
   cases z with
   | ret u=>
     have%[v,A,B,G,J|L]:=c.after a;subst J;exact%[G,V.ref _,A,B,rfl|L]
   | next=>exact False.elim a
   | brk=>exact False.elim a
   | cont=>exact False.elim a
def Ct(M:Mk X.K C f)(F:eE X.prog X.w X.K X.mg X.base CX k f fd ps sp)(d:bX (k+1) X.A)(g:Gl X x)(i:X.mg x=some (.ref C))(j:fD X.K fd ps ds)(l:aE dvs ds)(n:jP CX X E)
 (u:PA X (e::es) t) (a:(x==("__debug__":Str))=false) (v:starEach (e::es) X.env=(false,eval e X.env)::starEach es X.env) (b:(backTo pos (starEach es X.env)).any (·.1)=false):
 PE X (.Call (.Name x p) (e::es) [] pos) (wJ C sp dvs E t):=by
 intro pins s w H Q I h;exact wpAny_Call_Name_kw (rj I g i (callWith_K I.ok.mod.kin M.kp (thP (u pos pins s w H _ I h) λus y vs z c r q=>%[c.kIn|Ae M F d j l n c r q]) v b) a)
end
section
variable{X:Cx}{CX:CXT}{k:Nat}{f C:Addr}{fd:FuncData}{ps ks:ZB}{sp:Sp}{E:XK}{x m:Str}{p pos apos kpos:Pos}{e o:Expr}{es:List Expr}{kws:List Keyword}{te ta:TE}{t tk:TA}{nm:Option Str}
variable{g:ZF->ZF->ZF}{gV:List V->List V->List V}
end
structure aw (N P:ZB) (sc:Scope):Prop where
 kind:sc.kind= .function
 co:sc.isCoroutine=false
 gen:sc.isGenerator=false
 nd:N.Nodup
 pre:N.take P.length=P
 par:∀x∈P,sc.names.lookup x=some .local\/sc.names.lookup x=some .cell
 nofree:∀y∈sc.names,y.2≠ .free
def p7{kindOf:Str->Option NameKind}:∀{binds:List (Str×Value)} {m:ZC},(∀v,(x,v)∉binds)->bindL kindOf binds m x=m x
 |[],_,_=>rfl
 |(n,v)::r,m,h=>by
  unfold bindL;rw[p7 λw hw=>h w (Zk _ hw)]
  split
  .have:x≠n:=by rintro rfl;exact h v Zm
   simp[this]
  .rfl
def p8{kindOf:Str->Option NameKind}:∀{binds:List (Str×Value)} {m:ZC},(∀v,(x,v)∉binds)->bindC kindOf binds m x=m x
 |[],_,_=>rfl
 |(n,v)::r,m,h=>by
  unfold bindC;rw[p8 λw hw=>h w (Zk _ hw)]
  split
  .rfl
  .have:x≠n:=by rintro rfl;exact h v Zm
   simp[this]
def p9{kindOf:Str->Option NameKind}{x:Str}:∀{P:ZB} {vs:ZF} {i:Nat} {m:ZC},P.Nodup->P[i]? =some x->vs[i]? =some v->kindOf x=some .local->
 bindL kindOf (P.zip vs) m x=some v
 |[],_,_,_,_,h,_,_=>by simp at h
 | _::_,[],_,_,_,_,h,_=>by simp at h
 | p::P,w::vs,0,m,nd,a,b,c=>by
   simp at a b;subst a;subst b;show bindL kindOf ((p,w)::P.zip vs) m p=_;unfold bindL;rw[p7 λv d=>(nodup_cons.mp nd).1 (of_mem_zip d).1,if_pos c];simp
 | p::P,w::vs,i+1,m,nd,a,b,c=>by
   show bindL kindOf ((p,w)::P.zip vs) m x=_;exact p9 (nodup_cons.mp nd).2 (a) (b) c
def qb{kindOf:Str->Option NameKind}{x:Str}:∀{P:ZB} {vs:ZF} {i:Nat} {m:ZC},P.Nodup->P[i]? =some x->vs[i]? =some v->kindOf x≠some .local->
 bindC kindOf (P.zip vs) m x=some v
 |[],_,_,_,_,h,_,_=>by simp at h
 | _::_,[],_,_,_,_,h,_=>by simp at h
 | p::P,w::vs,0,m,nd,a,b,c=>by
   simp at a b;subst a;subst b;show bindC kindOf ((p,w)::P.zip vs) m p=_;unfold bindC;rw[p8 λv d=>(nodup_cons.mp nd).1 (of_mem_zip d).1,if_neg c];simp
 | p::P,w::vs,i+1,m,nd,a,b,c=>by
   show bindC kindOf ((p,w)::P.zip vs) m x=_;exact qb (nodup_cons.mp nd).2 (a) (b) c
abbrev start(N:ZB)(vs:List V):St:=vs.map some++List.replicate (N.length-vs.length) none
abbrev rB(CX:CXT)(P:Program)(w:World)(K:ZA)(mg:ZC)(base:Heap)(N:ZB)(qual:Str)(scope:Scope)(f:Addr)(cd:Value)(A:Around)(outer:List Env)(s:Shared)(H:Hp)(E:XK):Cx where
 prog:=P
 w:=w
 K:=K
 mg:=mg
 base:=base
 A:=A.deeper (envOfC qual scope ⇑s f cd)
 N:=N
 s₀:=s
 H₀:=H
 env:=envOfC qual scope ⇑s f cd
 outer:=outer
 stack:=envOfC qual scope ⇑s f cd::outer
 ex:=[]
 calm:=true
 fn:=λ_=>true
 pn:=[]
 xe:=λe s'=>wpAny (model P w) (A.deeper (envOfC qual scope ⇑s f cd)) (leaving (envOfC qual scope ⇑s f cd) e) (λ_ s''=>CX outer H s E e s'') (λe' s''=>CX outer H s E e' s'') s'
def tf{a:Scope}{n:Nat}{x:Str}(h:a.names.lookup x=some .cell):∃c,(cellsFrom n a.names []).lookup x=some c:=by
 exact isSome_iff_exists.mp (cellsFrom_some a.names n [] (.inl h))
def x6{P:Program}{K:ZA}
 (S:aw N ps a) (I:A.handled=none) (g:vw P w K mg base A outer s H) (Q:vs.length=ps.length) (r:aE vs us)
 (x:InCallC s ⇑s (bindL (envOfC d a ⇑s f B).kindOf (ps.zip us) λ_=>none) (cellsFrom (⇑s+1) a.names []) (bindC (envOfC d a ⇑s f B).kindOf (ps.zip us) λ_=>none) J):
 Inv (rB CX P w K mg base N d a f B A outer s H E) [] (start N vs) H J:=by
 have L:ps.length<=N.length:=by have:=congrArg List.length S.pre;rw[Yp]at this;lia
 have%[t,tk,rfl|C]:=x.done;have l:∀b,b∉(rB CX P w K mg base N d a f B A outer s H E).ex:=λb z=>absurd (show b∈([])from z) ∅
 refine%[%[g.mod,S.kind,rfl,rfl,Zi _,λy z c t j=>?_,λy m=>?_,λy c _ h=>?_,λ_=>I,Around.frames_deeper g.frames,.inr %[rfl|rfl],λb z=>absurd z (l b),g.bs,g.bsz,λb _ _=>l b,λb z=>absurd z (l b),g.funs|g.frf],
  rfl,g.bare,Un.kept C,%[_,x.toInCall.ns|λi y v t j T=>?_],λy c h=>%[_|x.cell y c h],g.hok.fresh (Zi _),λy c h=>?_,λp n=>absurd (show p∈([])from n) ∅,g.hok.kept C|?_]
 .exact name_of_addr x.apart (PySem.mem_of_lookup t) (PySem.mem_of_lookup j)
 .rcases m with m|m
  .exact tf m
  .exact absurd rfl (S.nofree _ (PySem.mem_of_lookup m))
 .exact Yi (x.above y c (PySem.mem_of_lookup h))
 .have hi:i<vs.length:=by
   unfold start at j;by_cases hi:i<vs.length
   .exact hi
   .rw[Yb (by simpa using hi)]at j;rw[List.getElem?_replicate]at j
    split at j<;> cases j
  have M:vs[i]? =some v:=by
   unfold start at j;rw[Ya (by simpa using hi),Zl]at j
   simp_all
  have%[u,G|O]:=r.get M;have n:ps[i]? =some y:=by
   rw[<-S.pre,Ye ⋯];exact t
  have o:ps.Nodup:=S.pre▸S.nd.sublist (List.take_sublist _ _);refine%[u,O|?_];rcases S.par y (Z8 n)with k|k
  .exact .inl %[k|p9 o n G k]
  .have%[c|e]:=tf k;refine .inr %[.inl k,c,e|?_];have q:=x.cell y c e;rw[qb o n G (by show a.names.lookup y≠_;rw[k];decide)]at q;exact q
 .exact g.hok.fresh (Yi (x.above y c (PySem.mem_of_lookup h)))
 .unfold start;show _=N.length;rw[Z9,Z6,List.length_replicate]
  lia
def GH{P:Program}{K:ZA}{T kV z U d ct oc:Value}
 (lk:K.lookup f=some %[oc,od,.func (fnOf name c g i a T kV z U an d ct)|ab]) (G:codeIn K d c=true) (S:aw N ps a)
 (len:∀vs H Q E,sp vs H Q E->vs.length=ps.length)
 (l:∀(A:Around) (outer:List Env) (s:Shared) (H:Hp) (vs:List V) (Q:VK) (E:XK),bX k (A.deeper (envOfC c a ⇑s f d))->sp vs H Q E->
  ∃t,PSs (rB CX P w K mg base N c a f d A outer s H E) i t/\t {nx:=λ_ j=>Q .non j,rt:=Q} (start N vs) H):
 eE P w K mg base CX (k+1) f (fnOf name c g i a T kV z U an d ct) ps sp:=by
 refine%[len|λA outer s H args us vs Q E L B hb r C=>?_];have Y:=B.mod.kin.keeps λb o e=>(B.bs b o e).1
 have M:=B.mod.nolimit.keeps λb o e=>(B.bs b o e).1
 have m:∀y∈ps.zip us,a.names.lookup y.1=some _\/(a.names.lookup y.1=some _/\((cellsFrom (⇑s+1) a.names []).lookup y.1).isSome=true):=λ⟨n,v⟩ hy=>by
  rcases S.par n (of_mem_zip hy).1 with q|q
  .exact .inl q
  .exact .inr %[q|cellsFrom_some _ _ _ (.inl q)]
 refine codeAny_call_function L.depth (Y _ _ lk) rfl S.co S.gen rfl (PySem.W.codeRec_of Y G) (hb _ _ _ _ (wpAny_newFunctionEnv_cells S.kind m λenv he s1 x=>?_));subst he;refine%[M.keeps x.toInCall.keep|codeAny_func ?_];have%[t,ht|hq]:=l A outer s H vs Q E (L.deeper _) C;have I:Inv (rB CX P w K mg base N c a f d A outer s H E) [] _ H s1:=x6 S L.hd B (len _ _ _ _ C) r x;refine wpAny_mono (ht [] s1 _ H _ I hq) (λfl s' p=>?_) λe s' p=>p
 have fin:∀{h:St} {j:Hp} {v:V} {u:Value},Inv (rB CX P w K mg base N c a f d A outer s H E) [] h j s'->aQ v u->Q v j->CE outer P w H s Q u s':=
  λ{h j v u} J O q=>%[v,j,J.os,J.bare,J.base,J.hok,O|q]
 cases fl with
 | ret u=>
   have%[v,h,j,J,O|q]:=p;exact fin J O q
 | next=>
   have%[h,j,J|q]:=p;exact fin (v:=V.non) J rfl q
 | brk=>
   have%[_,_,_|q]:=p
   simp_all
 | cont=>
   have%[_,_,_|q]:=p;exact False.elim q
section
variable{X:Cx}{x:Str}{p pos:Pos}{e:Expr}{es:List Expr}{t:TA}{id T:String}{r:List V->Hp->VK->Prop}
abbrev tCB(r:List V->Hp->VK->Prop)(t:TA):TE:=λa H Q=>t a H λvs b=>r vs b Q
def Af(d:cq X (.builtin id) r)(f:Gl X x)(g:X.mg x=none)(i:bootBuiltins x=some (.builtin id))(j:PA X (e::es) t)(l:x≠"__name__")(a:(x==("__debug__":Str))=false)
 (m:starEach (e::es) X.env=(false,eval e X.env)::starEach es X.env) (b:(backTo pos (starEach es X.env)).any (·.1)=false):PE X (.Call (.Name x p) (e::es) [] pos) (tCB r t):=by
 intro pins s c H Q I h;exact wpAny_Call_Name_kw (jN I f g i (PyProof.Rows.callWith_builtin1 (thP (j pos pins s c H _ I h) λus n vs o q u v=>d pins n c o vs us Q q u v) m b) l a)
def x8(d:cq X (.type T) r)(f:Gl X x)(g:X.mg x=none)(i:bootBuiltins x=some (.type T))(j:PA X (e::es) t)(l:x≠"__name__")(a:(x==("__debug__":Str))=false)
 (m:starEach (e::es) X.env=(false,eval e X.env)::starEach es X.env) (b:(backTo pos (starEach es X.env)).any (·.1)=false):PE X (.Call (.Name x p) (e::es) [] pos) (tCB r t):=by
 intro pins s c H Q I h;exact wpAny_Call_Name_kw (jN I f g i (PyProof.Rows.callWith_type1 (thP (j pos pins s c H _ I h) λus n vs o q u v=>d pins n c o vs us Q q u v) m b) l a)
end
end L2
namespace HT
open PySem PyProof.Rows
section
open PySem.SeqAt
open PySem.AutoSeq1 (wpAny_loadPart')
open PySem.MeetsSeq PySem.MeetsSeq2 PySem.MeetsSeq3
end
section
#where
abbrev sIx(n d:Nat):Option Int->Nat
 | none=>d
 | some v=>if v<0 then(v+n).toNat else min v.toNat n
def sIx_none(n d:Nat):sIx n d none=d:=rfl
def sIx_nat(n d k:Nat):sIx n d (some k)=min k n:=by
 show(if k<0 then((k:Int) +n).toNat else min _ n)=min k n;rw[if_neg ⋯,Int.toNat_natCast]
def wK(v:Int)(n d:Nat):(if v<0 then max (v+n) 0 else min v n)=((sIx n d (some v))):=by
 show(if v<0 then max _ 0 else min v n)=(((if v<0 then(v+n).toNat else min v.toNat n):Nat))
 grind
def vy(lo hi:Option Int)(n:Nat):Builtin.Slice.sliceAdjust lo hi 1 n=(((sIx n 0 lo):Int),((sIx n n hi):Int)):=by
 refine Prod.ext ?_ ?_
 .cases lo with
  | none=>rfl
  | some v=>exact wK v n 0
 .cases hi with
  | none=>rfl
  | some v=>exact wK v n n
def vz(i j:Nat):Builtin.Slice.slicePlaces i j 1=j-i:=by
 unfold Builtin.Slice.slicePlaces;have a:(1:Int)>0:=by lia
 simp only[a,if_true,Int.ediv_one]
 split<;> lia
def np(p:IsPart v o)(h:Q o s):↥A (Builtin.Slice.slicePartIndex v) Q E s:=by
 cases p with
 | none=>exact slicePart_none h
 | int i t=>exact slicePart_int h
def lj{lo hi:Option Int}{n:Nat}(c:s.heap.IsSliceOf d e f .none)(pl:IsPart e lo)(g:IsPart f hi)
 (h:Q (((sIx n 0 lo:Nat):Int),1,sIx n n hi-sIx n 0 lo) s):↥A (Builtin.Slice.sliceApplied (.ref d) (pure (n:Int))) Q E s:=by
 have%[os,a,i|b]:=id c;refine Z2 (Z2 (wpAny_field a b rfl (Z2 (wpAny_field a b rfl (Z2 (wpAny_field a b rfl (Z3 (Z2 (slicePart_none (Z2 (np pl (Z2 (np g (Z2 (Z3 ?_)))))))))))))));show wpAny _ _ (match Builtin.Slice.sliceAdjust lo hi 1 n with|(lo,hi)=>pure (lo,(1:Int),Builtin.Slice.slicePlaces lo hi 1)) _ _ s;rw[vy lo hi n];show wpAny _ _ (pure _) _ _ s;rw[vz];exact Z3 h
def Ag(xs:ZJ)(i k:Nat):((List.range k).filterMap λ(m:Nat)=>xs[((i:Int) +m*1).toNat]?).toArray=((xs.toList.drop i).take k).toArray:=by
 have e:(λ(m:Nat)=>xs[((i:Int) +m*1).toNat]?)=λm=>xs[i+m]? :=by
  funext m;have:((i:Int) +m*1).toNat=i+m:=by lia
  rw[this]
 rw[e];have:=pick_run xs i k;rw[List.filterMap_map]at this;have a:((λx=>xs[x]?) ∘ λx=>i+x)=λm=>xs[i+m]? :=rfl
 rw[a]at this;rw[this]
def getItem_tuple_cut{lo hi:Option Int}(c:IsTup s.heap t a)(g:s.heap.IsSliceOf i j l .none)(pl:IsPart j lo)(m:IsPart l hi)
 (hw: ¬ (sIx a.size 0 lo=0/\sIx a.size a.size hi=a.size))
 (h:Q (.ref ⇑s) {s with heap:=s.heap.push {cls:= .type "tuple",data:= .seq ((a.toList.drop (sIx a.size 0 lo)).take (sIx a.size a.size hi-sIx a.size 0 lo)).toArray}})
 (n:a.size<=sizeLine):↥A (getItem (.ref t) (.ref i)) Q E s:=by
 have b:sizeOk (.seq ((a.toList.drop (sIx a.size 0 lo)).take (sIx a.size a.size hi-sIx a.size 0 lo)).toArray):=by
  show((a.toList.drop _).take _).toArray.size<=sizeLine;rw[Zp,Yp,Yl,Zb]
  lia
 have%[os,d,e|o]:=id g;unfold getItem
 try with_reducible refine wpAny_holding ?_
 refine Z2 (wpAny_sequenceKey c.typeIs (by decide) ?_);refine Z2 (wpAny_callSpecial?_slot c.typeIs PyProof.Rows.slot_tuple_getitem
  (wpAny_call_entry PyProof.Rows.slot_tuple_getitem c.typeIs entry_tuple_getitem ?_ (args_tuple_getitem _ _)))
 show wpAny _ _ (Builtin.Tuple.tupleItemsOf _>>= _) _ _ s;refine Z2 (tupleItemsOf_ c (Z2 (wpAny_typeOf %[os,d|e] (Z2 (lj g pl m ?_)))));have f: ¬ ((((sIx a.size 0 lo):Int)==0&&(1:Int)==1&&(sIx a.size a.size hi-sIx a.size 0 lo)==a.size)=true):=by
  lia
 show wpAny _ _ (if(((sIx a.size 0 lo):Int)==0&&(1)==1&&(sIx a.size a.size hi-sIx a.size 0 lo)==a.size)=true then _ else _) _ _ s;rw[if_neg f,Ag]
 first
  | exact Z2 (wpAny_newObj_type (Z3 ⟨_,rfl,Z3 h⟩) b)
  | lia
  | lia
  | lia
end
end HT
namespace L2
open PySem PySem.Spec PyProof.Rows
noncomputable abbrev TO:=St->Hp->(Option Int->Hp->Prop)->Prop
abbrev PO(X:Cx)(e:Option Expr)(t:TO):Prop:=
 ∀pins s (a:St) H Q,Inv X pins a H s->t a H Q->
  (wpAny (model X.prog X.w) X.A) (evalPart e X.env) (λu s'=>∃o b,Inv X pins a b s'/\IsPart u o/\Q o b) X.xe s
abbrev rC:TO:=λ_ H Q=>Q none H
abbrev Ah(t:TE):TO:=λa H Q=>t a H λx b=>asI x λi=>Q (some i) b
section
variable{X:Cx}{e:Expr}{te:TE}{lo hi:Option Expr}{tl th:TO}{pos p2:Pos}
def Cu:PO X none rC:=by
 intro pins s a H Q I h;exact Z3 %[none,H,I,.none|h]
def Cv(h:PE X e te):PO X (some e) (Ah te):=by
 intro pins s a H Q I hw;refine thP (h pins s a H _ I hw) λu g x b c d f=>?_
 have%[i,rfl|q]:=iP f;have%[t|rfl]:=d;exact%[some i,b,c,.int i t|q]
abbrev SlR(X:Cx)(r:V->Option Int->Option Int->Hp->VK->Prop):Prop:=
 ∀pins s (a:St) H x v b c lo hi d Q,Inv X pins a H s->aQ x v->s.heap.IsSliceOf d b c .none->IsPart b lo->IsPart c hi->r x lo hi H Q->
  ∃T id,typeLookup (.type T) "__getitem__"=pure (some (.builtin id))/\s.TypeIs v T/\(wpAny (model X.prog X.w) X.A) (getItem v (.ref d)) (EP X pins a Q) X.xe s
def SlR.or(h:SlR X r)(h':SlR X j):SlR X (λx lo hi H Q=>r x lo hi H Q\/j x lo hi H Q):=by
 intro pins s a H x v b c lo hi d Q I f g pl i q;rcases q with q|q
 .exact h pins s a H x v b c lo hi d Q I f g pl i q
 .exact h' pins s a H x v b c lo hi d Q I f g pl i q
abbrev tSl(r:V->Option Int->Option Int->Hp->VK->Prop)(te:TE)(tl th:TO):TE:=λa H Q=>te a H λx b=>tl a b λl c=>th a c λu d=>r x l u d Q
def Ai(c:SlR X r)(d:PE X e te)(f:PO X lo tl)(g:PO X hi th):PE X (.Subscript e (.Slice lo hi none p2) pos) (tSl r te tl th):=by
 intro pins s a H Q I h;refine Subscript_ (thP (d pins s a H _ I h) λv i x j m n o=>wpAny_Slice (thP (f pins i a j _ m o) λp t l w y pl z=>thP (g pins t a w _ y z) λA B u C E G J=>Z3 ?_));have%[T,id,L,M|N]:=c pins _ a C x v p A l u ⇑B Q (E.kept λb O q=>Z7 _ q) n (Heap.IsSliceOf.new ..) pl G J;exact tail_any M L N (by with_unfolding_all rfl)
abbrev ti(xs:List V)(lo hi:Option Int):List V:=(xs.drop (HT.sIx xs.length 0 lo)).take (HT.sIx xs.length xs.length hi-HT.sIx xs.length 0 lo)
def lV(xs:List V)(lo hi:Option Int):(ti xs lo hi).length<=xs.length:=by
 unfold ti;rw[Yp,Yl]
 lia
abbrev ES(K:ZA):V->Option Int->Option Int->Hp->VK->Prop:=λx lo hi H Q=>∃a xs,x= .ref a/\SqT K H a xs/\
 ¬ (HT.sIx xs.length 0 lo=0/\HT.sIx xs.length xs.length hi=xs.length)/\∀p,H p=none->Q (.ref p) (upd H p (.tup (ti xs lo hi)))
def ET:SlR X (ES X.K):=by
 intro pins s m H x v n o lo hi p Q I g i pl j h;have%[a,xs,rfl,l,hw|q]:=h;cases g;have%[its,r,d|f]:=I.tuple l;have c:its.toArray.size=xs.length:=r.length.symm;refine%["tuple",_,PyProof.Rows.slot_tuple_getitem.lookup,d.typeIs|HT.getItem_tuple_cut d i pl j (c▸hw) ?_ (c▸f)];rw[c];refine%[.ref ⇑s,_,I.laid (λb t q=>Z7 _ q) (Zi _) ?_,rfl|q _ (I.hok.fresh (Zi _))];exact%[Yk (lV xs lo hi) f,_,(r.drop _).take _|IsTup.new _ _]
end
abbrev ixN(n:Nat)(i:Int):Option Nat:=if 0<=i then(if i<n then some i.toNat else none)else if -n<=i then some (i+n).toNat else none
abbrev atI{a:Type}(xs:List a)(i:Int):Option a:=(ixN xs.length i).bind λj=>xs[j]?
def Cw(h:ixN n i=some j):seqIndex? i n=some j/\j<n/\ -(n:Int)<=i/\i<n:=by
 unfold ixN at h;by_cases b:0<=i
 .rw[if_pos b]at h;by_cases a:i<n
  .rw[if_pos a]at h;exact%[by rw[seqIndex_of b a,(Za h)],⋯,⋯|a]
  simp_all
 .rw[if_neg b]at h;by_cases a: -n<=i
  .rw[if_pos a]at h;exact%[by rw[seqIndex_neg ⋯ a,(Za h)],⋯,a|⋯]
  .rw[if_neg a]at h;cases h
def rD{a:Type}{xs:List a}{i:Int}{v:a}(h:atI xs i=some v):∃j,seqIndex? i xs.length=some j/\xs[j]? =some v/\j<xs.length/\ -xs.length<=i/\i<xs.length:=by
 unfold atI at h;cases e:ixN xs.length i with
 | none=>simp_all
 | some j=>
   rw[e]at h;have%[b,c,d|f]:=Cw e;exact%[j,b,h,c,d|f]
def cj{a:Type}{xs:List a}{j:Nat}{v:a}(h:xs[j]? =some v):atI xs j=some v:=by
 have b:=(Xr h).1;have e:ixN xs.length j=some j:=by
  unfold ixN
  simp_all
 unfold atI;exact e▸h
def j8(xs:List a)(v:a):atI (xs++[v]) (-1)=some v:=by
 have b:(xs++[v]).length=xs.length+1:=by simp
 have e:ixN (xs++[v]).length (-1)=some xs.length:=by
  unfold ixN;rw[b,if_neg (by decide),if_pos ⋯]
  congr 1
  lia
 unfold atI
 simp_all
abbrev j9(b:Expr):Prop:=∀o i,subscripted b false o i=operate [o,i] (getItem o i)
abbrev IxR(X:Cx)(r:R2):Prop:=
 ∀b a pins s (c:St) H x y v u Q,Inv X pins c H s->aQ x v->aQ y u->r x y H Q->
  subscripted a false v u=operate [v,u] (getItem v u)->wpAny (model X.prog X.w) X.A (subscriptTail b a v u) (EP X pins c Q) X.xe s
abbrev MtR(X:Cx)(id:String)(r:V->List V->Hp->VK->Prop):Prop:=
 ∀pins s (a:St) H x xs v us Q,Inv X pins a H s->aQ x v->aE xs us->r x xs H Q->
  (wpAny (model X.prog X.w) X.A) (call (.builtin id) (v::us)) (EP X pins a Q) X.xe s
section
variable{X:Cx}{a b:Expr}{ta tb:TE}{pos:Pos}
def IxR.or(h:IxR X r)(h':IxR X j):IxR X (λx y H Q=>r x y H Q\/j x y H Q):=by
 intro c d pins s e H x y v u Q I f g q i;rcases q with q|q
 .exact h c d pins s e H x y v u Q I f g q i
 .exact h' c d pins s e H x y v u Q I f g q i
def wL(c:IxR X r)(d:PE X a ta)(e:PE X b tb)(f:j9 b):PE X (.Subscript a b pos) (tOp r ta tb):=by
 intro pins s g H Q I h;exact Subscript_ (Ez d e I h λv u i x y j l m n q=>c a b pins i g j x y v u Q l m n q (f _ _))
abbrev Cy(K:ZA):R2:=λx y H Q=>asR x λp=>asI y λi=>∃xs,SqL K H p xs/\∃v,atI xs i=some v/\Q v H
abbrev Cz(K:ZA):R2:=λx y H Q=>asR x λp=>asI y λi=>∃xs,SqT K H p xs/\∃v,atI xs i=some v/\Q v H
abbrev CA:R2:=λx y H Q=>∃z i c,x= .str z/\y= .int i/\z.length<=sizeLine/\atI z.cps.toList i=some c/\Q (.str ⟨#[c]⟩) H
def wM:IxR X (Cy X.K):=by
 intro d e pins s A H x y v u Q I B C h m;have%[p,rfl|f]:=eT h;have%[i,rfl,xs,E,z,G|q]:=iP f;cases B;have%[t|rfl]:=C;have%[its,r,pl|N]:=I.list E;have%[j,c,f,O,J|L]:=rD G;have%[w,n|g]:=r.get f;have M:=r.length;have T:=rA;have fin:EP X pins A Q w s:=%[z,H,I,g|q]
 by_cases o:0<=i
 .have l:=by
   rw[seqIndex_of o L]at c;exact Za c
  exact item_listR pl.isList o ⋯ (by rw[l];simpa using n) fin m
 .have l:(i+its.toArray.size).toNat=j:=by
   rw[seqIndex_neg ⋯ J]at c;rw[Zp,<-M];exact Za c
  exact subscriptTail_builtinR pl.isList.typeIs slot_list_getitem.lookup
   (wpAny_getItem_list_neg pl.isList ⋯ (by simp_all) ⋯ (by rw[l];simpa using n) %[rfl|fin]) m
def Aj:IxR X (Cz X.K):=by
 intro c d pins s g H x y v u Q I l m h n;have%[p,rfl|e]:=eT h;have%[i,rfl,xs,o,z,A|q]:=iP e;cases l;have%[t|rfl]:=m;have%[its,r,pl|E]:=I.tuple o;have%[j,B,e,G,J|L]:=rD A;have%[w,C|f]:=r.get e;have M:=rA;have fin:EP X pins g Q w s:=%[z,H,I,f|q]
 exact subscriptTail_builtinR pl.typeIs slot_tuple_getitem.lookup
  (getItem_tuple pl ⋯ ⋯ (by rw[Zp,<-r.length];exact B) (by simpa using C) %[rfl|fin]) n
def Ak:IxR X CA:=by
 intro d e pins s A H x y v u Q I g l h m;have%[z,i,c,rfl,rfl,B,n|q]:=h;have%[t|rfl]:=g;have%[t'|rfl]:=l;have%[j,f,o,C,p|r]:=rD n;have w:z.cps.toList.length=z.length:=by simp[Str.length]
 rw[w]at f p r;have E:=rA;exact tail_any (typeIs_str s z t) slot_str_getitem.lookup (getItem_str (by
  lia) (by rw[f];simpa using o) %[.str _,H,I.tok _,%[_|rfl]|q]) m
abbrev rIx(K:ZA):R2:=λx y H Q=>Cy K x y H Q\/Cz K x y H Q\/CA x y H Q
def EU:IxR X (rIx X.K):=wM.or (Aj.or Ak)
def rE(lo hi:Option Int)(n:Nat):(sliceBounds lo hi none n).1=((HT.sIx n 0 lo:Nat):Int)/\(sliceBounds lo hi none n).2.1=((HT.sIx n n hi:Nat):Int)/\(sliceBounds lo hi none n).2.2=1:=by
 refine%[?_,?_|rfl]
 .cases lo with
  | none=>simp[sliceBounds,HT.sIx]
  | some i=>
    simp only[sliceBounds,HT.sIx,getD_none,show(1:Int)>0 by decide,if_true];by_cases h:i<0
    .simp only[h,if_true]<;> lia
    .simp only[h,if_false]<;> lia
 .cases hi with
  | none=>simp[sliceBounds,HT.sIx]
  | some i=>
    simp only[sliceBounds,HT.sIx,getD_none,show(1:Int)>0 by decide,if_true];by_cases h:i<0
    .simp only[h,if_true]<;> lia
    .simp only[h,if_false]<;> lia
def pE(its:ZF)(lo hi:Option Int):slicePick its.toArray lo hi none=((its.drop (HT.sIx its.length 0 lo)).take (HT.sIx its.length its.length hi-HT.sIx its.length 0 lo)).toArray:=by
 have%[c,d|e]:=rE lo hi its.toArray.size;unfold slicePick;rw[c,d,e];simp only[sliceRange_one,pick_run]<;> rfl
abbrev EV(K:ZA):V->Option Int->Option Int->Hp->VK->Prop:=λx lo hi H Q=>∃a xs,x= .ref a/\SqL K H a xs/\∀p,H p=none->Q (.ref p) (upd H p (.lst (ti xs lo hi)))
def CB:SlR X (EV X.K):=by
 intro pins s l H x v m n lo hi o Q I e f pl g h;have%[a,xs,rfl,i|q]:=h;cases e;have%[its,r,d|j]:=I.list i;have c:=r.length;refine%["list",_,slot_list_getitem.lookup,d.isList.typeIs|wpAny_getItem_list_slice d.isList f pl g .none ∅ ?_ (by simp_all)];rw[pE,<-c];refine%[.ref ⇑s,_,I.laid (λb p q=>Z7 _ q) (Zi _) ?_,rfl|q _ (I.hok.fresh (Zi _))];exact%[Yk (lV xs lo hi) j,_,0,(r.drop _).take _|Zj _ rfl]
abbrev fE:V->Bool
 | .non=>true
 | .bl _=>true
 | .int _=>true
 | .str _=>true
 | _=>false
abbrev eqV:V->V->Bool
 | .non,.non=>true
 | .bl a,.bl b=>a==b
 | .bl a,.int b=>(if a then 1 else 0)==b
 | .int a,.bl b=>a==(if b then 1 else 0)
 | .int a,.int b=>a==b
 | .str a,.str b=>a==b
 | _,_=>false
def EW(d:aQ y u)(c:aQ x v)(f:fE y=true)(e:fE x=true):SeqAt.EqAt A s u v (eqV y x):=by
 cases y with
 | non=>
   cases d;cases x with
   | non=>cases c;exact SeqAt.EqAt.same _
   | bl b=>cases c;exact SeqAt.EqAt.none_bool b
   | int b=>have%[t|rfl]:=c;exact SeqAt.EqAt.none_int b t
   | str b=>have%[t|rfl]:=c;exact SeqAt.EqAt.none_str b t
   | _=>exact absurd (show false=true from e) Zu
 | bl a=>
   cases d;cases x with
   | non=>cases c;exact SeqAt.EqAt.bool_none a
   | bl b=>cases c;exact SeqAt.EqAt.bool_bool a b
   | int b=>have%[t|rfl]:=c;exact SeqAt.EqAt.bool_int a b t
   | str b=>have%[t|rfl]:=c;exact SeqAt.EqAt.bool_str a b t
   | _=>exact absurd (show false=true from e) Zu
 | int a=>
   have%[t'|rfl]:=d;cases x with
   | non=>cases c;exact SeqAt.EqAt.int_none a t'
   | bl b=>cases c;exact SeqAt.EqAt.int_bool a t' b
   | int b=>have%[t|rfl]:=c;exact SeqAt.EqAt.int_int a t' b t
   | str b=>have%[t|rfl]:=c;exact SeqAt.EqAt.int_str a t' b t
   | _=>exact absurd (show false=true from e) Zu
 | str a=>
   have%[t'|rfl]:=d;cases x with
   | non=>cases c;exact SeqAt.EqAt.str_none a t'
   | bl b=>cases c;exact SeqAt.EqAt.str_bool a t' b
   | int b=>have%[t|rfl]:=c;exact SeqAt.EqAt.str_int a t' b t
   | str b=>have%[t|rfl]:=c;exact SeqAt.EqAt.str_str a t' b t
   | _=>exact absurd (show false=true from e) Zu
 | _=>exact absurd (show false=true from f) Zu
abbrev eqU(x:V)(u:Value):Bool:=match u with
 | .none=>eqV .non x
 | .bool b=>eqV (.bl b) x
 | .int i _=>eqV (.int i) x
 | .str z _=>eqV (.str z) x
 | _=>false
def Al(r:aQ y u)(f:fE y=true):eqU x u=eqV y x:=by
 cases y with
 | non=>cases r;rfl
 | bl b=>cases r;rfl
 | int i=>have%[t|rfl]:=r;rfl
 | str z=>have%[t|rfl]:=r;rfl
 | _=>exact absurd (show false=true from f) Zu
def rG:∀{xs:List V} {us:ZF},aE xs us->xs.all fE=true->us.any (eqU x)=xs.any λy=>eqV y x
 | _,_,.nil,_=>rfl
 | y::xs,u::us,.cons r t,f=>by
   rw[List.all_cons,Zx]at f;rw[Zy,Zy,Al r f.1,rG t f.2]
def nq(d:aQ x v)(e:fE x=true):∀{xs:List V} {us:ZF},aE xs us->xs.all fE=true->∀u∈us,SeqAt.EqAt A s u v (eqU x u)
 | _,_,.nil,_=>λu c=>by cases c
 | y::xs,u::us,.cons r t,f=>λg c=>by
   rw[List.all_cons,Zx]at f;rcases mem_cons.mp c with rfl|c
   .rw[Al r f.1];exact EW r d f.1 e
   .exact nq d e t f.2 g c
abbrev inV(x:V)(xs:List V):Bool:=xs.any λy=>eqV y x
abbrev rIn(K:ZA)(c:Bool):R2:=λx y H Q=>∃p xs,y= .ref p/\(SqL K H p xs\/SqT K H p xs)/\fE x=true/\xs.all fE=true/\Q (.bl (if c then !inV x xs else inV x xs)) H
def x9:OpR X (compareOp .In) (rIn X.K false):=by
 intro pins s i H x y v u Q I d f h;have%[p,xs,rfl,c,e,fs|q]:=h;cases f;rcases c with c|c
 .have%[its,r,pl|g]:=I.list c;refine SeqAt.in_listAt _ pl.isList (λw hw=>nq d e r fs w (by simpa using hw)) %[.bl _,H,I,rfl|?_];rw[show its.toArray.any _=its.any (eqU x) by simp,rG r fs];exact q
 .have%[its,r,pl|g]:=I.tuple c;refine SeqAt.in_tupleAt _ pl (λw hw=>nq d e r fs w (by simpa using hw)) %[.bl _,H,I,rfl|?_];rw[show its.toArray.any _=its.any (eqU x) by simp,rG r fs];exact q
def rH:cq X (.type "list") (λxs H Q=>∃p ys,xs=[.ref p]/\(SqL X.K H p ys\/SqT X.K H p ys)/\∀l,H l=none->Q (.ref l) (upd H l (.lst ys))):=by
 intro pins s y H xs us Q I r h;have%[p,ys,rfl,f|q]:=h;have%[u,rfl|z]:=dg r;cases z;have fin:∀its,aE ys its->ys.length<=sizeLine->∀h' d,(∀b w,s.heap.get? b=some w->h'.get? b=some w)->
  h'.get? ⇑s=some _->EP X pins y Q _ {s with heap:=h'}:=λits c g h' d i e=>
  %[.ref ⇑s,_,I.laid i (Zi _) (show b8 X.prog X.w _ h' _ (.lst ys)from%[g,its,d,c|e]),rfl|q _ (I.hok.fresh (Zi _))]
 rcases f with f|f
 .have%[its,c,pl|g]:=I.list f;have j:=c.length;have%[o,m,t,n|v]:=pl.isList;exact call_list_seq p (.inl rfl) m t v (λh' d i e=>fin its c g h' d i e) (by simp only[Zp]<;> lia)
 .have%[its,c,pl|g]:=I.tuple f;have j:=c.length;have%[o,m,t,n|v]:=pl;exact call_list_seq p (.inr rfl) m t v (λh' d i e=>fin its c g h' d i e) (by simp only[Zp]<;> lia)
abbrev tyV(K:ZA)(T:String)(x:V)(H:Hp):Prop:=match x with
 | .str _=>T="str"
 | .int _=>T="int"
 | .ref p=>(T="list"/\∃xs,SqL K H p xs)\/(T="tuple"/\∃o,K.lookup p=some o/\o.cls= .type "tuple"/\o.dict=none)\/
  (T="dict"/\((∃c,H p=some (.dK c))\/∃c,H p=some (.dT c)))\/(T="set"/\∃S n,H p=some (.set S n))
 | _=>False
def Am(I:Inv X pins q H s)(r:aQ x v)(ty:tyV X.K T x H):
 s.TypeIs v T/\∀a,v= .ref a->∃j,s.heap.get? a=some j/\j.dict=none:=by
 cases x with
 | str z=>
   have%[t|rfl]:=r;cases(show T="str" from ty);exact%[typeIs_str s z t|λ_ e=>nomatch e]
 | int i=>
   have%[t|rfl]:=r;cases(show T="int" from ty);exact%[typeIs_int s i t|λ_ e=>nomatch e]
 | ref p=>
   cases r;rcases ty with⟨rfl,xs,l⟩|⟨rfl,o,d,m,f⟩|⟨rfl,d⟩|⟨rfl,S,n,d⟩
   .have%[its,_,pl|_]:=I.list l;refine%[pl.isList.typeIs|λa e=>?_];cases e;have%[o,n,e,c,f|_]:=pl;exact%[o,e|f]
   .refine%[%[o,I.kIn p o d|m]|λa e=>?_];cases e;exact%[o,I.kIn _ o d|f]
   .have z:∃o,s.heap.get? p=some o/\o.ExactDict:=by
     rcases d with⟨g,d⟩|⟨g,d⟩
     .have%[_,_,_,_,o,_,_,e,ex|_]:=I.hok p _ d;exact%[o,e|ex]
     .have%[_,_,_,_,o,_,_,e,ex|_]:=I.hok p _ d;exact%[o,e|ex]
    have%[o,e|ex]:=z;refine%[%[o,e|ex.1]|λa h=>?_];cases h;exact%[o,e|ex.2.1]
   .have%[o,_,_,_,e,ex|_]:=I.hok p _ d;refine%[%[o,e|ex.1]|λa h=>?_];cases h;exact%[o,e|ex.2.1]
 | _=>exact False.elim ty
abbrev CC(K:ZA)(T:String)(r:V->List V->Hp->VK->Prop)(d:TE):TE:=λe H Q=>d e H λx c=>tyV K T x c/\r x [] c Q
abbrev tBM(K:ZA)(T:String)(r:V->List V->Hp->VK->Prop)(e:TE)(t:TA):TE:=λc H Q=>e c H λx d=>tyV K T x d/\t c d λxs f=>r x xs f Q
variable{o e:Expr}{es:List Expr}{to:TE}{t:TA}{name:Str}{apos cpos:Pos}{T id:String}{r:V->List V->Hp->VK->Prop}
def EX(l:PlainAttrs T)(slot:Slot T name id)(f:typeOf (.builtin id)=pure (.type "method_descriptor"))(m:MtR X id r)(n:PE X o to)
 (c:attributeBase o name X.env (eval o X.env)=eval o X.env) (d:(apos.endLine==cpos.line)=true):PE X (.Call (.Attribute o name apos) [] [] cpos) (CC X.K T r to):=by
 intro pins s g H Q I h;refine wpAny_Call_method0_late c d (thP (n pins s g H _ I h) λv p x q i j ⟨ty,u⟩=>?_);have%[w|y]:=Am i j ty;exact%[T,id,l,slot,f,w,y|Calls.callWith_builtin rfl (PySem.evalArgs_none (m pins p g q x [] v [] Q i j .nil u))]
def GI(p:PlainAttrs T)(slot:Slot T name id)(i:typeOf (.builtin id)=pure (.type "method_descriptor"))(q:MtR X id r)(u:PE X o to)(w:PA X (e::es) t)
 (d:attributeBase o name X.env (eval o X.env)=eval o X.env)
 (g:((backTo cpos (starEach (e::es) X.env)).all (λx=>!x.1)&&(backToKw cpos (keywordEach [] X.env)).all (λx=>x.1.isSome)
  && decide ((e::es).length+([]:List Keyword).length+(if([]:List Keyword).isEmpty then 0 else 1)<30))=true)
 (f:(apos.endLine==cpos.line)=true) (y:starEach (e::es) X.env=(false,eval e X.env)::starEach es X.env) (c:(backTo cpos (starEach es X.env)).any (·.1)=false):
 PE X (.Call (.Attribute o name apos) (e::es) [] cpos) (tBM X.K T r to t):=by
 intro pins s j H Q I h;refine wpAny_Call_method_late d g f rfl (thP (u pins s j H _ I h) λv z x A l m ⟨ty,B⟩=>?_);have%[C|E]:=Am l m ty;refine%[T,id,p,slot,i,C,E|?_];have n:=w cpos pins z j A _ l B;rw[y]at n ⊢;exact Calls.callWith_builtin (by show(false||(backTo cpos _).any _)=false;rw[c]<;> rfl) (Calls.evalArgs_plain (thn n λus G ⟨vs,J,L,M,N⟩=>q pins G j J x vs v us Q L m M N))
end
abbrev MtM(X:Cx)(id:String)(r:V->List V->Hp->VK->Prop):Prop:=
 ∀pins s (a:St) H x xs v us Q,Inv X pins a H s->aQ x v->aE xs us->r x xs H Q->
  (wpAny (model X.prog X.w) X.A) (call (.builtin id) (v::us)) (EP X pins a Q) X.xe s
def aE.one:∀{x:V} {us:ZF},aE [x] us->∃u,us=[u]/\aQ x u
 | _,_,.cons r .nil=>%[_,rfl|r]
def aE.zero:∀{us:ZF},aE [] us->us=[]
 | _,.nil=>rfl
def aE.dropLast{xs:List V}{us:ZF}(h:aE xs us):aE xs.dropLast us.dropLast:=by
 induction h with
 | nil=>exact .nil
 | cons r t a=>
   cases t with
   | nil=>exact .nil
   | cons q t'=>exact .cons r a
def aE.eraseIdx:∀{xs:List V} {us:ZF} i,aE xs us->aE (xs.eraseIdx i) (us.eraseIdx i)
 | _,_,_,.nil=> .nil
 | _,_,0,.cons _ t=>t
 | _,_,i+1,.cons r t=> .cons r (aE.eraseIdx i t)
def aE.reverse(h:aE xs us):aE xs.reverse us.reverse:=by
 induction h with
 | nil=>exact .nil
 | cons r t a=>rw[List.reverse_cons,List.reverse_cons];exact aE.append a (.cons r .nil)
def aE.rep(h:aE xs us):∀k:Nat,aE (List.replicate k xs).flatten (List.replicate k us).flatten
 | 0=> .nil
 | k+1=>by
   exact aE.append h (aE.rep h k)
def qc:∀(l:List a) (i:Nat),(l.eraseIdx i).length<=l.length
 |[],_=>Zi _
 | _::_,0=>Yj _
 | _::r,i+1=>Nat.succ_le_succ (qc r i)
def qd(its:ZF):∀k acc,
 List.foldl (λa x2=>a++x2) acc.toArray (List.replicate k its.toArray)=(acc++(List.replicate k its).flatten).toArray
 | 0,acc=>by simp
 | k+1,acc=>by
   have e:acc.toArray++its.toArray=(acc++its).toArray:=by simp
   have b:(acc++its) ++(List.replicate k its).flatten=acc++(List.replicate (k+1) its).flatten:=by
    rw[List.replicate_succ,List.flatten_cons,Ze]
   rw[<-b,<-qd its k _,<-e,List.replicate_succ,Y9]
section
#version
variable{l b:Addr}{xs ys zs:List V}
def Inv.lset{its its':ZF}{n:Nat}{f:ZJ->ZJ}{t':Nat}(I:Inv X pins σ H s)(a:H l=some (.lst xs))
 (e:s.heap.get? l=some {cls:= .type "list",data:= .seq its.toArray n}) (c:f its.toArray=its'.toArray) (d:aE ys its') (g:ys.length<=sizeLine):
 Inv X pins σ (upd H l (.lst ys)) {s with heap:=s.heap.update l (Obj.mapSeq f),toks:=t'}:=by
 have q:=PySem.IsL.update e f;rw[c]at q;refine I.write (a▸trivial) (.inl rfl) (λj u h i=>(get?_update_other s.heap _ (Ne.symm h)).trans i) %[_|q] ?_;exact%[g,its',_,d|q]
def Inv.lnew(I:Inv X pins σ H s)(a:aE ys its)(c:ys.length<=sizeLine):
 Inv X pins σ (upd H ⇑s (.lst ys)) {s with heap:=s.heap.push {cls:= .type "list",data:= .seq its.toArray},toks:=t'}:=
 I.laid (λ_ _ q=>Z7 _ q) (Zi _) %[c,its,0,a|Zj _ rfl]
def Inv.fresh(I:Inv X pins σ H s):H ⇑s=none:=I.hok.fresh (Zi _)
def Inv.lstM(I:Inv X pins σ H s)(a:H l=some (.lst xs)):xs.length<=sizeLine/\∃its n,aE xs its/\xs.length=its.length/\s.heap.get? l=some {cls:= .type "list",data:= .seq its.toArray n}:=by
 have%[z,its,n,r|e]:=I.hok l _ a;exact%[z,its,n,r,r.length|e]
def tq{n:Nat}(h:n<=sizeLine):Builtin.List.listTooLong n=false:=by
 unfold Builtin.List.listTooLong
 simp_all
end
section
variable{X:Cx}
abbrev rJ:V->List V->Hp->VK->Prop:=λx vs H Q=>asR x λl=>∃y,vs=[y]/\∃xs,H l=some (.lst xs)/\xs.length<sizeLine/\Q .non (upd H l (.lst (xs++[y])))
def qe:MtM X "list.append" rJ:=by
 intro pins s f H x vs v us Q I b c h;have%[l,rfl,y,rfl,xs,a,g|q]:=eT h;cases b;have%[u,rfl|d]:=c.one;have%[z,its,n,r,i|e]:=I.lstM a;refine call_meets F.slot_list_append %[_,e|rfl] F.entry_list_append (F.args_list_append_2 _ _) (PySem.list_append l its.toArray n u (by simp_all)) %[e,.non,_,I.lset a e ∅ (r.append (.cons d .nil)) ?_,rfl|q];rw[Z9,Yo]
 lia
abbrev rK:V->List V->Hp->VK->Prop:=λx vs H Q=>∃l b xs zs,x= .ref l/\vs=[.ref b]/\H l=some (.lst xs)/\H b=some (.lst zs)/\xs.length+zs.length<=sizeLine/\Q .non (upd H l (.lst (xs++zs)))
def ya:MtM X "list.extend" rK:=by
 intro pins s w H x vs v us Q I f g h;have%[l,b,xs,zs,rfl,rfl,d,i,y|q]:=h;cases f;have%[u,rfl|j]:=g.one;cases j;have%[z,its,n,r,A|e]:=I.lstM d;have%[B,its2,m,o,p|t]:=I.lstM i;have c:its.toArray.size+its2.toArray.size<=sizeLine:=by simp_all
 have a: ¬ (!its.toArray.isEmpty&&Builtin.List.listTooLong (its.toArray.size+its2.toArray.size))=true:=by
  rw[tq c,Bool.and_false];exact Zu
 refine call_meets F.slot_list_extend %[_,e|rfl] F.entry_list_extend (F.args_list_extend_2 _ _)
  (AutoSeq1.list_extend_list_list_0 l its.toArray n b its2.toArray m a ⋯ ⋯) %[e,t,.non,_,I.lset d e ∅ (r.append o) ?_,rfl|q]
 simp_all
abbrev GJ:V->List V->Hp->VK->Prop:=λx vs H Q=>∃l xs y,x= .ref l/\vs=[]/\H l=some (.lst xs)/\xs[xs.length-1]? =some y/\Q y (upd H l (.lst xs.dropLast))
def EY:MtM X "list.pop" GJ:=by
 intro pins s j H x vs v us Q I d f h;have%[l,xs,y,rfl,rfl,c,g|q]:=h;cases d;have a:=f.zero;subst a;have%[z,its,n,r,m|e]:=I.lstM c;have%[u,o|i]:=r.get g;have b:its.toArray[its.toArray.size-1]? =some u:=by
  simp_all
 refine call_meets F.slot_list_pop %[_,e|rfl] F.entry_list_pop (F.args_list_pop_1 _) (MeetsSeq.list_pop_last l its.toArray n u b (by simp_all)) %[e,y,_,I.lset c e ?_ r.dropLast ?_,i|q]
 .simp
 .rw[List.length_dropLast]
  lia
abbrev EZ:R2:=λx y H Q=>∃l b xs zs,x= .ref l/\y= .ref b/\H l=some (.lst xs)/\H b=some (.lst zs)/\xs.length+zs.length<=sizeLine/\∀p,H p=none->Q (.ref p) (upd H p (.lst (xs++zs)))
def E3:OpR X (binaryOp .Add) EZ:=by
 intro pins s o H x y v u Q I a c h;have%[l,b,xs,zs,rfl,rfl,d,f,p|q]:=h;cases a;cases c;have%[z,its,n,r,t|e]:=I.lstM d;have%[w,its2,A,g,i|j]:=I.lstM f;refine PySem.P.add_list e j ?_ (by rw[Zp,Zp];lia);have m:its.toArray++its2.toArray=(its++its2).toArray:=by simp
 rw[m];exact%[.ref _,_,I.lnew (r.append g) (by rw[Z9];lia),rfl|q _ I.fresh]
abbrev E4:R2:=λx y H Q=>∃l k xs,x= .ref l/\y= .int k/\H l=some (.lst xs)/\ -(2^63)<=k/\k<2^63/\xs.length*k.toNat<=sizeLine/\
 ∀p,H p=none->Q (.ref p) (upd H p (.lst (List.replicate k.toNat xs).flatten))
def CD(xs:List a)(k:Nat):(List.replicate k xs).flatten.length=k*xs.length:=by
 simp
def E5:OpR X (binaryOp .Mult) E4:=by
 intro pins s E H x y v u Q I o p h;have%[l,k,xs,rfl,rfl,w,A,B,j|q]:=h;cases o;have%[t|rfl]:=p;have%[z,its,n,r,C|e]:=I.lstM w;have c:its.toArray.size*k.toNat<=sizeLine:=by rw[Zp,<-C];exact j
 have d: ¬ its.toArray.size*k.toNat>(2^63-1)/8:=by
  have:sizeLine<=(2^63-1)/8:=by decide
  lia
 have f: ¬ (!Builtin.List.listFitsIndex k)=true:=by
  rw[fitsIndex_both A B];exact Zu
 have b: ¬ Builtin.List.listTooLong (its.toArray.size*k.toNat)=true:=by
  rw[tq c];exact Zu
 have g:List.foldl (λi x2=>i++x2) #[] (List.replicate (if its.toArray.isEmpty=true then 0 else k.toNat) its.toArray)=(List.replicate k.toNat its).flatten.toArray:=by
  have G:∀m,List.foldl (λi x2=>i++x2) #[] (List.replicate m its.toArray)=(List.replicate m its).flatten.toArray:=λm=>by
   have:=qd its m []
   simp_all
  cases its with
  | nil=>simp
  | cons a J=>simp_all
 refine wpAny_binaryOp_repeat_ref (by decide) %[_,e|rfl] (λs'=>typeIs_int s' k t) noFill_list_mul F.fills_int_mul F.slot_int_rmul repeat_list F.slot_int_index.lookup
  (call_meets F.slot_int_rmul (typeIs_int s k t) F.entry_int_rmul (F.args_int_rmul_2 _ _) (int___rmul___int_list k t l its.toArray n)
   %[e,rfl,%[_,e|rfl]|call_meets F.slot_list_mul %[_,e|rfl] F.entry_list_mul (F.args_list_mul_2 _ _) (AutoListH.list___mul___list_int_3 l its.toArray n k t f d b) %[e|?_]])
 rw[g];exact%[.ref _,_,I.lnew (r.rep k.toNat) (by rw[CD,Nat.mul_comm];exact j),rfl|q _ I.fresh]
end
section
#where
end
section
variable{X:Cx}
end
section
variable{κ:Type}[DecidableEq κ]
abbrev bJ(a:List (κ×V))(k:κ):Option V:=(a.find? λb=>decide (b.1=k)).map (·.2)
abbrev cP(a:List (κ×V))(k:κ)(v:V):List (κ×V):=
 if(a.any λb=>decide (b.1=k))=true then a.map (λb=>if b.1=k then(b.1,v)else b)else a++[(k,v)]
def eV{p:κ×V}{r:List _}{k:κ}(e:p.1=k):bJ (p::r) k=some p.2:=by simp[bJ,e]
def dv{p:κ×V}{r:List _}{k:κ}(e: ¬ p.1=k):bJ (p::r) k=bJ r k:=by simp[bJ,e]
def iQ(k:κ):∀a,(a.any λb=>decide (b.1=k))=(bJ a k).isSome
 |[]=>rfl
 | p::r=>by
   rw[Zy];by_cases e:p.1=k
   .simp only[eV e,Zf e,Bool.true_or,Option.isSome_some]
   .rw[dv e,Zh e,Bool.false_or];exact iQ k r
def fF(a:List _)(k:κ)(v:V):(cP a k v).length<=a.length+1:=by
 unfold cP
 split
 .simp
 simp_all
def d8{k:κ}(v:V)(h:bJ a k=none):cP a k v=a++[(k,v)]:=by
 unfold cP;rw[iQ,h];exact if_neg (by decide)
def f9.isSome_eq(r:f9 o u):o.isSome=u.isSome:=by
 cases o with
 | none=>cases u with
   | none=>rfl
   | some _=>exact(r).elim
 | some _=>cases u with
   | none=>exact(r).elim
   | some _=>rfl
def f9.getD{o:Option V}{u:Option Value}{d:V}{d':Value}(r:f9 o u)(a:aQ d d'):aQ (o.getD d) (u.getD d'):=by
 cases o with
 | none=>cases u with
   | none=>exact a
   | some _=>exact(r).elim
 | some _=>cases u with
   | none=>exact(r).elim
   | some _=>exact r
def KV.val{vs:List (κ×Value)}(r:KV a vs)(k:κ):f9 (bJ a k) (valueAt vs k):=by
 induction r with
 | nil=>exact True.intro
 | @cons p q ps qs h t f=>
   have%[d|g]:=h;by_cases e:p.1=k
   .have c:=d.symm.trans e;have b:valueAt (q::qs) k=some q.2:=by simp[valueAt,c]
    rw[eV e,b];exact g
   .have c: ¬ q.1=k:=λz=>e (d.trans z)
    have b:valueAt (q::qs) k=valueAt qs k:=by simp[valueAt,c]
    rw[dv e,b];exact f
def KV.any(r:KV a vs)(k:κ):(a.any λb=>decide (b.1=k))=vs.any λb=>decide (b.1=k):=by
 induction r with
 | nil=>rfl
 | cons h t c=>simp_all
def KV.repl(r:KV c vs)(k:κ)(d:aQ y u):
 KV (c.map λa=>if a.1=k then(a.1,y)else a) (vs.map λa=>if a.1=k then(a.1,u)else a):=by
 induction r with
 | nil=>exact .nil
 | @cons p q ps qs h t f=>
   rw[Yu,Yu];refine .cons ?_ f;have%[b|g]:=h;by_cases e:p.1=k
   .rw[if_pos e,if_pos (b.symm.trans e)];exact%[b|d]
   .rw[if_neg e,if_neg (λz=>e (b.trans z))];exact%[b|g]
def KV.put(r:KV a vs)(k:κ)(b:aQ y u):KV (cP a k y) (stored vs k u):=by
 unfold cP stored;rw[r.any k];by_cases e:(vs.any λc=>decide (c.1=k))=true
 .rw[if_pos e,if_pos e];exact r.repl k b
 .rw[if_neg e,if_neg e];exact Paired.snoc r %[rfl|b]
def KV.keys{a:List (κ×V)}{vs:List (κ×Value)}(r:KV a vs):a.map (·.1)=vs.map (·.1):=by
 induction r with
 | nil=>rfl
 | cons h t b=>simp_all
def KV.length{a:List (κ×V)}{vs:List _}(r:KV a vs):a.length=vs.length:=Paired.length r
end
def lW{P:Program}(r:aQ (kV k) u):(aM P w).is k u=true:=by
 cases k with
 | inl i=>have%[t|e]:=(r);subst e;exact sX P w i t
 | inr x=>have%[t|e]:=(r);subst e;exact sY P w x t
def qf{P:Program}:∀{ks:List Key} {us:ZF},aE (ks.map kV) us->ItemsAre (aM P w) ks us
 |[],_,r=>by cases r;exact .nil
 | k::ks,_,r=>by
   cases r with
   | cons h t=>exact .cons (lW h) (qf t)
noncomputable abbrev KT(H:Hp):List (List Key×V)->List (List Key×Addr×Value)->Prop:=Paired λp q=>p.1=q.1/\H q.2.1=some (.tup (p.1.map kV))/\aQ p.2 q.2.2
def KT.val{a:List (List Key×V)}{xs:List (List Key×Addr×Value)}(r:KT H a xs)(k:List Key):f9 (bJ a k) ((atKey xs k).map (·.2)):=by
 induction r with
 | nil=>exact True.intro
 | @cons p q ps qs h t f=>
   have%[d,_|g]:=h;by_cases e:p.1=k
   .have c:=d.symm.trans e;have b:atKey (q::qs) k=some q.2:=by simp[atKey,c]
    rw[eV e,b];exact g
   .have c: ¬ q.1=k:=λz=>e (d.trans z)
    have b:atKey (q::qs) k=atKey qs k:=by simp[atKey,c]
    rw[dv e,b];exact f
def KT.repl(r:KT H b xs)(k:List Key)(f:aQ y u):
 KT H (b.map λc=>if c.1=k then(c.1,y)else c) (xs.map (putAt k u)):=by
 induction r with
 | nil=>exact .nil
 | @cons p q ps qs h t g=>
   rw[Yu,Yu];refine .cons ?_ g;have%[a,d|i]:=h;unfold putAt;by_cases e:p.1=k
   .rw[if_pos e,if_pos (a.symm.trans e)];exact%[a,d|f]
   .rw[if_neg e,if_neg (λz=>e (a.trans z))];exact%[a,d|i]
def KT.put(r:KT H a xs)(k:List Key)(d:H b=some (.tup (k.map kV)))(c:aQ y u):
 KT H (cP a k y) (storedH xs k b u):=by
 have e:(a.any λf=>decide (f.1=k))=(atKey xs k).isSome:=by
  rw[iQ,(r.val k).isSome_eq,isSome_map]
 unfold cP storedH;rw[e];by_cases q:(atKey xs k).isSome=true
 .rw[if_pos q,if_pos q];exact r.repl k c
 .rw[if_neg q,if_neg q];exact Paired.snoc r %[rfl,d|c]
def KT.keeps(r:KT H a xs)(c:∀b ys,H b=some (.tup ys)->d b=some (.tup ys)):KT d a xs:=
 Paired.mapP r λ_ _ z=>%[z.1,c _ _ z.2.1|z.2.2]
section
variable{P:Program}{w:World}{H:Hp}{h:Heap}{a:Addr}
def DM(ok:HOk P w H h)(e:Rd H a u):b8 P w H h a u:=e.ok ok
def nu(ok:HOk P w H h)(e:Rd H a (.dK b)):b.length<=sizeLine/\(a==sysModules)=false/\∃vs,KV b vs/\h.DictOf (aM P w) a vs:=
 DM ok e
def kb(ok:HOk P w H h)(e:H a=some (.dK b)):b.length<=sizeLine/\(a==sysModules)=false/\∃vs,KV b vs/\h.DictOf (aM P w) a vs:=nu ok (.inl e)
def nv(ok:HOk P w H h)(e:H a=some (.tup (ks.map kV))):(tupleKind (aM P w)).is h ks a:=by
 have%[_,its,r,o,b,c,n|d]:=(ok a _ e)
 exact%[o,its.toArray,n,b,c,d|qf r]
def qg(ok:HOk P w H h)(e:Rd H a (.dT b)):b.length<=sizeLine/\(a==sysModules)=false/\
 ∃xs,KT H b xs/\h.DictOfH (tupleKind (aM P w)) a xs:=by
 have%[z,y,xs,r,o,d,f,g,i,j,n|s]:=(DM ok e)
 refine%[z,y,xs,r,o,d,f,g,i,j,n,λx c=>?_|s];have all:∀{l:List _} {m:List _},KT H l m->∀x∈m,(tupleKind (aM P w)).is h x.1 x.2.1:=by
  intro l m q
  induction q with
  | nil=>simp
  | @cons p q ps qs v t u=>
    intro x c;rcases mem_cons.mp c with e|c
    .exact nv ok (by simp_all)
    .exact u x c
 exact all r x c
def GK(ok:HOk P w H h)(e:H a=some (.dT b)):b.length<=sizeLine/\(a==sysModules)=false/\
 ∃xs,KT H b xs/\h.DictOfH (tupleKind (aM P w)) a xs:=qg ok (.inl e)
end
abbrev cB(H:Hp)(a:Addr)(y:V)(r:Option V):Prop:=
 (∃c k,Rd H a (.dK c)/\y=kV k/\r=bJ c k)\/∃c k b,Rd H a (.dT c)/\y= .ref b/\H b=some (.tup (k.map kV))/\r=bJ c k
abbrev iM(H:Hp)(a:Addr)(y v:V)(d:Hp):Prop:=
 (∃c k,H a=some (.dK c)/\y=kV k/\c.length<sizeLine/\d=upd H a (.dK (cP c k v)))\/
 ∃c k b,H a=some (.dT c)/\y= .ref b/\H b=some (.tup (k.map kV))/\c.length<sizeLine/\d=upd H a (.dT (cP c k v))
def cB.k{k:Key}(e:H a=some (.dK b)):cB H a (kV k) (bJ b k):= .inl %[b,k,.inl e,rfl|rfl]
def iM.k{k:Key}(e:H a=some (.dK b))(c:b.length<sizeLine):iM H a (kV k) v (upd H a (.dK (cP b k v))):= .inl %[b,k,e,rfl,c|rfl]
section
#version
variable{a:Addr}{y v:V}{u r:Value}{o:Option V}{A:Around}{E:ZD}
def Inv.big(I:Inv X pins σ H s):sysModules<⇑s:=by
 exact Nat.lt_trans (by decide) ((I.mod.glob.keeps I.bk).lt)
def yb(t:A.units+1<cLine)(I:Inv X pins σ H s)(g:cB H a y (some v))(q:aQ y u)(h:∀f s',Inv X pins σ H s'->aQ v f->Q f s'):
 wpAny (model X.prog X.w) A (getItem (.ref a) u) Q E s:=by
 rcases g with⟨i,k,e,j,l⟩|⟨i,k,b,e,j,w,l⟩
 .subst j;have%[z,B,vs,c|m]:=nu I.hok e;have%[f,hw|d]:=f9.some_of (l▸c.val k);exact wpAny_getItem_of (lW q) m.mapOf hw (h f _ (I.tok _) d)
 .subst j;cases(q);have%[z,B,xs,c|m]:=qg I.hok e;have%[f,hw|d]:=f9.some_of (l▸c.val k);have%[p,C|n]:=map_eq_some_iff.mp hw;refine wpAny_getItem_heap (tupleKind_room_in1 t) (nv I.hok w) m C ?_;rw[n];exact h f _ (I.tok _) d
def d_in(n:A.units+1<cLine)(I:Inv X pins σ H s)(g:cB H a y o)(m:aQ y u)(h:∀s',Inv X pins σ H s'->Q (.bool o.isSome) s'):
 wpAny (model X.prog X.w) A (compareOp .In u (.ref a)) Q E s:=by
 rcases g with⟨d,k,e,f,l⟩|⟨d,k,b,e,f,p,l⟩
 .subst f;have%[z,i,vs,c|j]:=nu I.hok e;refine wpAny_in_of (lW m) i j.mapOf ?_;rw[<-(c.val k).isSome_eq,<-l];exact h _ (I.tok _)
 .subst f;cases(m);have%[z,i,xs,c|j]:=qg I.hok e;refine wpAny_in_heap (tupleKind_room_in1 n) (nv I.hok p) i j ?_;have q:=(c.val k).isSome_eq;rw[isSome_map]at q;rw[<-q,<-l];exact h _ (I.tok _)
def CF(n:A.units+1<cLine)(I:Inv X pins σ H s)(g:cB H a y o)(m:aQ y u)(h:∀s',Inv X pins σ H s'->Q (.bool (!o.isSome)) s'):
 wpAny (model X.prog X.w) A (compareOp .NotIn u (.ref a)) Q E s:=by
 rcases g with⟨d,k,e,f,l⟩|⟨d,k,b,e,f,p,l⟩
 .subst f;have%[z,i,vs,c|j]:=nu I.hok e;refine wpAny_notIn_of (lW m) i j.mapOf ?_;rw[<-(c.val k).isSome_eq,<-l];exact h _ (I.tok _)
 .subst f;cases(m);have%[z,i,xs,c|j]:=qg I.hok e;refine wpAny_notIn_heap (tupleKind_room_in1 n) (nv I.hok p) i j ?_;have q:=(c.val k).isSome_eq;rw[isSome_map]at q;rw[<-q,<-l];exact h _ (I.tok _)
def mU(I:Inv X pins σ H s)(d:Mut (H a))(e:SameBut a s.heap h')(f:∃q,h'.get? a=some q)(new:b8 X.prog X.w (upd H a c) h' a c):
 Inv X pins σ (upd H a c) {s with heap:=h',toks:=t'}:=
 I.write d (.inl rfl) (λb q g z=>(e.2 b g).trans z) f new
def vA{P:Program}(z:b.length<=sizeLine)(d:(a==sysModules)=false)(c:KV b vs)(e:h'.DictOf (aM P w) a vs):
 b8 P w f h' a (.dK b):=%[z,d,vs,c|e]
def yd(M:A.units+1<cLine)(I:Inv X pins σ H s)(g:iM H a y v N)(C:aQ y u)(G:aQ v r)(h:∀s',Inv X pins σ N s'->Q () s'):
 wpAny (model X.prog X.w) A (setItem (.ref a) u r) Q E s:=by
 rcases g with⟨d,k,e,m,l,n⟩|⟨d,k,b,e,m,J,l,n⟩
 .subst m n;have%[z,p,vs,f|t]:=kb I.hok e;have O:vs.length<=sizeLine:=f.length▸z;have w:(cP d k v).length<=sizeLine:=by have:=fF d k v;lia
  exact wpAny_setItem_pairs (lW C) t λh' i B=>h _ (mU I (e▸True.intro) B (let⟨q,_,_,j,_⟩:=i;%[q|j]) (vA w p (f.put k G) i))
 .subst m n;cases(C);have%[z,p,xs,f|t]:=GK I.hok e;have O:xs.length<=sizeLine:=(Paired.length f)▸z;have w:(cP d k v).length<=sizeLine:=by have:=fF d k v;lia
  refine wpAny_setItem_heap (tupleKind_room_in1 M) (nv I.hok J) t λh' i B=>h _ ?_
  have%[q,T,U,j,Y,h3,h4,_|h5]:=i;refine mU I (e▸True.intro) B %[q|j] %[w,p,_,(f.put k J G).keeps λc ys L=>?_,q,T,U,j,Y,h3,h4|h5];rw[am (Gi L e (λz=>nomatch z))];exact L
end
section
#version
variable{a:Addr}{kvs:List (Key×V)}{k:Key}{u:Value}{A:Around}{E:ZD}
end
abbrev E6(i:Expr):Prop:=∀a b,subscripted i false a b=operate [a,b] (getItem a b)
def CG{T id:String}
 (l:typeLookup (.type T) "__getitem__"=pure (some (.builtin id))) (m:E6 a)
 (h:↥A (eval c env) (λo e=>↥A (eval a env) (λi b=>b.TypeIs o T/\↥A (getItem o i) Q E b) E e) E s):
 ↥A (eval (.Subscript c a pos) env) Q E s:=by
 refine Subscript_ (wpAny_mono h (λo e g=>wpAny_mono g (λi b d=>?_) λ_ _ x=>x) λ_ _ x=>x);have%[n|d]:=d;refine Z2 (Z2 (wpAny_specialOf n l ?_));have fin:↥A (subscripted a false o i) (λr f=>↥A (letTemporaryGo c o r>>= λ_=>pure r) Q E f) E b:=by
  rw[m o i];exact wpAny_operating (wpAny_mono d (λr f j=>Z2 (wpAny_letTemporaryGo (Z3 j))) λ_ _ x=>x)
 first
  | exact Z3 (Z2 fin)
  | lia
  | lia
def lZ{X:Cx}(I:Inv X pins f H s)(g:cB H a y o):s.TypeIs (.ref a) "dict":=by
 rcases g with⟨c,k,e,_,_⟩|⟨c,k,b,e,_,_,_⟩
 .have%[_,_,vs,_|d]:=nu I.hok e;exact d.typeIs
 .have%[_,_,xs,_|d]:=qg I.hok e;exact d.typeIs
def tt{X:Cx}(I:Inv X pins i H s)(g:cB H a y o):
 ∀b,Value.ref a= .ref b->∃c,s.heap.get? b=some c/\c.dict=none:=λb q=>by
 cases q;rcases g with⟨d,k,e,_,_⟩|⟨d,k,b,e,_,_,_⟩
 .have%[_,_,vs,_,c,_,_,f,h|_]:=nu I.hok e;exact%[c,f|h.2.1]
 .have%[_,_,xs,_,c,_,_,f,h|_]:=qg I.hok e;exact%[c,f|h.2.1]
abbrev Ao(d ty:TE):TE:=λb H Q=>d b H λx e=>ty b e λy c=>∃a v,x= .ref a/\cB c a y (some v)/\Q v c
abbrev E7(ty d:TE):TE:=λb H Q=>ty b H λy e=>d b e λx c=>∃a o,x= .ref a/\cB c a y o/\Q (.bl o.isSome) c
abbrev rL(ty d:TE):TE:=λb H Q=>ty b H λy e=>d b e λx c=>∃a o,x= .ref a/\cB c a y o/\Q (.bl (!o.isSome)) c
abbrev l7(d ty e:TE):TS:=λD b H=>e b H λv f=>d b f λx g=>ty b g λy h=>∃a c,x= .ref a/\iM h a y v c/\D.nx b c
section
variable{X:Cx}{o i e value:Expr}{pos pos' tpos:Pos}{td ty tv:TE}
def CH(f:X.A.units+1<cLine)(j:PE X o td)(hi:PE X i ty)(l:E6 i):PE X (.Subscript o i pos) (Ao td ty):=by
 intro pins s c H Q I h;refine CG PySem.F.slot_dict_getitem.lookup l (thP (j pins s c H _ I h) λu m x n p q r=>thP (hi pins m c n _ p r) λB C y t d w ⟨a,v,ex,g,z⟩=>?_);subst ex;obtain rfl:u=Value.ref a:=q;exact%[lZ d g|yb f d g w λE G A b=>%[v,t,A,b|z]]
def E8(c:X.A.units+1<cLine)(hi:PE X i ty)(d:PE X o td):PC X .In i o (E7 ty td):=by
 intro pins s b H Q I h;refine thP (hi pins s b H _ I h) λz f y j l m n=>thP (d pins f b j _ l n) λu A x p q r ⟨a,t,ex,g,v⟩=>?_
 subst ex;obtain rfl:u=Value.ref a:=r;exact d_in c q g m λB w=>%[.bl t.isSome,p,w,rfl|v]
def yf(c:X.A.units+1<cLine)(hi:PE X i ty)(d:PE X o td):PC X .NotIn i o (rL ty td):=by
 intro pins s b H Q I h;refine thP (hi pins s b H _ I h) λw f y j l m n=>thP (d pins f b j _ l n) λu z x p q r ⟨a,A,ex,g,t⟩=>?_
 subst ex;obtain rfl:u=Value.ref a:=r;exact CF c q g m λB v=>%[.bl _,p,v,rfl|t]
def CI(c:X.A.units+1<cLine)(d:PE X o td)(hi:PE X i ty)(f:PE X value tv)(j:swapsWith value (some (.Subscript o i pos')) pos.line X.env=pure false):
 PS X (.Assign [.Subscript o i pos'] value pos) (l7 td ty tv):=by
 intro pins s b H D I h;refine wpAny_Assign_Subscript (thP (f pins s b H _ I h) λr l v m n p q=>thP (d pins l b m _ n q) λu t x w z A B=>thP (hi pins t b w _ z B) λM N y O C E ⟨a,G,ex,g,J⟩=>?_) j;subst ex;obtain rfl:u=Value.ref a:=A;exact yd c C g E p λQ L=>%[b,G,L|J]
end
def Ap{P:Program}(h:Heap)(a:sysModules<h.objs.size):b8 P w H (h.push {cls:= .type "dict",data:= .dict #[]}) h.objs.size (.dK []):=
 %[Xj _,beq_eq_false_iff_ne.mpr (Ne.symm (Zt a)),[],.nil|Heap.DictOf.new h]
abbrev vB:TE:=λ_ H Q=>∀p,H p=none->Q (.ref p) (upd H p (.dK []))
section
variable{X:Cx}{pos:Pos}
def Aq:PE X (.Dict [] [] pos) vB:=λpins s a H Q I h=>
 wpAny_Dict_empty %[.ref ⇑s,_,I.laid (λ_ _ q=>Z7 _ q) (Zi _) (Ap s.heap I.big),rfl|h _ (I.hok.fresh (Zi _))]
end
abbrev lq(a more:List (Key×V)):List (Key×V):=more.foldl (λacc b=>cP acc b.1 b.2) a
def KV.merge:∀{more:List _} {rs:List _} {a:List _} {vs:List _},KV more rs->KV a vs->KV (lq a more) (merged vs rs):=by
 intro more rs a vs r
 induction r generalizing a vs with
 | nil=>intro q;exact q
 | @cons p q ps qs h t b=>
   intro c;have e:KV (cP a p.1 p.2) (stored vs q.1 q.2):=by
    have:=c.put p.1 h.2;exact h.1▸this
   exact b e
def jC:∀more a,(lq a more).length<=a.length+more.length
 |[],a=>by show a.length<=a.length+0;lia
 | p::r,a=>by
   have b:=jC r (cP a p.1 p.2);have c:=fF a p.1 p.2;show(lq _ r).length<=_
   grind
structure M1 (X:Cx) (o:Expr) (m:Str) (apos:Pos) (e:Expr) (cpos:Pos):Prop where
 base:attributeBase o m X.env (eval o X.env)=eval o X.env
 few:((backTo cpos (starEach [e] X.env)).all (λx=>!x.1)&&(backToKw cpos (keywordEach [] X.env)).all (λx=>x.1.isSome)
  && decide (([e]).length+([]:List Keyword).length+(if([]:List Keyword).isEmpty then 0 else 1)<30))=true
 line:(apos.endLine==cpos.line)=true
 trees:backTo cpos (starEach [e] X.env)=[(false,eval e X.env)]
structure M2 (X:Cx) (o:Expr) (m:Str) (apos:Pos) (e f:Expr) (cpos:Pos):Prop where
 base:attributeBase o m X.env (eval o X.env)=eval o X.env
 few:((backTo cpos (starEach [e,f] X.env)).all (λx=>!x.1)&&(backToKw cpos (keywordEach [] X.env)).all (λx=>x.1.isSome)
  && decide (([e,f]).length+([]:List Keyword).length+(if([]:List Keyword).isEmpty then 0 else 1)<30))=true
 line:(apos.endLine==cpos.line)=true
 trees:backTo cpos (starEach [e,f] X.env)=[(false,eval e X.env),(false,eval f X.env)]
section
#version
variable{a:Addr}{y d:V}{u r:Value}{o:Option V}{A:Around}{E:ZD}
end
section
variable{X:Cx}{o e f:Expr}{apos cpos:Pos}{td ty tx:TE}
end
section
#version
variable{a:Addr}{kvs:List (Key×V)}{A:Around}{E:ZD}
end
section
#version
variable{a:Addr}{y:V}{u:Value}{A:Around}{E:ZD}
end
end L2
namespace Att
open PySem PySem.W PySem.Calls PyProof.Rows
def mI{P:Params}:∀(ns:ZL) (vs:ZF),WellAll P h vs (ns.map WData.int)->IntsAre vs ns:=by
 intro ns
 induction ns with
 | nil=>
   intro vs w;cases w;exact .nil
 | cons n ns c=>
   intro vs w;cases w with
   | cons a b=>
     cases a;exact .cons _ _ (c _ b)
def yg{l:OpenLaw}(m:l.most=some n){P:Params}
 (b:l.row.toRowW.claim.pre args=true) (i:WellAll P h c args):
 ∃a vs ns,c=[Value.ref a]/\args=[WData.list (ns.map WData.int)]/\h.get? a=some {cls:= .type "list",data:= .seq vs.toArray}/\IntsAre vs ns/\ns.length<=n:=by
 have j:l.pre.holds [] _=true:=(pre_splitW b).2;have%[d,r,rfl,o|p]:=hasAllW_cons ((pre_splitW b).1);obtain rfl:=hasAllW_nil p;have%[xs,rfl|q]:=hasW_list o;have%[ns|rfl]:=items_int q;have e:ns.length<=n:=by
  unfold OpenLaw.pre at j;have g:=by
   have g:=(holds_andW j).1;rw[m]at g;exact g
  have v:=condW_of g (w_not (w_lt w_lit (w_len_list (w_arg rfl))))
  grind
 cases i with
 | cons s t=>
   cases t;cases s with
   | list u f=>exact%[_,_,ns,rfl,rfl,u,mI ns _ f|e]
def yh(l:OpenLaw)(args:List WData):l.row.toRowW.claim.post args (.bool true) args=true:=
 postW_of
  (by first|rfl|simp|lia)
  (w_eq_bool (w_res rfl) w_lit) rfl
def attach_call{l:OpenLaw}{n:Nat}{q:Program}
 (E:l.most=some n) (s:d.params.defaults=[])
 (call:∀(w:World) (s₀ b:Shared) (mg t:ZC) (h:Addr) (o:Obj) (u p c:Value) (a:Addr) (vs:ZF) (ns:ZL),
  Ground q e [] H w s₀ mg t b.heap->I w b.heap->
  b.heap.get? h=some o->o.data= .func (docDef d.name d.params d.body d.scope u p c)->b.heap.CodeRec p d.name->mg d.name=some (.ref h)->
  b.heap.get? a=some {cls:= .type "list",data:= .seq vs.toArray}->IntsAre vs ns->ns.length<=n->b.gens= #[]->
  codeAny (model l.prog w) callerA (.call (.ref h) %[[.ref a]|[]]) (λr s'=>r= .ok (.ret (.bool true))/\OldK b.heap s'.heap/\s'.os=b.os/\AllBare s'.gens) b):
 WalkO q e H I l.row.toRowW d [] (λf vs=>PySem.call f vs):=by
 intro w s₀ b mg t G Y h o u p c J kV L M v A y N args B as i C O z Q;obtain rfl:J= .none:=Dflts.none A s;obtain rfl:kV= .none:=Dflts.noKw A;have%[a,vs,ns,rfl,rfl,j,g|m]:=yg E i z;refine enter_call (codeAny_mono (call w s₀ b mg t h o u p c a vs ns G Y L (fd_plain M) v y j g m N) λr s' T=>?_);have%[rfl,U,h3|h4]:=T;exact%[.inl %[.bool true,.bool true,[],rfl,λ_=>rfl,.bool true,yh l _|λ_=>%[List.Pairwise.nil|λ_ hm=>(nomatch hm)]],U,h3|h4]
section
#where
variable{K:Frag}
end
end Att
namespace L2
open PySem PySem.Spec PyProof.Rows
def qh:∀{vs:ZF} {ns:ZL},IntsAre vs ns->aE (ns.map V.int) vs
 | _,_,.nil=> .nil
 | _,_,.cons n t h=> .cons %[t|rfl] (qh h)
abbrev Ar(H:Hp):Prop:=∀b,H b=none\/∃o xs,H b=some (.frz o (.lst xs))
def law_call{P:Program}{K:ZA}{mg I:ZC}{vs:ZF}
 (T:K.In c.heap) (p:c.heap.Ns mainGlobals mg) (g:c.heap.Ns builtinsNs I) (J:∀x:Str,x≠"__name__"->I x=bootBuiltins x) (t:c.heap.NoLimit) (hg:c.gens= #[])
 (L:c.heap.get? a=some {cls:= .type "list",data:= .seq vs.toArray}) (hi:IntsAre vs ns) (U:ns.length<=sizeLine) (hr:bX k callerA)
 (F:∀base:Heap,K.In base->base.Ns mainGlobals mg->eE P w K mg base CX k Y fd [x] sp) (l:∀(s:Shared) (u:Value),BindsTo s fd %[[u]|[]] [(x,u)])
 (M:∀H:Hp,Ar H->SqL K H a (ns.map V.int)->sp [.ref a] H (λv _=>v= .bl true) λ_ _ _=>False)
 (N:∀H e s',CX [] H c (λ_ _ _=>False) e s'->False):
 codeAny (model P w) callerA (.call (.ref Y) %[[.ref a]|[]]) (λr s'=>r= .ok (.ret (.bool true))/\OldK c.heap s'.heap/\s'.os=c.os/\AllBare s'.gens) c:=by
 have rv:=qh hi;have j:∀H,Ar H->SqL K H a (ns.map V.int)->HOk P w H c.heap->(∀b,H b≠none->b=a)->(H a≠none->K.lookup a=none)->
  codeAny (model P w) callerA (.call (.ref Y) %[[.ref a]|[]]) (λr s'=>r= .ok (.ret (.bool true))/\OldK c.heap s'.heap/\s'.os=c.os/\AllBare s'.gens) c:=by
  intro H hO hS y hA hK;have f:∀{b:Addr} {o:Obj},c.heap.get? b=some o->H b=none->(xN c.heap H).get? b=some o:=λe n=>zD e n
  have O:∀{b:Addr} {o:Obj} {E:Array DictEntry} {G:Nat},c.heap.get? b=some o->o.data= .dict E G->H b=none:=λ{b o E G} e d=>by
   grind
  have i:∀{b:Addr} {m:ZC},c.heap.Ns b m->(xN c.heap H).Ns b m:=λ{b m} ⟨o,E,G,e,d,r⟩=>%[o,E,G,f e (O e d),d|r]
  have A:=λb o e=>f (T b o e) (by
   grind)
  refine codeAny_mono ((F _ A (i p)).run callerA [] c H _ _ [.ref a] _ _ hr %[rfl,%[A,i p,%[I,i g|J]|let⟨mc,h1,h2⟩:=t;%[mc,i h1|h2]],λb o e=>B7 e,Nat.le_of_eq (xO _ _),trivial,λb g=>absurd (show b∈([])from g) ∅,y|.of_eq hg] (l c _) (.cons rfl .nil) (M H hO hS)) λr s' h=>?_
  cases r with
  | error e=>exact(N H e s' h).elim
  | ok fl=>
    cases fl with
    | next=>exact False.elim h
    | brk=>exact False.elim h
    | cont=>exact False.elim h
    | ret u=>
      have%[v,H',os,B,un,C,r'|q]:=h;subst q;obtain rfl:u=Value.bool true:=r';refine%[rfl,OldK.of_keep λb o e=>?_,os|B];cases q:H b with
      | none=>exact un.keep b o e q (by intro z;exact absurd (show b∈([])from z) ∅) ∅
      | some u=>
        rcases hO b with z|⟨ob,xs,z⟩
        .rw[q]at z;cases z
        .have%[e1|_]:=y b _ z;have%[e2|_]:=C b _ (un.frzs b ob _ z);rw[e]at e1;cases e1;exact e2
 cases Q:K.lookup a with
 | some o=>
   have e:=T a o Q;rw[L]at e;cases e;refine j _ (λ_=> .inl rfl) (.inr %[_,vs.toArray,_,Q,rfl,rfl,rfl,by rw[Zp,hi.length];exact U|rv]) (λb u z=>by simp_all) (λb z=>absurd rfl z) λz=>absurd rfl z
 | none=>
   refine j (λb=>if b=a then some (.frz {cls:= .type "list",data:= .seq vs.toArray} _)else none) (λb=>?_) (.inl (.inr %[{cls:= .type _,data:= .seq vs.toArray}|if_pos rfl])) (λb u z=>?_) (λb z=>?_) λ_=>Q
   .by_cases g:b=a
    .exact .inr %[_,_|if_pos g]
    .exact .inl (if_neg g)
   .by_cases g:b=a
    .have z':=(if_pos g).symm.trans z;cases z';subst g;exact%[L,by rw[Z6];exact U,vs,_,rv|L]
    simp_all
   .by_cases g:b=a
    .exact g
    .exact absurd (if_neg g) z
def walk_of{l:PySem.W.OpenLaw}{E:(Str->Option Value)->Heap->Prop}{B:World->Heap->Prop}{d:DefRec}{K:Params->ZA}{CX:World->CXT}{sp:World->Sp}{x:Str}
 (I:l.most=some n) (m:n<=sizeLine) (p:d.params.defaults=[]) (J:bX k callerA)
 (L:∀(w:World) (h:Heap),B w h->(K w.params).In h)
 (F:∀(w:World) (mg:ZC) (j:Addr) (h:Heap),(K w.params).In h->h.Ns mainGlobals mg->mg d.name=some (.ref j)->
  ∃r:FuncData,(∀(s:Shared) (u:Value),BindsTo s r %[[u]|[]] [(x,u)])/\
   ∀base:Heap,(K w.params).In base->base.Ns mainGlobals mg->eE l.prog w (K w.params) mg base (CX w) k j r [x] (sp w))
 (t:∀(w:World) (H:Hp) (a:Addr) (ns:ZL),ns.length<=n->Ar H->SqL (K w.params) H a (ns.map V.int)->sp w [.ref a] H (λv _=>v= .bl true) λ_ _ _=>False)
 (y:∀(w:World) (H:Hp) (s:Shared) (e:Value) (s':Shared),CX w [] H s (λ_ _ _=>False) e s'->False):
 PySem.W.WalkO q z E B l.row.toRowW d [] (λf vs=>PySem.call f vs):=by
 refine Att.attach_call I p λw s₀ g mg mb j o pm cd M a vs ns G Y ho hd N A i c b O=>?_
 have C:=L w _ Y;have%[r,Q|T]:=F w mg j _ C G.T.g A;exact law_call C G.T.g G.T.b G.T.builtins G.T.nolimit O i c (Yk b m) J T Q (λH U hS=>t w H a ns b U hS) λH e s'=>y w H g e s'
abbrev kc(s:Stmt)(j:Nat):Stmt:=match s with
 | .ClassDef _ _ _ a _ _ _ _ _ _ _=>a.getD j (.Pass %[0,0,0|0])
 | _=> .Pass %[0,0,0|0]
abbrev cX(s:Stmt):Arguments:=match s with
 | .FunctionDef _ a _ _ _ _ _ _ _ _=>a
 | _=>{posonlyargs:=[],args:=[],vararg:=none,kwonlyargs:=[],kw_defaults:=[],kwarg:=none,defaults:=[]}
abbrev bZ(s:Stmt):List Stmt:=match s with
 | .FunctionDef _ _ b _ _ _ _ _ _ _=>b
 | _=>[]
abbrev ao(s:Stmt):Scope:=match s with
 | .FunctionDef _ _ _ _ _ _ a _ _ _=>a
 | _=>{kind:= .function,names:=[],isGenerator:=false,isCoroutine:=false}
noncomputable abbrev CX0:CXT:=λ_ _ _ _ _ _=>False
noncomputable abbrev E0:XK:=λ_ _ _=>False
def At{X:Cx}:jP CX0 X E0:=λ_ _ _ _ _ _ _ h=>h.elim
structure Fun (K:ZA) (x qual:Str) (st:Stmt) (f:Addr) (fd:FuncData):Prop where
 ex:∃oc od kV doc pm an cdv ct osl,
  fd=fnOf x qual (cX st) (bZ st) (ao st) .none kV doc pm an cdv ct/\K.lookup f=some %[oc,od,.func fd|osl]/\codeIn K cdv qual=true
 kp:keepIn K (.ref f)=true
section
variable{P:Program}{w:World}{K:ZA}{mg:ZC}{base:Heap}
def Fun.ok{x a:Str}{st:Stmt}{f:Addr}{g:FuncData}{N ps:ZB}{k:Nat}{sp:Sp}(F:Fun K x a st f g)(S:aw N ps (ao st))(len:∀vs H Q E,sp vs H Q E->vs.length=ps.length)
 (c:∀b (A:Around) (outer:List Env) s H (vs:List V) Q E,bX k (A.deeper (envOfC a (ao st) ⇑s f b))->sp vs H Q E->
  ∃t,PSs (rB CX0 P w K mg base N a (ao st) f b A outer s H E).nox (bZ st) t/\t {nx:=λ_ i=>Q .non i,rt:=Q} (start N vs) H):eE P w K mg base CX0 (k+1) f g ps sp:=by
 have%[n,o,kV,j,p,r,b,ct,l,rfl,lk|d]:=F.ex;refine GH lk d S len λA outer s H vs Q E m e=>?_
 have%[t,h|q]:=c b A outer s H vs Q E m e;exact%[t,h.nox|q]
def Fun.binds{st:Stmt}(F:Fun K x c st f g)
 (h:∀(kV a d:Value) (e:ZI) (b ct:Value) (us:ZF),us.length=ps.length->bindArgs (fnOf x c (cX st) (bZ st) (ao st) .none kV a d e b ct) %[us|[]]=pure (ps.zip us)):fD K g ps []:=by
 have%[l,m,kV,a,d,e,b,ct,i,rfl,lk|j]:=F.ex;exact .all (h kV a d e b ct)
def eW{st:Stmt}{kV d e b ct:Value}(l:K.lookup f=some %[i,j,.func (fnOf x a (cX st) (bZ st) (ao st) .none kV d e h b ct)|g])
 (c:codeIn K b a=true) (k:keepIn K (.ref f)=true):Fun K x a st f (fnOf x a (cX st) (bZ st) (ao st) .none kV d e h b ct):=%[%[i,j,kV,d,e,h,b,ct,g,rfl,l|c]|k]
end
section
variable{X:Cx}
def pv(i:Nat)(b:X.N[i]? =some x)(c:Vis X.env.scope x)(d:(x==("__debug__":Str))=false)
 (a:(x==("__classdict__":Str))=false):PE X (.Name x pos) (pB i):=zF b c d a
end
def E9{A B:Prop}(h:B):if false=true then A else B:=by
 simp_all
def bE{c A B:Prop}[Decidable c](a:c->A)(b: ¬ c->B):if c then A else B:=by
 simp_all
abbrev ah(H a:Hp):Prop:=∀b o,H b=some o->a b=some o
def ah.refl(H:Hp):ah H H:=λ_ _ h=>h
def ah.trans{H d e:Hp}(a:ah H d)(b:ah d e):ah H e:=λc o h=>b c o (a c o h)
def ah.free{H a:Hp}(e:ah H a){l:Addr}(h:a l=Option.none):H l=Option.none:=by
 cases q:H l with
 | none=>rfl
 | some o=>
   rw[e l o q]at h;cases h
def ah.seq{K:ZA}(e:ah H b)(h:SqL K H a xs):SqL K b a xs:=by
 rcases h with(h|⟨o,h⟩)|h
 .exact .inl (.inl (e _ _ h))
 .exact .inl (.inr %[o|e _ _ h])
 .exact .inr h
section
variable{X:Cx}
end
section
variable{κ:Type}[DecidableEq κ]
def CJ{a:List (κ×V)}(h:bJ a k=some v):k∈a.map (·.1):=by
 have q:(a.any λb=>decide (b.1=k))=true:=by
  rw[iQ,h]
  all_goals rfl
 simp_all
def mV:∀{l:List κ} {k:κ},l.Nodup-> ¬ k∈l->(l++[k]).Nodup
 |[],k,_,_=>by simp
 | a::r,k,h,b=>by
   have%[c|d]:=nodup_cons.mp h;refine nodup_cons.mpr %[λm=>?_|mV d λm=>b (mem_cons.mpr (Or.inr m))];rcases Xs m with q|q
   .exact c q
   .exact b (mem_cons.mpr (Or.inl (Xt q).symm))
end
abbrev nA(env:Env):List (Str×NameKind)->List (Str×Addr)->List (Str×Addr)
 |[],acc=>acc
 |(n,k)::r,acc=>nA env r (if k= .free then(n,(env.cells.lookup n).getD 0)::acc else acc)
def nB:∀(names:List (Str×NameKind)) (acc:List (Str×Addr)),(∀y∈names,y.2= .free->∃c,env.cells.lookup y.1=some c)->
 (forIn names acc λx r=>match x with
  |(name,kind)=>if(kind==NameKind.free)=true then do let a<-cellOf env name;pure (ForInStep.yield ((name,a)::r))else pure (ForInStep.yield r):Sem (List (Str×Addr)))=pure (nA env names acc)
 |[],acc,_=>rfl
 |(n,k)::r,acc,h=>by
  have d:=λacc=>nB r acc λy f=>h y (Zk _ f)
  rw[forIn_cons];by_cases b:k= .free
  .subst b;have%[c|e]:=h _ Zm rfl;have g:cellOf env n=pure c:=by unfold cellOf;rw[e]
   simp only[beq_self_eq_true,if_true,g,pure_bind];rw[d];show _=pure (nA env r _);rw[if_pos rfl,e]
   all_goals rfl
  .have i:(k==NameKind.free)=false:=by simpa using b
   simp only[i,Y0,if_false,pure_bind];rw[d];show _=pure (nA env r _);rw[if_neg b]
def CL(h:∀y∈a.names,y.2= .free->∃c,env.cells.lookup y.1=some c):closureFor a env=pure (nA env a.names []):=by
 unfold closureFor;simp only[bind_pure];exact(nB a.names [] h)
def tw:∀(names:List (Str×NameKind)) (acc:List (Str×Addr)),(∀y∈names,y.2= .free->∃c,env.cells.lookup y.1=some c)->
 (∀y d,acc.lookup y=some d->env.cells.lookup y=some d)->(nA env names acc).lookup x=some c->env.cells.lookup x=some c
 |[],acc,_,a,e=>a x c e
 |(n,k)::r,acc,h,a,e=>by
  refine tw r _ (λy b=>h y (Zk _ b)) (λy d q=>?_) e;by_cases f:k= .free
  .rw[if_pos f,Yq]at q;have%[g|i]:=h _ Zm f;cases b:y==n with
   | true=>
     simp_all
   | false=>rw[b]at q;exact a y d q
  .rw[if_neg f]at q;exact a y d q
def nC:∀(names:List (Str×NameKind)) (acc:List (Str×Addr)),(∃c,acc.lookup x=some c)->∃c,(nA env names acc).lookup x=some c
 |[],_,h=>h
 |(n,k)::r,acc,h=>by
  refine nC r _ ?_;by_cases a:k= .free
  .rw[if_pos a,Yq];cases b:x==n with
   | true=>exact%[_|rfl]
   | false=>exact h
  .rw[if_neg a];exact h
def nD:∀(names:List (Str×NameKind)) (acc:List (Str×Addr)),(x,NameKind.free)∈names->∃c,(nA env names acc).lookup x=some c
 |[],_,h=>by simp at h
 |(n,k)::r,acc,h=>by
  rcases mem_cons.mp h with e|h
  .refine nC r _ ?_
   simp_all
  .exact nD r _ h
abbrev bO(X:Cx)(a:Scope)(d:ZB)(b:Shared)(c:Hp)(e:List Addr):Cx:=
 {X with
  N:=d
  s₀:=b
  H₀:=c
  env:=compEnvC a (cellsFrom (⇑b+1) a.names (nA X.env a.names [])) ⇑b X.env
  outer:=X.stack
  stack:=X.stack
  ex:=e
  fn:=λx=>decide (a.names.lookup x=some .cell)
  pn:=[]
  xe:=λ_ _=>False}
structure aC (X:Cx) (scope:Scope) (N':ZB) (cap:List (Nat×Nat)):Prop where
 kind:scope.kind= .function
 cell:∀y∈scope.names,y.2= .cell->scope.names.lookup y.1=some .cell
 loc:∀y∈scope.names,y.2= .local->scope.names.lookup y.1=some .local
 free:∀y∈scope.names,y.2= .free->X.env.kindOf y.1=some .cell\/X.env.kindOf y.1=some .free
 capt:∀p∈cap,∃x,N'[p.1]? =some x/\X.N[p.2]? =some x/\scope.names.lookup x=some .free
abbrev qj(n:Nat)(a:List (Nat×Nat))(b:St):St:=(List.range n).map λj=>(a.lookup j).bind λi=>(b[i]?).join
def l8:∀{l:List _} {j i:Nat},l.lookup j=some i->(j,i)∈l
 |[],_,_,h=>by simp at h
 |(a,b)::r,j,i,h=>by
  rw[Yq]at h;cases c:j==a with
  | true=>
    simp_all
  | false=>rw[c]at h;exact Zk _ (l8 h)
def l9{env:Env}{names:List (Str×NameKind)}{x:Str}{k:NameKind}(h:(names.map λ(n,k)=>if(k==NameKind.free&&env.scope.kind== .function&&env.kindOf n==some .cell)then(n,NameKind.cell)else(n,k)).lookup x=some k)
 (a:k= .cell\/k= .free):(x,NameKind.free)∈names\/(x,NameKind.cell)∈names:=by
 have m:=PySem.mem_of_lookup h
 grind
def eN:∀names n acc,cellsFrom n names acc=cellsFrom n names [] ++acc
 |[],_,_=>rfl
 |(x,k)::r,n,acc=>by
  unfold cellsFrom
  split
  .rw[eN r _ _,eN r _ [(x,n)],Ze];rfl
  .exact eN r n acc
def lu:∀{names:List (Str×NameKind)} {n:Nat},(x,c)∈cellsFrom n names []->(x,NameKind.cell)∈names
 |[],_,h=>nomatch h
 |(y,k)::r,n,h=>by
  unfold cellsFrom at h
  split at h
  .rw[eN]at h;rcases Xs h with q|q
   .exact Zk _ (lu q)
   grind
  .exact Zk _ (lu h)
def md(h:(cellsFrom n names acc).lookup x=some c):(x,c)∈cellsFrom n names []\/((cellsFrom n names []).lookup x=none/\acc.lookup x=some c):=by
 rw[eN,List.lookup_append]at h;cases e:(cellsFrom n names []).lookup x with
 | none=>rw[e]at h;exact .inr %[rfl|h]
 | some d=>
   rw[e]at h;have:=by simpa using h
   exact this▸ .inl (PySem.mem_of_lookup e)
def ke{env:Env}:∀{names:List (Str×NameKind)} {x:Str},names.lookup x=some .free->
 (names.map λ(n,k)=>if(k==NameKind.free&&env.scope.kind== .function&&env.kindOf n==some .cell)then(n,NameKind.cell)else(n,k)).lookup x=some .cell\/
 (names.map λ(n,k)=>if(k==NameKind.free&&env.scope.kind== .function&&env.kindOf n==some .cell)then(n,NameKind.cell)else(n,k)).lookup x=some .free
 |[],_,h=>by simp at h
 |(n,k)::r,x,h=>by
  have c:= @ke env r x;simp only[Yu];cases a:x==n with
  | true=>
    rw[Yq,a]at h;have d:=Za h;subst d;by_cases b:((NameKind.free==NameKind.free)&&env.scope.kind== .function&&env.kindOf n==some .cell)=true
    .rw[if_pos b,Yq,a];exact .inl rfl
    .rw[if_neg b,Yq,a];exact .inr rfl
  | false=>
    rw[Yq,a]at h;by_cases b:(k==NameKind.free&&env.scope.kind== .function&&env.kindOf n==some .cell)=true
    .rw[if_pos b,Yq,a];exact(c h)
    .rw[if_neg b,Yq,a];exact(c h)
section
#version
def Inv.kindL(I:Inv X pins σ H s)(h:X.env.kindOf x=some .cell\/X.env.kindOf x=some .free):∃c,X.env.cells.lookup x=some c:=I.ok.has x h
def Inv.block{a:Scope}{C:ZB}{fp:List Addr}{f:Heap}{tk:Nat}(S:aC X a C n)(I:Inv X pins σ H s)(O:∀b∈fp,mH X pins H b)(J:∀b∈fp,b<⇑s)
 (hn:f.Ns ⇑s (λ_=>none)) (A:∀b u,s.heap.get? b=some u->f.get? b=some u) (nc:CellsOk f (⇑s+1) (cellsFrom (⇑s+1) a.names [])):
 Inv (bO X a C s H fp) [] (qj C.length n σ) H {s with heap:=f,toks:=tk}:=by
 have h:∀x c,(nA X.env a.names []).lookup x=some c->X.env.cells.lookup x=some c:=λx c e=>tw a.names [] (λy hy hk=>I.kindL (S.free y hy hk)) (λ_ _ q=>by simp at q) e
 have o:∀x c,(cellsFrom (⇑s+1) a.names (nA X.env a.names [])).lookup x=some c->((x,c)∈cellsFrom (⇑s+1) a.names []/\f.IsCell c none/\⇑s+1<=c)\/(X.env.cells.lookup x=some c/\c<⇑s):=λx c e=>by
  rcases md e with q|⟨_,q⟩
  .exact .inl %[q|nc.empty x c q]
  .have q':=h x c q;have%[v,G,L|_]:=I.cell x c q';exact .inr %[q'|Zv L]
 refine%[%[I.ok.mod,S.kind,I.ok.glob,I.ok.blt,Zi _,λx y c h1 h2=>?_,λx hx=>?_,λx c hq e=>?_,I.ok.hd,I.ok.frames,.inl rfl,λb g=>%[?_|λx c e=>?_],I.bs,
  Yk I.ok.bsz I.sz,λb u e g=>?_,λb g Q=>?_,I.stack|I.stkFree],rfl,I.bare,Un.kept A,%[_,hn|λj x v e1 e2 e3=>?_],λx c e=>?_,I.hok.fresh (Zi _),λx c e=>?_,λp hp=>?_,I.hok.kept A|?_]
 .rcases o x c h1 with⟨q1,_,q2⟩|⟨q1,q2⟩<;> rcases o y c h2 with⟨r1,_,r2⟩|⟨r1,r2⟩
  .exact name_of_addr nc.apart q1 r1
  .exact absurd r2 (Nat.not_lt_of_le (Yk (Yj _) q2))
  .exact absurd q2 (Nat.not_lt_of_le (Yk (Yj _) r2))
  .exact I.ok.inj x y c q1 r1
 .have:(x,NameKind.free)∈a.names\/(x,NameKind.cell)∈a.names:=by
   rcases hx with q|q
   .exact l9 q (.inl rfl)
   .exact l9 q (.inr rfl)
  refine isSome_iff_exists.mp (cellsFrom_some a.names _ _ ?_);rcases this with q|q
  .exact .inr (isSome_iff_exists.mpr (nD a.names [] q))
  .exact .inl (S.cell _ q rfl)
 .rcases md e with q|⟨q,_⟩
  .have:=(nc.empty x c q).2;show ⇑s<=c
   lia
  .have:=cellsFrom_some a.names (⇑s+1) [] (.inl (Zo hq));rw[q]at this;cases this
 .exact Zt (J b g)
 .rcases o x c e with⟨_,_,q⟩|⟨q,_⟩
  .exact λz=>absurd (J b g) (Nat.not_lt_of_le (Yk (Yj _) (z▸q)))
  .exact(O b g).2.2.2.2.1 x c q
 .rcases(O b g).2.2.2.1 with z|z
  .exact I.ok.noex b u e z
  .exact absurd (Zg (Zv e) (Yk I.ok.bsz z)) (Xo _)
 .rcases mem_cons.mp (I.stkSub b Q)with z|z
  .exact(O b g).2.1 z
  .exact(O b g).2.2.1 z
 ·
  have hj:∃i,n.lookup j=some i/\σ[i]? =some (some v):=by
   have t:((List.range C.length).map _)[j]? =some _:=e2;rw[Zl]at t;cases hr:(List.range C.length)[j]? with
   | none=>rw[hr]at t;cases t
   | some j'=>
     rw[hr]at t;have ab:j'=j:=by
      have:=Xr hr;have%[h1|h2]:=this;simpa using h2.symm
     subst ab;have B:((n.lookup j').bind _)=some v:=Za t;cases T:n.lookup j' with
     | none=>rw[T]at B;cases B
     | some i=>
       rw[T]at B;refine%[i,rfl|?_];have U:(σ[i]?).join=some v:=B;cases Q:σ[i]? with
       | none=>rw[Q]at U;cases U
       | some w=>rw[Q]at U;have:w=some v:=U;rw[this]
  have%[i,T|hi]:=hj;have%[y,n1,n2|Y]:=S.capt _ (l8 T);have ac:=Za (n1.symm.trans e1);subst ac;have M:=S.free _ (PySem.mem_of_lookup Y) rfl;have%[m,hm|hl]:=I.loc;have%[u,r|l]:=hl i y v n2 hi (by rcases M with q|q;exact .inr (.inl q);exact .inr (.inr q));refine%[u,r|.inr %[?_|?_]]
  .exact ke Y
  .rcases l with⟨k,_⟩|⟨_,c,E,hv⟩
   .rcases M with q|q
    .rw[k]at q;cases q
    .rw[k]at q;cases q
   .have%[c'|N]:=nD a.names [] (PySem.mem_of_lookup Y);have:=h y c' N;rw[E]at this;have e5:=Za this;subst e5;have%[G,L|hd]:=hv;refine%[c,?_,G,A c G L|hd];show(cellsFrom _ _ _).lookup y=some c;rw[eN,List.lookup_append];cases e6:(cellsFrom _ a.names []).lookup y with
    | none=>simpa using N
    | some d=>
      have:=S.cell _ (lu (PySem.mem_of_lookup e6)) rfl;rw[Y]at this;cases this
 .rcases o x c e with⟨_,q,_⟩|⟨q,_⟩
  .exact%[none|q]
  .have%[v,G,L|hd]:=I.cell x c q;exact%[v,G,A c G L|hd]
 .rcases o x c e with⟨_,_,q⟩|⟨q,_⟩
  .exact I.hok.fresh ⋯
  .exact I.freeC x c q
 .exact absurd (show p∈([])from hp) ∅
 .show(qj C.length n σ).length=C.length;unfold qj;rw[Z6,Yn]
end
abbrev PTs(X:Cx)(a:List Expr)(t:TT):Prop:=
 ∀pins s (b:St) H Q,Inv X pins b H s->t b H Q->
  (wpAny (model X.prog X.w) X.A) (forIn a true λc r=>if r=true then do let ok<-isTrue c X.env (eval c X.env);pure (ForInStep.yield ok)else pure (ForInStep.yield r)) (TP X pins b Q) X.xe s
abbrev Au:TT:=λ_ H Q=>Q true H
def CM{X:Cx}:PTs X [] Au:=λ_ _ _ H _ I h=>wpAny_tests_nil %[H,I|h]
def CO{X:Cx}(h:PT X c t):PTs X [c] t:=λpins s a H Q I q=>wpAny_tests_one (h pins s a H Q I q)
abbrev qk(q:TI)(n:Nat)(f:List (Nat×Nat))(g:TG)(r:TT)(s:TE):TE:=λh H Q=>q h H λJ j=>∀D,j D=none->∃W:Nat->Nat->List V->St->Hp->Prop,
 (∃m,W 0 m [] (qj n f h) (upd j D (.lst [])))/\∀i m ys c d,W i m ys c d->(J.stop i d/\Q (.ref D) d)\/
  (J.go i d/\∀x l,J.yld i d x l->g x c l λa t=>r a t λb o=>if b=true then s a o λy p=>∃zs e,p D=some (.lst zs)/\zs.length<sizeLine/\e<m/\W (i+1) e (ys++[y]) a (upd p D (.lst (zs++[y])))
   else∃e,e<m/\W (i+1) e ys a o)
def CP{code:Value}
 (j:∀h',h'.Ns ⇑s (λ_=>none)->(∀b u,s.heap.get? b=some u->h'.get? b=some u)->CellsOk h' (⇑s+1) (cellsFrom (⇑s+1) a.names [])->
  Q (newEnv a ⇑s d (cellsFrom (⇑s+1) a.names f) g h code (some env) c) {s with heap:=h'}):wpAny M A (newFunctionEnv a d f [] g h code (some env) c) Q E s:=by
 refine Z2 (wpAny_alloc (Z2 (wpAny_layCells _ (λname kind i=>by lia) _ _ _ _ ?_)));have ok:=cellsFrom_ok a.names (s.heap.push {cls:= .type "dict",data:= .dict #[]}) (⇑s+1) [] %[λ_ _ l=>(nomatch l)|List.Pairwise.nil] ∅;rw[Zq]at ok;rw[Zq ..];exact Z2 (Z3 (Z3 (j _ ((Heap.Ns.new s.heap _).keeps (pushCells_keeps _ _)) (λb u e=>pushCells_keeps _ _ b u (Z7 _ e)) ok)))
def qo{X:Cx}{a:Scope}(S:aC X a N' a2)(hc:X.calm=true)(hi:PI X tg iter wi)
 (hg:∀L M A,PG (bO X a N' L M A) tg g) (ht:∀L M A,PTs (bO X a N' L M A) a3 tc) (he:∀L M A,PE (bO X a N' L M A) a4 te)
 (hs:∀x,foldedSetIterable iter X.env x=pure x) (I:Inv X pins σ H s) (h:qk wi N'.length a2 g tc te σ H Q)
 (a5:∀(D C:Addr) (O:Hp) (s6:Shared) (fl:Flow) (m:ZC),s6.heap.Ns C m->mH X pins O C->(∀h',SameBut C s6.heap h'->Inv X pins σ O {s6 with heap:=h'})->Q (.ref D) O->compPost (model X.prog X.w) X.A X.xe use QQ (.ref D) C (.ok fl) s6):
 (wpAny (model X.prog X.w) X.A) (comprehension (.ListComp a4 [%[tg,iter,a3|0]] a pos) a X.env ca (newList []) false (eval iter X.env) use) QQ X.xe s:=by
 refine wpAny_comprehension_free (use:=use) rfl hs (CL (λy hy hk=>I.kindL (S.free y hy hk))) S.kind S.loc (thn (hi pins s σ H _ I h) λv s1 h1=>thn h1 λcb l h2=>?_);have%[it,A,tn,J,H2,e,I2,T,a6,f2|R]:=h2;subst e;refine wpAny_newObj_type (CP λU Y N ab=>?_);dsimp only at Y N ab ⊢;have I3:Inv X pins σ (upd H2 ⇑l (.lst [])) {l with heap:=l.heap.push {cls:= .type "list",data:= .seq ([]:ZF).toArray}}:=I2.lnew (its:=[]) (t':=l.toks) .nil (Xj _);have hD:H2 ⇑l=none:=I2.fresh;have aj:∀b∈A,b<⇑l:=λb j=>by have%[o,ho|_]:=T.obj 0 _ a6 b j;exact Zv ho
 generalize as:({l with heap:=l.heap.push {cls:= .type "list",data:= .seq ([]:ZF).toArray}}:Shared)=B at I3
 have G:B.heap=l.heap.push {cls:= .type "list",data:= .seq ([]:ZF).toArray}:=by rw[<-as]
 have a7:⇑B=⇑l+1:=by rw[G,Zq]
 have f3:∀b∈A,mH X pins (upd H2 ⇑l (.lst [])) b:=λb j=>%[(am (Zt (aj b j)))▸(f2 b j).1|(f2 b j).2]
 have%[W,%[m0|w0]|bb]:=R _ hD;have ae:∀b u,B.heap.get? b=some u->U.get? b=some u:=G▸N;have I4:Inv (bO X a N' B (upd H2 ⇑l (.lst [])) A) [] (qj N'.length a2 σ) (upd H2 ⇑l (.lst [])) {B with heap:=U,toks:=B.toks}:=I3.block S f3 (λb j=>a7▸Yr (aj b j)) (G▸Y) ae (G▸ab);have bc:tn 0 U:=T.keep _ _ _ a6 λb j o e=>ae b o (G▸Z7 _ e)
 have cd:(bO X a N' B (upd H2 ⇑l (.lst [])) A).env=compEnvC a _ ⇑B X.env:=rfl;have ag:∀{H':Hp},(∀b∈A,H' b=none)->∀b∈A,mH _ [] H' b:=λhn b j=>
  %[hn b j,(I4.ok.exf b j).1,I4.ok.exfs b j,.inl j,(I4.ok.exf b j).2|λp hp=>absurd (show p∈([]:ZE)from hp) ∅]
 have al:codeAny (model X.prog X.w) X.A (.compLoop (.ListComp a4 [%[tg,iter,a3|0]] a pos) 0 (.ref it) (.ref ⇑l) (bO X a N' B (upd H2 ⇑l (.lst [])) A).env)
  (compPost (model X.prog X.w) X.A X.xe use QQ (.ref ⇑l) ⇑B) {B with heap:=U,toks:=B.toks}:=by
  refine codeAny_loop rfl (λn s'=>∃i ys bf H',Inv _ [] bf H' s'/\tn i s'.heap/\(∀b∈A,H' b=none)/\W i n ys bf H') ?_ m0 %[0,[],_,_,I4,bc,λb j=>(f3 b j).1|w0];intro n s5 %[i,ys,ai,O,I5,bl,bm|w5];show wpAny _ X.A _ _ _ s5;refine wpAny_noted ?_;rw[compTurn_list];refine Z2 (wpAny_standAt (Z2 ?_));rcases bb i n ys ai O w5 with⟨stop,q⟩|⟨go,step⟩
  .refine thn (T.done (bO X a N' B (upd H2 ⇑l (.lst [])) A) rfl rfl rfl hc i [] s5 ai O _ I5 (ag bm) bl stop) λr s6 ⟨hr,I6⟩=>?_
   subst hr;refine Z3 ?_;have%[m6,bt|_]:=I6.loc;refine a5 ⇑l ⇑B O s6 _ m6 bt (I2.fpOk (a7▸Yj _) I6.free) (λh' sb=>?_) q;have u6:Un (frs X.stack) A (upd H2 ⇑l (.lst [])) O B.heap s6.heap:=I6.base;have a0:∀b u,B.heap.get? b=some u->b≠⇑B:=λb u e=>Zt (Zv e)
   have u7:Un (frs X.stack) A (upd H2 ⇑l (.lst [])) O B.heap h':=%[λb u e n j hx=>(sb.2 b (a0 b u e)).trans (u6.keep b u e n j hx),λb u e n j hx=>by
    have%[sl|q]:=u6.slot b u e n j hx;exact%[sl|(sb.2 b (a0 b u e)).trans q],u6.free,λb u e hx=>by
    have%[o'|q]:=u6.there b u e hx;exact%[o'|(sb.2 b (a0 b u e)).trans q],u6.tups,u6.frzs|u6.tbls]
   have b0:HOk X.prog X.w O h':=λb u e=>by
    have bn:∀c w,O c=some w->c≠⇑B:=λc w q z=>by
     have:O ⇑B=none:=I6.free;rw[z,this]at q;cases q
    refine(I6.hok b u e).stay (λc w b1 q=>(sb.2 c ?_).trans q) (λ_ q=>q) λ_ _ q=>q
    rcases b1 with z|z
    .exact z▸bn b u e
    .exact bn c _ z
   exact I2.call' (s':={s6 with heap:=h'}) (ch:=A) (by show s6.os=l.os;rw[I6.os,<-as];rfl) ((Un.laid (λb u e=>G▸Z7 _ e) (Zi _) hD).trans u7) b0 I6.bare λb j=>%[(f2 b j).2.2.2.1,(f2 b j).2.1,(f2 b j).2.2.2.2.1|(f2 b j).2.2.2.2.2]
  .refine thn (T.item (bO X a N' B (upd H2 ⇑l (.lst [])) A) rfl rfl rfl hc i [] s5 ai O _ I5 (ag bm) bl go) λr s6 ⟨u,hr,h6⟩=>?_
   subst hr;refine Z2 (thn h6 λ_ s7 ⟨x,H7,I7,r7,y7,a1,b2⟩=>?_);have ac:∀{α:Type} {t:Sem α} {Q1:α->Shared->Prop} {E2:ZD} {s':Shared},(wpAny (model X.prog X.w) X.A) t Q1 (λ_ _=>False) s'->(wpAny (model X.prog X.w) X.A) t Q1 E2 s':=λh=>wpAny_mono h (λ_ _ q=>q) λ_ _ f=>f.elim
   have an:∀{E:St} {H8:Hp} {s8:Shared},Inv (bO X a N' B (upd H2 ⇑l (.lst [])) A) ([] ++rq A s7.heap) E H8 s8->
    Inv _ [] E H8 s8/\tn (i+1) s8.heap/\∀b∈A,H8 b=none:=λ{E H8 s8} I8=>by
    refine%[I8.unpinned,T.keep _ _ _ a1 λb j o e=>(I8.pin (b,o) (Yy _ (Yy _ (eU j e)))).1|λb j=>?_];have%[o,e|d]:=T.obj _ _ a1 b j;exact(I8.pin (b,o) (Yy _ (Yy _ (eU j e)))).2.1
   refine Z2 (ac (thn (hg B _ A _ s7 ai H7 x u _ (I7.pinned (ag b2) (T.obj _ _ a1)) r7 (step x H7 y7)) λ_ s8 ⟨E,H8,I8,q8⟩=>Z2 (ac (thT (ht B _ A _ s8 E H8 _ I8 q8) λb s9 H9 I9 q9=>?_))));cases b with
   | false=>
     have%[m',hm|w9]:=(q9)
     have%[J1,J2|J3]:=an I9;exact Z3 %[rfl,m',hm,i+1,ys,E,H9,J1,J2,J3|w9]
   | true=>
     have q9:=(q9:te E H9 λy O=>∃zs m',O ⇑l=some (.lst zs)/\zs.length<sizeLine/\m'<n/\W (i+1) m' (ys++[y]) E _)
     refine Z2 (Z2 (ac (thP (he B _ A _ s9 E H9 _ I9 q9) λu2 b3 y bp b4 b5 ⟨zs,m',hz,hl,hm,b6⟩=>Z2 (ac (thP (qe _ b3 E bp (.ref ⇑l) [y] (.ref ⇑l) [u2] (λv H'=>v= .non/\H'=upd bp ⇑l (.lst (zs++[y]))) b4 rfl (.cons b5 .nil) %[_,rfl,_,hz,hl,rfl|rfl]) λu3 cl v3 co b7 cp ⟨cs,b9⟩=>?_)))));subst b9;have%[J1,J2|J3]:=an b7;exact Z3 (Z3 %[rfl,m',hm,i+1,ys++[y],E,_,J1,J2,J3|b6])
 subst as;exact(codeAny_compStart_list al (T.self _ 0 _ _ _ bc al))
def CQ{X:Cx}(S:aC X a e f)(n:X.calm=true)(hi:PI X l iter o)
 (p:∀b c d,PG (bO X a e b c d) l g) (r:∀b c d,PTs (bO X a e b c d) i t) (u:∀b c d,PE (bO X a e b c d) j v)
 (w:∀x,foldedSetIterable iter X.env x=pure x):
 PE X (.ListComp j [%[l,iter,i|0]] a pos) (qk o e.length f g t v):=by
 intro pins s B H Q I h;exact qo S n hi p r u w I h λD C y E G m z _ k q=>%[m,z|λh' A=>%[.ref D,y,k h' A,rfl|q]]
abbrev Its(z:Str):It:=⟨λi _=>i<z.cps.size,λi H x a=>a=H/\∃c,z.cps[i]? =some c/\x= .str ⟨#[c]⟩,λi _=>z.cps.size<=i⟩
def vC{P:Program}{K:ZA}(it:Addr)(z:Str)(t:Tok):nh P w K tg (Its z) [it] it (λi h=>h.IsStrIter it "str_ascii_iterator" z t i) where
 mem:=by simp
 obj:=λi h st b hb=>by
  have e:=by simpa using hb
  subst e;have%[o,e,c|d]:=st;exact%[o,e|λv z=>by lia]
 keep:=λi h h' st k=>by
  have%[o,e|r]:=st;exact%[o,k it ∅ o e|r]
 item:=by
  intro X hP hw hK hc i pins s σ H E I hf st hg;have hlt:i<z.cps.size:=hg;have%[f0,f1,f2,f3,f4|f5]:=hf it ∅;refine wpAny_pyNext_ascii_item st (c:=z.cps[i]) ∅ λh' st' sb=>?_
  have%[o,e,c|d]:=id st';exact%[_,rfl|pZ e c d (by decide) %[.str _,H,(I.turned (λb o hb e=>(sb.2 b hb).trans e) f0 f1 f3 f4 f5),%[_|rfl],%[rfl,_,by simp|rfl],st'|λb hb=>(hf b hb).1]]
 done:=by
  intro X hP hw hK hc i pins s σ H E I hf st hg;have hle:z.cps.size<=i:=hg;have%[f0,f1,f2,f3,f4|f5]:=hf it ∅;exact wpAny_pyNext_ascii_end (I.ok.hd hc) st (by simp[hle]) λh' eb=>%[rfl|I.turned (λb o hb e=>eb b o hb e) f0 f1 f3 f4 f5]
 self:=λ_ _ _ _ _ st h=>wpAny_pyIter_striter_ascii st h
def yi{P:Program}{K:ZA}(it:Addr)(z:Str)(t:Tok):nh P w K tg (Its z) [it] it (λi h=>h.IsStrIter it "str_iterator" z t i) where
 mem:=by simp
 obj:=λi h st b hb=>by
  have e:=by simpa using hb
  subst e;have%[o,e,c|d]:=st;exact%[o,e|λv z=>by rw[d]at z;cases z]
 keep:=λi h h' st k=>by
  have%[o,e|r]:=st;exact%[o,k it ∅ o e|r]
 item:=by
  intro X hP hw hK hc i pins s σ H E I hf st hg;have hlt:i<z.cps.size:=hg;have%[f0,f1,f2,f3,f4|f5]:=hf it ∅;refine wpAny_pyNext_wide_item st (c:=z.cps[i]) ∅ λh' st' sb=>?_
  have%[o,e,c|d]:=id st';exact%[_,rfl|pZ e c d (by decide) %[.str _,H,(I.turned (λb o hb e=>(sb.2 b hb).trans e) f0 f1 f3 f4 f5),%[_|rfl],%[rfl,_,by simp|rfl],st'|λb hb=>(hf b hb).1]]
 done:=by
  intro X hP hw hK hc i pins s σ H E I hf st hg;have hle:z.cps.size<=i:=hg;have%[f0,f1,f2,f3,f4|f5]:=hf it ∅;exact wpAny_pyNext_wide_end (I.ok.hd hc) st (by simp[hle]) λh' eb=>%[rfl|I.turned (λb o hb e=>eb b o hb e) f0 f1 f3 f4 f5]
 self:=λ_ _ _ _ _ st h=>wpAny_pyIter_striter_wide st h
abbrev CK(D:Addr)(n i:Nat)(Pv:Nat->List V->St->Hp->Prop)(ys:List V)(b:St)(y:V)(H:Hp):Prop:=
 ∃zs a,H D=some (.lst zs)/\zs.length<sizeLine/\a<n-i/\(a=n-(i+1)/\i+1<=n/\Pv (i+1) (ys++[y]) b (upd H D (.lst (zs++[y]))))
abbrev CN(n i:Nat)(Pv:Nat->List V->St->Hp->Prop)(ys:List V)(b:St)(H:Hp):Prop:=∃a,a<n-i/\(a=n-(i+1)/\i+1<=n/\Pv (i+1) ys b H)
def CK.mk{Pv:Nat->List V->St->Hp->Prop}(hi:i<n)(a:H D=some (.lst zs))(b:zs.length<sizeLine)(p:Pv (i+1) (ys++[y]) c (upd H D (.lst (zs++[y])))):CK D n i Pv ys c y H:=
 %[zs,n-(i+1),a,b,⋯,rfl,hi|p]
def CN.mk{Pv:Nat->List V->St->Hp->Prop}(hi:i<n)(p:Pv (i+1) ys a H):CN n i Pv ys a H:=%[n-(i+1),⋯,rfl,hi|p]
def bw{J:It}{g:TG}{u:TT}{v:TE}{w:Hp->Prop}(Pv:Nat->List V->St->Hp->Prop)(z:Pv 0 [] c H)(s:∀i ys c H,i<n->Pv i ys c H->J.go i H)(d:∀ys c H,Pv n ys c H->J.stop n H)
 (A:∀i ys c H,i<n->Pv i ys c H->∀x f,J.yld i H x f->g x c f λa t=>u a t λb h=>if b=true then v a h λy r=>CK D n i Pv ys a y r else CN n i Pv ys a h) (B:∀ys c H,Pv n ys c H->w H):
 ∃W:Nat->Nat->List V->St->Hp->Prop,(∃m,W 0 m [] c H)/\∀i m ys j l,W i m ys j l->(J.stop i l/\w l)\/
  (J.go i l/\∀x f,J.yld i l x f->g x j f λa t=>u a t λb h=>if b=true then v a h λy r=>∃zs o,r D=some (.lst zs)/\zs.length<sizeLine/\o<m/\W (i+1) o (ys++[y]) a (upd r D (.lst (zs++[y])))
   else∃o,o<m/\W (i+1) o ys a h):=by
 refine%[λi m ys c H=>m=n-i/\i<=n/\Pv i ys c H,%[n,by simp,Xj _|z]|?_];intro i m ys c H %[rfl,hi|p];by_cases q:i<n
 .exact .inr %[s i ys c H q p|λx f y=>A i ys c H q p x f y]
 .have e:i=n:=by lia
  subst e;exact .inl %[d ys c H p|B ys c H p]
def wN:∀{bs:List Bool} {us:ZF} {i:Nat} {v:Value},aE (bs.map V.bl) us->us[i]? =some v->∃b,bs[i]? =some b/\v= .bool b
 |[],_,_,_,r,e=>by cases r;simp at e
 | b::bs,_,i,v,r,e=>by
   cases r with
   | cons a c=>
     cases(a);cases i with
     | zero=>simp at e;exact%[b,rfl|e.symm]
     | succ i=>
       have%[d,f|g]:=wN c (e);exact%[d,f|g]
def nE(bs:List Bool):(List.range bs.length).all (λi=>bs.getD i false)=bs.all id:=by
 have e:(List.range bs.length).map (λi=>bs.getD i false)=bs:=by
  apply ext_getElem
  .simp
  .intro i a b
   simp_all
 have:(List.range bs.length).all (λi=>bs.getD i false)=((List.range bs.length).map λi=>bs.getD i false).all id:=by rw[all_map];rfl
 rw[this,e]
def Av{X:Cx}(g:X.calm=true):cq X (.builtin "all") (λxs H Q=>∃(p:Addr) (bs:List Bool),xs=[.ref p]/\SqL X.K H p (bs.map V.bl)/\Q (.bl (bs.all id)) H):=by
 intro pins s z H xs us Q I r h;have%[p,bs,rfl,j|q]:=h;have%[u,rfl|l]:=dg r;cases l;have%[its,d,pl|A]:=I.list j;have m:X.A.in1.handled=none:=I.ok.hd g;have a:bs.length=its.toArray.size:=by rw[Zp,<-d.length,Z6]
 refine call_all_walk (wpAny_pyIter_list pl.isList %[⇑s,[⇑s,p],[⇑s],its.toArray.size,_,_,λi=>bs.getD i false,rfl,Walks.list m _ p (Zt (by have%[o,n|_]:=pl.isList;exact Zv n)) its.toArray,%[%[_,Zj _ rfl,rfl|rfl]|pl.isList.push _],?_|?_])
 .intro i v s' t B w c;have%[b,f|rfl]:=wN d (by simpa using w);have e:bs.getD i false=b:=by simp_all
  have c:t (bs.getD i false) s':=c;rw[e]at c;exact wpAny_truthy_bool c
 .intro h' tk y;rw[<-a,nE];refine%[.bl _,H,I.kept λb o e=>y b o ?_ (Z7 _ e),rfl|q];have:=Zv e;intro f;exact absurd (Xt f) (Zt this)
abbrev Fa:V->Option Int->Option Int->Hp->VK->Prop:=λx lo hi H Q=>∃z,x= .str z/\z.length<=sizeLine/\Q (.str (Txt.slice z lo hi)) H
def Fb{X:Cx}:SlR X Fa:=by
 intro pins s g H x v m n lo hi o Q I e a pl c h;have%[z,rfl,f|q]:=h;have%[t|rfl]:=e;refine%["str",_,F.slot_str_getitem.lookup,typeIs_str _ _ _|?_];have fin:∀l u,(Txt.slice z l u).length<=sizeLine:=λl u=>Yk (Txt.slice_le z _ _) f
 cases pl with
 | none=>
   cases c with
   | none=>exact wpAny_getItem_str_slice (l:=none) (u:=none) (st:=none) a rfl (post_val_or_str %[fin _ _|λt' k=>%[.str (Txt.slice z _ _),H,I.tok k,%[_|rfl]|q]])
   | int j b=>exact wpAny_getItem_str_slice (l:=none) (u:=some (j,b)) (st:=none) a rfl (post_val_or_str %[fin _ _|λt' k=>%[.str (Txt.slice z _ _),H,I.tok k,%[_|rfl]|q]])
 | int i d=>
   cases c with
   | none=>exact wpAny_getItem_str_slice (l:=some (i,d)) (u:=none) (st:=none) a rfl (post_val_or_str %[fin _ _|λt' k=>%[.str (Txt.slice z _ _),H,I.tok k,%[_|rfl]|q]])
   | int j b=>exact wpAny_getItem_str_slice (l:=some (i,d)) (u:=some (j,b)) (st:=none) a rfl (post_val_or_str %[fin _ _|λt' k=>%[.str (Txt.slice z _ _),H,I.tok k,%[_|rfl]|q]])
def gQ:∀{ss:ZB} {us:ZF},aE (ss.map V.str) us->StrsAre us ss
 |[],_,r=>by cases r;exact .nil
 | x::ss,_,r=>by
   cases r with
   | cons a b=>
     have%[t|e]:=a;subst e;exact .cons x t (gQ b)
def qp:∀{ss:ZB} {us:ZF},StrsAre us ss->aE (ss.map V.str) us
 | _,_,.nil=> .nil
 | _,_,.cons x t h=> .cons %[t|rfl] (qp h)
abbrev wO(K:ZA):V->List V->Hp->VK->Prop:=λx vs H Q=>∃z l ss,x= .str z/\vs=[.ref l]/\SqL K H l (ss.map V.str)/\(ss.map (·.length)).sum+ss.length*z.length<=16777216/\Q (.str (Txt.join z ss)) H
def CS{X:Cx}:MtM X "str.join" (wO X.K):=by
 intro pins s e H x vs v us Q I a b h;have%[z,l,ss,rfl,rfl,c,hw|q]:=h;have%[t|rfl]:=a;have%[u,rfl|d]:=b.one;cases d;have%[its,r,pl|f]:=I.list c;exact PyProof.Rows.join_list pl.isList (gQ r) hw λt' k=>%[.str _,H,I.tok k,%[_|rfl]|q]
def Aw{X:Cx}:cq X (.builtin "isinstance") (λxs H Q=>∃x n t b,xs=[x,.ty n]/\jO X.K H x t/\kitOne X.K t (.type n)=some b/\Q (.bl b) H):=by
 intro pins s d H xs us Q I r h;have%[x,n,t,b,rfl,ty,e|q]:=h;have%[u,f,rfl,c|a]:=j7 r;cases(a);exact x4 I c ty e λtk=>%[.bl b,H,I.tok tk,rfl|q]
def qq(z:Str)(c i:Nat):Builtin.Str.subAt z ⟨#[c]⟩ i=decide (z.cps[i]? =some c):=by
 unfold Builtin.Str.subAt;have b:(⟨#[c]⟩:Str).length=1:=rfl;rw[b];by_cases hi:i<z.cps.size
 .have e:z.cps.extract i (i+1)= #[z.cps[i]]:=by
   apply Array.ext
   .simp;lia
   .intro j d a;simp at a;subst a;simp
  rw[e,Array.getElem?_eq_getElem hi];by_cases f:z.cps[i]=c
  .subst f;simp
  simp_all
 .have e:z.cps.extract i (i+1)= #[]:=by
   apply Array.ext
   .simp;lia
   .intro j d a;simp at a
  rw[e,Array.getElem?_eq_none ⋯];simp
def Ax(z:Str)(c:Nat):(!(Builtin.Str.occurrences z ⟨#[c]⟩ 0 z.length 1).isEmpty)=decide (c∈z.cps.toList):=by
 rcases StrLaws.occ_head z _ 1 (Zi _)with⟨e,d⟩|⟨i,r,e,f,_⟩
 .rw[e];refine(Zh λg=>?_).symm;have%[j,h|l]:=List.mem_iff_getElem.mp g;have a:=by simpa using h
  refine d j %[?_|?_]
  .show j+1<=z.cps.size;lia
  .rw[qq];exact Zf (by rw[Array.getElem?_eq_getElem a];simpa using l)
 .rw[e];refine(Zf ?_).symm;have b:=f.2;rw[qq]at b;have:=Array.mem_of_getElem? (Zo b);simpa using this
section
variable{X:Cx}
nonrec abbrev DN:R2:=λx y H Q=>∃i j,x= .str i/\y= .str j/\i.length+j.length<=sizeLine/\Q (.str (i++j)) H
nonrec abbrev Ay:R2:=λx y H Q=>rI0 (λi j=> .int (i+j)) x y H Q\/(DN x y H Q\/EZ x y H Q)
def CT:OpR X (binaryOp .Add) Ay:=zW.or (vk.or E3)
nonrec abbrev Az:R2:=λx y H Q=>rI zV (λi j=> .int (i*j)) x y H Q\/E4 x y H Q
def CU:OpR X (binaryOp .Mult) Az:=zX.or E5
nonrec abbrev Fc:R2:=rEq
def Fd:OpR X (compareOp .Eq) Fc:=GC
nonrec abbrev Fe:R2:=rNe
def Ff:OpR X (compareOp .NotEq) Fe:=GD
nonrec abbrev GL:R2:=λx y H Q=>∃i j,x= .str i/\y= .str j/\Q (.bl (!(Builtin.Str.occurrences j i 0 j.length 1).isEmpty)) H
nonrec abbrev CV(K:ZA):R2:=λx y H Q=>GL x y H Q\/rIn K false x y H Q
def Fg:OpR X (compareOp .In) (CV X.K):=xT.or x9
nonrec abbrev CW(K:ZA):V->Option Int->Option Int->Hp->VK->Prop:=λx lo hi H Q=>EV K x lo hi H Q\/(ES K x lo hi H Q\/Fa x lo hi H Q)
def Fh:SlR X (CW X.K):=CB.or (ET.or Fb)
abbrev CY(K:ZA)(c:TE):TI:=λd H R=>c d H λx b=>(∃a,x= .ref a/\(∃xs,SqL K b a xs)/\R (Itl K a) b)\/(∃a,x= .ref a/\(∃xs,SqT K b a xs)/\R (Itt K a) b)\/∃z,x= .str z/\R (Its z) b
def Fi(n:PE X l r):PI X C l (CY X.K r):=by
 intro pins s u H R I h;refine thP (n pins s u H _ I h) λv d x g f i w=>?_
 have c:∀b∈[⇑d],mH X pins g b:=λb y=>by
  have e:b=⇑d:=by simpa using y
  subst e;exact f.fpOk (Zi _) (f.hok.fresh (Zi _))
 rcases w with⟨a,e,⟨xs,j⟩,q⟩|⟨a,e,⟨xs,j⟩,q⟩|⟨z,e,q⟩
 .subst e;cases i;have%[its,A,p|B]:=f.list j;exact wpAny_pyIter_list p.isList %[⇑d,[⇑d],_,_,g,rfl,f.kept (t':=d.toks) λb o e=>Z7 _ e,xQ a _,%[_,Zj _ rfl,rfl|rfl],c|q]
 .subst e;cases i;have%[its,A,p|B]:=f.tuple j;exact wpAny_pyIter_tuple (p) %[⇑d,[⇑d],_,_,g,rfl,f.kept λb o e=>Z7 _ e,vd a _,%[_,Zj _ rfl,rfl|rfl],c|q]
 .subst e;have%[t|rfl]:=i;cases m:z.cps.all _ with
  | true=>
    exact wpAny_pyIter_ascii m %[⇑d,[⇑d],_,_,g,rfl,f.kept λb o e=>Z7 _ e,vC _ z t,%[_,Zj _ rfl,rfl|rfl],c|q]
  | false=>
    exact wpAny_pyIter_wide m %[⇑d,[⇑d],_,_,g,rfl,f.kept λb o e=>Z7 _ e,yi _ z t,%[_,Zj _ rfl,rfl|rfl],c|q]
end
abbrev bM(c:Scope)(N:ZB)(a:Scope)(d:ZB)(b:List (Nat×Nat)):Bool:=
 decide (a.kind= .function)&&a.names.all (λy=>(decide (y.2≠ .cell)||decide (a.names.lookup y.1=some .cell))&&(decide (y.2≠ .local)||decide (a.names.lookup y.1=some .local))&&(decide (y.2≠ .free)||decide (c.names.lookup y.1=some .cell)||decide (c.names.lookup y.1=some .free)))&&
  b.all λp=>match d[p.1]? with
   | some x=>decide (N[p.2]? =some x)&&decide (a.names.lookup x=some .free)
   | none=>false
def aC.of{X:Cx}(h:bM X.env.scope X.N a g c=true):aC X a g c:=by
 unfold bM at h;rw[Zx,Zx,all_eq_true,all_eq_true]at h;have%[%[i|d]|j]:=h;refine%[Zo i,λy b f=>?_,λy b f=>?_,λy b l=>?_|λp m=>?_]
 .have:=d y b;simp only[Zx,or_eq_true,decide_eq_true_eq]at this;exact this.1.1.resolve_left λq=>q f
 .have:=d y b;simp only[Zx,or_eq_true,decide_eq_true_eq]at this;exact this.1.2.resolve_left λq=>q f
 .have:=d y b;simp only[Zx,or_eq_true,decide_eq_true_eq]at this;rcases this.2 with(q|q)|q
  .exact absurd l q
  .exact .inl q
  .exact .inr q
 .have:=j p m;cases e:g[p.1]? with
  | none=>simp_all
  | some x=>
    rw[e]at this;simp only[Zx,decide_eq_true_eq]at this;exact%[x,rfl,this.1|this.2]
structure Gv (mg:ZC) (x:Str) (v:V):Prop where
 ex:∃u,mg x=some u/\aQ v u
def DO{X:Cx}(g:Gv X.mg x v)(a:Gl X x)(b:(x==("__debug__":Str))=false):PE X (.Name x pos) (tC v):=by
 have%[u,h|r]:=g.ex;exact B9 a h r b
structure Cal (P:Program) (w:World) (K:ZA) (mg:ZC) (base:Heap) (k:Nat) (x:Str) (ps:ZB) (sp:Sp):Prop where
 ex:∃f fd,eE P w K mg base CX0 k f fd ps sp/\mg x=some (.ref f)/\keepIn K (.ref f)=true/\fD K fd ps []
structure aG (K:ZA) (mg:ZC) (x:Str) (st:Stmt) (ps:ZB):Prop where
 ex:∃f fd,Fun K x x st f fd/\mg x=some (.ref f)/\fD K fd ps []
def aG.cal{P:Program}{K:ZA}{st:Stmt}(D:aG K mg x st ps)(S:aw N ps (ao st))
 (a:∀(H:Hp) (vs:List V) (Q:VK) (E:XK),sp vs H Q E->vs.length=ps.length/\∀(f:Addr) (b:Value) (A:Around) (outer:List Env) (s:Shared),bX k (A.deeper (envOfC x (ao st) ⇑s f b))->
  ∃t,PSs (rB CX0 P w K mg base N x (ao st) f b A outer s H E).nox (bZ st) t/\t {nx:=λ_ c=>Q .non c,rt:=Q} (start N vs) H):Cal P w K mg base (k+1) x ps sp:=by
 have%[f,d,F,e|g]:=D.ex;exact%[f,d,F.ok S (λv H Q E h=>(a H v Q E h).1) (λb A o s H v Q E r h=>(a H v Q E h).2 f b A o s r),e,F.kp|g]
def Fj{X:Cx}(C:Cal X.prog X.w X.K X.mg X.base j x ps sp)(g:bX k X.A)(h:Gl X x)(i:jP CX0 X E0)(l:PA X (e::a) t)(b:j<=k)
 (c:(x==("__debug__":Str))=false) (m:starEach (e::a) X.env=(false,eval e X.env)::starEach a X.env) (d:(backTo pos (starEach a X.env)).any (·.1)=false):
 PE X (.Call (.Name x p) (e::a) [] pos) (sZ sp [] E0 t):=by
 have%[f,r,F,n,o|q]:=C.ex;exact Cs F (g.mono b) h n o q .nil i l c m d
def Fk{K:ZA}{h:Heap}{st:Stmt}{kV e g d ct:Value}(X:K.In h)(G:h.Ns mainGlobals mg)
 (a:nsIn K mainGlobals x=some (some (.ref f))) (l:K.lookup f=some %[m,n,.func (fnOf x x (cX st) (bZ st) (ao st) .none kV e g i d ct)|j]) (c:codeIn K d x=true) (k:keepIn K (.ref f)=true)
 (b:∀(kV e g:Value) (i:ZI) (d ct:Value) (us:ZF),us.length=ps.length->bindArgs (fnOf x x (cX st) (bZ st) (ao st) .none kV e g i d ct) %[us|[]]=pure (ps.zip us)):aG K mg x st ps:=
 %[f,_,eW l c k,mg_of X G a|(eW l c k).binds b]
def GM{K:ZA}{h:Heap}(X:K.In h)(G:h.Ns mainGlobals mg)(a:nsIn K mainGlobals x=some (some u))(r:aQ v u):Gv mg x v:=%[u,mg_of X G a|r]
def lv(h:∀nx:St->Hp->Prop,(∀a b,u D a b->nx a b)->t {D with nx:=nx} c H):bd t u D c H:=h _ λ_ _ x=>x
def az(h:∀a:It->Hp->Prop,(∀J f,(∃W:Nat->Nat->St->Hp->Prop,(∃m,W 0 m b f)/\∀i m b H,W i m b H->
 (J.stop i H/\D.nx b H)\/(J.go i H/\∃N:St->Hp->Prop,(∀c d,N c d->∃j,j<m/\W (i+1) j c d)/\∀x d,J.yld i H x d->g x b d λe l=>n {D with nx:=N,ct:=N,bk:=D.nx} e l))->a J f)->o b H a):zU o g n D b H:=h _ λ_ _ x=>x
def aI(h:∀c:It->Hp->Prop,(∀J j,(∀D,j D=none->∃W:Nat->Nat->List V->St->Hp->Prop,
 (∃m,W 0 m [] (qj n l o) (upd j D (.lst [])))/\∀i m ys d e,W i m ys d e->(J.stop i e/\Q (.ref D) e)\/
  (J.go i e/\∀x p,J.yld i e x p->g x d p λa s=>t a s λb q=>if b=true then u a q λy r=>∃zs f,r D=some (.lst zs)/\zs.length<sizeLine/\f<m/\W (i+1) f (ys++[y]) a (upd r D (.lst (zs++[y])))
   else∃f,f<m/\W (i+1) f ys a q))->c J j)->v o H c):qk v n l g t u o H Q:=h _ λ_ _ x=>x
section
variable{X:Cx}{K:ZA}
def Fl(h:X.K=K):OpR X (compareOp .In) (CV K):=by subst h;exact Fg
def ixK(h:X.K=K):IxR X (rIx K):=by subst h;exact EU
def slK(h:X.K=K):SlR X (CW K):=by subst h;exact Fh
def yj(h:X.K=K):cq X (.builtin "len") (λxs H Q=>∃x n,xs=[x]/\Cm K x H n/\Q (.int n) H):=by subst h;exact z8
def yk(h:X.K=K)(a:X.calm=true):cq X (.builtin "all") (λxs H Q=>∃(p:Addr) (bs:List Bool),xs=[.ref p]/\SqL K H p (bs.map V.bl)/\Q (.bl (bs.all id)) H):=by subst h;exact Av a
def yo(h:X.K=K):cq X (.builtin "isinstance") (λxs H Q=>∃x n t b,xs=[x,.ty n]/\jO K H x t/\kitOne K t (.type n)=some b/\Q (.bl b) H):=by subst h;exact Aw
def vD(h:X.K=K):cq X (.type "list") (λxs H Q=>∃p ys,xs=[.ref p]/\(SqL K H p ys\/SqT K H p ys)/\∀l,H l=none->Q (.ref l) (upd H l (.lst ys))):=by subst h;exact rH
def AA(h:X.K=K):MtR X "str.join" (wO K):=by subst h;exact CS
def yp(h:X.K=K)(d:PE X a e)(f:∀b,isTrue a X.env b=(do let v<-b;standAt a.pos;holding [v] (truthy v))):PT X a (λg H Q=>e g H λx c=>∃k,z5 K x c k/\Q k c):=by subst h;exact z6 d f
def CZ(h:X.K=K)(a:PE X l b):PI X c l (CY K b):=by subst h;exact Fi a
variable{o e:Expr}{es:List Expr}{to:TE}{t:TA}{name:Str}{apos cpos:Pos}{T id:String}{r:V->List V->Hp->VK->Prop}
def C0(h:X.K=K)(d:PlainAttrs T)(slot:Slot T name id)(c:typeOf (.builtin id)=pure (.type "method_descriptor"))(f:MtR X id r)(g:PE X o to)
 (a:attributeBase o name X.env (eval o X.env)=eval o X.env) (b:(apos.endLine==cpos.line)=true):PE X (.Call (.Attribute o name apos) [] [] cpos) (CC K T r to):=by
 subst h;exact EX d slot c f g a b
def AB(h:X.K=K)(g:PlainAttrs T)(slot:Slot T name id)(f:typeOf (.builtin id)=pure (.type "method_descriptor"))(i:MtR X id r)(j:PE X o to)(l:PA X (e::es) t)
 (b:attributeBase o name X.env (eval o X.env)=eval o X.env)
 (d:((backTo cpos (starEach (e::es) X.env)).all (λx=>!x.1)&&(backToKw cpos (keywordEach [] X.env)).all (λx=>x.1.isSome)
  && decide ((e::es).length+([]:List Keyword).length+(if([]:List Keyword).isEmpty then 0 else 1)<30))=true)
 (c:(apos.endLine==cpos.line)=true) (m:starEach (e::es) X.env=(false,eval e X.env)::starEach es X.env) (a:(backTo cpos (starEach es X.env)).any (·.1)=false):
 PE X (.Call (.Attribute o name apos) (e::es) [] cpos) (tBM K T r to t):=by
 subst h;exact GI g slot f i j l b d c m a
end
structure vE (z TI TO i1 i2:Addr):Prop where
 TIz:TI≠z
 TOz:TO≠z
 i1z:i1≠z
 i2z:i2≠z
 TITO:TI≠TO
 TIi1:TI≠i1
 TIi2:TI≠i2
 TOi1:TO≠i1
 TOi2:TO≠i2
 i12:i1≠i2
section
#where
variable{z TI TO i1 i2:Addr}{fp1 fp2:List Addr}{n1 n2 i:Nat}{P1 P2:Nat->Value->Prop}{St1 St2:Nat->Heap->Prop}
def AC{Q:ZD}(D1:Draws prog w A i1 fp1 n1 P1 St1)(D2:Draws prog w A i2 fp2 n2 P2 St2)(D:vE z TI TO i1 i2)(O:∀b∈fp1,b≠z/\b≠TO/\b≠i2)(m2:∀b∈fp2,b≠z/\b≠TO/\b≠i1)
 (T:IsZip s.heap z TI TO .none) (ac:IsPair s.heap TI (.ref i1) (.ref i2)) (ae:IsPair s.heap TO a b) (h1:St1 i s.heap) (h2:St2 i s.heap) (l1:i<n1) (l2:i<n2)
 (hQ:∀x y h' tk,P1 i x->P2 i y->IsZip h' z TI TO (rawInt ⇑s)->IsPair h' TO x y->St1 (i+1) h'->St2 (i+1) h'->IsPair h' ⇑s x y->
  (∀c o,c≠z->c≠TO->c≠i1->c≠i2->s.heap.get? c=some o->h'.get? c=some o)->Q (.ref ⇑s) {s with heap:=h',toks:=tk}):
 ↥A (Builtin.«zip.__next__» %[[.ref z]|[]]) (λfin s'=>∃v,fin= .done (.ret v)/\Q v s') E s:=by
 have r:∀{k h h' c},(∀b∈fp1,b≠c)->SameBut c h h'->St1 k h->St1 k h':=λhc sb st=>D1.frame _ _ _ st λb d o e=>(sb.2 b (hc b d)).trans e
 have t:∀{k h h' c},(∀b∈fp2,b≠c)->SameBut c h h'->St2 k h->St2 k h':=λhc sb st=>D2.frame _ _ _ st λb d o e=>(sb.2 b (hc b d)).trans e
 show wpAny _ _ (field (.ref z) 2>>= _) _ _ _;refine Z2 (wpAny_field T rfl (x:= .bool false) rfl ?_);show wpAny _ _ (field (.ref z) 3>>= _) _ _ _;refine Z2 (wpAny_field T rfl (x:= .ref TI) rfl (Z2 (wpAny_seqItems ac rfl ?_)));show wpAny _ _ (Builtin.SmallTypes.ownedTupleIsFree (.ref z)>>= _) _ _ _;refine Z2 ?_;unfold Builtin.SmallTypes.ownedTupleIsFree;refine Z2 (wpAny_field T rfl (x:= .none) rfl (Z3 ?_));simp only[if_true];refine Z2 (wpAny_rule (Z2 (wpAny_field T rfl (x:= .ref TO) rfl (Z2 (wpAny_setField_rec T ∅ λg1 L n=>?_)))));replace L:IsZip g1 z TI TO .ellipsis:=L;refine Z2 ?_;simp only[List.zipIdx_cons,List.zipIdx_nil,forIn_cons,List.forIn_nil];refine Z2 (Z2 (wpAny_onRaise ?_));show wpAny _ _ (Builtin.SmallTypes.nextOf (.ref i1)>>= _) _ _ _;refine Z2 (D1.item i _ _ _ l1 (r (λb d=>(O b d).1) n h1) λx g2 ag px ai f=>Z3 ?_);replace f:SameBut i1 g1 g2:=f;have H:IsPair g2 TO a b:=(f.2 _ D.TOi1).trans ((n.2 _ D.TOz).trans ae);refine Z2 (wpAny_seqItems H rfl (Z2 (wpAny_updateSeq_pair (s:={s with heap:=g2,toks:=ag}) H λg3 p g=>?_)));replace p:IsPair g3 TO x b:=p;replace g:SameBut TO g2 g3:=g;refine Z2 (wpAny_letGo (Z3 (Z2 (Z2 (wpAny_onRaise ?_)))));show wpAny _ _ (Builtin.SmallTypes.nextOf (.ref i2)>>= _) _ _ _;refine Z2 (D2.item i _ _ _ l2 (t (λb d=>(m2 b d).2.1) g (t (λb d=>(m2 b d).2.2) f (t (λb d=>(m2 b d).1) n h2))) λy g4 u py aj j=>Z3 ?_);replace j:SameBut i2 g3 g4:=j;have I:IsPair g4 TO x b:=(j.2 _ D.TOi2).trans p;refine Z2 (wpAny_seqItems I rfl (Z2 (wpAny_updateSeq_pair (s:={s with heap:=g4,toks:=u}) I λq m l=>?_)));replace m:IsPair q TO x y:=m;replace l:SameBut TO g4 q:=l;refine Z2 (wpAny_letGo (Z3 (Z3 (Z2 (wpAny_seqItems m rfl (Z2 (wpAny_newTuple ?_)))))));have U:q.objs.size=⇑s:=by rw[l.1,j.1,g.1,f.1,n.1]
 have Y:IsZip q z TI TO .ellipsis:=(l.2 _ D.TOz.symm).trans ((j.2 _ D.i2z.symm).trans ((g.2 _ D.TOz.symm).trans ((f.2 _ D.i1z.symm).trans L)));have al:∀c o,c≠z->c≠TO->c≠i1->c≠i2->s.heap.get? c=some o->q.get? c=some o:=λc o M c2 c3 c4 e=>
  (l.2 c c2).trans ((j.2 c c4).trans ((g.2 c c2).trans ((f.2 c c3).trans ((n.2 c M).trans e))))
 have J:z<q.objs.size:=Zv Y;refine Z2 (Z2 (wpAny_setField_rec (s:={s with heap:=q.push {cls:= .type "tuple",data:= .seq #[x,y]},toks:=u}) (Z7 _ Y) ∅ λg7 N B=>?_));replace N:IsZip g7 z TI TO (rawInt q.objs.size):=N;replace B:SameBut z (q.push _) g7:=B;refine wpAny_setField_rec (s:={s with heap:=g7,toks:=u}) N ∅ λg8 C G=>?_
 replace C:IsZip g8 z TI TO (rawInt q.objs.size):=C;replace G:SameBut z g7 g8:=G;have up:∀c o,c≠z->q.get? c=some o->g8.get? c=some o:=λc o M e=>(G.2 c M).trans ((B.2 c M).trans (Z7 _ e))
 have ab:=(G.2 _ (X6 J)).trans ((B.2 _ (X6 J)).trans (Zj _ rfl));rw[U]at C ab;refine Z3 %[_,rfl|?_];rw[U];exact hQ x y g8 u px py C (up _ _ D.TOz m) (D1.frame _ _ _ (r (λb d=>(O b d).2.1) l (r (λb d=>(O b d).2.2) j (r (λb d=>(O b d).2.1) g ai))) λb d o e=>up b o (O b d).1 e) (D2.frame _ _ _ (t (λb d=>(m2 b d).2.1) l aj) λb d o e=>up b o (m2 b d).1 e) ab λc o M c2 c3 c4 e=>up c o M (al c o M c2 c3 c4 e)
def AD(J:Draws prog w A i1 fp1 n1 P1 St1)(D2:Draws prog w A i2 fp2 n2 P2 St2)(D:vE z TI TO i1 i2)(m1:∀b∈fp1,b≠z/\b≠TO/\b≠i2)(m2:∀b∈fp2,b≠z/\b≠TO/\b≠i1)
 (y:IsZip s.heap z TI TO .none) (L:IsPair s.heap TI (.ref i1) (.ref i2)) (M:IsPair s.heap TO a b) (h1:St1 i s.heap) (h2:St2 i s.heap) (l1:i<=n1) (l2:i<=n2) (ab:i=n1\/i=n2)
 (hE:∀h' e tk,(∀c o,c≠z->c≠TO->c≠i1->c≠i2->s.heap.get? c=some o->h'.get? c=some o)->(∃o,h'.get? e=some o/\o.cls= .type "StopIteration")->E (.ref e) {s with heap:=h',toks:=tk}):
 ↥A (Builtin.«zip.__next__» %[[.ref z]|[]]) Q E s:=by
 have N:∀{k h h' c},(∀b∈fp1,b≠c)->SameBut c h h'->St1 k h->St1 k h':=λO T st=>J.frame _ _ _ st λb j o e=>(T.2 b (O b j)).trans e
 have t:∀{k h h' c},(∀b∈fp2,b≠c)->SameBut c h h'->St2 k h->St2 k h':=λO T st=>D2.frame _ _ _ st λb j o e=>(T.2 b (O b j)).trans e
 show wpAny _ _ (field (.ref z) 2>>= _) _ _ _;refine Z2 (wpAny_field y rfl (x:= .bool false) rfl ?_);show wpAny _ _ (field (.ref z) 3>>= _) _ _ _;refine Z2 (wpAny_field y rfl (x:= .ref TI) rfl (Z2 (wpAny_seqItems L rfl ?_)));show wpAny _ _ (Builtin.SmallTypes.ownedTupleIsFree (.ref z)>>= _) _ _ _;refine Z2 ?_;unfold Builtin.SmallTypes.ownedTupleIsFree;refine Z2 (wpAny_field y rfl (x:= .none) rfl (Z3 ?_));simp only[if_true];refine Z2 (wpAny_rule (Z2 (wpAny_field y rfl (x:= .ref TO) rfl (Z2 (wpAny_setField_rec y ∅ λg1 n l=>?_)))));replace n:IsZip g1 z TI TO .ellipsis:=n;refine Z2 ?_;simp only[List.zipIdx_cons,List.zipIdx_nil,forIn_cons,List.forIn_nil];refine Z2 (Z2 (wpAny_onRaise ?_));show wpAny _ _ (Builtin.SmallTypes.nextOf (.ref i1)>>= _) _ _ _;have B:St1 i g1:=N (λb j=>(m1 b j).1) l h1;by_cases c1:i<n1
 .have e2:i=n2:=by lia
  refine Z2 (J.item i _ _ _ c1 B λx g2 u px ae d=>Z3 ?_);replace d:SameBut i1 g1 g2:=d;have r:IsPair g2 TO a b:=(d.2 _ D.TOi1).trans ((l.2 _ D.TOz).trans M);refine Z2 (wpAny_seqItems r rfl (Z2 (wpAny_updateSeq_pair (s:={s with heap:=g2,toks:=u}) r λg3 ac f=>?_)));replace f:SameBut TO g2 g3:=f;refine Z2 (wpAny_letGo (Z3 (Z2 (Z2 (wpAny_onRaise ?_)))));show wpAny _ _ (Builtin.SmallTypes.nextOf (.ref i2)>>= _) _ _ _;refine Z2 (D2.done _ _ _ (e2▸t (λb j=>(m2 b j).2.1) f (t (λb j=>(m2 b j).2.2) d (t (λb j=>(m2 b j).1) l h2))) λI e p U=>?_);replace p:ExtBut i2 g3 I:=p;have%[Y,g|m]:=U;have C:IsZip I z TI TO .ellipsis:=p _ _ D.i2z.symm ((f.2 _ D.TOz.symm).trans ((d.2 _ D.i1z.symm).trans n));have v:e≠z:=λx=>by subst x;rw[C]at g;cases g;simp at m
  refine wpAny_setField_rec (s:={s with heap:=I,toks:=u}) C ∅ λg5 _ q=>?_
  replace q:SameBut z I g5:=q;exact hE g5 e u (λc o G d2 d3 d4 x=>(q.2 c G).trans (p c o d4 ((f.2 c d2).trans ((d.2 c d3).trans ((l.2 c G).trans x))))) %[Y,(q.2 e v).trans g|m]
 .have e1:i=n1:=by lia
  refine Z2 (J.done _ _ _ (e1▸B) λg2 e d U=>?_);replace d:ExtBut i1 g1 g2:=d;have%[Y,g|m]:=U;have H:=d _ _ D.i1z.symm n;have v:e≠z:=λx=>by subst x;rw[H]at g;cases g;simp at m
  refine wpAny_setField_rec (s:={s with heap:=g2}) H ∅ λg3 _ f=>?_
  replace f:SameBut z g2 g3:=f;exact hE g3 e s.toks (λc o G _ d3 _ x=>(f.2 c G).trans (d c o d3 ((l.2 c G).trans x))) %[Y,(f.2 e v).trans g|m]
end
abbrev Itz(x y:Str):It:=⟨λi _=>i<x.cps.size/\i<y.cps.size,λi H v a=>∃c d T,x.cps[i]? =some c/\y.cps[i]? =some d/\H T=none/\v= .ref T/\a=upd H T (.tup [.str ⟨#[c]⟩,.str ⟨#[d]⟩]),
 λi _=>i<=x.cps.size/\i<=y.cps.size/\(i=x.cps.size\/i=y.cps.size)⟩
abbrev ZSt(z TI TO c d:Addr)(e f:Nat->Heap->Prop)(i:Nat)(h:Heap):Prop:=IsZip h z TI TO .none/\IsPair h TI (.ref c) (.ref d)/\(∃a b,IsPair h TO a b)/\e i h/\f i h
def jj(prog:Program)(w:World)(x:Str)(t:Tok)(a:Addr):∀A,A.handled=none->
 Draws prog w A a [a] x.cps.size (λi v=>∃c u,x.cps[i]? =some c/\v= .str ⟨#[c]⟩ u) (λi h=>h.IsStrIter a (strIterType x) x t i):=by
 intro A b;unfold strIterType;cases d:x.cps.all _ with
 | true=>exact Draws.strAscii b a x t
 | false=>exact Draws.strWide b a x t
def AE{P:Program}{K:ZA}(z TI TO i1 i2:Addr)(x y:Str)(t u:Tok)(D:vE z TI TO i1 i2):
 nh P w K (.Tuple elts kt tp) (Itz x y) [z,TI,TO,i1,i2] z (ZSt z TI TO i1 i2 (λi h=>h.IsStrIter i1 (strIterType x) x t i) (λi h=>h.IsStrIter i2 (strIterType y) y u i)) where
 mem:=by simp
 obj:=λi h st b hb=>by
  have%[hz,hTI,%[a,c|hTO],%[o1,e1,_|d1],o2,e2,_|d2]:=st
  grind
 keep:=λi h h' st k=>by
  have%[hz,hTI,%[a,c|hTO],%[o1,e1|r1],o2,e2|r2]:=st;exact%[k z ∅ _ hz,k TI ∅ _ hTI,%[a,c|k TO ∅ _ hTO],%[o1,k i1 ∅ _ e1|r1],o2,k i2 ∅ _ e2|r2]
 item:=by
  intro X hP hw hK hc i pins s σ H E I hf st hg;subst hP hw hK;have%[hz,hTI,%[a,c|hTO],h1|h2]:=st;obtain⟨g1,g2⟩:i<x.cps.size/\i<y.cps.size:=hg;have hT:s.TypeIs (.ref z) "zip":=%[_,hz|rfl]
  have hh:X.A.in1.handled=none:=I.ok.hd hc;unfold pyNext;refine Z2 (wpAny_attempt (wpAny_callSpecial?_slot (name:=Str.ofString "__next__") hT F.slot_zip_next (wpAny_call_entry F.slot_zip_next hT F.entry_zip_next
   (AC (jj _ _ x t i1 _ hh) (jj _ _ y u i2 _ hh) D (λb hb=>(show b=i1 by simpa using hb)▸%[D.i1z,Ne.symm D.TOi1|D.i12]) (λb hb=>(show b=i2 by simpa using hb)▸%[D.i2z,Ne.symm D.TOi2|Ne.symm D.i12]) hz hTI hTO h1 h2 g1 g2 λv1 v2 h' tk p1 p2 a1 a2 a3 a4 a5 hk=>Z3 ?_) (F.args_zip_next_1 _))))
  have%[c1,u1,e1|rfl]:=p1;have%[c2,u2,e2|rfl]:=p2;refine%[_,rfl|wpAny_letOwnedTupleGo_zip (s:={s with heap:=h',toks:=tk}) a1 λh'' hz'' sb=>?_];replace sb:SameBut z h' h'':=sb;have turn1:Inv X pins σ H {s with heap:=h'',toks:=tk}:=by
   have nit:∀b v,H b=some v->b∉[z,TI,TO,i1,i2]:=λb v e hb=>by rw[(hf b hb).1]at e;cases e
   have kk:∀b o,b∉[z,TI,TO,i1,i2]->s.heap.get? b=some o->h''.get? b=some o:=λb o hb e=>by
    simp only[Yz,Xb,or_false,not_or]at hb;exact(sb.2 b hb.1).trans (hk b o hb.1 hb.2.2.1 hb.2.2.2.1 hb.2.2.2.2 e)
   refine I.step (g':=s.gens) (d':=s.drawn) (ch:=[z,TI,TO,i1,i2]) (λb hb=>%[(hf b hb).2.2.2.1,(hf b hb).2.1,(hf b hb).2.2.2.2.1|(hf b hb).2.2.2.2.2]) (λb o _ _ hc e _=>kk b o hc e) (λb o _ _ hc e _=>%[o.slots|kk b o hc e]) (λ_ _ _ _ n=>n)
    (λb o hc e=>%[o|kk b o hc e]) (λ_ _ e=>e) (λ_ _ _ e=>e) (λb ps e=>%[#[]|by rw[e];simp]) (λm hm=>?_) (λb v e=>?_) I.bare
   .have%[o,es,ep,ho|r]:=hm;exact%[o,es,ep,kk _ o (λhb=>(hf _ hb).2.1 rfl) ho|r]
   .refine(I.hok b v e).stay (λc' v' hc' q=>kk c' v' ?_ q) (λ_ q=>q) λ_ _ q=>q
    rcases hc' with q'|q'
    .exact q'▸nit b v e
    .exact nit c' _ q'
  have Hn:H ⇑s=none:=I.fresh;have I2:Inv X pins σ (upd H ⇑s (.tup [.str ⟨#[c1]⟩,.str ⟨#[c2]⟩])) {s with heap:=h'',toks:=tk}:=by
   have nf:⇑s∉X.fs:=I.nofs (Zi _);refine%[turn1.ok,turn1.os,turn1.bare,?_,turn1.loc,turn1.cell,?_,?_,?_,?_|turn1.len]
   .refine%[turn1.base.keep,turn1.base.slot,λb o e n hx=>?_,turn1.base.there,λb xs e=>?_,λb o v e=>?_|λb ps e=>?_]
    .rw[am ((λb o e=>Zt (Zg (Zv e) I.sz)) b o e)];exact turn1.base.free b o e n hx
    .rw[am (ay (turn1.base.tups b xs e) Hn)];exact turn1.base.tups b xs e
    .rw[am (ay (turn1.base.frzs b o v e) Hn)];exact turn1.base.frzs b o v e
    .have%[m|q]:=turn1.base.tbls b ps e;exact%[m|(am (ay q Hn))▸q]
   .rw[am (Zt I.lt)];exact turn1.free
   .intro x' c' e;have%[v'|q]:=I.cell x' c' e;rw[am (Zt q.lt)];exact turn1.freeC x' c' e
   .intro p hp;have%[e,n|r]:=turn1.pin p hp;refine%[e,?_|r];rw[am (Zt (Zv (I.pin p hp).1))];exact n
   .intro b v e;by_cases hb:b=⇑s
    .subst hb;rw[aa]at e;cases e;exact%[by show 2<=sizeLine;decide,[.str _ u1,.str _ u2],.cons %[_|rfl] (.cons %[_|rfl] .nil),_,((sb.2 _ (X6 (Zv hz))).trans a5),rfl,_|rfl]
    .rw[am hb]at e;refine(turn1.hok b v e).stay (λ_ _ _ q=>q) (λc' q=>?_) λc' xs q=>?_
     .rw[am (ay q Hn)];exact q
     .rw[am (ay q Hn)];exact q
  refine%[.ref ⇑s,_,I2,rfl,%[c1,c2,_,e1,e2,Hn,rfl|rfl],%[hz'',(sb.2 _ D.TIz).trans (hk _ _ D.TIz D.TITO D.TIi1 D.TIi2 hTI),%[_,_|(sb.2 _ D.TOz).trans a2],?_|?_]|λb hb=>?_]
  .have%[o,e|r]:=a3;exact%[o,(sb.2 _ D.i1z).trans e|r]
  .have%[o,e|r]:=a4;exact%[o,(sb.2 _ D.i2z).trans e|r]
  .have:b<⇑s:=by
    simp only[Yz,Xb,or_false]at hb;have%[o1,q1|_]:=h1;have%[o2,q2|_]:=h2;rcases hb with rfl|rfl|rfl|rfl|rfl
    .exact Zv hz
    .exact Zv hTI
    .exact Zv hTO
    .exact Zv q1
    .exact Zv q2
   rw[am (Zt this)];exact(hf b hb).1
 done:=by
  intro X hP hw hK hc i pins s σ H E I hf st hg;have%[hz,hTI,%[a,c|hTO],h1|h2]:=st;obtain⟨g1,g2,g3⟩:i<=x.cps.size/\i<=y.cps.size/\(i=x.cps.size\/i=y.cps.size):=hg;have hT:s.TypeIs (.ref z) "zip":=%[_,hz|rfl]
  have hh:=I.ok.hd hc;refine Z2 (wpAny_attempt (wpAny_callSpecial?_slot hT F.slot_zip_next (wpAny_call_entry F.slot_zip_next hT F.entry_zip_next
   (AD (jj _ _ x t i1 _ hh) (jj _ _ y u i2 _ hh) D (λb hb=>(show b=i1 by simpa using hb)▸%[D.i1z,Ne.symm D.TOi1|D.i12]) (λb hb=>(show b=i2 by simpa using hb)▸%[D.i2z,Ne.symm D.TOi2|Ne.symm D.i12]) hz hTI hTO h1 h2 g1 g2 g3 λh' e tk hk he=>?_) (F.args_zip_next_1 _))))
  have%[o,ho|hco]:=he;refine Z2 (wpAny_isInstance %[o,ho|hco] isSubtype_stop (Z3 %[rfl|?_]));have nit:∀b v,H b=some v->b∉[z,TI,TO,i1,i2]:=λb v e hb=>by rw[(hf b hb).1]at e;cases e
  have kk:∀b o,b∉[z,TI,TO,i1,i2]->s.heap.get? b=some o->h'.get? b=some o:=λb o hb e=>by
   simp only[Yz,Xb,or_false,not_or]at hb;exact hk b o hb.1 hb.2.2.1 hb.2.2.2.1 hb.2.2.2.2 e
  refine I.step (λb hb=>%[(hf b hb).2.2.2.1,(hf b hb).2.1,(hf b hb).2.2.2.2.1|(hf b hb).2.2.2.2.2]) (λb o _ _ hc e _=>kk b o hc e) (λb o _ _ hc e _=>%[o.slots|kk b o hc e]) (λ_ _ _ _ n=>n)
   (λb o hc e=>%[o|kk b o hc e]) (λ_ _ e=>e) (λ_ _ _ e=>e) (λb ps e=>%[#[]|by rw[e];simp]) (λm hm=>?_) (λb v e=>?_) I.bare
  .have%[o',es,ep,ho'|r]:=hm;exact%[o',es,ep,kk _ o' (λhb=>(hf _ hb).2.1 rfl) ho'|r]
  .refine(I.hok b v e).stay (λc' v' hc' q=>kk c' v' ?_ q) (λ_ q=>q) λ_ _ q=>q
   rcases hc' with q'|q'
   .exact q'▸nit b v e
   .exact nit c' _ q'
 self:=λ_ _ _ _ _ st h=>wpAny_pyIter_zip st.1 h
abbrev be:Expr->Bool
 | .Starred _ _=>true
 | _=>false
def aD(h:be e=false):starEach (e::a) env=(false,eval e env)::starEach a env:=by
 cases e<;> first|rfl|cases(show true=false from h)
def dM(h:be e=false):assignEach (e::a) env=(false,assign e env)::assignEach a env:=by
 cases e<;> first|rfl|cases(show true=false from h)
def gR:∀{a:List Expr},a.any be=false->(backTo pos (starEach a env)).any (·.1)=false
 |[],_=>rfl
 | e::a,h=>by
   rw[Zy,Xc]at h;rw[aD h.1];have:=gR (pos:=pos) (env:=env) h.2;cases a with
   | nil=>rfl
   | cons c b=>
     simp only[backTo]at this ⊢;simpa using this
def rN:∀{a:List Expr},a.any be=false->(backTo pos (starEach a env)).all (λx=>!x.1)=true
 |[],_=>rfl
 | e::a,h=>by
   rw[Zy,Xc]at h;rw[aD h.1];have:=rN (pos:=pos) (env:=env) h.2;cases a with
   | nil=>rfl
   | cons c b=>
     simp only[backTo]at this ⊢;simpa using this
def jQ:∀{a:List Expr},a.any be=false->(assignEach a env).length=a.length/\(assignEach a env).findIdx? (·.1)=none
 |[],_=>%[rfl|rfl]
 | e::a,h=>by
   rw[Zy,Xc]at h;rw[dM h.1];have b:=jQ (env:=env) h.2;refine%[by rw[Zr,Zr,b.1]|?_];rw[List.findIdx?_cons,b.2];rfl
abbrev gT:Expr->Bool
 | .ListComp _ _ _ _=>true
 | .SetComp _ _ _ _=>true
 | .DictComp _ _ _ _ _=>true
 | _=>false
def kf(h:gT e=false):swapsWith e t l env=pure false:=by
 cases e<;> first|rfl|cases(show true=false from h)
abbrev vF:Expr->Bool
 | .Tuple _ _ _=>true
 | _=>false
def vG(h:vF e=false):swappedStores [t] e env=pure none:=by
 cases e with
 | Tuple _ _ _=>cases(show true=false from h)
 | _=>cases t<;> rfl
abbrev gU:Expr->Bool
 | .Call _ _ _ _=>true
 | _=>false
def fG(h:gU o=false):attributeBase o a env w=w:=by
 cases o<;> first|rfl|cases(show true=false from h)
abbrev nF:Expr->Bool
 | .Set _ _ _=>true
 | _=>false
def lw(h:nF e=false)(x:Value):foldedSetIterable e env x=pure x:=by
 cases e<;> first|rfl|cases(show true=false from h)
structure QE (X:Cx) (e:Expr) (t:TE):Prop where
 h:PE X e t
structure QT (X:Cx) (e:Expr) (t:TT):Prop where
 h:PT X e t
structure QW (X:Cx) (e:Expr) (t:TT):Prop where
 h:PW X e t
structure QA (X:Cx) (es:List Expr) (t:TA):Prop where
 h:PA X es t
structure QS (X:Cx) (st:Stmt) (t:TS):Prop where
 h:PS X st t
structure QSs (X:Cx) (st:List Stmt) (t:TS):Prop where
 h:PSs X st t
structure QG (X:Cx) (e:Expr) (t:TG):Prop where
 h:PG X e t
structure QGs (X:Cx) (es:List Expr) (t:TGs):Prop where
 h:PGs X es t
structure QI (X:Cx) (tg iter:Expr) (wi:TI):Prop where
 h:PI X tg iter wi
structure QO (X:Cx) (e:Option Expr) (t:TO):Prop where
 h:PO X e t
structure QTs (X:Cx) (ifs:List Expr) (t:TT):Prop where
 h:PTs X ifs t
structure OpQ (X:Cx) (f:Value->Value->Sem Value) (r:R2):Prop where
 h:OpR X f r
structure cE (X:Cx) (f:Value) (r:List V->Hp->VK->Prop):Prop where
 h:cq X f r
structure MtQ (X:Cx) (id:String) (r:V->List V->Hp->VK->Prop):Prop where
 h:MtR X id r
section
variable{X:Cx}{K:ZA}{pos:Pos}
def ax{i j}:QE X (.Constant (.int i) j pos) (tC (.int i)):=⟨Ej⟩
def eBl{b j}:QE X (.Constant (.bool b) j pos) (tC (.bl b)):=⟨Gq⟩
def vH{j}:QE X (.Constant .none j pos) (tC .non):=⟨Ek⟩
def cK{x j}:QE X (.Constant (.str x) j pos) (tC (.str x)):=⟨El⟩
def vn(i:Nat)(b:X.N[i]? =some x)(c:Vis X.env.scope x)(d:(x==("__debug__":Str))=false)(a:(x==("__classdict__":Str))=false):QE X (.Name x pos) (pB i):=⟨zF b c d a⟩
def gvE(g:Gv X.mg x v)(a:Gl X x)(b:(x==("__debug__":Str))=false):QE X (.Name x pos) (tC v):=⟨DO g a b⟩
def blE(a:Gl X x)(b:X.mg x=none)(c:bootBuiltins x=some u)(r:aQ v u)(f:(x==("__name__":Str))=false)(d:(x==("__debug__":Str))=false):QE X (.Name x pos) (tC v):=
 ⟨Ca a b c r (λe=>by lia) d⟩
def aq:QA X [] x5:=⟨EM⟩
def paE(a:be e=false)(b:QE X e c)(d:QA X f t):QA X (e::f) (Ab c t):=⟨Cr b.h d.h (aD a)⟩
def calE(C:Cal X.prog X.w X.K X.mg X.base j x ps sp)(f:bX k X.A)(g:Gl X x)(a:Nat.ble j k=true)
 (b:(x==("__debug__":Str))=false) (c:(e::d).any be=false) (h:QA X (e::d) t):
 QE X (.Call (.Name x p) (e::d) [] pos) (sZ sp [] E0 t):=by
 rw[Zy,Xc]at c;exact⟨Fj C f g At h.h (Nat.le_of_ble_eq_true a) b (aD c.1) (gR c.2)⟩
def cbE{id:String}(d:cE X (.builtin id) r)(f:Gl X x)(g:X.mg x=none)(h:bootBuiltins x=some (.builtin id))(j:(x==("__name__":Str))=false)(a:(x==("__debug__":Str))=false)
 (b:(e::c).any be=false) (i:QA X (e::c) t):QE X (.Call (.Name x p) (e::c) [] pos) (tCB r t):=by
 rw[Zy,Xc]at b;exact⟨Af d.h f g h i.h (λe=>by lia) a (aD b.1) (gR b.2)⟩
def ctE(d:cE X (.type T) r)(f:Gl X x)(g:X.mg x=none)(h:bootBuiltins x=some (.type T))(j:(x==("__name__":Str))=false)(a:(x==("__debug__":Str))=false)
 (b:(e::c).any be=false) (i:QA X (e::c) t):QE X (.Call (.Name x p) (e::c) [] pos) (tCB r t):=by
 rw[Zy,Xc]at b;exact⟨x8 d.h f g h i.h (λe=>by lia) a (aD b.1) (gR b.2)⟩
def bmE{T id:String}(h:X.K=K)(m:PlainAttrs T)(slot:Slot T name id)(i:typeOf (.builtin id)=pure (.type "method_descriptor"))(n:MtQ X id r)
 (b:gU o=false) (a:(e::g).any be=false) (j:Nat.blt (e::g).length 30=true) (c:(d.endLine==f.line)=true) (p:QE X o q) (s:QA X (e::g) t):
 QE X (.Call (.Attribute o name d) (e::g) [] f) (tBM K T r q t):=by
 have l:=a;rw[Zy,Xc]at l;refine⟨AB h m slot i n.h p.h s.h (fG b) ?_ c (aD l.1) (gR l.2)⟩;rw[rN a];have:decide ((e::g).length+([]:List Keyword).length+(if([]:List Keyword).isEmpty then 0 else 1)<30)=true:=Zf ((Nat.blt_eq.mp j));rw[this];rfl
def GN{T id:String}(h:X.K=K)(f:PlainAttrs T)(slot:Slot T name id)(e:typeOf (.builtin id)=pure (.type "method_descriptor"))(g:MtQ X id r)
 (a:gU o=false) (b:(c.endLine==d.line)=true) (i:QE X o j):QE X (.Call (.Attribute o name c) [] [] d) (CC K T r j):=⟨C0 h f slot e g.h i.h (fG a) b⟩
def nG(b:Gl X "range")(c:X.mg "range"=none)(d:be a=false)(e:QA X [a] f):QI X g (.Call (.Name "range" p) [a] [] pos) (zT f):=⟨xR b c e.h (aD d)⟩
def cr(h:X.K=K)(a:QE X l b):QI X c l (CY K b):=⟨CZ h a.h⟩
section
variable{a b c:Expr}{ta tb tc:TE}{op op':CmpOp}{r r':R2}
def vI(e:OpQ X (compareOp op) r)(d:OpQ X (compareOp op') r')(f:lastMarks [op,op'] [b,c]=false)(g:QE X a ta)(h:QE X b tb)(i:QE X c tc):QE X (.Compare a [op,op'] [b,c] pos) (vg r r' ta tb tc):=⟨z0 e.h d.h g.h h.h i.h f⟩
def jw(d:OpQ X (compareOp op) r)(e:behindInMarks op b=false)(f:QE X a ta)(g:QE X b tb):QE X (.Compare a [op] [b] pos) (tOp r ta tb):=⟨Ck d.h f.h g.h e⟩
def bK(d:OpQ X (compareOp op) r)(e:behindInMarks op b=false)(f:QE X a ta)(g:QE X b tb):QT X (.Compare a [op] [b] pos) (zZ (tOp r ta tb)):=⟨Cl d.h f.h g.h e⟩
def opE{op:Operator}(d:OpQ X (binaryOp op) r)(e:QE X a ta)(f:QE X b tb):QE X (.BinOp a op b pos) (tOp r ta tb):=⟨Gy d.h e.h f.h⟩
def rO(d:QE X a ta):QE X (.UnaryOp .USub a pos) (tUn (rU λi=> .int (-i)) ta):=⟨Gz ED d.h⟩
def ixE(h:X.K=K)(d:j9 b)(e:QE X a ta)(f:QE X b tb):QE X (.Subscript a b pos) (tOp (rIx K) ta tb):=⟨wL (ixK h) e.h f.h d⟩
def slE{lo hi:Option Expr}(h:X.K=K)(d:QE X a ta)(e:QO X lo f)(g:QO X hi i):QE X (.Subscript a (.Slice lo hi none j) pos) (tSl (CW K) ta f i):=⟨Ai (slK h) d.h e.h g.h⟩
def noO:QO X none rC:=⟨Cu⟩
def kg(h:QE X a ta):QO X (some a) (Ah ta):=⟨Cv h.h⟩
def pF{op}(h:QE X a ta):QE X (.BoolOp op [a] pos) ta:=⟨Es h.h⟩
def mJ{rest:List Expr}(d:QE X a ta)(e:QE X (.BoolOp .And (b::rest) pos) tb):QE X (.BoolOp .And (a::b::rest) pos) (zH ta tb):=⟨Et d.h e.h⟩
def orV{rest:List Expr}(d:QE X a ta)(e:QE X (.BoolOp .Or (b::rest) pos) tb):QE X (.BoolOp .Or (a::b::rest) pos) (Er ta tb):=⟨Gw d.h e.h⟩
def cC(h:QA X d t):QE X (.List d pos) (EO t):=⟨ER h.h⟩
def gW{d}(h:QA X e t):QE X (.Tuple e d pos) (EN t):=⟨EQ h.h⟩
def gi:QE X (.Dict [] [] pos) vB:=⟨Aq⟩
variable{tA tB':TT}{rest:List Expr}
def jR(d:QT X a tA):QT X (.UnaryOp .Not a pos) (Em tA):=⟨Ep d.h⟩
def jD(d:QT X a tA):QW X (.BoolOp .And [a] pos) tA:=⟨Cc d.h⟩
def mK(d:QT X a tA):QW X (.BoolOp .Or [a] pos) tA:=⟨En d.h⟩
def mL(d:QT X a tA)(e:QW X (.BoolOp .And (b::rest) pos) tB'):QW X (.BoolOp .And (a::b::rest) pos) (Cb tA tB'):=⟨Eo d.h e.h⟩
def orW(d:QT X a tA)(e:QW X (.BoolOp .Or (b::rest) pos) tB'):QW X (.BoolOp .Or (a::b::rest) pos) (tOr tA tB'):=⟨Gu d.h e.h⟩
def wT(h:QW X a tA):QT X a tA:=⟨PW.pt h.h⟩
def gu(h:X.K=K)(f:∀d,isTrue a X.env d=(do let v<-d;standAt a.pos;holding [v] (truthy v)))(g:QE X a ta):QT X a (λi H Q=>ta i H λx e=>∃k,z5 K x e k/\Q k e):=⟨yp h g.h f⟩
def jS:QTs X [] Au:=⟨CM⟩
def qr(h:QT X c tA):QTs X [c] tA:=⟨CO h.h⟩
end
def fH(S:aC X c e f)(l:X.calm=true)(m:nF iter=false)(hi:QI X j iter n)
 (o:∀a b d,QG (bO X c e a b d) j g) (p:∀a b d,QTs (bO X c e a b d) h q) (r:∀a b d,QE (bO X c e a b d) i s):
 QE X (.ListComp i [%[j,iter,h|0]] c pos) (qk n e.length f g q s):=⟨CQ S l hi.h (λa b d=>(o a b d).h) (λa b d=>(p a b d).h) (λa b d=>(r a b d).h) (lw m)⟩
def bg:QSs X [] zI:=⟨Cd⟩
def ak{st:Stmt}{rest:List Stmt}(a:QS X st t)(b:QSs X rest u):QSs X (st::rest) (bd t u):=⟨zJ a.h b.h⟩
def au{st:Stmt}(a:QS X st t):QSs X [st] t:=⟨Ce a.h⟩
def ifS(d:QT X c e)(f:QSs X a t)(g:QSs X b u):QS X (.If c a b pos) (lh e t u):=⟨Gx d.h f.h g.h⟩
def aN(a:QE X e b):QS X (.Return (some e) pos) (j6 b):=⟨Eu a.h⟩
def gX{st:Stmt}:QS X st zK:=⟨zL⟩
def cG(c:PassesOwn (model X.prog X.w) X.A X.env X.xe)(d:X.calm=true)(e:nF iter=false)(hi:QI X b iter f)(h:QG X b g)(i:QSs X a j):
 QS X (.For b iter a [] pos) (zU f g j):=⟨Ey c d hi.h h.h i.h (lw e)⟩
def tz(i:Nat)(b:X.N.Nodup)(hi:X.N[i]? =some x)(c:Loc X.env.scope x)(d:X.fn x=true\/X.env.scope.names.lookup x=some .local)(f:gT e=false)(g:QE X e h):
 QS X (.Assign [.Name x a] e pos) (pD h (jB i)):=⟨zP b hi c g.h (kf f) d⟩
def bF(a:gT e=false)(b:QE X e c):QS X (.Expr e pos) (jA c):=⟨Cf b.h (kf a)⟩
def C1(c:gT e=false)(hw:vF e=false)(a:be b=false)(d:QE X e f)(h:QG X b g):QS X (.Assign [b] e pos) (pD f g):=
 ⟨Ex d.h h.h (kf c) (vG hw) (by rw[dM a];rfl)⟩
def tD(i:Nat)(a:X.N.Nodup)(hi:X.N[i]? =some x)(b:Loc X.env.scope x)(c:X.fn x=true\/X.env.scope.names.lookup x=some .local):QG X (.Name x pos) (jB i):=⟨Cg a hi b c⟩
def dh:QGs X [] Ev:=⟨Ch⟩
def gsE(a:be e=false)(b:QG X e t)(c:QGs X d u):QGs X (e::d) (zM t u):=⟨zN b.h c.h (by rw[dM a];rfl)⟩
def gA(c:X.K=K)(d:X.calm=true)(b:a.any be=false)(h:QGs X a t):QG X (.Tuple a k pos) (zO K a.length t):=by
 subst c;exact⟨Ew d h.h (jQ b).1 (jQ b).2⟩
def c9:OpQ X (binaryOp .Add) Ay:=⟨CT⟩
def qt:OpQ X (binaryOp .Sub) (rI0 λi j=> .int (i-j)):=⟨EB⟩
def vJ:OpQ X (binaryOp .Mult) Az:=⟨CU⟩
def bB:OpQ X (binaryOp .Mod) (rI (λ_ j=>0<j) λi j=> .int (i%j)):=⟨EC⟩
def cc:OpQ X (binaryOp .FloorDiv) (rI GB λi j=> .int (i/j)):=⟨Ci⟩
def dw:OpQ X (compareOp .Eq) Fc:=⟨Fd⟩
def iB:OpQ X (compareOp .NotEq) Fe:=⟨Ff⟩
def yq:OpQ X (compareOp .Lt) (rI0 λi j=> .bl (decide (i<j))):=⟨GE⟩
def yr:OpQ X (compareOp .LtE) (rI0 λi j=> .bl (decide (i<=j))):=⟨GF⟩
def rP:OpQ X (compareOp .Gt) (rI0 λi j=> .bl (decide (j<i))):=⟨GG⟩
def GO:OpQ X (compareOp .Is) (λx y H Q=>y= .non/\Q (.bl (decide (x= .non))) H):=⟨EF⟩
def rQ:OpQ X (compareOp .IsNot) (λx y H Q=>y= .non/\Q (.bl (!decide (x= .non))) H):=⟨Cj⟩
def vK(h:X.K=K):OpQ X (compareOp .In) (CV K):=⟨Fl h⟩
def cO(h:X.K=K):cE X (.builtin "len") (λxs H Q=>∃x n,xs=[x]/\Cm K x H n/\Q (.int n) H):=⟨yj h⟩
def AF(h:X.K=K)(a:X.calm=true):cE X (.builtin "all") (λxs H Q=>∃(p:Addr) (bs:List Bool),xs=[.ref p]/\SqL K H p (bs.map V.bl)/\Q (.bl (bs.all id)) H):=⟨yk h a⟩
def DP(a:X.calm=true):cE X (.builtin "max") (λxs H Q=>∃i j,xs=[.int i,.int j]/\Q (.int (if j>i then j else i)) H):=⟨xU a⟩
def GP(a:X.calm=true):cE X (.builtin "min") (λxs H Q=>∃i j,xs=[.int i,.int j]/\Q (.int (if j<i then j else i)) H):=⟨xV a⟩
def iR(h:X.K=K):cE X (.builtin "isinstance") (λxs H Q=>∃x n t b,xs=[x,.ty n]/\jO K H x t/\kitOne K t (.type n)=some b/\Q (.bl b) H):=⟨yo h⟩
def DQ:cE X (.type "int") (λxs H Q=>(∃i,xs=[.int i]/\Q (.int i) H)\/∃k,xs=[.bl k]/\Q (.int (if k then 1 else 0)) H):=⟨xX⟩
def fS(h:X.K=K):cE X (.type "list") (λxs H Q=>∃p ys,xs=[.ref p]/\(SqL K H p ys\/SqT K H p ys)/\∀l,H l=none->Q (.ref l) (upd H l (.lst ys))):=⟨vD h⟩
def aP:MtQ X "list.append" rJ:=⟨qe⟩
def tE:MtQ X "list.extend" rK:=⟨ya⟩
def vL(h:X.K=K):MtQ X "str.join" (wO K):=⟨AA h⟩
end
open PySem PySem.Spec PyProof.Rows PySem.SeqAt
section
#version
variable{h':Heap}{tk:Nat}{fp:List Addr}
def Inv.moved(I:Inv X pins σ H s)(c:∀b∈fp,mH X pins H b)(d:∀b o,b∉fp->s.heap.get? b=some o->h'.get? b=some o):Inv X pins σ H {s with heap:=h',toks:=tk}:=by
 have f:∀b v,H b=some v->b∉fp:=λb v e a=>by rw[(c b a).1]at e;cases e
 refine I.step (λb a=>%[(c b a).2.2.2.1,(c b a).2.1,(c b a).2.2.2.2.1|(c b a).2.2.2.2.2]) (λb o _ _ g e _=>d b o g e) (λb o _ _ g e _=>%[o.slots|d b o g e]) (λ_ _ _ _ n=>n)
  (λb o g e=>%[o|d b o g e]) (λ_ _ e=>e) (λ_ _ _ e=>e) (λb ps e=>%[#[]|by rw[e];simp]) (λm l=>?_) (λb v e=>?_) I.bare
 .have%[o,p,t,u|r]:=l;exact%[o,p,t,d _ o (λa=>(c _ a).2.1 rfl) u|r]
 .refine(I.hok b v e).stay (λj w h q=>d j w ?_ q) (λ_ q=>q) λ_ _ q=>q
  rcases h with i|i
  .exact i▸f b v e
  .exact f j _ i
def Inv.stood(I:Inv X pins σ H s)(J:Inv X pins σ H {s with heap:=h',toks:=tk})(c:⇑s<=a)(new:b8 X.prog X.w (upd H a o) h' a o):Inv X pins σ (upd H a o) {s with heap:=h',toks:=tk}:=by
 have d:=I.hok.fresh c;refine%[J.ok,J.os,J.bare,?_,J.loc,J.cell,?_,?_,?_,?_|J.len]
 .refine%[J.base.keep,J.base.slot,λb o e n j=>?_,J.base.there,λb xs e=>?_,λb o v e=>?_|λb ps e=>?_]
  .rw[am ((λb o e=>Zt (Zg (Zg (Zv e) I.sz) c)) b o e)];exact J.base.free b o e n j
  .rw[am (ay (J.base.tups b xs e) d)];exact J.base.tups b xs e
  .rw[am (ay (J.base.frzs b o v e) d)];exact J.base.frzs b o v e
  .have%[m|q]:=J.base.tbls b ps e;exact%[m|(am (ay q d))▸q]
 .rw[am (Zt (Zg I.lt c))];exact J.free
 .intro g f e;have%[l|q]:=I.cell g f e;rw[am (Zt (Zg q.lt c))];exact J.freeC g f e
 .intro p h;have%[e,n|r]:=J.pin p h;refine%[e,?_|r];rw[am (Zt (Zg (Zv (I.pin p h).1) c))];exact n
 .intro b v e;by_cases i:b=a
  .subst i;rw[aa]at e;cases e;exact new
  .rw[am i]at e;refine(J.hok b v e).stay (λ_ _ _ q=>q) (λf q=>?_) λf xs q=>?_
   .rw[am (ay q d)];exact q
   .rw[am (ay q d)];exact q
end
abbrev vM:V->List V->Hp->VK->Prop:=λx vs H Q=>∃z y,x= .str z/\vs=[.str y]/\1<=y.length/\z.length+2<=sizeLine/\∀l,H l=none->Q (.ref l) (upd H l (.lst ((Txt.split z y).map V.str)))
def qu:∀ss k,aE (ss.map V.str) (strsFrom k ss)
 |[],_=> .nil
 | _::r,k=> .cons %[_|rfl] (qu r _)
def AG{X:Cx}:MtM X "str.split" vM:=by
 intro pins s m H x vs v us Q I g i h;have%[z,y,rfl,rfl,n,o|q]:=h;have%[t|rfl]:=g;have%[p,rfl|j]:=i.one;have%[u|rfl]:=j;have b:(y.length==0)=false:=by simp;lia
 have l:=split_le z y;by_cases c:(decide (z.length<y.length)||decide (Builtin.Str.strKind z<Builtin.Str.strKind y))=true
 .have e:Txt.split z y=[z]:=if_pos c;rw[e]at q;exact call_meets F.slot_str_split (typeIs_str _ _ _) F.entry_str_split (F.args_str_split_2 _ _) (meets_str_split_cannot_occur z y t u c) %[.ref _,_,I.lnew (ys:=[.str z]) (.cons %[_|rfl] .nil) (by show 1<=sizeLine;decide),rfl|q _ I.fresh]
 .have d:=Bool.eq_false_iff.mpr c;by_cases f:(Builtin.Str.occurrences z y 0 z.length (z.length+1)).isEmpty=true
  .have e:Txt.split z y=[z]:=(if_neg c).trans (if_pos f);rw[e]at q;exact call_meets F.slot_str_split (typeIs_str _ _ _) F.entry_str_split (F.args_str_split_2 _ _) (meets_str_split_not_found z y t u d b f) %[.ref _,_,I.lnew (ys:=[.str z]) (.cons %[_|rfl] .nil) (by show 1<=sizeLine;decide),rfl|q _ I.fresh]
  .have e:Txt.split z y=Builtin.Str.partsBetween z _ y.length:=(if_neg c).trans (if_neg f);have a:(Builtin.Str.partsBetween z (Builtin.Str.occurrences z y 0 z.length (z.length+1)) y.length).length<=sizeLine:=by rw[<-e];lia
   refine call_meets F.slot_str_split (typeIs_str _ _ _) F.entry_str_split (F.args_str_split_2 _ _) (meets_str_split_sep z y t u d b (Bool.eq_false_iff.mpr f) ⋯ a) ?_;rw[<-e]at a ⊢;exact%[.ref _,_,I.lnew (qu _ _) (by rw[Z6];exact a),rfl|q _ I.fresh]
def C2{X:Cx}:MtQ X "str.split" vM:=⟨AG⟩
abbrev Ite(K:ZA)(a:Addr)(xs:List V):It:=⟨λi H=>SqL K H a xs/\i<xs.length,λi H v b=>∃x T,xs[i]? =some x/\H T=none/\v= .ref T/\b=upd H T (.tup [.int i,x]),λi H=>SqL K H a xs/\xs.length<=i⟩
abbrev ESt(e c a:Addr)(i:Nat)(h:Heap):Prop:=(∃b,IsEnum h e c i b)/\h.IsListIter c a i
def yv{P:Program}{K:ZA}(e it a:Addr)(xs:List V)(hne:e≠it):nh P w K (.Tuple elts kt tp) (Ite K a xs) [e,it] e (ESt e it a) where
 mem:=by simp
 obj:=λi h st b hb=>by
  have%[%[old|he],o1,e1,_|d1]:=st;simp only[Yz,Xb,or_false]at hb;rcases hb with rfl|rfl
  .exact%[_,he|λv q=>nomatch q]
  .exact%[o1,e1|λv q=>by rw[d1]at q;cases q]
 keep:=λi h h' st k=>by
  have%[%[old|he],o1,e1|r1]:=st;exact%[%[old|k e ∅ _ he],o1,k it ∅ _ e1|r1]
 item:=by
  intro X hP hw hK hc i pins s σ H E I hf st hg;subst hP hw hK;have%[%[old|he]|hit]:=st;obtain⟨hq,hi⟩:SqL X.K H a xs/\i<xs.length:=hg;have%[its,rv,p|hz]:=I.list hq;have%[u,hu|ru]:=rv.get (i:=i) (x:=xs[i]) ∅;refine wpAny_pyNext_enum_item he hit p.isList (by simpa using hu) hne λh1 he1 hit1 ht1 hz1 hk1=>%[_,rfl|wpAny_letOwnedTupleGo_enum he1 λh2 he2 sb2=>?_]
  replace sb2:SameBut e h1 h2:=sb2;have elt:=Zv he;have kk:∀b o,b∉[e,it]->s.heap.get? b=some o->h2.get? b=some o:=λb o hb q=>by
   simp only[Yz,Xb,or_false,not_or]at hb;exact(sb2.2 b hb.1).trans (hk1 b o hb.1 hb.2 q)
  have J:Inv X pins σ H {s with heap:=h2,toks:=s.toks+1}:=I.moved hf kk;have I2:Inv X pins σ (upd H ⇑s (.tup [.int i,xs[i]])) _:=
   I.stood J (Zi _) %[by show 2<=sizeLine;decide,[.int i s.toks,u],.cons %[_|rfl] (.cons ru .nil),_,((sb2.2 _ (X6 elt)).trans ht1),rfl,_|rfl]
  refine%[.ref ⇑s,_,I2,rfl,%[xs[i],_,by simp,I.fresh,rfl|rfl],%[%[u|he2]|?_]|λb hb=>?_]
  .have%[o,q|r]:=hit1;exact%[o,(sb2.2 _ (Ne.symm hne)).trans q|r]
  .have:b<⇑s:=by
    simp only[Yz,Xb,or_false]at hb;rcases hb with rfl|rfl
    .exact elt
    .exact(by have%[o,q|_]:=hit;exact Zv q)
   rw[am (Zt this)];exact(hf b hb).1
 done:=by
  intro X hP hw hK hc i pins s σ H E I hf st hg;subst hP hw hK;have%[%[old|he]|hit]:=st;obtain⟨hq,hi⟩:SqL X.K H a xs/\xs.length<=i:=hg;have%[its,rv,p|hz]:=I.list hq;have hl:=rv.length;refine wpAny_pyNext_enum_end (I.ok.hd hc) he hit p.isList (by simp;lia) λh1 xb=>%[rfl|I.moved hf λb o hb q=>?_]
  simp only[Yz,Xb,or_false,not_or]at hb;exact xb b o hb.2 q
 self:=λA i s Q E st h=>by
  have%[%[old|he]|hit]:=st;exact wpAny_pyIter_enum he h
abbrev DR(K:ZA)(c:TA):TI:=λd H R=>c d H λvs b=>∃a xs,vs=[.ref a]/\SqL K b a xs/\R (Ite K a xs) b
section
variable{X:Cx}{K:ZA}{pos:Pos}
def wP(m:X.K=K)(n:Gl X "enumerate")(o:X.mg "enumerate"=none)(r:be a=false)(t:QA X [a] v):
 QI X (.Tuple g J L) (.Call (.Name "enumerate" p) [a] [] pos) (DR K v):=by
 subst m
 constructor
 intro pins s w H R I h;refine Call_ (jN I n o boot_enumerate (PyProof.Rows.callWith_type1 (thP (t.h pos pins s w H _ I h) λus d vs y c z A=>?_) (aD r) rfl));have%[l,xs,e,B|q]:=A;subst e;have%[u,rfl|C]:=dg z;cases C;have%[its,M,p|N]:=c.list B;refine call_enumerate_list p.isList λO i f E G=>wpAny_pyIter_enum i %[⇑d+1,[⇑d+1,⇑d],ESt _ ⇑d l,Ite X.K l xs,y,rfl,(c.kept G),yv _ _ _ _ (Nat.succ_ne_self _),%[%[_|i]|f],λb j=>?_|q]
 simp only[Yz,Xb,or_false]at j;rcases j with rfl|rfl
 .exact c.fpOk (Yj _) (c.hok.fresh (Yj _))
 .exact c.fpOk (Zi _) (c.hok.fresh (Zi _))
end
section
variable(h:Heap)(x y:Str)(t u:Tok)
noncomputable abbrev zs1:Heap:=h.push {cls:= .type (strIterType x),data:= .fields #[.str x t,.int 0 0]}
noncomputable abbrev zs2:Heap:=(zs1 h x t).push {cls:= .type (strIterType y),data:= .fields #[.str y u,.int 0 0]}
noncomputable abbrev zs3:Heap:=(zs2 h x y t u).push {cls:= .type "tuple",data:= .seq #[.ref h.objs.size,.ref (zs1 h x t).objs.size]}
noncomputable abbrev zs4:Heap:=(zs3 h x y t u).push {cls:= .type "tuple",data:= .seq #[.none,.none]}
noncomputable abbrev zs5:Heap:=(zs4 h x y t u).push {cls:= .type "zip",data:= .fields #[.none,.bool false,.bool false,.ref (zs2 h x y t u).objs.size,.ref (zs3 h x y t u).objs.size]}
end
def mM(x y:Str)(t u:Tok):
 Meets (Builtin.«zip.__new__» %[[.type "zip",.str x t,.str y u]|[]]) (λ_ R s=>R (.ok (.ret (.ref (zs4 s.heap x y t u).objs.size))) {s with heap:=zs5 s.heap x y t u}):=
 .of_wp λprog w A R s b=>by
  have%[c,g,d,tk|os]:=s;have a:=PySem.sub_zip
  wp_walk using wpAny_pyIter_strU (x:=x) (t:=t),wpAny_pyIter_strU (x:=y) (t:=u)
  exact%[_,rfl|b]
section
#where
def nH
 (h:∀h',IsZip h' (⇑s+4) (⇑s+2) (⇑s+3) .none->IsPair h' (⇑s+2) (.ref ⇑s) (.ref (⇑s+1))->IsPair h' (⇑s+3) .none .none->
  h'.IsStrIter ⇑s (strIterType x) x t 0->h'.IsStrIter (⇑s+1) (strIterType y) y u 0->(∀c o,s.heap.get? c=some o->h'.get? c=some o)->Q (.ref (⇑s+4)) {s with heap:=h'}):
 ↥A (call (.type "zip") [.str x t,.str y u]) Q E s:=by
 refine callType_new F.called_zip (by decide) (F.typeCall_zip_2 _ _) (F.newCall_zip_2 _ _) (λobj=>F.args_object_init_3 obj _ _) F.entry_zip_new (mM x y t u) ?_;have n1:(zs1 s.heap x t).objs.size=⇑s+1:=Zq ..;have a:(zs2 s.heap x y t u).objs.size=⇑s+2:=by rw[Zq,n1]
 have b:(zs3 s.heap x y t u).objs.size=⇑s+3:=by rw[Zq,a]
 have e:(zs4 s.heap x y t u).objs.size=⇑s+4:=by rw[Zq,b]
 have f:∀c o,(zs4 s.heap x y t u).get? c=some o->(zs5 s.heap x y t u).get? c=some o:=λ_ _ q=>Z7 _ q
 have g:∀c o,(zs3 s.heap x y t u).get? c=some o->(zs5 s.heap x y t u).get? c=some o:=λc o q=>f c o (Z7 _ q)
 have i:∀c o,(zs2 s.heap x y t u).get? c=some o->(zs5 s.heap x y t u).get? c=some o:=λc o q=>g c o (Z7 _ q)
 have k2:∀c o,(zs1 s.heap x t).get? c=some o->(zs5 s.heap x y t u).get? c=some o:=λc o q=>i c o (Z7 _ q)
 have k1:∀c o,s.heap.get? c=some o->(zs5 s.heap x y t u).get? c=some o:=λc o q=>k2 c o (Z7 _ q)
 have d:(zs5 s.heap x y t u).get? (zs4 s.heap x y t u).objs.size=some _:=Zj _ rfl;have j:(zs5 s.heap x y t u).get? (zs3 s.heap x y t u).objs.size=some _:=f _ _ (Zj _ rfl);have l:(zs5 s.heap x y t u).get? (zs2 s.heap x y t u).objs.size=some _:=g _ _ (Zj _ rfl);have m:=i _ _ (Zj _ rfl);show _/\_;rw[a,b,e]at d;rw[n1,a]at l;rw[b]at j;rw[n1]at m;rw[e];exact%[%[_,d|rfl]|h _ d l j %[_,(k2 _ _ (Zj _ rfl)),rfl|rfl] %[_,m,rfl|rfl] k1]
end
abbrev DS(a:TA):TI:=λb H R=>a b H λvs c=>∃x y,vs=[.str x,.str y]/\R (Itz x y) c
section
variable{X:Cx}{K:ZA}{pos:Pos}
def DT(v:Gl X "zip")(w:X.mg "zip"=none)(z:be a=false)(f:be b=false)(A:QA X [a,b] B):
 QI X (.Tuple n M N) (.Call (.Name "zip" p) [a,b] [] pos) (DS B):=by
 constructor
 intro pins s C H R I h;refine Call_ (jN I v w boot_zip (PyProof.Rows.callWith_type1 (thP (A.h pos pins s C H _ I h) λus c vs E g G J=>?_) (aD z) (by rw[aD f];rfl)));have%[x,y,e|q]:=J;subst e;have%[O,Q,rfl,%[t|rfl],u|rfl]:=j7 G;refine nH λT o l m hi1 hi2 L=>wpAny_pyIter_zip o ?_
 have ne:∀i j,i≠j->⇑c+i≠⇑c+j:=λi j h e=>h (Nat.add_left_cancel e)
 refine%[⇑c+4,[⇑c+4,⇑c+2,⇑c+3,⇑c+0,⇑c+1],_,Itz x y,E,rfl,(g.kept L),
  AE _ _ _ _ _ x y t u %[ne 2 4 (by decide),ne 3 4 (by decide),ne 0 4 (by decide),ne 1 4 (by decide),ne 2 3 (by decide),ne 2 0 (by decide),ne 2 1 (by decide),ne 3 0 (by decide),ne 3 1 (by decide)|ne 0 1 (by decide)],
  %[o,l,%[_,_|m],hi1|hi2],λb r=>?_|q]
 have d:⇑c<=b:=by
  simp only[Yz,Xb,or_false]at r;rcases r with rfl|rfl|rfl|rfl|rfl<;> exact le_add_right _ _
 exact g.fpOk d (g.hok.fresh d)
end
inductive D where
 | non|bl (b:Bool)|int (i:Int)|str (x:Str)|lst (ds:List D)|tup (ds:List D)
section
variable{K:ZA}{H H':Hp}
def ah.seqT(e:ah H H')(h:SqT K H a xs):SqT K H' a xs:=by
 rcases h with(h|⟨o,h⟩)|h
 .exact .inl (.inl (e _ _ h))
 .exact .inl (.inr %[o|e _ _ h])
 .exact .inr h
end
section
#version
end
def vN{X:Cx}(G:X.N.Nodup)(t:X.N[i]? =some x)(J:Loc X.env.scope x)(L:X.fn x=true\/X.env.scope.names.lookup x=some .local)
 (u:swapsWith (.ListComp l [%[w,iter,p|0]] a pos) (some (.Name x A)) f.line X.env=pure true) (S:aC X a r y) (M:X.calm=true) (N:∀x,foldedSetIterable iter X.env x=pure x) (hi:PI X w iter O)
 (Q:∀c d j,PG (bO X a r c d j) w g) (T:∀c d j,PTs (bO X a r c d j) p U) (Y:∀c d j,PE (bO X a r c d j) l te):
 PS X (.Assign [.Name x A] (.ListComp l [%[w,iter,p|0]] a pos) f) (pD (qk O r.length y g U te) (jB i)):=by
 intro pins s σ H D I h;refine Z2 (wpAny_standAt ?_);show wpAny _ _ (swapsWith (.ListComp l _ a pos) (some (.Name x A)) f.line X.env>>= _) _ _ _;rw[u];refine Z2 (Z3 (Z2 (Z2 (qo S M hi Q T Y N I h λD' C H5 s6 fl m hn j k q=>?_))));have%[o,es,ep,B,hd|hr]:=id hn;have I7:=(k s6.heap (SameBut.refl _ _)).pinned (λb n=>(Xt n)▸j) λb n=>by
  rw[Xt n];exact%[o,B|λv z=>by lia]
 refine wpAny_assign_Name (ng I7 G t J (v:= .ref D') rfl (λs8 E=>%[m,%[o,es,ep,((E.pin _ (Yy _ (Yy _ (eU (mem_singleton.mpr rfl) B)))).1),hd|hr]|λh' sb=>Z3 (Z3 %[_,H5,(E.unpinned).moved (λb n=>(Xt n)▸j) λb o' n e=>(sb.2 b (λz=>n (mem_singleton.mpr z))).trans e|q])]) L)
def yw(h:(env.blockKind== .function&&env.kindOf x==some .local&&b.line==pos.line&&!(a.names.any λ(n,k)=>n==x&&(k== .local||k== .cell)))=true):
 swapsWith (.ListComp c gens a pos) (some (.Name x b)) l env=pure true:=by
 show(pure (env.blockKind== .function&&env.kindOf x==some _&&b.line==pos.line&&!(a.names.any _)))=pure true;rw[h]
def eX{X:Cx}(i:Nat)(q:X.N.Nodup)(f:X.N[i]? =some x)(r:Loc X.env.scope x)(s:X.fn x=true\/X.env.scope.names.lookup x=some .local)
 (h:(X.env.blockKind== .function&&X.env.kindOf x==some .local&&t.line==pos.line&&!(c.names.any λ(n,k)=>n==x&&(k== .local||k== .cell)))=true) (S:aC X c e j) (u:X.calm=true) (v:nF iter=false) (hi:QI X o iter w)
 (y:∀a b d,QG (bO X c e a b d) o g) (z:∀a b d,QTs (bO X c e a b d) l A) (B:∀a b d,QE (bO X c e a b d) m C):
 QS X (.Assign [.Name x t] (.ListComp m [%[o,iter,l|0]] c pos) p) (pD (qk w e.length j g A C) (jB i)):=
 ⟨vN q f r s (yw h) S u (lw v) hi.h (λa b d=>(y a b d).h) (λa b d=>(z a b d).h) (λa b d=>(B a b d).h)⟩
section
#version
end
section
variable{X:Cx}{K:ZA}
end
def bP:Slot "set_iterator" "__next__" "set_iterator.__next__":=
 .of (owner:="set_iterator") (n:="__next__") (by rw[typeLookup_type,builtinLookup_eq_fast];kernel_rfl) (by decide +kernel) (by decide +kernel) (by decide +kernel) (by first|exact .inl (by decide +kernel)|exact .inr ∅) (by kernel_rfl)
def gB:entryFor table "set_iterator.__next__"=some Builtin.«set_iterator.__next__»:=entryFor_of_tree (by kernel_rfl)
def iC(a:Value):argsOk "set_iterator.__next__" %[[a]|[]]:=by kernel_rfl
def pG:entryFor table "set.__iter__"=some Builtin.«frozenset.__iter__»:=entryFor_alias (id':="frozenset.__iter__") (by kernel_rfl) rfl (by decide +kernel) (by kernel_rfl)
def pH(t:SetTable)(n:Nat):(t.orStandIn n).led=t.led:=by unfold SetTable.orStandIn;split<;> rfl
def vO(t:SetTable)(a:Array _)(h:Int)(x:Value):(layNew t a h x).2.1.led=t.led:=by
 unfold layNew;cases t.freeSlot h with
 | none=>rfl
 | some p=>
   exact pH _ _
def rR(t:SetTable)(c:Array _)(n:Nat):(relayAll t c n).2.1.led=t.led:=by
 unfold relayAll;cases a:t.relaid _ n with
 | none=>rfl
 | some p=>
   have%[t'|d]:=p;simp only
   split
   .simp only[SetTable.relaid,SetTable.laid]at a;cases b:SetTable.layClean _ _ with
    | none=>rw[b]at a;cases a
    | some f=>rw[b]at a;injection a with a;injection a with e g;rw[<-e]
   .rfl
def nJ(t:SetTable)(c:Array _)(n:Nat)(d:t.plain=false):(relayAll t c n).2.1.plain=false:=by
 unfold relayAll;cases a:t.relaid _ n with
 | none=>rfl
 | some p=>
   have%[t'|e]:=p;simp only
   split
   .simp only[SetTable.relaid,SetTable.laid]at a;cases b:SetTable.layClean _ _ with
    | none=>rw[b]at a;cases a
    | some g=>rw[b]at a;injection a with a;injection a with f h;exact f▸d
   .rfl
abbrev aS(w:World):Bool:=w.params.followText "set-order"
abbrev bj(w:World)(a:Addr)(ks:ZB)(h:Heap):Prop:=
 ∃o b c t ss,h.get? a=some o/\o.ExactSet/\o.data= .set b c t/\StrsAre (b.toList.map (·.2)) ss/\ss.Perm ks/\ks.Nodup/\(∀e∈b.toList,∃z u,e=(hashStr w z,.str z u))/\b.size<scanBound/\t.fits b.size=true/\(b.size≠0->t.plain=false)/\t.led=!aS w
def qv(h:∀e∈l,∃z u,e=(hashStr w z,.str z u)):ElemsOf (aM prog w) l:=λe a=>by
 have%[z,u|rfl]:=h e a;exact%[%[Sum.inr z,dJ z u|rfl]|rfl]
def d9:∀{vs:ZF} {ss:ZB} {z:Str},StrsAre vs ss->((∃u,Value.str z u∈vs)↔z∈ss)
 | _,_,z,.nil=>by simp
 | _,_,z,.cons x t h=>by
   have b:=d9 (z:=z) h
   constructor
   .rintro⟨u,a⟩;rcases mem_cons.mp a with e|e
    .injection e with c _;exact c▸Zm
    .exact Zk _ (b.mp %[u|e])
   .intro d;rcases mem_cons.mp d with e|e
    .exact e▸%[t|Zm]
    .have%[u|a]:=b.mpr e;exact%[u|Zk _ a]
def iS:∀{vs ws:ZF} {ss ts:ZB},StrsAre vs ss->StrsAre ws ts->StrsAre (vs++ws) (ss++ts)
 | _,_,_,_,.nil,h=>h
 | _,_,_,_,.cons x t h,h'=> .cons x t (iS h h')
def bo:∀{vs:ZF} {ss:ZB},StrsAre vs ss->vs.length=ss.length
 | _,_,.nil=>rfl
 | _,_,.cons x t h=>by rw[Zr,Zr,bo h]
def ck(h:StrsAre vs ss)(p:ws.Perm vs):∃ts,StrsAre ws ts/\ts.Perm ss:=by
 refine%[ws.map strOf,strsAre_map ws λv a=>h.all v (p.mem_iff.mp a)|?_];have:=p.map strOf;rwa[h.strs]at this
section
#where
variable{a:Addr}
def bj.stored{h:Heap}{o:Obj}{i b:Array (Int×Value)}{t t':SetTable}(j:h.get? a=some o)(c:o.ExactSet)(d:o.data= .set i f t)(l:StrsAre (b.toList.map (·.2)) ss)(m:ss.Perm ks)(n:ks.Nodup)
 (p:∀e∈b.toList,∃z u,e=(hashStr w z,.str z u)) (r:b.size<scanBound) (v:t'.fits b.size=true) (y:t'.plain=false) (B:t'.led=!aS w):
 (h.update a (Obj.putSet b t')).get? a=some {o with data:= .set b (f+1) t'}/\bj w a ks (h.update a (Obj.putSet b t')):=by
 have g:=by
  have q:=get?_update_self (Obj.putSet b t') j (by rw[putSet_of b t' d];rfl);rwa[putSet_of b t' d]at q
 exact%[g,_,b,f+1,t',ss,g,c,rfl,l,m,n,p,r,v,λ_=>y|B]
def tF{g:Bool->Sem Unit}(N:∀(b:Bool) (h:Shared) (q:Unit->Shared->Prop),q () h->↥A (g b) q E h){m:Bool}{R:Option Bool->Shared->Prop}(r:s.heap.get? a=some o)(i:o.ExactSet)(v:o.data= .set es ep t)
 (y:StrsAre (c.toList.map (·.2)) ss) (B:ss.Perm ks) (C:ks.Nodup) (G:∀e∈c.toList,∃z u,e=(hashStr w z,.str z u)) (j:c.size<scanBound) (O:d.fits c.size=true) (H:d.plain=false) (I:d.led=!aS w)
 (J:∀h',SameBut a s.heap h'->bj w a ks h'->R (some true) {s with heap:=h'}):
 ↥A (do
  storeSet a c d
  if(!m&&d.tooFull)=true then do
   g (relayAll d c (SetTable.grown c.size)).2.2
   storeSet a (relayAll d c (SetTable.grown c.size)).1 (relayAll d c (SetTable.grown c.size)).2.1
   pure (some true)
  else pure (some true)) R E s:=by
 have%[g1|Q]:=bj.stored r i v y B C G j O H I;have M:=SameBut.update s.heap a (Obj.putSet c d);refine Z2 (wpAny_storeSet_of r v ?_ (fits_of_scanBound j))
 split
 .have p:=relayAll_perm d c (SetTable.grown c.size);have f:=relayAll_fits d c (SetTable.grown c.size);have l:=rR d c (SetTable.grown c.size);have pl:=nJ d c (SetTable.grown c.size) H
  generalize relayAll d c _=L at p f l pl ⊢
  have%[n,t3|gv]:=L;have z:n.size=c.size:=by rw[<-Zb,p.length_eq,Zb]
  have%[ts,T|U]:=ck y (p.map _);exact Z2 (N _ _ _ (Z2 (wpAny_storeSet_of g1 rfl (Z3 (J _ (M.trans (SameBut.update _ a _)) (bj.stored g1 i rfl T (U.trans B) C (λe Y=>G e (p.mem_iff.mp Y)) (by rw[z];exact j) f pl (l.trans I)).2)) (fits_of_scanBound (by rw[z];exact j)))))
 .exact Z3 (J _ M Q)
def kh{ks:ZB}(hS:bj w a ks s.heap)(v:ks.length+1<scanBound)
 (hQ:∀h' b,SameBut a s.heap h'->bj w a (if z∈ks then ks else ks++[z]) h'->Q b {s with heap:=h'}):↥A (setAddHashed a (.str z tk) (hashStr w z)) Q E s:=by
 have%[o,c,ep,t,ss,G,B,H,h,hp,I,l,hb,hf,ac|d]:=hS;have hn:c.size=ks.length:=by
  have q:=bo h;rw[Z6,Zb,hp.length_eq]at q;exact q
 have hE:ElemsOf (aM prog w) c.toList:=qv l;have J:(aM prog w).is (Sum.inr z) (.str z tk)=true:=dJ z tk;unfold setAddHashed setAddHashedIn;refine wpAny_holding (Z2 (wpAny_setState_of G H hf ?_));dsimp only;rw[byScan_of (knd:=aM prog w) rfl hb hE];simp only[↓reduceIte];unfold setAddByScan;refine Z2 (Z2 (wpAny_rule (Z2 (wpAny_setScan_of J G H hf hE ?_))));have M:(∃e∈c.toList,(aM prog w).is (Sum.inr z) e.2=true)↔z∈ks:=by
  rw[<-hp.mem_iff,<-d9 h]
  constructor
  .rintro⟨e,m,q⟩;have%[y,u|rfl]:=l e m;have q:jz (Sum.inr z) (Value.str y u)=true:=q;rcases aW q with⟨i,t',q1,n⟩|⟨y',t',q1,n⟩
   .cases n
   .cases q1;exact%[u|Xv ⟨_,m,by injection n with e1 _;rw[e1]⟩]
  .rintro⟨u,hu⟩;have%[e,m|q]:=Xu hu;exact%[e,m|q▸dJ z u]
 cases hr:List.findIdx? _ c.toList with
 | some j=>
   have%[hj,ae|_]:=List.findIdx?_eq_some_iff_getElem.mp hr;have hz:=M.mp %[c.toList[j],Yg hj|ae];have q:=hQ s.heap false (SameBut.refl a s.heap) ((if_pos hz)▸%[o,c,ep,t,ss,G,B,H,h,hp,I,l,hb,hf,ac|d]);exact Z3 (Z3 q)
 | none=>
   have hz:z∉ks:=λq=>by
    have%[e,m|n]:=M.mpr q;have:=List.findIdx?_eq_none_iff.mp hr e m;rw[n]at this;cases this
   rw[if_neg hz]at hQ;have N:=layNew_perm t c (hashStr w z) (.str z tk);have lf:=layNew_fits t c (hashStr w z) (.str z tk);have ll:=vO t c (hashStr w z) (.str z tk)
   generalize hL:layNew t c _ _=L at N lf ll
   have%[C,t1,aj|ai]:=L;rw[toList_push]at N;have f:∀b g Q',Q' () g->↥A (match b with|true=>rule "set.scan.the-table-gave-way"|false=>pure ()) Q' E g:=λb g Q' q=>by
    cases b
    .exact Z3 q
    .exact wpAny_rule q
   have p:∀e∈C.toList,∃z u,e=(hashStr w z,.str z u):=λe m=>by
    rcases Xs (N.mem_iff.mp m)with q|q
    .exact l e q
    .rw[Xt q];exact%[z,tk|rfl]
   have q1:StrsAre ((c.toList++[(hashStr w z,Value.str z tk)]).map (·.2)) (ss++[z]):=by
    rw[Zd];exact iS h (.cons z tk .nil)
   have%[ts,n|q3]:=ck q1 (N.map _);have O:=q3.trans (hp.append_right _);have r:=mV I hz;have ag:C.size=c.size+1:=by rw[<-Zb,N.length_eq,Z9,Zb];rfl
   have T:C.size<scanBound:=by rw[ag,hn];exact v
   have fin:∀h',SameBut a s.heap h'->bj w a _ h'->↥A _ Q E _:=λh' U Y=>Z3 (hQ h' true U Y)
   refine Z2 (f _ _ _ ?_);cases ab:t1.plain with
   | true=>
     exact Z2 (Z3 (tF f G B H n O r p T (SetTable.fits_plain_off lf) rfl (ll.trans d) λh' U Y=>fin h' U Y))
   | false=>
     exact tF f G B H n O r p T lf ab (ll.trans d) λh' U Y=>fin h' U Y
def tG(d:bj w a ks s.heap)(c:ks.length+1<scanBound)
 (e:∀h' b,SameBut a s.heap h'->bj w a (if z∈ks then ks else ks++[z]) h'->Q b {s with heap:=h',toks:=s.toks+1}):↥A (setAdd a (.str z tk)) Q E s:=by
 exact wpAny_holding (Z2 (wpAny_pyHash_str (kh d c e)))
end
abbrev mN(ks:ZB)(z:Str):ZB:=if z∈ks then ks else ks++[z]
abbrev aK(ss:ZB):ZB:=ss.foldl mN []
def AH(ks:ZB)(z:Str):(mN ks z).length<=ks.length+1:=by
 unfold mN;split
 .lia
 .exact Z9▸Zi _
def AI:y∈mN ks z↔y∈ks\/y=z:=by
 unfold mN;by_cases h:z∈ks
 .rw[if_pos h]
  simp_all
 .rw[if_neg h,Yw,X3]
def vP(h:ks.Nodup):(mN ks z).Nodup:=by
 unfold mN;by_cases a:z∈ks
 .rw[if_pos a];exact h
 .rw[if_neg a];exact mV h a
def tH:∀{ss ks:ZB} {y:Str},y∈ss.foldl mN ks↔y∈ks\/y∈ss
 |[],ks,y=>by simp
 | z::r,ks,y=>by
   rw[Y9,tH,AI,Yz]
   grind
def nK:∀{ss ks:ZB},ks.Nodup->(ss.foldl mN ks).Nodup
 |[],_,h=>h
 | z::r,ks,h=>by
   rw[Y9];exact nK (vP h)
def bx:y∈aK ss↔y∈ss:=by unfold aK;rw[tH];simp
def eY(ss:ZB):(aK ss).Nodup:=nK X9
def tJ:∀(ss ks:ZB),(ss.foldl mN ks).length<=ks.length+ss.length
 |[],ks=>by simp
 | z::r,ks=>by
   have a:=tJ r (mN ks z);have b:=AH ks z;rw[Y9,Zr]
   lia
def bj.keep(S:bj w a ks h)(k:∀o,h.get? a=some o->h'.get? a=some o):bj w a ks h':=by
 have%[o,b,c,t,ss,d|r]:=S;exact%[o,b,c,t,ss,k o d|r]
def tK(val:Nat->Str)(i:Nat):aK ((List.range (i+1)).map val)=mN (aK ((List.range i).map val)) (val i):=by
 unfold aK;rw[range_succ,Zd,List.foldl_append];rfl
section
variable{prog:Program}{w:World}{A:Around}{R:Result->Shared->Prop}{I:Addr}{fp wr:List Addr}{G:Array GenState->Array GenState->Prop}{n:Nat}{P:Nat->Value->Prop}{St:Nat->Shared->Prop}
def pI(W:WalksS prog w A.in1 I fp wr G n P St)(S:Addr)(c:S∉fp)(val:Nat->Str)(d:∀i v,P i v->∃t,v= .str (val i) t)(a:n+1<scanBound):
 ∀(k i:Nat) (s:Shared),n-i=k->i<=n->St i s->bj w S (aK ((List.range i).map val)) s.heap->
  (∀s',Moved (S::wr) G s s'->bj w S (aK ((List.range n).map val)) s'.heap->R (.ok (.ret .none)) s')->codeAny (model prog w) A (.builtin "set.update.loop" %[[.ref S,.ref I]|[]]) R s:=by
 have out:S∉wr:=λh=>c (W.sub _ h)
 have more:∀b∈wr,b∈S::wr:=λb a=>Zk _ a
 intro k
 induction k with
 | zero=>
   intro i s u hi st j fin;have e:i=n:=by lia
   subst e;refine codeAny_builtin F.entry_set_update_loop ?_;rw[Around.under_plainId F.plain_set_update_loop _];show wpAny _ A.in1 (pyNext (.ref I)>>= _) _ _ s;refine Z2 (W.done s _ _ st λf g=>?_);show wpAny _ A.in1 (ret Value.none) _ _ f;exact Z3 (fin f (g.mono more) (j.keep λo e=>g.heap S o out e))
 | succ k y=>
   intro i s u hi st j fin;have lt:i<n:=by lia
   refine codeAny_builtin F.entry_set_update_loop ?_;rw[Around.under_plainId F.plain_set_update_loop _];show wpAny _ A.in1 (pyNext (.ref I)>>= _) _ _ s;refine Z2 (W.item i s _ _ lt st λv f pv l g=>?_);have%[t|rfl]:=d i v pv;have room:(aK ((List.range i).map val)).length+1<scanBound:=by
    have q:=tJ ((List.range i).map val) [];rw[Z6,Yn]at q;unfold aK;simp only[length_nil,zero_add]at q
    lia
   refine Z2 (wpAny_holding (tG (j.keep (h':=f.heap) λo e=>g.heap S o out e) room λC b r m=>Z3 %[plainId_quiet F.plain_set_update_loop _|y (i+1) _ ⋯ lt (W.frame _ f _ _ l (Yj _) λb a o e=>?_) (by rw[tK];exact m) λz B p=>?_]))
   .rw[r.2 b (λq:b=S=>c (q▸a))];exact e
   .refine fin z (Moved.trans W.gtrans ((g.mono more).then_heap (Yj _) λb o a e=>?_) B) p;rw[r.2 b (λq:b=S=>a (q▸Zm))];exact e
end
section
#where
noncomputable abbrev aT(w:World):Obj:={cls:= .type "set",dict:=none,data:= .set #[] 0 (.fresh 0 0 (!aS w))}
def tL(a:Value)(h:Q₁ (.ref ⇑s) {s with heap:=s.heap.push (aT w)}):
 codeAny (model prog w) A (.call (.builtin "set.__new__") %[[.type "set",a]|[]]) (wants Q₁ E) s:=by
 refine codeAny_of_tree ?_;show wpAny _ A.in1 _ _ _ s;refine Z2 (wpAny_of_eq (PySem.F.newCall_set_1 a) (Z3 %[plainId_quiet PySem.F.plain_set_new _|codeAny_builtin PySem.F.entry_set_new ?_]));unfold Builtin.«set.__new__» Builtin.Frozenset.newClass;have b:=sub_set_self;have%[c,g,d,tk|os]:=s;dsimp only
 wp_walk
 refine wpAny_askSetting (Z3 ?_);dsimp only;simp only[newObj];exact Z2 (wpAny_alloc (Z3 (Z3 h)))
def bj.empty(e:h.get? a=some (aT w)):bj w a [] h:=
 %[_,#[],0,_,[],e,%[rfl,rfl|rfl],rfl,.nil,.nil,X9,λe b=>by simp at b,by decide,rfl,λq=>absurd rfl q|rfl]
def tM:∀{vs:ZF} {ss:ZB},StrsAre vs ss->∀(i:Nat) v,vs[i]? =some v->∃t,v= .str (ss.getD i (Str.ofString "")) t
 | _,_,.nil,i,v,h=>by simp at h
 | _,_,.cons x t a,0,v,h=>by simp at h;exact%[t|by rw[<-h];rfl]
 | _,_,.cons x t a,i+1,v,h=>by
   have%[u|e]:=tM a i v (h);exact%[u|by rw[e];rfl]
def vQ(ss:ZB):(List.range ss.length).map (λi=>ss.getD i (Str.ofString ""))=ss:=by
 apply ext_getElem
 .simp
 .intro i a b
  simp_all
def pJ(hh:A.handled=none)(hl:s.heap.IsList l a)(hi:StrsAre a.toList ss)(hb:a.size+1<scanBound)
 (hQ:∀(h':Heap) (tk:Nat),bj w ⇑s (aK ss) h'->(∀b o,s.heap.get? b=some o->h'.get? b=some o)->Q (.ref ⇑s) {s with heap:=h',toks:=tk}):
 ↥A (call (.type "set") [.ref l]) Q E s:=by
 have%[c,tl|T]:=called_set.mro;have B:=called_set.made;have U:=called_set.sub;refine wpAny_call (codeAny_of_tree ?_);show wpAny _ _ (callAny (.type "set") _) _ _ _;refine Z3 %[Code.quiet_builtin _ (by decide +kernel)|codeAny_builtin F.entry_type_call ?_];rw[Around.under_plain (weight_type_call_type "set" [.ref l] []) rfl];have ac:=called_set.notType;have ae:=called_set.canCreate;have ag:=PySem.F.typeCall_set_1 (.ref l)
 repeat any_goals first|assumption|wp_step
 refine codeAny_mono (tL (.ref l) (E:=E) (Q₁:=λobj g=>obj= .ref ⇑s/\g={s with heap:=s.heap.push (aT w)}) %[rfl|rfl]) λr g C=>?_
 cases r with
 | error e=>exact C
 | ok fl=>
   cases fl with
   | ret obj=>
     have%[rfl|rfl]:=C;have Y:(s.heap.push (aT w)).get? ⇑s=some (aT w):=Zj _ rfl;have tS:Shared.TypeIs {s with heap:=s.heap.push (aT w)} (.ref ⇑s) "set":=%[_,Y|rfl]
     have ai:=called_set.init.lookup;have aj:=called_set.init.bind (.ref ⇑s)
     repeat any_goals first|assumption|wp_step
     refine codeAny_mono (codeAny_call_builtin (R:=wants (λr h=>r= .none/\∃h' tk,h={s with heap:=h',toks:=tk}/\bj w ⇑s (aK ss) h'/\(∀b o,s.heap.get? b=some o->h'.get? b=some o)) E) called_set.init.plain F.entry_set_init (check_set_init_1 tS ?_)) λn h d=>?_
     .have%[ol,gl,cl,nl|dl]:=hl;have%[ab,j,G|f]:=ol;simp only at cl dl;subst cl;subst dl;have H:(s.heap.push (aT w)).get? l=some {cls:= .type "list",dict:=j,data:= .seq a nl,slots:=f}:=Z7 _ gl;have al:=PySem.F.sub_list_set;have an:=PySem.F.sub_list_frozenset;have as:(Value.type "list"==Value.type "dict")=false:=by decide
      have p:(s.heap.push (aT w)).IsList l a:=%[_,H,rfl,nl|rfl]
      unfold Builtin.«set.__init__»;unfold noKeywords;unfold Builtin.Frozenset.updateFrom
      generalize I:pyIter=PI
      wp_walk
      subst I;refine wpAny_pyIter_list p (Z2 (wpAny_runValue ?_));have q:l<⇑s:=Zv gl;have h3:A.in1.in1.in1.handled=none:=by simp[hh]
      have J:(s.heap.push (aT w)).objs.size=⇑s+1:=Zq ..;have L:l≠(s.heap.push (aT w)).objs.size:=by rw[J];exact Zt (Yr q)
      have M:⇑s∉[(s.heap.push (aT w)).objs.size,l]:=by
       rw[J];simp only[Yz,Xb,or_false,not_or];exact%[Zt (Ys _)|X6 q]
      have t:a.size=ss.length:=by rw[<-Zb];exact bo hi
      refine pI ((Walks.list h3 _ l L a).toS) ⇑s M (λi=>ss.getD i (Str.ofString "")) (λi v hv=>tM hi i v (by rw[Yf];exact hv)) hb (a.size-0) 0 _ ⋯ (Xj _)
       %[%[_,Zj _ rfl,rfl|rfl]|p.push _] (bj.empty (Z7 _ Y)) ?_
      intro s3 y z;rw[t,vQ]at z;have%[h',g',d',N|O]:=s3;have eg:g'=s.gens:=y.gens;have ed:d'=s.drawn:=y.drawn;have eo:O=s.os:=y.os;subst eg;subst ed;subst eo;refine Z3 ?_;show wpAny _ _ (ret Value.none) _ _ _;refine Z3 %[rfl,h',N,rfl,z|λb o e=>?_];have u:=Zv e;refine y.heap b o ?_ (Z7 _ (Z7 _ e));simp only[Yz,Xb,or_false,not_or,J];exact%[Zt u|Zt (Yr u)]
     .cases n with
      | error e=>exact d
      | ok m=>
        cases m with
        | ret r=>
          have%[rfl,h',tk,rfl,z|k3]:=d
          repeat any_goals first|assumption|wp_step
          exact hQ _ _ z k3
        | _=>exact d.elim
   | _=>exact C.elim
end
section
variable{X:Cx}{K:ZA}
abbrev jT(w:World)(a:Addr)(ks:ZB):HO:= .ext (bj w a ks)
def AJ(b:X.calm=true):cq X (.type "set") (λxs H Q=>∃p ss,xs=[.ref p]/\SqL X.K H p (ss.map V.str)/\ss.length<=4000/\∀l,H l=none->Q (.ref l) (upd H l (jT X.w l (aK ss)))):=by
 intro pins s j H xs us Q I r h;have%[p,ss,rfl,c,m|q]:=h;have%[u,rfl|d]:=dg r;cases d;have%[its,e,pl|n]:=I.list c;have a:=gQ e;have f:its.toArray.size=ss.length:=bo a;refine pJ (I.ok.hd b) pl.isList (a) (by rw[f];show ss.length+1<4096;lia) λh' tk S k=>%[.ref ⇑s,_,I.laid (o:=jT X.w ⇑s _) k (Zi _) %[S,?_|λt v g k1=>g.keep k1],rfl|q _ I.fresh]
 have%[o,_,_,_,_,i|_]:=S;exact%[o|i]
def AK(h:X.K=K)(hw:X.w=w)(a:X.calm=true):cE X (.type "set") (λxs H Q=>∃p ss,xs=[.ref p]/\SqL K H p (ss.map V.str)/\ss.length<=4000/\∀l,H l=none->Q (.ref l) (upd H l (jT w l (aK ss)))):=by subst h;subst hw;exact⟨AJ a⟩
end
def gY:∀{xs:List a} {i:Nat} (h:i<xs.length),(xs[i]::xs.eraseIdx i).Perm xs
 | x::r,0,_=>by simp
 | x::r,i+1,h=>by
   exact(List.Perm.swap _ _ _).trans (.cons _ (gY (by simpa using h)))
section
#where
def yx(a:n≠0)(h:∀i d,i<n->Q i {s with drawn:=d}):↥A (choose b n) Q E s:=by
 intro c p _;exact%[a|h _ _ (mod_lt _ (Nat.pos_of_ne_zero a))]
def rS:∀(n:Nat) (xs:List b) (s:Shared) (Q:List b->Shared->Prop),xs.length<=n->(∀ys d,ys.Perm xs->Q ys {s with drawn:=d})->↥A (drawOrder n xs) Q E s
 | 0,xs,s,Q,a,h=>by
   have e:=length_eq_zero_iff.mp (le_zero.mp a);subst e;exact Z3 (h [] s.drawn .nil)
 | n+1,[],s,Q,a,h=>Z3 (h [] s.drawn .nil)
 | n+1,x::r,s,Q,a,h=>by
   unfold drawOrder;refine Z2 (yx ∅ λi d hi=>?_);rw[(Z4 hi)];exact Z2 (rS n _ _ _ (by rw[List.length_eraseIdx];simp only[hi];simp_all) λys c p=>Z3 (h _ c ((List.Perm.cons _ p).trans (gY hi))))
end
def wQ(next:Nat->Nat):∀(fuel k:Nat) (left:List a) (out:Array a),left.length<=fuel->(pickOrder.go next fuel k left out).toList.Perm (out.toList++left)
 | 0,k,left,out,h=>by
   have e:=length_eq_zero_iff.mp (le_zero.mp h);subst e;rw[Zz];exact .refl _
 | fuel+1,k,[],out,h=>by
   unfold pickOrder.go;simp
 | fuel+1,k,x::r,out,h=>by
   unfold pickOrder.go;have hi:next k%(x::r).length<(x::r).length:=mod_lt _ ∅;rw[Z4 hi];refine(wQ next fuel _ _ _ (by rw[List.length_eraseIdx];simp_all)).trans ?_;rw[toList_push,Ze];exact(List.Perm.refl _).append (gY hi)
def qw(next:Nat->Nat)(xs:Array a):(pickOrder next xs).toList.Perm xs.toList:=by
 have:=wQ next xs.size 0 xs.toList #[] ∅;simpa [pickOrder]using this
def qx(p j:Nat):SetTable.below #[p] j=if p<j then 1 else 0:=by
 unfold SetTable.below;simp only[Zp,Zr];unfold SetTable.below.go;simp
 split<;>(rfl)
def vR(j:Nat):SetTable.below #[] j=0:=rfl
def qy{a:Type}{xs:Array a}(h:xs.size=1):∃p,xs= #[p]:=by
 obtain⟨l⟩:=xs
 match l,h with
 |[p],_=>exact%[p|rfl]
abbrev SIt(w:World)(I S T:Addr)(o:Obj)(b:Array (Int×Value))(c:Nat)(t:SetTable)(a:ZF)(i:Nat)(h:Heap):Prop:=
 h.get? S=some o/\∃first,h.get? I=some {cls:= .type "set_iterator",dict:=none,data:= .fields #[first,rawInt i,.ref S,rawInt b.size,rawInt c],slots:= #[]}/\
  ((aS w=true/\first=rawInt 0/\a=(pickOrder (w.params.setOrder S c) b).toList.map (·.2))\/
   (aS w=false/\first= .ref T/\T≠I/\∃ps:List Nat,h.get? T=some {cls:= .type "tuple",data:= .seq (ps.map λ(i:Nat)=>rawInt i).toArray}/\ps.length=a.length/\∀(j p:Nat),ps[j]? =some p->∃e,b[p]? =some e/\a[j]? =some e.2)\/
   (aS w=false/\b.size<=1/\a=b.toList.map (·.2)/\(i=0->first=rawInt 0)/\(i=1->∃p:Nat,t.place[0]? =some p/\first=rawInt (p+1))))
def SIt.is{w:World}{I S T:Addr}{o:Obj}{b:Array _}{c:Nat}{t:SetTable}{a:ZF}{i:Nat}{s:Shared}(h:SIt w I S T o b c t a i s.heap):s.TypeIs (.ref I) "set_iterator":=by
 have%[_,f,d|_]:=h;exact%[_,d|rfl]
section
#where
variable{I S T:Addr}{o:Obj}{es:Array (Int×Value)}{ep:Nat}{t:SetTable}{ord:ZF}
def vS{i:Nat}{v:Value}{Q:Option Value->Shared->Prop}(y:o.data= .set es ep t)(h:t.fits es.size=true)(z:t.led=!aS w)(j:S≠I)(st:SIt w I S T o es ep t ord i s.heap)(f:ord[i]? =some v)(hn:ord.length=es.size)
 (U:∀h',SIt w I S T o es ep t ord (i+1) h'->SameBut I s.heap h'->Q (some v) {s with heap:=h'}):↥A (pyNext (.ref I)) Q E s:=by
 have hT:=st.is;have%[g,first,N|m]:=st;unfold pyNext;refine Z2 (wpAny_attempt (wpAny_callSpecial?_slot (name:=Str.ofString "__next__") hT bP (wpAny_call_entry bP hT gB ?_ (iC _))));unfold Builtin.«set_iterator.__next__»;refine Z2 (m:=slotArgs _ _ _) (Z3 ?_);refine Z2 (wpAny_fieldsOf N rfl ?_);show wpAny _ _ (setEntries S>>= _) _ _ _;refine Z2 (wpAny_setEntries_of g y h ?_);rw[if_neg ∅];rcases m with⟨c,rfl,B⟩|⟨c,rfl,C,ps,G,Y,H⟩|⟨c,h1,B,f0,f1⟩
 .show wpAny _ _ (setNext S 0 i ep>>= _) _ _ _;refine Z2 ?_;unfold setNext;refine Z2 (wpAny_setState_of g y h ?_);refine Z2 (Z2 (wpAny_askSetting (Z3 ?_)));show wpAny _ _ (if aS w=true then _ else _) _ _ _;rw[if_pos c];dsimp only;rw[if_neg (show ¬ ((ep != ep)=true) by simp)];refine Z2 ?_;unfold setWalk;refine Z2 (wpAny_setState_of g y h ?_);refine Z2 (Z2 (wpAny_askSetting (Z3 ?_)));show wpAny _ _ (if aS w=true then _ else _) _ _ _;rw[if_pos c];refine Z2 (wpAny_askSetting (Z3 (Z3 ?_)));have d:(pickOrder (w.params.setOrder S ep) es)[i]?.map (·.2)=some v:=by
   rw[B]at f;simpa using f
  cases u:(pickOrder (w.params.setOrder S ep) es)[i]? with
  | none=>rw[u]at d;cases d
  | some e=>
    rw[u]at d;have J:e.2=v:=by simpa using d
    show wpAny _ _ (match((pickOrder (w.params.setOrder S ep) es)[i]?).map λe=>(e.2,0)with|some (x,next)=>_|none=>_) _ _ _;rw[u];refine Z2 (wpAny_setField_rec N ∅ λg1 b a=>?_);refine Z2 (wpAny_setField_rec (s:={s with heap:=g1}) b ∅ λg2 l n=>?_);rw[J];have L:SameBut I s.heap g2:=a.trans n;refine Z3 %[v,rfl|Z3 (U g2 %[(L.2 S j).trans g,_,l|.inl %[c,rfl|B]] L)]
 .refine Z2 (wpAny_seqItems G rfl ?_);have hi:i<ord.length:=(Xr f).1;have ab:i<ps.length:=by lia
  have%[e,O|ac]:=H i ps[i] ∅;have J:e.2=v:=by rw[ac]at f;exact Za f
  have M:(ps.map λ(i:Nat)=>rawInt i).toArray[(i:Int).toNat]? =some (rawInt ps[i]):=by simp[ab]
  dsimp only;rw[M];show wpAny _ _ (setNextDrawn S ps[i] ep>>= _) _ _ _;refine Z2 ?_;unfold setNextDrawn;refine Z2 (wpAny_setState_of g y h ?_);dsimp only;rw[if_neg (show ¬ ((ep != ep)=true) by simp),O];refine Z3 ?_;refine Z2 (wpAny_setField_rec N ∅ λg1 b a=>?_);rw[J];exact Z3 %[v,rfl|Z3 (U g1 %[(a.2 S j).trans g,_,b|.inr (.inl %[c,rfl,C,ps,(a.2 T C).trans G,Y|H])] a)]
 .have hi:i<ord.length:=(Xr f).1;have i0:i=0:=by lia
  subst i0;have f0:=f0 rfl;subst f0;have e1:es.size=1:=by lia
  have pz:t.place.size=1:=by
   simp only[SetTable.fits,Zx,beq_iff_eq,decide_eq_true_eq]at h;rw[h.1,e1]
  have%[p|u]:=qy pz;obtain⟨e,O⟩:∃e,es[0]? =some e:=%[es[0]|by simp]
  have J:e.2=v:=by
   rw[B]at f;have:(es[0]?).map (·.2)=some v:=by simpa using f
   rw[O]at this;simpa using this
  show wpAny _ _ (setNext S 0 0 ep>>= _) _ _ _;refine Z2 ?_;unfold setNext;refine Z2 (wpAny_setState_of g y h ?_);show wpAny _ _ (if aS w=true then _ else _) _ _ _;rw[if_neg (by rw[c];decide)];dsimp only
  split
  .rename_i r
   change (!t.plain&&decide (es.size>1))=true at r;rw[e1]at r;simp at r
  .refine Z2 (m:=(if(!t.led&&!es.isEmpty)=true then unsupported "set:maker-not-led" else pure ())) ?_;rw[z,c];refine Z3 ?_;rw[u,qx];simp only[Xa,↓reduceIte,O];refine Z3 ?_;show wpAny _ _ (setField (.ref I) 0 (rawInt ((p+1:Nat):Int))>>= _) _ _ _;refine Z2 (wpAny_setField_rec N ∅ λg1 b a=>Z2 (wpAny_setField_rec (s:={s with heap:=g1}) b ∅ λg2 l n=>?_));rw[J];have L:SameBut I s.heap g2:=a.trans n;exact Z3 %[v,rfl|Z3 (U g2 %[(L.2 S j).trans g,_,l|.inr (.inr %[c,⋯,B,λq=>by lia|λ_=>%[p,by rw[u];rfl|rfl]])] L)]
def tN{c:Type}{Q:c->Shared->Prop}(d:A.handled=none)(f:∀h' e,(∀b o,s.heap.get? b=some o->h'.get? b=some o)->(∃o,h'.get? e=some o/\o.cls= .type "StopIteration")->E (.ref e) {s with heap:=h'}):
 ↥A (newExc (.type "StopIteration") []>>= λe=>(raiseNew e)) Q E s:=by
 refine Z2 ?_;refine Z2 (wpAny_newObj_type ?_ (by size_fits));refine Z2 (wpAny_of_eq (a:=Value.none) (by first|rfl|lia) (wpAny_newObj_type (wpAny_raiseNew_none d (f _ _ (λb o e=>Z7 _ (Z7 _ e)) %[_,Zj _ rfl|rfl])) (by size_fits)))
def yy{i:Nat}{Q:Option Value->Shared->Prop}(hh:A.handled=none)(u:o.data= .set es ep t)(h:t.fits es.size=true)(l:t.led=!aS w)(st:SIt w I S T o es ep t ord i s.heap)(hi:i=ord.length)(hn:ord.length=es.size)
 (hQ:∀h',(∀b o,b≠I->s.heap.get? b=some o->h'.get? b=some o)->Q none {s with heap:=h'}):↥A (pyNext (.ref I)) Q E s:=by
 have U:=st.is;have%[y,first,z|m]:=st;have G:A.in1.handled=none:=hh;have fin:∀(g:Heap) (Y:Fin->Shared->Prop),SameBut I s.heap g->↥A.in1 (newExc (.type "StopIteration") []>>= λe=>(raiseNew e:Sem Fin)) Y (λe s'=>↥A (do
  if(<-isInstance e (.type "StopIteration"))then pure none else throw e) Q E s') {s with heap:=g}:=λg Y sb=>by
  refine tN G λh' e k ⟨oe,he,hc⟩=>?_
  refine Z2 (wpAny_isInstance (T:="StopIteration") (b:=true) %[oe,he|hc] isSubtype_stop (Z3 (hQ h' λb o n q=>k b o ((sb.2 b n).trans q))))
 unfold pyNext;refine Z2 (wpAny_attempt (wpAny_callSpecial?_slot (name:=Str.ofString "__next__") U bP (wpAny_call_entry bP U gB ?_ (iC _))));unfold Builtin.«set_iterator.__next__»;refine Z2 (m:=slotArgs _ _ _) (Z3 ?_);refine Z2 (wpAny_fieldsOf z rfl ?_);show wpAny _ _ (setEntries S>>= _) _ _ _;refine Z2 (wpAny_setEntries_of y u h ?_);rw[if_neg ∅];rcases m with⟨j,rfl,eo⟩|⟨j,rfl,ab,ps,H,ac,ae⟩|⟨j,h1,eo,J,L⟩
 .show wpAny _ _ (setNext S 0 i ep>>= _) _ _ _;refine Z2 ?_;unfold setNext;refine Z2 (wpAny_setState_of y u h ?_);refine Z2 (Z2 (wpAny_askSetting (Z3 ?_)));show wpAny _ _ (if aS w=true then _ else _) _ _ _;rw[if_pos j];dsimp only;rw[if_neg (show ¬ ((ep != ep)=true) by simp)];refine Z2 ?_;unfold setWalk;refine Z2 (wpAny_setState_of y u h (Z2 (Z2 (wpAny_askSetting (Z3 ?_)))));show wpAny _ _ (if aS w=true then _ else _) _ _ _;rw[if_pos j];refine Z2 (wpAny_askSetting (Z3 (Z3 ?_)));have B:(pickOrder (w.params.setOrder S ep) es)[i]? =none:=by
   rw[Array.getElem?_eq_none_iff,hi,eo,Z6,Zb];exact Zi _
  show wpAny _ _ (match((pickOrder (w.params.setOrder S ep) es)[i]?).map λe=>(e.2,0)with|some (x,next)=>_|none=>_) _ _ _;rw[B];show wpAny _ _ (setField (.ref I) 2 .none>>= _) _ _ _;exact Z2 (wpAny_setField_rec z ∅ λg1 _ c=>fin g1 _ c)
 .show wpAny _ _ (seqItems? (.ref T)>>= _) _ _ _;refine Z2 (wpAny_seqItems H rfl ?_);have r:(ps.map λ(i:Nat)=>rawInt i).toArray[(i:Int).toNat]? =none:=by simp;lia
  dsimp only;rw[r];exact Z2 (wpAny_setField_rec z ∅ λg1 M c=>Z2 (wpAny_setField_rec M ∅ λg2 _ N=>fin g2 _ (c.trans N)))
 .have done:∀slot:Nat,first=rawInt slot->SetTable.below t.place slot=es.size->↥A.in1 (setNext S slot i ep) (λa s'=>a=none/\s'=s) (λ_ _=>False) s:=by
   intro slot _ n;unfold setNext;refine Z2 (wpAny_setState_of y u h ?_);show wpAny _ _ (if aS w=true then _ else _) _ _ _;rw[if_neg (by rw[j];decide)];dsimp only
   split
   .rename_i d
    change (!t.plain&&decide (es.size>1))=true at d;have:decide (es.size>1)=false:=Zh ⋯;rw[this,Bool.and_false]at d;cases d
   .refine Z2 (m:=(if(!t.led&&!es.isEmpty)=true then unsupported "set:maker-not-led" else pure ())) ?_;rw[l,j];refine Z3 ?_;rw[n,show es[es.size]? =none by simp];exact Z3 %[rfl|rfl]
  have go:∀slot:Nat,first=rawInt slot->SetTable.below t.place slot=es.size->↥A.in1 (setNext S slot i ep>>= λa=>match a with
   | some (x,next)=>(do
     setField (.ref I) 0 (rawInt ↑next)
     setField (.ref I) 1 (rawInt (↑i+1))
     ret x)
   | none=>(do
     setField (.ref I) 2 .none
     let e<-newExc (.type "StopIteration") []
     raiseNew e)) (λfin s'=>∃v,fin=Fin.done (Flow.ret v)/\↥A (pure (some v)) Q E s') (λe s'=>↥A (do
   if(<-isInstance e (.type "StopIteration"))then pure none else throw e) Q E s') s:=by
   intro slot e n;refine Z2 (wpAny_mono (done slot e n) (λa s' ⟨C,e2⟩=>?_) λ_ _ f=>f.elim);subst C;subst e2;exact Z2 (wpAny_setField_rec z ∅ λg1 _ c=>fin g1 _ c)
  have pz:=by
   simp only[SetTable.fits,Zx,beq_iff_eq,decide_eq_true_eq]at h;exact h.1
  by_cases e0:es.size=0
  .have i0:i=0:=by lia
   subst i0;have J:=J rfl;subst J;refine go 0 rfl ?_;have:t.place= #[]:=Array.eq_empty_of_size_eq_zero ⋯;rw[this,vR,e0]
  .have C:es.size=1:=by lia
   have i1:i=1:=by lia
   subst i1;have%[p,B|L]:=L rfl;subst L;refine go (p+1) rfl ?_;have%[p'|O]:=qy (by rw[pz,C]:t.place.size=1);rw[O]at B ⊢;have:p'=p:=by simpa using B
   subst this;rw[qx,if_pos (Ys _),C]
end
def iD:Slot "set_iterator" "__iter__" "set_iterator.__iter__":=
 .of (owner:="set_iterator") (n:="__iter__") (by rw[typeLookup_type,builtinLookup_eq_fast];kernel_rfl) (by decide +kernel) (by decide +kernel) (by decide +kernel) (by first|exact .inl (by decide +kernel)|exact .inr ∅) (by kernel_rfl)
def lz:entryFor table "set_iterator.__iter__"=some Builtin.«dict_keyiterator.__iter__»:=entryFor_alias (id':="dict_keyiterator.__iter__") (by kernel_rfl) rfl (by decide +kernel) (by kernel_rfl)
def mO(a:Value):argsOk "set_iterator.__iter__" %[[a]|[]]:=by kernel_rfl
def rT:typeLookup (.type "set") "__len__"=pure (some (.builtin "set.__len__")):=by kernel_rfl
section
#where
variable{I S T:Addr}{o:Obj}{es:Array (Int×Value)}{ep:Nat}{t:SetTable}{ord:ZF}
def yz(hh:A.handled=none)(hd:o.data= .set es ep t)(hf:t.fits es.size=true)(hled:t.led=!aS w)(hSI:S≠I)(hn:ord.length=es.size):
 Walks prog w A I [I,S,T] [I] ord.length (λi v=>ord[i]? =some v) (λi h=>SIt w I S T o es ep t ord i h) where
 sub:=by simp
 frame:=λi h h' st k=>by
  have%[hS,first,hI|m]:=st;refine⟨k S ∅ _ hS,first,k I ∅ _ hI,?_⟩;rcases m with m|⟨bt,e,hTI,ps,hTt,r⟩|m
  .exact .inl m
  .exact .inr (.inl %[bt,e,hTI,ps,k T ∅ _ hTt|r])
  .exact .inr (.inr m)
 item:=λi s Q E hi st hQ=>vS (v:=ord[i]) hd hf hled hSI st ∅ hn λh' st' sb=>hQ _ h' s.toks ∅ st' λb o' hb e=>(sb.2 b (λq=>hb (by simp[q]))).trans e
 done:=λs Q E st hQ=>yy hh hd hf hled st rfl hn λh' k=>hQ h' s.toks λb o' hb e=>k b o' (λq=>hb (by simp[q])) e
 self:=λi s Q E st hQ=>by
  have hT:=st.is;exact wpAny_pyIter_slot hT iD (wpAny_call_entry iD hT lz (Z3 %[_,rfl,"set_iterator",_,hT,bP.lookup|hQ]) (mO _))
def yA(f:s.heap.get? S=some o)(z:o.ExactSet)(B:o.data= .set es ep t)(hb:es.size<scanBound)(C:t.fits es.size=true)(G:es.size≠0->t.plain=false)(N:t.led=!aS w)
 (hQ:∀(I T:Addr) (ord:ZF) (h':Heap) d,(∀b o,s.heap.get? b=some o->h'.get? b=some o)->⇑s<=I->S≠I->(T=S\/⇑s<=T)->T<h'.objs.size->I<h'.objs.size->ord.length=es.size->
  SIt w I S T o es ep t ord 0 h'->ord.Perm (es.toList.map (·.2))->Q (.ref I) {s with heap:=h',drawn:=d}):↥A (pyIter (.ref S)) Q E s:=by
 have O:s.TypeIs (.ref S) "set":=%[o,f|z.1]
 have l:S<⇑s:=Zv f;refine wpAny_pyIter_slot O F.slot_set_iter (wpAny_call_entry F.slot_set_iter O pG ?_ (F.args_set_iter_1 _));unfold Builtin.«frozenset.__iter__»;refine Z2 (m:=Builtin.Frozenset.slot0 _ _) (Z2 (m:=slotArgs _ _ _) (Z3 (Z3 ?_)));refine Z2 (m:=Builtin.Frozenset.sizeOf S) (Z2 (wpAny_setEntries_of f B C (Z3 ?_)));refine Z2 (m:=setDrawn S) ?_;unfold setDrawn;refine Z2 (wpAny_setState_of f B C (Z2 (Z2 (wpAny_askSetting (Z3 (Z3 ?_))))));have fin:∀(first:Value) (a:Shared) (T:Addr) (ord:ZF),a.heap.get? S=some o->(∃d c,a={s with heap:=c,drawn:=d})->(∀b o,s.heap.get? b=some o->a.heap.get? b=some o)->T<⇑a->⇑s<=⇑a->(T=S\/⇑s<=T)->ord.Perm (es.toList.map (·.2))->
  ((aS w=true/\first=rawInt 0/\ord=(pickOrder (w.params.setOrder S ep) es).toList.map (·.2))\/(aS w=false/\first= .ref T/\∃ps:List Nat,a.heap.get? T=some {cls:= .type "tuple",data:= .seq (ps.map λ(i:Nat)=>rawInt i).toArray}/\ps.length=ord.length/\∀(j p:Nat),ps[j]? =some p->∃e,es[p]? =some e/\ord[j]? =some e.2)\/(aS w=false/\es.size<=1/\ord=es.toList.map (·.2)/\first=rawInt 0))->ord.length=es.size->
  ↥A.in1 (do ret (<-newFields "set_iterator" [first,rawInt 0,.ref S,rawInt es.size,rawInt (<-setEpoch S)])) (λfin s'=>∃v,fin=Fin.done (Flow.ret v)/\∃U r,s'.TypeIs v U/\typeLookup (.type U) "__next__"=pure (some r)/\Q v s') (λe s'=>E e s') a:=by
  intro first a T ord c %[d,g1|e1] k1 Y sl H u m hn
  subst e1;refine Z2 (wpAny_setEpoch_of c B C (Z2 (wpAny_newObj_type ?_)));have gI:(g1.push {cls:= .type "set_iterator",data:= .fields #[first,rawInt 0,.ref S,rawInt es.size,rawInt ep]}).get? g1.objs.size=some _:=Zj _ rfl;refine Z3 %[_,rfl,"set_iterator",_,%[_,gI|rfl],bP.lookup|hQ g1.objs.size T ord _ d (λb o' e=>Z7 _ (k1 b o' e)) sl (Zt (Zv c)) H (by rw[Zq];exact Yr Y) (by rw[Zq];exact Ys _) hn ?_ u];refine⟨Z7 _ c,first,gI,?_⟩;rcases m with m|⟨g,e,ps,J,r⟩|⟨g,L,eo,e⟩
  .exact .inl m
  .exact .inr (.inl %[g,e,Zt Y,ps,Z7 _ J|r])
  .exact .inr (.inr %[g,L,eo,λ_=>e|λq=>absurd q ∅])
 have lst:(es.toList.map (·.2)).length=es.size:=by rw[Z6,Zb]
 by_cases g:aS w=true
 .show wpAny _ _ (if(!aS w&&_)=true then _ else _) _ _ _;rw[g,Bool.not_true,Bool.false_and,if_neg ∅];refine Z2 (Z3 ?_);have n:=(qw (w.params.setOrder S ep) es).map (·.2);exact fin (rawInt 0) s S _ f %[s.drawn,s.heap|rfl] (λ_ _ e=>e) l (Zi _) (.inl rfl) n (.inl %[g,rfl|rfl]) (by rw[n.length_eq,lst])
 .have y:aS w=false:=by simpa using g
  show wpAny _ _ (if(!aS w&&(!t.plain&&decide (es.size>1)))=true then _ else _) _ _ _;by_cases c:es.size>1
  .rw[y,G ⋯,Zf c];refine Z2 (rS es.size _ _ _ ∅ λps d h=>Z2 (wpAny_newTuple ?_ (by rw[Z6,h.length_eq,Yn];exact fits_of_scanBound hb)));have lt:∀p∈ps,p<es.size:=λp q=>mem_range.mp (h.mem_iff.mp q)
   have er:(List.range es.size).map (λp=>((es[p]?).map (·.2)).getD .none)=es.toList.map (·.2):=by
    apply ext_getElem
    .simp
    .intro i u q2;simp at u;simp[u]
   have n:(ps.map (λp=>((es[p]?).map (·.2)).getD .none)).Perm (es.toList.map (·.2)):=er▸h.map _;refine fin _ _ ⇑s _ (Z7 _ f) %[d,_|rfl] (λb o' e=>Z7 _ e) (by rw[Zq];exact Ys _) (by rw[Zq];exact Yj _) (.inr (Zi _)) n
    (.inr (.inl %[y,rfl,ps,Zj _ rfl,by rw[Z6]|λj p q=>?_])) (by rw[n.length_eq,lst])
   have M:=lt p (Z8 q);exact%[es[p],by simp|by simp[q,M]]
  .rw[y,Zh c];simp only[Bool.and_false,Y0];exact fin (rawInt 0) s S _ f %[s.drawn,s.heap|rfl] (λ_ _ e=>e) l (Zi _) (.inl rfl) (List.Perm.refl _) (.inr (.inr %[y,⋯,rfl|rfl])) lst
def ki(hh:A.handled=none)(u:s.heap.get? S=some r)(a:r.ExactSet)(v:r.data= .set g as t0)(y:g.size<scanBound)(z:t0.fits g.size=true)(B:g.size≠0->t0.plain=false)(c:t0.led=!aS w)
 (hQ:∀s' vs,vs.Perm (g.toList.map (·.2))->(∀b o,s.heap.get? b=some o->s'.heap.get? b=some o)->s'.gens=s.gens->s'.os=s.os->⇑s<=⇑s'->Q vs s'):↥A (collect (.ref S)) Q E s:=by
 unfold collect;refine Z2 (wpAny_runValue (codeAny_builtin F.entry_proto_collect ?_));rw[Around.under_plainId F.plain_proto_collect _];show wpAny _ A.in1 (newList []>>= λl=>again (.builtin "list.__iadd__" %[[l,.ref S]|[]])) _ _ s;refine Z2 (wpAny_newObj_type (Z3 %[plainId_quiet F.plain_list_iadd _|codeAny_builtin F.entry_list_iadd ?_]));rw[Around.under_plainId F.plain_list_iadd _];have i:S<⇑s:=Zv u;show wpAny _ A.in1 (Builtin.List.listExtendWith (.ref ⇑s) (.ref S) (.ref ⇑s)) _ _ _;unfold Builtin.List.listExtendWith
 generalize O:s.heap.push {cls:= .type "list",data:= .seq ([]:ZF).toArray}=G
 have gS:G.get? S=some r:=by rw[<-O];exact Z7 _ u
 have gz:G.objs.size=⇑s+1:=by rw[<-O,Zq]
 have gL:G.get? ⇑s=some {cls:= .type "list",data:= .seq ([]:ZF).toArray}:=O▸Zj _ rfl;have tS:Shared.TypeIs {s with heap:=G} (.ref S) "set":=%[r,gS|a.1]
 refine Z2 (wpAny_typeOf (T:="set") tS ?_);have n1:Builtin.List.listSameRef (.ref ⇑s) (.ref S)=false:=by
  show(⇑s==S)=false;exact beq_eq_false_iff_ne.mpr (X6 i)
 have n2:(Value.type "set"==Value.type "list")=false:=by decide
 have n3:(Value.type "set"==Value.type "tuple")=false:=by decide
 simp only[n1,n2,n3,Bool.or_false,Y0,if_false];refine Z2 (yA (s:={s with heap:=G}) gS a v y z B c λI T ord h d k1 U ab ac a0 a1 hn st q1=>?_);replace k1:∀b o,G.get? b=some o->h.get? b=some o:=k1;replace U:G.objs.size<=I:=U;have ae:h.get? S=some r:=k1 _ _ gS;refine Z2 (wpAny_holding ?_);unfold Builtin.List.listLengthHint;have m:Shared.TypeIs {s with heap:=h,drawn:=d} (.ref S) "set":=%[r,ae|a.1]
 refine Z2 (wpAny_specialOf (T:="set") m rT ?_)
 wp_delta
 refine Z2 (wpAny_isInstance (T:="set") (b:=true) m (by rw[isSubtype_type];kernel_rfl) ?_);show wpAny _ A.in1 (typeOf (.ref S)>>= _) _ _ _;refine Z2 (wpAny_typeOf (T:="set") m (Z3 ?_));rw[if_pos (by decide)];refine Z2 (wpAny_rule ?_);have C:h.get? ⇑s=some {cls:= .type "list",data:= .seq ([]:ZF).toArray}:=k1 _ _ gL;refine Z2 ?_;unfold Builtin.List.listTouch;refine Z2 (listUpdate_at (s:={s with heap:=h,drawn:=d}) C rfl ?_ (Xj _) (by show 1<=sizeLine+1;lia));have H:=get?_update_self (Obj.mapSeq (·.push Value.none)) C rfl;refine listUpdate_at (xs:= #[Value.none]) (n:=1) (s:={s with heap:=h.update ⇑s (Obj.mapSeq _),drawn:=d}) H rfl ?_ (by decide) (by show 0<=sizeLine+1;lia);have ag:=get?_update_self (Obj.mapSeq (·.pop)) H rfl;have J:∀b o,b≠⇑s->h.get? b=some o->((h.update ⇑s (Obj.mapSeq (·.push Value.none))).update ⇑s (Obj.mapSeq (·.pop))).get? b=some o:=λb o Y e=>(get?_update_other _ _ (Ne.symm Y)).trans ((get?_update_other _ _ (Ne.symm Y)).trans e)
 have ai:=Zt (Zg (by rw[gz];exact Ys _) U);have neT:⇑s≠T:=by
  rcases ac with e|e
  .exact e▸X6 i
  .exact Zt (Zg (gz▸Ys _) e)
 have L:⇑s∉[I,S,T]:=by
  simp only[Yz,Xb,or_false,not_or];exact%[ai,X6 i|neT]
 have aj:ord.length<=sizeLine:=hn▸fits_of_scanBound y;have W:=yz (prog:=prog) (A:=A.in1) (T:=T) (hh) v z c ab hn;have al:=W.frame 0 h _ st λb Y M e=>J b M (λq=>L (q▸Y)) e
 refine Z3 %[plainId_quiet F.plain_extend_loop _|codeAny_extend_loopS W.toS aj _ L _ ord.length 0 _ _ _ rfl (Xj _) al ag (ItemsOf.nil _) λs5 acc c5 m5 N f=>?_];refine Z2 (wpAny_load N (Z3 ?_));have ea:acc.toList=ord:=by
  apply ext_getElem?;intro j;by_cases hj:j<ord.length
  .have an:j<acc.size:=f.1▸hj;have:=f.2 j acc[j] ∅;rw[this];simp[an]
  .have l1:acc.toList.length=ord.length:=f.1;rw[Xq ⋯,Xq (l:=ord) ⋯]
 rw[ea];refine hQ s5 ord q1 (λb M e=>?_) m5.gens m5.os (Yi (Zv N));have p:=Zv e;refine m5.heap b M ?_ (J b M (Zt p) (k1 b M (O▸Z7 _ e)));simp only[Yz,Xb,or_false,not_or];exact%[Zt p|Zt (Zg p (Yk (gz▸Yj _) U))]
def mf(f:A.handled=none)(h:bj w S ks s.heap)
 (i:∀s' vs ss,StrsAre vs ss->ss.Perm ks->(∀b o,s.heap.get? b=some o->s'.heap.get? b=some o)->s'.gens=s.gens->s'.os=s.os->⇑s<=⇑s'->Q vs s'):↥A (collect (.ref S)) Q E s:=by
 have%[o,es,ep,t,ss,j,c,l,d,m,n,p,q,r,e|a]:=h;refine ki f j c l q r e a λs' vs pv k g os sz=>?_
 have%[ts,u|v]:=ck d pv;exact i s' vs ts u (v.trans m) k g os sz
end
section
variable{X:Cx}{pins:ZE}{σ:St}{H:Hp}{s s':Shared}
def Inv.keptS(I:Inv X pins σ H s)(k:∀b o,s.heap.get? b=some o->s'.heap.get? b=some o)(c:s'.gens=s.gens)(a:s'.os=s.os):Inv X pins σ H s':=by
 have%[h',g',d',t'|d]:=s';replace a:d=s.os:=a;subst c;subst a;refine I.step (ch:=[]) (λb f=>absurd f ∅) (λb o _ _ _ e _=>k b o e) (λb o _ _ _ e _=>%[o.slots|k b o e]) (λ_ _ _ _ n=>n) (λb o _ e=>%[o|k b o e]) (λ_ _ e=>e) (λ_ _ _ e=>e) (λb ps e=>%[#[]|by rw[e];simp]) (λm g=>?_) (λb v e=>?_) I.bare
 .have%[o,h,i,a|r]:=g;exact%[o,h,i,k _ o a|r]
 .exact(I.hok b v e).stay (λj l _ q=>k j l q) (λ_ q=>q) λ_ _ q=>q
def Inv.stoodS(I:Inv X pins σ H s)(J:Inv X pins σ H s')(c:⇑s<=a)(new:b8 X.prog X.w (upd H a o) s'.heap a o):Inv X pins σ (upd H a o) s':=by
 have d:=I.hok.fresh c;refine%[J.ok,J.os,J.bare,?_,J.loc,J.cell,?_,?_,?_,?_|J.len]
 .refine%[J.base.keep,J.base.slot,λb o e n j=>?_,J.base.there,λb xs e=>?_,λb o v e=>?_|λb ps e=>?_]
  .rw[am ((λb o e=>Zt (Zg (Zg (Zv e) I.sz) c)) b o e)];exact J.base.free b o e n j
  .rw[am (ay (J.base.tups b xs e) d)];exact J.base.tups b xs e
  .rw[am (ay (J.base.frzs b o v e) d)];exact J.base.frzs b o v e
  .have%[m|q]:=J.base.tbls b ps e;exact%[m|(am (ay q d))▸q]
 .rw[am (Zt (Zg I.lt c))];exact J.free
 .intro g f e;have%[l|q]:=I.cell g f e;rw[am (Zt (Zg q.lt c))];exact J.freeC g f e
 .intro p h;have%[e,n|r]:=J.pin p h;refine%[e,?_|r];rw[am (Zt (Zg (Zv (I.pin p h).1) c))];exact n
 .intro b v e;by_cases i:b=a
  .subst i;rw[aa]at e;cases e;exact new
  .rw[am i]at e;refine(J.hok b v e).stay (λ_ _ _ q=>q) (λf q=>?_) λf xs q=>?_
   .rw[am (ay q d)];exact q
   .rw[am (ay q d)];exact q
end
section
#where
variable{S:Addr}
def vT(t:A.handled=none)(u:bj w S ks s.heap)(g:ks.length<64)
 (v:∀(s':Shared) (l:Addr) (vs:ZF) (ss:ZB) (n:Nat),StrsAre vs ss->ss.Perm ks->sortedS ss=true->(∀b o,s.heap.get? b=some o->s'.heap.get? b=some o)->s'.gens=s.gens->s'.os=s.os->⇑s<=l->s'.heap.get? l=some {cls:= .type "list",data:= .seq vs.toArray n}->Q (.ref l) s'):
 ↥A (call (.builtin "sorted") [.ref S]) Q E s:=by
 refine Calls.call_function_entry kind_sorted plain_sorted entry_sorted (args_sorted1 _) ?_;unfold Builtin.«sorted»;refine Z2 (m:=checkCount "sorted" 1 1 _) (Z3 ?_);refine Z2 (mf (show A.in1.handled=none from t) u λc vs ss f j k1 g1 y h=>?_);have z:vs.length<64:=by rw[bo f,j.length_eq];exact g
 refine Z2 (wpAny_newList ?_ (by rw[sizeLine_eq];lia));have i:(c.heap.push (seqObj "list" vs.toArray 0)).get? ⇑c=some (seqObj "list" vs.toArray 0):=Zj _ rfl;refine Z2 (wpAny_holding (wpAny_call_entry slot_list_sort %[_,i|rfl] entry_list_sort (list_sort_treeK (s:={c with heap:=c.heap.push (seqObj "list" vs.toArray 0)}) strKind_oneLt i f.keysOf (λp q rest e=>keyKind_strs (by rw[<-e];exact f)) z λa B C=>%[_,rfl|?_]) (args_list_sort _)));have%[ts,G,H|I]:=sorted_out_str f B C;obtain⟨n,J⟩:∃n,(sortedHeap (c.heap.push (seqObj "list" vs.toArray 0)) ⇑c vs ((arrOf a).map (·.2))).get? ⇑c=some (seqObj "list" ((arrOf a).map (·.2)) n):=sortedHeap_at i;refine Z3 %[_,rfl|v _ ⇑c ((arrOf a).map (·.2)).toList ts n G (H.trans j) I (λb L e=>?_) g1 y h ?_]
 rotate_left
 .show _=some (seqObj "list" ((arrOf a).map (·.2)).toList.toArray n);rw[Array.toArray_toList];exact J
 have r:=k1 b L e;have d:=Zv r;show(sortedHeap _ _ _ _).get? b=_;rw[sortedHeap_old (Zt d) (by rw[Zq];exact Yr d)];exact Z7 _ r
end
section
variable{X:Cx}{K:ZA}
def rV(d:X.calm=true):cq X (.builtin "sorted") (λxs H Q=>∃a ks,xs=[.ref a]/\H a=some (jT X.w a ks)/\ks.length<64/\∀l ss,H l=none->ss.Perm ks->sortedS ss=true->Q (.ref l) (upd H l (.lst (ss.map V.str)))):=by
 intro pins s t H xs us Q I r h;have%[a,ks,rfl,e,f|q]:=h;have%[u,rfl|i]:=dg r;cases i;have%[S,_|_]:=(I.hok a _ e)
 refine vT (I.ok.hd d) S f λs' l vs ss n j c m k g o b p=>%[.ref l,_,I.stoodS (o:= .lst _) (I.keptS k g o) b %[?_,vs,n,qp j|p],rfl|q l ss (I.hok.fresh b) c m]
 rw[Z6,c.length_eq,sizeLine_eq]
 lia
def yB(h:X.w=w)(b:X.calm=true):cE X (.builtin "sorted") (λxs H Q=>∃a ks,xs=[.ref a]/\H a=some (jT w a ks)/\ks.length<64/\∀l ss,H l=none->ss.Perm ks->sortedS ss=true->Q (.ref l) (upd H l (.lst (ss.map V.str)))):=by subst h;exact⟨rV b⟩
end
def ap{D:lg}(h:∀c:lg,(∀a b,u D a b->c.nx a b)->(∀v b,D.rt v b->c.rt v b)->t c d H):bd t u D d H:=h _ (λ_ _ x=>x) λ_ _ x=>x
def aB{t:TS}{D:lg}(h:∀c:lg,(∀a b,D.nx a b->c.nx a b)->(∀v b,D.rt v b->c.rt v b)->t c d H):t D d H:=h _ (λ_ _ x=>x) λ_ _ x=>x
def km{K:ZA}{xs:List V}{g:TG}{j:TS}{D:lg}(Pv:Nat->St->Hp->Prop)(n:Pv 0 b H)(o:∀i b H,i<=xs.length->Pv i b H->SqL K H a xs)
 (r:∀i x T b H,xs[i]? =some x->Pv i b H->H T=none->g (.ref T) b (upd H T (.tup [.int i,x])) λc h=>j {D with nx:=Pv (i+1),ct:=Pv (i+1),bk:=D.nx} c h) (s:∀b H,Pv xs.length b H->D.nx b H):
 ∃W:Nat->Nat->St->Hp->Prop,(∃m,W 0 m b H)/\∀i m b H,W i m b H->
  ((Ite K a xs).stop i H/\D.nx b H)\/((Ite K a xs).go i H/\∃N:St->Hp->Prop,(∀d f,N d f->∃l,l<m/\W (i+1) l d f)/\∀x f,(Ite K a xs).yld i H x f->g x b f λc h=>j {D with nx:=N,ct:=N,bk:=D.nx} c h):=by
 refine%[λi m b H=>m=xs.length-i/\i<=xs.length/\Pv i b H,%[xs.length,by simp,Xj _|n]|?_];intro i m b H %[rfl,hi|p];have q:=o i b H hi p;by_cases lt:i<xs.length
 .refine .inr %[%[q|lt],Pv _,λd f t=>%[xs.length-(i+1),⋯,rfl,lt|t]|λv f y=>?_];have%[x,T,e,u,rfl|rfl]:=y;exact r i x T b _ e p u
 .have e:i=xs.length:=by lia
  subst e;exact .inl %[%[q|Zi _]|s b H p]
section
variable{X:Cx}{K:ZA}{pos:Pos}{a b:Expr}{ta tb:TE}
def cQ:OpQ X (binaryOp .Add) (rI0 λi j=> .int (i+j)):=⟨zW⟩
def fT:OpQ X (binaryOp .Mult) (rI zV λi j=> .int (i*j)):=⟨zX⟩
def dq(h:X.K=K)(c:j9 b)(d:QE X a ta)(e:QE X b tb):QE X (.Subscript a b pos) (tOp (Cy K) ta tb):=by subst h;exact⟨wL wM d.h e.h c⟩
def ixSE(c:j9 b)(d:QE X a ta)(e:QE X b tb):QE X (.Subscript a b pos) (tOp CA ta tb):=⟨wL Ak d.h e.h c⟩
end
end L2
namespace Cut
open PySem L2 PyProof.Rows
abbrev gZ:Str:="abcdefghijklmnopqrstuvwxyz"
abbrev iT(c:Nat):Bool:=decide (c∈gZ.cps.toList)
abbrev okc(c:Nat):Bool:=decide (c=46)||iT c
abbrev nl:Str:="\n"
def GQ:nl=⟨#[10]⟩:=rfl
def lA:iT c=true↔97<=c/\c<=122:=by
 have e:gZ.cps.toList=(List.range 26).map (·+97):=by decide +kernel
 unfold iT;rw[decide_eq_true_iff,e,mem_map]
 constructor
 .rintro⟨i,h,rfl⟩;have:=mem_range.mp h
  lia
 .rintro⟨a,b⟩;exact%[c-97,mem_range.mpr ⋯|⋯]
def Fn(h:okc c=true):c≠10:=by
 intro e;subst e
 revert h
 decide +kernel
structure bU (rows:ZB):Prop where
 pos:1<=rows.length
 high:rows.length<=40
 wide:∃wd,1<=wd/\wd<=40/\∀r∈rows,r.cps.size=wd
 sign:∀r∈rows,r.cps.toList.all okc=true
 fall:∀i r r',rows[i]? =some r->rows[i+1]? =some r'->∀(j c c':Nat),r.cps[j]? =some c->r'.cps[j]? =some c'->c'=46->c=46
 some':∃r∈rows,∃c∈r.cps.toList,c≠46
def dU{x y:Str}(h:x.cps.toList=y.cps.toList):x=y:=by
 obtain⟨⟨l⟩⟩:=x
 simp_all
def gC(sep x y:Str)(r:ZB):(Str.join sep (x::y::r)).cps.toList=x.cps.toList++sep.cps.toList++(Str.join sep (y::r)).cps.toList:=by
 show((x.cps++sep.cps) ++(Str.join sep _).cps).toList=_;rw[Xi,Xi]
def AL [DecidableEq f]:∀{a b x y:List f},c∉a->c∉b->a++c::x=b++c::y->a=b/\x=y
 |[],[],_,_,_,_,h=>%[rfl|(List.cons.inj h).2]
 |[],b::bs,_,_,_,d,h=>absurd (((List.cons.inj h).1)▸Zm) d
 | a::as,[],_,_,e,_,h=>absurd (((List.cons.inj h).1)▸Zm) e
 | a::as,b::bs,x,y,e,d,h=>by
   have%[g|i]:=List.cons.inj h;have%[j|l]:=AL (λq=>e (Zk _ q)) (λq=>d (Zk _ q)) i;exact%[by rw[g,j]|l]
def tO{c:Nat}:∀{ps qs:ZB},ps≠[]->qs≠[]->(∀p∈ps,c∉p.cps.toList)->(∀q∈qs,c∉q.cps.toList)->(Str.join ⟨#[c]⟩ ps).cps.toList=(Str.join ⟨#[c]⟩ qs).cps.toList->ps=qs
 |[],_,h,_,_,_,_=>absurd rfl h
 | _,[],_,h,_,_,_=>absurd rfl h
 |[p],[q],_,_,_,_,e=>by rw[dU (show p.cps.toList=q.cps.toList from e)]
 |[p],q::f::qs,_,_,a,_,e=>by
  rw[gC]at e;refine absurd ?_ (a p Zm);rw[show p.cps.toList=(Str.join _ [p]).cps.toList from rfl,e];simp
 | p::g::ps,[q],_,_,_,b,e=>by
   rw[gC]at e;refine absurd ?_ (b q Zm);rw[show q.cps.toList=(Str.join _ [q]).cps.toList from rfl,<-e];simp
 | p::g::ps,q::f::qs,_,_,a,b,e=>by
   rw[gC,gC,Ze,Ze]at e;have%[i|j]:=AL (a p Zm) (b q Zm) e;rw[dU i,tO ∅ ∅ (λx d=>a x (Zk _ d)) (λx d=>b x (Zk _ d)) j]
def vU(a:rows≠[])(h:∀r∈rows,10∉r.cps.toList):Txt.split (Str.join nl rows) nl=rows:=by
 have e:=StrLaws.join_split (Str.join nl rows) nl;rw[GQ]at e ⊢;refine tO ?_ a (StrLaws.split_free _ 10) h (by rw[e]);intro q;have:=split_pos (Str.join ⟨#[10]⟩ rows) ⟨#[10]⟩
 simp_all
def bU.nonl(h:bU rows):∀r∈rows,10∉r.cps.toList:=λr a b=>by
 have:=all_eq_true.mp (h.sign r a) 10 b;exact Fn this rfl
def bU.split(h:bU rows):Txt.split (Str.join nl rows) nl=rows:=
 vU (λe=>by have:=h.pos;simp_all) h.nonl
def rW:∀{xs:List b},(∀x∈xs,f x<=B)->(xs.map f).sum<=xs.length*B
 |[],_=>by simp
 | x::r,h=>by
   have c:=rW λy a=>h y (Zk _ a)
   have d:=h x Zm;rw[Yu,List.sum_cons,Zr,Nat.succ_mul]
   lia
def bU.sum(h:bU rows):(rows.map (·.length)).sum<=1600:=by
 have%[wd,_,c|a]:=h.wide;have:=rW (f:=λr:Str=>r.length) λr b=>by have:=a r b;show r.cps.size<=40;lia
 have:=h.high
 grind
def bU.text(h:bU rows):(Str.join nl rows).length<=2000:=by
 have a:=StrLaws.join_length_le nl rows;have b:=h.sum;have c:=h.high;have d:nl.length=1:=rfl
 lia
abbrev sgn(c:Nat):Str:=⟨#[c]⟩
def nL{cs:List Nat}(h:∀c∈cs,iT c=true):(aK (cs.map sgn)).length<=26:=by
 have a:∀x∈aK _,x∈gZ.cps.toList.map sgn:=λx b=>by
  have%[c,d|e]:=Xu (bx.mp b);exact Xv %[c,Zo (h c d)|e]
 have:=List.Nodup.length_le_of_subset (eY _) a;rw[Z6]at this;have e:gZ.cps.toList.length=26:=by decide +kernel
 lia
abbrev cY(rows:ZB):List Nat:=(Str.join (Str.ofString "") rows).cps.toList.filter (λc=>decide (c≠46))
def tP:∀(rows:ZB),(Str.join (Str.ofString "") rows).cps.toList=(rows.map (·.cps.toList)).flatten
 |[]=>rfl
 |[x]=>by simp[Str.join]
 | x::y::r=>by
   have e:(Str.ofString "").cps.toList=[]:=rfl;rw[gC,tP _,e,Zz];simp
def lB(h:∀r∈rows,r.cps.toList.all okc=true):∀c∈cY rows,iT c=true:=λc a=>by
 unfold cY at a;rw[List.mem_filter,tP]at a;have%[b|d]:=a;have%[l,e|f]:=List.mem_flatten.mp b;have%[r,g|rfl]:=Xu e;have:=all_eq_true.mp (h r g) c f;unfold okc at this;rw[or_eq_true]at this;rcases this with q|q
 .exact absurd (Zo q) (Zo d)
 .exact q
def bU.signs_ne(h:bU rows):cY rows≠[]:=by
 have%[r,b,c,d|a]:=h.some';have:c∈cY rows:=by
  unfold cY;rw[List.mem_filter,tP];exact%[List.mem_flatten.mpr %[_,Xv %[r,b|rfl]|d]|Zf a]
 grind
abbrev rX(z:Str):Bool:=(decide (1<=(z.length:Int))&&decide ((z.length:Int)<=40))&&z.cps.toList.all okc
abbrev eZ(row a:Str):Bool:=decide (row.length=a.length)&&(List.zip a.cps.toList row.cps.toList).all λp=>!decide (p.2=46)||decide (p.1=46)
def bU.row(h:bU rows)(a:r∈rows):rX r=true:=by
 have%[wd,c,d|b]:=h.wide;have e:r.length=wd:=b r a;unfold rX;rw[h.sign r a,e,Zf ⋯,Zf ⋯];rfl
def bU.beneath(h:bU rows)(c:rows[i]? =some r)(d:rows[i+1]? =some a):eZ a r=true:=by
 have%[wd,m,n|e]:=h.wide;have f:r.length=wd:=e r (Z8 c);have g:a.length=wd:=e a (Z8 d);unfold eZ;rw[Zf (g.trans f.symm),Bool.true_and,all_eq_true];intro p l;have%[j|b]:=Xk l;rw[List.getElem?_zip_eq_some]at b;have:=h.fall i r a c d j p.1 p.2 (by simpa using b.1) (by simpa using b.2)
 grind
def vV(cs:List Nat):(Str.join (Str.ofString "") (cs.map sgn))=⟨cs.toArray⟩:=by
 refine dU ?_;rw[tP,Yv];show((cs.map (λc=>[c])).flatten)=cs
 induction cs with
 | nil=>rfl
 | cons c r a=>simp_all
def wR:∀cs:List Nat,((cs.map sgn).map (λx=>x.length)).sum=cs.length
 |[]=>rfl
 | c::r=>by
   rw[Yu,Yu,List.sum_cons,wR r,Zr];show 1+r.length=r.length+1
   lia
end Cut
namespace Cut
open PySem L2
end Cut
namespace L2
open PySem PySem.Spec PyProof.Rows
abbrev Up(B:Heap)(l:List Env)(e:Addr)(cls:Value)(b:ZI)(d:Option Value)(h:Heap):Prop:=
 B.StaysIn h/\B.get? e=none/\h.FunFrames B l/\∃a vs,h.get? e=some a/\a.cls=cls/\a.dict=b/\a.data= .fields vs/\1<vs.size/\
  match d with
  | none=>vs[1]? =some .none
  | some f=>∃T c ts,vs[1]? =some (.ref T)/\B.get? T=none/\T≠e/\h.get? T=some c/\c.data= .fields ts/\ts[3]? =some f
section
variable{M:Model}{A:Around}{E:ZD}{s:Shared}{B:Heap}{env:Env}{outer:List Env}{L e:Addr}{cls:Value}{dct:ZI}{Q:Unit->Shared->Prop}
end
section
variable{P:Program}{w:World}{H:Hp}{h:Heap}{a:Addr}{o:HO}
def b8.there(x:b8 P w H h a o):∃b,h.get? a=some b:=by
 cases o with
 | lst xs=>have%[_,_,_,_|e]:=x;exact%[_|e]
 | tup xs=>have%[_,_,_,b,e|_]:=x;exact%[_|e]
 | dK c=>have%[_,_,_,_,o,_,_,e|_]:=x;exact%[_|e]
 | dT c=>have%[_,_,_,_,o,_,_,e|_]:=x;exact%[_|e]
 | set S n=>have%[o,_,_,_,e|_]:=x;exact%[_|e]
 | ins C d fs=>have%[_,_,_,e|_]:=x;exact%[_|e]
 | own y=>have%[_|e]:=x;exact%[_|e]
 | xd fs=>have%[_,%[_,_,_,e|_]|_]:=x;exact%[_|e]
 | rng lo hi=>have%[_,_,_|e]:=x;exact%[_|e]
 | frz b u=>have%[e|_]:=x;exact%[_|e]
 | tbl ps=>exact%[_|(x)]
 | met f y=>exact%[_|(x)]
 | ext g=>have%[_,%[_|e]|_]:=x;exact%[_|e]
end
section
variable{P:Program}{w:World}{l:List Env}{H H':Hp}{s s':Shared}{ea:Addr}{B h':Heap}{cls:Value}{dx:ZI}{fl fl':Option Value}
end
section
variable{P:Program}{w:World}{K:ZA}{mg:ZC}{base:Heap}{N:ZB}{qual:Str}{scope:Scope}{f:Addr}{cd:Value}{A:Around}{outer:List Env}{s₀:Shared}{H₀:Hp}{E:XK}
end
section
variable{prog:Program}{w:World}{A:Around}{E:ZD}{h:Heap}{g:Array GenState}{d:Drawn}{t:Nat}{os:OsState}
variable{nm q:Str}{C N:Addr}{bs bm bmB:ZF}{hdct:Bool}{sn:ZB}{sub:ZF}{ab:Bool}{col:Option Bool}{dd:ZI}{k0 k1 k2 k3 k5:Option Value}{B newId initId:String}
end
section
#where
variable{K:ZA}{x C:Addr}{name:Str}{v:Value}{ox:Obj}{od:Option Obj}
end
section
variable{X:Cx}{C f:Addr}
end
section
variable{X:Cx}{pins:ZE}{σ:St}{H:Hp}{s s':Shared}
end
section
variable{X:Cx}{C D f:Addr}{x nm:Str}{p pos pos' apos:Pos}{e o value:Expr}{es:List Expr}{t:TA}{ta tv:TE}{r:List V->Hp->VK->Prop}
end
abbrev Fo(b:TE):TE:=λc H Q=>b c H λv a=>(∃i:Int,v= .int i/\i.natAbs<2^64/\Q (.str (toString i)) a)\/∃y:Str,v= .str y/\y.length<=sizeLine/\Q (.str y) a
abbrev nM:List TE->Str->TE
 |[],out=>λa H Q=>out.length<=sizeLine/\Q (.str out) H
 | t::ts,out=>λa H Q=>t a H λv b=>∃y:Str,v= .str y/\(out++y).length<=sizeLine/\nM ts (out++y) a b Q
inductive PJ (X:Cx):List Expr->List TE->Prop
 | nil:PJ X [] []
 | cons {e:Expr} {es:List Expr} {t:TE} {ts:List TE}:PE X e t->PJ X es ts->PJ X (e::es) (t::ts)
section
variable{X:Cx}{e v1 v2:Expr}{rest:List Expr}{te t1 t2:TE}{ts:List TE}{pos:Pos}
def Fp(c:PE X e te):PE X (.FormattedValue e (-1) none pos) (Fo te):=by
 intro pins s d H Q I h;refine FormattedValue_plain (thP (c pins s d H _ I h) λu j v a b r q=>?_);rcases q with⟨i,rfl,hi,q⟩|⟨y,rfl,f,q⟩
 .have%[t|rfl]:=(show∃t,u=Value.int i t from r)
  have g:i.natAbs.log2<1920:=by
   by_cases z:i.natAbs=0
   .rw[z];decide
   .exact(Nat.log2_lt z).mpr (Zg hi (Nat.pow_le_pow_right (by decide) ∅))
  exact formatField_int_small g %[V.str (toString i),a,b.tok _,%[_|rfl]|q]
 .have%[t|rfl]:=(r)
  exact formatField_str (λt' tk=>%[.str y,a,b.tok _,%[_|rfl]|q]) f
def AM(h:PJ X c ts):∀(out:Str) (pins:ZE) (s:Shared) (a:St) (H:Hp) (Q:VK),Inv X pins a H s->nM ts out a H Q->
 (wpAny (model X.prog X.w) X.A) (joinParts out (evalEach c X.env)) (EP X pins a Q) X.xe s:=by
 induction h with
 | nil=>exact λout pins s a H Q I ⟨b,q⟩=>joinParts_nil %[.str out,H,I.tok _,%[_|rfl]|q] b
 | cons d _ f=>
   intro out pins s a H Q I q;refine joinParts_cons (thP (d pins s a H _ I q) λu g v i j r ⟨y,l,b,m⟩=>?_);subst l;have%[t|rfl]:=(r)
   exact%[b|f _ pins g a i Q j m]
def C3(h:PJ X (v1::v2::rest) ts):PE X (.JoinedStr (v1::v2::rest) pos) (nM ts Str.empty):=λpins s a H Q I q=>
 JoinedStr_many (AM h _ pins s a H Q I q)
end
section
variable{X:Cx}{k:Nat}{f C:Addr}{fd:FuncData}{ps:ZB}{sp:Sp}{x:Str}{p pos cpos:Pos}{e:Expr}{es:List Expr}{te:TE}{t:TA}
end
abbrev drop(H:Hp)(a:Addr):Hp:=λb=>if b=a then none else H b
def yC:drop H a a=none:=by unfold drop;rw[if_pos rfl]
def jk(h:b≠a):drop H a b=H b:=by unfold drop;rw[if_neg h]
section
variable{X:Cx}{pins:ZE}{σ:St}{H:Hp}{s s':Shared}
end
section
variable{M:Model}{A:Around}{E:ZD}{s:Shared}{K:ZA}{D C e:Addr}{oe:Obj}{b:Bool}{Q:Bool->Shared->Prop}
end
section
variable{X:Cx}{pins pins' pn:ZE}{σ:St}{H:Hp}{s:Shared}{E:ZD}
end
section
#where
variable{K:ZA}{x C:Addr}{name:Str}{v:Value}{ox:Obj}{od:Option Obj}
end
section
#where
variable{K:ZA}{x C:Addr}{ox:Obj}{od:Option Obj}
end
section
#version
end
abbrev cD(mg:ZC)(x:Str):Addr:=match mg x with
 | some (.ref C)=>C
 | _=>0
def C4(h:mg x=some (.ref C)):cD mg x=C:=by unfold cD;rw[h]
section
variable{P:Program}{w:World}{K:ZA}{mg:ZC}{base:Heap}{x qual:Str}{st:Stmt}{N ps:ZB}{k:Nat}{sp:Sp}
end
section
variable{X:Cx}{K:ZA}{pos:Pos}
def Fq(a:QE X e b):QE X (.FormattedValue e (-1) none pos) (Fo b):=⟨Fp a.h⟩
def DU:PJ X [] []:= .nil
def pjE(a:QE X e t)(h:PJ X b ts):PJ X (e::b) (t::ts):= .cons a.h h
def DV{rest:List Expr}(h:PJ X (v1::a::rest) ts):QE X (.JoinedStr (v1::a::rest) pos) (nM ts Str.empty):=⟨C3 h⟩
end
section
#where
end
section
#where
end
section
#where
end
section
#where
end
abbrev clo(c:TE):TE:=λd H Q=>∃a:VK,c d H a/\∀v b,a v b->Q v b
def Fs{X:Cx}(h:PE X e b):PE X e (clo b):=λpins s c H Q I ⟨d,q,k⟩=>
 thP (h pins s c H d I q) λ_ _ v a f r z=>%[v,a,f,r|k v a z]
def Ft{X:Cx}(h:PE X e t)(k:∀a H Q,t' a H Q->t a H Q):PE X e t':=λpins s a H Q I q=>h pins s a H Q I (k a H Q q)
def AN(h:H r=none):drop (upd H r o) r=H:=by
 funext b;unfold drop upd
 simp_all
section
variable{X:Cx}{K:ZA}{pos:Pos}
end
end L2
namespace SBig
open PySem PyProof.Rows
section
variable(prog:Program)(w:World)(A:Around)(SI:Shared->Prop)
abbrev SC{a:Type}(m:StateT SortSt Sem a)(Q:a->SortSt->Prop)(st:SortSt):Prop:=
 ∀s,SI s->↥A (m.run st) (λr s'=>SI s'/\Q r.1 r.2) (λ_ _=>False) s
abbrev Cmp(a:SortKind)(D:Keyed->Prop)(N:Keyed->Nat):Prop:=
 ∀x y s,D x->D y->SI s->↥A (keyLt' a x.1 y.1) (λb s'=>b=decide (N x<N y)/\SI s') (λ_ _=>False) s
end
section
variable{prog:Program}{w:World}{A:Around}{SI:Shared->Prop}{α β:Type}
def av{st:SortSt}(h:Q a st):(SC prog w A SI) (pure a) Q st:=λs b=>by
 exact Z3 %[b|h]
def ar{st:SortSt}(h:(SC prog w A SI) m (λa b=>(SC prog w A SI) (f a) Q b) st):(SC prog w A SI) (m>>= f) Q st:=λs c=>by
 exact Z2 (wpAny_mono (h s c) (λr s' h'=>h'.2 s' h'.1) λ_ _ e=>e)
def bN{st:SortSt}(h:(SC prog w A SI) m Q st)(c:∀a b,Q a b->d a b):(SC prog w A SI) m d st:=λs f=>
 wpAny_mono (h s f) (λr s' h'=>%[h'.1|c _ _ h'.2]) λ_ _ e=>e
def fV{st:SortSt}(h:Q st st):(SC prog w A SI) get Q st:=λs a=>by
 exact Z3 %[a|h]
def cz{st:SortSt}(h:Q ⟨⟩ (f st)):(SC prog w A SI) (modify f) Q st:=λs a=>by
 exact Z3 %[a|h]
def Fu{st:SortSt}(h:Q ⟨⟩ x):(SC prog w A SI) (set x) Q st:=λs a=>by
 exact Z3 %[a|h]
def wS{st:SortSt}(h:∀s,SI s->↥A m (λa s'=>SI s'/\Q a st) (λ_ _=>False) s):(SC prog w A SI) (liftM m:StateT SortSt Sem α) Q st:=λs b=>by
 exact Z2 (wpAny_mono (h s b) (λa s' h'=>Z3 h') λ_ _ e=>e)
def jm{st:SortSt}(h:Q () st):(SC prog w A SI) (liftM (rule t):StateT SortSt Sem Unit) Q st:=wS λs a=>wpAny_rule %[a|h]
def bC{st:SortSt}(I:Nat->β->SortSt->Prop)(j:a<=b)(p:I a c st)
 (l:∀i x st,a<=i->i<b->I i x st->(SC prog w A SI) (f i x) (λr g=>match r with| .done y=>Q y g| .yield y=>I (i+1) y g) st) (m:∀x st,I b x st->Q x st):(SC prog w A SI) (forIn [a:b] c f) Q st:=by
 have q:∀d i x st,i+d=b->a<=i->I i x st->(SC prog w A SI) (forIn (List.range' i d 1) x f) Q st:=by
  intro d
  induction d with
  | zero=>
    intro i x st e _ h;subst e;exact av (m x st h)
  | succ d n=>
    intro i x st e o h;rw[List.range'_succ,forIn_cons];refine ar (bN (l i x st o ⋯ h) λr g h'=>?_);cases r with
    | done y=>exact av h'
    | yield y=>exact n _ y g ⋯ ⋯ h'
 simp_all
def bh{st:SortSt}(a:xs[i]? =some x)(h:Q x st):(SC prog w A SI) (elem' xs i) Q st:=by
 rw[elem'_eq,a];exact av h
def tQ{st:SortSt}(c:Cmp prog w A SI (kindOf st) D N)(d:D x)(f:D y)(h:Q (some (decide (N x<N y))) st):(SC prog w A SI) (lt' x y) Q st:=by
 refine ar (fV (ar (wS (λs g=>wpAny_attempt (wpAny_mono (c x y s d f g) (λb s' ⟨i,a⟩=>?_) λ_ _ e=>e.elim)))));subst i;exact%[a|av h]
def C5{st:SortSt}(c:Cmp prog w A SI (kindOf st) D N)(hi:(arrOf st)[i]? =some x)(a:(arrOf st)[j]? =some y)(b:D x)(d:D y)
 (h:Q (some (decide (N x<N y))) st):(SC prog w A SI) (ltAt' i j) Q st:=by
 exact ar (fV (ar (bh hi (ar (bh a (tQ c b d h))))))
end
abbrev fI:Bool->Keyed->Array Keyed->Nat->Nat->Nat->StateT SortSt Sem (Option Nat):=sortPriv% PySem.Builtin.gallop
end SBig
namespace SBig
open PySem PyProof.Rows
section
variable{prog:Program}{w:World}{A:Around}{SI:Shared->Prop}{α β:Type}
abbrev bV(N:Keyed->Nat)(left:Bool)(a x:Keyed):Bool:=if left then decide (N x<N a)else !decide (N a<N x)
def yD{D:Keyed->Prop}{N:Keyed->Nat}{left:Bool}{a x:Keyed}{b:Array Keyed}{i:Nat}{Q:Option Bool->SortSt->Prop}{st:SortSt}(c:Cmp prog w A SI (kindOf st) D N)(d:D a)(f:b[i]? =some x)(e:D x)
 (h:Q (some (bV N left a x)) st):(SC prog w A SI) (do let x<-elem' b i;if left=true then lt' x a else do let y<-lt' a x;pure (y.map (!·))) Q st:=by
 refine ar (bh f ?_);cases left with
 | true=>
   exact tQ c e d h
 | false=>
   exact ar (tQ c d e (av h))
abbrev ga0(left:Bool)(a:Keyed)(b:Array Keyed)(base i:Nat):StateT SortSt Sem (Option Bool):=do
 let x<-elem' b (base+i)
 if left=true then lt' x a else do
  let y<-lt' a x
  pure (y.map (!·))
abbrev gaM(f:Nat->StateT SortSt Sem (Option Bool))(x:Option (Option Nat)×Nat×Nat):StateT SortSt Sem (ForInStep (Option (Option Nat)×Nat×Nat)):=
 if x.2.1>=x.2.2 then pure (.done (none,x.2.1,x.2.2))else do
  match<-f (x.2.1+(x.2.2-x.2.1)/2)with
  | some w=>if w=true then pure (.yield (none,x.2.1+(x.2.2-x.2.1)/2+1,x.2.2))else pure (.yield (none,x.2.1,x.2.1+(x.2.2-x.2.1)/2))
  | _=>pure (.done (some none,x.2.1,x.2.2))
abbrev ga3(f:Nat->StateT SortSt Sem (Option Bool))(n lo hi:Nat):StateT SortSt Sem (Option Nat):=do
 let x<-forIn [0:n] (none,lo,hi) λ_ x=>gaM f x
 match x.1 with
 | some r=>pure r
 | none=>pure (some x.2.2)
abbrev ga1(f:Nat->StateT SortSt Sem (Option Bool))(n hint:Nat)(x:Option (Option Nat)×Nat×Nat):StateT SortSt Sem (ForInStep (Option (Option Nat)×Nat×Nat)):=
 if x.2.2>=n-hint then pure (.done (none,x.2.1,x.2.2))else do
  match<-f (hint+x.2.2)with
  | some w=>if(!w)=true then pure (.done (none,x.2.1,x.2.2))else pure (.yield (none,x.2.2,2*x.2.2+1))
  | _=>pure (.done (some none,x.2.1,x.2.2))
abbrev ga2(f:Nat->StateT SortSt Sem (Option Bool))(hint:Nat)(x:Option (Option Nat)×Nat×Nat):StateT SortSt Sem (ForInStep (Option (Option Nat)×Nat×Nat)):=
 if x.2.2>=hint+1 then pure (.done (none,x.2.1,x.2.2))else do
  match<-f (hint-x.2.2)with
  | some w=>if w=true then pure (.done (none,x.2.1,x.2.2))else pure (.yield (none,x.2.2,2*x.2.2+1))
  | _=>pure (.done (some none,x.2.1,x.2.2))
set_option smartUnfolding false in
def GR(left:Bool)(a:Keyed)(b:Array Keyed)(base n hint:Nat):fI left a b base n hint=(do
 match<-ga0 left a b base hint with
 | some w=>
   if w=true then(do
    let x<-forIn [0:n] (none,0,1) λ_ x=>ga1 (ga0 left a b base) n hint x
    match x.1 with
    | some r=>pure r
    | none=>ga3 (ga0 left a b base) n (hint+x.2.1+1) (hint+min x.2.2 (n-hint)))
   else(do
    let x<-forIn [0:n] (none,0,1) λ_ x=>ga2 (ga0 left a b base) hint x
    match x.1 with
    | some r=>pure r
    | none=>ga3 (ga0 left a b base) n (hint+1-min x.2.2 (hint+1)) (hint-x.2.1))
 | _=>pure none):=rfl
def AO{f:Nat->StateT SortSt Sem (Option Bool)}{n lo hi:Nat}{Q:Option Nat->SortSt->Prop}{a:SortSt}{P:Nat->Bool}(ask:∀(i:Nat) (R:Option Bool->SortSt->Prop),i<n->R (some (P i)) a->(SC prog w A SI) (f i) R a)(c:∀i j,i<=j->j<n->P j=true->P i=true)
 (s:lo<=hi) (t:hi<=n) (u:∀i,i<lo->P i=true) (v:∀i,hi<=i->i<n->P i=false)
 (h:∀k,k<=n->(∀i,i<k->P i=true)->(∀i,k<=i->i<n->P i=false)->Q (some k) a):(SC prog w A SI) (ga3 f n lo hi) Q a:=by
 refine ar (bN (bC (Q:=λx b=>b=a/\∃k,x=(none,k,k)/\k<=n/\(∀i,i<k->P i=true)/\(∀i,k<=i->i<n->P i=false))
  (λj x b=>b=a/\∃l k,x=(none,l,k)/\l<=k/\k-l<=n-j/\k<=n/\(∀i,i<l->P i=true)/\(∀i,k<=i->i<n->P i=false)) (Xj _) %[rfl,_,_,rfl,s,⋯,t,u|v] ?_ ?_) ?_)
 .intro j x b _ B %[rfl,l,k,rfl,p,y,d,e|g];unfold gaM;dsimp only;by_cases m:l>=k
  .rw[if_pos m];obtain rfl:l=k:=by lia
   exact av %[rfl,l,rfl,d,e|g]
  .rw[if_neg m];have o:l+(k-l)/2<k:=by lia
   refine ar (ask _ _ ⋯ ?_);dsimp only;cases q:P _ with
   | true=>
     exact av %[rfl,_,_,rfl,o,⋯,d,λi hi=>c i _ ⋯ ⋯ q|g]
   | false=>
     refine av %[rfl,_,_,rfl,⋯,⋯,⋯,e|λi hi r=>?_];cases z:P i with
     | false=>rfl
     | true=>rw[c _ i hi r z]at q;cases q
 .intro x b %[rfl,l,k,rfl,p,y,d,e|g];obtain rfl:l=k:=by lia
  exact%[rfl,l,rfl,d,e|g]
 .intro x b %[rfl,k,rfl,d,e|g];exact av (h k d e g)
def eO{D:Keyed->Prop}{N:Keyed->Nat}{left:Bool}{q:Keyed}{r:Array Keyed}{base n hint:Nat}{Q:Option Nat->SortSt->Prop}{st:SortSt}(c:Cmp prog w A SI (kindOf st) D N)(C:D q)
 (E:∀i,i<n->∃x,r[base+i]? =some x/\D x) (P:Nat->Bool) (G:∀i x,i<n->r[base+i]? =some x->P i=bV N left q x) (a:∀i j,i<=j->j<n->P j=true->P i=true) (y:hint<n)
 (h:∀k,k<=n->(∀i,i<k->P i=true)->(∀i,k<=i->i<n->P i=false)->Q (some k) st):(SC prog w A SI) (fI left q r base n hint) Q st:=by
 have ask:∀(i:Nat) (R:Option Bool->SortSt->Prop),i<n->R (some (P i)) st->(SC prog w A SI) (ga0 left q r base i) R st:=λi R hi H=>by
  have%[x,z|I]:=E i hi;exact yD c C z I ((G i x hi z)▸H)
 rw[GR];refine ar (ask hint _ y ?_);dsimp only;cases B:P hint with
 | true=>
   rw[if_pos rfl];refine ar (bN (bC (Q:=λx d=>d=st/\∃l o,x=(none,l,o)/\l<o/\hint+l<n/\P (hint+l)=true/\(n-hint<=o\/(hint+o<n/\P (hint+o)=false)))
    (λj x d=>d=st/\∃l o,x=(none,l,o)/\l<o/\hint+l<n/\P (hint+l)=true/\j<o) (Xj _) %[rfl,0,1,rfl,one_pos,y,B|one_pos] ?_ ?_) ?_)
   .intro j x d _ J %[rfl,l,o,rfl,e,b,g|s];unfold ga1;dsimp only;by_cases f:o>=n-hint
    .rw[if_pos f];exact av %[rfl,l,o,rfl,e,b,g|.inl f]
    .rw[if_neg f];have m:hint+o<n:=by lia
     refine ar (ask _ _ m ?_);dsimp only;cases p:P (hint+o)with
     | true=>
       rw[if_neg ∅];exact av %[rfl,o,_,rfl,⋯,m,p|⋯]
     | false=>
       rw[if_pos ∅];exact av %[rfl,l,o,rfl,e,b,g|.inr %[m|p]]
   .intro x d %[rfl,l,o,rfl,e,b,g|s];exact%[rfl,l,o,rfl,e,b,g|.inl ⋯]
   .intro x u %[rfl,l,o,rfl,e,b,g|m];refine AO ask a ⋯ ⋯ (λi hi=>a i _ ⋯ b g) (λi hi t=>?_) h;rcases m with m|⟨m,p⟩
    .lia
    .cases v:P i with
     | false=>rfl
     | true=>rw[a _ i ⋯ t v]at p;cases p
 | false=>
   rw[if_neg ∅];refine ar (bN (bC (Q:=λx d=>d=st/\∃l o,x=(none,l,o)/\l<o/\l<=hint/\P (hint-l)=false/\(hint+1<=o\/(o<=hint/\P (hint-o)=true)))
    (λj x d=>d=st/\∃l o,x=(none,l,o)/\l<o/\l<=hint/\P (hint-l)=false/\j<o) (Xj _) %[rfl,0,1,rfl,one_pos,Xj _,B|one_pos] ?_ ?_) ?_)
   .intro j x d _ J %[rfl,l,o,rfl,e,b,g|s];unfold ga2;dsimp only;by_cases f:o>=hint+1
    .rw[if_pos f];exact av %[rfl,l,o,rfl,e,b,g|.inl f]
    .rw[if_neg f];have m:o<=hint:=by lia
     refine ar (ask _ _ ⋯ ?_);dsimp only;cases p:P (hint-o)with
     | false=>
       rw[if_neg ∅];exact av %[rfl,o,_,rfl,⋯,m,p|⋯]
     | true=>
       rw[if_pos rfl];exact av %[rfl,l,o,rfl,e,b,g|.inr %[m|p]]
   .intro x d %[rfl,l,o,rfl,e,b,g|s];exact%[rfl,l,o,rfl,e,b,g|.inl ⋯]
   .intro x u %[rfl,l,o,rfl,e,b,g|m];refine AO ask a ⋯ ⋯ (λi hi=>?_) (λi hi t=>?_) h
    .rcases m with m|⟨m,p⟩
     .lia
     .exact a i _ ⋯ ⋯ p
    .cases v:P i with
     | false=>rfl
     | true=>rw[a _ i ⋯ t v]at g;cases g
end
end SBig
namespace SBig
open PySem PyProof.Rows
abbrev nN:Array Keyed->Array Keyed->StateT SortSt Sem (Array Keyed):=sortPriv% PySem.Builtin.mergeLo
abbrev nO:Array Keyed->Array Keyed->StateT SortSt Sem (Array Keyed):=sortPriv% PySem.Builtin.mergeHi
abbrev cR:Nat->StateT SortSt Sem Unit:=sortPriv% PySem.Builtin.setMinGallop
def gE(g:Nat):cR g=modify (λs=>SortSt.mk' (kindOf s) (arrOf s) (pendingOf s) g (failedOf s)):=rfl
abbrev Srt(N:Keyed->Nat)(l:List Keyed):Prop:=l.Pairwise λx y=>N x<=N y
def Srt.drop{N:Keyed->Nat}{l:List Keyed}(h:Srt N l)(k:Nat):Srt N (l.drop k):=List.Pairwise.sublist (List.drop_sublist _ _) h
def Srt.le{N:Keyed->Nat}{l:List Keyed}(h:Srt N l){i j:Nat}{x y:Keyed}(a:i<=j)(b:l[i]? =some x)(c:l[j]? =some y):N x<=N y:=by
 rcases Nat.eq_or_lt_of_le a with e|e
 .simp_all
 .have%[d|g]:=Xr b;have%[f|m]:=Xr c;have:=pairwise_iff_getElem.mp h i j d f e
  simp_all
def bR{l:List Keyed}{k:Nat}{y:Keyed}(h:y∈l.drop k):∃j,k<=j/\j<l.length/\l[j]? =some y:=by
 have%[i|hi]:=Xk h;rw[Yc]at hi;exact%[k+i,⋯,(Xr hi).1|hi]
def mj{l:List Keyed}{i k:Nat}{x:Keyed}(h:x∈(l.drop i).take k):∃j,j<k/\l[i+j]? =some x:=by
 have%[j|a]:=Xk h;rw[Yd]at a
 split at a
 .rw[Yc]at a;exact%[j,by assumption|a]
 .lia
def Srt.drop_le{N:Keyed->Nat}{l:List Keyed}(h:Srt N l){i:Nat}{x y:Keyed}(a:l[i]? =some x)(b:y∈l.drop i):N x<=N y:=by
 have%[j,c,_|e]:=bR b;exact h.le c a e
structure MI (N:Keyed->Nat) (A B out:List Keyed) (ia ib:Nat):Prop where
 perm:(out++A.drop ia++B.drop ib).Perm (A++B)
 srt:Srt N out
 ca:∀x∈out,∀y∈A.drop ia,N x<=N y
 cb:∀x∈out,∀y∈B.drop ib,N x<=N y
def MI.zero(N:Keyed->Nat)(A B:List Keyed):MI N A B [] 0 0:=%[by simp,List.Pairwise.nil,λ_ h=>(nomatch h)|λ_ h=>(nomatch h)]
def MI.takeA{N:Keyed->Nat}{A B out:List Keyed}{b d:Nat}(h:MI N A B out b d)(g:Srt N A)(k:Nat)(f:∀x∈(A.drop b).take k,∀y∈B.drop d,N x<=N y):MI N A B (out++(A.drop b).take k) (b+k) d:=by
 have e:A.drop b=(A.drop b).take k++A.drop (b+k):=drop_drop▸(Xg k _).symm;have%[i,_|j]:=pairwise_append.mp (e▸g.drop b);refine%[?_,pairwise_append.mpr %[h.srt,i|λx a y c=>h.ca x a y (X2 c)],λx a y c=>?_|λx a y c=>?_]
 .have p:=h.perm;rw[e]at p;rwa[<-Ze]at p
 .rcases Xs a with a|a
  .exact h.ca x a y (e▸Yy _ c)
  .exact j x a y c
 .rcases Xs a with a|a
  .exact h.cb x a y c
  .exact f x a y c
def MI.takeB{N:Keyed->Nat}{A B out:List Keyed}{d b:Nat}(h:MI N A B out d b)(g:Srt N B)(k:Nat)(f:∀x∈(B.drop b).take k,∀y∈A.drop d,N x<=N y):MI N A B (out++(B.drop b).take k) d (b+k):=by
 have e:B.drop b=(B.drop b).take k++B.drop (b+k):=drop_drop▸(Xg k _).symm;have%[i,_|j]:=pairwise_append.mp (e▸g.drop b);refine%[?_,pairwise_append.mpr %[h.srt,i|λx a y c=>h.cb x a y (X2 c)],λx a y c=>?_|λx a y c=>?_]
 .have p:=h.perm;rw[e]at p;refine List.Perm.trans ?_ p;rw[Ze,Ze,Ze];refine List.Perm.append_left _ ?_;rw[<-Ze,<-Ze];exact Xp _ perm_append_comm
 .rcases Xs a with a|a
  .exact h.ca x a y c
  .exact f x a y c
 .rcases Xs a with a|a
  .exact h.cb x a y (e▸Yy _ c)
  .exact j x a y c
abbrev cS(N:Keyed->Nat)(A B r:List Keyed):Prop:=Srt N r/\r.Perm (A++B)
def MI.done{N:Keyed->Nat}{A B out:List Keyed}{a b:Nat}(h:MI N A B out a b)(e:Srt N A)(f:Srt N B)(g:∀x∈A.drop a,∀y∈B.drop b,N x<=N y):cS N A B (out++A.drop a++B.drop b):=
 %[pairwise_append.mpr %[pairwise_append.mpr %[h.srt,e.drop a|h.ca],f.drop b|λx c y d=>(Xs c).elim (λq=>h.cb x q y d) λq=>g x q y d]|h.perm]
def MI.last{N:Keyed->Nat}{A B out:List Keyed}{a b:Nat}(h:MI N A B out a b)(e:Srt N A)(f:Srt N B)(g:∀y∈B.drop b,∀x∈A.drop a,N y<=N x):cS N A B (out++B.drop b++A.drop a):=by
 refine%[pairwise_append.mpr %[pairwise_append.mpr %[h.srt,f.drop b|h.cb],e.drop a|λx c y d=>(Xs c).elim (λq=>h.ca x q y d) λq=>g x q y d]|List.Perm.trans ?_ h.perm];rw[Ze,Ze];exact List.Perm.append_left _ perm_append_comm
def ko{l:List Keyed}{i:Nat}{x:Keyed}(h:l[i]? =some x):(l.drop i).take 1=[x]:=by
 have%[a|e]:=Xr h;rw[List.drop_eq_getElem_cons a,e];rfl
def MI.oneA{N:Keyed->Nat}{A B out:List Keyed}{a b:Nat}{x:Keyed}(h:MI N A B out a b)(e:Srt N A)(d:A[a]? =some x)(c:∀y∈B.drop b,N x<=N y):MI N A B (out++[x]) (a+1) b:=by
 have:=h.takeA e 1 (by rw[ko d];intro z f;rw[Xt f];exact c);rwa[ko d]at this
def MI.oneB{N:Keyed->Nat}{A B out:List Keyed}{a b:Nat}{x:Keyed}(h:MI N A B out a b)(e:Srt N B)(d:B[b]? =some x)(c:∀y∈A.drop a,N x<=N y):MI N A B (out++[x]) a (b+1):=by
 have:=h.takeB e 1 (by rw[ko d];intro z f;rw[Xt f];exact c);rwa[ko d]at this
def nP(a:Array Keyed)(i j:Nat):(a.extract i j).toList=(a.toList.drop i).take (j-i):=by
 simp
def mW(a:Array Keyed)(i:Nat):(a.extract i a.size).toList=a.toList.drop i:=by
 rw[nP,Zn]
 simp_all
abbrev SG(st a:SortSt):Prop:=kindOf a=kindOf st/\arrOf a=arrOf st/\pendingOf a=pendingOf st/\failedOf a=failedOf st
def SG.refl(st:SortSt):SG st st:=%[rfl,rfl,rfl|rfl]
def SG.set{st a:SortSt}(h:SG st a)(g:Nat):SG st (SortSt.mk' (kindOf a) (arrOf a) (pendingOf a) g (failedOf a)):=h
end SBig
namespace SBig
open PySem PyProof.Rows
section
variable{prog:Program}{w:World}{A:Around}{SI:Shared->Prop}{α β:Type}
def aX{a:Array Keyed}{i:Nat}(h:i<a.size):a[i]? =some a[i]/\a.toList[i]? =some a[i]:=%[by simp|by simp]
def rY(a:Array Keyed)(i k:Nat):(a.extract i (i+k)).toList=(a.toList.drop i).take k:=by
 simp
def qz{N:Keyed->Nat}{a:Array Keyed}{b:Nat}{c d:Keyed}(g:Srt N a.toList){i j:Nat}(m:i<=j)(f:b+j<a.size)(h:bV N false c (a.getD (b+j) d)=true):bV N false c (a.getD (b+i) d)=true:=by
 have e:∀i hi,a.getD (b+i) d=a[b+i]:=λi hi=>by simp[hi]
 rw[e j f]at h;rw[e i ⋯];have l:=g.le (i:=b+i) ⋯ (aX ⋯).2 (aX f).2;unfold bV at h ⊢
 grind
def qA{N:Keyed->Nat}{a:Array Keyed}{b:Nat}{c d:Keyed}(g:Srt N a.toList){i j:Nat}(m:i<=j)(f:b+j<a.size)(h:bV N true c (a.getD (b+j) d)=true):bV N true c (a.getD (b+i) d)=true:=by
 have e:∀i hi,a.getD (b+i) d=a[b+i]:=λi hi=>by simp[hi]
 rw[e j f]at h;rw[e i ⋯];have l:=g.le (i:=b+i) ⋯ (aX ⋯).2 (aX f).2;unfold bV at h ⊢
 grind
def GS{N:Keyed->Nat}{a:Array Keyed}{c n k:Nat}{b d:Keyed}(f:∀i,i<k->bV N false b (a.getD (c+i) d)=true)(g:∀i,k<=i->i<n->bV N false b (a.getD (c+i) d)=false):
 (∀i x,i<k->a[c+i]? =some x->N x<=N b)/\∀i x,k<=i->i<n->a[c+i]? =some x->N b<N x:=by
 refine%[λi x hi e=>?_|λi x hi h e=>?_]
 .have:=f i hi;rw[Zs,e]at this;unfold bV at this;simpa using this
 .have:=g i hi h;rw[Zs,e]at this;unfold bV at this;simpa using this
def GT{N:Keyed->Nat}{a:Array Keyed}{c n k:Nat}{b d:Keyed}(f:∀i,i<k->bV N true b (a.getD (c+i) d)=true)(g:∀i,k<=i->i<n->bV N true b (a.getD (c+i) d)=false):
 (∀i x,i<k->a[c+i]? =some x->N x<N b)/\∀i x,k<=i->i<n->a[c+i]? =some x->N b<=N x:=by
 refine%[λi x hi e=>?_|λi x hi h e=>?_]
 .have:=f i hi;rw[Zs,e]at this;unfold bV at this;simpa using this
 .have:=g i hi h;rw[Zs,e]at this;unfold bV at this;simpa using this
structure ML (N:Keyed->Nat) (a b out:Array Keyed) (ia ib:Nat):Prop where
 mi:MI N a.toList b.toList out.toList ia ib
 na:ia+1<a.size
 nb:ib<b.size
abbrev lo3(a b out:Array Keyed)(c d g k k1:Nat):StateT SortSt Sem (ForInStep (Option (Array Keyed)×Array Keyed×Nat×Nat×Nat×Nat×Nat)):=elem' a c>>= λe=>if(c+1+1==a.size)=true then pure (.done (some (out.push e++b.extract d b.size++a.extract (c+1) a.size),out.push e,c+1,d,g,k,k1))else if(decide (k<7)&&decide (k1<7))=true then pure (.done (none,out.push e,c+1,d,g,k,k1))else pure (.yield (none,out.push e,c+1,d,g,k,k1))
abbrev lo2(a b out:Array Keyed)(d c g k f:Nat):StateT SortSt Sem (ForInStep (Option (Array Keyed)×Array Keyed×Nat×Nat×Nat×Nat×Nat)):=elem' b c>>= λe=>if(c+1==b.size)=true then pure (.done (some (out.push e++a.extract d a.size++b.extract (c+1) b.size),out.push e,d,c+1,g,k,f))else elem' a d>>= λh=>fI true h b (c+1) (b.size-(c+1)) 0>>= fun|some k1=>if k1>0 then if(c+1+k1==b.size)=true then pure (.done (some (out.push e++b.extract (c+1) (c+1+k1) ++a.extract d a.size++b.extract (c+1+k1) b.size),out.push e++b.extract (c+1) (c+1+k1),d,c+1+k1,g,k,k1))else lo3 a b (out.push e++b.extract (c+1) (c+1+k1)) d (c+1+k1) g k k1 else lo3 a b (out.push e) d (c+1) g k k1|_=>pure (.done (some (out.push e++a.extract d a.size++b.extract (c+1) b.size),out.push e,d,c+1,g,k,f))
abbrev lo1(a b out:Array Keyed)(c d h f g:Nat):StateT SortSt Sem (ForInStep (Option (Array Keyed)×Array Keyed×Nat×Nat×Nat×Nat×Nat)):=cR g>>= λ_=>elem' b d>>= λe=>fI false e a c (a.size-c) 0>>= fun|some k=>if k>0 then if(c+k+1==a.size)=true then pure (.done (some (out++a.extract c (c+k) ++b.extract d b.size++a.extract (c+k) a.size),out++a.extract c (c+k),c+k,d,g,k,f))else if(c+k==a.size)=true then pure (.done (some (out++a.extract c (c+k) ++a.extract (c+k) a.size++b.extract d b.size),out++a.extract c (c+k),c+k,d,g,k,f))else lo2 a b (out++a.extract c (c+k)) (c+k) d g k f else lo2 a b out c d g k f|_=>pure (.done (some (out++a.extract c a.size++b.extract d b.size),out,c,d,g,h,f))
abbrev loI(a b out:Array Keyed)(c d g f h:Nat):StateT SortSt Sem (ForInStep (Option (Array Keyed)×Array Keyed×Nat×Nat×Nat×Nat)):=elem' b d>>= λi=>elem' a c>>= λj=>lt' i j>>= fun|some w=>if w=true then(elem' b d>>= λe=>if(d+1==b.size)=true then pure (.done (some (out.push e++a.extract c a.size++b.extract (d+1) b.size),out.push e,c,d+1,0,h+1))else if h+1>=g then pure (.done (none,out.push e,c,d+1,0,h+1))else pure (.yield (none,out.push e,c,d+1,0,h+1)))else(elem' a c>>= λe=>if(c+1+1==a.size)=true then pure (.done (some (out.push e++b.extract d b.size++a.extract (c+1) a.size),out.push e,c+1,d,f+1,0))else if f+1>=g then pure (.done (none,out.push e,c+1,d,f+1,0))else pure (.yield (none,out.push e,c+1,d,f+1,0)))|_=>pure (.done (some (out++a.extract c a.size++b.extract d b.size),out,c,d,f,h))
abbrev loG(a b:Array Keyed):Option (Array Keyed)×Array Keyed×Nat×Nat×Nat×Nat×Nat->StateT SortSt Sem (ForInStep (Option (Array Keyed)×Array Keyed×Nat×Nat×Nat×Nat×Nat)):=λx=>
 if x.2.2.2.2.1>1 then lo1 a b x.2.1 x.2.2.1 x.2.2.2.1 x.2.2.2.2.2.1 x.2.2.2.2.2.2 (x.2.2.2.2.1-1)else lo1 a b x.2.1 x.2.2.1 x.2.2.2.1 x.2.2.2.2.2.1 x.2.2.2.2.2.2 x.2.2.2.2.1
abbrev loE(x:Option (Array Keyed)×Array Keyed×Nat×Nat×Nat×Nat×Nat):StateT SortSt Sem (ForInStep (Option (Array Keyed)×Array Keyed×Nat×Nat×Nat)):=
 match x.1 with
 | some r=>pure (.done (some r,x.2.1,x.2.2.1,x.2.2.2.1,x.2.2.2.2.1))
 | none=>do
   cR (x.2.2.2.2.1+1)
   pure (.yield (none,x.2.1,x.2.2.1,x.2.2.2.1,x.2.2.2.2.1+1))
abbrev loF(a b:Array Keyed)(g:Nat)(x:Option (Array Keyed)×Array Keyed×Nat×Nat×Nat×Nat):StateT SortSt Sem (ForInStep (Option (Array Keyed)×Array Keyed×Nat×Nat×Nat)):=
 match x.1 with
 | some r=>pure (.done (some r,x.2.1,x.2.2.1,x.2.2.2.1,g))
 | none=>do
   rule "list.sort.gallop"
   let x<-forIn [0:a.size+b.size] (none,x.2.1,x.2.2.1,x.2.2.2.1,g+1,x.2.2.2.2.1,x.2.2.2.2.2) λ_ x=>loG a b x
   loE x
abbrev loO(a b:Array Keyed):Option (Array Keyed)×Array Keyed×Nat×Nat×Nat->StateT SortSt Sem (ForInStep (Option (Array Keyed)×Array Keyed×Nat×Nat×Nat)):=λx=>do
 let y<-forIn [0:a.size+b.size] (none,x.2.1,x.2.2.1,x.2.2.2.1,0,0) λ_ y=>loI a b y.2.1 y.2.2.1 y.2.2.2.1 x.2.2.2.2 y.2.2.2.2.1 y.2.2.2.2.2
 loF a b x.2.2.2.2 y
abbrev loR(x:Option (Array Keyed)×Array Keyed×Nat×Nat×Nat):StateT SortSt Sem (Array Keyed):=
 match x.1 with
 | some r=>pure r
 | none=>unsupported "internal:list.sort.merge-bound"
set_option smartUnfolding false in
def GU(a b:Array Keyed):nN a b=(do
 rule "list.sort.merge-lo"
 let e<-elem' b 0
 if(1==b.size)=true then pure (#[e] ++a.extract 0 a.size++b.extract 1 b.size)
 else if(0+1==a.size)=true then pure (#[e] ++b.extract 1 b.size++a.extract 0 a.size)
 else do
  let s<-get
  let x<-forIn [0:a.size+b.size] (none,#[e],0,1,gallopOf s) λ_ x=>loO a b x
  loR x):=by
 rfl
def SG.trans{s t u:SortSt}(h:SG s t)(k:SG t u):SG s u:=%[k.1.trans h.1,k.2.1.trans h.2.1,k.2.2.1.trans h.2.2.1|k.2.2.2.trans h.2.2.2]
structure LC (prog:Program) (w:World) (A:Around) (SI:Shared->Prop) (D:Keyed->Prop) (N:Keyed->Nat) (a b:Array Keyed) (st:SortSt):Prop where
 c:Cmp prog w A SI (kindOf st) D N
 hA:Srt N a.toList
 hB:Srt N b.toList
 DA:∀{i:Nat} (hi:i<a.size),D a[i]
 DB:∀{i:Nat} (hi:i<b.size),D b[i]
 fd:∀(out:Array Keyed) (ia ib:Nat),MI N a.toList b.toList out.toList ia ib->(a.size<=ia\/b.size<=ib)->cS N a.toList b.toList (out++a.extract ia a.size++b.extract ib b.size).toList
 fl:∀(out:Array Keyed) (ia ib:Nat),MI N a.toList b.toList out.toList ia ib->ia+1=a.size->cS N a.toList b.toList (out++b.extract ib b.size++a.extract ia a.size).toList
def LC.of{D:Keyed->Prop}{N:Keyed->Nat}{a b:Array Keyed}{s t:SortSt}(C:LC prog w A SI D N a b s)(h:SG s t):LC prog w A SI D N a b t:={C with c:=h.1▸C.c}
variable{D:Keyed->Prop}{N:Keyed->Nat}{a b out:Array Keyed}{ia ib g k bc z:Nat}{st:SortSt}
def AQ{k1:Nat}{R:ForInStep _->SortSt->Prop}(C:LC prog w A SI D N a b st)(m:MI N a.toList b.toList out.toList ia ib)(na:ia+1<a.size)(nb:ib<b.size)(c:∀y∈b.toList.drop ib,N (a[ia]'⋯)<=N y)(p:z<=out.size+1)
 (j:∀r o,cS N a.toList b.toList r.toList->R (.done (some r,o)) st) (l:∀out ia ib g k k1,ML N a b out ia ib->z<=out.size->R (.done (none,out,ia,ib,g,k,k1)) st/\R (.yield (none,out,ia,ib,g,k,k1)) st):(SC prog w A SI) (lo3 a b out ia ib g k k1) R st:=by
 have%[n|d]:=aX (a:=a) (i:=ia) ⋯;refine ar (bh n ?_);have e:=MI.oneA m C.hA d c;rw[<-toList_push]at e;by_cases f:ia+1+1=a.size
 .rw[if_pos (by simp[f])];exact av (j _ _ (C.fl _ _ _ e f))
 rw[if_neg (by simp[f])];have h:=l _ _ _ g k k1 (ML.mk e ⋯ nb) (by simp_all)
 split
 .exact av h.1
 .exact av h.2
def AR{R:ForInStep (Option (Array Keyed)×Array Keyed×Nat×Nat×Nat×Nat×Nat)->SortSt->Prop}(C:LC prog w A SI D N a b st)(m:MI N a.toList b.toList out.toList ia ib)(na:ia+1<a.size)(nb:ib<b.size)(h:∀y∈a.toList.drop ia,N b[ib]<=N y)(T:z<=out.size+2)
 (d:∀r o,cS N a.toList b.toList r.toList->R (.done (some r,o)) st) (u:∀out ia ib g k k1,ML N a b out ia ib->z<=out.size->R (.done (none,out,ia,ib,g,k,k1)) st/\R (.yield (none,out,ia,ib,g,k,k1)) st):(SC prog w A SI) (lo2 a b out ia ib g k bc) R st:=by
 have%[H|l]:=aX (a:=b) (i:=ib) nb;have%[I|n]:=aX (a:=a) (i:=ia) ⋯;unfold lo2;refine ar (bh H ?_);have f:=MI.oneB m C.hB l h;rw[<-toList_push]at f;by_cases v:ib+1=b.size
 .rw[if_pos (by simp[v])];exact av (d _ _ (C.fd _ _ _ f (.inr ⋯)))
 rw[if_neg (by simp[v])];refine ar (bh I ?_);refine ar (eO C.c (C.DA ⋯) (λi hi=>%[b[ib+1+i]'⋯,(aX ⋯).1|C.DB ⋯]) (λi=>bV N true (a[ia]'⋯) (b.getD (ib+1+i) b[ib]))
  (λi x hi p=>by rw[Zs,p];rfl) (λi U q hi J=>qA C.hB q ⋯ J) ⋯ λk2 L M O=>?_)
 dsimp only;have B:=GT M O;have c:∀y∈b.toList.drop (ib+1+k2),N (a[ia]'⋯)<=N y:=λy s=>by
  have%[j,Y,Q|e]:=bR s;rw[Zb]at Q;exact B.2 (j-(ib+1)) y ⋯ ⋯ (by rw[show ib+1+(j-(ib+1))=j by lia];simpa using e)
 have t:=f.takeB C.hB k2 (λx p y s=>by
  have%[i,hi|e]:=mj p;exact Yk (Yi (B.1 i x hi (by simpa using e))) (C.hA.drop_le n s))
 by_cases E:k2>0
 .rw[if_pos E];rw[<-rY,<-Xi]at t;by_cases G:ib+1+k2=b.size
  .rw[if_pos (by simp[G])];exact av (d _ _ (C.fd _ _ _ t (.inr ⋯)))
  rw[if_neg (by simp[G])];exact AQ C t na ⋯ c (by simp;lia) d u
 .rw[if_neg E];obtain rfl:k2=0:=by lia
  exact AQ C f na ⋯ c (by rw[Xn];lia) d u
def Fv{G:Nat}{R:ForInStep (Option (Array Keyed)×Array Keyed×Nat×Nat×Nat×Nat×Nat)->SortSt->Prop}(C:LC prog w A SI D N a b st)(m:ML N a b out ia ib)(H:z<=out.size+2)
 (l:∀c r o,SG st c->cS N a.toList b.toList r.toList->R (.done (some r,o)) c) (v:∀c out ia ib g k k1,SG st c->ML N a b out ia ib->z<=out.size->R (.done (none,out,ia,ib,g,k,k1)) c/\R (.yield (none,out,ia,ib,g,k,k1)) c):(SC prog w A SI) (lo1 a b out ia ib G bc g) R st:=by
 have d:=m.nb;have n:=m.na;have%[I|p]:=aX (a:=b) (i:=ib) d;unfold lo1;rw[gE];refine ar (cz ?_);have sg:=(SG.refl st).set g;refine ar (bh I ?_);refine ar (eO (C.of sg).c (C.DB d) (λi hi=>%[a[ia+i]'⋯,(aX ⋯).1|C.DA ⋯]) (λi=>bV N false b[ib] (a.getD (ia+i) b[ib]))
  (λi x hi q=>by rw[Zs,q];rfl) (λi Q s hi J=>qz C.hA s ⋯ J) ⋯ λk T L M=>?_)
 dsimp only;have B:=GS L M;have mk:=m.mi.takeA C.hA k (λx q y t=>by
  have%[i,hi|e]:=mj q;exact Yk (B.1 i x hi (by simpa using e)) (C.hB.drop_le p t))
 have f:∀y∈a.toList.drop (ia+k),N b[ib]<=N y:=λy t=>by
  have%[j,U,O|e]:=bR t;rw[Zb]at O;exact Yi (B.2 (j-ia) y ⋯ ⋯ (by rw[show ia+(j-ia)=j by lia];simpa using e))
 by_cases h:k>0
 .rw[if_pos h];rw[<-rY,<-Xi]at mk;by_cases u:ia+k+1=a.size
  .rw[if_pos (by simp[u])];exact av (l _ _ _ sg (C.fl _ _ _ mk u))
  rw[if_neg (by simp[u])];by_cases E:ia+k=a.size
  .rw[if_pos (by simp[E])];exact av (l _ _ _ sg (C.fd _ _ _ mk (.inl ⋯)))
  rw[if_neg (by simp[E])];exact AR (C.of sg) mk ⋯ d f (by simp;lia) (λr o=>l _ r o sg) λout ia ib g k k1=>v _ out ia ib g k k1 sg
 .rw[if_neg h];obtain rfl:k=0:=by lia
  exact AR (C.of sg) m.mi n d f H (λr o=>l _ r o sg) λout ia ib g k k1=>v _ out ia ib g k k1 sg
def Fw{e:Nat}{R:ForInStep (Option (Array Keyed)×Array Keyed×Nat×Nat×Nat×Nat)->SortSt->Prop}(C:LC prog w A SI D N a b st)(m:ML N a b out ia ib)(p:z<=out.size+1)
 (s:∀r o,cS N a.toList b.toList r.toList->R (.done (some r,o)) st) (t:∀out ia ib e bc,ML N a b out ia ib->z<=out.size->R (.done (none,out,ia,ib,e,bc)) st/\R (.yield (none,out,ia,ib,e,bc)) st):(SC prog w A SI) (loI a b out ia ib g e bc) R st:=by
 have l:=m.na;have d:=m.nb;have f:ia<a.size:=by lia
 have%[u|i]:=aX f;have%[v|j]:=aX d;refine ar (bh v (ar (bh u (ar (tQ C.c (C.DB d) (C.DA f) ?_)))));dsimp only;by_cases c:N b[ib]<N a[ia]
 .rw[Zf c,if_pos rfl];refine ar (bh v ?_);have m2:=m.mi.oneB C.hB j λy n=>Yk (Yi c) (C.hA.drop_le i n)
  rw[<-toList_push]at m2;by_cases q:ib+1=b.size
  .rw[if_pos (by simp[q])];exact av (s _ _ (C.fd _ _ _ m2 (.inr ⋯)))
  rw[if_neg (by simp[q])];have h:=t _ _ _ 0 (bc+1) %[m2,l|⋯] (by rw[Xn];exact p)
  split
  .exact av h.1
  .exact av h.2
 .rw[Zh c,if_neg ∅];refine ar (bh u ?_);have m2:=m.mi.oneA C.hA i λy n=>Yk (Nat.le_of_not_lt c) (C.hB.drop_le j n)
  rw[<-toList_push]at m2;by_cases q:ia+1+1=a.size
  .rw[if_pos (by simp[q])];exact av (s _ _ (C.fl _ _ _ m2 q))
  rw[if_neg (by simp[q])];have h:=t _ _ _ (e+1) 0 %[m2,⋯|d] (by rw[Xn];exact p)
  split
  .exact av h.1
  .exact av h.2
def Fx{j:Nat}{q:Option (Array Keyed)}{R:ForInStep (Option (Array Keyed)×Array Keyed×Nat×Nat×Nat)->SortSt->Prop}(C:LC prog w A SI D N a b st)(m:ML N a b out ia ib)(e:j+1<=out.size)
 (p:∀d r o,SG st d->cS N a.toList b.toList r.toList->R (.done (some r,o)) d) (s:∀d out ia ib g,SG st d->ML N a b out ia ib->j+2<=out.size->R (.yield (none,out,ia,ib,g)) d):(SC prog w A SI) (loO a b (q,out,ia,ib,g)) R st:=by
 have t:=m.na;refine ar (bN (bC (Q:=λx d=>SG st d/\((∃r o,x=(some r,o)/\cS N a.toList b.toList r.toList)\/∃out ia ib f bc,x=(none,out,ia,ib,f,bc)/\ML N a b out ia ib/\j+2<=out.size))
  (λj2 x d=>SG st d/\∃out ia ib f bc,x=(none,out,ia,ib,f,bc)/\ML N a b out ia ib/\j+1+j2<=out.size) (Xj _) %[SG.refl _,_,_,_,_,_,rfl,m|e] ?_ ?_) ?_)
 .intro j2 x i _ l %[c,out,ia,ib,f,bc,rfl,m|e];exact Fw (C.of c) m ⋯ (λr o h=>%[c|.inl %[r,o,rfl|h]]) λout ia ib f bc h z=>%[%[c|.inr %[_,_,_,_,_,rfl,h|⋯]],c,_,_,_,_,_,rfl,h|z]
 .intro x i %[c,out,ia,ib,f,bc,rfl,m|e];exact%[c|.inr %[_,_,_,_,_,rfl,m|⋯]]
 .rintro x i ⟨c,⟨r,o,rfl,n⟩|⟨out,ia,ib,f,bc,rfl,m,e⟩⟩
  .exact av (p _ r _ c n)
  .refine ar (jm ?_);refine ar (bN (bC (Q:=λx d=>SG st d/\((∃r o,x=(some r,o)/\cS N a.toList b.toList r.toList)\/∃out ia ib g f bc,x=(none,out,ia,ib,g,f,bc)/\ML N a b out ia ib/\j+2<=out.size))
    (λj2 x d=>SG st d/\∃out ia ib g f bc,x=(none,out,ia,ib,g,f,bc)/\ML N a b out ia ib/\j+2<=out.size) (Xj _) %[c,_,_,_,_,_,_,rfl,m|e] ?_ ?_) ?_)
   .intro j2 x i _ l %[c,out,ia,ib,g,f,bc,rfl,m|e];unfold loG;rw[<-apply_ite _];exact Fv (C.of c) m ⋯ (λd r o sg h=>%[SG.trans c sg|.inl %[r,o,rfl|h]]) λd out ia ib g k k1 sg h z=>%[%[SG.trans c sg|.inr %[_,_,_,_,_,_,rfl,h|z]],SG.trans c sg,_,_,_,_,_,_,rfl,h|z]
   .simp_all
   .rintro x i ⟨c,⟨r,o,rfl,n⟩|⟨out,ia,ib,g,f,bc,rfl,m,e⟩⟩
    .exact av (p _ r _ c n)
    .exact ar (cz (av (s _ _ _ _ _ (c.set _) m e)))
def vW{D:Keyed->Prop}{N:Keyed->Nat}{a b:Array Keyed}{Q:Array Keyed->SortSt->Prop}{st:SortSt}(c:Cmp prog w A SI (kindOf st) D N)(t:Srt N a.toList)(u:Srt N b.toList)(I:∀x∈a.toList,D x)(J:∀x∈b.toList,D x)
 (ha:1<=a.size) (hb:1<=b.size) (L:∀x y,b.toList[0]? =some x->a.toList[0]? =some y->N x<=N y) (M:∀y∈b.toList,∀x∈a.toList.drop (a.size-1),N y<=N x)
 (h:∀r d,SG st d->cS N a.toList b.toList r.toList->Q r d):(SC prog w A SI) (nN a b) Q st:=by
 have O:∀{i:Nat} (hi:i<a.size),D a[i]:=λhi=>I _ ∅
 have T:∀{i:Nat} (hi:i<b.size),D b[i]:=λhi=>J _ ∅
 have G:∀(out:Array Keyed) (ia ib:Nat),MI N a.toList b.toList out.toList ia ib->(a.size<=ia\/b.size<=ib)->cS N a.toList b.toList (out++a.extract ia a.size++b.extract ib b.size).toList:=λout ia ib m q=>by
  rw[Xi,Xi,mW,mW];refine m.done t u λx v y l=>?_
  rcases q with q|q
  .have%[j,U,B|_]:=bR v;rw[Zb]at B
   lia
  .have%[j,U,B|_]:=bR l;rw[Zb]at B
   lia
 have H:∀(out:Array Keyed) (ia ib:Nat),MI N a.toList b.toList out.toList ia ib->ia+1=a.size->cS N a.toList b.toList (out++b.extract ib b.size++a.extract ia a.size).toList:=λout ia ib m q=>by
  rw[Xi,Xi,mW,mW];exact m.last t u λy l x v=>M y (X1 l) x ((show a.size-1=ia by lia)▸v)
 rw[GU];refine ar (jm ?_);have%[Y|n]:=aX (a:=b) (i:=0) ⋯;refine ar (bh Y ?_);have C:MI N a.toList b.toList #[b[0]].toList 0 1:=(MI.zero N a.toList b.toList).oneB u n λy l=>by
  have%[ea|p]:=aX (a:=a) (i:=0) ⋯;exact Yk (L _ _ n p) (t.drop_le p l)
 by_cases q1:1=b.size
 .rw[if_pos (by simp[<-q1])];exact av (h _ st (SG.refl _) (G _ _ _ C (.inr ⋯)))
 rw[if_neg (by simp;lia)];by_cases E:0+1=a.size
 .rw[if_pos (by simp[<-E])];exact av (h _ st (SG.refl _) (H _ _ _ C E))
 rw[if_neg (by simp at E ⊢;lia)];refine ar (fV ?_);refine ar (bN (bC (Q:=λx d=>SG st d/\∃r,x.1=some r/\cS N a.toList b.toList r.toList)
  (λj x d=>SG st d/\∃out ia ib g,x=(none,out,ia,ib,g)/\ML N a b out ia ib/\j+1<=out.size) (Xj _) %[SG.refl _,_,_,_,_,rfl,%[C,⋯|⋯]|Zi _] ?_ ?_) ?_)
 .intro j x e _ hj %[sg,out,ia,ib,g,rfl,m|s];exact Fx (LC.of %[c,t,u,O,T,G|H] sg) m s (λd r o f h=>%[SG.trans sg f,r,rfl|h]) λd out ia ib g f h z=>%[SG.trans sg f,_,_,_,_,rfl,h|z]
 .intro x e %[sg,out,ia,ib,g,rfl,m|s];have:=m.na;have:=m.nb;have q:=m.mi.perm.length_eq;simp only[Z9,Zb]at q
  lia
 .intro x e %[sg,r,hr|gd];have%[x1|x2]:=x;subst hr;exact av (h r e sg gd)
end
end SBig
namespace SBig
open PySem PyProof.Rows
def Srt.take{N:Keyed->Nat}{l:List Keyed}(h:Srt N l)(k:Nat):Srt N (l.take k):=List.Pairwise.sublist (List.take_sublist _ _) h
def bD{l:List Keyed}{k:Nat}{x:Keyed}(h:x∈l.take k):∃j,j<k/\j<l.length/\l[j]? =some x:=by
 have%[j|a]:=Xk h;rw[Yd]at a
 split at a
 .exact%[j,by assumption,(Xr a).1|a]
 .lia
def wU{l:List Keyed}{i k:Nat}{x:Keyed}(h:x∈(l.take k).drop i):∃j,i<=j/\j<k/\j<l.length/\l[j]? =some x:=by
 have%[j,a,b|e]:=bR h;rw[Yd]at e
 split at e
 .exact%[j,a,by assumption,(Xr e).1|e]
 .lia
structure MH (N:Keyed->Nat) (A B O:List Keyed) (na nb:Nat):Prop where
 perm:(A.take na++B.take nb++O).Perm (A++B)
 srt:Srt N O
 ca:∀x∈A.take na,∀y∈O,N x<=N y
 cb:∀x∈B.take nb,∀y∈O,N x<=N y
def MH.zero(N:Keyed->Nat)(A B:List Keyed):MH N A B [] A.length B.length:=%[by simp,List.Pairwise.nil,λ_ _ _ h=>(nomatch h)|λ_ _ _ h=>(nomatch h)]
def MH.takeA{N:Keyed->Nat}{A B O:List Keyed}{na nb:Nat}(h:MH N A B O na nb)(d:Srt N A)(k:Nat)(f:k<=na)(c:∀y∈(A.take na).drop k,∀x∈B.take nb,N x<=N y):MH N A B ((A.take na).drop k++O) k nb:=by
 have e:=by
  have:=(Xg k (A.take na)).symm;rw[List.take_take,X4 f]at this;exact this
 have%[_,g|i]:=pairwise_append.mp (e▸d.take na);refine%[?_,pairwise_append.mpr %[g,h.srt|λx b y a=>h.ca x (X1 b) y a],λx b y a=>?_|λx b y a=>?_]
 .refine List.Perm.trans ?_ h.perm;rw[<-Ze];refine Xp _ ?_;rw (occs:= .pos [2]) [e];rw[Ze,Ze];exact List.Perm.append_left _ perm_append_comm
 .rcases Xs a with a|a
  .exact i x b y a
  .exact h.ca x (e▸Yx _ b) y a
 .rcases Xs a with a|a
  .exact c y a x b
  .exact h.cb x b y a
def MH.takeB{N:Keyed->Nat}{A B O:List Keyed}{na nb:Nat}(h:MH N A B O na nb)(d:Srt N B)(k:Nat)(f:k<=nb)(c:∀y∈(B.take nb).drop k,∀x∈A.take na,N x<=N y):MH N A B ((B.take nb).drop k++O) na k:=by
 have e:=by
  have:=(Xg k (B.take nb)).symm;rw[List.take_take,X4 f]at this;exact this
 have%[_,g|i]:=pairwise_append.mp (e▸d.take nb);refine%[?_,pairwise_append.mpr %[g,h.srt|λx b y a=>h.cb x (X1 b) y a],λx b y a=>?_|λx b y a=>?_]
 .refine List.Perm.trans ?_ h.perm;rw[<-Ze];refine Xp _ ?_;rw (occs:= .pos [2]) [e];rw[Ze]
 .rcases Xs a with a|a
  .exact c y a x b
  .exact h.ca x b y a
 .rcases Xs a with a|a
  .exact i x b y a
  .exact h.cb x (e▸Yx _ b) y a
def kq{l:List Keyed}{k:Nat}{x:Keyed}(h:l[k]? =some x):(l.take (k+1)).drop k=[x]:=by
 have%[a|e]:=Xr h;rw[List.take_succ_eq_append_getElem a,e,List.drop_append_of_le_length (by rw[Yp];lia),List.drop_of_length_le (by rw[Yp];lia)];rfl
def MH.oneA{N:Keyed->Nat}{A B O:List Keyed}{na nb:Nat}{x:Keyed}(h:MH N A B O (na+1) nb)(c:Srt N A)(b:A[na]? =some x)(a:∀y∈B.take nb,N y<=N x):MH N A B (x::O) na nb:=by
 have:=h.takeA c na (by omega) (by rw[kq b];intro z d;rw[Xt d];exact a);rwa[kq b]at this
def MH.oneB{N:Keyed->Nat}{A B O:List Keyed}{na nb:Nat}{x:Keyed}(h:MH N A B O na (nb+1))(c:Srt N B)(b:B[nb]? =some x)(a:∀y∈A.take na,N y<=N x):MH N A B (x::O) na nb:=by
 have:=h.takeB c nb (by omega) (by rw[kq b];intro z d;rw[Xt d];exact a);rwa[kq b]at this
def MH.done{N:Keyed->Nat}{A B O:List Keyed}{na nb:Nat}(h:MH N A B O na nb)(c:Srt N A)(d:Srt N B)(e:∀x∈A.take na,∀y∈B.take nb,N x<=N y):cS N A B (A.take na++B.take nb++O):=
 %[pairwise_append.mpr %[pairwise_append.mpr %[c.take na,d.take nb|e],h.srt|λx a y b=>(Xs a).elim (λq=>h.ca x q y b) λq=>h.cb x q y b]|h.perm]
def MH.first{N:Keyed->Nat}{A B O:List Keyed}{na nb:Nat}(h:MH N A B O na nb)(c:Srt N A)(d:Srt N B)(e:∀y∈B.take nb,∀x∈A.take na,N y<=N x):cS N A B (B.take nb++A.take na++O):=
 %[pairwise_append.mpr %[pairwise_append.mpr %[d.take nb,c.take na|e],h.srt|λx a y b=>(Xs a).elim (λq=>h.cb x q y b) λq=>h.ca x q y b]|List.Perm.trans (Xp _ perm_append_comm) h.perm]
def C6(a:Array Keyed)(k:Nat):(a.extract 0 k).toList=a.toList.take k:=by simp
def wV(a:Array Keyed)(i k:Nat):(a.extract i k).toList=(a.toList.take k).drop i:=by
 rw[nP,List.drop_take]
def Srt.take_le{N:Keyed->Nat}{l:List Keyed}(h:Srt N l){i:Nat}{x y:Keyed}(a:l[i]? =some x)(b:y∈l.take (i+1)):N y<=N x:=by
 have%[j,c,_|e]:=bD b;exact h.le (by omega) e a
def kr(out:Array Keyed)(x:Keyed):(out.push x).reverse.toList=x::out.reverse.toList:=by simp
def wW(out p:Array Keyed):(out++p.reverse).reverse.toList=p.toList++out.reverse.toList:=by simp
section
variable{prog:Program}{w:World}{A:Around}{SI:Shared->Prop}{α β:Type}
structure MHS (N:Keyed->Nat) (a b out:Array Keyed) (na nb:Nat):Prop where
 mh:MH N a.toList b.toList out.reverse.toList na nb
 pa:1<=na
 pb:2<=nb
 ma:na<=a.size
 mb:nb<=b.size
abbrev hi3(a b:Array Keyed)(na nb:Nat)(out:Array Keyed)(g k k1:Nat):StateT SortSt Sem (ForInStep (Option (Array Keyed)×Nat×Nat×Array Keyed×Nat×Nat×Nat)):=elem' a (na-1)>>= λe=>if(na-1==0)=true then pure (.done (some (a.extract 0 (na-1) ++b.extract 0 nb++(out.push e).reverse),na-1,nb,out.push e,g,k,k1))else if(decide (k<7)&&decide (k1<7))=true then pure (.done (none,na-1,nb,out.push e,g,k,k1))else pure (.yield (none,na-1,nb,out.push e,g,k,k1))
abbrev hi2(a b:Array Keyed)(na nb:Nat)(out:Array Keyed)(g k c:Nat):StateT SortSt Sem (ForInStep (Option (Array Keyed)×Nat×Nat×Array Keyed×Nat×Nat×Nat)):=elem' b (nb-1)>>= λe=>if(nb-1==1)=true then pure (.done (some (b.extract 0 (nb-1) ++a.extract 0 na++(out.push e).reverse),na,nb-1,out.push e,g,k,c))else elem' a (na-1)>>= λd=>fI true d b 0 (nb-1) (nb-1-1)>>= fun|some k1=>if nb-1-k1>0 then if(k1==1)=true then pure (.done (some (b.extract 0 k1++a.extract 0 na++(out.push e++(b.extract k1 (nb-1)).reverse).reverse),na,k1,out.push e++(b.extract k1 (nb-1)).reverse,g,k,nb-1-k1))else if(k1==0)=true then pure (.done (some (a.extract 0 na++b.extract 0 k1++(out.push e++(b.extract k1 (nb-1)).reverse).reverse),na,k1,out.push e++(b.extract k1 (nb-1)).reverse,g,k,nb-1-k1))else hi3 a b na k1 (out.push e++(b.extract k1 (nb-1)).reverse) g k (nb-1-k1)else hi3 a b na (nb-1) (out.push e) g k (nb-1-k1)|_=>pure (.done (some (a.extract 0 na++b.extract 0 (nb-1) ++(out.push e).reverse),na,nb-1,out.push e,g,k,c))
abbrev hi1(a b:Array Keyed)(na nb:Nat)(out:Array Keyed)(d c g:Nat):StateT SortSt Sem (ForInStep (Option (Array Keyed)×Nat×Nat×Array Keyed×Nat×Nat×Nat)):=cR g>>= λ_=>elem' b (nb-1)>>= λe=>fI false e a 0 na (na-1)>>= fun|some k=>if na-k>0 then if(k==0)=true then pure (.done (some (a.extract 0 k++b.extract 0 nb++(out++(a.extract k na).reverse).reverse),k,nb,out++(a.extract k na).reverse,g,na-k,c))else hi2 a b k nb (out++(a.extract k na).reverse) g (na-k) c else hi2 a b na nb out g (na-k) c|_=>pure (.done (some (a.extract 0 na++b.extract 0 nb++out.reverse),na,nb,out,g,d,c))
abbrev hiI(a b:Array Keyed)(na nb:Nat)(out:Array Keyed)(g c d:Nat):StateT SortSt Sem (ForInStep (Option (Array Keyed)×Nat×Nat×Array Keyed×Nat×Nat)):=elem' b (nb-1)>>= λf=>elem' a (na-1)>>= λh=>lt' f h>>= fun|some w=>if w=true then(elem' a (na-1)>>= λe=>if(na-1==0)=true then pure (.done (some (a.extract 0 (na-1) ++b.extract 0 nb++(out.push e).reverse),na-1,nb,out.push e,c+1,0))else if c+1>=g then pure (.done (none,na-1,nb,out.push e,c+1,0))else pure (.yield (none,na-1,nb,out.push e,c+1,0)))else(elem' b (nb-1)>>= λe=>if(nb-1==1)=true then pure (.done (some (b.extract 0 (nb-1) ++a.extract 0 na++(out.push e).reverse),na,nb-1,out.push e,0,d+1))else if d+1>=g then pure (.done (none,na,nb-1,out.push e,0,d+1))else pure (.yield (none,na,nb-1,out.push e,0,d+1)))|_=>pure (.done (some (a.extract 0 na++b.extract 0 nb++out.reverse),na,nb,out,c,d))
abbrev hiG(a b:Array Keyed)(x:Option (Array Keyed)×Nat×Nat×Array Keyed×Nat×Nat×Nat):StateT SortSt Sem (ForInStep (Option (Array Keyed)×Nat×Nat×Array Keyed×Nat×Nat×Nat)):=
 if x.2.2.2.2.1>1 then hi1 a b x.2.1 x.2.2.1 x.2.2.2.1 x.2.2.2.2.2.1 x.2.2.2.2.2.2 (x.2.2.2.2.1-1)else hi1 a b x.2.1 x.2.2.1 x.2.2.2.1 x.2.2.2.2.2.1 x.2.2.2.2.2.2 x.2.2.2.2.1
abbrev hiE(x:Option (Array Keyed)×Nat×Nat×Array Keyed×Nat×Nat×Nat):StateT SortSt Sem (ForInStep (Option (Array Keyed)×Nat×Nat×Array Keyed×Nat)):=
 match x.1 with
 | some r=>pure (.done (some r,x.2.1,x.2.2.1,x.2.2.2.1,x.2.2.2.2.1))
 | none=>do
   cR (x.2.2.2.2.1+1)
   pure (.yield (none,x.2.1,x.2.2.1,x.2.2.2.1,x.2.2.2.2.1+1))
abbrev hiF(a b:Array Keyed)(g:Nat)(x:Option (Array Keyed)×Nat×Nat×Array Keyed×Nat×Nat):StateT SortSt Sem (ForInStep (Option (Array Keyed)×Nat×Nat×Array Keyed×Nat)):=
 match x.1 with
 | some r=>pure (.done (some r,x.2.1,x.2.2.1,x.2.2.2.1,g))
 | none=>do
   rule "list.sort.gallop"
   let x<-forIn [0:a.size+b.size] (none,x.2.1,x.2.2.1,x.2.2.2.1,g+1,x.2.2.2.2.1,x.2.2.2.2.2) λ_ x=>hiG a b x
   hiE x
abbrev hiO(a b:Array Keyed)(x:Option (Array Keyed)×Nat×Nat×Array Keyed×Nat):StateT SortSt Sem (ForInStep (Option (Array Keyed)×Nat×Nat×Array Keyed×Nat)):=do
 let y<-forIn [0:a.size+b.size] (none,x.2.1,x.2.2.1,x.2.2.2.1,0,0) λ_ y=>hiI a b y.2.1 y.2.2.1 y.2.2.2.1 x.2.2.2.2 y.2.2.2.2.1 y.2.2.2.2.2
 hiF a b x.2.2.2.2 y
abbrev hiR(x:Option (Array Keyed)×Nat×Nat×Array Keyed×Nat):StateT SortSt Sem (Array Keyed):=
 match x.1 with
 | some r=>pure r
 | none=>unsupported "internal:list.sort.merge-bound"
set_option smartUnfolding false in
def GV(a b:Array Keyed):nO a b=(do
 rule "list.sort.merge-hi"
 let e<-elem' a (a.size-1)
 if(a.size-1==0)=true then pure (a.extract 0 (a.size-1) ++b.extract 0 b.size++ #[e].reverse)
 else if(b.size==1)=true then pure (b.extract 0 b.size++a.extract 0 (a.size-1) ++ #[e].reverse)
 else do
  let s<-get
  let x<-forIn [0:a.size+b.size] (none,a.size-1,b.size,#[e],gallopOf s) λ_ x=>hiO a b x
  hiR x):=by
 rfl
structure HC (prog:Program) (w:World) (A:Around) (SI:Shared->Prop) (D:Keyed->Prop) (N:Keyed->Nat) (a b:Array Keyed) (st:SortSt):Prop where
 c:Cmp prog w A SI (kindOf st) D N
 hA:Srt N a.toList
 hB:Srt N b.toList
 DA:∀{i:Nat} (hi:i<a.size),D a[i]
 DB:∀{i:Nat} (hi:i<b.size),D b[i]
 fd:∀(out:Array Keyed) (na nb:Nat),MH N a.toList b.toList out.reverse.toList na nb->(na=0\/nb=0)->cS N a.toList b.toList (a.extract 0 na++b.extract 0 nb++out.reverse).toList
 ff:∀(out:Array Keyed) (na nb:Nat),MH N a.toList b.toList out.reverse.toList na nb->nb=1->cS N a.toList b.toList (b.extract 0 nb++a.extract 0 na++out.reverse).toList
def HC.of{D:Keyed->Prop}{N:Keyed->Nat}{a b:Array Keyed}{s t:SortSt}(C:HC prog w A SI D N a b s)(h:SG s t):HC prog w A SI D N a b t:={C with c:=h.1▸C.c}
variable{D:Keyed->Prop}{N:Keyed->Nat}{a b out:Array Keyed}{na nb g k bc z:Nat}{st:SortSt}
def AS{k1:Nat}{R:ForInStep _->SortSt->Prop}(C:HC prog w A SI D N a b st)(m:MH N a.toList b.toList out.reverse.toList (na+1) nb)(t:na+1<=a.size)(j:2<=nb)(l:nb<=b.size)(c:∀y∈b.toList.take nb,N y<=N (a[na]'⋯))(n:z<=out.size+1)
 (p:∀r o,cS N a.toList b.toList r.toList->R (.done (some r,o)) st) (q:∀na nb out g k k1,MHS N a b out na nb->z<=out.size->R (.done (none,na,nb,out,g,k,k1)) st/\R (.yield (none,na,nb,out,g,k,k1)) st):(SC prog w A SI) (hi3 a b (na+1) nb out g k k1) R st:=by
 have%[s|d]:=aX (a:=a) (i:=na) ⋯;refine ar (bh s ?_);have e:=MH.oneA m C.hA d c;rw[<-kr]at e;by_cases f:na=0
 .rw[if_pos (by simp[f])];exact av (p _ _ (C.fd _ _ _ e (.inl f)))
 rw[if_neg (by simp[f])];have h:=q _ _ _ g k k1 (MHS.mk e ⋯ j ⋯ l) (by rw[Xn];exact n)
 split
 .exact av h.1
 .exact av h.2
def AT{R:ForInStep (Option (Array Keyed)×Nat×Nat×Array Keyed×Nat×Nat×Nat)->SortSt->Prop}(C:HC prog w A SI D N a b st)(m:MH N a.toList b.toList out.reverse.toList (na+1) (nb+1))(H:na+1<=a.size)(pb:1<=nb)(mb:nb+1<=b.size)(l:∀y∈a.toList.take (na+1),N y<=N b[nb])(hz:z<=out.size+2)
 (d:∀r o,cS N a.toList b.toList r.toList->R (.done (some r,o)) st) (I:∀na nb out g k k1,MHS N a b out na nb->z<=out.size->R (.done (none,na,nb,out,g,k,k1)) st/\R (.yield (none,na,nb,out,g,k,k1)) st):(SC prog w A SI) (hi2 a b (na+1) (nb+1) out g k bc) R st:=by
 have%[O|n]:=aX (a:=b) (i:=nb) ⋯;have%[Q|p]:=aX (a:=a) (i:=na) ⋯;unfold hi2;rw[add_sub_cancel,add_sub_cancel];refine ar (bh O ?_);have f:=MH.oneB m C.hB n l;rw[<-kr]at f;by_cases q:nb=1
 .rw[if_pos (by simp[q])];exact av (d _ _ (C.ff _ _ _ f q))
 rw[if_neg (by simp[q])];refine ar (bh Q ?_);refine ar (eO C.c (C.DA ⋯) (λi hi=>%[b[0+i]'⋯,(aX ⋯).1|C.DB ⋯]) (λi=>bV N true (a[na]'⋯) (b.getD (0+i) b[nb]))
  (λi x hi s=>by rw[Zs,s];rfl) (λi i' t hi T=>qA C.hB t ⋯ T) ⋯ λk2 u U Y=>?_)
 dsimp only;have J:=GT U Y;have c:∀y∈b.toList.take k2,N y<=N (a[na]'⋯):=λy v=>by
  have%[j,B,L|e]:=bD v;exact Yi (J.1 j y B (by simpa using e))
 have h:=f.takeB C.hB k2 u (λy v x s=>by
  have%[i,B,L,h3|e]:=wU v;exact Yk (C.hA.take_le p s) (J.2 i y B L (by simpa using e)))
 by_cases M:nb-k2>0
 .rw[if_pos M];rw[<-wV,<-wW]at h;by_cases E:k2=1
  .rw[if_pos (by simp[E])];exact av (d _ _ (C.ff _ _ _ h E))
  rw[if_neg (by simp[E])];by_cases G:k2=0
  .rw[if_pos (by simp[G])];exact av (d _ _ (C.fd _ _ _ h (.inr G)))
  rw[if_neg (by simp[G])];exact AS C h H ⋯ ⋯ c (by simp;lia) d I
 .rw[if_neg M];obtain rfl:k2=nb:=by lia
  exact AS C f H ⋯ ⋯ c (by rw[Xn];lia) d I
def Fy{I:Nat}{R:ForInStep (Option (Array Keyed)×Nat×Nat×Array Keyed×Nat×Nat×Nat)->SortSt->Prop}(C:HC prog w A SI D N a b st)(m:MHS N a b out na nb)(J:z<=out.size+2)
 (h:∀c r o,SG st c->cS N a.toList b.toList r.toList->R (.done (some r,o)) c) (B:∀c na nb out g k k1,SG st c->MHS N a b out na nb->z<=out.size->R (.done (none,na,nb,out,g,k,k1)) c/\R (.yield (none,na,nb,out,g,k,k1)) c):(SC prog w A SI) (hi1 a b na nb out I bc g) R st:=by
 have%[E,Y,pb,L|G]:=m;obtain⟨nb,rfl⟩:∃n,nb=n+1:=%[nb-1|⋯]
 have%[M|l]:=aX (a:=b) (i:=nb) ⋯;unfold hi1;rw[add_sub_cancel,gE];refine ar (cz ?_);have sg:=(SG.refl st).set g;refine ar (bh M ?_);refine ar (eO (C.of sg).c (C.DB ⋯) (λi hi=>%[a[0+i]'⋯,(aX ⋯).1|C.DA ⋯]) (λi=>bV N false b[nb] (a.getD (0+i) b[nb]))
  (λi x hi p=>by rw[Zs,p];rfl) (λi i' q hi O=>qz C.hA q ⋯ O) ⋯ λk Q T U=>?_)
 dsimp only;have s:=GS T U;simp only[zero_add]at s;have mk:=E.takeA C.hA k Q (λy t x p=>by
  have%[i,u,H,h3|e]:=wU t;exact Yk (C.hB.take_le l p) (Yi (s.2 i y u H (by simpa using e))))
 have d:∀y∈a.toList.take k,N y<=N b[nb]:=λy t=>by
  have%[j,u,H|e]:=bD t;exact s.1 j y u (by simpa using e)
 by_cases f:na-k>0
 .rw[if_pos f];rw[<-wV,<-wW]at mk;by_cases v:k=0
  .rw[if_pos (by simp[v])];exact av (h _ _ _ sg (C.fd _ _ _ mk (.inl v)))
  rw[if_neg (by simp[v])];obtain⟨k,rfl⟩:∃n,k=n+1:=%[k-1|⋯]
  exact AT (C.of sg) mk ⋯ ⋯ G d (by simp;lia) (λr o=>h _ r o sg) λna nb out g k k1=>B _ na nb out g k k1 sg
 .rw[if_neg f];obtain rfl:k=na:=by lia
  obtain⟨k,rfl⟩:∃n,k=n+1:=%[k-1|⋯]
  exact AT (C.of sg) E L ⋯ G d J (λr o=>h _ r o sg) λna nb out g k k1=>B _ na nb out g k k1 sg
def Fz{d:Nat}{R:ForInStep (Option (Array Keyed)×Nat×Nat×Array Keyed×Nat×Nat)->SortSt->Prop}(C:HC prog w A SI D N a b st)(m:MHS N a b out na nb)(l:z<=out.size+1)
 (p:∀r o,cS N a.toList b.toList r.toList->R (.done (some r,o)) st) (s:∀na nb out d bc,MHS N a b out na nb->z<=out.size->R (.done (none,na,nb,out,d,bc)) st/\R (.yield (none,na,nb,out,d,bc)) st):(SC prog w A SI) (hiI a b na nb out g d bc) R st:=by
 have%[t,B,E,G|H]:=m;obtain⟨na,rfl⟩:∃n,na=n+1:=%[na-1|⋯]
 obtain⟨nb,rfl⟩:∃n,nb=n+1:=%[nb-1|⋯]
 have%[u|e]:=aX (a:=a) (i:=na) ⋯;have%[v|f]:=aX (a:=b) (i:=nb) ⋯;unfold hiI;rw[add_sub_cancel,add_sub_cancel];refine ar (bh v (ar (bh u (ar (tQ C.c (C.DB ⋯) (C.DA ⋯) ?_)))));dsimp only;by_cases c:N b[nb]<N a[na]
 .rw[Zf c,if_pos rfl];refine ar (bh u ?_);have m2:=t.oneA C.hA e λy j=>Yk (C.hB.take_le f j) (Yi c)
  rw[<-kr]at m2;by_cases q:na=0
  .rw[if_pos (by simp[q])];exact av (p _ _ (C.fd _ _ _ m2 (.inl q)))
  rw[if_neg (by simp[q])];have h:=s _ _ _ (d+1) 0 %[m2,⋯,E,⋯|H] (by rw[Xn];exact l)
  split
  .exact av h.1
  .exact av h.2
 .rw[Zh c,if_neg ∅];refine ar (bh v ?_);have m2:=t.oneB C.hB f λy j=>Yk (C.hA.take_le e j) (Nat.le_of_not_lt c)
  rw[<-kr]at m2;by_cases q:nb=1
  .rw[if_pos (by simp[q])];exact av (p _ _ (C.ff _ _ _ m2 q))
  rw[if_neg (by simp[q])];have h:=s _ _ _ 0 (bc+1) %[m2,B,⋯,G|⋯] (by rw[Xn];exact l)
  split
  .exact av h.1
  .exact av h.2
def FA{j:Nat}{q:Option (Array Keyed)}{R:ForInStep (Option (Array Keyed)×Nat×Nat×Array Keyed×Nat)->SortSt->Prop}(C:HC prog w A SI D N a b st)(m:MHS N a b out na nb)(e:j+1<=out.size)
 (p:∀d r o,SG st d->cS N a.toList b.toList r.toList->R (.done (some r,o)) d) (s:∀d na nb out g,SG st d->MHS N a b out na nb->j+2<=out.size->R (.yield (none,na,nb,out,g)) d):(SC prog w A SI) (hiO a b (q,na,nb,out,g)) R st:=by
 have t:=m.pa;have u:=m.ma;refine ar (bN (bC (Q:=λx d=>SG st d/\((∃r o,x=(some r,o)/\cS N a.toList b.toList r.toList)\/∃na nb out f bc,x=(none,na,nb,out,f,bc)/\MHS N a b out na nb/\j+2<=out.size))
  (λj2 x d=>SG st d/\∃na nb out f bc,x=(none,na,nb,out,f,bc)/\MHS N a b out na nb/\j+1+j2<=out.size) (Xj _) %[SG.refl _,_,_,_,_,_,rfl,m|e] ?_ ?_) ?_)
 .intro j2 x i _ l %[c,na,nb,out,f,bc,rfl,m|e];exact Fz (C.of c) m ⋯ (λr o h=>%[c|.inl %[r,o,rfl|h]]) λna nb out f bc h z=>%[%[c|.inr %[_,_,_,_,_,rfl,h|⋯]],c,_,_,_,_,_,rfl,h|z]
 .intro x i %[c,na,nb,out,f,bc,rfl,m|e];exact%[c|.inr %[_,_,_,_,_,rfl,m|⋯]]
 .rintro x i ⟨c,⟨r,o,rfl,n⟩|⟨na,nb,out,f,bc,rfl,m,e⟩⟩
  .exact av (p _ r _ c n)
  .refine ar (jm ?_);refine ar (bN (bC (Q:=λx d=>SG st d/\((∃r o,x=(some r,o)/\cS N a.toList b.toList r.toList)\/∃na nb out g f bc,x=(none,na,nb,out,g,f,bc)/\MHS N a b out na nb/\j+2<=out.size))
    (λj2 x d=>SG st d/\∃na nb out g f bc,x=(none,na,nb,out,g,f,bc)/\MHS N a b out na nb/\j+2<=out.size) (Xj _) %[c,_,_,_,_,_,_,rfl,m|e] ?_ ?_) ?_)
   .intro j2 x i _ l %[c,na,nb,out,g,f,bc,rfl,m|e];unfold hiG;rw[<-apply_ite _];exact Fy (C.of c) m ⋯ (λd r o sg h=>%[SG.trans c sg|.inl %[r,o,rfl|h]]) λd na nb out g k k1 sg h z=>%[%[SG.trans c sg|.inr %[_,_,_,_,_,_,rfl,h|z]],SG.trans c sg,_,_,_,_,_,_,rfl,h|z]
   .simp_all
   .rintro x i ⟨c,⟨r,o,rfl,n⟩|⟨na,nb,out,g,f,bc,rfl,m,e⟩⟩
    .exact av (p _ r _ c n)
    .exact ar (cz (av (s _ _ _ _ _ (c.set _) m e)))
def vX{D:Keyed->Prop}{N:Keyed->Nat}{a b:Array Keyed}{Q:Array Keyed->SortSt->Prop}{st:SortSt}(c:Cmp prog w A SI (kindOf st) D N)(s:Srt N a.toList)(v:Srt N b.toList)(T:∀x∈a.toList,D x)(U:∀x∈b.toList,D x)
 (ha:1<=a.size) (hb:1<=b.size) (Y:∀x y,b.toList[0]? =some x->a.toList[0]? =some y->N x<=N y) (hl:∀y∈b.toList,∀x∈a.toList.drop (a.size-1),N y<=N x)
 (h:∀r d,SG st d->cS N a.toList b.toList r.toList->Q r d):(SC prog w A SI) (nO a b) Q st:=by
 have DA:∀{i:Nat} (hi:i<a.size),D a[i]:=λhi=>T _ ∅
 have DB:∀{i:Nat} (hi:i<b.size),D b[i]:=λhi=>U _ ∅
 have I:∀(out:Array Keyed) (na nb:Nat),MH N a.toList b.toList out.reverse.toList na nb->(na=0\/nb=0)->cS N a.toList b.toList (a.extract 0 na++b.extract 0 nb++out.reverse).toList:=λout na nb m q=>by
  rw[Xi,Xi,C6,C6];refine m.done s v λx B y t=>?_
  rcases q with q|q
  .have%[j,J|_]:=bD B
   lia
  .have%[j,J|_]:=bD t
   lia
 have L:∀(out:Array Keyed) (na nb:Nat),MH N a.toList b.toList out.reverse.toList na nb->nb=1->cS N a.toList b.toList (b.extract 0 nb++a.extract 0 na++out.reverse).toList:=λout na nb m q=>by
  rw[Xi,Xi,C6,C6];refine m.first s v λy t x B=>?_
  have%[j,J,h2|e]:=bD t;have%[i,_,h4|e']:=bD B;have j0:j=0:=by lia
  subst j0;have%[M|f]:=aX (a:=a) (i:=0) ⋯;exact Yk (Y _ _ e f) (s.le (Xj _) f e')
 rw[GV];refine ar (jm ?_);obtain⟨l,C⟩:∃l,a.size=l+1:=%[a.size-1|⋯]
 have%[M|f]:=aX (a:=a) (i:=l) ⋯;rw[show a.size-1=l by lia];refine ar (bh M ?_);have E:MH N a.toList b.toList #[a[l]].reverse.toList l b.size:=by
  have z:=MH.zero N a.toList b.toList;rw[Zb,Zb,C]at z;exact z.oneA s f λy t=>hl y (X2 t) _ (by
   rw[show a.size-1=l by lia];exact Z8 (i:=0) (by rw[Yc];exact f))
 by_cases G:l=0
 .rw[if_pos (by simp[G])];exact av (h _ st (SG.refl _) (I _ _ _ E (.inl G)))
 rw[if_neg (by simp[G])];by_cases H:b.size=1
 .rw[if_pos (by simp[H])];exact av (h _ st (SG.refl _) (L _ _ _ E H))
 rw[if_neg (by simp[H])];refine ar (fV ?_);refine ar (bN (bC (Q:=λx d=>SG st d/\∃r,x.1=some r/\cS N a.toList b.toList r.toList)
  (λj x d=>SG st d/\∃na nb out g,x=(none,na,nb,out,g)/\MHS N a b out na nb/\j+1<=out.size) (Xj _) %[SG.refl _,_,_,_,_,rfl,%[E,⋯,⋯,⋯|⋯]|Zi _] ?_ ?_) ?_)
 .intro j x n _ hj %[sg,na,nb,out,g,rfl,m|u];exact FA (HC.of %[c,s,v,DA,DB,I|L] sg) m u (λd r o p h=>%[SG.trans sg p,r,rfl|h]) λd na nb out g p h z=>%[SG.trans sg p,_,_,_,_,rfl,h|z]
 .intro x n %[sg,na,nb,out,g,rfl,m|u];have:=m.pa;have:=m.pb;have:=m.ma;have:=m.mb;have q:=m.mh.perm.length_eq;simp only[Z9,Yp,Zb,Array.size_reverse]at q
  lia
 .intro x n %[sg,r,O|gd];have%[x1|x2]:=x;dsimp only at O;subst O;exact av (h r n sg gd)
end
end SBig
namespace SBig
open PySem PyProof.Rows
def tR(i:Nat):mergeAt' i=(do
 let s<-get
 let(some (b,na,c),some (d,nb,_)):=((pendingOf s)[i]?,(pendingOf s)[i+1]?)|unsupported "internal:list.sort.pending"
 set (setPending s (((pendingOf s).setIfInBounds i (b,na+nb,c)).eraseIdxIfInBounds (i+1)))
 let some k<-fI false (<-elem' (arrOf s) d) (arrOf s) b na 0|return false
 let(b,na):=(b+k,na-k)
 if na==0 then return true
 let some nb<-fI true (<-elem' (arrOf s) (b+na-1)) (arrOf s) d nb (nb-1)|return false
 if nb==0 then return true
 let x:=(arrOf s).extract b d
 let y:=(arrOf s).extract d (d+nb)
 let merged<-if na<=nb then nN x y else nO x y
 modify λs=>setArr s (merged.toList.zipIdx.foldl (λa (p,j)=>a.setIfInBounds (b+j) p) (arrOf s))
 return (failedOf (<-get)).isNone):=rfl
def tT:∀m c o (a:Array Keyed),o+c+m.length<=a.size->
 ((m.zipIdx c).foldl (λa p=>a.setIfInBounds (o+p.2) p.1) a).toList=a.toList.take (o+c) ++m++a.toList.drop (o+c+m.length)
 |[],c,o,a,_=>by simp
 | x::m,c,o,a,h=>by
   rw[List.zipIdx_cons,Y9];rw[Zr]at h;rw[tT m _ o _ (by rw[Array.size_setIfInBounds];lia),Array.toList_setIfInBounds];have b:o+c<a.toList.length:=by rw[Zb];lia
   rw[Zr,List.take_set,List.drop_set];rw[show o+(c+1)=o+c+1 by lia,show o+c+1+m.length=o+c+(m.length+1) by lia];have e:(a.toList.take (o+c+1)).set (o+c) x=a.toList.take (o+c) ++[x]:=by
    rw[List.take_succ_eq_append_getElem b];rw[List.set_append_right _ _ (by rw[Yp];lia)];rw[Yp,X4 ⋯,Xe];rfl
   rw[e];simp
section
variable{prog:Program}{w:World}{A:Around}{SI:Shared->Prop}{α β:Type}
def vY{D:Keyed->Prop}{N:Keyed->Nat}{i p p2:Nat}{b X Y L2:List Keyed}{Q:Bool->SortSt->Prop}{st:SortSt}(c:Cmp prog w A SI (kindOf st) D N)(e:(arrOf st).toList=b++X++Y++L2)(M:Srt N X)(O:Srt N Y)(nX:X≠[])(nY:Y≠[])
 (dX:∀x∈X,D x) (dY:∀x∈Y,D x) (hp:(pendingOf st)[i]? =some (b.length,X.length,p)) (aj:(pendingOf st)[i+1]? =some (b.length+X.length,Y.length,p2)) (hf:failedOf st=none)
 (h:∀Z t,Srt N Z->Z.Perm (X++Y)->(arrOf t).toList=b++Z++L2->kindOf t=kindOf st->failedOf t=none->pendingOf t=((pendingOf st).setIfInBounds i (b.length,X.length+Y.length,p)).eraseIdxIfInBounds (i+1)->Q true t):(SC prog w A SI) (mergeAt' i) Q st:=by
 have lX:0<X.length:=length_pos_iff.mpr nX;have lY:0<Y.length:=length_pos_iff.mpr nY;have sz:(arrOf st).size=b.length+X.length+Y.length+L2.length:=by
  rw[<-Zb,e];simp only[Z9]
 have E:∀(j:Nat) (d:j<X.length),(arrOf st)[b.length+j]? =some X[j]:=λj d=>by
  have:(arrOf st).toList[b.length+j]? =some X[j]:=by
   rw[e,Ze,Ze,Yb ⋯,Zw,Ya d];simp[d]
  simpa using this
 have G:∀(j:Nat) (d:j<Y.length),(arrOf st)[b.length+X.length+j]? =some Y[j]:=λj d=>by
  have:(arrOf st).toList[b.length+X.length+j]? =some Y[j]:=by
   rw[e,Ze,Yb (by rw[Z9];lia),Z9,Zw,Ya d];simp[d]
  simpa using this
 have DX:∀(j:Nat) (d:j<X.length),D X[j]:=λj d=>dX _ (Yg d)
 have DY:∀(j:Nat) (d:j<Y.length),D Y[j]:=λj d=>dY _ (Yg d)
 have u:∀(i j:Nat) (hi:i<=j) (d:j<X.length),N (X[i]'⋯)<=N X[j]:=λi j hi d=>M.le hi ∅ ∅
 have z:∀(i j:Nat) (hi:i<=j) (d:j<Y.length),N (Y[i]'⋯)<=N Y[j]:=λi j hi d=>O.le hi ∅ ∅
 rw[tR];refine ar (fV ?_);rw[hp,aj];dsimp only;refine ar (Fu ?_);have eb:=G 0 lY;rw[add_zero]at eb;refine ar (bh eb ?_);refine ar (eO c (DY 0 lY) (λi hi=>%[_,E i hi|DX i hi]) (λi=>bV N false Y[0] (X.getD i Y[0])) (λi x hi f=>by
  rw[E i hi]at f;cases f;rw[Zc,Z4 hi];rfl) (λi j H d I=>?_) lX λk hk p1 p2=>?_)
 .rw[Zc,Z4 d]at I;rw[Zc,Z4 ⋯];have:=u i j H d;unfold bV at I ⊢;simp only[Y0,if_false,Bool.not_eq_true',decide_eq_false_iff_not,getD_some]at I ⊢
  lia
 have g1:∀(j:Nat) (d:j<X.length),j<k->N X[j]<=N Y[0]:=λj d m=>by
  have:=p1 j m;rw[Zc,Z4 d]at this;unfold bV at this;simpa using this
 have g2:∀(j:Nat) (d:j<X.length),k<=j->N Y[0]<N X[j]:=λj d m=>by
  have:=p2 j m d;rw[Zc,Z4 d]at this;unfold bV at this;simpa using this
 dsimp only;by_cases q1:X.length-k=0
 .rw[if_pos (by simp[q1])];refine av (h (X++Y) _ (pairwise_append.mpr %[M,O|λx f y n=>?_]) (List.Perm.refl _) (by show(arrOf st).toList=_;rw[e];simp) rfl hf rfl);have%[j,d|rfl]:=Yh f;have%[o,l|rfl]:=Yh n;exact Yk (g1 j d ⋯) (z 0 o (Xj _) l)
 rw[if_neg (by simpa using q1)];have el:=E (X.length-1) ⋯;rw[show b.length+k+(X.length-k) -1=b.length+(X.length-1) by lia];refine ar (bh el ?_);refine ar (eO c (DX _ ⋯) (λi hi=>%[_,G i hi|DY i hi]) (λi=>bV N true (X[X.length-1]'⋯) (Y.getD i Y[0])) (λi x hi f=>by
  rw[G i hi]at f;cases f;rw[Zc,Z4 hi];rfl) (λi j H d I=>?_) ⋯ λk2 T p3 p4=>?_)
 .rw[Zc,Z4 d]at I;rw[Zc,Z4 ⋯];have:=z i j H d;unfold bV at I ⊢;simp only[if_true,decide_eq_true_eq,getD_some]at I ⊢
  lia
 have g3:∀(j:Nat) (d:j<Y.length),j<k2->N Y[j]<N (X[X.length-1]'⋯):=λj d m=>by
  have:=p3 j m;rw[Zc,Z4 d]at this;unfold bV at this;simpa using this
 have g4:∀(j:Nat) (d:j<Y.length),k2<=j->N (X[X.length-1]'⋯)<=N Y[j]:=λj d m=>by
  have:=p4 j m d;rw[Zc,Z4 d]at this;unfold bV at this;simpa using this
 dsimp only;by_cases q2:k2=0
 .rw[if_pos (by simp[q2])];refine av (h (X++Y) _ (pairwise_append.mpr %[M,O|λx f y n=>?_]) (List.Perm.refl _) (by show(arrOf st).toList=_;rw[e];simp) rfl hf rfl);have%[j,d|rfl]:=Yh f;have%[o,l|rfl]:=Yh n;exact Yk (u j (X.length-1) ⋯ ⋯) (g4 o l ⋯)
 rw[if_neg (by simpa using q2)];have ex:((arrOf st).extract (b.length+k) (b.length+X.length)).toList=X.drop k:=by
  rw[nP,e,Ze,Ze,List.drop_append,List.drop_of_length_le ⋯,nil_append,Zw,List.drop_append_of_le_length ⋯,Xh (by rw[Yl];lia),Zn (by rw[Yl];lia)]
 have L:((arrOf st).extract (b.length+X.length) (b.length+X.length+k2)).toList=Y.take k2:=by
  rw[rY,e,Ze,List.drop_append,List.drop_of_length_le (by rw[Z9];lia),nil_append,Z9,Xe,drop_zero,Xh ⋯]
 have sx:((arrOf st).extract (b.length+k) (b.length+X.length)).size=X.length-k:=by rw[<-Zb,ex,Yl]
 have sy:((arrOf st).extract (b.length+X.length) (b.length+X.length+k2)).size=k2:=by rw[<-Zb,L,Yp,X4 T]
 have fin:∀(r:Array Keyed) (g:SortSt),SG (setPending st (((pendingOf st).setIfInBounds i (b.length,X.length+Y.length,p)).eraseIdxIfInBounds (i+1))) g->cS N (X.drop k) (Y.take k2) r.toList->
  (SC prog w A SI) (do modify (λs=>setArr s (r.toList.zipIdx.foldl (λa (p,j)=>a.setIfInBounds (b.length+k+j) p) (arrOf s)));let x<-get;pure (failedOf x).isNone) Q g:=λr g sg J=>by
  refine ar (cz (ar (fV (av ?_))));have U:failedOf g=none:=by rw[sg.2.2.2];exact hf
  show Q (failedOf g).isNone _;rw[U];have lr:r.toList.length=(X.length-k) +k2:=by
   rw[J.2.length_eq,Z9,Yl,Yp,X4 T]
  refine h (X.take k++r.toList++Y.drop k2) _ ?_ ?_ ?_ sg.1 U sg.2.2.1
  .have mem:∀y∈r.toList,(∃(j:Nat) (d:j<X.length),k<=j/\y=X[j])\/∃(j:Nat) (d:j<Y.length),j<k2/\y=Y[j]:=λy n=>by
    rcases Xs (J.2.mem_iff.mp n)with q|q
    .have%[j,v,h2|e]:=bR q;have%[d|e]:=Xr e;exact .inl %[j,d,v|e.symm]
    .have%[j,v,h2|e]:=bD q;have%[d|e]:=Xr e;exact .inr %[j,d,v|e.symm]
   refine pairwise_append.mpr %[pairwise_append.mpr %[M.take k,J.1|λx f y n=>?_],O.drop k2|λx f y n=>?_]
   .have%[j,v,h2|e]:=bD f;have%[d|rfl]:=Xr e;rcases mem y n with⟨o,l,h3,rfl⟩|⟨o,l,h3,rfl⟩
    .exact u j o ⋯ l
    .exact Yk (g1 j d v) (z 0 o (Xj _) l)
   .have%[j,v,h2|e]:=bR n;have%[d|rfl]:=Xr e;rcases Xs f with f|f
    .have%[o,h3,h4|e']:=bD f;have%[l|rfl]:=Xr e';exact Yk (u o (X.length-1) ⋯ ⋯) (g4 j d v)
    .rcases mem x f with⟨o,l,h3,rfl⟩|⟨o,l,h3,rfl⟩
     .exact Yk (u o (X.length-1) ⋯ ⋯) (g4 j d v)
     .exact z o j ⋯ d
  .have p1:(X.take k++r.toList++Y.drop k2).Perm (X.take k++(X.drop k++Y.take k2) ++Y.drop k2):=Xp _ (List.Perm.append_left _ J.2);refine p1.trans ?_;rw[<-Ze,Xg,Ze,Xg]
  .show(setArr g _|>arrOf).toList=_;have ab:arrOf g=arrOf st:=sg.2.1;show((r.toList.zipIdx).foldl (λ(a:Array Keyed) (p:Keyed×Nat)=>a.setIfInBounds (b.length+k+p.2) p.1) (arrOf g)).toList=_;rw[tT _ 0 _ _ (by rw[lr,ab,sz];lia),ab,e,lr];have t1:(b++X++Y++L2).take (b.length+k+0)=b++X.take k:=by
    rw[add_zero,Ze,Ze,List.take_append,Zn ⋯,Zw,Xh ⋯]
   have t2:(b++X++Y++L2).drop (b.length+k+0+(X.length-k+k2))=Y.drop k2++L2:=by
    rw[show b.length+k+0+(X.length-k+k2)=(b++X).length+k2 by rw[Z9];lia,Ze,List.drop_append,List.drop_of_length_le ⋯,nil_append,Zw,List.drop_append_of_le_length ⋯]
   rw[t1,t2];simp
 have B:∀x y,((arrOf st).extract (b.length+X.length) (b.length+X.length+k2)).toList[0]? =some x->((arrOf st).extract (b.length+k) (b.length+X.length)).toList[0]? =some y->N x<=N y:=λx y f n=>by
  rw[L,Yd,if_pos ⋯,Z4 lY]at f;rw[ex,Yc,Z4 (by omega)]at n;cases f;cases n;exact Yi (g2 _ ⋯ ⋯)
 have C:∀y∈((arrOf st).extract (b.length+X.length) (b.length+X.length+k2)).toList,∀x∈((arrOf st).extract (b.length+k) (b.length+X.length)).toList.drop (((arrOf st).extract (b.length+k) (b.length+X.length)).size-1),N y<=N x:=λy n x f=>by
  rw[L]at n;rw[sx,ex,drop_drop]at f;have%[j,v,h2|e1]:=bD n;have%[d|rfl]:=Xr e1;have%[o,h3,h4|e2]:=bR f;have%[l|rfl]:=Xr e2;have:o=X.length-1:=by lia
  subst this;exact Yi (g3 j d v)
 have ac:Srt N ((arrOf st).extract (b.length+k) (b.length+X.length)).toList:=by exact ex▸M.drop k
 have ae:Srt N ((arrOf st).extract (b.length+X.length) (b.length+X.length+k2)).toList:=L▸O.take k2;have ag:∀x∈((arrOf st).extract (b.length+k) (b.length+X.length)).toList,D x:=λx f=>dX x (by rw[ex]at f;exact X1 f)
 have ai:∀x∈((arrOf st).extract (b.length+X.length) (b.length+X.length+k2)).toList,D x:=λx f=>dY x (by rw[L]at f;exact X2 f)
 have gg:∀(r:Array Keyed) (g:SortSt),SG (setPending st (((pendingOf st).setIfInBounds i (b.length,X.length+Y.length,p)).eraseIdxIfInBounds (i+1))) g->cS N ((arrOf st).extract (b.length+k) (b.length+X.length)).toList ((arrOf st).extract (b.length+X.length) (b.length+X.length+k2)).toList r.toList->
  (SC prog w A SI) (do modify (λs=>setArr s (r.toList.zipIdx.foldl (λa (p,j)=>a.setIfInBounds (b.length+k+j) p) (arrOf s)));let x<-get;pure (failedOf x).isNone) Q g:=λr g sg J=>fin r g sg (by rw[ex,L]at J;exact J)
 by_cases q3:X.length-k<=k2
 .rw[if_pos q3];exact ar (vW c ac ae ag ai (by rw[sx];lia) (by rw[sy];lia) B C gg)
 .rw[if_neg q3];exact ar (vX c ac ae ag ai (by rw[sx];lia) (by rw[sy];lia) B C gg)
end
end SBig
namespace SBig
open PySem PyProof.Rows
abbrev ky(N:Keyed->Nat)(a:Array Keyed)(i:Nat):Nat:=N (a.getD i (Value.none,Value.none))
def AU(h:a[i]? =some x):ky N a i=N x:=by
 unfold ky
 simp_all
def tU(h:a[i]? =b[j]?):ky N a i=ky N b j:=by
 unfold ky
 simp_all
structure CR (st0 st:SortSt) (lo:Nat):Prop where
 kind:kindOf st=kindOf st0
 pend:pendingOf st=pendingOf st0
 fail:failedOf st=failedOf st0
 perm:(arrOf st).Perm (arrOf st0)
 same:∀i,i<lo->(arrOf st)[i]? =(arrOf st0)[i]?
def CR.refl(st:SortSt)(lo:Nat):CR st st lo:=%[rfl,rfl,rfl,Array.Perm.refl _|λ_ _=>rfl]
def CR.size{a st:SortSt}{lo:Nat}(h:CR a st lo):(arrOf st).size=(arrOf a).size:=h.perm.size_eq
def CR.rev{a st:SortSt}{lo i j:Nat}(h:CR a st lo)(hi:lo<=i)(b:j<=(arrOf st).size):CR a (setArr st (mirror (arrOf st) i j ((j-i)/2))) lo:=
 %[h.kind,h.pend,h.fail,(mirror_perm _ _ _ _).trans h.perm|λk c=>by
  rw[getElem?_mirror_all b,if_neg ⋯];exact h.same k c]
def vZ(b:j<=a.size)(k:Nat):ky N (mirror a i j ((j-i)/2)) k=if i<=k/\k<j then ky N a (i+j-1-k)else ky N a k:=by
 split
 .rename_i h
  exact tU (by rw[getElem?_mirror_all b,if_pos h])
 .rename_i h
  exact tU (by rw[getElem?_mirror_all b,if_neg h])
abbrev Up(N:Keyed->Nat)(a:Array Keyed)(lo n:Nat):Prop:=∀i j,i<=j->j<n->ky N a (lo+i)<=ky N a (lo+j)
abbrev Dn(N:Keyed->Nat)(a:Array Keyed)(lo n:Nat):Prop:=∀i j,i<=j->j<n->ky N a (lo+j)<=ky N a (lo+i)
def Up.one(N:Keyed->Nat)(a:Array Keyed)(lo:Nat):Up N a lo 1:=λi j b c=>by
 simp_all
def Up.step{lo n:Nat}(h:Up N a lo n)(d:1<=n)(f: ¬ ky N a (lo+n)<ky N a (lo+n-1)):Up N a lo (n+1):=λi j b g=>by
 by_cases e:j=n
 .subst e;by_cases c:i=j
  .exact c▸Zi _
  .have:=h i (j-1) ⋯ ⋯;rw[show lo+(j-1)=lo+j-1 by lia]at this
   lia
 .exact h i j b ⋯
def Dn.step{lo n:Nat}(h:Dn N a lo n)(d:1<=n)(f:ky N a (lo+n)<=ky N a (lo+n-1)):Dn N a lo (n+1):=λi j b g=>by
 by_cases e:j=n
 .subst e;by_cases c:i=j
  .exact c▸Zi _
  .have:=h i (j-1) ⋯ ⋯;rw[show lo+(j-1)=lo+j-1 by lia]at this
   lia
 .exact h i j b ⋯
def Dn.rev{lo n:Nat}(h:Dn N a lo n)(b:lo+n<=a.size):Up N (mirror a lo (lo+n) ((lo+n-lo)/2)) lo n:=λi j c d=>by
 rw[vZ b,vZ b,if_pos ⋯,if_pos ⋯];have:=h (n-1-j) (n-1-i) ⋯ ⋯
 grind
def Dn.same{lo n i j:Nat}(h:Dn N a lo n)(d:j<=a.size)(g:∀k b,i<=k->k<j->i<=b->b<j->ky N a k=ky N a b):Dn N (mirror a i j ((j-i)/2)) lo n:=by
 have e:∀k,ky N (mirror a i j _) k=ky N a k:=λk=>by
  rw[vZ d]
  grind
 intro p q c f;rw[e,e];exact h p q c f
section
variable{prog:Program}{w:World}{A:Around}{SI:Shared->Prop}{α β:Type}
def nQ{i j lo:Nat}{a st:SortSt}(c:Cmp prog w A SI (kindOf a) D N)(d:∀x∈(arrOf a).toList,D x)(r:CR a st lo)(hi:i<(arrOf a).size)(m:j<(arrOf a).size)
 (h:Q (some (decide (ky N (arrOf st) i<ky N (arrOf st) j))) st):(SC prog w A SI) (ltAt' i j) Q st:=by
 have f:=λx n=>d x ((Array.perm_iff_toList_perm.mp r.perm).mem_iff.mp n)
 have b:=r.size▸hi;have e:=r.size▸m;have%[g|o]:=aX b;have%[l|p]:=aX e;refine C5 (r.kind▸c) g l (f _ ∅) (f _ ∅) ?_;rw[AU g,AU l]at h;exact h
def rZ{st:SortSt}(h:Q () (setArr st (mirror (arrOf st) i j ((j-i)/2)))):(SC prog w A SI) (reverseSlice' i j) Q st:=by
 exact cz h
abbrev cuL(lo:Nat)(x:Option (Option Nat)×Nat):StateT SortSt Sem (ForInStep (Option (Option Nat)×Nat)):=do
 match<-ltAt' (lo+x.2) (lo+x.2-1)with
 | some w=>if w=true then pure (.done (none,x.2))else pure (.yield (none,x.2+1))
 | _=>pure (.done (some none,x.2))
abbrev cu3(lo nrem n:Nat):StateT SortSt Sem (Option Nat):=do
 reverseSlice' lo (lo+n)
 let x<-forIn [n:nrem] (none,n) λ_ x=>cuL lo x
 match x.1 with
 | some r=>pure r
 | none=>pure (some x.2)
abbrev cuM(lo:Nat)(x:Option (Option Nat)×Nat×Nat):StateT SortSt Sem (ForInStep (Option (Option Nat)×Nat×Nat)):=do
 match<-ltAt' (lo+x.2.1) (lo+x.2.1-1)with
 | some w=>
   if w=true then(if x.2.2>0 then(do
    reverseSlice' (lo+x.2.1-(x.2.2+1)) (lo+x.2.1)
    pure (.yield (none,x.2.1+1,0)))else pure (.yield (none,x.2.1+1,0)))
   else(do
    match<-ltAt' (lo+x.2.1-1) (lo+x.2.1)with
    | some w=>if w=true then pure (.done (none,x.2.1,x.2.2))else pure (.yield (none,x.2.1+1,x.2.2+1))
    | _=>pure (.done (some none,x.2.1,x.2.2)))
 | _=>pure (.done (some none,x.2.1,x.2.2))
abbrev cu2(lo nrem n:Nat):StateT SortSt Sem (Option Nat):=do
 rule "list.sort.descending-run"
 let x<-forIn [n+1:nrem] (none,n+1,0) λ_ x=>cuM lo x
 match x.1 with
 | some r=>pure r
 | none=>
   if x.2.2>0 then(do
    reverseSlice' (lo+x.2.1-(x.2.2+1)) (lo+x.2.1)
    cu3 lo nrem x.2.1)else cu3 lo nrem x.2.1
set_option smartUnfolding false in
def GW(lo nrem:Nat):countRun' lo nrem=(do
 let x<-forIn [1:nrem] (none,1) λ_ x=>cuL lo x
 match x.1 with
 | some r=>pure r
 | none=>
   if(x.2==nrem)=true then pure (some x.2)
   else if x.2>1 then(do
    match<-ltAt' lo (lo+x.2-1)with
    | some w=>if w=true then pure (some x.2)else(do
      reverseSlice' lo (lo+x.2)
      cu2 lo nrem x.2)
    | _=>pure none)else cu2 lo nrem x.2):=by
 rw[countRun'_eq];rfl
variable{D:Keyed->Prop}{N:Keyed->Nat}{lo nrem n j:Nat}{Q:Option Nat->SortSt->Prop}{st st2:SortSt}
def AV{q:Option _}{R:ForInStep _->SortSt->Prop}(c:Cmp prog w A SI (kindOf st) D N)(d:∀x∈(arrOf st).toList,D x)(r:CR st st2 lo)(e:lo+nrem<=(arrOf st).size)(f:1<=j)(g:j<nrem)
 (a:ky N (arrOf st2) (lo+j)<ky N (arrOf st2) (lo+j-1)->R (.done (none,j)) st2) (b: ¬ ky N (arrOf st2) (lo+j)<ky N (arrOf st2) (lo+j-1)->R (.yield (none,j+1)) st2):(SC prog w A SI) (cuL lo (q,j)) R st2:=by
 refine ar (nQ c d r ⋯ ⋯ ?_);dsimp only;by_cases q:ky N (arrOf st2) (lo+j)<ky N (arrOf st2) (lo+j-1)
 .rw[Zf q,if_pos rfl];exact av (a q)
 .rw[Zh q,if_neg ∅];exact av (b q)
def AW(c:Cmp prog w A SI (kindOf st) D N)(d:∀x∈(arrOf st).toList,D x)(s:lo+nrem<=(arrOf st).size)(h:∀n a,CR st a lo->1<=n->n<=nrem->Up N (arrOf a) lo n->Q (some n) a)
 (r:CR st st2 lo) (n1:1<=n) (o:n<=nrem) (t:Dn N (arrOf st2) lo n):(SC prog w A SI) (cu3 lo nrem n) Q st2:=by
 refine ar (rZ ?_);have u:=r.rev (j:=lo+n) (Zi _) (by rw[r.size];lia);have g:=t.rev (by rw[r.size];lia);refine ar (bN (bC (Q:=λx a=>CR st a lo/\∃n,x=(none,n)/\1<=n/\n<=nrem/\Up N (arrOf a) lo n)
  (λj x a=>CR st a lo/\x=(none,j)/\Up N (arrOf a) lo j) o %[u,rfl|g] ?_ ?_) ?_)
 .intro j x e i p %[f,rfl|b];have l:=Yk n1 i;exact AV c d f s l p (λ_=>%[f,j,rfl,l,Yi p|b]) λq=>%[f,rfl|b.step l q]
 .intro x e %[f,rfl|b];exact%[f,nrem,rfl,Yk n1 o,Zi _|b]
 .intro x e %[f,m,rfl,v,m2|b];exact av (h m e f v m2 b)
def FB{q:Option (Option Nat)}{k:Nat}{R:ForInStep (Option (Option Nat)×Nat×Nat)->SortSt->Prop}(c:Cmp prog w A SI (kindOf st) D N)(d:∀x∈(arrOf st).toList,D x)(r:CR st st2 lo)(z:lo+nrem<=(arrOf st).size)(u:k+1<=j)(B:j<nrem)
 (o:Dn N (arrOf st2) lo j) (p:∀i a,lo+j-(k+1)<=i->i<lo+j->lo+j-(k+1)<=a->a<lo+j->ky N (arrOf st2) i=ky N (arrOf st2) a)
 (v:R (.done (none,j,k)) st2) (g:∀k st2,CR st st2 lo->k<=j->Dn N (arrOf st2) lo (j+1)->(∀i a,lo+(j+1) -(k+1)<=i->i<lo+(j+1)->lo+(j+1) -(k+1)<=a->a<lo+(j+1)->ky N (arrOf st2) i=ky N (arrOf st2) a)->R (.yield (none,j+1,k)) st2):(SC prog w A SI) (cuM lo (q,j,k)) R st2:=by
 have one:∀st,∀i a,lo+(j+1) -(0+1)<=i->i<lo+(j+1)->lo+(j+1) -(0+1)<=a->a<lo+(j+1)->ky N (arrOf st) i=ky N (arrOf st) a:=λst i a h l y s=>by rw[show i=a by lia]
 refine ar (nQ c d r ⋯ ⋯ ?_);dsimp only;by_cases m:ky N (arrOf st2) (lo+j)<ky N (arrOf st2) (lo+j-1)
 .rw[Zf m,if_pos rfl];have b:=o.step ⋯ (Yi m);by_cases f:k>0
  .rw[if_pos f];exact ar (rZ (av (g 0 _ (r.rev ⋯ (by rw[r.size];lia)) (Xj _) (b.same (by rw[r.size];lia) p) (one _))))
  .rw[if_neg f];exact av (g 0 _ r (Xj _) b (one _))
 .rw[Zh m,if_neg ∅];refine ar (nQ c d r ⋯ ⋯ ?_);dsimp only;by_cases t:ky N (arrOf st2) (lo+j-1)<ky N (arrOf st2) (lo+j)
  .rw[Zf t,if_pos rfl];exact av v
  .rw[Zh t,if_neg ∅];have all:∀i,lo+j-(k+1)<=i->i<lo+(j+1)->ky N (arrOf st2) i=ky N (arrOf st2) (lo+j-1):=λi h l=>by
    by_cases e:i=lo+j
    .lia
    .exact p _ _ h ⋯ ⋯ ⋯
   exact av (g (k+1) _ r u (o.step ⋯ ⋯) λi a h l y s=>(all i ⋯ l).trans (all a ⋯ s).symm)
def AX(c:Cmp prog w A SI (kindOf st) D N)(d:∀x∈(arrOf st).toList,D x)(p:lo+nrem<=(arrOf st).size)(h:∀n a,CR st a lo->1<=n->n<=nrem->Up N (arrOf a) lo n->Q (some n) a)
 (r:CR st st2 lo) (z:n<nrem) (s:Dn N (arrOf st2) lo (n+1)):(SC prog w A SI) (cu2 lo nrem n) Q st2:=by
 refine ar (jm ?_);refine ar (bN (bC (Q:=λx a=>CR st a lo/\∃m q,x=(none,m,q)/\q+1<=m/\m<=nrem/\Dn N (arrOf a) lo m/\(∀k f,lo+m-(q+1)<=k->k<lo+m->lo+m-(q+1)<=f->f<lo+m->ky N (arrOf a) k=ky N (arrOf a) f))
  (λj x a=>CR st a lo/\∃q,x=(none,j,q)/\q+1<=j/\Dn N (arrOf a) lo j/\(∀k f,lo+j-(q+1)<=k->k<lo+j->lo+j-(q+1)<=f->f<lo+j->ky N (arrOf a) k=ky N (arrOf a) f)) z %[r,0,rfl,Nat.le_add_left _ _,s|λk f G H I J=>by rw[show k=f by lia]] ?_ ?_) ?_)
 .intro j x l B u %[g,q,rfl,i,b|e];exact FB c d g p i u b e %[g,j,q,rfl,i,Yi u,b|e] λk st2 r C s E=>%[r,k,rfl,Nat.succ_le_succ C,s|E]
 .intro x l %[g,q,rfl,i,b|e];exact%[g,nrem,q,rfl,i,Zi _,b|e]
 .intro x l %[g,m,q,rfl,t,v,b|e];have y:=Yk (Nat.le_add_left _ _) t;dsimp only;by_cases o:q>0
  .rw[if_pos o];exact ar (rZ (AW c d p h (g.rev ⋯ (by rw[g.size];lia)) y v (b.same (by rw[g.size];lia) e)))
  .rw[if_neg o];exact AW c d p h g y v b
def tV{lo nrem:Nat}{st:SortSt}(c:Cmp prog w A SI (kindOf st) D N)(d:∀x∈(arrOf st).toList,D x)(r:1<=nrem)(g:lo+nrem<=(arrOf st).size)
 (h:∀n a,CR st a lo->1<=n->n<=nrem->Up N (arrOf a) lo n->Q (some n) a):(SC prog w A SI) (countRun' lo nrem) Q st:=by
 rw[GW];refine ar (bN (bC (Q:=λx a=>a=st/\∃n,x=(none,n)/\1<=n/\n<=nrem/\Up N (arrOf st) lo n/\(n=nrem\/ky N (arrOf st) (lo+n)<ky N (arrOf st) (lo+n-1)))
  (λj x a=>a=st/\x=(none,j)/\Up N (arrOf st) lo j) r %[rfl,rfl|Up.one _ _ _] ?_ ?_) ?_)
 .intro j x a e f %[rfl,rfl|up];exact AV c d (CR.refl _ lo) g e f (λq=>%[rfl,j,rfl,e,Yi f,up|.inr q]) λq=>%[rfl,rfl|up.step e q]
 .intro x a %[rfl,rfl|up];exact%[rfl,nrem,rfl,r,Zi _,up|.inl rfl]
 .intro x b %[E,n,rfl,n1,s,up|G];subst E;dsimp only;by_cases l:n=nrem
  .rw[if_pos (by simp[l])];exact av (h n b (CR.refl _ _) n1 s up)
  rw[if_neg (by simp[l])];have t:n<nrem:=by lia
  by_cases u:n>1
  .rw[if_pos u];refine ar (nQ c d (CR.refl _ lo) ⋯ ⋯ ?_);dsimp only;by_cases v:ky N (arrOf b) lo<ky N (arrOf b) (lo+n-1)
   .rw[Zf v,if_pos rfl];exact av (h n b (CR.refl _ _) n1 s up)
   .rw[Zh v,if_neg ∅];have all:∀i,i<n->ky N (arrOf b) (lo+i)=ky N (arrOf b) lo:=λi hi=>by
     have y:=up 0 i (Xj _) hi;have z:=up i (n-1) ⋯ ⋯;rw[show lo+(n-1)=lo+n-1 by lia]at z;rw[add_zero]at y
     lia
    have m:Dn N (arrOf b) lo n:=λi j o f=>by rw[all i ⋯,all j f];exact Zi _
    exact ar (rZ (AX c d g h ((CR.refl b lo).rev (Zi _) ⋯) t ((m.step n1 ⋯).same ⋯ (λk p y z H I=>by
     have B:=all (k-lo) ⋯;have C:=all (p-lo) ⋯;rw[show lo+(k-lo)=k by lia]at B;rw[show lo+(p-lo)=p by lia]at C;rw[B,C]))))
  .rw[if_neg u];refine AX c d g h (CR.refl b lo) t (Dn.step (λi j o f=>?_) n1 (Yi (G.resolve_left l)));rw[show i=j by lia];exact Zi _
end
end SBig
namespace SBig
open PySem PyProof.Rows
section
variable{prog:Program}{w:World}{A:Around}{SI:Shared->Prop}{α β:Type}
def CR.move{a st:SortSt}{lo k l:Nat}(h:CR a st lo)(b:lo+k<(arrOf st).size)(c:l<=k):CR a (setArr st (bubble (arrOf st) (lo+k) (lo+k-(lo+l)))) lo:=
 %[h.kind,h.pend,h.fail,(bubble_perm _ _ _).trans h.perm|λi hi=>by
  rw[getElem?_bubble b _ ⋯,if_neg ⋯,if_neg ⋯];exact h.same i hi]
def wX(f:b<a.size)(g:d<=b)(k:Nat):ky N (bubble a b d) k=if k=b-d then ky N a b else if b-d<k/\k<=b then ky N a (k-1)else ky N a k:=by
 by_cases c:k=b-d
 .rw[if_pos c];exact tU (by rw[getElem?_bubble f d g,if_pos c])
 .rw[if_neg c];by_cases e:b-d<k/\k<=b
  .rw[if_pos e];exact tU (by rw[getElem?_bubble f d g,if_neg c,if_pos e])
  .rw[if_neg e];exact tU (by rw[getElem?_bubble f d g,if_neg c,if_neg e])
def yE{lo n ok:Nat}{f st:SortSt}(c:Cmp prog w A SI (kindOf f) D N)(d:∀x∈(arrOf f).toList,D x)(r:CR f st lo)(M:1<=ok)(O:ok<=n)(hs:lo+n<=(arrOf f).size)(up:Up N (arrOf st) lo ok)
 (h:∀a,CR f a lo->Up N (arrOf a) lo n->Q true a):(SC prog w A SI) (binarySort' lo n ok) Q st:=by
 rw[binarySort'_eq];rw[show max ok 1=ok by lia];refine ar (bN (bC (Q:=λx a=>x=(none,())/\CR f a lo/\Up N (arrOf a) lo n) (λk x a=>x=(none,())/\CR f a lo/\Up N (arrOf a) lo k) O %[rfl,r|up] ?_ ?_) ?_)
 .intro k x b T hk %[rfl,m|up1];dsimp only;have pv:∀i,i<k->lo+i<(arrOf f).size:=λi hi=>by lia
  refine ar (bN (bC (Q:=λx a=>a=b/\∃l,x.1=none/\x.2.1=l/\l<=k/\(∀i,i<l->ky N (arrOf b) (lo+i)<=ky N (arrOf b) (lo+k))/\(∀i,l<=i->i<k->ky N (arrOf b) (lo+k)<ky N (arrOf b) (lo+i)))
   (λj x a=>a=b/\∃l q,x=(none,l,q)/\l<=q/\q<=k/\q-l<=k-j/\(∀i,i<l->ky N (arrOf b) (lo+i)<=ky N (arrOf b) (lo+k))/\(∀i,q<=i->i<k->ky N (arrOf b) (lo+k)<ky N (arrOf b) (lo+i))) (Xj _)
   %[rfl,0,k,rfl,⋯,⋯,⋯,λi hi=>absurd hi (Xa _)|λi M h2=>by lia] ?_ ?_) ?_)
  .intro j x g _ U %[rfl,l,q,rfl,B,o,Y,s|t];dsimp only;by_cases u:l>=q
   .rw[if_pos u];have e:l=q:=by lia
    subst e;exact av %[rfl,l,rfl,rfl,o,s|t]
   .rw[if_neg u];refine ar (nQ c d m ⋯ ⋯ ?_);dsimp only;by_cases p:ky N (arrOf g) (lo+k)<ky N (arrOf g) (lo+(l+q)/2)
    .rw[Zf p,if_pos rfl];exact av %[rfl,l,_,rfl,⋯,⋯,⋯,s|λi v z=>Zg p (up1 _ _ v z)]
    .rw[Zh p,if_neg ∅];exact av %[rfl,_,q,rfl,⋯,⋯,⋯,λi v=>Yk (up1 i ((l+q)/2) ⋯ ⋯) ⋯|t]
  .intro x g %[rfl,l,q,rfl,B,o,Y,s|t];have e:l=q:=by lia
   subst e;exact%[rfl,l,rfl,rfl,o,s|t]
  .rintro⟨x1,x2,x3⟩ g ⟨e2,l,G,H,C,s,t⟩;subst e2;dsimp only at G H;subst G H;dsimp only;rw[moveDown'_eq];refine ar (cz (av %[rfl,m.move (by rw[m.size];lia) C|?_]));have y:lo+k<(arrOf g).size:=by rw[m.size];lia
   intro i j E U;rw[wX y ⋯,wX y ⋯];have ed:lo+k-(lo+k-(lo+x2))=lo+x2:=by lia
   rw[ed];by_cases v:lo+i=lo+x2
   .rw[if_pos v];by_cases z:lo+j=lo+x2
    .rw[if_pos z];exact Zi _
    .rw[if_neg z,if_pos ⋯];have:=t (j-1) ⋯ ⋯;rw[show lo+(j-1)=lo+j-1 by lia]at this
     lia
   .rw[if_neg v];by_cases I:lo+x2<lo+i/\lo+i<=lo+k
    .rw[if_pos I,if_neg ⋯,if_pos ⋯];have:=up1 (i-1) (j-1) ⋯ ⋯;rw[show lo+(j-1)=lo+j-1 by lia,show lo+(i-1)=lo+i-1 by lia]at this;exact this
    .rw[if_neg I];by_cases J:lo+j=lo+x2
     .rw[if_pos J];exact s i ⋯
     .rw[if_neg J];by_cases L:lo+x2<lo+j/\lo+j<=lo+k
      .rw[if_pos L];have:=up1 i (j-1) ⋯ ⋯;rw[show lo+(j-1)=lo+j-1 by lia]at this;exact this
      .rw[if_neg L];exact up1 i j E ⋯
 .intro x b %[rfl,m|up1];exact%[rfl,m|up1]
 .intro x b %[rfl,m|up1];exact av (h b m up1)
end
end SBig
namespace SBig
open PySem PyProof.Rows
section
variable{prog:Program}{w:World}{A:Around}{SI:Shared->Prop}
end
end SBig
namespace SBig
open PySem PyProof.Rows
abbrev dz:List (List Keyed×Nat)->Nat->List (Nat×Nat×Nat)
 |[],_=>[]
 |(r,p)::t,o=>(o,r.length,p)::dz t (o+r.length)
abbrev bu(a:List (List Keyed×Nat)):List Keyed:=(a.map (·.1)).flatten
def ce(a b:List _):bu (a++b)=bu a++bu b:=by simp[bu]
def aV(a:List Keyed×Nat)(b:List _):bu (a::b)=a.1++bu b:=by simp[bu]
def di:∀a b o,dz (a++b) o=dz a o++dz b (o+(bu a).length)
 |[],b,o=>by simp[dz,bu]
 |(r,p)::t,b,o=>by
  rw[cons_append,dz,dz,di t b,aV,Z9,cons_append,Nat.add_assoc]
def eP:∀a o,(dz a o).length=a.length
 |[],_=>rfl
 |(r,p)::t,o=>by rw[dz,Zr,Zr,eP t]
structure RI (N:Keyed->Nat) (st0 st:SortSt) (rp:List (List Keyed×Nat)) (rest:List Keyed):Prop where
 kind:kindOf st=kindOf st0
 fail:failedOf st=none
 perm:(arrOf st).toList.Perm (arrOf st0).toList
 arr:(arrOf st).toList=bu rp++rest
 pend:(pendingOf st).toList=dz rp 0
 runs:∀r∈rp,r.1≠[]/\Srt N r.1
def RI.size{N:Keyed->Nat}{a st:SortSt}{b:List _}{rest:List Keyed}(h:RI N a st b rest):(arrOf st).size=(arrOf a).size:=by
 rw[<-Zb,<-Zb,h.perm.length_eq]
def RI.psize{N:Keyed->Nat}{a st:SortSt}{b:List _}{rest:List Keyed}(h:RI N a st b rest):(pendingOf st).size=b.length:=by
 rw[<-Zb,h.pend,eP]
section
variable{prog:Program}{w:World}{A:Around}{SI:Shared->Prop}{α β:Type}
def kz{D:Keyed->Prop}{N:Keyed->Nat}{f st:SortSt}{a b:List _}{X Y:List Keyed}{p o i:Nat}{rest:List Keyed}{Q:Bool->SortSt->Prop}(c:Cmp prog w A SI (kindOf f) D N)(d:∀x∈(arrOf f).toList,D x)
 (h:RI N f st (a++(X,p)::(Y,o)::b) rest) (hi:i=a.length) (k:∀Z g,RI N f g (a++(Z,p)::b) rest->Z.length=X.length+Y.length->Q true g):(SC prog w A SI) (mergeAt' i) Q st:=by
 subst hi;have e:=h.arr;rw[ce,aV,aV]at e;have m:(arrOf st).toList=bu a++X++Y++(bu b++rest):=by rw[e];simp
 have v:=λx j=>d x (h.perm.mem_iff.mp j)
 have n:=h.pend;rw[di,dz,dz,zero_add]at n;have pl:=eP a 0;have C:=by
  have:(pendingOf st).toList[a.length]? =some ((bu a).length,X.length,p):=by
   rw[n,Yb ⋯,pl,Xe];rfl
  simpa using this
 have E:=by
  have:(pendingOf st).toList[a.length+1]? =some ((bu a).length+X.length,Y.length,o):=by
   rw[n,Yb ⋯,pl,Zw];rfl
  simpa using this
 have s:=h.runs (X,p) ∅;have y:=h.runs (Y,o) ∅;refine vY (h.kind▸c) m s.2 y.2 s.1 y.1 (λx j=>v x (by rw[m];simp[j])) (λx j=>v x (by rw[m];simp[j])) C E h.fail λZ g G z B H I t=>?_
 have u:Z.length=X.length+Y.length:=by rw[z.length_eq,Z9]
 refine k Z g %[H.trans h.kind,I,?_,?_,?_|λr l=>?_] u
 .refine List.Perm.trans ?_ h.perm;rw[B,m];rw[show bu a++X++Y++(bu b++rest)=bu a++(X++Y) ++(bu b++rest) by simp];exact Xp _ (List.Perm.append_left _ z)
 .rw[B,ce,aV];simp
 .rw[t,Array.toList_eraseIdxIfInBounds,Array.toList_setIfInBounds,n,di,dz,zero_add];rw[List.set_append_right _ _ ⋯,pl,Xe,List.set_cons_zero];rw[List.eraseIdx_append_of_length_le ⋯,pl,Zw,List.eraseIdx_cons_succ,List.eraseIdx_cons_zero];rw[u,Nat.add_assoc]
 .rcases Xs l with l|l
  .exact h.runs r (Yx _ l)
  .rcases mem_cons.mp l with rfl|l
   .refine%[λq=>?_|G];have j:=length_pos_iff.mpr s.1;dsimp only at q j;rw[q,length_nil]at u
    lia
   .exact h.runs r (by simp[l])
def yF{N:Keyed->Nat}{a:Array Keyed}{lo n:Nat}(h:Up N a lo n)(f:lo+n<=a.size):Srt N ((a.toList.drop lo).take n):=by
 refine pairwise_iff_getElem.mpr λi j hi c d=>?_
 have b:j<n:=by grind
 have g:∀i hi,i<n->N ((a.toList.drop lo).take n)[i]=ky N a (lo+i):=λi hi e=>by
  refine(AU ?_).symm
  simp_all
 rw[g i hi ⋯,g j c b];exact h i j ⋯ b
def CR.toRI{N:Keyed->Nat}{d b a:SortSt}{f:List _}{rest:List Keyed}{lo n:Nat}(h:RI N d b f rest)(r:CR b a lo)(j:(bu f).length=lo)(up:Up N (arrOf a) lo n)(o:lo+n<=(arrOf b).size):
 ∃R c,RI N d a f (R++c)/\R.length=n/\Srt N R:=by
 have l:=r.size;refine%[((arrOf a).toList.drop lo).take n,(arrOf a).toList.drop (lo+n),%[r.kind.trans h.kind,r.fail.trans h.fail,(Array.perm_iff_toList_perm.mp r.perm).trans h.perm,?_,r.pend▸h.pend|h.runs],?_|yF up ⋯]
 .have e:(arrOf a).toList.take lo=bu f:=by
   have m:(arrOf a).toList.take lo=(arrOf b).toList.take lo:=by
    apply ext_getElem?;intro i;rw[Yd,Yd]
    split
    .rename_i hi
     have:=r.same i hi;simpa using this
    .rfl
   rw[m,h.arr,Xh ⋯,Zn ⋯]
  rw[<-e];have g:=Xg n ((arrOf a).toList.drop lo);rw[drop_drop]at g;rw[g,(Xg lo (arrOf a).toList)]
 grind
def mr{α:Type}(f:α->α):∀l x,(l++[x]).modify l.length f=l++[f x]
 |[],x=>rfl
 | y::l,x=>by
   rw[cons_append,Zr,List.modify_succ_cons,mr f l x,cons_append]
def kA{α:Type}(l:List α):l=[]\/∃a x,l=a++[x]:=by
 by_cases h:l=[]
 .exact .inl h
 .exact .inr %[l.dropLast,l.getLast h|(List.dropLast_concat_getLast h).symm]
def yG{α:Type}(l:List α)(h:1<l.length):∃a x y,l=a++x::y::[]:=by
 rcases kA l with rfl|⟨a,y,rfl⟩
 .simp at h
 .rcases kA a with rfl|⟨b,x,rfl⟩
  .simp at h
  .exact%[b,x,y|by simp]
def RI.pushed{N:Keyed->Nat}{a st:SortSt}{c:List _}{R rest:List Keyed}{lo m:Nat}(h:RI N a st c (R++rest))(d:(bu c).length=lo)(e:R.length=m)(f:1<=m)(g:Srt N R):RI N a (setPending st ((pendingOf st).push (lo,m,0))) (c++[(R,0)]) rest:=by
 refine%[h.kind,h.fail,h.perm,?_,?_|λr b=>?_]
 .rw[h.arr,ce,aV];simp[bu]
 .rw[toList_push,h.pend,di,dz,dz,zero_add,d,e]
 .rcases Xs b with b|b
  .exact h.runs r b
  .rw[Xt b]
   grind
def RI.powered{N:Keyed->Nat}{a st:SortSt}{b:List _}{rest:List Keyed}{X:List Keyed}{p:Nat}(d:Nat)(h:RI N a st (b++[(X,p)]) rest):RI N a (setPending st ((pendingOf st).modify ((pendingOf st).size-1) λx=>(x.fst,x.2.fst,d))) (b++[(X,d)]) rest:=by
 refine%[h.kind,h.fail,h.perm,?_,?_|λr c=>?_]
 .rw[h.arr,ce,ce,aV,aV]
 .rw[Array.toList_modify,h.psize,h.pend,di,di];rw[show(b++[(X,p)]).length-1=(dz b 0).length by rw[eP];simp];show List.modify (dz b 0++[_]) _ _=_;rw[mr];rfl
 .rcases Xs c with c|c
  .exact h.runs r (Yx _ c)
  .rw[Xt c];exact h.runs (X,p) ∅
abbrev srP(lo n:Nat):StateT SortSt Sem (ForInStep (Option Unit×Nat)):=do
 modify λs=>setPending s ((pendingOf s).push (lo,n,0))
 pure (.yield (none,lo+n))
abbrev sr1(size lo n:Nat):StateT SortSt Sem (ForInStep (Option Unit×Nat)):=do
 let s<-get
 match(pendingOf s).back? with
 | some (a,n1,_)=>do
   let x<-forIn [0:size] (none,()) λ_ _=>(do
    let s<-get
    match if(pendingOf s).size>1 then(pendingOf s)[(pendingOf s).size-2]? else none with
    | some (_,_,o)=>
      if o<=power' size (2*a+n1) (2*a+n1+n1+n) size then pure (.done (none,()))
      else(do
       let b<-mergeAt' ((pendingOf s).size-2)
       if(!b)=true then pure (.done (some (),()))else pure (.yield (none,())))
    | _=>pure (.done (none,())))
   match x.1 with
   | some r=>pure (.done (some r,lo))
   | none=>do
     modify λs=>setPending s ((pendingOf s).modify ((pendingOf s).size-1) λx=>(x.1,x.2.1,power' size (2*a+n1) (2*a+n1+n1+n) size))
     srP lo n
 | _=>srP lo n
abbrev srO(size:Nat)(x:Option Unit×Nat):StateT SortSt Sem (ForInStep (Option Unit×Nat)):=
 if x.2>=size then pure (.done (none,x.2))
 else do
  match<-countRun' x.2 (size-x.2)with
  | some n=>
    if n<minRun' size size 0 then(do
     rule "list.sort.binary-insertion"
     let b<-binarySort' x.2 (min (size-x.2) (minRun' size size 0)) n
     if(!b)=true then pure (.done (some (),x.2))else sr1 size x.2 (min (size-x.2) (minRun' size size 0)))
    else sr1 size x.2 n
  | _=>pure (.done (some (),x.2))
abbrev srT(size:Nat)(x:Option Unit×Nat):StateT SortSt Sem Unit:=
 match x.1 with
 | some r=>pure r
 | none=>do
   let x<-forIn [0:size] (none,()) λ_ _=>(do
    let s<-get
    if(pendingOf s).size<=1 then pure (.done (none,()))
    else(do
     let b<-mergeAt' (if Option.any (λx=>decide (x<(pendingOf s)[(pendingOf s).size-2+1]?.elim 0 λx=>x.2.1)) (if(pendingOf s).size-2>0 then Option.map (λx=>x.2.1) (pendingOf s)[(pendingOf s).size-2-1]? else none)=true then(pendingOf s).size-2-1 else(pendingOf s).size-2)
     if(!b)=true then pure (.done (some (),()))else pure (.yield (none,()))))
   match x.1 with
   | some r=>pure r
   | none=>pure ()
set_option smartUnfolding false in
def GX:sortRuns'=(do
 let s<-get
 let x<-forIn [0:(arrOf s).size] (none,0) λ_ x=>srO (arrOf s).size x
 srT (arrOf s).size x):=by
 rw[sortRuns'_eq];rfl
def AY{D:Keyed->Prop}{N:Keyed->Nat}{st m:SortSt}{v:List (List Keyed×Nat)}{R e:List Keyed}{lo n:Nat}{T:ForInStep (Option Unit×Nat)->SortSt->Prop}(c:Cmp prog w A SI (kindOf st) D N)(d:∀x∈(arrOf st).toList,D x)(o:RI N st m v (R++e))(q:(bu v).length=lo)(p:R.length=n)(s:Srt N R)(J:1<=n)
 (L:∀a h,RI N st h a e->(bu a).length=lo+n->T (.yield (none,lo+n)) h):(SC prog w A SI) (sr1 (arrOf st).size lo n) T m:=by
 refine ar (fV ?_);rcases kA v with y|⟨O,⟨U,Y⟩,y⟩
 .subst y;have B:(pendingOf m).back? =none:=by
   have:=o.psize;simp[Array.back?,this]
  rw[B];exact ar (cz (av (L _ _ (o.pushed q p J s) (by rw[ce,Z9,q,aV];simp[bu,p]))))
 .have B:(pendingOf m).back? =some ((bu O).length,U.length,Y):=by
   rw[<-Array.getLast?_toList,o.pend,y,di,dz,dz,zero_add];simp
  rw[B];refine ar (bN (bC (Q:=λx h=>x=(none,())/\∃a,RI N st h a (R++e)/\a≠[]/\(bu a).length=lo) (λj x h=>x=(none,())/\∃a,RI N st h a _/\a≠[]/\(bu a).length=lo) (Xj _) %[rfl,v,o,by rw[y];simp|q] ?_ ?_) ?_)
  .intro j5 x f _ _ %[rfl,l,b,i|g];refine ar (fV ?_);by_cases C:(pendingOf f).size>1
   .have%[r,%[z|E],%[Y5|q5]|rfl]:=yG l (b.psize▸C);have t:(pendingOf f).size-2=r.length:=by rw[b.psize];simp
    have G:(pendingOf f)[(pendingOf f).size-2]? =some ((bu r).length,z.length,E):=by
     have:(pendingOf f).toList[r.length]? =some ((bu r).length,z.length,E):=by
      rw[b.pend,di,Yb (by rw[eP];lia),eP,Xe,zero_add];rfl
     rw[t];simpa using this
    rw[if_pos C,G];dsimp only
    split
    .exact av %[rfl,_,b,i|g]
    .refine ar (kz c d b t λZ5 ab H I=>av %[rfl,_,H,by simp|?_]);rw[<-g,ce,ce,aV,aV,aV];simp[bu,I]
   .rw[if_neg C];exact av %[rfl,_,b,i|g]
  .intro x f %[rfl,l,b,i|g];exact%[rfl,l,b,i|g]
  .intro x f %[rfl,l,b,i|g];dsimp only;have%[r,%[z|E]|rfl]:=(kA l).resolve_left i;refine ar (cz (ar (cz (av ?_))));have u:∀M,(bu (r++[(z,M)])).length=lo:=λM=>by
    rw[<-g,ce,ce,aV,aV]
   exact L _ _ ((b.powered _).pushed (u _) p J s) (by rw[ce,Z9,u,aV];simp[bu,p])
def sc_sortRuns{D:Keyed->Prop}{N:Keyed->Nat}{Q:Unit->SortSt->Prop}{st:SortSt}(c:Cmp prog w A SI (kindOf st) D N)(d:∀x∈(arrOf st).toList,D x)(h2:1<=(arrOf st).size)(hp:pendingOf st= #[])(hf:failedOf st=none)
 (h:∀f,(arrOf f).toList.Perm (arrOf st).toList->Srt N (arrOf f).toList->failedOf f=none->Q () f):(SC prog w A SI) sortRuns' Q st:=by
 rw[GX];refine ar (fV ?_);refine ar (bN (bC (Q:=λx f=>∃e lo,x=(none,lo)/\RI N st f e [])
  (λj x f=>∃e rest lo,x=(none,lo)/\RI N st f e rest/\(bu e).length=lo/\j<=lo/\lo<=(arrOf st).size) (Xj _) %[[],_,0,rfl,%[rfl,hf,List.Perm.refl _,rfl,by rw[hp];rfl|λ_ h=>(nomatch h)],rfl,Zi _|Xj _] ?_ ?_) ?_)
 .intro j x u _ hj %[e,rest,lo,rfl,g,m,L|M];unfold srO;dsimp only;have s1:=g.size;by_cases C:lo>=(arrOf st).size
  .rw[if_pos C];have O:rest=[]:=by
    have:=congrArg List.length g.arr;rw[Z9,Zb,s1,m]at this;exact length_eq_zero_iff.mp ⋯
   subst O;exact av %[e,lo,rfl|g]
  rw[if_neg C];have d1:∀x∈(arrOf u).toList,D x:=λx hx=>d x (g.perm.mem_iff.mp hx)
  have c1:Cmp prog w A SI (kindOf u) D N:=g.kind▸c;refine ar (tV c1 d1 ⋯ ⋯ λn o r2 n1 n2 E=>?_);dsimp only;by_cases v:n<minRun' (arrOf st).size (arrOf st).size 0
  .rw[if_pos v];refine ar (jm (ar (yE c1 d1 r2 n1 ⋯ ⋯ E λT r3 U=>?_)));rw[if_neg ∅];have%[R,y,s,z|B]:=CR.toRI g r3 m U ⋯;exact AY c d s m z B ⋯ λab f r l=>%[_,_,_,rfl,r,l,⋯|⋯]
  .rw[if_neg v];have%[R,y,s,z|B]:=CR.toRI g r2 m E ⋯;exact AY c d s m z B ⋯ λab f r l=>%[_,_,_,rfl,r,l,⋯|⋯]
 .intro x u %[e,rest,lo,rfl,g,m,L|M];have O:rest=[]:=by
   have:=congrArg List.length g.arr;rw[Z9,Zb,g.size,m]at this;exact length_eq_zero_iff.mp ⋯
  subst O;exact%[e,lo,rfl|g]
 .intro x u %[e,lo,rfl|g];unfold srT;dsimp only;have few:∀(e:List (List Keyed×Nat)),(∀r∈e,r.1≠[]/\Srt N r.1)->e.length<=(bu e).length:=by
   intro e
   induction e with
   | nil=>intro _;exact Xj _
   | cons r t ih=>
     intro I;rw[aV,Zr,Z9];have:=length_pos_iff.mpr (I r ∅).1;have:=ih λq hq=>I q (by simp[hq])
     lia
  have l1:e.length<=(arrOf st).size:=by
   have a1:=few e g.runs;have a2:=congrArg List.length g.arr;rw[Zz,Zb,g.size]at a2
   lia
  refine ar (bN (bC (Q:=λx f=>x=(none,())/\∃e,RI N st f e []/\e.length<=1) (λj x f=>x=(none,())/\∃e,RI N st f e []/\e.length<=max 1 ((arrOf st).size-j)) (Xj _) %[rfl,e,g|⋯] ?_ ?_) ?_)
  .intro j x o _ hj %[rfl,e,g|J];refine ar (fV ?_);by_cases hz:(pendingOf o).size<=1
   .rw[if_pos hz];exact av %[rfl,e,g|g.psize▸hz]
   rw[if_neg hz];have ae:1<e.length:=by rw[<-g.psize];lia
   generalize G:(if Option.any _ _=true then(pendingOf o).size-2-1 else(pendingOf o).size-2)=i
   have hi:i+1<e.length:=by
    have H:∀(c:Prop) [Decidable c] (n:Nat),2<=n->(if c then n-2-1 else n-2) +1<n:=λc _ n hn=>by lia
    rw[<-G,<-g.psize];exact H _ _ ⋯
   clear G;obtain⟨a,X,p,Y,q,b,rfl,ac⟩:∃a X p Y q b,e=a++(X,p)::(Y,q)::b/\i=a.length:=by
    refine%[e.take i,e[i].1,e[i].2,e[i+1].1,e[i+1].2,e.drop (i+2),?_|by rw[Yp];lia];have t1:=(Xg i e).symm;rw[List.drop_eq_getElem_cons ⋯,List.drop_eq_getElem_cons ⋯]at t1;exact t1
   refine ar (kz c d g ac λZ T s zl=>?_);rw[if_neg ∅];refine av %[rfl,_,s|?_];simp only[Z9,Zr]at J hi ⊢
   lia
  .intro x o %[rfl,e,g|J];exact%[rfl,e,g|⋯]
  .intro x o %[rfl,e,g|J];refine av (h o g.perm ?_ g.fail);rw[g.arr,Zz]
   match e,J,g.runs with
   |[],_,_=>exact List.Pairwise.nil
   |[r],_,I=>
    rw[aV];simp only[bu,map_nil,List.flatten_nil,Zz];exact(I r ∅).2
end
end SBig
namespace STab
open PySem PySem.SetTable
def tW:∀k,∃q,5^(2^k)=1+2^(k+2)*(2*q+1)
 | 0=>%[0|rfl]
 | k+1=>by
   have%[q|e]:=tW k;refine%[q+2^k*(2*q+1)*(2*q+1)|?_];rw[pow_succ 2 k,Nat.pow_mul,e]
   grind
abbrev step(M i:Nat):Nat:=(i*5+1)%M
abbrev iter(M:Nat):Nat->Nat->Nat
 | 0,i=>i
 | n+1,i=>step M (iter M n i)
abbrev geo:Nat->Nat
 | 0=>0
 | n+1=>geo n*5+1
def r8:∀n,4*geo n+1=5^n
 | 0=>rfl
 | n+1=>by
   have:=r8 n;rw[pow_succ,<-this,geo]
   lia
def kB(M:Nat)(i:Nat):∀n,iter M n i%M=(5^n*i+geo n)%M
 | 0=>by simp[iter,geo]
 | n+1=>by
   rw[iter,step,Nat.mod_mod,geo,pow_succ];rw[add_mod,Nat.mul_mod,(kB M i n),<-Nat.mul_mod,<-add_mod]
   congr 1
   grind
def nR:∀(k i e:Nat),e<2^k->∃n,n<2^k/\iter (2^k) n i%2^k=e
 | 0,i,e,c=>%[0,by simp|by simp at c;subst c;simp[Nat.mod_one]]
 | k+1,i,e,c=>by
   have%[n,M|t]:=nR k i (e%2^k) (mod_lt _ (Nat.two_pow_pos k));have d:∀n,iter (2^(k+1)) n i%2^(k+1)%2^k=iter (2^k) n i%2^k:=λn=>by
    rw[Nat.mod_mod_of_dvd _ (Nat.pow_dvd_pow 2 (Yj k)),<-Nat.mod_mod_of_dvd _ (Nat.pow_dvd_pow 2 (Yj k)),kB,Nat.mod_mod_of_dvd _ (Nat.pow_dvd_pow 2 (Yj k)),kB]
   have%[q|b]:=tW k;have w:geo (2^k)=2^k*(2*q+1):=by
    have g:=r8 (2^k);rw[b,Nat.pow_add]at g;have:2^k*2^2*(2*q+1)=4*(2^k*(2*q+1)):=by
     rw[Nat.mul_right_comm];lia
    lia
   have f:∀n,iter (2^(k+1)) (n+2^k) i%2^(k+1)=(iter (2^(k+1)) n i+2^k)%2^(k+1):=λn=>by
    rw[kB];have y:5^(n+2^k)*i+geo (n+2^k)=5^(2^k)*(5^n*i+geo n) +geo (2^k):=by
     have g1:=r8 (n+2^k);have g2:=r8 n
     grind
    rw[y,b,w];have z:2^(k+1)=2*2^k:=by rw[pow_succ];lia
    have j:2^(k+2)=2*2^(k+1):=by rw[pow_succ];lia
    have p:=kB (2^(k+1)) i n
    generalize 5^n*i+geo n=v at p ⊢
    have A:(1+2^(k+2)*(2*q+1))*v+2^k*(2*q+1)=v+2^k+2^(k+1)*(2*((2*q+1)*v) +q):=by
     rw[Nat.add_mul,Nat.one_mul,j];have B:2*2^(k+1)*(2*q+1)*v=2^(k+1)*(2*((2*q+1)*v)):=by
      simp only[Nat.mul_assoc,Nat.mul_left_comm]
     have C:2^k*(2*q+1)=2^k+2^(k+1)*q:=by
      rw[z,Nat.mul_add,Nat.mul_one]
      lia
     rw[B,C,Nat.mul_add]
     lia
    rw[A,Nat.add_mul_mod_self_left,add_mod,<-p,<-add_mod]
   have l:=d n;rw[t]at l;have E:iter (2^(k+1)) n i%2^(k+1)<2^(k+1):=mod_lt _ (Nat.two_pow_pos _);have m:=f n;rw[add_mod,Nat.mod_eq_of_lt (by lia:2^k<2^(k+1))]at m;obtain⟨a,r⟩:∃a,a=iter (2^(k+1)) n i%2^(k+1):=%[_|rfl]
   rw[<-r]at l E m;have o:a=e\/(a+2^k)%2^(k+1)=e:=by
    have s:=Nat.div_add_mod a (2^k);have G:=Nat.div_add_mod e (2^k);have H:a/2^k<2:=Nat.div_lt_of_lt_mul ⋯;have I:e/2^k<2:=Nat.div_lt_of_lt_mul ⋯;rw[l]at s
    generalize a/2^k=u at s H
    generalize e/2^k=v at G I
    have J:u=0\/u=1:=by lia
    have L:v=0\/v=1:=by lia
    rcases J with rfl|rfl<;> rcases L with rfl|rfl
    .left;lia
    .right
     rw[Nat.mod_eq_of_lt ⋯]
     lia
    .right
     rw[show a+2^k=e+2^(k+1) by lia,Nat.add_mod_right,Nat.mod_eq_of_lt c]
    .left;lia
   rcases o with h|h
   .exact%[n,⋯|by rw[<-r,h]]
   .exact%[n+2^k,⋯|by rw[m,h]]
end STab
namespace STab
open PySem PySem.SetTable
abbrev stand(t:SetTable)(h:Int):Nat->Probe
 | 0=>t.probeStart h
 | n+1=>t.advance (stand t h n)
abbrev way(t:SetTable)(h:Int)(n:Nat):Nat:=(stand t h n).j
abbrev aJ(t:SetTable)(h:Int):Nat->Nat×Nat
 | 0=>(bits h%(t.mask+1),bits h)
 | r+1=>leap t.mask (aJ t h r).1 (aJ t h r).2
def mv(t:SetTable)(h:Int):∀n,(stand t h n).dummy=none
 | 0=>rfl
 | n+1=>by
   have:=mv t h n;show(t.advance _).dummy=none;unfold advance
   split
   .exact this
   .exact this
def C7(m i:Nat):runEnd m i-i<=9:=by
 unfold runEnd
 split<;> lia
def yH(t:SetTable)(h:Int):∀r,∃n,n<=10*r/\∀d,d<=runEnd t.mask (aJ t h r).1-(aJ t h r).1->
 stand t h (n+d)=%[(aJ t h r).1+d,runEnd t.mask (aJ t h r).1-(aJ t h r).1-d,(aJ t h r).1,(aJ t h r).2|none]:=by
 have a:∀n i b,stand t h n=%[i,runEnd t.mask i-i,i,b|none]->∀d,d<=runEnd t.mask i-i->stand t h (n+d)=%[i+d,runEnd t.mask i-i-d,i,b|none]:=by
  intro n i b e d
  induction d with
  | zero=>intro _;rw[add_zero,e];rfl
  | succ d c=>
    intro f;show t.advance (stand t h (n+d))=_;rw[c ⋯];unfold advance;rw[if_pos ⋯]
    grind
 intro r
 induction r with
 | zero=>exact%[0,Xj _|a 0 _ _ rfl]
 | succ r c=>
   have%[n,g|e]:=c;have j:=C7 t.mask (aJ t h r).1;refine%[n+(runEnd t.mask (aJ t h r).1-(aJ t h r).1) +1,⋯|a _ _ _ ?_];show t.advance _=_;rw[e _ (Zi _)];unfold advance;rw[if_neg ⋯];rfl
def C8(h:Int):bits h<2^64:=by
 unfold bits
 grind
def nS(t:SetTable)(h:Int):∀r,(aJ t h r).2=bits h/32^r
 | 0=>by simp[aJ]
 | r+1=>by
   show(aJ t h r).2/32=_;rw[nS t h r,Nat.div_div_eq_div_mul,pow_succ]
def AZ(t:SetTable)(h:Int):∀r,(aJ t h r).1<t.mask+1
 | 0=>mod_lt _ (succ_pos _)
 | r+1=>mod_lt _ (succ_pos _)
def jU(t:SetTable)(h:Int):∀m,(aJ t h (12+m)).1=iter (t.mask+1) m (aJ t h 12).1
 | 0=>rfl
 | m+1=>by
   show((aJ t h (12+m)).1*5+1+(aJ t h (12+m)).2/32)%(t.mask+1)=step _ _;rw[jU t h m,nS,Nat.div_div_eq_div_mul,<-pow_succ];have a:bits h/32^(12+m+1)=0:=by
    exact Nat.div_eq_of_lt (Zg (C8 h) (Yk (by decide:2^64<=32^13) (Nat.pow_le_pow_right (by decide) ⋯)))
   rw[a,add_zero];rfl
def nT(a:t.mask+1=2^k)(h:Int)(e:Nat)(c:e<=t.mask):∃r,r<turns t.mask/\(aJ t h r).1=e:=by
 have%[n,d|b]:=nR k _ e ⋯;refine%[12+n,by unfold turns;lia|?_];rw[jU,a];rw[<-a]at b;have:iter (t.mask+1) n (aJ t h 12).1<t.mask+1:=by rw[<-jU];exact AZ t h _
 rw[Nat.mod_eq_of_lt this]at b;exact a▸b
def v4(a:t.mask+1=2^k)(h:Int)(e:Nat)(b:e<=t.mask):∃n,n+10<=10*turns t.mask/\way t h n=e:=by
 have%[r,f|c]:=nT a h e b;have%[n,g|d]:=yH t h r;refine%[n,⋯|?_];have:=d 0 (Xj _);unfold way;rw[add_zero]at this;rw[this];exact c
def tX(o:t.dummies= #[]){hashAt:Nat->Int}:∀(fuel n m:Nat),n<=m->m<n+fuel->t.slot (way t h m)= .empty->
 ∃q,n<=q/\q<=m/\(∀j,n<=j->j<q->∃i,t.slot (way t h j)= .live i/\hashAt i≠h)/\
  ((t.slot (way t h q)= .empty/\probe.go t hashAt h fuel (stand t h n)=some (.empty (way t h q) none))\/
   ∃i,t.slot (way t h q)= .live i/\hashAt i=h/\probe.go t hashAt h fuel (stand t h n)=some (.candidate (way t h q) i (stand t h (q+1))))
 | 0,n,m,g,r,_=>by lia
 | fuel+1,n,m,g,r,p=>by
   have d:probe.go t hashAt h (fuel+1) (stand t h n)=(match t.slot (stand t h n).j with
    | .empty=>some _
    | .dummy=>probe.go t hashAt h fuel (t.advance {stand t h n with dummy:=some _})
    | .live i=>if hashAt i==h then some _ else probe.go t hashAt h fuel _):=rfl
   have l:(stand t h n).j=way t h n:=rfl;cases c:t.slot _ with
   | empty=>
     refine%[n,Zi _,g,λj a b=>by lia|.inl %[c|?_]];rw[d,l,c,mv]
   | dummy=>
     exfalso;unfold slot at c;dsimp only at c
     split at c
     .lia
     .split at c
      .rename_i q
       rw[o]at q;simp[has]at q
      .lia
   | live i=>
     by_cases f:hashAt i=h
     .refine%[n,Zi _,g,λj a b=>by lia|.inr %[i,c,f|?_]];rw[d,l,c];dsimp only;rw[if_pos (by simp[f])];rfl
     .have s:n≠m:=λq=>by rw[q,p]at c;cases c
      have%[q,z,u,v|w]:=tX o fuel (n+1) m ⋯ ⋯ p;have y:probe.go t hashAt h (fuel+1) (stand t h n)=probe.go t hashAt h fuel (stand t h (n+1)):=by
       rw[d,l,c];dsimp only;rw[if_neg (by simp[f])];rfl
      refine%[q,⋯,u,λj a b=>?_|?_]
      .by_cases e:j=n
       .exact e▸%[i,c|f]
       .exact v j ⋯ b
      .exact y▸w
end STab
namespace STab
open PySem PySem.SetTable
def nU(xs:Array Nat)(j:Nat)(d:∀a b (s:a<xs.size) (t:b<xs.size),a<b->xs[a]<xs[b]):∀(fuel lo hi:Nat),hi-lo<=fuel->lo<=hi->hi<=xs.size->(∀i (h:i<xs.size),i<lo->xs[i]<j)->(∀i (h:i<xs.size),hi<=i->j<=xs[i])->
 below.go xs j fuel lo hi<=xs.size/\(∀i (h:i<xs.size),i<below.go xs j fuel lo hi->xs[i]<j)/\(∀i (h:i<xs.size),below.go xs j fuel lo hi<=i->j<=xs[i])
 | 0,lo,hi,p,q,f,g,l=>by
   have e:lo=hi:=by lia
   subst e;exact%[f,g|l]
 | fuel+1,lo,hi,p,q,f,g,l=>by
   rw[below.go];by_cases c:lo<hi
   .rw[if_pos c];dsimp only;have n:(lo+hi)/2<xs.size:=by lia
    have r:xs.getD ((lo+hi)/2) j=xs[(lo+hi)/2]:=by simp[Array.getD,n]
    rw[r];by_cases m:xs[(lo+hi)/2]<j
    .rw[if_pos m];refine nU xs j d fuel _ hi ⋯ ⋯ f (λi h o=>?_) l;by_cases e:i=(lo+hi)/2
     .subst e;exact m
     .exact Nat.lt_trans (d i _ h n ⋯) m
    .rw[if_neg m];refine nU xs j d fuel lo _ ⋯ ⋯ ⋯ g (λi h o=>?_);by_cases e:i=(lo+hi)/2
     .subst e;lia
     .have:=d _ i n h ⋯
      lia
   .rw[if_neg c];have e:lo=hi:=by lia
    subst e;exact%[f,g|l]
abbrev A1(xs:Array Nat):Prop:=∀a b c (d:b<xs.size),a<b->xs[a]<xs[b]
def jV(a:A1 xs)(j:Nat):below xs j<=xs.size/\(∀i (h:i<xs.size),i<below xs j->xs[i]<j)/\(∀i (h:i<xs.size),below xs j<=i->j<=xs[i]):=
 nU xs j a xs.size 0 xs.size ⋯ (Xj _) (Zi _) (λi h q=>absurd q (Xa _)) (λi h q=>by lia)
def A2(a:A1 xs)(h:xs[i]? =some j):below xs j=i:=by
 have%[f,c|d]:=jV a j;have%[hi|e]:=Array.getElem?_eq_some_iff.mp h;rcases Nat.lt_trichotomy i _ with q|q|q
 .have:=c i hi q
  lia
 .exact q.symm
 .have b:below xs j<xs.size:=by lia
  have:=d _ b (Zi _);have:=a _ i b hi q
  lia
def qB{t:SetTable}(a:A1 t.place)(h:t.place[i]? =some j):t.slot j= .live i:=by
 unfold slot;dsimp only;rw[A2 a h,h];simp
def jW{t:SetTable}(a:A1 t.place)(b:t.dummies= #[])(j:Nat):(∃i,t.place[i]? =some j/\t.slot j= .live i)\/(j∉t.place.toList/\t.slot j= .empty):=by
 by_cases h:j∈t.place.toList
 .have%[i|hi]:=Xk h;have hi:=by simpa using hi
  exact .inl %[i,hi|qB a hi]
 .refine .inr %[h|?_];unfold slot;rw[if_neg,if_neg]
  .rw[b];simp[has]
  .intro q;exact h (mem_toList_iff.mpr (Array.mem_of_getElem? (by simpa using q)))
def tY(h:t.mask=t'.mask)(x:Int):∀n,stand t x n=stand t' x n
 | 0=>by
   show t.probeStart x=t'.probeStart x;unfold probeStart;rw[h]
 | n+1=>by
   show t.advance _=t'.advance _;rw[tY h x n];unfold advance;rw[h]
def qC(h:t.mask=t'.mask)(x:Int)(n:Nat):way t x n=way t' x n:=by unfold way;rw[tY h]
structure WF (t:SetTable) (es:Array (Int×Value)):Prop where
 pow:∃k,t.mask+1=2^k
 big:7<=t.mask
 dum:t.dummies= #[]
 rise:A1 t.place
 inb:∀j∈t.place.toList,j<=t.mask
 size:t.place.size=es.size
 chain:∀(i j:Nat) h x,t.place[i]? =some j->es[i]? =some (h,x)->∃n,way t h n=j/\∀m,m<n->way t h m∈t.place.toList
def nodup_sub [DecidableEq c]:∀{l m:List c},l.Nodup->(∀x∈l,x∈m)->l.length<=m.length
 |[],_,_,_=>Xj _
 | x::l,m,d,a=>by
   have%[f|g]:=nodup_cons.mp d;have b:=a x Zm;have h:=nodup_sub (m:=m.erase x) g λy i=>(List.mem_erase_of_ne (λe=>f (by simp_all))).mpr (a y (Zk _ i))
   rw[List.length_erase_of_mem b]at h;have:=List.length_pos_of_mem b;rw[Zr]
   lia
def v5(W:WF t v)(R:t.place.size<=t.mask)(h:Int):∃m,m+10<=10*turns t.mask/\way t h m∉t.place.toList/\(∀q,q<m->way t h q∈t.place.toList):=by
 have%[k|l]:=W.pow;have ex:∃e,e<=t.mask/\e∉t.place.toList:=by
  refine Classical.byContradiction λb=>?_
  have:(List.range (t.mask+1)).length<=t.place.toList.length:=nodup_sub nodup_range λx o=>(λe c=>Classical.byContradiction λq=>b %[e,c|q]) x (by have:=mem_range.mp o;lia)
  rw[Yn,Zb]at this
  lia
 have%[e,c|f]:=ex;have%[n,p|hw]:=v4 l h e c;have:∀d,∀n,n<=d->n+10<=10*turns t.mask->way t h n∉t.place.toList->∃m,m+10<=10*turns t.mask/\way t h m∉t.place.toList/\(∀q,q<m->way t h q∈t.place.toList):=by
  intro d
  induction d with
  | zero=>
    intro n r g i;have:n=0:=by lia
    subst this;exact%[0,g,i|λq j=>absurd j (Xa _)]
  | succ d s=>
    intro n r g i;by_cases a:∀q,q<n->way t h q∈t.place.toList
    .exact%[n,g,i|a]
    .have%[q|j]:=Classical.not_forall.mp a;have%[w|u]:=Classical.not_imp.mp j;exact s q ⋯ ⋯ u
 exact this n n (Zi _) p (hw▸f)
end STab
namespace STab
open PySem PySem.SetTable
def kC(xs:Array a)(p:Nat)(x:a)(b:p<=xs.size):(insertAt xs p x).toList=xs.toList.take p++x::xs.toList.drop p:=by
 unfold insertAt;rw[Xi,toList_push,toList_extract,toList_extract,List.extract_eq_take_drop,List.extract_eq_take_drop];rw[drop_zero,Nat.sub_zero,Zn (l:=xs.toList.drop p) ∅];simp
def v6(xs:Array c)(x:c)(f:p<=xs.size)(i:Nat):(insertAt xs p x)[i]? =if i<p then xs[i]? else if i=p then some x else xs[i-1]? :=by
 have e:(insertAt xs p x)[i]? =(insertAt xs p x).toList[i]? :=by simp
 rw[e,kC xs p x f];have g:(xs.toList.take p).length=p:=by simp_all
 by_cases a:i<p
 .rw[if_pos a,Ya ⋯,Yd,if_pos a];simp
 .rw[if_neg a,Yb ⋯,g];by_cases b:i=p
  .rw[if_pos b,b,Xe];rfl
  .rw[if_neg b];obtain⟨d,h⟩:∃d,i-p=d+1:=%[i-p-1|⋯]
   rw[h,List.getElem?_cons_succ,Yc];rw[show p+d=i-1 by lia];simp
def iU(xs:Array a)(p:Nat)(x:a)(b:p<=xs.size):(insertAt xs p x).size=xs.size+1:=by
 rw[<-Zb,kC xs p x b,Z9,Zr,Yp,Yl,Zb]
 lia
def A3(t:SetTable)(h:Int):∀n,(stand t h n).j+(stand t h n).more<=t.mask
 | 0=>by
   show bits h%(t.mask+1) +(runEnd t.mask _-bits h%(t.mask+1))<=t.mask;have:=mod_lt (bits h) (show 0<t.mask+1 from succ_pos _);unfold runEnd
   split<;> lia
 | n+1=>by
   have a:=A3 t h n;show(t.advance _).j+(t.advance _).more<=t.mask;unfold advance
   split
   .lia
   .dsimp only[leap];have:=mod_lt ((stand t h n).i*5+1+(stand t h n).perturb/32) (show 0<t.mask+1 from succ_pos _);unfold runEnd
    split<;> lia
def r9(t:SetTable)(h:Int)(n:Nat):way t h n<=t.mask:=by
 have:=A3 t h n;unfold way
 lia
def WF.put(W:WF t I)(T:way t h m∉t.place.toList)(U:∀q,q<m->way t h q∈t.place.toList)(r f:Bool):
 (t.put (way t h m)).2=below t.place (way t h m)/\(t.put (way t h m)).1.mask=t.mask/\(t.put (way t h m)).1.place.size=t.place.size+1/\(t.put (way t h m)).1.led=t.led/\(t.put (way t h m)).1.plain=t.plain/\(t.put (way t h m)).1.moves=t.moves/\
  WF {(t.put (way t h m)).1 with led:=r,plain:=f} (insertAt I (t.put (way t h m)).2 (h,x)):=by
 have Y:has t.dummies (way t h m)=false:=by rw[W.dum];simp[has]
 have ep:t.put (way t h m)=({t with place:=insertAt t.place (below t.place (way t h m)) (way t h m)},below t.place (way t h m)):=by
  unfold SetTable.put;dsimp only;rw[Y];rfl
 rw[ep];have%[g,J|L]:=jV W.rise (way t h m)
 generalize hp:below t.place (way t h m)=p at g J L
 have w:p<=I.size:=by rw[<-W.size];exact g
 have s3:∀i (hi:i<t.place.size),p<=i->way t h m<t.place[i]:=λi hi q=>by
  have:=L i hi q;rcases Nat.eq_or_lt_of_le this with e|e
  .exact absurd (by rw[e];simp) T
  .exact e
 have c:∀y,y∈(insertAt t.place p (way t h m)).toList↔y=way t h m\/y∈t.place.toList:=λy=>by
  rw[kC _ _ _ g,Yw,Yz];have:=Xg p t.place.toList
  constructor
  .rintro(q|q|q)
   .exact .inr (X2 q)
   .exact .inl q
   .exact .inr (X1 q)
  .rintro(q|q)
   .exact .inr (.inl q)
   .rw[<-this]at q;rcases Xs q with q|q
    .exact .inl q
    .exact .inr (.inr q)
 refine%[rfl,rfl,iU _ _ _ g,rfl,rfl,rfl,W.pow,W.big,W.dum,?_,?_,?_|?_]
 .intro a b ha A B;have l:(insertAt t.place p (way t h m))[a]? =some (insertAt t.place p (way t h m))[a]:=by simp
  have d:(insertAt t.place p (way t h m))[b]? =some (insertAt t.place p (way t h m))[b]:=by simp
  show(insertAt t.place p (way t h m))[a]<(insertAt t.place p (way t h m))[b];rw[v6 _ _ g]at l d;have ab:b<t.place.size+1:=(iU t.place p (way t h m) g)▸A;by_cases C:a<p
  .rw[if_pos C]at l;have%[u|E]:=Array.getElem?_eq_some_iff.mp l;rw[<-E];by_cases r:b<p
   .rw[if_pos r]at d;have%[f|v]:=Array.getElem?_eq_some_iff.mp d;exact v▸W.rise a b u f B
   .rw[if_neg r]at d;by_cases f:b=p
    .rw[if_pos f]at d;exact(Za d)▸J a u C
    .rw[if_neg f]at d;have%[v|G]:=Array.getElem?_eq_some_iff.mp d;exact G▸W.rise a (b-1) u v ⋯
  .rw[if_neg C]at l;have r: ¬ b<p:=by lia
   have f: ¬ b=p:=by lia
   rw[if_neg r,if_neg f]at d;have%[v|G]:=Array.getElem?_eq_some_iff.mp d;rw[<-G];by_cases u:a=p
   .rw[if_pos u]at l;exact(Za l)▸s3 (b-1) v ⋯
   .rw[if_neg u]at l;have%[E|a4]:=Array.getElem?_eq_some_iff.mp l;exact a4▸W.rise (a-1) (b-1) E v ⋯
 .intro y hy;rcases(c y).mp hy with q|q
  .rw[q];exact r9 t h m
  .exact W.inb y q
 .rw[iU _ _ _ g,iU _ _ _ w,W.size]
 .intro i j h' M hi o;have N:∀n,way {t with place:=insertAt t.place p (way t h m),led:=r,plain:=f} h' n=way t h' n:=λn=>qC (t':=t) (by rfl) h' n
  have H:∃n,way t h' n=j/\∀q,q<n->way t h' q∈(insertAt t.place p (way t h m)).toList:=by
   rw[v6 _ _ g]at hi;rw[v6 _ _ w]at o;by_cases O:i<p
   .rw[if_pos O]at hi o;have%[n,n1|z]:=W.chain i j h' M hi o;exact%[n,n1|λq s=>(c _).mpr (.inr (z q s))]
   .rw[if_neg O]at hi o;by_cases Q:i=p
    .rw[if_pos Q]at hi o;cases hi;cases o;exact%[m,rfl|λq s=>(c _).mpr (.inr (U q s))]
    .rw[if_neg Q]at hi o;have%[n,n1|z]:=W.chain (i-1) j h' M hi o;exact%[n,n1|λq s=>(c _).mpr (.inr (z q s))]
  have%[n,n1|z]:=H;exact%[n,by rw[N];exact n1|λq s=>by rw[N];exact z q s]
end STab
namespace STab
open PySem PySem.SetTable
abbrev nb(t:SetTable)(h:Int):Nat->Nat
 | 0=>0
 | r+1=>nb t h r+(runEnd t.mask (aJ t h r).1-(aJ t h r).1) +1
def A4(t:SetTable)(h:Int):∀r d,d<=runEnd t.mask (aJ t h r).1-(aJ t h r).1->
 stand t h (nb t h r+d)=%[(aJ t h r).1+d,runEnd t.mask (aJ t h r).1-(aJ t h r).1-d,(aJ t h r).1,(aJ t h r).2|none]:=by
 have a:∀n i b,stand t h n=%[i,runEnd t.mask i-i,i,b|none]->∀d,d<=runEnd t.mask i-i->stand t h (n+d)=%[i+d,runEnd t.mask i-i-d,i,b|none]:=by
  intro n i b e d
  induction d with
  | zero=>intro _;rw[add_zero,e];rfl
  | succ d c=>
    intro f;show t.advance (stand t h (n+d))=_;rw[c ⋯];unfold advance;rw[if_pos ⋯]
    grind
 intro r
 induction r with
 | zero=>exact a 0 _ _ rfl
 | succ r c=>
   refine a _ _ _ ?_;show t.advance _=_;rw[c _ (Zi _)];unfold advance;rw[if_neg ⋯];rfl
def v7(t:SetTable)(h:Int)(r d:Nat)(a:d<=runEnd t.mask (aJ t h r).1-(aJ t h r).1):way t h (nb t h r+d)=(aJ t h r).1+d:=by
 unfold way;rw[A4 t h r d a]
abbrev e7(owner:Array (Option Nat))(j:Nat):Bool:=(owner.getD j (some 0)).isSome
def qD(t:SetTable)(h:Int)(owner:Array (Option Nat)):∀(fuel r:Nat),(∃a,r<=a/\a<r+fuel/\e7 owner (aJ t h a).1=false)->(∀m,m<nb t h r->e7 owner (way t h m)=true)->
 ∃j n,layClean.free t.mask owner fuel (aJ t h r).1 (aJ t h r).2=some j/\way t h n=j/\e7 owner j=false/\∀m,m<n->e7 owner (way t h m)=true
 | 0,r,⟨a,o,p,_⟩,_=>by lia
 | fuel+1,r,⟨a,o,p,f⟩,g=>by
   rw[layClean.free];have s:runEnd t.mask (aJ t h r).1>=(aJ t h r).1:=by unfold runEnd;split<;> lia
   have tk:∀k,(owner.getD ((aJ t h r).1+k) (some 0)).isNone=!e7 owner ((aJ t h r).1+k):=λk=>by
    unfold e7;cases owner.getD ((aJ t h r).1+k) (some 0)<;> rfl
   cases i:(List.range (runEnd t.mask (aJ t h r).1+1-(aJ t h r).1)).find? λk=>(owner.getD ((aJ t h r).1+k) (some 0)).isNone with
   | some k=>
     have%[l,as,bs,b|u]:=List.find?_eq_some_iff_append.mp i;have c:k∈List.range (runEnd t.mask (aJ t h r).1+1-(aJ t h r).1):=by rw[b];simp
     have c:=mem_range.mp c;have v:as=List.range k:=by
      have w:as.length=k:=by
       have:(List.range (runEnd t.mask (aJ t h r).1+1-(aJ t h r).1))[as.length]? =some k:=by rw[b];simp
       rw[List.getElem?_range (by have:=(Xr this).1;simpa using this)]at this;exact Za this
      have y:as=(List.range (runEnd t.mask (aJ t h r).1+1-(aJ t h r).1)).take k:=by
       rw[b,<-w];simp
      rw[y,List.take_range,X4 ⋯]
     dsimp only;refine%[_,nb t h r+k,rfl,v7 t h r k ⋯,?_|λm d=>?_]
     .rw[tk]at l;simpa using l
     .by_cases q:m<nb t h r
      .exact g m q
      .have:=u (m-nb t h r) (v▸mem_range.mpr ⋯);rw[tk]at this;rw[show m=nb t h r+(m-nb t h r) by lia,v7 t h r _ ⋯];simpa using this
   | none=>
     have all:∀k,k<=runEnd t.mask (aJ t h r).1-(aJ t h r).1->e7 owner ((aJ t h r).1+k)=true:=λk c=>by
      have:=(List.find?_eq_none.mp i) k (mem_range.mpr ⋯);rw[tk]at this;simpa using this
     have z:r≠a:=λe=>by
      have:=all 0 (Xj _);rw[add_zero,e,f]at this;cases this
     dsimp only;exact qD t h owner fuel (r+1) %[a,⋯,⋯|f] λm d=>by
      by_cases q:m<nb t h r
      .exact g m q
      .have d:m<nb t h r+(runEnd t.mask (aJ t h r).1-(aJ t h r).1) +1:=d;rw[show m=nb t h r+(m-nb t h r) by lia,v7 t h r _ ⋯];exact all _ ⋯
structure LO (t:SetTable) (hs:ZL) (owner:Array _):Prop where
 size:owner.size=t.mask+1
 own:∀j q,owner[j]? =some (some q)->∃h,hs[q]? =some h/\∃n,way t h n=j/\∀m,m<n->e7 owner (way t h m)=true
 all:∀q,q<hs.length->∃j:Nat,owner[j]? =some (some q)
 one:∀(j j' q:Nat),owner[j]? =some (some q)->owner[j']? =some (some q)->j=j'
def gF(b:j<owner.size):e7 owner j=true↔∃q,owner[j]? =some (some q):=by
 unfold e7;have e:owner.getD j (some 0)=owner[j]:=by simp_all
 rw[e];have a:owner[j]? =some owner[j]:=by simp
 rw[a];cases owner[j]with
 | none=>simp
 | some q=>simp
def LO.step(L:LO t f owner)(J:t.mask+1=2^k)(room:f.length<=t.mask)(h:Int):
 ∃j,layClean.free t.mask owner (turns t.mask) (bits h%(t.mask+1)) (bits h)=some j/\LO t (f++[h]) (owner.setIfInBounds j (some f.length)):=by
 have d:∀h n,way t h n<owner.size:=λh n=>by rw[L.size];have:=r9 t h n;lia
 have ex:∃e,e<=t.mask/\e7 owner e=false:=by
  refine Classical.byContradiction λv=>?_
  have all:∀e,e<t.mask+1->e7 owner e=true:=λe c=>by
   cases q:e7 owner e with
   | true=>rfl
   | false=>exact absurd %[e,⋯|q] v
  let g:Nat->Nat:=λe=>((owner[e]?).getD none).getD 0
  have w:∀e,e<t.mask+1->owner[e]? =some (some (g e)):=λe c=>by
   have%[q|o]:=(λe c=>(gF (L.size▸c)).mp (all e c)) e c;show owner[e]? =some (some (((owner[e]?).getD none).getD 0));rw[o];rfl
  have nd:((List.range (t.mask+1)).map g).Nodup:=by
   rw[X8,Xd];refine Xl (λ{a b} M N A q=>A ?_) (nodup_iff_pairwise_ne.mp nodup_range);have E:=w b (mem_range.mp N);rw[<-q]at E;exact L.one a b _ (w a (mem_range.mp M)) E
  have:=nodup_sub nd λy O=>by
   have%[e,c|rfl]:=Xu O;have%[h',l|_]:=L.own e _ (w e (mem_range.mp c));exact mem_range.mpr (Xr l).1
  rw[Z6,Yn,Yn]at this
  lia
 have%[e,c|B]:=ex;have%[r,hr|o]:=nT J h e c;have%[j,n,Q,G,T|U]:=qD t h owner (turns t.mask) 0 %[r,Xj _,⋯|o▸B] (λm p=>absurd p (Xa _));refine%[j,Q|?_];have Y:j<owner.size:=G▸d h n;have nj:∀q,owner[j]? ≠some _:=λq e=>by
  have:=(gF Y).mpr %[q|e];rw[T]at this;cases this
 have get:∀i,(owner.setIfInBounds j (some f.length))[i]? =if j=i then some _ else owner[i]? :=λi=>by
  rw[Array.getElem?_setIfInBounds]
  split
  .first|rfl|simp
  .rfl
 have keep:∀i,e7 owner i=true->i<owner.size->e7 (owner.setIfInBounds j _) i=true:=λi hi H=>by
  have%[q|e]:=(gF H).mp hi;refine(gF (Array.size_setIfInBounds▸H)).mpr ?_;rw[get]
  split
  .exact%[_|rfl]
  .exact%[q|e]
 refine%[by rw[Array.size_setIfInBounds];exact L.size,λi q e=>?_,λq o=>?_|λi I q e s=>?_]
 .rw[get]at e
  split at e
  .rename_i C
   cases e;refine%[h,by simp,n,by rw[G,C]|λm p=>keep _ (U m p) (d h m)]
  .have%[h',l,n',e2|e3]:=L.own i q e;exact%[h',(Ya (Xr l).1)▸l,n',e2|λm p=>keep _ (e3 m p) (d h' m)]
 .rw[Z9,Yo]at o;by_cases e:q=f.length
  .exact%[j|by rw[get,if_pos rfl,e]]
  .have%[i|hi]:=L.all q ⋯;refine%[i|?_];rw[get,if_neg]
   .exact hi
   .intro C;rw[<-C]at hi;exact nj q hi
 .have u:∀i,owner[i]? =some (some f.length)->False:=λi e=>by
   have%[h',l|_]:=L.own i _ e;have:=(Xr l).1
   lia
  rw[get]at e s
  split at e<;> split at s
  .lia
  .cases e;exact absurd s (λz=>u I z)
  .cases s;exact absurd e (λz=>u i z)
  .exact L.one i I q e s
def tZ(c:t.mask+1=2^k)(a:Array Int)(room:a.size<=t.mask+1):∃owner,layClean t.mask a=some owner/\LO t a.toList owner:=by
 have d:∀rest done owner,LO t done owner->(done++rest).length<=t.mask+1->
  ∃b,rest.foldl (λacc h=>do
   let(owner,k)<-acc
   let j<-layClean.free t.mask owner (turns t.mask) (bits h%(t.mask+1)) (bits h)
   pure (owner.setIfInBounds j (some k),k+1)) (some (owner,done.length))=some (b,(done++rest).length)/\LO t (done++rest) b:=by
  intro rest
  induction rest with
  | nil=>intro done owner L _;exact%[owner,by simp|by simpa using L]
  | cons h rest g=>
    intro done owner L i;simp only[Z9,Zr]at i;have%[j,f|l]:=L.step c ⋯ h;have%[b,e|L2]:=g _ _ l (by simp_all);refine%[b,?_|by simpa using L2];rw[Y9];have m:(do
     let(owner,k)<-(some (owner,done.length))
     let j<-layClean.free t.mask owner (turns t.mask) (bits h%(t.mask+1)) (bits h)
     pure (owner.setIfInBounds j (some k),k+1))=some (owner.setIfInBounds j (some done.length),(done++[h]).length):=by
     show(layClean.free t.mask owner _ _ _).bind _=_;rw[f];simp
    rw[m,e];simp
 have n:LO t [] (Array.replicate (t.mask+1) none):=%[by simp,λj q e=>by
  rw[Array.getElem?_replicate]at e
  split at e<;> simp at e,λq o=>absurd o (Xa _)|λj p q e _=>by
  rw[Array.getElem?_replicate]at e
  split at e<;> simp at e]
 have%[owner,e|L]:=d a.toList [] _ n (room);refine%[owner,?_|L];unfold layClean;rw[<-Array.foldl_toList];rw[show(0)=([]).length from rfl,e];rfl
end STab
namespace STab
open PySem PySem.SetTable
def t7(n:Nat):∀fuel k,3<=k->n<2^(k+fuel)->(2^k<=2*n\/k=3)->∃a,3<=a/\sizeAbove.go n fuel (2^k)=2^a/\n<2^a/\(2^a<=2*n\/a=3)
 | 0,k,b,c,d=>%[k,b,rfl,c|d]
 | fuel+1,k,b,c,d=>by
   rw[sizeAbove.go];by_cases h:2^k<=n
   .rw[if_pos h];have e:2^k*2=2^(k+1):=by rw[pow_succ]
    rw[e];exact t7 n fuel _ ⋯ ((show k+1+fuel=k+(fuel+1) by lia)▸c) (.inl ⋯)
   .rw[if_neg h];exact%[k,b,rfl,⋯|d]
def v8(a:n<2^60):∃k,3<=k/\sizeAbove n=2^k/\n<2^k/\(2^k<=2*n\/k=3):=
 t7 n 64 3 (Zi _) (Zg a (Nat.pow_le_pow_right (by decide) ∅)) (.inr rfl)
def nV [DecidableEq c]:∀{l m:List c},l.Nodup->m.Nodup->(∀x,x∈l↔x∈m)->l.Perm m
 |[],m,_,_,h=>by
  cases m with
  | nil=>simp
  | cons x m=>exact absurd ((h x).mpr Zm) ∅
 | x::l,m,d,b,h=>by
   have%[f|g]:=nodup_cons.mp d;refine List.Perm.trans (List.Perm.cons x (nV g (b.erase x) λy=>?_)) (List.perm_cons_erase ((h x).mp Zm)).symm
   constructor
   .intro a;exact(List.mem_erase_of_ne (λe=>f (by simp_all))).mpr ((h y).mp (Zk _ a))
   .intro a;rcases mem_cons.mp ((h y).mpr (List.mem_of_mem_erase a))with q|q
    .exact absurd q (λe=>by rw[e]at a;exact b.not_mem_erase a)
    .exact q
def laid_ok{t:SetTable}(hp:t.mask+1=2^k)(E:7<=t.mask)(c:Array (Int×Value))(room:c.size<=t.mask)(finger moves:Nat)(led plain:Bool):
 ∃t' d,laid t.mask finger moves led plain (c.map (·.1))=some (t',d)/\t'.mask=t.mask/\t'.led=led/\t'.plain=plain/\t'.moves=moves/\WF t' (d.filterMap (c[·]?))/\(d.filterMap (c[·]?)).toList.Perm c.toList:=by
 have%[owner,e|L]:=tZ hp (c.map (·.1)) (by rw[size_map];lia);have G:(c.map (·.1)).toList.length=c.size:=by simp
 obtain⟨live,v⟩:∃live,(List.range (t.mask+1)).filterMap (λj=>(owner.getD j none).map (λq=>(j,q)))=live:=%[_|rfl]
 refine%[%[t.mask,(live.map (·.1)).toArray,#[],finger,led,moves|plain],(live.map (·.2)).toArray,by unfold laid;rw[e,<-v];rfl,rfl,rfl,rfl,rfl|?_];have gd:∀j q,owner.getD j none=some q↔owner[j]? =some (some q):=λj q=>by
  rw[Zs];cases owner[j]? with
  | none=>simp
  | some o=>simp
 have mem:∀j q,(j,q)∈live↔owner[j]? =some (some q):=λj q=>by
  rw[<-v,mem_filterMap]
  constructor
  .rintro⟨H,ac,I⟩;have%[z,s|J]:=map_eq_some_iff.mp I;cases J;exact(gd j q).mp s
  .intro ho;have:j<owner.size:=by
    have%[f|_]:=Array.getElem?_eq_some_iff.mp ho;exact f
   refine%[j,mem_range.mpr (by rw[L.size]at this;exact this)|?_];rw[(gd j q).mpr ho];rfl
 have r:(live.map (·.1)).Pairwise (·<·):=by
  rw[<-v,Xd,List.pairwise_filterMap];refine List.Pairwise.imp (λ{a b} u x hx y M=>?_) List.pairwise_lt_range;have%[_,_|rfl]:=map_eq_some_iff.mp hx;have%[_,_|rfl]:=map_eq_some_iff.mp M;exact u
 have w:∀j q,(j,q)∈live->q<c.size:=λj q h=>by
  have%[h',s|_]:=L.own j q ((mem j q).mp h);have:=(Xr s).1
  lia
 have B:(live.map (·.2)).Nodup:=by
  rw[X8,Xd];refine Xl (λ{a b} N E u g=>?_) (by rw[Xd]at r;exact r);have f:=(mem a.1 a.2).mp N;have O:=(mem b.1 b.2).mp E;rw[<-g]at O;have:=L.one _ _ _ f O
  lia
 have C:(live.map (·.2)).Perm (List.range c.size):=nV B nodup_range λq=>by
  constructor
  .intro g;have%[%[j|z],f|rfl]:=Xu g;exact mem_range.mpr (w j z f)
  .intro g;have%[j|Q]:=L.all q (G▸mem_range.mp g);exact Xv %[(j,q),(mem j q).mpr Q|rfl]
 have fm:∀(l:List Nat),(∀q∈l,q<c.size)->l.filterMap (c[·]?)=l.map (λq=>c.getD q (0,Value.none)):=by
  intro l
  induction l with
  | nil=>intro _;rfl
  | cons q l ih=>
    intro g;have f:=g q Zm;have s:c[q]? =some (c.getD q (0,Value.none)):=by simp[Array.getD,f]
    rw[Y1,s,Yu,ih λy M=>g y (Zk _ M)]
 have T:((live.map (·.2)).toArray.filterMap (c[·]?)).toList=(live.map (·.2)).map (λq=>c.getD q (0,Value.none)):=by
  rw[Array.toList_filterMap,List.toList_toArray];exact fm _ λq g=>by
   have%[%[j|z],f|rfl]:=Xu g;exact w j z f
 have er:c.toList=(List.range c.size).map (λq=>c.getD q (0,Value.none)):=by
  apply ext_getElem
  .simp
  .intro i f O;have f:=by simpa using f
   simp[Array.getD,f]
 refine%[%[%[k|hp],E,rfl,?_,λj Q=>?_,?_|λi j h x hi A=>?_]|?_]
 .intro a b N U u;have:=pairwise_iff_getElem.mp r a b (N) (U) u;simpa using this
 .have%[%[H|q],f|rfl]:=Xu Q;have:=(Array.getElem?_eq_some_iff.mp ((mem H q).mp f)).1;rw[L.size]at this
  lia
 .rw[<-Zb (xs:=Array.filterMap _ _),T];simp
 .have hi:(live.map (·.1))[i]? =some j:=by simpa using hi
  have A:((live.map (·.2)).toArray.filterMap (c[·]?)).toList[i]? =some (h,x):=by simpa using A
  rw[T,Yv,Zl]at A;rw[Zl]at hi;cases Y:live[i]? with
  | none=>rw[Y]at hi;cases hi
  | some p=>
    have%[H|q]:=p;rw[Y]at hi A;cases hi;have hm:=Z8 Y;have%[h',s,n,n1|n2]:=L.own _ q ((mem _ q).mp hm);have g:=w _ q hm;have eh:h'=h:=by
     have J:(c.map (·.1)).toList[q]? =some (c[q]).1:=by simp[g]
     rw[J]at s;have e3:c.getD q (0,Value.none)=c[q]:=by simp[Array.getD,g]
     simp only[Function.comp,Option.map_some,e3,Option.some.injEq]at A;rw[A]at s;exact(Za s).symm
    subst eh;have wm:∀n,way {mask:=t.mask,place:=(live.map (·.1)).toArray,dummies:= #[],finger:=finger,led:=led,moves:=moves,plain:=plain} h' n=way t h' n:=λn=>qC (t':=t) (by rfl) h' n
    refine%[n,by rw[wm];exact n1|λm ab=>?_];rw[wm];have%[z|I]:=(gF (by rw[L.size];have:=r9 t h' m;lia)).mp (n2 m ab);exact Xv %[(way t h' m,z),(mem _ _).mpr I|rfl]
 .rw[T,er];exact C.map _
end STab
namespace STab
open PySem PySem.SetTable
section
variable{prog:Program}{w:World}{K:Type}[DecidableEq K]{knd:KeyKind prog w K}{A:Around}{E:ZD}{s:Shared}
abbrev EL(knd:KeyKind prog w K)(h:Heap)(a:Array (Int×Value)):Prop:=∀(i:Nat) e,a[i]? =some e->∃r k,e=(tupleKeyHash knd k,Value.ref r)/\IsTupleKey knd h k r
def mw(g:IsTupleKey knd s.heap ks r)(h:Q false s):↥A (ofAClassStatement 8 (.ref r)) Q E s:=by
 have l:=g.typeIs;have%[o,c,n,m,_,p|hi]:=g;unfold ofAClassStatement;refine Z2 (wpAny_typeOf l (Z2 (Z3 (Z2 (wpAny_seqItems m p (Z2 ?_))))));rw[<-forIn_toList];refine wpAny_forIn_list _ (λrest r s'=>r=(none,())/\s'=s/\∃i,ItemsAre knd i rest) _ ?_ ?_ _ _ %[rfl,rfl,ks|hi]
 .intro x rest r s' %[rfl,rfl,i|d];cases d with
  | @cons k1 u f j q b=>
    have t:=knd.byValue _ _ q;have e:ofAClassStatement 7 x=pure false:=by
     cases x with
     | ref a=>simp[carriedByValue]at t
     | _=>first|rfl|lia|lia
    refine Z2 ?_;rw[e];exact Z3 (Z3 %[rfl,rfl,f|b])
 .intro r s' %[rfl,rfl|_];exact Z3 h
def v9(d:IsTupleKey knd s.heap ks r):∀(l:ZF),(∀y∈l,∃a c,y=Value.ref a/\IsTupleKey knd s.heap c a)->∀{Q:Bool->Shared->Prop},Q false s->↥A (searchCouldBeSeen (.ref r) l) Q E s:=by
 intro l g Q h;refine Z2 (wpAny_forIn_list _ (λrest x s'=>x=(none,())/\s'=s/\∀y∈rest,∃a c,y=Value.ref a/\IsTupleKey knd s.heap c a) _ ?_ ?_ _ _ %[rfl,rfl|g])
 .intro y rest x s' %[rfl,rfl|e];have%[a,c,rfl|b]:=e y Zm;have f:=λy i=>e y (Zk _ i)
  dsimp only
  split
  .exact Z3 %[rfl,rfl|f]
  .exact Z2 (wpAny_eqIsQuiet_tuple d (Z2 (wpAny_eqIsQuiet_tuple b (Z2 (mw d (Z2 (mw b (Z3 %[rfl,rfl|f]))))))))
 .intro x s' %[rfl,rfl|_];exact Z3 h
def sd(hu:A.units<cLine)(ho:s.heap.get? a=some o)(hd:o.data= .set u ep t)(W:WF t u)(room:t.place.size<=t.mask)(ae:t.mask<=9000)
 (el:EL knd s.heap u) (hk:IsTupleKey knd s.heap k r)
 (h1:(∃(i:Nat) (g:Addr),u[i]? =some (tupleKeyHash knd k,Value.ref g)/\IsTupleKey knd s.heap k g)->Q (.there none) s)
 (h2:∀m,way t (tupleKeyHash knd k) m∉t.place.toList->(∀q,q<m->way t (tupleKeyHash knd k) q∈t.place.toList)->(∀(i:Nat) g v,u[i]? =some (tupleKeyHash knd v,Value.ref g)->IsTupleKey knd s.heap v g->v≠k)->Q (.free (way t (tupleKeyHash knd k) m) false) s):
 ↥A (setSearch a (.ref r) (tupleKeyHash knd k) true) Q E s:=by
 generalize hh:tupleKeyHash knd k=h at h1 h2
 have hf:t.fits u.size=true:=by
  unfold fits fill;rw[W.dum];simp[W.size];exact W.size▸room
 have%[N,m1,m2|m3]:=v5 W room h;have me:t.slot (way t h N)= .empty:=by
  rcases jW W.rise W.dum (way t h N)with⟨i,e,_⟩|⟨_,e⟩
  .exact absurd (mem_toList_iff.mpr (Array.mem_of_getElem? e)) m2
  .exact e
 have ag:t.gaveWay=false:=by
  have%[c|hc]:=W.pow;have hb:=W.big;have c0:c≠0:=λq=>by rw[q]at hc;lia
  have%[c'|rfl]:=Nat.exists_eq_succ_of_ne_zero c0;rw[pow_succ]at hc;unfold gaveWay;have:t.mask%2=1:=by lia
  simp[this]
 have O:∀(fuel n:Nat) (st:Option Probe),st.getD (t.probeStart h)=stand t h n->n<=N->N<n+fuel->(∀j,j<n->∀(i:Nat) g v,t.slot (way t h j)= .live i->u[i]? =some (tupleKeyHash knd v,Value.ref g)->IsTupleKey knd s.heap v g->v≠k)->
  ↥A (setSearchFrom a (.ref r) h true fuel st) Q E s:=by
  intro fuel
  induction fuel with
  | zero=>intro n st _ a1 a2;lia
  | succ fuel ih=>
    intro n st ai hn a5 T;unfold setSearchFrom;refine Z2 (wpAny_setState_of ho hd hf ?_);dsimp only;rw[ag];simp only[Y0,if_false];rw[ai]
    generalize aj:SetTable.probe t _ h (stand t h n)=pr
    have l:SetTable.probe.go t (λi=>((u[i]?).map (·.1)).getD 0) h (10*turns t.mask) (stand t h n)=pr:=aj;have%[q,q1,q2,q3|q4]:=tX (t:=t) W.dum (hashAt:=λi=>((u[i]?).map (·.1)).getD 0) (h:=h) (10*turns t.mask) n N hn ⋯ me;rcases q4 with⟨J,e2⟩|⟨i,J,e2,e3⟩
    .rw[e2]at l;subst l;have hq:q=N:=by
      rcases Nat.eq_or_lt_of_le q2 with z|z
      .exact z
      .have:=m3 q z;rcases jW W.rise W.dum (way t h q)with⟨i,_,U⟩|⟨z2,_⟩
       .rw[J]at U;cases U
       .exact absurd this z2
     subst hq;dsimp only;refine Z3 (h2 q m2 m3 λi g v p B C=>?_);subst C;rw[hh]at p;have hi:i<u.size:=(Array.getElem?_eq_some_iff.mp p).1;have hp:t.place[i]? =some (t.place[i]'(W.size▸hi)):=by simp
     have%[Y,c1|c2]:=W.chain i _ h _ hp p;have G:=qB W.rise hp;have al:Y<q:=by
      rcases Nat.lt_trichotomy Y q with z|z|z
      .exact z
      .rw[z,]at c1;rw[<-c1,me]at G;cases G
      .exact absurd (c2 q z) m2
     rw[<-c1]at G;by_cases ab:Y<n
     .exact T Y ab i g v G (hh▸p) B rfl
     .have%[H,U|ac]:=q3 Y ⋯ al;rw[G]at U;cases U;rw[p]at ac;exact ac rfl
    .rw[e3]at l;subst l;obtain⟨x0,p⟩:∃e,u[i]? =some e:=by
      have an:t.place[i]? =some (way t h q):=by
       rcases jW W.rise W.dum (way t h q)with⟨H,p1,I⟩|⟨_,I⟩
       .rw[J]at I;cases I;exact p1
       .rw[J]at I;cases I
      have:=(Array.getElem?_eq_some_iff.mp an).1;exact%[u[i]'(W.size▸this)|by simp[<-W.size,this]]
     have%[g,v,rfl|B]:=el i x0 p;have a6:q<N:=Nat.lt_of_le_of_ne q2 λz=>by rw[z,me]at J;cases J
     have L:↥A (do
      let f<-holding [Value.ref g] (eqBool (Value.ref g) (Value.ref r))
      let x<-setState a
      if(true&&f)=true then pure (SetFound.there none)
      else match x.2.snd.sameMemory t.moves t.mask with
       | some same=>
         match if same=true then x.2.snd.slot (way t h q)else Slot.empty with
         | Slot.live H=>
           match x.fst[H]? with
           | some (_,y')=>do
             let b<-isSame y' (Value.ref g)
             let d<-pure (if b=true then some H else none)
             match d with
              | none=>do
                rule "set.search.anew"
                setSearchFrom a (Value.ref r) h true fuel none
              | some H=>
                if f=true then pure (SetFound.there (some H))
                else setSearchFrom a (Value.ref r) h true fuel (some (stand t h (q+1)))
           | none=>do
             let d<-pure none
             match d with
              | none=>do
                rule "set.search.anew"
                setSearchFrom a (Value.ref r) h true fuel none
              | some H=>
                if f=true then pure (SetFound.there (some H))
                else setSearchFrom a (Value.ref r) h true fuel (some (stand t h (q+1)))
         | x=>do
           let d<-pure none
           match d with
            | none=>do
              rule "set.search.anew"
              setSearchFrom a (Value.ref r) h true fuel none
            | some H=>
              if f=true then pure (SetFound.there (some H))
              else setSearchFrom a (Value.ref r) h true fuel (some (stand t h (q+1)))
       | x=>unsupported "set.changed-during-lookup:is-the-new-block-at-the-old-address") Q E s:=by
      refine Z2 (wpAny_holding (wpAny_eqBool_tuple hu B hk (Z2 (wpAny_setState_of ho hd hf ?_))));dsimp only;by_cases C:v=k
      .subst C;rw[Zf rfl];exact Z3 (h1 %[i,g,(by rw[p]at e2;exact e2)▸p|B])
      .rw[Zh C];have sm:t.sameMemory t.moves t.mask=some true:=by unfold sameMemory;rw[if_pos ∅]
       rw[sm];simp only[if_true];rw[J];dsimp only;rw[p];dsimp only;have same:isSame (Value.ref g) (Value.ref g)=pure true:=by
        unfold isSame;simp
       refine Z2 ?_;rw[same];refine Z3 ?_;simp only[if_true];refine Z2 (Z3 ?_);dsimp only;refine ih (q+1) _ rfl ⋯ ⋯ λj hj i2 r2 k2 s2 g2 t2=>?_
       by_cases as:j<n
       .exact T j as i2 r2 k2 s2 g2 t2
       .by_cases a0:j=q
        .subst a0;rw[J]at s2;cases s2;rw[p]at g2;have:g=r2:=by
          have:=Za g2;injection this with _ z
          injection z
         subst this;exact(B.inj t2)▸C
        .have%[i3,p1|I]:=q3 j ⋯ ⋯;rw[s2]at p1;cases p1;rw[g2]at I;intro z;rw[z]at I;exact I hh
     dsimp only;rw[p];dsimp only;by_cases M:(!t.led)=true
     .rw[if_pos M];refine Z2 (v9 hk _ (λy hy=>?_) ?_)
      .have%[e,a3|rfl]:=Xu hy;have%[i2|hi2]:=Array.getElem?_of_mem ((Array.mem_filter.mp (mem_toList_iff.mp a3)).1);have%[r2,k2,rfl|a4]:=el i2 e hi2;exact%[r2,k2,rfl|a4]
      .exact L
     .rw[if_neg M];exact L
 exact O 100000 0 none rfl (Xj _) (by unfold turns at m1;lia) (λj hj=>absurd hj (Xa _))
end
end STab
namespace STab
open PySem PySem.SetTable
structure IN (es:Array _) (t:SetTable) (led:Bool):Prop where
 wf:WF t es
 roomy:t.place.size*5<t.mask*3
 small:t.mask<=7\/t.mask+1<=8*es.size
 led:t.led=led
 plain:es.size≠0->t.plain=false
def IN.fits{a:Array _}{t:SetTable}{led:Bool}(I:IN a t led):t.fits a.size=true:=by
 unfold SetTable.fits fill;rw[I.wf.dum];have:=I.roomy;simp[I.wf.size];rw[<-I.wf.size]
 lia
def IN.fresh(finger moves:Nat)(led:Bool):IN #[] (SetTable.fresh finger moves led) led:=
 %[%[%[3|rfl],Zi _,rfl,λa b c=>absurd c (by simp[SetTable.fresh]),λj d=>by simp[SetTable.fresh]at d,rfl|λi j h x hi=>by simp[SetTable.fresh]at hi],show 0*5<7*3 from by decide,.inl (Zi _),rfl|λq=>absurd rfl q]
section
variable{prog:Program}{w:World}{K:Type}[DecidableEq K]{knd:KeyKind prog w K}{A:Around}{E:ZD}{s:Shared}
def relay_w(e:s.heap.get? a=some o)(f:o.data= .set c z t)(j:t.fits c.size=true)(B:c.size<=n)(hw:n<=4000)
 (h:∀d t',d.toList.Perm c.toList->WF t' d->t'.led=t.led->t'.plain=t.plain->n<=t'.mask->t'.mask+1<=2*n\/t'.mask<=7->Q () {s with heap:=s.heap.update a (Obj.putSet d t')}):
 ↥A (setRelay a n) Q E s:=by
 have%[k,l,g,lt|le]:=v8 (n:=n) ⋯;have C:8<=2^k:=Yk (by simp:8<=2^3) (Nat.pow_le_pow_right ∅ l);have i:2^k<=2*n\/2^k=8:=by
  rcases le with q|q
  .exact .inl q
  .exact .inr (by rw[q])
 have m:2^k<=8000:=by rcases i with q|q<;> lia
 let p:SetTable:={t with mask:=2^k-1}
 have%[t',b,r,G,u,v,H,W|P]:=laid_ok (t:=p) (k:=k) (by show 2^k-1+1=2^k;lia) (by show 7<=2^k-1;lia) c (by show c.size<=2^k-1;lia) t.finger _ t.led t.plain;have y:t.relaid (c.map (·.1)) n=some (t',b):=by
  unfold relaid;rw[g];exact r
 have sz:(b.filterMap (c[·]?)).size=c.size:=by rw[<-Zb,P.length_eq,Zb]
 refine Z2 (wpAny_setState_of e f j ?_);dsimp only;rw[g,if_neg (by rw[PySem.sizeLine_eq];lia)];rw[y];refine Z2 ?_;show wpAny _ A (if((b.filterMap _).size != c.size)=true then _ else pure _) _ E s;rw[if_neg (by simp[sz])];exact Z3 (wpAny_storeSet_of e f (h _ t' P W u v ⋯ (by rcases i with q|q<;> lia)) (by rw[sz,PySem.sizeLine_eq];lia))
def A5(e:s.heap.get? a=some o)(f:o.data= .set c j t)(g:t.fits c.size=true)(m:c.size<=1000)(n:c.size≠0)(d:t.plain=false)
 (h:∀b t',b.toList.Perm c.toList->IN b t' t.led->t'.plain=false->Q () {s with heap:=s.heap.update a (Obj.putSet b t')}):
 ↥A (setRelay a (grown c.size)) Q E s:=by
 have i:grown c.size=c.size*4:=by unfold grown;rw[if_neg ⋯]
 rw[i];refine relay_w e f g ⋯ ⋯ λb t' P W l p q m2=>?_
 have sz:b.size=c.size:=by rw[<-Zb,P.length_eq,Zb]
 exact h b t' P %[W,by rw[W.size,sz];lia,⋯,l|λ_=>p▸d] (p▸d)
def yI{led:Bool}(L:A.units<cLine)(p:s.heap.get? a=some o)(n:o.data= .set d ep t)(I:IN d t led)(hn:d.size+1<=1000)
 (el:EL knd s.heap d) (B:IsTupleKey knd s.heap k r) (hv:∀(s':Shared) (M:Bool->Shared->Prop),IsTupleKey knd s'.heap k r->M false s'->↥A (hashByValue 8 (.ref r)) M E s')
 (h1:(∃(i:Nat) (u:Addr),d[i]? =some (tupleKeyHash knd k,Value.ref u)/\IsTupleKey knd s.heap k u)->Q false {s with toks:=s.toks+(k.length+1)})
 (N:(∀(i:Nat) (u:Addr) (C:List K),d[i]? =some (tupleKeyHash knd C,Value.ref u)->IsTupleKey knd s.heap C u->C≠k)->∀g t' G h',h'.get? a=some {o with data:= .set g G t'}->SameBut a s.heap h'->g.toList.Perm (d.toList++[(tupleKeyHash knd k,Value.ref r)])->IN g t' led->Q true {s with heap:=h',toks:=s.toks+(k.length+1)}):
 ↥A (setAdd a (.ref r)) Q E s:=by
 unfold setAdd;refine wpAny_holding (Z2 (wpAny_pyHash_tuple L B ?_));unfold setAddHashed;refine wpAny_holding ?_;unfold setAddHashedIn;refine Z2 (wpAny_setState_of (s:={s with toks:=s.toks+(k.length+1)}) p n I.fits ?_);dsimp only;have ns:byScan (Value.ref r) d=false:=rfl;rw[ns];simp only[Y0,if_false];have rm:=I.roomy;refine Z2 (sd (s:={s with toks:=s.toks+(k.length+1)}) L p n I.wf ⋯ (by rcases I.small with q|q<;> lia) el B (λq=>?_) λm O m2 T=>?_)
 .exact Z3 (h1 q)
 .dsimp only;refine Z2 (wpAny_setState_of (s:={s with toks:=s.toks+(k.length+1)}) p n I.fits ?_);dsimp only;have v:=I.wf;have%[p1,U,Y,p4,p5,p6|Wp]:=v.put (x:=Value.ref r) O m2 t.led false;have%[_,_,_,_,_,_|Wq]:=v.put (x:=Value.ref r) O m2 (t.put (way t (tupleKeyHash knd k) m)).1.led (t.put (way t (tupleKeyHash knd k) m)).1.plain;have y:(t.put (way t (tupleKeyHash knd k) m)).2<=d.size:=by
   rw[p1,<-v.size];exact(jV v.rise _).1
  have e:(insertAt d (t.put (way t (tupleKeyHash knd k) m)).2 (tupleKeyHash knd k,Value.ref r)).size=d.size+1:=iU _ _ _ y;have h:(insertAt d (t.put (way t (tupleKeyHash knd k) m)).2 (tupleKeyHash knd k,Value.ref r)).toList.Perm (d.toList++[(tupleKeyHash knd k,Value.ref r)]):=by
   rw[kC _ _ _ y];have q:=Xg (t.put (way t (tupleKeyHash knd k) m)).2 d.toList;refine List.Perm.trans List.perm_middle ?_;rw[q];exact perm_append_comm (l₁:=[_])
  generalize ab:insertAt d _ _=c at Wp Wq e h
  have f:∀b:SetTable,WF b c->b.mask=t.mask->b.place.size=t.place.size+1->b.led=led->b.plain=false->
   ↥A (do storeSet a c b;if(!false&&b.tooFull)=true then do setRelay a (grown (d.size+1));pure true else pure true) Q E {s with toks:=s.toks+(k.length+1)}:=λb W2 e1 e2 e3 e4=>by
   have g1:=by
    have q:=get?_update_self (Obj.putSet c b) p (by rw[putSet_of c b n];rfl);rwa[putSet_of c b n]at q
   have b1:=SameBut.update s.heap a (Obj.putSet c b);refine Z2 (wpAny_storeSet_of p n ?_ (e▸Yk hn (by decide)));have H:b.tooFull=true↔b.mask*3<=b.place.size*5:=by
    unfold tooFull fill;rw[W2.dum];simp
   by_cases hf:b.tooFull=true
   .rw[if_pos (by simp[hf])];have z:b.fits c.size=true:=by
     unfold SetTable.fits fill;rw[W2.dum];simp[W2.size];exact W2.size▸(by rw[e1,e2];have:=v.big;lia)
    rw[<-e];refine Z2 (A5 g1 rfl z ⋯ ⋯ e4 λj J P3 I3 _=>Z3 ?_);have g2:=by
     have q:=get?_update_self (Obj.putSet j J) g1 (by rfl);rwa[putSet_of j J rfl]at q
    exact N T j J _ _ g2 (b1.trans (SameBut.update _ a _)) (P3.trans h) (by rw[e3]at I3;exact I3)
   .rw[if_neg (by simp[hf])];refine Z3 (N T c b _ _ g1 b1 h %[W2,⋯,?_,e3|λ_=>e4]);rw[e1,e];rcases I.small with q|q
    .exact .inl q
    .exact .inr ⋯
  by_cases l:(t.put (way t (tupleKeyHash knd k) m)).1.plain=true
  .rw[if_pos l];exact Z2 (hv _ _ B (f _ Wp U Y I.led rfl))
  .rw[if_neg l];exact f _ Wq U Y (p4.trans I.led) (by simpa using l)
end
end STab
namespace L2
open PySem PySem.Spec PyProof.Rows STab
abbrev hC{a:Type}[DecidableEq a](ps:List (Addr×a))(p:Addr×a):List (Addr×a):=if p.2∈ps.map (·.2)then ps else ps++[p]
abbrev ba{a:Type}[DecidableEq a](l:List (Addr×a)):List (Addr×a):=l.foldl hC []
section
variable{κ:Type}[DecidableEq κ]
def A6{ps:List _}{p q:Addr×κ}(h:q∈hC ps p):q∈ps\/q=p:=by
 unfold hC at h
 split at h
 .exact .inl h
 simp_all
def yJ{ps:List (Addr×κ)}{p:Addr×κ}{k:κ}:k∈(hC ps p).map (·.2)↔k∈ps.map (·.2)\/k=p.2:=by
 unfold hC;by_cases h:p.2∈ps.map (·.2)
 .rw[if_pos h];exact%[.inl|λq=>q.elim id λe=>e▸h]
 .rw[if_neg h,Zd,Yw];simp
def wa{ps:List (Addr×κ)}{p:Addr×κ}(h:(ps.map (·.2)).Nodup):((hC ps p).map (·.2)).Nodup:=by
 unfold hC
 split
 .exact h
 .rename_i a
  rw[Zd];exact mV h a
def wY:∀(l ps:List (Addr×κ)),(ps.map (·.2)).Nodup->((l.foldl hC ps).map (·.2)).Nodup/\(∀k,k∈(l.foldl hC ps).map (·.2)↔k∈ps.map (·.2)\/k∈l.map (·.2))/\(∀q∈l.foldl hC ps,q∈ps\/q∈l)
 |[],ps,h=>%[h,λk=>by simp|λq a=> .inl a]
 | p::l,ps,h=>by
   have%[b,c|d]:=wY l _ (wa h);rw[Y9];refine%[b,λk=>?_|λq a=>?_]
   .rw[c,yJ,Yu,Yz]
    grind
   .rcases d q a with z|z
    .rcases A6 z with z|z
     .exact .inl z
     .exact .inr (z▸Zm)
    .exact .inr (Zk _ z)
def dW(l:List (Addr×κ)):((ba l).map (·.2)).Nodup:=(wY l [] X9).1
def hJ(l:List (Addr×κ))(k:κ):k∈(ba l).map (·.2)↔k∈l.map (·.2):=by
 have:=(wY l [] X9).2.1 k;simpa [ba]using this
def bq(l:List (Addr×κ)):∀q∈ba l,q∈l:=λq a=>by
 rcases(wY l [] X9).2.2 q a with z|z
 .cases z
 .exact z
def sf(val:Nat->Addr×κ)(i:Nat):ba ((List.range (i+1)).map val)=hC (ba ((List.range i).map val)) (val i):=by
 unfold ba;rw[range_succ,Zd,List.foldl_append];rfl
end
section
variable{prog:Program}{w:World}{κ:Type}[DecidableEq κ]{knd:PySem.KeyKind prog w κ}{A:Around}{E:ZD}{s:Shared}{a:Addr}
abbrev nW(w:World)(knd:PySem.KeyKind prog w κ)(a:Addr)(ps:List (Addr×List κ))(h:Heap):Prop:=
 ∃o b c t,h.get? a=some o/\o.ExactSet/\o.data= .set b c t/\IN b t (!aS w)/\b.toList.Perm (ps.map λp=>(tupleKeyHash knd p.2,Value.ref p.1))
def nW.keep(S:nW w knd a ps h)(k:∀o,h.get? a=some o->h'.get? a=some o):nW w knd a ps h':=by
 have%[o,b,c,t,d|r]:=S;exact%[o,b,c,t,k o d|r]
def mX(x:IsTupleKey knd h k r)(q:∀o,h.get? r=some o->h'.get? r=some o):IsTupleKey knd h' k r:=by
 have%[o,b,n,c|z]:=x;exact%[o,b,n,q o c|z]
def A7(v:A.units<cLine)(y:nW w knd a ps s.heap)(tk:∀q∈ps,IsTupleKey knd s.heap q.2 q.1)(B:IsTupleKey knd s.heap p.2 p.1)(room:ps.length+1<=1000)
 (C:∀(s':Shared) (m:Bool->Shared->Prop),IsTupleKey knd s'.heap p.2 p.1->m false s'->↥A (hashByValue 8 (.ref p.1)) m E s')
 (n:∀h' b tk,SameBut a s.heap h'->nW w knd a (hC ps p) h'->s.toks<=tk->Q b {s with heap:=h',toks:=tk}):↥A (setAdd a (.ref p.1)) Q E s:=by
 have%[o,g,G,t,r,f,u,I|P]:=y;have hn:=by
  have:=P.length_eq;rw[Z6,Zb]at this;exact this
 have mem:∀i e,g[i]? =some e->∃q∈ps,e=(tupleKeyHash knd q.2,Value.ref q.1):=λi e h=>by
  have:=mem_toList_iff.mpr (Array.mem_of_getElem? h);have%[q,c|rfl]:=Xu (P.mem_iff.mp this);exact%[q,c|rfl]
 have H:EL knd s.heap g:=λi e h=>by
  have%[q,c|rfl]:=mem i e h;exact%[q.1,q.2,rfl|tk q c]
 refine yI v r u I ⋯ H B C (λ⟨i,J,e,L⟩=>?_) λd j t' l h' g' M N O=>?_
 .have%[q,c|T]:=mem i _ e;have U:J=q.1:=by injection T with _ z;injection z
  subst U;refine n s.heap false _ (SameBut.refl a s.heap) ?_ (le_add_right _ _);unfold hC;rw[if_pos (Xv %[q,c|(L.inj (tk q c)).symm])];exact%[o,g,G,t,r,f,u,I|P]
 .refine n h' true _ M ?_ (le_add_right _ _);unfold hC;rw[if_neg]
  .refine%[_,j,l,t',g',f,rfl,O|N.trans ?_];rw[Zd];exact P.append_right _
  .intro Y;have%[q,c|e]:=Xu Y;have:=P.mem_iff.mpr (Xv %[q,c|rfl]);have%[i|hi]:=Xk this;exact d i q.1 q.2 (by simpa using hi) (tk q c) e
end
section
variable{prog:Program}{w:World}{κ:Type}[DecidableEq κ]{knd:PySem.KeyKind prog w κ}{A:Around}{R:Result->Shared->Prop}{I:Addr}{fp wr:List Addr}{G:Array GenState->Array GenState->Prop}{n:Nat}{P:Nat->Value->Prop}{St:Nat->Shared->Prop}
def pK(W:WalksS prog w A.in1 I fp wr G n P St)(S:Addr)(l:S∉fp)(N:A.in1.units<cLine)(val:Nat->Addr×List κ)(r:∀i v,i<n->P i v->v= .ref (val i).1)(U:List (List κ))(hU:U.length<=999)(z:∀i,i<n->(val i).2∈U)(c:∀i,i<n->(val i).1≠S/\(val i).1∉wr)
 (O:∀i,i<n->∀(s':Shared) (y:Bool->Shared->Prop) (Q:ZD),IsTupleKey knd s'.heap (val i).2 (val i).1->y false s'->↥A.in1 (hashByValue 8 (.ref (val i).1)) y Q s'):
 ∀(k i:Nat) (s:Shared),n-i=k->i<=n->St i s->nW w knd S (ba ((List.range i).map val)) s.heap->(∀j,j<n->IsTupleKey knd s.heap (val j).2 (val j).1)->
  (∀s',Moved (S::wr) G s s'->nW w knd S (ba ((List.range n).map val)) s'.heap->R (.ok (.ret .none)) s')->codeAny (model prog w) A (.builtin "set.update.loop" %[[.ref S,.ref I]|[]]) R s:=by
 have out:S∉wr:=λh=>l (W.sub _ h)
 have more:∀b∈wr,b∈S::wr:=λb t=>Zk _ t
 intro k
 induction k with
 | zero=>
   intro i s B hi st C tk fin;have e:i=n:=by lia
   subst e;refine codeAny_builtin F.entry_set_update_loop ?_;rw[Around.under_plainId F.plain_set_update_loop _];show wpAny _ A.in1 (pyNext (.ref I)>>= _) _ _ s;refine Z2 (W.done s _ _ st λd g=>?_);show wpAny _ A.in1 (ret Value.none) _ _ d;exact Z3 (fin d (g.mono more) (C.keep λo e=>g.heap S o out e))
 | succ k T=>
   intro i s B hi st C tk fin;have lt:i<n:=by lia
   refine codeAny_builtin F.entry_set_update_loop ?_;rw[Around.under_plainId F.plain_set_update_loop _];show wpAny _ A.in1 (pyNext (.ref I)>>= _) _ _ s;refine Z2 (W.item i s _ _ lt st λv d pv E g=>?_);obtain rfl:=r i v lt pv;have f:∀j,j<n->IsTupleKey knd d.heap (val j).2 (val j).1:=λj a=>mX (tk j a) λo e=>g.heap _ o (c j a).2 e
   have H:∀q∈ba ((List.range i).map val),IsTupleKey knd d.heap q.2 q.1:=λq Y=>by
    have%[j,a|rfl]:=Xu (bq _ q Y);exact f j (by have:=mem_range.mp a;lia)
   have room:(ba ((List.range i).map val)).length+1<=1000:=by
    have q:=nodup_sub (dW ((List.range i).map val)) (m:=U) λk B=>by
     have%[p,hp|rfl]:=Xu ((hJ _ k).mp B);have%[j,a|rfl]:=Xu hp;exact z j (by have:=mem_range.mp a;lia)
    rw[Z6]at q
    lia
   refine Z2 (wpAny_holding (A7 (p:=val i) N (C.keep (h':=d.heap) λo e=>g.heap S o out e) H (f i lt) room (λs' y=>O i lt s' y _) λh2 b ab J L u=>Z3 %[plainId_quiet F.plain_set_update_loop _|T (i+1) _ ⋯ lt (W.frame _ d _ _ E u λb t o e=>?_) (by rw[sf];exact L) (λj a=>mX (f j a) λo e=>(J.2 _ (c j a).1)▸e) λs3 m3 M=>?_]))
   .rw[J.2 b (λq:b=S=>l (q▸t))];exact e
   .refine fin s3 (Moved.trans W.gtrans ((g.mono more).then_heap u λb o t e=>?_) m3) M;rw[J.2 b (λq:b=S=>t (q▸Zm))];exact e
end
section
variable{prog:Program}{w:World}{κ:Type}[DecidableEq κ]{knd:PySem.KeyKind prog w κ}{A:Around}{E:ZD}{s:Shared}
def pL(hh:A.handled=none)(hu:A.units+16<cLine)(hl:s.heap.IsList l a)(hi:a.toList=ps.map λp=>Value.ref p.1)(tk:∀p∈ps,IsTupleKey knd s.heap p.2 p.1)(U:List (List κ))(hU:U.length<=999)(ab:∀p∈ps,p.2∈U)
 (hv:∀p∈ps,∀(B:Around) (s':Shared) (O:Bool->Shared->Prop) (E':ZD),IsTupleKey knd s'.heap p.2 p.1->O false s'->↥B (hashByValue 8 (.ref p.1)) O E' s')
 (hQ:∀(h':Heap) (tk:Nat),nW w knd ⇑s (ba ps) h'->(∀b o,s.heap.get? b=some o->h'.get? b=some o)->Q (.ref ⇑s) {s with heap:=h',toks:=tk}):
 ↥A (call (.type "set") [.ref l]) Q E s:=by
 have%[c,tl|a2]:=called_set.mro;have ac:=called_set.made;have a3:=called_set.sub;refine wpAny_call (codeAny_of_tree ?_);show wpAny _ _ (callAny (.type "set") _) _ _ _;refine Z3 %[Code.quiet_builtin _ (by decide +kernel)|codeAny_builtin F.entry_type_call ?_];rw[Around.under_plain (weight_type_call_type "set" [.ref l] []) rfl];have a5:=called_set.notType;have a6:=called_set.canCreate;have a7:=PySem.F.typeCall_set_1 (.ref l)
 repeat any_goals first|assumption|wp_step
 refine codeAny_mono (tL (.ref l) (E:=E) (Q₁:=λobj q=>obj= .ref ⇑s/\q={s with heap:=s.heap.push (aT w)}) %[rfl|rfl]) λr q C=>?_
 cases r with
 | error e=>exact C
 | ok fl=>
   cases fl with
   | ret obj=>
     have%[rfl|rfl]:=C;have gS:(s.heap.push (aT w)).get? ⇑s=some (aT w):=Zj _ rfl;have tS:Shared.TypeIs {s with heap:=s.heap.push (aT w)} (.ref ⇑s) "set":=%[_,gS|rfl]
     have bb:=called_set.init.lookup;have bc:=called_set.init.bind (.ref ⇑s)
     repeat any_goals first|assumption|wp_step
     refine codeAny_mono (codeAny_call_builtin (R:=wants (λr t=>r= .none/\∃h' tk,t={s with heap:=h',toks:=tk}/\nW w knd ⇑s (ba ps) h'/\(∀b o,s.heap.get? b=some o->h'.get? b=some o)) E) called_set.init.plain F.entry_set_init (check_set_init_1 tS ?_)) λG t f=>?_
     .have%[ol,gl,cl,nl|dl]:=hl;have%[a4,y,ae|m]:=ol;simp only at cl dl;subst cl;subst dl;have ag:(s.heap.push (aT w)).get? l=some {cls:= .type "list",dict:=y,data:= .seq a nl,slots:=m}:=Z7 _ gl;have bf:=PySem.F.sub_list_set;have bl:=PySem.F.sub_list_frozenset;have bm:(Value.type "list"==Value.type "dict")=false:=by decide
      have H:(s.heap.push (aT w)).IsList l a:=%[_,ag,rfl,nl|rfl]
      unfold Builtin.«set.__init__»;unfold noKeywords;unfold Builtin.Frozenset.updateFrom
      generalize ai:pyIter=PI
      wp_walk
      subst ai;refine wpAny_pyIter_list H (Z2 (wpAny_runValue ?_));have I:l<⇑s:=Zv gl;have h3:A.in1.in1.in1.handled=none:=by simp[hh]
      have T:(s.heap.push (aT w)).objs.size=⇑s+1:=Zq ..;have aj:l≠(s.heap.push (aT w)).objs.size:=by rw[T];exact Zt (Yr I)
      have al:⇑s∉[(s.heap.push (aT w)).objs.size,l]:=by
       rw[T];simp only[Yz,Xb,or_false,not_or];exact%[Zt (Ys _)|X6 I]
      have J:a.size=ps.length:=by rw[<-Zb,hi,Z6]
      have an:A.in1.in1.in1.units<cLine:=by simp only[Around.in1];lia
      have g:∀i,i<a.size->∃p∈ps,ps[i]? =some p/\ps.getD i (0,[])=p:=λi h=>by
       have h':i<ps.length:=by lia
       exact%[ps[i],Yg h',by simp[h']|by simp[Zc,h']]
      refine pK (knd:=knd) ((Walks.list h3 _ l aj a).toS) ⇑s al an (λi=>ps.getD i (0,[])) (λi v d as=>?_) U hU (λi d=>?_) (λi d=>?_) (λi d=>?_) (a.size-0) 0 _ ⋯ (Xj _)
       %[%[_,Zj _ rfl,rfl|rfl]|H.push _] %[_,#[],0,_,Z7 _ gS,%[rfl,rfl|rfl],rfl,IN.fresh 0 0 _|List.Perm.refl _] (λj d=>?_) ?_
      .have%[p,u,L|n]:=g i d;have:a.toList[i]? =some v:=by rw[Yf];exact as
       rw[hi,Zl,L]at this;show v= .ref (ps.getD i (0,[])).1;rw[n];exact(Za this).symm
      .have%[p,u,L|n]:=g i d;show(ps.getD i (0,[])).2∈U;rw[n];exact ab p u
      .have%[p,u,L|n]:=g i d;have%[po,_,_,pg|_]:=tk p u;have M:=Zv pg;show(ps.getD i (0,[])).1≠_/\(ps.getD i (0,[])).1∉_;rw[n];refine%[Zt M|?_];simp only[Yz,Xb,or_false,T];exact Zt (Yr M)
      .have%[p,u,L|n]:=g i d;intro s' O E';show IsTupleKey knd s'.heap (ps.getD i (0,[])).2 (ps.getD i (0,[])).1->_->wpAny _ _ (hashByValue 8 (.ref (ps.getD i (0,[])).1)) _ _ _;rw[n];exact hv p u _ s' O E'
      .have%[p,u,L|n]:=g j d;show IsTupleKey knd _ (ps.getD j (0,[])).2 (ps.getD j (0,[])).1;rw[n];exact mX (tk p u) λo e=>Z7 _ (Z7 _ e)
      intro s3 Y S3;have C:(List.range a.size).map (λi=>ps.getD i (0,[]))=ps:=by
       rw[J];apply ext_getElem
       .simp
       .intro i h1 h2;simp[Zc,h2]
      rw[C]at S3;have%[h',g',d',a0|a1]:=s3;have eg:g'=s.gens:=Y.gens;have ed:d'=s.drawn:=Y.drawn;have eo:a1=s.os:=Y.os;subst eg;subst ed;subst eo;refine Z3 ?_;show wpAny _ _ (ret Value.none) _ _ _;refine Z3 %[rfl,h',a0,rfl,S3|λb o e=>?_];have N:=Zv e;refine Y.heap b o ?_ (Z7 _ (Z7 _ e));simp only[Yz,Xb,or_false,not_or,T];exact%[Zt N|Zt (Yr N)]
     .cases G with
      | error e=>exact f
      | ok z=>
        cases z with
        | ret r=>
          have%[rfl,h',tk,rfl,S3|k3]:=f
          repeat any_goals first|assumption|wp_step
          exact hQ _ _ S3 k3
        | _=>exact f.elim
   | _=>exact C.elim
end
open PySem PySem.Spec PyProof.Rows
section
variable{prog:Program}{w:World}{A:Around}{s:Shared}
def jE{a:Addr}{vs:ZF}{n:Nat}{kd:SortKind}{Nv:Value->Nat}{P:Fin->Shared->Prop}{E:ZD}(z:s.heap.get? a=some (seqObj "list" vs.toArray n))(C:vs.length<=100000)
 (f:∀j:Heap,(∀b o,b≠a->s.heap.get? b=some o->j.get? b=some o)->2<=vs.length->∀Q:SortKind->Shared->Prop,Q kd {s with heap:=j}->↥A (keyKind' vs.toArray) Q E {s with heap:=j})
 (M:∀j:Heap,(∀b o,b≠a->s.heap.get? b=some o->j.get? b=some o)->SBig.Cmp prog w A (λs'=>s'={s with heap:=j}) kd (λx=>x.1∈vs) (λx=>Nv x.1))
 (h:∀out:ZF,out.Perm vs->out.Pairwise (λx y=>Nv x<=Nv y)->P (.done (.ret .none)) {s with heap:=sortedHeap s.heap a vs out.toArray}):
 ↥A (Builtin.«list.sort» %[[.ref a]|[]]) P E s:=by
 rw[list_sort_plain];have I:a<⇑s:=Zv z;have g:vs.length<=sizeLine:=Yk C (by decide);refine Z2 (listItems_at z rfl ?_);refine Z2 (listUpdate_at z rfl ?_ (g));obtain⟨G,t⟩:∃G,(s.heap.update a (Obj.mapSeq λ_=> #[])).get? a=some (seqObj "list" #[] G):=%[_|get?_update_seq z (λ_=> #[])]
 refine Z2 (seqEpoch_at t rfl ?_);refine Z2 (wpAny_newTuple ?_ (g));refine Z2 (wpAny_newList ?_);refine wpAny_holding ?_;have keep:∀b o,b≠a->s.heap.get? b=some o->(((s.heap.update a (Obj.mapSeq λ_=> #[])).push (seqObj "tuple" vs.toArray 0)).push (seqObj "list" #[] 0)).get? b=some o:=λb o N e=>
  Z7 _ (Z7 _ ((get?_update_other _ _ (Ne.symm N)).trans e))
 have d:(((s.heap.update a (Obj.mapSeq λ_=> #[])).push (seqObj "tuple" vs.toArray 0)).push (seqObj "list" #[] 0)).get? a=some (seqObj "list" #[] G):=by
  rw[Heap.get?_push_ne _ _ _ (by rw[size_push',Heap.size_update];exact Zt (Yr I)),Heap.get?_push_ne _ _ _ (by rw[Heap.size_update];exact Zt I)];exact t
 have f:=f _ keep;show ↥A _ P E {s with heap:=((s.heap.update a (Obj.mapSeq λ_=> #[])).push (seqObj "tuple" vs.toArray 0)).push (seqObj "list" #[] 0)};dsimp only;have H:vs.toArray.size=vs.length:=by simp
 have u:(vs.toArray.zip vs.toArray).toList=vs.map λv=>(v,v):=by
  rw[Array.toList_zip,List.toList_toArray];apply ext_getElem
  .simp
  .intro i h1 l;simp
 have fin:∀c:SortSt,(arrOf c).toList.Perm (vs.map λv=>(v,v))->SBig.Srt (λx=>Nv x.1) (arrOf c).toList->P (.done (.ret .none)) {s with heap:=(sortedHeap s.heap a vs ((arrOf c).map (·.2)))}:=by
  intro c m B;have J:∀x∈(arrOf c).toList,x.1=x.2:=λx p=>by
   have%[v,_|rfl]:=Xu (m.mem_iff.mp p);rfl
  have e:(arrOf c).map (·.2)=((arrOf c).toList.map (·.2)).toArray:=by
   apply Array.ext';simp
  rw[e];refine h _ ?_ ?_
  .have:=m.map (·.2);rwa[Yv,show((λx:Keyed=>x.2) ∘ λv:Value=>(v,v))=id from rfl,map_id]at this
  .rw[Xd];exact Xl (λ{x y} p O q=>by rw[<-J x p,<-J y O];exact q) B
 by_cases l:vs.toArray.size<2
 .rw[if_pos l,if_pos l];refine Z2 (Z3 ?_);rw[StateT.run_pure];refine Z2 (Z3 ?_);dsimp only;refine Z2 (seqEpoch_at d rfl (Z2 (listUpdate_at d rfl ?_ (hsz2:=by rw[size_map];show(pairsOf vs).size<=_;rw[pairsOf_size,sizeLine_eq];omega))));simp only[bne_self_eq_false,Y0,if_false];refine Z3 (fin _ (by rw[u]) ?_);rw[u]
  match vs,H,l with
  |[],_,_=>exact List.Pairwise.nil
  |[v],_,_=>exact List.pairwise_singleton _ _
  | v1::v2::r,h3,T=>simp at T;omega
 .rw[if_neg l,if_neg l];refine Z2 (f (by omega) _ ?_);refine Z2 (wpAny_mono (SBig.sc_sortRuns (D:=λx=>x.1∈vs) (st:=SortSt.mk' kd (vs.toArray.zip vs.toArray) #[] 7 none) (M _ keep) (λx p=>?_) ?_ rfl rfl
   (Q:=λ_ c=>(arrOf c).toList.Perm (vs.map λv=>(v,v))/\failedOf c=none/\SBig.Srt (λx=>Nv x.1) (arrOf c).toList) (λc U Y a3=>%[?_,a3|Y]) _ rfl) ?_ λ_ _ e=>e.elim)
  .rw[u]at p;have%[v,hv|rfl]:=Xu p;exact hv
  .rw[<-Zb,u,Z6];omega
  .rwa[u]at U
  .rintro⟨⟨⟩,c⟩ s' ⟨rfl,m,L,B⟩;dsimp only at m L B ⊢;refine Z2 (seqEpoch_at d rfl (Z2 (listUpdate_at d rfl ?_ (hsz2:=?_))))
   .rw[L];simp only[bne_self_eq_false,Y0,if_false];exact Z3 (fin c m B)
   .rw[size_map,<-Zb,m.length_eq,Z6];exact Nat.le_succ_of_le g
end
abbrev aO(x y:Str):Bool:=decide (x.cps.toList<y.cps.toList)
abbrev dG:ZB->ZB->Bool
 |[],[]=>false
 |[],_::_=>true
 | _::_,[]=>false
 | x::xs,y::ys=>if x=y then dG xs ys else aO x y
def dZ(x:Str):aO x x=false:=Zh (List.lt_irrefl _)
def FC{x y:Str}(h:x.cps.toList=y.cps.toList):x=y:=by
 obtain⟨⟨l⟩⟩:=x
 simp_all
def eQ{x y z:Str}(a:aO x y=true)(b:aO y z=true):aO x z=true:=Zf (List.lt_trans (Zo a) (Zo b))
def cA{x y:Str}(h:aO x y=false)(a:x≠y):aO y x=true:=by
 exact Zf (Classical.byContradiction λb=>a (FC (List.le_antisymm b (of_decide_eq_false h))))
def wZ:∀x,dG x x=false
 |[]=>rfl
 | x::xs=>by rw[dG,if_pos rfl];exact wZ xs
def jn:∀{x y z:ZB},dG x y=true->dG y z=true->dG x z=true
 |[],[],z,b,a=>by cases b
 |[],y::ys,[],b,a=>by cases a
 |[],y::ys,z::zs,b,a=>rfl
 | x::xs,[],z,b,a=>by cases b
 | x::xs,y::ys,[],b,a=>by cases a
 | x::xs,y::ys,z::zs,b,a=>by
   rw[dG]at b a ⊢;by_cases d:x=y
   .rw[if_pos d]at b;subst d;by_cases c:x=z
    .rw[if_pos c]at a ⊢;exact jn b a
    .rw[if_neg c]at a ⊢;exact a
   .rw[if_neg d]at b;by_cases c:y=z
    .rw[if_pos c]at a;subst c;rw[if_neg d];exact b
    .rw[if_neg c]at a;have f:=eQ b a;rw[if_neg (λe=>by rw[e,dZ]at f;cases f)];exact f
def lC:∀{x y:ZB},dG x y=false->x≠y->dG y x=true
 |[],[],a,c=>absurd rfl c
 |[],y::ys,a,c=>by cases a
 | x::xs,[],a,c=>rfl
 | x::xs,y::ys,a,c=>by
   rw[dG]at a ⊢;by_cases b:x=y
   .rw[if_pos b]at a;rw[if_pos b.symm];exact lC a λe=>c (by rw[b,e])
   .rw[if_neg b]at a;rw[if_neg (Ne.symm b)];exact cA a b
abbrev gG(ks:List ZB)(k:ZB):Nat:=ks.countP λu=>dG u k
def kD{ks:List ZB}{x y:ZB}(b:x∈ks):dG x y=decide (gG ks x<gG ks y):=by
 have up:∀(l:List ZB) p q,(∀u∈l,p u=true->q u=true)->l.countP p<=l.countP q:=λl p q h=>List.countP_mono_left h
 cases h:dG x y with
 | true=>
   symm
   refine Zf ?_;have c:∀l:List _,x∈l->l.countP (λu=>dG u x)<l.countP (λu=>dG u y):=by
    intro l
    induction l with
    | nil=>simp
    | cons u l d=>
      intro b;rw[countP_cons,countP_cons];have le:=up l (λu=>dG u x) _ λu _ a=>jn a h
      rcases mem_cons.mp b with e|e
      .subst e;rw[if_neg (by rw[wZ];simp),if_pos h];omega
      .have:=d e;by_cases a:dG u x=true
       .rw[if_pos a,if_pos (jn a h)];omega
       .rw[if_neg a]
        split<;> omega
   exact c ks b
 | false=>
   symm
   refine Zh (Nat.not_lt.mpr (up ks _ _ λu _ a=>?_));by_cases e:x=y
   .exact e▸a
   .exact jn a (lC h e)
section
variable{prog:Program}{w:World}{A:Around}{s:Shared}{E:ZD}
nonrec abbrev yK(prog:Program)(w:World)(h:Heap)(zs:ZB)(r:Addr):Prop:=IsTupleKey (aM prog w) h (zs.map Sum.inr) r
def gH:∀{zs:ZB} {vs:ZF},ItemsAre (aM prog w) (zs.map Sum.inr) vs->StrsAre vs zs
 |[],_,h=>by cases h;exact .nil
 | z::zs,_,h=>by
   cases h with
   | cons a d=>
     have a:jz (Sum.inr z) _=true:=a;rcases aW a with⟨i,t,b,c⟩|⟨y,t,b,c⟩
     .cases b
     .cases b;subst c;exact .cons z t (gH d)
def DW{b fin:Bool}{Q:Bool->Shared->Prop}:∀(x y:ZB) (vs us:ZF) (i:Nat),StrsAre vs x->StrsAre us y->(x.length=y.length)->fin=false->Q (dG x y) s->PySem.W.KatLex prog w A b fin Q (vs.zip us) i s
 |[],[],_,_,i,.nil,.nil,_,a,h=>a▸h
 | x::xs,y::ys,_,_,i,.cons _ t c,.cons _ u d,f,a,h=>by
   rw[List.zip_cons_cons];refine PySem.W.kat_cons (eqBool_str ?_);rw[dG]at h;by_cases e:x=y
   .subst e;rw[if_pos rfl]at h;rw[beq_self_eq_true];exact PySem.W.kat_yes (DW xs ys _ _ _ c d (by simpa using f) a h)
   .rw[if_neg e]at h;rw[beq_eq_false_iff_ne.mpr e];refine PySem.W.kat_no ?_;cases g:(b&&i==0)with
    | true=>exact oneLt_str h
    | false=>exact PySem.W.kat_one _ _ (lt_str h)
def C9{x y:ZB}{r q:Addr}{Q:Bool->Shared->Prop}{b:Bool}(d:yK prog w s.heap x r)(e:yK prog w s.heap y q)(f:x.length=y.length)(h:Q (dG x y) s):↥A (keyLt' (tuples' b) (.ref r) (.ref q)) Q E s:=by
 have%[o,xs,nx,g,_,i|j]:=d;have%[p,ys,t,l,_,m|n]:=e;have a:=gH j;have c:=gH n;refine PySem.W.kat_lt g i l m (DW x y _ _ 0 a c f ?_ h);have u:=bo a;have v:=bo c
 grind
end
def t8 [DecidableEq d][DecidableEq i](g:d->i)(j:∀a b,g a=g b->a=b)(l:List (Addr×d)):ba (l.map λp=>(p.1,g p.2))=(ba l).map λp=>(p.1,g p.2):=by
 have m:∀(l ps:List _),(l.map λp=>(p.1,g p.2)).foldl hC (ps.map λp=>(p.1,g p.2))=(l.foldl hC ps).map λp=>(p.1,g p.2):=by
  intro l
  induction l with
  | nil=>intro ps;rfl
  | cons p l n=>
    intro ps;rw[Yu,Y9,Y9];have e:hC (ps.map λp=>(p.1,g p.2)) (p.1,g p.2)=(hC ps p).map λp=>(p.1,g p.2):=by
     unfold hC;have f:(g p.2∈(ps.map λp=>(p.1,g p.2)).map (·.2))↔p.2∈ps.map (·.2):=by
      rw[Yv]
      constructor
      .intro h;have%[q,c|e]:=Xu h;exact Xv %[q,c|j _ _ e]
      .intro h;have%[q,c|e]:=Xu h;exact Xv %[q,c|by show g q.2=g p.2;rw[e]]
     by_cases h:p.2∈ps.map (·.2)
     .rw[if_pos h,if_pos (f.mpr h)]
     .rw[if_neg h,if_neg (λz=>h (f.mp z)),Zd];rfl
    rw[e];exact n _
 exact m l []
noncomputable abbrev GY(p:Addr×ZB):Addr×List Key:=(p.1,p.2.map Sum.inr)
def si:∀a b:ZB,a.map (Sum.inr:Str->Key)=b.map Sum.inr->a=b
 |[],[],_=>rfl
 |[],_::_,h=>by cases h
 | _::_,[],h=>by cases h
 | x::xs,y::ys,h=>by
   injection h with c d
   injection c with e
   rw[e,si xs ys d]
section
#where
variable{S:Addr}
def nZ:∀{vs:ZF} {zs:ZB},StrsAre vs zs->ItemsAre (aM prog w) (zs.map Sum.inr) vs
 | _,_,.nil=> .nil
 | _,_,.cons x t h=> .cons (dJ x t) (nZ h)
def Da(c:zs≠[])(b:yK prog w s.heap zs r)(h:Q false s):↥A (hashByValue 8 (.ref r)) Q E s:=by
 have d:=b.typeIs;have%[o,a,n,e,_,f|hi]:=b;refine Z2 (wpAny_specialOf d F.slot_tuple_hash.lookup (Z2 (wpAny_seqItems e f (Z2 ?_))));rw[<-forIn_toList]
 match zs,a.toList,(gH hi),c with
 | z::zs,_,.cons _ t g,_=>
   exact Z2 (Z2 (Z3 (Z3 (Z3 (Z3 h)))))
abbrev kOf(ps:ZG):Value->ZB
 | .ref r=>((ps.find? λp=>p.1==r).map (·.2)).getD []
 | _=>[]
abbrev aOf:Value->Addr
 | .ref r=>r
 | _=>0
def n6(J:∀(E1:ZD) (R:ZF->Shared->Prop),(∀c vs,vs.Perm (ps.map λp=>Value.ref p.1)->(∀b o,s.heap.get? b=some o->c.heap.get? b=some o)->c.gens=s.gens->c.os=s.os->R vs c)->↥A.in1 (collect (.ref S)) R E1 s)(tk:∀p∈ps,yK prog w s.heap p.2 p.1)(U:∀p∈ps,p.2.length=m)(m0:m≠0)(few:ps.length<=1000)
 (hQ:∀(c s':Shared) (l:Addr) (ss:ZG) (n:Nat),ss.Perm ps->ss.Pairwise (λa b=>dG b.2 a.2=false)->(∀b o,s.heap.get? b=some o->c.heap.get? b=some o)->c.gens=s.gens->c.os=s.os->(∀b o,c.heap.get? b=some o->s'.heap.get? b=some o)->s'.gens=c.gens->s'.os=c.os->⇑c<=l->s'.heap.get? l=some {cls:= .type "list",data:= .seq (ss.map λp=>Value.ref p.1).toArray n}->Q (.ref l) s'):
 ↥A (call (.builtin "sorted") [.ref S]) Q E s:=by
 have j:∀p∈ps,kOf ps (.ref p.1)=p.2:=λp d=>by
  show((ps.find? λq=>q.1==p.1).map (·.2)).getD []=p.2;cases r:ps.find? λq=>q.1==p.1 with
  | none=>
    have:=List.find?_eq_none.mp r p d;simp at this
  | some q=>
    have B:=List.mem_of_find?_eq_some r;have e:q.1=p.1:=by have:=List.find?_some r;simpa using this
    show q.2=p.2;have t1:=tk q B;rw[e]at t1;exact si _ _ (t1.inj (tk p d))
 refine Calls.call_function_entry kind_sorted plain_sorted entry_sorted (args_sorted1 _) ?_;unfold Builtin.«sorted»;refine Z2 (m:=checkCount "sorted" 1 1 _) (Z3 ?_);refine Z2 (J _ _ λc vs Y k1 g1 o1=>?_);have hl:vs.length=ps.length:=by rw[Y.length_eq,Z6]
 have mem:∀v∈vs,∃p∈ps,v=Value.ref p.1:=λv C=>by
  have%[p,d|rfl]:=Xu (Y.mem_iff.mp C);exact%[p,d|rfl]
 refine Z2 (wpAny_newList ?_ (by rw[sizeLine_eq];lia));have gL:(c.heap.push (seqObj "list" vs.toArray 0)).get? ⇑c=some (seqObj "list" vs.toArray 0):=Zj _ rfl;have G:∀p∈ps,∀i:Heap,(∀b o,b≠⇑c->(c.heap.push (seqObj "list" vs.toArray 0)).get? b=some o->i.get? b=some o)->yK prog w i p.2 p.1:=λp d i I=>by
  refine mX (tk p d) λo e=>?_
  have L:=k1 _ _ e;exact I _ _ (Zt (Zv L)) (Z7 _ L)
 refine Z2 (wpAny_holding (wpAny_call_entry slot_list_sort %[_,gL|rfl] entry_list_sort (jE (s:={c with heap:=c.heap.push (seqObj "list" vs.toArray 0)}) (kd:=tuples' true) (Nv:=λv=>gG (ps.map (·.2)) (kOf ps v)) gL ⋯ (λi I aj Q6 ab=>?_) (λi I=>?_) λout p1 p2=>%[_,rfl|?_]) (args_list_sort _)))
 .have tups:∀l:ZF,(∀v∈l,∃p∈ps,v=Value.ref p.1)->∃fs:ZF,KatTups i l fs/\fs.length=l.length/\∀f∈fs,∃z t,f=Value.str z t:=by
   intro l
   induction l with
   | nil=>intro _;exact%[[],KatTups.nil,rfl|λf r=>by cases r]
   | cons v l ih=>
     intro C;have%[fs,f1,f2|f3]:=ih λu hu=>C u (Zk _ hu)
     have%[p,d|rfl]:=C v Zm;have%[o',g,n',g',c',d'|i']:=G p d i I;have h:=gH i';have ac:p.2≠[]:=λe=>by have:=U p d;rw[e]at this;exact m0 this.symm
     obtain⟨z,zs,ez⟩:∃z zs,p.2=z::zs:=by
      cases ae:p.2 with
      | nil=>exact absurd ae ac
      | cons z zs=>exact%[z,zs|rfl]
     rw[ez]at h;obtain⟨t',vr,ev⟩:∃t' vr,g.toList=Value.str z t'::vr:=by
      cases M:g.toList with
      | nil=>rw[M]at h;cases h
      | cons a b=>
        rw[M]at h;cases h with
        | cons _ t' _=>exact%[t',b|rfl]
     have e0:g[0]? =some (Value.str z t'):=by
      have:g.toList[0]? =some (Value.str z t'):=by rw[ev];rfl
      simpa using this
     exact⟨Value.str z t'::fs,KatTups.cons g' c' d' e0 f1,by simp[f2],λf r=>by
      rcases mem_cons.mp r with e|e
      .exact%[z,t'|e]
      .exact f3 f e⟩
  have%[fs,f1,f2|f3]:=tups vs mem;refine PySem.W.kat_kind (T:= .type "str") f1 ⋯ (λf r=>?_) (by decide) ab;have%[z,t'|rfl]:=f3 f r;exact Looks.of_pure rfl
 .intro x y s' hx hy h;subst h;have%[p,d|ag]:=mem _ hx;have%[q,B|ai]:=mem _ hy;have%[x1|x2]:=x;have%[y1|y2]:=y;obtain rfl:x1=Value.ref p.1:=ag;obtain rfl:y1=Value.ref q.1:=ai;show ↥A.in1.in1 (keyLt' (tuples' true) (Value.ref p.1) (Value.ref q.1)) (λb s'=>b=decide (gG (ps.map (·.2)) (kOf ps (Value.ref p.1))<gG (ps.map (·.2)) (kOf ps (Value.ref q.1)))/\s'={c with heap:=i}) (λ_ _=>False) {c with heap:=i};rw[j p d,j q B];refine C9 (s:={c with heap:=i}) (G p d i I) (G q B i I) (by rw[U p d,U q B]) %[?_|rfl];exact kD (Xv %[p,d|rfl])
 .have O:out.Perm (ps.map λp=>Value.ref p.1):=p1.trans Y;have oe:out=(out.map λv=>(aOf v,kOf ps v)).map λp=>Value.ref p.1:=by
   rw[Yv];refine(map_id out).symm.trans (Yt λv C=>?_);have%[p,d|rfl]:=Xu (O.mem_iff.mp C);rfl
  obtain⟨n,gl⟩:∃n,(sortedHeap (c.heap.push (seqObj "list" vs.toArray 0)) ⇑c vs out.toArray).get? ⇑c=some (seqObj "list" out.toArray n):=sortedHeap_at gL;refine Z3 %[_,rfl|hQ c _ ⇑c (out.map λv=>(aOf v,kOf ps v)) n ?_ ?_ k1 g1 o1 (λb o' L=>?_) rfl rfl (Zi _) ?_]
  .have:=O.map λv=>(aOf v,kOf ps v)
   rw[Yv]at this;refine this.trans ?_;have:(ps.map ((λv=>(aOf v,kOf ps v)) ∘ λp=>Value.ref p.1))=ps:=by
    refine(Yt λp d=>?_).trans (map_id ps);show(p.1,kOf ps (.ref p.1))=p;rw[j p d]
   rw[this]
  .rw[Xd];refine Xl (λ{u v} hu C H=>?_) p2;have%[p,d|rfl]:=Xu (O.mem_iff.mp hu);have%[q,B|rfl]:=Xu (O.mem_iff.mp C);show dG (kOf ps (.ref q.1)) (kOf ps (.ref p.1))=false;have H:gG (ps.map (·.2)) (kOf ps (.ref p.1))<=gG (ps.map (·.2)) (kOf ps (.ref q.1)):=H;rw[j p d,j q B]at H ⊢;rw[kD (ks:=ps.map (·.2)) (Xv %[q,B|rfl])];exact Zh ⋯
  .have N:=Zv L;show(sortedHeap _ _ _ _).get? b=_;rw[sortedHeap_old (Zt N) (by rw[Zq];exact Yr N)];exact Z7 _ L
  .have e3:(seqObj "list" out.toArray n)=({cls:= .type "list",data:= .seq ((out.map λv=>(aOf v,kOf ps v)).map λp=>Value.ref p.1).toArray n}:Obj):=by
    rw[(congrArg List.toArray oe.symm)]
   exact gl.trans (congrArg some e3)
end
section
variable{X:Cx}{K:ZA}
abbrev n8(P:Program)(w:World)(a:Addr)(ps:ZG):HO:= .ext (nW w (aM P w) a (ps.map GY))
abbrev a9(H:Hp)(ps:ZG):Prop:=∀p∈ps,p.2≠[]/\H p.1=some (.tup (p.2.map V.str))
def sj(I:Inv X pins f H s)(h:a9 H ps):∀p∈ps,yK X.prog X.w s.heap p.2 p.1:=λp a=>by
 have%[_,its,b,o,c,d,n|e]:=I.hok p.1 _ (h p a).2;exact%[o,its.toArray,n,c,d,e|nZ (gQ b)]
def sk:∀{ps:ZG} {us:ZF},aE (ps.map λp=>V.ref p.1) us->us=ps.map λp=>Value.ref p.1
 |[],_,.nil=>rfl
 | _::_,_,.cons r t=>by
   cases r;rw[sk t];rfl
def sq:∀(ps:ZG),aE (ps.map λp=>V.ref p.1) (ps.map λp=>Value.ref p.1)
 |[]=> .nil
 | _::ps=> .cons rfl (sq ps)
def yL(j:X.calm=true)(C:X.A.units+64<cLine):cq X (.type "set") (λxs H Q=>∃p ps,xs=[.ref p]/\SqL X.K H p (ps.map λq=>V.ref q.1)/\a9 H ps/\(∃U:List _,U.length<=999/\∀q∈ps,q.2∈U)/\∀l,H l=none->Q (.ref l) (upd H l (n8 X.prog X.w l (ba ps)))):=by
 intro pins s E H xs us Q I r h;have%[p,ps,rfl,m,g,%[U,G|d]|q]:=h;have%[u,rfl|n]:=dg r;cases n;have%[its,t,pl|J]:=I.list m;have v:=sk t;refine pL (knd:=aM X.prog X.w) (I.ok.hd j) ⋯ pl.isList (ps:=ps.map GY) (by simp_all) (λi a=>?_) (U.map λz=>z.map Sum.inr) (by simp_all) (λi a=>?_) (λi a B s' L M e f=>?_) λh' w S k=>?_
 .have%[b,c|rfl]:=Xu a;exact(sj I g) b c
 .have%[b,c|rfl]:=Xu a;exact Xv %[b.2,d b c|rfl]
 .have%[b,c|rfl]:=Xu a;exact Da (g b c).1 e f
 .rw[(t8 _ si ps)]at S;refine%[.ref ⇑s,_,I.laid (o:=n8 X.prog X.w ⇑s _) k (Zi _) %[S,?_|λN O y k1=>nW.keep y k1],rfl|q _ I.fresh];have%[o,_,_,_,A|_]:=S;exact%[o|A]
def sr(v:X.calm=true):cq X (.builtin "sorted") (λxs H Q=>∃a ps m,xs=[.ref a]/\H a=some (n8 X.prog X.w a ps)/\a9 H ps/\(∀p∈ps,p.2.length=m)/\m≠0/\ps.length<=1000/\
 ∀l (ss:List _),H l=none->ss.Perm ps->ss.Pairwise (λa b=>dG b.2 a.2=false)->Q (.ref l) (upd H l (.lst (ss.map λp=>V.ref p.1)))):=by
 intro pins s O H xs us Q I r h;have%[a,ps,m,rfl,w,y,z,A,few|q]:=h;have%[u,rfl|B]:=dg r;cases B;have%[%[o,d,T,t,C,e,E,J|P],_|_]:=(I.hok a _ w)
 have U:d.size=ps.length:=by
  have:=P.length_eq
  simp_all
 have pv:(d.toList.map (·.2)).Perm (ps.map λp=>Value.ref p.1):=by
  have:=P.map (·.2);rw[Yv,Yv]at this;exact this
 refine n6 (λY R G=>ki (I.ok.hd v) C e E (by show d.size<4096;lia) J.fits J.plain J.led λi vs L k1 g1 f _=>G i vs (L.trans pv) k1 g1 f) (sj I y) z A few λi s' l ss n j M k1 g1 f k g o c N=>?_
 have I:=I.keptS k1 g1 f;refine%[.ref l,_,I.stoodS (o:= .lst _) (I.keptS k g o) c %[?_,ss.map _,n,sq ss|N],rfl|q l ss (I.hok.fresh c) j M];rw[Z6,j.length_eq,sizeLine_eq]
 lia
def A8{P:Program}(h:X.K=K)(c:X.prog=P)(hw:X.w=w)(a:X.calm=true)(b:bX k X.A):cE X (.type "set") (λxs H Q=>∃p ps,xs=[.ref p]/\SqL K H p (ps.map λq=>V.ref q.1)/\a9 H ps/\(∃U:List ZB,U.length<=999/\∀q∈ps,q.2∈U)/\∀l,H l=none->Q (.ref l) (upd H l (n8 P w l (ba ps)))):=by
 subst h;subst hw;exact⟨yL a b.units⟩
def qE{P:Program}(d:X.prog=P)(hw:X.w=w)(c:X.calm=true):cE X (.builtin "sorted") (λxs H Q=>∃a ps m,xs=[.ref a]/\H a=some (n8 P w a ps)/\a9 H ps/\(∀p∈ps,p.2.length=m)/\m≠0/\ps.length<=1000/\
 ∀(l:Addr) (ss:ZG),H l=none->ss.Perm ps->ss.Pairwise (λa b=>dG b.2 a.2=false)->Q (.ref l) (upd H l (.lst (ss.map λp=>V.ref p.1)))):=by
 subst hw;exact⟨sr c⟩
end
abbrev yM(K:ZA)(a b:Addr):It:=⟨λi H=>∃xs ys x y,SqL K H a xs/\SqL K H b ys/\xs[i]? =some x/\ys[i]? =some y,
 λi H v c=>∃T x y,H T=none/\v= .ref T/\c=upd H T (.tup [x,y])/\(∀xs,SqL K H a xs->xs[i]? =some x)/\(∀ys,SqL K H b ys->ys[i]? =some y),
 λi H=>∃xs ys,SqL K H a xs/\SqL K H b ys/\i<=xs.length/\i<=ys.length/\(i=xs.length\/i=ys.length)⟩
def yN{P:Program}{K:ZA}(z TI TO i1 i2 l1 l2:Addr)(D:ZipApart z TI TO i1 i2 l1 l2):
 nh P w K (.Tuple elts kt tp) (yM K l1 l2) [z,TI,TO,i1,i2] z (ZSt z TI TO i1 i2 (λi h=>h.IsListIter i1 l1 i) (λi h=>h.IsListIter i2 l2 i)) where
 mem:=by simp
 obj:=λi h st b hb=>by
  have%[hz,hTI,%[a,c|hTO],%[o1,e1,_|d1],o2,e2,_|d2]:=st
  grind
 keep:=λi h h' st k=>by
  have%[hz,hTI,%[a,c|hTO],%[o1,e1|r1],o2,e2|r2]:=st;exact%[k z ∅ _ hz,k TI ∅ _ hTI,%[a,c|k TO ∅ _ hTO],%[o1,k i1 ∅ _ e1|r1],o2,k i2 ∅ _ e2|r2]
 item:=by
  intro X hP hw hK hc i pins s σ H E I hf st hg;subst hP hw hK;have%[hz,hTI,%[a,c|hTO],h1|h2]:=st;have%[xs,ys,x,y,hq1,hq2,hx|hy]:=hg;have%[its1,rv1,pl1|hz1]:=I.list hq1;have%[its2,rv2,pl2|hz2]:=I.list hq2;have%[u1,hu1|ru1]:=rv1.get hx;have%[u2,hu2|ru2]:=rv2.get hy;refine wpAny_pyNext_zip_item D hz hTI hTO h1 h2 pl1.isList pl2.isList (x:=u1) (y:=u2) (by simpa using hu1) (by simpa using hu2) λh' a1 a2 a3 a4 a5 a6 hk=>%[_,rfl|wpAny_letOwnedTupleGo_zip (s:={s with heap:=h'}) a1 λh'' hz'' sb=>?_]
  replace sb:SameBut z h' h'':=sb;have turn1:Inv X pins σ H {s with heap:=h''}:=by
   have nit:∀b v,H b=some v->b∉[z,TI,TO,i1,i2]:=λb v e hb=>by rw[(hf b hb).1]at e;cases e
   have kk:∀b o,b∉[z,TI,TO,i1,i2]->s.heap.get? b=some o->h''.get? b=some o:=λb o hb e=>by
    simp only[Yz,Xb,or_false,not_or]at hb;exact(sb.2 b hb.1).trans (hk b o hb.1 hb.2.2.1 hb.2.2.2.1 hb.2.2.2.2 e)
   refine I.step (g':=s.gens) (d':=s.drawn) (ch:=[z,TI,TO,i1,i2]) (λb hb=>%[(hf b hb).2.2.2.1,(hf b hb).2.1,(hf b hb).2.2.2.2.1|(hf b hb).2.2.2.2.2]) (λb o _ _ hc e _=>kk b o hc e) (λb o _ _ hc e _=>%[o.slots|kk b o hc e]) (λ_ _ _ _ n=>n)
    (λb o hc e=>%[o|kk b o hc e]) (λ_ _ e=>e) (λ_ _ _ e=>e) (λb ps e=>%[#[]|by rw[e];simp]) (λm hm=>?_) (λb v e=>?_) I.bare
   .have%[o,es,ep,ho|r]:=hm;exact%[o,es,ep,kk _ o (λhb=>(hf _ hb).2.1 rfl) ho|r]
   .refine(I.hok b v e).stay (λc' v' hc' q=>kk c' v' ?_ q) (λ_ q=>q) λ_ _ q=>q
    rcases hc' with q'|q'
    .exact q'▸nit b v e
    .exact nit c' _ q'
  have Hn:H ⇑s=none:=I.fresh;have I2:Inv X pins σ (upd H ⇑s (.tup [x,y])) {s with heap:=h''}:=by
   have nf:⇑s∉X.fs:=I.nofs (Zi _);refine%[turn1.ok,turn1.os,turn1.bare,?_,turn1.loc,turn1.cell,?_,?_,?_,?_|turn1.len]
   .refine%[turn1.base.keep,turn1.base.slot,λb o e n hx=>?_,turn1.base.there,λb xs e=>?_,λb o v e=>?_|λb ps e=>?_]
    .rw[am ((λb o e=>Zt (Zg (Zv e) I.sz)) b o e)];exact turn1.base.free b o e n hx
    .rw[am (ay (turn1.base.tups b xs e) Hn)];exact turn1.base.tups b xs e
    .rw[am (ay (turn1.base.frzs b o v e) Hn)];exact turn1.base.frzs b o v e
    .have%[m|q]:=turn1.base.tbls b ps e;exact%[m|(am (ay q Hn))▸q]
   .rw[am (Zt I.lt)];exact turn1.free
   .intro x' c' e;have%[v'|q]:=I.cell x' c' e;rw[am (Zt q.lt)];exact turn1.freeC x' c' e
   .intro p hp;have%[e,n|r]:=turn1.pin p hp;refine%[e,?_|r];rw[am (Zt (Zv (I.pin p hp).1))];exact n
   .intro b v e;by_cases hb:b=⇑s
    .subst hb;rw[aa]at e;cases e;exact%[by show 2<=sizeLine;decide,[u1,u2],.cons ru1 (.cons ru2 .nil),_,((sb.2 _ (X6 (Zv hz))).trans a5),rfl,_|rfl]
    .rw[am hb]at e;refine(turn1.hok b v e).stay (λ_ _ _ q=>q) (λc' q=>?_) λc' xs q=>?_
     .rw[am (ay q Hn)];exact q
     .rw[am (ay q Hn)];exact q
  refine%[.ref ⇑s,_,I2,rfl,%[_,x,y,Hn,rfl,rfl,λzs hzs=>(I.list_inj hzs hq1)▸hx|λzs hzs=>(I.list_inj hzs hq2)▸hy],%[hz'',(sb.2 _ D.TIz).trans (hk _ _ D.TIz D.TITO D.TIi1 D.TIi2 hTI),%[_,_|(sb.2 _ D.TOz).trans a2],?_|?_]|λb hb=>?_]
  .have%[o,e|r]:=a3;exact%[o,(sb.2 _ D.i1z).trans e|r]
  .have%[o,e|r]:=a4;exact%[o,(sb.2 _ D.i2z).trans e|r]
  .have:b<⇑s:=by
    simp only[Yz,Xb,or_false]at hb;have%[o1,q1|_]:=h1;have%[o2,q2|_]:=h2;rcases hb with rfl|rfl|rfl|rfl|rfl
    .exact Zv hz
    .exact Zv hTI
    .exact Zv hTO
    .exact Zv q1
    .exact Zv q2
   rw[am (Zt this)];exact(hf b hb).1
 done:=by
  intro X hP hw hK hc i pins s σ H E I hf st hg;subst hP hw hK;have%[hz,hTI,%[a,c|hTO],h1|h2]:=st;have%[xs,ys,hq1,hq2,g1,g2|g3]:=hg;have%[its1,rv1,pl1|hz1]:=I.list hq1;have%[its2,rv2,pl2|hz2]:=I.list hq2;have n1:=rv1.length;have n2:=rv2.length;refine wpAny_pyNext_zip_end (I.ok.hd hc) D hz hTI hTO h1 h2 pl1.isList pl2.isList (by
   rcases g3 with q|q
   .exact .inl (by simp;lia)
   .exact .inr (by simp;lia)) λh' hk=>%[rfl|?_]
  have nit:∀b v,H b=some v->b∉[z,TI,TO,i1,i2]:=λb v e hb=>by rw[(hf b hb).1]at e;cases e
  have kk:∀b o,b∉[z,TI,TO,i1,i2]->s.heap.get? b=some o->h'.get? b=some o:=λb o hb e=>by
   simp only[Yz,Xb,or_false,not_or]at hb;exact hk b o hb.1 hb.2.2.1 hb.2.2.2.1 hb.2.2.2.2 e
  refine I.step (λb hb=>%[(hf b hb).2.2.2.1,(hf b hb).2.1,(hf b hb).2.2.2.2.1|(hf b hb).2.2.2.2.2]) (λb o _ _ hc e _=>kk b o hc e) (λb o _ _ hc e _=>%[o.slots|kk b o hc e]) (λ_ _ _ _ n=>n)
   (λb o hc e=>%[o|kk b o hc e]) (λ_ _ e=>e) (λ_ _ _ e=>e) (λb ps e=>%[#[]|by rw[e];simp]) (λm hm=>?_) (λb v e=>?_) I.bare
  .have%[o',es,ep,ho'|r]:=hm;exact%[o',es,ep,kk _ o' (λhb=>(hf _ hb).2.1 rfl) ho'|r]
  .refine(I.hok b v e).stay (λc' v' hc' q=>kk c' v' ?_ q) (λ_ q=>q) λ_ _ q=>q
   rcases hc' with q'|q'
   .exact q'▸nit b v e
   .exact nit c' _ q'
 self:=λ_ _ _ _ _ st h=>wpAny_pyIter_zip st.1 h
abbrev DZ(K:ZA)(d:TA):TI:=λe H R=>d e H λvs c=>∃a b,vs=[.ref a,.ref b]/\(∃xs,SqL K c a xs)/\(∃ys,SqL K c b ys)/\R (yM K a b) c
section
variable{X:Cx}{K:ZA}{pos:Pos}
def GZ(G:X.K=K){J p:Pos}{a b:Expr}{z:TA}(L:Gl X "zip")(M:X.mg "zip"=none)(N:be a=false)(m:be b=false)(O:QA X [a,b] z):
 QI X (.Tuple A kt J) (.Call (.Name "zip" p) [a,b] [] pos) (DZ K z):=by
 subst G
 constructor
 intro pins s Q H R I h;refine Call_ (jN I L M boot_zip (PyProof.Rows.callWith_type1 (thP (O.h pos pins s Q H _ I h) λus c vs T d U Y=>?_) (aD N) (by rw[aD m];rfl)));have%[n,r,e,%[xs|t],%[ys|u]|q]:=Y;subst e;have%[u1,u2,rfl,e1|e2]:=j7 U;cases e1;cases e2;have%[B,ab,f|ac]:=d.list t;have%[its2,ae,g|ag]:=d.list u;refine call_zip_2 f.isList g.isList λh1 C v w hi1 hi2 _ hk=>wpAny_pyIter_zip C ?_
 have ne:∀i j,i≠j->⇑c+i≠⇑c+j:=λi j h e=>h (Nat.add_left_cancel e)
 have na:∀i,n≠⇑c+i:=λi=>Zt (Zg (by have%[o,y|_]:=f.isList;exact Zv y) (le_add_right _ _))
 have nb:∀i,r≠⇑c+i:=λi=>Zt (Zg (by have%[o,y|_]:=g.isList;exact Zv y) (le_add_right _ _))
 refine%[⇑c+4,[⇑c+4,⇑c+2,⇑c+3,⇑c+0,⇑c+1],_,yM X.K n r,T,rfl,(d.kept hk),
  yN _ _ _ _ _ n r %[ne 2 4 (by decide),ne 3 4 (by decide),ne 0 4 (by decide),ne 1 4 (by decide),ne 2 3 (by decide),ne 2 0 (by decide),ne 2 1 (by decide),ne 3 0 (by decide),ne 3 1 (by decide),ne 0 1 (by decide),na 4,na 3,na 0,na 1,nb 4,nb 3,nb 0|nb 1],
  %[C,v,%[_,_|w],hi1|hi2],λb E=>?_|q]
 have l:⇑c<=b:=by
  simp only[Yz,Xb,or_false]at E;rcases E with rfl|rfl|rfl|rfl|rfl<;> exact le_add_right _ _
 exact d.fpOk l (d.hok.fresh l)
end
open PySem PySem.Spec PySem.Calls PyProof.Rows PyProof.V PySem.W
abbrev Raw(h:Heap)(d:Addr)(a:Array DictEntry)(b:Nat):Prop:=∃o,h.get? d=some o/\o.ExactDict/\o.data= .dict a b
section
#where
variable{d it:Addr}{es:Array DictEntry}{ep i:Nat}
def Raw.ty(h:Raw s.heap d es ep):s.TypeIs (.ref d) "dict":=%[h.choose,h.choose_spec.1|h.choose_spec.2.1.1]
def Raw.lt(r:Raw h d es ep):d<h.objs.size:=Zv r.choose_spec.1
def Raw.up(r:Raw h d es ep)(e:∀o,h.get? d=some o->h'.get? d=some o):Raw h' d es ep:=%[r.choose,e _ r.choose_spec.1|r.choose_spec.2]
def A9(lo:(d==sysModules)=false)(r:Raw s.heap d es ep)
 (h:Q (.ref ⇑s) {s with heap:=s.heap.push {cls:= .type "dict_keyiterator",data:= .fields #[.ref d,.int 0 0,.int es.size 0,.int ep 0]}}):↥A (pyIter (.ref d)) Q E s:=by
 have ty:=r.ty;have%[o,g,_|a]:=r;refine wpAny_pyIter_slot ty F.slot_dict_iter (wpAny_call_entry F.slot_dict_iter ty F.entry_dict_iter (Z2 (Z2 (wpAny_notOrdered_dict ty (Z3 ?_)))) (F.args_dict_iter_1 _));show wpAny _ _ (Builtin.Dict.showsAll d>>= _) _ _ s;unfold Builtin.Dict.showsAll;rw[if_neg (lo▸Zu)];refine Z2 (Z3 (Z2 (wpAny_dictEntries g a (Z2 (wpAny_dictEpoch g a (Z2 (wpAny_newObj_type (Z3 %[_,rfl,"dict_keyiterator",_,%[_,Zj _ rfl|rfl],F.slot_dict_keyiterator_next.lookup|?_]))))))));simpa [rawInt]using h
def Ba(k:s.heap.IsKeyIter it d i es.size ep)(r:Raw s.heap d es ep)(hi:i<es.size)
 (h:∀h',h'.IsKeyIter it d (i+1) es.size ep->SameBut it s.heap h'->Q (some es[i].key) {s with heap:=h'}):↥A (pyNext (.ref it)) Q E s:=by
 have%[o,b,f|a]:=id k;have%[g,c,_|e]:=r;unfold pyNext;refine Z2 (wpAny_attempt (wpAny_callSpecial?_slot (name:=Str.ofString "__next__") k.typeIs F.slot_dict_keyiterator_next (wpAny_call_entry F.slot_dict_keyiterator_next k.typeIs F.entry_dict_keyiterator_next ?_ (F.args_dict_keyiterator_next_1 _))));refine Z2 (Z3 (Z2 (Z2 (Z2 (wpAny_typeNameOfWhole_keyiter k.typeIs (Z3 (Z2 (wpAny_fieldsOf b a ?_))))))));rw[show Builtin.Dict_items.ownsTuple "dict_keyiterator"=false by decide];show wpAny _ _ (if(Value.ref d==Value.none)=true then _ else _) _ _ s;rw[if_neg (by exact Zu)];refine Z2 (Z3 (Z2 (wpAny_dictEntries c e ?_)));rw[if_neg ∅];refine Z2 (Z3 (Z2 (wpAny_dictEpoch c e ?_)));rw[if_neg ∅];refine Z3 ?_;simp only[if_false,Int.toNat_natCast,Array.getElem?_eq_getElem hi];refine Z2 (Z2 (wpAny_typeNameOfWhole_keyiter k.typeIs (Z3 (Z2 (wpAny_isOneOf_keyiter k.typeIs ?_)))));show wpAny _ _ (setField (.ref it) 1 (rawInt ((i:Int) +1))>>= _) _ _ s;refine Z2 (wpAny_setField b a ∅ ?_);have k2:(s.heap.update it (Obj.mapFields (·.setIfInBounds 1 (rawInt ((i:Int) +1))))).IsKeyIter it d (i+1) es.size ep:=
  %[_,get?_update_self _ b (Obj.isFreed_of_fields (Obj.data_mapFields a _)),(Obj.cls_mapFields ..).trans f|by rw[Obj.data_mapFields a];simp[rawInt]]
 exact Z2 (wpAny_holding (Z2 (wpAny_isOneOf_keyiter k2.typeIs (Z3 (Z3 %[_,rfl|Z3 (h _ k2 (SameBut.update ..))])))))
def Db(j:A.handled=none)(k:s.heap.IsKeyIter it d i es.size ep)(r:Raw s.heap d es ep)(hi:es.size<=i)
 (h:∀h',ExtBut it s.heap h'->Q none {s with heap:=h'}):↥A (pyNext (.ref it)) Q E s:=by
 have%[o,c,l|e]:=id k;have%[n,f,_|g]:=r;unfold pyNext;refine Z2 (wpAny_attempt (wpAny_callSpecial?_slot (name:=Str.ofString "__next__") k.typeIs F.slot_dict_keyiterator_next (wpAny_call_entry F.slot_dict_keyiterator_next k.typeIs F.entry_dict_keyiterator_next ?_ (F.args_dict_keyiterator_next_1 _))));refine Z2 (Z3 (Z2 (Z2 ?_)));refine Z2 (wpAny_typeNameOfWhole_keyiter k.typeIs (Z3 (Z2 (wpAny_fieldsOf c e ?_))));rw[show Builtin.Dict_items.ownsTuple "dict_keyiterator"=false by decide];show wpAny _ _ (if(Value.ref d==Value.none)=true then _ else _) _ _ s;rw[if_neg (by exact Zu)];refine Z2 (Z3 (Z2 (wpAny_dictEntries f g ?_)));rw[if_neg ∅];refine Z2 (Z3 (Z2 (wpAny_dictEpoch f g ?_)));rw[if_neg ∅];refine Z3 ?_;simp only[show ¬ ((i:Int)<0)from by lia,if_false,Int.toNat_natCast,Array.getElem?_eq_none hi];refine Z2 (Z2 (wpAny_typeNameOfWhole_keyiter k.typeIs (Z3 ?_)));show wpAny _ _ (setField (.ref it) 0 .none>>= _) _ _ s;refine Z2 (wpAny_setField c e ∅ (Z2 ?_));simp only[newExc,newTuple];refine Z2 (m:=firstArgMember _ _) (wpAny_of_eq (a:=Value.none) (by first|rfl|(simp only[firstArgMember];rfl)) (wpAny_newObj_type ?_ (by size_fits)));simp only[raiseNew];refine Z2 (wpAny_handled ?_);rw[show A.in1.handled=none from j];refine Z2 (Z3 (wpAny_throw ?_));refine Z2 (wpAny_isInstance (T:="StopIteration") (b:=true) %[_,Zj _ rfl|rfl] isSubtype_stop ?_);exact Z3 (h _ (((SameBut.update ..).extBut.push _).push _))
def Dc(lo:(d==sysModules)=false):KdlSrc prog w "dict" d d es.size (λi v=>∃h:i<es.size,v=es[i].key) (λh=>Raw h d es ep) where
 type:=λ_ r=>r.ty
 there:=λ_ r=>%[r.lt|r.lt]
 keep:=λ_ _ r hk=>r.up λo e=>hk d (.inl rfl) o e
 notList:=by decide
 notTuple:=by decide
 hint:=λ_ _ _ _ r hq=>kdl_hint_dict r.ty hq
 iter:=λA s hh r=>%[_,λi h=>h.IsKeyIter ⇑s d i es.size ep/\Raw h d es ep,(λ_ _ hq=>A9 lo r hq),{
  sub:=λb hb=>by simp_all
  frame:=λ_ _ _ st hk=>%[st.1.at λo e=>hk _ ∅ o e|st.2.up λo e=>hk d ∅ o e]
  item:=λi s' Q E hi st hQ=>Ba st.1 st.2 hi λh' k' hs'=>hQ _ h' s'.toks %[hi|rfl] %[k'|st.2.up λo e=>hs'.extBut d o (Zt r.lt) e] λb o hb e=>hs'.extBut b o (λh=>hb (by simp[h])) e
  done:=λs' Q E st hQ=>Db hh st.1 st.2 (Zi _) λh' he'=>hQ h' s'.toks λb o hb e=>he' b o (λh=>hb (by simp[h])) e
  self:=λ_ _ _ _ st hQ=>wpAny_pyIter_keyiter st.1 hQ},%[_,Zj _ rfl,rfl|rfl]|r.up λo e=>Z7 _ e]
def t9{P:Nat->Value->Prop}{R:ZF->Shared->Prop}(K:KdlSrc prog w T r d n P j)(l:A.handled=none)(ok:j s.heap)(m:n<=sizeLine)
 (h:∀(h':Heap) (tk:Nat) (acc:ZJ),(∀b o,s.heap.get? b=some o->h'.get? b=some o)->⇑s<=h'.objs.size->ItemsOf P acc n->R acc.toList {s with heap:=h',toks:=tk}):↥A (collect (.ref r)) R E s:=by
 have lt:=K.there _ ok;refine Z2 (wpAny_runValue (codeAny_builtin entry_proto_collect' (Z2 (wpAny_newObj_type (Z3 %[plainId_quiet F.plain_list_iadd _|codeAny_builtin entry_list_iadd' ?_])))));rw[Around.under_plainId F.plain_list_iadd _];have a:=kdl_extend (s:={s with heap:=s.heap.push _})
  (R:=λq s'=>∃h' tk acc c,q= .ok (.ret (.ref ⇑s))/\s'={s with heap:=h',toks:=tk}/\(∀b o,s.heap.get? b=some o->h'.get? b=some o)/\h'.get? ⇑s=some {cls:= .type _,dict:=none,data:= .seq acc c,slots:= #[]}/\ItemsOf P acc n)
  K l (K.keep _ _ ok λb _ o e=>Z7 _ e) ⇑s (X6 lt.1) (X6 lt.2) _ 0 (Zj _ rfl)
  (λh' tk acc c g g' it=>%[h',tk,acc,c,rfl,rfl,λb o e=>g b o (Zt (Zv e)) (Z7 _ e),g'|it]) m
 refine wpAny_mono a (λfin s' x=>?_) λe s' x=>?_
 .cases fin with
  | done f=>
    have%[h',tk,acc,c,e,rfl,g,g'|it]:=x;cases e;exact Z2 (wpAny_load g' (Z3 (h h' tk acc g (Yi (Zv g')) it)))
  | again p=>
    refine%[x.1|codeAny_mono x.2 λq t y=>?_];have%[h',tk,acc,c,rfl,rfl,g,g'|it]:=y;exact Z2 (wpAny_load g' (Z3 (h h' tk acc g (Yi (Zv g')) it)))
 simp_all
def ua{R:ZF->Shared->Prop}(lo:(d==sysModules)=false)(f:A.handled=none)(r:Raw s.heap d es ep)(g:es.size<=sizeLine)
 (h:∀(h':Heap) (tk:Nat),(∀b o,s.heap.get? b=some o->h'.get? b=some o)->⇑s<=h'.objs.size->R (es.toList.map (·.key)) {s with heap:=h',toks:=tk}):↥A (collect (.ref d)) R E s:=by
 refine t9 (Dc lo) f r g λh' tk acc l c a=>?_
 have e:acc.toList=es.toList.map (·.key):=by
  apply ext_getElem?;intro j;rw[Zl,Yf,Yf];by_cases m:j<es.size
  .have n:j<acc.size:=a.1▸m;have%[_|q]:=a.2 j acc[j] ∅
   simp_all
  .rw[Array.getElem?_eq_none (by rw[a.1];lia),Array.getElem?_eq_none ⋯];rfl
 rw[e];exact h h' tk l c
end
section
#where
variable{S:Addr}
end
section
variable{X:Cx}{K:ZA}
end
section
variable{X:Cx}
def fJ(c:bX k X.A)(d:swapsWith a (some (.Subscript o i b)) pos.line X.env=pure false)(e:QE X a f)(g:QE X o h)(hi:QE X i ty):QS X (.Assign [.Subscript o i b] a pos) (l7 h ty f):=
 ⟨CI (by have:=c.units;lia) g.h hi.h e.h d⟩
def yO [DecidableEq c](a:List (c×V))(k:c)(v:V):(cP a k v).map (·.1)=if k∈a.map (·.1)then a.map (·.1)else a.map (·.1) ++[k]:=by
 unfold cP;have e:(a.any λb=>decide (b.1=k))=true↔k∈a.map (·.1):=by
  grind
 by_cases h:k∈a.map (·.1)
 .rw[if_pos (e.mpr h),if_pos h,Yv];refine Yt λb _=>?_
  show(if b.1=k then(b.1,v)else b).1=b.1
  split<;> rfl
 .rw[if_neg (λz=>h (e.mp z)),if_neg h,Zd];rfl
end
structure ub (K:ZA) (mg:ZC) (x:Str):Prop where
 at_:mg x=some (.ref (cD mg x))
 cls:Cls K (cD mg x)
structure uc (K:ZA) (mg:ZC) (x m qual:Str) (st:Stmt) (ps:ZB):Prop where
 ex:∃f fd,Cp K (cD mg x) m f/\Fun K m qual st f fd/\fD K fd ps []
structure Bb (K:ZA) (mg:ZC) (x qual:Str) (st:Stmt) (ps:ZB):Prop where
 ex:∃f fd,Mk K (cD mg x) f/\Fun K "__init__" qual st f fd/\fD K fd ps []
structure yP (P:Program) (w:World) (K:ZA) (mg:ZC) (base:Heap) (k:Nat) (x m:Str) (ps:ZB) (sp:Sp):Prop where
 ex:∃f fd,eE P w K mg base CX0 k f fd ps sp/\Cp K (cD mg x) m f/\fD K fd ps []
structure Dd (P:Program) (w:World) (K:ZA) (mg:ZC) (base:Heap) (k:Nat) (x:Str) (ps:ZB) (sp:Sp):Prop where
 ex:∃f fd,eE P w K mg base CX0 k f fd ps sp/\Mk K (cD mg x) f/\fD K fd ps []
section
variable{P:Program}{w:World}{K:ZA}{mg:ZC}{base:Heap}{x m qual:Str}{st:Stmt}{N ps:ZB}{k:Nat}{sp:Sp}
def uc.cal(D:uc K mg x m qual st ps)(S:aw N ps (ao st))
 (a:∀(H:Hp) (vs:List V) (Q:VK) (E:XK),sp vs H Q E->vs.length=ps.length/\∀(f:Addr) (b:Value) (A:Around) (outer:List Env) (s:Shared),bX k (A.deeper (envOfC qual (ao st) ⇑s f b))->
  ∃t,PSs (rB CX0 P w K mg base N qual (ao st) f b A outer s H E).nox (bZ st) t/\t {nx:=λ_ c=>Q .non c,rt:=Q} (start N vs) H):yP P w K mg base (k+1) x m ps sp:=by
 have%[f,d,e,F|g]:=D.ex;exact%[f,d,F.ok S (λv H Q E h=>(a H v Q E h).1) (λb A o s H v Q E r h=>(a H v Q E h).2 f b A o s r),e|g]
def Bb.cal(D:Bb K mg x qual st ps)(S:aw N ps (ao st))
 (a:∀(H:Hp) (vs:List V) (Q:VK) (E:XK),sp vs H Q E->vs.length=ps.length/\∀(f:Addr) (b:Value) (A:Around) (outer:List Env) (s:Shared),bX k (A.deeper (envOfC qual (ao st) ⇑s f b))->
  ∃t,PSs (rB CX0 P w K mg base N qual (ao st) f b A outer s H E).nox (bZ st) t/\t {nx:=λ_ c=>Q .non c,rt:=Q} (start N vs) H):Dd P w K mg base (k+1) x ps sp:=by
 have%[f,d,e,F|g]:=D.ex;exact%[f,d,F.ok S (λv H Q E h=>(a H v Q E h).1) (λb A o s H v Q E r h=>(a H v Q E h).2 f b A o s r),e|g]
end
section
variable{X:Cx}{K:ZA}{j k:Nat}{x m:Str}{ps:ZB}{sp:Sp}{p pos apos:Pos}{o e:Expr}{es:List Expr}{to te:TE}{t:TA}
def FD(C:yP X.prog X.w X.K X.mg X.base j x m ps sp)(c:ub X.K X.mg x)(d:bX k X.A)(a:Nat.ble j k=true)
 (g:eval (.Call (.Attribute o m apos) [] [] pos) X.env=(do
  let b<-eval o X.env
  standAt apos.atName
  let(f,first)<-holding [b] (getMethod b m pl)
  callWith pos f first (backTo pos (starEach [] X.env)) (backToKw pos (keywordEach [] X.env)))) (h:QE X o to):QE X (.Call (.Attribute o m apos) [] [] pos) (wI (cD X.mg x) m sp [] E0 to x5):=by
 have%[f,n,F,i|l]:=C.ex;exact⟨Ad h.h c.cls i F (d.mono (Nat.le_of_ble_eq_true a)) l .nil At g⟩
def G0(C:Dd X.prog X.w X.K X.mg X.base j x ps sp)(c:ub X.K X.mg x)(g:bX k X.A)(h:Gl X x)(a:Nat.ble (j+1) k=true)(b:(x==("__debug__"))=false)(d:(e::es).any be=false)(i:QA X (e::es) t):
 QE X (.Call (.Name x p) (e::es) [] pos) (wJ (cD X.mg x) sp [] E0 t):=by
 have%[f,q,F,l|n]:=C.ex;rw[Zy,Xc]at d;exact⟨Ct l F (g.mono (Nat.le_of_ble_eq_true a)) h c.at_ n .nil At i.h b (aD d.1) (gR d.2)⟩
def FE(h:X.K=K)(a:gU o=false)(b:QE X o to):QE X (.Attribute o f pos) (EH K to f):=by
 subst h;exact⟨EJ b.h (fG a)⟩
def De(h:X.K=K)(c:gT a=false)(d:QE X o to)(g:QE X a i):QS X (.Assign [.Attribute o f b] a pos) (EI K to i f):=by
 subst h;exact⟨EK d.h g.h (kf c)⟩
end
structure GvT (K:ZA) (mg:ZC) (x:Str) (xs:List V):Prop where
 ex:∃a,mg x=some (.ref a)/\∀H,SqT K H a xs
def Bc{K:ZA}{h:Heap}{o:Obj}{its:ZJ}{n:Nat}(X:K.In h)(G:h.Ns mainGlobals mg)(z:nsIn K mainGlobals x=some (some (.ref a)))
 (b:K.lookup a=some o) (c:o.cls= .type "tuple") (d:o.data= .seq its n) (e:its.size<=sizeLine) (r:aE xs its.toList):GvT K mg x xs:=
 %[a,mg_of X G z|λ_=> .inr %[o,its,n,b,c,d,e|r]]
def G1{X:Cx}{K:ZA}{x:Str}(h:X.K=K)(g:GvT K X.mg x xs)(b:Gl X x)(c:(x==("__debug__":Str))=false):QE X (.Name x pos) (λ_ H Q=>∀a,(∀d,SqT K d a xs)->Q (.ref a) H):=by
 have%[a,e|f]:=g.ex;refine⟨λpins s i H Q I q=>DO (v:= .ref a) %[.ref a,e|rfl] b c pins s i H Q I (q a f)⟩
def tryN{X:Cx}(c:∀e s,X.xe e s->False)(d:QSs X a g):QS X (.Try a [h] [] [] pos) g:=by
 refine⟨λpins s i H D I q=>wpAny_Try_except (wpAny_mono (d.h pins s i H D I q) (λf b q=>?_) λe b q=>(c e b q).elim)⟩;cases f with
 | next=>exact wpAny_execs_nil q
 | brk=>exact q
 | cont=>exact q
 | ret u=>exact q
section
variable{X:Cx}{K:ZA}
end
def n9(x y:Str):dG [x] [y]=aO x y:=by
 show(if x=y then false else aO x y)=aO x y
 split
 .rename_i e;rw[e,dZ]
 .rfl
section
#where
variable{S:Addr}
def iV{ks:ZB}{Q:ZD}(h:∀(O:ZD) (R:ZF->Shared->Prop),(∀c us f,StrsAre us f->f.Perm ks->(∀b o,s.heap.get? b=some o->c.heap.get? b=some o)->c.gens=s.gens->c.os=s.os->R us c)->↥A.in1 (collect (.ref S)) R O s)(few:ks.length<=1000)
 (T:∀(c s':Shared) (l:Addr) (vs:ZF) (ss:ZB) (n:Nat),StrsAre vs ss->ss.Perm ks->ss.Pairwise (λa b=>aO b a=false)->(∀b o,s.heap.get? b=some o->c.heap.get? b=some o)->c.gens=s.gens->c.os=s.os->(∀b o,c.heap.get? b=some o->s'.heap.get? b=some o)->s'.gens=c.gens->s'.os=c.os->⇑c<=l->s'.heap.get? l=some {cls:= .type "list",data:= .seq vs.toArray n}->Q (.ref l) s'):
 ↥A (call (.builtin "sorted") [.ref S]) Q E s:=by
 refine Calls.call_function_entry kind_sorted plain_sorted entry_sorted (args_sorted1 _) ?_;unfold Builtin.«sorted»;refine Z2 (m:=checkCount "sorted" 1 1 _) (Z3 ?_);refine Z2 (h _ _ λc us f d p k1 g1 U=>?_);have few:us.length<=1000:=by rw[bo d,p.length_eq];exact few
 refine Z2 (wpAny_newList ?_ (by rw[sizeLine_eq];omega));have C:(c.heap.push (seqObj "list" us.toArray 0)).get? ⇑c=some (seqObj "list" us.toArray 0):=Zj _ rfl;have e:∀v∈us,∃x t,v=Value.str x t/\[x]∈ks.map λz=>[z]:=λv g=>by
  have%[x,t|rfl]:=d.all v g;refine%[x,t,rfl|Xv %[x,p.mem_iff.mp ?_|rfl]];rw[<-d.strs];exact Xv %[_,g|rfl]
 refine Z2 (wpAny_holding (wpAny_call_entry slot_list_sort %[_,C|rfl] entry_list_sort (jE (s:={c with heap:=c.heap.push (seqObj "list" us.toArray 0)}) (kd:=oneType') (Nv:=λv=>gG (ks.map λz=>[z]) [strOf v]) C (by omega) (λG Y H Q6 I=>?_) (λG Y=>?_) λout q p2=>%[_,rfl|?_]) (args_list_sort _)))
 .obtain⟨v1,B,r,rfl⟩:∃v1 B r,us=v1::B::r:=by
   match us,H with
   | v1::B::r,_=>exact%[v1,B,r|rfl]
  rw[keyKind_strs d];exact Z3 I
 .intro x y s' hx hy J;subst J;have%[x1|x2]:=x;have%[y1|y2]:=y;have%[a,t,rfl|L]:=e _ hx;have%[b,u,rfl|M]:=e _ hy;show ↥A.in1.in1 (keyLt' oneType' (.str a t) (.str b u)) (λr s'=>r=decide (gG (ks.map λz=>[z]) [a]<gG (ks.map λz=>[z]) [b])/\s'={c with heap:=G}) (λ_ _=>False) {c with heap:=G};rw[keyLt'_oneType];refine oneLt_str %[?_|rfl];rw[<-kD L,n9];rfl
 .obtain⟨n,gl⟩:∃n,(sortedHeap (c.heap.push (seqObj "list" us.toArray 0)) ⇑c us out.toArray).get? ⇑c=some (seqObj "list" out.toArray n):=sortedHeap_at C;refine Z3 %[_,rfl|T c _ ⇑c out (out.map strOf) n (strsAre_map out (λv g=>d.all v (q.mem_iff.mp g))) ?_ ?_ k1 g1 U (λb o' N=>?_) rfl rfl (Zi _) gl]
  .rw[<-d.strs]at p;exact(q.map _).trans p
  .rw[Xd];refine Xl (λ{u v} hu g i=>?_) p2;have%[a,t,rfl|L]:=e _ (q.mem_iff.mp hu);have%[b,t',rfl|M]:=e _ (q.mem_iff.mp g);show aO b a=false;rw[<-n9,kD M];have i:gG (ks.map λz=>[z]) [a]<=gG (ks.map λz=>[z]) [b]:=i;exact Zh (by omega)
  .have j:=Zv N;show(sortedHeap _ _ _ _).get? b=_;rw[sortedHeap_old (Zt j) (by rw[Zq];exact Yr j)];exact Z7 _ N
end
def kE:∀{ks:ZB} {us:ZF},aE (ks.map V.str) us->StrsAre us ks
 |[],_,.nil=> .nil
 | _::_,_,.cons r t=>by
   have%[t'|rfl]:=r;exact .cons _ _ (kE t)
def eF:∀{ks:ZB} {us:ZF},StrsAre us ks->aE (ks.map V.str) us
 | _,_,.nil=> .nil
 | _,_,.cons _ t h=> .cons %[t|rfl] (eF h)
section
variable{X:Cx}{K:ZA}
def jo(h:X.K=K):cE X (.builtin "sorted") (λxs H Q=>∃a ks,xs=[.ref a]/\SqL K H a (ks.map V.str)/\ks.length<=1000/\∀l (ss:ZB),H l=none->ss.Perm ks->ss.Pairwise (λa b=>aO b a=false)->Q (.ref l) (upd H l (.lst (ss.map V.str)))):=by
 subst h;refine⟨λpins s B H xs us Q I r h=>?_⟩;have%[a,ks,rfl,j,few|q]:=h;have%[u,rfl|m]:=dg r;cases m;have%[its,f,%[o,n,p,t,C|d]|E]:=I.list j;have G:its.length=ks.length:=by rw[<-f.length,Z6]
 refine iV (λJ R v=>wpAny_collect_seq a (.inl rfl) p t d (λh' k=>?_) (by simp_all)) (by omega) λL s' l vs ss n w i y k1 g1 z k g o c A=>?_
 .exact v _ _ _ (kE f) (.refl _) k rfl rfl
 .have e:=I.keptS k1 g1 z;refine%[.ref l,_,e.stoodS (o:= .lst _) (e.keptS k g o) c %[?_,vs,n,eF w|A],rfl|q l ss (e.hok.fresh c) i y];rw[Z6,i.length_eq,sizeLine_eq];omega
def oa{P:Program}{w:World}:∀{a:List DictEntry} {vs:List (Key×Value)} {ks:ZB},Pairs (aM P w) a vs->vs.map (·.1)=ks.map Sum.inr->StrsAre (a.map (·.key)) ks
 | _,_,[],h,e=>by
   cases h with
   | nil=>exact .nil
   | cons _ _ _=>cases e
 | _,_,k::ks,h,e=>by
   cases h with
   | nil=>cases e
   | @cons m n b c d o f=>
     rw[Yu,Yu]at e;injection e with g j
     rcases aW (d)with⟨i,t,q,_⟩|⟨x,t,q,l⟩
     .simp_all
     .rw[g]at q;cases q;rw[Yu,l];exact .cons _ _ (oa f j)
def yQ(m:X.calm=true):cE X (.builtin "sorted") (λxs H Q=>∃(a:Addr) (c:List (Key×V)) (ks:ZB),xs=[.ref a]/\H a=some (.dK c)/\c.map (·.1)=ks.map Sum.inr/\ks.length<=1000/\
 ∀l (ss:ZB),H l=none->ss.Perm ks->ss.Pairwise (λa b=>aO b a=false)->Q (.ref l) (upd H l (.lst (ss.map V.str)))):=by
 refine⟨λpins s J H xs us Q I r h=>?_⟩;have%[a,c,ks,rfl,p,e,few|q]:=h;have%[u,rfl|t]:=dg r;cases t;have%[_,lo,vs,v,o,L,M,g,ex,w,_,y|_]:=kb I.hok p;have i:=oa y (e▸v.keys.symm);have N:=by
  have:=bo i;rw[Z6,Zb]at this;omega
 refine iV (λO R z=>ua lo (I.ok.hd m) %[o,g,ex|w] (by rw[sizeLine_eq];omega) λh' tk k A=>z _ _ _ i (.refl _) k rfl rfl) (by omega) λT s' l vs ss n B j C k1 g1 E k g o d G=>?_
 have f:=I.keptS k1 g1 E;refine%[.ref l,_,f.stoodS (o:= .lst _) (f.keptS k g o) d %[?_,vs,n,eF B|G],rfl|q l ss (f.hok.fresh d) j C];rw[Z6,j.length_eq,sizeLine_eq];omega
def wb{w:World}(h:X.w=w)(m:X.calm=true):cE X (.builtin "sorted") (λxs H Q=>∃a ks,xs=[.ref a]/\H a=some (jT w a ks)/\ks.length<=1000/\∀l (ss:ZB),H l=none->ss.Perm ks->ss.Pairwise (λa b=>aO b a=false)->Q (.ref l) (upd H l (.lst (ss.map V.str)))):=by
 subst h;refine⟨λpins s B H xs us Q I r h=>?_⟩;have%[a,ks,rfl,p,few|q]:=h;have%[u,rfl|t]:=dg r;cases t;have%[S,_|_]:=(I.hok a _ p)
 refine iV (λC R v=>mf (I.ok.hd m) S λj vs ss e d k1 g1 f y=>v j vs ss e d k1 g1 f) few λj s' l vs ss n e d z k1 g1 f k g o c A=>?_
 have i:=I.keptS k1 g1 f;refine%[.ref l,_,i.stoodS (o:= .lst _) (i.keptS k g o) c %[?_,vs,n,eF e|A],rfl|q l ss (i.hok.fresh c) d z];rw[Z6,d.length_eq,sizeLine_eq];omega
def yR(h:X.K=K):cE X (.builtin "sorted") (λxs H Q=>∃(a:Addr) (ps:ZG) (m:Nat),xs=[.ref a]/\SqL K H a (ps.map λp=>V.ref p.1)/\a9 H ps/\(∀p∈ps,p.2.length=m)/\m≠0/\ps.length<=1000/\
 ∀(l:Addr) (ss:ZG),H l=none->ss.Perm ps->ss.Pairwise (λa b=>dG b.2 a.2=false)->Q (.ref l) (upd H l (.lst (ss.map λp=>V.ref p.1)))):=by
 subst h;refine⟨λpins s J H xs us Q I r h=>?_⟩;have%[a,ps,m,rfl,i,j,t,v,few|q]:=h;have%[u,rfl|w]:=dg r;cases w;have%[its,y,%[o,n,z,A,L|d]|M]:=I.list i;have:=sk y;subst this;refine n6 (λN R B=>wpAny_collect_seq a (.inl rfl) z A d (λh' k=>?_) (by simp_all)) (sj I j) t v few λO s' l ss n f C k1 g1 E k g o c G=>?_
 .exact B _ _ (List.Perm.refl _) k rfl rfl
 .have e:=I.keptS k1 g1 E;refine%[.ref l,_,e.stoodS (o:= .lst _) (e.keptS k g o) c %[?_,ss.map _,n,sq ss|G],rfl|q l ss (e.hok.fresh c) f C];rw[Z6,f.length_eq,sizeLine_eq];omega
def G3{k:Nat}{i o:Expr}{ty a:TE}{pos:Pos}(b:bX k X.A)(c:behindInMarks .In o=false)(hi:QE X i ty)(d:QE X o a):QT X (.Compare i [.In] [o] pos) (tB (E7 ty a)):=
 ⟨zG (E8 (by have:=b.units;omega) hi.h d.h) c⟩
end
def dN{X:Cx}{K:ZA}{a b:Expr}{c d:TE}{pos:Pos}(h:X.K=K)(e:j9 b)(f:QE X a c)(g:QE X b d):QE X (.Subscript a b pos) (tOp (Cz K) c d):=by subst h;exact⟨wL Aj f.h g.h e⟩
def wc(h:(env.blockKind== .function&&env.kindOf x==some .local&&b.line==pos.line&&!(a.names.any λ(n,k)=>n==x&&(k== .local||k== .cell)))=false):
 swapsWith (.ListComp c gens a pos) (some (.Name x b)) l env=pure false:=by
 show(pure (env.blockKind== .function&&env.kindOf x==some _&&b.line==pos.line&&!(a.names.any _)))=pure false;rw[h]
def Bd{X:Cx}(i:Nat)(e:X.N.Nodup)(hi:X.N[i]? =some x)(f:Loc X.env.scope x)(g:X.fn x=true\/X.env.scope.names.lookup x=some .local)
 (b:(X.env.blockKind== .function&&X.env.kindOf x==some .local&&h.line==pos.line&&!(a.names.any λ(n,k)=>n==x&&(k== .local||k== .cell)))=false) (j:QE X (.ListComp c gens a pos) l):
 QS X (.Assign [.Name x h] (.ListComp c gens a pos) d) (pD l (jB i)):=⟨zP e hi f j.h (wc b) g⟩
section
#where
end
section
variable(h:Heap)(l1 l2:Addr)
end
section
#where
end
section
variable{X:Cx}{K:ZA}{pos:Pos}
end
section
variable{X:Cx}{pos:Pos}
def iW(b:PassesOwn (model X.prog X.w) X.A X.env X.xe)(d:QT X c e)(f:QSs X a g):QS X (.While c a [] pos) (zQ e g):=⟨zR b d.h f.h⟩
def dj(a:bX k X.A)(b:E6 i)(c:QE X o d)(hi:QE X i ty):QE X (.Subscript o i pos) (Ao d ty):=⟨CH (by have:=a.units;lia) c.h hi.h b⟩
end
section
#where
def Df{P:Nat->Value->Prop}(val:Nat->Str)(a:∀i v,P i v->∃t,v= .str (val i) t):CmpOf prog w A .Gt P (λi j=>decide ((val j).cps.toList<(val i).cps.toList)):=λi j b c s Q E hi d h=>by
 have%[t|rfl]:=a i b hi;have%[u|rfl]:=a j c d;exact richCompare_gives (typeIs_str s _ t) (typeIs_str s _ u) PySem.F.slot_str_gt PySem.F.entry_str_gt (PySem.F.args_str_gt_2 _ _) (gives_str_gt _ _ t u) (λx=>nomatch x) h
def w4{P:Nat->Value->Prop}(val:Nat->Str)(a:∀i v,P i v->∃t,v= .str (val i) t):CmpOf prog w A .Lt P (λi j=>decide ((val i).cps.toList<(val j).cps.toList)):=λi j b c s Q E hi d h=>by
 have%[t|rfl]:=a i b hi;have%[u|rfl]:=a j c d;exact richCompare_gives (typeIs_str s _ t) (typeIs_str s _ u) PySem.F.slot_str_lt PySem.F.entry_str_lt (PySem.F.args_str_lt_2 _ _) (gives_str_lt _ _ t u) (λx=>nomatch x) h
def Be{i:Nat}{v:Value}(h:(#[Value.str x t,Value.str y u]:ZJ)[i]? =some v):∃t,v= .str (if i=0 then x else y) t:=by
 match i,h with
 | 0,h=>exact%[t|by simpa using h.symm]
 | 1,h=>exact%[u|by simpa using h.symm]
 | i+2,h=>simp at h
def ue(a:Nat->Nat->Bool):argBest a 1=if a 1 0=true then 1 else 0:=by simp[argBest]
def sw{x y:Str}(l:A.handled=none)
 (h:∀h' tk,(∀c o,s.heap.get? c=some o->h'.get? c=some o)->Q (if x.cps.toList<y.cps.toList then .str y u else .str x t) {s with heap:=h',toks:=tk}):
 ↥A (call (.builtin "max") [.str x t,.str y u]) Q E s:=by
 have j:(s.heap.push {cls:= .type _,data:= .seq #[.str x t,.str y u]}).IsTuple ⇑s _:=%[_,Zj _ rfl,rfl,0|rfl]
 refine call_max_two (wpAny_pyIter_tuple j ?_);have b:(s.heap.push {cls:= .type "tuple",data:= .seq #[.str x t,.str y u]}).objs.size=⇑s+1:=Zq ..;refine%[_,[_,⇑s],[_],_,_,_,_,rfl,Walks.tuple (A:=A.in1) l _ ⇑s (b▸Zt (Ys _)) _,
  %[%[_,Zj _ rfl,rfl|rfl]|j.push _],λc d=>?_,by simp,Df _ (λ_ _=>Be)|λv h' tk m n=>?_]
 .rw[Zq,b];rcases mem_cons.mp d with rfl|d
  .simp
  .rcases mem_cons.mp d with rfl|d
   .exact Yr (Ys _)
   .cases d
 .have f:=λc o e=>by
   refine n c o (λi=>?_) (Z7 _ (Z7 _ e));rcases mem_cons.mp i with p|i
   .have:=Zv e;rw[p,b]at this;exact Xo _ (Nat.lt_of_succ_lt this)
   .cases i
  have q:=h h' tk f;have a:(#[Value.str x t,Value.str y u])[argBest _ 1]? =some v:=m;rw[ue]at a;by_cases g:x.cps.toList<y.cps.toList
  .rw[if_pos (by simp[g])]at a;rw[if_pos g]at q;exact(show Value.str y u=v by simpa using a)▸q
  .rw[if_neg (by simp[g])]at a;rw[if_neg g]at q;exact(show Value.str x t=v by simpa using a)▸q
def sA{x y:Str}(l:A.handled=none)
 (h:∀h' tk,(∀c o,s.heap.get? c=some o->h'.get? c=some o)->Q (if y.cps.toList<x.cps.toList then .str y u else .str x t) {s with heap:=h',toks:=tk}):
 ↥A (call (.builtin "min") [.str x t,.str y u]) Q E s:=by
 have j:(s.heap.push {cls:= .type _,data:= .seq #[.str x t,.str y u]}).IsTuple ⇑s _:=%[_,Zj _ rfl,rfl,0|rfl]
 refine call_min_two (wpAny_pyIter_tuple j ?_);have b:(s.heap.push {cls:= .type "tuple",data:= .seq #[.str x t,.str y u]}).objs.size=⇑s+1:=Zq ..;refine%[_,[_,⇑s],[_],_,_,_,_,rfl,Walks.tuple (A:=A.in1) l _ ⇑s (b▸Zt (Ys _)) _,
  %[%[_,Zj _ rfl,rfl|rfl]|j.push _],λc d=>?_,by simp,w4 _ (λ_ _=>Be)|λv h' tk m n=>?_]
 .rw[Zq,b];rcases mem_cons.mp d with rfl|d
  .simp
  .rcases mem_cons.mp d with rfl|d
   .exact Yr (Ys _)
   .cases d
 .have f:=λc o e=>by
   refine n c o (λi=>?_) (Z7 _ (Z7 _ e));rcases mem_cons.mp i with p|i
   .have:=Zv e;rw[p,b]at this;exact Xo _ (Nat.lt_of_succ_lt this)
   .cases i
  have q:=h h' tk f;have a:(#[Value.str x t,Value.str y u])[argBest _ 1]? =some v:=m;rw[ue]at a;by_cases g:y.cps.toList<x.cps.toList
  .rw[if_pos (by simp[g])]at a;rw[if_pos g]at q;exact(show Value.str y u=v by simpa using a)▸q
  .rw[if_neg (by simp[g])]at a;rw[if_neg g]at q;exact(show Value.str x t=v by simpa using a)▸q
def pM{l:Addr}{its:ZJ}{val:Nat->Str}{Q:ZD}(n:A.handled=none)(f:s.heap.IsList l its)(g:0<its.size)(a:∀(i:Nat) v,its[i]? =some v->∃t,v= .str (val i) t)
 (h:∀v h' tk,its[argBest (λi j=>decide ((val i).cps.toList<(val j).cps.toList)) (its.size-1)]? =some v->(∀b o,s.heap.get? b=some o->h'.get? b=some o)->Q v {s with heap:=h',toks:=tk}):
 ↥A (call (.builtin "min") [.ref l]) Q E s:=by
 have c:l<⇑s:=by have%[_,e|_]:=f;exact Zv e
 refine call_min_walk (wpAny_pyIter_list f %[_,[⇑s,l],[⇑s],_,_,_,_,rfl,Walks.list (A:=A.in1) n _ l (Zt c) its,%[%[_,Zj _ rfl,rfl|rfl]|f.push _],λb d=>?_,g,w4 val a|λv h' tk p q=>?_])
 .rw[Zq];rcases mem_cons.mp d with rfl|d
  .simp
  .rcases mem_cons.mp d with rfl|d
   .exact Yr c
   .cases d
 .refine h v h' tk p λb o e=>q b o (λm=>?_) (Z7 _ e)
  rcases mem_cons.mp m with r|m
  .exact absurd (r▸Zv e) (Xo _)
  .cases m
def og(val:Nat->Str):∀k,argBest (λi j=>decide ((val i).cps.toList<(val j).cps.toList)) k<=k/\∀j,j<=k->aO (val j) (val (argBest (λi j=>decide ((val i).cps.toList<(val j).cps.toList)) k))=false
 | 0=>%[Zi _|λj b=>by rw[le_zero.mp b];exact dZ _]
 | k+1=>by
   have%[g|d]:=og val k;rw[argBest];by_cases c:aO (val (k+1)) (val (argBest (λi j=>decide ((val i).cps.toList<(val j).cps.toList)) k))=true
   .have a:=c;unfold aO at a;rw[if_pos a];refine%[Zi _|λj b=>?_];by_cases e:j=k+1
    .exact e▸dZ _
    .cases f:aO _ _ with
     | false=>rfl
     | true=>have:=eQ f c;rw[d j ⋯]at this;cases this
   .have a:=c;unfold aO at a;rw[if_neg a];refine%[⋯|λj b=>?_];by_cases e:j=k+1
    .lia
    .exact d j ⋯
end
section
variable{X:Cx}
def yS(b:X.calm=true):cq X (.builtin "max") (λxs H Q=>∃x y,xs=[.str x,.str y]/\Q (.str (if aO x y=true then y else x)) H):=by
 intro pins s c H xs us Q I r h;have%[x,y,rfl|q]:=h;have%[u,d,rfl,%[t|rfl],t'|rfl]:=j7 r;refine sw (I.ok.hd b) λh' tk k=>%[_,H,I.kept k,?_|q]
 by_cases a:x.cps.toList<y.cps.toList
 .rw[if_pos a,if_pos (show aO x y=true from Zf a)];exact%[_|rfl]
 .rw[if_neg a,if_neg (show ¬ aO x y=true from λe=>a (Zo e))];exact%[_|rfl]
def yT(b:X.calm=true):cq X (.builtin "min") (λxs H Q=>∃x y,xs=[.str x,.str y]/\Q (.str (if aO y x=true then y else x)) H):=by
 intro pins s c H xs us Q I r h;have%[x,y,rfl|q]:=h;have%[u,d,rfl,%[t|rfl],t'|rfl]:=j7 r;refine sA (I.ok.hd b) λh' tk k=>%[_,H,I.kept k,?_|q]
 by_cases a:y.cps.toList<x.cps.toList
 .rw[if_pos a,if_pos (show aO y x=true from Zf a)];exact%[_|rfl]
 .rw[if_neg a,if_neg (show ¬ aO y x=true from λe=>a (Zo e))];exact%[_|rfl]
def yU(z:X.calm=true):cq X (.builtin "min") (λxs H Q=>∃(p:Addr) (ss:ZB),xs=[.ref p]/\SqL X.K H p (ss.map V.str)/\0<ss.length/\∀m∈ss,(∀y∈ss,aO y m=false)->Q (.str m) H):=by
 intro pins s M H xs us Q I r h;have%[p,ss,rfl,A,N|q]:=h;have%[u,rfl|f]:=dg r;cases f;have%[its,g,B|O]:=I.list A;have a:=g.length;rw[Z6]at a;have C:its.toArray.size=ss.length:=by rw[Zp,a]
 have c:∀i v,its.toArray[i]? =some v->∃t,v=Value.str (ss.getD i Str.empty) t:=λi v e=>by
  have e:=by simpa using e
  have hi:i<ss.length:=a▸(Xr e).1;have%[u,l|f]:=g.get (by rw[Zl,Z4 hi];rfl);rw[e]at l;have%[t|d]:=f;exact%[t|by rw[Za l,d,Zc,Z4 hi];rfl]
 refine pM (I.ok.hd z) B.isList ⋯ c λv h' tk n k=>?_
 have%[E|o]:=og _ _;have%[t|d]:=c _ _ n
 generalize argBest _ _=b at E o n d
 have w:b<ss.length:=by lia
 have G:ss.getD b Str.empty=ss[b]:=by rw[Zc,Z4 w];rfl
 refine%[.str _,H,I.kept k,%[t|d]|q _ (G▸Yg w) λy J=>?_];have%[j,L|rfl]:=Yh J;have:=o j ⋯;rwa[show ss.getD j Str.empty=ss[j] by rw[Zc,Z4 L];rfl]at this
def FF(a:X.calm=true):cE X (.builtin "max") (λxs H Q=>∃x y,xs=[.str x,.str y]/\Q (.str (if aO x y=true then y else x)) H):=⟨yS a⟩
def FG(a:X.calm=true):cE X (.builtin "min") (λxs H Q=>∃x y,xs=[.str x,.str y]/\Q (.str (if aO y x=true then y else x)) H):=⟨yT a⟩
def FH{K:ZA}(h:X.K=K)(a:X.calm=true):cE X (.builtin "min") (λxs H Q=>∃(p:Addr) (ss:ZB),xs=[.ref p]/\SqL K H p (ss.map V.str)/\0<ss.length/\∀m∈ss,(∀y∈ss,aO y m=false)->Q (.str m) H):=by subst h;exact⟨yU a⟩
end
section
#where
end
section
variable{prog:Program}{w:World}{A:Around}{R:Result->Shared->Prop}{I:Addr}{fp wr:List Addr}{G:Array GenState->Array GenState->Prop}{n:Nat}{P:Nat->Value->Prop}{St:Nat->Shared->Prop}
end
section
#where
end
section
variable{X:Cx}{K:ZA}
end
def Dg{b:Type}{a:List (b×V)}{vs:List (b×Value)}(r:KV a vs):aE (a.map (·.2)) (vs.map (·.2)):=by
 induction r with
 | nil=>exact .nil
 | cons h _ c=>exact .cons h.2 c
section
variable{X:Cx}{K:ZA}
abbrev Bf:V->List V->Hp->VK->Prop:=λx vs H Q=>asR x λa=>∃k y,vs=[kV k,y]/\∃b,H a=some (.dK b)/\b.length<sizeLine/\(∀v,bJ b k=some v->Q v H)/\(bJ b k=none->Q y (upd H a (.dK (cP b k y))))
def Dh:MtM X "dict.setdefault" Bf:=by
 intro pins s G H x vs v us Q I p r h;have%[a,rfl,k,y,rfl,b,e,J,t|u]:=eT h;cases p;have%[L,w,rfl,A|l]:=j7 r;have%[z,m,vs,c|n]:=kb I.hok e;refine call_meetsIn PySem.F.slot_dict_setdefault n.typeIs PySem.F.entry_dict_setdefault (PySem.F.args_dict_setdefault_3 _ _ _) (kt_meets_setdefault _ a (lW A) m w) %[vs,n,c.length▸z,λM hw=>?_|λN h' f B=>?_]
 .have q:=c.val k;cases d:bJ b k with
  | none=>
    rw[f9.none_of (o:=valueAt vs k) (d▸q)]at hw;cases hw
  | some i=>
    have%[C,g|j]:=f9.some_of (d▸q);rw[g]at hw;exact(Za hw)▸%[i,H,I.tok _,j|t i d]
 .have d:bJ b k=none:=by
   cases d:bJ b k with
   | none=>rfl
   | some i=>
     have%[C,g|_]:=f9.some_of (d▸c.val k)
     grind
  exact%[y,_,mU I (e▸True.intro) B (let⟨q,_,_,E,_⟩:=f;%[q|E]) (vA (by have:=fF b k y;lia) m (c.put k l) f),l|u d]
def kH:MtQ X "dict.setdefault" Bf:=⟨Dh⟩
abbrev uf(v a:Addr):HO:= .ext λh=>h.IsValuesView v a
abbrev Bg:V->List V->Hp->VK->Prop:=λx vs H Q=>asR x λa=>vs=[]/\∃b,H a=some (.dK b)/\∀v,H v=none->Q (.ref v) (upd H v (uf v a))
def Di:MtM X "dict.values" Bg:=by
 intro pins s t H x vs v us Q I i j h;have%[a,rfl,rfl,l,e|q]:=eT h;cases i;have c:=j.zero;subst c;have%[z,m,vs,n|f]:=kb I.hok e;refine call_meetsIn PySem.F.slot_dict_values f.typeIs PySem.F.entry_dict_values (PySem.F.args_dict_values_1 _) (meets_dict_values _ a m) %[%[vs|f]|?_];have g:(s.heap.push {cls:= .type _,data:= .fields _}).IsValuesView ⇑s a:=%[_,Zj _ rfl,rfl|rfl]
 refine%[.ref ⇑s,_,I.laid (o:=uf ⇑s a) (λb u e=>Z7 _ e) (Zi _) %[g,?_|λw y p k1=>?_],rfl|q _ I.fresh]
 .have%[o,d|_]:=g;exact%[o|d]
 .have%[o,d|r]:=p;exact%[o,k1 _ d|r]
def Bh:MtQ X "dict.values" Bg:=⟨Di⟩
def we(j:X.calm=true):cq X (.type "list") (λxs H Q=>∃(v a:Addr) (b:List (Key×V)),xs=[.ref v]/\H v=some (uf v a)/\H a=some (.dK b)/\∀l,H l=none->Q (.ref l) (upd H l (.lst (b.map (·.2))))):=by
 intro pins s M H xs us Q I r h;have%[v,a,b,rfl,m,n|q]:=h;have%[u,rfl|p]:=dg r;cases p;have%[z,N,vs,f|t]:=kb I.hok n;have g:=(I.hok _ _ m).1;have%[o,w,y,A|B]:=t;have C:s.heap.DictAt _ a vs y:=%[o,w,A|B]
 have E:=f.length;refine PySem.W.kdl_call (PySem.W.kdl_values) (I.ok.hd j) %[g|C] ⋯ λh' tk acc c keep G d=>?_
 have O:acc.toList.length=b.length:=by rw[Zb,d.1,E]
 refine%[.ref ⇑s,_,I.laid keep (Zi _) ?_,rfl|q _ I.fresh];have e:acc.toList=vs.map (·.2):=by
  refine ext_getElem (by simp_all) λi J T=>?_
  have%[k|L]:=d.2 i _ (Array.getElem?_eq_getElem J);have%[U|Y]:=Xr L
  simp_all
 exact%[by rw[Z6];exact z,acc.toList,c,e▸Dg f|G]
def Dj(c:X.calm=true):cE X (.type "list") (λxs H Q=>∃(v a:Addr) (b:List (Key×V)),xs=[.ref v]/\H v=some (uf v a)/\H a=some (.dK b)/\∀l,H l=none->Q (.ref l) (upd H l (.lst (b.map (·.2))))):=⟨we c⟩
end
def ug:∀{ss:ZB},z∈ss->∃j,ss[j]? =some z/\(∀m,m<j->∀y,ss[m]? =some y->y≠z)/\(z::ss.eraseIdx j).Perm ss
 | x::ss,h=>by
   by_cases e:x=z
   .exact%[0,by simp[e],λm b=>absurd b ⋯|by simp[e]]
   .have%[j,c,d|f]:=ug ((mem_cons.mp h).resolve_left λq=>e q.symm);refine%[j+1,c,λm b y a=>?_|?_]
    .cases m with
     | zero=>simp at a;exact a▸e
     | succ m=>exact d m ⋯ y (a)
    .exact(List.Perm.swap _ _ _).trans (f.cons _)
section
variable{X:Cx}{K:ZA}
abbrev FI:V->List V->Hp->VK->Prop:=λx vs H Q=>asR x λa=>∃k y,vs=[kV k,y]/\∃b,H a=some (.dK b)/\Q ((bJ b k).getD y) H
def FJ:MtM X "dict.get" FI:=by
 intro pins s n H x vs v us Q I f g h;have%[a,rfl,k,y,rfl,b,e|q]:=eT h;cases f;have%[o,i,rfl,j|l]:=j7 g;have%[z,m,vs,c|d]:=kb I.hok e;exact call_meetsIn slot_dict_get d.typeIs PySem.F.entry_dict_get (PySem.F.args_dict_get_3 _ _ _) (meets_dict_get_default _ a (lW j) m i) %[_,d.mapOf,(bJ b k).getD y,H,I.tok _,(c.val k).getD l|q]
def w6:MtQ X "dict.get" FI:=⟨FJ⟩
abbrev isZ(z:Str):Value->Bool
 | .str x _=>x==z
 | _=>false
def yV(t:Tok)(r:aE (ss.map V.str) its)(h:ss.length=its.length)(l:z∈ss):∃(j:Nat) (e:j<its.toArray.size),ss[j]? =some z/\(z::ss.eraseIdx j).Perm ss/\(∀y,y∈its.toArray->MeetsSeq.EqGives y (.str z t) (isZ z y))/\isZ z its.toArray[j]=true/\∀m (a:m<its.toArray.size),m<j->isZ z its.toArray[m]=false:=by
 have%[j,f,n|o]:=ug l;have b:∀m y,its[m]? =some y->∃x t,y=Value.str x t/\ss[m]? =some x:=λm y c=>by
  have a:m<ss.length:=h▸(Xr c).1;have%[u,i|p]:=r.get (by rw[Zl,Z4 a];rfl);rw[c]at i;have%[t|q]:=p;exact%[_,t,(Za i).trans q|Z4 a]
 have e:j<its.length:=h▸(Xr f).1;refine%[j,e,f,o,λy c=>?_,?_|λm a g=>?_]
 .have%[m|a]:=Xk (by simpa using c);have%[x,t',rfl|_]:=b m y a;exact eqGives_str x z t' t
 .have%[x,t',ex|d]:=b j _ (Z4 e);rw[f]at d;show isZ z its[j]=true;rw[ex,<-Za d];exact beq_self_eq_true z
 .have%[x,t',ex|d]:=b m _ (Z4 a);show isZ z its[m]=false;rw[ex];exact beq_eq_false_iff_ne.mpr (n m g x d)
abbrev sB:V->List V->Hp->VK->Prop:=λx vs H Q=>asR x λl=>∃z,vs=[.str z]/\∃ss:ZB,H l=some (.lst (ss.map V.str))/\z∈ss/\∀a,(z::a).Perm ss->Q .non (upd H l (.lst (a.map V.str)))
def yX:MtM X "list.remove" sB:=by
 intro pins s A H x vs v us Q I c d h;have%[l,rfl,z,rfl,ss,a,f|q]:=eT h;cases c;have%[u,rfl|g]:=d.one;have%[t|rfl]:=g;have%[i,its,n,r,b|e]:=I.lstM a;rw[Z6]at b i;have%[j,m,_,o,p,w|y]:=yV t r b f;refine call_meets F.slot_list_remove %[_,e|rfl] F.entry_list_remove (F.args_list_remove_2 _ _) (MeetsSeq.list_remove l its.toArray n _ _ p j m w y (by simp_all)) %[e,.non,_,I.lset (its':=its.eraseIdx j) a e ?_ ?_ ?_,rfl|q _ o]
 .simp
 .rw[List.eraseIdx_eq_take_drop_succ,Zd,List.map_take,List.map_drop,<-List.eraseIdx_eq_take_drop_succ];exact r.eraseIdx j
 .have:=qc ss j;rw[Z6]
  lia
def Bi:MtQ X "list.remove" sB:=⟨yX⟩
end
def yY:typeLookup (.type "list_reverseiterator") "__len__"=pure none:=by kernel_rfl
def Bj:typeLookup (.type "list_reverseiterator") "__length_hint__"=pure (some (.builtin "list_reverseiterator.__length_hint__")):=by kernel_rfl
section
#where
def pN(hh:A.handled=none)(N:s.heap.IsRevIter I l ((a.size:Int) -1))(O:s.heap.IsList l a)(ne:l≠I)(hz:a.size<=sizeLine)
 (hQ:∀s' acc c,(∀b o,b≠I->s.heap.get? b=some o->s'.heap.get? b=some o)->s'.gens=s.gens->s'.os=s.os->s'.heap.get? ⇑s=some {cls:= .type "list",data:= .seq acc c}->acc.toList=a.toList.reverse->Q (.ref ⇑s) s'):
 ↥A (call (.type "list") [.ref I]) Q E s:=by
 have u:I<⇑s:=let⟨_,i,_⟩:=N;Zv i;have v:l<⇑s:=let⟨_,i,_⟩:=O;Zv i
 generalize p:s.heap.push {cls:=Value.type "list",data:=Data.seq #[]}=G
 have gz:G.objs.size=⇑s+1:=by rw[<-p,Zq]
 have y:∀b o,s.heap.get? b=some o->G.get? b=some o:=λb o e=>by rw[<-p];exact Z7 _ e
 have q:G.get? ⇑s=some {cls:=Value.type "list",data:=Data.seq #[]}:=by rw[<-p];exact Zj _ rfl
 refine callType_codes (Q₁:=λobj g=>obj= .ref ⇑s/\g={s with heap:=G}) F.called_list (F.typeCall_list_1 (Value.ref I)) F.entry_list_init (code_list_new (Value.ref I) %[rfl|by rw[p]]) λobj g j=>?_
 have%[rfl|rfl]:=j;refine%[%[_,q|rfl],F.args_list_init_2 _ _|?_];show ↥A.in1.in1 (Builtin.«list.__init__» %[[.ref ⇑s,.ref I]|[]]) _ _ _;unfold Builtin.«list.__init__»;refine Z2 ?_;refine listItems_at (s:={s with heap:=G}) q rfl ?_;refine Z2 (listUpdate_at (s:={s with heap:=G}) q rfl ?_ (Xj _));have U:=get?_update_self (Obj.mapSeq λ_=> #[]) q rfl;have f:∀b o,b≠⇑s->G.get? b=some o->(G.update ⇑s (Obj.mapSeq λ_=> #[])).get? b=some o:=λb o z e=>(get?_update_other _ _ (Ne.symm z)).trans e
 refine Z2 (wpAny_letGo ?_)
 generalize G.update ⇑s (Obj.mapSeq λ_=> #[])=h at U f
 have B:I≠⇑s:=Zt u;have nl:l≠⇑s:=Zt v;have m:h.IsRevIter I l ((a.size:Int) -1):=N.at λo e=>f _ _ B (y _ _ e)
 have C:h.IsList l a:=let⟨o,i,r⟩:=O;%[o,f _ _ nl (y _ _ i)|r];have W:=Walks.listRev (prog:=prog) (w:=w) (A:=A.in1.in1) hh I l ne a;have n:(0<=a.size/\h.IsRevIter I l (↑a.size-1-((0:Nat):Int))/\h.IsList l a):=%[Xj _,by simpa using m|C]
 show ↥A.in1.in1 (Builtin.List.listExtendWith (.ref ⇑s) (.ref I) .none) _ _ {s with heap:=h};unfold Builtin.List.listExtendWith;have t:Shared.TypeIs {s with heap:=h} (.ref I) "list_reverseiterator":=m.typeIs;refine Z2 (wpAny_typeOf (T:="list_reverseiterator") t ?_);have n1:Builtin.List.listSameRef (.ref ⇑s) (.ref I)=false:=beq_eq_false_iff_ne.mpr (Ne.symm B);have n2:(Value.type "list_reverseiterator"==Value.type "list")=false:=by decide
 have n3:(Value.type "list_reverseiterator"==Value.type "tuple")=false:=by decide
 simp only[n1,n2,n3,Bool.or_false,Y0,if_false];refine Z2 (W.self 0 {s with heap:=h} _ _ n ?_);refine Z2 (wpAny_holding ?_);unfold Builtin.List.listLengthHint;refine Z2 (wpAny_specialOf (T:="list_reverseiterator") t yY ?_);show wpAny _ _ (specialOf (.ref I) (Str.ofString "__length_hint__")>>= _) _ _ _;refine Z2 (wpAny_specialOf t Bj ?_)
 wp_delta
 refine Z2 (wpAny_isInstance (T:="list_reverseiterator") (b:=true) t (by rw[isSubtype_type];kernel_rfl) ?_);simp only[Bool.not_true,Y0,if_false];rw[if_pos (by decide +kernel)];rw[if_neg (by decide)];refine Z3 ?_;rw[if_neg (by decide +kernel)];have H:⇑s∉[I,l]:=by
  simp only[Yz,Xb,or_false,not_or];exact%[Ne.symm B|Ne.symm nl]
 refine Z3 %[plainId_quiet F.plain_extend_loop _|codeAny_extend_loopS W.toS hz _ H _ a.size 0 _ _ _ rfl (Xj _) n U (ItemsOf.nil _) λs5 acc c5 J L d=>?_];refine%[rfl|hQ s5 acc c5 (λb o z e=>?_) J.gens J.os L ?_]
 .have nb:b≠⇑s:=Zt (Zv e);refine J.heap b o ?_ (f _ _ nb (y _ _ e));simp only[Yz,Xb,or_false,not_or];exact%[nb|z]
 .apply ext_getElem?;intro k;have al:acc.toList.length=a.size:=Zb▸d.1;by_cases Y:k<a.size
  .have M:k<acc.size:=d.1▸Y;have:=d.2 k acc[k] ∅;rw[List.getElem?_reverse (Y),Zb,Yf,Yf,this];simp[M]
  .rw[Xq ⋯,Xq (by simp;lia)]
end
abbrev FK(n:Nat)(a l:Addr)(m:Nat):HO:= .ext λh=>n<=a/\h.IsRevIter a l (m-1)
def yZ{X:Cx}:cq X (.type "reversed") (λxs H Q=>∃(l:Addr) (ys:List V),xs=[.ref l]/\SqL X.K H l ys/\∀r,H r=none->Q (.ref r) (upd H r (FK X.s₀.heap.objs.size r l ys.length))):=by
 intro pins s a H xs us Q I r h;have%[l,ys,rfl,c|q]:=h;have%[u,rfl|d]:=dg r;cases d;have%[its,f,pl|j]:=I.list c;refine call_reversed_list pl.isList ?_;have g:=I.hok.fresh (Zi _);have J:Inv X pins a H {s with heap:=(s.heap.push (revObj l (its.toArray.size-1)))}:=I.keptS (λb o e=>Z7 _ e) rfl rfl;refine%[.ref ⇑s,_,I.stoodS (o:=FK X.s₀.heap.objs.size ⇑s l ys.length) J (Zi _) %[%[I.sz|?_],%[_|Zj _ rfl]|λ_ _ ⟨i,x⟩ k=>%[i|x.at λo e=>k o e]],rfl|q _ g];rw[f.length,<-Zp];exact%[_,Zj _ rfl,rfl|rfl]
def Inv.dropped{X:Cx}(I:Inv X pins j H s)(l:H a=some (.ext i))(m:X.s₀.heap.objs.size<=a)(f:∀b o,b≠a->s.heap.get? b=some o->s'.heap.get? b=some o)(r:s'.gens=s.gens)(t:s'.os=s.os):Inv X pins j (drop H a) s':=by
 have ne:∀{b:Addr} {o:HO},H b=some o->(∀i,o≠ .ext i)->b≠a:=λe n z=>by
  grind
 have un:Un (frs X.stack) [a] H (drop H a) s.heap s'.heap:=by
  refine%[λb o e _ _ d=>f b o (by simpa using d) e,λb o e _ _ d=>%[o.slots|f b o (by simpa using d) e],λb o _ n _=>?_,λb o e d=>%[o|f b o (by simpa using d) e],λb xs e=>?_,λb o u e=>?_|λb ps e=>%[#[]|?_]]
  .unfold drop;split
   .rfl
   .exact n
  .rw[jk (ne e ∅)];exact e
  .rw[jk (ne e ∅)];exact e
  .rw[jk (ne e ∅)];simpa using e
 have g:HOk X.prog X.w (drop H a) s'.heap:=λb o e=>by
  have nb:b≠a:=λz=>by rw[z,yC]at e;cases e
  rw[jk nb]at e;refine(I.hok b o e).stay (λc u h q=>f c u ?_ q) (λc q=>?_) λc xs q=>?_
  .rcases h with rfl|h
   .exact nb
   .exact ne h ∅
  .rw[jk (ne q ∅)];exact q
  .rw[jk (ne q ∅)];exact q
 exact I.call' t un g (by rw[r];exact I.bare) λb v=>by
  obtain rfl:b=a:=by simpa using v
  refine%[.inr m,λz=>?_,λx c e z=>?_|λp w z=>?_]
  .have:=I.free;grind
  .have:=I.freeC x c e;grind
  .have:=(I.pin p w).2.1;rw[z,l]at this;cases this
def uh{X:Cx}(w:X.calm=true):cq X (.type "list") (λxs H Q=>∃(r l:Addr) (ys:List V),xs=[.ref r]/\H l=some (.lst ys)/\H r=some (FK X.s₀.heap.objs.size r l ys.length)/\∀p,drop H r p=none->p≠r->Q (.ref p) (upd (drop H r) p (.lst ys.reverse))):=by
 intro pins s J H xs us Q I r h;have%[a,l,ys,rfl,g,f|q]:=h;have%[u,rfl|y]:=dg r;cases y;have%[z,its,n,A,m|e]:=I.lstM g;have%[%[t|b]|_]:=I.hok a _ f;have i:l≠a:=λz=>by rw[z,f]at g;cases g
 have sz:its.toArray.size=ys.length:=by simp_all
 refine pN (I.ok.hd w) (by rw[sz];exact b) %[_,e,rfl,n|rfl] i (by rw[sz];exact z) λs' acc c B C j E d=>?_
 have v:=I.dropped f t (λ_ _ _ e=>e) rfl rfl;have G:=I.dropped f t B C j;have lt:=let⟨_,j,_⟩:=b;Zv j;refine%[.ref ⇑s,_,v.stoodS (o:= .lst ys.reverse) G (Zi _) %[?_,acc.toList,c,?_|?_],rfl|q _ (v.hok.fresh (Zi _)) (X6 lt)]
 .rw[List.length_reverse];exact z
 .rw[d];exact A.reverse
 .exact E
abbrev uk(b:TE):TE:=λc H Q=>b c H λv a=>∃l ys,v= .ref l/\a l=some (.lst ys)/\∀p,a p=none->Q (.ref p) (upd a p (.lst ys.reverse))
def Bk{X:Cx}(h:X.calm=true)(i:Gl X "reversed")(j:X.mg "reversed"=none)(a:Gl X "list")(b:X.mg "list"=none)(d:be e=false)(m:QE X e n):
 QE X (.Call (.Name "list" o) [.Call (.Name "reversed" s) [e] [] t] [] u) (uk n):=by
 have w:QE X (.Call (.Name _ s) [e] [] t) _:=ctE ⟨yZ⟩ i j PyProof.Rows.boot_reversed rfl rfl (by simp[d]) (paE d (⟨Fs m.h⟩) aq);have y:=ctE (p:=o) (pos:=u) ⟨uh h⟩ a b boot_list rfl rfl rfl (paE rfl w aq);refine⟨Ft y.h λA H Q q=>?_⟩;refine%[_,q|λv B ⟨l,ys,z,c,q⟩=>%[l,ys,by rw[z],SqL.of c|λr f=>?_]];refine%[r,l,ys,rfl,by rw[am (ay c f)];exact c,aa|λp g _=>?_];rw[AN f]at g ⊢;exact q p g
section
variable{X:Cx}
abbrev FL:R2:=λx y H Q=>asR x λa=>asR y λb=>∃xs,H a=some (.lst xs)/\H b=some (.lst [])/\Q (.bl (decide (xs≠[]))) H
def FM(A:X.A.units+64<cLine):OpR X (compareOp .NotEq) FL:=by
 intro pins s B H x y v u Q I l m h;have%[a,rfl|o]:=eT h;have%[b,rfl,xs,p,t|q]:=eT o;cases l;cases m;have%[z,its,n,r,g|e]:=I.lstM p;have%[C,its2,i,E,d|c]:=I.lstM t;obtain rfl:its2=[]:=length_eq_zero_iff.mp d.symm;by_cases f:xs=[]
 .subst f;obtain rfl:its=[]:=length_eq_zero_iff.mp g.symm;exact richCompare_meets_room (op:= .NotEq) %[_,e|rfl] %[_,c|rfl] PySem.F.slot_list_ne PySem.F.entry_list_ne (PySem.F.args_list_ne_2 _ _) (SeqAt.list_neAt a b #[] #[] n i none none #[] #[] rfl λ_=>true) %[e,c,λj h=>absurd h (Xa j),by simp,.bl _,H,I,rfl|q] ⋯
 .have w:its.toArray.size≠0:=by
   rw[Zp,<-g];exact λq=>f (length_eq_zero_iff.mp q)
  rw[Zf f]at q;exact richCompare_meets_room (op:= .NotEq) %[_,e|rfl] %[_,c|rfl] PySem.F.slot_list_ne PySem.F.entry_list_ne (PySem.F.args_list_ne_2 _ _) (SeqAt.list_ne_lengthsAt a b its.toArray #[] n i none none #[] #[] (by simpa using w)) %[e,c,by simp,.bl true,H,I,rfl|q] ⋯
def G4(a:bX k X.A):OpQ X (compareOp .NotEq) FL:=⟨FM a.units⟩
end
section
#where
def e8(I:List i->j->Shared->Prop):∀(xs:List i) (b:j) (s:Shared),I xs b s->
 (∀x r b s,I (x::r) b s->↥A (f x b) (λy s'=>match y with| .done c=>Q c s'| .yield c=>I r c s') E s)->(∀b s,I [] b s->Q b s)->↥A (forIn xs b f) Q E s
 |[],b,s,h,_,a=>by
  exact Z3 (a b s h)
 | x::r,b,s,h,d,a=>by
   rw[forIn_cons];refine Z2 (wpAny_mono (d x r b s h) (λy s' g=>?_) λ_ _ e=>e);cases y with
   | done c=>exact Z3 g
   | yield c=>exact e8 I r c s' g d a
def Bl:∀as {Q:Bool->Shared->Prop},(∀b∈as,∃c,bj w b c s.heap)->Q true s->↥A (setsQuiet as) Q E s:=by
 intro as Q h j;refine Z2 (e8 (λr b s'=>(∀b∈r,∃c,bj w b c s.heap)/\b=(none,())/\s'=s) as _ s %[h,rfl|rfl] ?_ ?_)
 .intro x r b s' %[f,rfl|rfl];have%[c,o,l,C,t,ss,m,n,p,q,G,v,d,H,y,B|g]:=f x Zm;refine Z2 (wpAny_setEntries_of m p y (Z2 ?_));rw[<-forIn_toList];refine e8 (λr b a=>(∀e∈r,∃z u,e=(hashStr w z,Value.str z u))/\b=(none,())/\a=s') l.toList _ _ %[d,rfl|rfl] ?_ ?_
  .intro e r b a %[i,rfl|rfl];have%[z,u|rfl]:=i e Zm;exact Z3 %[λe h=>i e (Zk _ h),rfl|rfl]
  .intro b a %[_,rfl|rfl];exact Z3 %[λe h=>f e (Zk _ h),rfl|rfl]
 .intro b s' %[_,rfl|rfl];exact Z3 j
abbrev hsE(w:World)(p:Str×Tok):Int×Value:=(hashStr w p.1,.str p.1 p.2)
def bj.texts{a:Addr}{h:Heap}{o:Obj}{c:Array (Int×Value)}(d:StrsAre (c.toList.map (·.2)) ss)(g:ss.Perm ks)(f:∀e∈c.toList,∃z u,e=(hashStr w z,Value.str z u))(xs:List (Int×Value))(b:xs.Perm c.toList):∃zs:List (Str×Tok),xs=zs.map (hsE w)/\(zs.map (·.1)).Perm ks:=by
 have all:∀l,(∀e∈l,∃z u,e=(hashStr w z,Value.str z u))->∃zs:List _,l=zs.map (hsE w):=λl=>by
  induction l with
  | nil=>exact λ_=>%[[]|rfl]
  | cons e l i=>
    intro h;have%[z,u|rfl]:=h e Zm;have%[zs|rfl]:=i λx b=>h x (Zk _ b)
    exact%[(z,u)::zs|rfl]
 have%[zs|rfl]:=all xs λe j=>f e (b.mem_iff.mp j)
 refine%[zs,rfl|?_];have%[ts,m|n]:=ck d (b.map _);have e:ts=zs.map (·.1):=by
  rw[<-m.strs,Yv,Yv];rfl
 exact e▸n.trans g
def qF{f:List Addr}{c:ZI}{Q:Array (Int×Value)->Shared->Prop}(U:bj w a ks s.heap)(hO:∀b∈f,∃js,bj w b js s.heap)(n:∀r,c=some r->r≠a/\bj w r [] s.heap)
 (hQ:∀(zs:List (Str×Tok)) (d:Drawn) (h':Heap),(zs.map (·.1)).Perm ks->(∀b o,c≠some b->s.heap.get? b=some o->h'.get? b=some o)->(∀r,c=some r->bj w r [] h')->Q (zs.map (hsE w)).toArray {s with heap:=h',drawn:=d}):
 ↥A (setWalkUnseen a f c) Q E s:=by
 have%[o,g,ep,t,ss,Y,ac,hd,J,hp,ae,L,I,hf,M|i]:=id U;have fin:∀(xs:List _) d h',xs.Perm g.toList->(∀b o,c≠some b->s.heap.get? b=some o->h'.get? b=some o)->(∀r,c=some r->bj w r [] h')->Q xs.toArray {s with heap:=h',drawn:=d}:=λxs d h' hx u h2=>by
  have%[zs,rfl|hz]:=bj.texts (a:=a) (h:=h') (o:=o) J hp L xs hx;exact hQ zs d h' hz u h2
 have walk:↥A (setWalk a) Q E s:=by
  refine Z2 (wpAny_setState_of Y hd hf ?_);show wpAny _ _ (if aS w=true then _ else _) _ _ _;by_cases N:aS w=true
  .rw[if_pos N];refine Z2 (wpAny_askSetting (Z3 ?_));have:=fin (pickOrder (w.params.setOrder a ep) g).toList s.drawn s.heap (qw _ _) (λ_ _ _ e=>e) λr e=>(n r e).2
   exact this
  .rw[if_neg N]
   split
   .exact Z2 (rS g.size g.toList _ _ ∅ λys d p=>Z3 (fin ys d s.heap p (λ_ _ _ e=>e) λr e=>(n r e).2))
   .refine Z2 ?_;show wpAny _ _ (if(!t.led&&decide _)=true then unsupported _ else pure ()) _ _ _;rw[i,show aS w=false by simpa using N];refine Z3 (Z3 ?_);have:=fin g.toList s.drawn s.heap (.refl _) (λ_ _ _ e=>e) λr e=>(n r e).2
    exact this
 refine Z2 (wpAny_setState_of Y hd hf ?_);show wpAny _ _ (if(aS w||t.led&&t.plain||decide _)=true then _ else _) _ _ _;by_cases u:(aS w||t.led&&t.plain||decide (g.size<=1))=true
 .rw[if_pos u];exact walk
 .rw[if_neg u];refine Z2 (Bl _ (λb I=>?_) ?_)
  .rcases mem_cons.mp I with e|e
   .exact e▸%[_|U]
   .exact hO b e
  refine Z2 (wpAny_rule ?_);cases c with
  | none=>
    have:=fin g.toList s.drawn s.heap (.refl _) (λ_ _ _ e=>e) λr e=>(n r e).2
    exact Z3 this
  | some r=>
    have%[ne,o2,O,ag,q,ai,j,v,l,y,T,B,C,G,H,ab|m]:=n r rfl;dsimp only;refine Z2 (wpAny_setState_of j l H ?_)
    split
    .refine Z2 (wpAny_storeSet_of j l ?_ (fits_of_scanBound G));have:=fin g.toList s.drawn _ (.refl _) (λb o I e=>((SameBut.update s.heap r (Obj.putSet O {q with led:=q.led&&t.led,plain:=q.plain&&t.plain})).2 b λz=>I (by rw[z])).trans e) λr' e=>?_
     .exact Z3 this
     .cases e;exact(bj.stored (t':={q with led:=q.led&&t.led,plain:=q.plain&&t.plain}) j v l y T B C G H (by rw[(M λz=>u (by rw[z];simp)),Bool.and_false]) (by rw[m,i,Bool.and_self])).2
    .have:=fin g.toList s.drawn s.heap (.refl _) (λ_ _ _ e=>e) λr e=>(n r e).2
     exact Z3 this
end
section
#where
def Dk(h:jz (Sum.inr z) (Value.str y u)=true):y=z:=by
 rcases aW h with⟨i,t',a,b⟩|⟨c,t',a,b⟩
 .lia
 grind
def um{ks:ZB}(i:s.heap.get? a=some o)(l:o.data= .set b H t)(c:∀e∈b.toList,∃z u,e=(hashStr w z,Value.str z u))(C:b.size<scanBound)(m:t.fits b.size=true)
 (n:∀r,(r=none->∀e∈b.toList,∀u,e.2≠ .str z u)->(∀j,r=some j->∃u,b.toList[j]? =some (hashStr w z,.str z u))->Q r s):↥A (setFind a (.str z tk) (hashStr w z)) Q E s:=by
 have p:ElemsOf (aM prog w) b.toList:=qv c;have d:(aM prog w).is (Sum.inr z) (.str z tk)=true:=dJ z tk;refine Z2 (wpAny_setState_of i l m ?_);dsimp only;rw[byScan_of rfl C p];refine Z2 (wpAny_rule (Z2 (wpAny_setScan_of d i l m p ?_)));cases v:List.findIdx? _ b.toList with
 | some j=>
   have%[B,f|_]:=List.findIdx?_eq_some_iff_getElem.mp v;dsimp only;rw[zero_add];refine Z3 (n _ (λh=>(nomatch h)) λI e=>?_);cases e;have%[y,u|g]:=c _ (Yg B);rw[g]at f;rw[Dk (u:=u) f]at g;exact%[u|by rw[Z4 B,g]]
 | none=>
   refine Z3 (n none (λ_ e G u q=>?_) λj e=>(nomatch e));have:=List.findIdx?_eq_none_iff.mp v e G;rw[q,show(aM prog w).is (Sum.inr z) (Value.str z u)=true from dJ z u]at this;cases this
def y3{t:SetTable}(h:t.fits n=true)(hi:i<n):(t.drop i).fits (n-1)=true/\(t.drop i).led=t.led/\(t.drop i).plain=t.plain:=by
 unfold SetTable.fits at h ⊢;rw[Zx,beq_iff_eq,decide_eq_true_eq]at h;unfold SetTable.drop;have:t.place[i]? =some t.place[i]:=by simp
 rw[this];refine%[?_,rfl|rfl];rw[Zx,beq_iff_eq,decide_eq_true_eq];unfold SetTable.fill at h ⊢;simp only[SetTable.eraseAt,SetTable.insertAt,size_append,Array.size_extract,Xn]
 lia
def wg(h:i<a.size):(SetTable.eraseAt a i).toList=a.toList.eraseIdx i:=by
 rw[List.eraseIdx_eq_take_drop_succ,SetTable.eraseAt,Xi,toList_extract,toList_extract,List.extract_eq_take_drop,List.extract_eq_take_drop];simp;exact Zn ∅
def uo{ks:ZB}(I:bj w a ks s.heap)(m:∀h' b,SameBut a s.heap h'->bj w a (ks.erase z) h'->Q b {s with heap:=h'}):↥A (setDiscardHashed a (.str z tk) (hashStr w z)) Q E s:=by
 have%[o,c,ep,t,ss,h,n,j,d,J,p,f,L,v,y|g]:=id I;refine Z2 (um (ks:=ks) h j f L v λr M N=>?_);cases r with
 | none=>
   have O:z∉ks:=λq=>by
    have%[u|l]:=(d9 d).mpr (J.mem_iff.mpr q);have%[e,B|T]:=Xu l;exact M rfl e B u T
   rw[List.erase_of_not_mem O]at m;exact Z3 (m s.heap false (SameBut.refl a s.heap) I)
 | some i=>
   have%[u|l]:=N i rfl;have hi:i<c.size:=(Xr l).1;have C:((hashStr w z,Value.str z u)::(SetTable.eraseAt c i).toList).Perm c.toList:=by
    rw[wg hi];have:=gY (xs:=c.toList) (hi);rwa[(Xr l).2]at this
   have%[ts,G|U]:=ck d (C.map _);cases G with
   | cons _ _ G=>
   have%[Y,d2|d3]:=y3 v hi;have H:(SetTable.eraseAt c i).size=c.size-1:=by
    rw[<-Zb,<-Zb,<-C.length_eq];simp
   refine Z2 (wpAny_setState_of h j v ?_);dsimp only;refine Z2 (wpAny_storeSet_of h j (Z2 (wpAny_point (Z3 (m _ true (SameBut.update s.heap a _) (bj.stored h n j G ((List.cons_perm_iff_perm_erase.mp (U.trans J)).2) (p.erase z) (λe B=>f e (C.mem_iff.mp (Zk _ B))) ?_ ?_ ?_ ?_).2)))) (fits_of_scanBound ?_))
   .lia
   .exact H▸Y
   .exact d3▸y ⋯
   .exact d2▸g
   .lia
end
def w8(h:STab.WF t a)(b:a.size<=t.mask):t.fits a.size=true:=by
 unfold SetTable.fits SetTable.fill;rw[h.size,h.dum];simpa using b
section
#where
abbrev sC(w:World)(a:Addr)(n:Nat)(h:Heap):Prop:=∃o b t,h.get? a=some o/\o.ExactSet/\o.data= .set #[] b t/\t.place= #[]/\t.dummies= #[]/\t.led=(!aS w)/\(∃k,t.mask+1=2^k)/\7<=t.mask/\n<=t.mask
def sC.fits{t:SetTable}(a:t.place= #[])(b:t.dummies= #[]):t.fits (#[]:Array (Int×Value)).size=true:=by
 unfold SetTable.fits SetTable.fill;rw[a,b];simp
def Dl{n:Nat}{Q:Unit->Shared->Prop}(a:s.heap.get? r=some (aT w))(f:n<=1000)(c:∀h',SameBut r s.heap h'->sC w r n h'->Q () {s with heap:=h'}):↥A (setRoomFor r n) Q E s:=by
 have d:(SetTable.fresh 0 0 (!aS w)).fits _=true:=sC.fits rfl rfl;refine Z2 (wpAny_setState_of a rfl d ?_);show wpAny _ _ (match(if(0+n)*5>=7*3 then some ((0+n)*2)else none)with|some x=>setRelay r x|_=>pure ()) _ _ _;by_cases h:(0+n)*5>=7*3
 .rw[if_pos h];refine STab.relay_w a rfl d ∅ ⋯ λb t' P W l p g m2=>c _ (SameBut.update s.heap r _) ?_
  obtain rfl:b= #[]:=by
   have:=P.length_eq;simpa using this
  have e:=by
   have q:=get?_update_self (Obj.putSet #[] t') a (by rfl);rwa[putSet_of #[] t' rfl]at q
  exact%[_,_,t',e,%[rfl,rfl|rfl],rfl,Array.eq_empty_of_size_eq_zero W.size,W.dum,l,W.pow,W.big|⋯]
 .rw[if_neg h];exact Z3 (c s.heap (SameBut.refl r s.heap) %[_,_,_,a,%[rfl,rfl|rfl],rfl,rfl,rfl,rfl,%[3|rfl],Zi 7|by show n<=7;lia])
def Bm{ks:ZB}(M:bj w a ks s.heap)(N:s.heap.get? r=some (aT w))(ne:r≠a)(h1:1<=ks.length)(h2:ks.length<=1000)(O:∀h',SameBut r s.heap h'->bj w r ks h'->Q () {s with heap:=h'}):↥A (setMerge r a) Q E s:=by
 have%[o,d,ep,t,ss,T,U,Y,n,G,z,B,hb,H,C|g]:=id M;have hn:d.size=ks.length:=by
  have q:=bo n;rw[Z6,Zb,G.length_eq]at q;exact q
 have pl:t.plain=false:=C ⋯;unfold setMerge;rw[if_neg (by simpa using ne)];refine Z2 (wpAny_setState_of T Y H ?_);dsimp only;rw[if_neg (λh:d.isEmpty=true=>by have:=Zo h;lia)];refine Z2 (Dl N ⋯ λh' sb ⟨o2,ab,u,i,v,j,I,J,L,k2,b2,m2⟩=>Z2 (wpAny_setState_of (s:={s with heap:=h'}) i j (sC.fits I J) ?_));dsimp only;have m:u.fill=0:=by unfold SetTable.fill;rw[I,J];rfl
 have put:∀(b:Array (Int×Value)) (t':SetTable),b.toList.Perm d.toList->t'.fits b.size=true->t'.plain=false->t'.led=(!aS w)->↥A (storeSet r b t') Q E {s with heap:=h'}:=λb t' P f p l=>by
  have sz:b.size=d.size:=by rw[<-Zb,P.length_eq,Zb]
  have%[ts,r1|r2]:=ck n (P.map (·.2));exact wpAny_storeSet_of (s:={s with heap:=h'}) i j (O _ (sb.trans (SameBut.update h' r _)) (bj.stored (w:=w) i v j r1 (r2.trans G) z (λe he=>B e (P.mem_iff.mp he)) ⋯ f p l).2) (fits_of_scanBound ⋯)
 unfold SetTable.road;rw[m,if_neg (by decide)]
 split
 .exact put d _ (.refl _) H (by show(u.plain&&t.plain)=false;rw[pl,Bool.and_false]) (by show(u.led&&t.led)=_;rw[L,g,Bool.and_self])
 .have%[k|hk]:=k2;have%[t',c,e1,e2,e3,e4,e5,W|P]:=STab.laid_ok hk b2 d ⋯ u.finger u.moves _ _;have sz:(c.filterMap (d[·]?)).size=d.size:=by rw[<-Zb,P.length_eq,Zb]
  rw[e1];refine Z2 ?_;show wpAny _ A (if((c.filterMap _).size != d.size)=true then _ else pure _) _ E _;rw[if_neg (by simp[sz])];exact Z3 (put _ t' P (show t'.fits _=true from w8 W (by rw[sz,e2];lia)) (by rw[e4,pl,Bool.and_false]) (by rw[e3,L,g,Bool.and_self]))
 .rename_i y
  split at y<;> cases y
end
def bj.nd(S:bj w a ks h):ks.Nodup:=by
 have%[_,_,_,_,_,_,_,_,_,_,h|_]:=S;exact h
section
#where
def sD(c:bj w b f s.heap)(d:Q true s):↥A (Builtin.Frozenset.isAnySet (.ref b)) Q E s:=by
 have%[o,g,h,t,ss,e,a|_]:=c;exact Z2 (wpAny_isInstance (b:=true) %[o,e|a.1] (by kernel_rfl) (Z3 d))
def kI(d:bj w b e s.heap)(f:Q e.length s):↥A (Builtin.Frozenset.sizeOf b) Q E s:=by
 have%[o,u,v,t,ss,g,h,i,a,j,l,m,y,n,p|c]:=d;have r:=by
  have q:=bo a;rw[Z6,Zb,j.length_eq]at q;exact q
 exact Z2 (wpAny_setEntries_of g i n (Z3 (r▸f)))
def Bn(N:bj w r ks s.heap)(O:bj w b T s.heap)(ne:r≠b)(big:T.length<ks.length)(few:ks.length<=900)
 (hQ:∀h' d f,(∀c o,c≠r->s.heap.get? c=some o->h'.get? c=some o)->(∀x,x∈f↔x∈ks/\x∉T)->bj w r f h'->Q () {s with heap:=h',drawn:=d}):↥A (Builtin.Frozenset.differenceUpdate nm r (.ref b)) Q E s:=by
 unfold Builtin.Frozenset.differenceUpdate;rw[if_neg (by simpa using ne.symm)];refine Z2 (sD O ?_);rw[if_pos rfl];refine Z2 (Z3 (Z2 (kI O (Z2 (kI N ?_)))));rw[if_neg ⋯];have%[o,es,ep,t,ss,ho,aj,hd,al,hp,an,as,hb,hf,a0|ai]:=id O;have B:∀(s':Shared) (Q':Nat->Shared->Prop),s'.heap.get? b=some o->Q' ep s'->↥A (setEpoch b) Q' E s':=λs' Q' e q=>by
  unfold setEpoch;exact Z2 (wpAny_setState_of e hd hf (Z3 q))
 refine Z2 (B s _ ho (Z2 (wpAny_holding (Z2 (qF O (λc j=>%[ks|(Xt j)▸N]) (λ_ e=>(nomatch e)) λzs d h1 pz k1 _=>Z2 ?_)))));rw[<-forIn_toList];refine e8 (λxs _ s'=>∃g rest h',zs=g++rest/\xs=rest.map (hsE w)/\s'={s with heap:=h',drawn:=d}/\(∀c o,c≠r->s.heap.get? c=some o->h'.get? c=some o)/\∃f,bj w r f h'/\∀x,x∈f↔x∈ks/\x∉g.map (·.1)) _ _ _
  %[[],zs,h1,rfl,rfl,rfl,λc o _ e=>k1 c o ∅ e,ks,N.keep λo e=>k1 r o ∅ e|by simp] ?_ ?_
 .intro x xs _ s' %[g,rest,h',U,ex,rfl,Y,f,S|h];cases rest with
  | nil=>cases ex
  | cons p rest=>
  rw[Yu]at ex;injection ex with ab ac
  subst ab;refine Z2 (wpAny_holding (uo (z:=p.1) (tk:=p.2) (s:={s with heap:=h',drawn:=d}) S λh2 bb sb S2=>Z2 ?_));unfold Builtin.Frozenset.unchanged;have C:∀c o,c≠r->s.heap.get? c=some o->h2.get? c=some o:=λc o j e=>(sb.2 c j).trans (Y c o j e)
  refine Z2 (B {s with heap:=h2,drawn:=d} _ (C b o ne.symm ho) ?_);rw[if_neg ∅];refine Z3 (Z3 %[g++[p],rest,h2,by rw[U,Ze];rfl,ac,rfl,C,_,S2|λx=>?_]);rw[S.nd.mem_erase_iff,h,Zd,Yw,Yu,map_nil,X3,not_or]
  constructor
  .exact λ⟨a,b,c⟩=>%[b,c|a]
  .exact λ⟨b,c,a⟩=>%[a,b|c]
 .intro _ s' %[g,rest,h',U,ex,rfl,Y,f,S|h];obtain rfl:rest=[]:=by
   cases rest with
   | nil=>rfl
   | cons p rest=>cases ex
  rw[Zz]at U;have h:∀x,x∈f↔x∈ks/\x∉T:=λx=>by rw[h,<-U,pz.mem_iff]
  have ae:f.length≠0:=λe=>by
   have:=STab.nodup_sub N.nd (m:=T) λx hx=>Decidable.byContradiction λq=>by
    have:=(h x).mpr %[hx|q];rw[length_eq_zero_iff.mp e]at this;cases this
   lia
  have sub:=STab.nodup_sub S.nd λx hx=>((h x).mp hx).1
  refine Z3 ?_;have%[o2,n,a1,t2,a2,u,G,v,i,H,I,J,a3,L,M|y]:=id S;have hn:=by
   have q:=bo i;rw[Z6,Zb,H.length_eq]at q;exact q
  refine Z2 (wpAny_setState_of u v L ?_);dsimp only
  split
  .rw[show SetTable.grown n.size=n.size*4 by unfold SetTable.grown;rw[if_neg ⋯]];refine STab.relay_w u v L ⋯ ⋯ λag t' P W l p m1 m2=>?_
   have sz:ag.size=n.size:=by rw[<-Zb,P.length_eq,Zb]
   have%[ts,r1|r2]:=ck i (P.map (·.2));exact hQ _ d f (λc o j e=>((SameBut.update h' r _).2 c j).trans (Y c o j e)) h (bj.stored u G v r1 (r2.trans H) I (λe he=>J e (P.mem_iff.mp he)) ⋯ (w8 W ⋯) (p▸M ⋯) (l▸y)).2
  .exact Z3 (hQ h' d f Y h S)
end
section
#where
def uq(a:Q (.ref ⇑s) {s with heap:=s.heap.push (aT w)}):↥A (newSet (.type "set")) Q E s:=by
 exact Z2 (Z2 (wpAny_askSetting (Z3 (wpAny_newObj_type a))))
def ur(d:bj w a ks s.heap)(e:Q (.type "set") s):↥A (Builtin.Frozenset.baseOf a) Q E s:=by
 have%[o,g,h,t,ss,f,c|_]:=d;exact Z2 (wpAny_isInstance (b:=true) %[o,f|c.1] (by kernel_rfl) (Z3 e))
def Dm(v:bj w a ks s.heap)(C:bj w b I s.heap)(few:ks.length<=900)
 (hQ:∀h' d i,(∀c o,s.heap.get? c=some o->h'.get? c=some o)->(∀x,x∈i↔x∈ks/\x∉I)->bj w ⇑s i h'->Q (.ref ⇑s) {s with heap:=h',drawn:=d}):↥A (Builtin.Frozenset.difference nm a (.ref b)) Q E s:=by
 have lt:∀{c:Addr} {ls:ZB},bj w c ls s.heap->c≠⇑s:=λ{c ls} h=>by
  have%[o,_,_,_,_,U|_]:=h;exact Zt (Zv U)
 have J:∀c o,s.heap.get? c=some o->(s.heap.push (aT w)).get? c=some o:=λc o e=>Z7 _ e
 have Y:(s.heap.push (aT w)).get? ⇑s=some (aT w):=Zj _ rfl;have S1:=v.keep λo e=>J a o e
 have O1:=C.keep λo e=>J b o e
 unfold Builtin.Frozenset.difference;dsimp only;refine Z2 (sD C ?_);rw[if_neg (by decide)];refine Z2 (Z3 ?_);rw[if_neg ∅,if_pos rfl];refine Z2 (kI C (Z2 (kI v ?_)))
 generalize hG:s.heap.push (aT w)=G at J Y S1 O1
 split
 .refine Z2 (wpAny_rule (Z2 ?_));unfold Builtin.Frozenset.copyOf;refine Z2 (ur v (Z2 (uq ?_)));rw[hG];refine Z2 (Z3 (Z2 (Bm (s:={s with heap:=G}) S1 Y (Ne.symm (lt v)) ⋯ ⋯ λh1 sb R1=>Z3 ?_)));have k1:∀c o,s.heap.get? c=some o->h1.get? c=some o:=λc o e=>(sb.2 c (Zt (Zv e))).trans (J c o e)
  exact Z2 (Z3 (Z2 (wpAny_holding (Bn (s:={s with heap:=h1}) R1 (C.keep λo e=>k1 b o e) (Ne.symm (lt C)) ⋯ few λl d i k2 y M=>Z3 (hQ l d i (λc o e=>k2 c o (Zt (Zv e)) (k1 c o e)) y M)))))
 .refine Z2 (ur v (Z2 (uq ?_)));rw[hG];refine Z2 (Z3 ?_);have%[o,es,ep,t,ss,U,a1,hd,a2,hp,a3,a4,hb,hf,a5|al]:=id S1;have L:∀(s':Shared) (Q':Nat->Shared->Prop),s'.heap.get? a=some o->Q' ep s'->↥A (setEpoch a) Q' E s':=λs' Q' e q=>by
   unfold setEpoch;exact Z2 (wpAny_setState_of e hd hf (Z3 q))
  refine Z2 (L {s with heap:=G} _ U ?_);rw[if_pos rfl];refine Z2 (wpAny_holding (Z2 (qF (s:={s with heap:=G}) S1 (λc B=>?_) (λr e=>⟨by cases e;exact Ne.symm (lt v),by cases e;exact bj.empty Y⟩) λzs d h1 pz k1 r1=>Z2 ?_)))
  .simp only[Yz,Xb,or_false]at B;rcases B with rfl|rfl
   .exact%[_|O1]
   .exact%[_|bj.empty Y]
  rw[<-forIn_toList];refine e8 (λxs _ s'=>∃f rest h',zs=f++rest/\xs=rest.map (hsE w)/\s'={s with heap:=h',drawn:=d}/\(∀c o,c≠⇑s->G.get? c=some o->h'.get? c=some o)/\∃i,bj w ⇑s i h'/\i.length<=f.length/\∀x,x∈i↔x∈f.map (·.1)/\x∉I) _ _ _
   %[[],zs,h1,rfl,rfl,rfl,(λc o B e=>k1 c o (λq=>B (Za q).symm) e),[],r1 _ rfl,Zi _|by simp] ?_ ?_
  .intro x xs _ s' %[f,rest,h',H,ex,rfl,g,i,M,ml|y];cases rest with
   | nil=>cases ex
   | cons p rest=>
   rw[Yu]at ex;injection ex with ab N
   subst ab;have zl:zs.length=ks.length:=by rw[<-pz.length_eq,Z6]
   have pl:f.length<ks.length:=by rw[<-zl,H,Z9,Zr];lia
   rw[if_pos rfl];have m:∀(l:Heap) Qx,(∀c o,c≠⇑s->G.get? c=some o->l.get? c=some o)->Qx (.yield ⟨⟩) {s with heap:=l,drawn:=d}->↥A (Builtin.Frozenset.unchanged nm a ep>>= λ_=>pure (ForInStep.yield PUnit.unit)) Qx E {s with heap:=l,drawn:=d}:=λl Qx k2 q=>by
    refine Z2 ?_;unfold Builtin.Frozenset.unchanged;refine Z2 (L {s with heap:=l,drawn:=d} _ (k2 a o (lt v) U) ?_);rw[if_neg ∅];exact Z3 (Z3 q)
   have mem:∀x,x∈(f++[p]).map (·.1)↔x∈f.map (·.1)\/x=p.1:=λx=>by rw[Zd,Yw,Yu,map_nil,X3]
   have%[o2,a6,a7,t2,bc,ac,an,ae,n,O,as,T,ag,ai,a0|aj]:=id O1;refine Z2 (wpAny_holding (Z2 (um (ks:=I) (z:=p.1) (tk:=p.2) (g b o2 (lt C) ac) ae T ag ai λq q1 q2=>Z2 (Z3 ?_))));cases q with
   | none=>
     have hz:p.1∉I:=λz=>by
      have%[u|hu]:=(d9 n).mpr (O.mem_iff.mpr z);have%[e,he|q3]:=Xu hu;exact q1 rfl e he u q3
     rw[if_pos (by rfl)];refine Z2 (kh (z:=p.1) (tk:=p.2) M (by rw[show scanBound=4096 from rfl];lia) λl bb sb M2=>Z3 ?_);have k2:=λc o B e=>(sb.2 c B).trans (g c o B e)
     refine m l _ k2 %[f++[p],rest,l,by rw[H,Ze];rfl,N,rfl,k2,_,M2,?_|λx=>?_]
     .rw[Z9,Yo]
      split
      .lia
      .rw[Z9,Yo];lia
     .rw[mem];by_cases hx:x=p.1
      .subst hx;refine%[λ_=>%[.inr rfl|hz]|λ_=>?_]
       split
       .rename_i h;exact h
       .exact Yy _ Zm
      .split
       .rw[y];exact%[λh=>%[.inl h.1|h.2]|λh=>%[h.1.resolve_right hx|h.2]]
       .rw[Yw,X3,y];exact%[λh=>let h:=h.resolve_right hx;%[.inl h.1|h.2]|λh=> .inl %[h.1.resolve_right hx|h.2]]
   | some j=>
     have hz:p.1∈I:=by
      have%[u|hu]:=q2 j rfl;exact O.mem_iff.mp ((d9 n).mp %[u|Xv %[_,Z8 hu|rfl]])
     rw[if_neg ∅];refine Z3 (m h' _ g %[f++[p],rest,h',by rw[H,Ze];rfl,N,rfl,g,i,M,by rw[Z9];lia|λx=>?_]);rw[y,mem];refine%[λh=>%[.inl h.1|h.2]|λh=>%[h.1.resolve_right λe=>h.2 (e▸hz)|h.2]]
  .intro _ s' %[f,rest,h',H,ex,rfl,g,i,M,ml|y];obtain rfl:rest=[]:=by
    cases rest with
    | nil=>rfl
    | cons p rest=>cases ex
   rw[Zz]at H;exact Z3 (Z3 (hQ h' d i (λc o e=>g c o (Zt (Zv e)) (J c o e)) (λx=>by rw[y,<-H,pz.mem_iff]) M))
end
def sE:entryFor table "set.__sub__"=some Builtin.«frozenset.__sub__»:=entryFor_alias (id':="frozenset.__sub__") (by kernel_rfl) rfl (by decide +kernel) (by kernel_rfl)
section
variable{X:Cx}
abbrev Bo(w:World):R2:=λx y H Q=>asR x λa=>asR y λb=>∃ks d,H a=some (jT w a ks)/\H b=some (jT w b d)/\ks.length<=900/\∀l c,H l=none->(∀x,x∈c↔x∈ks/\x∉d)->c.Nodup->Q (.ref l) (upd H l (jT w l c))
def Do:OpR X (binaryOp .Sub) (Bo X.w):=by
 intro pins s A H x y v u Q I l m h;have%[a,rfl|n]:=eT h;have%[b,rfl,ks,B,p,r,few|q]:=eT n;cases l;cases m;have%[S,_|_]:=(I.hok a _ p)
 have%[O,_|_]:=(I.hok b _ r)
 have e:∀{c:Addr} {i:ZB},bj X.w c i s.heap->s.TypeIs (.ref c) _:=λ{c i} h=>by
  have%[o,C,E,t,ss,f,g|_]:=h;exact%[o,f|g.1]
 refine wpAny_binaryOp_same (e S) (e O) F.fills_set_sub F.slot_set_sub (wpAny_call_entry F.slot_set_sub (e S) sE (Z2 (Z2 (Z3 (Z3 (Z2 (Z2 (sD S (sD O (Z2 (Z3 (Z2 (Dm S O few λh' d j k w M=>Z3 %[_,rfl,by simp,.ref ⇑s,_,I.stoodS (o:=jT X.w ⇑s j) (I.keptS k rfl rfl) (Zi _) %[M,?_|λ_ _ z k1=>bj.keep z k1],rfl|q _ j (I.hok.fresh (Zi _)) w M.nd])))))))))))) (F.args_set_sub_2 _ _));have%[o,_,_,_,_,f|_]:=M;exact%[o|f]
def FN(h:X.w=w):OpQ X (binaryOp .Sub) (Bo w):=by subst h;exact⟨Do⟩
end
def d5{X:Cx}(a:bX k X.A)(b:behindInMarks .NotIn o=false)(hi:QE X i ty)(c:QE X o d):QT X (.Compare i [.NotIn] [o] pos) (tB (rL ty d)):=
 ⟨zG (yf (by have:=a.units;lia) hi.h c.h) b⟩
open PySem PySem.Spec PyProof.Rows PySem.SeqAt
section
variable{X:Cx}
end
section
variable{X:Cx}{K:ZA}{pos:Pos}
def af(i:Nat){x:Str}(h:(X.N[i]?,X.env.scope.names.lookup x,x==("__debug__":Str),x==("__classdict__":Str))=(some x,some .local,false,false)):QE X (.Name x pos) (pB i):=by
 simp only[Prod.mk.injEq]at h;exact vn i h.1 (.inl h.2.1) h.2.2.1 h.2.2.2
def ei(i:Nat){x:Str}(h:(X.N[i]?,X.env.scope.names.lookup x,x==("__debug__":Str),x==("__classdict__":Str))=(some x,some .cell,false,false)):QE X (.Name x pos) (pB i):=by
 simp only[Prod.mk.injEq]at h;exact vn i h.1 (.inr (.inl h.2.1)) h.2.2.1 h.2.2.2
def aH{mg:ZC}{j k:Nat}{x:Str}{ps:ZB}{sp:Sp}{p:Pos}{e:Expr}{a:List Expr}{t:TA}(C:Cal X.prog X.w K mg X.base j x ps sp)(b:bX k X.A)(h:(X.K,X.mg,X.env.kindOf x,Nat.ble j k,x==("__debug__":Str),(e::a).any be)=(K,mg,some .globalImplicit,true,false,false))(c:QA X (e::a) t):QE X (.Call (.Name x p) (e::a) [] pos) (sZ sp [] E0 t):=by
 simp only[Prod.mk.injEq]at h;have%[rfl,rfl|h]:=h;exact calE C b h.1 h.2.1 h.2.2.1 h.2.2.2 c
def D0{mg:ZC}{j k:Nat}{x:Str}{ps:ZB}{sp:Sp}{p:Pos}{e:Expr}{a:List Expr}{t:TA}(C:Dd X.prog X.w K mg X.base j x ps sp)(c:ub K mg x)(b:bX k X.A)(h:(X.K,X.mg,X.env.kindOf x,Nat.ble (j+1) k,x==("__debug__":Str),(e::a).any be)=(K,mg,some .globalImplicit,true,false,false))(d:QA X (e::a) t):QE X (.Call (.Name x p) (e::a) [] pos) (wJ (cD mg x) sp [] E0 t):=by
 simp only[Prod.mk.injEq]at h;have%[rfl,rfl|h]:=h;exact G0 C c b h.1 h.2.1 h.2.2.1 h.2.2.2 d
def qG{mg:ZC}{j k:Nat}{x m:Str}{ps:ZB}{sp:Sp}{a:Pos}{o:Expr}{b:TE}{pl:Sem Bool}(C:yP X.prog X.w K mg X.base j x m ps sp)(c:ub K mg x)(e:bX k X.A)(h:(X.K,X.mg,Nat.ble j k)=(K,mg,true))
 (g:eval (.Call (.Attribute o m a) [] [] pos) X.env=(do
  let d<-eval o X.env
  standAt a.atName
  let(f,first)<-holding [d] (getMethod d m pl)
  callWith pos f first (backTo pos (starEach [] X.env)) (backToKw pos (keywordEach [] X.env)))) (i:QE X o b):QE X (.Call (.Attribute o m a) [] [] pos) (wI (cD mg x) m sp [] E0 b x5):=by
 simp only[Prod.mk.injEq]at h;have%[rfl,rfl|h]:=h;exact FD C c e h g i
def cbO{x:Str}{id:String}{r:List V->Hp->VK->Prop}{p:Pos}{e:Expr}{a:List Expr}{t:TA}(b:cE X (.builtin id) r)(c:X.mg x=none)(d:bootBuiltins x=some (.builtin id))(h:(X.env.kindOf x,x==("__name__":Str),x==("__debug__":Str),(e::a).any be)=(some .globalImplicit,false,false,false))(f:QA X (e::a) t):QE X (.Call (.Name x p) (e::a) [] pos) (tCB r t):=by
 simp only[Prod.mk.injEq]at h;exact cbE b h.1 c d h.2.1 h.2.2.1 h.2.2.2 f
def ctO{x:Str}{T:String}{r:List V->Hp->VK->Prop}{p:Pos}{e:Expr}{a:List Expr}{t:TA}(b:cE X (.type T) r)(c:X.mg x=none)(d:bootBuiltins x=some (.type T))(h:(X.env.kindOf x,x==("__name__":Str),x==("__debug__":Str),(e::a).any be)=(some .globalImplicit,false,false,false))(f:QA X (e::a) t):QE X (.Call (.Name x p) (e::a) [] pos) (tCB r t):=by
 simp only[Prod.mk.injEq]at h;exact ctE b h.1 c d h.2.1 h.2.2.1 h.2.2.2 f
def bmO{o e:Expr}{c:List Expr}{f:TE}{t:TA}{name:Str}{a b:Pos}{T id:String}{r:V->List V->Hp->VK->Prop}(g:PlainAttrs T)(slot:Slot T name id)(d:typeOf (.builtin id)=pure (.type "method_descriptor"))(i:MtQ X id r)
 (h:(X.K,gU o,(e::c).any be,Nat.blt (e::c).length 30,a.endLine==b.line)=(K,false,false,true,true)) (j:QE X o f) (l:QA X (e::c) t):QE X (.Call (.Attribute o name a) (e::c) [] b) (tBM K T r f t):=by
 simp only[Prod.mk.injEq]at h;have%[rfl|h]:=h;exact bmE rfl g slot d i h.1 h.2.1 h.2.2.1 h.2.2.2 j l
def aF(i:Nat){x:Str}{e:Expr}{b:TE}{a:Pos}(c:X.N.Nodup)(h:(X.N[i]?,X.env.scope.names.lookup x,gT e)=(some x,some .local,false))(d:QE X e b):QS X (.Assign [.Name x a] e pos) (pD b (jB i)):=by
 simp only[Prod.mk.injEq]at h;exact tz i c h.1 (.inl h.2.1) (.inr h.2.1) h.2.2 d
def aL(i:Nat){x:Str}(a:X.N.Nodup)(h:(X.N[i]?,X.env.scope.names.lookup x)=(some x,some .local)):QG X (.Name x pos) (jB i):=by
 simp only[Prod.mk.injEq]at h;exact tD i a h.1 (.inl h.2) (.inr h.2)
end
section
#where
variable{K:ZA}{x C:Addr}{name:Str}{v:Value}{ox:Obj}
end
section
variable{X:Cx}{o value:Expr}{nm:Str}{ta tv:TE}{C:Addr}{pos pos':Pos}
end
section
variable{P:Program}{w:World}{K:ZA}{mg:ZC}{base:Heap}{x qual:Str}{st:Stmt}{N ps:ZB}{k:Nat}{sp:Sp}
end
abbrev lD:V->Bool
 | .byt _=>false
 | .flt _=>false
 | _=>true
def hV(r:aE xs us)(h:j<us.toArray.size):∃x,xs[j]? =some x/\aQ x us.toArray[j]:=by
 have l:=h;have a:j<xs.length:=r.length▸l;have%[u,b|c]:=r.get (i:=j) (x:=xs[j]) ∅
 simp_all
def qH{A:Around}{s:Shared}{x:V}{u v:Value}(e:lD x=true)(a:aQ x u)(c:aQ x v):EqAt A s u v true:=by
 cases x with
 | int i=>
   have%[t|rfl]:=a;have%[d|rfl]:=c;have:=EqAt.int_int (A:=A) (s:=s) i t i d;rwa[beq_self_eq_true]at this
 | str z=>
   have%[t|rfl]:=a;have%[d|rfl]:=c;have:=EqAt.str_str (A:=A) (s:=s) z t z d;rwa[beq_self_eq_true]at this
 | byt b=>cases e
 | flt b=>cases e
 | _=>cases a;cases c;exact EqAt.same _
abbrev xa(H:Hp)(x y:V):Prop:=(x=y/\lD x=true)\/∃a b xs,x= .ref a/\y= .ref b/\H a=some (.lst xs)/\H b=some (.lst xs)/\xs.all lD=true
def Bp{xs:List V}(h:xs.all lD=true){j:Nat}{x:V}(e:xs[j]? =some x):lD x=true:=all_eq_true.mp h x (Z8 e)
section
#version
def oh(I:Inv X pins σ H s){A:Around}(h:xa H x y)(n:A.units<cLine)(f:aQ x u)(g:aQ y v):EqAt A s u v true:=by
 rcases h with⟨rfl,d⟩|⟨a,b,xs,rfl,rfl,o,p,d⟩
 .exact qH d f g
 .cases f;cases g;by_cases e:a=b
  .subst e;exact EqAt.same _
  .have%[us,i,q|_]:=I.list (SqL.of o);have%[vs,l,r|_]:=I.list (SqL.of p);have c:=RcAt.lists (A:=A) (s:=s) (e:=λ_=>true) q.isList r.isList (by rw[Zp,Zp,<-i.length,<-l.length]) n λj t w=>by
    have%[x,ex|z]:=hV i t;have%[y,m|B]:=hV l w;rw[ex]at m;cases m;exact qH (Bp d ex) z B
   rw[show(List.range us.toArray.size).all (λ_=>true)=true by simp]at c;exact EqAt.of_refs e c
end
section
variable{X:Cx}
nonrec abbrev FO:R2:=λx y H Q=>∃a b xs ys,x= .ref a/\y= .ref b/\H a=some (.lst xs)/\H b=some (.lst ys)/\xs.length=ys.length/\(∀(j:Nat) x y,xs[j]? =some x->ys[j]? =some y->xa H x y)/\Q (.bl true) H
def FP(B:X.A.units+64<cLine):OpR X (compareOp .Eq) FO:=by
 intro pins s C H x y v u Q I d f h;have%[a,b,xs,ys,rfl,rfl,g,i,l,m|q]:=h;cases d;cases f;have%[us,d,n|_]:=I.list (SqL.of g);have%[vs,f,o|_]:=I.list (SqL.of i);have c:=RcAt.lists (A:=X.A) (s:=s) (e:=λ_=>true) n.isList o.isList (by rw[Zp,Zp,<-d.length,<-f.length,l]) ⋯ λj p r=>by
  have%[x,ex|t]:=hV d p;have%[y,w|z]:=hV f r;exact oh I (m j x y ex w) (by show X.A.units+1<cLine;lia) t z
 rw[show(List.range us.toArray.size).all (λ_=>true)=true by simp]at c;exact c _ _ _ _ %[.bl _,H,I,rfl|q]
def Bq(a:bX k X.A):OpQ X (compareOp .Eq) FO:=⟨FP a.units⟩
end
section
#version
end
section
variable{X:Cx}
end
abbrev pO(L:List Addr)(c:Addr->Obj)(H:Hp):Hp:=λb=>if b∈L then(match H b with|some (.dK a)=>some (.frz (c b) (.dK a))|x=>x)else H b
def mY(h:b∈L)(e:H b=some (.dK a)):pO L c H b=some (.frz (c b) (.dK a)):=by
 unfold pO;rw[if_pos h,e]
def oi(h:b∉L):pO L a H b=H b:=if_neg h
def hW(h:∀a,H b≠some (.dK a)):pO L d H b=H b:=by
 unfold pO;by_cases c:b∈L
 .rw[if_pos c];cases e:H b with
  | none=>rfl
  | some o=>cases o<;> first|rfl|exact(h _ e).elim
 .rw[if_neg c]
section
variable{P:Program}{w:World}{K:ZA}{mg:ZC}{base:Heap}{k:Nat}{f:Addr}{fd:FuncData}{ps:ZB}{sp:Sp}
def Dp(x:HOk P w H h):HOk P w (pO L (λb=>(h.get? b).getD default) H) h:=by
 intro b o e;have st:∀{b:Addr} {o:HO},b8 P w H h b o->b8 P w (pO L (λb=>(h.get? b).getD default) H) h b o:=λq=>q.stay (λ_ _ _ q=>q) (λc q=>by rw[hW (λa z=>by lia)];exact q) λc xs q=>by rw[hW (λa z=>by rw[q]at z;cases z)];exact q
 by_cases c:b∈L
 .by_cases d:∃a,H b=some (.dK a)
  .have%[a|d]:=d;rw[mY c d]at e;cases e;have%[i|g]:=(x b _ d).there;exact%[by rw[g];rfl|st (x b _ d)]
  .rw[hW (λa z=>d %[a|z])]at e;exact st (x b o e)
 .rw[oi c]at e;exact st (x b o e)
def FQ(u:Un fs [] H c h h'):Un fs [] H (pO L g c) h h':=by
 refine%[u.keep,u.slot,λb o e n d=>?_,u.there,λb xs e=>?_,λb o v e=>?_|λb q e=>?_]
 .have:=u.free b o e n d;rw[hW (λa z=>by lia)];exact this
 .have:=u.tups b xs e;rw[hW (λa z=>by rw[this]at z;cases z)];exact this
 .have:=u.frzs b o v e;rw[hW (λa z=>by rw[this]at z;cases z)];exact this
 .have%[m|this]:=u.tbls b q e;exact%[m|by rw[hW (λa z=>by rw[this]at z;cases z)];exact this]
def eE.freeze(F:eE P w K mg base CX0 k f fd ps sp):eE P w K mg base CX0 k f fd ps (λvs H Q E=>sp vs H (λv b=>∃L,∀c,Q v (pO L c b)) E):=by
 refine%[λvs H Q E=>F.len vs H _ E|λA outer s H args us vs Q E d g h i j=>codeAny_mono (F.run A outer s H args us vs _ E d g h i j) λr s' a=>?_];cases r with
 | error e=>exact a
 | ok l=>
   cases l with
   | ret u=>
     have%[v,y,m,n,o,p,q,L|t]:=a;exact%[v,_,m,n,FQ o,Dp p,q|t _]
   | next=>exact a
   | brk=>exact a
   | cont=>exact a
def eE.frozen(F:eE P w K mg base CX0 k f fd ps sp):eE P w K mg base CX0 k f fd ps (λvs H Q E=>∃d a,vs.length=ps.length/\H d=some (.dK a)/\∀o,sp vs (upd H d (.frz o (.dK a))) (λv J=>Q v (upd J d (.dK a))) E):=by
 refine%[λvs H Q E ⟨d,a,l,_⟩=>l|λA outer s H args us vs Q E L g y M ⟨d,a,_,B,N⟩=>?_];have%[o|O]:=(g.hok d _ B).there;have h:∀{b:Addr},H b=none->b≠d:=λe z=>by rw[z,B]at e;cases e
 have ne:∀{b:Addr} {u:HO},H b=some u->(∀q,u≠ .dK q)->b≠d:=λe n z=>by rw[z,B]at e;cases e;exact n _ rfl
 have st:∀{b:Addr} {u:HO},b8 P w H s.heap b u->b8 P w (upd H d (.frz o (.dK a))) s.heap b u:=λq=>q.stay (λ_ _ _ q=>q) (λc q=>(am (ne q λ_ z=>nomatch z))▸q) λc xs q=>(am (ne q λ_ z=>nomatch z))▸q
 have C:vw P w K mg base A outer s (upd H d (.frz o _)):=⟨g.frames,g.mod,λb i e=>%[(g.bs b i e).1|by rw[am (h (g.bs b i e).2)];exact(g.bs b i e).2],g.bsz,g.funs,λb y=>by rw[am (h (g.frf b y))];exact g.frf b y,λb u e=>by
  by_cases c:b=d
  .subst c;rw[aa]at e;cases e;exact%[O|st (g.hok b _ B)]
  .rw[am c]at e;exact st (g.hok b u e),g.bare⟩
 refine codeAny_mono (F.run A outer s _ args us vs _ E L C y M (N o)) λr s' m=>?_
 cases r with
 | error e=>exact m
 | ok T=>
   cases T with
   | next=>exact m
   | brk=>exact m
   | cont=>exact m
   | ret u=>
     have%[v,G,U,Y,j,I,h5|h6]:=m;have hf:=j.frzs d o _ aa;have p:∀{b:Addr} {u:HO},G b=some u->(∀o q,u≠ .frz o q)->b≠d:=λe n z=>by grind
     have t:∀{b:Addr} {u:HO},b8 P w G s'.heap b u->b8 P w (upd G d (.dK a)) s'.heap b u:=λq=>q.stay (λ_ _ _ q=>q) (λc q=>(am (p q λ_ _ z=>nomatch z))▸q) λc xs q=>(am (p q λ_ _ z=>nomatch z))▸q
     refine%[v,_,U,Y,%[λb i e n=>j.keep b i e ((am (h n))▸n),λb i e n=>j.slot b i e ((am (h n))▸n),λb i e n hx=>?_,j.there,λb xs e=>?_,λb i u e=>?_|λb q e=>?_],λb u e=>?_,h5|h6]
     .rw[am (h n)];exact j.free b i e ((am (h n))▸n) hx
     .have n:=ne e λ_ z=>nomatch z
      rw[am n];exact j.tups b xs ((am n)▸e)
     .have n:=ne e λ_ z=>nomatch z
      rw[am n];exact j.frzs b i u ((am n)▸e)
     .have n:=ne e λ_ z=>nomatch z
      rw[am n];exact j.tbls b q ((am n)▸e)
     .by_cases c:b=d
      .subst c;rw[aa]at e;cases e;exact t (I b _ hf).2
      .rw[am c]at e;exact t (I b u e)
end
abbrev Itk(d:Addr)(o:Obj)(a:List (Key×V)):It:=⟨λi H=>H d=some (.frz o (.dK a))/\i<a.length,λi H x b=>b=H/\∃k v,a[i]? =some (k,v)/\x=kV k,λi H=>H d=some (.frz o (.dK a))/\a.length<=i⟩
abbrev ut(c:TE):TI:=λe H R=>c e H λv b=>∃d o a,v= .ref d/\b d=some (.frz o (.dK a))/\R (Itk d o a) b
def xc(h:jz k v=true):aQ (kV k) v:=by
 rcases aW h with⟨i,t,rfl,rfl⟩|⟨x,t,rfl,rfl⟩
 .exact%[t|rfl]
 .exact%[t|rfl]
def Br{a:List _}{vs:List _}(r:KV a vs){i:Nat}{k:Key}{v:V}(e:a[i]? =some (k,v)):∃u,vs[i]? =some (k,u)/\aQ v u:=by
 induction r generalizing i with
 | nil=>cases e
 | @cons p q ps qs b t c=>
   cases i with
   | zero=>
     obtain rfl:p=(k,v):=Za e;exact%[q.2,by rw[show k=q.1 from b.1];rfl|b.2]
   | succ i=>exact c e
def iX(r:KV a vs):a.length=vs.length:=by
 induction r with
 | nil=>rfl
 | cons _ _ b=>simp_all
section
variable{P:Program}{w:World}{K:ZA}{tg:Expr}
def sF{X:Cx}(I:Inv X pins n H s)(e:H d=some (.frz o (.dK a)))(b:o.data= .dict f h):∃vs,KV a vs/\s.heap.DictAt (aM X.prog X.w) d vs h:=by
 have%[g,p,q,vs,r,t,i,j,g',l,c|m]:=I.hok d _ e;rw[g]at g';cases g';rw[b]at c;cases c;exact%[vs,r,_,f,g,l,b|m]
def Bs(d it:Addr)(o:Obj)(kvs:List _):nh P w K tg (Itk d o kvs) [it] it (λi h=>∃es ep,o.data= .dict es ep/\h.IsKeyIter it d i kvs.length ep) where
 mem:=by simp
 obj:=λi h st b hb=>by
  have e:=by simpa using hb
  subst e;have%[_,_,_,o,e,c|d]:=st;exact%[o,e|λv z=>by rw[d]at z;cases z]
 keep:=λi h h' ⟨es,ep,ho,st⟩ k=>%[es,ep,ho|st.at λo e=>k it ∅ o e]
 item:=by
  intro X hP hw hK hc i pins s σ H E I hf st hg;subst hP hw hK;have%[es,ep,ho|st]:=st;have%[hd|hi]:=hg;have%[vs,r|da]:=sF I hd ho;have ln:=iX r;have%[u,hu|ru]:=Br r (Z4 hi);have%[f0,f1,f2,f3,f4|f5]:=hf it ∅;rw[ln]at st;refine wpAny_pyNext_dict_item st da hu λkey h' hk st' sb=>?_
  rw[<-ln]at st';have%[o',e,c|dd]:=id st';exact%[key,rfl|pZ e c dd (by decide) %[_,H,(I.turned (λb o hb e=>(sb.2 b hb).trans e) f0 f1 f3 f4 f5),xc hk,%[rfl,_,_,Z4 hi|rfl],%[es,ep,ho|st']|λb hb=>(hf b hb).1]]
 done:=by
  intro X hP hw hK hc i pins s σ H E I hf st hg;subst hP hw hK;have%[es,ep,ho|st]:=st;have%[hd|hi]:=hg;have%[vs,r|da]:=sF I hd ho;have ln:=iX r;have%[f0,f1,f2,f3,f4|f5]:=hf it ∅;rw[ln]at st;exact wpAny_pyNext_dict_end (I.ok.hd hc) st da (Xq ⋯) λh' eb=>%[rfl|I.turned (λb o hb e=>eb b o hb e) f0 f1 f3 f4 f5]
 self:=λ_ _ _ _ _ ⟨_,_,_,st⟩ h=>wpAny_pyIter_keyiter st h
def Dq{X:Cx}(n:PE X l p):PI X tg l (ut p):=by
 intro pins s t H R I h;refine thP (n pins s t H _ I h) λv c x u a y z=>?_
 have%[d,o,f,e,A|q]:=z;subst e;cases y;have%[g,M,B,vs,r,C,i,j,g',E,m|G]:=a.hok d _ A;have J:c.heap.DictAt _ d vs j:=%[C,i,g',E,m|G]
 rw[g]at g';cases g';refine wpAny_pyIter_dict B J %[⇑c,[⇑c],_,_,u,rfl,a.kept λb o e=>Z7 _ e,Bs d _ o f,%[i,j,m,_,Zj _ rfl,rfl|by rw[iX r];rfl],λb L=>?_|q];have e:=by simpa using L
 subst e;exact a.fpOk (Zi _) (a.hok.fresh (Zi _))
def Bt{X:Cx}(a:QE X l b):QI X tg l (ut b):=⟨Dq a.h⟩
end
abbrev Iti(d:Addr)(o:Obj)(a:List (Key×V)):It:=⟨λi H=>H d=some (.frz o (.dK a))/\i<a.length,λi H v b=>∃k x T,a[i]? =some (k,x)/\H T=none/\v= .ref T/\b=upd H T (.tup [kV k,x]),λi H=>H d=some (.frz o (.dK a))/\a.length<=i⟩
abbrev Bu(c:TE):TI:=λe H R=>c e H λv b=>∃d o a,v= .ref d/\b d=some (.frz o (.dK a))/\R (Iti d o a) b
def sG:entryFor table "dict_itemiterator.__iter__"=some Builtin.«dict_keyiterator.__iter__»:=
 entryFor_alias (id (Eq.refl (fastTable "dict_itemiterator.__iter__"))) (Eq.refl ("dict_itemiterator.__iter__".cutAt '#')) (by decide +kernel) (id (Eq.refl (fastTable "dict_keyiterator.__iter__")))
section
variable{P:Program}{w:World}{K:ZA}{elts:List Expr}{kt:Nat}{tp:Pos}
def wj(d it:Addr)(o:Obj)(kvs:List (Key×V)):nh P w K (.Tuple elts kt tp) (Iti d o kvs) [it] it (λi h=>∃es ep ok ov,o.data= .dict es ep/\IsItemIter h it d i kvs.length ep ok ov) where
 mem:=by simp
 obj:=λi h st b hb=>by
  have e:b=it:=by simpa using hb
  subst e;have%[_,_,_,_,_|e]:=st;exact%[_,e|λv z=>nomatch z]
 keep:=λi h h' ⟨es,ep,ok,ov,ho,st⟩ k=>%[es,ep,ok,ov,ho|k it ∅ _ st]
 item:=by
  intro X hP hw hK hc i pins s σ H E I hf st hg;subst hP hw hK;have%[es,ep,ok,ov,ho|st]:=st;have%[hd|hi]:=hg;have%[vs,r|da]:=sF I hd ho;have ln:=iX r;have%[u,hu|ru]:=Br r (Z4 hi);have ilt:it<⇑s:=Zv st;rw[ln]at st;refine wpAny_pyNext_items_item st da hu λkey h1 hk st1 ht1 hz1 hk1=>%[_,rfl|wpAny_letOwnedTupleGo_items (s:={s with heap:=h1}) st1 λh2 st2 sb2=>?_]
  replace sb2:SameBut it h1 h2:=sb2;have kk:∀b o,b∉[it]->s.heap.get? b=some o->h2.get? b=some o:=λb o hb q=>by
   have hb:b≠it:=by simpa using hb
   exact(sb2.2 b hb).trans (hk1 b o hb q)
  have J:Inv X pins σ H {s with heap:=h2}:=I.moved hf kk;have hT:=(sb2.2 _ (X6 ilt)).trans ht1;have I2:Inv X pins σ (upd H ⇑s (.tup _)) _:=
   I.stood J (Zi _) %[by show 2<=sizeLine;decide,[key,u],.cons (xc hk) (.cons ru .nil),_,hT,rfl,_|rfl]
  rw[<-ln]at st2;refine%[.ref ⇑s,_,I2,rfl,%[_,_,_,Z4 hi,I.fresh,rfl|rfl],%[es,ep,_,_,ho|st2]|λb hb=>?_];rw[am ((by simpa using hb)▸Zt ilt)];exact(hf b hb).1
 done:=by
  intro X hP hw hK hc i pins s σ H E I hf st hg;subst hP hw hK;have%[es,ep,ok,ov,ho|st]:=st;have%[hd|hi]:=hg;have%[vs,r|da]:=sF I hd ho;have ln:=iX r;rw[ln]at st;refine wpAny_pyNext_items_end (I.ok.hd hc) st da (Xq ⋯) λh1 xb=>%[rfl|I.moved hf λb o hb q=>?_]
  exact xb b o (by simpa using hb) q
 self:=λA i s Q E ⟨_,_,_,_,_,st⟩ h=>by
  have hT:s.TypeIs (.ref it) _:=%[_,st|rfl]
  exact wpAny_pyIter_slot hT PySem.F.slot_dict_itemiterator_iter (wpAny_call_entry PySem.F.slot_dict_itemiterator_iter hT sG (Z3 %[.ref it,rfl,"dict_itemiterator",_,hT,PySem.F.slot_dict_itemiterator_next.lookup|h]) (PySem.F.args_dict_itemiterator_iter_1 _))
def FR{X:Cx}(n:gU o=false)(c:(i.endLine==j.line)=true)(G:QE X o J):QI X (.Tuple elts kt tp) (.Call (.Attribute o "items" i) [] [] j) (Bu J):=by
 refine⟨λpins s z H R I h=>?_⟩;refine wpAny_Call_method0_late (fG n) c (thP (G.h pins s z H _ I h) λv a x p l L M=>?_);have%[d,t,f,e,u|q]:=M;subst e;cases L;have g:cB p d (kV (.inr Str.empty)) (bJ f (.inr Str.empty)):= .inl %[f,_,.inr %[t|u],rfl|rfl];refine%["dict",_,plainAttrs_dict,PySem.F.slot_dict_items,PySem.F.type_dict_items,lZ l g,tt l g|Calls.callWith_builtin rfl (PySem.evalArgs_none ?_)];have%[hz,N,vs,r|A]:=nu l.hok (.inr %[t|u]);refine call_meetsIn PySem.F.slot_dict_items A.typeIs PySem.F.entry_dict_items (PySem.F.args_dict_items_1 _) (meets_dict_items (aM X.prog X.w) d N) %[%[vs|A]|?_];have m:Inv X pins z p {a with heap:=a.heap.push {cls:= .type "dict_items",data:= .fields #[.ref d]}}:=l.kept (t':=a.toks) λb o e=>Z7 _ e
 have%[O,_,_,y,Q,T,B,C,g',U,E|Y]:=m.hok d _ u;have da:Heap.DictAt (aM X.prog X.w) (a.heap.push {cls:= .type "dict_items",data:= .fields #[.ref d]}) d y C:=%[T,B,g',U,E|Y]
 rw[O]at g';cases g';refine wpAny_pyIter_items (s:={a with heap:=a.heap.push {cls:= .type "dict_items",data:= .fields #[.ref d]}}) %[_,Zj _ rfl,rfl|rfl] da ?_;refine%[_,[_],_,_,p,rfl,(m.kept (t':=a.toks) λb o e=>Z7 _ e),wj d _ t f,%[B,C,_,_,E|by rw[iX Q];exact Zj _ rfl],λb n=>?_|q];have e:b=(a.heap.push {cls:= .type "dict_items",data:= .fields #[.ref d]}).objs.size:=by simpa using n
 subst e;exact m.fpOk (Zi _) (m.hok.fresh (Zi _))
end
section
variable{X:Cx}
def G5:MtQ X "list.pop" GJ:=⟨EY⟩
abbrev G6:V->List V->Hp->VK->Prop:=λx vs H Q=>asR x λa=>∃b,vs=[.ref b]/\∃c more,a≠b/\H a=some (.dK c)/\H b=some (.dK more)/\c.length+more.length<=sizeLine/\Q .non (upd H a (.dK (lq c more)))
def FS:MtM X "dict.update" G6:=by
 intro pins s B H x vs v us Q I m n h;have%[a,rfl,b,rfl,o,more,ne,g,p,i|q]:=eT h;cases m;have%[u,rfl|r]:=n.one;cases r;have%[z,t,vs,d|j]:=kb I.hok g;have%[C,e,w,c|f]:=kb I.hok p;exact call_meetsIn PySem.F.slot_dict_update j.typeIs PySem.F.entry_dict_update (PySem.F.args_dict_update_2 _ _) (meets_dict_update _ a b ne e) %[vs,w,j,f,by rw[<-iX d,<-iX c];exact i|λh' l E y=>%[.non,_,mU I (g▸True.intro) y (let⟨q,_,_,A,_⟩:=l;%[q|A]) (vA (Yk (jC _ _) i) t (KV.merge c d) l),rfl|q]]
def Bv:MtQ X "dict.update" G6:=⟨FS⟩
abbrev Ea:V->List V->Hp->VK->Prop:=λx vs H Q=>asR x λa=>∃k,vs=[kV k]/\∃b,H a=some (.dK b)/\Q ((bJ b k).getD .non) H
def Dr:MtM X "dict.get" Ea:=by
 intro pins s l H x vs v us Q I f g h;have%[a,rfl,k,rfl,b,e|q]:=eT h;cases f;have%[m,rfl|i]:=g.one;have%[z,j,vs,c|d]:=kb I.hok e;exact call_meetsIn slot_dict_get d.typeIs PySem.F.entry_dict_get (PySem.F.args_dict_get_2 _ _) (meets_dict_get _ a (lW i) j) %[_,d.mapOf,(bJ b k).getD .non,H,I.tok _,(c.val k).getD rfl|q]
def FT:MtQ X "dict.get" Ea:=⟨Dr⟩
end
def Cal.freeze{P:Program}{K:ZA}(C:Cal P w K mg base k x ps sp):Cal P w K mg base k x ps (λvs H Q E=>sp vs H (λv a=>∃L,∀b,Q v (pO L b a)) E):=by
 have%[f,c,F|r]:=C.ex;exact%[f,c,F.freeze|r]
def Cal.imp{P:Program}{K:ZA}(C:Cal P w K mg base k x ps sp)(h:∀vs H Q E,a vs H Q E->sp vs H Q E):Cal P w K mg base k x ps a:=by
 have%[f,b,F|r]:=C.ex;exact%[f,b,F.imp h|r]
def Cal.frozen{P:Program}{K:ZA}(C:Cal P w K mg base k x ps sp):Cal P w K mg base k x ps (λvs H Q E=>sp vs H Q E\/∃d a,vs.length=ps.length/\H d=some (.dK a)/\∀o,sp vs (upd H d (.frz o (.dK a))) (λv i=>Q v (upd i d (.dK a))) E):=by
 have%[f,j,F|r]:=C.ex;refine%[f,j,%[λvs H Q E h=>h.elim (F.len vs H Q E) (F.frozen.len vs H Q E)|λA outer s H args us vs Q E b c e g h=>h.elim (F.run A outer s H args us vs Q E b c e g) (F.frozen.run A outer s H args us vs Q E b c e g)]|r]
def uu{a:List (Key×V)}{g:TG}{n:TS}{D:lg}(Pv:Nat->St->Hp->Prop)(s:Pv 0 b H)(t:∀i b H,i<=a.length->Pv i b H->H d=some (.frz o (.dK a)))
 (u:∀i k v b H,a[i]? =some (k,v)->Pv i b H->g (kV k) b H λc l=>n {D with nx:=Pv (i+1),ct:=Pv (i+1),bk:=D.nx} c l) (w:∀b H,Pv a.length b H->D.nx b H):
 ∃W:Nat->Nat->St->Hp->Prop,(∃m,W 0 m b H)/\∀i m b H,W i m b H->
  ((Itk d o a).stop i H/\D.nx b H)\/((Itk d o a).go i H/\∃N:St->Hp->Prop,(∀f h,N f h->∃r,r<m/\W (i+1) r f h)/\∀x h,(Itk d o a).yld i H x h->g x b h λc l=>n {D with nx:=N,ct:=N,bk:=D.nx} c l):=by
 refine%[λi m b H=>m=a.length-i/\i<=a.length/\Pv i b H,%[a.length,by simp,Xj _|s]|?_];intro i m b H %[rfl,hi|p];have q:=t i b H hi p;by_cases j:i<a.length
 .refine .inr %[%[q|j],Pv _,λf h z=>%[a.length-(i+1),⋯,rfl,j|z]|λx h y=>?_];have%[e,k,v,y|rfl]:=y;subst e;exact u i k v b _ y p
 .have e:i=a.length:=by lia
  subst e;exact .inl %[%[q|Zi _]|w b H p]
def y4{a:List (Key×V)}{g:TG}{r:TS}{D:lg}(Pv:Nat->St->Hp->Prop)(t:Pv 0 b H)(u:∀i b H,i<=a.length->Pv i b H->H d=some (.frz o (.dK a)))
 (w:∀i k v T b H,a[i]? =some (k,v)->Pv i b H->H T=none->g (.ref T) b (upd H T (.tup [kV k,v])) λc n=>r {D with nx:=Pv (i+1),ct:=Pv (i+1),bk:=D.nx} c n) (z:∀b H,Pv a.length b H->D.nx b H):
 ∃W:Nat->Nat->St->Hp->Prop,(∃m,W 0 m b H)/\∀i m b H,W i m b H->
  ((Iti d o a).stop i H/\D.nx b H)\/((Iti d o a).go i H/\∃N:St->Hp->Prop,(∀h j,N h j->∃s,s<m/\W (i+1) s h j)/\∀x j,(Iti d o a).yld i H x j->g x b j λc n=>r {D with nx:=N,ct:=N,bk:=D.nx} c n):=by
 refine%[λi m b H=>m=a.length-i/\i<=a.length/\Pv i b H,%[a.length,by simp,Xj _|t]|?_];intro i m b H %[rfl,hi|p];have q:=u i b H hi p;by_cases l:i<a.length
 .refine .inr %[%[q|l],Pv _,λh j A=>%[a.length-(i+1),⋯,rfl,l|A]|λx j y=>?_];have%[k,v,T,y,f,rfl|rfl]:=y;exact w i k v T b H y p f
 .have e:i=a.length:=by lia
  subst e;exact .inl %[%[q|Zi _]|z b H p]
section
variable{X:Cx}
end
section
variable{prog:Program}{w:World}{A:Around}{R:Result->Shared->Prop}{I S:Addr}{fp wr:List Addr}{n:Nat}{P:Nat->Value->Prop}{St:Nat->Heap->Prop}{val:Nat->Int}{kn:Str}{d:Value}
end
section
variable{X:Cx}{e v:Expr}{te tv:TE}{p pos kpos:Pos}
end
section
variable{X:Cx}{K:ZA}{e v:Expr}{te tv:TE}{p pos kpos:Pos}
end
section
variable{prog:Program}{w:World}{A:Around}{s:Shared}{E:ZD}
end
section
variable{X:Cx}{K:ZA}
end
abbrev FU:V->List V->Hp->VK->Prop:=λx ys H Q=>∃z y,x= .str z/\ys=[V.str y]/\y.length<=1000/\z.length<=1000/\Q (.str (Txt.join z (signs y))) H
def xf{X:Cx}(a:X.calm=true):MtQ X "str.join" FU:=⟨by
 intro pins s i H x ys v us Q I b c h;have%[z,y,rfl,rfl,d,e|q]:=h;have%[j|rfl]:=(b)
 have%[u,rfl|f]:=dg c;have%[t|rfl]:=(f)
 exact PySem.SC.joinStr (I.ok.hd a) (joinOk_signsN d e (by decide)) λh' k t' g=>%[.str _,H,I.kept g,%[_|rfl]|q]⟩
section
variable{X:Cx}
nonrec abbrev G7:R2:=λx y H Q=>∃(a p:Addr) (ws:List (Addr×List V)),x= .ref a/\y= .ref p/\H a=some (.lst [])/\H p=some (.lst (ws.map λt=>V.ref t.1))/\(∀t∈ws,H t.1=some (.lst t.2)/\t.2≠[])/\Q (.bl false) H
def FV(B:X.A.units+64<cLine):OpR X (compareOp .In) G7:=by
 intro pins s C H x y v u Q I f g h;have%[a,p,ws,rfl,rfl,c,i,hw|q]:=h;cases f;cases g;have%[us,r,pl|_]:=I.list (SqL.of i);have%[l,m,n|_]:=I.list (SqL.of c);refine in_listAt (λ_=>false) pl.isList (λy o=>?_) %[.bl false,H,I,by simp[aQ]|q];have%[j,w|rfl]:=Yh (by simpa using o);have%[x,ex|rr]:=hV r (w);rw[Zl]at ex;have%[t,z|rfl]:=map_eq_some_iff.mp ex;have%[b|d]:=hw t (Z8 z);have%[vs,A,pv|_]:=I.list (SqL.of b);rw[show us[j]=Value.ref t.1 from rr];refine EqAt.of_refs (λe=>d ?_) (RcAt.lists_lengths pv.isList n.isList ?_ ⋯)
 .rw[e,c]at b;exact(HO.lst.inj (Za b)).symm
 .have:=A.length;have:=m.length;have:vs.length≠l.length:=λe=>d (length_eq_zero_iff.mp (by simp_all))
  simpa using this
def G8{k:Nat}(a:bX k X.A):OpQ X (compareOp .In) G7:=⟨FV a.units⟩
nonrec abbrev G9:R2:=λx y H Q=>∃a b xs ys,x= .ref a/\y= .ref b/\H a=some (.lst xs)/\H b=some (.lst ys)/\xs.length=ys.length/\(∀(j:Nat) (x y:V),xs[j]? =some x->ys[j]? =some y->xa H x y)/\Q (.bl false) H
def FW(z:X.A.units+64<cLine):OpR X (compareOp .NotEq) G9:=by
 intro pins s B H x y v u Q I d e h;have%[a,b,xs,ys,rfl,rfl,f,g,i,l|q]:=h;cases d;cases e;have%[us,d,m|_]:=I.list (SqL.of f);have%[vs,e,n|_]:=I.list (SqL.of g);have c:=RcNeAt.lists (A:=X.A) m.isList n.isList (by rw[Zp,Zp,<-d.length,<-e.length,i]) (by omega) λj o p=>by
  have%[x,ex|r]:=hV d o;have%[y,t|w]:=hV e p;exact oh I (l j x y ex t) ⋯ r w
 rw[show(List.range us.toArray.size).all _=true by simp]at c;exact c _ _ _ _ %[.bl _,H,I,rfl|q]
def Ha{k:Nat}(a:bX k X.A):OpQ X (compareOp .NotEq) G9:=⟨FW a.units⟩
def lE{xs:List V}{us:ZF}(r:aE xs us):∀is:List Nat,aE (is.filterMap (xs[·]?)) (is.filterMap (us.toArray[·]?))
 |[]=> .nil
 | i::is=>by
   have h:us.toArray[i]? =us[i]? :=by simp
   rw[Y1,Y1,h];by_cases c:i<xs.length
   .have%[u,a|b]:=r.get (i:=i) (x:=xs[i]) ∅;rw[a,Z4 c];exact .cons b (lE r is)
   .rw[Xq (by omega),Xq (by have:=r.length;omega)];exact lE r is
abbrev FX(e b:TE):TE:=λd H Q=>e d H λx f=>b d f λy c=>∃a xs,x= .ref a/\c a=some (.lst xs)/\y= .int 2/\∀(p:Addr) (is:List Nat),c p=none->(is.filterMap (xs[·]?)).length<=xs.length->Q (.ref p) (upd c p (.lst (is.filterMap (xs[·]?))))
def FY{e st:Expr}{m d:TE}{pos n:Pos}(w:PE X e m)(j:PE X st d):PE X (.Subscript e (.Slice none none (some st) n) pos) (FX m d):=by
 intro pins s i H Q I h;refine Subscript_ (thP (w pins s i H _ I h) λv z x A B C E=>?_);refine wpAny_Slice (evalPart_none_step (evalPart_none_step (evalPart_some_step (thP (j pins z i A _ B E) λu c y G J L ⟨a,xs,ex,M,N,q⟩=>?_))));subst ex N;cases C;have%[f|rfl]:=(show∃t,u=Value.int 2 t from L)
 have l:Inv X pins i G {c with heap:=c.heap.push {cls:= .type "slice",data:= .fields #[.none,.none,.int 2 f]}}:=J.kept (t':=c.toks) λb O q=>Z7 _ q
 show (wpAny (model X.prog X.w) X.A) (subscriptTail e (.Slice none none (some st) n) (.ref a) (.ref ⇑c)) (EP X pins i Q) X.xe {c with heap:=c.heap.push {cls:= .type "slice",data:= .fields #[.none,.none,.int 2 f]}};have U:(c.heap.push {cls:= .type "slice",data:= .fields #[.none,.none,.int 2 f]}).IsSliceOf ⇑c .none .none (.int 2 f):=Heap.IsSliceOf.new ..;have%[its,r,p|Y]:=l.list (SqL.of M);have g:=r.length;refine tail_any (ops:=[.ref a,.ref ⇑c]) (T:="list") p.isList.typeIs slot_list_getitem.lookup (wpAny_getItem_list_slice p.isList U .none .none (.int 2 f) ∅ ?_ (by rw[Zp];omega)) (by with_unfolding_all rfl);have sz:=slicePick_size_le its.toArray none none (some 2);unfold slicePick at sz ⊢
 generalize sliceRange _ _ _=is at sz ⊢
 rw[Zp,Zp]at sz;have pv:=lE r is;have le:(is.filterMap (xs[·]?)).length<=xs.length:=by rw[pv.length,g];exact sz
 refine%[.ref _,_,l.laid (t':=c.toks) (o:= .lst (is.filterMap (xs[·]?))) (λb O q=>Z7 _ q) (Zi _) ?_,rfl|q _ is (l.hok.fresh (Zi _)) le];exact%[Yk le Y,_,0,pv|Zj _ rfl]
def sl2E{e st:Expr}{c a:TE}{pos d:Pos}(f:QE X e c)(b:QE X st a):QE X (.Subscript e (.Slice none none (some st) d) pos) (FX c a):=⟨FY f.h b.h⟩
end
end L2
namespace Cut
open PySem L2
inductive dH (S:Str->Str->Prop):Str->Str->Prop
 | refl (x:Str):dH S x x
 | step {x y z:Str}:dH S x y->(S y z\/S z y)->dH S x z
def dH.trans{S:Str->Str->Prop}(h:dH S x y)(g:dH S y z):dH S x z:=by
 induction g with
 | refl=>exact h
 | step _ s a=>exact .step a s
def dH.one{S:Str->Str->Prop}(h:S x y\/S y x):dH S x y:= .step (.refl x) h
def dH.symm{S:Str->Str->Prop}(h:dH S x y):dH S y x:=by
 induction h with
 | refl=>exact .refl _
 | step _ s a=>exact(dH.one s.symm).trans a
def dH.mono{S R:Str->Str->Prop}(m:∀a b,S a b->R a b)(h:dH S x y):dH R x y:=by
 induction h with
 | refl=>exact .refl _
 | step _ s c=>exact .step c (s.imp (m _ _) (m _ _))
def dH.within{S:Str->Str->Prop}{p:Str->Prop}(w:∀a b,S a b->p a/\p b)(h:dH S x y)(c:p x):p y:=by
 induction h with
 | refl=>exact c
 | step _ s _=>
   rcases s with s|s
   .exact(w _ _ s).2
   .exact(w _ _ s).1
abbrev bW(S:Str->Str->Prop)(z r:Str):Prop:=dH S z r/\∀y,dH S z y->aO y r=false
def bW.one{S:Str->Str->Prop}(h:bW S z r)(g:bW S z a):r=a:=by
 by_cases e:r=a
 .exact e
 .have:=cA (g.2 _ h.1) e;rw[h.2 _ g.1]at this;cases this
def oj{S:Str->Str->Prop}{z m:Str}{F:ZB}(d:z∈F)(a:∀x∈F,dH S z x)(e:∀x∈F,∀y,(S x y\/S y x)->y∈F)(b:m∈F)(c:∀y∈F,aO y m=false):bW S z m:=by
 refine%[a m b|λy h=>c y ?_];clear c b a
 induction h with
 | refl=>exact d
 | step _ s f=>exact e _ f _ s
structure bG (ls:ZB) (f r:Str->Str) (S:Str->Str->Prop):Prop where
 ws:∀a b,S a b->a∈ls/\b∈ls
 fin:∀z∈ls,f z∈ls
 rin:∀z∈ls,r z∈ls
 rf:∀z∈ls,r (f z)=r z
 fr:∀z∈ls,f (r z)=r z
 fix:∀z∈ls,f z=z->r z=z
 dec:∀z∈ls,f z≠z->aO (f z) z=true
 le:∀z∈ls,aO z (r z)=false
 cl:∀x∈ls,∀y∈ls,r x=r y↔dH S x y
def bG.rr{S:Str->Str->Prop}(F:bG a f r S)(h:z∈a):r (r z)=r z:=F.fix _ (F.rin z h) (F.fr z h)
def bG.conn{S:Str->Str->Prop}(F:bG a f r S)(h:z∈a):dH S z (r z):=(F.cl z h _ (F.rin z h)).mp (F.rr h).symm
def bG.least{S:Str->Str->Prop}(F:bG b f r S){z:Str}(h:z∈b):bW S z (r z):=by
 refine%[F.conn h|λy c=>?_];have a:=c.within F.ws h;rw[(F.cl z h y a).mpr c];exact F.le y a
def bG.start(a:ZB):bG a id id (λ_ _=>False):=by
 refine%[λ_ _ h=>h.elim,λz h=>h,λz h=>h,λ_ _=>rfl,λ_ _=>rfl,λ_ _ _=>rfl,λz _ h=>(h rfl).elim,λz _=>dZ z|λx b y d=>%[λe=>?_|λc=>?_]]
 .rw[show x=y from e];exact .refl _
 .induction c with
  | refl=>rfl
  | step _ s _=>simp_all
def bG.join{S:Str->Str->Prop}(F:bG j f r S){a b M m:Str}(q:a∈j)(t:b∈j)(A:M=if aO (r a) (r b)=true then r b else r a)(B:m=if aO (r b) (r a)=true then r b else r a):
 bG j (λx=>if x=M then m else f x) (λx=>if r x=M then m else r x) (λx y=>S x y\/(x=a/\y=b)):=by
 have g:(M=r a/\m=r b)\/(M=r b/\m=r a):=by
  rw[A,B];cases e:aO _ _ with
  | true=>
    have:aO (r b) (r a)=false:=by
     cases i:aO _ _ with
     | false=>rfl
     | true=>have:=eQ e i;rw[dZ]at this;cases this
    exact this▸ .inr %[rfl|rfl]
  | false=>
    cases i:aO _ _ with
    | true=>exact .inl %[rfl|rfl]
    | false=>
      have:r a=r b:=by
       by_cases h:r a=r b
       .exact h
       .have:=cA e h;rw[i]at this;cases this
      exact this▸ .inl %[rfl|rfl]
 have lt:m≠M->aO m M=true:=by
  rw[A,B];cases e:aO _ _ with
  | true=>
    cases i:aO _ _ with
    | true=>intro h;exact(h rfl).elim
    | false=>intro _;exact e
  | false=>
    cases i:aO _ _ with
    | true=>intro _;exact i
    | false=>intro h;exact(h rfl).elim
 have Q:=F.rin a q;have T:=F.rin b t;have C:m∈j:=by rcases g with⟨_,h⟩|⟨_,h⟩<;> rw[h]<;> assumption
 have E:r M=M:=by rcases g with⟨h,_⟩|⟨h,_⟩<;> rw[h]<;> apply F.rr<;> assumption
 have L:r m=m:=by rcases g with⟨_,h⟩|⟨_,h⟩<;> rw[h]<;> apply F.rr<;> assumption
 have N:dH (λx y=>S x y\/(x=a/\y=b)) M m:=by
  have G:dH (λx y=>S x y\/(x=a/\y=b)) _ _:=(((F.conn q).mono λ_ _=> .inl).symm.trans (.one (.inl (.inr %[rfl|rfl])))).trans ((F.conn t).mono λ_ _=> .inl);rcases g with⟨l,n⟩|⟨l,n⟩
  .rw[l,n];exact G
  .rw[l,n];exact G.symm
 have p:∀x∈j,dH _ x (if r x=M then m else r x):=λx w=>by
  have c:=(F.conn w).mono (R:=λx y=>S x y\/(x=a/\y=b)) λ_ _=> .inl
  by_cases e:r x=M
  .rw[if_pos e];rw[e]at c;exact c.trans N
  .rw[if_neg e];exact c
 have H:(if r a=M then m else r a)=(if r b=M then m else r b):=by
  rcases g with⟨l,n⟩|⟨l,n⟩
  .rw[if_pos l.symm];by_cases e:r b=M
   .rw[if_pos e]
   .rw[if_neg e];exact n
  .rw[if_pos l.symm];by_cases e:r a=M
   .rw[if_pos e]
   .rw[if_neg e];exact n.symm
 refine%[λx y h=>?_,λz d=>?_,λz d=>?_,λz d=>?_,λz d=>?_,λz d h=>?_,λz d h=>?_,λz d=>?_|λx w y I=>%[λe=>?_|λc=>?_]]
 .rcases h with h|⟨rfl,rfl⟩
  .exact F.ws x y h
  .exact%[q|t]
 .split
  .exact C
  .exact F.fin z d
 .split
  .exact C
  .exact F.rin z d
 .by_cases e:z=M
  .rw[if_pos e,e,E,if_pos rfl,L]
   split<;> rfl
  .rw[if_neg e,F.rf z d]
 .by_cases e:r z=M
  .rw[if_pos e]
   split
   .rfl
   .exact(by rcases g with⟨_,h⟩|⟨_,h⟩<;> rw[h]<;> apply F.fr<;> assumption)
  .rw[if_neg e,if_neg e];exact F.fr z d
 .by_cases e:z=M
  .rw[if_pos e]at h;rw[e,E,if_pos rfl,<-e];exact h
  .rw[if_neg e]at h;rw[F.fix z d h,if_neg e]
 .by_cases e:z=M
  .rw[if_pos e]at h ⊢;rw[e]at h ⊢;exact lt h
  .rw[if_neg e]at h ⊢;exact F.dec z d h
 .by_cases e:r z=M
  .rw[if_pos e];cases i:aO z m with
   | false=>rfl
   | true=>
     have o:=F.le z d;rw[e]at o;by_cases em:m=M
     .rw[em]at i;rw[o]at i;cases i
     .have:=eQ i (lt em);rw[o]at this;cases this
  .rw[if_neg e];exact F.le z d
 .have c:=(p x w)
  rw[e]at c;exact c.trans (p y I).symm
 .have ws:∀x y,(S x y\/(x=a/\y=b))->x∈j/\y∈j:=λx y h=>by
   rcases h with h|⟨rfl,rfl⟩
   .exact F.ws x y h
   .exact%[q|t]
  clear I
  induction c with
  | refl=>rfl
  | step c s O=>
    rename_i u v
    have J:=c.within ws w;rw[O];rcases s with(s|⟨rfl,rfl⟩)|(s|⟨rfl,rfl⟩)
    .rw[(F.cl u J v (F.ws u v s).2).mpr (.one (.inl s))]
    .exact H
    .rw[(F.cl u J v (F.ws v u s).1).mpr (.one (.inr s))]
    .exact H.symm
def bG.short{S:Str->Str->Prop}(F:bG d f r S)(b:z∈d):bG d (λx=>if x=z then f (f z)else f x) r S:=by
 have g:f z≠z->aO (f _) z=true:=λh=>by
  have i:=F.dec z b h;by_cases e:f (f z)=f z
  .exact e▸i
  .exact eQ (F.dec _ (F.fin z b) e) i
 refine%[F.ws,λx a=>?_,F.rin,λx a=>?_,λx a=>?_,λx a h=>?_,λx a h=>?_,F.le|F.cl]
 .split
  .exact F.fin _ (F.fin z b)
  .exact F.fin x a
 .by_cases e:x=z
  .rw[if_pos e,F.rf _ (F.fin z b),F.rf z b,e]
  .rw[if_neg e];exact F.rf x a
 .by_cases e:r x=z
  .rw[if_pos e];have:=F.fr x a
   simp_all
  .rw[if_neg e];exact F.fr x a
 .by_cases e:x=z
  .rw[if_pos e]at h;rw[e]at h ⊢;by_cases c:f z=z
   .exact F.fix z b c
   .have:=g c;rw[h,dZ]at this;cases this
  .rw[if_neg e]at h;exact F.fix x a h
 .by_cases e:x=z
  .rw[if_pos e]at h ⊢;rw[e]at h ⊢;refine g λc=>h ?_
   rw[c,c]
  .rw[if_neg e]at h ⊢;exact F.dec x a h
def bG.done{S:Str->Str->Prop}(F:bG b f r S)(a:z∈b)(h:∀w∈b,aO w z=true->f w=r w):f (f z)=r z:=by
 by_cases e:f z=z
 .rw[e,e];exact(F.fix z a e).symm
 .rw[h _ (F.fin z a) (F.dec z a e),F.rf z a]
end Cut
namespace Cut
open PySem L2
abbrev Ed(ks:List ZB)(a b:Str):Prop:=∃z,[a,b,z]∈ks
inductive Rch (ks:List ZB):Str->Str->Prop
 | one {a b:Str}:Ed ks a b->Rch ks a b
 | more {a b c:Str}:Rch ks a b->Ed ks b c->Rch ks a c
def Rch.trans(h:Rch ks a b)(g:Rch ks b c):Rch ks a c:=by
 induction g with
 | one e=>exact .more h e
 | more _ e d=>exact .more d e
def Rch.closed{R:Str->Prop}(a:∀y,Ed ks s y->R y)(h:∀x y,R x->Ed ks x y->R y)(r:Rch ks s y):R y:=by
 induction r with
 | one e=>exact a _ e
 | more _ e b=>exact h _ _ b e
def qI{ks:List _}{laid:ZB}(h:∀i x,laid[i]? =some x->∀y,Ed ks x y->y∈laid.take i){i:Nat}{x y:Str}(hi:laid[i]? =some x)(r:Rch ks x y):∃j,j<i/\laid[j]? =some y:=by
 have b:∀i y,y∈laid.take i->∃j,j<i/\laid[j]? =some y:=λi y d=>by
  have%[j|c]:=Xk d;have f:=(Xr c).1;rw[Yp]at f;exact%[j,⋯|by rwa[Ye ⋯]at c]
 refine r.closed (λy e=>b i y (h i x hi y e)) λa y ⟨j,m,c⟩ e=>?_
 have%[g,n|l]:=b j y (h j a c y e);exact%[g,⋯|l]
def Ds{laid:ZB}(h:∀(i:Nat) x,laid[i]? =some x->∀y,Ed ks x y->y∈laid.take i){x:Str}(a:x∈laid): ¬ Rch ks x x:=by
 intro r;have%[i|hi]:=Xk a;have:∀n i:Nat,i<=n->laid[i]? ≠some x:=λn=>by
  induction n with
  | zero=>
    intro i hi e;have%[j,b|_]:=qI h e r
    lia
  | succ n c=>
    intro i hi e;have%[j,b|d]:=qI h e r;exact c j ⋯ d
 exact this i i (Zi _) hi
abbrev Wal:List ZB->Str->Str->Prop
 |[],a,b=>a=b
 | k::r,a,b=>∃c z,k=[a,c,z]/\Wal r c b
def Wal.app:∀{us vs:List ZB} {a:Str},Wal us a b->Wal vs b c->Wal (us++vs) a c
 |[],_,_,h,g=>h▸g
 | _::_,_,_,⟨d,z,e,h⟩,g=>%[d,z,e|h.app g]
abbrev Dst(ks:List ZB)(s:Str)(n:Nat)(x:Str):Prop:=∃us:List _,us.length=n/\(∀k∈us,k∈ks)/\Wal us s x
def Dst.nil:Dst ks s 0 s:=%[[],rfl,λ_ h=>(nomatch h)|rfl]
def Dst.app(h:Dst ks s n x)(g:Dst ks x m y):Dst ks s (n+m) y:=by
 have%[us,d,a|b]:=h;have%[vs,g1,g2|g3]:=g;exact%[us++vs,by simp_all,λk c=>(Xs c).elim (a k) (g2 k)|b.app g3]
def Ed.dst(e:Ed ks s x):Dst ks s 1 x:=by
 have%[z|e]:=e;exact%[[[s,x,z]],rfl,λk a=>(Xt a)▸e,x,z,rfl|rfl]
def Dst.last:∀{n:Nat} {s:Str},Dst ks s (n+1) x->∃y,Dst ks s n y/\Ed ks y x
 | n,s,⟨[],a,_,_⟩=>(nomatch a)
 | 0,s,⟨[k],_,b,c,z,e,h⟩=>%[s,.nil,z|by rw[<-h,<-e];exact b k Zm]
 | 0,s,⟨_::_::_,a,_,_⟩=>absurd a ∅
 | n+1,s,⟨k::r,a,b,c,z,e,h⟩=>by
   have%[y,d|f]:=Dst.last %[r,by simpa using a,λk g=>b k (Zk _ g)|h];have:Ed ks s c:=%[z|e▸b k Zm]
   exact%[y,Nat.add_comm 1 n▸this.dst.app d|f]
def Rch.dst(h:Rch ks a b):∃n,Dst ks a (n+1) b:=by
 induction h with
 | one e=>exact%[0|e.dst]
 | more _ e c=>
   have%[n|h]:=c;exact%[n+1|h.app e.dst]
def Dst.rch:∀{n:Nat} {b:Str},Dst ks a (n+1) b->Rch ks a b
 | 0,b,h=>by
   have%[y,%[us,d,_|c]|e]:=h.last;rw[length_eq_zero_iff.mp d]at c;rw[c];exact .one e
 | n+1,b,h=>by
   have%[y,h|e]:=h.last;exact .more h.rch e
structure Lev (ks:List ZB) (st:Str) (rs:List (Str×Addr×ZB)) (d:Str->Nat) (k:Nat) (F:ZB):Prop where
 nd:(rs.map (·.1)).Nodup
 by_:∀r∈rs,r.2.2∈ks/\∃p z,r.2.2=[p,r.1,z]/\((p=st/\d r.1=1)\/(p≠st/\p∈rs.map (·.1)/\d r.1=d p+1))
 le:∀x∈rs.map (·.1),d x<=k
 edge:∀x,x∈F↔(k=0/\x=st)\/(1<=k/\x∈rs.map (·.1)/\d x=k)
 all:∀n x,1<=n->n<=k->Dst ks st n x->x∈rs.map (·.1)/\d x<=n
section
variable{ks:List ZB}{st:Str}{rs:List (Str×Addr×ZB)}{d:Str->Nat}{k:Nat}{F:ZB}
def Lev.nil:Lev ks st [] (λ_=>0) 0 [st]:=
 %[X9,λ_ h=>(nomatch h),λ_ h=>(nomatch h),λx=>by simp|λn x a b=>by lia]
def Lev.dst(h:Lev ks st rs d k F)(a:x∈rs.map (·.1)):1<=d x/\Dst ks st (d x) x:=by
 have:∀m x,x∈rs.map (·.1)->d x<=m->1<=d x/\Dst ks st (d x) x:=λm=>by
  induction m with
  | zero=>
    intro x a l;have%[r,b|rfl]:=Xu a;obtain⟨_,p,z,_,⟨_,e⟩|⟨_,_,e⟩⟩:=h.by_ r b<;> lia
  | succ m g=>
    intro x a l;have%[r,b|rfl]:=Xu a;have%[c,p,z,i|q]:=h.by_ r b;rw[i]at c;have f:Ed ks p r.1:=%[z|c]
    rcases q with⟨rfl,e⟩|⟨_,j,e⟩
    .rw[e];exact%[Zi _|f.dst]
    .exact e▸%[⋯|(g p j ⋯).2.app f.dst]
 exact this _ x a (Zi _)
def Lev.min(h:Lev ks st rs d k F)(a:x∈rs.map (·.1))(g:Dst ks st (n+1) x):d x<=n+1:=by
 by_cases c:n+1<=k
 .exact(h.all _ x ⋯ c g).2
 .have:=h.le x a
  lia
def Lev.stop(h:Lev ks st rs d k []):∀{n:Nat},Dst ks st (n+1) x->x∈rs.map (·.1):=by
 have k1:=Nat.pos_of_ne_zero λc=>(nomatch (h.edge st).mpr (.inl %[c|rfl]))
 have:∀n x,Dst ks st (n+1) x->x∈rs.map _:=λn=>by
  induction n with
  | zero=>exact λx g=>(h.all 1 x (Zi _) k1 g).1
  | succ n a=>
    intro x g;have%[y,b|e]:=g.last;have q:=a y b;have l:=h.le y q;have ne:d y≠k:=λc=>(nomatch (h.edge y).mpr (.inr %[k1,q|c]))
    exact(h.all _ x ⋯ ⋯ ((h.dst q).2.app e.dst)).1
 exact λ{n}=>this n x
def Lev.step(h:Lev ks st rs d k F)(nd:((rs++new).map (·.1)).Nodup)(B:∀r∈new,r.2.2∈ks/\∃p z,p∈F/\r.2.2=[p,r.1,z])
 (t:∀x∈F,∀y,Ed ks x y->y∈(rs++new).map (·.1)):Lev ks st (rs++new) (λx=>if x∈new.map (·.1)then k+1 else d x) (k+1) (new.map (·.1)):=by
 have l:=nd;rw[Zd,X7]at l;have f:∀{x},x∈rs.map (·.1)->x∉new.map (·.1):=λ{x} a b=>l.2.2 x a x b rfl
 have mem:∀{x},x∈(rs++new).map (·.1)↔x∈rs.map (·.1)\/x∈new.map (·.1):=λ{x}=>by rw[Zd,Yw]
 have le:∀x∈(rs++new).map (·.1),(if x∈new.map (·.1)then k+1 else d x)<=k+1:=λx j=>by
  by_cases c:x∈new.map (·.1)
  .rw[if_pos c];exact Zi _
  .rw[if_neg c];have:=h.le x ((mem.mp j).resolve_right c);lia
 refine%[nd,λr C=>?_,le,λx=>?_|λn x n1 J g=>?_]
 .rcases Xs C with q|q
  .have%[s,p,z,e|g]:=h.by_ r q;refine%[s,p,z,e|?_];rw[if_neg (f (Xv %[r,q|rfl]))];refine g.imp_right λ⟨a,b,c⟩=>%[a,mem.mpr (.inl b)|?_]
   rw[if_neg (f b)];exact c
  .have%[s,p,z,E|e]:=B r q;have u:r.1∈new.map (·.1):=Xv %[r,q|rfl];refine%[s,p,z,e|?_];rw[if_pos u];rcases(h.edge p).mp E with⟨rfl,rfl⟩|⟨k1,b,c⟩
   .exact .inl %[rfl|rfl]
   .refine .inr %[λps=>?_,mem.mpr (.inl b)|by rw[if_neg (f b),c]];have:Ed ks st r.1:=%[z|by rw[<-ps,<-e];exact s]
    exact f (h.all 1 _ (Zi _) k1 this.dst).1 u
 .refine%[λj=> .inr %[⋯,mem.mpr (.inr j)|if_pos j]|λj=>?_];rcases j with⟨a,_⟩|⟨_,a,b⟩
  .lia
  .refine(mem.mp a).resolve_left λc=>?_
   rw[if_neg (f c)]at b;have:=h.le x c
   lia
 .have i:∀{m},1<=m->m<=k->Dst ks st m x->x∈(rs++new).map _/\(if x∈new.map _ then k+1 else d x)<=m:=λa b g=>by
   have%[o|v]:=h.all _ x a b g;exact%[mem.mpr (.inl o)|by rw[if_neg (f o)];exact v]
  by_cases c:n<=k
  .exact i n1 c g
  .obtain rfl:n=k+1:=by lia
   have fin:x∈(rs++new).map _->x∈(rs++new).map _/\(if x∈new.map _ then k+1 else d x)<=k+1:=λa=>%[a|le x a]
   have%[y,w|e]:=g.last;by_cases G:k=0
   .subst G;have%[us,H,_|A]:=w;rw[length_eq_zero_iff.mp H]at A;exact fin (t y ((h.edge y).mpr (.inl %[rfl|(A).symm])) x e)
   .have%[o|v]:=h.all k y ⋯ (Zi _) w;by_cases I:d y=k
    .exact fin (t y ((h.edge y).mpr (.inr %[⋯,o|I])) x e)
    .exact fin (i ⋯ ⋯ ((h.dst o).2.app e.dst)).1
end
structure Sho (ks:List _) (a b:Str) (us:List _):Prop where
 sub:∀k∈us,k∈ks
 wal:Wal us a b
 pos:0<us.length
 min:∀n,Dst ks a (n+1) b->us.length<=n+1
def Sho.dst(h:Sho ks a b us):∃n,us.length=n+1/\Dst ks a (n+1) b:=
 %[us.length-1,by have:=h.pos;lia,us,by have:=h.pos;lia,h.sub|h.wal]
def Sho.rch(h:Sho ks a b us):Rch ks a b:=by
 have%[n,_|d]:=h.dst;exact d.rch
def FZ{U:ZB}(h:∀x∈U,∃y∈U,Ed ks x y)(i:∀x,¬ Rch ks x x){x:Str}(j:x∈U):False:=by
 have:∀n,∃a p,p.length=n/\(a::p).Nodup/\(∀y∈a::p,y∈U)/\∀y∈p,Rch ks y a:=λn=>by
  induction n with
  | zero=>exact%[x,[],rfl,by simp,by simpa using j|λ_ h=>(nomatch h)]
  | succ n m=>
    have%[a,p,l,nd,d|r]:=m;have%[b,o|e]:=h a (d a Zm);have g:∀y∈a::p,Rch ks y b:=λy f=>by
     rcases mem_cons.mp f with rfl|q
     .exact .one e
     .exact .more (r y q) e
    refine%[b,a::p,by simp_all,nodup_cons.mpr %[λc=>i b (g b c)|nd],λy f=>?_|g];rcases mem_cons.mp f with rfl|q
    .exact o
    .exact d y q
 have%[a,p,l,nd,d|_]:=this U.length;have:=STab.nodup_sub nd d;rw[Zr]at this
 lia
end Cut
namespace Cut
open PySem L2
structure Mat (E:Str->Str->Prop) (L:ZB) (m:Str->Str):Prop where
 nd:L.Nodup
 inj:∀x∈L,∀y∈L,m x=m y->x=y
 ed:∀x∈L,E (m x) x
structure lF (E:Str->Str->Prop) (L:ZB) (m:Str->Str) (S T:Str->Prop):Prop where
 nb:∀a,S a->∀p,E a p->T p
 mt:∀p,T p->p∈L/\S (m p)
structure Ask (E:Str->Str->Prop) (L:ZB) (m:Str->Str) (A0 Q:ZB) (g:Str->Str):Prop where
 nd:Q.Nodup
 by_:∀i x,Q[i]? =some x->E (g x) x/\(g x∈A0\/∃y∈Q.take i,y∈L/\m y=g x)
section
variable{E:Str->Str->Prop}{L A0 Q:ZB}{m g:Str->Str}{S T S' T':Str->Prop}
def lF.or(h:lF E L m S T)(k:lF E L m S' T'):lF E L m (λa=>S a\/S' a) (λp=>T p\/T' p):=
 %[λa s p e=>s.imp (λs=>h.nb a s p e) λs=>k.nb a s p e|λp t=>t.elim (λt=>%[(h.mt p t).1|.inl (h.mt p t).2]) λt=>%[(k.mt p t).1|.inr (k.mt p t).2]]
def Ask.closed(c:∀x∈Q,x∈L)(d:∀b,(b∈A0\/∃y∈Q,y∈L/\m y=b)->∀p,E b p->p∈Q):lF E L m (λb=>b∈A0\/∃y∈Q,y∈L/\m y=b) (λp=>p∈Q):=
 %[d|λp a=>%[c p a|.inr %[p,a,c p a|rfl]]]
structure om (E:Str->Str->Prop) (L Q:ZB) (m g:Str->Str) (T:Str->Prop) (f:Str) (C:ZB) (i:Nat) (p:Str):Prop where
 at_:Q[i]? =some p
 own:p=f\/p∈L
 far:∀x∈C,∃j,i<j/\Q[j]? =some x
 nx:∀x∈C,∃y,y∈L/\m y=g x/\(y∈C\/y=p)
 inj:∀x∈C,∀y∈C,g x=g y->x=y
 pv:∀y,y∈C\/y=p->y=f\/(y∈L/\∃x∈C,g x=m y)
 nt:∀y,y∈C\/y=p-> ¬ T y
 hf:f∈C\/p=f
def Bw{Q:ZB}(nd:Q.Nodup){i j:Nat}{x:Str}(h:Q[i]? =some x)(k:Q[j]? =some x):i=j:=du nd h k
def om.start(h:lF E L m S T)(b:f∉L)(e:Q[i]? =some f):om E L Q m g T f [] i f:=
 %[e,.inl rfl,λ_ h=>(nomatch h),λ_ h=>(nomatch h),λ_ h=>(nomatch h),λy a=>a.elim (λh=>(nomatch h)) .inl,λy a t=>a.elim (λh=>(nomatch h)) λe=>b (e▸(h.mt y t).1)|.inr rfl]
def om.inj'(M:Mat E L m)(a:Ask E L m A0 Q g){f:Str}{C:ZB}{i:Nat}{p:Str}(b:om E L Q m g T f C i p):∀x∈C++[p],∀y∈C++[p],(∀z∈L,m z=g p->z∈Q.take i)->g x=g y->x=y:=by
 have o:∀x∈C,(∀z∈L,m z=g p->z∈Q.take i)->g x≠g p:=λx c h e=>by
  have%[y,q,r|n]:=b.nx x c;have%[j|l]:=Xk (h y q (r.trans e));have s:=(Xr l).1;rw[Yp]at s;rw[Ye ⋯]at l;rcases n with n|rfl
  .have%[k,u|t]:=b.far y n;have:=Bw a.nd l t
   lia
  .have:=Bw a.nd l b.at_
   lia
 intro x c y d h e;rcases Xs c with c|c<;> rcases Xs d with d|d
 .exact b.inj x c y d e
 .rw[Xt d]at e;exact(o x c h e).elim
 .rw[Xt c]at e;exact(o y d h e.symm).elim
 .rw[Xt c,Xt d]
def om.step(M:Mat E L m)(a:Ask E L m [w] Q g)(A:∀x∈L,m x≠w)(h:lF E L m S T)(b:om E L Q m g T f C i p)(n:y∈L)(o:m y=g p):∃j,j<i/\om E L Q m g T f (C++[p]) j y:=by
 have%[B|s]:=a.by_ i p b.at_;have v:y∈Q.take i:=by
  rcases s with s|⟨z,c,q,r⟩
  .exact(A y n (o.trans (Xt s))).elim
  .rw[M.inj y n z q (o.trans r.symm)];exact c
 have%[j|u]:=Xk v;have G:=(Xr u).1;rw[Yp]at G;rw[Ye ⋯]at u;have l:∀{x},x∈C++[p]↔x∈C\/x=p:=λ{x}=>by rw[Yw,X3]
 refine%[j,⋯,u,.inr n,λx d=>?_,λx d=>?_,λx d z c=>b.inj' M a x d z c λz q r=>(M.inj z q y n (r.trans o.symm))▸v,λz c=>?_,λz c t=>?_|.inl (l.mpr (b.hf.imp_right Eq.symm))]
 .rcases l.mp d with d|rfl
  .have%[k,J|H]:=b.far x d;exact%[k,⋯|H]
  .exact%[i,⋯|b.at_]
 .rcases l.mp d with d|rfl
  .have%[z,q,r|I]:=b.nx x d;exact%[z,q,r|.inl (l.mpr I)]
  .exact%[y,n,o|.inr rfl]
 .rcases c with c|rfl
  .exact(b.pv z (l.mp c)).imp_right λ⟨a,x,d,e⟩=>%[a,x,l.mpr (.inl d)|e]
  .exact(.inr %[n,p,l.mpr (.inr rfl)|o.symm])
 .rcases c with c|rfl
  .exact b.nt z (l.mp c) t
  .exact b.nt p (.inr rfl) (h.nb _ (o▸(h.mt z t).2) p B)
def om.fin(M:Mat E L m)(a:Ask E L m [B] Q g)(h:lF E L m S T)(b:om E L Q m g T f C i p)(J:f∉L)(N:∀y∈L,m y≠g p)(nd:v.Nodup)(G:∀x,x∈v↔x∈L\/x=f):
 Mat E v (λx=>if x∈C++[p]then g x else m x)/\lF E v (λx=>if x∈C++[p]then g x else m x) S T/\g p=B/\(∀x∈v,(if x∈C++[p]then g x else m x)=B\/∃y∈L,m y=if x∈C++[p]then g x else m x)/\∀y,y=B\/(∃x∈L,m x=y)->∃x∈v,(if x∈C++[p]then g x else m x)=y:=by
 have r:∀{x},x∈C++[p]↔x∈C\/x=p:=λ{x}=>by rw[Yw,X3]
 have O:g p=B:=by
  obtain⟨_,e|⟨y,_,H,ym⟩⟩:=a.by_ i p b.at_
  .exact Xt e
  .exact(N y H ym).elim
 have U:∀x∈C++[p],∃j,Q[j]? =some x:=λx l=>by
  rcases r.mp l with l|rfl
  .have%[j,_|e]:=b.far x l;exact%[j|e]
  .exact%[i|b.at_]
 have o:∀x∈v,x∉C++[p]->x∈L:=λx l n=>((G x).mp l).resolve_right λe=>n (e▸r.mpr (b.hf.imp_right Eq.symm))
 have s:∀x∈C++[p],∀y∈L,y∉C++[p]->g x≠m y:=λx l y H n e=>by
  rcases r.mp l with l|rfl
  .have%[z,w,A|zc]:=b.nx x l;exact n ((M.inj y H z w (e.symm.trans A.symm))▸r.mpr zc)
  .exact N y H e.symm
 refine%[%[nd,λx l y I e=>?_|λx l=>?_],%[h.nb|λq t=>%[(G q).mpr (.inl (h.mt q t).1)|?_]],O,λx l=>?_|λy I=>?_]
 .by_cases d:x∈C++[p]<;> by_cases u:y∈C++[p]
  .rw[if_pos d,if_pos u]at e;exact b.inj' M a x d y u (λz w A=>(N z w A).elim) e
  .rw[if_pos d,if_neg u]at e;exact(s x d y (o y I u) u e).elim
  .rw[if_neg d,if_pos u]at e;exact(s y u x (o x l d) d e.symm).elim
  .rw[if_neg d,if_neg u]at e;exact M.inj x (o x l d) y (o y I u) e
 .by_cases d:x∈C++[p]
  .rw[if_pos d];have%[j|e]:=U x d;exact(a.by_ j x e).1
  .rw[if_neg d];exact M.ed x (o x l d)
 .rw[if_neg (λc=>b.nt q (r.mp c) t)];exact(h.mt q t).2
 .by_cases d:x∈C++[p]
  .rw[if_pos d];rcases r.mp d with d|rfl
   .have%[z,w,A|_]:=b.nx x d;exact .inr %[z,w|A]
   .exact .inl O
  .rw[if_neg d];exact .inr %[x,o x l d|rfl]
 .have mem:=λx l=>(G x).mpr ((b.pv x (r.mp l)).elim .inr λh=> .inl h.1)
  rcases I with rfl|⟨x,Y,rfl⟩
  .exact%[p,mem p (r.mpr (.inr rfl))|(if_pos (r.mpr (.inr rfl)))▸O]
  .by_cases d:x∈C++[p]
   .rcases b.pv x (r.mp d)with e|⟨_,z,hz,e⟩
    .exact(J (e▸Y)).elim
    .exact%[z,mem z (r.mpr (.inl hz))|(if_pos (r.mpr (.inl hz)))▸e]
   .exact%[x,(G x).mpr (.inl Y)|by rw[if_neg d]]
end
def jp(p:Str->Prop)[DecidablePred p]:∀xs:ZB,xs.length=(xs.filter λx=>decide (p x)).length+(xs.filter λx=>decide (¬ p x)).length
 |[]=>rfl
 | x::xs=>by
   have a:=jp p xs;by_cases c:p x
   .rw[Y4 (by simpa using c),Y3 (by simpa using c),Zr,Zr];lia
   .rw[Y3 (by simpa using c),Y4 (by simpa using c),Zr,Zr];lia
open Classical in
def Dt(q:∀a b c,E a b->E b c->E a c){names L A:ZB}(p:names.Nodup)(M:Mat E L m)(r:∀x∈L,m x∈names)(s:A.Nodup)(t:∀x∈A,x∈names)(g:∀x∈A,∀y∈A,¬ E x y):A.length<=(names.filter λx=>decide (x∉L)).length:=by
 have up:∀{x y a:Str},E y x->(x=a\/E x a)->E y a:=λe h=>h.elim (λh=>h▸e) λh=>q _ _ _ e h
 have u:=STab.nodup_sub (l:=((L.filter λx=>decide (∃a∈A,x=a\/E x a)).map m) ++A) (m:=names.filter λx=>decide (∃a∈A,x=a\/E x a)) (nodup_append.mpr %[?_,s|λy d z v e=>?_]) λy d=>?_
 .rw[Z9,Z6]at u;have w:=jp (λx=>x∈L) (names.filter λx=>decide (∃a∈A,x=a\/E x a));have B:=STab.nodup_sub (l:=(names.filter λx=>decide (∃a∈A,x=a\/E x a)).filter λx=>decide (x∈L)) (m:=L.filter λx=>decide (∃a∈A,x=a\/E x a)) ((p.filter _).filter _) λx f=>by
   have%[h|j]:=List.mem_filter.mp f;exact List.mem_filter.mpr %[Zo j|(List.mem_filter.mp h).2]
  have C:=STab.nodup_sub (l:=(names.filter λx=>decide (∃a∈A,x=a\/E x a)).filter λx=>decide (¬ x∈L)) (m:=names.filter λx=>decide (x∉L)) ((p.filter _).filter _) λx f=>by
   have%[h|j]:=List.mem_filter.mp f;exact List.mem_filter.mpr %[(List.mem_filter.mp h).1|j]
  lia
 .rw[X8,Xd];exact Xl (λ{x y} f d n e=>n (M.inj x (List.mem_filter.mp f).1 y (List.mem_filter.mp d).1 e)) (nodup_iff_pairwise_ne.mp (M.nd.filter _))
 .have%[x,f|rfl]:=Xu d;have%[i|h]:=List.mem_filter.mp f;have%[a,o|h]:=Zo h;exact g _ (e▸v) a o (up (M.ed x i) h)
 .rcases Xs d with d|d
  .have%[x,f|rfl]:=Xu d;have%[i|h]:=List.mem_filter.mp f;have%[a,o|h]:=Zo h;exact List.mem_filter.mpr %[r x i|Zf %[a,o|.inr (up (M.ed x i) h)]]
  .exact List.mem_filter.mpr %[t y d|Zf %[y,d|.inl rfl]]
def Bx{names L lf:ZB}(b:names.Nodup)(c:L.Nodup)(sub:∀x∈L,x∈names)(d:lf.length=L.length):(names.filter λx=>decide (x∉L)).length<=(names.filter λx=>decide (x∉lf)).length:=by
 have e:=jp (λx=>x∈L) names;have f:=jp (λx=>x∈lf) names;have g:=STab.nodup_sub c λx a=>List.mem_filter.mpr %[sub x a|Zf a]
 have h:=STab.nodup_sub (b.filter λx=>decide (x∈lf)) λx a=>Zo (List.mem_filter.mp a).2
 lia
end Cut
namespace Cut
open PySem L2
def db(lt:q->q->Bool)(c:∀x y,lt x y=false->x≠y->lt y x=true):∀{l m:List q},l.Pairwise (λa b=>lt b a=false)->m.Pairwise (λa b=>lt b a=false)->l.Nodup->m.Nodup->(∀x,x∈l↔x∈m)->l=m
 |[],[],_,_,_,_,_=>rfl
 |[],y::m,_,_,_,_,h=>absurd ((h y).mpr Zm) ∅
 | x::l,[],_,_,_,_,h=>absurd ((h x).mp Zm) ∅
 | x::l,y::m,s,t,nl,u,h=>by
   have%[f|g]:=List.pairwise_cons.mp s;have%[i|j]:=List.pairwise_cons.mp t;have%[v|n]:=nodup_cons.mp nl;have%[w|o]:=nodup_cons.mp u;have e:=Classical.byContradiction λd=>by
    have A:=(mem_cons.mp ((h x).mp Zm)).resolve_left d;have r:=f y ((mem_cons.mp ((h y).mpr Zm)).resolve_left (Ne.symm d));rw[c x y (i x A) d]at r;cases r
   subst e;rw[db lt c g j n o λz=>?_]
   constructor
   .intro p;rcases mem_cons.mp ((h z).mp (Zk _ p))with e|e
    .simp_all
    .exact e
   .intro p;rcases mem_cons.mp ((h z).mpr (Zk _ p))with e|e
    .simp_all
    .exact e
abbrev Let(rows:ZB)(c:Nat):Prop:=c≠46/\∃r∈rows,c∈r.cps.toList
abbrev y6(rows:ZB)(a b:Nat):Prop:=a≠46/\a≠b/\∃(i j:Nat) (r c:Str),rows[i]? =some r/\rows[i+1]? =some c/\r.cps[j]? =some a/\c.cps[j]? =some b
def gJ:c∈cY rows↔Let rows c:=by
 unfold cY Let;rw[List.mem_filter,tP,List.mem_flatten,decide_eq_true_eq]
 constructor
 .rintro⟨⟨l,e,b⟩,a⟩;have%[r,d|rfl]:=Xu e;exact%[a,r,d|b]
 .rintro⟨a,r,d,b⟩;exact%[%[_,Xv %[r,d|rfl]|b]|a]
abbrev xa(rows d:ZB):Prop:=(∀c,Let rows c↔Let d c)/\∀a b,y6 rows a b↔y6 d a b
end Cut
namespace Cut
open PySem L2
abbrev St(wd:Bool)(c d:Int):Prop:=c<=d+(if wd=true then 1 else 0)/\d<=c+(if wd=true then 1 else 2)
abbrev kJ(wd:Bool)(cs:ZL):Prop:=∃a:Nat,a<cs.length/\(∀k c,cs[k]? =some c->(k<a->c= -1)/\(a<=k->0<=c/\c<=7))/\∀k c d,cs[k]? =some c->cs[k+1]? =some d->a<=k->St wd c d
abbrev sg(a s:Int):Nat:=if a<0 then 46 else 97+((a*5+s)%26).toNat
def F0(h:0<=a):iT (sg a s)=true:=by
 unfold sg;rw[if_neg ⋯,lA]
 lia
def F2(h:a<0):sg a s=46:=if_pos h
def By(h:0<=a):sg a s≠46:=by
 unfold sg;rw[if_neg ⋯]
 lia
def F3(e:0<=a)(c:a<=7)(f:0<=b)(d:b<=7)(h:sg a s=sg b s):a=b:=by
 unfold sg at h;rw[if_neg ⋯,if_neg ⋯]at h;omega
abbrev iY(a:List ZL)(b:Int)(k:Nat):Str:=⟨(a.map λc=>sg (c.getD k 0) b).toArray⟩
abbrev drawn(a:List ZL)(hi:Nat)(b:Int):ZB:=(List.range hi).map (iY a b)
def gK(h:(drawn a hi c)[k]? =some z):k<hi/\z=iY a c k:=by
 unfold drawn at h;rw[Zl]at h;by_cases b:k<hi
 .rw[List.getElem?_range b]at h;exact%[b|(Za h).symm]
 simp_all
def lG{a:List ZL}{k j c:Nat}(h:(iY a b k).cps[j]? =some c):∃col,a[j]? =some col/\c=sg (col.getD k 0) b:=by
 have h:(a.map λc=>sg (c.getD k 0) b)[j]? =some c:=by simpa [iY]using h
 rw[Zl]at h;cases e:a[j]? with
 | none=>simp_all
 | some col=>rw[e]at h;exact%[col,rfl|(Za h).symm]
def dC{col:ZL}(a:col.length=hi)(b:k<hi):col[k]? =some (col.getD k 0):=by
 simp_all
def uv{a:List ZL}{b:Int}{wd:Bool}(G:1<=hi)(H:hi<=40)(u:1<=a.length)(v:a.length<=40)(s:∀c∈a,c.length=hi/\kJ wd c):bU (drawn a hi b):=by
 have len:(drawn a hi b).length=hi:=by unfold drawn;rw[Z6,Yn]
 have d:∀z∈drawn a hi b,∃k,k<hi/\z=iY a b k:=λz f=>by
  have%[k|e]:=Xk f;exact%[k|gK e]
 refine%[⋯,⋯,%[a.length,u,v|λz f=>?_],λz f=>?_,λi r I w y j c J g1 g2 o=>?_|?_]
 .have%[k,_|rfl]:=d z f;simp[iY]
 .have%[k,g|rfl]:=d z f;rw[all_eq_true];intro c p;have%[j|A]:=Xk p;have%[col,q|rfl]:=lG (j:=j) (by simpa using A);by_cases B:col.getD k 0<0
  .rw[F2 B];decide +kernel
  .unfold okc;rw[F0 ⋯,Bool.or_true]
 .have%[hi1|rfl]:=gK w;have%[hi2|rfl]:=gK y;have%[col,q|rfl]:=lG g1;have%[t,h|rfl]:=lG g2;rw[q]at h;cases h;have%[n,l,C,g|_]:=s col (Z8 q);by_cases E:i+1<l
  .rw[(g i _ (dC n hi1)).1 ⋯];rfl
  .exact absurd o (By ((g _ _ (dC n hi2)).2 ⋯).1)
 .have m:0<a.length:=by lia
  have%[n,l,C,g|_]:=(s _ (Yg m))
  exact%[iY a b _,Xv %[hi-1,by rw[mem_range];lia|rfl],sg (a[0].getD (hi-1) 0) b,Xv %[a[0],Yg m|rfl]|By ((g _ _ (dC n ⋯)).2 ⋯).1]
def uw{h:Int}{wd:Bool}(p:∀c∈b,c.length=hi/\kJ wd c){c:Nat}:Let (drawn b hi h) c↔∃a:Int,0<=a/\a<=7/\(∃col∈b,a∈col)/\c=sg a h:=by
 constructor
 .rintro⟨i,r,s,l⟩;have%[k|e]:=Xk s;have%[f|rfl]:=gK e;have%[j|t]:=Xk l;have%[col,u|rfl]:=lG (by simpa using t);have d:=Z8 u;have%[m,n,y,v|_]:=p col d;have g:=dC m f;have q:=v k _ g;have:n<=k:=by
   refine Nat.le_of_not_lt λz=>i ?_
   rw[q.1 z];rfl
  exact%[_,(q.2 this).1,(q.2 this).2,%[col,d|Z8 g]|rfl]
 .rintro⟨a,w,A,⟨col,d,o⟩,rfl⟩;have%[m|_]:=p col d;have%[k|f]:=Xk o;refine%[By w,iY b h k,Xv %[k,by rw[mem_range];exact(m▸(Xr f).1)|rfl]|Xv %[col,d|?_]];rw[Zc,f];rfl
abbrev there(b:List ZL):ZL:=((List.range 8).filter λa:Nat=>b.any λc=>decide ((a:Int)∈c)).map λa:Nat=>a
def eR:a∈there b↔0<=a/\a<=7/\∃col∈b,a∈col:=by
 unfold there;rw[mem_map]
 constructor
 .rintro⟨n,e,rfl⟩;rw[List.mem_filter,mem_range,List.any_eq_true]at e;have%[f,col,c|d]:=e;exact%[⋯,⋯,col,c|Zo d]
 .rintro⟨g,h,col,c,d⟩;refine%[a.toNat,?_|⋯];rw[List.mem_filter,mem_range,List.any_eq_true];refine%[⋯,col,c|Zf ?_];rw[show a.toNat=a by lia];exact d
def ux(a:List _):(there a).Nodup:=by
 unfold there;rw[X8,Xd];refine(List.Pairwise.filter _ (nodup_iff_pairwise_ne.mp nodup_range)).imp λh e=>h ⋯
def Bz{a:List ZL}{hi:Nat}(i:1<=hi)(j:1<=a.length)(d:∀c∈a,c.length=hi/\kJ wd c):there a≠[]:=by
 have b:0<a.length:=by lia
 have%[e,f,l,h|_]:=d _ (Yg b);have g:=dC e (show hi-1<hi by lia);have q:=(h _ _ g).2 ⋯;exact ne_nil_of_mem (eR.mpr %[q.1,q.2,_,Yg b|Z8 g])
def lH(a:List _):(there a).length<=8:=by
 unfold there;rw[Z6];exact Yk (Ym _ _) (Zi _)
abbrev ci(n:Str)(c:Nat):Str:=⟨(n.cps.toList++[46,c]).toArray⟩
def jq(h:ci n c=ci m d):n=m/\c=d:=by
 have e:=by
  have:=congrArg (λz=>z.cps.toList) h;simpa [ci]using this
 have q:=List.append_inj' e rfl;refine%[dU q.1|?_];have:=q.2;simpa using this
abbrev uy(rows:ZB):Prop:=∃m:List _,m.length<=26/\∀a b,y6 rows a b->[sgn a,sgn b]∈m
abbrev wk(wd:Bool):List (Int×Int):=((List.range 7).map λi:Nat=>((i:Int),(i:Int) +1)) ++if wd=true then(List.range 7).map λi:Nat=>((i:Int) +1,(i:Int))else(List.range 6).map λi:Nat=>(i,i+2)
def y8(h:St wd c d)(c0:0<=c)(a:c<=7)(b:0<=d)(f:d<=7)(ne:c≠d):(c,d)∈wk wd:=by
 unfold St at h;unfold wk;rw[Yw];by_cases e:d=c+1
 .exact .inl (Xv %[c.toNat,mem_range.mpr ⋯|by rw[show c.toNat=c by lia,e]])
 .refine .inr ?_;cases wd
  .exact Xv %[c.toNat,mem_range.mpr ⋯|by rw[show c.toNat=c by lia,show d=c+2 by lia]]
  .exact Xv %[d.toNat,mem_range.mpr ⋯|by grind]
def BA{hi:Nat}{h:Int}{wd:Bool}(t:∀c∈d,c.length=hi/\kJ wd c):uy (drawn d hi h):=by
 refine%[(wk wd).map λp=>[sgn (sg p.1 h),sgn (sg p.2 h)],?_|?_]
 .rw[Z6];cases wd<;> decide
 .intro a b %[n1,u,i,j,r,B,v,w,g1|g2];have%[hi1|rfl]:=gK v;have%[hi2|rfl]:=gK w;have%[col,m|rfl]:=lG g1;have%[n,f|rfl]:=lG g2;rw[m]at f;cases f;have%[g,y,C,l|A]:=t col (Z8 m);have o:=Nat.le_of_not_lt λz=>n1 (by rw[(l i _ (dC g hi1)).1 z];rfl)
  have q:=(l i _ (dC g hi1)).2 o;have s:=(l _ _ (dC g hi2)).2 ⋯;exact Xv %[(_,_),y8 (A i _ _ (dC g hi1) (dC g hi2) o) q.1 q.2 s.1 s.2 (λe=>u (by rw[e]))|rfl]
end Cut
namespace K61
open PySem L2 Cut
nonrec abbrev ZqS:=Lean.Syntax
nonrec def zqn:Lean.Name->Array ZqS->ZqS:= .node .none
nonrec def zqa:String->ZqS:= .atom .none
nonrec def zqi(s:String):ZqS:=Lean.mkIdent s.toName
nonrec def zqh:ZqS:=zqn `Lean.Parser.Term.hole #[zqa "_"]
nonrec def zqf(k:Nat)(b:ZqS):ZqS:=zqn `Lean.Parser.Term.fun #[zqa "fun",zqn `Lean.Parser.Term.basicFun #[zqn `null (Array.replicate k zqh),zqn `null #[],zqa "=>",b]]
nonrec def zqd(c:Char):ZqS:=Lean.Syntax.mkNumLit (toString (c.toNat-48))
nonrec def zqe(a:Array ZqS)(x:String):ZqS:=if x="r"then zqi "rfl"else if x="n"then a[0]! else if x="h"then a.back! else if x="_"then zqh else if x="f"then zqf 2 (zqi "rfl") else if x="g"then zqf 1 (zqi "rfl") else if x.length>1 then zqi x else zqn `Lean.Parser.Term.namedArgument #[zqa "(",zqi x,zqa ":=",zqi x,zqa ")"]
nonrec def zqx(r:Array ZqS):ZqS:=if r[0]!.isAtom then(if r[0]!.getAtomVal=""then zqf 3 r[1]! else r[1]!)else if r.size<2 then r[0]! else zqn `Lean.Parser.Term.app #[r[0]!,zqn `null (r.extract 1 r.size)]
nonrec def zqp(s t:String):Nat:=(s.splitOn t).head!.length
nonrec def zqs(t:String)(a:Array ZqS)(l:List Char)(k:List (List String×Array ZqS)):List Char×List (List String×Array ZqS):=
 let f:=k.head!
 let k:=k.tail
 let x:=f.1.headD ""
 let w:=f.1.tail
 let c:=l.headD ' '
 if f.1.isEmpty then(l,(k.head!.1,k.head!.2.push (zqx f.2))::k.tail)
 else if x="#"then(l.tail,(w,f.2.push (zqd c))::k)
 else if x="L"then(l,(["*"],#[zqa ""])::(w,f.2)::k)
 else if x="*"then
  if c.isDigit then(l.tail,(["r"],#[zqi "af",zqd c])::(w,f.2)::k)
  else if c='?'then(l.drop 2,(w,f.2.push a[l[1]!.toNat-48]!)::k)
  else
   let p:=zqp "~]`" c.toString
   let q:=if p<3 then 1 else 0
   let s:=((t.splitOn "|")[(74+84*p)*q+zqp "ABCDEFGHIJKLMNOPQRSTUVWXYZabcdefghijklmnopqrstuvwxyz!$%&'()*+,./:;<=>^_|}[0123456789" l[q]!.toString]!).splitOn " "
   (l.drop (q+1),(s.tail,#[zqi s.head!])::(w,f.2)::k)
 else(l,(w,f.2.push (zqe a x))::k)
nonrec def zqt(t:String)(a:Array ZqS)(l:List Char):Nat->ZqS
 |n=>(n.fold (λ_ _ s=>if s.2.length=1&&s.2.head!.1.isEmpty then s else zqs t a s.1 s.2) (l,[(["*"],#[zqa "1"])])).2.head!.2[1]!
nonrec def zqm(s:Lean.StrLit)(a:Array Lean.Term):Lean.MacroM Lean.Term:=
 return⟨zqt "paE r * *|aq|ak * *|au *|ax|opE * * *|aH * h r *|aF # n r *|aN *|QSs.h *|aL # n r|bK * r * *|gsE r * *|ifS * * *|bg|cr K r *|cC *|cK|cG PassesOwn.never r r * * *|dq K r f * *|bF r *|bB|dN K r f * *|aL # * r|ei # r|wT *|aP|cbO * T.a8 PySem.boot_len r *|cO K r|aC.of *|bmO K plainAttrs_list PySem.F.slot_list_append PySem.F.type_list_append * r * *|gA K r r r *|dh|gu K r g *|dj h f * *|cc|Z1|Z0|gW *|dw|c9|jw * r * *|jS|jR *|fH * r r * L L L|eBl|fJ h r * * *|orW * *|gi|mL * *|cQ|mJ * *|iB|mK *|cbO * T.ac boot_isinstance r *|iR K r|ctO * T.a5 boot_list r *|jD *|pF *|cbO * T.a7 boot_sorted r *|fS K r|d5 h r * *|rO *|kg *|gX|rP|iW PassesOwn.never * *|tz # n r * * r *|slE K r * * *|eX # n r * * r * r r * L L L|vK K r|af # r|gvE T.al r r|vH|yq|nG r T.aj r *|qr *|yr|fT|qG * T.o_Ground h r r *|gvE T.am r r|qt|bmO K plainAttrs_str slot_str_join type_str_join * r * *|gvE T.ar r r|ctO * T.a6 boot_set r *|noO|pjE * *|cw T|bmO K plainAttrs_dict slot_dict_get type_dict_get * r * *|wP K r r T.ae r *|jo K r|De K r r * *|C1 r r r * *|c6 T|w6|rQ|c8 T|ixE K r f * *|cbO * T.a0 boot_min r *|tD # n r * *|vL K r|vI * * r * * *|cbO * T.aa boot_all r *|AF K r r|AK K w r r r|Fq *|im T|FE K r r *|dS T|sS T|Bt *|Bq h|fZ T|jf T|cbO * T.a1 boot_max r *|oF T|orV * *|gvE T.ao r r|DT r T.af r r *|kT T|lM T|bmO K plainAttrs_list PySem.F.slot_list_extend PySem.F.type_list_extend * r * *|tE|qE P w r r r|A8 K P w r r r r h|DV *|DU|G3 h r * *|fC T|gP T|Hd K r plainAttrs_list PySem.F.slot_list_append PySem.F.type_list_append * r r r r * *|bmO K plainAttrs_dict PySem.F.slot_dict_setdefault PySem.F.type_dict_setdefault * r * *|kH|oU T|qZ T|je T|iK T|iL T|xf r|cW T|D0 * T.o_Ground h r *|uL T|jM T|ixSE f * *|vJ|DP r|GP r|ctO * T.ah boot_int r *|DQ|Bd # n r * * r *|sK T|tD # * r * *|gvE T.aq r r|yB w r r|bmO K plainAttrs_str PySem.F.slot_str_split PySem.F.type_str_split * r * *|C2|gvE T.ap r r|BG T|oJ T|GZ K r r T.af r r *|jZ T|gvE T.an r r|gvE T.aw r r|gvE T.ax r r|G1 K r T.t_LAYER_WORDS r r|G1 K r T.t_YEAR_WORDS r r|zt T|zq T|BI T|gvE T.au r r|oO T|gvE T.av r r|uH T|zh T|wu T|sM T|uK T|mR T|yR K r|oQ T|kZ T|zf T|sP T|FG r|FF r|lO T|mS T|Dj r|GN K r plainAttrs_dict PySem.F.slot_dict_values PySem.F.type_dict_values * r r *|Bh|pT T|Bk r r T.a9 r T.a5 r *|uP T|BU T|j3 T|FH K r r|bmO K plainAttrs_list PySem.F.slot_list_remove PySem.F.type_list_remove * r * *|Bi|wb w r r|FN w r|sT T|oW T|GO|bmO K plainAttrs_dict PySem.F.slot_dict_update PySem.F.type_dict_update * r * *|Bv|oZ T|pV T|GN K r plainAttrs_list PySem.F.slot_list_pop PySem.F.type_list_pop * r r *|G5|FR r r *|FT|sU T|zy T|sV T|pf T|wC T|G4 h|uX T|u8 T|sQ T|zb T|G8 h|yQ r|lc T|Gd T|sl2E * *|Ha h" (a.map (·.raw)) s.getString.toList 9999⟩
nonrec abbrev ZM:=List V
nonrec abbrev ZN:=List (Addr×List V)
local macro_rules|`(%[$s:str,$x,*|$y])=>zqm s (x.getElems.push y)|`(%[$s:str|$y])=>zqm s #[y]
local macro_rules|`(tactic|lk)=>do
 let x<-("bd zI lh j6 jA pD jB zZ tB Cb tOr Em zH Er tOp tUn tC Eh Ei tCB sZ x5 Ab EN EO vg tBM CC tSl Ah rC Au rI rI0 rU Fc Fe rEq rNe Ay DN Az EZ E4 rIx Cy Cz CA CV GL vM rK zO zM Ev DR DS DZ wI wJ EH EI Fo l7 E7 rL vB Ao Bf Bg FI sB FL Bo uk rIn CW EV ES Fa rJ wO zT CY Gj Gk Gm".splitOn " ").toArray.mapM λs=>`(Lean.Parser.Tactic.simpLemma|↓$(Lean.mkIdent s.toName):ident)
 let y<-("nM Cm z5 zqD tyV Gn Go Gp List.getElem?_cons_zero List.getElem?_cons_succ List.set_cons_zero List.set_cons_succ Option.some.injEq V.int.injEq V.str.injEq V.bl.injEq V.ref.injEq V.ty.injEq List.cons.injEq reduceCtorEq and_true true_and and_false false_and or_false false_or or_true true_or exists_false exists_eq_left' exists_eq_left exists_eq_right exists_eq_right' exists_and_left exists_and_right exists_eq cons_append nil_append Zz exists_const and_assoc Int.zero_add Bool.not_true Bool.not_false Y0 if_true if_false eq_self".splitOn " ").toArray.mapM λs=>`(Lean.Parser.Tactic.simpLemma|$(Lean.mkIdent s.toName):ident)
 `(tactic|simp only[$(x++y),*])
local macro_rules|`(!$n:ident)=>`(some (V.ref $n))
local macro_rules|`(-$n:ident)=>`(some (V.str $n))
local macro_rules|`(#[$n:num])=>`((show $n≤sizeLine by decide))|`(#[$x])=>`(paE rfl $x aq)|`(#[$x,$y,*])=>`(paE rfl $x #[$y,*])
local macro_rules|`(tactic|walk)=>`(tactic|refine⟨rfl,rfl,rfl,?_,rfl,?_,?_⟩<;>decide +kernel)
def zq0{P:List Value->Prop}(h:P []):∀u,u.length=0->P u:=λu e=>by rw[List.length_eq_zero_iff.mp e];exact h
def zq1{n:Nat}{P:List Value->Prop}(h:∀a,∀u,u.length=n->P (a::u)):∀u,u.length=n+1->P u:=λu e=>by
 cases u with
 |nil=>cases e
 |cons a u=>exact h a u (Nat.succ.inj e)
local macro_rules|`(tactic|room)=>`(tactic|(intro _ _ _ _ _ _;(repeat(refine zq1 λ_=>?_));exact zq0 rfl))
set_option hygiene false in
local macro_rules|`(↑$n:num)=>`(af $n rfl)
set_option hygiene false in
local macro_rules|`(↥$n:num)=>`(Cal P w K mg base $n)
abbrev top(i:Nat):Stmt:=PySem.Challenge.pw_digbook_k61_rows_told.main.body.getD i (.Pass %[0,0,0|0])
noncomputable section
nonrec abbrev gM:Stmt:=top 1
def bi:aw ["ground","names","layer","word","one","other"] ["ground"] (ao gM):=by walk
nonrec abbrev iE:Stmt:=top 2
def dO:aw ["names","one","other","first","second"] ["names","one","other"] (ao iE):=by walk
nonrec abbrev e9:Stmt:=top 3
def eD:aw ["names","layer"] ["names","layer"] (ao e9):=by walk
nonrec abbrev oo:Stmt:=top 4
def fK:aw ["ground","names","groups","layer"] ["ground"] (ao oo):=by walk
nonrec abbrev eA:Stmt:=top 5
def lI:aw ["ground"] ["ground"] (ao eA):=by walk
nonrec abbrev sH:Stmt:=top 6
def uz:aw ["ground","names"] ["ground"] (ao sH):=by walk
nonrec abbrev gN:Stmt:=top 15
def kK:aw ["found"] ["found"] (ao gN):=by walk
nonrec abbrev fh:Stmt:=top 16
def jx:aw ["found"] ["found"] (ao fh):=by walk
nonrec abbrev qJ:Stmt:=top 17
def jX:aw ["found","side","groups","link"] ["found","side"] (ao qJ):=by walk
nonrec abbrev fi:Stmt:=top 18
def a8:aw ["names","found","beneath","above","waits","name","ready","laid","least","link"] ["names","found"] (ao fi):=by walk
nonrec abbrev iZ:Stmt:=top 19
def cZ:aw ["beneath","start","goal","reached","edge"] ["beneath","start","goal"] (ao iZ):=by walk
nonrec abbrev my:Stmt:=top 20
def eG:aw ["beneath","edge","reached","further","name","link"] ["beneath","edge","reached"] (ao my):=by walk
nonrec abbrev uA:Stmt:=top 21
def qK:aw ["reached","start","goal","way"] ["reached","start","goal"] (ao uA):=by walk
nonrec abbrev jF:Stmt:=top 22
def cH:aw ["names","found","beneath","reach","name","link"] ["names","found"] (ao jF):=by walk
nonrec abbrev ic:Stmt:=top 23
def cT:aw ["partners","held_by","asker","asked_by","free"] ["partners"] (ao ic):=by walk
nonrec abbrev kL:Stmt:=top 24
def cU:aw ["partners","held_by","askers","asked_by","waiting","asker","partner"] ["partners","held_by","askers"] (ao kL):=by walk
nonrec abbrev qL:Stmt:=top 25
def fj:aw ["held_by","asked_by","free","holds","partner","asker"] ["held_by","asked_by","free"] (ao qL):=by walk
nonrec abbrev iF:Stmt:=top 26
def cL:aw ["some","turned_about","key","value"] ["some"] (ao iF):=by walk
nonrec abbrev BB:Stmt:=top 28
def Du:aw ["ground"] ["ground"] (ao BB):=by walk
nonrec abbrev iG:Stmt:=top 29
def bL:aw ["names","found","beneath","shortest","name","way"] ["names","found"] (ao iG):=by walk
nonrec abbrev kM:Stmt:=top 30
def pP:aw ["names","found"] ["names","found"] (ao kM):=by walk
nonrec abbrev i4:Stmt:=top 31
def eB:aw ["ground","found","torn_by"] ["ground"] (ao i4):=by walk
nonrec abbrev i5:Stmt:=top 33
def iH:aw ["ground","found"] ["ground"] (ao i5):=by walk
nonrec abbrev fW:Stmt:=top 35
def fz:aw ["ground","later_ahead","earlier_behind"] ["ground"] (ao fW):=by walk
nonrec abbrev ot:Stmt:=top 36
def mz:aw ["first","earlier_behind","row"] ["first","earlier_behind"] (ao ot):=by walk
nonrec abbrev lJ:Stmt:=top 43
def wo:aw ["thing"] ["thing"] (ao lJ):=by walk
nonrec abbrev qM:Stmt:=top 44
def ig:aw ["text","rows","number","row"] ["text"] (ao qM):=by walk
nonrec abbrev ou:Stmt:=top 45
def y9:aw ["row"] ["row"] (ao ou):=by walk
nonrec abbrev fA:Stmt:=top 46
def mP:aw ["row","above"] ["row","above"] (ao fA):=by walk
nonrec abbrev ii:Stmt:=top 47
def pQ:aw ["rows"] ["rows"] (ao ii):=by walk
nonrec abbrev qN:Stmt:=top 48
def wp:aw ["text"] ["text"] (ao qN):=by walk
nonrec abbrev oz:Stmt:=top 49
def ee:aw ["text","rows","pairs","above","row"] ["text"] (ao oz):=by walk
nonrec abbrev dc:Stmt:=top 50
def jy:aw ["above","row"] ["above","row"] (ao dc):=by walk
nonrec abbrev kN:Stmt:=top 59
def d6:aw ["cuts","names","number","thing"] ["cuts"] (ao kN):=by walk
nonrec abbrev i7:Stmt:=top 60
def mQ:aw ["thing"] ["thing"] (ao i7):=by walk
nonrec abbrev uB:Stmt:=top 61
def za:aw ["thing"] ["thing"] (ao uB):=by walk
nonrec abbrev iI:Stmt:=top 62
def dP:aw ["sayings","layers","number","thing"] ["sayings","layers"] (ao iI):=by walk
nonrec abbrev mB:Stmt:=top 63
def sI:aw ["thing","layers"] ["thing","layers"] (ao mB):=by walk
nonrec abbrev iJ:Stmt:=top 64
def lK:aw ["thing","texts"] ["thing","texts"] (ao iJ):=by walk
nonrec abbrev qO:Stmt:=top 65
def wq:aw ["thing"] ["thing"] (ao qO):=by walk
nonrec abbrev kO:Stmt:=top 66
def pR:aw ["name","letter"] ["name","letter"] (ao kO):=by walk
nonrec abbrev i8:Stmt:=top 67
def eI:aw ["cuts","layers","name","text"] ["cuts"] (ao i8):=by walk
nonrec abbrev i9:Stmt:=top 68
def bQ:aw ["cuts","ties","name","text","upper","lower"] ["cuts"] (ao i9):=by walk
nonrec abbrev fM:Stmt:=top 69
def cm:aw ["sayings","ties","number","saying"] ["sayings"] (ao fM):=by walk
nonrec abbrev jG:Stmt:=top 71
def oA:aw ["_law_script","_law_k"] ["_law_script","_law_k"] (ao jG):=by walk
nonrec abbrev qP:Stmt:=top 72
def cI:aw ["_law_script","_law_many","_law_found","_law_number","_law_k","_law_cell","_law_one","_law_two"] ["_law_script","_law_many"] (ao qP):=by walk
nonrec abbrev kP:Stmt:=top 73
def bH:aw ["_law_number","_law_high","_law_wild","_law_air","_law_at","_law_signs","_law_k"] ["_law_number","_law_high","_law_wild"] (ao kP):=by walk
nonrec abbrev oB:Stmt:=top 74
def uC:aw ["_law_at","_law_shift"] ["_law_at","_law_shift"] (ao oB):=by walk
nonrec abbrev eS:Stmt:=top 75
def cn:aw ["_law_row_here","_law_shift","_law_wide","_law_high","_law_wild","_law_columns","_law_rows","_law_k","_law_signs","_law_there"] ["_law_row_here","_law_shift"] (ao eS):=by walk
nonrec abbrev kQ:Stmt:=top 76
def bI:aw ["_law_one","_law_two","_law_layers","_law_layer","_law_at","_law_other","_law_there","_law_kind","_law_odd","_law_year"] ["_law_one","_law_two","_law_layers"] (ao kQ):=by walk
nonrec abbrev ik:Stmt:=top 77
def aR:aw ["_law_row_here","_law_cuts","_law_layers","_law_k","_law_name","_law_shift","_law_text","_law_there","_law_at","_law_many","_law_sayings"] ["_law_row_here"] (ao ik):=by walk
nonrec abbrev mC:Stmt:=top 78
def bz:aw ["_law_some","_law_begin","_law_steps_here","_law_edge","_law_far","_law_more","_law_later","_law_earlier_here","_law_source"] ["_law_some","_law_begin"] (ao mC):=by walk
nonrec abbrev fX:Stmt:=top 80
def cJ:aw ["_law_ground_here","_law_some","_law_names","_law_known","_law_name"] ["_law_ground_here"] (ao fX):=by walk
nonrec abbrev ja:Stmt:=top 81
def cN:aw ["_law_found","_law_known","_law_begins","_law_once","_law_row_here","_law_k"] ["_law_found","_law_known"] (ao ja):=by walk
nonrec abbrev jb:Stmt:=top 82
def bA:aw ["_law_number","_law_signs_of","_law_one","_law_other","_law_cuts","_law_sayings","_law_layers","_law_name","_law_text"] ["_law_number"] (ao jb):=by walk
nonrec abbrev fN:Stmt:=top 83
def jY:aw ["_law_script"] ["_law_script"] (ao fN):=by walk
nonrec abbrev jH:Stmt:=top 84
def dQ:aw ["_law_script","_law_cuts","_law_sayings","_law_layers","_law_ground_here","_law_known","_law_found","_law_many","_law_copies","_law_fewer","_law_between","_law_row_here","_law_again"] ["_law_script"] (ao jH):=by walk
nonrec abbrev bS:Stmt:=kc (top 58) 0
def fB:aw ["self","cuts","sayings","layers"] ["self","cuts","sayings"] (ao bS):=by walk
nonrec abbrev pS:Stmt:=kc (top 58) 1
def BC:aw ["self"] ["self"] (ao pS):=by walk
nonrec abbrev cf:Stmt:=kc (top 58) 2
def kR:aw ["self"] ["self"] (ao cf):=by walk
nonrec abbrev cu:Stmt:=kc (top 58) 3
def lL:aw ["self"] ["self"] (ao cu):=by walk
nonrec abbrev cV:Stmt:=kc (top 58) 4
end
def oC:aw ["self"] ["self"] (ao cV):=by walk
inductive oE (K:ZA) (vs:ZM) (H:Hp) (Q:VK) (E0:XK):Prop
 | mk (a:Addr) (ns:ZL) (k:Int):vs=[.ref a,.int k]->SqL K H a (ns.map V.int)->0<=k->Q (.int (ns.getD k.toNat 0)) H->oE K vs H Q E0
inductive BD (K:ZA) (vs:ZM) (H:Hp) (Q:VK) (E0:XK):Prop
 | mk (a:Addr) (ns:ZL) (m:Int):vs=[.ref a,.int m]->SqL K H a (ns.map V.int)->ns.length<=1000->0<=m->m<=100->(∀l H' (xs:ZL),ah H H'->H l=none->H' l=some (.lst (xs.map V.int))->xs.length=m.toNat->(∀x∈xs,0<=x/\x<9973)->Q (.ref l) H')->BD K vs H Q E0
inductive qQ (vs:ZM) (H:Hp) (Q:VK) (E0:XK):Prop
 | mk (n hi wild):vs=[.int n,.int hi,.bl wild]->0<=n->1<=hi->hi<=6->(∀l H' cs,ah H H'->H l=none->H' l=some (.lst (cs.map V.int))->cs.length=hi.toNat->kJ wild cs->Q (.ref l) H')->qQ vs H Q E0
inductive xg (vs:ZM) (H:Hp) (Q:VK) (E0:XK):Prop
 | mk (a s:Int):vs=[.int a,.int s]->0<=s->Q (.str (sgn (sg a s))) H->xg vs H Q E0
abbrev sJ(H:Hp)(cs:List (Addr×ZL)):Prop:=∀p∈cs,H p.1=some (.lst (p.2.map V.int))
def sJ.up{H a:Hp}{cs:List _}(h:sJ H cs)(s:ah H a):sJ a cs:=λp b=>s _ _ (h p b)
inductive BE (K:ZA) (vs:ZM) (H:Hp) (Q:VK) (E0:XK):Prop
 | mk (a:Addr) (xs:ZL) (sh:Int):vs=[.ref a,.int sh]->SqL K H a (xs.map V.int)->(∀H',ah H H'->SqL K H' a (xs.map V.int))->xs.length=6->(∀x∈xs,0<=x/\x<9973)->0<=sh->(∀T th H' cols hi wd,ah H H'->H T=none->H th=none->T≠th->H' T=some (.tup [.str (Str.join nl (drawn cols hi sh)),.ref th])->H' th=some (.lst ((there cols).map V.int))->1<=hi->hi<=6->1<=cols.length->cols.length<=5->(∀c∈cols,c.length=hi/\kJ wd c)->Q (.ref T) H')->BE K vs H Q E0
structure Txc (K:ZA) (mg:ZC):Prop where
 o_Ground:ub K mg "Ground"
 n_Ground_kept_cuts:fR K (cD mg "Ground") "kept_cuts"
 n_Ground_kept_sayings:fR K (cD mg "Ground") "kept_sayings"
 n_Ground_kept_layers:fR K (cD mg "Ground") "kept_layers"
 n_Ground_kept_ties:fR K (cD mg "Ground") "kept_ties"
 i_Ground:Bb K mg "Ground" "Ground.__init__" bS ["self","cuts","sayings"]
 m_Ground_sayings:uc K mg "Ground" "sayings" "Ground.sayings" cf ["self"]
 m_Ground_layers:uc K mg "Ground" "layers" "Ground.layers" cu ["self"]
 m_Ground_ties:uc K mg "Ground" "ties" "Ground.ties" cV ["self"]
 t_YEAR_WORDS:GvT K mg "YEAR_WORDS" [.str "since",.str "by"]
 t_LAYER_WORDS:GvT K mg "LAYER_WORDS" [.str "later",.str "same"]
structure Txt (K:ZA) (mg:ZC):Prop extends Txc K mg where
 a0:mg "min"=none
 a1:mg "max"=none
 a5:mg "list"=none
 a6:mg "set"=none
 a7:mg "sorted"=none
 a8:mg "len"=none
 a9:mg "reversed"=none
 aa:mg "all"=none
 ab:mg "str"=none
 ac:mg "isinstance"=none
 ae:mg "enumerate"=none
 af:mg "zip"=none
 ag:mg "tuple"=none
 ah:mg "int"=none
 ai:mg "bool"=none
 aj:mg "range"=none
 ak:mg "abs"=none
 al:Gv mg "LATER" (.int 0)
 am:Gv mg "EARLIER" (.int 1)
 an:Gv mg "LONGEST_NAME" (.int 8)
 ao:Gv mg "LETTERS" (.str "abcdefghijklmnopqrstuvwxyz")
 ap:Gv mg "MOST_ROWS" (.int 40)
 aq:Gv mg "MOST_SIGNS" (.int 40)
 ar:Gv mg "AIR" (.str ".")
 au:Gv mg "MOST_CUTS" (.int 8)
 av:Gv mg "MOST_SAYINGS" (.int 60)
 aw:Gv mg "FIRST_YEAR" (.int (-9999))
 ax:Gv mg "LAST_YEAR" (.int 9999)
 ay:aG K mg "names_by_layer" gM ["ground"]
 az:aG K mg "join_deposits" iE ["names","one","other"]
 aA:aG K mg "least_pointed_to" e9 ["names","layer"]
 aB:aG K mg "deposits" oo ["ground"]
 aC:aG K mg "deposit_names" eA ["ground"]
 aD:aG K mg "links" sH ["ground"]
 aE:aG K mg "links_by_later" gN ["found"]
 aF:aG K mg "links_by_earlier" fh ["found"]
 aH:aG K mg "grouped" qJ ["found","side"]
 aI:aG K mg "laid_in_turn" fi ["names","found"]
 aJ:aG K mg "shortest_way" iZ ["beneath","start","goal"]
 aK:aG K mg "next_edge" my ["beneath","edge","reached"]
 aL:aG K mg "way_to" uA ["reached","start","goal"]
 aM:aG K mg "all_beneath" jF ["names","found"]
 aN:aG K mg "most_pairs" ic ["partners"]
 aO:aG K mg "ask_around" kL ["partners","held_by","askers"]
 aP:aG K mg "pass_on" qL ["held_by","asked_by","free"]
 aQ:aG K mg "keys_by_value" iF ["some"]
 aR:aG K mg "ring" BB ["ground"]
 aS:aG K mg "shortest_ring" iG ["names","found"]
 aT:aG K mg "never_laid" kM ["names","found"]
 aU:aG K mg "untorn_links" i4 ["ground"]
 aV:aG K mg "earlier_ones" i5 ["ground"]
 aW:aG K mg "fewest_rows" fW ["ground"]
 aX:aG K mg "row_from" ot ["first","earlier_behind"]
 aY:aG K mg "is_name" lJ ["thing"]
 aZ:aG K mg "rows_of" qM ["text"]
 b0:aG K mg "is_row" ou ["row"]
 b1:aG K mg "lies_beneath" fA ["row","above"]
 b2:aG K mg "letters_in" ii ["rows"]
 b3:aG K mg "letters" qN ["text"]
 b4:aG K mg "meetings" oz ["text"]
 b5:aG K mg "meetings_between" dc ["above","row"]
 b6:aG K mg "check_cuts" kN ["cuts"]
 b7:aG K mg "is_named_cut" i7 ["thing"]
 b8:aG K mg "is_cut" uB ["thing"]
 b9:aG K mg "check_sayings" iI ["sayings","layers"]
 ba:aG K mg "is_saying" mB ["thing","layers"]
 bb:aG K mg "is_text_among" iJ ["thing","texts"]
 bc:aG K mg "is_year" qO ["thing"]
 bd:aG K mg "layer_name" kO ["name","letter"]
 be:aG K mg "layers_of" i8 ["cuts"]
 bf:aG K mg "ties_of_cuts" i9 ["cuts"]
 bg:aG K mg "ties_of_sayings" fM ["sayings"]
 bh:aG K mg "_law_cell_at" jG ["_law_script","_law_k"]
 bi:aG K mg "_law_row" qP ["_law_script","_law_many"]
 bj:aG K mg "_law_column" kP ["_law_number","_law_high","_law_wild"]
 bm:aG K mg "_law_sign" oB ["_law_at","_law_shift"]
 bn:aG K mg "_law_cut" eS ["_law_row_here","_law_shift"]
 bo:aG K mg "_law_saying" kQ ["_law_one","_law_two","_law_layers"]
 bp:aG K mg "_law_ground" ik ["_law_row_here"]
 bq:aG K mg "_law_steps" mC ["_law_some","_law_begin"]
 br:aG K mg "_law_earlier" fX ["_law_ground_here"]
 bt:aG K mg "_law_right" ja ["_law_found","_law_known"]
 bu:aG K mg "_law_great" jb ["_law_number"]
 bv:aG K mg "_law_told_ground" fN ["_law_script"]
section
variable{P:Program}{w:World}{K:ZA}{mg:ZC}{base:Heap}
def cv{n:Nat}(h:n<=5000):n<=sizeLine:=Yk h (by decide)
def aA{n:Nat}(h:n<=5000):n<sizeLine:=Nat.lt_of_le_of_lt h (by decide)
def ah.upd{H:Hp}{p:Addr}{o:HO}(h:H p=none):ah H (upd H p o):=λb u e=>(am (ay e h))▸e
def ah.set{H a:Hp}{p:Addr}{o:HO}(c:ah H a)(h:H p=none):ah H (L2.upd a p o):=λb u e=>(am (ay e h))▸c b u e
def Hb{a:Type}(xs:List a){i:Int}(b:0<=i)(e:i<xs.length):∃c,atI xs i=some c/\c∈xs:=by
 have%[j|rfl]:=Xm b;have d:j<xs.length:=by lia
 exact%[xs[j],cj ∅|Yg d]
def kS(xs:ZL){i:Int}(b:0<=i)(d:i<xs.length):∃c,atI (xs.map V.int) i=some (V.int c)/\c∈xs:=by
 have%[j|rfl]:=Xm b;have a:j<xs.length:=by lia
 exact%[xs[j],cj (by simp[a])|Yg a]
def Eb:(gZ.cps.toList.length:Int)=26:=by decide +kernel
def cW(T:Txt K mg):↥1 "_law_cell_at" ["_law_script","_law_k"] (oE K):=by
 refine T.bh.cal oA (λH vs Q E h=>?_)
 .have%[a,ns,k,rfl,b,e|q]:=h;refine%[rfl|λf d A outer s i=>?_];refine%[_,%["JCNL~A1bcA0BDIT01ODIE"|0]|?_]
  show bd _ _ _ [some _,some _] H;lk;refine%[_,.inl %[_,b|rfl]|bE (λc=>?_) λc=>?_]
  .rw[Z6]at c;refine%[_,b,.int _,?_|q];have%[j|rfl]:=Xm e;have g:j<ns.length:=by lia
   exact cj (by simp[g])
  simp_all
def zb(T:Txt K mg):↥2 "_law_row" ["_law_script","_law_many"] (BD K):=by
 refine T.bi.cal cI (λH vs Q E h=>?_)
 .have%[a,ns,m,rfl,I,hn,h0,h1|q]:=h;refine%[rfl|λf ab A outer s G=>?_];refine%[_,(QSs.h (ak (aF 2 cI.nd rfl (cC aq))
   (ak (aF 3 cI.nd rfl (opE fT (cbO ⟨z7⟩ T.ak boot_abs rfl #[aH (cW T) G rfl #[↑0,ax]]) (ctO DQ T.ah boot_int rfl #[jw dw rfl (opE bB (aH (cW T) G rfl #[↑0,ax]) ax) ax])))
   (ak (cG PassesOwn.never rfl rfl (nG rfl T.aj rfl #[↑1]) (aL 4 cI.nd rfl)
   (au (ifS (bK rP rfl ↑3 ax)
    (ak (bF rfl (bmO (K:=K) plainAttrs_list PySem.F.slot_list_append PySem.F.type_list_append aP rfl ↑2 #[opE bB ↑3 ax]))
     (au (aF 3 cI.nd rfl (opE cc ↑3 ax))))
    (ak (aF 5 cI.nd rfl (aH (cW T) G rfl #[↑0,(opE cQ ax (opE bB ↑4 (cbO (DP rfl) T.a1 boot_max rfl #[ax,(opE qt (cbO (cO (K:=K) rfl) T.a8 PySem.boot_len rfl #[↑0]) ax)])))]))
     (ak (aF 6 cI.nd rfl (opE bB (opE fT (opE cQ (opE cQ (opE bB ↑5 ax) (opE fT ax ↑4)) ax) ax) ax))
     (ak (aF 7 cI.nd rfl (opE bB (opE cQ (opE vJ ↑6 ↑6) (opE fT ax ↑4)) ax))
     (au (bF rfl (bmO (K:=K) plainAttrs_list PySem.F.slot_list_append PySem.F.type_list_append aP rfl ↑2 #[opE bB (opE bB (opE vJ ↑7 ↑7) ax) ax])))))))))
   (au (aN ↑2))))))|?_]
  show bd _ _ _ [!a,some (.int m),none,none,none,none,none,none] H;refine lv λn1 c1=>?_
  lk;refine%[Xj _|λl J=>c1 _ _ (lv λn2 c2=>?_)];have j:ah H (upd H l (.lst [])):=ah.upd J;lk;refine%[a,ns,1,rfl,j.seq I,by decide,_,rfl,a,ns,0,rfl,j.seq I,by decide,_,rfl,by decide|?_];refine%[.inr (by split<;> exact%[by decide|by decide])|c2 _ _ (lv λn3 c3=>az λY hK=>?_)];lk;refine%[⋯,⋯|hK _ _ (eM (λi L g=>∃(n:Int) (o t u z:Option V) (xs:ZL),L=[!a,some (.int m),!l,some (.int n),o,t,u,z]/\ah H g/\g l=some (.lst (xs.map V.int))/\xs.length=i/\∀x∈xs,0<=x/\x<9973)
   %[_,none,none,none,none,[],rfl,j,aa,rfl|λ_ h=>nomatch h] ?_ ?_)]
  .intro i L g hi %[n,o,t,u,z,xs,rfl,B,d,C|e];have ac:i<100:=by lia
   have p:=B.seq I;show lh _ _ _ _ [!a,some (.int m),!l,some (.int n),some (.int (0+i)),t,u,z] g;rw[Int.zero_add];have put:∀v:Int,0<=v->v<9973->ah H (upd g l (.lst (xs.map V.int++[.int v])))/\∃b:ZL,upd g l (.lst (xs.map V.int++[.int v])) l=some (.lst (b.map V.int))/\b.length=i+1/\∀x∈b,0<=x/\x<9973:=λv v0 v1=>
    ⟨ah.set B J,xs++[v],by rw[aa,Zd];rfl,by rw[Z9,C];rfl,λy hy=>by
     rcases Xs hy with q|q
     .exact e y q
     .rw[Xt q];exact%[v0|v1]⟩
   have len:(xs.map V.int).length<sizeLine:=by rw[Z6,C];exact aA ⋯
   have mx:∀x:Nat,(0:Int)<(if(x:Int) -1>1 then(x:Int) -1 else 1):=λx=>by split<;> lia
   refine aB λD1 k1 _=>?_
   lk;refine bE (λ_=>?_) λ_=>?_
   .refine%[.inl %[_|SqL.of d],by decide,_,d,len,%[by decide|by decide]|k1 _ _ ?_];have%[M,b,N,O|U]:=put (n%9973) ⋯ ⋯;exact%[_,_,_,_,_,b,rfl,M,N,O|U]
   .refine%[_,.inl %[_,p|rfl],mx _,a,ns,_,rfl,p,?_|?_]
    .have:=Int.emod_nonneg (i:Int) (Int.ne_of_gt (mx (ns.map V.int).length))
     lia
    generalize ns.getD _ 0=c
    lk;refine%[by decide,.inl %[by decide|by decide],.inr %[by decide|by decide],by decide|?_];have b1:=Int.emod_nonneg ((c%1000003+7919*i+1)*48271) (by decide:(2147483629:Int)≠0);have b2:=Int.emod_lt_of_pos ((c%1000003+7919*i+1)*48271) (by decide:(0:Int)<2147483629)
    generalize (c%1000003+7919*i+1)*48271%2147483629=one at b1 b2
    refine%[.inl %[⋯|⋯],.inl %[by decide|by simp],by decide|?_];have b3:=Int.emod_nonneg (one*one+104729*i) (by decide:(2147483587:Int)≠0);have b4:=Int.emod_lt_of_pos (one*one+104729*i) (by decide:(0:Int)<2147483587)
    generalize (one*one+104729*i)%2147483587=r at b3 b4
    refine%[.inl %[_|SqL.of d],.inl %[⋯|⋯],by simp,by decide,_,d,len|k1 _ _ ?_];have%[M,b,N,O|U]:=put (r*r%2147483563%9973) ⋯ ⋯;exact%[_,_,_,_,_,b,rfl,M,N,O|U]
  .intro L g %[n,o,t,u,z,xs,rfl,B,d,C|e];refine c3 _ _ ?_;lk;exact q l g xs B J d C e
def F4(a:0<=i)(c:i<26):atI gZ.cps.toList i=some (97+i.toNat):=by
 have%[j|rfl]:=Xm a;have b:j<26:=by omega
 have all:∀j:Fin 26,gZ.cps.toList[j.1]? =some (97+j.1):=by decide +kernel
 exact cj (all %[j|b])
def oF(T:Txt K mg):↥1 "_law_sign" ["_law_at","_law_shift"] xg:=by
 refine T.bm.cal uC (λH vs Q E h=>?_)
 .have%[a,g,rfl,i|c]:=h;refine%[rfl|λf d A outer s e=>?_];refine%[_,%["JCNL~A0EDIRODI~^RFVFoF~_0E1E"|0]|?_]
  show bd _ _ _ [some (.int a),some _] H;lk;unfold sg at c;refine bE (λb=>?_) λb=>?_
  .have b:=Zo b;rw[if_pos b]at c;exact c
  .have b: ¬ a<0:=by simpa using b
   rw[if_neg b]at c;refine%[.inr %[by simp|by simp],by decide,(by decide),_,F4 (by omega) (by omega)|c]
def sK(T:Txt K mg):↥1 "_law_column" ["_law_number","_law_high","_law_wild"] qQ:=by
 refine T.bj.cal bH (λH vs Q E h=>?_)
 .have%[n,hi,wd,rfl,n0,h1,h6|kk]:=h;refine%[rfl|λf ag A outer s hr=>?_];refine%[_,%["JCH3FV0ECH4FVFj0EECH0Fj0ECH5QBCS~BA1BK6DNZxL~A63(L~A6F~H1EDUea5A.EBCUea5A4BCH4~o~|AEA~Y~}AEAFo4TQAEAEATQAEA.EB~[~0A2BBFV0EBBDH0Fj0EDI5"|bH.nd]|?_]
  show bd _ _ _ [some (.int n),some (.int hi),some (.bl wd),none,none,none,none] H;refine ap λD1 k1 _=>?_
  lk;refine%[by decide|k1 _ _ (ap λD2 k2 _=>?_)];lk;refine%[%[by decide|by decide],by decide|k2 _ _ (ap λD3 k3 _=>?_)];lk;refine%[%[by decide|by decide]|k3 _ _ (ap λD4 k4 _=>?_)];lk;refine%[Xj _|λL N=>k4 _ _ (ap λD5 k5 r5=>az λae hK=>?_)];lk;have G:∃a:Nat,(a:Int)=(if n%3<hi-1 then n%3 else hi-1):=by
   split
   .exact%[(n%3).toNat|by omega]
   .exact%[(hi-1).toNat|by omega]
  have%[a|ea]:=G;refine%[by omega,by omega|hK _ _ (eM (λi Y t=>∃(m b:Int) (o:Option V) (cs:ZL),Y=[some (.int m),some (.int hi),some (.bl wd),some (.int (n%3)),some (.int b),!L,o]/\0<=b/\b<=7/\ah H t/\t L=some (.lst (cs.map V.int))/\cs.length=i/\
   (∀(k:Nat) (c:Int),cs[k]? =some c->(k<a->c= -1)/\(a<=k->0<=c/\c<=7))/\∀(k:Nat) (c d:Int),cs[k]? =some c->(cs++[b])[k+1]? =some d->a<=k->St wd c d)
   %[_,_,none,[],rfl,by omega,by omega,ah.upd N,aa,rfl,(λk c e=>by simp at e)|λk c d e=>by simp at e] ?_ ?_)]
  .intro i Y t ai %[m,b,o,cs,rfl,a0,a7,O,j,y,l|B];show lh _ _ _ _ [some (.int m),some (.int hi),some (.bl wd),some (.int (n%3)),some (.int b),!L,some (.int (0+i))] t;rw[Int.zero_add];have len:(cs.map V.int).length<sizeLine:=by rw[Z6,y];exact aA (by omega)
   have put:∀v:Int,(i<a->v= -1)->(a<=i->0<=v/\v<=7)->∀(k:Nat) (c:Int),(cs++[v])[k]? =some c->(k<a->c= -1)/\(a<=k->0<=c/\c<=7):=λv v1 v2 k c e=>by
    by_cases U:k<cs.length
    .rw[Ya U]at e;exact l k c e
    .have ek:k=i:=by
      have:=(Xr e).1;rw[Z9]at this;simp only[Zr,length_nil]at this;omega
     subst ek;rw[Yb (by omega),y,Xe]at e;cases e;exact%[v1|v2]
   refine aB λD6 k6 _=>?_
   lk;have I:∀v u:Int,(a<=i->v=b/\St wd v u)->∀(k:Nat) (c d:Int),(cs++[v])[k]? =some c->(cs++[v] ++[u])[k+1]? =some d->a<=k->St wd c d:=λv u q k c d C r U=>by
    have aj:k+1<=cs.length+1:=by
     have:=(Xr r).1;simp only[Z9,Zr,length_nil]at this;omega
    by_cases h:k+1<cs.length+1
    .rw[Ya (by omega)]at C;rw[Ya (by simpa using h)]at r;by_cases h':a<=i
     .rw[(q h').1]at r;exact B k c d C r U
     .omega
    .have ek:k=i:=by omega
     subst ek;rw[Yb (by omega),y,Xe]at C;rw[Yb (by simp;omega)]at r;simp[y]at C r;rw[<-C,<-r];exact(q U).2
   have fin:∀_v:Int,¬ i<a->∀(m2 g:Int) (HH:Hp),0<=g->g<=7->St wd b g->ah (upd t L (.lst (cs.map V.int++[.int b]))) HH->D6.nx [some (.int m2),some (.int hi),some (.bl wd),some (.int (n%3)),some (.int g),!L,some (.int i)] HH:=λv hv m2 g HH b0 b7 st sh=>
    k6 _ _ %[m2,g,_,cs++[b],rfl,b0,b7,(ah.set O N).trans sh,by rw[sh L _ aa,Zd];rfl,by rw[Z9,y];rfl,put b (λz=>absurd z hv) λ_=>%[a0|a7]|I b g λ_=>%[rfl|st]]
   refine bE (λhA=>bE (λhB=>?g1) λhB=>?g2) λhA=>?g3
   case g1=>
    simp only[decide_eq_true_eq]at hA hB;have J:i<a:=by split at ea<;> omega
    exact%[.inl %[_|SqL.of j],_,j,len|k6 _ _ %[m,b,_,cs++[-1],rfl,a0,a7,ah.set O N,by rw[aa,Zd];rfl,by rw[Z9,y];rfl,put (-1) (λ_=>rfl) λz=>absurd J (by omega)|I (-1) b λz=>absurd J (by omega)]]
   all_goals
    have ab: ¬ i<a:=by
     simp only[decide_eq_true_eq]at*
     split at ea<;> omega
    refine%[.inl %[_|SqL.of j],_,j,len,#[2]|λp hp=>%[_,SqL.of aa,.int (if wd=true then -1 else 2),by cases wd<;> rfl,#[3]|λp1 ac=>%[by decide,_,SqL.of aa|?_]]];have%[c,hc|M]:=kS [0,1,if wd=true then -1 else 2] (i:=m%3) (by omega) (by show m%3<3;omega);refine%[_,hc,c,rfl,%[by decide|by decide]|fin 0 ab _ _ _ ?_ ?_ ?_ ((ah.upd hp).trans (ah.upd ac))]
    rotate_left 2
    .unfold Cut.St;simp only[Yz,Xb,or_false]at M;cases wd<;> rcases M with rfl|rfl|rfl<;> simp<;>(split<;>(try split)<;> omega)
    all_goals(split<;>(simp)<;> omega)
  .intro Y t %[m,b,o,cs,rfl,a0,a7,O,j,y,l|B];refine k5 _ _ ?_;lk;exact kk L t cs O N j (by omega) %[a,by omega,l|λk c d C r=>B k c d C ((Ya (Xr r).1)▸r)]
def uD(xs:ZL){lo hi:Int}(a:0<=lo)(b:lo<=hi)(c:hi<=xs.length):ti (xs.map V.int) (some lo) (some hi)=((xs.drop lo.toNat).take (hi.toNat-lo.toNat)).map V.int:=by
 unfold ti;have d:HT.sIx xs.length 0 (some lo)=lo.toNat:=by
  show(if lo<0 then _ else min lo.toNat xs.length)=_
  grind
 have e:HT.sIx xs.length xs.length (some hi)=hi.toNat:=by
  show(if hi<0 then _ else min hi.toNat xs.length)=_;rw[if_neg ⋯]
  lia
 simp_all
def Hs(p:Nat->Bool)(n:Nat):inV (V.bl true) ((List.range n).map λr=>V.bl (p r))=(List.range n).any p:=by
 unfold inV;rw[any_map]
 congr 1
 funext r;show eqV (V.bl _) (V.bl true)=p r;cases p r<;> rfl
def zd{a:Type}(p:a->Bool)(xs:List a):inV (V.bl true) (xs.map λr=>V.bl (p r))=xs.any p:=by
 unfold inV;rw[any_map]
 congr 1
 funext r;show eqV (V.bl _) (V.bl true)=p r;cases p r<;> rfl
def Dv(a:Int)(cs:ZL):inV (V.int a) (cs.map V.int)=decide (a∈cs):=by
 unfold inV
 induction cs with
 | nil=>rfl
 | cons c r b=>
   show((c==a)||_)=_
   grind
def ze(cs:ZL):(cs.map V.int).all fE=true:=by simp[fE]
def zf(T:Txt K mg):↥2 "_law_cut" ["_law_row_here","_law_shift"] (BE K):=by
 refine T.bn.cal cn (λH vs Q E h=>?_)
 .have%[a,xs,y,rfl,hs,keep,b2,hb,s0|kk]:=h;refine%[rfl|λf cd A outer s hr=>?_];have get:∀i:Int,0<=i->i<6->∃c,atI (xs.map V.int) i=some (V.int c)/\0<=c/\c<9973:=λi h0 h1=>by
   have%[c,e|hm]:=kS xs h0 ⋯;exact%[c,e|hb c hm]
  have%[c0,g0,l0|u0]:=get 0 (by decide) (by decide);refine%[_,%["JCH2FyEFVT0EEC=3klFyEFVFjT0EEEC=4klpnFVFjT0EEEEC~15klsd?1P>0/E/FyE2X0?2qG~2A0AY1AY2BCH6QBCS~BAY3B~Z7klC^8lkd?3PY5X0?4qT0Y1DUea6A~I~aRAsd?5P8X0?6qG~pA0AY1BBBC^9lkd?7~BAEB~30?8kl~CL_tsd?9PY1X0?:qp_Y10Y0DImA~I~aRA6BA9B",cn.nd,(show bM (ao eS) ["_law_row_here","_law_shift","_law_wide","_law_high","_law_wild","_law_columns","_law_rows","_law_k","_law_signs","_law_there"] _ ["_law_number","_law_high","_law_wild"] [(1,3),(2,4)]=true from by decide +kernel),(show(["_law_number","_law_high","_law_wild"]:ZB).Nodup from by decide +kernel),(show bM (ao eS) ["_law_row_here","_law_shift","_law_wide","_law_high","_law_wild","_law_columns","_law_rows","_law_k","_law_signs","_law_there"] _ ["_law_column_here","_law_k"] [(1,7)]=true from by decide +kernel),(show(["_law_column_here","_law_k"]:ZB).Nodup from by decide +kernel),(show bM (ao eS) ["_law_row_here","_law_shift","_law_wide","_law_high","_law_wild","_law_columns","_law_rows","_law_k","_law_signs","_law_there"] _ ["_law_at","_law_shift"] [(1,1)]=true from by decide +kernel),(show(["_law_at","_law_shift"]:ZB).Nodup from by decide +kernel),(show bM (ao eS) ["_law_row_here","_law_shift","_law_wide","_law_high","_law_wild","_law_columns","_law_rows","_law_k","_law_signs","_law_there"] _ ["_law_at","_law_columns"] [(1,5)]=true from by decide +kernel),(show(["_law_at","_law_columns"]:ZB).Nodup from by decide +kernel),(show bM _ ["_law_at","_law_columns"] _ ["_law_column_here","_law_at"] [(1,0)]=true from rfl),(show(["_law_column_here","_law_at"]:ZB).Nodup from by decide +kernel)|hr]|?_]
  show bd _ _ _ [!a,some (.int y),none,none,none,none,none,none,none,none] H;refine ap λD1 k1 _=>?_
  lk;refine%[_,hs,_,g0,c0,rfl,by decide|k1 _ _ (ap λD2 k2 _=>?_)];lk;refine%[_,hs,_,g0,c0,rfl,%[by decide|by decide],by decide|k2 _ _ (ap λD3 k3 _=>?_)];lk;refine%[_,hs,_,g0,c0,rfl,%[by decide|by decide],by decide|k3 _ _ (ap λD4 k4 _=>?_)];have w1:1<=1+c0%5:=by lia
  have w5:1+c0%5<=5:=by lia
  have i1:1<=1+c0/5%6:=by lia
  have i6:1+c0/5%6<=6:=by lia
  generalize ch:1+c0%5=wd at w1 w5
  generalize 1+c0/5%6=hi at i1 i6
  generalize decide (c0/30%8=0)=u
  refine aI λB N=>?_
  lk;refine .inl %[_,hs|λp hp=> .inl %[%[_|SqL.of aa]|N _ _ λD hD=>?_]];rw[uD xs (by decide) ⋯ ⋯]at hD ⊢;have a1:((xs.drop (Int.toNat 1)).take ((1+wd).toNat-Int.toNat 1)).length=wd.toNat:=by
   rw[Yp,Yl,b2];rw[show(1+wd).toNat=wd.toNat+1 by lia];exact X4 ⋯
  have a2:∀x∈(xs.drop (Int.toNat 1)).take ((1+wd).toNat-Int.toNat 1),0<=x/\x<9973:=λx hx=>hb x (X1 (X2 hx))
  generalize (xs.drop (Int.toNat 1)).take ((1+wd).toNat-Int.toNat 1)=ys at a1 a2 hD ⊢
  have a3:ah H (upd H p (.lst (ys.map V.int))):=ah.upd hp;have ac:upd H p (.lst (ys.map V.int)) p=some (.lst (ys.map V.int)):=aa
  generalize upd H p (.lst (ys.map V.int))=b3 at a3 ac hD ⊢
  refine bw (J:=Itl K p) (n:=wd.toNat) (D:=D) (λi zs j d=>(∃o,j=[o,some (.int hi),some (.bl u)])/\ah b3 d/\d D=some (.lst zs)/\∃cs:List (Addr×ZL),zs=cs.map (λq=>V.ref q.1)/\cs.length=i/\sJ d cs/\∀q∈cs,q.1≠D/\q.2.length=hi.toNat/\kJ u q.2)
   %[%[none|rfl],ah.upd hD,aa,[],rfl,rfl,λq v=>(nomatch v)|λq v=>(nomatch v)]
   (λi _ _ d a4 b=>%[_,V.int (ys[i]'⋯),SqL.of (b.2.1 _ _ ac)|by simp[show i<ys.length by lia]]) (λ_ _ d b=>%[_,SqL.of (b.2.1 _ _ ac)|by simp[a1]]) ?_ ?_
  .intro i zs j d a4 %[%[o|rfl],L,a5,cs,rfl,C,ae|O] x H2 %[e2|hx];subst e2;have a6:i<ys.length:=by lia
   have m:=hx _ (SqL.of (L _ _ ac));rw[Zl,Z4 a6]at m;obtain rfl:x=V.int ys[i]:=(Za m).symm;lk;refine%[_,_,_,rfl,(a2 _ (Yg a6)).1,i1,i6|λl H3 col an a7 bb bc b4=>?_];have bf:l≠D:=λe=>by rw[e,a5]at a7;cases a7
   refine CK.mk a4 (an _ _ a5) (by rw[Z6,C];exact aA ⋯) %[%[_|rfl],ah.set (L.trans an) hD,aa,cs++[(l,col)],by rw[Zd];rfl,by rw[Z9,C];rfl,λq v=>?_|λq v=>?_]
   .rcases Xs v with z|z
    .rw[am (O q z).1];exact an _ _ (ae q z)
    .rw[Xt z,am bf];exact bb
   .rcases Xs v with z|z
    .exact O q z
    .rw[Xt z];exact%[bf,bc|b4]
  intro zs j H4 %[_,b5,U,cs,rfl,C,ae|O];have as:ah H H4:=a3.trans b5;refine k4 _ _ (ap λD5 k5 _=>?_);lk;refine%[Xj _|λR hR=>k5 _ _ (ap λD6 k6 _=>az λB N=>?_)];lk;have cb:(cs.map (·.2)).length=wd.toNat:=by rw[Z6];exact C
  refine%[⋯,⋯|N _ _ (eM (λi j d=>∃o7 o8,j=[!a,some (.int y),some (.int wd),some (.int hi),some (.bl u),!D,!R,o7,o8,none]/\ah H4 d/\d R=some (.lst (((List.range i).map (iY (cs.map (·.2)) y)).map V.str)))
   %[_,_,rfl,ah.upd hR|aa] ?_ ?_)]
  .intro i j H5 cl %[o7,o8,rfl,g|ag];show bd _ _ _ [!a,some (.int y),some (.int wd),some (.int hi),some (.bl u),!D,!R,some (.int (0+i)),o8,none] H5;rw[Int.zero_add];refine ap λD7 k7 _=>aI λB N=>?_
   lk;refine .inl %[%[_|SqL.of (g _ _ U)]|N _ _ λE hE=>?_];refine bw (J:=Itl K D) (n:=wd.toNat) (D:=E) (λq zs j d=>(∃o,j=[o,some (.int i)])/\ah H5 d/\d E=some (.lst zs)/\zs=((cs.take q).map (λp=>p.2.getD i 0)).map V.int)
    %[%[none|rfl],ah.upd hE,aa|rfl]
    (λq _ _ d v b=>%[_,V.ref (cs[q]'⋯).1,SqL.of (b.2.1 _ _ (g _ _ U))|by simp[show q<cs.length by lia]]) (λ_ _ d b=>%[_,SqL.of (b.2.1 _ _ (g _ _ U))|by simp[C]]) ?_ ?_
   .intro q zs j d v %[%[o|rfl],L,b6|M] x H2 %[e2|hx];subst e2;have t:q<cs.length:=by lia
    have m:=hx _ (SqL.of (L _ _ (g _ _ U)));rw[Zl,Z4 t]at m;obtain rfl:x=V.ref cs[q].1:=(Za m).symm;lk;have hm:=Yg t;refine%[_,SqL.of (L _ _ (g _ _ (ae _ hm))),V.int (cs[q].2.getD i 0),?_|?_]
    .refine cj ?_;rw[Zl,dC (O _ hm).2.1 ⋯];rfl
    .refine CK.mk v b6 (by rw[M,Z6,Z6,Yp];exact aA ⋯) %[%[_|rfl],ah.set L hE,aa|?_];rw[M,Xf,Zd,Zd,Z4 t];rfl
   intro zs j H6 %[_,I,ai|M];rw[Zn ⋯]at M;refine k7 _ _ (aB λD8 k8 _=>?_);have bl:=g.trans I;lk;refine%[.inl %[_|SqL.of (I _ _ ag)]|aI λB N=>?_];lk;refine .inl %[%[_|SqL.of ai]|N _ _ λF hF=>?_];refine bw (J:=Itl K E) (n:=wd.toNat) (D:=F) (λq ts j d=>(∃o,j=[o,some (.int y)])/\ah H6 d/\d F=some (.lst ts)/\ts=(((cs.take q).map (λp=>sg (p.2.getD i 0) y)).map sgn).map V.str)
    %[%[none|rfl],ah.upd hF,aa|rfl]
    (λq _ _ d v b=>%[_,V.int ((cs[q]'⋯).2.getD i 0),SqL.of (b.2.1 _ _ ai)|by rw[M];simp[show q<cs.length by lia]]) (λ_ _ d b=>%[_,SqL.of (b.2.1 _ _ ai)|by rw[M];simp[C]]) ?_ ?_
   .intro q ts j d v %[%[o|rfl],L,a0|Y] x H2 %[e2|hx];subst e2;have t:q<cs.length:=by lia
    have m:=hx _ (SqL.of (L _ _ ai));rw[M,Zl,Zl,Z4 t]at m;obtain rfl:x=V.int (cs[q].2.getD i 0):=(Za m).symm;lk;refine%[_,_,rfl,s0|?_];refine CK.mk v a0 (by rw[Y,Z6,Z6,Z6,Yp];exact aA ⋯) %[%[_|rfl],ah.set L hF,aa|?_];rw[Y,Xf,Zd,Zd,Zd,Z4 t];rfl
   intro ts j H7 %[_,bm,b7|Y];rw[Zn ⋯]at Y;lk;refine%[(cs.map λp=>sg (p.2.getD i 0) y).map sgn,by rw[<-Y];exact SqL.of b7,?_,_,bm _ _ (I _ _ ag),by rw[Z6,Z6,Yn];exact aA ⋯|k8 _ _ %[_,_,rfl,ah.set (bl.trans bm) hR|?_]]
   .rw[wR,Z6,Z6,show(Str.ofString "").length=0 from rfl]
    lia
   .rw[aa,range_succ,Zd,Zd,show Txt.join (Str.ofString "") ((cs.map λp=>sg (p.2.getD i 0) y).map sgn)=Str.join (Str.ofString "") ((cs.map λp=>sg (p.2.getD i 0) y).map sgn)from StrLaws.glued_eq_join _ _,vV];have e:iY (cs.map (·.2)) y i=⟨(cs.map λp=>sg (p.2.getD i 0) y).toArray⟩:=by
     unfold iY;rw[Yv];rfl
    rw[<-e];rfl
  .intro j H5 %[o7,o8,rfl,g|ag];refine k6 _ _ (ap λD7 k7 _=>aI λB N=>?_);lk;refine%[by decide,by simp|N _ _ λF hF=>?_];refine bw (J:=Itr 0 8) (n:=8) (D:=F) (λq ts j d=>(∃o,j=[o,!D])/\ah H5 d/\d F=some (.lst ts)/\ts=(((List.range q).filter λa:Nat=>(cs.map (·.2)).any λc=>decide ((a:Int)∈c)).map λa:Nat=>(a:Int)).map V.int)
    %[%[none|rfl],ah.upd hF,aa|rfl] (λq _ _ d v _=>v) (λ_ _ d _=>Zi _) ?_ ?_
   .intro q ts j d v %[%[o|rfl],L,a0|Y] x H2 %[e2|e3];subst e2 e3;lk;refine aI λB N=>?_
    lk;have aj:=L _ _ (g _ _ U);refine .inl %[%[_|SqL.of aj]|N _ _ λG hG=>?_];refine bw (J:=Itl K D) (n:=wd.toNat) (D:=G) (λr zs j H3=>(∃o,j=[o,some (.int q)])/\ah H2 H3/\H3 G=some (.lst zs)/\zs=(cs.take r).map (λp=>V.bl (decide ((q:Int)∈p.2))))
     %[%[none|rfl],ah.upd hG,aa|rfl]
     (λr _ _ H3 bn b=>%[_,V.ref (cs[r]'⋯).1,SqL.of (b.2.1 _ _ aj)|by simp[show r<cs.length by lia]]) (λ_ _ H3 b=>%[_,SqL.of (b.2.1 _ _ aj)|by simp[C]]) ?_ ?_
    .intro r zs j H3 bn %[%[o|rfl],s3,b9|M] x co %[e2|hx];subst e2;have t:r<cs.length:=by lia
     have m:=hx _ (SqL.of (s3 _ _ aj));rw[Zl,Z4 t]at m;obtain rfl:x=V.ref cs[r].1:=(Za m).symm;have hm:=Yg t;lk;refine%[_,.inl (SqL.of (s3 _ _ (L _ _ (g _ _ (ae _ hm))))),rfl,ze _|?_];rw[Dv];refine CK.mk bn b9 (by rw[M,Z6,Yp];exact aA ⋯) %[%[_|rfl],ah.set s3 hG,aa|?_];rw[M,Xf,Zd,Z4 t];rfl
    intro zs j H3 %[_,s3,ca|M];rw[Zn ⋯]at M;have bp:=s3 _ _ a0;lk;refine%[_,.inl (SqL.of ca),rfl,by rw[M];simp[fE]|?_];rw[M,zd];have any:(cs.any λp=>decide ((q:Int)∈p.2))=(cs.map (·.2)).any λc=>decide ((q:Int)∈c):=by rw[any_map];rfl
    rw[any];have bt:ts.length<sizeLine:=by
     rw[Y,Z6,Z6];have:=Ym (λa:Nat=>(cs.map (·.2)).any λc=>decide ((a:Int)∈c)) (List.range q);rw[Yn]at this;exact aA ⋯
    refine bE (λhb=>?_) λhb=>?_
    .refine CK.mk v bp bt %[%[_|rfl],ah.set (L.trans s3) hF,aa|?_];rw[Y,range_succ,Y2,Zd,Zd];rw[show List.filter (λa:Nat=>(cs.map (·.2)).any λc=>decide ((a:Int)∈c)) [q]=[q]from by rw[filter_cons,if_pos hb];rfl];rfl
    .refine CN.mk v %[%[_|rfl],L.trans s3,bp|?_];rw[Y,range_succ,Y2,Zd,Zd];rw[show List.filter (λa:Nat=>(cs.map (·.2)).any λc=>decide ((a:Int)∈c)) [q]=[]from by rw[filter_cons,if_neg hb];rfl];simp
   intro ts j H6 %[_,I,b0|Y];refine k7 _ _ ?_;lk;have ab:∀c∈cs.map (·.2),c.length=hi.toNat/\kJ u c:=λc hc=>by
    have%[p,hp|rfl]:=Xu hc;exact(O p hp).2
   have al:bU (drawn (cs.map (·.2)) hi.toNat y):=uv ⋯ ⋯ ⋯ ⋯ ab;have b1:H5 R=some (.lst ((drawn (cs.map (·.2)) hi.toNat y).map V.str)):=ag;refine%[drawn (cs.map (·.2)) hi.toNat y,SqL.of (I _ _ b1),?_,#[2]|λp hp=>?_]
   .have:=al.sum;have:=al.high;rw[show(Str.ofString "\n").length=1 from rfl]
    lia
   .refine kk p F _ (cs.map (·.2)) hi.toNat u ((as.trans (g.trans I)).trans (ah.upd hp)) ((as.trans (g.trans I)).free hp) ((as.trans g).free hF) (λe=>by rw[e,b0]at hp;cases hp) ?_ ?_ ⋯ ⋯ ⋯ ⋯ ab
    .rw[aa,show Txt.join (Str.ofString "\n") (drawn (cs.map (·.2)) hi.toNat y)=Str.join (Str.ofString "\n") (drawn (cs.map (·.2)) hi.toNat y)from StrLaws.glued_eq_join _ _];rfl
    .rw[ah.upd hp F _ b0,Y];rfl
inductive qR (vs:ZM) (H:Hp) (Q:VK) (E0:XK):Prop
 | mk (z:Str):vs=[.str z]->z.length<=1000->(∀H',ah H H'->Q (.bl (rX z)) H')->qR vs H Q E0
inductive oG (vs:ZM) (H:Hp) (Q:VK) (E0:XK):Prop
 | mk (row above:Str):vs=[.str row,.str above]->row.length<=1000->above.length<=1000->(∀H',ah H H'->Q (.bl (eZ row above)) H')->oG vs H Q E0
inductive jI (K:ZA) (vs:ZM) (H:Hp) (Q:VK) (E0:XK):Prop
 | mk (a rows):vs=[.ref a]->SqL K H a (rows.map V.str)->(rows.map (·.length)).sum<=3000->(∀r∈rows,r.cps.toList.all okc=true)->(∀l H' ss,ah H H'->H l=none->H' l=some (.lst (ss.map V.str))->ss.Perm (aK ((cY rows).map sgn))->PyProof.Rows.sortedS ss=true->Q (.ref l) H')->jI K vs H Q E0
inductive oH (vs:ZM) (H:Hp) (Q:VK) (E0:XK):Prop
 | mk (rows:ZB):vs=[.str (Str.join nl rows)]->bU rows->(∀l H',ah H H'->H l=none->H' l=some (.lst (rows.map V.str))->Q (.ref l) H')->oH vs H Q E0
def jr(z:Str)(i:Nat)(c:Nat)(h:z.cps[i]? =some c):(z.cps.toList.take i++[c])=z.cps.toList.take (i+1):=by
 have h':z.cps.toList[i]? =some c:=by simpa using h
 have%[a|e]:=Xr h';rw[List.take_succ_eq_append_getElem a,e]
def BF(c d:Nat):((⟨([c].toArray)⟩:Str)=⟨([d].toArray)⟩)↔c=d:=by
 simp
def oI(c:Nat):((⟨([c].toArray)⟩)=Str.ofString ".")↔c=46:=BF c 46
def BG(T:Txt K mg):↥1 "is_row" ["row"] qR:=by
 refine T.b0.cal y9 (λH vs Q E h=>?_)
 .have%[z,rfl,N|k]:=h;refine%[rfl|λf v A outer s M=>?_];refine%[_,%["JDIz~b~D~DEbcA0B~4)~c~dAsd?1P0X0?2q~qpn0~J)p_0~rB",0,(show bM (ao ou) ["row"] _ ["sign"] []=true from by decide +kernel)|(show(["sign"]:ZB).Nodup from by simp)]|?_];show j6 _ _ [-z] H;lk;refine%[cv ⋯|bE (λl=>bE (λm=>?_) λm=>?_) λl=>?_]
  .refine aI λt y=>?_
   lk;refine y _ _ λD u=>?_
   refine bw (J:=Its z) (n:=z.cps.size) (D:=D) (λi ys d a=>(∃o,d=[o])/\ah H a/\a D=some (.lst ys)/\ys=(z.cps.toList.take i).map (λc=>V.bl (okc c))) %[%[none|rfl],ah.upd u,aa|rfl]
    (λi _ _ _ hi _=>hi) (λ_ _ _ _=>Zi _) ?_ ?_
   .intro i ys d a hi %[%[o|rfl],p,q|g] x B %[C,c,G|rfl];subst C;have j:ys.length=i:=by
     rw[g,Z6,Yp];have:z.cps.toList.length=z.cps.size:=by simp
     lia
    have I:i<1000:=by
     have:z.length=z.cps.size:=rfl
     lia
    have put:∀b:Bool,b=okc c->CK D z.cps.size i (λi ys d a=>(∃o,d=[o])/\ah H a/\a D=some (.lst ys)/\ys=(z.cps.toList.take i).map (λc=>V.bl (okc c))) ys [some (.str ⟨([c].toArray)⟩)] (.bl b) B:=λb L=>
     CK.mk hi q (j▸aA ⋯) %[%[_|rfl],ah.set p u,aa|by rw[L,g,<-jr z i c G,Zd];rfl]
    lk;refine bE (λr=>put true ?_) λr=>put _ ?_
    .have:=(oI c).mp (Zo r);unfold okc;rw[Zf this,Bool.true_or]
    .have: ¬ c=46:=λe=>(λe=>r (Zf e)) ((oI c).mpr e)
     unfold okc;rw[Zh this,Bool.false_or,Ax];rfl
   .intro ys d a %[_,p,q|g];lk;refine%[z.cps.toList.map okc,?_|?_]
    .have e:z.cps.toList.take z.cps.size=z.cps.toList:=by
      apply Zn;simp
     rw[e]at g;have:(z.cps.toList.map okc).map V.bl=ys:=by rw[g,Yv];rfl
     rw[this];exact SqL.of q
    .have e:rX z=(z.cps.toList.map okc).all id:=by
      unfold rX;rw[l,m,all_map]
      all_goals rfl
     exact e▸k a p
  .rw[Bool.not_eq_true]at m;have e:rX z=false:=by unfold rX;rw[m,Bool.and_false,Bool.false_and]
   rw[e]at k;exact k H (ah.refl H)
  .rw[Bool.not_eq_true]at l;have e:rX z=false:=by unfold rX;rw[l,Bool.false_and,Bool.false_and]
   rw[e]at k;exact k H (ah.refl H)
abbrev mD(p:Nat×Nat):Bool:=!decide (p.2=46)||decide (p.1=46)
def uE(x y:Str)(i c d:Nat)(b:x.cps[i]? =some c)(f:y.cps[i]? =some d):((List.zip x.cps.toList y.cps.toList).take i++[(c,d)])=(List.zip x.cps.toList y.cps.toList).take (i+1):=by
 have h:(List.zip x.cps.toList y.cps.toList)[i]? =some (c,d):=List.getElem?_zip_eq_some.mpr %[by simpa using b|by simpa using f];have%[a|e]:=Xr h;rw[List.take_succ_eq_append_getElem a,e]
def oJ(T:Txt K mg):↥1 "lies_beneath" ["row","above"] oG:=by
 refine T.b1.cal mP (λH vs Q E h=>?_)
 .have%[row,a,rfl,I,L|k]:=h;refine%[rfl|λf G A outer s hr=>?_];refine%[_,%["JCNL!bcA0BbcA1BDItODI~c~dAsd?1~sA1A0BfMX0?2MX1?2gq~qp!1~J)pn0~JB",0,(show bM (ao fA) ["row","above"] _ ["high","low"] []=true from by decide +kernel)|(show(["high","low"]:ZB).Nodup from by decide +kernel)]|?_]
  show bd _ _ _ [-row,-a] H;refine ap λD1 k1 M=>?_
  lk;refine%[cv ⋯,cv ⋯|bE (λj=>?_) λj=>?_]
  .have j: ¬ ((row.length:Int)=a.length):=by simpa using j
   have e:eZ row a=false:=by
    unfold eZ;rw[Zh ⋯,Bool.false_and]
   rw[e]at k;exact M _ _ (k H (ah.refl H))
  .have j:row.length=a.length:=by
    have:(row.length:Int)=a.length:=by simpa using j
    lia
   refine k1 _ _ ?_;have t:row.cps.size=a.cps.size:=j;have u:(List.zip a.cps.toList row.cps.toList).length=a.cps.size:=by rw[length_zip];simp[t]
   lk;refine aI λz N=>?_
   lk;refine N _ _ λD B=>?_
   refine bw (J:=Itz a row) (n:=a.cps.size) (D:=D) (λi ys l g=>(∃q r,l=[q,r])/\ah H g/\g D=some (.lst ys)/\ys=((List.zip a.cps.toList row.cps.toList).take i).map (λp=>V.bl (mD p))) %[%[none,none|rfl],ah.upd B,aa|rfl]
    (λi _ _ _ hi _=>%[hi|⋯]) (λ_ _ _ _=>%[Zi _,⋯|.inl rfl]) ?_ ?_
   .intro i ys l g hi %[%[q,r|rfl],v,y|m] x H2 %[c,d,TT,O,U,C,rfl|rfl];have o:ys.length=i:=by rw[m,Z6,Yp,u];lia
    have Y:i<1000:=by
     have:a.length=a.cps.size:=rfl
     lia
    have put:∀b:Bool,b=mD (c,d)->CK D a.cps.size i (λi ys l g=>(∃q r,l=[q,r])/\ah H g/\g D=some (.lst ys)/\ys=((List.zip a.cps.toList row.cps.toList).take i).map (λp=>V.bl (mD p))) ys [some (.str ⟨([c].toArray)⟩),some (.str ⟨([d].toArray)⟩)] (.bl b) (upd g TT (.tup [.str ⟨([c].toArray)⟩,.str ⟨([d].toArray)⟩])):=λb eb=>
     CK.mk hi (ah.upd C _ _ y) (o▸aA ⋯) %[%[_,_|rfl],ah.set (v.trans (ah.upd C)) B,aa|by rw[eb,m,<-uE a row i c d O U,Zd];rfl]
    lk;refine%[_,SqT.of aa,rfl,_,_,rfl,_,_,rfl,rfl,rfl|?_];simp only[V.str.injEq,oI];refine bE (λh=>put true ?_) λh=>%[rfl|put _ ?_]
    .unfold mD;rw[h,Bool.true_or]
    .unfold mD;rw[Bool.not_eq_true]at h;rw[h,Bool.false_or]
   .intro ys l g %[_,v,y|m];lk;refine%[(List.zip a.cps.toList row.cps.toList).map mD,?_|?_]
    .have e:(List.zip a.cps.toList row.cps.toList).take a.cps.size=List.zip a.cps.toList row.cps.toList:=Zn ⋯;rw[e]at m;have:((List.zip a.cps.toList row.cps.toList).map mD).map V.bl=ys:=by rw[m,Yv];rfl
     rw[this];exact SqL.of y
    .have e:eZ row a=((List.zip a.cps.toList row.cps.toList).map mD).all id:=by
      unfold eZ;rw[Zf j,all_map,Bool.true_and];rfl
     exact e▸k g v
def zg(h:(rows.map (·.length)).sum<=3000):(Str.join (Str.ofString "") rows).length<=3000:=by
 have:=StrLaws.join_length_le (Str.ofString "") rows;rw[show(Str.ofString "").length=0 from rfl]at this
 lia
def kT(T:Txt K mg):↥1 "letters_in" ["rows"] (jI K):=by
 refine T.b2.cal pQ (λH vs Q E h=>?_)
 .have%[a,rows,rfl,N,g,u|k]:=h;refine%[rfl|λf M A outer s hr=>?_];refine%[_,%["JDI*~5A~K~eAsd?1P~I~aRA0BX0?2~CL!0~J0BB",0,(show bM (ao ii) ["rows"] _ ["sign"] []=true from by decide +kernel)|(show(["sign"]:ZB).Nodup from by simp)]|?_];show j6 _ _ [!a] H;lk;refine aI λC O=>?_
  lk;refine%[rows,N,by rw[show(Str.ofString "").length=0 from rfl];lia|?_];rw[show Txt.join (Str.ofString "") rows=Str.join (Str.ofString "") rows from StrLaws.glued_eq_join _ _];have j:=zg g;have b:=lB u;unfold cY at b k
  generalize Str.join (Str.ofString "") rows=z at j b k ⊢
  refine O _ _ λD G=>?_
  refine bw (J:=Its z) (n:=z.cps.size) (D:=D) (λi ys v m=>(∃o,v=[o])/\ah H m/\m D=some (.lst ys)/\ys=((z.cps.toList.take i).filter (λc=>decide (c≠46))).map (λc=>V.str (sgn c))) %[%[none|rfl],ah.upd G,aa|rfl]
   (λi _ _ _ hi _=>hi) (λ_ _ _ _=>Zi _) ?_ ?_
  .intro i ys v m hi %[%[o|rfl],r,t|d] x H2 %[U,c,I|rfl];subst U;have L:ys.length<=i:=by
    rw[d,Z6];have:=Ym (λc=>decide (c≠46)) (z.cps.toList.take i);rw[Yp]at this
    lia
   have Y:i<3000:=by
    have:z.length=z.cps.size:=rfl
    lia
   lk;simp only[oI];refine bE (λy=>?_) λy=>?_
   .refine CK.mk hi t (aA ⋯) %[%[_|rfl],ah.set r G,aa|?_];rw[<-jr z i c I,Y2,Zd,d];have:decide (c≠46)=true:=by simpa using y
    rw[filter_cons,this];rfl
   .refine CN.mk hi %[%[_|rfl],r,t|?_];rw[<-jr z i c I,Y2,Zd,d];have:decide (c≠46)=false:=by simpa using y
    rw[filter_cons,this];simp
  .intro ys v m %[_,r,t|d];have e:z.cps.toList.take z.cps.size=z.cps.toList:=by
    apply Zn;simp
   rw[e]at d;lk;have ab:=Ym (λc=>decide (c≠46)) z.cps.toList;have ac:z.cps.toList.length=z.length:=by simp[Str.length]
   refine%[(z.cps.toList.filter (λc=>decide (c≠46))).map sgn,?_,by rw[Z6];lia|λS hS=>%[_,aa,?_|λl ss p hp B=>?_]]
   .rw[Yv];have:(z.cps.toList.filter (λc=>decide (c≠46))).map (V.str ∘ sgn)=ys:=by rw[d];rfl
    rw[this];exact SqL.of t
   .have:=nL b
    lia
   .have q:ah H (upd m S (jT w S (aK ((z.cps.toList.filter (λc=>decide (c≠46))).map sgn)))):=r.trans (ah.upd hS);exact k l _ ss (q.trans (ah.upd p)) (q.free p) aa hp B
def lM(T:Txt K mg):↥2 "rows_of" ["text"] oH:=by
 refine T.aZ.cal ig (λH vs Q E h=>?_)
 .have%[rows,rfl,a|k]:=h;refine%[rfl|λf al A outer s L=>?_];have%[wd,w1,w2|hw]:=a.wide;have M:=a.text;have t:=a.split;refine%[_,%["JCNrh%&A0A?1BD:OCH1~6~70ARBCS~PA1BfMK2MK3gCNZvLn2~8$rhG~9A3BD:ODNZxL;2E(rhG]AA3AT1F~H2EBD:OCNLnbcAG~tA1BBED:ODI1",ig.nd,(blE (v:= .ty "str") rfl T.ab boot_str rfl rfl rfl)|L]|?_]
  generalize Str.join nl rows=z at M t
  show bd _ _ _ [-z,none,none,none] H;refine ap λD1 k1 _=>?_
  lk;refine%[.type "str",.str z,true,by rfl|E9 (k1 _ _ (ap λD2 k2 _=>?_))];lk;refine%[by decide,Yk (by lia:z.length+2<=5000) (by decide)|λl hl=>k2 _ _ ?_];rw[show(Str.ofString "\n")=nl from rfl,t];refine ap λD3 k3 _=>az λag hK=>?_
  lk;have N:ah H (upd H l (.lst (rows.map V.str))):=ah.upd hl;refine%[_,SqL.of aa|hK _ _ (km (λi I g=>∃O U,I=[-z,!l,O,U]/\ah H g/\g l=some (.lst (rows.map V.str))) %[none,none,rfl,N|aa] (λi I g _ ⟨_,_,_,_,q⟩=>SqL.of q) ?_ ?_)]
  .intro i x TT I g u %[O,U,rfl,Y|j] hT;obtain⟨r,m,rfl⟩:∃r,rows[i]? =some r/\x=V.str r:=by
    rw[Zl]at u;cases e:rows[i]? with
    | none=>rw[e]at u;cases u
    | some r=>rw[e]at u;exact%[r,rfl|(Za u).symm]
   have ai:i<rows.length:=(Xr m).1;have aj:=a.high;have y:ah H (upd g TT (.tup [.int i,.str r])):=Y.trans (ah.upd hT);have o:upd g TT (.tup [.int i,.str r]) l=some (.lst (rows.map V.str)):=ah.upd hT _ _ j;have B:upd g TT (.tup [.int i,.str r]) TT=some (.tup [.int i,.str r]):=aa
   generalize upd g TT (.tup [.int i,.str r])=HT at y o B
   have C:r.length<=1000:=by
    have:r.length=wd:=hw r (Z8 m)
    lia
   refine%[_,SqT.of B,rfl,_,_,rfl,_,_,rfl,rfl|?_];show bd _ _ _ [-z,!l,some (.int i),-r] HT;refine ap λD4 k4 _=>?_
   have go:∀p,ah HT p->D4.nx [-z,!l,some (.int i),-r] p:=by
    intro p b;refine k4 _ _ (aB λD5 k5 _=>?_);have fin:∀J,ah HT J->D5.nx [-z,!l,some (.int i),-r] J:=λJ n=>k5 _ _ %[_,_,rfl,y.trans n|n l _ o]
    lk;refine bE (λG=>?_) λ_=>fin _ b
    have G:0<(i:Int):=Zo G;obtain⟨d,rfl⟩:∃d,i=d+1:=%[i-1|⋯]
    have ab:d<rows.length:=by lia
    have ac:rows[d]? =some rows[d]:=by simp
    have e1:(((d+1:Nat):Int) -1)=(d:Int):=by lia
    refine%[_,SqL.of (b l _ o),.str rows[d],e1▸cj ∅,r,rows[d],rfl,C,?_|λJ n=>%[_,rfl|?_]]
    .have:rows[d].length=wd:=hw _ (Yg ab)
     lia
    .rw[a.beneath ac m];exact E9 (fin _ (b.trans n))
   lk;rw[if_neg ⋯];refine%[r,rfl,C|λp b=>%[_,rfl|?_]];rw[a.row (Z8 m)];exact E9 (go p b)
  .intro I g %[O,U,rfl,Y|j];refine k3 _ _ ?_;lk;refine%[l,rows,rfl,SqL.of j,by have:=a.sum;lia,a.sign|λl2 p ss b an ae G as=>%[_,.inl %[_,SqL.of ae|rfl]|?_]];rw[if_neg]
   .exact k l p (Y.trans b) hl (b l _ j)
   .intro h0;have h0:=Zo h0;rw[Z6]at h0;have:ss=[]:=length_eq_zero_iff.mp ⋯;rw[this]at G;have hm:=G.symm.eq_nil;have%[c|hc]:=List.exists_mem_of_ne_nil _ a.signs_ne;have:sgn c∈aK ((cY rows).map sgn):=bx.mpr (Xv %[c,hc|rfl]);rw[hm]at this;cases this
abbrev qS(p:Nat×Nat):Option ZB:=if p.1≠46/\p.1≠p.2 then some [sgn p.1,sgn p.2]else none
abbrev oK(u r:Str):List ZB:=(List.zip u.cps.toList r.cps.toList).filterMap qS
def jc(H:Hp):a9 H []:=λp a=>by cases a
def aY(h:a9 H ps)(s:∀b z,H b=some (.tup z)->c b=some (.tup z)):a9 c ps:=λp a=>%[(h p a).1|s _ _ (h p a).2]
def jt(h:a9 H ps)(a:q.2≠[])(b:H q.1=some (.tup (q.2.map V.str))):a9 H (ps++[q]):=λp c=>by
 rcases Xs c with z|z
 .exact h p z
 .rw[Xt z];exact%[a|b]
def uF(a:a9 H ps)(b:a9 H qs):a9 H (ps++qs):=λp c=>(Xs c).elim (a p) (b p)
inductive Ec (vs:ZM) (H:Hp) (Q:VK) (E0:XK):Prop
 | mk (u r:Str):vs=[.str u,.str r]->u.length<=40->r.length=u.length->(∀l H' ps,ah H H'->H l=none->H' l=some (.lst (ps.map λp=>V.ref p.1))->a9 H' ps->ps.map (·.2)=oK u r->Q (.ref l) H')->Ec vs H Q E0
inductive xh (vs:ZM) (H:Hp) (Q:VK) (E0:XK):Prop
 | mk (rows:ZB):vs=[.str (Str.join nl rows)]->bU rows->(∀l H' ss,ah H H'->H l=none->H' l=some (.lst (ss.map V.str))->ss.Perm (aK ((cY rows).map sgn))->PyProof.Rows.sortedS ss=true->Q (.ref l) H')->xh vs H Q E0
def zh(T:Txt K mg):↥3 "letters" ["text"] xh:=by
 refine T.b3.cal wp (λH vs Q E h=>?_)
 .have%[rows,rfl,a|e]:=h;refine%[rfl|λf d A outer s b=>?_];refine%[_,%["JDIG~tAG~uA0BB",0|b],rows,rfl,a|λl r c t g=>%[l,rows,rfl,SqL.of g,by have:=a.sum;lia,a.sign|λi j ss m n o p q=>e i j ss (c.trans m) (c.free n) o p q]]
def jZ(T:Txt K mg):↥1 "meetings_between" ["above","row"] Ec:=by
 refine T.b5.cal jy (λH vs Q E h=>?_)
 .have%[u,r,rfl,hu,ae|kk]:=h;refine%[rfl|λf ac A outer s hr=>?_];have ag:u.length=u.cps.size:=rfl;have ai:r.length=r.cps.size:=rfl;refine%[_,%["JDIsd?1~sA0A1BfMX0?2MX1?2g~CZxL!0~J(L!01mA0A1B",0,(show bM (ao dc) ["above","row"] _ ["high","low"] []=true from by decide +kernel)|(show(["high","low"]:ZB).Nodup from by decide +kernel)]|?_];show j6 _ _ [-u,-r] H;lk;refine aI λab hK=>?_
  lk;refine hK _ _ λD N=>?_
  refine bw (J:=Itz u r) (n:=u.cps.size) (D:=D) (λi ys O l=>(∃o1 o2,O=[o1,o2])/\ah H l/\l D=some (.lst ys)/\ys.length<=i/\∃ps:ZG,ys=ps.map (λp=>V.ref p.1)/\a9 l ps/\ps.map (·.2)=((List.zip u.cps.toList r.cps.toList).take i).filterMap qS)
   %[%[none,none|rfl],ah.upd N,aa,Zi _,[],rfl,jc _|rfl] (λi _ _ _ hi _=>%[hi|⋯]) (λ_ _ _ _=>%[Zi _,⋯|.inl rfl]) ?_ ?_
  .intro i ys O l hi %[%[o1,o2|rfl],U,Y,G,ps,I,m|j] x H2 %[c,d,TT,hc,hd,hT,rfl|rfl];have t:=ah.upd (o:= .tup [.str ⟨([c].toArray)⟩,.str ⟨([d].toArray)⟩]) hT;have nx:=uE u r i c d hc hd;have a:=t _ _ Y;have B:upd l TT (.tup [.str ⟨([c].toArray)⟩,.str ⟨([d].toArray)⟩]) TT=some (.tup [.str ⟨([c].toArray)⟩,.str ⟨([d].toArray)⟩]):=aa;have g:a9 (upd l TT (.tup [.str ⟨([c].toArray)⟩,.str ⟨([d].toArray)⟩])) ps:=λp C=>%[(m p C).1|t _ _ (m p C).2]
   have v:=U.trans t
   generalize upd l TT (.tup [.str ⟨([c].toArray)⟩,.str ⟨([d].toArray)⟩])=HT at t a B g v
   refine%[_,SqT.of B,rfl,_,_,rfl,_,_,rfl,rfl|?_];show Cb _ _ [some (.str ⟨([c].toArray)⟩),some (.str ⟨([d].toArray)⟩)] HT _;lk;simp only[oI,BF];have aj:D≠TT:=λe=>by rw[e,B]at a;cases a
   refine bE (λL=>bE (λM=>?_) λM=>?_) λL=>?_
   .have L:c≠46:=by simpa using L
    have M:c≠d:=by simpa using M
    refine%[show 2<=sizeLine from by decide|λp C=>?_];have y:=ah.upd (o:= .tup [V.str ⟨([c].toArray)⟩,V.str ⟨([d].toArray)⟩]) C;have al:p≠D:=λe=>by rw[e,a]at C;cases C
    refine CK.mk hi (y _ _ a) (aA ⋯) %[%[_,_|rfl],ah.set (v.trans y) N,aa,by rw[Z9,Yo];lia,ps++[(p,[sgn c,sgn d])],by rw[I,Zd];rfl,?_|?_]
    .have keep:∀b z,upd HT p _ b=some (.tup z)->upd _ D (.lst (ys++[V.ref p])) b=some (.tup z):=λb z e=>by
      have:b≠D:=λe2=>by rw[e2,y _ _ a]at e;cases e
      rw[am this];exact e
     exact aY (jt (aY g λb z e=>y _ _ e) ∅ (by rw[aa];rfl)) keep
    .rw[Zd,j,<-nx,List.filterMap_append];have:qS (c,d)=some [sgn c,sgn d]:=if_pos %[L|M];rw[Y1,this];rfl
   .refine CN.mk hi %[%[_,_|rfl],v,a,⋯,ps,I,g|?_];rw[j,<-nx,List.filterMap_append];have:qS (c,d)=none:=if_neg λq=>q.2 (by simpa using M)
    rw[Y1,this];simp
   .refine CN.mk hi %[%[_,_|rfl],v,a,⋯,ps,I,g|?_];rw[j,<-nx,List.filterMap_append];have:qS (c,d)=none:=if_neg λq=>q.1 (by simpa using L)
    rw[Y1,this];simp
  .intro ys O l %[_,U,Y,G,ps,I,m|j];rw[Zn (by rw[length_zip];simp;lia)]at j;exact kk D l ps U N (by rw[Y,I]) m j
def BH{K:ZA}{xs ys:ZM}{g:TG}{q:TS}{D:lg}(Pv:Nat->St->Hp->Prop)(s:Pv 0 c H)(t:ys.length<=xs.length)(u:∀i c H,i<=ys.length->Pv i c H->SqL K H a xs/\SqL K H b ys)
 (z:∀i x y T c H,xs[i]? =some x->ys[i]? =some y->Pv i c H->H T=none->g (.ref T) c (upd H T (.tup [x,y])) λd j=>q {D with nx:=Pv (i+1),ct:=Pv (i+1),bk:=D.nx} d j) (A:∀c H,Pv ys.length c H->D.nx c H):
 ∃W:Nat->Nat->St->Hp->Prop,(∃m,W 0 m c H)/\∀i m c H,W i m c H->
  ((yM K a b).stop i H/\D.nx c H)\/((yM K a b).go i H/\∃N:St->Hp->Prop,(∀f h,N f h->∃r,r<m/\W (i+1) r f h)/\∀x h,(yM K a b).yld i H x h->g x c h λd j=>q {D with nx:=N,ct:=N,bk:=D.nx} d j):=by
 refine%[λi m c H=>m=ys.length-i/\i<=ys.length/\Pv i c H,%[ys.length,by simp,Xj _|s]|?_];intro i m c H %[rfl,hi|p];have%[l|n]:=u i c H hi p;by_cases o:i<ys.length
 .have B:xs[i]? =some xs[i]:=by simp[show i<xs.length by lia]
  have C:ys[i]? =some ys[i]:=by simp
  refine .inr %[%[xs,ys,_,_,l,n,B|C],Pv _,λf h E=>%[ys.length-(i+1),⋯,rfl,o|E]|λv h y=>?_];have%[T,G,I,J,rfl,rfl,L|M]:=y;exact z i G I T c H (L xs l) (M ys n) p J
 .have e:i=ys.length:=by lia
  subst e;exact .inl %[%[xs,ys,l,n,⋯,Zi _|.inr rfl]|A c H p]
abbrev fO(rows:ZB)(i:Nat):List ZB:=(List.range i).flatMap λj=>oK (rows.getD j ⟨([].toArray)⟩) (rows.getD (j+1) ⟨([].toArray)⟩)
def sL(rows:ZB)(i:Nat):fO rows (i+1)=fO rows i++oK (rows.getD i ⟨([].toArray)⟩) (rows.getD (i+1) ⟨([].toArray)⟩):=by
 unfold fO;rw[range_succ,Y7];simp
def wt(u r:Str):(oK u r).length<=u.length:=by
 refine Yk (List.length_filterMap_le _ _) ?_;rw[length_zip];have:u.cps.toList.length=u.length:=by simp[Str.length]
 lia
def zi(h:k∈fO rows (rows.length-1)):∃a b,k=[sgn a,sgn b]/\y6 rows a b:=by
 have%[j,d|g]:=mem_flatMap.mp h;have f:∀j h,rows.getD j ⟨([].toArray)⟩=rows[j]:=λj h=>by simp[h]
 have d:=mem_range.mp d;have%[%[a|b],i|e]:=mem_filterMap.mp g;unfold qS at e
 split at e
 .rename_i h
  have%[q|c]:=Xk i;rw[List.getElem?_zip_eq_some,f j ⋯,f _ ⋯]at c;exact%[a,b,(Za e).symm,h.1,h.2,j,q,rows[j],rows[j+1],Z4 _,Z4 _,by simpa using c.1|by simpa using c.2]
 .lia
def zj(g:bU rows)(h:y6 rows a b):Let rows a/\Let rows b:=by
 have%[n1,l,i,j,r,c,d,f,g1|g2]:=h;refine%[%[n1,r,Z8 d|Z8 (by simpa using g1)],λe=>n1 (g.fall i r c d f j a b g1 g2 e),c,Z8 f|Z8 (by simpa using g2)]
def zk(rows:ZB)(h:rows≠[]):ti (rows.map V.str) (some 1) none=(rows.drop 1).map V.str:=by
 unfold ti;rw[HT.sIx_none,show(some (1))=some ((1:Nat):Int)from rfl,HT.sIx_nat,Z6,X4 (length_pos_iff.mpr h),<-List.map_drop,<-List.map_take];rw[Zn (Yl▸Zi _)]
inductive xi (vs:ZM) (H:Hp) (Q:VK) (E0:XK):Prop
 | mk (rows:ZB):vs=[.str (Str.join nl rows)]->bU rows->uy rows->(∀l H' ss,ah H H'->H l=none->H' l=some (.lst (ss.map λp=>V.ref p.1))->a9 H' ss->ss.length<=26->(∀t∈ss,∃a b,t.2=[sgn a,sgn b]/\Let rows a/\Let rows b)->(∀k,k∈ss.map (·.2)↔k∈fO rows (rows.length-1))->Q (.ref l) H')->xi vs H Q E0
def wu(T:Txt K mg):↥3 "meetings" ["text"] xi:=by
 refine T.b4.cal ee (λH vs Q E h=>?_)
 .have%[rows,rfl,c,%[mm,ml|a4]|kk]:=h;refine%[rfl|λf bn A outer s hr=>?_];have%[wd,w1,w2|Y]:=c.wide;have hp:1<=rows.length:=c.pos;have bf:=c.high;have a5:rows≠[]:=length_pos_iff.mp hp;refine%[_,%["JCH1G~uA0BCH2QBCS]BA1A>1/E~LBfMK3MK4gDU~v~w2AG]CA3A4BBDI*~xA~K~yA2BB",ee.nd|hr]|?_]
  show bd _ _ _ [some (.str (Str.join nl rows)),none,none,none,none] H;refine ap λD1 k1 r1=>?_
  lk;refine%[rows,rfl,c|λR H1 s1 f1 hR=>k1 _ _ (ap λD2 k2 r2=>?_)];lk;refine%[Xj _|λL hL=>k2 _ _ (ap λD3 k3 r3=>az λbl hK=>?_)];have s2:=ah.upd (o:= .lst []) hL;have C:=s2 _ _ hR;have G:upd H1 L (.lst []) L=some (.lst []):=aa;have fL:H L=none:=s1.free hL;have ab:=s1.trans s2
  generalize upd H1 L (.lst [])=H2 at s2 C G ab
  lk;refine .inl %[_,SqL.of C|λp hp=>?_];rw[zk rows a5];have s3:=ah.upd (o:= .lst ((rows.drop 1).map V.str)) hp;have I:=s3 _ _ C;have ac:=s3 _ _ G;have J:upd H2 p (.lst ((rows.drop 1).map V.str)) p=some (.lst ((rows.drop 1).map V.str)):=aa;have ae:=ab.trans s3;have a6:L≠R:=λe=>by rw[e,hR]at hL;cases hL
  have a7:p≠L:=λe=>by rw[e,G]at hp;cases hp
  generalize upd H2 p (.lst ((rows.drop 1).map V.str))=H3 at s3 I ac J ae
  refine%[%[_|SqL.of I],%[_|SqL.of J]|hK _ _ (BH (xs:=rows.map V.str) (ys:=(rows.drop 1).map V.str) (λi σ l=>(∃o3 o4,σ=[some (.str (Str.join nl rows)),!R,!L,o3,o4])/\ah H l/\l R=some (.lst (rows.map V.str))/\l p=some (.lst ((rows.drop 1).map V.str))/\
   ∃ps:ZG,l L=some (.lst (ps.map λq=>V.ref q.1))/\a9 l ps/\ps.map (·.2)=fO rows i/\ps.length<=40*i) %[%[none,none|rfl],ae,I,J,[],ac,jc _,rfl|Xj _] (by rw[Z6,Z6,Yl];lia) (λi σ l _ q=>%[SqL.of q.2.2.1|SqL.of q.2.2.2.1]) ?_ ?_)]
  .intro i x y TT σ l hx hy %[%[o3,o4|rfl],sm,ag,ai,ps,M,g,n|aj] hT;rw[Zl]at hx hy;have%[u,hu|rfl]:=map_eq_some_iff.mp hx;have%[r,v|rfl]:=map_eq_some_iff.mp hy;rw[Yc,Nat.add_comm]at v;have bp:i+1<rows.length:=(Xr v).1;have ul:u.length=wd:=Y u (Z8 hu);have rl:r.length=wd:=Y r (Z8 v);have j:=ah.upd (o:= .tup [V.str u,V.str r]) hT;have al:upd l TT (.tup [V.str u,V.str r]) TT=some (.tup [V.str u,V.str r]):=aa;have an:=j _ _ ag;have as:=j _ _ ai;have t:=j _ _ M;have B:a9 (upd l TT (.tup [V.str u,V.str r])) ps:=aY g λb z e=>j _ _ e
   have a0:=sm.trans j
   generalize upd l TT (.tup [V.str u,V.str r])=HT at j al an as t B a0
   refine%[_,SqT.of al,rfl,_,_,rfl,_,_,rfl,rfl|?_];refine aB λD4 k4 r4=>?_
   lk;refine%[.inl %[_|SqL.of t],u,r,rfl,⋯,⋯|λl4 H4 ps4 U f4 h4 a1 e4=>?_];have bt:l4≠L:=λe=>by rw[e,t]at f4;cases f4
   have bm:ps4.length<=40:=by
    have:(ps4.map (·.2)).length=(oK u r).length:=by rw[e4]
    rw[Z6]at this;have:=wt u r
    lia
   refine%[_,rfl,_,U _ _ t,_,h4,by rw[Z6,Z6];exact cv ⋯|k4 _ _ ?_];have N:∀b z,H4 b=some (.tup z)->upd H4 L (.lst ((ps.map λq=>V.ref q.1) ++ps4.map λq=>V.ref q.1)) b=some (.tup z):=λb z e=>by
    have:b≠L:=λe2=>by rw[e2,U _ _ t]at e;cases e
    rw[am this];exact e
   have bb:R≠L:=Ne.symm a6;refine%[%[_,_|rfl],λb u' e=>?_,(am bb)▸U _ _ an,(am a7)▸U _ _ as,ps++ps4,by rw[aa,Zd],aY (uF (aY B λb z e=>U _ _ e) a1) N,?_|by rw[Z9];lia]
   .rw[am (ay e fL)];exact U _ _ (a0 _ _ e)
   .rw[Zd,n,e4,sL];have g1:rows.getD i ⟨([].toArray)⟩=u:=by rw[Zc,hu];rfl
    have g2:rows.getD (i+1) ⟨([].toArray)⟩=r:=by rw[Zc,v];rfl
    rw[g1,g2]
  .intro σ l %[%[o3,o4|rfl],sm,ag,ai,ps,M,g,n|aj];rw[Z6,Yl]at n;refine k3 _ _ ?_;lk;have O:∀q∈ps,∃a b,q.2=[sgn a,sgn b]/\y6 rows a b:=λq d=>zi (n▸Xv %[q,d|rfl])
   have a2:∀q∈ps,q.2∈mm:=λq d=>by
    have%[a,b,e|h]:=O q d;rw[e];exact a4 a b h
   refine%[ps,SqL.of M,g,%[mm,⋯|a2]|λl5 bc=>?_];have s5:=ah.upd (o:=n8 P w l5 (ba ps)) bc;have few:(ba ps).length<=26:=by
    have:=STab.nodup_sub (dW ps) (m:=mm) λk hk=>by
     have%[q,d|rfl]:=Xu hk;exact a2 q (bq ps q d)
    rw[Z6]at this
    lia
   refine%[ba ps,aa,λq d=>%[(g q (bq ps q d)).1|s5 _ _ (g q (bq ps q d)).2],2,λq d=>?_,by decide,⋯|λl6 ss a3 pm so=>?_]
   .have%[a,b,e|_]:=O q (bq ps q d);rw[e];rfl
   have s6:=ah.upd (o:= .lst (ss.map λq=>V.ref q.1)) a3;refine kk l6 _ ss ((sm.trans s5).trans s6) ((sm.trans s5).free a3) aa (λq d=>?_) (pm.length_eq▸few) (λq d=>?_) λk=>?_
   .have:=g q (bq ps q (pm.mem_iff.mp d));exact%[this.1|s6 _ _ (s5 _ _ this.2)]
   .have%[a,b,e|h]:=O q (bq ps q (pm.mem_iff.mp d));exact%[a,b,e|zj c h]
   .rw[(pm.map _).mem_iff,hJ,n]
abbrev ef(z:Str):Bool:=(decide (1<=(z.length:Int))&&decide ((z.length:Int)<=8))&&z.cps.toList.all iT
inductive oM (vs:ZM) (H:Hp) (Q:VK) (E0:XK):Prop
 | mk (z:Str):vs=[.str z]->ef z=true->(∀H',ah H H'->Q (.bl true) H')->oM vs H Q E0
inductive uG (K:ZA) (vs:ZM) (H:Hp) (Q:VK) (E0:XK):Prop
 | mk (z:Str) (p:Addr) (ts:ZB):vs=[.str z,.ref p]->(SqL K H p (ts.map V.str)\/SqT K H p (ts.map V.str))->Q (.bl (decide (z∈ts))) H->uG K vs H Q E0
inductive oN (vs:ZM) (H:Hp) (Q:VK) (E0:XK):Prop
 | mk (i:Int):vs=[.int i]-> -9999<=i->i<=9999->Q (.bl true) H->oN vs H Q E0
abbrev qT(c:ZB)(vs:ZM):Prop:=
 (∃w a b:Str,vs=[.str w,.str a,.str b]/\(w="later"\/w="same")/\a∈c/\b∈c/\a≠b)\/
 ∃w a y,vs=[.str w,.str a,.int y]/\(w="since"\/w="by")/\a∈c/\ -9999<=y/\y<=9999
inductive kU (K:ZA) (vs:ZM) (H:Hp) (Q:VK) (E0:XK):Prop
 | mk (t p xs ls):vs=[.ref t,.ref p]->H t=some (.tup xs)->SqL K H p (ls.map V.str)->qT ls xs->Q (.bl true) H->kU K vs H Q E0
abbrev lnS(n z:Str):Str:=Str.empty++n++Str.ofString "."++z
inductive jJ (vs:ZM) (H:Hp) (Q:VK) (E0:XK):Prop
 | mk (n z:Str):vs=[.str n,.str z]->n.length<=100->z.length<=100->Q (.str (lnS n z)) H->jJ vs H Q E0
def xj(z:Str)(ts:ZB):inV (V.str z) (ts.map V.str)=decide (z∈ts):=by
 unfold inV
 induction ts with
 | nil=>rfl
 | cons c r a=>
   show((c==z)||_)=_
   grind
def zo(ts:ZB):(ts.map V.str).all fE=true:=by simp[fE]
def zq(T:Txt K mg):↥1 "is_name" ["thing"] oM:=by
 refine T.aY.cal wo (λH vs Q E h=>?_)
 .have%[z,rfl,y|k]:=h;refine%[rfl|λf u A outer s M=>?_];refine%[_,%["JCNrh%&A0A?1BDItODIz~b~D~DEbcA0B]D)~c~dAsd?2P0X0?3qp_0~rB",0,(blE (v:= .ty "str") rfl T.ab boot_str rfl rfl rfl),(show bM (ao lJ) ["thing"] _ ["sign"] []=true from by decide +kernel)|(show(["sign"]:ZB).Nodup from by decide +kernel)]|?_]
  show bd _ _ _ [-z] H;have a:=y;unfold ef at a;rw[Zx,Zx]at a;have%[%[B|q]|b]:=a;have N:z.length<=8:=by have:=Zo q;lia
  lk;refine%[.type "str",.str z,true,by rfl|?_];lk;refine%[cv ⋯|?_];rw[if_pos B,if_pos q];refine aI λr C=>?_
  lk;refine C _ _ λD t=>?_
  refine bw (J:=Its z) (n:=z.cps.size) (D:=D) (λi ys l d=>(∃o,l=[o])/\ah H d/\d D=some (.lst ys)/\ys=(z.cps.toList.take i).map (λc=>V.bl (iT c))) %[%[none|rfl],ah.upd t,aa|rfl]
   (λi _ _ _ hi _=>hi) (λ_ _ _ _=>Zi _) ?_ ?_
  .intro i ys l d hi %[%[o|rfl],m,p|g] x O %[G,c,I|rfl];subst G;lk;have j:ys.length=i:=by
    rw[g,Z6,Yp];have:z.cps.toList.length=z.cps.size:=by simp
    lia
   have L:i<1000:=by
    have:z.length=z.cps.size:=rfl
    lia
   refine CK.mk hi p (j▸aA ⋯) %[%[_|rfl],ah.set m t,aa|?_];rw[Ax,g,<-jr z i c I,Zd]
   all_goals rfl
  .intro ys l d %[_,m,p|g];refine%[D,rfl,(z.cps.toList.map iT),?_|?_]
   .have e:z.cps.toList.take z.cps.size=z.cps.toList:=by
     apply Zn;simp
    rw[e]at g;have:(z.cps.toList.map iT).map V.bl=ys:=by rw[g,Yv];rfl
    rw[this];exact SqL.of p
   .have e:(z.cps.toList.map iT).all id=true:=by
     rw[all_map];exact b
    rw[e];exact k d m
def cw(T:Txt K mg):↥1 "is_text_among" ["thing","texts"] (uG K):=by
 refine T.bb.cal lK (λH vs Q E h=>?_)
 .have%[z,p,ts,rfl,b|k]:=h;refine%[rfl|λf a A outer s c=>?_];refine%[_,%["JDIz%&A0A?1B)p_01",0|(blE (v:= .ty "str") rfl T.ab boot_str rfl rfl rfl)]|?_];show j6 _ _ [some _,some _] H;lk;refine%[.type _,.str z,true,by rfl|?_];rw[<-xj]at k;exact%[_,b,rfl,zo ts|k]
def zt(T:Txt K mg):↥1 "is_year" ["thing"] oN:=by
 refine T.bc.cal wq (λH vs Q E h=>?_)
 .have%[i,rfl,b,c|k]:=h;refine%[rfl|λf a A outer s d=>?_];refine%[_,%["JCNZvrh%&A0A?1B$h%&A0A?2BDItODI~b~D~D]E0]F",0,(blE (v:= .ty "int") rfl T.ah boot_int rfl rfl rfl)|(blE (v:= .ty "bool") rfl T.ai PyProof.Rows.boot_bool rfl rfl rfl)]|?_]
  show bd _ _ _ [some (.int i)] H;lk;refine%[.type _,.int i,true,by rfl,.type _,.int i,false,by rfl|?_];rw[if_pos (Zf b),Zf c];exact k
def im(T:Txt K mg):↥1 "layer_name" ["name","letter"] jJ:=by
 refine T.bd.cal pR (λH vs Q E h=>?_)
 .have%[n,z,rfl,j,l|k]:=h;refine%[rfl|λf c A outer s i=>?_];refine%[_,%["JDI~z~M~f0~MR~M~f1~!"|0]|?_];show j6 _ _ [-n,some _] H;lk;have e:∀a b:Str,(a++b).length=a.length+b.length:=λa b=>size_append
  have d:Str.empty.length=0:=rfl;have g:(Str.ofString ".").length=1:=rfl;have le:∀k,k<=1000->k<=sizeLine:=λk m=>cv ⋯
  refine%[le _ ⋯,le _ ?_,le _ ?_,le _ ⋯,le _ ?_,le _ ?_|k]<;> simp only[e,d,g]<;> lia
def uH(T:Txt K mg):↥2 "is_saying" ["thing","layers"] (kU K):=by
 refine T.ba.cal sI (λH vs Q E h=>?_)
 .have%[t,p,xs,e,rfl,m,g,ok|k]:=h;refine%[rfl|λf n A outer s c=>?_];refine%[_,%["JCNZvrh%&A0A?1B$L!bcA0BEDItOCNhG~NAW0EA]GBDIzG~NAW0EA1BzG~NAW0EA1B)p!W0EW0EOCNhG~NAW0EA]HBDIzG~NAW0EA1B)G]IAW0EBODIt",0,(blE (v:= .ty "tuple") rfl T.ag boot_tuple rfl rfl rfl)|c]|?_]
  show bd _ _ _ [!t,!p] H;lk;refine%[.type "tuple",.tup m,true,by rfl|?_];have st:=SqT.of (K:=K) m;rcases ok with⟨wd,a,b,rfl,hw,i,o,j⟩|⟨wd,a,y,rfl,hw,i,r,u⟩
  .have l:decide (wd∈([Str.ofString "later",Str.ofString "same"]:ZB))=true:=by rcases hw with rfl|rfl<;> decide
   lk;refine%[3,.inr %[_,st|rfl]|?_];rw[if_neg (by decide)];refine%[_,st,_,rfl|λq d=>%[wd,q,[Str.ofString "later",Str.ofString "same"],rfl,.inr (d H),_,rfl|?_]];rw[l];lk;refine%[_,st,_,rfl,a,p,e,rfl,.inl g,_,rfl|?_];rw[Zf i];lk;refine%[_,st,_,rfl,b,p,e,rfl,.inl g,_,rfl|?_];rw[Zf o];lk;refine%[_,st,_,rfl,_,st,_,rfl,rfl|?_];rw[show(!decide (V.str a=V.str b))=true from by simp[j]];exact k
  .have l:decide (wd∈([Str.ofString "later",Str.ofString "same"]:ZB))=false:=by rcases hw with rfl|rfl<;> decide
   have z:decide (wd∈([Str.ofString "since",Str.ofString "by"]:ZB))=true:=by rcases hw with rfl|rfl<;> decide
   lk;refine%[3,.inr %[_,st|rfl]|?_];rw[if_neg (by decide)];refine%[_,st,_,rfl|λq d=>%[wd,q,[Str.ofString "later",Str.ofString "same"],rfl,.inr (d H),_,rfl|?_]];rw[l];lk;refine%[_,st,_,rfl|λq d=>%[wd,q,[Str.ofString "since",Str.ofString "by"],rfl,.inr (d H),_,rfl|?_]];rw[z];lk;refine%[_,st,_,rfl,a,p,e,rfl,.inl g,_,rfl|?_];rw[Zf i];lk;exact%[_,st,_,rfl,y,rfl,r,u|k]
abbrev cg(H:Hp)(cs:ZH):Prop:=∀p∈cs,H p.1=some (.tup [.str p.2.1,.str (Str.join nl p.2.2)])/\ef p.2.1=true/\bU p.2.2
def cg.up(h:cg H cs)(s:ah H b):cg b cs:=λp a=>%[s _ _ (h p a).1|(h p a).2]
inductive qU (vs:ZM) (H:Hp) (Q:VK) (E0:XK):Prop
 | mk (rows:ZB):vs=[.str (Str.join nl rows)]->bU rows->(∀H',ah H H'->Q (.bl true) H')->qU vs H Q E0
inductive uI (vs:ZM) (H:Hp) (Q:VK) (E0:XK):Prop
 | mk (p:Addr×Str×ZB):vs=[.ref p.1]->cg H [p]->(∀H',ah H H'->Q (.bl true) H')->uI vs H Q E0
abbrev bY(cs:ZH):ZM:=cs.map λp=>V.ref p.1
inductive jK (vs:ZM) (H:Hp) (Q:VK) (E0:XK):Prop
 | mk (l cs):vs=[.ref l]->H l=some (.lst (bY cs))->cg H cs->(cs.map λp=>p.2.1).Nodup->1<=cs.length->cs.length<=8->(∀H',ah H H'->Q .non H')->jK vs H Q E0
abbrev df(H:Hp)(a:ZB)(qs:ZN):Prop:=∀q∈qs,H q.1=some (.tup q.2)/\qT a q.2
def df.up(h:df H b qs)(s:ah H c):df c b qs:=λp a=>%[s _ _ (h p a).1|(h p a).2]
inductive gO (K:ZA) (vs:ZM) (H:Hp) (Q:VK) (E0:XK):Prop
 | mk (l r ls qs):vs=[.ref l,.ref r]->H l=some (.lst (qs.map λq=>V.ref q.1))->H r=some (.lst (ls.map V.str))->df H ls qs->qs.length<=60->(∀H',ah H H'->Q .non H')->gO K vs H Q E0
def BI(T:Txt K mg):↥3 "is_cut" ["thing"] qU:=by
 refine T.b8.cal za (λH vs Q E h=>?_)
 .have%[rows,rfl,a|k]:=h;refine%[rfl|λf b A outer s c=>?_];refine%[_,(QSs.h (ak (tryN (λ_ _ h=>h) (au (bF rfl (aH (lM T) c rfl #[↑0]))))
   (au (aN eBl))))|?_]
  show bd _ _ _ [some (.str (Str.join nl rows))] H;lk;exact%[rows,rfl,a|λl d e g i=>k d e]
def oO(T:Txt K mg):↥4 "is_named_cut" ["thing"] uI:=by
 refine T.b7.cal mQ (λH vs Q E h=>?_)
 .have%[p,rfl,g|k]:=h;refine%[rfl|λf e A outer s c=>?_];have%[b,i|a]:=g p (mem_singleton.mpr rfl);refine%[_,%["JDIz%&A0A?1BzpnbcA0BEzG]JAW0EB)G]KAW0EB",0,(blE (v:= .ty "tuple") rfl T.ag boot_tuple rfl rfl rfl)|c]|?_];show j6 _ _ [some _] H;lk;refine%[.type _,.tup b,true,by rfl|?_];have st:=SqT.of (K:=K) b;refine%[2,.inr %[_,st|rfl],_,st,_,rfl,p.2.1,rfl,i|λm d=>?_];lk;exact%[_,SqT.of (d _ _ b),_,rfl,p.2.2,rfl,a|λj l=>k j (d.trans l)]
def sM(T:Txt K mg):↥5 "check_cuts" ["cuts"] jK:=by
 refine T.b6.cal d6 (λH vs Q E h=>?_)
 .have%[l,cs,rfl,B,J,L,h1,h8|k]:=h;refine%[rfl|λf ai A outer s I=>?_];have t:(bY cs).length=cs.length:=Z6 _;refine%[_,%["JCNZvrh%&A0A?1B$LnbcA0BED:OCH1wDS~PA0BfMK2MK3gCNZvLn2]LvrhG]MA3B$~$W3E1D:ODut1W3E",d6.nd,(blE (v:= .ty "list") rfl T.a5 boot_list rfl rfl rfl)|I]|?_]
  show bd _ _ _ [!l,none,none,none] H;refine ap λD1 k1 _=>?_
  lk;refine%[.type "list",.lst B,true,by rfl|?_];lk;refine%[cs.length,.inl %[_,SqL.of B|t.symm]|?_];rw[if_neg (by simp only[decide_eq_true_eq];lia)];refine k1 _ _ (ap λD2 k2 _=>?_);lk;refine λd M=>k2 _ _ (aB λD3 k3 _=>az λag hK=>?_)
  lk;refine%[_,SqL.of (ah.upd M _ _ B)|hK _ _ (km (λi C c=>∃N O a,C=[!l,!d,N,O]/\ah H c/\c d=some (.dK a)/\a.map (·.1)=(cs.take i).map λp=>Sum.inr p.2.1) %[none,none,[],rfl,ah.upd M,aa|rfl] (λi C c _ ⟨_,_,_,_,q,_⟩=>SqL.of (q _ _ B)) ?_ ?_)]
  .intro i x TT C c G %[N,O,a,rfl,U,u|g] hT;have hi:i<cs.length:=t▸(Xr G).1;obtain⟨q,Y,rfl⟩:∃q,cs[i]? =some q/\x=V.ref q.1:=by
    unfold bY at G;rw[Zl,Z4 hi]at G;exact%[cs[i],Z4 hi|(Za G).symm]
   have b:ah H (upd c TT (.tup [.int i,.ref q.1])):=U.trans (ah.upd hT);have y:upd c TT (.tup [.int i,.ref q.1]) TT=some (.tup [.int i,.ref q.1]):=aa;have r:=ah.upd (o:= .tup [.int i,.ref q.1]) hT _ _ u
   generalize upd c TT (.tup [.int i,.ref q.1])=HT at b r y
   have m:=J q (Z8 Y);refine%[_,SqT.of y,rfl,_,_,rfl,_,_,rfl,rfl|?_];show bd _ _ _ [!l,!d,some (.int i),some (.ref q.1)] HT;refine ap λD4 k4 _=>?_
   lk;rw[if_neg (by simp only[decide_eq_true_eq];lia)];refine%[q,rfl,λp hp=>(Xt hp)▸%[b _ _ m.1|m.2]|λH2 z=>%[true,rfl|?_]];rw[if_neg ∅];have n:(Sum.inr q.2.1:Key)∉a.map (·.1):=by
    rw[g];intro hm;have%[q',ab|e]:=Xu hm;have e:q'.2.1=q.2.1:=Sum.inr.inj e;have%[j|hj]:=Xk ab;have ac:j<i:=by
     have:=(Xr hj).1;rw[Yp]at this
     lia
    rw[Ye ac]at hj;have n1:(cs.map λp=>p.2.1)[j]? =some q.2.1:=by rw[Zl,hj,<-e];rfl
    have:=du L n1 (by rw[Zl,Y];rfl)
    lia
   refine%[_,SqT.of (z _ _ (b _ _ m.1)),_,rfl,_,cB.k (k:=Sum.inr q.2.1) (z _ _ r)|?_];have hv:bJ a (Sum.inr q.2.1:Key)=none:=by
    cases e:bJ a (Sum.inr q.2.1:Key)with
    | none=>rfl
    | some v=>exact absurd (CJ e) n
   rw[hv,if_neg ∅];refine k4 _ _ (aB λD5 k5 _=>?_);lk;have ae:a.length=i:=by
    have:=congrArg List.length g;rw[Z6,Z6,Yp]at this
    lia
   refine%[_,SqT.of (z _ _ (b _ _ m.1)),_,rfl,_,iM.k (k:=Sum.inr q.2.1) (z _ _ r) (ae▸aA ⋯)|k5 _ _ %[_,_,_,rfl,ah.set (b.trans z) M,aa|?_]];rw[yO,if_neg n,g,Xf,Zd,Y];rfl
  .intro C c %[N,O,a,rfl,U,u|g];exact k3 _ _ (k c U)
def mR(T:Txt K mg):↥3 "check_sayings" ["sayings","layers"] (gO K):=by
 refine T.b9.cal dP (λH vs Q E h=>?_)
 .have%[l,r,u,qs,rfl,g,j,m,C|k]:=h;refine%[rfl|λf z A outer s B=>?_];refine%[_,%["JCNrh%&A0A?1BD:ODS~PA0BfMK2MK3gDNZvLn2]N$rhG]OA3A1BD:O",dP.nd,(blE (v:= .ty "list") rfl T.a5 boot_list rfl rfl rfl)|B]|?_]
  show bd _ _ _ [!l,!r,none,none] H;refine ap λN k1 _=>?_
  lk;refine%[.type "list",.lst g,true,by rfl|?_];lk;refine k1 _ _ (aB λO G _=>az λy I=>?_);lk;refine%[_,SqL.of g|I _ _ (km (λi e b=>∃n o,e=[!l,!r,n,o]/\ah H b) %[none,none,rfl|ah.refl H] (λi e b _ ⟨_,_,_,q⟩=>SqL.of (q _ _ g)) ?_ ?_)]
  .intro i x TT e b p %[n,o,rfl|t] J;have hi:i<qs.length:=(Z6 _)▸(Xr p).1;obtain⟨q,L,rfl⟩:∃q,qs[i]? =some q/\x=V.ref q.1:=by
    rw[Zl,Z4 hi]at p;exact%[qs[i],Z4 hi|(Za p).symm]
   have a:ah H (upd b TT (.tup [.int i,.ref q.1])):=t.trans (ah.upd J);have c:upd b TT (.tup [.int i,.ref q.1]) TT=some (.tup [.int i,.ref q.1]):=aa
   generalize upd b TT (.tup [.int i,.ref q.1])=HT at a c
   have d:=m q (Z8 L);refine%[_,SqT.of c,rfl,_,_,rfl,_,_,rfl,rfl|?_];show lh _ _ _ _ [!l,!r,some (.int i),some (.ref q.1)] HT;refine aB λU M _=>?_
   lk;rw[if_neg ⋯];refine%[q.1,r,q.2,u,rfl,a _ _ d.1,SqL.of (a _ _ j),d.2,true,rfl|?_];rw[if_neg ∅];exact M _ _ %[_,_,rfl|a]
  .intro e b %[n,o,rfl|t];exact G _ _ (k b t)
abbrev lyr(p:Addr×Str×ZB):ZB:=(aK ((cY p.2.2).map sgn)).map (lnS p.2.1)
inductive kW (vs:ZM) (H:Hp) (Q:VK) (E0:XK):Prop
 | mk (l cs):vs=[.ref l]->H l=some (.lst (bY cs))->cg H cs->cs.length<=3->(cs.flatMap lyr).length<=80->(∀r H' (ls:ZB),ah H H'->H r=none->H' r=some (.lst (ls.map V.str))->ls.Perm (cs.flatMap lyr)->ls.Pairwise (λa b=>aO b a=false)->Q (.ref r) H')->kW vs H Q E0
abbrev dI(c:ZB)(k:ZB):Prop:=∃a b z,k=[a,b,z]/\a∈c/\b∈c
abbrev Sml(z:Str):Prop:=z.length<=30/\∀c∈z.cps.toList,c<16^8
abbrev zu(a:ZB)(k:ZB):Prop:=dI a k/\∀z∈k,Sml z
def uJ(h:ef z=true):Sml z:=by
 unfold ef at h;rw[Zx,Zx]at h;refine%[⋯|λc a=>?_];have:=(lA.mp (all_eq_true.mp h.2 c a)).2
 lia
def Sml.app{a b:Str}(f:∀c∈a.cps.toList,c<16^8)(g:∀c∈b.cps.toList,c<16^8):∀c∈(a++b).cps.toList,c<16^8:=λc d=>by
 have e:(a++b).cps.toList=a.cps.toList++b.cps.toList:=Xi;rw[e]at d;exact(Xs d).elim (f c) (g c)
def Dw(h:c<1000):∀x∈(sgn c).cps.toList,x<16^8:=λx a=>by
 have e:=by simpa [sgn]using a
 lia
def lN{c:Nat}(h:ef n=true)(d:c<1000):Sml (lnS n (sgn c)):=by
 have e:∀a b:Str,(a++b).length=a.length+b.length:=λa b=>size_append
 have l:n.length<=8:=by
  unfold ef at h
  grind
 refine%[?_|Sml.app (Sml.app (Sml.app (λc d=>(nomatch d)) (uJ h).2) (by decide +kernel)) (Dw d)];unfold lnS;rw[e,e,e,show Str.empty.length=0 from rfl,show(Str.ofString ".").length=1 from rfl,show(sgn c).length=1 from rfl]
 lia
def wv(h:bU rows)(l:Let rows c):c<1000:=by
 have:=(lA.mp (lB h.sign c (gJ.mpr l))).2
 lia
def Dx(b:ef p.2.1=true)(d:bU p.2.2):∀z∈lyr p,Sml z:=λz e=>by
 have%[y,f|rfl]:=Xu e;have%[c,a|rfl]:=Xu (bx.mp f);exact lN b (wv d (gJ.mp a))
def F5(e:Sml a)(f:Sml b)(g:Sml c):∀z∈[a,b,c],Sml z:=λz d=>by
 simp only[Yz,Xb,or_false]at d;rcases d with rfl|rfl|rfl
 .exact e
 .exact f
 .exact g
def Dy(i:Nat)(h:i<=100):Sml (Str.empty++Str.ofString "#"++Str.ofString (toString (i:Int))):=by
 have all:∀j:Fin 101,Sml (Str.empty++Str.ofString "#"++Str.ofString (toString ((j.1)))):=by
  unfold Sml;decide +kernel
 exact all %[i|⋯]
def dI.three(h:dI c k):k.length=3:=by
 have%[a,b,z,rfl|_]:=h;rfl
def dI.mono(h:dI c k)(s:∀x∈c,x∈d):dI d k:=by
 have%[a,b,z,e,f|g]:=h;exact%[a,b,z,e,s a f|s b g]
def xk(h:Let p.2.2 a):lnS p.2.1 (sgn a)∈lyr p:=
 Xv %[_,bx.mpr (Xv %[a,gJ.mpr h|rfl])|rfl]
abbrev xo(n:Str)(k:ZB):ZB:=k.map (lnS n) ++[n]
abbrev BJ(i:Nat):Str:=Str.empty++Str.ofString "#"++Str.ofString (toString (i:Int))
abbrev eJ(cs:ZH):List ZB:=cs.flatMap λp=>(fO p.2.2 (p.2.2.length-1)).map (xo p.2.1)
abbrev io(i:Nat):ZM->Option ZB
 |[.str w,.str a,.str b]=>if w=Str.ofString "later" then some [a,b,BJ i]else none
 | _=>none
abbrev dD(qs:ZN)(n:Nat):List ZB:=(List.range n).filterMap λj=>qs[j]?.bind λq=>io j q.2
def sN{cs:List _}{i:Nat}{q:Addr×Str×ZB}(a:cs[i]? =some q):eJ (cs.take (i+1))=eJ (cs.take i) ++(fO q.2.2 (q.2.2.length-1)).map (xo q.2.1):=by
 unfold eJ;rw[Xf,a,Y7];show _++([q].flatMap _)=_;rw[Y8]
def ip(a:qs[i]? =some q):dD qs (i+1)=dD qs i++(io i q.2).toList:=by
 unfold dD;rw[range_succ,List.filterMap_append];refine congrArg _ ?_;rw[Y1,a];rw[Option.bind_some];cases io i q.2<;> rfl
inductive kX (vs:ZM) (H:Hp) (Q:VK) (E0:XK):Prop
 | mk (l cs):vs=[.ref l]->H l=some (.lst (bY cs))->cg H cs->(∀p∈cs,uy p.2.2)->cs.length<=3->(∀r H' ts,ah H H'->H r=none->H' r=some (.lst (ts.map λt=>V.ref t.1))->a9 H' ts->(∀t∈ts,zu (cs.flatMap lyr) t.2)->ts.length<=78->(∀k,k∈ts.map (·.2)↔k∈eJ cs)->Q (.ref r) H')->kX vs H Q E0
inductive kY (vs:ZM) (H:Hp) (Q:VK) (E0:XK):Prop
 | mk (l ls qs):vs=[.ref l]->H l=some (.lst (qs.map λq=>V.ref q.1))->df H ls qs->(∀z∈ls,Sml z)->qs.length<=80->(∀r H' ts,ah H H'->H r=none->H' r=some (.lst (ts.map λt=>V.ref t.1))->a9 H' ts->(∀t∈ts,zu ls t.2)->ts.length<=qs.length->ts.map (·.2)=dD qs qs.length->Q (.ref r) H')->kY vs H Q E0
def oP{z:Str}(h:ef z=true):z.length<=8:=by
 unfold ef at h;rw[Zx,Zx]at h;have:=Zo h.1.2
 lia
def iq{cs:List Nat}{z:Str}(h:z∈aK (cs.map sgn)):∃c∈cs,z=sgn c:=by
 have:=bx.mp h;have%[c,a|rfl]:=Xu this;exact%[c,a|rfl]
def uK(T:Txt K mg):↥4 "layers_of" ["cuts"] kW:=by
 refine T.be.cal eI (λH vs Q E h=>?_)
 .have%[l,cs,rfl,hl,O,h8,ai|k]:=h;refine%[rfl|λf ag A outer s hr=>?_];have t:(bY cs).length=cs.length:=Z6 _;refine%[_,%["JCH1QBCSP0fM~Z2klMK3gDU~v~w1Asd?1PG]PA3BX0?2qG~gAY1A0BBDI*~QA1B",eI.nd,(show bM (ao i8) ["cuts","layers","name","text"] _ ["letter","name"] [(1,2)]=true from by decide +kernel),(show(["letter","name"]:ZB).Nodup from by decide +kernel)|hr]|?_]
  show bd _ _ _ [!l,none,none,none] H;refine ap λD1 k1 _=>?_
  lk;refine%[Xj _|λL U=>k1 _ _ (ap λD2 k2 _=>az λu Y=>?_)];lk;refine .inl %[%[_|SqL.of (ah.upd U _ _ hl)]|Y _ _ (aZ (λi d a=>∃o2 o3,d=[!l,!L,o2,o3]/\ah H a/\∃e:ZB,a L=some (.lst (e.map V.str))/\e.Perm ((cs.take i).flatMap lyr)/\e.length<=26*i)
   %[none,none,rfl,ah.upd U,[],aa,List.Perm.refl _|Xj _] (λi d a _ ⟨_,_,_,q,_⟩=>SqL.of (q _ _ hl)) ?_ ?_)]
  .intro i x d a m %[o2,o3,rfl,v,e,M,y|ab];have hi:i<cs.length:=t▸(Xr m).1;obtain⟨q,hq,rfl⟩:∃q,cs[i]? =some q/\x=V.ref q.1:=by
    unfold bY at m;rw[Zl,Z4 hi]at m;exact%[cs[i],Z4 hi|(Za m).symm]
   have b:=O q (Z8 hq);refine%[_,SqT.of (v _ _ b.1),rfl,_,_,rfl,_,_,rfl,rfl|aB λD3 k3 _=>?_];show jA _ _ [!l,!L,some (.str q.2.1),some (.str (Str.join nl q.2.2))] a;lk;refine%[.inl %[_|SqL.of M]|aI λu Y=>?_];lk;refine%[q.2.2,rfl,b.2.2|λl2 H2 ss s2 f2 N p2 q2=>?_];lk;refine .inl %[%[_|SqL.of N]|Y _ _ λF hF=>?_];have few:ss.length<=26:=p2.length_eq▸nL λc hc=>lB b.2.2.sign c hc
   have one:∀z∈ss,z.length=1:=λz hz=>by
    have%[c,_|rfl]:=iq (p2.mem_iff.mp hz);rfl
   refine bw (J:=Itl K l2) (n:=ss.length) (D:=F) (λj ts d a=>(∃o,d=[o,some (.str q.2.1)])/\ah H2 a/\a F=some (.lst ts)/\ts=((ss.take j).map (lnS q.2.1)).map V.str)
    %[%[none|rfl],ah.upd hF,aa|rfl]
    (λj _ _ a B g=>%[_,V.str ss[j],SqL.of (g.2.1 _ _ N)|by simp]) (λ_ _ a g=>%[_,SqL.of (g.2.1 _ _ N)|by simp]) ?_ ?_
   .intro j ts d H3 B %[%[o|rfl],C,ac|p] x H4 %[e2|m];subst e2;have G:=m _ (SqL.of (C _ _ N));rw[Zl,Z4 B]at G;obtain rfl:x=V.str ss[j]:=(Za G).symm;lk;refine%[_,_,rfl,by have:=oP b.2.1;lia,by rw[one _ (Yg B)];decide|CK.mk B ac (by rw[p,Z6,Z6,Yp];exact aA ⋯) %[%[_|rfl],ah.set C hF,aa|?_]];rw[p,Xf,Zd,Zd,Z4 B];rfl
   intro ts d H3 %[_,C,ae|p];rw[Zn (Zi _)]at p;lk;refine%[_,C _ _ (s2 _ _ M),_,ae,(by rw[p,Z6,Z6,Z6];exact cv ⋯)|k3 _ _ %[_,_,rfl,ah.set (v.trans (s2.trans C)) U,e++ss.map (lnS q.2.1),?_,?_|?_]]
   .rw[aa,p,Zd]
   .rw[Xf,hq,Y7];refine y.append ?_;show List.Perm _ ([q].flatMap lyr);rw[Y8];exact p2.map _
   .rw[Z9,Z6]
    lia
  .intro d a %[o2,o3,rfl,v,e,M,y|ab];refine k2 _ _ ?_;lk;rw[t,Zn (Zi _)]at y;exact%[e,SqL.of M,by rw[y.length_eq];lia|λr ss I p' q'=>k r _ ss (v.trans (ah.upd I)) (v.free I) aa (p'.trans y) q']
def oQ(T:Txt K mg):↥4 "ties_of_cuts" ["cuts"] kX:=by
 refine T.bf.cal bQ (λH vs Q E h=>?_)
 .have%[l,cs,rfl,hl,a1,a2,h8|k]:=h;refine%[rfl|λf a4 A outer s hr=>?_];have ac:(bY cs).length=cs.length:=Z6 _;refine%[_,%["JCH1QBCSP0fMK2MK3gDSPG]QA3BfMK4MK5gDUea1AmAG~gA2A4BAG~gA2A5BA2BBDI1",bQ.nd|hr]|?_]
  show bd _ _ _ [!l,none,none,none,none,none] H;refine ap λD1 k1 _=>?_
  lk;refine%[Xj _|λL hL=>k1 _ _ (ap λD2 k2 _=>az λae hK=>?_)];lk;refine .inl %[%[_|SqL.of (ah.upd hL _ _ hl)]|hK _ _ (aZ (λi B G=>∃o2 o3 o4 I,B=[!l,!L,o2,o3,o4,I]/\ah H G/\∃ts:ZG,G L=some (.lst (ts.map λt=>V.ref t.1))/\a9 G ts/\(∀t∈ts,zu (cs.flatMap lyr) t.2)/\ts.length<=26*i/\∀k,k∈ts.map (·.2)↔k∈eJ (cs.take i))
   %[none,none,none,none,rfl,ah.upd hL,[],aa,jc _,λt ht=>(nomatch ht),Xj _|λk=>Iff.rfl] (λi B G _ ⟨_,_,_,_,_,q,_⟩=>SqL.of (q _ _ hl)) ?_ ?_)]
  .intro i x B G J %[o2,o3,o4,I,rfl,sm,ts,hm,O,U,ag|d];have hi:i<cs.length:=by rw[<-ac];exact(Xr J).1
   obtain⟨q,hq,rfl⟩:∃q,cs[i]? =some q/\x=V.ref q.1:=by
    unfold bY at J;rw[Zl,Z4 hi]at J;exact%[cs[i],Z4 hi|(Za J).symm]
   have g:=a1 q (Z8 hq);refine%[_,SqT.of (sm _ _ g.1),rfl,_,_,rfl,_,_,rfl,rfl|?_];refine aB λD3 k3 _=>?_
   show zU _ _ _ _ [!l,!L,some (.str q.2.1),some (.str (Str.join nl q.2.2)),o4,I] G;refine az λae hK=>?_
   lk;have qm:=Z8 hq;refine%[q.2.2,rfl,g.2.2,a2 q qm|?_];intro l2 H2 ss s2 f2 h2 t2 few ai all2;have a3:=oP g.2.1;have aj:l2≠L:=λe=>by rw[e,hm]at f2;cases f2
   have al:(ss.map λp=>V.ref p.1).length=ss.length:=Z6 _;refine .inl %[l2,rfl,%[_|SqL.of h2]|hK _ _ (aZ (xs:=ss.map λp=>V.ref p.1) (λj B n=>∃o4 I,B=[!l,!L,some (.str q.2.1),some (.str (Str.join nl q.2.2)),o4,I]/\ah H n/\n l2=some (.lst (ss.map λp=>V.ref p.1))/\a9 n ss/\∃c:ZG,n L=some (.lst (c.map λt=>V.ref t.1))/\a9 n c/\(∀t∈c,zu (cs.flatMap lyr) t.2)/\c.length<=26*i+j/\c.map (·.2)=ts.map (·.2) ++((ss.take j).map (·.2)).map (xo q.2.1))
    %[_,_,rfl,sm.trans s2,h2,t2,ts,s2 _ _ hm,aY O λb z e=>s2 _ _ e,U,⋯|(Zz _).symm] (λj B n _ ⟨_,_,_,_,q,_⟩=>SqL.of q) ?_ ?_)]
   .intro j x B n J %[o4,I,rfl,Y,an,r,c,C,u,ab,v|m];have hj:j<ss.length:=al▸(Xr J).1;rw[Zl,Z4 hj]at J;obtain rfl:x=V.ref ss[j].1:=(Za J).symm;have M:=Yg hj;have%[a,b,as,la|lb]:=ai _ M;have N:=(r _ M).2;rw[as]at N;refine%[_,SqT.of N,rfl,_,_,rfl,_,_,rfl,rfl|aB λD4 k4 _=>?_];show jA _ _ [!l,!L,some (.str q.2.1),some (.str (Str.join nl q.2.2)),some (.str (sgn a)),some (.str (sgn b))] n;lk;refine%[.inl %[_|SqL.of C],q.2.1,sgn a,rfl,⋯,(show 1<=100 by decide)|?_];refine%[q.2.1,sgn b,rfl,⋯,(show 1<=100 by decide)|?_];refine%[#[3]|λp hp=>?_];have sp:=ah.upd (o:= .tup [V.str (lnS q.2.1 (sgn a)),V.str (lnS q.2.1 (sgn b)),V.str q.2.1]) hp;have gp:upd n p (.tup [V.str (lnS q.2.1 (sgn a)),V.str (lnS q.2.1 (sgn b)),V.str q.2.1]) p=_:=aa
    generalize upd n p _=H4 at sp gp
    have a0:=sp _ _ C;have y:∀b z,H4 b=some (.tup z)->upd H4 L (.lst (c.map (λt=>V.ref t.1) ++[V.ref p])) b=some (.tup z):=λb z e=>by
     have:b≠L:=λe2=>by rw[e2,a0]at e;cases e
     rw[am this];exact e
    refine%[_,a0,by rw[Z6];exact Nat.lt_of_le_of_lt (show c.length<=10000 by lia) (by decide)|k4 _ _ %[_,_,rfl,ah.set (Y.trans sp) hL,(am aj)▸sp _ _ an,aY (aY r λb z e=>sp _ _ e) y,c++[(p,[lnS q.2.1 (sgn a),lnS q.2.1 (sgn b),q.2.1])],?_,?_,?_,?_|?_]]
    .rw[aa,Zd];rfl
    .exact aY (jt (aY u λb z e=>sp _ _ e) ∅ gp) y
    .intro t ht;rcases Xs ht with z|z
     .exact ab t z
     .rw[Xt z];exact%[%[_,_,_,rfl,mem_flatMap.mpr %[q,qm|xk la]|mem_flatMap.mpr %[q,qm|xk lb]]|F5 (lN g.2.1 (wv g.2.2 la)) (lN g.2.1 (wv g.2.2 lb)) (uJ g.2.1)]
    .rw[Z9,Yo];lia
    .rw[Zd,m,Ze,Xf,Z4 hj,Zd,Zd];show _++(_++[_])=_++(_++[xo q.2.1 ss[j].2]);rw[as];rfl
   .intro B n %[o4,I,rfl,Y,an,r,c,C,u,ab,v|m];rw[al]at v m;rw[Zn (Zi _)]at m;refine k3 _ _ %[_,_,_,_,rfl,Y,c,C,u,ab,⋯|λk=>?_];rw[m,sN hq,Yw,Yw,d,mem_map,mem_map];exact or_congr Iff.rfl (exists_congr λz=>and_congr_left λ_=>all2 z)
  .intro B G %[o2,o3,o4,I,rfl,sm,ts,hm,O,U,ag|d];refine k2 _ _ ?_;lk;rw[ac]at ag d;rw[Zn (Zi _)]at d;exact k L G ts sm hL hm O U ⋯ d
def kZ(T:Txt K mg):↥1 "ties_of_sayings" ["sayings"] kY:=by
 refine T.bg.cal cm (λH vs Q E h=>?_)
 .have%[l,N,qs,rfl,hl,ab,r,aj|k]:=h;refine%[rfl|λf ai A outer s hr=>?_];have G:(qs.map λq=>V.ref q.1).length=qs.length:=Z6 _;refine%[_,%["JCH1QBCS~PA0BfMK2MK3gDNLnW3ERDUea1AmAW3EAW3EA~z~MR~M~f2~!BBODI1"|cm.nd]|?_]
  show bd _ _ _ [!l,none,none,none] H;refine ap λD1 k1 _=>?_
  lk;refine%[Xj _|λL O=>k1 _ _ (ap λD2 k2 _=>az λae hK=>?_)];lk;refine%[_,SqL.of (ah.upd O _ _ hl)|hK _ _ (km (λi U n=>∃o2 o3,U=[!l,!L,o2,o3]/\ah H n/\∃ts:ZG,n L=some (.lst (ts.map λt=>V.ref t.1))/\a9 n ts/\(∀t∈ts,zu N t.2)/\ts.length<=i/\ts.map (·.2)=dD qs i)
   %[none,none,rfl,ah.upd O,[],aa,jc _,λt ht=>(nomatch ht),Xj _|rfl] (λi U n _ ⟨_,_,_,q,_⟩=>SqL.of (q _ _ hl)) ?_ ?_)]
  .intro i x TT U n hx %[o2,o3,rfl,sm,ts,hm,u,g,v|d] hT;have hi:i<qs.length:=by rw[<-G];exact(Xr hx).1
   obtain⟨q,Y,rfl⟩:∃q,qs[i]? =some q/\x=V.ref q.1:=by
    rw[Zl,Z4 hi]at hx;exact%[qs[i],Z4 hi|(Za hx).symm]
   have s0:=ah.upd (o:= .tup [.int i,.ref q.1]) hT;have j:ah H (upd n TT (.tup [.int i,.ref q.1])):=sm.trans s0;have I:upd n TT (.tup [.int i,.ref q.1]) TT=some (.tup [.int i,.ref q.1]):=aa;have m:=s0 _ _ hm;have c:=aY u λb z e=>s0 _ _ e
   generalize upd n TT (.tup [.int i,.ref q.1])=HT at j I m c
   have J:=ab q (Z8 Y);refine%[_,SqT.of I,rfl,_,_,rfl,_,_,rfl,rfl|?_];show lh _ _ _ _ [!l,!L,some (.int i),some (.ref q.1)] HT;refine aB λD4 k4 _=>?_
   lk;have st:=SqT.of (K:=K) (j _ _ J.1);have ag:(Str.ofString (toString (i:Int))).length<=21:=by
    have e:=PySem.int_text_length_le10 (a:=(i:Int)) (k:=20) (by decide) (by have:(i:Int).natAbs=i:=rfl;lia);rw[PySem.ofString_length];lia
   have e1:(Str.empty++Str.ofString "#").length=1:=by decide +kernel
   have ea:∀a b:Str,(a++b).length=a.length+b.length:=λa b=>size_append
   have add:∀a b:Str,a∈N->b∈N->io i q.2=some [a,b,BJ i]->∀p,HT p=none->∃x,upd HT p (.tup [.str a,.str b,V.str (Str.empty++Str.ofString "#"++Str.ofString (toString (i:Int)))]) L=some (.lst x)/\x.length<sizeLine/\D4.nx [!l,!L,some (.int i),some (.ref q.1)] (upd (upd HT p (.tup [.str a,.str b,V.str (Str.empty++Str.ofString "#"++Str.ofString (toString (i:Int)))])) L (.lst (x++[V.ref p]))):=by
    intro a b ma mb ac p hp;have tn:=ip Y;rw[ac,<-d]at tn;unfold BJ at tn
    generalize hz:Str.empty++Str.ofString "#"++Str.ofString (toString (i:Int))=z at tn ⊢
    have sp:=ah.upd (o:= .tup [V.str a,V.str b,V.str z]) hp;have gp:upd HT p (.tup [V.str a,V.str b,V.str z]) p=_:=aa
    generalize upd HT p (.tup [V.str a,V.str b,V.str z])=H4 at sp gp
    have M:=sp _ _ m;have B:∀b z,H4 b=some (.tup z)->upd H4 L (.lst (ts.map (λt=>V.ref t.1) ++[V.ref p])) b=some (.tup z):=λb z e=>by
     have:b≠L:=λe2=>by rw[e2,M]at e;cases e
     rw[am this];exact e
    refine%[_,M,by rw[Z6];exact aA ⋯|k4 _ _ %[_,_,rfl,ah.set (j.trans sp) O,ts++[(p,[a,b,z])],?_,?_,?_,?_|?_]]
    .rw[aa,Zd];rfl
    .exact aY (jt (aY c λb z e=>sp _ _ e) ∅ gp) B
    .intro t ht;rcases Xs ht with z|z
     .exact g t z
     .rw[Xt z];exact%[%[_,_,_,rfl,ma|mb]|F5 (r a ma) (r b mb) (hz▸Dy i ⋯)]
    .rw[Z9,Yo];lia
    .rw[tn,Zd];rfl
   rcases J.2 with⟨wd,a,b,e,hw,ma,mb,_⟩|⟨wd,a,y,e,hw,_⟩
   .rw[e]at st;refine%[_,st,_,rfl,rfl|bE (λC=>?_) λC=>?_]
    .refine%[.inl %[_|SqL.of m],_,st,_,rfl,_,st,_,rfl,cv ⋯,?_,cv (by rw[ea];lia),cv (by rw[ea];lia),#[3]|add a b ma mb (e▸if_pos (V.str.inj (Zo C)))];have:(i:Int).natAbs=i:=rfl
     lia
    .refine k4 _ _ %[_,_,rfl,j,ts,m,c,g,⋯|?_];rw[ip Y,e,show io i [V.str wd,V.str a,V.str b]=none from if_neg λz=>C (Zf (by rw[z])),d];exact(Zz _).symm
   .rw[e]at st;refine%[_,st,_,rfl,rfl|?_];rw[if_neg (by rcases hw with rfl|rfl<;> decide)];refine k4 _ _ %[_,_,rfl,j,ts,m,c,g,⋯|?_];rw[ip Y,e,d];exact(Zz _).symm
  .intro U n %[o2,o3,rfl,sm,ts,hm,u,g,v|d];refine k2 _ _ ?_;lk;rw[G]at v d;exact k L n ts sm O hm u g v d
structure GrF (mg:ZC) (H:Hp) (g c2 c3 c4:Addr) (qs:ZN) (ls:ZB) (ts:ZG):Prop where
 at_:∃dx c1,H g=some (.ins (cD mg "Ground") dx [("kept_cuts",.ref c1),("kept_sayings",.ref c2),("kept_layers",.ref c3),("kept_ties",.ref c4)])
 a2:H c2=some (.lst (qs.map λq=>V.ref q.1))
 a3:H c3=some (.lst (ls.map V.str))
 a4:H c4=some (.lst (ts.map λt=>V.ref t.1))
 sa:df H ls qs
 tu:a9 H ts
def GrF.up(h:GrF mg H g a c d qs f ts)(s:ah H i):GrF mg i g a c d qs f ts:=by
 have%[j,l|m]:=h.at_;exact%[%[j,l|s _ _ m],s _ _ h.a2,s _ _ h.a3,s _ _ h.a4,h.sa.up s|aY h.tu λb z e=>s _ _ e]
inductive qV (mg:ZC) (vs:ZM) (H:Hp) (Q:VK) (E0:XK):Prop
 | mk (g c2 c3 c4 qs ls ts):vs=[.ref g]->GrF mg H g c2 c3 c4 qs ls ts->(∀l,H l=none->Q (.ref l) (upd H l (.lst (ls.map V.str))))->qV mg vs H Q E0
inductive oR (mg:ZC) (vs:ZM) (H:Hp) (Q:VK) (E0:XK):Prop
 | mk (g c2 c3 c4 qs ls ts):vs=[.ref g]->GrF mg H g c2 c3 c4 qs ls ts->(∀l,H l=none->Q (.ref l) (upd H l (.lst (qs.map λq=>V.ref q.1))))->oR mg vs H Q E0
inductive xp (mg:ZC) (vs:ZM) (H:Hp) (Q:VK) (E0:XK):Prop
 | mk (g c2 c3 c4 qs ls ts):vs=[.ref g]->GrF mg H g c2 c3 c4 qs ls ts->(∀l,H l=none->Q (.ref l) (upd H l (.lst (ts.map λt=>V.ref t.1))))->xp mg vs H Q E0
inductive sO (mg:ZC) (vs:ZM) (H:Hp) (Q:VK) (E0:XK):Prop
 | mk (g l m dx cs qs):vs=[.ref g,.ref l,.ref m]->H g=some (.ins (cD mg "Ground") dx [])->H l=some (.lst (bY cs))->H m=some (.lst (qs.map λq=>V.ref q.1))->cg H cs->(cs.map λp=>p.2.1).Nodup->1<=cs.length->cs.length<=3->(∀p∈cs,uy p.2.2)->(cs.flatMap lyr).length<=80->(∀ls,ls.Perm (cs.flatMap lyr)->df H ls qs)->qs.length<=20->(∀H' ls ts c2 c3 c4,(∀b o,b≠g->H b=some o->H' b=some o)->GrF mg H' g c2 c3 c4 qs ls ts->(∀t∈ts,zu ls t.2)->(∀z∈ls,Sml z)->(∀k,k∈ts.map (·.2)↔k∈eJ cs\/k∈dD qs qs.length)->ts.length<=98->ls.Perm (cs.flatMap lyr)->ls.Pairwise (λa b=>aO b a=false)->Q .non H')->sO mg vs H Q E0
def uL(T:Txt K mg):Dd P w K mg base 6 "Ground" ["self","cuts","sayings"] (sO mg):=by
 refine T.i_Ground.cal fB (λH vs Q E h=>?_)
 .have%[g,l,m,d,cs,qs,rfl,N,hl,hm,j,al,h1,h8,an,as,B,bl|k]:=h;refine%[rfl|λf bf A outer s hr=>?_];refine%[_,%["JCUG]RA1BCH3G]SA1BCUG]TA2A3BC~R0'+A1BC~R0'+A2BC~R03D~R0*]UAFoG]VA1BG]WA2BB",fB.nd|hr]|?_]
  show bd _ _ _ [!g,!l,!m,none] H;refine ap λD1 k1 _=>?_
  lk;refine%[l,cs,rfl,hl,j,al,h1,⋯|λH1 s1=>k1 _ _ (ap λD2 k2 _=>?_)];lk;refine%[l,cs,rfl,s1 _ _ hl,j.up s1,h8,as|λr H2 C s2 f2 h2 O q2=>k2 _ _ (ap λD3 k3 _=>?_)];have U:=s1.trans s2;lk;refine%[m,r,C,qs,rfl,U _ _ hm,h2,(B C O).up U,⋯|λH3 s3=>k3 _ _ (ap λD4 k4 _=>?_)];have u:=U.trans s3;have OC:=T.o_Ground.cls;have ae:∀z∈C,Sml z:=λz hz=>by
   have%[p,v|hz]:=mem_flatMap.mp (O.mem_iff.mp hz);exact Dx (j p v).2.1 (j p v).2.2 z hz
  have gl:l≠g:=λe=>by rw[e,N]at hl;cases hl
  have gm:m≠g:=λe=>by rw[e,N]at hm;cases hm
  have gr:r≠g:=λe=>by rw[e,s1 _ _ N]at f2;cases f2
  lk;refine%[_,.inl (SqL.of (u _ _ hl))|λa G=>%[_,_,_,ah.upd G _ _ (u _ _ N),OC,T.n_Ground_kept_cuts,(by show 0<1000;decide)|k4 _ _ (ap λD5 k5 _=>?_)]];have a0:a≠g:=λe=>by rw[e,u _ _ N]at G;cases G
  have a1:=ah.upd (o:= .lst (bY cs)) G;have b4:∀b o,b≠g->H3 b=some o->upd (upd H3 a (.lst (bY cs))) g (.ins (cD mg "Ground") d (dL (Str.ofString "kept_cuts") (V.ref a) [])) b=some o:=λb o c e=>by rw[am c];exact a1 _ _ e
  have g4:upd (upd H3 a (.lst (bY cs))) g (.ins (cD mg "Ground") d (dL (Str.ofString "kept_cuts") (V.ref a) [])) g=some (.ins (cD mg "Ground") d [("kept_cuts",V.ref a)]):=aa;have a4:upd (upd H3 a (.lst (bY cs))) g (.ins (cD mg "Ground") d (dL (Str.ofString "kept_cuts") (V.ref a) [])) a=some (.lst (bY cs)):=by rw[am a0];exact aa
  generalize upd (upd H3 a (.lst (bY cs))) g (.ins (cD mg "Ground") d (dL (Str.ofString "kept_cuts") (V.ref a) []))=H4 at b4 g4 a4
  have n4:∀b,H4 b=none->b≠g:=λb c e=>by rw[e,g4]at c;cases c
  lk;refine%[_,.inl (SqL.of (b4 _ _ gm (u _ _ hm)))|λi Y=>%[_,_,_,ah.upd Y _ _ g4,OC,T.n_Ground_kept_sayings,(by show 1<1000;decide)|k5 _ _ (ap λD6 k6 _=>?_)]];have ab:=n4 i Y;have a2:=ah.upd (o:= .lst (qs.map λq=>V.ref q.1)) Y;have b5:∀b o,b≠g->H4 b=some o->upd (upd H4 i (.lst (qs.map λq=>V.ref q.1))) g (.ins (cD mg "Ground") d (dL (Str.ofString "kept_sayings") (V.ref i) [("kept_cuts",V.ref a)])) b=some o:=λb o c e=>(am c)▸a2 _ _ e
  have g5:upd (upd H4 i (.lst (qs.map λq=>V.ref q.1))) g (.ins (cD mg "Ground") d (dL (Str.ofString "kept_sayings") (V.ref i) [("kept_cuts",V.ref a)])) g=some (.ins (cD mg "Ground") d [("kept_cuts",V.ref a),("kept_sayings",V.ref i)]):=by rw[aa];rfl
  have a5:upd (upd H4 i (.lst (qs.map λq=>V.ref q.1))) g (.ins (cD mg "Ground") d (dL (Str.ofString "kept_sayings") (V.ref i) [("kept_cuts",V.ref a)])) i=some (.lst (qs.map λq=>V.ref q.1)):=(am ab)▸aa
  generalize upd (upd H4 i (.lst (qs.map λq=>V.ref q.1))) g (.ins (cD mg "Ground") d (dL (Str.ofString "kept_sayings") (V.ref i) [("kept_cuts",V.ref a)]))=H5 at b5 g5 a5
  lk;refine%[_,_,_,g5,OC,T.n_Ground_kept_layers,(by show 2<1000;decide)|k6 _ _ (aB λD7 k7 _=>?_)];have b6:∀b o,b≠g->H5 b=some o->upd H5 g (.ins (cD mg "Ground") d (dL (Str.ofString "kept_layers") (V.ref r) [("kept_cuts",V.ref a),("kept_sayings",V.ref i)])) b=some o:=λb o c e=>(am c)▸e
  have g6:upd H5 g (.ins (cD mg "Ground") d (dL (Str.ofString "kept_layers") (V.ref r) [("kept_cuts",V.ref a),("kept_sayings",V.ref i)])) g=some (.ins (cD mg "Ground") d [("kept_cuts",V.ref a),("kept_sayings",V.ref i),("kept_layers",V.ref r)]):=by rw[aa];rfl
  generalize upd H5 g (.ins (cD mg "Ground") d (dL (Str.ofString "kept_layers") (V.ref r) [("kept_cuts",V.ref a),("kept_sayings",V.ref i)]))=H6 at b6 g6
  have ag:∀b o,b≠g->H3 b=some o->H6 b=some o:=λb o c e=>b6 b o c (b5 b o c (b4 b o c e))
  have y:∀b o,b≠g->H b=some o->H6 b=some o:=λb o c e=>ag b o c (u _ _ e)
  have ai:cg H6 cs:=λp v=>⟨y _ _ (λe=>by have:=(j p v).1;rw[e,N]at this;cases this) (j p v).1,(j p v).2⟩
  have n:df H6 C qs:=λq hq=>⟨y _ _ (λe=>by have:=(B C O q hq).1;rw[e,N]at this;cases this) (B C O q hq).1,(B C O q hq).2⟩
  lk;refine%[l,cs,rfl,y _ _ gl hl,ai,an,h8|λt1 H7 ts s7 f7 h7 a3 ac bm a6=>?_];lk;refine%[m,C,qs,rfl,s7 _ _ (y _ _ gm hm),n.up s7,ae,⋯|λt2 H8 us s8 f8 a7 bb aj bn bc=>?_];lk;have M:a9 H8 (ts++us):=uF (aY a3 λb z e=>s8 _ _ e) bb;have g8:=s8 _ _ (s7 _ _ g6);refine%[_,s8 _ _ h7,_,a7,by rw[Z6,Z6,PySem.sizeLine_eq];lia|λp v=>%[ts++us,Zd▸SqL.of aa,aY M λb z e=>ah.upd v _ _ e,3,?_,by decide,by rw[Z9];lia|λc4 ss I J bp=>%[_,_,_,ah.upd I _ _ (ah.upd v _ _ g8),OC,T.n_Ground_kept_ties,(by show 3<1000;decide)|k7 _ _ ?_]]]
  .intro t ht;rcases Xs ht with z|z
   .exact(ac t z).1.three
   .exact(aj t z).1.three
  .have b9:∀b o,b≠g->H8 b=some o->upd (upd (upd H8 p (.lst (ts.map (λp=>V.ref p.1) ++us.map λp=>V.ref p.1))) c4 (.lst (ss.map λp=>V.ref p.1))) g (.ins (cD mg "Ground") d (dL (Str.ofString "kept_ties") (V.ref c4) [("kept_cuts",V.ref a),("kept_sayings",V.ref i),("kept_layers",V.ref r)])) b=some o:=λb o c e=>(am c)▸((ah.upd (o:= .lst (ts.map (λp=>V.ref p.1) ++us.map λp=>V.ref p.1)) v).trans (ah.upd (o:= .lst (ss.map λp=>V.ref p.1)) I)) _ _ e
   have L:∀b o,b≠g->H6 b=some o->_:=λb o c e=>b9 b o c (s8 _ _ (s7 _ _ e))
   refine k _ C ss i r c4 (λb o c e=>L b o c (y b o c e)) %[%[d,a|?_],?_,?_,?_,?_|?_] (λt ht=>?_) ae (λk=>by rw[(J.map _).mem_iff,Zd,Yw,a6,bc]) (by rw[J.length_eq,Z9];lia) O q2
   .rw[aa];rfl
   .exact L _ _ ab (b6 _ _ ab a5)
   .exact L _ _ gr (ag _ _ gr (s3 _ _ h2))
   .rw[am (λe=>by rw[e,ah.upd v _ _ g8]at I;cases I)];exact aa
   .exact λq hq=>⟨L _ _ (λe=>by have:=(n q hq).1;rw[e,g6]at this;cases this) (n q hq).1,(n q hq).2⟩
   .intro t ht;have:=M t (J.mem_iff.mp ht);exact%[this.1|b9 _ _ (λe=>by have q:=this.2;rw[e,g8]at q;cases q) this.2]
   .rcases Xs (J.mem_iff.mp ht)with z|z
    .exact%[(ac t z).1.mono λx=>O.mem_iff.mpr|(ac t z).2]
    .exact aj t z
def c6(T:Txt K mg):yP P w K mg base 1 "Ground" "layers" ["self"] (qV mg):=by
 refine T.m_Ground_layers.cal lL (λH vs Q E h=>?_)
 .have%[g,c,d,e,qs,i,ts,rfl,a|k]:=h;refine%[rfl|λf b A outer s n=>?_];have%[o,p|j]:=a.at_;refine%[_,%["JDI'+A~h0B"|0]|?_];show j6 _ _ [some _] H;lk;exact%[_,_,_,j,T.o_Ground.cls,T.n_Ground_kept_layers,_,rfl,_,rfl,_,.inl (SqL.of a.a3)|λl m=>k l m]
def lO(T:Txt K mg):yP P w K mg base 1 "Ground" "sayings" ["self"] (oR mg):=by
 refine T.m_Ground_sayings.cal kR (λH vs Q E h=>?_)
 .have%[g,c,d,e,qs,i,ts,rfl,a|k]:=h;refine%[rfl|λf b A outer s n=>?_];have%[o,p|j]:=a.at_;refine%[_,%["JDI'+A~h0B"|0]|?_];show j6 _ _ [some _] H;lk;exact%[_,_,_,j,T.o_Ground.cls,T.n_Ground_kept_sayings,_,rfl,_,rfl,_,.inl (SqL.of a.a2)|λl m=>k l m]
def pT(T:Txt K mg):yP P w K mg base 1 "Ground" "ties" ["self"] (xp mg):=by
 refine T.m_Ground_ties.cal oC (λH vs Q E h=>?_)
 .have%[g,c,d,e,qs,i,ts,rfl,a|k]:=h;refine%[rfl|λf b A outer s n=>?_];have%[o,p|j]:=a.at_;refine%[_,%["JDI'+A~h0B"|0]|?_];show j6 _ _ [some _] H;lk;exact%[_,_,_,j,T.o_Ground.cls,T.n_Ground_kept_ties,_,rfl,_,rfl,_,.inl (SqL.of a.a4)|λl m=>k l m]
abbrev dR(H:Hp)(ys:List (Addr×Str×Int)):Prop:=∀p∈ys,H p.1=some (.tup [.str p.2.1,.int p.2.2])/\0<=p.2.2/\p.2.2<=7
def dR.up(h:dR H ys)(s:ah H b):dR b ys:=λp a=>%[s _ _ (h p a).1|(h p a).2]
inductive qW (vs:ZM) (H:Hp) (Q:VK) (E0:XK):Prop
 | mk (one two l ys):vs=[.int one,.int two,.ref l]->H l=some (.lst (ys.map λp=>V.ref p.1))->dR H ys->1<=ys.length->ys.length<=100->0<=one->0<=two->(∀t H' xs,ah H H'->H t=none->H' t=some (.tup xs)->qT (ys.map λp=>p.2.1) xs->Q (.ref t) H')->qW vs H Q E0
def sP(T:Txt K mg):↥1 "_law_saying" ["_law_one","_law_two","_law_layers"] qW:=by
 refine T.bo.cal bI (λH vs Q E h=>?_)
 .have%[one,d,l,ys,rfl,N,C,y1,ag,o0,t0|k]:=h;refine%[rfl|λf ai A outer s hr=>?_];have get:∀n:Int,0<=n->∃q,atI (ys.map λp=>V.ref p.1) (n%(ys.length:Int))=some (V.ref q.1)/\q∈ys:=λn hn=>by
   have h0:=Int.emod_nonneg n (show(ys.length:Int)≠0 by lia);have h1:=Int.emod_lt_of_pos n (show(0:Int)<(ys.length:Int) by lia)
   generalize n%(ys.length:Int)=i at h0 h1
   have%[j|rfl]:=Xm h0;have hj:j<ys.length:=by lia
   exact%[ys[j],cj (by simp[hj])|Yg hj]
  have%[p,gp|mp]:=get one o0;have%[q,gq|mq]:=get d t0;have G:(ys.map λp=>V.ref p.1).length=ys.length:=Z6 _;have y:(0:Int)<(ys.length:Int):=by lia
  have pa:=C p mp;have qa:=C q mq;refine%[_,%["JC~ST2FV0bcA2BfMK3MK4gC~ST2FV1bcA2BfMK5MK6gCH7FVFj0EECH8pnFVFj1EEECNZxL~A7ExL!35(ZvL!46$h8CNZxL;46(rh8DImARA5A3BODImARA3A5BOCNZxL_7mAEAEBxL!35(ZvLn46$h8DImARA3A5BOCH9FyF~HEF~EE4TQAEA.EA.EAEAEA.EAEAEBFV1EDImATQARARBFV7EA3A9B"|bI.nd]|?_]
  show bd _ _ _ [some (.int one),some (.int d),!l,none,none,none,none,none,none,none] H;refine ap λD1 k1 _=>?_
  lk;refine%[ys.length,.inl %[_,SqL.of N|G.symm],y,_,SqL.of N,_,gp,_,rfl,_,SqT.of pa.1,rfl,_,_,rfl,_,_,rfl,rfl|k1 _ _ (ap λD2 k2 _=>?_)];lk;refine%[ys.length,.inl %[_,SqL.of N|G.symm],y,_,SqL.of N,_,gq,_,rfl,_,SqT.of qa.1,rfl,_,_,rfl,_,_,rfl,rfl|k2 _ _ (ap λD3 k3 _=>?_)];lk;refine%[%[by decide|by decide],by decide|k3 _ _ (ap λD4 k4 _=>?_)];lk;refine%[%[by decide|by decide],by decide|k4 _ _ (ap λD5 k5 r5=>?_)];have b1:0<=one/64%8:=by lia
  have b2:one/64%8<8:=by lia
  generalize one/64%8=kind at b1 b2
  generalize decide (d/64%16=0)=I
  have%[aj,pn|pi]:=p;have%[al,m|qi]:=q;dsimp only at pa qa gp gq;have mem:∀{r:Addr×Str×Int},r∈ys->r.2.1∈ys.map λp=>p.2.1:=λ{r} hr=>Xv %[r,hr|rfl]
  have fin:∀(z:Hp) (a b:Str),ah H z->a∈(ys.map λp=>p.2.1)->b∈(ys.map λp=>p.2.1)->a≠b->∀w:Str,w="later"\/w="same"->∀t,z t=none->Q (.ref t) (upd z t (.tup [.str w,.str a,.str b])):=λz a b J ha hb ab w hw t u=>
   k t _ _ (J.trans (ah.upd u)) (J.free u) aa (.inl %[w,a,b,rfl,hw,ha,hb|ab])
  have O:pn∈ys.map λp=>p.2.1:=mem mp
  have m2:m∈ys.map λp=>p.2.1:=mem mq
  have v:3<=sizeLine:=by decide
  have rest:D5.nx [some (.int one),some (.int d),!l,-pn,some (.int pi),-m,some (.int qi),some (.int kind),some (.bl I),none] H:=by
   refine k5 _ _ (ap λD6 k6 r6=>?_);have B:∀z,ah H z->D6.nx [some (.int one),some (.int d),!l,-pn,some (.int pi),-m,some (.int qi),some (.int kind),some (.bl I),none] z:=by
    intro z J;refine k6 _ _ (ap λD7 k7 _=>?_);lk;refine%[.inl %[by decide|by decide],#[8]|λp U=>%[by decide,_,SqL.of aa|?_]];have%[c,hc|ac]:=kS [0,-20,-60,10,60,-200,110,0] (i:=d%8) ⋯ (by show d%8<8;lia);have an: -200<=c/\c<=110:=by
     simp only[Yz,Xb,or_false]at ac
     lia
    refine%[_,hc,c,rfl|k7 _ _ ?_];lk;obtain⟨wd,ae,hw⟩:∃wd:Str,atI [V.str (Str.ofString "since"),V.str (Str.ofString "by")] (kind%2)=some (V.str wd)/\(wd="since"\/wd="by"):=by
     rcases(show kind%2=0\/kind%2=1 by lia)with e|e<;> rw[e]
     .exact%[_,rfl|.inl rfl]
     .exact%[_,rfl|.inr rfl]
    refine%[#[2]|λp1 M=>%[by simp,_,SqL.of aa,_,ae,v|λt u=>?_]];exact k t _ _ (J.trans ((ah.upd U).trans ((ah.upd M).trans (ah.upd u)))) (J.free ((ah.upd U).free ((ah.upd M).free u))) aa (.inr %[wd,pn,_,rfl,hw,O,⋯|⋯])
   lk;refine%[#[2]|λp U=>%[_,.inr (SqT.of aa),rfl,rfl|?_]];have sp:=ah.upd (o:= .tup [V.int 2,V.int 3]) U
   generalize upd H p (.tup [V.int 2,V.int 3])=Y at sp
   have R:=B Y sp;refine bE (λ_=>bE (λg=>?_) λ_=>R) λ_=>R
   have g:pn≠m:=by simpa using g
   have L:3<=sizeLine/\∀p,Y p=none->D6.rt (.ref p) (upd Y p (.tup [V.str (Str.ofString "same"),V.str pn,V.str m])):=%[v|λt u=>r6 _ _ (fin Y pn m sp O m2 g _ (.inr rfl) t u)]
   exact bE (λ_=>L) λ_=>bE (λ_=>L) λ_=>R
  lk;refine bE (λ_=>bE (λg=>?_) λ_=>rest) λ_=>rest
  have g:pn≠m:=by simpa using g
  have L1:3<=sizeLine/\∀p,H p=none->D5.rt (.ref p) (upd H p (.tup [V.str (Str.ofString "later"),V.str m,V.str pn])):=%[v|λt u=>r5 _ _ (fin H m pn (ah.refl H) m2 O (Ne.symm g) _ (.inl rfl) t u)]
  have L2:3<=sizeLine/\∀p,H p=none->D5.rt (.ref p) (upd H p (.tup [V.str (Str.ofString "later"),V.str pn,V.str m])):=%[v|λt u=>r5 _ _ (fin H pn m (ah.refl H) O m2 g _ (.inl rfl) t u)]
  exact bE (λ_=>bE (λ_=>bE (λ_=>L1) λ_=>L2) λ_=>L2) λ_=>bE (λ_=>bE (λ_=>bE (λ_=>L1) λ_=>L2) λ_=>L2) λ_=>rest
structure Drn where
 name:Str
 cols:List ZL
 hi:Nat
 sh:Int
 wd:Bool
abbrev Drn.rows(d:Drn):ZB:=drawn d.cols d.hi d.sh
abbrev mE(d:Drn):Prop:=ef d.name=true/\1<=d.hi/\d.hi<=6/\1<=d.cols.length/\d.cols.length<=5/\∀c∈d.cols,c.length=d.hi/\kJ d.wd c
def mE.cut(h:mE d):bU d.rows:=uv h.2.1 (by have:=h.2.2.1;lia) h.2.2.2.1 (by have:=h.2.2.2.2.1;lia) h.2.2.2.2.2
abbrev iN(d:Drn):List (Str×Int):=(there d.cols).map λa=>(ci d.name (sg a d.sh),a)
abbrev dcs(ds:List (Addr×Drn)):ZH:=ds.map λp=>(p.1,p.2.name,p.2.rows)
abbrev nmK(k:Int):Str:=if k=0 then "north" else if k=1 then "a" else if k=2 then "wallwest" else "zz"
inductive qX (K:ZA) (vs:ZM) (H:Hp) (Q:VK) (E0:XK):Prop
 | mk (a:Addr) (xs:ZL):vs=[.ref a]->SqL K H a (xs.map V.int)->(∀H',ah H H'->SqL K H' a (xs.map V.int))->xs.length=43->(∀x∈xs,0<=x/\x<9973)->(∀t l1 l2 l3 H' ds qs,ah H H'->H t=none->H l1=none->H l2=none->H l3=none->l1≠l2->l1≠l3->l2≠l3->H' t=some (.tup [.ref l1,.ref l2,.ref l3])->H' l1=some (.lst (bY (dcs ds)))->H' l2=some (.lst (qs.map λq=>V.ref q.1))->H' l3=some (.lst ((ds.flatMap λp=>(iN p.2).map (·.1)).map V.str))->1<=ds.length->ds.length<=3->(∀p∈ds,mE p.2)->(ds.map λp=>p.2.name).Nodup->cg H' (dcs ds)->df H' (ds.flatMap λp=>(iN p.2).map (·.1)) qs->qs.length<=12->(∀p∈ds,∃k:Int,p.2.name=nmK k)->1<=(ds.flatMap λp=>(iN p.2).map (·.1)).length/\(ds.flatMap λp=>(iN p.2).map (·.1)).length<=24->Q (.ref t) H')->qX K vs H Q E0
def mZ(h:H M=some (.lst xs)):∀b z,H b=some (.tup z)->upd H M (.lst ys) b=some (.tup z):=λb z e=>by
 rw[am (λa=>by lia)];exact e
def dR.keep(h:dR H ys)(t:∀b z,H b=some (.tup z)->c b=some (.tup z)):dR c ys:=λp a=>%[t _ _ (h p a).1|(h p a).2]
def cg.keep(h:cg H cs)(t:∀b z,H b=some (.tup z)->c b=some (.tup z)):cg c cs:=λp a=>%[t _ _ (h p a).1|(h p a).2]
def df.keep(h:df H c qs)(t:∀b z,H b=some (.tup z)->d b=some (.tup z)):df d c qs:=λp a=>%[t _ _ (h p a).1|(h p a).2]
def cg.snoc(h:cg H cs)(a:H q.1=some (.tup [.str q.2.1,.str (Str.join nl q.2.2)])/\ef q.2.1=true/\bU q.2.2):cg H (cs++[q]):=λp b=>by
 rcases Xs b with z|z
 .exact h p z
 .rw[Xt z];exact a
def dR.snoc(h:dR H ys)(a:H q.1=some (.tup [.str q.2.1,.int q.2.2])/\0<=q.2.2/\q.2.2<=7):dR H (ys++[q]):=λp b=>by
 rcases Xs b with z|z
 .exact h p z
 .rw[Xt z];exact a
def zv(n:Str)(c:Nat):n++Str.ofString "."++sgn c=ci n c:=by
 refine dU ?_;show(n.cps++ ([46].toArray) ++ ([c].toArray)).toList=(n.cps.toList++[46,c]).toArray.toList;simp
def F6(k:Int):ef (nmK k)=true:=by
 unfold nmK
 split
 .decide +kernel
 .split
  .decide +kernel
  .split<;> decide +kernel
def Dz(c:0<=j)(e:j<4)(d:0<=k)(f:k<4)(h:nmK j=nmK k):j=k:=by
 have all:∀a b:Fin 4,nmK (a.1)=nmK (b.1)->a=b:=by decide +kernel
 have%[a|rfl]:=Xm c;have%[b|rfl]:=Xm d;have:=all %[a|⋯] %[b|⋯] h
 simp_all
def sQ(T:Txt K mg):↥3 "_law_ground" ["_law_row_here"] (qX K):=by
 refine T.bp.cal aR (λH vs Q E h=>?_)
 .have%[a,xs,rfl,hs,keep,b7,hb|kk]:=h;refine%[rfl|λf ed A outer s hr=>?_];have get:∀i:Int,0<=i->i<43->∃c,atI (xs.map V.int) i=some (V.int c)/\0<=c/\c<9973:=λi h0 h1=>by
   have%[c,e|hm]:=kS xs h0 ⋯;exact%[c,e|hb c hm]
  have%[c0,g0,l0|u0]:=get 0 (by decide) (by decide);refine%[_,%["JCH1QBCH2QBCS~BAFyEFVT0EEBK3CH4TQARARARARBFVFy3FjT0EEECH5FyFjT0EEF~EE3C~SG]XA>0/FyEF~EE3/FyEF~EE3A5BfMK6MK7gCUea1AmA4A6BBDSP7K8DUea2AmAFoFo4RG~pA8A5BA8BBCH9FVFjT0EEECH:QBCS~BA9BK3DUea|:AG]YAT0FyEF~EE3AT0FyEF~EE3A2BBDImA1A|:Asd?1P2fMX0?2MX1?2gq0B",aR.nd,(show bM (ao ik) ["_law_row_here","_law_cuts","_law_layers","_law_k","_law_name","_law_shift","_law_text","_law_there","_law_at","_law_many","_law_sayings"] _ ["_law_layer","_law_at"] []=true from by decide +kernel),(show(["_law_layer","_law_at"]:ZB).Nodup from by decide +kernel)|hr]|?_]
  show bd _ _ _ [!a,none,none,none,none,none,none,none,none,none,none] H;refine ap λD1 k1 _=>?_
  lk;refine%[Xj _|λu bl=>k1 _ _ (ap λD2 k2 _=>?_)];have s1:=ah.upd (o:= .lst []) bl;lk;refine%[Xj _|λL3 a1=>k2 _ _ (ap λD3 k3 _=>az λan hK=>?_)];have s2:=s1.trans (ah.upd (o:= .lst []) a1);have bm:u≠L3:=λe=>by rw[<-e,aa]at a1;cases a1
  lk;refine%[_,keep _ s2,_,g0,c0,rfl,by decide|?_];refine%[⋯,⋯|hK _ _ (eM (λi M l=>∃o3 o4 o5 o6 o7 o8,M=[!a,!u,!L3,o3,o4,o5,o6,o7,o8,none,none]/\ah H l/\∃(ds:List (Addr×Drn)) (ys:List (Addr×Str×Int)),ds.length=i/\l u=some (.lst (bY (dcs ds)))/\l L3=some (.lst (ys.map λp=>V.ref p.1))/\dR l ys/\(ys.map (·.2))=(ds.flatMap λp=>iN p.2)/\
   cg l (dcs ds)/\(∀p∈ds,mE p.2)/\ds.map (λp=>p.2.name)=(List.range i).map λk:Nat=>nmK (((k:Int) +c0/3)%4))
   %[_,_,_,_,_,_,rfl,s2,[],[],rfl,by rw[am bm];exact aa,aa,λp hp=>(nomatch hp),rfl,λp hp=>(nomatch hp),λp hp=>(nomatch hp)|rfl] ?_ ?_)]
  .intro i M H3 hi %[o3,o4,o5,o6,o7,o8,rfl,s3,ds,ys,bn,v,C,a2,Y,bp,a3|a4];have hi3:i<3:=by lia
   show bd _ _ _ [!a,!u,!L3,some (.int (0+i)),o4,o5,o6,o7,o8,none,none] H3;rw[Int.zero_add];refine ap λD4 k4 _=>?_
   lk;obtain⟨m,b9,ca⟩:∃m:Str,atI [V.str (Str.ofString "north"),V.str (Str.ofString "a"),V.str (Str.ofString "wallwest"),V.str (Str.ofString "zz")] (((i:Int) +c0/3)%4)=some (V.str m)/\m=nmK (((i:Int) +c0/3)%4):=by
    rcases(show((i:Int) +c0/3)%4=0\/((i:Int) +c0/3)%4=1\/((i:Int) +c0/3)%4=2\/((i:Int) +c0/3)%4=3 by lia)with e|e|e|e<;> rw[e]<;> exact%[_,rfl|rfl]
   have bt:ef m=true:=by rw[ca];exact F6 _
   refine%[#[4]|λp hp=>%[_,keep _ (s3.trans (ah.upd hp)),_,g0,c0,rfl,%[by decide|by decide],by decide,_,SqL.of aa,_,b9|k4 _ _ (ap λD5 k5 _=>?_)]];have sp:=ah.upd (o:= .lst [V.str (Str.ofString "north"),V.str (Str.ofString "a"),V.str (Str.ofString "wallwest"),V.str (Str.ofString "zz")]) hp
   generalize upd H3 p (.lst [V.str (Str.ofString "north"),V.str (Str.ofString "a"),V.str (Str.ofString "wallwest"),V.str (Str.ofString "zz")])=H4 at sp
   have O:=s3.trans sp;lk;refine%[_,keep _ O,_,g0,c0,rfl,%[by decide|by decide],.inl %[by decide|by decide]|k5 _ _ (ap λD6 k6 _=>?_)];have b0:0<=c0/12+3*(i:Int):=by lia
   generalize c0/12+3*(i:Int)=r at b0
   lk;refine%[.inl %[by decide|by decide],.inl %[by decide|by decide]|.inl %[_,keep _ O|λp2 cb=>?_]];rw[uD xs ⋯ ⋯ ⋯];have cd:((xs.drop (1+6*(i:Int)).toNat).take ((7+6*(i:Int)).toNat-(1+6*(i:Int)).toNat)).length=6:=by
    rw[Yp,Yl,b7];exact(by decide:∀i:Nat,i<3->min ((7+6*(i:Int)).toNat-(1+6*(i:Int)).toNat) (43-(1+6*(i:Int)).toNat)=6) i ⋯
   have ch:∀x∈(xs.drop (1+6*(i:Int)).toNat).take ((7+6*(i:Int)).toNat-(1+6*(i:Int)).toNat),0<=x/\x<9973:=λx hx=>hb x (X1 (X2 hx))
   generalize (xs.drop (1+6*(i:Int)).toNat).take ((7+6*(i:Int)).toNat-(1+6*(i:Int)).toNat)=ws at cd ch
   refine%[p2,ws,r,rfl,SqL.of aa,λl sm=>SqL.of (sm _ _ aa),cd,ch,b0|λT5 th H5 d g ab U f5 c7 n5 da dd de dk dn dp b1=>%[T5,rfl,_,SqT.of da,rfl,_,_,rfl,_,_,rfl,rfl|k6 _ _ (ap λD7 k7 _=>?_)]];have b2:ah H3 H5:=sp.trans ((ah.upd cb).trans U);have a7:mE %[m,d,g,r|ab]:=%[bt,de,dk,dn,dp|b1]
   have ae:H3 th=none:=sp.free ((ah.upd cb).free c7);have dr:th≠u:=λe=>by rw[e,v]at ae;cases ae
   have dt:th≠L3:=λe=>by rw[e,C]at ae;cases ae
   lk;refine%[.inl %[_|SqL.of (b2 _ _ v)],#[2]|λI dx=>?_];have s6:=ah.upd (o:= .tup [V.str m,V.str (nl.join (drawn d g r))]) dx;have g6:upd H5 I (.tup [V.str m,V.str (nl.join (drawn d g r))]) I=_:=aa;have al:=s6 _ _ (b2 _ _ v)
   generalize upd H5 I (.tup [V.str m,V.str (nl.join (drawn d g r))])=H6 at s6 g6 al
   have a5:=b2.trans s6;refine%[_,al,by rw[show(bY (dcs ds)).length=ds.length by unfold bY dcs;rw[Z6,Z6],bn];exact aA ⋯|k7 _ _ (aB λD8 k8 _=>az λan hK=>?_)];have tk:=mZ (ys:=bY (dcs ds) ++[V.ref I]) al;have cl:ah H (upd H6 u (.lst (bY (dcs ds) ++[V.ref I]))):=ah.set (s3.trans a5) bl;have co:upd H6 u (.lst (bY (dcs ds) ++[V.ref I])) u=some (.lst (bY (dcs (ds++[(I,%[m,d,g,r|ab])])))):=by
    rw[aa];unfold bY dcs;rw[Zd,Zd];rfl
   have cp:upd H6 u (.lst (bY (dcs ds) ++[V.ref I])) L3=some (.lst (ys.map λp=>V.ref p.1)):=by rw[am (Ne.symm bm)];exact a5 _ _ C
   have b3:upd H6 u (.lst (bY (dcs ds) ++[V.ref I])) th=some (.lst ((there d).map V.int)):=by rw[am dr];exact s6 _ _ dd
   have cs:cg (upd H6 u (.lst (bY (dcs ds) ++[V.ref I]))) (dcs (ds++[(I,%[m,d,g,r|ab])])):=by
    rw[show dcs (ds++[(I,%[m,d,g,r|ab])])=dcs ds++[(I,m,drawn d g r)] by unfold dcs;rw[Zd];rfl];exact((bp.up a5).snoc %[g6,bt|a7.cut]).keep tk
   have ct:dR (upd H6 u (.lst (bY (dcs ds) ++[V.ref I]))) ys:=(a2.up a5).keep tk
   generalize upd H6 u (.lst (bY (dcs ds) ++[V.ref I]))=H7 at cl co cp b3 cs ct
   have ag:ys.length<=8*i:=by
    have e:=congrArg List.length Y;rw[Z6,List.length_flatMap]at e;have:=rW (f:=λp:Addr×Drn=>(iN p.2).length) (B:=8) (xs:=ds) λp _=>by
     unfold iN;rw[Z6];exact lH _
    lia
   lk;refine .inl %[%[_|SqL.of b3]|hK _ _ (aZ (xs:=(there d).map V.int) (λj M l=>∃o8,M=[!a,!u,!L3,some (.int i),-m,some (.int r),some (.str (nl.join (drawn d g r))),!th,o8,none,none]/\ah H l/\l u=some (.lst (bY (dcs (ds++[(I,%[m,d,g,r|ab])]))))/\l th=some (.lst ((there d).map V.int))/\cg l (dcs (ds++[(I,%[m,d,g,r|ab])]))/\
    ∃zs:List (Addr×Str×Int),l L3=some (.lst ((ys++zs).map λp=>V.ref p.1))/\dR l (ys++zs)/\zs.map (·.2)=((there d).take j).map λa=>(ci m (sg a r),a))
    %[_,rfl,cl,co,b3,cs,[],by rw[Zz];exact cp,by rw[Zz];exact ct|rfl] (λj M l _ ⟨_,_,_,_,q,_⟩=>SqL.of q) ?_ ?_)]
   .intro j x M H8 hx %[o8,rfl,s8,as,bb,b4,zs,ai,b5|a0];have hj:j<(there d).length:=by have:=(Xr hx).1;rwa[Z6]at this
    rw[Zl,Z4 hj]at hx;obtain rfl:x=V.int (there d)[j]:=(Za hx).symm;have cx:=eR.mp (Yg hj);show jA _ _ [!a,!u,!L3,some (.int i),-m,some (.int r),some (.str (nl.join (drawn d g r))),!th,some (.int (there d)[j]),none,none] H8;refine aB λD9 k9 _=>?_
    lk;have ec:=oP bt;have ea:∀a b:Str,(a++b).length=a.length+b.length:=λa b=>size_append
    have e1:(Str.ofString ".").length=1:=rfl;have zl:zs.length<=j:=by
     have:=congrArg List.length a0;rw[Z6,Z6,Yp]at this
     lia
    have tl:=lH d;refine%[.inl %[_|SqL.of ai],cv ⋯,_,_,rfl,b0,_,rfl,cv (by rw[ea,show(sgn (sg (there d)[j] r)).length=1 from rfl];lia),#[2]|λp hp=>?_];rw[zv];have s9:=ah.upd (o:= .tup [V.str (ci m (sg (there d)[j] r)),V.int (there d)[j]]) hp;have g9:upd H8 p (.tup [V.str (ci m (sg (there d)[j] r)),V.int (there d)[j]]) p=_:=aa
    generalize upd H8 p (.tup [V.str (ci m (sg (there d)[j] r)),V.int (there d)[j]])=H9 at s9 g9
    have cy:=s9 _ _ ai;have cF:=mZ (ys:=(ys++zs).map (λp=>V.ref p.1) ++[V.ref p]) cy;refine%[_,cy,by rw[Z6,Z9];exact aA ⋯|k9 _ _ %[_,rfl,ah.set (s8.trans s9) (s1.free a1),by rw[am bm];exact s9 _ _ as,by rw[am dt];exact s9 _ _ bb,(b4.up s9).keep cF,zs++[(p,ci m (sg (there d)[j] r),(there d)[j])],?_,?_|?_]]
    .rw[aa,<-Ze,Zd (l₂:=[(p,ci m (sg (there d)[j] r),(there d)[j])])];rfl
    .rw[<-Ze];exact((b5.up s9).snoc %[g9,cx.1|cx.2.1]).keep cF
    .rw[Zd,a0,Xf,Z4 hj,Zd];rfl
   .intro M H8 %[o8,rfl,s8,as,bb,b4,zs,ai,b5|a0];rw[Z6,Zn (Zi _)]at a0;refine k8 _ _ %[_,_,_,_,_,_,rfl,s8,ds++[(I,%[m,d,g,r|ab])],ys++zs,by rw[Z9,bn];rfl,as,ai,b5,?_,b4,λp hp=>?_|?_]
    .rw[Zd,Y,a0,Y7]
     congr 1
     rw[Y8];rfl
    .rcases Xs hp with z|z
     .exact a3 p z
     .rw[Xt z];exact a7
    .rw[Zd,a4,range_succ,Zd];rw[ca];rfl
  .intro M H3 %[o3,o4,o5,o6,o7,o8,rfl,s3,ds,ys,bn,v,C,a2,Y,bp,a3|a4];refine k3 _ _ (ap λD4 k4 _=>?_);lk;refine%[_,keep _ s3,_,g0,c0,rfl,%[by decide|by decide],by decide|k4 _ _ (ap λD5 k5 _=>?_)];have m0:0<=c0/100%13:=by lia
   have dy:c0/100%13<=12:=by lia
   generalize c0/100%13=bc at m0 dy
   lk;refine%[Xj _|λL2 ac=>k5 _ _ (ap λD6 k6 _=>az λan hK=>?_)];have dA:L2≠u:=λe=>by rw[e,v]at ac;cases ac
   have eg:L2≠L3:=λe=>by rw[e,C]at ac;cases ac
   have dB:=ah.upd (o:= .lst []) ac;have dK:1<=ds.length:=by lia
   have dT:ds.length<=3:=by lia
   have ag:ys.length<=24/\1<=ys.length:=by
    have e:=congrArg List.length Y;rw[Z6,List.length_flatMap]at e;have:=rW (f:=λp:Addr×Drn=>(iN p.2).length) (B:=8) (xs:=ds) λp _=>by
     unfold iN;rw[Z6];exact lH _
    refine%[⋯|Nat.pos_of_ne_zero λz=>?_];have dV:ys=[]:=length_eq_zero_iff.mp z;rw[dV]at Y;have cM:0<ds.length:=by lia
    have hq:=a3 ds[0] (Yg cM);have c1:=Bz hq.2.1 hq.2.2.2.1 hq.2.2.2.2.2;have%[a'|dX]:=List.exists_mem_of_ne_nil _ c1;have:(ci ds[0].2.name (sg a' ds[0].2.sh),a')∈ds.flatMap λp=>iN p.2:=mem_flatMap.mpr %[ds[0],Yg cM|Xv %[a',dX|rfl]]
    rw[<-Y]at this;cases this
   have G:(ys.map λp=>p.2.1)=ds.flatMap λp=>(iN p.2).map (·.1):=by
    have e:=congrArg (List.map (·.1)) Y;rw[Yv,List.map_flatMap]at e;exact e
   lk;refine%[⋯,⋯|hK _ _ (eM (λi M l=>∃o3,M=[!a,!u,!L3,o3,o4,o5,o6,o7,o8,some (.int bc),!L2]/\ah H3 l/\∃qs:ZN,l L2=some (.lst (qs.map λq=>V.ref q.1))/\qs.length=i/\df l (ys.map λp=>p.2.1) qs)
    %[_,rfl,dB,[],aa,rfl|λq hq=>(nomatch hq)] ?_ ?_)]
   .intro i M H4 eh %[o3,rfl,O,qs,L,c2|a6];show jA _ _ [!a,!u,!L3,some (.int (0+i)),o4,o5,o6,o7,o8,some (.int bc),!L2] H4;rw[Int.zero_add];have%[x1,dY,d0|ej]:=get (19+2*(i:Int)) ⋯ ⋯;have%[x2,d1,d2|ek]:=get (20+2*(i:Int)) ⋯ ⋯;refine aB λD7 k7 _=>?_
    lk;refine%[.inl %[_|SqL.of L],.inl %[by decide|by decide],_,keep _ (s3.trans O),_,dY,.inl %[by decide|by decide],_,keep _ (s3.trans O),_,d1|?_];refine%[x1,x2,L3,ys,rfl,O _ _ C,a2.up O,ag.2,⋯,d0,d2|λt H5 d3 U f5 h5 d4=>?_];have al:=U _ _ L;have c3:=mZ (ys:=qs.map (λq=>V.ref q.1) ++[V.ref t]) al;refine%[_,al,by rw[Z6];exact aA ⋯|k7 _ _ %[_,rfl,ah.set (O.trans U) ac,qs++[(t,d3)],by rw[aa,Zd];rfl,by rw[Z9,c2];rfl|λq hq=>?_]];rcases Xs hq with z|z
    .exact(((a6.up U).keep c3) q z)
    .rw[Xt z];exact%[c3 _ _ h5|d4]
   .intro M H4 %[o3,rfl,O,qs,L,c2|a6];refine k6 _ _ ?_;lk;refine aI λan hK=>?_
    lk;have aj:=O _ _ C;refine .inl %[%[_|SqL.of aj]|hK _ _ λN hN=>?_];refine bw (J:=Itl K L3) (n:=ys.length) (D:=N) (λj ts M l=>(∃o1 o2,M=[o1,o2])/\ah H4 l/\l N=some (.lst ts)/\ts=((ys.take j).map λp=>p.2.1).map V.str)
     %[%[none,none|rfl],ah.upd hN,aa|rfl]
     (λj _ _ l hj b6=>%[_,V.ref ys[j].1,SqL.of (b6.2.1 _ _ aj)|by simp[hj]]) (λ_ _ l b6=>%[_,SqL.of (b6.2.1 _ _ aj)|by simp]) ?_ ?_
    .intro j ts M H5 hj %[%[o1,o2|rfl],U,d7|ht] x H6 %[e2|hx];subst e2;have c4:=hx _ (SqL.of (U _ _ aj));rw[Zl,Z4 hj]at c4;obtain rfl:x=V.ref ys[j].1:=(Za c4).symm;refine%[_,SqT.of (U _ _ (O _ _ ((a2 ys[j] (Yg hj)).1))),rfl,_,_,rfl,_,_,rfl,rfl|?_];show Au [some (.str ys[j].2.1),some (.int ys[j].2.2)] _ _;lk;refine CK.mk hj d7 (by rw[ht,Z6,Z6,Yp];exact aA ⋯) %[%[_,_|rfl],ah.set U hN,aa|?_];rw[ht,Xf,Zd,Zd,Z4 hj];rfl
    intro ts M H5 %[_,U,eb|ht];rw[Zn (Zi _),G]at ht;refine%[#[3]|λt c5=>?_];have st:=ah.upd (o:= .tup [V.ref u,V.ref L2,V.ref N]) c5;rw[G]at a6;have bf:=O _ _ v;refine kk t u L2 N _ ds qs (s3.trans (O.trans (U.trans st))) ((s3.trans (O.trans U)).free c5) bl (s3.free ac) ((s3.trans O).free hN) (Ne.symm dA) (λe=>by rw[<-e,bf]at hN;cases hN) (λe=>by rw[<-e,L]at hN;cases hN) aa (st _ _ (U _ _ bf)) (st _ _ (U _ _ L)) ?_ dK dT a3 ?_ (bp.up (O.trans (U.trans st))) (a6.up (U.trans st)) ⋯ (λp hp=>?_) (by rw[<-G,Z6];exact%[ag.2|ag.1])
    .rw[st _ _ eb,ht]
    .rw[a4,X8,Xd];refine Xl (λ{x y} hx hy c1 he=>?_) (nodup_iff_pairwise_ne.mp (nodup_range (n:=(1+c0%3).toNat)));rw[mem_range]at hx hy;have:=Dz ⋯ ⋯ ⋯ ⋯ he
     lia
    .have:p.2.name∈ds.map λp=>p.2.name:=Xv %[p,hp|rfl]
     rw[a4]at this;have%[k,_|e]:=Xu this;exact%[_|e.symm]
abbrev NmD(a:ZB)(f:Str->Str):List (Key×V):=a.map λz=>(Sum.inr z,V.str (f z))
def oS:∀{a:ZB},z∈a->bJ (NmD a f) (Sum.inr z)=some (.str (f z))
 |[],h=>(nomatch h)
 | x::a,h=>by
   by_cases e:x=z
   .subst e;exact eV rfl
   .rw[show NmD _ f=(Sum.inr x,V.str _)::NmD a f from rfl,dv (λq=>e (Sum.inr.inj q))];exact oS (by rcases mem_cons.mp h with q|q;exact(e q.symm).elim;exact q)
def BK:((NmD b f).any λa=>decide (a.1=(Sum.inr z:Key)))=true↔z∈b:=by
 rw[List.any_eq_true]
 constructor
 .rintro⟨a,c,d⟩;have%[x,e|rfl]:=Xu c
  simp_all
 .intro h;exact%[_,Xv %[z,h|rfl]|Zf rfl]
def BL(h:z∈a):cP (NmD a f) (Sum.inr z) (.str v)=NmD a (λx=>if x=z then v else f x):=by
 unfold cP;rw[if_pos (BK.mpr h)];unfold NmD;rw[Yv];refine Yt λx _=>?_
 show(if(Sum.inr x)=Sum.inr z then((Sum.inr x),V.str v)else(Sum.inr x,V.str _))=(Sum.inr x,V.str (if x=z then v else f x))
 by_cases e:x=z
 .rw[if_pos (congrArg _ e),if_pos e]
 .rw[if_neg (λq=>e (Sum.inr.inj q)),if_neg e]
def F7(h:z∉a):cP (NmD a id) (Sum.inr z) (.str z)=NmD (a++[z]) id:=by
 unfold cP;rw[if_neg (λq=>h (BK.mp q))];unfold NmD;rw[Zd];rfl
abbrev BM(a:ZB)(z:Str):Nat:=gG (a.map λu=>[u]) [z]
def BN(b:x∈a)(h:aO x y=true):BM a x<BM a y:=by
 have:=kD (ks:=a.map λu=>[u]) (y:=[y]) (Xv %[x,b|rfl]);rw[n9,h]at this;exact Zo this.symm
abbrev bv(qs:ZN)(a b:Str):Prop:=∃q∈qs,q.2=[.str "same",.str a,.str b]
def ju{S R:Str->Str->Prop}(F:bG c f r S)(h:∀a b,S a b↔R a b):bG c f r R:=by
 rw[funext λa=>funext λb=>(propext (h a b)).symm];exact F
inductive BO (vs:ZM) (H:Hp) (Q:VK) (E0:XK):Prop
 | mk (d z ls f r S):vs=[.ref d,.str z]->H d=some (.dK (NmD ls f))->bG ls f r S->z∈ls->Q (.str (r z)) H->BO vs H Q E0
inductive xq (vs:ZM) (H:Hp) (Q:VK) (E0:XK):Prop
 | mk (d a b ls f r S):vs=[.ref d,.str a,.str b]->H d=some (.dK (NmD ls f))->bG ls f r S->a∈ls->b∈ls->ls.length<=5000->(∀f' r',bG ls f' r' (λx y=>S x y\/(x=a/\y=b))->Q .non (upd H d (.dK (NmD ls f'))))->xq vs H Q E0
def fC(T:Txt K mg):↥1 "least_pointed_to" ["names","layer"] BO:=by
 refine T.aA.cal eD (λH vs Q E h=>?_)
 .have%[d,z,e,p,r,S,rfl,q,F,t|j]:=h;refine%[rfl|λf o A outer s i=>?_];refine%[_,%["JC<L!i011DH1i01DI1",eD.nd|i]|ap λu k1 _=>⟨λm l g=>∃y,l=[some _,-y]/\g=H/\y∈e/\r y=r z/\m=BM e y,%[_,z,rfl,rfl,t,rfl|rfl],?_⟩]
  intro m l g %[y,rfl,rfl,a,b|rfl];lk;have g1:=by
   have:=cB.k (k:=Sum.inr y) q;rw[oS a]at this;exact this
  refine%[_,g1,rfl|bE (λh=>?_) λh=>?_]
  .have h:=by simpa using h
   refine%[λc n=>c=[some _,some _]/\n=g,?_,_,g1,rfl|rfl];intro c n %[rfl|rfl];exact%[_,BN (F.fin y a) (F.dec y a h),p y,rfl,rfl,F.fin y a,(F.rf y a).trans b|rfl]
  .refine k1 _ _ ?_;rw[<-b,F.fix y a (by simpa using h)]at j;exact j
def mS(T:Txt K mg):↥2 "join_deposits" ["names","one","other"] xq:=by
 refine T.az.cal dO (λH vs Q E h=>?_)
 .have%[d,a,b,c,p,r,S,rfl,g,F,i,j,n|o]:=h;refine%[rfl|λf m A outer s e=>?_];refine%[_,%["JCH3G~%A0A1BCH4G~%A0A2BDu~Y]ZA3A4B0~o]aA3A4B",dO.nd|e]|?_]
  show bd _ _ _ [!d,-a,-b,none,none] H;refine ap λt k1 _=>?_
  lk;refine%[d,a,c,p,r,S,rfl,g,F,i|k1 _ _ (ap λu k2 _=>?_)];lk;refine%[d,b,c,p,r,S,rfl,g,F,j|k2 _ _ (aB λv q _=>?_)];lk;have J:=F.join i j rfl rfl;have l:(if aO (r a) (r b)=true then r b else r a)∈c:=by
   split
   .exact F.rin b j
   .exact F.rin a i
  generalize (if aO (r a) (r b)=true then r b else r a)=M at J l
  refine%[_,iM.k (k:=Sum.inr M) g (by unfold NmD;rw[Z6,PySem.sizeLine_eq];lia)|q _ _ ?_];rw[BL l];exact o _ _ J
def ww{qs:ZN}{q:Addr×ZM}(c:qs[i]? =some q)(a b:Str):bv (qs.take (i+1)) a b↔bv (qs.take i) a b\/q.2=[.str "same",.str a,.str b]:=by
 unfold bv;rw[Xf,c]
 simp_all
def ir{c:ZB}(d:c.Pairwise (λa b=>aO b a=false)){i:Nat}{z w:Str}(f:c[i]? =some z)(hw:w∈c)(h:aO w z=true):w∈c.take i:=by
 rw[<-Xg i c]at hw;rcases Xs hw with e|e
 .exact e
 .have%[hi|g]:=Xr f;have%[j,l|rfl]:=Yh e;rw[List.getElem_drop]at h;rw[Yl]at l;by_cases m:j=0
  .subst m;rw[<-g]at h;simp only[add_zero]at h;rw[dZ]at h;cases h
  .have:=pairwise_iff_getElem.mp d i (i+j) hi ⋯ ⋯
   grind
inductive uM (mg:ZC) (vs:ZM) (H:Hp) (Q:VK) (E0:XK):Prop
 | mk (g c2 c3 c4 qs ls ts):vs=[.ref g]->GrF mg H g c2 c3 c4 qs ls ts->ls.Nodup->ls.Pairwise (λa b=>aO b a=false)->ls.length<=5000->(∀d H' r,ah H H'->H d=none->H' d=some (.dK (NmD ls r))->(∀z∈ls,r z∈ls/\bW (bv qs) z (r z))->Q (.ref d) H')->uM mg vs H Q E0
def lP{H:Hp}{g b c d:Addr}{qs:List _}{e:ZB}{ts:List _}{m:Str}{R:Prop}(h:GrF mg H g b c d qs e ts)(f:m="layers"\/m="sayings"\/m="ties")(k:R):∃a fs,H g=some (.ins (cD mg "Ground") a fs)/\List.lookup m fs=none/\R:=by
 have%[a,j|i]:=h.at_;exact⟨a,_,i,by rcases f with rfl|rfl|rfl<;> rfl,k⟩
def gP(T:Txt K mg):↥3 "names_by_layer" ["ground"] (uM mg):=by
 refine T.ay.cal bi (λH vs Q E h=>?_)
 .have%[g,c2,c3,c4,qs,j,ts,rfl,hg,nd,so,al|kk]:=h;refine%[rfl|λf an A outer s I=>?_];have lm:(j.map V.str).length=j.length:=Z6 _;have qm:(qs.map λq=>V.ref q.1).length=qs.length:=Z6 _;refine%[_,%["JCH1wCSP~F~T0K2Du212CSP~F]b0fMK3MK4MK5gDNLn3RDUG]cA1A4A5BOCSP~F~T0K2Dui1i1212DI1",bi.nd|I]|?_]
  show bd _ _ _ [!g,none,none,none,none,none] H;refine ap λD1 k1 _=>?_
  lk;intro d hd;refine k1 _ _ (ap λD2 k2 _=>az λJ hK=>?_);have s1:=ah.upd (o:= .dK []) hd;have U:upd H d (.dK []) d=some (.dK (NmD (j.take 0) id)):=aa
  generalize upd H d (.dK [])=H1 at s1 U
  lk;have ab:=hg.up s1;refine lP ab (.inl rfl) %[g,c2,c3,c4,qs,j,ts,rfl,ab|λY M=> .inl %[Y,rfl,%[_|SqL.of aa]|hK _ _ ?_]];have s2:=ah.upd (o:= .lst (j.map V.str)) M;have ac:upd H1 Y (.lst (j.map V.str)) Y=_:=aa;have n1:Y≠d:=λe=>by rw[e,U]at M;cases M
  have U:=s2 _ _ U
  generalize upd H1 Y (.lst (j.map V.str))=H2 at s2 ac U
  refine aZ (xs:=j.map V.str) (λi n l=>(∃p t o4 u,n=[!g,!d,p,t,o4,u])/\ah H l/\l Y=some (.lst (j.map V.str))/\l d=some (.dK (NmD (j.take i) id)))
   %[%[_,_,_,_|rfl],s1.trans s2,ac|U] (λi n l _ h=>SqL.of h.2.2.1) ?_ ?_
  .intro i x n l L %[%[p,t,o4,u|rfl],m,G|c];rw[Zl]at L;have%[z,v|rfl]:=map_eq_some_iff.mp L;show l7 _ _ _ _ [!g,!d,-z,t,o4,u] l;refine aB λD3 k3 _=>?_
   lk;have zn:z∉j.take i:=λhm=>by
    have h:=nd;rw[<-Xg i j,X7]at h;exact h.2.2 z hm z (Z8 (i:=0) ((Yc)▸v)) rfl
   refine%[_,iM.k (k:=Sum.inr z) c (by unfold NmD;rw[Z6,Yp,PySem.sizeLine_eq];lia)|k3 _ _ %[%[_,_,_,_|rfl],ah.set m hd,(am n1).trans G|?_]];rw[aa,F7 zn,Xf,v];rfl
  intro n H3 %[%[p,t,o4,u|rfl],m,G|c];rw[lm,Zn (Zi _)]at c;refine k2 _ _ (ap λD4 k4 _=>az λJ hK=>?_);lk;have ae:=hg.up m;refine lP ae (.inr (.inl rfl)) %[g,c2,c3,c4,qs,j,ts,rfl,ae|λl2 N=> .inl %[l2,rfl,%[_|SqL.of aa]|hK _ _ ?_]];have s4:=ah.upd (o:= .lst (qs.map λq=>V.ref q.1)) N;have ag:upd H3 l2 (.lst (qs.map λq=>V.ref q.1)) l2=_:=aa;have n2:l2≠d:=λe=>by rw[e,c]at N;cases N
  have c:=s4 _ _ c;have ai:=m.trans s4
  generalize upd H3 l2 (.lst (qs.map λq=>V.ref q.1))=H4 at s4 ag c ai
  refine aZ (xs:=qs.map λq=>V.ref q.1) (λi n l=>(∃p t o4 u,n=[!g,!d,p,t,o4,u])/\ah H l/\l l2=some (.lst (qs.map λq=>V.ref q.1))/\∃f r,l d=some (.dK (NmD j f))/\bG j f r (bv (qs.take i)))
   %[%[_,_,_,_|rfl],ai,ag,id,id,c|ju (bG.start j) λa b=>%[λh=>h.elim|λ⟨q,hq,_⟩=>(nomatch hq)]] (λi n l _ h=>SqL.of h.2.2.1) ?_ ?_
  .intro i x n l L %[%[p,t,o4,u|rfl],m,G,f,r,c|F];rw[Zl]at L;have%[q,hq|rfl]:=map_eq_some_iff.mp L;have%[q1|q2]:=hg.sa q (Z8 hq);have st:=m _ _ q1;have B:=ww hq;rcases q2 with⟨wd,a,b,e,hw,ha,hb,_⟩|⟨wd,a,y,e,hw,_⟩
   .rw[e]at st B;refine%[_,SqT.of st,rfl,_,_,rfl,_,_,rfl,_,_,rfl,rfl|?_];show lh _ _ _ _ [!g,!d,p,-wd,-a,-b] l;refine aB λD5 k5 _=>?_
    lk;refine bE (λh=>?_) λh=>?_
    .have h:wd=Str.ofString "same":=by simpa using h
     refine%[d,a,b,j,f,r,_,rfl,c,F,ha,hb,al|λf' r' F'=>k5 _ _ %[%[_,_,_,_|rfl],ah.set m hd,(am n2).trans G,f',r',aa|ju F' λx y=>?_]];rw[B,h];refine or_congr Iff.rfl %[λ⟨e1,e2⟩=>by rw[e1,e2]|λe=>?_];simp only[List.cons.injEq,V.str.injEq,and_true,true_and]at e;exact%[e.1.symm|e.2.symm]
    .have h:wd≠Str.ofString "same":=by simpa using h
     refine k5 _ _ %[%[_,_,_,_|rfl],m,G,f,r,c|ju F λx y=>?_];rw[B];refine%[.inl|λe=>e.resolve_right λe=>h ?_];simp only[List.cons.injEq,V.str.injEq]at e;exact e.1
   .rw[e]at st B;refine%[_,SqT.of st,rfl,_,_,rfl,_,_,rfl,_,_,rfl,rfl|?_];show lh _ _ _ _ [!g,!d,p,-wd,-a,some (.int y)] l;refine aB λD5 k5 _=>?_
    lk;rw[if_neg (by rcases hw with rfl|rfl<;> decide)];refine k5 _ _ %[%[_,_,_,_|rfl],m,G,f,r,c|ju F λx z=>?_];rw[B];refine%[.inl|λe=>e.resolve_right λe=>?_];simp at e
  intro n H5 %[%[p,t,o4,u|rfl],m,G,f,r,c|F];rw[qm,Zn (Zi _)]at F;refine k4 _ _ (ap λD6 k6 _=>az λJ hK=>?_);lk;have aj:=hg.up m;refine lP aj (.inl rfl) %[g,c2,c3,c4,qs,j,ts,rfl,aj|λl3 O=> .inl %[l3,rfl,%[_|SqL.of aa]|hK _ _ ?_]];have s6:=ah.upd (o:= .lst (j.map V.str)) O;have n3:l3≠d:=λe=>by rw[e,c]at O;cases O
  have c:=s6 _ _ c;refine aZ (xs:=j.map V.str) (λi n l=>(∃p t o4 u,n=[!g,!d,p,t,o4,u])/\ah H l/\l l3=some (.lst (j.map V.str))/\∃f,l d=some (.dK (NmD j f))/\bG j f r (bv qs)/\∀z∈j.take i,f z=r z)
   %[%[_,_,_,_|rfl],(m.trans s6),aa,f,c,F|λz v=>(nomatch v)] (λi n l _ h=>SqL.of h.2.2.1) ?_ ?_
  .intro i x n l L %[%[p,t,o4,u|rfl],m,G,f,c,F|C];rw[Zl]at L;have%[z,v|rfl]:=map_eq_some_iff.mp L;have zm:=Z8 v;show l7 _ _ _ _ [!g,!d,-z,t,o4,u] l;refine aB λD7 k7 _=>?_
   lk;have get:=λy hy=>by
    have:=cB.k (k:=Sum.inr y) c;rw[oS hy]at this;exact this
   refine%[_,get z zm,_,get _ (F.fin z zm),_,iM.k (k:=Sum.inr z) c (by unfold NmD;rw[Z6,PySem.sizeLine_eq];lia)|k7 _ _ %[%[_,_,_,_|rfl],ah.set m hd,(am n3).trans G,_,?_,F.short zm|λy hy=>?_]]
   .rw[aa,BL zm]
   .rw[Xf,v]at hy;by_cases e:y=z
    .rw[if_pos e,e];exact F.done zm λw hw h=>C w (ir so v hw h)
    .rw[if_neg e];rcases Xs hy with h|h
     .exact C y h
     .exact(e (Xt h)).elim
  intro n H7 %[%[p,t,o4,u|rfl],m,G,f,c,F|C];rw[lm,Zn (Zi _)]at C;refine k6 _ _ ?_;lk;refine kk d H7 r m hd ?_ λz v=>%[F.rin z v|F.least v]
  rw[c];unfold NmD;rw[Yt λz v=>by rw[C z v]]
def Hd{X:Cx}{K:ZA}{T id:String}(h:X.K=K)(m:PlainAttrs T)(slot:Slot T name id)(i:typeOf (.builtin id)=pure (.type "method_descriptor"))(n:MtQ X id r)
 (b:attributeBase o name X.env (eval o X.env)=eval o X.env) (a:(e::g).any be=false) (j:Nat.blt (e::g).length 30=true) (c:(d.endLine==f.line)=true) (p:QE X o q) (s:QA X (e::g) t):
 QE X (.Call (.Attribute o name d) (e::g) [] f) (tBM K T r q t):=by
 have l:=a;rw[Zy,Xc]at l;refine⟨AB h m slot i n.h p.h s.h b ?_ c (aD l.1) (gR l.2)⟩;rw[rN a];have:decide ((e::g).length+([]:List Keyword).length+(if([]:List Keyword).isEmpty then 0 else 1)<30)=true:=Zf ((Nat.blt_eq.mp j));rw[this];rfl
abbrev grp(r:Str->Str)(xs:ZB):List (Str×ZB):=(xs.filter λz=>decide (r z=z)).map λz=>(z,xs.filter λx=>decide (r x=z))
def zw(h:∀z∈xs,r z=b z):grp r xs=grp b xs:=by
 unfold grp;rw[List.filter_congr λz a=>by rw[h z a]];refine Yt λz a=>?_
 rw[List.filter_congr λx c=>by rw[h x c]]
def DC(a:r z=z)(b:z∉xs)(c:∀x∈xs,r x∈xs):grp r (xs++[z])=grp r xs++[(z,[z])]:=by
 unfold grp;rw[Y2,Zd];refine congr (congrArg _ (Yt λw hw=>?_)) ?_
 .have:w≠z:=λe=>b (e▸(List.mem_filter.mp hw).1)
  rw[Y2,Y3 (by rw[a];simpa using this.symm),Y6,Zz]
 .rw[Y4 (by rw[a];simp),Y6];show [(z,_)]=_;rw[Y2,Y4 (by rw[a];simp),Y6,List.filter_eq_nil_iff.mpr λx d=>?_]
  .rfl
  .intro e;exact b ((Zo e)▸c x d)
def DD(a:r z≠z):grp r (xs++[z])=(grp r xs).map λp=>if p.1=r z then(p.1,p.2++[z])else p:=by
 unfold grp;rw[Y2,Y3 (by simpa using a),Y6,Zz,Yv];refine Yt λw hw=>?_
 show(w,_)=if w=r z then(w,_)else(w,_)
 rw[Y2];by_cases e:w=r z
 .rw[if_pos e,Y4 (by simpa using e.symm),Y6]
 .rw[if_neg e,Y3 (by simpa using λq=>e q.symm),Y6,Zz]
def iu:y∈(grp r xs).map (·.1)↔y∈xs/\r y=y:=by
 unfold grp
 simp_all
def jv(h:xs.Nodup):((grp r xs).map (·.1)).Nodup:=by
 unfold grp;rw[Yv,show((λx=>x.1) ∘ λz=>(z,List.filter _ xs))=id from rfl,map_id];exact h.filter _
abbrev xt(S:Str->Str->Prop)(a:ZB)(ds:List ZB):Prop:=∃r:Str->Str,(∀z∈a,r z∈a/\bW S z (r z))/\ds=(grp r a).map (·.2)
def xt.one{S:Str->Str->Prop}(h:xt S b ds)(g:xt S b c):ds=c:=by
 have%[r,d|rfl]:=h;have%[e,g1|rfl]:=g;rw[zw λz a=>(d z a).2.one (g1 z a).2]
noncomputable abbrev Gs(a:Type):=List (Str×Addr×List a)
abbrev gD{a:Type}(b:Gs a):List (Key×V):=b.map λg=>(Sum.inr g.1,V.ref g.2.1)
def sR:∀{a:Gs b},y∉a.map (·.1)->bJ (gD a) (Sum.inr y)=none
 |[],_=>rfl
 | g::a,h=>by
   rw[Yu,Yz,not_or]at h;rw[show gD _=(Sum.inr g.1,V.ref _)::gD a from rfl,dv (λq=>h.1 (Sum.inr.inj q).symm)];exact sR h.2
def iw:∀{a:Gs d},bJ (gD a) (Sum.inr y)=some v->∃g∈a,g.1=y/\v= .ref g.2.1
 |[],h=>(nomatch h)
 | g::a,h=>by
   rw[show gD _=(Sum.inr g.1,V.ref _)::gD a from rfl]at h;by_cases e:g.1=y
   .rw[eV (congrArg Sum.inr e)]at h;exact%[g,Zm,e|(Za h).symm]
   .rw[dv (λq=>e (Sum.inr.inj q))]at h;have%[g',b|c]:=iw h;exact%[g',Zk _ b|c]
def lQ:∀{a:Gs b},g∈a->bJ (gD a) (Sum.inr g.1)≠none
 | x::a,h,c=>by
   rw[show gD _=(Sum.inr x.1,V.ref _)::gD a from rfl]at c;by_cases e:x.1=g.1
   .rw[eV (congrArg Sum.inr e)]at c;cases c
   .rw[dv (λq=>e (Sum.inr.inj q))]at c;rcases mem_cons.mp h with q|q
    .exact e (by rw[q])
    .exact lQ q c
abbrev m7(H:Hp)(a:ZG):Prop:=∀g∈a,H g.1=some (.lst (g.2.map V.str))
def m7.up{H a:Hp}{b:List _}(h:m7 H b)(s:ah H a):m7 a b:=λg c=>s _ _ (h g c)
structure jd {α:Type} (f:α->V) (H0 H:Hp) (d:Addr) (gs:Gs α):Prop where
 at_:H d=some (.dK (gD gs))
 la:∀g∈gs,H0 g.2.1=none/\H g.2.1=some (.lst (g.2.2.map f))
 nd:(gs.map (·.2.1)).Nodup
def DE{f:Type}{c:Gs f}(d:(c.map (·.1)).Nodup){g h:Str×Addr×List f}(i:g∈c)(j:h∈c)(e:g.1=h.1):g=h:=by
 induction c with
 | nil=>cases i
 | cons x xs l=>
   rw[Yu,nodup_cons]at d;rcases mem_cons.mp i with a|a<;> rcases mem_cons.mp j with b|b
   .rw[a,b]
   .exact(d.1 (by rw[<-a,e];exact Xv %[_,b|rfl])).elim
   .exact(d.1 (by rw[<-b,<-e];exact Xv %[_,a|rfl])).elim
   .exact l d.2 a b
def BP{f:Type}{c:Gs f}(d:(c.map (·.2.1)).Nodup){g h:Str×Addr×List f}(i:g∈c)(j:h∈c)(e:g.2.1=h.2.1):g=h:=by
 induction c with
 | nil=>cases i
 | cons x xs l=>
   rw[Yu,nodup_cons]at d;rcases mem_cons.mp i with a|a<;> rcases mem_cons.mp j with b|b
   .rw[a,b]
   .exact(d.1 (by rw[<-a,e];exact Xv %[_,b|rfl])).elim
   .exact(d.1 (by rw[<-b,<-e];exact Xv %[_,a|rfl])).elim
   .exact l d.2 a b
abbrev pU{a:Type}(y:Str)(z:a)(b:Gs a):Gs a:=b.map λg=>if g.1=y then(g.1,g.2.1,g.2.2++[z])else g
def F8(y:Str)(z:b)(a:Gs b):gD (pU y z a)=gD a:=by
 unfold pU gD;rw[Yv];refine Yt λg _=>?_
 show(Sum.inr (if g.1=y then(g.1,g.2.1,g.2.2++[z])else g).1,V.ref (if g.1=y then(g.1,g.2.1,g.2.2++[z])else g).2.1)=_
 split<;> rfl
def F9(y:Str)(z:b)(a:Gs b):(pU y z a).map (·.2.1)=a.map (·.2.1):=by
 unfold pU;rw[Yv];refine Yt λg _=>?_
 show(if g.1=y then(g.1,g.2.1,g.2.2++[z])else g).2.1=_
 split<;> rfl
def Ga(y:Str)(z:b)(a:Gs b):(pU y z a).map (λg=>(g.1,g.2.2))=(a.map λg=>(g.1,g.2.2)).map λp=>if p.1=y then(p.1,p.2++[z])else p:=by
 unfold pU;rw[Yv,Yv];refine Yt λg _=>?_
 show((if g.1=y then(g.1,g.2.1,g.2.2++[z])else g).1,(if g.1=y then(g.1,g.2.1,g.2.2++[z])else g).2.2)=if g.1=y then(g.1,g.2.2++[z])else(g.1,g.2.2)
 split<;> rfl
def jd.up{a:Type}{f:a->V}{b H c:Hp}{d:Addr}{e:Gs a}(h:jd f b H d e)(s:ah H c):jd f b c d e:=%[s _ _ h.at_,λg i=>%[(h.la g i).1|s _ _ (h.la g i).2]|h.nd]
def jd.add{a:Type}{f:a->V}{l H:Hp}{d:Addr}{b:Gs a}(h:jd f l H d b)(m:(b.map (·.1)).Nodup){g:Str×Addr×List a}(c:g∈b)(z:a):jd f l (upd H g.2.1 (.lst (g.2.2.map f++[f z]))) d (pU g.1 z b):=by
 refine%[?_,λg' j=>?_|by rw[F9];exact h.nd]
 .rw[F8,am (λe=>by have:=(h.la g c).2;rw[<-e,h.at_]at this;cases this)];exact h.at_
 .have%[n,i|rfl]:=Xu j;by_cases e:n.1=g.1
  .rw[if_pos e];obtain rfl:=DE m i c e;refine%[(h.la _ c).1|?_];rw[aa,Zd];rfl
  .rw[if_neg e];refine%[(h.la _ i).1|?_];rw[am (λq=>e (by rw[BP h.nd i c q]))];exact(h.la _ i).2
def jd.new{l:Gs n}(h:jd f m H d l)(s:ah m H)(j:H e=none)(y:Str)(z:n)(o:y∉l.map (·.1)):jd f m (upd (upd (upd H e (.lst [])) d (.dK (cP (gD l) (Sum.inr y) (.ref e)))) e (.lst [f z])) d (l++[(y,e,[z])]):=by
 refine%[?_,λg i=>?_|?_]
 .rw[am (λq=>by rw[<-q,h.at_]at j;cases j),aa,d8 _ (sR o)];unfold gD;rw[Zd];rfl
 .rcases Xs i with i|i
  .refine%[(h.la g i).1|?_];have q:=(h.la g i).2;rw[am (λc=>by rw[c,j]at q;cases q),am (λc=>by rw[c,h.at_]at q;cases q),am (λc=>by rw[c,j]at q;cases q)];exact q
  .rw[Xt i];exact%[s.free j|aa]
 .rw[Zd,X7];refine%[h.nd,by simp|λa p b r c=>?_];have%[g,i|rfl]:=Xu p;have q:=(h.la g i).2
  simp_all
inductive xu (mg:ZC) (vs:ZM) (H:Hp) (Q:VK) (E0:XK):Prop
 | mk (g c2 c3 c4 qs ls ts):vs=[.ref g]->GrF mg H g c2 c3 c4 qs ls ts->ls.Nodup->ls.Pairwise (λa b=>aO b a=false)->ls.length<=5000->(∀l H' ss,ah H H'->H l=none->H' l=some (.lst (ss.map λt=>V.ref t.1))->m7 H' ss->(∀s∈ss,H s.1=none)->xt (bv qs) ls (ss.map (·.2))->ss.length<=5000->Q (.ref l) H')->xu mg vs H Q E0
inductive Gb (mg:ZC) (vs:ZM) (H:Hp) (Q:VK) (E0:XK):Prop
 | mk (g c2 c3 c4 qs ls ts z):vs=[.ref g,.str z]->GrF mg H g c2 c3 c4 qs ls ts->ls.Nodup->ls.Pairwise (λa b=>aO b a=false)->ls.length<=5000->z∈ls->(∀H' m,ah H H'->bW (bv qs) z m->Q (.str m) H')->Gb mg vs H Q E0
def oU(T:Txt K mg):↥4 "deposits" ["ground"] (xu mg):=by
 refine T.aB.cal fK (λH vs Q E h=>?_)
 .have%[g,c2,c3,c4,qs,n,ts,rfl,hg,nd,so,aj|kk]:=h;refine%[rfl|λf a5 A outer s C=>?_];have lm:(n.map V.str).length=n.length:=Z6 _;refine%[_,%["JCH1G~&A0BCH2wCSP~F~T0K3DU~'a~(~)2Ai13AQBBA3BDI']dA]e]f2B",fK.nd|C]|?_]
  show bd _ _ _ [!g,none,none,none] H;refine ap λD1 k1 _=>?_
  lk;refine%[g,c2,c3,c4,qs,n,ts,rfl,hg,nd,so,aj|λd H1 r s1 fd I C=>k1 _ _ (ap λD2 k2 _=>?_)];lk;intro e fe;refine k2 _ _ (ap λD3 k3 _=>az λa4 hK=>?_);have al:d≠e:=λc=>by rw[c,fe]at I;cases I
  have s2:=ah.upd (o:= .dK []) fe;have ge:upd H1 e (.dK []) e=some (.dK (gD ([]:Gs Str))):=aa;have I:=s2 _ _ I;have fe:=s1.free fe;have U:=s1.trans s2
  generalize upd H1 e (.dK [])=H2 at s2 ge I U
  lk;have ab:=hg.up U;refine lP ab (.inl rfl) %[g,c2,c3,c4,qs,n,ts,rfl,ab|λl1 an=> .inl %[l1,rfl,%[_|SqL.of aa]|hK _ _ ?_]];have s3:=ah.upd (o:= .lst (n.map V.str)) an;have J:upd H2 l1 (.lst (n.map V.str)) l1=_:=aa;have I:=s3 _ _ I;have ge:=s3 _ _ ge;have ac:=U.trans s3
  generalize upd H2 l1 (.lst (n.map V.str))=H3 at s3 J I ge ac
  have r2:∀z∈n,r (r z)=r z:=λz L=>by
   have h:=(C z L)
   have h2:=(C _ h.1).2;exact h2.one %[.refl _|λy c=>h.2.2 y (h.2.1.trans c)]
  have ae:∀z∈n,r z≠z->aO (r z) z=true:=λz L h=>cA ((C z L).2.2 z (.refl _)) h.symm
  obtain⟨M,as,a0,a1,Y,s0⟩:∃M:Hp,M e=none/\M d=some (.dK (NmD n r))/\M l1=some (.lst (n.map V.str))/\ah H M/\ah M H3:=by
   refine%[λa=>if a=e then none else H3 a,if_pos rfl,?_,?_,λa o h=>?_|λa o h=>?_]
   .exact(if_neg (λc=>al c)).trans I
   .exact(if_neg (λc=>by rw[c,ge]at J;cases J)).trans J
   .exact(if_neg (λc=>by rw[c,fe]at h;cases h)).trans (ac _ _ h)
   .have h:(if a=e then none else H3 a)=some o:=h
    split at h
    .cases h
    .exact h
  refine aZ (xs:=n.map V.str) (λi σ H'=>(∃o3,σ=[!g,!d,!e,o3])/\ah M H'/\∃u,jd V.str M H' e u/\u.map (λg=>(g.1,g.2.2))=grp r (n.take i))
   %[%[_|rfl],s0,[],%[ge,λg hg=>(nomatch hg)|X9]|rfl] (λi σ H' _ h=>SqL.of (h.2.1 _ _ a1)) ?_ ?_
  .intro i x σ H' hx %[%[o3|rfl],N,u,b|t];rw[Zl]at hx;have%[z,L|rfl]:=map_eq_some_iff.mp hx;have zm:=Z8 L;have i1:i<n.length:=(Xr L).1;show jA _ _ [!g,!d,!e,-z] H';refine aB λD4 k4 _=>?_
   lk;have get:=cB.k (k:=Sum.inr z) (N _ _ a0);rw[oS zm]at get;have gk:u.map (·.1)=(grp r (n.take i)).map (·.1):=by rw[<-t,Yv];rfl
   have ag:(u.map (·.1)).Nodup:=by rw[gk];exact jv (nd.sublist (List.take_sublist _ _))
   have gl:u.length<=n.length:=by
    have:=STab.nodup_sub ag (m:=n) λy hy=>by rw[gk,iu]at hy;exact X2 hy.1
    rw[Z6]at this;exact this
   have zn:z∉n.take i:=λhm=>by
    have h:=nd;rw[<-Xg i n,X7]at h;exact h.2.2 z hm z (Z8 (i:=0) (by rw[Yc];exact L)) rfl
   have tk:n.take (i+1)=n.take i++[z]:=by rw[Xf,L];rfl
   refine%[.inr (.inr (.inl (.inl %[_|b.at_]))),_,get,#[0]|λp O=>%[Sum.inr (r z),rfl,gD u,?_,?_,λv hv=>?_|λhv=>?_]]
   .rw[am (λc=>by rw[<-c,b.at_]at O;cases O)];exact b.at_
   .unfold gD;rw[Z6];exact aA ⋯
   .have%[q,B,e1|rfl]:=iw hv;have a2:q.1∈u.map (·.1):=Xv %[q,B|rfl];have ai:=a2;rw[gk,iu,e1]at ai;have rn:r z≠z:=λc=>zn (by exact c▸ai.1)
    have sp:=ah.upd (o:= .lst []) O;have hl:=sp _ _ (b.la q B).2;have G:=(b.up sp).add ag B z;have ml:q.2.2.length<=n.length:=by
     have:(q.1,q.2.2)∈grp r (n.take i):=t▸Xv %[q,B|rfl];have%[y,hy|c]:=Xu this;exact((Prod.mk.inj c).2)▸Yk (Ym _ _) (by rw[Yp];lia)
    refine%[.inl %[_|SqL.of hl],_,rfl,_,hl,by rw[Z6];exact aA ⋯|k4 _ _ %[%[_|rfl],ah.set (N.trans sp) (b.la q B).1,_,G|?_]];rw[Ga,t,tk,DD rn,e1]
   .have nk:r z∉u.map (·.1):=λh=>by
     have%[q,B|c]:=Xu h;have:=lQ B;rw[c,hv]at this;exact this rfl
    have rz:r z=z:=Decidable.byContradiction λc=>nk (by rw[gk,iu];exact%[ir so L (C z zm).1 (ae z zm c)|r2 z zm])
    have de:e≠p:=λq=>by rw[<-q,b.at_]at O;cases O
    rw[rz]at hv nk ⊢;have gp:upd (upd H' p (.lst [])) e (.dK (cP (gD u) (Sum.inr z) (.ref p))) p=some (.lst []):=by rw[am de.symm,aa]
    refine%[.inl %[_|SqL.of gp],[],gp,(show 0<sizeLine by decide)|k4 _ _ %[%[_|rfl],ah.set (ah.set (N.trans (ah.upd O)) as) (N.free O),_,b.new N O z z nk|?_]];rw[Zd,t,tk,DC rz zn λx hx=>?_]
    .rfl
    .have%[j|hj]:=List.mem_iff_getElem?.mp hx;have xm:=X2 hx;by_cases c:r x=x
     .rw[c];exact hx
     .have ji:j<i:=by have:=(Xr hj).1;rw[Yp]at this;lia
      rw[Ye ji]at hj;exact List.take_subset_take_left _ (Yi ji) (ir so hj (C x xm).1 (ae x xm c))
  intro σ H' %[%[o3|rfl],N,u,b|t];rw[lm,Zn (Zi _)]at t;refine k3 _ _ ?_;lk;have gk:u.map (·.1)=(grp r n).map (·.1):=by rw[<-t,Yv];rfl
  have gl:u.length<=n.length:=by
   have:=STab.nodup_sub (l:=u.map (·.1)) (gk▸jv nd) (m:=n) λy hy=>by rw[gk,iu]at hy;exact hy.1
   rw[Z6]at this;exact this
  refine%[.inr (.inr (.inl (.inl %[_|b.at_]))),%[_|b.at_]|λv fv=>%[e,aa,_,ah.upd fv _ _ b.at_|λl fl=>?_]];have sv:=ah.upd (o:=uf v e) fv;have sl:=ah.upd (o:= .lst ((gD u).map (·.2))) fl;have a3:=N.trans (sv.trans sl);refine kk l _ (u.map (·.2)) (Y.trans a3) ((Y.trans (N.trans sv)).free fl) ?_ (λs hs=>?_) (λs hs=>?_) %[r,C|?_] (by rw[Z6];lia)
  .rw[aa];unfold gD;rw[Yv,Yv];rfl
  .have%[q,B|rfl]:=Xu hs;exact sl _ _ (sv _ _ (b.la q B).2)
  .have%[q,B|rfl]:=Xu hs;exact Y.free (b.la q B).1
  .rw[<-t,Yv,Yv];rfl
structure br (S:Str->Str->Prop) (ks0 ks:List _):Prop where
 nd:ks.Nodup
 so:ks.Pairwise (λa b=>dG b a=false)
 mem:∀k,k∈ks↔∃a b z a' b',[a,b,z]∈ks0/\bW S a a'/\bW S b b'/\k=[a',b',z]
def br.one{S:Str->Str->Prop}(h:br S c ks)(g:br S c d):ks=d:=
 db dG (λ_ _ a b=>lC a b) h.so g.so h.nd g.nd λx=>(h.mem x).trans (g.mem x).symm
abbrev wx(r:Str->Str):ZB->ZB
 |[a,b,z]=>[r a,r b,z]
 | k=>k
def wz{S:Str->Str->Prop}{c:List _}{l:ZB}{r:Str->Str}(m:∀k∈c,dI l k)(f:∀z∈l,bW S z (r z))(k:ZB):k∈c.map (wx r)↔∃a b z g h,[a,b,z]∈c/\bW S a g/\bW S b h/\k=[g,h,z]:=by
 rw[mem_map]
 constructor
 .rintro⟨t,d,rfl⟩;have%[a,b,z,rfl,i|j]:=m t d;exact%[a,b,z,r a,r b,d,f a i,f b j|rfl]
 .rintro⟨a,b,z,g,h,d,n,o,rfl⟩;have%[x,y,u,e,i|j]:=m _ d;simp only[List.cons.injEq,and_true]at e;have%[rfl,rfl|rfl]:=e;exact%[_,d|by rw[<-(f a i).one n,<-(f b j).one o];rfl]
inductive uN (mg:ZC) (vs:ZM) (H:Hp) (Q:VK) (E0:XK):Prop
 | mk (g c2 c3 c4 qs ls ts):vs=[.ref g]->GrF mg H g c2 c3 c4 qs ls ts->ls.Nodup->ls.Pairwise (λa b=>aO b a=false)->ls.length<=5000->ts.length<=98->(∀k∈ts.map (·.2),dI ls k)->(∀l H' ss,ah H H'->H l=none->H' l=some (.lst (ss.map λt=>V.ref t.1))->a9 H' ss->br (bv qs) (ts.map (·.2)) (ss.map (·.2))->ss.length<=98->Q (.ref l) H')->uN mg vs H Q E0
def sS(T:Txt K mg):↥4 "links" ["ground"] (uN mg):=by
 refine T.aD.cal uz (λH vs Q E h=>?_)
 .have%[g,c2,c3,c4,qs,ls,ts,rfl,hg,nd,so,ab,a0,h3|kk]:=h;refine%[rfl|λf as A outer s v=>?_];refine%[_,%["JC=1klG~&A0BDI*~xA~K~yAsd?1P~F]g0fMX0?2MX1?2MX2?2gqmAiY30AiY31A2BBB",uz.nd,(show bM (ao sH) ["ground","names"] _ ["later","earlier","source","names"] [(3,1)]=true from by decide +kernel),(show(["later","earlier","source","names"]:ZB).Nodup from by decide +kernel)|v]|?_]
  show bd _ _ _ [!g,none] H;refine ap λD1 k1 _=>?_
  lk;refine%[g,c2,c3,c4,qs,ls,ts,rfl,hg,nd,so,ab|λd H1 r s1 fd hd v=>k1 _ _ ?_];lk;refine aI λan hK=>?_
  lk;have B:=hg.up s1;refine lP B (.inr (.inr rfl)) %[g,c2,c3,c4,qs,ls,ts,rfl,B|λL ac=> .inl %[L,rfl,%[_|SqL.of aa]|hK _ _ λF hF=>?_]];have s2:=ah.upd (o:= .lst (ts.map λt=>V.ref t.1)) ac;have u:upd H1 L (.lst (ts.map λt=>V.ref t.1)) L=_:=aa
  generalize upd H1 L (.lst (ts.map λt=>V.ref t.1))=H2 at s2 u hF
  have ae:=s2 _ _ hd;have ag:=(B.up s2).tu;refine bw (J:=Itl K L) (n:=ts.length) (D:=F) (λj vs σ M=>(∃o1 o2 o3,σ=[o1,o2,o3,!d])/\ah H2 M/\M F=some (.lst vs)/\∃ps:ZG,vs=ps.map (λp=>V.ref p.1)/\a9 M ps/\ps.map (·.2)=((ts.take j).map (·.2)).map (wx r))
   %[%[none,none,none|rfl],ah.upd hF,aa,[],rfl,jc _|rfl] (λj _ _ M G C=>%[_,V.ref ts[j].1,SqL.of (C.2.1 _ _ u)|by simp[G]]) (λ_ _ M C=>%[_,SqL.of (C.2.1 _ _ u)|by simp]) ?_ ?_
  .intro j vs σ H3 G %[%[o1,o2,o3|rfl],I,N,ps,hv,i|c] x H4 %[e2|hx];subst e2;have O:=hx _ (SqL.of (I _ _ u));rw[Zl,Z4 G]at O;obtain rfl:x=V.ref ts[j].1:=(Za O).symm;have tj:=Yg G;have%[a,b,z,e,ha|hb]:=h3 _ (Xv %[_,tj|rfl]);have st:=I _ _ (ag _ tj).2;rw[e]at st;have get:∀y∈ls,cB H4 d (.str y) (some (.str (r y))):=λy hy=>by
    have:=cB.k (k:=Sum.inr y) (I _ _ ae);rw[oS hy]at this;exact this
   refine%[_,SqT.of st,rfl,_,_,rfl,_,_,rfl,_,_,rfl,rfl|?_];show Au [-a,-b,-z,!d] _ _;lk;refine%[_,get a ha,_,get b hb,#[3]|λp hp=>?_];have sp:=ah.upd (o:= .tup [V.str (r a),V.str (r b),V.str z]) hp;have gp:upd H4 p (.tup [V.str (r a),V.str (r b),V.str z]) p=_:=aa;have pl:=congrArg List.length c;rw[Z6,Z6,Z6,Yp]at pl;refine CK.mk G (sp _ _ N) (by rw[hv,Z6];exact aA ⋯) %[%[_,_,_|rfl],ah.set (I.trans sp) hF,aa,ps++[(p,[r a,r b,z])],by rw[hv,Zd];rfl,aY (jt (aY i λb z e=>sp _ _ e) ∅ gp) (mZ (ys:=vs++[V.ref p]) (sp _ _ N))|?_];rw[Zd,c,Xf,Z4 G,Zd,Zd];show _++[_]=_++[wx r ts[j].2];rw[e];rfl
  intro vs σ H3 %[_,I,ai,ps,hv,i|c];rw[Zn (Zi _)]at c;have pl:=congrArg List.length c;rw[Z6,Z6,Z6]at pl;have p3:∀q∈ps,q.2.length=3:=λq l=>by
   have:q.2∈ps.map (·.2):=Xv %[q,l|rfl];rw[c]at this;have%[k,hk|e]:=Xu this;have%[a,b,z,rfl|_]:=h3 k hk;rw[<-e];rfl
  refine%[F,rfl,ps,hv▸SqL.of ai,i,%[ps.map (·.2),by rw[Z6];lia|λq l=>Xv %[q,l|rfl]]|λl5 aj=>?_];have s5:=ah.upd (o:=n8 P w l5 (ba ps)) aj;have few:(ba ps).length<=98:=by
   have:=STab.nodup_sub (dW ps) (m:=ps.map (·.2)) λk hk=>by
    have%[q,l|rfl]:=Xu hk;exact Xv %[q,bq ps q l|rfl]
   rw[Z6,Z6]at this
   lia
  refine%[ba ps,aa,λq l=>%[(i q (bq ps q l)).1|s5 _ _ (i q (bq ps q l)).2],3,λq l=>p3 q (bq ps q l),by decide,⋯|λl6 ss U pm al=>?_];have s6:=ah.upd (o:= .lst (ss.map λq=>V.ref q.1)) U;have Y:=s1.trans (s2.trans (I.trans s5));have pk:(ss.map (·.2)).Perm ((ba ps).map (·.2)):=pm.map _;refine kk l6 _ ss (Y.trans s6) (Y.free U) aa (λq l=>?_) %[pk.nodup_iff.mpr (dW ps),by rw[Xd];exact al|λk=>?_] (pm.length_eq▸few)
  .have:=i q (bq ps q (pm.mem_iff.mp l));exact%[this.1|s6 _ _ (s5 _ _ this.2)]
  .rw[pk.mem_iff,hJ,c];exact wz h3 (λz hz=>(v z hz).2) k
def uO{S:Str->Str->Prop}(d:c.Pairwise (λa b=>aO b a=false))(h:∀z∈c,r z∈c/\bW S z (r z))(i:p∈grp r c):p.2[0]? =some p.1:=by
 have%[z,j|rfl]:=Xu i;have%[l|m]:=List.mem_filter.mp j;have f:z∈c.filter (λx=>decide (r x=z)):=List.mem_filter.mpr %[l|m];have d:=d.sublist (List.filter_sublist (p:=λx=>decide (r x=z)));have all:∀x∈c.filter (λx=>decide (r x=z)),aO x z=false:=λx n=>by
  have%[o|s]:=List.mem_filter.mp n;exact(Zo s)▸(h x o).2.2 x (.refl _)
 show(c.filter _)[0]? =some z
 generalize c.filter _=g at all f d
 cases g with
 | nil=>cases f
 | cons y g=>
   rw[List.getElem?_cons_zero];rcases mem_cons.mp f with e|e
   .rw[e]
   .have a:=(List.pairwise_cons.mp d).1 z e;by_cases q:y=z
    .rw[q]
    .have:=cA (all y Zm) q
     grind
structure mF (S:Str->Str->Prop) (ls ns:ZB):Prop where
 nd:ns.Nodup
 mem:∀x,x∈ns↔x∈ls/\bW S x x
 so:ns.Pairwise (λa b=>aO b a=false)
 ne:ls≠[]->ns≠[]
def BQ{S:Str->Str->Prop}{a:ZB}{r:Str->Str}(c:∀z∈a,r z∈a/\bW S z (r z))(h:a≠[]):(grp r a).map (·.1)≠[]:=by
 have%[z|f]:=List.exists_mem_of_ne_nil _ h;have%[e|b]:=c z f;have g:bW S (r z) (r z):=%[b.1.symm.trans b.1|λy d=>b.2 y (b.1.trans d)]
 exact ne_nil_of_mem (iu.mpr %[e|(c _ e).2.one g])
def BR{r:Str->Str}{xs:ZB}(h:xs.Pairwise (λa b=>aO b a=false)):((grp r xs).map (·.1)).Pairwise (λa b=>aO b a=false):=by
 unfold grp;rw[Yv];show List.Pairwise _ (List.map (λz=>z) _);rw[List.map_id'];exact h.filter _
inductive qY (mg:ZC) (vs:ZM) (H:Hp) (Q:VK) (E0:XK):Prop
 | mk (g c2 c3 c4 qs ls ts):vs=[.ref g]->GrF mg H g c2 c3 c4 qs ls ts->ls.Nodup->ls.Pairwise (λa b=>aO b a=false)->ls.length<=5000->(∀l H' ns,ah H H'->H l=none->H' l=some (.lst (ns.map V.str))->mF (bv qs) ls ns->Q (.ref l) H')->qY mg vs H Q E0
def c8(T:Txt K mg):↥5 "deposit_names" ["ground"] (qY mg):=by
 refine T.aC.cal lI (λH vs Q E h=>?_)
 .have%[g,G,I,L,qs,c,ts,rfl,hg,nd,q,t|kk]:=h;refine%[rfl|λf ab A outer s b=>?_];refine%[_,%["JDIsd?1PG~*A0BX0?2qT0E",0,(show bM (ao eA) ["ground"] _ ["group"] []=true from by decide +kernel),(show(["group"]:ZB).Nodup from by simp)|b]|?_];show j6 _ _ [!g] H;lk;refine aI λM hK=>?_
  lk;refine%[g,G,I,L,qs,c,ts,rfl,hg,nd,q,t|λN H1 ss O f1 o la _ ⟨r,b,U⟩ ac=> .inl %[N,rfl,%[_|SqL.of o]|hK _ _ λF u=>?_]];have sg:ss.length=(grp r c).length:=by
   have:=congrArg List.length U;rwa[Z6,Z6]at this
  refine bw (J:=Itl K N) (n:=ss.length) (D:=F) (λj vs v p=>(∃Y,v=[Y])/\ah H1 p/\p F=some (.lst vs)/\vs=(((grp r c).take j).map (·.1)).map V.str)
   %[%[none|rfl],ah.upd u,aa|rfl] (λj _ _ p d a=>%[_,V.ref ss[j].1,SqL.of (a.2.1 _ _ o)|by simp[d]]) (λ_ _ p a=>%[_,SqL.of (a.2.1 _ _ o)|by simp]) ?_ ?_
  .intro j vs v H3 d %[%[Y|rfl],e,y|i] x H4 %[B|hx];subst B;have l:=hx _ (SqL.of (e _ _ o));rw[Zl,Z4 d]at l;obtain rfl:x=V.ref ss[j].1:=(Za l).symm;have C:j<(grp r c).length:=by lia
   have B:ss[j].2=(grp r c)[j].2:=by
    have:=congrArg (λz=>z[j]?) U;simpa [d,C]using this
   lk;refine%[_,SqL.of (e _ _ (la _ (Yg d))),_,(show atI (ss[j].2.map V.str) ((0:Nat):Int)=some _ from cj (by rw[Zl,B,(uO q b (Yg C))];rfl))|?_];refine CK.mk d y (by rw[i,Z6,Z6,Yp];exact aA ⋯) %[%[_|rfl],ah.set e u,aa|?_];rw[i,Xf,Z4 C,Zd,Zd];rfl
  intro vs v H3 %[_,e,m|i];rw[Zn ⋯]at i;rw[i]at m;refine kk F H3 _ (O.trans e) (O.free u) m %[jv nd,λx=>?_,BR q|BQ b];rw[iu];refine%[λh=>%[h.1|by have:=(b x h.1).2;rwa[h.2]at this]|λh=>%[h.1|(b x h.1).2.one h.2]]
abbrev GrB(H:Hp)(d:Addr)(ss:ZG)(i:Nat):Prop:=∃a,H d=some (.dK a)/\∀n,(∃l,bJ a (Sum.inr n)=some (.ref l)/\H l=some (.lst ((ss.filter λt=>decide (t.2[i]? =some n)).map λt=>V.ref t.1)))\/(bJ a (Sum.inr n)=none/\∀t∈ss,t.2[i]? ≠some n)
def GrB.up(h:GrB H d ss i)(s:ah H e):GrB e d ss i:=by
 have%[c,f|g]:=h;exact%[c,s _ _ f|λn=>(g n).imp_left λ⟨l,a,b⟩=>%[l,a|s _ _ b]]
abbrev dE(H:Hp)(ns:ZB)(ss:ZG):Prop:=∀t∈ss,H t.1=some (.tup (t.2.map V.str))/\dI ns t.2
def dE.up(h:dE H ns ss)(s:ah H b):dE b ns ss:=λt a=>%[s _ _ (h t a).1|(h t a).2]
def Gc(h:dI ns k)(hi:i<2):∃n,k[i]? =some n/\n∈ns:=by
 have%[a,b,z,rfl,c|d]:=h
 match i,hi with
 | 0,_=>exact%[a,rfl|c]
 | 1,_=>exact%[b,rfl|d]
inductive oV (vs:ZM) (H:Hp) (Q:VK) (E0:XK):Prop
 | mk (l:Addr) (i:Nat) (ns:ZB) (ss:List _):vs=[.ref l,.int i]->i<2->H l=some (.lst (ss.map λt=>V.ref t.1))->dE H ns ss->ss.length<=98->(∀d H',ah H H'->H d=none->GrB H' d ss i->Q (.ref d) H')->oV vs H Q E0
inductive BS (i:Nat) (vs:ZM) (H:Hp) (Q:VK) (E0:XK):Prop
 | mk (l ns ss):vs=[.ref l]->H l=some (.lst (ss.map λt=>V.ref t.1))->dE H ns ss->ss.length<=98->(∀d H',ah H H'->H d=none->GrB H' d ss i->Q (.ref d) H')->BS i vs H Q E0
def qZ(T:Txt K mg):↥1 "grouped" ["found","side"] oV:=by
 refine T.aH.cal jX (λH vs Q E h=>?_)
 .have%[l,i,ns,ss,rfl,hi,U,Y,ai|kk]:=h;refine%[rfl|λf ag A outer s hr=>?_];have ab:(ss.map λt=>V.ref t.1).length=ss.length:=Z6 _;refine%[_,%["JCH2wCSP0K3DU~'a~(~)2AW31AQBBA3BDI2"|jX.nd]|?_]
  show bd _ _ _ [!l,some (.int i),none,none] H;refine ap λD1 k1 _=>?_
  lk;intro e fe;refine k1 _ _ (ap λD2 k2 _=>az λae hK=>?_);lk;have se:=ah.upd (o:= .dK []) fe;refine .inl %[%[_|SqL.of (se _ _ U)]|hK _ _ ?_];refine aZ (xs:=ss.map λt=>V.ref t.1) (λj σ u=>(∃o3,σ=[!l,some (.int i),!e,o3])/\ah H u/\∃m,jd (λt:Addr×ZB=>V.ref t.1) H u e m/\(m.map (·.1)).Nodup/\(∀g∈m,g.2.2=(ss.take j).filter λt=>decide (t.2[i]? =some g.1))/\∀n,n∈m.map (·.1)↔∃t∈ss.take j,t.2[i]? =some n)
   %[%[_|rfl],se,[],%[aa,λg B=>(nomatch B)|X9],X9,λg B=>(nomatch B)|by simp] (λj σ u _ h=>SqL.of (h.2.1 _ _ U)) ?_ ?_
  .intro j x σ u hx %[%[o3|rfl],G,m,d,gn,I|N];rw[Zl]at hx;have%[t,J|rfl]:=map_eq_some_iff.mp hx;have tm:=Z8 J;have j1:j<ss.length:=(Xr J).1;have%[n,L|_]:=Gc (Y t tm).2 hi;have tk:ss.take (j+1)=ss.take j++[t]:=by rw[Xf,J];rfl
   show jA _ _ [!l,some (.int i),!e,some (.ref t.1)] u;refine aB λD4 k4 _=>?_
   lk;have gl:m.length<=ss.length:=by
    have:m.map (·.1) ⊆ ss.filterMap λt=>t.2[i]? :=λy hy=>by
     have%[t,J|e]:=(N y).mp hy;exact mem_filterMap.mpr %[t,X2 J|e]
    have:=STab.nodup_sub gn λx hx=>this hx
    rw[Z6]at this;exact Yk this (List.length_filterMap_le _ _)
   have st:=G _ _ (Y t tm).1;have keys:∀(M:Gs (Addr×ZB)),(∀y,y∈M.map (·.1)↔y∈m.map (·.1)\/y=n)->∀y,y∈M.map (·.1)↔∃t∈ss.take (j+1),t.2[i]? =some y:=λM h y=>by
    rw[h,N,tk]
    constructor
    .rintro(⟨t',h1,h2⟩|rfl)
     .exact%[t',Yx _ h1|h2]
     .exact%[t,Yy _ Zm|L]
    .rintro⟨t',h1,h2⟩;rcases Xs h1 with q|q
     .exact .inl %[t',q|h2]
     .rw[Xt q,L]at h2;exact .inr (Za h2).symm
   refine%[.inr (.inr (.inl (.inl %[_|d.at_]))),_,SqT.of st,_,cj (show(t.2.map V.str)[i]? =some (.str n) by rw[Zl,L];rfl),#[0]|λp C=>%[Sum.inr n,rfl,gD m,?_,?_,λv O=>?_|λO=>?_]]
   .rw[am (λc=>by rw[<-c,d.at_]at C;cases C)];exact d.at_
   .unfold gD;rw[Z6];exact aA ⋯
   .have%[q,r,e1|rfl]:=iw O;have sp:=ah.upd (o:= .lst []) C;have U:=sp _ _ (d.la q r).2;have ml:q.2.2.length<=ss.length:=by
     rw[I q r];exact Yk (Ym _ _) (by rw[Yp];lia)
    have ka:(pU q.1 t m).map (·.1)=m.map (·.1):=by
     unfold pU;rw[Yv];refine Yt λg _=>?_
     show(if g.1=q.1 then(g.1,g.2.1,g.2.2++[t])else g).1=_
     split<;> rfl
    refine%[.inl %[_|SqL.of U],_,rfl,_,U,by rw[Z6];exact aA ⋯|k4 _ _ %[%[_|rfl],ah.set (G.trans sp) (d.la q r).1,_,((d.up sp).add gn r t),ka▸gn,λg B=>?_|keys _ λy=>?_]]
    .unfold pU at B;have%[g0,h0|rfl]:=Xu B;rw[tk,Y2];by_cases c:g0.1=q.1
     .rw[if_pos c];show g0.2.2++[t]=_++List.filter (λt=>decide (t.2[i]? =some g0.1)) [t];rw[I g0 h0,Y4 (by rw[L,c,e1];simp),Y6]
     .rw[if_neg c,I g0 h0,Y3 (by rw[L,<-e1];simpa using λz=>c z.symm),Y6,Zz]
    .rw[ka];exact%[.inl|λh=>h.elim id λh=>by rw[h,<-e1];exact Xv %[q,r|rfl]]
   .have nk:n∉m.map (·.1):=λh=>by
     have%[q,r|c]:=Xu h;have:=lQ r;rw[c,O]at this;exact this rfl
    have de:e≠p:=λq=>by rw[<-q,d.at_]at C;cases C
    have gp:upd (upd u p (.lst [])) e (.dK (cP (gD m) (Sum.inr n) (.ref p))) p=some (.lst []):=by rw[am de.symm,aa]
    refine%[.inl %[_|SqL.of gp],[],gp,(show 0<sizeLine by decide)|k4 _ _ %[%[_|rfl],ah.set (ah.set (G.trans (ah.upd C)) fe) (G.free C),_,d.new G C n t nk,?_,λg B=>?_|keys _ λy=>?_]]
    .rw[Zd,X7];exact%[gn,by simp|λa ha b hb c=>nk (by rw[<-show b=n from Xt hb,<-c];exact ha)]
    .rw[tk,Y2];rcases Xs B with q|q
     .have c:g.1≠n:=λc=>nk (c▸Xv %[g,q|rfl])
      rw[I g q,Y3 (by rw[L];simpa using λz=>c z.symm),Y6,Zz]
     .rw[Xt q];show [t]=_++List.filter (λt=>decide (t.2[i]? =some n)) [t];rw[Y4 (by rw[L];simp),Y6,List.filter_eq_nil_iff.mpr λt' ac c=>nk ((N n).mpr %[t',ac|Zo c])];rfl
    .rw[Zd,Yw,Yu,map_nil,X3]
  .intro σ u %[%[o3|rfl],G,m,d,gn,I|N];rw[ab,Zn (Zi _)]at I N;refine k2 _ _ ?_;lk;refine kk e u G fe %[_,d.at_|λn=>?_];cases O:bJ (gD m) (Sum.inr n)with
   | none=>
     refine .inr %[rfl|λt J c=>?_];have%[q,r|c]:=Xu ((N n).mpr %[t,J|c]);have:=lQ r;rw[c,O]at this;exact this rfl
   | some v=>
     have%[q,r,e1|rfl]:=iw O;refine .inl %[_,rfl|?_];rw[(d.la q r).2,I q r,e1]
def dS(T:Txt K mg):↥2 "links_by_later" ["found"] (BS 0):=by
 refine T.aE.cal kK (λH vs Q E h=>?_)
 .have%[l,ns,ss,rfl,e,a,b|g]:=h;refine%[rfl|λf c A outer s d=>?_];exact%[_,%["JDIG~+A0A}B",0|d],l,0,ns,ss,rfl,by simp,e,a,b|g]
def j3(T:Txt K mg):↥2 "links_by_earlier" ["found"] (BS 1):=by
 refine T.aF.cal jx (λH vs Q E h=>?_)
 .have%[l,ns,ss,rfl,e,a,b|g]:=h;refine%[rfl|λf c A outer s d=>?_];exact%[_,%["JDIG~+A0A~GB",0|d],l,1,ns,ss,rfl,by simp,e,a,b|g]
structure ReB (ss:ZG) (rs:Gs Str):Prop where
 nd:(rs.map (·.1)).Nodup
 sub:∀r∈rs,r.2∈ss/\r.2.2[1]? =some r.1
def ReB.len(h:ReB ss rs):rs.length<=ss.length:=by
 have:=STab.nodup_sub h.nd (m:=ss.filterMap λt=>t.2[1]?) λx a=>by
  have%[r,b|rfl]:=Xu a;exact mem_filterMap.mpr %[r.2|h.sub r b]
 rw[Z6]at this;exact Yk this (List.length_filterMap_le _ _)
def ReB.snoc(h:ReB ss rs)(d:(a,[p,y,z])∈ss)(e:y∉rs.map (·.1)):ReB ss (rs++[(y,a,[p,y,z])]):=by
 refine%[?_|λr f=>?_]
 .rw[Zd,X7];exact%[h.nd,by simp|λa g b i c=>e (by rw[<-show b=y from Xt i,<-c];exact g)]
 .rcases Xs f with q|q
  .exact h.sub r q
  .rw[Xt q];exact%[d|rfl]
abbrev dm(d:Addr)(H a:Hp):Prop:=∀b o,b≠d->H b=some o->a b=some o
def dm.trans(h:dm d H c)(g:dm d c a):dm d H a:=λb o n e=>g b o n (h b o n e)
def dm.of(h:ah H a):dm d H a:=λb o _ e=>h b o e
def GrB.x(h:GrB H b ss i)(s:dm d H f)(n:b≠d)(m:H d=some (.dK o)):GrB f b ss i:=by
 have%[e,g|j]:=h;exact%[e,s _ _ n g|λn=>(j n).imp_left λ⟨l,a,b⟩=>%[l,a|s _ _ (λc=>by lia) b]]
def dE.x(h:dE H ns ss)(s:dm d H e)(f:H d=some (.dK g)):dE e ns ss:=λt a=>%[s _ _ (λc=>by have b:=(h t a).1;grind) (h t a).1|(h t a).2]
def GrB.get(h:GrB f b ss i)(s:dm d f H)(nb:b≠d)(q:∀xs,f d≠some (.lst xs))(r:H p=none)(n:Str):∃e a,upd H p (.lst []) b=some (.dK e)/\(bJ e (Sum.inr n)).getD (.ref p)= .ref a/\upd H p (.lst []) a=some (.lst ((ss.filter λt=>decide (t.2[i]? =some n)).map λt=>V.ref t.1))/\(a=p\/∃o,f a=some o):=by
 have%[e,m|u]:=h;have sp:=ah.upd (o:= .lst []) r;rcases u n with⟨l,g,j⟩|⟨g,v⟩
 .exact%[e,l,sp _ _ (s _ _ nb m),by rw[g];rfl,sp _ _ (s _ _ (λc=>q _ (c▸j)) j)|.inr %[_|j]]
 .refine%[e,p,sp _ _ (s _ _ nb m),by rw[g];rfl,?_|.inl rfl];rw[List.filter_eq_nil_iff.mpr λt y c=>v t y (Zo c)];exact aa
inductive xv (vs:ZM) (H:Hp) (Q:VK) (E0:XK):Prop
 | mk (b e d:Addr) (ns F:ZB) (ss:List _) (rs:Gs Str):vs=[.ref b,.ref e,.ref d]->b≠d->GrB H b ss 0->dE H ns ss->ss.length<=98->H e=some (.lst (F.map V.str))->H d=some (.dK (gD rs))->ReB ss rs->(∀g H' new,dm d H H'->H g=none->H' g=some (.lst ((new.map (·.1)).map V.str))->H' d=some (.dK (gD (rs++new)))->ReB ss (rs++new)->(∀r∈new,∃p∈F,r.2.2[0]? =some p)->(∀x∈F,∀y,Ed (ss.map (·.2)) x y->y∈(rs++new).map (·.1))->Q (.ref g) H')->xv vs H Q E0
def uP(T:Txt K mg):↥1 "next_edge" ["beneath","edge","reached"] xv:=by
 refine T.aK.cal eG (λH vs Q E h=>?_)
 .have%[b,e,d,ns,F,ss,rs,rfl,ai,hb,aj,bl,he,hd,a4|kk]:=h;refine%[rfl|λf bf A outer s hr=>?_];have Fm:(F.map V.str).length=F.length:=Z6 _;have ed:e≠d:=λc=>by rw[c,hd]at he;cases he
  refine%[_,%["JCH3QBCSP1K4DSP~O~U0A4AQBBK5DN,W5~G2Cu52W5~GDUea3AW5~GBODI3",eG.nd|hr]|?_]
  show bd _ _ _ [!b,!e,!d,none,none,none] H;refine ap λD1 k1 _=>?_
  lk;refine%[#[0]|λg fg=>k1 _ _ (ap λD2 k2 _=>az λal hK=>?_)];have gd:g≠d:=λc=>by rw[c,hd]at fg;cases fg
  have s1:=ah.upd (o:= .lst []) fg;have gg:upd H g (.lst []) g=some (.lst ((([]:Gs Str).map (·.1)).map V.str)):=aa
  generalize upd H g (.lst [])=H1 at s1 gg
  lk;refine .inl %[%[_|SqL.of (s1 _ _ he)]|hK _ _ ?_];refine aZ (xs:=F.map V.str) (λi Y H'=>(∃o4 o5,Y=[!b,!e,!d,!g,o4,o5])/\dm d H H'/\∃new:Gs Str,H' g=some (.lst ((new.map (·.1)).map V.str))/\H' d=some (.dK (gD (rs++new)))/\ReB ss (rs++new)/\(∀r∈new,∃p∈F,r.2.2[0]? =some p)/\∀x∈F.take i,∀y,Ed (ss.map (·.2)) x y->y∈(rs++new).map (·.1))
   %[%[_,_|rfl],dm.of s1,[],gg,by rw[Zz];exact s1 _ _ hd,by rw[Zz];exact a4,λr hr=>(nomatch hr)|λx C=>(nomatch C)] (λi Y H' _ h=>SqL.of (h.2.1 _ _ ed he)) ?_ ?_
  .intro i x Y H' C %[%[o4,o5|rfl],sm,new,hg,l,L,ae|m];rw[Zl]at C;have%[n,hn|rfl]:=map_eq_some_iff.mp C;have tk:F.take (i+1)=F.take i++[n]:=by rw[Xf,hn];rfl
   show zU _ _ _ _ [!b,!e,!d,!g,-n,o5] H';refine aB λD3 k3 _=>az λal hK=>?_
   lk;refine%[.inr (.inr (.inl (.inl %[_|sm _ _ ai hb.choose_spec.1]))),#[0]|λp hp=>?_];have%[a5,a,an,a6,M|a7]:=hb.get sm ai (λxs c=>by rw[hd]at c;cases c) hp n;have ag:a≠g:=by
    rcases a7 with rfl|⟨o,ho⟩
    .exact λc=>by rw[c,hg]at hp;cases hp
    .exact λc=>by rw[c,fg]at ho;cases ho
   have ad:a≠d:=λc=>by
    have:=M;rw[c,am (λc=>by rw[c,hp]at l;cases l),l]at this;cases this
   have sp:=ah.upd (o:= .lst []) hp;have hg:=sp _ _ hg;have l:=sp _ _ l;have sm:=sm.trans (dm.of sp)
   generalize upd H' p (.lst [])=H2 at an M sp hg l sm ⊢
   generalize as:(ss.filter λt=>decide (t.2[0]? =some n))=ts at M
   have tm:(ts.map λt=>V.ref t.1).length=ts.length:=Z6 _;have bb:∀t∈ts,t∈ss/\∃y z,t.2=[n,y,z]:=λt ht=>by
    rw[<-as]at ht;have%[h1|h2]:=List.mem_filter.mp ht;have%[x,y,z,e|_]:=(aj t h1).2;have h2:=Zo h2;rw[e]at h2;exact%[h1,y,z|by rw[e,show x=n from Za h2]]
   refine%[Sum.inr n,rfl,a5,an|.inl %[a,a6,%[_|SqL.of M]|hK _ _ ?_]];refine aZ (xs:=ts.map λt=>V.ref t.1) (λj Y U=>(∃o5,Y=[!b,!e,!d,!g,-n,o5])/\dm d H U/\U a=some (.lst (ts.map λt=>V.ref t.1))/\∃new:Gs Str,U g=some (.lst ((new.map (·.1)).map V.str))/\U d=some (.dK (gD (rs++new)))/\ReB ss (rs++new)/\(∀r∈new,∃p∈F,r.2.2[0]? =some p)/\(∀x∈F.take i,∀y,Ed (ss.map (·.2)) x y->y∈(rs++new).map (·.1))/\∀t∈ts.take j,∀y,t.2[1]? =some y->y∈(rs++new).map (·.1))
    %[%[_|rfl],sm,M,new,hg,l,L,ae,m|λt ht=>(nomatch ht)] (λj Y U _ h=>SqL.of h.2.2.1) ?_ ?_
   .intro j x Y U C %[%[o5|rfl],N,O,new,ab,I,B,G,u|ac];rw[Zl]at C;have%[t,ht|rfl]:=map_eq_some_iff.mp C;have%[a0,y,z|et]:=bb t (Z8 ht);have J:=(aj.x N hd t a0).1;rw[et]at J;have bc:ts.take (j+1)=ts.take j++[t]:=by rw[Xf,ht];rfl
    show lh _ _ _ _ [!b,!e,!d,!g,-n,some (.ref t.1)] U;refine aB λD4 k4 _=>?_
    lk;refine%[_,SqT.of J,_,rfl,_,cB.k (k:=Sum.inr y) I|?_];have a1:∀(nw:Gs Str),(∀x∈(rs++new).map (·.1),x∈(rs++nw).map (·.1))->y∈(rs++nw).map (·.1)->(∀x∈F.take i,∀y,Ed (ss.map (·.2)) x y->y∈(rs++nw).map (·.1))/\∀t∈ts.take (j+1),∀y,t.2[1]? =some y->y∈(rs++nw).map (·.1):=λnw mono hy=>by
     refine%[λx C y h=>mono y (u x C y h)|λt' a2 y' h=>?_];rw[bc]at a2;rcases Xs a2 with q|q
     .exact mono y' (ac t' q y' h)
     .rw[Xt q,et]at h;rw[<-show y=y' from Za h];exact hy
    cases hv:bJ (gD (rs++new)) (Sum.inr y)with
    | some v=>
      rw[if_neg ∅];have%[q,hq,e1|_]:=iw hv;have%[n1|n2]:=a1 new (λ_ h=>h) (by rw[<-e1];exact Xv %[q,hq|rfl]);exact k4 _ _ %[%[_|rfl],N,O,new,ab,I,B,G,n1|n2]
    | none=>
      rw[if_pos (by rfl)];have hy:y∉(rs++new).map (·.1):=λh=>by
       have%[q,hq|c]:=Xu h;have:=lQ hq;rw[c,hv]at this;exact this rfl
      have ln:=B.len;have nl:new.length<=98:=by rw[Z9]at ln;lia
      refine%[_,SqT.of J,_,rfl,_,iM.k (k:=Sum.inr y) I (by unfold gD;rw[Z6];exact aA ⋯)|?_];rw[d8 _ hv];have e1:gD (rs++new) ++[(Sum.inr y,V.ref t.1)]=gD (rs++(new++[(y,t.1,[n,y,z])])):=by
       unfold gD;rw[<-Ze,Zd (l₂:=[_])];rfl
      rw[e1];have u1:∀c o,c≠d->U c=some o->upd U d (.dK (gD (rs++(new++[(y,t.1,[n,y,z])])))) c=some o:=λc o h e=>(am h)▸e
      have a3:=u1 _ _ gd ab;have R:=B.snoc (p:=n) (y:=y) (z:=z) (a:=t.1) (et▸a0) hy;rw[Ze]at R;have%[n1|n2]:=a1 (new++[(y,t.1,[n,y,z])]) (λx C=>by rw[<-Ze,Zd];exact Yx _ C) (by rw[<-Ze,Zd];exact Yy _ Zm);refine%[.inl %[_|SqL.of a3],_,SqT.of (u1 _ _ (λc=>by rw[c,I]at J;cases J) J),_,rfl,_,a3,by rw[Z6,Z6];exact aA ⋯|k4 _ _ %[%[_|rfl],λc o h e=>?_,(am ag).trans (u1 _ _ ad O),_,?_,(am gd.symm).trans aa,R,?_,n1|n2]]
      .rw[am (ay e fg)];exact u1 _ _ h (N _ _ h e)
      .rw[aa,Zd,Zd];rfl
      .intro r hr;rcases Xs hr with q|q
       .exact G r q
       .rw[Xt q];exact%[n,Z8 hn|rfl]
   .intro Y U %[%[o5|rfl],N,O,new,ab,I,B,G,u|ac];rw[tm,Zn (Zi _)]at ac;refine k3 _ _ %[%[_,_|rfl],N,new,ab,I,B,G|λx C y ⟨z,hy⟩=>?_];rw[tk]at C;rcases Xs C with q|q
    .exact u x q y %[z|hy]
    .rw[Xt q]at hy;have%[t,ht|et]:=Xu hy;exact ac t (as▸List.mem_filter.mpr %[ht|by rw[et];simp]) y (by rw[et];rfl)
  .intro Y H' %[%[o4,o5|rfl],sm,new,hg,l,L,ae|m];rw[Fm,Zn (Zi _)]at m;refine k2 _ _ ?_;lk;exact kk g H' new sm fg hg l L ae m
def q0{b:Bool}(h: ¬ (not b)=true):b=true:=by
 cases b
 .exact absurd rfl h
 .rfl
def lR{rs:Gs Str}{y:Str}(h:y∈rs.map (·.1)):∃r∈rs,r.1=y/\bJ (gD rs) (Sum.inr y)=some (.ref r.2.1):=by
 cases b:bJ (gD rs) _ with
 | none=>
   have%[q,a|c]:=Xu h;have:=lQ a;rw[c,b]at this;exact(this rfl).elim
 | some v=>
   have%[q,a,e|rfl]:=iw b;exact%[q,a,e|rfl]
inductive BT (vs:ZM) (H:Hp) (Q:VK) (E0:XK):Prop
 | mk (d st goal ns F ss rs dd k):vs=[.ref d,.str st,.str goal]->H d=some (.dK (gD rs))->ReB ss rs->Lev (ss.map (·.2)) st rs dd k F->k<=100->dE H ns ss->goal∈rs.map (·.1)->(∀l H' (ws:List _),ah H H'->H l=none->H' l=some (.lst (ws.map λt=>V.ref t.1))->(∀t∈ws,t∈ss)->Wal (ws.map (·.2)) st goal->ws.length=dd goal->Q (.ref l) H')->BT vs H Q E0
def BU(T:Txt K mg):↥1 "way_to" ["reached","start","goal"] BT:=by
 refine T.aL.cal qK (λH vs Q E h=>?_)
 .have%[d,st,a,ns,F,ss,rs,i,k,rfl,hd,C,l,hk,G,n|kk]:=h;refine%[rfl|λf ab A outer s j=>?_];refine%[_,%["JCH3QAi02BC<L!WT3.E}1DUea3Ai0WT3.E}BDI]h3",qK.nd|j]|?_]
  show bd _ _ _ [!d,-st,-a,none] H;refine ap λD1 k1 _=>?_
  lk;have%[r,I,e1|hv]:=lR n;have get:=cB.k (k:=Sum.inr a) hd;rw[hv]at get;refine%[_,get,#[1]|λb fw=>k1 _ _ (ap λD2 k2 _=>?_)];have s1:=ah.upd (o:= .lst [V.ref r.2.1]) fw;have gw:upd H b (.lst [V.ref r.2.1]) b=some (.lst (([]:ZG).reverse.map (λt=>V.ref t.1) ++[V.ref r.2.1])):=aa
  generalize upd H b (.lst [V.ref r.2.1])=H1 at s1 gw
  refine⟨λm σ u=>σ=[!d,-st,-a,!b]/\ah H u/\∃(us:ZG) (r:Str×Addr×ZB),r∈rs/\m=i r.1/\u b=some (.lst (us.reverse.map (λt=>V.ref t.1) ++[.ref r.2.1]))/\(∀t∈us,t∈ss)/\Wal (us.map (·.2)) r.1 a/\us.length+m=i a,%[_,rfl,s1,[],r,I,rfl,gw,λt h=>(nomatch h),e1|by rw[e1];simp],?_⟩;intro m σ H2 %[rfl,v,us,r,j,rfl,hw,y,B|hl];have%[ac,p,z,J|hp]:=l.by_ r j;have e:=(C.sub r j).1;have g:=v _ _ (G _ e).1;rw[J]at g;have gl:=l.le a n;lk;refine%[_,SqL.of hw,_,j8 _ _,_,rfl,_,SqT.of g,_,rfl,rfl|bE (λh=>?_) λh=>?_]
  .have h:p≠st:=by simpa using h
   have%[_,L|ae]:=hp.resolve_left λc=>h c.1
   have%[r',M,N|O]:=lR L;have get:=cB.k (k:=Sum.inr p) (v _ _ hd);rw[O]at get;refine⟨λU u=>∃Y,Y<i r.1/\U=[!d,-st,-a,!b]/\ah H u/\∃(us:ZG) (r:Str×Addr×ZB),r∈rs/\Y=i r.1/\u b=some _/\(∀t∈us,t∈ss)/\Wal (us.map (·.2)) r.1 a/\us.length+Y=i a,λ_ _ h=>h,.inl %[_|SqL.of hw],_,SqL.of hw,_,j8 _ _,_,rfl,_,SqT.of g,_,rfl,_,get,_,hw,by rw[Z9,Z6,List.length_reverse,Yo];exact aA ⋯,_,?_,rfl,ah.set v fw,r.2::us,r',M,rfl,?_,?_,?_,?_⟩
   .rw[N];lia
   .rw[aa,List.reverse_cons,Zd];rfl
   .intro t ht;rcases mem_cons.mp ht with q|q
    .exact q▸e
    .exact y t q
   .exact%[r.1,z,J.trans (by rw[N])|B]
   .rw[Zr,N];lia
  .have h:p=st:=by simpa using h
   refine k2 _ _ ?_;lk;refine%[_,hw|λq fq=>kk q _ (r.2::us) (v.trans (ah.upd fq)) (v.free fq) ?_ (λt ht=>?_) %[r.1,z,J.trans (by rw[h])|B] (by rw[Zr];lia)]
   .rw[aa,List.reverse_append,<-List.map_reverse,List.reverse_reverse];rfl
   .rcases mem_cons.mp ht with q|q
    .exact q▸e
    .exact y t q
inductive uQ (vs:ZM) (H:Hp) (Q:VK) (E0:XK):Prop
 | mk (b st goal ns ss):vs=[.ref b,.str st,.str goal]->GrB H b ss 0->dE H ns ss->ss.length<=98->(∀H',ah H H'-> ¬ Rch (ss.map (·.2)) st goal->Q .non H')->(∀l H' (ws:List _),ah H H'->H l=none->H' l=some (.lst (ws.map λt=>V.ref t.1))->(∀t∈ws,t∈ss)->Sho (ss.map (·.2)) st goal (ws.map (·.2))->ws.length<=100->Q (.ref l) H')->uQ vs H Q E0
abbrev He(H:Hp)(b d:Addr)(st a:Str)(ss:ZG)(m:Nat)(f:L2.St)(c:Hp):Prop:=∃e F rs g k,f=[!b,-st,-a,!d,!e]/\ah H c/\c e=some (.lst (F.map V.str))/\c d=some (.dK (gD rs))/\ReB ss rs/\Lev (ss.map (·.2)) st rs g k F/\k<=rs.length+1/\(F≠[]->k<=rs.length)/\m=2*(98-rs.length) +F.length.min 1
def oW(T:Txt K mg):↥2 "shortest_way" ["beneath","start","goal"] uQ:=by
 refine T.aJ.cal cZ (λH vs Q E h=>?_)
 .have%[b,st,i,ns,ss,rfl,hb,G,ac,kn|ky]:=h;refine%[rfl|λf as A outer s C=>?_];refine%[_,%["JCH3wCH4QA1BC<ZxL;bcA4BE(,23DH4G]iA0A4A3BCN,23DI[ODIG]jA3A1A2B",cZ.nd|C]|?_]
  show bd _ _ _ [!b,-st,-i,none,none] H;refine ap λD1 k1 _=>?_
  lk;intro d fd;refine k1 _ _ (ap λD2 k2 _=>?_);have ae:b≠d:=λc=>by
   have%[a0,N|_]:=hb;rw[c,fd]at N;cases N
  have s1:=ah.upd (o:= .dK []) fd;have B:upd H d (.dK []) d=some (.dK (gD ([]:Gs Str))):=aa
  generalize upd H d (.dK [])=H1 at s1 B
  lk;refine%[#[1]|λe fe=>k2 _ _ (ap λD3 k3 _=>?_)];have s2:=ah.upd (o:= .lst [V.str st]) fe;have O:upd H1 e (.lst [V.str st]) e=some (.lst ([st].map V.str)):=aa;have B:=s2 _ _ B;have U:=s1.trans s2
  generalize upd H1 e (.lst [V.str st])=H2 at U O B
  refine%[He H b d st i ss,%[_,e,[st],[],_,_,rfl,U,O,B,%[X9|λ_ h=>(nomatch h)],.nil,by simp,λ_=>Zi _|rfl]|?_];intro m σ H3 %[e,F,rs,dd,k,rfl,I,O,B,J,j,hk,ag|rfl];have fm:(F.map V.str).length=F.length:=Z6 _;have get:=cB.k (k:=Sum.inr i) B;have rl:=J.len;have L:i∈rs.map (·.1)↔(bJ (gD rs) (Sum.inr i)).isSome=true:=by
   refine%[λh=>?_|λh=>?_]
   .have%[r,_,_|e]:=lR h;rw[e];rfl
   .have%[v|hv]:=isSome_iff_exists.mp h;have%[q,hq,c|_]:=iw hv;exact c▸Xv %[q,hq|rfl]
  lk;have fin:(i∉rs.map (·.1)->F=[])->D3.nx [!b,-st,-i,!d,!e] H3:=λh=>by
   refine k3 _ _ (ap λD4 k4 r4=>?_);lk;refine%[_,get|bE (λq=>?_) λq=>?_]
   .have q:i∉rs.map (·.1):=λc=>by rw[L.mp c]at q;cases q
    refine r4 _ _ (kn H3 I λr=>q ?_);have%[n|hn]:=r.dst;rw[h q]at j;exact j.stop hn
   .have q:i∈rs.map (·.1):=L.mpr (q0 q);refine k4 _ _ ?_;lk;refine%[d,st,i,ns,F,ss,rs,dd,k,rfl,B,J,j,⋯,G.up I,q|λl H' ws s' fl hl Y ai wl=>ky l H' ws (I.trans s') (I.free fl) hl Y %[λk hk=>?_,ai,?_|λn hn=>?_] (by rw[wl];have:=j.le _ q;lia)]
    .have%[t,ht|rfl]:=Xu hk;exact Xv %[t,Y t ht|rfl]
    .rw[Z6,wl];exact(j.dst q).1
    .rw[Z6,wl];exact j.min q hn
  refine%[_,.inl %[_,SqL.of O|rfl]|bE (λh=>?_) λh=>fin λ_=>?_]
  .have h:0<F.length:=by
    rw[fm]at h;have:=Zo h
    lia
   refine%[_,get|bE (λq=>⟨λaj H'=>∃m',m'<2*(98-rs.length) +F.length.min 1/\He H b d st i ss m' aj H',λ_ _ h=>h,b,e,d,ns,F,ss,rs,rfl,ae,hb.up I,G.up I,ac,O,B,J,λg H4 new sx fg hg al u an M=>?_⟩) λq=>fin λc=>absurd (L.mpr (q0 q)) c];have ln:=u.len;rw[Z9]at ln;have ab:F.length.min 1=1:=Nat.min_eq_right h;have kF:=ag λc=>by rw[c]at h;cases h
   refine%[_,?_,g,new.map (·.1),rs++new,_,_,rfl,(λc o ec=>sx c o (λz=>by rw[z,fd]at ec;cases ec) (I _ _ ec)),hg,al,u,j.step u.nd (λr C=>?_) M,?_,λnn=>?_|rfl]
   .rw[ab,Z9,Z6];cases new with
    | nil=>simp
    | cons a r=>
      rw[Zr]at ln ⊢;have:(r.length+1).min 1<=1:=Nat.min_le_right _ _
      lia
   .have%[N|h2]:=u.sub r (Yy _ C);have%[p,hp|h3]:=an r C;have%[x,y,z,e|_]:=(G r.2 N).2;rw[e]at h2 h3;exact%[Xv %[_,N|rfl],p,z,hp|by rw[e,show x=p from Za h3,show y=r.1 from Za h2]]
   .rw[Z9];lia
   .cases new with
    | nil=>exact absurd rfl nn
    | cons a r=>rw[Z9,Zr];lia
  .cases F with
   | nil=>rfl
   | cons x F=>exact absurd (Zf (by rw[fm,Zr];lia)) h
abbrev VD(a:ZB)(g:Str->V):List (Key×V):=a.map λz=>(Sum.inr z,g z)
def fY:∀{a:ZB},z∈a->bJ (VD a g) (Sum.inr z)=some (g z)
 | x::a,h=>by
   by_cases e:x=z
   .subst e;exact eV rfl
   .rw[show VD _ g=(Sum.inr x,g x)::VD a g from rfl,dv (λq=>e (Sum.inr.inj q))];exact fY ((mem_cons.mp h).resolve_left λq=>e q.symm)
def eK:∀{a:ZB},z∉a->bJ (VD a g) (Sum.inr z)=none
 |[],_=>rfl
 | x::a,h=>by
   rw[Yz,not_or]at h;rw[show VD _ g=(Sum.inr x,g x)::VD a g from rfl,dv (λq=>h.1 (Sum.inr.inj q).symm)];exact eK h.2
def wA(h:z∈a):cP (VD a g) (Sum.inr z) v=VD a (λx=>if x=z then v else g x):=by
 unfold cP;rw[if_pos (by rw[iQ,fY h];rfl)];unfold VD;rw[Yv];refine Yt λx _=>?_
 show(if(Sum.inr x)=Sum.inr z then((Sum.inr x),v)else(Sum.inr x,g x))=(Sum.inr x,if x=z then v else g x)
 by_cases e:x=z
 .rw[if_pos (congrArg _ e),if_pos e]
 .rw[if_neg (λq=>e (Sum.inr.inj q)),if_neg e]
abbrev cnt(ss:ZG)(L:ZB)(n:Str):Nat:=ss.countP λt=>decide (t.2[0]? =some n)&&t.2[1]?.all λy=>decide (y∉L)
def DF(ss:List _)(n:Str):cnt ss [] n=(ss.filter λt=>decide (t.2[0]? =some n)).length:=by
 unfold cnt;rw[<-List.countP_eq_length_filter]
 simp_all
def BV(h:cnt ss L m=0)(e:Ed (ss.map (·.2)) m y):y∈L:=by
 have%[z|a]:=e;have%[t,b|c]:=Xu a;have:=List.countP_eq_zero.mp h t b
 simp_all
def uR(b:m∉L):∀ss:ZG,cnt ss L n=cnt ss (L++[m]) n+(ss.filter λt=>decide (t.2[1]? =some m)).countP λt=>decide (t.2[0]? =some n)
 |[]=>rfl
 | t::ss=>by
   have c:=uR (n:=n) b ss;unfold cnt at c ⊢;rw[countP_cons,countP_cons,c];cases d:t.2[1]? with
   | none=>rw[Y3 ⋯];simp only[Option.all_none];lia
   | some y=>
     by_cases e:y=m
     .subst e;rw[Y4 (by rw[d];simp),countP_cons];by_cases a:t.2[0]? =some n
      .simp[a,b];lia
      .simp[a]
     .rw[Y3 (by rw[d];simpa using e)];by_cases a:t.2[0]? =some n
      .by_cases f:y∈L
       .simp[f]
       .simp[a,f,e];lia
      .simp[a]
structure Hf (ss:ZG) (ns L R:ZB):Prop where
 nd:(L++R).Nodup
 mem:∀x,x∈L++R↔x∈ns/\cnt ss L x=0
 ord:∀i x,L[i]? =some x->∀y,Ed (ss.map (·.2)) x y->y∈L.take i
abbrev Hg(e:Hp)(l m b a w d ld:Addr)(ns:ZB)(ss:ZG)(k:Nat)(f:L2.St)(c:Hp):Prop:=∃g h i L R,f=[!l,!m,!b,!a,!w,g,!d,!ld,h,i]/\ah e c/\c w=some (.dK (VD ns λn=> .int (cnt ss L n)))/\c d=some (.lst (R.map V.str))/\c ld=some (.lst (L.map V.str))/\Hf ss ns L R/\k=ns.length-L.length
inductive xw (vs:ZM) (H:Hp) (Q:VK) (E0:XK):Prop
 | mk (l m ns ss):vs=[.ref l,.ref m]->H l=some (.lst (ns.map V.str))->ns.Nodup->ns.length<=80->H m=some (.lst (ss.map λt=>V.ref t.1))->dE H ns ss->ss.length<=98->(∀r H' (L:ZB),ah H H'->H' r=some (.lst (L.map V.str))->L.Nodup->(∀x∈L,x∈ns)->(∀i x,L[i]? =some x->∀y,Ed (ss.map (·.2)) x y->y∈L.take i)->(∀x∈ns,x∉L->∃y,Ed (ss.map (·.2)) x y/\y∈ns/\y∉L)->Q (.ref r) H')->xw vs H Q E0
def je(T:Txt K mg):↥3 "laid_in_turn" ["names","found"] xw:=by
 refine T.aI.cal a8 (λH vs Q E h=>?_)
 .have%[l,m,ns,ss,rfl,hl,nn,nl,hm,aj,b5|kk]:=h;refine%[rfl|λf c5 A outer s hr=>?_];have nm:(ns.map V.str).length=ns.length:=Z6 _;refine%[_,%["JCH2G~iA1BCH3G]kA1BC=4klwCSP0K5DubcA~O~U2A5AQBBBY45C^6lkd?1P0X0?2~CLniY10E0CH7QBC<L;bcA6BECH8~Y]lA6BCU]m]n6A8BCUea7A8BDSP~O~U3A8AQBBK9CuF~HiY4W9}EY4W9}DNLniY4W9}EDUea6AW9}BODI7",a8.nd,(show bM (ao fi) ["names","found","beneath","above","waits","name","ready","laid","least","link"] _ ["name","waits"] [(1,4)]=true from by decide +kernel),(show(["name","waits"]:ZB).Nodup from by decide +kernel)|hr]|?_]
  show bd _ _ _ [!l,!m,none,none,none,none,none,none,none,none] H;refine ap λD1 k1 _=>?_
  lk;refine%[m,ns,ss,rfl,hm,aj,b5|λb H1 s1 fb hb=>k1 _ _ (ap λD2 k2 _=>?_)];lk;refine%[m,ns,ss,rfl,s1 _ _ hm,aj.up s1,b5|λa H2 s2 fa ha=>k2 _ _ (ap λD3 k3 _=>?_)];have ac:=s1.trans s2;have hb:=hb.up s2;lk;intro w fw;refine k3 _ _ (ap λD4 k4 _=>az λa7 hK=>?_);have s3:=ah.upd (o:= .dK []) fw;have gw:upd H2 w (.dK []) w=some (.dK (VD (ns.take 0) λn=> .int (cnt ss [] n))):=aa
  generalize upd H2 w (.dK [])=H3 at s3 gw
  have cs:=ac.trans s3;lk;refine .inl %[%[_|SqL.of (cs _ _ hl)]|hK _ _ ?_];have ct:b≠w:=λc=>by
   have%[ae,h1|_]:=hb;rw[c,fw]at h1;cases h1
  have cx:a≠w:=λc=>by
   have%[ae,h1|_]:=ha;rw[c,fw]at h1;cases h1
  have b6:∀xs,H2 w≠some (.lst xs):=λxs c=>by rw[fw]at c;cases c
  refine aZ (xs:=ns.map V.str) (λi N r=>(∃o5,N=[!l,!m,!b,!a,!w,o5,none,none,none,none])/\ah H2 r/\r w=some (.dK (VD (ns.take i) λn=> .int (cnt ss [] n))))
   %[%[_|rfl],s3|gw] (λi N r _ h=>SqL.of (h.2.1 _ _ (ac _ _ hl))) ?_ ?_
  .intro i x N r O %[%[o5|rfl],sm|hw];rw[Zl]at O;have%[n,hn|rfl]:=map_eq_some_iff.mp O;have i1:i<ns.length:=(Xr hn).1;show l7 _ _ _ _ [!l,!m,!b,!a,!w,-n,none,none,none,none] r;refine aB λD5 k5 _=>?_
   lk;refine%[.inr (.inr (.inl (.inl %[_|sm _ _ hb.choose_spec.1]))),#[0]|λp hp=>?_];have%[ae,al,cy,an,U|b7]:=hb.get (dm.of sm) ct b6 hp n;have sp:=ah.upd (o:= .lst []) hp;refine%[Sum.inr n,rfl,ae,cy,_,by rw[an];exact .inl %[_,SqL.of U|rfl],_,iM.k (k:=Sum.inr n) (sp _ _ hw) (by unfold VD;rw[Z6,Yp];exact aA ⋯)|k5 _ _ %[%[_|rfl],ah.set (sm.trans sp) fw|?_]];have zn:n∉ns.take i:=λhm=>by
    have h:=nn;rw[<-Xg i ns,X7]at h;exact h.2.2 n hm n (Z8 (i:=0) (by rw[Yc];exact hn)) rfl
   rw[aa,d8 _ (eK zn),Z6,<-DF,Xf,hn];unfold VD;rw[Zd];rfl
  .intro N r %[%[o5|rfl],sm|hw];rw[nm,Zn (Zi _)]at hw;refine k4 _ _ (ap λD5 k5 _=>aI λa7 hK=>?_);lk;have as:=sm _ _ (ac _ _ hl);refine .inl %[%[_|SqL.of as]|hK _ _ λI ag=>?_];refine bw (J:=Itl K l) (n:=ns.length) (D:=I) (λj vs N H3=>(∃o1,N=[o1,!w])/\ah r H3/\H3 I=some (.lst vs)/\vs=((ns.take j).filter λn=>decide (cnt ss [] n=0)).map V.str)
    %[%[none|rfl],ah.upd ag,aa|rfl] (λj _ _ H3 hj bc=>%[_,V.str ns[j],SqL.of (bc.2.1 _ _ as)|by simp[hj]]) (λ_ _ H3 bc=>%[_,SqL.of (bc.2.1 _ _ as)|by simp]) ?_ ?_
   .intro j vs N H3 hj %[%[o1|rfl],B,b9|hv] x H4 %[e2|O];subst e2;have ca:=O _ (SqL.of (B _ _ as));rw[Zl,Z4 hj]at ca;obtain rfl:x=V.str ns[j]:=(Za ca).symm;have get:=cB.k (k:=Sum.inr ns[j]) (B _ _ hw);rw[fY (Yg hj)]at get;lk;refine%[_,get,rfl|bE (λh=>?_) λh=>?_]
    .have h:cnt ss [] ns[j]=0:=by simpa using h
     refine CK.mk hj b9 (by rw[hv,Z6];have:=Ym (λn=>decide (cnt ss [] n=0)) (ns.take j);rw[Yp]at this;exact aA ⋯) %[%[_|rfl],ah.set B ag,aa|?_];rw[hv,Xf,Z4 hj,Y2,Zd];show _=_++(List.filter _ [ns[j]]).map V.str;rw[Y4 (by simpa using h)];rfl
    .have h:cnt ss [] ns[j]≠0:=by simpa using h
     refine CN.mk hj %[%[_|rfl],B,b9|?_];rw[hv,Xf,Z4 hj,Y2,Zd];show _=_++(List.filter _ [ns[j]]).map V.str;rw[Y3 (by simpa using h)];simp
   intro vs N H3 %[_,B,a0|hv];rw[Zn (Zi _)]at hv;rw[hv]at a0;refine k5 _ _ (ap λD6 k6 _=>?_);have Y:=B _ _ hw;have bf:=sm.trans B;have bl:w≠I:=λc=>by rw[<-c,hw]at ag;cases ag
   have bm:=sm.free ag;lk;refine%[#[0]|λld fld=>k6 _ _ (ap λD7 k7 _=>?_)];have s4:=ah.upd (o:= .lst []) fld;have bn:upd H3 ld (.lst []) ld=some (.lst (([]:ZB).map V.str)):=aa;have cb:w≠ld:=λc=>by rw[<-c,Y]at fld;cases fld
   have bp:I≠ld:=λc=>by rw[<-c,a0]at fld;cases fld
   have bt:=s4 _ _ Y;have b0:=s4 _ _ a0;have b1:=bf.trans s4;have fld:=bf.free fld
   generalize upd H3 ld (.lst [])=H4 at s4 bn bt b0 b1
   refine%[Hg H2 l m b a w I ld ns ss,%[_,o5,none,none,[],_,rfl,b1,bt,b0,bn,%[nn.filter _,λx=>by simp|λi x e=>by simp at e]|rfl]|?_];clear b1 bt b0 bn a0 Y hw hv B bf sm;intro k N H5 %[o5,o8,o9,L,R,rfl,sm,hw,hR,hL,u|rfl];have Rm:(R.map V.str).length=R.length:=Z6 _;have c7:L.length+R.length<=ns.length:=by
    rw[<-Z9];exact STab.nodup_sub u.nd λx O=>((u.mem x).mp O).1
   lk;refine%[R.length,.inl %[_,SqL.of hR|Rm.symm]|bE (λh=>?_) λh=>?_]
   .have h:0<R.length:=by have:=Zo h;lia
    refine⟨λcF r=>∃m',m'<ns.length-L.length/\Hg H2 l m b a w I ld ns ss m' cF r,λ_ _ h=>h,R,SqL.of hR,h,λx O _=>%[.inl %[_|SqL.of hR],R,hR,O|λR1 pm=>?_]⟩;have u1:=ah.set (o:= .lst (R1.map V.str)) sm bm;have b2:upd H5 I (.lst (R1.map V.str)) I=_:=aa;have b3:upd H5 I (.lst (R1.map V.str)) w=_:=(am bl).trans hw;have a1:upd H5 I (.lst (R1.map V.str)) ld=_:=(am bp.symm).trans hL
    generalize upd H5 I (.lst (R1.map V.str))=H6 at u1 b2 b3 a1 ⊢
    refine%[.inl %[_|SqL.of a1],_,a1,by rw[Z6];exact aA ⋯|aB λda cM _=>az λa7 hK=>?_];have u2:=ah.set (o:= .lst (L.map V.str++[.str x])) u1 fld;have a2:upd H6 ld (.lst (L.map V.str++[.str x])) ld=some (.lst ((L++[x]).map V.str)):=by rw[aa,Zd];rfl
    have a3:upd H6 ld (.lst (L.map V.str++[.str x])) w=_:=(am cb).trans b3;have a4:upd H6 ld (.lst (L.map V.str++[.str x])) I=_:=(am bp).trans b2
    generalize upd H6 ld (.lst (L.map V.str++[.str x]))=H7 at u2 a2 a3 a4 ⊢
    lk;refine%[.inr (.inr (.inl (.inl %[_|u2 _ _ ha.choose_spec.1]))),#[0]|λp hp=>?_];have%[ae,al,an,c0,U|b7]:=ha.get (dm.of u2) cx b6 hp x;have b4:∀{c:Addr} {o:HO},H7 c=some o->H2 c=none->al≠c:=λ{c o} h1 h2=>by
     rcases b7 with rfl|⟨o',ho⟩
     .exact λz=>by rw[z,h1]at hp;cases hp
     .exact λz=>by rw[z,h2]at ho;cases ho
    have c1:=b4 a3 fw;have c2:=b4 a4 bm;have all:=b4 a2 fld;have sp:=ah.upd (o:= .lst []) hp;have Y:=sp _ _ a3;have cd:=sp _ _ a4;have ch:=sp _ _ a2;have u3:=u2.trans sp
    generalize upd H7 p (.lst [])=H8 at an U Y cd ch u3 ⊢
    clear u1 u2 a3 a4 a2 b3 b2 a1 hp sp
    generalize cl:(ss.filter λt=>decide (t.2[1]? =some x))=ts at U
    have tm:(ts.map λt=>V.ref t.1).length=ts.length:=Z6 _;have xL:x∉L:=λc=>(nodup_append.mp u.nd).2.2 x c x O rfl
    have pr:(L++[x] ++R1).Perm (L++R):=by
     rw[Ze];exact pm.append_left L
    have f0:∀n,cnt ss L n=cnt ss (L++[x]) n+(ts.drop 0).countP λt=>decide (t.2[0]? =some n):=λn=>by rw[drop_zero,<-cl];exact uR xL ss
    have c3:∀t∈ts,∃n z,t.2=[n,x,z]/\n∈ns/\H t.1=some (.tup ([n,x,z].map V.str)):=λt ht=>by
     rw[<-cl]at ht;have%[h1|h2]:=List.mem_filter.mp ht;have%[h3,n,y,z,e,hn|_]:=aj t h1;have h2:=Zo h2;rw[e]at h2 h3;obtain rfl:y=x:=Za h2;exact%[n,z,e,hn|h3]
    refine%[Sum.inr x,rfl,ae,an|.inl %[al,c0,%[_|SqL.of U]|hK _ _ ?_]];refine aZ (xs:=ts.map λt=>V.ref t.1) (λj N r=>(∃o9,N=[!l,!m,!b,!a,!w,o5,!I,!ld,-x,o9])/\ah H2 r/\r al=some (.lst (ts.map λt=>V.ref t.1))/\r w=some (.dK (VD ns λn=> .int ((cnt ss (L++[x]) n+(ts.drop j).countP λt=>decide (t.2[0]? =some n):Nat):Int)))/\r ld=some (.lst ((L++[x]).map V.str))/\∃Rj:ZB,r I=some (.lst (Rj.map V.str))/\(L++[x] ++Rj).Nodup/\∀y,y∈L++[x] ++Rj↔y∈ns/\cnt ss (L++[x]) y+((ts.drop j).countP λt=>decide (t.2[0]? =some y))=0)
     %[%[_|rfl],u3,U,by rw[Y];exact congrArg (λg=>some (HO.dK (VD ns g))) (funext λn=>by rw[f0 n]),ch,R1,cd,pr.nodup_iff.mpr u.nd|λy=>by rw[<-f0,pr.mem_iff];exact u.mem y] (λj N r _ h=>SqL.of h.2.2.1) ?_ ?_
    .intro j v N r hv %[%[o9|rfl],a5,C,M,ab,Rj,G,rn|rz];rw[Zl]at hv;have%[t,ht|rfl]:=map_eq_some_iff.mp hv;have jl:=(Xr ht).1;have%[n,z,et,hn|d]:=c3 t (Z8 ht);have d:=a5 _ _ (ac _ _ d);have dr:ts.drop j=t::ts.drop (j+1):=by rw[List.drop_eq_getElem_cons jl,(Xr ht).2]
     rw[dr]at M rz;have get:=cB.k (k:=Sum.inr n) M;rw[fY hn]at get;have dd:=(nodup_append.mp rn)
     have rl:Rj.length<=ns.length:=by
      have:=STab.nodup_sub rn λy hy=>((rz y).mp hy).1
      rw[Z9]at this
      lia
     show bd _ _ _ [!l,!m,!b,!a,!w,o5,!I,!ld,-x,some (.ref t.1)] r;refine ap λde c4 _=>?_
     lk;have one:∀y,(t::ts.drop (j+1)).countP (λt=>decide (t.2[0]? =some y))=((ts.drop (j+1)).countP λt=>decide (t.2[0]? =some y)) +if y=n then 1 else 0:=λy=>by
      rw[countP_cons,et];by_cases c:y=n
      .rw[if_pos c,if_pos (by rw[c];simp)]
      .rw[if_neg c,if_neg (by simpa using λq=>c q.symm)]
     refine%[_,SqT.of d,_,rfl,_,get,_,rfl,_,SqT.of d,_,rfl,_,iM.k (k:=Sum.inr n) M (by unfold VD;rw[Z6];exact aA ⋯)|c4 _ _ (aB λdk co _=>?_)];rw[wA hn];have e1:(λy=>if y=n then V.int (((cnt ss (L++[x]) n+(t::ts.drop (j+1)).countP λt=>decide (t.2[0]? =some n):Nat):Int) -1)else V.int ((cnt ss (L++[x]) y+(t::ts.drop (j+1)).countP λt=>decide (t.2[0]? =some y):Nat):Int))=λy=>V.int ((cnt ss (L++[x]) y+(ts.drop (j+1)).countP λt=>decide (t.2[0]? =some y):Nat):Int):=funext λy=>by
      rw[one,one];by_cases c:y=n
      .rw[if_pos c,c,if_pos rfl]
       congr 1
       lia
      .rw[if_neg c,if_neg c];rfl
     rw[e1];have v1:=ah.set (o:= .dK (VD ns λy=>V.int ((cnt ss (L++[x]) y+(ts.drop (j+1)).countP λt=>decide (t.2[0]? =some y):Nat):Int))) a5 fw;have a6:upd r w (.dK (VD ns λy=>V.int ((cnt ss (L++[x]) y+(ts.drop (j+1)).countP λt=>decide (t.2[0]? =some y):Nat):Int))) w=_:=aa;have ai:∀c o,c≠w->r c=some o->upd r w (.dK (VD ns λy=>V.int ((cnt ss (L++[x]) y+(ts.drop (j+1)).countP λt=>decide (t.2[0]? =some y):Nat):Int))) c=some o:=λc o h e=>(am h)▸e
     generalize upd r w (.dK (VD ns λy=>V.int ((cnt ss (L++[x]) y+(ts.drop (j+1)).countP λt=>decide (t.2[0]? =some y):Nat):Int)))=H9 at v1 a6 ai
     have d:=ai _ _ (λc=>by rw[c,M]at d;cases d) d;have C:=ai _ _ c1 C;have ab:=ai _ _ cb.symm ab;have G:=ai _ _ bl.symm G;have get:=cB.k (k:=Sum.inr n) a6;rw[fY hn]at get;have cp:n∉L++[x] ++Rj:=λc=>by
      have:=((rz n).mp c).2;rw[one,if_pos rfl]at this
      lia
     have bb:∀y,y≠n->(y∈L++[x] ++Rj↔y∈ns/\cnt ss (L++[x]) y+((ts.drop (j+1)).countP λt=>decide (t.2[0]? =some y))=0):=λy c=>by
      rw[rz y,one,if_neg c];rfl
     lk;refine%[_,SqT.of d,_,rfl,_,get,rfl|bE (λh=>?_) λh=>?_]
     .have h:cnt ss (L++[x]) n+((ts.drop (j+1)).countP λt=>decide (t.2[0]? =some n))=0:=by
       have:=V.int.inj (Zo h)
       lia
      have tr:t.1≠I:=λc=>by rw[c,G]at d;cases d
      refine%[.inl %[_|SqL.of G],_,SqT.of d,_,rfl,_,G,by rw[Z6];exact aA ⋯|co _ _ %[%[_|rfl],ah.set v1 bm,(am c2).trans C,(am bl).trans a6,(am bp.symm).trans ab,Rj++[n],by rw[aa,Zd];rfl,?_|λy=>?_]]
      .rw[<-Ze,X7];exact%[rn,by simp|λa ha b hb c=>cp (by rw[<-Xt hb,<-c];exact ha)]
      .rw[<-Ze,Yw,X3];by_cases c:y=n
       .rw[c];exact%[λ_=>%[hn|h]|λ_=> .inr rfl]
       .rw[<-bb y c];exact%[λq=>q.resolve_right c|.inl]
     .refine co _ _ %[%[_|rfl],v1,C,a6,ab,Rj,G,rn|λy=>?_];by_cases c:y=n
      .rw[c];exact%[λq=>absurd q cp|λq=>absurd (Zf (congrArg (λi:Nat=>V.int i) q.2)) h]
      .exact bb y c
    .intro N r %[%[o9|rfl],a5,C,M,ab,Rj,G,rn|rz];rw[tm,List.drop_length]at M rz;refine cM _ _ %[_,?_,o5,_,o9,L++[x],Rj,rfl,a5,M,G,ab,%[rn,rz|λi y hi y' e=>?_]|rfl]
     .rw[Z9,Yo]
      lia
     .by_cases il:i<L.length
      .rw[Ya il]at hi;rw[Xh (Yi il)];exact u.ord i y hi y' e
      .have ie:i=L.length:=by
        have:=(Xr hi).1;rw[Z9,Yo]at this
        lia
       subst ie;rw[Yb (Zi _),Xe,List.getElem?_cons_zero]at hi;obtain rfl:=Za hi;rw[Xh (Zi _),List.take_length];exact BV ((u.mem x).mp (Yy _ O)).2 e
   .refine k7 _ _ ?_;lk;have R0:R=[]:=by
     cases R with
     | nil=>rfl
     | cons x R=>exact absurd (Zf (by rw[Zr];lia)) h
    subst R0;have mem:=u.mem;have nd:=u.nd;rw[Zz]at mem nd;refine kk ld H5 L (ac.trans sm) hL nd (λx O=>((mem x).mp O).1) u.ord λx O nx=>?_
    have:cnt ss L x≠0:=λc=>nx ((mem x).mpr %[O|c])
    have%[t,ht|q]:=List.countP_pos_iff.mp (Nat.pos_of_ne_zero this);have%[a,b,z,e,_|hb]:=(aj t ht).2;rw[e]at q;simp only[Zx]at q;exact%[b,%[z|by rw[<-(Za (Zo q.1)),<-e];exact Xv %[t,ht|rfl]],hb|Zo q.2]
inductive uS (vs:ZM) (H:Hp) (Q:VK) (E0:XK):Prop
 | mk (l m ns ss):vs=[.ref l,.ref m]->H l=some (.lst (ns.map V.str))->ns.Nodup->ns.length<=80->H m=some (.lst (ss.map λt=>V.ref t.1))->dE H ns ss->ss.length<=98->(∀r H' (us:ZB),ah H H'->H' r=some (.lst (us.map V.str))->(∀x∈ns,Rch (ss.map (·.2)) x x->x∈us)->Q (.ref r) H')->uS vs H Q E0
structure oX (H:Hp) (ks:List ZB) (ss:ZG) (r:Addr) (ws:ZG) (x:Str):Prop where
 at_:H r=some (.lst (ws.map λt=>V.ref t.1))
 sub:∀t∈ws,t∈ss
 sho:Sho ks x x (ws.map (·.2))
 len:ws.length<=100
def oX.up(h:oX H ks ss r ws x)(s:ah H a):oX a ks ss r ws x:=%[s _ _ h.at_,h.sub,h.sho|h.len]
inductive uT (vs:ZM) (H:Hp) (Q:VK) (E0:XK):Prop
 | mk (l m ns ss):vs=[.ref l,.ref m]->H l=some (.lst (ns.map V.str))->ns.Nodup->ns.length<=80->H m=some (.lst (ss.map λt=>V.ref t.1))->dE H ns ss->ss.length<=98->(∀H',ah H H'->(∀x,¬ Rch (ss.map (·.2)) x x)->Q .non H')->(∀r H' ws x,ah H H'->oX H' (ss.map (·.2)) ss r ws x->(∀y n,Dst (ss.map (·.2)) y (n+1) y->ws.length<=n+1)->Q (.ref r) H')->uT vs H Q E0
def sT(T:Txt K mg):↥4 "never_laid" ["names","found"] uS:=by
 refine T.aT.cal pP (λH vs Q E h=>?_)
 .have%[l,m,ns,ss,rfl,j,C,nl,G,e,g|I]:=h;refine%[rfl|λf z A outer s B=>?_];refine%[_,%["JDI*]oAF]p~K~eA0B~K~eAG~,A0A1BBB",0|B]|?_];show j6 _ _ [!l,!m] H;lk;refine%[ns,SqL.of j,⋯|λp J=>?_];have a:=ah.upd (o:=jT w p (aK ns)) J;have n:upd H p (jT w p (aK ns)) p=_:=aa
  generalize upd H p (jT w p (aK ns))=H1 at a n ⊢
  refine%[l,m,ns,ss,rfl,a _ _ j,C,nl,a _ _ G,e.up a,g|λr H2 L t M N O i _=>?_];have Ll:=STab.nodup_sub N O;refine%[r,rfl,L,SqL.of M,⋯|λq U=>?_];have y:=ah.upd (o:=jT w q (aK L)) U;have fl:=STab.nodup_sub (eY ns) λx b=>bx.mp b
  refine%[_,(y _ _ (t _ _ n)),_,aa,⋯|λu Y fu d mn=>%[Y,aa,?_|λv us fv pu _=>?_]]
  .have:=STab.nodup_sub mn λx b=>bx.mp ((d x).mp b).1
   lia
  .refine I v _ us (a.trans (t.trans (y.trans ((ah.upd fu).trans (ah.upd fv))))) aa λx b rx=>?_
   rw[pu.mem_iff,d];exact%[bx.mpr b|λc=>Ds i (bx.mp c) rx]
def uU{ns:ZB}{ss:ZG}(h:∀t∈ss,dI ns t.2){x y:Str}(r:Rch (ss.map (·.2)) x y):x∈ns:=by
 induction r with
 | one e=>
   have%[z|f]:=e;have%[t,g|d]:=Xu f;have%[a,b,c,e,i|_]:=h t g;rw[e]at d;exact((List.cons.inj d).1)▸i
 | more _ _ j=>exact j
def iK(T:Txt K mg):↥5 "shortest_ring" ["names","found"] uT:=by
 refine T.aS.cal bL (λH vs Q E h=>?_)
 .have%[l,m,ns,ss,rfl,hl,nn,nl,hm,c,u,kn|ky]:=h;refine%[rfl|λf ae A outer s hr=>?_];refine%[_,%["JCH2G~iA1BCH3[CSPG]qA0A1BK4CH5G]rA2A4A4BDNZxL~V5[(ZvL]s3[$L~AbcA5BbcA3BDH35ODI3",bL.nd|hr]|?_]
  show bd _ _ _ [!l,!m,none,none,none,none] H;refine ap λD1 k1 _=>?_
  lk;refine%[m,ns,ss,rfl,hm,c,u|λb H1 O fb hb=>k1 _ _ (ap λD2 k2 _=>?_)];lk;refine k2 _ _ (ap λD3 k3 _=>az λac hK=>?_);lk;refine%[l,m,ns,ss,rfl,O _ _ hl,nn,nl,O _ _ hm,c.up O,u|λr H2 us s2 I J=> .inl %[r,rfl,%[_|SqL.of I]|hK _ _ ?_]];have z:=O.trans s2;refine aZ (xs:=us.map V.str) (λi U g=>(∃v o4 Y,U=[!l,!m,!b,some v,o4,Y]/\((v= .non/\∀x∈us.take i,¬ Rch (ss.map (·.2)) x x)\/∃q ws x,v= .ref q/\oX g (ss.map (·.2)) ss q ws x/\∀y∈us.take i,∀n,Dst (ss.map (·.2)) y (n+1) y->ws.length<=n+1))/\ah H2 g)
   %[%[_,_,_,rfl|.inl %[rfl|λx B=>(nomatch B)]]|λ_ _ e=>e] (λi U g _ h=>SqL.of (h.2 _ _ I)) ?_ ?_
  .intro i x U g B %[%[v,o4,Y,rfl|L]|j];rw[Zl]at B;have%[n,hn|rfl]:=map_eq_some_iff.mp B;have tk:us.take (i+1)=us.take i++[n]:=by rw[Xf,hn];rfl
   show bd _ _ _ [!l,!m,!b,some v,-n,Y] g;refine ap λD4 k4 _=>?_
   lk;refine%[b,n,n,ns,ss,rfl,hb.up (s2.trans j),c.up (z.trans j),u,λH3 C nr=>k4 _ _ (aB λD5 k5 _=>?_)|λq H3 ws C _ G sub rr rl=>k4 _ _ (aB λD5 k5 _=>?_)]
   .lk;rw[if_neg ∅];refine k5 _ _ %[%[v,_,_,rfl|L.imp (λh=>%[h.1|λx B=>?_]) λ⟨q,ws,x,e,G,o⟩=>%[q,ws,x,e,G.up C|λy a m d=>?_]]|j.trans C]
    .rw[tk]at B;rcases Xs B with h'|h'
     .exact h.2 x h'
     .rw[Xt h'];exact nr
    .rw[tk]at a;rcases Xs a with h'|h'
     .exact o y h' m d
     .rw[Xt h']at d;exact(nr d.rch).elim
   .lk;rw[if_pos ∅];have wl:∀zs:ZG,(zs.map λt=>V.ref t.1).length=zs.length:=λzs=>Z6 _
    have p:=λm d=>by
     have:=rr.min m d;rwa[Z6]at this
    have put:(∀y∈us.take i,∀m,Dst (ss.map (·.2)) y (m+1) y->ws.length<=m+1)->D5.nx [!l,!m,!b,!q,-n,!q] H3:=λo=>k5 _ _ ⟨%[_,_,_,rfl|.inr ⟨q,ws,n,rfl,%[G,sub,rr|rl],λy a m d=>by
     rw[tk]at a;rcases Xs a with h'|h'
     .exact o y h' m d
     .rw[Xt h']at d;exact p m d⟩],j.trans C⟩
    rcases L with⟨rfl,ab⟩|⟨q',M,x',rfl,N,o⟩
    .rw[if_pos ∅];exact put λy a m d=>(ab y a d.rch).elim
    .rw[if_neg ∅];refine%[_,.inl %[_,SqL.of G|(wl ws).symm],_,.inl %[_,SqL.of (C _ _ N.at_)|(wl M).symm]|bE (λlt=>put λy a m d=>?_) λlt=>k5 _ _ %[%[_,_,_,rfl|.inr %[q',M,x',rfl,N.up C|λy a m d=>?_]]|j.trans C]]
     .have:=o y a m d;have:=Zo lt
      lia
     .rw[tk]at a;rcases Xs a with h'|h'
      .exact o y h' m d
      .rw[Xt h']at d;have:=p m d
       lia
  .intro U g %[%[v,o4,Y,rfl|L]|j];rw[(Z6 _),Zn (Zi _)]at L;refine k3 _ _ ?_;lk;rcases L with⟨rfl,h⟩|⟨q,ws,x,rfl,G,o⟩
   .exact kn g (z.trans j) λx rx=>h x (J x (uU (λt ht=>(c t ht).2) rx) rx) rx
   .exact ky q g ws x (z.trans j) G λy n d=>o y (J y (uU (λt ht=>(c t ht).2) d.rch) d.rch) n d
def iz{S:Str->Str->Prop}(h:bW S z m)(c:dH S z x):bW S x m:=%[c.symm.trans h.1|λy d=>h.2 y (c.trans d)]
def fP(h:df H c qs)(a b:Str)(s:bv qs a b):a∈c/\b∈c:=by
 have%[q,d|e]:=s;rcases(h q d).2 with⟨wd,x,y,f,_,g,i,_⟩|⟨wd,x,y,f,_⟩
 .lia
 grind
structure iO (mg:ZC) (H:Hp) (g:Addr) (qs:ZN) (ls:ZB) (ts:ZG):Prop where
 gr:∃c2 c3 c4,GrF mg H g c2 c3 c4 qs ls ts
 nd:ls.Nodup
 so:ls.Pairwise (λa b=>aO b a=false)
 ll:ls.length<=80
 tl:ts.length<=98
 t3:∀k∈ts.map (·.2),dI ls k
 sm:∀k∈ts.map (·.2),∀z∈k,Sml z
 lm:∀z∈ls,Sml z
def iO.up(h:iO mg H g qs a ts)(s:ah H b):iO mg b g qs a ts:=by
 have%[c,d,e|f]:=h.gr;exact%[%[c,d,e|f.up s],h.nd,h.so,h.ll,h.tl,h.t3,h.sm|h.lm]
def iO.ends(h:iO mg H g qs f ts)(i:br (bv qs) (ts.map (·.2)) lk)(j:k∈lk):∃a b z,k=[a,b,z]/\(a∈f/\bW (bv qs) a a)/\b∈f/\bW (bv qs) b b:=by
 have%[r,s,t|l]:=h.gr;have%[a,b,z,m,n,o,c,d|rfl]:=(i.mem k).mp j;have%[x,y,u,e,p|q]:=h.t3 _ o;simp only[List.cons.injEq,and_true]at e;have%[rfl,rfl|rfl]:=e;have ws:=fP l.sa;exact%[m,n,z,rfl,%[c.1.within ws p|iz c c.1],d.1.within ws q|iz d d.1]
def iO.short(h:iO mg H g qs o ts)(d:br (bv qs) (ts.map (·.2)) lk)(f:k∈lk):k.length<=3/\∀z∈k,Sml z:=by
 have%[p,q,r|i]:=h.gr;have%[a,b,z,s,t,c,j,l|rfl]:=(d.mem k).mp f;have%[x,y,u,e,m|n]:=h.t3 _ c;simp only[List.cons.injEq,and_true]at e;have%[rfl,rfl|rfl]:=e;have ws:=fP i.sa;exact%[Zi _|F5 (h.lm _ (j.1.within ws m)) (h.lm _ (l.1.within ws n)) (h.sm _ c z ∅)]
def iO.names(h:iO mg H g qs d ts)(f:br (bv qs) (ts.map (·.2)) lk)(c:mF (bv qs) d ns):∀k∈lk,dI ns k:=λk i=>by
 have%[a,b,z,e,j|l]:=h.ends f i;exact%[a,b,z,e,(c.mem a).mpr j|(c.mem b).mpr l]
def iO.ties(h:iO mg H g qs c ts)(d:br (bv qs) (ts.map (·.2)) lk):∀k∈lk,dI c k:=λk f=>by
 have%[a,b,z,e,i|j]:=h.ends d f;exact%[a,b,z,e,i.1|j.1]
def oY(a:a9 H ss)(h:∀k∈ss.map (·.2),dI ns k):dE H ns ss:=λt q=>%[(a t q).2|h _ (Xv %[t,q|rfl])]
inductive xx (mg:ZC) (vs:ZM) (H:Hp) (Q:VK) (E0:XK):Prop
 | mk (g qs ls ts):vs=[.ref g]->iO mg H g qs ls ts->(∀H' lk,ah H H'->br (bv qs) (ts.map (·.2)) lk->((∀x,¬ Rch lk x x)->Q .non H')/\∀r x,Rch lk x x->Q (.ref r) H')->xx mg vs H Q E0
inductive rc (mg:ZC) (vs:ZM) (H:Hp) (Q:VK) (E0:XK):Prop
 | mk (g qs ls ts):vs=[.ref g]->iO mg H g qs ls ts->(∀lk,br (bv qs) (ts.map (·.2)) lk->∀x,¬ Rch lk x x)->(∀l H' ns ss,ah H H'->H' l=some (.lst (ss.map λt=>V.ref t.1))->dE H' ns ss->ss.length<=98->br (bv qs) (ts.map (·.2)) (ss.map (·.2))->Q (.ref l) H')->rc mg vs H Q E0
def Gd(T:Txt K mg):↥6 "ring" ["ground"] (xx mg):=by
 refine T.aR.cal Du (λH vs Q E h=>?_)
 .have%[g,qs,e,ts,rfl,a|n]:=h;refine%[rfl|λf y A outer s d=>?_];have%[o,p,q|t]:=a.gr;have M:=a.ll;refine%[_,%["JDIG~.AG~WA0BAG~jA0BB",0|d],g,o,p,q,qs,e,ts,rfl,t,a.nd,a.so,⋯|λl N ns u O z c=>%[g,o,p,q,qs,e,ts,rfl,t.up u,a.nd,a.so,⋯,a.tl,a.t3|λm U ss v Y B C lk G=>?_]];have b:=u.trans v;refine%[l,m,ns,ss,rfl,v _ _ z,c.nd,?_,B,oY C (a.names lk c),G,λi j I=>(n i _ (b.trans j) lk).1 I|λr i ws x j J _=>(n i _ (b.trans j) lk).2 r x J.sho.rch];have:=STab.nodup_sub c.nd λx L=>((c.mem x).mp L).1
  lia
def oZ(T:Txt K mg):↥6 "untorn_links" ["ground"] (rc mg):=by
 refine T.aU.cal eB (λH vs Q E h=>?_)
 .have%[g,qs,e,ts,rfl,a,C|G]:=h;refine%[rfl|λf B A outer s d=>?_];have%[j,n,o|p]:=a.gr;have O:=a.ll;refine%[_,%["JCH1G~jA0BCH2G~.AG~WA0BA1BCNL~V2[D:ODI1",eB.nd|d]|?_]
  show bd _ _ _ [!g,none,none] H;refine ap λU k1 _=>?_
  lk;refine%[g,j,n,o,qs,e,ts,rfl,p,a.nd,a.so,⋯,a.tl,a.t3|λm Y ss q fm t I lk u=>k1 _ _ (ap λD2 k2 _=>?_)];lk;refine%[g,j,n,o,qs,e,ts,rfl,p.up q,a.nd,a.so,⋯|λl H2 ns i fl J c=>?_];have v:=oY I (a.names lk c);refine%[l,m,ns,ss,rfl,J,c.nd,?_,i _ _ t,v.up i,u,λy z _=>k2 _ _ (ap λD3 L _=>?_)|λr y ws x z M _=>(C _ lk x M.sho.rch).elim]
  .have:=STab.nodup_sub c.nd λx N=>((c.mem x).mp N).1
   lia
  .lk;refine L _ _ ?_;have b:=i.trans z;exact G m y ns ss (q.trans b) (b _ _ t) (v.up b) u lk
abbrev SD(M:ZB):List (Key×V):=VD M λ_=> .bl true
def BW:∃M2,cP (SD M) (Sum.inr x) (.bl true)=SD M2/\(M.Nodup->M2.Nodup)/\∀y,y∈M2↔y∈M\/y=x:=by
 by_cases c:x∈M
 .refine%[M,?_,λh=>h|λy=>%[.inl|λh=>h.elim (λh=>h) λe=>e▸c]];unfold SD;rw[wA c]
  simp_all
 .refine%[M++[x],?_,λh=>nodup_append.mpr %[h,by simp|λa d b f e=>c (by rw[<-Xt f,<-e];exact d)]|λy=>by simp];unfold SD;rw[d8 _ (eK c)];unfold VD;rw[Zd];rfl
def uV:∀{R M:ZB},∃M2,lq (SD M) (SD R)=SD M2/\(M.Nodup->M2.Nodup)/\∀y,y∈M2↔y∈M\/y∈R
 |[],M=>%[M,rfl,λh=>h|λy=>by simp]
 | x::R,M=>by
   have%[M1,a,n1|b]:=BW;have%[M2,c,d|m2]:=uV (R:=R);refine%[M2,?_,λh=>d (n1 h)|λy=>by rw[m2,b,Yz,or_assoc]];show lq (cP _ (Sum.inr x) (.bl true)) (SD R)=_;rw[a,c]
def zx(r:Rch ks a c):∃y,Ed ks a y/\(y=c\/Rch ks y c):=by
 induction r with
 | one e=>exact%[_,e|.inl rfl]
 | more _ e b=>
   have%[y,h|q]:=b;exact%[y,h|.inr (q.elim (λq=>q▸ .one e) λq=> .more q e)]
def Ge{ns:ZB}{ss:ZG}(h:∀t∈ss,dI ns t.2){x y:Str}(r:Rch (ss.map (·.2)) x y):y∈ns:=by
 have:∃a,Ed (ss.map (·.2)) a y:=by
  cases r with
  | one e=>exact%[_|e]
  | more _ e=>exact%[_|e]
 have%[a,z|c]:=this;have%[t,d|b]:=Xu c;have%[u,v,w,e,_|f]:=h t d;rw[e]at b;exact((List.cons.inj (List.cons.inj b).2).1)▸f
structure Rea (H:Hp) (ks:List ZB) (rs:Gs Str):Prop where
 nd:(rs.map (·.1)).Nodup
 ad:(rs.map (·.2.1)).Nodup
 at_:∀r∈rs,H r.2.1=some (.dK (SD r.2.2))/\r.2.2.Nodup/\∀y,y∈r.2.2↔Rch ks r.1 y
inductive xy (vs:ZM) (H:Hp) (Q:VK) (E0:XK):Prop
 | mk (l m ns ss):vs=[.ref l,.ref m]->H l=some (.lst (ns.map V.str))->ns.Nodup->ns.length<=80->H m=some (.lst (ss.map λt=>V.ref t.1))->dE H ns ss->ss.length<=98->(∀x,¬ Rch (ss.map (·.2)) x x)->(∀d H' rs,ah H H'->H d=none->H' d=some (.dK (gD rs))->Rea H' (ss.map (·.2)) rs->(∀r∈rs,r.2.1≠d/\H r.2.1=none)->(∀x,x∈rs.map (·.1)↔x∈ns)->Q (.ref d) H')->xy vs H Q E0
def pd(T:Txt K mg):↥4 "all_beneath" ["names","found"] xy:=by
 refine T.aM.cal cH (λH vs Q E h=>?_)
 .have%[l,m,ns,ss,rfl,hl,nn,nl,hm,Y,bc,nr|kk]:=h;refine%[rfl|λf cs A outer s u=>?_];refine%[_,%["JCH2G~iA1BCH3wCSPG~,A0A1BK4Cuw34DSP~O~U2A4AQBBK5Cuti34W5~GDU]t]ui34Ai3W5~GBDI3",cH.nd|u]|?_]
  show bd _ _ _ [!l,!m,none,none,none,none] H;refine ap λD1 k1 _=>?_
  lk;refine%[m,ns,ss,rfl,hm,Y,bc|λb H1 s1 fb hb=>k1 _ _ (ap λD2 k2 _=>?_)];lk;intro d fd;refine k2 _ _ (ap λD3 k3 _=>az λbf hK=>?_);have s2:=ah.upd (o:= .dK []) fd;have hd:upd H1 d (.dK []) d=some (.dK (gD ([]:Gs Str))):=aa;have ab:=s1.trans s2;have bl:b≠d:=λc=>by
   have%[bm,I|_]:=hb;rw[c,fd]at I;cases I
  have bn:=s1.free fd;have bp:=hb.up s2
  generalize upd H1 d (.dK [])=H2 at s2 hd ab bp
  lk;refine%[l,m,ns,ss,rfl,ab _ _ hl,nn,nl,ab _ _ hm,Y.up ab,bc|λr H3 L s3 al Ln Ls cb rest=> .inl %[r,rfl,%[_|SqL.of al]|hK _ _ ?_]];have ct:=s2.trans s3;have bt:∀x∈ns,x∈L:=λx hx=>Decidable.byContradiction λc=>FZ (ks:=ss.map (·.2)) (U:=ns.filter λx=>decide (x∉L)) (λx hx=>by
   have%[I|N]:=List.mem_filter.mp hx;have%[y,e,yn|yl]:=rest x I (Zo N);exact%[y,List.mem_filter.mpr %[yn|Zf yl]|e]) nr (List.mem_filter.mpr %[hx|Zf c])
  have Lm:(L.map V.str).length=L.length:=Z6 _;have Ll:=STab.nodup_sub Ln Ls;have b0:=bp.up s3;have an:=ab.trans s3;refine aZ (xs:=L.map V.str) (λi σ G=>(∃o4 o5,σ=[!l,!m,!b,!d,o4,o5])/\dm d H3 G/\∃rs:Gs Str,G d=some (.dK (gD rs))/\Rea G (ss.map (·.2)) rs/\(∀r∈rs,r.2.1≠d/\H3 r.2.1=none)/\rs.map (·.1)=L.take i)
   %[%[_,_|rfl],λ_ _ _ e=>e,[],s3 _ _ hd,%[X9,X9|λ_ h=>(nomatch h)],λ_ h=>(nomatch h)|rfl] (λi σ G _ h=>SqL.of (h.2.1 _ _ (λc=>by have:=s3 _ _ hd;rw[<-c,al]at this;cases this) al)) ?_ ?_
  .intro i v σ G hv %[%[o4,o5|rfl],sm,rs,ag,g,rn|rk];rw[Zl]at hv;have%[n,hn|rfl]:=map_eq_some_iff.mp hv;have tk:L.take (i+1)=L.take i++[n]:=by rw[Xf,hn];rfl
   show bd _ _ _ [!l,!m,!b,!d,-n,o5] G;refine ap λD4 k4 _=>?_
   lk;intro e fe;have C:e≠d:=λc=>by rw[c,ag]at fe;cases fe
   have as:n∉rs.map (·.1):=by
    rw[rk];intro c;have%[j|hj]:=Xk c;have jl:=(Xr hj).1;rw[Yp]at jl;rw[Ye ⋯]at hj;have:=du Ln hj hn
    lia
   have rl:rs.length<=80:=by
    have:(rs.map (·.1)).length<=L.length:=by rw[rk,Yp];lia
    rw[Z6]at this
    lia
   have e3:H3 e=none:=by
    cases q:H3 e with
    | none=>rfl
    | some o=>rw[sm e o C q]at fe;cases fe
   refine%[_,iM.k (k:=Sum.inr n) (ah.upd fe _ _ ag) (by unfold gD;rw[Z6];exact aA ⋯)|k4 _ _ ?_];rw[d8 _ (sR as),show gD rs++[(Sum.inr n,V.ref e)]=gD (rs++[(n,e,[])]) by unfold gD;rw[Zd];rfl];have he:upd (upd G e (.dK [])) d (.dK (gD (rs++[(n,e,[])]))) e=some (.dK (SD [])):=by rw[am C,aa];rfl
   have b1:upd (upd G e (.dK [])) d (.dK (gD (rs++[(n,e,[])]))) d=_:=aa;have o4:∀c o,c≠d->G c=some o->upd (upd G e (.dK [])) d (.dK (gD (rs++[(n,e,[])]))) c=some o:=λc o h q=>by rw[am h,am (ay q fe)];exact q
   generalize upd (upd G e (.dK [])) d (.dK (gD (rs++[(n,e,[])])))=H4 at he b1 o4
   have a0:dm d H3 H4:=λc o h q=>o4 c o h (sm c o h q)
   refine aB λD5 k5 _=>az λbf hK=>?_
   lk;refine%[.inr (.inr (.inl (.inl %[_|a0 _ _ bl b0.choose_spec.1]))),#[0]|λp hp=>?_];have%[bm,a,b2,cd,ai|ch]:=b0.get a0 bl (λxs c=>by rw[s3 _ _ hd]at c;cases c) hp n;have sp:=ah.upd (o:= .lst []) hp;have he:=sp _ _ he;have a1:=sp _ _ b1;have a2:=a0.trans (dm.of sp);have a3:∀c o,c≠d->G c=some o->upd H4 p (.lst []) c=some o:=λc o h q=>sp _ _ (o4 c o h q)
   have ae:a≠e:=by
    rcases ch with rfl|⟨o,ho⟩
    .exact λc=>by rw[c]at hp;have:=he;rw[c,aa]at this;cases this
    .exact λc=>by rw[c,e3]at ho;cases ho
   generalize upd H4 p (.lst [])=H5 at b2 ai he a1 a2 a3 ⊢
   generalize b3:(ss.filter λt=>decide (t.2[0]? =some n))=ts at ai
   have tm:(ts.map λt=>V.ref t.1).length=ts.length:=Z6 _;have cl:∀t∈ts,t∈ss/\∃y z,t.2=[n,y,z]:=λt ht=>by
    rw[<-b3]at ht;have%[I|N]:=List.mem_filter.mp ht;have%[x,y,z,e|_]:=(Y t I).2;have N:=Zo N;rw[e]at N;exact%[I,y,z|by rw[e,show x=n from Za N]]
   refine%[Sum.inr n,rfl,bm,b2|.inl %[a,cd,%[_|SqL.of ai]|hK _ _ ?_]];refine aZ (xs:=ts.map λt=>V.ref t.1) (λj σ O=>(∃o5,σ=[!l,!m,!b,!d,-n,o5])/\dm e H5 O/\∃M:ZB,O e=some (.dK (SD M))/\M.Nodup/\(∀y∈M,Rch (ss.map (·.2)) n y)/\∀t∈ts.take j,∀y,t.2[1]? =some y->y∈M/\∀z,Rch (ss.map (·.2)) y z->z∈M)
    %[%[_|rfl],λ_ _ _ q=>q,[],he,X9,λ_ h=>(nomatch h)|λ_ h=>(nomatch h)] (λj σ O _ h=>SqL.of (h.2.1 _ _ ae ai)) ?_ ?_
   .intro j v σ O hv %[%[o5|rfl],B,M,hM,Mn,Mr|Md];rw[Zl]at hv;have%[t,ht|rfl]:=map_eq_some_iff.mp hv;have%[b4,y,z|et]:=cl t (Z8 ht);show bd _ _ _ [!l,!m,!b,!d,-n,some (.ref t.1)] O;refine ap λD6 k6 _=>?_
    lk;have a4:∀c o,c≠d->c≠e->H3 c=some o->O c=some o:=λc o I N q=>B c o N (a2 c o I q)
    have te:∀c zs,H3 c=some (.tup zs)->O c=some (.tup zs):=λc zs q=>a4 c _ (λz=>by rw[z,s3 _ _ hd]at q;cases q) (λz=>by rw[z,e3]at q;cases q) q
    have t6:=te _ _ (an _ _ (Y t b4).1);rw[et]at t6;have a5:=B d _ C.symm a1;have aj:bJ (gD (rs++[(n,e,([]:ZB))])) (Sum.inr n)=some (.ref e):=by
     have%[r,co,e1|hv]:=lR (rs:=rs++[(n,e,[])]) (y:=n) ∅;rcases Xs co with q|q
     .exact(as (by exact e1▸Xv %[r,q|rfl])).elim
     .rw[Xt q]at hv;exact hv
    have gn:=cB.k (k:=Sum.inr n) a5;rw[aj]at gn;have ed:Ed (ss.map (·.2)) n y:=%[z|et▸Xv %[t,b4|rfl]]
    have yt:=cb i n hn y ed;rw[<-rk]at yt;have%[M1,e1,n1|m1]:=BW (M:=M) (x:=y);have a6:∀U:ZB,U.Nodup->(∀x∈U,Rch (ss.map (·.2)) n x)->U.length<=80:=λU I N=>Yk (STab.nodup_sub I λx hx=>Ge (λt ht=>(Y t ht).2) (N x hx)) nl
    have Ml:=a6 M Mn Mr;refine%[_,gn,_,SqT.of t6,_,rfl,e,rfl,_,iM.k (k:=Sum.inr y) hM (by unfold SD VD;rw[Z6];exact aA ⋯)|k6 _ _ (aB λD7 k7 _=>?_)];rw[e1];have b5:∀x∈M1,Rch (ss.map (·.2)) n x:=λx hx=>((m1 x).mp hx).elim (Mr x) λq=>q▸ .one ed
    have a7:upd O e (.dK (SD M1)) e=some (.dK (SD M1)):=aa;have u7:∀c o,c≠e->O c=some o->upd O e (.dK (SD M1)) c=some o:=λc o h q=>(am h)▸q
    generalize upd O e (.dK (SD M1))=H7 at a7 u7
    have b6:=cB.k (k:=Sum.inr n) (u7 _ _ C.symm a5);rw[aj]at b6;have%[ry,J,ey|gy]:=lR (rs:=rs++[(n,e,[])]) (y:=y) (Zd▸Yx _ yt);have J:ry∈rs:=by
     rcases Xs J with q|q
     .exact q
     .rw[Xt q]at ey;exact(nr n (.one (by rw[<-show n=y from ey]at ed;exact ed))).elim
    have b7:=cB.k (k:=Sum.inr y) (u7 _ _ C.symm a5);rw[gy]at b7;have bb:ry.2.1≠e:=ay (g.at_ ry J).1 fe;have cp:=u7 _ _ bb (B _ _ bb (a3 _ _ (rn ry J).1 (g.at_ ry J).1));lk;have%[M2,e2,n2|m2]:=uV (R:=ry.2.2) (M:=M1);have ac:=(g.at_ ry J).2;rw[ey]at ac;have cx:=a6 M1 (n1 Mn) b5;have Rl:=a6 ry.2.2 ac.1 λx hx=>(Rch.one ed).trans ((ac.2 x).mp hx)
    refine%[_,b6,.inr (.inr (.inl (.inl %[_|a7]))),_,SqT.of (u7 _ _ (λc=>by rw[c,hM]at t6;cases t6) t6),_,rfl,_,b7,ry.2.1,rfl,_,_,bb.symm,a7,cp,by unfold SD VD;rw[Z6,Z6,PySem.sizeLine_eq];lia|?_];rw[e2];refine k7 _ _ %[%[_|rfl],λc o h q=>(am h)▸u7 c o h (B c o h q),M2,aa,n2 (n1 Mn),λx hx=>?_|λt' b9 x ex=>?_]
    .rcases(m2 x).mp hx with q|q
     .exact b5 x q
     .exact(Rch.one ed).trans ((ac.2 x).mp q)
    .rw[Xf,ht]at b9;rcases Xs b9 with q|q
     .have%[I|N]:=Md t' q x ex;exact%[(m2 x).mpr (.inl ((m1 x).mpr (.inl I)))|λz hz=>(m2 z).mpr (.inl ((m1 z).mpr (.inl (N z hz))))]
     .rw[show t'=t from Xt q,et]at ex;obtain rfl:y=x:=Za ex;exact%[(m2 y).mpr (.inl ((m1 y).mpr (.inr rfl)))|λz hz=>(m2 z).mpr (.inr ((ac.2 z).mpr hz))]
   .intro σ O %[%[o5|rfl],B,M,hM,Mn,Mr|Md];rw[tm,Zn (Zi _)]at Md;have all:∀y,y∈M↔Rch (ss.map (·.2)) n y:=λy=>%[Mr y|λr=>by
     have%[x,%[z|hz]|q]:=zx r;have%[t,ht|et]:=Xu hz;have h:=Md t (b3▸List.mem_filter.mpr %[ht|by rw[et];simp]) x (by rw[et];rfl);exact q.elim (λq=>q▸h.1) λq=>h.2 y q]
    have ca:∀r∈rs,r.2.1≠e:=λr u=>ay (g.at_ r u).1 fe
    refine k5 _ _ %[%[_,_|rfl],λc o h q=>B c o (ay q e3) (a2 c o h q),rs++[(n,e,M)],?_,%[?_,?_|λr u=>?_],λr u=>?_|by rw[Zd,rk,tk];rfl]
    .rw[B d _ C.symm a1];unfold gD;rw[Zd,Zd];rfl
    .rw[Zd,X7];exact%[g.nd,by simp|λa ha b hb c=>as (by rw[<-show b=n from Xt hb,<-c];exact ha)]
    .rw[Zd,X7];refine%[g.ad,by simp|λa ha b hb c=>?_];have%[r,u|rfl]:=Xu ha;exact ca r u (c.trans (Xt hb))
    .rcases Xs u with q|q
     .exact%[B _ _ (ca r q) (a3 _ _ (rn r q).1 (g.at_ r q).1)|(g.at_ r q).2]
     .rw[Xt q];exact%[hM,Mn|all]
    .rcases Xs u with q|q
     .exact rn r q
     .rw[Xt q];exact%[C|e3]
  .intro σ G %[%[o4,o5|rfl],sm,rs,ag,g,rn|rk];rw[Lm,Zn (Zi _)]at rk;refine k3 _ _ ?_;lk;exact kk d G rs (λc o e=>sm c o (ay e bn) (an _ _ e)) bn ag g (λr u=>%[(rn r u).1|an.free (rn r u).2]) λx=>rk▸%[Ls x|bt x]
structure ReF (H:Hp) (ks:List ZB) (d:Addr) (rs:Gs Str):Prop where
 at_:∃o,H d=some (.frz o (.dK (gD rs)))
 nd:(rs.map (·.1)).Nodup
 in_:∀r∈rs,(∃o,H r.2.1=some (.frz o (.dK (SD r.2.2))))/\r.2.2.Nodup/\∀y,y∈r.2.2↔Rch ks r.1 y
def ReF.up(h:ReF H ks d rs)(s:ah H b):ReF b ks d rs:=
 %[h.at_.imp λo e=>s _ _ e,h.nd|λr a=>%[(h.in_ r a).1.imp λo e=>s _ _ e|(h.in_ r a).2]]
inductive xz (vs:ZM) (H:Hp) (Q:VK) (E0:XK):Prop
 | mk (l m ns ss):vs=[.ref l,.ref m]->H l=some (.lst (ns.map V.str))->ns.Nodup->ns.length<=80->H m=some (.lst (ss.map λt=>V.ref t.1))->dE H ns ss->ss.length<=98->(∀x,¬ Rch (ss.map (·.2)) x x)->(∀d H' rs,ah H H'->ReF H' (ss.map (·.2)) d rs->(∀x,x∈rs.map (·.1)↔x∈ns)->Q (.ref d) H')->xz vs H Q E0
def pV(T:Txt K mg):↥4 "all_beneath" ["names","found"] xz:=by
 refine(pd T).freeze.imp λvs H Q E zqw=>?_;have%[l,m,ns,ss,f,g,h,i,j,n,p,s|t]:=zqw;refine %[l,m,ns,ss,f,g,h,i,j,n,p,s|λd A rs u B v a y z=>%[d::rs.map _|λC=>t d _ rs (λc o e=>?_) %[%[_|mY Zm v],a.nd|λr b=>%[%[_|mY (Zk _ (Xv %[r,b|rfl])) (a.at_ r b).1]|(a.at_ r b).2]] z]]
 rw[oi]
 .exact u c o e
 .intro q;rcases mem_cons.mp q with rfl|q
  .lia
  .have%[r,b|rfl]:=Xu q;rw[(y r b).2]at e;cases e
inductive xA (mg:ZC) (vs:ZM) (H:Hp) (Q:VK) (E0:XK):Prop
 | mk (g qs ls ts):vs=[.ref g]->iO mg H g qs ls ts->(∀lk,br (bv qs) (ts.map (·.2)) lk->∀x,¬ Rch lk x x)->(∀d H' rs lk ns,ah H H'->br (bv qs) (ts.map (·.2)) lk->mF (bv qs) ls ns->ReF H' lk d rs->(∀x,x∈rs.map (·.1)↔x∈ns)->Q (.ref d) H')->xA mg vs H Q E0
def pf(T:Txt K mg):↥7 "earlier_ones" ["ground"] (xA mg):=by
 refine T.aV.cal iH (λH vs Q E h=>?_)
 .have%[g,qs,e,ts,rfl,a,j|q]:=h;refine%[rfl|λf p A outer s c=>?_];have%[r,u,v|y]:=a.gr;have U:=a.ll;refine%[_,%["JCH1G]vA0BDIG]wAG~WA0BA1B",iH.nd|c]|?_]
  show bd _ _ _ [some _,none] H;refine ap λY k1 _=>?_
  lk;refine%[g,qs,e,ts,rfl,a,j|λl H1 z ss n B C G lk=>k1 _ _ ?_];lk;refine%[g,r,u,v,qs,e,ts,rfl,y.up n,a.nd,a.so,⋯|λm H2 ns i fm I b=>?_];have nl:ns.length<=80:=by
   have:=STab.nodup_sub b.nd λx J=>((b.mem x).mp J).1
   lia
  refine%[m,l,ns,ss,rfl,I,b.nd,nl,i _ _ B,λt o=>%[i _ _ (C t o).1|a.names lk b _ (Xv %[t,o|rfl])],G,j _ lk|λd L rs M N O=>q d L rs _ ns (n.trans (i.trans M)) lk b N O]
abbrev TD(L:ZB)(m:Str->Str):List (Key×V):=VD L λx=> .str (m x)
structure Hh (ks:List _) (ns L:ZB) (m:Str->Str) (A0 Q:ZB) (g:Str->Str) (W:ZB):Prop where
 ask:Ask (Rch ks) L m A0 Q g
 ql:∀x∈Q,x∈L
 qn:∀x∈Q,x∈ns
 wn:∀b∈W,b∈ns/\(b∈A0\/∃y∈Q,y∈L/\m y=b)
 cl:∀b,(b∈A0\/∃y∈Q,y∈L/\m y=b)->b∈W\/∀p,Rch ks b p->p∈Q
structure DG (ks:List _) (ns L:ZB) (m:Str->Str) (A0 Q:ZB) (g:Str->Str) (W:ZB) (b:Str):Prop where
 ask:Ask (Rch ks) L m A0 Q g
 ql:∀x∈Q,x∈L
 qn:∀x∈Q,x∈ns
 wn:∀b∈W,b∈ns/\(b∈A0\/∃y∈Q,y∈L/\m y=b)
 cl:∀c,(c∈A0\/∃y∈Q,y∈L/\m y=c)->c∈W\/c=b\/∀p,Rch ks c p->p∈Q
 by_:b∈A0\/∃y∈Q,y∈L/\m y=b
def xB(a:Ask E L m h Q g)(j:p∉Q)(e:E b p)(f:b∈h\/∃y∈Q,y∈L/\m y=b):Ask E L m h (Q++[p]) (λx=>if x=p then b else g x):=by
 refine%[nodup_append.mpr %[a.nd,by simp|λx d y o c=>j (by rw[<-Xt o,<-c];exact d)]|λi x d=>?_];by_cases c:i<Q.length
 .rw[Ya c]at d;have n:x≠p:=λz=>j (z▸Z8 d)
  rw[if_neg n,Xh (Yi c)];exact a.by_ i x d
 .have l:=(Xr d).1;rw[Z9,Yo]at l;obtain rfl:i=Q.length:=by lia
  rw[Yb (Zi _),Xe]at d;obtain rfl:p=x:=Za d;rw[if_pos rfl,List.take_left];exact%[e|f]
def DG.add{ns L d Q W:ZB}(a:DG ks ns L m d Q g W b)(l:p∉Q)(e:Rch ks b p)(pl:p∈L)(pn:p∈ns)(n:m p∈ns):DG ks ns L m d (Q++[p]) (λx=>if x=p then b else g x) (W++[m p]) b:=by
 have up:∀{c},(c∈d\/∃y∈Q,y∈L/\m y=c)->c∈d\/∃y∈Q++[p],y∈L/\m y=c:=λh=>h.imp_right λ⟨y,h,q⟩=>%[y,Yx _ h|q]
 refine%[xB a.ask l e a.by_,λx i=>?_,λx i=>?_,λc j=>?_,λc j=>?_|up a.by_]
 .exact(Xs i).elim (a.ql x) λh=>Xt h▸pl
 .exact(Xs i).elim (a.qn x) λh=>Xt h▸pn
 .rcases Xs j with h|h
  .exact%[(a.wn c h).1|up (a.wn c h).2]
  .rw[Xt h];exact%[n|.inr %[p,Yy _ Zm,pl|rfl]]
 .have f:(c∈d\/∃y∈Q,y∈L/\m y=c)->c∈W++[m p]\/c=b\/∀q,Rch ks c q->q∈Q++[p]:=λh=>(a.cl c h).imp (Yx _) λh=>h.imp_right λh q r=>Yx _ (h q r)
  rcases j with h|⟨y,o,s,rfl⟩
  .exact f (.inl h)
  .rcases Xs o with h|h
   .exact f (.inr %[y,h,s|rfl])
   .rw[Xt h];exact .inl (Yy _ Zm)
def dF:((bJ (TD L m) (Sum.inr x)).isSome=true↔x∈L)/\(x∈L->bJ (TD L m) (Sum.inr x)=some (.str (m x))):=by
 refine%[?_|λh=>fY h];unfold TD;by_cases c:x∈L
 .rw[fY c];exact%[λ_=>c|λ_=>rfl]
 .rw[eK c];simp_all
def wB(h:x∉L):cP (TD L m) (Sum.inr x) (.str y)=TD (L++[x]) (λz=>if z=x then y else m z):=by
 unfold TD;rw[d8 _ (eK h)];unfold VD;rw[Zd];refine congr (congrArg _ (Yt λa b=>?_)) ∅;show(Sum.inr a,V.str _)=((Sum.inr a),V.str (if a=x then y else m a))
 rw[if_neg (λc:a=x=>h (c▸b))]
inductive xC (vs:ZM) (H:Hp) (Q:VK) (E0:XK):Prop
 | mk (d hb al:Addr) (ks:List _) (rs:Gs Str) (ns L A0:ZB) (m:Str->Str):vs=[.ref d,.ref hb,.ref al]->ReF H ks d rs->(∀x,x∈rs.map (·.1)↔x∈ns)->(∀x y,Rch ks x y->y∈ns)->ns.length<=80->ns.Nodup->Rd H hb (.dK (TD L m))->(∀x∈L,m x∈ns)->H al=some (.lst (A0.map V.str))->(∀x∈A0,x∈ns)->A0.length<=80->(∀q H' U g,ah H H'->H q=none->H' q=some (.dK (TD U g))->Ask (Rch ks) L m A0 U g->(∀x∈U,x∈ns)->((∃f∈U,f∉L)\/((∀x∈U,x∈L)/\∀b,(b∈A0\/∃y∈U,y∈L/\m y=b)->∀p,Rch ks b p->p∈U))->Q (.ref q) H')->xC vs H Q E0
def pW(T:Txt K mg):↥1 "ask_around" ["partners","held_by","askers"] xC:=by
 refine T.aO.cal cU (λH vs Q E h=>?_)
 .have%[d,u,al,ks,rs,ns,L,A0,m,rfl,re,rk,rn,nl,nn,hh,mn,ha,an,bb|kk]:=h;refine%[rfl|λf bf A outer s hr=>?_];refine%[_,%["JCH3wCH4'+A2BC<L;bcA4BECH5]x]y4DS~ki05K6DN,63Cu536CN,61DI3ODUea4Ai16BODI3",cU.nd|hr]|?_]
  show bd _ _ _ [!d,!u,!al,none,none,none,none] H;refine ap λD1 k1 _=>?_
  lk;intro q fq;refine k1 _ _ (ap λD2 k2 _=>?_);have s1:=ah.upd (o:= .dK []) fq;have M:upd H q (.dK []) q=some (.dK (TD [] id)):=aa
  generalize upd H q (.dK [])=H1 at s1 M
  lk;refine%[_,.inl (SqL.of (s1 _ _ ha))|λj fw=>k2 _ _ (ap λD3 k3 r3=>?_)];have ac:j≠q:=λc=>by rw[c,M]at fw;cases fw
  have s2:=ah.upd (o:= .lst (A0.map V.str)) fw;have hw:upd H1 j (.lst (A0.map V.str)) j=_:=aa;have M:=s2 _ _ M;have as:=s1.trans s2;have a0:=s1.free fw
  generalize upd H1 j (.lst (A0.map V.str))=H2 at hw M as
  refine⟨λn σ a=>∃(o5 J:Option V) (U W:ZB) (g:Str->Str),σ=[!d,!u,!al,!q,!j,o5,J]/\ah H a/\a q=some (.dK (TD U g))/\a j=some (.lst (W.map V.str))/\Hh ks ns L m A0 U g W/\n=2*(81-U.length) +W.length/\n<=300,%[_,none,none,[],A0,id,rfl,as,M,hw,%[%[X9|λi x e=>(nomatch e)],λ_ h=>(nomatch h),λ_ h=>(nomatch h),λb u=>%[an b u|.inl u]|λb u=> .inl (u.elim (λh=>h) λ⟨_,h,_⟩=>(nomatch h))],rfl|by rw[length_nil];lia],?_⟩;intro n σ H3 %[o5,J,U,W,g,rfl,sm,M,hw,B,rfl|ab];have wm:(W.map V.str).length=W.length:=Z6 _;lk;have Ul:=STab.nodup_sub B.ask.nd B.qn;refine%[W.length,.inl %[_,SqL.of hw|wm.symm]|bE (λc=>?_) λc=>?_]
  .have c:=Zo c;obtain⟨W1,b,rfl⟩:∃W1 b,W=W1++[b]:=%[W.dropLast,W.getLast (λe=>by rw[e]at c;simp at c)|(List.dropLast_concat_getLast _).symm]
   refine⟨λa1 a=>∃n',n'<2*(81-U.length) +(W1++[b]).length/\∃(o5 J:Option V) (U W:ZB) (g:Str->Str),a1=[!d,!u,!al,!q,!j,o5,J]/\ah H a/\a q=some (.dK (TD U g))/\a j=some (.lst (W.map V.str))/\Hh ks ns L m A0 U g W/\n'=2*(81-U.length) +W.length/\n'<=300,λa1 a ⟨n',h1,o5,J,U,W,g,h2,h3,h4,h5,h6,h7⟩=>%[n',h1,%[o5,J|h2],h3,U,W,g,h4,h5,h6|h7],.inl %[_|SqL.of hw],j,_,.str b,rfl,rfl,hw,by simp,az λbc hK=>?_⟩;have dl:((W1++[b]).map V.str).dropLast=W1.map V.str:=Zd▸List.dropLast_concat;rw[dl];have a2:upd H3 j (.lst (W1.map V.str)) j=_:=aa;have a3:upd H3 j (.lst (W1.map V.str)) q=some (.dK (TD U g)):=(am ac.symm)▸M;have N:ah H (upd H3 j (.lst (W1.map V.str))):=ah.set sm a0
   generalize upd H3 j (.lst (W1.map V.str))=H4 at a2 a3 N ⊢
   have%[bn|a5]:=B.wn b ∅;have%[o|ed]:=re.at_;have%[r,a6,er|gv]:=lR (rs:=rs) (y:=b) ((rk b).mpr bn);have%[%[ro|a4],bl|C]:=re.in_ r a6;rw[er]at C;unfold ut;lk;have kl:(SD r.2.2).length=r.2.2.length:=Z6 _;refine%[_,(.inl %[_,Sum.inr b,.inr %[o|N _ _ ed],rfl|gv.symm]),_,rfl,_,_,N _ _ a4|hK _ _ (uu (λi σ a=>(∃J,σ=[!d,!u,!al,!q,!j,-b,J])/\ah H a/\∃(l W2:ZB) (g1:Str->Str),a q=some (.dK (TD l g1))/\a j=some (.lst (W2.map V.str))/\DG ks ns L m A0 l g1 W2 b/\(∀x∈r.2.2.take i,x∈l)/\2*(81-l.length) +W2.length<=2*(81-U.length) +W1.length)
    %[%[_|rfl],N,U,W1,g,a3,a2,%[B.ask,B.ql,B.qn,λc hc=>B.wn c (Yx _ hc),λc hc=>(B.cl c hc).elim (λh=>(Xs h).imp_right λh=> .inl (Xt h)) λh=> .inr (.inr h)|a5],λ_ h=>(nomatch h)|Zi _] (λi σ a _ h=>h.2.1 _ _ a4) ?_ ?_)]
   .intro i k v σ a hv %[%[J|rfl],O,l,W2,g1,G,Y,t,dn|le];unfold SD VD at hv;rw[Zl]at hv;have%[p,hp|ep]:=map_eq_some_iff.mp hv;obtain⟨rfl,rfl⟩:Sum.inr p=k/\V.bl true=v:=%[congrArg (·.1) ep|congrArg (·.2) ep]
    have tk:r.2.2.take (i+1)=r.2.2.take i++[p]:=by rw[Xf,hp];rfl
    have bp:=(C p).mp (Z8 hp);have bm:=STab.nodup_sub t.ask.nd t.qn;show lh _ _ _ _ [!d,!u,!al,!q,!j,-b,-p] a;refine aB λD4 k4 r4=>?_
    lk;refine%[_,cB.k (k:=Sum.inr p) G|bE (λc=>?_) λc=>?_]
    .have pn:p∉l:=λh=>by rw[dF.1.mpr h]at c;cases c
     refine%[_,iM.k (k:=Sum.inr p) G (by unfold TD VD;rw[Z6];exact aA ⋯)|?_];rw[wB pn];have I:=ah.set (o:= .dK (TD (l++[p]) λz=>if z=p then b else g1 z)) O fq;have ae:upd a q (.dK (TD (l++[p]) λz=>if z=p then b else g1 z)) q=_:=aa;have ag:upd a q (.dK (TD (l++[p]) λz=>if z=p then b else g1 z)) j=some (.lst (W2.map V.str)):=(am ac)▸Y
     generalize upd a q (.dK (TD (l++[p]) λz=>if z=p then b else g1 z))=H6 at I ae ag ⊢
     have gh:cB H6 u (.str p) (bJ (TD L m) (Sum.inr p)):= .inl %[_,Sum.inr p,hh.imp (I _ _) λ⟨o,e⟩=>%[o|I _ _ e],rfl|rfl];refine%[_,gh|bE (λe=>?_) λe=>?_]
     .have pl:p∉L:=λh=>by rw[dF.1.mpr h]at e;cases e
      exact r4 _ _ (r3 _ _ (kk q H6 _ _ I fq ae (xB t.ask pn bp t.by_) (λx hx=>(Xs hx).elim (t.qn x) λh=>Xt h▸rn _ _ bp) (.inl %[p,Yy _ Zm|pl])))
     .have pl:p∈L:=dF.1.mp (by cases h:(bJ (TD L m) (Sum.inr p)).isSome with
       | true=>rfl
       | false=>rw[h]at e;exact absurd rfl e)
      rw[dF.2 pl]at gh;have bt:W2.length<=300:=by rw[Z9]at ab;lia
      refine%[.inl %[_|SqL.of ag],_,gh,_,ag,by rw[Z6];exact aA ⋯|k4 _ _ %[%[_|rfl],ah.set I a0,l++[p],W2++[m p],_,(am ac.symm).trans ae,by rw[aa,Zd];rfl,t.add pn bp pl (rn _ _ bp) (mn p pl),λx hx=>?_|?_]]
      .rw[tk]at hx;exact(Xs hx).elim (λh=>Yx _ (dn x h)) λh=>Yy _ h
      .have a7:=STab.nodup_sub (t.add pn bp pl (rn _ _ bp) (mn p pl)).ask.nd (t.add pn bp pl (rn _ _ bp) (mn p pl)).qn;rw[Z9,Yo]at a7 ⊢;rw[Z9,Yo]
       lia
    .have pu:p∈l:=dF.1.mp (by cases h:(bJ (TD l g1) (Sum.inr p)).isSome with
      | true=>rfl
      | false=>rw[h]at c;exact absurd rfl c)
     refine k4 _ _ %[%[_|rfl],O,l,W2,g1,G,Y,t,λx hx=>?_|le];rw[tk]at hx;exact(Xs hx).elim (dn x) λh=>Xt h▸pu
   .intro σ a %[%[J|rfl],O,l,W2,g1,G,Y,t,dn|le];rw[kl,Zn (Zi _)]at dn;rw[Z9,Yo]at ab;refine%[_,?_,_,_,l,W2,g1,rfl,O,G,Y,%[t.ask,t.ql,t.qn,t.wn|λc hc=>?_],rfl|⋯]
    .rw[Z9,Yo];lia
    .rcases t.cl c hc with h|rfl|h
     .exact .inl h
     .exact .inr λp hp=>dn p ((C p).mpr hp)
     .exact .inr h
  .refine k3 _ _ ?_;have e:W=[]:=by
    cases W with
    | nil=>rfl
    | cons x W=>exact absurd (Zf (by rw[Zr];lia)) c
   subst e;lk;exact kk q H3 U g sm fq M B.ask B.qn (.inr %[B.ql|λb u=>(B.cl b u).resolve_left λh=>(nomatch h)])
inductive BX (vs:ZM) (H:Hp) (Q:VK) (E0:XK):Prop
 | mk (d hb al:Addr) (ks:List ZB) (rs:Gs Str) (ns L A0:ZB) (m:Str->Str):vs=[.ref d,.ref hb,.ref al]->ReF H ks d rs->(∀x,x∈rs.map (·.1)↔x∈ns)->(∀x y,Rch ks x y->y∈ns)->ns.length<=80->ns.Nodup->Rd H hb (.dK (TD L m))->(∀x∈L,m x∈ns)->H al=some (.lst (A0.map V.str))->(∀x∈A0,x∈ns)->A0.length<=80->(∀q o H' (U:ZB) (g:Str->Str),ah H H'->H' q=some (.frz o (.dK (TD U g)))->Ask (Rch ks) L m A0 U g->(∀x∈U,x∈ns)->((∃f∈U,f∉L)\/((∀x∈U,x∈L)/\∀b,(b∈A0\/∃y∈U,y∈L/\m y=b)->∀p,Rch ks b p->p∈U))->Q (.ref q) H')->BX vs H Q E0
inductive xD (vs:ZM) (H:Hp) (Q:VK) (E0:XK):Prop
 | mk (d:Addr) (o:Obj) (L:ZB) (m:Str->Str):vs=[.ref d]->H d=some (.frz o (.dK (TD L m)))->L.length<=80->L.Nodup->(∀x∈L,∀y∈L,m x=m y->x=y)->(∀t H' (i:Str->Str),ah H H'->H t=none->H' t=some (.dK (TD (L.map m) i))->(∀x∈L,i (m x)=x)->Q (.ref t) H')->xD vs H Q E0
inductive BY (vs:ZM) (H:Hp) (Q:VK) (E0:XK):Prop
 | mk (d:Addr) (L:ZB) (m:Str->Str):vs=[.ref d]->Rd H d (.dK (TD L m))->L.length<=80->L.Nodup->(∀x∈L,∀y∈L,m x=m y->x=y)->(∀t H' (i:Str->Str),ah H H'->H t=none->H' t=some (.dK (TD (L.map m) i))->(∀x∈L,i (m x)=x)->Q (.ref t) H')->BY vs H Q E0
def sU(T:Txt K mg):↥1 "ask_around" ["partners","held_by","askers"] BX:=by
 refine(pW T).freeze.imp λvs H Q E zqw=>?_;have%[d,i,j,ks,rs,ns,L,l,m,n,p,r,s,t,u,v,y,z,f,h|A]:=zqw;refine %[d,i,j,ks,rs,ns,L,l,m,n,p,r,s,t,u,v,y,z,f,h|λq G U g B I C a b c=>%[[q]|λJ=>A q _ _ U g (λx o e=>?_) (mY Zm C) a b c]]
 rw[oi]
 .exact B x o e
 grind
def lS(T:Txt K mg):↥1 "keys_by_value" ["some"] xD:=by
 refine T.aQ.cal cL (λH vs Q E h=>?_)
 .have%[d,o,L,m,rfl,hd,ae,nd,inj|kk]:=h;refine%[rfl|λf ac A outer s hr=>?_];refine%[_,%["JCH1wCS]z0fMK2MK3gDu213DI1",cL.nd|hr]|?_]
  show bd _ _ _ [!d,none,none,none] H;refine ap λD1 k1 _=>?_
  lk;intro t G;refine k1 _ _ (ap λD2 k2 _=>az λab hK=>?_);have I:=ah.upd (o:= .dK []) G;have ht:upd H t (.dK []) t=some (.dK (TD (([]:ZB).map m) id)):=aa
  generalize upd H t (.dK [])=H1 at I ht
  unfold Bu;lk;have ll:(TD L m).length=L.length:=Z6 _;refine%[_,_,I _ _ hd|hK _ _ (y4 (λi u a=>(∃J M,u=[!d,!t,J,M])/\ah H a/\∃l:Str->Str,a t=some (.dK (TD ((L.take i).map m) l))/\∀x∈L.take i,l (m x)=x)
   %[%[_,_|rfl],I,id,ht|λ_ h=>(nomatch h)] (λi u a _ h=>h.2.1 _ _ hd) ?_ ?_)]
  .intro i k v B u a N %[%[J,M|rfl],O,l,b|g] U;unfold TD VD at N;rw[Zl]at N;have%[x,Y|ex]:=map_eq_some_iff.mp N;obtain⟨rfl,rfl⟩:Sum.inr x=k/\V.str (m x)=v:=%[congrArg (·.1) ex|congrArg (·.2) ex]
   have s2:=ah.upd (o:= .tup [.str x,.str (m x)]) U;have n:upd a B (.tup [.str x,.str (m x)]) B=_:=aa;have p:=s2 _ _ b;have q:=O.trans s2;show zO _ _ _ _ _ (upd a B (.tup [.str x,.str (m x)])) _
   generalize upd a B (.tup [.str x,.str (m x)])=H2 at n p q ⊢
   have tk:L.take (i+1)=L.take i++[x]:=by rw[Xf,Y];rfl
   have xn:m x∉(L.take i).map m:=λc=>by
    have%[y,C|e]:=Xu c;have%[j|r]:=Xk C;have jl:=(Xr r).1;rw[Yp]at jl;rw[Ye ⋯]at r;rw[inj y (Z8 r) x (Z8 Y) e]at r;have:=du nd r Y
    lia
   refine%[_,SqT.of n,rfl,_,_,rfl,_,_,rfl,rfl|?_];show l7 _ _ _ _ [!d,!t,-x,some (.str (m x))] H2;refine aB λD3 k3 _=>?_
   lk;have tl:(L.take i).length<=80:=by rw[Yp];lia
   refine%[_,iM.k (k:=Sum.inr (m x)) p (by unfold TD VD;rw[Z6,Z6];exact aA ⋯)|k3 _ _ %[%[_,_|rfl],ah.set q G,λz=>if z=m x then x else l z,?_|λy C=>?_]]
   .rw[aa,wB xn,tk,Zd];rfl
   .rw[tk]at C;rcases Xs C with h|h
    .show(if m y=m x then x else l (m y))=y;rw[if_neg (λe:m y=m x=>xn (e▸Xv %[y,h|rfl]))];exact g y h
    .rw[Xt h];show(if m x=m x then x else l (m x))=x;rw[if_pos rfl]
  .intro u a %[%[J,M|rfl],O,l,b|g];rw[ll,Zn (Zi _)]at b g;refine k2 _ _ ?_;lk;exact kk t a l O G b g
def iL(T:Txt K mg):↥1 "keys_by_value" ["some"] BY:=by
 refine(lS T).frozen.imp λvs H Q E zqw=>?_;have%[d,L,m,f,a,g,h,j|l]:=zqw;refine a.elim (λa=> .inr %[d,_,by rw[f];rfl,a|λo=>%[d,o,L,m,f,aa,g,h,j|λt r i p b q hi=>?_]]) λ⟨o,a⟩=> .inl %[d,o,L,m,f,a,g,h,j|l]
 have n:t≠d:=λc=>by rw[c,aa]at b;cases b
 rw[am n]at b;refine l t _ i (λc o e=>?_) b ((am n)▸q) hi;by_cases z:c=d
 .rw[z]at e ⊢;rw[a]at e;rw[aa];exact e
 .rw[am z];exact p c o ((am z)▸e)
inductive xE (vs:ZM) (H:Hp) (Q:VK) (E0:XK):Prop
 | mk (hb q:Addr) (o:Obj) (f a0:Str) (ks:List ZB) (L U:ZB) (m g:Str->Str) (S T:Str->Prop):vs=[.ref hb,.ref q,.str f]->H hb=some (.dK (TD L m))->H q=some (.frz o (.dK (TD U g)))->L.length<80->Mat (Rch ks) L m->Ask (Rch ks) L m [a0] U g->(∀x∈L,m x≠a0)->lF (Rch ks) L m S T->f∈U->f∉L->(∀H' (L':ZB) (m':Str->Str),(∀c o,c≠hb->H c=some o->H' c=some o)->H' hb=some (.dK (TD L' m'))->Mat (Rch ks) L' m'->lF (Rch ks) L' m' S T->(∀x,x∈L'↔x∈L\/x=f)->(∀x∈L',m' x=a0\/∃y∈L,m y=m' x)->(∀y,y=a0\/(∃x∈L,m x=y)->∃x∈L',m' x=y)->Q .non H')->xE vs H Q E0
abbrev Hi(s:Hp)(d q t:Addr)(f l:Str)(ks:List ZB)(L U:ZB)(m g:Str->Str)(S T:Str->Prop)(n:Nat)(r:L2.St)(e:Hp):Prop:=(∀c o,c≠d->s c=some o->e c=some o)/\∃(C h:ZB),((∃p j i,r=[!d,!q,-f,!t,-p,i]/\om (Rch ks) L U m g T f C j p/\e d=some (.dK (TD h λx=>if x∈C then g x else m x))/\((C=[]/\h=L)\/(f∈C/\h=L++[f]))/\n=j+1)\/(∃i,r=[!d,!q,-f,!t,some .non,i])/\n=0/\∃(a:ZB) (b:Str->Str),e d=some (.dK (TD a b))/\Mat (Rch ks) a b/\lF (Rch ks) a b S T/\(∀x,x∈a↔x∈L\/x=f)/\(∀x∈a,b x=l\/∃y∈L,m y=b x)/\∀y,y=l\/(∃x∈L,m x=y)->∃x∈a,b x=y)
def zy(T:Txt K mg):↥2 "pass_on" ["held_by","asked_by","free"] xE:=by
 refine T.aP.cal fj (λH vs Q E h=>?_)
 .have%[b,q,o,f,J,ks,L,U,m,g,S,N,rfl,B,O,as,M,a,h0,Y,fU,G|kk]:=h;refine%[rfl|λ_ an A outer s I=>?_];refine%[_,%["JCH3G~/A0BCH42D<L~V4[CH5i14Cu504DH4~O]!3A5B",fj.nd|I]|?_]
  show bd _ _ _ [!b,!q,-f,none,none,none] H;refine ap λD1 k1 _=>?_
  lk;refine%[b,L,m,rfl,.inl B,⋯,M.nd,M.inj|λt H1 i s1 ft ht hi=>k1 _ _ (ap λD2 k2 _=>?_)];lk;refine k2 _ _ ?_;have ab:t≠b:=λc=>by rw[c,B]at ft;cases ft
  have ac:q≠b:=λc=>by rw[c,B]at O;cases O
  have%[i0|ae]:=Xk fU;refine%[Hi H1 b q t f J ks L U m g S N,
   %[_,λ_ _ _ e=>e,[],L|.inl %[f,i0,none,rfl,om.start Y G ae,by rw[s1 _ _ B];rfl,.inl %[rfl|rfl]|rfl]]|?_]
  rintro n σ H2 ⟨sm,C,L1,⟨p,j,o5,rfl,bk,ag,r,rfl⟩|⟨⟨o5,rfl⟩,rfl,L',m',e1,e2,e3,e4,e5,e6⟩⟩
  .lk;rw[if_pos ∅];refine⟨λai H'=>∃n',n'<j+1/\Hi H1 b q t f J ks L U m g S N n' ai H',λ_ _ h=>h,?_⟩;have a1:L1.length<=80:=by
    rcases r with⟨_,rfl⟩|⟨_,rfl⟩
    .lia
    .rw[Z9,Yo];lia
   have pC:p∉C:=λc=>by
    have%[k,kl|hk]:=bk.far p c;have:=du a.nd bk.at_ hk
    lia
   have put:cP (TD L1 λx=>if x∈C then g x else m x) (Sum.inr p) (.str (g p))=TD (L++[f]) λx=>if x∈C++[p]then g x else m x:=by
    have fe:(λz=>if z=p then g p else if z∈C then g z else m z)=λx=>if x∈C++[p]then g x else m x:=funext λz=>by
     by_cases e:z=p
     .rw[if_pos e,if_pos (by rw[e];simp),e]
     .have:z∈C++[p]↔z∈C:=by rw[Yw,X3];exact or_iff_left e
      rw[if_neg e];simp only[this]
    rcases r with⟨rfl,rfl⟩|⟨fc,rfl⟩
    .obtain rfl:p=f:=bk.hf.resolve_left λh=>(nomatch h)
     rw[wB G,fe]
    .unfold TD;rw[wA (Yx _ (bk.own.resolve_left λe=>pC (e▸fc))),<-fe];exact congrArg (VD _) (funext λz=>by by_cases e:z=p<;> simp[e])
   refine%[_,(.inl %[_,Sum.inr p,.inr %[o|sm _ _ ac (s1 _ _ O)],rfl|(dF.2 (Z8 bk.at_)).symm]),_,iM.k (k:=Sum.inr p) ag (by unfold TD VD;rw[Z6];exact aA ⋯)|?_];rw[put];have u:upd H2 b (.dK (TD (L++[f]) λx=>if x∈C++[p]then g x else m x)) b=_:=aa;have d:∀c o,c≠b->H1 c=some o->upd H2 b (.dK (TD (L++[f]) λx=>if x∈C++[p]then g x else m x)) c=some o:=λc o n e=>(am n)▸sm c o n e
   have v:=d _ _ ab ht;have aj:f∈C++[p]:=by rw[Yw,X3];exact bk.hf.imp_right Eq.symm
   refine%[.inr (.inr (.inl (.inl %[_|v]))),Sum.inr (g p),rfl,_,v|?_];by_cases c:∃y∈L,m y=g p
   .have%[y,l|ym]:=c;have%[k,kl|al]:=bk.step M a h0 Y l ym;have iy:i (g p)=y:=ym▸hi y l;rw[dF.2 (Xv %[y,l|ym]),iy];exact%[k+1,⋯,d,C++[p],L++[f]|.inl %[y,k,_,rfl,al,u,.inr %[aj|rfl]|rfl]]
   .have no:∀y∈L,m y≠g p:=λy l e=>c %[y,l|e]
    have nn:bJ (TD (L.map m) i) (Sum.inr (g p))=none:=eK λh=>by
     have%[y,l|e]:=Xu h;exact no y l e
    rw[nn];have nd:(L++[f]).Nodup:=nodup_append.mpr %[M.nd,by simp|λx hx y hy e=>G (by rw[<-Xt hy,<-e];exact hx)];have%[e2,e3,_,e5|e6]:=bk.fin M a Y G no nd λx=>by rw[Yw,X3]
    exact%[0,⋯,d,[],[]|.inr %[%[_|rfl],rfl,L++[f],_,u,e2,e3,λx=>by rw[Yw,X3],e5|e6]]
  .lk;rw[if_neg ∅];exact kk H2 L' m' (λc o n e=>sm c o n (s1 _ _ e)) e1 e2 e3 e4 e5 e6
structure jL (ks:List _) (ns L:ZB) (m:Str->Str) (N:ZB):Prop where
 mat:Mat (Rch ks) L m
 mn:∀x∈L,m x∈N
 ln:∀x∈L,x∈ns
 sh:∃S T,lF (Rch ks) L m S T/\∀a∈N,(∃x∈L,m x=a)\/S a
inductive xF (vs:ZM) (H:Hp) (Q:VK) (E0:XK):Prop
 | mk (d ks rs ns):vs=[.ref d]->ReF H ks d rs->(∀x,x∈rs.map (·.1)↔x∈ns)->(∀x y,Rch ks x y->y∈ns)->ns.length<=80->ns.Nodup->(∀hb H' L m,ah H H'->H hb=none->H' hb=some (.dK (TD L m))->jL ks ns L m ns->Q (.ref hb) H')->xF vs H Q E0
def zA{L:ZB}{m:Str->Str}(nd:L.Nodup)(inj:∀x∈L,∀y∈L,m x=m y->x=y):(L.map m).Nodup:=by
 rw[X8,Xd];exact Xl (λ{x y} a b n e=>n (inj x a y b e)) (nodup_iff_pairwise_ne.mp nd)
def sV(T:Txt K mg):↥3 "most_pairs" ["partners"] xF:=by
 refine T.aN.cal cT (λH vs Q E h=>?_)
 .have%[d,ks,rs,ns,rfl,re,Y,rn,nl,nn|kk]:=h;refine%[rfl|λf bf A outer s hr=>?_];have%[o|hd]:=re.at_;have rl:rs.length<=80:=by
   have:=STab.nodup_sub re.nd λx b=>(Y x).mp b
   rw[Z6]at this
   lia
  refine%[_,%["JC=1klwCS~k0K2CH3G]$A0AY1AQA2BBC^4lkd?1~k3X0?2~C,0Y10DNL;bcA4BEDUG]%AY1A3AT4EBODIY1",cT.nd,(show bM (ao ic) ["partners","held_by","asker","asked_by","free"] _ ["partner","held_by"] [(1,1)]=true from by decide +kernel),(show(["partner","held_by"]:ZB).Nodup from by decide +kernel)|hr]|?_]
  show bd _ _ _ [!d,none,none,none,none] H;refine ap λD1 k1 _=>?_
  lk;intro z fb;refine k1 _ _ (ap λD2 k2 _=>az λab hK=>?_);have s1:=ah.upd (o:= .dK []) fb;have hh:upd H z (.dK []) z=some (.dK (TD [] id)):=aa
  generalize upd H z (.dK [])=H1 at s1 hh
  unfold ut;lk;have gl:(gD rs).length=rs.length:=Z6 _;refine%[_,_,s1 _ _ hd|hK _ _ (uu (λi G B=>(∃o2 o3 o4,G=[!d,!z,o2,o3,o4])/\ah H B/\∃(L:ZB) (m:Str->Str),B z=some (.dK (TD L m))/\jL ks ns L m ((rs.map (·.1)).take i))
   %[%[_,_,_|rfl],s1,[],id,hh,%[X9,λ_ h=>(nomatch h)|λ_ h=>(nomatch h)],λ_ h=>(nomatch h),λ_ h=>(nomatch h),λ_=>False,λ_=>False,%[λ_ h=>h.elim|λ_ h=>h.elim]|λ_ h=>(nomatch h)] (λi G B _ h=>h.2.1 _ _ hd) ?_ ?_)]
  .intro i k v G B hv %[%[o2,o3,o4|rfl],sm,L,m,hh|l];unfold gD at hv;rw[Zl]at hv;have%[r,ac|er]:=map_eq_some_iff.mp hv;obtain⟨rfl,rfl⟩:Sum.inr r.1=k/\V.ref r.2.1=v:=%[congrArg (·.1) er|congrArg (·.2) er]
   generalize ea:r.1=t at*
   have hN:(rs.map (·.1))[i]? =some t:=by rw[Zl,ac,<-ea];rfl
   have tk:(rs.map (·.1)).take (i+1)=(rs.map (·.1)).take i++[t]:=by rw[Xf,hN];rfl
   have a2:t∉(rs.map (·.1)).take i:=λc=>by
    have%[j|u]:=Xk c;have jl:=(Xr u).1;rw[Yp]at jl;rw[Ye ⋯]at u;have:=du re.nd u hN
    lia
   have a3:t∈ns:=(Y t).mp (Z8 hN);have ae:∀x∈(rs.map (·.1)).take i,x∈ns:=λx b=>(Y x).mp (X2 b)
   have Ll:L.length<=i:=by
    have:=STab.nodup_sub (zA l.mat.nd l.mat.inj) (m:=(rs.map (·.1)).take i) λy hy=>by
     have%[x,b|rfl]:=Xu hy;exact l.mn x b
    rw[Z6,Yp]at this
    lia
   have il:i<rs.length:=(Xr ac).1;show bd _ _ _ [!d,!z,-t,o3,o4] B;refine ap λD3 k3 _=>?_
   lk;refine%[#[1]|λal a4=>?_];have s2:=ah.upd (o:= .lst [V.str t]) a4;have ag:upd B al (.lst [V.str t]) al=some (.lst ([t].map V.str)):=aa;have M:=s2 _ _ hh;have N:=sm.trans s2
   generalize upd B al (.lst [V.str t])=H2 at ag M N ⊢
   refine%[d,z,al,ks,rs,ns,L,[t],m,rfl,re.up N,Y,rn,nl,nn,.inl M,λx b=>ae _ (l.mn x b),ag,λx b=>Xt b▸a3,(show 1<=80 by decide)|λq oq H3 U g s3 hq ask un a5=>k3 _ _ (ap λD4 k4 _=>aI λab hK=>?_)];have a6:=N.trans s3;have ai:=s3 _ _ M;have Ul:=STab.nodup_sub ask.nd un;unfold ut;lk;refine%[_,_,hq|hK _ _ λF hF=>?_];have ql:(TD U g).length=U.length:=Z6 _;refine bw (J:=Itk q oq (TD U g)) (n:=U.length) (D:=F) (λj vs G H4=>(∃o1,G=[o1,!z])/\ah H3 H4/\H4 F=some (.lst vs)/\vs=((U.take j).filter λx=>decide (x∉L)).map V.str)
    %[%[none|rfl],ah.upd hF,aa|rfl] (λj _ _ H4 u O=>%[O.2.1 _ _ hq|by rw[ql];exact u]) (λ_ _ H4 O=>%[O.2.1 _ _ hq|by exact ql▸Zi _]) ?_ ?_
   .intro j vs G H4 u %[%[o1|rfl],p,aj|rfl] x H5 %[e2,kx,vx,b|rfl];subst e2;unfold TD VD at b;rw[Zl,Z4 u]at b;obtain rfl:Sum.inr U[j]=kx:=congrArg (·.1) (Za b);lk;refine%[_,cB.k (k:=Sum.inr U[j]) (p _ _ ai)|bE (λc=>?_) λc=>?_]
    .have n:U[j]∉L:=λh=>by rw[dF.1.mpr h]at c;cases c
     refine CK.mk u aj (by rw[Z6];have:=Ym (λx=>decide (x∉L)) (U.take j);rw[Yp]at this;exact aA ⋯) %[%[_|rfl],ah.set p hF,aa|?_];rw[Xf,Z4 u,Y2,Zd];show _=_++(List.filter _ [U[j]]).map V.str;rw[Y4 (by simpa using n)];rfl
    .have n:U[j]∈L:=dF.1.mp (by cases h:(bJ (TD L m) (Sum.inr U[j])).isSome with
      | true=>rfl
      | false=>rw[h]at c;exact absurd rfl c)
     refine CN.mk u %[%[_|rfl],p,aj|?_];rw[Xf,Z4 u,Y2,Zd];show _=_++(List.filter _ [U[j]]).map V.str;rw[Y3 (by simpa using n)];simp
   intro vs G H4 %[_,p,C|rfl];rw[Zn (Zi _)]at C;refine k4 _ _ (aB λD5 k5 _=>?_);have I:=a6.trans p;have an:=p _ _ ai;have%[S,T',sh|all]:=l.sh;lk;have h0:∀x∈L,m x≠t:=λx b e=>a2 (e▸l.mn x b)
   have mt:∀{a},a∈(rs.map (·.1)).take (i+1)↔a∈(rs.map (·.1)).take i\/a=t:=λ{a}=>by rw[tk,Yw,X3]
   have fl:∀{x},x∈U.filter (λx=>decide (x∉L))↔x∈U/\x∉L:=λ{x}=>by rw[List.mem_filter,decide_eq_true_iff]
   generalize U.filter (λx=>decide (x∉L))=Fr at C fl
   have vl:(Fr.map V.str).length=Fr.length:=Z6 _;refine%[Fr.length,.inl %[_,SqL.of C|vl.symm]|bE (λc=>?_) λc=>?_]
   .have c:0<Fr.length:=by have:=Zo c;lia
    have%[fU|fL]:=fl.mp (Yg c);refine%[_,SqL.of C,.str Fr[0],cj (by rw[Zl,Z4 c];rfl),z,q,oq,Fr[0],t,ks,L,U,m,g,S,T',rfl,an,p _ _ hq,⋯,l.mat,ask,h0,sh,fU,fL|λH5 L' m' keep a7 a1 bb bc e5 e6=>k5 _ _ %[%[_,_,_|rfl],λc o e=>keep c o (ay e fb) (I _ _ e),L',m',a7,a1,λx b=>?_,λx b=>?_,S,T',bb|λa ha=>?_]]
    .rcases e5 x b with e|⟨y,yl,e⟩
     .exact mt.mpr (.inr e)
     .exact mt.mpr (.inl (e▸l.mn y yl))
    .exact((bc x).mp b).elim (l.ln x) λe=>e▸un _ fU
    .rcases mt.mp ha with h|h
     .exact(all a h).imp_left λh=>e6 a (.inr h)
     .exact .inl (e6 a (.inl h))
   .have e:∀x∈U,x∈L:=λx b=>Decidable.byContradiction λn=>by
     have:=fl.mpr %[b|n];cases Fr with
     | nil=>cases this
     | cons y Fr=>exact c (Zf (by rw[Zr];lia))
    refine k5 _ _ %[%[_,_,_|rfl],I,L,m,an,l.mat,λx b=>mt.mpr (.inl (l.mn x b)),l.ln,_,_,sh.or (Ask.closed e ((a5.resolve_left λ⟨f,h1,h2⟩=>h2 (e f h1)).2))|λa ha=>?_];rcases mt.mp ha with h|h
    .exact(all a h).imp_right .inl
    .exact .inr (.inr (.inl (h▸Zm)))
  .intro G B %[%[o2,o3,o4|rfl],sm,L,m,hh|l];rw[gl,<-Z6 (f:=(·.1)) (as:=rs),Zn (Zi _)]at l;refine k2 _ _ ?_;lk;have%[S,T',sh|all]:=l.sh;exact kk z B L m sm fb hh %[l.mat,λx b=>(Y _).mp (l.mn x b),l.ln,S,T',sh|λa ha=>all a ((Y a).mpr ha)]
open Classical in
abbrev dep(ks:List ZB)(ns:ZB)(x:Str):Nat:=(ns.filter λy=>decide (Rch ks x y)).length
open Classical in
def BZ(a:ns.Nodup)(b:∀x,¬ Rch ks x x)(r:Rch ks x y)(c:y∈ns):dep ks ns y<dep ks ns x:=by
 unfold dep;have:=STab.nodup_sub (l:=y::ns.filter λz=>decide (Rch ks y z)) (m:=ns.filter λz=>decide (Rch ks x z)) (nodup_cons.mpr %[λh=>b y (Zo (List.mem_filter.mp h).2)|a.filter _]) λz d=>by
  rcases mem_cons.mp d with rfl|h
  .exact List.mem_filter.mpr %[c|Zf r]
  .exact List.mem_filter.mpr %[(List.mem_filter.mp h).1|Zf (r.trans (Zo (List.mem_filter.mp h).2))]
 rw[Zr]at this
 lia
open Classical in
def B0(x:Str):dep ks ns x<=ns.length:=Ym _ _
structure B1 (W:ZB) (i:Str->Str) (f:Str) (zs:ZB):Prop where
 hd:zs[0]? =some f
 st:∀(k:Nat) (x y:Str),zs[k]? =some x->zs[k+1]? =some y->x∈W/\y=i x
 en:∀(k:Nat) (x:Str),zs[k]? =some x->x∈W->∃y,zs[k+1]? =some y
def DH{a:Type}{zs:List a}{y z x:a}{k:Nat}(h:(zs++[y] ++[z])[k+1]? =some x):(zs++[y])[k+1]? =some x\/(k=zs.length/\x=z):=by
 by_cases c:k+1<(zs++[y]).length
 .rw[Ya c]at h;exact .inl h
 .have l:=(Xr h).1;rw[Z9,Z9,Yo,Yo]at l;rw[Z9,Yo]at c;obtain rfl:k=zs.length:=by lia
  refine .inr %[rfl|?_];rw[Yb ∅,show zs.length+1-(zs++[y]).length=0 by simp]at h;exact(Za h).symm
inductive xG (vs:ZM) (H:Hp) (Q:VK) (E0:XK):Prop
 | mk (f:Str) (e:Addr) (ks:List ZB) (ns W:ZB) (i:Str->Str):vs=[.str f,.ref e]->H e=some (.dK (TD W i))->(∀a∈W,Rch ks a (i a)/\i a∈ns)->(∀x,¬ Rch ks x x)->ns.Nodup->ns.length<=80->(∀r H' (zs:ZB),ah H H'->H r=none->H' r=some (.lst (zs.map V.str))->B1 W i f zs->Q (.ref r) H')->xG vs H Q E0
abbrev Hj(H:Hp)(f:Str)(e r:Addr)(ks:List ZB)(ns W:ZB)(i:Str->Str)(n:Nat)(b:L2.St)(a:Hp):Prop:=b=[-f,!e,!r]/\ah H a/\∃(zs:ZB) (y:Str),a r=some (.lst ((zs++[y]).map V.str))/\n=dep ks ns y/\zs.length+n<=80/\(zs++[y])[0]? =some f/\∀(k:Nat) (x u:Str),(zs++[y])[k]? =some x->(zs++[y])[k+1]? =some u->x∈W/\u=i x
def jL.size(d:ns.Nodup)(h:jL ks ns L m ns)(h':jL ks ns j p ns):(ns.filter λx=>decide (x∉L)).length<=(ns.filter λx=>decide (x∉j)).length:=by
 have%[S,T,f|all]:=h.sh
 let lf:=λx=>open Classical in if T x then x else m x
 refine Yk (Bx d h.mat.nd h.ln (lf:=L.map lf) (Z6 _)) (Dt (λa b c h k=>h.trans k) d h'.mat h'.mn (d.filter _) (λx l=>(List.mem_filter.mp l).1) λa g b n r=>?_);rcases Classical.em _ with s|s
 .have i:=f.nb a s b r;exact(Zo (List.mem_filter.mp n).2) (Xv %[b,(f.mt b i).1|if_pos i])
 .have%[x,o|e]:=(all a (List.mem_filter.mp g).1).resolve_right s;exact(Zo (List.mem_filter.mp g).2) (Xv %[x,o|(if_neg λt=>s (e▸(f.mt x t).2)).trans e])
def jL.of(h:jL ks ns L m ns)(e:∀x,x∈ns↔x∈c):jL ks c L m c:=by
 have%[S,T,d|all]:=h.sh;exact%[h.mat,λx b=>(e _).mp (h.mn x b),λx b=>(e x).mp (h.ln x b),S,T,d|λa f=>all a ((e a).mpr f)]
def Ee(d:∀k∈lk,dI c k)(e:Ed lk a b):a∈c/\b∈c:=by
 have%[z|f]:=e;have%[x,y,u,e,g|h]:=d _ f
 grind
def Gf(c:∀k∈lk,dI d k)(r:Rch lk a b):a∈d/\b∈d:=by
 induction r with
 | one e=>exact Ee c e
 | more _ e f=>exact%[f.1|(Ee c e).2]
def Hk{ns b:ZB}(c:ns.Nodup)(d:b.Nodup)(e:∀x,x∈ns↔x∈b)(p:Str->Bool):(ns.filter p).length=(b.filter p).length:=
 Nat.le_antisymm (STab.nodup_sub (c.filter _) λx a=>List.mem_filter.mpr %[(e x).mp (List.mem_filter.mp a).1|(List.mem_filter.mp a).2]) (STab.nodup_sub (d.filter _) λx a=>List.mem_filter.mpr %[(e x).mpr (List.mem_filter.mp a).1|(List.mem_filter.mp a).2])
structure Rws (lk:List ZB) (ns:ZB) (rs:ZG):Prop where
 hd:∃hs:ZB,rs.map (λt=>t.2[0]?)=hs.map some/\hs.Nodup/\hs.Pairwise (λa b=>aO b a=false)
 st:∀t∈rs,∀(k:Nat) (x y:Str),t.2[k]? =some x->t.2[k+1]? =some y->Rch lk x y
 pm:(rs.flatMap (·.2)).Perm ns
open Classical in
def Rws.mk'{lk:List ZB}{ns L:ZB}{m i:Str->Str}{rs:ZG}(B:ns.Nodup)(so:ns.Pairwise (λa b=>aO b a=false))(U:∀x,¬ Rch lk x x)(p:jL lk ns L m ns)(hi:∀x∈L,i (m x)=x)(Y:∀t∈rs,∃f,B1 (L.map m) i f t.2)(E:rs.map (λt=>t.2[0]?)=(ns.filter λx=>decide (x∉L)).map some):Rws lk ns rs:=by
 have nx:∀t∈rs,∀(k:Nat) (x y:Str),t.2[k]? =some x->t.2[k+1]? =some y->y∈L/\m y=x:=λt d k x y g o=>by
  have%[f|r]:=Y t d;have%[G|H]:=r.st k x y g o;have%[z,zl|rfl]:=Xu G;rw[H,hi z zl];exact%[zl|rfl]
 have I:∀t∈rs,∀x,t.2[0]? =some x->x∈ns/\x∉L:=λt d x g=>by
  have:t.2[0]? ∈rs.map (λt=>t.2[0]?):=Xv %[t,d|rfl];rw[E,mem_map]at this;have%[y,o|e]:=this;rw[g]at e;obtain rfl:=Za e;exact%[(List.mem_filter.mp o).1|Zo (List.mem_filter.mp o).2]
 have q:∀{zs:ZB} {k:Nat} {y:Str},zs[k+1]? =some y->∃x,zs[k]? =some x:=λ{zs k y} h=>%[_|Z4 (by have:=(Xr h).1;lia)]
 have C:∀(k j:Nat) (t u:Addr×ZB) (x:Str),t∈rs->u∈rs->t.2[k]? =some x->u.2[j]? =some x->k=j/\t.2[0]? =u.2[0]? :=by
  intro k
  induction k with
  | zero=>
    intro j t u x d s g o;cases j with
    | zero=>exact%[rfl|g.trans o.symm]
    | succ j=>
      have%[w|hw]:=q o;exact((I t d x g).2 (nx u s j w x hw o).1).elim
  | succ k J=>
    intro j t u x d s g o;have%[w|hw]:=q g;have%[xl|e]:=nx t d k w x hw g;cases j with
    | zero=>exact((I u s x o).2 xl).elim
    | succ j=>
      have%[v|M]:=q o;have e2:=(nx u s j v x M o).2;rw[<-e2,e]at M;have%[G|H]:=J j t u w d s hw M;exact%[by rw[G]|H]
 have N:∀(n:Nat) (x:Str),x∈ns->ns.length-dep lk ns x<=n->∃t∈rs,x∈t.2:=by
  intro n
  induction n with
  | zero=>
    intro x g le;have:=STab.nodup_sub (l:=x::ns.filter λy=>decide (Rch lk x y)) (m:=ns) (nodup_cons.mpr %[λh=>U x (Zo (List.mem_filter.mp h).2)|B.filter _]) λz hz=>by
     rcases mem_cons.mp hz with rfl|h
     .exact g
     .exact(List.mem_filter.mp h).1
    rw[Zr]at this;unfold dep at le
    lia
  | succ n J=>
    intro x g le;by_cases c:x∈L
    .have lt:=BZ (ns:=ns) B U (p.mat.ed x c) g;have:=B0 (ks:=lk) (ns:=ns) (m x);have%[t,d|hm]:=J (m x) (p.mn x c) ⋯;have%[k|A]:=Xk hm;have%[f|r]:=Y t d;have%[y|o]:=r.en k _ A (Xv %[x,c|rfl]);have%[O|e]:=nx t d k _ y A o;exact%[t,d|by rw[<-p.mat.inj y O x c e];exact Z8 o]
    .have:some x∈(ns.filter λx=>decide (x∉L)).map some:=Xv %[x,List.mem_filter.mpr %[g|Zf c]|rfl];rw[<-E,mem_map]at this;have%[t,d|e]:=this;exact%[t,d|Z8 e]
 refine%[%[_,E,B.filter _|so.filter _],λt d k x y g o=>?_|?_]
 .have%[O|rfl]:=nx t d k x y g o;exact p.mat.ed y O
 .refine(List.perm_ext_iff_of_nodup ?_ B).mpr λx=>%[λh=>?_|λh=>?_]
  .have hn:(rs.map λt=>t.2[0]?).Nodup:=by
    rw[E,X8,Xd];exact(nodup_iff_pairwise_ne.mp (B.filter _)).imp λn e=>n (Za e)
   rw[X8,Xd]at hn;rw[X8,List.pairwise_flatMap];refine%[λt d=>pairwise_iff_getElem.mpr λa b Q T lt e=>?_|Xl (λ{t u} d s ne x g y o e=>?_) hn]
   .have:=(C a b t t t.2[a] d d (Z4 Q) (by rw[e];exact Z4 T)).1
    lia
   .subst e;have%[a|Q]:=Xk g;have%[b|T]:=Xk o;exact ne (C a b t u x d s Q T).2
  .have%[t,d|g]:=mem_flatMap.mp h;have%[k|A]:=Xk g;cases k with
   | zero=>exact(I t d x A).1
   | succ k=>
     have%[w|hw]:=q A;exact p.ln x (nx t d k w x hw A).1
  .have%[t,d|g]:=N _ x h (Zi _);exact mem_flatMap.mpr %[t,d|g]
structure Hl (H0 H:Hp) (l:Addr) (rs:ZG):Prop where
 at_:H l=some (.lst (rs.map λt=>V.ref t.1))
 in_:∀t∈rs,H0 t.1=none/\t.1≠l/\H t.1=some (.lst (t.2.map V.str))
 nd:(rs.map (·.1)).Nodup
inductive B2 (mg:ZC) (vs:ZM) (H:Hp) (Q:VK) (E0:XK):Prop
 | mk (g:Addr) (qs:ZN) (ls:ZB) (ts:ZG):vs=[.ref g]->iO mg H g qs ls ts->(∀lk,br (bv qs) (ts.map (·.2)) lk->∀x,¬ Rch lk x x)->(∀l H' lk (ns L:ZB) (m:Str->Str) (rs:ZG),ah H H'->br (bv qs) (ts.map (·.2)) lk->mF (bv qs) ls ns->jL lk ns L m ns->H l=none->Hl H H' l rs->Rws lk ns rs->rs.length=(ns.filter λx=>decide (x∉L)).length->Q (.ref l) H')->B2 mg vs H Q E0
def wC(T:Txt K mg):↥1 "row_from" ["first","earlier_behind"] xG:=by
 refine T.aX.cal mz (λH vs Q E h=>?_)
 .have%[f,e,ks,ns,W,i,rfl,v,hi,L,M,nl|N]:=h;refine%[rfl|λ_ J A outer s t=>?_];refine%[_,%["JCH2QA0BC<~$T2.E1DUea2Ai1T2.EBDI2",mz.nd|t]|?_]
  show bd _ _ _ [-f,!e,none] H;refine ap λD1 k1 _=>?_
  lk;refine%[#[1]|λr p=>k1 _ _ (ap λD2 k2 _=>?_)];have z:=ah.upd (o:= .lst [V.str f]) p;have B:upd H r (.lst [V.str f]) r=some (.lst (([] ++[f]).map V.str)):=aa
  generalize upd H r (.lst [V.str f])=H1 at z B
  refine%[Hj H f e r ks ns W i,%[_,rfl,z,[],f,B,rfl,by rw[length_nil,zero_add];exact Yk (B0 f) nl,rfl|λk x u _ h=>by simp at h]|?_];intro n σ O %[rfl,d,zs,y,a,rfl,le,C|st];rw[Zd]at a;lk;refine%[_,SqL.of a,_,j8 _ _,_,cB.k (k:=Sum.inr y) (d _ _ v)|bE (λc=>?_) λc=>?_]
  .have j:=dF.1.mp c;have g:=cB.k (k:=Sum.inr y) (d _ _ v);rw[dF.2 j]at g;have lt:=BZ M L (hi y j).1 (hi y j).2;refine⟨λq U=>∃G,G<dep ks ns y/\Hj H f e r ks ns W i G q U,λ_ _ h=>h,.inl %[_|SqL.of a],_,SqL.of a,_,j8 _ _,_,g,_,a,by rw[Z9,Z6,List.map_singleton,Yo];exact aA ⋯,_,lt,rfl,ah.set d p,zs++[y],i y,by rw[aa,Zd,Zd];rfl,rfl,by rw[Z9,Yo];lia,by rw[Ya ∅];exact C,λk x u b I=>?_⟩;have m:k<(zs++[y]).length:=by
    have:=(Xr I).1;rw[Z9,Yo]at this
    lia
   rw[Ya m]at b;rcases DH I with h|⟨rfl,rfl⟩
   .exact st k x u b h
   .rw[Yb (Zi _),Xe]at b;obtain rfl:y=x:=Za b;exact%[j|rfl]
  .refine k2 _ _ ?_;lk;refine N r O (zs++[y]) d p (by rw[a,Zd]) %[C,st|λk x b Y=>?_];by_cases m:k+1<(zs++[y]).length
   .exact%[_|Z4 m]
   .have l:=(Xr b).1;rw[Z9,Yo]at l m;obtain rfl:k=zs.length:=by lia
    rw[Yb (Zi _),Xe]at b;obtain rfl:y=x:=Za b;exact(c (dF.1.mpr Y)).elim
def fZ(T:Txt K mg):↥8 "fewest_rows" ["ground"] (B2 mg):=by
 refine T.aW.cal fz (λH vs Q E h=>?_)
 .have%[g,qs,ls,ts,rfl,hg,nr|kk]:=h;refine%[rfl|λf as A outer s hr=>?_];have%[c2,c3,c4|gr]:=hg.gr;have ll:=hg.ll;have q:∀{ns:ZB},mF (bv qs) ls ns->ns.length<=80:=λ{ns} z=>by
   have:=STab.nodup_sub z.nd λx hx=>((z.mem x).mp hx).1
   lia
  refine%[_,%["JC=1klG]&AG]'A0BBC=2klG~/AY1BDIsd?1PG~WA0BX0?2~C,0Y2G](A0AY1B",fz.nd,(show bM (ao fW) ["ground","later_ahead","earlier_behind"] _ ["name","earlier_behind","later_ahead"] [(1,2),(2,1)]=true from by decide +kernel),(show(["name","earlier_behind","later_ahead"]:ZB).Nodup from by decide +kernel)|hr]|?_]
  show bd _ _ _ [!g,none,none] H;refine ap λD1 k1 _=>?_
  lk;refine%[g,qs,ls,ts,rfl,hg,nr|λd H1 rs lk ns s1 B z re rk=>%[d,lk,rs,ns,rfl,re,rk,λx y r=>(Gf (hg.names B z) r).2,q z,z.nd|λhb H2 L m s2 fb hh U=>k1 _ _ (ap λD2 k2 _=>?_)]];have ae:=s1.trans s2;have Ll:=STab.nodup_sub U.mat.nd U.ln;have ag:=q z;lk;refine%[hb,L,m,rfl,.inl hh,⋯,U.mat.nd,U.mat.inj|λt H3 i s3 ft v hi=>k2 _ _ ?_];have C:=ae.trans s3;refine aI λan hK=>?_
  lk;refine%[g,c2,c3,c4,qs,ls,ts,rfl,gr.up C,hg.nd,hg.so,⋯|λM H4 o s4 fm hm u=> .inl %[M,rfl,%[_|SqL.of hm]|hK _ _ λF hF=>?_]];have ai:=s4 _ _ (s3 _ _ hh);have a0:=q u;refine bw (J:=Itl K M) (n:=o.length) (D:=F) (λj vs σ N=>(∃o1,σ=[o1,!t,!hb])/\ah H4 N/\N F=some (.lst vs)/\∃rs:ZG,vs=rs.map (λt=>V.ref t.1)/\(∀t∈rs,H4 t.1=none/\t.1≠F/\N t.1=some (.lst (t.2.map V.str)))/\(rs.map (·.1)).Nodup/\(∀t∈rs,∃f,B1 (L.map m) i f t.2)/\rs.map (λt=>t.2[0]?)=((o.take j).filter λx=>decide (x∉L)).map some)
   %[%[none|rfl],ah.upd hF,aa,[],rfl,λ_ h=>(nomatch h),X9,λ_ h=>(nomatch h)|rfl] (λj _ _ N hj Y=>%[_,V.str o[j],SqL.of (Y.2.1 _ _ hm)|by simp]) (λ_ _ N Y=>%[_,SqL.of (Y.2.1 _ _ hm)|by simp]) ?_ ?_
  .intro j vs σ N hj %[%[o1|rfl],O,ab,rs,rfl,p,G,I|l] x H6 %[e2|hx];subst e2;have ac:=hx _ (SqL.of (O _ _ hm));have rl:rs.length<=80:=by
    have:=congrArg List.length l;have l2:=Ym (λx=>decide (x∉L)) (o.take j);rw[Z6,Z6]at this;rw[Yp]at l2
    lia
   rw[Zl,Z4 hj]at ac;obtain rfl:x=V.str o[j]:=(Za ac).symm;have tk:o.take (j+1)=o.take j++[o[j]]:=by rw[Xf,Z4 hj];rfl
   lk;refine%[_,cB.k (k:=Sum.inr o[j]) (O _ _ ai)|bE (λc=>?_) λc=>?_]
   .have n:o[j]∉L:=λh=>by rw[dF.1.mpr h]at c;cases c
    refine%[o[j],t,lk,ns,L.map m,i,rfl,O _ _ (s4 _ _ v),λa ha=>?_,nr _ B,z.nd,ag|λr H6 zs s6 fr aj rk=>?_]
    .have%[x,xl|rfl]:=Xu ha;rw[hi x xl];exact%[U.mat.ed x xl|U.ln x xl]
    .have rF:r≠F:=λc=>by rw[c,ab]at fr;cases fr
     refine CK.mk hj (s6 _ _ ab) (by rw[Z6];exact aA ⋯) %[%[_|rfl],ah.set (O.trans s6) hF,aa,rs++[(r,zs)],by rw[Zd];rfl,λt' v=>?_,?_,λt' v=>?_|?_]
     .rcases Xs v with h|h
      .have%[h1,h2|h3]:=p t' h;exact%[h1,h2|(am h2).trans (s6 _ _ h3)]
      .rw[Xt h];exact%[O.free fr,rF|(am rF).trans aj]
     .rw[Zd,X7];refine%[G,by simp|λa ha b hb e=>?_];have%[t',v|rfl]:=Xu ha;have h3:=(p t' v).2.2;rw[e,show b=r from Xt hb,fr]at h3;cases h3
     .rcases Xs v with h|h
      .exact I t' h
      .rw[Xt h];exact%[_|rk]
     .rw[tk,Y2,Y4 (by simpa using n),Zd,Zd,l];show _++[zs[0]?]=_;rw[rk.hd];rfl
   .have n:o[j]∈L:=dF.1.mp (by cases h:(bJ (TD L m) (Sum.inr o[j])).isSome with
     | true=>rfl
     | false=>rw[h]at c;exact absurd rfl c)
    refine CN.mk hj %[%[_|rfl],O,ab,rs,rfl,p,G,I|?_];rw[tk,Y2,Y3 (by simpa using n),l];simp
  intro vs σ N %[_,O,al,rs,rfl,p,G,I|l];rw[Zn (Zi _)]at l;have pm:=U.of (λx=>(z.mem x).trans (u.mem x).symm);exact kk F N lk o L m rs (C.trans (s4.trans O)) B u pm ((C.trans s4).free hF) %[al,λt' v=>%[(C.trans s4).free (p t' v).1|(p t' v).2]|G] (Rws.mk' u.nd u.so (nr _ B) pm hi I l) (by have:=congrArg List.length l;rwa[Z6,Z6]at this)
abbrev pX(k:Nat)(d:Str->Nat)(new:Gs Str)(x:Str):V:= .int ((if x∈new.map (·.1)then k+1 else d x:Nat))
abbrev Hm(H:Hp)(l d:Addr)(st:Str)(ss:ZG)(m:Nat)(c:L2.St)(a:Hp):Prop:=∃(e:Addr) (k:Nat) (f g h i:Option V) (F:ZB) (rs:Gs Str) (b:Str->Nat),c=[!l,-st,!d,!e,some (.int k),f,g,h,i]/\ah H a/\a e=some (.lst (F.map V.str))/\a d=some (.dK (VD (rs.map (·.1)) λx=> .int (b x)))/\ReB ss rs/\Lev (ss.map (·.2)) st rs b k F/\m=2*(98-rs.length) +F.length.min 1
inductive uW (vs:ZM) (H:Hp) (Q:VK) (E0:XK):Prop
 | mk (l:Addr) (st:Str) (ns:ZB) (ss:ZG):vs=[.ref l,.str st]->H l=some (.lst (ss.map λt=>V.ref t.1))->dE H ns ss->ss.length<=98->(∀d H' (R:ZB) (f:Str->Nat),ah H H'->H d=none->H' d=some (.dK (VD R λx=> .int (f x)))->R.length<=98->(∀x,x∈R↔Rch (ss.map (·.2)) st x)->Q (.ref d) H')->uW vs H Q E0
def uX(T:Txt K mg):↥1 "_law_steps" ["_law_some","_law_begin"] uW:=by
 refine T.bq.cal bz (λH vs Q E h=>?_)
 .have%[l,st,ns,ss,rfl,hl,as,a6|kk]:=h;refine%[rfl|λf a5 A outer s M=>?_];have a0:(ss.map λt=>V.ref t.1).length=ss.length:=Z6 _;refine%[_,%["JCH2wCH3QA1BCH4EC<L])3QBCH4Fy4ECH5QBCSP0fMK6MK7MK8gDNZxL_63(,72Cu427DUea5A7BODH35DI2",bz.nd|M]|?_]
  show bd _ _ _ [!l,-st,none,none,none,none,none,none,none] H;refine ap λD1 k1 _=>?_
  lk;intro d fd;refine k1 _ _ (ap λD2 k2 _=>?_);have s1:=ah.upd (o:= .dK []) fd;have j:upd H d (.dK []) d=some (.dK (VD (([]:Gs Str).map (·.1)) λ_=> .int (0:Nat))):=aa
  generalize upd H d (.dK [])=H1 at s1 j
  lk;refine%[#[1]|λe fe=>k2 _ _ (ap λD3 k3 _=>?_)];have s2:=ah.upd (o:= .lst [V.str st]) fe;have u:upd H1 e (.lst [V.str st]) e=some (.lst ([st].map V.str)):=aa;have j:=s2 _ _ j;have ac:=s1.trans s2
  generalize upd H1 e (.lst [V.str st])=H2 at ac u j
  lk;refine k3 _ _ (ap λD4 k4 _=>?_);refine%[Hm H l d st ss,%[_,e,0,none,none,none,none,[st],[],_,rfl,ac,u,j,%[X9|λ_ h=>(nomatch h)],.nil|rfl]|?_];intro m σ H3 %[e,k,o5,o6,o7,o8,F,rs,J,rfl,C,u,j,ae,ab|rfl];have Rl:=ae.len;lk;refine%[#[0]|λp fp=>%[F.map V.str,ah.upd fp _ _ u,aa|bE (λh=>?_) λh=>?_]]
  .have s3:=ah.upd (o:= .lst []) fp;have u:=s3 _ _ u;have j:=s3 _ _ j;have C:=C.trans s3
   generalize upd H3 p (.lst [])=H4 at u j C ⊢
   refine⟨λa1 I=>∃m',m'<2*(98-rs.length) +F.length.min 1/\Hm H l d st ss m' a1 I,λ_ _ h=>h,#[0],λN G=>az λa4 hK=>?_⟩;have s4:=ah.upd (o:= .lst []) G;have ag:upd H4 N (.lst []) N=some (.lst ((([]:Gs Str).map (·.1)).map V.str)):=aa;have mod:N≠d:=λc=>by rw[c,j]at G;cases G
   have a2:N≠e:=λc=>by rw[c,u]at G;cases G
   have ed:e≠d:=λc=>by rw[c,j]at u;cases u
   have G:=C.free G;have u:=s4 _ _ u;have j:=s4 _ _ j;have C:=C.trans s4
   generalize upd H4 N (.lst [])=H5 at ag u j C ⊢
   lk;refine .inl %[%[_|SqL.of (C _ _ hl)]|hK _ _ ?_];refine aZ (xs:=ss.map λt=>V.ref t.1) (λi σ I=>(∃o6 o7 o8,σ=[!l,-st,!d,!e,some (.int ((k:Int) +1)),!N,o6,o7,o8])/\ah H I/\I e=some (.lst (F.map V.str))/\∃new:Gs Str,I N=some (.lst ((new.map (·.1)).map V.str))/\I d=some (.dK (VD ((rs++new).map (·.1)) (pX k J new)))/\ReB ss (rs++new)/\(∀r∈new,∃p z,p∈F/\r.2.2=[p,r.1,z])/\∀t∈ss.take i,∀x y,t.2[0]? =some x->t.2[1]? =some y->x∈F->y∈(rs++new).map (·.1))
    %[%[_,_,_|rfl],C,u,[],ag,by rw[Zz];exact j,by rw[Zz];exact ae,λr M=>(nomatch M)|λt ht=>(nomatch ht)] (λi σ I _ h=>SqL.of (h.2.1 _ _ hl)) ?_ ?_
   .intro i v σ I U %[%[o6,o7,o8|rfl],C,u,new,Y,j,b,L|B];rw[Zl]at U;have%[t,ht|rfl]:=map_eq_some_iff.mp U;have ai:=Z8 ht;have%[aj,x,y,z,et|_]:=as t ai;rw[et]at aj;have tk:ss.take (i+1)=ss.take i++[t]:=by rw[Xf,ht];rfl
    have a3:=b.len;rw[Z9]at a3;have go:∀M':Gs Str,(∀a∈(rs++new).map (·.1),a∈(rs++M').map (·.1))->(x∈F->y∈(rs++M').map (·.1))->∀t∈ss.take (i+1),∀x y,t.2[0]? =some x->t.2[1]? =some y->x∈F->y∈(rs++M').map (·.1):=λM' mono hy t' al x' y' e1 e2 an=>by
     rw[tk]at al;rcases Xs al with q|q
     .exact mono y' (B t' q x' y' e1 e2 an)
     .rw[Xt q,et]at e1 e2;obtain rfl:x=x':=Za e1;obtain rfl:y=y':=Za e2;exact hy an
    refine%[_,SqT.of (C _ _ aj),rfl,_,_,rfl,_,_,rfl,_,_,rfl,rfl|?_];show lh _ _ _ _ [!l,-st,!d,!e,some (.int ((k:Int) +1)),!N,-x,-y,-z] I;refine aB λD5 k5 _=>?_
    lk;refine%[_,.inl (SqL.of u),rfl,by simp[fE]|?_];rw[xj];refine bE (λO=>?_) λO=>?_
    .have O:=Zo O;refine%[_,cB.k (k:=Sum.inr y) j|bE (λU=>?_) λU=>?_]
     .have hy:y∉(rs++new).map (·.1):=λc=>by rw[fY c]at U;cases U
      refine%[_,iM.k (k:=Sum.inr y) j (by unfold VD;rw[Z6,Z6,Z9];exact aA ⋯)|?_];rw[d8 _ (eK hy)];have e1:VD ((rs++new).map (·.1)) (pX k J new) ++[(Sum.inr y,V.int ((k:Int) +1))]=VD ((rs++(new++[(y,t.1,[x,y,z])])).map (·.1)) (pX k J (new++[(y,t.1,[x,y,z])])):=by
       have e0:(rs++(new++[(y,t.1,[x,y,z])])).map (·.1)=(rs++new).map (·.1) ++[y]:=by simp
       have yn:y∈(new++[(y,t.1,[x,y,z])]).map (·.1):=by simp
       unfold VD;rw[e0,Zd (l₂:=[y])];rw[List.map_singleton,show pX k J (new++[(y,t.1,[x,y,z])]) y= .int ((k:Int) +1) by unfold pX;rw[if_pos yn];rfl];refine congrArg (λl=>l++[(Sum.inr y,V.int ((k:Int) +1))]) (Yt λa ha=>?_);have:a∈(new++[(y,t.1,[x,y,z])]).map (·.1)↔a∈new.map (·.1):=by
        rw[Zd,Yw];exact or_iff_left λc=>hy (by rw[<-show a=y from Xt c];exact ha)
       unfold pX;simp only[this]
      rw[e1];have u1:∀c o,c≠d->I c=some o->upd I d (.dK (VD ((rs++(new++[(y,t.1,[x,y,z])])).map (·.1)) (pX k J (new++[(y,t.1,[x,y,z])])))) c=some o:=λc o h e=>by rw[am h];exact e
      have ud:upd I d (.dK (VD ((rs++(new++[(y,t.1,[x,y,z])])).map (·.1)) (pX k J (new++[(y,t.1,[x,y,z])])))) d=_:=aa;have v1:=ah.set (o:= .dK (VD ((rs++(new++[(y,t.1,[x,y,z])])).map (·.1)) (pX k J (new++[(y,t.1,[x,y,z])])))) C fd
      generalize upd I d (.dK (VD ((rs++(new++[(y,t.1,[x,y,z])])).map (·.1)) (pX k J (new++[(y,t.1,[x,y,z])]))))=H6 at u1 ud v1
      have Y:=u1 _ _ mod Y;have R:=b.snoc (p:=x) (y:=y) (z:=z) (a:=t.1) (by rw[<-et];exact ai) hy;rw[Ze]at R;refine%[.inl %[_|SqL.of Y],_,Y,by rw[Z6,Z6];exact aA ⋯|k5 _ _ %[%[_,_,_|rfl],ah.set v1 G,(am a2.symm).trans (u1 _ _ ed u),new++[(y,t.1,[x,y,z])],by rw[aa,Zd,Zd];rfl,(am mod.symm).trans ud,R,λr M=>?_|go _ (λa ha=>?_) λ_=>?_]]
      .rcases Xs M with q|q
       .exact L r q
       .rw[Xt q];exact%[x,z,O|rfl]
      .rw[<-Ze,Zd];exact Yx _ ha
      .rw[<-Ze,Zd];exact Yy _ Zm
     .have hy:y∈(rs++new).map (·.1):=Decidable.byContradiction λc=>by rw[eK c]at U;exact U rfl
      exact k5 _ _ %[%[_,_,_|rfl],C,u,new,Y,j,b,L|go new (λ_ h=>h) λ_=>hy]
    .exact k5 _ _ %[%[_,_,_|rfl],C,u,new,Y,j,b,L|go new (λ_ h=>h) λc=>absurd (Zf c) O]
   .intro σ I %[%[o6,o7,o8|rfl],C,u,new,Y,j,b,L|B];rw[a0,Zn (Zi _)]at B;dsimp only;lk;have ln:=b.len;rw[Z9]at ln;have F1:F.length.min 1=1:=by
     cases F with
     | nil=>exact absurd h ∅
     | cons x F=>exact Nat.min_eq_right (by rw[Zr];lia)
    refine%[_,?_,N,k+1,_,_,_,_,new.map (·.1),rs++new,_,rfl,C,Y,j,b,ab.step b.nd (λr M=>%[Xv %[_,(b.sub r (Yy _ M)).1|rfl]|L r M]) λx O y ⟨z,hz⟩=>?_|rfl]
    .rw[F1,Z9,Z6];cases new with
     | nil=>simp
     | cons a r=>
       rw[Zr]at ln ⊢;have:(r.length+1).min 1<=1:=Nat.min_le_right _ _
       lia
    .have%[t,ht|et]:=Xu hz;exact B t ht x y (by rw[et];rfl) (by rw[et];rfl) O
  .refine k4 _ _ ?_;lk;have h:F=[]:=by
    cases F with
    | nil=>rfl
    | cons x F=>exact absurd (Zf ∅) h
   subst h;refine kk d _ (rs.map (·.1)) J (C.trans (ah.upd fp)) fd (ah.upd fp _ _ j) (by rw[Z6];lia) λx=>%[λO=>?_|λr=>?_]
   .have%[d1|d2]:=ab.dst O;obtain⟨n,e⟩:∃n,J x=n+1:=%[J x-1|⋯]
    rw[e]at d2;exact d2.rch
   .have%[n|g]:=r.dst;exact ab.stop g
def Ho{K:ZA}(h:SqL K H a xs)(s:ah H b):SqL K b a xs:=h.imp_left λr=>r.imp (s _ _) λ⟨o,e⟩=>%[o|s _ _ e]
def at_mod(f:d->V){xs:List d}(h:1<=xs.length)(c:Int):∃x∈xs,atI (xs.map f) (c%(xs.length:Int))=some (f x):=by
 have a:0<=c%xs.length:=Int.emod_nonneg _ ⋯;have e:c%xs.length<xs.length:=Int.emod_lt_of_pos _ ⋯
 generalize c%xs.length=i at a e
 have%[k|rfl]:=Xm a;have b:k<xs.length:=by lia
 exact%[xs[k],Yg b|cj (by rw[Zl,Z4 b];rfl)]
structure uY (H:Hp) (lk:List ZB) (k:Addr) (ns:ZB) (dd:Str->Addr):Prop where
 at_:H k=some (.dK (VD ns λn=> .ref (dd n)))
 in_:∀n∈ns,∃(R:ZB) (f:Str->Nat),H (dd n)=some (.dK (VD R λx=> .int (f x)))/\R.length<=98/\∀x,x∈R↔Rch lk n x
def uY.up(h:uY H lk k ns a)(s:ah H b):uY b lk k ns a:=
 %[s _ _ h.at_|λn c=>by
  have%[R,f,d|e]:=h.in_ n c;exact%[R,f,s _ _ d|e]]
def DI(b:z∉a)(e:∀x∈a,h x=g x):cP (VD a g) (Sum.inr z) (h z)=VD (a++[z]) h:=by
 rw[d8 _ (eK b)];unfold VD;rw[Zd];exact congrArg (·++_) (Yt λx c=>by rw[e x c])
inductive uZ (mg:ZC) (vs:ZM) (H:Hp) (Q:VK) (E0:XK):Prop
 | mk (g:Addr) (qs:ZN) (ls:ZB) (ts:ZG):vs=[.ref g]->iO mg H g qs ls ts->(∀k H' lk ns dd,ah H H'->br (bv qs) (ts.map (·.2)) lk->mF (bv qs) ls ns->uY H' lk k ns dd->Q (.ref k) H')->uZ mg vs H Q E0
def jM(T:Txt K mg):↥6 "_law_earlier" ["_law_ground_here"] (uZ mg):=by
 refine T.br.cal cJ (λH vs Q E h=>?_)
 .have%[g,qs,l,ts,rfl,b|kk]:=h;refine%[rfl|λf ai A outer s q=>?_];have%[c2,c3,c4|gr]:=b.gr;have ll:=b.ll;refine%[_,%["JCH1G~jA0BC^2lkd?1PG~*A0BX0?2qT0ECH3wCSP2K4DuG]*A1A4B34DI3",cJ.nd,(show bM (ao fX) ["_law_ground_here","_law_some","_law_names","_law_known","_law_name"] _ ["_law_one"] []=true from by decide +kernel),(show(["_law_one"]:ZB).Nodup from by decide +kernel)|q]|?_]
  show bd _ _ _ [!g,none,none,none,none] H;refine ap λD1 k1 _=>?_
  lk;refine%[g,c2,c3,c4,qs,l,ts,rfl,gr,b.nd,b.so,⋯,b.tl,b.t3|λso H1 ss s1 fm hm tu lk sl=>k1 _ _ (ap λD2 k2 _=>aI λO hK=>?_)];lk;refine%[g,c2,c3,c4,qs,l,ts,rfl,gr.up s1,b.nd,b.so,⋯|λl1 H2 us s2 f1 C la _ ⟨r,q,ed⟩ aj=> .inl %[l1,rfl,%[_|SqL.of C]|hK _ _ λF hF=>?_]];have sg:us.length=(grp r l).length:=by
   have:=congrArg List.length ed;rwa[Z6,Z6]at this
  refine bw (J:=Itl K l1) (n:=us.length) (D:=F) (λj vs u a=>(∃o1,u=[o1])/\ah H2 a/\a F=some (.lst vs)/\vs=(((grp r l).take j).map (·.1)).map V.str)
   %[%[none|rfl],ah.upd hF,aa|rfl] (λj _ _ a p G=>%[_,V.ref us[j].1,SqL.of (G.2.1 _ _ C)|by simp[p]]) (λ_ _ a G=>%[_,SqL.of (G.2.1 _ _ C)|by simp]) ?_ ?_
  .intro j vs u H3 p %[%[o1|rfl],U,ab|y] x H4 %[e2|B];subst e2;have Y:=B _ (SqL.of (U _ _ C));rw[Zl,Z4 p]at Y;obtain rfl:x=V.ref us[j].1:=(Za Y).symm;have jg:j<(grp r l).length:=by lia
   have e2:us[j].2=(grp r l)[j].2:=by
    have:=congrArg (λz=>z[j]?) ed;simpa [p,jg]using this
   have M:=uO b.so q (Yg jg);lk;refine%[_,SqL.of (U _ _ (la _ (Yg p))),_,(show atI (us[j].2.map V.str) ((0:Nat):Int)=some (.str (grp r l)[j].1)from cj (by rw[Zl,e2,M];rfl))|?_];refine CK.mk p ab (by rw[y,Z6,Z6,Yp];exact aA ⋯) %[%[_|rfl],ah.set U hF,aa|?_];rw[y,Xf,Z4 jg,Zd,Zd];rfl
  intro vs u H3 %[_,U,t|y];rw[Zn ⋯]at y;rw[y]at t;have N:mF (bv qs) l ((grp r l).map (·.1)):=%[jv b.nd,λx=>by
   rw[iu];exact%[λh=>%[h.1|by have:=(q x h.1).2;rwa[h.2]at this]|λh=>%[h.1|(q x h.1).2.one h.2]],BR b.so|BQ q]
  generalize (grp r l).map (·.1)=ns at t N
  have al:ns.length<=80:=by
   have:=STab.nodup_sub N.nd λx B=>((N.mem x).mp B).1
   lia
  refine k2 _ _ (ap λD3 k3 _=>?_);lk;intro k fk;refine k3 _ _ (ap λD4 k4 _=>az λO hK=>?_);have I:=s2.trans U;have la:=(oY tu (b.names lk N)).up I;have ac:=I _ _ hm;have ae:=s1.trans I;have s4:=ah.upd (o:= .dK []) fk;lk;refine .inl %[%[_|SqL.of (s4 _ _ t)]|hK _ _ ?_];refine aZ (xs:=ns.map V.str) (λi u a=>(∃o4,u=[!g,!so,!F,!k,o4])/\ah H3 a/\∃m:Str->Addr,a k=some (.dK (VD (ns.take i) λn=> .ref (m n)))/\∀n∈ns.take i,m n≠k/\∃(R:ZB) (f:Str->Nat),a (m n)=some (.dK (VD R λx=> .int (f x)))/\R.length<=98/\∀x,x∈R↔Rch (ss.map (·.2)) n x)
   %[%[_|rfl],s4,λ_=>k,aa|λn h=>(nomatch h)] (λi u a _ h=>SqL.of (h.2.1 _ _ t)) ?_ ?_
  .intro i v u a y %[%[o4|rfl],sm,m,hk|M];rw[Zl]at y;have%[n,L|rfl]:=map_eq_some_iff.mp y;have il:=(Xr L).1;have tk:ns.take (i+1)=ns.take i++[n]:=by rw[Xf,L];rfl
   have nt:n∉ns.take i:=λc=>by
    have%[j|p]:=Xk c;have jl:=(Xr p).1;rw[Yp]at jl;rw[Ye ⋯]at p;have:=du N.nd p L
    lia
   show l7 _ _ _ _ [!g,!so,!F,!k,-n] a;refine aB λD5 k5 _=>?_
   lk;refine%[so,n,ns,ss,rfl,sm _ _ ac,la.up sm,sl|λd H5 R f s5 fd ag Rl Rm=>?_];have dk:d≠k:=λc=>by rw[c,hk]at fd;cases fd
   refine%[_,iM.k (k:=Sum.inr n) (s5 _ _ hk) (by unfold VD;rw[Z6,Yp];exact aA ⋯)|k5 _ _ %[%[_|rfl],ah.set (sm.trans s5) fk,λx=>if x=n then d else m x,?_|λx B=>?_]]
   .have:=DI (g:=λn=>V.ref (m n)) (h:=λx=>V.ref (if x=n then d else m x)) nt λx B=>by
     show V.ref (if x=n then d else m x)=V.ref (m x);rw[if_neg (λc:x=n=>nt (c▸B))]
    rw[if_pos rfl]at this;rw[aa,this,tk]
   .rw[tk]at B;dsimp only;by_cases e:x=n
    .subst e;rw[if_pos rfl];exact%[dk,R,f,(am dk).trans ag,Rl|Rm]
    .rw[if_neg e];have%[C,R',f',h2|h3]:=M x ((Xs B).resolve_right λc=>e (Xt c));exact%[C,R',f',(am C).trans (s5 _ _ h2)|h3]
  .intro u a %[%[o4|rfl],sm,m,hk|M];rw[Z6,Zn (Zi _)]at hk M;refine k4 _ _ ?_;lk;exact kk k a _ ns m (ae.trans sm) lk N %[hk|λn h=>(M n h).2]
def m8(n:Str)(c:Nat):lnS n (sgn c)=ci n c:=by
 refine dU ?_;show(([].toArray) ++n.cps++ ([46].toArray) ++ ([c].toArray)).toList=(n.cps.toList++[46,c]).toArray.toList;simp
def m9:x∈lyr p↔∃c,Let p.2.2 c/\x=ci p.2.1 c:=by
 unfold lyr;rw[mem_map]
 constructor
 .rintro⟨z,b,rfl⟩;have%[c,a|rfl]:=iq b;exact%[c,gJ.mp a|m8 _ _]
 .rintro⟨c,a,rfl⟩;exact%[sgn c,bx.mpr (Xv %[c,gJ.mpr a|rfl])|m8 _ _]
def ph(h:mE d):x∈(iN d).map (·.1)↔∃c,Let d.rows c/\x=ci d.name c:=by
 unfold iN Drn.rows;rw[Yv,mem_map]
 constructor
 .rintro⟨a,i,rfl⟩;have%[e,f|g]:=eR.mp i;exact%[sg a d.sh,(uw h.2.2.2.2.2).mpr %[a,e,f,g|rfl]|rfl]
 .rintro⟨c,g,rfl⟩;have%[a,e,f,b|rfl]:=(uw h.2.2.2.2.2).mp g;exact%[a,eR.mpr %[e,f|b]|rfl]
def pj:∀{xs:List t},(xs.map m).Nodup->(∀p∈xs,(f p).Nodup)->(∀p∈xs,∀x∈f p,∃c,x=ci (m p) c)->(xs.flatMap f).Nodup
 |[],_,_,_=>X9
 | p::xs,h,l,i=>by
   rw[Yu,nodup_cons]at h;rw[List.flatMap_cons,X7];refine%[l p Zm,pj h.2 (λq g=>l q (Zk _ g)) (λq g=>i q (Zk _ g))|λa n b o e=>?_];have%[q,g|j]:=mem_flatMap.mp o;have%[c|r]:=i p Zm a n;have%[d|s]:=i q (Zk _ g) b j;have:=(jq (r.symm.trans (e.trans s))).1;exact h.1 (Xv %[q,g|this.symm])
def rg(p:Addr×Str×ZB):(lyr p).Nodup:=by
 unfold lyr;rw[X8,Xd];refine Xl (λ{x y} e f a b=>?_) (nodup_iff_pairwise_ne.mp (eY _));have%[c,_|rfl]:=iq e;have%[d,_|rfl]:=iq f;rw[m8,m8]at b;exact a (by rw[(jq b).2])
def wD(d:Drn):((iN d).map (·.1)).Nodup:=by
 unfold iN;rw[Yv,X8,Xd];refine Xl (λ{x y} b c a e=>?_) (nodup_iff_pairwise_ne.mp (ux d.cols));have%[f,g|_]:=eR.mp b;have%[h,i|_]:=eR.mp c;exact a (F3 f g h i (jq e).2)
def qT.mono(h:qT g xs)(s:∀x∈g,x∈i):qT i xs:=by
 rcases h with⟨w,a,b,e,c,d,f,j⟩|⟨w,a,y,e,c,d,f⟩
 .exact .inl %[w,a,b,e,c,s _ d,s _ f|j]
 .exact .inr %[w,a,y,e,c,s _ d|f]
def iA{cs:List _}{d:ZB}(h:d.Perm (cs.flatMap lyr)){x:Str}:x∈d↔∃p∈cs,∃c,Let p.2.2 c/\x=ci p.2.1 c:=by
 rw[h.mem_iff,mem_flatMap]
 constructor
 .rintro⟨p,a,b⟩;exact%[p,a|m9.mp b]
 .rintro⟨p,a,b⟩;exact%[p,a|m9.mpr b]
def zB(h:∀p∈ds,mE p.2):x∈(ds.flatMap λp=>(iN p.2).map (·.1))↔∃p∈dcs ds,∃c,Let p.2.2 c/\x=ci p.2.1 c:=by
 rw[mem_flatMap]
 constructor
 .rintro⟨p,a,b⟩;exact%[_,Xv %[p,a|rfl]|(ph (h p a)).mp b]
 .rintro⟨q,d,b⟩;have%[p,a|rfl]:=Xu d;exact%[p,a|(ph (h p a)).mpr b]
def u4{ds:List (Addr×Drn)}(h:∀p∈ds,mE p.2)(a:(ds.map λp=>p.2.name).Nodup):(ds.flatMap λp=>(iN p.2).map (·.1)).Nodup:=
 pj a (λp _=>wD p.2) λp b x d=>by
  have%[c,_|e]:=(ph (h p b)).mp d;exact%[c|e]
def eL{cs:List _}(b:(cs.map λp=>p.2.1).Nodup){a:ZB}(h:a.Perm (cs.flatMap lyr)):a.Nodup:=by
 rw[h.nodup_iff];exact pj b (λp _=>rg p) λp f x d=>by
  have%[c,_|e]:=m9.mp d;exact%[c|e]
structure eC (H:Hp) (cs:List _) (qs:List _):Prop where
 ca:cg H cs
 nd:(cs.map λp=>p.2.1).Nodup
 p1:1<=cs.length
 p3:cs.length<=3
 few:∀p∈cs,uy p.2.2
 ly:(cs.flatMap lyr).length<=80
 sa:∀ls,ls.Perm (cs.flatMap lyr)->df H ls qs
 q20:qs.length<=20
def eC.up(h:eC H cs qs)(s:ah H a):eC a cs qs:=
 %[h.ca.up s,h.nd,h.p1,h.p3,h.few,h.ly,λb p=>(h.sa b p).up s|h.q20]
inductive pq (K:ZA) (vs:ZM) (H:Hp) (Q:VK) (E0:XK):Prop
 | mk (a:Addr) (ns:ZL):vs=[.ref a]->SqL K H a (ns.map V.int)->Ar H->ns.length<=63->(∀H',Q (.bl true) H')->pq K vs H Q E0
def xH{R:Hp->Prop}(j:H g=none)(i:H d=none)(n:H a=some (.lst (bY cs)))(r:H b=some (.lst (qs.map λq=>V.ref q.1)))(p:eC H cs qs)
 (k:∀f c ts,ah H f->iO mg f g qs c ts->c.Perm (cs.flatMap lyr)->(∀k,k∈ts.map (·.2)↔k∈eJ cs\/k∈dD qs qs.length)->R f):
 sO mg [.ref g,.ref a,.ref b] (upd (upd H d (.own g)) g (.ins (cD mg "Ground") d [])) (λv s=>v= .non/\R s) E0:=by
 have h:ah H (upd (upd H d (.own g)) g (.ins (cD mg "Ground") d [])):=λb o e=>by
  rw[am (ay e j),am (ay e i)];exact e
 refine%[g,a,b,d,cs,qs,rfl,aa,h _ _ n,h _ _ r,p.ca.up h,p.nd,p.p1,p.p3,p.few,p.ly,λc q=>(p.sa c q).up h,p.q20|λf c ts u y z A B tk C E G pl I=>%[rfl|k f c ts (λb o e=>A b o (ay e j) (h _ _ e)) %[%[u,y,z|B],eL p.nd pl,I,pl.length_eq▸p.ly,G,λk l=>?_,λk l=>?_|C] pl E]]<;> have%[t,m|rfl]:=Xu l
 .exact(tk t m).1
 .exact(tk t m).2
noncomputable abbrev f6:Str:=Str.ofString "abcdefghijklmnopqrstuvwxyz"
abbrev rot(k:Nat):Str:=Txt.slice f6 (some (k:Int)) none++Txt.slice f6 none (some (k:Int))
abbrev bT(z:Str):Prop:=z.cps.toList.length=26/\(∀c∈z.cps.toList,97<=c/\c<=122)/\∀i<26,97+i∈z.cps.toList
noncomputable instance(z:Str):Decidable (bT z):=by unfold bT;infer_instance
def Gg:∀k<26,bT (rot k):=by decide +kernel
def fQ:f6.length<=sizeLine:=by decide +kernel
def xI(m:Int):∃z,Txt.slice f6 (some (m%26)) none++Txt.slice f6 none (some (m%26))=z/\bT z/\(Txt.slice f6 (some (m%26)) none).length+(Txt.slice f6 none (some (m%26))).length<=sizeLine:=by
 have a:0<=m%26:=Int.emod_nonneg _ ⋯;have b:m%26<26:=Int.emod_lt_of_pos _ ⋯
 generalize m%26=i at a b
 have%[k|rfl]:=Xm a;have c:=Txt.slice_le f6 (some k) none;have d:=Txt.slice_le f6 none (some k);have e:f6.length=26:=by decide +kernel
 exact%[_,rfl,Gg k ⋯|by rw[PySem.sizeLine_eq];lia]
def bT.iff{z:Str}(h:bT z){c:Nat}:c∈z.cps.toList↔97<=c/\c<=122:=%[h.2.1 c|λq=>by
 have:=h.2.2 (c-97) ⋯
 grind]
def xJ{c:Nat}(h:97<=c/\c<=122):okc c=true:=by
 have:∀i<26,okc (97+i)=true:=by decide +kernel
 have:=this (c-97) ⋯;rwa[show 97+(c-97)=c by lia]at this
def bT.col{z:Str}(h:bT z):bU (PyProof.Rows.signs z):=by
 have l:(PyProof.Rows.signs z).length=26:=by rw[signs_length];exact h.1
 have m:∀r∈PyProof.Rows.signs z,∃c,(97<=c/\c<=122)/\r=⟨([c].toArray)⟩:=λr a=>by
  have%[c,b|rfl]:=Xu a;exact%[c,h.2.1 c b|rfl]
 refine%[⋯,⋯,%[1,⋯,⋯|λr a=>?_],λr a=>?_,λi r f e n j c o g g' q=>?_|?_]
 .have%[c,_|rfl]:=m r a;rfl
 .have%[c,b|rfl]:=m r a;simpa using xJ b
 .have%[d,p|rfl]:=m f (Z8 n);have:o∈[d]:=Z8 (l:=[d]) (by simpa using g');simp at this
  lia
 .exact%[⟨([97].toArray)⟩,Xv %[97,(h.iff (c:=97)).mpr ⋯|rfl],97,by simp|⋯]
def bT.row{z:Str}(h:bT z):bU [z]:=by
 refine%[by simp,by simp,%[26,⋯,⋯|λr a=>?_],λr a=>?_,λi r f e b j c l g g' q=>?_|?_]
 .obtain rfl:=Xt a;exact h.1
 .obtain rfl:=Xt a;exact all_eq_true.mpr λc d=>xJ (h.2.1 c d)
 .simp at b
 .exact%[z,by simp,97,h.iff.mpr ⋯|⋯]
def bT.letC{z:Str}(h:bT z){c:Nat}:Let (PyProof.Rows.signs z) c↔97<=c/\c<=122:=by
 constructor
 .rintro⟨_,r,a,b⟩;have%[d,e|rfl]:=Xu a;obtain rfl:c=d:=by simpa using b
  exact h.2.1 c e
 .intro q;exact%[⋯,⟨([c].toArray)⟩,Xv %[c,h.iff.mpr q|rfl]|by simp]
def bT.letR{z:Str}(h:bT z){c:Nat}:Let [z] c↔97<=c/\c<=122:=by
 constructor
 .rintro⟨_,r,a,b⟩;obtain rfl:=Xt a;exact h.2.1 c b
 .intro q;exact%[⋯,z,by simp|h.iff.mpr q]
def DJ(z:Str):uy [z]:=%[[],by simp|λa b ⟨_,_,i,j,r,d,e,c,_⟩=>by simp at c]
def bT.few{z:Str}(h:bT z):uy (PyProof.Rows.signs z):=by
 refine%[(List.range 25).map λi=>[(PyProof.Rows.signs z).getD i Str.empty,(PyProof.Rows.signs z).getD (i+1) Str.empty],by simp|λa b ⟨_,_,i,j,r,m,e,c,g,g'⟩=>?_];have one:∀{r:Str} {i a:Nat},(PyProof.Rows.signs z)[i]? =some r->r.cps[j]? =some a->r=sgn a:=λ{r i a} e g=>by
  have%[d,n|rfl]:=Xu (Z8 e);have:a∈[d]:=Z8 (l:=[d]) (by simpa using g);rw[Xt this];rfl
 have f:=(Xr c).1;rw[signs_length,show z.length=26 from h.1]at f;refine Xv %[i,mem_range.mpr ⋯|?_];rw[Zc,Zc,e,c,<-one e g,<-one c g'];rfl
def four{H:Hp}{a b c d:Addr}{f g i o4:HO}(m:H a=none)(n:upd H a f b=none)(o:upd (upd H a f) b g c=none)(p:upd (upd (upd H a f) b g) c i d=none):∃e,upd (upd (upd (upd H a f) b g) c i) d o4=e/\ah H e/\e a=some f/\e b=some g/\e c=some i/\e d=some o4:=
 have q:=ah.upd m;have l:=ah.upd n;have j:=ah.upd o;have h:=ah.upd p
 %[_,rfl,q.trans (l.trans (j.trans h)),h _ _ (j _ _ (l _ _ aa)),h _ _ (j _ _ aa),h _ _ aa|aa]
def sW(m:Int):∃c,atI f6.cps.toList (m%26)=some c/\97<=c/\c<=122:=by
 have a:0<=m%26:=Int.emod_nonneg _ ⋯;have b:m%26<26:=Int.emod_lt_of_pos _ ⋯
 generalize m%26=i at a b
 have%[k|rfl]:=Xm a;have:∀k<26,f6.cps.toList[k]? =some (97+k):=by decide +kernel
 exact%[97+k,cj (this k ⋯),⋯|⋯]
def DK(c:Nat):Str.ofString "north."++⟨([c].toArray)⟩=ci (Str.ofString "north") c:=dU rfl
def l_a(c:Nat):Str.ofString "a."++⟨([c].toArray)⟩=ci (Str.ofString "a") c:=dU rfl
def l_zz(c:Nat):Str.ofString "zz."++⟨([c].toArray)⟩=ci (Str.ofString "zz") c:=dU rfl
abbrev Hq(xs:ZM):Prop:=∃(n m:Str) (c d:Nat),xs=[.str (Str.ofString "later"),.str (ci n c),.str (ci m d)]/\n≠m/\n∈[Str.ofString "north",Str.ofString "a",Str.ofString "zz"]/\m∈[Str.ofString "north",Str.ofString "a",Str.ofString "zz"]/\(97<=c/\c<=122)/\97<=d/\d<=122
abbrev rh(H:Hp)(qs:ZN):Prop:=∀q∈qs,H q.1=some (.tup q.2)/\Hq q.2
def Hr{d H:Hp}{ps p:Addr}{qs:List _}{xs:ZM}(i:ah d H)(fs:d ps=none)(j:H ps=some (.lst (qs.map λq=>V.ref q.1)))(g:rh H qs)(l:H p=none)(h:Hq xs):
 ah d (upd (upd H p (.tup xs)) ps (.lst ((qs.map λq=>V.ref q.1) ++[V.ref p])))/\upd (upd H p (.tup xs)) ps (.lst ((qs.map λq=>V.ref q.1) ++[V.ref p])) ps=some (.lst ((qs++[(p,xs)]).map λq=>V.ref q.1))/\rh (upd (upd H p (.tup xs)) ps (.lst ((qs.map λq=>V.ref q.1) ++[V.ref p]))) (qs++[(p,xs)]):=by
 have f:=ah.upd (o:= .tup xs) l;refine%[ah.set (i.trans f) fs,by rw[aa,Zd];rfl|λq a=>?_];have ne:∀{b:Addr} {ys:ZM},upd H p _ b=some (.tup ys)->b≠ps:=λe c=>by
  rw[c,f _ _ j]at e;cases e
 rcases Xs a with a|a
 .have e:=f _ _ (g q a).1;exact%[(am (ne e))▸e|(g q a).2]
 .obtain rfl:=Xt a;have e:upd H p (.tup xs) p=some _:=aa;exact%[(am (ne e))▸e|h]
def B3{H:Hp}{o r s:Addr}{j f:Str}{qs:ZN}(u:bT j)(l:bT f)(g1:H o=some (.tup [.str (Str.ofString "north"),.str (Str.join nl (PyProof.Rows.signs j))]))(g2:H r=some (.tup [.str (Str.ofString "a"),.str f]))(g3:H s=some (.tup [.str (Str.ofString "zz"),.str (Str.join nl (PyProof.Rows.signs f))]))(v:rh H qs)(G:qs.length<=2):
 eC H [(o,Str.ofString "north",PyProof.Rows.signs j),(r,Str.ofString "a",[f]),(s,Str.ofString "zz",PyProof.Rows.signs f)] qs:=by
 have lt:∀p∈[(o,Str.ofString "north",PyProof.Rows.signs j),(r,Str.ofString "a",[f]),(s,Str.ofString "zz",PyProof.Rows.signs f)],∀c,Let p.2.2 c↔97<=c/\c<=122:=λp b c=>by
  simp only[Yz,Xb,or_false]at b;rcases b with rfl|rfl|rfl
  .exact u.letC
  .exact l.letR
  .exact l.letC
 have a:∀p∈[(o,Str.ofString "north",PyProof.Rows.signs j),(r,Str.ofString "a",[f]),(s,Str.ofString "zz",PyProof.Rows.signs f)],(lyr p).length<=26:=λp b=>by
  have:=STab.nodup_sub (rg p) (m:=(List.range 26).map λi=>ci p.2.1 (97+i)) λx z=>by
   have%[c,g|rfl]:=m9.mp z;have:=(lt p b c).mp g;exact Xv %[c-97,mem_range.mpr ⋯|by rw[show 97+(c-97)=c by lia]]
  simpa using this
 refine%[λp b=>?_,(show [Str.ofString _,Str.ofString "a",Str.ofString "zz"].Nodup by decide),by simp,by simp,λp b=>?_,?_,λA pl q y=>%[(v q y).1|.inl ?_]|⋯]
 .simp only[Yz,Xb,or_false]at b;rcases b with rfl|rfl|rfl
  .exact%[g1,(show ef (Str.ofString _)=true by decide)|u.col]
  .exact%[g2,(show ef (Str.ofString "a")=true by decide)|l.row]
  .exact%[g3,(show ef (Str.ofString "zz")=true by decide)|l.col]
 .simp only[Yz,Xb,or_false]at b;rcases b with rfl|rfl|rfl
  .exact u.few
  .exact DJ _
  .exact l.few
 .have I:=a _ (.head _);have J:=a _ (.tail _ (.head _));have L:=a _ (.tail _ (.tail _ (.head _)));simp only[List.flatMap_cons,List.flatMap_nil,Z9,length_nil]
  lia
 .have%[n,m,c,d,e,B,t,C,g|E]:=(v q y).2;have mem:∀n∈[Str.ofString "north",Str.ofString "a",Str.ofString "zz"],∀c,97<=c/\c<=122->ci n c∈A:=λn t c g=>by
   refine(iA pl).mpr ?_;simp only[Yz,Xb,or_false]at t;rcases t with rfl|rfl|rfl
   .exact%[_,.head _,c,(lt _ (.head _) c).mpr g|rfl]
   .exact%[_,.tail _ (.head _),c,(lt _ (.tail _ (.head _)) c).mpr g|rfl]
   .exact%[_,.tail _ (.tail _ (.head _)),c,(lt _ (.tail _ (.tail _ (.head _))) c).mpr g|rfl]
  exact%[_,_,_,e,.inl rfl,mem n t c g,mem m C d E|λh=>B (jq h).1]
abbrev gly(n:Str):ZB:=f6.cps.toList.map λc=>n++Str.ofString "."++⟨([c].toArray)⟩
def DL{n x:Str}:x∈gly n↔∃c,(97<=c/\c<=122)/\x=ci n c:=by
 have b:bT f6:=by decide +kernel
 have e:=λc=>dU (by
  show(n.cps++ ([46].toArray) ++ ([c].toArray)).toList=(n.cps.toList++[46,c]).toArray.toList;simp)
 unfold gly;rw[mem_map]
 constructor
 .rintro⟨c,a,rfl⟩;exact%[c,b.iff.mp a|e c]
 .rintro⟨c,a,rfl⟩;exact%[c,b.iff.mpr a|e c]
def u5{c d e:Addr}{b a:Str}(g:bT b)(f:bT a):([Str.ofString "north",Str.ofString "a",Str.ofString "zz"].flatMap gly).Perm ([(c,Str.ofString "north",PyProof.Rows.signs b),(d,Str.ofString "a",[a]),(e,Str.ofString "zz",PyProof.Rows.signs a)].flatMap lyr):=by
 refine(List.perm_ext_iff_of_nodup (by decide +kernel) (eL (cs:=[(c,Str.ofString "north",PyProof.Rows.signs b),(d,Str.ofString "a",[a]),(e,Str.ofString "zz",PyProof.Rows.signs a)]) (show [Str.ofString "north",Str.ofString "a",Str.ofString "zz"].Nodup by decide) (.refl _))).mpr λx=>?_
 rw[iA (.refl _),mem_flatMap];simp only[Yz,Xb,or_false,exists_eq_or_imp,exists_eq_left,DL,g.letC,f.letC,f.letR]
inductive xK (vs:ZM) (H:Hp) (Q:VK) (E0:XK):Prop
 | mk (n:Int):vs=[.int n]->(∀t l1 l2 l3 H' (cs:ZH) (qs:ZN) (nm:ZB),ah H H'->H' t=some (.tup [.ref l1,.ref l2,.ref l3])->H' l1=some (.lst (bY cs))->H' l2=some (.lst (qs.map λq=>V.ref q.1))->eC H' cs qs->H' l3=some (.lst (nm.map V.str))->nm.Perm (cs.flatMap lyr)->Q (.ref t) H')->xK vs H Q E0
def u8(T:Txt K mg):↥1 "_law_great" ["_law_number"] xK:=by
 refine T.bu.cal bA (λH vs Q E h=>?_)
 .have%[n,rfl|kk]:=h;refine%[rfl|λf al A outer s hr=>?_];refine%[_,%["JCH1RCH2Fo>1/FV0E~L>1~L/FV0ECH3Fo>1/FVFj0EE~L>1~L/FVFj0EECH4QAmARA~I~:RA2BBAmARA3BAmARA~I~:RA3BBBCH5QBCNLnFVFj0EEEDUea5AmARAFoR~X1FVFj0EEAFoR~X1FVFj0EEBBOCNL;FVFj0EEEDUea5AmARAFoR~X1FVFj0EEAFoR~X1FVFj0EEBBOCH6QBCSP4fM~Z7klMK8gDH6Fo6sd?1P1X0?2qFoFoY1R0DImA4A5A6B",bA.nd,(show bM (ao jb) ["_law_number","_law_signs_of","_law_one","_law_other","_law_cuts","_law_sayings","_law_layers","_law_name","_law_text"] _ ["_law_sign_at","_law_name"] [(1,7)]=true from by decide +kernel)|(show(["_law_sign_at","_law_name"]:ZB).Nodup from by decide +kernel)]|?_]
  show bd _ _ _ [some (.int n),none,none,none,none,none,none,none,none] H;refine ap λD1 k1 _=>?_
  lk;refine k1 _ _ (ap λD2 k2 _=>?_);lk;have%[r,e1,a1|b1]:=xI n;refine%[by decide,fQ,by decide,fQ,b1|k2 _ _ (ap λD3 k3 _=>?_)];rw[e1];clear e1 b1;lk;have%[l,N,a2|b2]:=xI (n/26);refine%[%[by decide|by decide],by decide,fQ,%[by decide|by decide],by decide,fQ,b2|k3 _ _ (ap λD4 k4 _=>?_)];rw[N];clear N b2;lk;have y1:r.length<=1000:=by rw[show r.length=26 from a1.1];lia
  have y2:l.length<=1000:=by rw[show l.length=26 from a2.1];lia
  refine%[_,_,rfl,rfl,y1,by decide,#[2]|λp1 f1=>%[#[2]|λp2 f2=>%[_,_,rfl,rfl,y2,by decide,#[2]|λp3 f3=>%[#[3]|λt fc=>k4 _ _ (ap λD5 k5 _=>?_)]]]];have%[U,e,sc,g1,g2,g3|gc]:=four (o4:= .lst [.ref p1,.ref p2,.ref p3]) f1 f2 f3 fc;rw[show Txt.join (Str.ofString "\n") (PyProof.Rows.signs r)=Str.join nl (PyProof.Rows.signs r)from StrLaws.glued_eq_join _ _]at g1;rw[show Txt.join (Str.ofString "\n") (PyProof.Rows.signs l)=Str.join nl (PyProof.Rows.signs l)from StrLaws.glued_eq_join _ _]at g3;rw[e];clear e f1 f2 f3 fc;lk;refine%[#[0]|λps fs=>k5 _ _ (ap λD6 k6 _=>?_)];have t5:=ah.upd (o:= .lst []) fs;have d:upd U ps (.lst []) ps=some (.lst []):=aa;have G:rh (upd U ps (.lst [])) []:=λq h=>nomatch h
  have fin:∀m (qs:ZN),ah U m->m ps=some (.lst (qs.map λq=>V.ref q.1))->rh m qs->qs.length<=1->D6.nx [some (.int n),-f6,-r,-l,!t,!ps,none,none,none] m:=by
   intro m qs Y d G ql;refine k6 _ _ (ap λD7 k7 _=>?_);have fin:∀m (qs:ZN),ah U m->m ps=some (.lst (qs.map λq=>V.ref q.1))->rh m qs->qs.length<=2->D7.nx [some (.int n),-f6,-r,-l,!t,!ps,none,none,none] m:=by
    intro H7 qs Y d G ql;refine k7 _ _ (ap λD8 k8 _=>?_);lk;refine%[#[0]|λpl fl=>k8 _ _ (ap λD9 k9 _=>az λab hK=>?_)];lk;have u1:=ah.upd (o:= .lst []) fl;have hl:upd H7 pl (.lst []) pl=some (.lst []):=aa
    generalize upd H7 pl (.lst [])=H8 at u1 hl
    have s8:=Y.trans u1;refine .inl %[%[_|SqL.of (s8 _ _ gc)]|hK _ _ (aZ (xs:=[V.ref p1,V.ref p2,V.ref p3]) (λi I u=>∃(a:Addr) (o7 o8:Option V) (vs:ZM),I=[some (.int n),-f6,-r,-l,!t,!ps,!a,o7,o8]/\ah H8 u/\u a=some (.lst vs)/\vs=((([Str.ofString "north",Str.ofString "a",Str.ofString "zz"]).take i).flatMap gly).map V.str/\vs.length=26*i)
     %[pl,_,_,[],rfl,λ_ _ e=>e,hl,rfl|rfl] (λi I u _ ⟨_,_,_,_,_,h,_,_⟩=>SqL.of (h _ _ (s8 _ _ gc))) ?_ ?_)]
    .intro i v I u hv %[a,o7,o8,vs,rfl,z,L,ve|vl];obtain⟨pp,b,tx,rfl,ag,an,ai⟩:∃(pp:Addr) (b tx:Str),v= .ref pp/\U pp=some (.tup [.str b,.str tx])/\b.length<=8/\[Str.ofString "north",Str.ofString "a",Str.ofString "zz"][i]? =some b:=by
      have il:i<3:=(Xr hv).1;obtain rfl|rfl|rfl:i=0\/i=1\/i=2:=by lia
      .exact%[_,_,_,(Za hv).symm,g1,by decide|rfl]
      .exact%[_,_,_,(Za hv).symm,g2,by decide|rfl]
      .exact%[_,_,_,(Za hv).symm,g3,by decide|rfl]
     have ac:=z _ _ (s8 _ _ ag);have il:i<3:=(Xr hv).1;refine%[_,SqT.of ac|?_];refine%[rfl,_,_,rfl,_,_,rfl,rfl|?_];show pD _ _ _ [some (.int n),-f6,-r,-l,!t,!ps,!a,-b,-tx] u;refine aB λas aj _=>?_
     lk;refine aI λab hK=>?_
     lk;refine hK _ _ λF hF=>?_
     have a0:f6.cps.size=26:=by decide +kernel
     refine bw (J:=Its f6) (n:=f6.cps.size) (D:=F) (λj ys I O=>(∃o,I=[o,-b])/\ah u O/\O F=some (.lst ys)/\ys=((gly b).take j).map V.str/\ys.length=j) %[%[none|rfl],ah.upd hF,aa,rfl|rfl]
      (λj _ _ _ hj _=>hj) (λ_ _ _ _=>Zi _) ?_ ?_
     .intro j ys I O hj %[%[o|rfl],B,M,ye|yl] x a3 %[N,c,hc|rfl];subst N;lk;have e1:(Str.ofString ".").length=1:=rfl;have N:(b++Str.ofString ".").length=b.length+1:=by
       show(b.cps++(Str.ofString ".").cps).size=_;rw[size_append];rfl
      refine%[by rw[e1,PySem.sizeLine_eq];lia,by rw[N,PySem.sizeLine_eq,show(⟨([c].toArray)⟩:Str).length=1 from rfl];lia|CK.mk hj M (by rw[yl];exact aA ⋯) %[%[_|rfl],ah.set B hF,aa,?_|by rw[Z9,yl];rfl]];have gj:(gly b)[j]? =some (b++Str.ofString "."++⟨([c].toArray)⟩):=by
       unfold gly;rw[Zl,Yf,hc];rfl
      rw[ye,Xf,gj,Zd];rfl
     .intro ys I O %[_,B,M,ye|yl];refine%[F,rfl,vs,B _ _ L,ys,M,by rw[PySem.sizeLine_eq];lia|λp C=>aj _ _ %[p,_,_,vs++ys,rfl,z.trans (B.trans (ah.upd C)),aa,?_|by rw[Z9];lia]];rw[Zn (by unfold gly;rw[Z6,Zb];exact Zi _)]at ye;rw[ve,ye,Xf,ai,Y7,Zd];show _=_++(List.flatMap gly [b]).map V.str;rw[Y8]
    .intro I u %[a,o7,o8,vs,rfl,z,L,ve|vl];refine k9 _ _ ?_;lk;refine%[#[3]|λp C=>?_];have u2:=ah.upd (o:= .tup [.ref t,.ref ps,.ref a]) C;have ae:upd u p (.tup [.ref t,.ref ps,.ref a]) p=some (.tup [.ref t,.ref ps,.ref a]):=aa
     generalize upd u p (.tup [.ref t,.ref ps,.ref a])=O at u2 ae
     have s9:=u1.trans (z.trans u2);have g:=Y.trans s9;exact kk p t ps a O [(p1,Str.ofString "north",PyProof.Rows.signs r),(p2,Str.ofString "a",[l]),(p3,Str.ofString "zz",PyProof.Rows.signs l)] qs _ (sc.trans g) ae (g _ _ gc) (s9 _ _ d) (B3 a1 a2 (g _ _ g1) (g _ _ g2) (g _ _ g3) (λq hq=>%[s9 _ _ (G q hq).1|(G q hq).2]) ql) (u2 _ _ (by rw[L,ve];rfl)) (u5 a1 a2)
   lk;refine%[%[by decide|by decide],by decide|bE (λc=>?_) λc=>fin _ _ Y d G ⋯];have%[x,ex|lx]:=sW (n/35152);have%[y,ey|ly]:=sW (n/913952);refine%[.inl %[_|SqL.of d],%[by decide|by decide],by decide,fQ,x,ex,(show(Str.ofString "a.").length+1<=sizeLine by decide),%[by decide|by decide],by decide,fQ,y,ey,(show(Str.ofString "zz.").length+1<=sizeLine by decide),#[3]|λp C=>%[_,ah.upd C _ _ d,by rw[Z6];exact aA ⋯|?_]];have%[h1,h2|h3]:=Hr Y fs d G C %[Str.ofString "a",Str.ofString "zz",x,y,rfl,by decide,by decide,by decide,lx|ly];rw[l_a,l_zz];exact fin _ _ h1 h2 h3 (by rw[Z9];simpa using ql)
  lk;refine%[%[by decide|by decide],by decide|bE (λc=>?_) λc=>fin _ [] t5 d G ∅];have%[x,ex|lx]:=sW (n/1352);have%[y,ey|ly]:=sW (n/35152);refine%[.inl %[_|SqL.of d],%[by decide|by decide],by decide,fQ,x,ex,(show(Str.ofString "north.").length+1<=sizeLine by decide),%[by decide|by decide],by decide,fQ,y,ey,(show(Str.ofString "a.").length+1<=sizeLine by decide),#[3]|λp C=>%[_,ah.upd C _ _ d,(show 0<sizeLine by decide)|?_]];have%[h1,h2|h3]:=Hr (qs:=[]) t5 fs d G C %[Str.ofString "north",Str.ofString "a",x,y,rfl,by decide,by decide,by decide,lx|ly];rw[DK,l_a];exact fin _ _ h1 h2 h3 ∅
inductive B4 (K:ZA) (vs:ZM) (H:Hp) (Q:VK) (E0:XK):Prop
 | mk (a:Addr) (ns:ZL):vs=[.ref a]->SqL K H a (ns.map V.int)->Ar H->ns.length<=63->(∀t l1 l2 l3 H' (cs:ZH) (qs:ZN) (nm:ZB),ah H H'->H' t=some (.tup [.ref l1,.ref l2,.ref l3])->H' l1=some (.lst (bY cs))->H' l2=some (.lst (qs.map λq=>V.ref q.1))->eC H' cs qs->H' l3=some (.lst (nm.map V.str))->nm.Perm (cs.flatMap lyr)->Q (.ref t) H')->B4 K vs H Q E0
def lc(T:Txt K mg):↥4 "_law_told_ground" ["_law_script"] (B4 K):=by
 refine T.bv.cal jY (λH vs Q E h=>?_)
 .have%[a,ns,rfl,n,ho,hn|J]:=h;refine%[rfl|λf O A outer s e=>?_];refine%[_,%["JCNLnFVFjG~;A0AEBEEEDIG]+AG~;A0AEBBODIG],AG].A0AEBB",0|e]|?_]
  show bd _ _ _ [!a] H;refine ap λD1 k1 U=>?_
  lk;refine%[a,ns,0,rfl,n,⋯|?_]
  generalize ns.getD _ 0=c0
  lk;refine%[%[by simp|by simp],by simp|bE (λc=>?_) λc=>k1 _ _ ?_]
  .refine%[a,ns,1,rfl,n,⋯,_,rfl|λt o r u L cs qs g v y z B p C Y=>U _ _ (J t o r u L cs qs g v y z B p C Y)]
  .lk;refine%[a,ns,43,rfl,n,⋯,by simp,by simp|λl0 H0 xs s0 f0 M G hb=>?_];refine%[l0,xs,rfl,SqL.of M,λL v=>SqL.of (v _ _ M),G,hb|λt o r u H1 ds qs s1 ft f1 f2 f3 ab ac ae y z B C d1 d3 b i I j hq ag ai=>?_];have g:((dcs ds).map λp=>p.2.1).Nodup:=by
    unfold dcs;rw[Yv];exact i
   have dl:(dcs ds).length=ds.length:=by unfold dcs;rw[Z6]
   have sub:∀l:ZB,l.Perm ((dcs ds).flatMap lyr)->∀x,x∈l↔x∈(ds.flatMap λp=>(iN p.2).map (·.1)):=λl pl x=>by rw[iA pl,zB b]
   have few:∀p∈dcs ds,uy p.2.2:=λp N=>by
    unfold dcs at N;have%[d,hd|rfl]:=Xu N;exact BA (b d hd).2.2.2.2.2
   have ly:((dcs ds).flatMap lyr).length<=80:=by
    have:=STab.nodup_sub (eL g (.refl _)) λx G=>(sub _ (.refl _) x).mp G
    lia
   exact J t o r u H1 (dcs ds) qs _ (s0.trans s1) y z B %[I,g,⋯,⋯,few,ly,λl p q m=>%[(j q m).1|(j q m).2.mono λx=>(sub l p x).mpr]|⋯] C ((List.perm_ext_iff_of_nodup (u4 b i) (eL g (.refl _))).mpr λx=>(sub _ (.refl _) x).symm)
def u9:∀{F:ZB},F≠[]->∃m∈F,∀y∈F,aO y m=false
 |[],h=>(h rfl).elim
 |[x],_=>%[x,Zm|λy a=>(Xt a)▸dZ x]
 | x::z::F,_=>by
   have%[m,b|h]:=u9 (F:=z::F) (List.cons_ne_nil _ _);cases c:aO x m with
   | true=>
     refine%[x,Zm|λy a=>?_];rcases mem_cons.mp a with rfl|a
     .exact dZ y
     .cases d:aO y x with
      | false=>rfl
      | true=>
        have:=h y a;rw[eQ d c]at this;cases this
   | false=>exact%[m,Zk _ b|λy a=>(mem_cons.mp a).elim (λe=>e▸c) (h y)]
open Classical in
def va{S:Str->Str->Prop}{c:ZB}(w:∀a b,S a b->a∈c/\b∈c){z:Str}(f:z∈c):∃r,bW S z r:=by
 have e:z∈c.filter λx=>decide (dH S z x):=List.mem_filter.mpr %[f|Zf (.refl z)]
 have%[m,g|h]:=u9 (ne_nil_of_mem e);exact%[m|oj e (λx d=>Zo (List.mem_filter.mp d).2) (λx d y s=>List.mem_filter.mpr %[s.elim (λs=>(w _ _ s).2) λs=>(w _ _ s).1|Zf ((Zo (List.mem_filter.mp d).2).trans (.one s))]) g h]
def zC{S o:Str->Str->Prop}{ts g lk f:List _}(h:br S ts lk)(h':br o g f)(mono:∀a b,o a b->S a b)(sub:∀a b z,[a,b,z]∈g->∃j,[a,b,j]∈ts)(ex:∀a b z,[a,b,z]∈ts->(∃r,bW S a r)/\∃r,bW S b r){x y:Str}(r:Rch f x y):∃c d,bW S x c/\bW S y d/\Rch lk c d:=by
 have p:∀{x y},Ed f x y->∃c d,bW S x c/\bW S y d/\Ed lk c d:=λ{x y} ⟨z,B⟩=>by
  have%[a,b,I,J,L,C,E,G|e]:=(h'.mem _).mp B;simp only[List.cons.injEq,and_true]at e;have%[rfl,rfl|rfl]:=e;have%[j|i]:=sub _ _ _ C;have%[%[q|s],t|A]:=ex _ _ _ i;exact%[q,t,iz s (E.1.mono mono),iz A (G.1.mono mono),j|(h.mem _).mpr %[a,b,j,q,t,i,s,A|rfl]]
 induction r with
 | one e=>
   have%[c,d,l,m|n]:=p e;exact%[c,d,l,m|.one n]
 | more _ e H=>
   have%[c,d,l,m|n]:=H;have%[u,v,g1,g2|g3]:=p e;rw[g1.one m]at g3;exact%[c,v,l,g2|.more n g3]
def mG{qs:List _}{k:ZB}:k∈dD qs qs.length↔∃j q,qs[j]? =some q/\io j q.2=some k:=by
 unfold dD;rw[mem_filterMap]
 constructor
 .rintro⟨j,_,h⟩;have%[q,a|e]:=Option.bind_eq_some_iff.mp h;exact%[j,q,a|e]
 .rintro⟨j,q,a,e⟩;exact%[j,mem_range.mpr (Xr a).1|a▸e]
def wE{xs:ZM}{i:Nat}{a b z:Str}(h:io i xs=some [a,b,z])(j:Nat):io j xs=some [a,b,BJ j]:=by
 unfold io at h ⊢
 split at h
 .lia
 .cases h
def B5{mg:ZC}{H:Hp}{g:Addr}{cs:ZH}{qs c:ZN}{A:ZB}{ts d:ZG}{lk f:List ZB}(p:iO mg H g qs A ts)(sub:∀q∈c,q∈qs)(s:∀k,k∈ts.map (·.2)↔k∈eJ cs\/k∈dD qs qs.length)(l:∀k,k∈d.map (·.2)↔k∈eJ cs\/k∈dD c c.length)(B:br (bv qs) (ts.map (·.2)) lk)(m:br (bv c) (d.map (·.2)) f)(C:∀x,¬ Rch lk x x)(x:Str): ¬ Rch f x x:=λr=>by
 have%[L,M,N|t]:=p.gr;have%[O,Q,E,G|y]:=zC B m (λa b ⟨q,n,e⟩=>%[q,sub q n|e]) (λa b z o=>by
  rcases(l _).mp o with h|h
  .exact%[z|(s _).mpr (.inl h)]
  .have%[j,q,n|e]:=mG.mp h;have%[i|hi]:=Xk (sub q (Z8 n));exact%[BJ i|(s _).mpr (.inr (mG.mpr %[i,q,hi|wE e i]))]) (λa b z o=>by
  have%[u,v,w,e,I|J]:=p.t3 _ o;simp only[List.cons.injEq,and_true]at e;have%[rfl,rfl|rfl]:=e;exact%[va (fP t.sa) I|va (fP t.sa) J]) r
 rw[G.one E]at y;exact C _ y
def pA{H:Hp}{a b:Addr}{zs:ZB}{Q:VK}(e:H a=some (.lst (zs.map V.str)))(f:H b=some (.lst (zs.map V.str)))(q:Q (.bl true) H):FO (.ref a) (.ref b) H Q:=⟨a,b,_,_,rfl,rfl,e,f,rfl,λj x y c d=> .inl (by
 rw[c]at d;refine%[Za d|?_];rw[Zl]at c;have%[z,_|rfl]:=map_eq_some_iff.mp c;rfl),q⟩
inductive vb (vs:ZM) (H:Hp) (Q:VK) (E0:XK):Prop
 | mk (l k:Addr) (rs:ZG) (ns:ZB) (lk:List ZB) (dd:Str->Addr):vs=[.ref l,.ref k]->H l=some (.lst (rs.map λt=>V.ref t.1))->(∀t∈rs,H t.1=some (.lst (t.2.map V.str)))->uY H lk k ns dd->ns.length<=80->ns.Nodup->Rws lk ns rs->(∀H',ah H H'->Q (.bl true) H')->vb vs H Q E0
def jf(T:Txt K mg):↥1 "_law_right" ["_law_found","_law_known"] vb:=by
 refine T.bt.cal cN (λH vs Q E h=>?_)
 .have%[l,k,rs,ns,lk,dd,rfl,L,ab,hk,nl,nn,q|kk]:=h;refine%[rfl|λf bb A outer s hr=>?_];have%[C,ac,hn|a1]:=q.hd;have ae:∀(j:Nat) (h:j<rs.length),rs[j].2[0]? =C[j]? :=λj h=>by
   have:=congrArg (·[j]?) ac;simp only[Zl,Z4 h]at this;have l:j<C.length:=by
    have:=congrArg List.length ac;rw[Z6,Z6]at this
    lia
   rw[Z4 l]at this ⊢;exact Za this
  have bc:rs.length=C.length:=by
   have:=congrArg List.length ac;rwa[Z6,Z6]at this
  have mem:∀t∈rs,∀x∈t.2,x∈ns:=λt M x hx=>q.pm.mem_iff.mp (mem_flatMap.mpr %[t,M|hx])
  have ne:∀t∈rs,t.2≠[]:=λt M c=>by
   have%[j,r|rfl]:=Yh M;have:=ae j r;rw[c,Z4 (l:=C) ⋯]at this;cases this
  have a7:C.length<=80:=by
   have:=STab.nodup_sub hn (m:=ns) λx hx=>by
    have%[j,r|rfl]:=Yh hx;have e:=ae j ⋯;rw[Z4 r]at e;exact mem _ (Yg _) _ (Z8 e)
   lia
  have N:∀i,((rs.take i).flatMap (·.2)).length<=80:=λi=>by
   have e:(rs.take i).flatMap (·.2) ++(rs.drop i).flatMap (·.2)=rs.flatMap (·.2):=by rw[<-Y7,Xg]
   have:=congrArg List.length e;rw[Z9,q.pm.length_eq]at this
   lia
  refine%[_,%["JCNZvrh%&A0A?1B$L]/QB0DItOC^2lkd?2P0X0?3qT0ECH3QBCSP0K4CNrh%&A4A?1BDItOCS~BAbcA4BBK5DNZv,T451$ZxL;5E(,T45i1T4F~H5EDItODH3Fo34DIzp~l*~QA3B*]:A1B)p~l2*~QA2B",cN.nd,(blE (v:= .ty "list") rfl T.a5 boot_list rfl rfl rfl),(show bM (ao ja) ["_law_found","_law_known","_law_begins","_law_once","_law_row_here","_law_k"] _ ["_law_row_here"] []=true from by decide +kernel),(show(["_law_row_here"]:ZB).Nodup from by decide +kernel)|hr]|?_]
  show bd _ _ _ [!l,!k,none,none,none,none] H;refine ap λD1 k1 r1=>?_
  lk;refine%[_,.lst L,true,rfl|?_];rw[if_neg (by decide)];refine%[#[0]|λp fp=>%[p,l,rs.map λt=>(t.1,t.2.map V.str),rfl,rfl,aa,by rw[Yv];exact ah.upd fp _ _ L,λt M=>?_,false,rfl|?_]]
  .have%[u,hu|rfl]:=Xu M;exact%[ah.upd fp _ _ (ab u hu)|λc=>ne u hu (List.map_eq_nil_iff.mp c)]
  rw[if_neg ∅];have s1:=ah.upd (o:= .lst []) fp
  generalize upd H p (.lst [])=H1 at s1 ⊢
  refine k1 _ _ (ap λD2 k2 _=>aI λO hK=>?_);lk;refine .inl %[%[_|SqL.of (s1 _ _ L)]|hK _ _ λF hF=>?_];refine bw (J:=Itl K l) (n:=rs.length) (D:=F) (λj vs z U=>(∃o1,z=[o1])/\ah H1 U/\U F=some (.lst vs)/\vs=(C.take j).map V.str)
   %[%[none|rfl],ah.upd hF,aa|rfl] (λj _ _ U r ag=>%[_,V.ref rs[j].1,SqL.of (ag.2.1 _ _ (s1 _ _ L))|by simp[r]]) (λ_ _ U ag=>%[_,SqL.of (ag.2.1 _ _ (s1 _ _ L))|by simp]) ?_ ?_
  .intro j vs z U r %[%[o1|rfl],s5,a2|rfl] x H6 %[e2|hx];subst e2;have al:=hx _ (SqL.of (s5 _ _ (s1 _ _ L)));rw[Zl,Z4 r]at al;obtain rfl:x=V.ref rs[j].1:=(Za al).symm;have jh:j<C.length:=by lia
   lk;refine%[_,SqL.of (s5 _ _ (s1 _ _ (ab _ (Yg r)))),_,(show atI (rs[j].2.map V.str) ((0:Nat):Int)=some (.str C[j])from cj (by rw[Zl,ae j r,Z4 jh];rfl))|?_];refine CK.mk r a2 (by rw[Z6,Yp];exact aA ⋯) %[%[_|rfl],ah.set s5 hF,aa|?_];rw[Xf,Z4 jh,Zd];rfl
  intro vs z U %[_,s5,an|rfl];rw[Zn ⋯]at an;refine k2 _ _ (ap λD3 k3 _=>?_);lk;refine%[#[0]|λo fo=>k3 _ _ (ap λD4 k4 r4=>az λO hK=>?_)];have a3:=s1.trans s5;have s6:=ah.upd (o:= .lst []) fo;have ho:upd U o (.lst []) o=some (.lst []):=aa;have as:=s6 _ _ an;have B:=a3.trans s6
  generalize upd U o (.lst [])=H6 at s6 ho as B ⊢
  lk;refine .inl %[%[_|SqL.of (B _ _ L)]|hK _ _ ?_];refine aZ (xs:=rs.map λt=>V.ref t.1) (λi z G=>(∃(o:Addr) (o4 Y:Option V),z=[!l,!k,!F,!o,o4,Y]/\G o=some (.lst (((rs.take i).flatMap (·.2)).map V.str)))/\ah H6 G) %[%[o,_,_,rfl|ho]|λ_ _ e=>e] (λi z G _ h=>SqL.of (h.2 _ _ (B _ _ L))) ?_ ?_
  .intro i v z G hv %[%[o,o4,Y,rfl|ho]|sm];rw[Zl]at hv;have%[t,M|rfl]:=map_eq_some_iff.mp hv;have I:=Z8 M;have tk:rs.take (i+1)=rs.take i++[t]:=by rw[Xf,M];rfl
   have y:=B.trans sm;have d:=y _ _ (ab t I);have bf:t.2.length<=80:=by
    have:=N (i+1);rw[tk,Y7,Z9,Y8]at this
    lia
   show bd _ _ _ [!l,!k,!F,!o,some (.ref t.1),Y] G;refine ap λD5 k5 r5=>?_
   lk;refine%[_,.lst d,true,rfl|?_];rw[if_neg (by decide)];refine k5 _ _ (ap λD6 k6 r6=>az λO hK=>?_);lk;refine%[t.2.length,.inl %[_,SqL.of d|(Z6 _).symm],⋯,⋯|hK _ _ ?_];rw[Int.toNat_natCast];refine eM (n:=t.2.length) (λj z H2=>(∃Y,z=[!l,!k,!F,!o,some (.ref t.1),Y])/\G=H2) %[%[_|rfl]|rfl] ?_ ?_
   .intro j z _ r %[%[Y|rfl]|rfl];show lh _ _ _ _ [!l,!k,!F,!o,some (.ref t.1),some (.int (0+(j:Int)))] _;refine aB λD7 k7 r7=>?_
    have ai:∀{j:Nat} (h:j<t.2.length),atI (t.2.map V.str) ((j:Nat):Int)=some (.str t.2[j]):=λ{j} h=>cj (by rw[Zl,Z4 h];rfl)
    have gk:∀{x:Str},x∈t.2->cB G k (.str x) (some (.ref (dd x))):=λ{x} hx=>by
     have g:=cB.k (k:=Sum.inr x) (hk.up y).at_;rwa[fY (mem t I x hx)]at g
    lk;refine%[_,SqL.of d,_,ai r,_,gk (Yg r)|?_];rw[if_neg ∅];refine bE (λc=>?_) λ_=>k7 _ _ %[%[_|rfl]|rfl]
    have e:(j:Int) -1=((j-1:Nat):Int):=by lia
    have j1:j-1<t.2.length:=by lia
    have%[R,g,hR,Rl|Rm]:=(hk.up y).in_ _ (mem t I t.2[j-1] (Yg j1));have gr:=cB.k (k:=Sum.inr t.2[j]) hR;rw[fY ((Rm _).mpr (q.st t I (j-1) _ _ (Z4 j1) (by rw[Nat.sub_add_cancel (by have:=Zo c;lia)];exact Z4 r)))]at gr;refine%[_,SqL.of d,_,ai r,_,SqL.of d,_,(e▸ai j1),_,gk (Yg j1),_,rfl,_,gr|?_];rw[if_neg ∅];exact k7 _ _ %[%[_|rfl]|rfl]
   .intro z _ %[%[Y|rfl]|rfl];refine k6 _ _ (aB λD7 k7 _=>?_);lk;refine%[_,ho,_,d,by have:=N i;rw[Z6,Z6,PySem.sizeLine_eq];lia|λp fp=>k7 _ _ %[%[p,_,_,rfl|?_]|sm.trans (ah.upd fp)]];rw[aa,tk,Y7,Y8,Zd]
  .intro z G %[%[o,o4,Y,rfl|ho]|sm];rw[Z6,Zn (Zi _)]at ho;refine k4 _ _ ?_;lk;have y:=B.trans sm;refine%[_,SqL.of ho,by rw[q.pm.length_eq];lia|λp1 z1 f1 e1 a4=>?_];have u1:=ah.upd (o:= .lst (z1.map V.str)) f1;have g1:upd G p1 (.lst (z1.map V.str)) p1=some (.lst (z1.map V.str)):=aa
   generalize upd G p1 (.lst (z1.map V.str))=H7 at u1 g1 ⊢
   refine%[_,(hk.up (y.trans u1)).at_,ns,by unfold VD;rw[Yv];rfl,⋯|λp2 z2 f2 e2 a5=>?_];obtain rfl:z1=z2:=db aO (λ_ _ a b=>cA a b) a4 a5 ((e1.trans q.pm).nodup_iff.mpr nn) (e2.nodup_iff.mpr nn) λx=>by rw[(e1.trans q.pm).mem_iff,e2.mem_iff]
   have u2:=ah.upd (o:= .lst (z1.map V.str)) f2;refine pA (u2 _ _ g1) aa %[true,rfl|?_];rw[if_pos rfl];have aj:=u2 _ _ (u1 _ _ (sm _ _ as));have a0:=y.trans (u1.trans u2)
   generalize upd H7 p2 (.lst (z1.map V.str))=H8 at u2 aj a0 ⊢
   refine%[C,SqL.of aj,⋯|λp3 z3 f3 e3 a6=>?_];obtain rfl:C=z3:=db aO (λ_ _ a b=>cA a b) a1 a6 hn (e3.nodup_iff.mpr hn) λx=>e3.mem_iff.symm
   exact pA (ah.upd f3 _ _ aj) aa (kk _ (a0.trans (ah.upd f3)))
def eC.ne{H:Hp}{cs:List _}{qs:List _}(h:eC H cs qs){a:ZB}(pl:a.Perm (cs.flatMap lyr)):a≠[]:=by
 have%[p|b]:=List.exists_mem_of_length_pos h.p1;have%[r,d,c,e|n]:=(h.ca p b).2.2.some';exact ne_nil_of_mem ((iA pl).mpr %[p,b,c,%[n,r,d|e]|rfl])
def eC.sub{H:Hp}{cs:List _}{qs a:List _}(h:eC H cs qs)(s:∀q∈a,q∈qs)(l:a.length<=20):eC H cs a:=%[h.ca,h.nd,h.p1,h.p3,h.few,h.ly,λb p q c=>h.sa b p q (s q c)|l]
def vc{a b:Type}(f:a->b)(xs:List a)(is:List Nat):is.filterMap ((xs.map f)[·]?)=(is.filterMap (xs[·]?)).map f:=by
 rw[List.map_filterMap];exact congrArg (λg=>List.filterMap g is) (funext λi=>Zl ..)
def B6{a:Type}{xs:List a}{is:List Nat}{q:a}(h:q∈is.filterMap (xs[·]?)):q∈xs:=by
 have%[i,_|e]:=mem_filterMap.mp h;exact Z8 e
def Gh{f:Addr}{fd:FuncData}(F:Fun K "law" "law" jH f fd)(T:Txt K mg):eE P w K mg base CX0 12 f fd ["_law_script"] (pq K):=by
 refine F.ok dQ (by intro a b c d h;have%[_,_,rfl|_]:=h;rfl) (λes A outer s H vs Q E B h=>?_)
 .have%[a,ns,rfl,hs,ho,M|kk]:=h;refine%[_,%["JC~SG];A0BfMK1MK2MK3gCH4~<~=A'+A1BA'+A2BBCNL~VG]<A4B[DItOCH5G~>A4BCH6G~mA4BCNrhG~nA6A5BDItOCH7bcA6BC^8lkd?1P6X0?2q'+A0BCH9~<~=A'+A1BA]=2EBCH:G~mA9BCNZvrhG~nA|:AG~>A9BB$L]>68DItOCUea|:AQBBCSP6K;DUea|;ARBCUea6AQBBCH<G~mA4BDIzG~nA|<A5BzpnbcA|<B7)p~l~F~T4*~QA3B",dQ.nd,(show bM (ao jH) ["_law_script","_law_cuts","_law_sayings","_law_layers","_law_ground_here","_law_known","_law_found","_law_many","_law_copies","_law_fewer","_law_between","_law_row_here","_law_again"] _ ["_law_row_here"] []=true from by decide +kernel),(show(["_law_row_here"]:ZB).Nodup from by decide +kernel)|B]|?_]
  show bd _ _ _ [!a,none,none,none,none,none,none,none,none,none,none,none,none] H;refine ap λD1 k1 _=>?_
  lk;refine%[a,ns,rfl,hs,ho,M|λt l1 l2 l3 H1 cs qs nm s1 d h1 h2 P1 h3 a3=>?_];lk;refine%[_,SqT.of d,rfl,_,_,rfl,_,_,rfl,_,_,rfl,rfl|k1 _ _ (ap λD3 k3 _=>?_)];lk;refine%[_,.inl (SqL.of h1)|λa1 cd=>%[_,.inl (SqL.of (ah.upd cd _ _ h2))|λb1 a4=>?_]];have t1:=ah.upd (o:= .lst (bY cs)) cd;have ga1:upd H1 a1 (.lst (bY cs)) a1=some (.lst (bY cs)):=aa
  generalize upd H1 a1 (.lst (bY cs))=H2 at t1 ga1 a4 ⊢
  have t2:=ah.upd (o:= .lst (qs.map λq=>V.ref q.1)) a4;have a5:upd H2 b1 (.lst (qs.map λq=>V.ref q.1)) b1=some (.lst (qs.map λq=>V.ref q.1)):=aa;have ga2:=t2 _ _ ga1
  generalize upd H2 b1 (.lst (qs.map λq=>V.ref q.1))=H3 at t2 a5 ga2 ⊢
  have a6:=t1.trans t2;refine λg dx fg ae ch=>xH fg ae ga2 a5 (P1.up a6) λH4 ls ts t4 L pl tm=>k3 _ _ (ap λD4 k4 r4=>?_)
  have N:=a6.trans t4;have h1:=N _ _ h1;have h2:=N _ _ h2;have h3:=N _ _ h3;have P4:=P1.up N;have et:=P1.ne pl;clear ga2 a5 a4 t1 t2 a6 ga1 P1 N t4 d hs s1 ho
  generalize H4=H4 at*
  lk;refine%[g,qs,ls,ts,rfl,L|λH5 lk t5 O=>%[λnr=>?_|λr x rx=>by rw[if_pos ∅];exact r4 _ _ (kk H5)]];rw[if_neg ∅];have co:∀m,br (bv qs) (ts.map (·.2)) m->∀x,¬ Rch m x x:=λm h'=>by rw[h'.one O];exact nr
  have L:=L.up t5;refine k4 _ _ (ap λD5 k5 _=>?_);lk;refine%[g,qs,ls,ts,rfl,L|λk H6 m nb dd s6 ct M hk=>k5 _ _ (ap λD6 k6 _=>?_)];obtain rfl:=O.one ct;have a7:nb.length<=80:=by
   have:=STab.nodup_sub M.nd λx hx=>((M.mem x).mp hx).1
   have:=L.ll
   lia
  have NB:∀{bb:ZB},mF (bv qs) ls bb->bb=nb:=λ{bb} h'=>db aO (λ_ _ a b=>cA a b) h'.so M.so h'.nd M.nd λx=>(h'.mem x).trans (M.mem x).symm
  lk;refine%[g,qs,ls,ts,rfl,L.up s6,co|λl H7 eu dX L1 m1 rs s7 dY n1 p1 fl z cx e1=>k6 _ _ (ap λD7 k7 r7=>?_)];obtain rfl:=O.one dY;obtain rfl:=NB n1;have ev:rs.length<=80:=by
   rw[e1];exact Yk (Ym _ _) a7
  lk;refine%[l,k,rs,dX,lk,dd,rfl,z.at_,λt d=>(z.in_ t d).2.2,hk.up s7,a7,M.nd,cx|λH8 s8=>?_];lk;refine k7 _ _ (ap λD8 k8 _=>?_);lk;refine%[rs.length,.inl %[_,SqL.of (s8 _ _ z.at_)|(Z6 _).symm]|k8 _ _ (ap λD9 k9 _=>aI λcy hK=>?_)];lk;refine .inl %[%[_|SqL.of (s8 _ _ z.at_)]|hK _ _ λF hF=>?_];refine bw (J:=Itl K l) (n:=rs.length) (D:=F) (λj vs σ H5=>(∃o1,σ=[o1])/\ah H8 H5/\H5 F=some (.lst vs)/\∃cp:List Addr,vs=cp.map V.ref/\cp.length=j/\∀(i:Nat) (c:Addr) (t:Addr×ZB),cp[i]? =some c->rs[i]? =some t->c≠F/\H5 c=some (.lst (t.2.map V.str)))
   %[%[none|rfl],ah.upd hF,aa,[],rfl,rfl|λi c t h=>(nomatch h)] (λj _ _ H5 hj bc=>%[_,V.ref rs[j].1,SqL.of (bc.2.1 _ _ (s8 _ _ z.at_))|by simp[hj]]) (λ_ _ H5 bc=>%[_,SqL.of (bc.2.1 _ _ (s8 _ _ z.at_))|by simp]) ?_ ?_
  .intro j vs σ H5 hj %[%[o1|rfl],s5,cM,cp,rfl,cl|ag] x H9 %[e2|hx];subst e2;have c0:=hx _ (SqL.of (s5 _ _ (s8 _ _ z.at_)));rw[Zl,Z4 hj]at c0;obtain rfl:x=V.ref rs[j].1:=(Za c0).symm;lk;refine%[_,.inl (SqL.of (s5 _ _ (s8 _ _ (z.in_ _ (Yg hj)).2.2)))|λc fc=>?_];have cF:c≠F:=λe=>by rw[e,cM]at fc;cases fc
   refine CK.mk hj (ah.upd fc _ _ cM) (by rw[Z6,cl];exact aA ⋯) %[%[_|rfl],ah.set (s5.trans (ah.upd fc)) hF,aa,cp++[c],by rw[Zd];rfl,by rw[Z9,cl];rfl|λi c' t hc d=>?_];by_cases il:i<cp.length
   .rw[Ya il]at hc;have%[h1|h2]:=ag i c' t hc d;exact%[h1|(am h1).trans (ah.upd fc _ _ h2)]
   .have:=(Xr hc).1;rw[Z9,Yo]at this;obtain rfl:i=cp.length:=by lia
    rw[Yb (Zi _),Xe]at hc;obtain rfl:c=c':=Za hc;rw[cl,Z4 hj]at d;obtain rfl:=Za d;exact%[cF|(am cF).trans aa]
  intro vs σ H9 %[_,s9,c1,cp,rfl,cl|ag];refine k9 _ _ (ap λew d0 _=>?_);have d1:=s7.trans (s8.trans s9);have bf:=s6.trans d1;have P9:=P4.up (t5.trans bf);lk;refine%[_,.inl (SqL.of ((t5.trans bf) _ _ h1))|λa2 c5=>?_];have u1:=ah.upd (o:= .lst (bY cs)) c5;have ga2:upd H9 a2 (.lst (bY cs)) a2=some (.lst (bY cs)):=aa
  generalize upd H9 a2 (.lst (bY cs))=c7 at u1 ga2 ⊢
  unfold FX;lk;refine%[_,u1 _ _ ((t5.trans bf) _ _ h2)|λb2 is da il=>?_];rw[vc,Z6,Z6]at il;rw[vc];have q2:∀q∈is.filterMap (qs[·]?),q∈qs:=λq hq=>B6 hq
  generalize is.filterMap (qs[·]?)=C at il q2 ⊢
  have u2:=ah.upd (o:= .lst (C.map λq=>V.ref q.1)) da;have bl:upd c7 b2 (.lst (C.map λq=>V.ref q.1)) b2=some (.lst (C.map λq=>V.ref q.1)):=aa;have ga3:=u2 _ _ ga2
  generalize upd c7 b2 (.lst (C.map λq=>V.ref q.1))=ex at u2 bl ga3 ⊢
  have bm:=u1.trans u2;refine λg2 dx fg ae ch=>xH fg ae ga3 bl ((P9.up bm).sub q2 (by have:=P9.q20;lia)) λey de bn u3 ai d2 dk=>d0 _ _ (ap λez d3 _=>?_)
  have bp:=bm.trans u3;clear ga3 ga2 bl bm u1 u2 u3;have dn:∀m,br (bv C) (bn.map (·.2)) m->∀x,¬ Rch m x x:=λm h'=>B5 L q2 tm dk O h' nr
  lk;refine%[g2,C,de,bn,rfl,ai,dn|λl' eH d4 dp L2 m2 aj bt dr n2 p2 d7 al ds e2=>d3 _ _ (ap λe0 ea e3=>?_)];have U:dp.length<=80:=by
   have:=STab.nodup_sub n2.nd λx hx=>((n2.mem x).mp hx).1
   have:=ai.ll
   lia
  lk;refine%[g2,C,de,bn,rfl,ai.up bt|λk2 e5 eq dt eb Y b0 ab dy=>?_];obtain rfl:=dr.one b0;obtain rfl:dt=dp:=db aO (λ_ _ a b=>cA a b) ab.so n2.so ab.nd n2.nd λx=>(ab.mem x).trans (n2.mem x).symm
  refine%[l',k2,aj,dt,d4,eb,rfl,Y _ _ al.at_,λt d=>Y _ _ (al.in_ t d).2.2,dy,U,ab.nd,ds|λdA b3=>?_];have G:=bp.trans (bt.trans (Y.trans b3));lk;have dB:=s9.trans G;have as:=s8.trans dB;refine%[l,F,_,_,rfl,rfl,as _ _ z.at_,G _ _ c1,by rw[Z6,Z6,cl],λj x y hx hy=>?_,false,rfl|?_]
  .rw[Zl]at hx hy;have%[t,d|rfl]:=map_eq_some_iff.mp hx;have%[c,hc|rfl]:=map_eq_some_iff.mp hy;exact .inr %[t.1,c,t.2.map V.str,rfl,rfl,as _ _ (z.in_ t (Z8 d)).2.2,G _ _ (ag j c t hc d).2|by simp[lD]]
  rw[if_neg (by decide)];refine ea _ _ (ap λe6 ec _=>?_);have dK:H9 l'=none:=bp.free d7;have a0:=b3 _ _ (Y _ _ al.at_);have er:aj.length<=80:=by
   rw[e2];exact Yk (Ym _ _) U
  clear ag c1 al ds dy e2 p2 Y b3 bt U ab n2 dr ai dn dk d2 bp q2 il c5 da fg ae ch;lk;refine%[.inl %[_|SqL.of a0],#[0]|λp fp=>?_];refine%[_,ah.upd fp _ _ a0,by rw[Z6];exact aA ⋯|ec _ _ (ap λfa ed _=>az λcy hK=>?_)];have dT:ah H9 (upd (upd dA p (.lst [])) l' (.lst ((aj.map λt=>V.ref t.1) ++[V.ref p]))):=ah.set (G.trans (ah.upd fp)) dK
  generalize upd (upd dA p (.lst [])) l' (.lst ((aj.map λt=>V.ref t.1) ++[V.ref p]))=fb at dT ⊢
  have I:=s8.trans (s9.trans dT);have tl:∀t∈rs,t.2.length<=80:=λt d=>by
   have:=cx.pm.length_eq;have%[x,y|e]:=List.append_of_mem d;rw[e,Y7,List.flatMap_cons,Z9,Z9]at this
   lia
  lk;refine .inl %[%[_|SqL.of (I _ _ z.at_)]|hK _ _ ?_];refine aZ (xs:=rs.map λt=>V.ref t.1) (λi σ H'=>(∃o,σ=[!a,!l1,!l2,!l3,!g,!k,!l,some (.int rs.length),!F,!g2,!l',o,none])/\ah H6 H'/\H' l=some (.lst (rs.map λt=>V.ref t.1))/\∀(j:Nat) (t:Addr×ZB),i<=j->rs[j]? =some t->H' t.1=some (.lst (t.2.map V.str)))
   %[%[_|rfl],s7.trans I,I _ _ z.at_|λj t _ d=>I _ _ (z.in_ t (Z8 d)).2.2] (λi σ H' _ h=>SqL.of h.2.2.1) ?_ ?_
  .intro i v σ H' hv %[%[o|rfl],sm,an|b4];rw[Zl]at hv;have%[t,d|rfl]:=map_eq_some_iff.mp hv;have b5:=Z8 d;show jA _ _ [!a,!l1,!l2,!l3,!g,!k,!l,some (.int rs.length),!F,!g2,!l',some (.ref t.1),none] H';refine aB λeg b6 _=>?_
   lk;have h0:=b4 i t (Zi _) d;refine%[.inl %[_|SqL.of h0],_,h0,by rw[Z6];have:=tl t b5;exact aA ⋯|b6 _ _ %[%[_|rfl],ah.set sm (z.in_ t b5).1,(am (z.in_ t b5).2.1.symm).trans an|λj u hj hu=>?_]];refine(am λe=>?_).trans (b4 j u ⋯ hu);have q1:=Xr d;have q2:=Xr hu;exact pairwise_iff_getElem.mp (nodup_iff_pairwise_ne.mp z.nd) i j (by simpa using q1.1) (by simpa using q2.1) ⋯ (by simp[q1.2,q2.2,e])
  .intro σ H' %[%[o|rfl],sm,an|b4];refine ed _ _ (ap λeg b6 _=>?_);lk;refine%[.inl %[_|SqL.of an],#[0]|λp2 dV=>%[_,ah.upd dV _ _ an,by rw[Z6];exact aA ⋯|b6 _ _ (ap λfe eh _=>?_)]];have b7:ah H6 (upd (upd H' p2 (.lst [])) l (.lst ((rs.map λt=>V.ref t.1) ++[V.ref p2]))):=ah.set (sm.trans (ah.upd dV)) fl
   generalize upd (upd H' p2 (.lst [])) l (.lst ((rs.map λt=>V.ref t.1) ++[V.ref p2]))=ff at b7 ⊢
   lk;refine%[g,qs,ls,ts,rfl,L.up (s6.trans b7),co|λl4 fk fm ej L4 m4 b9 ek el n4 p4 fn ca en e4=>eh _ _ ?_];obtain rfl:=O.one el;obtain rfl:=NB n4;have ac:=b7.trans ek;have r4:b9.length=rs.length:=by
    rw[e1,e4];exact Nat.le_antisymm (p4.size M.nd p1) (p1.size M.nd p4)
   lk;refine%[l4,k,b9,ej,lk,dd,rfl,ca.at_,λt d=>(ca.in_ t d).2.2,hk.up ac,a7,M.nd,en|λfo cb=>?_];lk;refine%[b9.length,.inl %[_,SqL.of (cb _ _ ca.at_)|(Z6 _).symm]|?_];rw[r4,if_pos ∅];have%[c2,c3,c4|gf]:=(L.up (s6.trans (ac.trans cb))).gr;refine lP gf (.inl rfl) %[g,c2,c3,c4,qs,ls,ts,rfl,gf|λl5 eo=>%[nm,SqL.of (ah.upd eo _ _ ((t5.trans (s6.trans (ac.trans cb))) _ _ h3)),by rw[a3.length_eq];have:=P4.ly;lia|λl6 ss ep pe so=>?_]];obtain rfl:ls=ss:=db aO (λ_ _ a b=>cA a b) L.so so L.nd ((pe.trans (a3.trans pl.symm)).nodup_iff.mpr L.nd) λx=>(pe.trans (a3.trans pl.symm)).mem_iff.symm
   exact pA (ah.upd ep _ _ aa) aa (kk _)
end
abbrev dfm:= @Fk
abbrev gvm:= @GM
def all_mk{l:PySem.W.OpenLaw}{w:World}{K:ZA}{h:Heap}{mg:ZC}{fa af:Addr}(X:K.In h)(G:h.Ns mainGlobals mg)(hfa:mg "law"=some (.ref fa))
 {bc ap:ZI} {bd:ZK} {be aq ar au ag av:Value}
 (F:Txc K mg->Txt K mg)
 (bf:nsIn K mainGlobals "law"=some (some (.ref af))) (bg:K.lookup af=some %[be,bc,.func (fnOf "law" "law" (cX jH) (bZ jH) (ao jH) .none aq ar au ap ag av)|bd]) (bh:codeIn K ag "law"=true) (bi:keepIn K (.ref af)=true)
 {aa:Addr}
 (aw:nsIn K mainGlobals "Ground"=some (some (.ref aa)))
 (bj:plainGet K aa Str.empty=true)
 (bk:hasDictIn K aa=true)
 (bl:plainOver K aa=true)
 (bm:findIn K (.ref aa) "__setattr__"=some (some (.builtin "object.__setattr__")))
 (bn:findIn K (.ref aa) "kept_cuts"=some none)
 (bo:findIn K (.ref aa) "kept_sayings"=some none)
 (bp:findIn K (.ref aa) "kept_layers"=some none)
 (bq:findIn K (.ref aa) "kept_ties"=some none)
 {ab:Addr} {br bs:ZI} {bt:ZK} {bu bv bw bx ax bz:Value}
 (b0:findIn K (.ref aa) "__init__"=some (some (.ref ab)))
 (ay:K.lookup ab=some %[bu,br,.func (fnOf "__init__" "Ground.__init__" (cX bS) (bZ bS) (ao bS) .none bv bw bx bs ax bz)|bt])
 (az:codeIn K ax "Ground.__init__"=true)
 (a0:keepIn K (.ref ab)=true)
 (b1:isFn K (.ref ab)=true)
 (b2:makesIn K aa=true)
 (b3:keepIn K (.ref aa)=true)
 {ac:Addr} {b4 b5:ZI} {b6:ZK} {b7 b8 b9 ca a1 cb:Value}
 (cc:findIn K (.ref aa) "sayings"=some (some (.ref ac)))
 (a2:K.lookup ac=some %[b7,b4,.func (fnOf "sayings" "Ground.sayings" (cX cf) (bZ cf) (ao cf) .none b8 b9 ca b5 a1 cb)|b6])
 (a3:codeIn K a1 "Ground.sayings"=true)
 (ah:keepIn K (.ref ac)=true)
 (cd:isFn K (.ref ac)=true)
 {ad:Addr} {ce cg:ZI} {ch:ZK} {ci cj ck cl a4 cm:Value}
 (cn:findIn K (.ref aa) "layers"=some (some (.ref ad)))
 (a5:K.lookup ad=some %[ci,ce,.func (fnOf "layers" "Ground.layers" (cX cu) (bZ cu) (ao cu) .none cj ck cl cg a4 cm)|ch])
 (a6:codeIn K a4 "Ground.layers"=true)
 (ai:keepIn K (.ref ad)=true)
 (co:isFn K (.ref ad)=true)
 {ae:Addr} {cp cq:ZI} {cr:ZK} {cs ct cv cw a7 cx:Value}
 (cy:findIn K (.ref aa) "ties"=some (some (.ref ae)))
 (a8:K.lookup ae=some %[cs,cp,.func (fnOf "ties" "Ground.ties" (cX cV) (bZ cV) (ao cV) .none ct cv cw cq a7 cx)|cr])
 (a9:codeIn K a7 "Ground.ties"=true)
 (aj:keepIn K (.ref ae)=true)
 (cz:isFn K (.ref ae)=true)
 {ba:Addr} {ak:Obj} {al:ZJ} {c0:Nat}
 (c1:nsIn K mainGlobals "YEAR_WORDS"=some (some (.ref ba)))
 (c2:K.lookup ba=some ak)
 (c3:ak.cls= .type "tuple")
 (c4:ak.data= .seq al c0)
 (c5:al.size<=sizeLine)
 (c6:aE [.str "since",.str "by"] al.toList)
 {bb:Addr} {am:Obj} {an:ZJ} {c7:Nat}
 (c8:nsIn K mainGlobals "LAYER_WORDS"=some (some (.ref bb)))
 (c9:K.lookup bb=some am)
 (da:am.cls= .type "tuple")
 (db:am.data= .seq an c7)
 (dc:an.size<=sizeLine)
 (dd:aE [.str "later",.str "same"] an.toList)
 :∃fd:FuncData,(∀(s:Shared) (v:Value),BindsTo s fd %[[v]|[]] [("_law_script",v)])/\∀base:Heap,K.In base->base.Ns mainGlobals mg->eE l.prog w K mg base CX0 12 fa fd ["_law_script"] (pq K):=by
 have e:=hfa.symm.trans (mg_of X G bf);cases e;have de:=C4 (mg_of X G aw);subst de;have T:Txt K mg:=F %[%[mg_of X G aw,bj,bk,bl|bm],
  bn,
  bo,
  bp,
  bq,
  %[ab,_,%[b2,b0,b1|b3],eW ay az a0|(eW ay az a0).binds (by room)],
  %[ac,_,%[cc,cd|ah],eW a2 a3 ah|(eW a2 a3 ah).binds (by room)],
  %[ad,_,%[cn,co|ai],eW a5 a6 ai|(eW a5 a6 ai).binds (by room)],
  %[ae,_,%[cy,cz|aj],eW a8 a9 aj|(eW a8 a9 aj).binds (by room)],
  Bc X G c1 c2 c3 c4 c5 c6|
  Bc X G c8 c9 da db dc dd]
 exact%[fnOf "law" "law" (cX jH) (bZ jH) (ao jH) .none aq ar au ap ag av,λs v=> .of_eq rfl|λbase _ _=>Gh (eW (st:=jH) bg bh bi) T]
def walk{l:PySem.W.OpenLaw}{q:Program}{b:ZB}{j:(Str->Option Value)->Heap->Prop}{e:World->Heap->Prop}{d:DefRec}{K:Params->ZA}(m:l.most=some 63)(c:d.params.defaults=[])
 (o:∀(w:World) (h:Heap),e w h->(K w.params).In h)
 (F:∀(w:World) (mg:ZC) (g:Addr) (h:Heap),(K w.params).In h->h.Ns mainGlobals mg->mg d.name=some (.ref g)->
  ∃i:FuncData,(∀(s:Shared) (u:Value),BindsTo s i %[[u]|[]] [("_law_script",u)])/\∀base:Heap,(K w.params).In base->base.Ns mainGlobals mg->eE l.prog w (K w.params) mg base CX0 12 g i ["_law_script"] (pq (K w.params))):
 PySem.W.WalkO q b j e l.row.toRowW d [] (λf vs=>PySem.call f vs):=
 L2.walk_of (n:=63) (k:=12) (x:="_law_script") (CX:=λ_=>CX0) (sp:=λw=>pq (K w.params)) m (by decide) c %[rfl,by decide,by decide|rfl] o F (λ_ _ a ns p r t=>%[a,ns,rfl,t,r,p|λ_=>rfl]) λ_ _ _ _ _ z=>z
end K61
end
open PySem PySem.W PyProof.Rows
set_option maxRecDepth 100000 in
theorem PySem.Challenge.cw_digbook_k61_rows_told_holds : PySem.Challenge.rw_digbook_k61_rows_told.Holds := by
 w_on;o_law;k_head;(case hw=>w_witness2)
 k_fill
 refine K61.walk (l:=PySem.Challenge.rw_digbook_k61_rows_told) rfl rfl (λw h Y=>PySem.W.kIn_of Y) ?F
 case F=>
  intro w mg fa h KX G hmg;apply K61.all_mk KX G hmg
  (case F=>
   intro C
   constructor
   exact C
   all_goals first|exact PySem.W.mg_none_of KX G (by k_is)|(refine' K61.gvm KX G ?z ?r;(case z=>k_is);(case r=>exact⟨_,rfl⟩))|(refine' K61.dfm KX G ?a ?l ?c ?k ?b;(case a=>k_is);(case l=>k_is);(case c=>k_is);(case k=>k_is);(case b=>intro _ _ _ _ _ _;(repeat(refine K61.zq1 λ_=>?_));exact K61.zq0 rfl)))
  any_goals first|k_is|rfl|decide|exact .cons ⟨_,rfl⟩ (.cons ⟨_,rfl⟩ (.nil))
